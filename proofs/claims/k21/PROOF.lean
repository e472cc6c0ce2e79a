import PyProof.Rows.All
import Wide.All
import OpenK.AllK
import Wide.FinOn
import Lean
import PyProof.EqAt
import PyProof.EqKinds
import PyProof.TupleCall
import KE.KRevIter
import KE.KItemsList
import PySem.Challenge.RW_timecourt_k21_read_along
set_option linter.all false
def fD:=@PySem.wpAny_bind
def fE:=@Nat.le_refl
def fF:=@List.length_map
def fG:=@List.getElem?_eq_getElem
def fI:=@PySem.wpAny_pure
def fJ:=@PySem.sizeLine_eq
def fK:=@List.length_append
def fL:=@List.getElem?_map
def fM:=@PySem.Heap.get?_push_of_some
def fN:=@PySem.Heap.lt_size
def fO:=@List.getElem?_eq_some_iff
def fP:=@Nat.ne_of_lt
def fQ:=@List.mem_cons
def fR:=@List.mem_append
def fS:=@congrArg
def fT:=@Ne.symm
def fU:=@Nat.le_trans
def fV:=@List.size_toArray
def fW:=@List.mem_singleton
def fX:=@List.getElem_mem
def fY:=@Option.some.inj
def fZ:=@List.map_cons
def gb:=@List.map_append
def ge:=@PySem.Heap.get?_push_size
def gf:=@List.mem_cons_of_mem
def gi:=@of_decide_eq_true
def gj:=@List.mem_of_getElem?
def gk:=@Bool.false_ne_true
def gm:=@List.getElem?_append_left
def gn:=@List.mem_map
def gp:=@List.length_range
def gu:=@List.length_take
def gv:=@Bool.and_eq_true
def gw:=@Int.toNat_natCast
def gy:=@List.getElem?_append_right
def gz:=@List.mem_append_right
def gA:=@Nat.lt_of_lt_of_le
def gB:=@Nat.zero_le
def gC:=@List.lookup_cons
def gG:=@List.length_singleton
def gH:=@List.length_cons
def gI:=@List.getElem_of_mem
def gJ:=@PySem.PassesOwn.never
def gK:=@PySem.F.plainAttrs_list
def gN:=@PySem.mem_of_lookup
def gO:=@decide_eq_true
def gQ:=@Nat.ne_of_gt
def gS:=@List.map_map
def gT:=@List.length_eq_zero_iff
def gU:=@if_false
def gW:=@PySem.F.slot_list_append
def gX:=@PySem.F.type_list_append
def gY:=@decide_eq_false
def gZ:=@List.getElem?_eq_none
def g0:=@Nat.sub_self
def g6:=@List.not_mem_nil
def g7:=@or_false
def g8:=@List.mem_append_left
def g9:=@List.all_eq_true
def hE:=@PySem.F.called_set
def hU:=@PySem.wpAny_holding
def hV:=@Bool.false_eq_true
def h9:=@PySem.W.mg_none_of
def ia:=@if_true
def ib:=@PySem.wpAny_field
def ie:=@List.length_drop
def ig:=@PySem.wpAny_newObj_type
def ii:=@Nat.lt_of_le_of_lt
def ij:=@PySem.W.mg_of
def ik:=@PySem.wpAny_mono
def im:=@Array.length_toList
def io:=@PySem.wpAny_call_entry
def ip:=@Nat.le_of_lt
def iq:=@PySem.Heap.size_push
def ir:=@PySem.W.kia_one
def iu:=@PySem.Heap.get?_update_other
def iw:=@PySem.wpAny_setState_of
def iy:=@Nat.lt_irrefl
def iz:=@List.mem_cons_self
def iA:=@PySem.wpAny_truthy_bool
def iB:=@List.append_nil
def iC:=@List.nodup_cons
def iD:=@PySem.codeAny_builtin
def iE:=@List.length_reverse
def iF:=@Option.map_eq_some_iff
def iG:=@List.nodup_nil
def iH:=@List.mem_flatten
def iI:=@PySem.Heap.get?_update_self
def iJ:=@List.length_zip
def iK:=@List.getElem_map
def iL:=@Nat.mul_add
def iM:=@Bool.false_and
def iN:=@Nat.le_succ
def iO:=@List.append_assoc
def iP:=@List.take_length
def iQ:=@List.cons.inj
def iR:=@List.length_pos_iff
def iS:=@Bool.false_or
def iT:=@List.map_take
def iU:=@List.getElem_inj
def iW:=@PySem.wpAny_Call_Name_kw
def iX:=@PySem.Around.under_plainId
def iY:=@PySem.plainId_quiet
def iZ:=@Nat.lt_succ_of_lt
def i0:=@List.ext_getElem?
def i5:=@Bool.true_and
def i6:=@List.getD_eq_getElem?_getD
def i7:=@List.getElem?_range
def i8:=@beq_eq_false_iff_ne
def i9:=@List.mem_filter
def lg:=@Bool.eq_iff_iff
def lh:=@beq_iff_eq
def li:=@Nat.lt_succ_self
def lv:=@PySem.codeAny_mono
def lA:=@List.of_mem_zip
def lC:=@PySem.wpAny_callSpecial?_slot
def lD:=@List.flatten_cons
def lE:=@Array.getElem?_toList
def lG:=@List.getElem?_zip_eq_some
def lH:=@PySem.wpAny_standAt
def lI:=@List.nodup_append
def lJ:=@PySem.wpAny_updateSeq
def lK:=@List.find?_cons
def lN:=@PySem.Obj.data_mapFields
def lO:=@List.take_succ
def lQ:=@List.mem_range
def lS:=@PySem.wpAny_passesOwn
def lT:=@List.all_cons
def lU:=@PySem.call_meets
def lV:=@List.nil_append
def lW:=@List.filter_cons_of_pos
def lX:=@List.filter_cons_of_neg
def lY:=@PyProof.Rows.F.plain_set_update_loop
def lZ:=@decide_eq_true_iff
def l3:=@PySem.wpAny_rule
def l6:=@List.mem_map_of_mem
def l7:=@Nat.zero_add
def l8:=@Int.emod_nonneg
def l9:=@Int.emod_lt_of_pos
def me:=@List.length_filter_le
def mf:=@Nat.le_add_right
def mh:=@of_decide_eq_false
def mi:=@Nat.mul_le_mul_left
def mj:=@Nat.one_le_pow
def ml:=@Nat.add_assoc
def mn:=@PySem.Paired.length
def mo:=@PyProof.Rows.callWith_type1
def mq:=@List.any_cons
def mr:=@List.reverse_cons
def mv:=@List.replicate_succ
def mw:=@List.map_congr_left
def my:=@decide_eq_decide
def mz:=@Int.eq_ofNat_of_zero_le
def mB:=@Nat.le_of_succ_le
def mC:=@PySem.wpAny_seqItems
def mD:=@Bool.true_or
def mE:=@PySem.tupleKind_room_in1
def mF:=@PySem.wpAny_attempt
def mG:=@PySem.wpAny_setField
def mH:=@List.filter_append
def mI:=@PySem.F.plain_extend_loop
def mJ:=@List.mem_iff_getElem?
def mK:=@getElem?_pos
def mL:=@Nat.pow_succ
def mM:=@List.getElem?_take_of_lt
def mN:=@List.mem_reverse
def mO:=@Bool.or_eq_true
def mP:=@Nat.min_eq_left
def mQ:=@List.take_of_length_le
def mR:=@PySem.wpAny_specialOf
def mS:=@List.getElem?_reverse
def mT:=@List.cons_append
def mU:=@List.flatten_append
def mV:=@List.pairwise_iff_getElem
def mW:=@List.getElem?_drop
def mX:=@PySem.typeLookup_type
def mY:=@PySem.builtinLookup_eq_fast
def mZ:=@PySem.wpAny_askSetting
def m5:=@PySem.Heap.size_update
def m6:=@List.eq_nil_of_length_eq_zero
def m7:=@List.getElem_zip
def m9:=@List.map_drop
def na:=@PySem.Str.length_append
def ng:=@List.filterMap_cons
def nh:=@PySem.wpAny_pyIter_list
def ni:=@PySem.W.callWith_K
def nj:=@Option.isSome_iff_exists
def nk:=@Nat.min_le_right
def nr:=@List.length_dropLast
def nt:=@PyProof.Rows.F.entry_set_update_loop
def nv:=@decide_eq_false_iff_not
def nz:=@decide_eq_true_eq
def nB:=@Option.map_some
def nC:=@List.getElem_take
def nE:=@Array.getElem?_eq_none
def nF:=@List.countP_cons
def nG:=@Array.toList_push
def nH:=@PySem.Obj.isFreed_of_fields
def nI:=@Nat.pos_of_ne_zero
def nJ:=@PySem.F.slot_zip_next
def nM:=@Array.mem_of_getElem?
def nN:=@List.mem_of_mem_take
def nO:=@Nat.pow_le_pow_right
def nQ:=@List.getElem?_set_self
def nU:=@List.getElem?_set_ne
def nV:=@PySem.W.methodCall_KW
def nW:=@PyProof.Rows.slot_tuple_getitem
def nX:=@Array.getElem?_eq_getElem
def nY:=@List.dropLast_concat_getLast
def nZ:=@PySem.F.slot_dict_get
def og:=@List.length_pos_of_mem
def oh:=@List.take_append_drop
def oi:=@Nat.mul_le_mul_right
def oq:=@PyProof.Rows.Boot.«list»
def ou:=@PyProof.Rows.Boot.«isinstance»
def ox:=@PyProof.Rows.Boot.«len»
def oy:=@PyProof.Rows.Boot.«all»
def oz:=@PyProof.Rows.Boot.«tuple»
def oA:=@PyProof.Rows.Boot.«set»
def oB:=@PyProof.Rows.Boot.«sorted»
def oC:=@PyProof.Rows.Boot.«range»
set_option Elab.async false
set_option linter.all false
set_option maxRecDepth 100000
variable{K:_root_.PySem.W.Frag}{mg mA:PySem.Str->Option PySem.Value}{P prog q:PySem.Program}{w:PySem.World}{base h h' h1:PySem.Heap}{n i t' j ep slot nn_LENGTHS:Nat}{Q E QV Q₁:PySem.Value->PySem.Shared->Prop}{db pins':List (PySem.Addr×PySem.Obj)}{s s':PySem.Shared}{α β κ:Type}{pos pos' pos2 p2:PySem.Pos}{A:PySem.Around}{f:Nat->Bool}{scope sc:PySem.Scope}{D C p sl S I dx i1 i2 l1 l2 fa D_LENGTHS:PySem.Addr}{u acc it vl:PySem.Value}{env:PySem.Env}{ifs:List PySem.Expr}{e tg iter elt target:PySem.Expr}{R:PySem.Result->PySem.Shared->Prop}{us its vals:List PySem.Value}{XP:(PySem.Str->Option PySem.Value)->PySem.Heap->Prop}{ix:List (Option Nat)}{es:Array (Int×PySem.Value)}{L:List Bool}{fp ch:List PySem.Addr}{items ys:Array PySem.Value}{ring ns way rs:List Int}{use:Option (PySem.Value->PySem.Sem Unit)}{is:List Nat}{fd:PySem.FuncData}{N loose Nc:List PySem.Str}{YP:PySem.World->PySem.Heap->Prop}{pl:PySem.Sem Bool}{kw:List (PySem.Str×PySem.Value)}{cl:List (PySem.Str×PySem.Addr)}{qual z:PySem.Str}{M:PySem.Model}{l:_root_.PySem.W.OpenLaw}{SI:PySem.Heap->List PySem.Value->Prop}{osl:Array (Option PySem.Value)}{T:String}{body:List PySem.Stmt}{Pm:PySem.Params}{op:PySem.CmpOp}{B:Prop}{g':Array PySem.GenState}{outer:List PySem.Env}{sls:Nat->Nat}{run:Nat->Int}{tk:PySem.Tok}{es_LENGTHS es_LINES:Array PySem.DictEntry}{sg:List (PySem.Addr×List PySem.Str)}{wy:List (PySem.Addr×List Int)}{bd:PySem.Addr->PySem.Env->PySem.Sem Unit}{Q':α->PySem.Shared->Prop}{d':PySem.Drawn}{an od:Option PySem.Addr}{ob oa:PySem.Obj}{params:PySem.Arguments}{lo hi:Option Int}{args:List _root_.PySem.W.WData}{place:Array Nat}
namespace L2
open PySem PySem.Spec PyProof.Rows
abbrev Key:=Sum Int Str
def UG:Key->Value->Bool
 |.inl k,v=>Value.isInt k v
 |.inr x,v=>Value.isStrOf x v
def keyH(w:World):Key->Int
 |.inl k=>hashInt k
 |.inr x=>hashStr w x
def Yk:∀{k:Key}{v:Value},UG k v=true->(∃i t,k=Sum.inl i/\v=Value.int i t)\/(∃x t,k=Sum.inr x/\v=Value.str x t)
 |.inl i,v,h=>by
  obtain⟨t,e⟩:=Value.isInt_shape (k:=i) (v:=v) h;exact .inl ⟨i,t,rfl,e⟩
 |.inr x,v,h=>by
  obtain⟨t,e⟩:=Value.isStrOf_shape (x:=x) (v:=v) h;exact .inr ⟨x,t,rfl,e⟩
def VJ(i:Int)(t:Tok):UG (.inl i) (.int i t)=true:=by simp[UG,Value.isInt]
def jf(x:Str)(t:Tok):UG (.inr x) (.str x t)=true:=by simp[UG,Value.isStrOf]
def key_ll(a b:Int):decide ((Sum.inl a:Key)=Sum.inl b)=(a==b):=by
 by_cases e:a=b
 ·subst e;simp
 ·have h:¬(Sum.inl a:Key)=Sum.inl b:=fun q=>e (Sum.inl.inj q);rw[gY h];exact(i8.mpr e).symm
def key_rr(a b:Str):decide ((Sum.inr a:Key)=Sum.inr b)=decide (a=b):=by
 by_cases e:a=b
 ·subst e;simp
 ·have h:¬(Sum.inr a:Key)=Sum.inr b:=fun q=>e (Sum.inr.inj q);rw[gY h,gY e]
def key_lr(a:Int)(b:Str):decide ((Sum.inl a:Key)=Sum.inr b)=false:=gY (fun q=>nomatch q)
def key_rl(a:Str)(b:Int):decide ((Sum.inr a:Key)=Sum.inl b)=false:=gY (fun q=>nomatch q)
def ZB(prog:Program)(w:World):PySem.KeyKind prog w Key where
 is:=UG
 hash:=keyH w
 inj:=fun v a b ha hb=>by
  rcases Yk ha with⟨i,t,rfl,rfl⟩|⟨x,t,rfl,rfl⟩
  ·rcases Yk hb with⟨j,u,rfl,e⟩|⟨y,u,rfl,e⟩
   ·injection e with e1 _;rw[e1]
   ·exact nomatch e
  ·rcases Yk hb with⟨j,u,rfl,e⟩|⟨y,u,rfl,e⟩
   ·exact nomatch e
   ·injection e with e1 _;rw[e1]
 byValue:=fun k v h=>by
  rcases Yk h with⟨i,t,rfl,rfl⟩|⟨x,t,rfl,rfl⟩<;>rfl
 pyHash:=fun hv h=>by
  rcases Yk hv with⟨i,t,rfl,rfl⟩|⟨x,t,rfl,rfl⟩
  ·exact wpAny_pyHash_int h
  ·exact wpAny_pyHash_str h
 eqBool:=fun hu hv h=>by
  rcases Yk hu with⟨i,t,rfl,rfl⟩|⟨x,t,rfl,rfl⟩
  ·rcases Yk hv with⟨j,u,rfl,rfl⟩|⟨y,u,rfl,rfl⟩
   ·rw[key_ll] at h;exact wpAny_eqBool_int h
   ·rw[key_lr] at h;exact SeqAt.EqAt.int_str i t y u _ _ _ _ h
  ·rcases Yk hv with⟨j,u,rfl,rfl⟩|⟨y,u,rfl,rfl⟩
   ·rw[key_rl] at h;exact SeqAt.EqAt.str_int x t j u _ _ _ _ h
   ·rw[key_rr] at h;exact wpAny_eqBool_str h
 «strs» := fun k x t v h=>by
  rcases Yk h with⟨i,u,rfl,e⟩|⟨y,u,rfl,e⟩
  ·exact nomatch e
  ·injection e with e1 _;subst e1;cases v<;>rfl
def k9(prog:Program)(w:World)(i:Int)(t:Tok):(ZB prog w).is (.inl i) (.int i t)=true:=VJ i t
def kM(prog:Program)(w:World)(x:Str)(t:Tok):(ZB prog w).is (.inr x) (.str x t)=true:=jf x t
end L2
variable{xs:List (List L2.Key×PySem.Addr×PySem.Value)}{rks:List (List L2.Key)}
namespace L2
open PySem PySem.Spec PyProof.Rows
inductive V where
 |non|bl (b:Bool)|int (i:Int)|str (x:Str)|byt (b:Array UInt8)|flt (b:UInt64)|ref (a:Addr)|ty (n:String)
 deriving DecidableEq
def ZU:V->Value->Prop
 |.non,u=>u=Value.none
 |.bl b,u=>u=Value.bool b
 |.int i,u=>∃t,u=Value.int i t
 |.str x,u=>∃t,u=Value.str x t
 |.byt b,u=>∃t,u=Value.bytes b t
 |.flt b,u=>∃t,u=Value.float b t
 |.ref a,u=>u=Value.ref a
 |.ty n,u=>u=Value.type n
abbrev ZK:List V->List Value->Prop:=Paired ZU
def ZK.length{xs:List V}{us:List Value}(r:ZK xs us):xs.length=us.length:=mn r
def ZK.get:∀{xs:List V}{us:List Value}{i:Nat}{x:V},ZK xs us->xs[i]?=some x->∃u,us[i]?=some u/\ZU x u
 |_,_,_,_,.nil,e=>by simp at e
 |_,_,0,_,.cons r _,e=>by simp at e;subst e;exact⟨_,rfl,r⟩
 |_,_,i+1,x,.cons _ t,e=>by
  obtain⟨u,h1,h2⟩:=ZK.get (i:=i) (x:=x) t (by simpa using e);exact⟨u,by simpa using h1,h2⟩
def ZK.set{x:V}{u:Value}(r:ZU x u):∀{xs:List V}{us:List Value} (i:Nat),ZK xs us->ZK (xs.set i x) (us.set i u)
 |_,_,_,.nil=>.nil
 |_,_,0,.cons _ t=>.cons r t
 |_,_,i+1,.cons q t=>.cons q (ZK.set r i t)
def ZK.append:∀{xs ys:List V}{us ws:List Value},ZK xs us->ZK ys ws->ZK (xs++ys) (us++ws)
 |_,_,_,_,.nil,s=>s
 |_,_,_,_,.cons r t,s=>.cons r (ZK.append t s)
def ZK.take:∀{xs:List V}{us:List Value} (n:Nat),ZK xs us->ZK (xs.take n) (us.take n)
 |_,_,0,_=>.nil
 |_,_,_+1,.nil=>.nil
 |_,_,n+1,.cons r t=>.cons r (ZK.take n t)
def ZK.drop:∀{xs:List V}{us:List Value} (n:Nat),ZK xs us->ZK (xs.drop n) (us.drop n)
 |_,_,0,r=>r
 |_,_,_+1,.nil=>.nil
 |_,_,n+1,.cons _ t=>ZK.drop n t
def VH:Option V->Option Value->Prop
 |some v,some u=>ZU v u
 |none,none=>True
 |_,_=>False
def KV:List (κ×V)->List (κ×Value)->Prop:=Paired fun(p:κ×V) (q:κ×Value)=>p.1=q.1/\ZU p.2 q.2
def kV:Key->V
 |.inl i=>.int i
 |.inr x=>.str x
inductive HO where
 |lst (xs:List V)
 |tup (xs:List V)
 |dK (kvs:List (Key×V))|dT (kvs:List (List Key×V))
 |set (S:Int->Bool) (n:Nat)
 |ins (C dx:Addr) (fs:List (Str×V))
 |own (x:Addr)
 |xd (fs:List (Str×V))
 |met (f x:Addr)
 |rng (lo hi:Int)
 |frz (o:Obj) (u:HO)
 |tbl (ps:Array Value)
 |ext (φ:Heap->Prop)
abbrev Hp:=Addr->Option HO
def upd(H:Hp)(a:Addr)(o:HO):Hp:=fun b=>if b=a then some o else H b
def Zd{H:Hp}{a:Addr}{o:HO}:upd H a o a=some o:=by unfold upd;rw[if_pos rfl]
def Zx{H:Hp}{a b:Addr}{o:HO}(h:b≠a):upd H a o b=H b:=by unfold upd;rw[if_neg h]
def Vk{H:Hp}{a b:Addr}{o u:HO}(h:H a=some o)(h':H b=some u)(d:o≠u):a≠b:=by
 intro e;subst e;rw[h] at h';exact d (fY h')
def ZT{H:Hp}{a b:Addr}{o:HO}(h:H a=some o)(h':H b=none):a≠b:=by
 intro e;subst e;rw[h] at h';cases h'
section
variable(P:Program)(w:World)
def Yw(H:Hp)(h:Heap)(a:Addr):HO->Prop
 |.lst xs=>xs.length<=sizeLine/\∃(its:List Value) (n:Nat),ZK xs its/\h.get? a=some { cls:=.type "list",data:=.seq its.toArray n }
 |.tup xs=>xs.length<=sizeLine/\∃its:List Value,ZK xs its/\IsTup h a its.toArray
 |.dK kvs=>kvs.length<=sizeLine/\(a==sysModules)=false/\∃vs,KV kvs vs/\h.DictOf (ZB P w) a vs
 |.dT kvs=>kvs.length<=sizeLine/\(a==sysModules)=false/\∃xs:List (List Key×Addr×Value),
   Paired (fun(p:List Key×V) (q:List Key×Addr×Value)=>p.1=q.1/\H q.2.1=some (.tup (p.1.map kV))/\ZU p.2 q.2.2) kvs xs /\
   ∃o es ep,h.get? a=some o/\o.ExactDict/\o.data=.dict es ep/\es.toList=xs.map (entryOfKey (tupleKind (ZB P w)))/\(xs.map (·.1)).Nodup
 |.set S n=>h.SetOf (intKind P w) a S n
 |.ins C dx fs=>H dx=some (.own a)/\fs.length<=1000/\dx≠a/\h.get? a=some (W.instObj C dx) /\
   ∃mA,h.Ns1 dx mA/\(∀f,VH (fs.lookup f) (mA f))/\PySem.Within mA (fs.map (·.1))
 |.own _=>∃o,h.get? a=some o
 |.xd fs=>∃mA,h.Ns1 a mA/\∀f,VH (fs.lookup f) (mA f)
 |.rng lo hi=>∃t u v,h.get? a=some { cls:=.type "range",data:=.fields #[.int lo t,.int hi u,.int 1 v] }
 |.frz o u=>h.get? a=some o/\Yw H h a u
 |.tbl ps=>h.get? a=some { cls:=.none,data:=.fields ps }
 |.met f x=>h.get? a=some (W.methodObj (.ref f) (.ref x))
 |.ext φ=>φ h/\(∃o,h.get? a=some o)/\∀h1 h2:Heap,φ h1->(∀o,h1.get? a=some o->h2.get? a=some o)->φ h2
def HOk(H:Hp)(h:Heap):Prop:=∀a o,H a=some o->Yw P w H h a o
end
section
variable{P:Program}{w:World}{H H':Hp}{h h':Heap}{a:Addr}{o:HO}
def Yw.lt(x:Yw P w H h a o):a<h.objs.size:=by
 cases o with
 |lst xs=>obtain⟨_,_,_,_,e⟩:=x;exact fN e
 |tup xs=>obtain⟨_,_,_,p⟩:=x;exact p.lt
 |dK kvs=>obtain⟨_,_,_,_,o,_,_,e,_⟩:=x;exact fN e
 |dT kvs=>obtain⟨_,_,_,_,o,_,_,e,_⟩:=x;exact fN e
 |set S n=>obtain⟨o,_,_,_,e,_⟩:=x;exact fN e
 |ins C dx fs=>obtain⟨_,_,_,e,_⟩:=x;exact fN e
 |own y=>obtain⟨_,e⟩:=x;exact fN e
 |xd fs=>obtain⟨_,⟨_,_,_,e,_⟩,_⟩:=x;exact fN e
 |rng lo hi=>obtain⟨_,_,_,e⟩:=x;exact fN e
 |frz ob u=>obtain⟨e,_⟩:=x;exact fN e
 |tbl ps=>exact fN (show h.get? a=some _ from x)
 |met f y=>exact fN (show h.get? a=some _ from x)
 |ext φ=>obtain⟨_,⟨_,e⟩,_⟩:=x;exact fN e
def Paired.mapP{α β:Type}{F G:α->β->Prop}:∀{l₁:List α}{l₂:List β},Paired F l₁ l₂->(∀a b,F a b->G a b)->Paired G l₁ l₂
 |_,_,.nil,_=>.nil
 |_,_,.cons r t,f=>.cons (f _ _ r) (Paired.mapP t f)
def Yw.stay(x:Yw P w H h a o)(k:∀b u,(b=a\/H b=some (.own a))->h.get? b=some u->h'.get? b=some u)
  (ho:∀b,H b=some (.own a)->H' b=some (.own a)) (ht:∀b xs,H b=some (.tup xs)->H' b=some (.tup xs)):Yw P w H' h' a o:=by
 induction o with
 |lst xs=>obtain⟨z,its,n,r,e⟩:=x;exact⟨z,its,n,r,k _ _ (.inl rfl) e⟩
 |tup xs=>obtain⟨z,its,r,ob,e,c⟩:=x;exact⟨z,its,r,ob,k _ _ (.inl rfl) e,c⟩
 |dK kvs=>obtain⟨z,y,vs,r,ob,es,ep,e,c⟩:=x;exact⟨z,y,vs,r,ob,es,ep,k _ _ (.inl rfl) e,c⟩
 |dT kvs=>
  obtain⟨z,y,xs,r,ob,es,ep,e,c⟩:=x;exact⟨z,y,xs,Paired.mapP r fun p q z=>⟨z.1,ht _ _ z.2.1,z.2.2⟩,ob,es,ep,k _ _ (.inl rfl) e,c⟩
 |set S n=>obtain⟨ob,es,ep,t,e,c⟩:=x;exact⟨ob,es,ep,t,k _ _ (.inl rfl) e,c⟩
 |ins C dx fs=>
  obtain⟨d,z,ne,e,mA,⟨od,es,ep,e2,c⟩,r⟩:=x;exact⟨ho _ d,z,ne,k _ _ (.inl rfl) e,mA,⟨od,es,ep,k _ _ (.inr d) e2,c⟩,r⟩
 |own y=>obtain⟨ob,e⟩:=x;exact⟨ob,k _ _ (.inl rfl) e⟩
 |xd fs=>obtain⟨mA,⟨od,es,ep,e,c⟩,r⟩:=x;exact⟨mA,⟨od,es,ep,k _ _ (.inl rfl) e,c⟩,r⟩
 |rng lo hi=>obtain⟨t,u,v,e⟩:=x;exact⟨t,u,v,k _ _ (.inl rfl) e⟩
 |frz ob u ih=>obtain⟨e,q⟩:=x;exact⟨k _ _ (.inl rfl) e,ih q⟩
 |tbl ps=>
  have e:h.get? a=some { cls:=.none,data:=.fields ps }:=x
  show h'.get? a=some { cls:=.none,data:=.fields ps }
  exact k a _ (.inl rfl) e
 |met f y=>
  have e:h.get? a=some (W.methodObj (.ref f) (.ref y)):=x
  show h'.get? a=some (W.methodObj (.ref f) (.ref y))
  exact k a _ (.inl rfl) e
 |ext φ=>obtain⟨p,⟨o,e⟩,st⟩:=x;exact⟨st _ _ p fun o q=>k _ _ (.inl rfl) q,⟨o,k _ _ (.inl rfl) e⟩,st⟩
def HOk.lt(x:HOk P w H h)(e:H a=some o):a<h.objs.size:=(x a o e).lt
def HOk.fresh(x:HOk P w H h)(e:h.objs.size<=a):H a=none:=by
 cases q:H a with
 |none=>rfl
 |some u=>exact absurd (gA (x.lt q) e) (iy _)
def HOk.kept(x:HOk P w H h)(k:∀b u,h.get? b=some u->h'.get? b=some u):HOk P w H h':=fun a o e=>
 (x a o e).stay (fun b u _ q=>k b u q) (fun _ q=>q) fun _ _ q=>q
def HOk.laid(x:HOk P w H h)(k:∀b u,h.get? b=some u->h'.get? b=some u)(hp:h.objs.size<=a)(new:Yw P w (upd H a o) h' a o):HOk P w (upd H a o) h':=fun b u e=>by
 have hn:=x.fresh hp
 by_cases hb:b=a
 ·subst hb;rw[Zd] at e;cases e;exact new
 ·rw[Zx hb] at e;exact(x b u e).stay (fun c v _ q=>k c v q) (fun c q=>by rw[Zx (ZT q hn)];exact q) fun c xs q=>by rw[Zx (ZT q hn)];exact q
end
def Rd(H:Hp)(a:Addr)(u:HO):Prop:=H a=some u\/∃o,H a=some (.frz o u)
def Rd.ok{H:Hp}{a:Addr}{u:HO}(r:Rd H a u)(x:HOk P w H h):Yw P w H h a u:=by
 rcases r with r|⟨o,r⟩
 ·exact x a u r
 ·obtain⟨_,q⟩:=x a _ r;exact q
def Mut:Option HO->Prop
 |some (.lst _)=>True
 |some (.dK _)=>True
 |some (.dT _)=>True
 |some (.set _ _)=>True
 |some (.ins _ _ _)=>True
 |some (.ext _)=>True
 |_=>False
section
variable{H:Hp}{x e:Addr}{o':HO}
def HOk.write(ok:HOk P w H h)(mu:Mut (H x))(he:e=x\/H e=some (.own x))(k:∀b u,b≠e->h.get? b=some u->h'.get? b=some u)(heo:∃u,h'.get? e=some u)
  (new:Yw P w (upd H x o') h' x o'):HOk P w (upd H x o') h':=fun b u q=>by
 have nown:∀c y,H c=some (.own y)->c≠x:=fun c y r z=>by subst z;rw[r] at mu;exact mu
 have ntup:∀c xs,H c=some (.tup xs)->c≠x:=fun c xs r z=>by subst z;rw[r] at mu;exact mu
 by_cases hb:b=x
 ·subst hb;rw[Zd] at q;cases q;exact new
 ·rw[Zx hb] at q
  by_cases hbe:b=e
  ·have q':H b=some (.own x):=by
    rcases he with z|z
    ·exact absurd (hbe.trans z) hb
    ·rw[hbe];exact z
   rw[q] at q';cases q';obtain⟨v,hv⟩:=heo;exact⟨v,by rw[hbe];exact hv⟩
  ·refine(ok b u q).stay (fun c v hc r=>k c v ?_ r) (fun c r=>by rw[Zx (nown c b r)];exact r) fun c xs r=>by rw[Zx (ntup c xs r)];exact r
   rcases hc with rfl|hc
   ·exact hbe
   ·rintro rfl;rcases he with z|z
    ·exact nown c b hc z
    ·rw[hc] at z;cases z;exact hb rfl
end
structure Un(fs ex:List Addr)(H H':Hp)(h h':Heap):Prop where
 keep:∀b o,h.get? b=some o->H b=none->b∉fs->b∉ex->h'.get? b=some o
 slot:∀b o,h.get? b=some o->H b=none->b∈fs->b∉ex->∃sl,h'.get? b=some { o with slots:=sl }
 free:∀b o,h.get? b=some o->H b=none->b∉ex->H' b=none
 there:∀b o,h.get? b=some o->b∉ex->∃o',h'.get? b=some o'
 tups:∀b xs,H b=some (.tup xs)->H' b=some (.tup xs)
 frzs:∀b o u,H b=some (.frz o u)->H' b=some (.frz o u)
 tbls:∀b ps,H b=some (.tbl ps)->∃more,H' b=some (.tbl (ps++more))
section
variable{fs fs' ex ex':List Addr}{H H1 H2:Hp}{h2:Heap}{a x e:Addr}{o:HO}
def Un.any(u:Un fs ex H H1 h h1){b:Addr}(q:h.get? b=some ob)(n:H b=none)(hx:b∉ex):∃sl,h1.get? b=some { ob with slots:=sl }:=by
 by_cases hb:b∈fs
 ·exact u.slot b ob q n hb hx
 ·exact⟨ob.slots,u.keep b ob q n hb hx⟩
def Un.kept(k:∀b u,h.get? b=some u->h'.get? b=some u):Un fs ex H H h h':=
 ⟨fun b ob q _ _ _=>k b ob q,fun b ob q _ _ _=>⟨ob.slots,k b ob q⟩,fun _ _ _ n _=>n,fun b ob q _=>⟨ob,k b ob q⟩,fun _ _ q=>q,fun _ _ _ q=>q,fun _ ps q=>⟨#[],by rw[q];simp⟩⟩
def Un.refl:Un fs ex H H h h:=Un.kept fun _ _ q=>q
def Un.laid(k:∀b u,h.get? b=some u->h'.get? b=some u)(hp:h.objs.size<=a)(hn:H a=none):Un fs ex H (upd H a o) h h' where
 keep:=fun b u q _ _ _=>k b u q
 slot:=fun b u q _ _ _=>⟨u.slots,k b u q⟩
 free:=fun b u q n _=>by rw[Zx (fP (gA (fN q) hp))];exact n
 there:=fun b u q _=>⟨u,k b u q⟩
 tups:=fun b xs q=>by rw[Zx (ZT q hn)];exact q
 frzs:=fun b u xs q=>by rw[Zx (ZT q hn)];exact q
 tbls:=fun b ps q=>⟨#[],by rw[Zx (ZT q hn),q];simp⟩
def Un.write(mu:Mut (H x))(he:e=x\/H e=some (.own x))(k:∀b u,b≠e->h.get? b=some u->h'.get? b=some u)(heo:∃u,h'.get? e=some u):Un fs ex H (upd H x o) h h':=by
 have hx:∀b,H b=none->b≠x:=fun b n z=>by subst z;rw[n] at mu;exact mu
 have hb:∀b,H b=none->b≠e:=fun b n z=>by
  subst z;rcases he with r|r
  ·exact hx b n r
  ·rw[n] at r;cases r
 have hm:∀b u,H b=some u->¬Mut (some u)->b≠x:=fun b u q nm z=>by subst z;rw[q] at mu;exact nm mu
 refine⟨fun b u q n _ _=>k b u (hb b n) q,fun b u q n _ _=>⟨u.slots,k b u (hb b n) q⟩,fun b u q n _=>by rw[Zx (hx b n)];exact n,fun b u q _=>?_,
  fun b xs q=>by rw[Zx (hm b _ q fun z=>z)];exact q,fun b u xs q=>by rw[Zx (hm b _ q fun z=>z)];exact q,fun b ps q=>⟨#[],by rw[Zx (hm b _ q fun z=>z),q];simp⟩⟩
 by_cases hbe:b=e
 ·subst hbe;exact heo
 ·exact⟨u,k b u hbe q⟩
end
def trk(h:Heap)(H:Hp):List Addr:=(List.range h.objs.size).filter fun a=>(H a).isSome
def hidT(h:Heap)(H:Hp):Heap:=W.hideAll h (trk h H)
def hidT_size(h:Heap)(H:Hp):(hidT h H).objs.size=h.objs.size:=W.hideAll_size _ _
def hidT_get{H:Hp}{b:Addr}{o:Obj}(e:h.get? b=some o)(n:H b=none):(hidT h H).get? b=some o:=
 W.hideAll_get _ e fun hm=>by
  have q:(H b).isSome=true:=(i9.mp hm).2;rw[n] at q;simp at q
def of_hidT{H:Hp}{b:Addr}{o:Obj}(e:(hidT h H).get? b=some o):h.get? b=some o/\H b=none:=by
 have e':h.get? b=some o:=W.of_hideAll (trk h H) e;refine⟨e',?_⟩;cases q:H b with
 |none=>rfl
 |some x=>
  have hm:b∈trk h H:=i9.mpr ⟨lQ.mpr (fN e'),by simp[q]⟩;have z:(hidT h H).get? b=none:=W.hideAll_none (trk h H) hm;rw[z] at e;cases e
def allNews(g h:Heap)(L:Addr):List (Addr×Obj):=(List.range h.objs.size).filterMap fun a=>if a=L\/(g.get? a).isSome=true then none else(h.get? a).map fun o=>(a,o)
def XH(g h:Heap)(L d:Addr):List (Addr×Obj):=(allNews g h L).filter fun p=>decide (p.1≠d)
end L2
variable{H H' H0 G G' H1 H2:L2.Hp}{v y v1 v2 v3:L2.V}{o:L2.HO}{vs:List L2.V}{kvs:List (List L2.Key×L2.V)}{r:L2.Hp->L2.V->α->Prop}{kv:List (L2.Key×L2.V)}
namespace L2
open PySem PySem.Spec PyProof.Rows
structure Mod(K:W.Frag)(mg:Str->Option Value)(base:Heap):Prop where
 kin:K.In base
 glob:base.Ns mainGlobals mg
 blt:∃mb,base.Ns builtinsNs mb/\∀x:Str,x ≠ "__name__" -> mb x=bootBuiltins x
 nolimit:base.NoLimit
structure Cx where
 prog:Program
 w:World
 K:W.Frag
 mg:Str->Option Value
 base:Heap
 A:Around
 N:List Str
 s₀:Shared
 H₀:Hp
 env:Env
 outer:List Env
 stack:List Env
 ex:List Addr
 fn:Str->Bool
 calm:Bool
 pn:List (Addr×Obj)
 xe:Value->Shared->Prop
def frs(l:List Env):List Addr:=l.filterMap (·.frame)
abbrev Cx.fs(X:Cx):List Addr:=frs X.outer
def Vis(sc:Scope)(x:Str):Prop:=sc.names.lookup x=some .local\/sc.names.lookup x=some .cell\/sc.names.lookup x=some .free
def Loc(sc:Scope)(x:Str):Prop:=sc.names.lookup x=some .local\/sc.names.lookup x=some .cell
def Look(env:Env)(h:Heap)(m:Str->Option Value)(x:Str)(u:Value):Prop:=
 (env.kindOf x=some .local/\m x=some u)\/((env.kindOf x=some .cell\/env.kindOf x=some .free)/\∃c,env.cells.lookup x=some c/\h.IsCell c (some u))
structure Cx.Ok(X:Cx):Prop where
 mod:Mod X.K X.mg X.base
 kind:X.env.scope.kind=.function
 glob:X.env.globals=mainGlobals
 blt:X.env.builtins=builtinsNs
 above:X.s₀.heap.objs.size<=X.env.locals
 inj:∀x y c,X.env.cells.lookup x=some c->X.env.cells.lookup y=some c->x=y
 has:∀x,(X.env.kindOf x=some .cell\/X.env.kindOf x=some .free)->∃c,X.env.cells.lookup x=some c
 cab:∀x c,X.fn x=true->X.env.cells.lookup x=some c->X.s₀.heap.objs.size<=c
 hd:X.calm=true->X.A.handled=none
 frames:X.A.frames=some X.stack
 stk:X.stack=X.outer\/(X.stack=X.env::X.outer/\X.env.frame=some X.env.locals)
 exf:∀b∈X.ex,b≠X.env.locals/\∀x c,X.env.cells.lookup x=some c->c≠b
 bs:∀b o,X.base.get? b=some o->X.s₀.heap.get? b=some o/\X.H₀ b=none
 bsz:X.base.objs.size<=X.s₀.heap.objs.size
 noex:∀b o,X.base.get? b=some o->b∉X.ex
 exfs:∀b∈X.ex,b∉X.fs
 funs:X.s₀.heap.FunFrames X.base X.outer
 frf:∀b∈X.fs,X.H₀ b=none
structure Inv(X:Cx)(db:List (Addr×Obj))(U:List (Option V))(H:Hp)(s:Shared):Prop where
 ok:X.Ok
 os:s.os=X.s₀.os
 bare:AllBare s.gens
 base:Un X.fs X.ex X.H₀ H X.s₀.heap s.heap
 loc:∃m,s.heap.Ns X.env.locals m/\∀(i:Nat) (x:Str) (v:V),X.N[i]?=some x->U[i]?=some (some v)->Vis X.env.scope x->∃u,ZU v u/\Look X.env s.heap m x u
 cell:∀x c,X.env.cells.lookup x=some c->∃v,s.heap.IsCell c v
 free:H X.env.locals=none
 freeC:∀x c,X.env.cells.lookup x=some c->H c=none
 pin:∀p∈X.pn++db,s.heap.get? p.1=some p.2/\H p.1=none/\p.1≠X.env.locals/\p.1∉X.fs/\∀v,p.2.data≠.cell v
 hok:HOk X.prog X.w H s.heap
 len:U.length=X.N.length
section
variable{X:Cx}{U:List (Option V)}
def Cx.Ok.nofr(ok:X.Ok){b:Addr}{o:Obj}(e:X.base.get? b=some o):b∉X.fs:=fun hb=>by
 have:=(ok.funs.mem hb).1;rw[e] at this;cases this
def Inv.bs(I:Inv X db U H s):∀b o,X.base.get? b=some o->s.heap.get? b=some o/\H b=none:=fun b o e=>
 ⟨I.base.keep b o (I.ok.bs b o e).1 (I.ok.bs b o e).2 (I.ok.nofr e) (I.ok.noex b o e),I.base.free b o (I.ok.bs b o e).1 (I.ok.bs b o e).2 (I.ok.noex b o e)⟩
def Inv.bk(I:Inv X db U H s):∀b o,X.base.get? b=some o->s.heap.get? b=some o:=fun b o e=>(I.bs b o e).1
def Inv.mod(I:Inv X db U H s):Mod X.K X.mg X.base:=I.ok.mod
def Inv.kIn(I:Inv X db U H s):X.K.In s.heap:=I.ok.mod.kin.keeps I.bk
def Inv.fr(I:Inv X db U H s):∃m,Fr X.base X.env.locals s.heap m:=
 let ⟨m,hn,_⟩:=I.loc
 ⟨m,hn,I.bk,fU I.ok.bsz I.ok.above⟩
def Inv.lt(I:Inv X db U H s):X.env.locals<s.heap.objs.size:=let ⟨_,hn,_⟩:=I.loc;hn.lt
def Inv.sz(I:Inv X db U H s):X.s₀.heap.objs.size<=s.heap.objs.size:=fU I.ok.above (ip I.lt)
def Inv.nofs(I:Inv X db U H s){a:Addr}(h:s.heap.objs.size<=a):a∉X.fs:=fun hb=>by
 obtain⟨_,o,ho,_⟩:=I.ok.funs.mem hb;exact absurd (gA (fN ho) (fU I.sz h)) (iy _)
def Inv.cne(I:Inv X db U H s):∀x c,X.env.cells.lookup x=some c->c≠X.env.locals:=fun x c e z=>by
 obtain⟨v,o,ho,hd⟩:=I.cell x c e;obtain⟨m,⟨o',es,ep,ho',hd',_⟩,_⟩:=I.loc;rw[z,ho'] at ho;cases ho;rw[hd'] at hd;cases hd
def Inv.funs(I:Inv X db U H s):s.heap.FunFrames X.base X.outer:=by
 have all:∀(l:List Env),(∀b∈frs l,b∈X.fs)->X.s₀.heap.FunFrames X.base l->s.heap.FunFrames X.base l:=by
  intro l
  induction l with
  |nil=>intro _ _;trivial
  |cons env r ih=>
   intro hs hl;obtain⟨hk,⟨L,o,hf,hn,ho,hd⟩,hr⟩:=hl;have hL:L∈X.fs:=hs L (by unfold frs;rw[ng,hf];exact iz);obtain⟨sl,e⟩:=I.base.slot L o ho (I.ok.frf L hL) hL fun z=>I.ok.exfs L z hL;exact⟨hk,⟨L,_,hf,hn,e,hd⟩,ih (fun b hb=>hs b (by unfold frs;rw[ng,hf];exact gf _ hb)) hr⟩
 exact all X.outer (fun _ hb=>hb) I.ok.funs
def Inv.stack(I:Inv X db U H s):s.heap.FunFrames X.base X.stack:=by
 rcases I.ok.stk with e|⟨e,hf⟩
 ·rw[e];exact I.funs
 ·rw[e];obtain⟨m,hn,_⟩:=I.loc;refine .cons (by rw[I.ok.kind];decide) hf hn ?_ I.funs;exact Heap.get?_none_of_le (fU I.ok.bsz I.ok.above)
def Inv.stkSub(I:Inv X db U H s):∀b∈frs X.stack,b∈X.env.locals::X.fs:=fun b hb=>by
 rcases I.ok.stk with e|⟨e,hf⟩
 ·rw[e] at hb;exact gf _ hb
 ·rw[e] at hb;unfold frs at hb;rw[ng,hf] at hb;exact hb
def Inv.stkFree(I:Inv X db U H s):∀b∈frs X.stack,H b=none:=fun b hb=>by
 rcases fQ.mp (I.stkSub b hb) with e|hb
 ·rw[e];exact I.free
 ·obtain⟨_,o,ho,_⟩:=I.ok.funs.mem hb;exact I.base.free b o ho (I.ok.frf b hb) fun z=>I.ok.exfs b z hb
def Inv.step(I:Inv X db U H s)
  (hch:∀b∈ch,(b∈X.ex\/X.s₀.heap.objs.size<=b)/\b≠X.env.locals/\(∀x c,X.env.cells.lookup x=some c->c≠b)/\∀p∈X.pn++db,p.1≠b)
  (keep:∀b o,b≠X.env.locals->b∉X.fs->b∉ch->s.heap.get? b=some o->H b=none->h'.get? b=some o)
  (slot:∀b o,b≠X.env.locals->b∈X.fs->b∉ch->s.heap.get? b=some o->H b=none->∃sl,h'.get? b=some { o with slots:=sl }) (free:∀b o,b∉ch->s.heap.get? b=some o->H b=none->H' b=none)
  (there:∀b o,b∉ch->s.heap.get? b=some o->∃o',h'.get? b=some o')
  (tups:∀b xs,H b=some (.tup xs)->H' b=some (.tup xs)) (frzs:∀b o u,H b=some (.frz o u)->H' b=some (.frz o u)) (tbls:∀b ps,H b=some (.tbl ps)->∃more,H' b=some (.tbl (ps++more)))
  (ns:∀m,s.heap.Ns X.env.locals m->h'.Ns X.env.locals m) (hok:HOk X.prog X.w H' h') (hg:AllBare g') :
  Inv X db U H' { s with heap:=h',gens:=g',drawn:=d',toks:=t' }:=by
 have neL:∀b o,X.s₀.heap.get? b=some o->b≠X.env.locals:=fun b o e=>fP (gA (fN e) I.ok.above);have neC:∀b o,X.s₀.heap.get? b=some o->b∉X.ex->b∉ch:=fun b o e hx hb=>by
  rcases(hch b hb).1 with z|z
  ·exact hx z
  ·exact absurd (gA (fN e) z) (iy _)
 have cellK:∀x c,X.env.cells.lookup x=some c->∀v,s.heap.IsCell c v->h'.IsCell c v:=fun x c e v ⟨o,ho,hd⟩=>by
  have nch:c∉ch:=fun z=>(hch c z).2.2.1 x c e rfl
  by_cases hc:c∈X.fs
  ·obtain⟨sl,q⟩:=slot c o (I.cne x c e) hc nch ho (I.freeC x c e);exact⟨_,q,hd⟩
  ·exact⟨o,keep c o (I.cne x c e) hc nch ho (I.freeC x c e),hd⟩
 refine⟨I.ok,I.os,hg,⟨fun b o e n hb hx=>?_,fun b o e n hb hx=>?_,fun b o e n hx=>?_,fun b o e hx=>?_,fun b xs e=>tups b xs (I.base.tups b xs e),fun b o xs e=>frzs b o xs (I.base.frzs b o xs e),fun b ps e=>?_⟩,?_,fun x c e=>?_,?_,fun x c e=>?_,fun p hp=>?_,hok,I.len⟩
 ·exact keep b o (neL b o e) hb (neC b o e hx) (I.base.keep b o e n hb hx) (I.base.free b o e n hx)
 ·obtain⟨sl,e1⟩:=I.base.slot b o e n hb hx;obtain⟨sl',e2⟩:=slot b _ (neL b o e) hb (neC b o e hx) e1 (I.base.free b o e n hx);exact⟨sl',e2⟩
 ·obtain⟨o',e1⟩:=I.base.there b o e hx;exact free b o' (neC b o e hx) e1 (I.base.free b o e n hx)
 ·obtain⟨o',e1⟩:=I.base.there b o e hx;exact there b o' (neC b o e hx) e1
 ·obtain⟨m1,e1⟩:=I.base.tbls b ps e;obtain⟨m2,e2⟩:=tbls b _ e1;exact⟨m1++m2,by rw[e2,Array.append_assoc]⟩
 ·obtain⟨m,hn,hl⟩:=I.loc;refine⟨m,ns m hn,fun i x v e1 e2 e3=>?_⟩;obtain⟨u,r,l⟩:=hl i x v e1 e2 e3;refine⟨u,r,?_⟩;rcases l with l|⟨k,c,e,z⟩
  ·exact .inl l
  ·exact .inr ⟨k,c,e,cellK x c e _ z⟩
 ·obtain⟨v,z⟩:=I.cell x c e;exact⟨v,cellK x c e v z⟩
 ·obtain⟨m,⟨o,_,_,ho,_⟩,_⟩:=I.loc;exact free _ o (fun z=>(hch _ z).2.1 rfl) ho I.free
 ·obtain⟨v,o,ho,hd⟩:=I.cell x c e;exact free c o (fun z=>(hch c z).2.2.1 x c e rfl) ho (I.freeC x c e)
 ·obtain⟨e,n,ne,nf,d⟩:=I.pin p hp;have nch:p.1∉ch:=fun z=>(hch p.1 z).2.2.2 p hp rfl;exact⟨keep p.1 p.2 ne nf nch e n,free p.1 p.2 nch e n,ne,nf,d⟩
def Inv.un(I:Inv X db U H s)(u:Un X.fs [] H H' s.heap h')(hok:HOk X.prog X.w H' h'):Inv X db U H' { s with heap:=h',toks:=t' }:=by
 obtain⟨m,⟨o,es,ep,ho,r⟩,_⟩:=id I.loc;obtain⟨sl,hL⟩:=u.any ho I.free (by simp);exact I.step (g':=s.gens) (d':=s.drawn) (ch:=[]) (fun _ z=>nomatch z) (fun b o _ hb _ e n=>u.keep b o e n hb (by simp)) (fun b o _ hb _ e n=>u.slot b o e n hb (by simp)) (fun b o _ e n=>u.free b o e n (by simp)) (fun b o _ e=>u.there b o e (by simp)) u.tups u.frzs u.tbls (fun m' hm=>by
  obtain⟨o',es',ep',ho',r'⟩:=hm;rw[ho] at ho';cases ho';exact⟨_,es',ep',hL,r'⟩) hok I.bare
def Inv.call(I:Inv X db U H s)(u:Un (frs X.stack) ch H H' s.heap h')(hok:HOk X.prog X.w H' h')(hg:AllBare g')
  (hch:∀b∈ch,(b∈X.ex\/X.s₀.heap.objs.size<=b)/\b≠X.env.locals/\(∀x c,X.env.cells.lookup x=some c->c≠b)/\∀p∈X.pn++db,p.1≠b) :
  Inv X db U H' { s with heap:=h',gens:=g',drawn:=d',toks:=t' }:=by
 obtain⟨m,⟨o,es,ep,ho,r⟩,_⟩:=id I.loc;obtain⟨sl,hL⟩:=u.any ho I.free fun z=>(hch _ z).2.1 rfl;exact I.step (ch:=ch) hch (fun b o hL hb hc e n=>u.keep b o e n (fun z=>(fQ.mp (I.stkSub b z)).elim hL hb) hc) (fun b o _ _ hc e n=>u.any e n hc) (fun b o hc e n=>u.free b o e n hc) (fun b o hc e=>u.there b o e hc) u.tups u.frzs u.tbls (fun m' hm=>by
  obtain⟨o',es',ep',ho',r'⟩:=hm;rw[ho] at ho';cases ho';exact⟨_,es',ep',hL,r'⟩) hok hg
def Inv.turned{it:Addr}(I:Inv X db U H s)(k:∀b o,b≠it->s.heap.get? b=some o->h'.get? b=some o)(hn:H it=none)(hL:it≠X.env.locals)
  (h1:it∈X.ex\/X.s₀.heap.objs.size<=it) (h2:∀x c,X.env.cells.lookup x=some c->c≠it) (h3:∀p∈X.pn++db,p.1≠it):Inv X db U H { s with heap:=h',toks:=t' }:=by
 have nit:∀b u,H b=some u->b≠it:=fun b u e z=>by rw[z,hn] at e;cases e
 refine I.step (g':=s.gens) (d':=s.drawn) (ch:=[it]) (fun b hb=>?_) (fun b o _ _ hc e _=>k b o (fun z=>hc (by simp[z])) e) (fun b o _ _ hc e _=>⟨o.slots,k b o (fun z=>hc (by simp[z])) e⟩) (fun _ _ _ _ n=>n)
  (fun b o hc e=>⟨o,k b o (fun z=>hc (by simp[z])) e⟩) (fun _ _ e=>e) (fun _ _ _ e=>e) (fun b ps e=>⟨#[],by rw[e];simp⟩) (fun m hm=>?_) (fun b u e=>?_) I.bare
 ·have e:b=it:=by simpa using hb
  subst e;exact⟨h1,hL,h2,h3⟩
 ·obtain⟨o,es,ep,ho,r⟩:=hm;exact⟨o,es,ep,k _ o (fT hL) ho,r⟩
 ·refine(I.hok b u e).stay (fun c v hc q=>k c v ?_ q) (fun _ q=>q) fun _ _ q=>q;rcases hc with z|z
  ·rw[z];exact nit b u e
  ·exact nit c _ z
def Inv.tok(I:Inv X db U H s)(t:Nat):Inv X db U H { s with toks:=t }:=I.un (h':=s.heap) (t':=t) Un.refl I.hok
def Inv.kept{t':Nat}(I:Inv X db U H s)(k:∀b u,s.heap.get? b=some u->h'.get? b=some u):Inv X db U H { s with heap:=h',toks:=t' }:=I.un (Un.kept k) (I.hok.kept k)
def Inv.laid{a:Addr}{o:HO}{t':Nat}(I:Inv X db U H s)(k:∀b u,s.heap.get? b=some u->h'.get? b=some u)(hp:s.heap.objs.size<=a)(new:Yw X.prog X.w (upd H a o) h' a o) :
  Inv X db U (upd H a o) { s with heap:=h',toks:=t' }:=I.un (Un.laid k hp (I.hok.fresh hp)) (I.hok.laid k hp new)
def Inv.write{x e:Addr}{o:HO}{t':Nat}(I:Inv X db U H s)(mu:Mut (H x))(he:e=x\/H e=some (.own x))(k:∀b u,b≠e->s.heap.get? b=some u->h'.get? b=some u)(heo:∃u,h'.get? e=some u)
  (new:Yw X.prog X.w (upd H x o) h' x o):Inv X db U (upd H x o) { s with heap:=h',toks:=t' }:=I.un (Un.write mu he k heo) (I.hok.write mu he k heo new)
def Inv.pins_of(I:Inv X db U H s)(h:∀p∈pins',s.heap.get? p.1=some p.2/\H p.1=none/\p.1≠X.env.locals/\p.1∉X.fs/\∀v,p.2.data≠.cell v):Inv X pins' U H s:=
 ⟨I.ok,I.os,I.bare,I.base,I.loc,I.cell,I.free,I.freeC,fun p hp=>(fR.mp hp).elim (fun z=>I.pin p (g8 _ z)) (h p),I.hok,I.len⟩
def JS(hN:N.Nodup){x:Str}(a:N[i]?=some x)(b:N[j]?=some x):i=j:=by
 obtain⟨h1,e1⟩:=fO.mp a;obtain⟨h2,e2⟩:=fO.mp b;exact(iU hN).mp (e1.trans e2.symm)
def zx{x:Str}{Q:Unit->Shared->Prop}(I:Inv X db U H s)(hN:X.N.Nodup)(hi:X.N[i]?=some x)(hx:Loc X.env.scope x)(r:ZU v u)
  (h:∀s',Inv X db (U.set i (some v)) H s'->(∃a,Heap.SameBut a s.heap s'.heap/\(a=X.env.locals\/X.env.cells.lookup x=some a))->Q () s') (hf:X.fn x=true\/X.env.scope.names.lookup x=some .local:=by first|exact .inl rfl|exact .inr rfl|assumption):wpAny M A (storeName X.env x u) Q E s:=by
 obtain⟨m,hn,hl⟩:=id I.loc;have hcls:(X.env.scope.kind==.class||(X.env.scope.kind==.module&&X.env.locals != X.env.globals))=false:=by rw[I.ok.kind];rfl
 have hiσ:i<U.length:=by rw[I.len];exact(fO.mp hi).1
 have cne:=I.cne;have tracked:∀{a:Addr}{h':Heap},(∃o,s.heap.get? a=some o/\H a=none)->Heap.SameBut a s.heap h'->HOk X.prog X.w H h':=fun {a h'} ha hs b ob e=>by
  obtain⟨_,_,hfree⟩:=ha;refine(I.hok b ob e).stay (fun c w' hc q=>(hs.2 c ?_).trans q) (fun _ q=>q) fun _ _ q=>q;rintro rfl;rcases hc with rfl|hc
  ·rw[hfree] at e;cases e
  ·rw[hfree] at hc;cases hc
 rcases hx with hk|hk
 ·refine wpAny_storeName_local hk hn (fun h' hn' hs=>?_) hcls;obtain⟨oL,_,_,hoL,_⟩:=id hn;refine h _ ⟨I.ok,I.os,I.bare,⟨fun b o e n hb hx=>?_,fun b o e n hb hx=>?_,I.base.free,fun b o e hx=>?_,I.base.tups,I.base.frzs,I.base.tbls⟩,⟨_,hn',fun j y v' e1 e2 e3=>?_⟩,fun y c e=>?_,I.free,I.freeC,fun p hp=>?_,tracked ⟨oL,hoL,I.free⟩ hs,by simpa using I.len⟩ ⟨_,hs,.inl rfl⟩
  ·exact(hs.2 b (fP (gA (fN e) I.ok.above))).trans (I.base.keep b o e n hb hx)
  ·obtain⟨sl,e1⟩:=I.base.slot b o e n hb hx;exact⟨sl,(hs.2 b (fP (gA (fN e) I.ok.above))).trans e1⟩
  ·obtain⟨o',e1⟩:=I.base.there b o e hx;exact⟨o',(hs.2 b (fP (gA (fN e) I.ok.above))).trans e1⟩
  ·by_cases hj:j=i
   ·subst hj;rw[hi] at e1;cases e1;rw[nQ hiσ] at e2;cases e2;exact⟨u,r,.inl ⟨hk,by simp⟩⟩
   ·rw[nU (fT hj)] at e2;obtain⟨u',r',q⟩:=hl j y v' e1 e2 e3;refine⟨u',r',?_⟩;rcases q with⟨k,e⟩|⟨k,c,e,z⟩
    ·refine .inl ⟨k,?_⟩;have:y≠x:=fun e=>hj (JS hN e1 (e▸hi));simp[this,e]
    ·exact .inr ⟨k,c,e,z.sameBut hs (cne y c e)⟩
  ·obtain⟨w',z⟩:=I.cell y c e;exact⟨w',z.sameBut hs (cne y c e)⟩
  ·obtain⟨e,n,ne,nf,d⟩:=I.pin p hp;exact⟨(hs.2 p.1 ne).trans e,n,ne,nf,d⟩
 ·have hfn:X.fn x=true:=by
   rcases hf with z|z
   ·exact z
   ·rw[z] at hk;cases hk
  obtain⟨c,hc⟩:=I.ok.has x (.inl hk);obtain⟨w',z⟩:=I.cell x c hc;refine wpAny_storeName_cell I.ok.kind hk hc z (fun h' hc' hs=>?_);obtain⟨oc,hoc,hocd⟩:=id z;refine h { s with heap:=h' } ⟨I.ok,I.os,I.bare,⟨fun b o e n hb hx=>?_,fun b o e n hb hx=>?_,I.base.free,fun b o e hx=>?_,I.base.tups,I.base.frzs,I.base.tbls⟩,⟨m,hn.sameBut hs (fT (cne x c hc)),fun j y v' e1 e2 e3=>?_⟩,fun y c' e=>?_,I.free,I.freeC,fun p hp=>?_,tracked ⟨oc,hoc,I.freeC x c hc⟩ hs,by simpa using I.len⟩ ⟨c,hs,.inr hc⟩
  ·exact(hs.2 b (fP (gA (fN e) (I.ok.cab x c hfn hc)))).trans (I.base.keep b o e n hb hx)
  ·obtain⟨sl,e1⟩:=I.base.slot b o e n hb hx;exact⟨sl,(hs.2 b (fP (gA (fN e) (I.ok.cab x c hfn hc)))).trans e1⟩
  ·obtain⟨o',e1⟩:=I.base.there b o e hx;exact⟨o',(hs.2 b (fP (gA (fN e) (I.ok.cab x c hfn hc)))).trans e1⟩
  ·by_cases hj:j=i
   ·subst hj;rw[hi] at e1;cases e1;rw[nQ hiσ] at e2;cases e2;exact⟨u,r,.inr ⟨.inl hk,c,hc,hc'⟩⟩
   ·rw[nU (fT hj)] at e2;obtain⟨u',r',q⟩:=hl j y v' e1 e2 e3;refine⟨u',r',?_⟩;rcases q with q|⟨k,c',e,z'⟩
    ·exact .inl q
    ·refine .inr ⟨k,c',e,z'.sameBut hs ?_⟩;rintro rfl;exact hj (JS hN e1 (I.ok.inj _ _ _ e hc▸hi))
  ·by_cases hcc:c'=c
   ·subst hcc;exact⟨_,hc'⟩
   ·obtain⟨w2,z2⟩:=I.cell y c' e;exact⟨w2,z2.sameBut hs hcc⟩
  ·obtain⟨e,n,ne,nf,d⟩:=I.pin p hp;refine⟨(hs.2 p.1 ?_).trans e,n,ne,nf,d⟩;intro q;rw[q,hoc] at e;have q':oc=p.2:=fY e;exact d w' (by rw[<- q'];exact hocd)
def xV{x:Str}{Q:Unit->Shared->Prop}(I:Inv X db U H s)(hN:X.N.Nodup)(hi:X.N[i]?=some x)(hx:Loc X.env.scope x)(r:ZU v u)
  (h:∀s',Inv X db (U.set i (some v)) H s'->Q () s') (hf:X.fn x=true\/X.env.scope.names.lookup x=some .local:=by first|exact .inl rfl|exact .inr rfl|assumption):wpAny M A (storeName X.env x u) Q E s:=
 zx I hN hi hx r (fun s' I' _=>h s' I') hf
def Inv.call'(I:Inv X db U H s)(ho:s'.os=s.os)(u:Un (frs X.stack) ch H H' s.heap s'.heap)(hok:HOk X.prog X.w H' s'.heap)(hg:AllBare s'.gens)
  (hch:∀b∈ch,(b∈X.ex\/X.s₀.heap.objs.size<=b)/\b≠X.env.locals/\(∀x c,X.env.cells.lookup x=some c->c≠b)/\∀p∈X.pn++db,p.1≠b):Inv X db U H' s':=by
 obtain⟨h',g',d',t',o'⟩:=s';have e:o'=s.os:=ho;subst e;exact I.call (g':=g') (t':=t') (d':=d') u hok hg hch
end
abbrev XK:=Value->Option Addr->Hp->Prop
abbrev St:=List (Option V)
abbrev VK:=V->Hp->Prop
abbrev TE:=St->Hp->VK->Prop
abbrev TT:=St->Hp->(Bool->Hp->Prop)->Prop
abbrev TA:=St->Hp->(List V->Hp->Prop)->Prop
structure Ends where
 nx:St->Hp->Prop
 rt:VK
 bk:St->Hp->Prop:=fun _ _=>False
 ct:St->Hp->Prop:=fun _ _=>False
abbrev TS:=Ends->St->Hp->Prop
def EP(X:Cx)(db:List (Addr×Obj))(U:St)(Q:VK)(u:Value)(s':Shared):Prop:=∃v H',Inv X db U H' s'/\ZU v u/\Q v H'
def TP(X:Cx)(db:List (Addr×Obj))(U:St)(Q:Bool->Hp->Prop)(b:Bool)(s':Shared):Prop:=∃H',Inv X db U H' s'/\Q b H'
def AP(X:Cx)(db:List (Addr×Obj))(U:St)(Q:List V->Hp->Prop)(us:List Value)(s':Shared):Prop:=∃vs H',Inv X db U H' s'/\ZK vs us/\Q vs H'
def SP(X:Cx)(db:List (Addr×Obj))(D:Ends)(f:Flow)(s':Shared):Prop:=
 match f with
 |.next=>∃σ' H',Inv X db σ' H' s'/\D.nx σ' H'
 |.brk=>∃σ' H',Inv X db σ' H' s'/\D.bk σ' H'
 |.cont=>∃σ' H',Inv X db σ' H' s'/\D.ct σ' H'
 |.ret u=>∃v σ' H',Inv X db σ' H' s'/\ZU v u/\D.rt v H'
def PE(X:Cx)(e:Expr)(t:TE):Prop:=
 ∀(db:List (Addr×Obj)) (s:Shared) (U:St) (H:Hp) (Q:VK),Inv X db U H s->t U H Q->wpAny (model X.prog X.w) X.A (eval e X.env) (EP X db U Q) X.xe s
def PT(X:Cx)(e:Expr)(t:TT):Prop:=
 ∀(db:List (Addr×Obj)) (s:Shared) (U:St) (H:Hp) (Q:Bool->Hp->Prop),Inv X db U H s->t U H Q->wpAny (model X.prog X.w) X.A (isTrue e X.env (eval e X.env)) (TP X db U Q) X.xe s
def PW(X:Cx)(e:Expr)(t:TT):Prop:=
 ∀(whole:Sem Value) (db:List (Addr×Obj)) (s:Shared) (U:St) (H:Hp) (Q:Bool->Hp->Prop),Inv X db U H s->t U H Q->wpAny (model X.prog X.w) X.A (isTrue e X.env whole) (TP X db U Q) X.xe s
def PW.pt{X:Cx}{t:TT}(h:PW X e t):PT X e t:=h _
def PA(X:Cx)(es:List Expr)(t:TA):Prop:=
 ∀(pos:Pos) (db:List (Addr×Obj)) (s:Shared) (U:St) (H:Hp) (Q:List V->Hp->Prop),Inv X db U H s->t U H Q->wpAny (model X.prog X.w) X.A (spliced (backTo pos (starEach es X.env))) (AP X db U Q) X.xe s
def PS(X:Cx)(st:Stmt)(t:TS):Prop:=
 ∀(db:List (Addr×Obj)) (s:Shared) (U:St) (H:Hp) (D:Ends),Inv X db U H s->t D U H->wpAny (model X.prog X.w) X.A (exec st X.env) (SP X db D) X.xe s
def PSs(X:Cx)(st:List Stmt)(t:TS):Prop:=
 ∀(db:List (Addr×Obj)) (s:Shared) (U:St) (H:Hp) (D:Ends),Inv X db U H s->t D U H->wpAny (model X.prog X.w) X.A (execs st X.env) (SP X db D) X.xe s
def thn{t:Sem α}{Q:α->Shared->Prop}(h:wpAny M A t Q E s)(hQ:∀a s,Q a s->Q' a s):wpAny M A t Q' E s:=ik h hQ fun _ _ x=>x
end L2
variable{te tl:L2.TE}{U τ σ0 σ':L2.St}{tt:L2.TT}{X:L2.Cx}{ta:L2.TA}{tb:L2.TS}
namespace L2
open PySem PySem.Spec PyProof.Rows
section
variable{X:Cx}
def bin{a b:Expr}{ta tb:TE}(ha:PE X a ta)(hb:PE X b tb){R:V->V->Hp->Prop}(I:Inv X db U H s)(h:ta U H fun x H1=>tb U H1 fun y H2=>R x y H2)
  {Q:α->Shared->Prop}{f:Value->Value->Sem α}
  (hf:∀v u s2 x y H2,Inv X db U H2 s2->ZU x v->ZU y u->R x y H2->wpAny (model X.prog X.w) X.A (f v u) Q X.xe s2) :
  wpAny (model X.prog X.w) X.A (eval a X.env) (fun v s₁=>wpAny (model X.prog X.w) X.A (eval b X.env) (fun u s₂=>wpAny (model X.prog X.w) X.A (f v u) Q X.xe s₂) X.xe s₁) X.xe s:=by
 refine thn (ha db s U H _ I h) fun v s1 ⟨x,H1,I1,r1,q1⟩=>?_;refine thn (hb db s1 U H1 _ I1 q1) fun u s2 ⟨y,H2,I2,r2,q2⟩=>?_;exact hf v u s2 x y H2 I2 r1 r2 q2
inductive VarR(i:Nat)(U:St)(H:Hp)(Q:VK):Prop
 |mk (v:V) (h:U[i]?=some (some v)) (k:Q v H):VarR i U H Q
def tVar(i:Nat):TE:=fun U H Q=>VarR i U H Q
def tC(v:V):TE:=fun _ H Q=>Q v H
def pe_var{x:Str}(hN:X.N[i]?=some x)(hv:Vis X.env.scope x)(hd:(x==("__debug__" : Str))=false:=by decide)(hcd:(x==("__classdict__" : Str))=false:=by decide):PE X (.Name x pos) (tVar i):=by
 intro db s U H Q I h;obtain⟨v,e,h⟩:=h;obtain⟨m,hn,hl⟩:=I.loc;obtain⟨u,r,l⟩:=hl i x v hN e hv;have fin:EP X db U Q u s:=⟨v,H,I,r,h⟩;rcases l with⟨hk,hm⟩|⟨hk,c,hc,hcell⟩
 ·exact wpAny_Name (wpAny_loadName_local I.ok.kind hk hn hm fin) hd
 ·rcases hk with hk|hk
  ·exact wpAny_Name (wpAny_loadName_cell I.ok.kind hk hc hcell fin) hd
  ·exact wpAny_Name (wpAny_loadName_free I.ok.kind hk hc hcell fin hcd) hd
def Zf{i j pos}:PE X (.Constant (.int i) j pos) (tC (.int i)):=fun _ _ _ H _ I h=>wpAny_Constant_int ⟨.int i,H,I.tok _,⟨_,rfl⟩,h⟩
def YR{b j pos}:PE X (.Constant (.bool b) j pos) (tC (.bl b)):=fun _ _ _ H _ I h=>Constant_bool ⟨.bl b,H,I,rfl,h⟩
def Zz{x j pos}:PE X (.Constant (.str x) j pos) (tC (.str x)):=fun _ _ _ H _ I h=>Calls.Constant_str ⟨.str x,H,I.tok _,⟨_,rfl⟩,h⟩
def Gl(X:Cx)(x:Str):Prop:=X.env.kindOf x=some .globalImplicit
def yB{x:Str}(I:Inv X db U H s)(hg:Gl X x)(hm:X.mg x=some u)(h:Q u s)
  (hd:(x==("__debug__" : Str))=false:=by decide):wpAny (model X.prog X.w) X.A (eval (.Name x pos) X.env) Q E s:=
 Calls.Name_function_global I.ok.kind hg (Calls.loadGlobal_global (by rw[I.ok.glob];exact I.mod.glob.keeps I.bk) hm h) hd
def VY{x:Str}(I:Inv X db U H s)(hg:Gl X x)(hm:X.mg x=none)(hv:bootBuiltins x=some u)(h:Q u s)
  (hn:x ≠ "__name__" := by decide) (hd:(x==("__debug__" : Str))=false:=by decide):wpAny (model X.prog X.w) X.A (eval (.Name x pos) X.env) Q E s:=by
 obtain⟨mb,h1,h2⟩:=I.mod.blt;exact Calls.Name_function_global I.ok.kind hg (Calls.loadGlobal_builtin (by rw[I.ok.glob];exact I.mod.glob.keeps I.bk) hm (by rw[I.ok.blt];exact h1.keeps I.bk) ((h2 x hn).trans hv) h) hd
def pe_glob{x:Str}(hg:Gl X x)(hm:X.mg x=some u)(r:ZU v u)(hd:(x==("__debug__" : Str))=false:=by decide):PE X (.Name x pos) (tC v):=
 fun _ _ _ H _ I h=>yB I hg hm ⟨v,H,I,r,h⟩ hd
def Xz{x:Str}(hg:Gl X x)(hm:X.mg x=none)(hv:bootBuiltins x=some u)(r:ZU v u)(hn:x ≠ "__name__" := by decide)(hd:(x==("__debug__" : Str))=false:=by decide):PE X (.Name x pos) (tC v):=
 fun _ _ _ H _ I h=>VY I hg hm hv ⟨v,H,I,r,h⟩ hn hd
variable{a b:Expr}{ta tb:TE}{pos:Pos}
def PC(X:Cx)(op:CmpOp)(a b:Expr)(t:TE):Prop:=
 ∀(db:List (Addr×Obj)) (s:Shared) (U:St) (H:Hp) (Q:VK),Inv X db U H s->t U H Q ->
  wpAny (model X.prog X.w) X.A (eval a X.env) (fun v s₁=>wpAny (model X.prog X.w) X.A (eval b X.env) (fun u s₂=>wpAny (model X.prog X.w) X.A (compareOp op v u) (EP X db U Q) X.xe s₂) X.xe s₁) X.xe s
def nobehind(b:Expr)(h:op≠.In)(h2:op≠.NotIn):behindInMarks op b=false:=by
 have e1:(op==CmpOp.In)=false:=by cases op<;>first|rfl|exact absurd rfl h
 have e2:(op==CmpOp.NotIn)=false:=by cases op<;>first|rfl|exact absurd rfl h2
 cases b<;>simp[behindInMarks,e1,e2]
inductive BoolR(x:V)(H:Hp)(Q:Bool->Hp->Prop):Prop
 |mk (c:Bool) (h:x=.bl c) (k:Q c H):BoolR x H Q
def tB(t:TE):TT:=fun U H Q=>t U H fun x H1=>BoolR x H1 Q
def pt_cmp{t:TE}(h:PC X op a b t)(h1:behindInMarks op b=false:=by first|exact nobehind _ (by decide) (by decide)|rfl):PT X (.Compare a [op] [b] pos) (tB t):=by
 intro db s U H Q I hw;refine wpAny_isTrue_Compare1 (thn (h db s U H _ I hw) fun v s1 h1=>thn h1 fun u s2 h2=>thn h2 fun c s3 ⟨x,H1,I1,r1,q1⟩=>?_) h1;obtain⟨d,rfl,q⟩:=q1;cases r1;exact iA ⟨H1,I1,q⟩
def Xf{t:TE}(h:PE X e t)(he:∀whole,isTrue e X.env whole=(do let v <- whole;standAt e.pos;holding [v] (truthy v)):=by intro _;rfl):PT X e (tB t):=by
 intro db s U H Q I hw;refine isTrue_plain (thn (h db s U H _ I hw) fun v s1 ⟨x,H1,I1,r1,q1⟩=>?_) (he _);obtain⟨d,rfl,q⟩:=q1;cases r1;exact iA ⟨H1,I1,q⟩
variable{tA tB':TT}{XH:List Expr}
def tAnd(t u:TT):TT:=fun U H Q=>t U H fun c H1=>if c=true then u U H1 Q else Q false H1
def tOr(t u:TT):TT:=fun U H Q=>t U H fun c H1=>if c=true then Q true H1 else u U H1 Q
def tNot(t:TT):TT:=fun U H Q=>t U H fun c H1=>Q (!c) H1
def pw_and1(ha:PT X a tA):PW X (.BoolOp .And [a] pos) tA:=by
 intro wh db s U H Q I h;refine isTrue_and (thn (ha db s U H Q I h) fun c s1 e=>?_);cases c with
 |true=>exact isTrue_and_nil e
 |false=>exact e
def Vt(ha:PT X a tA):PW X (.BoolOp .Or [a] pos) tA:=by
 intro wh db s U H Q I h;refine isTrue_or (thn (ha db s U H Q I h) fun c s1 e=>?_);cases c with
 |false=>exact isTrue_or_nil e
 |true=>exact e
def pw_and(ha:PT X a tA)(hb:PW X (.BoolOp .And (b::XH) pos) tB'):PW X (.BoolOp .And (a::b::XH) pos) (tAnd tA tB'):=by
 intro wh db s U H Q I h;refine isTrue_and (thn (ha db s U H _ I h) fun c s1 ⟨H1,I1,q1⟩=>?_);cases c with
 |true=>exact hb wh db s1 U H1 Q I1 q1
 |false=>exact⟨H1,I1,q1⟩
def Ut(ha:PT X a tA)(hb:PW X (.BoolOp .Or (b::XH) pos) tB'):PW X (.BoolOp .Or (a::b::XH) pos) (tOr tA tB'):=by
 intro wh db s U H Q I h;refine isTrue_or (thn (ha db s U H _ I h) fun c s1 ⟨H1,I1,q1⟩=>?_);cases c with
 |true=>exact⟨H1,I1,q1⟩
 |false=>exact hb wh db s1 U H1 Q I1 q1
def YY(ha:PT X a tA):PT X (.UnaryOp .Not a pos) (tNot tA):=by
 intro db s U H Q I h;exact isTrue_not (ha db s U H (fun c H1=>Q (!c) H1) I h)
def tAndV(ta tb:TE):TE:=fun U H Q=>ta U H fun x H1=>∃c,x=.bl c/\if c=true then tb U H1 Q else Q (.bl false) H1
def tOrV(ta tb:TE):TE:=fun U H Q=>ta U H fun x H1=>∃c,x=.bl c/\if c=true then Q (.bl true) H1 else tb U H1 Q
def tNotV(ta:TE):TE:=fun U H Q=>ta U H fun x H1=>∃c,x=.bl c/\Q (.bl (!c)) H1
def Xc{op}{t:TE}(h:PE X a t):PE X (.BoolOp op [a] pos) t:=fun db s U H Q I hw=>BoolOp_one (h db s U H Q I hw)
def Xq(ha:PE X a ta)(hb:PE X (.BoolOp .And (b::XH) pos) tb):PE X (.BoolOp .And (a::b::XH) pos) (tAndV ta tb):=by
 intro db s U H Q I h;refine BoolOp_and (thn (ha db s U H _ I h) fun v s1 ⟨x,H1,I1,r1,q1⟩=>?_);obtain⟨c,rfl,q1⟩:=q1;cases r1;refine iA ?_;cases c with
 |true=>exact hb db s1 U H1 Q I1 q1
 |false=>exact⟨.bl false,H1,I1,rfl,q1⟩
def pe_or(ha:PE X a ta)(hb:PE X (.BoolOp .Or (b::XH) pos) tb):PE X (.BoolOp .Or (a::b::XH) pos) (tOrV ta tb):=by
 intro db s U H Q I h;refine BoolOp_or (thn (ha db s U H _ I h) fun v s1 ⟨x,H1,I1,r1,q1⟩=>?_);obtain⟨c,rfl,q1⟩:=q1;cases r1;refine iA ?_;cases c with
 |false=>exact hb db s1 U H1 Q I1 q1
 |true=>exact⟨.bl true,H1,I1,rfl,q1⟩
def pe_not(ha:PE X a ta):PE X (.UnaryOp .Not a pos) (tNotV ta):=by
 intro db s U H Q I h;refine UnaryOp_ (thn (ha db s U H _ I h) fun v s1 ⟨x,H1,I1,r1,q1⟩=>?_);obtain⟨c,rfl,q1⟩:=q1;cases r1;exact not_of (iA ⟨.bl (!c),H1,I1,rfl,q1⟩)
def tIf(t:TT)(ta tb:TE):TE:=fun U H Q=>t U H fun c H1=>if c=true then ta U H1 Q else tb U H1 Q
def Jw{c:Expr}(hc:PT X c tA)(ha:PE X a ta)(hb:PE X b tb):PE X (.IfExp c a b pos) (tIf tA ta tb):=by
 intro db s U H Q I h;refine wpAny_IfExp (thn (hc db s U H _ I h) fun d s1 ⟨H1,I1,q1⟩=>?_);cases d with
 |true=>exact ha db s1 U H1 Q I1 q1
 |false=>exact hb db s1 U H1 Q I1 q1
end
def SqL(K:W.Frag)(H:Hp)(a:Addr)(xs:List V):Prop:=
 Rd H a (.lst xs) \/
  ∃(o:Obj) (its:Array Value) (n:Nat),K.lookup a=some o/\o.cls=.type "list" /\ o.dict=none/\o.data=.seq its n/\its.size<=sizeLine/\ZK xs its.toList
def SqT(K:W.Frag)(H:Hp)(a:Addr)(xs:List V):Prop:=
 Rd H a (.tup xs) \/
  ∃(o:Obj) (its:Array Value) (n:Nat),K.lookup a=some o/\o.cls=.type "tuple" /\ o.data=.seq its n/\its.size<=sizeLine/\ZK xs its.toList
def absV:Value->Option V
 |.none=>some .non
 |.bool b=>some (.bl b)
 |.int i _=>some (.int i)
 |.str x _=>some (.str x)
 |.bytes b _=>some (.byt b)
 |.float b _=>some (.flt b)
 |.ref a=>some (.ref a)
 |.type n=>some (.ty n)
 |_=>none
def ZU.abs{x:V}(r:ZU x u):absV u=some x:=by
 cases x with
 |non=>cases r;rfl
 |bl _=>cases r;rfl
 |int _=>obtain⟨t,rfl⟩:=r;rfl
 |str _=>obtain⟨t,rfl⟩:=r;rfl
 |byt _=>obtain⟨t,rfl⟩:=r;rfl
 |flt _=>obtain⟨t,rfl⟩:=r;rfl
 |ref _=>cases r;rfl
 |ty _=>cases r;rfl
def ZU.inj{x y:V}{u:Value}(r:ZU x u)(q:ZU y u):x=y:=fY (r.abs.symm.trans q.abs)
def ZK.inj:∀{xs ys:List V}{us:List Value},ZK xs us->ZK ys us->xs=ys
 |_,_,_,.nil,.nil=>rfl
 |_,_,_,.cons r t,.cons r' t'=>by rw[r.inj r',ZK.inj t t']
section
variable{a:Addr}{xs ys:List V}
def SqL.of(h:H a=some (.lst xs)):SqL K H a xs:=.inl (.inl h)
def oj:=@SqL.of
def SqT.of(h:H a=some (.tup xs)):SqT K H a xs:=.inl (.inl h)
def on:=@SqT.of
def Inv.list(I:Inv X db U H s)(h:SqL X.K H a xs):∃its:List Value,ZK xs its/\PlainL s.heap a its.toArray/\xs.length<=sizeLine:=by
 rcases h with h|⟨o,its,n,hk,hc,hd,hs,hz,r⟩
 ·obtain⟨z,its,n,r,e⟩:=h.ok I.hok;exact⟨its,r,⟨_,n,e,rfl,rfl,rfl⟩,z⟩
 ·refine⟨its.toList,r,⟨o,n,I.kIn a o hk,hc,hd,by simpa using hs⟩,?_⟩;have e:=r.length;simp only[im] at e;omega
def Inv.tuple(I:Inv X db U H s)(h:SqT X.K H a xs):∃its:List Value,ZK xs its/\IsTup s.heap a its.toArray/\xs.length<=sizeLine:=by
 rcases h with h|⟨o,its,n,hk,hc,hs,hz,r⟩
 ·obtain⟨z,its,r,p⟩:=h.ok I.hok;exact⟨its,r,p,z⟩
 ·refine⟨its.toList,r,⟨o,I.kIn a o hk,hc,n,by simpa using hs⟩,?_⟩;have e:=r.length;simp only[im] at e;omega
def Inv.list_inj(I:Inv X db U H s)(h:SqL X.K H a xs)(h':SqL X.K H a ys):xs=ys:=by
 obtain⟨its,r,⟨o,n,e,_,_,d⟩,_⟩:=I.list h;obtain⟨its',r',⟨o',n',e',_,_,d'⟩,_⟩:=I.list h';rw[e] at e';cases e';rw[d] at d';injection d' with d1 _;have:its=its':=by simpa using fS Array.toList d1
 subst this;exact r.inj r'
def Inv.tuple_inj(I:Inv X db U H s)(h:SqT X.K H a xs)(h':SqT X.K H a ys):xs=ys:=by
 obtain⟨its,r,⟨o,e,_,n,d⟩,_⟩:=I.tuple h;obtain⟨its',r',⟨o',e',_,n',d'⟩,_⟩:=I.tuple h';rw[e] at e';cases e';rw[d] at d';injection d' with d1 _;have:its=its':=by simpa using fS Array.toList d1
 subst this;exact r.inj r'
end
abbrev Cx.wish(X:Cx)(E:Value->Shared->Prop):Cx:={ X with xe:=E }
abbrev Cx.nox(X:Cx):Cx:=X.wish fun _ _=>False
def Cx.Ok.wish{X:Cx}(ok:X.Ok)(E:Value->Shared->Prop):(X.wish E).Ok:=
 ⟨ok.mod,ok.kind,ok.glob,ok.blt,ok.above,ok.inj,ok.has,ok.cab,ok.hd,ok.frames,ok.stk,ok.exf,ok.bs,ok.bsz,ok.noex,ok.exfs,ok.funs,ok.frf⟩
def Cx.Ok.unwish(ok:(X.wish E).Ok):X.Ok:=
 ⟨ok.mod,ok.kind,ok.glob,ok.blt,ok.above,ok.inj,ok.has,ok.cab,ok.hd,ok.frames,ok.stk,ok.exf,ok.bs,ok.bsz,ok.noex,ok.exfs,ok.funs,ok.frf⟩
def Inv.wish(I:Inv X db U H s)(E:Value->Shared->Prop):Inv (X.wish E) db U H s:=⟨I.ok.wish E,I.os,I.bare,I.base,I.loc,I.cell,I.free,I.freeC,I.pin,I.hok,I.len⟩
def Inv.unwish(I:Inv (X.wish E) db U H s):Inv X db U H s:=⟨I.ok.unwish,I.os,I.bare,I.base,I.loc,I.cell,I.free,I.freeC,I.pin,I.hok,I.len⟩
def SP.unwish{D:Ends}{f:Flow}{s':Shared}(h:SP (X.wish E) db D f s'):SP X db D f s':=by
 cases f with
 |next=>obtain⟨σ',H',I,q⟩:=h;exact⟨σ',H',I.unwish,q⟩
 |brk=>obtain⟨σ',H',I,q⟩:=h;exact⟨σ',H',I.unwish,q⟩
 |cont=>obtain⟨σ',H',I,q⟩:=h;exact⟨σ',H',I.unwish,q⟩
 |ret u=>obtain⟨v,σ',H',I,r,q⟩:=h;exact⟨v,σ',H',I.unwish,r,q⟩
def PSs.nox{st:List Stmt}{t:TS}(h:PSs X.nox st t):PSs X st t:=fun db s U H D I hw=>
 ik (h db s U H D (I.wish _) hw) (fun _ _ q=>q.unwish) fun _ _ z=>False.elim z
section
variable{X:Cx}{st:Stmt}{XH:List Stmt}{t u:TS}{e:Expr}{te:TE}{pos:Pos}
def tNext:TS:=fun D U H=>D.nx U H
def tSeq(t u:TS):TS:=fun D U H=>t { D with nx:=u D } U H
def ZD:PSs X [] tNext:=fun _ _ U H _ I h=>wpAny_execs_nil ⟨U,H,I,h⟩
def Zc(h1:PS X st t)(h2:PSs X XH u):PSs X (st::XH) (tSeq t u):=by
 intro db s U H D I h;refine wpAny_execs_cons (thn (h1 db s U H { D with nx:=u D } I h) fun f s1 q=>?_);cases f with
 |next=>
  obtain⟨σ',H',I',q⟩:=q;exact h2 db s1 σ' H' D I' q
 |ret v=>exact q
 |brk=>exact q
 |cont=>exact q
def Zh(h1:PS X st t):PSs X [st] t:=by
 intro db s U H D I h;refine wpAny_execs_cons (thn (h1 db s U H D I h) fun f s1 q=>?_);cases f with
 |next=>exact wpAny_execs_nil q
 |ret v=>exact q
 |brk=>exact q
 |cont=>exact q
def Inv.quiet(I:Inv X db U H s):interactive X.env=false:=by simp[interactive,I.ok.kind]
def tDrop(te:TE):TS:=fun D U H=>te U H fun _ H1=>D.nx U H1
def Yh(he:PE X e te)(hs:swapsWith e none pos.line X.env=pure false:=by rfl):PS X (.Expr e pos) (tDrop te):=by
 intro db s U H D I h;exact wpAny_Expr_any (thn (he db s U H _ I h) fun v s1 ⟨x,H1,I1,r1,q1⟩=>⟨U,H1,I1,q1⟩) I.quiet hs
def tRet(te:TE):TS:=fun D U H=>te U H D.rt
def Zm(he:PE X e te):PS X (.Return (some e) pos) (tRet te):=by
 intro db s U H D I h;exact wpAny_Return_some (thn (he db s U H _ I h) fun v s1 ⟨x,H1,I1,r1,q1⟩=>⟨x,U,H1,I1,r1,q1⟩)
def tIfS(c:TT)(t u:TS):TS:=fun D U H=>c U H fun b H1=>if b=true then t D U H1 else u D U H1
def ZZ{c:Expr}{a b:List Stmt}{tc:TT}(hc:PT X c tc)(ha:PSs X a t)(hb:PSs X b u):PS X (.If c a b pos) (tIfS tc t u):=by
 intro db s U H D I h;refine wpAny_If (thn (hc db s U H _ I h) fun d s1 ⟨H1,I1,q1⟩=>?_);cases d with
 |true=>exact ha db s1 U H1 D I1 q1
 |false=>exact hb db s1 U H1 D I1 q1
def tNever:TS:=fun _ _ _=>False
def Jc:PS X st tNever:=fun _ _ _ _ _ _ h=>h.elim
end
abbrev TG:=V->St->Hp->(St->Hp->Prop)->Prop
abbrev TGs:=List V->St->Hp->(St->Hp->Prop)->Prop
def PG(X:Cx)(target:Expr)(t:TG):Prop:=
 ∀(db:List (Addr×Obj)) (s:Shared) (U:St) (H:Hp) (v:V) (u:Value) (Q:St->Hp->Prop),Inv X db U H s->ZU v u->t v U H Q ->
  wpAny (model X.prog X.w) X.A (assign target X.env u) (fun _ s'=>∃σ' H',Inv X db σ' H' s'/\Q σ' H') X.xe s
def PGs(X:Cx)(ts:List Expr)(t:TGs):Prop:=
 ∀(db:List (Addr×Obj)) (s:Shared) (U:St) (H:Hp) (vs:List V) (us:List Value) (Q:St->Hp->Prop),Inv X db U H s->ZK vs us->t vs U H Q ->
  wpAny (model X.prog X.w) X.A (assignInOrder ((assignEach ts X.env).map (·.2)) us) (fun _ s'=>∃σ' H',Inv X db σ' H' s'/\Q σ' H') X.xe s
abbrev TIp:=V->V->Hp->VK->Prop
def PIp(X:Cx)(op:Operator)(t:TIp):Prop:=
 ∀(db:List (Addr×Obj)) (s:Shared) (U:St) (H:Hp) (x y:V) (v u:Value) (Q:VK),Inv X db U H s->ZU x v->ZU y u->t x y H Q ->
  wpAny (model X.prog X.w) X.A (inplaceOp op v u) (EP X db U Q) X.xe s
section
variable{X:Cx}{pos:Pos}
def VR(i:Nat):TG:=fun v U H Q=>Q (U.set i (some v)) H
def Zo{x:Str}(hN:X.N.Nodup)(hi:X.N[i]?=some x)(hx:Loc X.env.scope x)(hf:X.fn x=true\/X.env.scope.names.lookup x=some .local:=by first|exact .inl rfl|exact .inr rfl|assumption):PG X (.Name x pos) (VR i):=by
 intro db s U H v u Q I r h;exact wpAny_assign_Name (xV I hN hi hx r (fun s' I'=>⟨_,H,I',h⟩) hf)
def gNil:TGs:=fun vs U H Q=>vs=[]/\Q U H
def gCons(t:TG)(u:TGs):TGs:=fun vs U H Q=>∃v r,vs=v::r/\t v U H fun σ' H'=>u r σ' H' Q
def Ws:PGs X [] gNil:=by
 intro db s U H vs us Q I r h;obtain⟨e,h⟩:=h;subst e;cases r;exact assignInOrder_nil ⟨U,H,I,h⟩
def Yb{es:List Expr}{t:TG}{u:TGs}(h1:PG X e t)(h2:PGs X es u)
  (hs:(assignEach (e::es) X.env).map (·.2)=assign e X.env::(assignEach es X.env).map (·.2):=by rfl):PGs X (e::es) (gCons t u):=by
 intro db s U H vs us Q I r h;obtain⟨v,vr,e1,h⟩:=h;subst e1;cases r with
 |cons r rr=>
  rw[hs];refine assignInOrder_cons (thn (h1 db s U H _ _ _ I r h) fun _ s1 ⟨σ1,H1,I1,q1⟩=>?_);exact h2 db s1 σ1 H1 _ _ Q I1 rr q1
def gTup(K:W.Frag)(n:Nat)(t:TGs):TG:=fun v U H Q=>∃a xs,v=.ref a/\SqT K H a xs/\xs.length=n/\t xs U H Q
def pg_tup{es:List Expr}{k:Nat}{t:TGs}(hc:X.calm=true)(h:PGs X es t)
  (hn:(assignEach es X.env).length=n:=by rfl) (hst:(assignEach es X.env).findIdx? (·.1)=none:=by rfl):PG X (.Tuple es k pos) (gTup X.K n t):=by
 intro db s U H v u Q I r hw;obtain⟨a,xs,e1,hq,hl,hw⟩:=hw;subst e1;cases r;obtain⟨its,rv,ht,hz⟩:=I.tuple hq;refine assign_Tuple_tuple (I.ok.hd hc) ht (by simp[hn,<- hl,rv.length]) hst fun h' hx=>?_;have I1:Inv X db U H { s with heap:=h' }:=I.kept (t':=s.toks) fun b o e=>hx b o (fP (fN e)) e;exact h db _ U H xs _ Q I1 (by simpa using rv) hw
def tAsg(te:TE)(g:TG):TS:=fun D U H=>te U H fun x H1=>g x U H1 D.nx
def ps_asg{g:TG}(he:PE X e te)(hg:PG X tg g)(hs:swapsWithSole [tg] e pos.line X.env=pure false:=by rfl)(hw:swappedStores [tg] e X.env=pure none:=by rfl)
  (h1:(assignEach [tg] X.env).map (·.2)=[assign tg X.env]:=by rfl):PS X (.Assign [tg] e pos) (tAsg te g):=by
 intro db s U H D I h;refine wpAny_Assign_stores (thn (he db s U H _ I h) fun v s1 ⟨x,H1,I1,r1,q1⟩=>?_) hs hw;rw[h1];exact thn (hg db s1 U H1 x v _ I1 r1 q1) fun _ s2 q=>q
def Zn{i:Nat}{x:Str}{e:Expr}{te:TE}{pos':Pos}(hN:X.N.Nodup)(hi:X.N[i]?=some x)(hx:Loc X.env.scope x)(he:PE X e te)(hs:swapsWith e (some (.Name x pos')) pos.line X.env=pure false:=by rfl)(hf:X.fn x=true\/X.env.scope.names.lookup x=some .local:=by first|exact .inl rfl|exact .inr rfl|assumption) :
  PS X (.Assign [.Name x pos'] e pos) (tAsg te (VR i)):=by
 intro db s U H D I h;refine wpAny_Assign_Name (thn (he db s U H _ I h) fun v s1 ⟨y,H1,I1,r1,q1⟩=>?_) hs;exact xV I1 hN hi hx r1 (fun s2 I2=>⟨_,H1,I2,q1⟩) hf
def tAug(i:Nat)(te:TE)(ti:TIp):TS:=fun D U H=>∃x,U[i]?=some (some x)/\te U H fun y H1=>ti x y H1 fun z H2=>D.nx (U.set i (some z)) H2
def ps_aug{x:Str}{op:Operator}{ti:TIp}(hN:X.N.Nodup)(hi:X.N[i]?=some x)(hx:Loc X.env.scope x)(he:PE X e te)(ho:PIp X op ti)(hf:X.fn x=true\/X.env.scope.names.lookup x=some .local:=by first|exact .inl rfl|exact .inr rfl|assumption) :
  PS X (.AugAssign (.Name x pos') op e pos) (tAug i te ti):=by
 intro db s U H D I h;obtain⟨v,e1,h⟩:=h;obtain⟨m,hn,hl⟩:=I.loc;have vis:Vis X.env.scope x:=by rcases hx with k|k;exact .inl k;exact .inr (.inl k)
 obtain⟨u,r,l⟩:=hl i x v hi e1 vis;refine wpAny_AugAssign_Name ?_;have go:wpAny (model X.prog X.w) X.A (eval e X.env) (fun w s₂=>wpAny (model X.prog X.w) X.A (inplaceOp op u w) (fun r s₃=>wpAny (model X.prog X.w) X.A (storeName X.env x r) (fun _=>SP X db D .next) X.xe s₃) X.xe s₂) X.xe s:=by
  refine thn (he db s U H _ I h) fun w s1 ⟨y,H1,I1,r1,q1⟩=>?_;refine thn (ho db s1 U H1 v y u w _ I1 r r1 q1) fun z s2 ⟨zv,H2,I2,r2,q2⟩=>?_;exact xV I2 hN hi hx r2 (fun s3 I3=>⟨_,H2,I3,q2⟩) hf
 rcases l with⟨hk,hm⟩|⟨hk,c,hc,hcell⟩
 ·exact wpAny_loadName_local I.ok.kind hk hn hm go
 ·rcases hk with hk|hk
  ·exact wpAny_loadName_cell I.ok.kind hk hc hcell go
  ·rcases hx with k|k
   ·have:X.env.scope.names.lookup x=some .free:=hk;rw[k] at this;cases this
   ·have:X.env.scope.names.lookup x=some .free:=hk;rw[k] at this;cases this
def ipI(f:Int->Int->Int):TIp:=fun x y H Q=>∃i j,x=.int i/\y=.int j/\Q (.int (f i j)) H
def ip_sub:PIp X .Sub (ipI fun i j=>i-j):=by
 intro db s U H x y v u Q I r1 r2 h;obtain⟨i,j,e1,e2,q⟩:=h;subst e1;subst e2;obtain⟨t,rfl⟩:=r1;obtain⟨t',rfl⟩:=r2;exact isub_int ⟨.int _,H,I.tok _,⟨_,rfl⟩,q⟩
end
def tWhile(c:TT)(tb:TS):TS:=fun D U H=>∃W:Nat->St->Hp->Prop,(∃m,W m U H)/\∀m U H,W m U H ->
 c U H fun b H1=>if b=true then ∃N:St->Hp->Prop,(∀σ' H',N σ' H'->∃m',m'<m/\W m' σ' H')/\tb { D with nx:=N,ct:=N,bk:=D.nx } U H1 else D.nx U H1
def VN{c:Expr}{tc:TT}(hp:PassesOwn (model X.prog X.w) X.A X.env X.xe)(hc:PT X c tc)(hb:PSs X body tb):PS X (.While c body [] pos) (tWhile tc tb):=by
 intro db s U H D I h;obtain⟨W,⟨m0,w0⟩,turn⟩:=h;refine wpAny_While (codeAny_whileLoop (fun n s'=>∃σ' H',Inv X db σ' H' s'/\W n σ' H') ?_ m0 ⟨U,H,I,w0⟩);rintro n s1 ⟨σ1,H1,I1,w1⟩;refine lS hp (thn (hc db s1 σ1 H1 _ I1 (turn n σ1 H1 w1)) fun b s2 ⟨H2,I2,q2⟩=>?_);cases b with
 |true=>
  obtain⟨N,hN,q2⟩:=q2;rw[if_pos rfl];refine lS hp (thn (hb db s2 σ1 H2 _ I2 q2) fun f s3 q3=>?_);cases f with
  |next=>
   obtain⟨σ3,H3,I3,n3⟩:=q3;obtain⟨m',hm,w3⟩:=hN σ3 H3 n3;exact⟨m',hm,σ3,H3,I3,w3⟩
  |cont=>
   obtain⟨σ3,H3,I3,n3⟩:=q3;obtain⟨m',hm,w3⟩:=hN σ3 H3 n3;exact⟨m',hm,σ3,H3,I3,w3⟩
  |brk=>exact q3
  |ret v=>exact q3
 |false=>
  rw[if_neg gk];exact wpAny_execs_nil ⟨σ1,H2,I2,q2⟩
structure It where
 go:Nat->Hp->Prop
 yld:Nat->Hp->V->Hp->Prop
 stop:Nat->Hp->Prop
def Vz(X:Cx)(db:List (Addr×Obj))(H:Hp)(b:Addr):Prop:=
 H b=none/\b≠X.env.locals/\b∉X.fs/\(b∈X.ex\/X.s₀.heap.objs.size<=b)/\(∀x c,X.env.cells.lookup x=some c->c≠b)/\∀p∈X.pn++db,p.1≠b
def Inv.fpOk{b:Addr}(I:Inv X db U H s)(hb:s.heap.objs.size<=b)(hn:H' b=none):Vz X db H' b:=by
 refine⟨hn,gQ (gA I.lt hb),I.nofs hb,.inr (fU I.sz hb),fun x c e z=>?_,fun p hp z=>?_⟩
 ·obtain⟨v,q⟩:=I.cell x c e;exact absurd (gA q.lt (by rw[z];exact hb)) (iy _)
 ·exact absurd (gA (fN (I.pin p hp).1) (by rw[z];exact hb)) (iy _)
structure Turn(P:Program)(w:World)(K:W.Frag)(tg:Expr)(J:It)(fp:List Addr)(it:Addr)(tn:Nat->Heap->Prop):Prop where
 mem:it∈fp
 obj:∀i h,tn i h->∀b∈fp,∃o,h.get? b=some o/\∀v,o.data≠.cell v
 keep:∀i h h',tn i h->(∀b∈fp,∀o,h.get? b=some o->h'.get? b=some o)->tn i h'
 item:∀(X:Cx),X.prog=P->X.w=w->X.K=K->X.calm=true->∀(i:Nat) (db:List (Addr×Obj)) (s:Shared) (U:St) (H:Hp) (E:Value->Shared->Prop),Inv X db U H s->(∀b∈fp,Vz X db H b)->tn i s.heap->J.go i H ->
  wpAny (model P w) X.A (pyNext (.ref it)) (fun r s1=>∃u,r=some u /\
   wpAny (model P w) X.A (letOwnedTupleGo tg (.ref it) u) (fun _ s2=>∃x H',Inv X db U H' s2/\ZU x u/\J.yld i H x H'/\tn (i+1) s2.heap/\∀b∈fp,H' b=none) E s1) E s
 done:∀(X:Cx),X.prog=P->X.w=w->X.K=K->X.calm=true->∀(i:Nat) (db:List (Addr×Obj)) (s:Shared) (U:St) (H:Hp) (E:Value->Shared->Prop),Inv X db U H s->(∀b∈fp,Vz X db H b)->tn i s.heap->J.stop i H ->
  wpAny (model P w) X.A (pyNext (.ref it)) (fun r s1=>r=none/\Inv X db U H s1) E s
 self:∀(A:Around) (i:Nat) (s:Shared) (Q:Value->Shared->Prop) (E:Value->Shared->Prop),tn i s.heap->Q (.ref it) s->wpAny (model P w) A (pyIter (.ref it)) Q E s
abbrev TI:=St->Hp->(It->Hp->Prop)->Prop
def PIE(X:Cx)(db:List (Addr×Obj))(U:St)(tg:Expr)(R:It->Hp->Prop)(itv:Value)(s2:Shared):Prop:=
 ∃(it:Addr) (fp:List Addr) (tn:Nat->Heap->Prop) (J:It) (H':Hp),itv=.ref it/\Inv X db U H' s2/\Turn X.prog X.w X.K tg J fp it tn/\tn 0 s2.heap/\(∀b∈fp,Vz X db H' b)/\R J H'
def PI(X:Cx)(tg iter:Expr)(wi:TI):Prop:=
 ∀(db:List (Addr×Obj)) (s:Shared) (U:St) (H:Hp) (R:It->Hp->Prop),Inv X db U H s->wi U H R ->
  wpAny (model X.prog X.w) X.A (eval iter X.env) (fun v s1=>wpAny (model X.prog X.w) X.A (pyIter v) (PIE X db U tg R) X.xe s1) X.xe s
def go_of{it:Addr}{o:Obj}{n:String}{vs:Array Value}{Q:Unit->Shared->Prop}(ho:s.heap.get? it=some o)(hc:o.cls=.type n)(hd:o.data=.fields vs)
    (hn:["enumerate","zip","dict_itemiterator","dict_reverseitemiterator","odict_iterator","itertools.zip_longest","itertools.pairwise"].contains n=false) (hQ:Q () s):wpAny M A (letOwnedTupleGo tg (.ref it) u) Q E s:=by
  unfold letOwnedTupleGo;cases tg<;>first
    |exact fI hQ
    | (cases u<;>first
        |exact fI hQ
        | (refine fD (wpAny_load ho ?_)
           rw[hc,hd]
           show wpAny M A (if(["enumerate","zip","dict_itemiterator","dict_reverseitemiterator","odict_iterator","itertools.zip_longest","itertools.pairwise"].contains n&&vs[0]?==some (rawInt _))=true then _ else _) Q E s
           rw[if_neg (by intro h;rw[hn,iM] at h;cases h)];exact fI hQ))
def Itl(K:W.Frag)(a:Addr):It:=
 ⟨fun i H=>∃xs x,SqL K H a xs/\xs[i]?=some x,fun i H x H'=>H'=H/\∀xs,SqL K H a xs->xs[i]?=some x,fun i H=>∃xs,SqL K H a xs/\xs.length<=i⟩
def Itt(K:W.Frag)(a:Addr):It:=
 ⟨fun i H=>∃xs x,SqT K H a xs/\xs[i]?=some x,fun i H x H'=>H'=H/\∀xs,SqT K H a xs->xs[i]?=some x,fun i H=>∃xs,SqT K H a xs/\xs.length<=i⟩
def Itr(lo:Int)(n:Nat):It:=⟨fun i _=>i<n,fun i H x H'=>H'=H/\x=.int (lo+i),fun i _=>n<=i⟩
def turn_list(a it:Addr):Turn P w K tg (Itl K a) [it] it (fun i h=>h.IsListIter it a i) where
 mem:=by simp
 obj:=fun i h st b hb=>by
  have e:b=it:=by simpa using hb
  subst e;obtain⟨o,e,c,d⟩:=st;exact⟨o,e,fun v z=>by rw[d] at z;cases z⟩
 keep:=fun i h h' st k=>st.at fun o e=>k it (by simp) o e
 item:=by
  intro X hP hw hK hc i db s U H E I hf st hg;subst hP hw hK;obtain⟨xs,x,hq,hx⟩:=hg;obtain⟨its,rv,p,hz⟩:=I.list hq;obtain⟨u,hu,ru⟩:=rv.get hx;obtain⟨f0,f1,f2,f3,f4,f5⟩:=hf it (by simp);refine wpAny_pyNext_list_item st p.isList (x:=u) (by simpa using hu) fun h' st' sb=>?_;have I1:Inv X db U H { s with heap:=h' }:=I.turned (t':=s.toks) (fun b o hb e=>(sb.2 b hb).trans e) f0 f1 f3 f4 f5;obtain⟨o,e,c,d⟩:=id st';exact⟨u,rfl,go_of (s:={ s with heap:=h' }) e c d (by decide) ⟨x,H,I1,ru,⟨rfl,fun ys hy=>by rw[I.list_inj hy hq];exact hx⟩,st',fun b hb=>(hf b hb).1⟩⟩
 done:=by
  intro X hP hw hK hc i db s U H E I hf st hg;subst hP hw hK;obtain⟨xs,hq,hx⟩:=hg;obtain⟨its,rv,p,hz⟩:=I.list hq;obtain⟨f0,f1,f2,f3,f4,f5⟩:=hf it (by simp);have hl:=rv.length;exact wpAny_pyNext_list_end (I.ok.hd hc) st p.isList (by simp;omega) fun h' eb=>⟨rfl,I.turned (t':=s.toks) (fun b o hb e=>eb b o hb e) f0 f1 f3 f4 f5⟩
 self:=fun _ _ _ _ _ st h=>wpAny_pyIter_listiter st h
def Kc(a it:Addr):Turn P w K tg (Itt K a) [it] it (fun i h=>h.IsTupleIter it a i) where
 mem:=by simp
 obj:=fun i h st b hb=>by
  have e:b=it:=by simpa using hb
  subst e;obtain⟨o,e,c,d⟩:=st;exact⟨o,e,fun v z=>by rw[d] at z;cases z⟩
 keep:=fun i h h' st k=>st.at fun o e=>k it (by simp) o e
 item:=by
  intro X hP hw hK hc i db s U H E I hf st hg;subst hP hw hK;obtain⟨xs,x,hq,hx⟩:=hg;obtain⟨its,rv,p,hz⟩:=I.tuple hq;obtain⟨u,hu,ru⟩:=rv.get hx;obtain⟨f0,f1,f2,f3,f4,f5⟩:=hf it (by simp);refine wpAny_pyNext_tuple_item st (show s.heap.IsTuple a its.toArray from p) (x:=u) (by simpa using hu) fun h' st' sb=>?_;have I1:Inv X db U H { s with heap:=h' }:=I.turned (t':=s.toks) (fun b o hb e=>(sb.2 b hb).trans e) f0 f1 f3 f4 f5;obtain⟨o,e,c,d⟩:=id st';exact⟨u,rfl,go_of (s:={ s with heap:=h' }) e c d (by decide) ⟨x,H,I1,ru,⟨rfl,fun ys hy=>by rw[I.tuple_inj hy hq];exact hx⟩,st',fun b hb=>(hf b hb).1⟩⟩
 done:=by
  intro X hP hw hK hc i db s U H E I hf st hg;subst hP hw hK;obtain⟨xs,hq,hx⟩:=hg;obtain⟨its,rv,p,hz⟩:=I.tuple hq;obtain⟨f0,f1,f2,f3,f4,f5⟩:=hf it (by simp);have hl:=rv.length;exact wpAny_pyNext_tuple_end (I.ok.hd hc) st (show s.heap.IsTuple a its.toArray from p) (by simp;omega) fun h' eb=>⟨rfl,I.turned (t':=s.toks) (fun b o hb e=>eb b o hb e) f0 f1 f3 f4 f5⟩
 self:=fun _ _ _ _ _ st h=>wpAny_pyIter_tupleiter st h
def Ki(it:Addr)(lo:Int)(n:Nat):Turn P w K tg (Itr lo n) [it] it (fun i h=>IsRangeIter h it (lo+(i:Nat)*1) ((n:Int)-(i:Nat)) 1) where
 mem:=by simp
 obj:=fun i h st b hb=>by
  have e:b=it:=by simpa using hb
  subst e;exact⟨_,st,fun v z=>by
   have z':Data.fields _=Data.cell v:=z;cases z'⟩
 keep:=fun i h h' st k=>k it (by simp) _ st
 item:=by
  intro X hP hw hK hc i db s U H E I hf st hg;subst hP hw hK;obtain⟨f0,f1,f2,f3,f4,f5⟩:=hf it (by simp);have W:=Walks.range (prog:=X.prog) (w:=X.w) (I.ok.hd hc) it lo 1 n;refine W.item i s _ _ hg st fun v h' tk hv st' kk=>?_;obtain⟨t,rfl⟩:=hv;have I1:Inv X db U H { s with heap:=h',toks:=tk }:=I.turned (fun b o hb e=>kk b o (by simpa using hb) e) f0 f1 f3 f4 f5;refine⟨_,rfl,go_of (s:={ s with heap:=h',toks:=tk }) (n := "range_iterator") st' rfl rfl (by decide) ⟨.int (lo+i),H,I1,⟨t,?_⟩,⟨rfl,rfl⟩,st',fun b hb=>(hf b hb).1⟩⟩;rw[Int.mul_one]
 done:=by
  intro X hP hw hK hc i db s U H E I hf st hg;subst hP hw hK;obtain⟨f0,f1,f2,f3,f4,f5⟩:=hf it (by simp);exact wpAny_pyNext_range_end (I.ok.hd hc) st (by have:n<=i:=hg;omega) fun h' eb=>⟨rfl,I.turned (t':=s.toks) (fun b o hb e=>eb b o hb e) f0 f1 f3 f4 f5⟩
 self:=fun _ _ _ _ _ st h=>wpAny_pyIter_rangeiter st h
end L2
variable{wi:L2.TI}{J:L2.It}
namespace L2
open PySem PySem.Spec PyProof.Rows
inductive ItlR(K:W.Frag)(x:V)(H:Hp)(R:It->Hp->Prop):Prop
 |mk (a:Addr) (h:x=.ref a) (h2:∃xs,SqL K H a xs) (k:R (Itl K a) H):ItlR K x H R
def iList(K:W.Frag)(tl:TE):TI:=fun U H R=>tl U H fun x H1=>ItlR K x H1 R
def iTup(K:W.Frag)(tl:TE):TI:=fun U H R=>tl U H fun x H1=>∃a,x=.ref a/\(∃xs,SqT K H1 a xs)/\R (Itt K a) H1
def pi_list{l:Expr}(hl:PE X l tl):PI X tg l (iList X.K tl):=by
 intro db s U H R I h;refine thn (hl db s U H _ I h) fun v s1 ⟨x,H1,I1,r1,q1⟩=>?_;obtain⟨a,e,⟨xs,hq⟩,q⟩:=q1;subst e;cases r1;obtain⟨its,rv,p,hz⟩:=I1.list hq;refine nh p.isList ?_;refine⟨s1.heap.objs.size,[s1.heap.objs.size],_,_,H1,rfl,I1.kept (t':=s1.toks) fun b o e=>fM _ e,turn_list a _,⟨_,ge _ rfl,rfl,rfl⟩,fun b hb=>?_,q⟩;have e:b=s1.heap.objs.size:=by simpa using hb
 subst e;exact I1.fpOk (fE _) (I1.hok.fresh (fE _))
def pi_tup{l:Expr}(hl:PE X l tl):PI X tg l (iTup X.K tl):=by
 intro db s U H R I h;refine thn (hl db s U H _ I h) fun v s1 ⟨x,H1,I1,r1,q1⟩=>?_;obtain⟨a,e,⟨xs,hq⟩,q⟩:=q1;subst e;cases r1;obtain⟨its,rv,p,hz⟩:=I1.tuple hq;refine wpAny_pyIter_tuple (show s1.heap.IsTuple a its.toArray from p) ?_;refine⟨s1.heap.objs.size,[s1.heap.objs.size],_,_,H1,rfl,I1.kept (t':=s1.toks) fun b o e=>fM _ e,Kc a _,⟨_,ge _ rfl,rfl,rfl⟩,fun b hb=>?_,q⟩;have e:b=s1.heap.objs.size:=by simpa using hb
 subst e;exact I1.fpOk (fE _) (I1.hok.fresh (fE _))
def JD{R:It->Hp->Prop}{lo hi:Int}{t u v:Tok}{tk:Nat}(I:Inv X db U H s)(h1:-(2 ^ 62)<=lo)(h2:lo<2 ^ 62)(h3:-(2 ^ 62)<=hi)(h4:hi<2 ^ 62)
  (q:R (Itr lo (hi-lo).toNat) H):wpAny (model X.prog X.w) X.A (pyIter (.ref s.heap.objs.size)) (PIE X db U tg R) E { s with heap:=s.heap.push { cls:=.type "range",data:=.fields #[.int lo t,.int hi u,.int 1 v] },toks:=tk }:=by
 refine wpAny_pyIter_range (IsRange.new ..) (small_one h1 h2 h3 h4) ?_;have I1:Inv X db U H { s with heap:=s.heap.push { cls:=.type "range",data:=.fields #[.int lo t,.int hi u,.int 1 v] },toks:=tk }:=I.kept fun b o e=>fM _ e;refine⟨(s.heap.push { cls:=.type "range",data:=.fields #[.int lo t,.int hi u,.int 1 v] }).objs.size,[(s.heap.push { cls:=.type "range",data:=.fields #[.int lo t,.int hi u,.int 1 v] }).objs.size],_,_,H,rfl,
  I1.kept (t':=tk) fun b o e=>fM _ e,Ki _ lo (hi-lo).toNat,?_,fun b hb=>?_,q⟩
 ·have e1:lo+((0:Nat):Int)*1=lo:=by simp
  have e2:(((hi-lo).toNat:Nat):Int)-((0:Nat):Int)=Builtin.Range.rangeSize lo hi 1:=by rw[rangeSize_one];split<;>omega
  show IsRangeIter _ _ (lo+((0:Nat):Int)*1) ((((hi-lo).toNat:Nat):Int)-((0:Nat):Int)) 1
  rw[e1,e2];exact ge _ rfl
 ·have e:b=(s.heap.push { cls:=.type "range",data:=.fields #[.int lo t,.int hi u,.int 1 v] }).objs.size:=by simpa using hb
  subst e;exact I1.fpOk (fE _) (I1.hok.fresh (fE _))
def iRng1(ta:TA):TI:=fun U H R=>ta U H fun vs H1=>∃j:Int,vs=[.int j]/\-(2 ^ 62)<=j/\j<2 ^ 62/\R (Itr 0 j.toNat) H1
def iRng2(ta:TA):TI:=fun U H R=>ta U H fun vs H1=>∃i j:Int,vs=[.int i,.int j]/\(-(2 ^ 62)<=i/\i<2 ^ 62/\-(2 ^ 62)<=j/\j<2 ^ 62)/\R (Itr i (j-i).toNat) H1
def Y8{a:Expr}{p:Pos}(hg:Gl X "range")(hm:X.mg "range" = none)(ha:PA X [a] ta)(hs:starEach [a] X.env=[(false,eval a X.env)]:=by rfl):PI X tg (.Call (.Name "range" p) [a] [] pos) (iRng1 ta):=by
 intro db s U H R I h;refine Call_ (VY I hg hm boot_range (mo (thn (ha pos db s U H _ I h) fun us s1 ⟨vs,H1,I1,r1,q1⟩=>?_) hs rfl));obtain⟨j,e,q1,q2,q⟩:=q1;subst e;cases r1 with
 |cons r rr=>
  cases rr;obtain⟨t,rfl⟩:=r;exact call_range_1 (JD I1 (by omega) (by omega) q1 q2 (by simpa using q))
def pi_range2{a b:Expr}{p:Pos}(hg:Gl X "range")(hm:X.mg "range" = none)(ha:PA X [a,b] ta)(hs:starEach [a,b] X.env=[(false,eval a X.env),(false,eval b X.env)]:=by rfl)(hs2:starEach [b] X.env=[(false,eval b X.env)]:=by rfl) :
  PI X tg (.Call (.Name "range" p) [a,b] [] pos) (iRng2 ta):=by
 intro db s U H R I h;refine Call_ (VY I hg hm boot_range (mo (thn (ha pos db s U H _ I h) fun us s1 ⟨vs,H1,I1,r1,q1⟩=>?_) (by rw[hs,hs2]) (by rw[hs2];rfl)));obtain⟨i,j,e,⟨q1,q2,q3,q4⟩,q⟩:=q1;subst e;cases r1 with
 |cons r rr=>
  cases rr with
  |cons r' rr=>
   cases rr;obtain⟨t,rfl⟩:=r;obtain⟨t',rfl⟩:=r';exact call_range_2 (JD I1 q1 q2 q3 q4 q)
def tFor(wi:TI)(g:TG)(tb:TS):TS:=fun D U H=>wi U H fun J H1=>∃W:Nat->Nat->St->Hp->Prop,(∃m,W 0 m U H1)/\∀i m U H,W i m U H ->
 (J.stop i H/\D.nx U H)\/(J.go i H/\∃N:St->Hp->Prop,(∀σ' H',N σ' H'->∃m',m'<m/\W (i+1) m' σ' H')/\∀x H',J.yld i H x H'->g x U H' fun σ2 H2=>tb { D with nx:=N,ct:=N,bk:=D.nx } σ2 H2)
def qB(fp:List Addr)(h:Heap):List (Addr×Obj):=fp.filterMap fun b=>(h.get? b).map fun o=>(b,o)
def Wi{b:Addr}{o:Obj}(hb:b∈fp)(e:h.get? b=some o):(b,o)∈qB fp h:=List.mem_filterMap.mpr ⟨b,hb,by rw[e];rfl⟩
def of_pinsAt{p:Addr×Obj}(hp:p∈qB fp h):p.1∈fp/\h.get? p.1=some p.2:=by
 obtain⟨b,hb,e⟩:=List.mem_filterMap.mp hp;cases q:h.get? b with
 |none=>rw[q] at e;cases e
 |some o=>
  rw[q] at e;have e':(b,o)=p:=fY e;subst e';exact⟨hb,q⟩
def Inv.pinned(I:Inv X db U H s)(hf:∀b∈fp,Vz X db H b)(ho:∀b∈fp,∃o,s.heap.get? b=some o/\∀v,o.data≠.cell v):Inv X (db++qB fp s.heap) U H s:=
 I.pins_of fun p hp=>(fR.mp hp).elim (fun z=>I.pin p (gz _ z)) fun z=>by
  obtain⟨hb,e⟩:=of_pinsAt z;obtain⟨f0,f1,f2,_⟩:=hf p.1 hb;obtain⟨o,e',d⟩:=ho p.1 hb;rw[e] at e';cases e';exact⟨e,f0,f1,f2,d⟩
def Inv.unpinned{pl:List (Addr×Obj)}(I:Inv X (db++pl) U H s):Inv X db U H s:=I.pins_of fun p hp=>I.pin p (gz _ (g8 _ hp))
def Xk{g:TG}(hp:PassesOwn (model X.prog X.w) X.A X.env X.xe)(hc:X.calm=true)(hi:PI X tg iter wi)(hg:PG X tg g)(hb:PSs X body tb)
  (hs:∀x,foldedSetIterable iter X.env x=pure x:=by intro _;rfl):PS X (.For tg iter body [] pos) (tFor wi g tb):=by
 intro db s U H D I h;refine wpAny_For (thn (hi db s U H _ I h) fun v s1 h1=>thn h1 fun itv s2 h2=>?_) hs;obtain⟨it,fp,tn,J,H2,e,I2,T,st2,f2,W,⟨m0,w0⟩,turn⟩:=h2;subst e;have stat:∀{H':Hp},(∀b∈fp,H' b=none)->∀b∈fp,Vz X db H' b:=fun hn b hb=>⟨hn b hb,(f2 b hb).2⟩;refine codeAny_forLoop_any (fun n s'=>∃i σ' H',Inv X db σ' H' s'/\tn i s'.heap/\(∀b∈fp,H' b=none)/\W i n σ' H') ?_ m0 ⟨0,U,H2,I2,st2,fun b hb=>(f2 b hb).1,w0⟩;rintro n s3 ⟨i,σ3,H3,I3,st3,fr3,w3⟩;rcases turn i n σ3 H3 w3 with⟨stop,qn⟩|⟨go,N,hN,step⟩
 ·refine lS hp (thn (T.done X rfl rfl rfl hc i db s3 σ3 H3 X.xe I3 (stat fr3) st3 stop) fun r s4 ⟨hr,I4⟩=>?_);subst hr;exact wpAny_execs_nil ⟨σ3,H3,I4,qn⟩
 ·refine lS hp (thn (T.item X rfl rfl rfl hc i db s3 σ3 H3 X.xe I3 (stat fr3) st3 go) fun r s4 ⟨u,hr,h4⟩=>?_);subst hr;refine lS hp (thn h4 fun _ s5 ⟨x,H5,I5,r5,y5,st5,fr5⟩=>?_);have I5':=I5.pinned (stat fr5) (T.obj _ _ st5);refine lS hp (thn (hg _ s5 σ3 H5 x u _ I5' r5 (step x H5 y5)) fun _ s6 ⟨σ6,H6,I6,q6⟩=>?_);refine lS hp (thn (hb _ s6 σ6 H6 _ I6 q6) fun f s7 q7=>?_);have again:∀{σ7:St}{H7:Hp},Inv X (db++qB fp s5.heap) σ7 H7 s7->N σ7 H7->∃m,m<n/\∃i σ' H',Inv X db σ' H' s7/\tn i s7.heap/\(∀b∈fp,H' b=none)/\W i m σ' H':=fun {σ7 H7} I7 n7=>by
   obtain⟨m',hm,w7⟩:=hN σ7 H7 n7;refine⟨m',hm,i+1,σ7,H7,I7.unpinned,T.keep _ _ _ st5 fun b hb o e=>(I7.pin (b,o) (gz _ (gz _ (Wi hb e)))).1,fun b hb=>?_,w7⟩;obtain⟨o,e,d⟩:=T.obj _ _ st5 b hb;exact(I7.pin (b,o) (gz _ (gz _ (Wi hb e)))).2.1
  cases f with
  |next=>obtain⟨σ7,H7,I7,n7⟩:=q7;exact again I7 n7
  |cont=>obtain⟨σ7,H7,I7,n7⟩:=q7;exact again I7 n7
  |brk=>obtain⟨σ7,H7,I7,q7⟩:=q7;exact⟨σ7,H7,I7.unpinned,q7⟩
  |ret v=>obtain⟨x7,σ7,H7,I7,r7,q7⟩:=q7;exact⟨x7,σ7,H7,I7.unpinned,r7,q7⟩
def for_list{a:Addr}{xs:List V}{g:TG}{D:Ends}(Pv:Nat->St->Hp->Prop)(h0:Pv 0 U H)(hl:∀i U H,i<=xs.length->Pv i U H->SqL K H a xs)
  (hs:∀i x U H,xs[i]?=some x->Pv i U H->g x U H fun σ2 H2=>tb { D with nx:=Pv (i+1),ct:=Pv (i+1),bk:=D.nx } σ2 H2) (hd:∀U H,Pv xs.length U H->D.nx U H) :
  ∃W:Nat->Nat->St->Hp->Prop,(∃m,W 0 m U H)/\∀i m U H,W i m U H ->
   ((Itl K a).stop i H/\D.nx U H)\/((Itl K a).go i H/\∃N:St->Hp->Prop,(∀σ' H',N σ' H'->∃m',m'<m/\W (i+1) m' σ' H')/\∀x H',(Itl K a).yld i H x H'->g x U H' fun σ2 H2=>tb { D with nx:=N,ct:=N,bk:=D.nx } σ2 H2):=by
 refine⟨fun i m U H=>m=xs.length-i/\i<=xs.length/\Pv i U H,⟨xs.length,by simp,gB _,h0⟩,?_⟩;rintro i m U H ⟨rfl,hi,p⟩;have q:=hl i U H hi p
 by_cases hlt:i<xs.length
 ·refine .inr ⟨⟨xs,xs[i],q,by simp[hlt]⟩,Pv (i+1),fun σ' H' p'=>⟨xs.length-(i+1),by omega,rfl,hlt,p'⟩,fun x H' y=>?_⟩;obtain⟨e,y⟩:=y;subst e;exact hs i x U _ (y xs q) p
 ·have e:i=xs.length:=by omega
  subst e;exact .inl ⟨⟨xs,q,fE _⟩,hd U H p⟩
abbrev R2:=V->V->Hp->VK->Prop
def OpR(X:Cx)(f:Value->Value->Sem Value)(r:R2):Prop:=
 ∀(db:List (Addr×Obj)) (s:Shared) (U:St) (H:Hp) (x y:V) (v u:Value) (Q:VK),Inv X db U H s->ZU x v->ZU y u->r x y H Q ->
  wpAny (model X.prog X.w) X.A (f v u) (EP X db U Q) X.xe s
def UnR(X:Cx)(f:Value->Sem Value)(r:V->Hp->VK->Prop):Prop:=
 ∀(db:List (Addr×Obj)) (s:Shared) (U:St) (H:Hp) (x:V) (v:Value) (Q:VK),Inv X db U H s->ZU x v->r x H Q ->
  wpAny (model X.prog X.w) X.A (f v) (EP X db U Q) X.xe s
def Ym(X:Cx)(f:Value)(r:List V->Hp->VK->Prop):Prop:=
 ∀(db:List (Addr×Obj)) (s:Shared) (U:St) (H:Hp) (xs:List V) (us:List Value) (Q:VK),Inv X db U H s->ZK xs us->r xs H Q ->
  wpAny (model X.prog X.w) X.A (call f us) (EP X db U Q) X.xe s
def TruR(X:Cx)(r:V->Hp->(Bool->Hp->Prop)->Prop):Prop:=
 ∀(db:List (Addr×Obj)) (s:Shared) (U:St) (H:Hp) (x:V) (v:Value) (Q:Bool->Hp->Prop),Inv X db U H s->ZU x v->r x H Q ->
  wpAny (model X.prog X.w) X.A (truthy v) (TP X db U Q) X.xe s
def tOp(r:R2)(ta tb:TE):TE:=fun U H Q=>ta U H fun x H1=>tb U H1 fun y H2=>r x y H2 Q
def tUn(r:V->Hp->VK->Prop)(ta:TE):TE:=fun U H Q=>ta U H fun x H1=>r x H1 Q
inductive rI_R(C:Int->Int->Prop)(g:Int->Int->V)(x:V)(y:V)(H:Hp)(Q:VK):Prop
 |mk (i:_) (j:_) (h0:x=.int i) (h1:y=.int j) (h2:C i j) (h3:Q (g i j) H):rI_R C g x y H Q
def rI(C:Int->Int->Prop)(g:Int->Int->V):R2:=fun x y H Q=>rI_R C g x y H Q
inductive rI0_R(g:Int->Int->V)(x:V)(y:V)(H:Hp)(Q:VK):Prop
 |mk (i:_) (j:_) (h0:x=.int i) (h1:y=.int j) (h2:Q (g i j) H):rI0_R g x y H Q
def rI0(g:Int->Int->V):R2:=fun x y H Q=>rI0_R g x y H Q
inductive rU_R(g:Int->V)(x:V)(H:Hp)(Q:VK):Prop
 |mk (i:_) (h0:x=.int i) (h1:Q (g i) H):rU_R g x H Q
def rU(g:Int->V):V->Hp->VK->Prop:=fun x H Q=>rU_R g x H Q
section
variable{X:Cx}{a b c:Expr}{ta tb tc:TE}{pos:Pos}
def binT(ha:PE X a ta)(hb:PE X b tb){R:V->V->Hp->Prop}(I:Inv X db U H s)
  (h:ta U H fun x H1=>tb U H1 fun y H2=>R x y H2) {f:Value->Value->Sem Value}
  (hf:∀v u s2 x y H2,Inv X db U H2 s2->ZU x v->ZU y u->R x y H2->wpAny (model X.prog X.w) X.A (f v u) Q X.xe s2) :
  wpAny (model X.prog X.w) X.A (eval a X.env) (fun v s₁=>wpAny (model X.prog X.w) X.A (eval b X.env) (fun u s₂=>wpAny (model X.prog X.w) X.A (f v u) Q X.xe s₂) X.xe s₁) X.xe s:=by
 refine thn (ha db s U H _ I h) fun v s1 ⟨x,H1,I1,r1,q1⟩=>?_;refine thn (hb db s1 U H1 _ I1 q1) fun u s2 ⟨y,H2,I2,r2,q2⟩=>?_;exact hf v u s2 x y H2 I2 r1 r2 q2
def ZP{op:Operator}{r:R2}(ho:OpR X (binaryOp op) r)(ha:PE X a ta)(hb:PE X b tb):PE X (.BinOp a op b pos) (tOp r ta tb):=by
 intro db s U H Q I h;exact wpAny_BinOp (binT ha hb I h fun v u s2 x y H2 I2 rx ry q=>ho db s2 U H2 x y v u Q I2 rx ry q)
def Vq{op:UnaryOp}{r:V->Hp->VK->Prop}(ho:UnR X (unaryOp op) r)(ha:PE X a ta):PE X (.UnaryOp op a pos) (tUn r ta):=by
 intro db s U H Q I h;exact UnaryOp_ (thn (ha db s U H _ I h) fun v s1 ⟨x,H1,I1,r1,q1⟩=>ho db s1 U H1 x v Q I1 r1 q1)
def opI{f:Value->Value->Sem Value}{C:Int->Int->Prop}{g:Int->Int->Int}
  (rule:∀(i j:Int) (t u:Tok) (s:Shared) (Q:Value->Shared->Prop) (E:Value->Shared->Prop),C i j->Q (.int (g i j) s.toks) { s with toks:=s.toks+1 }->wpAny (model X.prog X.w) X.A (f (.int i t) (.int j u)) Q E s) :
  OpR X f (rI C fun i j=>.int (g i j)):=by
 intro db s U H x y v u Q I rx ry h;obtain⟨i,j,rfl,rfl,hc,q⟩:=h;obtain⟨t,rfl⟩:=rx;obtain⟨t',rfl⟩:=ry;exact rule i j t t' s _ _ hc ⟨.int (g i j),H,I.tok _,⟨_,rfl⟩,q⟩
def opI0{f:Value->Value->Sem Value}{g:Int->Int->Int}
  (rule:∀(i j:Int) (t u:Tok) (s:Shared) (Q:Value->Shared->Prop) (E:Value->Shared->Prop),Q (.int (g i j) s.toks) { s with toks:=s.toks+1 }->wpAny (model X.prog X.w) X.A (f (.int i t) (.int j u)) Q E s) :
  OpR X f (rI0 fun i j=>.int (g i j)):=by
 intro db s U H x y v u Q I rx ry h;obtain⟨i,j,rfl,rfl,q⟩:=h;obtain⟨t,rfl⟩:=rx;obtain⟨t',rfl⟩:=ry;exact rule i j t t' s _ _ ⟨.int (g i j),H,I.tok _,⟨_,rfl⟩,q⟩
def opB0{f:Value->Value->Sem Value}{g:Int->Int->Bool}
  (rule:∀(i j:Int) (t u:Tok) (s:Shared) (Q:Value->Shared->Prop) (E:Value->Shared->Prop),Q (.bool (g i j)) s->wpAny (model X.prog X.w) X.A (f (.int i t) (.int j u)) Q E s) :
  OpR X f (rI0 fun i j=>.bl (g i j)):=by
 intro db s U H x y v u Q I rx ry h;obtain⟨i,j,rfl,rfl,q⟩:=h;obtain⟨t,rfl⟩:=rx;obtain⟨t',rfl⟩:=ry;exact rule i j t t' s _ _ ⟨.bl (g i j),H,I,rfl,q⟩
def CDiv(i j:Int):Prop:=0<j/\j<1073741824
def CPow(i j:Int):Prop:=0<=j/\j<=1000000/\i.natAbs<2 ^ 64
def CMul(i j:Int):Prop:=(-(2 ^ 64)<i/\i<2 ^ 64)\/(-(2 ^ 64)<j/\j<2 ^ 64)
def CMul.ok{i j:Int}(h:CMul i j):IntMulOk i j:=by
 rcases h with⟨h1,h2⟩|⟨h1,h2⟩
 ·exact .of_left (intBits_le_64 h1 h2)
 ·exact .of_right (intBits_le_64 h1 h2)
def Xl:OpR X (binaryOp .Add) (rI0 fun i j=>.int (i+j)):=opI0 fun _ _ _ _ _ _ _ q=>add_int q
def Vb:OpR X (binaryOp .Sub) (rI0 fun i j=>.int (i-j)):=opI0 fun _ _ _ _ _ _ _ q=>sub_int q
def xo:OpR X (binaryOp .Mult) (rI CMul fun i j=>.int (i*j)):=opI fun _ _ _ _ _ _ _ hc q=>mul_int q hc.ok
def US:OpR X (binaryOp .FloorDiv) (rI CDiv fun i j=>.int (i/j)):=opI fun i j _ _ _ _ _ hc q=>by
 have h1:(0:Int)<j:=hc.1;have h2:j<1073741824:=hc.2;exact floordiv_int (by omega) (by rw[Int.fdiv_eq_ediv_of_nonneg i (by omega)];exact q) (.inl (PyProof.noPylong_small (by omega)))
def Um:OpR X (binaryOp .Mod) (rI (fun _ j=>0<j) fun i j=>.int (i%j)):=opI fun i j _ _ _ _ _ hc q=>by
 have h1:(0:Int)<j:=hc;exact mod_int' (by omega) (by rw[Int.fmod_eq_emod_of_nonneg i (by omega)];exact q)
def op_pow:OpR X (binaryOp .Pow) (rI CPow fun i j=>.int (i ^ j.toNat)):=opI fun _ _ _ _ _ _ _ hc q=>pow_int_small hc.1 hc.2.1 hc.2.2 q
def unI{f:Value->Sem Value}{g:Int->Int}
  (rule:∀(i:Int) (t:Tok) (s:Shared) (Q:Value->Shared->Prop) (E:Value->Shared->Prop),Q (.int (g i) s.toks) { s with toks:=s.toks+1 }->wpAny (model X.prog X.w) X.A (f (.int i t)) Q E s) :
  UnR X f (rU fun i=>.int (g i)):=by
 intro db s U H x v Q I rx h;obtain⟨i,rfl,q⟩:=h;obtain⟨t,rfl⟩:=rx;exact rule i t s _ _ ⟨.int (g i),H,I.tok _,⟨_,rfl⟩,q⟩
def XZ:UnR X (unaryOp .USub) (rU fun i=>.int (-i)):=unI fun _ _ _ _ _ q=>neg_int q
end
def scal:V->V->Bool
 |.non,.non=>true|.non,.int _=>true|.int _,.non=>true|.non,.bl _=>true|.bl _,.non=>true|.non,.str _=>true|.str _,.non=>true
 |.int _,.int _=>true|.bl _,.bl _=>true|.str _,.str _=>true|.byt _,.byt _=>true
 |.int _,.str _=>true|.str _,.int _=>true|.bl _,.str _=>true|.str _,.bl _=>true
 |_,_=>false
inductive rEq_R(x y:V)(H:Hp)(Q:VK):Prop
 |mk (h:scal x y=true) (k:Q (.bl (decide (x=y))) H):rEq_R x y H Q
inductive rNe_R(x y:V)(H:Hp)(Q:VK):Prop
 |mk (h:scal x y=true) (k:Q (.bl (!decide (x=y))) H):rNe_R x y H Q
def rEq:R2:=fun x y H Q=>rEq_R x y H Q
def rNe:R2:=fun x y H Q=>rNe_R x y H Q
def dec_int{i j:Int}:decide (V.int i=V.int j)=(i==j):=by
 rw[lg];simp
def dec_bl{i j:Bool}:decide (V.bl i=V.bl j)=(i==j):=by
 rw[lg];simp
def dec_str{i j:Str}:decide (V.str i=V.str j)=(i==j):=by
 rw[lg];simp
def dec_byt{i j:Array UInt8}:decide (V.byt i=V.byt j)=(i.toList==j.toList):=by
 rw[lg];cases i;cases j;simp
section
variable{X:Cx}{a b c:Expr}{ta tb tc:TE}{pos:Pos}
def Ya{Q:VK}{k k':Bool}(I:Inv X db U H s)(q:Q (.bl k) H)(e:k=k'):EP X db U Q (.bool k') s:=by
 subst e;exact⟨.bl k,H,I,rfl,q⟩
def Yr:OpR X (compareOp .Eq) rEq:=by
 intro db s U H x y v u Q I rx ry h;obtain⟨hs,q⟩:=h;cases x with
 |non=>
  cases rx;cases y with
  |non=>cases ry;exact PySem.EqNone.eq_none_none (Ya I q (by simp))
  |bl j=>cases ry;exact PySem.EqNone.eq_none_bool (Ya I q (by simp))
  |int j=>obtain⟨t',rfl⟩:=ry;exact PySem.EqNone.eq_none_int (Ya I q (by simp))
  |str j=>obtain⟨t',rfl⟩:=ry;exact PySem.EqNone.eq_none_str (Ya I q (by simp))
  |_=>exact absurd (show false=true from hs) gk
 |bl i=>
  cases rx;cases y with
  |non=>cases ry;exact PySem.EqNone.eq_bool_none (Ya I q (by simp))
  |bl j=>cases ry;exact eq_bool (Ya I q dec_bl)
  |str j=>obtain⟨t',rfl⟩:=ry;exact PySem.EqMixed.eq_bool_str (Ya I q (by simp))
  |_=>exact absurd (show false=true from hs) gk
 |int i=>
  obtain⟨t,rfl⟩:=rx;cases y with
  |non=>cases ry;exact PySem.EqNone.eq_int_none (Ya I q (by simp))
  |int j=>obtain⟨t',rfl⟩:=ry;exact eq_int (Ya I q dec_int)
  |str j=>obtain⟨t',rfl⟩:=ry;exact PySem.EqMixed.eq_int_str (Ya I q (by simp))
  |_=>exact absurd (show false=true from hs) gk
 |str i=>
  obtain⟨t,rfl⟩:=rx;cases y with
  |non=>cases ry;exact PySem.EqNone.eq_str_none (Ya I q (by simp))
  |bl j=>cases ry;exact PySem.EqMixed.eq_str_bool (Ya I q (by simp))
  |int j=>obtain⟨t',rfl⟩:=ry;exact PySem.EqMixed.eq_str_int (Ya I q (by simp))
  |str j=>obtain⟨t',rfl⟩:=ry;exact eq_str (Ya I q dec_str)
  |_=>exact absurd (show false=true from hs) gk
 |byt i=>
  obtain⟨t,rfl⟩:=rx;cases y with
  |byt j=>obtain⟨t',rfl⟩:=ry;exact W.eq_bytes (Ya I q dec_byt)
  |_=>exact absurd (show false=true from hs) gk
 |_=>cases y<;>exact absurd (show false=true from hs) gk
def op_ne:OpR X (compareOp .NotEq) rNe:=by
 intro db s U H x y v u Q I rx ry h;obtain⟨hs,q⟩:=h;cases x with
 |non=>
  cases rx;cases y with
  |non=>cases ry;exact PySem.EqNone.ne_none_none (Ya I q (by simp))
  |bl j=>cases ry;exact PySem.EqNone.ne_none_bool (Ya I q (by simp))
  |int j=>obtain⟨t',rfl⟩:=ry;exact PySem.EqNone.ne_none_int (Ya I q (by simp))
  |str j=>obtain⟨t',rfl⟩:=ry;exact PySem.EqNone.ne_none_str (Ya I q (by simp))
  |_=>exact absurd (show false=true from hs) gk
 |bl i=>
  cases rx;cases y with
  |non=>cases ry;exact PySem.EqNone.ne_bool_none (Ya I q (by simp))
  |bl j=>cases ry;exact ne_bool (Ya I q (fS not dec_bl))
  |str j=>obtain⟨t',rfl⟩:=ry;exact PySem.EqMixed.ne_bool_str (Ya I q (by simp))
  |_=>exact absurd (show false=true from hs) gk
 |int i=>
  obtain⟨t,rfl⟩:=rx;cases y with
  |non=>cases ry;exact PySem.EqNone.ne_int_none (Ya I q (by simp))
  |int j=>obtain⟨t',rfl⟩:=ry;exact ne_int (Ya I q (fS not dec_int))
  |str j=>obtain⟨t',rfl⟩:=ry;exact PySem.EqMixed.ne_int_str (Ya I q (by simp))
  |_=>exact absurd (show false=true from hs) gk
 |str i=>
  obtain⟨t,rfl⟩:=rx;cases y with
  |non=>cases ry;exact PySem.EqNone.ne_str_none (Ya I q (by simp))
  |bl j=>cases ry;exact PySem.EqMixed.ne_str_bool (Ya I q (by simp))
  |int j=>obtain⟨t',rfl⟩:=ry;exact PySem.EqMixed.ne_str_int (Ya I q (by simp))
  |str j=>obtain⟨t',rfl⟩:=ry;exact ne_str (Ya I q (fS not dec_str))
  |_=>exact absurd (show false=true from hs) gk
 |byt i=>
  obtain⟨t,rfl⟩:=rx;cases y with
  |byt j=>obtain⟨t',rfl⟩:=ry;exact W.ne_bytes (Ya I q (fS not dec_byt))
  |_=>exact absurd (show false=true from hs) gk
 |_=>cases y<;>exact absurd (show false=true from hs) gk
def vZ:OpR X (compareOp .Lt) (rI0 fun i j=>.bl (decide (i<j))):=opB0 fun _ _ _ _ _ _ _ q=>lt_int q
def yd:OpR X (compareOp .LtE) (rI0 fun i j=>.bl (decide (i<=j))):=opB0 fun _ _ _ _ _ _ _ q=>le_int q
def op_gt:OpR X (compareOp .Gt) (rI0 fun i j=>.bl (decide (j<i))):=opB0 fun _ _ _ _ _ _ _ q=>gt_int q
def op_ge:OpR X (compareOp .GtE) (rI0 fun i j=>.bl (decide (j<=i))):=opB0 fun _ _ _ _ _ _ _ q=>ge_int q
def op_in_str:OpR X (compareOp .In) (fun x y H Q=>∃i j,x=.str i/\y=.str j/\Q (.bl (!(Builtin.Str.occurrences j i 0 j.length 1).isEmpty)) H):=by
 intro db s U H x y v u Q I rx ry h;obtain⟨i,j,rfl,rfl,q⟩:=h;obtain⟨t,rfl⟩:=rx;obtain⟨t',rfl⟩:=ry;exact in_str (Ya I q rfl)
def ZI(b:Expr)(h:op≠.In:=by decide)(h2:op≠.NotIn:=by decide):behindInMarks op b=false:=by
 have e1:(op==CmpOp.In)=false:=by cases op<;>first|rfl|exact absurd rfl h
 have e2:(op==CmpOp.NotIn)=false:=by cases op<;>first|rfl|exact absurd rfl h2
 cases b<;>simp[behindInMarks,e1,e2]
def YZ{op:CmpOp}{r:R2}(ho:OpR X (compareOp op) r)(ha:PE X a ta)(hb:PE X b tb)(hm:behindInMarks op b=false):PE X (.Compare a [op] [b] pos) (tOp r ta tb):=by
 intro db s U H Q I h;exact wpAny_Compare1 (binT ha hb I h fun v u s2 x y H2 I2 rx ry q=>ho db s2 U H2 x y v u Q I2 rx ry q) hm
def tTest(t:TE):TT:=fun U H Q=>t U H fun x H'=>BoolR x H' Q
def Zw{op:CmpOp}{r:R2}(ho:OpR X (compareOp op) r)(ha:PE X a ta)(hb:PE X b tb)(hm:behindInMarks op b=false):PT X (.Compare a [op] [b] pos) (tTest (tOp r ta tb)):=by
 intro db s U H Q I h;refine wpAny_isTrue_Compare1 (thn (ha db s U H _ I h) fun v s1 ⟨x,H1,I1,r1,q1⟩=>thn (hb db s1 U H1 _ I1 q1) fun u s2 ⟨y,H2,I2,r2,q2⟩=>
  thn (ho db s2 U H2 x y v u _ I2 r1 r2 q2) fun c s3 ⟨z,H3,I3,r3,k,e,q3⟩=>?_) hm
 subst e;cases r3;exact iA ⟨H3,I3,q3⟩
def tChain(r r':R2)(ta tb tc:TE):TE:=fun U H Q=>ta U H fun x H1=>tb U H1 fun y H2=>r x y H2 fun z H3=>∃k,z=.bl k /\
 (if k=true then tc U H3 fun w' H4=>r' y w' H4 Q else Q (.bl false) H3)
def Jo{op':CmpOp}{r r':R2}(ho:OpR X (compareOp op) r)(ho':OpR X (compareOp op') r')(ha:PE X a ta)(hb:PE X b tb)(hc:PE X c tc)
  (hm:lastMarks [op,op'] [b,c]=false:=by with_unfolding_all rfl):PE X (.Compare a [op,op'] [b,c] pos) (tChain r r' ta tb tc):=by
 intro db s U H Q I h;refine Compare_chain (thn (ha db s U H _ I h) fun v s1 ⟨x,H1,I1,r1,q1⟩=>chain_link (thn (hb db s1 U H1 _ I1 q1) fun u s2 ⟨y,H2,I2,r2,q2⟩=>
  thn (ho db s2 U H2 x y v u _ I2 r1 r2 q2) fun d s3 ⟨z,H3,I3,r3,k,e,q3⟩=>?_)) hm
 subst e;cases r3;refine iA ?_;cases k with
 |false=>exact ite_ff ⟨.bl false,H3,I3,rfl,q3⟩
 |true=>exact ite_tt (chain_last (thn (hc db s3 U H3 _ I3 q3) fun w' s4 ⟨z',H4,I4,r4,q4⟩=>ho' db s4 U H4 y z' u w' Q I4 r2 r4 q4))
def k4{op':CmpOp}{r r':R2}(ho:OpR X (compareOp op) r)(ho':OpR X (compareOp op') r')(ha:PE X a ta)(hb:PE X b tb)(hc:PE X c tc)
  (hm:lastMarks [op,op'] [b,c]=false:=by with_unfolding_all rfl):PT X (.Compare a [op,op'] [b,c] pos) (tTest (tChain r r' ta tb tc)):=by
 intro db s U H Q I h;refine isTrue_chain (thn (ha db s U H _ I h) fun v s1 ⟨x,H1,I1,r1,q1⟩=>test_link (thn (hb db s1 U H1 _ I1 q1) fun u s2 ⟨y,H2,I2,r2,q2⟩=>
  thn (ho db s2 U H2 x y v u _ I2 r1 r2 q2) fun d s3 ⟨z,H3,I3,r3,k,e,q3⟩=>?_)) hm
 subst e;cases r3;refine iA ?_;cases k with
 |false=>
  obtain⟨k',e',q'⟩:=q3;cases e';exact ite_ff ⟨H3,I3,q'⟩
 |true=>
  refine ite_tt (test_last (thn (hc db s3 U H3 _ I3 q3) fun w' s4 ⟨z',H4,I4,r4,q4⟩=>thn (ho' db s4 U H4 y z' u w' _ I4 r2 r4 q4) fun d' s5 ⟨z2,H5,I5,r5,k2,e2,q5⟩=>?_));subst e2;cases r5;exact iA ⟨H5,I5,q5⟩
def TruV(K:W.Frag)(x:V)(H:Hp)(k:Bool):Prop:=
 match x with
 |.non=>k=false
 |.bl b=>k=b
 |.int i=>k=(i != 0)
 |.str y=>y.length<=sizeLine/\k=((y.length:Int) != 0)
 |.byt y=>y.size<=sizeLine/\k=((y.size:Int) != 0)
 |.ref p=>(∃xs,SqL K H p xs/\k = !xs.isEmpty)\/(∃xs,SqT K H p xs/\k = !xs.isEmpty)\/∃kvs,H p=some (.dK kvs)/\k = !kvs.isEmpty
 |_=>False
def Kn{kvs:List (κ×V)}{vs:List (κ×Value)}(r:KV kvs vs):(!vs.isEmpty) = !kvs.isEmpty:=by
 cases r<;>rfl
def xN{xs:List V}(r:ZK xs its):(!its.toArray.isEmpty) = !xs.isEmpty:=by
 cases r<;>simp
def zF:(sizeLine:Nat)<2 ^ 63:=by rw[fJ];decide
def tru_ok:TruR X (fun x H Q=>∃k,TruV X.K x H k/\Q k H):=by
 intro db s U H x v Q I rx h;obtain⟨k,e,q⟩:=h;have hl:=zF;have hs:sizeLine=16777216:=fJ;cases x with
 |non=>
  cases rx;have e':k=false:=e;subst e';exact truthy_none ⟨H,I,q⟩
 |bl b=>
  cases rx;have e':k=b:=e;subst e';exact iA ⟨H,I,q⟩
 |int i=>
  obtain⟨t,rfl⟩:=rx;have e':k=(i != 0):=e;subst e';exact PySem.P.truthy_int ⟨H,I,q⟩
 |str y=>
  obtain⟨t,rfl⟩:=rx;obtain⟨hy,e'⟩:y.length<=sizeLine/\k=((y.length:Int) != 0):=e;subst e';exact PySem.P.truthy_str (by omega) ⟨H,I.tok _,q⟩
 |byt y=>
  obtain⟨t,rfl⟩:=rx;obtain⟨hy,e'⟩:y.size<=sizeLine/\k=((y.size:Int) != 0):=e;subst e';exact W.truthy_bytes (by omega) ⟨H,I.tok _,q⟩
 |ref p=>
  cases rx;have e':(∃xs,SqL X.K H p xs/\k = !xs.isEmpty)\/(∃xs,SqT X.K H p xs/\k = !xs.isEmpty)\/∃kvs,H p=some (.dK kvs)/\k = !kvs.isEmpty:=e;rcases e' with⟨xs,hx,e'⟩|⟨xs,hx,e'⟩|⟨kvs,hx,e'⟩
  ·subst e';obtain⟨its,r,pl,hz⟩:=I.list hx;have hlen:=r.length;exact wpAny_truthy_list pl.isList (by simp only[fV];omega) ⟨H,I.tok _,by rw[xN r];exact q⟩
  ·subst e';obtain⟨its,r,pl,hz⟩:=I.tuple hx;have hlen:=r.length;exact truthy_tuple pl (by simp only[fV];omega) ⟨H,I.tok _,by rw[xN r];exact q⟩
  ·subst e';obtain⟨hz,hS,vs,r,m⟩:kvs.length<=sizeLine/\(p==sysModules)=false/\∃vs,KV kvs vs/\s.heap.DictOf (ZB X.prog X.w) p vs:=I.hok p _ hx;have hlen:kvs.length=vs.length:=mn r;exact wpAny_truthy_dict hS m (by omega) ⟨H,I.tok _,by rw[Kn r];exact q⟩
 |_=>exact(show False from e).elim
def pt_truth(ha:PE X a ta)(he:∀whole,isTrue a X.env whole=(do let v <- whole;standAt a.pos;holding [v] (truthy v))) :
  PT X a (fun U H Q=>ta U H fun x H'=>∃k,TruV X.K x H' k/\Q k H'):=by
 intro db s U H Q I h;exact isTrue_plain (thn (ha db s U H _ I h) fun v s1 ⟨x,H1,I1,r1,q1⟩=>tru_ok db s1 U H1 x v Q I1 r1 q1) (he _)
def V6:OpR X (binaryOp .Add) (fun x y H Q=>∃i j,x=.str i/\y=.str j/\i.length+j.length<=sizeLine/\Q (.str (i++j)) H):=by
 intro db s U H x y v u Q I rx ry h;obtain⟨i,j,rfl,rfl,hz,q⟩:=h;obtain⟨t,rfl⟩:=rx;obtain⟨t',rfl⟩:=ry;exact add_str (fun t' tk=>⟨.str (i++j),H,I.tok _,⟨_,rfl⟩,q⟩) hz
def Vo{x:V}(r:ZK [x] us):∃u,us=[u]/\ZU x u:=by
 cases r with
 |cons r1 r2=>cases r2;exact⟨_,rfl,r1⟩
def vals2{x:V}(r:ZK [x,y] us):∃u w',us=[u,w']/\ZU x u/\ZU y w':=by
 cases r with
 |cons r1 r2=>
  cases r2 with
  |cons r3 r4=>cases r4;exact⟨_,_,rfl,r1,r3⟩
def vJ(hc:X.calm=true):Ym X (.builtin "max") (fun xs H Q=>∃i j,xs=[.int i,.int j]/\Q (.int (if j>i then j else i)) H):=by
 intro db s U H xs us Q I r h;obtain⟨i,j,rfl,q⟩:=h;obtain⟨u,w',rfl,⟨t,rfl⟩,⟨t',rfl⟩⟩:=vals2 r;refine max_two_ints (I.ok.hd hc) fun h' tk k=>⟨_,H,I.kept k,?_,q⟩
 by_cases hj:j>i
 ·rw[if_pos hj,if_pos hj];exact⟨_,rfl⟩
 ·rw[if_neg hj,if_neg hj];exact⟨_,rfl⟩
end
structure ObjM(h:Heap)(x dx C:Addr)(mA:Str->Option Value):Prop where
 obj:h.get? x=some (W.instObj C dx)
 ns:h.Ns1 dx mA
 ne:dx≠x
def lookIn_ns(n:h.Ns1 dx mA):∃od,h.get? dx=some od/\∀name,W.lookIn name od=some (mA name):=by
 obtain⟨o,es,ep,ho,hd,hk,_,hm⟩:=n;refine⟨o,ho,fun name=>?_⟩;have e:=hm name;unfold nsFind findBy at e;rw[<- Array.find?_toList] at e;unfold W.lookIn;rw[hd];dsimp only
 split
 ·rename_i y q
  rw[q] at e;exact fS some e
 ·rename_i q
  rw[q] at e;have a:es.toList.any (·.refKey)=false:=by
   rw[List.any_eq_false];intro y hy;obtain⟨z,t,hkey⟩:=hk y (Array.mem_toList_iff.mp hy);simp[DictEntry.refKey,hkey]
  have a':¬es.toList.any (·.refKey)=true:=by rw[a];exact gk
  rw[if_neg a'];exact fS some e
def ObjM.look{x:Addr}(I:ObjM h x dx C mA):∃od,W.InstAt h x (W.instObj C dx) C (some od)/\∀name,W.lookIn name od=some (mA name):=
 let ⟨od,ho,hl⟩:=lookIn_ns I.ns
 ⟨od,⟨I.obj,rfl,rfl,ho⟩,hl⟩
section
variable{x f:Addr}{name:Str}{v:Value}
def get_map{expr:Bool}(X:K.In s.heap)(I:ObjM s.heap x dx C mA)(hg:W.plainGet K C name=true)(hh:W.hasDictIn K C=true)
  (ha:W.findIn K (.ref C) name=some none) (hv:mA name=some v) (hv':W.handedIn v=true) (h:Q v { s with toks:=s.toks+1 }) :
  wpAny (model prog w) A (getAttr (.ref x) name expr) Q E s:=by
 obtain⟨od,J,hl⟩:=I.look;exact W.get_value X J (W.plainGet_of hg).1 (W.findObj_own hh ha rfl (by rw[hl,hv])) hv' h
def get_meth{Q:Value×List Value->Shared->Prop}(X:K.In s.heap)(I:ObjM s.heap x dx C mA)(hg:W.plainGet K C name=true)
  (hf:W.findIn K (.ref C) name=some (some (.ref f))) (ht:W.isFn K (.ref f)=true) (hv:mA name=none) (h:Q (.ref f,[.ref x]) s) :
  wpAny (model prog w) A (getMethod (.ref x) name pl) Q E s:=by
 obtain⟨od,J,hl⟩:=I.look;exact W.method_fn X J (W.plainGet_of hg).1 (W.plainGet_of hg).2 hf (lh.mp ht) (by show(W.lookIn name od).map (·.isSome)=some false;rw[hl,hv];rfl) h
def set_map{ns:List Str}{Q:Unit->Shared->Prop}(X:K.In s.heap)(I:ObjM s.heap x dx C mA)
  (hs:W.findIn K (.ref C) "__setattr__" = some (some (.builtin "object.__setattr__"))) (hp:W.plainOver K C=true) (ht:W.takerIn K C name=some none) (hh:W.hasDictIn K C=true)
  (hw:PySem.Within mA ns) (hsz:ns.length<=sizeLine)
  (h:∀h',ObjM h' x dx C (fun y=>if y=name then some v else mA y)->Heap.SameBut dx s.heap h'->Q () { s with heap:=h',toks:=s.toks+2 }) :
  wpAny (model prog w) A (setAttr (.ref x) name v) Q E s:=by
 obtain⟨od,J,hl⟩:=I.look;refine W.set_plain X J hs (W.osa_open (s:={ s with toks:=s.toks+1 }) (r:=none) X J hp ht fun b=>?_);obtain⟨cd,hc,hd'⟩:=W.any_some hh;have hx:s.heap.get? x=some ⟨.ref C,some dx,.plain,#[]⟩:=I.obj;refine fD (fI (fD (fD (wpAny_loadPart hx (fD (W.Looks.here (s:={ s with toks:=s.toks+1 }) (W.looks_clsIn X hc) ?_))))));rw[hd'];refine fI (a:=some dx) (fD (fI (fD ?_)));refine wpAny_nsSet1 (s:={ s with toks:=s.toks+1 }) I.ns fun h' hn2 hs2=>?_;obtain⟨oD,esD,epD,hoD,hdD,hcD⟩:=hn2.count (PySem.Within.cons name v hw);refine fD (wpAny_lookBehind hoD (by rw[hdD];exact pastItsLine_dict (fU hcD (by rw[gH];omega))) ?_);exact fI (h _ ⟨(hs2.2 _ (fT I.ne)).trans I.obj,hn2,I.ne⟩ hs2)
def make_map{vs:List Value}(X:K.In s.heap)(hm:W.makesIn K C=true)
  (hi:W.findIn K (.ref C) "__init__" = some (some (.ref f))) (hf:W.typeIn K (.ref f)=some (.type "function"))
  (h:codeAny (model prog w) (A.under (.builtin "type.__call__" ⟨.ref C::vs,kw⟩)) (.call (.ref f) ⟨.ref (s.heap.objs.size+1)::vs,kw⟩) (W.InitBack (s.heap.objs.size+1) R)
   { s with heap:=(s.heap.push W.emptyDict).push (W.instObj C s.heap.objs.size) }) :
  codeAny (model prog w) A (.call (.ref C) ⟨vs,kw⟩) R s:=by
 obtain⟨hh,g,d,t,os⟩:=s;exact W.make_core (W.makes_of X hm) (W.looks_findIn X hi) (fun self=>W.bind_fn X self hf) (.inl rfl) h
end
def Yp(f:Str)(v:V):List (Str×V)->List (Str×V)
 |[]=>[(f,v)]
 | (g,x)::r=>if g=f then(g,v)::r else(g,x)::Yp f v r
def ye(f g:Str)(v:V):∀fs:List (Str×V),(Yp f v fs).lookup g=if g=f then some v else fs.lookup g
 |[]=>by
  show List.lookup g [(f,v)]=_
  by_cases h:g=f
  ·have hb:(g==f)=true:=lh.mpr h;simp only[List.lookup,hb,if_pos h]
  ·have hb:(g==f)=false:=i8.mpr h;simp only[List.lookup,hb,if_neg h]
 | (k,x)::r=>by
  have ih:=ye f g v r;rw[show Yp f v ((k,x)::r)=(if k=f then(k,v)::r else(k,x)::Yp f v r) from rfl]
  by_cases hk:k=f
  ·rw[if_pos hk]
   by_cases h:g=k
   ·have hb:(g==k)=true:=lh.mpr h;simp only[List.lookup,hb,if_pos (h.trans hk)]
   ·have hb:(g==k)=false:=i8.mpr h;simp only[List.lookup,hb,if_neg (fun e:g=f=>h (e.trans hk.symm))]
  ·rw[if_neg hk]
   by_cases h:g=k
   ·have hb:(g==k)=true:=lh.mpr h;simp only[List.lookup,hb,if_neg (fun e:g=f=>hk (h.symm.trans e))]
   ·have hb:(g==k)=false:=i8.mpr h;simp only[List.lookup,hb];exact ih
def zS(f:Str)(v:V):∀fs:List (Str×V),f∈(Yp f v fs).map (·.1)/\∀g,g∈fs.map (·.1)->g∈(Yp f v fs).map (·.1)
 |[]=>⟨by simp[Yp],fun g h=>by simp at h⟩
 | (k,x)::r=>by
  obtain⟨i1,i2⟩:=zS f v r;rw[show Yp f v ((k,x)::r)=(if k=f then(k,v)::r else(k,x)::Yp f v r) from rfl]
  by_cases hk:k=f
  ·rw[if_pos hk];subst hk;exact⟨by simp,fun g h=>by simpa using h⟩
  ·rw[if_neg hk];refine⟨?_,fun g h=>?_⟩
   ·rw[fZ];exact gf _ i1
   ·rw[fZ] at h ⊢;rcases fQ.mp h with e|e
    ·exact fQ.mpr (.inl e)
    ·exact gf _ (i2 g e)
def yl(f:Str)(v:V):∀fs:List (Str×V),(Yp f v fs).length<=fs.length+1
 |[]=>by simp[Yp]
 | (k,x)::r=>by
  have ih:=yl f v r;rw[show Yp f v ((k,x)::r)=(if k=f then(k,v)::r else(k,x)::Yp f v r) from rfl]
  by_cases hk:k=f
  ·rw[if_pos hk,gH,gH];omega
  ·rw[if_neg hk,gH,gH];omega
def VH.some_of{o:Option Value}(r:VH (some v) o):∃u,o=some u/\ZU v u:=by
 cases o with
 |none=>exact(show False from r).elim
 |some u=>exact⟨u,rfl,r⟩
def VH.none_of{o:Option Value}(r:VH none o):o=none:=by
 cases o with
 |none=>rfl
 |some u=>exact(show False from r).elim
def handed_of(r:ZU v u):W.handedIn u=true:=by
 cases v with
 |non=>cases (show u=Value.none from r);rfl
 |bl b=>cases (show u=Value.bool b from r);rfl
 |int i=>obtain⟨t,e⟩:=(show ∃t,u=Value.int i t from r);cases e;rfl
 |str x=>obtain⟨t,e⟩:=(show ∃t,u=Value.str x t from r);cases e;rfl
 |byt b=>obtain⟨t,e⟩:=(show ∃t,u=Value.bytes b t from r);cases e;rfl
 |flt b=>obtain⟨t,e⟩:=(show ∃t,u=Value.float b t from r);cases e;rfl
 |ref a=>cases (show u=Value.ref a from r);rfl
 |ty n=>cases (show u=Value.type n from r);rfl
section
variable{a:Addr}{fs fs':List (Str×V)}
def yA(hok:HOk P w H h)(e:H a=some (.ins C dx fs)):∃mA,ObjM h a dx C mA/\(∀f,VH (fs.lookup f) (mA f))/\PySem.Within mA (fs.map (·.1))/\fs.length<=1000/\H dx=some (.own a):=by
 obtain⟨d,z,ne,ob,mA,n,r,q⟩:=(show Yw P w H h a (.ins C dx fs) from hok a _ e);exact⟨mA,⟨ob,n,ne⟩,r,q,z,d⟩
end
structure Cls(K:W.Frag)(C:Addr):Prop where
 pg:W.plainGet K C Str.empty=true
 hd:W.hasDictIn K C=true
 po:W.plainOver K C=true
 sa:W.findIn K (.ref C) "__setattr__" = some (some (.builtin "object.__setattr__"))
def Cls.get(c:Cls K C)(f:Str):W.plainGet K C f=true:=c.pg
def Wh(K:W.Frag)(C:Addr)(f:Str):Prop:=W.findIn K (.ref C) f=some none
def Wh.taker{f:Str}(n:Wh K C f):W.takerIn K C f=some none:=by
 unfold W.takerIn;rw[show W.findIn K (.ref C) f=some none from n];rfl
structure Meth(K:W.Frag)(C:Addr)(m:Str)(f:Addr):Prop where
 at_:W.findIn K (.ref C) m=some (some (.ref f))
 fn:W.isFn K (.ref f)=true
 kp:W.keepIn K (.ref f)=true
section
variable{a:Addr}{fs:List (Str×V)}{f:Str}
def Kz{b:Bool}(I:Inv X db U H s)(e:H a=some (.ins C dx fs))(c:Cls X.K C)(n:Wh X.K C f)(l:fs.lookup f=some v)
  (h:∀u s',Inv X db U H s'->ZU v u->Q u s'):wpAny (model X.prog X.w) A (getAttr (.ref a) f b) Q E s:=by
 obtain⟨mA,O,r,_,_,_⟩:=yA I.hok e;obtain⟨u,hu,ru⟩:=VH.some_of (v:=v) (o:=mA f) (by rw[<- l];exact r f);exact get_map I.kIn O (c.get f) c.hd n hu (handed_of ru) (h u _ (I.tok _) ru)
def qr{m:Str}{g:Addr}{Q:Value×List Value->Shared->Prop}(I:Inv X db U H s)(e:H a=some (.ins C dx fs))(c:Cls X.K C)(k:Meth X.K C m g)(l:fs.lookup m=none)
  (h:Q (.ref g,[.ref a]) s):wpAny (model X.prog X.w) A (getMethod (.ref a) m pl) Q E s:=by
 obtain⟨mA,O,r,_,_,_⟩:=yA I.hok e;have hn:mA m=none:=VH.none_of (by rw[<- l];exact r m);exact get_meth I.kIn O (c.get m) k.at_ k.fn hn h
def KA{Q:Unit->Shared->Prop}(I:Inv X db U H s)(e:H a=some (.ins C dx fs))(c:Cls X.K C)(n:Wh X.K C f)(hl:fs.length<1000)(ry:ZU y u)
  (h:∀s',Inv X db U (upd H a (.ins C dx (Yp f y fs))) s'->Q () s'):wpAny (model X.prog X.w) A (setAttr (.ref a) f u) Q E s:=by
 obtain⟨mA,O,r,wi,_,ho⟩:=yA I.hok e;have hz:(fs.map (·.1)).length<=sizeLine:=by rw[fF,fJ];omega
 refine set_map I.kIn O c.sa c.po n.taker c.hd wi hz fun h' O' sb=>h _ ?_;have hd:∃o,h'.get? dx=some o:=let ⟨o,_,_,e',_⟩:=O'.ns; ⟨o,e'⟩
 refine I.write (x:=a) (e:=dx) (by rw[e];exact True.intro) (.inr ho) (fun b q hb z=>(sb.2 b hb).trans z) hd ?_;refine⟨by rw[Zx O.ne];exact ho,?_,O.ne,O'.obj,_,O'.ns,fun g=>?_,fun g hg=>?_⟩
 ·have:=yl f y fs;omega
 ·show VH ((Yp f y fs).lookup g) (if g=f then some u else mA g)
  rw[ye]
  by_cases q:g=f
  ·rw[if_pos q,if_pos q];exact ry
  ·rw[if_neg q,if_neg q];exact r g
 ·by_cases q:g=f
  ·rw[q];exact(zS f y fs).1
  ·refine(zS f y fs).2 g (wi g fun z=>hg ?_)
   show(if g=f then some u else mA g)=none
   rw[if_neg q];exact z
def Inv.made(I:Inv X db U H s):Inv X db U (upd (upd H s.heap.objs.size (.own (s.heap.objs.size+1))) (s.heap.objs.size+1) (.ins C s.heap.objs.size []))
  { s with heap:=(s.heap.push W.emptyDict).push (W.instObj C s.heap.objs.size) }:=by
 have e1:(s.heap.push W.emptyDict).get? s.heap.objs.size=some W.emptyDict:=ge s.heap rfl;have e2:((s.heap.push W.emptyDict).push (W.instObj C s.heap.objs.size)).get? (s.heap.objs.size+1)=some (W.instObj C s.heap.objs.size):=by
  have:=ge (s.heap.push W.emptyDict) (o:=W.instObj C s.heap.objs.size) rfl
  rwa [iq] at this
 have e3:(s.heap.push W.emptyDict).Ns s.heap.objs.size (fun _=>none):=⟨W.emptyDict,#[],_,e1,rfl,(fun e he=>absurd he (by simp)),fun _=>rfl⟩;have I1:=I.laid (a:=s.heap.objs.size) (o:=.own (s.heap.objs.size+1)) (h':=s.heap.push W.emptyDict) (t':=s.toks) (fun b u q=>fM _ q) (fE _) ⟨_,e1⟩;refine I1.laid (a:=s.heap.objs.size+1) (o:=.ins C s.heap.objs.size []) (t':=s.toks) (fun b u q=>fM _ q) (Nat.le_of_eq (iq _ _)) ?_;have ne:s.heap.objs.size≠s.heap.objs.size+1:=fP (li _);refine⟨by rw[Zx ne,Zd],gB _,ne,e2,fun _=>none,(Heap.Ns1.of_empty e3).at fun o q=>fM _ q,fun _=>True.intro,fun y hy=>absurd rfl hy⟩
def attr_of{f:Str}(hb:attributeBase e f env (eval e env)=eval e env)
  (h:wpAny (model prog w) A (eval e env) (fun o s₁=>wpAny (model prog w) A (getAttr o f true) Q E s₁) E s):wpAny (model prog w) A (eval (.Attribute e f pos) env) Q E s:=
 Attribute_any_ h (by rw[arm_eval_Attribute,hb])
end
inductive FldR(K:W.Frag)(f:Str)(x:V)(H:Hp)(Q:VK):Prop
 |mk (a C dx:Addr) (fs:List (Str×V)) (v:V) (h1:x=.ref a) (h2:H a=some (.ins C dx fs)) (h3:Cls K C) (h4:Wh K C f) (h5:fs.lookup f=some v) (k:Q v H):FldR K f x H Q
def tFld(K:W.Frag)(ta:TE)(f:Str):TE:=fun U H Q=>ta U H fun x H1=>FldR K f x H1 Q
def sFld(K:W.Frag)(ta tv:TE)(f:Str):TS:=fun D U H=>tv U H fun y H1=>ta U H1 fun x H2=>∃a C dx fs,x=.ref a/\H2 a=some (.ins C dx fs)/\Cls K C/\Wh K C f/\fs.length<1000 /\
 D.nx U (upd H2 a (.ins C dx (Yp f y fs)))
section
variable{o value:Expr}{f:Str}{tpos:Pos}{ta tv:TE}
def pe_fld(he:PE X e ta)(hb:attributeBase e f X.env (eval e X.env)=eval e X.env):PE X (.Attribute e f pos) (tFld X.K ta f):=by
 intro db s U H Q I h;refine attr_of hb (thn (he db s U H _ I h) fun u s1 ⟨x,H1,I1,rx,a,C,dx,fs,v,ex,ea,c,n,l,q⟩=>?_);subst ex;obtain rfl:u=Value.ref a:=rx;exact Kz I1 ea c n l fun u' s2 I2 ru=>⟨v,H1,I2,ru,q⟩
def qC(ha:PE X o ta)(hv:PE X value tv)(hs:swapsWith value (some (.Attribute o f pos')) pos.line X.env=pure false):PS X (.Assign [.Attribute o f pos'] value pos) (sFld X.K ta tv f):=by
 intro db s U H D I h;refine plainObj_wpAny_Assign_Attribute (thn (hv db s U H _ I h) fun u s1 ⟨y,H1,I1,ry,q⟩=>thn (ha db s1 U H1 _ I1 q) fun ov s2 ⟨x,H2,I2,rx,a,C,dx,fs,ex,ea,c,n,l,q2⟩=>?_) hs;subst ex;obtain rfl:ov=Value.ref a:=rx;exact KA I2 ea c n l ry fun s3 I3=>⟨U,_,I3,q2⟩
def methcall_of{m:Str}{apos:Pos}{args:List Expr}(he:PE X e te)(I:Inv X db U H s)
  (h:te U H fun x H1=>∃a C dx fs g,x=.ref a/\H1 a=some (.ins C dx fs)/\Cls X.K C/\Meth X.K C m g/\fs.lookup m=none /\
   ∀s1,Inv X db U H1 s1->wpAny (model X.prog X.w) X.A (callWith pos (.ref g) [.ref a] (backTo pos (starEach args X.env)) (backToKw pos (keywordEach [] X.env))) Q X.xe s1)
  (ht:eval (.Call (.Attribute e m apos) args [] pos) X.env=(do
   let ov <- eval e X.env
   standAt apos.atName
   let (f,first) <- holding [ov] (getMethod ov m pl)
   callWith pos f first (backTo pos (starEach args X.env)) (backToKw pos (keywordEach [] X.env)))) :
  wpAny (model X.prog X.w) X.A (eval (.Call (.Attribute e m apos) args [] pos) X.env) Q X.xe s:=by
 refine nV (pl:=pl) (thn (he db s U H _ I h) fun u s1 ⟨x,H1,I1,rx,a,C,dx,fs,g,ex,ea,c,k,l,q⟩=>?_) ht;subst ex;obtain rfl:u=Value.ref a:=rx;exact qr I1 ea c k l (q s1 I1)
end
section
variable{c:Value}{b:Bool}
inductive Ux(K:W.Frag)(H:Hp):V->Value->Prop where
 |non:Ux K H .non (.type "NoneType")
 |bl (x:Bool):Ux K H (.bl x) (.type "bool")
 |int (i:Int):Ux K H (.int i) (.type "int")
 |str (x:Str):Ux K H (.str x) (.type "str")
 |flt (x:UInt64):Ux K H (.flt x) (.type "float")
 |lst {a:Addr}{xs:List V} (e:H a=some (.lst xs)):Ux K H (.ref a) (.type "list")
 |frz {a:Addr}{o:Obj}{xs:List V} (e:H a=some (.frz o (.lst xs))):Ux K H (.ref a) (.type "list")
 |tup {a:Addr}{xs:List V} (e:H a=some (.tup xs)):Ux K H (.ref a) (.type "tuple")
 |dK {a:Addr}{kvs:List (Key×V)} (e:H a=some (.dK kvs)):Ux K H (.ref a) (.type "dict")
 |dT {a:Addr}{kvs:List (List Key×V)} (e:H a=some (.dT kvs)):Ux K H (.ref a) (.type "dict")
 |ins {a C dx:Addr}{fs:List (Str×V)} (e:H a=some (.ins C dx fs)) (cl:Cls K C) (ha:W.findIn K (.ref C) "__class__" = some (some (.builtin "object.__class__")))
   (hn:W.specialIn K (.builtin "object.__class__") "__get__" = some (some (.builtin "getset_descriptor.__get__"))) (htk:W.takesIn K (.builtin "object.__class__")=some true)
   (hm:W.mroIn K C (.type "object")=some true):Ux K H (.ref a) (.ref C)
def vX{x:V}{t:Value}(I:Inv X db U H s)(rx:ZU x u)(ty:Ux X.K H x t)(e:W.kitOne X.K t c=some b)(h:∀tk,Q (.bool b) { s with toks:=tk }) :
  wpAny (model X.prog X.w) A (call (.builtin "isinstance") [u,c]) Q E s:=by
 cases ty with
 |non=>cases (show u=Value.none from rx);exact ir W.kitx_none I.kIn True.intro e (fun z=>nomatch z) h
 |bl y=>cases (show u=Value.bool y from rx);exact ir W.kitx_bool I.kIn True.intro e (fun z=>nomatch z) h
 |int i=>obtain⟨t,q⟩:=(show ∃t,u=Value.int i t from rx);cases q;exact ir W.kitx_int I.kIn True.intro e (fun z=>nomatch z) h
 |str y=>obtain⟨t,q⟩:=(show ∃t,u=Value.str y t from rx);cases q;exact ir W.kitx_str I.kIn True.intro e (fun z=>nomatch z) h
 |flt y=>obtain⟨t,q⟩:=(show ∃t,u=Value.float y t from rx);cases q;exact ir W.kitx_float I.kIn True.intro e (fun z=>nomatch z) h
 |@lst a xs ea=>
  cases (show u=Value.ref a from rx);obtain⟨_,_,n,_,h1⟩:=(show Yw X.prog X.w H s.heap a (.lst xs) from I.hok a _ ea);exact ir W.kitx_list I.kIn ⟨_,h1,rfl⟩ e (fun z=>nomatch z) h
 |@frz a ob xs ea=>
  cases (show u=Value.ref a from rx);obtain⟨_,_,_,n,_,h1⟩:=(show Yw X.prog X.w H s.heap a (.frz ob (.lst xs)) from I.hok a _ ea);exact ir W.kitx_list I.kIn ⟨_,h1,rfl⟩ e (fun z=>nomatch z) h
 |@tup a xs ea=>
  cases (show u=Value.ref a from rx);obtain⟨_,_,_,p⟩:=(show Yw X.prog X.w H s.heap a (.tup xs) from I.hok a _ ea);obtain⟨o,h1,h2,_⟩:=p;exact ir W.kitx_tuple I.kIn ⟨o,h1,h2⟩ e (fun z=>nomatch z) h
 |@dK a kvs ea=>
  cases (show u=Value.ref a from rx);obtain⟨_,_,vs,_,p⟩:=(show Yw X.prog X.w H s.heap a (.dK kvs) from I.hok a _ ea);obtain⟨o,es,ep,h1,h2,_⟩:=p;exact ir W.kitx_dict I.kIn ⟨o,h1,h2.1⟩ e (fun z=>nomatch z) h
 |@dT a kvs ea=>
  cases (show u=Value.ref a from rx);obtain⟨_,_,xs,_,o,es,ep,h1,h2,_⟩:=(show Yw X.prog X.w H s.heap a (.dT kvs) from I.hok a _ ea);exact ir W.kitx_dict I.kIn ⟨o,h1,h2.1⟩ e (fun z=>nomatch z) h
 |@ins a C dx fs ea cl ha hn htk hm=>
  cases (show u=Value.ref a from rx);obtain⟨mA,O,_⟩:=yA I.hok ea;obtain⟨od,J,_⟩:=O.look;exact ir (W.kitx_own (cl.get _) cl.hd ha hn htk hm) I.kIn J e (fun z=>nomatch z) h
end
structure Yq(k:Nat)(A:Around):Prop where
 hd:A.handled=none
 dp:A.depth+3*k+5<recursionLimit
 un:A.units+16*k+200<cLine
def Yq.mono{k:Nat}(r:Yq k A)(h:j<=k):Yq j A:=⟨r.hd,by have:=r.dp;omega,by have:=r.un;omega⟩
def Yq.deeper{k:Nat}{A:Around}(r:Yq (k+1) A)(env:Env):Yq k (A.deeper env):=
 ⟨r.hd,by have:=r.dp;show A.depth+1+3*k+5<_;omega,by have:=r.un;show A.units+3+16*k+200<_;omega⟩
def J9:(A.under (.builtin "type.__call__" ⟨.ref C::us,kw⟩)).depth=A.depth+1:=by
 first|rfl|simp[Around.under,Code.weight,Code.isCreation,Code.isGuard,Code.isCaller,Code.frames,Code.isFrame,guardIds]
def KG:(A.under (.builtin "type.__call__" ⟨.ref C::us,kw⟩)).units=A.units+1:=by
 first|rfl|simp[Around.under,Code.cUnits,Code.frames,Code.isFrame]
def Yq.make{k:Nat}(r:Yq (k+1) A)(C:Addr)(us:List Value)(kw:List (Str×Value)):Yq k (A.under (.builtin "type.__call__" ⟨.ref C::us,kw⟩)):=
 ⟨r.hd,by have:=r.dp;rw[J9];omega,by have:=r.un;rw[KG];omega⟩
def Yq.depth{k:Nat}{A:Around}(r:Yq k A):A.depth<recursionLimit:=by have:=r.dp;omega
def Yq.units{k:Nat}{A:Around}(r:Yq k A):A.units+64<cLine:=by have:=r.un;omega
def Yq.units0{k:Nat}(r:Yq k A):A.units<cLine:=by have:=r.un;omega
def tNil:TA:=fun _ H Q=>Q [] H
def tCons(ta:TE)(tr:TA):TA:=fun U H Q=>ta U H fun x H1=>tr U H1 fun xs H2=>Q (x::xs) H2
section
variable{X:Cx}{e:Expr}{es:List Expr}{te:TE}{t:TA}{pos:Pos}
def Zb:PA X [] tNil:=fun _ _ _ _ H Q I h=>Calls.spliced_nil ⟨[],H,I,.nil,h⟩
def Za(ha:PE X e te)(hr:PA X es t)(hs:starEach (e::es) X.env=(false,eval e X.env)::starEach es X.env:=by rfl):PA X (e::es) (tCons te t):=by
 intro pos db s U H Q I h;rw[hs]
 show wpAny _ _ (spliced ((false,eval e X.env)::backTo pos (starEach es X.env))) _ _ s
 refine Calls.spliced_cons (thn (ha db s U H _ I h) fun u s1 ⟨x,H1,I1,r1,q1⟩=>?_);exact thn (hr pos db s1 U H1 _ I1 q1) fun us s2 ⟨xs,H2,I2,r2,q2⟩=>⟨x::xs,H2,I2,.cons r1 r2,q2⟩
inductive NewR(xs:List V)(o:HO)(H:Hp)(Q:VK):Prop
 |mk (z:xs.length<=sizeLine) (k:∀p,H p=none->Q (.ref p) (upd H p o)):NewR xs o H Q
def tTup(t:TA):TE:=fun U H Q=>t U H fun xs H1=>NewR xs (.tup xs) H1 Q
def tLst(t:TA):TE:=fun U H Q=>t U H fun xs H1=>NewR xs (.lst xs) H1 Q
def ZV{x1}(h:PA X es t):PE X (.Tuple es x1 pos) (tTup t):=by
 intro db s U H Q I hq;refine wpAny_Tuple_spliced (thn (h pos db s U H _ I hq) fun us s1 ⟨xs,H1,I1,r,z,q⟩=>⟨by rw[<- r.length];exact z,?_⟩);have hf:H1 s1.heap.objs.size=none:=I1.hok.fresh (fE _);refine⟨.ref s1.heap.objs.size,upd H1 s1.heap.objs.size (.tup xs),I1.laid (t':=s1.toks) (fun b u e=>fM _ e) (fE _) ?_,rfl,q _ hf⟩;exact⟨z,us,r,⟨_,ge _ rfl,rfl,_,rfl⟩⟩
def ZW(h:PA X es t):PE X (.List es pos) (tLst t):=by
 intro db s U H Q I hq;refine wpAny_List_spliced (thn (h pos db s U H _ I hq) fun us s1 ⟨xs,H1,I1,r,z,q⟩=>⟨by rw[<- r.length];exact z,?_⟩);have hf:H1 s1.heap.objs.size=none:=I1.hok.fresh (fE _);refine⟨.ref s1.heap.objs.size,upd H1 s1.heap.objs.size (.lst xs),I1.laid (t':=s1.toks) (fun b u e=>fM _ e) (fE _) ?_,rfl,q _ hf⟩;exact⟨z,us,0,r,ge _ rfl⟩
end
abbrev Sp:=List V->Hp->VK->XK->Prop
abbrev CXT:=List Env->Hp->Shared->XK->Value->Shared->Prop
structure Env0(P:Program)(w:World)(K:W.Frag)(mg:Str->Option Value)(base:Heap)(A:Around)(outer:List Env)(s:Shared)(H:Hp):Prop where
 frames:A.frames=some outer
 mod:Mod K mg base
 bs:∀b o,base.get? b=some o->s.heap.get? b=some o/\H b=none
 bsz:base.objs.size<=s.heap.objs.size
 funs:s.heap.FunFrames base outer
 frf:∀b∈frs outer,H b=none
 hok:HOk P w H s.heap
 bare:AllBare s.gens
def CE(outer:List Env)(P:Program)(w:World)(H:Hp)(s:Shared)(Q:VK)(u:Value)(s':Shared):Prop:=
 ∃v H',s'.os=s.os/\AllBare s'.gens/\Un (frs outer) [] H H' s.heap s'.heap/\HOk P w H' s'.heap/\ZU v u/\Q v H'
def CR(CX:CXT)(outer:List Env)(P:Program)(w:World)(H:Hp)(s:Shared)(Q:VK)(E:XK)(r:Result)(s':Shared):Prop:=
 match r with
 |.ok (.ret u)=>CE outer P w H s Q u s'
 |.ok _=>False
 |.error e=>CX outer H s E e s'
structure V9(P:Program)(w:World)(K:W.Frag)(mg:Str->Option Value)(base:Heap)(CX:CXT)(k:Nat)(f:Addr)(fd:FuncData)(ps:List Str)(sp:Sp):Prop where
 len:∀vs H Q E,sp vs H Q E->vs.length=ps.length
 run:∀(A:Around) (outer:List Env) (s:Shared) (H:Hp) (args:Args) (us:List Value) (vs:List V) (Q:VK) (E:XK),Yq k A->Env0 P w K mg base A outer s H->BindsTo s fd args (ps.zip us)->ZK vs us->sp vs H Q E ->
  codeAny (model P w) A (.call (.ref f) args) (CR CX outer P w H s Q E) s
def Env0.make(e:Env0 P w K mg base A outer s H)(C:Addr)(us:List Value)(kw:List (Str×Value)) :
  Env0 P w K mg base (A.under (.builtin "type.__call__" ⟨.ref C::us,kw⟩)) outer s H:=⟨by first|exact e.frames|(simpa[Around.under,Code.envs,Code.isFrame,pushEnvs] using e.frames),e.mod,e.bs,e.bsz,e.funs,e.frf,e.hok,e.bare⟩
def Inv.env0(I:Inv X db U H s):Env0 X.prog X.w X.K X.mg X.base X.A X.stack s H:=
 ⟨I.ok.frames,I.ok.mod,I.bs,fU I.ok.bsz I.sz,I.stack,I.stkFree,I.hok,I.bare⟩
def Inv.after{Q:VK}(I:Inv X db U H s)(h:CE X.stack X.prog X.w H s Q u s'):EP X db U Q u s':=by
 obtain⟨v,H',os,bare,un,hok,r,q⟩:=h;obtain⟨hh,g,d,t,os'⟩:=s';obtain rfl:os'=s.os:=os;exact⟨v,H',I.call (h':=hh) (g':=g) (d':=d) (t':=t) (ch:=[]) un hok bare (fun b z=>absurd z (by simp)),r,q⟩
def tCall(sp:Sp)(dvs:List V)(E:XK)(t:TA):TE:=fun U H Q=>t U H fun vs H1=>sp (vs++dvs) H1 Q E
inductive MethR(C:Addr)(m:Str)(x:V)(H:Hp)(B:Prop):Prop
 |mk (a dx:Addr) (fs:List (Str×V)) (h1:x=.ref a) (h2:H a=some (.ins C dx fs)) (h3:fs.lookup m=none) (k:B):MethR C m x H B
def tMeth(C:Addr)(m:Str)(sp:Sp)(dvs:List V)(E:XK)(ta:TE)(t:TA):TE:=fun U H Q=>ta U H fun x H1=>MethR C m x H1 (t U H1 fun vs H2=>sp (x::(vs++dvs)) H2 Q E)
def tMake(C:Addr)(sp:Sp)(dvs:List V)(E:XK)(t:TA):TE:=fun U H Q=>t U H fun vs H1=>∀x dx,H1 x=none->H1 dx=none->dx≠x ->
 sp (.ref x::(vs++dvs)) (upd (upd H1 dx (.own x)) x (.ins C dx [])) (fun v H2=>v=.non/\Q (.ref x) H2) E
def VP(K:W.Frag)(fd:FuncData)(ps:List Str)(ds:List Value):Prop:=
 ∀(s:Shared) (us:List Value),K.In s.heap->(us++ds).length=ps.length->BindsTo s fd ⟨us,[]⟩ (ps.zip (us++ds))
def VP.all{ps:List Str}(h:∀us:List Value,us.length=ps.length->bindArgs fd ⟨us,[]⟩=pure (ps.zip us)):VP K fd ps []:=fun s us _ hl=>by
 rw[iB] at hl ⊢;exact .of_eq (h us hl)
def Uc(CX:CXT)(X:Cx)(E:XK):Prop:=∀(db:List (Addr×Obj)) (U:St) (H:Hp) (s:Shared) (e:Value) (s':Shared),Inv X db U H s->CX X.stack H s E e s'->X.xe e s'
section
variable{CX:CXT}{k:Nat}{f:Addr}{ps:List Str}{sp:Sp}{dvs:List V}{ds:List Value}{E:XK}{x m:Str}{p apos:Pos}{o:Expr}{es:List Expr}{ta:TE}{t:TA}
def kh{Q:VK}(F:V9 X.prog X.w X.K X.mg X.base CX k f fd ps sp)(hr:Yq k X.A)(hb:VP X.K fd ps ds)(hd:ZK dvs ds)(hx:Uc CX X E)
  (I:Inv X db U H s) (r:ZK vs us) (h:sp (vs++dvs) H Q E):wpAny (model X.prog X.w) X.A (call (.ref f) us) (EP X db U Q) X.xe s:=by
 have r2:ZK (vs++dvs) (us++ds):=r.append hd;have hl:(us++ds).length=ps.length:=by rw[<- r2.length];exact F.len _ _ _ _ h
 refine wpAny_call (lv (F.run X.A X.stack s H ⟨us,[]⟩ (us++ds) (vs++dvs) Q E hr I.env0 (hb s us I.kIn hl) r2 h) fun r s' hq=>?_);cases r with
 |error e=>exact hx db U H s e s' I hq
 |ok fl=>
  cases fl with
  |ret u=>exact I.after hq
  |next=>exact False.elim hq
  |brk=>exact False.elim hq
  |cont=>exact False.elim hq
def XQ(F:V9 X.prog X.w X.K X.mg X.base CX k f fd ps sp)(hr:Yq k X.A)(hg:Gl X x)(hm:X.mg x=some (.ref f))(hk:W.keepIn X.K (.ref f)=true)(hb:VP X.K fd ps ds)(hd:ZK dvs ds)(hx:Uc CX X E)
  (ha:PA X (e::es) t) (hdb:(x==("__debug__" : Str))=false:=by decide) (he:starEach (e::es) X.env=(false,eval e X.env)::starEach es X.env:=by rfl) (hpl:(backTo pos (starEach es X.env)).any (·.1)=false:=by rfl) :
  PE X (.Call (.Name x p) (e::es) [] pos) (tCall sp dvs E t):=by
 intro db s U H Q I h;refine iW (yB I hg hm ?_ hdb);refine ni (h₀:=X.base) I.ok.mod.kin hk (thn (ha pos db s U H _ I h) fun us s1 ⟨vs,H1,I1,r,q⟩=>⟨I1.kIn,?_⟩) he hpl;exact kh F hr hb hd hx I1 r q
def Wr(he:PE X o ta)(c:Cls X.K C)(hm:Meth X.K C m f)(F:V9 X.prog X.w X.K X.mg X.base CX k f fd ps sp)(hr:Yq k X.A)(hb:VP X.K fd ps ds)(hd:ZK dvs ds)(hx:Uc CX X E)(ha:PA X (e::es) t)
  (hst:starEach (e::es) X.env=(false,eval e X.env)::starEach es X.env:=by rfl) (hpl:(backTo pos (starEach es X.env)).any (·.1)=false:=by rfl)
  (ht:eval (.Call (.Attribute o m apos) (e::es) [] pos) X.env=(do
   let ov <- eval o X.env
   standAt apos.atName
   let (f,first) <- holding [ov] (getMethod ov m pl)
   callWith pos f first (backTo pos (starEach (e::es) X.env)) (backToKw pos (keywordEach [] X.env))):=by rfl) :
  PE X (.Call (.Attribute o m apos) (e::es) [] pos) (tMeth C m sp dvs E ta t):=by
 intro db s U H Q I h;refine nV (pl:=pl) (thn (he db s U H _ I h) fun u s1 ⟨x,H1,I1,rx,a,dx,fs,ex,ea,l,q⟩=>?_) ht;subst ex;obtain rfl:u=Value.ref a:=rx;refine qr I1 ea c hm l ?_;refine ni (first:=[.ref a]) (h₀:=X.base) I.ok.mod.kin hm.kp (thn (ha pos db s1 U H1 _ I1 q) fun us s2 ⟨vs,H2,I2,r,q2⟩=>⟨I2.kIn,?_⟩) hst hpl;exact kh (us:=.ref a::us) (vs:=.ref a::vs) F hr hb hd hx I2 (.cons rfl r) q2
def VE(he:PE X o ta)(c:Cls X.K C)(hm:Meth X.K C m f)(F:V9 X.prog X.w X.K X.mg X.base CX k f fd ps sp)(hr:Yq k X.A)(hb:VP X.K fd ps ds)(hd:ZK dvs ds)(hx:Uc CX X E)
  (ht:eval (.Call (.Attribute o m apos) [] [] pos) X.env=(do
   let ov <- eval o X.env
   standAt apos.atName
   let (f,first) <- holding [ov] (getMethod ov m pl)
   callWith pos f first (backTo pos (starEach [] X.env)) (backToKw pos (keywordEach [] X.env))):=by rfl) :
  PE X (.Call (.Attribute o m apos) [] [] pos) (tMeth C m sp dvs E ta tNil):=by
 intro db s U H Q I h;refine nV (pl:=pl) (thn (he db s U H _ I h) fun u s1 ⟨x,H1,I1,rx,a,dx,fs,ex,ea,l,q⟩=>?_) ht;subst ex;obtain rfl:u=Value.ref a:=rx;refine qr I1 ea c hm l ?_;exact W.callWith_K0 (first:=[.ref a]) I1.kIn hm.kp (kh (us:=[.ref a]) (vs:=[.ref a]) F hr hb hd hx I1 (.cons rfl .nil) q)
structure Mk(K:W.Frag)(C f:Addr):Prop where
 makes:W.makesIn K C=true
 init:W.findIn K (.ref C) "__init__" = some (some (.ref f))
 fn:W.isFn K (.ref f)=true
 kp:W.keepIn K (.ref C)=true
def kR{Q:VK}(M:Mk X.K C f)(F:V9 X.prog X.w X.K X.mg X.base CX k f fd ps sp)(hr:Yq (k+1) X.A)(hb:VP X.K fd ps ds)(hd:ZK dvs ds)
  (hx:Uc CX X E) (I:Inv X db U H s) (r:ZK vs us)
  (h:∀x dx,H x=none->H dx=none->dx≠x->sp (.ref x::(vs++dvs)) (upd (upd H dx (.own x)) x (.ins C dx [])) (fun v H2=>v=.non/\Q (.ref x) H2) E) :
  wpAny (model X.prog X.w) X.A (call (.ref C) us) (EP X db U Q) X.xe s:=by
 have hq:=h (s.heap.objs.size+1) s.heap.objs.size (I.hok.fresh (iN _)) (I.hok.fresh (fE _)) (fP (li _));have I2:=Inv.made (C:=C) I;have r2:ZK (V.ref (s.heap.objs.size+1)::(vs++dvs)) (Value.ref (s.heap.objs.size+1)::(us++ds)):=.cons rfl (r.append hd);have hl:(Value.ref (s.heap.objs.size+1)::us++ds).length=ps.length:=by
  have e:=r2.length;rw[F.len _ _ _ _ hq] at e;exact e.symm
 refine wpAny_call (make_map (f:=f) I.kIn M.makes M.init (lh.mp M.fn) (lv (F.run _ X.stack _ _ ⟨Value.ref (s.heap.objs.size+1)::us,[]⟩ (Value.ref (s.heap.objs.size+1)::(us++ds)) _ _ E (hr.make C us [])
  (I2.env0.make C us []) (hb _ (Value.ref (s.heap.objs.size+1)::us) I2.kIn hl) r2 hq) fun r s' hq'=>?_))
 cases r with
 |error e=>exact hx db U _ _ e s' I2 hq'
 |ok fl=>
  cases fl with
  |ret u=>
   obtain⟨v,H',I3,rv,ev,q3⟩:=I2.after hq';subst ev;exact⟨rv,⟨V.ref (s.heap.objs.size+1),H',I3,rfl,q3⟩⟩
  |next=>exact False.elim hq'
  |brk=>exact False.elim hq'
  |cont=>exact False.elim hq'
def pe_make(M:Mk X.K C f)(F:V9 X.prog X.w X.K X.mg X.base CX k f fd ps sp)(hr:Yq (k+1) X.A)(hg:Gl X x)(hm:X.mg x=some (.ref C))(hb:VP X.K fd ps ds)(hd:ZK dvs ds)(hx:Uc CX X E)
  (ha:PA X (e::es) t) (hdb:(x==("__debug__" : Str))=false:=by decide) (he:starEach (e::es) X.env=(false,eval e X.env)::starEach es X.env:=by rfl) (hpl:(backTo pos (starEach es X.env)).any (·.1)=false:=by rfl) :
  PE X (.Call (.Name x p) (e::es) [] pos) (tMake C sp dvs E t):=by
 intro db s U H Q I h;refine iW (yB I hg hm ?_ hdb);refine ni (h₀:=X.base) I.ok.mod.kin M.kp (thn (ha pos db s U H _ I h) fun us s1 ⟨vs,H1,I1,r,q⟩=>⟨I1.kIn,?_⟩) he hpl;exact kR M F hr hb hd hx I1 r q
def pe_make0(M:Mk X.K C f)(F:V9 X.prog X.w X.K X.mg X.base CX k f fd ps sp)(hr:Yq (k+1) X.A)(hg:Gl X x)(hm:X.mg x=some (.ref C))(hb:VP X.K fd ps ds)(hd:ZK dvs ds)(hx:Uc CX X E)
  (hdb:(x==("__debug__" : Str))=false:=by decide):PE X (.Call (.Name x p) [] [] pos) (tMake C sp dvs E tNil):=by
 intro db s U H Q I h;refine iW (yB I hg hm ?_ hdb);exact W.callWith_K0 I.kIn M.kp (kR (us:=[]) M F hr hb hd hx I .nil h)
end
section
variable{CX:CXT}{k:Nat}{f:Addr}{ps ks:List Str}{sp:Sp}{E:XK}{x m:Str}{p apos kpos:Pos}{o:Expr}{es:List Expr}{kws:List Keyword}{ta:TE}{t tk:TA}{nm:Option Str}
variable{g:List Value->List Value->List Value}{gV:List V->List V->List V}
end
structure Zt(N P:List Str)(sc:Scope):Prop where
 kind:sc.kind=.function
 co:sc.isCoroutine=false
 gen:sc.isGenerator=false
 nd:N.Nodup
 pre:N.take P.length=P
 par:∀x∈P,sc.names.lookup x=some .local\/sc.names.lookup x=some .cell
 nofree:∀y∈sc.names,y.2≠.free
def jr{kindOf:Str->Option NameKind}{x:Str}:∀{binds:List (Str×Value)}{m:Str->Option Value},(∀v,(x,v)∉binds)->bindL kindOf binds m x=m x
 |[],_,_=>rfl
 | (n,v)::r,m,h=>by
  unfold bindL;rw[jr fun w hw=>h w (gf _ hw)]
  split
  ·have:x≠n:=by rintro rfl;exact h v iz
   simp[this]
  ·rfl
def vL{kindOf:Str->Option NameKind}{x:Str}:∀{binds:List (Str×Value)}{m:Str->Option Value},(∀v,(x,v)∉binds)->bindC kindOf binds m x=m x
 |[],_,_=>rfl
 | (n,v)::r,m,h=>by
  unfold bindC;rw[vL fun w hw=>h w (gf _ hw)]
  split
  ·rfl
  ·have:x≠n:=by rintro rfl;exact h v iz
   simp[this]
def vK{kindOf:Str->Option NameKind}{x:Str}{v:Value}:∀{P:List Str}{vs:List Value}{i:Nat}{m:Str->Option Value},P.Nodup->P[i]?=some x->vs[i]?=some v->kindOf x=some .local ->
  bindL kindOf (P.zip vs) m x=some v
 |[],_,_,_,_,h,_,_=>by simp at h
 |_::_,[],_,_,_,_,h,_=>by simp at h
 |p::P,w::vs,0,m,nd,h1,h2,hk=>by
  simp at h1 h2;subst h1;subst h2
  show bindL kindOf ((p,w)::P.zip vs) m p=_
  unfold bindL;rw[jr fun v hv=>(iC.mp nd).1 (lA hv).1,if_pos hk];simp
 |p::P,w::vs,i+1,m,nd,h1,h2,hk=>by
  show bindL kindOf ((p,w)::P.zip vs) m x=_
  unfold bindL;exact vK (i:=i) (iC.mp nd).2 (by simpa using h1) (by simpa using h2) hk
def jt{kindOf:Str->Option NameKind}{x:Str}{v:Value}:∀{P:List Str}{vs:List Value}{i:Nat}{m:Str->Option Value},P.Nodup->P[i]?=some x->vs[i]?=some v->kindOf x≠some .local ->
  bindC kindOf (P.zip vs) m x=some v
 |[],_,_,_,_,h,_,_=>by simp at h
 |_::_,[],_,_,_,_,h,_=>by simp at h
 |p::P,w::vs,0,m,nd,h1,h2,hk=>by
  simp at h1 h2;subst h1;subst h2
  show bindC kindOf ((p,w)::P.zip vs) m p=_
  unfold bindC;rw[vL fun v hv=>(iC.mp nd).1 (lA hv).1,if_neg hk];simp
 |p::P,w::vs,i+1,m,nd,h1,h2,hk=>by
  show bindC kindOf ((p,w)::P.zip vs) m x=_
  unfold bindC;exact jt (i:=i) (iC.mp nd).2 (by simpa using h1) (by simpa using h2) hk
def qT(N:List Str)(vs:List V):St:=vs.map some++List.replicate (N.length-vs.length) none
def cxOf(CX:CXT)(P:Program)(w:World)(K:W.Frag)(mg:Str->Option Value)(base:Heap)(N:List Str)(qual:Str)(scope:Scope)(f:Addr)(cd:Value)(A:Around)(outer:List Env)(s:Shared)(H:Hp)(E:XK):Cx where
 prog:=P
 w:=w
 K:=K
 mg:=mg
 base:=base
 A:=A.deeper (envOfC qual scope s.heap.objs.size f cd)
 N:=N
 s₀:=s
 H₀:=H
 env:=envOfC qual scope s.heap.objs.size f cd
 outer:=outer
 stack:=envOfC qual scope s.heap.objs.size f cd::outer
 ex:=[]
 calm:=true
 fn:=fun _=>true
 pn:=[]
 xe:=fun e s'=>wpAny (model P w) (A.deeper (envOfC qual scope s.heap.objs.size f cd)) (leaving (envOfC qual scope s.heap.objs.size f cd) e) (fun _ s''=>CX outer H s E e s'') (fun e' s''=>CX outer H s E e' s'') s'
def Jn{x:Str}(h:sc.names.lookup x=some .cell):∃c,(cellsFrom n sc.names []).lookup x=some c:=by
 have q:=W.cellsFrom_some sc.names n [] (.inl h);exact nj.mp q
def inv_start{CX:CXT}{ps:List Str}{f:Addr}{cd:Value}{s1:Shared}{E:XK}
  (S:Zt N ps scope) (hd:A.handled=none) (e0:Env0 P w K mg base A outer s H) (hl:vs.length=ps.length) (r:ZK vs us)
  (x:InCallC s s.heap.objs.size (bindL (envOfC qual scope s.heap.objs.size f cd).kindOf (ps.zip us) fun _=>none) (cellsFrom (s.heap.objs.size+1) scope.names []) (bindC (envOfC qual scope s.heap.objs.size f cd).kindOf (ps.zip us) fun _=>none) s1) :
  Inv (cxOf CX P w K mg base N qual scope f cd A outer s H E) [] (qT N vs) H s1:=by
 have hpl:ps.length<=N.length:=by have:=fS List.length S.pre;rw[gu] at this;omega
 obtain⟨h1,tk,rfl,hk⟩:=x.done;have noA:∀b:Addr,b∉(cxOf CX P w K mg base N qual scope f cd A outer s H E).ex:=fun b z=>absurd (show b∈([]:List Addr) from z) (by simp);refine⟨⟨e0.mod,S.kind,rfl,rfl,fE _,fun y z c h1 h2=>?_,fun y hy=>?_,fun y c _ h=>?_,fun _=>hd,Around.frames_deeper e0.frames,.inr ⟨rfl,rfl⟩,fun b z=>absurd z (noA b),e0.bs,e0.bsz,fun b _ _=>noA b,fun b z=>absurd z (noA b),e0.funs,e0.frf⟩,
  rfl,e0.bare,Un.kept hk,⟨_,x.toInCall.ns,fun i y v h1 h2 h3=>?_⟩,fun y c h=>⟨_,x.cell y c h⟩,e0.hok.fresh (fE _),fun y c h=>?_,fun p hp=>absurd (show p∈([]:List (Addr×Obj)) from hp) (by simp),e0.hok.kept hk,?_⟩
 ·exact name_of_addr x.apart (gN h1) (gN h2)
 ·have hy:scope.names.lookup y=some .cell\/scope.names.lookup y=some .free:=hy;rcases hy with hy|hy
  ·exact Jn hy
  ·exact absurd rfl (S.nofree _ (gN hy))
 ·exact ip (x.above y c (gN h))
 ·have hi:i<vs.length:=by
   unfold qT at h2
   by_cases hi:i<vs.length
   ·exact hi
   ·rw[gy (by simpa using hi)] at h2;rw[List.getElem?_replicate] at h2
    split at h2<;>cases h2
  have ha:vs[i]?=some v:=by
   unfold qT at h2;rw[gm (by simpa using hi),fL] at h2;cases e:vs[i]? with
   |none=>rw[e] at h2;cases h2
   |some a=>rw[e] at h2;cases h2;rfl
  obtain⟨u,hu,rv⟩:=r.get ha;have hp:ps[i]?=some y:=by
   rw[<- S.pre,mM (by omega)];exact h1
  have ndP:ps.Nodup:=by rw[<- S.pre];exact S.nd.sublist (List.take_sublist _ _)
  refine⟨u,rv,?_⟩;rcases S.par y (gj hp) with k|k
  ·exact .inl ⟨k,vK ndP hp hu k⟩
  ·obtain⟨c,e⟩:=Jn (n:=s.heap.objs.size+1) k;refine .inr ⟨.inl k,c,e,?_⟩;have q:=x.cell y c e;rw[jt ndP hp hu (by show scope.names.lookup y≠_;rw[k];decide)] at q;exact q
 ·exact e0.hok.fresh (ip (x.above y c (gN h)))
 ·unfold qT
  show _=N.length
  rw[fK,fF,List.length_replicate];omega
def fn_of{CX:CXT}{k:Nat}{f:Addr}{name:Str}{dV kV doc pm de ct oc:Value}
  {ps:List Str}{sp:Sp} (lk:K.lookup f=some ⟨oc,od,.func (W.fnOf name qual params body scope dV kV doc pm an de ct),osl⟩) (hcd:W.codeIn K de qual=true) (S:Zt N ps scope)
  (len:∀vs H Q E,sp vs H Q E->vs.length=ps.length)
  (hbody:∀(A:Around) (outer:List Env) (s:Shared) (H:Hp) (vs:List V) (Q:VK) (E:XK),Yq k (A.deeper (envOfC qual scope s.heap.objs.size f de))->sp vs H Q E ->
   ∃t,PSs (cxOf CX P w K mg base N qual scope f de A outer s H E) body t/\t { nx:=fun _ H'=>Q .non H',rt:=Q } (qT N vs) H) :
  V9 P w K mg base CX (k+1) f (W.fnOf name qual params body scope dV kV doc pm an de ct) ps sp:=by
 refine⟨len,fun A outer s H args us vs Q E hr e0 hb r hsp=>?_⟩;have hl:=len _ _ _ _ hsp;have KX:K.In s.heap:=e0.mod.kin.keeps fun b o e=>(e0.bs b o e).1;have lim:s.heap.NoLimit:=e0.mod.nolimit.keeps fun b o e=>(e0.bs b o e).1;have hkind:∀y∈ps.zip us,scope.names.lookup y.1=some .local\/(scope.names.lookup y.1=some .cell/\((cellsFrom (s.heap.objs.size+1) scope.names []).lookup y.1).isSome=true):=fun⟨n,v⟩ hy=>by
  rcases S.par n (lA hy).1 with q|q
  ·exact .inl q
  ·exact .inr ⟨q,W.cellsFrom_some _ _ _ (.inl q)⟩
 refine codeAny_call_function hr.depth (KX _ _ lk) rfl S.co S.gen rfl (W.codeRec_of KX hcd) (hb _ _ _ _ ?_);refine wpAny_newFunctionEnv_cells S.kind hkind fun env he s1 x=>?_;subst he;refine⟨lim.keeps x.toInCall.keep,codeAny_func ?_⟩;obtain⟨t,ht,hq⟩:=hbody A outer s H vs Q E (hr.deeper _) hsp;have I:Inv (cxOf CX P w K mg base N qual scope f de A outer s H E) [] (qT N vs) H s1:=inv_start S hr.hd e0 hl r x;refine ik (ht [] s1 (qT N vs) H _ I hq) (fun fl s' hs=>?_) fun e s' hs=>hs;have fin:∀{σ':St}{H':Hp}{v:V}{u:Value},Inv (cxOf CX P w K mg base N qual scope f de A outer s H E) [] σ' H' s'->ZU v u->Q v H'->CE outer P w H s Q u s':=
  fun {σ' H' v u} J rv q=>⟨v,H',J.os,J.bare,J.base,J.hok,rv,q⟩
 cases fl with
 |ret u=>
  obtain⟨v,σ',H',J,rv,q⟩:=hs;exact fin J rv q
 |next=>
  obtain⟨σ',H',J,q⟩:=hs;exact fin (v:=V.non) (u:=Value.none) J rfl q
 |brk=>
  obtain⟨_,_,_,q⟩:=hs;exact False.elim q
 |cont=>
  obtain⟨_,_,_,q⟩:=hs;exact False.elim q
end L2
variable{sp:L2.Sp}{CX:L2.CXT}{Fam:PySem.Addr->L2.Sp->Prop}
namespace L2
open PySem PySem.Spec PyProof.Rows
section
variable{x:Str}{p:Pos}{es:List Expr}{t:TA}{id:String}{r:List V->Hp->VK->Prop}
def tCB(r:List V->Hp->VK->Prop)(t:TA):TE:=fun U H Q=>t U H fun vs H1=>r vs H1 Q
def Zl(hc:Ym X (.builtin id) r)(hg:Gl X x)(hm:X.mg x=none)(hv:bootBuiltins x=some (.builtin id))(ha:PA X (e::es) t)(hn:x ≠ "__name__" := by decide)(hdb:(x==("__debug__" : Str))=false:=by decide)
  (he:starEach (e::es) X.env=(false,eval e X.env)::starEach es X.env:=by rfl) (hpl:(backTo pos (starEach es X.env)).any (·.1)=false:=by rfl):PE X (.Call (.Name x p) (e::es) [] pos) (tCB r t):=by
 intro db s U H Q I h;refine iW (VY I hg hm hv ?_ hn hdb);exact PyProof.Rows.callWith_builtin1 (thn (ha pos db s U H _ I h) fun us s1 ⟨vs,H1,I1,r1,q1⟩=>hc db s1 U H1 vs us Q I1 r1 q1) he hpl
def ZM(hc:Ym X (.type T) r)(hg:Gl X x)(hm:X.mg x=none)(hv:bootBuiltins x=some (.type T))(ha:PA X (e::es) t)(hn:x ≠ "__name__" := by decide)(hdb:(x==("__debug__" : Str))=false:=by decide)
  (he:starEach (e::es) X.env=(false,eval e X.env)::starEach es X.env:=by rfl) (hpl:(backTo pos (starEach es X.env)).any (·.1)=false:=by rfl):PE X (.Call (.Name x p) (e::es) [] pos) (tCB r t):=by
 intro db s U H Q I h;refine iW (VY I hg hm hv ?_ hn hdb);exact mo (thn (ha pos db s U H _ I h) fun us s1 ⟨vs,H1,I1,r1,q1⟩=>hc db s1 U H1 vs us Q I1 r1 q1) he hpl
def KF(hc:Ym X (.type T) r)(hg:Gl X x)(hm:X.mg x=none)(hv:bootBuiltins x=some (.type T))(hn:x ≠ "__name__" := by decide)(hdb:(x==("__debug__" : Str))=false:=by decide) :
  PE X (.Call (.Name x p) [] [] pos) (tCB r tNil):=by
 intro db s U H Q I h;refine iW (VY I hg hm hv ?_ hn hdb);exact PyProof.Rows.callWith_type0 (hc db s U H [] [] Q I .nil h)
end
end L2
namespace HT
open PySem PyProof.Rows
section
open PySem.SeqAt
open PySem.AutoSeq1 (wpAny_loadPart')
open PySem.MeetsSeq PySem.MeetsSeq2 PySem.MeetsSeq3
end
def cat_tup{t b:Addr}{vs ws:List Value}(ht:IsTup s.heap t vs.toArray)(hb:IsTup s.heap b ws.toArray)(hv:vs≠[])
  (h1:ws=[]->Q (.ref t) s) (h2:ws≠[]->Q (.ref s.heap.objs.size) { s with heap:=s.heap.push { cls:=.type "tuple",data:=.seq (vs++ws).toArray } })
  (hsz:vs.length+ws.length<=sizeLine):wpAny (model prog w) A (binaryOp .Add (.ref t) (.ref b)) Q E s:=by
 obtain⟨⟨cls,dd,data,sl⟩,ho,hc,n,hd⟩:=id ht;obtain⟨⟨cls2,dd2,data2,sl2⟩,ho2,hc2,n2,hd2⟩:=id hb;simp only at hc hd hc2 hd2;subst hc hd hc2 hd2;have e:vs.toArray++ws.toArray=(vs++ws).toArray:=by simp
 by_cases hw:ws=[]
 ·exact concat_meets ⟨_,ho,rfl⟩ ⟨_,ho2,rfl⟩ noFill_tuple_add seq_tuple_add PySem.F.slot_tuple_add PySem.F.entry_tuple_add (PySem.F.args_tuple_add_2 _ _)
   (tuple_addW1 t b vs.toArray ws.toArray n n2 dd dd2 sl sl2 (by simpa using hv) (by simp[hw])) ⟨ho,ho2,h1 hw⟩
 ·refine concat_meets ⟨_,ho,rfl⟩ ⟨_,ho2,rfl⟩ noFill_tuple_add seq_tuple_add PySem.F.slot_tuple_add PySem.F.entry_tuple_add (PySem.F.args_tuple_add_2 _ _)
   (tuple_addW2 t b vs.toArray ws.toArray n n2 dd dd2 sl sl2 (by simpa using hv) (by simpa using hw) (by rw[fV,fV];exact hsz)) ⟨ho,ho2,?_⟩
  rw[e];exact h2 hw
def sIx(n d:Nat):Option Int->Nat
 |none=>d
 |some v=>if v<0 then(v+(n:Int)).toNat else min v.toNat n
def sIx_none(n d:Nat):sIx n d none=d:=rfl
def sIx_nat(n d k:Nat):sIx n d (some (k:Int))=min k n:=by
 show(if(k:Int)<0 then((k:Int)+(n:Int)).toNat else min (k:Int).toNat n)=min k n
 rw[if_neg (by omega),gw]
def sIx_le(n d:Nat)(hd:d<=n)(o:Option Int):sIx n d o<=n:=by
 cases o with
 |none=>exact hd
 |some v=>
  show(if v<0 then(v+(n:Int)).toNat else min v.toNat n)<=n
  by_cases hv:v<0
  ·rw[if_pos hv];omega
  ·rw[if_neg hv];exact nk _ _
def clip_eq(v:Int)(n d:Nat):(if v<0 then max (v+(n:Int)) 0 else min v (n:Int))=((sIx n d (some v):Nat):Int):=by
 show(if v<0 then max (v+(n:Int)) 0 else min v (n:Int))=(((if v<0 then(v+(n:Int)).toNat else min v.toNat n):Nat):Int)
 by_cases hv:v<0
 ·simp only[if_pos hv];omega
 ·simp only[if_neg hv];omega
def J2(lo hi:Option Int)(n:Nat):Builtin.Slice.sliceAdjust lo hi 1 (n:Int)=(((sIx n 0 lo:Nat):Int),((sIx n n hi:Nat):Int)):=by
 have h1:¬((1:Int)<0):=by omega
 unfold Builtin.Slice.sliceAdjust;simp only[h1,gU];refine Prod.ext ?_ ?_
 ·cases lo with
  |none=>rfl
  |some v=>exact clip_eq v n 0
 ·cases hi with
  |none=>rfl
  |some v=>exact clip_eq v n n
def Kt(i j:Nat):Builtin.Slice.slicePlaces (i:Int) (j:Int) 1=j-i:=by
 unfold Builtin.Slice.slicePlaces;have h1:(1:Int)>0:=by omega
 simp only[h1,ia,Int.ediv_one]
 split<;>omega
def xn{v:Value}{o:Option Int}{Q:Option Int->Shared->Prop}(p:IsPart v o)(h:Q o s):wpAny (model prog w) A (Builtin.Slice.slicePartIndex v) Q E s:=by
 cases p with
 |none=>exact slicePart_none h
 |int i t=>exact slicePart_int h
def zK{vu:Value}{Q:Int×Int×Nat->Shared->Prop}(hs:s.heap.IsSliceOf sl vl vu .none)(pl:IsPart vl lo)(pu:IsPart vu hi)
  (h:Q (((sIx n 0 lo:Nat):Int),1,sIx n n hi-sIx n 0 lo) s):wpAny (model prog w) A (Builtin.Slice.sliceApplied (.ref sl) (pure (n:Int))) Q E s:=by
 obtain⟨os,hos,hcs,hds⟩:=id hs;unfold Builtin.Slice.sliceApplied Builtin.Slice.sliceFields;refine fD (fD (ib hos hds (x:=vl) rfl (fD (ib hos hds (x:=vu) rfl (fD (ib hos hds (x:=.none) rfl (fI ?_)))))));refine fD (slicePart_none ?_)
 show wpAny _ _ (if((1:Int)==0)=true then _ else _) _ _ s
 rw[if_neg (by decide)];refine fD (xn pl (fD (xn pu (fD (fI ?_)))))
 show wpAny _ _ (match Builtin.Slice.sliceAdjust lo hi 1 (n:Int) with|(lo,hi)=>pure (lo,(1:Int),Builtin.Slice.slicePlaces lo hi 1)) _ _ s
 rw[J2 lo hi n]
 show wpAny _ _ (pure (((sIx n 0 lo:Nat):Int),(1:Int),Builtin.Slice.slicePlaces ((sIx n 0 lo:Nat):Int) ((sIx n n hi:Nat):Int) 1)) _ _ s
 rw[Kt];exact fI h
def pick_gen(xs:Array Value)(i k:Nat):((List.range k).filterMap fun(m:Nat)=>xs[((i:Int)+(m:Int)*1).toNat]?).toArray=((xs.toList.drop i).take k).toArray:=by
 have e:(fun(m:Nat)=>xs[((i:Int)+(m:Int)*1).toNat]?)=fun m=>xs[i+m]?:=by
  funext m
  have:((i:Int)+(m:Int)*1).toNat=i+m:=by omega
  rw[this]
 rw[e];have:=pick_run xs i k;rw[List.filterMap_map] at this;have e2:((fun x=>xs[x]?)∘fun x=>i+x)=fun m=>xs[i+m]?:=rfl;rw[e2] at this;rw[this]
def getItem_tuple_cut{t:Addr}{vu:Value}(ht:IsTup s.heap t items)(hs:s.heap.IsSliceOf sl vl vu .none)(pl:IsPart vl lo)(pu:IsPart vu hi)
  (hw:¬(sIx items.size 0 lo=0/\sIx items.size items.size hi=items.size))
  (h:Q (.ref s.heap.objs.size) { s with heap:=s.heap.push { cls:=.type "tuple",data:=.seq ((items.toList.drop (sIx items.size 0 lo)).take (sIx items.size items.size hi-sIx items.size 0 lo)).toArray } })
  (hsz:items.size<=sizeLine):wpAny (model prog w) A (getItem (.ref t) (.ref sl)) Q E s:=by
 have htake:sizeOk (.seq ((items.toList.drop (sIx items.size 0 lo)).take (sIx items.size items.size hi-sIx items.size 0 lo)).toArray):=by
  show((items.toList.drop (sIx items.size 0 lo)).take (sIx items.size items.size hi-sIx items.size 0 lo)).toArray.size<=sizeLine
  rw[fV,gu,ie,im];omega
 have hj:sIx items.size items.size hi<=items.size:=sIx_le _ _ (fE _) hi;obtain⟨os,hos,hcs,hds⟩:=id hs;have hTs:s.TypeIs (.ref sl) "slice" := ⟨os,hos,hcs⟩;unfold getItem
 try with_reducible refine hU ?_
 first|refine fD (fI ?_)|skip
 refine fD (wpAny_sequenceKey ht.typeIs (by decide) ?_);refine fD (lC (name:=Str.ofString "__getitem__") ht.typeIs nW
  (io nW ht.typeIs entry_tuple_getitem ?_ (args_tuple_getitem _ _)))
 show wpAny _ _ (Builtin.Tuple.tupleItemsOf (.ref t) >>= _) _ _ s
 refine fD (tupleItemsOf_ ht ?_);refine fD (wpAny_typeOf hTs ?_);rw[if_pos (by decide)];refine fD (zK hs pl pu ?_);have hno:¬((((sIx items.size 0 lo:Nat):Int)==0&&(1:Int)==1&&(sIx items.size items.size hi-sIx items.size 0 lo)==items.size)=true):=by
  intro q;rw[gv,gv] at q;have q1:((sIx items.size 0 lo:Nat):Int)=0:=eq_of_beq q.1.1;have q2:sIx items.size items.size hi-sIx items.size 0 lo=items.size:=eq_of_beq q.2;exact hw ⟨by omega,by omega⟩
 show wpAny _ _ (if(((sIx items.size 0 lo:Nat):Int)==0&&(1:Int)==1&&(sIx items.size items.size hi-sIx items.size 0 lo)==items.size)=true then _ else _) _ _ s
 rw[if_neg hno,pick_gen]
 first
  |exact fD (m:=Builtin.Tuple.tupleExact _) (ig (fI ⟨_,rfl,fI h⟩) htake)
  |exact fD (m:=Builtin.Tuple.tupleExact _) (ig (fD (fI (fI ⟨_,rfl,fI h⟩))) htake)
  |exact fD (fD (m:=Builtin.Tuple.tupleExact _) (ig (fI (fI ⟨_,rfl,fI h⟩)) htake))
  |exact fD (fD (m:=Builtin.Tuple.tupleExact _) (ig (fI ⟨_,rfl,fI h⟩) htake))
end HT
namespace L2
open PySem PySem.Spec PyProof.Rows
abbrev TO:=St->Hp->(Option Int->Hp->Prop)->Prop
def PO(X:Cx)(e:Option Expr)(t:TO):Prop:=
 ∀(db:List (Addr×Obj)) (s:Shared) (U:St) (H:Hp) (Q:Option Int->Hp->Prop),Inv X db U H s->t U H Q ->
  wpAny (model X.prog X.w) X.A (evalPart e X.env) (fun u s'=>∃o H',Inv X db U H' s'/\IsPart u o/\Q o H') X.xe s
def tNoPart:TO:=fun _ H Q=>Q none H
inductive PartR(x:V)(H:Hp)(Q:Option Int->Hp->Prop):Prop
 |mk (i:Int) (h:x=.int i) (k:Q (some i) H):PartR x H Q
def tPart(t:TE):TO:=fun U H Q=>t U H fun x H1=>PartR x H1 Q
def Ko:∀{us:List Value},ZK (ns.map V.int) us->IntsAre us ns:=by
 induction ns with
 |nil=>intro us r;rw[List.map_nil] at r;cases r;exact .nil
 |cons n ns ih=>
  intro us r;rw[fZ] at r;cases r with
  |cons r1 r2=>
   obtain⟨t,e⟩:=r1;subst e;exact .cons n t (ih r2)
section
variable{lo hi:Option Expr}{tl th:TO}
def Ys:PO X none tNoPart:=by
 intro db s U H Q I h;rw[evalPart_none];exact fI ⟨none,H,I,.none,h⟩
def Z5(h:PE X e te):PO X (some e) (tPart te):=by
 intro db s U H Q I hw;rw[evalPart_some];refine thn (h db s U H _ I hw) fun u s1 ⟨x,H1,I1,r1,q1⟩=>?_;obtain⟨i,rfl,q⟩:=q1;obtain⟨t,rfl⟩:=r1;exact⟨some i,H1,I1,.int i t,q⟩
def SlR(X:Cx)(r:V->Option Int->Option Int->Hp->VK->Prop):Prop:=
 ∀(db:List (Addr×Obj)) (s:Shared) (U:St) (H:Hp) (x:V) (v vl vu:Value) (lo hi:Option Int) (sl:Addr) (Q:VK),Inv X db U H s->ZU x v->s.heap.IsSliceOf sl vl vu .none->IsPart vl lo->IsPart vu hi->r x lo hi H Q ->
  ∃T id,typeLookup (.type T) "__getitem__" = pure (some (.builtin id))/\s.TypeIs v T/\wpAny (model X.prog X.w) X.A (getItem v (.ref sl)) (EP X db U Q) X.xe s
def tSl(r:V->Option Int->Option Int->Hp->VK->Prop)(te:TE)(tl th:TO):TE:=fun U H Q=>te U H fun x H1=>tl U H1 fun l H2=>th U H2 fun u H3=>r x l u H3 Q
def Z8{r:V->Option Int->Option Int->Hp->VK->Prop}(hr:SlR X r)(he:PE X e te)(hl:PO X lo tl)(hu:PO X hi th):PE X (.Subscript e (.Slice lo hi none p2) pos) (tSl r te tl th):=by
 intro db s U H Q I h;refine Subscript_ (thn (he db s U H _ I h) fun v s1 ⟨x,H1,I1,r1,q1⟩=>?_);refine wpAny_Slice (thn (hl db s1 U H1 _ I1 q1) fun vl s2 ⟨l,H2,I2,pl,q2⟩=>thn (hu db s2 U H2 _ I2 q2) fun vu s3 ⟨u,H3,I3,pu,q3⟩=>?_);rw[evalPart_none];refine fI ?_;have I4:Inv X db U H3 { s3 with heap:=s3.heap.push { cls:=.type "slice",data:=.fields #[vl,vu,.none] } }:=I3.kept (t':=s3.toks) fun b ob q=>fM _ q;obtain⟨T,id,hT,ht,hg⟩:=hr db { s3 with heap:=s3.heap.push { cls:=.type "slice",data:=.fields #[vl,vu,.none] } } U H3 x v vl vu l u s3.heap.objs.size Q I4 r1 (Heap.IsSliceOf.new ..) pl pu q3
 show wpAny (model X.prog X.w) X.A (subscriptTail e (.Slice lo hi none p2) v (.ref s3.heap.objs.size)) (EP X db U Q) X.xe { s3 with heap:=s3.heap.push { cls:=.type "slice",data:=.fields #[vl,vu,.none] } }
 exact tail_any (ops:=[.ref s3.heap.objs.size,v]) ht hT hg (by with_unfolding_all rfl)
def W7(xs:List V)(lo hi:Option Int):List V:=(xs.drop (HT.sIx xs.length 0 lo)).take (HT.sIx xs.length xs.length hi-HT.sIx xs.length 0 lo)
def yk(xs:List V)(lo hi:Option Int):(W7 xs lo hi).length<=xs.length:=by
 unfold W7;rw[gu,ie];omega
inductive rSlT_R(K:W.Frag)(x:V)(lo:Option Int)(hi:Option Int)(H:Hp)(Q:VK):Prop
 |mk (a:_) (xs:_) (h0:x=.ref a) (h1:SqT K H a xs) (h2:¬(HT.sIx xs.length 0 lo=0/\HT.sIx xs.length xs.length hi=xs.length)) (h3:∀p,H p=none->Q (.ref p) (upd H p (.tup (W7 xs lo hi)))):rSlT_R K x lo hi H Q
def rSlT(K:W.Frag):V->Option Int->Option Int->Hp->VK->Prop:=fun x lo hi H Q=>rSlT_R K x lo hi H Q
def sl_tup:SlR X (rSlT X.K):=by
 intro db s U H x v vl vu lo hi sl Q I rx hs pl pu h;obtain⟨a,xs,rfl,hx,hw,q⟩:=h;cases rx;obtain⟨its,r,ht,hz⟩:=I.tuple hx;have hlen:its.toArray.size=xs.length:=by rw[fV];exact r.length.symm
 refine⟨"tuple",_,nW.lookup,ht.typeIs,?_⟩;refine HT.getItem_tuple_cut ht hs pl pu (by rw[hlen];exact hw) ?_ (by rw[hlen];exact hz);rw[hlen];refine⟨.ref s.heap.objs.size,_,I.laid (t':=s.toks) (o:=.tup (W7 xs lo hi)) (fun b ob q=>fM _ q) (fE _) ?_,rfl,q _ (I.hok.fresh (fE _))⟩;exact⟨fU (yk xs lo hi) hz,_,(r.drop (HT.sIx xs.length 0 lo)).take (HT.sIx xs.length xs.length hi-HT.sIx xs.length 0 lo),IsTup.new _ _⟩
inductive rCatT_R(K:W.Frag)(x:V)(y:V)(H:Hp)(Q:VK):Prop
 |mk (a:_) (b:_) (xs:_) (ys:_) (h0:x=.ref a) (h1:y=.ref b) (h2:SqT K H a xs) (h3:SqT K H b ys) (h4:xs≠[]) (h5:xs.length+ys.length<=sizeLine) (h6:(ys=[]->Q (.ref a) H)) (h7:(ys≠[]->∀p,H p=none->Q (.ref p) (upd H p (.tup (xs++ys))))):rCatT_R K x y H Q
def rCatT(K:W.Frag):R2:=fun x y H Q=>rCatT_R K x y H Q
def ZK.nil_iff{xs:List V}(r:ZK xs us):us=[]↔xs=[]:=by
 cases r with
 |nil=>simp
 |cons _ _=>simp
def op_catT:OpR X (binaryOp .Add) (rCatT X.K):=by
 intro db s U H x y v u Q I rx ry h;obtain⟨a,b,xs,ys,rfl,rfl,ha,hb,hx,hz,q1,q2⟩:=h;cases rx;cases ry;obtain⟨its,r1,p1,_⟩:=I.tuple ha;obtain⟨its2,r2,p2,_⟩:=I.tuple hb;refine HT.cat_tup p1 p2 (fun z=>hx (r1.nil_iff.mp z)) (fun z=>⟨.ref a,H,I,rfl,q1 (r2.nil_iff.mp z)⟩) (fun z=>?_) (by rw[<- r1.length,<- r2.length];exact hz);refine⟨.ref s.heap.objs.size,_,I.laid (t':=s.toks) (o:=.tup (xs++ys)) (fun b ob q=>fM _ q) (fE _) ?_,rfl,q2 (fun w=>z (r2.nil_iff.mpr w)) _ (I.hok.fresh (fE _))⟩;exact⟨by rw[fK];exact hz,_,r1.append r2,IsTup.new _ _⟩
end
def ixN(n:Nat)(i:Int):Option Nat:=if 0<=i then(if i<n then some i.toNat else none) else if -(n:Int)<=i then some (i+n).toNat else none
def atI(xs:List α)(i:Int):Option α:=(ixN xs.length i).bind fun j=>xs[j]?
def ixN_seq{i:Int}(h:ixN n i=some j):seqIndex? i n=some j/\j<n/\-(n:Int)<=i/\i<n:=by
 unfold ixN at h
 by_cases h0:0<=i
 ·rw[if_pos h0] at h
  by_cases h1:i<n
  ·rw[if_pos h1] at h;have e:i.toNat=j:=fY h;exact⟨by rw[seqIndex_of h0 h1,e],by omega,by omega,h1⟩
  ·rw[if_neg h1] at h;cases h
 ·rw[if_neg h0] at h
  by_cases h1:-(n:Int)<=i
  ·rw[if_pos h1] at h;have e:(i+n).toNat=j:=fY h;exact⟨by rw[seqIndex_neg (by omega) h1,e],by omega,h1,by omega⟩
  ·rw[if_neg h1] at h;cases h
def jS{xs:List α}{i:Int}{v:α}(h:atI xs i=some v):∃j,seqIndex? i xs.length=some j/\xs[j]?=some v/\j<xs.length/\-(xs.length:Int)<=i/\i<xs.length:=by
 unfold atI at h;cases e:ixN xs.length i with
 |none=>rw[e] at h;cases h
 |some j=>
  rw[e] at h;obtain⟨h1,h2,h3,h4⟩:=ixN_seq e;exact⟨j,h1,h,h2,h3,h4⟩
def Zj{xs:List α}{v:α}(h:xs[j]?=some v):atI xs (j:Int)=some v:=by
 have hj:j<xs.length:=(fO.mp h).1;have e:ixN xs.length (j:Int)=some j:=by
  unfold ixN;rw[if_pos (by omega),if_pos (by omega)];simp
 unfold atI;rw[e];exact h
def Jy(xs:List α)(v:α):atI (xs++[v]) (-1)=some v:=by
 have hl:(xs++[v]).length=xs.length+1:=by simp
 have e:ixN (xs++[v]).length (-1)=some xs.length:=by
  unfold ixN;rw[hl,if_neg (by decide),if_pos (by omega)]
  congr 1
  omega
 unfold atI;rw[e]
 show(xs++[v])[xs.length]?=some v
 simp
def PlainIx(b:Expr):Prop:=∀o i,subscripted b false o i=operate [o,i] (getItem o i)
def IxR(X:Cx)(r:R2):Prop:=
 ∀(value slice:Expr) (db:List (Addr×Obj)) (s:Shared) (U:St) (H:Hp) (x y:V) (v u:Value) (Q:VK),Inv X db U H s->ZU x v->ZU y u->r x y H Q ->
  subscripted slice false v u=operate [v,u] (getItem v u)->wpAny (model X.prog X.w) X.A (subscriptTail value slice v u) (EP X db U Q) X.xe s
def MtR(X:Cx)(id:String)(r:V->List V->Hp->VK->Prop):Prop:=
 ∀(db:List (Addr×Obj)) (s:Shared) (U:St) (H:Hp) (x:V) (xs:List V) (v:Value) (us:List Value) (Q:VK),Inv X db U H s->ZU x v->ZK xs us->r x xs H Q ->
  wpAny (model X.prog X.w) X.A (call (.builtin id) (v::us)) (EP X db U Q) X.xe s
section
variable{X:Cx}{a b:Expr}{ta tb:TE}{pos:Pos}
def Zv{r:R2}(hr:IxR X r)(ha:PE X a ta)(hb:PE X b tb)(hs:PlainIx b):PE X (.Subscript a b pos) (tOp r ta tb):=by
 intro db s U H Q I h;exact Subscript_ (binT ha hb I h fun v u s2 x y H2 I2 rx ry q=>hr a b db s2 U H2 x y v u Q I2 rx ry q (hs _ _))
inductive rIxL_R(K:W.Frag)(x:V)(y:V)(H:Hp)(Q:VK):Prop
 |mk (p:_) (xs:_) (i:_) (v:_) (h0:x=.ref p) (h1:y=.int i) (h2:SqL K H p xs) (h3:atI xs i=some v) (h4:Q v H):rIxL_R K x y H Q
def rIxL(K:W.Frag):R2:=fun x y H Q=>rIxL_R K x y H Q
inductive rIxT_R(K:W.Frag)(x:V)(y:V)(H:Hp)(Q:VK):Prop
 |mk (p:_) (xs:_) (i:_) (v:_) (h0:x=.ref p) (h1:y=.int i) (h2:SqT K H p xs) (h3:atI xs i=some v) (h4:Q v H):rIxT_R K x y H Q
def rIxT(K:W.Frag):R2:=fun x y H Q=>rIxT_R K x y H Q
inductive rIxS_R(x:V)(y:V)(H:Hp)(Q:VK):Prop
 |mk (z:_) (i:_) (c:_) (h0:x=.str z) (h1:y=.int i) (h2:z.length<=sizeLine) (h3:atI z.cps.toList i=some c) (h4:Q (.str ⟨#[c]⟩) H):rIxS_R x y H Q
def rIxS:R2:=fun x y H Q=>rIxS_R x y H Q
def ix_list:IxR X (rIxL X.K):=by
 intro value slice db s U H x y v u Q I rx ry h hs;obtain⟨p,xs,i,z,rfl,rfl,hq,he,q⟩:=h;cases rx;obtain⟨t,rfl⟩:=ry;obtain⟨its,r,pl,hz⟩:=I.list hq;obtain⟨j,h1,h2,h3,h4,h5⟩:=jS he;obtain⟨w,ew,rw'⟩:=r.get h2;have hl:=r.length;have hn:=zF;have fin:EP X db U Q w s:=⟨z,H,I,rw',q⟩
 by_cases h0:0<=i
 ·have hj:i.toNat=j:=by
   rw[seqIndex_of h0 h5] at h1;exact fY h1
  exact item_listR pl.isList h0 (by omega) (by rw[hj];simpa using ew) fin hs
 ·have hj:(i+(its.toArray.size:Int)).toNat=j:=by
   rw[seqIndex_neg (by omega) h4] at h1;rw[fV,<- hl];exact fY h1
  exact subscriptTail_builtinR (x:=w) pl.isList.typeIs slot_list_getitem.lookup
   (wpAny_getItem_list_neg (Q:=fun r s'=>r=w/\EP X db U Q r s') pl.isList (by omega) (by rw[fV]<;>omega) (by omega) (by rw[hj];simpa using ew) ⟨rfl,fin⟩) hs
def ix_tup:IxR X (rIxT X.K):=by
 intro value slice db s U H x y v u Q I rx ry h hs;obtain⟨p,xs,i,z,rfl,rfl,hq,he,q⟩:=h;cases rx;obtain⟨t,rfl⟩:=ry;obtain⟨its,r,pl,hz⟩:=I.tuple hq;obtain⟨j,h1,h2,h3,h4,h5⟩:=jS he;obtain⟨w,ew,rw'⟩:=r.get h2;have hl:=r.length;have hn:=zF;have fin:EP X db U Q w s:=⟨z,H,I,rw',q⟩;exact subscriptTail_builtinR (x:=w) pl.typeIs slot_tuple_getitem.lookup
  (getItem_tuple (j:=j) (Q:=fun r s'=>r=w/\EP X db U Q r s') pl (by omega) (by omega) (by rw[fV,<- hl];exact h1) (by simpa using ew) ⟨rfl,fin⟩) hs
def ix_str:IxR X rIxS:=by
 intro value slice db s U H x y v u Q I rx ry h hs;obtain⟨z,i,c,rfl,rfl,hz,he,q⟩:=h;obtain⟨t,rfl⟩:=rx;obtain⟨t',rfl⟩:=ry;obtain⟨j,h1,h2,h3,h4,h5⟩:=jS he;have hl:z.cps.toList.length=z.length:=by simp[Str.length]
 rw[hl] at h1 h4 h5;have hn:=zF;exact tail_any (typeIs_str s z t) slot_str_getitem.lookup (getItem_str (c:=c) (by
  have e1:decide (i < -(2 ^ 63:Int))=false:=gY (by omega);have e2:decide (i≥2 ^ 63)=false:=gY (by omega);rw[e1,e2,Bool.or_false]) (by rw[h1];simpa using h2) ⟨.str ⟨#[c]⟩,H,I.tok _,⟨_,rfl⟩,q⟩) hs
def kF(lo hi:Option Int)(n:Nat):(sliceBounds lo hi none n).1=((HT.sIx n 0 lo:Nat):Int)/\(sliceBounds lo hi none n).2.1=((HT.sIx n n hi:Nat):Int)/\(sliceBounds lo hi none n).2.2=1:=by
 refine⟨?_,?_,rfl⟩
 ·cases lo with
  |none=>simp[sliceBounds,HT.sIx]
  |some i=>
   simp only[sliceBounds,HT.sIx,Option.getD_none,show(1:Int)>0 by decide,ia]
   by_cases h:i<0
   ·simp only[h,ia]<;>omega
   ·simp only[h,gU]<;>omega
 ·cases hi with
  |none=>simp[sliceBounds,HT.sIx]
  |some i=>
   simp only[sliceBounds,HT.sIx,Option.getD_none,show(1:Int)>0 by decide,ia]
   by_cases h:i<0
   ·simp only[h,ia]<;>omega
   ·simp only[h,gU]<;>omega
def vi(its:List Value)(lo hi:Option Int):slicePick its.toArray lo hi none=((its.drop (HT.sIx its.length 0 lo)).take (HT.sIx its.length its.length hi-HT.sIx its.length 0 lo)).toArray:=by
 obtain⟨h1,h2,h3⟩:=kF lo hi its.toArray.size;unfold slicePick;rw[h1,h2,h3];simp only[sliceRange_one,pick_run,fV]<;>rfl
inductive rSlL_R(K:W.Frag)(x:V)(lo:Option Int)(hi:Option Int)(H:Hp)(Q:VK):Prop
 |mk (a:_) (xs:_) (h0:x=.ref a) (h1:SqL K H a xs) (h2:∀p,H p=none->Q (.ref p) (upd H p (.lst (W7 xs lo hi)))):rSlL_R K x lo hi H Q
def rSlL(K:W.Frag):V->Option Int->Option Int->Hp->VK->Prop:=fun x lo hi H Q=>rSlL_R K x lo hi H Q
def sl_list:SlR X (rSlL X.K):=by
 intro db s U H x v vl vu lo hi sl Q I rx hs pl pu h;obtain⟨a,xs,rfl,hx,q⟩:=h;cases rx;obtain⟨its,r,ht,hz⟩:=I.list hx;have hlen:=r.length;refine⟨"list",_,slot_list_getitem.lookup,ht.isList.typeIs,?_⟩;refine wpAny_getItem_list_slice ht.isList hs pl pu .none (by simp) ?_ (by rw[fV]<;>omega);rw[vi,<- hlen];refine⟨.ref s.heap.objs.size,_,I.laid (t':=s.toks) (o:=.lst (W7 xs lo hi)) (fun b ob q=>fM _ q) (fE _) ?_,rfl,q _ (I.hok.fresh (fE _))⟩;exact⟨fU (yk xs lo hi) hz,_,0,(r.drop (HT.sIx xs.length 0 lo)).take (HT.sIx xs.length xs.length hi-HT.sIx xs.length 0 lo),ge _ rfl⟩
def U5:V->Bool
 |.non=>true
 |.bl _=>true
 |.int _=>true
 |.str _=>true
 |_=>false
def eqV:V->V->Bool
 |.non,.non=>true
 |.bl a,.bl b=>a==b
 |.bl a,.int b=>(if a then 1 else 0)==b
 |.int a,.bl b=>a==(if b then 1 else 0)
 |.int a,.int b=>a==b
 |.str a,.str b=>a==b
 |_,_=>false
def eqAt_V{x:V}{v:Value}(ry:ZU y u)(rx:ZU x v)(fy:U5 y=true)(fx:U5 x=true):SeqAt.EqAt A s u v (eqV y x):=by
 cases y with
 |non=>
  cases ry;cases x with
  |non=>cases rx;exact SeqAt.EqAt.same _
  |bl b=>cases rx;exact SeqAt.EqAt.none_bool b
  |int b=>obtain⟨t,rfl⟩:=rx;exact SeqAt.EqAt.none_int b t
  |str b=>obtain⟨t,rfl⟩:=rx;exact SeqAt.EqAt.none_str b t
  |_=>exact absurd (show false=true from fx) gk
 |bl a=>
  cases ry;cases x with
  |non=>cases rx;exact SeqAt.EqAt.bool_none a
  |bl b=>cases rx;exact SeqAt.EqAt.bool_bool a b
  |int b=>obtain⟨t,rfl⟩:=rx;exact SeqAt.EqAt.bool_int a b t
  |str b=>obtain⟨t,rfl⟩:=rx;exact SeqAt.EqAt.bool_str a b t
  |_=>exact absurd (show false=true from fx) gk
 |int a=>
  obtain⟨t',rfl⟩:=ry;cases x with
  |non=>cases rx;exact SeqAt.EqAt.int_none a t'
  |bl b=>cases rx;exact SeqAt.EqAt.int_bool a t' b
  |int b=>obtain⟨t,rfl⟩:=rx;exact SeqAt.EqAt.int_int a t' b t
  |str b=>obtain⟨t,rfl⟩:=rx;exact SeqAt.EqAt.int_str a t' b t
  |_=>exact absurd (show false=true from fx) gk
 |str a=>
  obtain⟨t',rfl⟩:=ry;cases x with
  |non=>cases rx;exact SeqAt.EqAt.str_none a t'
  |bl b=>cases rx;exact SeqAt.EqAt.str_bool a t' b
  |int b=>obtain⟨t,rfl⟩:=rx;exact SeqAt.EqAt.str_int a t' b t
  |str b=>obtain⟨t,rfl⟩:=rx;exact SeqAt.EqAt.str_str a t' b t
  |_=>exact absurd (show false=true from fx) gk
 |_=>exact absurd (show false=true from fy) gk
def eqU(x:V)(u:Value):Bool:=match u with
 |.none=>eqV .non x
 |.bool b=>eqV (.bl b) x
 |.int i _=>eqV (.int i) x
 |.str z _=>eqV (.str z) x
 |_=>false
def eqU_of{x:V}(r:ZU y u)(f:U5 y=true):eqU x u=eqV y x:=by
 cases y with
 |non=>cases r;rfl
 |bl b=>cases r;rfl
 |int i=>obtain⟨t,rfl⟩:=r;rfl
 |str z=>obtain⟨t,rfl⟩:=r;rfl
 |_=>exact absurd (show false=true from f) gk
def qL{x:V}:∀{xs:List V}{us:List Value},ZK xs us->xs.all U5=true->us.any (eqU x)=xs.any fun y=>eqV y x
 |_,_,.nil,_=>rfl
 |y::xs,u::us,.cons r t,f=>by
  rw[lT,gv] at f;rw[mq,mq,eqU_of r f.1,qL t f.2]
def UO{A:Around}{s:Shared}{x:V}{v:Value}(rx:ZU x v)(fx:U5 x=true):∀{xs:List V}{us:List Value},ZK xs us->xs.all U5=true->∀u∈us,SeqAt.EqAt A s u v (eqU x u)
 |_,_,.nil,_=>fun u hu=>by cases hu
 |y::xs,u::us,.cons r t,f=>fun u' hu=>by
  rw[lT,gv] at f;rcases fQ.mp hu with rfl|hu
  ·rw[eqU_of r f.1];exact eqAt_V r rx f.1 fx
  ·exact UO rx fx t f.2 u' hu
def inV(x:V)(xs:List V):Bool:=xs.any fun y=>eqV y x
inductive rIn_R(K:W.Frag)(neg:Bool)(x:V)(y:V)(H:Hp)(Q:VK):Prop
 |mk (p:_) (xs:_) (h0:y=.ref p) (h1:(SqL K H p xs\/SqT K H p xs)) (h2:U5 x=true) (h3:xs.all U5=true) (h4:Q (.bl (if neg then !inV x xs else inV x xs)) H):rIn_R K neg x y H Q
def rIn(K:W.Frag)(neg:Bool):R2:=fun x y H Q=>rIn_R K neg x y H Q
def op_in_seq:OpR X (compareOp .In) (rIn X.K false):=by
 intro db s U H x y v u Q I rx ry h;obtain⟨p,xs,rfl,hq,fx,fs,q⟩:=h;cases ry;rcases hq with hq|hq
 ·obtain⟨its,r,pl,hz⟩:=I.list hq;refine SeqAt.in_listAt (eqU x) pl.isList (fun w hw=>UO rx fx r fs w (by simpa using hw)) ⟨.bl _,H,I,rfl,?_⟩;rw[show its.toArray.any (eqU x)=its.any (eqU x) by simp,qL r fs];exact q
 ·obtain⟨its,r,pl,hz⟩:=I.tuple hq;refine SeqAt.in_tupleAt (eqU x) pl (fun w hw=>UO rx fx r fs w (by simpa using hw)) ⟨.bl _,H,I,rfl,?_⟩;rw[show its.toArray.any (eqU x)=its.any (eqU x) by simp,qL r fs];exact q
def j5:OpR X (compareOp .NotIn) (rIn X.K true):=by
 intro db s U H x y v u Q I rx ry h;obtain⟨p,xs,rfl,hq,fx,fs,q⟩:=h;cases ry;rcases hq with hq|hq
 ·obtain⟨its,r,pl,hz⟩:=I.list hq;refine SeqAt.notIn_listAt (eqU x) pl.isList (fun w hw=>UO rx fx r fs w (by simpa using hw)) ⟨.bl _,H,I,rfl,?_⟩;rw[show its.toArray.any (eqU x)=its.any (eqU x) by simp,qL r fs];exact q
 ·obtain⟨its,r,pl,hz⟩:=I.tuple hq;refine SeqAt.notIn_tupleAt (eqU x) pl (fun w hw=>UO rx fx r fs w (by simpa using hw)) ⟨.bl _,H,I,rfl,?_⟩;rw[show its.toArray.any (eqU x)=its.any (eqU x) by simp,qL r fs];exact q
def jM:Ym X (.builtin "len") (fun xs H Q=>∃p ys,xs=[.ref p]/\(SqL X.K H p ys\/SqT X.K H p ys)/\Q (.int ys.length) H):=by
 intro db s U H xs us Q I r h;obtain⟨p,ys,rfl,hq,q⟩:=h;obtain⟨u,rfl,rx⟩:=Vo r;cases rx;have hn:=zF;rcases hq with hq|hq
 ·obtain⟨its,r',pl,hz⟩:=I.list hq;have hlen:=r'.length;exact Calls.call_len_list pl.isList (by simp only[fV]<;>omega) ⟨.int ys.length,H,I.tok _,⟨s.toks+1,by rw[fV,hlen]⟩,q⟩
 ·obtain⟨its,r',pl,hz⟩:=I.tuple hq;have hlen:=r'.length;exact len_tuple pl (by simp only[fV]<;>omega) ⟨.int ys.length,H,I.tok _,⟨s.toks+1,by rw[fV,hlen]⟩,q⟩
def jI:Ym X (.builtin "len") (fun xs H Q=>∃z,xs=[.str z]/\z.length<=sizeLine/\Q (.int z.length) H):=by
 intro db s U H xs us Q I r h;obtain⟨z,rfl,hz,q⟩:=h;obtain⟨u,rfl,t,rfl⟩:=Vo r;have hn:=zF;exact len_str (by omega) ⟨.int z.length,H,I.tok _,⟨_,rfl⟩,q⟩
def Ym.or{f:Value}{r r':List V->Hp->VK->Prop}(h:Ym X f r)(h':Ym X f r'):Ym X f (fun xs H Q=>r xs H Q\/r' xs H Q):=by
 intro db s U H xs us Q I rs q;rcases q with q|q
 ·exact h db s U H xs us Q I rs q
 ·exact h' db s U H xs us Q I rs q
def j8:Ym X (.type "list") (fun xs H Q=>∃p ys,xs=[.ref p]/\(SqL X.K H p ys\/SqT X.K H p ys)/\∀l,H l=none->Q (.ref l) (upd H l (.lst ys))):=by
 intro db s U H xs us Q I r h;obtain⟨p,ys,rfl,hq,q⟩:=h;obtain⟨u,rfl,rx⟩:=Vo r;cases rx;have fin:∀(its:List Value),ZK ys its->ys.length<=sizeLine->∀(h':Heap) (c':Nat),(∀b o',s.heap.get? b=some o'->h'.get? b=some o') ->
   h'.get? s.heap.objs.size=some { cls:=.type "list",dict:=none,data:=.seq its.toArray c',slots:=#[] }->EP X db U Q (.ref s.heap.objs.size) { s with heap:=h' }:=fun its r' hz h' c' kp e=>
  ⟨.ref s.heap.objs.size,_,I.laid (t':=s.toks) kp (fE _) (show Yw X.prog X.w _ h' _ (.lst ys) from⟨hz,its,c',r',e⟩),rfl,q _ (I.hok.fresh (fE _))⟩
 rcases hq with hq|hq
 ·obtain⟨its,r',pl,hz⟩:=I.list hq;have hlen:=r'.length;obtain⟨o,ho,hc,n,hd⟩:=pl.isList;exact call_list_seq p (.inl rfl) ho hc hd (fun h' c' kp e=>fin its r' hz h' c' kp e) (by simp only[fV]<;>omega)
 ·obtain⟨its,r',pl,hz⟩:=I.tuple hq;have hlen:=r'.length;obtain⟨o,ho,hc,n,hd⟩:=pl;exact call_list_seq p (.inr rfl) ho hc hd (fun h' c' kp e=>fin its r' hz h' c' kp e) (by simp only[fV]<;>omega)
def vj:Ym X (.type "tuple") (fun xs H Q=>∃p ys,xs=[.ref p]/\((SqL X.K H p ys/\∀l,H l=none->Q (.ref l) (upd H l (.tup ys)))\/(SqT X.K H p ys/\Q (.ref p) H))):=by
 intro db s U H xs us Q I r h;obtain⟨p,ys,rfl,h⟩:=h;obtain⟨u,rfl,rx⟩:=Vo r;cases rx;rcases h with⟨hq,q⟩|⟨hq,q⟩
 ·obtain⟨its,r',pl,hz⟩:=I.list hq;have hlen:=r'.length;refine call_tuple_list pl.isList (fun h' kp=>?_) (by simp only[fV]<;>omega);have I1:Inv X db U H { s with heap:=h' }:=I.kept (t':=s.toks) kp;have I2:Inv X db U (upd H h'.objs.size (.tup ys)) { s with heap:=h'.push { cls:=.type "tuple",data:=.seq its.toArray } }:=
   I1.laid (t':=s.toks) (fun b o e=>fM _ e) (fE _) (show Yw X.prog X.w _ _ _ (.tup ys) from⟨hz,its,r',IsTup.new _ _⟩)
  exact⟨.ref h'.objs.size,_,I2,rfl,q _ (I1.hok.fresh (fE _))⟩
 ·obtain⟨its,r',pl,hz⟩:=I.tuple hq;exact call_tuple_same pl ⟨.ref p,H,I,rfl,q⟩
def tyV(K:W.Frag)(T:String)(x:V)(H:Hp):Prop:=match x with
 |.str _=>T = "str"
 |.int _=>T = "int"
 |.ref p=>(T = "list" /\ ∃xs,SqL K H p xs)\/(T = "tuple" /\ ∃o,K.lookup p=some o/\o.cls=.type "tuple" /\ o.dict=none) \/
   (T = "dict" /\ ((∃kvs,H p=some (.dK kvs))\/∃kvs,H p=some (.dT kvs)))\/(T = "set" /\ ∃S n,H p=some (.set S n))
 |_=>False
def tyV_is{x:V}{v:Value}(I:Inv X db U H s)(r:ZU x v)(ty:tyV X.K T x H) :
  s.TypeIs v T/\∀a,v=.ref a->∃ob,s.heap.get? a=some ob/\ob.dict=none:=by
 cases x with
 |str z=>
  obtain⟨t,rfl⟩:=r;cases (show T = "str" from ty);exact⟨typeIs_str s z t,fun _ e=>nomatch e⟩
 |int i=>
  obtain⟨t,rfl⟩:=r;cases (show T = "int" from ty);exact⟨typeIs_int s i t,fun _ e=>nomatch e⟩
 |ref p=>
  cases r;rcases ty with⟨rfl,xs,hq⟩|⟨rfl,o,hk,hc,hd⟩|⟨rfl,hk⟩|⟨rfl,S,n,hk⟩
  ·obtain⟨its,_,pl,_⟩:=I.list hq;refine⟨pl.isList.typeIs,fun a e=>?_⟩;cases e;obtain⟨o,n,e,c,hd,_⟩:=pl;exact⟨o,e,hd⟩
  ·refine⟨⟨o,I.kIn p o hk,hc⟩,fun a e=>?_⟩;cases e;exact⟨o,I.kIn _ o hk,hd⟩
  ·have z:∃o,s.heap.get? p=some o/\o.ExactDict:=by
    rcases hk with⟨kvs,hk⟩|⟨kvs,hk⟩
    ·obtain⟨_,_,_,_,o,_,_,e,ex,_⟩:=I.hok p _ hk;exact⟨o,e,ex⟩
    ·obtain⟨_,_,_,_,o,_,_,e,ex,_⟩:=I.hok p _ hk;exact⟨o,e,ex⟩
   obtain⟨o,e,ex⟩:=z;refine⟨⟨o,e,ex.1⟩,fun a e2=>?_⟩;cases e2;exact⟨o,e,ex.2.1⟩
  ·obtain⟨o,_,_,_,e,ex,_⟩:=I.hok p _ hk;refine⟨⟨o,e,ex.1⟩,fun a e2=>?_⟩;cases e2;exact⟨o,e,ex.2.1⟩
 |_=>exact False.elim ty
def tBM0(K:W.Frag)(T:String)(r:V->List V->Hp->VK->Prop)(to:TE):TE:=fun U H Q=>to U H fun x H1=>tyV K T x H1/\r x [] H1 Q
def tBM(K:W.Frag)(T:String)(r:V->List V->Hp->VK->Prop)(to:TE)(t:TA):TE:=fun U H Q=>to U H fun x H1=>tyV K T x H1/\t U H1 fun xs H2=>r x xs H2 Q
variable{o:Expr}{es:List Expr}{to:TE}{t:TA}{name:Str}{apos cpos:Pos}{id:String}{r:V->List V->Hp->VK->Prop}
def pe_bm0(pa:PlainAttrs T)(slot:Slot T name id)(hty:typeOf (.builtin id)=pure (.type "method_descriptor"))(hm:MtR X id r)(ho:PE X o to)
  (hbase:attributeBase o name X.env (eval o X.env)=eval o X.env:=by rfl) (hline:(apos.endLine==cpos.line)=true:=by rfl):PE X (.Call (.Attribute o name apos) [] [] cpos) (tBM0 X.K T r to):=by
 intro db s U H Q I h;refine wpAny_Call_method0_late hbase hline (thn (ho db s U H _ I h) fun v s1 ⟨x,H1,I1,r1,ty,q1⟩=>?_);obtain⟨h1,h2⟩:=tyV_is I1 r1 ty;exact⟨T,id,pa,slot,hty,h1,h2,Calls.callWith_builtin rfl (PySem.evalArgs_none (hm db s1 U H1 x [] v [] Q I1 r1 .nil q1))⟩
def Xv(pa:PlainAttrs T)(slot:Slot T name id)(hty:typeOf (.builtin id)=pure (.type "method_descriptor"))(hm:MtR X id r)(ho:PE X o to)(ha:PA X (e::es) t)
  (hbase:attributeBase o name X.env (eval o X.env)=eval o X.env:=by rfl)
  (hfew:((backTo cpos (starEach (e::es) X.env)).all (fun x=>!x.1)&&(backToKw cpos (keywordEach [] X.env)).all (fun x=>x.1.isSome)
   && decide ((e::es).length+([]:List Keyword).length+(if([]:List Keyword).isEmpty then 0 else 1)<30))=true:=by rfl)
  (hline:(apos.endLine==cpos.line)=true:=by rfl) (hs:starEach (e::es) X.env=(false,eval e X.env)::starEach es X.env:=by rfl) (hplain:(backTo cpos (starEach es X.env)).any (·.1)=false:=by rfl) :
  PE X (.Call (.Attribute o name apos) (e::es) [] cpos) (tBM X.K T r to t):=by
 intro db s U H Q I h;refine wpAny_Call_method_late hbase hfew hline rfl (thn (ho db s U H _ I h) fun v s1 ⟨x,H1,I1,r1,ty,q1⟩=>?_);obtain⟨h1,h2⟩:=tyV_is I1 r1 ty;refine⟨T,id,pa,slot,hty,h1,h2,?_⟩;have hA:=ha cpos db s1 U H1 _ I1 q1;rw[hs] at hA ⊢;refine Calls.callWith_builtin (by show(false||(backTo cpos (starEach es X.env)).any (·.1))=false;rw[hplain]<;>rfl) (Calls.evalArgs_plain ?_);exact thn hA fun us s2 ⟨vs,H2,I2,r2,q2⟩=>hm db s2 U H2 x vs v us Q I2 r1 r2 q2
end
def MtM(X:Cx)(id:String)(r:V->List V->Hp->VK->Prop):Prop:=
 ∀(db:List (Addr×Obj)) (s:Shared) (U:St) (H:Hp) (x:V) (xs:List V) (v:Value) (us:List Value) (Q:VK),Inv X db U H s->ZU x v->ZK xs us->r x xs H Q ->
  wpAny (model X.prog X.w) X.A (call (.builtin id) (v::us)) (EP X db U Q) X.xe s
def ZK.one:∀{x:V}{us:List Value},ZK [x] us->∃u,us=[u]/\ZU x u
 |_,_,.cons r .nil=>⟨_,rfl,r⟩
def ZK.zero:∀{us:List Value},ZK [] us->us=[]
 |_,.nil=>rfl
def ZK.dropLast{xs:List V}{us:List Value}(h:ZK xs us):ZK xs.dropLast us.dropLast:=by
 induction h with
 |nil=>exact .nil
 |cons r t ih=>
  cases t with
  |nil=>exact .nil
  |cons q t'=>exact .cons r ih
def ZK.reverse{xs:List V}{us:List Value}(h:ZK xs us):ZK xs.reverse us.reverse:=by
 induction h with
 |nil=>exact .nil
 |cons r t ih=>rw[mr,mr];exact ZK.append ih (.cons r .nil)
def ZK.rep{xs:List V}{us:List Value}(h:ZK xs us):∀k:Nat,ZK (List.replicate k xs).flatten (List.replicate k us).flatten
 |0=>.nil
 |k+1=>by
  rw[mv,mv,lD,lD];exact ZK.append h (ZK.rep h k)
def Ke(l:List α):l.eraseIdx (l.length-1)=l.dropLast:=by
 induction l with
 |nil=>rfl
 |cons a r ih=>
  cases r with
  |nil=>rfl
  |cons b r=>
   have e:(a::b::r).length-1=((b::r).length-1)+1:=by
    have h1:(a::b::r).length=r.length+2:=rfl;have h2:(b::r).length=r.length+1:=rfl;omega
   rw[e,List.eraseIdx_cons_succ,ih]
   all_goals rfl
def vM(its:List Value):∀(k:Nat) (acc:List Value),
  List.foldl (fun x1 x2=>x1++x2) acc.toArray (List.replicate k its.toArray)=(acc++(List.replicate k its).flatten).toArray
 |0,acc=>by simp
 |k+1,acc=>by
  have e:acc.toArray++its.toArray=(acc++its).toArray:=by simp
  have e2:(acc++its)++(List.replicate k its).flatten=acc++(List.replicate (k+1) its).flatten:=by
   rw[mv,lD,iO]
  rw[<- e2,<- vM its k (acc++its),<- e,mv,List.foldl_cons]
section
variable{l b:Addr}{xs ys zs:List V}
def Inv.lset{its':List Value}{f:Array Value->Array Value}(I:Inv X db U H s)(hH:H l=some (.lst xs))
  (e:s.heap.get? l=some { cls:=.type "list",data:=.seq its.toArray n }) (hf:f its.toArray=its'.toArray) (hv:ZK ys its') (hz:ys.length<=sizeLine) :
  Inv X db U (upd H l (.lst ys)) { s with heap:=s.heap.update l (Obj.mapSeq f),toks:=t' }:=by
 have q:=PySem.IsL.update e f;rw[hf] at q;refine I.write (x:=l) (e:=l) (by rw[hH];exact trivial) (.inl rfl) (fun b' u hb hu=>(iu s.heap (Obj.mapSeq f) (fT hb)).trans hu) ⟨_,q⟩ ?_;exact⟨hz,its',_,hv,q⟩
def Inv.lnew(I:Inv X db U H s)(hv:ZK ys its)(hz:ys.length<=sizeLine) :
  Inv X db U (upd H s.heap.objs.size (.lst ys)) { s with heap:=s.heap.push { cls:=.type "list",data:=.seq its.toArray },toks:=t' }:=
 I.laid (fun _ _ q=>fM _ q) (fE _) ⟨hz,its,0,hv,ge _ rfl⟩
def Inv.fresh(I:Inv X db U H s):H s.heap.objs.size=none:=I.hok.fresh (fE _)
def Inv.lstM(I:Inv X db U H s)(hH:H l=some (.lst xs)):xs.length<=sizeLine/\∃(its:List Value) (n:Nat),ZK xs its/\xs.length=its.length/\s.heap.get? l=some { cls:=.type "list",data:=.seq its.toArray n }:=by
 obtain⟨z,its,n,r,e⟩:=I.hok l _ hH;exact⟨z,its,n,r,r.length,e⟩
def xx(h:n<=sizeLine):Builtin.List.listTooLong n=false:=by
 unfold Builtin.List.listTooLong;exact gY (by omega)
end
inductive WV(x:V)(vs:List V)(H:Hp)(Q:VK):Prop
 |mk (l:_) (xs:_) (y:_) (h0:x=.ref l) (h1:vs=[y]) (h2:H l=some (.lst xs)) (h3:xs.length<sizeLine) (h4:Q .non (upd H l (.lst (xs++[y])))):WV x vs H Q
def rAppend:V->List V->Hp->VK->Prop:=fun x vs H Q=>WV x vs H Q
def ZY:MtM X "list.append" rAppend:=by
 intro db s U H x vs v us Q I rx rv h;obtain⟨l,xs,y,rfl,rfl,hH,hz,q⟩:=h;cases rx;obtain⟨u,rfl,ru⟩:=rv.one;obtain⟨z,its,n,r,hl,e⟩:=I.lstM hH;refine lU F.slot_list_append ⟨_,e,rfl⟩ F.entry_list_append (F.args_list_append_2 _ _) (PySem.list_append l its.toArray n u (by rw[fV];omega)) ⟨e,?_⟩;refine⟨.non,_,I.lset (its':=its++[u]) hH e (by simp) (r.append (.cons ru .nil)) ?_,rfl,q⟩;rw[fK,gG];omega
inductive jv(x:V)(vs:List V)(H:Hp)(Q:VK):Prop
 |mk (l:_) (b:_) (xs:_) (zs:_) (h0:x=.ref l) (h1:vs=[.ref b]) (h2:H l=some (.lst xs)) (h3:H b=some (.lst zs)) (h4:xs.length+zs.length<=sizeLine) (h5:Q .non (upd H l (.lst (xs++zs)))):jv x vs H Q
def rExtend:V->List V->Hp->VK->Prop:=fun x vs H Q=>jv x vs H Q
def mt_extend:MtM X "list.extend" rExtend:=by
 intro db s U H x vs v us Q I rx rv h;obtain⟨l,b,xs,zs,rfl,rfl,hH,hB,hz,q⟩:=h;cases rx;obtain⟨u,rfl,ru⟩:=rv.one;cases ru;obtain⟨z,its,n,r,hl,e⟩:=I.lstM hH;obtain⟨z2,its2,n2,r2,hl2,e2⟩:=I.lstM hB;have hsz:its.toArray.size+its2.toArray.size<=sizeLine:=by rw[fV,fV];omega
 have hlong:¬(!its.toArray.isEmpty&&Builtin.List.listTooLong (its.toArray.size+its2.toArray.size))=true:=by
  rw[xx hsz,Bool.and_false];exact gk
 refine lU F.slot_list_extend ⟨_,e,rfl⟩ F.entry_list_extend (F.args_list_extend_2 _ _)
  (AutoSeq1.list_extend_list_list_0 l its.toArray n b its2.toArray n2 hlong (by rw[fV];omega) (by omega)) ⟨e,e2,?_⟩
 refine⟨.non,_,I.lset (its':=its++its2) hH e (by simp) (r.append r2) ?_,rfl,q⟩;rw[fK];omega
inductive rPop_R(x:V)(vs:List V)(H:Hp)(Q:VK):Prop
 |mk (l:_) (xs:_) (y:_) (h0:x=.ref l) (h1:vs=[]) (h2:H l=some (.lst xs)) (h3:xs[xs.length-1]?=some y) (h4:Q y (upd H l (.lst xs.dropLast))):rPop_R x vs H Q
def rPop:V->List V->Hp->VK->Prop:=fun x vs H Q=>rPop_R x vs H Q
def mt_pop:MtM X "list.pop" rPop:=by
 intro db s U H x vs v us Q I rx rv h;obtain⟨l,xs,y,rfl,rfl,hH,hy,q⟩:=h;cases rx;have hus:=rv.zero;subst hus;obtain⟨z,its,n,r,hl,e⟩:=I.lstM hH;obtain⟨u,hu,ru⟩:=r.get hy;have hy':its.toArray[its.toArray.size-1]?=some u:=by
  show its.toArray[its.length-1]?=some u
  rw[<- lE,<- hl];exact hu
 refine lU F.slot_list_pop ⟨_,e,rfl⟩ F.entry_list_pop (F.args_list_pop_1 _) (MeetsSeq.list_pop_last l its.toArray n u hy' (by rw[fV];omega)) ⟨e,?_⟩;refine⟨y,_,I.lset (its':=its.dropLast) hH e ?_ r.dropLast ?_,ru,q⟩
 ·show its.toArray.eraseIdxIfInBounds (its.toArray.size-1)=its.dropLast.toArray
  rw[fV,List.eraseIdxIfInBounds_toArray,Ke]
 ·rw[nr];omega
inductive JM(x:V)(vs:List V)(H:Hp)(Q:VK):Prop
 |mk (l:_) (xs:_) (h0:x=.ref l) (h1:vs=[]) (h2:H l=some (.lst xs)) (h3:Q .non (upd H l (.lst []))):JM x vs H Q
def rClear:V->List V->Hp->VK->Prop:=fun x vs H Q=>JM x vs H Q
def mt_clear:MtM X "list.clear" rClear:=by
 intro db s U H x vs v us Q I rx rv h;obtain⟨l,xs,rfl,rfl,hH,q⟩:=h;cases rx;have hus:=rv.zero;subst hus;obtain⟨z,its,n,r,hl,e⟩:=I.lstM hH;refine lU F.slot_list_clear ⟨_,e,rfl⟩ F.entry_list_clear (F.args_list_clear_1 _) (AutoSeq1.list_clear_list_0 l its.toArray n (by rw[fV];omega)) ⟨e,?_⟩;exact⟨.non,_,I.lset (its':=[]) (ys:=[]) hH e rfl .nil (gB _),rfl,q⟩
inductive rCat_R(x:V)(y:V)(H:Hp)(Q:VK):Prop
 |mk (l:_) (b:_) (xs:_) (zs:_) (h0:x=.ref l) (h1:y=.ref b) (h2:H l=some (.lst xs)) (h3:H b=some (.lst zs)) (h4:xs.length+zs.length<=sizeLine) (h5:∀p,H p=none->Q (.ref p) (upd H p (.lst (xs++zs)))):rCat_R x y H Q
def rCat:R2:=fun x y H Q=>rCat_R x y H Q
def qw:OpR X (binaryOp .Add) rCat:=by
 intro db s U H x y v u Q I rx ry h;obtain⟨l,b,xs,zs,rfl,rfl,hH,hB,hz,q⟩:=h;cases rx;cases ry;obtain⟨z,its,n,r,hl,e⟩:=I.lstM hH;obtain⟨z2,its2,n2,r2,hl2,e2⟩:=I.lstM hB;refine PySem.P.add_list e e2 ?_ (by rw[fV,fV];omega);have ea:its.toArray++its2.toArray=(its++its2).toArray:=by simp
 rw[ea];exact⟨.ref _,_,I.lnew (t':=s.toks) (r.append r2) (by rw[fK];omega),rfl,q _ I.fresh⟩
inductive rRep_R(x:V)(y:V)(H:Hp)(Q:VK):Prop
 |mk (l:_) (k:_) (xs:_) (h0:x=.ref l) (h1:y=.int k) (h2:H l=some (.lst xs)) (h3:-(2 ^ 63)<=k) (h4:k<2 ^ 63) (h5:xs.length*k.toNat<=sizeLine) (h6:∀p,H p=none->Q (.ref p) (upd H p (.lst (List.replicate k.toNat xs).flatten))):rRep_R x y H Q
def rRep:R2:=fun x y H Q=>rRep_R x y H Q
def len_rep(xs:List α)(k:Nat):(List.replicate k xs).flatten.length=k*xs.length:=by
 induction k with
 |zero=>simp
 |succ k ih=>rw[mv,lD,fK,ih,Nat.succ_mul,Nat.add_comm]
def op_rep:OpR X (binaryOp .Mult) rRep:=by
 intro db s U H x y v u Q I rx ry h;obtain⟨l,k,xs,rfl,rfl,hH,h1,h2,hz,q⟩:=h;cases rx;obtain⟨t,rfl⟩:=ry;obtain⟨z,its,n,r,hl,e⟩:=I.lstM hH;have hlen:its.toArray.size*k.toNat<=sizeLine:=by rw[fV,<- hl];exact hz
 have hcap:¬its.toArray.size*k.toNat>(2 ^ 63-1)/8:=by
  have:(sizeLine:Nat)<=(2 ^ 63-1)/8:=by decide
  omega
 have hfit:¬(!Builtin.List.listFitsIndex k)=true:=by
  rw[fitsIndex_both h1 h2];exact gk
 have hlong:¬Builtin.List.listTooLong (its.toArray.size*k.toNat)=true:=by
  rw[xx hlen];exact gk
 have hnew:List.foldl (fun x1 x2=>x1++x2) #[] (List.replicate (if its.toArray.isEmpty=true then 0 else k.toNat) its.toArray)=(List.replicate k.toNat its).flatten.toArray:=by
  have f0:∀m:Nat,List.foldl (fun x1 x2=>x1++x2) #[] (List.replicate m its.toArray)=(List.replicate m its).flatten.toArray:=fun m=>by
   have:=vM its m [];rw[lV] at this;exact this
  rw[f0];cases its with
  |nil=>simp
  |cons a r'=>rw[if_neg (by simp)]
 refine wpAny_binaryOp_repeat_ref (T := "list") (U := "int") (by decide) ⟨_,e,rfl⟩ (fun s'=>typeIs_int s' k t) noFill_list_mul F.fills_int_mul F.slot_int_rmul repeat_list F.slot_int_index.lookup
  (lU F.slot_int_rmul (typeIs_int s k t) F.entry_int_rmul (F.args_int_rmul_2 _ _) (int___rmul___int_list k t l its.toArray n)
   ⟨e,rfl,⟨_,e,rfl⟩,lU F.slot_list_mul ⟨_,e,rfl⟩ F.entry_list_mul (F.args_list_mul_2 _ _) (AutoListH.list___mul___list_int_3 l its.toArray n k t hfit hcap hlong) ⟨e,?_⟩⟩)
 rw[hnew];exact⟨.ref _,_,I.lnew (t':=s.toks) (r.rep k.toNat) (by rw[len_rep,Nat.mul_comm];exact hz),rfl,q _ I.fresh⟩
end L2
namespace Att
open PySem PySem.W PySem.Calls PyProof.Rows
def yo{P:Params}:∀(ns:List Int) (vs:List Value),WellAll P h vs (ns.map WData.int)->IntsAre vs ns:=by
 intro ns
 induction ns with
 |nil=>
  intro vs w;rw[List.map_nil] at w;cases w;exact .nil
 |cons n ns ih=>
  intro vs w;rw[fZ] at w;cases w with
  |cons a b=>
   cases a;exact .cons _ _ (ih _ b)
def script_of{l:OpenLaw}(hn:l.most=some n){P:Params}
  (hpre:l.row.toRowW.claim.pre args=true) (hwl:WellAll P h vals args) :
  ∃a vs ns,vals=[Value.ref a]/\args=[WData.list (ns.map WData.int)]/\h.get? a=some { cls:=.type "list",data:=.seq vs.toArray }/\IntsAre vs ns/\ns.length<=n:=by
 have hsh:WShape.hasAll [] args [.list .int]=true:=(pre_splitW hpre).1;have hc:l.pre.holds [] { args:=args }=true:=(pre_splitW hpre).2;obtain⟨d,r,rfl,h1,h2⟩:=hasAllW_cons hsh;obtain rfl:=hasAllW_nil h2;obtain⟨xs,rfl,h3⟩:=hasW_list h1;obtain⟨ns,rfl⟩:=items_int h3;have hlen:ns.length<=n:=by
  unfold OpenLaw.pre at hc;have h4:(WTm.not (.lt (.lit (.int (n:Int))) (.len (.arg 0)))).holds [] { args:=[.list (ns.map .int)] }=true:=by
   have h4:=(holds_andW hc).1;rw[hn] at h4;exact h4
  have h5:=condW_of h4 (w_not (w_lt w_lit (w_len_list (w_arg rfl))));rw[fF] at h5;refine Nat.le_of_not_lt fun q=>?_;have q':(n:Int)<((ns.length:Nat):Int):=by omega
  first
   | (rw[gO q'] at h5;exact absurd h5 (by decide))
   | (simp at h5;omega)
 cases hwl with
 |cons w1 w2=>
  cases w2;cases w1 with
  |list ho hall=>exact⟨_,_,ns,rfl,rfl,ho,yo ns _ hall,hlen⟩
def post_true(l:OpenLaw)(args:List WData):l.row.toRowW.claim.post args (.bool true) args=true:=
 postW_of (r:=l.row.toRowW) (X:=(true==true))
  (show WShape.has [] (.bool true) .bool=true by first|rfl|decide|simp[WShape.has,WShape.arms,WShape.armsAll])
  (show(WTm.eq .res (.lit (.bool true))).value [] { args:=args,res:=some (.bool true),after:=args }=some (.bool (true==true)) from w_eq_bool (w_res rfl) w_lit) rfl
def attach_call{l:OpenLaw}{d:DefRec}
  (hn:l.most=some n) (hdf:d.params.defaults=[])
  (call:∀(w:World) (s₀ s₁:Shared) (mg mb:Str->Option Value) (fa:Addr) (o:Obj) (pm cd doc:Value) (a:Addr) (vs:List Value) (ns:List Int),
   Ground q loose [] XP w s₀ mg mb s₁.heap->YP w s₁.heap ->
   s₁.heap.get? fa=some o->o.data=.func (docDef d.name d.params d.body d.scope pm cd doc)->s₁.heap.CodeRec cd d.name->mg d.name=some (.ref fa) ->
   s₁.heap.get? a=some { cls:=.type "list",data:=.seq vs.toArray }->IntsAre vs ns->ns.length<=n->s₁.gens=#[] ->
   codeAny (model l.prog w) callerA (.call (.ref fa) ⟨[.ref a],[]⟩) (fun r s'=>r=.ok (.ret (.bool true))/\OldK s₁.heap s'.heap/\s'.os=s₁.os/\AllBare s'.gens) s₁) :
  WalkO q loose XP YP l.row.toRowW d [] (fun f vs=>PySem.call f vs):=by
 intro w s₀ s₁ mg mb G Y fa o pm cd doc dV kV ho hd hcd hD hmg hg args vals as hpre hlay hrd hwl hlo;obtain rfl:dV=.none:=Dflts.none hD hdf;obtain rfl:kV=.none:=Dflts.noKw hD;obtain⟨a,vs,ns,rfl,rfl,hobj,hints,hlen⟩:=script_of hn hpre hwl;refine enter_call (lv (call w s₀ s₁ mg mb fa o pm cd doc a vs ns G Y ho (fd_plain hd) hcd hmg hobj hints hlen hg) fun r s' hq=>?_);obtain⟨rfl,h2,h3,h4⟩:=hq;exact⟨.inl ⟨.bool true,.bool true,[],rfl,fun _=>rfl,.bool true,post_true l _,fun _=>⟨List.Pairwise.nil,fun _ hm=>(nomatch hm)⟩⟩,h2,h3,h4⟩
section
variable{K:Frag}
def ledger(h:Heap)(L d:Addr):List (Addr×Obj):=(List.range h.objs.size).filterMap fun a=>if a=L\/a=d then none else(h.get? a).map fun o=>(a,o)
end
end Att
namespace L2
open PySem PySem.Spec PyProof.Rows
def vH:∀{vs:List Value}{ns:List Int},IntsAre vs ns->ZK (ns.map V.int) vs
 |_,_,.nil=>.nil
 |_,_,.cons n t h=>.cons ⟨t,rfl⟩ (vH h)
def Only(H:Hp):Prop:=∀b,H b=none\/∃o xs,H b=some (.frz o (.lst xs))
def law_call{mb:Str->Option Value}{k:Nat}{a:Addr}{x:Str}{s₁:Shared}{vs:List Value}
  (KX:K.In s₁.heap) (hns:s₁.heap.Ns mainGlobals mg) (hb:s₁.heap.Ns builtinsNs mb) (hbb:∀x:Str,x ≠ "__name__" -> mb x=bootBuiltins x) (hlim:s₁.heap.NoLimit) (hg:s₁.gens=#[])
  (ha:s₁.heap.get? a=some { cls:=.type "list",data:=.seq vs.toArray }) (hi:IntsAre vs ns) (hl:ns.length<=sizeLine) (hr:Yq k callerA)
  (F:∀base:Heap,K.In base->base.Ns mainGlobals mg->V9 P w K mg base CX k fa fd [x] sp) (hbind:∀(s:Shared) (u:Value),BindsTo s fd ⟨[u],[]⟩ [(x,u)])
  (hsp:∀H:Hp,Only H->SqL K H a (ns.map V.int)->sp [.ref a] H (fun v _=>v=.bl true) fun _ _ _=>False)
  (hCX:∀H e s',CX [] H s₁ (fun _ _ _=>False) e s'->False) :
  codeAny (model P w) callerA (.call (.ref fa) ⟨[.ref a],[]⟩) (fun r s'=>r=.ok (.ret (.bool true))/\OldK s₁.heap s'.heap/\s'.os=s₁.os/\AllBare s'.gens) s₁:=by
 have rv:=vH hi;have lenV:=hi.length;have core:∀H:Hp,Only H->SqL K H a (ns.map V.int)->HOk P w H s₁.heap->(∀b,H b≠none->b=a)->(H a≠none->K.lookup a=none) ->
   codeAny (model P w) callerA (.call (.ref fa) ⟨[.ref a],[]⟩) (fun r s'=>r=.ok (.ret (.bool true))/\OldK s₁.heap s'.heap/\s'.os=s₁.os/\AllBare s'.gens) s₁:=by
  intro H hO hS hok hA hK;have base_of:∀{b:Addr}{o:Obj},s₁.heap.get? b=some o->H b=none->(hidT s₁.heap H).get? b=some o:=fun e n=>hidT_get e n;have noA:∀{b:Addr}{o:Obj}{es:Array DictEntry}{ep:Nat},s₁.heap.get? b=some o->o.data=.dict es ep->H b=none:=fun {b o es ep} e d=>by
   cases q:H b with
   |none=>rfl
   |some u=>
    have e':b=a:=hA b (by rw[q];simp);subst e';rw[ha] at e;cases e;have d':Data.seq vs.toArray _=Data.dict es ep:=d;cases d'
  have nsK:∀{b:Addr}{m:Str->Option Value},s₁.heap.Ns b m->(hidT s₁.heap H).Ns b m:=fun {b m} ⟨o,es,ep,e,d,r⟩=>⟨o,es,ep,base_of e (noA e d),d,r⟩;have hKb:K.In (hidT s₁.heap H):=fun b o e=>base_of (KX b o e) (by
   cases q:H b with
   |none=>rfl
   |some u=>
    have e':b=a:=hA b (by rw[q];simp);subst e';rw[hK (by rw[q];simp)] at e;cases e)
  have hM:Mod K mg (hidT s₁.heap H):=⟨hKb,nsK hns,⟨mb,nsK hb,hbb⟩,let ⟨mc,h1,h2⟩:=hlim; ⟨mc,nsK h1,h2⟩⟩;have e0:Env0 P w K mg (hidT s₁.heap H) callerA [] s₁ H:=⟨rfl,hM,fun b o e=>of_hidT e,Nat.le_of_eq (hidT_size _ _),trivial,fun b hb=>absurd (show b∈([]:List Addr) from hb) (by simp),hok,.of_eq hg⟩;refine lv ((F _ hKb (nsK hns)).run callerA [] s₁ H ⟨[.ref a],[]⟩ [.ref a] [.ref a] _ _ hr e0 (hbind s₁ (.ref a)) (.cons rfl .nil) (hsp H hO hS)) fun r s' h=>?_;cases r with
  |error e=>exact(hCX H e s' h).elim
  |ok fl=>
   cases fl with
   |next=>exact False.elim h
   |brk=>exact False.elim h
   |cont=>exact False.elim h
   |ret u=>
    obtain⟨v,H',os,bare,un,hok',r',q⟩:=h;have q':v=.bl true:=q;subst q';obtain rfl:u=Value.bool true:=r';refine⟨rfl,OldK.of_keep fun b o e=>?_,os,bare⟩;cases q:H b with
    |none=>exact un.keep b o e q (by intro z;exact absurd (show b∈([]:List Addr) from z) (by simp)) (by simp)
    |some u=>
     rcases hO b with z|⟨ob,xs,z⟩
     ·rw[q] at z;cases z
     ·have z2:=un.frzs b ob _ z;obtain⟨e1,_⟩:=hok b _ z;obtain⟨e2,_⟩:=hok' b _ z2;rw[e] at e1;cases e1;exact e2
 cases hk:K.lookup a with
 |some o=>
  have e:=KX a o hk;rw[ha] at e;cases e;refine core (fun _=>none) (fun _=>.inl rfl) (.inr ⟨_,vs.toArray,_,hk,rfl,rfl,rfl,by rw[fV,lenV];exact hl,by simpa using rv⟩) (fun b u z=>by have z':(none:Option HO)=some u:=z;cases z') (fun b z=>absurd rfl z) fun z=>absurd rfl z
 |none=>
  refine core (fun b=>if b=a then some (.frz { cls:=.type "list",data:=.seq vs.toArray } (.lst (ns.map V.int))) else none) (fun b=>?_) (.inl (.inr ⟨{ cls:=.type "list",data:=.seq vs.toArray },if_pos rfl⟩)) (fun b u z=>?_) (fun b z=>?_) fun _=>hk
  ·by_cases hb:b=a
   ·exact .inr ⟨_,_,if_pos hb⟩
   ·exact .inl (if_neg hb)
  ·by_cases hb:b=a
   ·have z':=(if_pos hb).symm.trans z;cases z';subst hb;exact⟨ha,by rw[fF];exact hl,vs,_,rv,ha⟩
   ·have z':=(if_neg hb).symm.trans z;cases z'
  ·by_cases hb:b=a
   ·exact hb
   ·exact absurd (if_neg hb) z
def walk_of{k:Nat}{d:DefRec}{K:Params->W.Frag}{CX:World->CXT}{sp:World->Sp}{x:Str}
  (hn:l.most=some n) (hn2:n<=sizeLine) (hdf:d.params.defaults=[]) (hr:Yq k callerA)
  (hY:∀(w:World) (h:Heap),YP w h->(K w.params).In h)
  (F:∀(w:World) (mg:Str->Option Value) (fa:Addr) (h:Heap),(K w.params).In h->h.Ns mainGlobals mg->mg d.name=some (.ref fa) ->
   ∃fd:FuncData,(∀(s:Shared) (u:Value),BindsTo s fd ⟨[u],[]⟩ [(x,u)]) /\
    ∀base:Heap,(K w.params).In base->base.Ns mainGlobals mg->V9 l.prog w (K w.params) mg base (CX w) k fa fd [x] (sp w))
  (hsp:∀(w:World) (H:Hp) (a:Addr) (ns:List Int),ns.length<=n->Only H->SqL (K w.params) H a (ns.map V.int)->sp w [.ref a] H (fun v _=>v=.bl true) fun _ _ _=>False)
  (hCX:∀(w:World) (H:Hp) (s:Shared) (e:Value) (s':Shared),CX w [] H s (fun _ _ _=>False) e s'->False) :
  W.WalkO q loose XP YP l.row.toRowW d [] (fun f vs=>PySem.call f vs):=by
 refine Att.attach_call hn hdf fun w s₀ s₁ mg mb fa o pm cd doc a vs ns G Y ho hd hcd hmg hobj hints hlen hg=>?_;have KX:=hY w _ Y;obtain⟨fd,hb,hF⟩:=F w mg fa _ KX G.T.g hmg;exact law_call KX G.T.g G.T.b G.T.builtins G.T.nolimit hg hobj hints (fU hlen hn2) hr hF hb (fun H hO hS=>hsp w H a ns hlen hO hS) fun H e s'=>hCX w H s₁ e s'
def Wp(s:Stmt)(j:Nat):Stmt:=match s with
 |.ClassDef _ _ _ body _ _ _ _ _ _ _=>body.getD j (.Pass ⟨0,0,0,0⟩)
 |_=>.Pass ⟨0,0,0,0⟩
def WI(s:Stmt):Arguments:=match s with
 |.FunctionDef _ a _ _ _ _ _ _ _ _=>a
 |_=>{ posonlyargs:=[],args:=[],vararg:=none,kwonlyargs:=[],kw_defaults:=[],kwarg:=none,defaults:=[] }
def XX(s:Stmt):List Stmt:=match s with
 |.FunctionDef _ _ b _ _ _ _ _ _ _=>b
 |_=>[]
def Zg(s:Stmt):Scope:=match s with
 |.FunctionDef _ _ _ _ _ _ sc _ _ _=>sc
 |_=>{ kind:=.function,names:=[],isGenerator:=false,isCoroutine:=false }
abbrev CX0:CXT:=fun _ _ _ _ _ _=>False
abbrev E0:XK:=fun _ _ _=>False
def Yy:Uc CX0 X E0:=fun _ _ _ _ _ _ _ h=>h.elim
structure Fun(K:W.Frag)(x qual:Str)(st:Stmt)(f:Addr)(fd:FuncData):Prop where
 ex:∃(oc:Value) (od:Option Addr) (kV doc pm:Value) (an:Option Addr) (de ct:Value) (osl:Array (Option Value)),
  fd=W.fnOf x qual (WI st) (XX st) (Zg st) .none kV doc pm an de ct/\K.lookup f=some ⟨oc,od,.func fd,osl⟩/\W.codeIn K de qual=true
 kp:W.keepIn K (.ref f)=true
def Fun.ok{x:Str}{st:Stmt}{f:Addr}{ps:List Str}{k:Nat}(F:Fun K x qual st f fd)(S:Zt N ps (Zg st))(len:∀vs H Q E,sp vs H Q E->vs.length=ps.length)
  (hbody:∀(de:Value) (A:Around) (outer:List Env) (s:Shared) (H:Hp) (vs:List V) (Q:VK) (E:XK),Yq k (A.deeper (envOfC qual (Zg st) s.heap.objs.size f de))->sp vs H Q E ->
   ∃t,PSs (cxOf CX0 P w K mg base N qual (Zg st) f de A outer s H E).nox (XX st) t/\t { nx:=fun _ H'=>Q .non H',rt:=Q } (qT N vs) H):V9 P w K mg base CX0 (k+1) f fd ps sp:=by
 obtain⟨oc,od,kV,doc,pm,an,de,ct,osl,rfl,lk,hcd⟩:=F.ex;refine fn_of lk hcd S len fun A outer s H vs Q E hr hsp=>?_;obtain⟨t,h,q⟩:=hbody de A outer s H vs Q E hr hsp;exact⟨t,h.nox,q⟩
def Fun.binds{x:Str}{st:Stmt}{f:Addr}{ps:List Str}(F:Fun K x qual st f fd)
  (h:∀(kV doc pm:Value) (an:Option Addr) (de ct:Value) (us:List Value),us.length=ps.length->bindArgs (W.fnOf x qual (WI st) (XX st) (Zg st) .none kV doc pm an de ct) ⟨us,[]⟩=pure (ps.zip us)):VP K fd ps []:=by
 obtain⟨oc,od,kV,doc,pm,an,de,ct,osl,rfl,lk,hcd⟩:=F.ex;exact .all (h kV doc pm an de ct)
def fun_mk{x:Str}{st:Stmt}{f:Addr}{oc:Value}{kV doc pm de ct:Value}(l:K.lookup f=some ⟨oc,od,.func (W.fnOf x qual (WI st) (XX st) (Zg st) .none kV doc pm an de ct),osl⟩)
  (c:W.codeIn K de qual=true) (k:W.keepIn K (.ref f)=true):Fun K x qual st f (W.fnOf x qual (WI st) (XX st) (Zg st) .none kV doc pm an de ct):=⟨⟨oc,od,kV,doc,pm,an,de,ct,osl,rfl,l,c⟩,k⟩
def hu_of{k:Nat}(hr:Yq k A):A.units+1<cLine:=ii (Nat.add_le_add_left (by decide:1<=64) _) hr.units
def pv(i:Nat){x:Str}(hN:X.N[i]?=some x:=by rfl)(hv:Vis X.env.scope x:=by first|exact Or.inl rfl|exact Or.inr (.inl rfl)|exact Or.inr (.inr rfl))(hd:(x==("__debug__" : Str))=false:=by decide)
  (hcd:(x==("__classdict__" : Str))=false:=by decide):PE X (.Name x pos) (tVar i):=pe_var hN hv hd hcd
def Z3{A:Prop}(h:B):if false=true then A else B:=by
 rw[if_neg gk];exact h
def Yo{A:Prop}(h:A):if true=true then A else B:=by
 rw[if_pos rfl];exact h
def XN{c A:Prop}[Decidable c](h1:c->A)(h2:¬c->B):if c then A else B:=by
 by_cases h:c
 ·rw[if_pos h];exact h1 h
 ·rw[if_neg h];exact h2 h
def Ze(H H':Hp):Prop:=∀b o,H b=some o->H' b=some o
def Ze.refl(H:Hp):Ze H H:=fun _ _ h=>h
def Ze.trans(a:Ze H H1)(b:Ze H1 H2):Ze H H2:=fun c o h=>b c o (a c o h)
def Ze.free(e:Ze H H'){l:Addr}(h:H' l=Option.none):H l=Option.none:=by
 cases q:H l with
 |none=>rfl
 |some o=>
  rw[e l o q] at h;cases h
def Ze.seq{a:Addr}{xs:List V}(e:Ze H H')(h:SqL K H a xs):SqL K H' a xs:=by
 rcases h with(h|⟨o,h⟩)|h
 ·exact .inl (.inl (e _ _ h))
 ·exact .inl (.inr ⟨o,e _ _ h⟩)
 ·exact .inr h
end L2
set_option maxHeartbeats 8000000
namespace L3
open PySem PySem.Spec PyProof.Rows L2
abbrev St:=L2.St
def sub(ix:List (Option Nat))(U:St):St:=ix.map fun o=>o.bind fun j=>(U[j]?).join
def thnF{t:Sem α}{Q:α->Shared->Prop}(h:wpAny M A t Q (fun _ _=>False) s)(hQ:∀a s,Q a s->Q' a s):wpAny M A t Q' E s:=
 ik h hQ fun _ _ z=>z.elim
def PTs(X:Cx)(ifs:List Expr)(t:TT):Prop:=
 ∀(db:List (Addr×Obj)) (s:Shared) (U:St) (H:Hp) (Q:Bool->Hp->Prop),Inv X db U H s->t U H Q ->
  wpAny (model X.prog X.w) X.A (forIn ifs true fun c r=>if r=true then do let ok <- isTrue c X.env (eval c X.env);pure (ForInStep.yield ok) else pure (ForInStep.yield r)) (TP X db U Q) X.xe s
def xJ:TT:=fun _ H Q=>Q true H
def Z0:PTs X [] xJ:=fun _ _ _ H _ I h=>wpAny_tests_nil ⟨H,I,h⟩
def Wq{c:Expr}{t:TT}(h:PT X c t):PTs X [c] t:=fun db s U H Q I q=>wpAny_tests_one (h db s U H Q I q)
def YN(scope:Scope)(env:Env):List (Str×Addr):=(scope.names.filter fun y=>y.2==.free).reverse.map fun y=>(y.1,(env.cells.lookup y.1).getD 0)
def clos_loop:∀(ns:List (Str×NameKind)) (acc:List (Str×Addr)),(∀y∈ns,y.2=.free->(env.cells.lookup y.1).isSome=true) ->
  (forIn ns acc fun(x:Str×NameKind) (r:List (Str×Addr))=>if x.2==.free then do let a <- cellOf env x.1;pure (ForInStep.yield ((x.1,a)::r)) else pure (ForInStep.yield r):Sem (List (Str×Addr))) =
   pure ((ns.filter fun y=>y.2==.free).reverse.map (fun y=>(y.1,(env.cells.lookup y.1).getD 0))++acc):=by
 intro ns
 induction ns with
 |nil=>intro acc _;rfl
 |cons y r ih=>
  intro acc h;have hr:∀z∈r,z.2=.free->(env.cells.lookup z.1).isSome=true:=fun z hz=>h z (gf _ hz);rw[List.forIn_cons]
  by_cases hf:(y.2==NameKind.free)=true
  ·have hs:=h y iz (by simpa using hf);obtain⟨c,hc⟩:=nj.mp hs;have e1:cellOf env y.1=pure c:=by unfold cellOf;rw[hc]
   rw[if_pos hf,e1,pure_bind,pure_bind];refine(ih _ hr).trans ?_;rw[lW (by simpa using hf),mr,gb];simp[hc]
  ·rw[if_neg hf,pure_bind];refine(ih _ hr).trans ?_;rw[lX (by simpa using hf)]
def clos_eq(h:∀y∈scope.names,y.2=.free->(env.cells.lookup y.1).isSome=true):closureFor scope env=pure (YN scope env):=by
 have e:=clos_loop (env:=env) scope.names [] h;rw[iB] at e;unfold closureFor;rw[show YN scope env=(scope.names.filter fun y=>y.2==.free).reverse.map (fun y=>(y.1,(env.cells.lookup y.1).getD 0)) from rfl];rw[<- pure_bind (m:=Sem) ((scope.names.filter fun y=>y.2==.free).reverse.map (fun y=>(y.1,(env.cells.lookup y.1).getD 0))) pure,<- e]
def Up{β:Type}(f:Str->β):∀(l:List (Str×NameKind)) (x:Str),(l.map fun y=>(y.1,f y.1)).lookup x=if x∈l.map (·.1) then some (f x) else none
 |[],x=>by simp
 |y::r,x=>by
  rw[fZ,gC,Up f r x]
  by_cases e:x=y.1
  ·subst e;simp
  ·have hb:(x==y.1)=false:=by simpa using e
   rw[hb]
   by_cases hm:x∈r.map (·.1)
   ·rw[if_pos hm,if_pos (by rw[fZ];exact gf _ hm)]
   ·rw[if_neg hm,if_neg (by rw[fZ];intro z;rcases fQ.mp z with z|z;exact e z;exact hm z)]
def Yn{x:Str}{c:Addr}(h:∀y∈scope.names,y.2=.free->(env.cells.lookup y.1).isSome=true)(e:(YN scope env).lookup x=some c):env.cells.lookup x=some c:=by
 unfold YN at e;rw[Up (fun z=>(env.cells.lookup z).getD 0)] at e
 split at e
 ·rename_i hx
  obtain⟨y,hy,rfl⟩:=gn.mp hx;obtain⟨h1,h2⟩:=i9.mp (mN.mp hy);obtain⟨d,hd⟩:=nj.mp (h y h1 (by simpa using h2));have e':=fY e;rw[hd] at e' ⊢;exact fS some e'
 ·cases e
def VS{x:Str}(hx:(x,NameKind.free)∈scope.names):∃c,(YN scope env).lookup x=some c:=by
 unfold YN;rw[Up (fun z=>(env.cells.lookup z).getD 0),if_pos]
 ·exact⟨_,rfl⟩
 ·exact gn.mpr ⟨(x,.free),mN.mpr (i9.mpr ⟨hx,by simp⟩),rfl⟩
def V4{env:Env}:∀{names:List (Str×NameKind)}{x:Str}{k:NameKind},
  (names.map fun(n,k)=>if(k==NameKind.free&&env.scope.kind==.function&&env.kindOf n==some .cell) then(n,NameKind.cell) else(n,k)).lookup x=some k ->
   names.lookup x=some k\/(k=.cell/\names.lookup x=some .free)
 |[],_,_,h=>by simp at h
 | (n,k0)::r,x,k,h=>by
  rw[fZ] at h;dsimp only at h;cases hx:x==n with
  |true=>
   by_cases hc:(k0==NameKind.free&&env.scope.kind==.function&&env.kindOf n==some .cell)=true
   ·rw[if_pos hc] at h;simp only[gC,hx] at h ⊢;have:k0=.free:=by
     have h1:=(gv _ _▸((gv _ _▸hc).1)).1;simpa using h1
    exact .inr ⟨(fY h).symm,by rw[this]⟩
   ·rw[if_neg hc] at h;simp only[gC,hx] at h ⊢;exact .inl h
  |false=>
   have h':(r.map fun(n,k)=>if(k==NameKind.free&&env.scope.kind==.function&&env.kindOf n==some .cell) then(n,NameKind.cell) else(n,k)).lookup x=some k:=by
    by_cases hc:(k0==NameKind.free&&env.scope.kind==.function&&env.kindOf n==some .cell)=true
    ·rw[if_pos hc] at h;simpa only[gC,hx] using h
    ·rw[if_neg hc] at h;simpa only[gC,hx] using h
   simp only[gC,hx];exact V4 h'
def VU{env:Env}:∀{names:List (Str×NameKind)}{x:Str},names.lookup x=some .free ->
  (names.map fun(n,k)=>if(k==NameKind.free&&env.scope.kind==.function&&env.kindOf n==some .cell) then(n,NameKind.cell) else(n,k)).lookup x=some .cell \/
  (names.map fun(n,k)=>if(k==NameKind.free&&env.scope.kind==.function&&env.kindOf n==some .cell) then(n,NameKind.cell) else(n,k)).lookup x=some .free
 |[],_,h=>by simp at h
 | (n,k0)::r,x,h=>by
  rw[fZ];dsimp only;cases hx:x==n with
  |true=>
   simp only[gC,hx] at h;have e:k0=.free:=fY h
   by_cases hc:(k0==NameKind.free&&env.scope.kind==.function&&env.kindOf n==some .cell)=true
   ·rw[if_pos hc];exact .inl (by simp only[gC,hx])
   ·rw[if_neg hc];exact .inr (by simp only[gC,hx];rw[e])
  |false=>
   simp only[gC,hx] at h;have ih:=VU (env:=env) h
   by_cases hc:(k0==NameKind.free&&env.scope.kind==.function&&env.kindOf n==some .cell)=true
   ·rw[if_pos hc];simpa only[gC,hx] using ih
   ·rw[if_neg hc];simpa only[gC,hx] using ih
structure ZJ(sc:Scope)(N Nc:List Str)(ix:List (Option Nat))(scope:Scope):Prop where
 kind:scope.kind=.function
 nocell:∀y∈scope.names,y.2≠.cell
 names:∀y∈scope.names,y.2=.local->scope.names.lookup y.1=some .local
 free:∀y∈scope.names,y.2=.free->sc.names.lookup y.1=some .cell\/sc.names.lookup y.1=some .free
 len:ix.length=Nc.length
 chk:((ix.zip Nc).all fun p=>match p.1 with|none=>true|some j=>N[j]?==some p.2&&scope.names.lookup p.2==some .free)=true
def ZJ.at_(o:ZJ sc N Nc ix scope){x:Str}(h1:ix[i]?=some (some j))(h2:Nc[i]?=some x):N[j]?=some x/\scope.names.lookup x=some .free:=by
 have hm:(some j,x)∈ix.zip Nc:=by
  refine gj (i:=i) ?_;rw[lG];exact⟨h1,h2⟩
 have q:=g9.mp o.chk _ hm;have q':=gv _ _▸q;exact⟨by simpa using q'.1,by simpa using q'.2⟩
def YC(X:Cx)(Nc:List Str)(scope:Scope)(cl:List (Str×Addr))(C:Addr)(s:Shared)(H:Hp)(fp:List Addr):Cx where
 prog:=X.prog
 w:=X.w
 K:=X.K
 mg:=X.mg
 base:=X.base
 A:=X.A
 N:=Nc
 s₀:=s
 H₀:=H
 env:=compEnvC scope cl C X.env
 outer:=X.stack
 stack:=X.stack
 ex:=fp
 fn:=fun x=>(cl.lookup x).isNone
 calm:=X.calm
 pn:=X.pn
 xe:=fun _ _=>False
def CompW(J:It)(D:Addr)(g:TG)(tt:TT)(te:TE)(σ0:St)(H1:Hp)(Q:VK):Prop:=
 ∃W:Nat->Nat->St->Hp->Prop,(∃m,W 0 m σ0 (upd H1 D (.lst [])))/\∀i m σ' H',W i m σ' H'->(J.stop i H'/\Q (.ref D) H') \/
  (J.go i H'/\∃(N:V->St->Hp->Prop) (N0:St->Hp->Prop),(∀v σ2 H5,N v σ2 H5->∃xs,H5 D=some (.lst xs)/\xs.length<sizeLine/\∃m',m'<m/\W (i+1) m' σ2 (upd H5 D (.lst (xs++[v])))) /\
   (∀σ2 H4,N0 σ2 H4->∃m',m'<m/\W (i+1) m' σ2 H4)/\∀x H2,J.yld i H' x H2->g x σ' H2 fun σ2 H3=>tt σ2 H3 fun c H4=>if c=true then te σ2 H4 fun v H5=>N v σ2 H5 else N0 σ2 H4)
def tComp(wi:TI)(ix:List (Option Nat))(g:TG)(tt:TT)(te:TE):TE:=fun U H Q=>wi U H fun J H1=>∀D,H1 D=none->CompW J D g tt te (sub ix U) H1 Q
def loop_ofX{F:Value->Shared->Prop}(J:Nat->Shared->Prop)
  (hF:∀e s',F e s'->notedBy (model prog w) A env (fun e s'=>R (.error e) s') e s')
  (turn:∀n s,J n s->wpAny (model prog w) A (pyNext it) (fun r s1=>match r with
   |none=>R (.ok .next) s1
   |some v=>wpAny (model prog w) A (letOwnedTupleGo target it v) (fun _ s2=>wpAny (model prog w) A (assign target env v) (fun _ s3=>
     wpAny (model prog w) A (forIn ifs true fun c r=>if r=true then do let ok <- isTrue c env (eval c env);pure (ForInStep.yield ok) else pure (ForInStep.yield r)) (fun ok s4=>
      if ok=true then wpAny (model prog w) A (eval elt env) (fun x s5=>wpAny (model prog w) A (call (.builtin "list.append") [acc,x]) (fun _ s6=>∃m,m<n/\J m s6) F s5) F s4
      else ∃m,m<n/\J m s4) F s3) F s2) F s1) F s)
  (n:Nat) (h:J n s):codeAny (model prog w) A (.compLoop (.ListComp elt [⟨target,iter,ifs,0⟩] scope pos) 0 it acc env) R s:=by
 refine codeAny_loop rfl J (fun k t hJ=>?_) n h
 show wpAny _ A ((compTurn (.ListComp elt [⟨target,iter,ifs,0⟩] scope pos) 0 it acc env).onRaise _) _ _ t
 refine wpAny_noted ?_;rw[compTurn_list];refine fD (lH (fD (ik (turn k t hJ) (fun r s1 h1=>?_) hF)));cases r with
 |none=>exact fI h1
 |some v=>
  refine fD (ik h1 (fun _ s2 h2=>fD (ik h2 (fun _ s3 h3=>fD (ik h3 (fun ok s4 h4=>?_) hF)) hF)) hF);cases ok with
  |false=>exact fI ⟨rfl,h4⟩
  |true=>exact fD (fD (ik h4 (fun x s5 h5=>fD (ik h5 (fun _ s6 h6=>fI (fI ⟨rfl,h6⟩)) hF)) hF))
def loop_of(J:Nat->Shared->Prop)
  (turn:∀n s,J n s->wpAny (model prog w) A (pyNext it) (fun r s1=>match r with
   |none=>R (.ok .next) s1
   |some v=>wpAny (model prog w) A (letOwnedTupleGo target it v) (fun _ s2=>wpAny (model prog w) A (assign target env v) (fun _ s3=>
     wpAny (model prog w) A (forIn ifs true fun c r=>if r=true then do let ok <- isTrue c env (eval c env);pure (ForInStep.yield ok) else pure (ForInStep.yield r)) (fun ok s4=>
      if ok=true then wpAny (model prog w) A (eval elt env) (fun x s5=>wpAny (model prog w) A (call (.builtin "list.append") [acc,x]) (fun _ s6=>∃m,m<n/\J m s6) (fun _ _=>False) s5) (fun _ _=>False) s4
      else ∃m,m<n/\J m s4) (fun _ _=>False) s3) (fun _ _=>False) s2) (fun _ _=>False) s1) (fun _ _=>False) s)
  (n:Nat) (h:J n s):codeAny (model prog w) A (.compLoop (.ListComp elt [⟨target,iter,ifs,0⟩] scope pos) 0 it acc env) R s:=
 loop_ofX (F:=fun _ _=>False) J (fun _ _ z=>z.elim) turn n h
def zP(I:Inv X db U H s)(ok:ZJ X.env.scope X.N Nc ix scope):∀y∈scope.names,y.2=.free->(X.env.cells.lookup y.1).isSome=true:=fun y hy hf=>by
 obtain⟨c,hc⟩:=I.ok.has y.1 (ok.free y hy hf);rw[hc];rfl
def Ky(I:Inv X db U H s)(ok:ZJ X.env.scope X.N Nc ix scope)(hf:∀b∈fp,Vz X db H b)(hob:∀b∈fp,∃o,s.heap.get? b=some o)
  {m:Str->Option Value} (hn:h1.Ns s.heap.objs.size m) (hk:∀b o,s.heap.get? b=some o->h1.get? b=some o) :
  Inv (YC X Nc scope (YN scope X.env) s.heap.objs.size s H fp) db (sub ix U) H { s with heap:=h1,toks:=t' }:=by
 have ac:=zP I ok;have old:∀{b:Addr}{o:Obj},s.heap.get? b=some o->b≠s.heap.objs.size:=fun e=>fP (fN e);refine⟨⟨I.ok.mod,?_,I.ok.glob,I.ok.blt,fE _,?_,?_,?_,I.ok.hd,I.ok.frames,.inl rfl,?_,I.bs,fU I.ok.bsz I.sz,?_,?_,I.stack,I.stkFree⟩,rfl,I.bare,Un.kept hk,⟨m,hn,?_⟩,?_,?_,?_,?_,I.hok.kept hk,?_⟩
 ·exact ok.kind
 ·intro x y c e1 e2;exact I.ok.inj x y c (Yn ac e1) (Yn ac e2)
 ·intro x hx;have key:∀k,(relabel scope X.env).names.lookup x=some k->(k=.cell\/k=.free)->∃c,(YN scope X.env).lookup x=some c:=fun k e hkk=>by
   rcases V4 e with q|⟨_,q⟩
   ·rcases hkk with rfl|rfl
    ·exact absurd rfl (ok.nocell _ (gN q))
    ·exact VS (gN q)
   ·exact VS (gN q)
  rcases hx with e|e
  ·exact key _ e (.inl rfl)
  ·exact key _ e (.inr rfl)
 ·intro x c hfn e;have e':(YN scope X.env).lookup x=some c:=e;have hfn':((YN scope X.env).lookup x).isNone=true:=hfn;rw[e'] at hfn';cases hfn'
 ·intro b hb;obtain⟨o,e⟩:=hob b hb;obtain⟨f0,f1,f2,f3,f4,f5⟩:=hf b hb;exact⟨old e,fun x c q=>f4 x c (Yn ac q)⟩
 ·intro b o e hb;obtain⟨f0,f1,f2,f3,f4,f5⟩:=hf b hb;rcases f3 with z|z
  ·exact I.ok.noex b o e z
  ·exact absurd (gA (gA (fN e) I.ok.bsz) z) (iy _)
 ·intro b hb hz;obtain⟨f0,f1,f2,f3,f4,f5⟩:=hf b hb;rcases fQ.mp (I.stkSub b hz) with z|z
  ·exact f1 z
  ·exact f2 z
 ·intro i x v e1 e2 e3;have e1:Nc[i]?=some x:=e1;unfold sub at e2;rw[fL] at e2;cases hi:ix[i]? with
  |none=>rw[hi] at e2;cases e2
  |some o=>
   cases o with
   |none=>rw[hi] at e2;cases e2
   |some j=>
    obtain⟨hN,hfree⟩:=ok.at_ hi e1;have e4:U[j]?=some (some v):=by
     rw[hi] at e2;have e2':some ((U[j]?).join)=some (some v):=e2;have e5:=fY e2';cases hj:U[j]? with
     |none=>rw[hj] at e5;cases e5
     |some z=>rw[hj] at e5;exact fS some e5
    have hvis:Vis X.env.scope x:=by
     rcases ok.free (x,.free) (gN hfree) rfl with q|q
     ·exact .inr (.inl q)
     ·exact .inr (.inr q)
    obtain⟨m0,hn0,hl⟩:=I.loc;obtain⟨u,r,lk⟩:=hl j x v hN e4 hvis;refine⟨u,r,.inr ⟨VU hfree,?_⟩⟩;rcases lk with⟨q,_⟩|⟨_,c,hc,z⟩
    ·rcases ok.free (x,.free) (gN hfree) rfl with q2|q2
     ·exact absurd (q.symm.trans q2) (by decide)
     ·exact absurd (q.symm.trans q2) (by decide)
    ·obtain⟨d,hd⟩:=VS (env:=X.env) (gN hfree);have:=Yn ac hd;rw[hc] at this;cases this;obtain⟨oc,e5,e6⟩:=z;exact⟨c,hd,oc,hk c oc e5,e6⟩
 ·intro x c e;obtain⟨v,oc,e5,e6⟩:=I.cell x c (Yn ac e);exact⟨v,oc,hk c oc e5,e6⟩
 ·exact I.hok.fresh (fE _)
 ·intro x c e;exact I.freeC x c (Yn ac e)
 ·intro p hp;obtain⟨e,n,ne,nf,d⟩:=I.pin p hp;refine⟨hk _ _ e,n,old e,fun z=>?_,d⟩;rcases fQ.mp (I.stkSub p.1 z) with q|q
  ·exact ne q
  ·exact nf q
 ·unfold sub;rw[fF];exact ok.len
def comp_end(I:Inv X db U H s)(hf:∀b∈fp,Vz X db H b)(hC:s.heap.get? C=none)
  (J:Inv (YC X Nc scope cl C s H fp) db σ' H' s') (sb:Heap.SameBut C s'.heap h'):Inv X db U H' { s' with heap:=h' }:=by
 have u:Un (frs X.stack) fp H H' s.heap s'.heap:=J.base;have hCf:H' C=none:=J.free;have hCn:∀{b:Addr}{o:Obj},s.heap.get? b=some o->b≠C:=fun e z=>by rw[z,hC] at e;cases e
 refine I.call' (s':={ s' with heap:=h' }) (ch:=fp) J.os ⟨fun b o e n h1 h2=>?_,fun b o e n h1 h2=>?_,u.free,fun b o e h2=>?_,u.tups,u.frzs,u.tbls⟩ ?_ J.bare fun b hb=>?_
 ·exact(sb.2 b (hCn e)).trans (u.keep b o e n h1 h2)
 ·obtain⟨sl,q⟩:=u.slot b o e n h1 h2;exact⟨sl,(sb.2 b (hCn e)).trans q⟩
 ·obtain⟨o',q⟩:=u.there b o e h2;exact⟨o',(sb.2 b (hCn e)).trans q⟩
 ·intro b o e;refine(J.hok b o e).stay (fun c v hc q=>(sb.2 c ?_).trans q) (fun _ q=>q) fun _ _ q=>q;rintro rfl;rcases hc with z|z
  ·rw[<- z,hCf] at e;cases e
  ·rw[hCf] at z;cases z
 ·obtain⟨f0,f1,f2,f3,f4,f5⟩:=hf b hb;exact⟨f3,f1,f4,f5⟩
def qI(k:Key)(l:List Key):Bool:=l.any fun x=>decide (x=k)
def k7{k:Key}{l:List Key}:qI k l=true↔k∈l:=by
 unfold qI;rw[List.any_eq_true];constructor
 ·rintro⟨x,hx,e⟩;have:=gi e;subst this;exact hx
 ·intro h;exact⟨k,h,by simp⟩
def memK_snoc(k' k:Key)(l:List Key):(qI k' l||decide (k'=k))=qI k' (l++[k]):=by
 unfold qI;rw[List.any_append]
 by_cases e:k'=k
 ·subst e;simp
 ·have e':¬k=k':=fun z=>e z.symm;simp[e,e']
def memK_not{k:Key}{l:List Key}(h:¬k∈l):qI k l=false:=by
 cases e:qI k l with
 |false=>rfl
 |true=>exact absurd (k7.mp e) h
def Kj{k:Key}{v:Value}(h:UG k v=true):v.scannable=true:=by
 rcases Yk h with⟨i,t,rfl,rfl⟩|⟨x,t,rfl,rfl⟩<;>rfl
def qO{a:Addr}{S S':Key->Bool}{n':Nat}(x:h.SetOf (ZB prog w) a S n)(e:∀k,S k=S' k)(en:n=n'):h.SetOf (ZB prog w) a S' n':=by
 have:S=S':=funext e;subst this;subst en;exact x
def qv{a:Addr}{S:Key->Bool}(x:h.SetOf (ZB prog w) a S n)(k:∀o,h.get? a=some o->h'.get? a=some o):h'.SetOf (ZB prog w) a S n:=by
 obtain⟨o,es,ep,t,ho,r⟩:=x;exact⟨o,es,ep,t,k o ho,r⟩
def set_loop{ax:Addr}{ks:List Key}(hh:A.handled=none)(hne:ax≠I)(hSI:S≠I)(hSa:S≠ax)
  (hv:∀(i:Nat) v,items[i]?=some v->∃k,ks[i]?=some k/\UG k v=true) (hl:ks.length=items.size) (hb:items.size+1<scanBound) :
  ∀(c i:Nat) (s:Shared) (n:Nat),items.size-i=c->i<=items.size->s.heap.IsListIter I ax i/\s.heap.IsList ax items ->
   s.heap.SetOf (ZB prog w) S (fun k=>qI k (ks.take i)) n->n<=i->(n=i↔(ks.take i).Nodup) ->
   (∀(h':Heap) (tk n':Nat),h'.SetOf (ZB prog w) S (fun k=>qI k ks) n'->n'<=ks.length->(n'=ks.length↔ks.Nodup)->(∀b o,b≠S->b≠I->s.heap.get? b=some o->h'.get? b=some o) ->
    R (.ok (.ret .none)) { s with heap:=h',toks:=tk }) ->
   codeAny (model prog w) A (.builtin "set.update.loop" ⟨[.ref S,.ref I],[]⟩) R s:=by
 have W:=Walks.list (prog:=prog) (w:=w) (A:=A.in1) (by simpa using hh) I ax hne items;intro c
 induction c with
 |zero=>
  intro i s n hc hi st hS hn hnd hR;have e:i=items.size:=by omega
  subst e;refine iD nt ?_;rw[iX lY _]
  show wpAny _ A.in1 (pyNext (.ref I) >>= _) _ _ s
  refine fD (W.done s _ _ st fun h' tk hk=>?_)
  show wpAny _ A.in1 (ret Value.none) _ _ _
  have et:ks.take items.size=ks:=by rw[<- hl];exact iP
  rw[et] at hnd;refine fI (hR h' tk n (qO (qv hS fun o z=>hk S o (by simpa using hSI) z) (fun k=>by rw[et]) rfl) (by omega) (by rw[hl];exact hnd) fun b o _ hbI z=>hk b o (by simpa using hbI) z)
 |succ c ih=>
  intro i s n hc hi st hS hn hnd hR;have hlt:i<items.size:=by omega
  refine iD nt ?_;rw[iX lY _]
  show wpAny _ A.in1 (pyNext (.ref I) >>= _) _ _ s
  refine fD (W.item i s _ _ hlt st fun v h1 tk hP st1 hk=>?_);obtain⟨k,hki,kis⟩:=hv i v hP;have hS1:h1.SetOf (ZB prog w) S (fun k=>qI k (ks.take i)) n:=qv hS fun o z=>hk S o (by simpa using hSI) z
  show wpAny _ A.in1 (holding [v] (setAdd S v) >>= _) _ _ { s with heap:=h1,toks:=tk }
  refine fD (hU ?_);unfold setAdd;refine hU (fD ((ZB prog w).pyHash (k:=k) kis ?_));refine wpAny_setAddHashed_of (knd:=ZB prog w) (s:={ s with heap:=h1,toks:=tk+1 }) kis (Kj kis) hS1 (by omega) fun h2 hsb hS2=>?_;have hik:i<ks.length:=by omega
  have ek:ks[i]=k:=by
   have:=fG hik;rw[hki] at this;exact(fY this).symm
  have et:ks.take (i+1)=ks.take i++[k]:=by rw[List.take_add_one,hki];rfl
  have e1:∀k',(qI k' (ks.take i)||decide (k'=k))=qI k' (ks.take (i+1)):=fun k'=>by rw[et];exact memK_snoc _ _ _
  by_cases hin:k∈ks.take i
  ·have hS3:=qO (n':=n) hS2 e1 (by rw[if_pos (k7.mpr hin)]);refine fI ⟨iY lY _,ih (i+1) _ n (by omega) hlt (W.frame _ _ _ st1 fun b hb o z=>?_) hS3 (by omega) ?_ fun h' tk' n' a1 a2 a3 a4=>?_⟩
   ·rw[hsb.2 b (fun q=>by subst q;simp at hb;exact hb.elim hSI hSa)];exact z
   ·constructor
    ·intro q;omega
    ·intro q;rw[et] at q;exact absurd hin (fun z=>(lI.mp q).2.2 _ z _ (by simp) rfl)
   ·exact hR h' tk' n' a1 a2 a3 fun b o hbS hbI z=>a4 b o hbS hbI (by rw[hsb.2 b hbS];exact hk b o (by simpa using hbI) z)
  ·have hS3:=qO (n':=n+1) hS2 e1 (by rw[memK_not hin];rfl);refine fI ⟨iY lY _,ih (i+1) _ (n+1) (by omega) hlt (W.frame _ _ _ st1 fun b hb o z=>?_) hS3 (by omega) ?_ fun h' tk' n' a1 a2 a3 a4=>?_⟩
   ·rw[hsb.2 b (fun q=>by subst q;simp at hb;exact hb.elim hSI hSa)];exact z
   ·rw[et];constructor
    ·intro q;exact lI.mpr ⟨hnd.mp (by omega),by simp,fun a ha b hb q2=>by rw[fW.mp hb] at q2;subst q2;exact hin ha⟩
    ·intro q;have:=hnd.mpr (lI.mp q).1;omega
   ·exact hR h' tk' n' a1 a2 a3 fun b o hbS hbI z=>a4 b o hbS hbI (by rw[hsb.2 b hbS];exact hk b o (by simpa using hbI) z)
set_option maxHeartbeats 8000000 in
def vy{l:Addr}{ks:List Key}(hh:A.handled=none)(hl:s.heap.IsList l items)
  (hv:∀(i:Nat) v,items[i]?=some v->∃k,ks[i]?=some k/\UG k v=true) (hz:ks.length=items.size) (hb:items.size+1<scanBound)
  (h:∀(h':Heap) (tk n:Nat),h'.SetOf (ZB prog w) s.heap.objs.size (fun k=>qI k ks) n->n<=ks.length->(n=ks.length↔ks.Nodup)->(∀b o,s.heap.get? b=some o->h'.get? b=some o)->Q (.ref s.heap.objs.size) { s with heap:=h',toks:=tk }) :
  wpAny (model prog w) A (call (.type "set") [.ref l]) Q E s:=by
 have hmade:=hE.made;have hsub:=hE.sub;obtain⟨c,tl,hmro⟩:=hE.mro;refine wpAny_call (codeAny_of_tree (fI ⟨Code.quiet_builtin _ (by decide +kernel),iD PySem.F.entry_type_call ?_⟩));rw[Around.under_plain (weight_type_call_type "set" [.ref l] []) rfl];have g1:=hE.notType;have g2:=hE.canCreate;have g3:=PySem.F.typeCall_set_1 (.ref l)
 repeat (any_goals (first|assumption|wp_step))
 refine lv (code_set_new_1 (.ref l) (E:=E) (Q₁:=fun obj t=>∃led:Bool,obj=.ref s.heap.objs.size/\t={ s with heap:=s.heap.push { cls:=.type "set",dict:=none,data:=.set #[] 0 (.fresh 0 0 led) } }) fun led=>⟨led,rfl,rfl⟩) fun r t hr=>?_;cases r with
 |error e=>exact hr
 |ok fl=>
  cases fl with
  |ret obj=>
   obtain⟨led,rfl,rfl⟩:=hr;have hS:(s.heap.push { cls:=.type "set",dict:=none,data:=.set #[] 0 (.fresh 0 0 led) }).get? s.heap.objs.size=some { cls:=.type "set",dict:=none,data:=.set #[] 0 (.fresh 0 0 led) }:=ge _ rfl;have hT:Shared.TypeIs { s with heap:=s.heap.push { cls:=.type "set",dict:=none,data:=.set #[] 0 (.fresh 0 0 led) } } (.ref s.heap.objs.size) "set" := ⟨_,hS,rfl⟩;have hli:=hE.init.lookup;have hbi:=hE.init.bind (.ref s.heap.objs.size)
   repeat (any_goals (first|assumption|wp_step))
   refine lv (codeAny_call_builtin (R:=wants (fun r u=>r=.none/\∃h' tk n,u={ s with heap:=h',toks:=tk }/\h'.SetOf (ZB prog w) s.heap.objs.size (fun k=>qI k ks) n/\n<=ks.length/\(n=ks.length↔ks.Nodup) /\
     (∀b o,s.heap.get? b=some o->h'.get? b=some o)) E) hE.init.plain PySem.F.entry_set_init (check_set_init_1 hT ?_)) fun r2 u hr2=>?_
   ·obtain⟨ol,hol,hcl,nl,hdl⟩:=hl;obtain⟨ocls,odict,odata,oslots⟩:=ol;simp only at hcl hdl;subst hcl;subst hdl;have hol':(s.heap.push { cls:=.type "set",dict:=none,data:=.set #[] 0 (.fresh 0 0 led) }).get? l=some { cls:=.type "list",dict:=odict,data:=.seq items nl,slots:=oslots }:=fM _ hol;have hsls:=PySem.F.sub_list_set;have hslf:=PySem.F.sub_list_frozenset;have hne:(Value.type "list" == Value.type "dict")=false:=by decide
    have hl1:(s.heap.push { cls:=.type "set",dict:=none,data:=.set #[] 0 (.fresh 0 0 led) }).IsList l items:=⟨_,hol',rfl,nl,rfl⟩;unfold Builtin.«set.__init__» noKeywords Builtin.Frozenset.updateFrom;generalize hPI:pyIter=PI
    wp_walk
    subst hPI;refine nh hl1 ?_;refine fD (wpAny_runValue ?_);have hlS:l<s.heap.objs.size:=fN hol;have z1:(s.heap.push { cls:=.type "set",dict:=none,data:=.set #[] 0 (.fresh 0 0 led) }).objs.size=s.heap.objs.size+1:=iq _ _;refine set_loop (ks:=ks) (items:=items) (ax:=l) (by simpa using hh) (by rw[z1];exact fP (iZ hlS)) (by rw[z1];exact fP (li _)) (gQ hlS) hv hz hb (items.size-0) 0 _ 0 (by omega) (gB _)
     ⟨⟨_,ge _ rfl,rfl,rfl⟩,(hl1.push _)⟩ ?hS0 (fE _) (by simp) ?hR
    case hS0=>
     refine qO (qv (h:=s.heap.push { cls:=.type "set",dict:=none,data:=.set #[] 0 (.fresh 0 0 led) }) ?_ fun o z=>fM _ z) (S:=fun _=>false) (fun k=>rfl) rfl;exact⟨_,#[],0,_,hS,⟨rfl,rfl,rfl⟩,rfl,(fun e he=>by simp at he),(fun k=>by simp[qI]),(by unfold scanBound;decide),rfl,rfl⟩
    case hR=>
     intro h' tk n a1 a2 a3 a4
     show wpAny _ _ _ _ _ _
     refine fI ?_
     show wpAny _ _ (ret Value.none) _ _ _
     refine fI ⟨rfl,h',tk,n,rfl,a1,a2,a3,fun b o z=>?_⟩;have hlt:=fN z;exact a4 b o (fP hlt) (by rw[z1];exact fP (iZ hlt)) (fM _ (fM _ z))
   ·cases r2 with
    |error e=>exact hr2
    |ok fl2=>
     cases fl2 with
     |ret r=>
      obtain⟨rfl,h',tk,n,rfl,a1,a2,a3,a4⟩:=hr2
      repeat (any_goals (first|assumption|wp_step))
      exact h _ _ n a1 a2 a3 a4
     |_=>exact hr2.elim
  |_=>exact hr.elim
def SetN(a:Addr)(n:Nat):HO:=.ext fun h=>∃o es ep t,h.get? a=some o/\o.ExactSet/\o.data=.set es ep t/\t.fits es.size=true/\es.size=n
section
variable{X:Cx}
def jo:∀{ks:List Key}{us:List Value},ZK (ks.map kV) us->∀(i:Nat) v,us[i]?=some v->∃k,ks[i]?=some k/\UG k v=true
 |[],_,.nil,i,v,h=>by simp at h
 |k::r,_,.cons a b,0,v,h=>by
  simp at h;subst h;refine⟨k,rfl,?_⟩;cases k with
  |inl n=>obtain⟨t,rfl⟩:=a;exact VJ n t
  |inr x=>obtain⟨t,rfl⟩:=a;exact jf x t
 |k::r,_,.cons a b,i+1,v,h=>by
  obtain⟨k',e,q⟩:=jo b i v (by simpa using h);exact⟨k',by simpa using e,q⟩
def call_set(hc:X.calm=true):Ym X (.type "set") (fun xs H Q=>∃(p:Addr) (ks:List Key),xs=[.ref p]/\SqL X.K H p (ks.map kV)/\ks.length<4000/\∀n a,n<=ks.length->(n=ks.length↔ks.Nodup)->H a=none->Q (.ref a) (upd H a (SetN a n))):=by
 intro db s U H xs us Q I r h;obtain⟨p,ks,rfl,hq,hl,q⟩:=h;obtain⟨u,rfl,ru⟩:=Vo r;obtain rfl:u=Value.ref p:=ru;obtain⟨its,rv,pl,hz⟩:=I.list hq;have el:=rv.length;rw[fF] at el;refine vy (I.ok.hd hc) pl.isList (fun i v e=>jo rv i v (by simpa using e)) (by simpa using el) (by unfold scanBound;simp;omega) fun h' tk n a1 a2 a3 a4=>?_;refine⟨.ref s.heap.objs.size,_,I.laid a4 (fE _) ?_,rfl,q n _ a2 a3 (I.hok.fresh (fE _))⟩;obtain⟨o,es,ep,t,ho,e1,e2,e3,e4,e5,e6,e7⟩:=a1;refine⟨⟨o,es,ep,t,ho,e1,e2,e6,e7⟩,⟨o,ho⟩,?_⟩;rintro h1 h2 ⟨o1,es1,ep1,t1,b1,b2⟩ k;exact⟨o1,es1,ep1,t1,k _ b1,b2⟩
def call_lenS:Ym X (.builtin "len") (fun xs H Q=>∃a n,xs=[.ref a]/\H a=some (SetN a n)/\n<4000/\Q (.int n) H):=by
 intro db s U H xs us Q I r h;obtain⟨a,n,rfl,ha,hn,q⟩:=h;obtain⟨u,rfl,ru⟩:=Vo r;obtain rfl:u=Value.ref a:=ru;obtain⟨⟨o,es,ep,t,e1,e2,e3,e4,e5⟩,_⟩:=I.hok a _ ha;refine call_len_set e1 e2 e3 e4 (by omega) ?_;exact⟨.int n,H,I.tok _,⟨_,by rw[e5]⟩,q⟩
end
def Z7(ns:List Int):List Int:=ns.mergeSort fun a b=>decide (a<=b)
def XB(ns:List Int):(Z7 ns).Perm ns:=List.mergeSort_perm _ _
def sortI_pw(ns:List Int):(Z7 ns).Pairwise (·<=·):=by
 have h:=List.pairwise_mergeSort (le:=fun a b:Int=>decide (a<=b)) (fun a b c h1 h2=>by simp at *; omega) (fun a b=>by simp;omega) ns;exact h.imp fun h=>by simpa using h
def sortI_eq{ms:List Int}(hp:ms.Perm ns)(hs:ms.Pairwise (·<=·)):ms=Z7 ns:=
 W.ksm_same (hp.trans (XB ns).symm) hs (sortI_pw ns)
def leS(a b:Str):Bool:=!decide (b.cps.toList<a.cps.toList)
def ji(a b c:Str)(h1:leS a b=true)(h2:leS b c=true):leS a c=true:=by
 unfold leS at *;simp only[Bool.not_eq_true',nv,List.not_lt] at *;exact List.le_trans h1 h2
def leS_total(a b:Str):(leS a b||leS b a)=true:=by
 unfold leS;simp only[mO,Bool.not_eq_true',nv,List.not_lt];exact List.le_total _ _
def leS_anti{a b:Str}(h1:leS a b=true)(h2:leS b a=true):a=b:=by
 unfold leS at *;simp only[Bool.not_eq_true',nv,List.not_lt] at *;have e:=List.le_antisymm h1 h2;cases a;cases b;simp only[Str.mk.injEq];exact Array.toList_inj.mp e
def X5(ss:List Str):List Str:=ss.mergeSort leS
def qx(ss:List Str):(X5 ss).Perm ss:=List.mergeSort_perm _ _
def sortS_pw(ss:List Str):(X5 ss).Pairwise (fun a b=>leS a b=true):=List.pairwise_mergeSort (le:=leS) ji leS_total ss
def sortS_eq{ss ts:List Str}(hp:ts.Perm ss)(hs:ts.Pairwise fun a b=>leS a b=true):ts=X5 ss:=
 (hp.trans (qx ss).symm).eq_of_pairwise (fun x y _ _ h1 h2=>leS_anti h1 h2) hs (sortS_pw ss)
def ja:∀(l:List Str) (p:Str),risingS p l=true->(∀y∈l,leS p y=true)/\l.Pairwise fun a b=>leS a b=true
 |[],_,_=>⟨fun _ h=>(nomatch h),.nil⟩
 |x::r,p,h=>by
  have h':(!ltCps x.cps.toList p.cps.toList&&risingS x r)=true:=h;rw[gv] at h';have hx:leS p x=true:=by
   have:=h'.1;rw[ltCps_eq] at this;exact this
  obtain⟨a,b⟩:=ja r x h'.2;refine⟨fun y hy=>?_,.cons (fun y hy=>a y hy) b⟩;rcases fQ.mp hy with rfl|hy
  ·exact hx
  ·exact ji _ _ _ hx (a y hy)
def J6{l:List Str}(h:sortedS l=true):l.Pairwise fun a b=>leS a b=true:=by
 cases l with
 |nil=>exact .nil
 |cons x r=>
  obtain⟨a,b⟩:=ja r x h;exact .cons a b
def xD:∀{ss:List Str}{us:List Value},ZK (ss.map V.str) us->StrsAre us ss
 |[],_,.nil=>.nil
 |x::r,_,.cons a b=>by
  obtain⟨t,rfl⟩:=a;exact .cons x t (xD b)
def je:∀{ss:List Str}{us:List Value},StrsAre us ss->ZK (ss.map V.str) us
 |_,_,.nil=>.nil
 |_,_,.cons y t r=>.cons ⟨t,rfl⟩ (je r)
def xk:∀{ns:List Int}{us:List Value},IntsAre us ns->ZK (ns.map V.int) us
 |_,_,.nil=>.nil
 |_,_,.cons n t r=>.cons ⟨t,rfl⟩ (xk r)
def xw:∀{bs:List Bool}{us:List Value},ZK (bs.map V.bl) us->∀(i:Nat) v,us[i]?=some v->∃b,bs[i]?=some b/\v=.bool b
 |[],_,.nil,i,v,h=>by simp at h
 |b::r,_,.cons a c,0,v,h=>by simp at h;subst h;exact⟨b,rfl,a⟩
 |b::r,_,.cons a c,i+1,v,h=>by
  obtain⟨b',e,q⟩:=xw c i v (by simpa using h);exact⟨b',by simpa using e,q⟩
def jx:Ym X (.builtin "sorted") (fun xs H Q=>∃(p:Addr) (ns:List Int),xs=[.ref p]/\SqL X.K H p (ns.map V.int)/\ns.length<64/\∀l,H l=none->Q (.ref l) (upd H l (.lst ((Z7 ns).map V.int)))):=by
 intro db s U H xs us Q I r h;obtain⟨p,ns,rfl,hq,hl,q⟩:=h;obtain⟨u,rfl,ru⟩:=Vo r;obtain rfl:u=Value.ref p:=ru;obtain⟨its,rv,pl,hz⟩:=I.list hq;have el:=rv.length;rw[fF] at el;refine sorted_ints pl.isList (Ko rv) (by omega) fun out ms a1 a2 a3=>?_;obtain rfl:=sortI_eq a2 a3;obtain⟨e,he⟩:=sortedAll_at s.heap its out;have hlen:((Z7 ns).map V.int).length<=sizeLine:=by rw[fF,(XB ns).length_eq,<- fF (f:=V.int)];exact hz
 have ne:H (s.heap.objs.size+1)=none:=I.hok.fresh (iN _);exact⟨.ref (s.heap.objs.size+1),_,I.laid (o:=.lst ((Z7 ns).map V.int)) (t':=s.toks) (fun b o z=>sortedAll_old z) (iN _) ⟨hlen,out.toList,e,xk a1,by simpa using he⟩,rfl,q _ ne⟩
def kG:Ym X (.builtin "sorted") (fun xs H Q=>∃(p:Addr) (ss:List Str),xs=[.ref p]/\SqL X.K H p (ss.map V.str)/\ss.length<64/\∀l,H l=none->Q (.ref l) (upd H l (.lst ((X5 ss).map V.str)))):=by
 intro db s U H xs us Q I r h;obtain⟨p,ns,rfl,hq,hl,q⟩:=h;obtain⟨u,rfl,ru⟩:=Vo r;obtain rfl:u=Value.ref p:=ru;obtain⟨its,rv,pl,hz⟩:=I.list hq;have el:=rv.length;rw[fF] at el;refine sorted_strs pl.isList (xD rv) (by omega) fun out ms a1 a2 a3=>?_;obtain rfl:=sortS_eq a2 (J6 a3);obtain⟨e,he⟩:=sortedAll_at s.heap its out;have hlen:((X5 ns).map V.str).length<=sizeLine:=by rw[fF,(qx ns).length_eq,<- fF (f:=V.str)];exact hz
 have ne:H (s.heap.objs.size+1)=none:=I.hok.fresh (iN _);exact⟨.ref (s.heap.objs.size+1),_,I.laid (o:=.lst ((X5 ns).map V.str)) (t':=s.toks) (fun b o z=>sortedAll_old z) (iN _) ⟨hlen,out.toList,e,je a1,by simpa using he⟩,rfl,q _ ne⟩
def rSorted(K:W.Frag):List V->Hp->VK->Prop:=fun xs H Q=>(∃(p:Addr) (ss:List Str),xs=[.ref p]/\SqL K H p (ss.map V.str)/\ss.length<64/\∀l,H l=none->Q (.ref l) (upd H l (.lst ((X5 ss).map V.str))))\/(∃(p:Addr) (ns:List Int),xs=[.ref p]/\SqL K H p (ns.map V.int)/\ns.length<64/\∀l,H l=none->Q (.ref l) (upd H l (.lst ((Z7 ns).map V.int))))
def JB:Ym X (.builtin "sorted") (rSorted X.K):=kG.or jx
def range_all{bs:List Bool}:((List.range bs.length).all fun i=>(bs[i]?).getD true)=bs.all id:=by
 induction bs with
 |nil=>rfl
 |cons b r ih=>
  rw[gH,List.range_succ_eq_map,lT,List.all_map,lT,<- ih];rfl
def call_all(hc:X.calm=true):Ym X (.builtin "all") (fun xs H Q=>∃(p:Addr) (bs:List Bool),xs=[.ref p]/\SqL X.K H p (bs.map V.bl)/\Q (.bl (bs.all id)) H):=by
 intro db s U H xs us Q I r h;obtain⟨p,bs,rfl,hq,q⟩:=h;obtain⟨u,rfl,ru⟩:=Vo r;obtain rfl:u=Value.ref p:=ru;obtain⟨its,rv,pl,hz⟩:=I.list hq;have el:=rv.length;rw[fF] at el;have hlt:p<s.heap.objs.size:=by obtain⟨_,e,_⟩:=pl.isList;exact fN e
 refine call_all_walk (nh pl.isList ?_);refine⟨s.heap.objs.size,[s.heap.objs.size,p],[s.heap.objs.size],its.toArray.size,_,_,fun i=>(bs[i]?).getD true,rfl,Walks.list (A:=X.A.in1) (by simpa using I.ok.hd hc) _ p (fP hlt) its.toArray,
  ⟨⟨_,ge _ rfl,rfl,rfl⟩,pl.isList.push _⟩,fun i v s' Q' E' hP hQ=>?_,fun h' tk hk=>?_⟩
 ·obtain⟨b,e,rfl⟩:=xw rv i v (by simpa using hP);simp only[e,Option.getD_some] at hQ;exact iA hQ
 ·rw[fV,<- el,range_all];exact⟨.bl _,H,I.kept fun b o e=>hk b o (by simpa using fP (fN e)) (fM _ e),rfl,q⟩
def xu:Ym X (.type "range") (fun xs H Q=>∃j:Int,xs=[.int j]/\∀p,H p=none->Q (.ref p) (upd H p (.rng 0 j))):=by
 intro db s U H xs us Q I r h;obtain⟨j,rfl,q⟩:=h;obtain⟨u,rfl,ru⟩:=Vo r;obtain⟨t,rfl⟩:=(show ∃t,u=Value.int j t from ru);refine call_range_1 ?_;exact⟨.ref s.heap.objs.size,_,I.laid (o:=.rng 0 j) (fun b o e=>fM _ e) (fE _) ⟨_,_,_,ge _ rfl⟩,rfl,q _ (I.hok.fresh (fE _))⟩
def upTo(n:Int):List Int:=(List.range n.toNat).map fun(k:Nat)=>(k:Int)
def JY{lo:Int}(h:ItemsOf (fun i v=>∃t,v=.int (lo+i*1) t) its.toArray n):ZK ((List.range n).map fun(k:Nat)=>V.int (lo+(k:Int))) its:=by
 obtain⟨h1,h2⟩:=h;rw[fV] at h1
 induction its generalizing n lo with
 |nil=>simp at h1;subst h1;exact .nil
 |cons u r ih=>
  cases n with
  |zero=>simp at h1
  |succ n=>
   rw[List.range_succ_eq_map,fZ,gS];obtain⟨t,e⟩:=h2 0 u (by simp);refine .cons ⟨t,by rw[e];simp⟩ ?_;have:=ih (n:=n) (lo:=lo+1) (by simpa using h1) (fun j v hj=>by
    obtain⟨t,e⟩:=h2 (j+1) v (by simpa using hj);exact⟨t,by rw[e];congr 1;push_cast;omega⟩)
   refine(show ZK _ r from ?_);have e2:(List.range n).map (fun(k:Nat)=>V.int (lo+1+(k:Int)))=(List.range n).map ((fun(k:Nat)=>V.int (lo+(k:Int)))∘Nat.succ):=by
    apply mw;intro k _;simp only[Function.comp]
    congr 1
    push_cast
    omega
   rw[<- e2];exact this
def ve(hc:X.calm=true):Ym X (.type "list") (fun xs H Q=>∃(p:Addr) (j:Int),xs=[.ref p]/\H p=some (.rng 0 j)/\0<=j/\j<=1000000/\∀l,H l=none->Q (.ref l) (upd H l (.lst ((upTo j).map V.int)))):=by
 intro db s U H xs us Q I r h;obtain⟨p,j,rfl,hp,h0,h1,q⟩:=h;obtain⟨u,rfl,ru⟩:=Vo r;obtain rfl:u=Value.ref p:=ru;obtain⟨t,u,v,e⟩:=I.hok p _ hp;refine call_list_range (a:=0) (b:=j) (c:=1) (n:=j.toNat) (I.ok.hd hc) e (small_one (by omega) (by omega) (by omega) (by omega)) (by rw[rangeSize_one];split<;>omega) (by omega) fun h' tk acc c' hk he hi=>?_;have hv:ZK ((upTo j).map V.int) acc.toList:=by
  have:=JY (its:=acc.toList) (n:=j.toNat) (lo:=0) (by simpa using hi);unfold upTo;rw[gS];have e2:(List.range j.toNat).map (fun(k:Nat)=>V.int (0+(k:Int)))=(List.range j.toNat).map (V.int∘fun(k:Nat)=>(k:Int)):=by
   apply mw;intro k _;simp
  rw[<- e2];exact this
 have hz:((upTo j).map V.int).length<=sizeLine:=by unfold upTo;rw[fF,fF,gp,fJ];omega
 exact⟨.ref s.heap.objs.size,_,I.laid (o:=.lst ((upTo j).map V.int)) hk (fE _) ⟨hz,acc.toList,c',hv,by simpa using he⟩,rfl,q _ (I.hok.fresh (fE _))⟩
def tRev(K:W.Frag)(te:TE)(ts:TO):TE:=fun U H Q=>te U H fun x H1=>ts U H1 fun k H2=>∃a xs,x=.ref a/\k=some (-1)/\SqL K H2 a xs/\∀p,H2 p=none->Q (.ref p) (upd H2 p (.lst xs.reverse))
def pe_rev{st:Expr}{ts:TO}(he:PE X e te)(hs:PO X (some st) ts):PE X (.Subscript e (.Slice none none (some st) p2) pos) (tRev X.K te ts):=by
 intro db s U H Q I h;refine Subscript_ (thn (he db s U H _ I h) fun v s1 ⟨x,H1,I1,r1,q1⟩=>?_);refine wpAny_Slice ?_;rw[evalPart_none];refine fI (fI (thn (hs db s1 U H1 _ I1 q1) fun vk s3 ⟨k,H3,I3,pk,q3⟩=>?_));obtain⟨a,xs,rfl,rfl,hq,q⟩:=q3;obtain rfl:v=Value.ref a:=r1;obtain⟨its,r,ht,hz⟩:=I3.list hq;have hlen:=r.length;have I4:Inv X db U H3 { s3 with heap:=s3.heap.push { cls:=.type "slice",data:=.fields #[.none,.none,vk] } }:=I3.kept (t':=s3.toks) fun b ob q=>fM _ q;obtain⟨its4,r4,ht4,hz4⟩:=I4.list hq;have hlen4:=r4.length
 show wpAny (model X.prog X.w) X.A (subscriptTail e (.Slice none none (some st) p2) (.ref a) (.ref s3.heap.objs.size)) (EP X db U Q) X.xe { s3 with heap:=s3.heap.push { cls:=.type "slice",data:=.fields #[.none,.none,vk] } }
 refine tail_any (ops:=[.ref a,.ref s3.heap.objs.size]) ht4.isList.typeIs slot_list_getitem.lookup ?_ (by with_unfolding_all rfl);refine wpAny_getItem_list_slice ht4.isList (Heap.IsSliceOf.new ..) .none .none pk (by simp) ?_ (by rw[fV]<;>omega);rw[W.krv_pick];refine⟨.ref _,_,I4.laid (t':=s3.toks) (o:=.lst xs.reverse) (fun b ob q=>fM _ q) (fE _) ?_,rfl,q _ (I4.hok.fresh (fE _))⟩;exact⟨by rw[iE];exact hz,its4.reverse,0,r4.reverse,ge _ rfl⟩
mutual
inductive Dp(K:W.Frag)(H:Hp):V->PyData->Prop
 |non:Dp K H .non .none
 |bl (b:_):Dp K H (.bl b) (.bool b)
 |int (i:_):Dp K H (.int i) (.int i)
 |str (x:_):Dp K H (.str x) (.str x)
 |lst {a xs ds}:SqL K H a xs->XS K H xs ds->Dp K H (.ref a) (.list ds)
 |tup {a xs ds}:SqT K H a xs->XS K H xs ds->Dp K H (.ref a) (.tuple ds)
inductive XS(K:W.Frag)(H:Hp):List V->List PyData->Prop
 |nil:XS K H [] []
 |cons {v d vs ds}:Dp K H v d->XS K H vs ds->XS K H (v::vs) (d::ds)
end
mutual
def Dp.reads(I:Inv X db U H s):∀{v:V}{d:PyData}{u:Value},Dp X.K H v d->ZU v u->∃as,Reads s.heap u d as
 |_,_,u,.non,r=>by cases (show u=Value.none from r);exact⟨_,.none⟩
 |_,_,u,.bl b,r=>by cases (show u=Value.bool b from r);exact⟨_,.bool b⟩
 |_,_,u,.int i,r=>by obtain⟨t,e⟩:=(show ∃t,u=Value.int i t from r);cases e;exact⟨_,.int i t⟩
 |_,_,u,.str x,r=>by obtain⟨t,e⟩:=(show ∃t,u=Value.str x t from r);cases e;exact⟨_,.str x t⟩
 |_,_,u,.lst (a:=a) h hs,r=>by
  cases (show u=Value.ref a from r);obtain⟨its,rv,pl,_⟩:=I.list h;obtain⟨o,ho,hc,n,hd⟩:=pl.isList;obtain⟨as,q⟩:=XS.reads I hs rv;exact⟨_,.list ho hc hd (by simpa using q)⟩
 |_,_,u,.tup (a:=a) h hs,r=>by
  cases (show u=Value.ref a from r);obtain⟨its,rv,⟨o,ho,hc,n,hd⟩,_⟩:=I.tuple h;obtain⟨as,q⟩:=XS.reads I hs rv;exact⟨_,.tuple ho hc hd (by simpa using q)⟩
def XS.reads(I:Inv X db U H s):∀{vs:List V}{ds:List PyData}{us:List Value},XS X.K H vs ds->ZK vs us->∃as,ReadsAll s.heap us ds as
 |_,_,_,.nil,.nil=>⟨_,.nil⟩
 |_,_,_,.cons h hs,.cons r rs=>by
  obtain⟨as,a⟩:=h.reads I r;obtain⟨bs,b⟩:=hs.reads I rs;exact⟨_,.cons a b⟩
end
inductive rEqD_R(K:W.Frag)(neg:Bool)(x:V)(y:V)(H:Hp)(Q:VK):Prop
 |mk (d:_) (e:_) (h0:Dp K H x d) (h1:Dp K H y e) (h2:d.canLay0=true) (h3:e.canLay0=true) (h4:d.depth<=60) (h5:Q (.bl (if neg then !PyData.eqv d e else PyData.eqv d e)) H):rEqD_R K neg x y H Q
def rEqD(K:W.Frag)(neg:Bool):R2:=fun x y H Q=>rEqD_R K neg x y H Q
def op_eqD(hu:X.A.units+64<cLine):OpR X (compareOp .Eq) (rEqD X.K false):=by
 intro db s U H x y u v Q I rx ry h;obtain⟨d,e,hx,hy,c1,c2,dp,q⟩:=h;obtain⟨as,a⟩:=hx.reads I rx;obtain⟨bs,b⟩:=hy.reads I ry;exact SeqAt.compareEq_reads a b c1 c2 (by omega) ⟨.bl _,H,I,rfl,q⟩
def op_neD(hu:X.A.units+64<cLine):OpR X (compareOp .NotEq) (rEqD X.K true):=by
 intro db s U H x y u v Q I rx ry h;obtain⟨d,e,hx,hy,c1,c2,dp,q⟩:=h;obtain⟨as,a⟩:=hx.reads I rx;obtain⟨bs,b⟩:=hy.reads I ry;exact SeqAt.compareNe_reads a b c1 c2 (by omega) ⟨.bl _,H,I,rfl,q⟩
inductive rIsi_R(K:W.Frag)(T:String)(xs:List V)(H:Hp)(Q:VK):Prop
 |mk (x:_) (t:_) (b:_) (h0:xs=[x,.ty T]) (h1:Ux K H x t) (h2:W.kitOne K t (.type T)=some b) (h3:Q (.bl b) H):rIsi_R K T xs H Q
def rIsi(K:W.Frag)(T:String):List V->Hp->VK->Prop:=fun xs H Q=>rIsi_R K T xs H Q
def call_isi(T:String):Ym X (.builtin "isinstance") (rIsi X.K T):=by
 intro db s U H xs us Q I r h;obtain⟨x,t,b,rfl,ht,hk,q⟩:=h;obtain⟨u,v,rfl,ru,rv⟩:=vals2 r;obtain rfl:v=Value.type T:=rv;exact vX I ru ht hk fun tk=>⟨.bl b,H,I.tok _,rfl,q⟩
example (K:W.Frag):W.kitOne K (.type "int") (.type "list")=some false:=by rfl
example (K:W.Frag):W.kitOne K (.type "bool") (.type "int")=some true:=by rfl
def New(H H':Hp):Hp:=fun b=>if(H b).isSome=true then none else H' b
def hide(D:Addr)(H:Hp):Hp:=fun b=>if b=D then none else H b
def New.of{b:Addr}(h:New H H' b=some o):H b=none/\H' b=some o:=by
 unfold New at h
 split at h
 ·cases h
 ·rename_i q
  refine⟨?_,h⟩;cases e:H b with
  |none=>rfl
  |some u=>rw[e] at q;exact absurd rfl q
def New.mk{b:Addr}(h:H b=none)(h':H' b=some o):New H H' b=some o:=by
 unfold New;rw[h];exact h'
def Zi(h:H p=none):Ze H (upd H p o):=fun b u e=>by rw[Zx (ZT e h)];exact e
def Wz:Ze (hide D H) H:=fun b o h=>by
 unfold hide at h
 split at h
 ·cases h
 ·exact h
def zy{b:Addr}(h:hide D H b=some o):b≠D/\H b=some o:=by
 unfold hide at h
 split at h
 ·cases h
 ·rename_i q;exact⟨q,h⟩
def Xw{b:Addr}(n:b≠D)(h:H b=some o):hide D H b=some o:=by
 unfold hide;rw[if_neg n];exact h
def Zs(D:Addr)(H H':Hp):Prop:=∀b o,b≠D->H b=some o->H' b=some o
def Ze.x(h:Ze H H'):Zs D H H':=fun b o _ e=>h b o e
def Zs.refl(H:Hp):Zs D H H:=fun _ _ _ e=>e
def Zs.trans(a:Zs D H H1)(b:Zs D H1 H2):Zs D H H2:=fun c o n e=>b c o n (a c o n e)
def Zs.upd{D:Addr}{H H':Hp}{o:HO}(a:Zs D H H'):Zs D H (upd H' D o):=fun c u n e=>by rw[Zx n];exact a c u n e
def Zs.same(a:Zs D H H')(h:H D=none):Ze H H':=fun c u e=>a c u (ZT e h) e
def Ze.seqT{a:Addr}{xs:List V}(e:Ze H H')(h:SqT K H a xs):SqT K H' a xs:=by
 rcases h with(h|⟨o,h⟩)|h
 ·exact .inl (.inl (e _ _ h))
 ·exact .inl (.inr ⟨o,e _ _ h⟩)
 ·exact .inr h
def JH{g:TG}{Q:VK}(Pv:Nat->St->Hp->Prop)(h0:Pv 0 σ0 (upd H0 D (.lst [])))
  (hgo:∀i U H,i<n->Pv i U H->J.go i H) (hst:∀U H,Pv n U H->J.stop n H)
  (hs:∀i x U H H2,i<n->Pv i U H->J.yld i H x H2->∀(N:V->St->Hp->Prop) (N0:St->Hp->Prop),(∀v σ2 H5 ys,H5 D=some (.lst ys)->ys.length<sizeLine->Pv (i+1) σ2 (upd H5 D (.lst (ys++[v])))->N v σ2 H5)->(∀σ2 H4,Pv (i+1) σ2 H4->N0 σ2 H4) ->
   g x U H2 fun σ2 H3=>tt σ2 H3 fun c H4=>if c=true then te σ2 H4 fun v H5=>N v σ2 H5 else N0 σ2 H4)
  (hd:∀U H,Pv n U H->Q (.ref D) H) :
  CompW J D g tt te σ0 H0 Q:=by
 refine⟨fun i m U H=>m=n-i/\i<=n/\Pv i U H,⟨n,by simp,gB _,h0⟩,?_⟩;rintro i m U H ⟨rfl,hi,p⟩
 by_cases hlt:i<n
 ·refine .inr ⟨hgo i U H hlt p,fun v σ2 H5=>∃ys,H5 D=some (.lst ys)/\ys.length<sizeLine/\Pv (i+1) σ2 (upd H5 D (.lst (ys++[v]))),fun σ2 H4=>Pv (i+1) σ2 H4,?_,?_,?_⟩
  ·rintro v σ2 H5 ⟨ys,a,b,c⟩;exact⟨ys,a,b,n-(i+1),by omega,rfl,hlt,c⟩
  ·intro σ2 H4 q;exact⟨n-(i+1),by omega,rfl,hlt,q⟩
  ·intro x H2 y;exact hs i x U H H2 hlt p y _ _ (fun v σ2 H5 ys a b c=>⟨ys,a,b,c⟩) fun _ _ q=>q
 ·have e:i=n:=by omega
  subst e;exact .inl ⟨hst U H p,hd U H p⟩
def comp_map{a:Addr}{xs:List V}{Q:VK}(hD:H0 D=none)(hq:SqL K H0 a xs)(hz:xs.length<=sizeLine)(R:Nat->V->Hp->Prop)(mono:∀i v H H',Ze H H'->R i v H->R i v H')
  (step:∀i x H (N:V->Hp->Prop),xs[i]?=some x->Ze H0 H->(∀v H4,Ze H H4->R i v (New H H4)->N v H4)->te (some x::τ) H N)
  (fin:∀H' ys,H' D=some (.lst ys)->Ze H0 H'->ys.length=xs.length->(∀i v,ys[i]?=some v->R i v (New H0 H'))->Q (.ref D) H') :
  CompW (Itl K a) D (VR 0) xJ te (none::τ) H0 Q:=by
 refine JH (n:=xs.length) (fun i U H=>∃z ys,U=z::τ/\H D=some (.lst ys)/\ys.length=i/\Ze H0 H/\∀j v,ys[j]?=some v->R j v (hide D (New H0 H))) ?_ ?_ ?_ ?_ ?_
 ·exact⟨none,[],rfl,Zd,rfl,Zi hD,fun j v e=>by simp at e⟩
 ·rintro i U H hi ⟨z,ys,rfl,_,_,s,_⟩;exact⟨xs,xs[i],s.seq hq,by simp[hi]⟩
 ·rintro U H ⟨z,ys,rfl,_,_,s,_⟩;exact⟨xs,s.seq hq,fE _⟩
 ·rintro i x U H H2 hi ⟨z,ys,rfl,hy,hl,s,r⟩ ⟨rfl,hx⟩ N N0 hN hN0
  show te (some x::τ) H2 _
  refine step i x H2 _ (hx xs (s.seq hq)) s fun v H4 s4 r4=>?_;refine hN v _ H4 ys (s4 _ _ hy) (by omega) ⟨some x,ys++[v],rfl,Zd,by rw[fK,gG,hl],?_,?_⟩
  ·exact(Zs.upd (Ze.x (s.trans s4))).same hD
  ·intro j w e
   by_cases hj:j<ys.length
   ·rw[gm hj] at e;refine mono j w _ _ ?_ (r j w e);intro b o hb;obtain⟨nb,hb⟩:=zy hb;obtain⟨h1,h2⟩:=New.of hb;exact Xw nb (New.mk h1 (by rw[Zx nb];exact s4 _ _ h2))
   ·have ej:j=ys.length:=by
     have:=(fO.mp e).1;rw[fK,gG] at this;omega
    subst ej;simp at e;subst e;rw[hl];refine mono i v _ _ ?_ r4;intro b o hb;obtain⟨h1,h2⟩:=New.of hb;have nb:b≠D:=fun z=>by subst z;rw[hy] at h1;cases h1
    exact Xw nb (New.mk (s.free h1) (by rw[Zx nb];exact h2))
 ·rintro U H ⟨z,ys,rfl,hy,hl,s,r⟩;exact fin H ys hy s hl fun i v e=>mono i v _ _ Wz (r i v e)
def rLen(K:W.Frag):List V->Hp->VK->Prop:=fun xs H Q=>(∃p ys,xs=[.ref p]/\(SqL K H p ys\/SqT K H p ys)/\Q (.int ys.length) H)\/((∃z,xs=[.str z]/\z.length<=sizeLine/\Q (.int z.length) H)\/∃a n,xs=[.ref a]/\H a=some (SetN a n)/\n<4000/\Q (.int n) H)
def call_lenA:Ym X (.builtin "len") (rLen X.K):=jM.or (jI.or call_lenS)
def rListA(K:W.Frag):List V->Hp->VK->Prop:=fun xs H Q=>(∃p ys,xs=[.ref p]/\(SqL K H p ys\/SqT K H p ys)/\∀l,H l=none->Q (.ref l) (upd H l (.lst ys)))\/(∃(p:Addr) (j:Int),xs=[.ref p]/\H p=some (.rng 0 j)/\0<=j/\j<=1000000/\∀l,H l=none->Q (.ref l) (upd H l (.lst ((upTo j).map V.int))))
def Km(hc:X.calm=true):Ym X (.type "list") (rListA X.K):=j8.or (ve hc)
def yc{x:Str}(hg:Gl X x)(h:∃u,X.mg x=some u/\ZU v u)(hd:(x==("__debug__" : Str))=false:=by decide):PE X (.Name x pos) (tC v):=by
 obtain⟨u,hm,r⟩:=h;exact pe_glob hg hm r hd
def ZO(sc:Scope)(N Nc:List Str)(ix:List (Option Nat))(scope:Scope):Bool:=
 decide (scope.kind=.function)&&scope.names.all (fun y=>decide (y.2≠.cell))&&scope.names.all (fun y=>decide (y.2=.local->scope.names.lookup y.1=some .local)) &&
 scope.names.all (fun y=>decide (y.2=.free->sc.names.lookup y.1=some .cell\/sc.names.lookup y.1=some .free))&&decide (ix.length=Nc.length) &&
 (ix.zip Nc).all fun p=>match p.1 with|none=>true|some j=>N[j]?==some p.2&&scope.names.lookup p.2==some .free
def ZJ.of(h:ZO sc N Nc ix scope=true):ZJ sc N Nc ix scope:=by
 unfold ZO at h;simp only[gv] at h;obtain⟨⟨⟨⟨⟨h1,h2⟩,h3⟩,h4⟩,h5⟩,h6⟩:=h;exact⟨gi h1,fun y hy=>gi (g9.mp h2 y hy),fun y hy=>gi (g9.mp h3 y hy),fun y hy=>gi (g9.mp h4 y hy),gi h5,h6⟩
def Its(x:Str):It:=⟨fun i _=>i<x.cps.size,fun i H v H'=>H'=H/\∃c,x.cps[i]?=some c/\v=.str ⟨#[c]⟩,fun i _=>x.cps.size<=i⟩
def turn_str{it:Addr}{x:Str}{t:Tok}{ty:String}
  (hty:["enumerate","zip","dict_itemiterator","dict_reverseitemiterator","odict_iterator","itertools.zip_longest","itertools.pairwise"].contains ty=false)
  (W:∀A':Around,A'.handled=none->Walks P w A' it [it] [it] x.cps.size (SignAt x) (fun i h=>h.IsStrIter it ty x t i))
  (self:∀(A:Around) (i:Nat) (s:Shared) (Q:Value->Shared->Prop) (E:Value->Shared->Prop),s.heap.IsStrIter it ty x t i->Q (.ref it) s->wpAny (model P w) A (pyIter (.ref it)) Q E s) :
  Turn P w K tg (Its x) [it] it (fun i h=>i<=x.cps.size/\h.IsStrIter it ty x t i) where
 mem:=by simp
 obj:=fun i h st b hb=>by
  have e:b=it:=by simpa using hb
  subst e;obtain⟨_,o,e,c,d⟩:=st;exact⟨o,e,fun v z=>by rw[d] at z;cases z⟩
 keep:=fun i h h' st k=>by
  obtain⟨l,o,e,c,d⟩:=st;exact⟨l,o,k it (by simp) o e,c,d⟩
 item:=by
  intro X hP hw hK hc i db s U H E I hf st hg;subst hP hw hK;obtain⟨f0,f1,f2,f3,f4,f5⟩:=hf it (by simp);refine(W X.A (I.ok.hd hc)).item i s _ _ hg st.2 fun v h' tk hv st' kk=>?_;obtain⟨c,u,hcx,rfl⟩:=hv;have I1:L2.Inv X db U H { s with heap:=h',toks:=tk }:=I.turned (fun b o hb e=>kk b o (by simpa using hb) e) f0 f1 f3 f4 f5;obtain⟨o,e,oc,od⟩:=id st';exact⟨_,rfl,go_of (s:={ s with heap:=h',toks:=tk }) e oc od hty ⟨.str ⟨#[c]⟩,H,I1,⟨u,rfl⟩,⟨rfl,c,hcx,rfl⟩,⟨hg,st'⟩,fun b hb=>(hf b hb).1⟩⟩
 done:=by
  intro X hP hw hK hc i db s U H E I hf st hg;subst hP hw hK;obtain⟨f0,f1,f2,f3,f4,f5⟩:=hf it (by simp);have e:i=x.cps.size:=Nat.le_antisymm st.1 hg;subst e;exact(W X.A (I.ok.hd hc)).done s _ _ st.2 fun h' tk kk=>⟨rfl,I.turned (fun b o hb e=>kk b o (by simpa using hb) e) f0 f1 f3 f4 f5⟩
 self:=fun A i s Q E st h=>self A i s Q E st.2 h
def iStr(tl:TE):TI:=fun U H R=>tl U H fun v H1=>∃x,v=.str x/\R (Its x) H1
def pi_str{l:Expr}(hl:PE X l tl):PI X tg l (iStr tl):=by
 intro db s U H R I h;refine thn (hl db s U H _ I h) fun v s1 ⟨y,H1,I1,r1,x,e,q⟩=>?_;subst e;obtain⟨t,rfl⟩:=(show ∃t,v=Value.str x t from r1);have fin:∀(ty:String),["enumerate","zip","dict_itemiterator","dict_reverseitemiterator","odict_iterator","itertools.zip_longest","itertools.pairwise"].contains ty=false ->
   (∀A':Around,A'.handled=none->Walks X.prog X.w A' s1.heap.objs.size [s1.heap.objs.size] [s1.heap.objs.size] x.cps.size (SignAt x) (fun i h=>h.IsStrIter s1.heap.objs.size ty x t i)) ->
   (∀(A:Around) (i:Nat) (s:Shared) (Q:Value->Shared->Prop) (E:Value->Shared->Prop),s.heap.IsStrIter s1.heap.objs.size ty x t i->Q (.ref s1.heap.objs.size) s->wpAny (model X.prog X.w) A (pyIter (.ref s1.heap.objs.size)) Q E s) ->
   PIE X db U tg R (.ref s1.heap.objs.size) { s1 with heap:=s1.heap.push { cls:=.type ty,data:=.fields #[.str x t,.int 0 0] } }:=fun ty h1 h2 h3=>by
  refine⟨s1.heap.objs.size,[s1.heap.objs.size],_,_,H1,rfl,I1.kept (t':=s1.toks) fun b o e=>fM _ e,turn_str h1 h2 h3,⟨gB _,_,ge _ rfl,rfl,rfl⟩,fun b hb=>?_,q⟩;have e:b=s1.heap.objs.size:=by simpa using hb
  subst e;exact I1.fpOk (fE _) (I1.hok.fresh (fE _))
 cases ha:x.cps.all (·<128)
 ·exact wpAny_pyIter_wide ha (fin "str_iterator" (by decide) (fun A' hA=>Walks.strWide hA _ x t) fun _ _ _ _ _ st h=>wpAny_pyIter_striter_wide st h)
 ·exact wpAny_pyIter_ascii ha (fin "str_ascii_iterator" (by decide) (fun A' hA=>Walks.strAscii hA _ x t) fun _ _ _ _ _ st h=>wpAny_pyIter_striter_ascii st h)
def Zu(hK:X.K=K):Ym X (.builtin "len") (rLen K):=by subst hK;exact call_lenA
def VX(hK:X.K=K):Ym X (.builtin "sorted") (rSorted K):=by subst hK;exact JB
def rAll(K:W.Frag):List V->Hp->VK->Prop:=fun xs H Q=>∃(p:Addr) (bs:List Bool),xs=[.ref p]/\SqL K H p (bs.map V.bl)/\Q (.bl (bs.all id)) H
def WX(hK:X.K=K)(hc:X.calm=true):Ym X (.builtin "all") (rAll K):=by subst hK;exact call_all hc
def Yz(hK:X.K=K)(hc:X.calm=true):Ym X (.type "list") (rListA K):=by subst hK;exact Km hc
def rTupleA(K:W.Frag):List V->Hp->VK->Prop:=fun xs H Q=>∃p ys,xs=[.ref p]/\((SqL K H p ys/\∀l,H l=none->Q (.ref l) (upd H l (.tup ys)))\/(SqT K H p ys/\Q (.ref p) H))
def Yj(hK:X.K=K):Ym X (.type "tuple") (rTupleA K):=by subst hK;exact vj
def rSetA(K:W.Frag):List V->Hp->VK->Prop:=fun xs H Q=>∃(p:Addr) (ks:List Key),xs=[.ref p]/\SqL K H p (ks.map kV)/\ks.length<4000/\∀n a,n<=ks.length->(n=ks.length↔ks.Nodup)->H a=none->Q (.ref a) (upd H a (SetN a n))
def vQ(hK:X.K=K)(hc:X.calm=true):Ym X (.type "set") (rSetA K):=by subst hK;exact call_set hc
def Xb(hK:X.K=K)(T:String):Ym X (.builtin "isinstance") (rIsi K T):=by subst hK;exact call_isi T
def Zr(hK:X.K=K):IxR X (rIxL K):=by subst hK;exact ix_list
def ZN(hK:X.K=K):IxR X (rIxT K):=by subst hK;exact ix_tup
def Y0(hK:X.K=K):SlR X (rSlL K):=by subst hK;exact sl_list
def WB(hK:X.K=K):OpR X (compareOp .In) (rIn K false):=by subst hK;exact op_in_seq
def zQ(hK:X.K=K):OpR X (compareOp .NotIn) (rIn K true):=by subst hK;exact j5
def op_eqDK(hK:X.K=K)(hu:X.A.units+64<cLine):OpR X (compareOp .Eq) (rEqD K false):=by subst hK;exact op_eqD hu
def UW(hK:X.K=K)(hu:X.A.units+64<cLine):OpR X (compareOp .NotEq) (rEqD K true):=by subst hK;exact op_neD hu
def ZC{l:Expr}(hK:X.K=K)(hl:PE X l tl):PI X tg l (iList K tl):=by subst hK;exact pi_list hl
def Wm{es:List Expr}{k:Nat}{t:TGs}(hK:X.K=K)(hc:X.calm=true)(h:PGs X es t)
  (hn:(assignEach es X.env).length=n:=by rfl) (hst:(assignEach es X.env).findIdx? (·.1)=none:=by rfl):PG X (.Tuple es k pos) (gTup K n t):=by subst hK;exact pg_tup hc h hn hst
def XU{f:Str}{ta:TE}(hK:X.K=K)(he:PE X e ta)(hb:attributeBase e f X.env (eval e X.env)=eval e X.env):PE X (.Attribute e f pos) (tFld K ta f):=by subst hK;exact pe_fld he hb
def yD{st:Expr}{ts:TO}(hK:X.K=K)(he:PE X e te)(hs:PO X (some st) ts):PE X (.Subscript e (.Slice none none (some st) p2) pos) (tRev K te ts):=by subst hK;exact pe_rev he hs
inductive Kd(H:Hp):V->Prop
 |non:Kd H .non
 |bl (b:Bool):Kd H (.bl b)
 |int (i:Int):Kd H (.int i)
 |str (z:Str) (hz:z.length<=1000):Kd H (.str z)
 |lst {a:Addr}{xs:List V} (e:H a=some (.lst xs)):Kd H (.ref a)
 |tup {a:Addr}{xs:List V} (e:H a=some (.tup xs)):Kd H (.ref a)
 |dK {a:Addr}{kvs:List (Key×V)} (e:H a=some (.dK kvs)):Kd H (.ref a)
def Kd.mono{x:V}(s:Ze H H')(h:Kd H x):Kd H' x:=by
 cases h with
 |non=>exact .non
 |bl b=>exact .bl b
 |int i=>exact .int i
 |str z hz=>exact .str z hz
 |lst e=>exact .lst (s _ _ e)
 |tup e=>exact .tup (s _ _ e)
 |dK e=>exact .dK (s _ _ e)
def Xn(H:Hp)(T:String):V->Bool
 |.bl _=>T == "bool" || T == "int"
 |.int _=>T == "int"
 |.str _=>T == "str"
 |.ref a=>match H a with
  |some (.lst _)=>T == "list"
  |some (.tup _)=>T == "tuple"
  |some (.dK _)=>T == "dict"
  |_=>false
 |_=>false
def isi_rd{x:V}{Q:VK}(hT:T = "int" \/ T = "bool" \/ T = "str" \/ T = "list" \/ T = "tuple")(h:Kd H x)(q:Q (.bl (Xn H T x)) H):rIsi K T [x,.ty T] H Q:=by
 rcases hT with rfl|rfl|rfl|rfl|rfl
 all_goals
  cases h with
  |non=>exact⟨_,_,_,rfl,.non,rfl,q⟩
  |bl b=>exact⟨_,_,_,rfl,.bl b,rfl,q⟩
  |int i=>exact⟨_,_,_,rfl,.int i,rfl,q⟩
  |str z hz=>exact⟨_,_,_,rfl,.str z,rfl,q⟩
  |lst e=>first|exact⟨_,_,false,rfl,.lst e,rfl,by simpa[Xn,e] using q⟩|exact⟨_,_,true,rfl,.lst e,rfl,by simpa[Xn,e] using q⟩
  |tup e=>first|exact⟨_,_,false,rfl,.tup e,rfl,by simpa[Xn,e] using q⟩|exact⟨_,_,true,rfl,.tup e,rfl,by simpa[Xn,e] using q⟩
  |dK e=>first|exact⟨_,_,false,rfl,.dK e,rfl,by simpa[Xn,e] using q⟩|exact⟨_,_,true,rfl,.dK e,rfl,by simpa[Xn,e] using q⟩
def zY(c:Nat):Bool:=decide (97<=c/\c<=122)
def Yf(z:Str):Bool:=decide (1<=z.length)&&decide (z.length<=8)&&z.cps.toList.all zY
def YS:V->Bool
 |.str z=>Yf z
 |_=>false
def j0:V->Bool
 |.int _=>true
 |_=>false
def YL(n:Int):V->Bool
 |.int i=>decide (0<=i)&&decide (i<n)
 |_=>false
def XR(H:Hp):V->Option (List V)
 |.ref a=>match H a with
  |some (.lst xs)=>some xs
  |_=>none
 |_=>none
def YO{a:Addr}{xs:List V}(h:H a=some (.lst xs)):XR H (.ref a)=some xs:=by simp[XR,h]
def qz{x:V}(s:Ze H H')(k:Kd H x):XR H' x=XR H x:=by
 cases k with
 |non=>rfl
 |bl b=>rfl
 |int i=>rfl
 |str z hz=>rfl
 |lst e=>rw[YO e,YO (s _ _ e)]
 |tup e=>simp[XR,e,s _ _ e]
 |dK e=>simp[XR,e,s _ _ e]
def Yc(H:Hp)(x:V):Bool:=match XR H x with
 |some xs=>xs.all YS&&decide xs.Nodup
 |none=>false
def XV(H:Hp)(n:Int)(x:V):Bool:=match XR H x with
 |some xs=>xs.all (YL n)
 |none=>false
def Z2(H:Hp)(n:Int)(x:V):Bool:=match XR H x with
 |some xs=>xs.all (YL n)&&!xs.isEmpty&&decide xs.Nodup
 |none=>false
def KdL(H:Hp)(x:V):Prop:=Kd H x/\∀xs,XR H x=some xs->xs.length<=1000/\∀y∈xs,Kd H y
def KdLL(H:Hp)(x:V):Prop:=Kd H x/\∀xs,XR H x=some xs->xs.length<=1000/\∀y∈xs,KdL H y
def KdL.mono{H H':Hp}{x:V}(s:Ze H H')(h:KdL H x):KdL H' x:=
 ⟨h.1.mono s,fun xs e=>by
  rw[qz s h.1] at e;exact⟨(h.2 xs e).1,fun y hy=>((h.2 xs e).2 y hy).mono s⟩⟩
def U3{x:V}(s:Ze H H')(k:Kd H x):Yc H' x=Yc H x:=by unfold Yc;rw[qz s k]
def UC{x:V}{n:Int}(s:Ze H H')(k:Kd H x):Z2 H' n x=Z2 H n x:=by unfold Z2;rw[qz s k]
def few3:Option (List V)->Bool
 |some fs=>decide (fs.length<=3)
 |none=>false
def Ur(H:Hp)(s w st f:V):Bool:=match XR H s,XR H w with
 |some ss,some ws=>decide (1<=ss.length)&&decide (ss.length<=20)&&decide (ws.length=ss.length)&&ss.all (Yc H)&&ws.all (Z2 H ss.length)&&(Z2 H ss.length st&&(Yc H f&&few3 (XR H f)))
 |_,_=>false
def kV_ne{a b:Key}:kV a≠kV b↔a≠b:=by
 constructor
 ·intro h e;exact h (by rw[e])
 ·intro h e;apply h;cases a<;>cases b<;>simp[kV] at e<;>simp[e]
def nodup_kV(ks:List Key):(ks.map kV).Nodup↔ks.Nodup:=by
 unfold List.Nodup;rw[List.pairwise_map];exact⟨fun h=>h.imp fun q=>kV_ne.mp q,fun h=>h.imp fun q=>kV_ne.mpr q⟩
def yN:∀{xs:List V},xs.all YS=true->∃ks:List Key,xs=ks.map kV
 |[],_=>⟨[],rfl⟩
 |x::r,h=>by
  rw[lT,gv] at h;obtain⟨ks,rfl⟩:=yN h.2;cases x with
  |str z=>exact⟨.inr z::ks,rfl⟩
  |_=>exact absurd h.1 (by simp[YS])
def yV{n:Int}:∀{xs:List V},xs.all (YL n)=true->∃ks:List Key,xs=ks.map kV
 |[],_=>⟨[],rfl⟩
 |x::r,h=>by
  rw[lT,gv] at h;obtain⟨ks,rfl⟩:=yV h.2;cases x with
  |int z=>exact⟨.inl z::ks,rfl⟩
  |_=>exact absurd h.1 (by simp[YL])
def dec_len{m:Nat}{ks:List Key}(hm:m=(ks.map kV).length)(h:n=ks.length↔ks.Nodup):decide (V.int (n:Nat)=V.int (m:Nat))=decide (ks.map kV).Nodup:=by
 have e:(V.int (n:Nat)=V.int (m:Nat))↔(ks.map kV).Nodup:=by
  rw[nodup_kV,<- h];constructor
  ·intro q;have q':((n:Nat):Int)=((m:Nat):Int):=V.int.inj q;rw[fF] at hm;omega
  ·intro q;rw[fF] at hm;rw[q,hm]
 exact my.mpr e
def Vf{α:Type}{f:α->Bool}:∀{xs:List α}{ys:List V},ys.length=xs.length->(∀(i:Nat) v x,ys[i]?=some v->xs[i]?=some x->v=.bl (f x))->ys=(xs.map f).map V.bl
 |[],ys,hl,_=>by simp at hl;subst hl;rfl
 |x::r,[],hl,_=>by simp at hl
 |x::r,y::ys,hl,h=>by
  have e:=h 0 y x rfl rfl;subst e;rw[fZ,fZ,Vf (xs:=r) (ys:=ys) (f:=f) (by simpa using hl) fun i v z h1 h2=>h (i+1) v z (by simpa using h1) (by simpa using h2)]
def xX(f:α->Bool)(xs:List α):(xs.map f).all id=xs.all f:=by
 rw[List.all_map];rfl
def Ji(c:Nat):decide (c∈("abcdefghijklmnopqrstuvwxyz" : Str).cps.toList)=zY c:=by
 have e:("abcdefghijklmnopqrstuvwxyz" : Str).cps.toList=(List.range 26).map (·+97):=by decide +kernel
 rw[e];unfold zY;refine my.mpr ?_;rw[gn];constructor
 ·rintro⟨k,hk,rfl⟩;have:=lQ.mp hk;omega
 ·rintro⟨h1,h2⟩;exact⟨c-97,lQ.mpr (by omega),by omega⟩
def WG(K:W.Frag){x:V}{b:Bool}(hT:T = "int" \/ T = "bool" \/ T = "str" \/ T = "list" \/ T = "tuple")(h:Kd H x)(hb:Xn H T x=b):∃t,Ux K H x t/\W.kitOne K t (.type T)=some b:=by
 obtain⟨y,t,c,e,h1,h2,q⟩:=isi_rd (K:=K) (Q:=fun v _=>v=.bl b) hT h (by rw[hb]);have e1:x=y:=(iQ e).1;have e2:c=b:=V.bl.inj q;subst e1;subst e2;exact⟨t,h1,h2⟩
def kd_str{x:V}(h:Kd H x):(Xn H "str" x=true/\∃z,x=.str z/\z.length<=1000)\/(Xn H "str" x=false/\YS x=false):=by
 cases h with
 |str z hz=>exact .inl ⟨rfl,z,rfl,hz⟩
 |non=>exact .inr ⟨rfl,rfl⟩
 |bl b=>exact .inr ⟨rfl,rfl⟩
 |int i=>exact .inr ⟨rfl,rfl⟩
 |lst e=>exact .inr ⟨by simp[Xn,e],rfl⟩
 |tup e=>exact .inr ⟨by simp[Xn,e],rfl⟩
 |dK e=>exact .inr ⟨by simp[Xn,e],rfl⟩
def UT{x:V}(h:Kd H x):(Xn H "list" x=true/\∃a xs,x=.ref a/\H a=some (.lst xs)/\XR H x=some xs)\/(Xn H "list" x=false/\XR H x=none):=by
 cases h with
 |str z hz=>exact .inr ⟨rfl,rfl⟩
 |non=>exact .inr ⟨rfl,rfl⟩
 |bl b=>exact .inr ⟨rfl,rfl⟩
 |int i=>exact .inr ⟨rfl,rfl⟩
 |lst e=>exact .inl ⟨by simp[Xn,e],_,_,rfl,e,YO e⟩
 |tup e=>exact .inr ⟨by simp[Xn,e],by simp[XR,e]⟩
 |dK e=>exact .inr ⟨by simp[Xn,e],by simp[XR,e]⟩
def LS(H:Hp)(v:V)(ss:List Str):Prop:=∃a,v=.ref a/\H a=some (.lst (ss.map V.str))
def LI(H:Hp)(v:V)(ns:List Int):Prop:=∃a,v=.ref a/\H a=some (.lst (ns.map V.int))
def TS(H:Hp)(v:V)(ss:List Str):Prop:=∃a,v=.ref a/\H a=some (.tup (ss.map V.str))
def TIn(H:Hp)(v:V)(ns:List Int):Prop:=∃a,v=.ref a/\H a=some (.tup (ns.map V.int))
def LL(r:Hp->V->α->Prop)(H:Hp)(v:V)(xs:List α):Prop:=∃a vs,v=.ref a/\H a=some (.lst vs)/\vs.length=xs.length/\∀(i:Nat) v x,vs[i]?=some v->xs[i]?=some x->r H v x
def LT(r:Hp->V->α->Prop)(H:Hp)(v:V)(xs:List α):Prop:=∃a vs,v=.ref a/\H a=some (.tup vs)/\vs.length=xs.length/\∀(i:Nat) v x,vs[i]?=some v->xs[i]?=some x->r H v x
def Mon(r:Hp->V->α->Prop):Prop:=∀H H' v x,Ze H H'->r H v x->r H' v x
def LS.mono:Mon LS:=fun _ _ _ _ s ⟨a,e,h⟩=>⟨a,e,s _ _ h⟩
def LI.mono:Mon LI:=fun _ _ _ _ s ⟨a,e,h⟩=>⟨a,e,s _ _ h⟩
def TS.mono:Mon TS:=fun _ _ _ _ s ⟨a,e,h⟩=>⟨a,e,s _ _ h⟩
def TIn.mono:Mon TIn:=fun _ _ _ _ s ⟨a,e,h⟩=>⟨a,e,s _ _ h⟩
def LL.mono(m:Mon r):Mon (LL r):=fun _ _ _ _ s ⟨a,vs,e,h,l,q⟩=>⟨a,vs,e,s _ _ h,l,fun i v x h1 h2=>m _ _ _ _ s (q i v x h1 h2)⟩
def LT.mono(m:Mon r):Mon (LT r):=fun _ _ _ _ s ⟨a,vs,e,h,l,q⟩=>⟨a,vs,e,s _ _ h,l,fun i v x h1 h2=>m _ _ _ _ s (q i v x h1 h2)⟩
def Zs.hide{p:Addr}{H H':Hp}(s:Zs p H H'):Ze (hide p H) (hide p H'):=fun b o h=>
 let ⟨n,e⟩:=zy h
 Xw n (s b o n e)
structure WD where
 signs:List (List Str)
 ways:List (List Int)
 starts:List Int
 fair:List Str
structure Wf(H:Hp)(s w st f:V)(d:WD):Prop where
 s:LL LS H s d.signs
 w:LL LI H w d.ways
 st:LI H st d.starts
 f:LS H f d.fair
def Wf.mono{H H':Hp}{s w st f:V}{d:WD}(e:Ze H H')(h:Wf H s w st f d):Wf H' s w st f d:=
 ⟨LL.mono LS.mono _ _ _ _ e h.s,LL.mono LI.mono _ _ _ _ e h.w,LI.mono _ _ _ _ e h.st,LS.mono _ _ _ _ e h.f⟩
structure Good(d:WD):Prop where
 n1:1<=d.signs.length
 n20:d.signs.length<=20
 wl:d.ways.length=d.signs.length
 sn:∀ss∈d.signs,ss.Nodup/\(∀x∈ss,Yf x=true)/\ss.length<=30
 wn:∀ns∈d.ways,ns.Nodup/\ns≠[]/\(∀x∈ns,0<=x/\x<d.signs.length)/\ns.length<=20
 stn:d.starts.Nodup/\d.starts≠[]/\(∀x∈d.starts,0<=x/\x<d.signs.length)/\d.starts.length<=20
 fn:d.fair.Nodup/\(∀x∈d.fair,Yf x=true)/\d.fair.length<=3
def vP{f:α->β}(hf:∀a b,f a=f b->a=b){l:List α}(h:l.Nodup):(l.map f).Nodup:=by
 unfold List.Nodup at *;rw[List.pairwise_map];exact h.imp fun q e=>q (hf _ _ e)
def str_inj(a b:Str)(h:V.str a=V.str b):a=b:=V.str.inj h
def int_inj(a b:Int)(h:V.int a=V.int b):a=b:=V.int.inj h
def yX(h:Yf z=true):z.length<=8:=by
 unfold Yf at h;simp only[gv,nz] at h;exact h.1.2
def LS.kd{ss:List Str}(h:LS H v ss)(hl:ss.length<=1000)(hn:∀x∈ss,Yf x=true):KdL H v:=by
 obtain⟨a,rfl,e⟩:=h;refine⟨.lst e,fun xs q=>?_⟩;rw[YO e] at q;cases q;refine⟨by rw[fF];exact hl,fun y hy=>?_⟩;obtain⟨z,hz,rfl⟩:=gn.mp hy;exact .str z (fU (yX (hn z hz)) (by decide))
def LI.kd(h:LI H v ns)(hl:ns.length<=1000):KdL H v:=by
 obtain⟨a,rfl,e⟩:=h;refine⟨.lst e,fun xs q=>?_⟩;rw[YO e] at q;cases q;refine⟨by rw[fF];exact hl,fun y hy=>?_⟩;obtain⟨z,hz,rfl⟩:=gn.mp hy;exact .int z
def LS.names{ss:List Str}(h:LS H v ss)(nd:ss.Nodup)(hn:∀x∈ss,Yf x=true):Yc H v=true:=by
 obtain⟨a,rfl,e⟩:=h;unfold Yc;rw[YO e];simp only[gv,nz];refine⟨g9.mpr fun y hy=>?_,vP str_inj nd⟩;obtain⟨z,hz,rfl⟩:=gn.mp hy;exact hn z hz
def LI.rooms(h:LI H v ns)(nd:ns.Nodup)(ne:ns≠[])(hn:∀x∈ns,0<=x/\x<(n:Int)):Z2 H n v=true:=by
 obtain⟨a,rfl,e⟩:=h;unfold Z2;rw[YO e];simp only[gv,nz];refine⟨⟨g9.mpr fun y hy=>?_,?_⟩,vP int_inj nd⟩
 ·obtain⟨z,hz,rfl⟩:=gn.mp hy;have:=hn z hz;simp[YL,this.1,this.2]
 ·cases ns with
  |nil=>exact absurd rfl ne
  |cons y r=>rfl
def LL.kd{xs:List α}(h:LL r H v xs)(hl:xs.length<=1000)(q:∀v x,r H v x->x∈xs->KdL H v):KdLL H v:=by
 obtain⟨a,vs,rfl,e,l,k⟩:=h;refine⟨.lst e,fun ys z=>?_⟩;rw[YO e] at z;cases z;refine⟨by omega,fun y hy=>?_⟩;obtain⟨i,hi,rfl⟩:=gI hy;have hx:i<xs.length:=by omega
 exact q _ xs[i] (k i _ _ (fG hi) (fG hx)) (fX hx)
def LL.all{α:Type}{r:Hp->V->α->Prop}{H:Hp}{vs:List V}{xs:List α}{p:V->Bool}(l:vs.length=xs.length)(k:∀(i:Nat) v x,vs[i]?=some v->xs[i]?=some x->r H v x)(q:∀v x,r H v x->x∈xs->p v=true):vs.all p=true:=by
 refine g9.mpr fun y hy=>?_;obtain⟨i,hi,rfl⟩:=gI hy;have hx:i<xs.length:=by omega
 exact q _ xs[i] (k i _ _ (fG hi) (fG hx)) (fX hx)
def Wf.kd{H:Hp}{s w st f:V}{d:WD}(h:Wf H s w st f d)(g:Good d):KdLL H s/\KdLL H w/\KdL H st/\KdL H f:=by
 refine⟨h.s.kd (by have:=g.n20;omega) fun v x r m=>?_,h.w.kd (by have:=g.n20;have:=g.wl;omega) fun v x r m=>?_,h.st.kd (by have:=g.stn.2.2.2;omega),h.f.kd (by have:=g.fn.2.2;omega) g.fn.2.1⟩
 ·have:=g.sn x m;exact r.kd (by omega) this.2.1
 ·have:=g.wn x m;exact r.kd (by omega)
def Wf.makes{s w st f:V}{d:WD}(h:Wf H s w st f d)(g:Good d):Ur H s w st f=true:=by
 have hst:=h.st.rooms (n:=d.signs.length) g.stn.1 g.stn.2.1 g.stn.2.2.1;have hf:=h.f.names g.fn.1 g.fn.2.1;obtain⟨a,vs,rfl,e,l,k⟩:=h.s;obtain⟨b,ws,rfl,e2,l2,k2⟩:=h.w;obtain⟨c,rfl,e3⟩:=h.f;unfold Ur;rw[YO e,YO e2,YO e3];dsimp only;rw[l];have h1:vs.all (Yc H)=true:=LL.all l k fun v x r m=>r.names (g.sn x m).1 (g.sn x m).2.1;have h2:ws.all (Z2 H d.signs.length)=true:=LL.all l2 k2 fun v x r m=>r.rooms (g.wn x m).1 (g.wn x m).2.1 (g.wn x m).2.2.1;have:=g.n1;have:=g.n20;have:=g.wl;have:=g.fn.2.2;simp only[few3,gv,nz,fF];refine⟨⟨⟨⟨⟨by omega,by omega⟩,by omega⟩,h1⟩,h2⟩,hst,hf,by omega⟩
def wfs(t1 t2 t3 t4:V):List (Str×V):=[("room_signs",t1),("room_ways",t2),("start_rooms",t3),("fair_names",t4)]
def n12:¬(("room_signs" : Str) = "room_ways"):=by decide +kernel
def n13:¬(("room_signs" : Str) = "start_rooms"):=by decide +kernel
def n14:¬(("room_signs" : Str) = "fair_names"):=by decide +kernel
def n23:¬(("room_ways" : Str) = "start_rooms"):=by decide +kernel
def n24:¬(("room_ways" : Str) = "fair_names"):=by decide +kernel
def n34:¬(("start_rooms" : Str) = "fair_names"):=by decide +kernel
def put1(t1:V):Yp "room_signs" t1 []=([("room_signs",t1)]:List (Str×V)):=rfl
def put2(t1 t2:V):Yp "room_ways" t2 ([("room_signs",t1)]:List (Str×V))=([("room_signs",t1),("room_ways",t2)]:List (Str×V)):=by simp only[Yp,if_neg n12]
def put3(t1 t2 t3:V):Yp "start_rooms" t3 ([("room_signs",t1),("room_ways",t2)]:List (Str×V))=([("room_signs",t1),("room_ways",t2),("start_rooms",t3)]:List (Str×V)):=by simp only[Yp,if_neg n13,if_neg n23]
def put4(t1 t2 t3 t4:V):Yp "fair_names" t4 ([("room_signs",t1),("room_ways",t2),("start_rooms",t3)]:List (Str×V))=wfs t1 t2 t3 t4:=by simp only[Yp,if_neg n14,if_neg n24,if_neg n34,wfs]
structure ZX(C:Addr)(H:Hp)(p:Addr)(d:WD):Prop where
 ex:∃dx t1 t2 t3 t4,H p=some (.ins C dx (wfs t1 t2 t3 t4))/\LT TS H t1 (d.signs.map X5)/\LT TIn H t2 (d.ways.map Z7)/\TIn H t3 (Z7 d.starts)/\TS H t4 d.fair
def ZX.mono{C:Addr}{H H':Hp}{p:Addr}{d:WD}(s:Ze H H')(h:ZX C H p d):ZX C H' p d:=by
 obtain⟨dx,t1,t2,t3,t4,e,h1,h2,h3,h4⟩:=h.ex;exact⟨dx,t1,t2,t3,t4,s _ _ e,LT.mono TS.mono _ _ _ _ s h1,LT.mono TIn.mono _ _ _ _ s h2,TIn.mono _ _ _ _ s h3,TS.mono _ _ _ _ s h4⟩
def beqF{a b:Str}(h:¬a=b):(a==b)=false:=by simpa using h
def JE(t1 t2 t3 t4:V):(wfs t1 t2 t3 t4).lookup ("room_signs" : Str)=some t1:=by simp[wfs,gC]
def lk_ways(t1 t2 t3 t4:V):(wfs t1 t2 t3 t4).lookup ("room_ways" : Str)=some t2:=by simp[wfs,gC,beqF (fun e=>n12 e.symm)]
def lk_no(t1 t2 t3 t4:V){m:Str}(h1:¬m = "room_signs")(h2:¬m = "room_ways")(h3:¬m = "start_rooms")(h4:¬m = "fair_names"):(wfs t1 t2 t3 t4).lookup m=none:=by simp[wfs,gC,beqF h1,beqF h2,beqF h3,beqF h4]
def New.hidden(h:H p=some o):Ze (New H H') (hide p H'):=fun b u e=>
 let ⟨h1,h2⟩:=New.of e
 Xw (fun z=>by subst z;rw[h] at h1;cases h1) h2
def LS.hid{fs:List (Str×V)}{ss:List Str}(hp:H p=some (.ins C dx fs))(h:LS H v ss):LS (hide p H) v ss:=by
 obtain⟨a,rfl,e⟩:=h;exact⟨a,rfl,Xw (Vk e hp (by intro z;cases z)) e⟩
def LI.hid{fs:List (Str×V)}{ss:List Int}(hp:H p=some (.ins C dx fs))(h:LI H v ss):LI (hide p H) v ss:=by
 obtain⟨a,rfl,e⟩:=h;exact⟨a,rfl,Xw (Vk e hp (by intro z;cases z)) e⟩
def LL.hid{fs:List (Str×V)}{xs:List α}(hp:H p=some (.ins C dx fs))(m:∀v x,r H v x->r (hide p H) v x)(h:LL r H v xs):LL r (hide p H) v xs:=by
 obtain⟨a,vs,rfl,e,l,q⟩:=h;exact⟨a,vs,rfl,Xw (Vk e hp (by intro z;cases z)) e,l,fun i v x h1 h2=>m _ _ (q i v x h1 h2)⟩
def Wf.hid{H:Hp}{p C dx:Addr}{fs:List (Str×V)}{s w st f:V}{d:WD}(hp:H p=some (.ins C dx fs))(h:Wf H s w st f d):Wf (hide p H) s w st f d:=
 ⟨h.s.hid hp fun _ _ r=>r.hid hp,h.w.hid hp fun _ _ r=>r.hid hp,h.st.hid hp,h.f.hid hp⟩
def ju{r:Hp->V->β->Prop}{f:α->β}{a:Addr}{ys:List V}{xs:List α}(h:H a=some (.tup ys))(l:ys.length=xs.length)(q:∀(i:Nat) v,ys[i]?=some v->∀x,xs[i]?=some x->r H v (f x)):LT r H (.ref a) (xs.map f):=by
 refine⟨a,ys,rfl,h,by rw[fF,l],fun i v x h1 h2=>?_⟩;rw[fL] at h2;cases e:xs[i]? with
 |none=>rw[e] at h2;cases h2
 |some y=>
  rw[e] at h2;cases h2;exact q i v h1 y e
end L3
variable{d:L3.WD}
namespace L3
open PySem PySem.Spec L2
def dI(ns:List Int):PyData:=.list (ns.map PyData.int)
def dS(ss:List Str):PyData:=.list (ss.map PyData.str)
def V7(n:Nat)(d:PyData):Prop:=d.canLay0=true/\d.depth<=n
def fineAll{f:α->PyData}{xs:List α}(h:∀x∈xs,V7 n (f x)):PyData.canLayAll0 (xs.map f)=true/\PyData.depthAll (xs.map f)<=n:=by
 induction xs with
 |nil=>exact⟨by simp[PyData.canLayAll0],by simp[PyData.depthAll]⟩
 |cons x r ih=>
  obtain⟨a,b⟩:=ih fun y hy=>h y (gf _ hy);obtain⟨c,d⟩:=h x iz;rw[fZ];exact⟨by rw[PyData.canLayAll0,c,a];rfl,by rw[PyData.depthAll];exact Nat.max_le.mpr ⟨d,b⟩⟩
def fineL{f:α->PyData}{xs:List α}(h:∀x∈xs,V7 n (f x)):V7 (n+1) (.list (xs.map f)):=by
 obtain⟨a,b⟩:=fineAll h;exact⟨by rw[PyData.canLay0];exact a,by rw[PyData.depth];omega⟩
def fineI(ns:List Int):V7 1 (dI ns):=fineL fun x _=>⟨by simp[PyData.canLay0],by simp[PyData.depth]⟩
def J5(h:Yf z=true):PyData.strOk z=true:=by
 unfold Yf at h;rw[gv] at h;have h2:=g9.mp h.2;unfold PyData.strOk;rw[Array.all_eq_true_iff_forall_mem];intro x hx;have:=h2 x (Array.mem_toList_iff.mpr hx);unfold zY at this;have:=gi this;exact gO (by omega)
def V7.up{m:Nat}{d:PyData}(h:V7 n d)(l:n<=m):V7 m d:=⟨h.1,fU h.2 l⟩
section
variable{K:W.Frag}{H:Hp}
def zM{α:Type}{g:α->V}{f:α->PyData}(h:∀x,Dp K H (g x) (f x)):∀xs:List α,XS K H (xs.map g) (xs.map f)
 |[]=>.nil
 |x::r=>.cons (h x) (zM h r)
def JF{α:Type}{r:Hp->V->α->Prop}{f:α->PyData}(h:∀v x,r H v x->Dp K H v (f x)):∀(vs:List V) (xs:List α),vs.length=xs.length->(∀(i:Nat) v x,vs[i]?=some v->xs[i]?=some x->r H v x)->XS K H vs (xs.map f)
 |[],[],_,_=>.nil
 |[],x::xs,l,_=>by simp at l
 |v::vs,[],l,_=>by simp at l
 |v::vs,x::xs,l,q=>.cons (h v x (q 0 v x rfl rfl)) (JF h vs xs (by simpa using l) fun i v x h1 h2=>q (i+1) v x (by simpa using h1) (by simpa using h2))
def LI.dp(h:LI H v ns):Dp K H v (dI ns):=by
 obtain⟨a,rfl,e⟩:=h;exact .lst (oj e) (zM (fun x=>.int x) ns)
end
def qW{d:PyData}(h:V7 n d):PyData.eqv d d=true:=SeqAt.eqv_refl d h.1
def eqD_yes{x:V}{d:PyData}{Q:VK}(f:V7 n d)(hn:n<=60)(h1:Dp K H x d)(h2:Dp K H y d)(q:Q (.bl true) H):rEqD K false x y H Q:=
 ⟨d,d,h1,h2,f.1,f.1,fU f.2 hn,by rw[qW f];exact q⟩
def yM{x:V}{d:PyData}{Q:VK}(f:V7 n d)(hn:n<=60)(h1:Dp K H x d)(h2:Dp K H y d)(q:Q (.bl false) H):rEqD K true x y H Q:=
 ⟨d,d,h1,h2,f.1,f.1,fU f.2 hn,by rw[qW f];exact q⟩
def Zs.updN(s:Zs p H H')(h:H D=none):Zs p H (L2.upd H' D o):=fun b u n e=>by
 rw[Zx (ZT e h)];exact s b u n e
def Zs.free(s:Zs p H H')(np:D≠p)(h:H' D=none):H D=none:=by
 cases e:H D with
 |none=>rfl
 |some o=>rw[s D o np e] at h;cases h
def j4{ss:List Str}:inV (.str z) (ss.map V.str)=true↔z∈ss:=by
 unfold inV;rw[List.any_map,List.any_eq_true];constructor
 ·rintro⟨y,hy,e⟩;have e':(y==z)=true:=e;rw[lh] at e';exact e'▸hy
 ·intro hz;exact⟨z,hz,by show(z==z)=true;simp⟩
def zA(ss:List Str):(ss.map V.str).all U5=true:=by
 rw[List.all_map];exact g9.mpr fun _ _=>rfl
def X3{F:Addr}{o':HO}(h:H p=some o)(n:p≠F):upd H F o' p=some o:=by rw[Zx n];exact h
def ne_new(h:H p=some o)(n:H D=none):p≠D:=fun e=>by rw[e,n] at h;cases h
def ZX.at(h:ZX C H p d){m:Str}(h1:¬m = "room_signs")(h2:¬m = "room_ways")(h3:¬m = "start_rooms")(h4:¬m = "fair_names"):∃dx fs,H p=some (.ins C dx fs)/\fs.lookup m=none:=by
 obtain⟨dx,t1,t2,t3,t4,e,_⟩:=h.ex;exact⟨dx,_,e,lk_no _ _ _ _ h1 h2 h3 h4⟩
def yz(h:ZX C H p d):∃dx fs,H p=some (.ins C dx fs)/\fs.lookup ("many" : Str)=none:=h.at (by decide +kernel) (by decide +kernel) (by decide +kernel) (by decide +kernel)
def UK(h:ZX C H p d):∃dx fs,H p=some (.ins C dx fs)/\fs.lookup ("signs_of" : Str)=none:=h.at (by decide +kernel) (by decide +kernel) (by decide +kernel) (by decide +kernel)
def qy(h:ZX C H p d):∃dx fs,H p=some (.ins C dx fs)/\fs.lookup ("ways_on" : Str)=none:=h.at (by decide +kernel) (by decide +kernel) (by decide +kernel) (by decide +kernel)
def upTo_at{x:V}(h:((L3.upTo (n:Int)).map V.int)[i]?=some x):x=.int (i:Nat)/\i<n:=by
 unfold L3.upTo at h;rw[gS,gw] at h;rw[fL] at h;cases e:(List.range n)[i]? with
 |none=>rw[e] at h;cases h
 |some k=>
  rw[e] at h;obtain⟨hi,e2⟩:=fO.mp e;rw[List.getElem_range] at e2;subst e2;cases h;rw[gp] at hi;exact⟨rfl,hi⟩
def xK(n:Nat):((L3.upTo (n:Int)).map V.int).length=n:=by
 unfold L3.upTo;rw[fF,fF,gp,gw]
def ZX.keep(k:∀b o,(∀xs,o≠.lst xs)->H b=some o->H' b=some o)(h:ZX C H p d):ZX C H' p d:=by
 have kt:∀b xs,H b=some (.tup xs)->H' b=some (.tup xs):=fun b xs e=>k b _ (fun _ z=>by cases z) e;have ks:∀v x,TS H v x->TS H' v x:=fun v x ⟨a,e,h⟩=>⟨a,e,kt _ _ h⟩;have ki:∀v x,TIn H v x->TIn H' v x:=fun v x ⟨a,e,h⟩=>⟨a,e,kt _ _ h⟩;obtain⟨dx,t1,t2,t3,t4,e,⟨a1,w1,f1,g1,l1,q1⟩,⟨a2,w2,f2,g2,l2,q2⟩,h3,h4⟩:=h.ex;exact⟨dx,t1,t2,t3,t4,k _ _ (fun _ z=>by cases z) e,⟨a1,w1,f1,kt _ _ g1,l1,fun i v x r1 r2=>ks _ _ (q1 i v x r1 r2)⟩,⟨a2,w2,f2,kt _ _ g2,l2,fun i v x r1 r2=>ki _ _ (q2 i v x r1 r2)⟩,ki _ _ h3,ks _ _ h4⟩
open PyProof.Rows
def neA{a b:Nat}(h:a<b\/b<a):(a:Addr)≠b:=fun e=>by subst e;omega
def apart_of(I l1 l2:Nat)(h1:l1<I)(h2:l2<I):ZipApart (I+4) (I+2) (I+3) I (I+1) l1 l2:=by
 constructor<;>(refine neA ?_;omega)
def ZK.take{xs:List V}{us:List Value}(h:ZK xs us)(k:Nat):ZK (xs.take k) (us.take k):=by
 induction k generalizing xs us with
 |zero=>exact .nil
 |succ k ih=>
  cases h with
  |nil=>exact .nil
  |cons r t=>exact .cons r (ih t)
def ZK.drop{xs:List V}{us:List Value}(h:ZK xs us)(k:Nat):ZK (xs.drop k) (us.drop k):=by
 induction k generalizing xs us with
 |zero=>exact h
 |succ k ih=>
  cases h with
  |nil=>exact .nil
  |cons r t=>exact ih t
def ZK.set{xs:List V}{us:List Value}{y:V}{u:Value}(h:ZK xs us)(ry:ZU y u)(k:Nat):ZK (xs.set k y) (us.set k u):=by
 induction k generalizing xs us with
 |zero=>
  cases h with
  |nil=>exact .nil
  |cons r t=>exact .cons ry t
 |succ k ih=>
  cases h with
  |nil=>exact .nil
  |cons r t=>exact .cons r (ih t)
def Inv.big(I:L2.Inv X db U H s):sysModules<s.heap.objs.size:=by
 have h:mainGlobals<s.heap.objs.size:=(I.mod.glob.keeps I.bk).lt;exact Nat.lt_trans (by decide) h
def qQ(h:Heap)(hb:sysModules<h.objs.size):Yw P w H (h.push { cls:=.type "dict",data:=.dict #[] }) h.objs.size (.dK []):=
 ⟨gB _,i8.mpr (fT (fP hb)),[],.nil,Heap.DictOf.new h⟩
def tDNewK:TE:=fun _ H Q=>∀p,H p=none->Q (.ref p) (upd H p (.dK []))
def pe_dnewK:PE X (.Dict [] [] pos) tDNewK:=fun db s U H Q I h=>
 wpAny_Dict_empty ⟨.ref s.heap.objs.size,_,I.laid (a:=s.heap.objs.size) (o:=.dK []) (t':=s.toks) (fun _ _ q=>fM _ q) (fE _) (qQ s.heap (Inv.big I)),rfl,h _ (I.hok.fresh (fE _))⟩
def yp{l:Addr}{k:Int}{t:Tok}{v:Value}{Q:Unit->Shared->Prop}(e:s.heap.get? l=some { cls:=.type "list",data:=.seq items n })
  (h0:0<=k) (hfit:k<2 ^ 63) (hn:k<items.size) (hQ:Q () { s with heap:=s.heap.update l (Obj.mapSeq (·.setIfInBounds k.toNat v)) }) :
  wpAny (model prog w) A (setItem (.ref l) (.int k t) v) Q E s:=by
 have hl:s.heap.IsList l items:=⟨_,e,rfl,n,rfl⟩;obtain⟨o,ho,hc,ne,hd⟩:=id hl;have eo:o={ cls:=.type "list",data:=.seq items n }:=fY (ho.symm.trans e);unfold setItem
 try with_reducible refine hU ?_
 first|refine fD (fI ?_)|skip
 refine fD (wpAny_sequenceKey hl.typeIs (by decide) ?_);refine fD (lC (name:=Str.ofString "__setitem__") hl.typeIs slot_list_setitem
  (io slot_list_setitem hl.typeIs entry_list_setitem ?_ (args_list_setitem _ _ _)))
 show wpAny _ _ (Builtin.List.listSubscript? (.int k t) >>= _) _ _ s
 refine fD (wpAny_listSubscript_int (fitsIndex_of h0 hfit) ?_);clear hfit;obtain⟨j,rfl⟩:=mz h0;have hj:j<items.size:=by omega
 have hx':items[j]?=some items[j]:=nX hj
 show wpAny _ _ ((seqItemAt l j >>= fun r=>pure (r.map (j,·))) >>= _) _ _ s
 refine fD (fD (wpAny_seqItemAt ho hd (fI ?_)));rw[hx']
 show wpAny _ _ (setSeqItemAt l j v >>= _) _ _ s
 refine fD (wpAny_setSeqItemAt ho hd ?_)
 first
  |exact fD (fI (fI ⟨.none,rfl,fI hQ⟩))
  |exact fI ⟨.none,rfl,fI hQ⟩
def tSetL(tv to ti:TE):L2.TS:=fun D U H=>tv U H fun y H1=>to U H1 fun x H2=>ti U H2 fun k H3=>∃l xs j,x=.ref l/\k=.int (j:Nat)/\H3 l=some (.lst xs)/\j<xs.length/\D.nx U (upd H3 l (.lst (xs.set j y)))
def j9{o i:Expr}{to ti tv:TE}(hv:PE X e tv)(ho:PE X o to)(hi:PE X i ti)(hs:swapsWith e (some (.Subscript o i pos')) pos.line X.env=pure false:=by rfl):PS X (.Assign [.Subscript o i pos'] e pos) (tSetL tv to ti):=by
 intro db s U H D I h;refine wpAny_Assign_Subscript (thn (hv db s U H _ I h) fun v s1 ⟨y,H1,I1,r1,q1⟩=>thn (ho db s1 U H1 _ I1 q1) fun ov s2 ⟨x,H2,I2,r2,q2⟩=>thn (hi db s2 U H2 _ I2 q2) fun iv s3 ⟨k,H3,I3,r3,q3⟩=>?_) hs;obtain⟨l,xs,j,rfl,rfl,hH,hj,q⟩:=q3;cases r2;obtain⟨t,rfl⟩:=(show ∃t,iv=Value.int (j:Nat) t from r3);obtain⟨z,its,n,r,hl,e⟩:=I3.lstM hH;refine yp e (Int.natCast_nonneg j) (by rw[fJ] at z;omega) (by rw[fV];omega) ?_;refine⟨U,_,I3.lset (its':=its.set j v) (t':=s3.toks) hH e (by simp) (ZK.set r r1 j) (by rw[List.length_set];exact z),q⟩
def UX{a:Expr}{ta:TE}(hK:X.K=K)(ha:PE X a ta)(he:∀whole,isTrue a X.env whole=(do let v <- whole;standAt a.pos;holding [v] (truthy v))) :
  PT X a (fun U H Q=>ta U H fun x H'=>∃k,TruV K x H' k/\Q k H'):=by subst hK;exact pt_truth ha he
def YM{g:TG}{tb:L2.TS}{D:Ends}(Pv:Nat->St->Hp->Prop)(h0:Pv 0 U H)(hgo:∀i U H,i<n->Pv i U H->J.go i H)(hst:∀U H,Pv n U H->J.stop n H)
  (hs:∀i x U H H2,i<n->Pv i U H->J.yld i H x H2->g x U H2 fun σ2 H3=>tb { D with nx:=Pv (i+1),ct:=Pv (i+1),bk:=D.nx } σ2 H3) (hd:∀U H,Pv n U H->D.nx U H) :
  ∃W:Nat->Nat->St->Hp->Prop,(∃m,W 0 m U H)/\∀i m U H,W i m U H ->
   (J.stop i H/\D.nx U H)\/(J.go i H/\∃N:St->Hp->Prop,(∀σ' H',N σ' H'->∃m',m'<m/\W (i+1) m' σ' H')/\∀x H',J.yld i H x H'->g x U H' fun σ2 H2=>tb { D with nx:=N,ct:=N,bk:=D.nx } σ2 H2):=by
 refine⟨fun i m U H=>m=n-i/\i<=n/\Pv i U H,⟨n,by simp,gB _,h0⟩,?_⟩;rintro i m U H ⟨rfl,hi,p⟩
 by_cases hlt:i<n
 ·exact .inr ⟨hgo i U H hlt p,Pv (i+1),fun σ' H' p'=>⟨n-(i+1),by omega,rfl,hlt,p'⟩,fun x H' y=>hs i x U H H' hlt p y⟩
 ·have e:i=n:=by omega
  subst e;exact .inl ⟨hst U H p,hd U H p⟩
def xM(d:WD)(r:Int):List Str:=(d.signs[r.toNat]?).getD []
def qR{z:Int}{ss:List Int}:inV (.int z) (ss.map V.int)=decide (z∈ss):=by
 rw[lg,lZ];unfold inV;rw[List.any_map,List.any_eq_true];constructor
 ·rintro⟨y,hy,e⟩;have e':(y==z)=true:=e;rw[lh] at e';exact e'▸hy
 ·intro hz;exact⟨z,hz,by show(z==z)=true;simp⟩
def VF(ss:List Int):(ss.map V.int).all U5=true:=by
 rw[List.all_map];exact g9.mpr fun _ _=>rfl
def at_of{xs:List Int}(h:i<xs.length):(xs.map V.int)[i]?=some (.int (xs.getD i 0)):=by
 simp[List.getD,h]
def Wd(xs:List V)(k:Nat)(h:k<=xs.length):W7 xs (some (k:Int)) none=xs.drop k:=by
 unfold W7;rw[HT.sIx_nat,HT.sIx_none,mP h];exact mQ (by rw[ie];omega)
def cutV_to(xs:List V)(k:Nat)(h:k<=xs.length):W7 xs none (some (k:Int))=xs.take k:=by
 unfold W7;rw[HT.sIx_nat,HT.sIx_none,mP h];simp
def isTy_same(s:Ze H H')(h:Kd H v):Xn H' T v=Xn H T v:=by
 cases h with
 |non=>rfl
 |bl b=>rfl
 |int i=>rfl
 |str z hz=>rfl
 |lst e=>simp only[Xn,e,s _ _ e]
 |tup e=>simp only[Xn,e,s _ _ e]
 |dK e=>simp only[Xn,e,s _ _ e]
def ZX.x{C:Addr}{H H':Hp}{p w:Addr}{zs:List V}{d:WD}(hp:H p=some (.lst zs))(x:Zs p H H')(h:ZX C H w d):ZX C H' w d:=
 h.keep fun b o ho hb=>x b o (fun e=>by subst e;rw[hp] at hb;cases hb;exact ho _ rfl) hb
def dR(way ring:List Int):PyData:=.tuple [dI way,dI ring]
def fineR(way ring:List Int):V7 2 (dR way ring):=by
 have a:=fineI way;have b:=fineI ring;refine⟨by simp[dR,PyData.canLay0,PyData.canLayAll0,a.1,b.1],?_⟩;have:=a.2;have:=b.2;simp only[dR,PyData.depth,PyData.depthAll];omega
def dpR{t p1 p2:Addr}(ht:H t=some (.tup [.ref p1,.ref p2]))(h1:H p1=some (.lst (way.map V.int)))(h2:H p2=some (.lst (ring.map V.int))):Dp K H (.ref t) (dR way ring):=
 .tup (on ht) (.cons (LI.dp ⟨p1,rfl,h1⟩) (.cons (LI.dp ⟨p2,rfl,h2⟩) .nil))
def free(c:Nat)(z:Str):Prop:=c∉z.cps.toList
mutual
def Dp.mono{K:W.Frag}{H H':Hp}(s:Ze H H'):∀{v:V}{d:PyData},Dp K H v d->Dp K H' v d
 |_,_,.non=>.non
 |_,_,.bl b=>.bl b
 |_,_,.int i=>.int i
 |_,_,.str x=>.str x
 |_,_,.lst h hs=>.lst (s.seq h) (XS.mono s hs)
 |_,_,.tup h hs=>.tup (Ze.seqT s h) (XS.mono s hs)
def XS.mono{K:W.Frag}{H H':Hp}(s:Ze H H'):∀{vs:List V}{ds:List PyData},XS K H vs ds->XS K H' vs ds
 |_,_,.nil=>.nil
 |_,_,.cons h hs=>.cons (Dp.mono s h) (XS.mono s hs)
end
def dT(d:WD):PyData:=.list (d.signs.map dS++d.ways.map dI++[dI d.starts,dS d.fair])
def atI_back{xs:List α}{k:Nat}(h1:1<=k)(h2:k<=xs.length):atI xs (-(k:Int))=xs[xs.length-k]?:=by
 have e:ixN xs.length (-(k:Int))=some (xs.length-k):=by
  unfold ixN;rw[if_neg (by omega),if_pos (by omega)]
  congr 1
  omega
 unfold atI;rw[e];rfl
open PySem.Calls PySem.W Builtin Builtin.ObjectAttr Builtin.Getset_descriptor
section
variable{w:PySem.World}{g:Array GenState}{d:Drawn}{t:Nat}{os:OsState}{K:Frag}{a:Addr}
structure ExcK(K:Frag)(C:Addr):Prop where
 ga:findIn K (.ref C) "__getattribute__" = some (some (.builtin "BaseException.__getattribute__"))
 gh:findIn K (.ref C) "__getattr__" = some none
 ob:mroIn K C (.type "object")=some true
 be:mroIn K C (.type "BaseException")=some true
 cl:findIn K (.ref C) "__class__" = some (some (.builtin "object.__class__"))
 gt:specialIn K (.builtin "object.__class__") "__get__" = some (some (.builtin "getset_descriptor.__get__"))
 tk:takesIn K (.builtin "object.__class__")=some true
 hd:hasDictIn K C=true
end
section
variable{es:List Expr}{t:TA}
end
def starB:Expr->Bool
 |.Starred _ _=>true
 |_=>false
def star_c{es:List Expr}(h:starB e=false):starEach (e::es) env=(false,eval e env)::starEach es env:=by
 cases e<;>first|rfl|cases h
def Zq{X:Cx}{e:Expr}{es:List Expr}{te:TE}{t:TA}(ha:PE X e te)(hr:PA X es t)(h:starB e=false:=by rfl):PA X (e::es) (tCons te t):=Za ha hr (star_c h)
def cf_app:∀(names:List (Str×NameKind)) (n:Nat) (a b:List (Str×Addr)),cellsFrom n names (a++b)=cellsFrom n names a++b
 |[],_,_,_=>rfl
 | (x,k)::r,n,a,b=>by
  unfold cellsFrom
  split
  ·exact cf_app r (n+1) ((x,n)::a) b
  ·exact cf_app r n a b
def cf_mem:∀(names:List (Str×NameKind)) (n:Nat) (acc:List (Str×Addr)) (x:Str) (c:Addr),(x,c)∈cellsFrom n names acc->(x,c)∈acc\/(x,NameKind.cell)∈names
 |[],_,_,_,_,h=>.inl h
 | (y,k)::r,n,acc,x,c,h=>by
  unfold cellsFrom at h
  split at h
  ·rename_i hk
   rcases cf_mem r _ _ _ _ h with q|q
   ·rcases fQ.mp q with q|q
    ·cases q;have:k=.cell:=by simpa using hk
     subst this;exact .inr iz
    ·exact .inl q
   ·exact .inr (gf _ q)
  ·rcases cf_mem r _ _ _ _ h with q|q
   ·exact .inl q
   ·exact .inr (gf _ q)
def jQ:∀(names:List (Str×NameKind)) (n:Nat) (acc:List (Str×Addr)) (x:Str),((x,NameKind.cell)∈names\/∃c,acc.lookup x=some c)->∃c,(cellsFrom n names acc).lookup x=some c
 |[],_,_,_,h=>by
  rcases h with h|h
  ·cases h
  ·exact h
 | (y,k)::r,n,acc,x,h=>by
  unfold cellsFrom;have up:∀c0,(∃c,acc.lookup x=some c)->∃c,List.lookup x ((y,c0)::acc)=some c:=fun c0 ⟨c,e⟩=>by
   rw[gC];cases x==y
   ·exact⟨c,e⟩
   ·exact⟨_,rfl⟩
  split
  ·rename_i hk
   refine jQ r _ _ _ ?_;rcases h with h|h
   ·rcases fQ.mp h with h|h
    ·cases h;exact .inr ⟨_,by rw[gC,beq_self_eq_true]⟩
    ·exact .inl h
   ·exact .inr (up _ h)
  ·rename_i hk
   refine jQ r _ _ _ ?_;rcases h with h|h
   ·rcases fQ.mp h with h|h
    ·cases h;exact absurd rfl hk
    ·exact .inl h
   ·exact .inr h
def ze(scope:Scope)(env:Env)(L:Addr):List (Str×Addr):=cellsFrom (L+1) scope.names []++YN scope env
def X9{L:Addr}{x:Str}{c:Addr}(h:(ze scope env L).lookup x=some c):(cellsFrom (L+1) scope.names []).lookup x=some c\/((cellsFrom (L+1) scope.names []).lookup x=none/\(YN scope env).lookup x=some c):=by
 unfold ze at h;rw[List.lookup_append] at h;cases e:(cellsFrom (L+1) scope.names []).lookup x with
 |none=>rw[e] at h;exact .inr ⟨rfl,h⟩
 |some d=>rw[e] at h;exact .inl h
def yI{L:Addr}{x:Str}{c:Addr}(h:(cellsFrom (L+1) scope.names []).lookup x=some c):(ze scope env L).lookup x=some c:=by
 unfold ze;rw[List.lookup_append,h];rfl
def k3{L:Addr}{x:Str}{c:Addr}(h0:(cellsFrom (L+1) scope.names []).lookup x=none)(h:(YN scope env).lookup x=some c):(ze scope env L).lookup x=some c:=by
 unfold ze;rw[List.lookup_append,h0,h];rfl
def kX{L:Addr}{x:Str}{c:Addr}(h:(YN scope env).lookup x=some c):∃d,(ze scope env L).lookup x=some d:=by
 cases e:(cellsFrom (L+1) scope.names []).lookup x with
 |none=>exact⟨c,k3 e h⟩
 |some d=>exact⟨d,yI e⟩
def cells_new(h:Heap)(names:List (Str×NameKind)):(pushCells (h.push { cls:=.type "dict",data:=.dict #[] }) names).Ns h.objs.size (fun _=>none)/\(∀b o,h.get? b=some o->(pushCells (h.push { cls:=.type "dict",data:=.dict #[] }) names).get? b=some o) /\
  (∀x c,(cellsFrom (h.objs.size+1) names []).lookup x=some c->(pushCells (h.push { cls:=.type "dict",data:=.dict #[] }) names).IsCell c none/\h.objs.size+1<=c)/\(cellsFrom (h.objs.size+1) names []).Pairwise fun x y=>x.2≠y.2:=by
 have ok:=cellsFrom_ok names (h.push { cls:=.type "dict",data:=.dict #[] }) (h.objs.size+1) [] ⟨fun _ _ hm=>(nomatch hm),List.Pairwise.nil⟩ (by rw[iq];exact fE _);rw[iq] at ok;exact⟨(Heap.Ns.new h (.type "dict")).keeps (pushCells_keeps _ _),fun b o e=>pushCells_keeps _ _ b o (fM _ e),fun n c hc=>ok.empty n c (gN hc),ok.apart⟩
def Kb{globals:Addr}{outer:Env}{Q:Env->Shared->Prop}
  (hQ:Q (newEnv scope s.heap.objs.size globals (cellsFrom (s.heap.objs.size+1) scope.names []++cl) qual none .none (some outer) builtinsNs) { s with heap:=pushCells (s.heap.push { cls:=.type "dict",data:=.dict #[] }) scope.names }) :
  wpAny M A (newFunctionEnv scope globals cl [] qual none .none (some outer)) Q E s:=by
 simp only[newFunctionEnv,Option.isSome_some,ia];refine fD (wpAny_alloc ?_);refine fD (wpAny_layCells _ (fun name kind cells=>by cases hkc:kind==NameKind.cell<;>simp[hkc]) _ _ _ _ ?_);rw[show({ s with heap:=s.heap.push { cls:=.type "dict",data:=.dict #[] } }:Shared).heap.objs.size=s.heap.objs.size+1 from iq ..];rw[List.forIn_nil];refine fD (fI (fI ?_));have e:=cf_app scope.names (s.heap.objs.size+1) [] cl;rw[lV] at e;rw[e];exact hQ
structure XY(sc:Scope)(N Nc:List Str)(ix:List (Option Nat))(scope:Scope):Prop where
 kind:scope.kind=.function
 cells:∀y∈scope.names,y.2=.cell->scope.names.lookup y.1=some .cell
 names:∀y∈scope.names,y.2=.local->scope.names.lookup y.1=some .local
 free:∀y∈scope.names,y.2=.free->sc.names.lookup y.1=some .cell\/sc.names.lookup y.1=some .free
 len:ix.length=Nc.length
 chk:((ix.zip Nc).all fun p=>match p.1 with|none=>true|some j=>N[j]?==some p.2&&scope.names.lookup p.2==some .free)=true
def XY.at_(o:XY sc N Nc ix scope){x:Str}(h1:ix[i]?=some (some j))(h2:Nc[i]?=some x):N[j]?=some x/\scope.names.lookup x=some .free:=by
 have hm:(some j,x)∈ix.zip Nc:=by
  refine gj (i:=i) ?_;rw[lG];exact⟨h1,h2⟩
 have q:=g9.mp o.chk _ hm;have q':=gv _ _▸q;exact⟨by simpa using q'.1,by simpa using q'.2⟩
def qX(sc:Scope)(N Nc:List Str)(ix:List (Option Nat))(scope:Scope):Bool:=
 decide (scope.kind=.function)&&scope.names.all (fun y=>decide (y.2=.cell->scope.names.lookup y.1=some .cell))&&scope.names.all (fun y=>decide (y.2=.local->scope.names.lookup y.1=some .local)) &&
 scope.names.all (fun y=>decide (y.2=.free->sc.names.lookup y.1=some .cell\/sc.names.lookup y.1=some .free))&&decide (ix.length=Nc.length) &&
 (ix.zip Nc).all fun p=>match p.1 with|none=>true|some j=>N[j]?==some p.2&&scope.names.lookup p.2==some .free
def XY.of(h:qX sc N Nc ix scope=true):XY sc N Nc ix scope:=by
 unfold qX at h;simp only[gv] at h;obtain⟨⟨⟨⟨⟨h1,h2⟩,h3⟩,h4⟩,h5⟩,h6⟩:=h;exact⟨gi h1,fun y hy=>gi (g9.mp h2 y hy),fun y hy=>gi (g9.mp h3 y hy),fun y hy=>gi (g9.mp h4 y hy),gi h5,h6⟩
def relabelS(scope sc:Scope):Scope:={ scope with names:=scope.names.map fun(n,k)=>if(k==.free&&sc.kind==.function&&sc.names.lookup n==some .cell) then(n,.cell) else(n,k) }
def ZJ.ofR{scO scI sc0:Scope}(hs:env.scope=sc0)(h:ZO (relabelS scO sc0) N Nc ix scI=true):ZJ (relabel scO env) N Nc ix scI:=by
 subst hs;exact ZJ.of h
def Wn(X:Cx)(Nc:List Str)(scope:Scope)(cl:List (Str×Addr))(C:Addr)(s:Shared)(H:Hp)(fp:List Addr):Cx where
 prog:=X.prog
 w:=X.w
 K:=X.K
 mg:=X.mg
 base:=X.base
 A:=X.A
 N:=Nc
 s₀:=s
 H₀:=H
 env:=compEnvC scope cl C X.env
 outer:=X.stack
 stack:=X.stack
 ex:=fp
 fn:=fun x=>scope.names.lookup x==some .cell
 calm:=X.calm
 pn:=X.pn
 xe:=fun _ _=>False
def qk(I:Inv X db U H s)(ok:XY X.env.scope X.N Nc ix scope):∀y∈scope.names,y.2=.free->(X.env.cells.lookup y.1).isSome=true:=fun y hy hf=>by
 obtain⟨c,hc⟩:=I.ok.has y.1 (ok.free y hy hf);rw[hc];rfl
def csOf_ne{b c:Addr}{x:Str}(I:Inv X db U H s)(ok:XY X.env.scope X.N Nc ix scope)(hnew:∀x c,(cellsFrom (s.heap.objs.size+1) scope.names []).lookup x=some c->h1.IsCell c none/\s.heap.objs.size+1<=c)
  (q:(ze scope X.env s.heap.objs.size).lookup x=some c) (hb:b<s.heap.objs.size) (f:X.env.cells.lookup x=some c->c≠b):c≠b:=by
 rcases X9 q with q|⟨_,q⟩
 ·exact gQ (gA hb (mB (hnew x c q).2))
 ·exact f (Yn (qk I ok) q)
def JI(I:Inv X db U H s)(ok:XY X.env.scope X.N Nc ix scope)(hf:∀b∈fp,Vz X db H b)(hob:∀b∈fp,∃o,s.heap.get? b=some o)
  {m:Str->Option Value} (hn:h1.Ns s.heap.objs.size m) (hk:∀b o,s.heap.get? b=some o->h1.get? b=some o)
  (hnew:∀x c,(cellsFrom (s.heap.objs.size+1) scope.names []).lookup x=some c->h1.IsCell c none/\s.heap.objs.size+1<=c) (hap:(cellsFrom (s.heap.objs.size+1) scope.names []).Pairwise fun x y=>x.2≠y.2) :
  Inv (Wn X Nc scope (ze scope X.env s.heap.objs.size) s.heap.objs.size s H fp) db (sub ix U) H { s with heap:=h1,toks:=t' }:=by
 have ac:=qk I ok;have old:∀{b:Addr}{o:Obj},s.heap.get? b=some o->b≠s.heap.objs.size:=fun e=>fP (fN e);refine⟨⟨I.ok.mod,?_,I.ok.glob,I.ok.blt,fE _,?_,?_,?_,I.ok.hd,I.ok.frames,.inl rfl,?_,I.bs,fU I.ok.bsz I.sz,?_,?_,I.stack,I.stkFree⟩,rfl,I.bare,Un.kept hk,⟨m,hn,?_⟩,?_,?_,?_,?_,I.hok.kept hk,?_⟩
 ·exact ok.kind
 ·intro x y c e1 e2;have lo:∀{z:Str},(YN scope X.env).lookup z=some c->c<s.heap.objs.size:=fun {z} e=>by
   obtain⟨v,oc,e5,_⟩:=I.cell z c (Yn ac e);exact fN e5
  rcases X9 e1 with e1|⟨_,e1⟩
  ·rcases X9 e2 with e2|⟨_,e2⟩
   ·exact name_of_addr hap (gN e1) (gN e2)
   ·exact absurd (lo e2) (Nat.not_lt_of_le (mB (hnew x c e1).2))
  ·rcases X9 e2 with e2|⟨_,e2⟩
   ·exact absurd (lo e1) (Nat.not_lt_of_le (mB (hnew y c e2).2))
   ·exact I.ok.inj x y c (Yn ac e1) (Yn ac e2)
 ·intro x hx;have key:∀k,(relabel scope X.env).names.lookup x=some k->(k=.cell\/k=.free)->∃c,(ze scope X.env s.heap.objs.size).lookup x=some c:=fun k e hkk=>by
   rcases V4 e with q|⟨_,q⟩
   ·rcases hkk with rfl|rfl
    ·obtain⟨c,hc⟩:=jQ scope.names (s.heap.objs.size+1) [] x (.inl (gN q));exact⟨c,yI hc⟩
    ·obtain⟨c,hc⟩:=VS (env:=X.env) (gN q);exact kX hc
   ·obtain⟨c,hc⟩:=VS (env:=X.env) (gN q);exact kX hc
  rcases hx with e|e
  ·exact key _ e (.inl rfl)
  ·exact key _ e (.inr rfl)
 ·intro x c hfn e;have hfn':scope.names.lookup x=some .cell:=lh.mp hfn;obtain⟨d,hd⟩:=jQ scope.names (s.heap.objs.size+1) [] x (.inl (gN hfn'));have e':(ze scope X.env s.heap.objs.size).lookup x=some c:=e;rw[yI hd] at e';cases e';exact mB (hnew x _ hd).2
 ·intro b hb;obtain⟨o,e⟩:=hob b hb;obtain⟨f0,f1,f2,f3,f4,f5⟩:=hf b hb;exact⟨old e,fun x c q=>csOf_ne I ok hnew q (fN e) (f4 x c)⟩
 ·intro b o e hb;obtain⟨f0,f1,f2,f3,f4,f5⟩:=hf b hb;rcases f3 with z|z
  ·exact I.ok.noex b o e z
  ·exact absurd (gA (gA (fN e) I.ok.bsz) z) (iy _)
 ·intro b hb hz;obtain⟨f0,f1,f2,f3,f4,f5⟩:=hf b hb;rcases fQ.mp (I.stkSub b hz) with z|z
  ·exact f1 z
  ·exact f2 z
 ·intro i x v e1 e2 e3;have e1:Nc[i]?=some x:=e1;unfold sub at e2;rw[fL] at e2;cases hi:ix[i]? with
  |none=>rw[hi] at e2;cases e2
  |some o=>
   cases o with
   |none=>rw[hi] at e2;cases e2
   |some j=>
    obtain⟨hN,hfree⟩:=ok.at_ hi e1;have e4:U[j]?=some (some v):=by
     rw[hi] at e2;have e2':some ((U[j]?).join)=some (some v):=e2;have e5:=fY e2';cases hj:U[j]? with
     |none=>rw[hj] at e5;cases e5
     |some z=>rw[hj] at e5;exact fS some e5
    have hvis:Vis X.env.scope x:=by
     rcases ok.free (x,.free) (gN hfree) rfl with q|q
     ·exact .inr (.inl q)
     ·exact .inr (.inr q)
    obtain⟨m0,hn0,hl⟩:=I.loc;obtain⟨u,r,lk⟩:=hl j x v hN e4 hvis;refine⟨u,r,.inr ⟨VU hfree,?_⟩⟩;rcases lk with⟨q,_⟩|⟨_,c,hc,z⟩
    ·rcases ok.free (x,.free) (gN hfree) rfl with q2|q2
     ·exact absurd (q.symm.trans q2) (by decide)
     ·exact absurd (q.symm.trans q2) (by decide)
    ·obtain⟨d,hd⟩:=VS (env:=X.env) (gN hfree);have:=Yn ac hd;rw[hc] at this;cases this;obtain⟨oc,e5,e6⟩:=z;have h0:(cellsFrom (s.heap.objs.size+1) scope.names []).lookup x=none:=by
      cases hz:(cellsFrom (s.heap.objs.size+1) scope.names []).lookup x with
      |none=>rfl
      |some d2=>
       rcases cf_mem _ _ _ _ _ (gN hz) with q|q
       ·cases q
       ·have:=ok.cells _ q rfl;rw[hfree] at this;cases this
     exact⟨c,k3 h0 hd,oc,hk c oc e5,e6⟩
 ·intro x c e;rcases X9 e with e|⟨_,e⟩
  ·exact⟨none,(hnew x c e).1⟩
  ·obtain⟨v,oc,e5,e6⟩:=I.cell x c (Yn ac e);exact⟨v,oc,hk c oc e5,e6⟩
 ·exact I.hok.fresh (fE _)
 ·intro x c e;rcases X9 e with e|⟨_,e⟩
  ·exact I.hok.fresh (mB (hnew x c e).2)
  ·exact I.freeC x c (Yn ac e)
 ·intro p hp;obtain⟨e,n,ne,nf,d⟩:=I.pin p hp;refine⟨hk _ _ e,n,old e,fun z=>?_,d⟩;rcases fQ.mp (I.stkSub p.1 z) with q|q
  ·exact ne q
  ·exact nf q
 ·unfold sub;rw[fF];exact ok.len
def comp_endC(I:Inv X db U H s)(hf:∀b∈fp,Vz X db H b)(hC:s.heap.get? C=none)
  (J:Inv (Wn X Nc scope cl C s H fp) db σ' H' s') (sb:Heap.SameBut C s'.heap h'):Inv X db U H' { s' with heap:=h' }:=by
 have u:Un (frs X.stack) fp H H' s.heap s'.heap:=J.base;have hCf:H' C=none:=J.free;have hCn:∀{b:Addr}{o:Obj},s.heap.get? b=some o->b≠C:=fun e z=>by rw[z,hC] at e;cases e
 refine I.call' (s':={ s' with heap:=h' }) (ch:=fp) J.os ⟨fun b o e n h1 h2=>?_,fun b o e n h1 h2=>?_,u.free,fun b o e h2=>?_,u.tups,u.frzs,u.tbls⟩ ?_ J.bare fun b hb=>?_
 ·exact(sb.2 b (hCn e)).trans (u.keep b o e n h1 h2)
 ·obtain⟨sl,q⟩:=u.slot b o e n h1 h2;exact⟨sl,(sb.2 b (hCn e)).trans q⟩
 ·obtain⟨o',q⟩:=u.there b o e h2;exact⟨o',(sb.2 b (hCn e)).trans q⟩
 ·intro b o e;refine(J.hok b o e).stay (fun c v hc q=>(sb.2 c ?_).trans q) (fun _ q=>q) fun _ _ q=>q;rintro rfl;rcases hc with z|z
  ·rw[<- z,hCf] at e;cases e
  ·rw[hCf] at z;cases z
 ·obtain⟨f0,f1,f2,f3,f4,f5⟩:=hf b hb;exact⟨f3,f1,f4,f5⟩
def comp_runC{g:TG}{Q:VK}(I:L2.Inv X db U H s)(h:tComp wi ix g tt te U H Q)
  (fin:∀(D C:Addr) (H':Hp) (s':Shared) (m:Str->Option Value),L2.Inv X db U H' s'->Vz X db H' C->s'.heap.Ns C m->Q (.ref D) H'->compPost (model X.prog X.w) X.A X.xe use QV (.ref D) C (.ok .next) s')
  (ok:XY X.env.scope X.N Nc ix scope) (hc:X.calm=true) (hi:PI X tg iter wi)
  (hg:∀cl C s H fp,PG (Wn X Nc scope cl C s H fp) tg g) (ht:∀cl C s H fp,PTs (Wn X Nc scope cl C s H fp) ifs tt) (he:∀cl C s H fp,PE (Wn X Nc scope cl C s H fp) elt te)
  (hs:∀x,foldedSetIterable iter X.env x=pure x:=by intro _;rfl):wpAny (model X.prog X.w) X.A (comprehension (.ListComp elt [⟨tg,iter,ifs,0⟩] scope pos) scope X.env pos2 (newList []) false (eval iter X.env) use) QV X.xe s:=by
 refine wpAny_comprehension_free (use:=use) (cl:=YN scope X.env) rfl hs (clos_eq (qk I ok)) ok.kind ok.names (thn (hi db s U H _ I h) fun v s1 q1=>thn q1 fun itv s2 q2=>?_);obtain⟨it,fp,tn,J,H1,e,I2,T,st2,f2,q⟩:=q2;subst e;have hD:H1 s2.heap.objs.size=none:=I2.hok.fresh (fE _);obtain⟨W,⟨m0,w0⟩,turn⟩:=q _ hD;refine ig ?_;have I3:Inv X db U (upd H1 s2.heap.objs.size (.lst [])) { s2 with heap:=s2.heap.push { cls:=.type "list",data:=.seq ([]:List Value).toArray } }:=
  I2.laid (t':=s2.toks) (fun b u e=>fM _ e) (fE _) ⟨gB _,[],0,.nil,ge _ rfl⟩
 have hob2:=T.obj 0 _ st2;have f3:∀b∈fp,Vz X db (upd H1 s2.heap.objs.size (.lst [])) b:=fun b hb=>by
  obtain⟨o,e,_⟩:=hob2 b hb;obtain⟨f0,fr⟩:=f2 b hb;exact⟨by rw[Zx (fP (fN e))];exact f0,fr⟩
 have st3:tn 0 (s2.heap.push { cls:=.type "list",data:=.seq ([]:List Value).toArray }):=T.keep 0 _ _ st2 fun b _ o e=>fM _ e;generalize hs3:({ s2 with heap:=s2.heap.push { cls:=.type "list",data:=.seq ([]:List Value).toArray } }:Shared)=s3 at I3 ⊢;have st3':tn 0 s3.heap:=by rw[<- hs3];exact st3
 refine Kb ?_;obtain⟨hns,k1,hnew,hap⟩:=cells_new s3.heap scope.names;generalize hh1:pushCells (s3.heap.push { cls:=.type "dict",data:=.dict #[] }) scope.names=h1 at hns k1 hnew ⊢;have hob3:∀b∈fp,∃o,s3.heap.get? b=some o:=fun b hb=>let ⟨o,e,_⟩:=T.obj 0 _ st3' b hb; ⟨o,e⟩
 have I4:Inv (Wn X Nc scope (ze scope X.env s3.heap.objs.size) s3.heap.objs.size s3 (upd H1 s2.heap.objs.size (.lst [])) fp) db (sub ix U) (upd H1 s2.heap.objs.size (.lst [])) { s3 with heap:=h1 }:=
  JI (t':=s3.toks) I3 ok f3 hob3 hns k1 hnew hap
 have st4:tn 0 h1:=T.keep 0 _ _ st3' fun b _ o e=>k1 b o e;have hC:s3.heap.get? s3.heap.objs.size=none:=Heap.get?_none_of_le (fE _);generalize hX:Wn X Nc scope (ze scope X.env s3.heap.objs.size) s3.heap.objs.size s3 (upd H1 s2.heap.objs.size (.lst [])) fp=Y at I4;have stat:∀{H':Hp},(∀b∈fp,H' b=none)->∀b∈fp,Vz Y db H' b:=fun {H'} hn b hb=>by
  obtain⟨o,e⟩:=hob3 b hb;obtain⟨f0,f1,ff,f3',f4,f5⟩:=f3 b hb;have nst:b∉frs X.stack:=fun z=>by
   rcases fQ.mp (I3.stkSub b z) with z|z
   ·exact f1 z
   ·exact ff z
  subst hX;exact⟨hn b hb,fP (fN e),nst,.inl hb,fun x c q=>csOf_ne I3 ok hnew q (fN e) (fun q'=>f4 x c q'),f5⟩
 have fin':∀{σ':St}{H':Hp}{s':Shared},L2.Inv Y db σ' H' s'->Q (.ref s2.heap.objs.size) H'->compPost (model X.prog X.w) X.A X.xe use QV (.ref s2.heap.objs.size) s3.heap.objs.size (.ok .next) s':=fun {σ' H' s'} J' qq=>by
  subst hX;obtain⟨m',hn',_⟩:=id J'.loc;have hCn:H' s3.heap.objs.size=none:=J'.free;exact fin _ _ H' s' m' (comp_endC (h':=s'.heap) I3 f3 hC J' (.refl ..)) (I3.fpOk (fE _) hCn) hn' qq
 have loop:codeAny (model X.prog X.w) X.A (.compLoop (.ListComp elt [⟨tg,iter,ifs,0⟩] scope pos) 0 (.ref it) (.ref s2.heap.objs.size) Y.env)
   (compPost (model X.prog X.w) X.A X.xe use QV (.ref s2.heap.objs.size) s3.heap.objs.size) { s3 with heap:=h1 }:=by
  have eP:Y.prog=X.prog:=by subst hX;rfl
  have eW:Y.w=X.w:=by subst hX;rfl
  have eK:Y.K=X.K:=by subst hX;rfl
  have eA:Y.A=X.A:=by subst hX;rfl
  have eE:Y.xe=fun _ _=>False:=by subst hX;rfl
  have eC:Y.calm=true:=by subst hX;exact hc
  have hgY:PG Y tg g:=by subst hX;exact hg _ _ _ _ _
  have htY:PTs Y ifs tt:=by subst hX;exact ht _ _ _ _ _
  have heY:PE Y elt te:=by subst hX;exact he _ _ _ _ _
  unfold PG at hgY;unfold PTs at htY;unfold PE at heY;rw[eP,eW,eA,eE] at hgY htY heY;refine loop_of (fun n s'=>∃i σ' H',Inv Y db σ' H' s'/\tn i s'.heap/\(∀b∈fp,H' b=none)/\W i n σ' H') ?_ m0 ⟨0,sub ix U,_,I4,st4,fun b hb=>(f3 b hb).1,w0⟩;rintro n s5 ⟨i,σ5,H5,I5,st5,fr5,w5⟩;have TI:=T.item Y eP eW eK eC i db s5 σ5 H5 (fun _ _=>False) I5 (stat fr5) st5;have TD:=T.done Y eP eW eK eC i db s5 σ5 H5 (fun _ _=>False) I5 (stat fr5) st5;rw[eA] at TI TD;rcases turn i n σ5 H5 w5 with⟨stop,qn⟩|⟨go,N,N0,hN,hN0,step⟩
  ·refine thn (TD stop) fun r s6 ⟨hr,I6⟩=>?_;subst hr;exact fin' I6 qn
  ·refine thn (TI go) fun r s6 ⟨u,hr,h6⟩=>?_;subst hr;refine thn h6 fun _ s7 ⟨x,H7,I7,r7,y7,st7,fr7⟩=>?_;have I7':=I7.pinned (stat fr7) (T.obj _ _ st7);refine thn (hgY _ s7 σ5 H7 x u _ I7' r7 (step x H7 y7)) fun _ s8 ⟨σ8,H8,I8,q8⟩=>?_;refine thn (htY _ s8 σ8 H8 _ I8 q8) fun c s9 ⟨H9,I9,q9⟩=>?_;have back:∀{σa:St}{Ha:Hp}{sa:Shared},Inv Y (db++qB fp s7.heap) σa Ha sa->(∃m',m'<n/\W (i+1) m' σa Ha)->∃m,m<n/\∃i σ' H',Inv Y db σ' H' sa/\tn i sa.heap/\(∀b∈fp,H' b=none)/\W i m σ' H':=fun {σa Ha sa} Ia ⟨m',hm,wa⟩=>by
    refine⟨m',hm,i+1,σa,Ha,Ia.unpinned,T.keep _ _ _ st7 fun b hb o e=>(Ia.pin (b,o) (gz _ (gz _ (Wi hb e)))).1,fun b hb=>?_,wa⟩;obtain⟨o,e,d⟩:=T.obj _ _ st7 b hb;exact(Ia.pin (b,o) (gz _ (gz _ (Wi hb e)))).2.1
   cases c with
   |false=>exact back I9 (hN0 _ _ (by simpa using q9))
   |true=>
    rw[if_pos rfl] at q9 ⊢;refine thn (heY _ s9 σ8 H9 _ I9 q9) fun z s10 ⟨v10,H10,I10,r10,q10⟩=>?_;obtain⟨xs,hx,hz,q10⟩:=hN _ _ _ q10;have ap:=ZY (X:=Y) (db++qB fp s7.heap) s10 σ8 H10 (.ref s2.heap.objs.size) [v10] (.ref s2.heap.objs.size) [z] (fun _ Hb=>∃m',m'<n/\W (i+1) m' σ8 Hb) I10 rfl (.cons r10 .nil) ⟨_,xs,v10,rfl,rfl,hx,hz,q10⟩;rw[eP,eW,eA,eE] at ap;exact thn ap fun _ s11 ⟨_,H11,I11,_,q11⟩=>back I11 q11
 have eenv:Y.env=compEnvC scope (ze scope X.env s3.heap.objs.size) s3.heap.objs.size X.env:=by subst hX;rfl
 rw[eenv] at loop;exact codeAny_compStart_list loop (T.self X.A 0 _ _ _ st4 loop)
def ya{x:Str}{spos:Pos}{g:TG}(hN:X.N.Nodup)(hi:X.N[i]?=some x)(hx:X.env.kindOf x=some .local)
  (ok:XY X.env.scope X.N Nc ix scope) (hc:X.calm=true) (hit:PI X tg iter wi)
  (hg:∀cl C s H fp,PG (Wn X Nc scope cl C s H fp) tg g) (ht:∀cl C s H fp,PTs (Wn X Nc scope cl C s H fp) ifs tt) (he:∀cl C s H fp,PE (Wn X Nc scope cl C s H fp) elt te)
  (hsw:swapsWith (.ListComp elt [⟨tg,iter,ifs,0⟩] scope pos) (some (.Name x pos')) spos.line X.env=pure true:=by rfl)
  (hs:∀x,foldedSetIterable iter X.env x=pure x:=by intro _;rfl):PS X (.Assign [.Name x pos'] (.ListComp elt [⟨tg,iter,ifs,0⟩] scope pos) spos) (tAsg (tComp wi ix g tt te) (VR i)):=by
 intro db s U H D I h;rw[exec_Assign_Name_used _ _ _ _ hsw];refine fD (lH (fD ?_))
 show wpAny _ X.A (do let _ <- comprehension (.ListComp elt [⟨tg,iter,ifs,0⟩] scope pos) scope X.env _ (newList []) false (eval iter X.env) (some (assign (.Name x pos') X.env))) _ _ s
 refine fD (thn (comp_runC (use:=some (assign (.Name x pos') X.env)) (QV:=fun _ s'=>SP X db D .next s') I h (fun L C H' s' m I' f hn qq=>?_) ok hc hit hg ht he hs) fun _ s' q=>fI (fI q));obtain⟨f0,f1,f2,f3,f4,f5⟩:=f;refine wpAny_assign_Name (zx (v:=.ref L) I' hN hi (.inl hx) rfl (fun s2 I2 ⟨a,sb,ha⟩=>?_) (.inr hx));have hCa:C≠a:=by
  rintro rfl;rcases ha with z|z
  ·exact f1 z
  ·exact f4 _ _ z rfl
 exact⟨m,hn.sameBut sb hCa,fun h' sb'=>⟨_,H',I2.turned (t':=s2.toks) (fun b o hb e=>(sb'.2 b hb).trans e) f0 f1 f3 f4 f5,qq⟩⟩
def ext_tup(l:Addr)(items:Array Value)(n:Nat)(b:Addr)(items2:Array Value)(n2:Nat)(dd:Option Addr)(sl:Array (Option Value))(hs0:¬(!items.isEmpty&&Builtin.List.listTooLong (items.size+items2.size))=true)(hs1:items.size<=sizeLine)(hs2:items.size+items2.size<=sizeLine+1) :
  Meets (Builtin.«list.extend» ⟨[.ref l,.ref b],[]⟩) (fun _ R s=>s.heap.get? l=some { cls:=.type "list",dict:=none,data:=.seq items n,slots:=#[] }/\s.heap.get? b=some { cls:=.type "tuple",dict:=dd,data:=.seq items2 n2,slots:=sl }/\R (.ok (.ret Value.none)) { s with heap:=s.heap.update l (Obj.mapSeq fun x=>x++items2),toks:=s.toks }):=
 .of_wp fun prog w A R s h=>by
  obtain⟨hp,g,d,tk,os⟩:=s;obtain⟨hl,hb,h⟩:=h;have f1:=AutoSeq1.idx_int;have f2:=AutoSeq1.sub_tuple_tuple;have f3:=AutoSeq1.sub_list_list;have f4:=AutoSeq1.sub_tuple_list;have f5:=AutoSeq1.sub_list_tuple;have hz':(items++items2).size<=sizeLine+1:=by rw[Array.size_append];exact hs2
  wp_walk using(lJ hl rfl (hz:=hs1) (_hz':=hz')),wpAny_loadPart' hl,wpAny_loadPart' hb;exact⟨_,rfl,h⟩
inductive xc(K:W.Frag)(x:V)(vs:List V)(H:Hp)(Q:VK):Prop
 |mk (l:_) (b:_) (xs:_) (zs:_) (h0:x=.ref l) (h1:vs=[.ref b]) (h2:H l=some (.lst xs)) (h3:SqT K H b zs) (h4:xs.length+zs.length<=sizeLine) (h5:Q .non (upd H l (.lst (xs++zs)))):xc K x vs H Q
def rExtendT(K:W.Frag):V->List V->Hp->VK->Prop:=fun x vs H Q=>xc K x vs H Q
def Kw(hK:X.K=K):MtM X "list.extend" (rExtendT K):=by
 subst hK;intro db s U H x vs v us Q I rx rv h;obtain⟨l,b,xs,zs,rfl,rfl,hH,hB,hz,q⟩:=h;cases rx;obtain⟨u,rfl,ru⟩:=rv.one;cases ru;obtain⟨z,its,n,r,hl,e⟩:=I.lstM hH;obtain⟨its2,r2,⟨o,e2,hc,n2,hd⟩,z2⟩:=I.tuple hB;obtain⟨c,dd,da,sl⟩:=o;have hc':c=.type "tuple" := hc;have hd':da=.seq its2.toArray n2:=hd;subst hc' hd';have hl2:=r2.length;have hsz:its.toArray.size+its2.toArray.size<=sizeLine:=by rw[fV,fV];omega
 have hlong:¬(!its.toArray.isEmpty&&Builtin.List.listTooLong (its.toArray.size+its2.toArray.size))=true:=by
  rw[xx hsz,Bool.and_false];exact gk
 refine lU F.slot_list_extend ⟨_,e,rfl⟩ F.entry_list_extend (F.args_list_extend_2 _ _)
  (ext_tup l its.toArray n b its2.toArray n2 dd sl hlong (by rw[fV];omega) (by omega)) ⟨e,e2,?_⟩
 refine⟨.non,_,I.lset (its':=its++its2) hH e (by simp) (r.append r2) ?_,rfl,q⟩;rw[fK];omega
def kc{sel:Nat->Bool}:∀(xs:List Value) (n k:Nat),(∀i,n<=i->i<n+xs.length->sel i=decide (n+k<=i))->((xs.zipIdx n).filterMap fun(x,i)=>if sel i=true then none else some x)=xs.take k
 |[],n,k,_=>by simp
 |x::r,n,k,h=>by
  have h0:=h n (fE _) (by simp);rw[List.zipIdx_cons,ng];cases k with
  |zero=>
   have e:sel n=true:=by rw[h0];simp
   simp only[e,ia];have:=kc (sel:=sel) r (n+1) 0 fun i h1 h2=>by rw[h i (by omega) (by simp;omega)];exact my.mpr ⟨fun _=>by omega,fun _=>by omega⟩
   simpa using this
  |succ k=>
   have e:sel n=false:=by rw[h0];exact gY (by omega)
   simp only[e,hV,gU];rw[List.take_succ_cons,kc (sel:=sel) r (n+1) k fun i h1 h2=>by rw[h i (by omega) (by simp;omega)];exact my.mpr ⟨fun _=>by omega,fun _=>by omega⟩]
def del_from{l:Addr}{k:Nat}{Q:Unit->Shared->Prop}(ho:s.heap.get? l=some { cls:=.type "list",data:=.seq items n })(hs:s.heap.IsSliceOf sl vl .none .none)(pl:IsPart vl (some (k:Int)))(hk:k<=items.size)(hsz:items.size<=sizeLine)
  (h:∀f:Array Value->Array Value,f items=(items.toList.take k).toArray->Q () { s with heap:=s.heap.update l (Obj.mapSeq f) }):wpAny (model prog w) A (delItem (.ref l) (.ref sl)) Q E s:=by
 have hT:s.TypeIs (.ref l) "list" := ⟨_,ho,rfl⟩;obtain⟨os,hos,hcs,hds⟩:=id hs;have hTs:s.TypeIs (.ref sl) "slice" := ⟨os,hos,hcs⟩;refine wpAny_delItem_slot hT (by decide) F.slot_list_delitem (io F.slot_list_delitem hT F.entry_list_delitem ?_ (F.args_list_delitem_2 _ _))
 show wpAny _ _ (Builtin.List.listSubscript? (.ref sl) >>= _) _ _ s
 refine fD ?_;unfold Builtin.List.listSubscript?;refine fD (mR hTs slice_no_index ?_);simp only[Option.isNone_none,ia];refine fI ?_
 show wpAny _ _ (typeOf (.ref sl) >>= _) _ _ s
 refine fD (wpAny_typeOf hTs ?_);rw[if_neg (by decide)];rw[listSliceParts_eq];refine fD (fD (ib hos hds (x:=.none) rfl (fD (wpAny_listPart .none ?_))));rw[if_neg (show ¬((rawPart none==rawInt 0)=true) from gk)];refine fD (ib hos hds (x:=vl) rfl (fD (wpAny_listPart pl ?_)));refine fD (ib hos hds (x:=.none) rfl (fD (wpAny_listPart .none (fI ?_))));refine fD (m:=Builtin.List.listItems (.ref l)) ?_;unfold Builtin.List.listItems;refine fD (mC ho rfl (fI ?_));have eb:sliceIndices (rawPart (some (k:Int))) (rawPart none) (rawPart none) items.size=pure ((k:Int),(items.size:Int),(1:Int)):=by
  rw[sliceIndices_raw _ _ _ _ (by simp)];have e1:(sliceBounds (some (k:Int)) none none items.size)=((k:Int),(items.size:Int),(1:Int)):=by
   unfold sliceBounds;simp;omega
  rw[e1]
 refine fD (wpAny_of_eq eb ?_);refine fD (l3 (fD ?_))
 show wpAny _ _ (updateSeq l _) _ _ s
 have hf:=kc (sel:=fun i=>if(1:Int)>0 then decide ((k:Int)<=i)&&decide ((i:Int)<(items.size:Int))&&((i:Int)-k)%1==0 else decide ((items.size:Int)<i)&&decide ((i:Int)<=k)&&((k:Int)-i)%(-1)==0) items.toList 0 k fun i h1 h2=>by
  have h2':i<items.size:=by simpa using h2
  simp only[show(1:Int)>0 by decide,ia];rw[Int.emod_one];simp;omega
 have hf':=fS List.toArray hf;refine lJ ho rfl ?_ hsz ?_
 ·exact fD (wpAny_letGo (fI ⟨_,rfl,h _ hf'⟩))
 ·refine fU (Nat.le_of_eq (fS Array.size hf')) ?_;rw[fV,gu];omega
def tDelFrom(te:TE)(tl:TE):L2.TS:=fun D U H=>te U H fun x H1=>tl U H1 fun y H2=>∃l xs k,x=.ref l/\y=.int ((k:Nat):Int)/\H2 l=some (.lst xs)/\k<=xs.length/\D.nx U (upd H2 l (.lst (xs.take k)))
def Kk{o lo:Expr}{p3:Pos}(ho:PE X o te)(hl:PE X lo tl):PS X (.Delete [.Subscript o (.Slice (some lo) none none p2) p3] pos) (tDelFrom te tl):=by
 intro db s U H D I h;refine wpAny_Delete (wpAny_deleteEach_cons (wpAny_delete_Subscript (thn (ho db s U H _ I h) fun u s1 ⟨x,H1,I1,rx,q1⟩=>?_)));refine wpAny_Slice ?_;rw[evalPart_some];refine thn (hl db s1 U H1 _ I1 q1) fun vl s2 ⟨y,H2,I2,ry,l,xs,k,ex,ey,hH,hk,q⟩=>?_;subst ex ey;obtain rfl:u=Value.ref l:=rx;obtain⟨t,rfl⟩:=(show ∃t,vl=Value.int ((k:Nat):Int) t from ry);rw[evalPart_none];refine fI (fI ?_);have I3:Inv X db U H2 { s2 with heap:=s2.heap.push { cls:=.type "slice",data:=.fields #[.int ((k:Nat):Int) t,.none,.none] } }:=I2.kept (t':=s2.toks) fun b ob q=>fM _ q;obtain⟨z,its,n,r,hlen,e⟩:=I3.lstM hH;refine del_from e (Heap.IsSliceOf.new ..) (.int _ t) (by rw[fV];omega) (by rw[fV];omega) fun f hf=>wpAny_deleteEach_nil ?_;refine⟨U,_,I3.lset (its':=its.take k) (t':=s2.toks) hH e ?_ (r.take k) (by rw[gu];omega),q⟩;simpa using hf
structure DicK(K:W.Frag)(P:Params)(D:Addr)(kvs:List (Str×Int)):Prop where
 ex:∃(es:Array DictEntry) (n:Nat),K.lookup D=some ⟨.type "dict",none,.dict es n,#[]⟩/\W.KeysLit P es.toList
 at_:∀p∈kvs,∃t,W.nsIn K D p.1=some (some (.int p.2 t))
 lo:(D==sysModules)=false
inductive rIxD_R(K:W.Frag)(P:Params)(x:V)(y:V)(H:Hp)(Q:VK):Prop
 |mk (D:_) (z:_) (kvs:_) (i:_) (h0:x=.ref D) (h1:y=.str z) (h2:DicK K P D kvs) (h3:(z,i)∈kvs) (h4:Q (.int i) H):rIxD_R K P x y H Q
def rIxD(K:W.Frag)(P:Params):R2:=fun x y H Q=>rIxD_R K P x y H Q
section
variable{P:Params}
def ix_dic(hK:X.K=K)(hw:X.w.params=P):IxR X (rIxD K P):=by
 subst hK hw;intro value slice db s U H x y v u Q I rx ry h hs;obtain⟨D,z,kvs,i,rfl,rfl,d,hm,q⟩:=h;obtain⟨t,rfl⟩:=(show ∃t,u=Value.str z t from ry);obtain rfl:v=Value.ref D:=rx;obtain⟨m,F⟩:=I.fr;obtain⟨es,n,lk,hk⟩:=d.ex;obtain⟨t2,ea⟩:=d.at_ _ hm;exact W.topItem_K F I.mod.kin lk hk ea ⟨.int i,H,I.tok _,⟨t2,rfl⟩,q⟩ hs
end
inductive Lb where
 |yes
 |sign (s:Str)
 |op (w:Str)
 |wit (m:Int)
 |many (w:Str)
inductive Tr where
 |node (c:Lb) (ks:List Tr)
def Tr.lb:Tr->Lb
 |.node c _=>c
def Tr.ks:Tr->List Tr
 |.node _ ks=>ks
def Tr.eta(t:Tr):t=.node t.lb t.ks:=by cases t;rfl
def W1:List Str:=["all","some","not","next","always","ever","before","once","sofar"]
def W2:List Str:=["until","since"]
def Xp:Lb->Nat->Prop
 |.yes,n=>n=0
 |.sign s,n=>n=0/\Yf s=true
 |.op w,n=>(w∈W1/\n=1)\/(w∈W2/\n=2)
 |.wit m,n=>(0<=m/\m<=5)/\n=2
 |.many w,n=>(w = "and" \/ w = "or")/\n<=8
def Zy:Lb->Str
 |.yes => "yes"
 |.sign _ => "sign"
 |.op w=>w
 |.wit _ => "within"
 |.many w=>w
def UI(K:W.Frag)(H:Hp)(a:Addr)(vs:List V):Lb->Prop
 |.yes=>vs=[]/\SqT K H a [.str "yes"]
 |.sign s=>vs=[]/\SqT K H a [.str "sign",.str s]
 |.op w=>SqT K H a (.str w::vs)
 |.wit m=>SqT K H a (.str "within" :: .int m::vs)
 |.many w=>∃b,SqT K H a [.str w,.ref b]/\SqT K H b vs
def At(K:W.Frag):Nat->Hp->V->Tr->Prop
 |0,_,_,_=>False
 |n+1,H,v,t=>∃a vs,v=.ref a/\UI K H a vs t.lb/\Xp t.lb t.ks.length/\vs.length=t.ks.length/\∀(i:Nat) u k,vs[i]?=some u->t.ks[i]?=some k->At K n H u k
def YH(H H':Hp):Prop:=∀(K:W.Frag) b xs,SqT K H b xs->SqT K H' b xs
def Ze.tup{H H':Hp}(s:Ze H H'):YH H H':=fun K b xs e=>Ze.seqT s e
def om:=@Ze.tup
def Zs.tup{p:Addr}{H H':Hp}{xs:List V}(s:Zs p H H')(hp:H p=some (.lst xs)):YH H H':=fun K b ys h=>by
 rcases h with(h|⟨o,h⟩)|h
 ·exact .inl (.inl (s _ _ (Vk h hp (by intro z;cases z)) h))
 ·exact .inl (.inr ⟨o,s _ _ (Vk h hp (by intro z;cases z)) h⟩)
 ·exact .inr h
def YH.trans(a:YH H H1)(b:YH H1 H2):YH H H2:=fun K c xs e=>b _ _ _ (a _ _ _ e)
variable{K:W.Frag}
def UI.mono(s:YH H H'){a:Addr}{c:Lb}(h:UI K H a vs c):UI K H' a vs c:=by
 cases c with
 |yes=>exact⟨h.1,s _ _ _ h.2⟩
 |sign z=>exact⟨h.1,s _ _ _ h.2⟩
 |op w=>exact s _ _ _ h
 |wit m=>exact s _ _ _ h
 |many w=>obtain⟨b,h1,h2⟩:=h;exact⟨b,s _ _ _ h1,s _ _ _ h2⟩
def At.mono{H H':Hp}(s:YH H H'):∀{n:Nat}{v:V}{t:Tr},At K n H v t->At K n H' v t
 |0,_,_,h=>h
 |n+1,v,t,⟨a,vs,e,sh,ok,l,q⟩=>⟨a,vs,e,sh.mono s,ok,l,fun i u k h1 h2=>At.mono s (q i u k h1 h2)⟩
def At.up{H:Hp}:∀{n:Nat}{v:V}{t:Tr},At K n H v t->At K (n+1) H v t
 |0,_,_,h=>h.elim
 |n+1,v,t,⟨a,vs,e,sh,ok,l,q⟩=>⟨a,vs,e,sh,ok,l,fun i u k h1 h2=>At.up (q i u k h1 h2)⟩
def At.le{m:Nat}{t:Tr}(h:At K n H v t)(hm:n<=m):At K m H v t:=by
 induction hm with
 |refl=>exact h
 |step _ ih=>exact ih.up
def AtL(K:W.Frag)(n:Nat)(H:Hp)(vs:List V)(ts:List Tr):Prop:=vs.length=ts.length/\∀(i:Nat) u k,vs[i]?=some u->ts[i]?=some k->At K n H u k
def AtL.mono{n:Nat}{H H':Hp}{vs:List V}{ts:List Tr}(s:YH H H')(h:AtL K n H vs ts):AtL K n H' vs ts:=⟨h.1,fun i u k h1 h2=>(h.2 i u k h1 h2).mono s⟩
def AtL.le{n m:Nat}{H:Hp}{vs:List V}{ts:List Tr}(h:AtL K n H vs ts)(hm:n<=m):AtL K m H vs ts:=⟨h.1,fun i u k h1 h2=>(h.2 i u k h1 h2).le hm⟩
def AtL.nil:AtL K n H [] []:=⟨rfl,fun i u k h=>by simp at h⟩
def AtL.one{t:Tr}(h:At K n H v t):AtL K n H [v] [t]:=⟨rfl,fun i u k h1 h2=>by
 cases i with
 |zero=>cases h1;cases h2;exact h
 |succ i=>simp at h1⟩
def AtL.app{us:List V}{ts rs:List Tr}(h:AtL K n H vs ts)(g:AtL K n H us rs):AtL K n H (vs++us) (ts++rs):=by
 refine⟨by rw[fK,fK,h.1,g.1],fun i u k h1 h2=>?_⟩
 by_cases hi:i<vs.length
 ·rw[gm hi] at h1;rw[gm (by rw[<- h.1];exact hi)] at h2;exact h.2 i u k h1 h2
 ·rw[gy (by omega)] at h1;rw[gy (by rw[<- h.1];omega),<- h.1] at h2;exact g.2 _ u k h1 h2
def AtL.rev{ts:List Tr}(h:AtL K n H vs ts):AtL K n H vs.reverse ts.reverse:=by
 refine⟨by rw[iE,iE,h.1],fun i u k h1 h2=>?_⟩;have hi:=(fO.mp h1).1;rw[iE] at hi;rw[mS hi] at h1;rw[mS (by rw[<- h.1];exact hi),<- h.1] at h2;exact h.2 _ u k h1 h2
def AtL.last{ts:List Tr}(h:AtL K n H vs ts)(hne:vs≠[]):∃us u rs r,vs=us++[u]/\ts=rs++[r]/\AtL K n H us rs/\At K n H u r:=by
 have hl:=iR.mpr hne;have ht:ts≠[]:=fun e=>by rw[e] at h;have:=h.1;simp at this;exact hne this
 have e1:=nY hne;have e2:=nY ht;have hl1:vs.dropLast.length=ts.dropLast.length:=by rw[nr,nr,h.1]
 refine⟨vs.dropLast,vs.getLast hne,ts.dropLast,ts.getLast ht,e1.symm,e2.symm,⟨hl1,fun i u k h1 h2=>?_⟩,?_⟩
 ·have hi:=(fO.mp h1).1;refine h.2 i u k ?_ ?_
  ·rw[<- e1,gm hi];exact h1
  ·rw[<- e2,gm (by rw[<- hl1];exact hi)];exact h2
 ·refine h.2 (vs.length-1) _ _ ?_ ?_
  ·rw[List.getLast_eq_getElem];exact fG _
  ·rw[List.getLast_eq_getElem,h.1];exact fG _
mutual
def roomT:Tr->Bool
 |.node c ks=>match c with
  |.yes=>true
  |.sign _=>true
  |.op w=>if w = "all" \/ w = "some" then true else if w = "not" then jb ks else false
  |.wit _=>false
  |.many _=>jb ks
def jb:List Tr->Bool
 |[]=>true
 |t::r=>roomT t&&jb r
end
def roomL_all:∀ks:List Tr,jb ks=ks.all roomT
 |[]=>by rw[jb];rfl
 |t::r=>by rw[jb,roomL_all r,lT]
mutual
def post:Tr->List Tr
 |.node c ks=>Yi ks++[.node c ks]
def Yi:List Tr->List Tr
 |[]=>[]
 |t::r=>post t++Yi r
end
def WS(t:Tr):post t=Yi t.ks++[t]:=by cases t;rw[post];rfl
def zB:∀(a b:List Tr),Yi (a++b)=Yi a++Yi b
 |[],b=>by rw[lV,Yi,lV]
 |t::r,b=>by rw[mT,Yi,zB r b,Yi,iO]
def jn(t:Tr):Yi [t]=post t:=by rw[Yi,Yi,iB]
def post_turn(ws:List Tr)(w:Tr):(Yi (ws++[w])).reverse=w::(Yi (ws++w.ks)).reverse:=by
 rw[zB,zB,jn,WS w];simp
mutual
def YJ{α:Type}(F:Lb->List α->α):Tr->α
 |.node c ks=>F c (valL F ks)
def valL{α:Type}(F:Lb->List α->α):List Tr->List α
 |[]=>[]
 |t::r=>YJ F t::valL F r
end
def Jt{α:Type}(F:Lb->List α->α):∀ks:List Tr,valL F ks=ks.map (YJ F)
 |[]=>by rw[valL];rfl
 |t::r=>by rw[valL,Jt F r];rfl
def WL(F:Lb->List α->α)(t:Tr):YJ F t=F t.lb (t.ks.map (YJ F)):=by
 cases t with
 |node c ks=>rw[YJ,Jt];rfl
section
variable{α:Type}{F:Lb->List α->α}
def qa(F:Lb->List α->α)(st:List α)(t:Tr):List α:=st.take (st.length-t.ks.length)++[F t.lb (st.drop (st.length-t.ks.length))]
def xz(F:Lb->List α->α):List α->List Tr->Prop
 |_,[]=>True
 |st,t::r=>(t.ks.length<=st.length/\st.drop (st.length-t.ks.length)=t.ks.map (YJ F))/\xz F (qa F st t) r
def runF(F:Lb->List α->α):List α->List Tr->List α
 |st,[]=>st
 |st,t::r=>runF F (qa F st t) r
def stepF_app(st:List α)(t:Tr):qa F (st++t.ks.map (YJ F)) t=st++[YJ F t]:=by
 unfold qa;have e:(st++t.ks.map (YJ F)).length-t.ks.length=st.length:=by rw[fK,fF];omega
 rw[e,List.take_left,List.drop_left,<- WL F t]
mutual
def kO:∀(t:Tr) (st:List α) (r:List Tr),(xz F (st++[YJ F t]) r->xz F st (post t++r))/\runF F st (post t++r)=runF F (st++[YJ F t]) r
 |.node c ks,st,r=>by
  obtain⟨h1,h2⟩:=vG ks st (.node c ks::r);have e':qa F (st++ks.map (YJ F)) (.node c ks)=st++[YJ F (.node c ks)]:=stepF_app st (.node c ks);rw[post,iO,List.singleton_append];refine⟨fun h=>h1 ⟨⟨?_,?_⟩,?_⟩,?_⟩
  ·show ks.length<=_
   rw[fK,fF];omega
  ·show(st++ks.map (YJ F)).drop ((st++ks.map (YJ F)).length-ks.length)=ks.map (YJ F)
   have e:(st++ks.map (YJ F)).length-ks.length=st.length:=by rw[fK,fF];omega
   rw[e,List.drop_left]
  ·rw[e'];exact h
  ·rw[h2,runF,e']
def vG:∀(ks:List Tr) (st:List α) (r:List Tr),(xz F (st++ks.map (YJ F)) r->xz F st (Yi ks++r))/\runF F st (Yi ks++r)=runF F (st++ks.map (YJ F)) r
 |[],st,r=>by
  rw[Yi,lV,List.map_nil,iB];exact⟨id,rfl⟩
 |t::ks,st,r=>by
  obtain⟨h1,h2⟩:=kO t st (Yi ks++r);obtain⟨h3,h4⟩:=vG ks (st++[YJ F t]) r;rw[Yi,iO,fZ];have e:st++YJ F t::ks.map (YJ F)=st++[YJ F t]++ks.map (YJ F):=by simp
  rw[e];exact⟨fun h=>h1 (h3 h),by rw[h2,h4]⟩
end
def run_all(t:Tr):xz F [] (post t)/\runF F [] (post t)=[YJ F t]:=by
 obtain⟨h1,h2⟩:=kO (F:=F) t [] [];rw[iB] at h1 h2;exact⟨h1 trivial,h2⟩
end
mutual
def post_mem:∀(t:Tr),t∈post t
 |.node c ks=>by rw[post];simp
end
def Xt{p A:Prop}[Decidable p](h:p)(a:A):if decide p=true then A else B:=by rw[if_pos (gO h)];exact a
def Z1{p A:Prop}[Decidable p](h:¬p)(b:B):if decide p=true then A else B:=by rw[if_neg (by simpa using h)];exact b
def qD{p:Prop}[Decidable p]{Q:VK}(h:p)(q:Q (.bl true) H):Q (.bl (decide p)) H:=by rw[gO h];exact q
def WU(hK:X.K=K):SlR X (rSlT K):=by subst hK;exact sl_tup
def U9{w:Str}{ss:List Str}{A:Prop}(h:w∈ss)(a:A):if inV (.str w) (ss.map V.str)=true then A else B:=by rw[if_pos (j4.mpr h)];exact a
def Xr{w:Str}{ss:List Str}{A:Prop}(h:w∉ss)(b:B):if inV (.str w) (ss.map V.str)=true then A else B:=by rw[if_neg (fun e=>h (j4.mp e))];exact b
def LK:List (Str×Int):=[("all",2),("some",2),("not",2),("next",2),("always",2),("ever",2),("before",2),("once",2),("sofar",2),("until",3),("since",3)]
def JC:∀w∈W1++W2,w ≠ "yes" /\ w ≠ "sign" /\ w∉(["and","or"]:List Str)/\w ≠ "within" /\ w∉(["yes","sign"]:List Str):=by decide +kernel
def V3:∀w∈(["and","or"]:List Str),w ≠ "yes" /\ w ≠ "sign" /\ w ≠ "within" /\ w∉(["yes","sign"]:List Str)/\w∉(["yes","sign","all","some"]:List Str)/\w∈(["not","and","or"]:List Str):=by decide +kernel
def lk1:∀w∈W1,(w,(2:Int))∈LK:=by decide +kernel
def lk2:∀w∈W2,(w,(3:Int))∈LK:=by decide +kernel
def W8(z:Str):∃t,Ux K H (.str z) t/\W.kitOne K t (.type "str")=some true:=⟨_,.str _,rfl⟩
def UI.tup{H:Hp}{a:Addr}{vs:List V}{c:Lb}(h:UI K H a vs c):∃xs,SqT K H a (.str (Zy c)::xs):=by
 cases c with
 |yes=>exact⟨[],h.2⟩
 |sign s=>exact⟨[.str s],h.2⟩
 |op w=>exact⟨vs,h⟩
 |wit m=>exact⟨.int m::vs,h⟩
 |many w=>obtain⟨b,h1,_⟩:=h;exact⟨[.ref b],h1⟩
inductive rIsT_R(K:W.Frag)(xs:List V)(H:Hp)(Q:VK):Prop
 |mk (x:_) (h0:xs=[x,.ty "tuple"]) (h1:((∃a ys,x=.ref a/\SqT K H a ys/\Q (.bl true) H)\/∃t,Ux K H x t/\W.kitOne K t (.type "tuple")=some false/\Q (.bl false) H)):rIsT_R K xs H Q
def rIsT(K:W.Frag):List V->Hp->VK->Prop:=fun xs H Q=>rIsT_R K xs H Q
def JQ(hK:X.K=K):Ym X (.builtin "isinstance") (rIsT K):=by
 subst hK;intro db s U H xs us Q I r h;obtain⟨x,rfl,h⟩:=h;obtain⟨u,v,rfl,ru,rv⟩:=vals2 r;obtain rfl:v=Value.type "tuple" := rv;rcases h with⟨a,ys,rfl,hq,q⟩|⟨t,ht,hk,q⟩
 ·obtain rfl:u=Value.ref a:=ru;obtain⟨its,r,⟨o,h1,h2,h3⟩,hz⟩:=I.tuple hq;exact ir (b:=true) W.kitx_tuple I.kIn ⟨o,h1,h2⟩ rfl (fun z=>nomatch z) fun tk=>⟨.bl true,H,I.tok _,rfl,q⟩
 ·exact vX I ru ht hk fun tk=>⟨.bl false,H,I.tok _,rfl,q⟩
def Yq.units2{k:Nat}(r:Yq k A):A.units+195<cLine:=by have:=r.un;omega
end L3
variable{st:L3.Tr->List Int}{ps ss ts:List L3.Tr}{c:L3.Lb}
namespace L3
open PySem PySem.Spec PyProof.Rows L2
def Itv(K:W.Frag)(a:Addr)(n:Nat):It:=
 ⟨fun i H=>i<n/\∃xs,SqL K H a xs/\xs.length=n,fun i H x H'=>H'=H/\∀xs,SqL K H a xs->xs[n-1-i]?=some x,fun i _=>n<=i⟩
def turn_rev(a it:Addr)(n:Nat):Turn P w K tg (Itv K a n) [it] it (fun i h=>i<=n/\h.IsRevIter it a ((n:Int)-1-(i:Int))) where
 mem:=by simp
 obj:=fun i h st b hb=>by
  have e:b=it:=by simpa using hb
  subst e;obtain⟨_,o,e,c,d⟩:=st;exact⟨o,e,fun v z=>by rw[d] at z;cases z⟩
 keep:=fun i h h' st k=>⟨st.1,st.2.at fun o e=>k it (by simp) o e⟩
 item:=by
  intro X hP hw hK hc i db s U H E I hf st hg;subst hP hw hK;obtain⟨hi,xs,hq,hn⟩:=hg;obtain⟨its,rv,p,hz⟩:=I.list hq;have hx:xs[n-1-i]?=some (xs[n-1-i]'(by omega)):=fG (by omega);obtain⟨u,hu,ru⟩:=rv.get hx;obtain⟨f0,f1,f2,f3,f4,f5⟩:=hf it (by simp);have e:(n:Int)-1-(i:Int)=((n-1-i:Nat):Int):=by omega
  have st2:=st.2;rw[e] at st2;refine wpAny_pyNext_rev_item st2 p.isList (x:=u) (by simpa using hu) fun h' st' sb=>?_;have I1:Inv X db U H { s with heap:=h' }:=I.turned (t':=s.toks) (fun b o hb e=>(sb.2 b hb).trans e) f0 f1 f3 f4 f5;have e2:((n-1-i:Nat):Int)-1=(n:Int)-1-((i+1:Nat):Int):=by omega
  rw[e2] at st';obtain⟨o,e,c,d⟩:=id st';exact⟨u,rfl,go_of (s:={ s with heap:=h' }) e c d (by decide) ⟨_,H,I1,ru,⟨rfl,fun ys hy=>by rw[I.list_inj hy hq];exact hx⟩,⟨hi,st'⟩,fun b hb=>(hf b hb).1⟩⟩
 done:=by
  intro X hP hw hK hc i db s U H E I hf st hg;subst hP hw hK;have hn:n<=i:=hg;obtain⟨f0,f1,f2,f3,f4,f5⟩:=hf it (by simp);have e:(n:Int)-1-(i:Int)=-1:=by have:=st.1;omega
  have st2:=st.2;rw[e] at st2;exact wpAny_pyNext_rev_end (I.ok.hd hc) st2 fun h' eb=>⟨rfl,I.turned (t':=s.toks) (fun b o hb e=>eb b o hb e) f0 f1 f3 f4 f5⟩
 self:=fun _ _ _ _ _ st h=>wpAny_pyIter_revIter st.2 h
def iRev(K:W.Frag)(ta:TA):TI:=fun U H R=>ta U H fun vs H1=>∃a xs,vs=[.ref a]/\SqL K H1 a xs/\R (Itv K a xs.length) H1
def pi_revK{a:Expr}{p:Pos}(hK:X.K=K)(hg:Gl X "reversed")(hm:X.mg "reversed" = none)(ha:PA X [a] ta)(hs:starEach [a] X.env=[(false,eval a X.env)]:=by rfl) :
  PI X tg (.Call (.Name "reversed" p) [a] [] pos) (iRev K ta):=by
 subst hK;intro db s U H R I h;refine Call_ (VY I hg hm PyProof.Rows.boot_reversed (mo (thn (ha pos db s U H _ I h) fun us s1 ⟨vs,H1,I1,r1,q1⟩=>?_) hs rfl));obtain⟨l,xs,rfl,hq,q⟩:=q1;obtain⟨u,rfl,ru⟩:=Vo r1;obtain rfl:u=Value.ref l:=ru;obtain⟨its,rv,pl,hz⟩:=I1.list hq;have hl:=rv.length;refine call_reversed_list pl.isList ?_;have st:(s1.heap.push (revObj l ((its.toArray.size:Int)-1))).IsRevIter s1.heap.objs.size l ((xs.length:Int)-1-((0:Nat):Int)):=⟨_,ge _ rfl,rfl,by
  show Data.fields #[Value.ref l,rawInt ((its.toArray.size:Int)-1)]=_
  have e:(its.toArray.size:Int)-1=(xs.length:Int)-1-((0:Nat):Int):=by rw[fV];omega
  rw[e]⟩
 refine wpAny_pyIter_revIter st ?_;refine⟨s1.heap.objs.size,[s1.heap.objs.size],_,_,H1,rfl,I1.kept (t':=s1.toks) fun b o e=>fM _ e,turn_rev l _ xs.length,⟨gB _,st⟩,fun b hb=>?_,q⟩;have e:b=s1.heap.objs.size:=by simpa using hb
 subst e;exact I1.fpOk (fE _) (I1.hok.fresh (fE _))
def xQ(hK:X.K=K):OpR X (binaryOp .Add) (rCatT K):=by subst hK;exact op_catT
abbrev qJ:Tr:=.node .yes []
abbrev zz(t:Tr):Tr:=.node (.op "not") [t]
abbrev nNext(t:Tr):Tr:=.node (.op "next") [t]
abbrev nSome(t:Tr):Tr:=.node (.op "some") [t]
abbrev nAnd(a b:Tr):Tr:=.node (.many "and") [a,b]
abbrev nUnt(a b:Tr):Tr:=.node (.op "until") [a,b]
abbrev nSin(a b:Tr):Tr:=.node (.op "since") [a,b]
def andT:List Tr->Tr
 |[]=>qJ
 |[x]=>x
 |x::y::r=>nAnd x (andT (y::r))
def orT:List Tr->Tr
 |[]=>zz qJ
 |[x]=>x
 |x::y::r=>zz (nAnd (zz x) (zz (orT (y::r))))
def withinT:Nat->Tr->Tr->Tr
 |0,_,s=>s
 |n+1,f,s=>zz (nAnd (zz s) (zz (nAnd f (nNext (withinT n f s)))))
def coreF(c:Lb)(cs:List Tr):Tr:=match c with
 |.yes=>qJ
 |.sign s=>.node (.sign s) []
 |.many w=>if w = "and" then andT cs else orT cs
 |.wit m=>withinT m.toNat (cs.getD 0 qJ) (cs.getD 1 qJ)
 |.op w=>if w = "all" then zz (nSome (zz (cs.getD 0 qJ))) else if w = "ever" then nUnt qJ (cs.getD 0 qJ) else if w = "always" then zz (nUnt qJ (zz (cs.getD 0 qJ)))
  else if w = "once" then nSin qJ (cs.getD 0 qJ) else if w = "sofar" then zz (nSin qJ (zz (cs.getD 0 qJ))) else .node (.op w) cs
def mx(l:List Nat):Nat:=l.foldr max 0
def mx_le{l:List Nat}{m:Nat}:mx l<=m↔∀x∈l,x<=m:=by
 induction l with
 |nil=>simp[mx]
 |cons a r ih=>
  have e:mx (a::r)=max a (mx r):=rfl;rw[e,Nat.max_le,ih];simp
def hgt:Tr->Nat:=YJ fun _ hs=>mx hs+1
def hgt_eq(t:Tr):hgt t=mx (t.ks.map hgt)+1:=WL _ t
def dpt:Tr->Nat:=YJ fun c ds=>match c with|.many _=>mx ds+2|_=>mx ds+1
def dpt_eq(t:Tr):dpt t=match t.lb with|.many _=>mx (t.ks.map dpt)+2|_=>mx (t.ks.map dpt)+1:=WL _ t
def psz(t:Tr):Nat:=(post t).length
def jX(t:Tr):psz t=(t.ks.map psz).sum+1:=by
 have key:∀ks:List Tr,(Yi ks).length=(ks.map psz).sum:=by
  intro ks
  induction ks with
  |nil=>rfl
  |cons a r ih=>rw[Yi,fK,ih,fZ,List.sum_cons];rfl
 unfold psz;rw[WS t,fK,key];rfl
def Xe(t:Tr):1<=psz t:=by rw[jX];omega
def At.hgt_le{K:W.Frag}{H:Hp}:∀{n:Nat}{v:V}{t:Tr},At K n H v t->hgt t<=n
 |0,_,_,h=>h.elim
 |n+1,v,t,⟨a,vs,e,sh,ok,l,q⟩=>by
  rw[hgt_eq];have:mx (t.ks.map hgt)<=n:=mx_le.mpr fun x hx=>by
   obtain⟨k,hk,rfl⟩:=gn.mp hx;obtain⟨i,hi,rfl⟩:=gI hk;exact At.hgt_le (q i _ _ (fG (by omega)) (fG hi))
  omega
def Wx(c:Lb)(ks:List Tr):psz (.node c ks)=(ks.map psz).sum+1:=jX _
def W6:List Str:=["not","next","until","before","since","some"]
def Us(c:Lb)(bs:List Bool):Bool:=bs.all id&&match c with
 |.yes=>bs.isEmpty
 |.sign _=>bs.isEmpty
 |.op w=>decide (w∈W6)
 |.wit _=>false
 |.many w=>decide (w = "and")&&decide (bs.length=2)
def isC:Tr->Bool:=YJ Us
def isC_eq(t:Tr):isC t=Us t.lb (t.ks.map isC):=WL Us t
def YG(c:Lb)(ks:List Tr):isC (.node c ks)=Us c (ks.map isC):=isC_eq _
def xS{t:Tr}(h:isC t=true):∀k∈t.ks,isC k=true:=by
 rw[isC_eq] at h;unfold Us at h;rw[gv] at h;intro k hk;have:=g9.mp h.1 (isC k) (l6 hk);exact this
def OkN:Nat->Tr->Prop
 |0,_=>False
 |n+1,t=>Xp t.lb t.ks.length/\∀k∈t.ks,OkN n k
def At.ok{K:W.Frag}{H:Hp}:∀{n:Nat}{v:V}{t:Tr},At K n H v t->OkN n t
 |0,_,_,h=>h
 |n+1,v,t,⟨a,vs,e,sh,ok,l,q⟩=>⟨ok,fun k hk=>by
  obtain⟨i,hi,rfl⟩:=gI hk;exact At.ok (q i _ _ (fG (by omega)) (fG hi))⟩
def Bz:Nat->Nat
 |0=>1
 |n+1=>11*Bz n+35
def at_yes{t:Addr}(e:SqT K H t [.str "yes"]):At K (n+1) H (.ref t) (.node .yes []):=⟨t,[],rfl,⟨rfl,e⟩,rfl,rfl,fun i u k h=>by simp at h⟩
def at_sign{t:Addr}(e:SqT K H t [.str "sign",.str z])(hz:Yf z=true):At K (n+1) H (.ref t) (.node (.sign z) []):=⟨t,[],rfl,⟨rfl,e⟩,⟨rfl,hz⟩,rfl,fun i u k h=>by simp at h⟩
def at_op1{t:Addr}{w:Str}{u:V}{k:Tr}(e:SqT K H t [.str w,u])(hw:w∈W1)(h:At K n H u k):At K (n+1) H (.ref t) (.node (.op w) [k]):=⟨t,[u],rfl,e,.inl ⟨hw,rfl⟩,rfl,(AtL.one h).2⟩
def at_op2{t:Addr}{w:Str}{u:V}{k r:Tr}(e:SqT K H t [.str w,u,v])(hw:w∈W2)(h:At K n H u k)(g:At K n H v r):At K (n+1) H (.ref t) (.node (.op w) [k,r]):=⟨t,[u,v],rfl,e,.inr ⟨hw,rfl⟩,rfl,((AtL.one h).app (AtL.one g)).2⟩
def at_mny{t b:Addr}{w:Str}{us:List V}{ks:List Tr}(e:SqT K H t [.str w,.ref b])(eb:SqT K H b us)(h:AtL K n H us ks)(hw:w = "and" \/ w = "or")(hk:ks.length<=8):At K (n+1) H (.ref t) (.node (.many w) ks):=⟨t,us,rfl,⟨b,e,eb⟩,⟨hw,hk⟩,h.1,h.2⟩
def AtL.two{u:V}{a b:Tr}(h:At K n H u a)(g:At K n H v b):AtL K n H [u,v] [a,b]:=(AtL.one h).app (AtL.one g)
def Jy{xs:List V}{u:V}:atI (xs++[u]) (-1)=some u:=by
 have:=atI_back (xs:=xs++[u]) (k:=1) (by decide) (by simp);simpa using this
def dF(c:Lb)(ds:List PyData):PyData:=match c with
 |.yes=>.tuple [.str "yes"]
 |.sign s=>.tuple [.str "sign",.str s]
 |.op w=>.tuple (.str w::ds)
 |.wit m=>.tuple (.str "within" :: .int m::ds)
 |.many w=>.tuple [.str w,.tuple ds]
def dTr:Tr->PyData:=YJ dF
def kC(t:Tr):dTr t=dF t.lb (t.ks.map dTr):=WL dF t
def xT{K:W.Frag}{H:Hp}:∀{vs:List V}{ks:List Tr},vs.length=ks.length->(∀(i:Nat) u k,vs[i]?=some u->ks[i]?=some k->Dp K H u (dTr k))->XS K H vs (ks.map dTr)
 |[],[],_,_=>.nil
 |v::vs,k::ks,hl,h=>.cons (h 0 v k rfl rfl) (xT (by simpa using hl) fun i u k h1 h2=>h (i+1) u k h1 h2)
 |[],k::ks,hl,_=>by cases hl
 |v::vs,[],hl,_=>by cases hl
def At.dp{K:W.Frag}{H:Hp}:∀{n:Nat}{v:V}{t:Tr},At K n H v t->Dp K H v (dTr t)
 |0,_,_,h=>h.elim
 |n+1,v,t,⟨a,vs,e,sh,ok,l,q⟩=>by
  have all:XS K H vs (t.ks.map dTr):=xT l fun i u k h1 h2=>At.dp (q i u k h1 h2);rw[kC];subst e
  revert sh ok
  cases t.lb with
  |yes=>intro sh ok;exact .tup sh.2 (.cons (.str _) .nil)
  |sign s=>intro sh ok;exact .tup sh.2 (.cons (.str _) (.cons (.str _) .nil))
  |op w=>intro sh ok;exact .tup sh (.cons (.str _) all)
  |wit m=>intro sh ok;exact .tup sh (.cons (.str _) (.cons (.int _) all))
  |many w=>intro sh ok;obtain⟨b,h1,h2⟩:=sh;exact .tup h1 (.cons (.str _) (.cons (.tup h2 all) .nil))
def w_name:∀w∈W1++W2,Yf w=true:=by decide +kernel
def m_name:∀w∈(["and","or"]:List Str),Yf w=true:=by decide +kernel
def UV{s:Str}(h:Yf s=true):(PyData.str s).canLay0=true:=by simp[PyData.canLay0,J5 h]
def OkN.fine:∀{n:Nat}{t:Tr},OkN n t->V7 (dpt t) (dTr t)
 |0,_,h=>h.elim
 |n+1,t,⟨ok,h⟩=>by
  have ih:∀k∈t.ks,V7 (mx (t.ks.map dpt)) (dTr k):=fun k hk=>(OkN.fine (h k hk)).up ((mx_le (m:=mx (t.ks.map dpt))).mp (fE _) _ (l6 hk));obtain⟨a,b⟩:=fineAll ih;rw[kC,dpt_eq]
  revert ok
  cases t.lb with
  |yes=>
   intro ok;have y:=UV (s := "yes") (by decide +kernel);exact⟨by simp[dF,PyData.canLay0,PyData.canLayAll0] at y ⊢; exact y,by simp[dF,PyData.depth,PyData.depthAll]⟩
  |sign s=>
   intro ok;have y:=UV (s := "sign") (by decide +kernel);have z:=UV ok.2;exact⟨by simp[dF,PyData.canLay0,PyData.canLayAll0] at y z ⊢; exact⟨y,z⟩,by simp[dF,PyData.depth,PyData.depthAll]⟩
  |op w=>
   intro ok;have y:=UV (w_name w (by rcases ok with ok|ok;exact g8 _ ok.1;exact gz _ ok.1));refine⟨?_,?_⟩
   ·show(PyData.tuple (.str w::t.ks.map dTr)).canLay0=true
    rw[PyData.canLay0,PyData.canLayAll0,y,a];rfl
   ·show(PyData.tuple (.str w::t.ks.map dTr)).depth<=mx (t.ks.map dpt)+1
    simp only[PyData.depth,PyData.depthAll];omega
  |wit m=>
   intro ok;have y:=UV (s := "within") (by decide +kernel);have z:(PyData.int m).canLay0=true:=by simp[PyData.canLay0]
   refine⟨?_,?_⟩
   ·show(PyData.tuple (.str "within" :: .int m::t.ks.map dTr)).canLay0=true
    rw[PyData.canLay0,PyData.canLayAll0,PyData.canLayAll0,y,z,a];rfl
   ·show(PyData.tuple (.str "within" :: .int m::t.ks.map dTr)).depth<=mx (t.ks.map dpt)+1
    simp only[PyData.depth,PyData.depthAll];omega
  |many w=>
   intro ok;have y:=UV (m_name w (by rcases ok.1 with rfl|rfl<;>simp));refine⟨?_,?_⟩
   ·show(PyData.tuple [.str w,.tuple (t.ks.map dTr)]).canLay0=true
    rw[PyData.canLay0,PyData.canLayAll0,PyData.canLayAll0,PyData.canLayAll0,y,PyData.canLay0,a];rfl
   ·show(PyData.tuple [.str w,.tuple (t.ks.map dTr)]).depth<=mx (t.ks.map dpt)+2
    simp only[PyData.depth,PyData.depthAll];omega
abbrev NW:List Str:=["yes","sign","and","or","within"]
inductive Fm(K:W.Frag)(H:Hp):V->Prop
 |noT {v:V}:Kd H v->Xn H "tuple" v=false->Fm K H v
 |emp {a:Addr}:SqT K H a []->Fm K H (.ref a)
 |noS {a:Addr}{x:V}{xs:List V}:SqT K H a (x::xs)->Kd H x->Xn H "str" x=false->Fm K H (.ref a)
 |yes {a:Addr}{xs:List V}:SqT K H a (.str "yes" :: xs)->xs.length≠0->Fm K H (.ref a)
 |sgnL {a:Addr}{xs:List V}:SqT K H a (.str "sign" :: xs)->xs.length≠1->Fm K H (.ref a)
 |sgn {a:Addr}{x:V}:SqT K H a [.str "sign",x]->Kd H x->YS x=false->Fm K H (.ref a)
 |manyL {a:Addr}{w:Str}{xs:List V}:w∈(["and","or"]:List Str)->SqT K H a (.str w::xs)->xs.length≠1->Fm K H (.ref a)
 |manyN {a:Addr}{w:Str}{x:V}:w∈(["and","or"]:List Str)->SqT K H a [.str w,x]->Kd H x->Xn H "tuple" x=false->Fm K H (.ref a)
 |witL {a:Addr}{xs:List V}:SqT K H a (.str "within" :: xs)->xs.length≠3->Fm K H (.ref a)
 |witN {a:Addr}{x y z:V}:SqT K H a [.str "within",x,y,z]->Kd H x->j0 x=false->Fm K H (.ref a)
 |witM {a:Addr}{m:Int}{y z:V}:SqT K H a [.str "within",.int m,y,z]->¬(0<=m/\m<=5)->Fm K H (.ref a)
 |word {a:Addr}{w:Str}{xs:List V}:SqT K H a (.str w::xs)->w∈(["signs","Next"]:List Str)->Fm K H (.ref a)
 |lens {a:Addr}{w:Str}{i:Int}{xs:List V}:SqT K H a (.str w::xs)->w∉NW->(w,i)∈LK->((xs.length+1:Nat):Int)≠i->Fm K H (.ref a)
inductive Bt where
 |lf
 |nd (c:Lb) (ks:List Bt)
mutual
def bsz:Bt->Nat
 |.lf=>1
 |.nd _ ks=>bszL ks+1
def bszL:List Bt->Nat
 |[]=>0
 |b::r=>bsz b+bszL r
end
def lbOkB:Lb->Nat->Prop
 |.yes,n=>Xp .yes n
 |.sign s,n=>Xp (.sign s) n
 |.op w,n=>Xp (.op w) n
 |.wit m,n=>Xp (.wit m) n
 |.many w,n=>(w = "and" \/ w = "or")/\n<=1000
def Xp.b(h:Xp c n):lbOkB c n:=by
 cases c with
 |many w=>exact⟨h.1,fU h.2 (by decide)⟩
 |yes=>exact h
 |sign s=>exact h
 |op w=>exact h
 |wit m=>exact h
def FmT(K:W.Frag)(H:Hp)(v:V):Prop:=∃a us c,v=.ref a/\UI K H a us c/\lbOkB c us.length
def At.fmT{t:Tr}(h:At K n H v t):FmT K H v:=by
 cases n with
 |zero=>exact h.elim
 |succ n=>
  obtain⟨a,vs,e,sh,ok,l,_⟩:=h;exact⟨a,vs,t.lb,e,sh,by rw[l];exact ok.b⟩
inductive rInD2_R(K:W.Frag)(P:Params)(x:V)(y:V)(H:Hp)(Q:VK):Prop
 |mk (z:_) (D:_) (kvs:_) (b:_) (h0:x=.str z) (h1:y=.ref D) (h2:DicK K P D kvs) (h3:((b=true/\∃i,(z,i)∈kvs)\/(b=false/\W.nsIn K D z=some none))) (h4:Q (.bl b) H):rInD2_R K P x y H Q
def rInD2(K:W.Frag)(P:Params):R2:=fun x y H Q=>rInD2_R K P x y H Q
def op_inD2{P:Params}(hK:X.K=K)(hw:X.w.params=P):OpR X (compareOp .In) (rInD2 K P):=by
 subst hK hw;intro db s U H x y v u Q I rx ry h;obtain⟨z,D,kvs,b,rfl,rfl,d,hb,q⟩:=h;obtain⟨t,rfl⟩:=(show ∃t,v=Value.str z t from rx);obtain rfl:u=Value.ref D:=ry;obtain⟨m,F⟩:=I.fr;obtain⟨es,n,lk,hk⟩:=d.ex;rcases hb with⟨rfl,i,hm⟩|⟨rfl,ea⟩
 ·obtain⟨t2,ea⟩:=d.at_ _ hm;exact W.topIn_K F I.mod.kin lk hk ea d.lo ⟨.bl true,H,I.tok _,rfl,q⟩
 ·exact W.topIn_K F I.mod.kin lk hk ea d.lo ⟨.bl false,H,I.tok _,rfl,q⟩
def qN{p:Prop}[Decidable p]{Q:VK}(h:¬p)(q:Q (.bl false) H):Q (.bl (decide p)) H:=by rw[gY h];exact q
end L3
namespace L2
open PySem PySem.Spec PyProof.Rows
section
variable(P:Program)(w:World)
end
section
variable{a:Addr}
end
section
variable{x e:Addr}{o':HO}
end
section
variable{fs fs' ex ex':List Addr}{h2:Heap}{a x e:Addr}
end
section
variable{U:List (Option V)}
end
section
variable{a b:Expr}{ta tb:TE}
variable{tA tB':TT}{XH:List Expr}
end
section
variable{a:Addr}{xs ys:List V}
end
section
variable{st:Stmt}{XH:List Stmt}{t u:TS}
end
section
variable{a b c:Expr}{ta tb tc:TE}
end
section
variable{a b c:Expr}{ta tb tc:TE}
end
section
variable{x f:Addr}{name:Str}{v:Value}
end
section
variable{a:Addr}{fs fs':List (Str×V)}
end
section
variable{a:Addr}{fs:List (Str×V)}{f:Str}
end
section
variable{o value:Expr}{f:Str}{tpos:Pos}{ta tv:TE}
end
section
variable{c:Value}{b:Bool}
end
section
variable{es:List Expr}{t:TA}
end
section
variable{k:Nat}{f:Addr}{ps:List Str}{dvs:List V}{ds:List Value}{E:XK}{x m:Str}{p apos:Pos}{o:Expr}{es:List Expr}{ta:TE}{t:TA}
end
section
variable{k:Nat}{f:Addr}{ps ks:List Str}{E:XK}{x m:Str}{p apos kpos:Pos}{o:Expr}{es:List Expr}{kws:List Keyword}{ta:TE}{t tk:TA}{nm:Option Str}
variable{g:List Value->List Value->List Value}{gV:List V->List V->List V}
end
section
variable{x:Str}{p:Pos}{es:List Expr}{t:TA}{id:String}{r:List V->Hp->VK->Prop}
end
section
variable{κ:Type}[DecidableEq κ]
def YW(kvs:List (κ×V))(k:κ):Option V:=(kvs.find? fun kv=>decide (kv.1=k)).map (·.2)
def WF(kvs:List (κ×V))(k:κ)(v:V):List (κ×V):=
 if(kvs.any fun kv=>decide (kv.1=k))=true then kvs.map (fun kv=>if kv.1=k then(kv.1,v) else kv) else kvs++[(k,v)]
def Y2{p:κ×V}{r:List (κ×V)}{k:κ}(e:p.1=k):YW (p::r) k=some p.2:=by simp[YW,lK,e]
def Y1{p:κ×V}{r:List (κ×V)}{k:κ}(e:¬p.1=k):YW (p::r) k=YW r k:=by simp[YW,lK,e]
def zm(k:κ):∀kvs:List (κ×V),(kvs.any fun kv=>decide (kv.1=k))=(YW kvs k).isSome
 |[]=>rfl
 |p::r=>by
  rw[mq]
  by_cases e:p.1=k
  ·simp only[Y2 e,gO e,mD,Option.isSome_some]
  ·rw[Y1 e,gY e,iS];exact zm k r
def JP(k j:κ)(y:V):∀kvs:List (κ×V),YW (kvs.map fun kv=>if kv.1=k then(kv.1,y) else kv) j=(YW kvs j).map fun x=>if j=k then y else x
 |[]=>rfl
 |p::r=>by
  have ih:=JP k j y r;rw[fZ]
  by_cases h:p.1=k
  ·rw[if_pos h]
   by_cases e:p.1=j
   ·rw[Y2 (p:=(p.1,y)) e,Y2 e,nB,if_pos (e.symm.trans h)]
   ·rw[Y1 (p:=(p.1,y)) e,Y1 e,ih]
  ·rw[if_neg h]
   by_cases e:p.1=j
   ·rw[Y2 (p:=p) e,Y2 e,nB,if_neg (fun z=>h (e.trans z))]
   ·rw[Y1 (p:=p) e,Y1 e,ih]
def vV(k j:κ)(y:V):∀kvs:List (κ×V),YW kvs k=none->YW (kvs++[(k,y)]) j=if j=k then some y else YW kvs j
 |[],_=>by
  by_cases e:k=j
  ·rw[if_pos e.symm];exact Y2 (p:=(k,y)) e
  ·rw[if_neg (fun z=>e z.symm)];exact Y1 (p:=(k,y)) e
 |p::r,hn=>by
  rw[mT];have hk:¬p.1=k:=fun z=>by rw[Y2 z] at hn;cases hn
  rw[Y1 hk] at hn;have ih:=vV k j y r hn
  by_cases e:p.1=j
  ·rw[Y2 e,Y2 e,if_neg (fun z=>hk (e.trans z))]
  ·rw[Y1 e,Y1 e,ih]
def kS(kvs:List (κ×V))(k j:κ)(y:V):YW (WF kvs k y) j=if j=k then some y else YW kvs j:=by
 unfold WF
 by_cases a:(kvs.any fun kv=>decide (kv.1=k))=true
 ·rw[if_pos a,JP];rw[zm] at a
  by_cases e:j=k
  ·obtain⟨x,hx⟩:=nj.mp a;rw[if_pos e,e,hx,nB,if_pos rfl]
  ·rw[if_neg e];cases YW kvs j with
   |none=>rfl
   |some x=>rw[nB,if_neg e]
 ·rw[if_neg a];refine vV k j y kvs ?_;rw[zm] at a;cases q:YW kvs k with
  |none=>rfl
  |some x=>rw[q] at a;exact(a rfl).elim
def XI(kvs:List (κ×V))(k:κ)(v:V):(WF kvs k v).length<=kvs.length+1:=by
 unfold WF
 split
 ·rw[fF];omega
 ·rw[fK,gH,List.length_nil];omega
def VH.isSome_eq{o:Option V}{u:Option Value}(r:VH o u):o.isSome=u.isSome:=by
 cases o with
 |none=>cases u with
  |none=>rfl
  |some _=>exact(show False from r).elim
 |some _=>cases u with
  |none=>exact(show False from r).elim
  |some _=>rfl
def VH.getD{o:Option V}{u:Option Value}{d:V}{d':Value}(r:VH o u)(rd:ZU d d'):ZU (o.getD d) (u.getD d'):=by
 cases o with
 |none=>cases u with
  |none=>exact rd
  |some _=>exact(show False from r).elim
 |some _=>cases u with
  |none=>exact(show False from r).elim
  |some _=>exact r
def KV.val{kvs:List (κ×V)}{vs:List (κ×Value)}(r:KV kvs vs)(k:κ):VH (YW kvs k) (valueAt vs k):=by
 unfold KV at r
 induction r with
 |nil=>exact True.intro
 |@cons p q ps qs h t ih=>
  obtain⟨h1,h2⟩:=h
  by_cases e:p.1=k
  ·have e':q.1=k:=h1.symm.trans e;have b:valueAt (q::qs) k=some q.2:=by simp[valueAt,lK,e']
   rw[Y2 e,b];exact h2
  ·have e':¬q.1=k:=fun z=>e (h1.trans z);have b:valueAt (q::qs) k=valueAt qs k:=by simp[valueAt,lK,e']
   rw[Y1 e,b];exact ih
def KV.any{kvs:List (κ×V)}{vs:List (κ×Value)}(r:KV kvs vs)(k:κ):(kvs.any fun kv=>decide (kv.1=k))=vs.any fun kv=>decide (kv.1=k):=by
 unfold KV at r
 induction r with
 |nil=>rfl
 |cons h t ih=>rw[mq,mq,ih,h.1]
def KV.repl{kvs:List (κ×V)}{vs:List (κ×Value)}(r:KV kvs vs)(k:κ)(ry:ZU y u) :
  KV (kvs.map fun kv=>if kv.1=k then(kv.1,y) else kv) (vs.map fun kv=>if kv.1=k then(kv.1,u) else kv):=by
 unfold KV at r ⊢
 induction r with
 |nil=>exact .nil
 |@cons p q ps qs h t ih=>
  rw[fZ,fZ];refine .cons ?_ ih;obtain⟨h1,h2⟩:=h
  by_cases e:p.1=k
  ·rw[if_pos e,if_pos (h1.symm.trans e)];exact⟨h1,ry⟩
  ·rw[if_neg e,if_neg (fun z=>e (h1.trans z))];exact⟨h1,h2⟩
def KV.put{kvs:List (κ×V)}{vs:List (κ×Value)}(r:KV kvs vs)(k:κ)(ry:ZU y u):KV (WF kvs k y) (stored vs k u):=by
 unfold WF stored;rw[r.any k]
 by_cases e:(vs.any fun kv=>decide (kv.1=k))=true
 ·rw[if_pos e,if_pos e];exact r.repl k ry
 ·rw[if_neg e,if_neg e];exact Paired.snoc r ⟨rfl,ry⟩
def KV.length{kvs:List (κ×V)}{vs:List (κ×Value)}(r:KV kvs vs):kvs.length=vs.length:=mn r
end
def kV_is{k:Key}(r:ZU (kV k) u):(ZB P w).is k u=true:=by
 cases k with
 |inl i=>obtain⟨t,e⟩:=(show ∃t,u=Value.int i t from r);subst e;exact k9 P w i t
 |inr x=>obtain⟨t,e⟩:=(show ∃t,u=Value.str x t from r);subst e;exact kM P w x t
def zL{P:Program}{w:World}:∀{ks:List Key}{us:List Value},ZK (ks.map kV) us->ItemsAre (ZB P w) ks us
 |[],_,r=>by rw[List.map_nil] at r;cases r;exact .nil
 |k::ks,_,r=>by
  rw[fZ] at r;cases r with
  |cons h t=>exact .cons (kV_is h) (zL t)
abbrev KT(H:Hp):List (List Key×V)->List (List Key×Addr×Value)->Prop:=Paired fun p q=>p.1=q.1/\H q.2.1=some (.tup (p.1.map kV))/\ZU p.2 q.2.2
def KT.val(r:KT H kvs xs)(k:List Key):VH (YW kvs k) ((atKey xs k).map (·.2)):=by
 induction r with
 |nil=>exact True.intro
 |@cons p q ps qs h t ih=>
  obtain⟨h1,_,h2⟩:=h
  by_cases e:p.1=k
  ·have e':q.1=k:=h1.symm.trans e;have b:atKey (q::qs) k=some q.2:=by simp[atKey,lK,e']
   rw[Y2 e,b];exact h2
  ·have e':¬q.1=k:=fun z=>e (h1.trans z);have b:atKey (q::qs) k=atKey qs k:=by simp[atKey,lK,e']
   rw[Y1 e,b];exact ih
def KT.repl(r:KT H kvs xs)(k:List Key)(ry:ZU y u) :
  KT H (kvs.map fun kv=>if kv.1=k then(kv.1,y) else kv) (xs.map (putAt k u)):=by
 induction r with
 |nil=>exact .nil
 |@cons p q ps qs h t ih=>
  rw[fZ,fZ];refine .cons ?_ ih;obtain⟨h1,h2,h3⟩:=h;unfold putAt
  by_cases e:p.1=k
  ·rw[if_pos e,if_pos (h1.symm.trans e)];exact⟨h1,h2,ry⟩
  ·rw[if_neg e,if_neg (fun z=>e (h1.trans z))];exact⟨h1,h2,h3⟩
def KT.put(r:KT H kvs xs)(k:List Key){b:Addr}(hb:H b=some (.tup (k.map kV)))(ry:ZU y u) :
  KT H (WF kvs k y) (storedH xs k b u):=by
 have e:(kvs.any fun kv=>decide (kv.1=k))=(atKey xs k).isSome:=by
  rw[zm,(r.val k).isSome_eq,Option.isSome_map]
 unfold WF storedH;rw[e]
 by_cases q:(atKey xs k).isSome=true
 ·rw[if_pos q,if_pos q];exact r.repl k ry
 ·rw[if_neg q,if_neg q];exact Paired.snoc r ⟨rfl,hb,ry⟩
def KT.keeps(r:KT H kvs xs)(ht:∀b ys,H b=some (.tup ys)->H' b=some (.tup ys)):KT H' kvs xs:=
 Paired.mapP r fun _ _ z=>⟨z.1,ht _ _ z.2.1,z.2.2⟩
section
variable{a:Addr}
def rd_of{u:HO}(ok:HOk P w H h)(e:Rd H a u):Yw P w H h a u:=e.ok ok
def dk_rd{kvs:List (Key×V)}(ok:HOk P w H h)(e:Rd H a (.dK kvs)):kvs.length<=sizeLine/\(a==sysModules)=false/\∃vs,KV kvs vs/\h.DictOf (ZB P w) a vs:=
 show Yw P w H h a (.dK kvs) from rd_of ok e
def dk_of{kvs:List (Key×V)}(ok:HOk P w H h)(e:H a=some (.dK kvs)):kvs.length<=sizeLine/\(a==sysModules)=false/\∃vs,KV kvs vs/\h.DictOf (ZB P w) a vs:=dk_rd ok (.inl e)
def yE{ks:List Key}(ok:HOk P w H h)(e:H a=some (.tup (ks.map kV))):(tupleKind (ZB P w)).is h ks a:=by
 obtain⟨_,its,r,o,h1,h2,n,h3⟩:=(show Yw P w H h a (.tup (ks.map kV)) from ok a _ e);exact⟨o,its.toArray,n,h1,h2,h3,by simpa using zL r⟩
def dt_rd(ok:HOk P w H h)(e:Rd H a (.dT kvs)):kvs.length<=sizeLine/\(a==sysModules)=false /\
  ∃xs,KT H kvs xs/\h.DictOfH (tupleKind (ZB P w)) a xs:=by
 obtain⟨z,y,xs,r,o,es,ep,h1,h2,h3,h4,h5⟩:=(show Yw P w H h a (.dT kvs) from rd_of ok e);refine⟨z,y,xs,r,o,es,ep,h1,h2,h3,h4,fun x hx=>?_,h5⟩;have all:∀{l:List (List Key×V)}{m:List (List Key×Addr×Value)},KT H l m->∀x∈m,(tupleKind (ZB P w)).is h x.1 x.2.1:=by
  intro l m q
  induction q with
  |nil=>intro x hx;exact nomatch hx
  |@cons p q ps qs hq t ih=>
   intro x hx;rcases fQ.mp hx with e|hx
   ·subst e;exact yE ok (by rw[<- hq.1];exact hq.2.1)
   ·exact ih x hx
 exact all r x hx
def dt_of(ok:HOk P w H h)(e:H a=some (.dT kvs)):kvs.length<=sizeLine/\(a==sysModules)=false /\
  ∃xs,KT H kvs xs/\h.DictOfH (tupleKind (ZB P w)) a xs:=dt_rd ok (.inl e)
end
def DGet(H:Hp)(a:Addr)(y:V)(r:Option V):Prop:=
 (∃kvs k,Rd H a (.dK kvs)/\y=kV k/\r=YW kvs k)\/∃kvs k b,Rd H a (.dT kvs)/\y=.ref b/\H b=some (.tup (k.map kV))/\r=YW kvs k
def DPut(H:Hp)(a:Addr)(y v:V)(H':Hp):Prop:=
 (∃kvs k,H a=some (.dK kvs)/\y=kV k/\kvs.length<sizeLine/\H'=upd H a (.dK (WF kvs k v))) \/
 ∃kvs k b,H a=some (.dT kvs)/\y=.ref b/\H b=some (.tup (k.map kV))/\kvs.length<sizeLine/\H'=upd H a (.dT (WF kvs k v))
def DGet.k{H:Hp}{a:Addr}{kvs:List (Key×V)}{k:Key}(e:H a=some (.dK kvs)):DGet H a (kV k) (YW kvs k):=.inl ⟨kvs,k,.inl e,rfl,rfl⟩
def DPut.k{H:Hp}{a:Addr}{kvs:List (Key×V)}{k:Key}{v:V}(e:H a=some (.dK kvs))(hl:kvs.length<sizeLine):DPut H a (kV k) v (upd H a (.dK (WF kvs k v))):=.inl ⟨kvs,k,e,rfl,hl,rfl⟩
section
variable{a:Addr}{r:Value}{o:Option V}
def Inv.big(I:Inv X db U H s):sysModules<s.heap.objs.size:=by
 have h:mainGlobals<s.heap.objs.size:=(I.mod.glob.keeps I.bk).lt;exact Nat.lt_trans (by decide) h
def d_getItem(hu:A.units+1<cLine)(I:Inv X db U H s)(g:DGet H a y (some v))(ry:ZU y u)(h:∀w' s',Inv X db U H s'->ZU v w'->Q w' s') :
  wpAny (model X.prog X.w) A (getItem (.ref a) u) Q E s:=by
 rcases g with⟨kvs,k,e,ey,l⟩|⟨kvs,k,b,e,ey,eb,l⟩
 ·subst ey;obtain⟨z,hd,vs,rel,dd⟩:=dk_rd I.hok e;obtain⟨w',hw,rw'⟩:=VH.some_of (v:=v) (o:=valueAt vs k) (by rw[l];exact rel.val k);exact wpAny_getItem_of (kV_is ry) dd.mapOf hw (h w' _ (I.tok _) rw')
 ·subst ey;cases (show u=Value.ref b from ry);obtain⟨z,hd,xs,rel,dd⟩:=dt_rd I.hok e;obtain⟨w',hw,rw'⟩:=VH.some_of (v:=v) (o:=(atKey xs k).map (·.2)) (by rw[l];exact rel.val k);obtain⟨p,hp,hp2⟩:=iF.mp hw;refine wpAny_getItem_heap (mE hu) (yE I.hok eb) dd hp ?_;rw[hp2];exact h w' _ (I.tok _) rw'
def UZ{ob:HO}(I:Inv X db U H s)(mu:Mut (H a))(hs:Heap.SameBut a s.heap h')(he:∃q,h'.get? a=some q)(new:Yw X.prog X.w (upd H a ob) h' a ob) :
  Inv X db U (upd H a ob) { s with heap:=h',toks:=t' }:=
 I.write (x:=a) (e:=a) mu (.inl rfl) (fun b q hb z=>(hs.2 b hb).trans z) he new
def dk_new{kvs:List (Key×V)}{vs:List (Key×Value)}(z:kvs.length<=sizeLine)(hd:(a==sysModules)=false)(rel:KV kvs vs)(dd:h'.DictOf (ZB P w) a vs) :
  Yw P w H' h' a (.dK kvs):=⟨z,hd,vs,rel,dd⟩
def d_setItem{Q:Unit->Shared->Prop}(hu:A.units+1<cLine)(I:Inv X db U H s)(g:DPut H a y v H')(ry:ZU y u)(rv:ZU v r)(h:∀s',Inv X db U H' s'->Q () s') :
  wpAny (model X.prog X.w) A (setItem (.ref a) u r) Q E s:=by
 rcases g with⟨kvs,k,e,ey,l,eH⟩|⟨kvs,k,b,e,ey,eb,l,eH⟩
 ·subst ey eH;obtain⟨z,hd,vs,rel,dd⟩:=dk_of I.hok e;have hz:vs.length<=sizeLine:=by rw[<- rel.length];exact z
  have hl:(WF kvs k v).length<=sizeLine:=by have:=XI kvs k v;omega
  refine wpAny_setItem_pairs (hsz:=hz) (kV_is ry) dd fun h' dd' hs=>h _ ?_;have he:∃q,h'.get? a=some q:=let ⟨q,_,_,hq,_⟩:=dd'; ⟨q,hq⟩
  exact UZ I (by rw[e];exact True.intro) hs he (dk_new hl hd (rel.put k rv) dd')
 ·subst ey eH;cases (show u=Value.ref b from ry);obtain⟨z,hd,xs,rel,dd⟩:=dt_of I.hok e;have hz:xs.length<=sizeLine:=by rw[<- mn rel];exact z
  have hl:(WF kvs k v).length<=sizeLine:=by have:=XI kvs k v;omega
  refine wpAny_setItem_heap (hsz:=hz) (mE hu) (yE I.hok eb) dd fun h' dd' hs=>h _ ?_;obtain⟨q,es,ep,hq,h2,h3,h4,_,h5⟩:=dd';refine UZ I (by rw[e];exact True.intro) hs ⟨q,hq⟩ ⟨hl,hd,_,(rel.put k eb rv).keeps fun c ys ec=>?_,q,es,ep,hq,h2,h3,h4,h5⟩;rw[Zx (Vk ec e (fun z=>nomatch z))];exact ec
end
section
variable{a:Addr}{kvs:List (Key×V)}{k:Key}
end
def NoSl(i:Expr):Prop:=∀ov iv,subscripted i false ov iv=operate [ov,iv] (getItem ov iv)
def subD_of{value slice:Expr}{id:String}
  (hl:typeLookup (.type T) "__getitem__" = pure (some (.builtin id))) (hs:NoSl slice)
  (h:wpAny (model prog w) A (eval value env) (fun o s₁=>wpAny (model prog w) A (eval slice env) (fun i s₂=>s₂.TypeIs o T/\wpAny (model prog w) A (getItem o i) Q E s₂) E s₁) E s) :
  wpAny (model prog w) A (eval (.Subscript value slice pos) env) Q E s:=by
 refine Subscript_ (ik h (fun o s₁ h₁=>ik h₁ (fun i s₂ h₂=>?_) fun _ _ x=>x) fun _ _ x=>x);obtain⟨hT,h₂⟩:=h₂;unfold subscriptTail;refine fD ?_;rw[getitemInPython_of_ne hT.not_modules];refine fD (mR hT hl ?_);have fin:wpAny (model prog w) A (subscripted slice false o i) (fun r s₃=>wpAny (model prog w) A (letTemporaryGo value o r >>= fun _=>pure r) Q E s₃) E s₂:=by
  rw[hs o i];exact wpAny_operating (ik h₂ (fun r s₃ h₃=>fD (wpAny_letTemporaryGo (fI h₃))) fun _ _ x=>x)
 first
  |exact fI (fD fin)
  |exact fD (fI (fD fin))
  |exact fD fin
def JJ{a:Addr}{o:Option V}(I:Inv X db U H s)(g:DGet H a y o):s.TypeIs (.ref a) "dict" := by
 rcases g with⟨kvs,k,e,_,_⟩|⟨kvs,k,b,e,_,_,_⟩
 ·obtain⟨_,_,vs,_,dd⟩:=dk_rd I.hok e;exact dd.typeIs
 ·obtain⟨_,_,xs,_,dd⟩:=dt_rd I.hok e;exact dd.typeIs
def tDGet(td ty:TE):TE:=fun U H Q=>td U H fun x H1=>ty U H1 fun y H2=>∃a v,x=.ref a/\DGet H2 a y (some v)/\Q v H2
def sDPut(td ty tv:TE):TS:=fun D U H=>tv U H fun v H1=>td U H1 fun x H2=>ty U H2 fun y H3=>∃a H4,x=.ref a/\DPut H3 a y v H4/\D.nx U H4
section
variable{o i value:Expr}{tpos:Pos}{td ty tv:TE}
def pe_dget(hu:X.A.units+1<cLine)(ho:PE X o td)(hi:PE X i ty)(hs:NoSl i):PE X (.Subscript o i pos) (tDGet td ty):=by
 intro db s U H Q I h;refine subD_of PySem.F.slot_dict_getitem.lookup hs (thn (ho db s U H _ I h) fun u s1 ⟨x,H1,I1,rx,q1⟩=>thn (hi db s1 U H1 _ I1 q1) fun iv s2 ⟨y,H2,I2,ry,a,v,ex,g,q2⟩=>?_);subst ex;obtain rfl:u=Value.ref a:=rx;exact⟨JJ I2 g,d_getItem hu I2 g ry fun w' s3 I3 rw'=>⟨v,H2,I3,rw',q2⟩⟩
def ps_dput(hu:X.A.units+1<cLine)(ho:PE X o td)(hi:PE X i ty)(hv:PE X value tv)(hs:swapsWith value (some (.Subscript o i pos')) pos.line X.env=pure false) :
  PS X (.Assign [.Subscript o i pos'] value pos) (sDPut td ty tv):=by
 intro db s U H D I h;refine wpAny_Assign_Subscript (thn (hv db s U H _ I h) fun r s1 ⟨v,H1,I1,rv,q1⟩=>thn (ho db s1 U H1 _ I1 q1) fun u s2 ⟨x,H2,I2,rx,q2⟩=>thn (hi db s2 U H2 _ I2 q2) fun iv s3 ⟨y,H3,I3,ry,a,H4,ex,g,q3⟩=>?_) hs;subst ex;obtain rfl:u=Value.ref a:=rx;exact d_setItem hu I3 g ry rv fun s4 I4=>⟨U,H4,I4,q3⟩
end
def qQ(h:Heap)(hb:sysModules<h.objs.size):Yw P w H (h.push { cls:=.type "dict",data:=.dict #[] }) h.objs.size (.dK []):=
 ⟨gB _,i8.mpr (fT (fP hb)),[],.nil,Heap.DictOf.new h⟩
def dt_empty(h:Heap)(hb:sysModules<h.objs.size):Yw P w H (h.push { cls:=.type "dict",data:=.dict #[] }) h.objs.size (.dT []):=
 ⟨gB _,i8.mpr (fT (fP hb)),[],.nil,_,#[],0,ge _ rfl,⟨rfl,rfl,rfl⟩,rfl,rfl,iG⟩
def tDNewK:TE:=fun _ H Q=>∀p,H p=none->Q (.ref p) (upd H p (.dK []))
def pe_dnewK:PE X (.Dict [] [] pos) tDNewK:=fun db s U H Q I h=>
 wpAny_Dict_empty ⟨.ref s.heap.objs.size,_,I.laid (a:=s.heap.objs.size) (o:=.dK []) (t':=s.toks) (fun _ _ q=>fM _ q) (fE _) (qQ s.heap I.big),rfl,h _ (I.hok.fresh (fE _))⟩
structure M1(X:Cx)(o:Expr)(m:Str)(apos:Pos)(e:Expr)(cpos:Pos):Prop where
 base:attributeBase o m X.env (eval o X.env)=eval o X.env
 few:((backTo cpos (starEach [e] X.env)).all (fun x=>!x.1)&&(backToKw cpos (keywordEach [] X.env)).all (fun x=>x.1.isSome)
  && decide (([e]:List Expr).length+([]:List Keyword).length+(if([]:List Keyword).isEmpty then 0 else 1)<30))=true
 line:(apos.endLine==cpos.line)=true
 trees:backTo cpos (starEach [e] X.env)=[(false,eval e X.env)]
structure M2(X:Cx)(o:Expr)(m:Str)(apos:Pos)(e f:Expr)(cpos:Pos):Prop where
 base:attributeBase o m X.env (eval o X.env)=eval o X.env
 few:((backTo cpos (starEach [e,f] X.env)).all (fun x=>!x.1)&&(backToKw cpos (keywordEach [] X.env)).all (fun x=>x.1.isSome)
  && decide (([e,f]:List Expr).length+([]:List Keyword).length+(if([]:List Keyword).isEmpty then 0 else 1)<30))=true
 line:(apos.endLine==cpos.line)=true
 trees:backTo cpos (starEach [e,f] X.env)=[(false,eval e X.env),(false,eval f X.env)]
def IsD(H:Hp)(a:Addr):Prop:=(∃kvs,Rd H a (.dK kvs))\/∃kvs,Rd H a (.dT kvs)
def isD_at{a:Addr}(I:Inv X db U H s)(d:IsD H a) :
  s.TypeIs (.ref a) "dict" /\ (∀b,Value.ref a=.ref b->∃ob,s.heap.get? b=some ob/\ob.dict=none)/\(a==sysModules)=false:=by
 rcases d with⟨kvs,e⟩|⟨kvs,e⟩
 ·obtain⟨_,hd,vs,_,dd⟩:=dk_rd I.hok e;refine⟨dd.typeIs,fun b q=>?_,hd⟩;cases q;obtain⟨ob,_,_,h1,h2,_⟩:=dd;exact⟨ob,h1,h2.2.1⟩
 ·obtain⟨_,hd,xs,_,dd⟩:=dt_rd I.hok e;refine⟨dd.typeIs,fun b q=>?_,hd⟩;cases q;obtain⟨ob,_,_,h1,h2,_⟩:=dd;exact⟨ob,h1,h2.2.1⟩
section
variable{a:Addr}{d:V}{r:Value}{o:Option V}
def d_get1(hu:A.units+1<cLine)(I:Inv X db U H s)(g:DGet H a y o)(ry:ZU y u)(h:∀w' s',Inv X db U H s'->ZU (o.getD .non) w'->Q w' s') :
  wpAny (model X.prog X.w) A (call (.builtin "dict.get") [.ref a,u]) Q E s:=by
 rcases g with⟨kvs,k,e,ey,l⟩|⟨kvs,k,b,e,ey,eb,l⟩
 ·subst ey;obtain⟨z,hd,vs,rel,dd⟩:=dk_rd I.hok e;refine call_meetsIn nZ dd.typeIs PySem.F.entry_dict_get (PySem.F.args_dict_get_2 _ _) (meets_dict_get (ZB X.prog X.w) a (kV_is ry) hd) ⟨_,dd.mapOf,h _ _ (I.tok _) ?_⟩;rw[l];exact(rel.val k).getD rfl
 ·subst ey;cases (show u=Value.ref b from ry);obtain⟨z,hd,xs,rel,dd⟩:=dt_rd I.hok e;refine call_meetsIn nZ dd.typeIs PySem.F.entry_dict_get (PySem.F.args_dict_get_2 _ _) (meetsH_dict_get (tupleKind (ZB X.prog X.w)) a b hd) ⟨mE hu,k,xs,yE I.hok eb,dd,h _ _ (I.tok _) ?_⟩;rw[l];exact(rel.val k).getD rfl
end
def tDGet1(td ty:TE):TE:=fun U H Q=>td U H fun x H1=>∃a,x=.ref a/\IsD H1 a/\ty U H1 fun y H2=>∃o,DGet H2 a y o/\Q (o.getD .non) H2
section
variable{o f:Expr}{apos cpos:Pos}{td ty tx:TE}
def pe_dget1(hu:X.A.units+1<cLine)(ho:PE X o td)(he:PE X e ty)(m:M1 X o "get" apos e cpos):PE X (.Call (.Attribute o "get" apos) [e] [] cpos) (tDGet1 td ty):=by
 intro db s U H Q I h;refine wpAny_Call_method m.base m.few m.line PySem.F.plainAttrs_dict nZ PySem.F.type_dict_get (thn (ho db s U H _ I h) fun u s1 ⟨x,H1,I1,rx,a,ex,d,q1⟩=>?_);subst ex;obtain rfl:u=Value.ref a:=rx;obtain⟨t1,t2,_⟩:=isD_at I1 d;refine⟨t1,t2,?_⟩;rw[m.trees];refine Calls.callWith_builtin rfl (Calls.evalArgs_plain (Calls.spliced_cons (thn (he db s1 U H1 _ I1 q1) fun iv s2 ⟨y,H2,I2,ry,ov,g,q2⟩=>Calls.spliced_nil ?_)));exact d_get1 hu I2 g ry fun w' s3 I3 rw'=>⟨_,H2,I3,rw',q2⟩
end
section
variable{a:Addr}{kvs:List (Key×V)}
end
section
variable{a:Addr}
end
end L2
namespace Att
open PySem PySem.W PySem.Calls PyProof.Rows
section
variable{K:Frag}
end
end Att
namespace L2
open PySem PySem.Spec PyProof.Rows
section
variable[DecidableEq κ]
end
end L2
namespace L3
open PySem PySem.Spec PyProof.Rows L2
def rInB(K:W.Frag)(neg:Bool):R2:=fun x y H Q=>∃ds d,Dp K H y (.list ds)/\Dp K H x d/\PyData.canLayAll0 ds=true/\d.canLay0=true/\d.depth<=190/\Q (.bl (if neg then !(ds.any fun z=>PyData.eqv z d) else ds.any fun z=>PyData.eqv z d)) H
def op_notInB(hK:X.K=K)(hu:X.A.units+195<cLine):OpR X (compareOp .NotIn) (rInB K true):=by
 subst hK;intro db s U H x y u v Q I rx ry h;obtain⟨ds,d,hy,hx,c1,c2,dp,q⟩:=h;obtain⟨as,a⟩:=hy.reads I ry;obtain⟨bs,b⟩:=hx.reads I rx;exact SeqAt.notIn_list_reads a b c1 c2 (by have:=nk (PyData.depthAll ds) d.depth;omega) ⟨.bl _,H,I,rfl,q⟩
def rSet0:List V->Hp->VK->Prop:=fun xs H Q=>xs=[]/\∀a,H a=none->Q (.ref a) (upd H a (.set (fun _=>false) 0))
def call_set0:Ym X (.type "set") rSet0:=by
 intro db s U H xs us Q I r h;obtain⟨rfl,q⟩:=h;have hu:us=[]:=by cases r;rfl
 subst hu;refine call_set_0 fun led=>⟨.ref s.heap.objs.size,_,I.laid (t':=s.toks) (o:=.set (fun _=>false) 0) (fun b ob q=>fM _ q) (fE _) ?_,rfl,q _ (I.hok.fresh (fE _))⟩;exact(setObjOf_fresh (knd:=intKind X.prog X.w) led).setOf (ge _ rfl) (by decide)
def rSetAdd:V->List V->Hp->VK->Prop:=fun x vs H Q=>∃a S n k,x=.ref a/\vs=[.int k]/\H a=some (.set S n)/\n+1<4096/\Q .non (upd H a (.set (fun j=>S j||decide (j=k)) (if S k then n else n+1)))
def mt_setAdd:MtM X "set.add" rSetAdd:=by
 intro db s U H x vs v us Q I rx rv h;obtain⟨a,S,n,k,rfl,rfl,ha,hn,q⟩:=h;cases rx;obtain⟨u,rfl,ru⟩:=rv.one;obtain⟨t,rfl⟩:=(show ∃t,u=Value.int k t from ru);have hS:s.heap.SetOf (intKind X.prog X.w) a S n:=I.hok a _ ha;refine call_set_add (knd:=intKind X.prog X.w) (k:=k) (by show Value.isInt k (.int k t)=true;simp[Value.isInt]) rfl hS hn fun h' sb hS'=>⟨.non,_,UZ (ob:=.set (fun j=>S j||decide (j=k)) (if S k then n else n+1)) I (by rw[ha];exact True.intro) sb ?_ hS',rfl,q⟩;obtain⟨o,_,_,_,e,_⟩:=hS';exact⟨o,e⟩
def rInS(neg:Bool):R2:=fun x y H Q=>∃k a S n,x=.int k/\y=.ref a/\H a=some (.set S n)/\Q (.bl (if neg then !S k else S k)) H
def op_notInS:OpR X (compareOp .NotIn) (rInS true):=by
 intro db s U H x y v u Q I rx ry h;obtain⟨k,a,S,n,rfl,rfl,ha,q⟩:=h;obtain⟨t,rfl⟩:=(show ∃t,v=Value.int k t from rx);obtain rfl:u=Value.ref a:=ry;have hS:s.heap.SetOf (intKind X.prog X.w) a S n:=I.hok a _ ha;exact wpAny_notInSet_of (knd:=intKind X.prog X.w) (k:=k) (by show Value.isInt k (.int k t)=true;simp[Value.isInt]) rfl hS ⟨.bl _,H,I.tok _,rfl,q⟩
section
open Classical
noncomputable def WN(A:List Tr)(t:Tr):List Tr:=if t∈A then A else A++[t]
noncomputable def Zk(A L:List Tr):List Tr:=L.foldl WN A
def VT(A:List Tr):Zk A []=A:=rfl
def Xg(A:List Tr)(x:Tr)(L:List Tr):Zk A (x::L)=Zk (WN A x) L:=rfl
def Z9(A L M:List Tr):Zk A (L++M)=Zk (Zk A L) M:=List.foldl_append
def Uo{A:List Tr}{t:Tr}(h:t∈A):WN A t=A:=if_pos h
def Vc{A:List Tr}{t:Tr}(h:t∉A):WN A t=A++[t]:=if_neg h
def xq{A:List Tr}{t x:Tr}:x∈WN A t↔x∈A\/x=t:=by
 unfold WN
 split
 ·rename_i h
  exact⟨.inl,fun z=>z.elim id fun e=>by rw[e];exact h⟩
 ·simp
def ZH:∀{L A:List Tr}{x:Tr},x∈Zk A L↔x∈A\/x∈L
 |[],A,x=>by simp[VT]
 |t::r,A,x=>by rw[Xg,ZH,xq,fQ,or_assoc]
def xi{A:List Tr}{t:Tr}(h:A.Nodup):(WN A t).Nodup:=by
 unfold WN
 split
 ·exact h
 ·rename_i n
  rw[lI];exact⟨h,by simp,fun a ha b hb e=>n (by rw[fW.mp hb] at e;rw[<- e];exact ha)⟩
def Yv:∀{L A:List Tr},A.Nodup->(Zk A L).Nodup
 |[],_,h=>h
 |t::r,A,h=>by rw[Xg];exact Yv (xi h)
def Ve:∀{L A:List Tr},(∀x∈L,x∈A)->Zk A L=A
 |[],_,_=>rfl
 |t::r,A,h=>by
  rw[Xg,Uo (h t (by simp))];exact Ve fun x hx=>h x (gf _ hx)
def JV(A:List Tr)(t:Tr):∃B,WN A t=A++B:=by
 unfold WN
 split
 ·exact⟨[],by simp⟩
 ·exact⟨[t],rfl⟩
def We:∀(L A:List Tr),∃B,Zk A L=A++B
 |[],A=>⟨[],by simp[VT]⟩
 |t::r,A=>by
  obtain⟨B,e⟩:=JV A t;obtain⟨C,e2⟩:=We r (WN A t);exact⟨B++C,by rw[Xg,e2,e,iO]⟩
def qj:∀(L A:List Tr),(Zk A L).length<=A.length+L.length
 |[],A=>by simp[VT]
 |t::r,A=>by
  have:=qj r (WN A t);have h:(WN A t).length<=A.length+1:=by
   unfold WN
   split<;>simp
  rw[Xg,gH];omega
def JK(A L:List Tr):Zk A (Zk [] L)=Zk A L:=by
 have key:∀(n:Nat) (L:List Tr),L.length=n->Zk A (Zk [] L)=Zk A L:=by
  intro n
  induction n with
  |zero=>intro L h;rw[gT.mp h];rfl
  |succ n ih=>
   intro L h;have hne:L≠[]:=fun e=>by rw[e] at h;simp at h
   rw[<- nY hne];generalize hM:L.dropLast=M;generalize L.getLast hne=x;have hl:M.length=n:=by rw[<- hM,nr];omega
   have e:=ih M hl;rw[Z9 [] M [x],Z9 A M [x]]
   show Zk A (WN (Zk [] M) x)=WN (Zk A M) x
   by_cases hx:x∈M
   ·rw[Uo (ZH.mpr (.inr hx)),Uo (ZH.mpr (.inr hx)),e]
   ·rw[Vc (fun z=>hx ((ZH.mp z).resolve_left (by simp))),Z9,e];rfl
 exact key _ L rfl
end
def ZF(t:Tr):List Tr:=match t.lb with
 |.op w=>if w = "some" then[] else t.ks
 |_=>t.ks
mutual
def Zp:Tr->List Tr
 |.node c ks=>(match c with|.op w=>if w = "some" then[] else Vg ks|_=>Vg ks)++[.node c ks]
def Vg:List Tr->List Tr
 |[]=>[]
 |t::r=>Zp t++Vg r
end
def XL:∀ks:List Tr,Vg ks=(ks.map Zp).flatten
 |[]=>by rw[Vg];rfl
 |t::r=>by rw[Vg,XL r];rfl
def Xh(t:Tr):Zp t=(( ZF t).map Zp).flatten++[t]:=by
 cases t with
 |node c ks=>
  cases c with
  |op w=>
   have e:Zp (.node (.op w) ks)=(if w = "some" then[] else Vg ks)++[.node (.op w) ks]:=by rw[Zp]
   rw[e]
   show _=((if w = "some" then[] else ks).map Zp).flatten++_
   split
   ·rfl
   ·rw[XL]
  |yes=>rw[show Zp (.node .yes ks)=Vg ks++[.node .yes ks] from(by rw[Zp];intro w z;cases z),XL];rfl
  |sign z=>rw[show Zp (.node (.sign z) ks)=Vg ks++[.node (.sign z) ks] from(by rw[Zp];intro w z;cases z),XL];rfl
  |wit m=>rw[show Zp (.node (.wit m) ks)=Vg ks++[.node (.wit m) ks] from(by rw[Zp];intro w z;cases z),XL];rfl
  |many w=>rw[show Zp (.node (.many w) ks)=Vg ks++[.node (.many w) ks] from(by rw[Zp];intro w z;cases z),XL];rfl
def Yl{t k:Tr}(h:k∈ZF t):k∈t.ks:=by
 unfold ZF at h
 split at h
 ·split at h
  ·cases h
  ·exact h
 ·exact h
def Yu{t k:Tr}(h:k∈t.ks):psz k<psz t:=by
 rw[jX t];have:∀(l:List Nat) (n:Nat),n∈l->n<=l.sum:=by
  intro l
  induction l with
  |nil=>intro n h;cases h
  |cons a r ih=>
   intro n h;rw[List.sum_cons];rcases fQ.mp h with rfl|h
   ·omega
   ·have:=ih n h;omega
 have:=this _ _ (l6 (f:=psz) h);omega
def qi(t:Tr):t∈Zp t:=by rw[Xh];simp
def WA{t x:Tr}(h:x∈Zp t):x=t\/∃k∈ZF t,x∈Zp k:=by
 rw[Xh,fR] at h;rcases h with h|h
 ·obtain⟨l,hl,hx⟩:=iH.mp h;obtain⟨k,hk,rfl⟩:=gn.mp hl;exact .inr ⟨k,hk,hx⟩
 ·exact .inl (fW.mp h)
def vY{t k x:Tr}(h:k∈ZF t)(hx:x∈Zp k):x∈Zp t:=by
 rw[Xh,fR];exact .inl (iH.mpr ⟨_,l6 h,hx⟩)
def VD:∀(n:Nat) {t x:Tr},psz t<=n->x∈Zp t->psz x<=psz t
 |0,t,x,h,_=>by have:=Xe t;omega
 |n+1,t,x,h,hx=>by
  rcases WA hx with rfl|⟨k,hk,hxk⟩
  ·exact fE _
  ·have h1:=Yu (Yl hk);have h2:=VD n (by omega) hxk;omega
def yg:∀(n:Nat) {t x y:Tr},psz t<=n->x∈Zp t->y∈Zp x->y∈Zp t
 |0,t,x,y,h,_,_=>by have:=Xe t;omega
 |n+1,t,x,y,h,hx,hy=>by
  rcases WA hx with rfl|⟨k,hk,hxk⟩
  ·exact hy
  ·have h1:=Yu (Yl hk);exact vY hk (yg n (by omega) hxk hy)
def WW:∀(n:Nat) {t:Tr},psz t<=n->(Zp t).length<=psz t
 |0,t,h=>by have:=Xe t;omega
 |n+1,t,h=>by
  have key:∀ks:List Tr,(∀k∈ks,(Zp k).length<=psz k)->((ks.map Zp).flatten).length<=(ks.map psz).sum:=by
   intro ks
   induction ks with
   |nil=>intro _;simp
   |cons a r ih=>
    intro hk;have h1:=hk a (by simp);have h2:=ih fun k hk2=>hk k (gf _ hk2);rw[fZ,lD,fK,fZ,List.sum_cons];omega
  have hb:((ZF t).map psz).sum<=(t.ks.map psz).sum:=by
   unfold ZF
   split
   ·split
    ·simp
    ·exact fE _
   ·exact fE _
  have:=key (ZF t) fun k hk=>WW n (by have:=Yu (Yl hk);omega);rw[Xh,fK,jX t,gG];omega
noncomputable def xW:List Tr->List Tr->List Tr
 |[],F=>F
 |t::w,F=>xW w (Zk F (Zp t))
def UU(F:List Tr):Prop:=∀x∈F,∀y∈Zp x,y∈F
def J8:UU []:=fun x h=>by cases h
def fin_pop{F:List Tr}{t:Tr}(hc:UU F)(hk:∀k∈ZF t,k∈F)(ht:t∉F):Zk F (Zp t)=F++[t]/\UU (F++[t]):=by
 have hs:∀x∈((ZF t).map Zp).flatten,x∈F:=fun x hx=>by
  obtain⟨l,hl,hx2⟩:=iH.mp hx;obtain⟨k,hk2,rfl⟩:=gn.mp hl;exact hc k (hk k hk2) x hx2
 refine⟨?_,fun x hx y hy=>?_⟩
 ·rw[Xh,Z9,Ve hs];exact Vc ht
 ·rcases fR.mp hx with hx|hx
  ·exact g8 _ (hc x hx y hy)
  ·rw[fW.mp hx,Xh,fR] at hy;rcases hy with hy|hy
   ·exact g8 _ (hs y hy)
   ·exact gz _ hy
def fin_push{F:List Tr}{t k:Tr}{a b:List Tr}(hc:UU F)(hb:ZF t=a++k::b)(ha:∀x∈a,x∈F):Zk (Zk F (Zp k)) (Zp t)=Zk F (Zp t)/\UU (Zk F (Zp k)):=by
 have hs:∀x∈(a.map Zp).flatten,x∈F:=fun x hx=>by
  obtain⟨l,hl,hx2⟩:=iH.mp hx;obtain⟨j,hj,rfl⟩:=gn.mp hl;exact hc j (ha j hj) x hx2
 have e:Zp t=(a.map Zp).flatten++(Zp k++((b.map Zp).flatten++[t])):=by
  rw[Xh,hb,gb,mU,fZ,lD];simp
 refine⟨?_,fun x hx y hy=>?_⟩
 ·rw[e,Z9,Z9 (Zk (Zk F (Zp k)) _),Z9 F,Z9 (Zk F (a.map Zp).flatten)];rw[Ve hs,Ve (A:=Zk F (Zp k)) fun x hx=>ZH.mpr (.inl (hs x hx)),Ve (A:=Zk F (Zp k)) fun x hx=>ZH.mpr (.inr hx)]
 ·rcases ZH.mp hx with hx|hx
  ·exact ZH.mpr (.inl (hc x hx y hy))
  ·exact ZH.mpr (.inr (yg _ (fE _) hx hy))
def yW:∀(w F:List Tr),∃B,xW w F=F++B
 |[],F=>⟨[],by simp[xW]⟩
 |t::w,F=>by
  obtain⟨B,e⟩:=We (Zp t) F;obtain⟨C,e2⟩:=yW w (Zk F (Zp t));exact⟨B++C,by rw[xW,e2,e,iO]⟩
def zT:List Tr->Prop
 |[]=>True
 |[_]=>True
 |t::s::r=>t∈ZF s/\zT (s::r)
def jj:∀{t:Tr}{w:List Tr},zT (t::w)->∀s∈w,psz t<psz s
 |t,[],_,s,h=>by cases h
 |t,a::r,⟨h1,h2⟩,s,h=>by
  have h3:=Yu (Yl h1);rcases fQ.mp h with rfl|h
  ·exact h3
  ·have:=jj h2 s h;omega
def jq:∀{w:List Tr}{m:Nat},zT w->(∀s∈w,psz s<=m)->w.length<=m
 |[],_,_,_=>by simp
 |[t],m,_,h=>by have:=h t (by simp);have:=Xe t;simp;omega
 |t::s::r,m,⟨h1,h2⟩,h=>by
  have h3:=Yu (Yl h1);have:∀{w:List Tr}{t:Tr},zT (t::w)->∀m,(∀s∈(t::w),psz s<=m)->w.length+psz t<=m:=by
   intro w
   induction w with
   |nil=>intro t _ m hm;have:=hm t (by simp);simp;omega
   |cons a r ih=>
    intro t hc m hm;have h4:=Yu (Yl hc.1);have:=ih hc.2 m fun s hs=>hm s (gf _ hs);rw[gH];omega
  have:=this (w:=s::r) (t:=t) ⟨h1,h2⟩ m h;have:=Xe t;simp at *;omega
def nK(is:List Nat):List Key:=is.map fun(i:Nat)=>(Sum.inl ((i:Nat):Int):Key)
def WH:Lb->List Nat->List Key
 |.yes,_=>[.inr "yes"]
 |.sign z,_=>[.inr "sign",.inr z]
 |.wit m,is=>.inr "within" :: .inl m::nK is
 |.op w,is=>.inr w::nK is
 |.many w,is=>.inr w::nK is
def Uv(ps:List Tr)(t:Tr)(ks:List Key):Prop:=∃is:List Nat,is.length=t.ks.length/\(∀(j:Nat) k i,t.ks[j]?=some k->is[j]?=some i->ps[i]?=some k)/\ks=WH t.lb is
def Uv.more{t x:Tr}{ks:List Key}(h:Uv ps t ks):Uv (ps++[x]) t ks:=by
 obtain⟨is,h1,h2,h3⟩:=h;refine⟨is,h1,fun j k i e1 e2=>?_,h3⟩;have:=h2 j k i e1 e2;rw[gm (fO.mp this).1];exact this
def kf:∀{a b:List Nat},nK a=nK b->a=b
 |[],[],_=>rfl
 |[],y::b,h=>by simp[nK] at h
 |x::a,[],h=>by simp[nK] at h
 |x::a,y::b,h=>by
  have h1:(Sum.inl (x:Int):Key)=Sum.inl (y:Int):=(iQ h).1;have h2:nK a=nK b:=(iQ h).2;have e:(x:Int)=y:=Sum.inl.inj h1;rw[kf h2,show x=y by omega]
def YX:∀w∈W1++W2,w ≠ "yes" /\ w ≠ "sign" /\ w ≠ "within" /\ w ≠ "and" /\ w ≠ "or" := by decide +kernel
def WZ{w:Str}(h:Xp (.op w) n):w∈W1++W2:=by
 rcases h with⟨h,_⟩|⟨h,_⟩
 ·exact g8 _ h
 ·exact gz _ h
def xB:∃r,WH c is=.inr (Zy c)::r:=by
 cases c<;>exact⟨_,rfl⟩
def key_inj{c':Lb}{is':List Nat}(h1:Xp c is.length)(h2:Xp c' is'.length)(h:WH c is=WH c' is'):c=c'/\is=is':=by
 obtain⟨r,e⟩:=xB (c:=c) (is:=is);obtain⟨r',e'⟩:=xB (c:=c') (is:=is');have hw:Zy c=Zy c':=by
  rw[e,e'] at h;exact Sum.inr.inj (iQ h).1
 clear e e' r r';have ny:¬(("sign" : Str) = "yes")/\¬(("within" : Str) = "yes")/\¬(("within" : Str) = "sign")/\¬(("and" : Str) = "yes")/\¬(("or" : Str) = "yes")/\¬(("and" : Str) = "sign")/\¬(("or" : Str) = "sign")/\¬(("and" : Str) = "within")/\¬(("or" : Str) = "within"):=by decide +kernel
 obtain⟨n1,n2,n3,n4,n5,n6,n7,n8,n9⟩:=ny;have z0:∀{l:List Nat},l.length=0->l=[]:=fun h=>gT.mp h;cases c with
 |yes=>
  cases c' with
  |yes=>exact⟨rfl,(z0 h1).trans (z0 h2).symm⟩
  |sign z=>exact absurd hw.symm n1
  |wit m=>exact absurd hw.symm n2
  |op w=>exact absurd hw.symm (YX w (WZ h2)).1
  |many w=>rcases h2.1 with rfl|rfl;exact absurd hw.symm n4;exact absurd hw.symm n5
 |sign z=>
  cases c' with
  |yes=>exact absurd hw n1
  |sign z'=>
   have e:z=z':=Sum.inr.inj (iQ (iQ h).2).1;exact⟨by rw[e],(z0 h1.1).trans (z0 h2.1).symm⟩
  |wit m=>exact absurd hw.symm n3
  |op w=>exact absurd hw.symm (YX w (WZ h2)).2.1
  |many w=>rcases h2.1 with rfl|rfl;exact absurd hw.symm n6;exact absurd hw.symm n7
 |wit m=>
  cases c' with
  |yes=>exact absurd hw n2
  |sign z=>exact absurd hw n3
  |wit m'=>
   have e:=(iQ (iQ h).2);exact⟨by rw[Sum.inl.inj e.1],kf e.2⟩
  |op w=>exact absurd hw.symm (YX w (WZ h2)).2.2.1
  |many w=>rcases h2.1 with rfl|rfl;exact absurd hw.symm n8;exact absurd hw.symm n9
 |op w=>
  have wa:=YX w (WZ h1);cases c' with
  |yes=>exact absurd hw wa.1
  |sign z=>exact absurd hw wa.2.1
  |wit m=>exact absurd hw wa.2.2.1
  |op w'=>exact⟨by rw[show w=w' from hw],kf (iQ h).2⟩
  |many w'=>rcases h2.1 with rfl|rfl;exact absurd hw wa.2.2.2.1;exact absurd hw wa.2.2.2.2
 |many w=>
  cases c' with
  |yes=>rcases h1.1 with rfl|rfl;exact absurd hw n4;exact absurd hw n5
  |sign z=>rcases h1.1 with rfl|rfl;exact absurd hw n6;exact absurd hw n7
  |wit m=>rcases h1.1 with rfl|rfl;exact absurd hw n8;exact absurd hw n9
  |op w'=>rcases h1.1 with rfl|rfl;exact absurd hw.symm (YX w' (WZ h2)).2.2.2.1;exact absurd hw.symm (YX w' (WZ h2)).2.2.2.2
  |many w'=>exact⟨by rw[show w=w' from hw],kf (iQ h).2⟩
def row_inj{t s:Tr}{ks:List Key}(o1:Xp t.lb t.ks.length)(o2:Xp s.lb s.ks.length)(h:Uv ps t ks)(g:Uv ps s ks):t=s:=by
 obtain⟨is,h1,h2,h3⟩:=h;obtain⟨js,g1,g2,g3⟩:=g;obtain⟨e1,e2⟩:=key_inj (by rw[h1];exact o1) (by rw[g1];exact o2) (h3.symm.trans g3);subst e2;rw[Tr.eta t,Tr.eta s,e1]
 congr 1
 apply i0;intro j;have hl:t.ks.length=s.ks.length:=h1.symm.trans g1
 by_cases hj:j<t.ks.length
 ·have hji:j<is.length:=by rw[h1];exact hj
  have a:=h2 j _ _ (fG hj) (fG hji);have b:=g2 j _ _ (fG (by rw[<- hl];exact hj)) (fG hji);rw[fG hj,fG (by rw[<- hl];exact hj)];exact a.symm.trans b
 ·rw[gZ (by omega),gZ (by omega)]
def yR(nd:ps.Nodup){t:Tr}(h1:ps[i]?=some t)(h2:ps[j]?=some t):i=j:=by
 obtain⟨a,e1⟩:=fO.mp h1;obtain⟨b,e2⟩:=fO.mp h2;have pw:=mV.mp (List.nodup_iff_pairwise_ne.mp nd);rcases Nat.lt_trichotomy i j with h|h|h
 ·exact absurd (e1.trans e2.symm) (pw i j a b h)
 ·exact h
 ·exact absurd (e2.trans e1.symm) (pw j i b a h)
def row_fun(nd:ps.Nodup){t:Tr}{ks js:List Key}(h:Uv ps t ks)(g:Uv ps t js):ks=js:=by
 obtain⟨is,h1,h2,h3⟩:=h;obtain⟨is',g1,g2,g3⟩:=g;have e:is=is':=by
  apply i0;intro j
  by_cases hj:j<t.ks.length
  ·rw[fG (show j<is.length by omega),fG (show j<is'.length by omega)]
   congr 1
   exact yR nd (h2 j _ _ (fG hj) (fG (by omega))) (g2 j _ _ (fG hj) (fG (by omega)))
  ·rw[gZ (by omega),gZ (by omega)]
 rw[h3,g3,e]
def numR:Nat->List (List Key)->List (List Key×V)
 |_,[]=>[]
 |n,k::r=>(k,.int (n:Int))::numR (n+1) r
def val_no:∀{n:Nat}{l:List (List Key)}{k:List Key},k∉l->YW (numR n l) k=none
 |n,[],k,_=>rfl
 |n,a::r,k,h=>by
  have ha:a≠k:=fun e=>h (by rw[e];simp);have ih:=val_no (n:=n+1) (l:=r) (k:=k) fun z=>h (gf _ z);unfold YW at ih ⊢;rw[numR,List.find?_cons_of_neg (by simpa using ha)];exact ih
def val_at:∀{n:Nat}{l:List (List Key)}{k:List Key}{i:Nat},l.Nodup->l[i]?=some k->YW (numR n l) k=some (.int ((n+i:Nat):Int))
 |n,[],k,i,_,h=>by simp at h
 |n,a::r,k,0,_,h=>by
  have e:a=k:=by simpa using h
  unfold YW;rw[numR,List.find?_cons_of_pos (by simpa using e)];rfl
 |n,a::r,k,i+1,nd,h=>by
  have hm:r[i]?=some k:=by simpa using h
  have ha:a≠k:=fun e=>(iC.mp nd).1 (by rw[e];exact gj hm);have ih:=val_at (n:=n+1) (l:=r) (k:=k) (iC.mp nd).2 hm;unfold YW at ih ⊢;rw[numR,List.find?_cons_of_neg (by simpa using ha),show n+(i+1)=n+1+i by omega];exact ih
def Vp(P R D:Addr)(H H':Hp):Prop:=∀b o,b≠P->b≠R->b≠D->H b=some o->H' b=some o
def Vp.refl{P R:Addr}:Vp P R D H H:=fun b o _ _ _ e=>e
def Ze.b{P R D:Addr}{H H':Hp}(s:Ze H H'):Vp P R D H H':=fun b o _ _ _ e=>s _ _ e
def row_known(nd:ps.Nodup)(hl:rks.length=ps.length)(ok:∀t∈ps,Xp t.lb t.ks.length)(hr:∀(i:Nat) t ks,ps[i]?=some t->rks[i]?=some ks->Uv ps t ks) :
  rks.Nodup/\∀{t:Tr}{ks:List Key},Xp t.lb t.ks.length->Uv ps t ks->(∀i:Nat,ps[i]?=some t->rks[i]?=some ks)/\(t∉ps->ks∉rks):=by
 have same:∀(i j:Nat) ks,rks[i]?=some ks->rks[j]?=some ks->i=j:=fun i j ks h1 h2=>by
  have hi:=(fO.mp h1).1;have hj:=(fO.mp h2).1;have e1:ps[i]?=some ps[i]:=fG (by omega);have e2:ps[j]?=some ps[j]:=fG (by omega);have e:=row_inj (ok _ (fX _)) (ok _ (fX _)) (hr i _ _ e1 h1) (hr j _ _ e2 h2);rw[<- e] at e2;exact yR nd e1 e2
 refine⟨?_,fun {t ks} o1 h=>⟨fun i hi=>?_,fun hn hm=>?_⟩⟩
 ·rw[List.nodup_iff_pairwise_ne,mV];intro i j hi hj hij e;have:=same i j rks[i] (fG hi) (by rw[e];exact fG hj);omega
 ·have hi2:=(fO.mp hi).1;have e1:rks[i]?=some rks[i]:=fG (by omega);rw[row_fun nd h (hr i t _ hi e1)];exact e1
 ·obtain⟨i,hi,e⟩:=gI hm;have e1:ps[i]?=some ps[i]:=fG (by omega);have:=row_inj o1 (ok _ (fX _)) h (hr i _ _ e1 (by rw[<- e];exact fG hi));exact hn (by rw[this];exact fX _)
def Yq.units1{k:Nat}(r:Yq k A):A.units+1<cLine:=by have:=r.un;omega
def tput1(v:V):Yp "parts" v []=([("parts",v)]:List (Str×V)):=by
 simp[Yp]
abbrev XE:=List (List Key×Addr×V)
abbrev XPr:XE->List (List Key×Addr×Value)->Prop:=Paired fun p q=>p.1=q.1/\p.2.1=q.2.1/\ZU p.2.2 q.2.2
def DxAt(Pm:Params)(a:Addr)(es:XE)(h:Heap):Prop:=es.length<=sizeLine/\(a==sysModules)=false/\∃(P:Program) (w:World) (xs:List (List Key×Addr×Value)),w.params=Pm/\XPr es xs /\
 ∃o fs ep,h.get? a=some o/\o.ExactDict/\o.data=.dict fs ep/\fs.toList=xs.map (entryOfKey (tupleKind (ZB P w)))/\(xs.map (·.1)).Nodup
def DxO(Pm:Params)(a:Addr)(es:XE):HO:=.ext (DxAt Pm a es)
def dx_ok{a:Addr}{es:XE}(x:DxAt Pm a es h):Yw P w H h a (DxO Pm a es):=by
 refine⟨x,?_,?_⟩
 ·obtain⟨_,_,_,_,_,_,_,o,_,_,e,_⟩:=x;exact⟨o,e⟩
 ·rintro h1 h2 ⟨z,y,P',w',xs,hp,r,o,fs,ep,e,c⟩ k;exact⟨z,y,P',w',xs,hp,r,o,fs,ep,k _ e,c⟩
def J4{P':Program}{w':World}(h:w.params=w'.params):entryOfKey (tupleKind (ZB P w))=entryOfKey (tupleKind (ZB P' w')):=by
 have hk:keyH w=keyH w':=by
  funext k
  cases k with
  |inl i=>rfl
  |inr x=>show hashStr w x=hashStr w' x;unfold hashStr;rw[h]
 funext x
 unfold entryOfKey
 congr 1
 show tupleKeyHash (ZB P w) x.1=tupleKeyHash (ZB P' w') x.1
 unfold tupleKeyHash
 show reduceHash (Builtin.Tuple.tupleHashOf (x.1.map (keyH w)))=reduceHash (Builtin.Tuple.tupleHashOf (x.1.map (keyH w')))
 rw[hk]
def valX(es:XE)(k:List Key):Option V:=YW (es.map fun e=>(e.1,e.2.2)) k
def XPr.val{es:XE}(r:XPr es xs)(k:List Key):VH (valX es k) ((atKey xs k).map (·.2)):=by
 induction r with
 |nil=>exact True.intro
 |@cons p q ps qs h t ih=>
  obtain⟨h1,_,h2⟩:=h;unfold valX at ih ⊢;rw[fZ]
  by_cases e:p.1=k
  ·have e':q.1=k:=h1.symm.trans e;have b:atKey (q::qs) k=some q.2:=by simp[atKey,lK,e']
   rw[Y2 e,b];exact h2
  ·have e':¬q.1=k:=fun z=>e (h1.trans z);have b:atKey (q::qs) k=atKey qs k:=by simp[atKey,lK,e']
   rw[Y1 e,b];exact ih
def XGet(K:W.Frag)(Pm:Params)(H:Hp)(a:Addr)(y:V)(r:Option V):Prop:=∃es k b,H a=some (DxO Pm a es)/\y=.ref b/\SqT K H b (k.map kV)/\(∀e∈es,SqT K H e.2.1 (e.1.map kV))/\r=valX es k
def XPut(K:W.Frag)(Pm:Params)(H:Hp)(a:Addr)(y v:V)(H':Hp):Prop:=∃es k b,H a=some (DxO Pm a es)/\y=.ref b/\SqT K H b (k.map kV)/\(∀e∈es,SqT K H e.2.1 (e.1.map kV))/\valX es k=none/\es.length<sizeLine/\H'=upd H a (DxO Pm a (es++[(k,b,v)]))
section
variable{U:L3.St}{a:Addr}{r:Value}{o:Option V}
def yC{ks:List Key}{b:Addr}(I:L2.Inv X db U H s)(e:SqT X.K H b (ks.map kV)):(tupleKind (ZB X.prog X.w)).is s.heap ks b:=by
 obtain⟨its,r,t,_⟩:=I.tuple e;obtain⟨o,h1,h2,n,h3⟩:=t;exact⟨o,its.toArray,n,h1,h2,h3,by simpa using zL r⟩
def dx_of{es:XE}(hw:X.w.params=Pm)(I:L2.Inv X db U H s)(e:H a=some (DxO Pm a es))(hk:∀e∈es,SqT X.K H e.2.1 (e.1.map kV)):es.length<=sizeLine/\(a==sysModules)=false/\∃xs,XPr es xs/\s.heap.DictOfH (tupleKind (ZB X.prog X.w)) a xs:=by
 obtain⟨⟨z,y,P,w,xs,hp,r,o,fs,ep,h1,h2,h3,h4,h5⟩,_⟩:=I.hok a _ e;refine⟨z,y,xs,r,o,fs,ep,h1,h2,h3,?_,fun x hx=>?_,h5⟩
 ·rw[h4,J4 (P':=X.prog) (w':=X.w) (hp.trans hw.symm)]
 ·have all:∀{l:XE}{m:List (List Key×Addr×Value)},XPr l m->(∀e∈l,SqT X.K H e.2.1 (e.1.map kV))->∀x∈m,(tupleKind (ZB X.prog X.w)).is s.heap x.1 x.2.1:=by
   intro l m q
   induction q with
   |nil=>intro _ x hx;exact nomatch hx
   |@cons p q ps qs hq t ih=>
    intro hk x hx;rcases fQ.mp hx with e|hx
    ·subst e;have:=hk p (by simp);rw[hq.1,hq.2.1] at this;exact yC I this
    ·exact ih (fun e he=>hk e (gf _ he)) x hx
  exact all r hk x hx
def x_getItem(hw:X.w.params=Pm)(hu:A.units+1<cLine)(I:L2.Inv X db U H s)(g:XGet X.K Pm H a y (some v))(ry:ZU y u)(h:∀w' s',L2.Inv X db U H s'->ZU v w'->Q w' s') :
  wpAny (model X.prog X.w) A (getItem (.ref a) u) Q E s:=by
 obtain⟨es,k,b,e,rfl,eb,hk,l⟩:=g;cases (show u=Value.ref b from ry);obtain⟨z,hd,xs,rel,dd⟩:=dx_of hw I e hk;obtain⟨w',hw',rw'⟩:=VH.some_of (v:=v) (o:=(atKey xs k).map (·.2)) (by rw[l];exact rel.val k);obtain⟨p,hp,hp2⟩:=iF.mp hw';refine wpAny_getItem_heap (mE hu) (yC I eb) dd hp ?_;rw[hp2];exact h w' _ (I.tok _) rw'
def x_notIn(hw:X.w.params=Pm)(hu:A.units+1<cLine)(I:L2.Inv X db U H s)(g:XGet X.K Pm H a y o)(ry:ZU y u)(h:∀s',L2.Inv X db U H s'->Q (.bool (!o.isSome)) s') :
  wpAny (model X.prog X.w) A (compareOp .NotIn u (.ref a)) Q E s:=by
 obtain⟨es,k,b,e,rfl,eb,hk,l⟩:=g;cases (show u=Value.ref b from ry);obtain⟨z,hd,xs,rel,dd⟩:=dx_of hw I e hk;refine wpAny_notIn_heap (mE hu) (yC I eb) hd dd ?_;have q:=(rel.val k).isSome_eq;rw[Option.isSome_map] at q;rw[<- q,<- l];exact h _ (I.tok _)
def x_setItem{Q:Unit->Shared->Prop}(hw:X.w.params=Pm)(hu:A.units+1<cLine)(I:L2.Inv X db U H s)(g:XPut X.K Pm H a y v H')(ry:ZU y u)(rv:ZU v r)(h:∀s',L2.Inv X db U H' s'->Q () s') :
  wpAny (model X.prog X.w) A (setItem (.ref a) u r) Q E s:=by
 obtain⟨es,k,b,e,rfl,eb,hk,hn,hl,rfl⟩:=g;cases (show u=Value.ref b from ry);obtain⟨z,hd,xs,rel,dd⟩:=dx_of hw I e hk;have hz:xs.length<=sizeLine:=by rw[<- mn rel];exact z
 have hnone:atKey xs k=none:=by
  have q:=(rel.val k).isSome_eq;rw[hn,Option.isSome_map] at q;cases hh:atKey xs k with
  |none=>rfl
  |some p=>rw[hh] at q;cases q
 refine wpAny_setItem_heap (hsz:=hz) (mE hu) (yC I eb) dd fun h' dd' hs=>h _ ?_;rw[storedH_new hnone] at dd';obtain⟨q,fs,ep,hq,h2,h3,h4,_,h5⟩:=dd';refine UZ (ob:=DxO Pm a (es++[(k,b,v)])) I (by rw[e];exact True.intro) hs ⟨q,hq⟩ (dx_ok ⟨by rw[fK,gG];omega,hd,X.prog,X.w,_,hw,Paired.snoc rel ⟨rfl,rfl,rv⟩,q,fs,ep,hq,h2,h3,h4,h5⟩)
end
def tXGet(K:W.Frag)(Pm:Params)(td ty:TE):TE:=fun U H Q=>td U H fun x H1=>ty U H1 fun y H2=>∃a v,x=.ref a/\XGet K Pm H2 a y (some v)/\Q v H2
def tXNotIn(K:W.Frag)(Pm:Params)(ty td:TE):TE:=fun U H Q=>ty U H fun y H1=>td U H1 fun x H2=>∃a o,x=.ref a/\XGet K Pm H2 a y o/\Q (.bl (!o.isSome)) H2
def sXPut(K:W.Frag)(Pm:Params)(td ty tv:TE):L2.TS:=fun D U H=>tv U H fun v H1=>td U H1 fun x H2=>ty U H2 fun y H3=>∃a H4,x=.ref a/\XPut K Pm H3 a y v H4/\D.nx U H4
def tXNew(Pm:Params):TE:=fun _ H Q=>∀p,H p=none->Q (.ref p) (upd H p (DxO Pm p []))
section
variable{o i value:Expr}{td ty tv:TE}
def x_dict{U:L3.St}{a:Addr}{es:XE}(I:L2.Inv X db U H s)(e:H a=some (DxO Pm a es)):s.TypeIs (.ref a) "dict" := by
 obtain⟨⟨_,_,_,_,_,_,_,o,_,_,h1,h2,_⟩,_⟩:=I.hok a _ e;exact⟨o,h1,h2.1⟩
def pe_xget(hK:X.K=K)(hw:X.w.params=Pm)(hu:X.A.units+1<cLine)(ho:PE X o td)(hi:PE X i ty)(hs:NoSl i):PE X (.Subscript o i pos) (tXGet K Pm td ty):=by
 subst hK;intro db s U H Q I h;refine subD_of PySem.F.slot_dict_getitem.lookup hs (thn (ho db s U H _ I h) fun u s1 ⟨x,H1,I1,rx,q1⟩=>thn (hi db s1 U H1 _ I1 q1) fun iv s2 ⟨y,H2,I2,ry,a,v,ex,g,q2⟩=>?_);subst ex;obtain rfl:u=Value.ref a:=rx;obtain⟨es,_,_,e,_⟩:=id g;exact⟨x_dict I2 e,x_getItem hw hu I2 g ry fun w' s3 I3 rw'=>⟨v,H2,I3,rw',q2⟩⟩
def pc_xnotin(hK:X.K=K)(hw:X.w.params=Pm)(hu:X.A.units+1<cLine)(hi:PE X i ty)(ho:PE X o td):PC X .NotIn i o (tXNotIn K Pm ty td):=by
 subst hK;intro db s U H Q I h;refine thn (hi db s U H _ I h) fun iv s1 ⟨y,H1,I1,ry,q1⟩=>thn (ho db s1 U H1 _ I1 q1) fun u s2 ⟨x,H2,I2,rx,a,ov,ex,g,q2⟩=>?_;subst ex;obtain rfl:u=Value.ref a:=rx;exact x_notIn hw hu I2 g ry fun s3 I3=>⟨.bl (!ov.isSome),H2,I3,rfl,q2⟩
def ps_xput(hK:X.K=K)(hw:X.w.params=Pm)(hu:X.A.units+1<cLine)(ho:PE X o td)(hi:PE X i ty)(hv:PE X value tv)(hs:swapsWith value (some (.Subscript o i pos')) pos.line X.env=pure false) :
  PS X (.Assign [.Subscript o i pos'] value pos) (sXPut K Pm td ty tv):=by
 subst hK;intro db s U H D I h;refine wpAny_Assign_Subscript (thn (hv db s U H _ I h) fun r s1 ⟨v,H1,I1,rv,q1⟩=>thn (ho db s1 U H1 _ I1 q1) fun u s2 ⟨x,H2,I2,rx,q2⟩=>thn (hi db s2 U H2 _ I2 q2) fun iv s3 ⟨y,H3,I3,ry,a,H4,ex,g,q3⟩=>?_) hs;subst ex;obtain rfl:u=Value.ref a:=rx;exact x_setItem hw hu I3 g ry rv fun s4 I4=>⟨U,H4,I4,q3⟩
def pe_xnew(hw:X.w.params=Pm):PE X (.Dict [] [] pos) (tXNew Pm):=fun db s U H Q I h=>
 wpAny_Dict_empty ⟨.ref s.heap.objs.size,_,I.laid (a:=s.heap.objs.size) (o:=DxO Pm s.heap.objs.size []) (t':=s.toks) (fun _ _ q=>fM _ q) (fE _) (dx_ok ⟨gB _,i8.mpr (fT (fP (Inv.big I))),X.prog,X.w,[],hw,.nil,_,#[],0,ge _ rfl,⟨rfl,rfl,rfl⟩,rfl,rfl,iG⟩),rfl,h _ (I.hok.fresh (fE _))⟩
end
open Classical in
def XJ:∀{l₁ l₂:List Tr},l₁.Nodup->(∀x∈l₁,x∈l₂)->l₁.length<=l₂.length
 |[],_,_,_=>by simp
 |x::r,l₂,nd,h=>by
  obtain⟨h1,h2⟩:=iC.mp nd;have hx:=h x (by simp);have:=XJ (l₂:=l₂.erase x) h2 fun y hy=>(List.mem_erase_of_ne (fun e=>h1 (by rw[<- e];exact hy))).mpr (h y (gf _ hy));rw[List.length_erase_of_mem hx] at this;have:=og hx;rw[gH];omega
def Wc:∀{ks:List Tr}{s:Tr},s∈Yi ks↔∃k∈ks,s∈post k
 |[],s=>by rw[Yi];simp
 |t::r,s=>by rw[Yi,fR,Wc];simp
def yK:∀(n:Nat) {t x y:Tr},psz t<=n->x∈post t->y∈post x->y∈post t
 |0,t,x,y,h,_,_=>by have:=Xe t;omega
 |n+1,t,x,y,h,hx,hy=>by
  rw[WS,fR,Wc] at hx;rcases hx with⟨k,hk,hx⟩|hx
  ·rw[WS,fR,Wc];exact .inl ⟨k,hk,yK n (by have:=Yu hk;omega) hx hy⟩
  ·rw[fW.mp hx] at hy;exact hy
def YE:∀(n:Nat) {t x:Tr},psz t<=n->x∈Zp t->x∈post t
 |0,t,x,h,_=>by have:=Xe t;omega
 |n+1,t,x,h,hx=>by
  rcases WA hx with rfl|⟨k,hk,hxk⟩
  ·exact post_mem _
  ·rw[WS,fR,Wc];exact .inl ⟨k,Yl hk,YE n (by have:=Yu (Yl hk);omega) hxk⟩
def xh(t:Tr):(Zk [] (Zp t)).length<=(Zk [] (post t)).length:=by
 refine XJ (Yv (by simp)) fun y hy=>?_;rcases ZH.mp hy with hy|hy
 ·cases hy
 ·exact ZH.mpr (.inr (YE _ (fE _) hy))
def Vj:Nat->List (List Key×Addr)->XE
 |_,[]=>[]
 |n,e::r=>(e.1,e.2,.int (n:Int))::Vj (n+1) r
def Jd:∀(n:Nat) (l:List (List Key×Addr)),(Vj n l).length=l.length
 |_,[]=>rfl
 |n,k::r=>by rw[Vj,gH,Jd,gH]
def vW:∀(n:Nat) (l:List (List Key×Addr)) (e:List Key×Addr),Vj n (l++[e])=Vj n l++[(e.1,e.2,.int ((n+l.length:Nat):Int))]
 |n,[],e=>rfl
 |n,a::r,e=>by rw[mT,Vj,vW (n+1) r e,Vj,gH,mT,show n+1+r.length=n+(r.length+1) by omega]
def numX_R:∀(n:Nat) (l:List (List Key×Addr)),(Vj n l).map (fun e=>(e.1,e.2.2))=numR n (l.map (·.1))
 |_,[]=>rfl
 |n,e::r=>by rw[Vj,fZ,numX_R,fZ,numR]
def jV(rows:List (List Key×Addr))(k:List Key):valX (Vj 0 rows) k=YW (numR 0 (rows.map (·.1))) k:=by unfold valX;rw[numX_R]
def xa:∀{n:Nat}{l:List (List Key×Addr)}{e:List Key×Addr×V},e∈Vj n l->(e.1,e.2.1)∈l
 |_,[],e,h=>by cases h
 |n,a::r,e,h=>by
  rw[Vj] at h;rcases fQ.mp h with rfl|h
  ·simp
  ·exact gf _ (xa h)
structure TbK(K:W.Frag)(Pm:Params)(C:Addr)(H:Hp)(r P R D:Addr)(ps:List Tr):Prop where
 obj:∃dx,H r=some (.ins C dx [("parts",.ref P),("rows",.ref R),("numbers",.ref D)])
 pl:∃n pv,H P=some (.lst pv)/\AtL K n H pv ps
 rl:∃rows:List (List Key×Addr),H R=some (.lst (rows.map fun e=>.ref e.2))/\rows.length=ps.length/\(∀e∈rows,SqT K H e.2 (e.1.map kV))/\(∀(i:Nat) t e,ps[i]?=some t->rows[i]?=some e->Uv ps t e.1)/\H D=some (DxO Pm D (Vj 0 rows))
 nd:ps.Nodup
 pr:P≠R
def Vp.t{P R:Addr}{pv rv:List V}{es:XE}(s:Vp P R D H H')(h1:H P=some (.lst pv))(h2:H R=some (.lst rv))(h3:H D=some (DxO Pm D es)):YH H H':=fun K b xs h=>by
 have n:∀{o:HO},H b=some o->(∀ys,o≠.lst ys)->(∀φ,o≠.ext φ)->H' b=some o:=fun e q1 q2=>s _ _ (fun z=>by rw[z,h1] at e;cases e;exact q1 _ rfl) (fun z=>by rw[z,h2] at e;cases e;exact q1 _ rfl) (fun z=>by rw[z,h3] at e;cases e;exact q2 _ rfl) e;rcases h with(h|⟨o,h⟩)|h
 ·exact .inl (.inl (n h (fun _ z=>by cases z) (fun _ z=>by cases z)))
 ·exact .inl (.inr ⟨o,n h (fun _ z=>by cases z) (fun _ z=>by cases z)⟩)
 ·exact .inr h
def TbK.t{C:Addr}{H H':Hp}{r P R D:Addr}{ps:List Tr}(h:TbK K Pm C H r P R D ps)(s:Vp P R D H H'):YH H H':=by
 obtain⟨n,pv,h1,_⟩:=h.pl;obtain⟨rows,h2,_,_,_,h3⟩:=h.rl;exact s.t h1 h2 h3
def TbK.mono{C:Addr}{H H':Hp}{r P R D:Addr}{ps:List Tr}(s:Ze H H')(h:TbK K Pm C H r P R D ps):TbK K Pm C H' r P R D ps:=by
 obtain⟨⟨dx,h0⟩,⟨n,pv,h1,h2⟩,⟨rows,g1,g2,g3,g4,g5⟩,nd,pr⟩:=h;exact⟨⟨dx,s _ _ h0⟩,⟨n,pv,s _ _ h1,h2.mono (om s)⟩,⟨rows,s _ _ g1,g2,fun e he=>om s _ _ _ (g3 e he),g4,s _ _ g5⟩,nd,pr⟩
def TbK.monoX{r P R F:Addr}{xs:List V}(s:Zs F H H')(hF:H F=some (.lst xs))(n1:P≠F)(n2:R≠F)(h:TbK K Pm C H r P R D ps):TbK K Pm C H' r P R D ps:=by
 obtain⟨⟨dx,h0⟩,⟨n,pv,h1,h2⟩,⟨rows,g1,g2,g3,g4,g5⟩,nd,pr⟩:=h;have u:YH H H':=Zs.tup s hF;exact⟨⟨dx,s _ _ (Vk h0 hF (by intro z;cases z)) h0⟩,⟨n,pv,s _ _ n1 h1,h2.mono u⟩,⟨rows,s _ _ n2 g1,g2,fun e he=>u _ _ _ (g3 e he),g4,s _ _ (Vk g5 hF (by intro z;cases z)) g5⟩,nd,pr⟩
def AtL.oks(h:AtL K n H vs ts):∀t∈ts,Xp t.lb t.ks.length:=fun t ht=>by
 obtain⟨i,hi,e⟩:=gI ht;have hv:i<vs.length:=by rw[h.1];exact hi
 have:=h.2 i _ t (fG hv) (by rw[<- e];exact fG hi);cases n with
 |zero=>exact this.elim
 |succ n=>obtain⟨_,_,_,_,ok,_⟩:=this;exact ok
structure DicF(K:W.Frag)(P:Params)(D:Addr)(kvs:List (Str×Addr)):Prop where
 ex:∃(es:Array DictEntry) (n:Nat),K.lookup D=some ⟨.type "dict",none,.dict es n,#[]⟩/\W.KeysLit P es.toList
 at_:∀p∈kvs,W.nsIn K D p.1=some (some (.ref p.2))
 lo:(D==sysModules)=false
inductive rIxF_R(K:W.Frag)(P:Params)(x:V)(y:V)(H:Hp)(Q:VK):Prop
 |mk (D:Addr) (z:Str) (kvs:List (Str×Addr)) (f:Addr) (h0:x=.ref D) (h1:y=.str z) (h2:DicF K P D kvs) (h3:(z,f)∈kvs) (h4:Q (.ref f) H):rIxF_R K P x y H Q
def rIxF(K:W.Frag)(P:Params):R2:=fun x y H Q=>rIxF_R K P x y H Q
section
variable{P:Params}
def ix_dicF(hK:X.K=K)(hw:X.w.params=P):IxR X (rIxF K P):=by
 subst hK hw;intro value slice db s U H x y v u Q I rx ry h hs;obtain⟨D,z,kvs,f,rfl,rfl,d,hm,q⟩:=h;obtain⟨t,rfl⟩:=(show ∃t,u=Value.str z t from ry);obtain rfl:v=Value.ref D:=rx;obtain⟨m,F⟩:=I.fr;obtain⟨es,n,lk,hk⟩:=d.ex;exact W.topItem_K F I.mod.kin lk hk (d.at_ _ hm) ⟨.ref f,H,I.tok _,rfl,q⟩ hs
def FamOk(X:Cx)(Fam:Addr->Sp->Prop):Prop:=∀f sp,Fam f sp->∃fd ps k,V9 X.prog X.w X.K X.mg X.base CX0 k f fd ps sp/\Yq k X.A/\W.keepIn X.K (.ref f)=true/\VP X.K fd ps []
inductive CallVR(Fam:Addr->Sp->Prop)(i:Nat)(U:L2.St)(H:Hp)(B:Sp->Prop):Prop
 |mk (f:Addr) (sp:Sp) (h0:U[i]?=some (some (.ref f))) (h1:Fam f sp) (h2:B sp):CallVR Fam i U H B
def tCallV(Fam:Addr->Sp->Prop)(i:Nat)(t:TA):TE:=fun U H Q=>CallVR Fam i U H fun sp=>t U H fun vs H1=>sp vs H1 Q E0
def pe_callV{x:Str}{p:Pos}{es:List Expr}{t:TA}(F:FamOk X Fam)(hx:Uc CX0 X E0)(hv:PE X (.Name x p) (tVar i))(ha:PA X (e::es) t)
  (he:starEach (e::es) X.env=(false,eval e X.env)::starEach es X.env:=by rfl) (hpl:(backTo pos (starEach es X.env)).any (·.1)=false:=by rfl) :
  PE X (.Call (.Name x p) (e::es) [] pos) (tCallV Fam i t):=by
 intro db s U H Q I h;obtain⟨f,sp,ei,fm,h⟩:=h;obtain⟨fd,ps,k,Fo,hr,hk,hb⟩:=F f sp fm;refine iW (thn (hv db s U H (fun v H1=>v=.ref f/\H1=H) I ⟨_,ei,rfl,rfl⟩) fun u s1 ⟨v,H1,I1,r,q1,q2⟩=>?_);subst q1;subst q2;obtain rfl:u=Value.ref f:=r;refine ni (h₀:=X.base) I1.ok.mod.kin hk (thn (ha pos db s1 U H1 _ I1 h) fun us s2 ⟨vs,H2,I2,r2,q⟩=>⟨I2.kIn,?_⟩) he hpl;exact kh Fo hr hb .nil hx I2 r2 (by rw[iB];exact q)
end
structure ZQ(p:Nat)(L:List Bool)(f:Nat->Bool):Prop where
 p1:1<=p
 le:p<=L.length
 at_:∀k,(h:k<L.length)->L[k]=f k
 more:∀k,L.length<=k->f k=f (k-p)
def ZQ.get{p:Nat}(t:ZQ p L f){k:Nat}(h:k<L.length):L[k]?=some (f k):=by rw[fG h,t.at_ k h]
def ZQ.cut{p:Nat}{e:Nat}(t:ZQ p (L.take (e+1)) f)(he:e<L.length)(hp:p<=e)(h:L[e]=L[e-p]'(by omega)):ZQ p (L.take e) f:=by
 have p1:=t.p1;have l1:(L.take (e+1)).length=e+1:=by rw[gu];omega
 have l0:(L.take e).length=e:=by rw[gu];omega
 have at1:∀k,(hk:k<e+1)->L[k]'(by omega)=f k:=fun k hk=>by
  have:=t.at_ k (by omega);rw[nC] at this;exact this
 refine⟨t.p1,by omega,fun k hk=>?_,fun k hk=>?_⟩
 ·rw[nC];exact at1 k (by omega)
 ·rw[l0] at hk
  by_cases c:k=e
  ·subst c;rw[<- at1 k (by omega),<- at1 (k-p) (by omega)];exact h
  ·exact t.more k (by omega)
def ZQ.grow{p:Nat}(t:ZQ p L f){b:Bool}(h:L[L.length-p]?=some b):ZQ p (L++[b]) f:=by
 have p1:=t.p1;have le:=t.le;have eb:b=f L.length:=by
  rw[t.more L.length (fE _)];have hl:L.length-p<L.length:=by omega
  rw[fG hl] at h;rw[<- t.at_ _ hl];exact(fY h).symm
 refine⟨p1,by rw[fK];omega,fun k hk=>?_,fun k hk=>t.more k (by rw[fK] at hk;omega)⟩;rw[fK,gG] at hk
 by_cases c:k<L.length
 ·rw[List.getElem_append_left c];exact t.at_ k c
 ·have:k=L.length:=by omega
  subst this;rw[List.getElem_append_right (fE _)];simpa using eb
def ZQ.of{p m:Nat}(p1:1<=p)(hl:L.length=m)(le:p<=m)(at_:∀k,k<m->L[k]?=some (f k))(more:∀k,m<=k->f k=f (k-p)):ZQ p L f:=by
 subst hl;exact⟨p1,le,fun k h=>by have:=at_ k h;rw[fG h] at this;exact fY this,more⟩
def ZQ.not{p:Nat}{L:List Bool}{f:Nat->Bool}(t:ZQ p L f):ZQ p (L.map Bool.not) (fun k=>!f k):=
 .of t.p1 (fF _) t.le (fun k h=>by rw[fL,t.get h];rfl) (fun k h=>by rw[t.more k h])
def ZQ.next{p:Nat}(t:ZQ p L f)(hn:L.length=n+1)(hp:p<=n)(hm:∀k,n<=k->f k=f (k-p)):ZQ p (L.drop 1) (fun k=>f (k+1)):=by
 refine .of t.p1 (m:=n) (by rw[ie];omega) hp (fun k h=>?_) (fun k h=>?_)
 ·rw[mW,Nat.add_comm,t.get (by omega)]
 ·have:=t.p1
  show f (k+1)=f (k-p+1)
  rw[hm (k+1) (by omega)]
  congr 1
  omega
def befB(f:Nat->Bool):Nat->Bool
 |0=>false
 |k+1=>f k
def ZQ.before{p:Nat}(t:ZQ p L f):ZQ p (false::L) (befB f):=by
 refine .of t.p1 (m:=L.length+1) rfl (by have:=t.le;omega) (fun k h=>?_) (fun k h=>?_)
 ·cases k with
  |zero=>rfl
  |succ n=>rw[List.getElem?_cons_succ,t.get (by omega)];rfl
 ·have:=t.p1;have:=t.le;cases k with
  |zero=>omega
  |succ n=>
   have e:n+1-p=(n-p)+1:=by omega
   rw[e];exact t.more n (by omega)
def Xd(f s:Nat->Bool):Nat->Bool
 |0=>s 0
 |k+1=>s (k+1)||(f (k+1)&&Xd f s k)
def zO{f s:Nat->Bool}{m:Nat}:∀q,∃a b:Bool,(∀c,(∀j,j<q->s (m+j+1)=s (c+j+1)/\f (m+j+1)=f (c+j+1))->Xd f s (c+q)=(a||(b&&Xd f s c)))
 |0=>⟨false,true,fun c _=>by simp⟩
 |q+1=>by
  obtain⟨a,b,h⟩:=zO (f:=f) (s:=s) (m:=m) q;refine⟨s (m+q+1)||(f (m+q+1)&&a),f (m+q+1)&&b,fun c hc=>?_⟩;have h1:=h c fun j hj=>hc j (by omega);obtain⟨e1,e2⟩:=hc q (by omega)
  show(s (c+q+1)||(f (c+q+1)&&Xd f s (c+q)))=_
  rw[h1,<- e1,<- e2];cases s (m+q+1)<;>cases f (m+q+1)<;>cases a<;>cases b<;>cases Xd f s c<;>rfl
def vU{s:Nat->Bool}{p m:Nat}(p1:1<=p)(hp:p<=m)(hf:∀k,m<=k->f k=f (k-p))(hs:∀k,m<=k->s k=s (k-p)):∀k,m+p<=k+1->Xd f s k=Xd f s (k-p):=by
 have base:Xd f s (m+p-1)=Xd f s (m-1):=by
  by_cases c:m=p
  ·-- the ring begins at once
   obtain⟨q,rfl⟩:∃q,p=q+1:=⟨p-1,by omega⟩;subst c;obtain⟨a,b,h⟩:=zO (f:=f) (s:=s) (m:=0) q;have h0:=h 0 fun j hj=>⟨rfl,rfl⟩;have h1:=h (q+1) fun j hj=>⟨by rw[hs (q+1+j+1) (by omega)];congr 1;omega,by rw[hf (q+1+j+1) (by omega)];congr 1;omega⟩;have z:Xd f s (q+1)=(s 0||(f 0&&Xd f s q)):=by
    show(s (q+1)||(f (q+1)&&Xd f s q))=_
    rw[hs (q+1) (by omega),hf (q+1) (by omega)];simp
   have z0:Xd f s 0=s 0:=rfl;have e1:q+1+(q+1)-1=q+1+q:=by omega
   have e2:q+1-1=0+q:=by omega
   rw[e1,e2,h1,h0,z,z0];have h0':Xd f s q=(a||(b&&s 0)):=by have hh:=h0;rw[l7,z0] at hh;exact hh
   rw[h0'];cases a<;>cases b<;>cases s 0<;>cases f 0<;>rfl
  ·obtain⟨n,rfl⟩:∃n,m=p+(n+1):=⟨m-p-1,by omega⟩;obtain⟨a,b,h⟩:=zO (f:=f) (s:=s) (m:=n) p;have h0:=h n fun j hj=>⟨rfl,rfl⟩;have h1:=h (n+p) fun j hj=>⟨by rw[hs (n+p+j+1) (by omega)];congr 1;omega,by rw[hf (n+p+j+1) (by omega)];congr 1;omega⟩;have e1:p+(n+1)+p-1=n+p+p:=by omega
   have e2:p+(n+1)-1=n+p:=by omega
   rw[e1,e2,h1,h0];cases a<;>cases b<;>cases Xd f s n<;>rfl
 intro k hk
 induction k with
 |zero=>
  have:m=1/\p=0\/m=0/\p=1\/m=0/\p=0:=by omega
  omega
 |succ n ih=>
  by_cases c:n+1=m+p-1
  ·rw[c,base];congr 1;omega
  ·have h1:=ih (by omega);have e:n+1-p=(n-p)+1:=by omega
   rw[e]
   show(s (n+1)||(f (n+1)&&Xd f s n))=(s (n-p+1)||(f (n-p+1)&&Xd f s (n-p)))
   rw[h1,hs (n+1) (by omega),hf (n+1) (by omega),e]
open Classical in
noncomputable def XD(f s:Nat->Bool)(k:Nat):Bool:=decide (∃j,s (k+j)=true/\∀i,i<j->f (k+i)=true)
open Classical in
def kN(f s:Nat->Bool)(k:Nat):XD f s k=(s k||(f k&&XD f s (k+1))):=by
 unfold XD;rw[lg,lZ];rw[mO,gv,lZ];constructor
 ·rintro⟨j,h1,h2⟩;cases j with
  |zero=>exact .inl h1
  |succ n=>
   refine .inr ⟨h2 0 (by omega),n,?_,fun i hi=>?_⟩
   ·have:k+1+n=k+(n+1):=by omega
    rw[this];exact h1
   ·have:=h2 (i+1) (by omega);have e:k+1+i=k+(i+1):=by omega
    rw[e];exact this
 ·rintro(h|⟨h0,j,h1,h2⟩)
  ·exact⟨0,h,fun i hi=>by omega⟩
  ·refine⟨j+1,?_,fun i hi=>?_⟩
   ·have:k+(j+1)=k+1+j:=by omega
    rw[this];exact h1
   ·cases i with
    |zero=>exact h0
    |succ n=>
     have e:k+(n+1)=k+1+n:=by omega
     rw[e];exact h2 n (by omega)
def vS{s g t:Nat->Bool}{k l:Nat}(hf:∀i,f (k+i)=g (l+i))(hs:∀i,s (k+i)=t (l+i)):XD f s k=XD g t l:=by
 have h:(∃j,s (k+j)=true/\∀i,i<j->f (k+i)=true)↔(∃j,t (l+j)=true/\∀i,i<j->g (l+i)=true):=
  ⟨fun⟨j,h1,h2⟩=>⟨j,hs j▸h1,fun i hi=>hf i▸h2 i hi⟩,fun⟨j,h1,h2⟩=>⟨j,(hs j).symm▸h1,fun i hi=>(hf i).symm▸h2 i hi⟩⟩
 unfold XD;exact my.mpr h
def Y3(f s:Nat->Bool)(h:Bool)(k:Nat):Nat->Bool
 |0=>h
 |q+1=>s k||(f k&&Y3 f s h (k+1) q)
def Jl(f s:Nat->Bool):∀q k,Y3 f s (XD f s (k+q)) k q=XD f s k
 |0,k=>rfl
 |q+1,k=>by
  show(s k||(f k&&Y3 f s (XD f s (k+(q+1))) (k+1) q))=_
  have:k+(q+1)=k+1+q:=by omega
  rw[this,Jl f s q (k+1),<- kN]
def xR{f s:Nat->Bool}:∀q k,Y3 f s false k q=true↔∃j,j<q/\s (k+j)=true/\∀i,i<j->f (k+i)=true
 |0,k=>⟨fun h=>(gk h).elim,fun⟨j,hj,_⟩=>by omega⟩
 |q+1,k=>by
  show(s k||(f k&&Y3 f s false (k+1) q))=true↔_
  rw[mO,gv,xR q (k+1)];constructor
  ·rintro(h|⟨h0,j,hj,h1,h2⟩)
   ·exact⟨0,by omega,h,fun i hi=>by omega⟩
   ·refine⟨j+1,by omega,?_,fun i hi=>?_⟩
    ·have:k+(j+1)=k+1+j:=by omega
     rw[this];exact h1
    ·cases i with
     |zero=>exact h0
     |succ n=>
      have e:k+(n+1)=k+1+n:=by omega
      rw[e];exact h2 n (by omega)
  ·rintro⟨j,hj,h1,h2⟩;cases j with
   |zero=>exact .inl h1
   |succ n=>
    refine .inr ⟨h2 0 (by omega),n,by omega,?_,fun i hi=>?_⟩
    ·have:k+1+n=k+(n+1):=by omega
     rw[this];exact h1
    ·have:=h2 (i+1) (by omega);have e:k+1+i=k+(i+1):=by omega
     rw[e];exact this
open Classical in
def vT{s:Nat->Bool}{p m:Nat}(p1:1<=p)(hp:p<=m)(hf:∀k,m<=k->f k=f (k-p))(hs:∀k,m<=k->s k=s (k-p)):Y3 f s false (m-p) p=XD f s m:=by
 rw[lg,xR];have sh:XD f s m=XD f s (m-p):=vS (fun i=>by rw[hf (m+i) (by omega)];congr 1;omega) (fun i=>by rw[hs (m+i) (by omega)];congr 1;omega);rw[sh];unfold XD;rw[lZ];constructor
 ·rintro⟨j,_,h1,h2⟩;exact⟨j,h1,h2⟩
 ·rintro⟨j,h1,h2⟩;have:∃j,(s (m-p+j)=true/\∀i,i<j->f (m-p+i)=true)/\j<p:=by
   induction j using Nat.strongRecOn with
   |_ j ih=>
    by_cases c:j<p
    ·exact⟨j,⟨h1,h2⟩,c⟩
    ·refine ih (j-p) (by omega) ?_ fun i hi=>h2 i (by omega);rw[hs (m-p+j) (by omega)] at h1;have e:m-p+j-p=m-p+(j-p):=by omega
     rw[e] at h1;exact h1
  obtain⟨j,⟨h1,h2⟩,hj⟩:=this;exact⟨j,hj,h1,h2⟩
def vI{s:Nat->Bool}{p m:Nat}(hp:p<=m)(hf:∀k,m<=k->f k=f (k-p))(hs:∀k,m<=k->s k=s (k-p)):∀k,m<=k->XD f s k=XD f s (k-p):=fun k hk=>
 vS (fun i=>by rw[hf (k+i) (by omega)];congr 1;omega) (fun i=>by rw[hs (k+i) (by omega)];congr 1;omega)
open PySem.SetTable
section
variable{t:SetTable}{hashAt:Nat->Int}{h:Int}
end
def yH:∀{l₁ l₂:List Nat},l₁.Nodup->(∀x∈l₁,x∈l₂)->l₁.length<=l₂.length
 |[],_,_,_=>by simp
 |x::r,l₂,nd,h=>by
  obtain⟨h1,h2⟩:=iC.mp nd;have hx:=h x (by simp);have:=yH (l₂:=l₂.erase x) h2 fun y hy=>(List.mem_erase_of_ne (fun e=>h1 (by rw[<- e];exact hy))).mpr (h y (gf _ hy));rw[List.length_erase_of_mem hx] at this;have:=og hx;rw[gH];omega
section
variable{a:Addr}{x:Value}{h:Int}{Q:Bool->Shared->Prop}
def vO{hp:Heap}{o:Obj}{es':Array (Int×Value)}{t t':SetTable}(ho:hp.get? a=some o)(hd:o.data=.set es ep t) :
  (hp.update a (Obj.putSet es' t')).get? a=some { o with data:=.set es' (ep+1) t' }:=by
 have:=iI (Obj.putSet es' t') ho (by rw[putSet_of es' t' hd];rfl);rw[putSet_of es' t' hd] at this;exact this
end
def ZS:Slot "set_iterator" "__next__" "set_iterator.__next__" :=
 .of (owner := "set_iterator") (n := "__next__") (by rw[mX,mY];kernel_rfl) (by decide +kernel) (by decide +kernel) (by decide +kernel)
  (by first|exact .inl (by decide +kernel)|exact .inr (by decide +kernel)) (by rw[isSubtype_type];kernel_rfl)
def XA:Slot "set_iterator" "__iter__" "set_iterator.__iter__" :=
 .of (owner := "set_iterator") (n := "__iter__") (by rw[mX,mY];kernel_rfl) (by decide +kernel) (by decide +kernel) (by decide +kernel)
  (by first|exact .inl (by decide +kernel)|exact .inr (by decide +kernel)) (by rw[isSubtype_type];kernel_rfl)
def Xo:entryFor table "set_iterator.__next__" = some Builtin.«set_iterator.__next__» := entryFor_of_tree (by kernel_rfl)
def VL:entryFor table "set_iterator.__iter__" = some Builtin.«dict_keyiterator.__iter__» :=
 entryFor_alias (id' := "dict_keyiterator.__iter__") (by kernel_rfl) rfl (by decide +kernel) (by kernel_rfl)
def ym:Manifest.owners.lookup (String.ofList ['r','o','t','a','r','e','t','i','_','t','e','s'].reverse)=some Manifest.sig_set_iterator:=by kernel_rfl
def Xx(a:Value):argsOk "set_iterator.__next__" ⟨[a],[]⟩:=by
 unfold argsOk;rw[signature?_of (id := "set_iterator.__next__") (n:=['_','_','t','x','e','n','_','_']) (o:=['r','o','t','a','r','e','t','i','_','t','e','s']) (by kernel_rfl) ym];kernel_rfl
def Uw(a:Value):argsOk "set_iterator.__iter__" ⟨[a],[]⟩:=by
 unfold argsOk;rw[signature?_of (id := "set_iterator.__iter__") (n:=['_','_','r','e','t','i','_','_']) (o:=['r','o','t','a','r','e','t','i','_','t','e','s']) (by kernel_rfl) ym];kernel_rfl
def yG:entryFor table "set.__iter__" = some Builtin.«frozenset.__iter__» :=
 entryFor_alias (id' := "frozenset.__iter__") (by kernel_rfl) rfl (by decide +kernel) (by kernel_rfl)
def kI:typeLookup (.type "set") "__len__" = pure (some (.builtin "set.__len__")):=by rw[mX,mY];kernel_rfl
open SetTable in
def yi{xs:Array Nat}:∀(f hi:Nat),below.go xs 0 f 0 hi=0
 |0,hi=>rfl
 |f+1,hi=>by
  unfold below.go
  split
  ·simp only;rw[if_neg (by omega)];exact yi f _
  ·rfl
open SetTable in
def UA{xs:Array Nat}{j:Nat}:∀(f lo hi:Nat),lo<=hi->hi-lo<=f->hi<=xs.size->(hi<xs.size->j<=xs.getD hi j)->below.go xs j f lo hi<xs.size->j<=xs.getD (below.go xs j f lo hi) j
 |0,lo,hi,h1,h2,h3,h4,h5=>by
  have e:lo=hi:=by omega
  subst e;exact h4 h5
 |f+1,lo,hi,h1,h2,h3,h4,h5=>by
  unfold below.go at h5 ⊢
  by_cases hl:lo<hi
  ·rw[if_pos hl] at h5 ⊢;simp only at h5 ⊢
   by_cases hx:xs.getD ((lo+hi)/2) j<j
   ·rw[if_pos hx] at h5 ⊢;exact UA f _ hi (by omega) (by omega) h3 h4 h5
   ·rw[if_neg hx] at h5 ⊢;exact UA f lo _ (by omega) (by omega) (by omega) (fun _=>by omega) h5
  ·rw[if_neg hl] at h5 ⊢;have e:lo=hi:=by omega
   subst e;exact h4 h5
def Ju{xs:Array Nat}{v:Nat}(hi:SetTable.below xs j=i)(hv:xs[i]?=some v):j<=v:=by
 have hlt:i<xs.size:=by
  rcases Nat.lt_or_ge i xs.size with h|h
  ·exact h
  ·rw[nE h] at hv;cases hv
 have:=UA (xs:=xs) (j:=j) xs.size 0 xs.size (gB _) (by omega) (fE _) (fun h=>absurd h (iy _)) (by show SetTable.below xs j<_;rw[hi];exact hlt);have e:SetTable.below.go xs j xs.size 0 xs.size=i:=hi;rw[e,Array.getD_eq_getD_getElem?,hv] at this;exact this
def count_lt{l:List Nat}{a:Nat}(hj:j∈l)(ha:a<=j):l.countP (fun x=>decide (j+1<=x))<l.countP (fun x=>decide (a<=x)):=by
 have mono:∀l:List Nat,l.countP (fun x=>decide (j+1<=x))<=l.countP (fun x=>decide (a<=x)):=fun l=>
  List.countP_mono_left fun x _ h=>by simp at *; omega
 induction l with
 |nil=>cases hj
 |cons x r ih=>
  have m:=mono r;rcases fQ.mp hj with e|h
  ·subst e;rw[nF,nF,if_neg (by simp),if_pos (by simpa using ha)];omega
  ·have:=ih h;rw[nF,nF]
   by_cases c:j+1<=x
   ·rw[if_pos (by simpa using c),if_pos (by simp;omega)];omega
   ·rw[if_neg (by simpa using c)];omega
def seq_ex{nxt:Nat->Nat->Option (Value×Nat)}{m:Nat->Nat->Nat}(h:∀sl g x sl',nxt sl g=some (x,sl')->m sl' (g+1)<m sl g) :
  ∀k sl g,m sl g<=k->∃(seq:List Value) (sls:Nat->Nat),sls 0=sl/\(∀i x,seq[i]?=some x->nxt (sls i) (g+i)=some (x,sls (i+1)))/\nxt (sls seq.length) (g+seq.length)=none/\seq.length<=m sl g
 |k,sl,g,hk=>by
  cases e:nxt sl g with
  |none=>exact⟨[],fun _=>sl,rfl,fun i x hx=>by simp at hx,e,gB _⟩
  |some p=>
   obtain⟨x,sl'⟩:=p;have hlt:=h sl g x sl' e;cases k with
   |zero=>omega
   |succ k=>
    obtain⟨seq,sls,h0,h1,h2,h3⟩:=seq_ex h k sl' (g+1) (by omega);refine⟨x::seq,fun i=>match i with|0=>sl|i+1=>sls i,rfl,?_,?_,by rw[gH];omega⟩
    ·intro i y hy;cases i with
     |zero=>simp at hy;subst hy;show nxt sl (g+0)=some (x,sls 0);rw[h0];exact e
     |succ i=>
      have:=h1 i y (by simpa using hy)
      show nxt (sls i) (g+(i+1))=_
      rw[show g+(i+1)=g+1+i by omega];exact this
    ·show nxt (sls seq.length) (g+(seq.length+1))=none
     rw[show g+(seq.length+1)=g+1+seq.length by omega];exact h2
def pick_go{α:Type}{next:Nat->Nat}{xs:List α}:∀(f k:Nat) (left:List α) (out:Array α),(∀x∈left,x∈xs)->(∀x∈out.toList,x∈xs) ->
  (∀x∈(pickOrder.go next f k left out).toList,x∈xs)/\(pickOrder.go next f k left out).size<=out.size+f/\out.size<=(pickOrder.go next f k left out).size/\(0<f->left≠[]->out.size<(pickOrder.go next f k left out).size)
 |0,k,left,out,_,ho=>by unfold pickOrder.go;exact⟨ho,by omega,fE _,fun h=>absurd h (iy _)⟩
 |f+1,k,left,out,hl,ho=>by
  unfold pickOrder.go;cases e:left[next k%left.length]? with
  |none=>
   refine⟨ho,by simp only;omega,fE _,fun _ hne=>?_⟩;have:0<left.length:=iR.mpr hne;have:=List.getElem?_eq_none_iff.mp e;have:=Nat.mod_lt (next k) (by omega:left.length>0);omega
  |some x=>
   have hx:x∈left:=gj e;obtain⟨a,b,c,_⟩:=pick_go (next:=next) f (k+1) (left.eraseIdx (next k%left.length)) (out.push x) (fun y hy=>hl y (List.mem_of_mem_eraseIdx hy)) (fun y hy=>by
    rw[nG] at hy;rcases fR.mp hy with h|h
    ·exact ho y h
    ·rw[fW] at h;subst h;exact hl _ hx)
   rw[Array.size_push] at b c;refine⟨a,?_,?_,fun _ _=>?_⟩<;>(show _;simp only;omega)
def kK{next:Nat->Nat}(xs:Array α):(∀x∈(pickOrder next xs).toList,x∈xs.toList)/\(pickOrder next xs).size<=xs.size/\(0<xs.size->0<(pickOrder next xs).size):=by
 obtain⟨a,b,c,d⟩:=pick_go (next:=next) (xs:=xs.toList) xs.size 0 xs.toList #[] (fun _ h=>h) (fun _ h=>by simp at h);have e0:pickOrder.go next xs.size 0 xs.toList #[]=pickOrder next xs:=rfl;rw[e0] at a b c d;refine⟨a,by simpa using b,fun h=>?_⟩;have:=d h (fun e=>by
  have:xs.toList.length=0:=by rw[e];rfl
  rw[im] at this;omega)
 simpa using this
def X4(h:Heap)(a:Addr)(es:Array (Int×Value))(ep:Nat)(t:SetTable):Prop:=∃o,h.get? a=some o/\o.ExactSet/\o.data=.set es ep t
def VO(h:Heap)(I a:Addr)(first:Value)(i:Nat)(n ep:Nat):Prop:=∃o t1 t2 t3,h.get? I=some o/\o.cls=.type "set_iterator" /\ o.data=.fields #[first,.int i t1,.ref a,.int n t2,.int ep t3]
def VO.typeIs{a:Addr}{f:Value}(x:VO s.heap I a f i n ep):s.TypeIs (.ref I) "set_iterator" := let ⟨o,_,_,_,ho,hc,_⟩:=x; ⟨o,ho,hc⟩
def VO.at{a:Addr}{f:Value}(x:VO h I a f i n ep)(e:∀o,h.get? I=some o->h'.get? I=some o):VO h' I a f i n ep:=let ⟨o,t1,t2,t3,ho,r⟩:=x; ⟨o,t1,t2,t3,e _ ho,r⟩
def X4.at{a:Addr}{es ep t}(x:X4 h a es ep t)(e:∀o,h.get? a=some o->h'.get? a=some o):X4 h' a es ep t:=let ⟨o,ho,r⟩:=x; ⟨o,e _ ho,r⟩
def X4.typeIs{a:Addr}{es ep t}(x:X4 s.heap a es ep t):s.TypeIs (.ref a) "set" := let ⟨o,ho,hc,_⟩:=x; ⟨o,ho,hc.1⟩
def Wu(byText:Bool)(pick es:Array (Int×Value))(place:Array Nat)(slot given:Nat):Option (Value×Nat):=
 if byText=true then(pick[given]?).map fun e=>(e.2,slot) else
  match es[SetTable.below place slot]?,place[SetTable.below place slot]? with
  |some (_,x),some j=>some (x,j+1)
  |_,_=>none
def yY{a:Addr}{es ep t}{given:Nat}{Q:Option (Value×Nat)->Shared->Prop}(hS:X4 s.heap a es ep t)(hf:t.fits es.size=true)
  (hw:w.params.followText "set-order" = false->t.led=true/\(t.plain=true\/es.size<=1)) (h:Q (Wu (w.params.followText "set-order") (pickOrder (w.params.setOrder a ep) es) es t.place slot given) s) :
  wpAny (model prog w) A (setNext a slot given ep) Q E s:=by
 obtain⟨o,ho,_,hd⟩:=hS;unfold setNext;refine fD (iw ho hd hf ?_);dsimp only;have by_:∀{Q:Bool->Shared->Prop},Q (w.params.followText "set-order") s->wpAny (model prog w) A setsByText Q E s:=fun {Q} hq=>by
  unfold setsByText;exact fD (mZ (fI hq))
 refine fD (by_ ?_);cases e:w.params.followText "set-order"
 ·simp only[hV,gU];obtain⟨h1,h2⟩:=hw e;rw[e] at h
  show wpAny _ _ (if(!t.plain&&decide (es.size>1))=true then _ else(do (if(!t.led&&!es.isEmpty)=true then unsupported "set:maker-not-led" else pure PUnit.unit);pure _)) Q E s
  have c:(!t.plain&&decide (es.size>1))=false:=by
   rcases h2 with h2|h2
   ·rw[h2];rfl
   ·rw[gY (by omega)];simp
  rw[c,h1];simp only[hV,gU,Bool.not_true,iM];refine fD (fI (fI ?_));exact h
 ·simp only[ia];rw[e] at h;simp only[bne_self_eq_false,hV,gU];unfold setWalk;refine fD (fD (iw ho hd hf ?_));dsimp only;refine fD (by_ ?_);rw[e];simp only[ia];refine fD (mZ (fI (fI ?_)));exact h
def next_item{a:Addr}{es ep t}{x:Value}{sl':Nat}{Q:Option Value->Shared->Prop}(hit:VO s.heap I a (.int slot tk) i es.size ep)(hS:X4 s.heap a es ep t)(hf:t.fits es.size=true)
  (hw:w.params.followText "set-order" = false->t.led=true/\(t.plain=true\/es.size<=1)) (hx:Wu (w.params.followText "set-order") (pickOrder (w.params.setOrder a ep) es) es t.place slot i=some (x,sl'))
  (hQ:∀h' tk',VO h' I a (.int sl' tk') (i+1) es.size ep->Heap.SameBut I s.heap h'->Q (some x) { s with heap:=h' }):wpAny (model prog w) A (pyNext (.ref I)) Q E s:=by
 obtain⟨o,t1,t2,t3,ho,hc,hd⟩:=id hit;obtain⟨os,hos,hcs,hds⟩:=id hS;unfold pyNext;refine fD (mF (lC (name:=Str.ofString "__next__") hit.typeIs ZS
  (io ZS hit.typeIs Xo ?_ (Xx _))))
 show wpAny _ _ (fieldsOf (.ref I) >>= _) _ _ s
 refine fD (wpAny_fieldsOf ho hd ?_);dsimp only;refine fD ?_;unfold setEntries;refine fD (iw hos hds hf (fI ?_));dsimp only;rw[if_neg (by simp)];refine fD (yY hS hf hw ?_);have e1:((slot:Int)).toNat=slot:=gw _;have e2:((i:Int)).toNat=i:=gw _;have e3:((ep:Int)).toNat=ep:=gw _;rw[e1,e2,e3,hx];dsimp only;refine fD (mG ho hd (by simp) ?_);have ho1:=iI (Obj.mapFields (·.setIfInBounds 0 (rawInt (sl':Int)))) ho (nH (lN hd _));have hd1:=lN hd (·.setIfInBounds 0 (rawInt (sl':Int)));refine fD (mG ho1 hd1 (by simp) ?_);have ho2:=iI (Obj.mapFields (·.setIfInBounds 1 (rawInt ((i:Int)+1)))) ho1 (nH (lN hd1 _));have hd2:=lN hd1 (·.setIfInBounds 1 (rawInt ((i:Int)+1)));refine fI ⟨_,rfl,fI (hQ _ 0 ⟨_,0,t2,t3,ho2,((Obj.cls_mapFields ..).trans (Obj.cls_mapFields ..)).trans hc,by rw[hd2];simp[rawInt]⟩ ?_)⟩;exact⟨(m5 _ _ _).trans (m5 _ _ _),fun b hb=>(iu _ _ (fT hb)).trans (iu _ _ (fT hb))⟩
def next_end{a:Addr}{es ep t}{Q:Option Value->Shared->Prop}(hh:A.handled=none)(hit:VO s.heap I a (.int slot tk) i es.size ep)(hS:X4 s.heap a es ep t)(hf:t.fits es.size=true)
  (hw:w.params.followText "set-order" = false->t.led=true/\(t.plain=true\/es.size<=1)) (hx:Wu (w.params.followText "set-order") (pickOrder (w.params.setOrder a ep) es) es t.place slot i=none)
  (hQ:∀h',Heap.ExtBut I s.heap h'->Q none { s with heap:=h' }):wpAny (model prog w) A (pyNext (.ref I)) Q E s:=by
 obtain⟨o,t1,t2,t3,ho,hc,hd⟩:=id hit;obtain⟨os,hos,hcs,hds⟩:=id hS;unfold pyNext;refine fD (mF (lC (name:=Str.ofString "__next__") hit.typeIs ZS
  (io ZS hit.typeIs Xo ?_ (Xx _))))
 show wpAny _ _ (fieldsOf (.ref I) >>= _) _ _ s
 refine fD (wpAny_fieldsOf ho hd ?_);dsimp only;refine fD ?_;unfold setEntries;refine fD (iw hos hds hf (fI ?_));dsimp only;rw[if_neg (by simp)];refine fD (yY hS hf hw ?_);have e1:((slot:Int)).toNat=slot:=gw _;have e2:((i:Int)).toNat=i:=gw _;have e3:((ep:Int)).toNat=ep:=gw _;rw[e1,e2,e3,hx];dsimp only;refine fD (mG ho hd (by simp) ?_);refine fD ?_;simp only[newExc,newTuple];refine fD (ig ?_ (by size_fits));refine fD (m:=firstArgMember _ _) (wpAny_of_eq (a:=Value.none) (by first|rfl|(simp only[firstArgMember];rfl)) ?_);refine ig ?_ (by size_fits);simp only[raiseNew];refine fD (wpAny_handled ?_);rw[show A.in1.handled=none from hh];refine fD (fI (wpAny_throw ?_));refine fD (wpAny_isInstance (T := "StopIteration") (b:=true) ⟨_,ge _ rfl,rfl⟩ isSubtype_stop ?_);exact fI (hQ _ (((Heap.SameBut.update ..).extBut.push _).push _))
def jA(h:Heap)(T:Addr)(ps:List Nat):Prop:=∃o n,h.get? T=some o/\o.data=.seq ((ps.map fun(i:Nat)=>rawInt (i:Int)).toArray) n/\o.cls=.type "tuple"
def Ka{a T:Addr}{p:Nat}{es ep t}{ps:List Nat}{e:Int×Value}{Q:Option Value->Shared->Prop}(hit:VO s.heap I a (.ref T) i es.size ep)(hS:X4 s.heap a es ep t)(hf:t.fits es.size=true)
  (hT:jA s.heap T ps) (hp:ps[i]?=some p) (he:es[p]?=some e)
  (hQ:∀h',VO h' I a (.ref T) (i+1) es.size ep->Heap.SameBut I s.heap h'->Q (some e.2) { s with heap:=h' }):wpAny (model prog w) A (pyNext (.ref I)) Q E s:=by
 obtain⟨o,t1,t2,t3,ho,hc,hd⟩:=id hit;obtain⟨os,hos,hcs,hds⟩:=id hS;obtain⟨oT,nT,hoT,hdT,_⟩:=hT;unfold pyNext;refine fD (mF (lC (name:=Str.ofString "__next__") hit.typeIs ZS
  (io ZS hit.typeIs Xo ?_ (Xx _))))
 show wpAny _ _ (fieldsOf (.ref I) >>= _) _ _ s
 refine fD (wpAny_fieldsOf ho hd ?_);dsimp only;refine fD ?_;unfold setEntries;refine fD (iw hos hds hf (fI ?_));dsimp only;rw[if_neg (by simp)];refine fD (mC hoT hdT ?_);dsimp only;have e2:((i:Int)).toNat=i:=gw _;have hpi:((ps.map fun(i:Nat)=>rawInt (i:Int)).toArray)[i]?=some (rawInt (p:Int)):=by simp[hp]
 rw[e2,hpi]
 show wpAny _ _ (setNextDrawn a ((p:Int)).toNat ((ep:Int)).toNat >>= _) _ _ s
 rw[gw,gw];refine fD ?_;unfold setNextDrawn;refine fD (iw hos hds hf ?_);dsimp only;simp only[bne_self_eq_false,hV,gU,he];refine fI ?_;refine fD (mG ho hd (by simp) ?_);have ho2:=iI (Obj.mapFields (·.setIfInBounds 1 (rawInt ((i:Int)+1)))) ho (nH (lN hd _));have hd2:=lN hd (·.setIfInBounds 1 (rawInt ((i:Int)+1)));refine fI ⟨_,rfl,fI (hQ _ ⟨_,0,t2,t3,ho2,(Obj.cls_mapFields ..).trans hc,by rw[hd2];simp[rawInt]⟩ ?_)⟩;exact⟨(m5 _ _ _),fun b hb=>(iu _ _ (fT hb))⟩
def nextD_end{a T:Addr}{es ep t}{ps:List Nat}{Q:Option Value->Shared->Prop}(hh:A.handled=none)(hit:VO s.heap I a (.ref T) i es.size ep)(hS:X4 s.heap a es ep t)(hf:t.fits es.size=true)
  (hT:jA s.heap T ps) (hp:ps[i]?=none)
  (hQ:∀h',Heap.ExtBut I s.heap h'->Q none { s with heap:=h' }):wpAny (model prog w) A (pyNext (.ref I)) Q E s:=by
 obtain⟨o,t1,t2,t3,ho,hc,hd⟩:=id hit;obtain⟨os,hos,hcs,hds⟩:=id hS;obtain⟨oT,nT,hoT,hdT,_⟩:=hT;unfold pyNext;refine fD (mF (lC (name:=Str.ofString "__next__") hit.typeIs ZS
  (io ZS hit.typeIs Xo ?_ (Xx _))))
 show wpAny _ _ (fieldsOf (.ref I) >>= _) _ _ s
 refine fD (wpAny_fieldsOf ho hd ?_);dsimp only;refine fD ?_;unfold setEntries;refine fD (iw hos hds hf (fI ?_));dsimp only;rw[if_neg (by simp)];refine fD (mC hoT hdT ?_);dsimp only;have e2:((i:Int)).toNat=i:=gw _;have hpi:((ps.map fun(i:Nat)=>rawInt (i:Int)).toArray)[i]?=none:=by simpa using hp
 rw[e2,hpi];dsimp only;refine fD (mG ho hd (by simp) ?_);have ho1:=iI (Obj.mapFields (·.setIfInBounds 0 (rawInt 0))) ho (nH (lN hd _));have hd1:=lN hd (·.setIfInBounds 0 (rawInt 0));refine fD (mG ho1 hd1 (by simp) ?_);refine fD ?_;simp only[newExc,newTuple];refine fD (ig ?_ (by size_fits));refine fD (m:=firstArgMember _ _) (wpAny_of_eq (a:=Value.none) (by first|rfl|(simp only[firstArgMember];rfl)) ?_);refine ig ?_ (by size_fits);simp only[raiseNew];refine fD (wpAny_handled ?_);rw[show A.in1.handled=none from hh];refine fD (fI (wpAny_throw ?_));refine fD (wpAny_isInstance (T := "StopIteration") (b:=true) ⟨_,ge _ rfl,rfl⟩ isSubtype_stop ?_);have sb:Heap.SameBut I s.heap ((s.heap.update I (Obj.mapFields (·.setIfInBounds 0 (rawInt 0)))).update I (Obj.mapFields (·.setIfInBounds 2 .none))):=
  ⟨(m5 _ _ _).trans (m5 _ _ _),fun b hb=>(iu _ _ (fT hb)).trans (iu _ _ (fT hb))⟩
 exact fI (hQ _ ((sb.extBut.push _).push _))
def J0{src:Source}{Q:Nat->Shared->Prop}(hn:n≠0)(h:∀i dr,i<n->Q i { s with drawn:=dr }):wpAny (model prog w) A (choose src n) Q E s:=
 fun Γ p _=>⟨hn,h _ _ (Nat.mod_lt _ (nI hn))⟩
def Kg(hh:A.handled=none){a:Addr}(hne:a≠I){t:SetTable}(hf:t.fits es.size=true)
  (hw:w.params.followText "set-order" = false->t.led=true/\(t.plain=true\/es.size<=1)) {seq:List Value}
  (h1:∀i x,seq[i]?=some x->Wu (w.params.followText "set-order") (pickOrder (w.params.setOrder a ep) es) es t.place (sls i) i=some (x,sls (i+1)))
  (h2:Wu (w.params.followText "set-order") (pickOrder (w.params.setOrder a ep) es) es t.place (sls seq.length) seq.length=none) :
  Walks prog w A I [I,a] [I] seq.length (fun i v=>seq[i]?=some v) (fun i h=>(∃tk,VO h I a (.int (sls i) tk) i es.size ep)/\X4 h a es ep t) where
 sub:=fun b hb=>by simp at hb;simp[hb]
 frame:=fun i h h' st hk=>⟨let ⟨tk,x⟩:=st.1; ⟨tk,x.at fun o e=>hk I (by simp) o e⟩,st.2.at fun o e=>hk a (by simp) o e⟩
 item:=fun i s Q E hi st hQ=>by
  obtain⟨⟨tk,hit⟩,hS⟩:=st;have e:seq[i]?=some seq[i]:=fG hi;refine next_item hit hS hf hw (h1 i _ e) fun h' tk' hit' sb=>?_;exact hQ _ h' s.toks e ⟨⟨tk',hit'⟩,hS.at fun o z=>by rw[sb.2 a hne];exact z⟩ fun b o hb z=>by rw[sb.2 b (fun h=>hb (by simp[h]))];exact z
 done:=fun s Q E st hQ=>by
  obtain⟨⟨tk,hit⟩,hS⟩:=st;exact next_end hh hit hS hf hw h2 fun h' x=>hQ h' s.toks fun b o hb z=>x b o (fun h=>hb (by simp[h])) z
 self:=fun i s Q E st hQ=>by
  obtain⟨⟨tk,hit⟩,hS⟩:=st;refine wpAny_pyIter_slot hit.typeIs XA (io XA hit.typeIs VL ?_ (Uw _))
  show wpAny _ _ (ret (.ref I)) _ _ s
  exact fI ⟨_,rfl, "set_iterator",_,hit.typeIs,ZS.lookup,hQ⟩
def Kq(hh:A.handled=none){a T:Addr}(hne:a≠I)(hnT:T≠I){t:SetTable}(hf:t.fits es.size=true){ps:List Nat}{seq:List Value}(hl:seq.length=ps.length)
  (h1:∀(i:Nat) x,seq[i]?=some x->∃p e,ps[i]?=some p/\es[p]?=some e/\x=e.2) :
  Walks prog w A I [I,a,T] [I] seq.length (fun i v=>seq[i]?=some v) (fun i h=>VO h I a (.ref T) i es.size ep/\X4 h a es ep t/\jA h T ps) where
 sub:=fun b hb=>by simp at hb;simp[hb]
 frame:=fun i h h' st hk=>⟨st.1.at fun o e=>hk I (by simp) o e,st.2.1.at fun o e=>hk a (by simp) o e,let ⟨o,n,e,r⟩:=st.2.2; ⟨o,n,hk T (by simp) o e,r⟩⟩
 item:=fun i s Q E hi st hQ=>by
  obtain⟨hit,hS,hT⟩:=st;have e:seq[i]?=some seq[i]:=fG hi;obtain⟨p,en,e1,e2,e3⟩:=h1 i _ e;refine Ka hit hS hf hT e1 e2 fun h' hit' sb=>?_;rw[<- e3];refine hQ _ h' s.toks e ⟨hit',hS.at fun o z=>by rw[sb.2 a hne];exact z,let ⟨o,n,z,r⟩:=hT; ⟨o,n,by rw[sb.2 T hnT];exact z,r⟩⟩ fun b o hb z=>by rw[sb.2 b (fun h=>hb (by simp[h]))];exact z
 done:=fun s Q E st hQ=>by
  obtain⟨hit,hS,hT⟩:=st;exact nextD_end hh hit hS hf hT (List.getElem?_eq_none_iff.mpr (by omega)) fun h' x=>hQ h' s.toks fun b o hb z=>x b o (fun h=>hb (by simp[h])) z
 self:=fun i s Q E st hQ=>by
  obtain⟨hit,hS,hT⟩:=st;refine wpAny_pyIter_slot hit.typeIs XA (io XA hit.typeIs VL ?_ (Uw _))
  show wpAny _ _ (ret (.ref I)) _ _ s
  exact fI ⟨_,rfl, "set_iterator",_,hit.typeIs,ZS.lookup,hQ⟩
def yj{b:Addr}(hb:h.objs.size<=b):h.get? b=none:=by
 cases e:h.get? b with
 |none=>rfl
 |some o=>exact absurd (fN e) (Nat.not_lt.mpr hb)
def J3(t:SetTable)(es:Array (Int×Value))(h:Int)(x:Value):(layNew t es h x).2.1.led=t.led:=by
 unfold layNew
 split
 ·dsimp only;unfold SetTable.orStandIn
  split<;>rfl
 ·rfl
def jR(t:SetTable)(es:Array (Int×Value))(n:Nat):(relayAll t es n).2.1.led=t.led:=by
 unfold relayAll
 split
 ·rename_i t' order he
  dsimp only
  split
  ·unfold SetTable.relaid SetTable.laid at he;cases hc:SetTable.layClean (SetTable.sizeAbove n-1) (es.map (·.1)) with
   |none=>rw[hc] at he;cases he
   |some ow=>rw[hc] at he;cases he;rfl
  ·rfl
 ·rfl
section
variable{h0:Heap}
def set_loopG{ax:Addr}{items:List Value}(hh:A.handled=none)(hne:ax≠I)(hSI:S≠I)(hSa:S≠ax)(h0S:h0.get? S=none)(h0I:h0.get? I=none)
  (hkeep:∀{h h' vs},SI h vs->(∀o,h.get? S=some o->h'.get? S=some o)->SI h' vs)
  (hadd:∀(s:Shared) (i:Nat) (v:Value),items[i]?=some v->(∀b o,h0.get? b=some o->s.heap.get? b=some o)->SI s.heap (items.take i) ->
   ∀(E:Value->Shared->Prop) (Q:Bool->Shared->Prop),(∀h' tk b,Heap.SameBut S s.heap h'->SI h' (items.take i++[v])->Q b { s with heap:=h',toks:=tk })->wpAny (model prog w) A.in1 (setAdd S v) Q E s) :
  ∀(c i:Nat) (s:Shared),items.length-i=c->i<=items.length->s.heap.IsListIter I ax i/\s.heap.IsList ax items.toArray->(∀b o,h0.get? b=some o->s.heap.get? b=some o) ->
   SI s.heap (items.take i) ->
   (∀(h':Heap) (tk:Nat),SI h' items->(∀b o,b≠S->b≠I->s.heap.get? b=some o->h'.get? b=some o)->R (.ok (.ret .none)) { s with heap:=h',toks:=tk }) ->
   codeAny (model prog w) A (.builtin "set.update.loop" ⟨[.ref S,.ref I],[]⟩) R s:=by
 have W:=Walks.list (prog:=prog) (w:=w) (A:=A.in1) (by simpa using hh) I ax hne items.toArray;have zs:items.toArray.size=items.length:=by simp
 intro c
 induction c with
 |zero=>
  intro i s hc hi st hg hS hR;have e:i=items.toArray.size:=by omega
  subst e;refine iD nt ?_;rw[iX lY _]
  show wpAny _ A.in1 (pyNext (.ref I) >>= _) _ _ s
  refine fD (W.done s _ _ st fun h' tk hk=>?_)
  show wpAny _ A.in1 (ret Value.none) _ _ _
  have et:items.take items.toArray.size=items:=by rw[zs];exact iP
  rw[et] at hS;exact fI (hR h' tk (hkeep hS fun o z=>hk S o (by simpa using hSI) z) fun b o _ hbI z=>hk b o (by simpa using hbI) z)
 |succ c ih=>
  intro i s hc hi st hg hS hR;have hlt:i<items.toArray.size:=by omega
  refine iD nt ?_;rw[iX lY _]
  show wpAny _ A.in1 (pyNext (.ref I) >>= _) _ _ s
  refine fD (W.item i s _ _ hlt st fun v h1 tk hP st1 hk=>?_);have hvi:items[i]?=some v:=by simpa using hP
  have hS1:SI h1 (items.take i):=hkeep hS fun o z=>hk S o (by simpa using hSI) z;have hg1:∀b o,h0.get? b=some o->h1.get? b=some o:=fun b o z=>hk b o (by simp;rintro rfl;rw[h0I] at z;cases z) (hg b o z)
  show wpAny _ A.in1 (holding [v] (setAdd S v) >>= _) _ _ { s with heap:=h1,toks:=tk }
  refine fD (hU ?_);refine hadd { s with heap:=h1,toks:=tk } i v hvi hg1 hS1 _ _ fun h2 tk2 bb hsb hS2=>?_;have et:items.take (i+1)=items.take i++[v]:=by rw[List.take_add_one,hvi];rfl
  rw[<- et] at hS2;refine fI ⟨iY lY _,ih (i+1) _ (by omega) (by omega) (W.frame _ _ _ st1 fun b hb o z=>?_) (fun b o z=>?_) hS2 fun h' tk'' a1 a4=>?_⟩
  ·rw[hsb.2 b (fun q=>by subst q;simp at hb;exact hb.elim hSI hSa)];exact z
  ·show h2.get? b=some o
   rw[hsb.2 b (by rintro rfl;rw[h0S] at z;cases z)];exact hg1 b o z
  ·exact hR h' tk'' a1 fun b o hbS hbI z=>a4 b o hbS hbI (by show h2.get? b=some o;rw[hsb.2 b hbS];exact hk b o (by simpa using hbI) z)
def vC(a:Value)
  (h:Q₁ (.ref s.heap.objs.size) { s with heap:=s.heap.push { cls:=.type "set",dict:=none,data:=.set #[] 0 (.fresh 0 0 (!w.params.followText "set-order")) } }) :
  codeAny (model prog w) A (.call (.builtin "set.__new__") ⟨[.type "set",a],[]⟩) (wants Q₁ E) s:=by
 refine codeAny_of_tree ?_
 show wpAny _ A.in1 (do checkBuiltinCall "set.__new__" ⟨[.type "set",a],[]⟩;again (.builtin "set.__new__" ⟨[.type "set",a],[]⟩)) _ _ s
 refine fD (wpAny_of_eq (PySem.F.newCall_set_1 a) (fI ⟨iY PySem.F.plain_set_new _,iD PySem.F.entry_set_new ?_⟩));rw[iX PySem.F.plain_set_new _];unfold Builtin.«set.__new__» Builtin.Frozenset.newClass;have hsub:=sub_set_self;obtain⟨hp,g,d,tk,os⟩:=s;dsimp only
 wp_walk
 refine mZ (fI ?_);dsimp only;simp only[newObj];refine fD (wpAny_alloc (fI ?_));exact fI h
end
def call_setG{l:Addr}{items:List Value}(hh:A.handled=none)(hl:s.heap.IsList l items.toArray)
  (hkeep:∀{h h' vs},SI h vs->(∀o,h.get? s.heap.objs.size=some o->h'.get? s.heap.objs.size=some o)->SI h' vs)
  (hnew:SI (s.heap.push { cls:=.type "set",dict:=none,data:=.set #[] 0 (.fresh 0 0 (!w.params.followText "set-order")) }) [])
  (hadd:∀(A':Around) (s':Shared) (i:Nat) (v:Value),A'.units<=A.units+5->items[i]?=some v->(∀b o,s.heap.get? b=some o->s'.heap.get? b=some o)->SI s'.heap (items.take i) ->
   ∀(E:Value->Shared->Prop) (Q:Bool->Shared->Prop),(∀h' tk b,Heap.SameBut s.heap.objs.size s'.heap h'->SI h' (items.take i++[v])->Q b { s' with heap:=h',toks:=tk })->wpAny (model prog w) A' (setAdd s.heap.objs.size v) Q E s')
  (h:∀(h':Heap) (tk:Nat),SI h' items->(∀b o,s.heap.get? b=some o->h'.get? b=some o)->Q (.ref s.heap.objs.size) { s with heap:=h',toks:=tk }) :
  wpAny (model prog w) A (call (.type "set") [.ref l]) Q E s:=by
 have hmade:=hE.made;have hsub:=hE.sub;obtain⟨c,tl,hmro⟩:=hE.mro;refine wpAny_call (codeAny_of_tree (fI ⟨Code.quiet_builtin _ (by decide +kernel),iD PySem.F.entry_type_call ?_⟩));rw[Around.under_plain (weight_type_call_type "set" [.ref l] []) rfl];have g1:=hE.notType;have g2:=hE.canCreate;have g3:=PySem.F.typeCall_set_1 (.ref l)
 repeat (any_goals (first|assumption|wp_step))
 generalize hled:(!w.params.followText "set-order")=led at hnew;refine lv (vC (.ref l) (E:=E) (Q₁:=fun obj t=>obj=.ref s.heap.objs.size/\t={ s with heap:=s.heap.push { cls:=.type "set",dict:=none,data:=.set #[] 0 (.fresh 0 0 led) } }) ⟨rfl,by rw[hled]⟩) fun r t hr=>?_;cases r with
 |error e=>exact hr
 |ok fl=>
  cases fl with
  |ret obj=>
   obtain⟨rfl,rfl⟩:=hr;have hS:(s.heap.push { cls:=.type "set",dict:=none,data:=.set #[] 0 (.fresh 0 0 led) }).get? s.heap.objs.size=some { cls:=.type "set",dict:=none,data:=.set #[] 0 (.fresh 0 0 led) }:=ge _ rfl;have hT:Shared.TypeIs { s with heap:=s.heap.push { cls:=.type "set",dict:=none,data:=.set #[] 0 (.fresh 0 0 led) } } (.ref s.heap.objs.size) "set" := ⟨_,hS,rfl⟩;have hli:=hE.init.lookup;have hbi:=hE.init.bind (.ref s.heap.objs.size)
   repeat (any_goals (first|assumption|wp_step))
   refine lv (codeAny_call_builtin (R:=wants (fun r u=>r=.none/\∃h' tk,u={ s with heap:=h',toks:=tk }/\SI h' items /\
     (∀b o,s.heap.get? b=some o->h'.get? b=some o)) E) hE.init.plain PySem.F.entry_set_init (check_set_init_1 hT ?_)) fun r2 u hr2=>?_
   ·obtain⟨ol,hol,hcl,nl,hdl⟩:=hl;obtain⟨ocls,odict,odata,oslots⟩:=ol;simp only at hcl hdl;subst hcl;subst hdl;have hol':(s.heap.push { cls:=.type "set",dict:=none,data:=.set #[] 0 (.fresh 0 0 led) }).get? l=some { cls:=.type "list",dict:=odict,data:=.seq items.toArray nl,slots:=oslots }:=fM _ hol;have hsls:=PySem.F.sub_list_set;have hslf:=PySem.F.sub_list_frozenset;have hne:(Value.type "list" == Value.type "dict")=false:=by decide
    have hl1:(s.heap.push { cls:=.type "set",dict:=none,data:=.set #[] 0 (.fresh 0 0 led) }).IsList l items.toArray:=⟨_,hol',rfl,nl,rfl⟩;unfold Builtin.«set.__init__» noKeywords Builtin.Frozenset.updateFrom;generalize hPI:pyIter=PI
    wp_walk
    subst hPI;refine nh hl1 ?_;refine fD (wpAny_runValue ?_);have hlS:l<s.heap.objs.size:=fN hol;have z1:(s.heap.push { cls:=.type "set",dict:=none,data:=.set #[] 0 (.fresh 0 0 led) }).objs.size=s.heap.objs.size+1:=iq _ _;refine set_loopG (h0:=s.heap) (SI:=SI) (items:=items) (ax:=l) (by simpa using hh) (by rw[z1];exact fP (iZ hlS)) (by rw[z1];exact fP (li _)) (gQ hlS)
     (yj (fE _)) (yj (by rw[z1];exact iN _)) hkeep (fun s' i v hv hg hS E Q hQ=>hadd _ s' i v ?hu hv hg hS E Q hQ) (items.length-0) 0 _ (by omega) (gB _)
     ⟨⟨_,ge _ rfl,rfl,rfl⟩,(hl1.push _)⟩ (fun b o z=>fM _ (fM _ z)) ?hS0 ?hR
    case hu=>simp only[Around.in1_units];omega
    case hS0=>exact hkeep hnew fun o z=>fM _ z
    case hR=>
     intro h' tk a1 a4
     show wpAny _ _ _ _ _ _
     refine fI ?_
     show wpAny _ _ (ret Value.none) _ _ _
     refine fI ⟨rfl,h',tk,rfl,a1,fun b o z=>?_⟩;have hlt:=fN z;exact a4 b o (fP hlt) (by rw[z1];exact fP (iZ hlt)) (fM _ (fM _ z))
   ·cases r2 with
    |error e=>exact hr2
    |ok fl2=>
     cases fl2 with
     |ret r=>
      obtain⟨rfl,h',tk,rfl,a1,a4⟩:=hr2
      repeat (any_goals (first|assumption|wp_step))
      exact h _ _ a1 a4
     |_=>exact hr2.elim
  |_=>exact hr.elim
section
variable{prog:Program}{w:World}{A:Around}{E:Value->Shared->Prop}{s:Shared}
def qA{α:Type}:∀{l:List α}{i:Nat} (h:i<l.length),l.Perm (l[i]::l.eraseIdx i)
 |x::r,0,_=>.refl _
 |x::r,i+1,h=>by
  have hi:i<r.length:=by simpa using h
  have ih:=qA hi
  show(x::r).Perm (r[i]::x::r.eraseIdx i)
  exact(ih.cons x).trans (.swap _ _ _)
def yQ(n:Nat):∀(xs:List α) {s:Shared}{Q:List α->Shared->Prop},xs.length=n->(∀ys dr,ys.Perm xs->Q ys { s with drawn:=dr })->wpAny (model prog w) A (drawOrder n xs) Q E s:=by
 induction n with
 |zero=>
  intro xs s Q hl h;have:xs=[]:=m6 hl;subst this;unfold drawOrder;exact fI (h [] s.drawn (.refl _))
 |succ n ih=>
  intro xs s Q hl h;cases xs with
  |nil=>simp at hl
  |cons x r=>
   show wpAny _ _ (choose .order (x::r).length >>= _) _ _ s
   refine fD (J0 (by simp) fun i dr hi=>?_);have e:(x::r)[i]?=some (x::r)[i]:=fG hi;rw[e];dsimp only;refine fD (ih ((x::r).eraseIdx i) (by rw[List.length_eraseIdx_of_lt hi];omega) fun ys dr' hp=>?_);exact fI (h (_::ys) dr' ((hp.cons _).trans (qA hi).symm))
def za{α:Type}{next:Nat->Nat}:∀(f k:Nat) (left:List α) (out:Array α),left.length=f->(pickOrder.go next f k left out).toList.Perm (out.toList++left)
 |0,k,left,out,h=>by
  have:left=[]:=m6 h;subst this;unfold pickOrder.go;rw[iB]
 |f+1,k,left,out,h=>by
  have hi:next k%left.length<left.length:=Nat.mod_lt _ (by omega);unfold pickOrder.go;rw[fG hi];dsimp only;have ih:=za (next:=next) f (k+1) (left.eraseIdx (next k%left.length)) (out.push left[next k%left.length]) (by rw[List.length_eraseIdx_of_lt hi];omega);refine ih.trans ?_;rw[nG,iO];exact List.Perm.append_left _ (qA hi).symm
def pick_perm{next:Nat->Nat}(xs:Array α):(pickOrder next xs).toList.Perm xs.toList:=by
 have:=za (next:=next) xs.size 0 xs.toList #[] (im ..)
 show(pickOrder.go next xs.size 0 xs.toList #[]).toList.Perm _
 simpa using this
end
def inv_dr{U:L2.St}(I:L2.Inv X db U H s)(d:Drawn):L2.Inv X db U H { s with drawn:=d }:=
 ⟨I.ok,I.os,I.bare,I.base,I.loc,I.cell,I.free,I.freeC,I.pin,I.hok,I.len⟩
def ZL{a:Addr}(h:H a=none):∃H1,upd H a o=H1/\Ze H H1/\H1 a=some o:=⟨_,rfl,Zi h,Zd⟩
def letter_is(n:Int):atI ("abcdefghijklmnopqrstuvwxyz" : Str).cps.toList (n%26)=some (97+(n%26).toNat):=by
 have h0:=l8 n (show(26:Int)≠0 by decide);have h1:=l9 n (show(0:Int)<26 by decide);obtain⟨j,e⟩:=mz h0;rw[e] at h1 ⊢;have hj:j<26:=by omega
 have ha:∀i:Fin 26,("abcdefghijklmnopqrstuvwxyz" : Str).cps.toList[i.val]?=some (97+i.val):=by decide +kernel
 exact Zj (ha ⟨j,hj⟩)
abbrev TEm:=St->Hp->(St->Hp->Prop)->Prop
def PEm(X:Cx)(em:Sem Unit)(t:TEm):Prop:=
 ∀(db:List (Addr×Obj)) (s:Shared) (U:St) (H:Hp) (Q:St->Hp->Prop),L2.Inv X db U H s->t U H Q->wpAny (model X.prog X.w) X.A em (fun _ s'=>∃σ' H',L2.Inv X db σ' H' s'/\Q σ' H') X.xe s
def LoopW(J:It)(g:TG)(tt:TT)(em:TEm)(σ0:St)(H1:Hp)(Q:St->Hp->Prop):Prop:=
 ∃W:Nat->Nat->St->Hp->Prop,(∃m,W 0 m σ0 H1)/\∀i m σ' H',W i m σ' H'->(J.stop i H'/\Q σ' H') \/
  (J.go i H'/\∃N:St->Hp->Prop,(∀σ2 H5,N σ2 H5->∃m',m'<m/\W (i+1) m' σ2 H5)/\∀x H2,J.yld i H' x H2->g x σ' H2 fun σ2 H3=>tt σ2 H3 fun c H4=>if c=true then em σ2 H4 N else N σ2 H4)
def turnOf(p:Pos)(tg:Expr)(ifs:List Expr)(it:Value)(env:Env)(body:Sem Unit)(c:Code):Sem Fin:=do
 standAt p
 match <- pyNext it with
 |none=>pure (.done .next)
 |some v=>
  letOwnedTupleGo tg it v
  assign tg env v
  let mut ok:=true
  for c in ifs do
   if ok then ok <- isTrue c env (eval c env)
  if ok then body
  again c
def den_loop{d:Nat}(h:(Code.compLoop e d it acc env).isFrame=false) :
  (model prog w).den (.compLoop e d it acc env)=(compTurn e d it acc env).onRaise (fun x=>do noteFrame x env;theTreesLotGoes x):=by
 show(if(Code.compLoop e d it acc env).isFrame then(compTurn e d it acc env).onRaise (leaving env) else(compTurn e d it acc env).onRaise (fun x=>do noteFrame x env;theTreesLotGoes x))=_
 rw[h];rfl
def den_start{d:Nat}(h:(Code.compStart e d it acc env).isFrame=false) :
  (model prog w).den (.compStart e d it acc env)=(compStart e d it acc env).onRaise (fun x=>do noteFrame x env;standAt theWindowsPlace):=by
 show(if(Code.compStart e d it acc env).isFrame then(compStart e d it acc env).onRaise (leaving env) else(compStart e d it acc env).onRaise (fun x=>do noteFrame x env;standAt theWindowsPlace))=_
 rw[h];rfl
def start_any{d:Nat}(cl:(clausesOf e)[d]?=some ⟨tg,iter,ifs,0⟩)(hf:(Code.compStart e d it acc env).isFrame=false)
  (h0:codeAny (model prog w) A (.compLoop e d it acc env) R s)
  (h:wpAny (model prog w) A (pyIter it) (fun it' s'=>codeAny (model prog w) A (.compLoop e d it' acc env) R s') (fun _ _=>False) s) (hu:A.under (.compStart e d it acc env)=A:=by rfl) (hq:∀it',(Code.compLoop e d it' acc env).quiet=true:=by intro _;rfl) :
  codeAny (model prog w) A (.compStart e d it acc env) R s:=by
 refine codeAny_of_tree ?_;rw[den_start hf,hu];refine wpAny_notedAt ?_;unfold compStart;rw[cl]
 show wpAny _ A (ask >>= _) _ _ s
 refine fD (mZ (wpAny_ite ?_))
 split
 ·first
   |exact fD (fI (fI (And.intro (hq _) h0)))
   |exact fI (And.intro (hq _) h0)
 ·first
   |exact fD (l3 (fD (lH (fD (thnF h fun it' s' h'=>fI (And.intro (hq _) h'))))))
   | (refine fD (l3 ?_);show wpAny _ _ (standAt iter.pos >>= _) _ _ s;exact fD (lH (fD (thnF h fun it' s' h'=>fI (And.intro (hq _) h')))))
section
variable{Y:Cx}{it:Addr}{tn:Nat->Heap->Prop}{g:TG}{em:TEm}{p:Pos}{body:Sem Unit}{d:Nat}{Q:St->Hp->Prop}
def loop_em(hf:(Code.compLoop e d (.ref it) acc Y.env).isFrame=false)(ht:compTurn e d (.ref it) acc Y.env=turnOf p tg ifs (.ref it) Y.env body (.compLoop e d (.ref it) acc Y.env))
  (T:Turn Y.prog Y.w Y.K tg J fp it tn) (I:L2.Inv Y db σ0 H1 s) (st:tn 0 s.heap) (hfp:∀b∈fp,Vz Y db H1 b) (hc:Y.calm=true) (hx:Y.xe=fun _ _=>False)
  (hg:PG Y tg g) (hT:PTs Y ifs tt) (he:PEm Y body em) (h:LoopW J g tt em σ0 H1 Q) (hR:∀σ' H' s',L2.Inv Y db σ' H' s'->Q σ' H'->R (.ok .next) s')
  (hu:Y.A.under (.compLoop e d (.ref it) acc Y.env)=Y.A:=by rfl) (hq:(Code.compLoop e d (.ref it) acc Y.env).quiet=true:=by rfl) :
  codeAny (model Y.prog Y.w) Y.A (.compLoop e d (.ref it) acc Y.env) R s:=by
 obtain⟨W,⟨m0,w0⟩,turn⟩:=h;have stat:∀{H':Hp},(∀b∈fp,H' b=none)->∀b∈fp,Vz Y db H' b:=fun {H'} hn b hb=>by
  obtain⟨f0,fr⟩:=hfp b hb;exact⟨hn b hb,fr⟩
 unfold PG at hg;unfold PTs at hT;unfold PEm at he;rw[hx] at hg hT he;refine codeAny_loop hq (fun n s'=>∃i σ' H',L2.Inv Y db σ' H' s'/\tn i s'.heap/\(∀b∈fp,H' b=none)/\W i n σ' H') ?_ m0 ⟨0,σ0,H1,I,st,fun b hb=>(hfp b hb).1,w0⟩;rintro n s5 ⟨i,σ5,H5,I5,st5,fr5,w5⟩;rw[den_loop hf,hu,ht];refine wpAny_noted ?_;unfold turnOf;have TI:=T.item Y rfl rfl rfl hc i db s5 σ5 H5 (fun _ _=>False) I5 (stat fr5) st5;have TD:=T.done Y rfl rfl rfl hc i db s5 σ5 H5 (fun _ _=>False) I5 (stat fr5) st5;rcases turn i n σ5 H5 w5 with⟨stop,qn⟩|⟨go,N,hN,step⟩
 ·refine fD (lH (fD (thnF (TD stop) fun r s6 ⟨hr,I6⟩=>?_)));subst hr;exact fI (hR _ _ _ I6 qn)
 ·refine fD (lH (fD (thnF (TI go) fun r s6 ⟨u,hr,h6⟩=>?_)));subst hr;refine fD (thnF h6 fun _ s7 ⟨x,H7,I7,r7,y7,st7,fr7⟩=>?_);have I7':=I7.pinned (stat fr7) (T.obj _ _ st7);refine fD (thnF (hg _ s7 σ5 H7 x u _ I7' r7 (step x H7 y7)) fun _ s8 ⟨σ8,H8,I8,q8⟩=>?_);refine fD (thnF (hT _ s8 σ8 H8 _ I8 q8) fun c s9 ⟨H9,I9,q9⟩=>?_);have back:∀{σa:St}{Ha:Hp}{sa:Shared},L2.Inv Y (db++qB fp s7.heap) σa Ha sa->(∃m',m'<n/\W (i+1) m' σa Ha)->∃m,m<n/\∃i σ' H',L2.Inv Y db σ' H' sa/\tn i sa.heap/\(∀b∈fp,H' b=none)/\W i m σ' H':=fun {σa Ha sa} Ia ⟨m',hm,wa⟩=>by
   refine⟨m',hm,i+1,σa,Ha,Ia.unpinned,T.keep _ _ _ st7 fun b hb o e=>(Ia.pin (b,o) (gz _ (gz _ (Wi hb e)))).1,fun b hb=>?_,wa⟩;obtain⟨o,e,d⟩:=T.obj _ _ st7 b hb;exact(Ia.pin (b,o) (gz _ (gz _ (Wi hb e)))).2.1
  cases c with
  |false=>exact fI ⟨rfl,back I9 (hN _ _ (by simpa using q9))⟩
  |true=>
   rw[if_pos rfl] at q9;exact fD (thnF (he _ s9 σ8 H9 _ I9 q9) fun _ s10 ⟨σ10,H10,I10,q10⟩=>fI ⟨rfl,back I10 (hN _ _ q10)⟩)
end
def tCompE(wi:TI)(ix:List (Option Nat))(o0:Addr->HO)(g:TG)(tt:TT)(em:Addr->TEm):TE:=fun U H Q=>wi U H fun J H1=>∀D,H1 D=none->LoopW J g tt (em D) (sub ix U) (upd H1 D (o0 D)) (fun _ H'=>Q (.ref D) H')
def jl{XH:List Comprehension}{nA:Sem Value}{o0:Addr->HO}{g:TG}{em:Addr->TEm}{Q:VK}
  (I:L2.Inv X db U H s) (h:tCompE wi ix o0 g tt em U H Q)
  (fin:∀(D C:Addr) (H':Hp) (s':Shared) (m:Str->Option Value),L2.Inv X db U H' s'->Vz X db H' C->s'.heap.Ns C m->Q (.ref D) H'->compPost (model X.prog X.w) X.A X.xe use QV (.ref D) C (.ok .next) s')
  (hcl:clausesOf e=⟨tg,iter,ifs,0⟩::XH) (hfr:∀it acc env,(Code.compLoop e 0 it acc env).isFrame=false/\(Code.compStart e 0 it acc env).isFrame=false)
  (htn:∀it D env,compTurn e 0 it (.ref D) env=turnOf iter.pos tg ifs it env (bd D env) (.compLoop e 0 it (.ref D) env))
  (hun:∀(A:Around) it acc env,A.under (.compLoop e 0 it acc env)=A/\A.under (.compStart e 0 it acc env)=A) (hqt:∀it acc env,(Code.compLoop e 0 it acc env).quiet=true)
  (hnA:∀(A:Around) (E:Value->Shared->Prop) (Q:Value->Shared->Prop) (s:Shared),Q (.ref s.heap.objs.size) { s with heap:=s.heap.push ob }->wpAny (model X.prog X.w) A nA Q E s)
  (hpl:∀s2:Shared,∀H1,L2.Inv X db U H1 s2->L2.Inv X db U (upd H1 s2.heap.objs.size (o0 s2.heap.objs.size)) { s2 with heap:=s2.heap.push ob })
  (ok:ZJ X.env.scope X.N Nc ix scope) (hc:X.calm=true) (hi:PI X tg iter wi)
  (hg:∀cl C s H fp,PG (YC X Nc scope cl C s H fp) tg g) (ht:∀cl C s H fp,PTs (YC X Nc scope cl C s H fp) ifs tt) (he:∀cl C s H fp D,PEm (YC X Nc scope cl C s H fp) (bd D (compEnvC scope cl C X.env)) (em D))
  (hs:∀x,foldedSetIterable iter X.env x=pure x:=by intro _;rfl):wpAny (model X.prog X.w) X.A (comprehension e scope X.env pos2 nA false (eval iter X.env) use) QV X.xe s:=by
 refine wpAny_comprehension_free (use:=use) (cl:=YN scope X.env) hcl hs (clos_eq (zP I ok)) ok.kind ok.names (thn (hi db s U H _ I h) fun v s1 q1=>thn q1 fun itv s2 q2=>?_);obtain⟨it,fp,tn,J,H1,e1,I2,T,st2,f2,q⟩:=q2;subst e1;have hD:H1 s2.heap.objs.size=none:=I2.hok.fresh (fE _);have lw:=q _ hD;refine hnA _ _ _ _ ?_;have I3:=hpl s2 H1 I2;have hob2:=T.obj 0 _ st2;have f3:∀b∈fp,Vz X db (upd H1 s2.heap.objs.size (o0 s2.heap.objs.size)) b:=fun b hb=>by
  obtain⟨o,e,_⟩:=hob2 b hb;obtain⟨f0,fr⟩:=f2 b hb;exact⟨by rw[Zx (fP (fN e))];exact f0,fr⟩
 have st3:tn 0 (s2.heap.push ob):=T.keep 0 _ _ st2 fun b _ o e=>fM _ e;generalize hs3:({ s2 with heap:=s2.heap.push ob }:Shared)=s3 at I3 ⊢;have st3':tn 0 s3.heap:=by rw[<- hs3];exact st3
 refine wpAny_newFunctionEnv ok.nocell (by intro y hy;simp at hy) (fun h1 hns hsb=>?_) ok.kind;have k1:∀b o,s3.heap.get? b=some o->h1.get? b=some o:=fun b o e=>(hsb.2 b (fP (fN e))).trans (fM _ e);have hob3:∀b∈fp,∃o,s3.heap.get? b=some o:=fun b hb=>let ⟨o,e,_⟩:=T.obj 0 _ st3' b hb; ⟨o,e⟩
 have I4:L2.Inv (YC X Nc scope (YN scope X.env) s3.heap.objs.size s3 (upd H1 s2.heap.objs.size (o0 s2.heap.objs.size)) fp) db (sub ix U) (upd H1 s2.heap.objs.size (o0 s2.heap.objs.size)) { s3 with heap:=h1,toks:=s3.toks+([]:List (Str×Value)).length }:=
  Ky I3 ok f3 hob3 hns k1
 have st4:tn 0 h1:=T.keep 0 _ _ st3' fun b _ o e=>k1 b o e;have hC:s3.heap.get? s3.heap.objs.size=none:=Heap.get?_none_of_le (fE _);have f4:∀b∈fp,Vz (YC X Nc scope (YN scope X.env) s3.heap.objs.size s3 (upd H1 s2.heap.objs.size (o0 s2.heap.objs.size)) fp) db (upd H1 s2.heap.objs.size (o0 s2.heap.objs.size)) b:=fun b hb=>by
  obtain⟨o,e⟩:=hob3 b hb;obtain⟨f0,f1,ff,f3',f4,f5⟩:=f3 b hb;have nst:b∉frs X.stack:=fun z=>by
   rcases fQ.mp (I3.stkSub b z) with z|z
   ·exact f1 z
   ·exact ff z
  exact⟨f0,fP (fN e),nst,.inl hb,fun x c q=>f4 x c (Yn (zP I3 ok) q),f5⟩
 have loop:=loop_em (Y:=YC X Nc scope (YN scope X.env) s3.heap.objs.size s3 (upd H1 s2.heap.objs.size (o0 s2.heap.objs.size)) fp) (e:=e) (d:=0) (acc:=.ref s2.heap.objs.size) (p:=iter.pos) (R:=compPost (model X.prog X.w) X.A X.xe use QV (.ref s2.heap.objs.size) s3.heap.objs.size)
  (hfr _ _ _).1 (htn _ _ _) T I4 st4 f4 hc rfl (hg _ _ _ _ _) (ht _ _ _ _ _) (he _ _ _ _ _ _) lw (fun σ' H' s' J' qq=>by
   obtain⟨m',hn',_⟩:=id J'.loc;have hCn:H' s3.heap.objs.size=none:=J'.free;exact fin _ _ H' s' m' (comp_end (h':=s'.heap) I3 f3 hC J' (.refl ..)) (I3.fpOk (fE _) hCn) hn' qq) (hun _ _ _ _).1 (hqt _ _ _)
 exact start_any (by rw[hcl];rfl) (hfr _ _ _).2 loop (T.self X.A 0 _ _ _ st4 loop) (hun _ _ _ _).2 (fun _=>hqt _ _ _)
def Jb{g:TG}{em:TEm}{Q:St->Hp->Prop}(Pv:Nat->St->Hp->Prop)(h0:Pv 0 σ0 H0)
  (hgo:∀i U H,i<n->Pv i U H->J.go i H) (hst:∀U H,Pv n U H->J.stop n H)
  (hs:∀i x U H H2,i<n->Pv i U H->J.yld i H x H2->∀(N:St->Hp->Prop),(∀σ2 H4,Pv (i+1) σ2 H4->N σ2 H4) ->
   g x U H2 fun σ2 H3=>tt σ2 H3 fun c H4=>if c=true then em σ2 H4 N else N σ2 H4)
  (hd:∀U H,Pv n U H->Q U H):LoopW J g tt em σ0 H0 Q:=by
 refine⟨fun i m U H=>m=n-i/\i<=n/\Pv i U H,⟨n,by simp,gB _,h0⟩,?_⟩;rintro i m U H ⟨rfl,hi,p⟩
 by_cases hlt:i<n
 ·refine .inr ⟨hgo i U H hlt p,fun σ2 H4=>Pv (i+1) σ2 H4,fun σ2 H4 q=>⟨n-(i+1),by omega,rfl,hlt,q⟩,fun x H2 y=>hs i x U H H2 hlt p y _ fun σ2 H4 q=>q⟩
 ·have:i=n:=by omega
  subst this;exact .inl ⟨hst U H p,hd U H p⟩
def emL(te:TE)(D:Addr):TEm:=fun U H Q=>te U H fun v H5=>∃xs,H5 D=some (.lst xs)/\xs.length<sizeLine/\Q U (upd H5 D (.lst (xs++[v])))
def pem_list{Y:Cx}(h:PE Y elt te):PEm Y (do let _ <- call (.builtin "list.append") [.ref D,<- eval elt Y.env]) (emL te D):=by
 intro db s U H Q I q;refine fD (thn (h db s U H _ I q) fun z s1 ⟨v,H1,I1,r1,xs,hx,hz,q1⟩=>?_);have ap:=ZY (X:=Y) db s1 U H1 (.ref D) [v] (.ref D) [z] (fun _ Hb=>Q U Hb) I1 rfl (.cons r1 .nil) ⟨_,xs,v,rfl,rfl,hx,hz,q1⟩;exact fD (thn ap fun _ s11 ⟨_,H11,I11,_,q11⟩=>fI ⟨U,H11,I11,q11⟩)
def emD(tk tv:TE)(D:Addr):TEm:=fun U H Q=>tk U H fun y H5=>tv U H5 fun v H6=>∃H7,DPut H6 D y v H7/\Q U H7
section
variable{U:L2.St}{a:Addr}{r:Value}
def d_put{Q:Unit->Shared->Prop}(hu:A.units<cLine)(I:L2.Inv X db U H s)(g:DPut H a y v H')(ry:ZU y u)(rv:ZU v r)(h:∀s',L2.Inv X db U H' s'->Q () s') :
  wpAny (model X.prog X.w) A (dictSet a u r) Q E s:=by
 rcases g with⟨kvs,k,e,ey,l,eH⟩|⟨kvs,k,b,e,ey,eb,l,eH⟩
 ·subst ey eH;obtain⟨z,hd,vs,rel,dd⟩:=dk_of I.hok e;have hz:vs.length<=sizeLine:=by rw[<- rel.length];exact z
  have hl:(WF kvs k v).length<=sizeLine:=by have:=XI kvs k v;omega
  refine wpAny_dictSet_pairs (hsz:=hz) (kV_is ry) dd fun h' dd' hs=>h _ ?_;have he:∃q,h'.get? a=some q:=let ⟨q,_,_,hq,_⟩:=dd'; ⟨q,hq⟩
  exact UZ I (by rw[e];exact True.intro) hs he (dk_new hl hd (rel.put k rv) dd')
 ·subst ey eH;cases (show u=Value.ref b from ry);obtain⟨z,hd,xs,rel,dd⟩:=dt_of I.hok e;have hz:xs.length<=sizeLine:=by rw[<- mn rel];exact z
  have hl:(WF kvs k v).length<=sizeLine:=by have:=XI kvs k v;omega
  refine wpAny_dictSet_heap (hsz:=hz) hu (yE I.hok eb) dd fun h' dd' hs=>h _ ?_;obtain⟨q,es,ep,hq,h2,h3,h4,_,h5⟩:=dd';refine UZ I (by rw[e];exact True.intro) hs ⟨q,hq⟩ ⟨hl,hd,_,(rel.put k eb rv).keeps fun c ys ec=>?_,q,es,ep,hq,h2,h3,h4,h5⟩;rw[Zx (Vk ec e (fun z=>nomatch z))];exact ec
end
def pem_dict{Y:Cx}{kx vx:Expr}{tk tv:TE}(hu:Y.A.units<cLine)(hk:PE Y kx tk)(hv:PE Y vx tv):PEm Y (do
   let kv <- eval kx Y.env
   let vv <- holding [kv] (eval vx Y.env)
   standAt { kx.pos with endLine:=vx.pos.endLine,endCol:=vx.pos.endCol }
   holding [kv,vv] (dictSet D kv vv)) (emD tk tv D):=by
 intro db s U H Q I q;refine fD (thn (hk db s U H _ I q) fun z s1 ⟨y,H1,I1,r1,q1⟩=>?_);refine fD (hU (thn (hv db s1 U H1 _ I1 q1) fun z2 s2 ⟨v,H2,I2,r2,H3,hp,q2⟩=>?_));exact fD (lH (hU (d_put hu I2 hp r1 r2 fun s' I'=>⟨U,H3,I',q2⟩)))
def laid_list{s2:Shared}(I2:L2.Inv X db U H1 s2):L2.Inv X db U (upd H1 s2.heap.objs.size (.lst [])) { s2 with heap:=s2.heap.push { cls:=.type "list",data:=.seq ([]:List Value).toArray } }:=
 I2.laid (t':=s2.toks) (fun b u e=>fM _ e) (fE _) ⟨gB _,[],0,.nil,ge _ rfl⟩
def Ks{x:Str}{D:Ends}{L:Addr}{m:Str->Option Value}(hN:X.N.Nodup)(hi:X.N[i]?=some x)(hx:X.env.kindOf x=some .local)(I':L2.Inv X db U H' s')(f:Vz X db H' C)(hn:s'.heap.Ns C m)(qq:D.nx (U.set i (some (.ref L))) H') :
  compPost (model X.prog X.w) X.A X.xe (some (assign (.Name x pos') X.env)) (fun _ s'=>SP X db D .next s') (.ref L) C (.ok .next) s':=by
 obtain⟨f0,f1,f2,f3,f4,f5⟩:=f;refine wpAny_assign_Name (zx (v:=.ref L) I' hN hi (.inl hx) rfl (fun s2 I2 ⟨a,sb,ha⟩=>?_) (.inr hx));have hCa:C≠a:=by
  rintro rfl;rcases ha with z|z
  ·exact f1 z
  ·exact f4 _ _ z rfl
 exact⟨m,hn.sameBut sb hCa,fun h' sb'=>⟨_,H',I2.turned (t':=s2.toks) (fun b o hb e=>(sb'.2 b hb).trans e) f0 f1 f3 f4 f5,qq⟩⟩
def pe_dcompE{kx vx:Expr}{g:TG}{tk tv:TE}{o0:HO}(h0:o0=.dK []\/o0=.dT [])(ok:ZJ X.env.scope X.N Nc ix scope)(hu:X.A.units<cLine)(hc:X.calm=true)(hi:PI X tg iter wi)
  (hg:∀cl C s H fp,PG (YC X Nc scope cl C s H fp) tg g) (ht:∀cl C s H fp,PTs (YC X Nc scope cl C s H fp) ifs tt)
  (hk:∀cl C s H fp,PE (YC X Nc scope cl C s H fp) kx tk) (hv:∀cl C s H fp,PE (YC X Nc scope cl C s H fp) vx tv)
  (hs:∀x,foldedSetIterable iter X.env x=pure x:=by intro _;rfl):PE X (.DictComp kx vx [⟨tg,iter,ifs,0⟩] scope pos) (tCompE wi ix (fun _=>o0) g tt (fun D=>emD tk tv D)):=by
 intro db s U H Q I h;rw[arm_eval_DictComp];refine jl (e:=.DictComp kx vx [⟨tg,iter,ifs,0⟩] scope pos) (use:=none) (QV:=EP X db U Q) (ob:={ cls:=.type "dict",data:=.dict #[] }) (bd:=fun D env=>do
   let kv <- eval kx env
   let vv <- holding [kv] (eval vx env)
   standAt { kx.pos with endLine:=vx.pos.endLine,endCol:=vx.pos.endCol }
   holding [kv,vv] (dictSet D kv vv)) I h (fun D C H' s' m I' f hn qq=>?_) rfl (fun _ _ _=>⟨rfl,rfl⟩) (fun _ _ _=>rfl) (fun _ _ _ _=>⟨rfl,rfl⟩) (fun _ _ _=>rfl)
  (fun _ _ _ _ q=>ig q) (fun s2 H1 I2=>?_) ok hc hi hg ht (fun cl C s H fp D=>pem_dict (Y:=YC X Nc scope cl C s H fp) hu (hk cl C s H fp) (hv cl C s H fp)) hs
 ·obtain⟨f0,f1,f2,f3,f4,f5⟩:=f;exact⟨m,hn,fun h' sb=>⟨.ref D,H',I'.turned (t':=s'.toks) (fun b o hb e=>(sb.2 b hb).trans e) f0 f1 f3 f4 f5,rfl,qq⟩⟩
 ·rcases h0 with rfl|rfl
  ·exact I2.laid (t':=s2.toks) (fun b u e=>fM _ e) (fE _) (qQ s2.heap I2.big)
  ·exact I2.laid (t':=s2.toks) (fun b u e=>fM _ e) (fE _) (dt_empty s2.heap I2.big)
def zj(J:It)(D:Addr)(g:TG)(tt:TT)(te:TE)(σ0:St)(H1:Hp)(Q:VK):Prop:=LoopW J g tt (emL te D) σ0 (upd H1 D (.lst [])) (fun _ H'=>Q (.ref D) H')
def tCompL(wi:TI)(ix:List (Option Nat))(g:TG)(tt:TT)(te:TE):TE:=fun U H Q=>wi U H fun J H1=>∀D,H1 D=none->zj J D g tt te (sub ix U) H1 Q
def vN{g:TG}{Q:VK}(I:L2.Inv X db U H s)(h:tCompL wi ix g tt te U H Q)
  (fin:∀(D C:Addr) (H':Hp) (s':Shared) (m:Str->Option Value),L2.Inv X db U H' s'->Vz X db H' C->s'.heap.Ns C m->Q (.ref D) H'->compPost (model X.prog X.w) X.A X.xe use QV (.ref D) C (.ok .next) s')
  (ok:ZJ X.env.scope X.N Nc ix scope) (hc:X.calm=true) (hi:PI X tg iter wi)
  (hg:∀cl C s H fp,PG (YC X Nc scope cl C s H fp) tg g) (ht:∀cl C s H fp,PTs (YC X Nc scope cl C s H fp) ifs tt) (he:∀cl C s H fp,PE (YC X Nc scope cl C s H fp) elt te)
  (hs:∀x,foldedSetIterable iter X.env x=pure x):wpAny (model X.prog X.w) X.A (comprehension (.ListComp elt [⟨tg,iter,ifs,0⟩] scope pos) scope X.env pos2 (newList []) false (eval iter X.env) use) QV X.xe s:=
 jl (em:=fun D=>emL te D) (o0:=fun _=>.lst []) (ob:={ cls:=.type "list",data:=.seq ([]:List Value).toArray }) (bd:=fun D env=>do let _ <- call (.builtin "list.append") [.ref D,<- eval elt env]) I h fin rfl (fun _ _ _=>⟨rfl,rfl⟩) (fun _ _ _=>rfl) (fun _ _ _ _=>⟨rfl,rfl⟩) (fun _ _ _=>rfl)
  (fun _ _ _ _ q=>ig q) (fun _ _ I2=>laid_list I2) ok hc hi hg ht (fun cl C s H fp D=>pem_list (he cl C s H fp)) hs
def ZR{g:TG}(ok:ZJ X.env.scope X.N Nc ix scope)(hc:X.calm=true)(hi:PI X tg iter wi)
  (hg:∀cl C s H fp,PG (YC X Nc scope cl C s H fp) tg g) (ht:∀cl C s H fp,PTs (YC X Nc scope cl C s H fp) ifs tt) (he:∀cl C s H fp,PE (YC X Nc scope cl C s H fp) elt te)
  (hs:∀x,foldedSetIterable iter X.env x=pure x:=by intro _;rfl):PE X (.ListComp elt [⟨tg,iter,ifs,0⟩] scope pos) (tCompL wi ix g tt te):=by
 intro db s U H Q I h;rw[eval_ListComp];refine vN (use:=none) I h (fun D C H' s' m I' f hn qq=>?_) ok hc hi hg ht he hs;obtain⟨f0,f1,f2,f3,f4,f5⟩:=f;exact⟨m,hn,fun h' sb=>⟨.ref D,H',I'.turned (t':=s'.toks) (fun b o hb e=>(sb.2 b hb).trans e) f0 f1 f3 f4 f5,rfl,qq⟩⟩
def YQ{x:Str}{spos:Pos}{g:TG}(hN:X.N.Nodup)(hi:X.N[i]?=some x)(hx:X.env.kindOf x=some .local)
  (ok:ZJ X.env.scope X.N Nc ix scope) (hc:X.calm=true) (hit:PI X tg iter wi)
  (hg:∀cl C s H fp,PG (YC X Nc scope cl C s H fp) tg g) (ht:∀cl C s H fp,PTs (YC X Nc scope cl C s H fp) ifs tt) (he:∀cl C s H fp,PE (YC X Nc scope cl C s H fp) elt te)
  (hsw:swapsWith (.ListComp elt [⟨tg,iter,ifs,0⟩] scope pos) (some (.Name x pos')) spos.line X.env=pure true:=by rfl)
  (hs:∀x,foldedSetIterable iter X.env x=pure x:=by intro _;rfl):PS X (.Assign [.Name x pos'] (.ListComp elt [⟨tg,iter,ifs,0⟩] scope pos) spos) (tAsg (tCompL wi ix g tt te) (VR i)):=by
 intro db s U H D I h;rw[exec_Assign_Name_used _ _ _ _ hsw];refine fD (lH (fD ?_))
 show wpAny _ X.A (do let _ <- comprehension (.ListComp elt [⟨tg,iter,ifs,0⟩] scope pos) scope X.env _ (newList []) false (eval iter X.env) (some (assign (.Name x pos') X.env))) _ _ s
 refine fD (thn (vN (use:=some (assign (.Name x pos') X.env)) (QV:=fun _ s'=>SP X db D .next s') I h (fun L C H' s' m I' f hn qq=>?_) ok hc hit hg ht he hs) fun _ s' q=>fI (fI q));exact Ks hN hi hx I' f hn qq
def Yx{g:TG}{Q:VK}(Pv:Nat->St->Hp->Prop)(h0:Pv 0 σ0 (upd H0 D (.lst [])))
  (hgo:∀i U H,i<n->Pv i U H->J.go i H) (hst:∀U H,Pv n U H->J.stop n H)
  (hs:∀i x U H H2,i<n->Pv i U H->J.yld i H x H2->∀(N:V->St->Hp->Prop) (N0:St->Hp->Prop),(∀v σ2 H5 ys,H5 D=some (.lst ys)->ys.length<sizeLine->Pv (i+1) σ2 (upd H5 D (.lst (ys++[v])))->N v σ2 H5)->(∀σ2 H4,Pv (i+1) σ2 H4->N0 σ2 H4) ->
   g x U H2 fun σ2 H3=>tt σ2 H3 fun c H4=>if c=true then te σ2 H4 fun v H5=>N v σ2 H5 else N0 σ2 H4)
  (hd:∀U H,Pv n U H->Q (.ref D) H):zj J D g tt te σ0 H0 Q:=by
 refine Jb (n:=n) Pv h0 hgo hst (fun i x U H H2 hi p y N hN=>?_) hd;exact hs i x U H H2 hi p y (fun v σ2 H5=>∃ys,H5 D=some (.lst ys)/\ys.length<sizeLine/\N σ2 (upd H5 D (.lst (ys++[v])))) N (fun v σ2 H5 ys a b c=>⟨ys,a,b,hN _ _ c⟩) hN
def Wk{a:Addr}{xs:List V}{Q:VK}(hD:H0 D=none)(hq:SqL K H0 a xs)(hz:xs.length<=sizeLine)(R:Nat->V->Hp->Prop)(mono:∀i v H H',Ze H H'->R i v H->R i v H')
  (step:∀i x H (N:V->Hp->Prop),xs[i]?=some x->Ze H0 H->(∀v H4,Ze H H4->R i v (New H H4)->N v H4)->te (some x::τ) H N)
  (fin:∀H' ys,H' D=some (.lst ys)->Ze H0 H'->ys.length=xs.length->(∀i v,ys[i]?=some v->R i v (New H0 H'))->Q (.ref D) H') :
  zj (Itl K a) D (VR 0) xJ te (none::τ) H0 Q:=by
 refine Yx (n:=xs.length) (fun i U H=>∃z ys,U=z::τ/\H D=some (.lst ys)/\ys.length=i/\Ze H0 H/\∀j v,ys[j]?=some v->R j v (hide D (New H0 H))) ?_ ?_ ?_ ?_ ?_
 ·exact⟨none,[],rfl,Zd,rfl,Zi hD,fun j v e=>by simp at e⟩
 ·rintro i U H hi ⟨z,ys,rfl,_,_,s,_⟩;exact⟨xs,xs[i],s.seq hq,by simp[hi]⟩
 ·rintro U H ⟨z,ys,rfl,_,_,s,_⟩;exact⟨xs,s.seq hq,fE _⟩
 ·rintro i x U H H2 hi ⟨z,ys,rfl,hy,hl,s,r⟩ ⟨rfl,hx⟩ N N0 hN hN0
  show te (some x::τ) H2 _
  refine step i x H2 _ (hx xs (s.seq hq)) s fun v H4 s4 r4=>?_;refine hN v _ H4 ys (s4 _ _ hy) (by omega) ⟨some x,ys++[v],rfl,Zd,by rw[fK,gG,hl],?_,?_⟩
  ·exact(Zs.upd (Ze.x (s.trans s4))).same hD
  ·intro j w e
   by_cases hj:j<ys.length
   ·rw[gm hj] at e;refine mono j w _ _ ?_ (r j w e);intro b o hb;obtain⟨nb,hb⟩:=zy hb;obtain⟨h1,h2⟩:=New.of hb;exact Xw nb (New.mk h1 (by rw[Zx nb];exact s4 _ _ h2))
   ·have ej:j=ys.length:=by
     have:=(fO.mp e).1;rw[fK,gG] at this;omega
    subst ej;simp at e;subst e;rw[hl];refine mono i v _ _ ?_ r4;intro b o hb;obtain⟨h1,h2⟩:=New.of hb;have nb:b≠D:=fun z=>by subst z;rw[hy] at h1;cases h1
    exact Xw nb (New.mk (s.free h1) (by rw[Zx nb];exact h2))
 ·rintro U H ⟨z,ys,rfl,hy,hl,s,r⟩;exact fin H ys hy s hl fun i v e=>mono i v _ _ Wz (r i v e)
def UN{N:V->Hp->Prop}{N0:Hp->Prop}(h:te U H N):xJ U H fun c H4=>if c=true then te U H4 N else N0 H4:=by
 show(if true=true then te U H N else N0 H)
 rw[if_pos rfl];exact h
def xg{Q:VK}(l:List α)(φ:α->V)(p:α->Bool)(f:α->V)(hD:H0 D=none)(hz:l.length<=sizeLine)
  (hgo:∀i H,i<l.length->Ze H0 H->J.go i H) (hst:∀H,Ze H0 H->J.stop l.length H) (hy:∀i x H H2 (h:i<l.length),Ze H0 H->J.yld i H x H2->H2=H/\x=φ l[i])
  (step:∀x∈l,∀H (N:V->Hp->Prop) (N0:Hp->Prop),Ze H0 H->(∀H4,Ze H H4->p x=true->N (f x) H4)->(∀H4,Ze H H4->p x=false->N0 H4)->tt (some (φ x)::τ) H fun c H4=>if c=true then te (some (φ x)::τ) H4 N else N0 H4)
  (fin:∀H',H' D=some (.lst ((l.filter p).map f))->Ze H0 H'->Q (.ref D) H'):zj J D (VR 0) tt te (none::τ) H0 Q:=by
 refine Yx (n:=l.length) (fun i U H=>∃z,U=z::τ/\H D=some (.lst (((l.take i).filter p).map f))/\Ze H0 H) ?_ ?_ ?_ ?_ ?_
 ·exact⟨none,rfl,Zd,Zi hD⟩
 ·rintro i U H hi ⟨z,rfl,_,s⟩;exact hgo i H hi s
 ·rintro U H ⟨z,rfl,_,s⟩;exact hst H s
 ·rintro i x U H H2 hi ⟨z,rfl,hd,s⟩ hyl N N0 hN hN0;obtain⟨rfl,rfl⟩:=hy i x H H2 hi s hyl;have tk:(l.take (i+1)).filter p=(l.take i).filter p++[l[i]].filter p:=by rw[List.take_succ_eq_append_getElem hi,mH]
  have le:(((l.take i).filter p).map f).length<sizeLine:=by
   rw[fF];have:=me p (l.take i);rw[gu] at this;omega
  refine step _ (fX hi) H2 (fun v H5=>N v (some (φ l[i])::τ) H5) (fun H4=>N0 (some (φ l[i])::τ) H4) s (fun H4 s4 hp=>?_) (fun H4 s4 hp=>?_)
  ·refine hN _ _ H4 _ (s4 _ _ hd) le ⟨_,rfl,?_,(Zs.upd (Ze.x (s.trans s4))).same hD⟩;rw[Zd,tk,lW hp,gb];rfl
  ·refine hN0 _ H4 ⟨_,rfl,?_,s.trans s4⟩;rw[s4 _ _ hd,tk,lX (by rw[hp];exact gk),List.filter_nil,iB]
 ·rintro U H ⟨z,rfl,hd,s⟩;rw[iP] at hd;exact fin H hd s
def U0{a:Addr}{Q:VK}(l:List α)(φ:α->V)(p:α->Bool)(f:α->V)(hD:H0 D=none)(hq:SqL K H0 a (l.map φ))(hz:l.length<=sizeLine)
  (step:∀x∈l,∀H (N:V->Hp->Prop) (N0:Hp->Prop),Ze H0 H->(∀H4,Ze H H4->p x=true->N (f x) H4)->(∀H4,Ze H H4->p x=false->N0 H4)->tt (some (φ x)::τ) H fun c H4=>if c=true then te (some (φ x)::τ) H4 N else N0 H4)
  (fin:∀H',H' D=some (.lst ((l.filter p).map f))->Ze H0 H'->Q (.ref D) H'):zj (Itl K a) D (VR 0) tt te (none::τ) H0 Q:=by
 refine xg l φ p f hD hz (fun i H hi s=>⟨_,φ l[i],s.seq hq,by rw[fL,fG hi];rfl⟩) (fun H s=>⟨_,s.seq hq,by rw[fF];exact fE _⟩) (fun i x H H2 hi s hyl=>?_) step fin;obtain⟨rfl,hx⟩:=hyl;have e:=hx _ (s.seq hq);rw[fL,fG hi] at e;exact⟨rfl,(fY e).symm⟩
def comp_selR{Q:VK}(p:Nat->Bool)(f:Nat->V)(hD:H0 D=none)(hz:n<=sizeLine)
  (step:∀k,k<n->∀H (N:V->Hp->Prop) (N0:Hp->Prop),Ze H0 H->(∀H4,Ze H H4->p k=true->N (f k) H4)->(∀H4,Ze H H4->p k=false->N0 H4)->tt (some (.int (k:Nat))::τ) H fun c H4=>if c=true then te (some (.int (k:Nat))::τ) H4 N else N0 H4)
  (fin:∀H',H' D=some (.lst (((List.range n).filter p).map f))->Ze H0 H'->Q (.ref D) H'):zj (Itr 0 n) D (VR 0) tt te (none::τ) H0 Q:=by
 refine xg (List.range n) (fun k=>.int (k:Nat)) p f hD (by rw[gp];exact hz) (fun i H hi _=>by rw[gp] at hi;exact hi) (fun H _=>by rw[gp];exact fE _) (fun i x H H2 hi s hyl=>?_) (fun x hx=>step x (lQ.mp hx)) fin;obtain⟨rfl,rfl⟩:=hyl;refine⟨rfl,?_⟩;rw[List.getElem_range,Int.zero_add]
def YI{a:Addr}{Q:VK}(l:List α)(φ:α->V)(f:α->V)(hD:H0 D=none)(hq:SqL K H0 a (l.map φ))(hz:l.length<=sizeLine)
  (step:∀x∈l,∀H (N:V->Hp->Prop),Ze H0 H->(∀H4,Ze H H4->N (f x) H4)->te (some (φ x)::τ) H N)
  (fin:∀H',H' D=some (.lst (l.map f))->Ze H0 H'->Q (.ref D) H'):zj (Itl K a) D (VR 0) xJ te (none::τ) H0 Q:=by
 refine U0 l φ (fun _=>true) f hD hq hz (fun x hx H N N0 s h1 _=>?_) (fun H' h s=>fin H' (by rw[h,List.filter_eq_self.mpr (fun _ _=>rfl)]) s);exact UN (step x hx H N s fun H4 s4=>h1 H4 s4 rfl)
def qm{Q:VK}(f:Nat->V)(hD:H0 D=none)(hz:n<=sizeLine)
  (step:∀k,k<n->∀H (N:V->Hp->Prop),Ze H0 H->(∀H4,Ze H H4->N (f k) H4)->te (some (.int (k:Nat))::τ) H N)
  (fin:∀H',H' D=some (.lst ((List.range n).map f))->Ze H0 H'->Q (.ref D) H'):zj (Itr 0 n) D (VR 0) xJ te (none::τ) H0 Q:=by
 refine comp_selR (fun _=>true) f hD hz (fun x hx H N N0 s h1 _=>?_) (fun H' h s=>fin H' (by rw[h,List.filter_eq_self.mpr (fun _ _=>rfl)]) s);exact UN (step x hx H N s fun H4 s4=>h1 H4 s4 rfl)
def W4(S W:Addr)(G G':Hp):Prop:=∀b o,b≠S->b≠W->G b=some o->G' b=some o
def W4.trans{W:Addr}{G1 G2:Hp}(a:W4 S W G G1)(b:W4 S W G1 G2):W4 S W G G2:=fun c o n m e=>b c o n m (a c o n m e)
def Ze.two{W:Addr}(h:Ze G G'):W4 S W G G':=fun b o _ _ e=>h b o e
def W4.upd1{W:Addr}(h:W4 S W G G'):W4 S W G (upd G' S o):=fun b u n m e=>by rw[Zx n];exact h b u n m e
def W4.upd2{W:Addr}(h:W4 S W G G'):W4 S W G (upd G' W o):=fun b u n m e=>by rw[Zx m];exact h b u n m e
def VM(xs:List V)(k:Nat):W7 xs none (some (k:Int))=xs.take k:=by
 by_cases h:k<=xs.length
 ·exact cutV_to xs k h
 ·unfold W7;rw[HT.sIx_nat,HT.sIx_none,Nat.min_eq_right (by omega),mQ (by omega:xs.length<=k)];simp
def jW{l:List Int}{M:Nat}(nd:l.Nodup)(h:∀y∈l,0<=y/\y<(M:Nat)):l.length<=M:=by
 have h1:(l.map Int.toNat).Nodup:=by
  unfold List.Nodup;rw[List.pairwise_map];refine List.Pairwise.imp_of_mem (fun {a b} ha hb n e=>n ?_) nd;have:=h a ha;have:=h b hb;omega
 have h2:=yH (l₂:=List.range M) h1 fun x hx=>by
  obtain⟨y,hy,rfl⟩:=gn.mp hx;have:=h y hy;exact lQ.mpr (by omega)
 rw[fF,gp] at h2;exact h2
abbrev ZOut(h:Heap)(z TI TO a:Addr)(f:Bool):Prop:=h.get? z=some { cls:=.type "zip",dict:=none,data:=.fields #[rawInt a,.bool f,.bool false,.ref TI,.ref TO],slots:=#[] }
def zout_item{z TI TO a:Addr}{f:Bool}{k1 k2:Nat}{xs:Array Value}{x y:Value}{Q:Option Value->Shared->Prop}(D:ZipApart z TI TO i1 i2 l1 l2)(hz:ZOut s.heap z TI TO a f)(ha:s.heap.get? a=some oa)(haz:a≠z)
  (hTI:IsPair s.heap TI (.ref i1) (.ref i2)) (h1:s.heap.IsListIter i1 l1 k1) (h2:s.heap.IsListIter i2 l2 k2) (hl1:s.heap.IsList l1 xs) (hl2:s.heap.IsList l2 ys) (hx:xs[k1]?=some x) (hy:ys[k2]?=some y)
  (hQ:∀h',ZOut h' z TI TO a true->h'.IsListIter i1 l1 (k1+1)->h'.IsListIter i2 l2 (k2+1)->IsPair h' s.heap.objs.size x y->h'.objs.size=s.heap.objs.size+1->(∀c o,c≠z->c≠i1->c≠i2->s.heap.get? c=some o->h'.get? c=some o)->Q (some (.ref s.heap.objs.size)) { s with heap:=h' }) :
  wpAny (model P w) A (pyNext (.ref z)) Q E s:=by
 have ty:s.TypeIs (.ref z) "zip" := ⟨_,hz,rfl⟩;unfold pyNext;refine fD (mF (lC (name:=Str.ofString "__next__") ty nJ (io nJ ty PySem.F.entry_zip_next ?_ (PySem.F.args_zip_next_1 _))))
 show wpAny _ _ (field (.ref z) 2 >>= _) _ _ _
 refine fD (ib hz rfl (x:=Value.bool false) rfl ?_)
 show wpAny _ _ (field (.ref z) 3 >>= _) _ _ _
 refine fD (ib hz rfl (x:=Value.ref TI) rfl ?_);refine fD (mC hTI rfl ?_)
 show wpAny _ _ (Builtin.SmallTypes.ownedTupleIsFree (.ref z) >>= _) _ _ _
 refine fD (thn (Q:=fun b s1=>b=false/\∃hp,s1={ s with heap:=hp }/\ZOut hp z TI TO a true/\Heap.SameBut z s.heap hp) ?_ fun b s1 hb=>?_)
 ·unfold Builtin.SmallTypes.ownedTupleIsFree;refine fD (ib hz rfl (x:=rawInt a) rfl ?_)
  show wpAny _ _ (loadIfAlive ((a:Int).toNat) >>= _) _ _ _
  rw[gw];refine fD (W.kdx_alive ha ?_);simp only[Option.isNone_some,hV,gU];refine fD (ib hz rfl (x:=Value.bool f) rfl ?_);cases f with
  |true=>
   rw[if_neg (show ¬((Value.bool true != Value.bool true)=true) from fun q=>Bool.noConfusion q)];exact fI ⟨rfl,_,rfl,hz,Heap.SameBut.refl _ _⟩
  |false=>
   rw[if_pos (show(Value.bool false != Value.bool true)=true from rfl)];exact fD (wpAny_setField_rec hz (by simp) fun h₃ he₃ hs₃=>fI ⟨rfl,h₃,rfl,he₃,hs₃⟩)
 obtain⟨rfl,hp,rfl,hz',sb⟩:=hb;simp only[hV,gU];rw[<- Array.forIn_toList];simp only[List.forIn_cons,List.forIn_nil];refine fD (fD (fD (hU ?_)))
 show wpAny _ _ (Builtin.SmallTypes.nextOf (.ref i1) >>= _) _ _ _
 refine fD (wpAny_nextOf_list_item (h1.extBut sb.extBut D.i1z) (hl1.extBut sb.extBut D.l1z) hx fun g₂ j1 t₂=>fI (fI ?_));refine fD (fD (hU ?_))
 show wpAny _ _ (Builtin.SmallTypes.nextOf (.ref i2) >>= _) _ _ _
 refine fD (wpAny_nextOf_list_item ((h2.extBut sb.extBut D.i2z).extBut t₂.extBut D.i12.symm) ((hl2.extBut sb.extBut D.l2z).extBut t₂.extBut D.l2i1) hy fun g₃ j2 t₃=>fI (fI (fI ?_)));refine fD (wpAny_newTuple (hsz:=by show 2<=sizeLine;decide) ?_);have sz:g₃.objs.size=s.heap.objs.size:=by rw[t₃.1,t₂.1,sb.1]
 have z3:ZOut g₃ z TI TO a true:=t₃.extBut _ _ D.i2z.symm (t₂.extBut _ _ D.i1z.symm hz');refine fI ⟨_,rfl,fI ?_⟩
 show Q (some (.ref g₃.objs.size)) _
 have j1':g₃.IsListIter i1 l1 (k1+1):=j1.extBut t₃.extBut D.i12;rw[sz];refine hQ _ (fM _ z3) (j1'.at fun o e=>fM _ e) (j2.at fun o e=>fM _ e) ?_ ?_ fun c o n1 n2 n3 e=>fM _ (t₃.extBut _ _ n3 (t₂.extBut _ _ n2 (sb.extBut _ _ n1 e)))
 ·rw[<- sz];exact ge _ rfl
 ·rw[iq,sz]
def zout_end{z TI TO a:Addr}{f:Bool}{k1:Nat}{xs:Array Value}{Q:Option Value->Shared->Prop}(hh:A.handled=none)(D:ZipApart z TI TO i1 i2 l1 l2)(hz:ZOut s.heap z TI TO a f)(ha:s.heap.get? a=some oa)
  (hTI:IsPair s.heap TI (.ref i1) (.ref i2)) (h1:s.heap.IsListIter i1 l1 k1) (hl1:s.heap.IsList l1 xs) (hx:xs[k1]?=none)
  (hQ:∀h',(∀c o,c≠z->c≠i1->s.heap.get? c=some o->h'.get? c=some o)->Q none { s with heap:=h' }):wpAny (model P w) A (pyNext (.ref z)) Q E s:=by
 have ty:s.TypeIs (.ref z) "zip" := ⟨_,hz,rfl⟩;unfold pyNext;refine fD (mF (lC (name:=Str.ofString "__next__") ty nJ (io nJ ty PySem.F.entry_zip_next ?_ (PySem.F.args_zip_next_1 _))))
 show wpAny _ _ (field (.ref z) 2 >>= _) _ _ _
 refine fD (ib hz rfl (x:=Value.bool false) rfl ?_)
 show wpAny _ _ (field (.ref z) 3 >>= _) _ _ _
 refine fD (ib hz rfl (x:=Value.ref TI) rfl ?_);refine fD (mC hTI rfl ?_)
 show wpAny _ _ (Builtin.SmallTypes.ownedTupleIsFree (.ref z) >>= _) _ _ _
 refine fD (thn (Q:=fun b s1=>b=false/\∃hp,s1={ s with heap:=hp }/\ZOut hp z TI TO a true/\Heap.SameBut z s.heap hp) ?_ fun b s1 hb=>?_)
 ·unfold Builtin.SmallTypes.ownedTupleIsFree;refine fD (ib hz rfl (x:=rawInt a) rfl ?_)
  show wpAny _ _ (loadIfAlive ((a:Int).toNat) >>= _) _ _ _
  rw[gw];refine fD (W.kdx_alive ha ?_);simp only[Option.isNone_some,hV,gU];refine fD (ib hz rfl (x:=Value.bool f) rfl ?_);cases f with
  |true=>
   rw[if_neg (show ¬((Value.bool true != Value.bool true)=true) from fun q=>Bool.noConfusion q)];exact fI ⟨rfl,_,rfl,hz,Heap.SameBut.refl _ _⟩
  |false=>
   rw[if_pos (show(Value.bool false != Value.bool true)=true from rfl)];exact fD (wpAny_setField_rec hz (by simp) fun h₃ he₃ hs₃=>fI ⟨rfl,h₃,rfl,he₃,hs₃⟩)
 obtain⟨rfl,hp,rfl,hz',sb⟩:=hb;simp only[hV,gU];rw[<- Array.forIn_toList];simp only[List.forIn_cons,List.forIn_nil];refine fD (fD (fD (hU ?_)))
 show wpAny _ _ (Builtin.SmallTypes.nextOf (.ref i1) >>= _) _ _ _
 refine fD (wpAny_nextOf_list_end hh (h1.extBut sb.extBut D.i1z) (hl1.extBut sb.extBut D.l1z) hx fun g₂ ee t₂ he=>?_);obtain⟨oe,hoe,hce⟩:=he;refine fD (wpAny_isInstance (T := "StopIteration") (b:=true) ⟨oe,hoe,hce⟩ isSubtype_stop (fI (hQ _ fun c o n1 n2 e=>?_)));exact t₂ _ _ n2 (sb.extBut _ _ n1 e)
structure ZSt(h:Heap)(z TI TO i1 i2 l1 l2 S:Addr)(xs ys:Array Value)(i:Nat):Prop where
 z:(i=0/\IsZip h z TI TO .none/\∃u v,IsPair h TO u v)\/∃a f oa,ZOut h z TI TO a f/\h.get? a=some oa/\a≠z/\a≠i1/\a≠i2/\a≠S
 ti:IsPair h TI (.ref i1) (.ref i2)
 i1:h.IsListIter i1 l1 i
 i2:h.IsListIter i2 l2 i
 l1:h.IsList l1 xs
 l2:h.IsList l2 ys
structure ZFar(z TI TO i1 i2 l1 l2 S:Addr):Prop where
 z:z≠S
 ti:TI≠S
 to:TO≠S
 i1:i1≠S
 i2:i2≠S
 l1:l1≠S
 l2:l2≠S
def ZSt.keep{z TI TO:Addr}{xs:Array Value}(x:ZSt h z TI TO i1 i2 l1 l2 S xs ys i)(far:ZFar z TI TO i1 i2 l1 l2 S)(hk:∀b o,b≠S->h.get? b=some o->h'.get? b=some o):ZSt h' z TI TO i1 i2 l1 l2 S xs ys i:=by
 refine⟨?_,hk _ _ far.ti x.ti,x.i1.at fun o e=>hk _ _ far.i1 e,x.i2.at fun o e=>hk _ _ far.i2 e,x.l1.at fun o e=>hk _ _ far.l1 e,x.l2.at fun o e=>hk _ _ far.l2 e⟩;rcases x.z with⟨e,q,u,v,p⟩|⟨a,f,oa,q,ha,n1,n2,n3,n4⟩
 ·exact .inl ⟨e,hk _ _ far.z q,u,v,hk _ _ far.to p⟩
 ·exact .inr ⟨a,f,oa,hk _ _ far.z q,hk _ _ n4 ha,n1,n2,n3,n4⟩
def ZSt.item{z TI TO:Addr}{xs:Array Value}{x y:Value}{Q:Option Value->Shared->Prop}(D:ZipApart z TI TO i1 i2 l1 l2)(st:ZSt s.heap z TI TO i1 i2 l1 l2 S xs ys i)(hS:S<s.heap.objs.size)(lt:z<s.heap.objs.size/\i1<s.heap.objs.size/\i2<s.heap.objs.size)(hx:xs[i]?=some x)(hy:ys[i]?=some y)
  (hQ:∀h',ZSt h' z TI TO i1 i2 l1 l2 S xs ys (i+1)->IsPair h' s.heap.objs.size x y->h'.objs.size=s.heap.objs.size+1->(∀c o,c≠z->c≠TO->c≠i1->c≠i2->s.heap.get? c=some o->h'.get? c=some o)->Q (some (.ref s.heap.objs.size)) { s with heap:=h' }):wpAny (model P w) A (pyNext (.ref z)) Q E s:=by
 rcases st.z with⟨rfl,q,u,v,p⟩|⟨a,f,oa,q,ha,n1,n2,n3,n4⟩
 ·refine wpAny_pyNext_zip_item D q st.ti p st.i1 st.i2 st.l1 st.l2 hx hy fun h' b1 b2 b3 b4 b5 b6 b7=>hQ h' ⟨.inr ⟨_,false,_,b1,b5,gQ lt.1,gQ lt.2.1,gQ lt.2.2,gQ hS⟩,b7 _ _ D.TIz D.TITO D.TIi1 D.TIi2 st.ti,b3,b4,st.l1.at fun o e=>b7 _ _ D.l1z D.l1TO D.l1i1 D.l1i2 e,st.l2.at fun o e=>b7 _ _ D.l2z D.l2TO D.l2i1 D.l2i2 e⟩ b5 b6 b7
 ·refine zout_item D q ha n1 st.ti st.i1 st.i2 st.l1 st.l2 hx hy fun h' b1 b3 b4 b5 b6 b7=>hQ h' ⟨.inr ⟨a,true,oa,b1,b7 _ _ n1 n2 n3 ha,n1,n2,n3,n4⟩,b7 _ _ D.TIz D.TIi1 D.TIi2 st.ti,b3,b4,st.l1.at fun o e=>b7 _ _ D.l1z D.l1i1 D.l1i2 e,st.l2.at fun o e=>b7 _ _ D.l2z D.l2i1 D.l2i2 e⟩ b5 b6 fun c o m1 _ m3 m4 e=>b7 c o m1 m3 m4 e
def ZSt.stop{z TI TO:Addr}{xs:Array Value}{Q:Option Value->Shared->Prop}(hh:A.handled=none)(D:ZipApart z TI TO i1 i2 l1 l2)(st:ZSt s.heap z TI TO i1 i2 l1 l2 S xs ys i)(hx:xs[i]?=none)
  (hQ:∀h',(∀c o,c≠z->c≠TO->c≠i1->c≠i2->s.heap.get? c=some o->h'.get? c=some o)->Q none { s with heap:=h' }):wpAny (model P w) A (pyNext (.ref z)) Q E s:=by
 rcases st.z with⟨rfl,q,u,v,p⟩|⟨a,f,oa,q,ha,n1,n2,n3,n4⟩
 ·exact wpAny_pyNext_zip_end hh D q st.ti p st.i1 st.i2 st.l1 st.l2 (.inl hx) fun h' b=>hQ h' b
 ·exact zout_end hh D q ha st.ti st.i1 st.l1 hx fun h' b=>hQ h' fun c o m1 _ m3 _ e=>b c o m1 m3 e
def Kf:typeLookup (.type "zip") "__len__" = pure none:=by
 rw[mX,mY]
 kernel_rfl
def Jj:typeLookup (.type "zip") "__length_hint__" = pure none:=by
 rw[mX,mY]
 kernel_rfl
def zip_hint{r:Addr}(ty:s.TypeIs (.ref r) "zip"){Q:Bool->Shared->Prop}(h:Q true s):wpAny (model P w) A (Builtin.List.listLengthHint (.ref r)) Q E s:=by
 unfold Builtin.List.listLengthHint;refine fD (mR ty Kf ?_);refine wpAny_ite_split (fun q=>absurd q (by decide)) fun _=>?_;refine wpAny_ite_split (fun q=>absurd q (by decide)) fun _=>?_;exact fD (mR ty Jj (fI h))
def ZG(h:Heap)(lo:Addr)(xs ys:Array Value)(as:List Addr):Prop:=as.Pairwise (·<·)/\(∀a∈as,lo<a)/\∀(j:Nat) a,as[j]?=some a->∃x y,xs[j]?=some x/\ys[j]?=some y/\IsPair h a x y
def zl_loop{z TI TO:Addr}{xs:Array Value}(hh:A.handled=none)(D:ZipApart z TI TO i1 i2 l1 l2)(far:ZFar z TI TO i1 i2 l1 l2 S)(lo:z<=S/\TI<=S/\TO<=S/\i1<=S/\i2<=S)(hl:ys.size=xs.size)(hn:xs.size<=sizeLine)(res:Value){h₁:Heap}
  (hR:∀h' tk acc c as,(∀b o,b≠S->b≠z->b≠TO->b≠i1->b≠i2->h₁.get? b=some o->h'.get? b=some o)->h'.get? S=some { cls:=.type "list",dict:=none,data:=.seq acc c,slots:=#[] }->as.length=xs.size->ZG h' S xs ys as->acc.toList=as.map Value.ref->R (.ok (.ret res)) { s with heap:=h',toks:=tk }) :
  ∀(k i:Nat) (h:Heap) (tk c:Nat) (acc:Array Value) (as:List Addr),xs.size-i=k->i<=xs.size->ZSt h z TI TO i1 i2 l1 l2 S xs ys i->(∀b o,b≠S->b≠z->b≠TO->b≠i1->b≠i2->h₁.get? b=some o->h.get? b=some o) ->
   h.get? S=some { cls:=.type "list",dict:=none,data:=.seq acc c,slots:=#[] }->acc.toList=as.map Value.ref->as.length=i->ZG h S xs ys as ->
   codeAny (model P w) A (.builtin "list.extend.loop" ⟨[.ref S,.ref z,res],[]⟩) R { s with heap:=h,toks:=tk }:=by
 intro k
 induction k with
 |zero=>
  intro i h tk c acc as hk hi st kp hS hacc hal hG;refine iD PySem.F.entry_extend_loop ?_;rw[iX mI _]
  show wpAny _ A.in1 (pyNext (.ref z) >>= _) _ _ _
  refine fD (ZSt.stop (s:={ s with heap:=h,toks:=tk }) (A:=A.in1) hh D st (nE (by omega)) fun h' he=>fI (hR h' tk acc c as (fun b o m0 m1 m2 m3 m4 e=>he b o m1 m2 m3 m4 (kp b o m0 m1 m2 m3 m4 e)) (he S _ far.z.symm far.to.symm far.i1.symm far.i2.symm hS) (by omega) ⟨hG.1,hG.2.1,fun j a hj=>?_⟩ hacc));obtain⟨x,y,q1,q2,q3⟩:=hG.2.2 j a hj;have:=hG.2.1 a (gj hj);exact⟨x,y,q1,q2,he a _ (gQ (ii lo.1 this)) (gQ (ii lo.2.2.1 this)) (gQ (ii lo.2.2.2.1 this)) (gQ (ii lo.2.2.2.2 this)) q3⟩
 |succ k ih=>
  intro i h tk c acc as hk hi st kp hS hacc hal hG;have lt:i<xs.size:=by omega
  have hx:xs[i]?=some xs[i]:=nX lt;have hy:ys[i]?=some (ys[i]'(by omega)):=nX (by omega);have hSl:S<h.objs.size:=fN hS;have asz:acc.size=i:=by rw[<- im,hacc,fF,hal]
  have lz:z<h.objs.size/\i1<h.objs.size/\i2<h.objs.size:=⟨ii lo.1 hSl,ii lo.2.2.2.1 hSl,ii lo.2.2.2.2 hSl⟩;refine iD PySem.F.entry_extend_loop ?_;rw[iX mI _]
  show wpAny _ A.in1 (pyNext (.ref z) >>= _) _ _ _
  refine fD (ZSt.item (s:={ s with heap:=h,toks:=tk }) D st hSl lz hx hy fun h' st' ht hz kk=>?_);dsimp only at ht hz kk ⊢;have hS':=kk S _ far.z.symm far.to.symm far.i1.symm far.i2.symm hS;have up:∀b o,b≠S->h'.get? b=some o->(h'.update S (Obj.mapSeq (·.push (Value.ref h.objs.size)))).get? b=some o:=fun b o m e=>(iu _ _ (fT m)).trans e
  show wpAny _ A.in1 (updateSeq S (·.push (Value.ref h.objs.size)) >>= _) _ _ _
  refine fD (lJ hS' rfl (fI ⟨iY mI _,ih (i+1) _ tk _ (acc.push (Value.ref h.objs.size)) (as++[h.objs.size]) (by omega) lt (st'.keep far up) (fun b o m0 m1 m2 m3 m4 e=>up b o m0 (kk b o m1 m2 m3 m4 (kp b o m0 m1 m2 m3 m4 e))) (iI _ hS' rfl) (by rw[nG,hacc,gb];rfl) (by rw[fK,hal];rfl) ⟨?_,?_,?_⟩⟩) (by rw[asz];omega) (by show(acc.push (Value.ref h.objs.size)).size<=sizeLine+1;rw[Array.size_push,asz];omega))
  ·refine List.pairwise_append.mpr ⟨hG.1,List.pairwise_singleton _ _,fun a ha b hb=>?_⟩;rw[fW.mp hb];obtain⟨j,hj⟩:=mJ.mp ha;obtain⟨_,_,_,_,q⟩:=hG.2.2 j a hj;exact fN q
  ·intro a ha;rcases fR.mp ha with ha|ha
   ·exact hG.2.1 a ha
   ·rw[fW.mp ha];exact hSl
  ·intro j b hj
   by_cases c1:j<as.length
   ·rw[gm c1] at hj;obtain⟨x,y,q1,q2,q3⟩:=hG.2.2 j b hj;have hb:=hG.2.1 b (gj hj);exact⟨x,y,q1,q2,up b _ (gQ hb) (kk b _ (gQ (ii lo.1 hb)) (gQ (ii lo.2.2.1 hb)) (gQ (ii lo.2.2.2.1 hb)) (gQ (ii lo.2.2.2.2 hb)) q3)⟩
   ·have hj':=(fO.mp hj).1;rw[fK,gG] at hj';have ej:j=i:=by omega
    subst ej;rw[gy (by omega),hal,g0] at hj;cases hj;exact⟨_,_,hx,hy,up _ _ (gQ hSl) ht⟩
section
variable{z TI TO:Addr}{xs:Array Value}
def zl_extend(hh:A.handled=none)(D:ZipApart z TI TO i1 i2 l1 l2)(far:ZFar z TI TO i1 i2 l1 l2 S)(lo:z<=S/\TI<=S/\TO<=S/\i1<=S/\i2<=S)(hl:ys.size=xs.size)(hn:xs.size<=sizeLine)(hz:IsZip s.heap z TI TO .none)(st:ZSt s.heap z TI TO i1 i2 l1 l2 S xs ys 0)(res:Value)(c₀:Nat)(hS:s.heap.get? S=some { cls:=.type "list",data:=.seq #[] c₀ })
  (hR:∀h' tk acc c as,(∀b o,b≠S->b≠z->b≠TO->b≠i1->b≠i2->s.heap.get? b=some o->h'.get? b=some o)->h'.get? S=some { cls:=.type "list",dict:=none,data:=.seq acc c,slots:=#[] }->as.length=xs.size->ZG h' S xs ys as->acc.toList=as.map Value.ref->R (.ok (.ret res)) { s with heap:=h',toks:=tk }) :
  wpAny (model P w) A.in1 (Builtin.List.listExtendWith (.ref S) (.ref z) res) (fun fin s'=>match fin with|.done f=>R (.ok f) s'|.again c'=>c'.quiet=true/\codeAny (model P w) A c' R s') (fun e s'=>R (.error e) s') s:=by
 have run:∀(h:Heap) (c₁ tk:Nat),(∀b o,b≠S->s.heap.get? b=some o->h.get? b=some o)->h.get? S=some { cls:=.type "list",data:=.seq #[] c₁ }->codeAny (model P w) A (.builtin "list.extend.loop" ⟨[.ref S,.ref z,res],[]⟩) R { s with heap:=h,toks:=tk }:=fun h c₁ tk kp hS₁=>
  zl_loop (s:=s) (h₁:=s.heap) hh D far lo hl hn res hR xs.size 0 h tk c₁ #[] [] (Nat.sub_zero _) (gB _) (st.keep far kp) (fun b o m0 _ _ _ _ e=>kp b o m0 e) hS₁ rfl rfl ⟨List.Pairwise.nil,(fun _ ha=>nomatch ha),(fun j a hj=>by simp at hj)⟩
 unfold Builtin.List.listExtendWith;refine fD (wpAny_typeOf (T := "zip") ⟨_,hz,rfl⟩ ?_);have q1:Builtin.List.listSameRef (.ref S) (.ref z)=false:=by simp[Builtin.List.listSameRef,far.z.symm]
 have q2:(Value.type "zip" == Value.type "list")=false:=by decide
 have q3:(Value.type "zip" == Value.type "tuple")=false:=by decide
 simp only[q1,q2,q3,Bool.or_false,hV,gU];refine fD (wpAny_pyIter_zip hz ?_);refine fD (hU (zip_hint ⟨_,hz,rfl⟩ ?_));refine wpAny_ite_split (fun _=>?_) (fun _=>fI ⟨iY mI _,run _ c₀ _ (fun b o _ e=>e) hS⟩);refine fD (l3 (fD ?_))
 show wpAny _ _ (updateSeq S (·.push .none) >>= fun _=>updateSeq S (·.pop)) _ _ s
 refine fD (lJ hS rfl ?_);have e2:=iI (Obj.mapSeq (·.push Value.none)) hS rfl;refine lJ (hz:=by seq_fits) e2 rfl (fI ⟨iY mI _,run _ _ _ (fun b o m e=>?_) (iI (Obj.mapSeq (·.pop)) e2 rfl)⟩);exact(iu _ _ (fT m)).trans ((iu _ _ (fT m)).trans e)
def zl_call(hh:A.handled=none)(D:ZipApart z TI TO i1 i2 l1 l2)(lt:z<s.heap.objs.size/\TI<s.heap.objs.size/\TO<s.heap.objs.size/\i1<s.heap.objs.size/\i2<s.heap.objs.size/\l1<s.heap.objs.size/\l2<s.heap.objs.size)(hl:ys.size=xs.size)(hn:xs.size<=sizeLine)
  (hz:IsZip s.heap z TI TO .none) (hTI:IsPair s.heap TI (.ref i1) (.ref i2)) {v:Value} (hTO:IsPair s.heap TO u v) (h1:s.heap.IsListIter i1 l1 0) (h2:s.heap.IsListIter i2 l2 0) (hl1:s.heap.IsList l1 xs) (hl2:s.heap.IsList l2 ys)
  (hQ:∀h' tk acc c as,(∀b o,b≠z->b≠TO->b≠i1->b≠i2->s.heap.get? b=some o->h'.get? b=some o)->h'.get? s.heap.objs.size=some { cls:=.type "list",dict:=none,data:=.seq acc c,slots:=#[] }->as.length=xs.size->ZG h' s.heap.objs.size xs ys as->acc.toList=as.map Value.ref->Q (.ref s.heap.objs.size) { s with heap:=h',toks:=tk }) :
  wpAny (model P w) A (call (.type "list") [.ref z]) Q E s:=by
 refine callType_codes (Q₁:=fun obj s₁=>obj=.ref s.heap.objs.size/\s₁={ s with heap:=s.heap.push { cls:=.type "list",data:=.seq #[] } }) PySem.F.called_list (PySem.F.typeCall_list_1 _) PySem.F.entry_list_init (code_list_new _ ⟨rfl,rfl⟩) fun obj s₁ q₁=>?_;obtain⟨rfl,rfl⟩:=q₁;obtain⟨a1,a2,a3,a4,a5,a6,a7⟩:=lt;have hS:(s.heap.push { cls:=.type "list",data:=.seq #[] }).get? s.heap.objs.size=some { cls:=.type "list",data:=.seq #[] }:=ge _ rfl;have far:ZFar z TI TO i1 i2 l1 l2 s.heap.objs.size:=⟨fP a1,fP a2,fP a3,fP a4,fP a5,fP a6,fP a7⟩;have st0:ZSt s.heap z TI TO i1 i2 l1 l2 s.heap.objs.size xs ys 0:=⟨.inl ⟨rfl,hz,u,v,hTO⟩,hTI,h1,h2,hl1,hl2⟩;refine⟨⟨_,hS,rfl⟩,PySem.F.args_list_init_2 _ _,?_⟩
 show wpAny _ _ (do let old <- Builtin.List.listItems (.ref s.heap.objs.size);Builtin.List.listUpdate (.ref s.heap.objs.size) (fun _=>#[]);letGo old.toList.reverse;Builtin.List.listExtendWith (.ref s.heap.objs.size) (.ref z) .none) _ _ _
 refine fD ?_;unfold Builtin.List.listItems;refine fD (mC hS rfl (fI ?_))
 show wpAny _ _ (updateSeq s.heap.objs.size (fun _=>#[]) >>= fun _=>letGo (#[]:Array Value).toList.reverse >>= fun _=>Builtin.List.listExtendWith (.ref s.heap.objs.size) (.ref z) .none) _ _ _
 refine fD (lJ hS rfl ?_);have e2:=iI (Obj.mapSeq (fun _=>(#[]:Array Value))) hS rfl;have kp:∀b o,b≠s.heap.objs.size->s.heap.get? b=some o->((s.heap.push { cls:=.type "list",data:=.seq #[] }).update s.heap.objs.size (Obj.mapSeq (fun _=>(#[]:Array Value)))).get? b=some o:=fun b o m e=>(iu _ _ (fT m)).trans (fM _ e);refine fD (wpAny_letGo (zl_extend (A:=A.in1) hh D far ⟨ip a1,ip a2,ip a3,ip a4,ip a5⟩ hl hn (kp _ _ far.z hz) (st0.keep far kp) .none _ e2 fun h' tk acc c as hk hS' ha hG hacc=>⟨rfl,hQ h' tk acc c as (fun b o m1 m2 m3 m4 e=>?_) hS' ha hG hacc⟩));have lb:=fP (fN e);exact hk b o lb m1 m2 m3 m4 (kp b o lb e)
end
def both(H N:Hp):Hp:=fun b=>if(N b).isSome=true then N b else H b
def yZ{N:Hp}{b:Addr}(h:N b=some o):both H N b=some o:=by unfold both;rw[h];rfl
def zr{N:Hp}{b:Addr}(h:N b=none):both H N b=H b:=by unfold both;rw[h];rfl
section
variable{U:L3.St}{N:Hp}
def Inv.turnedLaids(I:L2.Inv X db U H s)(k:∀b u,b∉ch->s.heap.get? b=some u->h'.get? b=some u)(hf:∀b∈ch,Vz X db H b)(hN:∀b o,N b=some o->s.heap.objs.size<=b)
  (new:∀b o,N b=some o->Yw X.prog X.w (both H N) h' b o):L2.Inv X db U (both H N) { s with heap:=h',toks:=t' }:=by
 have fr:∀{b:Addr}{u:HO},H b=some u->both H N b=some u:=fun {b u} e=>by
  rw[zr];exact e;cases q:N b with
  |none=>rfl
  |some o=>rw[I.hok.fresh (hN b o q)] at e;cases e
 have old:∀{b:Addr}{u:Obj},s.heap.get? b=some u->N b=none:=fun {b u} e=>by
  cases q:N b with
  |none=>rfl
  |some o=>exact absurd (gA (fN e) (hN b o q)) (iy _)
 refine I.step (g':=s.gens) (d':=s.drawn) (ch:=ch) (fun b hb=>?_) (fun b u _ _ hc e _=>k b u hc e) (fun b u _ _ hc e _=>⟨u.slots,k b u hc e⟩) (fun b u _ e n=>by rw[zr (old e)];exact n) (fun b u hc e=>⟨u,k b u hc e⟩) (fun b xs e=>fr e) (fun b u xs e=>fr e) (fun b ps e=>⟨#[],by rw[fr e];simp⟩) (fun m hm=>?_) (fun b u e=>?_) I.bare
 ·obtain⟨f0,f1,f2,f3,f4,f5⟩:=hf b hb;exact⟨f3,f1,f4,f5⟩
 ·obtain⟨ob,es,ep,ho,r⟩:=hm;exact⟨ob,es,ep,k _ ob (fun z=>(hf _ z).2.1 rfl) ho,r⟩
 ·cases q:N b with
  |some o=>
   rw[yZ q] at e;cases e;exact new b _ q
  |none=>
   rw[zr q] at e;have nch:∀c v,H c=some v->c∉ch:=fun c v q z=>by rw[(hf c z).1] at q;cases q
   refine(I.hok b u e).stay (fun c v hc q=>k c v ?_ q) (fun c q=>fr q) fun c xs q=>fr q;rcases hc with rfl|hc
   ·exact nch _ _ e
   ·exact nch _ _ hc
end
def JU{α:Type}:∀{as:List Addr}{l:List α}{a:Addr}{q:α},as.Nodup->(a,q)∈as.zip l->(as.zip l).lookup a=some q
 |[],_,_,_,_,h=>by simp at h
 |_::_,[],_,_,_,h=>by simp at h
 |b::as,x::l,a,q,nd,h=>by
  rw[iC] at nd;rw[List.zip_cons_cons,fQ] at h;rw[List.zip_cons_cons,gC];rcases h with h|h
  ·cases h;simp
  ·have ma:a∈as:=(lA h).1;have ne:¬a=b:=fun e=>nd.1 (e▸ma);have:(a==b)=false:=by simpa using ne
   rw[this];exact JU nd.2 h
def Jr{α:Type}:∀{l:List (Addr×α)}{a:Addr}{q:α},l.lookup a=some q->(a,q)∈l
 |[],_,_,h=>by cases h
 | (b,x)::l,a,q,h=>by
  rw[gC] at h
  by_cases e:a=b
  ·subst e;simp at h;rw[h];exact iz
  ·have:(a==b)=false:=by simpa using e
   rw[this] at h;exact gf _ (Jr h)
def jk:∀as:List Addr,ZK (as.map V.ref) (as.map Value.ref)
 |[]=>.nil
 |a::r=>.cons rfl (jk r)
inductive LZR(K:W.Frag)(vs:List V)(H:Hp)(Q:VK):Prop
 |mk (a b:Addr) (xs ys:List V) (h0:vs=[.ref a,.ref b]) (h1:SqL K H a xs) (h2:SqL K H b ys) (h3:ys.length=xs.length)
   (h4:∀H' L (zs:List (V×(V×V))),Ze H H'->H L=none->H' L=some (.lst (zs.map Prod.fst))->zs.map Prod.snd=xs.zip ys->(∀x∈zs,∃q,x.1=.ref q/\H' q=some (.tup [x.2.1,x.2.2]))->Q (.ref L) H'):LZR K vs H Q
def tListZip(K:W.Frag)(ta:TA):TE:=fun U H Q=>ta U H fun vs H1=>LZR K vs H1 Q
def Ku{a b:Expr}{p:Pos}(hK:X.K=K)(hc:X.calm=true)(hg:Gl X "list")(hm:X.mg "list" = none)(hg2:Gl X "zip")(hm2:X.mg "zip" = none)(ha:PA X [a,b] ta)
  (hs:starEach [a,b] X.env=[(false,eval a X.env),(false,eval b X.env)]:=by rfl) (hs2:starEach [b] X.env=[(false,eval b X.env)]:=by rfl) (hs3:starEach [.Call (.Name "zip" p2) [a,b] [] pos2] X.env=[(false,eval (.Call (.Name "zip" p2) [a,b] [] pos2) X.env)]:=by rfl) :
  PE X (.Call (.Name "list" p) [.Call (.Name "zip" p2) [a,b] [] pos2] [] pos) (tListZip K ta):=by
 subst hK;intro db s U H Q I h;refine iW (VY I hg hm oq ?_);refine mo ?_ (by rw[hs3];rfl) rfl;rw[hs3]
 show wpAny _ _ (spliced ((false,eval (.Call (.Name "zip" p2) [a,b] [] pos2) X.env)::backTo pos (starEach [] X.env))) _ _ s
 refine Calls.spliced_cons (iW (VY I hg2 hm2 PyProof.Rows.boot_zip (mo (thn (ha pos2 db s U H _ I h) fun us s1 ⟨vs,H1,I1,r1,q1⟩=>?_) (by rw[hs,hs2]) (by rw[hs2];rfl))));obtain⟨l1,l2,xs,ys,rfl,hq1,hq2,hl,q⟩:=q1;obtain⟨u,v,rfl,ru,rv⟩:=vals2 r1;obtain rfl:u=Value.ref l1:=ru;obtain rfl:v=Value.ref l2:=rv;obtain⟨its1,rv1,p1,hz1⟩:=I1.list hq1;obtain⟨its2,rv2,p2',hz2⟩:=I1.list hq2;have lt1:l1<s1.heap.objs.size:=by obtain⟨_,e,_⟩:=p1.isList;exact fN e
 have lt2:l2<s1.heap.objs.size:=by obtain⟨_,e,_⟩:=p2'.isList;exact fN e
 refine call_zip_2 p1.isList p2'.isList fun h' a1 a2 a3 a4 a5 a6 a7=>?_;refine Calls.spliced_nil (zl_call (s:={ s1 with heap:=h' }) (xs:=its1.toArray) (ys:=its2.toArray) (I1.ok.hd hc) (apart_of _ _ _ lt1 lt2) ⟨?_,?_,?_,?_,?_,?_,?_⟩ ?_ ?_ a1 a2 a3 a4 a5 (p1.isList.at fun o e=>a7 _ _ e) (p2'.isList.at fun o e=>a7 _ _ e) fun g tk acc c as kp gL la hG hacc=>?_)
 iterate 5 (show _<h'.objs.size;rw[a6];first|exact Nat.lt_add_of_pos_right (by decide)|exact Nat.add_lt_add_left (by decide) _)
 ·show l1<h'.objs.size;rw[a6];exact gA lt1 (mf _ _)
 ·show l2<h'.objs.size;rw[a6];exact gA lt2 (mf _ _)
 ·rw[fV,fV,<- rv1.length,<- rv2.length];exact hl
 ·rw[fV,<- rv1.length];exact hz1
 have kp1:∀b o,s1.heap.get? b=some o->g.get? b=some o:=fun b o e=>by
  have lb:=fN e;exact kp b o (fP (gA lb (mf _ _))) (fP (gA lb (mf _ _))) (fP lb) (fP (gA lb (mf _ _))) (a7 b o e)
 have lax:as.length=xs.length:=by rw[la,fV,rv1.length]
 have nd:as.Nodup:=hG.1.imp fun {x y} q=>fP q;have lo:∀x∈as,h'.objs.size<x:=hG.2.1;have zl:(xs.zip ys).length=as.length:=by rw[iJ];omega
 generalize hNd:(fun b=>if b=h'.objs.size then some (HO.lst (as.map V.ref)) else((as.zip (xs.zip ys)).lookup b).map fun q=>HO.tup [q.1,q.2]:Hp)=N;have Nl:N h'.objs.size=some (.lst (as.map V.ref)):=by rw[<- hNd];exact if_pos rfl
 have Np:∀x q,(x,q)∈as.zip (xs.zip ys)->N x=some (.tup [q.1,q.2]):=fun x q m=>by
  rw[<- hNd];have lx:=lo x (lA m).1
  show(if x=h'.objs.size then _ else _)=_
  rw[if_neg (gQ lx),JU nd m];rfl
 have Nc:∀b o,N b=some o->(b=h'.objs.size/\o=.lst (as.map V.ref))\/∃q,(b,q)∈as.zip (xs.zip ys)/\o=.tup [q.1,q.2]:=fun b o e=>by
  rw[<- hNd] at e
  change (if b=h'.objs.size then _ else _)=_ at e
  by_cases cb:b=h'.objs.size
  ·rw[if_pos cb] at e;exact .inl ⟨cb,(fY e).symm⟩
  ·rw[if_neg cb] at e;cases ql:(as.zip (xs.zip ys)).lookup b with
   |none=>rw[ql] at e;cases e
   |some q=>
    rw[ql] at e;exact .inr ⟨q,Jr ql,(fY e).symm⟩
 clear hNd;have szl:s1.heap.objs.size<=h'.objs.size:=by rw[a6];exact mf _ _
 have Inew:L2.Inv X db U (both H1 N) { s1 with heap:=g,toks:=tk }:=by
  refine Inv.turnedLaids (ch:=[]) I1 (fun b u _ e=>kp1 b u e) (fun b hb=>by cases hb) (fun b o e=>?_) (fun b o e=>?_)
  ·rcases Nc b o e with⟨rfl,_⟩|⟨q,m,_⟩
   ·exact szl
   ·exact fU szl (ip (lo b (lA m).1))
  ·rcases Nc b o e with⟨rfl,rfl⟩|⟨q,m,rfl⟩
   ·refine⟨by rw[fF,lax,rv1.length];rw[<- rv1.length];exact hz1,as.map Value.ref,c,?_,?_⟩
    ·exact jk as
    ·rw[<- hacc,Array.toArray_toList];exact gL
   ·obtain⟨j,hj,ej⟩:=gI m;rw[iJ] at hj;rw[m7,m7] at ej;have eb:as[j]'(by omega)=b:=fS Prod.fst ej;have eq:(xs[j]'(by omega),ys[j]'(by omega))=q:=fS Prod.snd ej;obtain⟨x,y,g1,g2,g3⟩:=hG.2.2 j b (by rw[<- eb];exact fG _);obtain⟨u1,hu1,ru1⟩:=rv1.get (fG (show j<xs.length by omega));obtain⟨u2,hu2,ru2⟩:=rv2.get (fG (show j<ys.length by omega));have e1:x=u1:=by
     have:its1[j]?=some x:=by simpa using g1
     rw[hu1] at this;exact(fY this).symm
    have e2:y=u2:=by
     have:its2[j]?=some y:=by simpa using g2
     rw[hu2] at this;exact(fY this).symm
    subst e1;subst e2;rw[<- eq];exact⟨by show 2<=sizeLine;decide,[x,y],.cons ru1 (.cons ru2 .nil),⟨_,g3,rfl,_,rfl⟩⟩
 have sm:Ze H1 (both H1 N):=fun b o e=>by
  rw[zr];exact e;cases qn:N b with
  |none=>rfl
  |some o'=>
   have:s1.heap.objs.size<=b:=by
    rcases Nc b o' qn with⟨rfl,_⟩|⟨q,m,_⟩
    ·exact szl
    ·exact fU szl (ip (lo b (lA m).1))
   rw[I1.hok.fresh this] at e;cases e
 refine⟨.ref h'.objs.size,both H1 N,Inew,rfl,q (both H1 N) h'.objs.size ((as.map V.ref).zip (xs.zip ys)) sm (I1.hok.fresh szl) ?_ ?_ fun x hx=>?_⟩
 ·rw[yZ Nl,List.map_fst_zip (by rw[fF];omega)]
 ·rw[List.map_snd_zip (by rw[fF];omega)]
 ·obtain⟨j,hj,ej⟩:=gI hx;rw[iJ,fF] at hj;rw[m7,iK] at ej;have e1:V.ref (as[j]'(by omega))=x.1:=fS Prod.fst ej;have e2:(xs.zip ys)[j]'(by omega)=x.2:=fS Prod.snd ej;refine⟨as[j]'(by omega),e1.symm,yZ (Np _ _ ?_)⟩;have:(as[j]'(by omega),(xs.zip ys)[j]'(by omega))∈as.zip (xs.zip ys):=by
   have:=fX (l:=as.zip (xs.zip ys)) (n:=j) (by rw[iJ];omega);rw[m7] at this;exact this
  rw[e2] at this;exact this
def sz1:1<=sizeLine:=by rw[fJ];decide
def sz2:2<=sizeLine:=by rw[fJ];decide
def sz3:3<=sizeLine:=by rw[fJ];decide
def sz4l:4<sizeLine:=by rw[fJ];decide
def sz4:4<=sizeLine:=by rw[fJ];decide
end L3
namespace L3
open PySem PySem.Spec L2
def pa_n1{X:Cx}{e:Expr}{te:TE}(ha:PE X e te)(hs:starEach [e] X.env=(false,eval e X.env)::starEach [] X.env):PA X [e] (tCons te tNil):=Za ha Zb hs
end L3
namespace KK
open PySem PySem.Spec L2 L3
def top(i:Nat):Stmt:=PySem.Challenge.pw_timecourt_k21_read_along.main.body.getD i (.Pass ⟨0,0,0,0⟩)
def df:List Str:=["lines","size"]
def dg:List Str:=["thing"]
def dh:List Str:=["self"]
def di:List Str:=["thing","many"]
def dj:List Str:=["_law_so"]
def dk:List Str:=["sentence"]
def dm:List Str:=["self","room"]
def dn:List Str:=["_law_core_here"]
def dq:List Str:=["_law_room","_law_here"]
def dt:List Str:=["_law_k","_law_one","_law_other"]
def dv:List Str:=["_law_part","_law_here","_law_rooms"]
def dy:List Str:=["one","other"]
def dz:List Str:=["some","rooms","table"]
def dA:List Str:=["_law_room","_law_names_here","_law_world_here"]
def dB:List Str:=["_law_part","_law_rooms"]
def dC:List Str:=["things","many"]
def dD:List Str:=["sentence","inner"]
def dE:List Str:=["self","part","row"]
def dG:List Str:=["self","core"]
def dJ:List Str:=["self","number"]
def dM:List Str:=["signs","ways","starts","fair"]
def dN:List Str:=["self","signs","ways","starts","fair"]
def dQ:List Str:=["line","length","size"]
def dU:List Str:=["line","size"]
def dX:List Str:=["lines","size","more"]
def dY:List Str:=["rows","run","many"]
def dZ:List Str:=["world","row","rooms"]
def ef:List Str:=["world","table","number","told"]
def eg:List Str:=["table","sets"]
def eh:List Str:=["world","core","sets"]
def eG:List Str:=["world","run","core","sets","many"]
def eI:List Str:=["world","run","core","sets"]
def eJ:List Str:=["_law_state_here","_law_base"]
def eM:List Str:=["_law_script","_law_k"]
def eN:List Str:=["_law_one","_law_other","_law_place"]
def eO:List Str:=["_law_one","_law_other","_law_at"]
def eQ:List Str:=["_law_pairs","_law_thing"]
def eT:List Str:=["_law_state_here"]
def eV:List Str:=["_law_state_here","_law_names_here"]
def eX:List Str:=["_law_state_here","_law_world_here"]
def eY:List Str:=["_law_world_here","_law_sets_here","_law_rooms","_law_rows","_law_part","_law_at"]
def fb:List Str:=["_law_world_here","_law_run_here","_law_core_here","_law_sets_here","_law_many"]
def fc:List Str:=["_law_state_here","_law_core_here","_law_many"]
def fe:List Str:=["_law_world_here","_law_names_here","_law_run_here","_law_core_here","_law_sets_here"]
def fg:List Str:=["_law_script"]
def fh:List Str:=["_law_part","_law_found"]
def fi:List Str:=["_law_name","_law_state_here"]
def fj:List Str:=["_law_k","_law_state_here","_law_many"]
def fq:List Str:=["_law_k","_law_rooms","_law_end"]
def ft:List Str:=["_law_room","_law_part","_law_world_here"]
def fu:List Str:=["_law_room","_law_state_here"]
def fw:List Str:=["_law_name","_law_room","_law_world_here"]
def fz:List Str:=["_law_room","_law_world_here"]
def fC:List Str:=["_law_state_here","_law_names_here","_law_deep"]
abbrev qt:Stmt:=top 4
abbrev UY:Stmt:=top 5
abbrev zV:Stmt:=top 6
abbrev Vr:Stmt:=top 7
abbrev Vn:Stmt:=top 8
abbrev UL:Stmt:=top 9
abbrev UD:Stmt:=top 17
abbrev qo:Stmt:=top 18
abbrev Vy:Stmt:=top 19
abbrev qu:Stmt:=top 21
abbrev VW:Stmt:=Wp (top 22) 0
abbrev XT:Stmt:=Wp (top 22) 1
abbrev Wj:Stmt:=Wp (top 22) 2
abbrev YA:Stmt:=Wp (top 22) 3
abbrev kJ:Stmt:=top 23
abbrev cD:Stmt:=top 25
abbrev Ul:Stmt:=top 26
abbrev UB:Stmt:=top 27
abbrev Vl:Stmt:=top 28
abbrev Wt:Stmt:=top 29
abbrev Y5:Stmt:=top 30
abbrev Wv:Stmt:=top 31
abbrev zw:Stmt:=top 32
abbrev UP:Stmt:=top 33
abbrev X7:Stmt:=top 34
abbrev Ug:Stmt:=top 35
abbrev V8:Stmt:=top 36
abbrev UM:Stmt:=top 37
abbrev Uj:Stmt:=top 38
abbrev Vv:Stmt:=top 39
abbrev Uh:Stmt:=top 40
abbrev XW:Stmt:=Wp (top 45) 0
abbrev V0:Stmt:=Wp (top 45) 1
abbrev Wa:Stmt:=Wp (top 45) 2
abbrev WE:Stmt:=Wp (top 45) 3
abbrev Va:Stmt:=Wp (top 45) 4
abbrev XF:Stmt:=Wp (top 45) 5
abbrev Xs:Stmt:=top 46
abbrev X8:Stmt:=top 47
abbrev W9:Stmt:=top 49
abbrev Ue:Stmt:=top 50
abbrev Ui:Stmt:=top 51
abbrev Ub:Stmt:=top 52
abbrev XO:Stmt:=top 53
abbrev Vh:Stmt:=top 54
abbrev UJ:Stmt:=top 55
abbrev Uf:Stmt:=top 56
abbrev WM:Stmt:=top 57
abbrev W0:Stmt:=top 58
abbrev WT:Stmt:=top 59
abbrev zI:Stmt:=top 60
abbrev YU:Stmt:=top 61
abbrev WO:Stmt:=top 62
abbrev Yg:Stmt:=top 63
abbrev Wy:Stmt:=top 64
abbrev cE:Stmt:=top 65
def c8{N P:List Str}{S:Scope}(a:S.kind=.function:=by rfl)(b:S.isCoroutine=false:=by rfl)(c:S.isGenerator=false:=by rfl)(d:N.take P.length=P:=by rfl)(e:N.Nodup/\(∀x∈P,S.names.lookup x=some .local\/S.names.lookup x=some .cell)/\∀y∈S.names,y.2≠.free:=by decide +kernel):Zt N P S:=⟨a,b,c,e.1,d,e.2.1,e.2.2⟩
def kU:Zt ["thing"] dg (Zg qt):=c8
def Kr:Zt ["thing"] dg (Zg UY):=c8
def JZ:Zt ["thing","many"] di (Zg zV):=c8
def jE:Zt ["thing"] dg (Zg Vr):=c8
def jL:Zt ["thing","many"] di (Zg Vn):=c8
def Uk:Zt ["things","many","start","taken"] dC (Zg UL):=c8
def zf:Zt ["thing","word"] dg (Zg UD):=c8
def yn:Zt ["sentence","word"] dk (Zg qo):=c8
def X2:Zt ["sentence","found","waiting","one"] dk (Zg Vy):=c8
def yh:Zt ["sentence","inner","head"] dD (Zg qu):=c8
def vt:Zt ["self"] dh (Zg VW):=c8
def YT:Zt ["self","core","found","part","inner"] dG (Zg XT):=c8
def zd:Zt ["self","part","row"] dE (Zg Wj):=c8
def X6:List Str:=["self","number","found","seen","waiting","at","ahead"]
def Z6:Zt X6 dJ (Zg YA):=c8
def cL:Zt ["row"] ["row"] (Zg kJ):=c8
def cO:Zt ["world","run","core","sets"] eI (Zg cD):=c8
def vz:Zt ["world","run","core","sets","many"] eG (Zg Ul):=c8
def VV:Zt ["world","core","sets","table","number"] eh (Zg UB):=c8
def jO:Zt ["table","sets"] eg (Zg Vl):=c8
def qb:List Str:=["world","table","number","told","places","rows","inner","row"]
def Xm:Zt qb ef (Zg Wt):=c8
def xr:Zt ["world","row","rooms"] dZ (Zg Y5):=c8
def UR:List Str:=["rows","run","many","way","ring","size","lines","row","line","deed"]
def Yt:Zt UR dY (Zg Wv):=c8
def qF:Zt ["line","size","end"] dU (Zg zw):=c8
def zt:Zt ["line","length","size","longer"] dQ (Zg UP):=c8
def Vm:Zt ["lines","size","more","length"] dX (Zg X7):=c8
def k6:Zt ["lines","size"] df (Zg Ug):=c8
def kY:Zt ["lines","size"] df (Zg V8):=c8
def kg:Zt ["lines","size"] df (Zg UM):=c8
def Ye:Zt ["lines","size","pairs","later","first","second","line"] df (Zg Uj):=c8
def xb:Zt ["lines","size"] df (Zg Vv):=c8
def Xa:Zt ["lines","size","line","held","first","second"] df (Zg Uh):=c8
def V2:List Str:=["self","signs","ways","starts","fair"]
def xY:Zt V2 dN (Zg XW):=c8
def vB:Zt ["self"] dh (Zg V0):=c8
def qU:Zt ["self","room"] dm (Zg Wa):=c8
def zD:Zt ["self","room"] dm (Zg WE):=c8
def sc_World_begins:Zt ["self"] dh (Zg Va):=c8
def JW:Zt ["self"] dh (Zg XF):=c8
def Vx:List Str:=["signs","ways","starts","fair","many"]
def UQ:Zt Vx dM (Zg Xs):=c8
def qZ:Zt ["thing","many"] di (Zg X8):=c8
def yr:Zt ["_law_script","_law_k"] eM (Zg W9):=c8
def vb:Zt ["_law_cell"] ["_law_cell"] (Zg Ue):=c8
def Wo:Zt ["_law_state_here","_law_base","_law_found","_law_number"] eJ (Zg Ui):=c8
def Xu:Zt ["_law_state_here","_law_letters","_law_name","_law_k"] eT (Zg Ub):=c8
def Ua:List Str:=["_law_state_here","_law_names_here","_law_many","_law_signs","_law_ways","_law_room","_law_on"]
def Y9:Zt Ua eV (Zg XO):=c8
def qE:List Str:=["_law_state_here","_law_world_here","_law_rooms","_law_k","_law_on","_law_ends","_law_end","_law_begins","_law_begin"]
def YF:Zt qE eX (Zg Vh):=c8
def WK:Zt ["_law_state_here","_law_names_here","_law_deep","_law_fork","_law_one","_law_other"] fC (Zg UJ):=c8
def vn:Zt ["_law_core_here"] dn (Zg Uf):=c8
def qK:List Str:=["_law_core_here","_law_found","_law_one"]
def Wl:Zt qK dn (Zg WM):=c8
def Uu:Zt ["_law_one","_law_other","_law_place"] eN (Zg W0):=c8
def zk:List Str:=["_law_one","_law_other","_law_at","_law_found","_law_later","_law_turn","_law_k"]
def YK:Zt zk eO (Zg WT):=c8
def qp:Zt ["_law_pairs","_law_thing","_law_one","_law_told"] eQ (Zg zI):=c8
def XC:List Str:=["_law_world_here","_law_sets_here","_law_rooms","_law_rows","_law_part","_law_at","_law_word","_law_here","_law_one","_law_other","_law_places"]
def XM:Zt XC eY (Zg YU):=c8
def zb:List Str:=["_law_world_here","_law_run_here","_law_core_here","_law_sets_here","_law_many","_law_parts_here","_law_words","_law_rooms","_law_rows","_law_part"]
def Y7:Zt zb fb (Zg WO):=c8
def Xy:List Str:=["_law_world_here","_law_names_here","_law_run_here","_law_core_here","_law_sets_here","_law_rooms","_law_signs","_law_other","_law_rest","_law_many","_law_one","_law_told"]
def Yd:Zt Xy fe (Zg Yg):=c8
def Uz:List Str:=["_law_state_here","_law_core_here","_law_many","_law_sets_here","_law_part"]
def WJ:Zt Uz fc (Zg Wy):=c8
def cP:List Str:=["_law_script","_law_state_here","_law_names_here","_law_world_here","_law_run_here","_law_cell","_law_core_here","_law_sets_here","_law_many","_law_due","_law_handed","_law_found","_law_one","_law_other","_law_some"]
def Xi:Zt cP fg (Zg cE):=c8
structure Fg(K:W.Frag)(mg:Str->Option Value)(x:Str)(st:Stmt)(ps:List Str)(fa:Addr)(fd:FuncData):Prop where
 f:Fun K x x st fa fd
 n:VP K fd ps []
 g:mg x=some (.ref fa)
structure Mg(K:W.Frag)(C:Addr)(x q:Str)(st:Stmt)(ps:List Str)(fa:Addr)(fd:FuncData):Prop where
 f:Fun K x q st fa fd
 n:VP K fd ps []
 m:Meth K C x fa
def okF{x:Str}{st:Stmt}{f:Addr}{ps:List Str}{k:Nat}(F:Fun K x qual st f fd)(S:Zt N ps (Zg st))
  (hbody:∀(de:Value) (A:Around) (outer:List Env) (s:Shared) (H:Hp) (vs:List V) (Q:VK) (E:XK),Yq k (A.deeper (PyProof.Rows.envOfC qual (Zg st) s.heap.objs.size f de))->sp vs H Q E ->
   ∃t,PSs (cxOf CX0 P w K mg base N qual (Zg st) f de A outer s H E).nox (XX st) t/\t { nx:=fun _ H'=>Q .non H',rt:=Q } (qT N vs) H)
  (len:∀vs H Q E,sp vs H Q E->vs.length=ps.length:=by intro _ _ _ _ h;repeat (first|(obtain⟨rfl,_⟩:=h;rfl)|obtain⟨_,h⟩:=h)):V9 P w K mg base CX0 (k+1) f fd ps sp:=F.ok S len hbody
def rmL{k:Nat}(r:Yq k A)(h:Nat.ble j k=true):Yq j A:=r.mono (Nat.le_of_ble_eq_true h)
def ZA{k:Nat}{f:Addr}{ps:List Str}{x:Str}{st:Stmt}{p:Pos}{es:List Expr}{t:TA}(g:Fg X.K X.mg x st ps f fd)(F:V9 X.prog X.w X.K X.mg X.base CX0 j f fd ps sp)(hr:Yq k X.A)(le:Nat.ble j k=true)(hg:Gl X x)(ha:PA X (e::es) t)(hdb:(x==("__debug__" : Str))=false:=by decide)(he:starEach (e::es) X.env=(false,eval e X.env)::starEach es X.env:=by rfl)(hpl:(backTo pos (starEach es X.env)).any (·.1)=false:=by rfl):PE X (.Call (.Name x p) (e::es) [] pos) (tCall sp [] E0 t):=XQ F (rmL hr le) hg g.g g.f.kp g.n .nil Yy ha hdb he hpl
set_option genInjectivity false
structure Adr where
 y0:Addr
 z0:FuncData
 y1:Addr
 z1:FuncData
 y2:Addr
 z2:FuncData
 y3:Addr
 z3:FuncData
 y4:Addr
 z4:FuncData
 y5:Addr
 z5:FuncData
 y6:Addr
 z6:FuncData
 y7:Addr
 z7:FuncData
 y8:Addr
 z8:FuncData
 y9:Addr
 z9:FuncData
 y10:Addr
 z10:FuncData
 y11:Addr
 z11:FuncData
 y12:Addr
 z12:FuncData
 y13:Addr
 z13:FuncData
 y14:Addr
 z14:FuncData
 y15:Addr
 z15:FuncData
 y16:Addr
 z16:FuncData
 y17:Addr
 z17:FuncData
 y18:Addr
 z18:FuncData
 y19:Addr
 z19:FuncData
 y20:Addr
 z20:FuncData
 y21:Addr
 z21:FuncData
 y22:Addr
 z22:FuncData
 y23:Addr
 z23:FuncData
 y24:Addr
 z24:FuncData
 y25:Addr
 z25:FuncData
 y26:Addr
 z26:FuncData
 y27:Addr
 z27:FuncData
 y28:Addr
 z28:FuncData
 y29:Addr
 z29:FuncData
 y30:Addr
 z30:FuncData
 y31:Addr
 z31:FuncData
 y32:Addr
 z32:FuncData
 y33:Addr
 z33:FuncData
 y34:Addr
 z34:FuncData
 y35:Addr
 z35:FuncData
 y36:Addr
 z36:FuncData
 y37:Addr
 z37:FuncData
 y38:Addr
 z38:FuncData
 y39:Addr
 z39:FuncData
 y40:Addr
 z40:FuncData
 y41:Addr
 z41:FuncData
 y42:Addr
 z42:FuncData
 y43:Addr
 z43:FuncData
 y44:Addr
 z44:FuncData
 y45:Addr
 z45:FuncData
 y46:Addr
 z46:FuncData
 y47:Addr
 z47:FuncData
 y48:Addr
 z48:FuncData
 y49:Addr
 z49:FuncData
 y50:Addr
 z50:FuncData
 y51:Addr
 z51:FuncData
 y52:Addr
 z52:FuncData
 y53:Addr
 z53:FuncData
 y54:Addr
 z54:FuncData
 y55:Addr
 z55:FuncData
 C_TimeError:Addr
 C_BadWorld:Addr
 C_BadSentence:Addr
 C_Table:Addr
 C_World:Addr
 D_LENGTHS:Addr
 D_LINES:Addr
 Pm:Params
structure Txt(K:W.Frag)(mg:Str->Option Value)(a:Adr):Prop where
 bz:Fg K mg "is_whole" qt dg a.y0 a.z0
 bM:Fg K mg "is_name" UY dg a.y1 a.z1
 bV:Fg K mg "is_room" zV di a.y2 a.z2
 bj:Fg K mg "are_names" Vr dg a.y3 a.z3
 bE:Fg K mg "are_rooms" Vn di a.y4 a.z4
 bF:Fg K mg "last_ones" UL dC a.y5 a.z5
 bG:Fg K mg "is_formed" UD dg a.y6 a.z6
 bA:Fg K mg "inner_of" qo dk a.y7 a.z7
 bm:Fg K mg "inner_ahead" Vy dk a.y8 a.z8
 bQ:Fg K mg "row_with" qu dD a.y9 a.z9
 bu:Mg K a.C_Table "__init__" "Table.__init__" VW dh a.y10 a.z10
 al:Mg K a.C_Table "number_of" "Table.number_of" XT dG a.y11 a.z11
 aH:Mg K a.C_Table "taken_in" "Table.taken_in" Wj dE a.y12 a.z12
 aq:Mg K a.C_Table "inner_numbers" "Table.inner_numbers" YA dJ a.y13 a.z13
 ck:Fg K mg "below" kJ ["row"] a.y14 a.z14
 cF:Fg K mg "read" cD eI a.y15 a.z15
 az:Fg K mg "read_along" Ul eG a.y16 a.z16
 bH:Fg K mg "ground_of" UB eh a.y17 a.z17
 bJ:Fg K mg "told_sets" Vl eg a.y18 a.z18
 bn:Fg K mg "ground_rows" Wt ef a.y19 a.z19
 bo:Fg K mg "room_truths" Y5 dZ a.y20 a.z20
 bK:Fg K mg "read_rows" Wv dY a.y21 a.z21
 bW:Fg K mg "trimmed" zw dU a.y22 a.z22
 aO:Fg K mg "stretched" UP dQ a.y23 a.z23
 aB:Fg K mg "stretched_both" X7 dX a.y24 a.z24
 bB:Fg K mg "not_line" Ug df a.y25 a.z25
 bC:Fg K mg "and_line" V8 df a.y26 a.z26
 bq:Fg K mg "next_line" UM df a.y27 a.z27
 aZ:Fg K mg "until_line" Uj df a.y28 a.z28
 aV:Fg K mg "before_line" Vv df a.y29 a.z29
 a8:Fg K mg "since_line" Uh df a.y30 a.z30
 a9:Mg K a.C_World "__init__" "World.__init__" XW dN a.y31 a.z31
 ab:Mg K a.C_World "many" "World.many" V0 dh a.y32 a.z32
 ag:Mg K a.C_World "signs_of" "World.signs_of" Wa dm a.y33 a.z33
 ah:Mg K a.C_World "ways_on" "World.ways_on" WE dm a.y34 a.z34
 bZ:Mg K a.C_World "begins" "World.begins" Va dh a.y35 a.z35
 bN:Mg K a.C_World "fair_signs" "World.fair_signs" XF dh a.y36 a.z36
 br:Fg K mg "makes_world" Xs dM a.y37 a.z37
 aI:Fg K mg "are_some_rooms" X8 di a.y38 a.z38
 ak:Fg K mg "_law_cell_at" W9 eM a.y39 a.z39
 aQ:Fg K mg "_law_state" Ue ["_law_cell"] a.y40 a.z40
 aa:Fg K mg "_law_digit" Ui eJ a.y41 a.z41
 bv:Fg K mg "_law_names" Ub eT a.y42 a.z42
 bw:Fg K mg "_law_world" XO eV a.y43 a.z43
 bR:Fg K mg "_law_run" Vh eX a.y44 a.z44
 am:Fg K mg "_law_core" UJ fC a.y45 a.z45
 aC:Fg K mg "_law_inner" Uf dn a.y46 a.z46
 ai:Fg K mg "_law_parts" WM dn a.y47 a.z47
 ba:Fg K mg "_law_back_to" W0 eN a.y48 a.z48
 bx:Fg K mg "_law_ahead" WT eO a.y49 a.z49
 bf:Fg K mg "_law_of" zI eQ a.y50 a.z50
 bS:Fg K mg "_law_row" YU eY a.y51 a.z51
 aS:Fg K mg "_law_along" WO fb a.y52 a.z52
 aW:Fg K mg "_law_by_turns" Yg fe a.y53 a.z53
 bL:Fg K mg "_law_sets" Wy fc a.y54 a.z54
 cU:Fg K mg "law" cE fg a.y55 a.z55
 ce:mg "ValueError" = none
 cr:mg "all" = none
 aK:mg "tuple" = none
 ay:mg "len" = none
 aN:mg "list" = none
 bT:mg "reversed" = none
 aJ:mg "range" = none
 ae:mg "isinstance" = none
 cW:mg "int" = none
 cG:mg "set" = none
 cQ:mg "max" = none
 cX:mg "zip" = none
 cH:mg "bool" = none
 cR:mg "str" = none
 bO:mg "sorted" = none
 cg:∃u,mg "LETTERS" = some u/\ZU (.str "abcdefghijklmnopqrstuvwxyz") u
 bD:∃u,mg "MOST_LETTERS" = some u/\ZU (.int 8) u
 bP:∃u,mg "MOST_WITHIN" = some u/\ZU (.int 5) u
 bU:∃u,mg "MOST_ROOMS" = some u/\ZU (.int 20) u
 bX:∃u,mg "MOST_FAIR" = some u/\ZU (.int 3) u
 cv:mg "TimeError" = some (.ref a.C_TimeError)
 cy:W.excIn K a.C_TimeError [.type "ValueError",.type "Exception",.type "BaseException",.type "object"] "ValueError.__new__" = true
 cB:mg "BadWorld" = some (.ref a.C_BadWorld)
 cC:W.excIn K a.C_BadWorld [.type "ValueError",.type "Exception",.type "BaseException",.type "object"] "ValueError.__new__" = true
 b9:mg "BadSentence" = some (.ref a.C_BadSentence)
 ca:W.excIn K a.C_BadSentence [.type "ValueError",.type "Exception",.type "BaseException",.type "object"] "ValueError.__new__" = true
 k_BadWorld:ExcK K a.C_BadWorld
 k_BadSentence:ExcK K a.C_BadSentence
 nk_signs:W.nsIn K a.D_LENGTHS "signs" = some none
 nk_Next:W.nsIn K a.D_LENGTHS "Next" = some none
 bY:mg "LENGTHS" = some (.ref a.D_LENGTHS)
 bh:DicK K a.Pm a.D_LENGTHS [("all",2),("some",2),("not",2),("next",2),("always",2),("ever",2),("before",2),("once",2),("sofar",2),("until",3),("since",3)]
 cI:mg "LINES" = some (.ref a.D_LINES)
 cJ:DicF K a.Pm a.D_LINES [("not",a.y25),("and",a.y26),("next",a.y27),("until",a.y28),("before",a.y29),("since",a.y30)]
 av:Cls K a.C_Table
 cK:mg "Table" = some (.ref a.C_Table)
 cA:Mk K a.C_Table a.y10
 bc:Wh K a.C_Table "parts"
 aE:Wh K a.C_Table "rows"
 ao:Wh K a.C_Table "numbers"
 aj:Cls K a.C_World
 cz:mg "World" = some (.ref a.C_World)
 cc:Mk K a.C_World a.y31
 aA:Wh K a.C_World "room_signs"
 aM:Wh K a.C_World "room_ways"
 aU:Wh K a.C_World "start_rooms"
 aX:Wh K a.C_World "fair_names"
abbrev Okd(P:Program)(w:World)(K:W.Frag)(mg:Str->Option Value)(base:Heap)(a:Adr)(k:Nat)(f:Addr)(fd:FuncData)(ps:List Str)(sp:W.Frag->Adr->Sp):Prop:=∀(_:Txt K mg a) (_:w.params=a.Pm),V9 P w K mg base CX0 k f fd ps (sp K a)
end KK
variable{a:KK.Adr}
namespace KK
open PySem PySem.Spec L2 L3
def JR(K:W.Frag)(a:Adr):Sp:=fun vs H Q _=>∃x,vs=[x]/\Kd H x/\Q (.bl (j0 x)) H
def zZ:Okd P w K mg base a 1 a.y0 a.z0 dg JR:=fun T hw=>by
 refine okF T.bz.f kU fun de A outer s H vs Q E hr h=>?_;obtain⟨x,rfl,hk,k⟩:=h;refine⟨_,(@Zh _ _ _ (@Zm _ _ _ _ (Xq (Zl (Xb (K:=K) rfl "int") rfl T.ae ou (@Za _ _ _ _ _ (pv 0) (@Za _ _ _ _ _ (Xz (v:=.ty "int") rfl T.cW PyProof.Rows.Boot.«int» rfl) Zb rfl) rfl)) (Xc (pe_not (Zl (Xb (K:=K) rfl "bool") rfl T.ae ou (@Za _ _ _ _ _ (pv 0) (@Za _ _ _ _ _ (Xz (v:=.ty "bool") rfl T.cH PyProof.Rows.Boot.«bool» rfl) Zb rfl) rfl))))))),?_⟩;cases hb:Xn H "int" x with
 |false=>
  obtain⟨t,h1,h2⟩:=WG K (by simp) hk hb;have e:j0 x=false:=by cases hk<;>first|rfl|(simp[Xn] at hb)
  rw[e] at k;exact⟨_,rfl,_,t,_,rfl,h1,h2,_,rfl,Z3 k⟩
 |true=>
  obtain⟨t,h1,h2⟩:=WG K (by simp) hk hb;obtain⟨u,h3,h4⟩:=WG K (T := "bool") (by simp) hk rfl;have e:j0 x = !Xn H "bool" x:=by
   cases hk with
   |lst e=>simp[Xn,e] at hb
   |tup e=>simp[Xn,e] at hb
   |dK e=>simp[Xn,e] at hb
   |non=>simp[Xn] at hb
   |str z hz=>simp[Xn] at hb
   |bl b=>rfl
   |int i=>rfl
  rw[e] at k;exact⟨_,rfl,_,t,_,rfl,h1,h2,_,rfl,Yo ⟨_,rfl,_,u,_,rfl,h3,h4,_,rfl,k⟩⟩
def Kx(K:W.Frag)(a:Adr):Sp:=fun vs H Q _=>∃x,vs=[x]/\Kd H x/\∀H',Ze H H'->Q (.bl (YS x)) H'
def xH:Okd P w K mg base a 1 a.y1 a.z1 dg Kx:=fun T hw=>by
 refine okF T.bM.f Kr fun de A outer s H vs Q E hr h=>?_;obtain⟨x,rfl,hk,k⟩:=h;refine⟨_,(@Zc _ _ _ _ _ (@ZZ _ _ _ _ _ _ _ _ (PW.pt (Ut (@YY _ _ _ _ (Xf (Zl (Xb (K:=K) rfl "str") rfl T.ae ou (@Za _ _ _ _ _ (pv 0) (@Za _ _ _ _ _ (Xz (v:=.ty "str") rfl T.cR PyProof.Rows.Boot.«str» rfl) Zb rfl) rfl)))) (Vt (@YY _ _ _ _ (k4 yd yd Zf (Zl (Zu (K:=K) rfl) rfl T.ay ox (@Za _ _ _ _ _ (pv 0) Zb rfl)) (yc rfl T.bD)))))) (@Zh _ _ _ (@Zm _ _ _ _ YR)) ZD) (@Zh _ _ _ (@Zm _ _ _ _ (Zl (WX (K:=K) rfl rfl) rfl T.cr oy (@Za _ _ _ _ _ (ZR (Nc:=["letter"]) (ix:=[none]) (ZJ.of (by decide +kernel:ZO (Zg UY) ["thing"] _ _ _=true)) rfl (pi_str (pv 0)) (fun _ _ _ _ _=>(Zo (i:=0) (show List.Nodup (["letter"]:List Str) by decide +kernel) rfl (.inl rfl))) (fun _ _ _ _ _=>Z0) (fun _ _ _ _ _=>(@YZ _ _ _ _ _ _ _ _ op_in_str (pv 0) (yc rfl T.cg) (by with_unfolding_all rfl)))) Zb rfl))))),?_⟩;rcases kd_str hk with⟨hb,z,rfl,hz⟩|⟨hb,e⟩
 ·obtain⟨t,h1,h2⟩:=WG K (by simp) hk hb;refine⟨_,rfl,_,t,_,rfl,h1,h2,_,rfl,Z3 ?_⟩;refine⟨_,rfl,.inr (.inl ⟨z,rfl,by rw[fJ];omega,_,_,rfl,rfl,_,rfl,?_⟩)⟩;have fin:decide (1<=(z.length:Int))=true->decide ((z.length:Int)<=8)=true->YS (.str z)=z.cps.toList.all zY:=fun a b=>by
   have a':=gi a;have b':=gi b;have a2:1<=z.length:=by omega
   have b2:z.length<=8:=by omega
   simp[YS,Yf,a2,b2]
  have nof:¬((1:Int)<=z.length/\(z.length:Int)<=8)->YS (.str z)=false:=fun q=>by
   have:¬(1<=z.length/\z.length<=8):=by omega
   simp only[YS,Yf]
   by_cases h1:1<=z.length
   ·have h2:¬z.length<=8:=fun h2=>this ⟨h1,h2⟩;simp[h1,h2]
   ·simp[h1]
  refine XN (fun c1=>?_) (fun c1=>?_)
  ·refine⟨_,_,rfl,rfl,_,rfl,?_⟩;cases c2:decide ((z.length:Int)<=8) with
   |false=>
    refine Yo ?_;have q:=k H (.refl H);rw[nof (fun q=>by have:=mh c2;omega)] at q;exact q
   |true=>
    refine Z3 ⟨_,rfl,z,rfl,fun D hD=>?_⟩;refine Yx (J:=Its z) (n:=z.cps.size) (fun i U H'=>Ze H H'/\H' D=some (.lst ((z.cps.toList.take i).map fun c=>V.bl (zY c)))/\∃y,U=[y]) ?_ (fun i U H' hi _=>hi) (fun U H' _=>fE _) ?_ ?_
    ·exact⟨Zi hD,Zd,_,rfl⟩
    ·rintro i x U H' H2 hi ⟨sm,hl,y,rfl⟩ ⟨rfl,c,hc,rfl⟩ N N0 hN hN0;refine⟨_,rfl,_,_,rfl,rfl,?_⟩;have el:=PySem.StrLaws.found_one ("abcdefghijklmnopqrstuvwxyz" : Str) c;refine hN _ _ _ _ hl (by rw[fF,gu,fJ];have:z.cps.size=z.length:=rfl;omega) ⟨(Zs.upd (Ze.x sm)).same hD,?_,_,rfl⟩;have hc':z.cps.toList[i]?=some c:=by rw[lE];exact hc
     rw[Zd,List.take_add_one,hc',gb];refine fS (fun b=>some (HO.lst (_++[V.bl b]))) ?_;rw[<- Ji];exact el
    ·rintro U H' ⟨sm,hl,y,rfl⟩;have et:z.cps.toList.take z.cps.size=z.cps.toList:=by rw[<- im];exact iP
     rw[et] at hl;have q:=k H' sm;rw[fin c1 c2,<- xX] at q;exact⟨D,z.cps.toList.map zY,rfl,oj (by rw[hl,gS];rfl),q⟩
  ·refine⟨_,rfl,Yo ?_⟩;have q:=k H (.refl H);rw[nof (fun q=>c1 (gO q.1))] at q;exact q
 ·obtain⟨t,h1,h2⟩:=WG K (by simp) hk hb;have q:=k H (.refl H);rw[e] at q;exact⟨_,rfl,_,t,_,rfl,h1,h2,_,rfl,Yo (Yo q)⟩
def Kv(K:W.Frag)(a:Adr):Sp:=fun vs H Q _=>∃x n,vs=[x,.int n]/\Kd H x/\Q (.bl (YL n x)) H
def KB:Okd P w K mg base a 2 a.y2 a.z2 di Kv:=fun T hw=>by
 refine okF T.bV.f JZ fun de A outer s H vs Q E hr h=>?_;obtain⟨x,n,rfl,hk,k⟩:=h;refine⟨_,(@Zh _ _ _ (@Zm _ _ _ _ (Xq (ZA T.bz (zZ T hw) hr rfl rfl (@Za _ _ _ _ _ (pv 0) Zb rfl)) (Xc (Jo yd vZ Zf (pv 0) (pv 1)))))),?_⟩;refine⟨_,rfl,x,rfl,hk,_,rfl,?_⟩;cases x with
 |int i=>
  refine Yo ⟨_,rfl,_,_,rfl,rfl,_,rfl,?_⟩;cases c1:decide (0<=i) with
  |true=>
   refine Yo ⟨_,rfl,_,_,rfl,rfl,?_⟩;have e:YL n (.int i)=decide (i<n):=by simp only[YL,c1,i5]
   rw[e] at k;exact k
  |false=>
   have e:YL n (.int i)=false:=by simp only[YL,c1,iM]
   rw[e] at k;exact Z3 k
 |_=>exact Z3 k
def kj(K:W.Frag)(a:Adr):Sp:=fun vs H Q _=>∃(p:Addr) (xs:List V) (m:Nat),vs=[.ref p,.int (m:Nat)]/\H p=some (.lst xs)/\m<=xs.length/\∀H' l,Zs p H H'->H' p=some (.lst (xs.take (xs.length-m)))->H l=none->H' l=some (.lst (xs.drop (xs.length-m)))->Q (.ref l) H'
def j7:Okd P w K mg base a 1 a.y5 a.z5 dC kj:=fun T hw=>by
 refine okF T.bF.f Uk fun de A outer s H vs Q E hr h=>?_;obtain⟨p,xs,m,rfl,hp,hm,k⟩:=h;refine⟨_,(@Zc _ _ _ _ _ (@Zn _ _ (2) _ _ _ _ Uk.nd rfl (.inl rfl) (@ZP _ _ _ _ _ _ _ _ Vb (Zl (Zu (K:=K) rfl) rfl T.ay ox (@Za _ _ _ _ _ (pv 0) Zb rfl)) (pv 1)) rfl (.inl rfl)) (@Zc _ _ _ _ _ (@Zn _ _ (3) _ _ _ _ Uk.nd rfl (.inl rfl) (Z8 (Y0 (K:=K) rfl) (pv 0) (Z5 (pv 2)) Ys) rfl (.inl rfl)) (@Zc _ _ _ _ _ (Kk (pv 0) (pv 2)) (@Zh _ _ _ (@Zm _ _ _ _ (pv 3)))))),?_⟩;have e:(xs.length:Int)-(m:Int)=((xs.length-m:Nat):Int):=by omega
 refine⟨_,rfl,.inl ⟨p,_,rfl,.inl (oj hp),_,rfl,_,_,rfl,rfl,?_⟩⟩;refine⟨_,rfl,_,rfl,((xs.length-m:Nat):Int),fS V.int e,p,xs,rfl,oj hp,fun l hl=>?_⟩;rw[Wd _ _ (by omega)];have np:=ne_new hp hl;refine⟨_,rfl,_,rfl,p,xs,xs.length-m,rfl,fS V.int e,X3 hp np,by omega,?_⟩;refine⟨_,rfl,k _ l (Ze.x (Zi hl)).upd Zd hl ?_⟩;rw[Zx (fT np),Zd]
def jH(K:W.Frag)(a:Adr):Sp:=fun vs H Q _=>∃(v:V) (b:Bool),vs=[v]/\((b=true/\FmT K H v)\/(b=false/\Fm K H v))/\∀H',Ze H H'->Q (.bl b) H'
def nw_of:∀w∈(["signs","Next"]:List Str),w ≠ "yes" /\ w ≠ "sign" /\ w∉(["and","or"]:List Str)/\w ≠ "within" := by decide +kernel
def nwx{w:Str}(h:w∉NW):w ≠ "yes" /\ w ≠ "sign" /\ w∉(["and","or"]:List Str)/\w ≠ "within" := by
 refine⟨fun e=>h (by rw[e];simp),fun e=>h (by rw[e];simp),fun e=>h ?_,fun e=>h (by rw[e];simp)⟩;simp at e;rcases e with rfl|rfl<;>simp
def jF:Okd P w K mg base a 2 a.y6 a.z6 dg jH:=fun T hw=>by
 refine okF T.bG.f zf fun de A outer s H vs Q E hr h=>?_;obtain⟨v,b,rfl,hb,k⟩:=h;refine⟨_,(@Zc _ _ _ _ _ (@ZZ _ _ _ _ _ _ _ _ (PW.pt (Ut (@YY _ _ _ _ (Xf (Zl (JQ (K:=K) rfl) rfl T.ae ou (@Za _ _ _ _ _ (pv 0) (@Za _ _ _ _ _ (Xz (v:=.ty "tuple") rfl T.aK oz rfl) Zb rfl) rfl)))) (Ut (@Zw _ _ _ _ _ _ _ _ Yr (Zl (Zu (K:=K) rfl) rfl T.ay ox (@Za _ _ _ _ _ (pv 0) Zb rfl)) Zf (ZI _)) (Vt (@YY _ _ _ _ (Xf (Zl (Xb (K:=K) rfl "str") rfl T.ae ou (@Za _ _ _ _ _ (@Zv _ _ _ _ _ _ _ (ZN (K:=K) rfl) (pv 0) Zf (fun _ _=>rfl)) (@Za _ _ _ _ _ (Xz (v:=.ty "str") rfl T.cR PyProof.Rows.Boot.«str» rfl) Zb rfl) rfl)))))))) (@Zh _ _ _ (@Zm _ _ _ _ YR)) ZD) (@Zc _ _ _ _ _ (@Zn _ _ (1) _ _ _ _ zf.nd rfl (.inl rfl) (@Zv _ _ _ _ _ _ _ (ZN (K:=K) rfl) (pv 0) Zf (fun _ _=>rfl)) rfl (.inl rfl)) (@Zc _ _ _ _ _ (@ZZ _ _ _ _ _ _ _ _ (@Zw _ _ _ _ _ _ _ _ Yr (pv 1) Zz (ZI _)) (@Zh _ _ _ (@Zm _ _ _ _ (@YZ _ _ _ _ _ _ _ _ Yr (Zl (Zu (K:=K) rfl) rfl T.ay ox (@Za _ _ _ _ _ (pv 0) Zb rfl)) Zf (ZI _)))) ZD) (@Zc _ _ _ _ _ (@ZZ _ _ _ _ _ _ _ _ (@Zw _ _ _ _ _ _ _ _ Yr (pv 1) Zz (ZI _)) (@Zh _ _ _ (@Zm _ _ _ _ (Xq (@YZ _ _ _ _ _ _ _ _ Yr (Zl (Zu (K:=K) rfl) rfl T.ay ox (@Za _ _ _ _ _ (pv 0) Zb rfl)) Zf (ZI _)) (Xc (ZA T.bM (xH T hw) hr rfl rfl (@Za _ _ _ _ _ (@Zv _ _ _ _ _ _ _ (ZN (K:=K) rfl) (pv 0) Zf (fun _ _=>rfl)) Zb rfl)))))) ZD) (@Zc _ _ _ _ _ (@ZZ _ _ _ _ _ _ _ _ (@Zw _ _ _ _ _ _ _ _ (WB (K:=K) rfl) (pv 1) (@ZV _ _ _ _ _ (@Za _ _ _ _ _ Zz (@Za _ _ _ _ _ Zz Zb rfl) rfl)) (by with_unfolding_all rfl)) (@Zh _ _ _ (@Zm _ _ _ _ (Xq (@YZ _ _ _ _ _ _ _ _ Yr (Zl (Zu (K:=K) rfl) rfl T.ay ox (@Za _ _ _ _ _ (pv 0) Zb rfl)) Zf (ZI _)) (Xc (Zl (JQ (K:=K) rfl) rfl T.ae ou (@Za _ _ _ _ _ (@Zv _ _ _ _ _ _ _ (ZN (K:=K) rfl) (pv 0) Zf (fun _ _=>rfl)) (@Za _ _ _ _ _ (Xz (v:=.ty "tuple") rfl T.aK oz rfl) Zb rfl) rfl)))))) ZD) (@Zc _ _ _ _ _ (@ZZ _ _ _ _ _ _ _ _ (@Zw _ _ _ _ _ _ _ _ Yr (pv 1) Zz (ZI _)) (@Zh _ _ _ (@Zm _ _ _ _ (Xq (@YZ _ _ _ _ _ _ _ _ Yr (Zl (Zu (K:=K) rfl) rfl T.ay ox (@Za _ _ _ _ _ (pv 0) Zb rfl)) Zf (ZI _)) (Xq (ZA T.bz (zZ T hw) hr rfl rfl (@Za _ _ _ _ _ (@Zv _ _ _ _ _ _ _ (ZN (K:=K) rfl) (pv 0) Zf (fun _ _=>rfl)) Zb rfl)) (Xc (Jo yd yd Zf (@Zv _ _ _ _ _ _ _ (ZN (K:=K) rfl) (pv 0) Zf (fun _ _=>rfl)) (yc rfl T.bP))))))) ZD) (@Zh _ _ _ (@Zm _ _ _ _ (Xq (@YZ _ _ _ _ _ _ _ _ (op_inD2 (K:=K) (P:=a.Pm) rfl hw) (pv 1) (yc (v:=.ref a.D_LENGTHS) rfl ⟨_,T.bY,rfl⟩) (by with_unfolding_all rfl)) (Xc (@YZ _ _ _ _ _ _ _ _ Yr (Zl (Zu (K:=K) rfl) rfl T.ay ox (@Za _ _ _ _ _ (pv 0) Zb rfl)) (@Zv _ _ _ _ _ _ _ (ix_dic (K:=K) (P:=a.Pm) rfl hw) (yc (v:=.ref a.D_LENGTHS) rfl ⟨_,T.bY,rfl⟩) (pv 1) (fun _ _=>rfl)) (ZI _)))))))))))),?_⟩;rcases hb with⟨rfl,hT⟩|⟨rfl,hF⟩
 ·obtain⟨ad,us,c,rfl,sh,ok⟩:=hT;obtain⟨xs,e⟩:=sh.tup;obtain⟨ty2,c3,c4⟩:=W8 (K:=K) (H:=H) (Zy c);refine⟨_,rfl,_,rfl,.inl ⟨ad,_,rfl,e,_,rfl,Z3 ?_⟩⟩;refine⟨_,rfl,.inl ⟨ad,_,rfl,.inr e,rfl,_,rfl,Z1 (fun z=>by have:=V.int.inj z;simp at this<;>omega) ?_⟩⟩;refine⟨_,rfl,ad,_,_,_,rfl,rfl,e,Zj (j:=0) rfl,_,ty2,_,rfl,c3,c4,_,rfl,Z3 ?_⟩;refine⟨_,rfl,ad,_,_,_,rfl,rfl,e,Zj (j:=0) rfl,?_⟩;clear e c3 c4 ty2 xs
  revert sh ok
  cases c with
  |yes=>
   intro sh ok;refine⟨_,rfl,rfl,_,rfl,Xt rfl ?_⟩;exact⟨_,rfl,.inl ⟨ad,_,rfl,.inr (sh.2),rfl,qD rfl (k _ (.refl _))⟩⟩
  |sign z=>
   intro sh ok;refine⟨_,rfl,rfl,_,rfl,Z1 (fun z=>(by decide +kernel:¬(("sign" : Str) = "yes")) (V.str.inj z)) ?_⟩;refine⟨_,rfl,rfl,_,rfl,Xt rfl ?_⟩;refine⟨_,rfl,.inl ⟨ad,_,rfl,.inr (sh.2),rfl,_,rfl,Xt rfl ?_⟩⟩;refine⟨_,rfl,ad,_,_,_,rfl,rfl,sh.2,Zj (j:=1) rfl,.str z,rfl,.str z (fU (yX ok.2) (by decide)),fun H' s'=>?_⟩;have e:YS (.str z)=true:=ok.2;rw[e];exact k H' s'
  |op w=>
   intro sh ok;obtain⟨h1,h2,h3,h4,_⟩:=JC w (by rcases ok with ok|ok;exact g8 _ ok.1;exact gz _ ok.1);refine⟨_,rfl,rfl,_,rfl,Z1 (fun z=>h1 (V.str.inj z)) ?_⟩;refine⟨_,rfl,rfl,_,rfl,Z1 (fun z=>h2 (V.str.inj z)) ?_⟩;refine⟨_,rfl,by rw[fJ];simp,fun q hq2=>⟨q,_,rfl,.inr (on Zd),rfl,rfl,_,rfl,Xr (ss:=["and","or"]) h3 ?_⟩⟩;have s1:=Zi (o:=.tup [.str "and",.str "or"]) hq2;have e1:=om s1 K _ _ sh;generalize upd H q (.tup [.str "and",.str "or"])=H1 at s1 e1 ⊢;refine⟨_,rfl,rfl,_,rfl,Z1 (fun z=>h4 (V.str.inj z)) ?_⟩;obtain⟨i,hm,hi⟩:∃i:Int,(w,i)∈LK/\((us.length+1:Nat):Int)=i:=by
    rcases ok with⟨ok,o2⟩|⟨ok,o2⟩
    ·exact⟨2,lk1 w ok,by omega⟩
    ·exact⟨3,lk2 w ok,by omega⟩
   refine⟨_,rfl,w,_,_,true,rfl,rfl,T.bh,.inl ⟨rfl,i,hm⟩,_,rfl,Yo ⟨_,rfl,.inl ⟨ad,_,rfl,.inr (e1),_,rfl,_,w,_,i,rfl,rfl,T.bh,hm,rfl,qD (fS V.int hi) (k _ s1)⟩⟩⟩
  |wit m=>
   intro sh ok;refine⟨_,rfl,rfl,_,rfl,Z1 (fun z=>(by decide +kernel:¬(("within" : Str) = "yes")) (V.str.inj z)) ?_⟩;refine⟨_,rfl,rfl,_,rfl,Z1 (fun z=>(by decide +kernel:¬(("within" : Str) = "sign")) (V.str.inj z)) ?_⟩;refine⟨_,rfl,by rw[fJ];simp,fun q hq2=>⟨q,_,rfl,.inr (on Zd),rfl,rfl,_,rfl,Xr (ss:=["and","or"]) (show("within" : Str)∉(["and","or"]:List Str) by decide +kernel) ?_⟩⟩;have s1:=Zi (o:=.tup [.str "and",.str "or"]) hq2;have e1:=om s1 K _ _ sh;generalize upd H q (.tup [.str "and",.str "or"])=H1 at s1 e1 ⊢;refine⟨_,rfl,rfl,_,rfl,Xt rfl ?_⟩;have hu:us.length=2:=ok.2;refine⟨_,rfl,.inl ⟨ad,_,rfl,.inr (e1),rfl,_,rfl,Xt (fS V.int (by simp[hu])) ?_⟩⟩;refine⟨_,rfl,ad,_,_,_,rfl,rfl,e1,Zj (j:=1) rfl,.int m,rfl,.int m,_,rfl,Yo ?_⟩;exact⟨_,rfl,ad,_,_,_,rfl,rfl,e1,Zj (j:=1) rfl,_,_,rfl,rfl,_,rfl,Xt ok.1.1 ⟨_,_,rfl,rfl,qD ok.1.2 (k _ s1)⟩⟩
  |many w=>
   intro sh ok;obtain⟨b,sh1,sh2⟩:=sh;have hw0:w∈(["and","or"]:List Str):=by rcases ok.1 with rfl|rfl<;>simp
   obtain⟨h1,h2,h3,_⟩:=V3 w hw0;refine⟨_,rfl,rfl,_,rfl,Z1 (fun z=>h1 (V.str.inj z)) ?_⟩;refine⟨_,rfl,rfl,_,rfl,Z1 (fun z=>h2 (V.str.inj z)) ?_⟩;refine⟨_,rfl,by rw[fJ];simp,fun q hq2=>⟨q,_,rfl,.inr (on Zd),rfl,rfl,_,rfl,U9 (ss:=["and","or"]) hw0 ?_⟩⟩;have s1:=Zi (o:=.tup [.str "and",.str "or"]) hq2;have e1:=om s1 K _ _ sh1;have e2:=om s1 K _ _ sh2;generalize upd H q (.tup [.str "and",.str "or"])=H1 at s1 e1 e2 ⊢;exact⟨_,rfl,.inl ⟨ad,_,rfl,.inr (e1),rfl,_,rfl,Xt rfl ⟨_,rfl,ad,_,_,_,rfl,rfl,e1,Zj (j:=1) rfl,_,rfl,.inl ⟨b,_,rfl,e2,k _ s1⟩⟩⟩⟩
 cases hF with
 |noT hk ht=>
  obtain⟨t,h1,h2⟩:=WG K (by simp) hk ht;exact⟨_,rfl,_,rfl,.inr ⟨t,h1,h2,_,rfl,Yo (k _ (.refl _))⟩⟩
 |@emp ad e=>
  refine⟨_,rfl,_,rfl,.inl ⟨ad,_,rfl,e,_,rfl,Z3 ?_⟩⟩;exact⟨_,rfl,.inl ⟨ad,_,rfl,.inr e,rfl,_,rfl,Xt rfl (k _ (.refl _))⟩⟩
 |@noS ad x xs e hk ht=>
  obtain⟨t,h1,h2⟩:=WG K (by simp) hk ht;refine⟨_,rfl,_,rfl,.inl ⟨ad,_,rfl,e,_,rfl,Z3 ?_⟩⟩;refine⟨_,rfl,.inl ⟨ad,_,rfl,.inr e,rfl,_,rfl,Z1 (fun z=>by have:=V.int.inj z;simp at this<;>omega) ?_⟩⟩;exact⟨_,rfl,ad,_,_,_,rfl,rfl,e,Zj (j:=0) rfl,_,t,_,rfl,h1,h2,_,rfl,Yo (k _ (.refl _))⟩
 |@yes ad xs e hl=>
  obtain⟨ty2,c3,c4⟩:=W8 (K:=K) (H:=H) "yes";refine⟨_,rfl,_,rfl,.inl ⟨ad,_,rfl,e,_,rfl,Z3 ?_⟩⟩;refine⟨_,rfl,.inl ⟨ad,_,rfl,.inr e,rfl,_,rfl,Z1 (fun z=>by have:=V.int.inj z;simp at this<;>omega) ?_⟩⟩;refine⟨_,rfl,ad,_,_,_,rfl,rfl,e,Zj (j:=0) rfl,_,ty2,_,rfl,c3,c4,_,rfl,Z3 ?_⟩;refine⟨_,rfl,ad,_,_,_,rfl,rfl,e,Zj (j:=0) rfl,?_⟩;refine⟨_,rfl,rfl,_,rfl,Xt rfl ?_⟩;exact⟨_,rfl,.inl ⟨ad,_,rfl,.inr e,rfl,qN (fun z=>by have:=V.int.inj z;simp at this<;>omega) (k _ (.refl _))⟩⟩
 |@sgnL ad xs e hl=>
  obtain⟨ty2,c3,c4⟩:=W8 (K:=K) (H:=H) "sign";refine⟨_,rfl,_,rfl,.inl ⟨ad,_,rfl,e,_,rfl,Z3 ?_⟩⟩;refine⟨_,rfl,.inl ⟨ad,_,rfl,.inr e,rfl,_,rfl,Z1 (fun z=>by have:=V.int.inj z;simp at this<;>omega) ?_⟩⟩;refine⟨_,rfl,ad,_,_,_,rfl,rfl,e,Zj (j:=0) rfl,_,ty2,_,rfl,c3,c4,_,rfl,Z3 ?_⟩;refine⟨_,rfl,ad,_,_,_,rfl,rfl,e,Zj (j:=0) rfl,?_⟩;refine⟨_,rfl,rfl,_,rfl,Z1 (fun z=>(by decide +kernel:¬(("sign" : Str) = "yes")) (V.str.inj z)) ?_⟩;refine⟨_,rfl,rfl,_,rfl,Xt rfl ?_⟩;exact⟨_,rfl,.inl ⟨ad,_,rfl,.inr e,rfl,_,rfl,Z1 (fun z=>by have:=V.int.inj z;simp at this<;>omega) (k _ (.refl _))⟩⟩
 |@sgn ad x e hk hx=>
  obtain⟨ty2,c3,c4⟩:=W8 (K:=K) (H:=H) "sign";refine⟨_,rfl,_,rfl,.inl ⟨ad,_,rfl,e,_,rfl,Z3 ?_⟩⟩;refine⟨_,rfl,.inl ⟨ad,_,rfl,.inr e,rfl,_,rfl,Z1 (fun z=>by have:=V.int.inj z;simp at this<;>omega) ?_⟩⟩;refine⟨_,rfl,ad,_,_,_,rfl,rfl,e,Zj (j:=0) rfl,_,ty2,_,rfl,c3,c4,_,rfl,Z3 ?_⟩;refine⟨_,rfl,ad,_,_,_,rfl,rfl,e,Zj (j:=0) rfl,?_⟩;refine⟨_,rfl,rfl,_,rfl,Z1 (fun z=>(by decide +kernel:¬(("sign" : Str) = "yes")) (V.str.inj z)) ?_⟩;refine⟨_,rfl,rfl,_,rfl,Xt rfl ?_⟩;refine⟨_,rfl,.inl ⟨ad,_,rfl,.inr e,rfl,_,rfl,Xt rfl ?_⟩⟩;refine⟨_,rfl,ad,_,_,_,rfl,rfl,e,Zj (j:=1) rfl,x,rfl,hk,fun H' s'=>?_⟩;rw[hx];exact k H' s'
 |@manyL ad w xs hw0 e hl=>
  obtain⟨h1,h2,h3,_⟩:=V3 w hw0;obtain⟨ty2,c3,c4⟩:=W8 (K:=K) (H:=H) w;refine⟨_,rfl,_,rfl,.inl ⟨ad,_,rfl,e,_,rfl,Z3 ?_⟩⟩;refine⟨_,rfl,.inl ⟨ad,_,rfl,.inr e,rfl,_,rfl,Z1 (fun z=>by have:=V.int.inj z;simp at this<;>omega) ?_⟩⟩;refine⟨_,rfl,ad,_,_,_,rfl,rfl,e,Zj (j:=0) rfl,_,ty2,_,rfl,c3,c4,_,rfl,Z3 ?_⟩;refine⟨_,rfl,ad,_,_,_,rfl,rfl,e,Zj (j:=0) rfl,?_⟩;refine⟨_,rfl,rfl,_,rfl,Z1 (fun z=>h1 (V.str.inj z)) ?_⟩;refine⟨_,rfl,rfl,_,rfl,Z1 (fun z=>h2 (V.str.inj z)) ?_⟩;refine⟨_,rfl,by rw[fJ];simp,fun q hq2=>⟨q,_,rfl,.inr (on Zd),rfl,rfl,_,rfl,U9 (ss:=["and","or"]) hw0 ?_⟩⟩;have s1:=Zi (o:=.tup [.str "and",.str "or"]) hq2;have e1:=om s1 K _ _ e;generalize upd H q (.tup [.str "and",.str "or"])=H1 at s1 e1 ⊢;exact⟨_,rfl,.inl ⟨ad,_,rfl,.inr (e1),rfl,_,rfl,Z1 (fun z=>by have:=V.int.inj z;simp at this<;>omega) (k _ s1)⟩⟩
 |@manyN ad w x hw0 e hk ht=>
  obtain⟨h1,h2,h3,_⟩:=V3 w hw0;obtain⟨ty2,c3,c4⟩:=W8 (K:=K) (H:=H) w;refine⟨_,rfl,_,rfl,.inl ⟨ad,_,rfl,e,_,rfl,Z3 ?_⟩⟩;refine⟨_,rfl,.inl ⟨ad,_,rfl,.inr e,rfl,_,rfl,Z1 (fun z=>by have:=V.int.inj z;simp at this<;>omega) ?_⟩⟩;refine⟨_,rfl,ad,_,_,_,rfl,rfl,e,Zj (j:=0) rfl,_,ty2,_,rfl,c3,c4,_,rfl,Z3 ?_⟩;refine⟨_,rfl,ad,_,_,_,rfl,rfl,e,Zj (j:=0) rfl,?_⟩;refine⟨_,rfl,rfl,_,rfl,Z1 (fun z=>h1 (V.str.inj z)) ?_⟩;refine⟨_,rfl,rfl,_,rfl,Z1 (fun z=>h2 (V.str.inj z)) ?_⟩;refine⟨_,rfl,by rw[fJ];simp,fun q hq2=>⟨q,_,rfl,.inr (on Zd),rfl,rfl,_,rfl,U9 (ss:=["and","or"]) hw0 ?_⟩⟩;have s1:=Zi (o:=.tup [.str "and",.str "or"]) hq2;have e1:=om s1 K _ _ e;generalize upd H q (.tup [.str "and",.str "or"])=H1 at s1 e1 ⊢;obtain⟨t,h5,h6⟩:=WG K (by simp) (hk.mono s1) ((isTy_same s1 hk).trans ht);exact⟨_,rfl,.inl ⟨ad,_,rfl,.inr (e1),rfl,_,rfl,Xt rfl ⟨_,rfl,ad,_,_,_,rfl,rfl,e1,Zj (j:=1) rfl,_,rfl,.inr ⟨t,h5,h6,k _ s1⟩⟩⟩⟩
 |@witL ad xs e hl=>
  obtain⟨ty2,c3,c4⟩:=W8 (K:=K) (H:=H) "within";refine⟨_,rfl,_,rfl,.inl ⟨ad,_,rfl,e,_,rfl,Z3 ?_⟩⟩;refine⟨_,rfl,.inl ⟨ad,_,rfl,.inr e,rfl,_,rfl,Z1 (fun z=>by have:=V.int.inj z;simp at this<;>omega) ?_⟩⟩;refine⟨_,rfl,ad,_,_,_,rfl,rfl,e,Zj (j:=0) rfl,_,ty2,_,rfl,c3,c4,_,rfl,Z3 ?_⟩;refine⟨_,rfl,ad,_,_,_,rfl,rfl,e,Zj (j:=0) rfl,?_⟩;refine⟨_,rfl,rfl,_,rfl,Z1 (fun z=>(by decide +kernel:¬(("within" : Str) = "yes")) (V.str.inj z)) ?_⟩;refine⟨_,rfl,rfl,_,rfl,Z1 (fun z=>(by decide +kernel:¬(("within" : Str) = "sign")) (V.str.inj z)) ?_⟩;refine⟨_,rfl,by rw[fJ];simp,fun q hq2=>⟨q,_,rfl,.inr (on Zd),rfl,rfl,_,rfl,Xr (ss:=["and","or"]) (show("within" : Str)∉(["and","or"]:List Str) by decide +kernel) ?_⟩⟩;have s1:=Zi (o:=.tup [.str "and",.str "or"]) hq2;have e1:=om s1 K _ _ e;generalize upd H q (.tup [.str "and",.str "or"])=H1 at s1 e1 ⊢;refine⟨_,rfl,rfl,_,rfl,Xt rfl ?_⟩;exact⟨_,rfl,.inl ⟨ad,_,rfl,.inr (e1),rfl,_,rfl,Z1 (fun z=>by have:=V.int.inj z;simp at this<;>omega) (k _ s1)⟩⟩
 |@witN ad x y z e hk hx=>
  obtain⟨ty2,c3,c4⟩:=W8 (K:=K) (H:=H) "within";refine⟨_,rfl,_,rfl,.inl ⟨ad,_,rfl,e,_,rfl,Z3 ?_⟩⟩;refine⟨_,rfl,.inl ⟨ad,_,rfl,.inr e,rfl,_,rfl,Z1 (fun z=>by have:=V.int.inj z;simp at this<;>omega) ?_⟩⟩;refine⟨_,rfl,ad,_,_,_,rfl,rfl,e,Zj (j:=0) rfl,_,ty2,_,rfl,c3,c4,_,rfl,Z3 ?_⟩;refine⟨_,rfl,ad,_,_,_,rfl,rfl,e,Zj (j:=0) rfl,?_⟩;refine⟨_,rfl,rfl,_,rfl,Z1 (fun z=>(by decide +kernel:¬(("within" : Str) = "yes")) (V.str.inj z)) ?_⟩;refine⟨_,rfl,rfl,_,rfl,Z1 (fun z=>(by decide +kernel:¬(("within" : Str) = "sign")) (V.str.inj z)) ?_⟩;refine⟨_,rfl,by rw[fJ];simp,fun q hq2=>⟨q,_,rfl,.inr (on Zd),rfl,rfl,_,rfl,Xr (ss:=["and","or"]) (show("within" : Str)∉(["and","or"]:List Str) by decide +kernel) ?_⟩⟩;have s1:=Zi (o:=.tup [.str "and",.str "or"]) hq2;have e1:=om s1 K _ _ e;generalize upd H q (.tup [.str "and",.str "or"])=H1 at s1 e1 ⊢;refine⟨_,rfl,rfl,_,rfl,Xt rfl ?_⟩;refine⟨_,rfl,.inl ⟨ad,_,rfl,.inr (e1),rfl,_,rfl,Xt rfl ?_⟩⟩;refine⟨_,rfl,ad,_,_,_,rfl,rfl,e1,Zj (j:=1) rfl,x,rfl,hk.mono s1,?_⟩;rw[hx];exact⟨_,rfl,Z3 (k _ s1)⟩
 |@witM ad m y z e hm=>
  obtain⟨ty2,c3,c4⟩:=W8 (K:=K) (H:=H) "within";refine⟨_,rfl,_,rfl,.inl ⟨ad,_,rfl,e,_,rfl,Z3 ?_⟩⟩;refine⟨_,rfl,.inl ⟨ad,_,rfl,.inr e,rfl,_,rfl,Z1 (fun z=>by have:=V.int.inj z;simp at this<;>omega) ?_⟩⟩;refine⟨_,rfl,ad,_,_,_,rfl,rfl,e,Zj (j:=0) rfl,_,ty2,_,rfl,c3,c4,_,rfl,Z3 ?_⟩;refine⟨_,rfl,ad,_,_,_,rfl,rfl,e,Zj (j:=0) rfl,?_⟩;refine⟨_,rfl,rfl,_,rfl,Z1 (fun z=>(by decide +kernel:¬(("within" : Str) = "yes")) (V.str.inj z)) ?_⟩;refine⟨_,rfl,rfl,_,rfl,Z1 (fun z=>(by decide +kernel:¬(("within" : Str) = "sign")) (V.str.inj z)) ?_⟩;refine⟨_,rfl,by rw[fJ];simp,fun q hq2=>⟨q,_,rfl,.inr (on Zd),rfl,rfl,_,rfl,Xr (ss:=["and","or"]) (show("within" : Str)∉(["and","or"]:List Str) by decide +kernel) ?_⟩⟩;have s1:=Zi (o:=.tup [.str "and",.str "or"]) hq2;have e1:=om s1 K _ _ e;generalize upd H q (.tup [.str "and",.str "or"])=H1 at s1 e1 ⊢;refine⟨_,rfl,rfl,_,rfl,Xt rfl ?_⟩;refine⟨_,rfl,.inl ⟨ad,_,rfl,.inr (e1),rfl,_,rfl,Xt rfl ?_⟩⟩;refine⟨_,rfl,ad,_,_,_,rfl,rfl,e1,Zj (j:=1) rfl,.int m,rfl,.int m,_,rfl,Yo ?_⟩;refine⟨_,rfl,ad,_,_,_,rfl,rfl,e1,Zj (j:=1) rfl,_,_,rfl,rfl,_,rfl,?_⟩
  by_cases h0:0<=m
  ·exact Xt h0 ⟨_,_,rfl,rfl,qN (fun h5=>hm ⟨h0,h5⟩) (k _ s1)⟩
  ·exact Z1 h0 (k _ s1)
 |@word ad w xs e hw1=>
  obtain⟨h1,h2,h3,h4⟩:=nw_of w hw1;obtain⟨ty2,c3,c4⟩:=W8 (K:=K) (H:=H) w;refine⟨_,rfl,_,rfl,.inl ⟨ad,_,rfl,e,_,rfl,Z3 ?_⟩⟩;refine⟨_,rfl,.inl ⟨ad,_,rfl,.inr e,rfl,_,rfl,Z1 (fun z=>by have:=V.int.inj z;simp at this<;>omega) ?_⟩⟩;refine⟨_,rfl,ad,_,_,_,rfl,rfl,e,Zj (j:=0) rfl,_,ty2,_,rfl,c3,c4,_,rfl,Z3 ?_⟩;refine⟨_,rfl,ad,_,_,_,rfl,rfl,e,Zj (j:=0) rfl,?_⟩;refine⟨_,rfl,rfl,_,rfl,Z1 (fun z=>h1 (V.str.inj z)) ?_⟩;refine⟨_,rfl,rfl,_,rfl,Z1 (fun z=>h2 (V.str.inj z)) ?_⟩;refine⟨_,rfl,by rw[fJ];simp,fun q hq2=>⟨q,_,rfl,.inr (on Zd),rfl,rfl,_,rfl,Xr (ss:=["and","or"]) h3 ?_⟩⟩;have s1:=Zi (o:=.tup [.str "and",.str "or"]) hq2;have e1:=om s1 K _ _ e;generalize upd H q (.tup [.str "and",.str "or"])=H1 at s1 e1 ⊢;refine⟨_,rfl,rfl,_,rfl,Z1 (fun z=>h4 (V.str.inj z)) ?_⟩;have hn:W.nsIn K a.D_LENGTHS w=some none:=by
   simp at hw1;rcases hw1 with rfl|rfl
   ·exact T.nk_signs
   ·exact T.nk_Next
  exact⟨_,rfl,w,_,_,false,rfl,rfl,T.bh,.inr ⟨rfl,hn⟩,_,rfl,Z3 (k _ s1)⟩
 |@lens ad w i xs e hw1 hm hi=>
  obtain⟨h1,h2,h3,h4⟩:=nwx hw1;obtain⟨ty2,c3,c4⟩:=W8 (K:=K) (H:=H) w;refine⟨_,rfl,_,rfl,.inl ⟨ad,_,rfl,e,_,rfl,Z3 ?_⟩⟩;refine⟨_,rfl,.inl ⟨ad,_,rfl,.inr e,rfl,_,rfl,Z1 (fun z=>by have:=V.int.inj z;simp at this<;>omega) ?_⟩⟩;refine⟨_,rfl,ad,_,_,_,rfl,rfl,e,Zj (j:=0) rfl,_,ty2,_,rfl,c3,c4,_,rfl,Z3 ?_⟩;refine⟨_,rfl,ad,_,_,_,rfl,rfl,e,Zj (j:=0) rfl,?_⟩;refine⟨_,rfl,rfl,_,rfl,Z1 (fun z=>h1 (V.str.inj z)) ?_⟩;refine⟨_,rfl,rfl,_,rfl,Z1 (fun z=>h2 (V.str.inj z)) ?_⟩;refine⟨_,rfl,by rw[fJ];simp,fun q hq2=>⟨q,_,rfl,.inr (on Zd),rfl,rfl,_,rfl,Xr (ss:=["and","or"]) h3 ?_⟩⟩;have s1:=Zi (o:=.tup [.str "and",.str "or"]) hq2;have e1:=om s1 K _ _ e;generalize upd H q (.tup [.str "and",.str "or"])=H1 at s1 e1 ⊢;refine⟨_,rfl,rfl,_,rfl,Z1 (fun z=>h4 (V.str.inj z)) ?_⟩;exact⟨_,rfl,w,_,_,true,rfl,rfl,T.bh,.inl ⟨rfl,i,hm⟩,_,rfl,Yo ⟨_,rfl,.inl ⟨ad,_,rfl,.inr (e1),_,rfl,_,w,_,i,rfl,rfl,T.bh,hm,rfl,qN (fun z=>hi (V.int.inj z)) (k _ s1)⟩⟩⟩
def JO(K:W.Frag)(a:Adr):Sp:=fun vs H Q _=>∃(v:V) (ad:Addr) (us:List V) (c:Lb),vs=[v]/\v=.ref ad/\UI K H ad us c/\lbOkB c us.length/\∀H' b,Ze H H'->SqT K H' b us->Q (.ref b) H'
def cutV_two(x y:V)(vs:List V):W7 (x::y::vs) (some 2) none=vs:=by
 have:=Wd (x::y::vs) 2 (by simp);exact this
def yT(x:V)(vs:List V):W7 (x::vs) (some 1) none=vs:=by
 have:=Wd (x::vs) 1 (by simp);exact this
def yy{k:Int}(h:0<k)(hn:(k:Int)<=n):¬(HT.sIx n 0 (some k)=0/\HT.sIx n n none=n):=by
 rintro⟨h1,_⟩;have h2:¬(k<0):=by omega
 unfold HT.sIx at h1;simp only[h2,gU] at h1;omega
def zX:Okd P w K mg base a 1 a.y7 a.z7 dk JO:=fun T hw=>by
 refine okF T.bA.f yn fun de A outer s H vs Q E hr h=>?_;obtain⟨v,ad,us,c,rfl,rfl,sh,ok,k⟩:=h;refine⟨_,(@Zc _ _ _ _ _ (@Zn _ _ (1) _ _ _ _ yn.nd rfl (.inl rfl) (@Zv _ _ _ _ _ _ _ (ZN (K:=K) rfl) (pv 0) Zf (fun _ _=>rfl)) rfl (.inl rfl)) (@Zc _ _ _ _ _ (@ZZ _ _ _ _ _ _ _ _ (@Zw _ _ _ _ _ _ _ _ (WB (K:=K) rfl) (pv 1) (@ZV _ _ _ _ _ (@Za _ _ _ _ _ Zz (@Za _ _ _ _ _ Zz Zb rfl) rfl)) (by with_unfolding_all rfl)) (@Zh _ _ _ (@Zm _ _ _ _ (@ZV _ _ _ _ _ Zb))) ZD) (@Zc _ _ _ _ _ (@ZZ _ _ _ _ _ _ _ _ (@Zw _ _ _ _ _ _ _ _ (WB (K:=K) rfl) (pv 1) (@ZV _ _ _ _ _ (@Za _ _ _ _ _ Zz (@Za _ _ _ _ _ Zz Zb rfl) rfl)) (by with_unfolding_all rfl)) (@Zh _ _ _ (@Zm _ _ _ _ (@Zv _ _ _ _ _ _ _ (ZN (K:=K) rfl) (pv 0) Zf (fun _ _=>rfl)))) ZD) (@Zc _ _ _ _ _ (@ZZ _ _ _ _ _ _ _ _ (@Zw _ _ _ _ _ _ _ _ Yr (pv 1) Zz (ZI _)) (@Zh _ _ _ (@Zm _ _ _ _ (Z8 (WU (K:=K) rfl) (pv 0) (Z5 Zf) Ys))) ZD) (@Zh _ _ _ (@Zm _ _ _ _ (Z8 (WU (K:=K) rfl) (pv 0) (Z5 Zf) Ys))))))),?_⟩;obtain⟨xs,e⟩:=sh.tup;refine⟨_,rfl,ad,_,_,_,rfl,rfl,e,Zj (j:=0) rfl,?_⟩;refine⟨_,rfl,by rw[fJ];simp,fun q hq2=>⟨q,_,rfl,.inr (on Zd),rfl,rfl,_,rfl,?_⟩⟩;have s1:=Zi (o:=.tup [.str "yes",.str "sign"]) hq2;generalize upd H q (.tup [.str "yes",.str "sign"])=H1 at s1 ⊢;have sh1:=sh.mono (om s1);clear e xs sh
 revert sh1 ok
 cases c with
 |yes=>
  intro ok sh;refine U9 (ss:=["yes","sign"]) (by decide +kernel) ⟨by rw[fJ];simp,fun r hr=>?_⟩;have h0:=sh.1;subst h0;exact k _ r (s1.trans (Zi hr)) (on Zd)
 |sign z=>
  intro ok sh;refine U9 (ss:=["yes","sign"]) (show("sign" : Str)∈(["yes","sign"]:List Str) by decide +kernel) ⟨by rw[fJ];simp,fun r hr=>?_⟩;have h0:=sh.1;subst h0;exact k _ r (s1.trans (Zi hr)) (on Zd)
 |op w=>
  intro ok sh;obtain⟨h1,h2,h3,h4,h5⟩:=JC w (by rcases ok with ok|ok;exact g8 _ ok.1;exact gz _ ok.1);refine Xr (ss:=["yes","sign"]) h5 ?_;refine⟨_,rfl,by rw[fJ];simp,fun q3 hq3=>⟨q3,_,rfl,.inr (on Zd),rfl,rfl,_,rfl,Xr (ss:=["and","or"]) h3 ?_⟩⟩;have s2:=Zi (o:=.tup [.str "and",.str "or"]) hq3;generalize upd H1 q3 (.tup [.str "and",.str "or"])=H2 at s2 ⊢;refine⟨_,rfl,rfl,_,rfl,Z1 (fun z=>h4 (V.str.inj z)) ?_⟩;refine⟨_,rfl,_,rfl,ad,_,rfl,(om s2 K _ _ sh),yy (by decide) (by simp;omega),fun r hr=>?_⟩;rw[yT];exact k _ r ((s1.trans s2).trans (Zi hr)) (on Zd)
 |wit m=>
  intro ok sh;refine Xr (ss:=["yes","sign"]) (show("within" : Str)∉(["yes","sign"]:List Str) by decide +kernel) ?_;refine⟨_,rfl,by rw[fJ];simp,fun q3 hq3=>⟨q3,_,rfl,.inr (on Zd),rfl,rfl,_,rfl,Xr (ss:=["and","or"]) (show("within" : Str)∉(["and","or"]:List Str) by decide +kernel) ?_⟩⟩;have s2:=Zi (o:=.tup [.str "and",.str "or"]) hq3;generalize upd H1 q3 (.tup [.str "and",.str "or"])=H2 at s2 ⊢;refine⟨_,rfl,rfl,_,rfl,Xt rfl ?_⟩;refine⟨_,rfl,_,rfl,ad,_,rfl,(om s2 K _ _ sh),yy (by decide) (by simp;omega),fun r hr=>?_⟩;rw[cutV_two];exact k _ r ((s1.trans s2).trans (Zi hr)) (on Zd)
 |many w=>
  intro ok sh;have hw0:w∈(["and","or"]:List Str):=by rcases ok.1 with rfl|rfl<;>simp
  obtain⟨h1,h2,h3,h4,_⟩:=V3 w hw0;obtain⟨b,sh1,sh2⟩:=sh;refine Xr (ss:=["yes","sign"]) h4 ?_;refine⟨_,rfl,by rw[fJ];simp,fun q3 hq3=>⟨q3,_,rfl,.inr (on Zd),rfl,rfl,_,rfl,U9 (ss:=["and","or"]) hw0 ?_⟩⟩;have s2:=Zi (o:=.tup [.str "and",.str "or"]) hq3;generalize upd H1 q3 (.tup [.str "and",.str "or"])=H2 at s2 ⊢;exact⟨_,rfl,ad,_,_,_,rfl,rfl,(om s2 K _ _ sh1),Zj (j:=1) rfl,k _ b (s1.trans s2) (om s2 K _ _ sh2)⟩
def zJ:∀ts:List Tr,ts.length<=(Yi ts).length
 |[]=>by simp[Yi]
 |t::r=>by
  have:=zJ r;rw[Yi,fK,gH,WS t,fK];simp;omega
def xp(K:W.Frag)(a:Adr):Sp:=fun vs H Q _=>∃(v:V) (t:Tr) (n:Nat),vs=[v]/\At K n H v t/\(post t).length<=2000000/\∀H' l us,Ze H H'->H l=none->H' l=some (.lst us)->AtL K n H' us (post t)->Q (.ref l) H'
def xf:Okd P w K mg base a 3 a.y8 a.z8 dk xp:=fun T hw=>by
 refine okF T.bm.f X2 fun de A outer s H vs Q E hr h=>?_;obtain⟨v,t,n,rfl,hat,hz,k⟩:=h;refine⟨_,(@Zc _ _ _ _ _ (@Zn _ _ (1) _ _ _ _ X2.nd rfl (.inl rfl) (@ZW _ _ _ _ Zb) rfl (.inl rfl)) (@Zc _ _ _ _ _ (@Zn _ _ (2) _ _ _ _ X2.nd rfl (.inl rfl) (@ZW _ _ _ _ (@Za _ _ _ _ _ (pv 0) Zb rfl)) rfl (.inl rfl)) (@Zc _ _ _ _ _ (VN gJ (UX (K:=K) rfl (pv 2) (fun _=>rfl)) (@Zc _ _ _ _ _ (@Zn _ _ (3) _ _ _ _ X2.nd rfl (.inl rfl) (pe_bm0 gK PySem.F.slot_list_pop PySem.F.type_list_pop mt_pop (pv 2)) rfl (.inl rfl)) (@Zc _ _ _ _ _ (@ZZ _ _ _ _ _ _ _ _ (@YY _ _ _ _ (Xf (ZA T.bG (jF T hw) hr rfl rfl (@Za _ _ _ _ _ (pv 3) Zb rfl)))) (@Zh _ _ _ Jc) ZD) (@Zc _ _ _ _ _ (@Yh _ _ _ _ (Xv gK gW gX ZY (pv 1) (@Za _ _ _ _ _ (pv 3) Zb rfl)) rfl) (@Zh _ _ _ (@Yh _ _ _ _ (Xv gK PySem.F.slot_list_extend PySem.F.type_list_extend (Kw (K:=K) rfl) (pv 2) (@Za _ _ _ _ _ (ZA T.bA (zX T hw) hr rfl rfl (@Za _ _ _ _ _ (pv 3) Zb rfl)) Zb rfl)) rfl)))))) (@Zh _ _ _ (@Zm _ _ _ _ (yD (K:=K) rfl (pv 1) (Z5 (Vq XZ Zf)))))))),?_⟩;cases n with
 |zero=>exact hat.elim
 |succ n=>
  refine⟨by decide,fun F hF=>?_⟩;have s1:=Zi (o:=.lst []) hF;have e1:(upd H F (.lst [])) F=some (.lst []):=Zd;generalize upd H F (.lst [])=H1 at s1 e1 ⊢;refine⟨_,rfl,by rw[fJ];simp,fun W hW=>?_⟩;have s2:=Zi (o:=.lst [v]) hW;have e2:(upd H1 W (.lst [v])) W=some (.lst [v]):=Zd;have nFW:F≠W:=ne_new e1 hW;have e1':=s2 _ _ e1;generalize upd H1 W (.lst [v])=H2 at s2 e2 e1' ⊢;have hW0:H W=none:=s1.free hW;have at2:=hat.mono (om (s1.trans s2));refine⟨fun m U H'=>∃(z:Option V) (ws fs:List V) (tw tf:List Tr),U=[some v,some (.ref F),some (.ref W),z]/\Ze H H'/\H' F=some (.lst fs)/\H' W=some (.lst ws)/\AtL K (n+1) H' ws tw/\AtL K (n+1) H' fs tf/\tf++(Yi tw).reverse=(post t).reverse/\m=(Yi tw).length,⟨_,_,[v],[],[t],[],rfl,s1.trans s2,e1',e2,AtL.one at2,AtL.nil,by rw[jn];rfl,rfl⟩,?_⟩;rintro m U H3 ⟨z,ws,fs,tw,tf,rfl,s3,hF3,hW3,aw,af,he,rfl⟩;have hlen:tf.length+(Yi tw).length=(post t).length:=by have:=fS List.length he;simpa using this
  have hwl:=zJ tw;have hwl2:=aw.1;have hfl2:=af.1;refine⟨_,rfl,!ws.isEmpty,?tru,?_⟩
  case tru=>exact .inl ⟨_,oj hW3,rfl⟩
  cases hws:ws.isEmpty with
  |true=>
   have e0:ws=[]:=List.isEmpty_iff.mp hws;subst e0;have et:tw=[]:=gT.mp hwl2.symm;subst et;refine Z3 ?_;rw[Yi,List.reverse_nil,iB] at he;refine⟨_,rfl,_,rfl,_,rfl,F,_,rfl,rfl,oj hF3,fun p hp=>?_⟩;have ar:=af.rev;rw[he,List.reverse_reverse] at ar;exact k _ p _ (s3.trans (Zi hp)) (s3.free hp) Zd (ar.mono (om (Zi hp)))
  |false=>
   have hne:ws≠[]:=fun e=>by rw[e] at hws;cases hws
   obtain⟨us,u,rs,r,ew,etw,aus,au⟩:=aw.last hne;subst ew etw;refine Yo ?_;refine⟨fun U H'=>∃(z:Option V) (ws fs:List V) (tw tf:List Tr),U=[some v,some (.ref F),some (.ref W),z]/\Ze H H'/\H' F=some (.lst fs)/\H' W=some (.lst ws)/\AtL K (n+1) H' ws tw/\AtL K (n+1) H' fs tf/\tf++(Yi tw).reverse=(post t).reverse/\(Yi tw).length<(Yi (rs++[r])).length,?_,?_⟩
   ·rintro σ' H' ⟨z',ws',fs',tw',tf',rfl,a1,a2,a3,a4,a5,a6,a7⟩;exact⟨_,a7,z',ws',fs',tw',tf',rfl,a1,a2,a3,a4,a5,a6,rfl⟩
   refine⟨_,rfl,.inl ⟨rfl,_,oj hW3⟩,W,_,u,rfl,rfl,hW3,by simp,?_⟩;rw[List.dropLast_concat];have x4:Zs W H3 (upd H3 W (.lst us)):=(Zs.refl H3).upd;have t4:YH H3 (upd H3 W (.lst us)):=Zs.tup x4 hW3;have hF4:(upd H3 W (.lst us)) F=some (.lst fs):=X3 hF3 nFW;have hW4:(upd H3 W (.lst us)) W=some (.lst us):=Zd;have s4:Ze H (upd H3 W (.lst us)):=((Ze.x s3).upd).same hW0;generalize upd H3 W (.lst us)=H4 at x4 t4 hF4 hW4 s4 ⊢;have au4:=au.mono t4;refine⟨_,rfl,u,true,rfl,.inl ⟨rfl,au4.fmT⟩,fun H5 s5=>⟨_,rfl,Z3 ?_⟩⟩;have hF5:=s5 _ _ hF4;have hW5:=s5 _ _ hW4;have tur:=post_turn rs r;have tl:=fS List.length tur;simp at tl;refine⟨_,rfl,.inl ⟨rfl,_,oj hF5⟩,_,rfl,F,_,_,rfl,rfl,hF5,by rw[fJ];omega,?_⟩;have x6:Zs F H5 (upd H5 F (.lst (fs++[u]))):=(Zs.refl H5).upd;have t6:YH H5 (upd H5 F (.lst (fs++[u]))):=Zs.tup x6 hF5;have hF6:(upd H5 F (.lst (fs++[u]))) F=some (.lst (fs++[u])):=Zd;have hW6:(upd H5 F (.lst (fs++[u]))) W=some (.lst us):=X3 hW5 (fT nFW);have s6:Ze H (upd H5 F (.lst (fs++[u]))):=((Ze.x (s4.trans s5)).upd).same hF;generalize upd H5 F (.lst (fs++[u]))=H6 at x6 t6 hF6 hW6 s6 ⊢;have t46:YH H3 H6:=t4.trans ((om s5).trans t6);obtain⟨ad7,ks7,eu7,sh7,ok7,hl7,hq7⟩:=au.mono t46;refine⟨_,rfl,.inl ⟨rfl,_,oj hW6⟩,_,rfl,u,ad7,ks7,r.lb,rfl,eu7,sh7,by rw[hl7];exact ok7.b,fun H7 b s7 eb=>?_⟩;have aL:AtL K n H7 ks7 r.ks:=AtL.mono (om s7) ⟨hl7,hq7⟩;have hW7:=s7 _ _ hW6;have hkl:=aL.1;have hll:=zJ (rs++r.ks);simp at hll;have hul:=aus.1;refine⟨W,b,_,_,rfl,rfl,hW7,eb,by rw[fJ];omega,?_⟩;have x8:Zs W H7 (upd H7 W (.lst (us++ks7))):=(Zs.refl H7).upd;have t8:YH H7 (upd H7 W (.lst (us++ks7))):=Zs.tup x8 hW7;have t38:YH H3 (upd H7 W (.lst (us++ks7))):=t46.trans ((om s7).trans t8);refine⟨_,us++ks7,fs++[u],rs++r.ks,tf++[r],rfl,((Ze.x (s6.trans s7)).upd).same hW0,X3 (s7 _ _ hF6) nFW,Zd,(aus.mono t38).app ((aL.le (iN n)).mono t8),(af.mono t38).app (AtL.one (au.mono t38)),?_,?_⟩
   ·rw[tur] at he;rw[iO];exact he
   ·omega
def iV(is:List Nat):List V:=is.map fun(i:Nat)=>V.int ((i:Nat):Int)
def Vd(is:List Nat):(iV is).length=is.length:=fF _
def nK_kV(is:List Nat):(nK is).map kV=iV is:=by unfold nK iV;rw[gS];rfl
def core_inn{n:Nat}{a:Addr}{ks:List Tr}(sh:UI K H a vs c)(hl:vs.length=ks.length)(ok:Xp c ks.length)(hc:isC (.node c ks)=true)(hne:ks≠[]):Zy c ≠ "within" /\ (∃x xs,SqT K H a (.str (Zy c)::x::xs))/\WH c is=.inr (Zy c)::nK is:=by
 have hk:0<ks.length:=iR.mpr hne;cases c with
 |yes=>exact absurd (gT.mp ok) hne
 |sign z=>exact absurd (gT.mp ok.1) hne
 |wit m=>rw[YG] at hc;unfold Us at hc;simp at hc
 |op w=>
  cases vs with
  |nil=>simp at hl;omega
  |cons x xs=>exact⟨(YX w (WZ ok)).2.2.1,⟨x,xs,sh⟩,rfl⟩
 |many w=>
  obtain⟨b,h1,h2⟩:=sh;exact⟨by rcases ok.1 with rfl|rfl<;>decide +kernel,⟨.ref b,[],h1⟩,rfl⟩
def core_leaf{a:Addr}{ks:List Tr}(sh:UI K H a vs c)(ok:Xp c ks.length)(hc:isC (.node c ks)=true)(hne:ks=[]):SqT K H a ((WH c []).map kV):=by
 subst hne;cases c with
 |yes=>exact sh.2
 |sign z=>exact sh.2
 |wit m=>rw[YG] at hc;unfold Us at hc;simp at hc
 |op w=>rcases ok with⟨_,h⟩|⟨_,h⟩<;>cases h
 |many w=>rw[YG] at hc;unfold Us at hc;simp at hc
def lb8(ok:Xp c n):n<=8:=by
 cases c with
 |yes=>have h:n=0:=ok;omega
 |sign s=>have h:n=0:=ok.1;omega
 |op w=>rcases ok with o|o;have h:n=1:=o.2;omega;have h:n=2:=o.2;omega
 |wit m=>have h:n=2:=ok.2;omega
 |many w=>exact ok.2
def cut_to1{k:Nat}(h:k<n):¬(HT.sIx n 0 none=0/\HT.sIx n n (some (k:Int))=n):=by
 rintro⟨_,h1⟩;have h2:¬((k:Int)<0):=by omega
 unfold HT.sIx at h1;simp only[h2,gU] at h1;omega
def Jq(K:W.Frag)(a:Adr):Sp:=fun vs H Q _=>∃(v:V) (t:Tr) (n:Nat) (l:Addr) (is:List Nat),vs=[v,.ref l]/\At K n H v t/\isC t=true/\H l=some (.lst (iV is))/\is.length=t.ks.length/\∀H' b,Ze H H'->SqT K H' b ((WH t.lb is).map kV)->Q (.ref b) H'
def JN:Okd P w K mg base a 1 a.y9 a.z9 dD Jq:=fun T hw=>by
 refine okF T.bQ.f yh fun de A outer s H vs Q E hr h=>?_;obtain⟨v,t,n,l,is,rfl,hat,hc,hl,hil,k⟩:=h;refine⟨_,(@Zc _ _ _ _ _ (@ZZ _ _ _ _ _ _ _ _ (@YY _ _ _ _ (UX (K:=K) rfl (pv 1) (fun _=>rfl))) (@Zh _ _ _ (@Zm _ _ _ _ (pv 0))) ZD) (@Zc _ _ _ _ _ (@Zn _ _ (2) _ _ _ _ yh.nd rfl (.inl rfl) (Jw (@Zw _ _ _ _ _ _ _ _ Yr (@Zv _ _ _ _ _ _ _ (ZN (K:=K) rfl) (pv 0) Zf (fun _ _=>rfl)) Zz (ZI _)) (Z8 (WU (K:=K) rfl) (pv 0) Ys (Z5 Zf)) (Z8 (WU (K:=K) rfl) (pv 0) Ys (Z5 Zf))) rfl (.inl rfl)) (@Zh _ _ _ (@Zm _ _ _ _ (@ZP _ _ _ _ _ _ _ _ (xQ (K:=K) rfl) (pv 2) (ZM (Yj (K:=K) rfl) rfl T.aK oz (@Za _ _ _ _ _ (pv 1) Zb rfl))))))),?_⟩;cases n with
 |zero=>exact hat.elim
 |succ n=>
  obtain⟨ad,us,rfl,sh,ok,hul,hq⟩:=hat;have hc':isC (.node t.lb t.ks)=true:=by rw[<- Tr.eta];exact hc
  refine⟨_,rfl,!(iV is).isEmpty,.inl ⟨_,oj hl,rfl⟩,?_⟩;cases his:(iV is).isEmpty with
  |true=>
   have e0:iV is=[]:=List.isEmpty_iff.mp his;have e1:is=[]:=gT.mp (by rw[<- Vd,e0];rfl);subst e1;refine Yo ⟨_,rfl,k H ad (fun _ _ e=>e) (core_leaf sh ok hc' (gT.mp hil.symm))⟩
  |false=>
   have hne:t.ks≠[]:=fun e=>by
    have:is=[]:=gT.mp (by rw[hil,e];rfl);rw[this] at his;cases his
   obtain⟨hw,⟨x,xs,ea⟩,hk⟩:=core_inn (n:=n) (is:=is) sh hul ok hc' hne;refine Z3 ?_;refine⟨_,rfl,ad,_,_,_,rfl,rfl,ea,Zj (j:=0) rfl,rfl,_,rfl,Z1 (fun z=>hw (V.str.inj z)) ?_⟩;have h8:=lb8 ok;refine⟨_,rfl,_,rfl,ad,_,rfl,ea,cut_to1 (k:=1) (by simp),fun q hq=>?_⟩;have ec:W7 (V.str (Zy t.lb)::x::xs) none (some 1)=[V.str (Zy t.lb)]:=cutV_to (V.str (Zy t.lb)::x::xs) 1 (by simp);rw[ec];have s1:=Zi (o:=.tup [V.str (Zy t.lb)]) hq;have e1:(upd H q (.tup [V.str (Zy t.lb)])) q=some (.tup [V.str (Zy t.lb)]):=Zd;generalize upd H q (.tup [V.str (Zy t.lb)])=H1 at s1 e1 ⊢;refine⟨_,rfl,_,rfl,l,_,rfl,.inl ⟨oj (s1 _ _ hl),fun b hb=>?_⟩⟩;have s2:=Zi (o:=.tup (iV is)) hb;have e2:(upd H1 b (.tup (iV is))) b=some (.tup (iV is)):=Zd;generalize upd H1 b (.tup (iV is))=H2 at s2 e2 ⊢;refine⟨q,b,_,_,rfl,rfl,on (s2 _ _ e1),on e2,by simp,by rw[Vd,fJ];simp;omega,fun z=>?_,fun _ c hc2=>?_⟩
   ·rw[z] at his;cases his
   ·refine k _ c ((s1.trans s2).trans (Zi hc2)) ?_;rw[hk,fZ,nK_kV];exact on Zd
def tput2(v1 v2:V):Yp "rows" v2 ([("parts",v1)]:List (Str×V))=([("parts",v1),("rows",v2)]:List (Str×V)):=by simp only[Yp,if_neg (by decide +kernel:¬(("parts" : Str) = "rows"))]
def tput3(v1 v2 v3:V):Yp "numbers" v3 ([("parts",v1),("rows",v2)]:List (Str×V))=([("parts",v1),("rows",v2),("numbers",v3)]:List (Str×V)):=by simp only[Yp,if_neg (by decide +kernel:¬(("parts" : Str) = "numbers")),if_neg (by decide +kernel:¬(("rows" : Str) = "numbers"))]
def vo(K:W.Frag)(a:Adr):Sp:=fun vs H Q _=>∃r dx,vs=[.ref r]/\H r=some (.ins a.C_Table dx [])/\∀H' P R D,Zs r H H'->H P=none->H R=none->H D=none->r≠P->r≠R->r≠D->TbK K a.Pm a.C_Table H' r P R D []->Q .non H'
def vg:Okd P w K mg base a 1 a.y10 a.z10 dh vo:=fun T hw=>by
 refine okF T.bu.f vt fun de A outer s H vs Q E hr h=>?_;obtain⟨r,dx,rfl,hr0,k⟩:=h;refine⟨_,(@Zc _ _ _ _ _ (qC (pv 0) (@ZW _ _ _ _ Zb) rfl) (@Zc _ _ _ _ _ (qC (pv 0) (@ZW _ _ _ _ Zb) rfl) (@Zh _ _ _ (qC (pv 0) (pe_xnew (Pm:=a.Pm) hw) rfl)))),?_⟩;refine⟨by decide,fun P hP=>⟨_,rfl,r,_,dx,[],rfl,Zi hP _ _ hr0,T.av,T.bc,by decide,?_⟩⟩;have nP:P≠r:=fun z=>by rw[z,hr0] at hP;cases hP
 have s1:=Zi (o:=.lst []) hP;have e1:(upd H P (.lst [])) P=some (.lst []):=Zd;generalize upd H P (.lst [])=H1 at s1 e1 ⊢;have x2:Zs r H (upd H1 r (.ins a.C_Table dx (Yp "parts" (.ref P) []))):=(Ze.x s1).upd;have hr2:(upd H1 r (.ins a.C_Table dx (Yp "parts" (.ref P) []))) r=some (.ins a.C_Table dx [("parts",.ref P)]):=by rw[Zd,tput1]
 have e2:(upd H1 r (.ins a.C_Table dx (Yp "parts" (.ref P) []))) P=some (.lst []):=X3 e1 nP;generalize upd H1 r (.ins a.C_Table dx (Yp "parts" (.ref P) []))=H2 at x2 hr2 e2 ⊢;refine⟨by decide,fun R hR=>⟨_,rfl,r,_,dx,_,rfl,Zi hR _ _ hr2,T.av,T.aE,by simp,?_⟩⟩;have nR:R≠r:=fun z=>by rw[z,hr2] at hR;cases hR
 have nRP:R≠P:=fun z=>by rw[z,e2] at hR;cases hR
 have s3:=Zi (o:=.lst []) hR;have e3:(upd H2 R (.lst [])) R=some (.lst []):=Zd;have e3P:=s3 _ _ e2;generalize upd H2 R (.lst [])=H3 at s3 e3 e3P ⊢;have x4:Zs r H (upd H3 r (.ins a.C_Table dx (Yp "rows" (.ref R) [("parts",.ref P)]))):=(x2.trans (Ze.x s3)).upd;have hr4:(upd H3 r (.ins a.C_Table dx (Yp "rows" (.ref R) [("parts",.ref P)]))) r=some (.ins a.C_Table dx [("parts",.ref P),("rows",.ref R)]):=by rw[Zd,tput2]
 have e4P:(upd H3 r (.ins a.C_Table dx (Yp "rows" (.ref R) [("parts",.ref P)]))) P=some (.lst []):=X3 e3P nP;have e4R:(upd H3 r (.ins a.C_Table dx (Yp "rows" (.ref R) [("parts",.ref P)]))) R=some (.lst []):=X3 e3 nR;generalize upd H3 r (.ins a.C_Table dx (Yp "rows" (.ref R) [("parts",.ref P)]))=H4 at x4 hr4 e4P e4R ⊢;refine fun D hD=>⟨_,rfl,r,_,dx,_,rfl,Zi hD _ _ hr4,T.av,T.ao,by simp,?_⟩;have nD:D≠r:=fun z=>by rw[z,hr4] at hD;cases hD
 have s5:=Zi (o:=DxO a.Pm D []) hD;have e5:(upd H4 D (DxO a.Pm D [])) D=some (DxO a.Pm D []):=Zd;have e5P:=s5 _ _ e4P;have e5R:=s5 _ _ e4R;generalize upd H4 D (DxO a.Pm D [])=H5 at s5 e5 e5P e5R ⊢;refine k _ P R D ((x4.trans (Ze.x s5)).upd) hP (x2.free nR hR) (x4.free nD hD) (fT nP) (fT nR) (fT nD) ⟨⟨dx,by rw[Zd,tput3]⟩,⟨1,[],X3 e5P nP,AtL.nil⟩,⟨[],X3 e5R nR,rfl,fun e h=>(by cases h),fun i t e h=>(by simp at h),X3 e5 nD⟩,by simp,fT nRP⟩
def zh(K:W.Frag)(a:Adr):Sp:=fun vs H Q _=>∃r P R D ps v t n b ks,vs=[.ref r,v,.ref b]/\TbK K a.Pm a.C_Table H r P R D ps/\At K n H v t/\SqT K H b (ks.map kV)/\Uv ps t ks/\ps.length<4000/\∀H' (i:Nat),Vp P R D H H'->TbK K a.Pm a.C_Table H' r P R D (WN ps t)->(WN ps t)[i]?=some t->Q (.int (i:Int)) H'
def tat_ok{t:Tr}(h:At K n H v t):Xp t.lb t.ks.length:=by
 cases n with
 |zero=>exact h.elim
 |succ n=>obtain⟨_,_,_,_,ok,_⟩:=h;exact ok
def lkP:([("parts",v1),("rows",v2),("numbers",v3)]:List (Str×V)).lookup ("parts" : Str)=some v1:=rfl
def lkR:([("parts",v1),("rows",v2),("numbers",v3)]:List (Str×V)).lookup ("rows" : Str)=some v2:=by
 have e:(("rows" : Str) == "parts")=false:=by decide +kernel
 rw[gC,e];rfl
def lkD:([("parts",v1),("rows",v2),("numbers",v3)]:List (Str×V)).lookup ("numbers" : Str)=some v3:=by
 have e:(("numbers" : Str) == "parts")=false:=by decide +kernel
 have e2:(("numbers" : Str) == "rows")=false:=by decide +kernel
 rw[gC,e]
 show List.lookup _ _=_
 rw[gC,e2];rfl
def zq:Okd P w K mg base a 1 a.y12 a.z12 dE zh:=fun T hw=>by
 refine okF T.aH.f zd fun de A outer s H vs Q E hr h=>?_;obtain⟨r,P,R,D,ps,v,t,n,b,ks,rfl,tb,hat,hb,hrow,hsz,k⟩:=h;refine⟨_,(@Zc _ _ _ _ _ (@ZZ _ _ _ _ _ _ _ _ (pt_cmp (pc_xnotin (K:=K) (Pm:=a.Pm) rfl hw (Yq.units1 hr) (pv 2) (XU (K:=K) rfl (pv 0) rfl))) (@Zc _ _ _ _ _ (ps_xput (K:=K) (Pm:=a.Pm) rfl hw (Yq.units1 hr) (XU (K:=K) rfl (pv 0) rfl) (pv 2) (Zl (Zu (K:=K) rfl) rfl T.ay ox (@Za _ _ _ _ _ (XU (K:=K) rfl (pv 0) rfl) Zb rfl)) rfl) (@Zc _ _ _ _ _ (@Yh _ _ _ _ (Xv gK gW gX ZY (XU (K:=K) rfl (pv 0) rfl) (@Za _ _ _ _ _ (pv 1) Zb rfl)) rfl) (@Zh _ _ _ (@Yh _ _ _ _ (Xv gK gW gX ZY (XU (K:=K) rfl (pv 0) rfl) (@Za _ _ _ _ _ (pv 2) Zb rfl)) rfl)))) ZD) (@Zh _ _ _ (@Zm _ _ _ _ (pe_xget (K:=K) (Pm:=a.Pm) rfl hw (Yq.units1 hr) (XU (K:=K) rfl (pv 0) rfl) (pv 2) (fun _ _=>rfl))))),?_⟩;obtain⟨⟨dx,ho⟩,⟨np,pv,hP,aP⟩,⟨rows,hR,rl,hrt,hrr,hD⟩,nd,pr⟩:=id tb;have rkl:(rows.map (·.1)).length=ps.length:=by rw[fF];exact rl
 obtain⟨knd,known⟩:=row_known (rks:=rows.map (·.1)) nd rkl aP.oks fun i t ks h1 h2=>by
  rw[fL] at h2;obtain⟨e,he,rfl⟩:=iF.mp h2;exact hrr i t e h1 he
 obtain⟨kin,kout⟩:=known (tat_ok hat) hrow;have hkeys:∀e∈Vj 0 rows,SqT K H e.2.1 (e.1.map kV):=fun e he=>hrt _ (xa he);refine⟨_,rfl,_,rfl,r,_,dx,_,_,rfl,ho,T.av,T.ao,lkD,D,_,rfl,⟨_,ks,b,hD,rfl,hb,hkeys,rfl⟩,?_⟩;rw[jV]
 by_cases ht:t∈ps
 ·obtain⟨i,hi,e⟩:=gI ht;have hi':ps[i]?=some t:=by rw[<- e];exact fG hi
  have hv:=val_at (n:=0) knd (kin i hi');rw[l7] at hv;rw[hv];refine⟨_,rfl,Z3 ?_⟩;exact⟨_,rfl,r,_,dx,_,_,rfl,ho,T.av,T.ao,lkD,_,rfl,D,_,rfl,⟨_,ks,b,hD,rfl,hb,hkeys,by rw[jV,hv]⟩,k H i .refl (by rw[Uo ht];exact tb) (by rw[Uo ht];exact hi')⟩
 ·have hv:=val_no (n:=0) (kout ht);rw[hv];refine⟨_,rfl,Yo ?_⟩;have aR:=aP.1;refine⟨_,rfl,r,_,dx,_,_,rfl,ho,T.av,T.aE,lkR,.inl ⟨R,_,rfl,.inl (oj hR),_,rfl,r,_,dx,_,_,rfl,ho,T.av,T.ao,lkD,_,rfl,D,_,rfl,⟨_,ks,b,hD,rfl,hb,hkeys,by rw[jV];exact hv,by rw[Jd,fJ];omega,rfl⟩,?_⟩⟩;have ep:Vj 0 rows++[(ks,b,V.int (((rows.map fun e=>V.ref e.2).length:Nat):Int))]=Vj 0 (rows++[(ks,b)]):=by
   rw[vW,fF,l7]
  rw[ep];have nPD:P≠D:=Vk hP hD (by intro z;cases z);have nRD:R≠D:=Vk hR hD (by intro z;cases z);have nrD:r≠D:=Vk ho hD (by intro z;cases z);have ho1:(upd H D (DxO a.Pm D (Vj 0 (rows++[(ks,b)])))) r=_:=X3 ho nrD;have hP1:(upd H D (DxO a.Pm D (Vj 0 (rows++[(ks,b)])))) P=_:=X3 hP nPD;have hR1:(upd H D (DxO a.Pm D (Vj 0 (rows++[(ks,b)])))) R=_:=X3 hR nRD;have hD1:(upd H D (DxO a.Pm D (Vj 0 (rows++[(ks,b)])))) D=_:=Zd;have s1:Vp P R D H (upd H D (DxO a.Pm D (Vj 0 (rows++[(ks,b)])))):=fun c o _ _ n3 e=>by rw[Zx n3];exact e
  generalize upd H D (DxO a.Pm D (Vj 0 (rows++[(ks,b)])))=H1 at ho1 hP1 hR1 hD1 s1 ⊢;refine⟨_,rfl,r,_,dx,_,_,rfl,ho1,T.av,T.bc,lkP,.inl ⟨rfl,_,oj hP1⟩,_,rfl,P,_,_,rfl,rfl,hP1,by rw[fJ];omega,?_⟩;have nrP:r≠P:=Vk ho hP (by intro z;cases z);have ho2:(upd H1 P (.lst (pv++[v]))) r=_:=X3 ho1 nrP;have hP2:(upd H1 P (.lst (pv++[v]))) P=_:=Zd;have hR2:(upd H1 P (.lst (pv++[v]))) R=_:=X3 hR1 (fT pr);have hD2:(upd H1 P (.lst (pv++[v]))) D=_:=X3 hD1 (fT nPD);have s2:Vp P R D H (upd H1 P (.lst (pv++[v]))):=fun c o n1 n2 n3 e=>by rw[Zx n1];exact s1 _ _ n1 n2 n3 e
  generalize upd H1 P (.lst (pv++[v]))=H2 at ho2 hP2 hR2 hD2 s2 ⊢;refine⟨_,rfl,r,_,dx,_,_,rfl,ho2,T.av,T.aE,lkR,.inl ⟨rfl,_,oj hR2⟩,_,rfl,R,_,_,rfl,rfl,hR2,by rw[fF,fJ];omega,?_⟩;have nrR:r≠R:=Vk ho hR (by intro z;cases z);have er:(rows.map fun e=>V.ref e.2)++[V.ref b]=(rows++[(ks,b)]).map fun e=>V.ref e.2:=by rw[gb];rfl
  rw[er];have ho3:(upd H2 R (.lst ((rows++[(ks,b)]).map fun e=>V.ref e.2))) r=_:=X3 ho2 nrR;have hP3:(upd H2 R (.lst ((rows++[(ks,b)]).map fun e=>V.ref e.2))) P=_:=X3 hP2 pr;have hR3:(upd H2 R (.lst ((rows++[(ks,b)]).map fun e=>V.ref e.2))) R=_:=Zd;have hD3:(upd H2 R (.lst ((rows++[(ks,b)]).map fun e=>V.ref e.2))) D=_:=X3 hD2 (fT nRD);have s3:Vp P R D H (upd H2 R (.lst ((rows++[(ks,b)]).map fun e=>V.ref e.2))):=fun c o n1 n2 n3 e=>by rw[Zx n2];exact s2 _ _ n1 n2 n3 e
  generalize upd H2 R (.lst ((rows++[(ks,b)]).map fun e=>V.ref e.2))=H3 at ho3 hP3 hR3 hD3 s3 ⊢;have u3:YH H H3:=tb.t s3;have eA:WN ps t=ps++[t]:=Vc ht;have kn2:((rows++[(ks,b)]).map (·.1)).Nodup:=by
   rw[gb,lI];exact⟨knd,by simp,fun x hx y hy e=>kout ht (by
    have:y=ks:=by simpa using hy
    rw[this] at e;rw[<- e];exact hx)⟩
  have rat:((rows++[(ks,b)]).map (·.1))[ps.length]?=some ks:=by rw[gb,<- rkl,gy (fE _),g0];rfl
  have hv2:=val_at (n:=0) kn2 rat;rw[l7] at hv2;have hpt:(ps++[t])[ps.length]?=some t:=by rw[gy (fE _),g0];rfl
  have hrt3:∀e∈rows++[(ks,b)],SqT K H3 e.2 (e.1.map kV):=fun e he=>by
   rcases fR.mp he with he|he
   ·exact u3 _ _ _ (hrt e he)
   ·rw[fW.mp he];exact u3 _ _ _ hb
  refine⟨_,rfl,r,_,dx,_,_,rfl,ho3,T.av,T.ao,lkD,_,rfl,D,V.int ((ps.length:Nat):Int),rfl,⟨_,ks,b,hD3,rfl,u3 _ _ _ hb,fun e he=>hrt3 _ (xa he),by rw[jV];exact hv2.symm⟩,k H3 ps.length s3 ?_ (by rw[eA];exact hpt)⟩;rw[eA];have old:∀{α:Type}{xs:List α}{y x:α}{i:Nat},(xs++[y])[i]?=some x->(i<xs.length/\xs[i]?=some x)\/(i=xs.length/\x=y):=fun {α xs y x i} h=>by
   by_cases hi:i<xs.length
   ·rw[gm hi] at h;exact .inl ⟨hi,h⟩
   ·have hj:=(fO.mp h).1;rw[fK,gG] at hj;have hij:i=xs.length:=by omega
    subst hij;rw[gy (fE _),g0] at h;exact .inr ⟨rfl,by simpa using h.symm⟩
  refine⟨⟨dx,ho3⟩,⟨max np n,pv++[v],hP3,((aP.le (Nat.le_max_left _ _)).mono u3).app (AtL.one ((hat.le (Nat.le_max_right _ _)).mono u3))⟩,⟨rows++[(ks,b)],hR3,by simp[rl],hrt3,fun i x e h1 h2=>?_,hD3⟩,?_,pr⟩
  ·rcases old h1 with⟨l1,h1⟩|⟨l1,h1⟩
   ·rcases old h2 with⟨l2,h2⟩|⟨l2,h2⟩
    ·exact(hrr i x e h1 h2).more
    ·omega
   ·rcases old h2 with⟨l2,h2⟩|⟨l2,h2⟩
    ·omega
    ·subst h1 h2;exact hrow.more
  ·rw[<- eA];exact xi nd
def zN:∀(n:Nat) (t:Tr),psz t<=n->YJ Tr.node t=t
 |0,t,h=>by have:=Xe t;omega
 |n+1,t,h=>by
  rw[WL];have e:t.ks.map (YJ Tr.node)=t.ks:=by
   have:t.ks.map (YJ Tr.node)=t.ks.map id:=mw fun k hk=>zN n k (by have:=Yu hk;omega);rw[this,List.map_id]
  rw[e];exact(Tr.eta t).symm
def jh:∀{ks:List Tr}{s:Tr},s∈Yi ks->∃k∈ks,s∈post k
 |[],s,h=>by rw[Yi] at h;cases h
 |t::r,s,h=>by
  rw[Yi,fR] at h;rcases h with h|h
  ·exact⟨t,by simp,h⟩
  ·obtain⟨k,hk,hs⟩:=jh h;exact⟨k,gf _ hk,hs⟩
def VG:∀(n:Nat) {t s:Tr},psz t<=n->isC t=true->s∈post t->isC s=true
 |0,t,s,h,_,_=>by have:=Xe t;omega
 |n+1,t,s,h,hc,hs=>by
  rw[WS,fR] at hs;rcases hs with hs|hs
  ·obtain⟨k,hk,hs⟩:=jh hs;exact VG n (by have:=Yu hk;omega) (xS hc k hk) hs
  ·rw[fW.mp hs];exact hc
def lkN{m:Str}(h1:(m==("parts" : Str))=false)(h2:(m==("rows" : Str))=false)(h3:(m==("numbers" : Str))=false):([("parts",v1),("rows",v2),("numbers",v3)]:List (Str×V)).lookup m=none:=by
 rw[gC,h1]
 show List.lookup _ _=_
 rw[gC,h2]
 show List.lookup _ _=_
 rw[gC,h3];rfl
def kW{ps0 L:List Tr}{x:Tr}(h:L[i]?=some x):Zk ps0 (L.take (i+1))=WN (Zk ps0 (L.take i)) x:=by
 rw[lO,h,Z9];rfl
def get_addT{x s:Tr}{m:Nat}(h:ps[m]?=some s):(WN ps x)[m]?=some s:=by
 obtain⟨B,e⟩:=JV ps x;rw[e,gm (fO.mp h).1];exact h
def qh(K:W.Frag)(a:Adr):Sp:=fun vs H Q _=>∃r P R D ps0 v t n,vs=[.ref r,v]/\TbK K a.Pm a.C_Table H r P R D ps0/\At K n H v t/\isC t=true/\psz t<=2000000/\(Zk ps0 (post t)).length<4000/\∀H' (i:Nat),Vp P R D H H'->TbK K a.Pm a.C_Table H' r P R D (Zk ps0 (post t))->(Zk ps0 (post t))[i]?=some t->Q (.int (i:Int)) H'
def W5:Okd P w K mg base a 4 a.y11 a.z11 dG qh:=fun T hw=>by
 refine okF T.al.f YT fun de A outer s H vs Q E hr h=>?_;obtain⟨r,P,R,D,ps0,v,t,n,rfl,tb,hat,hc,hz,hfew,k⟩:=h;refine⟨_,(@Zc _ _ _ _ _ (@Zn _ _ (2) _ _ _ _ YT.nd rfl (.inl rfl) (@ZW _ _ _ _ Zb) rfl (.inl rfl)) (@Zc _ _ _ _ _ (Xk gJ rfl (ZC (K:=K) rfl (ZA T.bm (xf T hw) hr rfl rfl (@Za _ _ _ _ _ (pv 1) Zb rfl))) (Zo (i:=3) YT.nd rfl (.inl rfl)) (@Zc _ _ _ _ _ (@Zn _ _ (4) _ _ _ _ YT.nd rfl (.inl rfl) (ZA T.bF (j7 T hw) hr rfl rfl (@Za _ _ _ _ _ (pv 2) (@Za _ _ _ _ _ (Zl (Zu (K:=K) rfl) rfl T.ay ox (@Za _ _ _ _ _ (ZA T.bA (zX T hw) hr rfl rfl (@Za _ _ _ _ _ (pv 3) Zb rfl)) Zb rfl)) Zb rfl) rfl)) rfl (.inl rfl)) (@Zh _ _ _ (@Yh _ _ _ _ (Xv gK gW gX ZY (pv 2) (@Za _ _ _ _ _ (Wr (pv 0) T.av T.aH.m (zq T hw) (rmL hr rfl) T.aH.n .nil Yy (@Za _ _ _ _ _ (pv 3) (@Za _ _ _ _ _ (ZA T.bQ (JN T hw) hr rfl rfl (@Za _ _ _ _ _ (pv 3) (@Za _ _ _ _ _ (pv 4) Zb rfl) rfl)) Zb rfl) rfl)) Zb rfl)) rfl)))) (@Zh _ _ _ (@Zm _ _ _ _ (@Zv _ _ _ _ _ _ _ (Zr (K:=K) rfl) (pv 2) Zf (fun _ _=>rfl)))))),?_⟩;cases n with
 |zero=>exact hat.elim
 |succ n=>
  refine⟨by decide,fun F hF=>?_⟩;have s1:=Zi (o:=.lst []) hF;have e1:(upd H F (.lst [])) F=some (.lst []):=Zd;generalize upd H F (.lst [])=H1 at s1 e1 ⊢;have hz':(post t).length<=2000000:=hz;refine⟨_,rfl,v,t,n+1,rfl,hat.mono (om s1),by omega,fun H2 L us s2 L0 eL aL=>⟨L,rfl,⟨_,oj eL⟩,?_⟩⟩;have nLF:L≠F:=fun e=>by rw[e,e1] at L0;cases L0
  have hF2:=s2 _ _ e1;obtain⟨ok0,run0⟩:=run_all (F:=Tr.node) t;rw[zN _ t (fE _)] at run0;have hul:=aL.1;obtain⟨n0,pv0,hP0,_⟩:=tb.pl;obtain⟨rows0,hR0,_,_,_,hD0⟩:=tb.rl;have nPF:P≠F:=ZT hP0 hF;have nRF:R≠F:=ZT hR0 hF;have nDF:D≠F:=ZT hD0 hF;have hL1:∀c o,H c=some o->c≠L:=fun c o e z=>by rw[z] at e;rw[s1 _ _ e] at L0;cases L0
  have nPL:=hL1 _ _ hP0;have nRL:=hL1 _ _ hR0;have nDL:=hL1 _ _ hD0;have tb2:=(tb.mono s1).mono s2;refine for_list (K:=K) (xs:=us) (fun i U H'=>∃(z1 z2:Option V) (is:List Nat) (st:List Tr),U=[some (.ref r),some v,some (.ref F),z1,z2]/\Vp P R D H H'/\H' L=some (.lst us)/\AtL K (n+1) H' us (post t)/\TbK K a.Pm a.C_Table H' r P R D (Zk ps0 ((post t).take i))/\H' F=some (.lst (iV is))/\is.length=st.length/\(∀(j:Nat) s m,st[j]?=some s->is[j]?=some m->(Zk ps0 ((post t).take i))[m]?=some s)/\xz Tr.node st ((post t).drop i)/\runF Tr.node st ((post t).drop i)=[t]/\st.length<=i) ?_ ?_ ?_ ?_
  ·exact⟨_,_,[],[],rfl,Ze.b (s1.trans s2),eL,aL,tb2,hF2,rfl,fun j s m h=>by simp at h,ok0,run0,fE _⟩
  ·rintro i U H' hi ⟨z1,z2,is,st,rfl,_,hL',_⟩;exact oj hL'
  ·rintro i x U H3 hx ⟨z1,z2,is,st,rfl,b3,hL3,aL3,tb3,hF3,hil,hnum,ok3,run3,hst⟩;have hi:i<us.length:=(fO.mp hx).1;have hi2:i<(post t).length:=by omega
   have hxi:(post t)[i]?=some (post t)[i]:=fG hi2;have at3:=aL3.2 i x _ hx hxi;have hcq:isC (post t)[i]=true:=VG _ (fE _) hc (fX hi2);have etk:=kW (ps0:=ps0) hxi;have hpl:(Zk ps0 ((post t).take i)).length<4000:=by
    have e1:Zk ps0 (post t)=Zk (Zk ps0 ((post t).take i)) ((post t).drop i):=by rw[<- Z9,oh]
    obtain⟨B,e2⟩:=We ((post t).drop i) (Zk ps0 ((post t).take i));rw[e1,e2,fK] at hfew;omega
   rw[List.drop_eq_getElem_cons hi2] at ok3 run3;obtain⟨⟨okl,okd⟩,okr⟩:=ok3;have runr:runF Tr.node (qa Tr.node st (post t)[i]) ((post t).drop (i+1))=[t]:=run3;have kidE:(post t)[i].ks.map (YJ Tr.node)=(post t)[i].ks:=by
    have:(post t)[i].ks.map (YJ Tr.node)=(post t)[i].ks.map id:=mw fun k hk=>zN _ k (fE _);rw[this,List.map_id]
   rw[kidE] at okd;generalize (post t)[i]=q at at3 okl okd okr runr hcq etk hxi kidE;generalize hps:Zk ps0 ((post t).take i)=ps at tb3 hnum etk hpl;obtain⟨ad7,ks7,eu7,sh7,ok7,hl7,hq7⟩:=id at3;refine⟨_,rfl,_,rfl,x,ad7,ks7,q.lb,rfl,eu7,sh7,by rw[hl7];exact ok7.b,fun H4 b s4 eb=>.inl ⟨b,_,rfl,.inr eb,?_⟩⟩;have hF4:=s4 _ _ hF3;have ivl:=Vd is;refine⟨F,iV is,ks7.length,rfl,hF4,by rw[ivl];omega,fun H5 l x5 hF5 l0 hl5=>?_⟩;have nlF:l≠F:=fun e=>by rw[e,hF4] at l0;cases l0
   have u45:YH H4 H5:=Zs.tup x5 hF4;have u35:YH H3 H5:=(om s4).trans u45;have tb5:TbK K a.Pm a.C_Table H5 r P R D ps:=(tb3.mono s4).monoX x5 hF4 nPF nRF;rw[show(iV is).length-ks7.length=st.length-q.ks.length by omega] at hF5 hl5;have ed:(iV is).drop (st.length-q.ks.length)=iV (is.drop (st.length-q.ks.length)):=by unfold iV;rw[m9]
   have ek:(iV is).take (st.length-q.ks.length)=iV (is.take (st.length-q.ks.length)):=by unfold iV;rw[iT]
   rw[ed] at hl5;rw[ek] at hF5;have at5:=at3.mono u35;obtain⟨dx5,ho5⟩:=tb5.obj;have hisl:(is.drop (st.length-q.ks.length)).length=q.ks.length:=by rw[ie];omega
   have hrow:Uv ps q (WH q.lb (is.drop (st.length-q.ks.length))):=by
    refine⟨_,hisl,fun j kk m h1 h2=>?_,rfl⟩;rw[<- okd,mW] at h1;rw[mW] at h2;exact hnum _ _ _ h1 h2
   refine⟨_,rfl,.inl ⟨rfl,_,oj hF5⟩,_,rfl,r,dx5,_,rfl,ho5,lkN (by decide +kernel) (by decide +kernel) (by decide +kernel),_,rfl,_,rfl,_,rfl,x,q,n+1,l,_,rfl,at5,hcq,hl5,hisl,fun H6 b6 s6 e6=>⟨r,P,R,D,ps,x,q,n+1,b6,_,rfl,tb5.mono s6,at5.mono (om s6),e6,hrow,by omega,fun H7 m b7 tb7 hm=>?_⟩⟩;have hF7:=b7 _ _ (fT nPF) (fT nRF) (fT nDF) (s6 _ _ hF5);refine⟨F,_,_,rfl,rfl,hF7,by rw[Vd,gu,fJ];omega,?_⟩;have x8:Zs F H7 (upd H7 F (.lst (iV (is.take (st.length-q.ks.length))++[.int (m:Int)]))):=(Zs.refl H7).upd;have u8:YH H7 (upd H7 F (.lst (iV (is.take (st.length-q.ks.length))++[.int (m:Int)]))):=Zs.tup x8 hF7;have tb8:=tb7.monoX x8 hF7 nPF nRF;have e8:(upd H7 F (.lst (iV (is.take (st.length-q.ks.length))++[.int (m:Int)]))) F=some (.lst (iV (is.take (st.length-q.ks.length)++[m]))):=by
    rw[Zd];unfold iV;rw[gb];rfl
   have b8:Vp P R D H (upd H7 F (.lst (iV (is.take (st.length-q.ks.length))++[.int (m:Int)]))):=fun c o n1 n2 n3 e=>by
    have nc:c≠F:=ZT e hF;rw[Zx nc];exact b7 _ _ n1 n2 n3 (s6 _ _ (x5 _ _ nc (s4 _ _ (b3 _ _ n1 n2 n3 e))))
   have hL8:(upd H7 F (.lst (iV (is.take (st.length-q.ks.length))++[.int (m:Int)]))) L=some (.lst us):=X3 (b7 _ _ (fT nPL) (fT nRL) (fT nDL) (s6 _ _ (x5 _ _ nLF (s4 _ _ hL3)))) nLF;have u38:YH H3 (upd H7 F (.lst (iV (is.take (st.length-q.ks.length))++[.int (m:Int)]))):=(u35.trans (om s6)).trans (((tb5.mono s6).t b7).trans u8);generalize upd H7 F (.lst (iV (is.take (st.length-q.ks.length))++[.int (m:Int)]))=H8 at x8 u8 tb8 e8 b8 hL8 u38 ⊢;rw[<- etk] at tb8 hm;refine⟨_,_,is.take (st.length-q.ks.length)++[m],qa Tr.node st q,rfl,b8,hL8,aL3.mono u38,tb8,e8,?_,?_,okr,runr,?_⟩
   ·unfold qa;rw[fK,fK,gu,gu,hil];rfl
   ·intro j s m' h1 h2;unfold qa at h1;have hll:(st.take (st.length-q.ks.length)).length=(is.take (st.length-q.ks.length)).length:=by rw[gu,gu,hil]
    by_cases hj:j<(is.take (st.length-q.ks.length)).length
    ·rw[gm (by rw[hll];exact hj)] at h1;rw[gm hj] at h2;have hj2:j<st.length-q.ks.length:=by rw[gu] at hj;omega
     rw[mM hj2] at h1 h2;rw[etk];exact get_addT (hnum j s m' h1 h2)
    ·rw[gy (by rw[hll];omega),hll] at h1;rw[gy (by omega)] at h2;have hj0:j-(is.take (st.length-q.ks.length)).length=0:=by
      have:=(fO.mp h2).1;rw[gG] at this;omega
     rw[hj0] at h1 h2;have e1:m=m':=by simpa using h2
     have e2:Tr.node q.lb (st.drop (st.length-q.ks.length))=s:=by simpa using h1
     rw[okd,<- Tr.eta] at e2;rw[<- e1,<- e2];exact hm
   ·unfold qa;rw[fK,gu];simp;omega
  rintro U H3 ⟨z1,z2,is,st,rfl,b3,hL3,aL3,tb3,hF3,hil,hnum,ok3,run3,hst⟩;rw[hul,List.drop_eq_nil_of_le (fE _)] at run3;rw[hul,mQ (fE _)] at tb3 hnum;have est:st=[t]:=run3;subst est;obtain⟨m,rfl⟩:∃m,is=[m]:=by
   match is,hil with
   |[m],_=>exact⟨m,rfl⟩
  exact⟨_,rfl,F,_,_,_,rfl,rfl,oj hF3,Zj (j:=0) rfl,k H3 m b3 tb3 (hnum 0 t m rfl rfl)⟩
def zW(c:Lb)(is:List Nat):List Nat:=match c with
 |.op w=>if w = "some" then[] else is
 |_=>is
def key_tail(ok:Xp c is.length)(nw:∀m,c≠.wit m):(Zy c∈(["yes","sign","some"]:List Str)/\zW c is=[])\/(Zy c∉(["yes","sign","some"]:List Str)/\(WH c is).map kV=.str (Zy c)::iV is/\zW c is=is):=by
 cases c with
 |yes=>exact .inl ⟨by simp[Zy],gT.mp ok⟩
 |sign z=>exact .inl ⟨by simp[Zy],gT.mp ok.1⟩
 |wit m=>exact absurd rfl (nw m)
 |op w=>
  by_cases h:w = "some"
  ·subst h;exact .inl ⟨by simp[Zy],by show(if("some" : Str) = "some" then[] else is)=[];rw[if_pos rfl]⟩
  ·have wa:=YX w (WZ ok);refine .inr ⟨?_,by rw[<- nK_kV];rfl,if_neg h⟩;simp only[Zy,fQ,g6,g7];exact fun z=>z.elim wa.1 fun z=>z.elim wa.2.1 h
 |many w=>
  refine .inr ⟨?_,by rw[<- nK_kV];rfl,rfl⟩;rcases ok.1 with rfl|rfl<;>decide +kernel
def cM(K:W.Frag)(a:Adr):Sp:=fun vs H Q _=>∃(b:Addr) (c:Lb) (is:List Nat),vs=[.ref b]/\SqT K H b ((WH c is).map kV)/\Xp c is.length/\(∀m,c≠.wit m)/\∀H' b',Ze H H'->SqT K H' b' (iV (zW c is))->Q (.ref b') H'
def cN:Okd P w K mg base a 1 a.y14 a.z14 ["row"] cM:=fun T hw=>by
 refine okF T.ck.f cL fun de A outer s H vs Q E hr h=>?_;obtain⟨b,c,is,rfl,hb,ok,nw,k⟩:=h;refine⟨_,(@Zh _ _ _ (@Zm _ _ _ _ (Jw (@Zw _ _ _ _ _ _ _ _ (WB (K:=K) rfl) (@Zv _ _ _ _ _ _ _ (ZN (K:=K) rfl) (pv 0) Zf (fun _ _=>rfl)) (@ZV _ _ _ _ _ (@Zq _ _ _ _ _ Zz (@Zq _ _ _ _ _ Zz (@Zq _ _ _ _ _ Zz Zb rfl) rfl) rfl)) (by with_unfolding_all rfl)) (@ZV _ _ _ _ _ Zb) (Z8 (WU (K:=K) rfl) (pv 0) (Z5 Zf) Ys)))),?_⟩;obtain⟨r0,ekr⟩:=xB (c:=c) (is:=is);have hb0:SqT K H b (.str (Zy c)::r0.map kV):=by rw[ekr] at hb;exact hb
 refine⟨_,rfl,b,_,_,_,rfl,rfl,hb0,Zj (j:=0) rfl,by rw[fJ];simp,fun q hq=>⟨q,_,rfl,.inr (on Zd),rfl,rfl,_,rfl,?_⟩⟩;have s1:=Zi (o:=.tup [.str "yes",.str "sign",.str "some"]) hq;generalize upd H q (.tup [.str "yes",.str "sign",.str "some"])=H1 at s1 ⊢;rcases key_tail ok nw with⟨h1,h2⟩|⟨h1,h2,h3⟩
 ·refine U9 (ss:=["yes","sign","some"]) h1 ⟨by rw[fJ];simp,fun e he=>?_⟩;rw[h2] at k;exact k _ e (s1.trans (Zi he)) (on Zd)
 ·refine Xr (ss:=["yes","sign","some"]) h1 ?_;rw[h2] at hb;refine⟨_,rfl,_,rfl,b,_,rfl,(om s1 _ _ _ hb),yy (by decide) (by simp;omega),fun e he=>?_⟩;rw[yT];rw[h3] at k;exact k _ e (s1.trans (Zi he)) (on Zd)
def ko{l:Expr}(hK:X.K=K)(hl:PE X l tl):PI X tg l (iTup K tl):=by subst hK;exact pi_tup hl
def U2(ps:List Tr)(is:List Nat)(ts:List Tr):Prop:=is.length=ts.length/\∀(j:Nat) m s,is[j]?=some m->ts[j]?=some s->ps[m]?=some s
def VI{m:Nat}{s:Tr}:U2 ps (m::is) (s::ts)↔ps[m]?=some s/\U2 ps is ts:=by
 constructor
 ·rintro⟨h1,h2⟩;exact⟨h2 0 m s rfl rfl,by simpa using h1,fun j m' s' e1 e2=>h2 (j+1) m' s' (by simpa using e1) (by simpa using e2)⟩
 ·rintro⟨h0,h1,h2⟩;refine⟨by simp[h1],fun j m' s' e1 e2=>?_⟩;cases j with
  |zero=>
   have a:m=m':=by simpa using e1
   have b:s=s':=by simpa using e2
   rw[<- a,<- b];exact h0
  |succ j=>exact h2 j m' s' (by simpa using e1) (by simpa using e2)
def nums_app{js:List Nat}{rs:List Tr}(h:U2 ps is ts)(g:U2 ps js rs):U2 ps (is++js) (ts++rs):=by
 refine⟨by rw[fK,fK,h.1,g.1],fun i u k h1 h2=>?_⟩
 by_cases hi:i<is.length
 ·rw[gm hi] at h1;rw[gm (by rw[<- h.1];exact hi)] at h2;exact h.2 i u k h1 h2
 ·rw[gy (by omega)] at h1;rw[gy (by rw[<- h.1];omega),<- h.1] at h2;exact g.2 _ u k h1 h2
def k5{m:Nat}{s:Tr}(h:ps[m]?=some s):U2 ps [m] [s]:=VI.mpr ⟨h,rfl,fun j a b e=>by simp at e⟩
def xy{ps:List Tr}(nd:ps.Nodup):∀{fs:List Nat}{F:List Tr},U2 ps fs F->∀{m:Nat}{s:Tr},ps[m]?=some s->(m∈fs↔s∈F)
 |[],[],_,m,s,_=>by simp
 |[],_::_,h,_,_,_=>by have:=h.1;simp at this
 |_::_,[],h,_,_,_=>by have:=h.1;simp at this
 |a::fs,t::F,h,m,s,hm=>by
  obtain⟨h1,h2⟩:=VI.mp h;rw[fQ,fQ,xy nd h2 hm];constructor
  ·rintro(e|e)
   ·left;rw[e,h1] at hm;exact(fY hm).symm
   ·exact .inr e
  ·rintro(e|e)
   ·left;rw[e] at hm;exact yR nd hm h1
   ·exact .inr e
def J7{t:Tr}(h:U2 ps is t.ks):U2 ps (zW t.lb is) (ZF t):=by
 unfold zW ZF;cases t.lb with
 |op w=>
  show U2 ps (if w = "some" then[] else is) (if w = "some" then[] else t.ks)
  split
  ·exact⟨rfl,fun j m s e=>by simp at e⟩
  ·exact h
 |yes=>exact h
 |sign z=>exact h
 |wit m=>exact h
 |many w=>exact h
def xO{ps:List Tr}(nd:ps.Nodup){fs:List Nat}{F:List Tr}(hF:U2 ps fs F):∀{bi:List Nat}{ks:List Tr},U2 ps bi ks ->
  (bi.filter (fun m=>!decide (m∈fs))=[]/\∀k∈ks,k∈F)\/∃a1 XH A k B,bi.filter (fun m=>!decide (m∈fs))=a1::XH/\ks=A++k::B/\(∀x∈A,x∈F)/\ps[a1]?=some k/\k∉F
 |[],[],_=>.inl ⟨rfl,fun k h=>by cases h⟩
 |[],_::_,h=>by have:=h.1;simp at this
 |_::_,[],h=>by have:=h.1;simp at this
 |m::bi,k::ks,h=>by
  obtain⟨h1,h2⟩:=VI.mp h;have hm:=xy nd hF h1
  by_cases hk:m∈fs
  ·have e:(m::bi).filter (fun m=>!decide (m∈fs))=bi.filter (fun m=>!decide (m∈fs)):=lX (by simp[hk]);rw[e];rcases xO nd hF h2 with⟨g1,g2⟩|⟨a1,XH,A,k',B,g1,g2,g3,g4,g5⟩
   ·exact .inl ⟨g1,fun x hx=>by rcases fQ.mp hx with rfl|hx;exact hm.mp hk;exact g2 x hx⟩
   ·exact .inr ⟨a1,XH,k::A,k',B,g1,by rw[g2];rfl,fun x hx=>by rcases fQ.mp hx with rfl|hx;exact hm.mp hk;exact g3 x hx,g4,g5⟩
  ·have e:(m::bi).filter (fun m=>!decide (m∈fs))=m::bi.filter (fun m=>!decide (m∈fs)):=lW (by simp[hk]);exact .inr ⟨m,_,[],k,ks,e,rfl,fun x hx=>(by cases hx),h1,fun z=>hk (hm.mpr z)⟩
def yO(a b:List Nat):iV (a++b)=iV a++iV b:=by unfold iV;rw[gb]
def INv(H:Hp)(r Fd Sn W:Addr)(i:Nat)(ps tgt:List Tr)(m:Nat)(U:L3.St)(H':Hp):Prop:=∃(z1 z2:Option V) (ws fs:List Nat) (w F:List Tr) (S:Int->Bool),U=[some (.ref r),some (.int (i:Int)),some (.ref Fd),some (.ref Sn),some (.ref W),z1,z2]/\Ze H H'/\H' Fd=some (.lst (iV fs))/\H' Sn=some (.set S fs.length)/\H' W=some (.lst (iV ws.reverse))/\U2 ps ws w/\U2 ps fs F/\(∀q:Nat,S (q:Int)=true↔q∈fs)/\UU F/\xW w F=tgt/\zT w/\(∀s∈w,s∉F)/\(∀s∈w,psz s<=2000000)/\m=(tgt.length-F.length)*2000001+(2000000-w.length)
def Uq(K:W.Frag)(a:Adr):Sp:=fun vs H Q _=>∃r P R D ps t,∃i:Nat,vs=[.ref r,.int (i:Int)]/\TbK K a.Pm a.C_Table H r P R D ps/\ps[i]?=some t/\(∀s∈ps,isC s=true)/\psz t<=2000000/\(Zk [] (Zp t)).length<4000/\∀H' L is,Ze H H'->H L=none->H' L=some (.lst (iV is))->U2 ps is (Zk [] (Zp t))->Q (.ref L) H'
def V5:Okd P w K mg base a 2 a.y13 a.z13 dJ Uq:=fun T hw=>by
 refine okF T.aq.f Z6 fun de A outer s H vs Q E hr h=>?_;obtain⟨r,P,R,D,ps,t,i,rfl,tb,hi,hc,hz,hfew,k⟩:=h;refine⟨_,(@Zc _ _ _ _ _ (@Zn _ _ (2) _ _ _ _ Z6.nd rfl (.inl rfl) (@ZW _ _ _ _ Zb) rfl (.inl rfl)) (@Zc _ _ _ _ _ (@Zn _ _ (3) _ _ _ _ Z6.nd rfl (.inr rfl) (KF call_set0 rfl T.cG oA) rfl (.inl rfl)) (@Zc _ _ _ _ _ (@Zn _ _ (4) _ _ _ _ Z6.nd rfl (.inl rfl) (@ZW _ _ _ _ (@Za _ _ _ _ _ (pv 1) Zb rfl)) rfl (.inl rfl)) (@Zc _ _ _ _ _ (VN gJ (UX (K:=K) rfl (pv 4) (fun _=>rfl)) (@Zc _ _ _ _ _ (@Zn _ _ (5) _ _ _ _ Z6.nd rfl (.inl rfl) (@Zv _ _ _ _ _ _ _ (Zr (K:=K) rfl) (pv 4) (Vq XZ Zf) (fun _ _=>rfl)) rfl (.inl rfl)) (@Zc _ _ _ _ _ (YQ (i:=6) Z6.nd rfl rfl (Nc:=["inner","seen"]) (ix:=[none,some 3]) (ZJ.of (by decide +kernel:ZO (Zg YA) X6 _ _ _=true)) rfl (ko (K:=K) rfl (ZA T.ck (cN T hw) hr rfl rfl (@Za _ _ _ _ _ (@Zv _ _ _ _ _ _ _ (Zr (K:=K) rfl) (XU (K:=K) rfl (pv 0) rfl) (pv 5) (fun _ _=>rfl)) Zb rfl))) (fun _ _ _ _ _=>(Zo (i:=0) (show List.Nodup (["inner","seen"]:List Str) by decide +kernel) rfl (.inl rfl))) (fun _ _ _ _ _=>(Wq (@Zw _ _ _ _ _ _ _ _ op_notInS (pv 0) (pv 1) (by with_unfolding_all rfl)))) (fun _ _ _ _ _=>(pv 0))) (@Zh _ _ _ (@ZZ _ _ _ _ _ _ _ _ (UX (K:=K) rfl (pv 6) (fun _=>rfl)) (@Zh _ _ _ (@Yh _ _ _ _ (Xv gK gW gX ZY (pv 4) (@Za _ _ _ _ _ (@Zv _ _ _ _ _ _ _ (Zr (K:=K) rfl) (pv 6) Zf (fun _ _=>rfl)) Zb rfl)) rfl)) (@Zc _ _ _ _ _ (@Yh _ _ _ _ (Xv gK gW gX ZY (pv 2) (@Za _ _ _ _ _ (pe_bm0 gK PySem.F.slot_list_pop PySem.F.type_list_pop mt_pop (pv 4)) Zb rfl)) rfl) (@Zh _ _ _ (@Yh _ _ _ _ (Xv PySem.F.plainAttrs_set PySem.F.slot_set_add PySem.F.type_set_add mt_setAdd (pv 3) (@Za _ _ _ _ _ (pv 5) Zb rfl)) rfl)))))))) (@Zh _ _ _ (@Zm _ _ _ _ (pv 2))))))),?_⟩;refine⟨by decide,fun Fd hFd=>?_⟩;have s1:=Zi (o:=.lst []) hFd;have e1:(upd H Fd (.lst [])) Fd=some (.lst (iV [])):=Zd;generalize upd H Fd (.lst [])=H1 at s1 e1 ⊢;refine⟨rfl,fun Sn hSn=>?_⟩;have s2:=Zi (o:=.set (fun _=>false) 0) hSn;have e2:(upd H1 Sn (.set (fun _=>false) 0)) Sn=some (.set (fun _=>false) 0):=Zd;have e12:=s2 _ _ e1;have hSn0:=s1.free hSn;generalize upd H1 Sn (.set (fun _=>false) 0)=H2 at s2 e2 e12 ⊢;refine⟨_,rfl,by rw[fJ];simp,fun W hW=>?_⟩;have s3:=Zi (o:=.lst [.int (i:Int)]) hW;have e3:(upd H2 W (.lst [.int (i:Int)])) W=some (.lst (iV [i].reverse)):=Zd;have e13:=s3 _ _ e12;have e23:=s3 _ _ e2;have hW0:=(s1.trans s2).free hW;have nFW:Fd≠W:=fun e=>by rw[e] at e12;rw[e12] at hW;cases hW
 have nSW:Sn≠W:=fun e=>by rw[e] at e2;rw[e2] at hW;cases hW
 have nFS:Fd≠Sn:=fun e=>by rw[e] at e1;rw[e1] at hSn;cases hSn
 generalize upd H2 W (.lst [.int (i:Int)])=H3 at s3 e3 e13 e23 ⊢;have s03:=s1.trans (s2.trans s3);clear s1 e1 s2 e2 e12 s3 hSn hW;have nd:=tb.nd;generalize htgt:Zk [] (Zp t)=tgt at k hfew;refine⟨INv H r Fd Sn W i ps tgt,⟨_,none,none,[i],[],[t],[],fun _=>false,rfl,s03,e13,e23,e3,k5 hi,⟨rfl,fun j m s e=>by simp at e⟩,fun q=>by simp,J8,htgt,trivial,fun s _ z=>(by cases z),fun s hs=>by rw[fW.mp hs];exact hz,rfl⟩,?_⟩;clear e13 e23 e3 s03 H3;rintro m U H3 ⟨z1,z2,ws,fs,w,F,S,rfl,s3,hFd3,hSn3,hW3,nw,nf,hS,cl,hcont,hch,hout,hps,rfl⟩;refine⟨_,rfl,!(iV ws.reverse).isEmpty,.inl ⟨_,oj hW3,rfl⟩,?_⟩;cases ws with
 |nil=>
  have ew:w=[]:=gT.mp nw.1.symm;subst ew;refine Z3 ?_;have eF:F=tgt:=hcont;rw[eF] at nf;exact⟨_,rfl,k H3 Fd fs s3 hFd hFd3 nf⟩
 |cons a0 ws=>
  cases w with
  |nil=>have:=nw.1;simp at this
  |cons t0 w=>
   obtain⟨hp0,nw'⟩:=VI.mp nw;have erev:iV (a0::ws).reverse=iV ws.reverse++[.int (a0:Int)]:=by rw[mr,yO];rfl
   rw[erev] at hW3 ⊢;have ene:(iV ws.reverse++[V.int (a0:Int)]).isEmpty=false:=by simp
   rw[ene];refine Yo ⟨fun σ' H'=>∃m',m'<(tgt.length-F.length)*2000001+(2000000-(t0::w).length)/\INv H r Fd Sn W i ps tgt m' σ' H',fun _ _ z=>z,?_⟩;refine⟨_,rfl,_,rfl,W,_,_,.int (a0:Int),rfl,rfl,oj hW3,Jy,?_⟩;have tb3:=tb.mono s3;obtain⟨dx,ho⟩:=tb3.obj;obtain⟨np,pv,hP,aP⟩:=tb3.pl;obtain⟨rows,hR,rl,hrt,hrr,hD⟩:=tb3.rl;have ha0:a0<ps.length:=(fO.mp hp0).1;have hrk:rows[a0]?=some rows[a0]:=fG (by omega);have hb:=hrt _ (fX (show a0<rows.length by omega));obtain⟨is0,il0,in0,ik0⟩:=hrr a0 t0 _ hp0 hrk;have hrv:(rows.map fun e=>V.ref e.2)[a0]?=some (V.ref rows[a0].2):=by rw[fL,hrk];rfl
   generalize rows[a0].2=b at hb hrv;have t0m:t0∈ps:=gj hp0;have ok0:=aP.oks t0 t0m;have nwit:∀m,t0.lb≠.wit m:=fun m e=>by
    have h1:=hc t0 t0m;rw[Tr.eta t0,YG,e] at h1;unfold Us at h1;simp at h1
   rw[ik0] at hb;have n0:U2 ps is0 t0.ks:=⟨il0,fun j m s e1 e2=>in0 j s m e2 e1⟩;have nb:=J7 n0;refine⟨_,rfl,r,_,dx,_,_,rfl,ho,T.av,T.aE,lkR,_,rfl,R,_,_,_,rfl,rfl,oj hR,Zj hrv,b,t0.lb,is0,rfl,hb,by rw[il0];exact ok0,nwit,fun H4 b' s4 sq4=>⟨b',rfl,⟨_,sq4⟩,fun Dc hDc=>?_⟩⟩;generalize zW t0.lb is0=bi at nb sq4;have hbl:bi.length<=8:=by
    have h1:=nb.1;have h2:(ZF t0).length<=t0.ks.length:=by
     unfold ZF
     split
     ·split
      ·simp
      ·exact fE _
     ·exact fE _
    have:=lb8 ok0;omega
   have s04:=s3.trans s4;have hSn4:=s4 _ _ hSn3;refine Yx (n:=bi.length) (fun j σ' H'=>∃z,σ'=[z,some (.ref Sn)]/\H' Dc=some (.lst (iV ((bi.take j).filter (fun m=>!decide (m∈fs)))))/\Ze H4 H') ?_ ?_ ?_ ?_ ?_
   ·exact⟨none,rfl,Zd,Zi hDc⟩
   ·rintro j σ' H' hj ⟨z,rfl,_,sj⟩;exact⟨iV bi,(iV bi)[j]'(by rw[Vd];exact hj),Ze.seqT sj sq4,fG (by rw[Vd];exact hj)⟩
   ·rintro σ' H' ⟨z,rfl,_,sj⟩;exact⟨_,Ze.seqT sj sq4,by rw[Vd];exact fE _⟩
   ·rintro j x σ' H' H5 hj ⟨z,rfl,hDj,sj⟩ ⟨rfl,hx⟩ N N0 hN hN0;have hxj:=hx _ (Ze.seqT sj sq4);have hbj:bi[j]?=some bi[j]:=fG hj;have ex:x=V.int ((bi[j]:Nat):Int):=by
     unfold iV at hxj;rw[fL,hbj] at hxj;exact(fY hxj).symm
    subst ex;have etk:(bi.take (j+1))=bi.take j++[bi[j]]:=by rw[lO,hbj];rfl
    refine⟨_,rfl,_,rfl,_,Sn,S,_,rfl,rfl,sj _ _ hSn4,_,rfl,?_⟩
    by_cases hm:bi[j]∈fs
    ·have hSm:S ((bi[j]:Nat):Int)=true:=(hS _).mpr hm;rw[hSm];refine Z3 (hN0 _ _ ⟨_,rfl,?_,sj⟩);rw[etk,mH,lX (by simp[hm]),List.filter_nil,iB];exact hDj
    ·have hSm:S ((bi[j]:Nat):Int)=false:=by
      cases h:S ((bi[j]:Nat):Int) with
      |false=>rfl
      |true=>exact absurd ((hS _).mp h) hm
     rw[hSm];refine Yo ⟨_,rfl,hN _ _ _ _ hDj ?_ ⟨_,rfl,?_,?_⟩⟩
     ·rw[Vd,fJ];have:=me (fun m=>!decide (m∈fs)) (bi.take j);rw[gu] at this;omega
     ·rw[Zd,etk,mH,lW (by simp[hm]),List.filter_nil,yO];rfl
     ·exact((Ze.x sj).upd).same hDc
   rintro σ' H5 ⟨z,rfl,hA5,s5⟩;rw[mQ (fE _)] at hA5;have s05:=s04.trans s5;have hW5:=s5 _ _ (s4 _ _ hW3);have hFd5:=s5 _ _ (s4 _ _ hFd3);have hSn5:=s5 _ _ hSn4;have lch:=jq hch hps;have hFt:=yW (t0::w) F;rw[hcont] at hFt;obtain⟨Bt,eBt⟩:=hFt;have hFl:F.length<=tgt.length:=by rw[eBt,fK];omega
   have hfl:=nf.1;refine⟨_,rfl,!(iV (bi.filter fun m=>!decide (m∈fs))).isEmpty,.inl ⟨_,oj hA5,rfl⟩,?_⟩;rcases xO nd nf nb with⟨g1,g2⟩|⟨a1,XH,A,kk,B,g1,g2,g3,g4,g5⟩
   ·rw[g1];refine Z3 ?_;obtain⟨p1,p2⟩:=fin_pop cl g2 (hout t0 (by simp));refine⟨_,rfl,.inl ⟨rfl,_,oj hFd5⟩,_,rfl,.inl ⟨rfl,_,oj hW5⟩,W,_,.int (a0:Int),rfl,rfl,hW5,by rw[fK,gG,Nat.add_sub_cancel,gy (fE _),g0];rfl,?_⟩;rw[List.dropLast_concat];have hFd6:(upd H5 W (.lst (iV ws.reverse))) Fd=some (.lst (iV fs)):=X3 hFd5 nFW;have hSn6:(upd H5 W (.lst (iV ws.reverse))) Sn=some (.set S fs.length):=X3 hSn5 nSW;have hW6:(upd H5 W (.lst (iV ws.reverse))) W=some (.lst (iV ws.reverse)):=Zd;have s06:Ze H (upd H5 W (.lst (iV ws.reverse))):=((Ze.x s05).upd).same hW0;generalize upd H5 W (.lst (iV ws.reverse))=H6 at hFd6 hSn6 hW6 s06 ⊢;refine⟨Fd,_,_,rfl,rfl,hFd6,by rw[Vd,fJ];omega,?_⟩;have hFd7:(upd H6 Fd (.lst (iV fs++[.int (a0:Int)]))) Fd=some (.lst (iV (fs++[a0]))):=by rw[Zd,yO];rfl
    have hSn7:(upd H6 Fd (.lst (iV fs++[.int (a0:Int)]))) Sn=some (.set S fs.length):=X3 hSn6 (fT nFS);have hW7:(upd H6 Fd (.lst (iV fs++[.int (a0:Int)]))) W=some (.lst (iV ws.reverse)):=X3 hW6 (fT nFW);have s07:Ze H (upd H6 Fd (.lst (iV fs++[.int (a0:Int)]))):=((Ze.x s06).upd).same hFd;generalize upd H6 Fd (.lst (iV fs++[.int (a0:Int)]))=H7 at hFd7 hSn7 hW7 s07 ⊢;refine⟨_,rfl,.inr (.inr (.inr ⟨rfl,_,_,hSn7⟩)),_,rfl,Sn,S,fs.length,(a0:Int),rfl,rfl,hSn7,by omega,?_⟩;have hSa:S (a0:Int)=false:=by
     cases h:S (a0:Int) with
     |false=>rfl
     |true=>exact absurd ((xy nd nf hp0).mp ((hS a0).mp h)) (hout t0 (by simp))
    rw[hSa];have hFl2:(F++[t0]).length<=tgt.length:=by
     have hc2:xW w (F++[t0])=tgt:=by rw[<- p1];exact hcont
     obtain⟨B2,e2⟩:=yW w (F++[t0]);rw[hc2] at e2;rw[e2];simp
    have lF2:(F++[t0]).length=F.length+1:=by rw[fK,gG]
    refine⟨_,?_,_,_,ws,fs++[a0],w,F++[t0],fun j=>S j||decide (j=(a0:Int)),rfl,((Ze.x s07).upd).same hSn0,X3 hFd7 nFS,?_,X3 hW7 (fT nSW),nw',nums_app nf (k5 hp0),?_,p2,by rw[<- p1];exact hcont,?_,?_,fun s hs=>hps s (gf _ hs),rfl⟩
    ·rw[gH] at lch ⊢;omega
    ·rw[Zd,fK,gG];rfl
    ·intro q;rw[fR,fW,mO,hS,lZ];constructor
     ·rintro(h|h)
      ·exact .inl h
      ·exact .inr (by omega)
     ·rintro(h|h)
      ·exact .inl h
      ·exact .inr (by omega)
    ·cases w with
     |nil=>trivial
     |cons s r=>exact hch.2
    ·intro s hs z;rcases fR.mp z with z|z
     ·exact hout s (gf _ hs) z
     ·have:=jj hch s hs;rw[fW.mp z] at this;omega
   ·rw[g1];refine Yo ?_;rw[g1] at hA5;obtain⟨p1,p2⟩:=fin_push cl g2 g3;have kb:kk∈ZF t0:=by rw[g2];simp
    have hch2:zT (kk::t0::w):=⟨kb,hch⟩;have hps2:∀s∈kk::t0::w,psz s<=2000000:=fun s hs=>by
     rcases fQ.mp hs with rfl|hs
     ·have:=Yu (Yl kb);have:=hps t0 (by simp);omega
     ·exact hps s hs
    have lch2:=jq hch2 hps2;refine⟨_,rfl,.inl ⟨rfl,_,oj hW5⟩,_,rfl,Dc,_,_,.int (a1:Int),rfl,rfl,oj hA5,Zj (j:=0) rfl,W,_,_,rfl,rfl,hW5,by rw[fK,Vd,iE,gG,fJ];have:=nw'.1;simp at lch2;omega,?_⟩;refine⟨_,?_,_,_,a1::a0::ws,fs,kk::t0::w,F,S,rfl,((Ze.x s05).upd).same hW0,X3 hFd5 nFW,X3 hSn5 nSW,?_,VI.mpr ⟨g4,nw⟩,nf,hS,cl,?_,hch2,?_,hps2,rfl⟩
    ·simp only[gH] at lch2 ⊢;omega
    ·rw[Zd,mr,yO,mr,yO];rfl
    ·show xW w (Zk (Zk F (Zp kk)) (Zp t0))=tgt
     rw[p1];exact hcont
    ·intro s hs;rcases fQ.mp hs with rfl|hs
     ·exact g5
     ·exact hout s hs
def jz(K:W.Frag)(a:Adr):Sp:=fun vs H Q _=>∃x,vs=[x]/\KdL H x/\∀H',Ze H H'->Q (.bl (Yc H x)) H'
def zc:Okd P w K mg base a 2 a.y3 a.z3 dg jz:=fun T hw=>by
 refine okF T.bj.f jE fun de A outer s H vs Q E hr h=>?_;obtain⟨x,rfl,hk,k⟩:=h;refine⟨_,(@Zc _ _ _ _ _ (@ZZ _ _ _ _ _ _ _ _ (PW.pt (Ut (@YY _ _ _ _ (Xf (Zl (Xb (K:=K) rfl "list") rfl T.ae ou (@Za _ _ _ _ _ (pv 0) (@Za _ _ _ _ _ (Xz (v:=.ty "list") rfl T.aN oq rfl) Zb rfl) rfl)))) (Vt (@YY _ _ _ _ (Xf (Zl (WX (K:=K) rfl rfl) rfl T.cr oy (@Za _ _ _ _ _ (ZR (Nc:=["name"]) (ix:=[none]) (ZJ.of (by decide +kernel:ZO (Zg Vr) ["thing"] _ _ _=true)) rfl (ZC (K:=K) rfl (pv 0)) (fun _ _ _ _ _=>(Zo (i:=0) (show List.Nodup (["name"]:List Str) by decide +kernel) rfl (.inl rfl))) (fun _ _ _ _ _=>Z0) (fun _ _ _ _ _=>(ZA T.bM (xH T hw) hr rfl rfl (@Za _ _ _ _ _ (pv 0) Zb rfl)))) Zb rfl))))))) (@Zh _ _ _ (@Zm _ _ _ _ YR)) ZD) (@Zh _ _ _ (@Zm _ _ _ _ (@YZ _ _ _ _ _ _ _ _ Yr (Zl (Zu (K:=K) rfl) rfl T.ay ox (@Za _ _ _ _ _ (ZM (vQ (K:=K) rfl rfl) rfl T.cG oA (@Za _ _ _ _ _ (pv 0) Zb rfl)) Zb rfl)) (Zl (Zu (K:=K) rfl) rfl T.ay ox (@Za _ _ _ _ _ (pv 0) Zb rfl)) (ZI _))))),?_⟩;rcases UT hk.1 with⟨hb,p,xs,rfl,hp,hl⟩|⟨hb,e⟩
 ·obtain⟨t,h1,h2⟩:=WG K (by simp) hk.1 hb;obtain⟨hz,hy⟩:=hk.2 xs hl;have hS:xs.length<=sizeLine:=by rw[fJ];omega
  have ev:Yc H (.ref p)=(xs.all YS&&decide xs.Nodup):=by unfold Yc;rw[hl]
  rw[ev] at k;refine⟨_,rfl,_,t,_,rfl,h1,h2,_,rfl,Z3 ?_⟩;refine⟨_,rfl,p,rfl,⟨xs,oj hp⟩,fun D hD=>?_⟩;refine Wk (K:=K) hD (oj hp) hS (fun i v _=>∀x,xs[i]?=some x->v=.bl (YS x)) (fun _ _ _ _ _ q=>q) ?_ ?_
  ·intro i x H2 N hx sm hN;refine⟨_,rfl,x,rfl,(hy x (gj hx)).mono sm,fun H3 s3=>hN _ _ s3 fun x' hx'=>?_⟩;rw[hx] at hx';cases hx';rfl
  ·intro H2 ys hD2 sm hlen hr;have ey:=Vf (f:=YS) hlen fun i v x h1 h2=>hr i v h1 x h2;refine⟨D,_,rfl,oj (by rw[hD2,ey]),_,rfl,?_⟩;rw[xX];cases hall:xs.all YS with
   |false=>
    rw[hall] at k;exact Yo (k H2 sm)
   |true=>
    rw[hall] at k;obtain⟨ks,rfl⟩:=yN hall;rw[fF] at hz;refine Z3 ⟨_,rfl,p,ks,rfl,oj (sm _ _ hp),by omega,fun n c a1 a2 hc=>?_⟩;have s3:Ze H (upd H2 c (SetN c n)):=sm.trans (Zi hc);refine .inr (.inr ⟨c,n,rfl,Zd,by omega,_,rfl,.inl ⟨p,_,rfl,.inl (oj (s3 _ _ hp)),rfl,?_⟩⟩);rw[dec_len rfl a2];exact k _ s3
 ·obtain⟨t,h1,h2⟩:=WG K (by simp) hk.1 hb;have q:=k H (.refl H);have e2:Yc H x=false:=by unfold Yc;rw[e]
  rw[e2] at q;exact⟨_,rfl,_,t,_,rfl,h1,h2,_,rfl,Yo (Yo q)⟩
def jy(K:W.Frag)(a:Adr):Sp:=fun vs H Q _=>∃x n,vs=[x,.int n]/\KdL H x/\∀H',Ze H H'->Q (.bl (XV H n x)) H'
def jT:Okd P w K mg base a 3 a.y4 a.z4 di jy:=fun T hw=>by
 refine okF T.bE.f jL fun de A outer s H vs Q E hr h=>?_;obtain⟨x,n,rfl,hk,k⟩:=h;refine⟨_,(@Zh _ _ _ (@Zm _ _ _ _ (Xq (Zl (Xb (K:=K) rfl "list") rfl T.ae ou (@Za _ _ _ _ _ (pv 0) (@Za _ _ _ _ _ (Xz (v:=.ty "list") rfl T.aN oq rfl) Zb rfl) rfl)) (Xc (Zl (WX (K:=K) rfl rfl) rfl T.cr oy (@Za _ _ _ _ _ (ZR (Nc:=["room","many"]) (ix:=[none,some 1]) (ZJ.of (by decide +kernel:ZO (Zg Vn) ["thing","many"] _ _ _=true)) rfl (ZC (K:=K) rfl (pv 0)) (fun _ _ _ _ _=>(Zo (i:=0) (show List.Nodup (["room","many"]:List Str) by decide +kernel) rfl (.inl rfl))) (fun _ _ _ _ _=>Z0) (fun _ _ _ _ _=>(ZA T.bV (KB T hw) hr rfl rfl (@Za _ _ _ _ _ (pv 0) (@Za _ _ _ _ _ (pv 1) Zb rfl) rfl)))) Zb rfl)))))),?_⟩;rcases UT hk.1 with⟨hb,p,xs,rfl,hp,hl⟩|⟨hb,e⟩
 ·obtain⟨t,h1,h2⟩:=WG K (by simp) hk.1 hb;obtain⟨hz,hy⟩:=hk.2 xs hl;have hS:xs.length<=sizeLine:=by rw[fJ];omega
  have ev:XV H n (.ref p)=xs.all (YL n):=by unfold XV;rw[hl]
  rw[ev] at k;refine⟨_,rfl,_,t,_,rfl,h1,h2,_,rfl,Yo ?_⟩;refine⟨_,rfl,p,rfl,⟨xs,oj hp⟩,fun D hD=>?_⟩;refine Wk (K:=K) hD (oj hp) hS (fun i v _=>∀x,xs[i]?=some x->v=.bl (YL n x)) (fun _ _ _ _ _ q=>q) ?_ ?_
  ·intro i x H2 N hx sm hN;refine⟨_,rfl,_,rfl,x,n,rfl,(hy x (gj hx)).mono sm,hN _ _ (.refl _) fun x' hx'=>?_⟩;rw[hx] at hx';cases hx';rfl
  ·intro H2 ys hD2 sm hlen hr;have ey:=Vf (f:=YL n) hlen fun i v x h1 h2=>hr i v h1 x h2;refine⟨D,_,rfl,oj (by rw[hD2,ey]),?_⟩;rw[xX];exact k H2 sm
 ·obtain⟨t,h1,h2⟩:=WG K (by simp) hk.1 hb;have q:=k H (.refl H);have e2:XV H n x=false:=by unfold XV;rw[e]
  rw[e2] at q;exact⟨_,rfl,_,t,_,rfl,h1,h2,_,rfl,Z3 q⟩
def zo(K:W.Frag)(a:Adr):Sp:=fun vs H Q _=>∃x n,vs=[x,.int n]/\KdL H x/\∀H',Ze H H'->Q (.bl (Z2 H n x)) H'
def Vs:Okd P w K mg base a 4 a.y38 a.z38 di zo:=fun T hw=>by
 refine okF T.aI.f qZ fun de A outer s H vs Q E hr h=>?_;obtain⟨x,n,rfl,hk,k⟩:=h;refine⟨_,(@Zc _ _ _ _ _ (@ZZ _ _ _ _ _ _ _ _ (PW.pt (Ut (@YY _ _ _ _ (Xf (ZA T.bE (jT T hw) hr rfl rfl (@Za _ _ _ _ _ (pv 0) (@Za _ _ _ _ _ (pv 1) Zb rfl) rfl)))) (Vt (@Zw _ _ _ _ _ _ _ _ Yr (Zl (Zu (K:=K) rfl) rfl T.ay ox (@Za _ _ _ _ _ (pv 0) Zb rfl)) Zf (ZI _))))) (@Zh _ _ _ (@Zm _ _ _ _ YR)) ZD) (@Zh _ _ _ (@Zm _ _ _ _ (@YZ _ _ _ _ _ _ _ _ Yr (Zl (Zu (K:=K) rfl) rfl T.ay ox (@Za _ _ _ _ _ (ZM (vQ (K:=K) rfl rfl) rfl T.cG oA (@Za _ _ _ _ _ (pv 0) Zb rfl)) Zb rfl)) (Zl (Zu (K:=K) rfl) rfl T.ay ox (@Za _ _ _ _ _ (pv 0) Zb rfl)) (ZI _))))),?_⟩;refine⟨_,rfl,_,rfl,x,n,rfl,hk,fun H1 s1=>⟨_,rfl,?_⟩⟩;rcases UT hk.1 with⟨hb,p,xs,rfl,hp,hl⟩|⟨hb,e⟩
 ·obtain⟨hz,hy⟩:=hk.2 xs hl;have ev:XV H n (.ref p)=xs.all (YL n):=by unfold XV;rw[hl]
  have ew:Z2 H n (.ref p)=(xs.all (YL n)&&!xs.isEmpty&&decide xs.Nodup):=by unfold Z2;rw[hl]
  rw[ew] at k;rw[ev];cases hall:xs.all (YL n) with
  |false=>
   rw[hall] at k;exact Yo (Yo (k H1 s1))
  |true=>
   rw[hall] at k;refine Z3 ⟨_,rfl,.inl ⟨p,xs,rfl,.inl (oj (s1 _ _ hp)),rfl,_,rfl,?_⟩⟩;cases xs with
   |nil=>
    exact Yo (k H1 s1)
   |cons y r=>
    have e0:decide (V.int (((y::r).length:Nat):Int)=V.int 0)=false:=by
     refine gY fun q=>?_;have q':=V.int.inj q;rw[gH] at q';omega
    rw[e0];obtain⟨ks,eks⟩:=yV hall;rw[eks] at hp k hz;rw[fF] at hz;refine Z3 ⟨_,rfl,p,ks,rfl,oj (s1 _ _ hp),by omega,fun m c a1 a2 hc=>?_⟩;have s3:Ze H (upd H1 c (SetN c m)):=s1.trans (Zi hc);refine .inr (.inr ⟨c,m,rfl,Zd,by omega,_,rfl,.inl ⟨p,_,rfl,.inl (oj (s3 _ _ hp)),rfl,?_⟩⟩);rw[dec_len rfl a2];have q:=k _ s3;have ne:(!(ks.map kV).isEmpty)=true:=by rw[<- eks];rfl
    rw[ne] at q;exact q
 ·have ev:XV H n x=false:=by unfold XV;rw[e]
  have ew:Z2 H n x=false:=by unfold Z2;rw[e]
  rw[ew] at k;rw[ev];exact Yo (Yo (k H1 s1))
def xC(K:W.Frag)(a:Adr):Sp:=fun vs H Q _=>∃x y z u,vs=[x,y,z,u]/\KdLL H x/\KdLL H y/\KdL H z/\KdL H u/\∀H',Ze H H'->Q (.bl (Ur H x y z u)) H'
def yU:Okd P w K mg base a 5 a.y37 a.z37 dM xC:=fun T hw=>by
 refine okF T.br.f UQ fun de A outer s H vs Q E hr h=>?_;obtain⟨x,y,z,u,rfl,kx,ky,kz,ku,k⟩:=h;refine⟨_,(@Zc _ _ _ _ _ (@ZZ _ _ _ _ _ _ _ _ (PW.pt (Ut (@YY _ _ _ _ (Xf (Zl (Xb (K:=K) rfl "list") rfl T.ae ou (@Za _ _ _ _ _ (pv 0) (@Za _ _ _ _ _ (Xz (v:=.ty "list") rfl T.aN oq rfl) Zb rfl) rfl)))) (Vt (@YY _ _ _ _ (Xf (Zl (Xb (K:=K) rfl "list") rfl T.ae ou (@Za _ _ _ _ _ (pv 1) (@Za _ _ _ _ _ (Xz (v:=.ty "list") rfl T.aN oq rfl) Zb rfl) rfl))))))) (@Zh _ _ _ (@Zm _ _ _ _ YR)) ZD) (@Zc _ _ _ _ _ (@Zn _ _ (4) _ _ _ _ UQ.nd rfl (.inr rfl) (Zl (Zu (K:=K) rfl) rfl T.ay ox (@Za _ _ _ _ _ (pv 0) Zb rfl)) rfl (.inl rfl)) (@Zc _ _ _ _ _ (@ZZ _ _ _ _ _ _ _ _ (PW.pt (Ut (@YY _ _ _ _ (k4 yd yd Zf (pv 4) (yc rfl T.bU))) (Vt (@Zw _ _ _ _ _ _ _ _ op_ne (Zl (Zu (K:=K) rfl) rfl T.ay ox (@Za _ _ _ _ _ (pv 1) Zb rfl)) (pv 4) (ZI _))))) (@Zh _ _ _ (@Zm _ _ _ _ YR)) ZD) (@Zc _ _ _ _ _ (@ZZ _ _ _ _ _ _ _ _ (@YY _ _ _ _ (Xf (Zl (WX (K:=K) rfl rfl) rfl T.cr oy (@Za _ _ _ _ _ (ZR (Nc:=["names"]) (ix:=[none]) (ZJ.of (by decide +kernel:ZO (Zg Xs) Vx _ _ _=true)) rfl (ZC (K:=K) rfl (pv 0)) (fun _ _ _ _ _=>(Zo (i:=0) (show List.Nodup (["names"]:List Str) by decide +kernel) rfl (.inl rfl))) (fun _ _ _ _ _=>Z0) (fun _ _ _ _ _=>(ZA T.bj (zc T hw) hr rfl rfl (@Za _ _ _ _ _ (pv 0) Zb rfl)))) Zb rfl)))) (@Zh _ _ _ (@Zm _ _ _ _ YR)) ZD) (@Zc _ _ _ _ _ (@ZZ _ _ _ _ _ _ _ _ (@YY _ _ _ _ (Xf (Zl (WX (K:=K) rfl rfl) rfl T.cr oy (@Za _ _ _ _ _ (ZR (Nc:=["rooms","many"]) (ix:=[none,some 4]) (ZJ.of (by decide +kernel:ZO (Zg Xs) Vx _ _ _=true)) rfl (ZC (K:=K) rfl (pv 1)) (fun _ _ _ _ _=>(Zo (i:=0) (show List.Nodup (["rooms","many"]:List Str) by decide +kernel) rfl (.inl rfl))) (fun _ _ _ _ _=>Z0) (fun _ _ _ _ _=>(ZA T.aI (Vs T hw) hr rfl rfl (@Za _ _ _ _ _ (pv 0) (@Za _ _ _ _ _ (pv 1) Zb rfl) rfl)))) Zb rfl)))) (@Zh _ _ _ (@Zm _ _ _ _ YR)) ZD) (@Zh _ _ _ (@Zm _ _ _ _ (Xq (ZA T.aI (Vs T hw) hr rfl rfl (@Za _ _ _ _ _ (pv 2) (@Za _ _ _ _ _ (pv 4) Zb rfl) rfl)) (Xq (ZA T.bj (zc T hw) hr rfl rfl (@Za _ _ _ _ _ (pv 3) Zb rfl)) (Xc (@YZ _ _ _ _ _ _ _ _ yd (Zl (Zu (K:=K) rfl) rfl T.ay ox (@Za _ _ _ _ _ (pv 3) Zb rfl)) (yc rfl T.bX) (ZI _)))))))))))),?_⟩;rcases UT kx.1 with⟨hb,p,xs,rfl,hp,hl⟩|⟨hb,e⟩
 case inr=>
  obtain⟨t,h1,h2⟩:=WG K (by simp) kx.1 hb;have q:=k H (.refl H);have e2:Ur H x y z u=false:=by unfold Ur;rw[e]
  rw[e2] at q;exact⟨_,rfl,_,t,_,rfl,h1,h2,_,rfl,Yo (Yo q)⟩
 obtain⟨t,h1,h2⟩:=WG K (by simp) kx.1 hb;refine⟨_,rfl,_,t,_,rfl,h1,h2,_,rfl,Z3 ?_⟩;rcases UT ky.1 with⟨hb2,p2,ys,rfl,hp2,hl2⟩|⟨hb2,e⟩
 case inr=>
  obtain⟨t,h1,h2⟩:=WG K (by simp) ky.1 hb2;have q:=k H (.refl H);have e2:Ur H (.ref p) y z u=false:=by unfold Ur;rw[hl,e]
  rw[e2] at q;exact⟨_,rfl,_,t,_,rfl,h1,h2,_,rfl,Yo q⟩
 obtain⟨t2,h3,h4⟩:=WG K (by simp) ky.1 hb2;refine⟨_,rfl,_,t2,_,rfl,h3,h4,_,rfl,Z3 ?_⟩;obtain⟨hz,hy⟩:=kx.2 xs hl;obtain⟨hz2,hy2⟩:=ky.2 ys hl2;have hS:xs.length<=sizeLine:=by rw[fJ];omega
 have hS2:ys.length<=sizeLine:=by rw[fJ];omega
 have ev:Ur H (.ref p) (.ref p2) z u=(decide (1<=xs.length)&&decide (xs.length<=20)&&decide (ys.length=xs.length)&&xs.all (Yc H)&&ys.all (Z2 H xs.length)&&(Z2 H xs.length z&&(Yc H u&&few3 (XR H u)))):=by unfold Ur;rw[hl,hl2]
 rw[ev] at k;refine⟨_,rfl,.inl ⟨p,xs,rfl,.inl (oj hp),?_⟩⟩;refine⟨_,rfl,_,_,rfl,rfl,_,rfl,?_⟩;cases c1:decide ((1:Int)<=xs.length) with
 |false=>
  have e1:decide (1<=xs.length)=false:=gY fun q=>absurd (mh c1) (by omega);rw[e1] at k;exact Z3 ⟨_,rfl,Yo (Yo (k H (.refl H)))⟩
 |true=>
 have e1:decide (1<=xs.length)=true:=gO (by have:=gi c1;omega);rw[e1] at k;refine Yo ⟨_,_,rfl,rfl,_,rfl,?_⟩;cases c2:decide ((xs.length:Int)<=20) with
 |false=>
  have e2:decide (xs.length<=20)=false:=gY fun q=>absurd (mh c2) (by omega);rw[e2] at k;exact Yo (Yo (k H (.refl H)))
 |true=>
 have e2:decide (xs.length<=20)=true:=gO (by have:=gi c2;omega);rw[e2] at k;refine Z3 ⟨_,rfl,.inl ⟨p2,ys,rfl,.inl (oj hp2),_,rfl,rfl,_,rfl,?_⟩⟩;cases c3:decide (V.int (ys.length:Int)=V.int (xs.length:Int)) with
 |false=>
  have e3:decide (ys.length=xs.length)=false:=gY fun q=>absurd (mh c3) (by rw[q];simp);rw[e3] at k;exact Yo (k H (.refl H))
 |true=>
 have e3:decide (ys.length=xs.length)=true:=gO (by have:=V.int.inj (gi c3);omega);rw[e3] at k;refine Z3 ⟨_,rfl,p,rfl,⟨xs,oj hp⟩,fun D hD=>?_⟩;refine Wk (K:=K) hD (oj hp) hS (fun i v _=>∀x,xs[i]?=some x->v=.bl (Yc H x)) (fun _ _ _ _ _ q=>q) ?_ ?_
 ·intro i x H2 N hx sm hN;have hk:=hy x (gj hx);refine⟨_,rfl,x,rfl,hk.mono sm,fun H3 s3=>hN _ _ s3 fun x' hx'=>?_⟩;rw[hx] at hx';cases hx';rw[U3 sm hk.1]
 intro H2 zs hD2 sm hlen hr;have ey:=Vf (f:=Yc H) hlen fun i v x h1 h2=>hr i v h1 x h2;refine⟨D,_,rfl,oj (by rw[hD2,ey]),_,rfl,?_⟩;rw[xX];cases c4:xs.all (Yc H) with
 |false=>
  rw[c4] at k;exact Yo (k H2 sm)
 |true=>
 rw[c4] at k;refine Z3 ⟨_,rfl,p2,rfl,⟨ys,oj (sm _ _ hp2)⟩,fun D' hD'=>?_⟩;refine Wk (K:=K) hD' (oj (sm _ _ hp2)) hS2 (fun i v _=>∀x,ys[i]?=some x->v=.bl (Z2 H xs.length x)) (fun _ _ _ _ _ q=>q) ?_ ?_
 ·intro i x H3 N hx sm3 hN;have hk:=hy2 x (gj hx);have s3:=sm.trans sm3;refine⟨_,rfl,_,rfl,x,_,rfl,hk.mono s3,fun H4 s4=>hN _ _ s4 fun x' hx'=>?_⟩;rw[hx] at hx';cases hx';rw[UC s3 hk.1]
 intro H3 zs3 hD3 sm3 hlen3 hr3;have s3:=sm.trans sm3;have ey3:=Vf (f:=Z2 H xs.length) hlen3 fun i v x h1 h2=>hr3 i v h1 x h2;refine⟨D',_,rfl,oj (by rw[hD3,ey3]),_,rfl,?_⟩;rw[xX];cases c5:ys.all (Z2 H xs.length) with
 |false=>
  rw[c5] at k;exact Yo (k H3 s3)
 |true=>
 rw[c5] at k;refine Z3 ⟨_,rfl,_,rfl,z,_,rfl,kz.mono s3,fun H4 s4=>⟨_,rfl,?_⟩⟩;rw[UC s3 kz.1];have s5:=s3.trans s4;cases c6:Z2 H xs.length z with
 |false=>
  rw[c6] at k;exact Z3 (k H4 s5)
 |true=>
 rw[c6] at k;refine Yo ⟨_,rfl,u,rfl,ku.mono s5,fun H5 s6=>⟨_,rfl,?_⟩⟩;rw[U3 s5 ku.1];have s7:=s5.trans s6;cases c7:Yc H u with
 |false=>
  rw[c7] at k;exact Z3 (k H5 s7)
 |true=>
 rw[c7] at k;rcases UT ku.1 with⟨_,p4,fs,rfl,hp4,hl4⟩|⟨_,e⟩
 ·rw[hl4] at k;refine Yo ⟨_,rfl,.inl ⟨p4,fs,rfl,.inl (oj (s7 _ _ hp4)),_,_,rfl,rfl,?_⟩⟩;have q:=k H5 s7;have e8:decide (fs.length<=3)=decide ((fs.length:Int)<=3):=my.mpr (by omega);simp only[few3] at q;rw[e8] at q;exact q
 ·unfold Yc at c7;rw[e] at c7;cases c7
def va(K:W.Frag)(a:Adr):Sp:=fun vs H Q _=>∃p dx x y z u d,vs=[.ref p,x,y,z,u]/\H p=some (.ins a.C_World dx [])/\Wf H x y z u d/\Good d/\∀H',Zs p H H'->ZX a.C_World H' p d->Q .non H'
def qc:Okd P w K mg base a 6 a.y31 a.z31 dN va:=fun T hw=>by
 refine okF T.a9.f xY fun de A outer s H vs Q E hr h=>?_;obtain⟨p,dx,x,y,z,u,d,rfl,hp,pp,gd,k⟩:=h;refine⟨_,(@Zc _ _ _ _ _ (@ZZ _ _ _ _ _ _ _ _ (@YY _ _ _ _ (Xf (ZA T.br (yU T hw) hr rfl rfl (@Zq _ _ _ _ _ (pv 1) (@Zq _ _ _ _ _ (pv 2) (@Zq _ _ _ _ _ (pv 3) (@Zq _ _ _ _ _ (pv 4) Zb rfl) rfl) rfl) rfl)))) (@Zh _ _ _ Jc) ZD) (@Zc _ _ _ _ _ (qC (pv 0) (ZM (Yj (K:=K) rfl) rfl T.aK oz (@Za _ _ _ _ _ (ZR (Nc:=["names"]) (ix:=[none]) (ZJ.of (by decide +kernel:ZO (Zg XW) V2 _ _ _=true)) rfl (ZC (K:=K) rfl (pv 1)) (fun _ _ _ _ _=>(Zo (i:=0) (show List.Nodup (["names"]:List Str) by decide +kernel) rfl (.inl rfl))) (fun _ _ _ _ _=>Z0) (fun _ _ _ _ _=>(ZM (Yj (K:=K) rfl) rfl T.aK oz (@Za _ _ _ _ _ (Zl (VX (K:=K) rfl) rfl T.bO oB (@Za _ _ _ _ _ (pv 0) Zb rfl)) Zb rfl)))) Zb rfl)) rfl) (@Zc _ _ _ _ _ (qC (pv 0) (ZM (Yj (K:=K) rfl) rfl T.aK oz (@Za _ _ _ _ _ (ZR (Nc:=["rooms"]) (ix:=[none]) (ZJ.of (by decide +kernel:ZO (Zg XW) V2 _ _ _=true)) rfl (ZC (K:=K) rfl (pv 2)) (fun _ _ _ _ _=>(Zo (i:=0) (show List.Nodup (["rooms"]:List Str) by decide +kernel) rfl (.inl rfl))) (fun _ _ _ _ _=>Z0) (fun _ _ _ _ _=>(ZM (Yj (K:=K) rfl) rfl T.aK oz (@Za _ _ _ _ _ (Zl (VX (K:=K) rfl) rfl T.bO oB (@Za _ _ _ _ _ (pv 0) Zb rfl)) Zb rfl)))) Zb rfl)) rfl) (@Zc _ _ _ _ _ (qC (pv 0) (ZM (Yj (K:=K) rfl) rfl T.aK oz (@Za _ _ _ _ _ (Zl (VX (K:=K) rfl) rfl T.bO oB (@Za _ _ _ _ _ (pv 3) Zb rfl)) Zb rfl)) rfl) (@Zh _ _ _ (qC (pv 0) (ZM (Yj (K:=K) rfl) rfl T.aK oz (@Za _ _ _ _ _ (pv 4) Zb rfl)) rfl)))))),?_⟩;obtain⟨kx,ky,kz,ku⟩:=pp.kd gd;have hm:=pp.makes gd;refine⟨_,rfl,_,rfl,_,rfl,_,rfl,x,y,z,u,rfl,kx,ky,kz,ku,fun H1 s1=>⟨_,rfl,?_⟩⟩;rw[hm];refine Z3 ?_;have p1:=pp.mono s1;have hp1:=s1 _ _ hp;have ph:=p1.hid hp1;have:=gd.n20;have:=gd.wl;obtain⟨b1,v1,e1,g1,l1,q1⟩:=p1.s;subst e1;refine⟨_,rfl,b1,rfl,⟨v1,oj g1⟩,fun D hD=>?_⟩;refine Wk (K:=K) hD (oj g1) (by rw[fJ];omega) (fun i v G=>∀ss,d.signs[i]?=some ss->TS G v (X5 ss)) (fun i v _ _ sm q ss e=>TS.mono _ _ _ _ sm (q ss e)) ?_ ?_
 ·intro i w H2 N hx sm hN;have hi:i<d.signs.length:=by rw[<- l1];exact(fO.mp hx).1
  obtain⟨c,rfl,ec⟩:=q1 i w _ hx (fG hi);have hg:=gd.sn _ (fX hi);refine⟨_,rfl,.inl ⟨c,_,rfl,oj (sm _ _ ec),by omega,fun l hl=>⟨l,_,rfl,.inl ⟨oj Zd,fun t ht=>?_⟩⟩⟩⟩;refine hN _ _ ((Zi hl).trans (Zi ht)) fun ss hss=>⟨t,rfl,New.mk ((Zi hl).free ht) ?_⟩;rw[fG hi] at hss;cases hss;rw[Zd]
 intro H2 w1 hD2 s2 lw1 r1;refine⟨D,w1,rfl,.inl ⟨oj hD2,fun t1 ht1=>?_⟩⟩;have st1:=Zi (o:=.tup w1) ht1;have hp2:=st1 _ _ (s2 _ _ hp1);refine⟨_,rfl,p,_,dx,[],rfl,hp2,T.aj,T.aA,by decide,?_⟩;have x2:Zs p H1 (upd (upd H2 t1 (.tup w1)) p (.ins a.C_World dx (Yp "room_signs" (.ref t1) []))):=(Ze.x (s2.trans st1)).upd;have np1:t1≠p:=fun z=>by subst z;rw[s2 _ _ hp1] at ht1;cases ht1
 have W1:LT TS (hide p (upd (upd H2 t1 (.tup w1)) p (.ins a.C_World dx (Yp "room_signs" (.ref t1) [])))) (.ref t1) (d.signs.map X5):=by
  refine ju (xs:=d.signs) (Xw np1 (by rw[Zx np1,Zd])) (lw1.trans l1) fun i v hv ss hss=>?_;refine TS.mono _ _ _ _ ?_ (r1 i v hv ss hss);exact(New.hidden hp1).trans (Zs.hide ((Ze.x st1).upd))
 have hp3:(upd (upd H2 t1 (.tup w1)) p (.ins a.C_World dx (Yp "room_signs" (.ref t1) []))) p=some (.ins a.C_World dx (Yp "room_signs" (.ref t1) [])):=Zd;rw[put1] at x2 W1 hp3 ⊢;generalize upd (upd H2 t1 (.tup w1)) p (.ins a.C_World dx ([("room_signs",V.ref t1)]:List (Str×V)))=H3 at x2 W1 hp3 ⊢;have p3:=(ph.mono x2.hide).mono Wz;obtain⟨b2,v2,e2,g2,l2,q2⟩:=p3.w;subst e2;refine⟨_,rfl,b2,rfl,⟨v2,oj g2⟩,fun D2 hDD=>?_⟩;refine Wk (K:=K) hDD (oj g2) (by rw[fJ];omega) (fun i v G=>∀ss,d.ways[i]?=some ss->TIn G v (Z7 ss)) (fun i v _ _ sm q ss e=>TIn.mono _ _ _ _ sm (q ss e)) ?_ ?_
 ·intro i w H4 N hx sm hN;have hi:i<d.ways.length:=by rw[<- l2];exact(fO.mp hx).1
  obtain⟨c,rfl,ec⟩:=q2 i w _ hx (fG hi);have hg:=gd.wn _ (fX hi);refine⟨_,rfl,.inr ⟨c,_,rfl,oj (sm _ _ ec),by omega,fun l hl=>⟨l,_,rfl,.inl ⟨oj Zd,fun t ht=>?_⟩⟩⟩⟩;refine hN _ _ ((Zi hl).trans (Zi ht)) fun ss hss=>⟨t,rfl,New.mk ((Zi hl).free ht) ?_⟩;rw[fG hi] at hss;cases hss;rw[Zd]
 intro H4 w2 hD4 s4 lw2 r2;refine⟨D2,w2,rfl,.inl ⟨oj hD4,fun t2 ht2=>?_⟩⟩;have st2:=Zi (o:=.tup w2) ht2;have hp4:=st2 _ _ (s4 _ _ hp3);refine⟨_,rfl,p,_,dx,_,rfl,hp4,T.aj,T.aM,by simp,?_⟩;have x4:Zs p H3 (upd (upd H4 t2 (.tup w2)) p (.ins a.C_World dx (Yp "room_ways" (.ref t2) ([("room_signs",V.ref t1)]:List (Str×V))))):=(Ze.x (s4.trans st2)).upd;have np2:t2≠p:=fun z=>by subst z;rw[s4 _ _ hp3] at ht2;cases ht2
 have W2:LT TIn (hide p (upd (upd H4 t2 (.tup w2)) p (.ins a.C_World dx (Yp "room_ways" (.ref t2) ([("room_signs",V.ref t1)]:List (Str×V)))))) (.ref t2) (d.ways.map Z7):=by
  refine ju (xs:=d.ways) (Xw np2 (by rw[Zx np2,Zd])) (lw2.trans l2) fun i v hv ss hss=>?_;refine TIn.mono _ _ _ _ ?_ (r2 i v hv ss hss);exact(New.hidden hp3).trans (Zs.hide ((Ze.x st2).upd))
 have hp5:(upd (upd H4 t2 (.tup w2)) p (.ins a.C_World dx (Yp "room_ways" (.ref t2) ([("room_signs",V.ref t1)]:List (Str×V))))) p=some (.ins a.C_World dx (Yp "room_ways" (.ref t2) ([("room_signs",V.ref t1)]:List (Str×V)))):=Zd;have W1:=LT.mono TS.mono _ _ _ _ x4.hide W1;rw[put2] at x4 W1 W2 hp5 ⊢;generalize upd (upd H4 t2 (.tup w2)) p (.ins a.C_World dx ([("room_signs",V.ref t1),("room_ways",V.ref t2)]:List (Str×V)))=H5 at x4 W1 W2 hp5 ⊢;have x5:=x2.trans x4;have p5:=(ph.mono x5.hide).mono Wz;obtain⟨b3,e3,g3⟩:=p5.st;subst e3;have hst:=gd.stn.2.2.2;refine⟨_,rfl,.inr ⟨b3,_,rfl,oj g3,by omega,fun l hl=>⟨l,_,rfl,.inl ⟨oj Zd,fun t3 ht3=>?_⟩⟩⟩⟩;have st3:=(Zi (o:=.lst ((Z7 d.starts).map V.int)) hl).trans (Zi (o:=.tup ((Z7 d.starts).map V.int)) ht3);have hp6:=st3 _ _ hp5;refine⟨_,rfl,p,_,dx,_,rfl,hp6,T.aj,T.aU,by simp,?_⟩;have np3:t3≠p:=fun z=>by subst z;rw[Zi hl _ _ hp5] at ht3;cases ht3
 have x6:Zs p H5 (upd (upd (upd H5 l (.lst ((Z7 d.starts).map V.int))) t3 (.tup ((Z7 d.starts).map V.int))) p (.ins a.C_World dx (Yp "start_rooms" (.ref t3) ([("room_signs",V.ref t1),("room_ways",V.ref t2)]:List (Str×V))))):=(Ze.x st3).upd;have hp7:(upd (upd (upd H5 l (.lst ((Z7 d.starts).map V.int))) t3 (.tup ((Z7 d.starts).map V.int))) p (.ins a.C_World dx (Yp "start_rooms" (.ref t3) ([("room_signs",V.ref t1),("room_ways",V.ref t2)]:List (Str×V))))) p=some (.ins a.C_World dx (Yp "start_rooms" (.ref t3) ([("room_signs",V.ref t1),("room_ways",V.ref t2)]:List (Str×V)))):=Zd;have W3:TIn (hide p (upd (upd (upd H5 l (.lst ((Z7 d.starts).map V.int))) t3 (.tup ((Z7 d.starts).map V.int))) p (.ins a.C_World dx (Yp "start_rooms" (.ref t3) ([("room_signs",V.ref t1),("room_ways",V.ref t2)]:List (Str×V)))))) (.ref t3) (Z7 d.starts):=⟨t3,rfl,Xw np3 (by rw[Zx np3,Zd])⟩;have W1:=LT.mono TS.mono _ _ _ _ x6.hide W1;have W2:=LT.mono TIn.mono _ _ _ _ x6.hide W2;rw[put3] at x6 W1 W2 W3 hp7 ⊢;generalize upd (upd (upd H5 l (.lst ((Z7 d.starts).map V.int))) t3 (.tup ((Z7 d.starts).map V.int))) p (.ins a.C_World dx ([("room_signs",V.ref t1),("room_ways",V.ref t2),("start_rooms",V.ref t3)]:List (Str×V)))=H7 at x6 W1 W2 W3 hp7 ⊢;have x7:=x5.trans x6;have p7:=(ph.mono x7.hide).mono Wz;obtain⟨b4,e4,g4⟩:=p7.f;subst e4;refine⟨_,rfl,b4,_,rfl,.inl ⟨oj g4,fun t4 ht4=>?_⟩⟩;have st4:=Zi (o:=.tup (d.fair.map V.str)) ht4;have hp8:=st4 _ _ hp7;refine⟨_,rfl,p,_,dx,_,rfl,hp8,T.aj,T.aX,by simp,?_⟩;have np4:t4≠p:=fun z=>by subst z;rw[hp7] at ht4;cases ht4
 have x8:Zs p H7 (upd (upd H7 t4 (.tup (d.fair.map V.str))) p (.ins a.C_World dx (Yp "fair_names" (.ref t4) ([("room_signs",V.ref t1),("room_ways",V.ref t2),("start_rooms",V.ref t3)]:List (Str×V))))):=(Ze.x st4).upd;refine k _ ((Ze.x s1).trans (x7.trans x8)) ⟨dx,.ref t1,.ref t2,.ref t3,.ref t4,by rw[Zd,put4],?_,?_,?_,?_⟩
 ·exact LT.mono TS.mono _ _ _ _ (x8.hide.trans Wz) W1
 ·exact LT.mono TIn.mono _ _ _ _ (x8.hide.trans Wz) W2
 ·exact TIn.mono _ _ _ _ (x8.hide.trans Wz) W3
 ·exact⟨t4,rfl,by rw[Zx np4,Zd]⟩
def vA(K:W.Frag)(a:Adr):Sp:=fun vs H Q _=>∃p d,vs=[.ref p]/\ZX a.C_World H p d/\Q (.int d.signs.length) H
def Y6:Okd P w K mg base a 1 a.y32 a.z32 dh vA:=fun T hw=>by
 refine okF T.ab.f vB fun de A outer s H vs Q E hr h=>?_;obtain⟨p,d,rfl,hw,k⟩:=h;refine⟨_,(@Zh _ _ _ (@Zm _ _ _ _ (Zl (Zu (K:=K) rfl) rfl T.ay ox (@Za _ _ _ _ _ (XU (K:=K) rfl (pv 0) rfl) Zb rfl)))),?_⟩;obtain⟨dx,t1,t2,t3,t4,e,⟨b,vs,rfl,g,l,q⟩,_⟩:=hw.ex;refine⟨_,rfl,p,_,dx,_,_,rfl,e,T.aj,T.aA,JE _ _ _ _,.inl ⟨b,vs,rfl,.inr (on g),?_⟩⟩;rw[l,fF];exact k
def qV(K:W.Frag)(a:Adr):Sp:=fun vs H Q _=>∃p d i ss,vs=[.ref p,.int (i:Nat)]/\ZX a.C_World H p d/\d.signs[i]?=some ss/\∀l,H l=none->Q (.ref l) (upd H l (.lst ((X5 ss).map V.str)))
def X1:Okd P w K mg base a 1 a.y33 a.z33 dm qV:=fun T hw=>by
 refine okF T.ag.f qU fun de A outer s H vs Q E hr h=>?_;obtain⟨p,d,i,ss,rfl,hw,hs,k⟩:=h;refine⟨_,(@Zh _ _ _ (@Zm _ _ _ _ (ZM (Yz (K:=K) rfl rfl) rfl T.aN oq (@Za _ _ _ _ _ (@Zv _ _ _ _ _ _ _ (ZN (K:=K) rfl) (XU (K:=K) rfl (pv 0) rfl) (pv 1) (fun _ _=>rfl)) Zb rfl)))),?_⟩;obtain⟨dx,t1,t2,t3,t4,e,⟨b,vs,rfl,g,l,q⟩,_⟩:=hw.ex;have hi:i<vs.length:=by
  rw[l,fF];exact(fO.mp hs).1
 obtain⟨c,ec,gc⟩:=q i _ (X5 ss) (fG hi) (by rw[fL,hs];rfl);refine⟨_,rfl,p,_,dx,_,_,rfl,e,T.aj,T.aA,JE _ _ _ _,_,rfl,b,vs,_,_,rfl,rfl,on g,Zj (fG hi),?_⟩;rw[ec];exact .inl ⟨c,_,rfl,.inr (on gc),k⟩
def zH(K:W.Frag)(a:Adr):Sp:=fun vs H Q _=>∃p d i ss,vs=[.ref p,.int (i:Nat)]/\ZX a.C_World H p d/\d.ways[i]?=some ss/\∀l,H l=none->Q (.ref l) (upd H l (.lst ((Z7 ss).map V.int)))
def Wb:Okd P w K mg base a 1 a.y34 a.z34 dm zH:=fun T hw=>by
 refine okF T.ah.f zD fun de A outer s H vs Q E hr h=>?_;obtain⟨p,d,i,ss,rfl,hw,hs,k⟩:=h;refine⟨_,(@Zh _ _ _ (@Zm _ _ _ _ (ZM (Yz (K:=K) rfl rfl) rfl T.aN oq (@Za _ _ _ _ _ (@Zv _ _ _ _ _ _ _ (ZN (K:=K) rfl) (XU (K:=K) rfl (pv 0) rfl) (pv 1) (fun _ _=>rfl)) Zb rfl)))),?_⟩;obtain⟨dx,t1,t2,t3,t4,e,_,⟨b,vs,rfl,g,l,q⟩,_⟩:=hw.ex;have hi:i<vs.length:=by
  rw[l,fF];exact(fO.mp hs).1
 obtain⟨c,ec,gc⟩:=q i _ (Z7 ss) (fG hi) (by rw[fL,hs];rfl);refine⟨_,rfl,p,_,dx,_,_,rfl,e,T.aj,T.aM,lk_ways _ _ _ _,_,rfl,b,vs,_,_,rfl,rfl,on g,Zj (fG hi),?_⟩;rw[ec];exact .inl ⟨c,_,rfl,.inr (on gc),k⟩
end KK
namespace L3
open PySem PySem.Spec PyProof.Rows L2
def zg{xs:List α}{p:Nat}(p1:1<=p)(hp:p<=xs.length):atI xs (-(p:Int))=some (xs[xs.length-p]'(by omega)):=by
 unfold atI ixN;rw[if_neg (by omega),if_pos (by omega)]
 show xs[_]?=_
 have e:(-(p:Int)+(xs.length:Nat)).toNat=xs.length-p:=by omega
 rw[e];exact fG (by omega)
def cutV_neg(xs:List V){p:Nat}(p1:1<=p)(hp:p<=xs.length):W7 xs (some (-(p:Int))) none=xs.drop (xs.length-p):=by
 unfold W7;have e:HT.sIx xs.length 0 (some (-(p:Int)))=xs.length-p:=by
  show(if(-(p:Int))<0 then(-(p:Int)+(xs.length:Nat)).toNat else min (-(p:Int)).toNat xs.length)=_
  rw[if_pos (by omega)];omega
 rw[e,HT.sIx_none];exact mQ (by rw[ie];omega)
def Xj(way ring:List Int)(k:Nat):Int:=if k<way.length then way.getD k 0 else ring.getD ((k-way.length)%ring.length) 0
def runW_at{k:Nat}(h:k<(way++ring).length):(way++ring)[k]=Xj way ring k:=by
 rw[fK] at h;unfold Xj
 by_cases c:k<way.length
 ·rw[if_pos c,List.getElem_append_left c,i6,fG c];rfl
 ·rw[if_neg c,List.getElem_append_right (by omega),Nat.mod_eq_of_lt (by omega),i6,fG (by omega)];rfl
def jd(hr:ring≠[]){k:Nat}(h:(way++ring).length<=k):Xj way ring k=Xj way ring (k-ring.length):=by
 rw[fK] at h;have l0:0<ring.length:=nI fun e=>hr (m6 e);unfold Xj;rw[if_neg (by omega),if_neg (by omega)]
 congr 1
 have e:k-way.length=(k-ring.length-way.length)+ring.length:=by omega
 rw[e,Nat.add_mod_right]
def XG(t:Tr):Bool:=match t.lb with
 |.yes=>true
 |.sign _=>true
 |.op w=>decide (w = "some")
 |_=>false
noncomputable def YB(d:WD)(st:Tr->List Int)(t:Tr)(r:Int):Bool:=match t.lb with
 |.yes=>true
 |.sign z=>decide (z∈xM d r)
 |_=>decide (r∈st t)
noncomputable def U8(at_:Nat->Bool)(c:Lb)(gs:List (Nat->Bool)):Nat->Bool:=
 let g:=gs.getD 0 (fun _=>false)
 let h:=gs.getD 1 (fun _=>false)
 match c with
 |.yes=>at_
 |.sign _=>at_
 |.op w=>if w = "some" then at_ else if w = "not" then(fun k=>!g k) else if w = "next" then(fun k=>g (k+1)) else if w = "before" then befB g else if w = "until" then XD g h else Xd g h
 |_=>fun k=>g k&&h k
noncomputable def semP(d:WD)(st:Tr->List Int)(rm:Nat->Int)(c:Lb)(ps:List (Tr×(Nat->Bool))):Tr×(Nat->Bool):=(.node c (ps.map Prod.fst),U8 (fun k=>YB d st (.node c (ps.map Prod.fst)) (rm k)) c (ps.map Prod.snd))
noncomputable def Z4(d:WD)(st:Tr->List Int)(rm:Nat->Int)(t:Tr):Nat->Bool:=(YJ (semP d st rm) t).2
def JT(d:WD)(st:Tr->List Int)(rm:Nat->Int):∀(n:Nat) (t:Tr),psz t<=n->(YJ (semP d st rm) t).1=t
 |0,t,h=>by have:=Xe t;omega
 |n+1,t,h=>by
  rw[WL]
  show Tr.node t.lb _=t
  have e:(t.ks.map (YJ (semP d st rm))).map Prod.fst=t.ks:=by
   rw[gS];have:t.ks.map (Prod.fst∘YJ (semP d st rm))=t.ks.map id:=mw fun k hk=>JT d st rm n k (by have:=Yu hk;omega);rw[this,List.map_id]
  rw[e];exact(Tr.eta t).symm
def Ud(d:WD)(st:Tr->List Int)(rm:Nat->Int)(t:Tr):Z4 d st rm t=U8 (fun k=>YB d st t (rm k)) t.lb (t.ks.map (Z4 d st rm)):=by
 unfold Z4;rw[WL]
 show U8 (fun k=>YB d st (.node t.lb ((t.ks.map (YJ (semP d st rm))).map Prod.fst)) (rm k)) t.lb ((t.ks.map (YJ (semP d st rm))).map Prod.snd)=_
 have e:(t.ks.map (YJ (semP d st rm))).map Prod.fst=t.ks:=by
  rw[gS];have:t.ks.map (Prod.fst∘YJ (semP d st rm))=t.ks.map id:=mw fun k hk=>JT d st rm _ k (fE _);rw[this,List.map_id]
 rw[e,<- Tr.eta t,gS];rfl
def kA{rm:Nat->Int}{t:Tr}(h:XG t=true):Z4 d st rm t=fun k=>YB d st t (rm k):=by
 rw[Ud];unfold XG at h;cases e:t.lb with
 |yes=>rfl
 |sign z=>rfl
 |op w=>
  rw[e] at h;unfold U8;exact if_pos (gi h)
 |wit m=>rw[e] at h;cases h
 |many w=>rw[e] at h;cases h
def one_kid{ks:List Tr}(h:ks.length=1):∃a,ks=[a]:=by
 cases ks with
 |nil=>cases h
 |cons a r=>cases r with
  |nil=>exact⟨a,rfl⟩
  |cons b s=>simp at h
def Ja{ks:List Tr}(h:ks.length=2):∃a b,ks=[a,b]:=by
 cases ks with
 |nil=>cases h
 |cons a r=>cases r with
  |nil=>simp at h
  |cons b s=>cases s with
   |nil=>exact⟨a,b,rfl⟩
   |cons c u=>simp at h
def w6_one:∀w∈W6,w ≠ "some" -> w∈W1->w = "not" \/ w = "next" \/ w = "before" := by decide +kernel
def w6_two:∀w∈W6,w ≠ "some" -> w∈W2->w = "until" \/ w = "since" := by decide +kernel
def Wg{t:Tr}(hc:isC t=true)(ok:Xp t.lb t.ks.length)(h:XG t=false) :
  (∃w a,t=.node (.op w) [a]/\(w = "not" \/ w = "next" \/ w = "before"))\/(∃w a b,t=.node (.op w) [a,b]/\(w = "until" \/ w = "since"))\/∃a b,t=.node (.many "and") [a,b]:=by
 obtain⟨c,ks⟩:=t;rw[YG] at hc;unfold Us at hc;rw[gv] at hc;obtain⟨_,hc⟩:=hc;unfold XG at h;cases c with
 |yes=>cases h
 |sign z=>cases h
 |op w=>
  have w6:=gi hc;have ns:w ≠ "some" := mh h;rcases ok with⟨ok,l⟩|⟨ok,l⟩
  ·obtain⟨a,rfl⟩:=one_kid l;exact .inl ⟨w,a,rfl,w6_one w w6 ns ok⟩
  ·obtain⟨a,b,rfl⟩:=Ja l;exact .inr (.inl ⟨w,a,b,rfl,w6_two w w6 ns ok⟩)
 |wit m=>cases hc
 |many w=>
  change (decide (w = "and")&&decide ((ks.map isC).length=2))=true at hc
  rw[gv] at hc;have e1:=gi hc.1;have e2:=gi hc.2;rw[fF] at e2;obtain⟨a,b,rfl⟩:=Ja e2;subst e1;exact .inr (.inr ⟨a,b,rfl⟩)
def Uy(at_:Nat->Bool)(w:Str)(gs:List (Nat->Bool)):U8 at_ (.op w) gs=if w = "some" then at_ else if w = "not" then(fun k=>!gs.getD 0 (fun _=>false) k) else if w = "next" then(fun k=>gs.getD 0 (fun _=>false) (k+1)) else if w = "before" then befB (gs.getD 0 fun _=>false) else if w = "until" then XD (gs.getD 0 fun _=>false) (gs.getD 1 fun _=>false) else Xd (gs.getD 0 fun _=>false) (gs.getD 1 fun _=>false):=rfl
section
variable{rm:Nat->Int}
def kL(a:Tr):Z4 d st rm (.node (.op "not") [a])=fun k=>!Z4 d st rm a k:=by
 rw[Ud]
 show U8 _ (.op _) _=_
 rw[Uy];rw[if_neg (by decide +kernel),if_pos rfl];rfl
def yF(a:Tr):Z4 d st rm (.node (.op "next") [a])=fun k=>Z4 d st rm a (k+1):=by
 rw[Ud]
 show U8 _ (.op _) _=_
 rw[Uy];rw[if_neg (by decide +kernel),if_neg (by decide +kernel),if_pos rfl];rfl
def qH(a:Tr):Z4 d st rm (.node (.op "before") [a])=befB (Z4 d st rm a):=by
 rw[Ud]
 show U8 _ (.op _) _=_
 rw[Uy];rw[if_neg (by decide +kernel),if_neg (by decide +kernel),if_neg (by decide +kernel),if_pos rfl];rfl
def zE(a b:Tr):Z4 d st rm (.node (.op "until") [a,b])=XD (Z4 d st rm a) (Z4 d st rm b):=by
 rw[Ud]
 show U8 _ (.op _) _=_
 rw[Uy];rw[if_neg (by decide +kernel),if_neg (by decide +kernel),if_neg (by decide +kernel),if_neg (by decide +kernel),if_pos rfl];rfl
def zU(a b:Tr):Z4 d st rm (.node (.op "since") [a,b])=Xd (Z4 d st rm a) (Z4 d st rm b):=by
 rw[Ud]
 show U8 _ (.op _) _=_
 rw[Uy];rw[if_neg (by decide +kernel),if_neg (by decide +kernel),if_neg (by decide +kernel),if_neg (by decide +kernel),if_neg (by decide +kernel)];rfl
def jJ(a b:Tr):Z4 d st rm (.node (.many "and") [a,b])=fun k=>Z4 d st rm a k&&Z4 d st rm b k:=by
 rw[Ud];rfl
def JX{t:Tr}(h:XG t=true)(hr:ring≠[]):ZQ ring.length ((way++ring).map (YB d st t)) (Z4 d st (Xj way ring) t):=by
 have l0:0<ring.length:=nI fun e=>hr (m6 e);rw[kA h];refine .of l0 (fF _) (by rw[fK];omega) (fun k hk=>?_) (fun k hk=>by rw[jd hr hk]);rw[fL,fG hk,runW_at hk];rfl
end
def xL{a:Addr}{Q:VK}(l:List α)(φ:α->V)(f:α->V)(hD:H0 D=none)(hq:SqT K H0 a (l.map φ))(hz:l.length<=sizeLine)
  (step:∀x∈l,∀H (N:V->Hp->Prop),Ze H0 H->(∀H4,Ze H H4->N (f x) H4)->te (some (φ x)::τ) H N)
  (fin:∀H',H' D=some (.lst (l.map f))->Ze H0 H'->Q (.ref D) H'):zj (Itt K a) D (VR 0) xJ te (none::τ) H0 Q:=by
 refine xg l φ (fun _=>true) f hD hz (fun i H hi s=>⟨_,φ l[i],Ze.seqT s hq,by rw[fL,fG hi];rfl⟩) (fun H s=>⟨_,Ze.seqT s hq,by rw[fF];exact fE _⟩) (fun i x H H2 hi s hyl=>?_) (fun x hx H N N0 s h1 _=>UN (step x hx H N s fun H4 s4=>h1 H4 s4 rfl)) (fun H' h s=>fin H' (by rw[h,List.filter_eq_self.mpr (fun _ _=>rfl)]) s);obtain⟨rfl,hx⟩:=hyl;have e:=hx _ (Ze.seqT s hq);rw[fL,fG hi] at e;exact⟨rfl,(fY e).symm⟩
def Ord(F:List Tr):Prop:=∀(j:Nat) t,F[j]?=some t->∀k∈ZF t,∃i:Nat,i<j/\F[i]?=some k
def Ord.add{F:List Tr}{t:Tr}(h:Ord F)(hk:∀k∈ZF t,k∈F):Ord (WN F t):=by
 by_cases c:t∈F
 ·rw[Uo c];exact h
 ·rw[Vc c];intro j u e k hu
  by_cases cj:j<F.length
  ·rw[gm cj] at e;obtain⟨i,hi,ei⟩:=h j u e k hu;exact⟨i,hi,by rw[gm (by omega)];exact ei⟩
  ·have hj:=(fO.mp e).1;rw[fK,gG] at hj;rw[gy (by omega),show j-F.length=0 by omega] at e;cases e;obtain⟨i,hi,ei⟩:=gI (hk k hu);exact⟨i,by omega,by rw[gm hi,fG hi,ei]⟩
def PB(F:List Tr):List Tr->Prop
 |[]=>True
 |t::r=>(∀k∈ZF t,k∈F)/\PB (F++[t]) r
def PB.more{F G:List Tr}(s:∀x∈F,x∈G):∀{L:List Tr},PB F L->PB G L
 |[],_=>trivial
 |t::r,h=>⟨fun k hk=>s k (h.1 k hk),PB.more (F:=F++[t]) (G:=G++[t]) (fun x hx=>by
   rcases fR.mp hx with q|q
   ·exact fR.mpr (.inl (s x q))
   ·exact fR.mpr (.inr q)) h.2⟩
def PB.app:∀{L M F:List Tr},PB F L->PB (F++L) M->PB F (L++M)
 |[],M,F,_,h=>by rw[iB] at h;exact h
 |t::r,M,F,h,g=>⟨h.1,PB.app h.2 (by rw[iO];exact g)⟩
def PB.flat:∀{Ls:List (List Tr)}{F:List Tr},(∀L∈Ls,PB [] L)->PB F Ls.flatten
 |[],F,_=>trivial
 |L::r,F,h=>by
  rw[lD];exact PB.app ((h L iz).more fun x hx=>by cases hx) (PB.flat fun M hM=>h M (gf _ hM))
def kZ:∀(n:Nat) (t:Tr),psz t<=n->PB [] (Zp t)
 |0,t,h=>by have:=Xe t;omega
 |n+1,t,h=>by
  rw[Xh];refine PB.app (PB.flat fun L hL=>?_) ⟨fun k hk=>?_,trivial⟩
  ·obtain⟨k,hk,rfl⟩:=gn.mp hL;exact kZ n k (by have:=Yu (Yl hk);omega)
  ·rw[lV];exact iH.mpr ⟨Zp k,gn.mpr ⟨k,hk,rfl⟩,qi k⟩
def ord_all:∀{L F A:List Tr},PB F L->(∀x∈F,x∈A)->Ord A->Ord (Zk A L)
 |[],F,A,_,_,o=>o
 |t::r,F,A,h,s,o=>by
  rw[Xg];refine ord_all h.2 (fun x hx=>?_) (o.add fun k hk=>s k (h.1 k hk));rcases fR.mp hx with q|q
  ·exact xq.mpr (.inl (s x q))
  ·exact xq.mpr (.inr (fW.mp q))
def Jm(t:Tr):Ord (Zk [] (Zp t)):=ord_all (kZ _ t (fE _)) (fun x hx=>by cases hx) fun j u h=>by simp at h
def vR(t:Tr):∃ts,Zk [] (Zp t)=ts++[t]:=by
 have e:Zp t=((ZF t).map Zp).flatten++[t]:=Xh t;rw[e,Z9]
 show ∃ts,WN (Zk [] ((ZF t).map Zp).flatten) t=ts++[t]
 refine⟨_,Vc fun m=>?_⟩;rcases ZH.mp m with q|q
 ·cases q
 ·obtain⟨L,hL,hq⟩:=iH.mp q;obtain⟨k,hk,rfl⟩:=gn.mp hL;have h1:=VD _ (fE _) hq;have h2:=Yu (Yl hk);omega
def WR:Value->Int
 |.int x _=>x
 |_=>0
def SetZ(prog:Program)(w:World)(B:Bool)(h:Heap)(a:Addr)(ss:List Int):Prop:=
 ∃o es ep t,h.get? a=some o/\o.ExactSet/\o.data=.set es ep t/\t.fits es.size=true/\ElemsOf (ZB prog w) es.toList/\(B=false->t.led=true) /\
  (∀e∈es.toList,∃x k,e.2=.int x k)/\(es.toList.map fun e=>WR e.2).Nodup/\(∀x,x∈(es.toList.map fun e=>WR e.2)↔x∈ss)/\es.size<=ss.length
def SetZ.keep{B:Bool}{a:Addr}{ss:List Int}(x:SetZ prog w B h a ss)(k:∀o,h.get? a=some o->h'.get? a=some o):SetZ prog w B h' a ss:=by
 obtain⟨o,es,ep,t,ho,r⟩:=x;exact⟨o,es,ep,t,k o ho,r⟩
def add_int{B:Bool}{a:Addr}{ss:List Int}{x:Int}{Q:Bool->Shared->Prop}(hS:SetZ prog w B s.heap a ss)(hroom:ss.length+1<scanBound)
  (h:∀h' b,Heap.SameBut a s.heap h'->SetZ prog w B h' a (ss++[x])->Q b { s with heap:=h' }) :
  wpAny (model prog w) A (setAddHashed a (.int x tk) ((ZB prog w).hash (.inl x))) Q E s:=by
 have hkey:(ZB prog w).is (.inl x) (.int x tk)=true:=VJ x tk;have hsc:(Value.int x tk).scannable=true:=rfl;obtain⟨o,es,ep,t,ho,hex,hd,hf,hel,hL,hst,hnd,hin,hle⟩:=hS;have hb:es.size<scanBound:=by omega
 have isx:∀e∈es.toList,((ZB prog w).is (.inl x) e.2=true↔WR e.2=x):=fun e m=>by
  obtain⟨y,k,ey⟩:=hst e m;rw[ey];constructor
  ·intro q;have q2:UG (.inl x) (.int y k)=true:=q;rcases Yk q2 with⟨i,t',e1,e2⟩|⟨z,t',e1,e2⟩
   ·cases e1;cases e2;rfl
   ·cases e1
  ·intro q;have q':y=x:=q;subst q';exact VJ y k
 unfold setAddHashed setAddHashedIn;refine hU (fD (iw ho hd hf ?_));dsimp only;rw[byScan_of hsc hb hel];simp only[↓reduceIte];unfold setAddByScan;refine fD ?_;refine fD (l3 ?_);refine fD (wpAny_setScan_of hkey ho hd hf hel ?_);cases hr:List.findIdx? (fun e=>(ZB prog w).is (.inl x) e.2) es.toList with
 |some j=>
  dsimp only;obtain⟨hj,hpj,_⟩:=List.findIdx?_eq_some_iff_getElem.mp hr;refine fI (fI ?_);have e:s={ s with heap:=s.heap }:=by cases s;rfl
  rw[e];have hm:x∈ss:=(hin x).mp (gn.mpr ⟨es.toList[j],fX hj,(isx _ (fX hj)).mp hpj⟩);refine h s.heap false (Heap.SameBut.refl a s.heap) ⟨o,es,ep,t,ho,hex,hd,hf,hel,hL,hst,hnd,fun y=>?_,by rw[fK];omega⟩;rw[hin y,fR,fW];exact⟨.inl,fun q=>q.elim id fun q=>q▸hm⟩
 |none=>
  dsimp only;have hnone:∀e∈es.toList,WR e.2≠x:=fun e m q=>by
   have:=List.findIdx?_eq_none_iff.mp hr e m;rw[(isx e m).mpr q] at this;cases this
  have hgw:∀(b:Bool) {s₁:Shared}{Q':Unit->Shared->Prop},Q' () s₁->wpAny (model prog w) A (match b with|true=>rule "set.scan.the-table-gave-way" |false=>pure ()) Q' E s₁:=
   fun b s₁ Q' hq=>by cases b<;>first|exact fI hq|exact l3 hq
  have hperm:=layNew_perm t es ((ZB prog w).hash (.inl x)) (.int x tk);have hfits:=layNew_fits t es ((ZB prog w).hash (.inl x)) (.int x tk);have hled:=J3 t es ((ZB prog w).hash (.inl x)) (.int x tk);generalize hLn:layNew t es ((ZB prog w).hash (.inl x)) (.int x tk)=L at hperm hfits hled ⊢;obtain⟨es1,t1,wasDummy,gave⟩:=L;dsimp only at hperm hfits hled ⊢;rw[nG] at hperm;have hel1:ElemsOf (ZB prog w) es1.toList:=(hel.push hkey hsc).perm hperm;have hsz1:es1.size=es.size+1:=by rw[<- im,hperm.length_eq,fK,im];rfl
  have good:∀(es2:Array (Int×Value)),es2.toList.Perm es1.toList->(∀e∈es2.toList,∃x k,e.2=.int x k)/\(es2.toList.map fun e=>WR e.2).Nodup/\(∀y,y∈(es2.toList.map fun e=>WR e.2)↔y∈ss++[x]):=fun es2 hp=>by
   have hp2:=hp.trans hperm;have hm:=hp2.map fun e=>WR e.2;rw[gb] at hm;refine⟨fun e m=>?_,hm.nodup_iff.mpr (lI.mpr ⟨hnd,by simp,fun u hu v hv=>?_⟩),fun y=>?_⟩
   ·rcases fR.mp (hp2.mem_iff.mp m) with m|m
    ·exact hst e m
    ·rw[fW] at m;subst m;exact⟨x,tk,rfl⟩
   ·obtain⟨e,m,rfl⟩:=gn.mp hu;have:v=x:=by simpa[WR] using hv
    rw[this];exact hnone e m
   ·rw[hm.mem_iff,fR,fR,hin y];simp[WR]
  refine fD (hgw _ ?_);have XH:∀t2:SetTable,t2.fits es1.size=true->t2.led=t.led->wpAny (model prog w) A (do
    storeSet a es1 t2
    if(!wasDummy&&t2.tooFull)=true then do
      (match (relayAll t2 es1 (SetTable.grown es1.size)).2.2 with|true=>rule "set.scan.the-table-gave-way" |false=>pure ())
      storeSet a (relayAll t2 es1 (SetTable.grown es1.size)).1 (relayAll t2 es1 (SetTable.grown es1.size)).2.1
      pure (some true)
     else pure (some true)) (fun a_1 s'=>wpAny (model prog w) A (match a_1 with|some added=>pure added|none=>setAddHashedIn a (.int x tk) ((ZB prog w).hash (.inl x)) 99999) Q E s') E s:=by
   intro t2 f2 l2;refine fD (wpAny_storeSet_of ho hd ?_ (by rw[fJ];have:scanBound=4096:=rfl;omega));have hg:=vO (es':=es1) (t':=t2) ho hd;have sb:=Heap.SameBut.update s.heap a (Obj.putSet es1 t2)
   split
   ·have hp:=relayAll_perm t2 es1 (SetTable.grown es1.size);have hfr:=relayAll_fits t2 es1 (SetTable.grown es1.size);have hlr:=jR t2 es1 (SetTable.grown es1.size);generalize hRl:relayAll t2 es1 (SetTable.grown es1.size)=Rl at hp hfr hlr ⊢;obtain⟨es2,t3,gave2⟩:=Rl;dsimp only at hp hfr hlr ⊢;have hsz:es2.size=es1.size:=by rw[<- im,hp.length_eq,im]
    refine fD (hgw _ ?_);refine fD (wpAny_storeSet_of hg rfl ?_ (by rw[fJ];have:scanBound=4096:=rfl;omega));have hg':=vO (es':=es2) (t':=t3) hg rfl;obtain⟨g1,g2,g3⟩:=good es2 hp;exact fI (fI (h _ true (sb.trans (Heap.SameBut.update _ a _)) ⟨_,es2,_,t3,hg',hex,rfl,hfr,hel1.perm hp,(fun z=>by rw[hlr,l2];exact hL z),g1,g2,g3,by rw[hsz,hsz1,fK];simp;omega⟩))
   ·obtain⟨g1,g2,g3⟩:=good es1 (.refl _);exact fI (fI (h _ true sb ⟨_,es1,_,t2,hg,hex,rfl,f2,hel1,(fun z=>by rw[l2];exact hL z),g1,g2,g3,by rw[hsz1,fK];simp;omega⟩))
  split
  ·refine fD ?_;rw[hashByValue_scannable 8 hsc];refine fI ?_
   split
   ·exact XH t1 hfits hled
   ·exact XH _ (SetTable.fits_plain_off hfits) hled
  ·refine fD (fI ?_);simp only[↓reduceIte];exact XH t1 hfits hled
def call_setJ{l:Addr}{ss:List Int}{items:List Value}(hh:A.handled=none)(hl:s.heap.IsList l items.toArray)(hv:ZK (ss.map V.int) items)(hb:ss.length<1000)
  (h:∀(h':Heap) (tk:Nat),SetZ prog w (w.params.followText "set-order") h' s.heap.objs.size ss->(∀b o,s.heap.get? b=some o->h'.get? b=some o)->Q (.ref s.heap.objs.size) { s with heap:=h',toks:=tk }) :
  wpAny (model prog w) A (call (.type "set") [.ref l]) Q E s:=by
 have len:items.length=ss.length:=by rw[<- hv.length,fF]
 have hmap:items.map WR=ss:=by
  clear h hb len hl
  induction ss generalizing items with
  |nil=>cases hv;rfl
  |cons y r ih=>
   cases hv with
   |cons h1 h2=>
    obtain⟨t,rfl⟩:=h1;rw[fZ,ih h2];rfl
 have hstr:∀v∈items,∃x k,v=.int x k:=by
  clear h hb len hl hmap
  induction ss generalizing items with
  |nil=>cases hv;intro v h;cases h
  |cons y r ih=>
   cases hv with
   |cons h1 h2=>
    obtain⟨t,rfl⟩:=h1;intro v hm;rcases fQ.mp hm with rfl|hm
    ·exact⟨_,_,rfl⟩
    ·exact ih h2 v hm
 refine call_setG (SI:=fun h vs=>SetZ prog w (w.params.followText "set-order") h s.heap.objs.size (vs.map WR)) hh hl (fun x k=>x.keep k) ?_ ?_ fun h' tk a b=>h h' tk (by rw[hmap] at a;exact a) b
 ·exact⟨_,#[],0,_,ge _ rfl,⟨rfl,rfl,rfl⟩,rfl,by rfl,(fun e he=>by simp at he),(fun z=>by show(!_)=true;rw[z];rfl),(fun e he=>by simp at he),by simp,fun x=>by simp,gB _⟩
 ·intro A' s' i v hA hvi hg hS E Q hQ;obtain⟨x,k,rfl⟩:=hstr v (gj hvi);unfold setAdd;refine hU (fD ((ZB prog w).pyHash (k:=.inl x) (VJ x k) ?_));refine add_int (s:={ s' with toks:=s'.toks+1 }) (ss:=(items.take i).map WR) hS (by rw[fF,gu];have:scanBound=4096:=rfl;omega) fun h' b sb hS'=>hQ h' _ b sb ?_;rw[gb];exact hS'
def told_once{B:Bool}{pk:Nat->Nat}{seq:List Value}
  (b1:∀(i:Nat) x,seq[i]?=some x->Wu B (pickOrder pk es) es place (sls i) (0+i)=some (x,sls (i+1))) :
  ∀f:Value->Int,(es.toList.map fun e=>f e.2).Nodup->(seq.map f).Nodup:=by
 intro f hn;cases B with
 |true=>
  have hp:((pickOrder pk es).toList.map fun e=>f e.2).Nodup:=((pick_perm (next:=pk) es).map _).nodup_iff.mpr hn;unfold List.Nodup;rw[mV];intro i j hi hj hij;rw[fF] at hi hj;have hx:∀(i:Nat) (h:i<seq.length),((pickOrder pk es).toList.map fun e=>f e.2)[i]?=some (f seq[i]):=fun i h=>by
   have:=b1 i seq[i] (fG h);unfold Wu at this;simp only[ia] at this;obtain⟨e,e1,e2⟩:=iF.mp this;rw[l7] at e1;rw[fL,lE,e1];have:e.2=seq[i]:=fS Prod.fst e2;rw[<- this];rfl
  rw[iK,iK];intro e;have h1:=hx i hi;have h2:=hx j hj;rw[<- e] at h2;obtain⟨l1,g1⟩:=fO.mp h1;obtain⟨l2,g2⟩:=fO.mp h2;have:=(iU hp).mp (g1.trans g2.symm);omega
 |false=>
  have st:∀(i:Nat) (h:i<seq.length),∃k p:Nat,(∃e,es[k]?=some e/\e.2=seq[i])/\place[k]?=some p/\sls i<=p/\sls (i+1)=p+1:=fun i h=>by
   have:=b1 i seq[i] (fG h);unfold Wu at this;simp only[hV,gU] at this
   split at this
   ·rename_i u x j h1 h2
    have g:=fY this;have gx:x=seq[i]:=fS Prod.fst g;have gs:j+1=sls (i+1):=fS Prod.snd g;exact⟨_,j,⟨_,h1,gx⟩,h2,Ju rfl h2,gs.symm⟩
   ·cases this
  have up:∀(d i:Nat),i+d<=seq.length->sls i<=sls (i+d):=fun d=>by
   induction d with
   |zero=>exact fun i _=>fE _
   |succ d ih=>
    intro i h;obtain⟨k,p,_,_,h3,h4⟩:=st (i+d) (by omega);have:=ih i (by omega);have e:i+(d+1)=i+d+1:=by omega
    rw[e,h4];omega
  unfold List.Nodup;rw[mV];intro i j hi hj hij;rw[fF] at hi hj;rw[iK,iK];obtain⟨k1,p1,⟨e1,a1,c1⟩,a2,a3,a4⟩:=st i hi;obtain⟨k2,p2,⟨e2,d1,c2⟩,d2,d3,d4⟩:=st j hj;have hu:=up (j-(i+1)) (i+1) (by omega);have ej:i+1+(j-(i+1))=j:=by omega
  rw[ej,a4] at hu;intro e;have hk:k1≠k2:=fun z=>by rw[z,d2] at a2;cases a2;omega
  have q1:(es.toList.map fun e=>f e.2)[k1]?=some (f seq[i]):=by rw[fL,lE,a1,<- c1];rfl
  have q2:(es.toList.map fun e=>f e.2)[k2]?=some (f seq[j]):=by rw[fL,lE,d1,<- c2];rfl
  rw[<- e] at q2;obtain⟨l1,g1⟩:=fO.mp q1;obtain⟨l2,g2⟩:=fO.mp q2;exact hk ((iU hn).mp (g1.trans g2.symm))
def KH{seq:List Value}{ys:List Nat}(nd:ys.Nodup)(q1:seq.length=ys.length)(q2:∀(i:Nat) x,seq[i]?=some x->∃p e,ys[i]?=some p/\es[p]?=some e/\x=e.2) :
  ∀f:Value->Int,(es.toList.map fun e=>f e.2).Nodup->(seq.map f).Nodup:=by
 intro f hn;unfold List.Nodup;rw[mV];intro i j hi hj hij;rw[fF] at hi hj;rw[iK,iK];obtain⟨p1,e1,a1,c1,f1⟩:=q2 i _ (fG hi);obtain⟨p2,e2,a2,c2,f2⟩:=q2 j _ (fG hj);intro e;have r1:(es.toList.map fun e=>f e.2)[p1]?=some (f seq[i]):=by rw[fL,lE,c1,f1];rfl
 have r2:(es.toList.map fun e=>f e.2)[p2]?=some (f seq[j]):=by rw[fL,lE,c2,f2];rfl
 rw[<- e] at r2;obtain⟨l1,g1⟩:=fO.mp r1;obtain⟨l2,g2⟩:=fO.mp r2;have hp:=(iU hn).mp (g1.trans g2.symm);rw[<- hp] at a2;obtain⟨m1,k1⟩:=fO.mp a1;obtain⟨m2,k2⟩:=fO.mp a2;have:=(iU nd).mp (k1.trans k2.symm);omega
def SetWalkN(prog:Program)(w:World)(A:Around)(es:Array (Int×Value))(z:Nat)(a I:Addr)(h:Heap):Prop:=
 ∃(fp:List Addr) (seq:List Value) (St:Nat->Heap->Prop),Walks prog w A I fp [I] seq.length (fun i v=>seq[i]?=some v) St/\St 0 h/\(∀b∈fp,b<h.objs.size)/\(∀b∈fp,b=a\/z<=b)/\I∈fp/\(∀v∈seq,∃e∈es.toList,v=e.2)/\seq.length<=es.size/\(0<es.size->0<seq.length)/\∀f:Value->Int,(es.toList.map fun e=>f e.2).Nodup->(seq.map f).Nodup
def iter_setN{A':Around}{a:Addr}{es ep t}(hh:A'.handled=none)(hS:X4 s.heap a es ep t)(hf:t.fits es.size=true)(hled:w.params.followText "set-order" = false->t.led=true)(hz:es.size<=1000)
  (hQ:∀I h' dr,s.heap.objs.size<=I->(∀b o,s.heap.get? b=some o->h'.get? b=some o)->SetWalkN prog w A' es s.heap.objs.size a I h'->Q (.ref I) { s with heap:=h',drawn:=dr }):wpAny (model prog w) A (pyIter (.ref a)) Q E s:=by
 obtain⟨o,ho,hc,hd⟩:=id hS;have haz:a<s.heap.objs.size:=fN ho;refine wpAny_pyIter_slot hS.typeIs F.slot_set_iter (io F.slot_set_iter hS.typeIs yG ?_ (F.args_set_iter_1 _))
 show wpAny _ _ (Builtin.Frozenset.sizeOf a >>= _) _ _ s
 refine fD ?_;unfold Builtin.Frozenset.sizeOf setEntries;refine fD (fD (iw ho hd hf (fI (fI ?_))));dsimp only;refine fD ?_;unfold setDrawn;refine fD (iw ho hd hf ?_);dsimp only;refine fD ?_;unfold setsByText;refine fD (mZ (fI ?_))
 show wpAny _ _ (pure (!w.params.followText "set-order" && (!t.plain&&decide (es.size>1)))) _ _ s
 refine fI ?_;have fits_:=hf;have hpl:t.place.size=es.size:=by
  unfold SetTable.fits at hf;rw[gv] at hf;simpa using hf.1
 cases hdr:(!w.params.followText "set-order" && (!t.plain&&decide (es.size>1)))
 ·simp only[hV,gU];refine fD (fI ?_);refine fD ?_;unfold setEpoch;refine fD (iw ho hd hf (fI ?_));dsimp only;refine fD (ig ?_);refine fI ⟨_,rfl, "set_iterator",_,⟨_,ge _ rfl,rfl⟩,ZS.lookup,?_⟩;have hw:w.params.followText "set-order" = false->t.led=true/\(t.plain=true\/es.size<=1):=fun e=>by
   refine⟨hled e,?_⟩;rw[e] at hdr;simp only[Bool.not_false,i5,Bool.and_eq_false_iff,Bool.not_eq_false',nv] at hdr;rcases hdr with h|h
   ·exact .inl h
   ·exact .inr (by omega)
  have hdone:∃(seq:List Value) (sls:Nat->Nat),sls 0=0/\(∀i x,seq[i]?=some x->Wu (w.params.followText "set-order") (pickOrder (w.params.setOrder a ep) es) es t.place (sls i) (0+i)=some (x,sls (i+1))) /\
    Wu (w.params.followText "set-order") (pickOrder (w.params.setOrder a ep) es) es t.place (sls seq.length) (0+seq.length)=none/\seq.length<=es.size:=by
   obtain⟨p1,p2,p3⟩:=kK (next:=w.params.setOrder a ep) es;cases hT:w.params.followText "set-order"
   ·obtain⟨seq,sls,a1,a2,a3,a4⟩:=seq_ex (nxt:=Wu false (pickOrder (w.params.setOrder a ep) es) es t.place) (m:=fun sl _=>t.place.toList.countP (fun x=>decide (sl<=x))) (fun sl g x sl' he=>by
     unfold Wu at he;simp only[hV,gU] at he
     split at he
     ·rename_i j _ hj
      cases he;refine count_lt ?_ (Ju rfl hj);have:=nM hj;simpa using this
     ·cases he) _ 0 0 (fE _)
    refine⟨seq,sls,a1,a2,a3,fU a4 (fU List.countP_le_length ?_)⟩;rw[im];omega
   ·obtain⟨seq,sls,a1,a2,a3,a4⟩:=seq_ex (nxt:=Wu true (pickOrder (w.params.setOrder a ep) es) es t.place) (m:=fun _ g=>(pickOrder (w.params.setOrder a ep) es).size-g) (fun sl g x sl' he=>by
     unfold Wu at he;simp only[ia] at he;obtain⟨e,he1,he2⟩:=iF.mp he;have:g<(pickOrder (w.params.setOrder a ep) es).size:=by
      rcases Nat.lt_or_ge g (pickOrder (w.params.setOrder a ep) es).size with h|h
      ·exact h
      ·rw[nE h] at he1;cases he1
     show _-(g+1)<_-g
     omega) _ 0 0 (fE _)
    exact⟨seq,sls,a1,a2,a3,by omega⟩
  obtain⟨seq,sls,b0,b1,b2,b3⟩:=hdone;have once:=told_once (fun i x hx=>b1 i x hx);have mem:∀sl g x sl',Wu (w.params.followText "set-order") (pickOrder (w.params.setOrder a ep) es) es t.place sl g=some (x,sl')->∃e∈es.toList,x=e.2:=fun sl g x sl' he=>by
   unfold Wu at he
   split at he
   ·obtain⟨e,he1,he2⟩:=iF.mp he;cases he2;refine⟨e,(kK (next:=w.params.setOrder a ep) es).1 e ?_,rfl⟩;have:=nM he1;simpa using this
   ·split at he
    ·rename_i h1 h2
     cases he;have:=nM h1;exact⟨_,by simpa using this,rfl⟩
    ·cases he
  refine hQ _ _ s.drawn (fE _) (fun b o z=>fM _ z) ⟨_,seq,_,Kg (prog:=prog) (A:=A') hh (fP haz) hf hw (fun i x hx=>by have:=b1 i x hx;rwa [l7] at this) (by rw[l7] at b2;exact b2),⟨⟨0,?_⟩,?_⟩,?_,?_,by simp,?_,b3,?_,once⟩
  ·rw[b0];exact⟨_,0,0,0,ge _ rfl,rfl,rfl⟩
  ·exact⟨o,fM _ ho,hc,hd⟩
  ·intro b hb;rw[iq];simp only[fQ,g6,g7] at hb;rcases hb with h|h
   ·rw[h];exact li _
   ·rw[h];exact iZ haz
  ·intro b hb;simp only[fQ,g6,g7] at hb;rcases hb with h|h
   ·exact .inr (by rw[h];exact fE _)
   ·exact .inl h
  ·intro v hv;obtain⟨i,hi,e⟩:=gI hv;have:=b1 i v (by rw[fG hi,e]);exact mem _ _ _ _ this
  ·intro hpos;rcases Nat.eq_zero_or_pos seq.length with h0|h0
   ·rw[h0,b0] at b2
    exfalso
    unfold Wu at b2
    split at b2
    ·have:=(kK (next:=w.params.setOrder a ep) es).2.2 hpos;rw[Option.map_eq_none_iff,Array.getElem?_eq_none_iff] at b2;omega
    ·have hb:SetTable.below t.place 0=0:=yi _ _;rw[hb,mK es 0 hpos,mK t.place 0 (by omega)] at b2;cases b2
   ·exact h0
 ·simp only[ia];refine fD (yQ es.size (List.range es.size) (by simp) fun ys dr hpm=>?_);have y1:∀y∈ys,y∈List.range es.size:=fun y hy=>hpm.mem_iff.mp hy;have y2:ys.length<=es.size:=by rw[hpm.length_eq,gp];exact fE _
  have y3:0<es.size->List.range es.size≠[]->0<ys.length:=fun h _=>by rw[hpm.length_eq,gp];exact h
  have y5:ys.Nodup:=hpm.nodup_iff.mpr List.nodup_range;refine fD (wpAny_newTuple (items:=ys.map fun(i:Nat)=>rawInt (i:Int)) ?_ (by rw[fF,fJ];omega));refine fD ?_;unfold setEpoch;have ho1:(s.heap.push { cls:=.type "tuple",data:=.seq (ys.map fun(i:Nat)=>rawInt (i:Int)).toArray }).get? a=some o:=fM _ ho;refine fD (iw (s:={ s with drawn:=dr,heap:=_ }) ho1 hd hf (fI ?_));dsimp only;refine fD (ig ?_);refine fI ⟨_,rfl, "set_iterator",_,⟨_,ge _ rfl,rfl⟩,ZS.lookup,?_⟩;have y4:∀y∈ys,y<es.size:=fun y hy=>lQ.mp (y1 y hy);have ex:∃seq:List Value,seq.length=ys.length/\∀(i:Nat) x,seq[i]?=some x->∃p e,ys[i]?=some p/\es[p]?=some e/\x=e.2:=by
   refine⟨ys.map fun p=>(es.getD p (0,.none)).2,by simp,fun i x hx=>?_⟩;rw[fL] at hx;obtain⟨p,e1,e2⟩:=iF.mp hx;have hp:=y4 p (gj e1);refine⟨p,es[p],e1,mK es p hp,?_⟩;rw[<- e2,Array.getD_eq_getD_getElem?,mK es p hp];rfl
  obtain⟨seq,q1,q2⟩:=ex;have z1:(s.heap.push { cls:=.type "tuple",data:=.seq (ys.map fun(i:Nat)=>rawInt (i:Int)).toArray }).objs.size=s.heap.objs.size+1:=iq _ _;refine hQ _ _ dr (by rw[z1];exact iN _) (fun b o z=>fM _ (fM _ z)) ⟨_,seq,_,Kq (prog:=prog) (A:=A') (T:=s.heap.objs.size) (ps:=ys) (ep:=ep) hh (by rw[z1];exact fP (iZ haz)) (by rw[z1];exact fP (li _)) hf q1 q2,⟨?_,?_,?_⟩,?_,?_,by simp,?_,by omega,?_,KH y5 q1 q2⟩
  ·exact⟨_,0,0,0,ge _ rfl,rfl,rfl⟩
  ·exact⟨o,fM _ ho1,hc,hd⟩
  ·exact⟨_,_,fM _ (ge _ rfl),rfl,rfl⟩
  ·intro b hb;rw[iq,z1];simp only[fQ,g6,g7] at hb;rcases hb with h|h|h
   ·rw[h,z1];exact li _
   ·rw[h];exact iZ (iZ haz)
   ·rw[h];exact iZ (li _)
  ·intro b hb;simp only[fQ,g6,g7] at hb;rcases hb with h|h|h
   ·exact .inr (by rw[h,z1];exact iN _)
   ·exact .inl h
   ·exact .inr (by rw[h];exact fE _)
  ·intro v hv;obtain⟨i,hi,e⟩:=gI hv;obtain⟨p,en,_,e2,e3⟩:=q2 i v (by rw[fG hi,e]);have:=nM e2;exact⟨en,by simpa using this,e3⟩
  ·intro hpos;rw[q1];exact y3 hpos (fun e=>by
    have:(List.range es.size).length=0:=by rw[e];rfl
    rw[gp] at this;omega)
def SetZL(B:Bool)(h:Heap)(a:Addr)(ss:List Int):Prop:=
 ∃es ep t,X4 h a es ep t/\t.fits es.size=true/\(B=false->t.led=true) /\
  (∀e∈es.toList,∃x k,e.2=.int x k)/\(es.toList.map fun e=>WR e.2).Nodup/\(∀x,x∈(es.toList.map fun e=>WR e.2)↔x∈ss)/\es.size<=ss.length
def SetZ.toL{B:Bool}{a:Addr}{ss:List Int}(x:SetZ prog w B h a ss):SetZL B h a ss:=by
 obtain⟨o,es,ep,t,ho,hc,hd,hf,_,r⟩:=x;exact⟨es,ep,t,⟨o,ho,hc,hd⟩,hf,r⟩
section
variable{prog:Program}{w:World}{A:Around}{E:Value->Shared->Prop}{s:Shared}
def kq{a:Addr}{vs:List Int}{Q:List Value->Shared->Prop}(hh:A.handled=none)(hS:SetZL (w.params.followText "set-order") s.heap a vs)(hz:vs.length<=1000)
  (hQ:∀(seq:List Value) (h':Heap) dr tk,(∀v∈seq,∃i t,v=.int i t/\i∈vs)->(seq.map WR).Nodup->seq.length<=vs.length->(vs≠[]->0<seq.length)->s.heap.objs.size<=h'.objs.size->(∀b o,s.heap.get? b=some o->h'.get? b=some o)->Q seq { s with heap:=h',drawn:=dr,toks:=tk }) :
  wpAny (model prog w) A (collect (.ref a)) Q E s:=by
 obtain⟨es,ep,t,hA,hf,hL,hsv,hnd,hin,hle⟩:=hS;unfold collect;refine fD (wpAny_runValue (iD PySem.F.entry_proto_collect ?_));rw[iX PySem.F.plain_proto_collect _]
 show wpAny _ A.in1 (newList [] >>= fun l=>again (.builtin "list.__iadd__" ⟨[l,.ref a],[]⟩)) _ _ s
 refine fD (ig ?_);refine fI ⟨iY PySem.F.plain_list_iadd _,iD PySem.F.entry_list_iadd ?_⟩;rw[iX PySem.F.plain_list_iadd _];have haz:a<s.heap.objs.size:=by obtain⟨o,ho,_⟩:=hA;exact fN ho
 have hA1:X4 (s.heap.push { cls:=.type "list",data:=.seq ([]:List Value).toArray }) a es ep t:=hA.at fun o z=>fM _ z
 show wpAny _ A.in1 (Builtin.List.listExtendWith (.ref s.heap.objs.size) (.ref a) (.ref s.heap.objs.size)) _ _ _
 unfold Builtin.List.listExtendWith;have hT:=X4.typeIs (s:={ s with heap:=s.heap.push { cls:=.type "list",data:=.seq ([]:List Value).toArray } }) hA1;refine fD (wpAny_typeOf hT ?_);have h1:Builtin.List.listSameRef (.ref s.heap.objs.size) (.ref a)=false:=by simp[Builtin.List.listSameRef,gQ haz]
 have h2:(Value.type "set" == Value.type "list")=false:=by decide
 have h3:(Value.type "set" == Value.type "tuple")=false:=by decide
 simp only[h1,h2,h3,Bool.or_false,hV,gU];have z1:(s.heap.push { cls:=.type "list",data:=.seq ([]:List Value).toArray }).objs.size=s.heap.objs.size+1:=iq _ _;refine fD (iter_setN (A':=A.in1) (by simpa using hh) hA1 hf hL (by omega) fun I h1 dr hI hk1 hW=>?_);rw[z1] at hI;obtain⟨fp,seq,St,W,hst,hfp,hfa,hIf,m1,m2,m3,m4⟩:=hW;have hA2:X4 h1 a es ep t:=hA1.at fun o z=>hk1 _ o z;refine fD (hU ?_);unfold Builtin.List.listLengthHint;have hT2:=X4.typeIs (s:={ s with heap:=h1,drawn:=dr }) hA2;refine fD (mR hT2 kI ?_);have sp:splitId "set.__len__" = some ("set","__len__"):=by decide +kernel
 dsimp only;rw[sp];dsimp only;refine fD (wpAny_isInstance hT2 sub_set_self ?_);simp only[Bool.not_true,hV,gU]
 show wpAny _ _ (if true=true then _ else _) _ _ _
 rw[if_pos rfl];refine fD (wpAny_typeOf hT2 ?_);dsimp only;refine fI ?_
 show wpAny _ A.in1 (if(false||true)=true then _ else _) _ _ _
 rw[if_pos (show(false||true)=true from rfl)];refine fD (l3 ?_);have hSf:s.heap.objs.size∉fp:=fun hm=>by
  rcases hfa _ hm with e|e
  ·exact absurd e (gQ haz)
  ·rw[z1] at e;omega
 have hS₁:h1.get? s.heap.objs.size=some { cls:=.type "list",data:=.seq ([]:List Value).toArray }:=hk1 _ _ (ge _ rfl);refine fD ?_
 show wpAny _ A.in1 (updateSeq s.heap.objs.size (·.push .none) >>= fun _=>updateSeq s.heap.objs.size (·.pop)) _ _ _
 refine fD (lJ hS₁ rfl ?_);have hS₂:=iI (Obj.mapSeq (·.push Value.none)) hS₁ rfl;refine lJ hS₂ rfl ?_;have hS₃:=iI (Obj.mapSeq (·.pop)) hS₂ rfl;have oth:∀b o,b≠s.heap.objs.size->h1.get? b=some o->((h1.update s.heap.objs.size (Obj.mapSeq (·.push Value.none))).update s.heap.objs.size (Obj.mapSeq (·.pop))).get? b=some o:=
  fun b o hb e=>(iu _ _ (fT hb)).trans ((iu _ _ (fT hb)).trans e)
 refine fI ⟨iY mI _,codeAny_extend_loopS W.toS (by rw[fJ];omega) _ hSf _ seq.length 0 _ _ _ rfl (gB _)
  (W.frame 0 _ _ hst fun b hb o e=>oth b o (fun h=>hSf (h▸hb)) e) hS₃ (ItemsOf.nil _) fun s' acc' c' hm hS' hacc=>?_⟩
 show wpAny _ A (load s.heap.objs.size >>= _) _ _ s'
 refine fD (wpAny_load hS' ?_);have e1:acc'.toList=seq:=by
  apply i0;intro i;rw[lE];rcases Nat.lt_or_ge i acc'.size with h|h
  ·have:=hacc.2 i _ (mK acc' i h);rw[mK acc' i h];exact this.symm
  ·rw[nE h,gZ (by rw[hacc.1] at h;exact h)]
 refine fI ?_;rw[e1];obtain⟨hh',gg,dd,tt,oo⟩:=s';obtain⟨q1,q2,q3,q4,q5⟩:=hm;dsimp only at q1 q2 q3 q4 q5;subst q2;subst q3;subst q4;have keep:∀b o,s.heap.get? b=some o->hh'.get? b=some o:=fun b o z=>by
  have hlt:=fN z;refine q1 b o (by simp only[fQ,g6,g7];rintro(h|h);exact absurd hlt (by rw[h];exact iy _);exact absurd hlt (by rw[h];exact Nat.not_lt.mpr (mB hI))) (oth b o (fP hlt) (hk1 b o (fM _ z)))
 refine hQ seq hh' _ tt (fun v m=>?_) (m4 WR hnd) (by omega) (fun z=>m3 ?_) ?_ keep
 ·obtain⟨e,h1,h2⟩:=m1 v m;obtain⟨i,t',e3⟩:=hsv e h1;exact⟨i,t',by rw[h2,e3],(hin i).mp (gn.mpr ⟨e,h1,by rw[e3];rfl⟩)⟩
 ·obtain⟨x,r,ev⟩:=List.exists_cons_of_ne_nil z;obtain⟨e,h1,_⟩:=gn.mp ((hin x).mpr (by rw[ev];simp));rw[<- im];exact og h1
 exact ip (fN hS')
def ia_of:∀{l:List Value},(∀v∈l,∃i t,v=.int i t)->IntsAre l (l.map WR)
 |[],_=>.nil
 |v::r,h=>by
  obtain⟨i,t,rfl⟩:=h v (by simp);exact .cons i t (ia_of fun u m=>h u (gf _ m))
def ia_to:∀{l:List Value}{ns:List Int},IntsAre l ns->l.map WR=ns/\∀v∈l,∃t,v=.int (WR v) t
 |_,_,.nil=>⟨rfl,nofun⟩
 |_,_,.cons n t h=>by
  obtain⟨h1,h2⟩:=ia_to h;refine⟨by rw[fZ,h1];rfl,fun v m=>?_⟩;rcases fQ.mp m with rfl|m
  ·exact⟨t,rfl⟩
  ·exact h2 v m
def Kl{a:Addr}{vs:List Int}(hh:A.handled=none)(hS:SetZL (w.params.followText "set-order") s.heap a vs)(h64:vs.length<64)
  (h:∀(out:List Value) (L n:Nat) (h':Heap) dr tk,(∀v∈out,∃i t,v=.int i t/\i∈vs)->(out.map WR).Nodup->out.length<=vs.length->(vs≠[]->0<out.length)->s.heap.objs.size<=L->(∀b o,s.heap.get? b=some o->h'.get? b=some o) ->
   h'.get? L=some { cls:=.type "list",data:=.seq out.toArray n }->Q (.ref L) { s with heap:=h',drawn:=dr,toks:=tk }) :
  wpAny (model prog w) A (call (.builtin "sorted") [.ref a]) Q E s:=by
 refine Calls.call_function_entry kind_sorted plain_sorted entry_sorted (args_sorted1 _) ?_;unfold Builtin.«sorted»;refine fD (m:=checkCount "sorted" 1 1 _) (fI ?_);refine fD (kq (by simpa using hh) hS (by omega) fun seq h1 dr tk m1 m0 m2 m3 hz k1=>?_);refine fD (wpAny_newList ?_ (by rw[fJ];omega));have hoL:(h1.push (seqObj "list" seq.toArray 0)).get? h1.objs.size=some (seqObj "list" seq.toArray 0):=ge _ rfl;have k2:∀b o,s.heap.get? b=some o->b≠h1.objs.size/\(h1.push (seqObj "list" seq.toArray 0)).get? b=some o:=fun b o z=>by
  have:=k1 b o z;exact⟨fP (fN this),fM _ this⟩
 show wpAny _ _ _ _ _ { s with heap:=h1.push (seqObj "list" seq.toArray 0),drawn:=dr,toks:=tk }
 refine fD (hU (io slot_list_sort ⟨_,hoL,rfl⟩ entry_list_sort (list_sort_tree hoL (ia_of fun v m=>let ⟨i,t,e,_⟩:=m1 v m; ⟨i,t,e⟩) (by omega) fun ot ns' i2 pm _=>⟨_,rfl,?_⟩) (args_list_sort _)))
 ·obtain⟨e1,e2⟩:=ia_to i2;rw[<- e1] at pm;have pl:=pm.length_eq;rw[fF,fF] at pl;obtain⟨e,he⟩:=sortedHeap_at (out:=ot) hoL;refine fI ⟨_,rfl,h ot.toList h1.objs.size e _ dr tk (fun v m=>?_) (pm.nodup_iff.mpr m0) (by rw[pl];exact m2) (fun z=>by rw[pl];exact m3 z) hz (fun b o z=>?_) he⟩
  ·obtain⟨t,ht⟩:=e2 v m;obtain⟨u,hu,eu⟩:=gn.mp (pm.mem_iff.mp (l6 m));obtain⟨i,t',e',hi⟩:=m1 u hu;refine⟨_,t,ht,?_⟩;rw[<- eu,e'];exact hi
  obtain⟨n1,z1⟩:=k2 b o z
  show(sortedHeap _ _ _ _).get? b=some o
  rw[sortedHeap_old n1 (fN z1)];exact z1
end
def SzO(Pm:Params)(a:Addr)(ss:List Int):HO:=.ext fun h=>SetZL (Pm.followText "set-order") h a ss
def sz_ok{a:Addr}{ss:List Int}(x:SetZL (Pm.followText "set-order") h a ss):Yw P w H h a (SzO Pm a ss):=by
 refine⟨x,?_,?_⟩
 ·obtain⟨_,_,_,⟨o,e,_⟩,_⟩:=x;exact⟨o,e⟩
 ·rintro h1 h2 ⟨es,ep,t,hA,c⟩ k;exact⟨es,ep,t,hA.at fun o z=>k o z,c⟩
def rSetJ(K:W.Frag)(Pm:Params):List V->Hp->VK->Prop:=fun xs H Q=>∃p ss,xs=[.ref p]/\SqL K H p (ss.map V.int)/\ss.length<1000/\∀l,H l=none->Q (.ref l) (upd H l (SzO Pm l ss))
def rSortJ(Pm:Params):List V->Hp->VK->Prop:=fun xs H Q=>∃p ss,xs=[.ref p]/\H p=some (SzO Pm p ss)/\ss.length<64/\∀l us,H l=none->us.Nodup->(∀x∈us,x∈ss)->us.length<=ss.length->(ss≠[]->us≠[])->Q (.ref l) (upd H l (.lst (us.map V.int)))
def jc:∀{out:List Value},(∀v∈out,∃i t,v=.int i t)->ZK ((out.map WR).map V.int) out
 |[],_=>.nil
 |v::r,h=>by
  obtain⟨i,t,rfl⟩:=h v (by simp);exact .cons ⟨t,rfl⟩ (jc fun u m=>h u (gf _ m))
def call_setI(hK:X.K=K)(hw:X.w.params=Pm)(hc:X.calm=true):Ym X (.type "set") (rSetJ K Pm):=by
 subst hK;intro db s U H xs us Q I r h;obtain⟨p,ss,rfl,hq,hl,q⟩:=h;obtain⟨u,rfl,ru⟩:=Vo r;obtain rfl:u=Value.ref p:=ru;obtain⟨its,rv,pl,hz⟩:=I.list hq;refine call_setJ (I.ok.hd hc) pl.isList rv hl fun h' tk hS k=>?_;exact⟨.ref s.heap.objs.size,_,I.laid (o:=SzO Pm s.heap.objs.size ss) k (fE _) (sz_ok (by rw[<- hw];exact hS.toL)),rfl,q _ (I.hok.fresh (fE _))⟩
def KD(hw:X.w.params=Pm)(hc:X.calm=true):Ym X (.builtin "sorted") (rSortJ Pm):=by
 intro db s U H xs us Q I r h;obtain⟨p,ss,rfl,hq,hl,q⟩:=h;obtain⟨u,rfl,ru⟩:=Vo r;obtain rfl:u=Value.ref p:=ru;obtain⟨hS,_⟩:=I.hok p _ hq;refine Kl (I.ok.hd hc) (by rw[hw];exact hS) hl fun out L n h' dr tk g1 g2 g3 g4 hL k hg=>?_;have lo:(out.map WR).length=out.length:=fF ..;refine⟨.ref L,_,inv_dr (I.laid (o:=.lst ((out.map WR).map V.int)) k hL ⟨by rw[fF,fJ];omega,out,n,jc fun v m=>(let ⟨i,t,e,_⟩:=g1 v m; ⟨i,t,e⟩),hg⟩) dr,rfl,q L (out.map WR) (I.hok.fresh hL) g2 (fun x hx=>?_) (by omega) (fun z e=>?_)⟩
 ·obtain⟨v,m,rfl⟩:=gn.mp hx;obtain⟨i,t,rfl,hi⟩:=g1 v m;exact hi
 ·have:=g4 z;rw[<- lo,e] at this;exact absurd this (by simp)
end L3
namespace KK
open PySem PySem.Spec L2 L3
def jw(K:W.Frag)(a:Adr):Sp:=fun vs H Q _=>∃(l:Addr) (n p:Nat) (L:List Bool) (f:Nat->Bool),vs=[.ref l,.int (n:Nat),.int (p:Nat)]/\H l=some (.lst (L.map V.bl))/\ZQ p L f/\L.length<=100000/\n<=100000/\∀H' q L',Ze H H'->H q=none->H' q=some (.lst (L'.map V.bl))->ZQ p L' f->L'.length=max L.length n->Q (.ref q) H'
def WP:Okd P w K mg base a 1 a.y23 a.z23 dQ jw:=fun T hw=>by
 refine okF T.aO.f zt fun de A outer s H vs Q E hr h=>?_;obtain⟨l,n,p,L,f,rfl,hl,tl,ll,ln,k⟩:=h;refine⟨_,(@Zc _ _ _ _ _ (@Zn _ _ (3) _ _ _ _ zt.nd rfl (.inl rfl) (ZM (Yz (K:=K) rfl rfl) rfl T.aN oq (@Za _ _ _ _ _ (pv 0) Zb rfl)) rfl (.inl rfl)) (@Zc _ _ _ _ _ (VN gJ (@Zw _ _ _ _ _ _ _ _ vZ (Zl (Zu (K:=K) rfl) rfl T.ay ox (@Za _ _ _ _ _ (pv 3) Zb rfl)) (pv 1) (ZI _)) (@Zh _ _ _ (@Yh _ _ _ _ (Xv gK gW gX ZY (pv 3) (@Za _ _ _ _ _ (@Zv _ _ _ _ _ _ _ (Zr (K:=K) rfl) (pv 3) (Vq XZ (pv 2)) (fun _ _=>rfl)) Zb rfl)) rfl))) (@Zh _ _ _ (@Zm _ _ _ _ (pv 3))))),?_⟩;refine⟨_,rfl,.inl ⟨l,_,rfl,.inl (oj hl),fun q hq=>?_⟩⟩;obtain⟨H1,qN,s1,e1⟩:=ZL (o:=.lst (L.map V.bl)) hq;rw[qN];refine⟨fun m U G=>∃L':List Bool,U=[some (.ref l),some (.int (n:Nat)),some (.int (p:Nat)),some (.ref q)]/\Ze H G/\G q=some (.lst (L'.map V.bl))/\ZQ p L' f/\L.length<=L'.length/\L'.length<=max L.length n/\m=n-L'.length,⟨n-L.length,L,rfl,s1,e1,tl,fE _,by omega,rfl⟩,?_⟩;rintro m U G ⟨L',rfl,sG,gq,tl',l1,l2,rfl⟩;have p1:=tl'.p1;have pl:=tl'.le;refine⟨_,rfl,.inl ⟨q,_,rfl,.inl (oj gq),_,rfl,_,_,rfl,rfl,_,rfl,XN (fun c=>?_) (fun c=>?_)⟩⟩
 ·have c1:L'.length<n:=by have:=gi c;rw[fF] at this;omega
  refine⟨fun U G=>∃L'':List Bool,U=[some (.ref l),some (.int (n:Nat)),some (.int (p:Nat)),some (.ref q)]/\Ze H G/\G q=some (.lst (L''.map V.bl))/\ZQ p L'' f/\L''.length=L'.length+1,?_,?_⟩
  ·rintro σ' G' ⟨L'',rfl,a1,a2,a3,a4⟩;exact⟨n-L''.length,by omega,L'',rfl,a1,a2,a3,by omega,by omega,rfl⟩
  have ea:atI (L'.map V.bl) (-(p:Int))=some (.bl (L'[L'.length-p]'(by omega))):=by
   rw[zg p1 (by rw[fF];exact pl),iK];simp only[fF]
  refine⟨_,rfl,.inl ⟨rfl,_,oj gq⟩,_,rfl,_,rfl,_,rfl,q,_,_,_,rfl,rfl,oj gq,ea,q,_,_,rfl,rfl,gq,by rw[fF,fJ];omega,?_⟩;refine⟨L'++[L'[L'.length-p]'(by omega)],rfl,(Zs.upd (Ze.x sG)).same hq,by rw[Zd,gb];rfl,tl'.grow (fG _),by rw[fK];rfl⟩
 ·have c1:¬L'.length<n:=fun z=>c (gO (by rw[fF];omega));exact⟨_,rfl,k _ q L' sG hq gq tl' (by omega)⟩
def yJ(K:W.Frag)(a:Adr):Sp:=fun vs H Q _=>∃(l:Addr) (p:Nat) (L:List Bool) (f:Nat->Bool),vs=[.ref l,.int (p:Nat)]/\H l=some (.lst (L.map V.bl))/\ZQ p L f/\L.length<=1000000/\∀H' q L',Ze H H'->H q=none->H' q=some (.lst (L'.map V.bl))->ZQ p L' f->L'.length<=L.length->Q (.ref q) H'
def KC:Okd P w K mg base a 1 a.y22 a.z22 dU yJ:=fun T hw=>by
 refine okF T.bW.f qF fun de A outer s H vs Q E hr h=>?_;obtain⟨l,p,L,f,rfl,hl,tl,ll,k⟩:=h;refine⟨_,(@Zc _ _ _ _ _ (@Zn _ _ (2) _ _ _ _ qF.nd rfl (.inl rfl) (Zl (Zu (K:=K) rfl) rfl T.ay ox (@Za _ _ _ _ _ (pv 0) Zb rfl)) rfl (.inl rfl)) (@Zc _ _ _ _ _ (VN gJ (PW.pt (pw_and (@Zw _ _ _ _ _ _ _ _ op_gt (pv 2) (pv 1) (ZI _)) (pw_and1 (@Zw _ _ _ _ _ _ _ _ Yr (@Zv _ _ _ _ _ _ _ (Zr (K:=K) rfl) (pv 0) (@ZP _ _ _ _ _ _ _ _ Vb (pv 2) Zf) (fun _ _=>rfl)) (@Zv _ _ _ _ _ _ _ (Zr (K:=K) rfl) (pv 0) (@ZP _ _ _ _ _ _ _ _ Vb (@ZP _ _ _ _ _ _ _ _ Vb (pv 2) Zf) (pv 1)) (fun _ _=>rfl)) (ZI _))))) (@Zh _ _ _ (ps_aug (i:=2) qF.nd rfl (.inl rfl) Zf ip_sub))) (@Zh _ _ _ (@Zm _ _ _ _ (Z8 (Y0 (K:=K) rfl) (pv 0) Ys (Z5 (pv 2))))))),?_⟩;refine⟨_,rfl,.inl ⟨l,_,rfl,.inl (oj hl),?_⟩⟩;rw[fF];have p1:=tl.p1;have pl:=tl.le;refine⟨fun m U G=>G=H/\∃e:Nat,U=[some (.ref l),some (.int (p:Nat)),some (.int (e:Nat))]/\e<=L.length/\ZQ p (L.take e) f/\m=e,⟨L.length,rfl,L.length,rfl,fE _,by rw[iP];exact tl,rfl⟩,?_⟩;rintro m U G ⟨rfl,e,rfl,le,te,rfl⟩;have pe:=te.le;rw[gu] at pe;have stop:∀q,G q=none->Q (.ref q) (upd G q (.lst (W7 (L.map V.bl) none (some (m:Int))))):=fun q hq=>by
  rw[VM,<- iT];exact k _ q _ (Zi hq) hq Zd te (by rw[gu];omega)
 refine⟨_,rfl,_,rfl,_,_,rfl,rfl,_,rfl,XN (fun c=>?_) (fun c=>Z3 ?_)⟩
 ·have c1:p<m:=by have:=gi c;omega
  have i1:((m:Int)-1)=((m-1:Nat):Int):=by omega
  have i2:((m-1:Nat):Int)-(p:Int)=((m-1-p:Nat):Int):=by omega
  have g1:atI (L.map V.bl) ((m-1:Nat):Int)=some (.bl (L[m-1]'(by omega))):=Zj (by rw[fL,fG (show m-1<L.length by omega)];rfl);have g2:atI (L.map V.bl) ((m-1-p:Nat):Int)=some (.bl (L[m-1-p]'(by omega))):=Zj (by rw[fL,fG (show m-1-p<L.length by omega)];rfl);refine⟨_,rfl,_,rfl,_,_,rfl,rfl,l,_,_,_,rfl,rfl,oj hl,by rw[i1];exact g1,_,rfl,_,rfl,_,_,rfl,rfl,_,rfl,_,_,rfl,rfl,l,_,_,_,rfl,rfl,oj hl,by rw[i1,i2];exact g2,rfl,_,rfl,XN (fun c2=>?_) (fun c2=>?_)⟩
  ·have c3:L[m-1]'(by omega)=L[m-1-p]'(by omega):=V.bl.inj (gi c2);refine⟨fun U F=>F=G/\U=[some (.ref l),some (.int (p:Nat)),some (.int ((m-1:Nat)))],?_,?_⟩
   ·rintro σ' G' ⟨hF,rfl⟩;refine⟨m-1,by omega,hF,m-1,rfl,by omega,?_,rfl⟩;obtain⟨n,rfl⟩:∃n,m=n+1:=⟨m-1,by omega⟩;exact ZQ.cut te (by omega) (by omega) c3
   ·refine⟨_,rfl,_,_,rfl,rfl,rfl,?_⟩
    show[some (V.ref l),some (V.int (p:Nat)),some (V.int ((m:Int)-1))]=_
    rw[i1]
  ·exact⟨_,rfl,_,rfl,_,rfl,l,_,rfl,oj hl,stop⟩
 ·exact⟨_,rfl,_,rfl,_,rfl,l,_,rfl,oj hl,stop⟩
def BP(H:Hp)(z:List (V×(Bool×Bool))):Prop:=∀x∈z,∃q,x.1=.ref q/\H q=some (.tup [.bl x.2.1,.bl x.2.2])
def qS(K:W.Frag)(a:Adr):Sp:=fun vs H Q _=>∃(ls l1 l2:Addr) (p m:Nat) (L M:List Bool) (f g:Nat->Bool),vs=[.ref ls,.int (p:Nat),.int (m:Nat)]/\H ls=some (.lst [.ref l1,.ref l2])/\H l1=some (.lst (L.map V.bl))/\H l2=some (.lst (M.map V.bl))/\ZQ p L f/\ZQ p M g/\L.length<=50000/\M.length<=50000/\m<=50000 /\
 ∀H' q (z:List (V×(Bool×Bool))) (L' M':List Bool),Ze H H'->H q=none->H' q=some (.lst (z.map Prod.fst))->BP H' z->z.map Prod.snd=L'.zip M'->ZQ p L' f->ZQ p M' g->L'.length=max L.length M.length+m->M'.length=max L.length M.length+m->Q (.ref q) H'
def X0:Okd P w K mg base a 2 a.y24 a.z24 dX qS:=fun T hw=>by
 refine okF T.aB.f Vm fun de A outer s H vs Q E hr h=>?_;obtain⟨ls,l1,l2,p,m,L,M,f,g,rfl,hs,h1,h2,tl,tm,b1,b2,b3,k⟩:=h;refine⟨_,(@Zc _ _ _ _ _ (@Zn _ _ (3) _ _ _ _ Vm.nd rfl (.inl rfl) (@ZP _ _ _ _ _ _ _ _ Xl (Zl (vJ rfl) rfl T.cQ PyProof.Rows.Boot.«max» (@Za _ _ _ _ _ (Zl (Zu (K:=K) rfl) rfl T.ay ox (@Za _ _ _ _ _ (@Zv _ _ _ _ _ _ _ (Zr (K:=K) rfl) (pv 0) Zf (fun _ _=>rfl)) Zb rfl)) (@Za _ _ _ _ _ (Zl (Zu (K:=K) rfl) rfl T.ay ox (@Za _ _ _ _ _ (@Zv _ _ _ _ _ _ _ (Zr (K:=K) rfl) (pv 0) Zf (fun _ _=>rfl)) Zb rfl)) Zb rfl) rfl)) (pv 2)) rfl (.inl rfl)) (@Zh _ _ _ (@Zm _ _ _ _ (Ku (K:=K) rfl rfl rfl T.aN rfl T.cX (@Za _ _ _ _ _ (ZA T.aO (WP T hw) hr rfl rfl (@Zq _ _ _ _ _ (@Zv _ _ _ _ _ _ _ (Zr (K:=K) rfl) (pv 0) Zf (fun _ _=>rfl)) (@Zq _ _ _ _ _ (pv 3) (@Zq _ _ _ _ _ (pv 1) Zb rfl) rfl) rfl)) (@Za _ _ _ _ _ (ZA T.aO (WP T hw) hr rfl rfl (@Zq _ _ _ _ _ (@Zv _ _ _ _ _ _ _ (Zr (K:=K) rfl) (pv 0) Zf (fun _ _=>rfl)) (@Zq _ _ _ _ _ (pv 3) (@Zq _ _ _ _ _ (pv 1) Zb rfl) rfl) rfl)) Zb rfl) rfl))))),?_⟩;refine⟨_,rfl,ls,_,_,_,rfl,rfl,oj hs,Zj (j:=0) rfl,.inl ⟨l1,_,rfl,.inl (oj h1),_,rfl,ls,_,_,_,rfl,rfl,oj hs,Zj (j:=1) rfl,.inl ⟨l2,_,rfl,.inl (oj h2),_,_,rfl,?_⟩⟩⟩;rw[fF,fF];have em:(if((M.length:Nat):Int)>((L.length:Nat):Int) then((M.length:Nat):Int) else((L.length:Nat):Int))=((max L.length M.length:Nat):Int):=by split<;>omega
 rw[em];have em2:((max L.length M.length:Nat):Int)+(m:Nat)=((max L.length M.length+m:Nat):Int):=by omega
 refine⟨_,rfl,_,_,rfl,rfl,?_⟩;rw[em2];refine⟨_,rfl,ls,_,_,_,rfl,rfl,oj hs,Zj (j:=0) rfl,_,rfl,_,rfl,l1,max L.length M.length+m,p,L,f,rfl,h1,tl,by omega,by omega,fun H1 q1 L' s1 q10 e1 tl' ll'=>?_⟩;refine⟨_,rfl,ls,_,_,_,rfl,rfl,oj (s1 _ _ hs),Zj (j:=1) rfl,_,rfl,_,rfl,l2,max L.length M.length+m,p,M,g,rfl,s1 _ _ h2,tm,by omega,by omega,fun H2 q2 M' s2 q20 e2 tm' lm'=>?_⟩;refine⟨q1,q2,_,_,rfl,oj (s2 _ _ e1),oj e2,by rw[fF,fF];omega,fun H3 q3 zs s3 q30 e3 ez hz=>?_⟩;have lz:(L'.zip M').length=zs.length:=by
  have:=fS List.length ez;rw[fF,iJ,fF,fF] at this;rw[iJ];omega
 have ez2:zs.map Prod.snd=(L'.zip M').map fun x=>(V.bl x.1,V.bl x.2):=by
  rw[ez,List.zip_map];rfl
 refine k H3 q3 ((zs.map Prod.fst).zip (L'.zip M')) L' M' (s1.trans (s2.trans s3)) ((s1.trans s2).free q30) (by rw[e3,List.map_fst_zip (by rw[fF];omega)]) (fun x hx=>?_) (by rw[List.map_snd_zip (by rw[fF];omega)]) tl' tm' (by omega) (by omega);obtain⟨j,hj,ej⟩:=gI hx;rw[iJ,fF] at hj;rw[m7,iK] at ej;have hjz:j<zs.length:=by omega
 obtain⟨q,eq,gq⟩:=hz _ (fX hjz);have e1:zs[j].1=x.1:=fS Prod.fst ej;have e2:(L'.zip M')[j]'(by omega)=x.2:=fS Prod.snd ej;have e4:zs[j].2=(V.bl x.2.1,V.bl x.2.2):=by
  have:(zs.map Prod.snd)[j]?=((L'.zip M').map fun x=>(V.bl x.1,V.bl x.2))[j]?:=by rw[ez2]
  rw[fL,fL,fG hjz,fG (show j<(L'.zip M').length by omega),e2] at this;exact fY this
 refine⟨q,by rw[<- e1];exact eq,?_⟩;rw[e4] at gq;exact gq
def yb(K:W.Frag)(a:Adr):Sp:=fun vs H Q _=>∃(ls l1:Addr) (p:Nat) (L:List Bool) (f:Nat->Bool),vs=[.ref ls,.int (p:Nat)]/\H ls=some (.lst [.ref l1])/\H l1=some (.lst (L.map V.bl))/\ZQ p L f/\L.length<=50000/\∀H' q (L':List Bool),Ze H H'->H' q=some (.lst (L'.map V.bl))->ZQ p L' (fun k=>!f k)->L'.length<=L.length->Q (.ref q) H'
def Jk:Okd P w K mg base a 1 a.y25 a.z25 df yb:=fun T hw=>by
 refine okF T.bB.f k6 fun de A outer s H vs Q E hr h=>?_;obtain⟨ls,l1,p,L,f,rfl,hs,h1,tl,b1,k⟩:=h;refine⟨_,(@Zh _ _ _ (@Zm _ _ _ _ (ZR (Nc:=["truth"]) (ix:=[none]) (ZJ.of (by decide +kernel:ZO (Zg Ug) ["lines","size"] _ _ _=true)) rfl (ZC (K:=K) rfl (@Zv _ _ _ _ _ _ _ (Zr (K:=K) rfl) (pv 0) Zf (fun _ _=>rfl))) (fun _ _ _ _ _=>(Zo (i:=0) (show List.Nodup (["truth"]:List Str) by decide +kernel) rfl (.inl rfl))) (fun _ _ _ _ _=>Z0) (fun _ _ _ _ _=>(pe_not (pv 0)))))),?_⟩;refine⟨_,rfl,ls,_,_,_,rfl,rfl,oj hs,Zj (j:=0) rfl,l1,rfl,⟨_,oj h1⟩,fun D hD=>?_⟩;refine YI L V.bl (fun b=>.bl (!b)) hD (oj h1) (by rw[fJ];omega) ?_ ?_
 ·intro b hb G N sG hN;exact⟨_,rfl,_,rfl,hN _ (.refl _)⟩
 intro H1 e1 s1;refine k H1 D (L.map Bool.not) s1 (by rw[e1,gS];rfl) tl.not (by rw[fF];exact fE _)
def zi(K:W.Frag)(a:Adr):Sp:=fun vs H Q _=>∃(ls l1:Addr) (p:Nat) (L:List Bool) (f:Nat->Bool),vs=[.ref ls,.int (p:Nat)]/\H ls=some (.lst [.ref l1])/\H l1=some (.lst (L.map V.bl))/\ZQ p L f/\L.length<=50000/\∀H' q (L':List Bool),Ze H H'->H' q=some (.lst (L'.map V.bl))->ZQ p L' (fun k=>f (k+1))->L'.length<=L.length->Q (.ref q) H'
def jD:Okd P w K mg base a 2 a.y27 a.z27 df zi:=fun T hw=>by
 refine okF T.bq.f kg fun de A outer s H vs Q E hr h=>?_;obtain⟨ls,l1,p,L,f,rfl,hs,h1,tl,b1,k⟩:=h;refine⟨_,(@Zh _ _ _ (@Zm _ _ _ _ (Z8 (Y0 (K:=K) rfl) (ZA T.aO (WP T hw) hr rfl rfl (@Zq _ _ _ _ _ (@Zv _ _ _ _ _ _ _ (Zr (K:=K) rfl) (pv 0) Zf (fun _ _=>rfl)) (@Zq _ _ _ _ _ (@ZP _ _ _ _ _ _ _ _ Xl (Zl (Zu (K:=K) rfl) rfl T.ay ox (@Za _ _ _ _ _ (@Zv _ _ _ _ _ _ _ (Zr (K:=K) rfl) (pv 0) Zf (fun _ _=>rfl)) Zb rfl)) Zf) (@Zq _ _ _ _ _ (pv 1) Zb rfl) rfl) rfl)) (Z5 Zf) Ys))),?_⟩;have em:((L.length:Nat):Int)+1=((L.length+1:Nat):Int):=by omega
 refine⟨_,rfl,ls,_,_,_,rfl,rfl,oj hs,Zj (j:=0) rfl,_,rfl,ls,_,_,_,rfl,rfl,oj hs,Zj (j:=0) rfl,.inl ⟨l1,_,rfl,.inl (oj h1),_,_,rfl,rfl,_,rfl,l1,L.length+1,p,L,f,by rw[fF,em];rfl,h1,tl,by omega,by omega,fun H1 q1 L' s1 q10 e1 tl' ll'=>?_⟩⟩;refine⟨1,rfl,q1,_,rfl,oj e1,fun q hq=>?_⟩;have l1':L'.length=L.length+1:=by omega
 have ec:=Wd (L'.map V.bl) 1 (by rw[fF];omega);rw[show((1:Nat):Int)=1 from rfl] at ec;rw[ec,<- m9];exact k _ q (L'.drop 1) (s1.trans (Zi hq)) Zd (tl'.next l1' tl.le tl.more) (by rw[ie];omega)
def UF(K:W.Frag)(a:Adr):Sp:=fun vs H Q _=>∃(ls l1:Addr) (p:Nat) (L:List Bool) (f:Nat->Bool),vs=[.ref ls,.int (p:Nat)]/\H ls=some (.lst [.ref l1])/\H l1=some (.lst (L.map V.bl))/\ZQ p L f/\L.length<=50000/\∀H' q (L':List Bool),Ze H H'->H' q=some (.lst (L'.map V.bl))->ZQ p L' (befB f)->L'.length<=L.length+1->Q (.ref q) H'
def xU:Okd P w K mg base a 1 a.y29 a.z29 df UF:=fun T hw=>by
 refine okF T.aV.f xb fun de A outer s H vs Q E hr h=>?_;obtain⟨ls,l1,p,L,f,rfl,hs,h1,tl,b1,k⟩:=h;refine⟨_,(@Zh _ _ _ (@Zm _ _ _ _ (@ZP _ _ _ _ _ _ _ _ qw (@ZW _ _ _ _ (@Za _ _ _ _ _ YR Zb rfl)) (@Zv _ _ _ _ _ _ _ (Zr (K:=K) rfl) (pv 0) Zf (fun _ _=>rfl))))),?_⟩;refine⟨sz1,fun D hD=>?_⟩;obtain⟨H1,qN,s1,e1⟩:=ZL (o:=.lst [.bl false]) hD;rw[qN];refine⟨_,rfl,ls,_,_,_,rfl,rfl,oj (s1 _ _ hs),Zj (j:=0) rfl,D,l1,_,_,rfl,rfl,e1,s1 _ _ h1,by rw[fF,fJ];show 1+L.length<=16777216;omega,fun q hq=>?_⟩;exact k _ q (false::L) (s1.trans (Zi hq)) Zd tl.before (fE _)
def zip_at{z:List (V×(Bool×Bool))}{M:List Bool}{g:Nat->Bool}{p m:Nat}(ez:z.map Prod.snd=L.zip M)(tl:ZQ p L f)(tm:ZQ p M g)(hl:L.length=m)(hm:M.length=m):z.length=m/\∀j,(h:j<z.length)->z[j].2=(f j,g j):=by
 have lz:z.length=m:=by
  have:=fS List.length ez;rw[fF,iJ] at this;omega
 refine⟨lz,fun j h=>?_⟩;have:(z.map Prod.snd)[j]?=(L.zip M)[j]?:=by rw[ez]
 rw[fL,fG h,(lG (z:=(f j,g j))).mpr ⟨tl.get (by omega),tm.get (by omega)⟩] at this;exact fY this
def ZQ.rng{p m:Nat}(p1:1<=p)(le:p<=m)(more:∀k,m<=k->f k=f (k-p)):ZQ p ((List.range m).map f) f:=
 .of p1 (by rw[fF,gp]) le (fun k h=>by rw[fL,i7 h];rfl) more
def yS(f:Nat->α)(n:Nat):(List.range (n+1)).map f=(List.range n).map f++[f n]:=by rw[List.range_succ,gb];rfl
def yf(K:W.Frag)(a:Adr):Sp:=fun vs H Q _=>∃(ls l1 l2:Addr) (p:Nat) (L M:List Bool) (f g:Nat->Bool),vs=[.ref ls,.int (p:Nat)]/\H ls=some (.lst [.ref l1,.ref l2])/\H l1=some (.lst (L.map V.bl))/\H l2=some (.lst (M.map V.bl))/\ZQ p L f/\ZQ p M g/\L.length<=50000/\M.length<=50000/\∀H' q (L':List Bool),Ze H H'->H' q=some (.lst (L'.map V.bl))->ZQ p L' (fun k=>f k&&g k)->L'.length<=max L.length M.length->Q (.ref q) H'
def JG:Okd P w K mg base a 3 a.y26 a.z26 df yf:=fun T hw=>by
 refine okF T.bC.f kY fun de A outer s H vs Q E hr h=>?_;obtain⟨ls,l1,l2,p,L,M,f,g,rfl,hs,h1,h2,tl,tm,b1,b2,k⟩:=h;refine⟨_,(@Zh _ _ _ (@Zm _ _ _ _ (ZR (Nc:=dy) (ix:=[none,none]) (ZJ.of (by decide +kernel:ZO (Zg V8) ["lines","size"] _ _ _=true)) rfl (ZC (K:=K) rfl (ZA T.aB (X0 T hw) hr rfl rfl (@Zq _ _ _ _ _ (pv 0) (@Zq _ _ _ _ _ (pv 1) (@Zq _ _ _ _ _ Zf Zb rfl) rfl) rfl))) (fun _ _ _ _ _=>(Wm (K:=K) (n:=2) rfl rfl (Yb (Zo (i:=0) (show List.Nodup dy by decide +kernel) rfl (.inl rfl)) (Yb (Zo (i:=1) (show List.Nodup dy by decide +kernel) rfl (.inl rfl)) Ws)))) (fun _ _ _ _ _=>Z0) (fun _ _ _ _ _=>(Xq (pv 0) (Xc (pv 1))))))),?_⟩;refine⟨_,rfl,_,rfl,ls,l1,l2,p,0,L,M,f,g,rfl,hs,h1,h2,tl,tm,b1,b2,by decide,fun H1 P z L' M' s1 P0 e1 bp ez tl' tm' ll lm=>⟨P,rfl,⟨_,oj e1⟩,fun D hD=>?_⟩⟩;rw[Nat.add_zero] at ll lm;obtain⟨lz,hz⟩:=zip_at ez tl' tm' ll lm;have le:=tl'.le;refine Yx (J:=Itl K P) (n:=z.length) (fun i U G=>∃y1 y2:Option V,U=[y1,y2]/\Ze H1 G/\G D=some (.lst (((List.range i).map fun k=>f k&&g k).map V.bl))) ?_ ?_ ?_ ?_ ?_
 ·exact⟨_,_,rfl,Zi hD,Zd⟩
 ·rintro i U G hi ⟨y1,y2,rfl,sG,_⟩;exact⟨_,_,oj (sG _ _ e1),by rw[fL,fG hi];rfl⟩
 ·rintro U G ⟨y1,y2,rfl,sG,_⟩;exact⟨_,oj (sG _ _ e1),by rw[fF];exact fE _⟩
 ·rintro i x U G0 G hi ⟨y1,y2,rfl,sG,gD⟩ ⟨rfl,hx⟩ N N0 hN hN0;have ex:=hx _ (oj (sG _ _ e1));rw[fL,fG hi] at ex;have ex':x=z[i].1:=(fY ex).symm;subst ex';obtain⟨q,eq,gq⟩:=bp _ (fX hi);rw[hz i hi] at gq;rw[eq];refine⟨q,_,rfl,on (sG _ _ gq),rfl,_,_,rfl,_,_,rfl,rfl,?_⟩;refine UN (te:=tAndV (tVar 0) (tVar 1)) (U:=[some (.bl (f i)),some (.bl (g i))]) (H:=G) (N:=fun v H5=>N v [some (.bl (f i)),some (.bl (g i))] H5) (N0:=fun H4=>N0 [some (.bl (f i)),some (.bl (g i))] H4) ?_;have go:N (.bl (f i&&g i)) [some (.bl (f i)),some (.bl (g i))] G:=by
   refine hN _ _ G _ gD (by rw[fF,fF,gp,fJ];omega) ⟨_,_,rfl,(Zs.upd (Ze.x sG)).same hD,?_⟩;rw[Zd,yS,gb];rfl
  refine⟨_,rfl,_,rfl,XN (fun c=>⟨_,rfl,?_⟩) (fun c=>?_)⟩
  ·rw[c,i5] at go;rw[c];exact go
  ·have c':f i=false:=by simpa using c
   rw[c',iM] at go;rw[c'];exact go
 rintro U G ⟨y1,y2,rfl,sG,gD⟩;rw[lz] at gD;exact k G D _ (s1.trans sG) gD (ZQ.rng tl.p1 (by omega) fun k hk=>by rw[tl'.more k (by omega),tm'.more k (by omega)]) (by rw[fF,gp];exact fE _)
def qe(K:W.Frag)(a:Adr):Sp:=fun vs H Q _=>∃(ls l1 l2:Addr) (p:Nat) (L M:List Bool) (f g:Nat->Bool),vs=[.ref ls,.int (p:Nat)]/\H ls=some (.lst [.ref l1,.ref l2])/\H l1=some (.lst (L.map V.bl))/\H l2=some (.lst (M.map V.bl))/\ZQ p L f/\ZQ p M g/\L.length<=50000/\M.length<=50000/\∀H' q (L':List Bool),Ze H H'->H' q=some (.lst (L'.map V.bl))->ZQ p L' (Xd f g)->L'.length<=max L.length M.length+p->Q (.ref q) H'
def heldB(f g:Nat->Bool):Nat->Bool
 |0=>false
 |k+1=>Xd f g k
def held_step(f g:Nat->Bool)(k:Nat):(g k||(f k&&heldB f g k))=Xd f g k:=by
 cases k with
 |zero=>show(g 0||(f 0&&false))=g 0;cases g 0<;>cases f 0<;>rfl
 |succ n=>rfl
def xZ:Okd P w K mg base a 3 a.y30 a.z30 df qe:=fun T hw=>by
 refine okF T.a8.f Xa fun de A outer s H vs Q E hr h=>?_;obtain⟨ls,l1,l2,p,L,M,f,g,rfl,hs,h1,h2,tl,tm,b1,b2,k⟩:=h;refine⟨_,(@Zc _ _ _ _ _ (@Zn _ _ (2) _ _ _ _ Xa.nd rfl (.inl rfl) (@ZW _ _ _ _ Zb) rfl (.inl rfl)) (@Zc _ _ _ _ _ (@Zn _ _ (3) _ _ _ _ Xa.nd rfl (.inl rfl) YR rfl (.inl rfl)) (@Zc _ _ _ _ _ (Xk gJ rfl (ZC (K:=K) rfl (ZA T.aB (X0 T hw) hr rfl rfl (@Zq _ _ _ _ _ (pv 0) (@Zq _ _ _ _ _ (pv 1) (@Zq _ _ _ _ _ (pv 1) Zb rfl) rfl) rfl))) (Wm (K:=K) (n:=2) rfl rfl (Yb (Zo (i:=4) Xa.nd rfl (.inl rfl)) (Yb (Zo (i:=5) Xa.nd rfl (.inl rfl)) Ws))) (@Zc _ _ _ _ _ (@Zn _ _ (3) _ _ _ _ Xa.nd rfl (.inl rfl) (pe_or (pv 5) (Xc (Xq (pv 4) (Xc (pv 3))))) rfl (.inl rfl)) (@Zh _ _ _ (@Yh _ _ _ _ (Xv gK gW gX ZY (pv 2) (@Za _ _ _ _ _ (pv 3) Zb rfl)) rfl)))) (@Zh _ _ _ (@Zm _ _ _ _ (pv 2)))))),?_⟩;have p1:=tl.p1;have ple:=tl.le;refine⟨by decide,fun D hD=>?_⟩;obtain⟨H1,qN,s1,e1⟩:=ZL (o:=.lst []) hD;rw[qN];refine⟨_,rfl,_,rfl,_,rfl,ls,l1,l2,p,p,L,M,f,g,rfl,s1 _ _ hs,s1 _ _ h1,s1 _ _ h2,tl,tm,b1,b2,by omega,fun H2 P z L' M' s2 P0 e2 bp ez tl' tm' ll lm=>⟨P,rfl,⟨_,oj e2⟩,?_⟩⟩;obtain⟨lz,hz⟩:=zip_at ez tl' tm' ll lm;refine YM (J:=Itl K P) (n:=z.length) (fun i U G=>∃z4 z5:Option V,U=[some (.ref ls),some (.int (p:Nat)),some (.ref D),some (.bl (heldB f g i)),z4,z5]/\Zs D H2 G/\G D=some (.lst (((List.range i).map (Xd f g)).map V.bl))) ?_ ?_ ?_ ?_ ?_
 ·exact⟨_,_,rfl,.refl _,s2 _ _ e1⟩
 ·rintro i U G hi ⟨z4,z5,rfl,sG,_⟩;have nPD:P≠D:=fun e=>by rw[e,e1] at P0;cases P0
  exact⟨_,_,oj (sG _ _ nPD e2),by rw[fL,fG hi];rfl⟩
 ·rintro U G ⟨z4,z5,rfl,sG,_⟩;have nPD:P≠D:=fun e=>by rw[e,e1] at P0;cases P0
  exact⟨_,oj (sG _ _ nPD e2),by rw[fF];exact fE _⟩
 ·rintro i x U G0 G hi ⟨z4,z5,rfl,sG,gD⟩ ⟨rfl,hx⟩;have nPD:P≠D:=fun e=>by rw[e,e1] at P0;cases P0
  have ex:=hx _ (oj (sG _ _ nPD e2));rw[fL,fG hi] at ex;have ex':x=z[i].1:=(fY ex).symm;subst ex';obtain⟨q,eq,gq⟩:=bp _ (fX hi);rw[hz i hi] at gq;have gq:H2 q=some (.tup [.bl (f i),.bl (g i)]):=gq;rw[eq];have nqD:q≠D:=fun e=>by rw[e,s2 _ _ e1] at gq;cases gq
  refine⟨q,_,rfl,on (sG _ _ nqD gq),rfl,_,_,rfl,_,_,rfl,rfl,?_⟩;have go:∀b:Bool,b=Xd f g i->WV (.ref D) [.bl b] G (fun _ H1=>∃z4 z5:Option V,[some (.ref ls),some (.int (p:Nat)),some (.ref D),some (.bl b),some (.bl (f i)),some (.bl (g i))]=[some (.ref ls),some (.int (p:Nat)),some (.ref D),some (.bl (heldB f g (i+1))),z4,z5]/\Zs D H2 H1/\H1 D=some (.lst (((List.range (i+1)).map (Xd f g)).map V.bl))):=fun b hb=>by
   subst hb;refine⟨D,_,_,rfl,rfl,gD,by rw[fF,fF,gp,fJ];omega,_,_,rfl,sG.upd,?_⟩;rw[Zd,yS,gb];rfl
  have hst:=held_step f g i;refine⟨_,rfl,_,rfl,XN (fun c=>?_) (fun c=>⟨_,rfl,_,rfl,XN (fun c2=>⟨_,rfl,?_⟩) (fun c2=>?_)⟩)⟩
  ·rw[c,mD] at hst;exact⟨_,rfl,.inl ⟨rfl,_,oj gD⟩,_,rfl,go true hst⟩
  ·have c':g i=false:=by simpa using c
   rw[c',c2,iS,i5] at hst;exact⟨_,rfl,.inl ⟨rfl,_,oj gD⟩,_,rfl,go _ hst⟩
  ·have c':g i=false:=by simpa using c
   have c2':f i=false:=by simpa using c2
   rw[c',c2',iS,iM] at hst;exact⟨_,rfl,.inl ⟨rfl,_,oj gD⟩,_,rfl,go _ hst⟩
 rintro U G ⟨z4,z5,rfl,sG,gD⟩;rw[lz] at gD;have hD2:∀b o,H b=some o->G b=some o:=fun b o e=>sG _ _ (fun z=>by rw[z,hD] at e;cases e) ((s1.trans s2) _ _ e);refine⟨_,rfl,k G D _ hD2 gD (ZQ.rng p1 (by omega) fun k hk=>?_) (by rw[fF,gp];exact fE _)⟩;exact vU (m:=max L.length M.length) p1 (by omega) (fun j hj=>tl.more j (by omega)) (fun j hj=>tm.more j (by omega)) k (by omega)
def qd(K:W.Frag)(a:Adr):Sp:=fun vs H Q _=>∃(ls l1 l2:Addr) (p:Nat) (L M:List Bool) (f g:Nat->Bool),vs=[.ref ls,.int (p:Nat)]/\H ls=some (.lst [.ref l1,.ref l2])/\H l1=some (.lst (L.map V.bl))/\H l2=some (.lst (M.map V.bl))/\ZQ p L f/\ZQ p M g/\L.length<=50000/\M.length<=50000/\∀H' q (L':List Bool),Ze H H'->H' q=some (.lst (L'.map V.bl))->ZQ p L' (XD f g)->L'.length<=max L.length M.length->Q (.ref q) H'
def back_step(f g:Nat->Bool){m:Nat}(h:i<m):(g (m-1-i)||(f (m-1-i)&&Y3 f g false (m-i) i))=Y3 f g false (m-(i+1)) (i+1):=by
 have e1:m-(i+1)=m-1-i:=by omega
 rw[e1]
 show _=(g (m-1-i)||(f (m-1-i)&&Y3 f g false (m-1-i+1) i))
 have e2:m-1-i+1=m-i:=by omega
 rw[e2]
def unt_back(f g:Nat->Bool){m:Nat}(h:i<m):(g (m-1-i)||(f (m-1-i)&&XD f g (m-i)))=XD f g (m-(i+1)):=by
 have e1:m-(i+1)=m-1-i:=by omega
 have e2:m-i=m-1-i+1:=by omega
 rw[e1,e2,<- kN]
def rev_range(f:Nat->Bool)(m:Nat):(((List.range m).map fun i=>f (m-(i+1))).map V.bl).reverse=((List.range m).map f).map V.bl:=by
 rw[<- List.map_reverse]
 congr 1
 apply i0;intro i
 by_cases hi:i<m
 ·rw[mS (by rw[fF,gp];exact hi),fL,fL,fF,gp,i7 (by omega),i7 hi]
  show some (f (m-(m-1-i+1)))=some (f i)
  congr 2
  omega
 ·rw[gZ (by rw[iE,fF,gp];omega),gZ (by rw[fF,gp];omega)]
def vw:Okd P w K mg base a 3 a.y28 a.z28 df qd:=fun T hw=>by
 refine okF T.aZ.f Ye fun de A outer s H vs Q E hr h=>?_;obtain⟨ls,l1,l2,p,L,M,f,g,rfl,hs,h1,h2,tl,tm,b1,b2,k⟩:=h;refine⟨_,(@Zc _ _ _ _ _ (@Zn _ _ (2) _ _ _ _ Ye.nd rfl (.inl rfl) (ZA T.aB (X0 T hw) hr rfl rfl (@Zq _ _ _ _ _ (pv 0) (@Zq _ _ _ _ _ (pv 1) (@Zq _ _ _ _ _ Zf Zb rfl) rfl) rfl)) rfl (.inl rfl)) (@Zc _ _ _ _ _ (@Zn _ _ (3) _ _ _ _ Ye.nd rfl (.inl rfl) YR rfl (.inl rfl)) (@Zc _ _ _ _ _ (Xk gJ rfl (pi_revK (K:=K) rfl rfl T.bT (@Za _ _ _ _ _ (Z8 (Y0 (K:=K) rfl) (pv 2) (Z5 (Vq XZ (pv 1))) Ys) Zb rfl)) (Wm (K:=K) (n:=2) rfl rfl (Yb (Zo (i:=4) Ye.nd rfl (.inl rfl)) (Yb (Zo (i:=5) Ye.nd rfl (.inl rfl)) Ws))) (@Zh _ _ _ (@Zn _ _ (3) _ _ _ _ Ye.nd rfl (.inl rfl) (pe_or (pv 5) (Xc (Xq (pv 4) (Xc (pv 3))))) rfl (.inl rfl)))) (@Zc _ _ _ _ _ (@Zn _ _ (6) _ _ _ _ Ye.nd rfl (.inl rfl) (@ZW _ _ _ _ Zb) rfl (.inl rfl)) (@Zc _ _ _ _ _ (Xk gJ rfl (pi_revK (K:=K) rfl rfl T.bT (@Za _ _ _ _ _ (pv 2) Zb rfl)) (Wm (K:=K) (n:=2) rfl rfl (Yb (Zo (i:=4) Ye.nd rfl (.inl rfl)) (Yb (Zo (i:=5) Ye.nd rfl (.inl rfl)) Ws))) (@Zc _ _ _ _ _ (@Zn _ _ (3) _ _ _ _ Ye.nd rfl (.inl rfl) (pe_or (pv 5) (Xc (Xq (pv 4) (Xc (pv 3))))) rfl (.inl rfl)) (@Zh _ _ _ (@Yh _ _ _ _ (Xv gK gW gX ZY (pv 6) (@Za _ _ _ _ _ (pv 3) Zb rfl)) rfl)))) (@Zh _ _ _ (@Zm _ _ _ _ (yD (K:=K) rfl (pv 6) (Z5 (Vq XZ Zf)))))))))),?_⟩;have p1:=tl.p1;have ple:=tl.le;refine⟨_,rfl,_,rfl,ls,l1,l2,p,0,L,M,f,g,rfl,hs,h1,h2,tl,tm,b1,b2,by decide,fun H1 P z L' M' s1 P0 e1 bp ez tl' tm' ll lm=>?_⟩;rw[Nat.add_zero] at ll lm;obtain⟨lz,hz⟩:=zip_at ez tl' tm' ll lm;generalize hmm:max L.length M.length=m at ll lm lz k;have pm:p<=m:=by omega
 have hf:∀j,m<=j->f j=f (j-p):=fun j hj=>tl.more j (by omega);have hg:∀j,m<=j->g j=g (j-p):=fun j hj=>tm.more j (by omega);refine⟨_,rfl,_,rfl,_,rfl,_,rfl,P,_,rfl,oj e1,fun R hR=>?_⟩;rw[cutV_neg _ p1 (by rw[fF];omega),fF,lz];obtain⟨H2,qN,s2,e2⟩:=ZL (o:=.lst ((z.map Prod.fst).drop (m-p))) hR;rw[qN];have lR:((z.map Prod.fst).drop (m-p)).length=p:=by rw[ie,fF];omega
 refine⟨R,_,rfl,oj e2,?_⟩;rw[lR];have two:∀{n:Nat} (j:Nat),(hj:j<m)->∀{G:Hp},Ze H1 G->∃q,z[j]'(by omega)=(.ref q,(f j,g j))/\G q=some (.tup [.bl (f j),.bl (g j)]):=fun {_} j hj {G} sG=>by
  obtain⟨q,eq,gq⟩:=bp _ (fX (show j<z.length by omega));rw[hz j (by omega)] at gq;exact⟨q,Prod.ext eq (hz j (by omega)),sG _ _ gq⟩
 refine YM (J:=Itv K R p) (n:=p) (fun i U G=>∃z4 z5:Option V,U=[some (.ref ls),some (.int (p:Nat)),some (.ref P),some (.bl (Y3 f g false (m-i) i)),z4,z5,none]/\Ze H2 G) ?_ ?_ (fun U G _=>fE _) ?_ ?_
 ·exact⟨_,_,rfl,.refl _⟩
 ·rintro i U G hi ⟨z4,z5,rfl,sG⟩;exact⟨hi,_,oj (sG _ _ e2),lR⟩
 ·rintro i x U G0 G hi ⟨z4,z5,rfl,sG⟩ ⟨rfl,hx⟩;have ex:=hx _ (oj (sG _ _ e2));rw[mW,fL,show m-p+(p-1-i)=m-1-i by omega,fG (show m-1-i<z.length by omega)] at ex;obtain⟨q,eq,gq⟩:=two (n:=0) (m-1-i) (by omega) (s2.trans sG);rw[eq] at ex;have ex':x=.ref q:=(fY ex).symm;subst ex';refine⟨q,_,rfl,on gq,rfl,_,_,rfl,_,_,rfl,rfl,?_⟩;have hst:=back_step f g (show i<m by omega);refine⟨_,rfl,_,rfl,XN (fun c=>?_) (fun c=>⟨_,rfl,_,rfl,XN (fun c2=>⟨_,rfl,?_⟩) (fun c2=>?_)⟩)⟩
  ·rw[c,mD] at hst;exact⟨_,_,by rw[<- hst];rfl,sG⟩
  ·have c':g (m-1-i)=false:=by simpa using c
   rw[c',c2,iS,i5] at hst;exact⟨_,_,by rw[<- hst];rfl,sG⟩
  ·have c':g (m-1-i)=false:=by simpa using c
   have c2':f (m-1-i)=false:=by simpa using c2
   rw[c',c2',iS,iM] at hst;exact⟨_,_,by rw[<- hst];rfl,sG⟩
 rintro U G ⟨z4,z5,rfl,sG⟩;rw[vT p1 pm hf hg];refine⟨by decide,fun D hD=>?_⟩;obtain⟨G1,qN,t1,eD⟩:=ZL (o:=.lst []) hD;rw[qN];have s3:=s2.trans (sG.trans t1);have lP:(z.map Prod.fst).length=m:=by rw[fF];exact lz
 refine⟨_,rfl,P,_,rfl,oj (s3 _ _ e1),?_⟩;rw[lP];have nPD:P≠D:=fun e=>by rw[e] at e1;rw[(s2.trans sG) _ _ e1] at hD;cases hD
 refine YM (J:=Itv K P m) (n:=m) (fun i U F=>∃z4 z5:Option V,U=[some (.ref ls),some (.int (p:Nat)),some (.ref P),some (.bl (XD f g (m-i))),z4,z5,some (.ref D)]/\Zs D G1 F/\F D=some (.lst (((List.range i).map fun j=>XD f g (m-(j+1))).map V.bl))) ?_ ?_ (fun U G _=>fE _) ?_ ?_
 ·exact⟨_,_,rfl,.refl _,eD⟩
 ·rintro i U F hi ⟨z4,z5,rfl,sF,_⟩;exact⟨hi,_,oj (sF _ _ nPD (s3 _ _ e1)),lP⟩
 ·rintro i x U F0 F hi ⟨z4,z5,rfl,sF,gD⟩ ⟨rfl,hx⟩;have ex:=hx _ (oj (sF _ _ nPD (s3 _ _ e1)));rw[fL,fG (show m-1-i<z.length by omega)] at ex;obtain⟨q,eq,gq⟩:=two (n:=0) (m-1-i) (by omega) (.refl H1);rw[eq] at ex;have ex':x=.ref q:=(fY ex).symm;subst ex';have nqD:q≠D:=fun e=>by rw[e] at gq;rw[(s2.trans sG) _ _ gq] at hD;cases hD
  refine⟨q,_,rfl,on (sF _ _ nqD (s3 _ _ gq)),rfl,_,_,rfl,_,_,rfl,rfl,?_⟩;have go:∀b:Bool,b=XD f g (m-(i+1))->WV (.ref D) [.bl b] F (fun _ F1=>∃z4 z5:Option V,[some (.ref ls),some (.int (p:Nat)),some (.ref P),some (.bl b),some (.bl (f (m-1-i))),some (.bl (g (m-1-i))),some (.ref D)]=[some (.ref ls),some (.int (p:Nat)),some (.ref P),some (.bl (XD f g (m-(i+1)))),z4,z5,some (.ref D)]/\Zs D G1 F1/\F1 D=some (.lst (((List.range (i+1)).map fun j=>XD f g (m-(j+1))).map V.bl))):=fun b hb=>by
   subst hb;refine⟨D,_,_,rfl,rfl,gD,by rw[fF,fF,gp,fJ];omega,_,_,rfl,sF.upd,?_⟩;rw[Zd,yS,gb];rfl
  have hst:=unt_back f g (show i<m by omega);refine⟨_,rfl,_,rfl,XN (fun c=>?_) (fun c=>⟨_,rfl,_,rfl,XN (fun c2=>⟨_,rfl,?_⟩) (fun c2=>?_)⟩)⟩
  ·rw[c,mD] at hst;exact⟨_,rfl,.inl ⟨rfl,_,oj gD⟩,_,rfl,go true hst⟩
  ·have c':g (m-1-i)=false:=by simpa using c
   rw[c',c2,iS,i5] at hst;exact⟨_,rfl,.inl ⟨rfl,_,oj gD⟩,_,rfl,go _ hst⟩
  ·have c':g (m-1-i)=false:=by simpa using c
   have c2':f (m-1-i)=false:=by simpa using c2
   rw[c',c2',iS,iM] at hst;exact⟨_,rfl,.inl ⟨rfl,_,oj gD⟩,_,rfl,go _ hst⟩
 rintro U F ⟨z4,z5,rfl,sF,gD⟩;refine⟨_,rfl,_,rfl,_,rfl,D,_,rfl,rfl,oj gD,fun q hq=>?_⟩;rw[rev_range];have hHF:Ze H F:=fun b o e=>sF _ _ (fun w=>by rw[w] at e;rw[(s1.trans (s2.trans sG)) _ _ e] at hD;cases hD) ((s1.trans s3) _ _ e);exact k _ q _ (hHF.trans (Zi hq)) Zd (ZQ.rng p1 pm (vI pm hf hg)) (by rw[fF,gp];exact fE _)
def kids8(h:Xp c n):n<=8:=by
 cases c with
 |yes=>have:n=0:=h;omega
 |sign z=>have:=h.1;omega
 |op w=>rcases h with h|h<;>omega
 |wit m=>have:=h.2;omega
 |many w=>exact h.2
def LFam(K:W.Frag)(a:Adr):Addr->Sp->Prop:=fun f sp=>(f=a.y25/\sp=yb K a)\/(f=a.y26/\sp=yf K a)\/(f=a.y27/\sp=zi K a)\/(f=a.y28/\sp=qd K a)\/(f=a.y29/\sp=UF K a)\/(f=a.y30/\sp=qe K a)
def yw(K:W.Frag)(H:Hp)(d:WD)(st:Tr->List Int)(ts:List Tr)(j:Nat)(v:V)(t:Tr):Prop:=
 if XG t=true then ∃(b tb:Addr),v=.ref b/\SqT K H b [.str "at",.ref tb]/\SqT K H tb (((List.range d.signs.length).map fun r:Nat=>YB d st t (r:Nat)).map V.bl)
 else ∃(b:Addr) (is:List Nat),v=.ref b/\SqT K H b (.str (Zy t.lb)::is.map fun i:Nat=>V.int (i:Nat))/\is.length=t.ks.length/\∀(i:Nat) k m,t.ks[i]?=some k->is[i]?=some m->m<j/\ts[m]?=some k
def yw.mono{t:Tr}(s:YH H H')(h:yw K H d st ts j v t):yw K H' d st ts j v t:=by
 unfold yw at h ⊢
 by_cases c:XG t=true
 ·rw[if_pos c] at h ⊢;obtain⟨b,tb,e,g1,g2⟩:=h;exact⟨b,tb,e,s _ _ _ g1,s _ _ _ g2⟩
 ·rw[if_neg c] at h ⊢;obtain⟨b,is,e,g1,g2⟩:=h;exact⟨b,is,e,s _ _ _ g1,g2⟩
structure Grnd(K:W.Frag)(H:Hp)(d:WD)(st:Tr->List Int)(ts:List Tr)(rv:List V):Prop where
 len:rv.length=ts.length
 row:∀(j:Nat) v t,rv[j]?=some v->ts[j]?=some t->yw K H d st ts j v t
 c:∀t∈ts,isC t=true/\Xp t.lb t.ks.length
def LinesAt(H:Hp)(d:WD)(st:Tr->List Int)(rm:Nat->Int)(p n0:Nat)(ts:List Tr)(vs:List V):Prop:=vs.length<=ts.length/\∀(j:Nat) v t,vs[j]?=some v->ts[j]?=some t->∃l L,v=.ref l/\H l=some (.lst (L.map V.bl))/\ZQ p L (Z4 d st rm t)/\L.length<=n0+(j+1)*(p+1)
structure qg(H:Hp)(rn:Addr)(n:Nat)(way ring:List Int):Prop where
 ex:∃W G,H rn=some (.tup [.ref W,.ref G])/\H W=some (.lst (way.map V.int))/\H G=some (.lst (ring.map V.int))
 ne:ring≠[]
 b:∀x∈way++ring,0<=x/\x<(n:Nat)
def qg.mono{rn:Addr}(s:Ze H H')(h:qg H rn n way ring):qg H' rn n way ring:=by
 obtain⟨W,G,h1,h2,h3⟩:=h.ex;exact⟨⟨W,G,s _ _ h1,s _ _ h2,s _ _ h3⟩,h.ne,h.b⟩
def kB(K:W.Frag)(a:Adr):Sp:=fun vs H Q _=>∃(R rn:Addr) (m:Nat) (rv:List V) (ts:List Tr) (t:Tr) (d:WD) (st:Tr->List Int) (way ring:List Int),vs=[.ref R,.ref rn,.int (m:Nat)]/\H R=some (.lst rv)/\Grnd K H d st (ts++[t]) rv/\qg H rn d.signs.length way ring/\m<=50000/\(way++ring).length+(ts.length+1)*(ring.length+1)<=50000/\∀H' q,Ze H H'->H q=none->H' q=some (.lst (((List.range m).map (Z4 d st (Xj way ring) t)).map V.bl))->Q (.ref q) H'
def jN:Okd P w K mg base a 4 a.y21 a.z21 dY kB:=fun T hw=>by
 refine okF T.bK.f Yt fun de A outer s H vs Q E hr h=>?_;obtain⟨R,rn,m,rv,ts,t,d,st,way,ring,rfl,hR,gr,ru,hm,hbig,k⟩:=h;refine⟨_,(@Zc _ _ _ _ _ (ps_asg (pv 1) (Wm (K:=K) (n:=2) rfl rfl (Yb (Zo (i:=3) Yt.nd rfl (.inl rfl)) (Yb (Zo (i:=4) Yt.nd rfl (.inl rfl)) Ws)))) (@Zc _ _ _ _ _ (@Zn _ _ (5) _ _ _ _ Yt.nd rfl (.inl rfl) (Zl (Zu (K:=K) rfl) rfl T.ay ox (@Za _ _ _ _ _ (pv 4) Zb rfl)) rfl (.inl rfl)) (@Zc _ _ _ _ _ (@Zn _ _ (6) _ _ _ _ Yt.nd rfl (.inr rfl) (@ZW _ _ _ _ Zb) rfl (.inl rfl)) (@Zc _ _ _ _ _ (Xk gJ rfl (ZC (K:=K) rfl (pv 0)) (Zo (i:=7) Yt.nd rfl (.inr rfl)) (@Zc _ _ _ _ _ (@ZZ _ _ _ _ _ _ _ _ (@Zw _ _ _ _ _ _ _ _ Yr (@Zv _ _ _ _ _ _ _ (ZN (K:=K) rfl) (pv 7) Zf (fun _ _=>rfl)) Zz (ZI _)) (@Zh _ _ _ (YQ (i:=8) Yt.nd rfl rfl (Nc:=["room","row"]) (ix:=[none,some 7]) (ZJ.of (by decide +kernel:ZO (Zg Wv) UR _ _ _=true)) rfl (ZC (K:=K) rfl (@ZP _ _ _ _ _ _ _ _ qw (pv 3) (pv 4))) (fun _ _ _ _ _=>(Zo (i:=0) (show List.Nodup (["room","row"]:List Str) by decide +kernel) rfl (.inl rfl))) (fun _ _ _ _ _=>Z0) (fun _ _ _ _ _=>(@Zv _ _ _ _ _ _ _ (ZN (K:=K) rfl) (@Zv _ _ _ _ _ _ _ (ZN (K:=K) rfl) (pv 1) Zf (fun _ _=>rfl)) (pv 0) (fun _ _=>rfl))))) (@Zc _ _ _ _ _ (@Zn _ _ (9) _ _ _ _ Yt.nd rfl (.inl rfl) (@Zv _ _ _ _ _ _ _ (ix_dicF (K:=K) (P:=a.Pm) rfl hw) (yc (v:=.ref a.D_LINES) rfl ⟨_,T.cI,rfl⟩) (@Zv _ _ _ _ _ _ _ (ZN (K:=K) rfl) (pv 7) Zf (fun _ _=>rfl)) (fun _ _=>rfl)) rfl (.inl rfl)) (@Zh _ _ _ (@Zn _ _ (8) _ _ _ _ Yt.nd rfl (.inl rfl) (pe_callV (show FamOk _ (LFam K a) from fun f sp h=>by rcases h with⟨rfl,rfl⟩|⟨rfl,rfl⟩|⟨rfl,rfl⟩|⟨rfl,rfl⟩|⟨rfl,rfl⟩|⟨rfl,rfl⟩;exact⟨_,_,_,(Jk T hw),hr.mono (by decide),T.bB.f.kp,T.bB.n⟩;exact⟨_,_,_,(JG T hw),hr.mono (by decide),T.bC.f.kp,T.bC.n⟩;exact⟨_,_,_,(jD T hw),hr.mono (by decide),T.bq.f.kp,T.bq.n⟩;exact⟨_,_,_,(vw T hw),hr.mono (by decide),T.aZ.f.kp,T.aZ.n⟩;exact⟨_,_,_,(xU T hw),hr.mono (by decide),T.aV.f.kp,T.aV.n⟩;exact⟨_,_,_,(xZ T hw),hr.mono (by decide),T.a8.f.kp,T.a8.n⟩) Yy (pv 9) (@Za _ _ _ _ _ (ZR (Nc:=["place","lines"]) (ix:=[none,some 6]) (ZJ.of (by decide +kernel:ZO (Zg Wv) UR _ _ _=true)) rfl (ko (K:=K) rfl (Z8 (WU (K:=K) rfl) (pv 7) (Z5 Zf) Ys)) (fun _ _ _ _ _=>(Zo (i:=0) (show List.Nodup (["place","lines"]:List Str) by decide +kernel) rfl (.inl rfl))) (fun _ _ _ _ _=>Z0) (fun _ _ _ _ _=>(@Zv _ _ _ _ _ _ _ (Zr (K:=K) rfl) (pv 1) (pv 0) (fun _ _=>rfl)))) (@Za _ _ _ _ _ (pv 5) Zb rfl) rfl)) rfl (.inl rfl))))) (@Zh _ _ _ (@Yh _ _ _ _ (Xv gK gW gX ZY (pv 6) (@Za _ _ _ _ _ (ZA T.bW (KC T hw) hr rfl rfl (@Za _ _ _ _ _ (pv 8) (@Za _ _ _ _ _ (pv 5) Zb rfl) rfl)) Zb rfl)) rfl)))) (@Zh _ _ _ (@Zm _ _ _ _ (Z8 (Y0 (K:=K) rfl) (ZA T.aO (WP T hw) hr rfl rfl (@Zq _ _ _ _ _ (@Zv _ _ _ _ _ _ _ (Zr (K:=K) rfl) (pv 6) (Vq XZ Zf) (fun _ _=>rfl)) (@Zq _ _ _ _ _ (pv 2) (@Zq _ _ _ _ _ (pv 5) Zb rfl) rfl) rfl)) Ys (Z5 (pv 2))))))))),?_⟩;obtain⟨W,G,hrn,hW,hG⟩:=ru.ex;have l0:0<ring.length:=nI fun e=>ru.ne (m6 e);generalize hp:ring.length=p at l0 hbig;have lts:(ts++[t]).length=ts.length+1:=by rw[fK];rfl
 have lrv:=gr.len;refine⟨_,rfl,rn,_,rfl,on hrn,rfl,_,_,rfl,_,_,rfl,rfl,?_⟩;refine⟨_,rfl,.inl ⟨G,_,rfl,.inl (oj hG),?_⟩⟩;rw[fF,hp];refine⟨by decide,fun LN hLN=>?_⟩;obtain⟨H1,qN,s1,e1⟩:=ZL (o:=.lst []) hLN;rw[qN];refine⟨_,rfl,R,rfl,⟨_,oj (s1 _ _ hR)⟩,?_⟩;have keep:∀{F:Hp},Zs LN H1 F->Ze H F:=fun {F} sF b o e=>sF _ _ (fun z=>by rw[z,hLN] at e;cases e) (s1 _ _ e);refine YM (J:=Itl K R) (n:=rv.length) (fun j U F=>∃(z6 z7 z8:Option V) (vs:List V),U=[some (.ref R),some (.ref rn),some (.int (m:Nat)),some (.ref W),some (.ref G),some (.int (p:Nat)),some (.ref LN),z6,z7,z8]/\Zs LN H1 F/\F LN=some (.lst vs)/\vs.length=j/\(∀v∈vs,v≠.ref LN)/\LinesAt F d st (Xj way ring) p (way++ring).length (ts++[t]) vs) ?_ ?_ ?_ ?_ ?_
 ·exact⟨_,_,_,[],rfl,.refl _,e1,rfl,(fun v hv=>by cases hv),gB _,fun j v t h=>by simp at h⟩
 ·rintro j U F hj ⟨z6,z7,z8,vs,rfl,sF,_⟩;exact⟨_,_,oj (keep sF _ _ hR),fG hj⟩
 ·rintro U F ⟨z6,z7,z8,vs,rfl,sF,_⟩;exact⟨_,oj (keep sF _ _ hR),fE _⟩
 ·rintro j x U F0 F hj ⟨z6,z7,z8,vs,rfl,sF,fLN,lvs,nb,la⟩ ⟨rfl,hx⟩;have ex:=hx _ (oj (keep sF _ _ hR));have hjt:j<(ts++[t]).length:=by omega
  have ht:=fG hjt;have row:=(gr.row j x _ ex ht).mono (om (keep sF));obtain⟨hc,ok⟩:=gr.c _ (fX hjt);generalize (ts++[t])[j]=u at ht row hc ok;have hjm:(j+1)*(p+1)<=(ts.length+1)*(p+1):=oi _ (by omega);have XH:∀(E':Hp) (z9:Option V) (l:Addr) (L:List Bool),Ze F E'->E' l=some (.lst (L.map V.bl))->ZQ p L (Z4 d st (Xj way ring) u)->L.length<=(way++ring).length+(j+1)*(p+1)->yJ K a [.ref l,.int (p:Nat)] E' (fun v H2=>WV (.ref LN) [v] H2 (fun _ H3=>∃(z6 z7 z8:Option V) (vs:List V),[some (.ref R),some (.ref rn),some (.int (m:Nat)),some (.ref W),some (.ref G),some (.int (p:Nat)),some (.ref LN),some x,some (.ref l),z9]=[some (.ref R),some (.ref rn),some (.int (m:Nat)),some (.ref W),some (.ref G),some (.int (p:Nat)),some (.ref LN),z6,z7,z8]/\Zs LN H1 H3/\H3 LN=some (.lst vs)/\vs.length=j+1/\(∀v∈vs,v≠.ref LN)/\LinesAt H3 d st (Xj way ring) p (way++ring).length (ts++[t]) vs)) (fun _ _ _=>False):=fun E' z9 l L sE el tl ll=>by
   refine⟨l,p,L,_,rfl,el,tl,by omega,fun H2 q L' s2 q0 eq tq lq=>?_⟩;have fLN2:=(sE.trans s2) _ _ fLN;have nq:q≠LN:=fun e=>by rw[e,sE _ _ fLN] at q0;cases q0
   refine⟨LN,_,_,rfl,rfl,fLN2,by rw[lvs,fJ];have:j+1<=(j+1)*(p+1):=Nat.le_mul_of_pos_right _ (Nat.succ_pos _);omega,_,_,_,vs++[.ref q],rfl,?_,Zd,by rw[fK,lvs];rfl,fun v hv=>?_,?_,fun i v w e1 e2=>?_⟩
   ·exact(sF.trans (Ze.x (sE.trans s2))).upd
   ·rcases fR.mp hv with h|h
    ·exact nb v h
    ·rw[fW.mp h];exact fun e=>nq (V.ref.inj e)
   ·rw[fK,lvs];show j+1<=_;omega
   ·by_cases ci:i<vs.length
    ·rw[gm ci] at e1;obtain⟨l',L'',ev,gl,r⟩:=la.2 i v w e1 e2;have nl:l'≠LN:=fun e=>nb v (gj e1) (by rw[ev,e]);exact⟨l',L'',ev,by rw[Zx nl];exact(sE.trans s2) _ _ gl,r⟩
    ·have hi:=(fO.mp e1).1;rw[fK,gG] at hi;have ei:i=j:=by omega
     subst ei;rw[gy (by omega),lvs,g0] at e1;cases e1;rw[ht] at e2;cases e2;exact⟨q,L',rfl,by rw[Zx nq];exact eq,tq,by omega⟩
  unfold yw at row
  by_cases cat:XG u=true
  ·rw[if_pos cat] at row;obtain⟨b,tb,rfl,g1,g2⟩:=row;refine⟨_,rfl,b,_,_,_,rfl,rfl,g1,Zj (j:=0) rfl,rfl,_,rfl,Xt rfl ?_⟩;refine⟨_,rfl,_,rfl,W,G,_,_,rfl,rfl,keep sF _ _ hW,keep sF _ _ hG,by rw[fF,fF,fJ];rw[fK] at hbig;omega,fun C hC=>?_⟩;rw[<- gb];obtain⟨F1,qN,t1,eC⟩:=ZL (o:=.lst ((way++ring).map V.int)) hC;rw[qN];refine⟨C,rfl,⟨_,oj eC⟩,fun D hD=>?_⟩;refine YI (way++ring) V.int (fun r=>.bl (YB d st u r)) hD (oj eC) (by rw[fJ];omega) ?_ ?_
   ·intro r hrm F2 N sF2 hN;obtain⟨r0,r1⟩:=ru.b r hrm;obtain⟨i,rfl⟩:=mz r0;have hi:i<d.signs.length:=by omega
    refine⟨_,rfl,b,_,_,_,rfl,rfl,om (t1.trans sF2) _ _ _ g1,Zj (j:=1) rfl,_,rfl,tb,_,_,_,rfl,rfl,om (t1.trans sF2) _ _ _ g2,Zj (by rw[fL,fL,i7 hi];rfl),hN _ (.refl _)⟩
   intro F2 eD t2;refine⟨_,rfl,.inl ⟨rfl,_,oj ((t1.trans t2) _ _ fLN)⟩,_,rfl,_,rfl,XH F2 _ D ((way++ring).map (YB d st u)) (t1.trans t2) (by rw[eD,gS];rfl) (by rw[<- hp];exact JX cat ru.ne) (by rw[fF];exact mf _ _)⟩
  ·rw[if_neg cat] at row;obtain⟨b,is,rfl,g1,il,hk⟩:=row;have cat':XG u=false:=by simpa using cat
   have nat':Zy u.lb ≠ "at" := by
    rcases Wg hc ok cat' with⟨w,a1,rfl,h|h|h⟩|⟨w,a1,a2,rfl,h|h⟩|⟨a1,a2,rfl⟩
    ·rw[h];exact(by decide +kernel:¬(("not" : Str) = "at"))
    ·rw[h];exact(by decide +kernel:¬(("next" : Str) = "at"))
    ·rw[h];exact(by decide +kernel:¬(("before" : Str) = "at"))
    ·rw[h];exact(by decide +kernel:¬(("until" : Str) = "at"))
    ·rw[h];exact(by decide +kernel:¬(("since" : Str) = "at"))
    ·exact(by decide +kernel:¬(("and" : Str) = "at"))
   refine⟨_,rfl,b,_,_,_,rfl,rfl,g1,Zj (j:=0) rfl,rfl,_,rfl,Z1 (fun z=>nat' (V.str.inj z)) ?_⟩;have kid:∀(i mm:Nat) (kd:Tr),u.ks[i]?=some kd->is[i]?=some mm->∃l L,vs[mm]?=some (.ref l)/\F l=some (.lst (L.map V.bl))/\ZQ p L (Z4 d st (Xj way ring) kd)/\L.length<=(way++ring).length+j*(p+1):=fun i mm kd e1 e2=>by
    obtain⟨h1,h2⟩:=hk i kd mm e1 e2;have hv:vs[mm]?=some vs[mm]:=fG (by omega);obtain⟨l,L,ev,gl,tl,ll⟩:=la.2 mm _ kd hv h2;have:(mm+1)*(p+1)<=j*(p+1):=oi _ h1;exact⟨l,L,by rw[hv,ev],gl,tl,by omega⟩
   have jm:(j+1)*(p+1)=j*(p+1)+(p+1):=Nat.succ_mul _ _;have one:∀{q:Nat->Bool},q=Z4 d st (Xj way ring) u->∀{L:List Bool},ZQ p L q->ZQ p L (Z4 d st (Xj way ring) u):=fun e _ h=>e▸h;obtain⟨f,sp,mem,fam,deed⟩:∃f sp,(Zy u.lb,f)∈([("not",a.y25),("and",a.y26),("next",a.y27),("until",a.y28),("before",a.y29),("since",a.y30)]:List (Str×Addr))/\LFam K a f sp/\∀(F2:Hp) (D:Addr) (Q':VK),Ze F F2->F2 D=some (.lst (is.map fun i=>(vs[i]?).getD .non))->(∀H3 l L,Ze F2 H3->H3 l=some (.lst (L.map V.bl))->ZQ p L (Z4 d st (Xj way ring) u)->L.length<=(way++ring).length+(j+1)*(p+1)->Q' (.ref l) H3)->sp [.ref D,.int (p:Nat)] F2 Q' E0:=by
    rcases Wg hc ok cat' with⟨w,a1,rfl,h⟩|⟨w,a1,a2,rfl,h⟩|⟨a1,a2,rfl⟩
    ·obtain⟨m1,rfl⟩:∃m1,is=[m1]:=by
      cases is with
      |nil=>cases il
      |cons x r=>cases r with
       |nil=>exact⟨x,rfl⟩
       |cons y s=>simp[Tr.ks] at il
     obtain⟨l1,L1,hv1,gl1,tl1,ll1⟩:=kid 0 m1 a1 rfl rfl;have em:([m1].map fun i=>(vs[i]?).getD .non)=[V.ref l1]:=by simp[hv1]
     rw[em];rcases h with rfl|rfl|rfl
     ·refine⟨a.y25,_,by simp[Zy,Tr.lb],.inl ⟨rfl,rfl⟩,fun F2 D Q' s2 eD q=>?_⟩;exact⟨D,l1,p,L1,_,rfl,eD,s2 _ _ gl1,tl1,by omega,fun H3 l L s3 el tl ll=>q H3 l L s3 el (one (kL a1).symm tl) (by omega)⟩
     ·refine⟨a.y27,_,by simp[Zy,Tr.lb],.inr (.inr (.inl ⟨rfl,rfl⟩)),fun F2 D Q' s2 eD q=>?_⟩;exact⟨D,l1,p,L1,_,rfl,eD,s2 _ _ gl1,tl1,by omega,fun H3 l L s3 el tl ll=>q H3 l L s3 el (one (yF a1).symm tl) (by omega)⟩
     ·refine⟨a.y29,_,by simp[Zy,Tr.lb],.inr (.inr (.inr (.inr (.inl ⟨rfl,rfl⟩)))),fun F2 D Q' s2 eD q=>?_⟩;exact⟨D,l1,p,L1,_,rfl,eD,s2 _ _ gl1,tl1,by omega,fun H3 l L s3 el tl ll=>q H3 l L s3 el (one (qH a1).symm tl) (by omega)⟩
    ·obtain⟨m1,m2,rfl⟩:∃m1 m2,is=[m1,m2]:=by
      cases is with
      |nil=>cases il
      |cons x r=>cases r with
       |nil=>simp[Tr.ks] at il
       |cons y s=>cases s with
        |nil=>exact⟨x,y,rfl⟩
        |cons z w=>simp[Tr.ks] at il
     obtain⟨l1,L1,hv1,gl1,tl1,ll1⟩:=kid 0 m1 a1 rfl rfl;obtain⟨l2,L2,hv2,gl2,tl2,ll2⟩:=kid 1 m2 a2 rfl rfl;have em:([m1,m2].map fun i=>(vs[i]?).getD .non)=[V.ref l1,V.ref l2]:=by simp[hv1,hv2]
     rw[em];rcases h with rfl|rfl
     ·refine⟨a.y28,_,by simp[Zy,Tr.lb],.inr (.inr (.inr (.inl ⟨rfl,rfl⟩))),fun F2 D Q' s2 eD q=>?_⟩;exact⟨D,l1,l2,p,L1,L2,_,_,rfl,eD,s2 _ _ gl1,s2 _ _ gl2,tl1,tl2,by omega,by omega,fun H3 l L s3 el tl ll=>q H3 l L s3 el (one (zE a1 a2).symm tl) (by omega)⟩
     ·refine⟨a.y30,_,by simp[Zy,Tr.lb],.inr (.inr (.inr (.inr (.inr ⟨rfl,rfl⟩)))),fun F2 D Q' s2 eD q=>?_⟩;exact⟨D,l1,l2,p,L1,L2,_,_,rfl,eD,s2 _ _ gl1,s2 _ _ gl2,tl1,tl2,by omega,by omega,fun H3 l L s3 el tl ll=>q H3 l L s3 el (one (zU a1 a2).symm tl) (by omega)⟩
    ·obtain⟨m1,m2,rfl⟩:∃m1 m2,is=[m1,m2]:=by
      cases is with
      |nil=>cases il
      |cons x r=>cases r with
       |nil=>simp[Tr.ks] at il
       |cons y s=>cases s with
        |nil=>exact⟨x,y,rfl⟩
        |cons z w=>simp[Tr.ks] at il
     obtain⟨l1,L1,hv1,gl1,tl1,ll1⟩:=kid 0 m1 a1 rfl rfl;obtain⟨l2,L2,hv2,gl2,tl2,ll2⟩:=kid 1 m2 a2 rfl rfl;have em:([m1,m2].map fun i=>(vs[i]?).getD .non)=[V.ref l1,V.ref l2]:=by simp[hv1,hv2]
     rw[em];refine⟨a.y26,_,by simp[Zy,Tr.lb],.inr (.inl ⟨rfl,rfl⟩),fun F2 D Q' s2 eD q=>?_⟩;exact⟨D,l1,l2,p,L1,L2,_,_,rfl,eD,s2 _ _ gl1,s2 _ _ gl2,tl1,tl2,by omega,by omega,fun H3 l L s3 el tl ll=>q H3 l L s3 el (one (jJ a1 a2).symm tl) (by omega)⟩
   refine⟨_,rfl,b,_,_,_,rfl,rfl,g1,Zj (j:=0) rfl,a.D_LINES,_,_,f,rfl,rfl,T.cJ,mem,?_⟩;refine⟨f,sp,rfl,fam,_,rfl,1,rfl,b,_,rfl,g1,?_,fun c hcN=>?_⟩
   ·intro⟨z1,_⟩;have:HT.sIx (V.str (Zy u.lb)::is.map fun i:Nat=>V.int (i:Nat)).length 0 (some ((1:Nat):Int))=0:=z1;rw[HT.sIx_nat] at this;simp at this
   have ec:=Wd (V.str (Zy u.lb)::is.map fun i:Nat=>V.int (i:Nat)) 1 (by simp);rw[show((1:Nat):Int)=1 from rfl] at ec;rw[ec];obtain⟨F1,qN,t1,ecc⟩:=ZL (o:=.tup (is.map fun i:Nat=>V.int (i:Nat))) hcN
   change upd F c (.tup ((V.str (Zy u.lb)::is.map fun i:Nat=>V.int (i:Nat)).drop 1))=F1 at qN
   rw[qN];refine⟨c,rfl,⟨_,on ecc⟩,fun D hD=>?_⟩;refine xL is (fun i:Nat=>V.int (i:Nat)) (fun i=>(vs[i]?).getD .non) hD (on ecc) (by rw[il,fJ];have:=kids8 ok;omega) ?_ ?_
   ·intro i hi F2 N sF2 hN;obtain⟨e0,he0,ei0⟩:=gI hi;have h1:u.ks[e0]?=some (u.ks[e0]'(by omega)):=fG (by omega);obtain⟨lt,_⟩:=hk e0 _ i h1 (by rw[fG he0,ei0]);have hv:vs[i]?=some vs[i]:=fG (by omega);have:=hN F2 (.refl _);rw[hv] at this;exact⟨_,rfl,_,rfl,LN,_,_,_,rfl,rfl,oj ((t1.trans sF2) _ _ fLN),Zj hv,this⟩
   intro F2 eD t2;refine⟨_,rfl,deed F2 D _ (t1.trans t2) eD fun H3 l L s3 el tl ll=>?_⟩;have s03:=t1.trans (t2.trans s3);exact⟨_,rfl,.inl ⟨rfl,_,oj (s03 _ _ fLN)⟩,_,rfl,_,rfl,XH H3 _ l L s03 el tl ll⟩
 rintro U F ⟨z6,z7,z8,vs,rfl,sF,fLN,lvs,nb,la⟩;have lv1:vs.length=ts.length+1:=by omega
 have hv:vs[ts.length]?=some (vs[ts.length]'(by omega)):=fG (by omega);obtain⟨l,L,ev,gl,tl,ll⟩:=la.2 ts.length _ t hv (by rw[gy (fE _),g0];rfl);have ea:atI vs (-1)=some (.ref l):=by
  have:=zg (xs:=vs) (p:=1) (fE _) (by omega);rw[show(-((1:Nat):Int))=-1 from rfl] at this;rw[this];have e2:vs[vs.length-1]'(by omega)=vs[ts.length]'(by omega):=by congr 1;omega
  rw[e2,ev]
 refine⟨_,rfl,_,rfl,LN,_,_,_,rfl,rfl,oj fLN,ea,_,rfl,_,rfl,l,m,p,L,_,rfl,gl,tl,by omega,by omega,fun H2 q L' s2 q0 eq tq lq=>?_⟩;refine⟨_,rfl,_,rfl,q,_,rfl,oj eq,fun q2 hq2=>?_⟩;rw[VM,<- iT];have et:L'.take m=(List.range m).map (Z4 d st (Xj way ring) t):=by
  apply i0;intro i
  by_cases hi:i<m
  ·rw[mM hi,tq.get (by omega),fL,i7 hi];rfl
  ·rw[gZ (by rw[gu];omega),gZ (by rw[fF,gp];omega)]
 rw[et];have sH:=(keep sF).trans (s2.trans (Zi (o:=.lst (((List.range m).map (Z4 d st (Xj way ring) t)).map V.bl)) hq2));exact k _ q2 sH (((keep sF).trans s2).free hq2) Zd
def AtomRow(K:W.Frag)(H:Hp)(st:Tr->List Int)(t:Tr)(b:Addr)(rv:V):Prop:=(t.lb=.yes/\SqT K H b [.str "yes"])\/(∃z,t.lb=.sign z/\SqT K H b [.str "sign",.str z])\/(t.lb=.op "some" /\ (∃x,SqT K H b [.str "some",x])/\∃l,rv=.ref l/\H l=some (.lst ((st t).map V.int))/\(st t).length<=1000)
def xj(K:W.Frag)(a:Adr):Sp:=fun vs H Q _=>∃(w b:Addr) (rv:V) (d:WD) (st:Tr->List Int) (t:Tr),vs=[.ref w,.ref b,rv]/\ZX a.C_World H w d/\d.signs.length<=20/\AtomRow K H st t b rv/\∀H' tb,Ze H H'->H' tb=some (.tup (((List.range d.signs.length).map fun r:Nat=>YB d st t (r:Nat)).map V.bl))->Q (.ref tb) H'
def xI{ss:List Str}:inV (.str z) ((X5 ss).map V.str)=decide (z∈ss):=by
 rw[lg,j4,lZ];exact(qx ss).mem_iff
def xm:Okd P w K mg base a 2 a.y20 a.z20 dZ xj:=fun T hw=>by
 refine okF T.bo.f xr fun de A outer s H vs Q E hr h=>?_;obtain⟨w,b,rv,d,st,t,rfl,hw0,n20,ar,k⟩:=h;refine⟨_,(@Zc _ _ _ _ _ (@ZZ _ _ _ _ _ _ _ _ (@Zw _ _ _ _ _ _ _ _ Yr (@Zv _ _ _ _ _ _ _ (ZN (K:=K) rfl) (pv 1) Zf (fun _ _=>rfl)) Zz (ZI _)) (@Zh _ _ _ (@Zm _ _ _ _ (ZM (Yj (K:=K) rfl) rfl T.aK oz (@Za _ _ _ _ _ (ZR (Nc:=["room"]) (ix:=[none]) (ZJ.of (by decide +kernel:ZO (Zg Y5) ["world","row","rooms"] _ _ _=true)) rfl (Y8 rfl T.aJ (@Za _ _ _ _ _ (VE (pv 0) T.aj T.ab.m (Y6 T hw) (rmL hr rfl) T.ab.n .nil Yy) Zb rfl)) (fun _ _ _ _ _=>(Zo (i:=0) (show List.Nodup (["room"]:List Str) by decide +kernel) rfl (.inl rfl))) (fun _ _ _ _ _=>Z0) (fun _ _ _ _ _=>YR)) Zb rfl)))) ZD) (@Zc _ _ _ _ _ (@ZZ _ _ _ _ _ _ _ _ (@Zw _ _ _ _ _ _ _ _ Yr (@Zv _ _ _ _ _ _ _ (ZN (K:=K) rfl) (pv 1) Zf (fun _ _=>rfl)) Zz (ZI _)) (@Zh _ _ _ (@Zm _ _ _ _ (ZM (Yj (K:=K) rfl) rfl T.aK oz (@Za _ _ _ _ _ (ZR (Nc:=["room","row","world"]) (ix:=[none,some 1,some 0]) (ZJ.of (by decide +kernel:ZO (Zg Y5) ["world","row","rooms"] _ _ _=true)) rfl (Y8 rfl T.aJ (@Za _ _ _ _ _ (VE (pv 0) T.aj T.ab.m (Y6 T hw) (rmL hr rfl) T.ab.n .nil Yy) Zb rfl)) (fun _ _ _ _ _=>(Zo (i:=0) (show List.Nodup (["room","row","world"]:List Str) by decide +kernel) rfl (.inl rfl))) (fun _ _ _ _ _=>Z0) (fun _ _ _ _ _=>(@YZ _ _ _ _ _ _ _ _ (WB (K:=K) rfl) (@Zv _ _ _ _ _ _ _ (ZN (K:=K) rfl) (pv 1) Zf (fun _ _=>rfl)) (Wr (pv 2) T.aj T.ag.m (X1 T hw) (rmL hr rfl) T.ag.n .nil Yy (@Za _ _ _ _ _ (pv 0) Zb rfl)) (by with_unfolding_all rfl)))) Zb rfl)))) ZD) (@Zh _ _ _ (@Zm _ _ _ _ (ZM (Yj (K:=K) rfl) rfl T.aK oz (@Za _ _ _ _ _ (ZR (Nc:=["room","rooms"]) (ix:=[none,some 2]) (ZJ.of (by decide +kernel:ZO (Zg Y5) ["world","row","rooms"] _ _ _=true)) rfl (Y8 rfl T.aJ (@Za _ _ _ _ _ (VE (pv 0) T.aj T.ab.m (Y6 T hw) (rmL hr rfl) T.ab.n .nil Yy) Zb rfl)) (fun _ _ _ _ _=>(Zo (i:=0) (show List.Nodup (["room","rooms"]:List Str) by decide +kernel) rfl (.inl rfl))) (fun _ _ _ _ _=>Z0) (fun _ _ _ _ _=>(@YZ _ _ _ _ _ _ _ _ (WB (K:=K) rfl) (pv 0) (pv 1) (by with_unfolding_all rfl)))) Zb rfl)))))),?_⟩;obtain⟨dx,fs,ho,hk0⟩:=yz hw0;rcases ar with⟨el,g⟩|⟨z,el,g⟩|⟨el,⟨x,g⟩,l,rfl,hl,ll⟩
 ·refine⟨_,rfl,b,_,_,_,rfl,rfl,g,Zj (j:=0) rfl,rfl,_,rfl,Xt rfl ?_⟩;refine⟨_,rfl,w,dx,fs,rfl,ho,hk0,w,d,rfl,hw0,_,rfl,by omega,by omega,?_⟩;rw[gw];intro D hD;refine qm (fun r=>.bl (YB d st t (r:Nat))) hD (by rw[fJ];omega) (fun r hr2 G N sG hN=>?_) fun H1 e1 s1=>?_
  ·have:YB d st t (r:Nat)=true:=by unfold YB;rw[el]
   have q:=hN G (.refl _);rw[this] at q;exact q
  ·exact⟨D,_,rfl,.inl ⟨oj e1,fun tb ht=>k _ tb (s1.trans (Zi ht)) (by rw[Zd,gS];rfl)⟩⟩
 ·refine⟨_,rfl,b,_,_,_,rfl,rfl,g,Zj (j:=0) rfl,rfl,_,rfl,Z1 (fun q=>(by decide +kernel:¬(("sign" : Str) = "yes")) (V.str.inj q)) ?_⟩;refine⟨_,rfl,b,_,_,_,rfl,rfl,g,Zj (j:=0) rfl,rfl,_,rfl,Xt rfl ?_⟩;refine⟨_,rfl,w,dx,fs,rfl,ho,hk0,w,d,rfl,hw0,_,rfl,by omega,by omega,?_⟩;rw[gw];intro D hD;refine qm (fun r=>.bl (YB d st t (r:Nat))) hD (by rw[fJ];omega) (fun r hr2 G N sG hN=>?_) fun H1 e1 s1=>?_
  ·obtain⟨dx2,fs2,ho2,hk2⟩:=UK (hw0.mono sG);refine⟨_,rfl,b,_,_,_,rfl,rfl,om sG _ _ _ g,Zj (j:=1) rfl,_,rfl,w,dx2,fs2,rfl,ho2,hk2,_,rfl,w,d,r,d.signs[r],rfl,hw0.mono sG,fG hr2,fun q hq=>?_⟩;refine⟨q,_,rfl,.inl (oj Zd),rfl,zA _,?_⟩;have:YB d st t (r:Nat)=inV (.str z) ((X5 d.signs[r]).map V.str):=by
    unfold YB;rw[el,xI]
    show decide (z∈xM d (r:Nat))=_
    unfold xM;rw[gw,fG hr2];rfl
   have qq:=hN _ (Zi (o:=.lst ((X5 d.signs[r]).map V.str)) hq);rw[this] at qq;exact qq
  ·exact⟨D,_,rfl,.inl ⟨oj e1,fun tb ht=>k _ tb (s1.trans (Zi ht)) (by rw[Zd,gS];rfl)⟩⟩
 ·refine⟨_,rfl,b,_,_,_,rfl,rfl,g,Zj (j:=0) rfl,rfl,_,rfl,Z1 (fun q=>(by decide +kernel:¬(("some" : Str) = "yes")) (V.str.inj q)) ?_⟩;refine⟨_,rfl,b,_,_,_,rfl,rfl,g,Zj (j:=0) rfl,rfl,_,rfl,Z1 (fun q=>(by decide +kernel:¬(("some" : Str) = "sign")) (V.str.inj q)) ?_⟩;refine⟨_,rfl,w,dx,fs,rfl,ho,hk0,w,d,rfl,hw0,_,rfl,by omega,by omega,?_⟩;rw[gw];intro D hD;refine qm (fun r=>.bl (YB d st t (r:Nat))) hD (by rw[fJ];omega) (fun r hr2 G N sG hN=>?_) fun H1 e1 s1=>?_
  ·refine⟨_,rfl,_,rfl,l,_,rfl,.inl (oj (sG _ _ hl)),rfl,VF _,?_⟩;have:YB d st t (r:Nat)=inV (.int (r:Nat)) ((st t).map V.int):=by
    unfold YB;rw[el,qR]
   have qq:=hN G (.refl _);rw[this] at qq;exact qq
  ·exact⟨D,_,rfl,.inl ⟨oj e1,fun tb ht=>k _ tb (s1.trans (Zi ht)) (by rw[Zd,gS];rfl)⟩⟩
def Jh(h1:H S=some (.dK kv)):YH H (upd H S o):=fun K b ys h=>by
 rcases h with(h|⟨o',h⟩)|h
 ·exact .inl (.inl (by rw[Zx (fun z=>by rw[z,h1] at h;cases h)];exact h))
 ·exact .inl (.inr ⟨o',by rw[Zx (fun z=>by rw[z,h1] at h;cases h)];exact h⟩)
 ·exact .inr h
def Ww{xs:List V}(h1:H S=some (.lst xs)):YH H (upd H S o):=fun K b ys h=>by
 rcases h with(h|⟨o',h⟩)|h
 ·exact .inl (.inl (by rw[Zx (fun z=>by rw[z,h1] at h;cases h)];exact h))
 ·exact .inl (.inr ⟨o',by rw[Zx (fun z=>by rw[z,h1] at h;cases h)];exact h⟩)
 ·exact .inr h
def ToldAt(H:Hp)(st:Tr->List Int)(ps ts:List Tr)(kv:List (Key×V)):Prop:=∀(m:Nat) t,ps[m]?=some t->t∈ts->t.lb=.op "some" -> ∃l,YW kv (.inl (m:Int))=some (.ref l)/\H l=some (.lst ((st t).map V.int))/\(st t).length<=1000
def xA(K:W.Frag)(a:Adr):Sp:=fun vs H Q _=>∃(w r P R D tl:Addr) (i:Nat) (ps:List Tr) (t:Tr) (d:WD) (st:Tr->List Int) (kv:List (Key×V)),vs=[.ref w,.ref r,.int (i:Nat),.ref tl]/\ZX a.C_World H w d/\d.signs.length<=20/\TbK K a.Pm a.C_Table H r P R D ps/\ps[i]?=some t/\(∀s∈ps,isC s=true)/\psz t<=2000000/\(Zk [] (Zp t)).length<4000/\H tl=some (.dK kv)/\ToldAt H st ps (Zk [] (Zp t)) kv/\∀H' q rv,Ze H H'->H q=none->H' q=some (.lst rv)->Grnd K H' d st (Zk [] (Zp t)) rv->Q (.ref q) H'
def xP:Okd P w K mg base a 3 a.y19 a.z19 ef xA:=fun T hw=>by
 refine okF T.bn.f Xm fun de A outer s H vs Q E hr h=>?_;obtain⟨w,r,P,R,D,tl,i,ps,t,d,st,kv,rfl,hw0,n20,tb,hi,hc,hz,hfew,htl,told,k⟩:=h;refine⟨_,(@Zc _ _ _ _ _ (@Zn _ _ (4) _ _ _ _ Xm.nd rfl (.inr rfl) L3.pe_dnewK rfl (.inl rfl)) (@Zc _ _ _ _ _ (@Zn _ _ (5) _ _ _ _ Xm.nd rfl (.inl rfl) (@ZW _ _ _ _ Zb) rfl (.inl rfl)) (@Zc _ _ _ _ _ (Xk gJ rfl (ZC (K:=K) rfl (Wr (pv 1) T.av T.aq.m (V5 T hw) (rmL hr rfl) T.aq.n .nil Yy (@Za _ _ _ _ _ (pv 2) Zb rfl))) (Zo (i:=6) Xm.nd rfl (.inl rfl)) (@Zc _ _ _ _ _ (@Zn _ _ (7) _ _ _ _ Xm.nd rfl (.inl rfl) (@Zv _ _ _ _ _ _ _ (Zr (K:=K) rfl) (XU (K:=K) rfl (pv 1) rfl) (pv 6) (fun _ _=>rfl)) rfl (.inl rfl)) (@Zc _ _ _ _ _ (ps_dput (hu_of hr) (pv 4) (pv 6) (Zl (Zu (K:=K) rfl) rfl T.ay ox (@Za _ _ _ _ _ (pv 5) Zb rfl)) rfl) (@Zh _ _ _ (@ZZ _ _ _ _ _ _ _ _ (@Zw _ _ _ _ _ _ _ _ (WB (K:=K) rfl) (@Zv _ _ _ _ _ _ _ (ZN (K:=K) rfl) (pv 7) Zf (fun _ _=>rfl)) (@ZV _ _ _ _ _ (@Zq _ _ _ _ _ Zz (@Zq _ _ _ _ _ Zz (@Zq _ _ _ _ _ Zz Zb rfl) rfl) rfl)) (by with_unfolding_all rfl)) (@Zh _ _ _ (@Yh _ _ _ _ (Xv gK gW gX ZY (pv 5) (@Za _ _ _ _ _ (@ZV _ _ _ _ _ (@Za _ _ _ _ _ Zz (@Za _ _ _ _ _ (ZA T.bo (xm T hw) hr rfl rfl (@Zq _ _ _ _ _ (pv 0) (@Zq _ _ _ _ _ (pv 7) (@Zq _ _ _ _ _ (pe_dget1 (hu_of hr) (pv 3) (pv 6) ⟨rfl,rfl,rfl,rfl⟩) Zb rfl) rfl) rfl)) Zb rfl) rfl)) Zb rfl)) rfl)) (@Zh _ _ _ (@Yh _ _ _ _ (Xv gK gW gX ZY (pv 5) (@Za _ _ _ _ _ (@ZP _ _ _ _ _ _ _ _ (xQ (K:=K) rfl) (@ZV _ _ _ _ _ (@Za _ _ _ _ _ (@Zv _ _ _ _ _ _ _ (ZN (K:=K) rfl) (pv 7) Zf (fun _ _=>rfl)) Zb rfl)) (ZM (Yj (K:=K) rfl) rfl T.aK oz (@Za _ _ _ _ _ (ZR (Nc:=["part","places"]) (ix:=[none,some 4]) (ZJ.of (by decide +kernel:ZO (Zg Wt) qb _ _ _=true)) rfl (ko (K:=K) rfl (Z8 (WU (K:=K) rfl) (pv 7) (Z5 Zf) Ys)) (fun _ _ _ _ _=>(Zo (i:=0) (show List.Nodup (["part","places"]:List Str) by decide +kernel) rfl (.inl rfl))) (fun _ _ _ _ _=>Z0) (fun _ _ _ _ _=>(pe_dget (hu_of hr) (pv 1) (pv 0) (fun _ _=>rfl)))) Zb rfl))) Zb rfl)) rfl))))))) (@Zh _ _ _ (@Zm _ _ _ _ (pv 5)))))),?_⟩;generalize hts:Zk [] (Zp t)=ts at hfew told k;have ord:Ord ts:=by rw[<- hts];exact Jm t
 have tsn:ts.Nodup:=by rw[<- hts];exact Yv (by simp)
 refine fun PL hPL=>?_;obtain⟨H1,qN,s1,ePL⟩:=ZL (o:=.dK []) hPL;rw[qN];clear qN;refine⟨by decide,fun RW hRW=>?_⟩;obtain⟨H2,qN,s2,eRW⟩:=ZL (o:=.lst []) hRW;rw[qN];clear qN;have s12:=s1.trans s2;have tb2:=tb.mono s12;obtain⟨dx,ho⟩:=tb2.obj;have nPR:PL≠RW:=fun e=>by rw[e] at ePL;rw[ePL] at hRW;cases hRW
 refine⟨_,rfl,r,dx,_,rfl,ho,lkN (by decide +kernel) (by decide +kernel) (by decide +kernel),_,rfl,r,P,R,D,ps,t,i,rfl,tb2,hi,hc,hz,by rw[hts];exact hfew,fun H3 L is s3 L0 hL nums=>⟨L,rfl,⟨_,oj hL⟩,?_⟩⟩;rw[hts] at nums;have s13:=s12.trans s3;have ePL3:=(s2.trans s3) _ _ ePL;have eRW3:=s3 _ _ eRW;have nLP:L≠PL:=fun e=>by rw[e,s2 _ _ ePL] at L0;cases L0
 have nLR:L≠RW:=fun e=>by rw[e,eRW] at L0;cases L0
 have iv:(iV is).length=is.length:=Vd is;have lis:=nums.1;have keep:∀{G:Hp},W4 PL RW H3 G->Ze H G:=fun {G} sG b o e=>sG _ _ (fun z=>by rw[z,hPL] at e;cases e) (fun z=>by rw[z] at e;rw[s1 _ _ e] at hRW;cases hRW) (s13 _ _ e);refine YM (J:=Itl K L) (n:=ts.length) (fun j U G=>∃(z6 z7:Option V) (kp:List (Key×V)) (rv:List V),U=[some (.ref w),some (.ref r),some (.int (i:Nat)),some (.ref tl),some (.ref PL),some (.ref RW),z6,z7]/\W4 PL RW H3 G/\G PL=some (.dK kp)/\kp.length<=j/\(∀(x m:Nat),x<j->is[x]?=some m->YW kp (.inl (m:Int))=some (.int (x:Nat)))/\G RW=some (.lst rv)/\rv.length=j/\∀(x:Nat) v u,rv[x]?=some v->ts[x]?=some u->yw K G d st ts x v u) ?_ ?_ ?_ ?_ ?_
 ·exact⟨_,_,[],[],rfl,(fun b o _ _ e=>e),ePL3,fE _,(fun x m h=>absurd h (Nat.not_lt_zero x)),eRW3,rfl,fun x v u h=>by simp at h⟩
 ·rintro j U G hj ⟨z6,z7,kp,rv,rfl,sG,_⟩;exact⟨_,_,oj (sG _ _ nLP nLR hL),fG (by rw[iv];omega)⟩
 ·rintro U G ⟨z6,z7,kp,rv,rfl,sG,_⟩;exact⟨_,oj (sG _ _ nLP nLR hL),by rw[iv];omega⟩
 ·rintro j x U G0 G hj ⟨z6,z7,kp,rv,rfl,sG,gP,lk,pl,gR,lr,gr⟩ ⟨rfl,hx⟩;have ex:=hx _ (oj (sG _ _ nLP nLR hL));unfold iV at ex;rw[fL] at ex;have hm:is[j]?=some (is[j]'(by omega)):=fG (by omega);generalize (is[j]'(by omega))=m at hm;rw[hm] at ex;have ex':x=.int (m:Int):=(fY ex).symm;subst ex';have hu:ts[j]?=some ts[j]:=fG hj;have hmem:ts[j]∈ts:=fX hj;generalize hue:ts[j]=u at hu hmem;have hpm:=nums.2 j m u hm hu;have tbG:=tb.mono (keep sG);obtain⟨dx2,ho2⟩:=tbG.obj;obtain⟨np,pv0,hP2,aP⟩:=tbG.pl;obtain⟨rows,hR2,rl,hrt,hrr,hD2⟩:=tbG.rl;have hml:m<ps.length:=(fO.mp hpm).1;have hrk:rows[m]?=some (rows[m]'(by omega)):=fG (by omega);have hb:=hrt _ (fX (show m<rows.length by omega));obtain⟨kn,kl,kin,ekey⟩:=hrr m u _ hpm hrk;rw[ekey] at hb;have hrv:(rows.map fun e=>V.ref e.2)[m]?=some (V.ref (rows[m]'(by omega)).2):=by rw[fL,hrk];rfl
  generalize (rows[m]'(by omega)).2=b at hb hrv;have hcu:=hc u (gj hpm);have oku:=aP.oks u (gj hpm);refine⟨_,rfl,r,_,dx2,_,_,rfl,ho2,T.av,T.aE,lkR,_,rfl,R,_,_,_,rfl,rfl,oj hR2,Zj hrv,?_⟩;refine⟨_,rfl,.inl ⟨RW,_,rfl,.inl (oj gR),_,rfl,_,rfl,PL,_,rfl,DPut.k (k:=.inl (m:Int)) gP (by rw[fJ];omega),?_⟩⟩;rw[lr];have tP:=Jh (o:=.dK (WF kp (.inl (m:Int)) (.int (j:Nat)))) gP;have s2P:W4 PL RW H3 (upd G PL (.dK (WF kp (.inl (m:Int)) (.int (j:Nat))))):=sG.upd1;have gP2:(upd G PL (.dK (WF kp (.inl (m:Int)) (.int (j:Nat))))) PL=some (.dK (WF kp (.inl (m:Int)) (.int (j:Nat)))):=Zd;have gR2:(upd G PL (.dK (WF kp (.inl (m:Int)) (.int (j:Nat))))) RW=some (.lst rv):=by rw[Zx (fT nPR)];exact gR
  have lk2:(WF kp (.inl (m:Int)) (.int (j:Nat))).length<=j+1:=fU (XI _ _ _) (by omega);have isn:∀x,x<j->is[x]?≠some m:=fun x hxj e=>by
   have h1:=nums.2 x m (ts[x]'(by omega)) e (fG (by omega));rw[hpm] at h1;have h2:=fY h1;rw[<- hue] at h2;have:=(iU tsn).mp h2;omega
  have pl2:∀(x q:Nat),x<j+1->is[x]?=some q->YW (WF kp (.inl (m:Int)) (.int (j:Nat))) (.inl (q:Int))=some (.int (x:Nat)):=fun x q hxj e=>by
   rw[kS]
   by_cases cx:x=j
   ·subst cx;rw[hm] at e;cases e;rw[if_pos rfl]
   ·have hx2:x<j:=by omega
    rw[if_neg (fun z=>isn x hx2 (by
     have:(q:Int)=(m:Int):=Sum.inl.inj z;rw[e];congr 1;omega))]
    exact pl x q hx2 e
  have gr2:∀(x:Nat) v u,rv[x]?=some v->ts[x]?=some u->yw K (upd G PL (.dK (WF kp (.inl (m:Int)) (.int (j:Nat))))) d st ts x v u:=fun x v u h1 h2=>(gr x v u h1 h2).mono tP;have hb2:=tP _ _ _ hb;generalize upd G PL (.dK (WF kp (.inl (m:Int)) (.int (j:Nat))))=G2 at s2P gP2 gR2 gr2 hb2 ⊢;generalize WF kp (.inl (m:Int)) (.int (j:Nat))=kp2 at gP2 lk2 pl2;clear tP gr pl lk gP gR sG hP2 aP hR2 hrt hrr hD2 hrv hrk ho2 tbG;have XH:∀(G3:Hp) (q:V),Ze G2 G3->yw K G3 d st ts j q u->∀z6 z7,WV (.ref RW) [q] G3 (fun _ G4=>∃(y6 y7:Option V) (kp:List (Key×V)) (rv:List V),[some (.ref w),some (.ref r),some (.int (i:Nat)),some (.ref tl),some (.ref PL),some (.ref RW),z6,z7]=[some (.ref w),some (.ref r),some (.int (i:Nat)),some (.ref tl),some (.ref PL),some (.ref RW),y6,y7]/\W4 PL RW H3 G4/\G4 PL=some (.dK kp)/\kp.length<=j+1/\(∀(x m:Nat),x<j+1->is[x]?=some m->YW kp (.inl (m:Int))=some (.int (x:Nat)))/\G4 RW=some (.lst rv)/\rv.length=j+1/\∀(x:Nat) v u,rv[x]?=some v->ts[x]?=some u->yw K G4 d st ts x v u):=fun G3 q s3' gq z6 z7=>by
   have gR3:=s3' _ _ gR2;refine⟨RW,_,_,rfl,rfl,gR3,by rw[lr,fJ];omega,_,_,kp2,rv++[q],rfl,(s2P.trans (Ze.two s3')).upd2,by rw[Zx nPR];exact s3' _ _ gP2,lk2,pl2,Zd,by rw[fK,lr];rfl,fun x v u' h1 h2=>?_⟩
   by_cases cx:x<rv.length
   ·rw[gm cx] at h1;exact(gr2 x v u' h1 h2).mono ((om s3').trans (Ww gR3))
   ·have hxl:=(fO.mp h1).1;rw[fK,gG] at hxl;have exj:x=j:=by omega
    subst exj;rw[gy (by omega),lr,g0] at h1;cases h1;rw[hu] at h2;cases h2;exact gq.mono (Ww gR3)
  have hkeep:=keep s2P
  by_cases cat:XG u=true
  ·-- an atom
   have arow:∃xs,SqT K G2 b (.str (Zy u.lb)::xs)/\Zy u.lb∈(["yes","sign","some"]:List Str)/\∀G3,Ze G2 G3->AtomRow K G3 st u b ((YW kv (.inl (m:Int))).getD .non):=by
    unfold XG at cat;cases el:u.lb with
    |yes=>
     rw[el] at hb2;exact⟨[],hb2,by simp[Zy],fun G3 s3'=>.inl ⟨el,om s3' _ _ _ hb2⟩⟩
    |sign z=>
     rw[el] at hb2;exact⟨[.str z],hb2,by simp[Zy],fun G3 s3'=>.inr (.inl ⟨z,el,om s3' _ _ _ hb2⟩)⟩
    |op w'=>
     rw[el] at cat hb2;have ew:=gi cat;subst ew;obtain⟨l,hv,hl,ll⟩:=told m u hpm hmem el;rw[hv];have k1:kn.length=1:=by
      rw[kl];rw[el] at oku;rcases oku with⟨_,h⟩|⟨h,_⟩
      ·exact h
      ·exact absurd h (by decide +kernel)
     obtain⟨m1,rfl⟩:∃m1,kn=[m1]:=by
      cases kn with
      |nil=>cases k1
      |cons x r=>cases r with
       |nil=>exact⟨x,rfl⟩
       |cons y s=>simp at k1
     exact⟨_,hb2,by simp[Zy],fun G3 s3'=>.inr (.inr ⟨el,⟨_,om s3' _ _ _ hb2⟩,l,rfl,(hkeep.trans s3') _ _ hl,ll⟩)⟩
    |wit m=>rw[el] at cat;cases cat
    |many w=>rw[el] at cat;cases cat
   obtain⟨xs,hrow,hin,har⟩:=arow;refine⟨_,rfl,b,_,_,_,rfl,rfl,hrow,Zj (j:=0) rfl,sz3,fun q hq=>?_⟩;obtain⟨G3,qN,u3,e3⟩:=ZL (o:=.tup [.str "yes",.str "sign",.str "some"]) hq;rw[qN];clear qN;refine⟨q,_,rfl,.inr (on e3),rfl,rfl,_,rfl,U9 (ss:=["yes","sign","some"]) hin ?_⟩;refine⟨_,rfl,.inl ⟨rfl,_,oj (u3 _ _ gR2)⟩,_,rfl,_,rfl,_,rfl,tl,rfl,?_,_,rfl,_,DGet.k (k:=.inl (m:Int)) ((hkeep.trans u3) _ _ htl),w,b,_,d,st,u,rfl,hw0.mono (hkeep.trans u3),n20,har G3 u3,fun G4 tb' u4 e4=>?_⟩
   ·exact .inl ⟨_,.inl ((hkeep.trans u3) _ _ htl)⟩
   refine⟨sz2,fun q2 hq2=>?_⟩;obtain⟨G5,qN,u5,e5⟩:=ZL (o:=.tup [.str "at",.ref tb']) hq2;rw[qN];clear qN;refine XH G5 (.ref q2) (u3.trans (u4.trans u5)) ?_ _ _;unfold yw;rw[if_pos cat];exact⟨q2,tb',rfl,on e5,on (u5 _ _ e4)⟩
  ·-- no atom
   have cat':XG u=false:=by simpa using cat
   have hbl:ZF u=u.ks:=by
    rcases Wg hcu oku cat' with⟨w',a1,rfl,h⟩|⟨w',a1,a2,rfl,h⟩|⟨a1,a2,rfl⟩
    ·unfold ZF
     show(if w' = "some" then[] else _)=_
     rw[if_neg (by rcases h with rfl|rfl|rfl<;>decide +kernel)]
    ·unfold ZF
     show(if w' = "some" then[] else _)=_
     rw[if_neg (by rcases h with rfl|rfl<;>decide +kernel)]
    ·rfl
   have hkey:SqT K G2 b (.str (Zy u.lb)::kn.map fun i:Nat=>V.int (i:Nat))/\Zy u.lb∉(["yes","sign","some"]:List Str)/\kn≠[]:=by
    rcases Wg hcu oku cat' with⟨w',a1,rfl,h⟩|⟨w',a1,a2,rfl,h⟩|⟨a1,a2,rfl⟩
    ·refine⟨?_,by(show w'∉(["yes","sign","some"]:List Str));(rcases h with rfl|rfl|rfl<;>decide +kernel),fun e=>by rw[e] at kl;cases kl⟩;have e:(WH (.op w') kn).map kV=.str w'::kn.map fun i:Nat=>V.int (i:Nat):=by show V.str w'::(nK kn).map kV=_;unfold nK;rw[gS];rfl
     have hb3:SqT K G2 b ((WH (.op w') kn).map kV):=hb2;rw[e] at hb3;exact hb3
    ·refine⟨?_,by(show w'∉(["yes","sign","some"]:List Str));(rcases h with rfl|rfl<;>decide +kernel),fun e=>by rw[e] at kl;cases kl⟩;have e:(WH (.op w') kn).map kV=.str w'::kn.map fun i:Nat=>V.int (i:Nat):=by show V.str w'::(nK kn).map kV=_;unfold nK;rw[gS];rfl
     have hb3:SqT K G2 b ((WH (.op w') kn).map kV):=hb2;rw[e] at hb3;exact hb3
    ·refine⟨?_,by(show("and" : Str)∉(["yes","sign","some"]:List Str));decide +kernel,fun e=>by rw[e] at kl;cases kl⟩;have e:(WH (.many "and") kn).map kV=.str "and" :: kn.map fun i:Nat=>V.int (i:Nat):=by show V.str "and" :: (nK kn).map kV=_;unfold nK;rw[gS];rfl
     have hb3:SqT K G2 b ((WH (.many "and") kn).map kV):=hb2;rw[e] at hb3;exact hb3
   obtain⟨hrow,hin,kne⟩:=hkey;have k8:=kids8 oku;have place:∀(x:Nat) kd q,u.ks[x]?=some kd->kn[x]?=some q->∃y:Nat,y<j/\ts[y]?=some kd/\is[y]?=some q:=fun x kd q h1 h2=>by
    have hq:=kin x kd q h1 h2;obtain⟨y,hy,ey⟩:=ord j u hu kd (by rw[hbl];exact gj h1);have hy2:is[y]?=some (is[y]'(by omega)):=fG (by omega);have:=nums.2 y _ kd hy2 ey;exact⟨y,hy,ey,by rw[hy2,yR tb.nd this hq]⟩
   refine⟨_,rfl,b,_,_,_,rfl,rfl,hrow,Zj (j:=0) rfl,sz3,fun q hq=>?_⟩;obtain⟨G3,qN,u3,e3⟩:=ZL (o:=.tup [.str "yes",.str "sign",.str "some"]) hq;rw[qN];clear qN;refine⟨q,_,rfl,.inr (on e3),rfl,rfl,_,rfl,Xr (ss:=["yes","sign","some"]) hin ?_⟩;refine⟨_,rfl,.inl ⟨rfl,_,oj (u3 _ _ gR2)⟩,_,rfl,b,_,_,_,rfl,rfl,om u3 _ _ _ hrow,Zj (j:=0) rfl,sz1,fun q1 hq1=>?_⟩;obtain⟨G4,qN,u4,e4⟩:=ZL (o:=.tup [.str (Zy u.lb)]) hq1;rw[qN];clear qN;have u34:=u3.trans u4;refine⟨_,rfl,1,rfl,b,_,rfl,om u34 _ _ _ hrow,?_,fun c hcN=>?_⟩
   ·intro⟨z1,_⟩;have:HT.sIx (V.str (Zy u.lb)::kn.map fun i:Nat=>V.int (i:Nat)).length 0 (some ((1:Nat):Int))=0:=z1;rw[HT.sIx_nat] at this;simp at this
   have ec:=Wd (V.str (Zy u.lb)::kn.map fun i:Nat=>V.int (i:Nat)) 1 (by simp);rw[show((1:Nat):Int)=1 from rfl] at ec;rw[ec];obtain⟨G5,qN,u5,e5⟩:=ZL (o:=.tup (kn.map fun i:Nat=>V.int (i:Nat))) hcN
   change upd G4 c (.tup ((V.str (Zy u.lb)::kn.map fun i:Nat=>V.int (i:Nat)).drop 1))=G5 at qN
   rw[qN];clear qN;have u35:=u34.trans u5;refine⟨c,rfl,⟨_,on e5⟩,fun Dc hDc=>?_⟩;have inKn:∀q∈kn,∃y:Nat,y<j/\is[y]?=some q:=fun q hqk=>by
    obtain⟨x,hx,e⟩:=gI hqk;obtain⟨y,h1,_,h3⟩:=place x _ q (fG (show x<u.ks.length by omega)) (by rw[fG hx,e]);exact⟨y,h1,h3⟩
   refine xL kn (fun i:Nat=>V.int (i:Nat)) (fun q:Nat=>(YW kp2 (.inl (q:Int))).getD .non) hDc (on e5) (by rw[kl,fJ];omega) ?_ ?_
   ·intro q hqk F N sF hN;obtain⟨y,hy,ey⟩:=inKn q hqk;have hv:=pl2 y q (by omega) ey;have hn:=hN F (.refl _);rw[hv] at hn;refine⟨_,rfl,_,rfl,PL,_,rfl,?_,hn⟩;have hg:=DGet.k (k:=.inl (q:Int)) ((u35.trans sF) _ _ gP2);rw[hv] at hg
    first|exact hg|(rw[hv];exact hg)
   intro G6 eD u6;refine⟨Dc,_,rfl,.inl ⟨oj eD,fun tt htt=>?_⟩⟩;obtain⟨G7,qN,u7,e7⟩:=ZL (o:=.tup (kn.map fun q:Nat=>(YW kp2 (.inl (q:Int))).getD .non)) htt;rw[qN];clear qN;have u47:=u5.trans (u6.trans u7);refine⟨q1,tt,_,_,rfl,rfl,on (u47 _ _ e4),on e7,by simp,by rw[fF,kl,fJ];show 1+u.ks.length<=16777216;omega,(fun h=>absurd (List.map_eq_nil_iff.mp h) kne),fun _ q9 hq9=>?_⟩;obtain⟨G8,qN,u8,e8⟩:=ZL (o:=.tup ([.str (Zy u.lb)]++kn.map fun q:Nat=>(YW kp2 (.inl (q:Int))).getD .non)) hq9;rw[qN];clear qN;refine XH G8 (.ref q9) (u34.trans (u47.trans u8)) ?_ _ _;unfold yw;rw[if_neg cat];have nums2:∀l:List Nat,(∀q∈l,∃y:Nat,y<j/\is[y]?=some q)->∃js:List Nat,js.length=l.length/\(l.map fun q:Nat=>(YW kp2 (.inl (q:Int))).getD .non)=js.map (fun y:Nat=>V.int (y:Nat))/\∀(x:Nat) y q,js[x]?=some y->l[x]?=some q->y<j/\is[y]?=some q:=by
    intro l
    induction l with
    |nil=>exact fun _=>⟨[],rfl,rfl,fun x y q h=>by simp at h⟩
    |cons q l ih=>
     intro h;obtain⟨y,hy,ey⟩:=h q iz;obtain⟨js,j1,j2,j3⟩:=ih fun q hq=>h q (gf _ hq);refine⟨y::js,by simp[j1],by rw[fZ,fZ,j2,pl2 y q (by omega) ey];rfl,fun x y' q' h1 h2=>?_⟩;cases x with
     |zero=>cases h1;cases h2;exact⟨hy,ey⟩
     |succ x=>exact j3 x y' q' h1 h2
   obtain⟨js,j1,j2,j3⟩:=nums2 kn inKn;rw[j2] at e8;refine⟨q9,js,rfl,on e8,by omega,fun x kd y h1 h2=>?_⟩;have hxk:x<kn.length:=by have:=(fO.mp h1).1;omega
   have hkx:kn[x]?=some kn[x]:=fG hxk;obtain⟨hy,ey⟩:=j3 x y _ h2 hkx;obtain⟨y2,hy2,et,ei2⟩:=place x kd _ h1 hkx;have h3:=nums.2 y _ (ts[y]'(by omega)) ey (fG (by omega));have h4:=kin x kd _ h1 hkx;rw[h4] at h3;refine⟨hy,?_⟩;rw[fG (show y<ts.length by omega)];exact h3.symm
 rintro U G ⟨z6,z7,kp,rv,rfl,sG,gP,lk,pl,gR,lr,gr⟩;refine⟨_,rfl,k G RW rv (keep sG) (s1.free hRW) gR ⟨lr,gr,fun u hmu=>?_⟩⟩;obtain⟨x,hx,e⟩:=gI hmu;have hm:is[x]?=some (is[x]'(by omega)):=fG (by omega);have hp:=nums.2 x _ u hm (by rw[fG hx,e]);have tbG:=tb.mono (keep sG);obtain⟨np,pv0,hP2,aP⟩:=tbG.pl;exact⟨hc u (gj hp),aP.oks u (gj hp)⟩
def VZ(K:W.Frag)(H:Hp)(sl:Addr)(st:Tr->List Int)(ss:List Tr):Prop:=∃xs:List V,H sl=some (.lst xs)/\xs.length=ss.length/\∀(i:Nat) v t,xs[i]?=some v->ss[i]?=some t->∃(b l:Addr) (e:V) (n:Nat),v=.ref b/\SqT K H b [e,.ref l]/\At K n H e t/\H l=some (.lst ((st t).map V.int))
def VZ.mono{K:W.Frag}{H H':Hp}{sl:Addr}{st:Tr->List Int}{ss:List Tr}(s:Ze H H')(h:VZ K H sl st ss):VZ K H' sl st ss:=by
 obtain⟨xs,h1,h2,h3⟩:=h;refine⟨xs,s _ _ h1,h2,fun i v t a b=>?_⟩;obtain⟨b,l,e,n,q1,q2,q3,q4⟩:=h3 i v t a b;exact⟨b,l,e,n,q1,om s _ _ _ q2,q3.mono (om s),s _ _ q4⟩
def TbK.updD{r P R F:Addr}(hF:H F=some (.dK kv))(h:TbK K Pm C H r P R D ps):TbK K Pm C (upd H F o) r P R D ps:=by
 obtain⟨⟨dx,h0⟩,⟨n,pv,h1,h2⟩,⟨rows,g1,g2,g3,g4,g5⟩,nd,pr⟩:=h;have u:YH H (upd H F o):=Jh hF;have ke:∀{b:Addr}{o':HO},H b=some o'->o'≠.dK kv->upd H F o b=some o':=fun {b o'} e n=>by rw[Zx (fun z=>by rw[z,hF] at e;exact n (fY e).symm)];exact e
 exact⟨⟨dx,ke h0 (by intro z;cases z)⟩,⟨n,pv,ke h1 (by intro z;cases z),h2.mono u⟩,⟨rows,ke g1 (by intro z;cases z),g2,fun e he=>u _ _ _ (g3 e he),g4,ke g5 (by intro z;cases z)⟩,nd,pr⟩
noncomputable def tkI(ps ss:List Tr)(i:Nat):List Tr:=Zk ps ((ss.take i).map post).flatten
def tkI_succ{t:Tr}(h:ss[i]?=some t):tkI ps ss (i+1)=Zk (tkI ps ss i) (post t):=by
 unfold tkI;rw[lO,h]
 show Zk ps ((ss.take i++[t]).map post).flatten=_
 rw[gb,mU,Z9]
 show Zk _ ([post t].flatten)=_
 rw[List.flatten_singleton]
def tkI_le(ps ss:List Tr)(i:Nat):(tkI ps ss i).length<=(Zk ps (ss.map post).flatten).length:=by
 unfold tkI;have e:(ss.map post).flatten=((ss.take i).map post).flatten++((ss.drop i).map post).flatten:=by rw[<- mU,<- gb,oh]
 rw[e,Z9];obtain⟨B,h⟩:=We ((ss.drop i).map post).flatten (Zk ps ((ss.take i).map post).flatten);rw[h,fK];omega
def mem_selfP(t:Tr):t∈post t:=YE _ (fE _) (qi t)
def tkI_mem{x:Nat}{t:Tr}(h:x<i)(hx:ss[x]?=some t):t∈tkI ps ss i:=by
 unfold tkI;rw[ZH];refine .inr (iH.mpr ⟨post t,l6 ?_,mem_selfP t⟩);exact mJ.mpr ⟨x,by rw[mM h];exact hx⟩
def kH(K:W.Frag)(a:Adr):Sp:=fun vs H Q _=>∃(r P R D sl:Addr) (ps:List Tr) (st:Tr->List Int) (ss:List Tr) (H0:Hp),vs=[.ref r,.ref sl]/\TbK K a.Pm a.C_Table H r P R D ps/\(Zk ps (ss.map post).flatten).length<4000/\Ze H0 H/\H0 P=none/\H0 R=none/\H0 D=none/\VZ K H0 sl st ss/\ss.length<4000/\(∀t∈ss,isC t=true/\psz t<=2000000)/\∀H' Dc kv,Ze H0 H'->TbK K a.Pm a.C_Table H' r P R D (Zk ps (ss.map post).flatten)->H' Dc=some (.dK kv)->(∀t∈ss,∀m:Nat,(Zk ps (ss.map post).flatten)[m]?=some t->∃l,YW kv (.inl (m:Int))=some (.ref l)/\H' l=some (.lst ((st t).map V.int)))->Q (.ref Dc) H'
def kE:Okd P w K mg base a 5 a.y18 a.z18 eg kH:=fun T hw=>by
 refine okF T.bJ.f jO fun de A outer s H vs Q E hr h=>?_;obtain⟨r,P,R,D,sl,ps,st,ss,H0,rfl,tb,pl,s0,hP0,hR0,hD0,⟨xs,hxs,lx,hat⟩,lss,hss,k⟩:=h;refine⟨_,(@Zh _ _ _ (@Zm _ _ _ _ (pe_dcompE (o0:=.dK []) (.inl rfl) (Nc:=dz) (ix:=[none,none,some 0]) (ZJ.of (by decide +kernel:ZO (Zg Vl) ["table","sets"] _ _ _=true)) (Yq.units0 hr) rfl (ZC (K:=K) rfl (pv 1)) (fun _ _ _ _ _=>(Wm (K:=K) (n:=2) rfl rfl (Yb (Zo (i:=0) (show List.Nodup dz by decide +kernel) rfl (.inl rfl)) (Yb (Zo (i:=1) (show List.Nodup dz by decide +kernel) rfl (.inl rfl)) Ws)))) (fun _ _ _ _ _=>Z0) (fun _ _ _ _ _=>(Wr (pv 2) T.av T.al.m (W5 T hw) (rmL hr rfl) T.al.n .nil Yy (@Za _ _ _ _ _ (pv 0) Zb rfl))) (fun _ _ _ _ _=>(pv 1))))),?_⟩;refine⟨_,rfl,sl,rfl,⟨_,oj (s0 _ _ hxs)⟩,fun Dc hDc=>?_⟩;have sB:∀{G G':Hp},Ze H0 G->Vp P R D G G'->Ze H0 G':=fun {G G'} s sb b o e=>sb _ _ (fun z=>by rw[z,hP0] at e;cases e) (fun z=>by rw[z,hR0] at e;cases e) (fun z=>by rw[z,hD0] at e;cases e) (s _ _ e);have hDc0:H0 Dc=none:=s0.free hDc;have tdc:=tb.mono (Zi (o:=.dK []) hDc);refine Jb (J:=Itl K sl) (n:=ss.length) (fun i U G=>∃(y1 y2:Option V) (kv:List (Key×V)),U=[y1,y2,some (.ref r)]/\Ze H0 G/\TbK K a.Pm a.C_Table G r P R D (tkI ps ss i)/\G Dc=some (.dK kv)/\kv.length<=i/\∀(x m:Nat) t,x<i->ss[x]?=some t->(tkI ps ss i)[m]?=some t->∃l,YW kv (.inl (m:Int))=some (.ref l)/\H0 l=some (.lst ((st t).map V.int))) ?_ ?_ ?_ ?_ ?_
 ·exact⟨_,_,[],rfl,s0.trans (Zi hDc),tdc,Zd,fE _,fun x m t h=>absurd h (Nat.not_lt_zero x)⟩
 ·rintro i U G hi ⟨y1,y2,kv,rfl,sG,_⟩;exact⟨_,_,oj (sG _ _ hxs),fG (by omega)⟩
 ·rintro U G ⟨y1,y2,kv,rfl,sG,_⟩;exact⟨_,oj (sG _ _ hxs),by omega⟩
 ·rintro i x U G0 G hi ⟨y1,y2,kv,rfl,sG,tG,gD,lk,hv⟩ ⟨rfl,hx⟩ N hN;have ex:=hx _ (oj (sG _ _ hxs));have hu:ss[i]?=some ss[i]:=fG hi;have hm:=fX hi;generalize ss[i]=t at hu hm;obtain⟨b,l,e,n,ev,hb,he,hl⟩:=hat i x t ex hu;subst ev;obtain⟨hc,hz⟩:=hss t hm;refine⟨b,_,rfl,om sG _ _ _ hb,rfl,_,_,rfl,_,_,rfl,rfl,?_⟩;obtain⟨dx,ho⟩:=tG.obj;have ea:=tkI_succ (ps:=ps) hu;refine⟨_,rfl,r,dx,_,rfl,ho,lkN (by decide +kernel) (by decide +kernel) (by decide +kernel),_,rfl,r,P,R,D,tkI ps ss i,e,t,n,rfl,tG,he.mono (om sG),hc,hz,by rw[<- ea];exact ii (tkI_le ps ss _) pl,fun G1 m s1 t1 hm1=>?_⟩;rw[<- ea] at t1 hm1;have gD1:G1 Dc=some (.dK kv):=by
   obtain⟨np,pv0,h1,_⟩:=tG.pl;obtain⟨rows,h2,_,_,_,h3⟩:=tG.rl;exact s1 _ _ (fun z=>by rw[z,h1] at gD;cases gD) (fun z=>by rw[z,h2] at gD;cases gD) (fun z=>by rw[z,h3] at gD;cases gD) gD
  have sG1:=sB sG s1;refine⟨_,rfl,_,DPut.k (k:=.inl (m:Int)) gD1 (by rw[fJ];omega),hN _ _ ⟨_,_,_,rfl,fun b' o' e'=>?_,TbK.updD gD1 t1,Zd,fU (XI _ _ _) (by omega),fun x' m' t' hx' hs' hp'=>?_⟩⟩
  ·rw[Zx (fun z=>by rw[z,hDc0] at e';cases e')];exact sG1 _ _ e'
  ·rw[kS]
   by_cases cm:m'=m
   ·subst cm;rw[if_pos rfl];rw[hm1] at hp';cases hp';exact⟨l,rfl,hl⟩
   ·rw[if_neg (fun z=>cm (by have:(m':Int)=(m:Int):=Sum.inl.inj z;omega))];have go:x'<i->∃l,YW kv (.inl (m':Int))=some (.ref l)/\H0 l=some (.lst ((st t').map V.int)):=fun hxi=>by
     obtain⟨m2,hm2,e2⟩:=gI (tkI_mem (ps:=ps) hxi hs');have e3:(tkI ps ss i)[m2]?=some t':=by rw[fG hm2,e2]
     obtain⟨B,eB⟩:=We (post t) (tkI ps ss i);have e4:(tkI ps ss (i+1))[m2]?=some t':=by rw[ea,eB,gm hm2];exact e3
     obtain rfl:=yR t1.nd hp' e4;exact hv x' _ t' hxi hs' e3
    apply go;have:x'≠i:=fun z=>by
     rw[z,hu] at hs';cases hs';exact cm (yR t1.nd hp' hm1)
    omega
 rintro U G ⟨y1,y2,kv,rfl,sG,tG,gD,lk,hv⟩;have et:tkI ps ss ss.length=Zk ps (ss.map post).flatten:=by unfold tkI;rw[iP]
 rw[et] at tG hv;refine k G Dc kv sG tG gD fun t ht m hp=>?_;obtain⟨x,hx,e⟩:=gI ht;obtain⟨l,h1,h2⟩:=hv x m t hx (by rw[fG hx,e]) hp;exact⟨l,h1,sG _ _ h2⟩
def yL{t:Tr}(hc:isC t=true):∀s∈Zk [] (post t),isC s=true:=fun s hs=>by
 rcases ZH.mp hs with h|h
 ·cases h
 ·exact VG _ (fE _) hc h
def own_same{x:Addr}{o':HO}(h1:H x=none)(h2:H dx=none):Ze H (upd (upd H dx o) x o'):=fun b u e=>by
 rw[Zx (ZT e h1),Zx (ZT e h2)];exact e
structure SetsOf(K:W.Frag)(H:Hp)(sl:Addr)(st:Tr->List Int)(t:Tr)(ss:List Tr):Prop where
 at_:VZ K H sl st ss
 few:ss.length<4000
 sub:∀s∈ss,isC s=true/\psz s<=2000000
 room:(Zk (Zk [] (post t)) (ss.map post).flatten).length<4000
 short:∀s∈ss,(st s).length<=1000
 all:∀s∈Zk [] (Zp t),s.lb=.op "some" -> s∈ss
def jK(K:W.Frag)(a:Adr):Sp:=fun vs H Q _=>∃(w sl:Addr) (v:V) (n:Nat) (t:Tr) (d:WD) (st:Tr->List Int) (ss:List Tr),vs=[.ref w,v,.ref sl]/\ZX a.C_World H w d/\d.signs.length<=20/\At K n H v t/\isC t=true/\psz t<=2000000/\(Zk [] (post t)).length<4000/\SetsOf K H sl st t ss/\∀H' q rv,Ze H H'->H q=none->H' q=some (.lst rv)->Grnd K H' d st (Zk [] (Zp t)) rv->Q (.ref q) H'
def kr:Okd P w K mg base a 6 a.y17 a.z17 eh jK:=fun T hw=>by
 refine okF T.bH.f VV fun de A outer s H vs Q E hr h=>?_;obtain⟨w,sl,v,n,t,d,st,ss,rfl,hw0,n20,hat,hc,hz,hfew,⟨hs,ls,hsub,hroom,hsh,hall⟩,k⟩:=h;refine⟨_,(@Zc _ _ _ _ _ (@Zn _ _ (3) _ _ _ _ VV.nd rfl (.inl rfl) (pe_make0 T.cA (vg T hw) (rmL hr rfl) rfl T.cK T.bu.n .nil Yy) rfl (.inl rfl)) (@Zc _ _ _ _ _ (@Zn _ _ (4) _ _ _ _ VV.nd rfl (.inl rfl) (Wr (pv 3) T.av T.al.m (W5 T hw) (rmL hr rfl) T.al.n .nil Yy (@Za _ _ _ _ _ (pv 1) Zb rfl)) rfl (.inl rfl)) (@Zh _ _ _ (@Zm _ _ _ _ (ZA T.bn (xP T hw) hr rfl rfl (@Zq _ _ _ _ _ (pv 0) (@Zq _ _ _ _ _ (pv 3) (@Zq _ _ _ _ _ (pv 4) (@Zq _ _ _ _ _ (ZA T.bJ (kE T hw) hr rfl rfl (@Za _ _ _ _ _ (pv 3) (@Za _ _ _ _ _ (pv 2) Zb rfl) rfl)) Zb rfl) rfl) rfl) rfl)))))),?_⟩;have hfewB:(Zk [] (Zp t)).length<4000:=ii (xh t) hfew;refine fun x dx nx ndx nex=>⟨x,dx,rfl,Zd,fun H1 P R D x1 hP hR hD nP nR nD tb1=>⟨rfl,?_⟩⟩;have s0:=own_same (o:=.own x) (o':=.ins a.C_Table dx []) nx ndx;have s1:Ze H H1:=fun b u e=>x1 _ _ (ZT e nx) (s0 _ _ e);have fr:∀{c:Addr},(upd (upd H dx (.own x)) x (.ins a.C_Table dx [])) c=none->H c=none:=fun h=>s0.free h;have hP0:=fr hP;have hR0:=fr hR;have hD0:=fr hD;obtain⟨dx1,ho1⟩:=tb1.obj;refine⟨_,rfl,x,dx1,_,rfl,ho1,lkN (by decide +kernel) (by decide +kernel) (by decide +kernel),_,rfl,x,P,R,D,[],v,t,n,rfl,tb1,hat.mono (om s1),hc,hz,hfew,fun H2 i b2 tb2 hi=>?_⟩;have s2:Ze H H2:=fun b u e=>b2 _ _ (ZT e hP0) (ZT e hR0) (ZT e hD0) (s1 _ _ e);refine⟨_,rfl,_,rfl,_,rfl,_,rfl,_,rfl,x,P,R,D,sl,_,st,ss,H,rfl,tb2,hroom,s2,hP0,hR0,hD0,hs,ls,hsub,fun H3 Dc kv s3 tb3 hDc hv=>?_⟩;have hcs:∀s∈Zk (Zk [] (post t)) (ss.map post).flatten,isC s=true:=fun s hs=>by
  rcases ZH.mp hs with h|h
  ·exact yL hc s h
  ·obtain⟨l,hl,hx⟩:=iH.mp h;obtain⟨u,hu,rfl⟩:=gn.mp hl;exact VG _ (fE _) (hsub u hu).1 hx
 have hi2:(Zk (Zk [] (post t)) (ss.map post).flatten)[i]?=some t:=by
  obtain⟨B,e⟩:=We (ss.map post).flatten (Zk [] (post t));rw[e,gm (fO.mp hi).1];exact hi
 refine⟨w,x,P,R,D,Dc,i,_,t,d,st,kv,rfl,hw0.mono s3,n20,tb3,hi2,hcs,hz,hfewB,hDc,fun m s hp hm he=>?_,fun H4 q rv s4 q0 hq g=>k H4 q rv (s3.trans s4) (s3.free q0) hq g⟩;have h:=hall s hm he;obtain⟨l,h1,h2⟩:=hv s h m hp;exact⟨l,h1,h2,hsh s h⟩
structure Rd(K:W.Frag)(a:Adr)(H:Hp)(w rn sl:Addr)(v:V)(d:WD)(way ring:List Int)(t:Tr)(st:Tr->List Int):Prop where
 w:ZX a.C_World H w d
 n20:d.signs.length<=20
 run:qg H rn d.signs.length way ring
 core:∃n,At K n H v t
 c:isC t=true
 sz:psz t<=2000000
 few:(Zk [] (post t)).length<4000
 sets:∃ss,SetsOf K H sl st t ss
 room:(way++ring).length+(Zk [] (post t)).length*(ring.length+1)<=50000
def vE(K:W.Frag)(a:Adr):Sp:=fun vs H Q _=>∃(w rn sl:Addr) (v:V) (m:Nat) (t:Tr) (d:WD) (st:Tr->List Int) (way ring:List Int),vs=[.ref w,.ref rn,v,.ref sl,.int (m:Nat)]/\Rd K a H w rn sl v d way ring t st/\m<=50000/\∀H' q,Ze H H'->H q=none->H' q=some (.lst (((List.range m).map (Z4 d st (Xj way ring) t)).map V.bl))->Q (.ref q) H'
def Y4:Okd P w K mg base a 7 a.y16 a.z16 eG vE:=fun T hw=>by
 refine okF T.az.f vz fun de A outer s H vs Q E hr h=>?_;obtain⟨w,rn,sl,v,m,t,d,st,way,ring,rfl,⟨hw0,n20,hrun,⟨n,hat⟩,hc,hz,hfew,⟨ss,hss⟩,hroom⟩,hm,k⟩:=h;refine⟨_,(@Zh _ _ _ (@Zm _ _ _ _ (ZA T.bK (jN T hw) hr rfl rfl (@Zq _ _ _ _ _ (ZA T.bH (kr T hw) hr rfl rfl (@Zq _ _ _ _ _ (pv 0) (@Zq _ _ _ _ _ (pv 2) (@Zq _ _ _ _ _ (pv 3) Zb rfl) rfl) rfl)) (@Zq _ _ _ _ _ (pv 1) (@Zq _ _ _ _ _ (pv 4) Zb rfl) rfl) rfl)))),?_⟩;obtain⟨ts,ets⟩:=vR t;have hfB:=xh t;refine⟨_,rfl,_,rfl,_,rfl,w,sl,v,n,t,d,st,ss,rfl,hw0,n20,hat,hc,hz,hfew,hss,fun H1 R rv s1 R0 hR g=>?_⟩;rw[ets] at g hfB;rw[fK,gG] at hfB;refine⟨_,rfl,_,rfl,R,rn,m,rv,ts,t,d,st,way,ring,rfl,hR,g,hrun.mono s1,hm,fU (Nat.add_le_add_left (oi _ hfB) _) hroom,fun H2 q s2 q0 hq=>k H2 q (s1.trans s2) (s1.free q0) hq⟩
def cS(K:W.Frag)(a:Adr):Sp:=fun vs H Q _=>∃(w rn sl:Addr) (v:V) (t:Tr) (d:WD) (st:Tr->List Int) (way ring:List Int),vs=[.ref w,.ref rn,v,.ref sl]/\Rd K a H w rn sl v d way ring t st/\∀H',Ze H H'->Q (.bl (Z4 d st (Xj way ring) t 0)) H'
def cT:Okd P w K mg base a 8 a.y15 a.z15 eI cS:=fun T hw=>by
 refine okF T.cF.f cO fun de A outer s H vs Q E hr h=>?_;obtain⟨w,rn,sl,v,t,d,st,way,ring,rfl,rd,k⟩:=h;refine⟨_,(@Zh _ _ _ (@Zm _ _ _ _ (@Zv _ _ _ _ _ _ _ (Zr (K:=K) rfl) (ZA T.az (Y4 T hw) hr rfl rfl (@Zq _ _ _ _ _ (pv 0) (@Zq _ _ _ _ _ (pv 1) (@Zq _ _ _ _ _ (pv 2) (@Zq _ _ _ _ _ (pv 3) (@Zq _ _ _ _ _ Zf Zb rfl) rfl) rfl) rfl) rfl)) Zf (fun _ _=>rfl)))),?_⟩;exact⟨_,rfl,_,rfl,_,rfl,_,rfl,w,rn,sl,v,1,t,d,st,way,ring,rfl,rd,by decide,fun H1 q s1 q0 hq=>⟨q,_,_,_,rfl,rfl,oj hq,Zj (j:=0) rfl,k H1 s1⟩⟩
def YV(H:Hp)(s:Addr)(n:Nat):Prop:=∃(x y:Int) (z:Nat),H s=some (.lst [.int x,.int y,.int (z:Nat)])/\0<=x/\0<=y/\y<2147483647/\z<=n
def YV.mono{s:Addr}(h:Ze H H')(k:YV H s n):YV H' s n:=by
 obtain⟨x,y,z,e,r⟩:=k;exact⟨x,y,z,h _ _ e,r⟩
def YV.lst{H:Hp}{s:Addr}{n:Nat}(k:YV H s n):∃xs,H s=some (.lst xs):=by
 obtain⟨x,y,z,e,r⟩:=k;exact⟨_,e⟩
def YV.le{s:Addr}{m:Nat}(k:YV H s n)(h:n<=m):YV H s m:=by
 obtain⟨x,y,z,e,r1,r2,r3,r4⟩:=k;exact⟨x,y,z,e,r1,r2,r3,fU r4 h⟩
def YV.updN{s:Addr}(h:D≠s)(k:YV H s n):YV (upd H D o) s n:=by
 obtain⟨x,y,z,e,r⟩:=k;exact⟨x,y,z,by rw[Zx (fT h)];exact e,r⟩
def vm(K:W.Frag)(a:Adr):Sp:=fun vs H Q _=>∃c:Int,vs=[.int c]/\∀H' s,Ze H H'->H s=none->YV H' s 0->Q (.ref s) H'
def VA:Okd P w K mg base a 1 a.y40 a.z40 ["_law_cell"] vm:=fun T hw=>by
 refine okF T.aQ.f vb fun de A outer s H vs Q E hr h=>?_;obtain⟨c,rfl,k⟩:=h;refine⟨_,(@Zh _ _ _ (@Zm _ _ _ _ (@ZW _ _ _ _ (@Zq _ _ _ _ _ (Zl (vJ rfl) rfl T.cQ PyProof.Rows.Boot.«max» (@Za _ _ _ _ _ Zf (@Za _ _ _ _ _ (@ZP _ _ _ _ _ _ _ _ Vb (pv 0) (@ZP _ _ _ _ _ _ _ _ op_pow Zf Zf)) Zb rfl) rfl)) (@Zq _ _ _ _ _ (@ZP _ _ _ _ _ _ _ _ Um (pv 0) Zf) (@Zq _ _ _ _ _ Zf Zb rfl) rfl) rfl)))),?_⟩;refine⟨_,rfl,_,_,rfl,rfl,⟨by decide,by decide,by decide⟩,_,_,rfl,rfl,_,_,rfl,_,rfl,_,_,rfl,rfl,by decide,sz3,fun l hl=>?_⟩;obtain⟨H1,qN,s1,e1⟩:=ZL (o:=.lst [.int (if c-10 ^ (6:Int).toNat>0 then c-10 ^ (6:Int).toNat else 0),.int (c%2147483647),.int 0]) hl;rw[qN];have y0:=l8 c (show(2147483647:Int)≠0 by decide);have y1:=l9 c (show(0:Int)<2147483647 by decide);exact k H1 l s1 hl ⟨_,_,0,e1,by split<;>omega,y0,y1,fE _⟩
def U7(K:W.Frag)(a:Adr):Sp:=fun vs H Q _=>∃(s:Addr) (b n:Nat),vs=[.ref s,.int (b:Nat)]/\YV H s n/\n<100000/\0<b/\b<=1000/\∀H' (r:Nat),Zs s H H'->YV H' s (n+1)->r<b->Q (.int (r:Nat)) H'
def ZE:Okd P w K mg base a 1 a.y41 a.z41 eJ U7:=fun T hw=>by
 refine okF T.aa.f Wo fun de A outer s H vs Q E hr h=>?_;obtain⟨s,b,n,rfl,⟨x,y,z,hs,x0,y0,y1,zn⟩,nb,b0,b1,k⟩:=h;refine⟨_,(@Zc _ _ _ _ _ (@ZZ _ _ _ _ _ _ _ _ (@Zw _ _ _ _ _ _ _ _ op_gt (@Zv _ _ _ _ _ _ _ (Zr (K:=K) rfl) (pv 0) Zf (fun _ _=>rfl)) Zf (ZI _)) (@Zc _ _ _ _ _ (@Zn _ _ (2) _ _ _ _ Wo.nd rfl (.inl rfl) (@ZP _ _ _ _ _ _ _ _ Um (@Zv _ _ _ _ _ _ _ (Zr (K:=K) rfl) (pv 0) Zf (fun _ _=>rfl)) (pv 1)) rfl (.inl rfl)) (@Zc _ _ _ _ _ (j9 (@ZP _ _ _ _ _ _ _ _ US (@Zv _ _ _ _ _ _ _ (Zr (K:=K) rfl) (pv 0) Zf (fun _ _=>rfl)) (pv 1)) (pv 0) Zf) (@Zh _ _ _ (@Zm _ _ _ _ (pv 2))))) ZD) (@Zc _ _ _ _ _ (j9 (@ZP _ _ _ _ _ _ _ _ Xl (@Zv _ _ _ _ _ _ _ (Zr (K:=K) rfl) (pv 0) Zf (fun _ _=>rfl)) Zf) (pv 0) Zf) (@Zc _ _ _ _ _ (@Zn _ _ (3) _ _ _ _ Wo.nd rfl (.inl rfl) (@ZP _ _ _ _ _ _ _ _ Um (@ZP _ _ _ _ _ _ _ _ xo (@ZP _ _ _ _ _ _ _ _ Xl (@ZP _ _ _ _ _ _ _ _ Xl (@Zv _ _ _ _ _ _ _ (Zr (K:=K) rfl) (pv 0) Zf (fun _ _=>rfl)) (@ZP _ _ _ _ _ _ _ _ xo Zf (@Zv _ _ _ _ _ _ _ (Zr (K:=K) rfl) (pv 0) Zf (fun _ _=>rfl)))) Zf) Zf) Zf) rfl (.inl rfl)) (@Zc _ _ _ _ _ (@Zn _ _ (3) _ _ _ _ Wo.nd rfl (.inl rfl) (@ZP _ _ _ _ _ _ _ _ Um (@ZP _ _ _ _ _ _ _ _ xo (pv 3) (@ZP _ _ _ _ _ _ _ _ Xl (@ZP _ _ _ _ _ _ _ _ US (pv 3) Zf) Zf)) Zf) rfl (.inl rfl)) (@Zh _ _ _ (@Zm _ _ _ _ (@ZP _ _ _ _ _ _ _ _ Um (@ZP _ _ _ _ _ _ _ _ Um (@ZP _ _ _ _ _ _ _ _ xo (pv 3) (@ZP _ _ _ _ _ _ _ _ Xl (@ZP _ _ _ _ _ _ _ _ US (pv 3) Zf) Zf)) Zf) (pv 1)))))))),?_⟩;have bI:(0:Int)<(b:Nat):=by omega
 refine⟨_,rfl,s,_,_,_,rfl,rfl,oj hs,Zj (j:=0) rfl,_,_,rfl,rfl,_,rfl,XN (fun c=>?_) (fun c=>?_)⟩
 ·have x1:0<x:=gi c;refine⟨_,rfl,s,_,_,_,rfl,rfl,oj hs,Zj (j:=0) rfl,_,rfl,_,_,rfl,rfl,bI,?_⟩;refine⟨_,rfl,s,_,_,_,rfl,rfl,oj hs,Zj (j:=0) rfl,_,rfl,_,_,rfl,rfl,⟨bI,by omega⟩,_,rfl,s,_,0,rfl,rfl,hs,by simp,_,rfl,?_⟩;have m0:=l8 x (show((b:Nat):Int)≠0 by omega);have m1:=l9 x bI;have e:x%(b:Nat)=((x%(b:Nat)).toNat:Int):=by omega
  rw[e];exact k _ _ (Zs.upd (Ze.x (.refl _))) ⟨x/(b:Nat),y,z,Zd,Int.ediv_nonneg x0 (by omega),y0,y1,by omega⟩ (by omega)
 ·refine⟨_,rfl,s,_,_,_,rfl,rfl,oj hs,Zj (j:=2) rfl,_,_,rfl,rfl,_,rfl,s,_,2,rfl,rfl,hs,by simp,?_⟩;have e2:((z:Nat):Int)+1=((z+1:Nat):Int):=by omega
  rw[e2];obtain⟨H1,qN⟩:∃H1,upd H s (.lst ([V.int x,.int y,.int (z:Nat)].set 2 (.int ((z+1:Nat):Int))))=H1:=⟨_,rfl⟩;have sx:Zs s H H1:=by rw[<- qN];exact Zs.upd (Ze.x (.refl _))
  have h1:H1 s=some (.lst [.int x,.int y,.int ((z+1:Nat):Int)]):=by rw[<- qN];exact Zd
  rw[qN];refine⟨_,rfl,s,_,_,_,rfl,rfl,oj h1,Zj (j:=1) rfl,_,rfl,s,_,_,_,rfl,rfl,oj h1,Zj (j:=2) rfl,_,_,rfl,rfl,.inl ⟨by decide,by decide⟩,_,_,rfl,rfl,_,_,rfl,rfl,_,_,rfl,rfl,.inr ⟨by decide,by decide⟩,_,_,rfl,rfl,by decide,?_⟩;have a0:=l8 ((y+7919*((z+1:Nat):Int)+1)*48271) (show(2147483647:Int)≠0 by decide);have a1:=l9 ((y+7919*((z+1:Nat):Int)+1)*48271) (show(0:Int)<2147483647 by decide);generalize (y+7919*((z+1:Nat):Int)+1)*48271%2147483647=u at a0 a1 ⊢;refine⟨_,rfl,_,rfl,_,_,rfl,rfl,⟨by decide,by decide⟩,_,_,rfl,rfl,_,_,rfl,rfl,.inl ⟨by omega,by omega⟩,_,_,rfl,rfl,by decide,?_⟩;have b0':=l8 (u*(u/1009+69621)) (show(2147483647:Int)≠0 by decide);have b1':=l9 (u*(u/1009+69621)) (show(0:Int)<2147483647 by decide);generalize u*(u/1009+69621)%2147483647=v at b0' b1' ⊢;refine⟨_,rfl,_,rfl,_,_,rfl,rfl,⟨by decide,by decide⟩,_,_,rfl,rfl,_,_,rfl,rfl,.inl ⟨by omega,by omega⟩,_,_,rfl,rfl,by decide,_,rfl,_,_,rfl,rfl,bI,?_⟩;generalize v*(v/2003+40692)%2147483399=u2;have m0:=l8 u2 (show((b:Nat):Int)≠0 by omega);have m1:=l9 u2 bI;have e:u2%(b:Nat)=((u2%(b:Nat)).toNat:Int):=by omega
  rw[e];exact k _ _ sx ⟨x,y,z+1,h1,x0,y0,y1,by omega⟩ (by omega)
def yq(K:W.Frag)(a:Adr):Sp:=fun vs H Q _=>∃(p:Addr) (ns:List Int) (j:Nat),vs=[.ref p,.int (j:Nat)]/\SqL K H p (ns.map V.int)/\∀n:Int,Q (.int n) H
def YD:Okd P w K mg base a 1 a.y39 a.z39 eM yq:=fun T hw=>by
 refine okF T.ak.f yr fun de A outer s H vs Q E hr h=>?_;obtain⟨p,ns,j,rfl,hq,k⟩:=h;refine⟨_,(@Zc _ _ _ _ _ (@ZZ _ _ _ _ _ _ _ _ (@Zw _ _ _ _ _ _ _ _ vZ (pv 1) (Zl (Zu (K:=K) rfl) rfl T.ay ox (@Za _ _ _ _ _ (pv 0) Zb rfl)) (ZI _)) (@Zh _ _ _ (@Zm _ _ _ _ (@Zv _ _ _ _ _ _ _ (Zr (K:=K) rfl) (pv 0) (pv 1) (fun _ _=>rfl)))) ZD) (@Zh _ _ _ (@Zm _ _ _ _ Zf))),?_⟩;refine⟨_,rfl,_,rfl,.inl ⟨p,_,rfl,.inl hq,_,_,rfl,rfl,_,rfl,?_⟩⟩;refine XN (fun c=>?_) (fun _=>k 0);have hj:j<ns.length:=by have:=gi c;rw[fF] at this;omega
 exact⟨_,rfl,_,rfl,p,_,_,_,rfl,rfl,hq,Zj (at_of hj),k _⟩
def yu(K:W.Frag)(a:Adr):Sp:=fun vs H Q _=>∃(p q:Addr) (L M:List Bool) (k:Nat),vs=[.ref p,.ref q,.int (k:Nat)]/\H p=some (.lst (L.map V.bl))/\H q=some (.lst (M.map V.bl))/\k<L.length/\k<M.length/\Q (.bl (Xd (fun i=>L.getD i false) (fun i=>M.getD i false) k)) H
def sinV(f s:Nat->Bool):Nat->Bool
 |0=>false
 |i+1=>Xd f s i
def sinV_step(f s:Nat->Bool)(i:Nat):sinV f s (i+1)=(s i||(f i&&sinV f s i)):=by
 cases i with
 |zero=>show s 0=(s 0||(f 0&&false));rw[Bool.and_false,Bool.or_false]
 |succ i=>rfl
def getD_at{k:Nat}(h:k<L.length):atI (L.map V.bl) (k:Int)=some (.bl (L.getD k false)):=Zj (by
 rw[fL,fG h,i6,fG h];rfl)
def yt:Okd P w K mg base a 1 a.y48 a.z48 eN yu:=fun T hw=>by
 refine okF T.ba.f Uu fun de A outer s H vs Q E hr h=>?_;obtain⟨p,q,L,M,k,rfl,hp,hq,kl,km,kk⟩:=h;refine⟨_,(@Zc _ _ _ _ _ (VN gJ (@Zw _ _ _ _ _ _ _ _ op_ge (pv 2) Zf (ZI _)) (@Zc _ _ _ _ _ (@ZZ _ _ _ _ _ _ _ _ (Xf (@Zv _ _ _ _ _ _ _ (Zr (K:=K) rfl) (pv 1) (pv 2) (fun _ _=>rfl))) (@Zh _ _ _ (@Zm _ _ _ _ YR)) ZD) (@Zc _ _ _ _ _ (@ZZ _ _ _ _ _ _ _ _ (@YY _ _ _ _ (Xf (@Zv _ _ _ _ _ _ _ (Zr (K:=K) rfl) (pv 0) (pv 2) (fun _ _=>rfl)))) (@Zh _ _ _ (@Zm _ _ _ _ YR)) ZD) (@Zh _ _ _ (@Zn _ _ (2) _ _ _ _ Uu.nd rfl (.inl rfl) (@ZP _ _ _ _ _ _ _ _ Vb (pv 2) Zf) rfl (.inl rfl)))))) (@Zh _ _ _ (@Zm _ _ _ _ YR))),?_⟩;refine⟨fun m U G=>U=[some (.ref p),some (.ref q),some (.int ((m:Nat)-1:Int))]/\G=H/\m<=k+1/\sinV (fun i=>L.getD i false) (fun i=>M.getD i false) m=Xd (fun i=>L.getD i false) (fun i=>M.getD i false) k,⟨k+1,by rw[show((k+1:Nat):Int)-1=(k:Int) by omega];rfl,rfl,fE _,rfl⟩,?_⟩;rintro m U G ⟨rfl,rfl,hm,hv⟩;refine⟨_,rfl,_,_,rfl,rfl,_,rfl,XN (fun c=>?_) (fun c=>?_)⟩
 ·have hc:=gi c;obtain⟨i,rfl⟩:∃i,m=i+1:=⟨m-1,by omega⟩;have ei:((i+1:Nat):Int)-1=(i:Int):=by omega
  rw[ei];rw[sinV_step] at hv;refine⟨fun σ' G'=>σ'=[some (.ref p),some (.ref q),some (.int ((i:Nat)-1:Int))]/\G'=G/\sinV (fun i=>L.getD i false) (fun i=>M.getD i false) i=Xd (fun i=>L.getD i false) (fun i=>M.getD i false) k,fun σ' G' h=>⟨i,by omega,h.1,h.2.1,by omega,h.2.2⟩,?_⟩;refine⟨_,rfl,_,rfl,q,_,_,_,rfl,rfl,oj hq,getD_at (by omega),_,rfl,XN (fun c1=>?_) (fun c1=>?_)⟩
  ·rw[c1,mD] at hv;rw[<- hv] at kk;exact kk
  have c1':M.getD i false=false:=by simpa using c1
  rw[c1',iS] at hv;refine⟨_,rfl,_,rfl,p,_,_,_,rfl,rfl,oj hp,getD_at (by omega),_,rfl,XN (fun c2=>?_) (fun c2=>?_)⟩
  ·have c2':L.getD i false=false:=by simpa using c2
   rw[c2',iM] at hv;rw[<- hv] at kk;exact kk
  have c2':L.getD i false=true:=by simpa using c2
  rw[c2',i5] at hv;exact⟨_,rfl,_,_,rfl,rfl,rfl,rfl,hv⟩
 ·have hc:¬(0:Int)<=(m:Int)-1:=fun z=>c (gO z);obtain rfl:m=0:=by omega
  rw[show sinV (fun i=>L.getD i false) (fun i=>M.getD i false) 0=false from rfl] at hv;rw[<- hv] at kk;exact kk
def vp(K:W.Frag)(a:Adr):Sp:=fun vs H Q _=>∃(p q:Addr) (L M:List Bool) (f s:Nat->Bool) (n c:Nat),vs=[.ref p,.ref q,.int (c:Nat)]/\H p=some (.lst (L.map V.bl))/\H q=some (.lst (M.map V.bl))/\L.length=n/\M.length=n/\n<=100000/\c<n/\(∀k,k<n->L[k]?=some (f k))/\(∀k,k<n->M[k]?=some (s k))/\Y3 f s false c (n-c)=XD f s n/\∀H' D,Ze H H'->H D=none->H' D=some (.lst (((List.range n).map (XD f s)).map V.bl))->Q (.ref D) H'
def kQ(h:i<n):(((L3.upTo (n:Int)).map V.int).reverse)[i]?=some (V.int ((n-1-i:Nat):Int)):=by
 rw[mS (by rw[xK];exact h),xK];unfold L3.upTo;rw[fL,fL,i7 (by omega)];rfl
def set_back{s:Nat->Bool}{h:Bool}{F:List Bool}(hi:i<n)(lF:F.length=n)(hF:∀k,n-i<=k->k<n->F[k]?=some (Y3 f s h k (n-k))) :
  ∀k,n-(i+1)<=k->k<n->(F.set (n-1-i) (Y3 f s h (n-(i+1)) (i+1)))[k]?=some (Y3 f s h k (n-k)):=fun k h1 h2=>by
 by_cases c:k=n-1-i
 ·subst c;rw[nQ (by omega),show n-(n-1-i)=i+1 by omega,show n-(i+1)=n-1-i by omega]
 ·rw[nU (by omega)];exact hF k (by omega) h2
def vc:Okd P w K mg base a 1 a.y49 a.z49 eO vp:=fun T hw=>by
 refine okF T.bx.f YK fun de A outer s H vs Q E hr h=>?_;obtain⟨p,q,L,M,f,s,n,c,rfl,hp,hq,lL,lM,ln,cn,hf,hs,hu,k⟩:=h;refine⟨_,(@Zc _ _ _ _ _ (YQ (i:=3) YK.nd rfl rfl (Nc:=dj) (ix:=[none]) (ZJ.of (by decide +kernel:ZO (Zg WT) zk _ _ _=true)) rfl (ZC (K:=K) rfl (pv 0)) (fun _ _ _ _ _=>(Zo (i:=0) (show List.Nodup dj by decide +kernel) rfl (.inl rfl))) (fun _ _ _ _ _=>Z0) (fun _ _ _ _ _=>YR)) (@Zc _ _ _ _ _ (@Zn _ _ (4) _ _ _ _ YK.nd rfl (.inl rfl) YR rfl (.inl rfl)) (@Zc _ _ _ _ _ (Xk gJ rfl (Y8 rfl T.aJ (@Za _ _ _ _ _ Zf Zb rfl)) (Zo (i:=5) YK.nd rfl (.inl rfl)) (@Zc _ _ _ _ _ (Xk gJ rfl (ZC (K:=K) rfl (yD (K:=K) rfl (ZM (Yz (K:=K) rfl rfl) rfl T.aN oq (@Za _ _ _ _ _ (ZM (xu) rfl T.aJ oC (@Za _ _ _ _ _ (Zl (Zu (K:=K) rfl) rfl T.ay ox (@Za _ _ _ _ _ (pv 0) Zb rfl)) Zb rfl)) Zb rfl)) (Z5 (Vq XZ Zf)))) (Zo (i:=6) YK.nd rfl (.inl rfl)) (@Zc _ _ _ _ _ (@Zn _ _ (4) _ _ _ _ YK.nd rfl (.inl rfl) (pe_or (@Zv _ _ _ _ _ _ _ (Zr (K:=K) rfl) (pv 1) (pv 6) (fun _ _=>rfl)) (Xc (Xq (@Zv _ _ _ _ _ _ _ (Zr (K:=K) rfl) (pv 0) (pv 6) (fun _ _=>rfl)) (Xc (pv 4))))) rfl (.inl rfl)) (@Zh _ _ _ (j9 (pv 4) (pv 3) (pv 6))))) (@Zh _ _ _ (@Zn _ _ (4) _ _ _ _ YK.nd rfl (.inl rfl) (@Zv _ _ _ _ _ _ _ (Zr (K:=K) rfl) (pv 3) (pv 2) (fun _ _=>rfl)) rfl (.inl rfl))))) (@Zh _ _ _ (@Zm _ _ _ _ (pv 3)))))),?_⟩;have gL:∀k,k<n->atI (L.map V.bl) (k:Int)=some (.bl (f k)):=fun k hk=>Zj (by rw[fL,hf k hk];rfl);have gM:∀k,k<n->atI (M.map V.bl) (k:Int)=some (.bl (s k)):=fun k hk=>Zj (by rw[fL,hs k hk];rfl);refine⟨_,rfl,p,rfl,⟨_,oj hp⟩,fun D hD=>?_⟩;refine YI (K:=K) L V.bl (fun _=>V.bl false) hD (oj hp) (by rw[fJ];omega) ?_ ?_
 ·intro x hx G N sG hN;exact hN _ (.refl _)
 intro H1 eD s1;have eD0:H1 D=some (.lst ((List.replicate n false).map V.bl)):=by
  rw[eD,List.map_replicate,<- lL]
  congr 2
  exact List.map_const' ..
 have nDp:D≠p:=fun z=>by rw[z,hp] at hD;cases hD
 have nDq:D≠q:=fun z=>by rw[z,hq] at hD;cases hD
 refine⟨_,rfl,by decide,by decide,?_⟩;refine YM (J:=Itr 0 2) (n:=2) (fun j U G=>∃(z5 z6:Option V) (h:Bool) (F:List Bool),U=[some (.ref p),some (.ref q),some (.int (c:Nat)),some (.ref D),some (.bl h),z5,z6]/\Ze H G/\G D=some (.lst (F.map V.bl))/\F.length=n/\(j=0->h=false)/\(j=1->h=XD f s n)/\(2<=j->F=(List.range n).map (XD f s))) ?_ (fun _ _ _ h _=>h) (fun _ _ _=>fE _) ?_ ?_
 ·exact⟨_,_,false,_,rfl,s1,eD0,List.length_replicate ..,fun _=>rfl,fun z=>by omega,fun z=>by omega⟩
 ·rintro j x U G0 G hj ⟨z5,z6,h,F,rfl,sG,gD,lF,h0,h1,_⟩ ⟨rfl,rfl⟩;refine⟨_,rfl,.inl ⟨p,_,rfl,.inl (oj (sG _ _ hp)),?_⟩⟩;rw[fF,lL];refine⟨_,rfl,fun R hR=>?_⟩;obtain⟨G1,qN,t1,eR⟩:=ZL (o:=.rng 0 (n:Int)) hR;rw[qN];refine .inr ⟨R,(n:Int),rfl,eR,by omega,by omega,fun A hA=>?_⟩;obtain⟨G2,qN,t2,eA⟩:=ZL (o:=.lst ((L3.upTo (n:Int)).map V.int)) hA;rw[qN];refine⟨_,rfl,_,rfl,A,_,rfl,rfl,oj eA,fun B hB=>?_⟩;obtain⟨G3,qN,t3,eB⟩:=ZL (o:=.lst (((L3.upTo (n:Int)).map V.int).reverse)) hB;rw[qN];have sG3:=sG.trans (t1.trans (t2.trans t3));have gD3:=(t1.trans (t2.trans t3)) _ _ gD;have nDB:B≠D:=fun z=>by rw[z,(t1.trans t2) _ _ gD] at hB;cases hB
  have lB:(((L3.upTo (n:Int)).map V.int).reverse).length=n:=by rw[iE,xK]
  refine⟨B,rfl,⟨_,oj eB⟩,?_⟩;refine YM (J:=Itl K B) (n:=n) (fun i U E=>∃(z6:Option V) (F:List Bool),U=[some (.ref p),some (.ref q),some (.int (c:Nat)),some (.ref D),some (.bl (Y3 f s h (n-i) i)),some (.int (0+(j:Nat))),z6]/\Zs D G3 E/\E D=some (.lst (F.map V.bl))/\F.length=n/\∀k,n-i<=k->k<n->F[k]?=some (Y3 f s h k (n-k))) ?_ ?_ ?_ ?_ ?_
  ·exact⟨_,F,rfl,.refl _,gD3,lF,fun k h1 h2=>by omega⟩
  ·rintro i U E hi ⟨z,F,rfl,xE,_⟩;exact⟨_,_,oj (xE _ _ nDB eB),kQ hi⟩
  ·rintro U E ⟨z,F,rfl,xE,_⟩;exact⟨_,oj (xE _ _ nDB eB),by rw[lB];exact fE _⟩
  ·rintro i x U E0 E hi ⟨z,F,rfl,xE,gE,lF,hF⟩ ⟨rfl,hx⟩;have ex:=hx _ (oj (xE _ _ nDB eB));rw[kQ hi] at ex;cases ex;have hpE:=xE _ _ (fT nDp) (sG3 _ _ hp);have hqE:=xE _ _ (fT nDq) (sG3 _ _ hq);have e1:Y3 f s h (n-(i+1)) (i+1)=(s (n-1-i)||(f (n-1-i)&&Y3 f s h (n-i) i)):=by
    show(s (n-(i+1))||(f (n-(i+1))&&Y3 f s h (n-(i+1)+1) i))=_
    rw[show n-(i+1)=n-1-i by omega,show n-1-i+1=n-i by omega]
   have fin:∀b,b=Y3 f s h (n-(i+1)) (i+1)->∃(z6:Option V) (F':List Bool),[some (.ref p),some (.ref q),some (.int (c:Nat)),some (.ref D),some (.bl b),some (.int (0+(j:Nat))),some (.int ((n-1-i:Nat):Int))]=[some (.ref p),some (.ref q),some (.int (c:Nat)),some (.ref D),some (.bl (Y3 f s h (n-(i+1)) (i+1))),some (.int (0+(j:Nat))),z6]/\Zs D G3 (upd E D (.lst ((F.map V.bl).set (n-1-i) (.bl b))))/\(upd E D (.lst ((F.map V.bl).set (n-1-i) (.bl b)))) D=some (.lst (F'.map V.bl))/\F'.length=n/\∀k,n-(i+1)<=k->k<n->F'[k]?=some (Y3 f s h k (n-k)):=fun b eb=>by
    subst eb;exact⟨_,F.set (n-1-i) (Y3 f s h (n-(i+1)) (i+1)),rfl,xE.upd,by rw[Zd,List.map_set],by rw[List.length_set];exact lF,set_back hi lF hF⟩
   refine⟨_,rfl,_,rfl,q,_,_,_,rfl,rfl,oj hqE,gM _ (by omega),_,rfl,?_⟩;cases hsv:s (n-1-i) with
   |true=>
    rw[hsv,mD] at e1;exact Yo ⟨_,rfl,_,rfl,_,rfl,D,_,n-1-i,rfl,rfl,gE,by rw[fF];omega,fin _ e1.symm⟩
   |false=>
    rw[hsv,iS] at e1;refine Z3 ⟨_,rfl,_,rfl,p,_,_,_,rfl,rfl,oj hpE,gL _ (by omega),_,rfl,?_⟩;cases hfv:f (n-1-i) with
    |true=>
     rw[hfv,i5] at e1;exact Yo ⟨_,rfl,_,rfl,_,rfl,_,rfl,D,_,n-1-i,rfl,rfl,gE,by rw[fF];omega,fin _ e1.symm⟩
    |false=>
     rw[hfv,iM] at e1;exact Z3 ⟨_,rfl,_,rfl,_,rfl,D,_,n-1-i,rfl,rfl,gE,by rw[fF];omega,fin _ e1.symm⟩
  rintro U E ⟨z,F',rfl,xE,gE,lF',hF'⟩;have gc:atI (F'.map V.bl) (c:Int)=some (.bl (Y3 f s h c (n-c))):=Zj (by rw[fL,hF' c (by omega) cn];rfl);refine⟨_,rfl,_,rfl,D,_,_,_,rfl,rfl,oj gE,gc,?_⟩;have sE:Ze H E:=((Ze.x sG3).trans xE).same hD;refine⟨_,_,Y3 f s h c (n-c),F',rfl,sE,gE,lF',fun z=>by omega,fun z=>?_,fun z=>?_⟩
  ·obtain rfl:j=0:=by omega
   rw[h0 rfl];exact hu
  ·obtain rfl:j=1:=by omega
   refine i0 fun k=>?_
   by_cases hk:k<n
   ·rw[hF' k (by omega) hk,fL,i7 hk,h1 (by omega)];have:=Jl f s (n-k) k;rw[show k+(n-k)=n by omega] at this;rw[this];rfl
   ·rw[gZ (by omega),gZ (by rw[fF,gp];omega)]
 rintro U G ⟨z5,z6,h,F,rfl,sG,gD,lF,_,_,h2⟩;rw[h2 (by omega)] at gD;exact⟨_,rfl,k G D sG hD gD⟩
def cinn_of{t:Tr}(hat:At K (n+1) H v t)(hc:isC t=true) :
  (Zy t.lb = "and" /\ ∃a b us,v=.ref a/\SqT K H a [.str (Zy t.lb),.ref b]/\SqT K H b us/\AtL K n H us t.ks) \/
  (Zy t.lb ≠ "and" /\ Zy t.lb∈(["yes","sign"]:List Str)/\t.ks=[]) \/
  (Zy t.lb ≠ "and" /\ Zy t.lb∉(["yes","sign"]:List Str)/\∃a us,v=.ref a/\SqT K H a (.str (Zy t.lb)::us)/\us≠[]/\AtL K n H us t.ks):=by
 obtain⟨c,ks⟩:=t;obtain⟨a,us,rfl,sh,ok,hl,hq⟩:=hat;have ok':Xp c ks.length:=ok;have aL:AtL K n H us ks:=⟨hl,hq⟩;have sh':UI K H a us c:=sh;clear ok hl hq sh
 show(Zy c=_/\_)\/(Zy c≠_/\Zy c∈_/\ks=[])\/(Zy c≠_/\Zy c∉_/\_)
 cases c with
 |yes=>exact .inr (.inl ⟨by decide +kernel,by simp[Zy],gT.mp ok'⟩)
 |sign z=>exact .inr (.inl ⟨show("sign" : Str) ≠ "and" by decide +kernel,by simp[Zy],gT.mp ok'.1⟩)
 |wit m=>rw[YG] at hc;unfold Us at hc;simp at hc
 |op w=>
  have wa:=YX w (WZ ok');refine .inr (.inr ⟨wa.2.2.2.1,?_,a,us,rfl,sh',?_,aL⟩)
  ·simp only[Zy,fQ,g6,g7];exact fun z=>z.elim wa.1 wa.2.1
  ·intro e;have h1:=aL.1;rw[e] at h1;rcases ok' with⟨_,h2⟩|⟨_,h2⟩<;>simp[h2] at h1
 |many w=>
  have hw:w = "and" := by
   rw[YG] at hc;unfold Us at hc;simp at hc;exact hc.2.1
  subst hw;obtain⟨b,h1,h2⟩:=sh';exact .inl ⟨rfl,a,b,us,rfl,h1,h2,aL⟩
def below_no{t:Tr}(h:Zy t.lb∈(["yes","sign","some"]:List Str))(hn:Zy t.lb ≠ "some" -> t.ks=[])(hat:Xp t.lb t.ks.length):ZF t=[]:=by
 obtain⟨c,ks⟩:=t;cases c with
 |yes=>exact hn (show("yes" : Str) ≠ "some" by decide +kernel)
 |sign z=>exact hn (show("sign" : Str) ≠ "some" by decide +kernel)
 |wit m=>exact absurd h (show("within" : Str)∉_ by decide +kernel)
 |many w=>rcases hat.1 with z|z<;>(have:w∈(["yes","sign","some"]:List Str):=h;rw[z] at this;exact absurd this (by decide +kernel))
 |op w=>
  have h':w∈(["yes","sign","some"]:List Str):=h
  by_cases c:w = "some"
  ·show(if w = "some" then[] else ks)=[];rw[if_pos c]
  ·show(if w = "some" then[] else ks)=[];rw[if_neg c];exact hn c
def below_ks{t:Tr}(h:Zy t.lb ≠ "some"):ZF t=t.ks:=by
 obtain⟨c,ks⟩:=t;cases c with
 |op w=>show(if w = "some" then[] else ks)=ks;rw[if_neg (show ¬w = "some" from h)]
 |yes=>rfl
 |sign z=>rfl
 |wit m=>rfl
 |many w=>rfl
def vf(K:W.Frag)(a:Adr):Sp:=fun vs H Q _=>∃v t n,vs=[v]/\At K (n+1) H v t/\isC t=true/\∀H' L us,Ze H H'->H L=none->H' L=some (.lst us)->AtL K n H' us (ZF t)->Q (.ref L) H'
def VB:Okd P w K mg base a 1 a.y46 a.z46 dn vf:=fun T hw=>by
 refine okF T.aC.f vn fun de A outer s H vs Q E hr h=>?_;obtain⟨v,t,n,rfl,hat,hc,k⟩:=h;refine⟨_,(@Zc _ _ _ _ _ (@ZZ _ _ _ _ _ _ _ _ (@Zw _ _ _ _ _ _ _ _ (WB (K:=K) rfl) (@Zv _ _ _ _ _ _ _ (ZN (K:=K) rfl) (pv 0) Zf (fun _ _=>rfl)) (@ZV _ _ _ _ _ (@Zq _ _ _ _ _ Zz (@Zq _ _ _ _ _ Zz (@Zq _ _ _ _ _ Zz Zb rfl) rfl) rfl)) (by with_unfolding_all rfl)) (@Zh _ _ _ (@Zm _ _ _ _ (@ZW _ _ _ _ Zb))) ZD) (@Zc _ _ _ _ _ (@ZZ _ _ _ _ _ _ _ _ (@Zw _ _ _ _ _ _ _ _ Yr (@Zv _ _ _ _ _ _ _ (ZN (K:=K) rfl) (pv 0) Zf (fun _ _=>rfl)) Zz (ZI _)) (@Zh _ _ _ (@Zm _ _ _ _ (ZM (Yz (K:=K) rfl rfl) rfl T.aN oq (@Za _ _ _ _ _ (@Zv _ _ _ _ _ _ _ (ZN (K:=K) rfl) (pv 0) Zf (fun _ _=>rfl)) Zb rfl)))) ZD) (@Zh _ _ _ (@Zm _ _ _ _ (ZM (Yz (K:=K) rfl rfl) rfl T.aN oq (@Za _ _ _ _ _ (Z8 (WU (K:=K) rfl) (pv 0) (Z5 Zf) Ys) Zb rfl)))))),?_⟩;have ins:=cinn_of hat hc;have okt:Xp t.lb t.ks.length:=hat.ok.1;obtain⟨ax,us0,rfl,sh0,_⟩:=id hat;obtain⟨xs,ex⟩:=sh0.tup;clear sh0;refine⟨_,rfl,ax,_,_,_,rfl,rfl,ex,Zj (j:=0) rfl,sz3,fun q hq=>?_⟩;obtain⟨H1,qN,s1,eq⟩:=ZL (o:=.tup [.str "yes",.str "sign",.str "some"]) hq;rw[qN];clear qN;have ex1:=om s1 _ _ _ ex;refine⟨q,_,rfl,.inr (on eq),rfl,rfl,_,rfl,?_⟩
 by_cases hin:Zy t.lb∈(["yes","sign","some"]:List Str)
 ·refine U9 (ss:=["yes","sign","some"]) hin ⟨by decide,fun l hl=>?_⟩;have hb:ZF t=[]:=below_no hin (fun hns=>by
   rcases ins with⟨h1,_⟩|⟨_,_,h3⟩|⟨_,h2,_⟩
   ·rw[h1] at hin;exact absurd hin (by decide +kernel)
   ·exact h3
   ·exfalso
    simp only[fQ,g6,g7] at hin h2;rcases hin with z|z|z
    ·exact h2 (.inl z)
    ·exact h2 (.inr z)
    ·exact hns z) okt
  rw[hb] at k;exact k _ l [] (s1.trans (Zi hl)) (s1.free hl) Zd AtL.nil
 refine Xr (ss:=["yes","sign","some"]) hin ?_;have hns:Zy t.lb ≠ "some" := fun z=>hin (by rw[z];simp);rw[below_ks hns] at k;rcases ins with⟨h1,a',b,us,ea,e1,e2,aL⟩|⟨h1,h2,h3⟩|⟨h1,h2,a',us,ea,e1,hne,aL⟩
 ·cases ea;refine⟨_,rfl,ax,_,_,_,rfl,rfl,ex1,Zj (j:=0) rfl,rfl,_,rfl,Xt (fS V.str h1) ?_⟩;refine⟨_,rfl,ax,_,_,_,rfl,rfl,om s1 _ _ _ e1,Zj (j:=1) rfl,.inl ⟨b,us,rfl,.inr (om s1 _ _ _ e2),fun l hl=>?_⟩⟩;have s2:=s1.trans (Zi (o:=.lst us) hl);exact k _ l us s2 (s1.free hl) Zd (aL.mono (om s2))
 ·exact absurd (by simp only[fQ,g6,g7] at h2 ⊢; rcases h2 with z|z;exact .inl z;exact .inr (.inl z)) hin
 ·cases ea;refine⟨_,rfl,ax,_,_,_,rfl,rfl,ex1,Zj (j:=0) rfl,rfl,_,rfl,Z1 (fun z=>h1 (V.str.inj z)) ?_⟩;refine⟨_,rfl,_,rfl,ax,_,rfl,om s1 _ _ _ e1,yy (by decide) (by simp;omega),fun b hb=>?_⟩;rw[yT];obtain⟨H2,qN,s2,e3⟩:=ZL (o:=.tup us) hb;rw[qN];clear qN;refine .inl ⟨b,us,rfl,.inr (on e3),fun l hl=>?_⟩;have s3:=(s1.trans s2).trans (Zi (o:=.lst us) hl);exact k _ l us s3 ((s1.trans s2).free hl) Zd (aL.mono (om s3))
end KK
namespace L3
open PySem PySem.Spec PyProof.Rows L2
def lookW:List Str:=["next","until","before","since"]
def VQ(c:Lb):Bool:=match c with
 |.op w=>decide (w∈lookW)
 |_=>false
def Vi:Tr->Nat:=YJ fun c ds=>if XG (.node c []) then 0 else mx ds+(if VQ c then 1 else 0)
def j6(t:Tr):Vi t=if XG t then 0 else mx (t.ks.map Vi)+(if VQ t.lb then 1 else 0):=by
 have h:=WL (fun c ds=>if XG (.node c []) then 0 else mx ds+(if VQ c then 1 else 0)) t;have e:XG (.node t.lb [])=XG t:=rfl;rw[e] at h;exact h
def jB{t x:Tr}(h:XG t=false)(hx:x∈t.ks):Vi x+(if VQ t.lb then 1 else 0)<=Vi t:=by
 rw[j6 t,h];have:=mx_le.mp (fE (mx (t.ks.map Vi))) _ (gn.mpr ⟨x,hx,rfl⟩);simp;omega
def per_at{t:Tr}(h:XG t=true)(hr:ring≠[]):∀k,way.length+ring.length<=k->Z4 d st (Xj way ring) t k=Z4 d st (Xj way ring) t (k-ring.length):=fun k hk=>by
 rw[kA h]
 show YB d st t _=YB d st t _
 rw[jd hr (by rw[fK];exact hk)]
def per_all{d:WD}{st:Tr->List Int}{way ring:List Int}(hr:ring≠[]):∀(n:Nat) (t:Tr),OkN n t->isC t=true->∀k,way.length+ring.length*(1+Vi t)<=k->Z4 d st (Xj way ring) t k=Z4 d st (Xj way ring) t (k-ring.length)
 |0,_,h,_=>h.elim
 |n+1,t,ok,hc=>by
  have p1:1<=ring.length:=iR.mpr hr;intro k hk
  by_cases c:XG t=true
  ·refine per_at c hr k ?_;have:ring.length*1<=ring.length*(1+Vi t):=mi _ (by omega);omega
  ·have cf:XG t=false:=by simpa using c
   have kid:∀x∈t.ks,∀k,way.length+ring.length*(1+Vi x)<=k->Z4 d st (Xj way ring) x k=Z4 d st (Xj way ring) x (k-ring.length):=fun x hx=>per_all hr n x (ok.2 x hx) (xS hc x hx);have md:∀x∈t.ks,ring.length*(1+Vi x)+ring.length*(if VQ t.lb then 1 else 0)<=ring.length*(1+Vi t):=fun x hx=>by
    rw[<- iL];exact mi _ (by have:=jB cf hx;omega)
   rcases Wg hc ok.1 cf with⟨o,a,rfl,h3⟩|⟨o,a,b,rfl,h2⟩|⟨a,b,rfl⟩
   ·have ka:=kid a (by simp[Tr.ks]);have ma:=md a (by simp[Tr.ks]);rcases h3 with rfl|rfl|rfl
    ·rw[kL];show(!_)=(!_);rw[ka k (by omega)]
    ·have e:(if VQ (Tr.node (.op "next") [a]).lb then 1 else 0)=1:=if_pos (show VQ (.op "next")=true by decide +kernel);rw[e,Nat.mul_one] at ma;rw[yF]
     show Z4 _ _ _ a (k+1)=Z4 _ _ _ a (k-ring.length+1)
     rw[ka (k+1) (by omega),show k+1-ring.length=k-ring.length+1 by omega]
    ·have e:(if VQ (Tr.node (.op "before") [a]).lb then 1 else 0)=1:=if_pos (show VQ (.op "before")=true by decide +kernel);rw[e,Nat.mul_one] at ma;rw[qH];have pa:ring.length*1<=ring.length*(1+Vi a):=mi _ (by omega);obtain⟨j,rfl⟩:∃j,k=j+1:=⟨k-1,by omega⟩;have h1:=ka j (by omega);rw[show j+1-ring.length=(j-ring.length)+1 by omega];exact h1
   ·have ka:=kid a (by simp[Tr.ks]);have kb:=kid b (by simp[Tr.ks]);have ma:=md a (by simp[Tr.ks]);have mb:=md b (by simp[Tr.ks]);rcases h2 with rfl|rfl
    ·rw[zE];exact vI (m:=way.length+ring.length*(1+Vi (.node (.op "until") [a,b]))) (by
      have:ring.length*1<=ring.length*(1+Vi (.node (.op "until") [a,b])):=mi _ (by omega);omega) (fun k hk=>ka k (by omega)) (fun k hk=>kb k (by omega)) k hk
    ·have e:(if VQ (Tr.node (.op "since") [a,b]).lb then 1 else 0)=1:=if_pos (show VQ (.op "since")=true by decide +kernel);rw[e] at ma mb;rw[zU];refine vU (m:=way.length+ring.length*(Vi (.node (.op "since") [a,b]))) p1 ?_ (fun k hk=>ka k (by rw[iL] at ma;rw[iL];rw[iL] at ma;omega)) (fun k hk=>kb k (by rw[iL] at mb;rw[iL];rw[iL] at mb;omega)) k ?_
     ·have:=jB (t:=.node (.op "since") [a,b]) cf (x:=a) (by simp[Tr.ks]);rw[e] at this;have:ring.length*1<=ring.length*(Vi (.node (.op "since") [a,b])):=mi _ (by omega);omega
     ·rw[iL] at hk;omega
   ·have ka:=kid a (by simp[Tr.ks]);have kb:=kid b (by simp[Tr.ks]);have ma:=md a (by simp[Tr.ks]);have mb:=md b (by simp[Tr.ks]);rw[jJ];show(_&&_)=(_&&_);rw[ka k (by omega),kb k (by omega)]
def mx_some:∀{l:List Nat},mx l=0\/mx l∈l
 |[]=>.inl rfl
 |a::r=>by
  have e:mx (a::r)=max a (mx r):=rfl;rcases Nat.le_total a (mx r) with h|h
  ·rw[e,Nat.max_eq_right h];rcases mx_some (l:=r) with z|z
   ·exact .inl z
   ·exact .inr (gf _ z)
  ·rw[e,Nat.max_eq_left h];exact .inr iz
def UH{t:Tr}(h:XG t=false):ZF t=t.ks:=by
 unfold XG at h;unfold ZF;cases e:t.lb with
 |op w=>rw[e] at h;exact if_neg (mh h)
 |yes=>rfl
 |sign z=>rfl
 |wit m=>rfl
 |many w=>rfl
def jp:∀(n:Nat) (t:Tr),psz t<=n->∃cs:List Tr,cs.Nodup/\(∀c∈cs,c∈Zp t/\VQ c.lb=true)/\cs.length=Vi t
 |0,t,h=>by have:=Xe t;omega
 |n+1,t,h=>by
  cases c:XG t with
  |true=>exact⟨[],iG,(fun c h=>by cases h),by rw[j6,if_pos c];rfl⟩
  |false=>
   have e:=j6 t;rw[c,if_neg gk] at e;have key:∃cs:List Tr,cs.Nodup/\(∀c∈cs,(c∈Zp t/\VQ c.lb=true)/\c≠t)/\cs.length=mx (t.ks.map Vi):=by
    rcases mx_some (l:=t.ks.map Vi) with z|z
    ·exact⟨[],iG,(fun c h=>by cases h),z.symm⟩
    ·obtain⟨x,hx,ex⟩:=gn.mp z;have lt:=Yu hx;obtain⟨cs,nd,hcs,lc⟩:=jp n x (by omega);refine⟨cs,nd,fun c' hc'=>⟨⟨vY (by rw[UH c];exact hx) (hcs c' hc').1,(hcs c' hc').2⟩,fun q=>?_⟩,by rw[lc,ex]⟩;have:=VD _ (fE _) (hcs c' hc').1;rw[q] at this;omega
   obtain⟨cs,nd,hcs,lc⟩:=key;cases l:VQ t.lb with
   |false=>
    rw[l,if_neg gk] at e;exact⟨cs,nd,fun c' hc'=>(hcs c' hc').1,by rw[lc,e];rfl⟩
   |true=>
    rw[l,if_pos rfl] at e;refine⟨t::cs,iC.mpr ⟨fun m=>(hcs t m).2 rfl,nd⟩,fun c' hc'=>?_,by rw[gH,lc,e]⟩;rcases fQ.mp hc' with q|q
    ·rw[q];exact⟨qi t,l⟩
    ·exact(hcs c' q).1
def dep_parts(t:Tr):Vi t<=((Zk [] (Zp t)).filter fun u=>VQ u.lb).length:=by
 obtain⟨cs,nd,hcs,lc⟩:=jp _ t (fE _);rw[<- lc];exact XJ nd fun x hx=>i9.mpr ⟨ZH.mpr (.inr (hcs x hx).1),(hcs x hx).2⟩
def below_at{t:Tr}(h:XG t=true)(ok:Xp t.lb t.ks.length):ZF t=[]:=by
 unfold XG at h;unfold ZF;cases e:t.lb with
 |op w=>rw[e] at h;exact if_pos (gi h)
 |yes=>rw[e] at ok;exact gT.mp ok
 |sign z=>rw[e] at ok;exact gT.mp ok.1
 |wit m=>rw[e] at h;cases h
 |many w=>rw[e] at h;cases h
def Je:∀(n:Nat) {t x:Tr},OkN n t->x∈Zp t->Vi x<=Vi t
 |0,t,x,h,_=>h.elim
 |n+1,t,x,h,hx=>by
  rcases WA hx with rfl|⟨k,hk,hxk⟩
  ·exact fE _
  ·cases c:XG t with
   |true=>rw[below_at c h.1] at hk;cases hk
   |false=>
    rw[UH c] at hk;have h1:=jB c hk;have h2:=Je n (h.2 k hk) hxk;omega
def dTl:Lb->List PyData->List PyData
 |.yes,_=>[]
 |.sign z,_=>[.str z]
 |.op _,ds=>ds
 |.wit m,ds=>.int m::ds
 |.many _,ds=>[.tuple ds]
def dF_tl(c:Lb)(ds:List PyData):dF c ds=.tuple (.str (Zy c)::dTl c ds):=by cases c<;>rfl
def word_lb{c':Lb}{n':Nat}(h1:Xp c n)(h2:Xp c' n')(hw:Zy c=Zy c'):c=c'\/(∃z z',c=.sign z/\c'=.sign z')\/(∃m m',c=.wit m/\c'=.wit m'):=by
 have ny:¬(("sign" : Str) = "yes")/\¬(("within" : Str) = "yes")/\¬(("within" : Str) = "sign")/\¬(("and" : Str) = "yes")/\¬(("or" : Str) = "yes")/\¬(("and" : Str) = "sign")/\¬(("or" : Str) = "sign")/\¬(("and" : Str) = "within")/\¬(("or" : Str) = "within"):=by decide +kernel
 obtain⟨n1,n2,n3,n4,n5,n6,n7,n8,n9⟩:=ny;cases c with
 |yes=>
  cases c' with
  |yes=>exact .inl rfl
  |sign z=>exact absurd hw.symm n1
  |wit m=>exact absurd hw.symm n2
  |op w=>exact absurd hw.symm (YX w (WZ h2)).1
  |many w=>rcases h2.1 with rfl|rfl;exact absurd hw.symm n4;exact absurd hw.symm n5
 |sign z=>
  cases c' with
  |yes=>exact absurd hw n1
  |sign z'=>exact .inr (.inl ⟨z,z',rfl,rfl⟩)
  |wit m=>exact absurd hw.symm n3
  |op w=>exact absurd hw.symm (YX w (WZ h2)).2.1
  |many w=>rcases h2.1 with rfl|rfl;exact absurd hw.symm n6;exact absurd hw.symm n7
 |wit m=>
  cases c' with
  |yes=>exact absurd hw n2
  |sign z=>exact absurd hw n3
  |wit m'=>exact .inr (.inr ⟨m,m',rfl,rfl⟩)
  |op w=>exact absurd hw.symm (YX w (WZ h2)).2.2.1
  |many w=>rcases h2.1 with rfl|rfl;exact absurd hw.symm n8;exact absurd hw.symm n9
 |op w=>
  have wa:=YX w (WZ h1);cases c' with
  |yes=>exact absurd hw wa.1
  |sign z=>exact absurd hw wa.2.1
  |wit m=>exact absurd hw wa.2.2.1
  |op w'=>exact .inl (by rw[show w=w' from hw])
  |many w'=>rcases h2.1 with rfl|rfl;exact absurd hw wa.2.2.2.1;exact absurd hw wa.2.2.2.2
 |many w=>
  cases c' with
  |yes=>rcases h1.1 with rfl|rfl;exact absurd hw n4;exact absurd hw n5
  |sign z=>rcases h1.1 with rfl|rfl;exact absurd hw n6;exact absurd hw n7
  |wit m=>rcases h1.1 with rfl|rfl;exact absurd hw n8;exact absurd hw n9
  |op w'=>rcases h1.1 with rfl|rfl;exact absurd hw.symm (YX w' (WZ h2)).2.2.2.1;exact absurd hw.symm (YX w' (WZ h2)).2.2.2.2
  |many w'=>exact .inl (by rw[show w=w' from hw])
def JA:∀{ks js:List Tr},(∀k∈ks,∀s∈js,PyData.eqv (dTr k) (dTr s)=true->k=s)->PyData.eqvAll (ks.map dTr) (js.map dTr)=true->ks=js
 |[],[],_,_=>rfl
 |[],_::_,_,h=>by simp[PyData.eqvAll] at h
 |_::_,[],_,h=>by simp[PyData.eqvAll] at h
 |k::ks,j::js,f,h=>by
  rw[fZ,fZ,PyData.eqvAll,gv] at h;rw[f k (by simp) j (by simp) h.1,JA (fun a ha b hb=>f a (gf _ ha) b (gf _ hb)) h.2]
def eqv_tr:∀{n m:Nat}{t s:Tr},OkN n t->OkN m s->PyData.eqv (dTr t) (dTr s)=true->t=s
 |0,_,_,_,h,_,_=>h.elim
 |_+1,0,_,_,_,h,_=>h.elim
 |n+1,m+1,t,s,⟨o1,k1⟩,⟨o2,k2⟩,h=>by
  rw[kC,kC s,dF_tl,dF_tl,PyData.eqv,PyData.eqvAll,gv] at h;obtain⟨hw,ht⟩:=h;rw[PyData.eqv] at hw;have hw':Zy t.lb=Zy s.lb:=by simpa using hw
  have kids:PyData.eqvAll (t.ks.map dTr) (s.ks.map dTr)=true->t.ks=s.ks:=JA fun k hk j hj e=>eqv_tr (k1 k hk) (k2 j hj) e;have fin:t.lb=s.lb->t.ks=s.ks->t=s:=fun a b=>by rw[Tr.eta t,Tr.eta s,a,b]
  rcases word_lb o1 o2 hw' with e|⟨z,z',e1,e2⟩|⟨a,b,e1,e2⟩
  ·refine fin e ?_;rw[<- e] at ht o2
   revert ht o1 o2
   cases t.lb with
   |yes=>intro o1 o2 ht;exact(gT.mp o1).trans (gT.mp o2).symm
   |sign z=>intro o1 o2 ht;exact(gT.mp o1.1).trans (gT.mp o2.1).symm
   |op w=>intro o1 o2 ht;exact kids ht
   |wit a=>
    intro o1 o2 ht;have ht2:(PyData.eqv (.int a) (.int a)&&PyData.eqvAll (t.ks.map dTr) (s.ks.map dTr))=true:=ht;rw[gv] at ht2;exact kids ht2.2
   |many w=>
    intro o1 o2 ht;have ht2:(PyData.eqv (.tuple (t.ks.map dTr)) (.tuple (s.ks.map dTr))&&PyData.eqvAll [] [])=true:=ht;rw[gv,PyData.eqv] at ht2;exact kids ht2.1
  ·rw[e1] at o1;rw[e2] at o2;rw[e1,e2] at ht;have ht2:(PyData.eqv (.str z) (.str z')&&PyData.eqvAll [] [])=true:=ht;rw[gv,PyData.eqv] at ht2;have hz:z=z':=by simpa using ht2.1
   exact fin (by rw[e1,e2,hz]) ((gT.mp o1.1).trans (gT.mp o2.1).symm)
  ·rw[e1,e2] at ht;have ht2:(PyData.eqv (.int a) (.int b)&&PyData.eqvAll (t.ks.map dTr) (s.ks.map dTr))=true:=ht;rw[gv,PyData.eqv] at ht2;have hz:a=b:=by simpa using ht2.1
   exact fin (by rw[e1,e2,hz]) (kids ht2.2)
def kD:∀{n:Nat}{t:Tr},OkN n t->dpt t<=2*n
 |0,_,h=>h.elim
 |n+1,t,⟨ok,h⟩=>by
  rw[dpt_eq];have hk:mx (t.ks.map dpt)<=2*n:=mx_le.mpr fun x hx=>by
   obtain⟨k,hk,rfl⟩:=gn.mp hx;exact kD (h k hk)
  split<;>omega
def lay_all:∀{ts:List Tr},(∀s∈ts,∃n,OkN n s)->PyData.canLayAll0 (ts.map dTr)=true
 |[],_=>rfl
 |t::r,h=>by
  obtain⟨n,o⟩:=h t (by simp);rw[fZ,PyData.canLayAll0,gv];exact⟨(OkN.fine o).1,lay_all fun s hs=>h s (gf _ hs)⟩
open Classical in
def any_tr:∀{ts:List Tr}{t:Tr}{m:Nat},(∀s∈ts,∃n,OkN n s)->OkN m t->((ts.map dTr).any fun z=>PyData.eqv z (dTr t))=decide (t∈ts)
 |[],t,m,_,_=>by simp
 |s::r,t,m,h,o=>by
  obtain⟨n,os⟩:=h s (by simp);rw[fZ,mq,any_tr (fun x hx=>h x (gf _ hx)) o]
  by_cases e:t=s
  ·subst e;rw[qW (OkN.fine o)];simp
  ·have:PyData.eqv (dTr s) (dTr t)=false:=by
    cases hh:PyData.eqv (dTr s) (dTr t) with
    |false=>rfl
    |true=>exact absurd (eqv_tr os o hh).symm e
   rw[this,iS];simp[e]
def tl_ok(h:AtL K n H vs ts):∀s∈ts,∃m,OkN m s:=fun s hs=>by
 obtain⟨i,hi,e⟩:=gI hs;have hv:i<vs.length:=by rw[h.1];exact hi
 exact⟨n,(h.2 i _ s (fG hv) (by rw[<- e];exact fG hi)).ok⟩
open Classical in
def not_in{F:Addr}{fv:List V}{m:Nat}{t:Tr}{Q:VK}(hF:H F=some (.lst fv))(aF:AtL K n H fv ts)(hv:At K m H v t)(hd:dpt t<=190)(q1:t∈ts->Q (.bl false) H)(q2:t∉ts->Q (.bl true) H):rInB K true v (.ref F) H Q:=by
 have o:=hv.ok;refine⟨ts.map dTr,dTr t,.lst (oj hF) (xT aF.1 fun i u k h1 h2=>(aF.2 i u k h1 h2).dp),hv.dp,lay_all (tl_ok aF),(OkN.fine o).1,?_,?_⟩
 ·have:=(OkN.fine o).2;omega
 ·rw[if_pos rfl,any_tr (tl_ok aF) o]
  by_cases h:t∈ts
  ·rw[gO h];exact q1 h
  ·rw[gY h];exact q2 h
def jG{t k:Tr}(h:k∈t.ks):dpt k<=dpt t:=by
 have h1:dpt k<=mx (t.ks.map dpt):=mx_le.mp (fE _) _ (l6 h);rw[dpt_eq t]
 split<;>omega
def UE:∀(n:Nat) {t x:Tr},psz t<=n->x∈post t->dpt x<=dpt t
 |0,t,x,h,_=>by have:=Xe t;omega
 |n+1,t,x,h,hx=>by
  rw[WS,fR,Wc] at hx;rcases hx with⟨k,hk,hx⟩|hx
  ·have h1:=UE n (by have:=Yu hk;omega) hx;have h2:=jG hk;omega
  ·rw[fW.mp hx];exact fE _
def jU{m:Nat}{t s:Tr}(h1:OkN n t)(h2:OkN m s):PyData.eqv (dTr t) (dTr s)=true↔t=s:=⟨eqv_tr h1 h2,fun e=>by subst e;exact qW (OkN.fine h1)⟩
def eq_at{x:V}{t s:Tr}{m:Nat}{Q:VK}(h1:At K n H x t)(h2:At K m H y s)(hd:dpt t<=60)(q1:t=s->Q (.bl true) H)(q2:t≠s->Q (.bl false) H):rEqD K false x y H Q:=by
 refine⟨dTr t,dTr s,h1.dp,h2.dp,(OkN.fine h1.ok).1,(OkN.fine h2.ok).1,fU (OkN.fine h1.ok).2 hd,?_⟩
 show Q (.bl (PyData.eqv (dTr t) (dTr s))) H
 cases e:PyData.eqv (dTr t) (dTr s) with
 |true=>exact q1 ((jU h1.ok h2.ok).mp e)
 |false=>exact q2 fun z=>by rw[(jU h1.ok h2.ok).mpr z] at e;cases e
def neq_at{x:V}{t s:Tr}{m:Nat}{Q:VK}(h1:At K n H x t)(h2:At K m H y s)(hd:dpt t<=60)(q1:t=s->Q (.bl false) H)(q2:t≠s->Q (.bl true) H):rEqD K true x y H Q:=by
 refine⟨dTr t,dTr s,h1.dp,h2.dp,(OkN.fine h1.ok).1,(OkN.fine h2.ok).1,fU (OkN.fine h1.ok).2 hd,?_⟩
 show Q (.bl (!PyData.eqv (dTr t) (dTr s))) H
 cases e:PyData.eqv (dTr t) (dTr s) with
 |true=>exact q1 ((jU h1.ok h2.ok).mp e)
 |false=>exact q2 fun z=>by rw[(jU h1.ok h2.ok).mpr z] at e;cases e
end L3
namespace KK
open PySem PySem.Spec L2 L3
open Classical in
def VC:∀{L A:List Tr},L.Nodup->Zk A L=A++L.filter fun x=>decide (x∉A)
 |[],A,_=>by rw[VT];simp
 |x::r,A,h=>by
  rw[iC] at h;rw[Xg]
  by_cases c:x∈A
  ·rw[Uo c,VC h.2,lX (by simpa using c)]
  ·rw[Vc c,VC h.2,lW (by simpa using c),iO]
   show A++(x::_)=A++(x::_)
   congr 2
   refine List.filter_congr fun y hy=>?_;have:y≠x:=fun z=>h.1 (by rw[<- z];exact hy);simp[this]
open Classical in
def J1{A:List Tr}(t:Tr):Zk A (Zp t)=A++(Zk [] (Zp t)).filter fun x=>decide (x∉A):=by
 rw[<- JK,VC (Yv (by simp))]
def zG:∀(n:Nat) {t x:Tr},psz t<=n->x∈post t->psz x<=psz t
 |0,t,x,h,_=>by have:=Xe t;omega
 |n+1,t,x,h,hx=>by
  rw[WS,fR,Wc] at hx;rcases hx with⟨k,hk,hx⟩|hx
  ·have h0:=Yu hk;have h1:=zG n (by omega) hx;omega
  ·rw[fW.mp hx];exact fE _
def VD{t x:Tr}(h:x∈Zp t):psz x<=psz t:=zG _ (fE _) (YE _ (fE _) h)
def Kp(t:Tr):Zk [] (Zp t)=Zk [] ((ZF t).map Zp).flatten++[t]:=by
 rw[Xh,Z9]
 show WN _ t=_
 refine Vc fun hm=>?_;rcases ZH.mp hm with h|h
 ·cases h
 ·obtain⟨l,hl,hx⟩:=iH.mp h;obtain⟨k,hk,rfl⟩:=gn.mp hl;have:=VD hx;have:=Yu (Yl hk);omega
def U6(n:Nat)(K:W.Frag)(a:Adr):Sp:=fun vs H Q _=>∃v t m,vs=[v]/\m<n/\At K m H v t/\isC t=true/\psz t<=2000000/\dpt t<=190/\∀H' L us,Ze H H'->H L=none->H' L=some (.lst us)->AtL K m H' us (Zk [] (Zp t))->Q (.ref L) H'
def qf{Q:VK}{E:XK}(h:U6 0 K a vs H Q E):False:=by
 obtain⟨_,_,m,_,hm,_⟩:=h;omega
def U4(T:Txt K mg a)(hw:w.params=a.Pm):∀n:Nat,V9 P w K mg base CX0 (2+n) a.y47 a.z47 ["_law_core_here"] (U6 n K a):=by
 intro n
 induction n with
 |zero=>exact⟨fun _ _ _ _ h=>(qf h).elim,fun _ _ _ _ _ _ _ _ _ _ _ _ _ h=>(qf h).elim⟩
 |succ n aT=>
  refine T.ai.f.ok Wl (fun vs H Q E h=>?_) (fun de A outer s H vs Q E hr h=>?_)
  ·obtain⟨v,t,m,rfl,_⟩:=h;rfl
  ·obtain⟨v,t,m,rfl,hm,hat,hc,hz,hdp,k⟩:=h;refine⟨_,(@Zc _ _ _ _ _ (@Zn _ _ (1) _ _ _ _ Wl.nd rfl (.inr rfl) (@ZW _ _ _ _ Zb) rfl (.inl rfl)) (@Zc _ _ _ _ _ (Xk gJ rfl (ZC (K:=K) rfl (XQ (VB T hw) (hr.mono (show _<=2+n by omega)) rfl T.aC.g T.aC.f.kp T.aC.n .nil Yy (@Za _ _ _ _ _ (pv 0) Zb rfl))) (Zo (i:=2) Wl.nd rfl (.inl rfl)) (@Zh _ _ _ (@Zn _ _ (1) _ _ _ _ Wl.nd rfl (.inr rfl) (@ZP _ _ _ _ _ _ _ _ qw (pv 1) (ZR (Nc:=fh) (ix:=[none,some 1]) (ZJ.of (by decide +kernel:ZO (Zg WM) qK _ _ _=true)) rfl (ZC (K:=K) rfl (XQ aT hr rfl T.ai.g T.ai.f.kp T.ai.n .nil Yy (@Za _ _ _ _ _ (pv 2) Zb rfl))) (fun _ _ _ _ _=>(Zo (i:=0) (show List.Nodup fh by decide +kernel) rfl (.inl rfl))) (fun _ _ _ _ _=>(Wq (@Zw _ _ _ _ _ _ _ _ (op_notInB (K:=K) rfl (Yq.units2 hr)) (pv 0) (pv 1) (by with_unfolding_all rfl)))) (fun _ _ _ _ _=>(pv 0)))) rfl (.inl rfl)))) (@Zh _ _ _ (@Zm _ _ _ _ (@ZP _ _ _ _ _ _ _ _ qw (pv 1) (@ZW _ _ _ _ (@Za _ _ _ _ _ (pv 0) Zb rfl))))))),?_⟩
   classical
   cases m with
   |zero=>exact hat.elim
   |succ m=>
    refine⟨by decide,fun F hF=>?_⟩;obtain⟨H1,qN,s1,e1⟩:=ZL (o:=.lst []) hF;rw[qN];refine⟨_,rfl,v,t,m,rfl,hat.mono (om s1),hc,fun H2 L us s2 L0 hL aL=>⟨L,rfl,⟨_,oj hL⟩,?_⟩⟩;have s12:=s1.trans s2;have hul:=aL.1;have plen:∀i,(Zk [] (((ZF t).take i).map Zp).flatten).length<=2000000:=fun i=>by
     have h0:=qj (((ZF t).take i).map Zp).flatten [];have h1:((ZF t).map Zp).flatten=(((ZF t).take i).map Zp).flatten++(((ZF t).drop i).map Zp).flatten:=by
      rw[<- mU,<- gb,oh]
     have h2:=fS List.length (Xh t);rw[fK,h1,fK] at h2;have h3:=WW _ (t:=t) (fE _);rw[List.length_nil] at h0;omega
    refine YM (J:=Itl K L) (n:=us.length) (fun i U G=>∃(z:Option V) (F:Addr) (fv:List V),U=[some v,some (.ref F),z]/\Ze H2 G/\G F=some (.lst fv)/\AtL K (m+1) G fv (Zk [] (((ZF t).take i).map Zp).flatten)) ?_ ?_ ?_ ?_ ?_
    ·exact⟨_,F,[],rfl,.refl _,s2 _ _ e1,by rw[List.take_zero];exact AtL.nil⟩
    ·rintro i U G hi ⟨z,F,fv,rfl,sG,_⟩;exact⟨_,_,oj (sG _ _ hL),fG hi⟩
    ·rintro U G ⟨z,F,fv,rfl,sG,_⟩;exact⟨_,oj (sG _ _ hL),fE _⟩
    ·rintro i x U G0 G hi ⟨z,F,fv,rfl,sG,gF,aF⟩ ⟨rfl,hx⟩;have ex:=hx _ (oj (sG _ _ hL));have hki:(ZF t)[i]?=some ((ZF t)[i]'(by omega)):=fG (by omega);have ax:=(aL.mono (om sG)).2 i x _ ex hki;have hmem:=fX (show i<(ZF t).length by omega);have htk:(((ZF t).take (i+1)).map Zp).flatten=(((ZF t).take i).map Zp).flatten++Zp ((ZF t)[i]'(by omega)):=by
      rw[lO,hki,gb,mU];simp
     have pl:=plen i;have pl1:=plen (i+1);rw[htk,Z9,J1] at pl1 ⊢;generalize ((ZF t)[i]'(by omega))=u at ax hmem pl1 ⊢;generalize Zk [] (((ZF t).take i).map Zp).flatten=A at aF pl pl1 ⊢;have kin:=Yl hmem;have zu:=Yu kin;refine⟨_,rfl,_,rfl,x,u,m,rfl,by omega,ax,xS hc u kin,by omega,fU (jG kin) hdp,fun G1 L1 us1 t1 L10 hL1 aL1=>⟨L1,rfl,⟨_,oj hL1⟩,fun D hD=>?_⟩⟩;have gF1:=t1 _ _ gF;have aF1:=aF.mono (om t1);have lu:=aL1.1;have dpu:∀y∈Zk [] (Zp u),dpt y<=190:=fun y hy=>by
      rcases ZH.mp hy with h|h
      ·cases h
      ·exact fU (UE _ (fE _) (YE _ (fE _) h)) (fU (jG kin) hdp)
     have plu:(Zk [] (Zp u)).length<=2000000:=by
      have h0:=qj (Zp u) [];have h3:=WW _ (t:=u) (fE _);rw[List.length_nil] at h0;omega
     generalize Zk [] (Zp u)=P at aL1 lu dpu plu pl1 ⊢;refine Yx (J:=Itl K L1) (n:=us1.length) (fun j U E=>∃(y:Option V) (ds:List V),U=[y,some (.ref F)]/\Ze G1 E/\E D=some (.lst ds)/\AtL K m E ds ((P.take j).filter fun x=>decide (x∉A))) ?_ ?_ ?_ ?_ ?_
     ·exact⟨_,[],rfl,Zi hD,Zd,by rw[List.take_zero];exact AtL.nil⟩
     ·rintro j U E hj ⟨y,ds,rfl,sE,_⟩;exact⟨_,_,oj (sE _ _ hL1),fG hj⟩
     ·rintro U E ⟨y,ds,rfl,sE,_⟩;exact⟨_,oj (sE _ _ hL1),fE _⟩
     ·rintro j w U E0 E hj ⟨y,ds,rfl,sE,gD,aD⟩ ⟨rfl,hw⟩ N N0 hN hN0;have ew:=hw _ (oj (sE _ _ hL1));have hpj:P[j]?=some (P[j]'(by omega)):=fG (by omega);have aw:=(aL1.mono (om sE)).2 j w _ ew hpj;have tk:(P.take (j+1)).filter (fun x=>decide (x∉A))=(P.take j).filter (fun x=>decide (x∉A))++[P[j]'(by omega)].filter (fun x=>decide (x∉A)):=by rw[List.take_succ_eq_append_getElem (by omega),mH]
      have dpj:=dpu _ (fX (show j<P.length by omega));generalize (P[j]'(by omega))=pj at aw tk dpj;have ld:ds.length<sizeLine:=by
       have h1:=aD.1;have h2:=me (fun x=>decide (x∉A)) (P.take j);rw[gu] at h2;rw[fJ];omega
      refine⟨_,rfl,_,rfl,not_in (sE _ _ gF1) (aF1.mono (om sE)) aw dpj (fun hm=>?_) (fun hm=>?_)⟩
      ·refine⟨_,rfl,Z3 (hN0 _ _ ⟨_,ds,rfl,sE,gD,?_⟩)⟩;rw[tk,lX (by simpa using hm)];simpa using aD
      ·refine⟨_,rfl,Yo ⟨_,rfl,hN _ _ E _ gD ld ⟨_,ds++[w],rfl,(Zs.upd (Ze.x sE)).same hD,Zd,?_⟩⟩⟩;have tU:=Ww (o:=.lst (ds++[w])) gD;rw[tk,lW (by simpa using hm)];exact(aD.mono tU).app (AtL.one (aw.mono tU))
     rintro U E ⟨y,ds,rfl,sE,gD,aD⟩;rw[lu,iP] at aD;have l1:=aF.1;have l2:=aD.1;rw[fK] at pl1;refine⟨F,D,_,_,rfl,rfl,sE _ _ gF1,gD,by rw[fJ];omega,fun Z hZ=>?_⟩;obtain⟨E2,qN,u2,eZ⟩:=ZL (o:=.lst (fv++ds)) hZ;rw[qN];have tE:YH G1 E2:=(om sE).trans (om u2);exact⟨_,Z,fv++ds,rfl,sG.trans (t1.trans (sE.trans u2)),eZ,(aF1.mono tE).app ((aD.mono (om u2)).le (iN m))⟩
    rintro U G ⟨z,F,fv,rfl,sG,gF,aF⟩;have pl:=plen us.length;rw[hul,iP] at aF pl;refine⟨_,rfl,_,rfl,sz1,fun B hB=>?_⟩;obtain⟨G2,qN,u2,eB⟩:=ZL (o:=.lst [v]) hB;rw[qN];have l1:=aF.1;refine⟨F,B,_,_,rfl,rfl,u2 _ _ gF,eB,by rw[fJ];show fv.length+1<=_;omega,fun Z hZ=>?_⟩;obtain⟨G3,qN,u3,eZ⟩:=ZL (o:=.lst (fv++[v])) hZ;rw[qN];have sA:Ze H G3:=s12.trans (sG.trans (u2.trans u3));refine k G3 Z (fv++[v]) sA ((s12.trans (sG.trans u2)).free hZ) eZ ?_;rw[Kp];exact(aF.mono (om (u2.trans u3))).app (AtL.one (hat.mono (om sA)))
def WQ(K:W.Frag)(H:Hp)(L:Addr)(es:List (Tr×Addr)):Prop:=∃xs:List V,H L=some (.lst xs)/\xs.length=es.length/\∀(j:Nat) x e,xs[j]?=some x->es[j]?=some e->∃(b:Addr) (w:V) (n:Nat),x=.ref b/\SqT K H b [w,.ref e.2]/\At K n H w e.1/\dpt e.1<=60
def Kh(K:W.Frag)(a:Adr):Sp:=fun vs H Q _=>∃(L:Addr) (es:List (Tr×Addr)) (v:V) (t:Tr) (m i:Nat) (l:Addr),vs=[.ref L,v]/\WQ K H L es/\At K m H v t/\es[i]?=some (t,l)/\(∀(j:Nat) e,j<i->es[j]?=some e->e.1≠t)/\Q (.ref l) H
def V1:Okd P w K mg base a 1 a.y50 a.z50 eQ Kh:=fun T hw=>by
 refine okF T.bf.f qp fun de A outer s H vs Q E hr h=>?_;obtain⟨L,es,v,t,m,i,l,rfl,⟨xs,hL,lx,hp⟩,hat,hi,hno,k⟩:=h;refine⟨_,(@Zc _ _ _ _ _ (Xk gJ rfl (ZC (K:=K) rfl (pv 0)) (Wm (K:=K) (n:=2) rfl rfl (Yb (Zo (i:=2) qp.nd rfl (.inl rfl)) (Yb (Zo (i:=3) qp.nd rfl (.inl rfl)) Ws))) (@Zh _ _ _ (@ZZ _ _ _ _ _ _ _ _ (@Zw _ _ _ _ _ _ _ _ (op_eqDK (K:=K) rfl (Yq.units hr)) (pv 2) (pv 1) (ZI _)) (@Zh _ _ _ (@Zm _ _ _ _ (pv 3))) ZD))) (@Zh _ _ _ (@Zm _ _ _ _ (@ZW _ _ _ _ Zb)))),?_⟩;have hi':=(fO.mp hi).1;refine⟨_,rfl,L,rfl,⟨_,oj hL⟩,?_⟩;refine YM (J:=Itl K L) (n:=xs.length) (fun j U G=>∃(z1 z2:Option V),U=[some (.ref L),some v,z1,z2]/\G=H/\j<=i) ?_ ?_ ?_ ?_ ?_
 ·exact⟨_,_,rfl,rfl,gB _⟩
 ·rintro j U G hj ⟨z1,z2,rfl,rfl,_⟩;exact⟨_,_,oj hL,fG hj⟩
 ·rintro U G ⟨z1,z2,rfl,rfl,_⟩;exact⟨_,oj hL,fE _⟩
 ·rintro j x U G0 G hj ⟨z1,z2,rfl,rfl,hji⟩ ⟨rfl,hx⟩;have ex:=hx _ (oj hL);have he:es[j]?=some (es[j]'(by omega)):=fG (by omega);obtain⟨b,w,n,rfl,hb,aw,dw⟩:=hp j x _ ex he;refine⟨b,_,rfl,hb,rfl,_,_,rfl,_,_,rfl,rfl,?_⟩;refine⟨_,rfl,_,rfl,eq_at aw hat dw (fun e=>?_) (fun e=>?_)⟩
  ·have hij:j=i:=by
    apply Classical.byContradiction;intro z;exact hno j _ (by omega) he e
   subst hij;rw[hi] at he;have:=fS Prod.snd (fY he);refine⟨_,rfl,Yo ⟨_,rfl,?_⟩⟩;rw[<- this];exact k
  ·refine⟨_,rfl,Z3 ⟨_,_,rfl,rfl,?_⟩⟩;apply Classical.byContradiction;intro z;obtain rfl:j=i:=by omega
   rw[hi] at he;exact e (fS Prod.fst (fY he)).symm
 rintro U G ⟨z1,z2,rfl,rfl,h⟩;omega
def pure_or{t u:TT}{U:L2.St}{b c:Bool}(ht:∀Q:Bool->Hp->Prop,Q b H->t U H Q)(hu:∀Q:Bool->Hp->Prop,Q c H->u U H Q)(Q:Bool->Hp->Prop)(q:Q (b||c) H):tOr t u U H Q:=by
 refine ht _ ?_;cases b with
 |true=>exact Yo q
 |false=>exact Z3 (hu _ q)
def seq_or{t u:TT}{A B C:L2.TS}{D}{U:L2.St}{b c:Bool}(ht:∀Q:Bool->Hp->Prop,Q b H->t U H Q)(hu:∀Q:Bool->Hp->Prop,Q c H->u U H Q)(q:if(b||c)=true then A { D with nx:=C D } U H else B { D with nx:=C D } U H):tSeq (tIfS (tOr t u) A B) C D U H:=pure_or ht hu _ q
def vF(xs:List V)(h:i<=j)(hj:j<=xs.length):W7 xs (some (i:Int)) (some (j:Int))=(xs.drop i).take (j-i):=by
 unfold W7;rw[HT.sIx_nat,HT.sIx_nat,mP hj,mP (by omega)]
def cc_op1{w:Str}{k:Tr}(hw:w∈W6)(h:isC k=true):isC (.node (.op w) [k])=true:=by
 rw[YG];simp[Us,h,hw]
def cc_op2{w:Str}{k r:Tr}(hw:w∈W6)(h:isC k=true)(g:isC r=true):isC (.node (.op w) [k,r])=true:=by
 rw[YG];simp[Us,h,g,hw]
def cc_and{k r:Tr}(h:isC k=true)(g:isC r=true):isC (.node (.many "and") [k,r])=true:=by
 rw[YG];simp[Us,h,g]
def at_strs{l:List Str}(hi:i<l.length):atI (l.map V.str) (i:Int)=some (.str l[i]):=Zj (by rw[fL,fG hi];rfl)
def four:List Str:=["not","next","before","some"]
def fourW:∀w∈four,w∈W1/\w∈W6:=by decide +kernel
def us2:List Str:=["until","since"]
def us2W:∀w∈us2,w∈W2/\w∈W6:=by decide +kernel
def zp(n:Nat)(K:W.Frag)(a:Adr):Sp:=fun vs H Q _=>∃(s nm:Addr) (nn:List Str) (m d:Nat),vs=[.ref s,.ref nm,.int (d:Nat)]/\d<n/\d<=3/\YV H s m/\m+5 ^ (d+1)<=50000/\H nm=some (.lst (nn.map V.str))/\nn.length=3/\(∀x∈nn,Yf x=true)/\nm≠s/\∀H' v t,Zs s H H'->YV H' s (m+5 ^ (d+1))->At K (d+1) H' v t->isC t=true->psz t<=3 ^ (d+1)->Q v H'
def qM{Q:VK}{E:XK}(h:zp 0 K a vs H Q E):False:=by
 obtain⟨_,_,_,_,d,_,hm,_⟩:=h;omega
def jZ(T:Txt K mg a)(hw:w.params=a.Pm):∀n:Nat,V9 P w K mg base CX0 (2+n) a.y45 a.z45 ["_law_state_here","_law_names_here","_law_deep"] (zp n K a):=by
 intro n
 induction n with
 |zero=>exact⟨fun _ _ _ _ h=>(qM h).elim,fun _ _ _ _ _ _ _ _ _ _ _ _ _ h=>(qM h).elim⟩
 |succ n bt=>
  refine T.am.f.ok WK (fun vs H Q E h=>?_) (fun de A outer s H vs Q E hr h=>?_)
  ·obtain⟨s,nm,nn,m,d,rfl,_⟩:=h;rfl
  ·obtain⟨s,nm,nn,m,d,rfl,hd,d3,hst,hm,hnm,ln,nnm,nns,k⟩:=h;refine⟨_,(@Zc _ _ _ _ _ (@Zn _ _ (3) _ _ _ _ WK.nd rfl (.inl rfl) (XQ (ZE T hw) (hr.mono (show _<=2+n by omega)) rfl T.aa.g T.aa.f.kp T.aa.n .nil Yy (@Za _ _ _ _ _ (pv 0) (@Za _ _ _ _ _ Zf Zb rfl) rfl)) rfl (.inl rfl)) (@Zc _ _ _ _ _ (@ZZ _ _ _ _ _ _ _ _ (PW.pt (Ut (@Zw _ _ _ _ _ _ _ _ Yr (pv 2) Zf (ZI _)) (Vt (@Zw _ _ _ _ _ _ _ _ vZ (pv 3) Zf (ZI _))))) (@Zc _ _ _ _ _ (@ZZ _ _ _ _ _ _ _ _ (@Zw _ _ _ _ _ _ _ _ Yr (XQ (ZE T hw) (hr.mono (show _<=2+n by omega)) rfl T.aa.g T.aa.f.kp T.aa.n .nil Yy (@Za _ _ _ _ _ (pv 0) (@Za _ _ _ _ _ Zf Zb rfl) rfl)) Zf (ZI _)) (@Zh _ _ _ (@Zm _ _ _ _ (@ZV _ _ _ _ _ (@Za _ _ _ _ _ Zz Zb rfl)))) ZD) (@Zh _ _ _ (@Zm _ _ _ _ (@ZV _ _ _ _ _ (@Za _ _ _ _ _ Zz (@Za _ _ _ _ _ (@Zv _ _ _ _ _ _ _ (Zr (K:=K) rfl) (pv 1) (XQ (ZE T hw) (hr.mono (show _<=2+n by omega)) rfl T.aa.g T.aa.f.kp T.aa.n .nil Yy (@Za _ _ _ _ _ (pv 0) (@Za _ _ _ _ _ Zf Zb rfl) rfl)) (fun _ _=>rfl)) Zb rfl) rfl))))) ZD) (@Zc _ _ _ _ _ (@Zn _ _ (4) _ _ _ _ WK.nd rfl (.inl rfl) (XQ bt hr rfl T.am.g T.am.f.kp T.am.n .nil Yy (@Zq _ _ _ _ _ (pv 0) (@Zq _ _ _ _ _ (pv 1) (@Zq _ _ _ _ _ (@ZP _ _ _ _ _ _ _ _ Vb (pv 2) Zf) Zb rfl) rfl) rfl)) rfl (.inl rfl)) (@Zc _ _ _ _ _ (@ZZ _ _ _ _ _ _ _ _ (@Zw _ _ _ _ _ _ _ _ vZ (pv 3) Zf (ZI _)) (@Zh _ _ _ (@Zm _ _ _ _ (@ZP _ _ _ _ _ _ _ _ (xQ (K:=K) rfl) (Z8 (WU (K:=K) rfl) (@ZV _ _ _ _ _ (@Zq _ _ _ _ _ Zz (@Zq _ _ _ _ _ Zz (@Zq _ _ _ _ _ Zz (@Zq _ _ _ _ _ Zz Zb rfl) rfl) rfl) rfl)) (Z5 (@ZP _ _ _ _ _ _ _ _ Vb (pv 3) Zf)) (Z5 (@ZP _ _ _ _ _ _ _ _ Vb (pv 3) Zf))) (@ZV _ _ _ _ _ (@Za _ _ _ _ _ (pv 4) Zb rfl))))) ZD) (@Zc _ _ _ _ _ (@Zn _ _ (5) _ _ _ _ WK.nd rfl (.inl rfl) (XQ bt hr rfl T.am.g T.am.f.kp T.am.n .nil Yy (@Zq _ _ _ _ _ (pv 0) (@Zq _ _ _ _ _ (pv 1) (@Zq _ _ _ _ _ (@ZP _ _ _ _ _ _ _ _ Vb (pv 2) Zf) Zb rfl) rfl) rfl)) rfl (.inl rfl)) (@Zc _ _ _ _ _ (@ZZ _ _ _ _ _ _ _ _ (@Zw _ _ _ _ _ _ _ _ vZ (pv 3) Zf (ZI _)) (@Zh _ _ _ (@Zm _ _ _ _ (@ZV _ _ _ _ _ (@Za _ _ _ _ _ Zz (@Za _ _ _ _ _ (@ZV _ _ _ _ _ (@Za _ _ _ _ _ (pv 4) (@Za _ _ _ _ _ (pv 5) Zb rfl) rfl)) Zb rfl) rfl)))) ZD) (@Zh _ _ _ (@Zm _ _ _ _ (@ZV _ _ _ _ _ (@Zq _ _ _ _ _ (@Zv _ _ _ _ _ _ _ (Zr (K:=K) rfl) (@ZW _ _ _ _ (@Za _ _ _ _ _ Zz (@Za _ _ _ _ _ Zz Zb rfl) rfl)) (@ZP _ _ _ _ _ _ _ _ Um (pv 3) Zf) (fun _ _=>rfl)) (@Zq _ _ _ _ _ (pv 4) (@Zq _ _ _ _ _ (pv 5) Zb rfl) rfl) rfl)))))))))),?_⟩;have p5:5<=5 ^ (d+1):=by rw[mL];have:=mj d 5 (by decide);omega
   have p3:1<=3 ^ (d+1):=mj _ _ (by decide);refine⟨_,rfl,s,12,m,rfl,hst,by omega,by decide,by decide,fun H1 fk x1 st1 hfk=>?_⟩;have hnm1:=x1 _ _ nns hnm;dsimp only[VR,tNext]
   show tSeq (tIfS (tOr _ _) _ _) _ _ [some (.ref s),some (.ref nm),some (.int (d:Nat)),some (.int (fk:Nat)),none,none] H1
   refine seq_or (b:=decide (V.int (d:Nat)=V.int 0)) (c:=decide (((fk:Nat):Int)<2)) ?_ ?_ ?_
   ·exact fun Q q=>⟨_,rfl,rfl,_,rfl,q⟩
   ·exact fun Q q=>⟨_,rfl,_,_,rfl,rfl,_,rfl,q⟩
   refine XN (fun c=>?_) (fun c=>?_)
   ·refine⟨_,rfl,s,5,_,rfl,st1,by omega,by decide,by decide,fun H2 r x2 st2 hr=>⟨rfl,_,rfl,XN (fun c=>?_) (fun c=>?_)⟩⟩
    ·refine⟨sz1,fun t ht=>?_⟩;obtain⟨H3,qN,u3,e3⟩:=ZL (o:=.tup [.str "yes"]) ht;rw[qN];clear qN;exact k H3 _ (.node .yes []) ((x1.trans x2).trans (Ze.x u3)) ((st2.mono u3).le (by omega)) (at_yes (on e3)) (by decide +kernel) (by rw[Wx];simpa using p3)
    ·refine⟨_,rfl,_,rfl,s,3,_,rfl,st2,by omega,by decide,by decide,fun H4 v x4 st4 hv=>?_⟩;have hz:=nnm _ (fX (show v<nn.length by omega));refine⟨nm,_,_,.str (nn[v]'(by omega)),rfl,rfl,oj (x4 _ _ nns (x2 _ _ nns hnm1)),at_strs (by omega),sz2,fun t ht=>?_⟩;generalize (nn[v]'(by omega))=z at hz;obtain⟨H5,qN,u5,e5⟩:=ZL (o:=.tup [.str "sign",.str z]) ht;rw[qN];clear qN;exact k H5 _ (.node (.sign z) []) ((x1.trans x2).trans (x4.trans (Ze.x u5))) ((st4.mono u5).le (by omega)) (at_sign (on e5) hz) (by rw[YG];simp[Us]) (by rw[Wx];simpa using p3)
   have hc:¬(d=0)/\¬(fk<2):=by
    refine⟨fun z=>c ?_,fun z=>c ?_⟩
    ·subst z;rfl
    ·rw[mO];exact .inr (gO (by omega))
   obtain⟨hd0,hf2⟩:=hc;obtain⟨e,rfl⟩:∃e,d=e+1:=⟨d-1,by omega⟩;have q1:5 ^ (e+1+1)=5 ^ (e+1)*5:=mL ..;have q3:3 ^ (e+1+1)=3 ^ (e+1)*3:=mL ..;have q4:5<=5 ^ (e+1):=by rw[mL];have:=mj e 5 (by decide);omega
   have q5:1<=3 ^ (e+1):=mj _ _ (by decide);have ed:((e+1:Nat):Int)-1=((e:Nat):Int):=by omega
   clear c;refine⟨_,rfl,_,rfl,_,rfl,_,_,rfl,rfl,s,nm,nn,m+1,e,by rw[ed];rfl,by omega,by omega,st1,by omega,hnm1,ln,nnm,nns,fun H2 v1 t1 x2 st2 at1 ic1 zs1=>?_⟩;have hnm2:=x2 _ _ nns hnm1;have x02:=x1.trans x2;obtain⟨o2,ho2⟩:=st2.lst;refine⟨_,rfl,_,_,rfl,rfl,_,rfl,XN (fun c=>?_) (fun c=>?_)⟩
   ·have c6:((fk:Nat):Int)<6:=gi c;refine⟨sz4,fun A hA=>?_⟩;obtain⟨H3,qN,u3,e3⟩:=ZL (o:=.tup (four.map V.str)) hA;have qN':upd H2 A (.tup [.str "not",.str "next",.str "before",.str "some"])=H3:=qN;rw[qN'];clear qN qN';have ef2:((fk:Nat):Int)-2=((fk-2:Nat):Int):=by omega
    have ef1:((fk:Nat):Int)-1=((fk-1:Nat):Int):=by omega
    have hw:=fourW _ (fX (show fk-2<four.length from(by show fk-2<4;omega)));refine⟨_,rfl,_,_,rfl,rfl,_,rfl,_,rfl,_,_,rfl,rfl,_,rfl,?_⟩;rw[ef2,ef1];refine⟨A,_,rfl,on e3,?_,fun B hB=>?_⟩
    ·rw[HT.sIx_nat,HT.sIx_nat,fF];rintro⟨z1,z2⟩;have l4:four.length=4:=rfl;rw[l4] at z1 z2;omega
    have ec:W7 (four.map V.str) (some ((fk-2:Nat):Int)) (some ((fk-1:Nat):Int))=[.str (four[fk-2]'(by show fk-2<4;omega))]:=by
     rw[vF _ (by omega) (by rw[fF];show fk-1<=4;omega),show fk-1-(fk-2)=1 by omega,<- m9,List.drop_eq_getElem_cons (show fk-2<four.length from(by show fk-2<4;omega))];rfl
    rw[ec];generalize (four[fk-2]'(by show fk-2<4;omega))=w at hw;obtain⟨H4,qN,u4,e4⟩:=ZL (o:=.tup [.str w]) hB;rw[qN];clear qN;refine⟨_,rfl,sz1,fun C hC=>?_⟩;obtain⟨H5,qN,u5,e5⟩:=ZL (o:=.tup [v1]) hC;rw[qN];clear qN;refine⟨B,C,_,_,rfl,rfl,on (u5 _ _ e4),on e5,by simp,sz2,fun z=>absurd z (by simp),fun _ T hT=>?_⟩;obtain⟨H6,qN,u6,e6⟩:=ZL (o:=.tup [.str w,v1]) hT;have qN':upd H5 T (.tup ([.str w]++[v1]))=H6:=qN;rw[qN'];clear qN qN';have u26:=u3.trans (u4.trans (u5.trans u6));exact k H6 _ (.node (.op w) [t1]) (x02.trans (Ze.x u26)) ((st2.mono u26).le (by omega)) (at_op1 (on e6) hw.1 (at1.mono (om u26))) (cc_op1 hw.2 ic1) (by rw[Wx];simp;omega)
   have c6:¬((fk:Nat):Int)<6:=fun z=>c (gO z);refine⟨_,rfl,_,rfl,_,rfl,_,_,rfl,rfl,s,nm,nn,m+1+5 ^ (e+1),e,by rw[ed];rfl,by omega,by omega,st2,by omega,hnm2,ln,nnm,nns,fun H3 v2 t2 x3 st3 at2 ic2 zs2=>?_⟩;have x03:=x02.trans x3;have at1':=at1.mono (Zs.tup x3 ho2);refine⟨_,rfl,_,_,rfl,rfl,_,rfl,XN (fun c=>?_) (fun c=>?_)⟩
   ·refine⟨_,rfl,_,rfl,sz2,fun B hB=>?_⟩;obtain⟨H4,qN,u4,e4⟩:=ZL (o:=.tup [v1,v2]) hB;rw[qN];clear qN;refine⟨sz2,fun T hT=>?_⟩;obtain⟨H5,qN,u5,e5⟩:=ZL (o:=.tup [.str "and",.ref B]) hT;rw[qN];clear qN;have u35:=u4.trans u5;exact k H5 _ (.node (.many "and") [t1,t2]) (x03.trans (Ze.x u35)) ((st3.mono u35).le (by omega)) (at_mny (on e5) (on (u5 _ _ e4)) (AtL.two (at1'.mono (om u35)) (at2.mono (om u35))) (.inl rfl) (by show 2<=8;decide)) (cc_and ic1 ic2) (by rw[Wx];simp;omega)
   ·refine⟨sz2,fun A hA=>?_⟩;obtain⟨H4,qN,u4,e4⟩:=ZL (o:=.lst (us2.map V.str)) hA;have qN':upd H3 A (.lst [.str "until",.str "since"])=H4:=qN;rw[qN'];clear qN qN';have em:((fk:Nat):Int)%2=((fk%2:Nat):Int):=by omega
    have hm2:fk%2<2:=Nat.mod_lt _ (by decide);have hw:=us2W _ (fX (show fk%2<us2.length from hm2));refine⟨_,rfl,_,_,rfl,rfl,by decide,A,_,_,.str (us2[fk%2]'hm2),rfl,rfl,oj e4,by rw[em];exact at_strs hm2,_,rfl,_,rfl,sz3,fun T hT=>?_⟩;generalize (us2[fk%2]'hm2)=w at hw;obtain⟨H5,qN,u5,e5⟩:=ZL (o:=.tup [.str w,v1,v2]) hT;rw[qN];clear qN;have u35:=u4.trans u5;exact k H5 _ (.node (.op w) [t1,t2]) (x03.trans (Ze.x u35)) ((st3.mono u35).le (by omega)) (at_op2 (on e5) hw.1 (at1'.mono (om u35)) (at2.mono (om u35))) (cc_op2 hw.2 ic1 ic2) (by rw[Wx];simp;omega)
def qG{r:Nat}(h:r<26):atI ("abcdefghijklmnopqrstuvwxyz" : Str).cps.toList (r:Int)=some (97+r):=by
 have e:(r:Int)%26=(r:Int):=Int.emod_eq_of_lt (by omega) (by omega);have:=letter_is (r:Int);rw[e] at this;exact this
def qY(z:Str):Prop:=∀c∈z.cps.toList,zY c=true
def qY.app{x y:Str}(h:qY x)(g:qY y):qY (x++y):=fun c hc=>by
 have hc':c∈(x.cps++y.cps).toList:=hc;rw[Array.toList_append,fR] at hc';exact hc'.elim (h c) (g c)
def qY.one{r:Nat}(h:r<26):qY ⟨#[97+r]⟩:=fun c hc=>by
 have:c=97+r:=by simpa using hc
 subst this;exact gO ⟨by omega,by omega⟩
def qY.name(h:qY z)(h1:1<=z.length)(h8:z.length<=8):Yf z=true:=by
 unfold Yf;rw[gO h1,gO h8,g9.mpr h];rfl
def qP{c:Nat}:Str.length ⟨#[c]⟩=1:=rfl
def low_nil:qY "" := by unfold qY;decide +kernel
def low_a:qY "a" := by unfold qY;decide +kernel
def vq(K:W.Frag)(a:Adr):Sp:=fun vs H Q _=>∃(s:Addr) (n:Nat),vs=[.ref s]/\YV H s n/\n<1000/\∀H' nm (nn:List Str),Zs s H H'->YV H' s (n+10)->H nm=none->H' nm=some (.lst (nn.map V.str))->nn.length=3->nn.Nodup->(∀x∈nn,Yf x=true)->Q (.ref nm) H'
def vh:Okd P w K mg base a 2 a.y42 a.z42 eT vq:=fun T hw=>by
 refine okF T.bv.f Xu fun de A outer s H vs Q E hr h=>?_;obtain⟨s,n,rfl,hst,hn,k⟩:=h;refine⟨_,(@Zc _ _ _ _ _ (@Zn _ _ (1) _ _ _ _ Xu.nd rfl (.inl rfl) Zz rfl (.inl rfl)) (@Zc _ _ _ _ _ (@Zn _ _ (2) _ _ _ _ Xu.nd rfl (.inl rfl) Zz rfl (.inl rfl)) (@Zc _ _ _ _ _ (Xk gJ rfl (Y8 rfl T.aJ (@Za _ _ _ _ _ (@ZP _ _ _ _ _ _ _ _ Xl Zf (ZA T.aa (ZE T hw) hr rfl rfl (@Za _ _ _ _ _ (pv 0) (@Za _ _ _ _ _ Zf Zb rfl) rfl))) Zb rfl)) (Zo (i:=3) Xu.nd rfl (.inl rfl)) (@Zh _ _ _ (@Zn _ _ (2) _ _ _ _ Xu.nd rfl (.inl rfl) (@ZP _ _ _ _ _ _ _ _ V6 (pv 2) (@Zv _ _ _ _ _ _ _ ix_str (pv 1) (ZA T.aa (ZE T hw) hr rfl rfl (@Za _ _ _ _ _ (pv 0) (@Za _ _ _ _ _ Zf Zb rfl) rfl)) (fun _ _=>rfl))) rfl (.inl rfl)))) (@Zh _ _ _ (@Zm _ _ _ _ (@ZW _ _ _ _ (@Zq _ _ _ _ _ (pv 2) (@Zq _ _ _ _ _ (@ZP _ _ _ _ _ _ _ _ V6 (pv 2) (@Zv _ _ _ _ _ _ _ ix_str (pv 1) (ZA T.aa (ZE T hw) hr rfl rfl (@Za _ _ _ _ _ (pv 0) (@Za _ _ _ _ _ Zf Zb rfl) rfl)) (fun _ _=>rfl))) (@Zq _ _ _ _ _ (@ZP _ _ _ _ _ _ _ _ V6 (@ZP _ _ _ _ _ _ _ _ V6 (@Zv _ _ _ _ _ _ _ ix_str (pv 1) (ZA T.aa (ZE T hw) hr rfl rfl (@Za _ _ _ _ _ (pv 0) (@Za _ _ _ _ _ Zf Zb rfl) rfl)) (fun _ _=>rfl)) (pv 2)) Zz) Zb rfl) rfl) rfl))))))),?_⟩;refine⟨_,rfl,s,5,n,rfl,hst,by omega,by decide,by decide,fun H1 r x1 st1 hr=>⟨_,_,rfl,rfl,_,rfl,by omega,by omega,?_⟩⟩;have er:((1:Int)+(r:Nat)).toNat=r+1:=by omega
 rw[er];refine YM (J:=Itr 0 (r+1)) (n:=r+1) (fun i U G=>∃(z:Option V) (nm:Str),U=[some (.ref s),some (.str "abcdefghijklmnopqrstuvwxyz"),some (.str nm),z]/\Zs s H G/\YV G s (n+1+i)/\qY nm/\nm.length=i) ?_ (fun _ _ _ h _=>h) (fun _ _ _=>fE _) ?_ ?_
 ·exact⟨_,_,rfl,x1,st1,low_nil,rfl⟩
 ·rintro i x U G0 G hi ⟨z,nm,rfl,xG,stG,lo,ll⟩ ⟨rfl,rfl⟩;refine⟨_,rfl,_,rfl,_,rfl,s,26,_,rfl,stG,by omega,by decide,by decide,fun G1 c y1 st1 hc=>?_⟩;refine⟨_,_,_,rfl,rfl,by rw[fJ];decide,qG hc,_,_,rfl,rfl,by rw[ll,qP,fJ];omega,?_⟩;exact⟨_,_,rfl,xG.trans y1,by rw[<- ml];exact st1,lo.app (.one hc),by rw[na,ll];rfl⟩
 rintro U G ⟨z,nm,rfl,xG,stG,lo,ll⟩;refine⟨_,rfl,_,rfl,_,rfl,_,rfl,s,26,_,rfl,stG,by omega,by decide,by decide,fun G1 c y1 st1 hc=>?_⟩;refine⟨_,_,_,rfl,rfl,by rw[fJ];decide,qG hc,_,_,rfl,rfl,by rw[ll,qP,fJ];omega,?_⟩;refine⟨_,rfl,_,rfl,s,26,_,rfl,st1,by omega,by decide,by decide,fun G2 c2 y2 st2 hc2=>?_⟩;refine⟨_,_,_,rfl,rfl,by rw[fJ];decide,qG hc2,_,rfl,_,_,rfl,rfl,by rw[ll,qP,fJ];omega,?_⟩;refine⟨_,_,rfl,rfl,by rw[na,ll,qP,fJ];show 1+(r+1)+1<=_;omega,sz3,fun A hA=>?_⟩;have loA:=low_a;have l1:(nm++(⟨#[97+c]⟩:Str)).length=r+2:=by rw[na,ll];rfl
 have l2:((⟨#[97+c2]⟩:Str)++nm ++ "a").length=r+3:=by rw[na,na,ll,qP];show 1+(r+1)+1=r+3;omega
 obtain⟨G3,qN,u3,e3⟩:=ZL (o:=.lst (([nm,nm++(⟨#[97+c]⟩:Str),(⟨#[97+c2]⟩:Str)++nm ++ "a"]:List Str).map V.str)) hA;have qN':upd G2 A (.lst [.str nm,.str (nm++(⟨#[97+c]⟩:Str)),.str ((⟨#[97+c2]⟩:Str)++nm ++ "a")])=G3:=qN;rw[qN'];clear qN qN';have x02:=xG.trans (y1.trans y2);have nA:A≠s:=fun z=>by obtain⟨o1,ho1⟩:=st2.lst;rw[z,ho1] at hA;cases hA
 refine k G3 A _ (x02.trans (Ze.x u3)) ((st2.mono u3).le (by omega)) (x02.free nA hA) e3 rfl ?_ ?_
 ·have n1:nm≠nm++(⟨#[97+c]⟩:Str):=fun z=>by have:=fS Str.length z;rw[l1,ll] at this;omega
  have n2:nm≠(⟨#[97+c2]⟩:Str)++nm ++ "a" := fun z=>by have:=fS Str.length z;rw[l2,ll] at this;omega
  have n3:nm++(⟨#[97+c]⟩:Str)≠(⟨#[97+c2]⟩:Str)++nm ++ "a" := fun z=>by have:=fS Str.length z;rw[l1,l2] at this;omega
  simp[n1,n2,n3]
 ·intro x hx;simp only[fQ,g6,g7] at hx;rcases hx with rfl|rfl|rfl
  ·exact lo.name (by omega) (by omega)
  ·exact(lo.app (.one hc)).name (by omega) (by omega)
  ·exact(((qY.one hc2).app lo).app loA).name (by omega) (by omega)
structure Mk(nn:List Str)(H0 G:Hp)(SG WY:Addr)(many i:Nat)(sg:List (Addr×List Str))(wy:List (Addr×List Int)):Prop where
 hs:G SG=some (.lst (sg.map fun e=>V.ref e.1))
 hw:G WY=some (.lst (wy.map fun e=>V.ref e.1))
 ls:sg.length=i
 lw:wy.length=i
 es:∀e∈sg,H0 e.1=none/\G e.1=some (.lst (e.2.map V.str))/\e.2.Nodup/\(∀x∈e.2,x∈nn)/\e.2.length<=3
 ew:∀e∈wy,H0 e.1=none/\G e.1=some (.lst (e.2.map V.int))/\e.2.Nodup/\e.2≠[]/\(∀x∈e.2,0<=x/\x<(many:Nat))/\e.2.length<=3
def Mk.step{nn:List Str}{SG WY s:Addr}{many:Nat}(m:Mk nn H0 G SG WY many i sg wy)(n1:SG≠s)(n2:WY≠s)(h0:H0 s=some o)(x:Zs s G G'):Mk nn H0 G' SG WY many i sg wy:=
 ⟨x _ _ n1 m.hs,x _ _ n2 m.hw,m.ls,m.lw,fun e h=>(let ⟨a,b,c⟩:=m.es e h; ⟨a,x _ _ (fun z=>by rw[z,h0] at a;cases a) b,c⟩),fun e h=>(let ⟨a,b,c⟩:=m.ew e h; ⟨a,x _ _ (fun z=>by rw[z,h0] at a;cases a) b,c⟩)⟩
def vd(K:W.Frag)(a:Adr):Sp:=fun vs H Q _=>∃(s nm:Addr) (n:Nat) (nn:List Str),vs=[.ref s,.ref nm]/\YV H s n/\n<1000/\H nm=some (.lst (nn.map V.str))/\nn.length=3/\nn.Nodup/\(∀x∈nn,Yf x=true)/\nm≠s/\∀H' w d,Zs s H H'->ZX a.C_World H' w d->Good d->d.signs.length<=20->Q (.ref w) H'
def vD:Okd P w K mg base a 8 a.y43 a.z43 eV vd:=fun T hw=>by
 refine okF T.bw.f Y9 fun de A outer s H vs Q E hr h=>?_;obtain⟨s,nm,n,nn,rfl,hst,hn,hnm,lnn,nnd,nnm,nns,k⟩:=h;refine⟨_,(@Zc _ _ _ _ _ (@Zn _ _ (2) _ _ _ _ Y9.nd rfl (.inr rfl) (@Zv _ _ _ _ _ _ _ (Zr (K:=K) rfl) (@ZW _ _ _ _ (@Za _ _ _ _ _ (@ZP _ _ _ _ _ _ _ _ Xl Zf (ZA T.aa (ZE T hw) hr rfl rfl (@Za _ _ _ _ _ (pv 0) (@Za _ _ _ _ _ Zf Zb rfl) rfl))) (@Za _ _ _ _ _ Zf Zb rfl) rfl)) (@ZP _ _ _ _ _ _ _ _ US (ZA T.aa (ZE T hw) hr rfl rfl (@Za _ _ _ _ _ (pv 0) (@Za _ _ _ _ _ Zf Zb rfl) rfl)) Zf) (fun _ _=>rfl)) rfl (.inl rfl)) (@Zc _ _ _ _ _ (@Zn _ _ (3) _ _ _ _ Y9.nd rfl (.inl rfl) (@ZW _ _ _ _ Zb) rfl (.inl rfl)) (@Zc _ _ _ _ _ (@Zn _ _ (4) _ _ _ _ Y9.nd rfl (.inl rfl) (@ZW _ _ _ _ Zb) rfl (.inl rfl)) (@Zc _ _ _ _ _ (Xk gJ rfl (Y8 rfl T.aJ (@Za _ _ _ _ _ (pv 2) Zb rfl)) (Zo (i:=5) Y9.nd rfl (.inl rfl)) (@Zc _ _ _ _ _ (@Yh _ _ _ _ (Xv gK gW gX ZY (pv 3) (@Za _ _ _ _ _ (ZR (Nc:=fi) (ix:=[none,some 0]) (ZJ.of (by decide +kernel:ZO (Zg XO) Ua _ _ _=true)) rfl (ZC (K:=K) rfl (pv 1)) (fun _ _ _ _ _=>(Zo (i:=0) (show List.Nodup fi by decide +kernel) rfl (.inl rfl))) (fun _ _ _ _ _=>(Wq (@Zw _ _ _ _ _ _ _ _ Yr (ZA T.aa (ZE T hw) hr rfl rfl (@Za _ _ _ _ _ (pv 1) (@Za _ _ _ _ _ Zf Zb rfl) rfl)) Zf (ZI _)))) (fun _ _ _ _ _=>(pv 0))) Zb rfl)) rfl) (@Zc _ _ _ _ _ (YQ (i:=6) Y9.nd rfl rfl (Nc:=fj) (ix:=[none,some 0,some 2]) (ZJ.of (by decide +kernel:ZO (Zg XO) Ua _ _ _=true)) rfl (Y8 rfl T.aJ (@Za _ _ _ _ _ (@ZP _ _ _ _ _ _ _ _ Xl Zf (ZA T.aa (ZE T hw) hr rfl rfl (@Za _ _ _ _ _ (pv 0) (@Za _ _ _ _ _ Zf Zb rfl) rfl))) Zb rfl)) (fun _ _ _ _ _=>(Zo (i:=0) (show List.Nodup fj by decide +kernel) rfl (.inl rfl))) (fun _ _ _ _ _=>Z0) (fun _ _ _ _ _=>(ZA T.aa (ZE T hw) hr rfl rfl (@Za _ _ _ _ _ (pv 1) (@Za _ _ _ _ _ (pv 2) Zb rfl) rfl)))) (@Zh _ _ _ (@Yh _ _ _ _ (Xv gK gW gX ZY (pv 4) (@Za _ _ _ _ _ (Zl (KD hw rfl) rfl T.bO oB (@Za _ _ _ _ _ (ZM (call_setI (K:=K) rfl hw rfl) rfl T.cG oA (@Za _ _ _ _ _ (pv 6) Zb rfl)) Zb rfl)) Zb rfl)) rfl))))) (@Zh _ _ _ (@Zm _ _ _ _ (pe_make T.cc (qc T hw) (rmL hr rfl) rfl T.cz T.a9.n .nil Yy (@Zq _ _ _ _ _ (pv 3) (@Zq _ _ _ _ _ (pv 4) (@Zq _ _ _ _ _ (@ZW _ _ _ _ (@Za _ _ _ _ _ Zf Zb rfl)) (@Zq _ _ _ _ _ (@ZW _ _ _ _ Zb) Zb rfl) rfl) rfl) rfl)))))))),?_⟩;obtain⟨os,hos⟩:=hst.lst;refine⟨_,rfl,s,6,n,rfl,hst,by omega,by decide,by decide,fun H1a r x1a st1a hr=>⟨_,_,rfl,rfl,sz2,fun A0 hA0=>?_⟩⟩;obtain⟨H1b,qN,u1b,eA0⟩:=ZL (o:=.lst [.int (1+(r:Nat)),.int 20]) hA0;rw[qN];clear qN;have nA0:A0≠s:=fun z=>by obtain⟨o1,ho1⟩:=st1a.lst;rw[z,ho1] at hA0;cases hA0
 refine⟨_,rfl,s,8,n+1,rfl,st1a.mono u1b,by omega,by decide,by decide,fun H1 r8 x1c st1 hr8=>⟨_,_,rfl,rfl,⟨by decide,by decide⟩,?_⟩⟩;have x1:Zs s H H1:=x1a.trans ((Ze.x u1b).trans x1c);obtain⟨many,em,m1,m20⟩:∃many:Nat,atI [V.int (1+(r:Nat)),.int 20] ((r8:Int)/7)=some (.int (many:Nat))/\1<=many/\many<=20:=by
  rcases(show r8/7=0\/r8/7=1 by omega) with z|z
  ·rw[show(r8:Int)/7=((0:Nat):Int) by omega];exact⟨1+r,Zj (j:=0) (by show some (V.int (1+(r:Nat)))=_;congr 2),by omega,by omega⟩
  ·rw[show(r8:Int)/7=((1:Nat):Int) by omega];exact⟨20,Zj (j:=1) rfl,by decide,by decide⟩
 refine⟨A0,_,_,.int (many:Nat),rfl,rfl,oj (x1c _ _ nA0 eA0),em,by decide,fun SG hSG=>?_⟩;obtain⟨H2,qN,s2,eSG⟩:=ZL (o:=.lst []) hSG;rw[qN];clear qN;refine⟨by decide,fun WY hWY=>?_⟩;obtain⟨H3,qN,s3,eWY⟩:=ZL (o:=.lst []) hWY;rw[qN];clear qN;have x3:Zs s H H3:=x1.trans (Ze.x (s2.trans s3));have st3:=st1.mono (s2.trans s3);obtain⟨o3,ho3⟩:=st3.lst;have eSG3:=s3 _ _ eSG;have n1:SG≠s:=fun z=>by
  obtain⟨o1,ho1⟩:=st1.lst;rw[z,ho1] at hSG;cases hSG
 have n2:WY≠s:=fun z=>by
  obtain⟨o1,ho1⟩:=(st1.mono s2).lst;rw[z,ho1] at hWY;cases hWY
 have n3:SG≠WY:=fun z=>by rw[z] at eSG;rw[eSG] at hWY;cases hWY
 have h0SG:H SG=none:=by
  cases e:H SG with
  |none=>rfl
  |some o=>rw[x1 _ _ n1 e] at hSG;cases hSG
 have h0WY:H WY=none:=by
  cases e:H WY with
  |none=>rfl
  |some o=>rw[s2 _ _ (x1 _ _ n2 e)] at hWY;cases hWY
 refine⟨_,rfl,_,rfl,by omega,by omega,?_⟩;refine YM (J:=Itr 0 many) (n:=many) (fun i U G=>∃(z4 z5:Option V) (sg:List (Addr×List Str)) (wy:List (Addr×List Int)),U=[some (.ref s),some (.ref nm),some (.int (many:Nat)),some (.ref SG),some (.ref WY),z4,z5]/\Zs s H G/\YV G s (n+2+10*i)/\Mk nn H3 G SG WY many i sg wy/\∀b o,b≠s->b≠SG->b≠WY->H3 b=some o->G b=some o) ?_ (fun i U H' hi _=>hi) (fun U H' _=>fE _) ?_ ?_
 ·exact⟨_,_,[],[],rfl,x3,(by rw[Nat.mul_zero,Nat.add_zero];exact st3),⟨eSG3,eWY,rfl,rfl,(fun e h=>by cases h),(fun e h=>by cases h)⟩,fun b o _ _ _ e=>e⟩
 ·rintro i x U G0 G hi ⟨z4,z5,sg,wy,rfl,xG,stG,mk,kp⟩ ⟨rfl,rfl⟩;have nSGn:nm≠SG:=fun z=>by rw[<- z,x1 _ _ nns hnm] at hSG;cases hSG
  have nWYn:nm≠WY:=fun z=>by rw[<- z,s2 _ _ (x1 _ _ nns hnm)] at hWY;cases hWY
  have eq:=kp nm _ nns nSGn nWYn ((s2.trans s3) _ _ (x1 _ _ nns hnm));have u1:Ze G G:=.refl _;refine⟨_,rfl,.inl ⟨rfl,_,oj mk.hs⟩,_,rfl,nm,rfl,⟨_,oj eq⟩,fun D hD=>?_⟩;have nq:=nns;have st1':=stG.mono u1;have nD:D≠s:=fun z=>by obtain⟨o1,ho1⟩:=st1'.lst;rw[z,ho1] at hD;cases hD
  refine Yx (J:=Itl K nm) (n:=3) (fun j U F=>∃(y:Option V) (ss:List Str),U=[y,some (.ref s)]/\Zs s G F/\YV F s (n+2+10*i+j)/\F D=some (.lst (ss.map V.str))/\ss.Sublist (nn.take j)) ?_ ?_ ?_ ?_ ?_
  ·exact⟨_,[],rfl,Ze.x (Zi hD),st1'.mono (Zi hD),Zd,List.nil_sublist _⟩
  ·rintro j U F hj ⟨y,ss,rfl,xF,_⟩;exact⟨_,_,oj (xF _ _ nq eq),fG (by rw[fF];omega)⟩
  ·rintro U F ⟨y,ss,rfl,xF,_⟩;exact⟨_,oj (xF _ _ nq eq),by rw[fF];omega⟩
  ·rintro j x U F0 F hj ⟨y,ss,rfl,xF,stF,eD,sub⟩ ⟨rfl,hx⟩ N N0 hN hN0;have ex:=hx _ (oj (xF _ _ nq eq));have hj3:j<nn.length:=by omega
   have ex':x=.str (nn[j]'hj3):=by
    rw[fL,fG hj3] at ex;exact(fY ex).symm
   subst ex';refine⟨_,rfl,s,2,_,rfl,stF,by omega,by decide,by decide,fun F1 r' y1 sty hr'=>⟨rfl,_,rfl,XN (fun c=>⟨_,rfl,?_⟩) (fun c=>?_)⟩⟩
   ·have l1:ss.length<=3:=fU sub.length_le (by rw[gu,lnn];exact nk _ _);refine hN _ _ F1 _ (y1 _ _ nD eD) (by rw[fF,fJ];omega) ⟨_,ss++[nn[j]'hj3],rfl,(xF.trans y1).updN hD,YV.updN nD (by rw[<- ml];exact sty),by rw[Zd,gb];rfl,?_⟩
    ·rw[lO,fG hj3];exact sub.append (List.Sublist.refl _)
   ·refine hN0 _ _ ⟨_,ss,rfl,xF.trans y1,by rw[<- ml];exact sty,y1 _ _ nD eD,?_⟩;rw[lO];exact sub.trans (List.sublist_append_left _ _)
  rintro U F ⟨y,ss,rfl,xF,stF,eD,sub⟩;have mkF:=mk.step n1 n2 ho3 ((Ze.x u1).trans xF);have kpF:∀b o,b≠s->b≠SG->b≠WY->H3 b=some o->F b=some o:=fun b o a1 a2 a3 e=>xF _ _ a1 (u1 _ _ (kp b o a1 a2 a3 e));have nDS:D≠SG:=fun z=>by rw[z,u1 _ _ mk.hs] at hD;cases hD
  have nDW:D≠WY:=fun z=>by rw[z,u1 _ _ mk.hw] at hD;cases hD
  have D0:H3 D=none:=by
   cases e:H3 D with
   |none=>rfl
   |some o=>rw[u1 _ _ (kp D o nD nDS nDW e)] at hD;cases hD
  have xHF:Zs s H F:=xG.trans ((Ze.x u1).trans xF);have lss:ss.length<=3:=fU sub.length_le (by rw[gu,lnn];exact nk _ _);refine⟨SG,_,_,rfl,rfl,mkF.hs,by rw[fF,mkF.ls,fJ];omega,?_⟩;obtain⟨F2,qN⟩:∃F2,upd F SG (.lst ((sg.map fun e=>V.ref e.1)++[.ref D]))=F2:=⟨_,rfl⟩;have xHF2:Zs s H F2:=by rw[<- qN];exact xHF.updN h0SG
  have stF2:YV F2 s (n+2+10*i+3):=by rw[<- qN];exact YV.updN n1 stF
  have hs2:F2 SG=some (.lst ((sg++[(D,ss)]).map fun e=>V.ref e.1)):=by rw[<- qN,Zd,gb];rfl
  have ot2:∀b o,b≠SG->F b=some o->F2 b=some o:=fun b o n e=>by rw[<- qN,Zx n];exact e
  have kpF2:∀b o,b≠s->b≠SG->b≠WY->H3 b=some o->F2 b=some o:=fun b o a1 a2 a3 e=>ot2 _ _ a2 (kpF b o a1 a2 a3 e);have hw2:F2 WY=some (.lst (wy.map fun e=>V.ref e.1)):=ot2 _ _ (fT n3) mkF.hw;have nSG:∀{b:Addr},H3 b=none->b≠SG:=fun h z=>by rw[z,eSG3] at h;cases h
  have nWY:∀{b:Addr},H3 b=none->b≠WY:=fun h z=>by rw[z,eWY] at h;cases h
  have nS:∀{b:Addr},H3 b=none->b≠s:=fun h z=>by rw[z,ho3] at h;cases h
  have es2:∀e∈sg++[(D,ss)],H3 e.1=none/\F2 e.1=some (.lst (e.2.map V.str))/\e.2.Nodup/\(∀x∈e.2,x∈nn)/\e.2.length<=3:=fun e he=>by
   rcases fR.mp he with he|he
   ·obtain⟨a1,a2,a3⟩:=mkF.es e he;exact⟨a1,ot2 _ _ (nSG a1) a2,a3⟩
   ·rw[fW] at he;subst he;exact⟨D0,ot2 _ _ nDS eD,sub.nodup ((List.take_sublist _ _).nodup nnd),fun x hx=>(List.take_sublist _ _).subset (sub.subset hx),lss⟩
  have ew2:∀e∈wy,H3 e.1=none/\F2 e.1=some (.lst (e.2.map V.int))/\e.2.Nodup/\e.2≠[]/\(∀x∈e.2,0<=x/\x<(many:Nat))/\e.2.length<=3:=fun e he=>by
   obtain⟨a1,a2,a3⟩:=mkF.ew e he;exact⟨a1,ot2 _ _ (nSG a1) a2,a3⟩
  rw[qN];have lsg:(sg++[(D,ss)]).length=i+1:=by rw[fK,mk.ls];rfl
  have lwy:=mk.lw;generalize sg++[(D,ss)]=sg' at hs2 es2 lsg;clear qN ot2 kpF nDS nDW D0 mkF lss xF xHF stF eD sub st1' mk;refine⟨_,rfl,s,3,_,rfl,stF2,by omega,by decide,by decide,fun F3 r3 y3 st3' hr3=>⟨_,_,rfl,rfl,_,rfl,by omega,by omega,fun D2 hD2=>?_⟩⟩;have e3:((1:Int)+(r3:Nat)).toNat=r3+1:=by omega
  rw[e3];have nD2:D2≠s:=fun z=>by obtain⟨o1,ho1⟩:=st3'.lst;rw[z,ho1] at hD2;cases hD2
  refine Yx (J:=Itr 0 (r3+1)) (n:=r3+1) (fun j U F=>∃(y:Option V) (ns:List Int),U=[y,some (.ref s),some (.int (many:Nat))]/\Zs s F3 F/\YV F s (n+2+10*i+4+j)/\F D2=some (.lst (ns.map V.int))/\ns.length=j/\∀x∈ns,0<=x/\x<(many:Nat)) ?_ (fun _ _ _ h _=>h) (fun _ _ _=>fE _) ?_ ?_
  ·exact⟨_,[],rfl,Ze.x (Zi hD2),st3'.mono (Zi hD2),Zd,rfl,fun x h=>by cases h⟩
  ·rintro j x U F0 F4 hj ⟨y,ns,rfl,xF4,stF4,eD4,ln,hb⟩ ⟨rfl,rfl⟩ N N0 hN hN0;refine UN (te:=tCall (U7 K a) [] E0 (tCons (tVar 1) (tCons (tVar 2) tNil))) (U:=[some (.int (0+(j:Nat))),some (.ref s),some (.int (many:Nat))]) (H:=F4) (N:=fun v H5=>N v [some (.int (0+(j:Nat))),some (.ref s),some (.int (many:Nat))] H5) (N0:=fun H4=>N0 [some (.int (0+(j:Nat))),some (.ref s),some (.int (many:Nat))] H4) ?_;refine⟨_,rfl,_,rfl,s,many,_,rfl,stF4,by omega,by omega,by omega,fun F5 v y5 st5 hv=>?_⟩;refine hN _ _ F5 _ (y5 _ _ nD2 eD4) (by rw[fF,ln,fJ];omega) ⟨_,ns++[(v:Int)],rfl,(xF4.trans y5).updN hD2,YV.updN nD2 (by rw[<- ml];exact st5),by rw[Zd,gb];rfl,by rw[fK,ln];rfl,fun x hx=>?_⟩;rcases fR.mp hx with hx|hx
   ·exact hb x hx
   ·rw[fW] at hx;subst hx;omega
  rintro U F4 ⟨y,ns,rfl,xF4,stF4,eD4,ln,hb⟩;have x34:Zs s F2 F4:=y3.trans xF4;refine⟨_,rfl,.inl ⟨rfl,_,oj (x34 _ _ n2 hw2)⟩,_,rfl,D2,ns,rfl,oj eD4,by omega,fun S hS=>?_⟩;obtain⟨F5,qN,u5,eS⟩:=ZL (o:=SzO a.Pm S ns) hS;rw[qN];clear qN;refine⟨S,ns,rfl,eS,by omega,fun L us hL nd hsub hle hne=>?_⟩;obtain⟨F6,qN,u6,eL⟩:=ZL (o:=.lst (us.map V.int)) hL;rw[qN];clear qN;have x46:Zs s F2 F6:=x34.trans (Ze.x (u5.trans u6));have st6:=stF4.mono (u5.trans u6);have hw6:=x46 _ _ n2 hw2;have nL:L≠s:=fun z=>by obtain⟨o1,ho1⟩:=(stF4.mono u5).lst;rw[z,ho1] at hL;cases hL
  have nLS:L≠SG:=fun z=>by rw[z,u5 _ _ (x34 _ _ n1 hs2)] at hL;cases hL
  have nLW:L≠WY:=fun z=>by rw[z,u5 _ _ (x34 _ _ n2 hw2)] at hL;cases hL
  have L0:H3 L=none:=by
   cases e:H3 L with
   |none=>rfl
   |some o=>rw[u5 _ _ (x34 _ _ nL (kpF2 L o nL nLS nLW e))] at hL;cases hL
  refine⟨WY,_,_,rfl,rfl,hw6,by rw[fF,lwy,fJ];omega,?_⟩;refine⟨_,_,sg',wy++[(L,us)],rfl,(xHF2.trans x46).updN h0WY,YV.updN n2 (st6.le (by omega)),⟨by rw[Zx n3];exact x46 _ _ n1 hs2,by rw[Zd,gb];rfl,lsg,by rw[fK,lwy];rfl,fun e he=>?_,fun e he=>?_⟩,fun b o a1 a2 a3 e=>by rw[Zx a3];exact x46 _ _ a1 (kpF2 b o a1 a2 a3 e)⟩
  ·obtain⟨a1,a2,a3⟩:=es2 e he;exact⟨a1,by rw[Zx (nWY a1)];exact x46 _ _ (nS a1) a2,a3⟩
  ·rcases fR.mp he with he|he
   ·obtain⟨a1,a2,a3⟩:=ew2 e he;exact⟨a1,by rw[Zx (nWY a1)];exact x46 _ _ (nS a1) a2,a3⟩
   ·rw[fW] at he;subst he;refine⟨L0,by rw[Zx nLW];exact eL,nd,hne (fun z=>by rw[z] at ln;cases ln),fun x hx=>hb x (hsub x hx),by show us.length<=3;omega⟩
 rintro U G ⟨z4,z5,sg,wy,rfl,xG,stG,mk,kp⟩;refine⟨_,rfl,_,rfl,sz1,fun L3 hL3=>?_⟩;obtain⟨G1,qN,u1,e3⟩:=ZL (o:=.lst [.int 0]) hL3;rw[qN];clear qN;refine⟨by decide,fun L4 hL4=>?_⟩;obtain⟨G2,qN,u2,e4⟩:=ZL (o:=.lst []) hL4;rw[qN];clear qN;have u12:=u1.trans u2;intro o dw no ndw new;have sm:Ze G2 (upd (upd G2 dw (.own o)) o (.ins a.C_World dw [])):=(Zi ndw).trans (Zi (by rw[Zx (fT new)];exact no));have mk2:=mk.step n1 n2 ho3 (Ze.x u12);have pp:Wf G2 (.ref SG) (.ref WY) (.ref L3) (.ref L4) ⟨sg.map Prod.snd,wy.map Prod.snd,[0],[]⟩:=by
  refine⟨⟨SG,_,rfl,mk2.hs,by rw[fF,fF],fun i v x h1 h2=>?_⟩,⟨WY,_,rfl,mk2.hw,by rw[fF,fF],fun i v x h1 h2=>?_⟩,⟨L3,rfl,u2 _ _ e3⟩,⟨L4,rfl,e4⟩⟩
  ·rw[fL] at h1 h2;obtain⟨e,g1,rfl⟩:=iF.mp h1;rw[g1] at h2;cases h2;exact⟨_,rfl,(mk2.es e (gj g1)).2.1⟩
  ·rw[fL] at h1 h2;obtain⟨e,g1,rfl⟩:=iF.mp h1;rw[g1] at h2;cases h2;exact⟨_,rfl,(mk2.ew e (gj g1)).2.1⟩
 have ld:(sg.map Prod.snd).length=many:=by rw[fF,mk2.ls]
 have gd:Good ⟨sg.map Prod.snd,wy.map Prod.snd,[0],[]⟩:=by
  refine⟨by rw[ld];omega,by rw[ld];omega,by rw[ld,fF,mk2.lw],fun ss hs=>?_,fun ns hs=>?_,⟨(by decide:[(0:Int)].Nodup),(by decide:[(0:Int)]≠[]),fun x hx=>?_,(by decide:[(0:Int)].length<=20)⟩,⟨iG,(fun x hx=>by cases hx),gB _⟩⟩
  ·obtain⟨e,he,rfl⟩:=gn.mp hs;obtain⟨_,_,a3,a4,a5⟩:=mk2.es e he;exact⟨a3,fun x hx=>nnm x (a4 x hx),by omega⟩
  ·obtain⟨e,he,rfl⟩:=gn.mp hs;obtain⟨_,_,a3,a4,a5,a6⟩:=mk2.ew e he;exact⟨a3,a4,fun x hx=>by rw[ld];exact a5 x hx,by omega⟩
  ·rw[fW] at hx;subst hx;rw[ld];omega
 exact⟨o,dw,_,_,_,_,_,rfl,Zd,pp.mono sm,gd,fun H5 x5 wa=>⟨rfl,k _ o _ (fun b u nb e=>x5 b u (ZT (u12 _ _ (xG _ _ nb e)) no) (sm b u (u12 _ _ (xG _ _ nb e)))) wa gd (by rw[ld];omega)⟩⟩
def Jz(xs:List V)(h:1<=xs.length):W7 xs none (some (-1))=xs.take (xs.length-1):=by
 unfold W7;have e:HT.sIx xs.length xs.length (some (-1))=xs.length-1:=by
  show(if(-1:Int)<0 then((-1:Int)+(xs.length:Nat)).toNat else min (-1:Int).toNat xs.length)=_
  rw[if_pos (by decide)];omega
 have e0:HT.sIx xs.length 0 none=0:=rfl;rw[e,e0,List.drop_zero,Nat.sub_zero]
def Jg(K:W.Frag)(a:Adr):Sp:=fun vs H Q _=>∃(s w:Addr) (n:Nat) (d:WD),vs=[.ref s,.ref w]/\YV H s n/\n<1000/\ZX a.C_World H w d/\Good d/\d.signs.length<=20/\∀H' rn way ring,Zs s H H'->qg H' rn d.signs.length way ring->(way++ring).length<=31->Q (.ref rn) H'
def Jp:Okd P w K mg base a 2 a.y44 a.z44 eX Jg:=fun T hw=>by
 refine okF T.bR.f YF fun de A outer s H vs Q E hr h=>?_;obtain⟨s,w,n,d,rfl,hst,hn,hw0,gd,n6,k⟩:=h;refine⟨_,(@Zc _ _ _ _ _ (@Zn _ _ (2) _ _ _ _ YF.nd rfl (.inr rfl) (@ZW _ _ _ _ (@Za _ _ _ _ _ (ZA T.aa (ZE T hw) hr rfl rfl (@Za _ _ _ _ _ (pv 0) (@Za _ _ _ _ _ (VE (pv 1) T.aj T.ab.m (Y6 T hw) (rmL hr rfl) T.ab.n .nil Yy) Zb rfl) rfl)) Zb rfl)) rfl (.inl rfl)) (@Zc _ _ _ _ _ (Xk gJ rfl (Y8 rfl T.aJ (@Za _ _ _ _ _ (@ZP _ _ _ _ _ _ _ _ Xl Zf (ZA T.aa (ZE T hw) hr rfl rfl (@Za _ _ _ _ _ (pv 0) (@Za _ _ _ _ _ Zf Zb rfl) rfl))) Zb rfl)) (Zo (i:=3) YF.nd rfl (.inl rfl)) (@Zc _ _ _ _ _ (@Zn _ _ (4) _ _ _ _ YF.nd rfl (.inl rfl) (Wr (pv 1) T.aj T.ah.m (Wb T hw) (rmL hr rfl) T.ah.n .nil Yy (@Za _ _ _ _ _ (@Zv _ _ _ _ _ _ _ (Zr (K:=K) rfl) (pv 2) (Vq XZ Zf) (fun _ _=>rfl)) Zb rfl)) rfl (.inl rfl)) (@Zh _ _ _ (@Yh _ _ _ _ (Xv gK gW gX ZY (pv 2) (@Za _ _ _ _ _ (@Zv _ _ _ _ _ _ _ (Zr (K:=K) rfl) (pv 4) (ZA T.aa (ZE T hw) hr rfl rfl (@Za _ _ _ _ _ (pv 0) (@Za _ _ _ _ _ (Zl (Zu (K:=K) rfl) rfl T.ay ox (@Za _ _ _ _ _ (pv 4) Zb rfl)) Zb rfl) rfl)) (fun _ _=>rfl)) Zb rfl)) rfl)))) (@Zc _ _ _ _ _ (VN gJ (@Zw _ _ _ _ _ _ _ _ (zQ (K:=K) rfl) (@Zv _ _ _ _ _ _ _ (Zr (K:=K) rfl) (pv 2) (Vq XZ Zf) (fun _ _=>rfl)) (Z8 (Y0 (K:=K) rfl) (pv 2) Ys (Z5 (Vq XZ Zf))) (by with_unfolding_all rfl)) (@Zc _ _ _ _ _ (@Zn _ _ (4) _ _ _ _ YF.nd rfl (.inl rfl) (Wr (pv 1) T.aj T.ah.m (Wb T hw) (rmL hr rfl) T.ah.n .nil Yy (@Za _ _ _ _ _ (@Zv _ _ _ _ _ _ _ (Zr (K:=K) rfl) (pv 2) (Vq XZ Zf) (fun _ _=>rfl)) Zb rfl)) rfl (.inl rfl)) (@Zh _ _ _ (@Yh _ _ _ _ (Xv gK gW gX ZY (pv 2) (@Za _ _ _ _ _ (@Zv _ _ _ _ _ _ _ (Zr (K:=K) rfl) (pv 4) (ZA T.aa (ZE T hw) hr rfl rfl (@Za _ _ _ _ _ (pv 0) (@Za _ _ _ _ _ (Zl (Zu (K:=K) rfl) rfl T.ay ox (@Za _ _ _ _ _ (pv 4) Zb rfl)) Zb rfl) rfl)) (fun _ _=>rfl)) Zb rfl)) rfl)))) (@Zc _ _ _ _ _ (YQ (i:=5) YF.nd rfl rfl (Nc:=["_law_k","_law_rooms"]) (ix:=[none,some 2]) (ZJ.of (by decide +kernel:ZO (Zg Vh) qE _ _ _=true)) rfl (pi_range2 rfl T.aJ (@Za _ _ _ _ _ Zf (@Za _ _ _ _ _ (Zl (Zu (K:=K) rfl) rfl T.ay ox (@Za _ _ _ _ _ (pv 2) Zb rfl)) Zb rfl) rfl)) (fun _ _ _ _ _=>(Zo (i:=0) (show List.Nodup (["_law_k","_law_rooms"]:List Str) by decide +kernel) rfl (.inl rfl))) (fun _ _ _ _ _=>(Wq (@Zw _ _ _ _ _ _ _ _ (WB (K:=K) rfl) (@Zv _ _ _ _ _ _ _ (Zr (K:=K) rfl) (pv 1) (pv 0) (fun _ _=>rfl)) (Z8 (Y0 (K:=K) rfl) (pv 1) Ys (Z5 (pv 0))) (by with_unfolding_all rfl)))) (fun _ _ _ _ _=>(pv 0))) (@Zc _ _ _ _ _ (@Zn _ _ (6) _ _ _ _ YF.nd rfl (.inr rfl) (@Zv _ _ _ _ _ _ _ (Zr (K:=K) rfl) (pv 5) (ZA T.aa (ZE T hw) hr rfl rfl (@Za _ _ _ _ _ (pv 0) (@Za _ _ _ _ _ (Zl (Zu (K:=K) rfl) rfl T.ay ox (@Za _ _ _ _ _ (pv 5) Zb rfl)) Zb rfl) rfl)) (fun _ _=>rfl)) rfl (.inl rfl)) (@Zc _ _ _ _ _ (YQ (i:=7) YF.nd rfl rfl (Nc:=fq) (ix:=[none,some 2,some 6]) (ZJ.of (by decide +kernel:ZO (Zg Vh) qE _ _ _=true)) rfl (Y8 rfl T.aJ (@Za _ _ _ _ _ (pv 6) Zb rfl)) (fun _ _ _ _ _=>(Zo (i:=0) (show List.Nodup fq by decide +kernel) rfl (.inl rfl))) (fun _ _ _ _ _=>(Wq (@Zw _ _ _ _ _ _ _ _ Yr (@Zv _ _ _ _ _ _ _ (Zr (K:=K) rfl) (pv 1) (pv 0) (fun _ _=>rfl)) (@Zv _ _ _ _ _ _ _ (Zr (K:=K) rfl) (pv 1) (pv 2) (fun _ _=>rfl)) (ZI _)))) (fun _ _ _ _ _=>(pv 0))) (@Zc _ _ _ _ _ (@Zn _ _ (8) _ _ _ _ YF.nd rfl (.inl rfl) (@Zv _ _ _ _ _ _ _ (Zr (K:=K) rfl) (pv 7) (ZA T.aa (ZE T hw) hr rfl rfl (@Za _ _ _ _ _ (pv 0) (@Za _ _ _ _ _ (Zl (Zu (K:=K) rfl) rfl T.ay ox (@Za _ _ _ _ _ (pv 7) Zb rfl)) Zb rfl) rfl)) (fun _ _=>rfl)) rfl (.inl rfl)) (@Zh _ _ _ (@Zm _ _ _ _ (@ZV _ _ _ _ _ (@Za _ _ _ _ _ (Z8 (Y0 (K:=K) rfl) (pv 2) Ys (Z5 (pv 8))) (@Za _ _ _ _ _ (Z8 (Y0 (K:=K) rfl) (pv 2) (Z5 (pv 8)) (Z5 (pv 6))) Zb rfl) rfl))))))))))),?_⟩;obtain⟨os,hos⟩:=hst.lst;obtain⟨dx,fs,ho,hk0⟩:=yz hw0;have n1:=gd.n1;refine⟨_,rfl,_,rfl,w,dx,fs,rfl,ho,hk0,w,d,rfl,hw0,s,d.signs.length,n,rfl,hst,by omega,by omega,by omega,fun H1 r x1 st1 hr=>⟨sz1,fun R hR=>?_⟩⟩;obtain⟨H2,qN,s2,eR⟩:=ZL (o:=.lst [.int (r:Nat)]) hR;rw[qN];clear qN;have st2:=st1.mono s2;have x2:=x1.trans (Ze.x s2);have nR:R≠s:=fun z=>by obtain⟨o1,ho1⟩:=st1.lst;rw[z,ho1] at hR;cases hR
 have R0:H R=none:=x1.free nR hR;refine⟨_,rfl,s,4,_,rfl,st2,by omega,by decide,by decide,fun H3 r2 x3 st3 hr2=>⟨_,_,rfl,rfl,_,rfl,by omega,by omega,?_⟩⟩;have e7:((7:Int)+(r2:Nat)).toNat=r2+7:=by omega
 rw[e7];refine YM (J:=Itr 0 (r2+7)) (n:=r2+7) (fun i U G=>∃(z3 z4:Option V) (rs:List Int),U=[some (.ref s),some (.ref w),some (.ref R),z3,z4,none,none,none,none]/\Zs s H G/\YV G s (n+2+i)/\G R=some (.lst (rs.map V.int))/\rs.length=i+1/\∀x∈rs,0<=x/\x<(d.signs.length:Nat)) ?_ (fun _ _ _ h _=>h) (fun _ _ _=>fE _) ?_ ?_
 ·exact⟨_,_,[(r:Int)],rfl,x2.trans x3,st3,x3 _ _ nR eR,rfl,fun x hx=>by rw[fW] at hx;subst hx;omega⟩
 ·rintro i x U G0 G hi ⟨z3,z4,rs,rfl,xG,stG,gR,lr,hb⟩ ⟨rfl,rfl⟩;have wG:=ZX.x hos xG hw0;obtain⟨dx2,fs2,ho2,hk2⟩:=qy wG;have hat:atI (rs.map V.int) (-1)=some (.int (rs[rs.length-1]'(by omega))):=by
   rw[show(-1:Int)=-((1:Nat):Int) from rfl,zg (fE 1) (by rw[fF];omega),iK];simp only[fF]
  have hl:=hb _ (fX (show rs.length-1<rs.length by omega));generalize (rs[rs.length-1]'(by omega))=y at hat hl;obtain⟨y,rfl⟩:=mz hl.1;have hyl:y<d.ways.length:=by rw[gd.wl];omega
  have hwy:d.ways[y]?=some d.ways[y]:=fG hyl;obtain⟨_,wne,wb,wl⟩:=gd.wn _ (fX hyl);generalize d.ways[y]=ws at hwy wne wb wl;refine⟨_,rfl,w,dx2,fs2,rfl,ho2,hk2,_,rfl,_,rfl,R,_,_,_,rfl,rfl,oj gR,hat,w,d,y,ws,rfl,wG,hwy,fun L hL=>?_⟩;obtain⟨G1,qN,u1,eL⟩:=ZL (o:=.lst ((Z7 ws).map V.int)) hL;rw[qN];clear qN;have st1':=stG.mono u1;have nL:L≠s:=fun z=>by obtain⟨o1,ho1⟩:=stG.lst;rw[z,ho1] at hL;cases hL
  have lso:(Z7 ws).length=ws.length:=(XB ws).length_eq;have lpos:0<ws.length:=iR.mpr wne;refine⟨_,rfl,.inl ⟨rfl,_,oj (u1 _ _ gR)⟩,_,rfl,_,rfl,_,rfl,.inl ⟨L,_,rfl,.inl (oj eL),?_⟩⟩;rw[fF,lso];refine⟨s,ws.length,_,rfl,st1',by omega,lpos,by omega,fun G2 v y2 st2' hv=>?_⟩;have hsv:((Z7 ws).map V.int)[v]?=some (.int ((Z7 ws)[v]'(by omega))):=by rw[fL,fG (by omega)];rfl
  have hvb:=wb _ ((XB ws).mem_iff.mp (fX (show v<(Z7 ws).length by omega)));generalize ((Z7 ws)[v]'(by omega))=yv at hsv hvb;refine⟨L,_,_,_,rfl,rfl,oj (y2 _ _ nL eL),Zj hsv,R,_,_,rfl,rfl,y2 _ _ nR (u1 _ _ gR),by rw[fF,lr,fJ];omega,?_⟩;refine⟨_,_,rs++[yv],rfl,(xG.trans ((Ze.x u1).trans y2)).updN R0,YV.updN nR (by rw[<- ml];exact st2'),by rw[Zd,gb];rfl,by rw[fK,lr];rfl,fun x hx=>?_⟩;rcases fR.mp hx with hx|hx
  ·exact hb x hx
  ·rw[fW] at hx;subst hx;exact hvb
 rintro U G ⟨z3,z4,rs,rfl,xG,stG,gR,lr,hb⟩;refine⟨fun m U G=>∃(z3 z4:Option V) (rs ds:List Int) (c:Nat),U=[some (.ref s),some (.ref w),some (.ref R),z3,z4,none,none,none,none]/\Zs s H G/\YV G s (n+2+c)/\G R=some (.lst (rs.map V.int))/\rs.length=c+1/\(∀x∈rs,0<=x/\x<(d.signs.length:Nat))/\ds.Nodup/\(∀x∈ds,x∈rs.take (rs.length-1))/\ds.length+m=21/\c+m=r2+28,⟨21,_,_,rs,[],_,rfl,xG,stG,gR,lr,hb,iG,(fun x h=>by cases h),rfl,by omega⟩,?_⟩;clear xG stG gR lr hb rs;rintro m U G ⟨z3,z4,rs,ds,c,rfl,xG,stG,gR,lr,hb,nds,hds,ld,lc⟩;have hat:atI (rs.map V.int) (-1)=some (.int (rs[rs.length-1]'(by omega))):=by
  rw[show(-1:Int)=-((1:Nat):Int) from rfl,zg (fE 1) (by rw[fF];omega),iK];simp only[fF]
 have hl:=hb _ (fX (show rs.length-1<rs.length by omega));have hlm:rs[rs.length-1]'(by omega)∈rs:=fX _;have hlast:rs.getD (rs.length-1) 0=rs[rs.length-1]'(by omega):=by rw[i6,fG (by omega)];rfl
 refine⟨_,rfl,_,rfl,R,_,_,_,rfl,rfl,oj gR,hat,?_⟩;generalize (rs[rs.length-1]'(by omega))=y at hat hl hlm hlast;refine⟨_,rfl,_,rfl,_,rfl,R,_,rfl,oj gR,fun c0 hc0=>?_⟩;rw[Jz _ (by rw[fF];omega),fF,<- iT];obtain⟨G1,qN,u0,ec0⟩:=ZL (o:=.lst ((rs.take (rs.length-1)).map V.int)) hc0;rw[qN];clear qN
 replace xG:=xG.trans (Ze.x u0)
 replace stG:=stG.mono u0
 replace gR:=u0 _ _ gR
 refine⟨c0,_,rfl,.inl (oj ec0),rfl,VF _,?_⟩;rw[if_pos rfl,qR];clear ec0 u0 hc0 c0 G;generalize G1=G at xG stG gR;refine⟨_,rfl,XN (fun cw=>?_) (fun cw=>?_)⟩
 ·have hnm:y∉rs.take (rs.length-1):=by simpa using cw
  have nd':(ds++[y]).Nodup:=by
   rw[lI];refine⟨nds,(by simp),fun a ha b hb2 e=>?_⟩;rw[fW] at hb2;subst e;subst hb2;exact hnm (hds _ ha)
  have l20:=jW nd' (M:=d.signs.length) (fun x hx=>by
   rcases fR.mp hx with hx|hx
   ·exact hb x (nN (hds x hx))
   ·rw[fW] at hx;subst hx;exact hl)
  rw[fK] at l20;have l20':ds.length+1<=20:=fU l20 n6;have hyr:y∈rs:=hlm;refine⟨fun σ' G'=>∃(z3 z4:Option V) (yv:Int),σ'=[some (.ref s),some (.ref w),some (.ref R),z3,z4,none,none,none,none]/\Zs s H G'/\YV G' s (n+2+c+1)/\G' R=some (.lst ((rs++[yv]).map V.int))/\0<=yv/\yv<(d.signs.length:Nat),?_,?_⟩
  ·rintro σ' G' ⟨z3,z4,yv,rfl,xG',stG',gR',hvb⟩;refine⟨m-1,by omega,z3,z4,rs++[yv],ds++[y],c+1,rfl,xG',stG',gR',by rw[fK,lr];rfl,fun x hx=>?_,nd',fun x hx=>?_,by rw[fK];show _+1+_=_;omega,by omega⟩
   ·rcases fR.mp hx with hx|hx
    ·exact hb x hx
    ·rw[fW] at hx;subst hx;exact hvb
   ·have e:(rs++[yv]).take ((rs++[yv]).length-1)=rs:=by
     rw[fK]
     show(rs++[yv]).take (rs.length+1-1)=rs
     rw[Nat.add_sub_cancel,List.take_left]
    rw[e];rcases fR.mp hx with hx|hx
    ·exact nN (hds x hx)
    ·rw[fW] at hx;subst hx;exact hyr
  have wG:=ZX.x hos xG hw0;obtain⟨dx2,fs2,ho2,hk2⟩:=qy wG;clear hlast hlm hyr nd' hnm l20 cw;obtain⟨y,rfl⟩:=mz hl.1;have hyl:y<d.ways.length:=by rw[gd.wl];omega
  have hwy:d.ways[y]?=some d.ways[y]:=fG hyl;obtain⟨_,wne,wb,wl⟩:=gd.wn _ (fX hyl);generalize d.ways[y]=ws at hwy wne wb wl;refine⟨_,rfl,w,dx2,fs2,rfl,ho2,hk2,_,rfl,_,rfl,R,_,_,_,rfl,rfl,oj gR,hat,w,d,y,ws,rfl,wG,hwy,fun L hL=>?_⟩;obtain⟨G1,qN,u1,eL⟩:=ZL (o:=.lst ((Z7 ws).map V.int)) hL;rw[qN];clear qN;have st1':=stG.mono u1;have nL:L≠s:=fun z=>by obtain⟨o1,ho1⟩:=stG.lst;rw[z,ho1] at hL;cases hL
  have lso:(Z7 ws).length=ws.length:=(XB ws).length_eq;have lpos:0<ws.length:=iR.mpr wne;refine⟨_,rfl,.inl ⟨rfl,_,oj (u1 _ _ gR)⟩,_,rfl,_,rfl,_,rfl,.inl ⟨L,_,rfl,.inl (oj eL),?_⟩⟩;rw[fF,lso];refine⟨s,ws.length,_,rfl,st1',by omega,lpos,by omega,fun G2 v y2 st2' hv=>?_⟩;have hsv:((Z7 ws).map V.int)[v]?=some (.int ((Z7 ws)[v]'(by omega))):=by rw[fL,fG (by omega)];rfl
  have hvb:=wb _ ((XB ws).mem_iff.mp (fX (show v<(Z7 ws).length by omega)));generalize ((Z7 ws)[v]'(by omega))=yv at hsv hvb;refine⟨L,_,_,_,rfl,rfl,oj (y2 _ _ nL eL),Zj hsv,R,_,_,rfl,rfl,y2 _ _ nR (u1 _ _ gR),by rw[fF,lr,fJ];omega,?_⟩;exact⟨_,_,yv,rfl,(xG.trans ((Ze.x u1).trans y2)).updN R0,YV.updN nR st2',by rw[Zd,gb];rfl,hvb⟩
 have hlm':y∈rs.take (rs.length-1):=by simpa using cw
 refine⟨_,rfl,.inl ⟨R,_,rfl,.inl (oj gR),?_⟩⟩;rw[fF,lr];refine⟨_,_,rfl,⟨by decide,by decide,by omega,by omega⟩,fun D hD=>?_⟩;have en:(((c+1:Nat):Int)-1).toNat=c:=by omega
 rw[en];have rk:∀(j:Nat),j<rs.length->atI (rs.map V.int) (j:Int)=some (.int (rs.getD j 0)):=fun j hj=>by
  refine Zj ?_;rw[fL,fG hj,i6,fG hj];rfl
 refine Yx (J:=Itr 1 c) (n:=c) (fun j U F=>∃(y:Option V) (ks:List Nat),U=[y,some (.ref R)]/\Ze G F/\F D=some (.lst ((ks.map fun q:Nat=>(q:Int)).map V.int))/\ks.length<=j/\(∀q∈ks,1<=q/\q<rs.length/\rs.getD q 0∈rs.take q)/\∀q:Nat,1<=q->q<1+j->rs.getD q 0∈rs.take q->q∈ks) ?_ (fun _ _ _ h _=>h) (fun _ _ _=>fE _) ?_ ?_
 ·exact⟨_,[],rfl,Zi hD,Zd,fE _,(fun q h=>by cases h),fun q h1 h2=>by omega⟩
 ·rintro j x U F0 F hj ⟨y,ks,rfl,sF,eD,lk,h1,h2⟩ ⟨rfl,rfl⟩ N N0 hN hN0;have ej:(1:Int)+(j:Nat)=((1+j:Nat):Int):=by omega
  rw[ej];refine⟨_,rfl,_,rfl,R,_,_,_,rfl,rfl,oj (sF _ _ gR),rk (1+j) (by omega),_,rfl,_,rfl,_,rfl,R,_,rfl,oj (sF _ _ gR),fun c9 hc9=>?_⟩;rw[VM,<- iT];obtain⟨F1,qN,u1,ec⟩:=ZL (o:=.lst ((rs.take (1+j)).map V.int)) hc9;rw[qN];clear qN;refine⟨c9,_,rfl,.inl (oj ec),rfl,VF _,?_⟩;rw[if_neg gk,qR];refine⟨_,rfl,XN (fun c=>⟨_,rfl,?_⟩) (fun c=>?_)⟩
  ·have hm:=gi c;refine hN _ _ F1 _ (u1 _ _ eD) (by rw[fF,fF,fJ];omega) ⟨_,ks++[1+j],rfl,(Zs.upd (Ze.x (sF.trans u1))).same hD,by rw[Zd,gb,gb];rfl,by rw[fK];show _+1<=_;omega,fun q hq=>?_,fun q a1 a2 a3=>?_⟩
   ·rcases fR.mp hq with hq|hq
    ·exact h1 q hq
    ·rw[fW] at hq;subst hq;exact⟨by omega,by omega,hm⟩
   ·by_cases cq:q<1+j
    ·exact g8 _ (h2 q a1 cq a3)
    ·have:q=1+j:=by omega
     subst this;exact gz _ (by simp)
  ·have hm:=mh (Bool.eq_false_iff.mpr c);refine hN0 _ F1 ⟨_,ks,rfl,sF.trans u1,u1 _ _ eD,by omega,h1,fun q a1 a2 a3=>?_⟩
   by_cases cq:q<1+j
   ·exact h2 q a1 cq a3
   ·have:q=1+j:=by omega
    subst this;exact absurd a3 hm
 rintro U F ⟨y,ks,rfl,sF,eD,lk,h1,h2⟩;have kne:ks≠[]:=fun z=>by
  have:=h2 (rs.length-1) (by omega) (by omega) (by rw[hlast];exact hlm');rw[z] at this;cases this
 have lkp:0<ks.length:=iR.mpr kne;have stF:=stG.mono sF;have nD:D≠s:=fun z=>by obtain⟨o1,ho1⟩:=stG.lst;rw[z,ho1] at hD;cases hD
 refine⟨_,rfl,_,rfl,_,rfl,.inl ⟨D,_,rfl,.inl (oj eD),?_⟩⟩;rw[fF,fF];refine⟨s,ks.length,_,rfl,stF,by omega,lkp,by omega,fun F2 v y2 st2' hv=>?_⟩;have hkv:((ks.map fun q:Nat=>(q:Int)).map V.int)[v]?=some (.int ((ks[v]'hv:Nat):Int)):=by rw[fL,fL,fG hv];rfl
 obtain⟨e1,e2,e3⟩:=h1 _ (fX hv);generalize (ks[v]'hv)=en2 at hkv e1 e2 e3;refine⟨D,_,_,_,rfl,rfl,oj (y2 _ _ nD eD),Zj hkv,?_⟩;have gR2:=y2 _ _ nR (sF _ _ gR);have xF2:Zs s H F2:=xG.trans ((Ze.x sF).trans y2);refine⟨_,rfl,_,rfl,by omega,by omega,fun D2 hD2=>?_⟩;rw[gw];refine Yx (J:=Itr 0 en2) (n:=en2) (fun j U F=>∃(y:Option V) (ks:List Nat),U=[y,some (.ref R),some (.int (en2:Nat))]/\Ze F2 F/\F D2=some (.lst ((ks.map fun q:Nat=>(q:Int)).map V.int))/\ks.length<=j/\(∀q∈ks,q<en2/\rs.getD q 0=rs.getD en2 0)/\∀q:Nat,q<j->rs.getD q 0=rs.getD en2 0->q∈ks) ?_ (fun _ _ _ h _=>h) (fun _ _ _=>fE _) ?_ ?_
 ·exact⟨_,[],rfl,Zi hD2,Zd,fE _,(fun q h=>by cases h),fun q h1 h2=>by omega⟩
 ·rintro j x U F0 F3 hj ⟨y,ks,rfl,sF3,eD3,lk3,h1,h2⟩ ⟨rfl,rfl⟩ N N0 hN hN0;have ej:(0:Int)+(j:Nat)=((j:Nat):Int):=by omega
  rw[ej];refine⟨_,rfl,_,rfl,R,_,_,_,rfl,rfl,oj (sF3 _ _ gR2),rk j (by omega),_,rfl,_,rfl,R,_,_,_,rfl,rfl,oj (sF3 _ _ gR2),rk en2 (by omega),?_⟩;refine⟨rfl,_,rfl,XN (fun c=>⟨_,rfl,?_⟩) (fun c=>?_)⟩
  ·have hm:rs.getD j 0=rs.getD en2 0:=by have:=gi c;exact V.int.inj this
   refine hN _ _ F3 _ eD3 (by rw[fF,fF,fJ];omega) ⟨_,ks++[j],rfl,(Zs.upd (Ze.x sF3)).same hD2,by rw[Zd,gb,gb];rfl,by rw[fK];show _+1<=_;omega,fun q hq=>?_,fun q a2 a3=>?_⟩
   ·rcases fR.mp hq with hq|hq
    ·exact h1 q hq
    ·rw[fW] at hq;subst hq;exact⟨hj,hm⟩
   ·by_cases cq:q<j
    ·exact g8 _ (h2 q cq a3)
    ·have:q=j:=by omega
     subst this;exact gz _ (by simp)
  ·have hm:¬rs.getD j 0=rs.getD en2 0:=fun e=>c (gO (by rw[e]));refine hN0 _ _ ⟨_,ks,rfl,sF3,eD3,by omega,h1,fun q a2 a3=>?_⟩
   by_cases cq:q<j
   ·exact h2 q cq a3
   ·have:q=j:=by omega
    subst this;exact absurd a3 hm
 rintro U F3 ⟨y,bs,rfl,sF3,eD3,lk3,g1,g2⟩;have bne:bs≠[]:=fun z=>by
  obtain⟨q,hq,e⟩:=gI e3;rw[gu] at hq;rw[nC] at e;have:=g2 q (by omega) (by rw[i6,fG (by omega)];exact e);rw[z] at this;cases this
 have lbp:0<bs.length:=iR.mpr bne;have stF3:=st2'.mono sF3;have nD2:D2≠s:=fun z=>by obtain⟨o1,ho1⟩:=st2'.lst;rw[z,ho1] at hD2;cases hD2
 refine⟨_,rfl,_,rfl,_,rfl,.inl ⟨D2,_,rfl,.inl (oj eD3),?_⟩⟩;rw[fF,fF];refine⟨s,bs.length,_,rfl,stF3,by omega,lbp,by omega,fun F4 v2 y4 st4 hv2=>?_⟩;have hbv:((bs.map fun q:Nat=>(q:Int)).map V.int)[v2]?=some (.int ((bs[v2]'hv2:Nat):Int)):=by rw[fL,fL,fG hv2];rfl
 obtain⟨b1,b2⟩:=g1 _ (fX hv2);generalize (bs[v2]'hv2)=bg at hbv b1 b2;refine⟨D2,_,_,_,rfl,rfl,oj (y4 _ _ nD2 eD3),Zj hbv,?_⟩;have gR4:=y4 _ _ nR (sF3 _ _ gR2);have xF4:Zs s H F4:=xF2.trans ((Ze.x sF3).trans y4);refine⟨_,rfl,_,rfl,_,rfl,R,_,rfl,oj gR4,fun A1 hA1=>?_⟩;rw[VM,<- iT];obtain⟨F5,qN,u5,eA1⟩:=ZL (o:=.lst ((rs.take bg).map V.int)) hA1;rw[qN];clear qN;refine⟨_,rfl,_,rfl,_,rfl,_,rfl,_,rfl,R,_,rfl,oj (u5 _ _ gR4),fun A2 hA2=>?_⟩;rw[vF _ (ip b1) (by rw[fF];omega),<- m9,<- iT];obtain⟨F6,qN,u6,eA2⟩:=ZL (o:=.lst (((rs.drop bg).take (en2-bg)).map V.int)) hA2;rw[qN];clear qN;refine⟨sz2,fun rn hrn=>?_⟩;obtain⟨F7,qN,u7,ern⟩:=ZL (o:=.tup [.ref A1,.ref A2]) hrn;rw[qN];clear qN;refine k F7 rn (rs.take bg) ((rs.drop bg).take (en2-bg)) (xF4.trans (Ze.x (u5.trans (u6.trans u7)))) ⟨⟨A1,A2,ern,(u6.trans u7) _ _ eA1,u7 _ _ eA2⟩,fun z=>?_,fun x hx=>hb x ?_⟩ ?_
 ·have:=fS List.length z;rw[gu,ie] at this;simp at this;omega
 ·rcases fR.mp hx with hx|hx
  ·exact nN hx
  ·exact List.mem_of_mem_drop (nN hx)
 ·rw[fK,gu,gu,ie];omega
def WQ.mono{K:W.Frag}{H H':Hp}{L:Addr}{es:List (Tr×Addr)}(s:Ze H H')(h:WQ K H L es):WQ K H' L es:=
 let ⟨xs,h1,h2,h3⟩:=h
 ⟨xs,s _ _ h1,h2,fun j x e a b=>let ⟨b',w,n,q1,q2,q3,q4⟩:=h3 j x e a b; ⟨b',w,n,q1,om s _ _ _ q2,q3.mono (om s),q4⟩⟩
structure Rw(K:W.Frag)(a:Adr)(H:Hp)(w sl rm rws:Addr)(v:V)(d:WD)(st:Tr->List Int)(run:Nat->Int)(rs:List Int)(es:List (Tr×Addr))(t:Tr)(m p:Nat):Prop where
 w:ZX a.C_World H w d
 rm:H rm=some (.lst (rs.map V.int))
 len:rs.length<=100000
 rn:∀k,k<rs.length->rs[k]?=some (run k)
 rb:∀x∈rs,0<=x/\x<(d.signs.length:Nat)
 core:At K (m+1) H v t
 c:isC t=true
 p1:1<=p
 pn:p<=rs.length
 rows:WQ K H rws es
 below:∀u∈ZF t,∃(i:Nat) (l:Addr),es[i]?=some (u,l)/\(∀(j:Nat) e,j<i->es[j]?=some e->e.1≠u)/\H l=some (.lst (((List.range rs.length).map (Z4 d st run u)).map V.bl))
 per:∀u∈ZF t,∀k,rs.length<=k->Z4 d st run u k=Z4 d st run u (k-p)
 sets:t.lb=.op "some" -> ∃(ss:List (Tr×Addr)) (i:Nat) (l:Addr),WQ K H sl ss/\ss[i]?=some (t,l)/\(∀(j:Nat) e,j<i->ss[j]?=some e->e.1≠t)/\H l=some (.lst ((st t).map V.int))
def kT(K:W.Frag)(a:Adr):Sp:=fun vs H Q _=>∃(w sl rm rws:Addr) (v:V) (d:WD) (st:Tr->List Int) (run:Nat->Int) (rs:List Int) (es:List (Tr×Addr)) (t:Tr) (m p:Nat),vs=[.ref w,.ref sl,.ref rm,.ref rws,v,.int ((rs.length-p:Nat):Int)]/\Rw K a H w sl rm rws v d st run rs es t m p/\∀H' D,Ze H H'->H D=none->H' D=some (.lst (((List.range rs.length).map (Z4 d st run t)).map V.bl))->Q (.ref D) H'
def row_at{t:Tr}(h:XG t=true)(hr:∀k,k<rs.length->rs[k]?=some (run k)):rs.map (fun x=>V.bl (YB d st t x))=((List.range rs.length).map (Z4 d st run t)).map V.bl:=by
 rw[kA h];apply i0;intro i;rw[fL,fL,fL]
 by_cases c:i<rs.length
 ·rw[hr i c,i7 c];rfl
 ·rw[gZ (by omega),gZ (by rw[gp];omega)];rfl
def core_row{t:Tr}(hc:isC t=true)(ok:Xp t.lb t.ks.length)(h:XG t=false) :
  ∃A B,(ZF t)[0]?=some A/\(ZF t)[(ZF t).length-1]?=some B /\
  ((Zy t.lb = "not" /\ Z4 d st run t=fun k=>!Z4 d st run A k)\/(Zy t.lb = "and" /\ Z4 d st run t=fun k=>Z4 d st run A k&&Z4 d st run B k)\/(Zy t.lb = "next" /\ Z4 d st run t=fun k=>Z4 d st run A (k+1))\/(Zy t.lb = "before" /\ Z4 d st run t=befB (Z4 d st run A))\/(Zy t.lb = "until" /\ Z4 d st run t=XD (Z4 d st run A) (Z4 d st run B))\/(Zy t.lb = "since" /\ Z4 d st run t=Xd (Z4 d st run A) (Z4 d st run B))):=by
 rw[UH h];rcases Wg hc ok h with⟨w,a,rfl,h3⟩|⟨w,a,b,rfl,h2⟩|⟨a,b,rfl⟩
 ·refine⟨a,a,rfl,rfl,?_⟩;rcases h3 with rfl|rfl|rfl
  ·exact .inl ⟨rfl,kL a⟩
  ·exact .inr (.inr (.inl ⟨rfl,yF a⟩))
  ·exact .inr (.inr (.inr (.inl ⟨rfl,qH a⟩)))
 ·refine⟨a,b,rfl,rfl,?_⟩;rcases h2 with rfl|rfl
  ·exact .inr (.inr (.inr (.inr (.inl ⟨rfl,zE a b⟩))))
  ·exact .inr (.inr (.inr (.inr (.inr ⟨rfl,zU a b⟩))))
 ·exact⟨a,b,rfl,rfl,.inr (.inl ⟨rfl,jJ a b⟩)⟩
def Vu{k:Nat}(h:k<n):((List.range n).map f)[k]?=some (f k):=by rw[fL,i7 h];rfl
def yx{k:Nat}(h:k<n):atI (((List.range n).map f).map V.bl) (k:Int)=some (.bl (f k)):=Zj (by rw[fL,Vu h];rfl)
def Jv{k:Nat}(h:k<n):((List.range n).map f).getD k false=f k:=by rw[i6,Vu h];rfl
def jg{f f' s s':Nat->Bool}:∀{k:Nat},(∀i,i<=k->f i=f' i)->(∀i,i<=k->s i=s' i)->Xd f s k=Xd f' s' k
 |0,_,h2=>h2 0 (fE _)
 |k+1,h1,h2=>by
  show(s (k+1)||(f (k+1)&&Xd f s k))=(s' (k+1)||(f' (k+1)&&Xd f' s' k))
  rw[h1 _ (fE _),h2 _ (fE _),jg (fun i h=>h1 i (by omega)) (fun i h=>h2 i (by omega))]
def Jx{x:Int}(h:x∈L3.upTo (n:Int)):∃k:Nat,k<n/\x=(k:Int):=by
 obtain⟨k,hk,e⟩:=gn.mp h;rw[lQ,gw] at hk;exact⟨k,hk,e.symm⟩
def Js(f:Nat->Bool):(L3.upTo (n:Int)).map (fun x=>V.bl (f x.toNat))=((List.range n).map f).map V.bl:=by
 unfold L3.upTo;rw[gw,gS,gS];rfl
def next_row(h:1<=n):((List.range n).map f).drop 1++[f n]=(List.range n).map fun k=>f (k+1):=by
 apply i0;intro i
 by_cases c:i<n-1
 ·rw[gm (by rw[ie,fF,gp];exact c),mW,Vu (by omega),Vu (by omega),Nat.add_comm]
 ·rw[gy (by rw[ie,fF,gp];omega),ie,fF,gp]
  by_cases c2:i=n-1
  ·subst c2;rw[g0,Vu (by omega),show n-1+1=n by omega];rfl
  ·rw[gZ (by simp;omega),gZ (by simp;omega)]
def bef_row(h:1<=n):[false]++((List.range n).map f).take (n-1)=(List.range n).map (befB f):=by
 apply i0;intro i;cases i with
 |zero=>rw[Vu (by omega)];rfl
 |succ i=>
  show(((List.range n).map f).take (n-1))[i]?=_
  by_cases c:i<n-1
  ·rw[mM c,Vu (by omega),Vu (by omega)];rfl
  ·rw[gZ (by simp;omega),gZ (by simp;omega)]
def kP:Okd P w K mg base a 2 a.y51 a.z51 eY kT:=fun T hw=>by
 refine okF T.bS.f XM fun de A outer s H vs Q E hr h=>?_;obtain⟨w,sl,rm,rws,v,d,st,run,rs,es,t,m,p,rfl,⟨hw0,hrm,hlen,hrun,hrb,hat,hc,p1,pn,hrows,hbel,hper,hsets⟩,kk⟩:=h;refine⟨_,(@Zc _ _ _ _ _ (@Zn _ _ (6) _ _ _ _ XM.nd rfl (.inl rfl) (@Zv _ _ _ _ _ _ _ (ZN (K:=K) rfl) (pv 4) Zf (fun _ _=>rfl)) rfl (.inl rfl)) (@Zc _ _ _ _ _ (@ZZ _ _ _ _ _ _ _ _ (@Zw _ _ _ _ _ _ _ _ Yr (pv 6) Zz (ZI _)) (@Zh _ _ _ (@Zm _ _ _ _ (ZR (Nc:=["_law_room"]) (ix:=[none]) (ZJ.of (by decide +kernel:ZO (Zg YU) XC _ _ _=true)) rfl (ZC (K:=K) rfl (pv 2)) (fun _ _ _ _ _=>(Zo (i:=0) (show List.Nodup (["_law_room"]:List Str) by decide +kernel) rfl (.inl rfl))) (fun _ _ _ _ _=>Z0) (fun _ _ _ _ _=>YR)))) ZD) (@Zc _ _ _ _ _ (@ZZ _ _ _ _ _ _ _ _ (@Zw _ _ _ _ _ _ _ _ Yr (pv 6) Zz (ZI _)) (@Zh _ _ _ (@Zm _ _ _ _ (ZR (Nc:=ft) (ix:=[none,some 4,some 0]) (ZJ.of (by decide +kernel:ZO (Zg YU) XC _ _ _=true)) rfl (ZC (K:=K) rfl (pv 2)) (fun _ _ _ _ _=>(Zo (i:=0) (show List.Nodup ft by decide +kernel) rfl (.inl rfl))) (fun _ _ _ _ _=>Z0) (fun _ _ _ _ _=>(@YZ _ _ _ _ _ _ _ _ (WB (K:=K) rfl) (@Zv _ _ _ _ _ _ _ (ZN (K:=K) rfl) (pv 1) Zf (fun _ _=>rfl)) (Wr (pv 2) T.aj T.ag.m (X1 T hw) (rmL hr rfl) T.ag.n .nil Yy (@Za _ _ _ _ _ (pv 0) Zb rfl)) (by with_unfolding_all rfl)))))) ZD) (@Zc _ _ _ _ _ (@ZZ _ _ _ _ _ _ _ _ (@Zw _ _ _ _ _ _ _ _ Yr (pv 6) Zz (ZI _)) (@Zc _ _ _ _ _ (@Zn _ _ (7) _ _ _ _ XM.nd rfl (.inr rfl) (ZA T.bf (V1 T hw) hr rfl rfl (@Za _ _ _ _ _ (pv 1) (@Za _ _ _ _ _ (pv 4) Zb rfl) rfl)) rfl (.inl rfl)) (@Zh _ _ _ (@Zm _ _ _ _ (ZR (Nc:=dq) (ix:=[none,some 7]) (ZJ.of (by decide +kernel:ZO (Zg YU) XC _ _ _=true)) rfl (ZC (K:=K) rfl (pv 2)) (fun _ _ _ _ _=>(Zo (i:=0) (show List.Nodup dq by decide +kernel) rfl (.inl rfl))) (fun _ _ _ _ _=>Z0) (fun _ _ _ _ _=>(@YZ _ _ _ _ _ _ _ _ (WB (K:=K) rfl) (pv 0) (pv 1) (by with_unfolding_all rfl))))))) ZD) (@Zc _ _ _ _ _ (@Zn _ _ (8) _ _ _ _ XM.nd rfl (.inr rfl) (ZA T.bf (V1 T hw) hr rfl rfl (@Za _ _ _ _ _ (pv 3) (@Za _ _ _ _ _ (@Zv _ _ _ _ _ _ _ (Zr (K:=K) rfl) (ZA T.aC (VB T hw) hr rfl rfl (@Za _ _ _ _ _ (pv 4) Zb rfl)) Zf (fun _ _=>rfl)) Zb rfl) rfl)) rfl (.inl rfl)) (@Zc _ _ _ _ _ (@Zn _ _ (9) _ _ _ _ XM.nd rfl (.inr rfl) (ZA T.bf (V1 T hw) hr rfl rfl (@Za _ _ _ _ _ (pv 3) (@Za _ _ _ _ _ (@Zv _ _ _ _ _ _ _ (Zr (K:=K) rfl) (ZA T.aC (VB T hw) hr rfl rfl (@Za _ _ _ _ _ (pv 4) Zb rfl)) (Vq XZ Zf) (fun _ _=>rfl)) Zb rfl) rfl)) rfl (.inl rfl)) (@Zc _ _ _ _ _ (@Zn _ _ (10) _ _ _ _ XM.nd rfl (.inl rfl) (ZM (Yz (K:=K) rfl rfl) rfl T.aN oq (@Za _ _ _ _ _ (ZM (xu) rfl T.aJ oC (@Za _ _ _ _ _ (Zl (Zu (K:=K) rfl) rfl T.ay ox (@Za _ _ _ _ _ (pv 2) Zb rfl)) Zb rfl)) Zb rfl)) rfl (.inl rfl)) (@Zc _ _ _ _ _ (@ZZ _ _ _ _ _ _ _ _ (@Zw _ _ _ _ _ _ _ _ Yr (pv 6) Zz (ZI _)) (@Zh _ _ _ (@Zm _ _ _ _ (ZR (Nc:=dj) (ix:=[none]) (ZJ.of (by decide +kernel:ZO (Zg YU) XC _ _ _=true)) rfl (ZC (K:=K) rfl (pv 8)) (fun _ _ _ _ _=>(Zo (i:=0) (show List.Nodup dj by decide +kernel) rfl (.inl rfl))) (fun _ _ _ _ _=>Z0) (fun _ _ _ _ _=>(pe_not (pv 0)))))) ZD) (@Zc _ _ _ _ _ (@ZZ _ _ _ _ _ _ _ _ (@Zw _ _ _ _ _ _ _ _ Yr (pv 6) Zz (ZI _)) (@Zh _ _ _ (@Zm _ _ _ _ (ZR (Nc:=dt) (ix:=[none,some 8,some 9]) (ZJ.of (by decide +kernel:ZO (Zg YU) XC _ _ _=true)) rfl (ZC (K:=K) rfl (pv 10)) (fun _ _ _ _ _=>(Zo (i:=0) (show List.Nodup dt by decide +kernel) rfl (.inl rfl))) (fun _ _ _ _ _=>Z0) (fun _ _ _ _ _=>(Xq (@Zv _ _ _ _ _ _ _ (Zr (K:=K) rfl) (pv 1) (pv 0) (fun _ _=>rfl)) (Xc (@Zv _ _ _ _ _ _ _ (Zr (K:=K) rfl) (pv 2) (pv 0) (fun _ _=>rfl)))))))) ZD) (@Zc _ _ _ _ _ (@ZZ _ _ _ _ _ _ _ _ (@Zw _ _ _ _ _ _ _ _ Yr (pv 6) Zz (ZI _)) (@Zh _ _ _ (@Zm _ _ _ _ (@ZP _ _ _ _ _ _ _ _ qw (Z8 (Y0 (K:=K) rfl) (pv 8) (Z5 Zf) Ys) (@ZW _ _ _ _ (@Za _ _ _ _ _ (@Zv _ _ _ _ _ _ _ (Zr (K:=K) rfl) (pv 8) (pv 5) (fun _ _=>rfl)) Zb rfl))))) ZD) (@Zc _ _ _ _ _ (@ZZ _ _ _ _ _ _ _ _ (@Zw _ _ _ _ _ _ _ _ Yr (pv 6) Zz (ZI _)) (@Zh _ _ _ (@Zm _ _ _ _ (@ZP _ _ _ _ _ _ _ _ qw (@ZW _ _ _ _ (@Za _ _ _ _ _ YR Zb rfl)) (Z8 (Y0 (K:=K) rfl) (pv 8) Ys (Z5 (Vq XZ Zf)))))) ZD) (@Zc _ _ _ _ _ (@ZZ _ _ _ _ _ _ _ _ (@Zw _ _ _ _ _ _ _ _ Yr (pv 6) Zz (ZI _)) (@Zh _ _ _ (@Zm _ _ _ _ (ZA T.bx (vc T hw) hr rfl rfl (@Zq _ _ _ _ _ (pv 8) (@Zq _ _ _ _ _ (pv 9) (@Zq _ _ _ _ _ (pv 5) Zb rfl) rfl) rfl)))) ZD) (@Zh _ _ _ (@Zm _ _ _ _ (ZR (Nc:=dt) (ix:=[none,some 8,some 9]) (ZJ.of (by decide +kernel:ZO (Zg YU) XC _ _ _=true)) rfl (ZC (K:=K) rfl (pv 10)) (fun _ _ _ _ _=>(Zo (i:=0) (show List.Nodup dt by decide +kernel) rfl (.inl rfl))) (fun _ _ _ _ _=>Z0) (fun _ _ _ _ _=>(ZA T.ba (yt T hw) hr rfl rfl (@Zq _ _ _ _ _ (pv 1) (@Zq _ _ _ _ _ (pv 2) (@Zq _ _ _ _ _ (pv 0) Zb rfl) rfl) rfl)))))))))))))))))),?_⟩;have okt:Xp t.lb t.ks.length:=hat.ok.1;obtain⟨ax,us0,rfl,sh0,_⟩:=id hat;obtain⟨xs,ex⟩:=sh0.tup;refine⟨_,rfl,ax,_,_,_,rfl,rfl,ex,Zj (j:=0) rfl,?_⟩;cases hA:XG t with
 |true=>
  have era:=row_at (d:=d) (st:=st) hA hrun;have hA2:=hA;unfold XG at hA2;cases el:t.lb with
  |wit _=>rw[el] at hA2;cases hA2
  |many _=>rw[el] at hA2;cases hA2
  |yes=>
   refine⟨_,rfl,rfl,_,rfl,Xt rfl ?_⟩;refine⟨_,rfl,rm,rfl,⟨_,oj hrm⟩,fun D hD=>?_⟩;refine YI (K:=K) rs V.int (fun x=>.bl (YB d st t x)) hD (oj hrm) (by rw[fJ];omega) ?_ ?_
   ·intro x hx G N sG hN;have:YB d st t x=true:=by unfold YB;rw[el]
    have q:=hN G (.refl _);rw[this] at q;exact q
   ·intro H1 e1 s1;exact kk H1 D s1 hD (by rw[e1,era])
  |sign z=>
   rw[el] at sh0;have g:SqT K H ax [.str "sign",.str z]:=sh0.2;refine⟨_,rfl,rfl,_,rfl,Z1 (fun q=>(by decide +kernel:¬(("sign" : Str) = "yes")) (V.str.inj q)) ?_⟩;refine⟨_,rfl,rfl,_,rfl,Xt rfl ?_⟩;refine⟨_,rfl,rm,rfl,⟨_,oj hrm⟩,fun D hD=>?_⟩;refine YI (K:=K) rs V.int (fun x=>.bl (YB d st t x)) hD (oj hrm) (by rw[fJ];omega) ?_ ?_
   ·intro x hx G N sG hN;obtain⟨x0,xl⟩:=hrb x hx;obtain⟨r,rfl⟩:=mz x0;have hr2:r<d.signs.length:=by omega
    obtain⟨dx2,fs2,ho2,hk2⟩:=UK (hw0.mono sG);refine⟨_,rfl,ax,_,_,_,rfl,rfl,om sG _ _ _ g,Zj (j:=1) rfl,_,rfl,w,dx2,fs2,rfl,ho2,hk2,_,rfl,w,d,r,d.signs[r],rfl,hw0.mono sG,fG hr2,fun q hq=>?_⟩;refine⟨q,_,rfl,.inl (oj Zd),rfl,zA _,?_⟩;have:YB d st t (r:Nat)=inV (.str z) ((X5 d.signs[r]).map V.str):=by
     unfold YB;rw[el,xI]
     show decide (z∈xM d (r:Nat))=_
     unfold xM;rw[gw,fG hr2];rfl
    have qq:=hN _ (Zi (o:=.lst ((X5 d.signs[r]).map V.str)) hq);rw[this] at qq;exact qq
   ·intro H1 e1 s1;exact kk H1 D s1 hD (by rw[e1,era])
  |op wd=>
   rw[el] at hA2;have ew:wd = "some" := gi hA2;subst ew;obtain⟨ss,i,l,hps,hi,hno,hl⟩:=hsets el;refine⟨_,rfl,rfl,_,rfl,Z1 (fun q=>(by decide +kernel:¬(("some" : Str) = "yes")) (V.str.inj q)) ?_⟩;refine⟨_,rfl,rfl,_,rfl,Z1 (fun q=>(by decide +kernel:¬(("some" : Str) = "sign")) (V.str.inj q)) ?_⟩;refine⟨_,rfl,rfl,_,rfl,Xt rfl ?_⟩;refine⟨_,rfl,_,rfl,sl,ss,.ref ax,t,m+1,i,l,rfl,hps,hat,hi,hno,?_⟩;refine⟨_,rfl,rm,rfl,⟨_,oj hrm⟩,fun D hD=>?_⟩;refine YI (K:=K) rs V.int (fun x=>.bl (YB d st t x)) hD (oj hrm) (by rw[fJ];omega) ?_ ?_
   ·intro x hx G N sG hN;refine⟨_,rfl,_,rfl,l,_,rfl,.inl (oj (sG _ _ hl)),rfl,VF _,?_⟩;have:YB d st t x=inV (.int x) ((st t).map V.int):=by
     unfold YB;rw[el,qR]
    have qq:=hN G (.refl _);rw[this] at qq;exact qq
   ·intro H1 e1 s1;exact kk H1 D s1 hD (by rw[e1,era])
 |false=>
  obtain⟨A,B,eA,eB,six⟩:=core_row (d:=d) (st:=st) (run:=run) hc okt hA;have w3:Zy t.lb ≠ "yes" /\ Zy t.lb ≠ "sign" /\ Zy t.lb ≠ "some" := by
   rcases six with⟨z,_⟩|⟨z,_⟩|⟨z,_⟩|⟨z,_⟩|⟨z,_⟩|⟨z,_⟩<;>(rw[z];decide +kernel)
  refine⟨_,rfl,rfl,_,rfl,Z1 (fun q=>w3.1 (V.str.inj q)) ?_⟩;refine⟨_,rfl,rfl,_,rfl,Z1 (fun q=>w3.2.1 (V.str.inj q)) ?_⟩;refine⟨_,rfl,rfl,_,rfl,Z1 (fun q=>w3.2.2 (V.str.inj q)) ?_⟩;obtain⟨i1,l1,hi1,hn1,g1⟩:=hbel A (gj eA);obtain⟨i2,l2,hi2,hn2,g2⟩:=hbel B (gj eB);have pA:=hper A (gj eA);have pB:=hper B (gj eB);refine⟨_,rfl,_,rfl,.ref ax,t,m,rfl,hat,hc,fun H1 L us s1 L0 hL aL=>?_⟩;have lu:us.length=(ZF t).length:=aL.1;have lp:0<us.length:=by rw[lu];exact(fO.mp eA).1
  refine⟨L,_,_,_,rfl,rfl,oj hL,Zj (j:=0) (fG lp),rws,es,_,A,m,i1,l1,rfl,hrows.mono s1,aL.2 0 _ _ (fG lp) eA,hi1,hn1,?_⟩;refine⟨_,rfl,_,rfl,.ref ax,t,m,rfl,hat.mono (om s1),hc,fun H2 L2 us2 s2 L20 hL2 aL2=>?_⟩;have lu2:us2.length=(ZF t).length:=aL2.1;have lp2:0<us2.length:=by omega
  refine⟨_,rfl,L2,_,_,_,rfl,rfl,oj hL2,zg (p:=1) (fE 1) lp2,rws,es,_,B,m,i2,l2,rfl,hrows.mono (s1.trans s2),aL2.2 (us2.length-1) _ _ (fG (by omega)) (by rw[lu2];exact eB),hi2,hn2,?_⟩;have s12:=s1.trans s2;refine⟨_,rfl,.inl ⟨rm,_,rfl,.inl (oj (s12 _ _ hrm)),?_⟩⟩;rw[fF];refine⟨_,rfl,fun R hR=>?_⟩;obtain⟨H3,qN,t1,eR⟩:=ZL (o:=.rng 0 (rs.length:Int)) hR;rw[qN];clear qN;refine .inr ⟨R,(rs.length:Int),rfl,eR,by omega,by omega,fun P hP=>?_⟩;obtain⟨H4,qN,t2,eP⟩:=ZL (o:=.lst ((L3.upTo (rs.length:Int)).map V.int)) hP;rw[qN];clear qN;have s4:Ze H H4:=s12.trans (t1.trans t2)
  replace g1:=s4 _ _ g1
  replace g2:=s4 _ _ g2
  clear eR hP hR t1 t2 hL hL2 aL aL2 L0 L20 s1 s2 s12
  replace kk:∀H' D,Ze H4 H'->H4 D=none->H' D=some (.lst (((List.range rs.length).map (Z4 d st run t)).map V.bl))->Q (.ref D) H':=fun H' D a b c=>kk H' D (s4.trans a) (s4.free b) c
  have n1:1<=rs.length:=by omega
  generalize rs.length=n at *;generalize Z4 d st run A=fA at *;generalize Z4 d st run B=fB at *;have lr:∀f:Nat->Bool,((List.range n).map f).length=n:=fun f=>by rw[fF,gp]
  rcases six with⟨z,e⟩|⟨z,e⟩|⟨z,e⟩|⟨z,e⟩|⟨z,e⟩|⟨z,e⟩<;>rw[e] at kk<;>rw[z]
  ·refine⟨_,rfl,rfl,_,rfl,Xt rfl ?_⟩;refine⟨_,rfl,l1,rfl,⟨_,oj g1⟩,fun D hD=>?_⟩;refine YI (K:=K) ((List.range n).map fA) V.bl (fun b=>.bl (!b)) hD (oj g1) (by rw[lr,fJ];omega) ?_ ?_
   ·intro b hb G N sG hN;exact⟨_,rfl,_,rfl,hN _ (.refl _)⟩
   ·intro H5 e1 s5;exact kk H5 D s5 hD (by rw[e1,gS,gS];rfl)
  ·refine⟨_,rfl,rfl,_,rfl,Z1 (fun q=>(by decide +kernel:¬(("and" : Str) = "not")) (V.str.inj q)) ?_⟩;refine⟨_,rfl,rfl,_,rfl,Xt rfl ?_⟩;refine⟨_,rfl,P,rfl,⟨_,oj eP⟩,fun D hD=>?_⟩;refine YI (K:=K) (L3.upTo (n:Int)) V.int (fun x=>.bl (fA x.toNat&&fB x.toNat)) hD (oj eP) (by unfold L3.upTo;rw[fF,gp,fJ];omega) ?_ ?_
   ·intro x hx G N sG hN;obtain⟨k,hk,rfl⟩:=Jx hx;have go:=hN G (.refl _);rw[gw] at go;refine⟨_,rfl,_,rfl,l1,_,_,_,rfl,rfl,oj (sG _ _ g1),yx hk,_,rfl,XN (fun c=>?_) (fun c=>?_)⟩
    ·rw[c,i5] at go;exact⟨_,rfl,_,rfl,l2,_,_,_,rfl,rfl,oj (sG _ _ g2),yx hk,go⟩
    ·have c':fA k=false:=by simpa using c
     rw[c',iM] at go;exact go
   ·intro H5 e1 s5;exact kk H5 D s5 hD (by rw[e1];exact fS _ (fS _ (Js fun k=>fA k&&fB k)))
  ·refine⟨_,rfl,rfl,_,rfl,Z1 (fun q=>(by decide +kernel:¬(("next" : Str) = "not")) (V.str.inj q)) ?_⟩;refine⟨_,rfl,rfl,_,rfl,Z1 (fun q=>(by decide +kernel:¬(("next" : Str) = "and")) (V.str.inj q)) ?_⟩;refine⟨_,rfl,rfl,_,rfl,Xt rfl ?_⟩;refine⟨_,rfl,1,rfl,l1,_,rfl,oj g1,fun q hq=>?_⟩;have ec:=Wd (((List.range n).map fA).map V.bl) 1 (by rw[fF,lr];omega);rw[show((1:Nat):Int)=1 from rfl] at ec;rw[ec,<- m9];obtain⟨H5,qN,s5,eq⟩:=ZL (o:=.lst ((((List.range n).map fA).drop 1).map V.bl)) hq;rw[qN];clear qN;refine⟨_,rfl,_,rfl,l1,_,_,_,rfl,rfl,oj (s5 _ _ g1),yx (by omega),sz1,fun q2 hq2=>?_⟩;obtain⟨H6,qN,s6,eq2⟩:=ZL (o:=.lst [.bl (fA (n-p))]) hq2;rw[qN];clear qN;refine⟨q,q2,_,_,rfl,rfl,s6 _ _ eq,eq2,by rw[fF,ie,lr,fJ];show _+1<=_;omega,fun D hD=>?_⟩;refine kk _ D ((s5.trans s6).trans (Zi hD)) ((s5.trans s6).free hD) ?_;rw[Zd,<- pA n (fE _),<- next_row n1,gb];rfl
  ·refine⟨_,rfl,rfl,_,rfl,Z1 (fun q=>(by decide +kernel:¬(("before" : Str) = "not")) (V.str.inj q)) ?_⟩;refine⟨_,rfl,rfl,_,rfl,Z1 (fun q=>(by decide +kernel:¬(("before" : Str) = "and")) (V.str.inj q)) ?_⟩;refine⟨_,rfl,rfl,_,rfl,Z1 (fun q=>(by decide +kernel:¬(("before" : Str) = "next")) (V.str.inj q)) ?_⟩;refine⟨_,rfl,rfl,_,rfl,Xt rfl ?_⟩;refine⟨sz1,fun q hq=>?_⟩;obtain⟨H5,qN,s5,eq⟩:=ZL (o:=.lst [.bl false]) hq;rw[qN];clear qN;refine⟨_,rfl,_,rfl,_,rfl,l1,_,rfl,oj (s5 _ _ g1),fun q2 hq2=>?_⟩;rw[Jz _ (by rw[fF,lr];omega),fF,lr,<- iT];obtain⟨H6,qN,s6,eq2⟩:=ZL (o:=.lst ((((List.range n).map fA).take (n-1)).map V.bl)) hq2;rw[qN];clear qN;refine⟨q,q2,_,_,rfl,rfl,s6 _ _ eq,eq2,by rw[fF,gu,lr,fJ];show 1+_<=_;omega,fun D hD=>?_⟩;refine kk _ D ((s5.trans s6).trans (Zi hD)) ((s5.trans s6).free hD) ?_;rw[Zd,<- bef_row n1,gb];rfl
  ·refine⟨_,rfl,rfl,_,rfl,Z1 (fun q=>(by decide +kernel:¬(("until" : Str) = "not")) (V.str.inj q)) ?_⟩;refine⟨_,rfl,rfl,_,rfl,Z1 (fun q=>(by decide +kernel:¬(("until" : Str) = "and")) (V.str.inj q)) ?_⟩;refine⟨_,rfl,rfl,_,rfl,Z1 (fun q=>(by decide +kernel:¬(("until" : Str) = "next")) (V.str.inj q)) ?_⟩;refine⟨_,rfl,rfl,_,rfl,Z1 (fun q=>(by decide +kernel:¬(("until" : Str) = "before")) (V.str.inj q)) ?_⟩;refine⟨_,rfl,rfl,_,rfl,Xt rfl ?_⟩;refine⟨_,rfl,_,rfl,_,rfl,l1,l2,_,_,fA,fB,n,n-p,rfl,g1,g2,lr fA,lr fB,hlen,by omega,fun k hk=>Vu hk,fun k hk=>Vu hk,?_,fun H5 D s5 D0 e5=>kk H5 D s5 D0 e5⟩;rw[show n-(n-p)=p by omega];exact vT p1 pn pA pB
  ·refine⟨_,rfl,rfl,_,rfl,Z1 (fun q=>(by decide +kernel:¬(("since" : Str) = "not")) (V.str.inj q)) ?_⟩;refine⟨_,rfl,rfl,_,rfl,Z1 (fun q=>(by decide +kernel:¬(("since" : Str) = "and")) (V.str.inj q)) ?_⟩;refine⟨_,rfl,rfl,_,rfl,Z1 (fun q=>(by decide +kernel:¬(("since" : Str) = "next")) (V.str.inj q)) ?_⟩;refine⟨_,rfl,rfl,_,rfl,Z1 (fun q=>(by decide +kernel:¬(("since" : Str) = "before")) (V.str.inj q)) ?_⟩;refine⟨_,rfl,rfl,_,rfl,Z1 (fun q=>(by decide +kernel:¬(("since" : Str) = "until")) (V.str.inj q)) ?_⟩;refine⟨_,rfl,P,rfl,⟨_,oj eP⟩,fun D hD=>?_⟩;refine YI (K:=K) (L3.upTo (n:Int)) V.int (fun x=>.bl (Xd fA fB x.toNat)) hD (oj eP) (by unfold L3.upTo;rw[fF,gp,fJ];omega) ?_ ?_
   ·intro x hx G N sG hN;obtain⟨k,hk,rfl⟩:=Jx hx;have go:=hN G (.refl _);rw[gw] at go;refine⟨_,rfl,_,rfl,_,rfl,l1,l2,_,_,k,rfl,sG _ _ g1,sG _ _ g2,by rw[lr];exact hk,by rw[lr];exact hk,?_⟩;rw[jg (f':=fA) (s':=fB) (fun i hi=>Jv (by omega)) (fun i hi=>Jv (by omega))];exact go
   ·intro H5 e1 s5;exact kk H5 D s5 hD (by rw[e1];exact fS _ (fS _ (Js fun k=>Xd fA fB k)))
def look_iff'(h:∀w,c=.many w->w = "and"):VQ c=true↔Zy c∈(["next","until","before","since"]:List Str):=by
 cases c with
 |op w=>show decide (w∈lookW)=true↔w∈_;rw[lZ];rfl
 |yes=>exact⟨fun h=>(by cases h),fun h=>absurd h (show("yes" : Str)∉_ by decide +kernel)⟩
 |sign z=>exact⟨fun h=>(by cases h),fun h=>absurd h (show("sign" : Str)∉_ by decide +kernel)⟩
 |wit m=>exact⟨fun h=>(by cases h),fun h=>absurd h (show("within" : Str)∉_ by decide +kernel)⟩
 |many w=>rw[h w rfl];exact⟨fun h=>(by cases h),fun h=>absurd h (show("and" : Str)∉_ by decide +kernel)⟩
def Jf{t:Tr}(hc:isC t=true):VQ t.lb=true↔Zy t.lb∈(["next","until","before","since"]:List Str):=look_iff' fun w e=>by
 obtain⟨c,ks⟩:=t
 change c=_ at e
 subst e;rw[YG] at hc;unfold Us at hc;simp at hc;exact hc.2.1
def rep_at{ring:List Int}:∀{c k:Nat},k<ring.length*c->((List.replicate c ring).flatten)[k]?=some (ring.getD (k%ring.length) 0)
 |0,k,h=>by omega
 |c+1,k,h=>by
  rw[mv,lD]
  by_cases q:k<ring.length
  ·rw[gm q,Nat.mod_eq_of_lt q,i6,fG q];rfl
  ·rw[gy (by omega),rep_at (by rw[Nat.mul_succ] at h;omega),Nat.mod_eq_sub_mod (by omega:ring.length<=k)]
def rep_len{c:Nat}:((List.replicate c ring).flatten).length=ring.length*c:=by
 rw[List.length_flatten,List.map_replicate,List.sum_replicate_nat,Nat.mul_comm]
def run_at{c k:Nat}(h:k<way.length+ring.length*c):(way++(List.replicate c ring).flatten)[k]?=some (Xj way ring k):=by
 unfold Xj
 by_cases q:k<way.length
 ·rw[if_pos q,gm q,i6,fG q];rfl
 ·rw[if_neg q,gy (by omega),rep_at (by omega)]
def x9(K:W.Frag)(a:Adr):Sp:=fun vs H Q _=>∃(w rn sl:Addr) (v:V) (m many:Nat) (t:Tr) (d:WD) (st:Tr->List Int) (way ring:List Int),vs=[.ref w,.ref rn,v,.ref sl,.int (many:Nat)]/\ZX a.C_World H w d/\qg H rn d.signs.length way ring/\At K m H v t/\m<8/\isC t=true/\psz t<=1000/\dpt t<=60/\(way++ring).length<=31/\many<=50000/\(∀u∈Zp t,u.lb=.op "some" -> ∃(ss:List (Tr×Addr)) (i:Nat) (l:Addr),WQ K H sl ss/\ss[i]?=some (u,l)/\(∀(j:Nat) e,j<i->ss[j]?=some e->e.1≠u)/\H l=some (.lst ((st u).map V.int)))/\∀H' q,Ze H H'->H q=none->H' q=some (.lst (((List.range many).map (Z4 d st (Xj way ring) t)).map V.bl))->Q (.ref q) H'
def Vw:Okd P w K mg base a 11 a.y52 a.z52 fb x9:=fun T hw=>by
 have aT:=U4 (P:=P) (w:=w) (base:=base) T hw 8;refine okF T.aS.f Y7 fun de A outer s H vs Q E hr h=>?_;obtain⟨w,rn,sl,v,m,many,t,d,st,way,ring,rfl,hw0,hrun,hat,hm8,hc,hz,hdp,hl31,hmany,hsets,kk⟩:=h;refine⟨_,(@Zc _ _ _ _ _ (@Zn _ _ (5) _ _ _ _ Y7.nd rfl (.inl rfl) (XQ aT (rmL hr rfl) rfl T.ai.g T.ai.f.kp T.ai.n .nil Yy (@Za _ _ _ _ _ (pv 2) Zb rfl)) rfl (.inl rfl)) (@Zc _ _ _ _ _ (YQ (i:=6) Y7.nd rfl rfl (Nc:=["_law_part"]) (ix:=[none]) (ZJ.of (by decide +kernel:ZO (Zg WO) zb _ _ _=true)) rfl (ZC (K:=K) rfl (pv 5)) (fun _ _ _ _ _=>(Zo (i:=0) (show List.Nodup (["_law_part"]:List Str) by decide +kernel) rfl (.inl rfl))) (fun _ _ _ _ _=>(Wq (@Zw _ _ _ _ _ _ _ _ (WB (K:=K) rfl) (@Zv _ _ _ _ _ _ _ (ZN (K:=K) rfl) (pv 0) Zf (fun _ _=>rfl)) (@ZV _ _ _ _ _ (@Zq _ _ _ _ _ Zz (@Zq _ _ _ _ _ Zz (@Zq _ _ _ _ _ Zz (@Zq _ _ _ _ _ Zz Zb rfl) rfl) rfl) rfl)) (by with_unfolding_all rfl)))) (fun _ _ _ _ _=>(pv 0))) (@Zc _ _ _ _ _ (@Zn _ _ (7) _ _ _ _ Y7.nd rfl (.inl rfl) (@ZP _ _ _ _ _ _ _ _ qw (@Zv _ _ _ _ _ _ _ (ZN (K:=K) rfl) (pv 1) Zf (fun _ _=>rfl)) (@ZP _ _ _ _ _ _ _ _ op_rep (@Zv _ _ _ _ _ _ _ (ZN (K:=K) rfl) (pv 1) Zf (fun _ _=>rfl)) (@ZP _ _ _ _ _ _ _ _ Xl (@ZP _ _ _ _ _ _ _ _ Xl Zf (Zl (Zu (K:=K) rfl) rfl T.ay ox (@Za _ _ _ _ _ (pv 6) Zb rfl))) (@ZP _ _ _ _ _ _ _ _ US (pv 4) (Zl (Zu (K:=K) rfl) rfl T.ay ox (@Za _ _ _ _ _ (@Zv _ _ _ _ _ _ _ (ZN (K:=K) rfl) (pv 1) Zf (fun _ _=>rfl)) Zb rfl)))))) rfl (.inl rfl)) (@Zc _ _ _ _ _ (@Zn _ _ (8) _ _ _ _ Y7.nd rfl (.inl rfl) (@ZW _ _ _ _ Zb) rfl (.inl rfl)) (@Zc _ _ _ _ _ (Xk gJ rfl (ZC (K:=K) rfl (pv 5)) (Zo (i:=9) Y7.nd rfl (.inl rfl)) (@Zh _ _ _ (@Yh _ _ _ _ (Xv gK gW gX ZY (pv 8) (@Za _ _ _ _ _ (@ZV _ _ _ _ _ (@Za _ _ _ _ _ (pv 9) (@Za _ _ _ _ _ (ZA T.bS (kP T hw) hr rfl rfl (@Zq _ _ _ _ _ (pv 0) (@Zq _ _ _ _ _ (pv 3) (@Zq _ _ _ _ _ (pv 7) (@Zq _ _ _ _ _ (pv 8) (@Zq _ _ _ _ _ (pv 9) (@Zq _ _ _ _ _ (@ZP _ _ _ _ _ _ _ _ Vb (Zl (Zu (K:=K) rfl) rfl T.ay ox (@Za _ _ _ _ _ (pv 7) Zb rfl)) (Zl (Zu (K:=K) rfl) rfl T.ay ox (@Za _ _ _ _ _ (@Zv _ _ _ _ _ _ _ (ZN (K:=K) rfl) (pv 1) Zf (fun _ _=>rfl)) Zb rfl))) Zb rfl) rfl) rfl) rfl) rfl) rfl)) Zb rfl) rfl)) Zb rfl)) rfl))) (@Zh _ _ _ (@Zm _ _ _ _ (Z8 (Y0 (K:=K) rfl) (ZA T.bf (V1 T hw) hr rfl rfl (@Za _ _ _ _ _ (pv 8) (@Za _ _ _ _ _ (pv 2) Zb rfl) rfl)) Ys (Z5 (pv 4)))))))))),?_⟩;refine⟨_,rfl,v,t,m,rfl,by omega,hat,hc,by omega,by omega,fun H1 L us s1 L0 hL aL=>?_⟩;obtain⟨ts,ets⟩:=vR t;have nps:(Zk [] (Zp t)).Nodup:=Yv iG;have ord:=Jm t;have dpp:=dep_parts t;have lps:(Zk [] (Zp t)).length<=1000:=by
  have:=XJ nps (l₂:=Zp t) (fun x hx=>by rcases ZH.mp hx with h|h;cases h;exact h);have:=WW _ (fE (psz t));omega
 have inB:∀x∈Zk [] (Zp t),x∈Zp t:=fun x hx=>by rcases ZH.mp hx with h|h;cases h;exact h
 have isCs:∀x∈Zk [] (Zp t),isC x=true:=fun x hx=>VG _ (fE _) hc (YE _ (fE _) (inB x hx));generalize Zk [] (Zp t)=ps at *;have lus:us.length=ps.length:=aL.1;refine⟨_,rfl,L,rfl,⟨_,oj hL⟩,fun D hD=>?_⟩;refine Yx (J:=Itl K L) (n:=us.length) (fun j U G=>∃(y:Option V) (xs:List V),U=[y]/\Ze H1 G/\G D=some (.lst xs)/\xs.length=((ps.take j).filter fun u=>VQ u.lb).length) ?_ ?_ ?_ ?_ ?_
 ·exact⟨_,[],rfl,Zi hD,Zd,rfl⟩
 ·rintro i U G hi ⟨y,xs,rfl,sG,_⟩;exact⟨_,_,oj (sG _ _ hL),fG hi⟩
 ·rintro U G ⟨y,xs,rfl,sG,_⟩;exact⟨_,oj (sG _ _ hL),fE _⟩
 ·rintro i x U G0 G hi ⟨y,xs,rfl,sG,gD,lx⟩ ⟨rfl,hx⟩ N N0 hN hN0;have ex:=hx _ (oj (sG _ _ hL));have ep:ps[i]?=some (ps[i]'(by omega)):=fG (by omega);have au:=aL.2 i x _ ex ep;have tk:ps.take (i+1)=ps.take i++[ps[i]'(by omega)]:=by rw[lO,ep];rfl
  have cu:=isCs _ (fX (show i<ps.length by omega));generalize (ps[i]'(by omega))=u at ep au tk cu;obtain⟨m',rfl⟩:∃m',m=m'+1:=by cases m with|zero=>exact au.elim|succ m'=>exact⟨m',rfl⟩
  obtain⟨ax,us0,rfl,sh0,_⟩:=au;obtain⟨xs0,ex0⟩:=sh0.tup;refine⟨_,rfl,ax,_,_,_,rfl,rfl,om sG _ _ _ ex0,Zj (j:=0) rfl,sz4,fun q hq=>?_⟩;obtain⟨G1,qN,u1,eq⟩:=ZL (o:=.tup [.str "next",.str "until",.str "before",.str "since"]) hq;rw[qN];clear qN;refine⟨q,_,rfl,.inr (on eq),rfl,rfl,_,rfl,?_⟩;cases hk:VQ u.lb with
  |true=>
   refine U9 (ss:=["next","until","before","since"]) ((Jf cu).mp hk) ⟨_,rfl,?_⟩;refine hN _ _ G1 _ (u1 _ _ gD) (by rw[lx,fJ];have:=me (fun u:Tr=>VQ u.lb) (ps.take i);rw[gu] at this;omega) ⟨_,xs++[_],rfl,(Zs.upd (Ze.x (sG.trans u1))).same hD,by rw[Zd],?_⟩;rw[tk,mH,fK,fK,lx,lW (by exact hk)];rfl
  |false=>
   refine Xr (ss:=["next","until","before","since"]) (fun z=>by rw[(Jf cu).mpr z] at hk;cases hk) ?_;refine hN0 _ G1 ⟨_,xs,rfl,sG.trans u1,u1 _ _ gD,?_⟩;rw[tk,mH,fK,lx,lX (by rw[hk];exact gk)];rfl
 rintro U G ⟨y,xs,rfl,sG,gD,lx⟩;rw[lus,iP] at lx;rw[<- lx] at dpp;have lx1:xs.length<=1000:=by rw[lx];exact fU (me _ _) lps
 obtain⟨⟨W,R,hrn,hW,hR⟩,rne,rb⟩:=hrun;have s2:=s1.trans sG;have p1:1<=ring.length:=iR.mpr rne;rw[fK] at hl31;refine⟨_,rfl,rn,_,_,_,rfl,rfl,on (s2 _ _ hrn),Zj (j:=0) rfl,?_⟩;refine⟨_,rfl,rn,_,_,_,rfl,rfl,on (s2 _ _ hrn),Zj (j:=1) rfl,?_⟩;refine⟨_,rfl,.inl ⟨D,_,rfl,.inl (oj gD),?_⟩⟩;refine⟨_,_,rfl,rfl,_,rfl,_,rfl,rn,_,_,_,rfl,rfl,on (s2 _ _ hrn),Zj (j:=1) rfl,.inl ⟨R,_,rfl,.inl (oj (s2 _ _ hR)),?_⟩⟩;rw[fF];have ei:(3:Int)+(xs.length:Nat)+(many:Int)/(ring.length:Nat)=((3+xs.length+many/ring.length:Nat):Int):=by simp
 have cm:ring.length*(many/ring.length)<=many:=Nat.mul_div_le _ _;have cm2:many<ring.length*(many/ring.length)+ring.length:=by have:=Nat.div_add_mod many ring.length;have:=Nat.mod_lt many p1;omega
 have lrc:ring.length*(3+xs.length+many/ring.length)=ring.length*3+ring.length*xs.length+ring.length*(many/ring.length):=by rw[iL,iL]
 have lrx:ring.length*xs.length<=31*1000:=Nat.mul_le_mul (by omega) lx1;have dqq:ring.length*Vi t<=ring.length*xs.length:=mi _ dpp;refine⟨_,_,rfl,rfl,?_,_,_,rfl,rfl,R,_,_,rfl,rfl,s2 _ _ hR,?_,?_,?_,fun A1 hA1=>?_⟩
 ·exact⟨by omega,by omega⟩
 ·rw[ei];exact Int.le_trans (by decide) (Int.natCast_nonneg _)
 ·rw[ei];have:=Nat.div_le_self many ring.length;omega
 ·rw[ei,gw,fF,lrc,fJ];omega
 rw[ei,gw,show(List.replicate (3+xs.length+many/ring.length) (ring.map V.int)).flatten=((List.replicate (3+xs.length+many/ring.length) ring).flatten).map V.int by rw[List.map_flatten,List.map_replicate]];obtain⟨G1,qN,u1,eA1⟩:=ZL (o:=.lst (((List.replicate (3+xs.length+many/ring.length) ring).flatten).map V.int)) hA1;rw[qN];clear qN;refine⟨W,A1,_,_,rfl,rfl,u1 _ _ (s2 _ _ hW),eA1,by rw[fF,fF,rep_len,lrc,fJ];omega,fun RM hRM=>?_⟩;rw[<- gb];obtain⟨G2,qN,u2,eRM⟩:=ZL (o:=.lst ((way++(List.replicate (3+xs.length+many/ring.length) ring).flatten).map V.int)) hRM;rw[qN];clear qN;have hrs:∀k,k<way.length+ring.length*(3+xs.length+many/ring.length)->(way++(List.replicate (3+xs.length+many/ring.length) ring).flatten)[k]?=some (Xj way ring k):=fun k hk=>run_at hk;have hrl:(way++(List.replicate (3+xs.length+many/ring.length) ring).flatten).length=way.length+ring.length*(3+xs.length+many/ring.length):=by rw[fK,rep_len]
 have hrb:∀x∈(way++(List.replicate (3+xs.length+many/ring.length) ring).flatten),0<=x/\x<(d.signs.length:Nat):=fun x hx=>by
  rcases fR.mp hx with h|h
  ·exact rb x (g8 _ h)
  ·obtain⟨l,h1,h2⟩:=iH.mp h;rw[List.mem_replicate] at h1;rw[h1.2] at h2;exact rb x (gz _ h2)
 rw[<- hrl] at hrs;rw[lrc] at hrl;generalize (way++(List.replicate (3+xs.length+many/ring.length) ring).flatten)=rs at eRM hrs hrl hrb;have s3:Ze H1 G2:=sG.trans (u1.trans u2);have s4:Ze H G2:=s1.trans s3;have per:∀u∈ps,∀k,rs.length<=k->Z4 d st (Xj way ring) u k=Z4 d st (Xj way ring) u (k-ring.length):=fun u hu k hk=>by
  refine per_all rne m u ?_ (isCs u hu) k ?_
  ·obtain⟨j,hj,ej⟩:=gI hu;have:=aL.2 j (us[j]'(by omega)) u (fG (by omega)) (by rw[fG hj,ej]);exact this.ok
  ·have:=mi ring.length (Je m hat.ok (inB u hu));rw[iL];omega
 clear eA1 hA1 hRM gD hD u1 u2 sG s2 dpp lx;refine⟨by decide,fun RW hRW=>?_⟩;obtain⟨G3,qN,u3,eRW⟩:=ZL (o:=.lst []) hRW;rw[qN];clear qN;refine⟨_,rfl,L,rfl,⟨_,oj (u3 _ _ (s3 _ _ hL))⟩,?_⟩;refine YM (J:=Itl K L) (n:=us.length) (fun i U G=>∃(z9:Option V) (es:List (Tr×Addr)),U=[some (.ref w),some (.ref rn),some v,some (.ref sl),some (.int (many:Nat)),some (.ref L),some (.ref D),some (.ref RM),some (.ref RW),z9]/\Ze G2 G/\WQ K G RW es/\es.length=i/\(∀(j:Nat) e,es[j]?=some e->ps[j]?=some e.1)/\∀e∈es,e.2≠RW/\G e.2=some (.lst (((List.range rs.length).map (Z4 d st (Xj way ring) e.1)).map V.bl))) ?_ ?_ ?_ ?_ ?_
 ·exact⟨_,[],rfl,u3,⟨[],eRW,rfl,fun j x e h=>by simp at h⟩,rfl,fun j e h=>by simp at h,fun e h=>by cases h⟩
 ·rintro i U F hi ⟨z9,es,rfl,sF,_⟩;exact⟨_,_,oj (sF _ _ (s3 _ _ hL)),fG hi⟩
 ·rintro U F ⟨z9,es,rfl,sF,_⟩;exact⟨_,oj (sF _ _ (s3 _ _ hL)),fE _⟩
 ·rintro i x U F0 F hi ⟨z9,es,rfl,sF,hpa,les,hes,hrow⟩ ⟨rfl,hx⟩;have ex:=hx _ (oj (sF _ _ (s3 _ _ hL)));have ep:ps[i]?=some (ps[i]'(by omega)):=fG (by omega);have au:=aL.2 i x _ ex ep;have um:=fX (show i<ps.length by omega);generalize (ps[i]'(by omega))=u at ep au um;obtain⟨m',rfl⟩:∃m',m=m'+1:=by cases m with|zero=>exact au.elim|succ m'=>exact⟨m',rfl⟩
  have sHF:=s4.trans sF;obtain⟨xs2,hx2,lx2,hp2⟩:=id hpa;refine⟨_,rfl,.inl ⟨rfl,_,oj hx2⟩,_,rfl,_,rfl,_,rfl,_,rfl,_,rfl,_,rfl,_,rfl,.inl ⟨RM,_,rfl,.inl (oj (sF _ _ eRM)),_,rfl,rn,_,_,_,rfl,rfl,on (sHF _ _ hrn),Zj (j:=1) rfl,.inl ⟨R,_,rfl,.inl (oj (sHF _ _ hR)),_,_,rfl,rfl,?_⟩⟩⟩;rw[fF,fF];refine⟨w,sl,RM,RW,x,d,st,Xj way ring,rs,es,u,m',ring.length,by rw[show((rs.length-ring.length:Nat):Int)=(rs.length:Int)-(ring.length:Int) by omega];rfl,⟨hw0.mono sHF,sF _ _ eRM,by omega,hrs,hrb,au.mono (om (s3.trans sF)),isCs u um,p1,by omega,hpa,fun y hy=>?_,fun y hy=>?_,fun hs=>?_⟩,fun F1 D2 v1 D20 e2=>?_⟩
  ·obtain⟨i',hi',ei'⟩:=ord i u ep y hy;have hl:i'<es.length:=by omega
   have e1:=hes i' _ (fG hl);rw[ei'] at e1;have e1':y=(es[i']'hl).1:=fY e1;have hm:=hrow _ (fX hl);refine⟨i',(es[i']'hl).2,by rw[fG hl,e1'],fun j e hj he q=>?_,by rw[e1'];exact hm.2⟩;have e3:=hes j e he;rw[q] at e3;have a1:=fO.mp e3;have a2:=fO.mp ei';have:=(iU nps).mp (a1.2.trans a2.2.symm);omega
  ·obtain⟨i',hi',ei'⟩:=ord i u ep y hy;exact per y (gj ei')
  ·obtain⟨ss,i',l,h1,h2,h3,h4⟩:=hsets u (inB u um) hs;exact⟨ss,i',l,h1.mono sHF,h2,h3,sHF _ _ h4⟩
  refine⟨sz2,fun q hq=>?_⟩;obtain⟨F2,qN,v2,eq⟩:=ZL (o:=.tup [x,.ref D2]) hq;rw[qN];clear qN;have v12:=v1.trans v2;have hx3:=v12 _ _ hx2;refine⟨RW,_,_,rfl,rfl,hx3,by rw[lx2,les,fJ];omega,?_⟩;have tT:YH F2 (upd F2 RW (.lst (xs2++[.ref q]))):=(Zs.upd (Ze.x (Ze.refl F2))).tup hx3;have tF:=(om v12).trans tT;have nD:D2≠RW:=fun z=>by rw[z,hx2] at D20;cases D20
  refine⟨_,es++[(u,D2)],rfl,(Zs.upd (Ze.x (sF.trans v12))).same hRW,⟨xs2++[.ref q],Zd,by rw[fK,fK,lx2];rfl,fun j y e hj he=>?_⟩,by rw[fK,les];rfl,fun j e he=>?_,fun e he=>?_⟩
  ·by_cases cj:j<xs2.length
   ·rw[gm cj] at hj;rw[gm (by omega)] at he;obtain⟨b',w',n',q1,q2,q3,q4⟩:=hp2 j y e hj he;exact⟨b',w',n',q1,tF _ _ _ q2,q3.mono tF,q4⟩
   ·have lj:=(fO.mp hj).1;rw[fK,gG] at lj;obtain rfl:j=xs2.length:=by omega
    rw[gy (fE _),g0] at hj;rw[lx2,gy (fE _),g0] at he;cases hj;cases he;exact⟨q,x,m'+1,rfl,tT _ _ _ (on eq),(au.mono (om (s3.trans sF))).mono tF,fU (UE _ (fE _) (YE _ (fE _) (inB u um))) hdp⟩
  ·by_cases cj:j<es.length
   ·rw[gm cj] at he;exact hes j e he
   ·have lj:=(fO.mp he).1;rw[fK,gG] at lj;obtain rfl:j=es.length:=by omega
    rw[gy (fE _),g0] at he;cases he;rw[les];exact ep
  ·rcases fR.mp he with he|he
   ·obtain⟨h1,h2⟩:=hrow e he;exact⟨h1,by rw[Zx h1];exact v12 _ _ h2⟩
   ·rw[fW] at he;subst he;exact⟨nD,by rw[Zx nD];exact v2 _ _ e2⟩
 rintro U F ⟨z9,es,rfl,sF,hpa,les,hes,hrow⟩;have lpt:ps.length=ts.length+1:=by rw[ets,fK];rfl
 have hl:ts.length<es.length:=by omega
 have e1:=hes _ _ (fG hl);have et:ps[ts.length]?=some t:=by rw[ets,gy (fE _),g0];rfl
 rw[et] at e1;have e1':t=(es[ts.length]'hl).1:=fY e1;have hm:=(hrow _ (fX hl)).2;rw[<- e1'] at hm;refine⟨_,rfl,_,rfl,RW,es,v,t,m,ts.length,(es[ts.length]'hl).2,rfl,hpa,hat.mono (om (s4.trans sF)),by rw[fG hl,e1'],fun j e hj he q=>?_,?_⟩
 ·have e3:=hes j e he;rw[q] at e3;have a1:=fO.mp e3;have a2:=fO.mp et;have:=(iU nps).mp (a1.2.trans a2.2.symm);omega
 refine⟨_,rfl,_,rfl,_,_,rfl,oj hm,fun q hq=>?_⟩;rw[VM,<- iT,<- iT,List.take_range,mP (by omega)];exact kk _ q ((s4.trans sF).trans (Zi hq)) ((s4.trans sF).free hq) Zd
def At.head{m:Nat}{t:Tr}(h:At K m H v t):∃a xs,v=.ref a/\SqT K H a (.str (Zy t.lb)::xs):=by
 cases m with
 |zero=>exact h.elim
 |succ m=>
  obtain⟨a,vs,rfl,sh,_⟩:=h;cases e:t.lb with
  |yes=>rw[e] at sh;exact⟨a,[],rfl,sh.2⟩
  |sign z=>rw[e] at sh;exact⟨a,_,rfl,sh.2⟩
  |op w=>rw[e] at sh;exact⟨a,_,rfl,sh⟩
  |wit j=>rw[e] at sh;exact⟨a,_,rfl,sh⟩
  |many w=>rw[e] at sh;obtain⟨b,h1,_⟩:=sh;exact⟨a,_,rfl,h1⟩
def JL{t:Tr}(hc:isC t=true):Zy t.lb = "some" ↔ t.lb=.op "some" := by
 obtain⟨c,ks⟩:=t
 show Zy c = "some" ↔ c=.op "some"
 cases c with
 |yes=>exact⟨fun z=>absurd (show("yes" : Str) = "some" from z) (by decide +kernel),nofun⟩
 |sign z=>exact⟨fun z=>absurd (show("sign" : Str) = "some" from z) (by decide +kernel),nofun⟩
 |op w=>exact⟨fun z=>fS Lb.op z,fun z=>Lb.op.inj z⟩
 |wit m=>exact⟨fun z=>absurd (show("within" : Str) = "some" from z) (by decide +kernel),nofun⟩
 |many w=>
  have hw:w = "and" := by
   rw[YG] at hc;unfold Us at hc;simp at hc;exact hc.2.1
  subst hw;exact⟨fun z=>absurd (show("and" : Str) = "some" from z) (by decide +kernel),nofun⟩
def trY:Tr:=.node (.op "some") [.node .yes []]
structure WC(K:W.Frag)(H0 G:Hp)(s SL:Addr)(st:Tr->List Int)(ss:List Tr)(xs:List V):Prop where
 hs:G SL=some (.lst xs)
 len:xs.length=ss.length
 it:∀(i:Nat) v t,xs[i]?=some v->ss[i]?=some t->∃(b l:Addr) (e:V) (n:Nat),v=.ref b/\SqT K G b [e,.ref l]/\At K n G e t/\G l=some (.lst ((st t).map V.int))/\l≠s/\l≠SL/\H0 l=none
 short:∀t∈ss,(st t).length<=1000/\dpt t<=60
 nd:ss.Nodup
def WC.step{s SL:Addr}{xs ys:List V}(h:WC K H0 G s SL st ss xs)(hs:G s=some (.lst ys))(n:SL≠s)(x:Zs s G G'):WC K H0 G' s SL st ss xs:=by
 have u:=Zs.tup x hs;refine⟨x _ _ n h.hs,h.len,fun i v t a b=>?_,h.short,h.nd⟩;obtain⟨b,l,e,n,q1,q2,q3,q4,q5,q6⟩:=h.it i v t a b;exact⟨b,l,e,n,q1,u _ _ _ q2,q3.mono u,x _ _ q5 q4,q5,q6⟩
def zip_get{xs:List α}{ss:List β}{p:α×β->Bool}{x:α}{t:β}(h1:(((xs.zip ss).filter p).map Prod.fst)[i]?=some x)(h2:(((xs.zip ss).filter p).map Prod.snd)[i]?=some t):p (x,t)=true/\∃j:Nat,xs[j]?=some x/\ss[j]?=some t:=by
 rw[fL] at h1 h2;obtain⟨e,he,rfl⟩:=iF.mp h1;rw[he] at h2;cases h2;have hm:=gj he;rw[i9] at hm;obtain⟨j,hj⟩:=mJ.mp hm.1;rw[lG] at hj;exact⟨hm.2,j,hj⟩
def zip_snd{xs:List α}{ss:List β}(h:xs.length=ss.length):(xs.zip ss).map Prod.snd=ss:=List.map_snd_zip (by omega)
def zip_fst{xs:List α}{ss:List β}(h:xs.length=ss.length):(xs.zip ss).map Prod.fst=xs:=List.map_fst_zip (by omega)
def jY{xs:List α}{ss:List β}{q:β->Bool}(h:xs.length=ss.length){t:β}:t∈((xs.zip ss).filter fun e=>q e.2).map Prod.snd↔t∈ss/\q t=true:=by
 rw[gn];constructor
 ·rintro⟨e,he,rfl⟩;rw[i9] at he;exact⟨(lA (a:=e.1) (b:=e.2) he.1).2,he.2⟩
 ·rintro⟨h1,h2⟩;obtain⟨j,hj,rfl⟩:=gI h1;refine⟨(xs[j]'(by omega),ss[j]),i9.mpr ⟨?_,h2⟩,rfl⟩;exact mJ.mpr ⟨j,by rw[lG];exact⟨fG (by omega),fG hj⟩⟩
def WC.cut{s SL:Addr}{xs:List V}(h:WC K H0 G s SL st ss xs)(q:Tr->Bool)(x:Ze G G')(hD:G' D=some (.lst (((xs.zip ss).filter fun e=>q e.2).map Prod.fst)))(D0:G D=none):WC K H0 G' s D st (((xs.zip ss).filter fun e=>q e.2).map Prod.snd) (((xs.zip ss).filter fun e=>q e.2).map Prod.fst):=by
 refine⟨hD,by rw[fF,fF],fun i v t a b=>?_,fun t ht=>h.short t ((jY h.len).mp ht).1,?_⟩
 ·obtain⟨_,j,h1,h2⟩:=zip_get a b;obtain⟨b,l,e,n,q1,q2,q3,q4,q5,q6,q7⟩:=h.it j v t h1 h2;exact⟨b,l,e,n,q1,om x _ _ _ q2,q3.mono (om x),x _ _ q4,q5,(fun z=>by rw[z,D0] at q4;cases q4),q7⟩
 ·have:=((List.filter_sublist (p:=fun e:V×Tr=>q e.2) (l:=xs.zip ss)).map Prod.snd);rw[zip_snd h.len] at this;exact this.nodup h.nd
open Classical in
def WC.add{s SL q l:Addr}{xs:List V}{m:Nat}{e:V}{u:Tr}(h:WC K H0 G s SL st ss xs)(hu:u∉ss)(hq:G q=some (.tup [e,.ref l]))(he:At K m G e u)(hl:G l=some (.lst (rs.map V.int)))(n1:l≠s)(n2:l≠SL)(l0:H0 l=none)(lr:rs.length<=1000)(du:dpt u<=60):WC K H0 (upd G SL (.lst (xs++[.ref q]))) s SL (fun x=>if x=u then rs else st x) (ss++[u]) (xs++[.ref q]):=by
 have tU:=Ww (o:=.lst (xs++[.ref q])) h.hs;refine⟨Zd,by rw[fK,fK,h.len];rfl,fun i v' t' h1 h2=>?_,fun x hx=>?_,?_⟩
 ·by_cases ci:i<xs.length
  ·rw[gm ci] at h1;rw[gm (by rw[<- h.len];exact ci)] at h2;obtain⟨b',l',e',n',q1,q2,q3,q4,q5,q6,q7⟩:=h.it i v' t' h1 h2;have hne:t'≠u:=fun z=>hu (by rw[<- z];exact gj h2);refine⟨b',l',e',n',q1,tU _ _ _ q2,q3.mono tU,?_,q5,q6,q7⟩;rw[Zx q6,if_neg hne];exact q4
  ·have hi2:=(fO.mp h1).1;rw[fK,gG] at hi2;have ei:i=xs.length:=by omega
   rw[gy (by omega),ei,g0] at h1;rw[gy (by rw[<- h.len];omega),ei,h.len,g0] at h2;cases h1;cases h2;refine⟨q,l,e,m,rfl,tU _ _ _ (on hq),he.mono tU,?_,n1,n2,l0⟩;rw[Zx n2,if_pos rfl];exact hl
 ·rcases fR.mp hx with hx|hx
  ·have hne:x≠u:=fun z=>hu (by rw[<- z];exact hx);rw[if_neg hne];exact h.short x hx
  ·rw[fW] at hx;rw[if_pos hx,hx];exact⟨lr,du⟩
 ·rw[lI];exact⟨h.nd,by simp,fun x hx y hy z=>by rw[fW] at hy;exact hu (by rw[<- hy,<- z];exact hx)⟩
def jP(K:W.Frag)(a:Adr):Sp:=fun vs H Q _=>∃(s:Addr) (v:V) (n m many:Nat) (t:Tr),vs=[.ref s,v,.int (many:Nat)]/\YV H s n/\n<=10000/\many<=20/\At K m H v t/\m<8/\isC t=true/\psz t<=200/\dpt t<=60/\∀H' sl st ss xs,Zs s H H'->H sl=none->WC K H H' s sl st ss xs->(∀x∈ss,x=trY\/x∈Zp t)->(∀x∈Zk [] (Zp t),x.lb=.op "some" -> x∈ss)->(∀x∈ss,∀y∈st x,0<=y/\y<(20:Int))->Q (.ref sl) H'
def jC:Okd P w K mg base a 11 a.y54 a.z54 fc jP:=fun T hw=>by
 have aT:=U4 (P:=P) (w:=w) (base:=base) T hw 8;refine okF T.bL.f WJ fun de A outer s H vs Q E hr h=>?_;obtain⟨s,v,n,m,many,t,rfl,hst,hn,hm20,hat,hm8,hc,hz,hdp,k⟩:=h;refine⟨_,(@Zc _ _ _ _ _ (@Zn _ _ (3) _ _ _ _ WJ.nd rfl (.inl rfl) (@ZW _ _ _ _ (@Za _ _ _ _ _ (@ZV _ _ _ _ _ (@Za _ _ _ _ _ (@ZV _ _ _ _ _ (@Za _ _ _ _ _ Zz (@Za _ _ _ _ _ (@ZV _ _ _ _ _ (@Za _ _ _ _ _ Zz Zb rfl)) Zb rfl) rfl)) (@Za _ _ _ _ _ (@ZW _ _ _ _ (@Za _ _ _ _ _ Zf Zb rfl)) Zb rfl) rfl)) Zb rfl)) rfl (.inl rfl)) (@Zc _ _ _ _ _ (Xk gJ rfl (ZC (K:=K) rfl (XQ aT (rmL hr rfl) rfl T.ai.g T.ai.f.kp T.ai.n .nil Yy (@Za _ _ _ _ _ (pv 1) Zb rfl))) (Zo (i:=4) WJ.nd rfl (.inr rfl)) (@Zh _ _ _ (@ZZ _ _ _ _ _ _ _ _ (@Zw _ _ _ _ _ _ _ _ Yr (@Zv _ _ _ _ _ _ _ (ZN (K:=K) rfl) (pv 4) Zf (fun _ _=>rfl)) Zz (ZI _)) (@Zc _ _ _ _ _ (YQ (i:=3) WJ.nd rfl rfl (Nc:=["_law_pair","_law_part"]) (ix:=[none,some 4]) (ZJ.of (by decide +kernel:ZO (Zg Wy) Uz _ _ _=true)) rfl (ZC (K:=K) rfl (pv 3)) (fun _ _ _ _ _=>(Zo (i:=0) (show List.Nodup (["_law_pair","_law_part"]:List Str) by decide +kernel) rfl (.inl rfl))) (fun _ _ _ _ _=>(Wq (@Zw _ _ _ _ _ _ _ _ (UW (K:=K) rfl (Yq.units hr)) (@Zv _ _ _ _ _ _ _ (ZN (K:=K) rfl) (pv 0) Zf (fun _ _=>rfl)) (pv 1) (ZI _)))) (fun _ _ _ _ _=>(pv 0))) (@Zh _ _ _ (@Yh _ _ _ _ (Xv gK gW gX ZY (pv 3) (@Za _ _ _ _ _ (@ZV _ _ _ _ _ (@Za _ _ _ _ _ (pv 4) (@Za _ _ _ _ _ (ZR (Nc:=fu) (ix:=[none,some 0]) (ZJ.of (by decide +kernel:ZO (Zg Wy) Uz _ _ _=true)) rfl (Y8 rfl T.aJ (@Za _ _ _ _ _ (pv 2) Zb rfl)) (fun _ _ _ _ _=>(Zo (i:=0) (show List.Nodup fu by decide +kernel) rfl (.inl rfl))) (fun _ _ _ _ _=>(Wq (@Zw _ _ _ _ _ _ _ _ Yr (ZA T.aa (ZE T hw) hr rfl rfl (@Za _ _ _ _ _ (pv 1) (@Za _ _ _ _ _ Zf Zb rfl) rfl)) Zf (ZI _)))) (fun _ _ _ _ _=>(pv 0))) Zb rfl) rfl)) Zb rfl)) rfl))) ZD))) (@Zh _ _ _ (@Zm _ _ _ _ (pv 3))))),?_⟩;obtain⟨os,hos⟩:=hst.lst;refine⟨by decide,fun a1 ha1=>?_⟩;obtain⟨H1,qN,s1,e1⟩:=ZL (o:=.tup [.str "yes"]) ha1;rw[qN];refine⟨sz2,fun a2 ha2=>?_⟩;obtain⟨H2,qN,s2,e2⟩:=ZL (o:=.tup [.str "some",.ref a1]) ha2;rw[qN];refine⟨by decide,fun a3 ha3=>?_⟩;obtain⟨H3,qN,s3,e3⟩:=ZL (o:=.lst [.int 0]) ha3;rw[qN];refine⟨sz2,fun a4 ha4=>?_⟩;obtain⟨H4,qN,s4,e4⟩:=ZL (o:=.tup [.ref a2,.ref a3]) ha4;rw[qN];refine⟨sz1,fun SL hSL=>?_⟩;obtain⟨H5,qN,s5,e5⟩:=ZL (o:=.lst [.ref a4]) hSL;rw[qN];have sH5:=s1.trans (s2.trans (s3.trans (s4.trans s5)));have aY:At K 2 H5 (.ref a2) trY:=⟨a2,[.ref a1],rfl,on ((s3.trans (s4.trans s5)) _ _ e2),.inl ⟨by decide +kernel,rfl⟩,rfl,fun i u k h1 h2=>by
  cases i with
  |zero=>cases h1;cases h2;exact⟨a1,[],rfl,⟨rfl,on ((s2.trans (s3.trans (s4.trans s5))) _ _ e1)⟩,rfl,rfl,nofun⟩
  |succ i=>cases h1⟩
 have n3:a3≠s:=fun z=>by rw[z,(s1.trans s2) _ _ hos] at ha3;cases ha3
 have n3S:a3≠SL:=fun z=>by rw[<- z,s4 _ _ e3] at hSL;cases hSL
 have nSL:SL≠s:=fun z=>by rw[z,(s1.trans (s2.trans (s3.trans s4))) _ _ hos] at hSL;cases hSL
 have hSL0:H SL=none:=(s1.trans (s2.trans (s3.trans s4))).free hSL;have sT0:WC K H H5 s SL (fun _=>[0]) [trY] [.ref a4]:=by
  refine⟨e5,rfl,fun i v t h1 h2=>?_,fun t ht=>?_,by simp⟩
  ·cases i with
   |zero=>cases h1;cases h2;exact⟨a4,a3,.ref a2,2,rfl,on (s5 _ _ e4),aY,(s4.trans s5) _ _ e3,n3,n3S,(s1.trans s2).free ha3⟩
   |succ i=>cases h1
  ·rw[fW] at ht;rw[ht];exact⟨by decide,by decide +kernel⟩
 refine⟨_,rfl,v,t,m,rfl,by omega,hat.mono (om sH5),hc,by omega,by omega,fun H6 L us s6 L0 hL aL=>⟨L,rfl,⟨_,oj hL⟩,?_⟩⟩;have hcu:∀x∈Zk [] (Zp t),isC x=true/\x∈Zp t:=fun x hx=>by
  rcases ZH.mp hx with h|h
  ·cases h
  ·exact⟨yL hc x (ZH.mpr (.inr (YE _ (fE _) h))),h⟩
 have nd:(Zk [] (Zp t)).Nodup:=Yv (by simp);have lts0:(Zk [] (Zp t)).length<=200:=by
  have:=XJ nd (l₂:=Zp t) (fun x hx=>(hcu x hx).2);have:=WW _ (fE (psz t));omega
 generalize hts:Zk [] (Zp t)=ts at aL hcu nd lts0;have s56:=sH5.trans s6;have st6:=hst.mono s56;have L00:H L=none:=sH5.free L0;have nL:L≠s:=fun z=>by rw[z,hos] at L00;cases L00
 refine YM (J:=Itl K L) (n:=us.length) (fun j U G=>∃(z:Option V) (SL:Addr) (st:Tr->List Int) (ss:List Tr) (xs:List V),U=[some (.ref s),some v,some (.int (many:Nat)),some (.ref SL),z]/\Zs s H G/\H SL=none/\G L=some (.lst us)/\L≠SL/\AtL K m G us ts/\YV G s (n+20*j)/\WC K H G s SL st ss xs/\ss.length<=j+1/\(∀x∈ss,x=trY\/x∈ts.take j)/\(∀x∈ts.take j,x.lb=.op "some" -> x∈ss)/\∀x∈ss,∀y∈st x,0<=y/\y<(20:Int)) ?_ ?_ ?_ ?_ ?_
 ·exact⟨_,SL,_,_,_,rfl,Ze.x s56,hSL0,hL,(fun z=>by rw[z,e5] at L0;cases L0),aL,st6,⟨s6 _ _ sT0.hs,sT0.len,fun i v t a b=>(let ⟨b,l,e,n,q1,q2,q3,q4,q5⟩:=sT0.it i v t a b; ⟨b,l,e,n,q1,om s6 _ _ _ q2,q3.mono (om s6),s6 _ _ q4,q5⟩),sT0.short,sT0.nd⟩,fE _,(fun x h=>.inl (by simpa using h)),(fun x h=>by simp at h),fun x _ y hy=>by rw[fW] at hy;subst hy;exact⟨by decide,by decide⟩⟩
 ·rintro j U G hj ⟨z,SL,st,ss,xs,rfl,xG,hS0,gL,_⟩;exact⟨_,_,oj gL,fG hj⟩
 ·rintro U G ⟨z,SL,st,ss,xs,rfl,xG,hS0,gL,_⟩;exact⟨_,oj gL,fE _⟩
 ·rintro j x U G0 G hj ⟨z,SL,st,ss,xs,rfl,xG,hS0,gL,nLS,aG,stG,sT,lss,hin,hall,hb⟩ ⟨rfl,hx⟩;have ex:=hx _ (oj gL);have lts:=aG.1;have hu:ts[j]?=some (ts[j]'(by omega)):=fG (by omega);have hum:=fX (show j<ts.length by omega);have hnot:(ts[j]'(by omega))∉ts.take j:=fun hm=>by
   obtain⟨i,hi,e⟩:=gI hm;rw[gu] at hi;rw[nC] at e;have:=(iU nd).mp e;omega
  have htk:ts.take (j+1)=ts.take j++[ts[j]'(by omega)]:=by rw[lO,hu];rfl
  rw[htk];generalize (ts[j]'(by omega))=u at hu hum hnot htk;have au:=aG.2 j x u ex hu;obtain⟨b,ys,rfl,hb0⟩:=At.head au;have du:dpt u<=60:=fU (UE _ (fE _) (YE _ (fE _) (hcu u hum).2)) hdp;refine⟨_,rfl,b,_,_,_,rfl,rfl,hb0,Zj (j:=0) rfl,rfl,_,rfl,XN (fun c=>?_) (fun c=>?_)⟩
  ·have hlb:u.lb=.op "some" := (JL (hcu u hum).1).mp (V.str.inj (gi c))
   classical
   refine⟨_,rfl,SL,rfl,⟨_,oj sT.hs⟩,fun D1 hD1=>?_⟩;refine U0 (K:=K) (xs.zip ss) Prod.fst (fun e=>!decide (e.2=u)) Prod.fst hD1 (by rw[zip_fst sT.len];exact oj sT.hs) (by rw[iJ,sT.len,Nat.min_self,fJ];omega) ?_ ?_
   ·rintro⟨xv,xt⟩ hxe F N N0 sF hN hN0;obtain⟨i,hi⟩:=mJ.mp hxe;rw[lG] at hi;obtain⟨b',l',e',n',q1,q2,q3,q4,q5,q6,q7⟩:=sT.it i xv xt hi.1 hi.2;have q1':xv=.ref b':=q1;subst q1';have hxs:xt∈ss:=gj hi.2;refine⟨_,rfl,b',_,_,_,rfl,rfl,om sF _ _ _ q2,Zj (j:=0) rfl,_,rfl,neq_at (q3.mono (om sF)) (au.mono (om sF)) (sT.short xt hxs).2 (fun e=>?_) (fun e=>?_)⟩
    ·exact⟨_,rfl,Z3 (hN0 F (.refl _) (by show(!decide (xt=u))=false;rw[gO e];rfl))⟩
    ·exact⟨_,rfl,Yo ⟨_,rfl,hN F (.refl _) (by show(!decide (xt=u))=true;rw[gY e];rfl)⟩⟩
   intro G1 hG1 s1';have sT1:=sT.cut (fun x=>!decide (x=u)) s1' hG1 hD1;have nu:u∉((xs.zip ss).filter fun e=>!decide (e.2=u)).map Prod.snd:=fun z=>by
    have:=((jY (q:=fun x=>!decide (x=u)) sT.len).mp z).2;rw[gO rfl] at this;cases this
   have hmem:∀{y:Tr},y∈((xs.zip ss).filter fun e=>!decide (e.2=u)).map Prod.snd↔y∈ss/\y≠u:=fun {y}=>by
    rw[jY (q:=fun x=>!decide (x=u)) sT.len];simp
   have lss1:(((xs.zip ss).filter fun e=>!decide (e.2=u)).map Prod.snd).length<=j+1:=by
    rw[fF];have:=me (fun e:V×Tr=>!decide (e.2=u)) (xs.zip ss);rw[iJ,sT.len,Nat.min_self] at this;omega
   generalize ((xs.zip ss).filter fun e=>!decide (e.2=u)).map Prod.snd=ss1 at sT1 nu hmem lss1;generalize ((xs.zip ss).filter fun e=>!decide (e.2=u)).map Prod.fst=xs1 at sT1 hG1;have xG1:=xG.trans (Ze.x s1');have st1':=stG.mono s1';have nD1:D1≠s:=fun z=>by obtain⟨o1,ho1⟩:=stG.lst;rw[z,ho1] at hD1;cases hD1
   have D10:H D1=none:=xG.free nD1 hD1;have nLD1:L≠D1:=fun z=>by rw[<- z,gL] at hD1;cases hD1
   refine⟨_,rfl,.inl ⟨rfl,_,oj sT1.hs⟩,_,rfl,_,rfl,_,rfl,by omega,by omega,fun D hD=>?_⟩;rw[gw];have nD:D≠s:=fun z=>by obtain⟨o1,ho1⟩:=st1'.lst;rw[z,ho1] at hD;cases hD
   have nDS:D≠D1:=fun z=>by rw[z,sT1.hs] at hD;cases hD
   have D0:H D=none:=xG1.free nD hD;refine Yx (J:=Itr 0 many) (n:=many) (fun i U F=>∃(y:Option V) (rs:List Int),U=[y,some (.ref s)]/\Zs s G1 F/\YV F s (n+20*j+i)/\F D=some (.lst (rs.map V.int))/\rs.length<=i/\∀x∈rs,0<=x/\x<(20:Int)) ?_ (fun _ _ _ h _=>h) (fun _ _ _=>fE _) ?_ ?_
   ·exact⟨_,[],rfl,Ze.x (Zi hD),st1'.mono (Zi hD),Zd,fE _,fun x hx=>by cases hx⟩
   ·rintro i x U F0 F hi ⟨y,rs,rfl,xF,stF,eD,lr,rb⟩ ⟨rfl,rfl⟩ N N0 hN hN0;refine⟨_,rfl,s,2,_,rfl,stF,by omega,by decide,by decide,fun F1 r' y1 sty hr'=>⟨rfl,_,rfl,XN (fun c=>⟨_,rfl,?_⟩) (fun c=>?_)⟩⟩
    ·refine hN _ _ F1 _ (y1 _ _ nD eD) (by rw[fF,fJ];omega) ⟨_,rs++[(0+(i:Nat):Int)],rfl,(xF.trans y1).updN hD,YV.updN nD (by rw[<- ml];exact sty),by rw[Zd,gb];rfl,by rw[fK];show _+1<=_;omega,fun x hx=>?_⟩;rcases fR.mp hx with hx|hx
     ·exact rb x hx
     ·rw[fW] at hx;omega
    ·exact hN0 _ _ ⟨_,rs,rfl,xF.trans y1,by rw[<- ml];exact sty,y1 _ _ nD eD,by omega,rb⟩
   rintro U F ⟨y,rs,rfl,xF,stF,eD,lr,rb⟩;refine⟨sz2,fun q hq=>?_⟩;obtain⟨F2,qN,u2,eq⟩:=ZL (o:=.tup [.ref b,.ref D]) hq;rw[qN];obtain⟨oG,hoG⟩:=st1'.lst;have x2:Zs s G1 F2:=xF.trans (Ze.x u2);have sT2:=sT1.step hoG nD1 x2;have t2:YH G F2:=(om s1').trans (Zs.tup x2 hoG);refine⟨D1,_,_,rfl,rfl,sT2.hs,by rw[sT2.len,fJ];omega,?_⟩;have tU:=Ww (o:=.lst (xs1++[.ref q])) sT2.hs;refine⟨_,D1,fun x=>if x=u then rs else st x,ss1++[u],xs1++[.ref q],rfl,(xG1.trans x2).updN D10,D10,by rw[Zx nLD1];exact x2 _ _ nL (s1' _ _ gL),nLD1,aG.mono (t2.trans tU),YV.updN nD1 ((stF.mono u2).le (by omega)),sT2.add nu eq (au.mono t2) (u2 _ _ eD) nD nDS D0 (by omega) du,by rw[fK];show _+1<=_;omega,fun x hx=>?_,fun x hx hl=>?_,fun x hx y hy=>?_⟩
   ·rcases fR.mp hx with hx|hx
    ·exact(hin x (hmem.mp hx).1).imp id (fun h=>g8 _ h)
    ·exact .inr (gz _ hx)
   ·rcases fR.mp hx with hx|hx
    ·by_cases e:x=u
     ·rw[e];exact gz _ (fW.mpr rfl)
     ·exact g8 _ (hmem.mpr ⟨hall x hx hl,e⟩)
    ·exact gz _ hx
   ·change y∈(if x=u then rs else st x) at hy
    by_cases e:x=u
    ·rw[if_pos e] at hy;exact rb y hy
    ·rw[if_neg e] at hy;rcases fR.mp hx with hx|hx
     ·exact hb x (hmem.mp hx).1 y hy
     ·exact absurd (fW.mp hx) e
  ·have hlb:¬u.lb=.op "some" := fun z=>c (gO (fS V.str ((JL (hcu u hum).1).mpr z)));refine⟨_,SL,st,ss,xs,rfl,xG,hS0,gL,nLS,aG,stG.le (by omega),sT,by omega,fun x hx=>(hin x hx).imp id (fun h=>g8 _ h),fun x hx hl=>?_,hb⟩;rcases fR.mp hx with hx|hx
   ·exact hall x hx hl
   ·rw[fW] at hx;rw[hx] at hl;exact absurd hl hlb
 rintro U G ⟨z,SL,st,ss,xs,rfl,xG,hS0,gL,nLS,aG,stG,sT,lss,hin,hall,hb⟩;have etk:ts.take us.length=ts:=by rw[aG.1];exact iP
 rw[etk] at hin hall;exact⟨_,rfl,k G SL st ss xs xG hS0 sT (fun x hx=>(hin x hx).imp id fun h=>(hcu x h).2) (by rw[hts];exact hall) hb⟩
structure Sx(K:W.Frag)(H:Hp)(sl:Addr)(st:Tr->List Int)(t:Tr)(ss:List Tr):Prop where
 at_:VZ K H sl st ss
 nd:ss.Nodup
 short:∀s∈ss,(st s).length<=1000/\dpt s<=60
 sub:∀s∈ss,s=trY\/s∈Zp t
 all:∀s∈Zk [] (Zp t),s.lb=.op "some" -> s∈ss
def Sx.mono{K:W.Frag}{H H':Hp}{sl:Addr}{st:Tr->List Int}{t:Tr}{ss:List Tr}(s:Ze H H')(h:Sx K H sl st t ss):Sx K H' sl st t ss:=⟨h.at_.mono s,h.nd,h.short,h.sub,h.all⟩
def trY_ok:isC trY=true/\psz trY<=2000000/\(post trY).length<=2:=by
 refine⟨by decide +kernel,by decide +kernel,by decide +kernel⟩
def Sx.few{t:Tr}(h:Sx K H sl st t ss)(hz:psz t<=200):ss.length<=201:=by
 have:=XJ h.nd (l₂:=trY::Zp t) (fun x hx=>by
  rcases h.sub x hx with h|h
  ·rw[h];exact iz
  ·exact gf _ h)
 have:=WW _ (fE (psz t));rw[gH] at *;omega
def pickL{α β:Type}{R:α->β->Prop}:∀{ys:List α},(∀y∈ys,∃z,R y z)->∃zs:List β,zs.length=ys.length/\∀(i:Nat) y z,ys[i]?=some y->zs[i]?=some z->R y z
 |[],_=>⟨[],rfl,fun i y z h=>by simp at h⟩
 |y::ys,h=>by
  obtain⟨z,hz⟩:=h y (by simp);obtain⟨zs,hl,hr⟩:=pickL (R:=R) (ys:=ys) fun y hy=>h y (gf _ hy);refine⟨z::zs,by rw[gH,gH,hl],fun i u v h1 h2=>?_⟩;cases i with
  |zero=>cases h1;cases h2;exact hz
  |succ i=>exact hr i u v h1 h2
def yP{l:List α}{x:α}(h:x∈l):∃i:Nat,l[i]?=some x:=mJ.mp h
def Sx.sets{t:Tr}(h:Sx K H sl st t ss)(hc:isC t=true)(hz:psz t<=200):SetsOf K H sl st t ss:=by
 have few:=h.few hz;refine⟨h.at_,by omega,fun s hs=>?_,?_,fun s hs=>(h.short s hs).1,h.all⟩
 ·rcases h.sub s hs with rfl|e
  ·exact⟨trY_ok.1,trY_ok.2.1⟩
  ·have e':=YE _ (fE _) e;exact⟨VG _ (fE _) hc e',fU (zG _ (fE _) e') (by omega)⟩
 ·have nd:(Zk (Zk [] (post t)) (ss.map post).flatten).Nodup:=Yv (Yv iG);have:=XJ nd (l₂:=post t++post trY) (fun x hx=>by
   rcases ZH.mp hx with hx|hx
   ·rcases ZH.mp hx with hx|hx
    ·cases hx
    ·exact g8 _ hx
   ·obtain⟨l,hl,hx⟩:=iH.mp hx;obtain⟨s,hs,rfl⟩:=gn.mp hl;rcases h.sub s hs with rfl|e
    ·exact gz _ hx
    ·exact g8 _ (yK _ (fE _) (YE _ (fE _) e) hx))
  have l1:(post t).length=psz t:=rfl;have l2:=trY_ok.2.2;rw[fK] at this;omega
def Sx.pairs{t:Tr}(h:Sx K H sl st t ss):∀u∈Zp t,u.lb=.op "some" -> ∃(es:List (Tr×Addr)) (i:Nat) (l:Addr),WQ K H sl es/\es[i]?=some (u,l)/\(∀(j:Nat) e,j<i->es[j]?=some e->e.1≠u)/\H l=some (.lst ((st u).map V.int)):=by
 obtain⟨xs,hxs,lx,hat⟩:=h.at_;obtain⟨es,le,hes⟩:=pickL (ys:=xs.zip ss) (R:=fun(y:V×Tr) (z:Tr×Addr)=>z.1=y.2/\∃(b:Addr) (e:V) (n:Nat),y.1=.ref b/\SqT K H b [e,.ref z.2]/\At K n H e z.1/\H z.2=some (.lst ((st z.1).map V.int))) (fun y hy=>by
  obtain⟨i,hi⟩:=yP hy;rw[lG] at hi;obtain⟨b,l,e,n,q1,q2,q3,q4⟩:=hat i _ _ hi.1 hi.2;exact⟨(y.2,l),rfl,b,e,n,q1,q2,q3,q4⟩)
 rw[iJ,lx,Nat.min_self] at le;have at_:∀(j:Nat) e,es[j]?=some e->∃x,xs[j]?=some x/\ss[j]?=some e.1/\∃(b:Addr) (v:V) (n:Nat),x=.ref b/\SqT K H b [v,.ref e.2]/\At K n H v e.1/\H e.2=some (.lst ((st e.1).map V.int)):=fun j e he=>by
  have hj:=(fO.mp he).1;have hx:xs[j]?=some (xs[j]'(by omega)):=fG (by omega);have hs:ss[j]?=some (ss[j]'(by omega)):=fG (by omega);obtain⟨q1,q2⟩:=hes j (xs[j]'(by omega),ss[j]'(by omega)) _ (lG.mpr ⟨hx,hs⟩) he;exact⟨_,hx,by rw[hs];exact fS some q1.symm,q2⟩
 intro u hu hl;obtain⟨i,hi⟩:=yP (h.all u (ZH.mpr (.inr hu)) hl);have hi':=(fO.mp hi).1;have he:es[i]?=some (es[i]'(by omega)):=fG (by omega);obtain⟨x,hx,hs,b,v,n,_,_,_,q⟩:=at_ i _ he;rw[hi] at hs;have eu:u=(es[i]'(by omega)).1:=fY hs;refine⟨es,i,(es[i]'(by omega)).2,⟨xs,hxs,by omega,fun j y e h1 h2=>?_⟩,by rw[he,eu],fun j e hj h2 z=>?_,by rw[eu];exact q⟩
 ·obtain⟨x',hx',hs',b',v',n',q1,q2,q3,_⟩:=at_ j e h2;rw[h1] at hx';cases hx';exact⟨b',v',n',q1,q2,q3,(h.short _ (gj hs')).2⟩
 ·obtain⟨x',hx',hs',_⟩:=at_ j e h2;rw[z] at hs';have:=yR h.nd hs' hi;omega
def fineB(bs:List Bool):V7 1 (.list (bs.map PyData.bool)):=fineL fun x _=>⟨by simp[PyData.canLay0],by simp[PyData.depth]⟩
def dpB{b:Addr}{bs:List Bool}(h:H b=some (.lst (bs.map V.bl))):Dp K H (.ref b) (.list (bs.map PyData.bool)):=.lst (oj h) (zM (fun x=>.bl x) bs)
def Two(K:W.Frag)(a:Adr)(n:Nat)(t:Tr)(G:Hp)(w sl:Addr):Prop:=∃(d:WD) (st:Tr->List Int) (ss:List Tr),ZX a.C_World G w d/\d.signs.length=n/\Sx K G sl st t ss
def Two.mono{K:W.Frag}{a:Adr}{n:Nat}{t:Tr}{G G':Hp}{w sl:Addr}(s:Ze G G')(h:Two K a n t G w sl):Two K a n t G' w sl:=let ⟨d,st,ss,h1,h2,h3⟩:=h; ⟨d,st,ss,h1.mono s,h2,h3.mono s⟩
def parts_le{t:Tr}:(Zk [] (post t)).length<=psz t:=XJ (Yv iG) (fun x hx=>by rcases ZH.mp hx with h|h;cases h;exact h)
def rdOf{w rn:Addr}{t:Tr}{m:Nat}(hw:ZX a.C_World H w d)(hd:d.signs.length=n)(n20:n<=20)(hs:Sx K H sl st t ss)(hat:At K m H v t)(hc:isC t=true)(hz:psz t<=200)(r:qg H rn n way ring)(l:(way++ring).length<=31):Rd K a H w rn sl v d way ring t st:=by
 subst hd;have h1:(Zk [] (post t)).length<=200:=fU parts_le hz;refine⟨hw,n20,r,⟨m,hat⟩,hc,by omega,by omega,⟨ss,hs.sets hc hz⟩,?_⟩;rw[fK] at l ⊢;have:=Nat.mul_le_mul h1 (show ring.length+1<=32 by omega);omega
def zR(K:W.Frag)(a:Adr):Sp:=fun vs H Q _=>∃(w nm rn sl:Addr) (v:V) (m:Nat) (nn:List Str) (t:Tr) (d:WD) (st:Tr->List Int) (ss:List Tr) (way ring:List Int),vs=[.ref w,.ref nm,.ref rn,v,.ref sl]/\ZX a.C_World H w d/\Good d/\d.signs.length<=20/\H nm=some (.lst (nn.map V.str))/\nn.length=3/\nn.Nodup/\(∀x∈nn,Yf x=true)/\qg H rn d.signs.length way ring/\(way++ring).length<=31/\At K m H v t/\m<8/\isC t=true/\psz t<=200/\dpt t<=60/\Sx K H sl st t ss/\∀H',Ze H H'->Q (.bl true) H'
def zC:Okd P w K mg base a 12 a.y53 a.z53 fe zR:=fun T hw=>by
 refine okF T.aW.f Yd fun de A outer s H vs Q E hr h=>?_;obtain⟨w,nm,rn,sl,v,m,nn,t,d,st,ss,way,ring,rfl,hw0,gd,n20,hnm,lnn,nnd,nnm,hrun,l31,hat,m8,hc,hz,hdp,sx,k⟩:=h;refine⟨_,(@Zc _ _ _ _ _ (@Zn _ _ (5) _ _ _ _ Yd.nd rfl (.inr rfl) (ZM (Yz (K:=K) rfl rfl) rfl T.aN oq (@Za _ _ _ _ _ (ZM (xu) rfl T.aJ oC (@Za _ _ _ _ _ (VE (pv 0) T.aj T.ab.m (Y6 T hw) (rmL hr rfl) T.ab.n .nil Yy) Zb rfl)) Zb rfl)) rfl (.inl rfl)) (@Zc _ _ _ _ _ (ya (i:=6) Yd.nd rfl rfl (Nc:=dA) (ix:=[none,some 1,some 0]) (XY.of (by decide +kernel:qX (Zg Yg) Xy _ _ _=true)) rfl (ZC (K:=K) rfl (pv 5)) (fun _ _ _ _ _=>(Zo (i:=0) (show List.Nodup dA by decide +kernel) rfl (by first|exact Or.inl rfl|exact Or.inr rfl))) (fun _ _ _ _ _=>Z0) (fun _ _ _ _ _=>(ZR (Nc:=fw) (ix:=[none,some 0,some 2]) (ZJ.ofR (N:=dA) (sc0:=Zg Yg) rfl (by decide +kernel)) rfl (ZC (K:=K) rfl (pv 1)) (fun _ _ _ _ _=>(Zo (i:=0) (show List.Nodup fw by decide +kernel) rfl (.inl rfl))) (fun _ _ _ _ _=>(Wq (@Zw _ _ _ _ _ _ _ _ (zQ (K:=K) rfl) (pv 0) (Wr (pv 2) T.aj T.ag.m (X1 T hw) (rmL hr rfl) T.ag.n .nil Yy (@Za _ _ _ _ _ (pv 1) Zb rfl)) (by with_unfolding_all rfl)))) (fun _ _ _ _ _=>(pv 0))))) (@Zc _ _ _ _ _ (@Zn _ _ (7) _ _ _ _ Yd.nd rfl (.inl rfl) (pe_make T.cc (qc T hw) (rmL hr rfl) rfl T.cz T.a9.n .nil Yy (@Zq _ _ _ _ _ (pv 6) (@Zq _ _ _ _ _ (ZR (Nc:=fz) (ix:=[none,some 0]) (ZJ.of (by decide +kernel:ZO (Zg Yg) Xy _ _ _=true)) rfl (ZC (K:=K) rfl (pv 5)) (fun _ _ _ _ _=>(Zo (i:=0) (show List.Nodup fz by decide +kernel) rfl (.inl rfl))) (fun _ _ _ _ _=>Z0) (fun _ _ _ _ _=>(Wr (pv 1) T.aj T.ah.m (Wb T hw) (rmL hr rfl) T.ah.n .nil Yy (@Za _ _ _ _ _ (pv 0) Zb rfl)))) (@Zq _ _ _ _ _ (@ZW _ _ _ _ (@Za _ _ _ _ _ Zf Zb rfl)) (@Zq _ _ _ _ _ (@ZW _ _ _ _ Zb) Zb rfl) rfl) rfl) rfl)) rfl (.inl rfl)) (@Zc _ _ _ _ _ (ya (i:=8) Yd.nd rfl rfl (Nc:=dv) (ix:=[none,none,some 5]) (XY.of (by decide +kernel:qX (Zg Yg) Xy _ _ _=true)) rfl (ZC (K:=K) rfl (yD (K:=K) rfl (pv 4) (Z5 (Vq XZ Zf)))) (fun _ _ _ _ _=>(Wm (K:=K) (n:=2) rfl rfl (Yb (Zo (i:=0) (show List.Nodup dv by decide +kernel) rfl (by first|exact Or.inl rfl|exact Or.inr rfl)) (Yb (Zo (i:=1) (show List.Nodup dv by decide +kernel) rfl (by first|exact Or.inl rfl|exact Or.inr rfl)) Ws)))) (fun _ _ _ _ _=>Z0) (fun _ _ _ _ _=>(@ZV _ _ _ _ _ (@Za _ _ _ _ _ (pv 0) (@Za _ _ _ _ _ (ZR (Nc:=dq) (ix:=[none,some 1]) (ZJ.ofR (N:=dv) (sc0:=Zg Yg) rfl (by decide +kernel)) rfl (ZC (K:=K) rfl (pv 2)) (fun _ _ _ _ _=>(Zo (i:=0) (show List.Nodup dq by decide +kernel) rfl (.inl rfl))) (fun _ _ _ _ _=>(Wq (@Zw _ _ _ _ _ _ _ _ (zQ (K:=K) rfl) (pv 0) (pv 1) (by with_unfolding_all rfl)))) (fun _ _ _ _ _=>(pv 0))) Zb rfl) rfl)))) (@Zc _ _ _ _ _ (@Zn _ _ (9) _ _ _ _ Yd.nd rfl (.inl rfl) (@ZP _ _ _ _ _ _ _ _ Xl (@ZP _ _ _ _ _ _ _ _ Xl Zf (Zl (Zu (K:=K) rfl) rfl T.ay ox (@Za _ _ _ _ _ (@Zv _ _ _ _ _ _ _ (ZN (K:=K) rfl) (pv 2) Zf (fun _ _=>rfl)) Zb rfl))) (Zl (Zu (K:=K) rfl) rfl T.ay ox (@Za _ _ _ _ _ (@Zv _ _ _ _ _ _ _ (ZN (K:=K) rfl) (pv 2) Zf (fun _ _=>rfl)) Zb rfl))) rfl (.inl rfl)) (@Zc _ _ _ _ _ (Xk gJ rfl (ZC (K:=K) rfl (@ZW _ _ _ _ (@Zq _ _ _ _ _ (@ZV _ _ _ _ _ (@Za _ _ _ _ _ (pv 7) (@Za _ _ _ _ _ (pv 4) Zb rfl) rfl)) (@Zq _ _ _ _ _ (@ZV _ _ _ _ _ (@Za _ _ _ _ _ (pv 0) (@Za _ _ _ _ _ (pv 8) Zb rfl) rfl)) (@Zq _ _ _ _ _ (@ZV _ _ _ _ _ (@Za _ _ _ _ _ (pv 7) (@Za _ _ _ _ _ (pv 8) Zb rfl) rfl)) (@Zq _ _ _ _ _ (@ZV _ _ _ _ _ (@Za _ _ _ _ _ (pv 0) (@Za _ _ _ _ _ (pv 4) Zb rfl) rfl)) Zb rfl) rfl) rfl) rfl))) (Wm (K:=K) (n:=2) rfl rfl (Yb (Zo (i:=10) Yd.nd rfl (.inl rfl)) (Yb (Zo (i:=11) Yd.nd rfl (.inl rfl)) Ws))) (@Zh _ _ _ (@ZZ _ _ _ _ _ _ _ _ (@Zw _ _ _ _ _ _ _ _ (UW (K:=K) rfl (Yq.units hr)) (ZA T.az (Y4 T hw) hr rfl rfl (@Zq _ _ _ _ _ (pv 10) (@Zq _ _ _ _ _ (pv 2) (@Zq _ _ _ _ _ (pv 3) (@Zq _ _ _ _ _ (pv 11) (@Zq _ _ _ _ _ (pv 9) Zb rfl) rfl) rfl) rfl) rfl)) (ZA T.aS (Vw T hw) hr rfl rfl (@Zq _ _ _ _ _ (pv 10) (@Zq _ _ _ _ _ (pv 2) (@Zq _ _ _ _ _ (pv 3) (@Zq _ _ _ _ _ (pv 11) (@Zq _ _ _ _ _ (pv 9) Zb rfl) rfl) rfl) rfl) rfl)) (ZI _)) (@Zh _ _ _ (@Zm _ _ _ _ YR)) ZD))) (@Zh _ _ _ (@Zm _ _ _ _ YR)))))))),?_⟩;obtain⟨dx,fs,ho,hk0⟩:=yz hw0;refine⟨_,rfl,w,dx,fs,rfl,ho,hk0,w,d,rfl,hw0,_,rfl,fun R hR=>?_⟩;obtain⟨H1,qN,s1,eR⟩:=ZL (o:=.rng 0 (d.signs.length:Int)) hR;rw[qN];clear qN;refine .inr ⟨R,(d.signs.length:Int),rfl,eR,by omega,by omega,fun P hP=>?_⟩;obtain⟨H2,qN,s2,eP⟩:=ZL (o:=.lst ((L3.upTo (d.signs.length:Int)).map V.int)) hP;rw[qN];clear qN;have s12:=s1.trans s2;have lup:((L3.upTo (d.signs.length:Int)).map V.int).length=d.signs.length:=by unfold L3.upTo;rw[fF,fF,gp];omega
 refine⟨_,rfl,P,rfl,⟨_,oj eP⟩,fun D1 hD1=>?_⟩;refine comp_map  (K:=K) hD1 (oj eP) (by rw[lup,fJ];omega) (fun i v G=>∃(b:Addr) (ss:List Str),v=.ref b/\G b=some (.lst (ss.map V.str))/\ss.Sublist nn) (fun i v _ _ sm q=>(let ⟨b,ss,h1,h2,h3⟩:=q; ⟨b,ss,h1,sm _ _ h2,h3⟩)) ?_ ?_
 ·intro i x G N hx sG hN;obtain⟨rfl,hi⟩:=upTo_at hx;refine⟨_,rfl,nm,rfl,⟨_,oj ((s12.trans sG) _ _ hnm)⟩,fun D hD=>?_⟩;refine U0 (K:=K) nn V.str (fun z=>!decide (z∈d.signs[i])) V.str hD (oj ((s12.trans sG) _ _ hnm)) (by rw[lnn,fJ];decide) ?_ ?_
  ·intro z hz F N' N0 sF h1 h0;have wF:=hw0.mono (s12.trans (sG.trans sF));obtain⟨dx2,fs2,ho2,hk2⟩:=UK wF;refine⟨_,rfl,_,rfl,w,dx2,fs2,rfl,ho2,hk2,_,rfl,w,d,i,d.signs[i],rfl,wF,fG hi,fun q hq=>?_⟩;refine⟨q,_,rfl,.inl (oj Zd),rfl,zA _,_,rfl,?_⟩;have e:inV (.str z) ((X5 d.signs[i]).map V.str)=decide (z∈d.signs[i]):=xI;rw[e];refine XN (fun c=>⟨_,rfl,h1 _ (Zi hq) (by simpa using c)⟩) (fun c=>h0 _ (Zi hq) (by simpa using c))
  ·intro F hF sF;exact hN _ _ sF ⟨D,_,rfl,New.mk hD hF,List.filter_sublist⟩
 intro H3 ys1 hD13 s3 ly1 r1;rw[lup] at ly1;have eP3:=s3 _ _ eP;have s13:=s12.trans s3;refine⟨_,rfl,_,rfl,P,rfl,⟨_,oj eP3⟩,fun D2 hD2=>?_⟩;refine Wk (K:=K) hD2 (oj eP3) (by rw[lup,fJ];omega) (fun i v G=>∃b:Addr,v=.ref b/\∀ns,d.ways[i]?=some ns->G b=some (.lst ((Z7 ns).map V.int))) (fun i v _ _ sm q=>(let ⟨b,h1,h2⟩:=q; ⟨b,h1,fun ns e=>sm _ _ (h2 ns e)⟩)) ?_ ?_
 ·intro i x G N hx sG hN;obtain⟨rfl,hi⟩:=upTo_at hx;have wG:=hw0.mono (s13.trans sG);obtain⟨dx3,fs3,ho3,hk3⟩:=qy wG;have hi2:i<d.ways.length:=by rw[gd.wl];exact hi
  refine⟨_,rfl,w,dx3,fs3,rfl,ho3,hk3,_,rfl,w,d,i,d.ways[i],rfl,wG,fG hi2,fun q hq=>?_⟩;refine hN _ _ (Zi hq) ⟨q,rfl,fun ns e=>New.mk hq ?_⟩;rw[fG hi2] at e;cases e;exact Zd
 intro H4 ys2 hD24 s4 ly2 r2;rw[lup] at ly2;refine⟨sz1,fun LA hLA=>?_⟩;obtain⟨H5,qN,s5,e3⟩:=ZL (o:=.lst [.int 0]) hLA;rw[qN];clear qN;refine⟨by decide,fun LB hLB=>?_⟩;obtain⟨H6,qN,s6,e4⟩:=ZL (o:=.lst []) hLB;rw[qN];clear qN;intro o dw no ndw new;have sm:Ze H6 (upd (upd H6 dw (.own o)) o (.ins a.C_World dw [])):=(Zi ndw).trans (Zi (by rw[Zx (fT new)];exact no));have s36:=s4.trans (s5.trans s6);obtain⟨sg,lsg,hsg⟩:=pickL (ys:=ys1) (R:=fun(v:V) (ss:List Str)=>(∃b:Addr,v=.ref b/\H3 b=some (.lst (ss.map V.str)))/\ss.Sublist nn) (fun y hy=>by
  obtain⟨i,hi⟩:=yP hy;obtain⟨b,ss,h1,h2,h3⟩:=r1 i y hi;exact⟨ss,⟨b,h1,(New.of h2).2⟩,h3⟩)
 have ls:sg.length=d.signs.length:=by omega
 have pp:Wf H6 (.ref D1) (.ref D2) (.ref LA) (.ref LB) ⟨sg,d.ways.map Z7,[0],[]⟩:=by
  refine⟨⟨D1,_,rfl,s36 _ _ hD13,by show ys1.length=sg.length;omega,fun i v x h1 h2=>?_⟩,⟨D2,_,rfl,(s5.trans s6) _ _ hD24,by show ys2.length=(d.ways.map Z7).length;rw[fF,gd.wl];omega,fun i v x h1 h2=>?_⟩,⟨LA,rfl,s6 _ _ e3⟩,⟨LB,rfl,e4⟩⟩
  ·obtain⟨⟨b,q1,q2⟩,_⟩:=hsg i v x h1 h2;exact⟨b,q1,s36 _ _ q2⟩
  ·obtain⟨b,q1,q2⟩:=r2 i v h1;have h2':(d.ways.map Z7)[i]?=some x:=h2;rw[fL] at h2';obtain⟨ns,hn,rfl⟩:=iF.mp h2';exact⟨b,q1,(s5.trans s6) _ _ ((New.of (q2 ns hn)).2)⟩
 have n1:=gd.n1;have gd2:Good ⟨sg,d.ways.map Z7,[0],[]⟩:=by
  refine⟨by show 1<=sg.length;omega,by show sg.length<=20;omega,by show(d.ways.map Z7).length=sg.length;rw[fF,gd.wl];omega,fun ss hs=>?_,fun ns hs=>?_,⟨(by decide:[(0:Int)].Nodup),(by decide:[(0:Int)]≠[]),fun x hx=>?_,(by decide:[(0:Int)].length<=20)⟩,⟨iG,(fun x hx=>by cases hx),gB _⟩⟩
  ·obtain⟨i,hi⟩:=yP hs;have hi':i<sg.length:=(fO.mp hi).1;obtain⟨_,q⟩:=hsg i _ ss (fG (show i<ys1.length by omega)) hi;exact⟨q.nodup nnd,fun x hx=>nnm x (q.subset hx),fU q.length_le (by omega)⟩
  ·obtain⟨ms,hm,rfl⟩:=gn.mp hs;have pm:=XB ms;obtain⟨g1,g2,g3,g4⟩:=gd.wn ms hm;exact⟨pm.nodup_iff.mpr g1,fun z=>g2 (by rw[z] at pm;exact pm.nil_eq.symm),fun x hx=>by show 0<=x/\x<(sg.length:Int);rw[ls];exact g3 x (pm.mem_iff.mp hx),by rw[pm.length_eq];exact g4⟩
  ·rw[fW] at hx;subst hx;show(0:Int)<=0/\(0:Int)<(sg.length:Nat);omega
 refine⟨o,dw,_,_,_,_,_,rfl,Zd,pp.mono sm,gd2,fun H7 x7 wo=>⟨rfl,?_⟩⟩;have s67:Ze H6 H7:=fun b u e=>x7 b u (ZT e no) (sm b u e);have s37:=s36.trans s67;have s17:=s13.trans s37;have eP7:=s37 _ _ eP3;generalize hd2:(⟨sg,d.ways.map Z7,[0],[]⟩:WD)=d2 at wo gd2;have ld2:d2.signs.length=d.signs.length:=by rw[<- hd2];exact ls
 clear hd2 pp r1 r2 hsg;have sx7:=sx.mono s17;obtain⟨xs,hxs,lx,hats⟩:=sx7.at_;refine⟨_,rfl,_,rfl,_,rfl,sl,xs,rfl,rfl,oj hxs,fun B hB=>?_⟩;obtain⟨H8,qN,s8,eB⟩:=ZL (o:=.lst xs.reverse) hB;rw[qN];clear qN;have few:=sx.few hz;refine⟨B,rfl,⟨_,oj eB⟩,fun DR hDR=>?_⟩;have eP8:=s8 _ _ eP7;have lr:xs.reverse.length=ss.length:=by rw[iE,lx]
 refine JH  (J:=Itl K B) (n:=ss.length) (fun i U G=>∃(y1 y2:Option V) (ys:List V),U=[y1,y2,some (.ref P)]/\Ze H8 G/\G DR=some (.lst ys)/\ys.length=i/\∀(j:Nat) v t,ys[j]?=some v->ss.reverse[j]?=some t->∃(b l:Addr) (e:V) (n:Nat),v=.ref b/\SqT K G b [e,.ref l]/\At K n G e t/\G l=some (.lst (((L3.upTo (d.signs.length:Int)).filter fun x=>!decide (x∈st t)).map V.int))/\l≠DR) ?_ ?_ ?_ ?_ ?_
 ·exact⟨_,_,[],rfl,Zi hDR,Zd,rfl,fun j v t h=>by simp at h⟩
 ·rintro i U G hi ⟨y1,y2,ys,rfl,sG,_⟩;exact⟨_,_,oj (sG _ _ eB),fG (by omega)⟩
 ·rintro U G ⟨y1,y2,ys,rfl,sG,_⟩;exact⟨_,oj (sG _ _ eB),by omega⟩
 ·rintro i x U G0 G hi ⟨y1,y2,ys,rfl,sG,gD,ly,hys⟩ ⟨rfl,hx⟩ N N0 hN hN0;have ex:=hx _ (oj (sG _ _ eB));have hs:ss.reverse[i]?=some (ss.reverse[i]'(by rw[iE];exact hi)):=fG _;generalize (ss.reverse[i]'(by rw[iE];exact hi))=u at hs;have hs':=hs;rw[mS (by omega)] at ex hs';rw[lx] at ex;obtain⟨b,l,e,n,rfl,hb,he,hl⟩:=hats _ _ _ ex hs';have sG7:=s8.trans sG;refine⟨b,_,rfl,om sG7 _ _ _ hb,rfl,_,_,rfl,_,_,rfl,rfl,?_⟩;refine Yo (B:=True) (Yo ⟨_,rfl,_,rfl,P,rfl,⟨_,oj (sG _ _ eP8)⟩,fun D hD=>?_⟩);refine U0 (K:=K) (L3.upTo (d.signs.length:Int)) V.int (fun x=>!decide (x∈st u)) V.int hD (oj (sG _ _ eP8)) (by rw[fF] at lup;rw[lup,fJ];omega) ?_ ?_
  ·intro z hz F N' N0' sF h1 h0;refine⟨_,rfl,_,rfl,l,_,rfl,.inl (oj ((sG7.trans sF) _ _ hl)),rfl,VF _,_,rfl,?_⟩;rw[qR];exact XN (fun c=>⟨_,rfl,h1 _ (.refl _) (by simpa using c)⟩) (fun c=>h0 _ (.refl _) (by simpa using c))
  ·intro F hF sF;refine⟨sz2,fun q hq=>?_⟩;obtain⟨F2,qN,u2,eq⟩:=ZL (o:=.tup [e,.ref D]) hq;rw[qN];clear qN;have sF2:=sF.trans u2;have nD:D≠DR:=fun z=>by rw[z,gD] at hD;cases hD
   have gF:=sF2 _ _ gD;have tU:=Ww (o:=.lst (ys++[.ref q])) gF;refine hN _ _ F2 ys gF (by rw[ly,fJ];omega) ⟨_,_,ys++[.ref q],rfl,(Zs.upd (Ze.x (sG.trans sF2))).same hDR,Zd,by rw[fK,ly];rfl,fun j v' t' h1 h2=>?_⟩
   by_cases cj:j<ys.length
   ·rw[gm cj] at h1;obtain⟨b',l',e',n',q1,q2,q3,q4,q5⟩:=hys j v' t' h1 h2;exact⟨b',l',e',n',q1,tU _ _ _ (om sF2 _ _ _ q2),(q3.mono (om sF2)).mono tU,by rw[Zx q5];exact sF2 _ _ q4,q5⟩
   ·have lj:=(fO.mp h1).1;rw[fK,gG] at lj;obtain rfl:j=i:=by omega
    rw[gy (by omega),ly,g0] at h1;rw[hs] at h2;cases h1;cases h2;exact⟨q,D,e,n,rfl,tU _ _ _ (on eq),(he.mono (om (sG7.trans sF2))).mono tU,by rw[Zx nD];exact u2 _ _ hF,nD⟩
 rintro U H9 ⟨y1,y2,ys,rfl,s9,eDR,ly,hys⟩;have s79:=s8.trans s9;have sx9:Sx K H9 DR (fun u=>(L3.upTo (d.signs.length:Int)).filter fun x=>!decide (x∈st u)) t ss.reverse:=by
  refine⟨⟨ys,eDR,by rw[iE,ly],fun j v u h1 h2=>?_⟩,(List.reverse_perm ss).nodup_iff.mpr sx.nd,fun u hu=>⟨?_,(sx.short u (mN.mp hu)).2⟩,fun u hu=>sx.sub u (mN.mp hu),fun u hu hl=>mN.mpr (sx.all u hu hl)⟩
  ·obtain⟨b,l,e,n,q1,q2,q3,q4,_⟩:=hys j v u h1 h2;exact⟨b,l,e,n,q1,q2,q3,q4⟩
  ·rw[fF] at lup;exact fU (me _ _) (by omega)
 have tA:Two K a d.signs.length t H9 o sl:=⟨d2,st,ss,wo.mono s79,ld2,sx7.mono s79⟩;have tB:Two K a d.signs.length t H9 w DR:=⟨d,_,_,hw0.mono (s17.trans s79),rfl,sx9⟩;have tC:Two K a d.signs.length t H9 o DR:=⟨d2,_,_,wo.mono s79,ld2,sx9⟩;have tD:Two K a d.signs.length t H9 w sl:=⟨d,st,ss,hw0.mono (s17.trans s79),rfl,sx7.mono s79⟩;have s09:=s17.trans s79;have run9:=hrun.mono s09;have at9:=hat.mono (om s09);clear sx9 hys sx7 wo hats eDR hxs gd2 hD24 hD13 eP7 eP8 eB e3 e4;obtain⟨⟨W,GR,hrn,hW,hG⟩,hne,hb⟩:=run9;refine⟨_,rfl,rn,_,_,_,rfl,rfl,on hrn,Zj (j:=0) rfl,.inl ⟨W,_,rfl,.inl (oj hW),_,_,rfl,rfl,?_⟩⟩;refine⟨_,rfl,rn,_,_,_,rfl,rfl,on hrn,Zj (j:=1) rfl,.inl ⟨GR,_,rfl,.inl (oj hG),_,_,rfl,rfl,?_⟩⟩;rw[fF,fF];have em:(3:Int)+((way.length:Nat):Int)+((ring.length:Nat):Int)=((3+way.length+ring.length:Nat):Int):=by omega
 rw[em];have lm:3+way.length+ring.length<=50000:=by rw[fK] at l31;omega
 generalize 3+way.length+ring.length=many at lm;have run9:qg H9 rn d.signs.length way ring:=⟨⟨W,GR,hrn,hW,hG⟩,hne,hb⟩;have sz2:([V.ref o,.ref sl]:List V).length<=sizeLine:=sz2;refine⟨_,rfl,_,rfl,sz2,fun q1 h1=>?_⟩;obtain⟨F1,qN,f1,e1⟩:=ZL (o:=.tup [.ref o,.ref sl]) h1;rw[qN];clear qN;refine⟨_,rfl,_,rfl,sz2,fun q2 h2=>?_⟩;obtain⟨F2,qN,f2,e2⟩:=ZL (o:=.tup [.ref w,.ref DR]) h2;rw[qN];clear qN;refine⟨_,rfl,_,rfl,sz2,fun q3 h3=>?_⟩;obtain⟨F3,qN,f3,e3⟩:=ZL (o:=.tup [.ref o,.ref DR]) h3;rw[qN];clear qN;refine⟨_,rfl,_,rfl,sz2,fun q4 h4=>?_⟩;obtain⟨F4,qN,f4,e4⟩:=ZL (o:=.tup [.ref w,.ref sl]) h4;rw[qN];clear qN;refine⟨sz4,fun LL hLL=>?_⟩;obtain⟨F5,qN,f5,e5⟩:=ZL (o:=.lst [.ref q1,.ref q2,.ref q3,.ref q4]) hLL;rw[qN];clear qN;have f25:=f2.trans (f3.trans (f4.trans f5));have f95:=f1.trans f25;have all4:∀x∈[V.ref q1,.ref q2,.ref q3,.ref q4],∃b w' sl':Addr,x=.ref b/\F5 b=some (.tup [.ref w',.ref sl'])/\Two K a d.signs.length t F5 w' sl':=fun x hx=>by
  simp only[fQ,g6,g7] at hx;rcases hx with rfl|rfl|rfl|rfl
  ·exact⟨q1,o,sl,rfl,f25 _ _ e1,tA.mono f95⟩
  ·exact⟨q2,w,DR,rfl,(f3.trans (f4.trans f5)) _ _ e2,tB.mono f95⟩
  ·exact⟨q3,o,DR,rfl,(f4.trans f5) _ _ e3,tC.mono f95⟩
  ·exact⟨q4,w,sl,rfl,f5 _ _ e4,tD.mono f95⟩
 have run5:=run9.mono f95;have at5:=at9.mono (om f95);have s05:=s09.trans f95;generalize [V.ref q1,.ref q2,.ref q3,.ref q4]=qs at e5 all4;refine⟨LL,rfl,⟨_,oj e5⟩,?_⟩;refine YM (J:=Itl K LL) (n:=qs.length) (fun i U F=>∃z10 z11:Option V,U=[some (.ref w),some (.ref nm),some (.ref rn),some v,some (.ref sl),some (.ref P),some (.ref D1),some (.ref o),some (.ref DR),some (.int (many:Nat)),z10,z11]/\Ze F5 F) ?_ ?_ ?_ ?_ ?_
 ·exact⟨_,_,rfl,.refl _⟩
 ·rintro i U F hi ⟨z10,z11,rfl,sF⟩;exact⟨_,_,oj (sF _ _ e5),fG hi⟩
 ·rintro U F ⟨z10,z11,rfl,sF⟩;exact⟨_,oj (sF _ _ e5),fE _⟩
 ·rintro i x U F0 F hi ⟨z10,z11,rfl,sF⟩ ⟨rfl,hx⟩;have ex:=hx _ (oj (sF _ _ e5));obtain⟨b,w',sl',rfl,hb',d',st',ss',wd,ld,sd⟩:=all4 x (gj ex);refine⟨b,_,rfl,on (sF _ _ hb'),rfl,_,_,rfl,_,_,rfl,rfl,?_⟩;have rd:=rdOf (wd.mono sF) ld n20 (sd.mono sF) (at5.mono (om sF)) hc hz (run5.mono sF) l31;refine⟨_,rfl,_,rfl,_,rfl,_,rfl,_,rfl,w',rn,sl',v,many,t,d',st',way,ring,rfl,rd,lm,fun G1 p1 g1 p10 hp1=>?_⟩;have sG1:=sF.trans g1;refine⟨_,rfl,_,rfl,_,rfl,_,rfl,_,rfl,w',rn,sl',v,m,many,t,d',st',way,ring,rfl,wd.mono sG1,by rw[ld];exact run5.mono sG1,at5.mono (om sG1),m8,hc,by omega,hdp,l31,lm,(sd.mono sG1).pairs,fun G2 p2 g2 p20 hp2=>?_⟩;exact yM (fineB _) (by decide) (dpB (g2 _ _ hp1)) (dpB hp2) ⟨_,rfl,Z3 ⟨_,_,rfl,sG1.trans g2⟩⟩
 rintro U F ⟨z10,z11,rfl,sF⟩;exact k _ (s05.trans sF)
def U1{s:Addr}(u:Ze H H1)(h:H s=none)(x:Zs s H1 H2):Ze H H2:=fun b o e=>x _ _ (fun z=>by rw[z,h] at e;cases e) (u _ _ e)
def Z1{x:V}[Decidable (x=y)]{A:Prop}(e:x=y)(h:B):if(!decide (x=y))=true then A else B:=by rw[gO e];exact Z3 h
def dSe(st:Tr->List Int)(t:Tr):PyData:=.tuple [dTr t,dI (st t)]
def dpSe(h:VZ K H sl st ss):Dp K H (.ref sl) (.list (ss.map (dSe st))):=by
 obtain⟨xs,hx,lx,hi⟩:=h;refine .lst (oj hx) (JF (r:=fun H v t=>Dp K H v (dSe st t)) (fun v t h=>h) xs ss lx fun i v t h1 h2=>?_);obtain⟨b,l,e,n,rfl,q2,q3,q4⟩:=hi i v t h1 h2;exact .tup q2 (.cons q3.dp (.cons (LI.dp ⟨l,rfl,q4⟩) .nil))
def fineSe(h:VZ K H sl st ss)(hd:∀t∈ss,dpt t<=40):V7 42 (.list (ss.map (dSe st))):=fineL fun t ht=>by
 obtain⟨xs,hx,lx,hi⟩:=h;obtain⟨i,hi2⟩:=yP ht;have hl:=(fO.mp hi2).1;obtain⟨b,l,e,n,_,_,q3,_⟩:=hi i _ t (fG (show i<xs.length by omega)) hi2;have f1:=OkN.fine q3.ok;have f2:=fineI (st t);have:=f1.2;have:=f2.2;have:=hd t ht;refine⟨by simp[dSe,PyData.canLay0,PyData.canLayAll0,f1.1,f2.1],?_⟩;simp only[dSe,PyData.depth,PyData.depthAll];omega
def fine2{a b:PyData}(ha:V7 n a)(hb:V7 n b):V7 (n+1) (.list [a,b]):=fineL (f:=id) (xs:=[a,b]) (n:=n) (fun x hx=>by
 simp only[fQ,g6,g7] at hx;rcases hx with rfl|rfl
 ·exact ha
 ·exact hb)
def NoS(t:Tr):Prop:=∀s∈Zp t,s.lb≠.op "some"
def noS_of{ks:List Tr}(h:c≠.op "some")(hk:∀k∈ks,NoS k):NoS (.node c ks):=fun s hs=>by
 rcases WA hs with rfl|⟨k,hk',hx⟩
 ·exact h
 ·exact hk k (Yl hk') s hx
def Sm(K:W.Frag)(n:Nat)(G:Hp)(x:V):Prop:=∃t,At K n G x t/\isC t=true/\psz t<=3 ^ n/\NoS t
def Sm.mono{K:W.Frag}{n:Nat}{G G':Hp}{x:V}(s:Ze G G')(h:Sm K n G x):Sm K n G' x:=let ⟨t,h1,h2⟩:=h; ⟨t,h1.mono (om s),h2⟩
def Sm.sign{b:Addr}(e:G b=some (.tup [.str "sign",.str z]))(hz:Yf z=true):Sm K (n+1) G (.ref b):=⟨_,at_sign (on e) hz,by rw[YG];simp[Us],by rw[Wx];exact mj _ _ (by decide),noS_of nofun nofun⟩
def opw_ne{w:Str}(h:w∈(["not","next","before","until","since"]:List Str)):Lb.op w≠.op "some" := fun z=>by
 have:=Lb.op.inj z;subst this;exact absurd h (by decide +kernel)
def Sm.op1{b:Addr}{w:Str}{u:V}(e:G b=some (.tup [.str w,u]))(h:Sm K n G u)(h1:w∈W1)(h6:w∈W6)(hn:w∈(["not","next","before","until","since"]:List Str)):Sm K (n+1) G (.ref b):=by
 obtain⟨t,a1,a2,a3,a4⟩:=h;refine⟨_,at_op1 (on e) h1 a1,cc_op1 h6 a2,?_,noS_of (opw_ne hn) (fun k hk=>by rw[fW] at hk;rw[hk];exact a4)⟩;rw[Wx,mL];have:=mj n 3 (by decide);simp;omega
def Sm.op2{b:Addr}{w:Str}{u:V}(e:G b=some (.tup [.str w,u,v]))(h:Sm K n G u)(g:Sm K n G v)(h1:w∈W2)(h6:w∈W6)(hn:w∈(["not","next","before","until","since"]:List Str)):Sm K (n+1) G (.ref b):=by
 obtain⟨t,a1,a2,a3,a4⟩:=h;obtain⟨r,b1,b2,b3,b4⟩:=g;refine⟨_,at_op2 (on e) h1 a1 b1,cc_op2 h6 a2 b2,?_,noS_of (opw_ne hn) (fun k hk=>by
  simp only[fQ,g6,g7] at hk;rcases hk with rfl|rfl
  ·exact a4
  ·exact b4)⟩
 rw[Wx,mL];have:=mj n 3 (by decide);simp;omega
def Sm.up{m:Nat}{x:V}(h:Sm K n G x)(hm:n<=m):Sm K m G x:=let ⟨t,h1,h2,h3,h4⟩:=h; ⟨t,h1.le hm,h2,fU h3 (nO (by decide) hm),h4⟩
def cY(K:W.Frag)(a:Adr):Sp:=fun vs H Q _=>∃(p:Addr) (ns:List Int),vs=[.ref p]/\SqL K H p (ns.map V.int)/\ns.length<=63/\∀H',Q (.bl true) H'
def cZ:Okd P w K mg base a 13 a.y55 a.z55 fg cY:=fun T hw=>by
 have bt:=jZ (P:=P) (w:=w) (base:=base) T hw 8;refine okF T.cU.f Xi fun de A outer s H vs Q E hr h=>?_;obtain⟨p,ns,rfl,hq,hz,k⟩:=h;refine⟨_,(@Zc _ _ _ _ _ (@Zn _ _ (1) _ _ _ _ Xi.nd rfl (.inl rfl) (ZA T.aQ (VA T hw) hr rfl rfl (@Za _ _ _ _ _ (ZA T.ak (YD T hw) hr rfl rfl (@Za _ _ _ _ _ (pv 0) (@Za _ _ _ _ _ Zf Zb rfl) rfl)) Zb rfl)) rfl (.inl rfl)) (@Zc _ _ _ _ _ (@Zn _ _ (2) _ _ _ _ Xi.nd rfl (.inl rfl) (ZA T.bv (vh T hw) hr rfl rfl (@Za _ _ _ _ _ (pv 1) Zb rfl)) rfl (.inl rfl)) (@Zc _ _ _ _ _ (@Zn _ _ (3) _ _ _ _ Xi.nd rfl (.inl rfl) (ZA T.bw (vD T hw) hr rfl rfl (@Za _ _ _ _ _ (pv 1) (@Za _ _ _ _ _ (pv 2) Zb rfl) rfl)) rfl (.inl rfl)) (@Zc _ _ _ _ _ (@Zn _ _ (4) _ _ _ _ Xi.nd rfl (.inl rfl) (ZA T.bR (Jp T hw) hr rfl rfl (@Za _ _ _ _ _ (ZA T.aQ (VA T hw) hr rfl rfl (@Za _ _ _ _ _ (ZA T.ak (YD T hw) hr rfl rfl (@Za _ _ _ _ _ (pv 0) (@Za _ _ _ _ _ Zf Zb rfl) rfl)) Zb rfl)) (@Za _ _ _ _ _ (pv 3) Zb rfl) rfl)) rfl (.inl rfl)) (@Zc _ _ _ _ _ (Xk gJ rfl (ZC (K:=K) rfl (@ZW _ _ _ _ (@Za _ _ _ _ _ (ZA T.ak (YD T hw) hr rfl rfl (@Za _ _ _ _ _ (pv 0) (@Za _ _ _ _ _ Zf Zb rfl) rfl)) (@Za _ _ _ _ _ (ZA T.ak (YD T hw) hr rfl rfl (@Za _ _ _ _ _ (pv 0) (@Za _ _ _ _ _ Zf Zb rfl) rfl)) Zb rfl) rfl))) (Zo (i:=5) Xi.nd rfl (.inl rfl)) (@Zc _ _ _ _ _ (@Zn _ _ (1) _ _ _ _ Xi.nd rfl (.inl rfl) (ZA T.aQ (VA T hw) hr rfl rfl (@Za _ _ _ _ _ (pv 5) Zb rfl)) rfl (.inl rfl)) (@Zc _ _ _ _ _ (@Zn _ _ (6) _ _ _ _ Xi.nd rfl (.inl rfl) (XQ bt (rmL hr rfl) rfl T.am.g T.am.f.kp T.am.n .nil Yy (@Zq _ _ _ _ _ (pv 1) (@Zq _ _ _ _ _ (pv 2) (@Zq _ _ _ _ _ (@ZP _ _ _ _ _ _ _ _ Xl Zf (ZA T.aa (ZE T hw) hr rfl rfl (@Za _ _ _ _ _ (pv 1) (@Za _ _ _ _ _ Zf Zb rfl) rfl))) Zb rfl) rfl) rfl)) rfl (.inl rfl)) (@Zc _ _ _ _ _ (@Zn _ _ (7) _ _ _ _ Xi.nd rfl (.inl rfl) (ZA T.bL (jC T hw) hr rfl rfl (@Zq _ _ _ _ _ (pv 1) (@Zq _ _ _ _ _ (pv 6) (@Zq _ _ _ _ _ (VE (pv 3) T.aj T.ab.m (Y6 T hw) (rmL hr rfl) T.ab.n .nil Yy) Zb rfl) rfl) rfl)) rfl (.inl rfl)) (@Zc _ _ _ _ _ (@Zn _ _ (8) _ _ _ _ Xi.nd rfl (.inl rfl) (@ZP _ _ _ _ _ _ _ _ Xl (Zl (Zu (K:=K) rfl) rfl T.ay ox (@Za _ _ _ _ _ (@Zv _ _ _ _ _ _ _ (ZN (K:=K) rfl) (pv 4) Zf (fun _ _=>rfl)) Zb rfl)) (@ZP _ _ _ _ _ _ _ _ xo Zf (Zl (Zu (K:=K) rfl) rfl T.ay ox (@Za _ _ _ _ _ (@Zv _ _ _ _ _ _ _ (ZN (K:=K) rfl) (pv 4) Zf (fun _ _=>rfl)) Zb rfl)))) rfl (.inl rfl)) (@Zc _ _ _ _ _ (@Zn _ _ (9) _ _ _ _ Xi.nd rfl (.inl rfl) (ZA T.aS (Vw T hw) hr rfl rfl (@Zq _ _ _ _ _ (pv 3) (@Zq _ _ _ _ _ (pv 4) (@Zq _ _ _ _ _ (pv 6) (@Zq _ _ _ _ _ (pv 7) (@Zq _ _ _ _ _ (pv 8) Zb rfl) rfl) rfl) rfl) rfl)) rfl (.inl rfl)) (@Zc _ _ _ _ _ (@Zn _ _ (10) _ _ _ _ Xi.nd rfl (.inl rfl) (@ZW _ _ _ _ (@Za _ _ _ _ _ (@ZV _ _ _ _ _ (@Za _ _ _ _ _ (ZM (Yz (K:=K) rfl rfl) rfl T.aN oq (@Za _ _ _ _ _ (@Zv _ _ _ _ _ _ _ (ZN (K:=K) rfl) (pv 4) Zf (fun _ _=>rfl)) Zb rfl)) (@Za _ _ _ _ _ (ZM (Yz (K:=K) rfl rfl) rfl T.aN oq (@Za _ _ _ _ _ (@Zv _ _ _ _ _ _ _ (ZN (K:=K) rfl) (pv 4) Zf (fun _ _=>rfl)) Zb rfl)) Zb rfl) rfl)) (@Za _ _ _ _ _ (ZR (Nc:=dB) (ix:=[none,none]) (ZJ.of (by decide +kernel:ZO (Zg cE) cP _ _ _=true)) rfl (ZC (K:=K) rfl (pv 7)) (fun _ _ _ _ _=>(Wm (K:=K) (n:=2) rfl rfl (Yb (Zo (i:=0) (show List.Nodup dB by decide +kernel) rfl (.inl rfl)) (Yb (Zo (i:=1) (show List.Nodup dB by decide +kernel) rfl (.inl rfl)) Ws)))) (fun _ _ _ _ _=>Z0) (fun _ _ _ _ _=>(@ZV _ _ _ _ _ (@Za _ _ _ _ _ (pv 0) (@Za _ _ _ _ _ (ZM (Yz (K:=K) rfl rfl) rfl T.aN oq (@Za _ _ _ _ _ (pv 1) Zb rfl)) Zb rfl) rfl)))) Zb rfl) rfl)) rfl (.inl rfl)) (@Zc _ _ _ _ _ (@Zn _ _ (11) _ _ _ _ Xi.nd rfl (.inl rfl) (ZA T.az (Y4 T hw) hr rfl rfl (@Zq _ _ _ _ _ (pv 3) (@Zq _ _ _ _ _ (pv 4) (@Zq _ _ _ _ _ (pv 6) (@Zq _ _ _ _ _ (pv 7) (@Zq _ _ _ _ _ (pv 8) Zb rfl) rfl) rfl) rfl) rfl)) rfl (.inl rfl)) (@Zc _ _ _ _ _ (@ZZ _ _ _ _ _ _ _ _ (PW.pt (Ut (@YY _ _ _ _ (Xf (Zl (Xb (K:=K) rfl "list") rfl T.ae ou (@Za _ _ _ _ _ (pv 11) (@Za _ _ _ _ _ (Xz (v:=.ty "list") rfl T.aN oq rfl) Zb rfl) rfl)))) (Ut (@Zw _ _ _ _ _ _ _ _ (UW (K:=K) rfl (Yq.units hr)) (pv 11) (pv 9) (ZI _)) (Vt (@YY _ _ _ _ (Xf (Zl (WX (K:=K) rfl rfl) rfl T.cr oy (@Za _ _ _ _ _ (ZR (Nc:=dj) (ix:=[none]) (ZJ.of (by decide +kernel:ZO (Zg cE) cP _ _ _=true)) rfl (ZC (K:=K) rfl (pv 11)) (fun _ _ _ _ _=>(Zo (i:=0) (show List.Nodup dj by decide +kernel) rfl (.inl rfl))) (fun _ _ _ _ _=>Z0) (fun _ _ _ _ _=>(Zl (Xb (K:=K) rfl "bool") rfl T.ae ou (@Za _ _ _ _ _ (pv 0) (@Za _ _ _ _ _ (Xz (v:=.ty "bool") rfl T.cH PyProof.Rows.Boot.«bool» rfl) Zb rfl) rfl)))) Zb rfl)))))))) (@Zh _ _ _ (@Zm _ _ _ _ YR)) ZD) (@Zc _ _ _ _ _ (@Yh _ _ _ _ (pe_bm0 gK PySem.F.slot_list_clear PySem.F.type_list_clear mt_clear (pv 11)) rfl) (@Zc _ _ _ _ _ (@ZZ _ _ _ _ _ _ _ _ (PW.pt (Ut (@Zw _ _ _ _ _ _ _ _ (UW (K:=K) rfl (Yq.units hr)) (ZA T.az (Y4 T hw) hr rfl rfl (@Zq _ _ _ _ _ (pv 3) (@Zq _ _ _ _ _ (pv 4) (@Zq _ _ _ _ _ (pv 6) (@Zq _ _ _ _ _ (pv 7) (@Zq _ _ _ _ _ (pv 8) Zb rfl) rfl) rfl) rfl) rfl)) (pv 9) (ZI _)) (Vt (@Zw _ _ _ _ _ _ _ _ op_ne (ZA T.cF (cT T hw) hr rfl rfl (@Zq _ _ _ _ _ (pv 3) (@Zq _ _ _ _ _ (pv 4) (@Zq _ _ _ _ _ (pv 6) (@Zq _ _ _ _ _ (pv 7) Zb rfl) rfl) rfl) rfl)) (@Zv _ _ _ _ _ _ _ (Zr (K:=K) rfl) (pv 9) Zf (fun _ _=>rfl)) (ZI _))))) (@Zh _ _ _ (@Zm _ _ _ _ YR)) ZD) (@Zc _ _ _ _ _ (@ZZ _ _ _ _ _ _ _ _ (PW.pt (Ut (@Zw _ _ _ _ _ _ _ _ (UW (K:=K) rfl (Yq.units hr)) (pv 10) (@ZW _ _ _ _ (@Za _ _ _ _ _ (pv 4) (@Za _ _ _ _ _ (pv 7) Zb rfl) rfl)) (ZI _)) (Vt (@Zw _ _ _ _ _ _ _ _ (UW (K:=K) rfl (Yq.units hr)) (ZA T.az (Y4 T hw) hr rfl rfl (@Zq _ _ _ _ _ (pv 3) (@Zq _ _ _ _ _ (pv 4) (@Zq _ _ _ _ _ (pv 6) (@Zq _ _ _ _ _ (pv 7) (@Zq _ _ _ _ _ Zf Zb rfl) rfl) rfl) rfl) rfl)) (@ZW _ _ _ _ Zb) (ZI _))))) (@Zh _ _ _ (@Zm _ _ _ _ YR)) ZD) (@Zh _ _ _ (@ZZ _ _ _ _ _ _ _ _ (@YY _ _ _ _ (Xf (ZA T.aW (zC T hw) hr rfl rfl (@Zq _ _ _ _ _ (pv 3) (@Zq _ _ _ _ _ (pv 2) (@Zq _ _ _ _ _ (pv 4) (@Zq _ _ _ _ _ (pv 6) (@Zq _ _ _ _ _ (pv 7) Zb rfl) rfl) rfl) rfl) rfl)))) (@Zh _ _ _ (@Zm _ _ _ _ YR)) ZD)))))))))))))) (@Zc _ _ _ _ _ (@ZZ _ _ _ _ _ _ _ _ (@Zw _ _ _ _ _ _ _ _ op_ne (@ZP _ _ _ _ _ _ _ _ Um (ZA T.ak (YD T hw) hr rfl rfl (@Za _ _ _ _ _ (pv 0) (@Za _ _ _ _ _ Zf Zb rfl) rfl)) Zf) Zf (ZI _)) (@Zh _ _ _ (@Zm _ _ _ _ YR)) ZD) (@Zc _ _ _ _ _ (@Zn _ _ (12) _ _ _ _ Xi.nd rfl (.inl rfl) (@ZV _ _ _ _ _ (@Za _ _ _ _ _ Zz (@Za _ _ _ _ _ (@Zv _ _ _ _ _ _ _ (Zr (K:=K) rfl) (pv 2) Zf (fun _ _=>rfl)) Zb rfl) rfl)) rfl (.inl rfl)) (@Zc _ _ _ _ _ (@Zn _ _ (13) _ _ _ _ Xi.nd rfl (.inl rfl) (@ZV _ _ _ _ _ (@Za _ _ _ _ _ Zz (@Za _ _ _ _ _ (@ZV _ _ _ _ _ (@Za _ _ _ _ _ Zz (@Za _ _ _ _ _ (@Zv _ _ _ _ _ _ _ (Zr (K:=K) rfl) (pv 2) Zf (fun _ _=>rfl)) Zb rfl) rfl)) Zb rfl) rfl)) rfl (.inl rfl)) (@Zc _ _ _ _ _ (@Zn _ _ (14) _ _ _ _ Xi.nd rfl (.inl rfl) (@ZW _ _ _ _ (@Zq _ _ _ _ _ (@ZV _ _ _ _ _ (@Za _ _ _ _ _ Zz (@Za _ _ _ _ _ (pv 12) Zb rfl) rfl)) (@Zq _ _ _ _ _ (@ZV _ _ _ _ _ (@Za _ _ _ _ _ Zz (@Za _ _ _ _ _ (pv 13) Zb rfl) rfl)) (@Zq _ _ _ _ _ (@ZV _ _ _ _ _ (@Zq _ _ _ _ _ Zz (@Zq _ _ _ _ _ (pv 13) (@Zq _ _ _ _ _ (pv 12) Zb rfl) rfl) rfl)) (@Zq _ _ _ _ _ (@ZV _ _ _ _ _ (@Zq _ _ _ _ _ Zz (@Zq _ _ _ _ _ (pv 12) (@Zq _ _ _ _ _ (pv 13) Zb rfl) rfl) rfl)) Zb rfl) rfl) rfl) rfl)) rfl (.inl rfl)) (@Zc _ _ _ _ _ (@Yh _ _ _ _ (Xv gK gW gX ZY (pv 14) (@Za _ _ _ _ _ (@ZV _ _ _ _ _ (@Za _ _ _ _ _ Zz (@Za _ _ _ _ _ (@ZV _ _ _ _ _ (@Zq _ _ _ _ _ Zz (@Zq _ _ _ _ _ (pv 13) (@Zq _ _ _ _ _ (pv 12) Zb rfl) rfl) rfl)) Zb rfl) rfl)) Zb rfl)) rfl) (@Zc _ _ _ _ _ (@Zn _ _ (6) _ _ _ _ Xi.nd rfl (.inl rfl) (@Zv _ _ _ _ _ _ _ (Zr (K:=K) rfl) (pv 14) (@ZP _ _ _ _ _ _ _ _ Um (@ZP _ _ _ _ _ _ _ _ US (ZA T.ak (YD T hw) hr rfl rfl (@Za _ _ _ _ _ (pv 0) (@Za _ _ _ _ _ Zf Zb rfl) rfl)) Zf) Zf) (fun _ _=>rfl)) rfl (.inl rfl)) (@Zh _ _ _ (@Zm _ _ _ _ (@YZ _ _ _ _ _ _ _ _ (op_eqDK (K:=K) rfl (Yq.units hr)) (ZA T.az (Y4 T hw) hr rfl rfl (@Zq _ _ _ _ _ (pv 3) (@Zq _ _ _ _ _ (pv 4) (@Zq _ _ _ _ _ (pv 6) (@Zq _ _ _ _ _ (@ZW _ _ _ _ Zb) (@Zq _ _ _ _ _ Zf Zb rfl) rfl) rfl) rfl) rfl)) (ZA T.aS (Vw T hw) hr rfl rfl (@Zq _ _ _ _ _ (pv 3) (@Zq _ _ _ _ _ (pv 4) (@Zq _ _ _ _ _ (pv 6) (@Zq _ _ _ _ _ (@ZW _ _ _ _ Zb) (@Zq _ _ _ _ _ Zf Zb rfl) rfl) rfl) rfl) rfl)) (ZI _))))))))))))))),?_⟩;refine⟨_,rfl,p,ns,0,rfl,hq,fun n0=>⟨n0,rfl,fun H1 s s1 s0 st1=>?_⟩⟩;obtain⟨o1,ho1⟩:=st1.lst;refine⟨_,rfl,s,0,rfl,st1,by decide,fun H2 nm nn x2 st2 nm0 hnm ln nnd nnm=>?_⟩;have nns:nm≠s:=fun z=>by rw[z,ho1] at nm0;cases nm0
 refine⟨_,rfl,_,rfl,s,nm,10,nn,rfl,st2,by decide,hnm,ln,nnd,nnm,nns,fun H3 w d x3 w3 gd n20=>?_⟩;have u3:Ze H H3:=U1 s1 s0 (x2.trans x3);refine⟨_,rfl,p,ns,1,rfl,u3.seq hq,fun n1=>⟨n1,rfl,fun H4 s' s4 s40 st4=>⟨_,rfl,s',w,0,d,rfl,st4,by decide,w3.mono s4,gd,n20,fun H5 rn way ring x5 r5 l31=>?_⟩⟩⟩;have u35:Ze H3 H5:=U1 s4 s40 x5;have hq5:=(u3.trans u35).seq hq;have w5:=w3.mono u35;have hnm5:=u35 _ _ (x3 _ _ nns hnm);clear x2 x3 x5 s1 s0 st1 st2 s4 s40 st4 u3 u35 hnm nm0 w3 hq ho1;refine⟨_,rfl,p,ns,2,rfl,hq5,fun n2=>⟨_,rfl,p,ns,3,rfl,hq5,fun n3=>⟨sz2,fun LL hLL=>?_⟩⟩⟩;obtain⟨H6,qN,u6,eLL⟩:=ZL (o:=.lst [.int n2,.int n3]) hLL;rw[qN];clear qN;have hq6:=u6.seq hq5;have w6:=w5.mono u6;have hnm6:=u6 _ _ hnm5;have r6:=r5.mono u6;clear hq5 w5 hnm5 r5;have all2:∀x∈[V.int n2,.int n3],∃c:Int,x=.int c:=fun x hx=>by
  simp only[fQ,g6,g7] at hx;rcases hx with rfl|rfl
  ·exact⟨_,rfl⟩
  ·exact⟨_,rfl⟩
 generalize [V.int n2,.int n3]=cs at eLL all2;refine⟨LL,rfl,⟨_,oj eLL⟩,?_⟩;refine YM (J:=Itl K LL) (n:=cs.length) (fun i U G=>∃z1 z5 z6 z7 z8 z9 z10 z11 z12 z13 z14:Option V,U=[some (.ref p),z1,some (.ref nm),some (.ref w),some (.ref rn),z5,z6,z7,z8,z9,z10,z11,z12,z13,z14]/\Ze H6 G) ?_ ?_ ?_ ?_ ?_
 ·exact⟨_,_,_,_,_,_,_,_,_,_,_,rfl,.refl _⟩
 ·rintro i U F hi ⟨z1,z5,z6,z7,z8,z9,z10,z11,z12,z13,z14,rfl,sF⟩;exact⟨_,_,oj (sF _ _ eLL),fG hi⟩
 ·rintro U F ⟨z1,z5,z6,z7,z8,z9,z10,z11,z12,z13,z14,rfl,sF⟩;exact⟨_,oj (sF _ _ eLL),fE _⟩
 ·rintro i x U F0 F hi ⟨z1,z5,z6,z7,z8,z9,z10,z11,z12,z13,z14,rfl,sF⟩ ⟨rfl,hx⟩;have ex:=hx _ (oj (sF _ _ eLL));obtain⟨c,rfl⟩:=all2 x (gj ex);refine⟨_,rfl,c,rfl,fun F1 t s1 t0 st1=>?_⟩;have er:∀r:Nat,(1:Int)+(r:Nat)=((1+r:Nat):Int):=fun r=>by omega
  have sF1:=sF.trans s1;have nmt:nm≠t:=fun z=>by rw[<- z,sF _ _ hnm6] at t0;cases t0
  refine⟨_,rfl,_,rfl,_,rfl,t,3,0,rfl,st1,by decide,by decide,by decide,fun F2 r x2 st2 hr=>⟨_,_,rfl,rfl,t,nm,nn,1,1+r,by rw[er];rfl,by omega,by omega,st2,?_,x2 _ _ nmt (sF1 _ _ hnm6),ln,nnm,nmt,fun F3 v tr x3 st3 at3 ic3 sz3=>?_⟩⟩
  ·have:=nO (show 0<5 by decide) (show 1+r+1<=4 by omega);omega
  have q5:=nO (show 0<5 by decide) (show 1+r+1<=4 by omega);have q3:=nO (show 0<3 by decide) (show 1+r+1<=4 by omega);have dp3:dpt tr<=10:=fU (kD at3.ok) (by omega);have z3:psz tr<=200:=by omega
  have st3':=st3.le (show 1+5 ^ (1+r+1)<=626 by omega);have m8:1+r+1<8:=by omega
  generalize 1+r+1=m at at3 m8;obtain⟨o3,ho3⟩:=st3'.lst;have u3:Ze F F3:=U1 s1 t0 (x2.trans x3);have w3:=w6.mono (sF.trans u3);obtain⟨dx,fs,ho,hk0⟩:=yz w3;refine⟨_,rfl,_,rfl,_,rfl,w,dx,fs,rfl,ho,hk0,w,d,rfl,w3,t,v,626,m,d.signs.length,tr,rfl,st3',by decide,n20,at3,m8,ic3,z3,by omega,fun F4 sl st ss xs x4 sl0 sT hsub hall hb=>?_⟩;have u4:Ze F F4:=U1 u3 t0 x4;have at4:=at3.mono (Zs.tup x4 ho3);have dps:∀s∈ss,dpt s<=40:=fun s hs=>by
   rcases hsub s hs with e|e
   ·rw[e];decide +kernel
   ·exact fU (UE _ (fE _) (YE _ (fE _) e)) (by omega)
  have sx:Sx K F4 sl st tr ss:=⟨⟨xs,sT.hs,sT.len,fun i v t h1 h2=>(let ⟨b,l,e,n,q1,q2,q3,q4,_⟩:=sT.it i v t h1 h2; ⟨b,l,e,n,q1,q2,q3,q4⟩)⟩,sT.nd,sT.short,hsub,hall⟩;have s4:=sF.trans u4;clear sT x4 x3 x2 st3 st3' st2 st1 ho3 ho at3 w3 u3 q5 q3 hsub hall hb sl0 s1 sF1;have r6':=r6;obtain⟨⟨W,GR,hrn,hW,hG⟩,hne,hbd⟩:=r6';refine⟨_,rfl,rn,_,_,_,rfl,rfl,on (s4 _ _ hrn),Zj (j:=0) rfl,.inl ⟨W,_,rfl,.inl (oj (s4 _ _ hW)),?_⟩⟩;refine⟨_,rfl,rn,_,_,_,rfl,rfl,on (s4 _ _ hrn),Zj (j:=1) rfl,.inl ⟨GR,_,rfl,.inl (oj (s4 _ _ hG)),?_⟩⟩;rw[fF,fF];refine⟨_,_,rfl,rfl,.inl ⟨by decide,by decide⟩,_,_,rfl,rfl,?_⟩;have em:((way.length:Nat):Int)+3*((ring.length:Nat):Int)=((way.length+3*ring.length:Nat):Int):=by omega
  rw[em];have lap:=l31;rw[fK] at lap;have lm:way.length+3*ring.length<=50000:=by omega
  have lm1:0<way.length+3*ring.length:=by have:=iR.mpr hne;omega
  generalize way.length+3*ring.length=many at lm lm1;have w4:=w6.mono s4;refine⟨_,rfl,_,rfl,_,rfl,_,rfl,_,rfl,w,rn,sl,v,m,many,tr,d,st,way,ring,rfl,w4,r6.mono s4,at4,m8,ic3,by omega,by omega,l31,lm,sx.pairs,fun F5 du s5 du0 hdu=>?_⟩;have s45:=s4.trans s5;refine⟨_,rfl,rn,_,_,_,rfl,rfl,on (s45 _ _ hrn),Zj (j:=0) rfl,.inl ⟨W,_,rfl,.inl (oj (s45 _ _ hW)),fun A1 hA1=>?_⟩⟩;obtain⟨G1,qN,g1,eA1⟩:=ZL (o:=.lst (way.map V.int)) hA1;rw[qN];clear qN;refine⟨_,rfl,rn,_,_,_,rfl,rfl,on (g1 _ _ (s45 _ _ hrn)),Zj (j:=1) rfl,.inl ⟨GR,_,rfl,.inl (oj (g1 _ _ (s45 _ _ hG))),fun A2 hA2=>?_⟩⟩;obtain⟨G2,qN,g2,eA2⟩:=ZL (o:=.lst (ring.map V.int)) hA2;rw[qN];clear qN;refine⟨sz2,fun TT hTT=>?_⟩;obtain⟨G3,qN,g3,eTT⟩:=ZL (o:=.tup [.ref A1,.ref A2]) hTT;rw[qN];clear qN;have g13:=g1.trans (g2.trans g3);have sx3:=sx.mono (s5.trans g13);obtain⟨xs',hxs',lx',hats⟩:=sx3.at_;have few:=sx.few z3;refine⟨_,rfl,sl,rfl,⟨_,oj hxs'⟩,fun D hD=>?_⟩;refine Yx (J:=Itl K sl) (n:=ss.length) (fun i U G=>∃(y1 y2:Option V) (ys:List V),U=[y1,y2]/\Ze G3 G/\G D=some (.lst ys)/\ys.length=i/\∀(j:Nat) v t,ys[j]?=some v->ss[j]?=some t->∃(b l:Addr) (e:V) (n:Nat),v=.ref b/\SqT K G b [e,.ref l]/\At K n G e t/\G l=some (.lst ((st t).map V.int))/\l≠D) ?_ ?_ ?_ ?_ ?_
  ·exact⟨_,_,[],rfl,Zi hD,Zd,rfl,fun j v t h=>by simp at h⟩
  ·rintro i U G hi ⟨y1,y2,ys,rfl,sG,_⟩;exact⟨_,_,oj (sG _ _ hxs'),fG (by omega)⟩
  ·rintro U G ⟨y1,y2,ys,rfl,sG,_⟩;exact⟨_,oj (sG _ _ hxs'),by omega⟩
  ·rintro i x U G0 G hi ⟨y1,y2,ys,rfl,sG,gD,ly,hys⟩ ⟨rfl,hx⟩ N N0 hN hN0;have ex:=hx _ (oj (sG _ _ hxs'));have hs:ss[i]?=some ss[i]:=fG hi;generalize ss[i]=u at hs;obtain⟨b,l,e,n,rfl,hb,he,hl⟩:=hats _ _ _ ex hs;refine⟨b,_,rfl,om sG _ _ _ hb,rfl,_,_,rfl,_,_,rfl,rfl,?_⟩;refine Yo (B:=True) (Yo ⟨_,rfl,_,rfl,.inl ⟨l,_,rfl,.inl (oj (sG _ _ hl)),fun l2 hl2=>?_⟩⟩);obtain⟨E1,qN,f1,e1⟩:=ZL (o:=.lst ((st u).map V.int)) hl2;rw[qN];clear qN;refine⟨sz2,fun q hq=>?_⟩;obtain⟨E2,qN,f2,eq⟩:=ZL (o:=.tup [e,.ref l2]) hq;rw[qN];clear qN;have f12:=f1.trans f2;have nD:l2≠D:=fun z=>by rw[z,gD] at hl2;cases hl2
   have gE:=f12 _ _ gD;have tU:=Ww (o:=.lst (ys++[.ref q])) gE;refine hN _ _ E2 ys gE (by rw[ly,fJ];omega) ⟨_,_,ys++[.ref q],rfl,(Zs.upd (Ze.x (sG.trans f12))).same hD,Zd,by rw[fK,ly];rfl,fun j v' t' h1 h2=>?_⟩
   by_cases cj:j<ys.length
   ·rw[gm cj] at h1;obtain⟨b',l',e',n',q1,q2,q3,q4,q5⟩:=hys j v' t' h1 h2;exact⟨b',l',e',n',q1,tU _ _ _ (om f12 _ _ _ q2),(q3.mono (om f12)).mono tU,by rw[Zx q5];exact f12 _ _ q4,q5⟩
   ·have lj:=(fO.mp h1).1;rw[fK,gG] at lj;obtain rfl:j=i:=by omega
    rw[gy (by omega),ly,g0] at h1;rw[hs] at h2;cases h1;cases h2;exact⟨q,l2,e,n,rfl,tU _ _ _ (on eq),(he.mono (om (sG.trans f12))).mono tU,by rw[Zx nD];exact f2 _ _ e1,nD⟩
  rintro U G4 ⟨y1,y2,ys,rfl,g4,eD,ly,hys⟩;have cp:VZ K G4 D st ss:=⟨ys,eD,ly,fun j v t h1 h2=>(let ⟨b,l,e,n,q1,q2,q3,q4,_⟩:=hys j v t h1 h2; ⟨b,l,e,n,q1,q2,q3,q4⟩)⟩;clear hys hats hxs' sx3;refine⟨sz2,fun HH hHH=>?_⟩;obtain⟨F6,qN,g5,eHH⟩:=ZL (o:=.lst [.ref TT,.ref D]) hHH;rw[qN];clear qN;have g45:=g4.trans g5;have g35:=g3.trans g45;have dH:Dp K F6 (.ref HH) (.list [dR way ring,.list (ss.map (dSe st))]):=.lst (oj eHH) (.cons (dpR (g45 _ _ eTT) ((g2.trans g35) _ _ eA1) (g35 _ _ eA2)) (.cons (dpSe (cp.mono g5)) .nil));have fH:V7 43 (.list [dR way ring,.list (ss.map (dSe st))]):=fine2 ((fineR way ring).up (by decide)) (fineSe sx.at_ dps);have s56:Ze F5 F6:=g13.trans g45;have s46:=s5.trans s56;have s06:=s4.trans s46;have hdu6:=s56 _ _ hdu;have sx6:=sx.mono s46;have at6:=at4.mono (om s46);have w6':=w6.mono s06;have r6'':=r6.mono s06;have rd:=rdOf w6' rfl n20 sx6 at6 ic3 z3 r6'' l31;have rdm:∀{G:Hp},Ze F6 G->Rd K a G w rn sl v d way ring tr st:=fun sG=>rdOf (w6'.mono sG) rfl n20 (sx6.mono sG) (at6.mono (om sG)) ic3 z3 (r6''.mono sG) l31;clear cp eTT eA1 eA2 eD sx at4 w4 hA1 hA2 hTT hD hHH;refine⟨_,rfl,_,rfl,_,rfl,_,rfl,_,rfl,w,rn,sl,v,many,tr,d,st,way,ring,rfl,rd,lm,fun F7 fo s7 fo0 hfo=>?_⟩;refine⟨_,rfl,.ref fo,.type "list",true,rfl,Ux.lst hfo,rfl,_,rfl,Z3 ?_⟩;refine⟨_,rfl,_,rfl,yM (fineB _) (by decide) (dpB hfo) (dpB (s7 _ _ hdu6)) ⟨_,rfl,Z3 ?_⟩⟩;refine⟨_,rfl,fo,rfl,⟨_,oj hfo⟩,fun D2 hD2=>?_⟩;refine YI (K:=K) ((List.range many).map (Z4 d st (Xj way ring) tr)) V.bl (fun _=>.bl true) hD2 (oj hfo) (by rw[fF,gp,fJ];omega) ?_ ?_
  ·intro b hb G N sG hN;exact⟨_,rfl,.bl b,.type "bool",true,rfl,Ux.bl b,rfl,hN _ (.refl _)⟩
  intro F8 hF8 s8;refine⟨D2,((List.range many).map (Z4 d st (Xj way ring) tr)).map (fun _=>true),rfl,by rw[gS];exact oj hF8,?_⟩;have ea:(((List.range many).map (Z4 d st (Xj way ring) tr)).map (fun _=>true)).all id=true:=by simp
  rw[ea];refine⟨_,rfl,Z3 ?_⟩;have hfo8:=s8 _ _ hfo;refine⟨_,rfl,.inl ⟨rfl,_,oj hfo8⟩,fo,_,rfl,rfl,hfo8,?_⟩;have s69:Ze F6 (upd F8 fo (.lst [])):=(Zs.upd (Ze.x (s7.trans s8))).same fo0;generalize upd F8 fo (.lst [])=F9 at s69;clear hF8 ea hD2 s8 hfo8 hfo s7 fo0;refine⟨_,rfl,_,rfl,_,rfl,_,rfl,_,rfl,w,rn,sl,v,many,tr,d,st,way,ring,rfl,rdm s69,lm,fun F10 f2 s10 _ hf2=>⟨_,rfl,yM (fineB _) (by decide) (dpB hf2) (dpB (s10 _ _ (s69 _ _ hdu6))) ⟨_,rfl,Z3 ?_⟩⟩⟩;have s610:=s69.trans s10;refine⟨_,rfl,_,rfl,_,rfl,_,rfl,w,rn,sl,v,tr,d,st,way,ring,rfl,rdm s610,fun F11 s11=>?_⟩;have s611:=s610.trans s11;refine⟨_,rfl,du,_,_,_,rfl,rfl,oj (s611 _ _ hdu6),yx (k:=0) lm1,rfl,_,rfl,Z1 rfl ?_⟩;refine⟨_,rfl,_,rfl,_,rfl,sz2,fun Z hZ=>?_⟩;obtain⟨F12,qN,s12,eZ⟩:=ZL (o:=.lst [.ref rn,.ref sl]) hZ;rw[qN];clear qN;have s612:=s611.trans s12;have s012:=s06.trans s612;refine yM fH (by decide) (dH.mono s612) (.lst (oj eZ) (.cons (dpR (s012 _ _ hrn) (s012 _ _ hW) (s012 _ _ hG)) (.cons (dpSe (sx6.mono s612).at_) .nil))) ⟨_,rfl,Z3 ?_⟩;refine⟨_,rfl,_,rfl,_,rfl,_,rfl,w,rn,sl,v,0,tr,d,st,way,ring,rfl,rdm s612,by decide,fun F13 f3 s13 _ hf3=>⟨by decide,fun E3 hE3=>?_⟩⟩;obtain⟨F14,qN,s14,eE3⟩:=ZL (o:=.lst []) hE3;rw[qN];clear qN;refine yM (fineB []) (by decide) (dpB (bs:=[]) (s14 _ _ hf3)) (dpB (bs:=[]) eE3) ⟨_,rfl,Z3 ?_⟩;have s614:=s612.trans (s13.trans s14);refine⟨_,rfl,_,rfl,_,rfl,_,rfl,_,rfl,w,nm,rn,sl,v,m,nn,tr,d,st,ss,way,ring,rfl,w6'.mono s614,gd,n20,(s06.trans s614) _ _ hnm6,ln,nnd,nnm,r6''.mono s614,l31,at6.mono (om s614),m8,ic3,z3,by omega,sx6.mono s614,fun F15 s15=>⟨_,rfl,Z3 ?_⟩⟩;exact⟨_,_,_,_,_,_,_,_,_,_,_,rfl,(s06.trans s614).trans s15⟩
 rintro U G ⟨z1,z5,z6,z7,z8,z9,z10,z11,z12,z13,z14,rfl,sG⟩;have hqG:=sG.seq hq6;refine⟨_,rfl,p,ns,4,rfl,hqG,fun n4=>⟨_,_,rfl,rfl,by decide,rfl,_,rfl,XN (fun c=>k _) (fun c=>?_)⟩⟩;clear c;obtain⟨x1,x2,x3,rfl⟩:∃x1 x2 x3,nn=[x1,x2,x3]:=by
  match nn,ln with
  |[x1,x2,x3],_=>exact⟨x1,x2,x3,rfl⟩
 have hx1:=nnm x1 (by simp);have hx2:=nnm x2 (by simp);have hnmG:=sG _ _ hnm6;have sz2:2<=sizeLine:=by rw[fJ];decide
 have sz3:3<=sizeLine:=by rw[fJ];decide
 refine⟨_,rfl,nm,_,_,_,rfl,rfl,oj hnmG,Zj (j:=0) rfl,sz2,fun a1 h1=>?_⟩;obtain⟨G1,qN,g1,e1⟩:=ZL (o:=.tup [.str "sign",.str x1]) h1;rw[qN];clear qN;refine⟨_,rfl,nm,_,_,_,rfl,rfl,oj (g1 _ _ hnmG),Zj (j:=1) rfl,sz2,fun a2 h2=>?_⟩;obtain⟨G2,qN,g2,e2⟩:=ZL (o:=.tup [.str "sign",.str x2]) h2;rw[qN];clear qN;refine⟨sz2,fun a3 h3=>?_⟩;obtain⟨G3,qN,g3,e3⟩:=ZL (o:=.tup [.str "not",.ref a2]) h3;rw[qN];clear qN;have w1:("not" : Str)∈W1/\("next" : Str)∈W1/\("before" : Str)∈W1/\("until" : Str)∈W2/\("since" : Str)∈W2:=by decide +kernel
 have w6a:("not" : Str)∈W6/\("next" : Str)∈W6/\("before" : Str)∈W6/\("until" : Str)∈W6/\("since" : Str)∈W6:=by decide +kernel
 have g23:=g2.trans g3;have m1:Sm K 2 G3 (.ref a1):=Sm.sign (g23 _ _ e1) hx1;have m3:Sm K 2 G3 (.ref a3):=Sm.op1 e3 (Sm.sign (n:=0) (g3 _ _ e2) hx2) w1.1 w6a.1 (by simp);refine⟨_,rfl,sz2,fun b1 h1=>?_⟩;obtain⟨G4,qN,f1,c1⟩:=ZL (o:=.tup [.str "next",.ref a1]) h1;rw[qN];clear qN;refine⟨_,rfl,sz2,fun b2 h2=>?_⟩;obtain⟨G5,qN,f2,c2⟩:=ZL (o:=.tup [.str "before",.ref a3]) h2;rw[qN];clear qN;refine⟨_,rfl,_,rfl,sz3,fun b3 h3=>?_⟩;obtain⟨G6,qN,f3,c3⟩:=ZL (o:=.tup [.str "until",.ref a3,.ref a1]) h3;rw[qN];clear qN;refine⟨_,rfl,_,rfl,sz3,fun b4 h4=>?_⟩;obtain⟨G7,qN,f4,c4⟩:=ZL (o:=.tup [.str "since",.ref a1,.ref a3]) h4;rw[qN];clear qN;refine⟨sz4,fun SL hSL=>?_⟩;obtain⟨G8,qN,f5,c5⟩:=ZL (o:=.lst [.ref b1,.ref b2,.ref b3,.ref b4]) hSL;rw[qN];clear qN;refine⟨_,rfl,.inl ⟨rfl,_,oj c5⟩,_,rfl,_,rfl,sz3,fun b5 h5=>?_⟩;obtain⟨G9,qN,f6,c6⟩:=ZL (o:=.tup [.str "since",.ref a3,.ref a1]) h5;rw[qN];clear qN;refine⟨sz2,fun b6 h6=>?_⟩;obtain⟨G10,qN,f7,c7⟩:=ZL (o:=.tup [.str "before",.ref b5]) h6;rw[qN];clear qN;have f67:=f6.trans f7;have hSL10:=f67 _ _ c5;refine⟨SL,_,_,rfl,rfl,hSL10,sz4l,?_⟩;have f47:Ze G3 G10:=f1.trans (f2.trans (f3.trans (f4.trans (f5.trans f67))));have n1:=m1.mono f47;have n3:=m3.mono f47;have o1:Sm K 4 G10 (.ref b1):=(Sm.op1 ((f2.trans (f3.trans (f4.trans (f5.trans f67)))) _ _ c1) n1 w1.2.1 w6a.2.1 (by simp)).up (by decide);have o2:Sm K 4 G10 (.ref b2):=(Sm.op1 ((f3.trans (f4.trans (f5.trans f67))) _ _ c2) n3 w1.2.2.1 w6a.2.2.1 (by simp)).up (by decide);have o3:Sm K 4 G10 (.ref b3):=(Sm.op2 ((f4.trans (f5.trans f67)) _ _ c3) n3 n1 w1.2.2.2.1 w6a.2.2.2.1 (by simp)).up (by decide);have o4:Sm K 4 G10 (.ref b4):=(Sm.op2 ((f5.trans f67) _ _ c4) n1 n3 w1.2.2.2.2 w6a.2.2.2.2 (by simp)).up (by decide);have o5:Sm K 4 G10 (.ref b6):=Sm.op1 c7 (Sm.op2 (f7 _ _ c6) n3 n1 w1.2.2.2.2 w6a.2.2.2.2 (by simp)) w1.2.2.1 w6a.2.2.1 (by simp);have all5:∀x∈[V.ref b1,.ref b2,.ref b3,.ref b4]++[V.ref b6],Sm K 4 G10 x:=fun x hx=>by
  simp only[mT,lV,fQ,g6,g7] at hx;rcases hx with rfl|rfl|rfl|rfl|rfl
  ·exact o1
  ·exact o2
  ·exact o3
  ·exact o4
  ·exact o5
 have S0:G SL=none:=(g1.trans (g23.trans (f1.trans (f2.trans (f3.trans f4))))).free hSL;have sU:Ze G (upd G10 SL (.lst ([V.ref b1,.ref b2,.ref b3,.ref b4]++[V.ref b6]))):=(Zs.upd (Ze.x (g1.trans (g23.trans f47)))).same S0;have tU:=Ww (o:=.lst ([V.ref b1,.ref b2,.ref b3,.ref b4]++[V.ref b6])) hSL10;have eU:upd G10 SL (.lst ([V.ref b1,.ref b2,.ref b3,.ref b4]++[V.ref b6])) SL=some (.lst ([V.ref b1,.ref b2,.ref b3,.ref b4]++[V.ref b6])):=Zd;have l5:([V.ref b1,.ref b2,.ref b3,.ref b4]++[V.ref b6]).length=5:=rfl;generalize upd G10 SL (.lst ([V.ref b1,.ref b2,.ref b3,.ref b4]++[V.ref b6]))=G11 at sU tU eU;generalize [V.ref b1,.ref b2,.ref b3,.ref b4]++[V.ref b6]=fv at all5 eU l5;clear o1 o2 o3 o4 o5 n1 n3 m1 m3 c1 c2 c3 c4 c5 c6 c7 e1 e2 e3 f47 f67 f1 f2 f3 f4 f5 f6 f7 g1 g2 g3 g23;refine⟨_,rfl,_,rfl,p,ns,4,rfl,sU.seq hqG,fun n5=>?_⟩;have hi0:=l8 (n5/8) (show(5:Int)≠0 by decide);have hi1:=l9 (n5/8) (show(0:Int)<5 by decide);obtain⟨i,ei⟩:∃i:Nat,n5/8%5=((i:Nat):Int):=⟨(n5/8%5).toNat,by omega⟩;have hi:i<fv.length:=by omega
 obtain⟨tr,at_,ic,sz,ns5⟩:=all5 _ (fX hi);refine⟨_,_,rfl,rfl,⟨by decide,by decide⟩,_,_,rfl,rfl,by decide,SL,fv,_,fv[i],rfl,rfl,oj eU,by rw[ei];exact Zj (fG hi),?_⟩;generalize fv[i]=v at at_;have at11:=at_.mono tU;have dp:dpt tr<=8:=kD at_.ok;have z81:psz tr<=81:=sz;have s11:=sG.trans sU;have w11:=w6.mono s11;have r11:=r6.mono s11;refine⟨_,rfl,_,rfl,_,rfl,by decide,fun E1 hE1=>?_⟩;obtain⟨I1,qN,i1,eE1⟩:=ZL (o:=.lst []) hE1;rw[qN];clear qN;have sx0:∀{G:Hp}{sl:Addr},G sl=some (.lst [])->Sx K G sl (fun _=>[]) tr []:=fun e=>⟨⟨[],e,rfl,fun i v t h=>by simp at h⟩,iG,(fun s hs=>by cases hs),(fun s hs=>by cases hs),fun s hs hl=>absurd hl (ns5 s (by rcases ZH.mp hs with h|h;cases h;exact h))⟩;refine⟨w,rn,E1,v,400,tr,d,fun _=>[],way,ring,rfl,rdOf (w11.mono i1) rfl n20 (sx0 eE1) (at11.mono (om i1)) ic (by omega) (r11.mono i1) l31,by decide,fun I2 q1 i2 _ hq1=>?_⟩;refine⟨_,rfl,_,rfl,_,rfl,by decide,fun E2 hE2=>?_⟩;obtain⟨I3,qN,i3,eE2⟩:=ZL (o:=.lst []) hE2;rw[qN];clear qN;have s13:=i1.trans (i2.trans i3);refine⟨w,rn,E2,v,4,400,tr,d,fun _=>[],way,ring,rfl,w11.mono s13,r11.mono s13,at11.mono (om s13),by decide,ic,by omega,by omega,l31,by decide,(sx0 eE2).pairs,fun I4 q2 i4 _ hq2=>?_⟩;exact eqD_yes (fineB _) (by decide) (dpB ((i3.trans i4) _ _ hq1)) (dpB hq2) (k _)
def ar1{P:List α->Prop}(h:∀a,P [a]):∀us:List α,us.length=1->P us
 |[a],_=>h a
def ar2{P:List α->Prop}(h:∀a b,P [a,b]):∀us:List α,us.length=2->P us
 |[a,b],_=>h a b
def ar3{P:List α->Prop}(h:∀a b c,P [a,b,c]):∀us:List α,us.length=3->P us
 |[a,b,c],_=>h a b c
def ar4{P:List α->Prop}(h:∀a b c d,P [a,b,c,d]):∀us:List α,us.length=4->P us
 |[a,b,c,d],_=>h a b c d
def ar5{P:List α->Prop}(h:∀a b c d e,P [a,b,c,d,e]):∀us:List α,us.length=5->P us
 |[a,b,c,d,e],_=>h a b c d e
def ar6{P:List α->Prop}(h:∀a b c d e f,P [a,b,c,d,e,f]):∀us:List α,us.length=6->P us
 |[a,b,c,d,e,f],_=>h a b c d e f
def Bd(x q:Str)(st:Stmt)(ps:List Str):Prop:=∀(kV doc pm:Value) (an:Option Addr) (de ct:Value) (us:List Value),us.length=ps.length->bindArgs (W.fnOf x q (WI st) (XX st) (Zg st) .none kV doc pm an de ct) ⟨us,[]⟩=pure (ps.zip us)
def spL(K:W.Frag):Sp:=fun vs H Q _=>∃(p:Addr) (ns:List Int),vs=[.ref p]/\SqL K H p (ns.map V.int)/\ns.length<=63/\∀H',Q (.bl true) H'
structure Fx(K:W.Frag)(x:Str)(st:Stmt)(fa:Addr)(fd:FuncData):Prop where
 a:W.nsIn K mainGlobals x=some (some (.ref fa))
 f:Fun K x x st fa fd
structure Mx(K:W.Frag)(C:Addr)(x q:Str)(st:Stmt)(fa:Addr)(fd:FuncData):Prop where
 a:W.findIn K (.ref C) x=some (some (.ref fa))
 i:W.isFn K (.ref fa)=true
 f:Fun K x q st fa fd
section
variable{x q:Str}{st:Stmt}{f:Addr}{ps:List Str}{oc kV dc pm cd ct:Value}{sl:Array (Option Value)}
def Fx.m(a:W.nsIn K mainGlobals x=some (some (.ref f)))(l:K.lookup f=some ⟨oc,od,.func (W.fnOf x x (WI st) (XX st) (Zg st) .none kV dc pm an cd ct),sl⟩)(c:W.codeIn K cd x=true)(k:W.keepIn K (.ref f)=true):Fx K x st f (W.fnOf x x (WI st) (XX st) (Zg st) .none kV dc pm an cd ct):=⟨a,fun_mk l c k⟩
def Mx.m(a:W.findIn K (.ref C) x=some (some (.ref f)))(i:W.isFn K (.ref f)=true)(l:K.lookup f=some ⟨oc,od,.func (W.fnOf x q (WI st) (XX st) (Zg st) .none kV dc pm an cd ct),sl⟩)(c:W.codeIn K cd q=true)(k:W.keepIn K (.ref f)=true):Mx K C x q st f (W.fnOf x q (WI st) (XX st) (Zg st) .none kV dc pm an cd ct):=⟨a,i,fun_mk l c k⟩
def Fx.g(e:Fx K x st f fd)(X:K.In h)(G:h.Ns mainGlobals mg)(b:Bd x x st ps:=by first|exact fun _ _ _ _ _ _=>ar1 fun _=>rfl|exact fun _ _ _ _ _ _=>ar2 fun _ _=>rfl|exact fun _ _ _ _ _ _=>ar3 fun _ _ _=>rfl|exact fun _ _ _ _ _ _=>ar4 fun _ _ _ _=>rfl|exact fun _ _ _ _ _ _=>ar5 fun _ _ _ _ _=>rfl|exact fun _ _ _ _ _ _=>ar6 fun _ _ _ _ _ _=>rfl):Fg K mg x st ps f fd:=⟨e.f,e.f.binds b,ij X G e.a⟩
def Mx.g(e:Mx K C x q st f fd)(b:Bd x q st ps:=by first|exact fun _ _ _ _ _ _=>ar1 fun _=>rfl|exact fun _ _ _ _ _ _=>ar2 fun _ _=>rfl|exact fun _ _ _ _ _ _=>ar3 fun _ _ _=>rfl|exact fun _ _ _ _ _ _=>ar4 fun _ _ _ _=>rfl|exact fun _ _ _ _ _ _=>ar5 fun _ _ _ _ _=>rfl|exact fun _ _ _ _ _ _=>ar6 fun _ _ _ _ _ _=>rfl):Mg K C x q st ps f fd:=⟨e.f,e.f.binds b,⟨e.a,e.i,e.f.kp⟩⟩
end
def all_mk(X:K.In h)(G:h.Ns mainGlobals mg)(hfa:mg "law" = some (.ref fa))
  {f0 f1 f2 f3 f4 f5 f6 f7 f8 f9 f10 f11 f12 f13 f14 f15 f16 f17 f18 f19 f20 f21 f22 f23 f24 f25 f26 f27 f28 f29 f30 f31 f32 f33 f34 f35 f36 f37 f38 f39 f40 f41 f42 f43 f44 f45 f46 f47 f48 f49 f50 f51 f52 f53 f54 f55:Addr}
  {C_Table C_World C_TimeError C_BadWorld C_BadSentence:Addr}
  {d0 d1 d2 d3 d4 d5 d6 d7 d8 d9 d10 d11 d12 d13 d14 d15 d16 d17 d18 d19 d20 d21 d22 d23 d24 d25 d26 d27 d28 d29 d30 d31 d32 d33 d34 d35 d36 d37 d38 d39 d40 d41 d42 d43 d44 d45 d46 d47 d48 d49 d50 d51 d52 d53 d54 d55:FuncData}
  {dt_LENGTHS_0 dt_LENGTHS_1 dt_LENGTHS_2 dt_LENGTHS_3 dt_LENGTHS_4 dt_LENGTHS_5 dt_LENGTHS_6 dt_LENGTHS_7 dt_LENGTHS_8 dt_LENGTHS_9 dt_LENGTHS_10:Tok}
  {D_LINES:Addr}{nn_LINES:Nat}
  {tk_LETTERS tk_MOST_LETTERS tk_MOST_WITHIN tk_MOST_ROOMS tk_MOST_FAIR:Tok}
  (v54:W.nsIn K mainGlobals "Table" = some (some (.ref C_Table)))
  (v55:W.nsIn K mainGlobals "World" = some (some (.ref C_World)))
  (v16:W.nsIn K mainGlobals "TimeError" = some (some (.ref C_TimeError)))
  (v29:W.nsIn K mainGlobals "BadWorld" = some (some (.ref C_BadWorld)))
  (v11:W.nsIn K mainGlobals "BadSentence" = some (some (.ref C_BadSentence)))
  (e0:Fx K "is_whole" qt f0 d0)
  (e1:Fx K "is_name" UY f1 d1)
  (e2:Fx K "is_room" zV f2 d2)
  (e3:Fx K "are_names" Vr f3 d3)
  (e4:Fx K "are_rooms" Vn f4 d4)
  (e5:Fx K "last_ones" UL f5 d5)
  (e6:Fx K "is_formed" UD f6 d6)
  (e7:Fx K "inner_of" qo f7 d7)
  (e8:Fx K "inner_ahead" Vy f8 d8)
  (e9:Fx K "row_with" qu f9 d9)
  (e10:Mx K C_Table "__init__" "Table.__init__" VW f10 d10)
  (e11:Mx K C_Table "number_of" "Table.number_of" XT f11 d11)
  (e12:Mx K C_Table "taken_in" "Table.taken_in" Wj f12 d12)
  (e13:Mx K C_Table "inner_numbers" "Table.inner_numbers" YA f13 d13)
  (e14:Fx K "below" kJ f14 d14)
  (e15:Fx K "read" cD f15 d15)
  (e16:Fx K "read_along" Ul f16 d16)
  (e17:Fx K "ground_of" UB f17 d17)
  (e18:Fx K "told_sets" Vl f18 d18)
  (e19:Fx K "ground_rows" Wt f19 d19)
  (e20:Fx K "room_truths" Y5 f20 d20)
  (e21:Fx K "read_rows" Wv f21 d21)
  (e22:Fx K "trimmed" zw f22 d22)
  (e23:Fx K "stretched" UP f23 d23)
  (e24:Fx K "stretched_both" X7 f24 d24)
  (e25:Fx K "not_line" Ug f25 d25)
  (e26:Fx K "and_line" V8 f26 d26)
  (e27:Fx K "next_line" UM f27 d27)
  (e28:Fx K "until_line" Uj f28 d28)
  (e29:Fx K "before_line" Vv f29 d29)
  (e30:Fx K "since_line" Uh f30 d30)
  (e31:Mx K C_World "__init__" "World.__init__" XW f31 d31)
  (e32:Mx K C_World "many" "World.many" V0 f32 d32)
  (e33:Mx K C_World "signs_of" "World.signs_of" Wa f33 d33)
  (e34:Mx K C_World "ways_on" "World.ways_on" WE f34 d34)
  (e35:Mx K C_World "begins" "World.begins" Va f35 d35)
  (e36:Mx K C_World "fair_signs" "World.fair_signs" XF f36 d36)
  (e37:Fx K "makes_world" Xs f37 d37)
  (e38:Fx K "are_some_rooms" X8 f38 d38)
  (e39:Fx K "_law_cell_at" W9 f39 d39)
  (e40:Fx K "_law_state" Ue f40 d40)
  (e41:Fx K "_law_digit" Ui f41 d41)
  (e42:Fx K "_law_names" Ub f42 d42)
  (e43:Fx K "_law_world" XO f43 d43)
  (e44:Fx K "_law_run" Vh f44 d44)
  (e45:Fx K "_law_core" UJ f45 d45)
  (e46:Fx K "_law_inner" Uf f46 d46)
  (e47:Fx K "_law_parts" WM f47 d47)
  (e48:Fx K "_law_back_to" W0 f48 d48)
  (e49:Fx K "_law_ahead" WT f49 d49)
  (e50:Fx K "_law_of" zI f50 d50)
  (e51:Fx K "_law_row" YU f51 d51)
  (e52:Fx K "_law_along" WO f52 d52)
  (e53:Fx K "_law_by_turns" Yg f53 d53)
  (e54:Fx K "_law_sets" Wy f54 d54)
  (e55:Fx K "law" cE f55 d55)
  (v56:W.plainGet K C_Table Str.empty=true)
  (v57:W.hasDictIn K C_Table=true)
  (v58:W.plainOver K C_Table=true)
  (v59:W.findIn K (.ref C_Table) "__setattr__" = some (some (.builtin "object.__setattr__")))
  (v60:W.makesIn K C_Table=true)
  (v61:W.keepIn K (.ref C_Table)=true)
  (v14:W.findIn K (.ref C_Table) "parts" = some none)
  (v17:W.findIn K (.ref C_Table) "rows" = some none)
  (v4:W.findIn K (.ref C_Table) "numbers" = some none)
  (v62:W.plainGet K C_World Str.empty=true)
  (v63:W.hasDictIn K C_World=true)
  (v64:W.plainOver K C_World=true)
  (v65:W.findIn K (.ref C_World) "__setattr__" = some (some (.builtin "object.__setattr__")))
  (v66:W.makesIn K C_World=true)
  (v67:W.keepIn K (.ref C_World)=true)
  (v1:W.findIn K (.ref C_World) "room_signs" = some none)
  (v3:W.findIn K (.ref C_World) "room_ways" = some none)
  (v0:W.findIn K (.ref C_World) "start_rooms" = some none)
  (v2:W.findIn K (.ref C_World) "fair_names" = some none)
  (v18:W.nsIn K mainGlobals "ValueError" = some none)
  (v79:W.nsIn K mainGlobals "all" = some none)
  (v74:W.nsIn K mainGlobals "tuple" = some none)
  (v80:W.nsIn K mainGlobals "len" = some none)
  (v77:W.nsIn K mainGlobals "list" = some none)
  (v42:W.nsIn K mainGlobals "reversed" = some none)
  (v75:W.nsIn K mainGlobals "range" = some none)
  (v19:W.nsIn K mainGlobals "isinstance" = some none)
  (v81:W.nsIn K mainGlobals "int" = some none)
  (v82:W.nsIn K mainGlobals "set" = some none)
  (v83:W.nsIn K mainGlobals "max" = some none)
  (v84:W.nsIn K mainGlobals "zip" = some none)
  (v78:W.nsIn K mainGlobals "bool" = some none)
  (v85:W.nsIn K mainGlobals "str" = some none)
  (v68:W.nsIn K mainGlobals "sorted" = some none)
  (v47:W.nsIn K mainGlobals "LETTERS" = some (some (.str "abcdefghijklmnopqrstuvwxyz" tk_LETTERS)))
  (v12:W.nsIn K mainGlobals "MOST_LETTERS" = some (some (.int 8 tk_MOST_LETTERS)))
  (v15:W.nsIn K mainGlobals "MOST_WITHIN" = some (some (.int 5 tk_MOST_WITHIN)))
  (v20:W.nsIn K mainGlobals "MOST_ROOMS" = some (some (.int 20 tk_MOST_ROOMS)))
  (v30:W.nsIn K mainGlobals "MOST_FAIR" = some (some (.int 3 tk_MOST_FAIR)))
  (v43:W.nsIn K mainGlobals "LENGTHS" = some (some (.ref D_LENGTHS)))
  (v44:K.lookup D_LENGTHS=some ⟨.type "dict",none,.dict es_LENGTHS nn_LENGTHS,#[]⟩)
  (v45:W.KeysLit w.params es_LENGTHS.toList)
  (v31:W.nsIn K D_LENGTHS "all" = some (some (.int 2 dt_LENGTHS_0)))
  (v32:W.nsIn K D_LENGTHS "some" = some (some (.int 2 dt_LENGTHS_1)))
  (v33:W.nsIn K D_LENGTHS "not" = some (some (.int 2 dt_LENGTHS_2)))
  (v34:W.nsIn K D_LENGTHS "next" = some (some (.int 2 dt_LENGTHS_3)))
  (v35:W.nsIn K D_LENGTHS "always" = some (some (.int 2 dt_LENGTHS_4)))
  (v36:W.nsIn K D_LENGTHS "ever" = some (some (.int 2 dt_LENGTHS_5)))
  (v37:W.nsIn K D_LENGTHS "before" = some (some (.int 2 dt_LENGTHS_6)))
  (v38:W.nsIn K D_LENGTHS "once" = some (some (.int 2 dt_LENGTHS_7)))
  (v39:W.nsIn K D_LENGTHS "sofar" = some (some (.int 2 dt_LENGTHS_8)))
  (v40:W.nsIn K D_LENGTHS "until" = some (some (.int 3 dt_LENGTHS_9)))
  (v21:W.nsIn K D_LENGTHS "since" = some (some (.int 3 dt_LENGTHS_10)))
  (v46:(D_LENGTHS==sysModules)=false)
  (v69:W.nsIn K mainGlobals "LINES" = some (some (.ref D_LINES)))
  (v70:K.lookup D_LINES=some ⟨.type "dict",none,.dict es_LINES nn_LINES,#[]⟩)
  (v71:W.KeysLit w.params es_LINES.toList)
  (v48:W.nsIn K D_LINES "not" = some (some (.ref f25)))
  (v49:W.nsIn K D_LINES "and" = some (some (.ref f26)))
  (v50:W.nsIn K D_LINES "next" = some (some (.ref f27)))
  (v51:W.nsIn K D_LINES "until" = some (some (.ref f28)))
  (v52:W.nsIn K D_LINES "before" = some (some (.ref f29)))
  (v53:W.nsIn K D_LINES "since" = some (some (.ref f30)))
  (v72:(D_LINES==sysModules)=false)
  (v22:W.excIn K C_TimeError [.type "ValueError",.type "Exception",.type "BaseException",.type "object"] "ValueError.__new__" = true)
  (v41:W.excIn K C_BadWorld [.type "ValueError",.type "Exception",.type "BaseException",.type "object"] "ValueError.__new__" = true)
  (v13:W.excIn K C_BadSentence [.type "ValueError",.type "Exception",.type "BaseException",.type "object"] "ValueError.__new__" = true)
  (xgt:W.specialIn K (.builtin "object.__class__") "__get__" = some (some (.builtin "getset_descriptor.__get__")))
  (xtk:W.takesIn K (.builtin "object.__class__")=some true)
  (v23:W.findIn K (.ref C_BadWorld) "__getattribute__" = some (some (.builtin "BaseException.__getattribute__")))
  (v24:W.findIn K (.ref C_BadWorld) "__getattr__" = some none)
  (v25:W.mroIn K C_BadWorld (.type "object")=some true)
  (v26:W.mroIn K C_BadWorld (.type "BaseException")=some true)
  (v27:W.findIn K (.ref C_BadWorld) "__class__" = some (some (.builtin "object.__class__")))
  (v28:W.hasDictIn K C_BadWorld=true)
  (v5:W.findIn K (.ref C_BadSentence) "__getattribute__" = some (some (.builtin "BaseException.__getattribute__")))
  (v6:W.findIn K (.ref C_BadSentence) "__getattr__" = some none)
  (v7:W.mroIn K C_BadSentence (.type "object")=some true)
  (v8:W.mroIn K C_BadSentence (.type "BaseException")=some true)
  (v9:W.findIn K (.ref C_BadSentence) "__class__" = some (some (.builtin "object.__class__")))
  (v10:W.hasDictIn K C_BadSentence=true)
  (v73:W.nsIn K D_LENGTHS "signs" = some none)
  (v76:W.nsIn K D_LENGTHS "Next" = some none) :
  ∃fd:FuncData,(∀(s:Shared) (v:Value),BindsTo s fd ⟨[v],[]⟩ [("_law_script",v)])/\∀base:Heap,K.In base->base.Ns mainGlobals mg->V9 l.prog w K mg base CX0 13 fa fd ["_law_script"] (spL K):=by
 have e:=hfa.symm.trans (ij X G e55.a);cases e;obtain⟨_,_,_,_,_,_,_,_,_,rfl,_⟩:=e55.f.ex;have T:Txt K mg ⟨f0,d0,f1,d1,f2,d2,f3,d3,f4,d4,f5,d5,f6,d6,f7,d7,f8,d8,f9,d9,f10,d10,f11,d11,f12,d12,f13,d13,f14,d14,f15,d15,f16,d16,f17,d17,f18,d18,f19,d19,f20,d20,f21,d21,f22,d22,f23,d23,f24,d24,f25,d25,f26,d26,f27,d27,f28,d28,f29,d29,f30,d30,f31,d31,f32,d32,f33,d33,f34,d34,f35,d35,f36,d36,f37,d37,f38,d38,f39,d39,f40,d40,f41,d41,f42,d42,f43,d43,f44,d44,f45,d45,f46,d46,f47,d47,f48,d48,f49,d49,f50,d50,f51,d51,f52,d52,f53,d53,f54,d54,fa,_,C_TimeError,C_BadWorld,C_BadSentence,C_Table,C_World,D_LENGTHS,D_LINES,w.params⟩:={
  bY:=ij X G v43,
  bh:=⟨⟨_,_,v44,v45⟩,fun p hp=>by
   simp only[fQ,g6,g7] at hp;rcases hp with rfl|rfl|rfl|rfl|rfl|rfl|rfl|rfl|rfl|rfl|rfl
   ·exact⟨_,v31⟩
   ·exact⟨_,v32⟩
   ·exact⟨_,v33⟩
   ·exact⟨_,v34⟩
   ·exact⟨_,v35⟩
   ·exact⟨_,v36⟩
   ·exact⟨_,v37⟩
   ·exact⟨_,v38⟩
   ·exact⟨_,v39⟩
   ·exact⟨_,v40⟩
   ·exact⟨_,v21⟩,v46⟩,
  cI:=ij X G v69,
  cJ:=⟨⟨_,_,v70,v71⟩,fun p hp=>by
   simp only[fQ,g6,g7] at hp;rcases hp with rfl|rfl|rfl|rfl|rfl|rfl
   ·exact v48
   ·exact v49
   ·exact v50
   ·exact v51
   ·exact v52
   ·exact v53,v72⟩,
  bz:=e0.g X G,
  bM:=e1.g X G,
  bV:=e2.g X G,
  bj:=e3.g X G,
  bE:=e4.g X G,
  bF:=e5.g X G,
  bG:=e6.g X G,
  bA:=e7.g X G,
  bm:=e8.g X G,
  bQ:=e9.g X G,
  bu:=e10.g,
  al:=e11.g,
  aH:=e12.g,
  aq:=e13.g,
  ck:=e14.g X G,
  cF:=e15.g X G,
  az:=e16.g X G,
  bH:=e17.g X G,
  bJ:=e18.g X G,
  bn:=e19.g X G,
  bo:=e20.g X G,
  bK:=e21.g X G,
  bW:=e22.g X G,
  aO:=e23.g X G,
  aB:=e24.g X G,
  bB:=e25.g X G,
  bC:=e26.g X G,
  bq:=e27.g X G,
  aZ:=e28.g X G,
  aV:=e29.g X G,
  a8:=e30.g X G,
  a9:=e31.g,
  ab:=e32.g,
  ag:=e33.g,
  ah:=e34.g,
  bZ:=e35.g,
  bN:=e36.g,
  br:=e37.g X G,
  aI:=e38.g X G,
  ak:=e39.g X G,
  aQ:=e40.g X G,
  aa:=e41.g X G,
  bv:=e42.g X G,
  bw:=e43.g X G,
  bR:=e44.g X G,
  am:=e45.g X G,
  aC:=e46.g X G,
  ai:=e47.g X G,
  ba:=e48.g X G,
  bx:=e49.g X G,
  bf:=e50.g X G,
  bS:=e51.g X G,
  aS:=e52.g X G,
  aW:=e53.g X G,
  bL:=e54.g X G,
  cU:=e55.g X G,
  ce:=h9 X G v18,
  cr:=h9 X G v79,
  aK:=h9 X G v74,
  ay:=h9 X G v80,
  aN:=h9 X G v77,
  bT:=h9 X G v42,
  aJ:=h9 X G v75,
  ae:=h9 X G v19,
  cW:=h9 X G v81,
  cG:=h9 X G v82,
  cQ:=h9 X G v83,
  cX:=h9 X G v84,
  cH:=h9 X G v78,
  cR:=h9 X G v85,
  bO:=h9 X G v68,
  cg:=⟨_,ij X G v47,⟨_,rfl⟩⟩,
  bD:=⟨_,ij X G v12,⟨_,rfl⟩⟩,
  bP:=⟨_,ij X G v15,⟨_,rfl⟩⟩,
  bU:=⟨_,ij X G v20,⟨_,rfl⟩⟩,
  bX:=⟨_,ij X G v30,⟨_,rfl⟩⟩,
  av:=⟨v56,v57,v58,v59⟩,
  cK:=ij X G v54,
  cA:=⟨v60,e10.a,e10.i,v61⟩,
  bc:=v14,
  aE:=v17,
  ao:=v4,
  aj:=⟨v62,v63,v64,v65⟩,
  cz:=ij X G v55,
  cc:=⟨v66,e31.a,e31.i,v67⟩,
  aA:=v1,
  aM:=v3,
  aU:=v0,
  aX:=v2,
  cv:=ij X G v16,
  cy:=v22,
  cB:=ij X G v29,
  cC:=v41,
  b9:=ij X G v11,
  ca:=v13,
  k_BadWorld:=⟨v23,v24,v25,v26,v27,xgt,xtk,v28⟩,
  k_BadSentence:=⟨v5,v6,v7,v8,v9,xgt,xtk,v10⟩,
  nk_signs:=v73,
  nk_Next:=v76 }
 refine⟨_,?_,fun base _ _=>cZ T rfl⟩;exact fun s v=>.of_eq rfl
def walk{d:DefRec}{K:Params->W.Frag}(hn:l.most=some 63)(hdf:d.params.defaults=[])
  (hY:∀(w:World) (h:Heap),YP w h->(K w.params).In h)
  (F:∀(w:World) (mg:Str->Option Value) (fa:Addr) (h:Heap),(K w.params).In h->h.Ns mainGlobals mg->mg d.name=some (.ref fa) ->
   ∃fd:FuncData,(∀(s:Shared) (u:Value),BindsTo s fd ⟨[u],[]⟩ [("_law_script",u)])/\∀base:Heap,(K w.params).In base->base.Ns mainGlobals mg->V9 l.prog w (K w.params) mg base CX0 13 fa fd ["_law_script"] (spL (K w.params))) :
  W.WalkO q loose XP YP l.row.toRowW d [] (fun f vs=>PySem.call f vs):=
 L2.walk_of (n:=63) (k:=13) (x := "_law_script") (CX:=fun _=>CX0) (sp:=fun w=>spL (K w.params)) hn (by decide) hdf ⟨rfl,by decide,by decide⟩ hY F (fun _ _ a ns hl _ hS=>⟨a,ns,rfl,hS,hl,fun _=>rfl⟩) fun _ _ _ _ _ z=>z
end KK
open PySem PySem.W PyProof.Rows
namespace PySem.W.Fast
def tw14969980092545588610:=0
def tw1048967385303318643:=0
def tw11993412992436163300:=0
def tw14746512292490497808:=0
def tw14344418514425154190:=0
def tw2436239665601990581:=0
def tw11754605459505024367:=0
def tw15733513354851145185:=0
def tw5044337239012549943:=0
def tw13307978894334304509:=0
def tw457529616287038360:=0
def tw11619441618892269949:=0
def tw4981884605329777926:=0
def tw7415687987600590075:=0
def tw11283421073029253269:=0
def tw6901463736877818484:=0
def tw1714424437891713415:=0
def tw8164216722703160865:=0
def tw14043753564087559970:=0
def tw8422457169635656112:=0
def tw10094024432142592916:=0
def tw14759523202004962283:=0
def tw16845198869977867727:=0
def tw10423578110465672542:=0
def tw15636686379156627779:=0
def tw15453728551997076087:=0
def tw7302695519341163561:=0
def tw721210125765010693:=0
def tw9881659352609936702:=0
def tw9878543579102748554:=0
def tw8317520089570410207:=0
def tw6216607112573807769:=0
def tw17381210037264355985:=0
def tw17462182383368674637:=0
def tw13275598139540530931:=0
def tw9761590665914410933:=0
def tw18369340496798217694:=0
def tw1014753032982983634:=0
def tw7266639348282474796:=0
def tw5831805067890820318:=0
def tw10157441038911900258:=0
def tw962917998041874974:=0
def tw2067500195978468752:=0
def tw9763716588398372862:=0
def tw8994312046253983630:=0
def tw1086402625507837217:=0
def tw5720919003892872243:=0
def tw14648234495468063740:=0
def tw15680097452831504547:=0
def tw4291765800055723102:=0
def tw4529267442170178260:=0
def tw16176442801805685412:=0
def tw3337039051616737754:=0
def tw9086583695854031062:=0
def tw1073130522978081039:=0
def tw18008158776279227868:=0
def tw10943289535157951038:=0
def tw12555351580093155637:=0
def tw11737711852894109048:=0
def tw4536649969750571582:=0
def tw13842972691619769454:=0
def tw1803059587442752664:=0
def tw4960491232174376966:=0
def tw13136860818324832437:=0
def tw13988099674224866833:=0
def tw4706428379967312960:=0
def tw17806330218893463535:=0
def tw2323512845661827973:=0
def tw14722288492147652982:=0
def tw17391692042452085578:=0
end PySem.W.Fast
set_option maxRecDepth 100000 in
set_option maxHeartbeats 0 in
theorem PySem.Challenge.cw_timecourt_k21_read_along_holds : PySem.Challenge.rw_timecourt_k21_read_along.Holds := by
 w_on; o_law; k_head; (case hw => w_witness2)
 k_fill
 refine KK.walk (l := PySem.Challenge.rw_timecourt_k21_read_along) rfl rfl (fun w h Y => PySem.W.kIn_of Y) ?F
 case F =>
  intro w mg fa h KX G hmg
  have hmg2 : mg "law" = some (.ref fa) := hmg
  clear hmg
  refine' KK.all_mk KX G hmg2 ?v54 ?v55 ?v16 ?v29 ?v11 ?e0 ?e1 ?e2 ?e3 ?e4 ?e5 ?e6 ?e7 ?e8 ?e9 ?e10 ?e11 ?e12 ?e13 ?e14 ?e15 ?e16 ?e17 ?e18 ?e19 ?e20 ?e21 ?e22 ?e23 ?e24 ?e25 ?e26 ?e27 ?e28 ?e29 ?e30 ?e31 ?e32 ?e33 ?e34 ?e35 ?e36 ?e37 ?e38 ?e39 ?e40 ?e41 ?e42 ?e43 ?e44 ?e45 ?e46 ?e47 ?e48 ?e49 ?e50 ?e51 ?e52 ?e53 ?e54 ?e55 ?v56 ?v57 ?v58 ?v59 ?v60 ?v61 ?v14 ?v17 ?v4 ?v62 ?v63 ?v64 ?v65 ?v66 ?v67 ?v1 ?v3 ?v0 ?v2 ?v18 ?v79 ?v74 ?v80 ?v77 ?v42 ?v75 ?v19 ?v81 ?v82 ?v83 ?v84 ?v78 ?v85 ?v68 ?v47 ?v12 ?v15 ?v20 ?v30 ?v43 ?v44 ?v45 ?v31 ?v32 ?v33 ?v34 ?v35 ?v36 ?v37 ?v38 ?v39 ?v40 ?v21 ?v46 ?v69 ?v70 ?v71 ?v48 ?v49 ?v50 ?v51 ?v52 ?v53 ?v72 ?v22 ?v41 ?v13 ?xgt ?xtk ?v23 ?v24 ?v25 ?v26 ?v27 ?v28 ?v5 ?v6 ?v7 ?v8 ?v9 ?v10 ?v73 ?v76
  (case v54 | v55 | v16 | v29 | v11 => k_is)
  (case e0 | e1 | e2 | e3 | e4 | e5 | e6 | e7 | e8 | e9 => exact KK.Fx.m (by k_is) (by k_is) (by k_is) (by k_is))
  (case e10 | e11 | e12 | e13 => exact KK.Mx.m (by k_is) (by k_is) (by k_is) (by k_is) (by k_is))
  (case e14 | e15 | e16 | e17 | e18 | e19 | e20 | e21 | e22 | e23 | e24 | e25 | e26 | e27 | e28 | e29 | e30 => exact KK.Fx.m (by k_is) (by k_is) (by k_is) (by k_is))
  (case e31 | e32 | e33 | e34 | e35 | e36 => exact KK.Mx.m (by k_is) (by k_is) (by k_is) (by k_is) (by k_is))
  (case e37 | e38 | e39 | e40 | e41 | e42 | e43 | e44 | e45 | e46 | e47 | e48 | e49 | e50 | e51 | e52 | e53 | e54 | e55 => exact KK.Fx.m (by k_is) (by k_is) (by k_is) (by k_is))
  (case v56 | v57 | v58 | v59 | v60 | v61 | v14 | v17 | v4 | v62 | v63 | v64 | v65 | v66 | v67 | v1 | v3 | v0 | v2 | v18 | v79 | v74 | v80 | v77 | v42 | v75 | v19 | v81 | v82 | v83 | v84 | v78 | v85 | v68 | v47 | v12 | v15 | v20 | v30 | v43 => k_is)
  (case v44 => k_is)
  (case v45 => exact ⟨⟨_, _, rfl, rfl⟩, ⟨_, _, rfl, rfl⟩, ⟨_, _, rfl, rfl⟩, ⟨_, _, rfl, rfl⟩, ⟨_, _, rfl, rfl⟩, ⟨_, _, rfl, rfl⟩, ⟨_, _, rfl, rfl⟩, ⟨_, _, rfl, rfl⟩, ⟨_, _, rfl, rfl⟩, ⟨_, _, rfl, rfl⟩, ⟨_, _, rfl, rfl⟩, trivial⟩)
  (case v31 | v32 | v33 | v34 | v35 | v36 | v37 | v38 | v39 | v40 | v21 => k_is)
  (case v46 => rfl)
  (case v69 | v70 => k_is)
  (case v71 => exact ⟨⟨_, _, rfl, rfl⟩, ⟨_, _, rfl, rfl⟩, ⟨_, _, rfl, rfl⟩, ⟨_, _, rfl, rfl⟩, ⟨_, _, rfl, rfl⟩, ⟨_, _, rfl, rfl⟩, trivial⟩)
  (case v48 | v49 | v50 | v51 | v52 | v53 => k_is)
  (case v72 => rfl)
  (case v22 | v41 | v13 => k_exc)
  (case xgt | xtk | v23 | v24 | v25 | v26 | v27 | v28 | v5 | v6 | v7 | v8 | v9 | v10 | v73 | v76 => k_is)
