import PyProof.Rows.All
import Wide.All
import OpenK.AllK
import Wide.FinOn
import Lean
import PyProof.EqAt
import PyProof.EqKinds
import PyProof.TupleCall
import KE.KRevIter
import KE.KItemsList
import PySem.Challenge.RW_timecourt_k21_read_along
set_option linter.all false
def fg:=@PySem.wpAny_bind
def fh:=@Nat.le_refl
def fi:=@List.length_map
def fj:=@List.getElem?_eq_getElem
def fq:=@PySem.wpAny_pure
def ft:=@PySem.sizeLine_eq
def fu:=@List.length_append
def fw:=@List.getElem?_map
def fz:=@PySem.Heap.get?_push_of_some
def fC:=@PySem.Heap.lt_size
def fD:=@List.getElem?_eq_some_iff
def fE:=@Nat.ne_of_lt
def fF:=@List.mem_cons
def fG:=@List.mem_append
def fI:=@congrArg
def fJ:=@Ne.symm
def fK:=@Nat.le_trans
def fL:=@List.size_toArray
def fM:=@List.mem_singleton
def fN:=@List.getElem_mem
def fO:=@Option.some.inj
def fP:=@List.map_cons
def fQ:=@List.map_append
def fR:=@PySem.Heap.get?_push_size
def fS:=@List.mem_cons_of_mem
def fT:=@of_decide_eq_true
def fU:=@List.mem_of_getElem?
def fV:=@Bool.false_ne_true
def fW:=@List.getElem?_append_left
def fX:=@List.mem_map
def fY:=@List.length_range
def fZ:=@List.length_take
def gb:=@Bool.and_eq_true
def ge:=@Int.toNat_natCast
def gf:=@List.getElem?_append_right
def gi:=@List.mem_append_right
def gj:=@Nat.lt_of_lt_of_le
def gk:=@Nat.zero_le
def gm:=@List.lookup_cons
def gn:=@List.length_singleton
def gp:=@List.length_cons
def gu:=@List.getElem_of_mem
def gv:=@PySem.F.plainAttrs_list
def gw:=@PySem.PassesOwn.never
def gy:=@PySem.mem_of_lookup
def gz:=@decide_eq_true
def gA:=@Nat.ne_of_gt
def gB:=@List.map_map
def gC:=@List.length_eq_zero_iff
def gG:=@if_false
def gH:=@PySem.F.slot_list_append
def gI:=@PySem.F.type_list_append
def gJ:=@decide_eq_false
def gK:=@List.getElem?_eq_none
def gN:=@Nat.sub_self
def gO:=@List.not_mem_nil
def gQ:=@or_false
def gS:=@List.mem_append_left
def gT:=@List.all_eq_true
def gU:=@PySem.F.called_set
def gW:=@PySem.wpAny_holding
def gX:=@Bool.false_eq_true
def gY:=@PySem.W.mg_none_of
def gZ:=@if_true
def g0:=@PySem.wpAny_field
def g6:=@List.length_drop
def g7:=@PySem.wpAny_newObj_type
def g9:=@Nat.lt_of_le_of_lt
def hE:=@PySem.W.mg_of
def hU:=@PySem.wpAny_mono
def hV:=@Array.length_toList
def ia:=@PySem.wpAny_call_entry
def ib:=@Nat.le_of_lt
def ie:=@PySem.Heap.size_push
def ig:=@PySem.W.kia_one
def ii:=@PySem.Heap.get?_update_other
def ij:=@PySem.wpAny_setState_of
def ik:=@Nat.lt_irrefl
def im:=@List.mem_cons_self
def io:=@PySem.wpAny_truthy_bool
def ip:=@List.append_nil
def iq:=@List.nodup_cons
def ir:=@PySem.codeAny_builtin
def iu:=@List.length_reverse
def iw:=@Option.map_eq_some_iff
def iy:=@List.nodup_nil
def iz:=@List.mem_flatten
def iA:=@PySem.Heap.get?_update_self
def iB:=@List.length_zip
def iC:=@List.getElem_map
def iD:=@Nat.mul_add
def iE:=@Bool.false_and
def iF:=@Nat.le_succ
def iG:=@List.append_assoc
def iH:=@List.take_length
def iI:=@List.cons.inj
def iJ:=@List.length_pos_iff
def iK:=@Bool.false_or
def iL:=@List.map_take
def iM:=@List.getElem_inj
def iN:=@PySem.wpAny_Call_Name_kw
def iO:=@PySem.Around.under_plainId
def iP:=@PySem.plainId_quiet
def iQ:=@Nat.lt_succ_of_lt
def iR:=@List.ext_getElem?
def iS:=@Bool.true_and
def iT:=@List.getD_eq_getElem?_getD
def iU:=@List.getElem?_range
def iW:=@beq_eq_false_iff_ne
def iX:=@List.mem_filter
def iY:=@Bool.eq_iff_iff
def iZ:=@beq_iff_eq
def i0:=@Nat.lt_succ_self
def i5:=@PySem.codeAny_mono
def i6:=@List.of_mem_zip
def i7:=@PySem.wpAny_callSpecial?_slot
def i8:=@List.flatten_cons
def i9:=@Array.getElem?_toList
def lg:=@List.getElem?_zip_eq_some
def lh:=@PySem.wpAny_standAt
def li:=@List.nodup_append
def lv:=@PySem.wpAny_updateSeq
def lA:=@List.find?_cons
def lC:=@PySem.Obj.data_mapFields
def lD:=@List.take_succ
def lE:=@List.mem_range
def lG:=@PySem.wpAny_passesOwn
def lH:=@List.all_cons
def lI:=@PySem.call_meets
def lJ:=@List.nil_append
def lK:=@List.filter_cons_of_pos
def lN:=@List.filter_cons_of_neg
def lO:=@PyProof.Rows.F.plain_set_update_loop
def lQ:=@decide_eq_true_iff
def lS:=@PySem.wpAny_rule
def lT:=@List.mem_map_of_mem
def lU:=@Nat.zero_add
def lV:=@Int.emod_nonneg
def lW:=@Int.emod_lt_of_pos
def lX:=@List.length_filter_le
def lY:=@Nat.le_add_right
def lZ:=@of_decide_eq_false
def l3:=@Nat.mul_le_mul_left
def l6:=@Nat.one_le_pow
def l7:=@Nat.add_assoc
def l8:=@PySem.Paired.length
def l9:=@PyProof.Rows.callWith_type1
def me:=@List.any_cons
def mf:=@List.reverse_cons
def mh:=@List.replicate_succ
def mi:=@List.map_congr_left
def mj:=@decide_eq_decide
def ml:=@Int.eq_ofNat_of_zero_le
def mn:=@Nat.le_of_succ_le
def mo:=@PySem.wpAny_seqItems
def mq:=@Bool.true_or
def mr:=@PySem.tupleKind_room_in1
def mv:=@PySem.wpAny_attempt
def mw:=@PySem.wpAny_setField
def my:=@List.filter_append
def mz:=@PySem.F.plain_extend_loop
def mB:=@List.mem_iff_getElem?
def mC:=@getElem?_pos
def mD:=@Nat.pow_succ
def mE:=@List.getElem?_take_of_lt
def mF:=@List.mem_reverse
def mG:=@Bool.or_eq_true
def mH:=@Nat.min_eq_left
def mI:=@List.take_of_length_le
def mJ:=@PySem.wpAny_specialOf
def mK:=@List.getElem?_reverse
def mL:=@List.cons_append
def mM:=@List.flatten_append
def mN:=@List.pairwise_iff_getElem
def mO:=@List.getElem?_drop
def mP:=@PySem.typeLookup_type
def mQ:=@PySem.builtinLookup_eq_fast
def mR:=@PySem.wpAny_askSetting
def mS:=@PySem.Heap.size_update
def mT:=@List.eq_nil_of_length_eq_zero
def mU:=@List.getElem_zip
def mV:=@List.map_drop
def mW:=@PySem.Str.length_append
def mX:=@List.filterMap_cons
def mY:=@PySem.wpAny_pyIter_list
def mZ:=@PySem.W.callWith_K
def m5:=@Option.isSome_iff_exists
def m6:=@Nat.min_le_right
def m7:=@List.length_dropLast
def m9:=@PyProof.Rows.F.entry_set_update_loop
def na:=@decide_eq_false_iff_not
def ng:=@decide_eq_true_eq
def nh:=@Option.map_some
def ni:=@List.getElem_take
def nj:=@Array.getElem?_eq_none
def nk:=@List.countP_cons
def nr:=@Array.toList_push
def nt:=@PySem.Obj.isFreed_of_fields
def nv:=@Nat.pos_of_ne_zero
def nz:=@PySem.F.slot_zip_next
def nB:=@Array.mem_of_getElem?
def nC:=@List.mem_of_mem_take
def nE:=@Nat.pow_le_pow_right
def nF:=@List.getElem?_set_self
def nG:=@List.getElem?_set_ne
def nH:=@PySem.W.methodCall_KW
def nI:=@PyProof.Rows.slot_tuple_getitem
def nJ:=@Array.getElem?_eq_getElem
def nM:=@List.dropLast_concat_getLast
def nN:=@PySem.F.slot_dict_get
def nO:=@List.length_pos_of_mem
def nQ:=@List.take_append_drop
def nU:=@Nat.mul_le_mul_right
def nY:=@PyProof.Rows.Boot.«list»
def nZ:=@PyProof.Rows.Boot.«isinstance»
def og:=@PyProof.Rows.Boot.«all»
def oh:=@PyProof.Rows.Boot.«len»
def oi:=@PyProof.Rows.Boot.«tuple»
def oj:=@PyProof.Rows.Boot.«set»
def om:=@PyProof.Rows.Boot.«sorted»
def on:=@PyProof.Rows.Boot.«range»
set_option Elab.async false
set_option linter.all false
set_option maxRecDepth 100000
variable{K:_root_.PySem.W.Frag}{mg mA:PySem.Str->Option PySem.Value}{P prog q:PySem.Program}{w:PySem.World}{base h h' h1:PySem.Heap}{n i t' j ep slot:Nat}{Q E QV Q₁:PySem.Value->PySem.Shared->Prop}{cQ pins':List (PySem.Addr×PySem.Obj)}{s s':PySem.Shared}{α β κ:Type}{pos pos' pos2 p2:PySem.Pos}{A:PySem.Around}{f:Nat->Bool}{scope sc:PySem.Scope}{D C p sl S I dx i1 i2 l1 l2 fa D_LENGTHS:PySem.Addr}{u acc it vl:PySem.Value}{env:PySem.Env}{ifs:List PySem.Expr}{e tg iter elt target:PySem.Expr}{R:PySem.Result->PySem.Shared->Prop}{us its vals:List PySem.Value}{XP:(PySem.Str->Option PySem.Value)->PySem.Heap->Prop}{ix:List (Option Nat)}{es:Array (Int×PySem.Value)}{L:List Bool}{fp ch:List PySem.Addr}{fd:PySem.FuncData}{items ys:Array PySem.Value}{ring ns way rs:List Int}{use:Option (PySem.Value->PySem.Sem Unit)}{N loose Nc:List PySem.Str}{is:List Nat}{YP:PySem.World->PySem.Heap->Prop}{op:PySem.CmpOp}{pl:PySem.Sem Bool}{kw:List (PySem.Str×PySem.Value)}{qual z:PySem.Str}{cl:List (PySem.Str×PySem.Addr)}{M:PySem.Model}{l:_root_.PySem.W.OpenLaw}{SI:PySem.Heap->List PySem.Value->Prop}{osl:Array (Option PySem.Value)}{T:String}{body:List PySem.Stmt}{Pm:PySem.Params}{B:Prop}{g':Array PySem.GenState}{outer:List PySem.Env}{sls:Nat->Nat}{run:Nat->Int}{tk:PySem.Tok}{es_LENGTHS es_LINES:Array PySem.DictEntry}{sg:List (PySem.Addr×List PySem.Str)}{wy:List (PySem.Addr×List Int)}{bd:PySem.Addr->PySem.Env->PySem.Sem Unit}{Q':α->PySem.Shared->Prop}{d':PySem.Drawn}{an od:Option PySem.Addr}{ob oa:PySem.Obj}{params:PySem.Arguments}{lo hi:Option Int}{args:List _root_.PySem.W.WData}{place:Array Nat}
namespace L2
open PySem PySem.Spec PyProof.Rows
abbrev Key:=Sum Int Str
def UG:Key->Value->Bool
 |.inl k,v=>Value.isInt k v
 |.inr x,v=>Value.isStrOf x v
def ZcJ(w:World):Key->Int
 |.inl k=>hashInt k
 |.inr x=>hashStr w x
def Yt:∀{k:Key}{v:Value},UG k v=true->(∃i t,k=Sum.inl i/\v=Value.int i t)\/(∃x t,k=Sum.inr x/\v=Value.str x t)
 |.inl i,v,h=>by
  obtain⟨t,e⟩:=Value.isInt_shape (k:=i) (v:=v) h;exact .inl ⟨i,t,rfl,e⟩
 |.inr x,v,h=>by
  obtain⟨t,e⟩:=Value.isStrOf_shape (x:=x) (v:=v) h;exact .inr ⟨x,t,rfl,e⟩
def V4(i:Int)(t:Tok):UG (.inl i) (.int i t)=true:=by simp[UG,Value.isInt]
def vL(x:Str)(t:Tok):UG (.inr x) (.str x t)=true:=by simp[UG,Value.isStrOf]
def ZeW(a b:Int):decide ((Sum.inl a:Key)=Sum.inl b)=(a==b):=by
 by_cases e:a=b
 ·subst e;simp
 ·have h:¬(Sum.inl a:Key)=Sum.inl b:=fun q=>e (Sum.inl.inj q);rw[gJ h];exact(iW.mpr e).symm
def ZeD(a b:Str):decide ((Sum.inr a:Key)=Sum.inr b)=decide (a=b):=by
 by_cases e:a=b
 ·subst e;simp
 ·have h:¬(Sum.inr a:Key)=Sum.inr b:=fun q=>e (Sum.inr.inj q);rw[gJ h,gJ e]
def ZfB(a:Int)(b:Str):decide ((Sum.inl a:Key)=Sum.inr b)=false:=gJ (fun q=>nomatch q)
def Ze6(a:Str)(b:Int):decide ((Sum.inr a:Key)=Sum.inl b)=false:=gJ (fun q=>nomatch q)
def ZC(prog:Program)(w:World):PySem.KeyKind prog w Key where
 is:=UG
 hash:=ZcJ w
 inj:=fun v a b ha hb=>by
  rcases Yt ha with⟨i,t,rfl,rfl⟩|⟨x,t,rfl,rfl⟩
  ·rcases Yt hb with⟨j,u,rfl,e⟩|⟨y,u,rfl,e⟩
   ·injection e with e1 _;rw[e1]
   ·exact nomatch e
  ·rcases Yt hb with⟨j,u,rfl,e⟩|⟨y,u,rfl,e⟩
   ·exact nomatch e
   ·injection e with e1 _;rw[e1]
 byValue:=fun k v h=>by
  rcases Yt h with⟨i,t,rfl,rfl⟩|⟨x,t,rfl,rfl⟩<;>rfl
 pyHash:=fun hv h=>by
  rcases Yt hv with⟨i,t,rfl,rfl⟩|⟨x,t,rfl,rfl⟩
  ·exact wpAny_pyHash_int h
  ·exact wpAny_pyHash_str h
 eqBool:=fun hu hv h=>by
  rcases Yt hu with⟨i,t,rfl,rfl⟩|⟨x,t,rfl,rfl⟩
  ·rcases Yt hv with⟨j,u,rfl,rfl⟩|⟨y,u,rfl,rfl⟩
   ·rw[ZeW] at h;exact wpAny_eqBool_int h
   ·rw[ZfB] at h;exact SeqAt.EqAt.int_str i t y u _ _ _ _ h
  ·rcases Yt hv with⟨j,u,rfl,rfl⟩|⟨y,u,rfl,rfl⟩
   ·rw[Ze6] at h;exact SeqAt.EqAt.str_int x t j u _ _ _ _ h
   ·rw[ZeD] at h;exact wpAny_eqBool_str h
 «strs» := fun k x t v h=>by
  rcases Yt h with⟨i,u,rfl,e⟩|⟨y,u,rfl,e⟩
  ·exact nomatch e
  ·injection e with e1 _;subst e1;cases v<;>rfl
def Jw(prog:Program)(w:World)(i:Int)(t:Tok):(ZC prog w).is (.inl i) (.int i t)=true:=V4 i t
def J8(prog:Program)(w:World)(x:Str)(t:Tok):(ZC prog w).is (.inr x) (.str x t)=true:=vL x t
end L2
variable{xs:List (List L2.Key×PySem.Addr×PySem.Value)}{rks:List (List L2.Key)}
namespace L2
open PySem PySem.Spec PyProof.Rows
inductive V where
 |non|bl (b:Bool)|int (i:Int)|str (x:Str)|byt (b:Array UInt8)|flt (b:UInt64)|ref (a:Addr)|ty (n:String)
 deriving DecidableEq
def ZZ:V->Value->Prop
 |.non,u=>u=Value.none
 |.bl b,u=>u=Value.bool b
 |.int i,u=>∃t,u=Value.int i t
 |.str x,u=>∃t,u=Value.str x t
 |.byt b,u=>∃t,u=Value.bytes b t
 |.flt b,u=>∃t,u=Value.float b t
 |.ref a,u=>u=Value.ref a
 |.ty n,u=>u=Value.type n
abbrev ZM:List V->List Value->Prop:=Paired ZZ
def ZM.length{xs:List V}{us:List Value}(r:ZM xs us):xs.length=us.length:=l8 r
def ZM.get:∀{xs:List V}{us:List Value}{i:Nat}{x:V},ZM xs us->xs[i]?=some x->∃u,us[i]?=some u/\ZZ x u
 |_,_,_,_,.nil,e=>by simp at e
 |_,_,0,_,.cons r _,e=>by simp at e;subst e;exact⟨_,rfl,r⟩
 |_,_,i+1,x,.cons _ t,e=>by
  obtain⟨u,h1,h2⟩:=ZM.get (i:=i) (x:=x) t (by simpa using e);exact⟨u,by simpa using h1,h2⟩
def ZM.set{x:V}{u:Value}(r:ZZ x u):∀{xs:List V}{us:List Value} (i:Nat),ZM xs us->ZM (xs.set i x) (us.set i u)
 |_,_,_,.nil=>.nil
 |_,_,0,.cons _ t=>.cons r t
 |_,_,i+1,.cons q t=>.cons q (ZM.set r i t)
def ZM.append:∀{xs ys:List V}{us ws:List Value},ZM xs us->ZM ys ws->ZM (xs++ys) (us++ws)
 |_,_,_,_,.nil,s=>s
 |_,_,_,_,.cons r t,s=>.cons r (ZM.append t s)
def ZM.take:∀{xs:List V}{us:List Value} (n:Nat),ZM xs us->ZM (xs.take n) (us.take n)
 |_,_,0,_=>.nil
 |_,_,_+1,.nil=>.nil
 |_,_,n+1,.cons r t=>.cons r (ZM.take n t)
def ZM.drop:∀{xs:List V}{us:List Value} (n:Nat),ZM xs us->ZM (xs.drop n) (us.drop n)
 |_,_,0,r=>r
 |_,_,_+1,.nil=>.nil
 |_,_,n+1,.cons _ t=>ZM.drop n t
def VV:Option V->Option Value->Prop
 |some v,some u=>ZZ v u
 |none,none=>True
 |_,_=>False
def KV:List (κ×V)->List (κ×Value)->Prop:=Paired fun(p:κ×V) (q:κ×Value)=>p.1=q.1/\ZZ p.2 q.2
def kV:Key->V
 |.inl i=>.int i
 |.inr x=>.str x
inductive HO where
 |lst (xs:List V)
 |tup (xs:List V)
 |dK (kvs:List (Key×V))|dT (kvs:List (List Key×V))
 |set (S:Int->Bool) (n:Nat)
 |ins (C dx:Addr) (fs:List (Str×V))
 |own (x:Addr)
 |xd (fs:List (Str×V))
 |met (f x:Addr)
 |rng (lo hi:Int)
 |frz (o:Obj) (u:HO)
 |tbl (ps:Array Value)
 |ext (φ:Heap->Prop)
abbrev Hp:=Addr->Option HO
def upd(H:Hp)(a:Addr)(o:HO):Hp:=fun b=>if b=a then some o else H b
def Zd{H:Hp}{a:Addr}{o:HO}:upd H a o a=some o:=by unfold upd;rw[if_pos rfl]
def Zx{H:Hp}{a b:Addr}{o:HO}(h:b≠a):upd H a o b=H b:=by unfold upd;rw[if_neg h]
def VE{H:Hp}{a b:Addr}{o u:HO}(h:H a=some o)(h':H b=some u)(d:o≠u):a≠b:=by
 intro e;subst e;rw[h] at h';exact d (fO h')
def ZW{H:Hp}{a b:Addr}{o:HO}(h:H a=some o)(h':H b=none):a≠b:=by
 intro e;subst e;rw[h] at h';cases h'
section
variable(P:Program)(w:World)
def YI(H:Hp)(h:Heap)(a:Addr):HO->Prop
 |.lst xs=>xs.length<=sizeLine/\∃(its:List Value) (n:Nat),ZM xs its/\h.get? a=some { cls:=.type "list",data:=.seq its.toArray n }
 |.tup xs=>xs.length<=sizeLine/\∃its:List Value,ZM xs its/\IsTup h a its.toArray
 |.dK kvs=>kvs.length<=sizeLine/\(a==sysModules)=false/\∃vs,KV kvs vs/\h.DictOf (ZC P w) a vs
 |.dT kvs=>kvs.length<=sizeLine/\(a==sysModules)=false/\∃xs:List (List Key×Addr×Value),
   Paired (fun(p:List Key×V) (q:List Key×Addr×Value)=>p.1=q.1/\H q.2.1=some (.tup (p.1.map kV))/\ZZ p.2 q.2.2) kvs xs /\
   ∃o es ep,h.get? a=some o/\o.ExactDict/\o.data=.dict es ep/\es.toList=xs.map (entryOfKey (tupleKind (ZC P w)))/\(xs.map (·.1)).Nodup
 |.set S n=>h.SetOf (intKind P w) a S n
 |.ins C dx fs=>H dx=some (.own a)/\fs.length<=1000/\dx≠a/\h.get? a=some (W.instObj C dx) /\
   ∃mA,h.Ns1 dx mA/\(∀f,VV (fs.lookup f) (mA f))/\PySem.Within mA (fs.map (·.1))
 |.own _=>∃o,h.get? a=some o
 |.xd fs=>∃mA,h.Ns1 a mA/\∀f,VV (fs.lookup f) (mA f)
 |.rng lo hi=>∃t u v,h.get? a=some { cls:=.type "range",data:=.fields #[.int lo t,.int hi u,.int 1 v] }
 |.frz o u=>h.get? a=some o/\YI H h a u
 |.tbl ps=>h.get? a=some { cls:=.none,data:=.fields ps }
 |.met f x=>h.get? a=some (W.methodObj (.ref f) (.ref x))
 |.ext φ=>φ h/\(∃o,h.get? a=some o)/\∀h1 h2:Heap,φ h1->(∀o,h1.get? a=some o->h2.get? a=some o)->φ h2
def HOk(H:Hp)(h:Heap):Prop:=∀a o,H a=some o->YI P w H h a o
end
section
variable{P:Program}{w:World}{H H':Hp}{h h':Heap}{a:Addr}{o:HO}
theorem YI.lt(x:YI P w H h a o):a<h.objs.size:=by
 cases o with
 |lst xs=>obtain⟨_,_,_,_,e⟩:=x;exact fC e
 |tup xs=>obtain⟨_,_,_,p⟩:=x;exact p.lt
 |dK kvs=>obtain⟨_,_,_,_,o,_,_,e,_⟩:=x;exact fC e
 |dT kvs=>obtain⟨_,_,_,_,o,_,_,e,_⟩:=x;exact fC e
 |set S n=>obtain⟨o,_,_,_,e,_⟩:=x;exact fC e
 |ins C dx fs=>obtain⟨_,_,_,e,_⟩:=x;exact fC e
 |own y=>obtain⟨_,e⟩:=x;exact fC e
 |xd fs=>obtain⟨_,⟨_,_,_,e,_⟩,_⟩:=x;exact fC e
 |rng lo hi=>obtain⟨_,_,_,e⟩:=x;exact fC e
 |frz ob u=>obtain⟨e,_⟩:=x;exact fC e
 |tbl ps=>exact fC (show h.get? a=some _ from x)
 |met f y=>exact fC (show h.get? a=some _ from x)
 |ext φ=>obtain⟨_,⟨_,e⟩,_⟩:=x;exact fC e
theorem Paired.mapP{α β:Type}{F G:α->β->Prop}:∀{l₁:List α}{l₂:List β},Paired F l₁ l₂->(∀a b,F a b->G a b)->Paired G l₁ l₂
 |_,_,.nil,_=>.nil
 |_,_,.cons r t,f=>.cons (f _ _ r) (Paired.mapP t f)
theorem YI.stay(x:YI P w H h a o)(k:∀b u,(b=a\/H b=some (.own a))->h.get? b=some u->h'.get? b=some u)
  (ho:∀b,H b=some (.own a)->H' b=some (.own a)) (ht:∀b xs,H b=some (.tup xs)->H' b=some (.tup xs)):YI P w H' h' a o:=by
 induction o with
 |lst xs=>obtain⟨z,its,n,r,e⟩:=x;exact⟨z,its,n,r,k _ _ (.inl rfl) e⟩
 |tup xs=>obtain⟨z,its,r,ob,e,c⟩:=x;exact⟨z,its,r,ob,k _ _ (.inl rfl) e,c⟩
 |dK kvs=>obtain⟨z,y,vs,r,ob,es,ep,e,c⟩:=x;exact⟨z,y,vs,r,ob,es,ep,k _ _ (.inl rfl) e,c⟩
 |dT kvs=>
  obtain⟨z,y,xs,r,ob,es,ep,e,c⟩:=x;exact⟨z,y,xs,Paired.mapP r fun p q z=>⟨z.1,ht _ _ z.2.1,z.2.2⟩,ob,es,ep,k _ _ (.inl rfl) e,c⟩
 |set S n=>obtain⟨ob,es,ep,t,e,c⟩:=x;exact⟨ob,es,ep,t,k _ _ (.inl rfl) e,c⟩
 |ins C dx fs=>
  obtain⟨d,z,ne,e,mA,⟨od,es,ep,e2,c⟩,r⟩:=x;exact⟨ho _ d,z,ne,k _ _ (.inl rfl) e,mA,⟨od,es,ep,k _ _ (.inr d) e2,c⟩,r⟩
 |own y=>obtain⟨ob,e⟩:=x;exact⟨ob,k _ _ (.inl rfl) e⟩
 |xd fs=>obtain⟨mA,⟨od,es,ep,e,c⟩,r⟩:=x;exact⟨mA,⟨od,es,ep,k _ _ (.inl rfl) e,c⟩,r⟩
 |rng lo hi=>obtain⟨t,u,v,e⟩:=x;exact⟨t,u,v,k _ _ (.inl rfl) e⟩
 |frz ob u ih=>obtain⟨e,q⟩:=x;exact⟨k _ _ (.inl rfl) e,ih q⟩
 |tbl ps=>
  have e:h.get? a=some { cls:=.none,data:=.fields ps }:=x
  show h'.get? a=some { cls:=.none,data:=.fields ps }
  exact k a _ (.inl rfl) e
 |met f y=>
  have e:h.get? a=some (W.methodObj (.ref f) (.ref y)):=x
  show h'.get? a=some (W.methodObj (.ref f) (.ref y))
  exact k a _ (.inl rfl) e
 |ext φ=>obtain⟨p,⟨o,e⟩,st⟩:=x;exact⟨st _ _ p fun o q=>k _ _ (.inl rfl) q,⟨o,k _ _ (.inl rfl) e⟩,st⟩
theorem HOk.lt(x:HOk P w H h)(e:H a=some o):a<h.objs.size:=(x a o e).lt
theorem HOk.fresh(x:HOk P w H h)(e:h.objs.size<=a):H a=none:=by
 cases q:H a with
 |none=>rfl
 |some u=>exact absurd (gj (x.lt q) e) (ik _)
theorem HOk.kept(x:HOk P w H h)(k:∀b u,h.get? b=some u->h'.get? b=some u):HOk P w H h':=fun a o e=>
 (x a o e).stay (fun b u _ q=>k b u q) (fun _ q=>q) fun _ _ q=>q
theorem HOk.laid(x:HOk P w H h)(k:∀b u,h.get? b=some u->h'.get? b=some u)(hp:h.objs.size<=a)(new:YI P w (upd H a o) h' a o):HOk P w (upd H a o) h':=fun b u e=>by
 have hn:=x.fresh hp
 by_cases hb:b=a
 ·subst hb;rw[Zd] at e;cases e;exact new
 ·rw[Zx hb] at e;exact(x b u e).stay (fun c v _ q=>k c v q) (fun c q=>by rw[Zx (ZW q hn)];exact q) fun c xs q=>by rw[Zx (ZW q hn)];exact q
end
def Rd(H:Hp)(a:Addr)(u:HO):Prop:=H a=some u\/∃o,H a=some (.frz o u)
def Rd.ok{H:Hp}{a:Addr}{u:HO}(r:Rd H a u)(x:HOk P w H h):YI P w H h a u:=by
 rcases r with r|⟨o,r⟩
 ·exact x a u r
 ·obtain⟨_,q⟩:=x a _ r;exact q
def Mut:Option HO->Prop
 |some (.lst _)=>True
 |some (.dK _)=>True
 |some (.dT _)=>True
 |some (.set _ _)=>True
 |some (.ins _ _ _)=>True
 |some (.ext _)=>True
 |_=>False
section
variable{H:Hp}{x e:Addr}{o':HO}
theorem HOk.write(ok:HOk P w H h)(mu:Mut (H x))(he:e=x\/H e=some (.own x))(k:∀b u,b≠e->h.get? b=some u->h'.get? b=some u)(heo:∃u,h'.get? e=some u)
  (new:YI P w (upd H x o') h' x o'):HOk P w (upd H x o') h':=fun b u q=>by
 have nown:∀c y,H c=some (.own y)->c≠x:=fun c y r z=>by subst z;rw[r] at mu;exact mu
 have ntup:∀c xs,H c=some (.tup xs)->c≠x:=fun c xs r z=>by subst z;rw[r] at mu;exact mu
 by_cases hb:b=x
 ·subst hb;rw[Zd] at q;cases q;exact new
 ·rw[Zx hb] at q
  by_cases hbe:b=e
  ·have q':H b=some (.own x):=by
    rcases he with z|z
    ·exact absurd (hbe.trans z) hb
    ·rw[hbe];exact z
   rw[q] at q';cases q';obtain⟨v,hv⟩:=heo;exact⟨v,by rw[hbe];exact hv⟩
  ·refine(ok b u q).stay (fun c v hc r=>k c v ?_ r) (fun c r=>by rw[Zx (nown c b r)];exact r) fun c xs r=>by rw[Zx (ntup c xs r)];exact r
   rcases hc with rfl|hc
   ·exact hbe
   ·rintro rfl;rcases he with z|z
    ·exact nown c b hc z
    ·rw[hc] at z;cases z;exact hb rfl
end
structure Un(fs ex:List Addr)(H H':Hp)(h h':Heap):Prop where
 keep:∀b o,h.get? b=some o->H b=none->b∉fs->b∉ex->h'.get? b=some o
 slot:∀b o,h.get? b=some o->H b=none->b∈fs->b∉ex->∃sl,h'.get? b=some { o with slots:=sl }
 free:∀b o,h.get? b=some o->H b=none->b∉ex->H' b=none
 there:∀b o,h.get? b=some o->b∉ex->∃o',h'.get? b=some o'
 tups:∀b xs,H b=some (.tup xs)->H' b=some (.tup xs)
 frzs:∀b o u,H b=some (.frz o u)->H' b=some (.frz o u)
 tbls:∀b ps,H b=some (.tbl ps)->∃more,H' b=some (.tbl (ps++more))
section
variable{fs fs' ex ex':List Addr}{H H1 H2:Hp}{h2:Heap}{a x e:Addr}{o:HO}
theorem Un.any(u:Un fs ex H H1 h h1){b:Addr}(q:h.get? b=some ob)(n:H b=none)(hx:b∉ex):∃sl,h1.get? b=some { ob with slots:=sl }:=by
 by_cases hb:b∈fs
 ·exact u.slot b ob q n hb hx
 ·exact⟨ob.slots,u.keep b ob q n hb hx⟩
theorem Un.kept(k:∀b u,h.get? b=some u->h'.get? b=some u):Un fs ex H H h h':=
 ⟨fun b ob q _ _ _=>k b ob q,fun b ob q _ _ _=>⟨ob.slots,k b ob q⟩,fun _ _ _ n _=>n,fun b ob q _=>⟨ob,k b ob q⟩,fun _ _ q=>q,fun _ _ _ q=>q,fun _ ps q=>⟨#[],by rw[q];simp⟩⟩
theorem Un.refl:Un fs ex H H h h:=Un.kept fun _ _ q=>q
theorem Un.laid(k:∀b u,h.get? b=some u->h'.get? b=some u)(hp:h.objs.size<=a)(hn:H a=none):Un fs ex H (upd H a o) h h' where
 keep:=fun b u q _ _ _=>k b u q
 slot:=fun b u q _ _ _=>⟨u.slots,k b u q⟩
 free:=fun b u q n _=>by rw[Zx (fE (gj (fC q) hp))];exact n
 there:=fun b u q _=>⟨u,k b u q⟩
 tups:=fun b xs q=>by rw[Zx (ZW q hn)];exact q
 frzs:=fun b u xs q=>by rw[Zx (ZW q hn)];exact q
 tbls:=fun b ps q=>⟨#[],by rw[Zx (ZW q hn),q];simp⟩
theorem Un.write(mu:Mut (H x))(he:e=x\/H e=some (.own x))(k:∀b u,b≠e->h.get? b=some u->h'.get? b=some u)(heo:∃u,h'.get? e=some u):Un fs ex H (upd H x o) h h':=by
 have hx:∀b,H b=none->b≠x:=fun b n z=>by subst z;rw[n] at mu;exact mu
 have hb:∀b,H b=none->b≠e:=fun b n z=>by
  subst z;rcases he with r|r
  ·exact hx b n r
  ·rw[n] at r;cases r
 have hm:∀b u,H b=some u->¬Mut (some u)->b≠x:=fun b u q nm z=>by subst z;rw[q] at mu;exact nm mu
 refine⟨fun b u q n _ _=>k b u (hb b n) q,fun b u q n _ _=>⟨u.slots,k b u (hb b n) q⟩,fun b u q n _=>by rw[Zx (hx b n)];exact n,fun b u q _=>?_,
  fun b xs q=>by rw[Zx (hm b _ q fun z=>z)];exact q,fun b u xs q=>by rw[Zx (hm b _ q fun z=>z)];exact q,fun b ps q=>⟨#[],by rw[Zx (hm b _ q fun z=>z),q];simp⟩⟩
 by_cases hbe:b=e
 ·subst hbe;exact heo
 ·exact⟨u,k b u hbe q⟩
end
def trk(h:Heap)(H:Hp):List Addr:=(List.range h.objs.size).filter fun a=>(H a).isSome
def kR(h:Heap)(H:Hp):Heap:=W.hideAll h (trk h H)
def Zad(h:Heap)(H:Hp):(kR h H).objs.size=h.objs.size:=W.hideAll_size _ _
def ZcV{H:Hp}{b:Addr}{o:Obj}(e:h.get? b=some o)(n:H b=none):(kR h H).get? b=some o:=
 W.hideAll_get _ e fun hm=>by
  have q:(H b).isSome=true:=(iX.mp hm).2;rw[n] at q;simp at q
def Zdl{H:Hp}{b:Addr}{o:Obj}(e:(kR h H).get? b=some o):h.get? b=some o/\H b=none:=by
 have e':h.get? b=some o:=W.of_hideAll (trk h H) e;refine⟨e',?_⟩;cases q:H b with
 |none=>rfl
 |some x=>
  have hm:b∈trk h H:=iX.mpr ⟨lE.mpr (fC e'),by simp[q]⟩;have z:(kR h H).get? b=none:=W.hideAll_none (trk h H) hm;rw[z] at e;cases e
def Zd0(g h:Heap)(L:Addr):List (Addr×Obj):=(List.range h.objs.size).filterMap fun a=>if a=L\/(g.get? a).isSome=true then none else(h.get? a).map fun o=>(a,o)
def X3(g h:Heap)(L d:Addr):List (Addr×Obj):=(Zd0 g h L).filter fun p=>decide (p.1≠d)
end L2
variable{H H' H0 G G' H1 H2:L2.Hp}{v y v1 v2 v3:L2.V}{o:L2.HO}{vs:List L2.V}{kvs:List (List L2.Key×L2.V)}{r:L2.Hp->L2.V->α->Prop}{kv:List (L2.Key×L2.V)}
namespace L2
open PySem PySem.Spec PyProof.Rows
structure Mod(K:W.Frag)(mg:Str->Option Value)(base:Heap):Prop where
 kin:K.In base
 glob:base.Ns mainGlobals mg
 blt:∃mb,base.Ns builtinsNs mb/\∀x:Str,x ≠ "__name__" -> mb x=bootBuiltins x
 nolimit:base.NoLimit
structure Cx where
 prog:Program
 w:World
 K:W.Frag
 mg:Str->Option Value
 base:Heap
 A:Around
 N:List Str
 s₀:Shared
 H₀:Hp
 env:Env
 outer:List Env
 stack:List Env
 ex:List Addr
 fn:Str->Bool
 calm:Bool
 pn:List (Addr×Obj)
 xe:Value->Shared->Prop
def frs(l:List Env):List Addr:=l.filterMap (·.frame)
abbrev Cx.fs(X:Cx):List Addr:=frs X.outer
def Vis(sc:Scope)(x:Str):Prop:=sc.names.lookup x=some .local\/sc.names.lookup x=some .cell\/sc.names.lookup x=some .free
def Loc(sc:Scope)(x:Str):Prop:=sc.names.lookup x=some .local\/sc.names.lookup x=some .cell
def Look(env:Env)(h:Heap)(m:Str->Option Value)(x:Str)(u:Value):Prop:=
 (env.kindOf x=some .local/\m x=some u)\/((env.kindOf x=some .cell\/env.kindOf x=some .free)/\∃c,env.cells.lookup x=some c/\h.IsCell c (some u))
structure Cx.Ok(X:Cx):Prop where
 mod:Mod X.K X.mg X.base
 kind:X.env.scope.kind=.function
 glob:X.env.globals=mainGlobals
 blt:X.env.builtins=builtinsNs
 above:X.s₀.heap.objs.size<=X.env.locals
 inj:∀x y c,X.env.cells.lookup x=some c->X.env.cells.lookup y=some c->x=y
 has:∀x,(X.env.kindOf x=some .cell\/X.env.kindOf x=some .free)->∃c,X.env.cells.lookup x=some c
 cab:∀x c,X.fn x=true->X.env.cells.lookup x=some c->X.s₀.heap.objs.size<=c
 hd:X.calm=true->X.A.handled=none
 frames:X.A.frames=some X.stack
 stk:X.stack=X.outer\/(X.stack=X.env::X.outer/\X.env.frame=some X.env.locals)
 exf:∀b∈X.ex,b≠X.env.locals/\∀x c,X.env.cells.lookup x=some c->c≠b
 bs:∀b o,X.base.get? b=some o->X.s₀.heap.get? b=some o/\X.H₀ b=none
 bsz:X.base.objs.size<=X.s₀.heap.objs.size
 noex:∀b o,X.base.get? b=some o->b∉X.ex
 exfs:∀b∈X.ex,b∉X.fs
 funs:X.s₀.heap.FunFrames X.base X.outer
 frf:∀b∈X.fs,X.H₀ b=none
structure Inv(X:Cx)(cQ:List (Addr×Obj))(U:List (Option V))(H:Hp)(s:Shared):Prop where
 ok:X.Ok
 os:s.os=X.s₀.os
 bare:AllBare s.gens
 base:Un X.fs X.ex X.H₀ H X.s₀.heap s.heap
 loc:∃m,s.heap.Ns X.env.locals m/\∀(i:Nat) (x:Str) (v:V),X.N[i]?=some x->U[i]?=some (some v)->Vis X.env.scope x->∃u,ZZ v u/\Look X.env s.heap m x u
 cell:∀x c,X.env.cells.lookup x=some c->∃v,s.heap.IsCell c v
 free:H X.env.locals=none
 freeC:∀x c,X.env.cells.lookup x=some c->H c=none
 pin:∀p∈X.pn++cQ,s.heap.get? p.1=some p.2/\H p.1=none/\p.1≠X.env.locals/\p.1∉X.fs/\∀v,p.2.data≠.cell v
 hok:HOk X.prog X.w H s.heap
 len:U.length=X.N.length
section
variable{X:Cx}{U:List (Option V)}
theorem Cx.Ok.nofr(ok:X.Ok){b:Addr}{o:Obj}(e:X.base.get? b=some o):b∉X.fs:=fun hb=>by
 have:=(ok.funs.mem hb).1;rw[e] at this;cases this
theorem Inv.bs(I:Inv X cQ U H s):∀b o,X.base.get? b=some o->s.heap.get? b=some o/\H b=none:=fun b o e=>
 ⟨I.base.keep b o (I.ok.bs b o e).1 (I.ok.bs b o e).2 (I.ok.nofr e) (I.ok.noex b o e),I.base.free b o (I.ok.bs b o e).1 (I.ok.bs b o e).2 (I.ok.noex b o e)⟩
theorem Inv.bk(I:Inv X cQ U H s):∀b o,X.base.get? b=some o->s.heap.get? b=some o:=fun b o e=>(I.bs b o e).1
theorem Inv.mod(I:Inv X cQ U H s):Mod X.K X.mg X.base:=I.ok.mod
theorem Inv.kIn(I:Inv X cQ U H s):X.K.In s.heap:=I.ok.mod.kin.keeps I.bk
theorem Inv.fr(I:Inv X cQ U H s):∃m,Fr X.base X.env.locals s.heap m:=
 let ⟨m,hn,_⟩:=I.loc
 ⟨m,hn,I.bk,fK I.ok.bsz I.ok.above⟩
theorem Inv.lt(I:Inv X cQ U H s):X.env.locals<s.heap.objs.size:=let ⟨_,hn,_⟩:=I.loc;hn.lt
theorem Inv.sz(I:Inv X cQ U H s):X.s₀.heap.objs.size<=s.heap.objs.size:=fK I.ok.above (ib I.lt)
theorem Inv.nofs(I:Inv X cQ U H s){a:Addr}(h:s.heap.objs.size<=a):a∉X.fs:=fun hb=>by
 obtain⟨_,o,ho,_⟩:=I.ok.funs.mem hb;exact absurd (gj (fC ho) (fK I.sz h)) (ik _)
theorem Inv.cne(I:Inv X cQ U H s):∀x c,X.env.cells.lookup x=some c->c≠X.env.locals:=fun x c e z=>by
 obtain⟨v,o,ho,hd⟩:=I.cell x c e;obtain⟨m,⟨o',es,ep,ho',hd',_⟩,_⟩:=I.loc;rw[z,ho'] at ho;cases ho;rw[hd'] at hd;cases hd
theorem Inv.funs(I:Inv X cQ U H s):s.heap.FunFrames X.base X.outer:=by
 have all:∀(l:List Env),(∀b∈frs l,b∈X.fs)->X.s₀.heap.FunFrames X.base l->s.heap.FunFrames X.base l:=by
  intro l
  induction l with
  |nil=>intro _ _;trivial
  |cons env r ih=>
   intro hs hl;obtain⟨hk,⟨L,o,hf,hn,ho,hd⟩,hr⟩:=hl;have hL:L∈X.fs:=hs L (by unfold frs;rw[mX,hf];exact im);obtain⟨sl,e⟩:=I.base.slot L o ho (I.ok.frf L hL) hL fun z=>I.ok.exfs L z hL;exact⟨hk,⟨L,_,hf,hn,e,hd⟩,ih (fun b hb=>hs b (by unfold frs;rw[mX,hf];exact fS _ hb)) hr⟩
 exact all X.outer (fun _ hb=>hb) I.ok.funs
theorem Inv.stack(I:Inv X cQ U H s):s.heap.FunFrames X.base X.stack:=by
 rcases I.ok.stk with e|⟨e,hf⟩
 ·rw[e];exact I.funs
 ·rw[e];obtain⟨m,hn,_⟩:=I.loc;refine .cons (by rw[I.ok.kind];decide) hf hn ?_ I.funs;exact Heap.get?_none_of_le (fK I.ok.bsz I.ok.above)
theorem Inv.stkSub(I:Inv X cQ U H s):∀b∈frs X.stack,b∈X.env.locals::X.fs:=fun b hb=>by
 rcases I.ok.stk with e|⟨e,hf⟩
 ·rw[e] at hb;exact fS _ hb
 ·rw[e] at hb;unfold frs at hb;rw[mX,hf] at hb;exact hb
theorem Inv.stkFree(I:Inv X cQ U H s):∀b∈frs X.stack,H b=none:=fun b hb=>by
 rcases fF.mp (I.stkSub b hb) with e|hb
 ·rw[e];exact I.free
 ·obtain⟨_,o,ho,_⟩:=I.ok.funs.mem hb;exact I.base.free b o ho (I.ok.frf b hb) fun z=>I.ok.exfs b z hb
theorem Inv.step(I:Inv X cQ U H s)
  (hch:∀b∈ch,(b∈X.ex\/X.s₀.heap.objs.size<=b)/\b≠X.env.locals/\(∀x c,X.env.cells.lookup x=some c->c≠b)/\∀p∈X.pn++cQ,p.1≠b)
  (keep:∀b o,b≠X.env.locals->b∉X.fs->b∉ch->s.heap.get? b=some o->H b=none->h'.get? b=some o)
  (slot:∀b o,b≠X.env.locals->b∈X.fs->b∉ch->s.heap.get? b=some o->H b=none->∃sl,h'.get? b=some { o with slots:=sl }) (free:∀b o,b∉ch->s.heap.get? b=some o->H b=none->H' b=none)
  (there:∀b o,b∉ch->s.heap.get? b=some o->∃o',h'.get? b=some o')
  (tups:∀b xs,H b=some (.tup xs)->H' b=some (.tup xs)) (frzs:∀b o u,H b=some (.frz o u)->H' b=some (.frz o u)) (tbls:∀b ps,H b=some (.tbl ps)->∃more,H' b=some (.tbl (ps++more)))
  (ns:∀m,s.heap.Ns X.env.locals m->h'.Ns X.env.locals m) (hok:HOk X.prog X.w H' h') (hg:AllBare g') :
  Inv X cQ U H' { s with heap:=h',gens:=g',drawn:=d',toks:=t' }:=by
 have neL:∀b o,X.s₀.heap.get? b=some o->b≠X.env.locals:=fun b o e=>fE (gj (fC e) I.ok.above);have neC:∀b o,X.s₀.heap.get? b=some o->b∉X.ex->b∉ch:=fun b o e hx hb=>by
  rcases(hch b hb).1 with z|z
  ·exact hx z
  ·exact absurd (gj (fC e) z) (ik _)
 have cellK:∀x c,X.env.cells.lookup x=some c->∀v,s.heap.IsCell c v->h'.IsCell c v:=fun x c e v ⟨o,ho,hd⟩=>by
  have nch:c∉ch:=fun z=>(hch c z).2.2.1 x c e rfl
  by_cases hc:c∈X.fs
  ·obtain⟨sl,q⟩:=slot c o (I.cne x c e) hc nch ho (I.freeC x c e);exact⟨_,q,hd⟩
  ·exact⟨o,keep c o (I.cne x c e) hc nch ho (I.freeC x c e),hd⟩
 refine⟨I.ok,I.os,hg,⟨fun b o e n hb hx=>?_,fun b o e n hb hx=>?_,fun b o e n hx=>?_,fun b o e hx=>?_,fun b xs e=>tups b xs (I.base.tups b xs e),fun b o xs e=>frzs b o xs (I.base.frzs b o xs e),fun b ps e=>?_⟩,?_,fun x c e=>?_,?_,fun x c e=>?_,fun p hp=>?_,hok,I.len⟩
 ·exact keep b o (neL b o e) hb (neC b o e hx) (I.base.keep b o e n hb hx) (I.base.free b o e n hx)
 ·obtain⟨sl,e1⟩:=I.base.slot b o e n hb hx;obtain⟨sl',e2⟩:=slot b _ (neL b o e) hb (neC b o e hx) e1 (I.base.free b o e n hx);exact⟨sl',e2⟩
 ·obtain⟨o',e1⟩:=I.base.there b o e hx;exact free b o' (neC b o e hx) e1 (I.base.free b o e n hx)
 ·obtain⟨o',e1⟩:=I.base.there b o e hx;exact there b o' (neC b o e hx) e1
 ·obtain⟨m1,e1⟩:=I.base.tbls b ps e;obtain⟨m2,e2⟩:=tbls b _ e1;exact⟨m1++m2,by rw[e2,Array.append_assoc]⟩
 ·obtain⟨m,hn,hl⟩:=I.loc;refine⟨m,ns m hn,fun i x v e1 e2 e3=>?_⟩;obtain⟨u,r,l⟩:=hl i x v e1 e2 e3;refine⟨u,r,?_⟩;rcases l with l|⟨k,c,e,z⟩
  ·exact .inl l
  ·exact .inr ⟨k,c,e,cellK x c e _ z⟩
 ·obtain⟨v,z⟩:=I.cell x c e;exact⟨v,cellK x c e v z⟩
 ·obtain⟨m,⟨o,_,_,ho,_⟩,_⟩:=I.loc;exact free _ o (fun z=>(hch _ z).2.1 rfl) ho I.free
 ·obtain⟨v,o,ho,hd⟩:=I.cell x c e;exact free c o (fun z=>(hch c z).2.2.1 x c e rfl) ho (I.freeC x c e)
 ·obtain⟨e,n,ne,nf,d⟩:=I.pin p hp;have nch:p.1∉ch:=fun z=>(hch p.1 z).2.2.2 p hp rfl;exact⟨keep p.1 p.2 ne nf nch e n,free p.1 p.2 nch e n,ne,nf,d⟩
theorem Inv.un(I:Inv X cQ U H s)(u:Un X.fs [] H H' s.heap h')(hok:HOk X.prog X.w H' h'):Inv X cQ U H' { s with heap:=h',toks:=t' }:=by
 obtain⟨m,⟨o,es,ep,ho,r⟩,_⟩:=id I.loc;obtain⟨sl,hL⟩:=u.any ho I.free (by simp);exact I.step (g':=s.gens) (d':=s.drawn) (ch:=[]) (fun _ z=>nomatch z) (fun b o _ hb _ e n=>u.keep b o e n hb (by simp)) (fun b o _ hb _ e n=>u.slot b o e n hb (by simp)) (fun b o _ e n=>u.free b o e n (by simp)) (fun b o _ e=>u.there b o e (by simp)) u.tups u.frzs u.tbls (fun m' hm=>by
  obtain⟨o',es',ep',ho',r'⟩:=hm;rw[ho] at ho';cases ho';exact⟨_,es',ep',hL,r'⟩) hok I.bare
theorem Inv.call(I:Inv X cQ U H s)(u:Un (frs X.stack) ch H H' s.heap h')(hok:HOk X.prog X.w H' h')(hg:AllBare g')
  (hch:∀b∈ch,(b∈X.ex\/X.s₀.heap.objs.size<=b)/\b≠X.env.locals/\(∀x c,X.env.cells.lookup x=some c->c≠b)/\∀p∈X.pn++cQ,p.1≠b) :
  Inv X cQ U H' { s with heap:=h',gens:=g',drawn:=d',toks:=t' }:=by
 obtain⟨m,⟨o,es,ep,ho,r⟩,_⟩:=id I.loc;obtain⟨sl,hL⟩:=u.any ho I.free fun z=>(hch _ z).2.1 rfl;exact I.step (ch:=ch) hch (fun b o hL hb hc e n=>u.keep b o e n (fun z=>(fF.mp (I.stkSub b z)).elim hL hb) hc) (fun b o _ _ hc e n=>u.any e n hc) (fun b o hc e n=>u.free b o e n hc) (fun b o hc e=>u.there b o e hc) u.tups u.frzs u.tbls (fun m' hm=>by
  obtain⟨o',es',ep',ho',r'⟩:=hm;rw[ho] at ho';cases ho';exact⟨_,es',ep',hL,r'⟩) hok hg
theorem Inv.turned{it:Addr}(I:Inv X cQ U H s)(k:∀b o,b≠it->s.heap.get? b=some o->h'.get? b=some o)(hn:H it=none)(hL:it≠X.env.locals)
  (h1:it∈X.ex\/X.s₀.heap.objs.size<=it) (h2:∀x c,X.env.cells.lookup x=some c->c≠it) (h3:∀p∈X.pn++cQ,p.1≠it):Inv X cQ U H { s with heap:=h',toks:=t' }:=by
 have nit:∀b u,H b=some u->b≠it:=fun b u e z=>by rw[z,hn] at e;cases e
 refine I.step (g':=s.gens) (d':=s.drawn) (ch:=[it]) (fun b hb=>?_) (fun b o _ _ hc e _=>k b o (fun z=>hc (by simp[z])) e) (fun b o _ _ hc e _=>⟨o.slots,k b o (fun z=>hc (by simp[z])) e⟩) (fun _ _ _ _ n=>n)
  (fun b o hc e=>⟨o,k b o (fun z=>hc (by simp[z])) e⟩) (fun _ _ e=>e) (fun _ _ _ e=>e) (fun b ps e=>⟨#[],by rw[e];simp⟩) (fun m hm=>?_) (fun b u e=>?_) I.bare
 ·have e:b=it:=by simpa using hb
  subst e;exact⟨h1,hL,h2,h3⟩
 ·obtain⟨o,es,ep,ho,r⟩:=hm;exact⟨o,es,ep,k _ o (fJ hL) ho,r⟩
 ·refine(I.hok b u e).stay (fun c v hc q=>k c v ?_ q) (fun _ q=>q) fun _ _ q=>q;rcases hc with z|z
  ·rw[z];exact nit b u e
  ·exact nit c _ z
theorem Inv.tok(I:Inv X cQ U H s)(t:Nat):Inv X cQ U H { s with toks:=t }:=I.un (h':=s.heap) (t':=t) Un.refl I.hok
theorem Inv.kept{t':Nat}(I:Inv X cQ U H s)(k:∀b u,s.heap.get? b=some u->h'.get? b=some u):Inv X cQ U H { s with heap:=h',toks:=t' }:=I.un (Un.kept k) (I.hok.kept k)
theorem Inv.laid{a:Addr}{o:HO}{t':Nat}(I:Inv X cQ U H s)(k:∀b u,s.heap.get? b=some u->h'.get? b=some u)(hp:s.heap.objs.size<=a)(new:YI X.prog X.w (upd H a o) h' a o) :
  Inv X cQ U (upd H a o) { s with heap:=h',toks:=t' }:=I.un (Un.laid k hp (I.hok.fresh hp)) (I.hok.laid k hp new)
theorem Inv.write{x e:Addr}{o:HO}{t':Nat}(I:Inv X cQ U H s)(mu:Mut (H x))(he:e=x\/H e=some (.own x))(k:∀b u,b≠e->s.heap.get? b=some u->h'.get? b=some u)(heo:∃u,h'.get? e=some u)
  (new:YI X.prog X.w (upd H x o) h' x o):Inv X cQ U (upd H x o) { s with heap:=h',toks:=t' }:=I.un (Un.write mu he k heo) (I.hok.write mu he k heo new)
theorem Inv.pins_of(I:Inv X cQ U H s)(h:∀p∈pins',s.heap.get? p.1=some p.2/\H p.1=none/\p.1≠X.env.locals/\p.1∉X.fs/\∀v,p.2.data≠.cell v):Inv X pins' U H s:=
 ⟨I.ok,I.os,I.bare,I.base,I.loc,I.cell,I.free,I.freeC,fun p hp=>(fG.mp hp).elim (fun z=>I.pin p (gS _ z)) (h p),I.hok,I.len⟩
theorem Jp(hN:N.Nodup){x:Str}(a:N[i]?=some x)(b:N[j]?=some x):i=j:=by
 obtain⟨h1,e1⟩:=fD.mp a;obtain⟨h2,e2⟩:=fD.mp b;exact(iM hN).mp (e1.trans e2.symm)
theorem zU{x:Str}{Q:Unit->Shared->Prop}(I:Inv X cQ U H s)(hN:X.N.Nodup)(hi:X.N[i]?=some x)(hx:Loc X.env.scope x)(r:ZZ v u)
  (h:∀s',Inv X cQ (U.set i (some v)) H s'->(∃a,Heap.SameBut a s.heap s'.heap/\(a=X.env.locals\/X.env.cells.lookup x=some a))->Q () s') (hf:X.fn x=true\/X.env.scope.names.lookup x=some .local:=by first|exact .inl rfl|exact .inr rfl|assumption):wpAny M A (storeName X.env x u) Q E s:=by
 obtain⟨m,hn,hl⟩:=id I.loc;have hcls:(X.env.scope.kind==.class||(X.env.scope.kind==.module&&X.env.locals != X.env.globals))=false:=by rw[I.ok.kind];rfl
 have hiσ:i<U.length:=by rw[I.len];exact(fD.mp hi).1
 have cne:=I.cne;have tracked:∀{a:Addr}{h':Heap},(∃o,s.heap.get? a=some o/\H a=none)->Heap.SameBut a s.heap h'->HOk X.prog X.w H h':=fun {a h'} ha hs b ob e=>by
  obtain⟨_,_,hfree⟩:=ha;refine(I.hok b ob e).stay (fun c w' hc q=>(hs.2 c ?_).trans q) (fun _ q=>q) fun _ _ q=>q;rintro rfl;rcases hc with rfl|hc
  ·rw[hfree] at e;cases e
  ·rw[hfree] at hc;cases hc
 rcases hx with hk|hk
 ·refine wpAny_storeName_local hk hn (fun h' hn' hs=>?_) hcls;obtain⟨oL,_,_,hoL,_⟩:=id hn;refine h _ ⟨I.ok,I.os,I.bare,⟨fun b o e n hb hx=>?_,fun b o e n hb hx=>?_,I.base.free,fun b o e hx=>?_,I.base.tups,I.base.frzs,I.base.tbls⟩,⟨_,hn',fun j y v' e1 e2 e3=>?_⟩,fun y c e=>?_,I.free,I.freeC,fun p hp=>?_,tracked ⟨oL,hoL,I.free⟩ hs,by simpa using I.len⟩ ⟨_,hs,.inl rfl⟩
  ·exact(hs.2 b (fE (gj (fC e) I.ok.above))).trans (I.base.keep b o e n hb hx)
  ·obtain⟨sl,e1⟩:=I.base.slot b o e n hb hx;exact⟨sl,(hs.2 b (fE (gj (fC e) I.ok.above))).trans e1⟩
  ·obtain⟨o',e1⟩:=I.base.there b o e hx;exact⟨o',(hs.2 b (fE (gj (fC e) I.ok.above))).trans e1⟩
  ·by_cases hj:j=i
   ·subst hj;rw[hi] at e1;cases e1;rw[nF hiσ] at e2;cases e2;exact⟨u,r,.inl ⟨hk,by simp⟩⟩
   ·rw[nG (fJ hj)] at e2;obtain⟨u',r',q⟩:=hl j y v' e1 e2 e3;refine⟨u',r',?_⟩;rcases q with⟨k,e⟩|⟨k,c,e,z⟩
    ·refine .inl ⟨k,?_⟩;have:y≠x:=fun e=>hj (Jp hN e1 (e▸hi));simp[this,e]
    ·exact .inr ⟨k,c,e,z.sameBut hs (cne y c e)⟩
  ·obtain⟨w',z⟩:=I.cell y c e;exact⟨w',z.sameBut hs (cne y c e)⟩
  ·obtain⟨e,n,ne,nf,d⟩:=I.pin p hp;exact⟨(hs.2 p.1 ne).trans e,n,ne,nf,d⟩
 ·have hfn:X.fn x=true:=by
   rcases hf with z|z
   ·exact z
   ·rw[z] at hk;cases hk
  obtain⟨c,hc⟩:=I.ok.has x (.inl hk);obtain⟨w',z⟩:=I.cell x c hc;refine wpAny_storeName_cell I.ok.kind hk hc z (fun h' hc' hs=>?_);obtain⟨oc,hoc,hocd⟩:=id z;refine h { s with heap:=h' } ⟨I.ok,I.os,I.bare,⟨fun b o e n hb hx=>?_,fun b o e n hb hx=>?_,I.base.free,fun b o e hx=>?_,I.base.tups,I.base.frzs,I.base.tbls⟩,⟨m,hn.sameBut hs (fJ (cne x c hc)),fun j y v' e1 e2 e3=>?_⟩,fun y c' e=>?_,I.free,I.freeC,fun p hp=>?_,tracked ⟨oc,hoc,I.freeC x c hc⟩ hs,by simpa using I.len⟩ ⟨c,hs,.inr hc⟩
  ·exact(hs.2 b (fE (gj (fC e) (I.ok.cab x c hfn hc)))).trans (I.base.keep b o e n hb hx)
  ·obtain⟨sl,e1⟩:=I.base.slot b o e n hb hx;exact⟨sl,(hs.2 b (fE (gj (fC e) (I.ok.cab x c hfn hc)))).trans e1⟩
  ·obtain⟨o',e1⟩:=I.base.there b o e hx;exact⟨o',(hs.2 b (fE (gj (fC e) (I.ok.cab x c hfn hc)))).trans e1⟩
  ·by_cases hj:j=i
   ·subst hj;rw[hi] at e1;cases e1;rw[nF hiσ] at e2;cases e2;exact⟨u,r,.inr ⟨.inl hk,c,hc,hc'⟩⟩
   ·rw[nG (fJ hj)] at e2;obtain⟨u',r',q⟩:=hl j y v' e1 e2 e3;refine⟨u',r',?_⟩;rcases q with q|⟨k,c',e,z'⟩
    ·exact .inl q
    ·refine .inr ⟨k,c',e,z'.sameBut hs ?_⟩;rintro rfl;exact hj (Jp hN e1 (I.ok.inj _ _ _ e hc▸hi))
  ·by_cases hcc:c'=c
   ·subst hcc;exact⟨_,hc'⟩
   ·obtain⟨w2,z2⟩:=I.cell y c' e;exact⟨w2,z2.sameBut hs hcc⟩
  ·obtain⟨e,n,ne,nf,d⟩:=I.pin p hp;refine⟨(hs.2 p.1 ?_).trans e,n,ne,nf,d⟩;intro q;rw[q,hoc] at e;have q':oc=p.2:=fO e;exact d w' (by rw[<- q'];exact hocd)
theorem xg{x:Str}{Q:Unit->Shared->Prop}(I:Inv X cQ U H s)(hN:X.N.Nodup)(hi:X.N[i]?=some x)(hx:Loc X.env.scope x)(r:ZZ v u)
  (h:∀s',Inv X cQ (U.set i (some v)) H s'->Q () s') (hf:X.fn x=true\/X.env.scope.names.lookup x=some .local:=by first|exact .inl rfl|exact .inr rfl|assumption):wpAny M A (storeName X.env x u) Q E s:=
 zU I hN hi hx r (fun s' I' _=>h s' I') hf
theorem Inv.call'(I:Inv X cQ U H s)(ho:s'.os=s.os)(u:Un (frs X.stack) ch H H' s.heap s'.heap)(hok:HOk X.prog X.w H' s'.heap)(hg:AllBare s'.gens)
  (hch:∀b∈ch,(b∈X.ex\/X.s₀.heap.objs.size<=b)/\b≠X.env.locals/\(∀x c,X.env.cells.lookup x=some c->c≠b)/\∀p∈X.pn++cQ,p.1≠b):Inv X cQ U H' s':=by
 obtain⟨h',g',d',t',o'⟩:=s';have e:o'=s.os:=ho;subst e;exact I.call (g':=g') (t':=t') (d':=d') u hok hg hch
end
abbrev XK:=Value->Option Addr->Hp->Prop
abbrev St:=List (Option V)
abbrev VK:=V->Hp->Prop
abbrev TE:=St->Hp->VK->Prop
abbrev TT:=St->Hp->(Bool->Hp->Prop)->Prop
abbrev TA:=St->Hp->(List V->Hp->Prop)->Prop
structure Kj where
 nx:St->Hp->Prop
 rt:VK
 bk:St->Hp->Prop:=fun _ _=>False
 ct:St->Hp->Prop:=fun _ _=>False
abbrev TS:=Kj->St->Hp->Prop
def EP(X:Cx)(cQ:List (Addr×Obj))(U:St)(Q:VK)(u:Value)(s':Shared):Prop:=∃v H',Inv X cQ U H' s'/\ZZ v u/\Q v H'
def TP(X:Cx)(cQ:List (Addr×Obj))(U:St)(Q:Bool->Hp->Prop)(b:Bool)(s':Shared):Prop:=∃H',Inv X cQ U H' s'/\Q b H'
def AP(X:Cx)(cQ:List (Addr×Obj))(U:St)(Q:List V->Hp->Prop)(us:List Value)(s':Shared):Prop:=∃vs H',Inv X cQ U H' s'/\ZM vs us/\Q vs H'
def SP(X:Cx)(cQ:List (Addr×Obj))(D:Kj)(f:Flow)(s':Shared):Prop:=
 match f with
 |.next=>∃σ' H',Inv X cQ σ' H' s'/\D.nx σ' H'
 |.brk=>∃σ' H',Inv X cQ σ' H' s'/\D.bk σ' H'
 |.cont=>∃σ' H',Inv X cQ σ' H' s'/\D.ct σ' H'
 |.ret u=>∃v σ' H',Inv X cQ σ' H' s'/\ZZ v u/\D.rt v H'
def PE(X:Cx)(e:Expr)(t:TE):Prop:=
 ∀(cQ:List (Addr×Obj)) (s:Shared) (U:St) (H:Hp) (Q:VK),Inv X cQ U H s->t U H Q->wpAny (model X.prog X.w) X.A (eval e X.env) (EP X cQ U Q) X.xe s
def PT(X:Cx)(e:Expr)(t:TT):Prop:=
 ∀(cQ:List (Addr×Obj)) (s:Shared) (U:St) (H:Hp) (Q:Bool->Hp->Prop),Inv X cQ U H s->t U H Q->wpAny (model X.prog X.w) X.A (isTrue e X.env (eval e X.env)) (TP X cQ U Q) X.xe s
def PW(X:Cx)(e:Expr)(t:TT):Prop:=
 ∀(whole:Sem Value) (cQ:List (Addr×Obj)) (s:Shared) (U:St) (H:Hp) (Q:Bool->Hp->Prop),Inv X cQ U H s->t U H Q->wpAny (model X.prog X.w) X.A (isTrue e X.env whole) (TP X cQ U Q) X.xe s
def PW.pt{X:Cx}{t:TT}(h:PW X e t):PT X e t:=h _
def PA(X:Cx)(es:List Expr)(t:TA):Prop:=
 ∀(pos:Pos) (cQ:List (Addr×Obj)) (s:Shared) (U:St) (H:Hp) (Q:List V->Hp->Prop),Inv X cQ U H s->t U H Q->wpAny (model X.prog X.w) X.A (spliced (backTo pos (starEach es X.env))) (AP X cQ U Q) X.xe s
def PS(X:Cx)(st:Stmt)(t:TS):Prop:=
 ∀(cQ:List (Addr×Obj)) (s:Shared) (U:St) (H:Hp) (D:Kj),Inv X cQ U H s->t D U H->wpAny (model X.prog X.w) X.A (exec st X.env) (SP X cQ D) X.xe s
def PSs(X:Cx)(st:List Stmt)(t:TS):Prop:=
 ∀(cQ:List (Addr×Obj)) (s:Shared) (U:St) (H:Hp) (D:Kj),Inv X cQ U H s->t D U H->wpAny (model X.prog X.w) X.A (execs st X.env) (SP X cQ D) X.xe s
def thn{t:Sem α}{Q:α->Shared->Prop}(h:wpAny M A t Q E s)(hQ:∀a s,Q a s->Q' a s):wpAny M A t Q' E s:=hU h hQ fun _ _ x=>x
end L2
variable{te tl:L2.TE}{U τ σ0 σ':L2.St}{tt tc:L2.TT}{X:L2.Cx}{ta:L2.TA}{tb:L2.TS}
namespace L2
open PySem PySem.Spec PyProof.Rows
section
theorem bin{a b:Expr}{ta tb:TE}(ha:PE X a ta)(hb:PE X b tb){R:V->V->Hp->Prop}(I:Inv X cQ U H s)(h:ta U H fun x H1=>tb U H1 fun y H2=>R x y H2)
  {Q:α->Shared->Prop}{f:Value->Value->Sem α}
  (hf:∀v u s2 x y H2,Inv X cQ U H2 s2->ZZ x v->ZZ y u->R x y H2->wpAny (model X.prog X.w) X.A (f v u) Q X.xe s2) :
  wpAny (model X.prog X.w) X.A (eval a X.env) (fun v s₁=>wpAny (model X.prog X.w) X.A (eval b X.env) (fun u s₂=>wpAny (model X.prog X.w) X.A (f v u) Q X.xe s₂) X.xe s₁) X.xe s:=by
 refine thn (ha cQ s U H _ I h) fun v s1 ⟨x,H1,I1,r1,q1⟩=>?_;refine thn (hb cQ s1 U H1 _ I1 q1) fun u s2 ⟨y,H2,I2,r2,q2⟩=>?_;exact hf v u s2 x y H2 I2 r1 r2 q2
inductive Zgj(i:Nat)(U:St)(H:Hp)(Q:VK):Prop
 |mk (v:V) (h:U[i]?=some (some v)) (k:Q v H):Zgj i U H Q
def Kz(i:Nat):TE:=fun U H Q=>Zgj i U H Q
def tC(v:V):TE:=fun _ H Q=>Q v H
theorem Zfr{x:Str}(hN:X.N[i]?=some x)(hv:Vis X.env.scope x)(hd:(x==("__debug__" : Str))=false:=by decide)(hcd:(x==("__classdict__" : Str))=false:=by decide):PE X (.Name x pos) (Kz i):=by
 intro cQ s U H Q I h;obtain⟨v,e,h⟩:=h;obtain⟨m,hn,hl⟩:=I.loc;obtain⟨u,r,l⟩:=hl i x v hN e hv;have fin:EP X cQ U Q u s:=⟨v,H,I,r,h⟩;rcases l with⟨hk,hm⟩|⟨hk,c,hc,hcell⟩
 ·exact wpAny_Name (wpAny_loadName_local I.ok.kind hk hn hm fin) hd
 ·rcases hk with hk|hk
  ·exact wpAny_Name (wpAny_loadName_cell I.ok.kind hk hc hcell fin) hd
  ·exact wpAny_Name (wpAny_loadName_free I.ok.kind hk hc hcell fin hcd) hd
theorem Zf{i j pos}:PE X (.Constant (.int i) j pos) (tC (.int i)):=fun _ _ _ H _ I h=>wpAny_Constant_int ⟨.int i,H,I.tok _,⟨_,rfl⟩,h⟩
theorem Y9{b j pos}:PE X (.Constant (.bool b) j pos) (tC (.bl b)):=fun _ _ _ H _ I h=>Constant_bool ⟨.bl b,H,I,rfl,h⟩
theorem Zz{x j pos}:PE X (.Constant (.str x) j pos) (tC (.str x)):=fun _ _ _ H _ I h=>Calls.Constant_str ⟨.str x,H,I.tok _,⟨_,rfl⟩,h⟩
def Gl(X:Cx)(x:Str):Prop:=X.env.kindOf x=some .globalImplicit
theorem yz{x:Str}(I:Inv X cQ U H s)(hg:Gl X x)(hm:X.mg x=some u)(h:Q u s)
  (hd:(x==("__debug__" : Str))=false:=by decide):wpAny (model X.prog X.w) X.A (eval (.Name x pos) X.env) Q E s:=
 Calls.Name_function_global I.ok.kind hg (Calls.loadGlobal_global (by rw[I.ok.glob];exact I.mod.glob.keeps I.bk) hm h) hd
theorem Ul{x:Str}(I:Inv X cQ U H s)(hg:Gl X x)(hm:X.mg x=none)(hv:bootBuiltins x=some u)(h:Q u s)
  (hn:x ≠ "__name__" := by decide) (hd:(x==("__debug__" : Str))=false:=by decide):wpAny (model X.prog X.w) X.A (eval (.Name x pos) X.env) Q E s:=by
 obtain⟨mb,h1,h2⟩:=I.mod.blt;exact Calls.Name_function_global I.ok.kind hg (Calls.loadGlobal_builtin (by rw[I.ok.glob];exact I.mod.glob.keeps I.bk) hm (by rw[I.ok.blt];exact h1.keeps I.bk) ((h2 x hn).trans hv) h) hd
theorem Zdx{x:Str}(hg:Gl X x)(hm:X.mg x=some u)(r:ZZ v u)(hd:(x==("__debug__" : Str))=false:=by decide):PE X (.Name x pos) (tC v):=
 fun _ _ _ H _ I h=>yz I hg hm ⟨v,H,I,r,h⟩ hd
theorem XU{x:Str}(hg:Gl X x)(hm:X.mg x=none)(hv:bootBuiltins x=some u)(r:ZZ v u)(hn:x ≠ "__name__" := by decide)(hd:(x==("__debug__" : Str))=false:=by decide):PE X (.Name x pos) (tC v):=
 fun _ _ _ H _ I h=>Ul I hg hm hv ⟨v,H,I,r,h⟩ hn hd
variable{a b:Expr}{ta tb:TE}
def PC(X:Cx)(op:CmpOp)(a b:Expr)(t:TE):Prop:=
 ∀(cQ:List (Addr×Obj)) (s:Shared) (U:St) (H:Hp) (Q:VK),Inv X cQ U H s->t U H Q ->
  wpAny (model X.prog X.w) X.A (eval a X.env) (fun v s₁=>wpAny (model X.prog X.w) X.A (eval b X.env) (fun u s₂=>wpAny (model X.prog X.w) X.A (compareOp op v u) (EP X cQ U Q) X.xe s₂) X.xe s₁) X.xe s
theorem ZbR(b:Expr)(h:op≠.In)(h2:op≠.NotIn):behindInMarks op b=false:=by
 have e1:(op==CmpOp.In)=false:=by cases op<;>first|rfl|exact absurd rfl h
 have e2:(op==CmpOp.NotIn)=false:=by cases op<;>first|rfl|exact absurd rfl h2
 cases b<;>simp[behindInMarks,e1,e2]
inductive Zck(x:V)(H:Hp)(Q:Bool->Hp->Prop):Prop
 |mk (c:Bool) (h:x=.bl c) (k:Q c H):Zck x H Q
def tB(t:TE):TT:=fun U H Q=>t U H fun x H1=>Zck x H1 Q
theorem ZfG{t:TE}(h:PC X op a b t)(h1:behindInMarks op b=false:=by first|exact ZbR _ (by decide) (by decide)|rfl):PT X (.Compare a [op] [b] pos) (tB t):=by
 intro cQ s U H Q I hw;refine wpAny_isTrue_Compare1 (thn (h cQ s U H _ I hw) fun v s1 h1=>thn h1 fun u s2 h2=>thn h2 fun c s3 ⟨x,H1,I1,r1,q1⟩=>?_) h1;obtain⟨d,rfl,q⟩:=q1;cases r1;exact io ⟨H1,I1,q⟩
theorem Xw{t:TE}(h:PE X e t)(he:∀whole,isTrue e X.env whole=(do let v <- whole;standAt e.pos;holding [v] (truthy v)):=by intro _;rfl):PT X e (tB t):=by
 intro cQ s U H Q I hw;refine isTrue_plain (thn (h cQ s U H _ I hw) fun v s1 ⟨x,H1,I1,r1,q1⟩=>?_) (he _);obtain⟨d,rfl,q⟩:=q1;cases r1;exact io ⟨H1,I1,q⟩
variable{tA tB':TT}{X3:List Expr}
def tAnd(t u:TT):TT:=fun U H Q=>t U H fun c H1=>if c=true then u U H1 Q else Q false H1
def tOr(t u:TT):TT:=fun U H Q=>t U H fun c H1=>if c=true then Q true H1 else u U H1 Q
def tNot(t:TT):TT:=fun U H Q=>t U H fun c H1=>Q (!c) H1
theorem ZdZ(ha:PT X a tA):PW X (.BoolOp .And [a] pos) tA:=by
 intro wh cQ s U H Q I h;refine isTrue_and (thn (ha cQ s U H Q I h) fun c s1 e=>?_);cases c with
 |true=>exact isTrue_and_nil e
 |false=>exact e
theorem VH(ha:PT X a tA):PW X (.BoolOp .Or [a] pos) tA:=by
 intro wh cQ s U H Q I h;refine isTrue_or (thn (ha cQ s U H Q I h) fun c s1 e=>?_);cases c with
 |false=>exact isTrue_or_nil e
 |true=>exact e
theorem Zfs(ha:PT X a tA)(hb:PW X (.BoolOp .And (b::X3) pos) tB'):PW X (.BoolOp .And (a::b::X3) pos) (tAnd tA tB'):=by
 intro wh cQ s U H Q I h;refine isTrue_and (thn (ha cQ s U H _ I h) fun c s1 ⟨H1,I1,q1⟩=>?_);cases c with
 |true=>exact hb wh cQ s1 U H1 Q I1 q1
 |false=>exact⟨H1,I1,q1⟩
theorem UC(ha:PT X a tA)(hb:PW X (.BoolOp .Or (b::X3) pos) tB'):PW X (.BoolOp .Or (a::b::X3) pos) (tOr tA tB'):=by
 intro wh cQ s U H Q I h;refine isTrue_or (thn (ha cQ s U H _ I h) fun c s1 ⟨H1,I1,q1⟩=>?_);cases c with
 |true=>exact⟨H1,I1,q1⟩
 |false=>exact hb wh cQ s1 U H1 Q I1 q1
theorem Xg(ha:PT X a tA):PT X (.UnaryOp .Not a pos) (tNot tA):=by
 intro cQ s U H Q I h;exact isTrue_not (ha cQ s U H (fun c H1=>Q (!c) H1) I h)
def Zeo(ta tb:TE):TE:=fun U H Q=>ta U H fun x H1=>∃c,x=.bl c/\if c=true then tb U H1 Q else Q (.bl false) H1
def tOrV(ta tb:TE):TE:=fun U H Q=>ta U H fun x H1=>∃c,x=.bl c/\if c=true then Q (.bl true) H1 else tb U H1 Q
def ZfT(ta:TE):TE:=fun U H Q=>ta U H fun x H1=>∃c,x=.bl c/\Q (.bl (!c)) H1
theorem Xt{op}{t:TE}(h:PE X a t):PE X (.BoolOp op [a] pos) t:=fun cQ s U H Q I hw=>BoolOp_one (h cQ s U H Q I hw)
theorem XQ(ha:PE X a ta)(hb:PE X (.BoolOp .And (b::X3) pos) tb):PE X (.BoolOp .And (a::b::X3) pos) (Zeo ta tb):=by
 intro cQ s U H Q I h;refine BoolOp_and (thn (ha cQ s U H _ I h) fun v s1 ⟨x,H1,I1,r1,q1⟩=>?_);obtain⟨c,rfl,q1⟩:=q1;cases r1;refine io ?_;cases c with
 |true=>exact hb cQ s1 U H1 Q I1 q1
 |false=>exact⟨.bl false,H1,I1,rfl,q1⟩
theorem QG(ha:PE X a ta)(hb:PE X (.BoolOp .Or (b::X3) pos) tb):PE X (.BoolOp .Or (a::b::X3) pos) (tOrV ta tb):=by
 intro cQ s U H Q I h;refine BoolOp_or (thn (ha cQ s U H _ I h) fun v s1 ⟨x,H1,I1,r1,q1⟩=>?_);obtain⟨c,rfl,q1⟩:=q1;cases r1;refine io ?_;cases c with
 |false=>exact hb cQ s1 U H1 Q I1 q1
 |true=>exact⟨.bl true,H1,I1,rfl,q1⟩
theorem Qv(ha:PE X a ta):PE X (.UnaryOp .Not a pos) (ZfT ta):=by
 intro cQ s U H Q I h;refine UnaryOp_ (thn (ha cQ s U H _ I h) fun v s1 ⟨x,H1,I1,r1,q1⟩=>?_);obtain⟨c,rfl,q1⟩:=q1;cases r1;exact not_of (io ⟨.bl (!c),H1,I1,rfl,q1⟩)
def tIf(t:TT)(ta tb:TE):TE:=fun U H Q=>t U H fun c H1=>if c=true then ta U H1 Q else tb U H1 Q
theorem JH{c:Expr}(hc:PT X c tA)(ha:PE X a ta)(hb:PE X b tb):PE X (.IfExp c a b pos) (tIf tA ta tb):=by
 intro cQ s U H Q I h;refine wpAny_IfExp (thn (hc cQ s U H _ I h) fun d s1 ⟨H1,I1,q1⟩=>?_);cases d with
 |true=>exact ha cQ s1 U H1 Q I1 q1
 |false=>exact hb cQ s1 U H1 Q I1 q1
end
def SqL(K:W.Frag)(H:Hp)(a:Addr)(xs:List V):Prop:=
 Rd H a (.lst xs) \/
  ∃(o:Obj) (its:Array Value) (n:Nat),K.lookup a=some o/\o.cls=.type "list" /\ o.dict=none/\o.data=.seq its n/\its.size<=sizeLine/\ZM xs its.toList
def SqT(K:W.Frag)(H:Hp)(a:Addr)(xs:List V):Prop:=
 Rd H a (.tup xs) \/
  ∃(o:Obj) (its:Array Value) (n:Nat),K.lookup a=some o/\o.cls=.type "tuple" /\ o.data=.seq its n/\its.size<=sizeLine/\ZM xs its.toList
def absV:Value->Option V
 |.none=>some .non
 |.bool b=>some (.bl b)
 |.int i _=>some (.int i)
 |.str x _=>some (.str x)
 |.bytes b _=>some (.byt b)
 |.float b _=>some (.flt b)
 |.ref a=>some (.ref a)
 |.type n=>some (.ty n)
 |_=>none
def ZZ.abs{x:V}(r:ZZ x u):absV u=some x:=by
 cases x with
 |non=>cases r;rfl
 |bl _=>cases r;rfl
 |int _=>obtain⟨t,rfl⟩:=r;rfl
 |str _=>obtain⟨t,rfl⟩:=r;rfl
 |byt _=>obtain⟨t,rfl⟩:=r;rfl
 |flt _=>obtain⟨t,rfl⟩:=r;rfl
 |ref _=>cases r;rfl
 |ty _=>cases r;rfl
def ZZ.inj{x y:V}{u:Value}(r:ZZ x u)(q:ZZ y u):x=y:=fO (r.abs.symm.trans q.abs)
def ZM.inj:∀{xs ys:List V}{us:List Value},ZM xs us->ZM ys us->xs=ys
 |_,_,_,.nil,.nil=>rfl
 |_,_,_,.cons r t,.cons r' t'=>by rw[r.inj r',ZM.inj t t']
section
variable{a:Addr}{xs ys:List V}
theorem SqL.of(h:H a=some (.lst xs)):SqL K H a xs:=.inl (.inl h)
def nV:=@SqL.of
theorem SqT.of(h:H a=some (.tup xs)):SqT K H a xs:=.inl (.inl h)
def nX:=@SqT.of
theorem Inv.list(I:Inv X cQ U H s)(h:SqL X.K H a xs):∃its:List Value,ZM xs its/\PlainL s.heap a its.toArray/\xs.length<=sizeLine:=by
 rcases h with h|⟨o,its,n,hk,hc,hd,hs,hz,r⟩
 ·obtain⟨z,its,n,r,e⟩:=h.ok I.hok;exact⟨its,r,⟨_,n,e,rfl,rfl,rfl⟩,z⟩
 ·refine⟨its.toList,r,⟨o,n,I.kIn a o hk,hc,hd,by simpa using hs⟩,?_⟩;have e:=r.length;simp only[hV] at e;omega
theorem Inv.tuple(I:Inv X cQ U H s)(h:SqT X.K H a xs):∃its:List Value,ZM xs its/\IsTup s.heap a its.toArray/\xs.length<=sizeLine:=by
 rcases h with h|⟨o,its,n,hk,hc,hs,hz,r⟩
 ·obtain⟨z,its,r,p⟩:=h.ok I.hok;exact⟨its,r,p,z⟩
 ·refine⟨its.toList,r,⟨o,I.kIn a o hk,hc,n,by simpa using hs⟩,?_⟩;have e:=r.length;simp only[hV] at e;omega
theorem Inv.list_inj(I:Inv X cQ U H s)(h:SqL X.K H a xs)(h':SqL X.K H a ys):xs=ys:=by
 obtain⟨its,r,⟨o,n,e,_,_,d⟩,_⟩:=I.list h;obtain⟨its',r',⟨o',n',e',_,_,d'⟩,_⟩:=I.list h';rw[e] at e';cases e';rw[d] at d';injection d' with d1 _;have:its=its':=by simpa using fI Array.toList d1
 subst this;exact r.inj r'
theorem Inv.tuple_inj(I:Inv X cQ U H s)(h:SqT X.K H a xs)(h':SqT X.K H a ys):xs=ys:=by
 obtain⟨its,r,⟨o,e,_,n,d⟩,_⟩:=I.tuple h;obtain⟨its',r',⟨o',e',_,n',d'⟩,_⟩:=I.tuple h';rw[e] at e';cases e';rw[d] at d';injection d' with d1 _;have:its=its':=by simpa using fI Array.toList d1
 subst this;exact r.inj r'
end
abbrev Cx.wish(X:Cx)(E:Value->Shared->Prop):Cx:={ X with xe:=E }
abbrev Cx.nox(X:Cx):Cx:=X.wish fun _ _=>False
def Cx.Ok.wish{X:Cx}(ok:X.Ok)(E:Value->Shared->Prop):(X.wish E).Ok:=
 ⟨ok.mod,ok.kind,ok.glob,ok.blt,ok.above,ok.inj,ok.has,ok.cab,ok.hd,ok.frames,ok.stk,ok.exf,ok.bs,ok.bsz,ok.noex,ok.exfs,ok.funs,ok.frf⟩
def Cx.Ok.unwish(ok:(X.wish E).Ok):X.Ok:=
 ⟨ok.mod,ok.kind,ok.glob,ok.blt,ok.above,ok.inj,ok.has,ok.cab,ok.hd,ok.frames,ok.stk,ok.exf,ok.bs,ok.bsz,ok.noex,ok.exfs,ok.funs,ok.frf⟩
def Inv.wish(I:Inv X cQ U H s)(E:Value->Shared->Prop):Inv (X.wish E) cQ U H s:=⟨I.ok.wish E,I.os,I.bare,I.base,I.loc,I.cell,I.free,I.freeC,I.pin,I.hok,I.len⟩
def Inv.unwish(I:Inv (X.wish E) cQ U H s):Inv X cQ U H s:=⟨I.ok.unwish,I.os,I.bare,I.base,I.loc,I.cell,I.free,I.freeC,I.pin,I.hok,I.len⟩
def SP.unwish{D:Kj}{f:Flow}{s':Shared}(h:SP (X.wish E) cQ D f s'):SP X cQ D f s':=by
 cases f with
 |next=>obtain⟨σ',H',I,q⟩:=h;exact⟨σ',H',I.unwish,q⟩
 |brk=>obtain⟨σ',H',I,q⟩:=h;exact⟨σ',H',I.unwish,q⟩
 |cont=>obtain⟨σ',H',I,q⟩:=h;exact⟨σ',H',I.unwish,q⟩
 |ret u=>obtain⟨v,σ',H',I,r,q⟩:=h;exact⟨v,σ',H',I.unwish,r,q⟩
def PSs.nox{st:List Stmt}{t:TS}(h:PSs X.nox st t):PSs X st t:=fun cQ s U H D I hw=>
 hU (h cQ s U H D (I.wish _) hw) (fun _ _ q=>q.unwish) fun _ _ z=>False.elim z
section
variable{st:Stmt}{X3:List Stmt}{t u:TS}
def Zeh:TS:=fun D U H=>D.nx U H
def ZeK(t u:TS):TS:=fun D U H=>t { D with nx:=u D } U H
theorem ZD:PSs X [] Zeh:=fun _ _ U H _ I h=>wpAny_execs_nil ⟨U,H,I,h⟩
theorem Zc(h1:PS X st t)(h2:PSs X X3 u):PSs X (st::X3) (ZeK t u):=by
 intro cQ s U H D I h;refine wpAny_execs_cons (thn (h1 cQ s U H { D with nx:=u D } I h) fun f s1 q=>?_);cases f with
 |next=>
  obtain⟨σ',H',I',q⟩:=q;exact h2 cQ s1 σ' H' D I' q
 |ret v=>exact q
 |brk=>exact q
 |cont=>exact q
theorem Zh(h1:PS X st t):PSs X [st] t:=by
 intro cQ s U H D I h;refine wpAny_execs_cons (thn (h1 cQ s U H D I h) fun f s1 q=>?_);cases f with
 |next=>exact wpAny_execs_nil q
 |ret v=>exact q
 |brk=>exact q
 |cont=>exact q
theorem Inv.quiet(I:Inv X cQ U H s):interactive X.env=false:=by simp[interactive,I.ok.kind]
def ZgC(te:TE):TS:=fun D U H=>te U H fun _ H1=>D.nx U H1
theorem Yq(he:PE X e te)(hs:swapsWith e none pos.line X.env=pure false:=by rfl):PS X (.Expr e pos) (ZgC te):=by
 intro cQ s U H D I h;exact wpAny_Expr_any (thn (he cQ s U H _ I h) fun v s1 ⟨x,H1,I1,r1,q1⟩=>⟨U,H1,I1,q1⟩) I.quiet hs
def tRet(te:TE):TS:=fun D U H=>te U H D.rt
theorem Zm(he:PE X e te):PS X (.Return (some e) pos) (tRet te):=by
 intro cQ s U H D I h;exact wpAny_Return_some (thn (he cQ s U H _ I h) fun v s1 ⟨x,H1,I1,r1,q1⟩=>⟨x,U,H1,I1,r1,q1⟩)
def Zfx(c:TT)(t u:TS):TS:=fun D U H=>c U H fun b H1=>if b=true then t D U H1 else u D U H1
theorem Z2{c:Expr}{a b:List Stmt}(hc:PT X c tc)(ha:PSs X a t)(hb:PSs X b u):PS X (.If c a b pos) (Zfx tc t u):=by
 intro cQ s U H D I h;refine wpAny_If (thn (hc cQ s U H _ I h) fun d s1 ⟨H1,I1,q1⟩=>?_);cases d with
 |true=>exact ha cQ s1 U H1 D I1 q1
 |false=>exact hb cQ s1 U H1 D I1 q1
def Zfq:TS:=fun _ _ _=>False
theorem JJ:PS X st Zfq:=fun _ _ _ _ _ _ h=>h.elim
end
abbrev TG:=V->St->Hp->(St->Hp->Prop)->Prop
abbrev TGs:=List V->St->Hp->(St->Hp->Prop)->Prop
def PG(X:Cx)(target:Expr)(t:TG):Prop:=
 ∀(cQ:List (Addr×Obj)) (s:Shared) (U:St) (H:Hp) (v:V) (u:Value) (Q:St->Hp->Prop),Inv X cQ U H s->ZZ v u->t v U H Q ->
  wpAny (model X.prog X.w) X.A (assign target X.env u) (fun _ s'=>∃σ' H',Inv X cQ σ' H' s'/\Q σ' H') X.xe s
def PGs(X:Cx)(ts:List Expr)(t:TGs):Prop:=
 ∀(cQ:List (Addr×Obj)) (s:Shared) (U:St) (H:Hp) (vs:List V) (us:List Value) (Q:St->Hp->Prop),Inv X cQ U H s->ZM vs us->t vs U H Q ->
  wpAny (model X.prog X.w) X.A (assignInOrder ((assignEach ts X.env).map (·.2)) us) (fun _ s'=>∃σ' H',Inv X cQ σ' H' s'/\Q σ' H') X.xe s
abbrev TIp:=V->V->Hp->VK->Prop
def PIp(X:Cx)(op:Operator)(t:TIp):Prop:=
 ∀(cQ:List (Addr×Obj)) (s:Shared) (U:St) (H:Hp) (x y:V) (v u:Value) (Q:VK),Inv X cQ U H s->ZZ x v->ZZ y u->t x y H Q ->
  wpAny (model X.prog X.w) X.A (inplaceOp op v u) (EP X cQ U Q) X.xe s
def V0(i:Nat):TG:=fun v U H Q=>Q (U.set i (some v)) H
def Zo{x:Str}(hN:X.N.Nodup)(hi:X.N[i]?=some x)(hx:Loc X.env.scope x)(hf:X.fn x=true\/X.env.scope.names.lookup x=some .local:=by first|exact .inl rfl|exact .inr rfl|assumption):PG X (.Name x pos) (V0 i):=by
 intro cQ s U H v u Q I r h;exact wpAny_assign_Name (xg I hN hi hx r (fun s' I'=>⟨_,H,I',h⟩) hf)
def gNil:TGs:=fun vs U H Q=>vs=[]/\Q U H
def ZgK(t:TG)(u:TGs):TGs:=fun vs U H Q=>∃v r,vs=v::r/\t v U H fun σ' H'=>u r σ' H' Q
def WF:PGs X [] gNil:=by
 intro cQ s U H vs us Q I r h;obtain⟨e,h⟩:=h;subst e;cases r;exact assignInOrder_nil ⟨U,H,I,h⟩
def Yj{es:List Expr}{t:TG}{u:TGs}(h1:PG X e t)(h2:PGs X es u)
  (hs:(assignEach (e::es) X.env).map (·.2)=assign e X.env::(assignEach es X.env).map (·.2):=by rfl):PGs X (e::es) (ZgK t u):=by
 intro cQ s U H vs us Q I r h;obtain⟨v,vr,e1,h⟩:=h;subst e1;cases r with
 |cons r rr=>
  rw[hs];refine assignInOrder_cons (thn (h1 cQ s U H _ _ _ I r h) fun _ s1 ⟨σ1,H1,I1,q1⟩=>?_);exact h2 cQ s1 σ1 H1 _ _ Q I1 rr q1
def ZgG(K:W.Frag)(n:Nat)(t:TGs):TG:=fun v U H Q=>∃a xs,v=.ref a/\SqT K H a xs/\xs.length=n/\t xs U H Q
def Ze7{es:List Expr}{k:Nat}{t:TGs}(hc:X.calm=true)(h:PGs X es t)
  (hn:(assignEach es X.env).length=n:=by rfl) (hst:(assignEach es X.env).findIdx? (·.1)=none:=by rfl):PG X (.Tuple es k pos) (ZgG X.K n t):=by
 intro cQ s U H v u Q I r hw;obtain⟨a,xs,e1,hq,hl,hw⟩:=hw;subst e1;cases r;obtain⟨its,rv,ht,hz⟩:=I.tuple hq;refine assign_Tuple_tuple (I.ok.hd hc) ht (by simp[hn,<- hl,rv.length]) hst fun h' hx=>?_;have I1:Inv X cQ U H { s with heap:=h' }:=I.kept (t':=s.toks) fun b o e=>hx b o (fE (fC e)) e;exact h cQ _ U H xs _ Q I1 (by simpa using rv) hw
def Zdk(te:TE)(g:TG):TS:=fun D U H=>te U H fun x H1=>g x U H1 D.nx
def ZeL{g:TG}(he:PE X e te)(hg:PG X tg g)(hs:swapsWithSole [tg] e pos.line X.env=pure false:=by rfl)(hw:swappedStores [tg] e X.env=pure none:=by rfl)
  (h1:(assignEach [tg] X.env).map (·.2)=[assign tg X.env]:=by rfl):PS X (.Assign [tg] e pos) (Zdk te g):=by
 intro cQ s U H D I h;refine wpAny_Assign_stores (thn (he cQ s U H _ I h) fun v s1 ⟨x,H1,I1,r1,q1⟩=>?_) hs hw;rw[h1];exact thn (hg cQ s1 U H1 x v _ I1 r1 q1) fun _ s2 q=>q
def Zn{x:Str}(hN:X.N.Nodup)(hi:X.N[i]?=some x)(hx:Loc X.env.scope x)(he:PE X e te)(hs:swapsWith e (some (.Name x pos')) pos.line X.env=pure false:=by rfl)(hf:X.fn x=true\/X.env.scope.names.lookup x=some .local:=by first|exact .inl rfl|exact .inr rfl|assumption) :
  PS X (.Assign [.Name x pos'] e pos) (Zdk te (V0 i)):=by
 intro cQ s U H D I h;refine wpAny_Assign_Name (thn (he cQ s U H _ I h) fun v s1 ⟨y,H1,I1,r1,q1⟩=>?_) hs;exact xg I1 hN hi hx r1 (fun s2 I2=>⟨_,H1,I2,q1⟩) hf
def tAug(i:Nat)(te:TE)(ti:TIp):TS:=fun D U H=>∃x,U[i]?=some (some x)/\te U H fun y H1=>ti x y H1 fun z H2=>D.nx (U.set i (some z)) H2
def ZfH{x:Str}{op:Operator}{ti:TIp}(hN:X.N.Nodup)(hi:X.N[i]?=some x)(hx:Loc X.env.scope x)(he:PE X e te)(ho:PIp X op ti)(hf:X.fn x=true\/X.env.scope.names.lookup x=some .local:=by first|exact .inl rfl|exact .inr rfl|assumption) :
  PS X (.AugAssign (.Name x pos') op e pos) (tAug i te ti):=by
 intro cQ s U H D I h;obtain⟨v,e1,h⟩:=h;obtain⟨m,hn,hl⟩:=I.loc;have vis:Vis X.env.scope x:=by rcases hx with k|k;exact .inl k;exact .inr (.inl k)
 obtain⟨u,r,l⟩:=hl i x v hi e1 vis;refine wpAny_AugAssign_Name ?_;have go:wpAny (model X.prog X.w) X.A (eval e X.env) (fun w s₂=>wpAny (model X.prog X.w) X.A (inplaceOp op u w) (fun r s₃=>wpAny (model X.prog X.w) X.A (storeName X.env x r) (fun _=>SP X cQ D .next) X.xe s₃) X.xe s₂) X.xe s:=by
  refine thn (he cQ s U H _ I h) fun w s1 ⟨y,H1,I1,r1,q1⟩=>?_;refine thn (ho cQ s1 U H1 v y u w _ I1 r r1 q1) fun z s2 ⟨zv,H2,I2,r2,q2⟩=>?_;exact xg I2 hN hi hx r2 (fun s3 I3=>⟨_,H2,I3,q2⟩) hf
 rcases l with⟨hk,hm⟩|⟨hk,c,hc,hcell⟩
 ·exact wpAny_loadName_local I.ok.kind hk hn hm go
 ·rcases hk with hk|hk
  ·exact wpAny_loadName_cell I.ok.kind hk hc hcell go
  ·rcases hx with k|k
   ·have:X.env.scope.names.lookup x=some .free:=hk;rw[k] at this;cases this
   ·have:X.env.scope.names.lookup x=some .free:=hk;rw[k] at this;cases this
def ipI(f:Int->Int->Int):TIp:=fun x y H Q=>∃i j,x=.int i/\y=.int j/\Q (.int (f i j)) H
def ZeG:PIp X .Sub (ipI fun i j=>i-j):=by
 intro cQ s U H x y v u Q I r1 r2 h;obtain⟨i,j,e1,e2,q⟩:=h;subst e1;subst e2;obtain⟨t,rfl⟩:=r1;obtain⟨t',rfl⟩:=r2;exact isub_int ⟨.int _,H,I.tok _,⟨_,rfl⟩,q⟩
def ZeO(c:TT)(tb:TS):TS:=fun D U H=>∃W:Nat->St->Hp->Prop,(∃m,W m U H)/\∀m U H,W m U H ->
 c U H fun b H1=>if b=true then ∃N:St->Hp->Prop,(∀σ' H',N σ' H'->∃m',m'<m/\W m' σ' H')/\tb { D with nx:=N,ct:=N,bk:=D.nx } U H1 else D.nx U H1
def VW{c:Expr}(hp:PassesOwn (model X.prog X.w) X.A X.env X.xe)(hc:PT X c tc)(hb:PSs X body tb):PS X (.While c body [] pos) (ZeO tc tb):=by
 intro cQ s U H D I h;obtain⟨W,⟨m0,w0⟩,turn⟩:=h;refine wpAny_While (codeAny_whileLoop (fun n s'=>∃σ' H',Inv X cQ σ' H' s'/\W n σ' H') ?_ m0 ⟨U,H,I,w0⟩);rintro n s1 ⟨σ1,H1,I1,w1⟩;refine lG hp (thn (hc cQ s1 σ1 H1 _ I1 (turn n σ1 H1 w1)) fun b s2 ⟨H2,I2,q2⟩=>?_);cases b with
 |true=>
  obtain⟨N,hN,q2⟩:=q2;rw[if_pos rfl];refine lG hp (thn (hb cQ s2 σ1 H2 _ I2 q2) fun f s3 q3=>?_);cases f with
  |next=>
   obtain⟨σ3,H3,I3,n3⟩:=q3;obtain⟨m',hm,w3⟩:=hN σ3 H3 n3;exact⟨m',hm,σ3,H3,I3,w3⟩
  |cont=>
   obtain⟨σ3,H3,I3,n3⟩:=q3;obtain⟨m',hm,w3⟩:=hN σ3 H3 n3;exact⟨m',hm,σ3,H3,I3,w3⟩
  |brk=>exact q3
  |ret v=>exact q3
 |false=>
  rw[if_neg fV];exact wpAny_execs_nil ⟨σ1,H2,I2,q2⟩
structure It where
 go:Nat->Hp->Prop
 yld:Nat->Hp->V->Hp->Prop
 stop:Nat->Hp->Prop
def VM(X:Cx)(cQ:List (Addr×Obj))(H:Hp)(b:Addr):Prop:=
 H b=none/\b≠X.env.locals/\b∉X.fs/\(b∈X.ex\/X.s₀.heap.objs.size<=b)/\(∀x c,X.env.cells.lookup x=some c->c≠b)/\∀p∈X.pn++cQ,p.1≠b
def Inv.fpOk{b:Addr}(I:Inv X cQ U H s)(hb:s.heap.objs.size<=b)(hn:H' b=none):VM X cQ H' b:=by
 refine⟨hn,gA (gj I.lt hb),I.nofs hb,.inr (fK I.sz hb),fun x c e z=>?_,fun p hp z=>?_⟩
 ·obtain⟨v,q⟩:=I.cell x c e;exact absurd (gj q.lt (by rw[z];exact hb)) (ik _)
 ·exact absurd (gj (fC (I.pin p hp).1) (by rw[z];exact hb)) (ik _)
structure K5(P:Program)(w:World)(K:W.Frag)(tg:Expr)(J:It)(fp:List Addr)(it:Addr)(tn:Nat->Heap->Prop):Prop where
 mem:it∈fp
 obj:∀i h,tn i h->∀b∈fp,∃o,h.get? b=some o/\∀v,o.data≠.cell v
 keep:∀i h h',tn i h->(∀b∈fp,∀o,h.get? b=some o->h'.get? b=some o)->tn i h'
 item:∀(X:Cx),X.prog=P->X.w=w->X.K=K->X.calm=true->∀(i:Nat) (cQ:List (Addr×Obj)) (s:Shared) (U:St) (H:Hp) (E:Value->Shared->Prop),Inv X cQ U H s->(∀b∈fp,VM X cQ H b)->tn i s.heap->J.go i H ->
  wpAny (model P w) X.A (pyNext (.ref it)) (fun r s1=>∃u,r=some u /\
   wpAny (model P w) X.A (letOwnedTupleGo tg (.ref it) u) (fun _ s2=>∃x H',Inv X cQ U H' s2/\ZZ x u/\J.yld i H x H'/\tn (i+1) s2.heap/\∀b∈fp,H' b=none) E s1) E s
 done:∀(X:Cx),X.prog=P->X.w=w->X.K=K->X.calm=true->∀(i:Nat) (cQ:List (Addr×Obj)) (s:Shared) (U:St) (H:Hp) (E:Value->Shared->Prop),Inv X cQ U H s->(∀b∈fp,VM X cQ H b)->tn i s.heap->J.stop i H ->
  wpAny (model P w) X.A (pyNext (.ref it)) (fun r s1=>r=none/\Inv X cQ U H s1) E s
 self:∀(A:Around) (i:Nat) (s:Shared) (Q:Value->Shared->Prop) (E:Value->Shared->Prop),tn i s.heap->Q (.ref it) s->wpAny (model P w) A (pyIter (.ref it)) Q E s
abbrev TI:=St->Hp->(It->Hp->Prop)->Prop
def PIE(X:Cx)(cQ:List (Addr×Obj))(U:St)(tg:Expr)(R:It->Hp->Prop)(itv:Value)(s2:Shared):Prop:=
 ∃(it:Addr) (fp:List Addr) (tn:Nat->Heap->Prop) (J:It) (H':Hp),itv=.ref it/\Inv X cQ U H' s2/\K5 X.prog X.w X.K tg J fp it tn/\tn 0 s2.heap/\(∀b∈fp,VM X cQ H' b)/\R J H'
def PI(X:Cx)(tg iter:Expr)(wi:TI):Prop:=
 ∀(cQ:List (Addr×Obj)) (s:Shared) (U:St) (H:Hp) (R:It->Hp->Prop),Inv X cQ U H s->wi U H R ->
  wpAny (model X.prog X.w) X.A (eval iter X.env) (fun v s1=>wpAny (model X.prog X.w) X.A (pyIter v) (PIE X cQ U tg R) X.xe s1) X.xe s
def Jq{it:Addr}{o:Obj}{n:String}{vs:Array Value}{Q:Unit->Shared->Prop}(ho:s.heap.get? it=some o)(hc:o.cls=.type n)(hd:o.data=.fields vs)
    (hn:["enumerate","zip","dict_itemiterator","dict_reverseitemiterator","odict_iterator","itertools.zip_longest","itertools.pairwise"].contains n=false) (hQ:Q () s):wpAny M A (letOwnedTupleGo tg (.ref it) u) Q E s:=by
  unfold letOwnedTupleGo;cases tg<;>first
    |exact fq hQ
    | (cases u<;>first
        |exact fq hQ
        | (refine fg (wpAny_load ho ?_)
           rw[hc,hd]
           show wpAny M A (if(["enumerate","zip","dict_itemiterator","dict_reverseitemiterator","odict_iterator","itertools.zip_longest","itertools.pairwise"].contains n&&vs[0]?==some (rawInt _))=true then _ else _) Q E s
           rw[if_neg (by intro h;rw[hn,iE] at h;cases h)];exact fq hQ))
def Itl(K:W.Frag)(a:Addr):It:=
 ⟨fun i H=>∃xs x,SqL K H a xs/\xs[i]?=some x,fun i H x H'=>H'=H/\∀xs,SqL K H a xs->xs[i]?=some x,fun i H=>∃xs,SqL K H a xs/\xs.length<=i⟩
def Itt(K:W.Frag)(a:Addr):It:=
 ⟨fun i H=>∃xs x,SqT K H a xs/\xs[i]?=some x,fun i H x H'=>H'=H/\∀xs,SqT K H a xs->xs[i]?=some x,fun i H=>∃xs,SqT K H a xs/\xs.length<=i⟩
def Itr(lo:Int)(n:Nat):It:=⟨fun i _=>i<n,fun i H x H'=>H'=H/\x=.int (lo+i),fun i _=>n<=i⟩
def ZaG(a it:Addr):K5 P w K tg (Itl K a) [it] it (fun i h=>h.IsListIter it a i) where
 mem:=by simp
 obj:=fun i h st b hb=>by
  have e:b=it:=by simpa using hb
  subst e;obtain⟨o,e,c,d⟩:=st;exact⟨o,e,fun v z=>by rw[d] at z;cases z⟩
 keep:=fun i h h' st k=>st.at fun o e=>k it (by simp) o e
 item:=by
  intro X hP hw hK hc i cQ s U H E I hf st hg;subst hP hw hK;obtain⟨xs,x,hq,hx⟩:=hg;obtain⟨its,rv,p,hz⟩:=I.list hq;obtain⟨u,hu,ru⟩:=rv.get hx;obtain⟨f0,f1,f2,f3,f4,f5⟩:=hf it (by simp);refine wpAny_pyNext_list_item st p.isList (x:=u) (by simpa using hu) fun h' st' sb=>?_;have I1:Inv X cQ U H { s with heap:=h' }:=I.turned (t':=s.toks) (fun b o hb e=>(sb.2 b hb).trans e) f0 f1 f3 f4 f5;obtain⟨o,e,c,d⟩:=id st';exact⟨u,rfl,Jq (s:={ s with heap:=h' }) e c d (by decide) ⟨x,H,I1,ru,⟨rfl,fun ys hy=>by rw[I.list_inj hy hq];exact hx⟩,st',fun b hb=>(hf b hb).1⟩⟩
 done:=by
  intro X hP hw hK hc i cQ s U H E I hf st hg;subst hP hw hK;obtain⟨xs,hq,hx⟩:=hg;obtain⟨its,rv,p,hz⟩:=I.list hq;obtain⟨f0,f1,f2,f3,f4,f5⟩:=hf it (by simp);have hl:=rv.length;exact wpAny_pyNext_list_end (I.ok.hd hc) st p.isList (by simp;omega) fun h' eb=>⟨rfl,I.turned (t':=s.toks) (fun b o hb e=>eb b o hb e) f0 f1 f3 f4 f5⟩
 self:=fun _ _ _ _ _ st h=>wpAny_pyIter_listiter st h
def Qg(a it:Addr):K5 P w K tg (Itt K a) [it] it (fun i h=>h.IsTupleIter it a i) where
 mem:=by simp
 obj:=fun i h st b hb=>by
  have e:b=it:=by simpa using hb
  subst e;obtain⟨o,e,c,d⟩:=st;exact⟨o,e,fun v z=>by rw[d] at z;cases z⟩
 keep:=fun i h h' st k=>st.at fun o e=>k it (by simp) o e
 item:=by
  intro X hP hw hK hc i cQ s U H E I hf st hg;subst hP hw hK;obtain⟨xs,x,hq,hx⟩:=hg;obtain⟨its,rv,p,hz⟩:=I.tuple hq;obtain⟨u,hu,ru⟩:=rv.get hx;obtain⟨f0,f1,f2,f3,f4,f5⟩:=hf it (by simp);refine wpAny_pyNext_tuple_item st (show s.heap.IsTuple a its.toArray from p) (x:=u) (by simpa using hu) fun h' st' sb=>?_;have I1:Inv X cQ U H { s with heap:=h' }:=I.turned (t':=s.toks) (fun b o hb e=>(sb.2 b hb).trans e) f0 f1 f3 f4 f5;obtain⟨o,e,c,d⟩:=id st';exact⟨u,rfl,Jq (s:={ s with heap:=h' }) e c d (by decide) ⟨x,H,I1,ru,⟨rfl,fun ys hy=>by rw[I.tuple_inj hy hq];exact hx⟩,st',fun b hb=>(hf b hb).1⟩⟩
 done:=by
  intro X hP hw hK hc i cQ s U H E I hf st hg;subst hP hw hK;obtain⟨xs,hq,hx⟩:=hg;obtain⟨its,rv,p,hz⟩:=I.tuple hq;obtain⟨f0,f1,f2,f3,f4,f5⟩:=hf it (by simp);have hl:=rv.length;exact wpAny_pyNext_tuple_end (I.ok.hd hc) st (show s.heap.IsTuple a its.toArray from p) (by simp;omega) fun h' eb=>⟨rfl,I.turned (t':=s.toks) (fun b o hb e=>eb b o hb e) f0 f1 f3 f4 f5⟩
 self:=fun _ _ _ _ _ st h=>wpAny_pyIter_tupleiter st h
def Qm(it:Addr)(lo:Int)(n:Nat):K5 P w K tg (Itr lo n) [it] it (fun i h=>IsRangeIter h it (lo+(i:Nat)*1) ((n:Int)-(i:Nat)) 1) where
 mem:=by simp
 obj:=fun i h st b hb=>by
  have e:b=it:=by simpa using hb
  subst e;exact⟨_,st,fun v z=>by
   have z':Data.fields _=Data.cell v:=z;cases z'⟩
 keep:=fun i h h' st k=>k it (by simp) _ st
 item:=by
  intro X hP hw hK hc i cQ s U H E I hf st hg;subst hP hw hK;obtain⟨f0,f1,f2,f3,f4,f5⟩:=hf it (by simp);have W:=Walks.range (prog:=X.prog) (w:=X.w) (I.ok.hd hc) it lo 1 n;refine W.item i s _ _ hg st fun v h' tk hv st' kk=>?_;obtain⟨t,rfl⟩:=hv;have I1:Inv X cQ U H { s with heap:=h',toks:=tk }:=I.turned (fun b o hb e=>kk b o (by simpa using hb) e) f0 f1 f3 f4 f5;refine⟨_,rfl,Jq (s:={ s with heap:=h',toks:=tk }) (n := "range_iterator") st' rfl rfl (by decide) ⟨.int (lo+i),H,I1,⟨t,?_⟩,⟨rfl,rfl⟩,st',fun b hb=>(hf b hb).1⟩⟩;rw[Int.mul_one]
 done:=by
  intro X hP hw hK hc i cQ s U H E I hf st hg;subst hP hw hK;obtain⟨f0,f1,f2,f3,f4,f5⟩:=hf it (by simp);exact wpAny_pyNext_range_end (I.ok.hd hc) st (by have:n<=i:=hg;omega) fun h' eb=>⟨rfl,I.turned (t':=s.toks) (fun b o hb e=>eb b o hb e) f0 f1 f3 f4 f5⟩
 self:=fun _ _ _ _ _ st h=>wpAny_pyIter_rangeiter st h
end L2
variable{wi:L2.TI}{J:L2.It}
namespace L2
open PySem PySem.Spec PyProof.Rows
inductive Zf1(K:W.Frag)(x:V)(H:Hp)(R:It->Hp->Prop):Prop
 |mk (a:Addr) (h:x=.ref a) (h2:∃xs,SqL K H a xs) (k:R (Itl K a) H):Zf1 K x H R
def Zen(K:W.Frag)(tl:TE):TI:=fun U H R=>tl U H fun x H1=>Zf1 K x H1 R
def Zgt(K:W.Frag)(tl:TE):TI:=fun U H R=>tl U H fun x H1=>∃a,x=.ref a/\(∃xs,SqT K H1 a xs)/\R (Itt K a) H1
def ZdY{l:Expr}(hl:PE X l tl):PI X tg l (Zen X.K tl):=by
 intro cQ s U H R I h;refine thn (hl cQ s U H _ I h) fun v s1 ⟨x,H1,I1,r1,q1⟩=>?_;obtain⟨a,e,⟨xs,hq⟩,q⟩:=q1;subst e;cases r1;obtain⟨its,rv,p,hz⟩:=I1.list hq;refine mY p.isList ?_;refine⟨s1.heap.objs.size,[s1.heap.objs.size],_,_,H1,rfl,I1.kept (t':=s1.toks) fun b o e=>fz _ e,ZaG a _,⟨_,fR _ rfl,rfl,rfl⟩,fun b hb=>?_,q⟩;have e:b=s1.heap.objs.size:=by simpa using hb
 subst e;exact I1.fpOk (fh _) (I1.hok.fresh (fh _))
def Zff{l:Expr}(hl:PE X l tl):PI X tg l (Zgt X.K tl):=by
 intro cQ s U H R I h;refine thn (hl cQ s U H _ I h) fun v s1 ⟨x,H1,I1,r1,q1⟩=>?_;obtain⟨a,e,⟨xs,hq⟩,q⟩:=q1;subst e;cases r1;obtain⟨its,rv,p,hz⟩:=I1.tuple hq;refine wpAny_pyIter_tuple (show s1.heap.IsTuple a its.toArray from p) ?_;refine⟨s1.heap.objs.size,[s1.heap.objs.size],_,_,H1,rfl,I1.kept (t':=s1.toks) fun b o e=>fz _ e,Qg a _,⟨_,fR _ rfl,rfl,rfl⟩,fun b hb=>?_,q⟩;have e:b=s1.heap.objs.size:=by simpa using hb
 subst e;exact I1.fpOk (fh _) (I1.hok.fresh (fh _))
def k7{R:It->Hp->Prop}{lo hi:Int}{t u v:Tok}{tk:Nat}(I:Inv X cQ U H s)(h1:-(2 ^ 62)<=lo)(h2:lo<2 ^ 62)(h3:-(2 ^ 62)<=hi)(h4:hi<2 ^ 62)
  (q:R (Itr lo (hi-lo).toNat) H):wpAny (model X.prog X.w) X.A (pyIter (.ref s.heap.objs.size)) (PIE X cQ U tg R) E { s with heap:=s.heap.push { cls:=.type "range",data:=.fields #[.int lo t,.int hi u,.int 1 v] },toks:=tk }:=by
 refine wpAny_pyIter_range (IsRange.new ..) (small_one h1 h2 h3 h4) ?_;have I1:Inv X cQ U H { s with heap:=s.heap.push { cls:=.type "range",data:=.fields #[.int lo t,.int hi u,.int 1 v] },toks:=tk }:=I.kept fun b o e=>fz _ e;refine⟨(s.heap.push { cls:=.type "range",data:=.fields #[.int lo t,.int hi u,.int 1 v] }).objs.size,[(s.heap.push { cls:=.type "range",data:=.fields #[.int lo t,.int hi u,.int 1 v] }).objs.size],_,_,H,rfl,
  I1.kept (t':=tk) fun b o e=>fz _ e,Qm _ lo (hi-lo).toNat,?_,fun b hb=>?_,q⟩
 ·have e1:lo+((0:Nat):Int)*1=lo:=by simp
  have e2:(((hi-lo).toNat:Nat):Int)-((0:Nat):Int)=Builtin.Range.rangeSize lo hi 1:=by rw[rangeSize_one];split<;>omega
  show IsRangeIter _ _ (lo+((0:Nat):Int)*1) ((((hi-lo).toNat:Nat):Int)-((0:Nat):Int)) 1
  rw[e1,e2];exact fR _ rfl
 ·have e:b=(s.heap.push { cls:=.type "range",data:=.fields #[.int lo t,.int hi u,.int 1 v] }).objs.size:=by simpa using hb
  subst e;exact I1.fpOk (fh _) (I1.hok.fresh (fh _))
def ZfL(ta:TA):TI:=fun U H R=>ta U H fun vs H1=>∃j:Int,vs=[.int j]/\-(2 ^ 62)<=j/\j<2 ^ 62/\R (Itr 0 j.toNat) H1
def Zgv(ta:TA):TI:=fun U H R=>ta U H fun vs H1=>∃i j:Int,vs=[.int i,.int j]/\(-(2 ^ 62)<=i/\i<2 ^ 62/\-(2 ^ 62)<=j/\j<2 ^ 62)/\R (Itr i (j-i).toNat) H1
def Xo{a:Expr}{p:Pos}(hg:Gl X "range")(hm:X.mg "range" = none)(ha:PA X [a] ta)(hs:starEach [a] X.env=[(false,eval a X.env)]:=by rfl):PI X tg (.Call (.Name "range" p) [a] [] pos) (ZfL ta):=by
 intro cQ s U H R I h;refine Call_ (Ul I hg hm boot_range (l9 (thn (ha pos cQ s U H _ I h) fun us s1 ⟨vs,H1,I1,r1,q1⟩=>?_) hs rfl));obtain⟨j,e,q1,q2,q⟩:=q1;subst e;cases r1 with
 |cons r rr=>
  cases rr;obtain⟨t,rfl⟩:=r;exact call_range_1 (k7 I1 (by omega) (by omega) q1 q2 (by simpa using q))
def ZaI{a b:Expr}{p:Pos}(hg:Gl X "range")(hm:X.mg "range" = none)(ha:PA X [a,b] ta)(hs:starEach [a,b] X.env=[(false,eval a X.env),(false,eval b X.env)]:=by rfl)(hs2:starEach [b] X.env=[(false,eval b X.env)]:=by rfl) :
  PI X tg (.Call (.Name "range" p) [a,b] [] pos) (Zgv ta):=by
 intro cQ s U H R I h;refine Call_ (Ul I hg hm boot_range (l9 (thn (ha pos cQ s U H _ I h) fun us s1 ⟨vs,H1,I1,r1,q1⟩=>?_) (by rw[hs,hs2]) (by rw[hs2];rfl)));obtain⟨i,j,e,⟨q1,q2,q3,q4⟩,q⟩:=q1;subst e;cases r1 with
 |cons r rr=>
  cases rr with
  |cons r' rr=>
   cases rr;obtain⟨t,rfl⟩:=r;obtain⟨t',rfl⟩:=r';exact call_range_2 (k7 I1 q1 q2 q3 q4 q)
def tFor(wi:TI)(g:TG)(tb:TS):TS:=fun D U H=>wi U H fun J H1=>∃W:Nat->Nat->St->Hp->Prop,(∃m,W 0 m U H1)/\∀i m U H,W i m U H ->
 (J.stop i H/\D.nx U H)\/(J.go i H/\∃N:St->Hp->Prop,(∀σ' H',N σ' H'->∃m',m'<m/\W (i+1) m' σ' H')/\∀x H',J.yld i H x H'->g x U H' fun σ2 H2=>tb { D with nx:=N,ct:=N,bk:=D.nx } σ2 H2)
def qL(fp:List Addr)(h:Heap):List (Addr×Obj):=fp.filterMap fun b=>(h.get? b).map fun o=>(b,o)
def Wu{b:Addr}{o:Obj}(hb:b∈fp)(e:h.get? b=some o):(b,o)∈qL fp h:=List.mem_filterMap.mpr ⟨b,hb,by rw[e];rfl⟩
def ZaJ{p:Addr×Obj}(hp:p∈qL fp h):p.1∈fp/\h.get? p.1=some p.2:=by
 obtain⟨b,hb,e⟩:=List.mem_filterMap.mp hp;cases q:h.get? b with
 |none=>rw[q] at e;cases e
 |some o=>
  rw[q] at e;have e':(b,o)=p:=fO e;subst e';exact⟨hb,q⟩
def Inv.pinned(I:Inv X cQ U H s)(hf:∀b∈fp,VM X cQ H b)(ho:∀b∈fp,∃o,s.heap.get? b=some o/\∀v,o.data≠.cell v):Inv X (cQ++qL fp s.heap) U H s:=
 I.pins_of fun p hp=>(fG.mp hp).elim (fun z=>I.pin p (gi _ z)) fun z=>by
  obtain⟨hb,e⟩:=ZaJ z;obtain⟨f0,f1,f2,_⟩:=hf p.1 hb;obtain⟨o,e',d⟩:=ho p.1 hb;rw[e] at e';cases e';exact⟨e,f0,f1,f2,d⟩
def Inv.unpinned{pl:List (Addr×Obj)}(I:Inv X (cQ++pl) U H s):Inv X cQ U H s:=I.pins_of fun p hp=>I.pin p (gi _ (gS _ hp))
def XF{g:TG}(hp:PassesOwn (model X.prog X.w) X.A X.env X.xe)(hc:X.calm=true)(hi:PI X tg iter wi)(hg:PG X tg g)(hb:PSs X body tb)
  (hs:∀x,foldedSetIterable iter X.env x=pure x:=by intro _;rfl):PS X (.For tg iter body [] pos) (tFor wi g tb):=by
 intro cQ s U H D I h;refine wpAny_For (thn (hi cQ s U H _ I h) fun v s1 h1=>thn h1 fun itv s2 h2=>?_) hs;obtain⟨it,fp,tn,J,H2,e,I2,T,st2,f2,W,⟨m0,w0⟩,turn⟩:=h2;subst e;have stat:∀{H':Hp},(∀b∈fp,H' b=none)->∀b∈fp,VM X cQ H' b:=fun hn b hb=>⟨hn b hb,(f2 b hb).2⟩;refine codeAny_forLoop_any (fun n s'=>∃i σ' H',Inv X cQ σ' H' s'/\tn i s'.heap/\(∀b∈fp,H' b=none)/\W i n σ' H') ?_ m0 ⟨0,U,H2,I2,st2,fun b hb=>(f2 b hb).1,w0⟩;rintro n s3 ⟨i,σ3,H3,I3,st3,fr3,w3⟩;rcases turn i n σ3 H3 w3 with⟨stop,qn⟩|⟨go,N,hN,step⟩
 ·refine lG hp (thn (T.done X rfl rfl rfl hc i cQ s3 σ3 H3 X.xe I3 (stat fr3) st3 stop) fun r s4 ⟨hr,I4⟩=>?_);subst hr;exact wpAny_execs_nil ⟨σ3,H3,I4,qn⟩
 ·refine lG hp (thn (T.item X rfl rfl rfl hc i cQ s3 σ3 H3 X.xe I3 (stat fr3) st3 go) fun r s4 ⟨u,hr,h4⟩=>?_);subst hr;refine lG hp (thn h4 fun _ s5 ⟨x,H5,I5,r5,y5,st5,fr5⟩=>?_);have I5':=I5.pinned (stat fr5) (T.obj _ _ st5);refine lG hp (thn (hg _ s5 σ3 H5 x u _ I5' r5 (step x H5 y5)) fun _ s6 ⟨σ6,H6,I6,q6⟩=>?_);refine lG hp (thn (hb _ s6 σ6 H6 _ I6 q6) fun f s7 q7=>?_);have again:∀{σ7:St}{H7:Hp},Inv X (cQ++qL fp s5.heap) σ7 H7 s7->N σ7 H7->∃m,m<n/\∃i σ' H',Inv X cQ σ' H' s7/\tn i s7.heap/\(∀b∈fp,H' b=none)/\W i m σ' H':=fun {σ7 H7} I7 n7=>by
   obtain⟨m',hm,w7⟩:=hN σ7 H7 n7;refine⟨m',hm,i+1,σ7,H7,I7.unpinned,T.keep _ _ _ st5 fun b hb o e=>(I7.pin (b,o) (gi _ (gi _ (Wu hb e)))).1,fun b hb=>?_,w7⟩;obtain⟨o,e,d⟩:=T.obj _ _ st5 b hb;exact(I7.pin (b,o) (gi _ (gi _ (Wu hb e)))).2.1
  cases f with
  |next=>obtain⟨σ7,H7,I7,n7⟩:=q7;exact again I7 n7
  |cont=>obtain⟨σ7,H7,I7,n7⟩:=q7;exact again I7 n7
  |brk=>obtain⟨σ7,H7,I7,q7⟩:=q7;exact⟨σ7,H7,I7.unpinned,q7⟩
  |ret v=>obtain⟨x7,σ7,H7,I7,r7,q7⟩:=q7;exact⟨x7,σ7,H7,I7.unpinned,r7,q7⟩
def Zcz{a:Addr}{xs:List V}{g:TG}{D:Kj}(Pv:Nat->St->Hp->Prop)(h0:Pv 0 U H)(hl:∀i U H,i<=xs.length->Pv i U H->SqL K H a xs)
  (hs:∀i x U H,xs[i]?=some x->Pv i U H->g x U H fun σ2 H2=>tb { D with nx:=Pv (i+1),ct:=Pv (i+1),bk:=D.nx } σ2 H2) (hd:∀U H,Pv xs.length U H->D.nx U H) :
  ∃W:Nat->Nat->St->Hp->Prop,(∃m,W 0 m U H)/\∀i m U H,W i m U H ->
   ((Itl K a).stop i H/\D.nx U H)\/((Itl K a).go i H/\∃N:St->Hp->Prop,(∀σ' H',N σ' H'->∃m',m'<m/\W (i+1) m' σ' H')/\∀x H',(Itl K a).yld i H x H'->g x U H' fun σ2 H2=>tb { D with nx:=N,ct:=N,bk:=D.nx } σ2 H2):=by
 refine⟨fun i m U H=>m=xs.length-i/\i<=xs.length/\Pv i U H,⟨xs.length,by simp,gk _,h0⟩,?_⟩;rintro i m U H ⟨rfl,hi,p⟩;have q:=hl i U H hi p
 by_cases hlt:i<xs.length
 ·refine .inr ⟨⟨xs,xs[i],q,by simp[hlt]⟩,Pv (i+1),fun σ' H' p'=>⟨xs.length-(i+1),by omega,rfl,hlt,p'⟩,fun x H' y=>?_⟩;obtain⟨e,y⟩:=y;subst e;exact hs i x U _ (y xs q) p
 ·have e:i=xs.length:=by omega
  subst e;exact .inl ⟨⟨xs,q,fh _⟩,hd U H p⟩
abbrev R2:=V->V->Hp->VK->Prop
def OpR(X:Cx)(f:Value->Value->Sem Value)(r:R2):Prop:=
 ∀(cQ:List (Addr×Obj)) (s:Shared) (U:St) (H:Hp) (x y:V) (v u:Value) (Q:VK),Inv X cQ U H s->ZZ x v->ZZ y u->r x y H Q ->
  wpAny (model X.prog X.w) X.A (f v u) (EP X cQ U Q) X.xe s
def UnR(X:Cx)(f:Value->Sem Value)(r:V->Hp->VK->Prop):Prop:=
 ∀(cQ:List (Addr×Obj)) (s:Shared) (U:St) (H:Hp) (x:V) (v:Value) (Q:VK),Inv X cQ U H s->ZZ x v->r x H Q ->
  wpAny (model X.prog X.w) X.A (f v) (EP X cQ U Q) X.xe s
def Yw(X:Cx)(f:Value)(r:List V->Hp->VK->Prop):Prop:=
 ∀(cQ:List (Addr×Obj)) (s:Shared) (U:St) (H:Hp) (xs:List V) (us:List Value) (Q:VK),Inv X cQ U H s->ZM xs us->r xs H Q ->
  wpAny (model X.prog X.w) X.A (call f us) (EP X cQ U Q) X.xe s
def TruR(X:Cx)(r:V->Hp->(Bool->Hp->Prop)->Prop):Prop:=
 ∀(cQ:List (Addr×Obj)) (s:Shared) (U:St) (H:Hp) (x:V) (v:Value) (Q:Bool->Hp->Prop),Inv X cQ U H s->ZZ x v->r x H Q ->
  wpAny (model X.prog X.w) X.A (truthy v) (TP X cQ U Q) X.xe s
def tOp(r:R2)(ta tb:TE):TE:=fun U H Q=>ta U H fun x H1=>tb U H1 fun y H2=>r x y H2 Q
def tUn(r:V->Hp->VK->Prop)(ta:TE):TE:=fun U H Q=>ta U H fun x H1=>r x H1 Q
inductive Zf5(C:Int->Int->Prop)(g:Int->Int->V)(x:V)(y:V)(H:Hp)(Q:VK):Prop
 |mk (i:_) (j:_) (h0:x=.int i) (h1:y=.int j) (h2:C i j) (h3:Q (g i j) H):Zf5 C g x y H Q
def rI(C:Int->Int->Prop)(g:Int->Int->V):R2:=fun x y H Q=>Zf5 C g x y H Q
inductive Zem(g:Int->Int->V)(x:V)(y:V)(H:Hp)(Q:VK):Prop
 |mk (i:_) (j:_) (h0:x=.int i) (h1:y=.int j) (h2:Q (g i j) H):Zem g x y H Q
def rI0(g:Int->Int->V):R2:=fun x y H Q=>Zem g x y H Q
inductive ZfR(g:Int->V)(x:V)(H:Hp)(Q:VK):Prop
 |mk (i:_) (h0:x=.int i) (h1:Q (g i) H):ZfR g x H Q
def rU(g:Int->V):V->Hp->VK->Prop:=fun x H Q=>ZfR g x H Q
section
variable{a b c:Expr}{ta tb tc:TE}
theorem Zfb(ha:PE X a ta)(hb:PE X b tb){R:V->V->Hp->Prop}(I:Inv X cQ U H s)
  (h:ta U H fun x H1=>tb U H1 fun y H2=>R x y H2) {f:Value->Value->Sem Value}
  (hf:∀v u s2 x y H2,Inv X cQ U H2 s2->ZZ x v->ZZ y u->R x y H2->wpAny (model X.prog X.w) X.A (f v u) Q X.xe s2) :
  wpAny (model X.prog X.w) X.A (eval a X.env) (fun v s₁=>wpAny (model X.prog X.w) X.A (eval b X.env) (fun u s₂=>wpAny (model X.prog X.w) X.A (f v u) Q X.xe s₂) X.xe s₁) X.xe s:=by
 refine thn (ha cQ s U H _ I h) fun v s1 ⟨x,H1,I1,r1,q1⟩=>?_;refine thn (hb cQ s1 U H1 _ I1 q1) fun u s2 ⟨y,H2,I2,r2,q2⟩=>?_;exact hf v u s2 x y H2 I2 r1 r2 q2
theorem ZR{op:Operator}{r:R2}(ho:OpR X (binaryOp op) r)(ha:PE X a ta)(hb:PE X b tb):PE X (.BinOp a op b pos) (tOp r ta tb):=by
 intro cQ s U H Q I h;exact wpAny_BinOp (Zfb ha hb I h fun v u s2 x y H2 I2 rx ry q=>ho cQ s2 U H2 x y v u Q I2 rx ry q)
theorem Vx{op:UnaryOp}{r:V->Hp->VK->Prop}(ho:UnR X (unaryOp op) r)(ha:PE X a ta):PE X (.UnaryOp op a pos) (tUn r ta):=by
 intro cQ s U H Q I h;exact UnaryOp_ (thn (ha cQ s U H _ I h) fun v s1 ⟨x,H1,I1,r1,q1⟩=>ho cQ s1 U H1 x v Q I1 r1 q1)
theorem opI{f:Value->Value->Sem Value}{C:Int->Int->Prop}{g:Int->Int->Int}
  (rule:∀(i j:Int) (t u:Tok) (s:Shared) (Q:Value->Shared->Prop) (E:Value->Shared->Prop),C i j->Q (.int (g i j) s.toks) { s with toks:=s.toks+1 }->wpAny (model X.prog X.w) X.A (f (.int i t) (.int j u)) Q E s) :
  OpR X f (rI C fun i j=>.int (g i j)):=by
 intro cQ s U H x y v u Q I rx ry h;obtain⟨i,j,rfl,rfl,hc,q⟩:=h;obtain⟨t,rfl⟩:=rx;obtain⟨t',rfl⟩:=ry;exact rule i j t t' s _ _ hc ⟨.int (g i j),H,I.tok _,⟨_,rfl⟩,q⟩
theorem ZfP{f:Value->Value->Sem Value}{g:Int->Int->Int}
  (rule:∀(i j:Int) (t u:Tok) (s:Shared) (Q:Value->Shared->Prop) (E:Value->Shared->Prop),Q (.int (g i j) s.toks) { s with toks:=s.toks+1 }->wpAny (model X.prog X.w) X.A (f (.int i t) (.int j u)) Q E s) :
  OpR X f (rI0 fun i j=>.int (g i j)):=by
 intro cQ s U H x y v u Q I rx ry h;obtain⟨i,j,rfl,rfl,q⟩:=h;obtain⟨t,rfl⟩:=rx;obtain⟨t',rfl⟩:=ry;exact rule i j t t' s _ _ ⟨.int (g i j),H,I.tok _,⟨_,rfl⟩,q⟩
theorem Zdo{f:Value->Value->Sem Value}{g:Int->Int->Bool}
  (rule:∀(i j:Int) (t u:Tok) (s:Shared) (Q:Value->Shared->Prop) (E:Value->Shared->Prop),Q (.bool (g i j)) s->wpAny (model X.prog X.w) X.A (f (.int i t) (.int j u)) Q E s) :
  OpR X f (rI0 fun i j=>.bl (g i j)):=by
 intro cQ s U H x y v u Q I rx ry h;obtain⟨i,j,rfl,rfl,q⟩:=h;obtain⟨t,rfl⟩:=rx;obtain⟨t',rfl⟩:=ry;exact rule i j t t' s _ _ ⟨.bl (g i j),H,I,rfl,q⟩
def CDiv(i j:Int):Prop:=0<j/\j<1073741824
def CPow(i j:Int):Prop:=0<=j/\j<=1000000/\i.natAbs<2 ^ 64
def Zfd(i j:Int):Prop:=(-(2 ^ 64)<i/\i<2 ^ 64)\/(-(2 ^ 64)<j/\j<2 ^ 64)
theorem Zfd.ok{i j:Int}(h:Zfd i j):IntMulOk i j:=by
 rcases h with⟨h1,h2⟩|⟨h1,h2⟩
 ·exact .of_left (intBits_le_64 h1 h2)
 ·exact .of_right (intBits_le_64 h1 h2)
theorem XC:OpR X (binaryOp .Add) (rI0 fun i j=>.int (i+j)):=ZfP fun _ _ _ _ _ _ _ q=>add_int q
theorem Vh:OpR X (binaryOp .Sub) (rI0 fun i j=>.int (i-j)):=ZfP fun _ _ _ _ _ _ _ q=>sub_int q
theorem xW:OpR X (binaryOp .Mult) (rI Zfd fun i j=>.int (i*j)):=opI fun _ _ _ _ _ _ _ hc q=>mul_int q hc.ok
theorem U4:OpR X (binaryOp .FloorDiv) (rI CDiv fun i j=>.int (i/j)):=opI fun i j _ _ _ _ _ hc q=>by
 have h1:(0:Int)<j:=hc.1;have h2:j<1073741824:=hc.2;exact floordiv_int (by omega) (by rw[Int.fdiv_eq_ediv_of_nonneg i (by omega)];exact q) (.inl (PyProof.noPylong_small (by omega)))
theorem Uf:OpR X (binaryOp .Mod) (rI (fun _ j=>0<j) fun i j=>.int (i%j)):=opI fun i j _ _ _ _ _ hc q=>by
 have h1:(0:Int)<j:=hc;exact mod_int' (by omega) (by rw[Int.fmod_eq_emod_of_nonneg i (by omega)];exact q)
theorem ZeB:OpR X (binaryOp .Pow) (rI CPow fun i j=>.int (i ^ j.toNat)):=opI fun _ _ _ _ _ _ _ hc q=>pow_int_small hc.1 hc.2.1 hc.2.2 q
theorem unI{f:Value->Sem Value}{g:Int->Int}
  (rule:∀(i:Int) (t:Tok) (s:Shared) (Q:Value->Shared->Prop) (E:Value->Shared->Prop),Q (.int (g i) s.toks) { s with toks:=s.toks+1 }->wpAny (model X.prog X.w) X.A (f (.int i t)) Q E s) :
  UnR X f (rU fun i=>.int (g i)):=by
 intro cQ s U H x v Q I rx h;obtain⟨i,rfl,q⟩:=h;obtain⟨t,rfl⟩:=rx;exact rule i t s _ _ ⟨.int (g i),H,I.tok _,⟨_,rfl⟩,q⟩
theorem We:UnR X (unaryOp .USub) (rU fun i=>.int (-i)):=unI fun _ _ _ _ _ q=>neg_int q
end
def ZgL:V->V->Bool
 |.non,.non=>true|.non,.int _=>true|.int _,.non=>true|.non,.bl _=>true|.bl _,.non=>true|.non,.str _=>true|.str _,.non=>true
 |.int _,.int _=>true|.bl _,.bl _=>true|.str _,.str _=>true|.byt _,.byt _=>true
 |.int _,.str _=>true|.str _,.int _=>true|.bl _,.str _=>true|.str _,.bl _=>true
 |_,_=>false
inductive Zel(x y:V)(H:Hp)(Q:VK):Prop
 |mk (h:ZgL x y=true) (k:Q (.bl (decide (x=y))) H):Zel x y H Q
inductive Zet(x y:V)(H:Hp)(Q:VK):Prop
 |mk (h:ZgL x y=true) (k:Q (.bl (!decide (x=y))) H):Zet x y H Q
def rEq:R2:=fun x y H Q=>Zel x y H Q
def rNe:R2:=fun x y H Q=>Zet x y H Q
def QA{i j:Int}:decide (V.int i=V.int j)=(i==j):=by
 rw[iY];simp
def ZbJ{i j:Bool}:decide (V.bl i=V.bl j)=(i==j):=by
 rw[iY];simp
def Q6{i j:Str}:decide (V.str i=V.str j)=(i==j):=by
 rw[iY];simp
def QC{i j:Array UInt8}:decide (V.byt i=V.byt j)=(i.toList==j.toList):=by
 rw[iY];cases i;cases j;simp
section
variable{X:Cx}{a b c:Expr}{ta tb tc:TE}{pos:Pos}
theorem Yg{Q:VK}{k k':Bool}(I:Inv X cQ U H s)(q:Q (.bl k) H)(e:k=k'):EP X cQ U Q (.bool k') s:=by
 subst e;exact⟨.bl k,H,I,rfl,q⟩
theorem YC:OpR X (compareOp .Eq) rEq:=by
 intro cQ s U H x y v u Q I rx ry h;obtain⟨hs,q⟩:=h;cases x with
 |non=>
  cases rx;cases y with
  |non=>cases ry;exact PySem.EqNone.eq_none_none (Yg I q (by simp))
  |bl j=>cases ry;exact PySem.EqNone.eq_none_bool (Yg I q (by simp))
  |int j=>obtain⟨t',rfl⟩:=ry;exact PySem.EqNone.eq_none_int (Yg I q (by simp))
  |str j=>obtain⟨t',rfl⟩:=ry;exact PySem.EqNone.eq_none_str (Yg I q (by simp))
  |_=>exact absurd (show false=true from hs) fV
 |bl i=>
  cases rx;cases y with
  |non=>cases ry;exact PySem.EqNone.eq_bool_none (Yg I q (by simp))
  |bl j=>cases ry;exact eq_bool (Yg I q ZbJ)
  |str j=>obtain⟨t',rfl⟩:=ry;exact PySem.EqMixed.eq_bool_str (Yg I q (by simp))
  |_=>exact absurd (show false=true from hs) fV
 |int i=>
  obtain⟨t,rfl⟩:=rx;cases y with
  |non=>cases ry;exact PySem.EqNone.eq_int_none (Yg I q (by simp))
  |int j=>obtain⟨t',rfl⟩:=ry;exact eq_int (Yg I q QA)
  |str j=>obtain⟨t',rfl⟩:=ry;exact PySem.EqMixed.eq_int_str (Yg I q (by simp))
  |_=>exact absurd (show false=true from hs) fV
 |str i=>
  obtain⟨t,rfl⟩:=rx;cases y with
  |non=>cases ry;exact PySem.EqNone.eq_str_none (Yg I q (by simp))
  |bl j=>cases ry;exact PySem.EqMixed.eq_str_bool (Yg I q (by simp))
  |int j=>obtain⟨t',rfl⟩:=ry;exact PySem.EqMixed.eq_str_int (Yg I q (by simp))
  |str j=>obtain⟨t',rfl⟩:=ry;exact eq_str (Yg I q Q6)
  |_=>exact absurd (show false=true from hs) fV
 |byt i=>
  obtain⟨t,rfl⟩:=rx;cases y with
  |byt j=>obtain⟨t',rfl⟩:=ry;exact W.eq_bytes (Yg I q QC)
  |_=>exact absurd (show false=true from hs) fV
 |_=>cases y<;>exact absurd (show false=true from hs) fV
theorem Zbw:OpR X (compareOp .NotEq) rNe:=by
 intro cQ s U H x y v u Q I rx ry h;obtain⟨hs,q⟩:=h;cases x with
 |non=>
  cases rx;cases y with
  |non=>cases ry;exact PySem.EqNone.ne_none_none (Yg I q (by simp))
  |bl j=>cases ry;exact PySem.EqNone.ne_none_bool (Yg I q (by simp))
  |int j=>obtain⟨t',rfl⟩:=ry;exact PySem.EqNone.ne_none_int (Yg I q (by simp))
  |str j=>obtain⟨t',rfl⟩:=ry;exact PySem.EqNone.ne_none_str (Yg I q (by simp))
  |_=>exact absurd (show false=true from hs) fV
 |bl i=>
  cases rx;cases y with
  |non=>cases ry;exact PySem.EqNone.ne_bool_none (Yg I q (by simp))
  |bl j=>cases ry;exact ne_bool (Yg I q (fI not ZbJ))
  |str j=>obtain⟨t',rfl⟩:=ry;exact PySem.EqMixed.ne_bool_str (Yg I q (by simp))
  |_=>exact absurd (show false=true from hs) fV
 |int i=>
  obtain⟨t,rfl⟩:=rx;cases y with
  |non=>cases ry;exact PySem.EqNone.ne_int_none (Yg I q (by simp))
  |int j=>obtain⟨t',rfl⟩:=ry;exact ne_int (Yg I q (fI not QA))
  |str j=>obtain⟨t',rfl⟩:=ry;exact PySem.EqMixed.ne_int_str (Yg I q (by simp))
  |_=>exact absurd (show false=true from hs) fV
 |str i=>
  obtain⟨t,rfl⟩:=rx;cases y with
  |non=>cases ry;exact PySem.EqNone.ne_str_none (Yg I q (by simp))
  |bl j=>cases ry;exact PySem.EqMixed.ne_str_bool (Yg I q (by simp))
  |int j=>obtain⟨t',rfl⟩:=ry;exact PySem.EqMixed.ne_str_int (Yg I q (by simp))
  |str j=>obtain⟨t',rfl⟩:=ry;exact ne_str (Yg I q (fI not Q6))
  |_=>exact absurd (show false=true from hs) fV
 |byt i=>
  obtain⟨t,rfl⟩:=rx;cases y with
  |byt j=>obtain⟨t',rfl⟩:=ry;exact W.ne_bytes (Yg I q (fI not QC))
  |_=>exact absurd (show false=true from hs) fV
 |_=>cases y<;>exact absurd (show false=true from hs) fV
theorem jk:OpR X (compareOp .Lt) (rI0 fun i j=>.bl (decide (i<j))):=Zdo fun _ _ _ _ _ _ _ q=>lt_int q
theorem yj:OpR X (compareOp .LtE) (rI0 fun i j=>.bl (decide (i<=j))):=Zdo fun _ _ _ _ _ _ _ q=>le_int q
theorem Zew:OpR X (compareOp .Gt) (rI0 fun i j=>.bl (decide (j<i))):=Zdo fun _ _ _ _ _ _ _ q=>gt_int q
theorem ZfN:OpR X (compareOp .GtE) (rI0 fun i j=>.bl (decide (j<=i))):=Zdo fun _ _ _ _ _ _ _ q=>ge_int q
theorem Zan:OpR X (compareOp .In) (fun x y H Q=>∃i j,x=.str i/\y=.str j/\Q (.bl (!(Builtin.Str.occurrences j i 0 j.length 1).isEmpty)) H):=by
 intro cQ s U H x y v u Q I rx ry h;obtain⟨i,j,rfl,rfl,q⟩:=h;obtain⟨t,rfl⟩:=rx;obtain⟨t',rfl⟩:=ry;exact in_str (Yg I q rfl)
theorem ZK(b:Expr)(h:op≠.In:=by decide)(h2:op≠.NotIn:=by decide):behindInMarks op b=false:=by
 have e1:(op==CmpOp.In)=false:=by cases op<;>first|rfl|exact absurd rfl h
 have e2:(op==CmpOp.NotIn)=false:=by cases op<;>first|rfl|exact absurd rfl h2
 cases b<;>simp[behindInMarks,e1,e2]
theorem Xb{r:R2}(ho:OpR X (compareOp op) r)(ha:PE X a ta)(hb:PE X b tb)(hm:behindInMarks op b=false):PE X (.Compare a [op] [b] pos) (tOp r ta tb):=by
 intro cQ s U H Q I h;exact wpAny_Compare1 (Zfb ha hb I h fun v u s2 x y H2 I2 rx ry q=>ho cQ s2 U H2 x y v u Q I2 rx ry q) hm
def Zer(t:TE):TT:=fun U H Q=>t U H fun x H'=>Zck x H' Q
theorem Zw{r:R2}(ho:OpR X (compareOp op) r)(ha:PE X a ta)(hb:PE X b tb)(hm:behindInMarks op b=false):PT X (.Compare a [op] [b] pos) (Zer (tOp r ta tb)):=by
 intro cQ s U H Q I h;refine wpAny_isTrue_Compare1 (thn (ha cQ s U H _ I h) fun v s1 ⟨x,H1,I1,r1,q1⟩=>thn (hb cQ s1 U H1 _ I1 q1) fun u s2 ⟨y,H2,I2,r2,q2⟩=>
  thn (ho cQ s2 U H2 x y v u _ I2 r1 r2 q2) fun c s3 ⟨z,H3,I3,r3,k,e,q3⟩=>?_) hm
 subst e;cases r3;exact io ⟨H3,I3,q3⟩
def Zcj(r r':R2)(ta tb tc:TE):TE:=fun U H Q=>ta U H fun x H1=>tb U H1 fun y H2=>r x y H2 fun z H3=>∃k,z=.bl k /\
 (if k=true then tc U H3 fun w' H4=>r' y w' H4 Q else Q (.bl false) H3)
theorem J5{op':CmpOp}{r r':R2}(ho:OpR X (compareOp op) r)(ho':OpR X (compareOp op') r')(ha:PE X a ta)(hb:PE X b tb)(hc:PE X c tc)
  (hm:lastMarks [op,op'] [b,c]=false:=by with_unfolding_all rfl):PE X (.Compare a [op,op'] [b,c] pos) (Zcj r r' ta tb tc):=by
 intro cQ s U H Q I h;refine Compare_chain (thn (ha cQ s U H _ I h) fun v s1 ⟨x,H1,I1,r1,q1⟩=>chain_link (thn (hb cQ s1 U H1 _ I1 q1) fun u s2 ⟨y,H2,I2,r2,q2⟩=>
  thn (ho cQ s2 U H2 x y v u _ I2 r1 r2 q2) fun d s3 ⟨z,H3,I3,r3,k,e,q3⟩=>?_)) hm
 subst e;cases r3;refine io ?_;cases k with
 |false=>exact ite_ff ⟨.bl false,H3,I3,rfl,q3⟩
 |true=>exact ite_tt (chain_last (thn (hc cQ s3 U H3 _ I3 q3) fun w' s4 ⟨z',H4,I4,r4,q4⟩=>ho' cQ s4 U H4 y z' u w' Q I4 r2 r4 q4))
theorem Jn{op':CmpOp}{r r':R2}(ho:OpR X (compareOp op) r)(ho':OpR X (compareOp op') r')(ha:PE X a ta)(hb:PE X b tb)(hc:PE X c tc)
  (hm:lastMarks [op,op'] [b,c]=false:=by with_unfolding_all rfl):PT X (.Compare a [op,op'] [b,c] pos) (Zer (Zcj r r' ta tb tc)):=by
 intro cQ s U H Q I h;refine isTrue_chain (thn (ha cQ s U H _ I h) fun v s1 ⟨x,H1,I1,r1,q1⟩=>test_link (thn (hb cQ s1 U H1 _ I1 q1) fun u s2 ⟨y,H2,I2,r2,q2⟩=>
  thn (ho cQ s2 U H2 x y v u _ I2 r1 r2 q2) fun d s3 ⟨z,H3,I3,r3,k,e,q3⟩=>?_)) hm
 subst e;cases r3;refine io ?_;cases k with
 |false=>
  obtain⟨k',e',q'⟩:=q3;cases e';exact ite_ff ⟨H3,I3,q'⟩
 |true=>
  refine ite_tt (test_last (thn (hc cQ s3 U H3 _ I3 q3) fun w' s4 ⟨z',H4,I4,r4,q4⟩=>thn (ho' cQ s4 U H4 y z' u w' _ I4 r2 r4 q4) fun d' s5 ⟨z2,H5,I5,r5,k2,e2,q5⟩=>?_));subst e2;cases r5;exact io ⟨H5,I5,q5⟩
def ZeZ(K:W.Frag)(x:V)(H:Hp)(k:Bool):Prop:=
 match x with
 |.non=>k=false
 |.bl b=>k=b
 |.int i=>k=(i != 0)
 |.str y=>y.length<=sizeLine/\k=((y.length:Int) != 0)
 |.byt y=>y.size<=sizeLine/\k=((y.size:Int) != 0)
 |.ref p=>(∃xs,SqL K H p xs/\k = !xs.isEmpty)\/(∃xs,SqT K H p xs/\k = !xs.isEmpty)\/∃kvs,H p=some (.dK kvs)/\k = !kvs.isEmpty
 |_=>False
theorem Qs{kvs:List (κ×V)}{vs:List (κ×Value)}(r:KV kvs vs):(!vs.isEmpty) = !kvs.isEmpty:=by
 cases r<;>rfl
theorem xZ{xs:List V}(r:ZM xs its):(!its.toArray.isEmpty) = !xs.isEmpty:=by
 cases r<;>simp
theorem zK:(sizeLine:Nat)<2 ^ 63:=by rw[ft];decide
theorem ZfF:TruR X (fun x H Q=>∃k,ZeZ X.K x H k/\Q k H):=by
 intro cQ s U H x v Q I rx h;obtain⟨k,e,q⟩:=h;have hl:=zK;have hs:sizeLine=16777216:=ft;cases x with
 |non=>
  cases rx;have e':k=false:=e;subst e';exact truthy_none ⟨H,I,q⟩
 |bl b=>
  cases rx;have e':k=b:=e;subst e';exact io ⟨H,I,q⟩
 |int i=>
  obtain⟨t,rfl⟩:=rx;have e':k=(i != 0):=e;subst e';exact PySem.P.truthy_int ⟨H,I,q⟩
 |str y=>
  obtain⟨t,rfl⟩:=rx;obtain⟨hy,e'⟩:y.length<=sizeLine/\k=((y.length:Int) != 0):=e;subst e';exact PySem.P.truthy_str (by omega) ⟨H,I.tok _,q⟩
 |byt y=>
  obtain⟨t,rfl⟩:=rx;obtain⟨hy,e'⟩:y.size<=sizeLine/\k=((y.size:Int) != 0):=e;subst e';exact W.truthy_bytes (by omega) ⟨H,I.tok _,q⟩
 |ref p=>
  cases rx;have e':(∃xs,SqL X.K H p xs/\k = !xs.isEmpty)\/(∃xs,SqT X.K H p xs/\k = !xs.isEmpty)\/∃kvs,H p=some (.dK kvs)/\k = !kvs.isEmpty:=e;rcases e' with⟨xs,hx,e'⟩|⟨xs,hx,e'⟩|⟨kvs,hx,e'⟩
  ·subst e';obtain⟨its,r,pl,hz⟩:=I.list hx;have hlen:=r.length;exact wpAny_truthy_list pl.isList (by simp only[fL];omega) ⟨H,I.tok _,by rw[xZ r];exact q⟩
  ·subst e';obtain⟨its,r,pl,hz⟩:=I.tuple hx;have hlen:=r.length;exact truthy_tuple pl (by simp only[fL];omega) ⟨H,I.tok _,by rw[xZ r];exact q⟩
  ·subst e';obtain⟨hz,hS,vs,r,m⟩:kvs.length<=sizeLine/\(p==sysModules)=false/\∃vs,KV kvs vs/\s.heap.DictOf (ZC X.prog X.w) p vs:=I.hok p _ hx;have hlen:kvs.length=vs.length:=l8 r;exact wpAny_truthy_dict hS m (by omega) ⟨H,I.tok _,by rw[Qs r];exact q⟩
 |_=>exact(show False from e).elim
theorem Zbv(ha:PE X a ta)(he:∀whole,isTrue a X.env whole=(do let v <- whole;standAt a.pos;holding [v] (truthy v))) :
  PT X a (fun U H Q=>ta U H fun x H'=>∃k,ZeZ X.K x H' k/\Q k H'):=by
 intro cQ s U H Q I h;exact isTrue_plain (thn (ha cQ s U H _ I h) fun v s1 ⟨x,H1,I1,r1,q1⟩=>ZfF cQ s1 U H1 x v Q I1 r1 q1) (he _)
theorem Uh:OpR X (binaryOp .Add) (fun x y H Q=>∃i j,x=.str i/\y=.str j/\i.length+j.length<=sizeLine/\Q (.str (i++j)) H):=by
 intro cQ s U H x y v u Q I rx ry h;obtain⟨i,j,rfl,rfl,hz,q⟩:=h;obtain⟨t,rfl⟩:=rx;obtain⟨t',rfl⟩:=ry;exact add_str (fun t' tk=>⟨.str (i++j),H,I.tok _,⟨_,rfl⟩,q⟩) hz
theorem Vz{x:V}(r:ZM [x] us):∃u,us=[u]/\ZZ x u:=by
 cases r with
 |cons r1 r2=>cases r2;exact⟨_,rfl,r1⟩
theorem QY{x:V}(r:ZM [x,y] us):∃u w',us=[u,w']/\ZZ x u/\ZZ y w':=by
 cases r with
 |cons r1 r2=>
  cases r2 with
  |cons r3 r4=>cases r4;exact⟨_,_,rfl,r1,r3⟩
theorem ju(hc:X.calm=true):Yw X (.builtin "max") (fun xs H Q=>∃i j,xs=[.int i,.int j]/\Q (.int (if j>i then j else i)) H):=by
 intro cQ s U H xs us Q I r h;obtain⟨i,j,rfl,q⟩:=h;obtain⟨u,w',rfl,⟨t,rfl⟩,⟨t',rfl⟩⟩:=QY r;refine max_two_ints (I.ok.hd hc) fun h' tk k=>⟨_,H,I.kept k,?_,q⟩
 by_cases hj:j>i
 ·rw[if_pos hj,if_pos hj];exact⟨_,rfl⟩
 ·rw[if_neg hj,if_neg hj];exact⟨_,rfl⟩
end
structure K9(h:Heap)(x dx C:Addr)(mA:Str->Option Value):Prop where
 obj:h.get? x=some (W.instObj C dx)
 ns:h.Ns1 dx mA
 ne:dx≠x
def ZaH(n:h.Ns1 dx mA):∃od,h.get? dx=some od/\∀name,W.lookIn name od=some (mA name):=by
 obtain⟨o,es,ep,ho,hd,hk,_,hm⟩:=n;refine⟨o,ho,fun name=>?_⟩;have e:=hm name;unfold nsFind findBy at e;rw[<- Array.find?_toList] at e;unfold W.lookIn;rw[hd];dsimp only
 split
 ·rename_i y q
  rw[q] at e;exact fI some e
 ·rename_i q
  rw[q] at e;have a:es.toList.any (·.refKey)=false:=by
   rw[List.any_eq_false];intro y hy;obtain⟨z,t,hkey⟩:=hk y (Array.mem_toList_iff.mp hy);simp[DictEntry.refKey,hkey]
  have a':¬es.toList.any (·.refKey)=true:=by rw[a];exact fV
  rw[if_neg a'];exact fI some e
def K9.look{x:Addr}(I:K9 h x dx C mA):∃od,W.InstAt h x (W.instObj C dx) C (some od)/\∀name,W.lookIn name od=some (mA name):=
 let ⟨od,ho,hl⟩:=ZaH I.ns
 ⟨od,⟨I.obj,rfl,rfl,ho⟩,hl⟩
section
variable{x f:Addr}{name:Str}{v:Value}
theorem Zd2{expr:Bool}(X:K.In s.heap)(I:K9 s.heap x dx C mA)(hg:W.plainGet K C name=true)(hh:W.hasDictIn K C=true)
  (ha:W.findIn K (.ref C) name=some none) (hv:mA name=some v) (hv':W.handedIn v=true) (h:Q v { s with toks:=s.toks+1 }) :
  wpAny (model prog w) A (getAttr (.ref x) name expr) Q E s:=by
 obtain⟨od,J,hl⟩:=I.look;exact W.get_value X J (W.plainGet_of hg).1 (W.findObj_own hh ha rfl (by rw[hl,hv])) hv' h
theorem Zbb{Q:Value×List Value->Shared->Prop}(X:K.In s.heap)(I:K9 s.heap x dx C mA)(hg:W.plainGet K C name=true)
  (hf:W.findIn K (.ref C) name=some (some (.ref f))) (ht:W.isFn K (.ref f)=true) (hv:mA name=none) (h:Q (.ref f,[.ref x]) s) :
  wpAny (model prog w) A (getMethod (.ref x) name pl) Q E s:=by
 obtain⟨od,J,hl⟩:=I.look;exact W.method_fn X J (W.plainGet_of hg).1 (W.plainGet_of hg).2 hf (iZ.mp ht) (by show(W.lookIn name od).map (·.isSome)=some false;rw[hl,hv];rfl) h
theorem Zc9{ns:List Str}{Q:Unit->Shared->Prop}(X:K.In s.heap)(I:K9 s.heap x dx C mA)
  (hs:W.findIn K (.ref C) "__setattr__" = some (some (.builtin "object.__setattr__"))) (hp:W.plainOver K C=true) (ht:W.takerIn K C name=some none) (hh:W.hasDictIn K C=true)
  (hw:PySem.Within mA ns) (hsz:ns.length<=sizeLine)
  (h:∀h',K9 h' x dx C (fun y=>if y=name then some v else mA y)->Heap.SameBut dx s.heap h'->Q () { s with heap:=h',toks:=s.toks+2 }) :
  wpAny (model prog w) A (setAttr (.ref x) name v) Q E s:=by
 obtain⟨od,J,hl⟩:=I.look;refine W.set_plain X J hs (W.osa_open (s:={ s with toks:=s.toks+1 }) (r:=none) X J hp ht fun b=>?_);obtain⟨cd,hc,hd'⟩:=W.any_some hh;have hx:s.heap.get? x=some ⟨.ref C,some dx,.plain,#[]⟩:=I.obj;refine fg (fq (fg (fg (wpAny_loadPart hx (fg (W.Looks.here (s:={ s with toks:=s.toks+1 }) (W.looks_clsIn X hc) ?_))))));rw[hd'];refine fq (a:=some dx) (fg (fq (fg ?_)));refine wpAny_nsSet1 (s:={ s with toks:=s.toks+1 }) I.ns fun h' hn2 hs2=>?_;obtain⟨oD,esD,epD,hoD,hdD,hcD⟩:=hn2.count (PySem.Within.cons name v hw);refine fg (wpAny_lookBehind hoD (by rw[hdD];exact pastItsLine_dict (fK hcD (by rw[gp];omega))) ?_);exact fq (h _ ⟨(hs2.2 _ (fJ I.ne)).trans I.obj,hn2,I.ne⟩ hs2)
theorem Zcm{vs:List Value}(X:K.In s.heap)(hm:W.makesIn K C=true)
  (hi:W.findIn K (.ref C) "__init__" = some (some (.ref f))) (hf:W.typeIn K (.ref f)=some (.type "function"))
  (h:codeAny (model prog w) (A.under (.builtin "type.__call__" ⟨.ref C::vs,kw⟩)) (.call (.ref f) ⟨.ref (s.heap.objs.size+1)::vs,kw⟩) (W.InitBack (s.heap.objs.size+1) R)
   { s with heap:=(s.heap.push W.emptyDict).push (W.instObj C s.heap.objs.size) }) :
  codeAny (model prog w) A (.call (.ref C) ⟨vs,kw⟩) R s:=by
 obtain⟨hh,g,d,t,os⟩:=s;exact W.make_core (W.makes_of X hm) (W.looks_findIn X hi) (fun self=>W.bind_fn X self hf) (.inl rfl) h
end
def Yz(f:Str)(v:V):List (Str×V)->List (Str×V)
 |[]=>[(f,v)]
 | (g,x)::r=>if g=f then(g,v)::r else(g,x)::Yz f v r
def ye(f g:Str)(v:V):∀fs:List (Str×V),(Yz f v fs).lookup g=if g=f then some v else fs.lookup g
 |[]=>by
  show List.lookup g [(f,v)]=_
  by_cases h:g=f
  ·have hb:(g==f)=true:=iZ.mpr h;simp only[List.lookup,hb,if_pos h]
  ·have hb:(g==f)=false:=iW.mpr h;simp only[List.lookup,hb,if_neg h]
 | (k,x)::r=>by
  have ih:=ye f g v r;rw[show Yz f v ((k,x)::r)=(if k=f then(k,v)::r else(k,x)::Yz f v r) from rfl]
  by_cases hk:k=f
  ·rw[if_pos hk]
   by_cases h:g=k
   ·have hb:(g==k)=true:=iZ.mpr h;simp only[List.lookup,hb,if_pos (h.trans hk)]
   ·have hb:(g==k)=false:=iW.mpr h;simp only[List.lookup,hb,if_neg (fun e:g=f=>h (e.trans hk.symm))]
  ·rw[if_neg hk]
   by_cases h:g=k
   ·have hb:(g==k)=true:=iZ.mpr h;simp only[List.lookup,hb,if_neg (fun e:g=f=>hk (h.symm.trans e))]
   ·have hb:(g==k)=false:=iW.mpr h;simp only[List.lookup,hb];exact ih
def zM(f:Str)(v:V):∀fs:List (Str×V),f∈(Yz f v fs).map (·.1)/\∀g,g∈fs.map (·.1)->g∈(Yz f v fs).map (·.1)
 |[]=>⟨by simp[Yz],fun g h=>by simp at h⟩
 | (k,x)::r=>by
  obtain⟨i1,i2⟩:=zM f v r;rw[show Yz f v ((k,x)::r)=(if k=f then(k,v)::r else(k,x)::Yz f v r) from rfl]
  by_cases hk:k=f
  ·rw[if_pos hk];subst hk;exact⟨by simp,fun g h=>by simpa using h⟩
  ·rw[if_neg hk];refine⟨?_,fun g h=>?_⟩
   ·rw[fP];exact fS _ i1
   ·rw[fP] at h ⊢;rcases fF.mp h with e|e
    ·exact fF.mpr (.inl e)
    ·exact fS _ (i2 g e)
def yl(f:Str)(v:V):∀fs:List (Str×V),(Yz f v fs).length<=fs.length+1
 |[]=>by simp[Yz]
 | (k,x)::r=>by
  have ih:=yl f v r;rw[show Yz f v ((k,x)::r)=(if k=f then(k,v)::r else(k,x)::Yz f v r) from rfl]
  by_cases hk:k=f
  ·rw[if_pos hk,gp,gp];omega
  ·rw[if_neg hk,gp,gp];omega
def VV.some_of{o:Option Value}(r:VV (some v) o):∃u,o=some u/\ZZ v u:=by
 cases o with
 |none=>exact(show False from r).elim
 |some u=>exact⟨u,rfl,r⟩
def VV.none_of{o:Option Value}(r:VV none o):o=none:=by
 cases o with
 |none=>rfl
 |some u=>exact(show False from r).elim
def ZaS(r:ZZ v u):W.handedIn u=true:=by
 cases v with
 |non=>cases (show u=Value.none from r);rfl
 |bl b=>cases (show u=Value.bool b from r);rfl
 |int i=>obtain⟨t,e⟩:=(show ∃t,u=Value.int i t from r);cases e;rfl
 |str x=>obtain⟨t,e⟩:=(show ∃t,u=Value.str x t from r);cases e;rfl
 |byt b=>obtain⟨t,e⟩:=(show ∃t,u=Value.bytes b t from r);cases e;rfl
 |flt b=>obtain⟨t,e⟩:=(show ∃t,u=Value.float b t from r);cases e;rfl
 |ref a=>cases (show u=Value.ref a from r);rfl
 |ty n=>cases (show u=Value.type n from r);rfl
section
variable{a:Addr}{fs fs':List (Str×V)}
theorem yB(hok:HOk P w H h)(e:H a=some (.ins C dx fs)):∃mA,K9 h a dx C mA/\(∀f,VV (fs.lookup f) (mA f))/\PySem.Within mA (fs.map (·.1))/\fs.length<=1000/\H dx=some (.own a):=by
 obtain⟨d,z,ne,ob,mA,n,r,q⟩:=(show YI P w H h a (.ins C dx fs) from hok a _ e);exact⟨mA,⟨ob,n,ne⟩,r,q,z,d⟩
end
structure Cls(K:W.Frag)(C:Addr):Prop where
 pg:W.plainGet K C Str.empty=true
 hd:W.hasDictIn K C=true
 po:W.plainOver K C=true
 sa:W.findIn K (.ref C) "__setattr__" = some (some (.builtin "object.__setattr__"))
def Cls.get(c:Cls K C)(f:Str):W.plainGet K C f=true:=c.pg
def Wx(K:W.Frag)(C:Addr)(f:Str):Prop:=W.findIn K (.ref C) f=some none
def Wx.taker{f:Str}(n:Wx K C f):W.takerIn K C f=some none:=by
 unfold W.takerIn;rw[show W.findIn K (.ref C) f=some none from n];rfl
structure Zcd(K:W.Frag)(C:Addr)(m:Str)(f:Addr):Prop where
 at_:W.findIn K (.ref C) m=some (some (.ref f))
 fn:W.isFn K (.ref f)=true
 kp:W.keepIn K (.ref f)=true
section
variable{a:Addr}{fs:List (Str×V)}{f:Str}
theorem K8{b:Bool}(I:Inv X cQ U H s)(e:H a=some (.ins C dx fs))(c:Cls X.K C)(n:Wx X.K C f)(l:fs.lookup f=some v)
  (h:∀u s',Inv X cQ U H s'->ZZ v u->Q u s'):wpAny (model X.prog X.w) A (getAttr (.ref a) f b) Q E s:=by
 obtain⟨mA,O,r,_,_,_⟩:=yB I.hok e;obtain⟨u,hu,ru⟩:=VV.some_of (v:=v) (o:=mA f) (by rw[<- l];exact r f);exact Zd2 I.kIn O (c.get f) c.hd n hu (ZaS ru) (h u _ (I.tok _) ru)
theorem qx{m:Str}{g:Addr}{Q:Value×List Value->Shared->Prop}(I:Inv X cQ U H s)(e:H a=some (.ins C dx fs))(c:Cls X.K C)(k:Zcd X.K C m g)(l:fs.lookup m=none)
  (h:Q (.ref g,[.ref a]) s):wpAny (model X.prog X.w) A (getMethod (.ref a) m pl) Q E s:=by
 obtain⟨mA,O,r,_,_,_⟩:=yB I.hok e;have hn:mA m=none:=VV.none_of (by rw[<- l];exact r m);exact Zbb I.kIn O (c.get m) k.at_ k.fn hn h
theorem Qf{Q:Unit->Shared->Prop}(I:Inv X cQ U H s)(e:H a=some (.ins C dx fs))(c:Cls X.K C)(n:Wx X.K C f)(hl:fs.length<1000)(ry:ZZ y u)
  (h:∀s',Inv X cQ U (upd H a (.ins C dx (Yz f y fs))) s'->Q () s'):wpAny (model X.prog X.w) A (setAttr (.ref a) f u) Q E s:=by
 obtain⟨mA,O,r,wi,_,ho⟩:=yB I.hok e;have hz:(fs.map (·.1)).length<=sizeLine:=by rw[fi,ft];omega
 refine Zc9 I.kIn O c.sa c.po n.taker c.hd wi hz fun h' O' sb=>h _ ?_;have hd:∃o,h'.get? dx=some o:=let ⟨o,_,_,e',_⟩:=O'.ns; ⟨o,e'⟩
 refine I.write (x:=a) (e:=dx) (by rw[e];exact True.intro) (.inr ho) (fun b q hb z=>(sb.2 b hb).trans z) hd ?_;refine⟨by rw[Zx O.ne];exact ho,?_,O.ne,O'.obj,_,O'.ns,fun g=>?_,fun g hg=>?_⟩
 ·have:=yl f y fs;omega
 ·show VV ((Yz f y fs).lookup g) (if g=f then some u else mA g)
  rw[ye]
  by_cases q:g=f
  ·rw[if_pos q,if_pos q];exact ry
  ·rw[if_neg q,if_neg q];exact r g
 ·by_cases q:g=f
  ·rw[q];exact(zM f y fs).1
  ·refine(zM f y fs).2 g (wi g fun z=>hg ?_)
   show(if g=f then some u else mA g)=none
   rw[if_neg q];exact z
theorem Inv.made(I:Inv X cQ U H s):Inv X cQ U (upd (upd H s.heap.objs.size (.own (s.heap.objs.size+1))) (s.heap.objs.size+1) (.ins C s.heap.objs.size []))
  { s with heap:=(s.heap.push W.emptyDict).push (W.instObj C s.heap.objs.size) }:=by
 have e1:(s.heap.push W.emptyDict).get? s.heap.objs.size=some W.emptyDict:=fR s.heap rfl;have e2:((s.heap.push W.emptyDict).push (W.instObj C s.heap.objs.size)).get? (s.heap.objs.size+1)=some (W.instObj C s.heap.objs.size):=by
  have:=fR (s.heap.push W.emptyDict) (o:=W.instObj C s.heap.objs.size) rfl
  rwa [ie] at this
 have e3:(s.heap.push W.emptyDict).Ns s.heap.objs.size (fun _=>none):=⟨W.emptyDict,#[],_,e1,rfl,(fun e he=>absurd he (by simp)),fun _=>rfl⟩;have I1:=I.laid (a:=s.heap.objs.size) (o:=.own (s.heap.objs.size+1)) (h':=s.heap.push W.emptyDict) (t':=s.toks) (fun b u q=>fz _ q) (fh _) ⟨_,e1⟩;refine I1.laid (a:=s.heap.objs.size+1) (o:=.ins C s.heap.objs.size []) (t':=s.toks) (fun b u q=>fz _ q) (Nat.le_of_eq (ie _ _)) ?_;have ne:s.heap.objs.size≠s.heap.objs.size+1:=fE (i0 _);refine⟨by rw[Zx ne,Zd],gk _,ne,e2,fun _=>none,(Heap.Ns1.of_empty e3).at fun o q=>fz _ q,fun _=>True.intro,fun y hy=>absurd rfl hy⟩
theorem Zdu{f:Str}(hb:attributeBase e f env (eval e env)=eval e env)
  (h:wpAny (model prog w) A (eval e env) (fun o s₁=>wpAny (model prog w) A (getAttr o f true) Q E s₁) E s):wpAny (model prog w) A (eval (.Attribute e f pos) env) Q E s:=
 Attribute_any_ h (by rw[arm_eval_Attribute,hb])
end
inductive Zgi(K:W.Frag)(f:Str)(x:V)(H:Hp)(Q:VK):Prop
 |mk (a C dx:Addr) (fs:List (Str×V)) (v:V) (h1:x=.ref a) (h2:H a=some (.ins C dx fs)) (h3:Cls K C) (h4:Wx K C f) (h5:fs.lookup f=some v) (k:Q v H):Zgi K f x H Q
def Zgb(K:W.Frag)(ta:TE)(f:Str):TE:=fun U H Q=>ta U H fun x H1=>Zgi K f x H1 Q
def sFld(K:W.Frag)(ta tv:TE)(f:Str):TS:=fun D U H=>tv U H fun y H1=>ta U H1 fun x H2=>∃a C dx fs,x=.ref a/\H2 a=some (.ins C dx fs)/\Cls K C/\Wx K C f/\fs.length<1000 /\
 D.nx U (upd H2 a (.ins C dx (Yz f y fs)))
section
variable{o value:Expr}{f:Str}{tpos:Pos}{ta tv:TE}
theorem Ze3(he:PE X e ta)(hb:attributeBase e f X.env (eval e X.env)=eval e X.env):PE X (.Attribute e f pos) (Zgb X.K ta f):=by
 intro cQ s U H Q I h;refine Zdu hb (thn (he cQ s U H _ I h) fun u s1 ⟨x,H1,I1,rx,a,C,dx,fs,v,ex,ea,c,n,l,q⟩=>?_);subst ex;obtain rfl:u=Value.ref a:=rx;exact K8 I1 ea c n l fun u' s2 I2 ru=>⟨v,H1,I2,ru,q⟩
theorem qF(ha:PE X o ta)(hv:PE X value tv)(hs:swapsWith value (some (.Attribute o f pos')) pos.line X.env=pure false):PS X (.Assign [.Attribute o f pos'] value pos) (sFld X.K ta tv f):=by
 intro cQ s U H D I h;refine plainObj_wpAny_Assign_Attribute (thn (hv cQ s U H _ I h) fun u s1 ⟨y,H1,I1,ry,q⟩=>thn (ha cQ s1 U H1 _ I1 q) fun ov s2 ⟨x,H2,I2,rx,a,C,dx,fs,ex,ea,c,n,l,q2⟩=>?_) hs;subst ex;obtain rfl:ov=Value.ref a:=rx;exact Qf I2 ea c n l ry fun s3 I3=>⟨U,_,I3,q2⟩
theorem Zd8{m:Str}{apos:Pos}{args:List Expr}(he:PE X e te)(I:Inv X cQ U H s)
  (h:te U H fun x H1=>∃a C dx fs g,x=.ref a/\H1 a=some (.ins C dx fs)/\Cls X.K C/\Zcd X.K C m g/\fs.lookup m=none /\
   ∀s1,Inv X cQ U H1 s1->wpAny (model X.prog X.w) X.A (callWith pos (.ref g) [.ref a] (backTo pos (starEach args X.env)) (backToKw pos (keywordEach [] X.env))) Q X.xe s1)
  (ht:eval (.Call (.Attribute e m apos) args [] pos) X.env=(do
   let ov <- eval e X.env
   standAt apos.atName
   let (f,first) <- holding [ov] (getMethod ov m pl)
   callWith pos f first (backTo pos (starEach args X.env)) (backToKw pos (keywordEach [] X.env)))) :
  wpAny (model X.prog X.w) X.A (eval (.Call (.Attribute e m apos) args [] pos) X.env) Q X.xe s:=by
 refine nH (pl:=pl) (thn (he cQ s U H _ I h) fun u s1 ⟨x,H1,I1,rx,a,C,dx,fs,g,ex,ea,c,k,l,q⟩=>?_) ht;subst ex;obtain rfl:u=Value.ref a:=rx;exact qx I1 ea c k l (q s1 I1)
end
section
variable{c:Value}{b:Bool}
inductive UF(K:W.Frag)(H:Hp):V->Value->Prop where
 |non:UF K H .non (.type "NoneType")
 |bl (x:Bool):UF K H (.bl x) (.type "bool")
 |int (i:Int):UF K H (.int i) (.type "int")
 |str (x:Str):UF K H (.str x) (.type "str")
 |flt (x:UInt64):UF K H (.flt x) (.type "float")
 |lst {a:Addr}{xs:List V} (e:H a=some (.lst xs)):UF K H (.ref a) (.type "list")
 |frz {a:Addr}{o:Obj}{xs:List V} (e:H a=some (.frz o (.lst xs))):UF K H (.ref a) (.type "list")
 |tup {a:Addr}{xs:List V} (e:H a=some (.tup xs)):UF K H (.ref a) (.type "tuple")
 |dK {a:Addr}{kvs:List (Key×V)} (e:H a=some (.dK kvs)):UF K H (.ref a) (.type "dict")
 |dT {a:Addr}{kvs:List (List Key×V)} (e:H a=some (.dT kvs)):UF K H (.ref a) (.type "dict")
 |ins {a C dx:Addr}{fs:List (Str×V)} (e:H a=some (.ins C dx fs)) (cl:Cls K C) (ha:W.findIn K (.ref C) "__class__" = some (some (.builtin "object.__class__")))
   (hn:W.specialIn K (.builtin "object.__class__") "__get__" = some (some (.builtin "getset_descriptor.__get__"))) (htk:W.takesIn K (.builtin "object.__class__")=some true)
   (hm:W.mroIn K C (.type "object")=some true):UF K H (.ref a) (.ref C)
theorem jh{x:V}{t:Value}(I:Inv X cQ U H s)(rx:ZZ x u)(ty:UF X.K H x t)(e:W.kitOne X.K t c=some b)(h:∀tk,Q (.bool b) { s with toks:=tk }) :
  wpAny (model X.prog X.w) A (call (.builtin "isinstance") [u,c]) Q E s:=by
 cases ty with
 |non=>cases (show u=Value.none from rx);exact ig W.kitx_none I.kIn True.intro e (fun z=>nomatch z) h
 |bl y=>cases (show u=Value.bool y from rx);exact ig W.kitx_bool I.kIn True.intro e (fun z=>nomatch z) h
 |int i=>obtain⟨t,q⟩:=(show ∃t,u=Value.int i t from rx);cases q;exact ig W.kitx_int I.kIn True.intro e (fun z=>nomatch z) h
 |str y=>obtain⟨t,q⟩:=(show ∃t,u=Value.str y t from rx);cases q;exact ig W.kitx_str I.kIn True.intro e (fun z=>nomatch z) h
 |flt y=>obtain⟨t,q⟩:=(show ∃t,u=Value.float y t from rx);cases q;exact ig W.kitx_float I.kIn True.intro e (fun z=>nomatch z) h
 |@lst a xs ea=>
  cases (show u=Value.ref a from rx);obtain⟨_,_,n,_,h1⟩:=(show YI X.prog X.w H s.heap a (.lst xs) from I.hok a _ ea);exact ig W.kitx_list I.kIn ⟨_,h1,rfl⟩ e (fun z=>nomatch z) h
 |@frz a ob xs ea=>
  cases (show u=Value.ref a from rx);obtain⟨_,_,_,n,_,h1⟩:=(show YI X.prog X.w H s.heap a (.frz ob (.lst xs)) from I.hok a _ ea);exact ig W.kitx_list I.kIn ⟨_,h1,rfl⟩ e (fun z=>nomatch z) h
 |@tup a xs ea=>
  cases (show u=Value.ref a from rx);obtain⟨_,_,_,p⟩:=(show YI X.prog X.w H s.heap a (.tup xs) from I.hok a _ ea);obtain⟨o,h1,h2,_⟩:=p;exact ig W.kitx_tuple I.kIn ⟨o,h1,h2⟩ e (fun z=>nomatch z) h
 |@dK a kvs ea=>
  cases (show u=Value.ref a from rx);obtain⟨_,_,vs,_,p⟩:=(show YI X.prog X.w H s.heap a (.dK kvs) from I.hok a _ ea);obtain⟨o,es,ep,h1,h2,_⟩:=p;exact ig W.kitx_dict I.kIn ⟨o,h1,h2.1⟩ e (fun z=>nomatch z) h
 |@dT a kvs ea=>
  cases (show u=Value.ref a from rx);obtain⟨_,_,xs,_,o,es,ep,h1,h2,_⟩:=(show YI X.prog X.w H s.heap a (.dT kvs) from I.hok a _ ea);exact ig W.kitx_dict I.kIn ⟨o,h1,h2.1⟩ e (fun z=>nomatch z) h
 |@ins a C dx fs ea cl ha hn htk hm=>
  cases (show u=Value.ref a from rx);obtain⟨mA,O,_⟩:=yB I.hok ea;obtain⟨od,J,_⟩:=O.look;exact ig (W.kitx_own (cl.get _) cl.hd ha hn htk hm) I.kIn J e (fun z=>nomatch z) h
end
structure YA(k:Nat)(A:Around):Prop where
 hd:A.handled=none
 dp:A.depth+3*k+5<recursionLimit
 un:A.units+16*k+200<cLine
def YA.mono{k:Nat}(r:YA k A)(h:j<=k):YA j A:=⟨r.hd,by have:=r.dp;omega,by have:=r.un;omega⟩
def YA.deeper{k:Nat}{A:Around}(r:YA (k+1) A)(env:Env):YA k (A.deeper env):=
 ⟨r.hd,by have:=r.dp;show A.depth+1+3*k+5<_;omega,by have:=r.un;show A.units+3+16*k+200<_;omega⟩
def Kq:(A.under (.builtin "type.__call__" ⟨.ref C::us,kw⟩)).depth=A.depth+1:=by
 first|rfl|simp[Around.under,Code.weight,Code.isCreation,Code.isGuard,Code.isCaller,Code.frames,Code.isFrame,guardIds]
def Kx:(A.under (.builtin "type.__call__" ⟨.ref C::us,kw⟩)).units=A.units+1:=by
 first|rfl|simp[Around.under,Code.cUnits,Code.frames,Code.isFrame]
def YA.make{k:Nat}(r:YA (k+1) A)(C:Addr)(us:List Value)(kw:List (Str×Value)):YA k (A.under (.builtin "type.__call__" ⟨.ref C::us,kw⟩)):=
 ⟨r.hd,by have:=r.dp;rw[Kq];omega,by have:=r.un;rw[Kx];omega⟩
def YA.depth{k:Nat}{A:Around}(r:YA k A):A.depth<recursionLimit:=by have:=r.dp;omega
def YA.units{k:Nat}{A:Around}(r:YA k A):A.units+64<cLine:=by have:=r.un;omega
def YA.units0{k:Nat}(r:YA k A):A.units<cLine:=by have:=r.un;omega
def Za3:TA:=fun _ H Q=>Q [] H
def kZ(ta:TE)(tr:TA):TA:=fun U H Q=>ta U H fun x H1=>tr U H1 fun xs H2=>Q (x::xs) H2
section
variable{es:List Expr}{t:TA}
theorem Zb:PA X [] Za3:=fun _ _ _ _ H Q I h=>Calls.spliced_nil ⟨[],H,I,.nil,h⟩
theorem Za(ha:PE X e te)(hr:PA X es t)(hs:starEach (e::es) X.env=(false,eval e X.env)::starEach es X.env:=by rfl):PA X (e::es) (kZ te t):=by
 intro pos cQ s U H Q I h;rw[hs]
 show wpAny _ _ (spliced ((false,eval e X.env)::backTo pos (starEach es X.env))) _ _ s
 refine Calls.spliced_cons (thn (ha cQ s U H _ I h) fun u s1 ⟨x,H1,I1,r1,q1⟩=>?_);exact thn (hr pos cQ s1 U H1 _ I1 q1) fun us s2 ⟨xs,H2,I2,r2,q2⟩=>⟨x::xs,H2,I2,.cons r1 r2,q2⟩
inductive ZfI(xs:List V)(o:HO)(H:Hp)(Q:VK):Prop
 |mk (z:xs.length<=sizeLine) (k:∀p,H p=none->Q (.ref p) (upd H p o)):ZfI xs o H Q
def tTup(t:TA):TE:=fun U H Q=>t U H fun xs H1=>ZfI xs (.tup xs) H1 Q
def tLst(t:TA):TE:=fun U H Q=>t U H fun xs H1=>ZfI xs (.lst xs) H1 Q
theorem ZX{x1}(h:PA X es t):PE X (.Tuple es x1 pos) (tTup t):=by
 intro cQ s U H Q I hq;refine wpAny_Tuple_spliced (thn (h pos cQ s U H _ I hq) fun us s1 ⟨xs,H1,I1,r,z,q⟩=>⟨by rw[<- r.length];exact z,?_⟩);have hf:H1 s1.heap.objs.size=none:=I1.hok.fresh (fh _);refine⟨.ref s1.heap.objs.size,upd H1 s1.heap.objs.size (.tup xs),I1.laid (t':=s1.toks) (fun b u e=>fz _ e) (fh _) ?_,rfl,q _ hf⟩;exact⟨z,us,r,⟨_,fR _ rfl,rfl,_,rfl⟩⟩
theorem ZY(h:PA X es t):PE X (.List es pos) (tLst t):=by
 intro cQ s U H Q I hq;refine wpAny_List_spliced (thn (h pos cQ s U H _ I hq) fun us s1 ⟨xs,H1,I1,r,z,q⟩=>⟨by rw[<- r.length];exact z,?_⟩);have hf:H1 s1.heap.objs.size=none:=I1.hok.fresh (fh _);refine⟨.ref s1.heap.objs.size,upd H1 s1.heap.objs.size (.lst xs),I1.laid (t':=s1.toks) (fun b u e=>fz _ e) (fh _) ?_,rfl,q _ hf⟩;exact⟨z,us,0,r,fR _ rfl⟩
end
abbrev Sp:=List V->Hp->VK->XK->Prop
abbrev CXT:=List Env->Hp->Shared->XK->Value->Shared->Prop
structure K1(P:Program)(w:World)(K:W.Frag)(mg:Str->Option Value)(base:Heap)(A:Around)(outer:List Env)(s:Shared)(H:Hp):Prop where
 frames:A.frames=some outer
 mod:Mod K mg base
 bs:∀b o,base.get? b=some o->s.heap.get? b=some o/\H b=none
 bsz:base.objs.size<=s.heap.objs.size
 funs:s.heap.FunFrames base outer
 frf:∀b∈frs outer,H b=none
 hok:HOk P w H s.heap
 bare:AllBare s.gens
def CE(outer:List Env)(P:Program)(w:World)(H:Hp)(s:Shared)(Q:VK)(u:Value)(s':Shared):Prop:=
 ∃v H',s'.os=s.os/\AllBare s'.gens/\Un (frs outer) [] H H' s.heap s'.heap/\HOk P w H' s'.heap/\ZZ v u/\Q v H'
def CR(CX:CXT)(outer:List Env)(P:Program)(w:World)(H:Hp)(s:Shared)(Q:VK)(E:XK)(r:Result)(s':Shared):Prop:=
 match r with
 |.ok (.ret u)=>CE outer P w H s Q u s'
 |.ok _=>False
 |.error e=>CX outer H s E e s'
structure VT(P:Program)(w:World)(K:W.Frag)(mg:Str->Option Value)(base:Heap)(CX:CXT)(k:Nat)(f:Addr)(fd:FuncData)(ps:List Str)(sp:Sp):Prop where
 len:∀vs H Q E,sp vs H Q E->vs.length=ps.length
 run:∀(A:Around) (outer:List Env) (s:Shared) (H:Hp) (args:Args) (us:List Value) (vs:List V) (Q:VK) (E:XK),YA k A->K1 P w K mg base A outer s H->BindsTo s fd args (ps.zip us)->ZM vs us->sp vs H Q E ->
  codeAny (model P w) A (.call (.ref f) args) (CR CX outer P w H s Q E) s
def K1.make(e:K1 P w K mg base A outer s H)(C:Addr)(us:List Value)(kw:List (Str×Value)) :
  K1 P w K mg base (A.under (.builtin "type.__call__" ⟨.ref C::us,kw⟩)) outer s H:=⟨by first|exact e.frames|(simpa[Around.under,Code.envs,Code.isFrame,pushEnvs] using e.frames),e.mod,e.bs,e.bsz,e.funs,e.frf,e.hok,e.bare⟩
def Inv.env0(I:Inv X cQ U H s):K1 X.prog X.w X.K X.mg X.base X.A X.stack s H:=
 ⟨I.ok.frames,I.ok.mod,I.bs,fK I.ok.bsz I.sz,I.stack,I.stkFree,I.hok,I.bare⟩
def Inv.after{Q:VK}(I:Inv X cQ U H s)(h:CE X.stack X.prog X.w H s Q u s'):EP X cQ U Q u s':=by
 obtain⟨v,H',os,bare,un,hok,r,q⟩:=h;obtain⟨hh,g,d,t,os'⟩:=s';obtain rfl:os'=s.os:=os;exact⟨v,H',I.call (h':=hh) (g':=g) (d':=d) (t':=t) (ch:=[]) un hok bare (fun b z=>absurd z (by simp)),r,q⟩
def ZbX(sp:Sp)(dvs:List V)(E:XK)(t:TA):TE:=fun U H Q=>t U H fun vs H1=>sp (vs++dvs) H1 Q E
inductive Zeb(C:Addr)(m:Str)(x:V)(H:Hp)(B:Prop):Prop
 |mk (a dx:Addr) (fs:List (Str×V)) (h1:x=.ref a) (h2:H a=some (.ins C dx fs)) (h3:fs.lookup m=none) (k:B):Zeb C m x H B
def Zec(C:Addr)(m:Str)(sp:Sp)(dvs:List V)(E:XK)(ta:TE)(t:TA):TE:=fun U H Q=>ta U H fun x H1=>Zeb C m x H1 (t U H1 fun vs H2=>sp (x::(vs++dvs)) H2 Q E)
def Zed(C:Addr)(sp:Sp)(dvs:List V)(E:XK)(t:TA):TE:=fun U H Q=>t U H fun vs H1=>∀x dx,H1 x=none->H1 dx=none->dx≠x ->
 sp (.ref x::(vs++dvs)) (upd (upd H1 dx (.own x)) x (.ins C dx [])) (fun v H2=>v=.non/\Q (.ref x) H2) E
def VS(K:W.Frag)(fd:FuncData)(ps:List Str)(ds:List Value):Prop:=
 ∀(s:Shared) (us:List Value),K.In s.heap->(us++ds).length=ps.length->BindsTo s fd ⟨us,[]⟩ (ps.zip (us++ds))
def VS.all{ps:List Str}(h:∀us:List Value,us.length=ps.length->bindArgs fd ⟨us,[]⟩=pure (ps.zip us)):VS K fd ps []:=fun s us _ hl=>by
 rw[ip] at hl ⊢;exact .of_eq (h us hl)
def Uu(CX:CXT)(X:Cx)(E:XK):Prop:=∀(cQ:List (Addr×Obj)) (U:St) (H:Hp) (s:Shared) (e:Value) (s':Shared),Inv X cQ U H s->CX X.stack H s E e s'->X.xe e s'
section
variable{CX:CXT}{k:Nat}{f:Addr}{ps:List Str}{sp:Sp}{dvs:List V}{ds:List Value}{E:XK}{x m:Str}{p apos:Pos}{o:Expr}{es:List Expr}{ta:TE}{t:TA}
theorem kD{Q:VK}(F:VT X.prog X.w X.K X.mg X.base CX k f fd ps sp)(hr:YA k X.A)(hb:VS X.K fd ps ds)(hd:ZM dvs ds)(hx:Uu CX X E)
  (I:Inv X cQ U H s) (r:ZM vs us) (h:sp (vs++dvs) H Q E):wpAny (model X.prog X.w) X.A (call (.ref f) us) (EP X cQ U Q) X.xe s:=by
 have r2:ZM (vs++dvs) (us++ds):=r.append hd;have hl:(us++ds).length=ps.length:=by rw[<- r2.length];exact F.len _ _ _ _ h
 refine wpAny_call (i5 (F.run X.A X.stack s H ⟨us,[]⟩ (us++ds) (vs++dvs) Q E hr I.env0 (hb s us I.kIn hl) r2 h) fun r s' hq=>?_);cases r with
 |error e=>exact hx cQ U H s e s' I hq
 |ok fl=>
  cases fl with
  |ret u=>exact I.after hq
  |next=>exact False.elim hq
  |brk=>exact False.elim hq
  |cont=>exact False.elim hq
theorem Wh(F:VT X.prog X.w X.K X.mg X.base CX k f fd ps sp)(hr:YA k X.A)(hg:Gl X x)(hm:X.mg x=some (.ref f))(hk:W.keepIn X.K (.ref f)=true)(hb:VS X.K fd ps ds)(hd:ZM dvs ds)(hx:Uu CX X E)
  (ha:PA X (e::es) t) (hdb:(x==("__debug__" : Str))=false:=by decide) (he:starEach (e::es) X.env=(false,eval e X.env)::starEach es X.env:=by rfl) (hpl:(backTo pos (starEach es X.env)).any (·.1)=false:=by rfl) :
  PE X (.Call (.Name x p) (e::es) [] pos) (ZbX sp dvs E t):=by
 intro cQ s U H Q I h;refine iN (yz I hg hm ?_ hdb);refine mZ (h₀:=X.base) I.ok.mod.kin hk (thn (ha pos cQ s U H _ I h) fun us s1 ⟨vs,H1,I1,r,q⟩=>⟨I1.kIn,?_⟩) he hpl;exact kD F hr hb hd hx I1 r q
theorem WC(he:PE X o ta)(c:Cls X.K C)(hm:Zcd X.K C m f)(F:VT X.prog X.w X.K X.mg X.base CX k f fd ps sp)(hr:YA k X.A)(hb:VS X.K fd ps ds)(hd:ZM dvs ds)(hx:Uu CX X E)(ha:PA X (e::es) t)
  (hst:starEach (e::es) X.env=(false,eval e X.env)::starEach es X.env:=by rfl) (hpl:(backTo pos (starEach es X.env)).any (·.1)=false:=by rfl)
  (ht:eval (.Call (.Attribute o m apos) (e::es) [] pos) X.env=(do
   let ov <- eval o X.env
   standAt apos.atName
   let (f,first) <- holding [ov] (getMethod ov m pl)
   callWith pos f first (backTo pos (starEach (e::es) X.env)) (backToKw pos (keywordEach [] X.env))):=by rfl) :
  PE X (.Call (.Attribute o m apos) (e::es) [] pos) (Zec C m sp dvs E ta t):=by
 intro cQ s U H Q I h;refine nH (pl:=pl) (thn (he cQ s U H _ I h) fun u s1 ⟨x,H1,I1,rx,a,dx,fs,ex,ea,l,q⟩=>?_) ht;subst ex;obtain rfl:u=Value.ref a:=rx;refine qx I1 ea c hm l ?_;refine mZ (first:=[.ref a]) (h₀:=X.base) I.ok.mod.kin hm.kp (thn (ha pos cQ s1 U H1 _ I1 q) fun us s2 ⟨vs,H2,I2,r,q2⟩=>⟨I2.kIn,?_⟩) hst hpl;exact kD (us:=.ref a::us) (vs:=.ref a::vs) F hr hb hd hx I2 (.cons rfl r) q2
theorem V2(he:PE X o ta)(c:Cls X.K C)(hm:Zcd X.K C m f)(F:VT X.prog X.w X.K X.mg X.base CX k f fd ps sp)(hr:YA k X.A)(hb:VS X.K fd ps ds)(hd:ZM dvs ds)(hx:Uu CX X E)
  (ht:eval (.Call (.Attribute o m apos) [] [] pos) X.env=(do
   let ov <- eval o X.env
   standAt apos.atName
   let (f,first) <- holding [ov] (getMethod ov m pl)
   callWith pos f first (backTo pos (starEach [] X.env)) (backToKw pos (keywordEach [] X.env))):=by rfl) :
  PE X (.Call (.Attribute o m apos) [] [] pos) (Zec C m sp dvs E ta Za3):=by
 intro cQ s U H Q I h;refine nH (pl:=pl) (thn (he cQ s U H _ I h) fun u s1 ⟨x,H1,I1,rx,a,dx,fs,ex,ea,l,q⟩=>?_) ht;subst ex;obtain rfl:u=Value.ref a:=rx;refine qx I1 ea c hm l ?_;exact W.callWith_K0 (first:=[.ref a]) I1.kIn hm.kp (kD (us:=[.ref a]) (vs:=[.ref a]) F hr hb hd hx I1 (.cons rfl .nil) q)
structure Mk(K:W.Frag)(C f:Addr):Prop where
 makes:W.makesIn K C=true
 init:W.findIn K (.ref C) "__init__" = some (some (.ref f))
 fn:W.isFn K (.ref f)=true
 kp:W.keepIn K (.ref C)=true
theorem k9{Q:VK}(M:Mk X.K C f)(F:VT X.prog X.w X.K X.mg X.base CX k f fd ps sp)(hr:YA (k+1) X.A)(hb:VS X.K fd ps ds)(hd:ZM dvs ds)
  (hx:Uu CX X E) (I:Inv X cQ U H s) (r:ZM vs us)
  (h:∀x dx,H x=none->H dx=none->dx≠x->sp (.ref x::(vs++dvs)) (upd (upd H dx (.own x)) x (.ins C dx [])) (fun v H2=>v=.non/\Q (.ref x) H2) E) :
  wpAny (model X.prog X.w) X.A (call (.ref C) us) (EP X cQ U Q) X.xe s:=by
 have hq:=h (s.heap.objs.size+1) s.heap.objs.size (I.hok.fresh (iF _)) (I.hok.fresh (fh _)) (fE (i0 _));have I2:=Inv.made (C:=C) I;have r2:ZM (V.ref (s.heap.objs.size+1)::(vs++dvs)) (Value.ref (s.heap.objs.size+1)::(us++ds)):=.cons rfl (r.append hd);have hl:(Value.ref (s.heap.objs.size+1)::us++ds).length=ps.length:=by
  have e:=r2.length;rw[F.len _ _ _ _ hq] at e;exact e.symm
 refine wpAny_call (Zcm (f:=f) I.kIn M.makes M.init (iZ.mp M.fn) (i5 (F.run _ X.stack _ _ ⟨Value.ref (s.heap.objs.size+1)::us,[]⟩ (Value.ref (s.heap.objs.size+1)::(us++ds)) _ _ E (hr.make C us [])
  (I2.env0.make C us []) (hb _ (Value.ref (s.heap.objs.size+1)::us) I2.kIn hl) r2 hq) fun r s' hq'=>?_))
 cases r with
 |error e=>exact hx cQ U _ _ e s' I2 hq'
 |ok fl=>
  cases fl with
  |ret u=>
   obtain⟨v,H',I3,rv,ev,q3⟩:=I2.after hq';subst ev;exact⟨rv,⟨V.ref (s.heap.objs.size+1),H',I3,rfl,q3⟩⟩
  |next=>exact False.elim hq'
  |brk=>exact False.elim hq'
  |cont=>exact False.elim hq'
theorem QT(M:Mk X.K C f)(F:VT X.prog X.w X.K X.mg X.base CX k f fd ps sp)(hr:YA (k+1) X.A)(hg:Gl X x)(hm:X.mg x=some (.ref C))(hb:VS X.K fd ps ds)(hd:ZM dvs ds)(hx:Uu CX X E)
  (ha:PA X (e::es) t) (hdb:(x==("__debug__" : Str))=false:=by decide) (he:starEach (e::es) X.env=(false,eval e X.env)::starEach es X.env:=by rfl) (hpl:(backTo pos (starEach es X.env)).any (·.1)=false:=by rfl) :
  PE X (.Call (.Name x p) (e::es) [] pos) (Zed C sp dvs E t):=by
 intro cQ s U H Q I h;refine iN (yz I hg hm ?_ hdb);refine mZ (h₀:=X.base) I.ok.mod.kin M.kp (thn (ha pos cQ s U H _ I h) fun us s1 ⟨vs,H1,I1,r,q⟩=>⟨I1.kIn,?_⟩) he hpl;exact k9 M F hr hb hd hx I1 r q
theorem ZcQ(M:Mk X.K C f)(F:VT X.prog X.w X.K X.mg X.base CX k f fd ps sp)(hr:YA (k+1) X.A)(hg:Gl X x)(hm:X.mg x=some (.ref C))(hb:VS X.K fd ps ds)(hd:ZM dvs ds)(hx:Uu CX X E)
  (hdb:(x==("__debug__" : Str))=false:=by decide):PE X (.Call (.Name x p) [] [] pos) (Zed C sp dvs E Za3):=by
 intro cQ s U H Q I h;refine iN (yz I hg hm ?_ hdb);exact W.callWith_K0 I.kIn M.kp (k9 (us:=[]) M F hr hb hd hx I .nil h)
end
section
variable{CX:CXT}{k:Nat}{f:Addr}{ps ks:List Str}{sp:Sp}{E:XK}{x m:Str}{p apos kpos:Pos}{o:Expr}{es:List Expr}{kws:List Keyword}{ta:TE}{t tk:TA}{nm:Option Str}
variable{g:List Value->List Value->List Value}{gV:List V->List V->List V}
end
structure Zt(N P:List Str)(sc:Scope):Prop where
 kind:sc.kind=.function
 co:sc.isCoroutine=false
 gen:sc.isGenerator=false
 nd:N.Nodup
 pre:N.take P.length=P
 par:∀x∈P,sc.names.lookup x=some .local\/sc.names.lookup x=some .cell
 nofree:∀y∈sc.names,y.2≠.free
def vM{kindOf:Str->Option NameKind}{x:Str}:∀{binds:List (Str×Value)}{m:Str->Option Value},(∀v,(x,v)∉binds)->bindL kindOf binds m x=m x
 |[],_,_=>rfl
 | (n,v)::r,m,h=>by
  unfold bindL;rw[vM fun w hw=>h w (fS _ hw)]
  split
  ·have:x≠n:=by rintro rfl;exact h v im
   simp[this]
  ·rfl
def jx{kindOf:Str->Option NameKind}{x:Str}:∀{binds:List (Str×Value)}{m:Str->Option Value},(∀v,(x,v)∉binds)->bindC kindOf binds m x=m x
 |[],_,_=>rfl
 | (n,v)::r,m,h=>by
  unfold bindC;rw[jx fun w hw=>h w (fS _ hw)]
  split
  ·rfl
  ·have:x≠n:=by rintro rfl;exact h v im
   simp[this]
def jg{kindOf:Str->Option NameKind}{x:Str}{v:Value}:∀{P:List Str}{vs:List Value}{i:Nat}{m:Str->Option Value},P.Nodup->P[i]?=some x->vs[i]?=some v->kindOf x=some .local ->
  bindL kindOf (P.zip vs) m x=some v
 |[],_,_,_,_,h,_,_=>by simp at h
 |_::_,[],_,_,_,_,h,_=>by simp at h
 |p::P,w::vs,0,m,nd,h1,h2,hk=>by
  simp at h1 h2;subst h1;subst h2
  show bindL kindOf ((p,w)::P.zip vs) m p=_
  unfold bindL;rw[vM fun v hv=>(iq.mp nd).1 (i6 hv).1,if_pos hk];simp
 |p::P,w::vs,i+1,m,nd,h1,h2,hk=>by
  show bindL kindOf ((p,w)::P.zip vs) m x=_
  unfold bindL;exact jg (i:=i) (iq.mp nd).2 (by simpa using h1) (by simpa using h2) hk
def jc{kindOf:Str->Option NameKind}{x:Str}{v:Value}:∀{P:List Str}{vs:List Value}{i:Nat}{m:Str->Option Value},P.Nodup->P[i]?=some x->vs[i]?=some v->kindOf x≠some .local ->
  bindC kindOf (P.zip vs) m x=some v
 |[],_,_,_,_,h,_,_=>by simp at h
 |_::_,[],_,_,_,_,h,_=>by simp at h
 |p::P,w::vs,0,m,nd,h1,h2,hk=>by
  simp at h1 h2;subst h1;subst h2
  show bindC kindOf ((p,w)::P.zip vs) m p=_
  unfold bindC;rw[jx fun v hv=>(iq.mp nd).1 (i6 hv).1,if_neg hk];simp
 |p::P,w::vs,i+1,m,nd,h1,h2,hk=>by
  show bindC kindOf ((p,w)::P.zip vs) m x=_
  unfold bindC;exact jc (i:=i) (iq.mp nd).2 (by simpa using h1) (by simpa using h2) hk
def qj(N:List Str)(vs:List V):St:=vs.map some++List.replicate (N.length-vs.length) none
def JC(CX:CXT)(P:Program)(w:World)(K:W.Frag)(mg:Str->Option Value)(base:Heap)(N:List Str)(qual:Str)(scope:Scope)(f:Addr)(cd:Value)(A:Around)(outer:List Env)(s:Shared)(H:Hp)(E:XK):Cx where
 prog:=P
 w:=w
 K:=K
 mg:=mg
 base:=base
 A:=A.deeper (envOfC qual scope s.heap.objs.size f cd)
 N:=N
 s₀:=s
 H₀:=H
 env:=envOfC qual scope s.heap.objs.size f cd
 outer:=outer
 stack:=envOfC qual scope s.heap.objs.size f cd::outer
 ex:=[]
 calm:=true
 fn:=fun _=>true
 pn:=[]
 xe:=fun e s'=>wpAny (model P w) (A.deeper (envOfC qual scope s.heap.objs.size f cd)) (leaving (envOfC qual scope s.heap.objs.size f cd) e) (fun _ s''=>CX outer H s E e s'') (fun e' s''=>CX outer H s E e' s'') s'
def Kc{x:Str}(h:sc.names.lookup x=some .cell):∃c,(cellsFrom n sc.names []).lookup x=some c:=by
 have q:=W.cellsFrom_some sc.names n [] (.inl h);exact m5.mp q
def Za7{CX:CXT}{ps:List Str}{f:Addr}{cd:Value}{s1:Shared}{E:XK}
  (S:Zt N ps scope) (hd:A.handled=none) (e0:K1 P w K mg base A outer s H) (hl:vs.length=ps.length) (r:ZM vs us)
  (x:InCallC s s.heap.objs.size (bindL (envOfC qual scope s.heap.objs.size f cd).kindOf (ps.zip us) fun _=>none) (cellsFrom (s.heap.objs.size+1) scope.names []) (bindC (envOfC qual scope s.heap.objs.size f cd).kindOf (ps.zip us) fun _=>none) s1) :
  Inv (JC CX P w K mg base N qual scope f cd A outer s H E) [] (qj N vs) H s1:=by
 have hpl:ps.length<=N.length:=by have:=fI List.length S.pre;rw[fZ] at this;omega
 obtain⟨h1,tk,rfl,hk⟩:=x.done;have noA:∀b:Addr,b∉(JC CX P w K mg base N qual scope f cd A outer s H E).ex:=fun b z=>absurd (show b∈([]:List Addr) from z) (by simp);refine⟨⟨e0.mod,S.kind,rfl,rfl,fh _,fun y z c h1 h2=>?_,fun y hy=>?_,fun y c _ h=>?_,fun _=>hd,Around.frames_deeper e0.frames,.inr ⟨rfl,rfl⟩,fun b z=>absurd z (noA b),e0.bs,e0.bsz,fun b _ _=>noA b,fun b z=>absurd z (noA b),e0.funs,e0.frf⟩,
  rfl,e0.bare,Un.kept hk,⟨_,x.toInCall.ns,fun i y v h1 h2 h3=>?_⟩,fun y c h=>⟨_,x.cell y c h⟩,e0.hok.fresh (fh _),fun y c h=>?_,fun p hp=>absurd (show p∈([]:List (Addr×Obj)) from hp) (by simp),e0.hok.kept hk,?_⟩
 ·exact name_of_addr x.apart (gy h1) (gy h2)
 ·have hy:scope.names.lookup y=some .cell\/scope.names.lookup y=some .free:=hy;rcases hy with hy|hy
  ·exact Kc hy
  ·exact absurd rfl (S.nofree _ (gy hy))
 ·exact ib (x.above y c (gy h))
 ·have hi:i<vs.length:=by
   unfold qj at h2
   by_cases hi:i<vs.length
   ·exact hi
   ·rw[gf (by simpa using hi)] at h2;rw[List.getElem?_replicate] at h2
    split at h2<;>cases h2
  have ha:vs[i]?=some v:=by
   unfold qj at h2;rw[fW (by simpa using hi),fw] at h2;cases e:vs[i]? with
   |none=>rw[e] at h2;cases h2
   |some a=>rw[e] at h2;cases h2;rfl
  obtain⟨u,hu,rv⟩:=r.get ha;have hp:ps[i]?=some y:=by
   rw[<- S.pre,mE (by omega)];exact h1
  have ndP:ps.Nodup:=by rw[<- S.pre];exact S.nd.sublist (List.take_sublist _ _)
  refine⟨u,rv,?_⟩;rcases S.par y (fU hp) with k|k
  ·exact .inl ⟨k,jg ndP hp hu k⟩
  ·obtain⟨c,e⟩:=Kc (n:=s.heap.objs.size+1) k;refine .inr ⟨.inl k,c,e,?_⟩;have q:=x.cell y c e;rw[jc ndP hp hu (by show scope.names.lookup y≠_;rw[k];decide)] at q;exact q
 ·exact e0.hok.fresh (ib (x.above y c (gy h)))
 ·unfold qj
  show _=N.length
  rw[fu,fi,List.length_replicate];omega
def Zge{CX:CXT}{k:Nat}{f:Addr}{name:Str}{dV kV doc pm cR ct oc:Value}
  {ps:List Str}{sp:Sp} (lk:K.lookup f=some ⟨oc,od,.func (W.fnOf name qual params body scope dV kV doc pm an cR ct),osl⟩) (hcd:W.codeIn K cR qual=true) (S:Zt N ps scope)
  (len:∀vs H Q E,sp vs H Q E->vs.length=ps.length)
  (hbody:∀(A:Around) (outer:List Env) (s:Shared) (H:Hp) (vs:List V) (Q:VK) (E:XK),YA k (A.deeper (envOfC qual scope s.heap.objs.size f cR))->sp vs H Q E ->
   ∃t,PSs (JC CX P w K mg base N qual scope f cR A outer s H E) body t/\t { nx:=fun _ H'=>Q .non H',rt:=Q } (qj N vs) H) :
  VT P w K mg base CX (k+1) f (W.fnOf name qual params body scope dV kV doc pm an cR ct) ps sp:=by
 refine⟨len,fun A outer s H args us vs Q E hr e0 hb r hsp=>?_⟩;have hl:=len _ _ _ _ hsp;have KX:K.In s.heap:=e0.mod.kin.keeps fun b o e=>(e0.bs b o e).1;have lim:s.heap.NoLimit:=e0.mod.nolimit.keeps fun b o e=>(e0.bs b o e).1;have hkind:∀y∈ps.zip us,scope.names.lookup y.1=some .local\/(scope.names.lookup y.1=some .cell/\((cellsFrom (s.heap.objs.size+1) scope.names []).lookup y.1).isSome=true):=fun⟨n,v⟩ hy=>by
  rcases S.par n (i6 hy).1 with q|q
  ·exact .inl q
  ·exact .inr ⟨q,W.cellsFrom_some _ _ _ (.inl q)⟩
 refine codeAny_call_function hr.depth (KX _ _ lk) rfl S.co S.gen rfl (W.codeRec_of KX hcd) (hb _ _ _ _ ?_);refine wpAny_newFunctionEnv_cells S.kind hkind fun env he s1 x=>?_;subst he;refine⟨lim.keeps x.toInCall.keep,codeAny_func ?_⟩;obtain⟨t,ht,hq⟩:=hbody A outer s H vs Q E (hr.deeper _) hsp;have I:Inv (JC CX P w K mg base N qual scope f cR A outer s H E) [] (qj N vs) H s1:=Za7 S hr.hd e0 hl r x;refine hU (ht [] s1 (qj N vs) H _ I hq) (fun fl s' hs=>?_) fun e s' hs=>hs;have fin:∀{σ':St}{H':Hp}{v:V}{u:Value},Inv (JC CX P w K mg base N qual scope f cR A outer s H E) [] σ' H' s'->ZZ v u->Q v H'->CE outer P w H s Q u s':=
  fun {σ' H' v u} J rv q=>⟨v,H',J.os,J.bare,J.base,J.hok,rv,q⟩
 cases fl with
 |ret u=>
  obtain⟨v,σ',H',J,rv,q⟩:=hs;exact fin J rv q
 |next=>
  obtain⟨σ',H',J,q⟩:=hs;exact fin (v:=V.non) (u:=Value.none) J rfl q
 |brk=>
  obtain⟨_,_,_,q⟩:=hs;exact False.elim q
 |cont=>
  obtain⟨_,_,_,q⟩:=hs;exact False.elim q
end L2
variable{sp:L2.Sp}{CX:L2.CXT}{Fam:PySem.Addr->L2.Sp->Prop}
namespace L2
open PySem PySem.Spec PyProof.Rows
section
variable{x:Str}{p:Pos}{es:List Expr}{t:TA}{id:String}{r:List V->Hp->VK->Prop}
def tCB(r:List V->Hp->VK->Prop)(t:TA):TE:=fun U H Q=>t U H fun vs H1=>r vs H1 Q
theorem Zl(hc:Yw X (.builtin id) r)(hg:Gl X x)(hm:X.mg x=none)(hv:bootBuiltins x=some (.builtin id))(ha:PA X (e::es) t)(hn:x ≠ "__name__" := by decide)(hdb:(x==("__debug__" : Str))=false:=by decide)
  (he:starEach (e::es) X.env=(false,eval e X.env)::starEach es X.env:=by rfl) (hpl:(backTo pos (starEach es X.env)).any (·.1)=false:=by rfl):PE X (.Call (.Name x p) (e::es) [] pos) (tCB r t):=by
 intro cQ s U H Q I h;refine iN (Ul I hg hm hv ?_ hn hdb);exact PyProof.Rows.callWith_builtin1 (thn (ha pos cQ s U H _ I h) fun us s1 ⟨vs,H1,I1,r1,q1⟩=>hc cQ s1 U H1 vs us Q I1 r1 q1) he hpl
theorem ZO(hc:Yw X (.type T) r)(hg:Gl X x)(hm:X.mg x=none)(hv:bootBuiltins x=some (.type T))(ha:PA X (e::es) t)(hn:x ≠ "__name__" := by decide)(hdb:(x==("__debug__" : Str))=false:=by decide)
  (he:starEach (e::es) X.env=(false,eval e X.env)::starEach es X.env:=by rfl) (hpl:(backTo pos (starEach es X.env)).any (·.1)=false:=by rfl):PE X (.Call (.Name x p) (e::es) [] pos) (tCB r t):=by
 intro cQ s U H Q I h;refine iN (Ul I hg hm hv ?_ hn hdb);exact l9 (thn (ha pos cQ s U H _ I h) fun us s1 ⟨vs,H1,I1,r1,q1⟩=>hc cQ s1 U H1 vs us Q I1 r1 q1) he hpl
theorem Kw(hc:Yw X (.type T) r)(hg:Gl X x)(hm:X.mg x=none)(hv:bootBuiltins x=some (.type T))(hn:x ≠ "__name__" := by decide)(hdb:(x==("__debug__" : Str))=false:=by decide) :
  PE X (.Call (.Name x p) [] [] pos) (tCB r Za3):=by
 intro cQ s U H Q I h;refine iN (Ul I hg hm hv ?_ hn hdb);exact PyProof.Rows.callWith_type0 (hc cQ s U H [] [] Q I .nil h)
end
end L2
namespace HT
open PySem PyProof.Rows
section
open PySem.SeqAt
open PySem.AutoSeq1 (wpAny_loadPart')
open PySem.MeetsSeq PySem.MeetsSeq2 PySem.MeetsSeq3
end
def cat_tup{t b:Addr}{vs ws:List Value}(ht:IsTup s.heap t vs.toArray)(hb:IsTup s.heap b ws.toArray)(hv:vs≠[])
  (h1:ws=[]->Q (.ref t) s) (h2:ws≠[]->Q (.ref s.heap.objs.size) { s with heap:=s.heap.push { cls:=.type "tuple",data:=.seq (vs++ws).toArray } })
  (hsz:vs.length+ws.length<=sizeLine):wpAny (model prog w) A (binaryOp .Add (.ref t) (.ref b)) Q E s:=by
 obtain⟨⟨cls,dd,data,sl⟩,ho,hc,n,hd⟩:=id ht;obtain⟨⟨cls2,dd2,data2,sl2⟩,ho2,hc2,n2,hd2⟩:=id hb;simp only at hc hd hc2 hd2;subst hc hd hc2 hd2;have e:vs.toArray++ws.toArray=(vs++ws).toArray:=by simp
 by_cases hw:ws=[]
 ·exact concat_meets ⟨_,ho,rfl⟩ ⟨_,ho2,rfl⟩ noFill_tuple_add seq_tuple_add PySem.F.slot_tuple_add PySem.F.entry_tuple_add (PySem.F.args_tuple_add_2 _ _)
   (tuple_addW1 t b vs.toArray ws.toArray n n2 dd dd2 sl sl2 (by simpa using hv) (by simp[hw])) ⟨ho,ho2,h1 hw⟩
 ·refine concat_meets ⟨_,ho,rfl⟩ ⟨_,ho2,rfl⟩ noFill_tuple_add seq_tuple_add PySem.F.slot_tuple_add PySem.F.entry_tuple_add (PySem.F.args_tuple_add_2 _ _)
   (tuple_addW2 t b vs.toArray ws.toArray n n2 dd dd2 sl sl2 (by simpa using hv) (by simpa using hw) (by rw[fL,fL];exact hsz)) ⟨ho,ho2,?_⟩
  rw[e];exact h2 hw
def sIx(n d:Nat):Option Int->Nat
 |none=>d
 |some v=>if v<0 then(v+(n:Int)).toNat else min v.toNat n
def sIx_none(n d:Nat):sIx n d none=d:=rfl
def sIx_nat(n d k:Nat):sIx n d (some (k:Int))=min k n:=by
 show(if(k:Int)<0 then((k:Int)+(n:Int)).toNat else min (k:Int).toNat n)=min k n
 rw[if_neg (by omega),ge]
def ZfE(n d:Nat)(hd:d<=n)(o:Option Int):sIx n d o<=n:=by
 cases o with
 |none=>exact hd
 |some v=>
  show(if v<0 then(v+(n:Int)).toNat else min v.toNat n)<=n
  by_cases hv:v<0
  ·rw[if_pos hv];omega
  ·rw[if_neg hv];exact m6 _ _
def Q0(v:Int)(n d:Nat):(if v<0 then max (v+(n:Int)) 0 else min v (n:Int))=((sIx n d (some v):Nat):Int):=by
 show(if v<0 then max (v+(n:Int)) 0 else min v (n:Int))=(((if v<0 then(v+(n:Int)).toNat else min v.toNat n):Nat):Int)
 by_cases hv:v<0
 ·simp only[if_pos hv];omega
 ·simp only[if_neg hv];omega
def Qy(lo hi:Option Int)(n:Nat):Builtin.Slice.sliceAdjust lo hi 1 (n:Int)=(((sIx n 0 lo:Nat):Int),((sIx n n hi:Nat):Int)):=by
 have h1:¬((1:Int)<0):=by omega
 unfold Builtin.Slice.sliceAdjust;simp only[h1,gG];refine Prod.ext ?_ ?_
 ·cases lo with
  |none=>rfl
  |some v=>exact Q0 v n 0
 ·cases hi with
  |none=>rfl
  |some v=>exact Q0 v n n
def KN(i j:Nat):Builtin.Slice.slicePlaces (i:Int) (j:Int) 1=j-i:=by
 unfold Builtin.Slice.slicePlaces;have h1:(1:Int)>0:=by omega
 simp only[h1,gZ,Int.ediv_one]
 split<;>omega
def yH{v:Value}{o:Option Int}{Q:Option Int->Shared->Prop}(p:IsPart v o)(h:Q o s):wpAny (model prog w) A (Builtin.Slice.slicePartIndex v) Q E s:=by
 cases p with
 |none=>exact slicePart_none h
 |int i t=>exact slicePart_int h
def zQ{vu:Value}{Q:Int×Int×Nat->Shared->Prop}(hs:s.heap.IsSliceOf sl vl vu .none)(pl:IsPart vl lo)(pu:IsPart vu hi)
  (h:Q (((sIx n 0 lo:Nat):Int),1,sIx n n hi-sIx n 0 lo) s):wpAny (model prog w) A (Builtin.Slice.sliceApplied (.ref sl) (pure (n:Int))) Q E s:=by
 obtain⟨os,hos,hcs,hds⟩:=id hs;unfold Builtin.Slice.sliceApplied Builtin.Slice.sliceFields;refine fg (fg (g0 hos hds (x:=vl) rfl (fg (g0 hos hds (x:=vu) rfl (fg (g0 hos hds (x:=.none) rfl (fq ?_)))))));refine fg (slicePart_none ?_)
 show wpAny _ _ (if((1:Int)==0)=true then _ else _) _ _ s
 rw[if_neg (by decide)];refine fg (yH pl (fg (yH pu (fg (fq ?_)))))
 show wpAny _ _ (match Builtin.Slice.sliceAdjust lo hi 1 (n:Int) with|(lo,hi)=>pure (lo,(1:Int),Builtin.Slice.slicePlaces lo hi 1)) _ _ s
 rw[Qy lo hi n]
 show wpAny _ _ (pure (((sIx n 0 lo:Nat):Int),(1:Int),Builtin.Slice.slicePlaces ((sIx n 0 lo:Nat):Int) ((sIx n n hi:Nat):Int) 1)) _ _ s
 rw[KN];exact fq h
def ZbK(xs:Array Value)(i k:Nat):((List.range k).filterMap fun(m:Nat)=>xs[((i:Int)+(m:Int)*1).toNat]?).toArray=((xs.toList.drop i).take k).toArray:=by
 have e:(fun(m:Nat)=>xs[((i:Int)+(m:Int)*1).toNat]?)=fun m=>xs[i+m]?:=by
  funext m
  have:((i:Int)+(m:Int)*1).toNat=i+m:=by omega
  rw[this]
 rw[e];have:=pick_run xs i k;rw[List.filterMap_map] at this;have e2:((fun x=>xs[x]?)∘fun x=>i+x)=fun m=>xs[i+m]?:=rfl;rw[e2] at this;rw[this]
def getItem_tuple_cut{t:Addr}{vu:Value}(ht:IsTup s.heap t items)(hs:s.heap.IsSliceOf sl vl vu .none)(pl:IsPart vl lo)(pu:IsPart vu hi)
  (hw:¬(sIx items.size 0 lo=0/\sIx items.size items.size hi=items.size))
  (h:Q (.ref s.heap.objs.size) { s with heap:=s.heap.push { cls:=.type "tuple",data:=.seq ((items.toList.drop (sIx items.size 0 lo)).take (sIx items.size items.size hi-sIx items.size 0 lo)).toArray } })
  (hsz:items.size<=sizeLine):wpAny (model prog w) A (getItem (.ref t) (.ref sl)) Q E s:=by
 have htake:sizeOk (.seq ((items.toList.drop (sIx items.size 0 lo)).take (sIx items.size items.size hi-sIx items.size 0 lo)).toArray):=by
  show((items.toList.drop (sIx items.size 0 lo)).take (sIx items.size items.size hi-sIx items.size 0 lo)).toArray.size<=sizeLine
  rw[fL,fZ,g6,hV];omega
 have hj:sIx items.size items.size hi<=items.size:=ZfE _ _ (fh _) hi;obtain⟨os,hos,hcs,hds⟩:=id hs;have hTs:s.TypeIs (.ref sl) "slice" := ⟨os,hos,hcs⟩;unfold getItem
 try with_reducible refine gW ?_
 first|refine fg (fq ?_)|skip
 refine fg (wpAny_sequenceKey ht.typeIs (by decide) ?_);refine fg (i7 (name:=Str.ofString "__getitem__") ht.typeIs nI
  (ia nI ht.typeIs entry_tuple_getitem ?_ (args_tuple_getitem _ _)))
 show wpAny _ _ (Builtin.Tuple.tupleItemsOf (.ref t) >>= _) _ _ s
 refine fg (tupleItemsOf_ ht ?_);refine fg (wpAny_typeOf hTs ?_);rw[if_pos (by decide)];refine fg (zQ hs pl pu ?_);have hno:¬((((sIx items.size 0 lo:Nat):Int)==0&&(1:Int)==1&&(sIx items.size items.size hi-sIx items.size 0 lo)==items.size)=true):=by
  intro q;rw[gb,gb] at q;have q1:((sIx items.size 0 lo:Nat):Int)=0:=eq_of_beq q.1.1;have q2:sIx items.size items.size hi-sIx items.size 0 lo=items.size:=eq_of_beq q.2;exact hw ⟨by omega,by omega⟩
 show wpAny _ _ (if(((sIx items.size 0 lo:Nat):Int)==0&&(1:Int)==1&&(sIx items.size items.size hi-sIx items.size 0 lo)==items.size)=true then _ else _) _ _ s
 rw[if_neg hno,ZbK]
 first
  |exact fg (m:=Builtin.Tuple.tupleExact _) (g7 (fq ⟨_,rfl,fq h⟩) htake)
  |exact fg (m:=Builtin.Tuple.tupleExact _) (g7 (fg (fq (fq ⟨_,rfl,fq h⟩))) htake)
  |exact fg (fg (m:=Builtin.Tuple.tupleExact _) (g7 (fq (fq ⟨_,rfl,fq h⟩)) htake))
  |exact fg (fg (m:=Builtin.Tuple.tupleExact _) (g7 (fq ⟨_,rfl,fq h⟩) htake))
end HT
namespace L2
open PySem PySem.Spec PyProof.Rows
abbrev TO:=St->Hp->(Option Int->Hp->Prop)->Prop
def PO(X:Cx)(e:Option Expr)(t:TO):Prop:=
 ∀(cQ:List (Addr×Obj)) (s:Shared) (U:St) (H:Hp) (Q:Option Int->Hp->Prop),Inv X cQ U H s->t U H Q ->
  wpAny (model X.prog X.w) X.A (evalPart e X.env) (fun u s'=>∃o H',Inv X cQ U H' s'/\IsPart u o/\Q o H') X.xe s
def Zdr:TO:=fun _ H Q=>Q none H
inductive Zej(x:V)(H:Hp)(Q:Option Int->Hp->Prop):Prop
 |mk (i:Int) (h:x=.int i) (k:Q (some i) H):Zej x H Q
def Zgw(t:TE):TO:=fun U H Q=>t U H fun x H1=>Zej x H1 Q
def KS:∀{us:List Value},ZM (ns.map V.int) us->IntsAre us ns:=by
 induction ns with
 |nil=>intro us r;rw[List.map_nil] at r;cases r;exact .nil
 |cons n ns ih=>
  intro us r;rw[fP] at r;cases r with
  |cons r1 r2=>
   obtain⟨t,e⟩:=r1;subst e;exact .cons n t (ih r2)
section
variable{lo hi:Option Expr}{tl th:TO}
theorem YH:PO X none Zdr:=by
 intro cQ s U H Q I h;rw[evalPart_none];exact fq ⟨none,H,I,.none,h⟩
theorem Z9(h:PE X e te):PO X (some e) (Zgw te):=by
 intro cQ s U H Q I hw;rw[evalPart_some];refine thn (h cQ s U H _ I hw) fun u s1 ⟨x,H1,I1,r1,q1⟩=>?_;obtain⟨i,rfl,q⟩:=q1;obtain⟨t,rfl⟩:=r1;exact⟨some i,H1,I1,.int i t,q⟩
def SlR(X:Cx)(r:V->Option Int->Option Int->Hp->VK->Prop):Prop:=
 ∀(cQ:List (Addr×Obj)) (s:Shared) (U:St) (H:Hp) (x:V) (v vl vu:Value) (lo hi:Option Int) (sl:Addr) (Q:VK),Inv X cQ U H s->ZZ x v->s.heap.IsSliceOf sl vl vu .none->IsPart vl lo->IsPart vu hi->r x lo hi H Q ->
  ∃T id,typeLookup (.type T) "__getitem__" = pure (some (.builtin id))/\s.TypeIs v T/\wpAny (model X.prog X.w) X.A (getItem v (.ref sl)) (EP X cQ U Q) X.xe s
def tSl(r:V->Option Int->Option Int->Hp->VK->Prop)(te:TE)(tl th:TO):TE:=fun U H Q=>te U H fun x H1=>tl U H1 fun l H2=>th U H2 fun u H3=>r x l u H3 Q
theorem Yd{r:V->Option Int->Option Int->Hp->VK->Prop}(hr:SlR X r)(he:PE X e te)(hl:PO X lo tl)(hu:PO X hi th):PE X (.Subscript e (.Slice lo hi none p2) pos) (tSl r te tl th):=by
 intro cQ s U H Q I h;refine Subscript_ (thn (he cQ s U H _ I h) fun v s1 ⟨x,H1,I1,r1,q1⟩=>?_);refine wpAny_Slice (thn (hl cQ s1 U H1 _ I1 q1) fun vl s2 ⟨l,H2,I2,pl,q2⟩=>thn (hu cQ s2 U H2 _ I2 q2) fun vu s3 ⟨u,H3,I3,pu,q3⟩=>?_);rw[evalPart_none];refine fq ?_;have I4:Inv X cQ U H3 { s3 with heap:=s3.heap.push { cls:=.type "slice",data:=.fields #[vl,vu,.none] } }:=I3.kept (t':=s3.toks) fun b ob q=>fz _ q;obtain⟨T,id,hT,ht,hg⟩:=hr cQ { s3 with heap:=s3.heap.push { cls:=.type "slice",data:=.fields #[vl,vu,.none] } } U H3 x v vl vu l u s3.heap.objs.size Q I4 r1 (Heap.IsSliceOf.new ..) pl pu q3
 show wpAny (model X.prog X.w) X.A (subscriptTail e (.Slice lo hi none p2) v (.ref s3.heap.objs.size)) (EP X cQ U Q) X.xe { s3 with heap:=s3.heap.push { cls:=.type "slice",data:=.fields #[vl,vu,.none] } }
 exact tail_any (ops:=[.ref s3.heap.objs.size,v]) ht hT hg (by with_unfolding_all rfl)
def Vi(xs:List V)(lo hi:Option Int):List V:=(xs.drop (HT.sIx xs.length 0 lo)).take (HT.sIx xs.length xs.length hi-HT.sIx xs.length 0 lo)
theorem yd(xs:List V)(lo hi:Option Int):(Vi xs lo hi).length<=xs.length:=by
 unfold Vi;rw[fZ,g6];omega
inductive ZbM(K:W.Frag)(x:V)(lo:Option Int)(hi:Option Int)(H:Hp)(Q:VK):Prop
 |mk (a:_) (xs:_) (h0:x=.ref a) (h1:SqT K H a xs) (h2:¬(HT.sIx xs.length 0 lo=0/\HT.sIx xs.length xs.length hi=xs.length)) (h3:∀p,H p=none->Q (.ref p) (upd H p (.tup (Vi xs lo hi)))):ZbM K x lo hi H Q
def Zgc(K:W.Frag):V->Option Int->Option Int->Hp->VK->Prop:=fun x lo hi H Q=>ZbM K x lo hi H Q
theorem Zfp:SlR X (Zgc X.K):=by
 intro cQ s U H x v vl vu lo hi sl Q I rx hs pl pu h;obtain⟨a,xs,rfl,hx,hw,q⟩:=h;cases rx;obtain⟨its,r,ht,hz⟩:=I.tuple hx;have hlen:its.toArray.size=xs.length:=by rw[fL];exact r.length.symm
 refine⟨"tuple",_,nI.lookup,ht.typeIs,?_⟩;refine HT.getItem_tuple_cut ht hs pl pu (by rw[hlen];exact hw) ?_ (by rw[hlen];exact hz);rw[hlen];refine⟨.ref s.heap.objs.size,_,I.laid (t':=s.toks) (o:=.tup (Vi xs lo hi)) (fun b ob q=>fz _ q) (fh _) ?_,rfl,q _ (I.hok.fresh (fh _))⟩;exact⟨fK (yd xs lo hi) hz,_,(r.drop (HT.sIx xs.length 0 lo)).take (HT.sIx xs.length xs.length hi-HT.sIx xs.length 0 lo),IsTup.new _ _⟩
inductive Q4(K:W.Frag)(x:V)(y:V)(H:Hp)(Q:VK):Prop
 |mk (a:_) (b:_) (xs:_) (ys:_) (h0:x=.ref a) (h1:y=.ref b) (h2:SqT K H a xs) (h3:SqT K H b ys) (h4:xs≠[]) (h5:xs.length+ys.length<=sizeLine) (h6:(ys=[]->Q (.ref a) H)) (h7:(ys≠[]->∀p,H p=none->Q (.ref p) (upd H p (.tup (xs++ys))))):Q4 K x y H Q
def Zey(K:W.Frag):R2:=fun x y H Q=>Q4 K x y H Q
theorem ZM.nil_iff{xs:List V}(r:ZM xs us):us=[]↔xs=[]:=by
 cases r with
 |nil=>simp
 |cons _ _=>simp
theorem Zc4:OpR X (binaryOp .Add) (Zey X.K):=by
 intro cQ s U H x y v u Q I rx ry h;obtain⟨a,b,xs,ys,rfl,rfl,ha,hb,hx,hz,q1,q2⟩:=h;cases rx;cases ry;obtain⟨its,r1,p1,_⟩:=I.tuple ha;obtain⟨its2,r2,p2,_⟩:=I.tuple hb;refine HT.cat_tup p1 p2 (fun z=>hx (r1.nil_iff.mp z)) (fun z=>⟨.ref a,H,I,rfl,q1 (r2.nil_iff.mp z)⟩) (fun z=>?_) (by rw[<- r1.length,<- r2.length];exact hz);refine⟨.ref s.heap.objs.size,_,I.laid (t':=s.toks) (o:=.tup (xs++ys)) (fun b ob q=>fz _ q) (fh _) ?_,rfl,q2 (fun w=>z (r2.nil_iff.mpr w)) _ (I.hok.fresh (fh _))⟩;exact⟨by rw[fu];exact hz,_,r1.append r2,IsTup.new _ _⟩
end
def ixN(n:Nat)(i:Int):Option Nat:=if 0<=i then(if i<n then some i.toNat else none) else if -(n:Int)<=i then some (i+n).toNat else none
def atI(xs:List α)(i:Int):Option α:=(ixN xs.length i).bind fun j=>xs[j]?
def Zdd{i:Int}(h:ixN n i=some j):seqIndex? i n=some j/\j<n/\-(n:Int)<=i/\i<n:=by
 unfold ixN at h
 by_cases h0:0<=i
 ·rw[if_pos h0] at h
  by_cases h1:i<n
  ·rw[if_pos h1] at h;have e:i.toNat=j:=fO h;exact⟨by rw[seqIndex_of h0 h1,e],by omega,by omega,h1⟩
  ·rw[if_neg h1] at h;cases h
 ·rw[if_neg h0] at h
  by_cases h1:-(n:Int)<=i
  ·rw[if_pos h1] at h;have e:(i+n).toNat=j:=fO h;exact⟨by rw[seqIndex_neg (by omega) h1,e],by omega,h1,by omega⟩
  ·rw[if_neg h1] at h;cases h
def kM{xs:List α}{i:Int}{v:α}(h:atI xs i=some v):∃j,seqIndex? i xs.length=some j/\xs[j]?=some v/\j<xs.length/\-(xs.length:Int)<=i/\i<xs.length:=by
 unfold atI at h;cases e:ixN xs.length i with
 |none=>rw[e] at h;cases h
 |some j=>
  rw[e] at h;obtain⟨h1,h2,h3,h4⟩:=Zdd e;exact⟨j,h1,h,h2,h3,h4⟩
def Zj{xs:List α}{v:α}(h:xs[j]?=some v):atI xs (j:Int)=some v:=by
 have hj:j<xs.length:=(fD.mp h).1;have e:ixN xs.length (j:Int)=some j:=by
  unfold ixN;rw[if_pos (by omega),if_pos (by omega)];simp
 unfold atI;rw[e];exact h
def Jx(xs:List α)(v:α):atI (xs++[v]) (-1)=some v:=by
 have hl:(xs++[v]).length=xs.length+1:=by simp
 have e:ixN (xs++[v]).length (-1)=some xs.length:=by
  unfold ixN;rw[hl,if_neg (by decide),if_pos (by omega)]
  congr 1
  omega
 unfold atI;rw[e]
 show(xs++[v])[xs.length]?=some v
 simp
def ZdK(b:Expr):Prop:=∀o i,subscripted b false o i=operate [o,i] (getItem o i)
def IxR(X:Cx)(r:R2):Prop:=
 ∀(value slice:Expr) (cQ:List (Addr×Obj)) (s:Shared) (U:St) (H:Hp) (x y:V) (v u:Value) (Q:VK),Inv X cQ U H s->ZZ x v->ZZ y u->r x y H Q ->
  subscripted slice false v u=operate [v,u] (getItem v u)->wpAny (model X.prog X.w) X.A (subscriptTail value slice v u) (EP X cQ U Q) X.xe s
def MtR(X:Cx)(id:String)(r:V->List V->Hp->VK->Prop):Prop:=
 ∀(cQ:List (Addr×Obj)) (s:Shared) (U:St) (H:Hp) (x:V) (xs:List V) (v:Value) (us:List Value) (Q:VK),Inv X cQ U H s->ZZ x v->ZM xs us->r x xs H Q ->
  wpAny (model X.prog X.w) X.A (call (.builtin id) (v::us)) (EP X cQ U Q) X.xe s
section
variable{X:Cx}{a b:Expr}{ta tb:TE}{pos:Pos}
theorem Zv{r:R2}(hr:IxR X r)(ha:PE X a ta)(hb:PE X b tb)(hs:ZdK b):PE X (.Subscript a b pos) (tOp r ta tb):=by
 intro cQ s U H Q I h;exact Subscript_ (Zfb ha hb I h fun v u s2 x y H2 I2 rx ry q=>hr a b cQ s2 U H2 x y v u Q I2 rx ry q (hs _ _))
inductive ZbN(K:W.Frag)(x:V)(y:V)(H:Hp)(Q:VK):Prop
 |mk (p:_) (xs:_) (i:_) (v:_) (h0:x=.ref p) (h1:y=.int i) (h2:SqL K H p xs) (h3:atI xs i=some v) (h4:Q v H):ZbN K x y H Q
def ZfZ(K:W.Frag):R2:=fun x y H Q=>ZbN K x y H Q
inductive ZcX(K:W.Frag)(x:V)(y:V)(H:Hp)(Q:VK):Prop
 |mk (p:_) (xs:_) (i:_) (v:_) (h0:x=.ref p) (h1:y=.int i) (h2:SqT K H p xs) (h3:atI xs i=some v) (h4:Q v H):ZcX K x y H Q
def Zgd(K:W.Frag):R2:=fun x y H Q=>ZcX K x y H Q
inductive Zbt(x:V)(y:V)(H:Hp)(Q:VK):Prop
 |mk (z:_) (i:_) (c:_) (h0:x=.str z) (h1:y=.int i) (h2:z.length<=sizeLine) (h3:atI z.cps.toList i=some c) (h4:Q (.str ⟨#[c]⟩) H):Zbt x y H Q
def rIxS:R2:=fun x y H Q=>Zbt x y H Q
theorem ZdB:IxR X (ZfZ X.K):=by
 intro value slice cQ s U H x y v u Q I rx ry h hs;obtain⟨p,xs,i,z,rfl,rfl,hq,he,q⟩:=h;cases rx;obtain⟨t,rfl⟩:=ry;obtain⟨its,r,pl,hz⟩:=I.list hq;obtain⟨j,h1,h2,h3,h4,h5⟩:=kM he;obtain⟨w,ew,rw'⟩:=r.get h2;have hl:=r.length;have hn:=zK;have fin:EP X cQ U Q w s:=⟨z,H,I,rw',q⟩
 by_cases h0:0<=i
 ·have hj:i.toNat=j:=by
   rw[seqIndex_of h0 h5] at h1;exact fO h1
  exact item_listR pl.isList h0 (by omega) (by rw[hj];simpa using ew) fin hs
 ·have hj:(i+(its.toArray.size:Int)).toNat=j:=by
   rw[seqIndex_neg (by omega) h4] at h1;rw[fL,<- hl];exact fO h1
  exact subscriptTail_builtinR (x:=w) pl.isList.typeIs slot_list_getitem.lookup
   (wpAny_getItem_list_neg (Q:=fun r s'=>r=w/\EP X cQ U Q r s') pl.isList (by omega) (by rw[fL]<;>omega) (by omega) (by rw[hj];simpa using ew) ⟨rfl,fin⟩) hs
theorem ZeV:IxR X (Zgd X.K):=by
 intro value slice cQ s U H x y v u Q I rx ry h hs;obtain⟨p,xs,i,z,rfl,rfl,hq,he,q⟩:=h;cases rx;obtain⟨t,rfl⟩:=ry;obtain⟨its,r,pl,hz⟩:=I.tuple hq;obtain⟨j,h1,h2,h3,h4,h5⟩:=kM he;obtain⟨w,ew,rw'⟩:=r.get h2;have hl:=r.length;have hn:=zK;have fin:EP X cQ U Q w s:=⟨z,H,I,rw',q⟩;exact subscriptTail_builtinR (x:=w) pl.typeIs slot_tuple_getitem.lookup
  (getItem_tuple (j:=j) (Q:=fun r s'=>r=w/\EP X cQ U Q r s') pl (by omega) (by omega) (by rw[fL,<- hl];exact h1) (by simpa using ew) ⟨rfl,fin⟩) hs
theorem K7:IxR X rIxS:=by
 intro value slice cQ s U H x y v u Q I rx ry h hs;obtain⟨z,i,c,rfl,rfl,hz,he,q⟩:=h;obtain⟨t,rfl⟩:=rx;obtain⟨t',rfl⟩:=ry;obtain⟨j,h1,h2,h3,h4,h5⟩:=kM he;have hl:z.cps.toList.length=z.length:=by simp[Str.length]
 rw[hl] at h1 h4 h5;have hn:=zK;exact tail_any (typeIs_str s z t) slot_str_getitem.lookup (getItem_str (c:=c) (by
  have e1:decide (i < -(2 ^ 63:Int))=false:=gJ (by omega);have e2:decide (i≥2 ^ 63)=false:=gJ (by omega);rw[e1,e2,Bool.or_false]) (by rw[h1];simpa using h2) ⟨.str ⟨#[c]⟩,H,I.tok _,⟨_,rfl⟩,q⟩) hs
theorem j8(lo hi:Option Int)(n:Nat):(sliceBounds lo hi none n).1=((HT.sIx n 0 lo:Nat):Int)/\(sliceBounds lo hi none n).2.1=((HT.sIx n n hi:Nat):Int)/\(sliceBounds lo hi none n).2.2=1:=by
 refine⟨?_,?_,rfl⟩
 ·cases lo with
  |none=>simp[sliceBounds,HT.sIx]
  |some i=>
   simp only[sliceBounds,HT.sIx,Option.getD_none,show(1:Int)>0 by decide,gZ]
   by_cases h:i<0
   ·simp only[h,gZ]<;>omega
   ·simp only[h,gG]<;>omega
 ·cases hi with
  |none=>simp[sliceBounds,HT.sIx]
  |some i=>
   simp only[sliceBounds,HT.sIx,Option.getD_none,show(1:Int)>0 by decide,gZ]
   by_cases h:i<0
   ·simp only[h,gZ]<;>omega
   ·simp only[h,gG]<;>omega
theorem vb(its:List Value)(lo hi:Option Int):slicePick its.toArray lo hi none=((its.drop (HT.sIx its.length 0 lo)).take (HT.sIx its.length its.length hi-HT.sIx its.length 0 lo)).toArray:=by
 obtain⟨h1,h2,h3⟩:=j8 lo hi its.toArray.size;unfold slicePick;rw[h1,h2,h3];simp only[sliceRange_one,pick_run,fL]<;>rfl
inductive Zch(K:W.Frag)(x:V)(lo:Option Int)(hi:Option Int)(H:Hp)(Q:VK):Prop
 |mk (a:_) (xs:_) (h0:x=.ref a) (h1:SqL K H a xs) (h2:∀p,H p=none->Q (.ref p) (upd H p (.lst (Vi xs lo hi)))):Zch K x lo hi H Q
def ZfV(K:W.Frag):V->Option Int->Option Int->Hp->VK->Prop:=fun x lo hi H Q=>Zch K x lo hi H Q
theorem Zc7:SlR X (ZfV X.K):=by
 intro cQ s U H x v vl vu lo hi sl Q I rx hs pl pu h;obtain⟨a,xs,rfl,hx,q⟩:=h;cases rx;obtain⟨its,r,ht,hz⟩:=I.list hx;have hlen:=r.length;refine⟨"list",_,slot_list_getitem.lookup,ht.isList.typeIs,?_⟩;refine wpAny_getItem_list_slice ht.isList hs pl pu .none (by simp) ?_ (by rw[fL]<;>omega);rw[vb,<- hlen];refine⟨.ref s.heap.objs.size,_,I.laid (t':=s.toks) (o:=.lst (Vi xs lo hi)) (fun b ob q=>fz _ q) (fh _) ?_,rfl,q _ (I.hok.fresh (fh _))⟩;exact⟨fK (yd xs lo hi) hz,_,0,(r.drop (HT.sIx xs.length 0 lo)).take (HT.sIx xs.length xs.length hi-HT.sIx xs.length 0 lo),fR _ rfl⟩
def qd:V->Bool
 |.non=>true
 |.bl _=>true
 |.int _=>true
 |.str _=>true
 |_=>false
def eqV:V->V->Bool
 |.non,.non=>true
 |.bl a,.bl b=>a==b
 |.bl a,.int b=>(if a then 1 else 0)==b
 |.int a,.bl b=>a==(if b then 1 else 0)
 |.int a,.int b=>a==b
 |.str a,.str b=>a==b
 |_,_=>false
theorem Zfy{x:V}{v:Value}(ry:ZZ y u)(rx:ZZ x v)(fy:qd y=true)(fx:qd x=true):SeqAt.EqAt A s u v (eqV y x):=by
 cases y with
 |non=>
  cases ry;cases x with
  |non=>cases rx;exact SeqAt.EqAt.same _
  |bl b=>cases rx;exact SeqAt.EqAt.none_bool b
  |int b=>obtain⟨t,rfl⟩:=rx;exact SeqAt.EqAt.none_int b t
  |str b=>obtain⟨t,rfl⟩:=rx;exact SeqAt.EqAt.none_str b t
  |_=>exact absurd (show false=true from fx) fV
 |bl a=>
  cases ry;cases x with
  |non=>cases rx;exact SeqAt.EqAt.bool_none a
  |bl b=>cases rx;exact SeqAt.EqAt.bool_bool a b
  |int b=>obtain⟨t,rfl⟩:=rx;exact SeqAt.EqAt.bool_int a b t
  |str b=>obtain⟨t,rfl⟩:=rx;exact SeqAt.EqAt.bool_str a b t
  |_=>exact absurd (show false=true from fx) fV
 |int a=>
  obtain⟨t',rfl⟩:=ry;cases x with
  |non=>cases rx;exact SeqAt.EqAt.int_none a t'
  |bl b=>cases rx;exact SeqAt.EqAt.int_bool a t' b
  |int b=>obtain⟨t,rfl⟩:=rx;exact SeqAt.EqAt.int_int a t' b t
  |str b=>obtain⟨t,rfl⟩:=rx;exact SeqAt.EqAt.int_str a t' b t
  |_=>exact absurd (show false=true from fx) fV
 |str a=>
  obtain⟨t',rfl⟩:=ry;cases x with
  |non=>cases rx;exact SeqAt.EqAt.str_none a t'
  |bl b=>cases rx;exact SeqAt.EqAt.str_bool a t' b
  |int b=>obtain⟨t,rfl⟩:=rx;exact SeqAt.EqAt.str_int a t' b t
  |str b=>obtain⟨t,rfl⟩:=rx;exact SeqAt.EqAt.str_str a t' b t
  |_=>exact absurd (show false=true from fx) fV
 |_=>exact absurd (show false=true from fy) fV
def eqU(x:V)(u:Value):Bool:=match u with
 |.none=>eqV .non x
 |.bool b=>eqV (.bl b) x
 |.int i _=>eqV (.int i) x
 |.str z _=>eqV (.str z) x
 |_=>false
theorem ZbL{x:V}(r:ZZ y u)(f:qd y=true):eqU x u=eqV y x:=by
 cases y with
 |non=>cases r;rfl
 |bl b=>cases r;rfl
 |int i=>obtain⟨t,rfl⟩:=r;rfl
 |str z=>obtain⟨t,rfl⟩:=r;rfl
 |_=>exact absurd (show false=true from f) fV
theorem qU{x:V}:∀{xs:List V}{us:List Value},ZM xs us->xs.all qd=true->us.any (eqU x)=xs.any fun y=>eqV y x
 |_,_,.nil,_=>rfl
 |y::xs,u::us,.cons r t,f=>by
  rw[lH,gb] at f;rw[me,me,ZbL r f.1,qU t f.2]
theorem UV{A:Around}{s:Shared}{x:V}{v:Value}(rx:ZZ x v)(fx:qd x=true):∀{xs:List V}{us:List Value},ZM xs us->xs.all qd=true->∀u∈us,SeqAt.EqAt A s u v (eqU x u)
 |_,_,.nil,_=>fun u hu=>by cases hu
 |y::xs,u::us,.cons r t,f=>fun u' hu=>by
  rw[lH,gb] at f;rcases fF.mp hu with rfl|hu
  ·rw[ZbL r f.1];exact Zfy r rx f.1 fx
  ·exact UV rx fx t f.2 u' hu
def inV(x:V)(xs:List V):Bool:=xs.any fun y=>eqV y x
inductive Zez(K:W.Frag)(neg:Bool)(x:V)(y:V)(H:Hp)(Q:VK):Prop
 |mk (p:_) (xs:_) (h0:y=.ref p) (h1:(SqL K H p xs\/SqT K H p xs)) (h2:qd x=true) (h3:xs.all qd=true) (h4:Q (.bl (if neg then !inV x xs else inV x xs)) H):Zez K neg x y H Q
def rIn(K:W.Frag)(neg:Bool):R2:=fun x y H Q=>Zez K neg x y H Q
theorem Za6:OpR X (compareOp .In) (rIn X.K false):=by
 intro cQ s U H x y v u Q I rx ry h;obtain⟨p,xs,rfl,hq,fx,fs,q⟩:=h;cases ry;rcases hq with hq|hq
 ·obtain⟨its,r,pl,hz⟩:=I.list hq;refine SeqAt.in_listAt (eqU x) pl.isList (fun w hw=>UV rx fx r fs w (by simpa using hw)) ⟨.bl _,H,I,rfl,?_⟩;rw[show its.toArray.any (eqU x)=its.any (eqU x) by simp,qU r fs];exact q
 ·obtain⟨its,r,pl,hz⟩:=I.tuple hq;refine SeqAt.in_tupleAt (eqU x) pl (fun w hw=>UV rx fx r fs w (by simpa using hw)) ⟨.bl _,H,I,rfl,?_⟩;rw[show its.toArray.any (eqU x)=its.any (eqU x) by simp,qU r fs];exact q
theorem jY:OpR X (compareOp .NotIn) (rIn X.K true):=by
 intro cQ s U H x y v u Q I rx ry h;obtain⟨p,xs,rfl,hq,fx,fs,q⟩:=h;cases ry;rcases hq with hq|hq
 ·obtain⟨its,r,pl,hz⟩:=I.list hq;refine SeqAt.notIn_listAt (eqU x) pl.isList (fun w hw=>UV rx fx r fs w (by simpa using hw)) ⟨.bl _,H,I,rfl,?_⟩;rw[show its.toArray.any (eqU x)=its.any (eqU x) by simp,qU r fs];exact q
 ·obtain⟨its,r,pl,hz⟩:=I.tuple hq;refine SeqAt.notIn_tupleAt (eqU x) pl (fun w hw=>UV rx fx r fs w (by simpa using hw)) ⟨.bl _,H,I,rfl,?_⟩;rw[show its.toArray.any (eqU x)=its.any (eqU x) by simp,qU r fs];exact q
theorem kL:Yw X (.builtin "len") (fun xs H Q=>∃p ys,xs=[.ref p]/\(SqL X.K H p ys\/SqT X.K H p ys)/\Q (.int ys.length) H):=by
 intro cQ s U H xs us Q I r h;obtain⟨p,ys,rfl,hq,q⟩:=h;obtain⟨u,rfl,rx⟩:=Vz r;cases rx;have hn:=zK;rcases hq with hq|hq
 ·obtain⟨its,r',pl,hz⟩:=I.list hq;have hlen:=r'.length;exact Calls.call_len_list pl.isList (by simp only[fL]<;>omega) ⟨.int ys.length,H,I.tok _,⟨s.toks+1,by rw[fL,hlen]⟩,q⟩
 ·obtain⟨its,r',pl,hz⟩:=I.tuple hq;have hlen:=r'.length;exact len_tuple pl (by simp only[fL]<;>omega) ⟨.int ys.length,H,I.tok _,⟨s.toks+1,by rw[fL,hlen]⟩,q⟩
theorem jz:Yw X (.builtin "len") (fun xs H Q=>∃z,xs=[.str z]/\z.length<=sizeLine/\Q (.int z.length) H):=by
 intro cQ s U H xs us Q I r h;obtain⟨z,rfl,hz,q⟩:=h;obtain⟨u,rfl,t,rfl⟩:=Vz r;have hn:=zK;exact len_str (by omega) ⟨.int z.length,H,I.tok _,⟨_,rfl⟩,q⟩
theorem Yw.or{f:Value}{r r':List V->Hp->VK->Prop}(h:Yw X f r)(h':Yw X f r'):Yw X f (fun xs H Q=>r xs H Q\/r' xs H Q):=by
 intro cQ s U H xs us Q I rs q;rcases q with q|q
 ·exact h cQ s U H xs us Q I rs q
 ·exact h' cQ s U H xs us Q I rs q
theorem j5:Yw X (.type "list") (fun xs H Q=>∃p ys,xs=[.ref p]/\(SqL X.K H p ys\/SqT X.K H p ys)/\∀l,H l=none->Q (.ref l) (upd H l (.lst ys))):=by
 intro cQ s U H xs us Q I r h;obtain⟨p,ys,rfl,hq,q⟩:=h;obtain⟨u,rfl,rx⟩:=Vz r;cases rx;have fin:∀(its:List Value),ZM ys its->ys.length<=sizeLine->∀(h':Heap) (c':Nat),(∀b o',s.heap.get? b=some o'->h'.get? b=some o') ->
   h'.get? s.heap.objs.size=some { cls:=.type "list",dict:=none,data:=.seq its.toArray c',slots:=#[] }->EP X cQ U Q (.ref s.heap.objs.size) { s with heap:=h' }:=fun its r' hz h' c' kp e=>
  ⟨.ref s.heap.objs.size,_,I.laid (t':=s.toks) kp (fh _) (show YI X.prog X.w _ h' _ (.lst ys) from⟨hz,its,c',r',e⟩),rfl,q _ (I.hok.fresh (fh _))⟩
 rcases hq with hq|hq
 ·obtain⟨its,r',pl,hz⟩:=I.list hq;have hlen:=r'.length;obtain⟨o,ho,hc,n,hd⟩:=pl.isList;exact call_list_seq p (.inl rfl) ho hc hd (fun h' c' kp e=>fin its r' hz h' c' kp e) (by simp only[fL]<;>omega)
 ·obtain⟨its,r',pl,hz⟩:=I.tuple hq;have hlen:=r'.length;obtain⟨o,ho,hc,n,hd⟩:=pl;exact call_list_seq p (.inr rfl) ho hc hd (fun h' c' kp e=>fin its r' hz h' c' kp e) (by simp only[fL]<;>omega)
theorem vw:Yw X (.type "tuple") (fun xs H Q=>∃p ys,xs=[.ref p]/\((SqL X.K H p ys/\∀l,H l=none->Q (.ref l) (upd H l (.tup ys)))\/(SqT X.K H p ys/\Q (.ref p) H))):=by
 intro cQ s U H xs us Q I r h;obtain⟨p,ys,rfl,h⟩:=h;obtain⟨u,rfl,rx⟩:=Vz r;cases rx;rcases h with⟨hq,q⟩|⟨hq,q⟩
 ·obtain⟨its,r',pl,hz⟩:=I.list hq;have hlen:=r'.length;refine call_tuple_list pl.isList (fun h' kp=>?_) (by simp only[fL]<;>omega);have I1:Inv X cQ U H { s with heap:=h' }:=I.kept (t':=s.toks) kp;have I2:Inv X cQ U (upd H h'.objs.size (.tup ys)) { s with heap:=h'.push { cls:=.type "tuple",data:=.seq its.toArray } }:=
   I1.laid (t':=s.toks) (fun b o e=>fz _ e) (fh _) (show YI X.prog X.w _ _ _ (.tup ys) from⟨hz,its,r',IsTup.new _ _⟩)
  exact⟨.ref h'.objs.size,_,I2,rfl,q _ (I1.hok.fresh (fh _))⟩
 ·obtain⟨its,r',pl,hz⟩:=I.tuple hq;exact call_tuple_same pl ⟨.ref p,H,I,rfl,q⟩
def tyV(K:W.Frag)(T:String)(x:V)(H:Hp):Prop:=match x with
 |.str _=>T = "str"
 |.int _=>T = "int"
 |.ref p=>(T = "list" /\ ∃xs,SqL K H p xs)\/(T = "tuple" /\ ∃o,K.lookup p=some o/\o.cls=.type "tuple" /\ o.dict=none) \/
   (T = "dict" /\ ((∃kvs,H p=some (.dK kvs))\/∃kvs,H p=some (.dT kvs)))\/(T = "set" /\ ∃S n,H p=some (.set S n))
 |_=>False
theorem Zcg{x:V}{v:Value}(I:Inv X cQ U H s)(r:ZZ x v)(ty:tyV X.K T x H) :
  s.TypeIs v T/\∀a,v=.ref a->∃ob,s.heap.get? a=some ob/\ob.dict=none:=by
 cases x with
 |str z=>
  obtain⟨t,rfl⟩:=r;cases (show T = "str" from ty);exact⟨typeIs_str s z t,fun _ e=>nomatch e⟩
 |int i=>
  obtain⟨t,rfl⟩:=r;cases (show T = "int" from ty);exact⟨typeIs_int s i t,fun _ e=>nomatch e⟩
 |ref p=>
  cases r;rcases ty with⟨rfl,xs,hq⟩|⟨rfl,o,hk,hc,hd⟩|⟨rfl,hk⟩|⟨rfl,S,n,hk⟩
  ·obtain⟨its,_,pl,_⟩:=I.list hq;refine⟨pl.isList.typeIs,fun a e=>?_⟩;cases e;obtain⟨o,n,e,c,hd,_⟩:=pl;exact⟨o,e,hd⟩
  ·refine⟨⟨o,I.kIn p o hk,hc⟩,fun a e=>?_⟩;cases e;exact⟨o,I.kIn _ o hk,hd⟩
  ·have z:∃o,s.heap.get? p=some o/\o.ExactDict:=by
    rcases hk with⟨kvs,hk⟩|⟨kvs,hk⟩
    ·obtain⟨_,_,_,_,o,_,_,e,ex,_⟩:=I.hok p _ hk;exact⟨o,e,ex⟩
    ·obtain⟨_,_,_,_,o,_,_,e,ex,_⟩:=I.hok p _ hk;exact⟨o,e,ex⟩
   obtain⟨o,e,ex⟩:=z;refine⟨⟨o,e,ex.1⟩,fun a e2=>?_⟩;cases e2;exact⟨o,e,ex.2.1⟩
  ·obtain⟨o,_,_,_,e,ex,_⟩:=I.hok p _ hk;refine⟨⟨o,e,ex.1⟩,fun a e2=>?_⟩;cases e2;exact⟨o,e,ex.2.1⟩
 |_=>exact False.elim ty
def tBM0(K:W.Frag)(T:String)(r:V->List V->Hp->VK->Prop)(to:TE):TE:=fun U H Q=>to U H fun x H1=>tyV K T x H1/\r x [] H1 Q
def tBM(K:W.Frag)(T:String)(r:V->List V->Hp->VK->Prop)(to:TE)(t:TA):TE:=fun U H Q=>to U H fun x H1=>tyV K T x H1/\t U H1 fun xs H2=>r x xs H2 Q
variable{o:Expr}{es:List Expr}{to:TE}{t:TA}{name:Str}{apos cpos:Pos}{id:String}{r:V->List V->Hp->VK->Prop}
theorem KH(pa:PlainAttrs T)(slot:Slot T name id)(hty:typeOf (.builtin id)=pure (.type "method_descriptor"))(hm:MtR X id r)(ho:PE X o to)
  (hbase:attributeBase o name X.env (eval o X.env)=eval o X.env:=by rfl) (hline:(apos.endLine==cpos.line)=true:=by rfl):PE X (.Call (.Attribute o name apos) [] [] cpos) (tBM0 X.K T r to):=by
 intro cQ s U H Q I h;refine wpAny_Call_method0_late hbase hline (thn (ho cQ s U H _ I h) fun v s1 ⟨x,H1,I1,r1,ty,q1⟩=>?_);obtain⟨h1,h2⟩:=Zcg I1 r1 ty;exact⟨T,id,pa,slot,hty,h1,h2,Calls.callWith_builtin rfl (PySem.evalArgs_none (hm cQ s1 U H1 x [] v [] Q I1 r1 .nil q1))⟩
theorem XR(pa:PlainAttrs T)(slot:Slot T name id)(hty:typeOf (.builtin id)=pure (.type "method_descriptor"))(hm:MtR X id r)(ho:PE X o to)(ha:PA X (e::es) t)
  (hbase:attributeBase o name X.env (eval o X.env)=eval o X.env:=by rfl)
  (hfew:((backTo cpos (starEach (e::es) X.env)).all (fun x=>!x.1)&&(backToKw cpos (keywordEach [] X.env)).all (fun x=>x.1.isSome)
   && decide ((e::es).length+([]:List Keyword).length+(if([]:List Keyword).isEmpty then 0 else 1)<30))=true:=by rfl)
  (hline:(apos.endLine==cpos.line)=true:=by rfl) (hs:starEach (e::es) X.env=(false,eval e X.env)::starEach es X.env:=by rfl) (hplain:(backTo cpos (starEach es X.env)).any (·.1)=false:=by rfl) :
  PE X (.Call (.Attribute o name apos) (e::es) [] cpos) (tBM X.K T r to t):=by
 intro cQ s U H Q I h;refine wpAny_Call_method_late hbase hfew hline rfl (thn (ho cQ s U H _ I h) fun v s1 ⟨x,H1,I1,r1,ty,q1⟩=>?_);obtain⟨h1,h2⟩:=Zcg I1 r1 ty;refine⟨T,id,pa,slot,hty,h1,h2,?_⟩;have hA:=ha cpos cQ s1 U H1 _ I1 q1;rw[hs] at hA ⊢;refine Calls.callWith_builtin (by show(false||(backTo cpos (starEach es X.env)).any (·.1))=false;rw[hplain]<;>rfl) (Calls.evalArgs_plain ?_);exact thn hA fun us s2 ⟨vs,H2,I2,r2,q2⟩=>hm cQ s2 U H2 x vs v us Q I2 r1 r2 q2
end
def MtM(X:Cx)(id:String)(r:V->List V->Hp->VK->Prop):Prop:=
 ∀(cQ:List (Addr×Obj)) (s:Shared) (U:St) (H:Hp) (x:V) (xs:List V) (v:Value) (us:List Value) (Q:VK),Inv X cQ U H s->ZZ x v->ZM xs us->r x xs H Q ->
  wpAny (model X.prog X.w) X.A (call (.builtin id) (v::us)) (EP X cQ U Q) X.xe s
def ZM.one:∀{x:V}{us:List Value},ZM [x] us->∃u,us=[u]/\ZZ x u
 |_,_,.cons r .nil=>⟨_,rfl,r⟩
def ZM.zero:∀{us:List Value},ZM [] us->us=[]
 |_,.nil=>rfl
def ZM.dropLast{xs:List V}{us:List Value}(h:ZM xs us):ZM xs.dropLast us.dropLast:=by
 induction h with
 |nil=>exact .nil
 |cons r t ih=>
  cases t with
  |nil=>exact .nil
  |cons q t'=>exact .cons r ih
def ZM.reverse{xs:List V}{us:List Value}(h:ZM xs us):ZM xs.reverse us.reverse:=by
 induction h with
 |nil=>exact .nil
 |cons r t ih=>rw[mf,mf];exact ZM.append ih (.cons r .nil)
def ZM.rep{xs:List V}{us:List Value}(h:ZM xs us):∀k:Nat,ZM (List.replicate k xs).flatten (List.replicate k us).flatten
 |0=>.nil
 |k+1=>by
  rw[mh,mh,i8,i8];exact ZM.append h (ZM.rep h k)
def Kv(l:List α):l.eraseIdx (l.length-1)=l.dropLast:=by
 induction l with
 |nil=>rfl
 |cons a r ih=>
  cases r with
  |nil=>rfl
  |cons b r=>
   have e:(a::b::r).length-1=((b::r).length-1)+1:=by
    have h1:(a::b::r).length=r.length+2:=rfl;have h2:(b::r).length=r.length+1:=rfl;omega
   rw[e,List.eraseIdx_cons_succ,ih]
   all_goals rfl
def vV(its:List Value):∀(k:Nat) (acc:List Value),
  List.foldl (fun x1 x2=>x1++x2) acc.toArray (List.replicate k its.toArray)=(acc++(List.replicate k its).flatten).toArray
 |0,acc=>by simp
 |k+1,acc=>by
  have e:acc.toArray++its.toArray=(acc++its).toArray:=by simp
  have e2:(acc++its)++(List.replicate k its).flatten=acc++(List.replicate (k+1) its).flatten:=by
   rw[mh,i8,iG]
  rw[<- e2,<- vV its k (acc++its),<- e,mh,List.foldl_cons]
section
variable{l b:Addr}{xs ys zs:List V}
theorem Inv.lset{its':List Value}{f:Array Value->Array Value}(I:Inv X cQ U H s)(hH:H l=some (.lst xs))
  (e:s.heap.get? l=some { cls:=.type "list",data:=.seq its.toArray n }) (hf:f its.toArray=its'.toArray) (hv:ZM ys its') (hz:ys.length<=sizeLine) :
  Inv X cQ U (upd H l (.lst ys)) { s with heap:=s.heap.update l (Obj.mapSeq f),toks:=t' }:=by
 have q:=PySem.IsL.update e f;rw[hf] at q;refine I.write (x:=l) (e:=l) (by rw[hH];exact trivial) (.inl rfl) (fun b' u hb hu=>(ii s.heap (Obj.mapSeq f) (fJ hb)).trans hu) ⟨_,q⟩ ?_;exact⟨hz,its',_,hv,q⟩
theorem Inv.lnew(I:Inv X cQ U H s)(hv:ZM ys its)(hz:ys.length<=sizeLine) :
  Inv X cQ U (upd H s.heap.objs.size (.lst ys)) { s with heap:=s.heap.push { cls:=.type "list",data:=.seq its.toArray },toks:=t' }:=
 I.laid (fun _ _ q=>fz _ q) (fh _) ⟨hz,its,0,hv,fR _ rfl⟩
theorem Inv.fresh(I:Inv X cQ U H s):H s.heap.objs.size=none:=I.hok.fresh (fh _)
theorem Inv.lstM(I:Inv X cQ U H s)(hH:H l=some (.lst xs)):xs.length<=sizeLine/\∃(its:List Value) (n:Nat),ZM xs its/\xs.length=its.length/\s.heap.get? l=some { cls:=.type "list",data:=.seq its.toArray n }:=by
 obtain⟨z,its,n,r,e⟩:=I.hok l _ hH;exact⟨z,its,n,r,r.length,e⟩
theorem xc(h:n<=sizeLine):Builtin.List.listTooLong n=false:=by
 unfold Builtin.List.listTooLong;exact gJ (by omega)
end
inductive Vg(x:V)(vs:List V)(H:Hp)(Q:VK):Prop
 |mk (l:_) (xs:_) (y:_) (h0:x=.ref l) (h1:vs=[y]) (h2:H l=some (.lst xs)) (h3:xs.length<sizeLine) (h4:Q .non (upd H l (.lst (xs++[y])))):Vg x vs H Q
def ZdX:V->List V->Hp->VK->Prop:=fun x vs H Q=>Vg x vs H Q
def Z1:MtM X "list.append" ZdX:=by
 intro cQ s U H x vs v us Q I rx rv h;obtain⟨l,xs,y,rfl,rfl,hH,hz,q⟩:=h;cases rx;obtain⟨u,rfl,ru⟩:=rv.one;obtain⟨z,its,n,r,hl,e⟩:=I.lstM hH;refine lI F.slot_list_append ⟨_,e,rfl⟩ F.entry_list_append (F.args_list_append_2 _ _) (PySem.list_append l its.toArray n u (by rw[fL];omega)) ⟨e,?_⟩;refine⟨.non,_,I.lset (its':=its++[u]) hH e (by simp) (r.append (.cons ru .nil)) ?_,rfl,q⟩;rw[fu,gn];omega
inductive vQ(x:V)(vs:List V)(H:Hp)(Q:VK):Prop
 |mk (l:_) (b:_) (xs:_) (zs:_) (h0:x=.ref l) (h1:vs=[.ref b]) (h2:H l=some (.lst xs)) (h3:H b=some (.lst zs)) (h4:xs.length+zs.length<=sizeLine) (h5:Q .non (upd H l (.lst (xs++zs)))):vQ x vs H Q
def Zdf:V->List V->Hp->VK->Prop:=fun x vs H Q=>vQ x vs H Q
def ZfK:MtM X "list.extend" Zdf:=by
 intro cQ s U H x vs v us Q I rx rv h;obtain⟨l,b,xs,zs,rfl,rfl,hH,hB,hz,q⟩:=h;cases rx;obtain⟨u,rfl,ru⟩:=rv.one;cases ru;obtain⟨z,its,n,r,hl,e⟩:=I.lstM hH;obtain⟨z2,its2,n2,r2,hl2,e2⟩:=I.lstM hB;have hsz:its.toArray.size+its2.toArray.size<=sizeLine:=by rw[fL,fL];omega
 have hlong:¬(!its.toArray.isEmpty&&Builtin.List.listTooLong (its.toArray.size+its2.toArray.size))=true:=by
  rw[xc hsz,Bool.and_false];exact fV
 refine lI F.slot_list_extend ⟨_,e,rfl⟩ F.entry_list_extend (F.args_list_extend_2 _ _)
  (AutoSeq1.list_extend_list_list_0 l its.toArray n b its2.toArray n2 hlong (by rw[fL];omega) (by omega)) ⟨e,e2,?_⟩
 refine⟨.non,_,I.lset (its':=its++its2) hH e (by simp) (r.append r2) ?_,rfl,q⟩;rw[fu];omega
inductive Zbg(x:V)(vs:List V)(H:Hp)(Q:VK):Prop
 |mk (l:_) (xs:_) (y:_) (h0:x=.ref l) (h1:vs=[]) (h2:H l=some (.lst xs)) (h3:xs[xs.length-1]?=some y) (h4:Q y (upd H l (.lst xs.dropLast))):Zbg x vs H Q
def rPop:V->List V->Hp->VK->Prop:=fun x vs H Q=>Zbg x vs H Q
def ZcU:MtM X "list.pop" rPop:=by
 intro cQ s U H x vs v us Q I rx rv h;obtain⟨l,xs,y,rfl,rfl,hH,hy,q⟩:=h;cases rx;have hus:=rv.zero;subst hus;obtain⟨z,its,n,r,hl,e⟩:=I.lstM hH;obtain⟨u,hu,ru⟩:=r.get hy;have hy':its.toArray[its.toArray.size-1]?=some u:=by
  show its.toArray[its.length-1]?=some u
  rw[<- i9,<- hl];exact hu
 refine lI F.slot_list_pop ⟨_,e,rfl⟩ F.entry_list_pop (F.args_list_pop_1 _) (MeetsSeq.list_pop_last l its.toArray n u hy' (by rw[fL];omega)) ⟨e,?_⟩;refine⟨y,_,I.lset (its':=its.dropLast) hH e ?_ r.dropLast ?_,ru,q⟩
 ·show its.toArray.eraseIdxIfInBounds (its.toArray.size-1)=its.dropLast.toArray
  rw[fL,List.eraseIdxIfInBounds_toArray,Kv]
 ·rw[m7];omega
inductive Jm(x:V)(vs:List V)(H:Hp)(Q:VK):Prop
 |mk (l:_) (xs:_) (h0:x=.ref l) (h1:vs=[]) (h2:H l=some (.lst xs)) (h3:Q .non (upd H l (.lst []))):Jm x vs H Q
def ZeM:V->List V->Hp->VK->Prop:=fun x vs H Q=>Jm x vs H Q
def Zbj:MtM X "list.clear" ZeM:=by
 intro cQ s U H x vs v us Q I rx rv h;obtain⟨l,xs,rfl,rfl,hH,q⟩:=h;cases rx;have hus:=rv.zero;subst hus;obtain⟨z,its,n,r,hl,e⟩:=I.lstM hH;refine lI F.slot_list_clear ⟨_,e,rfl⟩ F.entry_list_clear (F.args_list_clear_1 _) (AutoSeq1.list_clear_list_0 l its.toArray n (by rw[fL];omega)) ⟨e,?_⟩;exact⟨.non,_,I.lset (its':=[]) (ys:=[]) hH e rfl .nil (gk _),rfl,q⟩
inductive Zb4(x:V)(y:V)(H:Hp)(Q:VK):Prop
 |mk (l:_) (b:_) (xs:_) (zs:_) (h0:x=.ref l) (h1:y=.ref b) (h2:H l=some (.lst xs)) (h3:H b=some (.lst zs)) (h4:xs.length+zs.length<=sizeLine) (h5:∀p,H p=none->Q (.ref p) (upd H p (.lst (xs++zs)))):Zb4 x y H Q
def rCat:R2:=fun x y H Q=>Zb4 x y H Q
def qy:OpR X (binaryOp .Add) rCat:=by
 intro cQ s U H x y v u Q I rx ry h;obtain⟨l,b,xs,zs,rfl,rfl,hH,hB,hz,q⟩:=h;cases rx;cases ry;obtain⟨z,its,n,r,hl,e⟩:=I.lstM hH;obtain⟨z2,its2,n2,r2,hl2,e2⟩:=I.lstM hB;refine PySem.P.add_list e e2 ?_ (by rw[fL,fL];omega);have ea:its.toArray++its2.toArray=(its++its2).toArray:=by simp
 rw[ea];exact⟨.ref _,_,I.lnew (t':=s.toks) (r.append r2) (by rw[fu];omega),rfl,q _ I.fresh⟩
inductive Zcc(x:V)(y:V)(H:Hp)(Q:VK):Prop
 |mk (l:_) (k:_) (xs:_) (h0:x=.ref l) (h1:y=.int k) (h2:H l=some (.lst xs)) (h3:-(2 ^ 63)<=k) (h4:k<2 ^ 63) (h5:xs.length*k.toNat<=sizeLine) (h6:∀p,H p=none->Q (.ref p) (upd H p (.lst (List.replicate k.toNat xs).flatten))):Zcc x y H Q
def rRep:R2:=fun x y H Q=>Zcc x y H Q
def Zdy(xs:List α)(k:Nat):(List.replicate k xs).flatten.length=k*xs.length:=by
 induction k with
 |zero=>simp
 |succ k ih=>rw[mh,i8,fu,ih,Nat.succ_mul,Nat.add_comm]
def ZfD:OpR X (binaryOp .Mult) rRep:=by
 intro cQ s U H x y v u Q I rx ry h;obtain⟨l,k,xs,rfl,rfl,hH,h1,h2,hz,q⟩:=h;cases rx;obtain⟨t,rfl⟩:=ry;obtain⟨z,its,n,r,hl,e⟩:=I.lstM hH;have hlen:its.toArray.size*k.toNat<=sizeLine:=by rw[fL,<- hl];exact hz
 have hcap:¬its.toArray.size*k.toNat>(2 ^ 63-1)/8:=by
  have:(sizeLine:Nat)<=(2 ^ 63-1)/8:=by decide
  omega
 have hfit:¬(!Builtin.List.listFitsIndex k)=true:=by
  rw[fitsIndex_both h1 h2];exact fV
 have hlong:¬Builtin.List.listTooLong (its.toArray.size*k.toNat)=true:=by
  rw[xc hlen];exact fV
 have hnew:List.foldl (fun x1 x2=>x1++x2) #[] (List.replicate (if its.toArray.isEmpty=true then 0 else k.toNat) its.toArray)=(List.replicate k.toNat its).flatten.toArray:=by
  have f0:∀m:Nat,List.foldl (fun x1 x2=>x1++x2) #[] (List.replicate m its.toArray)=(List.replicate m its).flatten.toArray:=fun m=>by
   have:=vV its m [];rw[lJ] at this;exact this
  rw[f0];cases its with
  |nil=>simp
  |cons a r'=>rw[if_neg (by simp)]
 refine wpAny_binaryOp_repeat_ref (T := "list") (U := "int") (by decide) ⟨_,e,rfl⟩ (fun s'=>typeIs_int s' k t) noFill_list_mul F.fills_int_mul F.slot_int_rmul repeat_list F.slot_int_index.lookup
  (lI F.slot_int_rmul (typeIs_int s k t) F.entry_int_rmul (F.args_int_rmul_2 _ _) (int___rmul___int_list k t l its.toArray n)
   ⟨e,rfl,⟨_,e,rfl⟩,lI F.slot_list_mul ⟨_,e,rfl⟩ F.entry_list_mul (F.args_list_mul_2 _ _) (AutoListH.list___mul___list_int_3 l its.toArray n k t hfit hcap hlong) ⟨e,?_⟩⟩)
 rw[hnew];exact⟨.ref _,_,I.lnew (t':=s.toks) (r.rep k.toNat) (by rw[Zdy,Nat.mul_comm];exact hz),rfl,q _ I.fresh⟩
end L2
namespace Att
open PySem PySem.W PySem.Calls PyProof.Rows
def yu{P:Params}:∀(ns:List Int) (vs:List Value),WellAll P h vs (ns.map WData.int)->IntsAre vs ns:=by
 intro ns
 induction ns with
 |nil=>
  intro vs w;rw[List.map_nil] at w;cases w;exact .nil
 |cons n ns ih=>
  intro vs w;rw[fP] at w;cases w with
  |cons a b=>
   cases a;exact .cons _ _ (ih _ b)
def ZaR{l:OpenLaw}(hn:l.most=some n){P:Params}
  (hpre:l.row.toRowW.claim.pre args=true) (hwl:WellAll P h vals args) :
  ∃a vs ns,vals=[Value.ref a]/\args=[WData.list (ns.map WData.int)]/\h.get? a=some { cls:=.type "list",data:=.seq vs.toArray }/\IntsAre vs ns/\ns.length<=n:=by
 have hsh:WShape.hasAll [] args [.list .int]=true:=(pre_splitW hpre).1;have hc:l.pre.holds [] { args:=args }=true:=(pre_splitW hpre).2;obtain⟨d,r,rfl,h1,h2⟩:=hasAllW_cons hsh;obtain rfl:=hasAllW_nil h2;obtain⟨xs,rfl,h3⟩:=hasW_list h1;obtain⟨ns,rfl⟩:=items_int h3;have hlen:ns.length<=n:=by
  unfold OpenLaw.pre at hc;have h4:(WTm.not (.lt (.lit (.int (n:Int))) (.len (.arg 0)))).holds [] { args:=[.list (ns.map .int)] }=true:=by
   have h4:=(holds_andW hc).1;rw[hn] at h4;exact h4
  have h5:=condW_of h4 (w_not (w_lt w_lit (w_len_list (w_arg rfl))));rw[fi] at h5;refine Nat.le_of_not_lt fun q=>?_;have q':(n:Int)<((ns.length:Nat):Int):=by omega
  first
   | (rw[gz q'] at h5;exact absurd h5 (by decide))
   | (simp at h5;omega)
 cases hwl with
 |cons w1 w2=>
  cases w2;cases w1 with
  |list ho hall=>exact⟨_,_,ns,rfl,rfl,ho,yu ns _ hall,hlen⟩
def Zal(l:OpenLaw)(args:List WData):l.row.toRowW.claim.post args (.bool true) args=true:=
 postW_of (r:=l.row.toRowW) (X:=(true==true))
  (show WShape.has [] (.bool true) .bool=true by first|rfl|decide|simp[WShape.has,WShape.arms,WShape.armsAll])
  (show(WTm.eq .res (.lit (.bool true))).value [] { args:=args,res:=some (.bool true),after:=args }=some (.bool (true==true)) from w_eq_bool (w_res rfl) w_lit) rfl
def attach_call{l:OpenLaw}{d:DefRec}
  (hn:l.most=some n) (hdf:d.params.defaults=[])
  (call:∀(w:World) (s₀ s₁:Shared) (mg mb:Str->Option Value) (fa:Addr) (o:Obj) (pm cd doc:Value) (a:Addr) (vs:List Value) (ns:List Int),
   Ground q loose [] XP w s₀ mg mb s₁.heap->YP w s₁.heap ->
   s₁.heap.get? fa=some o->o.data=.func (docDef d.name d.params d.body d.scope pm cd doc)->s₁.heap.CodeRec cd d.name->mg d.name=some (.ref fa) ->
   s₁.heap.get? a=some { cls:=.type "list",data:=.seq vs.toArray }->IntsAre vs ns->ns.length<=n->s₁.gens=#[] ->
   codeAny (model l.prog w) callerA (.call (.ref fa) ⟨[.ref a],[]⟩) (fun r s'=>r=.ok (.ret (.bool true))/\OldK s₁.heap s'.heap/\s'.os=s₁.os/\AllBare s'.gens) s₁) :
  WalkO q loose XP YP l.row.toRowW d [] (fun f vs=>PySem.call f vs):=by
 intro w s₀ s₁ mg mb G Y fa o pm cd doc dV kV ho hd hcd hD hmg hg args vals as hpre hlay hrd hwl hlo;obtain rfl:dV=.none:=Dflts.none hD hdf;obtain rfl:kV=.none:=Dflts.noKw hD;obtain⟨a,vs,ns,rfl,rfl,hobj,hints,hlen⟩:=ZaR hn hpre hwl;refine enter_call (i5 (call w s₀ s₁ mg mb fa o pm cd doc a vs ns G Y ho (fd_plain hd) hcd hmg hobj hints hlen hg) fun r s' hq=>?_);obtain⟨rfl,h2,h3,h4⟩:=hq;exact⟨.inl ⟨.bool true,.bool true,[],rfl,fun _=>rfl,.bool true,Zal l _,fun _=>⟨List.Pairwise.nil,fun _ hm=>(nomatch hm)⟩⟩,h2,h3,h4⟩
section
variable{K:Frag}
def ZgM(h:Heap)(L d:Addr):List (Addr×Obj):=(List.range h.objs.size).filterMap fun a=>if a=L\/a=d then none else(h.get? a).map fun o=>(a,o)
end
end Att
namespace L2
open PySem PySem.Spec PyProof.Rows
def jl:∀{vs:List Value}{ns:List Int},IntsAre vs ns->ZM (ns.map V.int) vs
 |_,_,.nil=>.nil
 |_,_,.cons n t h=>.cons ⟨t,rfl⟩ (jl h)
def ZeT(H:Hp):Prop:=∀b,H b=none\/∃o xs,H b=some (.frz o (.lst xs))
def ZcI{mb:Str->Option Value}{k:Nat}{a:Addr}{x:Str}{s₁:Shared}{vs:List Value}
  (KX:K.In s₁.heap) (hns:s₁.heap.Ns mainGlobals mg) (hb:s₁.heap.Ns builtinsNs mb) (hbb:∀x:Str,x ≠ "__name__" -> mb x=bootBuiltins x) (hlim:s₁.heap.NoLimit) (hg:s₁.gens=#[])
  (ha:s₁.heap.get? a=some { cls:=.type "list",data:=.seq vs.toArray }) (hi:IntsAre vs ns) (hl:ns.length<=sizeLine) (hr:YA k callerA)
  (F:∀base:Heap,K.In base->base.Ns mainGlobals mg->VT P w K mg base CX k fa fd [x] sp) (hbind:∀(s:Shared) (u:Value),BindsTo s fd ⟨[u],[]⟩ [(x,u)])
  (hsp:∀H:Hp,ZeT H->SqL K H a (ns.map V.int)->sp [.ref a] H (fun v _=>v=.bl true) fun _ _ _=>False)
  (hCX:∀H e s',CX [] H s₁ (fun _ _ _=>False) e s'->False) :
  codeAny (model P w) callerA (.call (.ref fa) ⟨[.ref a],[]⟩) (fun r s'=>r=.ok (.ret (.bool true))/\OldK s₁.heap s'.heap/\s'.os=s₁.os/\AllBare s'.gens) s₁:=by
 have rv:=jl hi;have lenV:=hi.length;have core:∀H:Hp,ZeT H->SqL K H a (ns.map V.int)->HOk P w H s₁.heap->(∀b,H b≠none->b=a)->(H a≠none->K.lookup a=none) ->
   codeAny (model P w) callerA (.call (.ref fa) ⟨[.ref a],[]⟩) (fun r s'=>r=.ok (.ret (.bool true))/\OldK s₁.heap s'.heap/\s'.os=s₁.os/\AllBare s'.gens) s₁:=by
  intro H hO hS hok hA hK;have base_of:∀{b:Addr}{o:Obj},s₁.heap.get? b=some o->H b=none->(kR s₁.heap H).get? b=some o:=fun e n=>ZcV e n;have noA:∀{b:Addr}{o:Obj}{es:Array DictEntry}{ep:Nat},s₁.heap.get? b=some o->o.data=.dict es ep->H b=none:=fun {b o es ep} e d=>by
   cases q:H b with
   |none=>rfl
   |some u=>
    have e':b=a:=hA b (by rw[q];simp);subst e';rw[ha] at e;cases e;have d':Data.seq vs.toArray _=Data.dict es ep:=d;cases d'
  have nsK:∀{b:Addr}{m:Str->Option Value},s₁.heap.Ns b m->(kR s₁.heap H).Ns b m:=fun {b m} ⟨o,es,ep,e,d,r⟩=>⟨o,es,ep,base_of e (noA e d),d,r⟩;have hKb:K.In (kR s₁.heap H):=fun b o e=>base_of (KX b o e) (by
   cases q:H b with
   |none=>rfl
   |some u=>
    have e':b=a:=hA b (by rw[q];simp);subst e';rw[hK (by rw[q];simp)] at e;cases e)
  have hM:Mod K mg (kR s₁.heap H):=⟨hKb,nsK hns,⟨mb,nsK hb,hbb⟩,let ⟨mc,h1,h2⟩:=hlim; ⟨mc,nsK h1,h2⟩⟩;have e0:K1 P w K mg (kR s₁.heap H) callerA [] s₁ H:=⟨rfl,hM,fun b o e=>Zdl e,Nat.le_of_eq (Zad _ _),trivial,fun b hb=>absurd (show b∈([]:List Addr) from hb) (by simp),hok,.of_eq hg⟩;refine i5 ((F _ hKb (nsK hns)).run callerA [] s₁ H ⟨[.ref a],[]⟩ [.ref a] [.ref a] _ _ hr e0 (hbind s₁ (.ref a)) (.cons rfl .nil) (hsp H hO hS)) fun r s' h=>?_;cases r with
  |error e=>exact(hCX H e s' h).elim
  |ok fl=>
   cases fl with
   |next=>exact False.elim h
   |brk=>exact False.elim h
   |cont=>exact False.elim h
   |ret u=>
    obtain⟨v,H',os,bare,un,hok',r',q⟩:=h;have q':v=.bl true:=q;subst q';obtain rfl:u=Value.bool true:=r';refine⟨rfl,OldK.of_keep fun b o e=>?_,os,bare⟩;cases q:H b with
    |none=>exact un.keep b o e q (by intro z;exact absurd (show b∈([]:List Addr) from z) (by simp)) (by simp)
    |some u=>
     rcases hO b with z|⟨ob,xs,z⟩
     ·rw[q] at z;cases z
     ·have z2:=un.frzs b ob _ z;obtain⟨e1,_⟩:=hok b _ z;obtain⟨e2,_⟩:=hok' b _ z2;rw[e] at e1;cases e1;exact e2
 cases hk:K.lookup a with
 |some o=>
  have e:=KX a o hk;rw[ha] at e;cases e;refine core (fun _=>none) (fun _=>.inl rfl) (.inr ⟨_,vs.toArray,_,hk,rfl,rfl,rfl,by rw[fL,lenV];exact hl,by simpa using rv⟩) (fun b u z=>by have z':(none:Option HO)=some u:=z;cases z') (fun b z=>absurd rfl z) fun z=>absurd rfl z
 |none=>
  refine core (fun b=>if b=a then some (.frz { cls:=.type "list",data:=.seq vs.toArray } (.lst (ns.map V.int))) else none) (fun b=>?_) (.inl (.inr ⟨{ cls:=.type "list",data:=.seq vs.toArray },if_pos rfl⟩)) (fun b u z=>?_) (fun b z=>?_) fun _=>hk
  ·by_cases hb:b=a
   ·exact .inr ⟨_,_,if_pos hb⟩
   ·exact .inl (if_neg hb)
  ·by_cases hb:b=a
   ·have z':=(if_pos hb).symm.trans z;cases z';subst hb;exact⟨ha,by rw[fi];exact hl,vs,_,rv,ha⟩
   ·have z':=(if_neg hb).symm.trans z;cases z'
  ·by_cases hb:b=a
   ·exact hb
   ·exact absurd (if_neg hb) z
def walk_of{k:Nat}{d:DefRec}{K:Params->W.Frag}{CX:World->CXT}{sp:World->Sp}{x:Str}
  (hn:l.most=some n) (hn2:n<=sizeLine) (hdf:d.params.defaults=[]) (hr:YA k callerA)
  (hY:∀(w:World) (h:Heap),YP w h->(K w.params).In h)
  (F:∀(w:World) (mg:Str->Option Value) (fa:Addr) (h:Heap),(K w.params).In h->h.Ns mainGlobals mg->mg d.name=some (.ref fa) ->
   ∃fd:FuncData,(∀(s:Shared) (u:Value),BindsTo s fd ⟨[u],[]⟩ [(x,u)]) /\
    ∀base:Heap,(K w.params).In base->base.Ns mainGlobals mg->VT l.prog w (K w.params) mg base (CX w) k fa fd [x] (sp w))
  (hsp:∀(w:World) (H:Hp) (a:Addr) (ns:List Int),ns.length<=n->ZeT H->SqL (K w.params) H a (ns.map V.int)->sp w [.ref a] H (fun v _=>v=.bl true) fun _ _ _=>False)
  (hCX:∀(w:World) (H:Hp) (s:Shared) (e:Value) (s':Shared),CX w [] H s (fun _ _ _=>False) e s'->False) :
  W.WalkO q loose XP YP l.row.toRowW d [] (fun f vs=>PySem.call f vs):=by
 refine Att.attach_call hn hdf fun w s₀ s₁ mg mb fa o pm cd doc a vs ns G Y ho hd hcd hmg hobj hints hlen hg=>?_;have KX:=hY w _ Y;obtain⟨fd,hb,hF⟩:=F w mg fa _ KX G.T.g hmg;exact ZcI KX G.T.g G.T.b G.T.builtins G.T.nolimit hg hobj hints (fK hlen hn2) hr hF hb (fun H hO hS=>hsp w H a ns hlen hO hS) fun H e s'=>hCX w H s₁ e s'
def WG(s:Stmt)(j:Nat):Stmt:=match s with
 |.ClassDef _ _ _ body _ _ _ _ _ _ _=>body.getD j (.Pass ⟨0,0,0,0⟩)
 |_=>.Pass ⟨0,0,0,0⟩
def WX(s:Stmt):Arguments:=match s with
 |.FunctionDef _ a _ _ _ _ _ _ _ _=>a
 |_=>{ posonlyargs:=[],args:=[],vararg:=none,kwonlyargs:=[],kw_defaults:=[],kwarg:=none,defaults:=[] }
def XM(s:Stmt):List Stmt:=match s with
 |.FunctionDef _ _ b _ _ _ _ _ _ _=>b
 |_=>[]
def Zg(s:Stmt):Scope:=match s with
 |.FunctionDef _ _ _ _ _ _ sc _ _ _=>sc
 |_=>{ kind:=.function,names:=[],isGenerator:=false,isCoroutine:=false }
abbrev CX0:CXT:=fun _ _ _ _ _ _=>False
abbrev E0:XK:=fun _ _ _=>False
def YK:Uu CX0 X E0:=fun _ _ _ _ _ _ _ h=>h.elim
structure Fun(K:W.Frag)(x qual:Str)(st:Stmt)(f:Addr)(fd:FuncData):Prop where
 ex:∃(oc:Value) (od:Option Addr) (kV doc pm:Value) (an:Option Addr) (cR ct:Value) (osl:Array (Option Value)),
  fd=W.fnOf x qual (WX st) (XM st) (Zg st) .none kV doc pm an cR ct/\K.lookup f=some ⟨oc,od,.func fd,osl⟩/\W.codeIn K cR qual=true
 kp:W.keepIn K (.ref f)=true
def Fun.ok{x:Str}{st:Stmt}{f:Addr}{ps:List Str}{k:Nat}(F:Fun K x qual st f fd)(S:Zt N ps (Zg st))(len:∀vs H Q E,sp vs H Q E->vs.length=ps.length)
  (hbody:∀(cR:Value) (A:Around) (outer:List Env) (s:Shared) (H:Hp) (vs:List V) (Q:VK) (E:XK),YA k (A.deeper (envOfC qual (Zg st) s.heap.objs.size f cR))->sp vs H Q E ->
   ∃t,PSs (JC CX0 P w K mg base N qual (Zg st) f cR A outer s H E).nox (XM st) t/\t { nx:=fun _ H'=>Q .non H',rt:=Q } (qj N vs) H):VT P w K mg base CX0 (k+1) f fd ps sp:=by
 obtain⟨oc,od,kV,doc,pm,an,cR,ct,osl,rfl,lk,hcd⟩:=F.ex;refine Zge lk hcd S len fun A outer s H vs Q E hr hsp=>?_;obtain⟨t,h,q⟩:=hbody cR A outer s H vs Q E hr hsp;exact⟨t,h.nox,q⟩
def Fun.binds{x:Str}{st:Stmt}{f:Addr}{ps:List Str}(F:Fun K x qual st f fd)
  (h:∀(kV doc pm:Value) (an:Option Addr) (cR ct:Value) (us:List Value),us.length=ps.length->bindArgs (W.fnOf x qual (WX st) (XM st) (Zg st) .none kV doc pm an cR ct) ⟨us,[]⟩=pure (ps.zip us)):VS K fd ps []:=by
 obtain⟨oc,od,kV,doc,pm,an,cR,ct,osl,rfl,lk,hcd⟩:=F.ex;exact .all (h kV doc pm an cR ct)
def ZbF{x:Str}{st:Stmt}{f:Addr}{oc:Value}{kV doc pm cR ct:Value}(l:K.lookup f=some ⟨oc,od,.func (W.fnOf x qual (WX st) (XM st) (Zg st) .none kV doc pm an cR ct),osl⟩)
  (c:W.codeIn K cR qual=true) (k:W.keepIn K (.ref f)=true):Fun K x qual st f (W.fnOf x qual (WX st) (XM st) (Zg st) .none kV doc pm an cR ct):=⟨⟨oc,od,kV,doc,pm,an,cR,ct,osl,rfl,l,c⟩,k⟩
def ZcT{k:Nat}(hr:YA k A):A.units+1<cLine:=g9 (Nat.add_le_add_left (by decide:1<=64) _) hr.units
def pv(i:Nat){x:Str}(hN:X.N[i]?=some x:=by rfl)(hv:Vis X.env.scope x:=by first|exact Or.inl rfl|exact Or.inr (.inl rfl)|exact Or.inr (.inr rfl))(hd:(x==("__debug__" : Str))=false:=by decide)
  (hcd:(x==("__classdict__" : Str))=false:=by decide):PE X (.Name x pos) (Kz i):=Zfr hN hv hd hcd
def Z7{A:Prop}(h:B):if false=true then A else B:=by
 rw[if_neg fV];exact h
def YB{A:Prop}(h:A):if true=true then A else B:=by
 rw[if_pos rfl];exact h
def X9{c A:Prop}[Decidable c](h1:c->A)(h2:¬c->B):if c then A else B:=by
 by_cases h:c
 ·rw[if_pos h];exact h1 h
 ·rw[if_neg h];exact h2 h
def Ze(H H':Hp):Prop:=∀b o,H b=some o->H' b=some o
def Ze.refl(H:Hp):Ze H H:=fun _ _ h=>h
def Ze.trans(a:Ze H H1)(b:Ze H1 H2):Ze H H2:=fun c o h=>b c o (a c o h)
def Ze.free(e:Ze H H'){l:Addr}(h:H' l=Option.none):H l=Option.none:=by
 cases q:H l with
 |none=>rfl
 |some o=>
  rw[e l o q] at h;cases h
def Ze.seq{a:Addr}{xs:List V}(e:Ze H H')(h:SqL K H a xs):SqL K H' a xs:=by
 rcases h with(h|⟨o,h⟩)|h
 ·exact .inl (.inl (e _ _ h))
 ·exact .inl (.inr ⟨o,e _ _ h⟩)
 ·exact .inr h
end L2
set_option maxHeartbeats 8000000
namespace L3
open PySem PySem.Spec PyProof.Rows L2
abbrev St:=L2.St
def sub(ix:List (Option Nat))(U:St):St:=ix.map fun o=>o.bind fun j=>(U[j]?).join
def JR{t:Sem α}{Q:α->Shared->Prop}(h:wpAny M A t Q (fun _ _=>False) s)(hQ:∀a s,Q a s->Q' a s):wpAny M A t Q' E s:=
 hU h hQ fun _ _ z=>z.elim
def PTs(X:Cx)(ifs:List Expr)(t:TT):Prop:=
 ∀(cQ:List (Addr×Obj)) (s:Shared) (U:St) (H:Hp) (Q:Bool->Hp->Prop),Inv X cQ U H s->t U H Q ->
  wpAny (model X.prog X.w) X.A (forIn ifs true fun c r=>if r=true then do let ok <- isTrue c X.env (eval c X.env);pure (ForInStep.yield ok) else pure (ForInStep.yield r)) (TP X cQ U Q) X.xe s
def yL:TT:=fun _ H Q=>Q true H
def Z3:PTs X [] yL:=fun _ _ _ H _ I h=>wpAny_tests_nil ⟨H,I,h⟩
def WE{c:Expr}{t:TT}(h:PT X c t):PTs X [c] t:=fun cQ s U H Q I q=>wpAny_tests_one (h cQ s U H Q I q)
def Y7(scope:Scope)(env:Env):List (Str×Addr):=(scope.names.filter fun y=>y.2==.free).reverse.map fun y=>(y.1,(env.cells.lookup y.1).getD 0)
def ZaQ:∀(ns:List (Str×NameKind)) (acc:List (Str×Addr)),(∀y∈ns,y.2=.free->(env.cells.lookup y.1).isSome=true) ->
  (forIn ns acc fun(x:Str×NameKind) (r:List (Str×Addr))=>if x.2==.free then do let a <- cellOf env x.1;pure (ForInStep.yield ((x.1,a)::r)) else pure (ForInStep.yield r):Sem (List (Str×Addr))) =
   pure ((ns.filter fun y=>y.2==.free).reverse.map (fun y=>(y.1,(env.cells.lookup y.1).getD 0))++acc):=by
 intro ns
 induction ns with
 |nil=>intro acc _;rfl
 |cons y r ih=>
  intro acc h;have hr:∀z∈r,z.2=.free->(env.cells.lookup z.1).isSome=true:=fun z hz=>h z (fS _ hz);rw[List.forIn_cons]
  by_cases hf:(y.2==NameKind.free)=true
  ·have hs:=h y im (by simpa using hf);obtain⟨c,hc⟩:=m5.mp hs;have e1:cellOf env y.1=pure c:=by unfold cellOf;rw[hc]
   rw[if_pos hf,e1,pure_bind,pure_bind];refine(ih _ hr).trans ?_;rw[lK (by simpa using hf),mf,fQ];simp[hc]
  ·rw[if_neg hf,pure_bind];refine(ih _ hr).trans ?_;rw[lN (by simpa using hf)]
def Q2(h:∀y∈scope.names,y.2=.free->(env.cells.lookup y.1).isSome=true):closureFor scope env=pure (Y7 scope env):=by
 have e:=ZaQ (env:=env) scope.names [] h;rw[ip] at e;unfold closureFor;rw[show Y7 scope env=(scope.names.filter fun y=>y.2==.free).reverse.map (fun y=>(y.1,(env.cells.lookup y.1).getD 0)) from rfl];rw[<- pure_bind (m:=Sem) ((scope.names.filter fun y=>y.2==.free).reverse.map (fun y=>(y.1,(env.cells.lookup y.1).getD 0))) pure,<- e]
def Uc{β:Type}(f:Str->β):∀(l:List (Str×NameKind)) (x:Str),(l.map fun y=>(y.1,f y.1)).lookup x=if x∈l.map (·.1) then some (f x) else none
 |[],x=>by simp
 |y::r,x=>by
  rw[fP,gm,Uc f r x]
  by_cases e:x=y.1
  ·subst e;simp
  ·have hb:(x==y.1)=false:=by simpa using e
   rw[hb]
   by_cases hm:x∈r.map (·.1)
   ·rw[if_pos hm,if_pos (by rw[fP];exact fS _ hm)]
   ·rw[if_neg hm,if_neg (by rw[fP];intro z;rcases fF.mp z with z|z;exact e z;exact hm z)]
def Yx{x:Str}{c:Addr}(h:∀y∈scope.names,y.2=.free->(env.cells.lookup y.1).isSome=true)(e:(Y7 scope env).lookup x=some c):env.cells.lookup x=some c:=by
 unfold Y7 at e;rw[Uc (fun z=>(env.cells.lookup z).getD 0)] at e
 split at e
 ·rename_i hx
  obtain⟨y,hy,rfl⟩:=fX.mp hx;obtain⟨h1,h2⟩:=iX.mp (mF.mp hy);obtain⟨d,hd⟩:=m5.mp (h y h1 (by simpa using h2));have e':=fO e;rw[hd] at e' ⊢;exact fI some e'
 ·cases e
def V5{x:Str}(hx:(x,NameKind.free)∈scope.names):∃c,(Y7 scope env).lookup x=some c:=by
 unfold Y7;rw[Uc (fun z=>(env.cells.lookup z).getD 0),if_pos]
 ·exact⟨_,rfl⟩
 ·exact fX.mpr ⟨(x,.free),mF.mpr (iX.mpr ⟨hx,by simp⟩),rfl⟩
def V7{env:Env}:∀{names:List (Str×NameKind)}{x:Str}{k:NameKind},
  (names.map fun(n,k)=>if(k==NameKind.free&&env.scope.kind==.function&&env.kindOf n==some .cell) then(n,NameKind.cell) else(n,k)).lookup x=some k ->
   names.lookup x=some k\/(k=.cell/\names.lookup x=some .free)
 |[],_,_,h=>by simp at h
 | (n,k0)::r,x,k,h=>by
  rw[fP] at h;dsimp only at h;cases hx:x==n with
  |true=>
   by_cases hc:(k0==NameKind.free&&env.scope.kind==.function&&env.kindOf n==some .cell)=true
   ·rw[if_pos hc] at h;simp only[gm,hx] at h ⊢;have:k0=.free:=by
     have h1:=(gb _ _▸((gb _ _▸hc).1)).1;simpa using h1
    exact .inr ⟨(fO h).symm,by rw[this]⟩
   ·rw[if_neg hc] at h;simp only[gm,hx] at h ⊢;exact .inl h
  |false=>
   have h':(r.map fun(n,k)=>if(k==NameKind.free&&env.scope.kind==.function&&env.kindOf n==some .cell) then(n,NameKind.cell) else(n,k)).lookup x=some k:=by
    by_cases hc:(k0==NameKind.free&&env.scope.kind==.function&&env.kindOf n==some .cell)=true
    ·rw[if_pos hc] at h;simpa only[gm,hx] using h
    ·rw[if_neg hc] at h;simpa only[gm,hx] using h
   simp only[gm,hx];exact V7 h'
def Um{env:Env}:∀{names:List (Str×NameKind)}{x:Str},names.lookup x=some .free ->
  (names.map fun(n,k)=>if(k==NameKind.free&&env.scope.kind==.function&&env.kindOf n==some .cell) then(n,NameKind.cell) else(n,k)).lookup x=some .cell \/
  (names.map fun(n,k)=>if(k==NameKind.free&&env.scope.kind==.function&&env.kindOf n==some .cell) then(n,NameKind.cell) else(n,k)).lookup x=some .free
 |[],_,h=>by simp at h
 | (n,k0)::r,x,h=>by
  rw[fP];dsimp only;cases hx:x==n with
  |true=>
   simp only[gm,hx] at h;have e:k0=.free:=fO h
   by_cases hc:(k0==NameKind.free&&env.scope.kind==.function&&env.kindOf n==some .cell)=true
   ·rw[if_pos hc];exact .inl (by simp only[gm,hx])
   ·rw[if_neg hc];exact .inr (by simp only[gm,hx];rw[e])
  |false=>
   simp only[gm,hx] at h;have ih:=Um (env:=env) h
   by_cases hc:(k0==NameKind.free&&env.scope.kind==.function&&env.kindOf n==some .cell)=true
   ·rw[if_pos hc];simpa only[gm,hx] using ih
   ·rw[if_neg hc];simpa only[gm,hx] using ih
structure ZL(sc:Scope)(N Nc:List Str)(ix:List (Option Nat))(scope:Scope):Prop where
 kind:scope.kind=.function
 nocell:∀y∈scope.names,y.2≠.cell
 names:∀y∈scope.names,y.2=.local->scope.names.lookup y.1=some .local
 free:∀y∈scope.names,y.2=.free->sc.names.lookup y.1=some .cell\/sc.names.lookup y.1=some .free
 len:ix.length=Nc.length
 chk:((ix.zip Nc).all fun p=>match p.1 with|none=>true|some j=>N[j]?==some p.2&&scope.names.lookup p.2==some .free)=true
def ZL.at_(o:ZL sc N Nc ix scope){x:Str}(h1:ix[i]?=some (some j))(h2:Nc[i]?=some x):N[j]?=some x/\scope.names.lookup x=some .free:=by
 have hm:(some j,x)∈ix.zip Nc:=by
  refine fU (i:=i) ?_;rw[lg];exact⟨h1,h2⟩
 have q:=gT.mp o.chk _ hm;have q':=gb _ _▸q;exact⟨by simpa using q'.1,by simpa using q'.2⟩
def YN(X:Cx)(Nc:List Str)(scope:Scope)(cl:List (Str×Addr))(C:Addr)(s:Shared)(H:Hp)(fp:List Addr):Cx where
 prog:=X.prog
 w:=X.w
 K:=X.K
 mg:=X.mg
 base:=X.base
 A:=X.A
 N:=Nc
 s₀:=s
 H₀:=H
 env:=compEnvC scope cl C X.env
 outer:=X.stack
 stack:=X.stack
 ex:=fp
 fn:=fun x=>(cl.lookup x).isNone
 calm:=X.calm
 pn:=X.pn
 xe:=fun _ _=>False
def Zb9(J:It)(D:Addr)(g:TG)(tt:TT)(te:TE)(σ0:St)(H1:Hp)(Q:VK):Prop:=
 ∃W:Nat->Nat->St->Hp->Prop,(∃m,W 0 m σ0 (upd H1 D (.lst [])))/\∀i m σ' H',W i m σ' H'->(J.stop i H'/\Q (.ref D) H') \/
  (J.go i H'/\∃(N:V->St->Hp->Prop) (N0:St->Hp->Prop),(∀v σ2 H5,N v σ2 H5->∃xs,H5 D=some (.lst xs)/\xs.length<sizeLine/\∃m',m'<m/\W (i+1) m' σ2 (upd H5 D (.lst (xs++[v])))) /\
   (∀σ2 H4,N0 σ2 H4->∃m',m'<m/\W (i+1) m' σ2 H4)/\∀x H2,J.yld i H' x H2->g x σ' H2 fun σ2 H3=>tt σ2 H3 fun c H4=>if c=true then te σ2 H4 fun v H5=>N v σ2 H5 else N0 σ2 H4)
def Zek(wi:TI)(ix:List (Option Nat))(g:TG)(tt:TT)(te:TE):TE:=fun U H Q=>wi U H fun J H1=>∀D,H1 D=none->Zb9 J D g tt te (sub ix U) H1 Q
def Zb8{F:Value->Shared->Prop}(J:Nat->Shared->Prop)
  (hF:∀e s',F e s'->notedBy (model prog w) A env (fun e s'=>R (.error e) s') e s')
  (turn:∀n s,J n s->wpAny (model prog w) A (pyNext it) (fun r s1=>match r with
   |none=>R (.ok .next) s1
   |some v=>wpAny (model prog w) A (letOwnedTupleGo target it v) (fun _ s2=>wpAny (model prog w) A (assign target env v) (fun _ s3=>
     wpAny (model prog w) A (forIn ifs true fun c r=>if r=true then do let ok <- isTrue c env (eval c env);pure (ForInStep.yield ok) else pure (ForInStep.yield r)) (fun ok s4=>
      if ok=true then wpAny (model prog w) A (eval elt env) (fun x s5=>wpAny (model prog w) A (call (.builtin "list.append") [acc,x]) (fun _ s6=>∃m,m<n/\J m s6) F s5) F s4
      else ∃m,m<n/\J m s4) F s3) F s2) F s1) F s)
  (n:Nat) (h:J n s):codeAny (model prog w) A (.compLoop (.ListComp elt [⟨target,iter,ifs,0⟩] scope pos) 0 it acc env) R s:=by
 refine codeAny_loop rfl J (fun k t hJ=>?_) n h
 show wpAny _ A ((compTurn (.ListComp elt [⟨target,iter,ifs,0⟩] scope pos) 0 it acc env).onRaise _) _ _ t
 refine wpAny_noted ?_;rw[compTurn_list];refine fg (lh (fg (hU (turn k t hJ) (fun r s1 h1=>?_) hF)));cases r with
 |none=>exact fq h1
 |some v=>
  refine fg (hU h1 (fun _ s2 h2=>fg (hU h2 (fun _ s3 h3=>fg (hU h3 (fun ok s4 h4=>?_) hF)) hF)) hF);cases ok with
  |false=>exact fq ⟨rfl,h4⟩
  |true=>exact fg (fg (hU h4 (fun x s5 h5=>fg (hU h5 (fun _ s6 h6=>fq (fq ⟨rfl,h6⟩)) hF)) hF))
def Zdj(J:Nat->Shared->Prop)
  (turn:∀n s,J n s->wpAny (model prog w) A (pyNext it) (fun r s1=>match r with
   |none=>R (.ok .next) s1
   |some v=>wpAny (model prog w) A (letOwnedTupleGo target it v) (fun _ s2=>wpAny (model prog w) A (assign target env v) (fun _ s3=>
     wpAny (model prog w) A (forIn ifs true fun c r=>if r=true then do let ok <- isTrue c env (eval c env);pure (ForInStep.yield ok) else pure (ForInStep.yield r)) (fun ok s4=>
      if ok=true then wpAny (model prog w) A (eval elt env) (fun x s5=>wpAny (model prog w) A (call (.builtin "list.append") [acc,x]) (fun _ s6=>∃m,m<n/\J m s6) (fun _ _=>False) s5) (fun _ _=>False) s4
      else ∃m,m<n/\J m s4) (fun _ _=>False) s3) (fun _ _=>False) s2) (fun _ _=>False) s1) (fun _ _=>False) s)
  (n:Nat) (h:J n s):codeAny (model prog w) A (.compLoop (.ListComp elt [⟨target,iter,ifs,0⟩] scope pos) 0 it acc env) R s:=
 Zb8 (F:=fun _ _=>False) J (fun _ _ z=>z.elim) turn n h
def zW(I:Inv X cQ U H s)(ok:ZL X.env.scope X.N Nc ix scope):∀y∈scope.names,y.2=.free->(X.env.cells.lookup y.1).isSome=true:=fun y hy hf=>by
 obtain⟨c,hc⟩:=I.ok.has y.1 (ok.free y hy hf);rw[hc];rfl
def Qo(I:Inv X cQ U H s)(ok:ZL X.env.scope X.N Nc ix scope)(hf:∀b∈fp,VM X cQ H b)(hob:∀b∈fp,∃o,s.heap.get? b=some o)
  {m:Str->Option Value} (hn:h1.Ns s.heap.objs.size m) (hk:∀b o,s.heap.get? b=some o->h1.get? b=some o) :
  Inv (YN X Nc scope (Y7 scope X.env) s.heap.objs.size s H fp) cQ (sub ix U) H { s with heap:=h1,toks:=t' }:=by
 have ac:=zW I ok;have old:∀{b:Addr}{o:Obj},s.heap.get? b=some o->b≠s.heap.objs.size:=fun e=>fE (fC e);refine⟨⟨I.ok.mod,?_,I.ok.glob,I.ok.blt,fh _,?_,?_,?_,I.ok.hd,I.ok.frames,.inl rfl,?_,I.bs,fK I.ok.bsz I.sz,?_,?_,I.stack,I.stkFree⟩,rfl,I.bare,Un.kept hk,⟨m,hn,?_⟩,?_,?_,?_,?_,I.hok.kept hk,?_⟩
 ·exact ok.kind
 ·intro x y c e1 e2;exact I.ok.inj x y c (Yx ac e1) (Yx ac e2)
 ·intro x hx;have key:∀k,(relabel scope X.env).names.lookup x=some k->(k=.cell\/k=.free)->∃c,(Y7 scope X.env).lookup x=some c:=fun k e hkk=>by
   rcases V7 e with q|⟨_,q⟩
   ·rcases hkk with rfl|rfl
    ·exact absurd rfl (ok.nocell _ (gy q))
    ·exact V5 (gy q)
   ·exact V5 (gy q)
  rcases hx with e|e
  ·exact key _ e (.inl rfl)
  ·exact key _ e (.inr rfl)
 ·intro x c hfn e;have e':(Y7 scope X.env).lookup x=some c:=e;have hfn':((Y7 scope X.env).lookup x).isNone=true:=hfn;rw[e'] at hfn';cases hfn'
 ·intro b hb;obtain⟨o,e⟩:=hob b hb;obtain⟨f0,f1,f2,f3,f4,f5⟩:=hf b hb;exact⟨old e,fun x c q=>f4 x c (Yx ac q)⟩
 ·intro b o e hb;obtain⟨f0,f1,f2,f3,f4,f5⟩:=hf b hb;rcases f3 with z|z
  ·exact I.ok.noex b o e z
  ·exact absurd (gj (gj (fC e) I.ok.bsz) z) (ik _)
 ·intro b hb hz;obtain⟨f0,f1,f2,f3,f4,f5⟩:=hf b hb;rcases fF.mp (I.stkSub b hz) with z|z
  ·exact f1 z
  ·exact f2 z
 ·intro i x v e1 e2 e3;have e1:Nc[i]?=some x:=e1;unfold sub at e2;rw[fw] at e2;cases hi:ix[i]? with
  |none=>rw[hi] at e2;cases e2
  |some o=>
   cases o with
   |none=>rw[hi] at e2;cases e2
   |some j=>
    obtain⟨hN,hfree⟩:=ok.at_ hi e1;have e4:U[j]?=some (some v):=by
     rw[hi] at e2;have e2':some ((U[j]?).join)=some (some v):=e2;have e5:=fO e2';cases hj:U[j]? with
     |none=>rw[hj] at e5;cases e5
     |some z=>rw[hj] at e5;exact fI some e5
    have hvis:Vis X.env.scope x:=by
     rcases ok.free (x,.free) (gy hfree) rfl with q|q
     ·exact .inr (.inl q)
     ·exact .inr (.inr q)
    obtain⟨m0,hn0,hl⟩:=I.loc;obtain⟨u,r,lk⟩:=hl j x v hN e4 hvis;refine⟨u,r,.inr ⟨Um hfree,?_⟩⟩;rcases lk with⟨q,_⟩|⟨_,c,hc,z⟩
    ·rcases ok.free (x,.free) (gy hfree) rfl with q2|q2
     ·exact absurd (q.symm.trans q2) (by decide)
     ·exact absurd (q.symm.trans q2) (by decide)
    ·obtain⟨d,hd⟩:=V5 (env:=X.env) (gy hfree);have:=Yx ac hd;rw[hc] at this;cases this;obtain⟨oc,e5,e6⟩:=z;exact⟨c,hd,oc,hk c oc e5,e6⟩
 ·intro x c e;obtain⟨v,oc,e5,e6⟩:=I.cell x c (Yx ac e);exact⟨v,oc,hk c oc e5,e6⟩
 ·exact I.hok.fresh (fh _)
 ·intro x c e;exact I.freeC x c (Yx ac e)
 ·intro p hp;obtain⟨e,n,ne,nf,d⟩:=I.pin p hp;refine⟨hk _ _ e,n,old e,fun z=>?_,d⟩;rcases fF.mp (I.stkSub p.1 z) with q|q
  ·exact ne q
  ·exact nf q
 ·unfold sub;rw[fi];exact ok.len
def Zbc(I:Inv X cQ U H s)(hf:∀b∈fp,VM X cQ H b)(hC:s.heap.get? C=none)
  (J:Inv (YN X Nc scope cl C s H fp) cQ σ' H' s') (sb:Heap.SameBut C s'.heap h'):Inv X cQ U H' { s' with heap:=h' }:=by
 have u:Un (frs X.stack) fp H H' s.heap s'.heap:=J.base;have hCf:H' C=none:=J.free;have hCn:∀{b:Addr}{o:Obj},s.heap.get? b=some o->b≠C:=fun e z=>by rw[z,hC] at e;cases e
 refine I.call' (s':={ s' with heap:=h' }) (ch:=fp) J.os ⟨fun b o e n h1 h2=>?_,fun b o e n h1 h2=>?_,u.free,fun b o e h2=>?_,u.tups,u.frzs,u.tbls⟩ ?_ J.bare fun b hb=>?_
 ·exact(sb.2 b (hCn e)).trans (u.keep b o e n h1 h2)
 ·obtain⟨sl,q⟩:=u.slot b o e n h1 h2;exact⟨sl,(sb.2 b (hCn e)).trans q⟩
 ·obtain⟨o',q⟩:=u.there b o e h2;exact⟨o',(sb.2 b (hCn e)).trans q⟩
 ·intro b o e;refine(J.hok b o e).stay (fun c v hc q=>(sb.2 c ?_).trans q) (fun _ q=>q) fun _ _ q=>q;rintro rfl;rcases hc with z|z
  ·rw[<- z,hCf] at e;cases e
  ·rw[hCf] at z;cases z
 ·obtain⟨f0,f1,f2,f3,f4,f5⟩:=hf b hb;exact⟨f3,f1,f4,f5⟩
def qt(k:Key)(l:List Key):Bool:=l.any fun x=>decide (x=k)
def Jb{k:Key}{l:List Key}:qt k l=true↔k∈l:=by
 unfold qt;rw[List.any_eq_true];constructor
 ·rintro⟨x,hx,e⟩;have:=fT e;subst this;exact hx
 ·intro h;exact⟨k,h,by simp⟩
def Za5(k' k:Key)(l:List Key):(qt k' l||decide (k'=k))=qt k' (l++[k]):=by
 unfold qt;rw[List.any_append]
 by_cases e:k'=k
 ·subst e;simp
 ·have e':¬k=k':=fun z=>e z.symm;simp[e,e']
def Zbm{k:Key}{l:List Key}(h:¬k∈l):qt k l=false:=by
 cases e:qt k l with
 |false=>rfl
 |true=>exact absurd (Jb.mp e) h
def Qr{k:Key}{v:Value}(h:UG k v=true):v.scannable=true:=by
 rcases Yt h with⟨i,t,rfl,rfl⟩|⟨x,t,rfl,rfl⟩<;>rfl
def qV{a:Addr}{S S':Key->Bool}{n':Nat}(x:h.SetOf (ZC prog w) a S n)(e:∀k,S k=S' k)(en:n=n'):h.SetOf (ZC prog w) a S' n':=by
 have:S=S':=funext e;subst this;subst en;exact x
def qJ{a:Addr}{S:Key->Bool}(x:h.SetOf (ZC prog w) a S n)(k:∀o,h.get? a=some o->h'.get? a=some o):h'.SetOf (ZC prog w) a S n:=by
 obtain⟨o,es,ep,t,ho,r⟩:=x;exact⟨o,es,ep,t,k o ho,r⟩
def Zby{ax:Addr}{ks:List Key}(hh:A.handled=none)(hne:ax≠I)(hSI:S≠I)(hSa:S≠ax)
  (hv:∀(i:Nat) v,items[i]?=some v->∃k,ks[i]?=some k/\UG k v=true) (hl:ks.length=items.size) (hb:items.size+1<scanBound) :
  ∀(c i:Nat) (s:Shared) (n:Nat),items.size-i=c->i<=items.size->s.heap.IsListIter I ax i/\s.heap.IsList ax items ->
   s.heap.SetOf (ZC prog w) S (fun k=>qt k (ks.take i)) n->n<=i->(n=i↔(ks.take i).Nodup) ->
   (∀(h':Heap) (tk n':Nat),h'.SetOf (ZC prog w) S (fun k=>qt k ks) n'->n'<=ks.length->(n'=ks.length↔ks.Nodup)->(∀b o,b≠S->b≠I->s.heap.get? b=some o->h'.get? b=some o) ->
    R (.ok (.ret .none)) { s with heap:=h',toks:=tk }) ->
   codeAny (model prog w) A (.builtin "set.update.loop" ⟨[.ref S,.ref I],[]⟩) R s:=by
 have W:=Walks.list (prog:=prog) (w:=w) (A:=A.in1) (by simpa using hh) I ax hne items;intro c
 induction c with
 |zero=>
  intro i s n hc hi st hS hn hnd hR;have e:i=items.size:=by omega
  subst e;refine ir m9 ?_;rw[iO lO _]
  show wpAny _ A.in1 (pyNext (.ref I) >>= _) _ _ s
  refine fg (W.done s _ _ st fun h' tk hk=>?_)
  show wpAny _ A.in1 (ret Value.none) _ _ _
  have et:ks.take items.size=ks:=by rw[<- hl];exact iH
  rw[et] at hnd;refine fq (hR h' tk n (qV (qJ hS fun o z=>hk S o (by simpa using hSI) z) (fun k=>by rw[et]) rfl) (by omega) (by rw[hl];exact hnd) fun b o _ hbI z=>hk b o (by simpa using hbI) z)
 |succ c ih=>
  intro i s n hc hi st hS hn hnd hR;have hlt:i<items.size:=by omega
  refine ir m9 ?_;rw[iO lO _]
  show wpAny _ A.in1 (pyNext (.ref I) >>= _) _ _ s
  refine fg (W.item i s _ _ hlt st fun v h1 tk hP st1 hk=>?_);obtain⟨k,hki,kis⟩:=hv i v hP;have hS1:h1.SetOf (ZC prog w) S (fun k=>qt k (ks.take i)) n:=qJ hS fun o z=>hk S o (by simpa using hSI) z
  show wpAny _ A.in1 (holding [v] (setAdd S v) >>= _) _ _ { s with heap:=h1,toks:=tk }
  refine fg (gW ?_);unfold setAdd;refine gW (fg ((ZC prog w).pyHash (k:=k) kis ?_));refine wpAny_setAddHashed_of (knd:=ZC prog w) (s:={ s with heap:=h1,toks:=tk+1 }) kis (Qr kis) hS1 (by omega) fun h2 hsb hS2=>?_;have hik:i<ks.length:=by omega
  have ek:ks[i]=k:=by
   have:=fj hik;rw[hki] at this;exact(fO this).symm
  have et:ks.take (i+1)=ks.take i++[k]:=by rw[List.take_add_one,hki];rfl
  have e1:∀k',(qt k' (ks.take i)||decide (k'=k))=qt k' (ks.take (i+1)):=fun k'=>by rw[et];exact Za5 _ _ _
  by_cases hin:k∈ks.take i
  ·have hS3:=qV (n':=n) hS2 e1 (by rw[if_pos (Jb.mpr hin)]);refine fq ⟨iP lO _,ih (i+1) _ n (by omega) hlt (W.frame _ _ _ st1 fun b hb o z=>?_) hS3 (by omega) ?_ fun h' tk' n' a1 a2 a3 a4=>?_⟩
   ·rw[hsb.2 b (fun q=>by subst q;simp at hb;exact hb.elim hSI hSa)];exact z
   ·constructor
    ·intro q;omega
    ·intro q;rw[et] at q;exact absurd hin (fun z=>(li.mp q).2.2 _ z _ (by simp) rfl)
   ·exact hR h' tk' n' a1 a2 a3 fun b o hbS hbI z=>a4 b o hbS hbI (by rw[hsb.2 b hbS];exact hk b o (by simpa using hbI) z)
  ·have hS3:=qV (n':=n+1) hS2 e1 (by rw[Zbm hin];rfl);refine fq ⟨iP lO _,ih (i+1) _ (n+1) (by omega) hlt (W.frame _ _ _ st1 fun b hb o z=>?_) hS3 (by omega) ?_ fun h' tk' n' a1 a2 a3 a4=>?_⟩
   ·rw[hsb.2 b (fun q=>by subst q;simp at hb;exact hb.elim hSI hSa)];exact z
   ·rw[et];constructor
    ·intro q;exact li.mpr ⟨hnd.mp (by omega),by simp,fun a ha b hb q2=>by rw[fM.mp hb] at q2;subst q2;exact hin ha⟩
    ·intro q;have:=hnd.mpr (li.mp q).1;omega
   ·exact hR h' tk' n' a1 a2 a3 fun b o hbS hbI z=>a4 b o hbS hbI (by rw[hsb.2 b hbS];exact hk b o (by simpa using hbI) z)
set_option maxHeartbeats 8000000 in
def vq{l:Addr}{ks:List Key}(hh:A.handled=none)(hl:s.heap.IsList l items)
  (hv:∀(i:Nat) v,items[i]?=some v->∃k,ks[i]?=some k/\UG k v=true) (hz:ks.length=items.size) (hb:items.size+1<scanBound)
  (h:∀(h':Heap) (tk n:Nat),h'.SetOf (ZC prog w) s.heap.objs.size (fun k=>qt k ks) n->n<=ks.length->(n=ks.length↔ks.Nodup)->(∀b o,s.heap.get? b=some o->h'.get? b=some o)->Q (.ref s.heap.objs.size) { s with heap:=h',toks:=tk }) :
  wpAny (model prog w) A (call (.type "set") [.ref l]) Q E s:=by
 have hmade:=gU.made;have hsub:=gU.sub;obtain⟨c,tl,hmro⟩:=gU.mro;refine wpAny_call (codeAny_of_tree (fq ⟨Code.quiet_builtin _ (by decide +kernel),ir PySem.F.entry_type_call ?_⟩));rw[Around.under_plain (weight_type_call_type "set" [.ref l] []) rfl];have g1:=gU.notType;have g2:=gU.canCreate;have g3:=PySem.F.typeCall_set_1 (.ref l)
 repeat (any_goals (first|assumption|wp_step))
 refine i5 (code_set_new_1 (.ref l) (E:=E) (Q₁:=fun obj t=>∃led:Bool,obj=.ref s.heap.objs.size/\t={ s with heap:=s.heap.push { cls:=.type "set",dict:=none,data:=.set #[] 0 (.fresh 0 0 led) } }) fun led=>⟨led,rfl,rfl⟩) fun r t hr=>?_;cases r with
 |error e=>exact hr
 |ok fl=>
  cases fl with
  |ret obj=>
   obtain⟨led,rfl,rfl⟩:=hr;have hS:(s.heap.push { cls:=.type "set",dict:=none,data:=.set #[] 0 (.fresh 0 0 led) }).get? s.heap.objs.size=some { cls:=.type "set",dict:=none,data:=.set #[] 0 (.fresh 0 0 led) }:=fR _ rfl;have hT:Shared.TypeIs { s with heap:=s.heap.push { cls:=.type "set",dict:=none,data:=.set #[] 0 (.fresh 0 0 led) } } (.ref s.heap.objs.size) "set" := ⟨_,hS,rfl⟩;have hli:=gU.init.lookup;have hbi:=gU.init.bind (.ref s.heap.objs.size)
   repeat (any_goals (first|assumption|wp_step))
   refine i5 (codeAny_call_builtin (R:=wants (fun r u=>r=.none/\∃h' tk n,u={ s with heap:=h',toks:=tk }/\h'.SetOf (ZC prog w) s.heap.objs.size (fun k=>qt k ks) n/\n<=ks.length/\(n=ks.length↔ks.Nodup) /\
     (∀b o,s.heap.get? b=some o->h'.get? b=some o)) E) gU.init.plain PySem.F.entry_set_init (check_set_init_1 hT ?_)) fun r2 u hr2=>?_
   ·obtain⟨ol,hol,hcl,nl,hdl⟩:=hl;obtain⟨ocls,odict,odata,oslots⟩:=ol;simp only at hcl hdl;subst hcl;subst hdl;have hol':(s.heap.push { cls:=.type "set",dict:=none,data:=.set #[] 0 (.fresh 0 0 led) }).get? l=some { cls:=.type "list",dict:=odict,data:=.seq items nl,slots:=oslots }:=fz _ hol;have hsls:=PySem.F.sub_list_set;have hslf:=PySem.F.sub_list_frozenset;have hne:(Value.type "list" == Value.type "dict")=false:=by decide
    have hl1:(s.heap.push { cls:=.type "set",dict:=none,data:=.set #[] 0 (.fresh 0 0 led) }).IsList l items:=⟨_,hol',rfl,nl,rfl⟩;unfold Builtin.«set.__init__» noKeywords Builtin.Frozenset.updateFrom;generalize hPI:pyIter=PI
    wp_walk
    subst hPI;refine mY hl1 ?_;refine fg (wpAny_runValue ?_);have hlS:l<s.heap.objs.size:=fC hol;have z1:(s.heap.push { cls:=.type "set",dict:=none,data:=.set #[] 0 (.fresh 0 0 led) }).objs.size=s.heap.objs.size+1:=ie _ _;refine Zby (ks:=ks) (items:=items) (ax:=l) (by simpa using hh) (by rw[z1];exact fE (iQ hlS)) (by rw[z1];exact fE (i0 _)) (gA hlS) hv hz hb (items.size-0) 0 _ 0 (by omega) (gk _)
     ⟨⟨_,fR _ rfl,rfl,rfl⟩,(hl1.push _)⟩ ?hS0 (fh _) (by simp) ?hR
    case hS0=>
     refine qV (qJ (h:=s.heap.push { cls:=.type "set",dict:=none,data:=.set #[] 0 (.fresh 0 0 led) }) ?_ fun o z=>fz _ z) (S:=fun _=>false) (fun k=>rfl) rfl;exact⟨_,#[],0,_,hS,⟨rfl,rfl,rfl⟩,rfl,(fun e he=>by simp at he),(fun k=>by simp[qt]),(by unfold scanBound;decide),rfl,rfl⟩
    case hR=>
     intro h' tk n a1 a2 a3 a4
     show wpAny _ _ _ _ _ _
     refine fq ?_
     show wpAny _ _ (ret Value.none) _ _ _
     refine fq ⟨rfl,h',tk,n,rfl,a1,a2,a3,fun b o z=>?_⟩;have hlt:=fC z;exact a4 b o (fE hlt) (by rw[z1];exact fE (iQ hlt)) (fz _ (fz _ z))
   ·cases r2 with
    |error e=>exact hr2
    |ok fl2=>
     cases fl2 with
     |ret r=>
      obtain⟨rfl,h',tk,n,rfl,a1,a2,a3,a4⟩:=hr2
      repeat (any_goals (first|assumption|wp_step))
      exact h _ _ n a1 a2 a3 a4
     |_=>exact hr2.elim
  |_=>exact hr.elim
def Zay(a:Addr)(n:Nat):HO:=.ext fun h=>∃o es ep t,h.get? a=some o/\o.ExactSet/\o.data=.set es ep t/\t.fits es.size=true/\es.size=n
section
variable{X:Cx}
theorem ji:∀{ks:List Key}{us:List Value},ZM (ks.map kV) us->∀(i:Nat) v,us[i]?=some v->∃k,ks[i]?=some k/\UG k v=true
 |[],_,.nil,i,v,h=>by simp at h
 |k::r,_,.cons a b,0,v,h=>by
  simp at h;subst h;refine⟨k,rfl,?_⟩;cases k with
  |inl n=>obtain⟨t,rfl⟩:=a;exact V4 n t
  |inr x=>obtain⟨t,rfl⟩:=a;exact vL x t
 |k::r,_,.cons a b,i+1,v,h=>by
  obtain⟨k',e,q⟩:=ji b i v (by simpa using h);exact⟨k',by simpa using e,q⟩
theorem ZbO(hc:X.calm=true):Yw X (.type "set") (fun xs H Q=>∃(p:Addr) (ks:List Key),xs=[.ref p]/\SqL X.K H p (ks.map kV)/\ks.length<4000/\∀n a,n<=ks.length->(n=ks.length↔ks.Nodup)->H a=none->Q (.ref a) (upd H a (Zay a n))):=by
 intro cQ s U H xs us Q I r h;obtain⟨p,ks,rfl,hq,hl,q⟩:=h;obtain⟨u,rfl,ru⟩:=Vz r;obtain rfl:u=Value.ref p:=ru;obtain⟨its,rv,pl,hz⟩:=I.list hq;have el:=rv.length;rw[fi] at el;refine vq (I.ok.hd hc) pl.isList (fun i v e=>ji rv i v (by simpa using e)) (by simpa using el) (by unfold scanBound;simp;omega) fun h' tk n a1 a2 a3 a4=>?_;refine⟨.ref s.heap.objs.size,_,I.laid a4 (fh _) ?_,rfl,q n _ a2 a3 (I.hok.fresh (fh _))⟩;obtain⟨o,es,ep,t,ho,e1,e2,e3,e4,e5,e6,e7⟩:=a1;refine⟨⟨o,es,ep,t,ho,e1,e2,e6,e7⟩,⟨o,ho⟩,?_⟩;rintro h1 h2 ⟨o1,es1,ep1,t1,b1,b2⟩ k;exact⟨o1,es1,ep1,t1,k _ b1,b2⟩
theorem Zaz:Yw X (.builtin "len") (fun xs H Q=>∃a n,xs=[.ref a]/\H a=some (Zay a n)/\n<4000/\Q (.int n) H):=by
 intro cQ s U H xs us Q I r h;obtain⟨a,n,rfl,ha,hn,q⟩:=h;obtain⟨u,rfl,ru⟩:=Vz r;obtain rfl:u=Value.ref a:=ru;obtain⟨⟨o,es,ep,t,e1,e2,e3,e4,e5⟩,_⟩:=I.hok a _ ha;refine call_len_set e1 e2 e3 e4 (by omega) ?_;exact⟨.int n,H,I.tok _,⟨_,by rw[e5]⟩,q⟩
end
def Yc(ns:List Int):List Int:=ns.mergeSort fun a b=>decide (a<=b)
def X1(ns:List Int):(Yc ns).Perm ns:=List.mergeSort_perm _ _
def ZbV(ns:List Int):(Yc ns).Pairwise (·<=·):=by
 have h:=List.pairwise_mergeSort (le:=fun a b:Int=>decide (a<=b)) (fun a b c h1 h2=>by simp at *; omega) (fun a b=>by simp;omega) ns;exact h.imp fun h=>by simpa using h
def ZcZ{ms:List Int}(hp:ms.Perm ns)(hs:ms.Pairwise (·<=·)):ms=Yc ns:=
 W.ksm_same (hp.trans (X1 ns).symm) hs (ZbV ns)
def leS(a b:Str):Bool:=!decide (b.cps.toList<a.cps.toList)
def vZ(a b c:Str)(h1:leS a b=true)(h2:leS b c=true):leS a c=true:=by
 unfold leS at *;simp only[Bool.not_eq_true',na,List.not_lt] at *;exact List.le_trans h1 h2
def Zaw(a b:Str):(leS a b||leS b a)=true:=by
 unfold leS;simp only[mG,Bool.not_eq_true',na,List.not_lt];exact List.le_total _ _
def ZcB{a b:Str}(h1:leS a b=true)(h2:leS b a=true):a=b:=by
 unfold leS at *;simp only[Bool.not_eq_true',na,List.not_lt] at *;have e:=List.le_antisymm h1 h2;cases a;cases b;simp only[Str.mk.injEq];exact Array.toList_inj.mp e
def Wm(ss:List Str):List Str:=ss.mergeSort leS
def qz(ss:List Str):(Wm ss).Perm ss:=List.mergeSort_perm _ _
def Zbp(ss:List Str):(Wm ss).Pairwise (fun a b=>leS a b=true):=List.pairwise_mergeSort (le:=leS) vZ Zaw ss
def ZbG{ss ts:List Str}(hp:ts.Perm ss)(hs:ts.Pairwise fun a b=>leS a b=true):ts=Wm ss:=
 (hp.trans (qz ss).symm).eq_of_pairwise (fun x y _ _ h1 h2=>ZcB h1 h2) hs (Zbp ss)
def jv:∀(l:List Str) (p:Str),risingS p l=true->(∀y∈l,leS p y=true)/\l.Pairwise fun a b=>leS a b=true
 |[],_,_=>⟨fun _ h=>(nomatch h),.nil⟩
 |x::r,p,h=>by
  have h':(!ltCps x.cps.toList p.cps.toList&&risingS x r)=true:=h;rw[gb] at h';have hx:leS p x=true:=by
   have:=h'.1;rw[ltCps_eq] at this;exact this
  obtain⟨a,b⟩:=jv r x h'.2;refine⟨fun y hy=>?_,.cons (fun y hy=>a y hy) b⟩;rcases fF.mp hy with rfl|hy
  ·exact hx
  ·exact vZ _ _ _ hx (a y hy)
def KG{l:List Str}(h:sortedS l=true):l.Pairwise fun a b=>leS a b=true:=by
 cases l with
 |nil=>exact .nil
 |cons x r=>
  obtain⟨a,b⟩:=jv r x h;exact .cons a b
def xL:∀{ss:List Str}{us:List Value},ZM (ss.map V.str) us->StrsAre us ss
 |[],_,.nil=>.nil
 |x::r,_,.cons a b=>by
  obtain⟨t,rfl⟩:=a;exact .cons x t (xL b)
def jf:∀{ss:List Str}{us:List Value},StrsAre us ss->ZM (ss.map V.str) us
 |_,_,.nil=>.nil
 |_,_,.cons y t r=>.cons ⟨t,rfl⟩ (jf r)
def xH:∀{ns:List Int}{us:List Value},IntsAre us ns->ZM (ns.map V.int) us
 |_,_,.nil=>.nil
 |_,_,.cons n t r=>.cons ⟨t,rfl⟩ (xH r)
def xI:∀{bs:List Bool}{us:List Value},ZM (bs.map V.bl) us->∀(i:Nat) v,us[i]?=some v->∃b,bs[i]?=some b/\v=.bool b
 |[],_,.nil,i,v,h=>by simp at h
 |b::r,_,.cons a c,0,v,h=>by simp at h;subst h;exact⟨b,rfl,a⟩
 |b::r,_,.cons a c,i+1,v,h=>by
  obtain⟨b',e,q⟩:=xI c i v (by simpa using h);exact⟨b',by simpa using e,q⟩
def kG:Yw X (.builtin "sorted") (fun xs H Q=>∃(p:Addr) (ns:List Int),xs=[.ref p]/\SqL X.K H p (ns.map V.int)/\ns.length<64/\∀l,H l=none->Q (.ref l) (upd H l (.lst ((Yc ns).map V.int)))):=by
 intro cQ s U H xs us Q I r h;obtain⟨p,ns,rfl,hq,hl,q⟩:=h;obtain⟨u,rfl,ru⟩:=Vz r;obtain rfl:u=Value.ref p:=ru;obtain⟨its,rv,pl,hz⟩:=I.list hq;have el:=rv.length;rw[fi] at el;refine sorted_ints pl.isList (KS rv) (by omega) fun out ms a1 a2 a3=>?_;obtain rfl:=ZcZ a2 a3;obtain⟨e,he⟩:=sortedAll_at s.heap its out;have hlen:((Yc ns).map V.int).length<=sizeLine:=by rw[fi,(X1 ns).length_eq,<- fi (f:=V.int)];exact hz
 have ne:H (s.heap.objs.size+1)=none:=I.hok.fresh (iF _);exact⟨.ref (s.heap.objs.size+1),_,I.laid (o:=.lst ((Yc ns).map V.int)) (t':=s.toks) (fun b o z=>sortedAll_old z) (iF _) ⟨hlen,out.toList,e,xH a1,by simpa using he⟩,rfl,q _ ne⟩
def kg:Yw X (.builtin "sorted") (fun xs H Q=>∃(p:Addr) (ss:List Str),xs=[.ref p]/\SqL X.K H p (ss.map V.str)/\ss.length<64/\∀l,H l=none->Q (.ref l) (upd H l (.lst ((Wm ss).map V.str)))):=by
 intro cQ s U H xs us Q I r h;obtain⟨p,ns,rfl,hq,hl,q⟩:=h;obtain⟨u,rfl,ru⟩:=Vz r;obtain rfl:u=Value.ref p:=ru;obtain⟨its,rv,pl,hz⟩:=I.list hq;have el:=rv.length;rw[fi] at el;refine sorted_strs pl.isList (xL rv) (by omega) fun out ms a1 a2 a3=>?_;obtain rfl:=ZbG a2 (KG a3);obtain⟨e,he⟩:=sortedAll_at s.heap its out;have hlen:((Wm ns).map V.str).length<=sizeLine:=by rw[fi,(qz ns).length_eq,<- fi (f:=V.str)];exact hz
 have ne:H (s.heap.objs.size+1)=none:=I.hok.fresh (iF _);exact⟨.ref (s.heap.objs.size+1),_,I.laid (o:=.lst ((Wm ns).map V.str)) (t':=s.toks) (fun b o z=>sortedAll_old z) (iF _) ⟨hlen,out.toList,e,jf a1,by simpa using he⟩,rfl,q _ ne⟩
def QB(K:W.Frag):List V->Hp->VK->Prop:=fun xs H Q=>(∃(p:Addr) (ss:List Str),xs=[.ref p]/\SqL K H p (ss.map V.str)/\ss.length<64/\∀l,H l=none->Q (.ref l) (upd H l (.lst ((Wm ss).map V.str))))\/(∃(p:Addr) (ns:List Int),xs=[.ref p]/\SqL K H p (ns.map V.int)/\ns.length<64/\∀l,H l=none->Q (.ref l) (upd H l (.lst ((Yc ns).map V.int))))
def JN:Yw X (.builtin "sorted") (QB X.K):=kg.or kG
def ZaU{bs:List Bool}:((List.range bs.length).all fun i=>(bs[i]?).getD true)=bs.all id:=by
 induction bs with
 |nil=>rfl
 |cons b r ih=>
  rw[gp,List.range_succ_eq_map,lH,List.all_map,lH,<- ih];rfl
def ZbB(hc:X.calm=true):Yw X (.builtin "all") (fun xs H Q=>∃(p:Addr) (bs:List Bool),xs=[.ref p]/\SqL X.K H p (bs.map V.bl)/\Q (.bl (bs.all id)) H):=by
 intro cQ s U H xs us Q I r h;obtain⟨p,bs,rfl,hq,q⟩:=h;obtain⟨u,rfl,ru⟩:=Vz r;obtain rfl:u=Value.ref p:=ru;obtain⟨its,rv,pl,hz⟩:=I.list hq;have el:=rv.length;rw[fi] at el;have hlt:p<s.heap.objs.size:=by obtain⟨_,e,_⟩:=pl.isList;exact fC e
 refine call_all_walk (mY pl.isList ?_);refine⟨s.heap.objs.size,[s.heap.objs.size,p],[s.heap.objs.size],its.toArray.size,_,_,fun i=>(bs[i]?).getD true,rfl,Walks.list (A:=X.A.in1) (by simpa using I.ok.hd hc) _ p (fE hlt) its.toArray,
  ⟨⟨_,fR _ rfl,rfl,rfl⟩,pl.isList.push _⟩,fun i v s' Q' E' hP hQ=>?_,fun h' tk hk=>?_⟩
 ·obtain⟨b,e,rfl⟩:=xI rv i v (by simpa using hP);simp only[e,Option.getD_some] at hQ;exact io hQ
 ·rw[fL,<- el,ZaU];exact⟨.bl _,H,I.kept fun b o e=>hk b o (by simpa using fE (fC e)) (fz _ e),rfl,q⟩
def xj:Yw X (.type "range") (fun xs H Q=>∃j:Int,xs=[.int j]/\∀p,H p=none->Q (.ref p) (upd H p (.rng 0 j))):=by
 intro cQ s U H xs us Q I r h;obtain⟨j,rfl,q⟩:=h;obtain⟨u,rfl,ru⟩:=Vz r;obtain⟨t,rfl⟩:=(show ∃t,u=Value.int j t from ru);refine call_range_1 ?_;exact⟨.ref s.heap.objs.size,_,I.laid (o:=.rng 0 j) (fun b o e=>fz _ e) (fh _) ⟨_,_,_,fR _ rfl⟩,rfl,q _ (I.hok.fresh (fh _))⟩
def upTo(n:Int):List Int:=(List.range n.toNat).map fun(k:Nat)=>(k:Int)
def Qb{lo:Int}(h:ItemsOf (fun i v=>∃t,v=.int (lo+i*1) t) its.toArray n):ZM ((List.range n).map fun(k:Nat)=>V.int (lo+(k:Int))) its:=by
 obtain⟨h1,h2⟩:=h;rw[fL] at h1
 induction its generalizing n lo with
 |nil=>simp at h1;subst h1;exact .nil
 |cons u r ih=>
  cases n with
  |zero=>simp at h1
  |succ n=>
   rw[List.range_succ_eq_map,fP,gB];obtain⟨t,e⟩:=h2 0 u (by simp);refine .cons ⟨t,by rw[e];simp⟩ ?_;have:=ih (n:=n) (lo:=lo+1) (by simpa using h1) (fun j v hj=>by
    obtain⟨t,e⟩:=h2 (j+1) v (by simpa using hj);exact⟨t,by rw[e];congr 1;push_cast;omega⟩)
   refine(show ZM _ r from ?_);have e2:(List.range n).map (fun(k:Nat)=>V.int (lo+1+(k:Int)))=(List.range n).map ((fun(k:Nat)=>V.int (lo+(k:Int)))∘Nat.succ):=by
    apply mi;intro k _;simp only[Function.comp]
    congr 1
    push_cast
    omega
   rw[<- e2];exact this
def vG(hc:X.calm=true):Yw X (.type "list") (fun xs H Q=>∃(p:Addr) (j:Int),xs=[.ref p]/\H p=some (.rng 0 j)/\0<=j/\j<=1000000/\∀l,H l=none->Q (.ref l) (upd H l (.lst ((upTo j).map V.int)))):=by
 intro cQ s U H xs us Q I r h;obtain⟨p,j,rfl,hp,h0,h1,q⟩:=h;obtain⟨u,rfl,ru⟩:=Vz r;obtain rfl:u=Value.ref p:=ru;obtain⟨t,u,v,e⟩:=I.hok p _ hp;refine call_list_range (a:=0) (b:=j) (c:=1) (n:=j.toNat) (I.ok.hd hc) e (small_one (by omega) (by omega) (by omega) (by omega)) (by rw[rangeSize_one];split<;>omega) (by omega) fun h' tk acc c' hk he hi=>?_;have hv:ZM ((upTo j).map V.int) acc.toList:=by
  have:=Qb (its:=acc.toList) (n:=j.toNat) (lo:=0) (by simpa using hi);unfold upTo;rw[gB];have e2:(List.range j.toNat).map (fun(k:Nat)=>V.int (0+(k:Int)))=(List.range j.toNat).map (V.int∘fun(k:Nat)=>(k:Int)):=by
   apply mi;intro k _;simp
  rw[<- e2];exact this
 have hz:((upTo j).map V.int).length<=sizeLine:=by unfold upTo;rw[fi,fi,fY,ft];omega
 exact⟨.ref s.heap.objs.size,_,I.laid (o:=.lst ((upTo j).map V.int)) hk (fh _) ⟨hz,acc.toList,c',hv,by simpa using he⟩,rfl,q _ (I.hok.fresh (fh _))⟩
def ZgB(K:W.Frag)(te:TE)(ts:TO):TE:=fun U H Q=>te U H fun x H1=>ts U H1 fun k H2=>∃a xs,x=.ref a/\k=some (-1)/\SqL K H2 a xs/\∀p,H2 p=none->Q (.ref p) (upd H2 p (.lst xs.reverse))
def Zfu{st:Expr}{ts:TO}(he:PE X e te)(hs:PO X (some st) ts):PE X (.Subscript e (.Slice none none (some st) p2) pos) (ZgB X.K te ts):=by
 intro cQ s U H Q I h;refine Subscript_ (thn (he cQ s U H _ I h) fun v s1 ⟨x,H1,I1,r1,q1⟩=>?_);refine wpAny_Slice ?_;rw[evalPart_none];refine fq (fq (thn (hs cQ s1 U H1 _ I1 q1) fun vk s3 ⟨k,H3,I3,pk,q3⟩=>?_));obtain⟨a,xs,rfl,rfl,hq,q⟩:=q3;obtain rfl:v=Value.ref a:=r1;obtain⟨its,r,ht,hz⟩:=I3.list hq;have hlen:=r.length;have I4:Inv X cQ U H3 { s3 with heap:=s3.heap.push { cls:=.type "slice",data:=.fields #[.none,.none,vk] } }:=I3.kept (t':=s3.toks) fun b ob q=>fz _ q;obtain⟨its4,r4,ht4,hz4⟩:=I4.list hq;have hlen4:=r4.length
 show wpAny (model X.prog X.w) X.A (subscriptTail e (.Slice none none (some st) p2) (.ref a) (.ref s3.heap.objs.size)) (EP X cQ U Q) X.xe { s3 with heap:=s3.heap.push { cls:=.type "slice",data:=.fields #[.none,.none,vk] } }
 refine tail_any (ops:=[.ref a,.ref s3.heap.objs.size]) ht4.isList.typeIs slot_list_getitem.lookup ?_ (by with_unfolding_all rfl);refine wpAny_getItem_list_slice ht4.isList (Heap.IsSliceOf.new ..) .none .none pk (by simp) ?_ (by rw[fL]<;>omega);rw[W.krv_pick];refine⟨.ref _,_,I4.laid (t':=s3.toks) (o:=.lst xs.reverse) (fun b ob q=>fz _ q) (fh _) ?_,rfl,q _ (I4.hok.fresh (fh _))⟩;exact⟨by rw[iu];exact hz,its4.reverse,0,r4.reverse,fR _ rfl⟩
mutual
inductive Dp(K:W.Frag)(H:Hp):V->PyData->Prop
 |non:Dp K H .non .none
 |bl (b:_):Dp K H (.bl b) (.bool b)
 |int (i:_):Dp K H (.int i) (.int i)
 |str (x:_):Dp K H (.str x) (.str x)
 |lst {a xs ds}:SqL K H a xs->Wg K H xs ds->Dp K H (.ref a) (.list ds)
 |tup {a xs ds}:SqT K H a xs->Wg K H xs ds->Dp K H (.ref a) (.tuple ds)
inductive Wg(K:W.Frag)(H:Hp):List V->List PyData->Prop
 |nil:Wg K H [] []
 |cons {v d vs ds}:Dp K H v d->Wg K H vs ds->Wg K H (v::vs) (d::ds)
end
mutual
theorem Dp.reads(I:Inv X cQ U H s):∀{v:V}{d:PyData}{u:Value},Dp X.K H v d->ZZ v u->∃as,Reads s.heap u d as
 |_,_,u,.non,r=>by cases (show u=Value.none from r);exact⟨_,.none⟩
 |_,_,u,.bl b,r=>by cases (show u=Value.bool b from r);exact⟨_,.bool b⟩
 |_,_,u,.int i,r=>by obtain⟨t,e⟩:=(show ∃t,u=Value.int i t from r);cases e;exact⟨_,.int i t⟩
 |_,_,u,.str x,r=>by obtain⟨t,e⟩:=(show ∃t,u=Value.str x t from r);cases e;exact⟨_,.str x t⟩
 |_,_,u,.lst (a:=a) h hs,r=>by
  cases (show u=Value.ref a from r);obtain⟨its,rv,pl,_⟩:=I.list h;obtain⟨o,ho,hc,n,hd⟩:=pl.isList;obtain⟨as,q⟩:=Wg.reads I hs rv;exact⟨_,.list ho hc hd (by simpa using q)⟩
 |_,_,u,.tup (a:=a) h hs,r=>by
  cases (show u=Value.ref a from r);obtain⟨its,rv,⟨o,ho,hc,n,hd⟩,_⟩:=I.tuple h;obtain⟨as,q⟩:=Wg.reads I hs rv;exact⟨_,.tuple ho hc hd (by simpa using q)⟩
theorem Wg.reads(I:Inv X cQ U H s):∀{vs:List V}{ds:List PyData}{us:List Value},Wg X.K H vs ds->ZM vs us->∃as,ReadsAll s.heap us ds as
 |_,_,_,.nil,.nil=>⟨_,.nil⟩
 |_,_,_,.cons h hs,.cons r rs=>by
  obtain⟨as,a⟩:=h.reads I r;obtain⟨bs,b⟩:=hs.reads I rs;exact⟨_,.cons a b⟩
end
inductive Zc3(K:W.Frag)(neg:Bool)(x:V)(y:V)(H:Hp)(Q:VK):Prop
 |mk (d:_) (e:_) (h0:Dp K H x d) (h1:Dp K H y e) (h2:d.canLay0=true) (h3:e.canLay0=true) (h4:d.depth<=60) (h5:Q (.bl (if neg then !PyData.eqv d e else PyData.eqv d e)) H):Zc3 K neg x y H Q
def JU(K:W.Frag)(neg:Bool):R2:=fun x y H Q=>Zc3 K neg x y H Q
theorem ZeI(hu:X.A.units+64<cLine):OpR X (compareOp .Eq) (JU X.K false):=by
 intro cQ s U H x y u v Q I rx ry h;obtain⟨d,e,hx,hy,c1,c2,dp,q⟩:=h;obtain⟨as,a⟩:=hx.reads I rx;obtain⟨bs,b⟩:=hy.reads I ry;exact SeqAt.compareEq_reads a b c1 c2 (by omega) ⟨.bl _,H,I,rfl,q⟩
theorem Zfm(hu:X.A.units+64<cLine):OpR X (compareOp .NotEq) (JU X.K true):=by
 intro cQ s U H x y u v Q I rx ry h;obtain⟨d,e,hx,hy,c1,c2,dp,q⟩:=h;obtain⟨as,a⟩:=hx.reads I rx;obtain⟨bs,b⟩:=hy.reads I ry;exact SeqAt.compareNe_reads a b c1 c2 (by omega) ⟨.bl _,H,I,rfl,q⟩
inductive Zbd(K:W.Frag)(T:String)(xs:List V)(H:Hp)(Q:VK):Prop
 |mk (x:_) (t:_) (b:_) (h0:xs=[x,.ty T]) (h1:UF K H x t) (h2:W.kitOne K t (.type T)=some b) (h3:Q (.bl b) H):Zbd K T xs H Q
def ZeN(K:W.Frag)(T:String):List V->Hp->VK->Prop:=fun xs H Q=>Zbd K T xs H Q
theorem Zba(T:String):Yw X (.builtin "isinstance") (ZeN X.K T):=by
 intro cQ s U H xs us Q I r h;obtain⟨x,t,b,rfl,ht,hk,q⟩:=h;obtain⟨u,v,rfl,ru,rv⟩:=QY r;obtain rfl:v=Value.type T:=rv;exact jh I ru ht hk fun tk=>⟨.bl b,H,I.tok _,rfl,q⟩
example (K:W.Frag):W.kitOne K (.type "int") (.type "list")=some false:=by rfl
example (K:W.Frag):W.kitOne K (.type "bool") (.type "int")=some true:=by rfl
def New(H H':Hp):Hp:=fun b=>if(H b).isSome=true then none else H' b
def hide(D:Addr)(H:Hp):Hp:=fun b=>if b=D then none else H b
theorem New.of{b:Addr}(h:New H H' b=some o):H b=none/\H' b=some o:=by
 unfold New at h
 split at h
 ·cases h
 ·rename_i q
  refine⟨?_,h⟩;cases e:H b with
  |none=>rfl
  |some u=>rw[e] at q;exact absurd rfl q
theorem New.mk{b:Addr}(h:H b=none)(h':H' b=some o):New H H' b=some o:=by
 unfold New;rw[h];exact h'
theorem Zi(h:H p=none):Ze H (upd H p o):=fun b u e=>by rw[Zx (ZW e h)];exact e
theorem WK:Ze (hide D H) H:=fun b o h=>by
 unfold hide at h
 split at h
 ·cases h
 ·exact h
theorem zV{b:Addr}(h:hide D H b=some o):b≠D/\H b=some o:=by
 unfold hide at h
 split at h
 ·cases h
 ·rename_i q;exact⟨q,h⟩
theorem XY{b:Addr}(n:b≠D)(h:H b=some o):hide D H b=some o:=by
 unfold hide;rw[if_neg n];exact h
def Zs(D:Addr)(H H':Hp):Prop:=∀b o,b≠D->H b=some o->H' b=some o
theorem Ze.x(h:Ze H H'):Zs D H H':=fun b o _ e=>h b o e
theorem Zs.refl(H:Hp):Zs D H H:=fun _ _ _ e=>e
theorem Zs.trans(a:Zs D H H1)(b:Zs D H1 H2):Zs D H H2:=fun c o n e=>b c o n (a c o n e)
theorem Zs.upd{D:Addr}{H H':Hp}{o:HO}(a:Zs D H H'):Zs D H (upd H' D o):=fun c u n e=>by rw[Zx n];exact a c u n e
theorem Zs.same(a:Zs D H H')(h:H D=none):Ze H H':=fun c u e=>a c u (ZW e h) e
theorem Ze.seqT{a:Addr}{xs:List V}(e:Ze H H')(h:SqT K H a xs):SqT K H' a xs:=by
 rcases h with(h|⟨o,h⟩)|h
 ·exact .inl (.inl (e _ _ h))
 ·exact .inl (.inr ⟨o,e _ _ h⟩)
 ·exact .inr h
theorem Km{g:TG}{Q:VK}(Pv:Nat->St->Hp->Prop)(h0:Pv 0 σ0 (upd H0 D (.lst [])))
  (hgo:∀i U H,i<n->Pv i U H->J.go i H) (hst:∀U H,Pv n U H->J.stop n H)
  (hs:∀i x U H H2,i<n->Pv i U H->J.yld i H x H2->∀(N:V->St->Hp->Prop) (N0:St->Hp->Prop),(∀v σ2 H5 ys,H5 D=some (.lst ys)->ys.length<sizeLine->Pv (i+1) σ2 (upd H5 D (.lst (ys++[v])))->N v σ2 H5)->(∀σ2 H4,Pv (i+1) σ2 H4->N0 σ2 H4) ->
   g x U H2 fun σ2 H3=>tt σ2 H3 fun c H4=>if c=true then te σ2 H4 fun v H5=>N v σ2 H5 else N0 σ2 H4)
  (hd:∀U H,Pv n U H->Q (.ref D) H) :
  Zb9 J D g tt te σ0 H0 Q:=by
 refine⟨fun i m U H=>m=n-i/\i<=n/\Pv i U H,⟨n,by simp,gk _,h0⟩,?_⟩;rintro i m U H ⟨rfl,hi,p⟩
 by_cases hlt:i<n
 ·refine .inr ⟨hgo i U H hlt p,fun v σ2 H5=>∃ys,H5 D=some (.lst ys)/\ys.length<sizeLine/\Pv (i+1) σ2 (upd H5 D (.lst (ys++[v]))),fun σ2 H4=>Pv (i+1) σ2 H4,?_,?_,?_⟩
  ·rintro v σ2 H5 ⟨ys,a,b,c⟩;exact⟨ys,a,b,n-(i+1),by omega,rfl,hlt,c⟩
  ·intro σ2 H4 q;exact⟨n-(i+1),by omega,rfl,hlt,q⟩
  ·intro x H2 y;exact hs i x U H H2 hlt p y _ _ (fun v σ2 H5 ys a b c=>⟨ys,a,b,c⟩) fun _ _ q=>q
 ·have e:i=n:=by omega
  subst e;exact .inl ⟨hst U H p,hd U H p⟩
theorem Zb5{a:Addr}{xs:List V}{Q:VK}(hD:H0 D=none)(hq:SqL K H0 a xs)(hz:xs.length<=sizeLine)(R:Nat->V->Hp->Prop)(mono:∀i v H H',Ze H H'->R i v H->R i v H')
  (step:∀i x H (N:V->Hp->Prop),xs[i]?=some x->Ze H0 H->(∀v H4,Ze H H4->R i v (New H H4)->N v H4)->te (some x::τ) H N)
  (fin:∀H' ys,H' D=some (.lst ys)->Ze H0 H'->ys.length=xs.length->(∀i v,ys[i]?=some v->R i v (New H0 H'))->Q (.ref D) H') :
  Zb9 (Itl K a) D (V0 0) yL te (none::τ) H0 Q:=by
 refine Km (n:=xs.length) (fun i U H=>∃z ys,U=z::τ/\H D=some (.lst ys)/\ys.length=i/\Ze H0 H/\∀j v,ys[j]?=some v->R j v (hide D (New H0 H))) ?_ ?_ ?_ ?_ ?_
 ·exact⟨none,[],rfl,Zd,rfl,Zi hD,fun j v e=>by simp at e⟩
 ·rintro i U H hi ⟨z,ys,rfl,_,_,s,_⟩;exact⟨xs,xs[i],s.seq hq,by simp[hi]⟩
 ·rintro U H ⟨z,ys,rfl,_,_,s,_⟩;exact⟨xs,s.seq hq,fh _⟩
 ·rintro i x U H H2 hi ⟨z,ys,rfl,hy,hl,s,r⟩ ⟨rfl,hx⟩ N N0 hN hN0
  show te (some x::τ) H2 _
  refine step i x H2 _ (hx xs (s.seq hq)) s fun v H4 s4 r4=>?_;refine hN v _ H4 ys (s4 _ _ hy) (by omega) ⟨some x,ys++[v],rfl,Zd,by rw[fu,gn,hl],?_,?_⟩
  ·exact(Zs.upd (Ze.x (s.trans s4))).same hD
  ·intro j w e
   by_cases hj:j<ys.length
   ·rw[fW hj] at e;refine mono j w _ _ ?_ (r j w e);intro b o hb;obtain⟨nb,hb⟩:=zV hb;obtain⟨h1,h2⟩:=New.of hb;exact XY nb (New.mk h1 (by rw[Zx nb];exact s4 _ _ h2))
   ·have ej:j=ys.length:=by
     have:=(fD.mp e).1;rw[fu,gn] at this;omega
    subst ej;simp at e;subst e;rw[hl];refine mono i v _ _ ?_ r4;intro b o hb;obtain⟨h1,h2⟩:=New.of hb;have nb:b≠D:=fun z=>by subst z;rw[hy] at h1;cases h1
    exact XY nb (New.mk (s.free h1) (by rw[Zx nb];exact h2))
 ·rintro U H ⟨z,ys,rfl,hy,hl,s,r⟩;exact fin H ys hy s hl fun i v e=>mono i v _ _ WK (r i v e)
def ZfM(K:W.Frag):List V->Hp->VK->Prop:=fun xs H Q=>(∃p ys,xs=[.ref p]/\(SqL K H p ys\/SqT K H p ys)/\Q (.int ys.length) H)\/((∃z,xs=[.str z]/\z.length<=sizeLine/\Q (.int z.length) H)\/∃a n,xs=[.ref a]/\H a=some (Zay a n)/\n<4000/\Q (.int n) H)
theorem ZaF:Yw X (.builtin "len") (ZfM X.K):=kL.or (jz.or Zaz)
def ZbH(K:W.Frag):List V->Hp->VK->Prop:=fun xs H Q=>(∃p ys,xs=[.ref p]/\(SqL K H p ys\/SqT K H p ys)/\∀l,H l=none->Q (.ref l) (upd H l (.lst ys)))\/(∃(p:Addr) (j:Int),xs=[.ref p]/\H p=some (.rng 0 j)/\0<=j/\j<=1000000/\∀l,H l=none->Q (.ref l) (upd H l (.lst ((upTo j).map V.int))))
theorem Qp(hc:X.calm=true):Yw X (.type "list") (ZbH X.K):=j5.or (vG hc)
theorem yi{x:Str}(hg:Gl X x)(h:∃u,X.mg x=some u/\ZZ v u)(hd:(x==("__debug__" : Str))=false:=by decide):PE X (.Name x pos) (tC v):=by
 obtain⟨u,hm,r⟩:=h;exact Zdx hg hm r hd
def ZS(sc:Scope)(N Nc:List Str)(ix:List (Option Nat))(scope:Scope):Bool:=
 decide (scope.kind=.function)&&scope.names.all (fun y=>decide (y.2≠.cell))&&scope.names.all (fun y=>decide (y.2=.local->scope.names.lookup y.1=some .local)) &&
 scope.names.all (fun y=>decide (y.2=.free->sc.names.lookup y.1=some .cell\/sc.names.lookup y.1=some .free))&&decide (ix.length=Nc.length) &&
 (ix.zip Nc).all fun p=>match p.1 with|none=>true|some j=>N[j]?==some p.2&&scope.names.lookup p.2==some .free
theorem ZL.of(h:ZS sc N Nc ix scope=true):ZL sc N Nc ix scope:=by
 unfold ZS at h;simp only[gb] at h;obtain⟨⟨⟨⟨⟨h1,h2⟩,h3⟩,h4⟩,h5⟩,h6⟩:=h;exact⟨fT h1,fun y hy=>fT (gT.mp h2 y hy),fun y hy=>fT (gT.mp h3 y hy),fun y hy=>fT (gT.mp h4 y hy),fT h5,h6⟩
def Its(x:Str):It:=⟨fun i _=>i<x.cps.size,fun i H v H'=>H'=H/\∃c,x.cps[i]?=some c/\v=.str ⟨#[c]⟩,fun i _=>x.cps.size<=i⟩
theorem ZcO{it:Addr}{x:Str}{t:Tok}{ty:String}
  (hty:["enumerate","zip","dict_itemiterator","dict_reverseitemiterator","odict_iterator","itertools.zip_longest","itertools.pairwise"].contains ty=false)
  (W:∀A':Around,A'.handled=none->Walks P w A' it [it] [it] x.cps.size (SignAt x) (fun i h=>h.IsStrIter it ty x t i))
  (self:∀(A:Around) (i:Nat) (s:Shared) (Q:Value->Shared->Prop) (E:Value->Shared->Prop),s.heap.IsStrIter it ty x t i->Q (.ref it) s->wpAny (model P w) A (pyIter (.ref it)) Q E s) :
  K5 P w K tg (Its x) [it] it (fun i h=>i<=x.cps.size/\h.IsStrIter it ty x t i) where
 mem:=by simp
 obj:=fun i h st b hb=>by
  have e:b=it:=by simpa using hb
  subst e;obtain⟨_,o,e,c,d⟩:=st;exact⟨o,e,fun v z=>by rw[d] at z;cases z⟩
 keep:=fun i h h' st k=>by
  obtain⟨l,o,e,c,d⟩:=st;exact⟨l,o,k it (by simp) o e,c,d⟩
 item:=by
  intro X hP hw hK hc i cQ s U H E I hf st hg;subst hP hw hK;obtain⟨f0,f1,f2,f3,f4,f5⟩:=hf it (by simp);refine(W X.A (I.ok.hd hc)).item i s _ _ hg st.2 fun v h' tk hv st' kk=>?_;obtain⟨c,u,hcx,rfl⟩:=hv;have I1:L2.Inv X cQ U H { s with heap:=h',toks:=tk }:=I.turned (fun b o hb e=>kk b o (by simpa using hb) e) f0 f1 f3 f4 f5;obtain⟨o,e,oc,od⟩:=id st';exact⟨_,rfl,Jq (s:={ s with heap:=h',toks:=tk }) e oc od hty ⟨.str ⟨#[c]⟩,H,I1,⟨u,rfl⟩,⟨rfl,c,hcx,rfl⟩,⟨hg,st'⟩,fun b hb=>(hf b hb).1⟩⟩
 done:=by
  intro X hP hw hK hc i cQ s U H E I hf st hg;subst hP hw hK;obtain⟨f0,f1,f2,f3,f4,f5⟩:=hf it (by simp);have e:i=x.cps.size:=Nat.le_antisymm st.1 hg;subst e;exact(W X.A (I.ok.hd hc)).done s _ _ st.2 fun h' tk kk=>⟨rfl,I.turned (fun b o hb e=>kk b o (by simpa using hb) e) f0 f1 f3 f4 f5⟩
 self:=fun A i s Q E st h=>self A i s Q E st.2 h
def iStr(tl:TE):TI:=fun U H R=>tl U H fun v H1=>∃x,v=.str x/\R (Its x) H1
theorem Zfv{l:Expr}(hl:PE X l tl):PI X tg l (iStr tl):=by
 intro cQ s U H R I h;refine thn (hl cQ s U H _ I h) fun v s1 ⟨y,H1,I1,r1,x,e,q⟩=>?_;subst e;obtain⟨t,rfl⟩:=(show ∃t,v=Value.str x t from r1);have fin:∀(ty:String),["enumerate","zip","dict_itemiterator","dict_reverseitemiterator","odict_iterator","itertools.zip_longest","itertools.pairwise"].contains ty=false ->
   (∀A':Around,A'.handled=none->Walks X.prog X.w A' s1.heap.objs.size [s1.heap.objs.size] [s1.heap.objs.size] x.cps.size (SignAt x) (fun i h=>h.IsStrIter s1.heap.objs.size ty x t i)) ->
   (∀(A:Around) (i:Nat) (s:Shared) (Q:Value->Shared->Prop) (E:Value->Shared->Prop),s.heap.IsStrIter s1.heap.objs.size ty x t i->Q (.ref s1.heap.objs.size) s->wpAny (model X.prog X.w) A (pyIter (.ref s1.heap.objs.size)) Q E s) ->
   PIE X cQ U tg R (.ref s1.heap.objs.size) { s1 with heap:=s1.heap.push { cls:=.type ty,data:=.fields #[.str x t,.int 0 0] } }:=fun ty h1 h2 h3=>by
  refine⟨s1.heap.objs.size,[s1.heap.objs.size],_,_,H1,rfl,I1.kept (t':=s1.toks) fun b o e=>fz _ e,ZcO h1 h2 h3,⟨gk _,_,fR _ rfl,rfl,rfl⟩,fun b hb=>?_,q⟩;have e:b=s1.heap.objs.size:=by simpa using hb
  subst e;exact I1.fpOk (fh _) (I1.hok.fresh (fh _))
 cases ha:x.cps.all (·<128)
 ·exact wpAny_pyIter_wide ha (fin "str_iterator" (by decide) (fun A' hA=>Walks.strWide hA _ x t) fun _ _ _ _ _ st h=>wpAny_pyIter_striter_wide st h)
 ·exact wpAny_pyIter_ascii ha (fin "str_ascii_iterator" (by decide) (fun A' hA=>Walks.strAscii hA _ x t) fun _ _ _ _ _ st h=>wpAny_pyIter_striter_ascii st h)
theorem Zu(hK:X.K=K):Yw X (.builtin "len") (ZfM K):=by subst hK;exact ZaF
theorem UA(hK:X.K=K):Yw X (.builtin "sorted") (QB K):=by subst hK;exact JN
def rAll(K:W.Frag):List V->Hp->VK->Prop:=fun xs H Q=>∃(p:Addr) (bs:List Bool),xs=[.ref p]/\SqL K H p (bs.map V.bl)/\Q (.bl (bs.all id)) H
theorem Ve(hK:X.K=K)(hc:X.calm=true):Yw X (.builtin "all") (rAll K):=by subst hK;exact ZbB hc
theorem YL(hK:X.K=K)(hc:X.calm=true):Yw X (.type "list") (ZbH K):=by subst hK;exact Qp hc
def Zdz(K:W.Frag):List V->Hp->VK->Prop:=fun xs H Q=>∃p ys,xs=[.ref p]/\((SqL K H p ys/\∀l,H l=none->Q (.ref l) (upd H l (.tup ys)))\/(SqT K H p ys/\Q (.ref p) H))
theorem Yu(hK:X.K=K):Yw X (.type "tuple") (Zdz K):=by subst hK;exact vw
def Zgp(K:W.Frag):List V->Hp->VK->Prop:=fun xs H Q=>∃(p:Addr) (ks:List Key),xs=[.ref p]/\SqL K H p (ks.map kV)/\ks.length<4000/\∀n a,n<=ks.length->(n=ks.length↔ks.Nodup)->H a=none->Q (.ref a) (upd H a (Zay a n))
theorem vW(hK:X.K=K)(hc:X.calm=true):Yw X (.type "set") (Zgp K):=by subst hK;exact ZbO hc
theorem Xr(hK:X.K=K)(T:String):Yw X (.builtin "isinstance") (ZeN K T):=by subst hK;exact Zba T
theorem Zr(hK:X.K=K):IxR X (ZfZ K):=by subst hK;exact ZdB
theorem ZP(hK:X.K=K):IxR X (Zgd K):=by subst hK;exact ZeV
theorem Xi(hK:X.K=K):SlR X (ZfV K):=by subst hK;exact Zc7
theorem WT(hK:X.K=K):OpR X (compareOp .In) (rIn K false):=by subst hK;exact Za6
theorem zz(hK:X.K=K):OpR X (compareOp .NotIn) (rIn K true):=by subst hK;exact jY
theorem QI(hK:X.K=K)(hu:X.A.units+64<cLine):OpR X (compareOp .Eq) (JU K false):=by subst hK;exact ZeI hu
theorem U1(hK:X.K=K)(hu:X.A.units+64<cLine):OpR X (compareOp .NotEq) (JU K true):=by subst hK;exact Zfm hu
theorem ZE{l:Expr}(hK:X.K=K)(hl:PE X l tl):PI X tg l (Zen K tl):=by subst hK;exact ZdY hl
theorem WH{es:List Expr}{k:Nat}{t:TGs}(hK:X.K=K)(hc:X.calm=true)(h:PGs X es t)
  (hn:(assignEach es X.env).length=n:=by rfl) (hst:(assignEach es X.env).findIdx? (·.1)=none:=by rfl):PG X (.Tuple es k pos) (ZgG K n t):=by subst hK;exact Ze7 hc h hn hst
theorem Wa{f:Str}{ta:TE}(hK:X.K=K)(he:PE X e ta)(hb:attributeBase e f X.env (eval e X.env)=eval e X.env):PE X (.Attribute e f pos) (Zgb K ta f):=by subst hK;exact Ze3 he hb
theorem yA{st:Expr}{ts:TO}(hK:X.K=K)(he:PE X e te)(hs:PO X (some st) ts):PE X (.Subscript e (.Slice none none (some st) p2) pos) (ZgB K te ts):=by subst hK;exact Zfu he hs
inductive Kd(H:Hp):V->Prop
 |non:Kd H .non
 |bl (b:Bool):Kd H (.bl b)
 |int (i:Int):Kd H (.int i)
 |str (z:Str) (hz:z.length<=1000):Kd H (.str z)
 |lst {a:Addr}{xs:List V} (e:H a=some (.lst xs)):Kd H (.ref a)
 |tup {a:Addr}{xs:List V} (e:H a=some (.tup xs)):Kd H (.ref a)
 |dK {a:Addr}{kvs:List (Key×V)} (e:H a=some (.dK kvs)):Kd H (.ref a)
theorem Kd.mono{x:V}(s:Ze H H')(h:Kd H x):Kd H' x:=by
 cases h with
 |non=>exact .non
 |bl b=>exact .bl b
 |int i=>exact .int i
 |str z hz=>exact .str z hz
 |lst e=>exact .lst (s _ _ e)
 |tup e=>exact .tup (s _ _ e)
 |dK e=>exact .dK (s _ _ e)
def XJ(H:Hp)(T:String):V->Bool
 |.bl _=>T == "bool" || T == "int"
 |.int _=>T == "int"
 |.str _=>T == "str"
 |.ref a=>match H a with
  |some (.lst _)=>T == "list"
  |some (.tup _)=>T == "tuple"
  |some (.dK _)=>T == "dict"
  |_=>false
 |_=>false
theorem ZeR{x:V}{Q:VK}(hT:T = "int" \/ T = "bool" \/ T = "str" \/ T = "list" \/ T = "tuple")(h:Kd H x)(q:Q (.bl (XJ H T x)) H):ZeN K T [x,.ty T] H Q:=by
 rcases hT with rfl|rfl|rfl|rfl|rfl
 all_goals
  cases h with
  |non=>exact⟨_,_,_,rfl,.non,rfl,q⟩
  |bl b=>exact⟨_,_,_,rfl,.bl b,rfl,q⟩
  |int i=>exact⟨_,_,_,rfl,.int i,rfl,q⟩
  |str z hz=>exact⟨_,_,_,rfl,.str z,rfl,q⟩
  |lst e=>first|exact⟨_,_,false,rfl,.lst e,rfl,by simpa[XJ,e] using q⟩|exact⟨_,_,true,rfl,.lst e,rfl,by simpa[XJ,e] using q⟩
  |tup e=>first|exact⟨_,_,false,rfl,.tup e,rfl,by simpa[XJ,e] using q⟩|exact⟨_,_,true,rfl,.tup e,rfl,by simpa[XJ,e] using q⟩
  |dK e=>first|exact⟨_,_,false,rfl,.dK e,rfl,by simpa[XJ,e] using q⟩|exact⟨_,_,true,rfl,.dK e,rfl,by simpa[XJ,e] using q⟩
def yf(c:Nat):Bool:=decide (97<=c/\c<=122)
def Yo(z:Str):Bool:=decide (1<=z.length)&&decide (z.length<=8)&&z.cps.toList.all yf
def Xf:V->Bool
 |.str z=>Yo z
 |_=>false
def j7:V->Bool
 |.int _=>true
 |_=>false
def Y3(n:Int):V->Bool
 |.int i=>decide (0<=i)&&decide (i<n)
 |_=>false
def Wb(H:Hp):V->Option (List V)
 |.ref a=>match H a with
  |some (.lst xs)=>some xs
  |_=>none
 |_=>none
theorem Y6{a:Addr}{xs:List V}(h:H a=some (.lst xs)):Wb H (.ref a)=some xs:=by simp[Wb,h]
theorem qu{x:V}(s:Ze H H')(k:Kd H x):Wb H' x=Wb H x:=by
 cases k with
 |non=>rfl
 |bl b=>rfl
 |int i=>rfl
 |str z hz=>rfl
 |lst e=>rw[Y6 e,Y6 (s _ _ e)]
 |tup e=>simp[Wb,e,s _ _ e]
 |dK e=>simp[Wb,e,s _ _ e]
def Yi(H:Hp)(x:V):Bool:=match Wb H x with
 |some xs=>xs.all Xf&&decide xs.Nodup
 |none=>false
def Wi(H:Hp)(n:Int)(x:V):Bool:=match Wb H x with
 |some xs=>xs.all (Y3 n)
 |none=>false
def Z6(H:Hp)(n:Int)(x:V):Bool:=match Wb H x with
 |some xs=>xs.all (Y3 n)&&!xs.isEmpty&&decide xs.Nodup
 |none=>false
def KdL(H:Hp)(x:V):Prop:=Kd H x/\∀xs,Wb H x=some xs->xs.length<=1000/\∀y∈xs,Kd H y
def Zbf(H:Hp)(x:V):Prop:=Kd H x/\∀xs,Wb H x=some xs->xs.length<=1000/\∀y∈xs,KdL H y
theorem KdL.mono{H H':Hp}{x:V}(s:Ze H H')(h:KdL H x):KdL H' x:=
 ⟨h.1.mono s,fun xs e=>by
  rw[qu s h.1] at e;exact⟨(h.2 xs e).1,fun y hy=>((h.2 xs e).2 y hy).mono s⟩⟩
theorem qa{x:V}(s:Ze H H')(k:Kd H x):Yi H' x=Yi H x:=by unfold Yi;rw[qu s k]
theorem UI{x:V}{n:Int}(s:Ze H H')(k:Kd H x):Z6 H' n x=Z6 H n x:=by unfold Z6;rw[qu s k]
def Zd3:Option (List V)->Bool
 |some fs=>decide (fs.length<=3)
 |none=>false
def Uj(H:Hp)(s w st f:V):Bool:=match Wb H s,Wb H w with
 |some ss,some ws=>decide (1<=ss.length)&&decide (ss.length<=20)&&decide (ws.length=ss.length)&&ss.all (Yi H)&&ws.all (Z6 H ss.length)&&(Z6 H ss.length st&&(Yi H f&&Zd3 (Wb H f)))
 |_,_=>false
theorem Zeq{a b:Key}:kV a≠kV b↔a≠b:=by
 constructor
 ·intro h e;exact h (by rw[e])
 ·intro h e;apply h;cases a<;>cases b<;>simp[kV] at e<;>simp[e]
theorem Zbs(ks:List Key):(ks.map kV).Nodup↔ks.Nodup:=by
 unfold List.Nodup;rw[List.pairwise_map];exact⟨fun h=>h.imp fun q=>Zeq.mp q,fun h=>h.imp fun q=>Zeq.mpr q⟩
theorem yZ:∀{xs:List V},xs.all Xf=true->∃ks:List Key,xs=ks.map kV
 |[],_=>⟨[],rfl⟩
 |x::r,h=>by
  rw[lH,gb] at h;obtain⟨ks,rfl⟩:=yZ h.2;cases x with
  |str z=>exact⟨.inr z::ks,rfl⟩
  |_=>exact absurd h.1 (by simp[Xf])
theorem yF{n:Int}:∀{xs:List V},xs.all (Y3 n)=true->∃ks:List Key,xs=ks.map kV
 |[],_=>⟨[],rfl⟩
 |x::r,h=>by
  rw[lH,gb] at h;obtain⟨ks,rfl⟩:=yF h.2;cases x with
  |int z=>exact⟨.inl z::ks,rfl⟩
  |_=>exact absurd h.1 (by simp[Y3])
theorem QU{m:Nat}{ks:List Key}(hm:m=(ks.map kV).length)(h:n=ks.length↔ks.Nodup):decide (V.int (n:Nat)=V.int (m:Nat))=decide (ks.map kV).Nodup:=by
 have e:(V.int (n:Nat)=V.int (m:Nat))↔(ks.map kV).Nodup:=by
  rw[Zbs,<- h];constructor
  ·intro q;have q':((n:Nat):Int)=((m:Nat):Int):=V.int.inj q;rw[fi] at hm;omega
  ·intro q;rw[fi] at hm;rw[q,hm]
 exact mj.mpr e
theorem Vn{α:Type}{f:α->Bool}:∀{xs:List α}{ys:List V},ys.length=xs.length->(∀(i:Nat) v x,ys[i]?=some v->xs[i]?=some x->v=.bl (f x))->ys=(xs.map f).map V.bl
 |[],ys,hl,_=>by simp at hl;subst hl;rfl
 |x::r,[],hl,_=>by simp at hl
 |x::r,y::ys,hl,h=>by
  have e:=h 0 y x rfl rfl;subst e;rw[fP,fP,Vn (xs:=r) (ys:=ys) (f:=f) (by simpa using hl) fun i v z h1 h2=>h (i+1) v z (by simpa using h1) (by simpa using h2)]
theorem xO(f:α->Bool)(xs:List α):(xs.map f).all id=xs.all f:=by
 rw[List.all_map];rfl
theorem Ki(c:Nat):decide (c∈("abcdefghijklmnopqrstuvwxyz" : Str).cps.toList)=yf c:=by
 have e:("abcdefghijklmnopqrstuvwxyz" : Str).cps.toList=(List.range 26).map (·+97):=by decide +kernel
 rw[e];unfold yf;refine mj.mpr ?_;rw[fX];constructor
 ·rintro⟨k,hk,rfl⟩;have:=lE.mp hk;omega
 ·rintro⟨h1,h2⟩;exact⟨c-97,lE.mpr (by omega),by omega⟩
theorem WW(K:W.Frag){x:V}{b:Bool}(hT:T = "int" \/ T = "bool" \/ T = "str" \/ T = "list" \/ T = "tuple")(h:Kd H x)(hb:XJ H T x=b):∃t,UF K H x t/\W.kitOne K t (.type T)=some b:=by
 obtain⟨y,t,c,e,h1,h2,q⟩:=ZeR (K:=K) (Q:=fun v _=>v=.bl b) hT h (by rw[hb]);have e1:x=y:=(iI e).1;have e2:c=b:=V.bl.inj q;subst e1;subst e2;exact⟨t,h1,h2⟩
theorem Zfe{x:V}(h:Kd H x):(XJ H "str" x=true/\∃z,x=.str z/\z.length<=1000)\/(XJ H "str" x=false/\Xf x=false):=by
 cases h with
 |str z hz=>exact .inl ⟨rfl,z,rfl,hz⟩
 |non=>exact .inr ⟨rfl,rfl⟩
 |bl b=>exact .inr ⟨rfl,rfl⟩
 |int i=>exact .inr ⟨rfl,rfl⟩
 |lst e=>exact .inr ⟨by simp[XJ,e],rfl⟩
 |tup e=>exact .inr ⟨by simp[XJ,e],rfl⟩
 |dK e=>exact .inr ⟨by simp[XJ,e],rfl⟩
theorem UZ{x:V}(h:Kd H x):(XJ H "list" x=true/\∃a xs,x=.ref a/\H a=some (.lst xs)/\Wb H x=some xs)\/(XJ H "list" x=false/\Wb H x=none):=by
 cases h with
 |str z hz=>exact .inr ⟨rfl,rfl⟩
 |non=>exact .inr ⟨rfl,rfl⟩
 |bl b=>exact .inr ⟨rfl,rfl⟩
 |int i=>exact .inr ⟨rfl,rfl⟩
 |lst e=>exact .inl ⟨by simp[XJ,e],_,_,rfl,e,Y6 e⟩
 |tup e=>exact .inr ⟨by simp[XJ,e],by simp[Wb,e]⟩
 |dK e=>exact .inr ⟨by simp[XJ,e],by simp[Wb,e]⟩
def LS(H:Hp)(v:V)(ss:List Str):Prop:=∃a,v=.ref a/\H a=some (.lst (ss.map V.str))
def LI(H:Hp)(v:V)(ns:List Int):Prop:=∃a,v=.ref a/\H a=some (.lst (ns.map V.int))
def TS(H:Hp)(v:V)(ss:List Str):Prop:=∃a,v=.ref a/\H a=some (.tup (ss.map V.str))
def TIn(H:Hp)(v:V)(ns:List Int):Prop:=∃a,v=.ref a/\H a=some (.tup (ns.map V.int))
def LL(r:Hp->V->α->Prop)(H:Hp)(v:V)(xs:List α):Prop:=∃a vs,v=.ref a/\H a=some (.lst vs)/\vs.length=xs.length/\∀(i:Nat) v x,vs[i]?=some v->xs[i]?=some x->r H v x
def LT(r:Hp->V->α->Prop)(H:Hp)(v:V)(xs:List α):Prop:=∃a vs,v=.ref a/\H a=some (.tup vs)/\vs.length=xs.length/\∀(i:Nat) v x,vs[i]?=some v->xs[i]?=some x->r H v x
def Mon(r:Hp->V->α->Prop):Prop:=∀H H' v x,Ze H H'->r H v x->r H' v x
theorem LS.mono:Mon LS:=fun _ _ _ _ s ⟨a,e,h⟩=>⟨a,e,s _ _ h⟩
theorem LI.mono:Mon LI:=fun _ _ _ _ s ⟨a,e,h⟩=>⟨a,e,s _ _ h⟩
theorem TS.mono:Mon TS:=fun _ _ _ _ s ⟨a,e,h⟩=>⟨a,e,s _ _ h⟩
theorem TIn.mono:Mon TIn:=fun _ _ _ _ s ⟨a,e,h⟩=>⟨a,e,s _ _ h⟩
theorem LL.mono(m:Mon r):Mon (LL r):=fun _ _ _ _ s ⟨a,vs,e,h,l,q⟩=>⟨a,vs,e,s _ _ h,l,fun i v x h1 h2=>m _ _ _ _ s (q i v x h1 h2)⟩
theorem LT.mono(m:Mon r):Mon (LT r):=fun _ _ _ _ s ⟨a,vs,e,h,l,q⟩=>⟨a,vs,e,s _ _ h,l,fun i v x h1 h2=>m _ _ _ _ s (q i v x h1 h2)⟩
theorem Zs.hide{p:Addr}{H H':Hp}(s:Zs p H H'):Ze (hide p H) (hide p H'):=fun b o h=>
 let ⟨n,e⟩:=zV h
 XY n (s b o n e)
structure WD where
 signs:List (List Str)
 ways:List (List Int)
 starts:List Int
 fair:List Str
structure Wv(H:Hp)(s w st f:V)(d:WD):Prop where
 s:LL LS H s d.signs
 w:LL LI H w d.ways
 st:LI H st d.starts
 f:LS H f d.fair
theorem Wv.mono{H H':Hp}{s w st f:V}{d:WD}(e:Ze H H')(h:Wv H s w st f d):Wv H' s w st f d:=
 ⟨LL.mono LS.mono _ _ _ _ e h.s,LL.mono LI.mono _ _ _ _ e h.w,LI.mono _ _ _ _ e h.st,LS.mono _ _ _ _ e h.f⟩
structure JL(d:WD):Prop where
 n1:1<=d.signs.length
 n20:d.signs.length<=20
 wl:d.ways.length=d.signs.length
 sn:∀ss∈d.signs,ss.Nodup/\(∀x∈ss,Yo x=true)/\ss.length<=30
 wn:∀ns∈d.ways,ns.Nodup/\ns≠[]/\(∀x∈ns,0<=x/\x<d.signs.length)/\ns.length<=20
 stn:d.starts.Nodup/\d.starts≠[]/\(∀x∈d.starts,0<=x/\x<d.signs.length)/\d.starts.length<=20
 fn:d.fair.Nodup/\(∀x∈d.fair,Yo x=true)/\d.fair.length<=3
theorem vX{f:α->β}(hf:∀a b,f a=f b->a=b){l:List α}(h:l.Nodup):(l.map f).Nodup:=by
 unfold List.Nodup at *;rw[List.pairwise_map];exact h.imp fun q e=>q (hf _ _ e)
theorem Zds(a b:Str)(h:V.str a=V.str b):a=b:=V.str.inj h
theorem ZdT(a b:Int)(h:V.int a=V.int b):a=b:=V.int.inj h
theorem xT(h:Yo z=true):z.length<=8:=by
 unfold Yo at h;simp only[gb,ng] at h;exact h.1.2
theorem LS.kd{ss:List Str}(h:LS H v ss)(hl:ss.length<=1000)(hn:∀x∈ss,Yo x=true):KdL H v:=by
 obtain⟨a,rfl,e⟩:=h;refine⟨.lst e,fun xs q=>?_⟩;rw[Y6 e] at q;cases q;refine⟨by rw[fi];exact hl,fun y hy=>?_⟩;obtain⟨z,hz,rfl⟩:=fX.mp hy;exact .str z (fK (xT (hn z hz)) (by decide))
theorem LI.kd(h:LI H v ns)(hl:ns.length<=1000):KdL H v:=by
 obtain⟨a,rfl,e⟩:=h;refine⟨.lst e,fun xs q=>?_⟩;rw[Y6 e] at q;cases q;refine⟨by rw[fi];exact hl,fun y hy=>?_⟩;obtain⟨z,hz,rfl⟩:=fX.mp hy;exact .int z
theorem LS.names{ss:List Str}(h:LS H v ss)(nd:ss.Nodup)(hn:∀x∈ss,Yo x=true):Yi H v=true:=by
 obtain⟨a,rfl,e⟩:=h;unfold Yi;rw[Y6 e];simp only[gb,ng];refine⟨gT.mpr fun y hy=>?_,vX Zds nd⟩;obtain⟨z,hz,rfl⟩:=fX.mp hy;exact hn z hz
theorem LI.rooms(h:LI H v ns)(nd:ns.Nodup)(ne:ns≠[])(hn:∀x∈ns,0<=x/\x<(n:Int)):Z6 H n v=true:=by
 obtain⟨a,rfl,e⟩:=h;unfold Z6;rw[Y6 e];simp only[gb,ng];refine⟨⟨gT.mpr fun y hy=>?_,?_⟩,vX ZdT nd⟩
 ·obtain⟨z,hz,rfl⟩:=fX.mp hy;have:=hn z hz;simp[Y3,this.1,this.2]
 ·cases ns with
  |nil=>exact absurd rfl ne
  |cons y r=>rfl
theorem LL.kd{xs:List α}(h:LL r H v xs)(hl:xs.length<=1000)(q:∀v x,r H v x->x∈xs->KdL H v):Zbf H v:=by
 obtain⟨a,vs,rfl,e,l,k⟩:=h;refine⟨.lst e,fun ys z=>?_⟩;rw[Y6 e] at z;cases z;refine⟨by omega,fun y hy=>?_⟩;obtain⟨i,hi,rfl⟩:=gu hy;have hx:i<xs.length:=by omega
 exact q _ xs[i] (k i _ _ (fj hi) (fj hx)) (fN hx)
theorem LL.all{α:Type}{r:Hp->V->α->Prop}{H:Hp}{vs:List V}{xs:List α}{p:V->Bool}(l:vs.length=xs.length)(k:∀(i:Nat) v x,vs[i]?=some v->xs[i]?=some x->r H v x)(q:∀v x,r H v x->x∈xs->p v=true):vs.all p=true:=by
 refine gT.mpr fun y hy=>?_;obtain⟨i,hi,rfl⟩:=gu hy;have hx:i<xs.length:=by omega
 exact q _ xs[i] (k i _ _ (fj hi) (fj hx)) (fN hx)
theorem Wv.kd{H:Hp}{s w st f:V}{d:WD}(h:Wv H s w st f d)(g:JL d):Zbf H s/\Zbf H w/\KdL H st/\KdL H f:=by
 refine⟨h.s.kd (by have:=g.n20;omega) fun v x r m=>?_,h.w.kd (by have:=g.n20;have:=g.wl;omega) fun v x r m=>?_,h.st.kd (by have:=g.stn.2.2.2;omega),h.f.kd (by have:=g.fn.2.2;omega) g.fn.2.1⟩
 ·have:=g.sn x m;exact r.kd (by omega) this.2.1
 ·have:=g.wn x m;exact r.kd (by omega)
theorem Wv.makes{s w st f:V}{d:WD}(h:Wv H s w st f d)(g:JL d):Uj H s w st f=true:=by
 have hst:=h.st.rooms (n:=d.signs.length) g.stn.1 g.stn.2.1 g.stn.2.2.1;have hf:=h.f.names g.fn.1 g.fn.2.1;obtain⟨a,vs,rfl,e,l,k⟩:=h.s;obtain⟨b,ws,rfl,e2,l2,k2⟩:=h.w;obtain⟨c,rfl,e3⟩:=h.f;unfold Uj;rw[Y6 e,Y6 e2,Y6 e3];dsimp only;rw[l];have h1:vs.all (Yi H)=true:=LL.all l k fun v x r m=>r.names (g.sn x m).1 (g.sn x m).2.1;have h2:ws.all (Z6 H d.signs.length)=true:=LL.all l2 k2 fun v x r m=>r.rooms (g.wn x m).1 (g.wn x m).2.1 (g.wn x m).2.2.1;have:=g.n1;have:=g.n20;have:=g.wl;have:=g.fn.2.2;simp only[Zd3,gb,ng,fi];refine⟨⟨⟨⟨⟨by omega,by omega⟩,by omega⟩,h1⟩,h2⟩,hst,hf,by omega⟩
def wfs(t1 t2 t3 t4:V):List (Str×V):=[("room_signs",t1),("room_ways",t2),("start_rooms",t3),("fair_names",t4)]
theorem n12:¬(("room_signs" : Str) = "room_ways"):=by decide +kernel
theorem n13:¬(("room_signs" : Str) = "start_rooms"):=by decide +kernel
theorem n14:¬(("room_signs" : Str) = "fair_names"):=by decide +kernel
theorem n23:¬(("room_ways" : Str) = "start_rooms"):=by decide +kernel
theorem n24:¬(("room_ways" : Str) = "fair_names"):=by decide +kernel
theorem n34:¬(("start_rooms" : Str) = "fair_names"):=by decide +kernel
theorem put1(t1:V):Yz "room_signs" t1 []=([("room_signs",t1)]:List (Str×V)):=rfl
theorem put2(t1 t2:V):Yz "room_ways" t2 ([("room_signs",t1)]:List (Str×V))=([("room_signs",t1),("room_ways",t2)]:List (Str×V)):=by simp only[Yz,if_neg n12]
theorem put3(t1 t2 t3:V):Yz "start_rooms" t3 ([("room_signs",t1),("room_ways",t2)]:List (Str×V))=([("room_signs",t1),("room_ways",t2),("start_rooms",t3)]:List (Str×V)):=by simp only[Yz,if_neg n13,if_neg n23]
theorem put4(t1 t2 t3 t4:V):Yz "fair_names" t4 ([("room_signs",t1),("room_ways",t2),("start_rooms",t3)]:List (Str×V))=wfs t1 t2 t3 t4:=by simp only[Yz,if_neg n14,if_neg n24,if_neg n34,wfs]
structure Z0(C:Addr)(H:Hp)(p:Addr)(d:WD):Prop where
 ex:∃dx t1 t2 t3 t4,H p=some (.ins C dx (wfs t1 t2 t3 t4))/\LT TS H t1 (d.signs.map Wm)/\LT TIn H t2 (d.ways.map Yc)/\TIn H t3 (Yc d.starts)/\TS H t4 d.fair
theorem Z0.mono{C:Addr}{H H':Hp}{p:Addr}{d:WD}(s:Ze H H')(h:Z0 C H p d):Z0 C H' p d:=by
 obtain⟨dx,t1,t2,t3,t4,e,h1,h2,h3,h4⟩:=h.ex;exact⟨dx,t1,t2,t3,t4,s _ _ e,LT.mono TS.mono _ _ _ _ s h1,LT.mono TIn.mono _ _ _ _ s h2,TIn.mono _ _ _ _ s h3,TS.mono _ _ _ _ s h4⟩
theorem Zbi{a b:Str}(h:¬a=b):(a==b)=false:=by simpa using h
theorem J9(t1 t2 t3 t4:V):(wfs t1 t2 t3 t4).lookup ("room_signs" : Str)=some t1:=by simp[wfs,gm]
theorem Zdm(t1 t2 t3 t4:V):(wfs t1 t2 t3 t4).lookup ("room_ways" : Str)=some t2:=by simp[wfs,gm,Zbi (fun e=>n12 e.symm)]
theorem ZfO(t1 t2 t3 t4:V){m:Str}(h1:¬m = "room_signs")(h2:¬m = "room_ways")(h3:¬m = "start_rooms")(h4:¬m = "fair_names"):(wfs t1 t2 t3 t4).lookup m=none:=by simp[wfs,gm,Zbi h1,Zbi h2,Zbi h3,Zbi h4]
theorem New.hidden(h:H p=some o):Ze (New H H') (hide p H'):=fun b u e=>
 let ⟨h1,h2⟩:=New.of e
 XY (fun z=>by subst z;rw[h] at h1;cases h1) h2
theorem LS.hid{fs:List (Str×V)}{ss:List Str}(hp:H p=some (.ins C dx fs))(h:LS H v ss):LS (hide p H) v ss:=by
 obtain⟨a,rfl,e⟩:=h;exact⟨a,rfl,XY (VE e hp (by intro z;cases z)) e⟩
theorem LI.hid{fs:List (Str×V)}{ss:List Int}(hp:H p=some (.ins C dx fs))(h:LI H v ss):LI (hide p H) v ss:=by
 obtain⟨a,rfl,e⟩:=h;exact⟨a,rfl,XY (VE e hp (by intro z;cases z)) e⟩
theorem LL.hid{fs:List (Str×V)}{xs:List α}(hp:H p=some (.ins C dx fs))(m:∀v x,r H v x->r (hide p H) v x)(h:LL r H v xs):LL r (hide p H) v xs:=by
 obtain⟨a,vs,rfl,e,l,q⟩:=h;exact⟨a,vs,rfl,XY (VE e hp (by intro z;cases z)) e,l,fun i v x h1 h2=>m _ _ (q i v x h1 h2)⟩
theorem Wv.hid{H:Hp}{p C dx:Addr}{fs:List (Str×V)}{s w st f:V}{d:WD}(hp:H p=some (.ins C dx fs))(h:Wv H s w st f d):Wv (hide p H) s w st f d:=
 ⟨h.s.hid hp fun _ _ r=>r.hid hp,h.w.hid hp fun _ _ r=>r.hid hp,h.st.hid hp,h.f.hid hp⟩
theorem vR{r:Hp->V->β->Prop}{f:α->β}{a:Addr}{ys:List V}{xs:List α}(h:H a=some (.tup ys))(l:ys.length=xs.length)(q:∀(i:Nat) v,ys[i]?=some v->∀x,xs[i]?=some x->r H v (f x)):LT r H (.ref a) (xs.map f):=by
 refine⟨a,ys,rfl,h,by rw[fi,l],fun i v x h1 h2=>?_⟩;rw[fw] at h2;cases e:xs[i]? with
 |none=>rw[e] at h2;cases h2
 |some y=>
  rw[e] at h2;cases h2;exact q i v h1 y e
end L3
variable{d:L3.WD}
namespace L3
open PySem PySem.Spec L2
def dI(ns:List Int):PyData:=.list (ns.map PyData.int)
def dS(ss:List Str):PyData:=.list (ss.map PyData.str)
def Ug(n:Nat)(d:PyData):Prop:=d.canLay0=true/\d.depth<=n
theorem QX{f:α->PyData}{xs:List α}(h:∀x∈xs,Ug n (f x)):PyData.canLayAll0 (xs.map f)=true/\PyData.depthAll (xs.map f)<=n:=by
 induction xs with
 |nil=>exact⟨by simp[PyData.canLayAll0],by simp[PyData.depthAll]⟩
 |cons x r ih=>
  obtain⟨a,b⟩:=ih fun y hy=>h y (fS _ hy);obtain⟨c,d⟩:=h x im;rw[fP];exact⟨by rw[PyData.canLayAll0,c,a];rfl,by rw[PyData.depthAll];exact Nat.max_le.mpr ⟨d,b⟩⟩
theorem QP{f:α->PyData}{xs:List α}(h:∀x∈xs,Ug n (f x)):Ug (n+1) (.list (xs.map f)):=by
 obtain⟨a,b⟩:=QX h;exact⟨by rw[PyData.canLay0];exact a,by rw[PyData.depth];omega⟩
theorem Zco(ns:List Int):Ug 1 (dI ns):=QP fun x _=>⟨by simp[PyData.canLay0],by simp[PyData.depth]⟩
theorem Qw(h:Yo z=true):PyData.strOk z=true:=by
 unfold Yo at h;rw[gb] at h;have h2:=gT.mp h.2;unfold PyData.strOk;rw[Array.all_eq_true_iff_forall_mem];intro x hx;have:=h2 x (Array.mem_toList_iff.mpr hx);unfold yf at this;have:=fT this;exact gz (by omega)
theorem Ug.up{m:Nat}{d:PyData}(h:Ug n d)(l:n<=m):Ug m d:=⟨h.1,fK h.2 l⟩
section
variable{K:W.Frag}{H:Hp}
theorem zO{α:Type}{g:α->V}{f:α->PyData}(h:∀x,Dp K H (g x) (f x)):∀xs:List α,Wg K H (xs.map g) (xs.map f)
 |[]=>.nil
 |x::r=>.cons (h x) (zO h r)
theorem Kl{α:Type}{r:Hp->V->α->Prop}{f:α->PyData}(h:∀v x,r H v x->Dp K H v (f x)):∀(vs:List V) (xs:List α),vs.length=xs.length->(∀(i:Nat) v x,vs[i]?=some v->xs[i]?=some x->r H v x)->Wg K H vs (xs.map f)
 |[],[],_,_=>.nil
 |[],x::xs,l,_=>by simp at l
 |v::vs,[],l,_=>by simp at l
 |v::vs,x::xs,l,q=>.cons (h v x (q 0 v x rfl rfl)) (Kl h vs xs (by simpa using l) fun i v x h1 h2=>q (i+1) v x (by simpa using h1) (by simpa using h2))
theorem LI.dp(h:LI H v ns):Dp K H v (dI ns):=by
 obtain⟨a,rfl,e⟩:=h;exact .lst (nV e) (zO (fun x=>.int x) ns)
end
theorem qP{d:PyData}(h:Ug n d):PyData.eqv d d=true:=SeqAt.eqv_refl d h.1
theorem Zd4{x:V}{d:PyData}{Q:VK}(f:Ug n d)(hn:n<=60)(h1:Dp K H x d)(h2:Dp K H y d)(q:Q (.bl true) H):JU K false x y H Q:=
 ⟨d,d,h1,h2,f.1,f.1,fK f.2 hn,by rw[qP f];exact q⟩
theorem xU{x:V}{d:PyData}{Q:VK}(f:Ug n d)(hn:n<=60)(h1:Dp K H x d)(h2:Dp K H y d)(q:Q (.bl false) H):JU K true x y H Q:=
 ⟨d,d,h1,h2,f.1,f.1,fK f.2 hn,by rw[qP f];exact q⟩
theorem Zs.updN(s:Zs p H H')(h:H D=none):Zs p H (L2.upd H' D o):=fun b u n e=>by
 rw[Zx (ZW e h)];exact s b u n e
theorem Zs.free(s:Zs p H H')(np:D≠p)(h:H' D=none):H D=none:=by
 cases e:H D with
 |none=>rfl
 |some o=>rw[s D o np e] at h;cases h
theorem jI{ss:List Str}:inV (.str z) (ss.map V.str)=true↔z∈ss:=by
 unfold inV;rw[List.any_map,List.any_eq_true];constructor
 ·rintro⟨y,hy,e⟩;have e':(y==z)=true:=e;rw[iZ] at e';exact e'▸hy
 ·intro hz;exact⟨z,hz,by show(z==z)=true;simp⟩
theorem zN(ss:List Str):(ss.map V.str).all qd=true:=by
 rw[List.all_map];exact gT.mpr fun _ _=>rfl
theorem Wk{F:Addr}{o':HO}(h:H p=some o)(n:p≠F):upd H F o' p=some o:=by rw[Zx n];exact h
theorem Zbn(h:H p=some o)(n:H D=none):p≠D:=fun e=>by rw[e,n] at h;cases h
theorem Z0.at(h:Z0 C H p d){m:Str}(h1:¬m = "room_signs")(h2:¬m = "room_ways")(h3:¬m = "start_rooms")(h4:¬m = "fair_names"):∃dx fs,H p=some (.ins C dx fs)/\fs.lookup m=none:=by
 obtain⟨dx,t1,t2,t3,t4,e,_⟩:=h.ex;exact⟨dx,_,e,ZfO _ _ _ _ h1 h2 h3 h4⟩
theorem yy(h:Z0 C H p d):∃dx fs,H p=some (.ins C dx fs)/\fs.lookup ("many" : Str)=none:=h.at (by decide +kernel) (by decide +kernel) (by decide +kernel) (by decide +kernel)
theorem UM(h:Z0 C H p d):∃dx fs,H p=some (.ins C dx fs)/\fs.lookup ("signs_of" : Str)=none:=h.at (by decide +kernel) (by decide +kernel) (by decide +kernel) (by decide +kernel)
theorem qG(h:Z0 C H p d):∃dx fs,H p=some (.ins C dx fs)/\fs.lookup ("ways_on" : Str)=none:=h.at (by decide +kernel) (by decide +kernel) (by decide +kernel) (by decide +kernel)
theorem QK{x:V}(h:((L3.upTo (n:Int)).map V.int)[i]?=some x):x=.int (i:Nat)/\i<n:=by
 unfold L3.upTo at h;rw[gB,ge] at h;rw[fw] at h;cases e:(List.range n)[i]? with
 |none=>rw[e] at h;cases h
 |some k=>
  rw[e] at h;obtain⟨hi,e2⟩:=fD.mp e;rw[List.getElem_range] at e2;subst e2;cases h;rw[fY] at hi;exact⟨rfl,hi⟩
theorem xo(n:Nat):((L3.upTo (n:Int)).map V.int).length=n:=by
 unfold L3.upTo;rw[fi,fi,fY,ge]
theorem Z0.keep(k:∀b o,(∀xs,o≠.lst xs)->H b=some o->H' b=some o)(h:Z0 C H p d):Z0 C H' p d:=by
 have kt:∀b xs,H b=some (.tup xs)->H' b=some (.tup xs):=fun b xs e=>k b _ (fun _ z=>by cases z) e;have ks:∀v x,TS H v x->TS H' v x:=fun v x ⟨a,e,h⟩=>⟨a,e,kt _ _ h⟩;have ki:∀v x,TIn H v x->TIn H' v x:=fun v x ⟨a,e,h⟩=>⟨a,e,kt _ _ h⟩;obtain⟨dx,t1,t2,t3,t4,e,⟨a1,w1,f1,g1,l1,q1⟩,⟨a2,w2,f2,g2,l2,q2⟩,h3,h4⟩:=h.ex;exact⟨dx,t1,t2,t3,t4,k _ _ (fun _ z=>by cases z) e,⟨a1,w1,f1,kt _ _ g1,l1,fun i v x r1 r2=>ks _ _ (q1 i v x r1 r2)⟩,⟨a2,w2,f2,kt _ _ g2,l2,fun i v x r1 r2=>ki _ _ (q2 i v x r1 r2)⟩,ki _ _ h3,ks _ _ h4⟩
open PyProof.Rows
theorem neA{a b:Nat}(h:a<b\/b<a):(a:Addr)≠b:=fun e=>by subst e;omega
theorem ZcR(I l1 l2:Nat)(h1:l1<I)(h2:l2<I):ZipApart (I+4) (I+2) (I+3) I (I+1) l1 l2:=by
 constructor<;>(refine neA ?_;omega)
theorem ZM.take{xs:List V}{us:List Value}(h:ZM xs us)(k:Nat):ZM (xs.take k) (us.take k):=by
 induction k generalizing xs us with
 |zero=>exact .nil
 |succ k ih=>
  cases h with
  |nil=>exact .nil
  |cons r t=>exact .cons r (ih t)
theorem ZM.drop{xs:List V}{us:List Value}(h:ZM xs us)(k:Nat):ZM (xs.drop k) (us.drop k):=by
 induction k generalizing xs us with
 |zero=>exact h
 |succ k ih=>
  cases h with
  |nil=>exact .nil
  |cons r t=>exact ih t
theorem ZM.set{xs:List V}{us:List Value}{y:V}{u:Value}(h:ZM xs us)(ry:ZZ y u)(k:Nat):ZM (xs.set k y) (us.set k u):=by
 induction k generalizing xs us with
 |zero=>
  cases h with
  |nil=>exact .nil
  |cons r t=>exact .cons ry t
 |succ k ih=>
  cases h with
  |nil=>exact .nil
  |cons r t=>exact .cons r (ih t)
theorem Inv.big(I:L2.Inv X cQ U H s):sysModules<s.heap.objs.size:=by
 have h:mainGlobals<s.heap.objs.size:=(I.mod.glob.keeps I.bk).lt;exact Nat.lt_trans (by decide) h
theorem zq(h:Heap)(hb:sysModules<h.objs.size):YI P w H (h.push { cls:=.type "dict",data:=.dict #[] }) h.objs.size (.dK []):=
 ⟨gk _,iW.mpr (fJ (fE hb)),[],.nil,Heap.DictOf.new h⟩
def KY:TE:=fun _ H Q=>∀p,H p=none->Q (.ref p) (upd H p (.dK []))
theorem pe_dnewK:PE X (.Dict [] [] pos) KY:=fun cQ s U H Q I h=>
 wpAny_Dict_empty ⟨.ref s.heap.objs.size,_,I.laid (a:=s.heap.objs.size) (o:=.dK []) (t':=s.toks) (fun _ _ q=>fz _ q) (fh _) (zq s.heap (Inv.big I)),rfl,h _ (I.hok.fresh (fh _))⟩
theorem yq{l:Addr}{k:Int}{t:Tok}{v:Value}{Q:Unit->Shared->Prop}(e:s.heap.get? l=some { cls:=.type "list",data:=.seq items n })
  (h0:0<=k) (hfit:k<2 ^ 63) (hn:k<items.size) (hQ:Q () { s with heap:=s.heap.update l (Obj.mapSeq (·.setIfInBounds k.toNat v)) }) :
  wpAny (model prog w) A (setItem (.ref l) (.int k t) v) Q E s:=by
 have hl:s.heap.IsList l items:=⟨_,e,rfl,n,rfl⟩;obtain⟨o,ho,hc,ne,hd⟩:=id hl;have eo:o={ cls:=.type "list",data:=.seq items n }:=fO (ho.symm.trans e);unfold setItem
 try with_reducible refine gW ?_
 first|refine fg (fq ?_)|skip
 refine fg (wpAny_sequenceKey hl.typeIs (by decide) ?_);refine fg (i7 (name:=Str.ofString "__setitem__") hl.typeIs slot_list_setitem
  (ia slot_list_setitem hl.typeIs entry_list_setitem ?_ (args_list_setitem _ _ _)))
 show wpAny _ _ (Builtin.List.listSubscript? (.int k t) >>= _) _ _ s
 refine fg (wpAny_listSubscript_int (fitsIndex_of h0 hfit) ?_);clear hfit;obtain⟨j,rfl⟩:=ml h0;have hj:j<items.size:=by omega
 have hx':items[j]?=some items[j]:=nJ hj
 show wpAny _ _ ((seqItemAt l j >>= fun r=>pure (r.map (j,·))) >>= _) _ _ s
 refine fg (fg (wpAny_seqItemAt ho hd (fq ?_)));rw[hx']
 show wpAny _ _ (setSeqItemAt l j v >>= _) _ _ s
 refine fg (wpAny_setSeqItemAt ho hd ?_)
 first
  |exact fg (fq (fq ⟨.none,rfl,fq hQ⟩))
  |exact fq ⟨.none,rfl,fq hQ⟩
def Zgx(tv to ti:TE):L2.TS:=fun D U H=>tv U H fun y H1=>to U H1 fun x H2=>ti U H2 fun k H3=>∃l xs j,x=.ref l/\k=.int (j:Nat)/\H3 l=some (.lst xs)/\j<xs.length/\D.nx U (upd H3 l (.lst (xs.set j y)))
theorem jR{o i:Expr}{to ti tv:TE}(hv:PE X e tv)(ho:PE X o to)(hi:PE X i ti)(hs:swapsWith e (some (.Subscript o i pos')) pos.line X.env=pure false:=by rfl):PS X (.Assign [.Subscript o i pos'] e pos) (Zgx tv to ti):=by
 intro cQ s U H D I h;refine wpAny_Assign_Subscript (thn (hv cQ s U H _ I h) fun v s1 ⟨y,H1,I1,r1,q1⟩=>thn (ho cQ s1 U H1 _ I1 q1) fun ov s2 ⟨x,H2,I2,r2,q2⟩=>thn (hi cQ s2 U H2 _ I2 q2) fun iv s3 ⟨k,H3,I3,r3,q3⟩=>?_) hs;obtain⟨l,xs,j,rfl,rfl,hH,hj,q⟩:=q3;cases r2;obtain⟨t,rfl⟩:=(show ∃t,iv=Value.int (j:Nat) t from r3);obtain⟨z,its,n,r,hl,e⟩:=I3.lstM hH;refine yq e (Int.natCast_nonneg j) (by rw[ft] at z;omega) (by rw[fL];omega) ?_;refine⟨U,_,I3.lset (its':=its.set j v) (t':=s3.toks) hH e (by simp) (ZM.set r r1 j) (by rw[List.length_set];exact z),q⟩
theorem UY{a:Expr}{ta:TE}(hK:X.K=K)(ha:PE X a ta)(he:∀whole,isTrue a X.env whole=(do let v <- whole;standAt a.pos;holding [v] (truthy v))) :
  PT X a (fun U H Q=>ta U H fun x H'=>∃k,ZeZ K x H' k/\Q k H'):=by subst hK;exact Zbv ha he
theorem Y4{g:TG}{tb:L2.TS}{D:Kj}(Pv:Nat->St->Hp->Prop)(h0:Pv 0 U H)(hgo:∀i U H,i<n->Pv i U H->J.go i H)(hst:∀U H,Pv n U H->J.stop n H)
  (hs:∀i x U H H2,i<n->Pv i U H->J.yld i H x H2->g x U H2 fun σ2 H3=>tb { D with nx:=Pv (i+1),ct:=Pv (i+1),bk:=D.nx } σ2 H3) (hd:∀U H,Pv n U H->D.nx U H) :
  ∃W:Nat->Nat->St->Hp->Prop,(∃m,W 0 m U H)/\∀i m U H,W i m U H ->
   (J.stop i H/\D.nx U H)\/(J.go i H/\∃N:St->Hp->Prop,(∀σ' H',N σ' H'->∃m',m'<m/\W (i+1) m' σ' H')/\∀x H',J.yld i H x H'->g x U H' fun σ2 H2=>tb { D with nx:=N,ct:=N,bk:=D.nx } σ2 H2):=by
 refine⟨fun i m U H=>m=n-i/\i<=n/\Pv i U H,⟨n,by simp,gk _,h0⟩,?_⟩;rintro i m U H ⟨rfl,hi,p⟩
 by_cases hlt:i<n
 ·exact .inr ⟨hgo i U H hlt p,Pv (i+1),fun σ' H' p'=>⟨n-(i+1),by omega,rfl,hlt,p'⟩,fun x H' y=>hs i x U H H' hlt p y⟩
 ·have e:i=n:=by omega
  subst e;exact .inl ⟨hst U H p,hd U H p⟩
def xC(d:WD)(r:Int):List Str:=(d.signs[r.toNat]?).getD []
theorem zt{z:Int}{ss:List Int}:inV (.int z) (ss.map V.int)=decide (z∈ss):=by
 rw[iY,lQ];unfold inV;rw[List.any_map,List.any_eq_true];constructor
 ·rintro⟨y,hy,e⟩;have e':(y==z)=true:=e;rw[iZ] at e';exact e'▸hy
 ·intro hz;exact⟨z,hz,by show(z==z)=true;simp⟩
theorem VZ(ss:List Int):(ss.map V.int).all qd=true:=by
 rw[List.all_map];exact gT.mpr fun _ _=>rfl
theorem Zf6{xs:List Int}(h:i<xs.length):(xs.map V.int)[i]?=some (.int (xs.getD i 0)):=by
 simp[List.getD,h]
theorem Wt(xs:List V)(k:Nat)(h:k<=xs.length):Vi xs (some (k:Int)) none=xs.drop k:=by
 unfold Vi;rw[HT.sIx_nat,HT.sIx_none,mH h];exact mI (by rw[g6];omega)
theorem QS(xs:List V)(k:Nat)(h:k<=xs.length):Vi xs none (some (k:Int))=xs.take k:=by
 unfold Vi;rw[HT.sIx_nat,HT.sIx_none,mH h];simp
theorem ZaZ(s:Ze H H')(h:Kd H v):XJ H' T v=XJ H T v:=by
 cases h with
 |non=>rfl
 |bl b=>rfl
 |int i=>rfl
 |str z hz=>rfl
 |lst e=>simp only[XJ,e,s _ _ e]
 |tup e=>simp only[XJ,e,s _ _ e]
 |dK e=>simp only[XJ,e,s _ _ e]
theorem Z0.x{C:Addr}{H H':Hp}{p w:Addr}{zs:List V}{d:WD}(hp:H p=some (.lst zs))(x:Zs p H H')(h:Z0 C H w d):Z0 C H' w d:=
 h.keep fun b o ho hb=>x b o (fun e=>by subst e;rw[hp] at hb;cases hb;exact ho _ rfl) hb
def dR(way ring:List Int):PyData:=.tuple [dI way,dI ring]
theorem Zgr(way ring:List Int):Ug 2 (dR way ring):=by
 have a:=Zco way;have b:=Zco ring;refine⟨by simp[dR,PyData.canLay0,PyData.canLayAll0,a.1,b.1],?_⟩;have:=a.2;have:=b.2;simp only[dR,PyData.depth,PyData.depthAll];omega
theorem dpR{t p1 p2:Addr}(ht:H t=some (.tup [.ref p1,.ref p2]))(h1:H p1=some (.lst (way.map V.int)))(h2:H p2=some (.lst (ring.map V.int))):Dp K H (.ref t) (dR way ring):=
 .tup (nX ht) (.cons (LI.dp ⟨p1,rfl,h1⟩) (.cons (LI.dp ⟨p2,rfl,h2⟩) .nil))
def free(c:Nat)(z:Str):Prop:=c∉z.cps.toList
mutual
theorem Dp.mono{K:W.Frag}{H H':Hp}(s:Ze H H'):∀{v:V}{d:PyData},Dp K H v d->Dp K H' v d
 |_,_,.non=>.non
 |_,_,.bl b=>.bl b
 |_,_,.int i=>.int i
 |_,_,.str x=>.str x
 |_,_,.lst h hs=>.lst (s.seq h) (Wg.mono s hs)
 |_,_,.tup h hs=>.tup (Ze.seqT s h) (Wg.mono s hs)
theorem Wg.mono{K:W.Frag}{H H':Hp}(s:Ze H H'):∀{vs:List V}{ds:List PyData},Wg K H vs ds->Wg K H' vs ds
 |_,_,.nil=>.nil
 |_,_,.cons h hs=>.cons (Dp.mono s h) (Wg.mono s hs)
end
def dT(d:WD):PyData:=.list (d.signs.map dS++d.ways.map dI++[dI d.starts,dS d.fair])
theorem ZcK{xs:List α}{k:Nat}(h1:1<=k)(h2:k<=xs.length):atI xs (-(k:Int))=xs[xs.length-k]?:=by
 have e:ixN xs.length (-(k:Int))=some (xs.length-k):=by
  unfold ixN;rw[if_neg (by omega),if_pos (by omega)]
  congr 1
  omega
 unfold atI;rw[e];rfl
open PySem.Calls PySem.W Builtin Builtin.ObjectAttr Builtin.Getset_descriptor
section
variable{w:PySem.World}{g:Array GenState}{d:Drawn}{t:Nat}{os:OsState}{K:Frag}{a:Addr}
structure ZfU(K:Frag)(C:Addr):Prop where
 ga:findIn K (.ref C) "__getattribute__" = some (some (.builtin "BaseException.__getattribute__"))
 gh:findIn K (.ref C) "__getattr__" = some none
 ob:mroIn K C (.type "object")=some true
 be:mroIn K C (.type "BaseException")=some true
 cl:findIn K (.ref C) "__class__" = some (some (.builtin "object.__class__"))
 gt:specialIn K (.builtin "object.__class__") "__get__" = some (some (.builtin "getset_descriptor.__get__"))
 tk:takesIn K (.builtin "object.__class__")=some true
 hd:hasDictIn K C=true
end
section
variable{es:List Expr}{t:TA}
end
def Zd9:Expr->Bool
 |.Starred _ _=>true
 |_=>false
theorem ZeP{es:List Expr}(h:Zd9 e=false):starEach (e::es) env=(false,eval e env)::starEach es env:=by
 cases e<;>first|rfl|cases h
theorem Zq{es:List Expr}{t:TA}(ha:PE X e te)(hr:PA X es t)(h:Zd9 e=false:=by rfl):PA X (e::es) (kZ te t):=Za ha hr (ZeP h)
theorem KJ:∀(names:List (Str×NameKind)) (n:Nat) (a b:List (Str×Addr)),cellsFrom n names (a++b)=cellsFrom n names a++b
 |[],_,_,_=>rfl
 | (x,k)::r,n,a,b=>by
  unfold cellsFrom
  split
  ·exact KJ r (n+1) ((x,n)::a) b
  ·exact KJ r n a b
theorem KQ:∀(names:List (Str×NameKind)) (n:Nat) (acc:List (Str×Addr)) (x:Str) (c:Addr),(x,c)∈cellsFrom n names acc->(x,c)∈acc\/(x,NameKind.cell)∈names
 |[],_,_,_,_,h=>.inl h
 | (y,k)::r,n,acc,x,c,h=>by
  unfold cellsFrom at h
  split at h
  ·rename_i hk
   rcases KQ r _ _ _ _ h with q|q
   ·rcases fF.mp q with q|q
    ·cases q;have:k=.cell:=by simpa using hk
     subst this;exact .inr im
    ·exact .inl q
   ·exact .inr (fS _ q)
  ·rcases KQ r _ _ _ _ h with q|q
   ·exact .inl q
   ·exact .inr (fS _ q)
theorem kF:∀(names:List (Str×NameKind)) (n:Nat) (acc:List (Str×Addr)) (x:Str),((x,NameKind.cell)∈names\/∃c,acc.lookup x=some c)->∃c,(cellsFrom n names acc).lookup x=some c
 |[],_,_,_,h=>by
  rcases h with h|h
  ·cases h
  ·exact h
 | (y,k)::r,n,acc,x,h=>by
  unfold cellsFrom;have up:∀c0,(∃c,acc.lookup x=some c)->∃c,List.lookup x ((y,c0)::acc)=some c:=fun c0 ⟨c,e⟩=>by
   rw[gm];cases x==y
   ·exact⟨c,e⟩
   ·exact⟨_,rfl⟩
  split
  ·rename_i hk
   refine kF r _ _ _ ?_;rcases h with h|h
   ·rcases fF.mp h with h|h
    ·cases h;exact .inr ⟨_,by rw[gm,beq_self_eq_true]⟩
    ·exact .inl h
   ·exact .inr (up _ h)
  ·rename_i hk
   refine kF r _ _ _ ?_;rcases h with h|h
   ·rcases fF.mp h with h|h
    ·cases h;exact absurd rfl hk
    ·exact .inl h
   ·exact .inr h
def zg(scope:Scope)(env:Env)(L:Addr):List (Str×Addr):=cellsFrom (L+1) scope.names []++Y7 scope env
theorem Wy{L:Addr}{x:Str}{c:Addr}(h:(zg scope env L).lookup x=some c):(cellsFrom (L+1) scope.names []).lookup x=some c\/((cellsFrom (L+1) scope.names []).lookup x=none/\(Y7 scope env).lookup x=some c):=by
 unfold zg at h;rw[List.lookup_append] at h;cases e:(cellsFrom (L+1) scope.names []).lookup x with
 |none=>rw[e] at h;exact .inr ⟨rfl,h⟩
 |some d=>rw[e] at h;exact .inl h
theorem xb{L:Addr}{x:Str}{c:Addr}(h:(cellsFrom (L+1) scope.names []).lookup x=some c):(zg scope env L).lookup x=some c:=by
 unfold zg;rw[List.lookup_append,h];rfl
theorem Je{L:Addr}{x:Str}{c:Addr}(h0:(cellsFrom (L+1) scope.names []).lookup x=none)(h:(Y7 scope env).lookup x=some c):(zg scope env L).lookup x=some c:=by
 unfold zg;rw[List.lookup_append,h0,h];rfl
theorem Ju{L:Addr}{x:Str}{c:Addr}(h:(Y7 scope env).lookup x=some c):∃d,(zg scope env L).lookup x=some d:=by
 cases e:(cellsFrom (L+1) scope.names []).lookup x with
 |none=>exact⟨c,Je e h⟩
 |some d=>exact⟨d,xb e⟩
theorem Zaa(h:Heap)(names:List (Str×NameKind)):(pushCells (h.push { cls:=.type "dict",data:=.dict #[] }) names).Ns h.objs.size (fun _=>none)/\(∀b o,h.get? b=some o->(pushCells (h.push { cls:=.type "dict",data:=.dict #[] }) names).get? b=some o) /\
  (∀x c,(cellsFrom (h.objs.size+1) names []).lookup x=some c->(pushCells (h.push { cls:=.type "dict",data:=.dict #[] }) names).IsCell c none/\h.objs.size+1<=c)/\(cellsFrom (h.objs.size+1) names []).Pairwise fun x y=>x.2≠y.2:=by
 have ok:=cellsFrom_ok names (h.push { cls:=.type "dict",data:=.dict #[] }) (h.objs.size+1) [] ⟨fun _ _ hm=>(nomatch hm),List.Pairwise.nil⟩ (by rw[ie];exact fh _);rw[ie] at ok;exact⟨(Heap.Ns.new h (.type "dict")).keeps (pushCells_keeps _ _),fun b o e=>pushCells_keeps _ _ b o (fz _ e),fun n c hc=>ok.empty n c (gy hc),ok.apart⟩
theorem Kr{globals:Addr}{outer:Env}{Q:Env->Shared->Prop}
  (hQ:Q (newEnv scope s.heap.objs.size globals (cellsFrom (s.heap.objs.size+1) scope.names []++cl) qual none .none (some outer) builtinsNs) { s with heap:=pushCells (s.heap.push { cls:=.type "dict",data:=.dict #[] }) scope.names }) :
  wpAny M A (newFunctionEnv scope globals cl [] qual none .none (some outer)) Q E s:=by
 simp only[newFunctionEnv,Option.isSome_some,gZ];refine fg (wpAny_alloc ?_);refine fg (wpAny_layCells _ (fun name kind cells=>by cases hkc:kind==NameKind.cell<;>simp[hkc]) _ _ _ _ ?_);rw[show({ s with heap:=s.heap.push { cls:=.type "dict",data:=.dict #[] } }:Shared).heap.objs.size=s.heap.objs.size+1 from ie ..];rw[List.forIn_nil];refine fg (fq (fq ?_));have e:=KJ scope.names (s.heap.objs.size+1) [] cl;rw[lJ] at e;rw[e];exact hQ
structure Wj(sc:Scope)(N Nc:List Str)(ix:List (Option Nat))(scope:Scope):Prop where
 kind:scope.kind=.function
 cells:∀y∈scope.names,y.2=.cell->scope.names.lookup y.1=some .cell
 names:∀y∈scope.names,y.2=.local->scope.names.lookup y.1=some .local
 free:∀y∈scope.names,y.2=.free->sc.names.lookup y.1=some .cell\/sc.names.lookup y.1=some .free
 len:ix.length=Nc.length
 chk:((ix.zip Nc).all fun p=>match p.1 with|none=>true|some j=>N[j]?==some p.2&&scope.names.lookup p.2==some .free)=true
theorem Wj.at_(o:Wj sc N Nc ix scope){x:Str}(h1:ix[i]?=some (some j))(h2:Nc[i]?=some x):N[j]?=some x/\scope.names.lookup x=some .free:=by
 have hm:(some j,x)∈ix.zip Nc:=by
  refine fU (i:=i) ?_;rw[lg];exact⟨h1,h2⟩
 have q:=gT.mp o.chk _ hm;have q':=gb _ _▸q;exact⟨by simpa using q'.1,by simpa using q'.2⟩
def qX(sc:Scope)(N Nc:List Str)(ix:List (Option Nat))(scope:Scope):Bool:=
 decide (scope.kind=.function)&&scope.names.all (fun y=>decide (y.2=.cell->scope.names.lookup y.1=some .cell))&&scope.names.all (fun y=>decide (y.2=.local->scope.names.lookup y.1=some .local)) &&
 scope.names.all (fun y=>decide (y.2=.free->sc.names.lookup y.1=some .cell\/sc.names.lookup y.1=some .free))&&decide (ix.length=Nc.length) &&
 (ix.zip Nc).all fun p=>match p.1 with|none=>true|some j=>N[j]?==some p.2&&scope.names.lookup p.2==some .free
theorem Wj.of(h:qX sc N Nc ix scope=true):Wj sc N Nc ix scope:=by
 unfold qX at h;simp only[gb] at h;obtain⟨⟨⟨⟨⟨h1,h2⟩,h3⟩,h4⟩,h5⟩,h6⟩:=h;exact⟨fT h1,fun y hy=>fT (gT.mp h2 y hy),fun y hy=>fT (gT.mp h3 y hy),fun y hy=>fT (gT.mp h4 y hy),fT h5,h6⟩
def Zcb(scope sc:Scope):Scope:={ scope with names:=scope.names.map fun(n,k)=>if(k==.free&&sc.kind==.function&&sc.names.lookup n==some .cell) then(n,.cell) else(n,k) }
theorem ZL.ofR{scO scI sc0:Scope}(hs:env.scope=sc0)(h:ZS (Zcb scO sc0) N Nc ix scI=true):ZL (relabel scO env) N Nc ix scI:=by
 subst hs;exact ZL.of h
def WB(X:Cx)(Nc:List Str)(scope:Scope)(cl:List (Str×Addr))(C:Addr)(s:Shared)(H:Hp)(fp:List Addr):Cx where
 prog:=X.prog
 w:=X.w
 K:=X.K
 mg:=X.mg
 base:=X.base
 A:=X.A
 N:=Nc
 s₀:=s
 H₀:=H
 env:=compEnvC scope cl C X.env
 outer:=X.stack
 stack:=X.stack
 ex:=fp
 fn:=fun x=>scope.names.lookup x==some .cell
 calm:=X.calm
 pn:=X.pn
 xe:=fun _ _=>False
theorem qI(I:Inv X cQ U H s)(ok:Wj X.env.scope X.N Nc ix scope):∀y∈scope.names,y.2=.free->(X.env.cells.lookup y.1).isSome=true:=fun y hy hf=>by
 obtain⟨c,hc⟩:=I.ok.has y.1 (ok.free y hy hf);rw[hc];rfl
theorem Qz{b c:Addr}{x:Str}(I:Inv X cQ U H s)(ok:Wj X.env.scope X.N Nc ix scope)(hnew:∀x c,(cellsFrom (s.heap.objs.size+1) scope.names []).lookup x=some c->h1.IsCell c none/\s.heap.objs.size+1<=c)
  (q:(zg scope X.env s.heap.objs.size).lookup x=some c) (hb:b<s.heap.objs.size) (f:X.env.cells.lookup x=some c->c≠b):c≠b:=by
 rcases Wy q with q|⟨_,q⟩
 ·exact gA (gj hb (mn (hnew x c q).2))
 ·exact f (Yx (qI I ok) q)
theorem Ke(I:Inv X cQ U H s)(ok:Wj X.env.scope X.N Nc ix scope)(hf:∀b∈fp,VM X cQ H b)(hob:∀b∈fp,∃o,s.heap.get? b=some o)
  {m:Str->Option Value} (hn:h1.Ns s.heap.objs.size m) (hk:∀b o,s.heap.get? b=some o->h1.get? b=some o)
  (hnew:∀x c,(cellsFrom (s.heap.objs.size+1) scope.names []).lookup x=some c->h1.IsCell c none/\s.heap.objs.size+1<=c) (hap:(cellsFrom (s.heap.objs.size+1) scope.names []).Pairwise fun x y=>x.2≠y.2) :
  Inv (WB X Nc scope (zg scope X.env s.heap.objs.size) s.heap.objs.size s H fp) cQ (sub ix U) H { s with heap:=h1,toks:=t' }:=by
 have ac:=qI I ok;have old:∀{b:Addr}{o:Obj},s.heap.get? b=some o->b≠s.heap.objs.size:=fun e=>fE (fC e);refine⟨⟨I.ok.mod,?_,I.ok.glob,I.ok.blt,fh _,?_,?_,?_,I.ok.hd,I.ok.frames,.inl rfl,?_,I.bs,fK I.ok.bsz I.sz,?_,?_,I.stack,I.stkFree⟩,rfl,I.bare,Un.kept hk,⟨m,hn,?_⟩,?_,?_,?_,?_,I.hok.kept hk,?_⟩
 ·exact ok.kind
 ·intro x y c e1 e2;have lo:∀{z:Str},(Y7 scope X.env).lookup z=some c->c<s.heap.objs.size:=fun {z} e=>by
   obtain⟨v,oc,e5,_⟩:=I.cell z c (Yx ac e);exact fC e5
  rcases Wy e1 with e1|⟨_,e1⟩
  ·rcases Wy e2 with e2|⟨_,e2⟩
   ·exact name_of_addr hap (gy e1) (gy e2)
   ·exact absurd (lo e2) (Nat.not_lt_of_le (mn (hnew x c e1).2))
  ·rcases Wy e2 with e2|⟨_,e2⟩
   ·exact absurd (lo e1) (Nat.not_lt_of_le (mn (hnew y c e2).2))
   ·exact I.ok.inj x y c (Yx ac e1) (Yx ac e2)
 ·intro x hx;have key:∀k,(relabel scope X.env).names.lookup x=some k->(k=.cell\/k=.free)->∃c,(zg scope X.env s.heap.objs.size).lookup x=some c:=fun k e hkk=>by
   rcases V7 e with q|⟨_,q⟩
   ·rcases hkk with rfl|rfl
    ·obtain⟨c,hc⟩:=kF scope.names (s.heap.objs.size+1) [] x (.inl (gy q));exact⟨c,xb hc⟩
    ·obtain⟨c,hc⟩:=V5 (env:=X.env) (gy q);exact Ju hc
   ·obtain⟨c,hc⟩:=V5 (env:=X.env) (gy q);exact Ju hc
  rcases hx with e|e
  ·exact key _ e (.inl rfl)
  ·exact key _ e (.inr rfl)
 ·intro x c hfn e;have hfn':scope.names.lookup x=some .cell:=iZ.mp hfn;obtain⟨d,hd⟩:=kF scope.names (s.heap.objs.size+1) [] x (.inl (gy hfn'));have e':(zg scope X.env s.heap.objs.size).lookup x=some c:=e;rw[xb hd] at e';cases e';exact mn (hnew x _ hd).2
 ·intro b hb;obtain⟨o,e⟩:=hob b hb;obtain⟨f0,f1,f2,f3,f4,f5⟩:=hf b hb;exact⟨old e,fun x c q=>Qz I ok hnew q (fC e) (f4 x c)⟩
 ·intro b o e hb;obtain⟨f0,f1,f2,f3,f4,f5⟩:=hf b hb;rcases f3 with z|z
  ·exact I.ok.noex b o e z
  ·exact absurd (gj (gj (fC e) I.ok.bsz) z) (ik _)
 ·intro b hb hz;obtain⟨f0,f1,f2,f3,f4,f5⟩:=hf b hb;rcases fF.mp (I.stkSub b hz) with z|z
  ·exact f1 z
  ·exact f2 z
 ·intro i x v e1 e2 e3;have e1:Nc[i]?=some x:=e1;unfold sub at e2;rw[fw] at e2;cases hi:ix[i]? with
  |none=>rw[hi] at e2;cases e2
  |some o=>
   cases o with
   |none=>rw[hi] at e2;cases e2
   |some j=>
    obtain⟨hN,hfree⟩:=ok.at_ hi e1;have e4:U[j]?=some (some v):=by
     rw[hi] at e2;have e2':some ((U[j]?).join)=some (some v):=e2;have e5:=fO e2';cases hj:U[j]? with
     |none=>rw[hj] at e5;cases e5
     |some z=>rw[hj] at e5;exact fI some e5
    have hvis:Vis X.env.scope x:=by
     rcases ok.free (x,.free) (gy hfree) rfl with q|q
     ·exact .inr (.inl q)
     ·exact .inr (.inr q)
    obtain⟨m0,hn0,hl⟩:=I.loc;obtain⟨u,r,lk⟩:=hl j x v hN e4 hvis;refine⟨u,r,.inr ⟨Um hfree,?_⟩⟩;rcases lk with⟨q,_⟩|⟨_,c,hc,z⟩
    ·rcases ok.free (x,.free) (gy hfree) rfl with q2|q2
     ·exact absurd (q.symm.trans q2) (by decide)
     ·exact absurd (q.symm.trans q2) (by decide)
    ·obtain⟨d,hd⟩:=V5 (env:=X.env) (gy hfree);have:=Yx ac hd;rw[hc] at this;cases this;obtain⟨oc,e5,e6⟩:=z;have h0:(cellsFrom (s.heap.objs.size+1) scope.names []).lookup x=none:=by
      cases hz:(cellsFrom (s.heap.objs.size+1) scope.names []).lookup x with
      |none=>rfl
      |some d2=>
       rcases KQ _ _ _ _ _ (gy hz) with q|q
       ·cases q
       ·have:=ok.cells _ q rfl;rw[hfree] at this;cases this
     exact⟨c,Je h0 hd,oc,hk c oc e5,e6⟩
 ·intro x c e;rcases Wy e with e|⟨_,e⟩
  ·exact⟨none,(hnew x c e).1⟩
  ·obtain⟨v,oc,e5,e6⟩:=I.cell x c (Yx ac e);exact⟨v,oc,hk c oc e5,e6⟩
 ·exact I.hok.fresh (fh _)
 ·intro x c e;rcases Wy e with e|⟨_,e⟩
  ·exact I.hok.fresh (mn (hnew x c e).2)
  ·exact I.freeC x c (Yx ac e)
 ·intro p hp;obtain⟨e,n,ne,nf,d⟩:=I.pin p hp;refine⟨hk _ _ e,n,old e,fun z=>?_,d⟩;rcases fF.mp (I.stkSub p.1 z) with q|q
  ·exact ne q
  ·exact nf q
 ·unfold sub;rw[fi];exact ok.len
theorem Zax(I:Inv X cQ U H s)(hf:∀b∈fp,VM X cQ H b)(hC:s.heap.get? C=none)
  (J:Inv (WB X Nc scope cl C s H fp) cQ σ' H' s') (sb:Heap.SameBut C s'.heap h'):Inv X cQ U H' { s' with heap:=h' }:=by
 have u:Un (frs X.stack) fp H H' s.heap s'.heap:=J.base;have hCf:H' C=none:=J.free;have hCn:∀{b:Addr}{o:Obj},s.heap.get? b=some o->b≠C:=fun e z=>by rw[z,hC] at e;cases e
 refine I.call' (s':={ s' with heap:=h' }) (ch:=fp) J.os ⟨fun b o e n h1 h2=>?_,fun b o e n h1 h2=>?_,u.free,fun b o e h2=>?_,u.tups,u.frzs,u.tbls⟩ ?_ J.bare fun b hb=>?_
 ·exact(sb.2 b (hCn e)).trans (u.keep b o e n h1 h2)
 ·obtain⟨sl,q⟩:=u.slot b o e n h1 h2;exact⟨sl,(sb.2 b (hCn e)).trans q⟩
 ·obtain⟨o',q⟩:=u.there b o e h2;exact⟨o',(sb.2 b (hCn e)).trans q⟩
 ·intro b o e;refine(J.hok b o e).stay (fun c v hc q=>(sb.2 c ?_).trans q) (fun _ q=>q) fun _ _ q=>q;rintro rfl;rcases hc with z|z
  ·rw[<- z,hCf] at e;cases e
  ·rw[hCf] at z;cases z
 ·obtain⟨f0,f1,f2,f3,f4,f5⟩:=hf b hb;exact⟨f3,f1,f4,f5⟩
theorem ZaB{g:TG}{Q:VK}(I:L2.Inv X cQ U H s)(h:Zek wi ix g tt te U H Q)
  (fin:∀(D C:Addr) (H':Hp) (s':Shared) (m:Str->Option Value),L2.Inv X cQ U H' s'->VM X cQ H' C->s'.heap.Ns C m->Q (.ref D) H'->compPost (model X.prog X.w) X.A X.xe use QV (.ref D) C (.ok .next) s')
  (ok:Wj X.env.scope X.N Nc ix scope) (hc:X.calm=true) (hi:PI X tg iter wi)
  (hg:∀cl C s H fp,PG (WB X Nc scope cl C s H fp) tg g) (ht:∀cl C s H fp,PTs (WB X Nc scope cl C s H fp) ifs tt) (he:∀cl C s H fp,PE (WB X Nc scope cl C s H fp) elt te)
  (hs:∀x,foldedSetIterable iter X.env x=pure x:=by intro _;rfl):wpAny (model X.prog X.w) X.A (comprehension (.ListComp elt [⟨tg,iter,ifs,0⟩] scope pos) scope X.env pos2 (newList []) false (eval iter X.env) use) QV X.xe s:=by
 refine wpAny_comprehension_free (use:=use) (cl:=Y7 scope X.env) rfl hs (Q2 (qI I ok)) ok.kind ok.names (thn (hi cQ s U H _ I h) fun v s1 q1=>thn q1 fun itv s2 q2=>?_);obtain⟨it,fp,tn,J,H1,e,I2,T,st2,f2,q⟩:=q2;subst e;have hD:H1 s2.heap.objs.size=none:=I2.hok.fresh (fh _);obtain⟨W,⟨m0,w0⟩,turn⟩:=q _ hD;refine g7 ?_;have I3:Inv X cQ U (upd H1 s2.heap.objs.size (.lst [])) { s2 with heap:=s2.heap.push { cls:=.type "list",data:=.seq ([]:List Value).toArray } }:=
  I2.laid (t':=s2.toks) (fun b u e=>fz _ e) (fh _) ⟨gk _,[],0,.nil,fR _ rfl⟩
 have hob2:=T.obj 0 _ st2;have f3:∀b∈fp,VM X cQ (upd H1 s2.heap.objs.size (.lst [])) b:=fun b hb=>by
  obtain⟨o,e,_⟩:=hob2 b hb;obtain⟨f0,fr⟩:=f2 b hb;exact⟨by rw[Zx (fE (fC e))];exact f0,fr⟩
 have st3:tn 0 (s2.heap.push { cls:=.type "list",data:=.seq ([]:List Value).toArray }):=T.keep 0 _ _ st2 fun b _ o e=>fz _ e;generalize hs3:({ s2 with heap:=s2.heap.push { cls:=.type "list",data:=.seq ([]:List Value).toArray } }:Shared)=s3 at I3 ⊢;have st3':tn 0 s3.heap:=by rw[<- hs3];exact st3
 refine Kr ?_;obtain⟨hns,k1,hnew,hap⟩:=Zaa s3.heap scope.names;generalize hh1:pushCells (s3.heap.push { cls:=.type "dict",data:=.dict #[] }) scope.names=h1 at hns k1 hnew ⊢;have hob3:∀b∈fp,∃o,s3.heap.get? b=some o:=fun b hb=>let ⟨o,e,_⟩:=T.obj 0 _ st3' b hb; ⟨o,e⟩
 have I4:Inv (WB X Nc scope (zg scope X.env s3.heap.objs.size) s3.heap.objs.size s3 (upd H1 s2.heap.objs.size (.lst [])) fp) cQ (sub ix U) (upd H1 s2.heap.objs.size (.lst [])) { s3 with heap:=h1 }:=
  Ke (t':=s3.toks) I3 ok f3 hob3 hns k1 hnew hap
 have st4:tn 0 h1:=T.keep 0 _ _ st3' fun b _ o e=>k1 b o e;have hC:s3.heap.get? s3.heap.objs.size=none:=Heap.get?_none_of_le (fh _);generalize hX:WB X Nc scope (zg scope X.env s3.heap.objs.size) s3.heap.objs.size s3 (upd H1 s2.heap.objs.size (.lst [])) fp=Y at I4;have stat:∀{H':Hp},(∀b∈fp,H' b=none)->∀b∈fp,VM Y cQ H' b:=fun {H'} hn b hb=>by
  obtain⟨o,e⟩:=hob3 b hb;obtain⟨f0,f1,ff,f3',f4,f5⟩:=f3 b hb;have nst:b∉frs X.stack:=fun z=>by
   rcases fF.mp (I3.stkSub b z) with z|z
   ·exact f1 z
   ·exact ff z
  subst hX;exact⟨hn b hb,fE (fC e),nst,.inl hb,fun x c q=>Qz I3 ok hnew q (fC e) (fun q'=>f4 x c q'),f5⟩
 have fin':∀{σ':St}{H':Hp}{s':Shared},L2.Inv Y cQ σ' H' s'->Q (.ref s2.heap.objs.size) H'->compPost (model X.prog X.w) X.A X.xe use QV (.ref s2.heap.objs.size) s3.heap.objs.size (.ok .next) s':=fun {σ' H' s'} J' qq=>by
  subst hX;obtain⟨m',hn',_⟩:=id J'.loc;have hCn:H' s3.heap.objs.size=none:=J'.free;exact fin _ _ H' s' m' (Zax (h':=s'.heap) I3 f3 hC J' (.refl ..)) (I3.fpOk (fh _) hCn) hn' qq
 have loop:codeAny (model X.prog X.w) X.A (.compLoop (.ListComp elt [⟨tg,iter,ifs,0⟩] scope pos) 0 (.ref it) (.ref s2.heap.objs.size) Y.env)
   (compPost (model X.prog X.w) X.A X.xe use QV (.ref s2.heap.objs.size) s3.heap.objs.size) { s3 with heap:=h1 }:=by
  have eP:Y.prog=X.prog:=by subst hX;rfl
  have eW:Y.w=X.w:=by subst hX;rfl
  have eK:Y.K=X.K:=by subst hX;rfl
  have eA:Y.A=X.A:=by subst hX;rfl
  have eE:Y.xe=fun _ _=>False:=by subst hX;rfl
  have eC:Y.calm=true:=by subst hX;exact hc
  have hgY:PG Y tg g:=by subst hX;exact hg _ _ _ _ _
  have htY:PTs Y ifs tt:=by subst hX;exact ht _ _ _ _ _
  have heY:PE Y elt te:=by subst hX;exact he _ _ _ _ _
  unfold PG at hgY;unfold PTs at htY;unfold PE at heY;rw[eP,eW,eA,eE] at hgY htY heY;refine Zdj (fun n s'=>∃i σ' H',Inv Y cQ σ' H' s'/\tn i s'.heap/\(∀b∈fp,H' b=none)/\W i n σ' H') ?_ m0 ⟨0,sub ix U,_,I4,st4,fun b hb=>(f3 b hb).1,w0⟩;rintro n s5 ⟨i,σ5,H5,I5,st5,fr5,w5⟩;have TI:=T.item Y eP eW eK eC i cQ s5 σ5 H5 (fun _ _=>False) I5 (stat fr5) st5;have TD:=T.done Y eP eW eK eC i cQ s5 σ5 H5 (fun _ _=>False) I5 (stat fr5) st5;rw[eA] at TI TD;rcases turn i n σ5 H5 w5 with⟨stop,qn⟩|⟨go,N,N0,hN,hN0,step⟩
  ·refine thn (TD stop) fun r s6 ⟨hr,I6⟩=>?_;subst hr;exact fin' I6 qn
  ·refine thn (TI go) fun r s6 ⟨u,hr,h6⟩=>?_;subst hr;refine thn h6 fun _ s7 ⟨x,H7,I7,r7,y7,st7,fr7⟩=>?_;have I7':=I7.pinned (stat fr7) (T.obj _ _ st7);refine thn (hgY _ s7 σ5 H7 x u _ I7' r7 (step x H7 y7)) fun _ s8 ⟨σ8,H8,I8,q8⟩=>?_;refine thn (htY _ s8 σ8 H8 _ I8 q8) fun c s9 ⟨H9,I9,q9⟩=>?_;have back:∀{σa:St}{Ha:Hp}{sa:Shared},Inv Y (cQ++qL fp s7.heap) σa Ha sa->(∃m',m'<n/\W (i+1) m' σa Ha)->∃m,m<n/\∃i σ' H',Inv Y cQ σ' H' sa/\tn i sa.heap/\(∀b∈fp,H' b=none)/\W i m σ' H':=fun {σa Ha sa} Ia ⟨m',hm,wa⟩=>by
    refine⟨m',hm,i+1,σa,Ha,Ia.unpinned,T.keep _ _ _ st7 fun b hb o e=>(Ia.pin (b,o) (gi _ (gi _ (Wu hb e)))).1,fun b hb=>?_,wa⟩;obtain⟨o,e,d⟩:=T.obj _ _ st7 b hb;exact(Ia.pin (b,o) (gi _ (gi _ (Wu hb e)))).2.1
   cases c with
   |false=>exact back I9 (hN0 _ _ (by simpa using q9))
   |true=>
    rw[if_pos rfl] at q9 ⊢;refine thn (heY _ s9 σ8 H9 _ I9 q9) fun z s10 ⟨v10,H10,I10,r10,q10⟩=>?_;obtain⟨xs,hx,hz,q10⟩:=hN _ _ _ q10;have ap:=Z1 (X:=Y) (cQ++qL fp s7.heap) s10 σ8 H10 (.ref s2.heap.objs.size) [v10] (.ref s2.heap.objs.size) [z] (fun _ Hb=>∃m',m'<n/\W (i+1) m' σ8 Hb) I10 rfl (.cons r10 .nil) ⟨_,xs,v10,rfl,rfl,hx,hz,q10⟩;rw[eP,eW,eA,eE] at ap;exact thn ap fun _ s11 ⟨_,H11,I11,_,q11⟩=>back I11 q11
 have eenv:Y.env=compEnvC scope (zg scope X.env s3.heap.objs.size) s3.heap.objs.size X.env:=by subst hX;rfl
 rw[eenv] at loop;exact codeAny_compStart_list loop (T.self X.A 0 _ _ _ st4 loop)
theorem yb{x:Str}{spos:Pos}{g:TG}(hN:X.N.Nodup)(hi:X.N[i]?=some x)(hx:X.env.kindOf x=some .local)
  (ok:Wj X.env.scope X.N Nc ix scope) (hc:X.calm=true) (hit:PI X tg iter wi)
  (hg:∀cl C s H fp,PG (WB X Nc scope cl C s H fp) tg g) (ht:∀cl C s H fp,PTs (WB X Nc scope cl C s H fp) ifs tt) (he:∀cl C s H fp,PE (WB X Nc scope cl C s H fp) elt te)
  (hsw:swapsWith (.ListComp elt [⟨tg,iter,ifs,0⟩] scope pos) (some (.Name x pos')) spos.line X.env=pure true:=by rfl)
  (hs:∀x,foldedSetIterable iter X.env x=pure x:=by intro _;rfl):PS X (.Assign [.Name x pos'] (.ListComp elt [⟨tg,iter,ifs,0⟩] scope pos) spos) (Zdk (Zek wi ix g tt te) (V0 i)):=by
 intro cQ s U H D I h;rw[exec_Assign_Name_used _ _ _ _ hsw];refine fg (lh (fg ?_))
 show wpAny _ X.A (do let _ <- comprehension (.ListComp elt [⟨tg,iter,ifs,0⟩] scope pos) scope X.env _ (newList []) false (eval iter X.env) (some (assign (.Name x pos') X.env))) _ _ s
 refine fg (thn (ZaB (use:=some (assign (.Name x pos') X.env)) (QV:=fun _ s'=>SP X cQ D .next s') I h (fun L C H' s' m I' f hn qq=>?_) ok hc hit hg ht he hs) fun _ s' q=>fq (fq q));obtain⟨f0,f1,f2,f3,f4,f5⟩:=f;refine wpAny_assign_Name (zU (v:=.ref L) I' hN hi (.inl hx) rfl (fun s2 I2 ⟨a,sb,ha⟩=>?_) (.inr hx));have hCa:C≠a:=by
  rintro rfl;rcases ha with z|z
  ·exact f1 z
  ·exact f4 _ _ z rfl
 exact⟨m,hn.sameBut sb hCa,fun h' sb'=>⟨_,H',I2.turned (t':=s2.toks) (fun b o hb e=>(sb'.2 b hb).trans e) f0 f1 f3 f4 f5,qq⟩⟩
theorem Zc6(l:Addr)(items:Array Value)(n:Nat)(b:Addr)(items2:Array Value)(n2:Nat)(dd:Option Addr)(sl:Array (Option Value))(hs0:¬(!items.isEmpty&&Builtin.List.listTooLong (items.size+items2.size))=true)(hs1:items.size<=sizeLine)(hs2:items.size+items2.size<=sizeLine+1) :
  Meets (Builtin.«list.extend» ⟨[.ref l,.ref b],[]⟩) (fun _ R s=>s.heap.get? l=some { cls:=.type "list",dict:=none,data:=.seq items n,slots:=#[] }/\s.heap.get? b=some { cls:=.type "tuple",dict:=dd,data:=.seq items2 n2,slots:=sl }/\R (.ok (.ret Value.none)) { s with heap:=s.heap.update l (Obj.mapSeq fun x=>x++items2),toks:=s.toks }):=
 .of_wp fun prog w A R s h=>by
  obtain⟨hp,g,d,tk,os⟩:=s;obtain⟨hl,hb,h⟩:=h;have f1:=AutoSeq1.idx_int;have f2:=AutoSeq1.sub_tuple_tuple;have f3:=AutoSeq1.sub_list_list;have f4:=AutoSeq1.sub_tuple_list;have f5:=AutoSeq1.sub_list_tuple;have hz':(items++items2).size<=sizeLine+1:=by rw[Array.size_append];exact hs2
  wp_walk using(lv hl rfl (hz:=hs1) (_hz':=hz')),wpAny_loadPart' hl,wpAny_loadPart' hb;exact⟨_,rfl,h⟩
inductive yJ(K:W.Frag)(x:V)(vs:List V)(H:Hp)(Q:VK):Prop
 |mk (l:_) (b:_) (xs:_) (zs:_) (h0:x=.ref l) (h1:vs=[.ref b]) (h2:H l=some (.lst xs)) (h3:SqT K H b zs) (h4:xs.length+zs.length<=sizeLine) (h5:Q .non (upd H l (.lst (xs++zs)))):yJ K x vs H Q
def Zcx(K:W.Frag):V->List V->Hp->VK->Prop:=fun x vs H Q=>yJ K x vs H Q
theorem KF(hK:X.K=K):MtM X "list.extend" (Zcx K):=by
 subst hK;intro cQ s U H x vs v us Q I rx rv h;obtain⟨l,b,xs,zs,rfl,rfl,hH,hB,hz,q⟩:=h;cases rx;obtain⟨u,rfl,ru⟩:=rv.one;cases ru;obtain⟨z,its,n,r,hl,e⟩:=I.lstM hH;obtain⟨its2,r2,⟨o,e2,hc,n2,hd⟩,z2⟩:=I.tuple hB;obtain⟨c,dd,da,sl⟩:=o;have hc':c=.type "tuple" := hc;have hd':da=.seq its2.toArray n2:=hd;subst hc' hd';have hl2:=r2.length;have hsz:its.toArray.size+its2.toArray.size<=sizeLine:=by rw[fL,fL];omega
 have hlong:¬(!its.toArray.isEmpty&&Builtin.List.listTooLong (its.toArray.size+its2.toArray.size))=true:=by
  rw[xc hsz,Bool.and_false];exact fV
 refine lI F.slot_list_extend ⟨_,e,rfl⟩ F.entry_list_extend (F.args_list_extend_2 _ _)
  (Zc6 l its.toArray n b its2.toArray n2 dd sl hlong (by rw[fL];omega) (by omega)) ⟨e,e2,?_⟩
 refine⟨.non,_,I.lset (its':=its++its2) hH e (by simp) (r.append r2) ?_,rfl,q⟩;rw[fu];omega
theorem jD{sel:Nat->Bool}:∀(xs:List Value) (n k:Nat),(∀i,n<=i->i<n+xs.length->sel i=decide (n+k<=i))->((xs.zipIdx n).filterMap fun(x,i)=>if sel i=true then none else some x)=xs.take k
 |[],n,k,_=>by simp
 |x::r,n,k,h=>by
  have h0:=h n (fh _) (by simp);rw[List.zipIdx_cons,mX];cases k with
  |zero=>
   have e:sel n=true:=by rw[h0];simp
   simp only[e,gZ];have:=jD (sel:=sel) r (n+1) 0 fun i h1 h2=>by rw[h i (by omega) (by simp;omega)];exact mj.mpr ⟨fun _=>by omega,fun _=>by omega⟩
   simpa using this
  |succ k=>
   have e:sel n=false:=by rw[h0];exact gJ (by omega)
   simp only[e,gX,gG];rw[List.take_succ_cons,jD (sel:=sel) r (n+1) k fun i h1 h2=>by rw[h i (by omega) (by simp;omega)];exact mj.mpr ⟨fun _=>by omega,fun _=>by omega⟩]
theorem Zcu{l:Addr}{k:Nat}{Q:Unit->Shared->Prop}(ho:s.heap.get? l=some { cls:=.type "list",data:=.seq items n })(hs:s.heap.IsSliceOf sl vl .none .none)(pl:IsPart vl (some (k:Int)))(hk:k<=items.size)(hsz:items.size<=sizeLine)
  (h:∀f:Array Value->Array Value,f items=(items.toList.take k).toArray->Q () { s with heap:=s.heap.update l (Obj.mapSeq f) }):wpAny (model prog w) A (delItem (.ref l) (.ref sl)) Q E s:=by
 have hT:s.TypeIs (.ref l) "list" := ⟨_,ho,rfl⟩;obtain⟨os,hos,hcs,hds⟩:=id hs;have hTs:s.TypeIs (.ref sl) "slice" := ⟨os,hos,hcs⟩;refine wpAny_delItem_slot hT (by decide) F.slot_list_delitem (ia F.slot_list_delitem hT F.entry_list_delitem ?_ (F.args_list_delitem_2 _ _))
 show wpAny _ _ (Builtin.List.listSubscript? (.ref sl) >>= _) _ _ s
 refine fg ?_;unfold Builtin.List.listSubscript?;refine fg (mJ hTs slice_no_index ?_);simp only[Option.isNone_none,gZ];refine fq ?_
 show wpAny _ _ (typeOf (.ref sl) >>= _) _ _ s
 refine fg (wpAny_typeOf hTs ?_);rw[if_neg (by decide)];rw[listSliceParts_eq];refine fg (fg (g0 hos hds (x:=.none) rfl (fg (wpAny_listPart .none ?_))));rw[if_neg (show ¬((rawPart none==rawInt 0)=true) from fV)];refine fg (g0 hos hds (x:=vl) rfl (fg (wpAny_listPart pl ?_)));refine fg (g0 hos hds (x:=.none) rfl (fg (wpAny_listPart .none (fq ?_))));refine fg (m:=Builtin.List.listItems (.ref l)) ?_;unfold Builtin.List.listItems;refine fg (mo ho rfl (fq ?_));have eb:sliceIndices (rawPart (some (k:Int))) (rawPart none) (rawPart none) items.size=pure ((k:Int),(items.size:Int),(1:Int)):=by
  rw[sliceIndices_raw _ _ _ _ (by simp)];have e1:(sliceBounds (some (k:Int)) none none items.size)=((k:Int),(items.size:Int),(1:Int)):=by
   unfold sliceBounds;simp;omega
  rw[e1]
 refine fg (wpAny_of_eq eb ?_);refine fg (lS (fg ?_))
 show wpAny _ _ (updateSeq l _) _ _ s
 have hf:=jD (sel:=fun i=>if(1:Int)>0 then decide ((k:Int)<=i)&&decide ((i:Int)<(items.size:Int))&&((i:Int)-k)%1==0 else decide ((items.size:Int)<i)&&decide ((i:Int)<=k)&&((k:Int)-i)%(-1)==0) items.toList 0 k fun i h1 h2=>by
  have h2':i<items.size:=by simpa using h2
  simp only[show(1:Int)>0 by decide,gZ];rw[Int.emod_one];simp;omega
 have hf':=fI List.toArray hf;refine lv ho rfl ?_ hsz ?_
 ·exact fg (wpAny_letGo (fq ⟨_,rfl,h _ hf'⟩))
 ·refine fK (Nat.le_of_eq (fI Array.size hf')) ?_;rw[fL,fZ];omega
def Zb6(te:TE)(tl:TE):L2.TS:=fun D U H=>te U H fun x H1=>tl U H1 fun y H2=>∃l xs k,x=.ref l/\y=.int ((k:Nat):Int)/\H2 l=some (.lst xs)/\k<=xs.length/\D.nx U (upd H2 l (.lst (xs.take k)))
theorem K6{o lo:Expr}{p3:Pos}(ho:PE X o te)(hl:PE X lo tl):PS X (.Delete [.Subscript o (.Slice (some lo) none none p2) p3] pos) (Zb6 te tl):=by
 intro cQ s U H D I h;refine wpAny_Delete (wpAny_deleteEach_cons (wpAny_delete_Subscript (thn (ho cQ s U H _ I h) fun u s1 ⟨x,H1,I1,rx,q1⟩=>?_)));refine wpAny_Slice ?_;rw[evalPart_some];refine thn (hl cQ s1 U H1 _ I1 q1) fun vl s2 ⟨y,H2,I2,ry,l,xs,k,ex,ey,hH,hk,q⟩=>?_;subst ex ey;obtain rfl:u=Value.ref l:=rx;obtain⟨t,rfl⟩:=(show ∃t,vl=Value.int ((k:Nat):Int) t from ry);rw[evalPart_none];refine fq (fq ?_);have I3:Inv X cQ U H2 { s2 with heap:=s2.heap.push { cls:=.type "slice",data:=.fields #[.int ((k:Nat):Int) t,.none,.none] } }:=I2.kept (t':=s2.toks) fun b ob q=>fz _ q;obtain⟨z,its,n,r,hlen,e⟩:=I3.lstM hH;refine Zcu e (Heap.IsSliceOf.new ..) (.int _ t) (by rw[fL];omega) (by rw[fL];omega) fun f hf=>wpAny_deleteEach_nil ?_;refine⟨U,_,I3.lset (its':=its.take k) (t':=s2.toks) hH e ?_ (r.take k) (by rw[fZ];omega),q⟩;simpa using hf
structure Ze4(K:W.Frag)(P:Params)(D:Addr)(kvs:List (Str×Int)):Prop where
 ex:∃(es:Array DictEntry) (n:Nat),K.lookup D=some ⟨.type "dict",none,.dict es n,#[]⟩/\W.KeysLit P es.toList
 at_:∀p∈kvs,∃t,W.nsIn K D p.1=some (some (.int p.2 t))
 lo:(D==sysModules)=false
inductive Zcq(K:W.Frag)(P:Params)(x:V)(y:V)(H:Hp)(Q:VK):Prop
 |mk (D:_) (z:_) (kvs:_) (i:_) (h0:x=.ref D) (h1:y=.str z) (h2:Ze4 K P D kvs) (h3:(z,i)∈kvs) (h4:Q (.int i) H):Zcq K P x y H Q
def rIxD(K:W.Frag)(P:Params):R2:=fun x y H Q=>Zcq K P x y H Q
section
variable{P:Params}
theorem ZeY(hK:X.K=K)(hw:X.w.params=P):IxR X (rIxD K P):=by
 subst hK hw;intro value slice cQ s U H x y v u Q I rx ry h hs;obtain⟨D,z,kvs,i,rfl,rfl,d,hm,q⟩:=h;obtain⟨t,rfl⟩:=(show ∃t,u=Value.str z t from ry);obtain rfl:v=Value.ref D:=rx;obtain⟨m,F⟩:=I.fr;obtain⟨es,n,lk,hk⟩:=d.ex;obtain⟨t2,ea⟩:=d.at_ _ hm;exact W.topItem_K F I.mod.kin lk hk ea ⟨.int i,H,I.tok _,⟨t2,rfl⟩,q⟩ hs
end
inductive Lb where
 |yes
 |sign (s:Str)
 |op (w:Str)
 |wit (m:Int)
 |many (w:Str)
inductive Tr where
 |node (c:Lb) (ks:List Tr)
def Tr.lb:Tr->Lb
 |.node c _=>c
def Tr.ks:Tr->List Tr
 |.node _ ks=>ks
theorem Tr.eta(t:Tr):t=.node t.lb t.ks:=by cases t;rfl
def W1:List Str:=["all","some","not","next","always","ever","before","once","sofar"]
def W2:List Str:=["until","since"]
def XN:Lb->Nat->Prop
 |.yes,n=>n=0
 |.sign s,n=>n=0/\Yo s=true
 |.op w,n=>(w∈W1/\n=1)\/(w∈W2/\n=2)
 |.wit m,n=>(0<=m/\m<=5)/\n=2
 |.many w,n=>(w = "and" \/ w = "or")/\n<=8
def Zy:Lb->Str
 |.yes => "yes"
 |.sign _ => "sign"
 |.op w=>w
 |.wit _ => "within"
 |.many w=>w
def UJ(K:W.Frag)(H:Hp)(a:Addr)(vs:List V):Lb->Prop
 |.yes=>vs=[]/\SqT K H a [.str "yes"]
 |.sign s=>vs=[]/\SqT K H a [.str "sign",.str s]
 |.op w=>SqT K H a (.str w::vs)
 |.wit m=>SqT K H a (.str "within" :: .int m::vs)
 |.many w=>∃b,SqT K H a [.str w,.ref b]/\SqT K H b vs
def At(K:W.Frag):Nat->Hp->V->Tr->Prop
 |0,_,_,_=>False
 |n+1,H,v,t=>∃a vs,v=.ref a/\UJ K H a vs t.lb/\XN t.lb t.ks.length/\vs.length=t.ks.length/\∀(i:Nat) u k,vs[i]?=some u->t.ks[i]?=some k->At K n H u k
def YX(H H':Hp):Prop:=∀(K:W.Frag) b xs,SqT K H b xs->SqT K H' b xs
theorem Ze.tup{H H':Hp}(s:Ze H H'):YX H H':=fun K b xs e=>Ze.seqT s e
def nW:=@Ze.tup
theorem Zs.tup{p:Addr}{H H':Hp}{xs:List V}(s:Zs p H H')(hp:H p=some (.lst xs)):YX H H':=fun K b ys h=>by
 rcases h with(h|⟨o,h⟩)|h
 ·exact .inl (.inl (s _ _ (VE h hp (by intro z;cases z)) h))
 ·exact .inl (.inr ⟨o,s _ _ (VE h hp (by intro z;cases z)) h⟩)
 ·exact .inr h
theorem YX.trans(a:YX H H1)(b:YX H1 H2):YX H H2:=fun K c xs e=>b _ _ _ (a _ _ _ e)
variable{K:W.Frag}
theorem UJ.mono(s:YX H H'){a:Addr}{c:Lb}(h:UJ K H a vs c):UJ K H' a vs c:=by
 cases c with
 |yes=>exact⟨h.1,s _ _ _ h.2⟩
 |sign z=>exact⟨h.1,s _ _ _ h.2⟩
 |op w=>exact s _ _ _ h
 |wit m=>exact s _ _ _ h
 |many w=>obtain⟨b,h1,h2⟩:=h;exact⟨b,s _ _ _ h1,s _ _ _ h2⟩
theorem At.mono{H H':Hp}(s:YX H H'):∀{n:Nat}{v:V}{t:Tr},At K n H v t->At K n H' v t
 |0,_,_,h=>h
 |n+1,v,t,⟨a,vs,e,sh,ok,l,q⟩=>⟨a,vs,e,sh.mono s,ok,l,fun i u k h1 h2=>At.mono s (q i u k h1 h2)⟩
theorem At.up{H:Hp}:∀{n:Nat}{v:V}{t:Tr},At K n H v t->At K (n+1) H v t
 |0,_,_,h=>h.elim
 |n+1,v,t,⟨a,vs,e,sh,ok,l,q⟩=>⟨a,vs,e,sh,ok,l,fun i u k h1 h2=>At.up (q i u k h1 h2)⟩
theorem At.le{m:Nat}{t:Tr}(h:At K n H v t)(hm:n<=m):At K m H v t:=by
 induction hm with
 |refl=>exact h
 |step _ ih=>exact ih.up
def AtL(K:W.Frag)(n:Nat)(H:Hp)(vs:List V)(ts:List Tr):Prop:=vs.length=ts.length/\∀(i:Nat) u k,vs[i]?=some u->ts[i]?=some k->At K n H u k
theorem AtL.mono{n:Nat}{H H':Hp}{vs:List V}{ts:List Tr}(s:YX H H')(h:AtL K n H vs ts):AtL K n H' vs ts:=⟨h.1,fun i u k h1 h2=>(h.2 i u k h1 h2).mono s⟩
theorem AtL.le{n m:Nat}{H:Hp}{vs:List V}{ts:List Tr}(h:AtL K n H vs ts)(hm:n<=m):AtL K m H vs ts:=⟨h.1,fun i u k h1 h2=>(h.2 i u k h1 h2).le hm⟩
theorem AtL.nil:AtL K n H [] []:=⟨rfl,fun i u k h=>by simp at h⟩
theorem AtL.one{t:Tr}(h:At K n H v t):AtL K n H [v] [t]:=⟨rfl,fun i u k h1 h2=>by
 cases i with
 |zero=>cases h1;cases h2;exact h
 |succ i=>simp at h1⟩
theorem AtL.app{us:List V}{ts rs:List Tr}(h:AtL K n H vs ts)(g:AtL K n H us rs):AtL K n H (vs++us) (ts++rs):=by
 refine⟨by rw[fu,fu,h.1,g.1],fun i u k h1 h2=>?_⟩
 by_cases hi:i<vs.length
 ·rw[fW hi] at h1;rw[fW (by rw[<- h.1];exact hi)] at h2;exact h.2 i u k h1 h2
 ·rw[gf (by omega)] at h1;rw[gf (by rw[<- h.1];omega),<- h.1] at h2;exact g.2 _ u k h1 h2
theorem AtL.rev{ts:List Tr}(h:AtL K n H vs ts):AtL K n H vs.reverse ts.reverse:=by
 refine⟨by rw[iu,iu,h.1],fun i u k h1 h2=>?_⟩;have hi:=(fD.mp h1).1;rw[iu] at hi;rw[mK hi] at h1;rw[mK (by rw[<- h.1];exact hi),<- h.1] at h2;exact h.2 _ u k h1 h2
theorem AtL.last{ts:List Tr}(h:AtL K n H vs ts)(hne:vs≠[]):∃us u rs r,vs=us++[u]/\ts=rs++[r]/\AtL K n H us rs/\At K n H u r:=by
 have hl:=iJ.mpr hne;have ht:ts≠[]:=fun e=>by rw[e] at h;have:=h.1;simp at this;exact hne this
 have e1:=nM hne;have e2:=nM ht;have hl1:vs.dropLast.length=ts.dropLast.length:=by rw[m7,m7,h.1]
 refine⟨vs.dropLast,vs.getLast hne,ts.dropLast,ts.getLast ht,e1.symm,e2.symm,⟨hl1,fun i u k h1 h2=>?_⟩,?_⟩
 ·have hi:=(fD.mp h1).1;refine h.2 i u k ?_ ?_
  ·rw[<- e1,fW hi];exact h1
  ·rw[<- e2,fW (by rw[<- hl1];exact hi)];exact h2
 ·refine h.2 (vs.length-1) _ _ ?_ ?_
  ·rw[List.getLast_eq_getElem];exact fj _
  ·rw[List.getLast_eq_getElem,h.1];exact fj _
mutual
def Zep:Tr->Bool
 |.node c ks=>match c with
  |.yes=>true
  |.sign _=>true
  |.op w=>if w = "all" \/ w = "some" then true else if w = "not" then jt ks else false
  |.wit _=>false
  |.many _=>jt ks
def jt:List Tr->Bool
 |[]=>true
 |t::r=>Zep t&&jt r
end
theorem Zas:∀ks:List Tr,jt ks=ks.all Zep
 |[]=>by rw[jt];rfl
 |t::r=>by rw[jt,Zas r,lH]
mutual
def post:Tr->List Tr
 |.node c ks=>Yr ks++[.node c ks]
def Yr:List Tr->List Tr
 |[]=>[]
 |t::r=>post t++Yr r
end
theorem W4(t:Tr):post t=Yr t.ks++[t]:=by cases t;rw[post];rfl
theorem zH:∀(a b:List Tr),Yr (a++b)=Yr a++Yr b
 |[],b=>by rw[lJ,Yr,lJ]
 |t::r,b=>by rw[mL,Yr,zH r b,Yr,iG]
theorem vS(t:Tr):Yr [t]=post t:=by rw[Yr,Yr,ip]
theorem Za0(ws:List Tr)(w:Tr):(Yr (ws++[w])).reverse=w::(Yr (ws++w.ks)).reverse:=by
 rw[zH,zH,vS,W4 w];simp
mutual
def Y1{α:Type}(F:Lb->List α->α):Tr->α
 |.node c ks=>F c (ZcS F ks)
def ZcS{α:Type}(F:Lb->List α->α):List Tr->List α
 |[]=>[]
 |t::r=>Y1 F t::ZcS F r
end
theorem JS{α:Type}(F:Lb->List α->α):∀ks:List Tr,ZcS F ks=ks.map (Y1 F)
 |[]=>by rw[ZcS];rfl
 |t::r=>by rw[ZcS,JS F r];rfl
theorem Vb(F:Lb->List α->α)(t:Tr):Y1 F t=F t.lb (t.ks.map (Y1 F)):=by
 cases t with
 |node c ks=>rw[Y1,JS];rfl
section
variable{α:Type}{F:Lb->List α->α}
def qf(F:Lb->List α->α)(st:List α)(t:Tr):List α:=st.take (st.length-t.ks.length)++[F t.lb (st.drop (st.length-t.ks.length))]
def xh(F:Lb->List α->α):List α->List Tr->Prop
 |_,[]=>True
 |st,t::r=>(t.ks.length<=st.length/\st.drop (st.length-t.ks.length)=t.ks.map (Y1 F))/\xh F (qf F st t) r
def jF(F:Lb->List α->α):List α->List Tr->List α
 |st,[]=>st
 |st,t::r=>jF F (qf F st t) r
theorem ZaA(st:List α)(t:Tr):qf F (st++t.ks.map (Y1 F)) t=st++[Y1 F t]:=by
 unfold qf;have e:(st++t.ks.map (Y1 F)).length-t.ks.length=st.length:=by rw[fu,fi];omega
 rw[e,List.take_left,List.drop_left,<- Vb F t]
mutual
theorem J4:∀(t:Tr) (st:List α) (r:List Tr),(xh F (st++[Y1 F t]) r->xh F st (post t++r))/\jF F st (post t++r)=jF F (st++[Y1 F t]) r
 |.node c ks,st,r=>by
  obtain⟨h1,h2⟩:=vU ks st (.node c ks::r);have e':qf F (st++ks.map (Y1 F)) (.node c ks)=st++[Y1 F (.node c ks)]:=ZaA st (.node c ks);rw[post,iG,List.singleton_append];refine⟨fun h=>h1 ⟨⟨?_,?_⟩,?_⟩,?_⟩
  ·show ks.length<=_
   rw[fu,fi];omega
  ·show(st++ks.map (Y1 F)).drop ((st++ks.map (Y1 F)).length-ks.length)=ks.map (Y1 F)
   have e:(st++ks.map (Y1 F)).length-ks.length=st.length:=by rw[fu,fi];omega
   rw[e,List.drop_left]
  ·rw[e'];exact h
  ·rw[h2,jF,e']
theorem vU:∀(ks:List Tr) (st:List α) (r:List Tr),(xh F (st++ks.map (Y1 F)) r->xh F st (Yr ks++r))/\jF F st (Yr ks++r)=jF F (st++ks.map (Y1 F)) r
 |[],st,r=>by
  rw[Yr,lJ,List.map_nil,ip];exact⟨id,rfl⟩
 |t::ks,st,r=>by
  obtain⟨h1,h2⟩:=J4 t st (Yr ks++r);obtain⟨h3,h4⟩:=vU ks (st++[Y1 F t]) r;rw[Yr,iG,fP];have e:st++Y1 F t::ks.map (Y1 F)=st++[Y1 F t]++ks.map (Y1 F):=by simp
  rw[e];exact⟨fun h=>h1 (h3 h),by rw[h2,h4]⟩
end
theorem Zdh(t:Tr):xh F [] (post t)/\jF F [] (post t)=[Y1 F t]:=by
 obtain⟨h1,h2⟩:=J4 (F:=F) t [] [];rw[ip] at h1 h2;exact⟨h1 trivial,h2⟩
end
mutual
theorem Zcf:∀(t:Tr),t∈post t
 |.node c ks=>by rw[post];simp
end
theorem XT{p A:Prop}[Decidable p](h:p)(a:A):if decide p=true then A else B:=by rw[if_pos (gz h)];exact a
theorem Z4{p A:Prop}[Decidable p](h:¬p)(b:B):if decide p=true then A else B:=by rw[if_neg (by simpa using h)];exact b
theorem qD{p:Prop}[Decidable p]{Q:VK}(h:p)(q:Q (.bl true) H):Q (.bl (decide p)) H:=by rw[gz h];exact q
theorem W9(hK:X.K=K):SlR X (Zgc K):=by subst hK;exact Zfp
theorem qg{w:Str}{ss:List Str}{A:Prop}(h:w∈ss)(a:A):if inV (.str w) (ss.map V.str)=true then A else B:=by rw[if_pos (jI.mpr h)];exact a
theorem XO{w:Str}{ss:List Str}{A:Prop}(h:w∉ss)(b:B):if inV (.str w) (ss.map V.str)=true then A else B:=by rw[if_neg (fun e=>h (jI.mp e))];exact b
def LK:List (Str×Int):=[("all",2),("some",2),("not",2),("next",2),("always",2),("ever",2),("before",2),("once",2),("sofar",2),("until",3),("since",3)]
theorem Kk:∀w∈W1++W2,w ≠ "yes" /\ w ≠ "sign" /\ w∉(["and","or"]:List Str)/\w ≠ "within" /\ w∉(["yes","sign"]:List Str):=by decide +kernel
theorem V8:∀w∈(["and","or"]:List Str),w ≠ "yes" /\ w ≠ "sign" /\ w ≠ "within" /\ w∉(["yes","sign"]:List Str)/\w∉(["yes","sign","all","some"]:List Str)/\w∈(["not","and","or"]:List Str):=by decide +kernel
theorem lk1:∀w∈W1,(w,(2:Int))∈LK:=by decide +kernel
theorem lk2:∀w∈W2,(w,(3:Int))∈LK:=by decide +kernel
theorem Vk(z:Str):∃t,UF K H (.str z) t/\W.kitOne K t (.type "str")=some true:=⟨_,.str _,rfl⟩
theorem UJ.tup{H:Hp}{a:Addr}{vs:List V}{c:Lb}(h:UJ K H a vs c):∃xs,SqT K H a (.str (Zy c)::xs):=by
 cases c with
 |yes=>exact⟨[],h.2⟩
 |sign s=>exact⟨[.str s],h.2⟩
 |op w=>exact⟨vs,h⟩
 |wit m=>exact⟨.int m::vs,h⟩
 |many w=>obtain⟨b,h1,_⟩:=h;exact⟨[.ref b],h1⟩
inductive Zci(K:W.Frag)(xs:List V)(H:Hp)(Q:VK):Prop
 |mk (x:_) (h0:xs=[x,.ty "tuple"]) (h1:((∃a ys,x=.ref a/\SqT K H a ys/\Q (.bl true) H)\/∃t,UF K H x t/\W.kitOne K t (.type "tuple")=some false/\Q (.bl false) H)):Zci K xs H Q
def rIsT(K:W.Frag):List V->Hp->VK->Prop:=fun xs H Q=>Zci K xs H Q
theorem JV(hK:X.K=K):Yw X (.builtin "isinstance") (rIsT K):=by
 subst hK;intro cQ s U H xs us Q I r h;obtain⟨x,rfl,h⟩:=h;obtain⟨u,v,rfl,ru,rv⟩:=QY r;obtain rfl:v=Value.type "tuple" := rv;rcases h with⟨a,ys,rfl,hq,q⟩|⟨t,ht,hk,q⟩
 ·obtain rfl:u=Value.ref a:=ru;obtain⟨its,r,⟨o,h1,h2,h3⟩,hz⟩:=I.tuple hq;exact ig (b:=true) W.kitx_tuple I.kIn ⟨o,h1,h2⟩ rfl (fun z=>nomatch z) fun tk=>⟨.bl true,H,I.tok _,rfl,q⟩
 ·exact jh I ru ht hk fun tk=>⟨.bl false,H,I.tok _,rfl,q⟩
theorem YA.units2{k:Nat}(r:YA k A):A.units+195<cLine:=by have:=r.un;omega
end L3
variable{st:L3.Tr->List Int}{ps ss ts:List L3.Tr}{c:L3.Lb}
namespace L3
open PySem PySem.Spec PyProof.Rows L2
def Itv(K:W.Frag)(a:Addr)(n:Nat):It:=
 ⟨fun i H=>i<n/\∃xs,SqL K H a xs/\xs.length=n,fun i H x H'=>H'=H/\∀xs,SqL K H a xs->xs[n-1-i]?=some x,fun i _=>n<=i⟩
theorem ZbT(a it:Addr)(n:Nat):K5 P w K tg (Itv K a n) [it] it (fun i h=>i<=n/\h.IsRevIter it a ((n:Int)-1-(i:Int))) where
 mem:=by simp
 obj:=fun i h st b hb=>by
  have e:b=it:=by simpa using hb
  subst e;obtain⟨_,o,e,c,d⟩:=st;exact⟨o,e,fun v z=>by rw[d] at z;cases z⟩
 keep:=fun i h h' st k=>⟨st.1,st.2.at fun o e=>k it (by simp) o e⟩
 item:=by
  intro X hP hw hK hc i cQ s U H E I hf st hg;subst hP hw hK;obtain⟨hi,xs,hq,hn⟩:=hg;obtain⟨its,rv,p,hz⟩:=I.list hq;have hx:xs[n-1-i]?=some (xs[n-1-i]'(by omega)):=fj (by omega);obtain⟨u,hu,ru⟩:=rv.get hx;obtain⟨f0,f1,f2,f3,f4,f5⟩:=hf it (by simp);have e:(n:Int)-1-(i:Int)=((n-1-i:Nat):Int):=by omega
  have st2:=st.2;rw[e] at st2;refine wpAny_pyNext_rev_item st2 p.isList (x:=u) (by simpa using hu) fun h' st' sb=>?_;have I1:Inv X cQ U H { s with heap:=h' }:=I.turned (t':=s.toks) (fun b o hb e=>(sb.2 b hb).trans e) f0 f1 f3 f4 f5;have e2:((n-1-i:Nat):Int)-1=(n:Int)-1-((i+1:Nat):Int):=by omega
  rw[e2] at st';obtain⟨o,e,c,d⟩:=id st';exact⟨u,rfl,Jq (s:={ s with heap:=h' }) e c d (by decide) ⟨_,H,I1,ru,⟨rfl,fun ys hy=>by rw[I.list_inj hy hq];exact hx⟩,⟨hi,st'⟩,fun b hb=>(hf b hb).1⟩⟩
 done:=by
  intro X hP hw hK hc i cQ s U H E I hf st hg;subst hP hw hK;have hn:n<=i:=hg;obtain⟨f0,f1,f2,f3,f4,f5⟩:=hf it (by simp);have e:(n:Int)-1-(i:Int)=-1:=by have:=st.1;omega
  have st2:=st.2;rw[e] at st2;exact wpAny_pyNext_rev_end (I.ok.hd hc) st2 fun h' eb=>⟨rfl,I.turned (t':=s.toks) (fun b o hb e=>eb b o hb e) f0 f1 f3 f4 f5⟩
 self:=fun _ _ _ _ _ st h=>wpAny_pyIter_revIter st.2 h
def iRev(K:W.Frag)(ta:TA):TI:=fun U H R=>ta U H fun vs H1=>∃a xs,vs=[.ref a]/\SqL K H1 a xs/\R (Itv K a xs.length) H1
theorem QZ{a:Expr}{p:Pos}(hK:X.K=K)(hg:Gl X "reversed")(hm:X.mg "reversed" = none)(ha:PA X [a] ta)(hs:starEach [a] X.env=[(false,eval a X.env)]:=by rfl) :
  PI X tg (.Call (.Name "reversed" p) [a] [] pos) (iRev K ta):=by
 subst hK;intro cQ s U H R I h;refine Call_ (Ul I hg hm PyProof.Rows.boot_reversed (l9 (thn (ha pos cQ s U H _ I h) fun us s1 ⟨vs,H1,I1,r1,q1⟩=>?_) hs rfl));obtain⟨l,xs,rfl,hq,q⟩:=q1;obtain⟨u,rfl,ru⟩:=Vz r1;obtain rfl:u=Value.ref l:=ru;obtain⟨its,rv,pl,hz⟩:=I1.list hq;have hl:=rv.length;refine call_reversed_list pl.isList ?_;have st:(s1.heap.push (revObj l ((its.toArray.size:Int)-1))).IsRevIter s1.heap.objs.size l ((xs.length:Int)-1-((0:Nat):Int)):=⟨_,fR _ rfl,rfl,by
  show Data.fields #[Value.ref l,rawInt ((its.toArray.size:Int)-1)]=_
  have e:(its.toArray.size:Int)-1=(xs.length:Int)-1-((0:Nat):Int):=by rw[fL];omega
  rw[e]⟩
 refine wpAny_pyIter_revIter st ?_;refine⟨s1.heap.objs.size,[s1.heap.objs.size],_,_,H1,rfl,I1.kept (t':=s1.toks) fun b o e=>fz _ e,ZbT l _ xs.length,⟨gk _,st⟩,fun b hb=>?_,q⟩;have e:b=s1.heap.objs.size:=by simpa using hb
 subst e;exact I1.fpOk (fh _) (I1.hok.fresh (fh _))
theorem xV(hK:X.K=K):OpR X (binaryOp .Add) (Zey K):=by subst hK;exact Zc4
abbrev qW:Tr:=.node .yes []
abbrev zX(t:Tr):Tr:=.node (.op "not") [t]
abbrev ZgF(t:Tr):Tr:=.node (.op "next") [t]
abbrev Zgh(t:Tr):Tr:=.node (.op "some") [t]
abbrev ZdC(a b:Tr):Tr:=.node (.many "and") [a,b]
abbrev Zga(a b:Tr):Tr:=.node (.op "until") [a,b]
abbrev Zgf(a b:Tr):Tr:=.node (.op "since") [a,b]
def Zf8:List Tr->Tr
 |[]=>qW
 |[x]=>x
 |x::y::r=>ZdC x (Zf8 (y::r))
def orT:List Tr->Tr
 |[]=>zX qW
 |[x]=>x
 |x::y::r=>zX (ZdC (zX x) (zX (orT (y::r))))
def QF:Nat->Tr->Tr->Tr
 |0,_,s=>s
 |n+1,f,s=>zX (ZdC (zX s) (zX (ZdC f (ZgF (QF n f s)))))
def coreF(c:Lb)(cs:List Tr):Tr:=match c with
 |.yes=>qW
 |.sign s=>.node (.sign s) []
 |.many w=>if w = "and" then Zf8 cs else orT cs
 |.wit m=>QF m.toNat (cs.getD 0 qW) (cs.getD 1 qW)
 |.op w=>if w = "all" then zX (Zgh (zX (cs.getD 0 qW))) else if w = "ever" then Zga qW (cs.getD 0 qW) else if w = "always" then zX (Zga qW (zX (cs.getD 0 qW)))
  else if w = "once" then Zgf qW (cs.getD 0 qW) else if w = "sofar" then zX (Zgf qW (zX (cs.getD 0 qW))) else .node (.op w) cs
def mx(l:List Nat):Nat:=l.foldr max 0
theorem JI{l:List Nat}{m:Nat}:mx l<=m↔∀x∈l,x<=m:=by
 induction l with
 |nil=>simp[mx]
 |cons a r ih=>
  have e:mx (a::r)=max a (mx r):=rfl;rw[e,Nat.max_le,ih];simp
def hgt:Tr->Nat:=Y1 fun _ hs=>mx hs+1
theorem ZeF(t:Tr):hgt t=mx (t.ks.map hgt)+1:=Vb _ t
def dpt:Tr->Nat:=Y1 fun c ds=>match c with|.many _=>mx ds+2|_=>mx ds+1
theorem Qh(t:Tr):dpt t=match t.lb with|.many _=>mx (t.ks.map dpt)+2|_=>mx (t.ks.map dpt)+1:=Vb _ t
def psz(t:Tr):Nat:=(post t).length
theorem kJ(t:Tr):psz t=(t.ks.map psz).sum+1:=by
 have key:∀ks:List Tr,(Yr ks).length=(ks.map psz).sum:=by
  intro ks
  induction ks with
  |nil=>rfl
  |cons a r ih=>rw[Yr,fu,ih,fP,List.sum_cons];rfl
 unfold psz;rw[W4 t,fu,key];rfl
theorem Xv(t:Tr):1<=psz t:=by rw[kJ];omega
theorem At.hgt_le{K:W.Frag}{H:Hp}:∀{n:Nat}{v:V}{t:Tr},At K n H v t->hgt t<=n
 |0,_,_,h=>h.elim
 |n+1,v,t,⟨a,vs,e,sh,ok,l,q⟩=>by
  rw[ZeF];have:mx (t.ks.map hgt)<=n:=JI.mpr fun x hx=>by
   obtain⟨k,hk,rfl⟩:=fX.mp hx;obtain⟨i,hi,rfl⟩:=gu hk;exact At.hgt_le (q i _ _ (fj (by omega)) (fj hi))
  omega
theorem WN(c:Lb)(ks:List Tr):psz (.node c ks)=(ks.map psz).sum+1:=kJ _
def W6:List Str:=["not","next","until","before","since","some"]
def Us(c:Lb)(bs:List Bool):Bool:=bs.all id&&match c with
 |.yes=>bs.isEmpty
 |.sign _=>bs.isEmpty
 |.op w=>decide (w∈W6)
 |.wit _=>false
 |.many w=>decide (w = "and")&&decide (bs.length=2)
def isC:Tr->Bool:=Y1 Us
theorem ZcG(t:Tr):isC t=Us t.lb (t.ks.map isC):=Vb Us t
theorem YV(c:Lb)(ks:List Tr):isC (.node c ks)=Us c (ks.map isC):=ZcG _
theorem xK{t:Tr}(h:isC t=true):∀k∈t.ks,isC k=true:=by
 rw[ZcG] at h;unfold Us at h;rw[gb] at h;intro k hk;have:=gT.mp h.1 (isC k) (lT hk);exact this
def OkN:Nat->Tr->Prop
 |0,_=>False
 |n+1,t=>XN t.lb t.ks.length/\∀k∈t.ks,OkN n k
theorem At.ok{K:W.Frag}{H:Hp}:∀{n:Nat}{v:V}{t:Tr},At K n H v t->OkN n t
 |0,_,_,h=>h
 |n+1,v,t,⟨a,vs,e,sh,ok,l,q⟩=>⟨ok,fun k hk=>by
  obtain⟨i,hi,rfl⟩:=gu hk;exact At.ok (q i _ _ (fj (by omega)) (fj hi))⟩
def Bz:Nat->Nat
 |0=>1
 |n+1=>11*Bz n+35
theorem ZeE{t:Addr}(e:SqT K H t [.str "yes"]):At K (n+1) H (.ref t) (.node .yes []):=⟨t,[],rfl,⟨rfl,e⟩,rfl,rfl,fun i u k h=>by simp at h⟩
theorem QO{t:Addr}(e:SqT K H t [.str "sign",.str z])(hz:Yo z=true):At K (n+1) H (.ref t) (.node (.sign z) []):=⟨t,[],rfl,⟨rfl,e⟩,⟨rfl,hz⟩,rfl,fun i u k h=>by simp at h⟩
theorem ZbD{t:Addr}{w:Str}{u:V}{k:Tr}(e:SqT K H t [.str w,u])(hw:w∈W1)(h:At K n H u k):At K (n+1) H (.ref t) (.node (.op w) [k]):=⟨t,[u],rfl,e,.inl ⟨hw,rfl⟩,rfl,(AtL.one h).2⟩
theorem Zbz{t:Addr}{w:Str}{u:V}{k r:Tr}(e:SqT K H t [.str w,u,v])(hw:w∈W2)(h:At K n H u k)(g:At K n H v r):At K (n+1) H (.ref t) (.node (.op w) [k,r]):=⟨t,[u,v],rfl,e,.inr ⟨hw,rfl⟩,rfl,((AtL.one h).app (AtL.one g)).2⟩
theorem ZeU{t b:Addr}{w:Str}{us:List V}{ks:List Tr}(e:SqT K H t [.str w,.ref b])(eb:SqT K H b us)(h:AtL K n H us ks)(hw:w = "and" \/ w = "or")(hk:ks.length<=8):At K (n+1) H (.ref t) (.node (.many w) ks):=⟨t,us,rfl,⟨b,e,eb⟩,⟨hw,hk⟩,h.1,h.2⟩
theorem AtL.two{u:V}{a b:Tr}(h:At K n H u a)(g:At K n H v b):AtL K n H [u,v] [a,b]:=(AtL.one h).app (AtL.one g)
theorem Jx{xs:List V}{u:V}:atI (xs++[u]) (-1)=some u:=by
 have:=ZcK (xs:=xs++[u]) (k:=1) (by decide) (by simp);simpa using this
def dF(c:Lb)(ds:List PyData):PyData:=match c with
 |.yes=>.tuple [.str "yes"]
 |.sign s=>.tuple [.str "sign",.str s]
 |.op w=>.tuple (.str w::ds)
 |.wit m=>.tuple (.str "within" :: .int m::ds)
 |.many w=>.tuple [.str w,.tuple ds]
def dTr:Tr->PyData:=Y1 dF
theorem ko(t:Tr):dTr t=dF t.lb (t.ks.map dTr):=Vb dF t
theorem xu{K:W.Frag}{H:Hp}:∀{vs:List V}{ks:List Tr},vs.length=ks.length->(∀(i:Nat) u k,vs[i]?=some u->ks[i]?=some k->Dp K H u (dTr k))->Wg K H vs (ks.map dTr)
 |[],[],_,_=>.nil
 |v::vs,k::ks,hl,h=>.cons (h 0 v k rfl rfl) (xu (by simpa using hl) fun i u k h1 h2=>h (i+1) u k h1 h2)
 |[],k::ks,hl,_=>by cases hl
 |v::vs,[],hl,_=>by cases hl
theorem At.dp{K:W.Frag}{H:Hp}:∀{n:Nat}{v:V}{t:Tr},At K n H v t->Dp K H v (dTr t)
 |0,_,_,h=>h.elim
 |n+1,v,t,⟨a,vs,e,sh,ok,l,q⟩=>by
  have all:Wg K H vs (t.ks.map dTr):=xu l fun i u k h1 h2=>At.dp (q i u k h1 h2);rw[ko];subst e
  revert sh ok
  cases t.lb with
  |yes=>intro sh ok;exact .tup sh.2 (.cons (.str _) .nil)
  |sign s=>intro sh ok;exact .tup sh.2 (.cons (.str _) (.cons (.str _) .nil))
  |op w=>intro sh ok;exact .tup sh (.cons (.str _) all)
  |wit m=>intro sh ok;exact .tup sh (.cons (.str _) (.cons (.int _) all))
  |many w=>intro sh ok;obtain⟨b,h1,h2⟩:=sh;exact .tup h1 (.cons (.str _) (.cons (.tup h2 all) .nil))
theorem Zfl:∀w∈W1++W2,Yo w=true:=by decide +kernel
theorem ZeC:∀w∈(["and","or"]:List Str),Yo w=true:=by decide +kernel
theorem U5{s:Str}(h:Yo s=true):(PyData.str s).canLay0=true:=by simp[PyData.canLay0,Qw h]
theorem OkN.fine:∀{n:Nat}{t:Tr},OkN n t->Ug (dpt t) (dTr t)
 |0,_,h=>h.elim
 |n+1,t,⟨ok,h⟩=>by
  have ih:∀k∈t.ks,Ug (mx (t.ks.map dpt)) (dTr k):=fun k hk=>(OkN.fine (h k hk)).up ((JI (m:=mx (t.ks.map dpt))).mp (fh _) _ (lT hk));obtain⟨a,b⟩:=QX ih;rw[ko,Qh]
  revert ok
  cases t.lb with
  |yes=>
   intro ok;have y:=U5 (s := "yes") (by decide +kernel);exact⟨by simp[dF,PyData.canLay0,PyData.canLayAll0] at y ⊢; exact y,by simp[dF,PyData.depth,PyData.depthAll]⟩
  |sign s=>
   intro ok;have y:=U5 (s := "sign") (by decide +kernel);have z:=U5 ok.2;exact⟨by simp[dF,PyData.canLay0,PyData.canLayAll0] at y z ⊢; exact⟨y,z⟩,by simp[dF,PyData.depth,PyData.depthAll]⟩
  |op w=>
   intro ok;have y:=U5 (Zfl w (by rcases ok with ok|ok;exact gS _ ok.1;exact gi _ ok.1));refine⟨?_,?_⟩
   ·show(PyData.tuple (.str w::t.ks.map dTr)).canLay0=true
    rw[PyData.canLay0,PyData.canLayAll0,y,a];rfl
   ·show(PyData.tuple (.str w::t.ks.map dTr)).depth<=mx (t.ks.map dpt)+1
    simp only[PyData.depth,PyData.depthAll];omega
  |wit m=>
   intro ok;have y:=U5 (s := "within") (by decide +kernel);have z:(PyData.int m).canLay0=true:=by simp[PyData.canLay0]
   refine⟨?_,?_⟩
   ·show(PyData.tuple (.str "within" :: .int m::t.ks.map dTr)).canLay0=true
    rw[PyData.canLay0,PyData.canLayAll0,PyData.canLayAll0,y,z,a];rfl
   ·show(PyData.tuple (.str "within" :: .int m::t.ks.map dTr)).depth<=mx (t.ks.map dpt)+1
    simp only[PyData.depth,PyData.depthAll];omega
  |many w=>
   intro ok;have y:=U5 (ZeC w (by rcases ok.1 with rfl|rfl<;>simp));refine⟨?_,?_⟩
   ·show(PyData.tuple [.str w,.tuple (t.ks.map dTr)]).canLay0=true
    rw[PyData.canLay0,PyData.canLayAll0,PyData.canLayAll0,PyData.canLayAll0,y,PyData.canLay0,a];rfl
   ·show(PyData.tuple [.str w,.tuple (t.ks.map dTr)]).depth<=mx (t.ks.map dpt)+2
    simp only[PyData.depth,PyData.depthAll];omega
abbrev NW:List Str:=["yes","sign","and","or","within"]
inductive Fm(K:W.Frag)(H:Hp):V->Prop
 |noT {v:V}:Kd H v->XJ H "tuple" v=false->Fm K H v
 |emp {a:Addr}:SqT K H a []->Fm K H (.ref a)
 |noS {a:Addr}{x:V}{xs:List V}:SqT K H a (x::xs)->Kd H x->XJ H "str" x=false->Fm K H (.ref a)
 |yes {a:Addr}{xs:List V}:SqT K H a (.str "yes" :: xs)->xs.length≠0->Fm K H (.ref a)
 |sgnL {a:Addr}{xs:List V}:SqT K H a (.str "sign" :: xs)->xs.length≠1->Fm K H (.ref a)
 |sgn {a:Addr}{x:V}:SqT K H a [.str "sign",x]->Kd H x->Xf x=false->Fm K H (.ref a)
 |manyL {a:Addr}{w:Str}{xs:List V}:w∈(["and","or"]:List Str)->SqT K H a (.str w::xs)->xs.length≠1->Fm K H (.ref a)
 |manyN {a:Addr}{w:Str}{x:V}:w∈(["and","or"]:List Str)->SqT K H a [.str w,x]->Kd H x->XJ H "tuple" x=false->Fm K H (.ref a)
 |witL {a:Addr}{xs:List V}:SqT K H a (.str "within" :: xs)->xs.length≠3->Fm K H (.ref a)
 |witN {a:Addr}{x y z:V}:SqT K H a [.str "within",x,y,z]->Kd H x->j7 x=false->Fm K H (.ref a)
 |witM {a:Addr}{m:Int}{y z:V}:SqT K H a [.str "within",.int m,y,z]->¬(0<=m/\m<=5)->Fm K H (.ref a)
 |word {a:Addr}{w:Str}{xs:List V}:SqT K H a (.str w::xs)->w∈(["signs","Next"]:List Str)->Fm K H (.ref a)
 |lens {a:Addr}{w:Str}{i:Int}{xs:List V}:SqT K H a (.str w::xs)->w∉NW->(w,i)∈LK->((xs.length+1:Nat):Int)≠i->Fm K H (.ref a)
inductive Bt where
 |lf
 |nd (c:Lb) (ks:List Bt)
mutual
def bsz:Bt->Nat
 |.lf=>1
 |.nd _ ks=>ZfQ ks+1
def ZfQ:List Bt->Nat
 |[]=>0
 |b::r=>bsz b+ZfQ r
end
def Zc0:Lb->Nat->Prop
 |.yes,n=>XN .yes n
 |.sign s,n=>XN (.sign s) n
 |.op w,n=>XN (.op w) n
 |.wit m,n=>XN (.wit m) n
 |.many w,n=>(w = "and" \/ w = "or")/\n<=1000
theorem XN.b(h:XN c n):Zc0 c n:=by
 cases c with
 |many w=>exact⟨h.1,fK h.2 (by decide)⟩
 |yes=>exact h
 |sign s=>exact h
 |op w=>exact h
 |wit m=>exact h
def FmT(K:W.Frag)(H:Hp)(v:V):Prop:=∃a us c,v=.ref a/\UJ K H a us c/\Zc0 c us.length
theorem At.fmT{t:Tr}(h:At K n H v t):FmT K H v:=by
 cases n with
 |zero=>exact h.elim
 |succ n=>
  obtain⟨a,vs,e,sh,ok,l,_⟩:=h;exact⟨a,vs,t.lb,e,sh,by rw[l];exact ok.b⟩
inductive QE(K:W.Frag)(P:Params)(x:V)(y:V)(H:Hp)(Q:VK):Prop
 |mk (z:_) (D:_) (kvs:_) (b:_) (h0:x=.str z) (h1:y=.ref D) (h2:Ze4 K P D kvs) (h3:((b=true/\∃i,(z,i)∈kvs)\/(b=false/\W.nsIn K D z=some none))) (h4:Q (.bl b) H):QE K P x y H Q
def Zf9(K:W.Frag)(P:Params):R2:=fun x y H Q=>QE K P x y H Q
theorem Zc5{P:Params}(hK:X.K=K)(hw:X.w.params=P):OpR X (compareOp .In) (Zf9 K P):=by
 subst hK hw;intro cQ s U H x y v u Q I rx ry h;obtain⟨z,D,kvs,b,rfl,rfl,d,hb,q⟩:=h;obtain⟨t,rfl⟩:=(show ∃t,v=Value.str z t from rx);obtain rfl:u=Value.ref D:=ry;obtain⟨m,F⟩:=I.fr;obtain⟨es,n,lk,hk⟩:=d.ex;rcases hb with⟨rfl,i,hm⟩|⟨rfl,ea⟩
 ·obtain⟨t2,ea⟩:=d.at_ _ hm;exact W.topIn_K F I.mod.kin lk hk ea d.lo ⟨.bl true,H,I.tok _,rfl,q⟩
 ·exact W.topIn_K F I.mod.kin lk hk ea d.lo ⟨.bl false,H,I.tok _,rfl,q⟩
theorem qN{p:Prop}[Decidable p]{Q:VK}(h:¬p)(q:Q (.bl false) H):Q (.bl (decide p)) H:=by rw[gJ h];exact q
end L3
namespace L2
open PySem PySem.Spec PyProof.Rows
section
variable(P:Program)(w:World)
end
section
variable{a:Addr}
end
section
variable{x e:Addr}{o':HO}
end
section
variable{fs fs' ex ex':List Addr}{h2:Heap}{a x e:Addr}
end
section
variable{U:List (Option V)}
end
section
variable{a b:Expr}{ta tb:TE}
variable{tA tB':TT}{X3:List Expr}
end
section
variable{a:Addr}{xs ys:List V}
end
section
variable{st:Stmt}{X3:List Stmt}{t u:TS}
end
section
variable{a b c:Expr}{ta tb tc:TE}
end
section
variable{a b c:Expr}{ta tb tc:TE}
end
section
variable{x f:Addr}{name:Str}{v:Value}
end
section
variable{a:Addr}{fs fs':List (Str×V)}
end
section
variable{a:Addr}{fs:List (Str×V)}{f:Str}
end
section
variable{o value:Expr}{f:Str}{tpos:Pos}{ta tv:TE}
end
section
variable{c:Value}{b:Bool}
end
section
variable{es:List Expr}{t:TA}
end
section
variable{k:Nat}{f:Addr}{ps:List Str}{dvs:List V}{ds:List Value}{E:XK}{x m:Str}{p apos:Pos}{o:Expr}{es:List Expr}{ta:TE}{t:TA}
end
section
variable{k:Nat}{f:Addr}{ps ks:List Str}{E:XK}{x m:Str}{p apos kpos:Pos}{o:Expr}{es:List Expr}{kws:List Keyword}{ta:TE}{t tk:TA}{nm:Option Str}
variable{g:List Value->List Value->List Value}{gV:List V->List V->List V}
end
section
variable{x:Str}{p:Pos}{es:List Expr}{t:TA}{id:String}{r:List V->Hp->VK->Prop}
end
section
variable{κ:Type}[DecidableEq κ]
def Xc(kvs:List (κ×V))(k:κ):Option V:=(kvs.find? fun kv=>decide (kv.1=k)).map (·.2)
def WS(kvs:List (κ×V))(k:κ)(v:V):List (κ×V):=
 if(kvs.any fun kv=>decide (kv.1=k))=true then kvs.map (fun kv=>if kv.1=k then(kv.1,v) else kv) else kvs++[(k,v)]
theorem Xl{p:κ×V}{r:List (κ×V)}{k:κ}(e:p.1=k):Xc (p::r) k=some p.2:=by simp[Xc,lA,e]
theorem Xk{p:κ×V}{r:List (κ×V)}{k:κ}(e:¬p.1=k):Xc (p::r) k=Xc r k:=by simp[Xc,lA,e]
theorem ze(k:κ):∀kvs:List (κ×V),(kvs.any fun kv=>decide (kv.1=k))=(Xc kvs k).isSome
 |[]=>rfl
 |p::r=>by
  rw[me]
  by_cases e:p.1=k
  ·simp only[Xl e,gz e,mq,Option.isSome_some]
  ·rw[Xk e,gJ e,iK];exact ze k r
theorem Kb(k j:κ)(y:V):∀kvs:List (κ×V),Xc (kvs.map fun kv=>if kv.1=k then(kv.1,y) else kv) j=(Xc kvs j).map fun x=>if j=k then y else x
 |[]=>rfl
 |p::r=>by
  have ih:=Kb k j y r;rw[fP]
  by_cases h:p.1=k
  ·rw[if_pos h]
   by_cases e:p.1=j
   ·rw[Xl (p:=(p.1,y)) e,Xl e,nh,if_pos (e.symm.trans h)]
   ·rw[Xk (p:=(p.1,y)) e,Xk e,ih]
  ·rw[if_neg h]
   by_cases e:p.1=j
   ·rw[Xl (p:=p) e,Xl e,nh,if_neg (fun z=>h (e.trans z))]
   ·rw[Xk (p:=p) e,Xk e,ih]
theorem vO(k j:κ)(y:V):∀kvs:List (κ×V),Xc kvs k=none->Xc (kvs++[(k,y)]) j=if j=k then some y else Xc kvs j
 |[],_=>by
  by_cases e:k=j
  ·rw[if_pos e.symm];exact Xl (p:=(k,y)) e
  ·rw[if_neg (fun z=>e z.symm)];exact Xk (p:=(k,y)) e
 |p::r,hn=>by
  rw[mL];have hk:¬p.1=k:=fun z=>by rw[Xl z] at hn;cases hn
  rw[Xk hk] at hn;have ih:=vO k j y r hn
  by_cases e:p.1=j
  ·rw[Xl e,Xl e,if_neg (fun z=>hk (e.trans z))]
  ·rw[Xk e,Xk e,ih]
theorem Jr(kvs:List (κ×V))(k j:κ)(y:V):Xc (WS kvs k y) j=if j=k then some y else Xc kvs j:=by
 unfold WS
 by_cases a:(kvs.any fun kv=>decide (kv.1=k))=true
 ·rw[if_pos a,Kb];rw[ze] at a
  by_cases e:j=k
  ·obtain⟨x,hx⟩:=m5.mp a;rw[if_pos e,e,hx,nh,if_pos rfl]
  ·rw[if_neg e];cases Xc kvs j with
   |none=>rfl
   |some x=>rw[nh,if_neg e]
 ·rw[if_neg a];refine vO k j y kvs ?_;rw[ze] at a;cases q:Xc kvs k with
  |none=>rfl
  |some x=>rw[q] at a;exact(a rfl).elim
theorem X6(kvs:List (κ×V))(k:κ)(v:V):(WS kvs k v).length<=kvs.length+1:=by
 unfold WS
 split
 ·rw[fi];omega
 ·rw[fu,gp,List.length_nil];omega
theorem VV.isSome_eq{o:Option V}{u:Option Value}(r:VV o u):o.isSome=u.isSome:=by
 cases o with
 |none=>cases u with
  |none=>rfl
  |some _=>exact(show False from r).elim
 |some _=>cases u with
  |none=>exact(show False from r).elim
  |some _=>rfl
theorem VV.getD{o:Option V}{u:Option Value}{d:V}{d':Value}(r:VV o u)(rd:ZZ d d'):ZZ (o.getD d) (u.getD d'):=by
 cases o with
 |none=>cases u with
  |none=>exact rd
  |some _=>exact(show False from r).elim
 |some _=>cases u with
  |none=>exact(show False from r).elim
  |some _=>exact r
theorem KV.val{kvs:List (κ×V)}{vs:List (κ×Value)}(r:KV kvs vs)(k:κ):VV (Xc kvs k) (valueAt vs k):=by
 unfold KV at r
 induction r with
 |nil=>exact True.intro
 |@cons p q ps qs h t ih=>
  obtain⟨h1,h2⟩:=h
  by_cases e:p.1=k
  ·have e':q.1=k:=h1.symm.trans e;have b:valueAt (q::qs) k=some q.2:=by simp[valueAt,lA,e']
   rw[Xl e,b];exact h2
  ·have e':¬q.1=k:=fun z=>e (h1.trans z);have b:valueAt (q::qs) k=valueAt qs k:=by simp[valueAt,lA,e']
   rw[Xk e,b];exact ih
theorem KV.any{kvs:List (κ×V)}{vs:List (κ×Value)}(r:KV kvs vs)(k:κ):(kvs.any fun kv=>decide (kv.1=k))=vs.any fun kv=>decide (kv.1=k):=by
 unfold KV at r
 induction r with
 |nil=>rfl
 |cons h t ih=>rw[me,me,ih,h.1]
theorem KV.repl{kvs:List (κ×V)}{vs:List (κ×Value)}(r:KV kvs vs)(k:κ)(ry:ZZ y u) :
  KV (kvs.map fun kv=>if kv.1=k then(kv.1,y) else kv) (vs.map fun kv=>if kv.1=k then(kv.1,u) else kv):=by
 unfold KV at r ⊢
 induction r with
 |nil=>exact .nil
 |@cons p q ps qs h t ih=>
  rw[fP,fP];refine .cons ?_ ih;obtain⟨h1,h2⟩:=h
  by_cases e:p.1=k
  ·rw[if_pos e,if_pos (h1.symm.trans e)];exact⟨h1,ry⟩
  ·rw[if_neg e,if_neg (fun z=>e (h1.trans z))];exact⟨h1,h2⟩
theorem KV.put{kvs:List (κ×V)}{vs:List (κ×Value)}(r:KV kvs vs)(k:κ)(ry:ZZ y u):KV (WS kvs k y) (stored vs k u):=by
 unfold WS stored;rw[r.any k]
 by_cases e:(vs.any fun kv=>decide (kv.1=k))=true
 ·rw[if_pos e,if_pos e];exact r.repl k ry
 ·rw[if_neg e,if_neg e];exact Paired.snoc r ⟨rfl,ry⟩
theorem KV.length{kvs:List (κ×V)}{vs:List (κ×Value)}(r:KV kvs vs):kvs.length=vs.length:=l8 r
end
theorem Kf{k:Key}(r:ZZ (kV k) u):(ZC P w).is k u=true:=by
 cases k with
 |inl i=>obtain⟨t,e⟩:=(show ∃t,u=Value.int i t from r);subst e;exact Jw P w i t
 |inr x=>obtain⟨t,e⟩:=(show ∃t,u=Value.str x t from r);subst e;exact J8 P w x t
theorem zE{P:Program}{w:World}:∀{ks:List Key}{us:List Value},ZM (ks.map kV) us->ItemsAre (ZC P w) ks us
 |[],_,r=>by rw[List.map_nil] at r;cases r;exact .nil
 |k::ks,_,r=>by
  rw[fP] at r;cases r with
  |cons h t=>exact .cons (Kf h) (zE t)
abbrev KT(H:Hp):List (List Key×V)->List (List Key×Addr×Value)->Prop:=Paired fun p q=>p.1=q.1/\H q.2.1=some (.tup (p.1.map kV))/\ZZ p.2 q.2.2
theorem KT.val(r:KT H kvs xs)(k:List Key):VV (Xc kvs k) ((atKey xs k).map (·.2)):=by
 induction r with
 |nil=>exact True.intro
 |@cons p q ps qs h t ih=>
  obtain⟨h1,_,h2⟩:=h
  by_cases e:p.1=k
  ·have e':q.1=k:=h1.symm.trans e;have b:atKey (q::qs) k=some q.2:=by simp[atKey,lA,e']
   rw[Xl e,b];exact h2
  ·have e':¬q.1=k:=fun z=>e (h1.trans z);have b:atKey (q::qs) k=atKey qs k:=by simp[atKey,lA,e']
   rw[Xk e,b];exact ih
theorem KT.repl(r:KT H kvs xs)(k:List Key)(ry:ZZ y u) :
  KT H (kvs.map fun kv=>if kv.1=k then(kv.1,y) else kv) (xs.map (putAt k u)):=by
 induction r with
 |nil=>exact .nil
 |@cons p q ps qs h t ih=>
  rw[fP,fP];refine .cons ?_ ih;obtain⟨h1,h2,h3⟩:=h;unfold putAt
  by_cases e:p.1=k
  ·rw[if_pos e,if_pos (h1.symm.trans e)];exact⟨h1,h2,ry⟩
  ·rw[if_neg e,if_neg (fun z=>e (h1.trans z))];exact⟨h1,h2,h3⟩
theorem KT.put(r:KT H kvs xs)(k:List Key){b:Addr}(hb:H b=some (.tup (k.map kV)))(ry:ZZ y u) :
  KT H (WS kvs k y) (storedH xs k b u):=by
 have e:(kvs.any fun kv=>decide (kv.1=k))=(atKey xs k).isSome:=by
  rw[ze,(r.val k).isSome_eq,Option.isSome_map]
 unfold WS storedH;rw[e]
 by_cases q:(atKey xs k).isSome=true
 ·rw[if_pos q,if_pos q];exact r.repl k ry
 ·rw[if_neg q,if_neg q];exact Paired.snoc r ⟨rfl,hb,ry⟩
theorem KT.keeps(r:KT H kvs xs)(ht:∀b ys,H b=some (.tup ys)->H' b=some (.tup ys)):KT H' kvs xs:=
 Paired.mapP r fun _ _ z=>⟨z.1,ht _ _ z.2.1,z.2.2⟩
section
variable{a:Addr}
theorem Zeu{u:HO}(ok:HOk P w H h)(e:Rd H a u):YI P w H h a u:=e.ok ok
theorem JD{kvs:List (Key×V)}(ok:HOk P w H h)(e:Rd H a (.dK kvs)):kvs.length<=sizeLine/\(a==sysModules)=false/\∃vs,KV kvs vs/\h.DictOf (ZC P w) a vs:=
 show YI P w H h a (.dK kvs) from Zeu ok e
theorem Zd7{kvs:List (Key×V)}(ok:HOk P w H h)(e:H a=some (.dK kvs)):kvs.length<=sizeLine/\(a==sysModules)=false/\∃vs,KV kvs vs/\h.DictOf (ZC P w) a vs:=JD ok (.inl e)
theorem xk{ks:List Key}(ok:HOk P w H h)(e:H a=some (.tup (ks.map kV))):(tupleKind (ZC P w)).is h ks a:=by
 obtain⟨_,its,r,o,h1,h2,n,h3⟩:=(show YI P w H h a (.tup (ks.map kV)) from ok a _ e);exact⟨o,its.toArray,n,h1,h2,h3,by simpa using zE r⟩
theorem Jh(ok:HOk P w H h)(e:Rd H a (.dT kvs)):kvs.length<=sizeLine/\(a==sysModules)=false /\
  ∃xs,KT H kvs xs/\h.DictOfH (tupleKind (ZC P w)) a xs:=by
 obtain⟨z,y,xs,r,o,es,ep,h1,h2,h3,h4,h5⟩:=(show YI P w H h a (.dT kvs) from Zeu ok e);refine⟨z,y,xs,r,o,es,ep,h1,h2,h3,h4,fun x hx=>?_,h5⟩;have all:∀{l:List (List Key×V)}{m:List (List Key×Addr×Value)},KT H l m->∀x∈m,(tupleKind (ZC P w)).is h x.1 x.2.1:=by
  intro l m q
  induction q with
  |nil=>intro x hx;exact nomatch hx
  |@cons p q ps qs hq t ih=>
   intro x hx;rcases fF.mp hx with e|hx
   ·subst e;exact xk ok (by rw[<- hq.1];exact hq.2.1)
   ·exact ih x hx
 exact all r x hx
theorem Zev(ok:HOk P w H h)(e:H a=some (.dT kvs)):kvs.length<=sizeLine/\(a==sysModules)=false /\
  ∃xs,KT H kvs xs/\h.DictOfH (tupleKind (ZC P w)) a xs:=Jh ok (.inl e)
end
def jH(H:Hp)(a:Addr)(y:V)(r:Option V):Prop:=
 (∃kvs k,Rd H a (.dK kvs)/\y=kV k/\r=Xc kvs k)\/∃kvs k b,Rd H a (.dT kvs)/\y=.ref b/\H b=some (.tup (k.map kV))/\r=Xc kvs k
def Ja(H:Hp)(a:Addr)(y v:V)(H':Hp):Prop:=
 (∃kvs k,H a=some (.dK kvs)/\y=kV k/\kvs.length<sizeLine/\H'=upd H a (.dK (WS kvs k v))) \/
 ∃kvs k b,H a=some (.dT kvs)/\y=.ref b/\H b=some (.tup (k.map kV))/\kvs.length<sizeLine/\H'=upd H a (.dT (WS kvs k v))
theorem jH.k{H:Hp}{a:Addr}{kvs:List (Key×V)}{k:Key}(e:H a=some (.dK kvs)):jH H a (kV k) (Xc kvs k):=.inl ⟨kvs,k,.inl e,rfl,rfl⟩
theorem Ja.k{H:Hp}{a:Addr}{kvs:List (Key×V)}{k:Key}{v:V}(e:H a=some (.dK kvs))(hl:kvs.length<sizeLine):Ja H a (kV k) v (upd H a (.dK (WS kvs k v))):=.inl ⟨kvs,k,e,rfl,hl,rfl⟩
section
variable{a:Addr}{r:Value}{o:Option V}
theorem Inv.big(I:Inv X cQ U H s):sysModules<s.heap.objs.size:=by
 have h:mainGlobals<s.heap.objs.size:=(I.mod.glob.keeps I.bk).lt;exact Nat.lt_trans (by decide) h
theorem Za8(hu:A.units+1<cLine)(I:Inv X cQ U H s)(g:jH H a y (some v))(ry:ZZ y u)(h:∀w' s',Inv X cQ U H s'->ZZ v w'->Q w' s') :
  wpAny (model X.prog X.w) A (getItem (.ref a) u) Q E s:=by
 rcases g with⟨kvs,k,e,ey,l⟩|⟨kvs,k,b,e,ey,eb,l⟩
 ·subst ey;obtain⟨z,hd,vs,rel,dd⟩:=JD I.hok e;obtain⟨w',hw,rw'⟩:=VV.some_of (v:=v) (o:=valueAt vs k) (by rw[l];exact rel.val k);exact wpAny_getItem_of (Kf ry) dd.mapOf hw (h w' _ (I.tok _) rw')
 ·subst ey;cases (show u=Value.ref b from ry);obtain⟨z,hd,xs,rel,dd⟩:=Jh I.hok e;obtain⟨w',hw,rw'⟩:=VV.some_of (v:=v) (o:=(atKey xs k).map (·.2)) (by rw[l];exact rel.val k);obtain⟨p,hp,hp2⟩:=iw.mp hw;refine wpAny_getItem_heap (mr hu) (xk I.hok eb) dd hp ?_;rw[hp2];exact h w' _ (I.tok _) rw'
theorem UX{ob:HO}(I:Inv X cQ U H s)(mu:Mut (H a))(hs:Heap.SameBut a s.heap h')(he:∃q,h'.get? a=some q)(new:YI X.prog X.w (upd H a ob) h' a ob) :
  Inv X cQ U (upd H a ob) { s with heap:=h',toks:=t' }:=
 I.write (x:=a) (e:=a) mu (.inl rfl) (fun b q hb z=>(hs.2 b hb).trans z) he new
theorem Zbx{kvs:List (Key×V)}{vs:List (Key×Value)}(z:kvs.length<=sizeLine)(hd:(a==sysModules)=false)(rel:KV kvs vs)(dd:h'.DictOf (ZC P w) a vs) :
  YI P w H' h' a (.dK kvs):=⟨z,hd,vs,rel,dd⟩
theorem Zae{Q:Unit->Shared->Prop}(hu:A.units+1<cLine)(I:Inv X cQ U H s)(g:Ja H a y v H')(ry:ZZ y u)(rv:ZZ v r)(h:∀s',Inv X cQ U H' s'->Q () s') :
  wpAny (model X.prog X.w) A (setItem (.ref a) u r) Q E s:=by
 rcases g with⟨kvs,k,e,ey,l,eH⟩|⟨kvs,k,b,e,ey,eb,l,eH⟩
 ·subst ey eH;obtain⟨z,hd,vs,rel,dd⟩:=Zd7 I.hok e;have hz:vs.length<=sizeLine:=by rw[<- rel.length];exact z
  have hl:(WS kvs k v).length<=sizeLine:=by have:=X6 kvs k v;omega
  refine wpAny_setItem_pairs (hsz:=hz) (Kf ry) dd fun h' dd' hs=>h _ ?_;have he:∃q,h'.get? a=some q:=let ⟨q,_,_,hq,_⟩:=dd'; ⟨q,hq⟩
  exact UX I (by rw[e];exact True.intro) hs he (Zbx hl hd (rel.put k rv) dd')
 ·subst ey eH;cases (show u=Value.ref b from ry);obtain⟨z,hd,xs,rel,dd⟩:=Zev I.hok e;have hz:xs.length<=sizeLine:=by rw[<- l8 rel];exact z
  have hl:(WS kvs k v).length<=sizeLine:=by have:=X6 kvs k v;omega
  refine wpAny_setItem_heap (hsz:=hz) (mr hu) (xk I.hok eb) dd fun h' dd' hs=>h _ ?_;obtain⟨q,es,ep,hq,h2,h3,h4,_,h5⟩:=dd';refine UX I (by rw[e];exact True.intro) hs ⟨q,hq⟩ ⟨hl,hd,_,(rel.put k eb rv).keeps fun c ys ec=>?_,q,es,ep,hq,h2,h3,h4,h5⟩;rw[Zx (VE ec e (fun z=>nomatch z))];exact ec
end
section
variable{a:Addr}{kvs:List (Key×V)}{k:Key}
end
def Zfh(i:Expr):Prop:=∀ov iv,subscripted i false ov iv=operate [ov,iv] (getItem ov iv)
theorem QM{value slice:Expr}{id:String}
  (hl:typeLookup (.type T) "__getitem__" = pure (some (.builtin id))) (hs:Zfh slice)
  (h:wpAny (model prog w) A (eval value env) (fun o s₁=>wpAny (model prog w) A (eval slice env) (fun i s₂=>s₂.TypeIs o T/\wpAny (model prog w) A (getItem o i) Q E s₂) E s₁) E s) :
  wpAny (model prog w) A (eval (.Subscript value slice pos) env) Q E s:=by
 refine Subscript_ (hU h (fun o s₁ h₁=>hU h₁ (fun i s₂ h₂=>?_) fun _ _ x=>x) fun _ _ x=>x);obtain⟨hT,h₂⟩:=h₂;unfold subscriptTail;refine fg ?_;rw[getitemInPython_of_ne hT.not_modules];refine fg (mJ hT hl ?_);have fin:wpAny (model prog w) A (subscripted slice false o i) (fun r s₃=>wpAny (model prog w) A (letTemporaryGo value o r >>= fun _=>pure r) Q E s₃) E s₂:=by
  rw[hs o i];exact wpAny_operating (hU h₂ (fun r s₃ h₃=>fg (wpAny_letTemporaryGo (fq h₃))) fun _ _ x=>x)
 first
  |exact fq (fg fin)
  |exact fg (fq (fg fin))
  |exact fg fin
theorem JZ{a:Addr}{o:Option V}(I:Inv X cQ U H s)(g:jH H a y o):s.TypeIs (.ref a) "dict" := by
 rcases g with⟨kvs,k,e,_,_⟩|⟨kvs,k,b,e,_,_,_⟩
 ·obtain⟨_,_,vs,_,dd⟩:=JD I.hok e;exact dd.typeIs
 ·obtain⟨_,_,xs,_,dd⟩:=Jh I.hok e;exact dd.typeIs
def ZgA(td ty:TE):TE:=fun U H Q=>td U H fun x H1=>ty U H1 fun y H2=>∃a v,x=.ref a/\jH H2 a y (some v)/\Q v H2
def ZgD(td ty tv:TE):TS:=fun D U H=>tv U H fun v H1=>td U H1 fun x H2=>ty U H2 fun y H3=>∃a H4,x=.ref a/\Ja H3 a y v H4/\D.nx U H4
section
variable{o i value:Expr}{tpos:Pos}{td ty tv:TE}
theorem ZdM(hu:X.A.units+1<cLine)(ho:PE X o td)(hi:PE X i ty)(hs:Zfh i):PE X (.Subscript o i pos) (ZgA td ty):=by
 intro cQ s U H Q I h;refine QM PySem.F.slot_dict_getitem.lookup hs (thn (ho cQ s U H _ I h) fun u s1 ⟨x,H1,I1,rx,q1⟩=>thn (hi cQ s1 U H1 _ I1 q1) fun iv s2 ⟨y,H2,I2,ry,a,v,ex,g,q2⟩=>?_);subst ex;obtain rfl:u=Value.ref a:=rx;exact⟨JZ I2 g,Za8 hu I2 g ry fun w' s3 I3 rw'=>⟨v,H2,I3,rw',q2⟩⟩
theorem ZdO(hu:X.A.units+1<cLine)(ho:PE X o td)(hi:PE X i ty)(hv:PE X value tv)(hs:swapsWith value (some (.Subscript o i pos')) pos.line X.env=pure false) :
  PS X (.Assign [.Subscript o i pos'] value pos) (ZgD td ty tv):=by
 intro cQ s U H D I h;refine wpAny_Assign_Subscript (thn (hv cQ s U H _ I h) fun r s1 ⟨v,H1,I1,rv,q1⟩=>thn (ho cQ s1 U H1 _ I1 q1) fun u s2 ⟨x,H2,I2,rx,q2⟩=>thn (hi cQ s2 U H2 _ I2 q2) fun iv s3 ⟨y,H3,I3,ry,a,H4,ex,g,q3⟩=>?_) hs;subst ex;obtain rfl:u=Value.ref a:=rx;exact Zae hu I3 g ry rv fun s4 I4=>⟨U,H4,I4,q3⟩
end
theorem zq(h:Heap)(hb:sysModules<h.objs.size):YI P w H (h.push { cls:=.type "dict",data:=.dict #[] }) h.objs.size (.dK []):=
 ⟨gk _,iW.mpr (fJ (fE hb)),[],.nil,Heap.DictOf.new h⟩
theorem ZbW(h:Heap)(hb:sysModules<h.objs.size):YI P w H (h.push { cls:=.type "dict",data:=.dict #[] }) h.objs.size (.dT []):=
 ⟨gk _,iW.mpr (fJ (fE hb)),[],.nil,_,#[],0,fR _ rfl,⟨rfl,rfl,rfl⟩,rfl,rfl,iy⟩
def KY:TE:=fun _ H Q=>∀p,H p=none->Q (.ref p) (upd H p (.dK []))
theorem pe_dnewK:PE X (.Dict [] [] pos) KY:=fun cQ s U H Q I h=>
 wpAny_Dict_empty ⟨.ref s.heap.objs.size,_,I.laid (a:=s.heap.objs.size) (o:=.dK []) (t':=s.toks) (fun _ _ q=>fz _ q) (fh _) (zq s.heap I.big),rfl,h _ (I.hok.fresh (fh _))⟩
structure M1(X:Cx)(o:Expr)(m:Str)(apos:Pos)(e:Expr)(cpos:Pos):Prop where
 base:attributeBase o m X.env (eval o X.env)=eval o X.env
 few:((backTo cpos (starEach [e] X.env)).all (fun x=>!x.1)&&(backToKw cpos (keywordEach [] X.env)).all (fun x=>x.1.isSome)
  && decide (([e]:List Expr).length+([]:List Keyword).length+(if([]:List Keyword).isEmpty then 0 else 1)<30))=true
 line:(apos.endLine==cpos.line)=true
 trees:backTo cpos (starEach [e] X.env)=[(false,eval e X.env)]
structure M2(X:Cx)(o:Expr)(m:Str)(apos:Pos)(e f:Expr)(cpos:Pos):Prop where
 base:attributeBase o m X.env (eval o X.env)=eval o X.env
 few:((backTo cpos (starEach [e,f] X.env)).all (fun x=>!x.1)&&(backToKw cpos (keywordEach [] X.env)).all (fun x=>x.1.isSome)
  && decide (([e,f]:List Expr).length+([]:List Keyword).length+(if([]:List Keyword).isEmpty then 0 else 1)<30))=true
 line:(apos.endLine==cpos.line)=true
 trees:backTo cpos (starEach [e,f] X.env)=[(false,eval e X.env),(false,eval f X.env)]
def IsD(H:Hp)(a:Addr):Prop:=(∃kvs,Rd H a (.dK kvs))\/∃kvs,Rd H a (.dT kvs)
theorem Ze8{a:Addr}(I:Inv X cQ U H s)(d:IsD H a) :
  s.TypeIs (.ref a) "dict" /\ (∀b,Value.ref a=.ref b->∃ob,s.heap.get? b=some ob/\ob.dict=none)/\(a==sysModules)=false:=by
 rcases d with⟨kvs,e⟩|⟨kvs,e⟩
 ·obtain⟨_,hd,vs,_,dd⟩:=JD I.hok e;refine⟨dd.typeIs,fun b q=>?_,hd⟩;cases q;obtain⟨ob,_,_,h1,h2,_⟩:=dd;exact⟨ob,h1,h2.2.1⟩
 ·obtain⟨_,hd,xs,_,dd⟩:=Jh I.hok e;refine⟨dd.typeIs,fun b q=>?_,hd⟩;cases q;obtain⟨ob,_,_,h1,h2,_⟩:=dd;exact⟨ob,h1,h2.2.1⟩
section
variable{a:Addr}{d:V}{r:Value}{o:Option V}
theorem ZeQ(hu:A.units+1<cLine)(I:Inv X cQ U H s)(g:jH H a y o)(ry:ZZ y u)(h:∀w' s',Inv X cQ U H s'->ZZ (o.getD .non) w'->Q w' s') :
  wpAny (model X.prog X.w) A (call (.builtin "dict.get") [.ref a,u]) Q E s:=by
 rcases g with⟨kvs,k,e,ey,l⟩|⟨kvs,k,b,e,ey,eb,l⟩
 ·subst ey;obtain⟨z,hd,vs,rel,dd⟩:=JD I.hok e;refine call_meetsIn nN dd.typeIs PySem.F.entry_dict_get (PySem.F.args_dict_get_2 _ _) (meets_dict_get (ZC X.prog X.w) a (Kf ry) hd) ⟨_,dd.mapOf,h _ _ (I.tok _) ?_⟩;rw[l];exact(rel.val k).getD rfl
 ·subst ey;cases (show u=Value.ref b from ry);obtain⟨z,hd,xs,rel,dd⟩:=Jh I.hok e;refine call_meetsIn nN dd.typeIs PySem.F.entry_dict_get (PySem.F.args_dict_get_2 _ _) (meetsH_dict_get (tupleKind (ZC X.prog X.w)) a b hd) ⟨mr hu,k,xs,xk I.hok eb,dd,h _ _ (I.tok _) ?_⟩;rw[l];exact(rel.val k).getD rfl
end
def Zfa(td ty:TE):TE:=fun U H Q=>td U H fun x H1=>∃a,x=.ref a/\IsD H1 a/\ty U H1 fun y H2=>∃o,jH H2 a y o/\Q (o.getD .non) H2
section
variable{o f:Expr}{apos cpos:Pos}{td ty tx:TE}
theorem Zc1(hu:X.A.units+1<cLine)(ho:PE X o td)(he:PE X e ty)(m:M1 X o "get" apos e cpos):PE X (.Call (.Attribute o "get" apos) [e] [] cpos) (Zfa td ty):=by
 intro cQ s U H Q I h;refine wpAny_Call_method m.base m.few m.line PySem.F.plainAttrs_dict nN PySem.F.type_dict_get (thn (ho cQ s U H _ I h) fun u s1 ⟨x,H1,I1,rx,a,ex,d,q1⟩=>?_);subst ex;obtain rfl:u=Value.ref a:=rx;obtain⟨t1,t2,_⟩:=Ze8 I1 d;refine⟨t1,t2,?_⟩;rw[m.trees];refine Calls.callWith_builtin rfl (Calls.evalArgs_plain (Calls.spliced_cons (thn (he cQ s1 U H1 _ I1 q1) fun iv s2 ⟨y,H2,I2,ry,ov,g,q2⟩=>Calls.spliced_nil ?_)));exact ZeQ hu I2 g ry fun w' s3 I3 rw'=>⟨_,H2,I3,rw',q2⟩
end
section
variable{a:Addr}{kvs:List (Key×V)}
end
section
variable{a:Addr}
end
end L2
namespace Att
open PySem PySem.W PySem.Calls PyProof.Rows
section
variable{K:Frag}
end
end Att
namespace L2
open PySem PySem.Spec PyProof.Rows
section
variable[DecidableEq κ]
end
end L2
namespace L3
open PySem PySem.Spec PyProof.Rows L2
def Zf2(K:W.Frag)(neg:Bool):R2:=fun x y H Q=>∃ds d,Dp K H y (.list ds)/\Dp K H x d/\PyData.canLayAll0 ds=true/\d.canLay0=true/\d.depth<=190/\Q (.bl (if neg then !(ds.any fun z=>PyData.eqv z d) else ds.any fun z=>PyData.eqv z d)) H
theorem Zaq(hK:X.K=K)(hu:X.A.units+195<cLine):OpR X (compareOp .NotIn) (Zf2 K true):=by
 subst hK;intro cQ s U H x y u v Q I rx ry h;obtain⟨ds,d,hy,hx,c1,c2,dp,q⟩:=h;obtain⟨as,a⟩:=hy.reads I ry;obtain⟨bs,b⟩:=hx.reads I rx;exact SeqAt.notIn_list_reads a b c1 c2 (by have:=m6 (PyData.depthAll ds) d.depth;omega) ⟨.bl _,H,I,rfl,q⟩
def Zgy:List V->Hp->VK->Prop:=fun xs H Q=>xs=[]/\∀a,H a=none->Q (.ref a) (upd H a (.set (fun _=>false) 0))
theorem ZaO:Yw X (.type "set") Zgy:=by
 intro cQ s U H xs us Q I r h;obtain⟨rfl,q⟩:=h;have hu:us=[]:=by cases r;rfl
 subst hu;refine call_set_0 fun led=>⟨.ref s.heap.objs.size,_,I.laid (t':=s.toks) (o:=.set (fun _=>false) 0) (fun b ob q=>fz _ q) (fh _) ?_,rfl,q _ (I.hok.fresh (fh _))⟩;exact(setObjOf_fresh (knd:=intKind X.prog X.w) led).setOf (fR _ rfl) (by decide)
def ZdE:V->List V->Hp->VK->Prop:=fun x vs H Q=>∃a S n k,x=.ref a/\vs=[.int k]/\H a=some (.set S n)/\n+1<4096/\Q .non (upd H a (.set (fun j=>S j||decide (j=k)) (if S k then n else n+1)))
theorem ZaM:MtM X "set.add" ZdE:=by
 intro cQ s U H x vs v us Q I rx rv h;obtain⟨a,S,n,k,rfl,rfl,ha,hn,q⟩:=h;cases rx;obtain⟨u,rfl,ru⟩:=rv.one;obtain⟨t,rfl⟩:=(show ∃t,u=Value.int k t from ru);have hS:s.heap.SetOf (intKind X.prog X.w) a S n:=I.hok a _ ha;refine call_set_add (knd:=intKind X.prog X.w) (k:=k) (by show Value.isInt k (.int k t)=true;simp[Value.isInt]) rfl hS hn fun h' sb hS'=>⟨.non,_,UX (ob:=.set (fun j=>S j||decide (j=k)) (if S k then n else n+1)) I (by rw[ha];exact True.intro) sb ?_ hS',rfl,q⟩;obtain⟨o,_,_,_,e,_⟩:=hS';exact⟨o,e⟩
def rInS(neg:Bool):R2:=fun x y H Q=>∃k a S n,x=.int k/\y=.ref a/\H a=some (.set S n)/\Q (.bl (if neg then !S k else S k)) H
theorem ZaX:OpR X (compareOp .NotIn) (rInS true):=by
 intro cQ s U H x y v u Q I rx ry h;obtain⟨k,a,S,n,rfl,rfl,ha,q⟩:=h;obtain⟨t,rfl⟩:=(show ∃t,v=Value.int k t from rx);obtain rfl:u=Value.ref a:=ry;have hS:s.heap.SetOf (intKind X.prog X.w) a S n:=I.hok a _ ha;exact wpAny_notInSet_of (knd:=intKind X.prog X.w) (k:=k) (by show Value.isInt k (.int k t)=true;simp[Value.isInt]) rfl hS ⟨.bl _,H,I.tok _,rfl,q⟩
section
open Classical
noncomputable def Vc(A:List Tr)(t:Tr):List Tr:=if t∈A then A else A++[t]
noncomputable def Zk(A L:List Tr):List Tr:=L.foldl Vc A
theorem Uw(A:List Tr):Zk A []=A:=rfl
theorem XA(A:List Tr)(x:Tr)(L:List Tr):Zk A (x::L)=Zk (Vc A x) L:=rfl
theorem Yh(A L M:List Tr):Zk A (L++M)=Zk (Zk A L) M:=List.foldl_append
theorem Uq{A:List Tr}{t:Tr}(h:t∈A):Vc A t=A:=if_pos h
theorem Vo{A:List Tr}{t:Tr}(h:t∉A):Vc A t=A++[t]:=if_neg h
theorem yV{A:List Tr}{t x:Tr}:x∈Vc A t↔x∈A\/x=t:=by
 unfold Vc
 split
 ·rename_i h
  exact⟨.inl,fun z=>z.elim id fun e=>by rw[e];exact h⟩
 ·simp
theorem ZJ:∀{L A:List Tr}{x:Tr},x∈Zk A L↔x∈A\/x∈L
 |[],A,x=>by simp[Uw]
 |t::r,A,x=>by rw[XA,ZJ,yV,fF,or_assoc]
theorem yO{A:List Tr}{t:Tr}(h:A.Nodup):(Vc A t).Nodup:=by
 unfold Vc
 split
 ·exact h
 ·rename_i n
  rw[li];exact⟨h,by simp,fun a ha b hb e=>n (by rw[fM.mp hb] at e;rw[<- e];exact ha)⟩
theorem YD:∀{L A:List Tr},A.Nodup->(Zk A L).Nodup
 |[],_,h=>h
 |t::r,A,h=>by rw[XA];exact YD (yO h)
theorem Vp:∀{L A:List Tr},(∀x∈L,x∈A)->Zk A L=A
 |[],_,_=>rfl
 |t::r,A,h=>by
  rw[XA,Uq (h t (by simp))];exact Vp fun x hx=>h x (fS _ hx)
theorem J6(A:List Tr)(t:Tr):∃B,Vc A t=A++B:=by
 unfold Vc
 split
 ·exact⟨[],by simp⟩
 ·exact⟨[t],rfl⟩
theorem Wo:∀(L A:List Tr),∃B,Zk A L=A++B
 |[],A=>⟨[],by simp[Uw]⟩
 |t::r,A=>by
  obtain⟨B,e⟩:=J6 A t;obtain⟨C,e2⟩:=Wo r (Vc A t);exact⟨B++C,by rw[XA,e2,e,iG]⟩
theorem qH:∀(L A:List Tr),(Zk A L).length<=A.length+L.length
 |[],A=>by simp[Uw]
 |t::r,A=>by
  have:=qH r (Vc A t);have h:(Vc A t).length<=A.length+1:=by
   unfold Vc
   split<;>simp
  rw[XA,gp];omega
theorem J3(A L:List Tr):Zk A (Zk [] L)=Zk A L:=by
 have key:∀(n:Nat) (L:List Tr),L.length=n->Zk A (Zk [] L)=Zk A L:=by
  intro n
  induction n with
  |zero=>intro L h;rw[gC.mp h];rfl
  |succ n ih=>
   intro L h;have hne:L≠[]:=fun e=>by rw[e] at h;simp at h
   rw[<- nM hne];generalize hM:L.dropLast=M;generalize L.getLast hne=x;have hl:M.length=n:=by rw[<- hM,m7];omega
   have e:=ih M hl;rw[Yh [] M [x],Yh A M [x]]
   show Zk A (Vc (Zk [] M) x)=Vc (Zk A M) x
   by_cases hx:x∈M
   ·rw[Uq (ZJ.mpr (.inr hx)),Uq (ZJ.mpr (.inr hx)),e]
   ·rw[Vo (fun z=>hx ((ZJ.mp z).resolve_left (by simp))),Yh,e];rfl
 exact key _ L rfl
end
def ZI(t:Tr):List Tr:=match t.lb with
 |.op w=>if w = "some" then[] else t.ks
 |_=>t.ks
mutual
def Zp:Tr->List Tr
 |.node c ks=>(match c with|.op w=>if w = "some" then[] else Vr ks|_=>Vr ks)++[.node c ks]
def Vr:List Tr->List Tr
 |[]=>[]
 |t::r=>Zp t++Vr r
end
theorem X7:∀ks:List Tr,Vr ks=(ks.map Zp).flatten
 |[]=>by rw[Vr];rfl
 |t::r=>by rw[Vr,X7 r];rfl
theorem Xx(t:Tr):Zp t=(( ZI t).map Zp).flatten++[t]:=by
 cases t with
 |node c ks=>
  cases c with
  |op w=>
   have e:Zp (.node (.op w) ks)=(if w = "some" then[] else Vr ks)++[.node (.op w) ks]:=by rw[Zp]
   rw[e]
   show _=((if w = "some" then[] else ks).map Zp).flatten++_
   split
   ·rfl
   ·rw[X7]
  |yes=>rw[show Zp (.node .yes ks)=Vr ks++[.node .yes ks] from(by rw[Zp];intro w z;cases z),X7];rfl
  |sign z=>rw[show Zp (.node (.sign z) ks)=Vr ks++[.node (.sign z) ks] from(by rw[Zp];intro w z;cases z),X7];rfl
  |wit m=>rw[show Zp (.node (.wit m) ks)=Vr ks++[.node (.wit m) ks] from(by rw[Zp];intro w z;cases z),X7];rfl
  |many w=>rw[show Zp (.node (.many w) ks)=Vr ks++[.node (.many w) ks] from(by rw[Zp];intro w z;cases z),X7];rfl
theorem Yv{t k:Tr}(h:k∈ZI t):k∈t.ks:=by
 unfold ZI at h
 split at h
 ·split at h
  ·cases h
  ·exact h
 ·exact h
theorem YG{t k:Tr}(h:k∈t.ks):psz k<psz t:=by
 rw[kJ t];have:∀(l:List Nat) (n:Nat),n∈l->n<=l.sum:=by
  intro l
  induction l with
  |nil=>intro n h;cases h
  |cons a r ih=>
   intro n h;rw[List.sum_cons];rcases fF.mp h with rfl|h
   ·omega
   ·have:=ih n h;omega
 have:=this _ _ (lT (f:=psz) h);omega
theorem qK(t:Tr):t∈Zp t:=by rw[Xx];simp
theorem WO{t x:Tr}(h:x∈Zp t):x=t\/∃k∈ZI t,x∈Zp k:=by
 rw[Xx,fG] at h;rcases h with h|h
 ·obtain⟨l,hl,hx⟩:=iz.mp h;obtain⟨k,hk,rfl⟩:=fX.mp hl;exact .inr ⟨k,hk,hx⟩
 ·exact .inl (fM.mp h)
theorem je{t k x:Tr}(h:k∈ZI t)(hx:x∈Zp k):x∈Zp t:=by
 rw[Xx,fG];exact .inl (iz.mpr ⟨_,lT h,hx⟩)
theorem V1:∀(n:Nat) {t x:Tr},psz t<=n->x∈Zp t->psz x<=psz t
 |0,t,x,h,_=>by have:=Xv t;omega
 |n+1,t,x,h,hx=>by
  rcases WO hx with rfl|⟨k,hk,hxk⟩
  ·exact fh _
  ·have h1:=YG (Yv hk);have h2:=V1 n (by omega) hxk;omega
theorem ya:∀(n:Nat) {t x y:Tr},psz t<=n->x∈Zp t->y∈Zp x->y∈Zp t
 |0,t,x,y,h,_,_=>by have:=Xv t;omega
 |n+1,t,x,y,h,hx,hy=>by
  rcases WO hx with rfl|⟨k,hk,hxk⟩
  ·exact hy
  ·have h1:=YG (Yv hk);exact je hk (ya n (by omega) hxk hy)
theorem Vf:∀(n:Nat) {t:Tr},psz t<=n->(Zp t).length<=psz t
 |0,t,h=>by have:=Xv t;omega
 |n+1,t,h=>by
  have key:∀ks:List Tr,(∀k∈ks,(Zp k).length<=psz k)->((ks.map Zp).flatten).length<=(ks.map psz).sum:=by
   intro ks
   induction ks with
   |nil=>intro _;simp
   |cons a r ih=>
    intro hk;have h1:=hk a (by simp);have h2:=ih fun k hk2=>hk k (fS _ hk2);rw[fP,i8,fu,fP,List.sum_cons];omega
  have hb:((ZI t).map psz).sum<=(t.ks.map psz).sum:=by
   unfold ZI
   split
   ·split
    ·simp
    ·exact fh _
   ·exact fh _
  have:=key (ZI t) fun k hk=>Vf n (by have:=YG (Yv hk);omega);rw[Xx,fu,kJ t,gn];omega
noncomputable def xP:List Tr->List Tr->List Tr
 |[],F=>F
 |t::w,F=>xP w (Zk F (Zp t))
def U0(F:List Tr):Prop:=∀x∈F,∀y∈Zp x,y∈F
theorem Qi:U0 []:=fun x h=>by cases h
theorem ZdQ{F:List Tr}{t:Tr}(hc:U0 F)(hk:∀k∈ZI t,k∈F)(ht:t∉F):Zk F (Zp t)=F++[t]/\U0 (F++[t]):=by
 have hs:∀x∈((ZI t).map Zp).flatten,x∈F:=fun x hx=>by
  obtain⟨l,hl,hx2⟩:=iz.mp hx;obtain⟨k,hk2,rfl⟩:=fX.mp hl;exact hc k (hk k hk2) x hx2
 refine⟨?_,fun x hx y hy=>?_⟩
 ·rw[Xx,Yh,Vp hs];exact Vo ht
 ·rcases fG.mp hx with hx|hx
  ·exact gS _ (hc x hx y hy)
  ·rw[fM.mp hx,Xx,fG] at hy;rcases hy with hy|hy
   ·exact gS _ (hs y hy)
   ·exact gi _ hy
theorem Zcl{F:List Tr}{t k:Tr}{a b:List Tr}(hc:U0 F)(hb:ZI t=a++k::b)(ha:∀x∈a,x∈F):Zk (Zk F (Zp k)) (Zp t)=Zk F (Zp t)/\U0 (Zk F (Zp k)):=by
 have hs:∀x∈(a.map Zp).flatten,x∈F:=fun x hx=>by
  obtain⟨l,hl,hx2⟩:=iz.mp hx;obtain⟨j,hj,rfl⟩:=fX.mp hl;exact hc j (ha j hj) x hx2
 have e:Zp t=(a.map Zp).flatten++(Zp k++((b.map Zp).flatten++[t])):=by
  rw[Xx,hb,fQ,mM,fP,i8];simp
 refine⟨?_,fun x hx y hy=>?_⟩
 ·rw[e,Yh,Yh (Zk (Zk F (Zp k)) _),Yh F,Yh (Zk F (a.map Zp).flatten)];rw[Vp hs,Vp (A:=Zk F (Zp k)) fun x hx=>ZJ.mpr (.inl (hs x hx)),Vp (A:=Zk F (Zp k)) fun x hx=>ZJ.mpr (.inr hx)]
 ·rcases ZJ.mp hx with hx|hx
  ·exact ZJ.mpr (.inl (hc x hx y hy))
  ·exact ZJ.mpr (.inr (ya _ (fh _) hx hy))
theorem yW:∀(w F:List Tr),∃B,xP w F=F++B
 |[],F=>⟨[],by simp[xP]⟩
 |t::w,F=>by
  obtain⟨B,e⟩:=Wo (Zp t) F;obtain⟨C,e2⟩:=yW w (Zk F (Zp t));exact⟨B++C,by rw[xP,e2,e,iG]⟩
def zS:List Tr->Prop
 |[]=>True
 |[_]=>True
 |t::s::r=>t∈ZI s/\zS (s::r)
theorem vP:∀{t:Tr}{w:List Tr},zS (t::w)->∀s∈w,psz t<psz s
 |t,[],_,s,h=>by cases h
 |t,a::r,⟨h1,h2⟩,s,h=>by
  have h3:=YG (Yv h1);rcases fF.mp h with rfl|h
  ·exact h3
  ·have:=vP h2 s h;omega
theorem jq:∀{w:List Tr}{m:Nat},zS w->(∀s∈w,psz s<=m)->w.length<=m
 |[],_,_,_=>by simp
 |[t],m,_,h=>by have:=h t (by simp);have:=Xv t;simp;omega
 |t::s::r,m,⟨h1,h2⟩,h=>by
  have h3:=YG (Yv h1);have:∀{w:List Tr}{t:Tr},zS (t::w)->∀m,(∀s∈(t::w),psz s<=m)->w.length+psz t<=m:=by
   intro w
   induction w with
   |nil=>intro t _ m hm;have:=hm t (by simp);simp;omega
   |cons a r ih=>
    intro t hc m hm;have h4:=YG (Yv hc.1);have:=ih hc.2 m fun s hs=>hm s (fS _ hs);rw[gp];omega
  have:=this (w:=s::r) (t:=t) ⟨h1,h2⟩ m h;have:=Xv t;simp at *;omega
def nK(is:List Nat):List Key:=is.map fun(i:Nat)=>(Sum.inl ((i:Nat):Int):Key)
def WV:Lb->List Nat->List Key
 |.yes,_=>[.inr "yes"]
 |.sign z,_=>[.inr "sign",.inr z]
 |.wit m,is=>.inr "within" :: .inl m::nK is
 |.op w,is=>.inr w::nK is
 |.many w,is=>.inr w::nK is
def UD(ps:List Tr)(t:Tr)(ks:List Key):Prop:=∃is:List Nat,is.length=t.ks.length/\(∀(j:Nat) k i,t.ks[j]?=some k->is[j]?=some i->ps[i]?=some k)/\ks=WV t.lb is
theorem UD.more{t x:Tr}{ks:List Key}(h:UD ps t ks):UD (ps++[x]) t ks:=by
 obtain⟨is,h1,h2,h3⟩:=h;refine⟨is,h1,fun j k i e1 e2=>?_,h3⟩;have:=h2 j k i e1 e2;rw[fW (fD.mp this).1];exact this
theorem kE:∀{a b:List Nat},nK a=nK b->a=b
 |[],[],_=>rfl
 |[],y::b,h=>by simp[nK] at h
 |x::a,[],h=>by simp[nK] at h
 |x::a,y::b,h=>by
  have h1:(Sum.inl (x:Int):Key)=Sum.inl (y:Int):=(iI h).1;have h2:nK a=nK b:=(iI h).2;have e:(x:Int)=y:=Sum.inl.inj h1;rw[kE h2,show x=y by omega]
theorem Xh:∀w∈W1++W2,w ≠ "yes" /\ w ≠ "sign" /\ w ≠ "within" /\ w ≠ "and" /\ w ≠ "or" := by decide +kernel
theorem Vq{w:Str}(h:XN (.op w) n):w∈W1++W2:=by
 rcases h with⟨h,_⟩|⟨h,_⟩
 ·exact gS _ h
 ·exact gi _ h
theorem xn:∃r,WV c is=.inr (Zy c)::r:=by
 cases c<;>exact⟨_,rfl⟩
theorem Zdp{c':Lb}{is':List Nat}(h1:XN c is.length)(h2:XN c' is'.length)(h:WV c is=WV c' is'):c=c'/\is=is':=by
 obtain⟨r,e⟩:=xn (c:=c) (is:=is);obtain⟨r',e'⟩:=xn (c:=c') (is:=is');have hw:Zy c=Zy c':=by
  rw[e,e'] at h;exact Sum.inr.inj (iI h).1
 clear e e' r r';have ny:¬(("sign" : Str) = "yes")/\¬(("within" : Str) = "yes")/\¬(("within" : Str) = "sign")/\¬(("and" : Str) = "yes")/\¬(("or" : Str) = "yes")/\¬(("and" : Str) = "sign")/\¬(("or" : Str) = "sign")/\¬(("and" : Str) = "within")/\¬(("or" : Str) = "within"):=by decide +kernel
 obtain⟨n1,n2,n3,n4,n5,n6,n7,n8,n9⟩:=ny;have z0:∀{l:List Nat},l.length=0->l=[]:=fun h=>gC.mp h;cases c with
 |yes=>
  cases c' with
  |yes=>exact⟨rfl,(z0 h1).trans (z0 h2).symm⟩
  |sign z=>exact absurd hw.symm n1
  |wit m=>exact absurd hw.symm n2
  |op w=>exact absurd hw.symm (Xh w (Vq h2)).1
  |many w=>rcases h2.1 with rfl|rfl;exact absurd hw.symm n4;exact absurd hw.symm n5
 |sign z=>
  cases c' with
  |yes=>exact absurd hw n1
  |sign z'=>
   have e:z=z':=Sum.inr.inj (iI (iI h).2).1;exact⟨by rw[e],(z0 h1.1).trans (z0 h2.1).symm⟩
  |wit m=>exact absurd hw.symm n3
  |op w=>exact absurd hw.symm (Xh w (Vq h2)).2.1
  |many w=>rcases h2.1 with rfl|rfl;exact absurd hw.symm n6;exact absurd hw.symm n7
 |wit m=>
  cases c' with
  |yes=>exact absurd hw n2
  |sign z=>exact absurd hw n3
  |wit m'=>
   have e:=(iI (iI h).2);exact⟨by rw[Sum.inl.inj e.1],kE e.2⟩
  |op w=>exact absurd hw.symm (Xh w (Vq h2)).2.2.1
  |many w=>rcases h2.1 with rfl|rfl;exact absurd hw.symm n8;exact absurd hw.symm n9
 |op w=>
  have wa:=Xh w (Vq h1);cases c' with
  |yes=>exact absurd hw wa.1
  |sign z=>exact absurd hw wa.2.1
  |wit m=>exact absurd hw wa.2.2.1
  |op w'=>exact⟨by rw[show w=w' from hw],kE (iI h).2⟩
  |many w'=>rcases h2.1 with rfl|rfl;exact absurd hw wa.2.2.2.1;exact absurd hw wa.2.2.2.2
 |many w=>
  cases c' with
  |yes=>rcases h1.1 with rfl|rfl;exact absurd hw n4;exact absurd hw n5
  |sign z=>rcases h1.1 with rfl|rfl;exact absurd hw n6;exact absurd hw n7
  |wit m=>rcases h1.1 with rfl|rfl;exact absurd hw n8;exact absurd hw n9
  |op w'=>rcases h1.1 with rfl|rfl;exact absurd hw.symm (Xh w' (Vq h2)).2.2.2.1;exact absurd hw.symm (Xh w' (Vq h2)).2.2.2.2
  |many w'=>exact⟨by rw[show w=w' from hw],kE (iI h).2⟩
theorem Q7{t s:Tr}{ks:List Key}(o1:XN t.lb t.ks.length)(o2:XN s.lb s.ks.length)(h:UD ps t ks)(g:UD ps s ks):t=s:=by
 obtain⟨is,h1,h2,h3⟩:=h;obtain⟨js,g1,g2,g3⟩:=g;obtain⟨e1,e2⟩:=Zdp (by rw[h1];exact o1) (by rw[g1];exact o2) (h3.symm.trans g3);subst e2;rw[Tr.eta t,Tr.eta s,e1]
 congr 1
 apply iR;intro j;have hl:t.ks.length=s.ks.length:=h1.symm.trans g1
 by_cases hj:j<t.ks.length
 ·have hji:j<is.length:=by rw[h1];exact hj
  have a:=h2 j _ _ (fj hj) (fj hji);have b:=g2 j _ _ (fj (by rw[<- hl];exact hj)) (fj hji);rw[fj hj,fj (by rw[<- hl];exact hj)];exact a.symm.trans b
 ·rw[gK (by omega),gK (by omega)]
theorem yI(nd:ps.Nodup){t:Tr}(h1:ps[i]?=some t)(h2:ps[j]?=some t):i=j:=by
 obtain⟨a,e1⟩:=fD.mp h1;obtain⟨b,e2⟩:=fD.mp h2;have pw:=mN.mp (List.nodup_iff_pairwise_ne.mp nd);rcases Nat.lt_trichotomy i j with h|h|h
 ·exact absurd (e1.trans e2.symm) (pw i j a b h)
 ·exact h
 ·exact absurd (e2.trans e1.symm) (pw j i b a h)
theorem Zd5(nd:ps.Nodup){t:Tr}{ks js:List Key}(h:UD ps t ks)(g:UD ps t js):ks=js:=by
 obtain⟨is,h1,h2,h3⟩:=h;obtain⟨is',g1,g2,g3⟩:=g;have e:is=is':=by
  apply iR;intro j
  by_cases hj:j<t.ks.length
  ·rw[fj (show j<is.length by omega),fj (show j<is'.length by omega)]
   congr 1
   exact yI nd (h2 j _ _ (fj hj) (fj (by omega))) (g2 j _ _ (fj hj) (fj (by omega)))
  ·rw[gK (by omega),gK (by omega)]
 rw[h3,g3,e]
def kP:Nat->List (List Key)->List (List Key×V)
 |_,[]=>[]
 |n,k::r=>(k,.int (n:Int))::kP (n+1) r
theorem Zb1:∀{n:Nat}{l:List (List Key)}{k:List Key},k∉l->Xc (kP n l) k=none
 |n,[],k,_=>rfl
 |n,a::r,k,h=>by
  have ha:a≠k:=fun e=>h (by rw[e];simp);have ih:=Zb1 (n:=n+1) (l:=r) (k:=k) fun z=>h (fS _ z);unfold Xc at ih ⊢;rw[kP,List.find?_cons_of_neg (by simpa using ha)];exact ih
theorem Qc:∀{n:Nat}{l:List (List Key)}{k:List Key}{i:Nat},l.Nodup->l[i]?=some k->Xc (kP n l) k=some (.int ((n+i:Nat):Int))
 |n,[],k,i,_,h=>by simp at h
 |n,a::r,k,0,_,h=>by
  have e:a=k:=by simpa using h
  unfold Xc;rw[kP,List.find?_cons_of_pos (by simpa using e)];rfl
 |n,a::r,k,i+1,nd,h=>by
  have hm:r[i]?=some k:=by simpa using h
  have ha:a≠k:=fun e=>(iq.mp nd).1 (by rw[e];exact fU hm);have ih:=Qc (n:=n+1) (l:=r) (k:=k) (iq.mp nd).2 hm;unfold Xc at ih ⊢;rw[kP,List.find?_cons_of_neg (by simpa using ha),show n+(i+1)=n+1+i by omega];exact ih
def VA(P R D:Addr)(H H':Hp):Prop:=∀b o,b≠P->b≠R->b≠D->H b=some o->H' b=some o
theorem VA.refl{P R:Addr}:VA P R D H H:=fun b o _ _ _ e=>e
theorem Ze.b{P R D:Addr}{H H':Hp}(s:Ze H H'):VA P R D H H':=fun b o _ _ _ e=>s _ _ e
theorem Q9(nd:ps.Nodup)(hl:rks.length=ps.length)(ok:∀t∈ps,XN t.lb t.ks.length)(hr:∀(i:Nat) t ks,ps[i]?=some t->rks[i]?=some ks->UD ps t ks) :
  rks.Nodup/\∀{t:Tr}{ks:List Key},XN t.lb t.ks.length->UD ps t ks->(∀i:Nat,ps[i]?=some t->rks[i]?=some ks)/\(t∉ps->ks∉rks):=by
 have same:∀(i j:Nat) ks,rks[i]?=some ks->rks[j]?=some ks->i=j:=fun i j ks h1 h2=>by
  have hi:=(fD.mp h1).1;have hj:=(fD.mp h2).1;have e1:ps[i]?=some ps[i]:=fj (by omega);have e2:ps[j]?=some ps[j]:=fj (by omega);have e:=Q7 (ok _ (fN _)) (ok _ (fN _)) (hr i _ _ e1 h1) (hr j _ _ e2 h2);rw[<- e] at e2;exact yI nd e1 e2
 refine⟨?_,fun {t ks} o1 h=>⟨fun i hi=>?_,fun hn hm=>?_⟩⟩
 ·rw[List.nodup_iff_pairwise_ne,mN];intro i j hi hj hij e;have:=same i j rks[i] (fj hi) (by rw[e];exact fj hj);omega
 ·have hi2:=(fD.mp hi).1;have e1:rks[i]?=some rks[i]:=fj (by omega);rw[Zd5 nd h (hr i t _ hi e1)];exact e1
 ·obtain⟨i,hi,e⟩:=gu hm;have e1:ps[i]?=some ps[i]:=fj (by omega);have:=Q7 o1 (ok _ (fN _)) h (hr i _ _ e1 (by rw[<- e];exact fj hi));exact hn (by rw[this];exact fN _)
theorem YA.units1{k:Nat}(r:YA k A):A.units+1<cLine:=by have:=r.un;omega
theorem Zgs(v:V):Yz "parts" v []=([("parts",v)]:List (Str×V)):=by
 simp[Yz]
abbrev XE:=List (List Key×Addr×V)
abbrev XPr:XE->List (List Key×Addr×Value)->Prop:=Paired fun p q=>p.1=q.1/\p.2.1=q.2.1/\ZZ p.2.2 q.2.2
def ZgI(Pm:Params)(a:Addr)(es:XE)(h:Heap):Prop:=es.length<=sizeLine/\(a==sysModules)=false/\∃(P:Program) (w:World) (xs:List (List Key×Addr×Value)),w.params=Pm/\XPr es xs /\
 ∃o fs ep,h.get? a=some o/\o.ExactDict/\o.data=.dict fs ep/\fs.toList=xs.map (entryOfKey (tupleKind (ZC P w)))/\(xs.map (·.1)).Nodup
def DxO(Pm:Params)(a:Addr)(es:XE):HO:=.ext (ZgI Pm a es)
theorem Zei{a:Addr}{es:XE}(x:ZgI Pm a es h):YI P w H h a (DxO Pm a es):=by
 refine⟨x,?_,?_⟩
 ·obtain⟨_,_,_,_,_,_,_,o,_,_,e,_⟩:=x;exact⟨o,e⟩
 ·rintro h1 h2 ⟨z,y,P',w',xs,hp,r,o,fs,ep,e,c⟩ k;exact⟨z,y,P',w',xs,hp,r,o,fs,ep,k _ e,c⟩
theorem KM{P':Program}{w':World}(h:w.params=w'.params):entryOfKey (tupleKind (ZC P w))=entryOfKey (tupleKind (ZC P' w')):=by
 have hk:ZcJ w=ZcJ w':=by
  funext k
  cases k with
  |inl i=>rfl
  |inr x=>show hashStr w x=hashStr w' x;unfold hashStr;rw[h]
 funext x
 unfold entryOfKey
 congr 1
 show tupleKeyHash (ZC P w) x.1=tupleKeyHash (ZC P' w') x.1
 unfold tupleKeyHash
 show reduceHash (Builtin.Tuple.tupleHashOf (x.1.map (ZcJ w)))=reduceHash (Builtin.Tuple.tupleHashOf (x.1.map (ZcJ w')))
 rw[hk]
def Zau(es:XE)(k:List Key):Option V:=Xc (es.map fun e=>(e.1,e.2.2)) k
theorem XPr.val{es:XE}(r:XPr es xs)(k:List Key):VV (Zau es k) ((atKey xs k).map (·.2)):=by
 induction r with
 |nil=>exact True.intro
 |@cons p q ps qs h t ih=>
  obtain⟨h1,_,h2⟩:=h;unfold Zau at ih ⊢;rw[fP]
  by_cases e:p.1=k
  ·have e':q.1=k:=h1.symm.trans e;have b:atKey (q::qs) k=some q.2:=by simp[atKey,lA,e']
   rw[Xl e,b];exact h2
  ·have e':¬q.1=k:=fun z=>e (h1.trans z);have b:atKey (q::qs) k=atKey qs k:=by simp[atKey,lA,e']
   rw[Xk e,b];exact ih
def Zdn(K:W.Frag)(Pm:Params)(H:Hp)(a:Addr)(y:V)(r:Option V):Prop:=∃es k b,H a=some (DxO Pm a es)/\y=.ref b/\SqT K H b (k.map kV)/\(∀e∈es,SqT K H e.2.1 (e.1.map kV))/\r=Zau es k
def Zf7(K:W.Frag)(Pm:Params)(H:Hp)(a:Addr)(y v:V)(H':Hp):Prop:=∃es k b,H a=some (DxO Pm a es)/\y=.ref b/\SqT K H b (k.map kV)/\(∀e∈es,SqT K H e.2.1 (e.1.map kV))/\Zau es k=none/\es.length<sizeLine/\H'=upd H a (DxO Pm a (es++[(k,b,v)]))
section
variable{U:L3.St}{a:Addr}{r:Value}{o:Option V}
theorem yC{ks:List Key}{b:Addr}(I:L2.Inv X cQ U H s)(e:SqT X.K H b (ks.map kV)):(tupleKind (ZC X.prog X.w)).is s.heap ks b:=by
 obtain⟨its,r,t,_⟩:=I.tuple e;obtain⟨o,h1,h2,n,h3⟩:=t;exact⟨o,its.toArray,n,h1,h2,h3,by simpa using zE r⟩
theorem Zb3{es:XE}(hw:X.w.params=Pm)(I:L2.Inv X cQ U H s)(e:H a=some (DxO Pm a es))(hk:∀e∈es,SqT X.K H e.2.1 (e.1.map kV)):es.length<=sizeLine/\(a==sysModules)=false/\∃xs,XPr es xs/\s.heap.DictOfH (tupleKind (ZC X.prog X.w)) a xs:=by
 obtain⟨⟨z,y,P,w,xs,hp,r,o,fs,ep,h1,h2,h3,h4,h5⟩,_⟩:=I.hok a _ e;refine⟨z,y,xs,r,o,fs,ep,h1,h2,h3,?_,fun x hx=>?_,h5⟩
 ·rw[h4,KM (P':=X.prog) (w':=X.w) (hp.trans hw.symm)]
 ·have all:∀{l:XE}{m:List (List Key×Addr×Value)},XPr l m->(∀e∈l,SqT X.K H e.2.1 (e.1.map kV))->∀x∈m,(tupleKind (ZC X.prog X.w)).is s.heap x.1 x.2.1:=by
   intro l m q
   induction q with
   |nil=>intro _ x hx;exact nomatch hx
   |@cons p q ps qs hq t ih=>
    intro hk x hx;rcases fF.mp hx with e|hx
    ·subst e;have:=hk p (by simp);rw[hq.1,hq.2.1] at this;exact yC I this
    ·exact ih (fun e he=>hk e (fS _ he)) x hx
  exact all r hk x hx
theorem ZaT(hw:X.w.params=Pm)(hu:A.units+1<cLine)(I:L2.Inv X cQ U H s)(g:Zdn X.K Pm H a y (some v))(ry:ZZ y u)(h:∀w' s',L2.Inv X cQ U H s'->ZZ v w'->Q w' s') :
  wpAny (model X.prog X.w) A (getItem (.ref a) u) Q E s:=by
 obtain⟨es,k,b,e,rfl,eb,hk,l⟩:=g;cases (show u=Value.ref b from ry);obtain⟨z,hd,xs,rel,dd⟩:=Zb3 hw I e hk;obtain⟨w',hw',rw'⟩:=VV.some_of (v:=v) (o:=(atKey xs k).map (·.2)) (by rw[l];exact rel.val k);obtain⟨p,hp,hp2⟩:=iw.mp hw';refine wpAny_getItem_heap (mr hu) (yC I eb) dd hp ?_;rw[hp2];exact h w' _ (I.tok _) rw'
theorem ZdI(hw:X.w.params=Pm)(hu:A.units+1<cLine)(I:L2.Inv X cQ U H s)(g:Zdn X.K Pm H a y o)(ry:ZZ y u)(h:∀s',L2.Inv X cQ U H s'->Q (.bool (!o.isSome)) s') :
  wpAny (model X.prog X.w) A (compareOp .NotIn u (.ref a)) Q E s:=by
 obtain⟨es,k,b,e,rfl,eb,hk,l⟩:=g;cases (show u=Value.ref b from ry);obtain⟨z,hd,xs,rel,dd⟩:=Zb3 hw I e hk;refine wpAny_notIn_heap (mr hu) (yC I eb) hd dd ?_;have q:=(rel.val k).isSome_eq;rw[Option.isSome_map] at q;rw[<- q,<- l];exact h _ (I.tok _)
theorem Zav{Q:Unit->Shared->Prop}(hw:X.w.params=Pm)(hu:A.units+1<cLine)(I:L2.Inv X cQ U H s)(g:Zf7 X.K Pm H a y v H')(ry:ZZ y u)(rv:ZZ v r)(h:∀s',L2.Inv X cQ U H' s'->Q () s') :
  wpAny (model X.prog X.w) A (setItem (.ref a) u r) Q E s:=by
 obtain⟨es,k,b,e,rfl,eb,hk,hn,hl,rfl⟩:=g;cases (show u=Value.ref b from ry);obtain⟨z,hd,xs,rel,dd⟩:=Zb3 hw I e hk;have hz:xs.length<=sizeLine:=by rw[<- l8 rel];exact z
 have hnone:atKey xs k=none:=by
  have q:=(rel.val k).isSome_eq;rw[hn,Option.isSome_map] at q;cases hh:atKey xs k with
  |none=>rfl
  |some p=>rw[hh] at q;cases q
 refine wpAny_setItem_heap (hsz:=hz) (mr hu) (yC I eb) dd fun h' dd' hs=>h _ ?_;rw[storedH_new hnone] at dd';obtain⟨q,fs,ep,hq,h2,h3,h4,_,h5⟩:=dd';refine UX (ob:=DxO Pm a (es++[(k,b,v)])) I (by rw[e];exact True.intro) hs ⟨q,hq⟩ (Zei ⟨by rw[fu,gn];omega,hd,X.prog,X.w,_,hw,Paired.snoc rel ⟨rfl,rfl,rv⟩,q,fs,ep,hq,h2,h3,h4,h5⟩)
end
def Zf3(K:W.Frag)(Pm:Params)(td ty:TE):TE:=fun U H Q=>td U H fun x H1=>ty U H1 fun y H2=>∃a v,x=.ref a/\Zdn K Pm H2 a y (some v)/\Q v H2
def ZdF(K:W.Frag)(Pm:Params)(ty td:TE):TE:=fun U H Q=>ty U H fun y H1=>td U H1 fun x H2=>∃a o,x=.ref a/\Zdn K Pm H2 a y o/\Q (.bl (!o.isSome)) H2
def Zgz(K:W.Frag)(Pm:Params)(td ty tv:TE):L2.TS:=fun D U H=>tv U H fun v H1=>td U H1 fun x H2=>ty U H2 fun y H3=>∃a H4,x=.ref a/\Zf7 K Pm H3 a y v H4/\D.nx U H4
def ZfW(Pm:Params):TE:=fun _ H Q=>∀p,H p=none->Q (.ref p) (upd H p (DxO Pm p []))
section
variable{o i value:Expr}{td ty tv:TE}
theorem Zfg{U:L3.St}{a:Addr}{es:XE}(I:L2.Inv X cQ U H s)(e:H a=some (DxO Pm a es)):s.TypeIs (.ref a) "dict" := by
 obtain⟨⟨_,_,_,_,_,_,_,o,_,_,h1,h2,_⟩,_⟩:=I.hok a _ e;exact⟨o,h1,h2.1⟩
theorem ZdU(hK:X.K=K)(hw:X.w.params=Pm)(hu:X.A.units+1<cLine)(ho:PE X o td)(hi:PE X i ty)(hs:Zfh i):PE X (.Subscript o i pos) (Zf3 K Pm td ty):=by
 subst hK;intro cQ s U H Q I h;refine QM PySem.F.slot_dict_getitem.lookup hs (thn (ho cQ s U H _ I h) fun u s1 ⟨x,H1,I1,rx,q1⟩=>thn (hi cQ s1 U H1 _ I1 q1) fun iv s2 ⟨y,H2,I2,ry,a,v,ex,g,q2⟩=>?_);subst ex;obtain rfl:u=Value.ref a:=rx;obtain⟨es,_,_,e,_⟩:=id g;exact⟨Zfg I2 e,ZaT hw hu I2 g ry fun w' s3 I3 rw'=>⟨v,H2,I3,rw',q2⟩⟩
theorem ZaE(hK:X.K=K)(hw:X.w.params=Pm)(hu:X.A.units+1<cLine)(hi:PE X i ty)(ho:PE X o td):PC X .NotIn i o (ZdF K Pm ty td):=by
 subst hK;intro cQ s U H Q I h;refine thn (hi cQ s U H _ I h) fun iv s1 ⟨y,H1,I1,ry,q1⟩=>thn (ho cQ s1 U H1 _ I1 q1) fun u s2 ⟨x,H2,I2,rx,a,ov,ex,g,q2⟩=>?_;subst ex;obtain rfl:u=Value.ref a:=rx;exact ZdI hw hu I2 g ry fun s3 I3=>⟨.bl (!ov.isSome),H2,I3,rfl,q2⟩
theorem ZdJ(hK:X.K=K)(hw:X.w.params=Pm)(hu:X.A.units+1<cLine)(ho:PE X o td)(hi:PE X i ty)(hv:PE X value tv)(hs:swapsWith value (some (.Subscript o i pos')) pos.line X.env=pure false) :
  PS X (.Assign [.Subscript o i pos'] value pos) (Zgz K Pm td ty tv):=by
 subst hK;intro cQ s U H D I h;refine wpAny_Assign_Subscript (thn (hv cQ s U H _ I h) fun r s1 ⟨v,H1,I1,rv,q1⟩=>thn (ho cQ s1 U H1 _ I1 q1) fun u s2 ⟨x,H2,I2,rx,q2⟩=>thn (hi cQ s2 U H2 _ I2 q2) fun iv s3 ⟨y,H3,I3,ry,a,H4,ex,g,q3⟩=>?_) hs;subst ex;obtain rfl:u=Value.ref a:=rx;exact Zav hw hu I3 g ry rv fun s4 I4=>⟨U,H4,I4,q3⟩
theorem Zd1(hw:X.w.params=Pm):PE X (.Dict [] [] pos) (ZfW Pm):=fun cQ s U H Q I h=>
 wpAny_Dict_empty ⟨.ref s.heap.objs.size,_,I.laid (a:=s.heap.objs.size) (o:=DxO Pm s.heap.objs.size []) (t':=s.toks) (fun _ _ q=>fz _ q) (fh _) (Zei ⟨gk _,iW.mpr (fJ (fE (Inv.big I))),X.prog,X.w,[],hw,.nil,_,#[],0,fR _ rfl,⟨rfl,rfl,rfl⟩,rfl,rfl,iy⟩),rfl,h _ (I.hok.fresh (fh _))⟩
end
open Classical in
theorem X5:∀{l₁ l₂:List Tr},l₁.Nodup->(∀x∈l₁,x∈l₂)->l₁.length<=l₂.length
 |[],_,_,_=>by simp
 |x::r,l₂,nd,h=>by
  obtain⟨h1,h2⟩:=iq.mp nd;have hx:=h x (by simp);have:=X5 (l₂:=l₂.erase x) h2 fun y hy=>(List.mem_erase_of_ne (fun e=>h1 (by rw[<- e];exact hy))).mpr (h y (fS _ hy));rw[List.length_erase_of_mem hx] at this;have:=nO hx;rw[gp];omega
theorem Wz:∀{ks:List Tr}{s:Tr},s∈Yr ks↔∃k∈ks,s∈post k
 |[],s=>by rw[Yr];simp
 |t::r,s=>by rw[Yr,fG,Wz];simp
theorem xA:∀(n:Nat) {t x y:Tr},psz t<=n->x∈post t->y∈post x->y∈post t
 |0,t,x,y,h,_,_=>by have:=Xv t;omega
 |n+1,t,x,y,h,hx,hy=>by
  rw[W4,fG,Wz] at hx;rcases hx with⟨k,hk,hx⟩|hx
  ·rw[W4,fG,Wz];exact .inl ⟨k,hk,xA n (by have:=YG hk;omega) hx hy⟩
  ·rw[fM.mp hx] at hy;exact hy
theorem YQ:∀(n:Nat) {t x:Tr},psz t<=n->x∈Zp t->x∈post t
 |0,t,x,h,_=>by have:=Xv t;omega
 |n+1,t,x,h,hx=>by
  rcases WO hx with rfl|⟨k,hk,hxk⟩
  ·exact Zcf _
  ·rw[W4,fG,Wz];exact .inl ⟨k,Yv hk,YQ n (by have:=YG (Yv hk);omega) hxk⟩
theorem yR(t:Tr):(Zk [] (Zp t)).length<=(Zk [] (post t)).length:=by
 refine X5 (YD (by simp)) fun y hy=>?_;rcases ZJ.mp hy with hy|hy
 ·cases hy
 ·exact ZJ.mpr (.inr (YQ _ (fh _) hy))
def Vv:Nat->List (List Key×Addr)->XE
 |_,[]=>[]
 |n,e::r=>(e.1,e.2,.int (n:Int))::Vv (n+1) r
theorem JQ:∀(n:Nat) (l:List (List Key×Addr)),(Vv n l).length=l.length
 |_,[]=>rfl
 |n,k::r=>by rw[Vv,gp,JQ,gp]
theorem jn:∀(n:Nat) (l:List (List Key×Addr)) (e:List Key×Addr),Vv n (l++[e])=Vv n l++[(e.1,e.2,.int ((n+l.length:Nat):Int))]
 |n,[],e=>rfl
 |n,a::r,e=>by rw[mL,Vv,jn (n+1) r e,Vv,gp,mL,show n+1+r.length=n+(r.length+1) by omega]
theorem ZcY:∀(n:Nat) (l:List (List Key×Addr)),(Vv n l).map (fun e=>(e.1,e.2.2))=kP n (l.map (·.1))
 |_,[]=>rfl
 |n,e::r=>by rw[Vv,fP,ZcY,fP,kP]
theorem jP(rows:List (List Key×Addr))(k:List Key):Zau (Vv 0 rows) k=Xc (kP 0 (rows.map (·.1))) k:=by unfold Zau;rw[ZcY]
theorem xR:∀{n:Nat}{l:List (List Key×Addr)}{e:List Key×Addr×V},e∈Vv n l->(e.1,e.2.1)∈l
 |_,[],e,h=>by cases h
 |n,a::r,e,h=>by
  rw[Vv] at h;rcases fF.mp h with rfl|h
  ·simp
  ·exact fS _ (xR h)
structure TbK(K:W.Frag)(Pm:Params)(C:Addr)(H:Hp)(r P R D:Addr)(ps:List Tr):Prop where
 obj:∃dx,H r=some (.ins C dx [("parts",.ref P),("rows",.ref R),("numbers",.ref D)])
 pl:∃n pv,H P=some (.lst pv)/\AtL K n H pv ps
 rl:∃rows:List (List Key×Addr),H R=some (.lst (rows.map fun e=>.ref e.2))/\rows.length=ps.length/\(∀e∈rows,SqT K H e.2 (e.1.map kV))/\(∀(i:Nat) t e,ps[i]?=some t->rows[i]?=some e->UD ps t e.1)/\H D=some (DxO Pm D (Vv 0 rows))
 nd:ps.Nodup
 pr:P≠R
theorem VA.t{P R:Addr}{pv rv:List V}{es:XE}(s:VA P R D H H')(h1:H P=some (.lst pv))(h2:H R=some (.lst rv))(h3:H D=some (DxO Pm D es)):YX H H':=fun K b xs h=>by
 have n:∀{o:HO},H b=some o->(∀ys,o≠.lst ys)->(∀φ,o≠.ext φ)->H' b=some o:=fun e q1 q2=>s _ _ (fun z=>by rw[z,h1] at e;cases e;exact q1 _ rfl) (fun z=>by rw[z,h2] at e;cases e;exact q1 _ rfl) (fun z=>by rw[z,h3] at e;cases e;exact q2 _ rfl) e;rcases h with(h|⟨o,h⟩)|h
 ·exact .inl (.inl (n h (fun _ z=>by cases z) (fun _ z=>by cases z)))
 ·exact .inl (.inr ⟨o,n h (fun _ z=>by cases z) (fun _ z=>by cases z)⟩)
 ·exact .inr h
theorem TbK.t{C:Addr}{H H':Hp}{r P R D:Addr}{ps:List Tr}(h:TbK K Pm C H r P R D ps)(s:VA P R D H H'):YX H H':=by
 obtain⟨n,pv,h1,_⟩:=h.pl;obtain⟨rows,h2,_,_,_,h3⟩:=h.rl;exact s.t h1 h2 h3
theorem TbK.mono{C:Addr}{H H':Hp}{r P R D:Addr}{ps:List Tr}(s:Ze H H')(h:TbK K Pm C H r P R D ps):TbK K Pm C H' r P R D ps:=by
 obtain⟨⟨dx,h0⟩,⟨n,pv,h1,h2⟩,⟨rows,g1,g2,g3,g4,g5⟩,nd,pr⟩:=h;exact⟨⟨dx,s _ _ h0⟩,⟨n,pv,s _ _ h1,h2.mono (nW s)⟩,⟨rows,s _ _ g1,g2,fun e he=>nW s _ _ _ (g3 e he),g4,s _ _ g5⟩,nd,pr⟩
theorem TbK.monoX{r P R F:Addr}{xs:List V}(s:Zs F H H')(hF:H F=some (.lst xs))(n1:P≠F)(n2:R≠F)(h:TbK K Pm C H r P R D ps):TbK K Pm C H' r P R D ps:=by
 obtain⟨⟨dx,h0⟩,⟨n,pv,h1,h2⟩,⟨rows,g1,g2,g3,g4,g5⟩,nd,pr⟩:=h;have u:YX H H':=Zs.tup s hF;exact⟨⟨dx,s _ _ (VE h0 hF (by intro z;cases z)) h0⟩,⟨n,pv,s _ _ n1 h1,h2.mono u⟩,⟨rows,s _ _ n2 g1,g2,fun e he=>u _ _ _ (g3 e he),g4,s _ _ (VE g5 hF (by intro z;cases z)) g5⟩,nd,pr⟩
theorem AtL.oks(h:AtL K n H vs ts):∀t∈ts,XN t.lb t.ks.length:=fun t ht=>by
 obtain⟨i,hi,e⟩:=gu ht;have hv:i<vs.length:=by rw[h.1];exact hi
 have:=h.2 i _ t (fj hv) (by rw[<- e];exact fj hi);cases n with
 |zero=>exact this.elim
 |succ n=>obtain⟨_,_,_,_,ok,_⟩:=this;exact ok
structure Zgo(K:W.Frag)(P:Params)(D:Addr)(kvs:List (Str×Addr)):Prop where
 ex:∃(es:Array DictEntry) (n:Nat),K.lookup D=some ⟨.type "dict",none,.dict es n,#[]⟩/\W.KeysLit P es.toList
 at_:∀p∈kvs,W.nsIn K D p.1=some (some (.ref p.2))
 lo:(D==sysModules)=false
inductive Zct(K:W.Frag)(P:Params)(x:V)(y:V)(H:Hp)(Q:VK):Prop
 |mk (D:Addr) (z:Str) (kvs:List (Str×Addr)) (f:Addr) (h0:x=.ref D) (h1:y=.str z) (h2:Zgo K P D kvs) (h3:(z,f)∈kvs) (h4:Q (.ref f) H):Zct K P x y H Q
def rIxF(K:W.Frag)(P:Params):R2:=fun x y H Q=>Zct K P x y H Q
section
variable{P:Params}
theorem Zdg(hK:X.K=K)(hw:X.w.params=P):IxR X (rIxF K P):=by
 subst hK hw;intro value slice cQ s U H x y v u Q I rx ry h hs;obtain⟨D,z,kvs,f,rfl,rfl,d,hm,q⟩:=h;obtain⟨t,rfl⟩:=(show ∃t,u=Value.str z t from ry);obtain rfl:v=Value.ref D:=rx;obtain⟨m,F⟩:=I.fr;obtain⟨es,n,lk,hk⟩:=d.ex;exact W.topItem_K F I.mod.kin lk hk (d.at_ _ hm) ⟨.ref f,H,I.tok _,rfl,q⟩ hs
def Zeg(X:Cx)(Fam:Addr->Sp->Prop):Prop:=∀f sp,Fam f sp->∃fd ps k,VT X.prog X.w X.K X.mg X.base CX0 k f fd ps sp/\YA k X.A/\W.keepIn X.K (.ref f)=true/\VS X.K fd ps []
inductive ZcD(Fam:Addr->Sp->Prop)(i:Nat)(U:L2.St)(H:Hp)(B:Sp->Prop):Prop
 |mk (f:Addr) (sp:Sp) (h0:U[i]?=some (some (.ref f))) (h1:Fam f sp) (h2:B sp):ZcD Fam i U H B
def Zft(Fam:Addr->Sp->Prop)(i:Nat)(t:TA):TE:=fun U H Q=>ZcD Fam i U H fun sp=>t U H fun vs H1=>sp vs H1 Q E0
theorem Zbq{x:Str}{p:Pos}{es:List Expr}{t:TA}(F:Zeg X Fam)(hx:Uu CX0 X E0)(hv:PE X (.Name x p) (Kz i))(ha:PA X (e::es) t)
  (he:starEach (e::es) X.env=(false,eval e X.env)::starEach es X.env:=by rfl) (hpl:(backTo pos (starEach es X.env)).any (·.1)=false:=by rfl) :
  PE X (.Call (.Name x p) (e::es) [] pos) (Zft Fam i t):=by
 intro cQ s U H Q I h;obtain⟨f,sp,ei,fm,h⟩:=h;obtain⟨fd,ps,k,Fo,hr,hk,hb⟩:=F f sp fm;refine iN (thn (hv cQ s U H (fun v H1=>v=.ref f/\H1=H) I ⟨_,ei,rfl,rfl⟩) fun u s1 ⟨v,H1,I1,r,q1,q2⟩=>?_);subst q1;subst q2;obtain rfl:u=Value.ref f:=r;refine mZ (h₀:=X.base) I1.ok.mod.kin hk (thn (ha pos cQ s1 U H1 _ I1 h) fun us s2 ⟨vs,H2,I2,r2,q⟩=>⟨I2.kIn,?_⟩) he hpl;exact kD Fo hr hb .nil hx I2 r2 (by rw[ip];exact q)
end
structure ZT(p:Nat)(L:List Bool)(f:Nat->Bool):Prop where
 p1:1<=p
 le:p<=L.length
 at_:∀k,(h:k<L.length)->L[k]=f k
 more:∀k,L.length<=k->f k=f (k-p)
theorem ZT.get{p:Nat}(t:ZT p L f){k:Nat}(h:k<L.length):L[k]?=some (f k):=by rw[fj h,t.at_ k h]
theorem ZT.cut{p:Nat}{e:Nat}(t:ZT p (L.take (e+1)) f)(he:e<L.length)(hp:p<=e)(h:L[e]=L[e-p]'(by omega)):ZT p (L.take e) f:=by
 have p1:=t.p1;have l1:(L.take (e+1)).length=e+1:=by rw[fZ];omega
 have l0:(L.take e).length=e:=by rw[fZ];omega
 have at1:∀k,(hk:k<e+1)->L[k]'(by omega)=f k:=fun k hk=>by
  have:=t.at_ k (by omega);rw[ni] at this;exact this
 refine⟨t.p1,by omega,fun k hk=>?_,fun k hk=>?_⟩
 ·rw[ni];exact at1 k (by omega)
 ·rw[l0] at hk
  by_cases c:k=e
  ·subst c;rw[<- at1 k (by omega),<- at1 (k-p) (by omega)];exact h
  ·exact t.more k (by omega)
theorem ZT.grow{p:Nat}(t:ZT p L f){b:Bool}(h:L[L.length-p]?=some b):ZT p (L++[b]) f:=by
 have p1:=t.p1;have le:=t.le;have eb:b=f L.length:=by
  rw[t.more L.length (fh _)];have hl:L.length-p<L.length:=by omega
  rw[fj hl] at h;rw[<- t.at_ _ hl];exact(fO h).symm
 refine⟨p1,by rw[fu];omega,fun k hk=>?_,fun k hk=>t.more k (by rw[fu] at hk;omega)⟩;rw[fu,gn] at hk
 by_cases c:k<L.length
 ·rw[List.getElem_append_left c];exact t.at_ k c
 ·have:k=L.length:=by omega
  subst this;rw[List.getElem_append_right (fh _)];simpa using eb
theorem ZT.of{p m:Nat}(p1:1<=p)(hl:L.length=m)(le:p<=m)(at_:∀k,k<m->L[k]?=some (f k))(more:∀k,m<=k->f k=f (k-p)):ZT p L f:=by
 subst hl;exact⟨p1,le,fun k h=>by have:=at_ k h;rw[fj h] at this;exact fO this,more⟩
theorem ZT.not{p:Nat}{L:List Bool}{f:Nat->Bool}(t:ZT p L f):ZT p (L.map Bool.not) (fun k=>!f k):=
 .of t.p1 (fi _) t.le (fun k h=>by rw[fw,t.get h];rfl) (fun k h=>by rw[t.more k h])
theorem ZT.next{p:Nat}(t:ZT p L f)(hn:L.length=n+1)(hp:p<=n)(hm:∀k,n<=k->f k=f (k-p)):ZT p (L.drop 1) (fun k=>f (k+1)):=by
 refine .of t.p1 (m:=n) (by rw[g6];omega) hp (fun k h=>?_) (fun k h=>?_)
 ·rw[mO,Nat.add_comm,t.get (by omega)]
 ·have:=t.p1
  show f (k+1)=f (k-p+1)
  rw[hm (k+1) (by omega)]
  congr 1
  omega
def Qd(f:Nat->Bool):Nat->Bool
 |0=>false
 |k+1=>f k
theorem ZT.before{p:Nat}(t:ZT p L f):ZT p (false::L) (Qd f):=by
 refine .of t.p1 (m:=L.length+1) rfl (by have:=t.le;omega) (fun k h=>?_) (fun k h=>?_)
 ·cases k with
  |zero=>rfl
  |succ n=>rw[List.getElem?_cons_succ,t.get (by omega)];rfl
 ·have:=t.p1;have:=t.le;cases k with
  |zero=>omega
  |succ n=>
   have e:n+1-p=(n-p)+1:=by omega
   rw[e];exact t.more n (by omega)
def Xu(f s:Nat->Bool):Nat->Bool
 |0=>s 0
 |k+1=>s (k+1)||(f (k+1)&&Xu f s k)
theorem zL{f s:Nat->Bool}{m:Nat}:∀q,∃a b:Bool,(∀c,(∀j,j<q->s (m+j+1)=s (c+j+1)/\f (m+j+1)=f (c+j+1))->Xu f s (c+q)=(a||(b&&Xu f s c)))
 |0=>⟨false,true,fun c _=>by simp⟩
 |q+1=>by
  obtain⟨a,b,h⟩:=zL (f:=f) (s:=s) (m:=m) q;refine⟨s (m+q+1)||(f (m+q+1)&&a),f (m+q+1)&&b,fun c hc=>?_⟩;have h1:=h c fun j hj=>hc j (by omega);obtain⟨e1,e2⟩:=hc q (by omega)
  show(s (c+q+1)||(f (c+q+1)&&Xu f s (c+q)))=_
  rw[h1,<- e1,<- e2];cases s (m+q+1)<;>cases f (m+q+1)<;>cases a<;>cases b<;>cases Xu f s c<;>rfl
theorem vN{s:Nat->Bool}{p m:Nat}(p1:1<=p)(hp:p<=m)(hf:∀k,m<=k->f k=f (k-p))(hs:∀k,m<=k->s k=s (k-p)):∀k,m+p<=k+1->Xu f s k=Xu f s (k-p):=by
 have base:Xu f s (m+p-1)=Xu f s (m-1):=by
  by_cases c:m=p
  ·-- the ring begins at once
   obtain⟨q,rfl⟩:∃q,p=q+1:=⟨p-1,by omega⟩;subst c;obtain⟨a,b,h⟩:=zL (f:=f) (s:=s) (m:=0) q;have h0:=h 0 fun j hj=>⟨rfl,rfl⟩;have h1:=h (q+1) fun j hj=>⟨by rw[hs (q+1+j+1) (by omega)];congr 1;omega,by rw[hf (q+1+j+1) (by omega)];congr 1;omega⟩;have z:Xu f s (q+1)=(s 0||(f 0&&Xu f s q)):=by
    show(s (q+1)||(f (q+1)&&Xu f s q))=_
    rw[hs (q+1) (by omega),hf (q+1) (by omega)];simp
   have z0:Xu f s 0=s 0:=rfl;have e1:q+1+(q+1)-1=q+1+q:=by omega
   have e2:q+1-1=0+q:=by omega
   rw[e1,e2,h1,h0,z,z0];have h0':Xu f s q=(a||(b&&s 0)):=by have hh:=h0;rw[lU,z0] at hh;exact hh
   rw[h0'];cases a<;>cases b<;>cases s 0<;>cases f 0<;>rfl
  ·obtain⟨n,rfl⟩:∃n,m=p+(n+1):=⟨m-p-1,by omega⟩;obtain⟨a,b,h⟩:=zL (f:=f) (s:=s) (m:=n) p;have h0:=h n fun j hj=>⟨rfl,rfl⟩;have h1:=h (n+p) fun j hj=>⟨by rw[hs (n+p+j+1) (by omega)];congr 1;omega,by rw[hf (n+p+j+1) (by omega)];congr 1;omega⟩;have e1:p+(n+1)+p-1=n+p+p:=by omega
   have e2:p+(n+1)-1=n+p:=by omega
   rw[e1,e2,h1,h0];cases a<;>cases b<;>cases Xu f s n<;>rfl
 intro k hk
 induction k with
 |zero=>
  have:m=1/\p=0\/m=0/\p=1\/m=0/\p=0:=by omega
  omega
 |succ n ih=>
  by_cases c:n+1=m+p-1
  ·rw[c,base];congr 1;omega
  ·have h1:=ih (by omega);have e:n+1-p=(n-p)+1:=by omega
   rw[e]
   show(s (n+1)||(f (n+1)&&Xu f s n))=(s (n-p+1)||(f (n-p+1)&&Xu f s (n-p)))
   rw[h1,hs (n+1) (by omega),hf (n+1) (by omega),e]
open Classical in
noncomputable def X2(f s:Nat->Bool)(k:Nat):Bool:=decide (∃j,s (k+j)=true/\∀i,i<j->f (k+i)=true)
open Classical in
theorem kY(f s:Nat->Bool)(k:Nat):X2 f s k=(s k||(f k&&X2 f s (k+1))):=by
 unfold X2;rw[iY,lQ];rw[mG,gb,lQ];constructor
 ·rintro⟨j,h1,h2⟩;cases j with
  |zero=>exact .inl h1
  |succ n=>
   refine .inr ⟨h2 0 (by omega),n,?_,fun i hi=>?_⟩
   ·have:k+1+n=k+(n+1):=by omega
    rw[this];exact h1
   ·have:=h2 (i+1) (by omega);have e:k+1+i=k+(i+1):=by omega
    rw[e];exact this
 ·rintro(h|⟨h0,j,h1,h2⟩)
  ·exact⟨0,h,fun i hi=>by omega⟩
  ·refine⟨j+1,?_,fun i hi=>?_⟩
   ·have:k+(j+1)=k+1+j:=by omega
    rw[this];exact h1
   ·cases i with
    |zero=>exact h0
    |succ n=>
     have e:k+(n+1)=k+1+n:=by omega
     rw[e];exact h2 n (by omega)
theorem vY{s g t:Nat->Bool}{k l:Nat}(hf:∀i,f (k+i)=g (l+i))(hs:∀i,s (k+i)=t (l+i)):X2 f s k=X2 g t l:=by
 have h:(∃j,s (k+j)=true/\∀i,i<j->f (k+i)=true)↔(∃j,t (l+j)=true/\∀i,i<j->g (l+i)=true):=
  ⟨fun⟨j,h1,h2⟩=>⟨j,hs j▸h1,fun i hi=>hf i▸h2 i hi⟩,fun⟨j,h1,h2⟩=>⟨j,(hs j).symm▸h1,fun i hi=>(hf i).symm▸h2 i hi⟩⟩
 unfold X2;exact mj.mpr h
def Xj(f s:Nat->Bool)(h:Bool)(k:Nat):Nat->Bool
 |0=>h
 |q+1=>s k||(f k&&Xj f s h (k+1) q)
theorem JG(f s:Nat->Bool):∀q k,Xj f s (X2 f s (k+q)) k q=X2 f s k
 |0,k=>rfl
 |q+1,k=>by
  show(s k||(f k&&Xj f s (X2 f s (k+(q+1))) (k+1) q))=_
  have:k+(q+1)=k+1+q:=by omega
  rw[this,JG f s q (k+1),<- kY]
theorem xi{f s:Nat->Bool}:∀q k,Xj f s false k q=true↔∃j,j<q/\s (k+j)=true/\∀i,i<j->f (k+i)=true
 |0,k=>⟨fun h=>(fV h).elim,fun⟨j,hj,_⟩=>by omega⟩
 |q+1,k=>by
  show(s k||(f k&&Xj f s false (k+1) q))=true↔_
  rw[mG,gb,xi q (k+1)];constructor
  ·rintro(h|⟨h0,j,hj,h1,h2⟩)
   ·exact⟨0,by omega,h,fun i hi=>by omega⟩
   ·refine⟨j+1,by omega,?_,fun i hi=>?_⟩
    ·have:k+(j+1)=k+1+j:=by omega
     rw[this];exact h1
    ·cases i with
     |zero=>exact h0
     |succ n=>
      have e:k+(n+1)=k+1+n:=by omega
      rw[e];exact h2 n (by omega)
  ·rintro⟨j,hj,h1,h2⟩;cases j with
   |zero=>exact .inl h1
   |succ n=>
    refine .inr ⟨h2 0 (by omega),n,by omega,?_,fun i hi=>?_⟩
    ·have:k+1+n=k+(n+1):=by omega
     rw[this];exact h1
    ·have:=h2 (i+1) (by omega);have e:k+1+i=k+(i+1):=by omega
     rw[e];exact this
open Classical in
theorem vK{s:Nat->Bool}{p m:Nat}(p1:1<=p)(hp:p<=m)(hf:∀k,m<=k->f k=f (k-p))(hs:∀k,m<=k->s k=s (k-p)):Xj f s false (m-p) p=X2 f s m:=by
 rw[iY,xi];have sh:X2 f s m=X2 f s (m-p):=vY (fun i=>by rw[hf (m+i) (by omega)];congr 1;omega) (fun i=>by rw[hs (m+i) (by omega)];congr 1;omega);rw[sh];unfold X2;rw[lQ];constructor
 ·rintro⟨j,_,h1,h2⟩;exact⟨j,h1,h2⟩
 ·rintro⟨j,h1,h2⟩;have:∃j,(s (m-p+j)=true/\∀i,i<j->f (m-p+i)=true)/\j<p:=by
   induction j using Nat.strongRecOn with
   |_ j ih=>
    by_cases c:j<p
    ·exact⟨j,⟨h1,h2⟩,c⟩
    ·refine ih (j-p) (by omega) ?_ fun i hi=>h2 i (by omega);rw[hs (m-p+j) (by omega)] at h1;have e:m-p+j-p=m-p+(j-p):=by omega
     rw[e] at h1;exact h1
  obtain⟨j,⟨h1,h2⟩,hj⟩:=this;exact⟨j,hj,h1,h2⟩
theorem jy{s:Nat->Bool}{p m:Nat}(hp:p<=m)(hf:∀k,m<=k->f k=f (k-p))(hs:∀k,m<=k->s k=s (k-p)):∀k,m<=k->X2 f s k=X2 f s (k-p):=fun k hk=>
 vY (fun i=>by rw[hf (k+i) (by omega)];congr 1;omega) (fun i=>by rw[hs (k+i) (by omega)];congr 1;omega)
open PySem.SetTable
section
variable{t:SetTable}{hashAt:Nat->Int}{h:Int}
end
theorem yQ:∀{l₁ l₂:List Nat},l₁.Nodup->(∀x∈l₁,x∈l₂)->l₁.length<=l₂.length
 |[],_,_,_=>by simp
 |x::r,l₂,nd,h=>by
  obtain⟨h1,h2⟩:=iq.mp nd;have hx:=h x (by simp);have:=yQ (l₂:=l₂.erase x) h2 fun y hy=>(List.mem_erase_of_ne (fun e=>h1 (by rw[<- e];exact hy))).mpr (h y (fS _ hy));rw[List.length_erase_of_mem hx] at this;have:=nO hx;rw[gp];omega
section
variable{a:Addr}{x:Value}{h:Int}{Q:Bool->Shared->Prop}
theorem jr{hp:Heap}{o:Obj}{es':Array (Int×Value)}{t t':SetTable}(ho:hp.get? a=some o)(hd:o.data=.set es ep t) :
  (hp.update a (Obj.putSet es' t')).get? a=some { o with data:=.set es' (ep+1) t' }:=by
 have:=iA (Obj.putSet es' t') ho (by rw[putSet_of es' t' hd];rfl);rw[putSet_of es' t' hd] at this;exact this
end
theorem ZV:Slot "set_iterator" "__next__" "set_iterator.__next__" :=
 .of (owner := "set_iterator") (n := "__next__") (by rw[mP,mQ];kernel_rfl) (by decide +kernel) (by decide +kernel) (by decide +kernel)
  (by first|exact .inl (by decide +kernel)|exact .inr (by decide +kernel)) (by rw[isSubtype_type];kernel_rfl)
theorem XW:Slot "set_iterator" "__iter__" "set_iterator.__iter__" :=
 .of (owner := "set_iterator") (n := "__iter__") (by rw[mP,mQ];kernel_rfl) (by decide +kernel) (by decide +kernel) (by decide +kernel)
  (by first|exact .inl (by decide +kernel)|exact .inr (by decide +kernel)) (by rw[isSubtype_type];kernel_rfl)
theorem XI:entryFor table "set_iterator.__next__" = some Builtin.«set_iterator.__next__» := entryFor_of_tree (by kernel_rfl)
theorem VQ:entryFor table "set_iterator.__iter__" = some Builtin.«dict_keyiterator.__iter__» :=
 entryFor_alias (id' := "dict_keyiterator.__iter__") (by kernel_rfl) rfl (by decide +kernel) (by kernel_rfl)
theorem zY:Manifest.owners.lookup (String.ofList ['r','o','t','a','r','e','t','i','_','t','e','s'].reverse)=some Manifest.sig_set_iterator:=by kernel_rfl
theorem XX(a:Value):argsOk "set_iterator.__next__" ⟨[a],[]⟩:=by
 unfold argsOk;rw[signature?_of (id := "set_iterator.__next__") (n:=['_','_','t','x','e','n','_','_']) (o:=['r','o','t','a','r','e','t','i','_','t','e','s']) (by kernel_rfl) zY];kernel_rfl
theorem UB(a:Value):argsOk "set_iterator.__iter__" ⟨[a],[]⟩:=by
 unfold argsOk;rw[signature?_of (id := "set_iterator.__iter__") (n:=['_','_','r','e','t','i','_','_']) (o:=['r','o','t','a','r','e','t','i','_','t','e','s']) (by kernel_rfl) zY];kernel_rfl
theorem yY:entryFor table "set.__iter__" = some Builtin.«frozenset.__iter__» :=
 entryFor_alias (id' := "frozenset.__iter__") (by kernel_rfl) rfl (by decide +kernel) (by kernel_rfl)
theorem kN:typeLookup (.type "set") "__len__" = pure (some (.builtin "set.__len__")):=by rw[mP,mQ];kernel_rfl
open SetTable in
theorem yg{xs:Array Nat}:∀(f hi:Nat),below.go xs 0 f 0 hi=0
 |0,hi=>rfl
 |f+1,hi=>by
  unfold below.go
  split
  ·simp only;rw[if_neg (by omega)];exact yg f _
  ·rfl
open SetTable in
theorem UL{xs:Array Nat}{j:Nat}:∀(f lo hi:Nat),lo<=hi->hi-lo<=f->hi<=xs.size->(hi<xs.size->j<=xs.getD hi j)->below.go xs j f lo hi<xs.size->j<=xs.getD (below.go xs j f lo hi) j
 |0,lo,hi,h1,h2,h3,h4,h5=>by
  have e:lo=hi:=by omega
  subst e;exact h4 h5
 |f+1,lo,hi,h1,h2,h3,h4,h5=>by
  unfold below.go at h5 ⊢
  by_cases hl:lo<hi
  ·rw[if_pos hl] at h5 ⊢;simp only at h5 ⊢
   by_cases hx:xs.getD ((lo+hi)/2) j<j
   ·rw[if_pos hx] at h5 ⊢;exact UL f _ hi (by omega) (by omega) h3 h4 h5
   ·rw[if_neg hx] at h5 ⊢;exact UL f lo _ (by omega) (by omega) (by omega) (fun _=>by omega) h5
  ·rw[if_neg hl] at h5 ⊢;have e:lo=hi:=by omega
   subst e;exact h4 h5
theorem Ji{xs:Array Nat}{v:Nat}(hi:SetTable.below xs j=i)(hv:xs[i]?=some v):j<=v:=by
 have hlt:i<xs.size:=by
  rcases Nat.lt_or_ge i xs.size with h|h
  ·exact h
  ·rw[nj h] at hv;cases hv
 have:=UL (xs:=xs) (j:=j) xs.size 0 xs.size (gk _) (by omega) (fh _) (fun h=>absurd h (ik _)) (by show SetTable.below xs j<_;rw[hi];exact hlt);have e:SetTable.below.go xs j xs.size 0 xs.size=i:=hi;rw[e,Array.getD_eq_getD_getElem?,hv] at this;exact this
theorem ZcN{l:List Nat}{a:Nat}(hj:j∈l)(ha:a<=j):l.countP (fun x=>decide (j+1<=x))<l.countP (fun x=>decide (a<=x)):=by
 have mono:∀l:List Nat,l.countP (fun x=>decide (j+1<=x))<=l.countP (fun x=>decide (a<=x)):=fun l=>
  List.countP_mono_left fun x _ h=>by simp at *; omega
 induction l with
 |nil=>cases hj
 |cons x r ih=>
  have m:=mono r;rcases fF.mp hj with e|h
  ·subst e;rw[nk,nk,if_neg (by simp),if_pos (by simpa using ha)];omega
  ·have:=ih h;rw[nk,nk]
   by_cases c:j+1<=x
   ·rw[if_pos (by simpa using c),if_pos (by simp;omega)];omega
   ·rw[if_neg (by simpa using c)];omega
theorem K2{nxt:Nat->Nat->Option (Value×Nat)}{m:Nat->Nat->Nat}(h:∀sl g x sl',nxt sl g=some (x,sl')->m sl' (g+1)<m sl g) :
  ∀k sl g,m sl g<=k->∃(seq:List Value) (sls:Nat->Nat),sls 0=sl/\(∀i x,seq[i]?=some x->nxt (sls i) (g+i)=some (x,sls (i+1)))/\nxt (sls seq.length) (g+seq.length)=none/\seq.length<=m sl g
 |k,sl,g,hk=>by
  cases e:nxt sl g with
  |none=>exact⟨[],fun _=>sl,rfl,fun i x hx=>by simp at hx,e,gk _⟩
  |some p=>
   obtain⟨x,sl'⟩:=p;have hlt:=h sl g x sl' e;cases k with
   |zero=>omega
   |succ k=>
    obtain⟨seq,sls,h0,h1,h2,h3⟩:=K2 h k sl' (g+1) (by omega);refine⟨x::seq,fun i=>match i with|0=>sl|i+1=>sls i,rfl,?_,?_,by rw[gp];omega⟩
    ·intro i y hy;cases i with
     |zero=>simp at hy;subst hy;show nxt sl (g+0)=some (x,sls 0);rw[h0];exact e
     |succ i=>
      have:=h1 i y (by simpa using hy)
      show nxt (sls i) (g+(i+1))=_
      rw[show g+(i+1)=g+1+i by omega];exact this
    ·show nxt (sls seq.length) (g+(seq.length+1))=none
     rw[show g+(seq.length+1)=g+1+seq.length by omega];exact h2
theorem Q3{α:Type}{next:Nat->Nat}{xs:List α}:∀(f k:Nat) (left:List α) (out:Array α),(∀x∈left,x∈xs)->(∀x∈out.toList,x∈xs) ->
  (∀x∈(pickOrder.go next f k left out).toList,x∈xs)/\(pickOrder.go next f k left out).size<=out.size+f/\out.size<=(pickOrder.go next f k left out).size/\(0<f->left≠[]->out.size<(pickOrder.go next f k left out).size)
 |0,k,left,out,_,ho=>by unfold pickOrder.go;exact⟨ho,by omega,fh _,fun h=>absurd h (ik _)⟩
 |f+1,k,left,out,hl,ho=>by
  unfold pickOrder.go;cases e:left[next k%left.length]? with
  |none=>
   refine⟨ho,by simp only;omega,fh _,fun _ hne=>?_⟩;have:0<left.length:=iJ.mpr hne;have:=List.getElem?_eq_none_iff.mp e;have:=Nat.mod_lt (next k) (by omega:left.length>0);omega
  |some x=>
   have hx:x∈left:=fU e;obtain⟨a,b,c,_⟩:=Q3 (next:=next) f (k+1) (left.eraseIdx (next k%left.length)) (out.push x) (fun y hy=>hl y (List.mem_of_mem_eraseIdx hy)) (fun y hy=>by
    rw[nr] at hy;rcases fG.mp hy with h|h
    ·exact ho y h
    ·rw[fM] at h;subst h;exact hl _ hx)
   rw[Array.size_push] at b c;refine⟨a,?_,?_,fun _ _=>?_⟩<;>(show _;simp only;omega)
theorem jN{next:Nat->Nat}(xs:Array α):(∀x∈(pickOrder next xs).toList,x∈xs.toList)/\(pickOrder next xs).size<=xs.size/\(0<xs.size->0<(pickOrder next xs).size):=by
 obtain⟨a,b,c,d⟩:=Q3 (next:=next) (xs:=xs.toList) xs.size 0 xs.toList #[] (fun _ h=>h) (fun _ h=>by simp at h);have e0:pickOrder.go next xs.size 0 xs.toList #[]=pickOrder next xs:=rfl;rw[e0] at a b c d;refine⟨a,by simpa using b,fun h=>?_⟩;have:=d h (fun e=>by
  have:xs.toList.length=0:=by rw[e];rfl
  rw[hV] at this;omega)
 simpa using this
def Wl(h:Heap)(a:Addr)(es:Array (Int×Value))(ep:Nat)(t:SetTable):Prop:=∃o,h.get? a=some o/\o.ExactSet/\o.data=.set es ep t
def VX(h:Heap)(I a:Addr)(first:Value)(i:Nat)(n ep:Nat):Prop:=∃o t1 t2 t3,h.get? I=some o/\o.cls=.type "set_iterator" /\ o.data=.fields #[first,.int i t1,.ref a,.int n t2,.int ep t3]
theorem VX.typeIs{a:Addr}{f:Value}(x:VX s.heap I a f i n ep):s.TypeIs (.ref I) "set_iterator" := let ⟨o,_,_,_,ho,hc,_⟩:=x; ⟨o,ho,hc⟩
theorem VX.at{a:Addr}{f:Value}(x:VX h I a f i n ep)(e:∀o,h.get? I=some o->h'.get? I=some o):VX h' I a f i n ep:=let ⟨o,t1,t2,t3,ho,r⟩:=x; ⟨o,t1,t2,t3,e _ ho,r⟩
theorem Wl.at{a:Addr}{es ep t}(x:Wl h a es ep t)(e:∀o,h.get? a=some o->h'.get? a=some o):Wl h' a es ep t:=let ⟨o,ho,r⟩:=x; ⟨o,e _ ho,r⟩
theorem Wl.typeIs{a:Addr}{es ep t}(x:Wl s.heap a es ep t):s.TypeIs (.ref a) "set" := let ⟨o,ho,hc,_⟩:=x; ⟨o,ho,hc.1⟩
def WL(byText:Bool)(pick es:Array (Int×Value))(place:Array Nat)(slot given:Nat):Option (Value×Nat):=
 if byText=true then(pick[given]?).map fun e=>(e.2,slot) else
  match es[SetTable.below place slot]?,place[SetTable.below place slot]? with
  |some (_,x),some j=>some (x,j+1)
  |_,_=>none
theorem xq{a:Addr}{es ep t}{given:Nat}{Q:Option (Value×Nat)->Shared->Prop}(hS:Wl s.heap a es ep t)(hf:t.fits es.size=true)
  (hw:w.params.followText "set-order" = false->t.led=true/\(t.plain=true\/es.size<=1)) (h:Q (WL (w.params.followText "set-order") (pickOrder (w.params.setOrder a ep) es) es t.place slot given) s) :
  wpAny (model prog w) A (setNext a slot given ep) Q E s:=by
 obtain⟨o,ho,_,hd⟩:=hS;unfold setNext;refine fg (ij ho hd hf ?_);dsimp only;have by_:∀{Q:Bool->Shared->Prop},Q (w.params.followText "set-order") s->wpAny (model prog w) A setsByText Q E s:=fun {Q} hq=>by
  unfold setsByText;exact fg (mR (fq hq))
 refine fg (by_ ?_);cases e:w.params.followText "set-order"
 ·simp only[gX,gG];obtain⟨h1,h2⟩:=hw e;rw[e] at h
  show wpAny _ _ (if(!t.plain&&decide (es.size>1))=true then _ else(do (if(!t.led&&!es.isEmpty)=true then unsupported "set:maker-not-led" else pure PUnit.unit);pure _)) Q E s
  have c:(!t.plain&&decide (es.size>1))=false:=by
   rcases h2 with h2|h2
   ·rw[h2];rfl
   ·rw[gJ (by omega)];simp
  rw[c,h1];simp only[gX,gG,Bool.not_true,iE];refine fg (fq (fq ?_));exact h
 ·simp only[gZ];rw[e] at h;simp only[bne_self_eq_false,gX,gG];unfold setWalk;refine fg (fg (ij ho hd hf ?_));dsimp only;refine fg (by_ ?_);rw[e];simp only[gZ];refine fg (mR (fq (fq ?_)));exact h
theorem ZaP{a:Addr}{es ep t}{x:Value}{sl':Nat}{Q:Option Value->Shared->Prop}(hit:VX s.heap I a (.int slot tk) i es.size ep)(hS:Wl s.heap a es ep t)(hf:t.fits es.size=true)
  (hw:w.params.followText "set-order" = false->t.led=true/\(t.plain=true\/es.size<=1)) (hx:WL (w.params.followText "set-order") (pickOrder (w.params.setOrder a ep) es) es t.place slot i=some (x,sl'))
  (hQ:∀h' tk',VX h' I a (.int sl' tk') (i+1) es.size ep->Heap.SameBut I s.heap h'->Q (some x) { s with heap:=h' }):wpAny (model prog w) A (pyNext (.ref I)) Q E s:=by
 obtain⟨o,t1,t2,t3,ho,hc,hd⟩:=id hit;obtain⟨os,hos,hcs,hds⟩:=id hS;unfold pyNext;refine fg (mv (i7 (name:=Str.ofString "__next__") hit.typeIs ZV
  (ia ZV hit.typeIs XI ?_ (XX _))))
 show wpAny _ _ (fieldsOf (.ref I) >>= _) _ _ s
 refine fg (wpAny_fieldsOf ho hd ?_);dsimp only;refine fg ?_;unfold setEntries;refine fg (ij hos hds hf (fq ?_));dsimp only;rw[if_neg (by simp)];refine fg (xq hS hf hw ?_);have e1:((slot:Int)).toNat=slot:=ge _;have e2:((i:Int)).toNat=i:=ge _;have e3:((ep:Int)).toNat=ep:=ge _;rw[e1,e2,e3,hx];dsimp only;refine fg (mw ho hd (by simp) ?_);have ho1:=iA (Obj.mapFields (·.setIfInBounds 0 (rawInt (sl':Int)))) ho (nt (lC hd _));have hd1:=lC hd (·.setIfInBounds 0 (rawInt (sl':Int)));refine fg (mw ho1 hd1 (by simp) ?_);have ho2:=iA (Obj.mapFields (·.setIfInBounds 1 (rawInt ((i:Int)+1)))) ho1 (nt (lC hd1 _));have hd2:=lC hd1 (·.setIfInBounds 1 (rawInt ((i:Int)+1)));refine fq ⟨_,rfl,fq (hQ _ 0 ⟨_,0,t2,t3,ho2,((Obj.cls_mapFields ..).trans (Obj.cls_mapFields ..)).trans hc,by rw[hd2];simp[rawInt]⟩ ?_)⟩;exact⟨(mS _ _ _).trans (mS _ _ _),fun b hb=>(ii _ _ (fJ hb)).trans (ii _ _ (fJ hb))⟩
theorem Zcw{a:Addr}{es ep t}{Q:Option Value->Shared->Prop}(hh:A.handled=none)(hit:VX s.heap I a (.int slot tk) i es.size ep)(hS:Wl s.heap a es ep t)(hf:t.fits es.size=true)
  (hw:w.params.followText "set-order" = false->t.led=true/\(t.plain=true\/es.size<=1)) (hx:WL (w.params.followText "set-order") (pickOrder (w.params.setOrder a ep) es) es t.place slot i=none)
  (hQ:∀h',Heap.ExtBut I s.heap h'->Q none { s with heap:=h' }):wpAny (model prog w) A (pyNext (.ref I)) Q E s:=by
 obtain⟨o,t1,t2,t3,ho,hc,hd⟩:=id hit;obtain⟨os,hos,hcs,hds⟩:=id hS;unfold pyNext;refine fg (mv (i7 (name:=Str.ofString "__next__") hit.typeIs ZV
  (ia ZV hit.typeIs XI ?_ (XX _))))
 show wpAny _ _ (fieldsOf (.ref I) >>= _) _ _ s
 refine fg (wpAny_fieldsOf ho hd ?_);dsimp only;refine fg ?_;unfold setEntries;refine fg (ij hos hds hf (fq ?_));dsimp only;rw[if_neg (by simp)];refine fg (xq hS hf hw ?_);have e1:((slot:Int)).toNat=slot:=ge _;have e2:((i:Int)).toNat=i:=ge _;have e3:((ep:Int)).toNat=ep:=ge _;rw[e1,e2,e3,hx];dsimp only;refine fg (mw ho hd (by simp) ?_);refine fg ?_;simp only[newExc,newTuple];refine fg (g7 ?_ (by size_fits));refine fg (m:=firstArgMember _ _) (wpAny_of_eq (a:=Value.none) (by first|rfl|(simp only[firstArgMember];rfl)) ?_);refine g7 ?_ (by size_fits);simp only[raiseNew];refine fg (wpAny_handled ?_);rw[show A.in1.handled=none from hh];refine fg (fq (wpAny_throw ?_));refine fg (wpAny_isInstance (T := "StopIteration") (b:=true) ⟨_,fR _ rfl,rfl⟩ isSubtype_stop ?_);exact fq (hQ _ (((Heap.SameBut.update ..).extBut.push _).push _))
def jS(h:Heap)(T:Addr)(ps:List Nat):Prop:=∃o n,h.get? T=some o/\o.data=.seq ((ps.map fun(i:Nat)=>rawInt (i:Int)).toArray) n/\o.cls=.type "tuple"
theorem K4{a T:Addr}{p:Nat}{es ep t}{ps:List Nat}{e:Int×Value}{Q:Option Value->Shared->Prop}(hit:VX s.heap I a (.ref T) i es.size ep)(hS:Wl s.heap a es ep t)(hf:t.fits es.size=true)
  (hT:jS s.heap T ps) (hp:ps[i]?=some p) (he:es[p]?=some e)
  (hQ:∀h',VX h' I a (.ref T) (i+1) es.size ep->Heap.SameBut I s.heap h'->Q (some e.2) { s with heap:=h' }):wpAny (model prog w) A (pyNext (.ref I)) Q E s:=by
 obtain⟨o,t1,t2,t3,ho,hc,hd⟩:=id hit;obtain⟨os,hos,hcs,hds⟩:=id hS;obtain⟨oT,nT,hoT,hdT,_⟩:=hT;unfold pyNext;refine fg (mv (i7 (name:=Str.ofString "__next__") hit.typeIs ZV
  (ia ZV hit.typeIs XI ?_ (XX _))))
 show wpAny _ _ (fieldsOf (.ref I) >>= _) _ _ s
 refine fg (wpAny_fieldsOf ho hd ?_);dsimp only;refine fg ?_;unfold setEntries;refine fg (ij hos hds hf (fq ?_));dsimp only;rw[if_neg (by simp)];refine fg (mo hoT hdT ?_);dsimp only;have e2:((i:Int)).toNat=i:=ge _;have hpi:((ps.map fun(i:Nat)=>rawInt (i:Int)).toArray)[i]?=some (rawInt (p:Int)):=by simp[hp]
 rw[e2,hpi]
 show wpAny _ _ (setNextDrawn a ((p:Int)).toNat ((ep:Int)).toNat >>= _) _ _ s
 rw[ge,ge];refine fg ?_;unfold setNextDrawn;refine fg (ij hos hds hf ?_);dsimp only;simp only[bne_self_eq_false,gX,gG,he];refine fq ?_;refine fg (mw ho hd (by simp) ?_);have ho2:=iA (Obj.mapFields (·.setIfInBounds 1 (rawInt ((i:Int)+1)))) ho (nt (lC hd _));have hd2:=lC hd (·.setIfInBounds 1 (rawInt ((i:Int)+1)));refine fq ⟨_,rfl,fq (hQ _ ⟨_,0,t2,t3,ho2,(Obj.cls_mapFields ..).trans hc,by rw[hd2];simp[rawInt]⟩ ?_)⟩;exact⟨(mS _ _ _),fun b hb=>(ii _ _ (fJ hb))⟩
theorem Zap{a T:Addr}{es ep t}{ps:List Nat}{Q:Option Value->Shared->Prop}(hh:A.handled=none)(hit:VX s.heap I a (.ref T) i es.size ep)(hS:Wl s.heap a es ep t)(hf:t.fits es.size=true)
  (hT:jS s.heap T ps) (hp:ps[i]?=none)
  (hQ:∀h',Heap.ExtBut I s.heap h'->Q none { s with heap:=h' }):wpAny (model prog w) A (pyNext (.ref I)) Q E s:=by
 obtain⟨o,t1,t2,t3,ho,hc,hd⟩:=id hit;obtain⟨os,hos,hcs,hds⟩:=id hS;obtain⟨oT,nT,hoT,hdT,_⟩:=hT;unfold pyNext;refine fg (mv (i7 (name:=Str.ofString "__next__") hit.typeIs ZV
  (ia ZV hit.typeIs XI ?_ (XX _))))
 show wpAny _ _ (fieldsOf (.ref I) >>= _) _ _ s
 refine fg (wpAny_fieldsOf ho hd ?_);dsimp only;refine fg ?_;unfold setEntries;refine fg (ij hos hds hf (fq ?_));dsimp only;rw[if_neg (by simp)];refine fg (mo hoT hdT ?_);dsimp only;have e2:((i:Int)).toNat=i:=ge _;have hpi:((ps.map fun(i:Nat)=>rawInt (i:Int)).toArray)[i]?=none:=by simpa using hp
 rw[e2,hpi];dsimp only;refine fg (mw ho hd (by simp) ?_);have ho1:=iA (Obj.mapFields (·.setIfInBounds 0 (rawInt 0))) ho (nt (lC hd _));have hd1:=lC hd (·.setIfInBounds 0 (rawInt 0));refine fg (mw ho1 hd1 (by simp) ?_);refine fg ?_;simp only[newExc,newTuple];refine fg (g7 ?_ (by size_fits));refine fg (m:=firstArgMember _ _) (wpAny_of_eq (a:=Value.none) (by first|rfl|(simp only[firstArgMember];rfl)) ?_);refine g7 ?_ (by size_fits);simp only[raiseNew];refine fg (wpAny_handled ?_);rw[show A.in1.handled=none from hh];refine fg (fq (wpAny_throw ?_));refine fg (wpAny_isInstance (T := "StopIteration") (b:=true) ⟨_,fR _ rfl,rfl⟩ isSubtype_stop ?_);have sb:Heap.SameBut I s.heap ((s.heap.update I (Obj.mapFields (·.setIfInBounds 0 (rawInt 0)))).update I (Obj.mapFields (·.setIfInBounds 2 .none))):=
  ⟨(mS _ _ _).trans (mS _ _ _),fun b hb=>(ii _ _ (fJ hb)).trans (ii _ _ (fJ hb))⟩
 exact fq (hQ _ ((sb.extBut.push _).push _))
theorem KI{src:Source}{Q:Nat->Shared->Prop}(hn:n≠0)(h:∀i dr,i<n->Q i { s with drawn:=dr }):wpAny (model prog w) A (choose src n) Q E s:=
 fun Γ p _=>⟨hn,h _ _ (Nat.mod_lt _ (nv hn))⟩
theorem KO(hh:A.handled=none){a:Addr}(hne:a≠I){t:SetTable}(hf:t.fits es.size=true)
  (hw:w.params.followText "set-order" = false->t.led=true/\(t.plain=true\/es.size<=1)) {seq:List Value}
  (h1:∀i x,seq[i]?=some x->WL (w.params.followText "set-order") (pickOrder (w.params.setOrder a ep) es) es t.place (sls i) i=some (x,sls (i+1)))
  (h2:WL (w.params.followText "set-order") (pickOrder (w.params.setOrder a ep) es) es t.place (sls seq.length) seq.length=none) :
  Walks prog w A I [I,a] [I] seq.length (fun i v=>seq[i]?=some v) (fun i h=>(∃tk,VX h I a (.int (sls i) tk) i es.size ep)/\Wl h a es ep t) where
 sub:=fun b hb=>by simp at hb;simp[hb]
 frame:=fun i h h' st hk=>⟨let ⟨tk,x⟩:=st.1; ⟨tk,x.at fun o e=>hk I (by simp) o e⟩,st.2.at fun o e=>hk a (by simp) o e⟩
 item:=fun i s Q E hi st hQ=>by
  obtain⟨⟨tk,hit⟩,hS⟩:=st;have e:seq[i]?=some seq[i]:=fj hi;refine ZaP hit hS hf hw (h1 i _ e) fun h' tk' hit' sb=>?_;exact hQ _ h' s.toks e ⟨⟨tk',hit'⟩,hS.at fun o z=>by rw[sb.2 a hne];exact z⟩ fun b o hb z=>by rw[sb.2 b (fun h=>hb (by simp[h]))];exact z
 done:=fun s Q E st hQ=>by
  obtain⟨⟨tk,hit⟩,hS⟩:=st;exact Zcw hh hit hS hf hw h2 fun h' x=>hQ h' s.toks fun b o hb z=>x b o (fun h=>hb (by simp[h])) z
 self:=fun i s Q E st hQ=>by
  obtain⟨⟨tk,hit⟩,hS⟩:=st;refine wpAny_pyIter_slot hit.typeIs XW (ia XW hit.typeIs VQ ?_ (UB _))
  show wpAny _ _ (ret (.ref I)) _ _ s
  exact fq ⟨_,rfl, "set_iterator",_,hit.typeIs,ZV.lookup,hQ⟩
theorem K3(hh:A.handled=none){a T:Addr}(hne:a≠I)(hnT:T≠I){t:SetTable}(hf:t.fits es.size=true){ps:List Nat}{seq:List Value}(hl:seq.length=ps.length)
  (h1:∀(i:Nat) x,seq[i]?=some x->∃p e,ps[i]?=some p/\es[p]?=some e/\x=e.2) :
  Walks prog w A I [I,a,T] [I] seq.length (fun i v=>seq[i]?=some v) (fun i h=>VX h I a (.ref T) i es.size ep/\Wl h a es ep t/\jS h T ps) where
 sub:=fun b hb=>by simp at hb;simp[hb]
 frame:=fun i h h' st hk=>⟨st.1.at fun o e=>hk I (by simp) o e,st.2.1.at fun o e=>hk a (by simp) o e,let ⟨o,n,e,r⟩:=st.2.2; ⟨o,n,hk T (by simp) o e,r⟩⟩
 item:=fun i s Q E hi st hQ=>by
  obtain⟨hit,hS,hT⟩:=st;have e:seq[i]?=some seq[i]:=fj hi;obtain⟨p,en,e1,e2,e3⟩:=h1 i _ e;refine K4 hit hS hf hT e1 e2 fun h' hit' sb=>?_;rw[<- e3];refine hQ _ h' s.toks e ⟨hit',hS.at fun o z=>by rw[sb.2 a hne];exact z,let ⟨o,n,z,r⟩:=hT; ⟨o,n,by rw[sb.2 T hnT];exact z,r⟩⟩ fun b o hb z=>by rw[sb.2 b (fun h=>hb (by simp[h]))];exact z
 done:=fun s Q E st hQ=>by
  obtain⟨hit,hS,hT⟩:=st;exact Zap hh hit hS hf hT (List.getElem?_eq_none_iff.mpr (by omega)) fun h' x=>hQ h' s.toks fun b o hb z=>x b o (fun h=>hb (by simp[h])) z
 self:=fun i s Q E st hQ=>by
  obtain⟨hit,hS,hT⟩:=st;refine wpAny_pyIter_slot hit.typeIs XW (ia XW hit.typeIs VQ ?_ (UB _))
  show wpAny _ _ (ret (.ref I)) _ _ s
  exact fq ⟨_,rfl, "set_iterator",_,hit.typeIs,ZV.lookup,hQ⟩
theorem ym{b:Addr}(hb:h.objs.size<=b):h.get? b=none:=by
 cases e:h.get? b with
 |none=>rfl
 |some o=>exact absurd (fC e) (Nat.not_lt.mpr hb)
theorem Kt(t:SetTable)(es:Array (Int×Value))(h:Int)(x:Value):(layNew t es h x).2.1.led=t.led:=by
 unfold layNew
 split
 ·dsimp only;unfold SetTable.orStandIn
  split<;>rfl
 ·rfl
theorem jU(t:SetTable)(es:Array (Int×Value))(n:Nat):(relayAll t es n).2.1.led=t.led:=by
 unfold relayAll
 split
 ·rename_i t' order he
  dsimp only
  split
  ·unfold SetTable.relaid SetTable.laid at he;cases hc:SetTable.layClean (SetTable.sizeAbove n-1) (es.map (·.1)) with
   |none=>rw[hc] at he;cases he
   |some ow=>rw[hc] at he;cases he;rfl
  ·rfl
 ·rfl
section
variable{h0:Heap}
theorem Za2{ax:Addr}{items:List Value}(hh:A.handled=none)(hne:ax≠I)(hSI:S≠I)(hSa:S≠ax)(h0S:h0.get? S=none)(h0I:h0.get? I=none)
  (hkeep:∀{h h' vs},SI h vs->(∀o,h.get? S=some o->h'.get? S=some o)->SI h' vs)
  (hadd:∀(s:Shared) (i:Nat) (v:Value),items[i]?=some v->(∀b o,h0.get? b=some o->s.heap.get? b=some o)->SI s.heap (items.take i) ->
   ∀(E:Value->Shared->Prop) (Q:Bool->Shared->Prop),(∀h' tk b,Heap.SameBut S s.heap h'->SI h' (items.take i++[v])->Q b { s with heap:=h',toks:=tk })->wpAny (model prog w) A.in1 (setAdd S v) Q E s) :
  ∀(c i:Nat) (s:Shared),items.length-i=c->i<=items.length->s.heap.IsListIter I ax i/\s.heap.IsList ax items.toArray->(∀b o,h0.get? b=some o->s.heap.get? b=some o) ->
   SI s.heap (items.take i) ->
   (∀(h':Heap) (tk:Nat),SI h' items->(∀b o,b≠S->b≠I->s.heap.get? b=some o->h'.get? b=some o)->R (.ok (.ret .none)) { s with heap:=h',toks:=tk }) ->
   codeAny (model prog w) A (.builtin "set.update.loop" ⟨[.ref S,.ref I],[]⟩) R s:=by
 have W:=Walks.list (prog:=prog) (w:=w) (A:=A.in1) (by simpa using hh) I ax hne items.toArray;have zs:items.toArray.size=items.length:=by simp
 intro c
 induction c with
 |zero=>
  intro i s hc hi st hg hS hR;have e:i=items.toArray.size:=by omega
  subst e;refine ir m9 ?_;rw[iO lO _]
  show wpAny _ A.in1 (pyNext (.ref I) >>= _) _ _ s
  refine fg (W.done s _ _ st fun h' tk hk=>?_)
  show wpAny _ A.in1 (ret Value.none) _ _ _
  have et:items.take items.toArray.size=items:=by rw[zs];exact iH
  rw[et] at hS;exact fq (hR h' tk (hkeep hS fun o z=>hk S o (by simpa using hSI) z) fun b o _ hbI z=>hk b o (by simpa using hbI) z)
 |succ c ih=>
  intro i s hc hi st hg hS hR;have hlt:i<items.toArray.size:=by omega
  refine ir m9 ?_;rw[iO lO _]
  show wpAny _ A.in1 (pyNext (.ref I) >>= _) _ _ s
  refine fg (W.item i s _ _ hlt st fun v h1 tk hP st1 hk=>?_);have hvi:items[i]?=some v:=by simpa using hP
  have hS1:SI h1 (items.take i):=hkeep hS fun o z=>hk S o (by simpa using hSI) z;have hg1:∀b o,h0.get? b=some o->h1.get? b=some o:=fun b o z=>hk b o (by simp;rintro rfl;rw[h0I] at z;cases z) (hg b o z)
  show wpAny _ A.in1 (holding [v] (setAdd S v) >>= _) _ _ { s with heap:=h1,toks:=tk }
  refine fg (gW ?_);refine hadd { s with heap:=h1,toks:=tk } i v hvi hg1 hS1 _ _ fun h2 tk2 bb hsb hS2=>?_;have et:items.take (i+1)=items.take i++[v]:=by rw[List.take_add_one,hvi];rfl
  rw[<- et] at hS2;refine fq ⟨iP lO _,ih (i+1) _ (by omega) (by omega) (W.frame _ _ _ st1 fun b hb o z=>?_) (fun b o z=>?_) hS2 fun h' tk'' a1 a4=>?_⟩
  ·rw[hsb.2 b (fun q=>by subst q;simp at hb;exact hb.elim hSI hSa)];exact z
  ·show h2.get? b=some o
   rw[hsb.2 b (by rintro rfl;rw[h0S] at z;cases z)];exact hg1 b o z
  ·exact hR h' tk'' a1 fun b o hbS hbI z=>a4 b o hbS hbI (by show h2.get? b=some o;rw[hsb.2 b hbS];exact hk b o (by simpa using hbI) z)
theorem vD(a:Value)
  (h:Q₁ (.ref s.heap.objs.size) { s with heap:=s.heap.push { cls:=.type "set",dict:=none,data:=.set #[] 0 (.fresh 0 0 (!w.params.followText "set-order")) } }) :
  codeAny (model prog w) A (.call (.builtin "set.__new__") ⟨[.type "set",a],[]⟩) (wants Q₁ E) s:=by
 refine codeAny_of_tree ?_
 show wpAny _ A.in1 (do checkBuiltinCall "set.__new__" ⟨[.type "set",a],[]⟩;again (.builtin "set.__new__" ⟨[.type "set",a],[]⟩)) _ _ s
 refine fg (wpAny_of_eq (PySem.F.newCall_set_1 a) (fq ⟨iP PySem.F.plain_set_new _,ir PySem.F.entry_set_new ?_⟩));rw[iO PySem.F.plain_set_new _];unfold Builtin.«set.__new__» Builtin.Frozenset.newClass;have hsub:=sub_set_self;obtain⟨hp,g,d,tk,os⟩:=s;dsimp only
 wp_walk
 refine mR (fq ?_);dsimp only;simp only[newObj];refine fg (wpAny_alloc (fq ?_));exact fq h
end
theorem ZaK{l:Addr}{items:List Value}(hh:A.handled=none)(hl:s.heap.IsList l items.toArray)
  (hkeep:∀{h h' vs},SI h vs->(∀o,h.get? s.heap.objs.size=some o->h'.get? s.heap.objs.size=some o)->SI h' vs)
  (hnew:SI (s.heap.push { cls:=.type "set",dict:=none,data:=.set #[] 0 (.fresh 0 0 (!w.params.followText "set-order")) }) [])
  (hadd:∀(A':Around) (s':Shared) (i:Nat) (v:Value),A'.units<=A.units+5->items[i]?=some v->(∀b o,s.heap.get? b=some o->s'.heap.get? b=some o)->SI s'.heap (items.take i) ->
   ∀(E:Value->Shared->Prop) (Q:Bool->Shared->Prop),(∀h' tk b,Heap.SameBut s.heap.objs.size s'.heap h'->SI h' (items.take i++[v])->Q b { s' with heap:=h',toks:=tk })->wpAny (model prog w) A' (setAdd s.heap.objs.size v) Q E s')
  (h:∀(h':Heap) (tk:Nat),SI h' items->(∀b o,s.heap.get? b=some o->h'.get? b=some o)->Q (.ref s.heap.objs.size) { s with heap:=h',toks:=tk }) :
  wpAny (model prog w) A (call (.type "set") [.ref l]) Q E s:=by
 have hmade:=gU.made;have hsub:=gU.sub;obtain⟨c,tl,hmro⟩:=gU.mro;refine wpAny_call (codeAny_of_tree (fq ⟨Code.quiet_builtin _ (by decide +kernel),ir PySem.F.entry_type_call ?_⟩));rw[Around.under_plain (weight_type_call_type "set" [.ref l] []) rfl];have g1:=gU.notType;have g2:=gU.canCreate;have g3:=PySem.F.typeCall_set_1 (.ref l)
 repeat (any_goals (first|assumption|wp_step))
 generalize hled:(!w.params.followText "set-order")=led at hnew;refine i5 (vD (.ref l) (E:=E) (Q₁:=fun obj t=>obj=.ref s.heap.objs.size/\t={ s with heap:=s.heap.push { cls:=.type "set",dict:=none,data:=.set #[] 0 (.fresh 0 0 led) } }) ⟨rfl,by rw[hled]⟩) fun r t hr=>?_;cases r with
 |error e=>exact hr
 |ok fl=>
  cases fl with
  |ret obj=>
   obtain⟨rfl,rfl⟩:=hr;have hS:(s.heap.push { cls:=.type "set",dict:=none,data:=.set #[] 0 (.fresh 0 0 led) }).get? s.heap.objs.size=some { cls:=.type "set",dict:=none,data:=.set #[] 0 (.fresh 0 0 led) }:=fR _ rfl;have hT:Shared.TypeIs { s with heap:=s.heap.push { cls:=.type "set",dict:=none,data:=.set #[] 0 (.fresh 0 0 led) } } (.ref s.heap.objs.size) "set" := ⟨_,hS,rfl⟩;have hli:=gU.init.lookup;have hbi:=gU.init.bind (.ref s.heap.objs.size)
   repeat (any_goals (first|assumption|wp_step))
   refine i5 (codeAny_call_builtin (R:=wants (fun r u=>r=.none/\∃h' tk,u={ s with heap:=h',toks:=tk }/\SI h' items /\
     (∀b o,s.heap.get? b=some o->h'.get? b=some o)) E) gU.init.plain PySem.F.entry_set_init (check_set_init_1 hT ?_)) fun r2 u hr2=>?_
   ·obtain⟨ol,hol,hcl,nl,hdl⟩:=hl;obtain⟨ocls,odict,odata,oslots⟩:=ol;simp only at hcl hdl;subst hcl;subst hdl;have hol':(s.heap.push { cls:=.type "set",dict:=none,data:=.set #[] 0 (.fresh 0 0 led) }).get? l=some { cls:=.type "list",dict:=odict,data:=.seq items.toArray nl,slots:=oslots }:=fz _ hol;have hsls:=PySem.F.sub_list_set;have hslf:=PySem.F.sub_list_frozenset;have hne:(Value.type "list" == Value.type "dict")=false:=by decide
    have hl1:(s.heap.push { cls:=.type "set",dict:=none,data:=.set #[] 0 (.fresh 0 0 led) }).IsList l items.toArray:=⟨_,hol',rfl,nl,rfl⟩;unfold Builtin.«set.__init__» noKeywords Builtin.Frozenset.updateFrom;generalize hPI:pyIter=PI
    wp_walk
    subst hPI;refine mY hl1 ?_;refine fg (wpAny_runValue ?_);have hlS:l<s.heap.objs.size:=fC hol;have z1:(s.heap.push { cls:=.type "set",dict:=none,data:=.set #[] 0 (.fresh 0 0 led) }).objs.size=s.heap.objs.size+1:=ie _ _;refine Za2 (h0:=s.heap) (SI:=SI) (items:=items) (ax:=l) (by simpa using hh) (by rw[z1];exact fE (iQ hlS)) (by rw[z1];exact fE (i0 _)) (gA hlS)
     (ym (fh _)) (ym (by rw[z1];exact iF _)) hkeep (fun s' i v hv hg hS E Q hQ=>hadd _ s' i v ?hu hv hg hS E Q hQ) (items.length-0) 0 _ (by omega) (gk _)
     ⟨⟨_,fR _ rfl,rfl,rfl⟩,(hl1.push _)⟩ (fun b o z=>fz _ (fz _ z)) ?hS0 ?hR
    case hu=>simp only[Around.in1_units];omega
    case hS0=>exact hkeep hnew fun o z=>fz _ z
    case hR=>
     intro h' tk a1 a4
     show wpAny _ _ _ _ _ _
     refine fq ?_
     show wpAny _ _ (ret Value.none) _ _ _
     refine fq ⟨rfl,h',tk,rfl,a1,fun b o z=>?_⟩;have hlt:=fC z;exact a4 b o (fE hlt) (by rw[z1];exact fE (iQ hlt)) (fz _ (fz _ z))
   ·cases r2 with
    |error e=>exact hr2
    |ok fl2=>
     cases fl2 with
     |ret r=>
      obtain⟨rfl,h',tk,rfl,a1,a4⟩:=hr2
      repeat (any_goals (first|assumption|wp_step))
      exact h _ _ a1 a4
     |_=>exact hr2.elim
  |_=>exact hr.elim
section
variable{prog:Program}{w:World}{A:Around}{E:Value->Shared->Prop}{s:Shared}
theorem qo{α:Type}:∀{l:List α}{i:Nat} (h:i<l.length),l.Perm (l[i]::l.eraseIdx i)
 |x::r,0,_=>.refl _
 |x::r,i+1,h=>by
  have hi:i<r.length:=by simpa using h
  have ih:=qo hi
  show(x::r).Perm (r[i]::x::r.eraseIdx i)
  exact(ih.cons x).trans (.swap _ _ _)
theorem xX(n:Nat):∀(xs:List α) {s:Shared}{Q:List α->Shared->Prop},xs.length=n->(∀ys dr,ys.Perm xs->Q ys { s with drawn:=dr })->wpAny (model prog w) A (drawOrder n xs) Q E s:=by
 induction n with
 |zero=>
  intro xs s Q hl h;have:xs=[]:=mT hl;subst this;unfold drawOrder;exact fq (h [] s.drawn (.refl _))
 |succ n ih=>
  intro xs s Q hl h;cases xs with
  |nil=>simp at hl
  |cons x r=>
   show wpAny _ _ (choose .order (x::r).length >>= _) _ _ s
   refine fg (KI (by simp) fun i dr hi=>?_);have e:(x::r)[i]?=some (x::r)[i]:=fj hi;rw[e];dsimp only;refine fg (ih ((x::r).eraseIdx i) (by rw[List.length_eraseIdx_of_lt hi];omega) fun ys dr' hp=>?_);exact fq (h (_::ys) dr' ((hp.cons _).trans (qo hi).symm))
theorem zj{α:Type}{next:Nat->Nat}:∀(f k:Nat) (left:List α) (out:Array α),left.length=f->(pickOrder.go next f k left out).toList.Perm (out.toList++left)
 |0,k,left,out,h=>by
  have:left=[]:=mT h;subst this;unfold pickOrder.go;rw[ip]
 |f+1,k,left,out,h=>by
  have hi:next k%left.length<left.length:=Nat.mod_lt _ (by omega);unfold pickOrder.go;rw[fj hi];dsimp only;have ih:=zj (next:=next) f (k+1) (left.eraseIdx (next k%left.length)) (out.push left[next k%left.length]) (by rw[List.length_eraseIdx_of_lt hi];omega);refine ih.trans ?_;rw[nr,iG];exact List.Perm.append_left _ (qo hi).symm
theorem Zaj{next:Nat->Nat}(xs:Array α):(pickOrder next xs).toList.Perm xs.toList:=by
 have:=zj (next:=next) xs.size 0 xs.toList #[] (hV ..)
 show(pickOrder.go next xs.size 0 xs.toList #[]).toList.Perm _
 simpa using this
end
theorem Ze2{U:L2.St}(I:L2.Inv X cQ U H s)(d:Drawn):L2.Inv X cQ U H { s with drawn:=d }:=
 ⟨I.ok,I.os,I.bare,I.base,I.loc,I.cell,I.free,I.freeC,I.pin,I.hok,I.len⟩
theorem ZN{a:Addr}(h:H a=none):∃H1,upd H a o=H1/\Ze H H1/\H1 a=some o:=⟨_,rfl,Zi h,Zd⟩
theorem ZaC(n:Int):atI ("abcdefghijklmnopqrstuvwxyz" : Str).cps.toList (n%26)=some (97+(n%26).toNat):=by
 have h0:=lV n (show(26:Int)≠0 by decide);have h1:=lW n (show(0:Int)<26 by decide);obtain⟨j,e⟩:=ml h0;rw[e] at h1 ⊢;have hj:j<26:=by omega
 have ha:∀i:Fin 26,("abcdefghijklmnopqrstuvwxyz" : Str).cps.toList[i.val]?=some (97+i.val):=by decide +kernel
 exact Zj (ha ⟨j,hj⟩)
abbrev TEm:=St->Hp->(St->Hp->Prop)->Prop
def PEm(X:Cx)(em:Sem Unit)(t:TEm):Prop:=
 ∀(cQ:List (Addr×Obj)) (s:Shared) (U:St) (H:Hp) (Q:St->Hp->Prop),L2.Inv X cQ U H s->t U H Q->wpAny (model X.prog X.w) X.A em (fun _ s'=>∃σ' H',L2.Inv X cQ σ' H' s'/\Q σ' H') X.xe s
def Q5(J:It)(g:TG)(tt:TT)(em:TEm)(σ0:St)(H1:Hp)(Q:St->Hp->Prop):Prop:=
 ∃W:Nat->Nat->St->Hp->Prop,(∃m,W 0 m σ0 H1)/\∀i m σ' H',W i m σ' H'->(J.stop i H'/\Q σ' H') \/
  (J.go i H'/\∃N:St->Hp->Prop,(∀σ2 H5,N σ2 H5->∃m',m'<m/\W (i+1) m' σ2 H5)/\∀x H2,J.yld i H' x H2->g x σ' H2 fun σ2 H3=>tt σ2 H3 fun c H4=>if c=true then em σ2 H4 N else N σ2 H4)
def Qj(p:Pos)(tg:Expr)(ifs:List Expr)(it:Value)(env:Env)(body:Sem Unit)(c:Code):Sem Fin:=do
 standAt p
 match <- pyNext it with
 |none=>pure (.done .next)
 |some v=>
  letOwnedTupleGo tg it v
  assign tg env v
  let mut ok:=true
  for c in ifs do
   if ok then ok <- isTrue c env (eval c env)
  if ok then body
  again c
theorem ZbS{d:Nat}(h:(Code.compLoop e d it acc env).isFrame=false) :
  (model prog w).den (.compLoop e d it acc env)=(compTurn e d it acc env).onRaise (fun x=>do noteFrame x env;theTreesLotGoes x):=by
 show(if(Code.compLoop e d it acc env).isFrame then(compTurn e d it acc env).onRaise (leaving env) else(compTurn e d it acc env).onRaise (fun x=>do noteFrame x env;theTreesLotGoes x))=_
 rw[h];rfl
theorem Zak{d:Nat}(h:(Code.compStart e d it acc env).isFrame=false) :
  (model prog w).den (.compStart e d it acc env)=(compStart e d it acc env).onRaise (fun x=>do noteFrame x env;standAt theWindowsPlace):=by
 show(if(Code.compStart e d it acc env).isFrame then(compStart e d it acc env).onRaise (leaving env) else(compStart e d it acc env).onRaise (fun x=>do noteFrame x env;standAt theWindowsPlace))=_
 rw[h];rfl
theorem Zar{d:Nat}(cl:(clausesOf e)[d]?=some ⟨tg,iter,ifs,0⟩)(hf:(Code.compStart e d it acc env).isFrame=false)
  (h0:codeAny (model prog w) A (.compLoop e d it acc env) R s)
  (h:wpAny (model prog w) A (pyIter it) (fun it' s'=>codeAny (model prog w) A (.compLoop e d it' acc env) R s') (fun _ _=>False) s) (hu:A.under (.compStart e d it acc env)=A:=by rfl) (hq:∀it',(Code.compLoop e d it' acc env).quiet=true:=by intro _;rfl) :
  codeAny (model prog w) A (.compStart e d it acc env) R s:=by
 refine codeAny_of_tree ?_;rw[Zak hf,hu];refine wpAny_notedAt ?_;unfold compStart;rw[cl]
 show wpAny _ A (ask >>= _) _ _ s
 refine fg (mR (wpAny_ite ?_))
 split
 ·first
   |exact fg (fq (fq (And.intro (hq _) h0)))
   |exact fq (And.intro (hq _) h0)
 ·first
   |exact fg (lS (fg (lh (fg (JR h fun it' s' h'=>fq (And.intro (hq _) h'))))))
   | (refine fg (lS ?_);show wpAny _ _ (standAt iter.pos >>= _) _ _ s;exact fg (lh (fg (JR h fun it' s' h'=>fq (And.intro (hq _) h')))))
section
variable{Y:Cx}{it:Addr}{tn:Nat->Heap->Prop}{g:TG}{em:TEm}{p:Pos}{body:Sem Unit}{d:Nat}{Q:St->Hp->Prop}
theorem ZdG(hf:(Code.compLoop e d (.ref it) acc Y.env).isFrame=false)(ht:compTurn e d (.ref it) acc Y.env=Qj p tg ifs (.ref it) Y.env body (.compLoop e d (.ref it) acc Y.env))
  (T:K5 Y.prog Y.w Y.K tg J fp it tn) (I:L2.Inv Y cQ σ0 H1 s) (st:tn 0 s.heap) (hfp:∀b∈fp,VM Y cQ H1 b) (hc:Y.calm=true) (hx:Y.xe=fun _ _=>False)
  (hg:PG Y tg g) (hT:PTs Y ifs tt) (he:PEm Y body em) (h:Q5 J g tt em σ0 H1 Q) (hR:∀σ' H' s',L2.Inv Y cQ σ' H' s'->Q σ' H'->R (.ok .next) s')
  (hu:Y.A.under (.compLoop e d (.ref it) acc Y.env)=Y.A:=by rfl) (hq:(Code.compLoop e d (.ref it) acc Y.env).quiet=true:=by rfl) :
  codeAny (model Y.prog Y.w) Y.A (.compLoop e d (.ref it) acc Y.env) R s:=by
 obtain⟨W,⟨m0,w0⟩,turn⟩:=h;have stat:∀{H':Hp},(∀b∈fp,H' b=none)->∀b∈fp,VM Y cQ H' b:=fun {H'} hn b hb=>by
  obtain⟨f0,fr⟩:=hfp b hb;exact⟨hn b hb,fr⟩
 unfold PG at hg;unfold PTs at hT;unfold PEm at he;rw[hx] at hg hT he;refine codeAny_loop hq (fun n s'=>∃i σ' H',L2.Inv Y cQ σ' H' s'/\tn i s'.heap/\(∀b∈fp,H' b=none)/\W i n σ' H') ?_ m0 ⟨0,σ0,H1,I,st,fun b hb=>(hfp b hb).1,w0⟩;rintro n s5 ⟨i,σ5,H5,I5,st5,fr5,w5⟩;rw[ZbS hf,hu,ht];refine wpAny_noted ?_;unfold Qj;have TI:=T.item Y rfl rfl rfl hc i cQ s5 σ5 H5 (fun _ _=>False) I5 (stat fr5) st5;have TD:=T.done Y rfl rfl rfl hc i cQ s5 σ5 H5 (fun _ _=>False) I5 (stat fr5) st5;rcases turn i n σ5 H5 w5 with⟨stop,qn⟩|⟨go,N,hN,step⟩
 ·refine fg (lh (fg (JR (TD stop) fun r s6 ⟨hr,I6⟩=>?_)));subst hr;exact fq (hR _ _ _ I6 qn)
 ·refine fg (lh (fg (JR (TI go) fun r s6 ⟨u,hr,h6⟩=>?_)));subst hr;refine fg (JR h6 fun _ s7 ⟨x,H7,I7,r7,y7,st7,fr7⟩=>?_);have I7':=I7.pinned (stat fr7) (T.obj _ _ st7);refine fg (JR (hg _ s7 σ5 H7 x u _ I7' r7 (step x H7 y7)) fun _ s8 ⟨σ8,H8,I8,q8⟩=>?_);refine fg (JR (hT _ s8 σ8 H8 _ I8 q8) fun c s9 ⟨H9,I9,q9⟩=>?_);have back:∀{σa:St}{Ha:Hp}{sa:Shared},L2.Inv Y (cQ++qL fp s7.heap) σa Ha sa->(∃m',m'<n/\W (i+1) m' σa Ha)->∃m,m<n/\∃i σ' H',L2.Inv Y cQ σ' H' sa/\tn i sa.heap/\(∀b∈fp,H' b=none)/\W i m σ' H':=fun {σa Ha sa} Ia ⟨m',hm,wa⟩=>by
   refine⟨m',hm,i+1,σa,Ha,Ia.unpinned,T.keep _ _ _ st7 fun b hb o e=>(Ia.pin (b,o) (gi _ (gi _ (Wu hb e)))).1,fun b hb=>?_,wa⟩;obtain⟨o,e,d⟩:=T.obj _ _ st7 b hb;exact(Ia.pin (b,o) (gi _ (gi _ (Wu hb e)))).2.1
  cases c with
  |false=>exact fq ⟨rfl,back I9 (hN _ _ (by simpa using q9))⟩
  |true=>
   rw[if_pos rfl] at q9;exact fg (JR (he _ s9 σ8 H9 _ I9 q9) fun _ s10 ⟨σ10,H10,I10,q10⟩=>fq ⟨rfl,back I10 (hN _ _ q10)⟩)
end
def Zca(wi:TI)(ix:List (Option Nat))(o0:Addr->HO)(g:TG)(tt:TT)(em:Addr->TEm):TE:=fun U H Q=>wi U H fun J H1=>∀D,H1 D=none->Q5 J g tt (em D) (sub ix U) (upd H1 D (o0 D)) (fun _ H'=>Q (.ref D) H')
theorem vI{X3:List Comprehension}{nA:Sem Value}{o0:Addr->HO}{g:TG}{em:Addr->TEm}{Q:VK}
  (I:L2.Inv X cQ U H s) (h:Zca wi ix o0 g tt em U H Q)
  (fin:∀(D C:Addr) (H':Hp) (s':Shared) (m:Str->Option Value),L2.Inv X cQ U H' s'->VM X cQ H' C->s'.heap.Ns C m->Q (.ref D) H'->compPost (model X.prog X.w) X.A X.xe use QV (.ref D) C (.ok .next) s')
  (hcl:clausesOf e=⟨tg,iter,ifs,0⟩::X3) (hfr:∀it acc env,(Code.compLoop e 0 it acc env).isFrame=false/\(Code.compStart e 0 it acc env).isFrame=false)
  (htn:∀it D env,compTurn e 0 it (.ref D) env=Qj iter.pos tg ifs it env (bd D env) (.compLoop e 0 it (.ref D) env))
  (hun:∀(A:Around) it acc env,A.under (.compLoop e 0 it acc env)=A/\A.under (.compStart e 0 it acc env)=A) (hqt:∀it acc env,(Code.compLoop e 0 it acc env).quiet=true)
  (hnA:∀(A:Around) (E:Value->Shared->Prop) (Q:Value->Shared->Prop) (s:Shared),Q (.ref s.heap.objs.size) { s with heap:=s.heap.push ob }->wpAny (model X.prog X.w) A nA Q E s)
  (hpl:∀s2:Shared,∀H1,L2.Inv X cQ U H1 s2->L2.Inv X cQ U (upd H1 s2.heap.objs.size (o0 s2.heap.objs.size)) { s2 with heap:=s2.heap.push ob })
  (ok:ZL X.env.scope X.N Nc ix scope) (hc:X.calm=true) (hi:PI X tg iter wi)
  (hg:∀cl C s H fp,PG (YN X Nc scope cl C s H fp) tg g) (ht:∀cl C s H fp,PTs (YN X Nc scope cl C s H fp) ifs tt) (he:∀cl C s H fp D,PEm (YN X Nc scope cl C s H fp) (bd D (compEnvC scope cl C X.env)) (em D))
  (hs:∀x,foldedSetIterable iter X.env x=pure x:=by intro _;rfl):wpAny (model X.prog X.w) X.A (comprehension e scope X.env pos2 nA false (eval iter X.env) use) QV X.xe s:=by
 refine wpAny_comprehension_free (use:=use) (cl:=Y7 scope X.env) hcl hs (Q2 (zW I ok)) ok.kind ok.names (thn (hi cQ s U H _ I h) fun v s1 q1=>thn q1 fun itv s2 q2=>?_);obtain⟨it,fp,tn,J,H1,e1,I2,T,st2,f2,q⟩:=q2;subst e1;have hD:H1 s2.heap.objs.size=none:=I2.hok.fresh (fh _);have lw:=q _ hD;refine hnA _ _ _ _ ?_;have I3:=hpl s2 H1 I2;have hob2:=T.obj 0 _ st2;have f3:∀b∈fp,VM X cQ (upd H1 s2.heap.objs.size (o0 s2.heap.objs.size)) b:=fun b hb=>by
  obtain⟨o,e,_⟩:=hob2 b hb;obtain⟨f0,fr⟩:=f2 b hb;exact⟨by rw[Zx (fE (fC e))];exact f0,fr⟩
 have st3:tn 0 (s2.heap.push ob):=T.keep 0 _ _ st2 fun b _ o e=>fz _ e;generalize hs3:({ s2 with heap:=s2.heap.push ob }:Shared)=s3 at I3 ⊢;have st3':tn 0 s3.heap:=by rw[<- hs3];exact st3
 refine wpAny_newFunctionEnv ok.nocell (by intro y hy;simp at hy) (fun h1 hns hsb=>?_) ok.kind;have k1:∀b o,s3.heap.get? b=some o->h1.get? b=some o:=fun b o e=>(hsb.2 b (fE (fC e))).trans (fz _ e);have hob3:∀b∈fp,∃o,s3.heap.get? b=some o:=fun b hb=>let ⟨o,e,_⟩:=T.obj 0 _ st3' b hb; ⟨o,e⟩
 have I4:L2.Inv (YN X Nc scope (Y7 scope X.env) s3.heap.objs.size s3 (upd H1 s2.heap.objs.size (o0 s2.heap.objs.size)) fp) cQ (sub ix U) (upd H1 s2.heap.objs.size (o0 s2.heap.objs.size)) { s3 with heap:=h1,toks:=s3.toks+([]:List (Str×Value)).length }:=
  Qo I3 ok f3 hob3 hns k1
 have st4:tn 0 h1:=T.keep 0 _ _ st3' fun b _ o e=>k1 b o e;have hC:s3.heap.get? s3.heap.objs.size=none:=Heap.get?_none_of_le (fh _);have f4:∀b∈fp,VM (YN X Nc scope (Y7 scope X.env) s3.heap.objs.size s3 (upd H1 s2.heap.objs.size (o0 s2.heap.objs.size)) fp) cQ (upd H1 s2.heap.objs.size (o0 s2.heap.objs.size)) b:=fun b hb=>by
  obtain⟨o,e⟩:=hob3 b hb;obtain⟨f0,f1,ff,f3',f4,f5⟩:=f3 b hb;have nst:b∉frs X.stack:=fun z=>by
   rcases fF.mp (I3.stkSub b z) with z|z
   ·exact f1 z
   ·exact ff z
  exact⟨f0,fE (fC e),nst,.inl hb,fun x c q=>f4 x c (Yx (zW I3 ok) q),f5⟩
 have loop:=ZdG (Y:=YN X Nc scope (Y7 scope X.env) s3.heap.objs.size s3 (upd H1 s2.heap.objs.size (o0 s2.heap.objs.size)) fp) (e:=e) (d:=0) (acc:=.ref s2.heap.objs.size) (p:=iter.pos) (R:=compPost (model X.prog X.w) X.A X.xe use QV (.ref s2.heap.objs.size) s3.heap.objs.size)
  (hfr _ _ _).1 (htn _ _ _) T I4 st4 f4 hc rfl (hg _ _ _ _ _) (ht _ _ _ _ _) (he _ _ _ _ _ _) lw (fun σ' H' s' J' qq=>by
   obtain⟨m',hn',_⟩:=id J'.loc;have hCn:H' s3.heap.objs.size=none:=J'.free;exact fin _ _ H' s' m' (Zbc (h':=s'.heap) I3 f3 hC J' (.refl ..)) (I3.fpOk (fh _) hCn) hn' qq) (hun _ _ _ _).1 (hqt _ _ _)
 exact Zar (by rw[hcl];rfl) (hfr _ _ _).2 loop (T.self X.A 0 _ _ _ st4 loop) (hun _ _ _ _).2 (fun _=>hqt _ _ _)
theorem k4{g:TG}{em:TEm}{Q:St->Hp->Prop}(Pv:Nat->St->Hp->Prop)(h0:Pv 0 σ0 H0)
  (hgo:∀i U H,i<n->Pv i U H->J.go i H) (hst:∀U H,Pv n U H->J.stop n H)
  (hs:∀i x U H H2,i<n->Pv i U H->J.yld i H x H2->∀(N:St->Hp->Prop),(∀σ2 H4,Pv (i+1) σ2 H4->N σ2 H4) ->
   g x U H2 fun σ2 H3=>tt σ2 H3 fun c H4=>if c=true then em σ2 H4 N else N σ2 H4)
  (hd:∀U H,Pv n U H->Q U H):Q5 J g tt em σ0 H0 Q:=by
 refine⟨fun i m U H=>m=n-i/\i<=n/\Pv i U H,⟨n,by simp,gk _,h0⟩,?_⟩;rintro i m U H ⟨rfl,hi,p⟩
 by_cases hlt:i<n
 ·refine .inr ⟨hgo i U H hlt p,fun σ2 H4=>Pv (i+1) σ2 H4,fun σ2 H4 q=>⟨n-(i+1),by omega,rfl,hlt,q⟩,fun x H2 y=>hs i x U H H2 hlt p y _ fun σ2 H4 q=>q⟩
 ·have:i=n:=by omega
  subst this;exact .inl ⟨hst U H p,hd U H p⟩
def emL(te:TE)(D:Addr):TEm:=fun U H Q=>te U H fun v H5=>∃xs,H5 D=some (.lst xs)/\xs.length<sizeLine/\Q U (upd H5 D (.lst (xs++[v])))
theorem ZbP{Y:Cx}(h:PE Y elt te):PEm Y (do let _ <- call (.builtin "list.append") [.ref D,<- eval elt Y.env]) (emL te D):=by
 intro cQ s U H Q I q;refine fg (thn (h cQ s U H _ I q) fun z s1 ⟨v,H1,I1,r1,xs,hx,hz,q1⟩=>?_);have ap:=Z1 (X:=Y) cQ s1 U H1 (.ref D) [v] (.ref D) [z] (fun _ Hb=>Q U Hb) I1 rfl (.cons r1 .nil) ⟨_,xs,v,rfl,rfl,hx,hz,q1⟩;exact fg (thn ap fun _ s11 ⟨_,H11,I11,_,q11⟩=>fq ⟨U,H11,I11,q11⟩)
def emD(tk tv:TE)(D:Addr):TEm:=fun U H Q=>tk U H fun y H5=>tv U H5 fun v H6=>∃H7,Ja H6 D y v H7/\Q U H7
section
variable{U:L2.St}{a:Addr}{r:Value}
theorem ZfY{Q:Unit->Shared->Prop}(hu:A.units<cLine)(I:L2.Inv X cQ U H s)(g:Ja H a y v H')(ry:ZZ y u)(rv:ZZ v r)(h:∀s',L2.Inv X cQ U H' s'->Q () s') :
  wpAny (model X.prog X.w) A (dictSet a u r) Q E s:=by
 rcases g with⟨kvs,k,e,ey,l,eH⟩|⟨kvs,k,b,e,ey,eb,l,eH⟩
 ·subst ey eH;obtain⟨z,hd,vs,rel,dd⟩:=Zd7 I.hok e;have hz:vs.length<=sizeLine:=by rw[<- rel.length];exact z
  have hl:(WS kvs k v).length<=sizeLine:=by have:=X6 kvs k v;omega
  refine wpAny_dictSet_pairs (hsz:=hz) (Kf ry) dd fun h' dd' hs=>h _ ?_;have he:∃q,h'.get? a=some q:=let ⟨q,_,_,hq,_⟩:=dd'; ⟨q,hq⟩
  exact UX I (by rw[e];exact True.intro) hs he (Zbx hl hd (rel.put k rv) dd')
 ·subst ey eH;cases (show u=Value.ref b from ry);obtain⟨z,hd,xs,rel,dd⟩:=Zev I.hok e;have hz:xs.length<=sizeLine:=by rw[<- l8 rel];exact z
  have hl:(WS kvs k v).length<=sizeLine:=by have:=X6 kvs k v;omega
  refine wpAny_dictSet_heap (hsz:=hz) hu (xk I.hok eb) dd fun h' dd' hs=>h _ ?_;obtain⟨q,es,ep,hq,h2,h3,h4,_,h5⟩:=dd';refine UX I (by rw[e];exact True.intro) hs ⟨q,hq⟩ ⟨hl,hd,_,(rel.put k eb rv).keeps fun c ys ec=>?_,q,es,ep,hq,h2,h3,h4,h5⟩;rw[Zx (VE ec e (fun z=>nomatch z))];exact ec
end
theorem Zcv{Y:Cx}{kx vx:Expr}{tk tv:TE}(hu:Y.A.units<cLine)(hk:PE Y kx tk)(hv:PE Y vx tv):PEm Y (do
   let kv <- eval kx Y.env
   let vv <- holding [kv] (eval vx Y.env)
   standAt { kx.pos with endLine:=vx.pos.endLine,endCol:=vx.pos.endCol }
   holding [kv,vv] (dictSet D kv vv)) (emD tk tv D):=by
 intro cQ s U H Q I q;refine fg (thn (hk cQ s U H _ I q) fun z s1 ⟨y,H1,I1,r1,q1⟩=>?_);refine fg (gW (thn (hv cQ s1 U H1 _ I1 q1) fun z2 s2 ⟨v,H2,I2,r2,H3,hp,q2⟩=>?_));exact fg (lh (gW (ZfY hu I2 hp r1 r2 fun s' I'=>⟨U,H3,I',q2⟩)))
theorem ZaD{s2:Shared}(I2:L2.Inv X cQ U H1 s2):L2.Inv X cQ U (upd H1 s2.heap.objs.size (.lst [])) { s2 with heap:=s2.heap.push { cls:=.type "list",data:=.seq ([]:List Value).toArray } }:=
 I2.laid (t':=s2.toks) (fun b u e=>fz _ e) (fh _) ⟨gk _,[],0,.nil,fR _ rfl⟩
theorem Qq{x:Str}{D:Kj}{L:Addr}{m:Str->Option Value}(hN:X.N.Nodup)(hi:X.N[i]?=some x)(hx:X.env.kindOf x=some .local)(I':L2.Inv X cQ U H' s')(f:VM X cQ H' C)(hn:s'.heap.Ns C m)(qq:D.nx (U.set i (some (.ref L))) H') :
  compPost (model X.prog X.w) X.A X.xe (some (assign (.Name x pos') X.env)) (fun _ s'=>SP X cQ D .next s') (.ref L) C (.ok .next) s':=by
 obtain⟨f0,f1,f2,f3,f4,f5⟩:=f;refine wpAny_assign_Name (zU (v:=.ref L) I' hN hi (.inl hx) rfl (fun s2 I2 ⟨a,sb,ha⟩=>?_) (.inr hx));have hCa:C≠a:=by
  rintro rfl;rcases ha with z|z
  ·exact f1 z
  ·exact f4 _ _ z rfl
 exact⟨m,hn.sameBut sb hCa,fun h' sb'=>⟨_,H',I2.turned (t':=s2.toks) (fun b o hb e=>(sb'.2 b hb).trans e) f0 f1 f3 f4 f5,qq⟩⟩
theorem ZaN{kx vx:Expr}{g:TG}{tk tv:TE}{o0:HO}(h0:o0=.dK []\/o0=.dT [])(ok:ZL X.env.scope X.N Nc ix scope)(hu:X.A.units<cLine)(hc:X.calm=true)(hi:PI X tg iter wi)
  (hg:∀cl C s H fp,PG (YN X Nc scope cl C s H fp) tg g) (ht:∀cl C s H fp,PTs (YN X Nc scope cl C s H fp) ifs tt)
  (hk:∀cl C s H fp,PE (YN X Nc scope cl C s H fp) kx tk) (hv:∀cl C s H fp,PE (YN X Nc scope cl C s H fp) vx tv)
  (hs:∀x,foldedSetIterable iter X.env x=pure x:=by intro _;rfl):PE X (.DictComp kx vx [⟨tg,iter,ifs,0⟩] scope pos) (Zca wi ix (fun _=>o0) g tt (fun D=>emD tk tv D)):=by
 intro cQ s U H Q I h;rw[arm_eval_DictComp];refine vI (e:=.DictComp kx vx [⟨tg,iter,ifs,0⟩] scope pos) (use:=none) (QV:=EP X cQ U Q) (ob:={ cls:=.type "dict",data:=.dict #[] }) (bd:=fun D env=>do
   let kv <- eval kx env
   let vv <- holding [kv] (eval vx env)
   standAt { kx.pos with endLine:=vx.pos.endLine,endCol:=vx.pos.endCol }
   holding [kv,vv] (dictSet D kv vv)) I h (fun D C H' s' m I' f hn qq=>?_) rfl (fun _ _ _=>⟨rfl,rfl⟩) (fun _ _ _=>rfl) (fun _ _ _ _=>⟨rfl,rfl⟩) (fun _ _ _=>rfl)
  (fun _ _ _ _ q=>g7 q) (fun s2 H1 I2=>?_) ok hc hi hg ht (fun cl C s H fp D=>Zcv (Y:=YN X Nc scope cl C s H fp) hu (hk cl C s H fp) (hv cl C s H fp)) hs
 ·obtain⟨f0,f1,f2,f3,f4,f5⟩:=f;exact⟨m,hn,fun h' sb=>⟨.ref D,H',I'.turned (t':=s'.toks) (fun b o hb e=>(sb.2 b hb).trans e) f0 f1 f3 f4 f5,rfl,qq⟩⟩
 ·rcases h0 with rfl|rfl
  ·exact I2.laid (t':=s2.toks) (fun b u e=>fz _ e) (fh _) (zq s2.heap I2.big)
  ·exact I2.laid (t':=s2.toks) (fun b u e=>fz _ e) (fh _) (ZbW s2.heap I2.big)
def zp(J:It)(D:Addr)(g:TG)(tt:TT)(te:TE)(σ0:St)(H1:Hp)(Q:VK):Prop:=Q5 J g tt (emL te D) σ0 (upd H1 D (.lst [])) (fun _ H'=>Q (.ref D) H')
def Ql(wi:TI)(ix:List (Option Nat))(g:TG)(tt:TT)(te:TE):TE:=fun U H Q=>wi U H fun J H1=>∀D,H1 D=none->zp J D g tt te (sub ix U) H1 Q
theorem vT{g:TG}{Q:VK}(I:L2.Inv X cQ U H s)(h:Ql wi ix g tt te U H Q)
  (fin:∀(D C:Addr) (H':Hp) (s':Shared) (m:Str->Option Value),L2.Inv X cQ U H' s'->VM X cQ H' C->s'.heap.Ns C m->Q (.ref D) H'->compPost (model X.prog X.w) X.A X.xe use QV (.ref D) C (.ok .next) s')
  (ok:ZL X.env.scope X.N Nc ix scope) (hc:X.calm=true) (hi:PI X tg iter wi)
  (hg:∀cl C s H fp,PG (YN X Nc scope cl C s H fp) tg g) (ht:∀cl C s H fp,PTs (YN X Nc scope cl C s H fp) ifs tt) (he:∀cl C s H fp,PE (YN X Nc scope cl C s H fp) elt te)
  (hs:∀x,foldedSetIterable iter X.env x=pure x):wpAny (model X.prog X.w) X.A (comprehension (.ListComp elt [⟨tg,iter,ifs,0⟩] scope pos) scope X.env pos2 (newList []) false (eval iter X.env) use) QV X.xe s:=
 vI (em:=fun D=>emL te D) (o0:=fun _=>.lst []) (ob:={ cls:=.type "list",data:=.seq ([]:List Value).toArray }) (bd:=fun D env=>do let _ <- call (.builtin "list.append") [.ref D,<- eval elt env]) I h fin rfl (fun _ _ _=>⟨rfl,rfl⟩) (fun _ _ _=>rfl) (fun _ _ _ _=>⟨rfl,rfl⟩) (fun _ _ _=>rfl)
  (fun _ _ _ _ q=>g7 q) (fun _ _ I2=>ZaD I2) ok hc hi hg ht (fun cl C s H fp D=>ZbP (he cl C s H fp)) hs
theorem ZU{g:TG}(ok:ZL X.env.scope X.N Nc ix scope)(hc:X.calm=true)(hi:PI X tg iter wi)
  (hg:∀cl C s H fp,PG (YN X Nc scope cl C s H fp) tg g) (ht:∀cl C s H fp,PTs (YN X Nc scope cl C s H fp) ifs tt) (he:∀cl C s H fp,PE (YN X Nc scope cl C s H fp) elt te)
  (hs:∀x,foldedSetIterable iter X.env x=pure x:=by intro _;rfl):PE X (.ListComp elt [⟨tg,iter,ifs,0⟩] scope pos) (Ql wi ix g tt te):=by
 intro cQ s U H Q I h;rw[eval_ListComp];refine vT (use:=none) I h (fun D C H' s' m I' f hn qq=>?_) ok hc hi hg ht he hs;obtain⟨f0,f1,f2,f3,f4,f5⟩:=f;exact⟨m,hn,fun h' sb=>⟨.ref D,H',I'.turned (t':=s'.toks) (fun b o hb e=>(sb.2 b hb).trans e) f0 f1 f3 f4 f5,rfl,qq⟩⟩
theorem Y8{x:Str}{spos:Pos}{g:TG}(hN:X.N.Nodup)(hi:X.N[i]?=some x)(hx:X.env.kindOf x=some .local)
  (ok:ZL X.env.scope X.N Nc ix scope) (hc:X.calm=true) (hit:PI X tg iter wi)
  (hg:∀cl C s H fp,PG (YN X Nc scope cl C s H fp) tg g) (ht:∀cl C s H fp,PTs (YN X Nc scope cl C s H fp) ifs tt) (he:∀cl C s H fp,PE (YN X Nc scope cl C s H fp) elt te)
  (hsw:swapsWith (.ListComp elt [⟨tg,iter,ifs,0⟩] scope pos) (some (.Name x pos')) spos.line X.env=pure true:=by rfl)
  (hs:∀x,foldedSetIterable iter X.env x=pure x:=by intro _;rfl):PS X (.Assign [.Name x pos'] (.ListComp elt [⟨tg,iter,ifs,0⟩] scope pos) spos) (Zdk (Ql wi ix g tt te) (V0 i)):=by
 intro cQ s U H D I h;rw[exec_Assign_Name_used _ _ _ _ hsw];refine fg (lh (fg ?_))
 show wpAny _ X.A (do let _ <- comprehension (.ListComp elt [⟨tg,iter,ifs,0⟩] scope pos) scope X.env _ (newList []) false (eval iter X.env) (some (assign (.Name x pos') X.env))) _ _ s
 refine fg (thn (vT (use:=some (assign (.Name x pos') X.env)) (QV:=fun _ s'=>SP X cQ D .next s') I h (fun L C H' s' m I' f hn qq=>?_) ok hc hit hg ht he hs) fun _ s' q=>fq (fq q));exact Qq hN hi hx I' f hn qq
theorem YJ{g:TG}{Q:VK}(Pv:Nat->St->Hp->Prop)(h0:Pv 0 σ0 (upd H0 D (.lst [])))
  (hgo:∀i U H,i<n->Pv i U H->J.go i H) (hst:∀U H,Pv n U H->J.stop n H)
  (hs:∀i x U H H2,i<n->Pv i U H->J.yld i H x H2->∀(N:V->St->Hp->Prop) (N0:St->Hp->Prop),(∀v σ2 H5 ys,H5 D=some (.lst ys)->ys.length<sizeLine->Pv (i+1) σ2 (upd H5 D (.lst (ys++[v])))->N v σ2 H5)->(∀σ2 H4,Pv (i+1) σ2 H4->N0 σ2 H4) ->
   g x U H2 fun σ2 H3=>tt σ2 H3 fun c H4=>if c=true then te σ2 H4 fun v H5=>N v σ2 H5 else N0 σ2 H4)
  (hd:∀U H,Pv n U H->Q (.ref D) H):zp J D g tt te σ0 H0 Q:=by
 refine k4 (n:=n) Pv h0 hgo hst (fun i x U H H2 hi p y N hN=>?_) hd;exact hs i x U H H2 hi p y (fun v σ2 H5=>∃ys,H5 D=some (.lst ys)/\ys.length<sizeLine/\N σ2 (upd H5 D (.lst (ys++[v])))) N (fun v σ2 H5 ys a b c=>⟨ys,a,b,hN _ _ c⟩) hN
theorem Ws{a:Addr}{xs:List V}{Q:VK}(hD:H0 D=none)(hq:SqL K H0 a xs)(hz:xs.length<=sizeLine)(R:Nat->V->Hp->Prop)(mono:∀i v H H',Ze H H'->R i v H->R i v H')
  (step:∀i x H (N:V->Hp->Prop),xs[i]?=some x->Ze H0 H->(∀v H4,Ze H H4->R i v (New H H4)->N v H4)->te (some x::τ) H N)
  (fin:∀H' ys,H' D=some (.lst ys)->Ze H0 H'->ys.length=xs.length->(∀i v,ys[i]?=some v->R i v (New H0 H'))->Q (.ref D) H') :
  zp (Itl K a) D (V0 0) yL te (none::τ) H0 Q:=by
 refine YJ (n:=xs.length) (fun i U H=>∃z ys,U=z::τ/\H D=some (.lst ys)/\ys.length=i/\Ze H0 H/\∀j v,ys[j]?=some v->R j v (hide D (New H0 H))) ?_ ?_ ?_ ?_ ?_
 ·exact⟨none,[],rfl,Zd,rfl,Zi hD,fun j v e=>by simp at e⟩
 ·rintro i U H hi ⟨z,ys,rfl,_,_,s,_⟩;exact⟨xs,xs[i],s.seq hq,by simp[hi]⟩
 ·rintro U H ⟨z,ys,rfl,_,_,s,_⟩;exact⟨xs,s.seq hq,fh _⟩
 ·rintro i x U H H2 hi ⟨z,ys,rfl,hy,hl,s,r⟩ ⟨rfl,hx⟩ N N0 hN hN0
  show te (some x::τ) H2 _
  refine step i x H2 _ (hx xs (s.seq hq)) s fun v H4 s4 r4=>?_;refine hN v _ H4 ys (s4 _ _ hy) (by omega) ⟨some x,ys++[v],rfl,Zd,by rw[fu,gn,hl],?_,?_⟩
  ·exact(Zs.upd (Ze.x (s.trans s4))).same hD
  ·intro j w e
   by_cases hj:j<ys.length
   ·rw[fW hj] at e;refine mono j w _ _ ?_ (r j w e);intro b o hb;obtain⟨nb,hb⟩:=zV hb;obtain⟨h1,h2⟩:=New.of hb;exact XY nb (New.mk h1 (by rw[Zx nb];exact s4 _ _ h2))
   ·have ej:j=ys.length:=by
     have:=(fD.mp e).1;rw[fu,gn] at this;omega
    subst ej;simp at e;subst e;rw[hl];refine mono i v _ _ ?_ r4;intro b o hb;obtain⟨h1,h2⟩:=New.of hb;have nb:b≠D:=fun z=>by subst z;rw[hy] at h1;cases h1
    exact XY nb (New.mk (s.free h1) (by rw[Zx nb];exact h2))
 ·rintro U H ⟨z,ys,rfl,hy,hl,s,r⟩;exact fin H ys hy s hl fun i v e=>mono i v _ _ WK (r i v e)
theorem UU{N:V->Hp->Prop}{N0:Hp->Prop}(h:te U H N):yL U H fun c H4=>if c=true then te U H4 N else N0 H4:=by
 show(if true=true then te U H N else N0 H)
 rw[if_pos rfl];exact h
theorem xJ{Q:VK}(l:List α)(φ:α->V)(p:α->Bool)(f:α->V)(hD:H0 D=none)(hz:l.length<=sizeLine)
  (hgo:∀i H,i<l.length->Ze H0 H->J.go i H) (hst:∀H,Ze H0 H->J.stop l.length H) (hy:∀i x H H2 (h:i<l.length),Ze H0 H->J.yld i H x H2->H2=H/\x=φ l[i])
  (step:∀x∈l,∀H (N:V->Hp->Prop) (N0:Hp->Prop),Ze H0 H->(∀H4,Ze H H4->p x=true->N (f x) H4)->(∀H4,Ze H H4->p x=false->N0 H4)->tt (some (φ x)::τ) H fun c H4=>if c=true then te (some (φ x)::τ) H4 N else N0 H4)
  (fin:∀H',H' D=some (.lst ((l.filter p).map f))->Ze H0 H'->Q (.ref D) H'):zp J D (V0 0) tt te (none::τ) H0 Q:=by
 refine YJ (n:=l.length) (fun i U H=>∃z,U=z::τ/\H D=some (.lst (((l.take i).filter p).map f))/\Ze H0 H) ?_ ?_ ?_ ?_ ?_
 ·exact⟨none,rfl,Zd,Zi hD⟩
 ·rintro i U H hi ⟨z,rfl,_,s⟩;exact hgo i H hi s
 ·rintro U H ⟨z,rfl,_,s⟩;exact hst H s
 ·rintro i x U H H2 hi ⟨z,rfl,hd,s⟩ hyl N N0 hN hN0;obtain⟨rfl,rfl⟩:=hy i x H H2 hi s hyl;have tk:(l.take (i+1)).filter p=(l.take i).filter p++[l[i]].filter p:=by rw[List.take_succ_eq_append_getElem hi,my]
  have le:(((l.take i).filter p).map f).length<sizeLine:=by
   rw[fi];have:=lX p (l.take i);rw[fZ] at this;omega
  refine step _ (fN hi) H2 (fun v H5=>N v (some (φ l[i])::τ) H5) (fun H4=>N0 (some (φ l[i])::τ) H4) s (fun H4 s4 hp=>?_) (fun H4 s4 hp=>?_)
  ·refine hN _ _ H4 _ (s4 _ _ hd) le ⟨_,rfl,?_,(Zs.upd (Ze.x (s.trans s4))).same hD⟩;rw[Zd,tk,lK hp,fQ];rfl
  ·refine hN0 _ H4 ⟨_,rfl,?_,s.trans s4⟩;rw[s4 _ _ hd,tk,lN (by rw[hp];exact fV),List.filter_nil,ip]
 ·rintro U H ⟨z,rfl,hd,s⟩;rw[iH] at hd;exact fin H hd s
theorem U3{a:Addr}{Q:VK}(l:List α)(φ:α->V)(p:α->Bool)(f:α->V)(hD:H0 D=none)(hq:SqL K H0 a (l.map φ))(hz:l.length<=sizeLine)
  (step:∀x∈l,∀H (N:V->Hp->Prop) (N0:Hp->Prop),Ze H0 H->(∀H4,Ze H H4->p x=true->N (f x) H4)->(∀H4,Ze H H4->p x=false->N0 H4)->tt (some (φ x)::τ) H fun c H4=>if c=true then te (some (φ x)::τ) H4 N else N0 H4)
  (fin:∀H',H' D=some (.lst ((l.filter p).map f))->Ze H0 H'->Q (.ref D) H'):zp (Itl K a) D (V0 0) tt te (none::τ) H0 Q:=by
 refine xJ l φ p f hD hz (fun i H hi s=>⟨_,φ l[i],s.seq hq,by rw[fw,fj hi];rfl⟩) (fun H s=>⟨_,s.seq hq,by rw[fi];exact fh _⟩) (fun i x H H2 hi s hyl=>?_) step fin;obtain⟨rfl,hx⟩:=hyl;have e:=hx _ (s.seq hq);rw[fw,fj hi] at e;exact⟨rfl,(fO e).symm⟩
theorem Zac{Q:VK}(p:Nat->Bool)(f:Nat->V)(hD:H0 D=none)(hz:n<=sizeLine)
  (step:∀k,k<n->∀H (N:V->Hp->Prop) (N0:Hp->Prop),Ze H0 H->(∀H4,Ze H H4->p k=true->N (f k) H4)->(∀H4,Ze H H4->p k=false->N0 H4)->tt (some (.int (k:Nat))::τ) H fun c H4=>if c=true then te (some (.int (k:Nat))::τ) H4 N else N0 H4)
  (fin:∀H',H' D=some (.lst (((List.range n).filter p).map f))->Ze H0 H'->Q (.ref D) H'):zp (Itr 0 n) D (V0 0) tt te (none::τ) H0 Q:=by
 refine xJ (List.range n) (fun k=>.int (k:Nat)) p f hD (by rw[fY];exact hz) (fun i H hi _=>by rw[fY] at hi;exact hi) (fun H _=>by rw[fY];exact fh _) (fun i x H H2 hi s hyl=>?_) (fun x hx=>step x (lE.mp hx)) fin;obtain⟨rfl,rfl⟩:=hyl;refine⟨rfl,?_⟩;rw[List.getElem_range,Int.zero_add]
theorem Y0{a:Addr}{Q:VK}(l:List α)(φ:α->V)(f:α->V)(hD:H0 D=none)(hq:SqL K H0 a (l.map φ))(hz:l.length<=sizeLine)
  (step:∀x∈l,∀H (N:V->Hp->Prop),Ze H0 H->(∀H4,Ze H H4->N (f x) H4)->te (some (φ x)::τ) H N)
  (fin:∀H',H' D=some (.lst (l.map f))->Ze H0 H'->Q (.ref D) H'):zp (Itl K a) D (V0 0) yL te (none::τ) H0 Q:=by
 refine U3 l φ (fun _=>true) f hD hq hz (fun x hx H N N0 s h1 _=>?_) (fun H' h s=>fin H' (by rw[h,List.filter_eq_self.mpr (fun _ _=>rfl)]) s);exact UU (step x hx H N s fun H4 s4=>h1 H4 s4 rfl)
theorem qr{Q:VK}(f:Nat->V)(hD:H0 D=none)(hz:n<=sizeLine)
  (step:∀k,k<n->∀H (N:V->Hp->Prop),Ze H0 H->(∀H4,Ze H H4->N (f k) H4)->te (some (.int (k:Nat))::τ) H N)
  (fin:∀H',H' D=some (.lst ((List.range n).map f))->Ze H0 H'->Q (.ref D) H'):zp (Itr 0 n) D (V0 0) yL te (none::τ) H0 Q:=by
 refine Zac (fun _=>true) f hD hz (fun x hx H N N0 s h1 _=>?_) (fun H' h s=>fin H' (by rw[h,List.filter_eq_self.mpr (fun _ _=>rfl)]) s);exact UU (step x hx H N s fun H4 s4=>h1 H4 s4 rfl)
def Vt(S W:Addr)(G G':Hp):Prop:=∀b o,b≠S->b≠W->G b=some o->G' b=some o
theorem Vt.trans{W:Addr}{G1 G2:Hp}(a:Vt S W G G1)(b:Vt S W G1 G2):Vt S W G G2:=fun c o n m e=>b c o n m (a c o n m e)
theorem Ze.two{W:Addr}(h:Ze G G'):Vt S W G G':=fun b o _ _ e=>h b o e
theorem Vt.upd1{W:Addr}(h:Vt S W G G'):Vt S W G (upd G' S o):=fun b u n m e=>by rw[Zx n];exact h b u n m e
theorem Vt.upd2{W:Addr}(h:Vt S W G G'):Vt S W G (upd G' W o):=fun b u n m e=>by rw[Zx m];exact h b u n m e
theorem VY(xs:List V)(k:Nat):Vi xs none (some (k:Int))=xs.take k:=by
 by_cases h:k<=xs.length
 ·exact QS xs k h
 ·unfold Vi;rw[HT.sIx_nat,HT.sIx_none,Nat.min_eq_right (by omega),mI (by omega:xs.length<=k)];simp
theorem jQ{l:List Int}{M:Nat}(nd:l.Nodup)(h:∀y∈l,0<=y/\y<(M:Nat)):l.length<=M:=by
 have h1:(l.map Int.toNat).Nodup:=by
  unfold List.Nodup;rw[List.pairwise_map];refine List.Pairwise.imp_of_mem (fun {a b} ha hb n e=>n ?_) nd;have:=h a ha;have:=h b hb;omega
 have h2:=yQ (l₂:=List.range M) h1 fun x hx=>by
  obtain⟨y,hy,rfl⟩:=fX.mp hx;have:=h y hy;exact lE.mpr (by omega)
 rw[fi,fY] at h2;exact h2
abbrev Kp(h:Heap)(z TI TO a:Addr)(f:Bool):Prop:=h.get? z=some { cls:=.type "zip",dict:=none,data:=.fields #[rawInt a,.bool f,.bool false,.ref TI,.ref TO],slots:=#[] }
theorem Za1{z TI TO a:Addr}{f:Bool}{k1 k2:Nat}{xs:Array Value}{x y:Value}{Q:Option Value->Shared->Prop}(D:ZipApart z TI TO i1 i2 l1 l2)(hz:Kp s.heap z TI TO a f)(ha:s.heap.get? a=some oa)(haz:a≠z)
  (hTI:IsPair s.heap TI (.ref i1) (.ref i2)) (h1:s.heap.IsListIter i1 l1 k1) (h2:s.heap.IsListIter i2 l2 k2) (hl1:s.heap.IsList l1 xs) (hl2:s.heap.IsList l2 ys) (hx:xs[k1]?=some x) (hy:ys[k2]?=some y)
  (hQ:∀h',Kp h' z TI TO a true->h'.IsListIter i1 l1 (k1+1)->h'.IsListIter i2 l2 (k2+1)->IsPair h' s.heap.objs.size x y->h'.objs.size=s.heap.objs.size+1->(∀c o,c≠z->c≠i1->c≠i2->s.heap.get? c=some o->h'.get? c=some o)->Q (some (.ref s.heap.objs.size)) { s with heap:=h' }) :
  wpAny (model P w) A (pyNext (.ref z)) Q E s:=by
 have ty:s.TypeIs (.ref z) "zip" := ⟨_,hz,rfl⟩;unfold pyNext;refine fg (mv (i7 (name:=Str.ofString "__next__") ty nz (ia nz ty PySem.F.entry_zip_next ?_ (PySem.F.args_zip_next_1 _))))
 show wpAny _ _ (field (.ref z) 2 >>= _) _ _ _
 refine fg (g0 hz rfl (x:=Value.bool false) rfl ?_)
 show wpAny _ _ (field (.ref z) 3 >>= _) _ _ _
 refine fg (g0 hz rfl (x:=Value.ref TI) rfl ?_);refine fg (mo hTI rfl ?_)
 show wpAny _ _ (Builtin.SmallTypes.ownedTupleIsFree (.ref z) >>= _) _ _ _
 refine fg (thn (Q:=fun b s1=>b=false/\∃hp,s1={ s with heap:=hp }/\Kp hp z TI TO a true/\Heap.SameBut z s.heap hp) ?_ fun b s1 hb=>?_)
 ·unfold Builtin.SmallTypes.ownedTupleIsFree;refine fg (g0 hz rfl (x:=rawInt a) rfl ?_)
  show wpAny _ _ (loadIfAlive ((a:Int).toNat) >>= _) _ _ _
  rw[ge];refine fg (W.kdx_alive ha ?_);simp only[Option.isNone_some,gX,gG];refine fg (g0 hz rfl (x:=Value.bool f) rfl ?_);cases f with
  |true=>
   rw[if_neg (show ¬((Value.bool true != Value.bool true)=true) from fun q=>Bool.noConfusion q)];exact fq ⟨rfl,_,rfl,hz,Heap.SameBut.refl _ _⟩
  |false=>
   rw[if_pos (show(Value.bool false != Value.bool true)=true from rfl)];exact fg (wpAny_setField_rec hz (by simp) fun h₃ he₃ hs₃=>fq ⟨rfl,h₃,rfl,he₃,hs₃⟩)
 obtain⟨rfl,hp,rfl,hz',sb⟩:=hb;simp only[gX,gG];rw[<- Array.forIn_toList];simp only[List.forIn_cons,List.forIn_nil];refine fg (fg (fg (gW ?_)))
 show wpAny _ _ (Builtin.SmallTypes.nextOf (.ref i1) >>= _) _ _ _
 refine fg (wpAny_nextOf_list_item (h1.extBut sb.extBut D.i1z) (hl1.extBut sb.extBut D.l1z) hx fun g₂ j1 t₂=>fq (fq ?_));refine fg (fg (gW ?_))
 show wpAny _ _ (Builtin.SmallTypes.nextOf (.ref i2) >>= _) _ _ _
 refine fg (wpAny_nextOf_list_item ((h2.extBut sb.extBut D.i2z).extBut t₂.extBut D.i12.symm) ((hl2.extBut sb.extBut D.l2z).extBut t₂.extBut D.l2i1) hy fun g₃ j2 t₃=>fq (fq (fq ?_)));refine fg (wpAny_newTuple (hsz:=by show 2<=sizeLine;decide) ?_);have sz:g₃.objs.size=s.heap.objs.size:=by rw[t₃.1,t₂.1,sb.1]
 have z3:Kp g₃ z TI TO a true:=t₃.extBut _ _ D.i2z.symm (t₂.extBut _ _ D.i1z.symm hz');refine fq ⟨_,rfl,fq ?_⟩
 show Q (some (.ref g₃.objs.size)) _
 have j1':g₃.IsListIter i1 l1 (k1+1):=j1.extBut t₃.extBut D.i12;rw[sz];refine hQ _ (fz _ z3) (j1'.at fun o e=>fz _ e) (j2.at fun o e=>fz _ e) ?_ ?_ fun c o n1 n2 n3 e=>fz _ (t₃.extBut _ _ n3 (t₂.extBut _ _ n2 (sb.extBut _ _ n1 e)))
 ·rw[<- sz];exact fR _ rfl
 ·rw[ie,sz]
theorem ZbE{z TI TO a:Addr}{f:Bool}{k1:Nat}{xs:Array Value}{Q:Option Value->Shared->Prop}(hh:A.handled=none)(D:ZipApart z TI TO i1 i2 l1 l2)(hz:Kp s.heap z TI TO a f)(ha:s.heap.get? a=some oa)
  (hTI:IsPair s.heap TI (.ref i1) (.ref i2)) (h1:s.heap.IsListIter i1 l1 k1) (hl1:s.heap.IsList l1 xs) (hx:xs[k1]?=none)
  (hQ:∀h',(∀c o,c≠z->c≠i1->s.heap.get? c=some o->h'.get? c=some o)->Q none { s with heap:=h' }):wpAny (model P w) A (pyNext (.ref z)) Q E s:=by
 have ty:s.TypeIs (.ref z) "zip" := ⟨_,hz,rfl⟩;unfold pyNext;refine fg (mv (i7 (name:=Str.ofString "__next__") ty nz (ia nz ty PySem.F.entry_zip_next ?_ (PySem.F.args_zip_next_1 _))))
 show wpAny _ _ (field (.ref z) 2 >>= _) _ _ _
 refine fg (g0 hz rfl (x:=Value.bool false) rfl ?_)
 show wpAny _ _ (field (.ref z) 3 >>= _) _ _ _
 refine fg (g0 hz rfl (x:=Value.ref TI) rfl ?_);refine fg (mo hTI rfl ?_)
 show wpAny _ _ (Builtin.SmallTypes.ownedTupleIsFree (.ref z) >>= _) _ _ _
 refine fg (thn (Q:=fun b s1=>b=false/\∃hp,s1={ s with heap:=hp }/\Kp hp z TI TO a true/\Heap.SameBut z s.heap hp) ?_ fun b s1 hb=>?_)
 ·unfold Builtin.SmallTypes.ownedTupleIsFree;refine fg (g0 hz rfl (x:=rawInt a) rfl ?_)
  show wpAny _ _ (loadIfAlive ((a:Int).toNat) >>= _) _ _ _
  rw[ge];refine fg (W.kdx_alive ha ?_);simp only[Option.isNone_some,gX,gG];refine fg (g0 hz rfl (x:=Value.bool f) rfl ?_);cases f with
  |true=>
   rw[if_neg (show ¬((Value.bool true != Value.bool true)=true) from fun q=>Bool.noConfusion q)];exact fq ⟨rfl,_,rfl,hz,Heap.SameBut.refl _ _⟩
  |false=>
   rw[if_pos (show(Value.bool false != Value.bool true)=true from rfl)];exact fg (wpAny_setField_rec hz (by simp) fun h₃ he₃ hs₃=>fq ⟨rfl,h₃,rfl,he₃,hs₃⟩)
 obtain⟨rfl,hp,rfl,hz',sb⟩:=hb;simp only[gX,gG];rw[<- Array.forIn_toList];simp only[List.forIn_cons,List.forIn_nil];refine fg (fg (fg (gW ?_)))
 show wpAny _ _ (Builtin.SmallTypes.nextOf (.ref i1) >>= _) _ _ _
 refine fg (wpAny_nextOf_list_end hh (h1.extBut sb.extBut D.i1z) (hl1.extBut sb.extBut D.l1z) hx fun g₂ ee t₂ he=>?_);obtain⟨oe,hoe,hce⟩:=he;refine fg (wpAny_isInstance (T := "StopIteration") (b:=true) ⟨oe,hoe,hce⟩ isSubtype_stop (fq (hQ _ fun c o n1 n2 e=>?_)));exact t₂ _ _ n2 (sb.extBut _ _ n1 e)
structure ZSt(h:Heap)(z TI TO i1 i2 l1 l2 S:Addr)(xs ys:Array Value)(i:Nat):Prop where
 z:(i=0/\IsZip h z TI TO .none/\∃u v,IsPair h TO u v)\/∃a f oa,Kp h z TI TO a f/\h.get? a=some oa/\a≠z/\a≠i1/\a≠i2/\a≠S
 ti:IsPair h TI (.ref i1) (.ref i2)
 i1:h.IsListIter i1 l1 i
 i2:h.IsListIter i2 l2 i
 l1:h.IsList l1 xs
 l2:h.IsList l2 ys
structure ZdL(z TI TO i1 i2 l1 l2 S:Addr):Prop where
 z:z≠S
 ti:TI≠S
 to:TO≠S
 i1:i1≠S
 i2:i2≠S
 l1:l1≠S
 l2:l2≠S
theorem ZSt.keep{z TI TO:Addr}{xs:Array Value}(x:ZSt h z TI TO i1 i2 l1 l2 S xs ys i)(far:ZdL z TI TO i1 i2 l1 l2 S)(hk:∀b o,b≠S->h.get? b=some o->h'.get? b=some o):ZSt h' z TI TO i1 i2 l1 l2 S xs ys i:=by
 refine⟨?_,hk _ _ far.ti x.ti,x.i1.at fun o e=>hk _ _ far.i1 e,x.i2.at fun o e=>hk _ _ far.i2 e,x.l1.at fun o e=>hk _ _ far.l1 e,x.l2.at fun o e=>hk _ _ far.l2 e⟩;rcases x.z with⟨e,q,u,v,p⟩|⟨a,f,oa,q,ha,n1,n2,n3,n4⟩
 ·exact .inl ⟨e,hk _ _ far.z q,u,v,hk _ _ far.to p⟩
 ·exact .inr ⟨a,f,oa,hk _ _ far.z q,hk _ _ n4 ha,n1,n2,n3,n4⟩
theorem ZSt.item{z TI TO:Addr}{xs:Array Value}{x y:Value}{Q:Option Value->Shared->Prop}(D:ZipApart z TI TO i1 i2 l1 l2)(st:ZSt s.heap z TI TO i1 i2 l1 l2 S xs ys i)(hS:S<s.heap.objs.size)(lt:z<s.heap.objs.size/\i1<s.heap.objs.size/\i2<s.heap.objs.size)(hx:xs[i]?=some x)(hy:ys[i]?=some y)
  (hQ:∀h',ZSt h' z TI TO i1 i2 l1 l2 S xs ys (i+1)->IsPair h' s.heap.objs.size x y->h'.objs.size=s.heap.objs.size+1->(∀c o,c≠z->c≠TO->c≠i1->c≠i2->s.heap.get? c=some o->h'.get? c=some o)->Q (some (.ref s.heap.objs.size)) { s with heap:=h' }):wpAny (model P w) A (pyNext (.ref z)) Q E s:=by
 rcases st.z with⟨rfl,q,u,v,p⟩|⟨a,f,oa,q,ha,n1,n2,n3,n4⟩
 ·refine wpAny_pyNext_zip_item D q st.ti p st.i1 st.i2 st.l1 st.l2 hx hy fun h' b1 b2 b3 b4 b5 b6 b7=>hQ h' ⟨.inr ⟨_,false,_,b1,b5,gA lt.1,gA lt.2.1,gA lt.2.2,gA hS⟩,b7 _ _ D.TIz D.TITO D.TIi1 D.TIi2 st.ti,b3,b4,st.l1.at fun o e=>b7 _ _ D.l1z D.l1TO D.l1i1 D.l1i2 e,st.l2.at fun o e=>b7 _ _ D.l2z D.l2TO D.l2i1 D.l2i2 e⟩ b5 b6 b7
 ·refine Za1 D q ha n1 st.ti st.i1 st.i2 st.l1 st.l2 hx hy fun h' b1 b3 b4 b5 b6 b7=>hQ h' ⟨.inr ⟨a,true,oa,b1,b7 _ _ n1 n2 n3 ha,n1,n2,n3,n4⟩,b7 _ _ D.TIz D.TIi1 D.TIi2 st.ti,b3,b4,st.l1.at fun o e=>b7 _ _ D.l1z D.l1i1 D.l1i2 e,st.l2.at fun o e=>b7 _ _ D.l2z D.l2i1 D.l2i2 e⟩ b5 b6 fun c o m1 _ m3 m4 e=>b7 c o m1 m3 m4 e
theorem ZSt.stop{z TI TO:Addr}{xs:Array Value}{Q:Option Value->Shared->Prop}(hh:A.handled=none)(D:ZipApart z TI TO i1 i2 l1 l2)(st:ZSt s.heap z TI TO i1 i2 l1 l2 S xs ys i)(hx:xs[i]?=none)
  (hQ:∀h',(∀c o,c≠z->c≠TO->c≠i1->c≠i2->s.heap.get? c=some o->h'.get? c=some o)->Q none { s with heap:=h' }):wpAny (model P w) A (pyNext (.ref z)) Q E s:=by
 rcases st.z with⟨rfl,q,u,v,p⟩|⟨a,f,oa,q,ha,n1,n2,n3,n4⟩
 ·exact wpAny_pyNext_zip_end hh D q st.ti p st.i1 st.i2 st.l1 st.l2 (.inl hx) fun h' b=>hQ h' b
 ·exact ZbE hh D q ha st.ti st.i1 st.l1 hx fun h' b=>hQ h' fun c o m1 _ m3 _ e=>b c o m1 m3 e
theorem KU:typeLookup (.type "zip") "__len__" = pure none:=by
 rw[mP,mQ]
 kernel_rfl
theorem JM:typeLookup (.type "zip") "__length_hint__" = pure none:=by
 rw[mP,mQ]
 kernel_rfl
theorem ZbI{r:Addr}(ty:s.TypeIs (.ref r) "zip"){Q:Bool->Shared->Prop}(h:Q true s):wpAny (model P w) A (Builtin.List.listLengthHint (.ref r)) Q E s:=by
 unfold Builtin.List.listLengthHint;refine fg (mJ ty KU ?_);refine wpAny_ite_split (fun q=>absurd q (by decide)) fun _=>?_;refine wpAny_ite_split (fun q=>absurd q (by decide)) fun _=>?_;exact fg (mJ ty JM (fq h))
def ZG(h:Heap)(lo:Addr)(xs ys:Array Value)(as:List Addr):Prop:=as.Pairwise (·<·)/\(∀a∈as,lo<a)/\∀(j:Nat) a,as[j]?=some a->∃x y,xs[j]?=some x/\ys[j]?=some y/\IsPair h a x y
theorem ZdA{z TI TO:Addr}{xs:Array Value}(hh:A.handled=none)(D:ZipApart z TI TO i1 i2 l1 l2)(far:ZdL z TI TO i1 i2 l1 l2 S)(lo:z<=S/\TI<=S/\TO<=S/\i1<=S/\i2<=S)(hl:ys.size=xs.size)(hn:xs.size<=sizeLine)(res:Value){h₁:Heap}
  (hR:∀h' tk acc c as,(∀b o,b≠S->b≠z->b≠TO->b≠i1->b≠i2->h₁.get? b=some o->h'.get? b=some o)->h'.get? S=some { cls:=.type "list",dict:=none,data:=.seq acc c,slots:=#[] }->as.length=xs.size->ZG h' S xs ys as->acc.toList=as.map Value.ref->R (.ok (.ret res)) { s with heap:=h',toks:=tk }) :
  ∀(k i:Nat) (h:Heap) (tk c:Nat) (acc:Array Value) (as:List Addr),xs.size-i=k->i<=xs.size->ZSt h z TI TO i1 i2 l1 l2 S xs ys i->(∀b o,b≠S->b≠z->b≠TO->b≠i1->b≠i2->h₁.get? b=some o->h.get? b=some o) ->
   h.get? S=some { cls:=.type "list",dict:=none,data:=.seq acc c,slots:=#[] }->acc.toList=as.map Value.ref->as.length=i->ZG h S xs ys as ->
   codeAny (model P w) A (.builtin "list.extend.loop" ⟨[.ref S,.ref z,res],[]⟩) R { s with heap:=h,toks:=tk }:=by
 intro k
 induction k with
 |zero=>
  intro i h tk c acc as hk hi st kp hS hacc hal hG;refine ir PySem.F.entry_extend_loop ?_;rw[iO mz _]
  show wpAny _ A.in1 (pyNext (.ref z) >>= _) _ _ _
  refine fg (ZSt.stop (s:={ s with heap:=h,toks:=tk }) (A:=A.in1) hh D st (nj (by omega)) fun h' he=>fq (hR h' tk acc c as (fun b o m0 m1 m2 m3 m4 e=>he b o m1 m2 m3 m4 (kp b o m0 m1 m2 m3 m4 e)) (he S _ far.z.symm far.to.symm far.i1.symm far.i2.symm hS) (by omega) ⟨hG.1,hG.2.1,fun j a hj=>?_⟩ hacc));obtain⟨x,y,q1,q2,q3⟩:=hG.2.2 j a hj;have:=hG.2.1 a (fU hj);exact⟨x,y,q1,q2,he a _ (gA (g9 lo.1 this)) (gA (g9 lo.2.2.1 this)) (gA (g9 lo.2.2.2.1 this)) (gA (g9 lo.2.2.2.2 this)) q3⟩
 |succ k ih=>
  intro i h tk c acc as hk hi st kp hS hacc hal hG;have lt:i<xs.size:=by omega
  have hx:xs[i]?=some xs[i]:=nJ lt;have hy:ys[i]?=some (ys[i]'(by omega)):=nJ (by omega);have hSl:S<h.objs.size:=fC hS;have asz:acc.size=i:=by rw[<- hV,hacc,fi,hal]
  have lz:z<h.objs.size/\i1<h.objs.size/\i2<h.objs.size:=⟨g9 lo.1 hSl,g9 lo.2.2.2.1 hSl,g9 lo.2.2.2.2 hSl⟩;refine ir PySem.F.entry_extend_loop ?_;rw[iO mz _]
  show wpAny _ A.in1 (pyNext (.ref z) >>= _) _ _ _
  refine fg (ZSt.item (s:={ s with heap:=h,toks:=tk }) D st hSl lz hx hy fun h' st' ht hz kk=>?_);dsimp only at ht hz kk ⊢;have hS':=kk S _ far.z.symm far.to.symm far.i1.symm far.i2.symm hS;have up:∀b o,b≠S->h'.get? b=some o->(h'.update S (Obj.mapSeq (·.push (Value.ref h.objs.size)))).get? b=some o:=fun b o m e=>(ii _ _ (fJ m)).trans e
  show wpAny _ A.in1 (updateSeq S (·.push (Value.ref h.objs.size)) >>= _) _ _ _
  refine fg (lv hS' rfl (fq ⟨iP mz _,ih (i+1) _ tk _ (acc.push (Value.ref h.objs.size)) (as++[h.objs.size]) (by omega) lt (st'.keep far up) (fun b o m0 m1 m2 m3 m4 e=>up b o m0 (kk b o m1 m2 m3 m4 (kp b o m0 m1 m2 m3 m4 e))) (iA _ hS' rfl) (by rw[nr,hacc,fQ];rfl) (by rw[fu,hal];rfl) ⟨?_,?_,?_⟩⟩) (by rw[asz];omega) (by show(acc.push (Value.ref h.objs.size)).size<=sizeLine+1;rw[Array.size_push,asz];omega))
  ·refine List.pairwise_append.mpr ⟨hG.1,List.pairwise_singleton _ _,fun a ha b hb=>?_⟩;rw[fM.mp hb];obtain⟨j,hj⟩:=mB.mp ha;obtain⟨_,_,_,_,q⟩:=hG.2.2 j a hj;exact fC q
  ·intro a ha;rcases fG.mp ha with ha|ha
   ·exact hG.2.1 a ha
   ·rw[fM.mp ha];exact hSl
  ·intro j b hj
   by_cases c1:j<as.length
   ·rw[fW c1] at hj;obtain⟨x,y,q1,q2,q3⟩:=hG.2.2 j b hj;have hb:=hG.2.1 b (fU hj);exact⟨x,y,q1,q2,up b _ (gA hb) (kk b _ (gA (g9 lo.1 hb)) (gA (g9 lo.2.2.1 hb)) (gA (g9 lo.2.2.2.1 hb)) (gA (g9 lo.2.2.2.2 hb)) q3)⟩
   ·have hj':=(fD.mp hj).1;rw[fu,gn] at hj';have ej:j=i:=by omega
    subst ej;rw[gf (by omega),hal,gN] at hj;cases hj;exact⟨_,_,hx,hy,up _ _ (gA hSl) ht⟩
section
variable{z TI TO:Addr}{xs:Array Value}
theorem Zam(hh:A.handled=none)(D:ZipApart z TI TO i1 i2 l1 l2)(far:ZdL z TI TO i1 i2 l1 l2 S)(lo:z<=S/\TI<=S/\TO<=S/\i1<=S/\i2<=S)(hl:ys.size=xs.size)(hn:xs.size<=sizeLine)(hz:IsZip s.heap z TI TO .none)(st:ZSt s.heap z TI TO i1 i2 l1 l2 S xs ys 0)(res:Value)(c₀:Nat)(hS:s.heap.get? S=some { cls:=.type "list",data:=.seq #[] c₀ })
  (hR:∀h' tk acc c as,(∀b o,b≠S->b≠z->b≠TO->b≠i1->b≠i2->s.heap.get? b=some o->h'.get? b=some o)->h'.get? S=some { cls:=.type "list",dict:=none,data:=.seq acc c,slots:=#[] }->as.length=xs.size->ZG h' S xs ys as->acc.toList=as.map Value.ref->R (.ok (.ret res)) { s with heap:=h',toks:=tk }) :
  wpAny (model P w) A.in1 (Builtin.List.listExtendWith (.ref S) (.ref z) res) (fun fin s'=>match fin with|.done f=>R (.ok f) s'|.again c'=>c'.quiet=true/\codeAny (model P w) A c' R s') (fun e s'=>R (.error e) s') s:=by
 have run:∀(h:Heap) (c₁ tk:Nat),(∀b o,b≠S->s.heap.get? b=some o->h.get? b=some o)->h.get? S=some { cls:=.type "list",data:=.seq #[] c₁ }->codeAny (model P w) A (.builtin "list.extend.loop" ⟨[.ref S,.ref z,res],[]⟩) R { s with heap:=h,toks:=tk }:=fun h c₁ tk kp hS₁=>
  ZdA (s:=s) (h₁:=s.heap) hh D far lo hl hn res hR xs.size 0 h tk c₁ #[] [] (Nat.sub_zero _) (gk _) (st.keep far kp) (fun b o m0 _ _ _ _ e=>kp b o m0 e) hS₁ rfl rfl ⟨List.Pairwise.nil,(fun _ ha=>nomatch ha),(fun j a hj=>by simp at hj)⟩
 unfold Builtin.List.listExtendWith;refine fg (wpAny_typeOf (T := "zip") ⟨_,hz,rfl⟩ ?_);have q1:Builtin.List.listSameRef (.ref S) (.ref z)=false:=by simp[Builtin.List.listSameRef,far.z.symm]
 have q2:(Value.type "zip" == Value.type "list")=false:=by decide
 have q3:(Value.type "zip" == Value.type "tuple")=false:=by decide
 simp only[q1,q2,q3,Bool.or_false,gX,gG];refine fg (wpAny_pyIter_zip hz ?_);refine fg (gW (ZbI ⟨_,hz,rfl⟩ ?_));refine wpAny_ite_split (fun _=>?_) (fun _=>fq ⟨iP mz _,run _ c₀ _ (fun b o _ e=>e) hS⟩);refine fg (lS (fg ?_))
 show wpAny _ _ (updateSeq S (·.push .none) >>= fun _=>updateSeq S (·.pop)) _ _ s
 refine fg (lv hS rfl ?_);have e2:=iA (Obj.mapSeq (·.push Value.none)) hS rfl;refine lv (hz:=by seq_fits) e2 rfl (fq ⟨iP mz _,run _ _ _ (fun b o m e=>?_) (iA (Obj.mapSeq (·.pop)) e2 rfl)⟩);exact(ii _ _ (fJ m)).trans ((ii _ _ (fJ m)).trans e)
theorem ZdP(hh:A.handled=none)(D:ZipApart z TI TO i1 i2 l1 l2)(lt:z<s.heap.objs.size/\TI<s.heap.objs.size/\TO<s.heap.objs.size/\i1<s.heap.objs.size/\i2<s.heap.objs.size/\l1<s.heap.objs.size/\l2<s.heap.objs.size)(hl:ys.size=xs.size)(hn:xs.size<=sizeLine)
  (hz:IsZip s.heap z TI TO .none) (hTI:IsPair s.heap TI (.ref i1) (.ref i2)) {v:Value} (hTO:IsPair s.heap TO u v) (h1:s.heap.IsListIter i1 l1 0) (h2:s.heap.IsListIter i2 l2 0) (hl1:s.heap.IsList l1 xs) (hl2:s.heap.IsList l2 ys)
  (hQ:∀h' tk acc c as,(∀b o,b≠z->b≠TO->b≠i1->b≠i2->s.heap.get? b=some o->h'.get? b=some o)->h'.get? s.heap.objs.size=some { cls:=.type "list",dict:=none,data:=.seq acc c,slots:=#[] }->as.length=xs.size->ZG h' s.heap.objs.size xs ys as->acc.toList=as.map Value.ref->Q (.ref s.heap.objs.size) { s with heap:=h',toks:=tk }) :
  wpAny (model P w) A (call (.type "list") [.ref z]) Q E s:=by
 refine callType_codes (Q₁:=fun obj s₁=>obj=.ref s.heap.objs.size/\s₁={ s with heap:=s.heap.push { cls:=.type "list",data:=.seq #[] } }) PySem.F.called_list (PySem.F.typeCall_list_1 _) PySem.F.entry_list_init (code_list_new _ ⟨rfl,rfl⟩) fun obj s₁ q₁=>?_;obtain⟨rfl,rfl⟩:=q₁;obtain⟨a1,a2,a3,a4,a5,a6,a7⟩:=lt;have hS:(s.heap.push { cls:=.type "list",data:=.seq #[] }).get? s.heap.objs.size=some { cls:=.type "list",data:=.seq #[] }:=fR _ rfl;have far:ZdL z TI TO i1 i2 l1 l2 s.heap.objs.size:=⟨fE a1,fE a2,fE a3,fE a4,fE a5,fE a6,fE a7⟩;have st0:ZSt s.heap z TI TO i1 i2 l1 l2 s.heap.objs.size xs ys 0:=⟨.inl ⟨rfl,hz,u,v,hTO⟩,hTI,h1,h2,hl1,hl2⟩;refine⟨⟨_,hS,rfl⟩,PySem.F.args_list_init_2 _ _,?_⟩
 show wpAny _ _ (do let old <- Builtin.List.listItems (.ref s.heap.objs.size);Builtin.List.listUpdate (.ref s.heap.objs.size) (fun _=>#[]);letGo old.toList.reverse;Builtin.List.listExtendWith (.ref s.heap.objs.size) (.ref z) .none) _ _ _
 refine fg ?_;unfold Builtin.List.listItems;refine fg (mo hS rfl (fq ?_))
 show wpAny _ _ (updateSeq s.heap.objs.size (fun _=>#[]) >>= fun _=>letGo (#[]:Array Value).toList.reverse >>= fun _=>Builtin.List.listExtendWith (.ref s.heap.objs.size) (.ref z) .none) _ _ _
 refine fg (lv hS rfl ?_);have e2:=iA (Obj.mapSeq (fun _=>(#[]:Array Value))) hS rfl;have kp:∀b o,b≠s.heap.objs.size->s.heap.get? b=some o->((s.heap.push { cls:=.type "list",data:=.seq #[] }).update s.heap.objs.size (Obj.mapSeq (fun _=>(#[]:Array Value)))).get? b=some o:=fun b o m e=>(ii _ _ (fJ m)).trans (fz _ e);refine fg (wpAny_letGo (Zam (A:=A.in1) hh D far ⟨ib a1,ib a2,ib a3,ib a4,ib a5⟩ hl hn (kp _ _ far.z hz) (st0.keep far kp) .none _ e2 fun h' tk acc c as hk hS' ha hG hacc=>⟨rfl,hQ h' tk acc c as (fun b o m1 m2 m3 m4 e=>?_) hS' ha hG hacc⟩));have lb:=fE (fC e);exact hk b o lb m1 m2 m3 m4 (kp b o lb e)
end
def yK(H N:Hp):Hp:=fun b=>if(N b).isSome=true then N b else H b
theorem xy{N:Hp}{b:Addr}(h:N b=some o):yK H N b=some o:=by unfold yK;rw[h];rfl
theorem qT{N:Hp}{b:Addr}(h:N b=none):yK H N b=H b:=by unfold yK;rw[h];rfl
section
variable{U:L3.St}{N:Hp}
theorem Inv.turnedLaids(I:L2.Inv X cQ U H s)(k:∀b u,b∉ch->s.heap.get? b=some u->h'.get? b=some u)(hf:∀b∈ch,VM X cQ H b)(hN:∀b o,N b=some o->s.heap.objs.size<=b)
  (new:∀b o,N b=some o->YI X.prog X.w (yK H N) h' b o):L2.Inv X cQ U (yK H N) { s with heap:=h',toks:=t' }:=by
 have fr:∀{b:Addr}{u:HO},H b=some u->yK H N b=some u:=fun {b u} e=>by
  rw[qT];exact e;cases q:N b with
  |none=>rfl
  |some o=>rw[I.hok.fresh (hN b o q)] at e;cases e
 have old:∀{b:Addr}{u:Obj},s.heap.get? b=some u->N b=none:=fun {b u} e=>by
  cases q:N b with
  |none=>rfl
  |some o=>exact absurd (gj (fC e) (hN b o q)) (ik _)
 refine I.step (g':=s.gens) (d':=s.drawn) (ch:=ch) (fun b hb=>?_) (fun b u _ _ hc e _=>k b u hc e) (fun b u _ _ hc e _=>⟨u.slots,k b u hc e⟩) (fun b u _ e n=>by rw[qT (old e)];exact n) (fun b u hc e=>⟨u,k b u hc e⟩) (fun b xs e=>fr e) (fun b u xs e=>fr e) (fun b ps e=>⟨#[],by rw[fr e];simp⟩) (fun m hm=>?_) (fun b u e=>?_) I.bare
 ·obtain⟨f0,f1,f2,f3,f4,f5⟩:=hf b hb;exact⟨f3,f1,f4,f5⟩
 ·obtain⟨ob,es,ep,ho,r⟩:=hm;exact⟨ob,es,ep,k _ ob (fun z=>(hf _ z).2.1 rfl) ho,r⟩
 ·cases q:N b with
  |some o=>
   rw[xy q] at e;cases e;exact new b _ q
  |none=>
   rw[qT q] at e;have nch:∀c v,H c=some v->c∉ch:=fun c v q z=>by rw[(hf c z).1] at q;cases q
   refine(I.hok b u e).stay (fun c v hc q=>k c v ?_ q) (fun c q=>fr q) fun c xs q=>fr q;rcases hc with rfl|hc
   ·exact nch _ _ e
   ·exact nch _ _ hc
end
theorem J7{α:Type}:∀{as:List Addr}{l:List α}{a:Addr}{q:α},as.Nodup->(a,q)∈as.zip l->(as.zip l).lookup a=some q
 |[],_,_,_,_,h=>by simp at h
 |_::_,[],_,_,_,h=>by simp at h
 |b::as,x::l,a,q,nd,h=>by
  rw[iq] at nd;rw[List.zip_cons_cons,fF] at h;rw[List.zip_cons_cons,gm];rcases h with h|h
  ·cases h;simp
  ·have ma:a∈as:=(i6 h).1;have ne:¬a=b:=fun e=>nd.1 (e▸ma);have:(a==b)=false:=by simpa using ne
   rw[this];exact J7 nd.2 h
theorem JE{α:Type}:∀{l:List (Addr×α)}{a:Addr}{q:α},l.lookup a=some q->(a,q)∈l
 |[],_,_,h=>by cases h
 | (b,x)::l,a,q,h=>by
  rw[gm] at h
  by_cases e:a=b
  ·subst e;simp at h;rw[h];exact im
  ·have:(a==b)=false:=by simpa using e
   rw[this] at h;exact fS _ (JE h)
theorem jb:∀as:List Addr,ZM (as.map V.ref) (as.map Value.ref)
 |[]=>.nil
 |a::r=>.cons rfl (jb r)
inductive LZR(K:W.Frag)(vs:List V)(H:Hp)(Q:VK):Prop
 |mk (a b:Addr) (xs ys:List V) (h0:vs=[.ref a,.ref b]) (h1:SqL K H a xs) (h2:SqL K H b ys) (h3:ys.length=xs.length)
   (h4:∀H' L (zs:List (V×(V×V))),Ze H H'->H L=none->H' L=some (.lst (zs.map Prod.fst))->zs.map Prod.snd=xs.zip ys->(∀x∈zs,∃q,x.1=.ref q/\H' q=some (.tup [x.2.1,x.2.2]))->Q (.ref L) H'):LZR K vs H Q
def ZbU(K:W.Frag)(ta:TA):TE:=fun U H Q=>ta U H fun vs H1=>LZR K vs H1 Q
theorem Qx{a b:Expr}{p:Pos}(hK:X.K=K)(hc:X.calm=true)(hg:Gl X "list")(hm:X.mg "list" = none)(hg2:Gl X "zip")(hm2:X.mg "zip" = none)(ha:PA X [a,b] ta)
  (hs:starEach [a,b] X.env=[(false,eval a X.env),(false,eval b X.env)]:=by rfl) (hs2:starEach [b] X.env=[(false,eval b X.env)]:=by rfl) (hs3:starEach [.Call (.Name "zip" p2) [a,b] [] pos2] X.env=[(false,eval (.Call (.Name "zip" p2) [a,b] [] pos2) X.env)]:=by rfl) :
  PE X (.Call (.Name "list" p) [.Call (.Name "zip" p2) [a,b] [] pos2] [] pos) (ZbU K ta):=by
 subst hK;intro cQ s U H Q I h;refine iN (Ul I hg hm nY ?_);refine l9 ?_ (by rw[hs3];rfl) rfl;rw[hs3]
 show wpAny _ _ (spliced ((false,eval (.Call (.Name "zip" p2) [a,b] [] pos2) X.env)::backTo pos (starEach [] X.env))) _ _ s
 refine Calls.spliced_cons (iN (Ul I hg2 hm2 PyProof.Rows.boot_zip (l9 (thn (ha pos2 cQ s U H _ I h) fun us s1 ⟨vs,H1,I1,r1,q1⟩=>?_) (by rw[hs,hs2]) (by rw[hs2];rfl))));obtain⟨l1,l2,xs,ys,rfl,hq1,hq2,hl,q⟩:=q1;obtain⟨u,v,rfl,ru,rv⟩:=QY r1;obtain rfl:u=Value.ref l1:=ru;obtain rfl:v=Value.ref l2:=rv;obtain⟨its1,rv1,p1,hz1⟩:=I1.list hq1;obtain⟨its2,rv2,p2',hz2⟩:=I1.list hq2;have lt1:l1<s1.heap.objs.size:=by obtain⟨_,e,_⟩:=p1.isList;exact fC e
 have lt2:l2<s1.heap.objs.size:=by obtain⟨_,e,_⟩:=p2'.isList;exact fC e
 refine call_zip_2 p1.isList p2'.isList fun h' a1 a2 a3 a4 a5 a6 a7=>?_;refine Calls.spliced_nil (ZdP (s:={ s1 with heap:=h' }) (xs:=its1.toArray) (ys:=its2.toArray) (I1.ok.hd hc) (ZcR _ _ _ lt1 lt2) ⟨?_,?_,?_,?_,?_,?_,?_⟩ ?_ ?_ a1 a2 a3 a4 a5 (p1.isList.at fun o e=>a7 _ _ e) (p2'.isList.at fun o e=>a7 _ _ e) fun g tk acc c as kp gL la hG hacc=>?_)
 iterate 5 (show _<h'.objs.size;rw[a6];first|exact Nat.lt_add_of_pos_right (by decide)|exact Nat.add_lt_add_left (by decide) _)
 ·show l1<h'.objs.size;rw[a6];exact gj lt1 (lY _ _)
 ·show l2<h'.objs.size;rw[a6];exact gj lt2 (lY _ _)
 ·rw[fL,fL,<- rv1.length,<- rv2.length];exact hl
 ·rw[fL,<- rv1.length];exact hz1
 have kp1:∀b o,s1.heap.get? b=some o->g.get? b=some o:=fun b o e=>by
  have lb:=fC e;exact kp b o (fE (gj lb (lY _ _))) (fE (gj lb (lY _ _))) (fE lb) (fE (gj lb (lY _ _))) (a7 b o e)
 have lax:as.length=xs.length:=by rw[la,fL,rv1.length]
 have nd:as.Nodup:=hG.1.imp fun {x y} q=>fE q;have lo:∀x∈as,h'.objs.size<x:=hG.2.1;have zl:(xs.zip ys).length=as.length:=by rw[iB];omega
 generalize hNd:(fun b=>if b=h'.objs.size then some (HO.lst (as.map V.ref)) else((as.zip (xs.zip ys)).lookup b).map fun q=>HO.tup [q.1,q.2]:Hp)=N;have Nl:N h'.objs.size=some (.lst (as.map V.ref)):=by rw[<- hNd];exact if_pos rfl
 have Np:∀x q,(x,q)∈as.zip (xs.zip ys)->N x=some (.tup [q.1,q.2]):=fun x q m=>by
  rw[<- hNd];have lx:=lo x (i6 m).1
  show(if x=h'.objs.size then _ else _)=_
  rw[if_neg (gA lx),J7 nd m];rfl
 have Nc:∀b o,N b=some o->(b=h'.objs.size/\o=.lst (as.map V.ref))\/∃q,(b,q)∈as.zip (xs.zip ys)/\o=.tup [q.1,q.2]:=fun b o e=>by
  rw[<- hNd] at e
  change (if b=h'.objs.size then _ else _)=_ at e
  by_cases cb:b=h'.objs.size
  ·rw[if_pos cb] at e;exact .inl ⟨cb,(fO e).symm⟩
  ·rw[if_neg cb] at e;cases ql:(as.zip (xs.zip ys)).lookup b with
   |none=>rw[ql] at e;cases e
   |some q=>
    rw[ql] at e;exact .inr ⟨q,JE ql,(fO e).symm⟩
 clear hNd;have szl:s1.heap.objs.size<=h'.objs.size:=by rw[a6];exact lY _ _
 have Inew:L2.Inv X cQ U (yK H1 N) { s1 with heap:=g,toks:=tk }:=by
  refine Inv.turnedLaids (ch:=[]) I1 (fun b u _ e=>kp1 b u e) (fun b hb=>by cases hb) (fun b o e=>?_) (fun b o e=>?_)
  ·rcases Nc b o e with⟨rfl,_⟩|⟨q,m,_⟩
   ·exact szl
   ·exact fK szl (ib (lo b (i6 m).1))
  ·rcases Nc b o e with⟨rfl,rfl⟩|⟨q,m,rfl⟩
   ·refine⟨by rw[fi,lax,rv1.length];rw[<- rv1.length];exact hz1,as.map Value.ref,c,?_,?_⟩
    ·exact jb as
    ·rw[<- hacc,Array.toArray_toList];exact gL
   ·obtain⟨j,hj,ej⟩:=gu m;rw[iB] at hj;rw[mU,mU] at ej;have eb:as[j]'(by omega)=b:=fI Prod.fst ej;have eq:(xs[j]'(by omega),ys[j]'(by omega))=q:=fI Prod.snd ej;obtain⟨x,y,g1,g2,g3⟩:=hG.2.2 j b (by rw[<- eb];exact fj _);obtain⟨u1,hu1,ru1⟩:=rv1.get (fj (show j<xs.length by omega));obtain⟨u2,hu2,ru2⟩:=rv2.get (fj (show j<ys.length by omega));have e1:x=u1:=by
     have:its1[j]?=some x:=by simpa using g1
     rw[hu1] at this;exact(fO this).symm
    have e2:y=u2:=by
     have:its2[j]?=some y:=by simpa using g2
     rw[hu2] at this;exact(fO this).symm
    subst e1;subst e2;rw[<- eq];exact⟨by show 2<=sizeLine;decide,[x,y],.cons ru1 (.cons ru2 .nil),⟨_,g3,rfl,_,rfl⟩⟩
 have sm:Ze H1 (yK H1 N):=fun b o e=>by
  rw[qT];exact e;cases qn:N b with
  |none=>rfl
  |some o'=>
   have:s1.heap.objs.size<=b:=by
    rcases Nc b o' qn with⟨rfl,_⟩|⟨q,m,_⟩
    ·exact szl
    ·exact fK szl (ib (lo b (i6 m).1))
   rw[I1.hok.fresh this] at e;cases e
 refine⟨.ref h'.objs.size,yK H1 N,Inew,rfl,q (yK H1 N) h'.objs.size ((as.map V.ref).zip (xs.zip ys)) sm (I1.hok.fresh szl) ?_ ?_ fun x hx=>?_⟩
 ·rw[xy Nl,List.map_fst_zip (by rw[fi];omega)]
 ·rw[List.map_snd_zip (by rw[fi];omega)]
 ·obtain⟨j,hj,ej⟩:=gu hx;rw[iB,fi] at hj;rw[mU,iC] at ej;have e1:V.ref (as[j]'(by omega))=x.1:=fI Prod.fst ej;have e2:(xs.zip ys)[j]'(by omega)=x.2:=fI Prod.snd ej;refine⟨as[j]'(by omega),e1.symm,xy (Np _ _ ?_)⟩;have:(as[j]'(by omega),(xs.zip ys)[j]'(by omega))∈as.zip (xs.zip ys):=by
   have:=fN (l:=as.zip (xs.zip ys)) (n:=j) (by rw[iB];omega);rw[mU] at this;exact this
  rw[e2] at this;exact this
theorem sz1:1<=sizeLine:=by rw[ft];decide
theorem sz2:2<=sizeLine:=by rw[ft];decide
theorem sz3:3<=sizeLine:=by rw[ft];decide
theorem sz4l:4<sizeLine:=by rw[ft];decide
theorem sz4:4<=sizeLine:=by rw[ft];decide
end L3
namespace L3
open PySem PySem.Spec L2
theorem pa_n1{X:Cx}{e:Expr}{te:TE}(ha:PE X e te)(hs:starEach [e] X.env=(false,eval e X.env)::starEach [] X.env):PA X [e] (kZ te Za3):=Za ha Zb hs
end L3
namespace KK
open PySem PySem.Spec L2 L3
def top(i:Nat):Stmt:=PySem.Challenge.pw_timecourt_k21_read_along.main.body.getD i (.Pass ⟨0,0,0,0⟩)
def cS:List Str:=["lines","size"]
def cT:List Str:=["thing"]
def cU:List Str:=["self"]
def cW:List Str:=["thing","many"]
def cX:List Str:=["_law_so"]
def cY:List Str:=["sentence"]
def cZ:List Str:=["self","room"]
def c8:List Str:=["_law_core_here"]
def db:List Str:=["_law_room","_law_here"]
def de:List Str:=["_law_k","_law_one","_law_other"]
def df:List Str:=["_law_part","_law_here","_law_rooms"]
def dg:List Str:=["one","other"]
def dh:List Str:=["some","rooms","table"]
def di:List Str:=["_law_room","_law_names_here","_law_world_here"]
def dj:List Str:=["_law_part","_law_rooms"]
def dk:List Str:=["things","many"]
def dm:List Str:=["sentence","inner"]
def dn:List Str:=["self","part","row"]
def dq:List Str:=["self","core"]
def dt:List Str:=["self","number"]
def dv:List Str:=["signs","ways","starts","fair"]
def dy:List Str:=["self","signs","ways","starts","fair"]
def dz:List Str:=["line","length","size"]
def dA:List Str:=["line","size"]
def dB:List Str:=["lines","size","more"]
def dC:List Str:=["rows","run","many"]
def dD:List Str:=["world","row","rooms"]
def dE:List Str:=["world","table","number","told"]
def dG:List Str:=["table","sets"]
def dJ:List Str:=["world","core","sets"]
def dM:List Str:=["world","run","core","sets","many"]
def dN:List Str:=["world","run","core","sets"]
def dQ:List Str:=["_law_state_here","_law_base"]
def dU:List Str:=["_law_script","_law_k"]
def dX:List Str:=["_law_one","_law_other","_law_place"]
def dY:List Str:=["_law_one","_law_other","_law_at"]
def dZ:List Str:=["_law_pairs","_law_thing"]
def ef:List Str:=["_law_state_here"]
def eg:List Str:=["_law_state_here","_law_names_here"]
def eh:List Str:=["_law_state_here","_law_world_here"]
def eG:List Str:=["_law_world_here","_law_sets_here","_law_rooms","_law_rows","_law_part","_law_at"]
def eI:List Str:=["_law_world_here","_law_run_here","_law_core_here","_law_sets_here","_law_many"]
def eJ:List Str:=["_law_state_here","_law_core_here","_law_many"]
def eM:List Str:=["_law_world_here","_law_names_here","_law_run_here","_law_core_here","_law_sets_here"]
def eN:List Str:=["_law_script"]
def eO:List Str:=["_law_part","_law_found"]
def eQ:List Str:=["_law_k","_law_state_here","_law_many"]
def eT:List Str:=["_law_name","_law_state_here"]
def eV:List Str:=["_law_k","_law_rooms","_law_end"]
def eX:List Str:=["_law_room","_law_part","_law_world_here"]
def eY:List Str:=["_law_room","_law_state_here"]
def fb:List Str:=["_law_room","_law_world_here"]
def fc:List Str:=["_law_name","_law_room","_law_world_here"]
def fe:List Str:=["_law_state_here","_law_names_here","_law_deep"]
abbrev qv:Stmt:=top 4
abbrev VU:Stmt:=top 5
abbrev zF:Stmt:=top 6
abbrev WP:Stmt:=top 7
abbrev Vy:Stmt:=top 8
abbrev VC:Stmt:=top 9
abbrev Yp:Stmt:=top 17
abbrev Wp:Stmt:=top 18
abbrev Ys:Stmt:=top 19
abbrev Up:Stmt:=top 21
abbrev Ua:Stmt:=WG (top 22) 0
abbrev Yy:Stmt:=WG (top 22) 1
abbrev Y5:Stmt:=WG (top 22) 2
abbrev ZA:Stmt:=WG (top 22) 3
abbrev jZ:Stmt:=top 23
abbrev KC:Stmt:=top 25
abbrev Ue:Stmt:=top 26
abbrev WJ:Stmt:=top 27
abbrev VD:Stmt:=top 28
abbrev Ye:Stmt:=top 29
abbrev Yl:Stmt:=top 30
abbrev Yb:Stmt:=top 31
abbrev U2:Stmt:=top 32
abbrev WM:Stmt:=top 33
abbrev XG:Stmt:=top 34
abbrev Ut:Stmt:=top 35
abbrev V6:Stmt:=top 36
abbrev US:Stmt:=top 37
abbrev YU:Stmt:=top 38
abbrev VO:Stmt:=top 39
abbrev XH:Stmt:=top 40
abbrev YR:Stmt:=WG (top 45) 0
abbrev Uo:Stmt:=WG (top 45) 1
abbrev Wq:Stmt:=WG (top 45) 2
abbrev WR:Stmt:=WG (top 45) 3
abbrev Vl:Stmt:=WG (top 45) 4
abbrev XZ:Stmt:=WG (top 45) 5
abbrev Ym:Stmt:=top 46
abbrev XL:Stmt:=top 47
abbrev Vs:Stmt:=top 49
abbrev Ud:Stmt:=top 50
abbrev YW:Stmt:=top 51
abbrev Xe:Stmt:=top 52
abbrev Yf:Stmt:=top 53
abbrev Ya:Stmt:=top 54
abbrev UO:Stmt:=top 55
abbrev W0:Stmt:=top 56
abbrev Va:Stmt:=top 57
abbrev Xz:Stmt:=top 58
abbrev YS:Stmt:=top 59
abbrev zA:Stmt:=top 60
abbrev ZF:Stmt:=top 61
abbrev YE:Stmt:=top 62
abbrev ZQ:Stmt:=top 63
abbrev YY:Stmt:=top 64
abbrev Y2:Stmt:=top 65
theorem cP{N P:List Str}{S:Scope}(a:S.kind=.function:=by rfl)(b:S.isCoroutine=false:=by rfl)(c:S.isGenerator=false:=by rfl)(d:N.take P.length=P:=by rfl)(e:N.Nodup/\(∀x∈P,S.names.lookup x=some .local\/S.names.lookup x=some .cell)/\∀y∈S.names,y.2≠.free:=by decide +kernel):Zt N P S:=⟨a,b,c,e.1,d,e.2.1,e.2.2⟩
theorem Jv:Zt ["thing"] cT (Zg qv):=cP
theorem KZ:Zt ["thing"] cT (Zg VU):=cP
theorem Qa:Zt ["thing","many"] cW (Zg zF):=cP
theorem jA:Zt ["thing"] cT (Zg WP):=cP
theorem j9:Zt ["thing","many"] cW (Zg Vy):=cP
theorem Ui:Zt ["things","many","start","taken"] dk (Zg VC):=cP
theorem zk:Zt ["thing","word"] cT (Zg Yp):=cP
theorem yn:Zt ["sentence","word"] cY (Zg Wp):=cP
theorem Wd:Zt ["sentence","found","waiting","one"] cY (Zg Ys):=cP
theorem yh:Zt ["sentence","inner","head"] dm (Zg Up):=cP
theorem vn:Zt ["self"] cU (Zg Ua):=cP
theorem Xd:Zt ["self","core","found","part","inner"] dq (Zg Yy):=cP
theorem zm:Zt ["self","part","row"] dn (Zg Y5):=cP
def Wn:List Str:=["self","number","found","seen","waiting","at","ahead"]
theorem Z8:Zt Wn dt (Zg ZA):=cP
theorem Zcp:Zt ["row"] ["row"] (Zg jZ):=cP
theorem Zdv:Zt ["world","run","core","sets"] dN (Zg KC):=cP
theorem vF:Zt ["world","run","core","sets","many"] dM (Zg Ue):=cP
theorem V9:Zt ["world","core","sets","table","number"] dJ (Zg WJ):=cP
theorem jK:Zt ["table","sets"] dG (Zg VD):=cP
def U9:List Str:=["world","table","number","told","places","rows","inner","row"]
theorem XB:Zt U9 dE (Zg Ye):=cP
theorem yN:Zt ["world","row","rooms"] dD (Zg Yl):=cP
def UP:List Str:=["rows","run","many","way","ring","size","lines","row","line","deed"]
theorem YF:Zt UP dC (Zg Yb):=cP
theorem qw:Zt ["line","size","end"] dA (Zg U2):=cP
theorem zh:Zt ["line","length","size","longer"] dz (Zg WM):=cP
theorem VB:Zt ["lines","size","more","length"] dB (Zg XG):=cP
theorem JX:Zt ["lines","size"] cS (Zg Ut):=cP
theorem k5:Zt ["lines","size"] cS (Zg V6):=cP
theorem jB:Zt ["lines","size"] cS (Zg US):=cP
theorem Yn:Zt ["lines","size","pairs","later","first","second","line"] cS (Zg YU):=cP
theorem xp:Zt ["lines","size"] cS (Zg VO):=cP
theorem Xq:Zt ["lines","size","line","held","first","second"] cS (Zg XH):=cP
def Ur:List Str:=["self","signs","ways","starts","fair"]
theorem vm:Zt Ur dy (Zg YR):=cP
theorem vg:Zt ["self"] cU (Zg Uo):=cP
theorem zi:Zt ["self","room"] cZ (Zg Wq):=cP
theorem zB:Zt ["self","room"] cZ (Zg WR):=cP
theorem Za9:Zt ["self"] cU (Zg Vl):=cP
theorem Kn:Zt ["self"] cU (Zg XZ):=cP
def VF:List Str:=["signs","ways","starts","fair","many"]
theorem UR:Zt VF dv (Zg Ym):=cP
theorem zc:Zt ["thing","many"] cW (Zg XL):=cP
theorem yx:Zt ["_law_script","_law_k"] dU (Zg Vs):=cP
theorem va:Zt ["_law_cell"] ["_law_cell"] (Zg Ud):=cP
theorem WA:Zt ["_law_state_here","_law_base","_law_found","_law_number"] dQ (Zg YW):=cP
theorem XS:Zt ["_law_state_here","_law_letters","_law_name","_law_k"] ef (Zg Xe):=cP
def Uv:List Str:=["_law_state_here","_law_names_here","_law_many","_law_signs","_law_ways","_law_room","_law_on"]
theorem Xn:Zt Uv eg (Zg Yf):=cP
def qp:List Str:=["_law_state_here","_law_world_here","_law_rooms","_law_k","_law_on","_law_ends","_law_end","_law_begins","_law_begin"]
theorem YT:Zt qp eh (Zg Ya):=cP
theorem W8:Zt ["_law_state_here","_law_names_here","_law_deep","_law_fork","_law_one","_law_other"] fe (Zg UO):=cP
theorem vi:Zt ["_law_core_here"] c8 (Zg W0):=cP
def zw:List Str:=["_law_core_here","_law_found","_law_one"]
theorem WI:Zt zw c8 (Zg Va):=cP
theorem UE:Zt ["_law_one","_law_other","_law_place"] dX (Zg Xz):=cP
def qZ:List Str:=["_law_one","_law_other","_law_at","_law_found","_law_later","_law_turn","_law_k"]
theorem YZ:Zt qZ dY (Zg YS):=cP
theorem qE:Zt ["_law_pairs","_law_thing","_law_one","_law_told"] dZ (Zg zA):=cP
def X0:List Str:=["_law_world_here","_law_sets_here","_law_rooms","_law_rows","_law_part","_law_at","_law_word","_law_here","_law_one","_law_other","_law_places"]
theorem X8:Zt X0 eG (Zg ZF):=cP
def zb:List Str:=["_law_world_here","_law_run_here","_law_core_here","_law_sets_here","_law_many","_law_parts_here","_law_words","_law_rooms","_law_rows","_law_part"]
theorem Xm:Zt zb eI (Zg YE):=cP
def XV:List Str:=["_law_world_here","_law_names_here","_law_run_here","_law_core_here","_law_sets_here","_law_rooms","_law_signs","_law_other","_law_rest","_law_many","_law_one","_law_told"]
theorem Yk:Zt XV eM (Zg ZQ):=cP
def UH:List Str:=["_law_state_here","_law_core_here","_law_many","_law_sets_here","_law_part"]
theorem WZ:Zt UH eJ (Zg YY):=cP
def Zcy:List Str:=["_law_script","_law_state_here","_law_names_here","_law_world_here","_law_run_here","_law_cell","_law_core_here","_law_sets_here","_law_many","_law_due","_law_handed","_law_found","_law_one","_law_other","_law_some"]
theorem Xy:Zt Zcy eN (Zg Y2):=cP
inductive Cj2(p0 p1:Prop):Prop
 |mk (h0:p0) (h1:p1):Cj2 p0 p1
inductive Cj3(p0 p1 p2:Prop):Prop
 |mk (h0:p0) (h1:p1) (h2:p2):Cj3 p0 p1 p2
inductive Cj4(p0 p1 p2 p3:Prop):Prop
 |mk (h0:p0) (h1:p1) (h2:p2) (h3:p3):Cj4 p0 p1 p2 p3
inductive Cj5(p0 p1 p2 p3 p4:Prop):Prop
 |mk (h0:p0) (h1:p1) (h2:p2) (h3:p3) (h4:p4):Cj5 p0 p1 p2 p3 p4
inductive Cj6(p0 p1 p2 p3 p4 p5:Prop):Prop
 |mk (h0:p0) (h1:p1) (h2:p2) (h3:p3) (h4:p4) (h5:p5):Cj6 p0 p1 p2 p3 p4 p5
inductive Cj7(p0 p1 p2 p3 p4 p5 p6:Prop):Prop
 |mk (h0:p0) (h1:p1) (h2:p2) (h3:p3) (h4:p4) (h5:p5) (h6:p6):Cj7 p0 p1 p2 p3 p4 p5 p6
inductive Cj9(p0 p1 p2 p3 p4 p5 p6 p7 p8:Prop):Prop
 |mk (h0:p0) (h1:p1) (h2:p2) (h3:p3) (h4:p4) (h5:p5) (h6:p6) (h7:p7) (h8:p8):Cj9 p0 p1 p2 p3 p4 p5 p6 p7 p8
inductive Zc8(p0 p1 p2 p3 p4 p5 p6 p7 p8 p9:Prop):Prop
 |mk (h0:p0) (h1:p1) (h2:p2) (h3:p3) (h4:p4) (h5:p5) (h6:p6) (h7:p7) (h8:p8) (h9:p9):Zc8 p0 p1 p2 p3 p4 p5 p6 p7 p8 p9
inductive ZcM(p0 p1 p2 p3 p4 p5 p6 p7 p8 p9 p10:Prop):Prop
 |mk (h0:p0) (h1:p1) (h2:p2) (h3:p3) (h4:p4) (h5:p5) (h6:p6) (h7:p7) (h8:p8) (h9:p9) (h10:p10):ZcM p0 p1 p2 p3 p4 p5 p6 p7 p8 p9 p10
inductive ZfS(p0 p1 p2 p3 p4 p5 p6 p7 p8 p9 p10 p11:Prop):Prop
 |mk (h0:p0) (h1:p1) (h2:p2) (h3:p3) (h4:p4) (h5:p5) (h6:p6) (h7:p7) (h8:p8) (h9:p9) (h10:p10) (h11:p11):ZfS p0 p1 p2 p3 p4 p5 p6 p7 p8 p9 p10 p11
inductive Zgn(p0 p1 p2 p3 p4 p5 p6 p7 p8 p9 p10 p11 p12 p13 p14 p15 p16:Prop):Prop
 |mk (h0:p0) (h1:p1) (h2:p2) (h3:p3) (h4:p4) (h5:p5) (h6:p6) (h7:p7) (h8:p8) (h9:p9) (h10:p10) (h11:p11) (h12:p12) (h13:p13) (h14:p14) (h15:p15) (h16:p16):Zgn p0 p1 p2 p3 p4 p5 p6 p7 p8 p9 p10 p11 p12 p13 p14 p15 p16
inductive Ex1{u0:Type}(P:u0->Prop):Prop
 |mk (x0:u0) (h:P x0):Ex1 P
inductive Ex2{u0 u1:Type}(P:u0->u1->Prop):Prop
 |mk (x0:u0) (x1:u1) (h:P x0 x1):Ex2 P
inductive Ex3{u0 u1 u2:Type}(P:u0->u1->u2->Prop):Prop
 |mk (x0:u0) (x1:u1) (x2:u2) (h:P x0 x1 x2):Ex3 P
inductive Ex4{u0 u1 u2 u3:Type}(P:u0->u1->u2->u3->Prop):Prop
 |mk (x0:u0) (x1:u1) (x2:u2) (x3:u3) (h:P x0 x1 x2 x3):Ex4 P
inductive Ex5{u0 u1 u2 u3 u4:Type}(P:u0->u1->u2->u3->u4->Prop):Prop
 |mk (x0:u0) (x1:u1) (x2:u2) (x3:u3) (x4:u4) (h:P x0 x1 x2 x3 x4):Ex5 P
inductive Ex6{u0 u1 u2 u3 u4 u5:Type}(P:u0->u1->u2->u3->u4->u5->Prop):Prop
 |mk (x0:u0) (x1:u1) (x2:u2) (x3:u3) (x4:u4) (x5:u5) (h:P x0 x1 x2 x3 x4 x5):Ex6 P
inductive Ex7{u0 u1 u2 u3 u4 u5 u6:Type}(P:u0->u1->u2->u3->u4->u5->u6->Prop):Prop
 |mk (x0:u0) (x1:u1) (x2:u2) (x3:u3) (x4:u4) (x5:u5) (x6:u6) (h:P x0 x1 x2 x3 x4 x5 x6):Ex7 P
inductive Ex8{u0 u1 u2 u3 u4 u5 u6 u7:Type}(P:u0->u1->u2->u3->u4->u5->u6->u7->Prop):Prop
 |mk (x0:u0) (x1:u1) (x2:u2) (x3:u3) (x4:u4) (x5:u5) (x6:u6) (x7:u7) (h:P x0 x1 x2 x3 x4 x5 x6 x7):Ex8 P
inductive Ex9{u0 u1 u2 u3 u4 u5 u6 u7 u8:Type}(P:u0->u1->u2->u3->u4->u5->u6->u7->u8->Prop):Prop
 |mk (x0:u0) (x1:u1) (x2:u2) (x3:u3) (x4:u4) (x5:u5) (x6:u6) (x7:u7) (x8:u8) (h:P x0 x1 x2 x3 x4 x5 x6 x7 x8):Ex9 P
inductive Zd6{u0 u1 u2 u3 u4 u5 u6 u7 u8 u9:Type}(P:u0->u1->u2->u3->u4->u5->u6->u7->u8->u9->Prop):Prop
 |mk (x0:u0) (x1:u1) (x2:u2) (x3:u3) (x4:u4) (x5:u5) (x6:u6) (x7:u7) (x8:u8) (x9:u9) (h:P x0 x1 x2 x3 x4 x5 x6 x7 x8 x9):Zd6 P
inductive ZfC{u0 u1 u2 u3 u4 u5 u6 u7 u8 u9 u10:Type}(P:u0->u1->u2->u3->u4->u5->u6->u7->u8->u9->u10->Prop):Prop
 |mk (x0:u0) (x1:u1) (x2:u2) (x3:u3) (x4:u4) (x5:u5) (x6:u6) (x7:u7) (x8:u8) (x9:u9) (x10:u10) (h:P x0 x1 x2 x3 x4 x5 x6 x7 x8 x9 x10):ZfC P
inductive ZgJ{u0 u1 u2 u3 u4 u5 u6 u7 u8 u9 u10 u11:Type}(P:u0->u1->u2->u3->u4->u5->u6->u7->u8->u9->u10->u11->Prop):Prop
 |mk (x0:u0) (x1:u1) (x2:u2) (x3:u3) (x4:u4) (x5:u5) (x6:u6) (x7:u7) (x8:u8) (x9:u9) (x10:u10) (x11:u11) (h:P x0 x1 x2 x3 x4 x5 x6 x7 x8 x9 x10 x11):ZgJ P
inductive ZeJ{u0 u1 u2 u3 u4 u5 u6 u7 u8 u9 u10 u11 u12:Type}(P:u0->u1->u2->u3->u4->u5->u6->u7->u8->u9->u10->u11->u12->Prop):Prop
 |mk (x0:u0) (x1:u1) (x2:u2) (x3:u3) (x4:u4) (x5:u5) (x6:u6) (x7:u7) (x8:u8) (x9:u9) (x10:u10) (x11:u11) (x12:u12) (h:P x0 x1 x2 x3 x4 x5 x6 x7 x8 x9 x10 x11 x12):ZeJ P
structure Fg(K:W.Frag)(mg:Str->Option Value)(x:Str)(st:Stmt)(ps:List Str)(fa:Addr)(fd:FuncData):Prop where
 f:Fun K x x st fa fd
 n:VS K fd ps []
 g:mg x=some (.ref fa)
structure Mg(K:W.Frag)(C:Addr)(x q:Str)(st:Stmt)(ps:List Str)(fa:Addr)(fd:FuncData):Prop where
 f:Fun K x q st fa fd
 n:VS K fd ps []
 m:Zcd K C x fa
theorem okF{x:Str}{st:Stmt}{f:Addr}{ps:List Str}{k:Nat}(F:Fun K x qual st f fd)(S:Zt N ps (Zg st))
  (hbody:∀(cR:Value) (A:Around) (outer:List Env) (s:Shared) (H:Hp) (vs:List V) (Q:VK) (E:XK),YA k (A.deeper (PyProof.Rows.envOfC qual (Zg st) s.heap.objs.size f cR))->sp vs H Q E ->
   ∃t,PSs (JC CX0 P w K mg base N qual (Zg st) f cR A outer s H E).nox (XM st) t/\t { nx:=fun _ H'=>Q .non H',rt:=Q } (qj N vs) H)
  (len:∀vs H Q E,sp vs H Q E->vs.length=ps.length:=by intro _ _ _ _ h;first|(cases h;rename_i h;cases h;subst_vars;rfl)|(cases h;subst_vars;rfl)|(repeat (first|(obtain⟨rfl,_⟩:=h;rfl)|obtain⟨_,h⟩:=h))):VT P w K mg base CX0 (k+1) f fd ps sp:=F.ok S len hbody
theorem rmL{k:Nat}(r:YA k A)(h:Nat.ble j k=true):YA j A:=r.mono (Nat.le_of_ble_eq_true h)
theorem ZB{k:Nat}{f:Addr}{ps:List Str}{x:Str}{st:Stmt}{p:Pos}{es:List Expr}{t:TA}(g:Fg X.K X.mg x st ps f fd)(F:VT X.prog X.w X.K X.mg X.base CX0 j f fd ps sp)(hr:YA k X.A)(le:Nat.ble j k=true)(hg:Gl X x)(ha:PA X (e::es) t)(hdb:(x==("__debug__" : Str))=false:=by decide)(he:starEach (e::es) X.env=(false,eval e X.env)::starEach es X.env:=by rfl)(hpl:(backTo pos (starEach es X.env)).any (·.1)=false:=by rfl):PE X (.Call (.Name x p) (e::es) [] pos) (ZbX sp [] E0 t):=Wh F (rmL hr le) hg g.g g.f.kp g.n .nil YK ha hdb he hpl
def blk:List Stmt->Nat->List Stmt
 |.For _ _ b _ _::_,0=>b
 |.For _ _ _ e _::_,_=>e
 |.While _ b _ _::_,0=>b
 |.While _ _ e _::_,_=>e
 |.If _ b _ _::_,0=>b
 |.If _ _ e _::_,_=>e
 |_,_=>[]
def pkL(ss:List Stmt):List Nat->List Stmt
 |[]=>ss
 |[n]=>ss.drop n
 |n::b::p=>pkL (blk (ss.drop n) b) p
abbrev Rdg(X:Cx)(s:Stmt)(p:List Nat):Type:={t:L2.TS // PSs X (pkL (XM s) p) t}
theorem okX{x:Str}{st:Stmt}{f:Addr}{ps:List Str}{k:Nat}(F:Fun K x qual st f fd)(S:Zt N ps (Zg st))
  (hbody:∀(cR:Value) (A:Around) (outer:List Env) (s:Shared) (H:Hp) (E:XK),YA k (A.deeper (PyProof.Rows.envOfC qual (Zg st) s.heap.objs.size f cR))->let X:=(JC CX0 P w K mg base N qual (Zg st) f cR A outer s H E).nox
   ∀(vs:List V) (Q:VK),sp vs H Q E->∃t,PSs X (XM st) t/\t { nx:=fun _ H'=>Q .non H',rt:=Q } (qj N vs) H)
  (len:∀vs H Q E,sp vs H Q E->vs.length=ps.length:=by intro _ _ _ _ h;first|(cases h;rename_i h;cases h;subst_vars;rfl)|(cases h;subst_vars;rfl)|(repeat (first|(obtain⟨rfl,_⟩:=h;rfl)|obtain⟨_,h⟩:=h))):VT P w K mg base CX0 (k+1) f fd ps sp:=F.ok S len fun cR A outer s H vs Q E hr h=>hbody cR A outer s H E hr vs Q h
set_option genInjectivity false
structure Adr where
 y0:Addr
 z0:FuncData
 y1:Addr
 z1:FuncData
 y2:Addr
 z2:FuncData
 y3:Addr
 z3:FuncData
 y4:Addr
 z4:FuncData
 y5:Addr
 z5:FuncData
 y6:Addr
 z6:FuncData
 y7:Addr
 z7:FuncData
 y8:Addr
 z8:FuncData
 y9:Addr
 z9:FuncData
 y10:Addr
 z10:FuncData
 y11:Addr
 z11:FuncData
 y12:Addr
 z12:FuncData
 y13:Addr
 z13:FuncData
 y14:Addr
 z14:FuncData
 y15:Addr
 z15:FuncData
 y16:Addr
 z16:FuncData
 y17:Addr
 z17:FuncData
 y18:Addr
 z18:FuncData
 y19:Addr
 z19:FuncData
 y20:Addr
 z20:FuncData
 y21:Addr
 z21:FuncData
 y22:Addr
 z22:FuncData
 y23:Addr
 z23:FuncData
 y24:Addr
 z24:FuncData
 y25:Addr
 z25:FuncData
 y26:Addr
 z26:FuncData
 y27:Addr
 z27:FuncData
 y28:Addr
 z28:FuncData
 y29:Addr
 z29:FuncData
 y30:Addr
 z30:FuncData
 y31:Addr
 z31:FuncData
 y32:Addr
 z32:FuncData
 y33:Addr
 z33:FuncData
 y34:Addr
 z34:FuncData
 y35:Addr
 z35:FuncData
 y36:Addr
 z36:FuncData
 y37:Addr
 z37:FuncData
 y38:Addr
 z38:FuncData
 y39:Addr
 z39:FuncData
 y40:Addr
 z40:FuncData
 y41:Addr
 z41:FuncData
 y42:Addr
 z42:FuncData
 y43:Addr
 z43:FuncData
 y44:Addr
 z44:FuncData
 y45:Addr
 z45:FuncData
 y46:Addr
 z46:FuncData
 y47:Addr
 z47:FuncData
 y48:Addr
 z48:FuncData
 y49:Addr
 z49:FuncData
 y50:Addr
 z50:FuncData
 y51:Addr
 z51:FuncData
 y52:Addr
 z52:FuncData
 y53:Addr
 z53:FuncData
 y54:Addr
 z54:FuncData
 y55:Addr
 z55:FuncData
 C_TimeError:Addr
 C_BadWorld:Addr
 C_BadSentence:Addr
 C_Table:Addr
 C_World:Addr
 D_LENGTHS:Addr
 D_LINES:Addr
 Pm:Params
structure Txt(K:W.Frag)(mg:Str->Option Value)(a:Adr):Prop where
 bz:Fg K mg "is_whole" qv cT a.y0 a.z0
 bM:Fg K mg "is_name" VU cT a.y1 a.z1
 bV:Fg K mg "is_room" zF cW a.y2 a.z2
 bj:Fg K mg "are_names" WP cT a.y3 a.z3
 bE:Fg K mg "are_rooms" Vy cW a.y4 a.z4
 bF:Fg K mg "last_ones" VC dk a.y5 a.z5
 bG:Fg K mg "is_formed" Yp cT a.y6 a.z6
 bA:Fg K mg "inner_of" Wp cY a.y7 a.z7
 bm:Fg K mg "inner_ahead" Ys cY a.y8 a.z8
 bQ:Fg K mg "row_with" Up dm a.y9 a.z9
 bu:Mg K a.C_Table "__init__" "Table.__init__" Ua cU a.y10 a.z10
 al:Mg K a.C_Table "number_of" "Table.number_of" Yy dq a.y11 a.z11
 aH:Mg K a.C_Table "taken_in" "Table.taken_in" Y5 dn a.y12 a.z12
 aq:Mg K a.C_Table "inner_numbers" "Table.inner_numbers" ZA dt a.y13 a.z13
 ck:Fg K mg "below" jZ ["row"] a.y14 a.z14
 cE:Fg K mg "read" KC dN a.y15 a.z15
 az:Fg K mg "read_along" Ue dM a.y16 a.z16
 bH:Fg K mg "ground_of" WJ dJ a.y17 a.z17
 bJ:Fg K mg "told_sets" VD dG a.y18 a.z18
 bn:Fg K mg "ground_rows" Ye dE a.y19 a.z19
 bo:Fg K mg "room_truths" Yl dD a.y20 a.z20
 bK:Fg K mg "read_rows" Yb dC a.y21 a.z21
 bW:Fg K mg "trimmed" U2 dA a.y22 a.z22
 aO:Fg K mg "stretched" WM dz a.y23 a.z23
 aB:Fg K mg "stretched_both" XG dB a.y24 a.z24
 bB:Fg K mg "not_line" Ut cS a.y25 a.z25
 bC:Fg K mg "and_line" V6 cS a.y26 a.z26
 bq:Fg K mg "next_line" US cS a.y27 a.z27
 aZ:Fg K mg "until_line" YU cS a.y28 a.z28
 aV:Fg K mg "before_line" VO cS a.y29 a.z29
 a8:Fg K mg "since_line" XH cS a.y30 a.z30
 a9:Mg K a.C_World "__init__" "World.__init__" YR dy a.y31 a.z31
 ab:Mg K a.C_World "many" "World.many" Uo cU a.y32 a.z32
 ag:Mg K a.C_World "signs_of" "World.signs_of" Wq cZ a.y33 a.z33
 ah:Mg K a.C_World "ways_on" "World.ways_on" WR cZ a.y34 a.z34
 bZ:Mg K a.C_World "begins" "World.begins" Vl cU a.y35 a.z35
 bN:Mg K a.C_World "fair_signs" "World.fair_signs" XZ cU a.y36 a.z36
 br:Fg K mg "makes_world" Ym dv a.y37 a.z37
 aI:Fg K mg "are_some_rooms" XL cW a.y38 a.z38
 ak:Fg K mg "_law_cell_at" Vs dU a.y39 a.z39
 aQ:Fg K mg "_law_state" Ud ["_law_cell"] a.y40 a.z40
 aa:Fg K mg "_law_digit" YW dQ a.y41 a.z41
 bv:Fg K mg "_law_names" Xe ef a.y42 a.z42
 bw:Fg K mg "_law_world" Yf eg a.y43 a.z43
 bR:Fg K mg "_law_run" Ya eh a.y44 a.z44
 am:Fg K mg "_law_core" UO fe a.y45 a.z45
 aC:Fg K mg "_law_inner" W0 c8 a.y46 a.z46
 ai:Fg K mg "_law_parts" Va c8 a.y47 a.z47
 ba:Fg K mg "_law_back_to" Xz dX a.y48 a.z48
 bx:Fg K mg "_law_ahead" YS dY a.y49 a.z49
 bf:Fg K mg "_law_of" zA dZ a.y50 a.z50
 bS:Fg K mg "_law_row" ZF eG a.y51 a.z51
 aS:Fg K mg "_law_along" YE eI a.y52 a.z52
 aW:Fg K mg "_law_by_turns" ZQ eM a.y53 a.z53
 bL:Fg K mg "_law_sets" YY eJ a.y54 a.z54
 cM:Fg K mg "law" Y2 eN a.y55 a.z55
 ce:mg "ValueError" = none
 cr:mg "all" = none
 aK:mg "tuple" = none
 ay:mg "len" = none
 aN:mg "list" = none
 bT:mg "reversed" = none
 aJ:mg "range" = none
 ae:mg "isinstance" = none
 cN:mg "int" = none
 cF:mg "set" = none
 cK:mg "max" = none
 cO:mg "zip" = none
 cG:mg "bool" = none
 cL:mg "str" = none
 bO:mg "sorted" = none
 cg:∃u,mg "LETTERS" = some u/\ZZ (.str "abcdefghijklmnopqrstuvwxyz") u
 bD:∃u,mg "MOST_LETTERS" = some u/\ZZ (.int 8) u
 bP:∃u,mg "MOST_WITHIN" = some u/\ZZ (.int 5) u
 bU:∃u,mg "MOST_ROOMS" = some u/\ZZ (.int 20) u
 bX:∃u,mg "MOST_FAIR" = some u/\ZZ (.int 3) u
 cv:mg "TimeError" = some (.ref a.C_TimeError)
 cy:W.excIn K a.C_TimeError [.type "ValueError",.type "Exception",.type "BaseException",.type "object"] "ValueError.__new__" = true
 cC:mg "BadWorld" = some (.ref a.C_BadWorld)
 cD:W.excIn K a.C_BadWorld [.type "ValueError",.type "Exception",.type "BaseException",.type "object"] "ValueError.__new__" = true
 b9:mg "BadSentence" = some (.ref a.C_BadSentence)
 ca:W.excIn K a.C_BadSentence [.type "ValueError",.type "Exception",.type "BaseException",.type "object"] "ValueError.__new__" = true
 k_BadWorld:ZfU K a.C_BadWorld
 k_BadSentence:ZfU K a.C_BadSentence
 nk_signs:W.nsIn K a.D_LENGTHS "signs" = some none
 nk_Next:W.nsIn K a.D_LENGTHS "Next" = some none
 bY:mg "LENGTHS" = some (.ref a.D_LENGTHS)
 bh:Ze4 K a.Pm a.D_LENGTHS [("all",2),("some",2),("not",2),("next",2),("always",2),("ever",2),("before",2),("once",2),("sofar",2),("until",3),("since",3)]
 cH:mg "LINES" = some (.ref a.D_LINES)
 cI:Zgo K a.Pm a.D_LINES [("not",a.y25),("and",a.y26),("next",a.y27),("until",a.y28),("before",a.y29),("since",a.y30)]
 av:Cls K a.C_Table
 cJ:mg "Table" = some (.ref a.C_Table)
 cB:Mk K a.C_Table a.y10
 bc:Wx K a.C_Table "parts"
 aE:Wx K a.C_Table "rows"
 ao:Wx K a.C_Table "numbers"
 aj:Cls K a.C_World
 cA:mg "World" = some (.ref a.C_World)
 cc:Mk K a.C_World a.y31
 aA:Wx K a.C_World "room_signs"
 aM:Wx K a.C_World "room_ways"
 aU:Wx K a.C_World "start_rooms"
 aX:Wx K a.C_World "fair_names"
abbrev Okd(P:Program)(w:World)(K:W.Frag)(mg:Str->Option Value)(base:Heap)(a:Adr)(k:Nat)(f:Addr)(fd:FuncData)(ps:List Str)(sp:W.Frag->Adr->Sp):Prop:=∀(_:Txt K mg a) (_:w.params=a.Pm),VT P w K mg base CX0 k f fd ps (sp K a)
end KK
variable{a:KK.Adr}
namespace KK
open PySem PySem.Spec L2 L3
def Kg(K:W.Frag)(a:Adr):Sp:=fun vs H Q _=>Ex1 fun x=>Cj3 (vs=[x]) (Kd H x) (Q (.bl (j7 x)) H)
theorem yo:Okd P w K mg base a 1 a.y0 a.z0 cT Kg:=fun T hw=>by
 refine okF T.bz.f Jv fun cR A outer s H vs Q E hr h=>?_;obtain⟨x,rfl,hk,k⟩:=h;refine⟨_,(Zh (Zm (XQ (Zl (Xr (K:=K) rfl "int") rfl T.ae nZ (Za (pv 0) (Za (XU (v:=.ty "int") rfl T.cN PyProof.Rows.Boot.«int» rfl) Zb rfl) rfl)) (Xt (Qv (Zl (Xr (K:=K) rfl "bool") rfl T.ae nZ (Za (pv 0) (Za (XU (v:=.ty "bool") rfl T.cG PyProof.Rows.Boot.«bool» rfl) Zb rfl) rfl))))))),?_⟩;cases hb:XJ H "int" x with
 |false=>
  obtain⟨t,h1,h2⟩:=WW K (by simp) hk hb;have e:j7 x=false:=by cases hk<;>first|rfl|(simp[XJ] at hb)
  rw[e] at k;exact⟨_,rfl,_,t,_,rfl,h1,h2,_,rfl,Z7 k⟩
 |true=>
  obtain⟨t,h1,h2⟩:=WW K (by simp) hk hb;obtain⟨u,h3,h4⟩:=WW K (T := "bool") (by simp) hk rfl;have e:j7 x = !XJ H "bool" x:=by
   cases hk with
   |lst e=>simp[XJ,e] at hb
   |tup e=>simp[XJ,e] at hb
   |dK e=>simp[XJ,e] at hb
   |non=>simp[XJ] at hb
   |str z hz=>simp[XJ] at hb
   |bl b=>rfl
   |int i=>rfl
  rw[e] at k;exact⟨_,rfl,_,t,_,rfl,h1,h2,_,rfl,YB ⟨_,rfl,_,u,_,rfl,h3,h4,_,rfl,k⟩⟩
def KD(K:W.Frag)(a:Adr):Sp:=fun vs H Q _=>Ex1 fun x=>Cj3 (vs=[x]) (Kd H x) (∀H',Ze H H'->Q (.bl (Xf x)) H')
theorem xS:Okd P w K mg base a 1 a.y1 a.z1 cT KD:=fun T hw=>by
 refine okX T.bM.f KZ fun cR A outer s H E hr=>?_;intro X
 let d1:Rdg X VU [1]:=⟨_,(Zh (Zm (Zl (Ve (K:=K) rfl rfl) rfl T.cr og (Za (ZU (Nc:=["letter"]) (ix:=[none]) (ZL.of (by decide +kernel:ZS (Zg VU) ["thing"] _ _ _=true)) rfl (Zfv (pv 0)) (fun _ _ _ _ _=>(Zo (i:=0) (show List.Nodup (["letter"]:List Str) by decide +kernel) rfl (.inl rfl))) (fun _ _ _ _ _=>Z3) (fun _ _ _ _ _=>(Xb Zan (pv 0) (yi rfl T.cg) (by with_unfolding_all rfl)))) Zb rfl))))⟩
 intro vs Q h;obtain⟨x,rfl,hk,k⟩:=h;refine⟨_,(Zc (Z2 (PW.pt (UC (Xg (Xw (Zl (Xr (K:=K) rfl "str") rfl T.ae nZ (Za (pv 0) (Za (XU (v:=.ty "str") rfl T.cL PyProof.Rows.Boot.«str» rfl) Zb rfl) rfl)))) (VH (Xg (Jn yj yj Zf (Zl (Zu (K:=K) rfl) rfl T.ay oh (Za (pv 0) Zb rfl)) (yi rfl T.bD)))))) (Zh (Zm Y9)) ZD) d1.2),?_⟩;rcases Zfe hk with⟨hb,z,rfl,hz⟩|⟨hb,e⟩
 ·obtain⟨t,h1,h2⟩:=WW K (by simp) hk hb;refine⟨_,rfl,_,t,_,rfl,h1,h2,_,rfl,Z7 ?_⟩;refine⟨_,rfl,.inr (.inl ⟨z,rfl,by rw[ft];omega,_,_,rfl,rfl,_,rfl,?_⟩)⟩;have fin:decide (1<=(z.length:Int))=true->decide ((z.length:Int)<=8)=true->Xf (.str z)=z.cps.toList.all yf:=fun a b=>by
   have a':=fT a;have b':=fT b;have a2:1<=z.length:=by omega
   have b2:z.length<=8:=by omega
   simp[Xf,Yo,a2,b2]
  have nof:¬((1:Int)<=z.length/\(z.length:Int)<=8)->Xf (.str z)=false:=fun q=>by
   have:¬(1<=z.length/\z.length<=8):=by omega
   simp only[Xf,Yo]
   by_cases h1:1<=z.length
   ·have h2:¬z.length<=8:=fun h2=>this ⟨h1,h2⟩;simp[h1,h2]
   ·simp[h1]
  refine X9 (fun c1=>?_) (fun c1=>?_)
  ·refine⟨_,_,rfl,rfl,_,rfl,?_⟩;cases c2:decide ((z.length:Int)<=8) with
   |false=>
    refine YB ?_;have q:=k H (.refl H);rw[nof (fun q=>by have:=lZ c2;omega)] at q;exact q
   |true=>
    refine Z7 ⟨_,rfl,z,rfl,fun D hD=>?_⟩;refine YJ (J:=Its z) (n:=z.cps.size) (fun i U H'=>Ze H H'/\H' D=some (.lst ((z.cps.toList.take i).map fun c=>V.bl (yf c)))/\∃y,U=[y]) ?_ (fun i U H' hi _=>hi) (fun U H' _=>fh _) ?_ ?_
    ·exact⟨Zi hD,Zd,_,rfl⟩
    ·rintro i x U H' H2 hi ⟨sm,hl,y,rfl⟩ ⟨rfl,c,hc,rfl⟩ N N0 hN hN0;refine⟨_,rfl,_,_,rfl,rfl,?_⟩;have el:=PySem.StrLaws.found_one ("abcdefghijklmnopqrstuvwxyz" : Str) c;refine hN _ _ _ _ hl (by rw[fi,fZ,ft];have:z.cps.size=z.length:=rfl;omega) ⟨(Zs.upd (Ze.x sm)).same hD,?_,_,rfl⟩;have hc':z.cps.toList[i]?=some c:=by rw[i9];exact hc
     rw[Zd,List.take_add_one,hc',fQ];refine fI (fun b=>some (HO.lst (_++[V.bl b]))) ?_;rw[<- Ki];exact el
    ·rintro U H' ⟨sm,hl,y,rfl⟩;have et:z.cps.toList.take z.cps.size=z.cps.toList:=by rw[<- hV];exact iH
     rw[et] at hl;have q:=k H' sm;rw[fin c1 c2,<- xO] at q;exact⟨D,z.cps.toList.map yf,rfl,nV (by rw[hl,gB];rfl),q⟩
  ·refine⟨_,rfl,YB ?_⟩;have q:=k H (.refl H);rw[nof (fun q=>c1 (gz q.1))] at q;exact q
 ·obtain⟨t,h1,h2⟩:=WW K (by simp) hk hb;have q:=k H (.refl H);rw[e] at q;exact⟨_,rfl,_,t,_,rfl,h1,h2,_,rfl,YB (YB q)⟩
def K0(K:W.Frag)(a:Adr):Sp:=fun vs H Q _=>Ex2 fun x n=>Cj3 (vs=[x,.int n]) (Kd H x) (Q (.bl (Y3 n x)) H)
theorem Qt:Okd P w K mg base a 2 a.y2 a.z2 cW K0:=fun T hw=>by
 refine okF T.bV.f Qa fun cR A outer s H vs Q E hr h=>?_;obtain⟨x,n,rfl,hk,k⟩:=h;refine⟨_,(Zh (Zm (XQ (ZB T.bz (yo T hw) hr rfl rfl (Za (pv 0) Zb rfl)) (Xt (J5 yj jk Zf (pv 0) (pv 1)))))),?_⟩;refine⟨_,rfl,x,rfl,hk,_,rfl,?_⟩;cases x with
 |int i=>
  refine YB ⟨_,rfl,_,_,rfl,rfl,_,rfl,?_⟩;cases c1:decide (0<=i) with
  |true=>
   refine YB ⟨_,rfl,_,_,rfl,rfl,?_⟩;have e:Y3 n (.int i)=decide (i<n):=by simp only[Y3,c1,iS]
   rw[e] at k;exact k
  |false=>
   have e:Y3 n (.int i)=false:=by simp only[Y3,c1,iE]
   rw[e] at k;exact Z7 k
 |_=>exact Z7 k
def kC(K:W.Frag)(a:Adr):Sp:=fun vs H Q _=>Ex3 fun(p:Addr) (xs:List V) (m:Nat)=>Cj4 (vs=[.ref p,.int (m:Nat)]) (H p=some (.lst xs)) (m<=xs.length) (∀H' l,Zs p H H'->H' p=some (.lst (xs.take (xs.length-m)))->H l=none->H' l=some (.lst (xs.drop (xs.length-m)))->Q (.ref l) H')
theorem kO:Okd P w K mg base a 1 a.y5 a.z5 dk kC:=fun T hw=>by
 refine okX T.bF.f Ui fun cR A outer s H E hr=>?_;intro X
 let d1:Rdg X VC [1]:=⟨_,(Zc (Zn (i:=3) Ui.nd rfl (.inl rfl) (Yd (Xi (K:=K) rfl) (pv 0) (Z9 (pv 2)) YH) rfl (.inl rfl)) (Zc (K6 (pv 0) (pv 2)) (Zh (Zm (pv 3)))))⟩
 intro vs Q h;obtain⟨p,xs,m,rfl,hp,hm,k⟩:=h;refine⟨_,(Zc (Zn (i:=2) Ui.nd rfl (.inl rfl) (ZR Vh (Zl (Zu (K:=K) rfl) rfl T.ay oh (Za (pv 0) Zb rfl)) (pv 1)) rfl (.inl rfl)) d1.2),?_⟩;have e:(xs.length:Int)-(m:Int)=((xs.length-m:Nat):Int):=by omega
 refine⟨_,rfl,.inl ⟨p,_,rfl,.inl (nV hp),_,rfl,_,_,rfl,rfl,?_⟩⟩;refine⟨_,rfl,_,rfl,((xs.length-m:Nat):Int),fI V.int e,p,xs,rfl,nV hp,fun l hl=>?_⟩;rw[Wt _ _ (by omega)];have np:=Zbn hp hl;refine⟨_,rfl,_,rfl,p,xs,xs.length-m,rfl,fI V.int e,Wk hp np,by omega,?_⟩;refine⟨_,rfl,k _ l (Ze.x (Zi hl)).upd Zd hl ?_⟩;rw[Zx (fJ np),Zd]
def kc(K:W.Frag)(a:Adr):Sp:=fun vs H Q _=>Ex2 fun(v:V) (b:Bool)=>Cj3 (vs=[v]) (((b=true/\FmT K H v)\/(b=false/\Fm K H v))) (∀H',Ze H H'->Q (.bl b) H')
theorem Zgk:∀w∈(["signs","Next"]:List Str),w ≠ "yes" /\ w ≠ "sign" /\ w∉(["and","or"]:List Str)/\w ≠ "within" := by decide +kernel
theorem nwx{w:Str}(h:w∉NW):w ≠ "yes" /\ w ≠ "sign" /\ w∉(["and","or"]:List Str)/\w ≠ "within" := by
 refine⟨fun e=>h (by rw[e];simp),fun e=>h (by rw[e];simp),fun e=>h ?_,fun e=>h (by rw[e];simp)⟩;simp at e;rcases e with rfl|rfl<;>simp
theorem kq:Okd P w K mg base a 2 a.y6 a.z6 cT kc:=fun T hw=>by
 refine okX T.bG.f zk fun cR A outer s H E hr=>?_;intro X
 let d1:Rdg X Yp [3,0,0]:=⟨_,(Zh (Zm (XQ (Xb YC (Zl (Zu (K:=K) rfl) rfl T.ay oh (Za (pv 0) Zb rfl)) Zf (ZK _)) (Xt (ZB T.bM (xS T hw) hr rfl rfl (Za (Zv (ZP (K:=K) rfl) (pv 0) Zf (fun _ _=>rfl)) Zb rfl))))))⟩
 let d2:Rdg X Yp [4,0,0]:=⟨_,(Zh (Zm (XQ (Xb YC (Zl (Zu (K:=K) rfl) rfl T.ay oh (Za (pv 0) Zb rfl)) Zf (ZK _)) (Xt (Zl (JV (K:=K) rfl) rfl T.ae nZ (Za (Zv (ZP (K:=K) rfl) (pv 0) Zf (fun _ _=>rfl)) (Za (XU (v:=.ty "tuple") rfl T.aK oi rfl) Zb rfl) rfl))))))⟩
 let d3:Rdg X Yp [5,0,0]:=⟨_,(Zh (Zm (XQ (Xb YC (Zl (Zu (K:=K) rfl) rfl T.ay oh (Za (pv 0) Zb rfl)) Zf (ZK _)) (XQ (ZB T.bz (yo T hw) hr rfl rfl (Za (Zv (ZP (K:=K) rfl) (pv 0) Zf (fun _ _=>rfl)) Zb rfl)) (Xt (J5 yj yj Zf (Zv (ZP (K:=K) rfl) (pv 0) Zf (fun _ _=>rfl)) (yi rfl T.bP)))))))⟩
 let d4:Rdg X Yp [6]:=⟨_,(Zh (Zm (XQ (Xb (Zc5 (K:=K) (P:=a.Pm) rfl hw) (pv 1) (yi (v:=.ref a.D_LENGTHS) rfl ⟨_,T.bY,rfl⟩) (by with_unfolding_all rfl)) (Xt (Xb YC (Zl (Zu (K:=K) rfl) rfl T.ay oh (Za (pv 0) Zb rfl)) (Zv (ZeY (K:=K) (P:=a.Pm) rfl hw) (yi (v:=.ref a.D_LENGTHS) rfl ⟨_,T.bY,rfl⟩) (pv 1) (fun _ _=>rfl)) (ZK _))))))⟩
 let d5:Rdg X Yp [5]:=⟨_,(Zc (Z2 (Zw YC (pv 1) Zz (ZK _)) d3.2 ZD) d4.2)⟩
 let d6:Rdg X Yp [4]:=⟨_,(Zc (Z2 (Zw (WT (K:=K) rfl) (pv 1) (ZX (Za Zz (Za Zz Zb rfl) rfl)) (by with_unfolding_all rfl)) d2.2 ZD) d5.2)⟩
 let d7:Rdg X Yp [3]:=⟨_,(Zc (Z2 (Zw YC (pv 1) Zz (ZK _)) d1.2 ZD) d6.2)⟩
 let d8:Rdg X Yp [2]:=⟨_,(Zc (Z2 (Zw YC (pv 1) Zz (ZK _)) (Zh (Zm (Xb YC (Zl (Zu (K:=K) rfl) rfl T.ay oh (Za (pv 0) Zb rfl)) Zf (ZK _)))) ZD) d7.2)⟩
 let d9:Rdg X Yp [1]:=⟨_,(Zc (Zn (i:=1) zk.nd rfl (.inl rfl) (Zv (ZP (K:=K) rfl) (pv 0) Zf (fun _ _=>rfl)) rfl (.inl rfl)) d8.2)⟩
 intro vs Q h;obtain⟨v,b,rfl,hb,k⟩:=h;refine⟨_,(Zc (Z2 (PW.pt (UC (Xg (Xw (Zl (JV (K:=K) rfl) rfl T.ae nZ (Za (pv 0) (Za (XU (v:=.ty "tuple") rfl T.aK oi rfl) Zb rfl) rfl)))) (UC (Zw YC (Zl (Zu (K:=K) rfl) rfl T.ay oh (Za (pv 0) Zb rfl)) Zf (ZK _)) (VH (Xg (Xw (Zl (Xr (K:=K) rfl "str") rfl T.ae nZ (Za (Zv (ZP (K:=K) rfl) (pv 0) Zf (fun _ _=>rfl)) (Za (XU (v:=.ty "str") rfl T.cL PyProof.Rows.Boot.«str» rfl) Zb rfl) rfl)))))))) (Zh (Zm Y9)) ZD) d9.2),?_⟩;rcases hb with⟨rfl,hT⟩|⟨rfl,hF⟩
 ·obtain⟨ad,us,c,rfl,sh,ok⟩:=hT;obtain⟨xs,e⟩:=sh.tup;obtain⟨ty2,c3,c4⟩:=Vk (K:=K) (H:=H) (Zy c);refine⟨_,rfl,_,rfl,.inl ⟨ad,_,rfl,e,_,rfl,Z7 ?_⟩⟩;refine⟨_,rfl,.inl ⟨ad,_,rfl,.inr e,rfl,_,rfl,Z4 (fun z=>by have:=V.int.inj z;simp at this<;>lia) ?_⟩⟩;refine⟨_,rfl,ad,_,_,_,rfl,rfl,e,Zj (j:=0) rfl,_,ty2,_,rfl,c3,c4,_,rfl,Z7 ?_⟩;refine⟨_,rfl,ad,_,_,_,rfl,rfl,e,Zj (j:=0) rfl,?_⟩;clear e c3 c4 ty2 xs
  revert sh ok
  cases c with
  |yes=>
   intro sh ok;refine⟨_,rfl,rfl,_,rfl,XT rfl ?_⟩;exact⟨_,rfl,.inl ⟨ad,_,rfl,.inr (sh.2),rfl,qD rfl (k _ (.refl _))⟩⟩
  |sign z=>
   intro sh ok;refine⟨_,rfl,rfl,_,rfl,Z4 (fun z=>(by decide +kernel:¬(("sign" : Str) = "yes")) (V.str.inj z)) ?_⟩;refine⟨_,rfl,rfl,_,rfl,XT rfl ?_⟩;refine⟨_,rfl,.inl ⟨ad,_,rfl,.inr (sh.2),rfl,_,rfl,XT rfl ?_⟩⟩;refine⟨_,rfl,ad,_,_,_,rfl,rfl,sh.2,Zj (j:=1) rfl,.str z,rfl,.str z (fK (xT ok.2) (by decide)),fun H' s'=>?_⟩;have e:Xf (.str z)=true:=ok.2;rw[e];exact k H' s'
  |op w=>
   intro sh ok;obtain⟨h1,h2,h3,h4,_⟩:=Kk w (by rcases ok with ok|ok;exact gS _ ok.1;exact gi _ ok.1);refine⟨_,rfl,rfl,_,rfl,Z4 (fun z=>h1 (V.str.inj z)) ?_⟩;refine⟨_,rfl,rfl,_,rfl,Z4 (fun z=>h2 (V.str.inj z)) ?_⟩;refine⟨_,rfl,by rw[ft];simp,fun q hq2=>⟨q,_,rfl,.inr (nX Zd),rfl,rfl,_,rfl,XO (ss:=["and","or"]) h3 ?_⟩⟩;have s1:=Zi (o:=.tup [.str "and",.str "or"]) hq2;have e1:=nW s1 K _ _ sh;generalize upd H q (.tup [.str "and",.str "or"])=H1 at s1 e1 ⊢;refine⟨_,rfl,rfl,_,rfl,Z4 (fun z=>h4 (V.str.inj z)) ?_⟩;obtain⟨i,hm,hi⟩:∃i:Int,(w,i)∈LK/\((us.length+1:Nat):Int)=i:=by
    rcases ok with⟨ok,o2⟩|⟨ok,o2⟩
    ·exact⟨2,lk1 w ok,by lia⟩
    ·exact⟨3,lk2 w ok,by lia⟩
   refine⟨_,rfl,w,_,_,true,rfl,rfl,T.bh,.inl ⟨rfl,i,hm⟩,_,rfl,YB ⟨_,rfl,.inl ⟨ad,_,rfl,.inr (e1),_,rfl,_,w,_,i,rfl,rfl,T.bh,hm,rfl,qD (fI V.int hi) (k _ s1)⟩⟩⟩
  |wit m=>
   intro sh ok;refine⟨_,rfl,rfl,_,rfl,Z4 (fun z=>(by decide +kernel:¬(("within" : Str) = "yes")) (V.str.inj z)) ?_⟩;refine⟨_,rfl,rfl,_,rfl,Z4 (fun z=>(by decide +kernel:¬(("within" : Str) = "sign")) (V.str.inj z)) ?_⟩;refine⟨_,rfl,by rw[ft];simp,fun q hq2=>⟨q,_,rfl,.inr (nX Zd),rfl,rfl,_,rfl,XO (ss:=["and","or"]) (show("within" : Str)∉(["and","or"]:List Str) by decide +kernel) ?_⟩⟩;have s1:=Zi (o:=.tup [.str "and",.str "or"]) hq2;have e1:=nW s1 K _ _ sh;generalize upd H q (.tup [.str "and",.str "or"])=H1 at s1 e1 ⊢;refine⟨_,rfl,rfl,_,rfl,XT rfl ?_⟩;have hu:us.length=2:=ok.2;refine⟨_,rfl,.inl ⟨ad,_,rfl,.inr (e1),rfl,_,rfl,XT (fI V.int (by simp[hu])) ?_⟩⟩;refine⟨_,rfl,ad,_,_,_,rfl,rfl,e1,Zj (j:=1) rfl,.int m,rfl,.int m,_,rfl,YB ?_⟩;exact⟨_,rfl,ad,_,_,_,rfl,rfl,e1,Zj (j:=1) rfl,_,_,rfl,rfl,_,rfl,XT ok.1.1 ⟨_,_,rfl,rfl,qD ok.1.2 (k _ s1)⟩⟩
  |many w=>
   intro sh ok;obtain⟨b,sh1,sh2⟩:=sh;have hw0:w∈(["and","or"]:List Str):=by rcases ok.1 with rfl|rfl<;>simp
   obtain⟨h1,h2,h3,_⟩:=V8 w hw0;refine⟨_,rfl,rfl,_,rfl,Z4 (fun z=>h1 (V.str.inj z)) ?_⟩;refine⟨_,rfl,rfl,_,rfl,Z4 (fun z=>h2 (V.str.inj z)) ?_⟩;refine⟨_,rfl,by rw[ft];simp,fun q hq2=>⟨q,_,rfl,.inr (nX Zd),rfl,rfl,_,rfl,qg (ss:=["and","or"]) hw0 ?_⟩⟩;have s1:=Zi (o:=.tup [.str "and",.str "or"]) hq2;have e1:=nW s1 K _ _ sh1;have e2:=nW s1 K _ _ sh2;generalize upd H q (.tup [.str "and",.str "or"])=H1 at s1 e1 e2 ⊢;exact⟨_,rfl,.inl ⟨ad,_,rfl,.inr (e1),rfl,_,rfl,XT rfl ⟨_,rfl,ad,_,_,_,rfl,rfl,e1,Zj (j:=1) rfl,_,rfl,.inl ⟨b,_,rfl,e2,k _ s1⟩⟩⟩⟩
 cases hF with
 |noT hk ht=>
  obtain⟨t,h1,h2⟩:=WW K (by simp) hk ht;exact⟨_,rfl,_,rfl,.inr ⟨t,h1,h2,_,rfl,YB (k _ (.refl _))⟩⟩
 |@emp ad e=>
  refine⟨_,rfl,_,rfl,.inl ⟨ad,_,rfl,e,_,rfl,Z7 ?_⟩⟩;exact⟨_,rfl,.inl ⟨ad,_,rfl,.inr e,rfl,_,rfl,XT rfl (k _ (.refl _))⟩⟩
 |@noS ad x xs e hk ht=>
  obtain⟨t,h1,h2⟩:=WW K (by simp) hk ht;refine⟨_,rfl,_,rfl,.inl ⟨ad,_,rfl,e,_,rfl,Z7 ?_⟩⟩;refine⟨_,rfl,.inl ⟨ad,_,rfl,.inr e,rfl,_,rfl,Z4 (fun z=>by have:=V.int.inj z;simp at this<;>lia) ?_⟩⟩;exact⟨_,rfl,ad,_,_,_,rfl,rfl,e,Zj (j:=0) rfl,_,t,_,rfl,h1,h2,_,rfl,YB (k _ (.refl _))⟩
 |@yes ad xs e hl=>
  obtain⟨ty2,c3,c4⟩:=Vk (K:=K) (H:=H) "yes";refine⟨_,rfl,_,rfl,.inl ⟨ad,_,rfl,e,_,rfl,Z7 ?_⟩⟩;refine⟨_,rfl,.inl ⟨ad,_,rfl,.inr e,rfl,_,rfl,Z4 (fun z=>by have:=V.int.inj z;simp at this<;>lia) ?_⟩⟩;refine⟨_,rfl,ad,_,_,_,rfl,rfl,e,Zj (j:=0) rfl,_,ty2,_,rfl,c3,c4,_,rfl,Z7 ?_⟩;refine⟨_,rfl,ad,_,_,_,rfl,rfl,e,Zj (j:=0) rfl,?_⟩;refine⟨_,rfl,rfl,_,rfl,XT rfl ?_⟩;exact⟨_,rfl,.inl ⟨ad,_,rfl,.inr e,rfl,qN (fun z=>by have:=V.int.inj z;simp at this<;>lia) (k _ (.refl _))⟩⟩
 |@sgnL ad xs e hl=>
  obtain⟨ty2,c3,c4⟩:=Vk (K:=K) (H:=H) "sign";refine⟨_,rfl,_,rfl,.inl ⟨ad,_,rfl,e,_,rfl,Z7 ?_⟩⟩;refine⟨_,rfl,.inl ⟨ad,_,rfl,.inr e,rfl,_,rfl,Z4 (fun z=>by have:=V.int.inj z;simp at this<;>lia) ?_⟩⟩;refine⟨_,rfl,ad,_,_,_,rfl,rfl,e,Zj (j:=0) rfl,_,ty2,_,rfl,c3,c4,_,rfl,Z7 ?_⟩;refine⟨_,rfl,ad,_,_,_,rfl,rfl,e,Zj (j:=0) rfl,?_⟩;refine⟨_,rfl,rfl,_,rfl,Z4 (fun z=>(by decide +kernel:¬(("sign" : Str) = "yes")) (V.str.inj z)) ?_⟩;refine⟨_,rfl,rfl,_,rfl,XT rfl ?_⟩;exact⟨_,rfl,.inl ⟨ad,_,rfl,.inr e,rfl,_,rfl,Z4 (fun z=>by have:=V.int.inj z;simp at this<;>lia) (k _ (.refl _))⟩⟩
 |@sgn ad x e hk hx=>
  obtain⟨ty2,c3,c4⟩:=Vk (K:=K) (H:=H) "sign";refine⟨_,rfl,_,rfl,.inl ⟨ad,_,rfl,e,_,rfl,Z7 ?_⟩⟩;refine⟨_,rfl,.inl ⟨ad,_,rfl,.inr e,rfl,_,rfl,Z4 (fun z=>by have:=V.int.inj z;simp at this<;>lia) ?_⟩⟩;refine⟨_,rfl,ad,_,_,_,rfl,rfl,e,Zj (j:=0) rfl,_,ty2,_,rfl,c3,c4,_,rfl,Z7 ?_⟩;refine⟨_,rfl,ad,_,_,_,rfl,rfl,e,Zj (j:=0) rfl,?_⟩;refine⟨_,rfl,rfl,_,rfl,Z4 (fun z=>(by decide +kernel:¬(("sign" : Str) = "yes")) (V.str.inj z)) ?_⟩;refine⟨_,rfl,rfl,_,rfl,XT rfl ?_⟩;refine⟨_,rfl,.inl ⟨ad,_,rfl,.inr e,rfl,_,rfl,XT rfl ?_⟩⟩;refine⟨_,rfl,ad,_,_,_,rfl,rfl,e,Zj (j:=1) rfl,x,rfl,hk,fun H' s'=>?_⟩;rw[hx];exact k H' s'
 |@manyL ad w xs hw0 e hl=>
  obtain⟨h1,h2,h3,_⟩:=V8 w hw0;obtain⟨ty2,c3,c4⟩:=Vk (K:=K) (H:=H) w;refine⟨_,rfl,_,rfl,.inl ⟨ad,_,rfl,e,_,rfl,Z7 ?_⟩⟩;refine⟨_,rfl,.inl ⟨ad,_,rfl,.inr e,rfl,_,rfl,Z4 (fun z=>by have:=V.int.inj z;simp at this<;>lia) ?_⟩⟩;refine⟨_,rfl,ad,_,_,_,rfl,rfl,e,Zj (j:=0) rfl,_,ty2,_,rfl,c3,c4,_,rfl,Z7 ?_⟩;refine⟨_,rfl,ad,_,_,_,rfl,rfl,e,Zj (j:=0) rfl,?_⟩;refine⟨_,rfl,rfl,_,rfl,Z4 (fun z=>h1 (V.str.inj z)) ?_⟩;refine⟨_,rfl,rfl,_,rfl,Z4 (fun z=>h2 (V.str.inj z)) ?_⟩;refine⟨_,rfl,by rw[ft];simp,fun q hq2=>⟨q,_,rfl,.inr (nX Zd),rfl,rfl,_,rfl,qg (ss:=["and","or"]) hw0 ?_⟩⟩;have s1:=Zi (o:=.tup [.str "and",.str "or"]) hq2;have e1:=nW s1 K _ _ e;generalize upd H q (.tup [.str "and",.str "or"])=H1 at s1 e1 ⊢;exact⟨_,rfl,.inl ⟨ad,_,rfl,.inr (e1),rfl,_,rfl,Z4 (fun z=>by have:=V.int.inj z;simp at this<;>lia) (k _ s1)⟩⟩
 |@manyN ad w x hw0 e hk ht=>
  obtain⟨h1,h2,h3,_⟩:=V8 w hw0;obtain⟨ty2,c3,c4⟩:=Vk (K:=K) (H:=H) w;refine⟨_,rfl,_,rfl,.inl ⟨ad,_,rfl,e,_,rfl,Z7 ?_⟩⟩;refine⟨_,rfl,.inl ⟨ad,_,rfl,.inr e,rfl,_,rfl,Z4 (fun z=>by have:=V.int.inj z;simp at this<;>lia) ?_⟩⟩;refine⟨_,rfl,ad,_,_,_,rfl,rfl,e,Zj (j:=0) rfl,_,ty2,_,rfl,c3,c4,_,rfl,Z7 ?_⟩;refine⟨_,rfl,ad,_,_,_,rfl,rfl,e,Zj (j:=0) rfl,?_⟩;refine⟨_,rfl,rfl,_,rfl,Z4 (fun z=>h1 (V.str.inj z)) ?_⟩;refine⟨_,rfl,rfl,_,rfl,Z4 (fun z=>h2 (V.str.inj z)) ?_⟩;refine⟨_,rfl,by rw[ft];simp,fun q hq2=>⟨q,_,rfl,.inr (nX Zd),rfl,rfl,_,rfl,qg (ss:=["and","or"]) hw0 ?_⟩⟩;have s1:=Zi (o:=.tup [.str "and",.str "or"]) hq2;have e1:=nW s1 K _ _ e;generalize upd H q (.tup [.str "and",.str "or"])=H1 at s1 e1 ⊢;obtain⟨t,h5,h6⟩:=WW K (by simp) (hk.mono s1) ((ZaZ s1 hk).trans ht);exact⟨_,rfl,.inl ⟨ad,_,rfl,.inr (e1),rfl,_,rfl,XT rfl ⟨_,rfl,ad,_,_,_,rfl,rfl,e1,Zj (j:=1) rfl,_,rfl,.inr ⟨t,h5,h6,k _ s1⟩⟩⟩⟩
 |@witL ad xs e hl=>
  obtain⟨ty2,c3,c4⟩:=Vk (K:=K) (H:=H) "within";refine⟨_,rfl,_,rfl,.inl ⟨ad,_,rfl,e,_,rfl,Z7 ?_⟩⟩;refine⟨_,rfl,.inl ⟨ad,_,rfl,.inr e,rfl,_,rfl,Z4 (fun z=>by have:=V.int.inj z;simp at this<;>lia) ?_⟩⟩;refine⟨_,rfl,ad,_,_,_,rfl,rfl,e,Zj (j:=0) rfl,_,ty2,_,rfl,c3,c4,_,rfl,Z7 ?_⟩;refine⟨_,rfl,ad,_,_,_,rfl,rfl,e,Zj (j:=0) rfl,?_⟩;refine⟨_,rfl,rfl,_,rfl,Z4 (fun z=>(by decide +kernel:¬(("within" : Str) = "yes")) (V.str.inj z)) ?_⟩;refine⟨_,rfl,rfl,_,rfl,Z4 (fun z=>(by decide +kernel:¬(("within" : Str) = "sign")) (V.str.inj z)) ?_⟩;refine⟨_,rfl,by rw[ft];simp,fun q hq2=>⟨q,_,rfl,.inr (nX Zd),rfl,rfl,_,rfl,XO (ss:=["and","or"]) (show("within" : Str)∉(["and","or"]:List Str) by decide +kernel) ?_⟩⟩;have s1:=Zi (o:=.tup [.str "and",.str "or"]) hq2;have e1:=nW s1 K _ _ e;generalize upd H q (.tup [.str "and",.str "or"])=H1 at s1 e1 ⊢;refine⟨_,rfl,rfl,_,rfl,XT rfl ?_⟩;exact⟨_,rfl,.inl ⟨ad,_,rfl,.inr (e1),rfl,_,rfl,Z4 (fun z=>by have:=V.int.inj z;simp at this<;>lia) (k _ s1)⟩⟩
 |@witN ad x y z e hk hx=>
  obtain⟨ty2,c3,c4⟩:=Vk (K:=K) (H:=H) "within";refine⟨_,rfl,_,rfl,.inl ⟨ad,_,rfl,e,_,rfl,Z7 ?_⟩⟩;refine⟨_,rfl,.inl ⟨ad,_,rfl,.inr e,rfl,_,rfl,Z4 (fun z=>by have:=V.int.inj z;simp at this<;>lia) ?_⟩⟩;refine⟨_,rfl,ad,_,_,_,rfl,rfl,e,Zj (j:=0) rfl,_,ty2,_,rfl,c3,c4,_,rfl,Z7 ?_⟩;refine⟨_,rfl,ad,_,_,_,rfl,rfl,e,Zj (j:=0) rfl,?_⟩;refine⟨_,rfl,rfl,_,rfl,Z4 (fun z=>(by decide +kernel:¬(("within" : Str) = "yes")) (V.str.inj z)) ?_⟩;refine⟨_,rfl,rfl,_,rfl,Z4 (fun z=>(by decide +kernel:¬(("within" : Str) = "sign")) (V.str.inj z)) ?_⟩;refine⟨_,rfl,by rw[ft];simp,fun q hq2=>⟨q,_,rfl,.inr (nX Zd),rfl,rfl,_,rfl,XO (ss:=["and","or"]) (show("within" : Str)∉(["and","or"]:List Str) by decide +kernel) ?_⟩⟩;have s1:=Zi (o:=.tup [.str "and",.str "or"]) hq2;have e1:=nW s1 K _ _ e;generalize upd H q (.tup [.str "and",.str "or"])=H1 at s1 e1 ⊢;refine⟨_,rfl,rfl,_,rfl,XT rfl ?_⟩;refine⟨_,rfl,.inl ⟨ad,_,rfl,.inr (e1),rfl,_,rfl,XT rfl ?_⟩⟩;refine⟨_,rfl,ad,_,_,_,rfl,rfl,e1,Zj (j:=1) rfl,x,rfl,hk.mono s1,?_⟩;rw[hx];exact⟨_,rfl,Z7 (k _ s1)⟩
 |@witM ad m y z e hm=>
  obtain⟨ty2,c3,c4⟩:=Vk (K:=K) (H:=H) "within";refine⟨_,rfl,_,rfl,.inl ⟨ad,_,rfl,e,_,rfl,Z7 ?_⟩⟩;refine⟨_,rfl,.inl ⟨ad,_,rfl,.inr e,rfl,_,rfl,Z4 (fun z=>by have:=V.int.inj z;simp at this<;>lia) ?_⟩⟩;refine⟨_,rfl,ad,_,_,_,rfl,rfl,e,Zj (j:=0) rfl,_,ty2,_,rfl,c3,c4,_,rfl,Z7 ?_⟩;refine⟨_,rfl,ad,_,_,_,rfl,rfl,e,Zj (j:=0) rfl,?_⟩;refine⟨_,rfl,rfl,_,rfl,Z4 (fun z=>(by decide +kernel:¬(("within" : Str) = "yes")) (V.str.inj z)) ?_⟩;refine⟨_,rfl,rfl,_,rfl,Z4 (fun z=>(by decide +kernel:¬(("within" : Str) = "sign")) (V.str.inj z)) ?_⟩;refine⟨_,rfl,by rw[ft];simp,fun q hq2=>⟨q,_,rfl,.inr (nX Zd),rfl,rfl,_,rfl,XO (ss:=["and","or"]) (show("within" : Str)∉(["and","or"]:List Str) by decide +kernel) ?_⟩⟩;have s1:=Zi (o:=.tup [.str "and",.str "or"]) hq2;have e1:=nW s1 K _ _ e;generalize upd H q (.tup [.str "and",.str "or"])=H1 at s1 e1 ⊢;refine⟨_,rfl,rfl,_,rfl,XT rfl ?_⟩;refine⟨_,rfl,.inl ⟨ad,_,rfl,.inr (e1),rfl,_,rfl,XT rfl ?_⟩⟩;refine⟨_,rfl,ad,_,_,_,rfl,rfl,e1,Zj (j:=1) rfl,.int m,rfl,.int m,_,rfl,YB ?_⟩;refine⟨_,rfl,ad,_,_,_,rfl,rfl,e1,Zj (j:=1) rfl,_,_,rfl,rfl,_,rfl,?_⟩
  by_cases h0:0<=m
  ·exact XT h0 ⟨_,_,rfl,rfl,qN (fun h5=>hm ⟨h0,h5⟩) (k _ s1)⟩
  ·exact Z4 h0 (k _ s1)
 |@word ad w xs e hw1=>
  obtain⟨h1,h2,h3,h4⟩:=Zgk w hw1;obtain⟨ty2,c3,c4⟩:=Vk (K:=K) (H:=H) w;refine⟨_,rfl,_,rfl,.inl ⟨ad,_,rfl,e,_,rfl,Z7 ?_⟩⟩;refine⟨_,rfl,.inl ⟨ad,_,rfl,.inr e,rfl,_,rfl,Z4 (fun z=>by have:=V.int.inj z;simp at this<;>lia) ?_⟩⟩;refine⟨_,rfl,ad,_,_,_,rfl,rfl,e,Zj (j:=0) rfl,_,ty2,_,rfl,c3,c4,_,rfl,Z7 ?_⟩;refine⟨_,rfl,ad,_,_,_,rfl,rfl,e,Zj (j:=0) rfl,?_⟩;refine⟨_,rfl,rfl,_,rfl,Z4 (fun z=>h1 (V.str.inj z)) ?_⟩;refine⟨_,rfl,rfl,_,rfl,Z4 (fun z=>h2 (V.str.inj z)) ?_⟩;refine⟨_,rfl,by rw[ft];simp,fun q hq2=>⟨q,_,rfl,.inr (nX Zd),rfl,rfl,_,rfl,XO (ss:=["and","or"]) h3 ?_⟩⟩;have s1:=Zi (o:=.tup [.str "and",.str "or"]) hq2;have e1:=nW s1 K _ _ e;generalize upd H q (.tup [.str "and",.str "or"])=H1 at s1 e1 ⊢;refine⟨_,rfl,rfl,_,rfl,Z4 (fun z=>h4 (V.str.inj z)) ?_⟩;have hn:W.nsIn K a.D_LENGTHS w=some none:=by
   simp at hw1;rcases hw1 with rfl|rfl
   ·exact T.nk_signs
   ·exact T.nk_Next
  exact⟨_,rfl,w,_,_,false,rfl,rfl,T.bh,.inr ⟨rfl,hn⟩,_,rfl,Z7 (k _ s1)⟩
 |@lens ad w i xs e hw1 hm hi=>
  obtain⟨h1,h2,h3,h4⟩:=nwx hw1;obtain⟨ty2,c3,c4⟩:=Vk (K:=K) (H:=H) w;refine⟨_,rfl,_,rfl,.inl ⟨ad,_,rfl,e,_,rfl,Z7 ?_⟩⟩;refine⟨_,rfl,.inl ⟨ad,_,rfl,.inr e,rfl,_,rfl,Z4 (fun z=>by have:=V.int.inj z;simp at this<;>lia) ?_⟩⟩;refine⟨_,rfl,ad,_,_,_,rfl,rfl,e,Zj (j:=0) rfl,_,ty2,_,rfl,c3,c4,_,rfl,Z7 ?_⟩;refine⟨_,rfl,ad,_,_,_,rfl,rfl,e,Zj (j:=0) rfl,?_⟩;refine⟨_,rfl,rfl,_,rfl,Z4 (fun z=>h1 (V.str.inj z)) ?_⟩;refine⟨_,rfl,rfl,_,rfl,Z4 (fun z=>h2 (V.str.inj z)) ?_⟩;refine⟨_,rfl,by rw[ft];simp,fun q hq2=>⟨q,_,rfl,.inr (nX Zd),rfl,rfl,_,rfl,XO (ss:=["and","or"]) h3 ?_⟩⟩;have s1:=Zi (o:=.tup [.str "and",.str "or"]) hq2;have e1:=nW s1 K _ _ e;generalize upd H q (.tup [.str "and",.str "or"])=H1 at s1 e1 ⊢;refine⟨_,rfl,rfl,_,rfl,Z4 (fun z=>h4 (V.str.inj z)) ?_⟩;exact⟨_,rfl,w,_,_,true,rfl,rfl,T.bh,.inl ⟨rfl,i,hm⟩,_,rfl,YB ⟨_,rfl,.inl ⟨ad,_,rfl,.inr (e1),_,rfl,_,w,_,i,rfl,rfl,T.bh,hm,rfl,qN (fun z=>hi (V.int.inj z)) (k _ s1)⟩⟩⟩
def Ka(K:W.Frag)(a:Adr):Sp:=fun vs H Q _=>Ex4 fun(v:V) (ad:Addr) (us:List V) (c:Lb)=>Cj5 (vs=[v]) (v=.ref ad) (UJ K H ad us c) (Zc0 c us.length) (∀H' b,Ze H H'->SqT K H' b us->Q (.ref b) H')
theorem Zce(x y:V)(vs:List V):Vi (x::y::vs) (some 2) none=vs:=by
 have:=Wt (x::y::vs) 2 (by simp);exact this
theorem yP(x:V)(vs:List V):Vi (x::vs) (some 1) none=vs:=by
 have:=Wt (x::vs) 1 (by simp);exact this
theorem yE{k:Int}(h:0<k)(hn:(k:Int)<=n):¬(HT.sIx n 0 (some k)=0/\HT.sIx n n none=n):=by
 rintro⟨h1,_⟩;have h2:¬(k<0):=by lia
 unfold HT.sIx at h1;simp only[h2,gG] at h1
 lia
theorem yk:Okd P w K mg base a 1 a.y7 a.z7 cY Ka:=fun T hw=>by
 refine okX T.bA.f yn fun cR A outer s H E hr=>?_;intro X
 let d1:Rdg X Wp [3]:=⟨_,(Zc (Z2 (Zw YC (pv 1) Zz (ZK _)) (Zh (Zm (Yd (W9 (K:=K) rfl) (pv 0) (Z9 Zf) YH))) ZD) (Zh (Zm (Yd (W9 (K:=K) rfl) (pv 0) (Z9 Zf) YH))))⟩
 let d2:Rdg X Wp [2]:=⟨_,(Zc (Z2 (Zw (WT (K:=K) rfl) (pv 1) (ZX (Za Zz (Za Zz Zb rfl) rfl)) (by with_unfolding_all rfl)) (Zh (Zm (Zv (ZP (K:=K) rfl) (pv 0) Zf (fun _ _=>rfl)))) ZD) d1.2)⟩
 let d3:Rdg X Wp [1]:=⟨_,(Zc (Z2 (Zw (WT (K:=K) rfl) (pv 1) (ZX (Za Zz (Za Zz Zb rfl) rfl)) (by with_unfolding_all rfl)) (Zh (Zm (ZX Zb))) ZD) d2.2)⟩
 intro vs Q h;obtain⟨v,ad,us,c,rfl,rfl,sh,ok,k⟩:=h;refine⟨_,(Zc (Zn (i:=1) yn.nd rfl (.inl rfl) (Zv (ZP (K:=K) rfl) (pv 0) Zf (fun _ _=>rfl)) rfl (.inl rfl)) d3.2),?_⟩;obtain⟨xs,e⟩:=sh.tup;refine⟨_,rfl,ad,_,_,_,rfl,rfl,e,Zj (j:=0) rfl,?_⟩;refine⟨_,rfl,by rw[ft];simp,fun q hq2=>⟨q,_,rfl,.inr (nX Zd),rfl,rfl,_,rfl,?_⟩⟩;have s1:=Zi (o:=.tup [.str "yes",.str "sign"]) hq2;generalize upd H q (.tup [.str "yes",.str "sign"])=H1 at s1 ⊢;have sh1:=sh.mono (nW s1);clear e xs sh
 revert sh1 ok
 cases c with
 |yes=>
  intro ok sh;refine qg (ss:=["yes","sign"]) (by decide +kernel) ⟨by rw[ft];simp,fun r hr=>?_⟩;have h0:=sh.1;subst h0;exact k _ r (s1.trans (Zi hr)) (nX Zd)
 |sign z=>
  intro ok sh;refine qg (ss:=["yes","sign"]) (show("sign" : Str)∈(["yes","sign"]:List Str) by decide +kernel) ⟨by rw[ft];simp,fun r hr=>?_⟩;have h0:=sh.1;subst h0;exact k _ r (s1.trans (Zi hr)) (nX Zd)
 |op w=>
  intro ok sh;obtain⟨h1,h2,h3,h4,h5⟩:=Kk w (by rcases ok with ok|ok;exact gS _ ok.1;exact gi _ ok.1);refine XO (ss:=["yes","sign"]) h5 ?_;refine⟨_,rfl,by rw[ft];simp,fun q3 hq3=>⟨q3,_,rfl,.inr (nX Zd),rfl,rfl,_,rfl,XO (ss:=["and","or"]) h3 ?_⟩⟩;have s2:=Zi (o:=.tup [.str "and",.str "or"]) hq3;generalize upd H1 q3 (.tup [.str "and",.str "or"])=H2 at s2 ⊢;refine⟨_,rfl,rfl,_,rfl,Z4 (fun z=>h4 (V.str.inj z)) ?_⟩;refine⟨_,rfl,_,rfl,ad,_,rfl,(nW s2 K _ _ sh),yE (by decide) (by simp;lia),fun r hr=>?_⟩;rw[yP];exact k _ r ((s1.trans s2).trans (Zi hr)) (nX Zd)
 |wit m=>
  intro ok sh;refine XO (ss:=["yes","sign"]) (show("within" : Str)∉(["yes","sign"]:List Str) by decide +kernel) ?_;refine⟨_,rfl,by rw[ft];simp,fun q3 hq3=>⟨q3,_,rfl,.inr (nX Zd),rfl,rfl,_,rfl,XO (ss:=["and","or"]) (show("within" : Str)∉(["and","or"]:List Str) by decide +kernel) ?_⟩⟩;have s2:=Zi (o:=.tup [.str "and",.str "or"]) hq3;generalize upd H1 q3 (.tup [.str "and",.str "or"])=H2 at s2 ⊢;refine⟨_,rfl,rfl,_,rfl,XT rfl ?_⟩;refine⟨_,rfl,_,rfl,ad,_,rfl,(nW s2 K _ _ sh),yE (by decide) (by simp;lia),fun r hr=>?_⟩;rw[Zce];exact k _ r ((s1.trans s2).trans (Zi hr)) (nX Zd)
 |many w=>
  intro ok sh;have hw0:w∈(["and","or"]:List Str):=by rcases ok.1 with rfl|rfl<;>simp
  obtain⟨h1,h2,h3,h4,_⟩:=V8 w hw0;obtain⟨b,sh1,sh2⟩:=sh;refine XO (ss:=["yes","sign"]) h4 ?_;refine⟨_,rfl,by rw[ft];simp,fun q3 hq3=>⟨q3,_,rfl,.inr (nX Zd),rfl,rfl,_,rfl,qg (ss:=["and","or"]) hw0 ?_⟩⟩;have s2:=Zi (o:=.tup [.str "and",.str "or"]) hq3;generalize upd H1 q3 (.tup [.str "and",.str "or"])=H2 at s2 ⊢;exact⟨_,rfl,ad,_,_,_,rfl,rfl,(nW s2 K _ _ sh1),Zj (j:=1) rfl,k _ b (s1.trans s2) (nW s2 K _ _ sh2)⟩
theorem zG:∀ts:List Tr,ts.length<=(Yr ts).length
 |[]=>by simp[Yr]
 |t::r=>by
  have:=zG r;rw[Yr,fu,gp,W4 t,fu];simp
  lia
def xw(K:W.Frag)(a:Adr):Sp:=fun vs H Q _=>Ex3 fun(v:V) (t:Tr) (n:Nat)=>Cj4 (vs=[v]) (At K n H v t) ((post t).length<=2000000) (∀H' l us,Ze H H'->H l=none->H' l=some (.lst us)->AtL K n H' us (post t)->Q (.ref l) H')
theorem xx:Okd P w K mg base a 3 a.y8 a.z8 cY xw:=fun T hw=>by
 refine okX T.bm.f Wd fun cR A outer s H E hr=>?_;intro X
 let d1:Rdg X Ys [2,0,3]:=⟨_,(Zh (Yq (XR gv PySem.F.slot_list_extend PySem.F.type_list_extend (KF (K:=K) rfl) (pv 2) (Za (ZB T.bA (yk T hw) hr rfl rfl (Za (pv 3) Zb rfl)) Zb rfl)) rfl))⟩
 let d2:Rdg X Ys [2,0,2]:=⟨_,(Zc (Yq (XR gv gH gI Z1 (pv 1) (Za (pv 3) Zb rfl)) rfl) d1.2)⟩
 let d3:Rdg X Ys [2,0,1]:=⟨_,(Zc (Z2 (Xg (Xw (ZB T.bG (kq T hw) hr rfl rfl (Za (pv 3) Zb rfl)))) (Zh JJ) ZD) d2.2)⟩
 let d4:Rdg X Ys [2,0,0]:=⟨_,(Zc (Zn (i:=3) Wd.nd rfl (.inl rfl) (KH gv PySem.F.slot_list_pop PySem.F.type_list_pop ZcU (pv 2)) rfl (.inl rfl)) d3.2)⟩
 let d5:Rdg X Ys [2]:=⟨_,(Zc (VW gw (UY (K:=K) rfl (pv 2) (fun _=>rfl)) d4.2) (Zh (Zm (yA (K:=K) rfl (pv 1) (Z9 (Vx We Zf))))))⟩
 let d6:Rdg X Ys [1]:=⟨_,(Zc (Zn (i:=2) Wd.nd rfl (.inl rfl) (ZY (Za (pv 0) Zb rfl)) rfl (.inl rfl)) d5.2)⟩
 intro vs Q h;obtain⟨v,t,n,rfl,hat,hz,k⟩:=h;refine⟨_,(Zc (Zn (i:=1) Wd.nd rfl (.inl rfl) (ZY Zb) rfl (.inl rfl)) d6.2),?_⟩;cases n with
 |zero=>exact hat.elim
 |succ n=>
  refine⟨by decide,fun F hF=>?_⟩;have s1:=Zi (o:=.lst []) hF;have e1:(upd H F (.lst [])) F=some (.lst []):=Zd;generalize upd H F (.lst [])=H1 at s1 e1 ⊢;refine⟨_,rfl,by rw[ft];simp,fun W hW=>?_⟩;have s2:=Zi (o:=.lst [v]) hW;have e2:(upd H1 W (.lst [v])) W=some (.lst [v]):=Zd;have nFW:F≠W:=Zbn e1 hW;have e1':=s2 _ _ e1;generalize upd H1 W (.lst [v])=H2 at s2 e2 e1' ⊢;have hW0:H W=none:=s1.free hW;have at2:=hat.mono (nW (s1.trans s2));refine⟨fun m U H'=>∃(z:Option V) (ws fs:List V) (tw tf:List Tr),U=[some v,some (.ref F),some (.ref W),z]/\Ze H H'/\H' F=some (.lst fs)/\H' W=some (.lst ws)/\AtL K (n+1) H' ws tw/\AtL K (n+1) H' fs tf/\tf++(Yr tw).reverse=(post t).reverse/\m=(Yr tw).length,⟨_,_,[v],[],[t],[],rfl,s1.trans s2,e1',e2,AtL.one at2,AtL.nil,by rw[vS];rfl,rfl⟩,?_⟩;rintro m U H3 ⟨z,ws,fs,tw,tf,rfl,s3,hF3,hW3,aw,af,he,rfl⟩;have hlen:tf.length+(Yr tw).length=(post t).length:=by have:=fI List.length he;simpa using this
  have hwl:=zG tw;have hwl2:=aw.1;have hfl2:=af.1;refine⟨_,rfl,!ws.isEmpty,?tru,?_⟩
  case tru=>exact .inl ⟨_,nV hW3,rfl⟩
  cases hws:ws.isEmpty with
  |true=>
   have e0:ws=[]:=List.isEmpty_iff.mp hws;subst e0;have et:tw=[]:=gC.mp hwl2.symm;subst et;refine Z7 ?_;rw[Yr,List.reverse_nil,ip] at he;refine⟨_,rfl,_,rfl,_,rfl,F,_,rfl,rfl,nV hF3,fun p hp=>?_⟩;have ar:=af.rev;rw[he,List.reverse_reverse] at ar;exact k _ p _ (s3.trans (Zi hp)) (s3.free hp) Zd (ar.mono (nW (Zi hp)))
  |false=>
   have hne:ws≠[]:=fun e=>by rw[e] at hws;cases hws
   obtain⟨us,u,rs,r,ew,etw,aus,au⟩:=aw.last hne;subst ew etw;refine YB ?_;refine⟨fun U H'=>∃(z:Option V) (ws fs:List V) (tw tf:List Tr),U=[some v,some (.ref F),some (.ref W),z]/\Ze H H'/\H' F=some (.lst fs)/\H' W=some (.lst ws)/\AtL K (n+1) H' ws tw/\AtL K (n+1) H' fs tf/\tf++(Yr tw).reverse=(post t).reverse/\(Yr tw).length<(Yr (rs++[r])).length,?_,?_⟩
   ·rintro σ' H' ⟨z',ws',fs',tw',tf',rfl,a1,a2,a3,a4,a5,a6,a7⟩;exact⟨_,a7,z',ws',fs',tw',tf',rfl,a1,a2,a3,a4,a5,a6,rfl⟩
   refine⟨_,rfl,.inl ⟨rfl,_,nV hW3⟩,W,_,u,rfl,rfl,hW3,by simp,?_⟩;rw[List.dropLast_concat];have x4:Zs W H3 (upd H3 W (.lst us)):=(Zs.refl H3).upd;have t4:YX H3 (upd H3 W (.lst us)):=Zs.tup x4 hW3;have hF4:(upd H3 W (.lst us)) F=some (.lst fs):=Wk hF3 nFW;have hW4:(upd H3 W (.lst us)) W=some (.lst us):=Zd;have s4:Ze H (upd H3 W (.lst us)):=((Ze.x s3).upd).same hW0;generalize upd H3 W (.lst us)=H4 at x4 t4 hF4 hW4 s4 ⊢;have au4:=au.mono t4;refine⟨_,rfl,u,true,rfl,.inl ⟨rfl,au4.fmT⟩,fun H5 s5=>⟨_,rfl,Z7 ?_⟩⟩;have hF5:=s5 _ _ hF4;have hW5:=s5 _ _ hW4;have tur:=Za0 rs r;have tl:=fI List.length tur;simp at tl;refine⟨_,rfl,.inl ⟨rfl,_,nV hF5⟩,_,rfl,F,_,_,rfl,rfl,hF5,by rw[ft];lia,?_⟩;have x6:Zs F H5 (upd H5 F (.lst (fs++[u]))):=(Zs.refl H5).upd;have t6:YX H5 (upd H5 F (.lst (fs++[u]))):=Zs.tup x6 hF5;have hF6:(upd H5 F (.lst (fs++[u]))) F=some (.lst (fs++[u])):=Zd;have hW6:(upd H5 F (.lst (fs++[u]))) W=some (.lst us):=Wk hW5 (fJ nFW);have s6:Ze H (upd H5 F (.lst (fs++[u]))):=((Ze.x (s4.trans s5)).upd).same hF;generalize upd H5 F (.lst (fs++[u]))=H6 at x6 t6 hF6 hW6 s6 ⊢;have t46:YX H3 H6:=t4.trans ((nW s5).trans t6);obtain⟨ad7,ks7,eu7,sh7,ok7,hl7,hq7⟩:=au.mono t46;refine⟨_,rfl,.inl ⟨rfl,_,nV hW6⟩,_,rfl,u,ad7,ks7,r.lb,rfl,eu7,sh7,by rw[hl7];exact ok7.b,fun H7 b s7 eb=>?_⟩;have aL:AtL K n H7 ks7 r.ks:=AtL.mono (nW s7) ⟨hl7,hq7⟩;have hW7:=s7 _ _ hW6;have hkl:=aL.1;have hll:=zG (rs++r.ks);simp at hll;have hul:=aus.1;refine⟨W,b,_,_,rfl,rfl,hW7,eb,by rw[ft];lia,?_⟩;have x8:Zs W H7 (upd H7 W (.lst (us++ks7))):=(Zs.refl H7).upd;have t8:YX H7 (upd H7 W (.lst (us++ks7))):=Zs.tup x8 hW7;have t38:YX H3 (upd H7 W (.lst (us++ks7))):=t46.trans ((nW s7).trans t8);refine⟨_,us++ks7,fs++[u],rs++r.ks,tf++[r],rfl,((Ze.x (s6.trans s7)).upd).same hW0,Wk (s7 _ _ hF6) nFW,Zd,(aus.mono t38).app ((aL.le (iF n)).mono t8),(af.mono t38).app (AtL.one (au.mono t38)),?_,?_⟩
   ·rw[tur] at he;rw[iG];exact he
   ·lia
def iV(is:List Nat):List V:=is.map fun(i:Nat)=>V.int ((i:Nat):Int)
theorem Vm(is:List Nat):(iV is).length=is.length:=fi _
theorem Zbo(is:List Nat):(nK is).map kV=iV is:=by unfold nK iV;rw[gB];rfl
theorem Zbh{n:Nat}{a:Addr}{ks:List Tr}(sh:UJ K H a vs c)(hl:vs.length=ks.length)(ok:XN c ks.length)(hc:isC (.node c ks)=true)(hne:ks≠[]):Zy c ≠ "within" /\ (∃x xs,SqT K H a (.str (Zy c)::x::xs))/\WV c is=.inr (Zy c)::nK is:=by
 have hk:0<ks.length:=iJ.mpr hne;cases c with
 |yes=>exact absurd (gC.mp ok) hne
 |sign z=>exact absurd (gC.mp ok.1) hne
 |wit m=>rw[YV] at hc;unfold Us at hc;simp at hc
 |op w=>
  cases vs with
  |nil=>simp at hl;lia
  |cons x xs=>exact⟨(Xh w (Vq ok)).2.2.1,⟨x,xs,sh⟩,rfl⟩
 |many w=>
  obtain⟨b,h1,h2⟩:=sh;exact⟨by rcases ok.1 with rfl|rfl<;>decide +kernel,⟨.ref b,[],h1⟩,rfl⟩
theorem ZaY{a:Addr}{ks:List Tr}(sh:UJ K H a vs c)(ok:XN c ks.length)(hc:isC (.node c ks)=true)(hne:ks=[]):SqT K H a ((WV c []).map kV):=by
 subst hne;cases c with
 |yes=>exact sh.2
 |sign z=>exact sh.2
 |wit m=>rw[YV] at hc;unfold Us at hc;simp at hc
 |op w=>rcases ok with⟨_,h⟩|⟨_,h⟩<;>cases h
 |many w=>rw[YV] at hc;unfold Us at hc;simp at hc
theorem lb8(ok:XN c n):n<=8:=by
 cases c with
 |yes=>have h:n=0:=ok;lia
 |sign s=>have h:n=0:=ok.1;lia
 |op w=>rcases ok with o|o;have h:n=1:=o.2;lia;have h:n=2:=o.2;lia
 |wit m=>have h:n=2:=ok.2;lia
 |many w=>exact ok.2
theorem Zdt{k:Nat}(h:k<n):¬(HT.sIx n 0 none=0/\HT.sIx n n (some (k:Int))=n):=by
 rintro⟨_,h1⟩;have h2:¬((k:Int)<0):=by lia
 unfold HT.sIx at h1;simp only[h2,gG] at h1
 lia
def Jj(K:W.Frag)(a:Adr):Sp:=fun vs H Q _=>Ex5 fun(v:V) (t:Tr) (n:Nat) (l:Addr) (is:List Nat)=>Cj6 (vs=[v,.ref l]) (At K n H v t) (isC t=true) (H l=some (.lst (iV is))) (is.length=t.ks.length) (∀H' b,Ze H H'->SqT K H' b ((WV t.lb is).map kV)->Q (.ref b) H')
theorem JK:Okd P w K mg base a 1 a.y9 a.z9 dm Jj:=fun T hw=>by
 refine okX T.bQ.f yh fun cR A outer s H E hr=>?_;intro X
 let d1:Rdg X Up [1]:=⟨_,(Zc (Zn (i:=2) yh.nd rfl (.inl rfl) (JH (Zw YC (Zv (ZP (K:=K) rfl) (pv 0) Zf (fun _ _=>rfl)) Zz (ZK _)) (Yd (W9 (K:=K) rfl) (pv 0) YH (Z9 Zf)) (Yd (W9 (K:=K) rfl) (pv 0) YH (Z9 Zf))) rfl (.inl rfl)) (Zh (Zm (ZR (xV (K:=K) rfl) (pv 2) (ZO (Yu (K:=K) rfl) rfl T.aK oi (Za (pv 1) Zb rfl))))))⟩
 intro vs Q h;obtain⟨v,t,n,l,is,rfl,hat,hc,hl,hil,k⟩:=h;refine⟨_,(Zc (Z2 (Xg (UY (K:=K) rfl (pv 1) (fun _=>rfl))) (Zh (Zm (pv 0))) ZD) d1.2),?_⟩;cases n with
 |zero=>exact hat.elim
 |succ n=>
  obtain⟨ad,us,rfl,sh,ok,hul,hq⟩:=hat;have hc':isC (.node t.lb t.ks)=true:=by rw[<- Tr.eta];exact hc
  refine⟨_,rfl,!(iV is).isEmpty,.inl ⟨_,nV hl,rfl⟩,?_⟩;cases his:(iV is).isEmpty with
  |true=>
   have e0:iV is=[]:=List.isEmpty_iff.mp his;have e1:is=[]:=gC.mp (by rw[<- Vm,e0];rfl);subst e1;refine YB ⟨_,rfl,k H ad (fun _ _ e=>e) (ZaY sh ok hc' (gC.mp hil.symm))⟩
  |false=>
   have hne:t.ks≠[]:=fun e=>by
    have:is=[]:=gC.mp (by rw[hil,e];rfl);rw[this] at his;cases his
   obtain⟨hw,⟨x,xs,ea⟩,hk⟩:=Zbh (n:=n) (is:=is) sh hul ok hc' hne;refine Z7 ?_;refine⟨_,rfl,ad,_,_,_,rfl,rfl,ea,Zj (j:=0) rfl,rfl,_,rfl,Z4 (fun z=>hw (V.str.inj z)) ?_⟩;have h8:=lb8 ok;refine⟨_,rfl,_,rfl,ad,_,rfl,ea,Zdt (k:=1) (by simp),fun q hq=>?_⟩;have ec:Vi (V.str (Zy t.lb)::x::xs) none (some 1)=[V.str (Zy t.lb)]:=QS (V.str (Zy t.lb)::x::xs) 1 (by simp);rw[ec];have s1:=Zi (o:=.tup [V.str (Zy t.lb)]) hq;have e1:(upd H q (.tup [V.str (Zy t.lb)])) q=some (.tup [V.str (Zy t.lb)]):=Zd;generalize upd H q (.tup [V.str (Zy t.lb)])=H1 at s1 e1 ⊢;refine⟨_,rfl,_,rfl,l,_,rfl,.inl ⟨nV (s1 _ _ hl),fun b hb=>?_⟩⟩;have s2:=Zi (o:=.tup (iV is)) hb;have e2:(upd H1 b (.tup (iV is))) b=some (.tup (iV is)):=Zd;generalize upd H1 b (.tup (iV is))=H2 at s2 e2 ⊢;refine⟨q,b,_,_,rfl,rfl,nX (s2 _ _ e1),nX e2,by simp,by rw[Vm,ft];simp;lia,fun z=>?_,fun _ c hc2=>?_⟩
   ·rw[z] at his;cases his
   ·refine k _ c ((s1.trans s2).trans (Zi hc2)) ?_;rw[hk,fP,Zbo];exact nX Zd
theorem Zgg(v1 v2:V):Yz "rows" v2 ([("parts",v1)]:List (Str×V))=([("parts",v1),("rows",v2)]:List (Str×V)):=by simp only[Yz,if_neg (by decide +kernel:¬(("parts" : Str) = "rows"))]
theorem Zgq(v1 v2 v3:V):Yz "numbers" v3 ([("parts",v1),("rows",v2)]:List (Str×V))=([("parts",v1),("rows",v2),("numbers",v3)]:List (Str×V)):=by simp only[Yz,if_neg (by decide +kernel:¬(("parts" : Str) = "numbers")),if_neg (by decide +kernel:¬(("rows" : Str) = "numbers"))]
def vz(K:W.Frag)(a:Adr):Sp:=fun vs H Q _=>Ex2 fun r dx=>Cj3 (vs=[.ref r]) (H r=some (.ins a.C_Table dx [])) (∀H' P R D,Zs r H H'->H P=none->H R=none->H D=none->r≠P->r≠R->r≠D->TbK K a.Pm a.C_Table H' r P R D []->Q .non H')
theorem vB:Okd P w K mg base a 1 a.y10 a.z10 cU vz:=fun T hw=>by
 refine okF T.bu.f vn fun cR A outer s H vs Q E hr h=>?_;obtain⟨r,dx,rfl,hr0,k⟩:=h;refine⟨_,(Zc (qF (pv 0) (ZY Zb) rfl) (Zc (qF (pv 0) (ZY Zb) rfl) (Zh (qF (pv 0) (Zd1 (Pm:=a.Pm) hw) rfl)))),?_⟩;refine⟨by decide,fun P hP=>⟨_,rfl,r,_,dx,[],rfl,Zi hP _ _ hr0,T.av,T.bc,by decide,?_⟩⟩;have nP:P≠r:=fun z=>by rw[z,hr0] at hP;cases hP
 have s1:=Zi (o:=.lst []) hP;have e1:(upd H P (.lst [])) P=some (.lst []):=Zd;generalize upd H P (.lst [])=H1 at s1 e1 ⊢;have x2:Zs r H (upd H1 r (.ins a.C_Table dx (Yz "parts" (.ref P) []))):=(Ze.x s1).upd;have hr2:(upd H1 r (.ins a.C_Table dx (Yz "parts" (.ref P) []))) r=some (.ins a.C_Table dx [("parts",.ref P)]):=by rw[Zd,Zgs]
 have e2:(upd H1 r (.ins a.C_Table dx (Yz "parts" (.ref P) []))) P=some (.lst []):=Wk e1 nP;generalize upd H1 r (.ins a.C_Table dx (Yz "parts" (.ref P) []))=H2 at x2 hr2 e2 ⊢;refine⟨by decide,fun R hR=>⟨_,rfl,r,_,dx,_,rfl,Zi hR _ _ hr2,T.av,T.aE,by simp,?_⟩⟩;have nR:R≠r:=fun z=>by rw[z,hr2] at hR;cases hR
 have nRP:R≠P:=fun z=>by rw[z,e2] at hR;cases hR
 have s3:=Zi (o:=.lst []) hR;have e3:(upd H2 R (.lst [])) R=some (.lst []):=Zd;have e3P:=s3 _ _ e2;generalize upd H2 R (.lst [])=H3 at s3 e3 e3P ⊢;have x4:Zs r H (upd H3 r (.ins a.C_Table dx (Yz "rows" (.ref R) [("parts",.ref P)]))):=(x2.trans (Ze.x s3)).upd;have hr4:(upd H3 r (.ins a.C_Table dx (Yz "rows" (.ref R) [("parts",.ref P)]))) r=some (.ins a.C_Table dx [("parts",.ref P),("rows",.ref R)]):=by rw[Zd,Zgg]
 have e4P:(upd H3 r (.ins a.C_Table dx (Yz "rows" (.ref R) [("parts",.ref P)]))) P=some (.lst []):=Wk e3P nP;have e4R:(upd H3 r (.ins a.C_Table dx (Yz "rows" (.ref R) [("parts",.ref P)]))) R=some (.lst []):=Wk e3 nR;generalize upd H3 r (.ins a.C_Table dx (Yz "rows" (.ref R) [("parts",.ref P)]))=H4 at x4 hr4 e4P e4R ⊢;refine fun D hD=>⟨_,rfl,r,_,dx,_,rfl,Zi hD _ _ hr4,T.av,T.ao,by simp,?_⟩;have nD:D≠r:=fun z=>by rw[z,hr4] at hD;cases hD
 have s5:=Zi (o:=DxO a.Pm D []) hD;have e5:(upd H4 D (DxO a.Pm D [])) D=some (DxO a.Pm D []):=Zd;have e5P:=s5 _ _ e4P;have e5R:=s5 _ _ e4R;generalize upd H4 D (DxO a.Pm D [])=H5 at s5 e5 e5P e5R ⊢;refine k _ P R D ((x4.trans (Ze.x s5)).upd) hP (x2.free nR hR) (x4.free nD hD) (fJ nP) (fJ nR) (fJ nD) ⟨⟨dx,by rw[Zd,Zgq]⟩,⟨1,[],Wk e5P nP,AtL.nil⟩,⟨[],Wk e5R nR,rfl,fun e h=>(by cases h),fun i t e h=>(by simp at h),Wk e5 nD⟩,by simp,fJ nRP⟩
def zo(K:W.Frag)(a:Adr):Sp:=fun vs H Q _=>Zd6 fun r P R D ps v t n b ks=>Cj7 (vs=[.ref r,v,.ref b]) (TbK K a.Pm a.C_Table H r P R D ps) (At K n H v t) (SqT K H b (ks.map kV)) (UD ps t ks) (ps.length<4000) (∀H' (i:Nat),VA P R D H H'->TbK K a.Pm a.C_Table H' r P R D (Vc ps t)->(Vc ps t)[i]?=some t->Q (.int (i:Int)) H')
theorem Zfz{t:Tr}(h:At K n H v t):XN t.lb t.ks.length:=by
 cases n with
 |zero=>exact h.elim
 |succ n=>obtain⟨_,_,_,_,ok,_⟩:=h;exact ok
theorem lkP:([("parts",v1),("rows",v2),("numbers",v3)]:List (Str×V)).lookup ("parts" : Str)=some v1:=rfl
theorem lkR:([("parts",v1),("rows",v2),("numbers",v3)]:List (Str×V)).lookup ("rows" : Str)=some v2:=by
 have e:(("rows" : Str) == "parts")=false:=by decide +kernel
 rw[gm,e];rfl
theorem lkD:([("parts",v1),("rows",v2),("numbers",v3)]:List (Str×V)).lookup ("numbers" : Str)=some v3:=by
 have e:(("numbers" : Str) == "parts")=false:=by decide +kernel
 have e2:(("numbers" : Str) == "rows")=false:=by decide +kernel
 rw[gm,e]
 show List.lookup _ _=_
 rw[gm,e2];rfl
theorem qY:Okd P w K mg base a 1 a.y12 a.z12 dn zo:=fun T hw=>by
 refine okX T.aH.f zm fun cR A outer s H E hr=>?_;intro X
 let d1:Rdg X Y5 [0,0,1]:=⟨_,(Zc (Yq (XR gv gH gI Z1 (Wa (K:=K) rfl (pv 0) rfl) (Za (pv 1) Zb rfl)) rfl) (Zh (Yq (XR gv gH gI Z1 (Wa (K:=K) rfl (pv 0) rfl) (Za (pv 2) Zb rfl)) rfl)))⟩
 let d2:Rdg X Y5 [0,0,0]:=⟨_,(Zc (ZdJ (K:=K) (Pm:=a.Pm) rfl hw (YA.units1 hr) (Wa (K:=K) rfl (pv 0) rfl) (pv 2) (Zl (Zu (K:=K) rfl) rfl T.ay oh (Za (Wa (K:=K) rfl (pv 0) rfl) Zb rfl)) rfl) d1.2)⟩
 intro vs Q h;obtain⟨r,P,R,D,ps,v,t,n,b,ks,rfl,tb,hat,hb,hrow,hsz,k⟩:=h;refine⟨_,(Zc (Z2 (ZfG (ZaE (K:=K) (Pm:=a.Pm) rfl hw (YA.units1 hr) (pv 2) (Wa (K:=K) rfl (pv 0) rfl))) d2.2 ZD) (Zh (Zm (ZdU (K:=K) (Pm:=a.Pm) rfl hw (YA.units1 hr) (Wa (K:=K) rfl (pv 0) rfl) (pv 2) (fun _ _=>rfl))))),?_⟩;obtain⟨⟨dx,ho⟩,⟨np,pv,hP,aP⟩,⟨rows,hR,rl,hrt,hrr,hD⟩,nd,pr⟩:=id tb;have rkl:(rows.map (·.1)).length=ps.length:=by rw[fi];exact rl
 obtain⟨knd,known⟩:=Q9 (rks:=rows.map (·.1)) nd rkl aP.oks fun i t ks h1 h2=>by
  rw[fw] at h2;obtain⟨e,he,rfl⟩:=iw.mp h2;exact hrr i t e h1 he
 obtain⟨kin,kout⟩:=known (Zfz hat) hrow;have hkeys:∀e∈Vv 0 rows,SqT K H e.2.1 (e.1.map kV):=fun e he=>hrt _ (xR he);refine⟨_,rfl,_,rfl,r,_,dx,_,_,rfl,ho,T.av,T.ao,lkD,D,_,rfl,⟨_,ks,b,hD,rfl,hb,hkeys,rfl⟩,?_⟩;rw[jP]
 by_cases ht:t∈ps
 ·obtain⟨i,hi,e⟩:=gu ht;have hi':ps[i]?=some t:=by rw[<- e];exact fj hi
  have hv:=Qc (n:=0) knd (kin i hi');rw[lU] at hv;rw[hv];refine⟨_,rfl,Z7 ?_⟩;exact⟨_,rfl,r,_,dx,_,_,rfl,ho,T.av,T.ao,lkD,_,rfl,D,_,rfl,⟨_,ks,b,hD,rfl,hb,hkeys,by rw[jP,hv]⟩,k H i .refl (by rw[Uq ht];exact tb) (by rw[Uq ht];exact hi')⟩
 ·have hv:=Zb1 (n:=0) (kout ht);rw[hv];refine⟨_,rfl,YB ?_⟩;have aR:=aP.1;refine⟨_,rfl,r,_,dx,_,_,rfl,ho,T.av,T.aE,lkR,.inl ⟨R,_,rfl,.inl (nV hR),_,rfl,r,_,dx,_,_,rfl,ho,T.av,T.ao,lkD,_,rfl,D,_,rfl,⟨_,ks,b,hD,rfl,hb,hkeys,by rw[jP];exact hv,by rw[JQ,ft];lia,rfl⟩,?_⟩⟩;have ep:Vv 0 rows++[(ks,b,V.int (((rows.map fun e=>V.ref e.2).length:Nat):Int))]=Vv 0 (rows++[(ks,b)]):=by
   rw[jn,fi,lU]
  rw[ep];have nPD:P≠D:=VE hP hD (by intro z;cases z);have nRD:R≠D:=VE hR hD (by intro z;cases z);have nrD:r≠D:=VE ho hD (by intro z;cases z);have ho1:(upd H D (DxO a.Pm D (Vv 0 (rows++[(ks,b)])))) r=_:=Wk ho nrD;have hP1:(upd H D (DxO a.Pm D (Vv 0 (rows++[(ks,b)])))) P=_:=Wk hP nPD;have hR1:(upd H D (DxO a.Pm D (Vv 0 (rows++[(ks,b)])))) R=_:=Wk hR nRD;have hD1:(upd H D (DxO a.Pm D (Vv 0 (rows++[(ks,b)])))) D=_:=Zd;have s1:VA P R D H (upd H D (DxO a.Pm D (Vv 0 (rows++[(ks,b)])))):=fun c o _ _ n3 e=>by rw[Zx n3];exact e
  generalize upd H D (DxO a.Pm D (Vv 0 (rows++[(ks,b)])))=H1 at ho1 hP1 hR1 hD1 s1 ⊢;refine⟨_,rfl,r,_,dx,_,_,rfl,ho1,T.av,T.bc,lkP,.inl ⟨rfl,_,nV hP1⟩,_,rfl,P,_,_,rfl,rfl,hP1,by rw[ft];lia,?_⟩;have nrP:r≠P:=VE ho hP (by intro z;cases z);have ho2:(upd H1 P (.lst (pv++[v]))) r=_:=Wk ho1 nrP;have hP2:(upd H1 P (.lst (pv++[v]))) P=_:=Zd;have hR2:(upd H1 P (.lst (pv++[v]))) R=_:=Wk hR1 (fJ pr);have hD2:(upd H1 P (.lst (pv++[v]))) D=_:=Wk hD1 (fJ nPD);have s2:VA P R D H (upd H1 P (.lst (pv++[v]))):=fun c o n1 n2 n3 e=>by rw[Zx n1];exact s1 _ _ n1 n2 n3 e
  generalize upd H1 P (.lst (pv++[v]))=H2 at ho2 hP2 hR2 hD2 s2 ⊢;refine⟨_,rfl,r,_,dx,_,_,rfl,ho2,T.av,T.aE,lkR,.inl ⟨rfl,_,nV hR2⟩,_,rfl,R,_,_,rfl,rfl,hR2,by rw[fi,ft];lia,?_⟩;have nrR:r≠R:=VE ho hR (by intro z;cases z);have er:(rows.map fun e=>V.ref e.2)++[V.ref b]=(rows++[(ks,b)]).map fun e=>V.ref e.2:=by rw[fQ];rfl
  rw[er];have ho3:(upd H2 R (.lst ((rows++[(ks,b)]).map fun e=>V.ref e.2))) r=_:=Wk ho2 nrR;have hP3:(upd H2 R (.lst ((rows++[(ks,b)]).map fun e=>V.ref e.2))) P=_:=Wk hP2 pr;have hR3:(upd H2 R (.lst ((rows++[(ks,b)]).map fun e=>V.ref e.2))) R=_:=Zd;have hD3:(upd H2 R (.lst ((rows++[(ks,b)]).map fun e=>V.ref e.2))) D=_:=Wk hD2 (fJ nRD);have s3:VA P R D H (upd H2 R (.lst ((rows++[(ks,b)]).map fun e=>V.ref e.2))):=fun c o n1 n2 n3 e=>by rw[Zx n2];exact s2 _ _ n1 n2 n3 e
  generalize upd H2 R (.lst ((rows++[(ks,b)]).map fun e=>V.ref e.2))=H3 at ho3 hP3 hR3 hD3 s3 ⊢;have u3:YX H H3:=tb.t s3;have eA:Vc ps t=ps++[t]:=Vo ht;have kn2:((rows++[(ks,b)]).map (·.1)).Nodup:=by
   rw[fQ,li];exact⟨knd,by simp,fun x hx y hy e=>kout ht (by
    have:y=ks:=by simpa using hy
    rw[this] at e;rw[<- e];exact hx)⟩
  have rat:((rows++[(ks,b)]).map (·.1))[ps.length]?=some ks:=by rw[fQ,<- rkl,gf (fh _),gN];rfl
  have hv2:=Qc (n:=0) kn2 rat;rw[lU] at hv2;have hpt:(ps++[t])[ps.length]?=some t:=by rw[gf (fh _),gN];rfl
  have hrt3:∀e∈rows++[(ks,b)],SqT K H3 e.2 (e.1.map kV):=fun e he=>by
   rcases fG.mp he with he|he
   ·exact u3 _ _ _ (hrt e he)
   ·rw[fM.mp he];exact u3 _ _ _ hb
  refine⟨_,rfl,r,_,dx,_,_,rfl,ho3,T.av,T.ao,lkD,_,rfl,D,V.int ((ps.length:Nat):Int),rfl,⟨_,ks,b,hD3,rfl,u3 _ _ _ hb,fun e he=>hrt3 _ (xR he),by rw[jP];exact hv2.symm⟩,k H3 ps.length s3 ?_ (by rw[eA];exact hpt)⟩;rw[eA];have old:∀{α:Type}{xs:List α}{y x:α}{i:Nat},(xs++[y])[i]?=some x->(i<xs.length/\xs[i]?=some x)\/(i=xs.length/\x=y):=fun {α xs y x i} h=>by
   by_cases hi:i<xs.length
   ·rw[fW hi] at h;exact .inl ⟨hi,h⟩
   ·have hj:=(fD.mp h).1;rw[fu,gn] at hj;have hij:i=xs.length:=by lia
    subst hij;rw[gf (fh _),gN] at h;exact .inr ⟨rfl,by simpa using h.symm⟩
  refine⟨⟨dx,ho3⟩,⟨max np n,pv++[v],hP3,((aP.le (Nat.le_max_left _ _)).mono u3).app (AtL.one ((hat.le (Nat.le_max_right _ _)).mono u3))⟩,⟨rows++[(ks,b)],hR3,by simp[rl],hrt3,fun i x e h1 h2=>?_,hD3⟩,?_,pr⟩
  ·rcases old h1 with⟨l1,h1⟩|⟨l1,h1⟩
   ·rcases old h2 with⟨l2,h2⟩|⟨l2,h2⟩
    ·exact(hrr i x e h1 h2).more
    ·lia
   ·rcases old h2 with⟨l2,h2⟩|⟨l2,h2⟩
    ·lia
    ·subst h1 h2;exact hrow.more
  ·rw[<- eA];exact yO nd
theorem zI:∀(n:Nat) (t:Tr),psz t<=n->Y1 Tr.node t=t
 |0,t,h=>by have:=Xv t;omega
 |n+1,t,h=>by
  rw[Vb];have e:t.ks.map (Y1 Tr.node)=t.ks:=by
   have:t.ks.map (Y1 Tr.node)=t.ks.map id:=mi fun k hk=>zI n k (by have:=YG hk;omega);rw[this,List.map_id]
  rw[e];exact(Tr.eta t).symm
theorem jp:∀{ks:List Tr}{s:Tr},s∈Yr ks->∃k∈ks,s∈post k
 |[],s,h=>by rw[Yr] at h;cases h
 |t::r,s,h=>by
  rw[Yr,fG] at h;rcases h with h|h
  ·exact⟨t,by simp,h⟩
  ·obtain⟨k,hk,hs⟩:=jp h;exact⟨k,fS _ hk,hs⟩
theorem V3:∀(n:Nat) {t s:Tr},psz t<=n->isC t=true->s∈post t->isC s=true
 |0,t,s,h,_,_=>by have:=Xv t;omega
 |n+1,t,s,h,hc,hs=>by
  rw[W4,fG] at hs;rcases hs with hs|hs
  ·obtain⟨k,hk,hs⟩:=jp hs;exact V3 n (by have:=YG hk;omega) (xK hc k hk) hs
  ·rw[fM.mp hs];exact hc
theorem lkN{m:Str}(h1:(m==("parts" : Str))=false)(h2:(m==("rows" : Str))=false)(h3:(m==("numbers" : Str))=false):([("parts",v1),("rows",v2),("numbers",v3)]:List (Str×V)).lookup m=none:=by
 rw[gm,h1]
 show List.lookup _ _=_
 rw[gm,h2]
 show List.lookup _ _=_
 rw[gm,h3];rfl
theorem Js{ps0 L:List Tr}{x:Tr}(h:L[i]?=some x):Zk ps0 (L.take (i+1))=Vc (Zk ps0 (L.take i)) x:=by
 rw[lD,h,Yh];rfl
theorem ZcE{x s:Tr}{m:Nat}(h:ps[m]?=some s):(Vc ps x)[m]?=some s:=by
 obtain⟨B,e⟩:=J6 ps x;rw[e,fW (fD.mp h).1];exact h
def qA(K:W.Frag)(a:Adr):Sp:=fun vs H Q _=>Ex8 fun r P R D ps0 v t n=>Cj7 (vs=[.ref r,v]) (TbK K a.Pm a.C_Table H r P R D ps0) (At K n H v t) (isC t=true) (psz t<=2000000) ((Zk ps0 (post t)).length<4000) (∀H' (i:Nat),VA P R D H H'->TbK K a.Pm a.C_Table H' r P R D (Zk ps0 (post t))->(Zk ps0 (post t))[i]?=some t->Q (.int (i:Int)) H')
theorem Vj:Okd P w K mg base a 4 a.y11 a.z11 dq qA:=fun T hw=>by
 refine okX T.al.f Xd fun cR A outer s H E hr=>?_;intro X
 let d1:Rdg X Yy [1,0,1]:=⟨_,(Zh (Yq (XR gv gH gI Z1 (pv 2) (Za (WC (pv 0) T.av T.aH.m (qY T hw) (rmL hr rfl) T.aH.n .nil YK (Za (pv 3) (Za (ZB T.bQ (JK T hw) hr rfl rfl (Za (pv 3) (Za (pv 4) Zb rfl) rfl)) Zb rfl) rfl)) Zb rfl)) rfl))⟩
 let d2:Rdg X Yy [1,0,0]:=⟨_,(Zc (Zn (i:=4) Xd.nd rfl (.inl rfl) (ZB T.bF (kO T hw) hr rfl rfl (Za (pv 2) (Za (Zl (Zu (K:=K) rfl) rfl T.ay oh (Za (ZB T.bA (yk T hw) hr rfl rfl (Za (pv 3) Zb rfl)) Zb rfl)) Zb rfl) rfl)) rfl (.inl rfl)) d1.2)⟩
 let d3:Rdg X Yy [1]:=⟨_,(Zc (XF gw rfl (ZE (K:=K) rfl (ZB T.bm (xx T hw) hr rfl rfl (Za (pv 1) Zb rfl))) (Zo (i:=3) Xd.nd rfl (.inl rfl)) d2.2) (Zh (Zm (Zv (Zr (K:=K) rfl) (pv 2) Zf (fun _ _=>rfl)))))⟩
 intro vs Q h;obtain⟨r,P,R,D,ps0,v,t,n,rfl,tb,hat,hc,hz,hfew,k⟩:=h;refine⟨_,(Zc (Zn (i:=2) Xd.nd rfl (.inl rfl) (ZY Zb) rfl (.inl rfl)) d3.2),?_⟩;cases n with
 |zero=>exact hat.elim
 |succ n=>
  refine⟨by decide,fun F hF=>?_⟩;have s1:=Zi (o:=.lst []) hF;have e1:(upd H F (.lst [])) F=some (.lst []):=Zd;generalize upd H F (.lst [])=H1 at s1 e1 ⊢;have hz':(post t).length<=2000000:=hz;refine⟨_,rfl,v,t,n+1,rfl,hat.mono (nW s1),by omega,fun H2 L us s2 L0 eL aL=>⟨L,rfl,⟨_,nV eL⟩,?_⟩⟩;have nLF:L≠F:=fun e=>by rw[e,e1] at L0;cases L0
  have hF2:=s2 _ _ e1;obtain⟨ok0,run0⟩:=Zdh (F:=Tr.node) t;rw[zI _ t (fh _)] at run0;have hul:=aL.1;obtain⟨n0,pv0,hP0,_⟩:=tb.pl;obtain⟨rows0,hR0,_,_,_,hD0⟩:=tb.rl;have nPF:P≠F:=ZW hP0 hF;have nRF:R≠F:=ZW hR0 hF;have nDF:D≠F:=ZW hD0 hF;have hL1:∀c o,H c=some o->c≠L:=fun c o e z=>by rw[z] at e;rw[s1 _ _ e] at L0;cases L0
  have nPL:=hL1 _ _ hP0;have nRL:=hL1 _ _ hR0;have nDL:=hL1 _ _ hD0;have tb2:=(tb.mono s1).mono s2
  let J1:Nat->L2.St->Hp->Prop:=fun i U H'=>Ex4 fun(z1 z2:Option V) (is:List Nat) (st:List Tr)=>ZcM (U=[some (.ref r),some v,some (.ref F),z1,z2]) (VA P R D H H') (H' L=some (.lst us)) (AtL K (n+1) H' us (post t)) (TbK K a.Pm a.C_Table H' r P R D (Zk ps0 ((post t).take i))) (H' F=some (.lst (iV is))) (is.length=st.length) ((∀(j:Nat) s m,st[j]?=some s->is[j]?=some m->(Zk ps0 ((post t).take i))[m]?=some s)) (xh Tr.node st ((post t).drop i)) (jF Tr.node st ((post t).drop i)=[t]) (st.length<=i)
  refine Zcz (K:=K) (xs:=us) J1 ?_ ?_ ?_ ?_
  ·exact⟨_,_,[],[],rfl,Ze.b (s1.trans s2),eL,aL,tb2,hF2,rfl,fun j s m h=>by simp at h,ok0,run0,fh _⟩
  ·rintro i U H' hi ⟨z1,z2,is,st,rfl,_,hL',_⟩;exact nV hL'
  ·rintro i x U H3 hx ⟨z1,z2,is,st,rfl,b3,hL3,aL3,tb3,hF3,hil,hnum,ok3,run3,hst⟩;have hi:i<us.length:=(fD.mp hx).1;have hi2:i<(post t).length:=by omega
   have hxi:(post t)[i]?=some (post t)[i]:=fj hi2;have at3:=aL3.2 i x _ hx hxi;have hcq:isC (post t)[i]=true:=V3 _ (fh _) hc (fN hi2);have etk:=Js (ps0:=ps0) hxi;have hpl:(Zk ps0 ((post t).take i)).length<4000:=by
    have e1:Zk ps0 (post t)=Zk (Zk ps0 ((post t).take i)) ((post t).drop i):=by rw[<- Yh,nQ]
    obtain⟨B,e2⟩:=Wo ((post t).drop i) (Zk ps0 ((post t).take i));rw[e1,e2,fu] at hfew;omega
   rw[List.drop_eq_getElem_cons hi2] at ok3 run3;obtain⟨⟨okl,okd⟩,okr⟩:=ok3;have runr:jF Tr.node (qf Tr.node st (post t)[i]) ((post t).drop (i+1))=[t]:=run3;have kidE:(post t)[i].ks.map (Y1 Tr.node)=(post t)[i].ks:=by
    have:(post t)[i].ks.map (Y1 Tr.node)=(post t)[i].ks.map id:=mi fun k hk=>zI _ k (fh _);rw[this,List.map_id]
   rw[kidE] at okd;generalize (post t)[i]=q at at3 okl okd okr runr hcq etk hxi kidE;generalize hps:Zk ps0 ((post t).take i)=ps at tb3 hnum etk hpl;obtain⟨ad7,ks7,eu7,sh7,ok7,hl7,hq7⟩:=id at3;refine⟨_,rfl,_,rfl,x,ad7,ks7,q.lb,rfl,eu7,sh7,by rw[hl7];exact ok7.b,fun H4 b s4 eb=>.inl ⟨b,_,rfl,.inr eb,?_⟩⟩;have hF4:=s4 _ _ hF3;have ivl:=Vm is;refine⟨F,iV is,ks7.length,rfl,hF4,by rw[ivl];omega,fun H5 l x5 hF5 l0 hl5=>?_⟩;have nlF:l≠F:=fun e=>by rw[e,hF4] at l0;cases l0
   have u45:YX H4 H5:=Zs.tup x5 hF4;have u35:YX H3 H5:=(nW s4).trans u45;have tb5:TbK K a.Pm a.C_Table H5 r P R D ps:=(tb3.mono s4).monoX x5 hF4 nPF nRF;rw[show(iV is).length-ks7.length=st.length-q.ks.length by omega] at hF5 hl5;have ed:(iV is).drop (st.length-q.ks.length)=iV (is.drop (st.length-q.ks.length)):=by unfold iV;rw[mV]
   have ek:(iV is).take (st.length-q.ks.length)=iV (is.take (st.length-q.ks.length)):=by unfold iV;rw[iL]
   rw[ed] at hl5;rw[ek] at hF5;have at5:=at3.mono u35;obtain⟨dx5,ho5⟩:=tb5.obj;have hisl:(is.drop (st.length-q.ks.length)).length=q.ks.length:=by rw[g6];omega
   have hrow:UD ps q (WV q.lb (is.drop (st.length-q.ks.length))):=by
    refine⟨_,hisl,fun j kk m h1 h2=>?_,rfl⟩;rw[<- okd,mO] at h1;rw[mO] at h2;exact hnum _ _ _ h1 h2
   refine⟨_,rfl,.inl ⟨rfl,_,nV hF5⟩,_,rfl,r,dx5,_,rfl,ho5,lkN (by decide +kernel) (by decide +kernel) (by decide +kernel),_,rfl,_,rfl,_,rfl,x,q,n+1,l,_,rfl,at5,hcq,hl5,hisl,fun H6 b6 s6 e6=>⟨r,P,R,D,ps,x,q,n+1,b6,_,rfl,tb5.mono s6,at5.mono (nW s6),e6,hrow,by omega,fun H7 m b7 tb7 hm=>?_⟩⟩;have hF7:=b7 _ _ (fJ nPF) (fJ nRF) (fJ nDF) (s6 _ _ hF5);refine⟨F,_,_,rfl,rfl,hF7,by rw[Vm,fZ,ft];omega,?_⟩;have x8:Zs F H7 (upd H7 F (.lst (iV (is.take (st.length-q.ks.length))++[.int (m:Int)]))):=(Zs.refl H7).upd;have u8:YX H7 (upd H7 F (.lst (iV (is.take (st.length-q.ks.length))++[.int (m:Int)]))):=Zs.tup x8 hF7;have tb8:=tb7.monoX x8 hF7 nPF nRF;have e8:(upd H7 F (.lst (iV (is.take (st.length-q.ks.length))++[.int (m:Int)]))) F=some (.lst (iV (is.take (st.length-q.ks.length)++[m]))):=by
    rw[Zd];unfold iV;rw[fQ];rfl
   have b8:VA P R D H (upd H7 F (.lst (iV (is.take (st.length-q.ks.length))++[.int (m:Int)]))):=fun c o n1 n2 n3 e=>by
    have nc:c≠F:=ZW e hF;rw[Zx nc];exact b7 _ _ n1 n2 n3 (s6 _ _ (x5 _ _ nc (s4 _ _ (b3 _ _ n1 n2 n3 e))))
   have hL8:(upd H7 F (.lst (iV (is.take (st.length-q.ks.length))++[.int (m:Int)]))) L=some (.lst us):=Wk (b7 _ _ (fJ nPL) (fJ nRL) (fJ nDL) (s6 _ _ (x5 _ _ nLF (s4 _ _ hL3)))) nLF;have u38:YX H3 (upd H7 F (.lst (iV (is.take (st.length-q.ks.length))++[.int (m:Int)]))):=(u35.trans (nW s6)).trans (((tb5.mono s6).t b7).trans u8);generalize upd H7 F (.lst (iV (is.take (st.length-q.ks.length))++[.int (m:Int)]))=H8 at x8 u8 tb8 e8 b8 hL8 u38 ⊢;rw[<- etk] at tb8 hm;refine⟨_,_,is.take (st.length-q.ks.length)++[m],qf Tr.node st q,rfl,b8,hL8,aL3.mono u38,tb8,e8,?_,?_,okr,runr,?_⟩
   ·unfold qf;rw[fu,fu,fZ,fZ,hil];rfl
   ·intro j s m' h1 h2;unfold qf at h1;have hll:(st.take (st.length-q.ks.length)).length=(is.take (st.length-q.ks.length)).length:=by rw[fZ,fZ,hil]
    by_cases hj:j<(is.take (st.length-q.ks.length)).length
    ·rw[fW (by rw[hll];exact hj)] at h1;rw[fW hj] at h2;have hj2:j<st.length-q.ks.length:=by rw[fZ] at hj;omega
     rw[mE hj2] at h1 h2;rw[etk];exact ZcE (hnum j s m' h1 h2)
    ·rw[gf (by rw[hll];omega),hll] at h1;rw[gf (by omega)] at h2;have hj0:j-(is.take (st.length-q.ks.length)).length=0:=by
      have:=(fD.mp h2).1;rw[gn] at this;omega
     rw[hj0] at h1 h2;have e1:m=m':=by simpa using h2
     have e2:Tr.node q.lb (st.drop (st.length-q.ks.length))=s:=by simpa using h1
     rw[okd,<- Tr.eta] at e2;rw[<- e1,<- e2];exact hm
   ·unfold qf;rw[fu,fZ];simp;omega
  rintro U H3 ⟨z1,z2,is,st,rfl,b3,hL3,aL3,tb3,hF3,hil,hnum,ok3,run3,hst⟩;rw[hul,List.drop_eq_nil_of_le (fh _)] at run3;rw[hul,mI (fh _)] at tb3 hnum;have est:st=[t]:=run3;subst est;obtain⟨m,rfl⟩:∃m,is=[m]:=by
   match is,hil with
   |[m],_=>exact⟨m,rfl⟩
  exact⟨_,rfl,F,_,_,_,rfl,rfl,nV hF3,Zj (j:=0) rfl,k H3 m b3 tb3 (hnum 0 t m rfl rfl)⟩
def zR(c:Lb)(is:List Nat):List Nat:=match c with
 |.op w=>if w = "some" then[] else is
 |_=>is
theorem ZbY(ok:XN c is.length)(nw:∀m,c≠.wit m):(Zy c∈(["yes","sign","some"]:List Str)/\zR c is=[])\/(Zy c∉(["yes","sign","some"]:List Str)/\(WV c is).map kV=.str (Zy c)::iV is/\zR c is=is):=by
 cases c with
 |yes=>exact .inl ⟨by simp[Zy],gC.mp ok⟩
 |sign z=>exact .inl ⟨by simp[Zy],gC.mp ok.1⟩
 |wit m=>exact absurd rfl (nw m)
 |op w=>
  by_cases h:w = "some"
  ·subst h;exact .inl ⟨by simp[Zy],by show(if("some" : Str) = "some" then[] else is)=[];rw[if_pos rfl]⟩
  ·have wa:=Xh w (Vq ok);refine .inr ⟨?_,by rw[<- Zbo];rfl,if_neg h⟩;simp only[Zy,fF,gO,gQ];exact fun z=>z.elim wa.1 fun z=>z.elim wa.2.1 h
 |many w=>
  refine .inr ⟨?_,by rw[<- Zbo];rfl,rfl⟩;rcases ok.1 with rfl|rfl<;>decide +kernel
def Zb2(K:W.Frag)(a:Adr):Sp:=fun vs H Q _=>Ex3 fun(b:Addr) (c:Lb) (is:List Nat)=>Cj5 (vs=[.ref b]) (SqT K H b ((WV c is).map kV)) (XN c is.length) ((∀m,c≠.wit m)) (∀H' b',Ze H H'->SqT K H' b' (iV (zR c is))->Q (.ref b') H')
theorem ZcA:Okd P w K mg base a 1 a.y14 a.z14 ["row"] Zb2:=fun T hw=>by
 refine okF T.ck.f Zcp fun cR A outer s H vs Q E hr h=>?_;obtain⟨b,c,is,rfl,hb,ok,nw,k⟩:=h;refine⟨_,(Zh (Zm (JH (Zw (WT (K:=K) rfl) (Zv (ZP (K:=K) rfl) (pv 0) Zf (fun _ _=>rfl)) (ZX (Zq Zz (Zq Zz (Zq Zz Zb rfl) rfl) rfl)) (by with_unfolding_all rfl)) (ZX Zb) (Yd (W9 (K:=K) rfl) (pv 0) (Z9 Zf) YH)))),?_⟩;obtain⟨r0,ekr⟩:=xn (c:=c) (is:=is);have hb0:SqT K H b (.str (Zy c)::r0.map kV):=by rw[ekr] at hb;exact hb
 refine⟨_,rfl,b,_,_,_,rfl,rfl,hb0,Zj (j:=0) rfl,by rw[ft];simp,fun q hq=>⟨q,_,rfl,.inr (nX Zd),rfl,rfl,_,rfl,?_⟩⟩;have s1:=Zi (o:=.tup [.str "yes",.str "sign",.str "some"]) hq;generalize upd H q (.tup [.str "yes",.str "sign",.str "some"])=H1 at s1 ⊢;rcases ZbY ok nw with⟨h1,h2⟩|⟨h1,h2,h3⟩
 ·refine qg (ss:=["yes","sign","some"]) h1 ⟨by rw[ft];simp,fun e he=>?_⟩;rw[h2] at k;exact k _ e (s1.trans (Zi he)) (nX Zd)
 ·refine XO (ss:=["yes","sign","some"]) h1 ?_;rw[h2] at hb;refine⟨_,rfl,_,rfl,b,_,rfl,(nW s1 _ _ _ hb),yE (by decide) (by simp;lia),fun e he=>?_⟩;rw[yP];rw[h3] at k;exact k _ e (s1.trans (Zi he)) (nX Zd)
theorem jX{l:Expr}(hK:X.K=K)(hl:PE X l tl):PI X tg l (Zgt K tl):=by subst hK;exact Zff hl
def U6(ps:List Tr)(is:List Nat)(ts:List Tr):Prop:=is.length=ts.length/\∀(j:Nat) m s,is[j]?=some m->ts[j]?=some s->ps[m]?=some s
theorem VR{m:Nat}{s:Tr}:U6 ps (m::is) (s::ts)↔ps[m]?=some s/\U6 ps is ts:=by
 constructor
 ·rintro⟨h1,h2⟩;exact⟨h2 0 m s rfl rfl,by simpa using h1,fun j m' s' e1 e2=>h2 (j+1) m' s' (by simpa using e1) (by simpa using e2)⟩
 ·rintro⟨h0,h1,h2⟩;refine⟨by simp[h1],fun j m' s' e1 e2=>?_⟩;cases j with
  |zero=>
   have a:m=m':=by simpa using e1
   have b:s=s':=by simpa using e2
   rw[<- a,<- b];exact h0
  |succ j=>exact h2 j m' s' (by simpa using e1) (by simpa using e2)
theorem Zb7{js:List Nat}{rs:List Tr}(h:U6 ps is ts)(g:U6 ps js rs):U6 ps (is++js) (ts++rs):=by
 refine⟨by rw[fu,fu,h.1,g.1],fun i u k h1 h2=>?_⟩
 by_cases hi:i<is.length
 ·rw[fW hi] at h1;rw[fW (by rw[<- h.1];exact hi)] at h2;exact h.2 i u k h1 h2
 ·rw[gf (by omega)] at h1;rw[gf (by rw[<- h.1];omega),<- h.1] at h2;exact g.2 _ u k h1 h2
theorem Kh{m:Nat}{s:Tr}(h:ps[m]?=some s):U6 ps [m] [s]:=VR.mpr ⟨h,rfl,fun j a b e=>by simp at e⟩
theorem xN{ps:List Tr}(nd:ps.Nodup):∀{fs:List Nat}{F:List Tr},U6 ps fs F->∀{m:Nat}{s:Tr},ps[m]?=some s->(m∈fs↔s∈F)
 |[],[],_,m,s,_=>by simp
 |[],_::_,h,_,_,_=>by have:=h.1;simp at this
 |_::_,[],h,_,_,_=>by have:=h.1;simp at this
 |a::fs,t::F,h,m,s,hm=>by
  obtain⟨h1,h2⟩:=VR.mp h;rw[fF,fF,xN nd h2 hm];constructor
  ·rintro(e|e)
   ·left;rw[e,h1] at hm;exact(fO hm).symm
   ·exact .inr e
  ·rintro(e|e)
   ·left;rw[e] at hm;exact yI nd hm h1
   ·exact .inr e
theorem KA{t:Tr}(h:U6 ps is t.ks):U6 ps (zR t.lb is) (ZI t):=by
 unfold zR ZI;cases t.lb with
 |op w=>
  show U6 ps (if w = "some" then[] else is) (if w = "some" then[] else t.ks)
  split
  ·exact⟨rfl,fun j m s e=>by simp at e⟩
  ·exact h
 |yes=>exact h
 |sign z=>exact h
 |wit m=>exact h
 |many w=>exact h
theorem xm{ps:List Tr}(nd:ps.Nodup){fs:List Nat}{F:List Tr}(hF:U6 ps fs F):∀{bi:List Nat}{ks:List Tr},U6 ps bi ks ->
  (bi.filter (fun m=>!decide (m∈fs))=[]/\∀k∈ks,k∈F)\/∃a1 X3 A k B,bi.filter (fun m=>!decide (m∈fs))=a1::X3/\ks=A++k::B/\(∀x∈A,x∈F)/\ps[a1]?=some k/\k∉F
 |[],[],_=>.inl ⟨rfl,fun k h=>by cases h⟩
 |[],_::_,h=>by have:=h.1;simp at this
 |_::_,[],h=>by have:=h.1;simp at this
 |m::bi,k::ks,h=>by
  obtain⟨h1,h2⟩:=VR.mp h;have hm:=xN nd hF h1
  by_cases hk:m∈fs
  ·have e:(m::bi).filter (fun m=>!decide (m∈fs))=bi.filter (fun m=>!decide (m∈fs)):=lN (by simp[hk]);rw[e];rcases xm nd hF h2 with⟨g1,g2⟩|⟨a1,X3,A,k',B,g1,g2,g3,g4,g5⟩
   ·exact .inl ⟨g1,fun x hx=>by rcases fF.mp hx with rfl|hx;exact hm.mp hk;exact g2 x hx⟩
   ·exact .inr ⟨a1,X3,k::A,k',B,g1,by rw[g2];rfl,fun x hx=>by rcases fF.mp hx with rfl|hx;exact hm.mp hk;exact g3 x hx,g4,g5⟩
  ·have e:(m::bi).filter (fun m=>!decide (m∈fs))=m::bi.filter (fun m=>!decide (m∈fs)):=lK (by simp[hk]);exact .inr ⟨m,_,[],k,ks,e,rfl,fun x hx=>(by cases hx),h1,fun z=>hk (hm.mpr z)⟩
theorem xD(a b:List Nat):iV (a++b)=iV a++iV b:=by unfold iV;rw[fQ]
def INv(H:Hp)(r Fd Sn W:Addr)(i:Nat)(ps tgt:List Tr)(m:Nat)(U:L3.St)(H':Hp):Prop:=∃(z1 z2:Option V) (ws fs:List Nat) (w F:List Tr) (S:Int->Bool),U=[some (.ref r),some (.int (i:Int)),some (.ref Fd),some (.ref Sn),some (.ref W),z1,z2]/\Ze H H'/\H' Fd=some (.lst (iV fs))/\H' Sn=some (.set S fs.length)/\H' W=some (.lst (iV ws.reverse))/\U6 ps ws w/\U6 ps fs F/\(∀q:Nat,S (q:Int)=true↔q∈fs)/\U0 F/\xP w F=tgt/\zS w/\(∀s∈w,s∉F)/\(∀s∈w,psz s<=2000000)/\m=(tgt.length-F.length)*2000001+(2000000-w.length)
def Uz(K:W.Frag)(a:Adr):Sp:=fun vs H Q _=>Ex7 fun r P R D ps t (i:Nat)=>Cj7 (vs=[.ref r,.int (i:Int)]) (TbK K a.Pm a.C_Table H r P R D ps) (ps[i]?=some t) ((∀s∈ps,isC s=true)) (psz t<=2000000) ((Zk [] (Zp t)).length<4000) (∀H' L is,Ze H H'->H L=none->H' L=some (.lst (iV is))->U6 ps is (Zk [] (Zp t))->Q (.ref L) H')
theorem Ub:Okd P w K mg base a 2 a.y13 a.z13 dt Uz:=fun T hw=>by
 refine okX T.aq.f Z8 fun cR A outer s H E hr=>?_;intro X
 let d1:Rdg X ZA [3,0,2,0,0]:=⟨_,(Zh (Yq (XR gv gH gI Z1 (pv 4) (Za (Zv (Zr (K:=K) rfl) (pv 6) Zf (fun _ _=>rfl)) Zb rfl)) rfl))⟩
 let d2:Rdg X ZA [3,0,2,1,0]:=⟨_,(Zc (Yq (XR gv gH gI Z1 (pv 2) (Za (KH gv PySem.F.slot_list_pop PySem.F.type_list_pop ZcU (pv 4)) Zb rfl)) rfl) (Zh (Yq (XR PySem.F.plainAttrs_set PySem.F.slot_set_add PySem.F.type_set_add ZaM (pv 3) (Za (pv 5) Zb rfl)) rfl)))⟩
 let d3:Rdg X ZA [3,0,2]:=⟨_,(Zh (Z2 (UY (K:=K) rfl (pv 6) (fun _=>rfl)) d1.2 d2.2))⟩
 let d4:Rdg X ZA [3,0,1]:=⟨_,(Zc (Y8 (i:=6) Z8.nd rfl rfl (Nc:=["inner","seen"]) (ix:=[none,some 3]) (ZL.of (by decide +kernel:ZS (Zg ZA) Wn _ _ _=true)) rfl (jX (K:=K) rfl (ZB T.ck (ZcA T hw) hr rfl rfl (Za (Zv (Zr (K:=K) rfl) (Wa (K:=K) rfl (pv 0) rfl) (pv 5) (fun _ _=>rfl)) Zb rfl))) (fun _ _ _ _ _=>(Zo (i:=0) (show List.Nodup (["inner","seen"]:List Str) by decide +kernel) rfl (.inl rfl))) (fun _ _ _ _ _=>(WE (Zw ZaX (pv 0) (pv 1) (by with_unfolding_all rfl)))) (fun _ _ _ _ _=>(pv 0))) d3.2)⟩
 let d5:Rdg X ZA [3,0,0]:=⟨_,(Zc (Zn (i:=5) Z8.nd rfl (.inl rfl) (Zv (Zr (K:=K) rfl) (pv 4) (Vx We Zf) (fun _ _=>rfl)) rfl (.inl rfl)) d4.2)⟩
 let d6:Rdg X ZA [3]:=⟨_,(Zc (VW gw (UY (K:=K) rfl (pv 4) (fun _=>rfl)) d5.2) (Zh (Zm (pv 2))))⟩
 let d7:Rdg X ZA [2]:=⟨_,(Zc (Zn (i:=4) Z8.nd rfl (.inl rfl) (ZY (Za (pv 1) Zb rfl)) rfl (.inl rfl)) d6.2)⟩
 let d8:Rdg X ZA [1]:=⟨_,(Zc (Zn (i:=3) Z8.nd rfl (.inr rfl) (Kw ZaO rfl T.cF oj) rfl (.inl rfl)) d7.2)⟩
 intro vs Q h;obtain⟨r,P,R,D,ps,t,i,rfl,tb,hi,hc,hz,hfew,k⟩:=h;refine⟨_,(Zc (Zn (i:=2) Z8.nd rfl (.inl rfl) (ZY Zb) rfl (.inl rfl)) d8.2),?_⟩;refine⟨by decide,fun Fd hFd=>?_⟩;have s1:=Zi (o:=.lst []) hFd;have e1:(upd H Fd (.lst [])) Fd=some (.lst (iV [])):=Zd;generalize upd H Fd (.lst [])=H1 at s1 e1 ⊢;refine⟨rfl,fun Sn hSn=>?_⟩;have s2:=Zi (o:=.set (fun _=>false) 0) hSn;have e2:(upd H1 Sn (.set (fun _=>false) 0)) Sn=some (.set (fun _=>false) 0):=Zd;have e12:=s2 _ _ e1;have hSn0:=s1.free hSn;generalize upd H1 Sn (.set (fun _=>false) 0)=H2 at s2 e2 e12 ⊢;refine⟨_,rfl,by rw[ft];simp,fun W hW=>?_⟩;have s3:=Zi (o:=.lst [.int (i:Int)]) hW;have e3:(upd H2 W (.lst [.int (i:Int)])) W=some (.lst (iV [i].reverse)):=Zd;have e13:=s3 _ _ e12;have e23:=s3 _ _ e2;have hW0:=(s1.trans s2).free hW;have nFW:Fd≠W:=fun e=>by rw[e] at e12;rw[e12] at hW;cases hW
 have nSW:Sn≠W:=fun e=>by rw[e] at e2;rw[e2] at hW;cases hW
 have nFS:Fd≠Sn:=fun e=>by rw[e] at e1;rw[e1] at hSn;cases hSn
 generalize upd H2 W (.lst [.int (i:Int)])=H3 at s3 e3 e13 e23 ⊢;have s03:=s1.trans (s2.trans s3);clear s1 e1 s2 e2 e12 s3 hSn hW;have nd:=tb.nd;generalize htgt:Zk [] (Zp t)=tgt at k hfew;refine⟨INv H r Fd Sn W i ps tgt,⟨_,none,none,[i],[],[t],[],fun _=>false,rfl,s03,e13,e23,e3,Kh hi,⟨rfl,fun j m s e=>by simp at e⟩,fun q=>by simp,Qi,htgt,trivial,fun s _ z=>(by cases z),fun s hs=>by rw[fM.mp hs];exact hz,rfl⟩,?_⟩;clear e13 e23 e3 s03 H3;rintro m U H3 ⟨z1,z2,ws,fs,w,F,S,rfl,s3,hFd3,hSn3,hW3,nw,nf,hS,cl,hcont,hch,hout,hps,rfl⟩;refine⟨_,rfl,!(iV ws.reverse).isEmpty,.inl ⟨_,nV hW3,rfl⟩,?_⟩;cases ws with
 |nil=>
  have ew:w=[]:=gC.mp nw.1.symm;subst ew;refine Z7 ?_;have eF:F=tgt:=hcont;rw[eF] at nf;exact⟨_,rfl,k H3 Fd fs s3 hFd hFd3 nf⟩
 |cons a0 ws=>
  cases w with
  |nil=>have:=nw.1;simp at this
  |cons t0 w=>
   obtain⟨hp0,nw'⟩:=VR.mp nw;have erev:iV (a0::ws).reverse=iV ws.reverse++[.int (a0:Int)]:=by rw[mf,xD];rfl
   rw[erev] at hW3 ⊢;have ene:(iV ws.reverse++[V.int (a0:Int)]).isEmpty=false:=by simp
   rw[ene];refine YB ⟨fun σ' H'=>∃m',m'<(tgt.length-F.length)*2000001+(2000000-(t0::w).length)/\INv H r Fd Sn W i ps tgt m' σ' H',fun _ _ z=>z,?_⟩;refine⟨_,rfl,_,rfl,W,_,_,.int (a0:Int),rfl,rfl,nV hW3,Jx,?_⟩;have tb3:=tb.mono s3;obtain⟨dx,ho⟩:=tb3.obj;obtain⟨np,pv,hP,aP⟩:=tb3.pl;obtain⟨rows,hR,rl,hrt,hrr,hD⟩:=tb3.rl;have ha0:a0<ps.length:=(fD.mp hp0).1;have hrk:rows[a0]?=some rows[a0]:=fj (by omega);have hb:=hrt _ (fN (show a0<rows.length by omega));obtain⟨is0,il0,in0,ik0⟩:=hrr a0 t0 _ hp0 hrk;have hrv:(rows.map fun e=>V.ref e.2)[a0]?=some (V.ref rows[a0].2):=by rw[fw,hrk];rfl
   generalize rows[a0].2=b at hb hrv;have t0m:t0∈ps:=fU hp0;have ok0:=aP.oks t0 t0m;have nwit:∀m,t0.lb≠.wit m:=fun m e=>by
    have h1:=hc t0 t0m;rw[Tr.eta t0,YV,e] at h1;unfold Us at h1;simp at h1
   rw[ik0] at hb;have n0:U6 ps is0 t0.ks:=⟨il0,fun j m s e1 e2=>in0 j s m e2 e1⟩;have nb:=KA n0;refine⟨_,rfl,r,_,dx,_,_,rfl,ho,T.av,T.aE,lkR,_,rfl,R,_,_,_,rfl,rfl,nV hR,Zj hrv,b,t0.lb,is0,rfl,hb,by rw[il0];exact ok0,nwit,fun H4 b' s4 sq4=>⟨b',rfl,⟨_,sq4⟩,fun Dc hDc=>?_⟩⟩;generalize zR t0.lb is0=bi at nb sq4;have hbl:bi.length<=8:=by
    have h1:=nb.1;have h2:(ZI t0).length<=t0.ks.length:=by
     unfold ZI
     split
     ·split
      ·simp
      ·exact fh _
     ·exact fh _
    have:=lb8 ok0;omega
   have s04:=s3.trans s4;have hSn4:=s4 _ _ hSn3;refine YJ (n:=bi.length) (fun j σ' H'=>∃z,σ'=[z,some (.ref Sn)]/\H' Dc=some (.lst (iV ((bi.take j).filter (fun m=>!decide (m∈fs)))))/\Ze H4 H') ?_ ?_ ?_ ?_ ?_
   ·exact⟨none,rfl,Zd,Zi hDc⟩
   ·rintro j σ' H' hj ⟨z,rfl,_,sj⟩;exact⟨iV bi,(iV bi)[j]'(by rw[Vm];exact hj),Ze.seqT sj sq4,fj (by rw[Vm];exact hj)⟩
   ·rintro σ' H' ⟨z,rfl,_,sj⟩;exact⟨_,Ze.seqT sj sq4,by rw[Vm];exact fh _⟩
   ·rintro j x σ' H' H5 hj ⟨z,rfl,hDj,sj⟩ ⟨rfl,hx⟩ N N0 hN hN0;have hxj:=hx _ (Ze.seqT sj sq4);have hbj:bi[j]?=some bi[j]:=fj hj;have ex:x=V.int ((bi[j]:Nat):Int):=by
     unfold iV at hxj;rw[fw,hbj] at hxj;exact(fO hxj).symm
    subst ex;have etk:(bi.take (j+1))=bi.take j++[bi[j]]:=by rw[lD,hbj];rfl
    refine⟨_,rfl,_,rfl,_,Sn,S,_,rfl,rfl,sj _ _ hSn4,_,rfl,?_⟩
    by_cases hm:bi[j]∈fs
    ·have hSm:S ((bi[j]:Nat):Int)=true:=(hS _).mpr hm;rw[hSm];refine Z7 (hN0 _ _ ⟨_,rfl,?_,sj⟩);rw[etk,my,lN (by simp[hm]),List.filter_nil,ip];exact hDj
    ·have hSm:S ((bi[j]:Nat):Int)=false:=by
      cases h:S ((bi[j]:Nat):Int) with
      |false=>rfl
      |true=>exact absurd ((hS _).mp h) hm
     rw[hSm];refine YB ⟨_,rfl,hN _ _ _ _ hDj ?_ ⟨_,rfl,?_,?_⟩⟩
     ·rw[Vm,ft];have:=lX (fun m=>!decide (m∈fs)) (bi.take j);rw[fZ] at this;omega
     ·rw[Zd,etk,my,lK (by simp[hm]),List.filter_nil,xD];rfl
     ·exact((Ze.x sj).upd).same hDc
   rintro σ' H5 ⟨z,rfl,hA5,s5⟩;rw[mI (fh _)] at hA5;have s05:=s04.trans s5;have hW5:=s5 _ _ (s4 _ _ hW3);have hFd5:=s5 _ _ (s4 _ _ hFd3);have hSn5:=s5 _ _ hSn4;have lch:=jq hch hps;have hFt:=yW (t0::w) F;rw[hcont] at hFt;obtain⟨Bt,eBt⟩:=hFt;have hFl:F.length<=tgt.length:=by rw[eBt,fu];omega
   have hfl:=nf.1;refine⟨_,rfl,!(iV (bi.filter fun m=>!decide (m∈fs))).isEmpty,.inl ⟨_,nV hA5,rfl⟩,?_⟩;rcases xm nd nf nb with⟨g1,g2⟩|⟨a1,X3,A,kk,B,g1,g2,g3,g4,g5⟩
   ·rw[g1];refine Z7 ?_;obtain⟨p1,p2⟩:=ZdQ cl g2 (hout t0 (by simp));refine⟨_,rfl,.inl ⟨rfl,_,nV hFd5⟩,_,rfl,.inl ⟨rfl,_,nV hW5⟩,W,_,.int (a0:Int),rfl,rfl,hW5,by rw[fu,gn,Nat.add_sub_cancel,gf (fh _),gN];rfl,?_⟩;rw[List.dropLast_concat];have hFd6:(upd H5 W (.lst (iV ws.reverse))) Fd=some (.lst (iV fs)):=Wk hFd5 nFW;have hSn6:(upd H5 W (.lst (iV ws.reverse))) Sn=some (.set S fs.length):=Wk hSn5 nSW;have hW6:(upd H5 W (.lst (iV ws.reverse))) W=some (.lst (iV ws.reverse)):=Zd;have s06:Ze H (upd H5 W (.lst (iV ws.reverse))):=((Ze.x s05).upd).same hW0;generalize upd H5 W (.lst (iV ws.reverse))=H6 at hFd6 hSn6 hW6 s06 ⊢;refine⟨Fd,_,_,rfl,rfl,hFd6,by rw[Vm,ft];omega,?_⟩;have hFd7:(upd H6 Fd (.lst (iV fs++[.int (a0:Int)]))) Fd=some (.lst (iV (fs++[a0]))):=by rw[Zd,xD];rfl
    have hSn7:(upd H6 Fd (.lst (iV fs++[.int (a0:Int)]))) Sn=some (.set S fs.length):=Wk hSn6 (fJ nFS);have hW7:(upd H6 Fd (.lst (iV fs++[.int (a0:Int)]))) W=some (.lst (iV ws.reverse)):=Wk hW6 (fJ nFW);have s07:Ze H (upd H6 Fd (.lst (iV fs++[.int (a0:Int)]))):=((Ze.x s06).upd).same hFd;generalize upd H6 Fd (.lst (iV fs++[.int (a0:Int)]))=H7 at hFd7 hSn7 hW7 s07 ⊢;refine⟨_,rfl,.inr (.inr (.inr ⟨rfl,_,_,hSn7⟩)),_,rfl,Sn,S,fs.length,(a0:Int),rfl,rfl,hSn7,by omega,?_⟩;have hSa:S (a0:Int)=false:=by
     cases h:S (a0:Int) with
     |false=>rfl
     |true=>exact absurd ((xN nd nf hp0).mp ((hS a0).mp h)) (hout t0 (by simp))
    rw[hSa];have hFl2:(F++[t0]).length<=tgt.length:=by
     have hc2:xP w (F++[t0])=tgt:=by rw[<- p1];exact hcont
     obtain⟨B2,e2⟩:=yW w (F++[t0]);rw[hc2] at e2;rw[e2];simp
    have lF2:(F++[t0]).length=F.length+1:=by rw[fu,gn]
    refine⟨_,?_,_,_,ws,fs++[a0],w,F++[t0],fun j=>S j||decide (j=(a0:Int)),rfl,((Ze.x s07).upd).same hSn0,Wk hFd7 nFS,?_,Wk hW7 (fJ nSW),nw',Zb7 nf (Kh hp0),?_,p2,by rw[<- p1];exact hcont,?_,?_,fun s hs=>hps s (fS _ hs),rfl⟩
    ·rw[gp] at lch ⊢;omega
    ·rw[Zd,fu,gn];rfl
    ·intro q;rw[fG,fM,mG,hS,lQ];constructor
     ·rintro(h|h)
      ·exact .inl h
      ·exact .inr (by omega)
     ·rintro(h|h)
      ·exact .inl h
      ·exact .inr (by omega)
    ·cases w with
     |nil=>trivial
     |cons s r=>exact hch.2
    ·intro s hs z;rcases fG.mp z with z|z
     ·exact hout s (fS _ hs) z
     ·have:=vP hch s hs;rw[fM.mp z] at this;omega
   ·rw[g1];refine YB ?_;rw[g1] at hA5;obtain⟨p1,p2⟩:=Zcl cl g2 g3;have kb:kk∈ZI t0:=by rw[g2];simp
    have hch2:zS (kk::t0::w):=⟨kb,hch⟩;have hps2:∀s∈kk::t0::w,psz s<=2000000:=fun s hs=>by
     rcases fF.mp hs with rfl|hs
     ·have:=YG (Yv kb);have:=hps t0 (by simp);omega
     ·exact hps s hs
    have lch2:=jq hch2 hps2;refine⟨_,rfl,.inl ⟨rfl,_,nV hW5⟩,_,rfl,Dc,_,_,.int (a1:Int),rfl,rfl,nV hA5,Zj (j:=0) rfl,W,_,_,rfl,rfl,hW5,by rw[fu,Vm,iu,gn,ft];have:=nw'.1;simp at lch2;omega,?_⟩;refine⟨_,?_,_,_,a1::a0::ws,fs,kk::t0::w,F,S,rfl,((Ze.x s05).upd).same hW0,Wk hFd5 nFW,Wk hSn5 nSW,?_,VR.mpr ⟨g4,nw⟩,nf,hS,cl,?_,hch2,?_,hps2,rfl⟩
    ·simp only[gp] at lch2 ⊢;omega
    ·rw[Zd,mf,xD,mf,xD];rfl
    ·show xP w (Zk (Zk F (Zp kk)) (Zp t0))=tgt
     rw[p1];exact hcont
    ·intro s hs;rcases fF.mp hs with rfl|hs
     ·exact g5
     ·exact hout s hs
def kh(K:W.Frag)(a:Adr):Sp:=fun vs H Q _=>Ex1 fun x=>Cj3 (vs=[x]) (KdL H x) (∀H',Ze H H'->Q (.bl (Yi H x)) H')
theorem za:Okd P w K mg base a 2 a.y3 a.z3 cT kh:=fun T hw=>by
 refine okX T.bj.f jA fun cR A outer s H E hr=>?_;intro X
 let d1:Rdg X WP [1]:=⟨_,(Zh (Zm (Xb YC (Zl (Zu (K:=K) rfl) rfl T.ay oh (Za (ZO (vW (K:=K) rfl rfl) rfl T.cF oj (Za (pv 0) Zb rfl)) Zb rfl)) (Zl (Zu (K:=K) rfl) rfl T.ay oh (Za (pv 0) Zb rfl)) (ZK _))))⟩
 intro vs Q h;obtain⟨x,rfl,hk,k⟩:=h;refine⟨_,(Zc (Z2 (PW.pt (UC (Xg (Xw (Zl (Xr (K:=K) rfl "list") rfl T.ae nZ (Za (pv 0) (Za (XU (v:=.ty "list") rfl T.aN nY rfl) Zb rfl) rfl)))) (VH (Xg (Xw (Zl (Ve (K:=K) rfl rfl) rfl T.cr og (Za (ZU (Nc:=["name"]) (ix:=[none]) (ZL.of (by decide +kernel:ZS (Zg WP) ["thing"] _ _ _=true)) rfl (ZE (K:=K) rfl (pv 0)) (fun _ _ _ _ _=>(Zo (i:=0) (show List.Nodup (["name"]:List Str) by decide +kernel) rfl (.inl rfl))) (fun _ _ _ _ _=>Z3) (fun _ _ _ _ _=>(ZB T.bM (xS T hw) hr rfl rfl (Za (pv 0) Zb rfl)))) Zb rfl))))))) (Zh (Zm Y9)) ZD) d1.2),?_⟩;rcases UZ hk.1 with⟨hb,p,xs,rfl,hp,hl⟩|⟨hb,e⟩
 ·obtain⟨t,h1,h2⟩:=WW K (by simp) hk.1 hb;obtain⟨hz,hy⟩:=hk.2 xs hl;have hS:xs.length<=sizeLine:=by rw[ft];lia
  have ev:Yi H (.ref p)=(xs.all Xf&&decide xs.Nodup):=by unfold Yi;rw[hl]
  rw[ev] at k;refine⟨_,rfl,_,t,_,rfl,h1,h2,_,rfl,Z7 ?_⟩;refine⟨_,rfl,p,rfl,⟨xs,nV hp⟩,fun D hD=>?_⟩;refine Ws (K:=K) hD (nV hp) hS (fun i v _=>∀x,xs[i]?=some x->v=.bl (Xf x)) (fun _ _ _ _ _ q=>q) ?_ ?_
  ·intro i x H2 N hx sm hN;refine⟨_,rfl,x,rfl,(hy x (fU hx)).mono sm,fun H3 s3=>hN _ _ s3 fun x' hx'=>?_⟩;rw[hx] at hx';cases hx';rfl
  ·intro H2 ys hD2 sm hlen hr;have ey:=Vn (f:=Xf) hlen fun i v x h1 h2=>hr i v h1 x h2;refine⟨D,_,rfl,nV (by rw[hD2,ey]),_,rfl,?_⟩;rw[xO];cases hall:xs.all Xf with
   |false=>
    rw[hall] at k;exact YB (k H2 sm)
   |true=>
    rw[hall] at k;obtain⟨ks,rfl⟩:=yZ hall;rw[fi] at hz;refine Z7 ⟨_,rfl,p,ks,rfl,nV (sm _ _ hp),by lia,fun n c a1 a2 hc=>?_⟩;have s3:Ze H (upd H2 c (Zay c n)):=sm.trans (Zi hc);refine .inr (.inr ⟨c,n,rfl,Zd,by lia,_,rfl,.inl ⟨p,_,rfl,.inl (nV (s3 _ _ hp)),rfl,?_⟩⟩);rw[QU rfl a2];exact k _ s3
 ·obtain⟨t,h1,h2⟩:=WW K (by simp) hk.1 hb;have q:=k H (.refl H);have e2:Yi H x=false:=by unfold Yi;rw[e]
  rw[e2] at q;exact⟨_,rfl,_,t,_,rfl,h1,h2,_,rfl,YB (YB q)⟩
def j6(K:W.Frag)(a:Adr):Sp:=fun vs H Q _=>Ex2 fun x n=>Cj3 (vs=[x,.int n]) (KdL H x) (∀H',Ze H H'->Q (.bl (Wi H n x)) H')
theorem kS:Okd P w K mg base a 3 a.y4 a.z4 cW j6:=fun T hw=>by
 refine okF T.bE.f j9 fun cR A outer s H vs Q E hr h=>?_;obtain⟨x,n,rfl,hk,k⟩:=h;refine⟨_,(Zh (Zm (XQ (Zl (Xr (K:=K) rfl "list") rfl T.ae nZ (Za (pv 0) (Za (XU (v:=.ty "list") rfl T.aN nY rfl) Zb rfl) rfl)) (Xt (Zl (Ve (K:=K) rfl rfl) rfl T.cr og (Za (ZU (Nc:=["room","many"]) (ix:=[none,some 1]) (ZL.of (by decide +kernel:ZS (Zg Vy) ["thing","many"] _ _ _=true)) rfl (ZE (K:=K) rfl (pv 0)) (fun _ _ _ _ _=>(Zo (i:=0) (show List.Nodup (["room","many"]:List Str) by decide +kernel) rfl (.inl rfl))) (fun _ _ _ _ _=>Z3) (fun _ _ _ _ _=>(ZB T.bV (Qt T hw) hr rfl rfl (Za (pv 0) (Za (pv 1) Zb rfl) rfl)))) Zb rfl)))))),?_⟩;rcases UZ hk.1 with⟨hb,p,xs,rfl,hp,hl⟩|⟨hb,e⟩
 ·obtain⟨t,h1,h2⟩:=WW K (by simp) hk.1 hb;obtain⟨hz,hy⟩:=hk.2 xs hl;have hS:xs.length<=sizeLine:=by rw[ft];lia
  have ev:Wi H n (.ref p)=xs.all (Y3 n):=by unfold Wi;rw[hl]
  rw[ev] at k;refine⟨_,rfl,_,t,_,rfl,h1,h2,_,rfl,YB ?_⟩;refine⟨_,rfl,p,rfl,⟨xs,nV hp⟩,fun D hD=>?_⟩;refine Ws (K:=K) hD (nV hp) hS (fun i v _=>∀x,xs[i]?=some x->v=.bl (Y3 n x)) (fun _ _ _ _ _ q=>q) ?_ ?_
  ·intro i x H2 N hx sm hN;refine⟨_,rfl,_,rfl,x,n,rfl,(hy x (fU hx)).mono sm,hN _ _ (.refl _) fun x' hx'=>?_⟩;rw[hx] at hx';cases hx';rfl
  ·intro H2 ys hD2 sm hlen hr;have ey:=Vn (f:=Y3 n) hlen fun i v x h1 h2=>hr i v h1 x h2;refine⟨D,_,rfl,nV (by rw[hD2,ey]),?_⟩;rw[xO];exact k H2 sm
 ·obtain⟨t,h1,h2⟩:=WW K (by simp) hk.1 hb;have q:=k H (.refl H);have e2:Wi H n x=false:=by unfold Wi;rw[e]
  rw[e2] at q;exact⟨_,rfl,_,t,_,rfl,h1,h2,_,rfl,Z7 q⟩
def qR(K:W.Frag)(a:Adr):Sp:=fun vs H Q _=>Ex2 fun x n=>Cj3 (vs=[x,.int n]) (KdL H x) (∀H',Ze H H'->Q (.bl (Z6 H n x)) H')
theorem Vw:Okd P w K mg base a 4 a.y38 a.z38 cW qR:=fun T hw=>by
 refine okX T.aI.f zc fun cR A outer s H E hr=>?_;intro X
 let d1:Rdg X XL [1]:=⟨_,(Zh (Zm (Xb YC (Zl (Zu (K:=K) rfl) rfl T.ay oh (Za (ZO (vW (K:=K) rfl rfl) rfl T.cF oj (Za (pv 0) Zb rfl)) Zb rfl)) (Zl (Zu (K:=K) rfl) rfl T.ay oh (Za (pv 0) Zb rfl)) (ZK _))))⟩
 intro vs Q h;obtain⟨x,n,rfl,hk,k⟩:=h;refine⟨_,(Zc (Z2 (PW.pt (UC (Xg (Xw (ZB T.bE (kS T hw) hr rfl rfl (Za (pv 0) (Za (pv 1) Zb rfl) rfl)))) (VH (Zw YC (Zl (Zu (K:=K) rfl) rfl T.ay oh (Za (pv 0) Zb rfl)) Zf (ZK _))))) (Zh (Zm Y9)) ZD) d1.2),?_⟩;refine⟨_,rfl,_,rfl,x,n,rfl,hk,fun H1 s1=>⟨_,rfl,?_⟩⟩;rcases UZ hk.1 with⟨hb,p,xs,rfl,hp,hl⟩|⟨hb,e⟩
 ·obtain⟨hz,hy⟩:=hk.2 xs hl;have ev:Wi H n (.ref p)=xs.all (Y3 n):=by unfold Wi;rw[hl]
  have ew:Z6 H n (.ref p)=(xs.all (Y3 n)&&!xs.isEmpty&&decide xs.Nodup):=by unfold Z6;rw[hl]
  rw[ew] at k;rw[ev];cases hall:xs.all (Y3 n) with
  |false=>
   rw[hall] at k;exact YB (YB (k H1 s1))
  |true=>
   rw[hall] at k;refine Z7 ⟨_,rfl,.inl ⟨p,xs,rfl,.inl (nV (s1 _ _ hp)),rfl,_,rfl,?_⟩⟩;cases xs with
   |nil=>
    exact YB (k H1 s1)
   |cons y r=>
    have e0:decide (V.int (((y::r).length:Nat):Int)=V.int 0)=false:=by
     refine gJ fun q=>?_;have q':=V.int.inj q;rw[gp] at q'
     lia
    rw[e0];obtain⟨ks,eks⟩:=yF hall;rw[eks] at hp k hz;rw[fi] at hz;refine Z7 ⟨_,rfl,p,ks,rfl,nV (s1 _ _ hp),by lia,fun m c a1 a2 hc=>?_⟩;have s3:Ze H (upd H1 c (Zay c m)):=s1.trans (Zi hc);refine .inr (.inr ⟨c,m,rfl,Zd,by lia,_,rfl,.inl ⟨p,_,rfl,.inl (nV (s3 _ _ hp)),rfl,?_⟩⟩);rw[QU rfl a2];have q:=k _ s3;have ne:(!(ks.map kV).isEmpty)=true:=by rw[<- eks];rfl
    rw[ne] at q;exact q
 ·have ev:Wi H n x=false:=by unfold Wi;rw[e]
  have ew:Z6 H n x=false:=by unfold Z6;rw[e]
  rw[ew] at k;rw[ev];exact YB (YB (k H1 s1))
def xr(K:W.Frag)(a:Adr):Sp:=fun vs H Q _=>Ex4 fun x y z u=>Cj6 (vs=[x,y,z,u]) (Zbf H x) (Zbf H y) (KdL H z) (KdL H u) (∀H',Ze H H'->Q (.bl (Uj H x y z u)) H')
theorem xB:Okd P w K mg base a 5 a.y37 a.z37 dv xr:=fun T hw=>by
 refine okX T.br.f UR fun cR A outer s H E hr=>?_;intro X
 let d1:Rdg X Ym [5]:=⟨_,(Zh (Zm (XQ (ZB T.aI (Vw T hw) hr rfl rfl (Za (pv 2) (Za (pv 4) Zb rfl) rfl)) (XQ (ZB T.bj (za T hw) hr rfl rfl (Za (pv 3) Zb rfl)) (Xt (Xb yj (Zl (Zu (K:=K) rfl) rfl T.ay oh (Za (pv 3) Zb rfl)) (yi rfl T.bX) (ZK _)))))))⟩
 let d2:Rdg X Ym [4]:=⟨_,(Zc (Z2 (Xg (Xw (Zl (Ve (K:=K) rfl rfl) rfl T.cr og (Za (ZU (Nc:=["rooms","many"]) (ix:=[none,some 4]) (ZL.of (by decide +kernel:ZS (Zg Ym) VF _ _ _=true)) rfl (ZE (K:=K) rfl (pv 1)) (fun _ _ _ _ _=>(Zo (i:=0) (show List.Nodup (["rooms","many"]:List Str) by decide +kernel) rfl (.inl rfl))) (fun _ _ _ _ _=>Z3) (fun _ _ _ _ _=>(ZB T.aI (Vw T hw) hr rfl rfl (Za (pv 0) (Za (pv 1) Zb rfl) rfl)))) Zb rfl)))) (Zh (Zm Y9)) ZD) d1.2)⟩
 let d3:Rdg X Ym [3]:=⟨_,(Zc (Z2 (Xg (Xw (Zl (Ve (K:=K) rfl rfl) rfl T.cr og (Za (ZU (Nc:=["names"]) (ix:=[none]) (ZL.of (by decide +kernel:ZS (Zg Ym) VF _ _ _=true)) rfl (ZE (K:=K) rfl (pv 0)) (fun _ _ _ _ _=>(Zo (i:=0) (show List.Nodup (["names"]:List Str) by decide +kernel) rfl (.inl rfl))) (fun _ _ _ _ _=>Z3) (fun _ _ _ _ _=>(ZB T.bj (za T hw) hr rfl rfl (Za (pv 0) Zb rfl)))) Zb rfl)))) (Zh (Zm Y9)) ZD) d2.2)⟩
 let d4:Rdg X Ym [2]:=⟨_,(Zc (Z2 (PW.pt (UC (Xg (Jn yj yj Zf (pv 4) (yi rfl T.bU))) (VH (Zw Zbw (Zl (Zu (K:=K) rfl) rfl T.ay oh (Za (pv 1) Zb rfl)) (pv 4) (ZK _))))) (Zh (Zm Y9)) ZD) d3.2)⟩
 let d5:Rdg X Ym [1]:=⟨_,(Zc (Zn (i:=4) UR.nd rfl (.inr rfl) (Zl (Zu (K:=K) rfl) rfl T.ay oh (Za (pv 0) Zb rfl)) rfl (.inl rfl)) d4.2)⟩
 intro vs Q h;obtain⟨x,y,z,u,rfl,kx,ky,kz,ku,k⟩:=h;refine⟨_,(Zc (Z2 (PW.pt (UC (Xg (Xw (Zl (Xr (K:=K) rfl "list") rfl T.ae nZ (Za (pv 0) (Za (XU (v:=.ty "list") rfl T.aN nY rfl) Zb rfl) rfl)))) (VH (Xg (Xw (Zl (Xr (K:=K) rfl "list") rfl T.ae nZ (Za (pv 1) (Za (XU (v:=.ty "list") rfl T.aN nY rfl) Zb rfl) rfl))))))) (Zh (Zm Y9)) ZD) d5.2),?_⟩;rcases UZ kx.1 with⟨hb,p,xs,rfl,hp,hl⟩|⟨hb,e⟩
 case inr=>
  obtain⟨t,h1,h2⟩:=WW K (by simp) kx.1 hb;have q:=k H (.refl H);have e2:Uj H x y z u=false:=by unfold Uj;rw[e]
  rw[e2] at q;exact⟨_,rfl,_,t,_,rfl,h1,h2,_,rfl,YB (YB q)⟩
 obtain⟨t,h1,h2⟩:=WW K (by simp) kx.1 hb;refine⟨_,rfl,_,t,_,rfl,h1,h2,_,rfl,Z7 ?_⟩;rcases UZ ky.1 with⟨hb2,p2,ys,rfl,hp2,hl2⟩|⟨hb2,e⟩
 case inr=>
  obtain⟨t,h1,h2⟩:=WW K (by simp) ky.1 hb2;have q:=k H (.refl H);have e2:Uj H (.ref p) y z u=false:=by unfold Uj;rw[hl,e]
  rw[e2] at q;exact⟨_,rfl,_,t,_,rfl,h1,h2,_,rfl,YB q⟩
 obtain⟨t2,h3,h4⟩:=WW K (by simp) ky.1 hb2;refine⟨_,rfl,_,t2,_,rfl,h3,h4,_,rfl,Z7 ?_⟩;obtain⟨hz,hy⟩:=kx.2 xs hl;obtain⟨hz2,hy2⟩:=ky.2 ys hl2;have hS:xs.length<=sizeLine:=by rw[ft];omega
 have hS2:ys.length<=sizeLine:=by rw[ft];omega
 have ev:Uj H (.ref p) (.ref p2) z u=(decide (1<=xs.length)&&decide (xs.length<=20)&&decide (ys.length=xs.length)&&xs.all (Yi H)&&ys.all (Z6 H xs.length)&&(Z6 H xs.length z&&(Yi H u&&Zd3 (Wb H u)))):=by unfold Uj;rw[hl,hl2]
 rw[ev] at k;refine⟨_,rfl,.inl ⟨p,xs,rfl,.inl (nV hp),?_⟩⟩;refine⟨_,rfl,_,_,rfl,rfl,_,rfl,?_⟩;cases c1:decide ((1:Int)<=xs.length) with
 |false=>
  have e1:decide (1<=xs.length)=false:=gJ fun q=>absurd (lZ c1) (by omega);rw[e1] at k;exact Z7 ⟨_,rfl,YB (YB (k H (.refl H)))⟩
 |true=>
 have e1:decide (1<=xs.length)=true:=gz (by have:=fT c1;omega);rw[e1] at k;refine YB ⟨_,_,rfl,rfl,_,rfl,?_⟩;cases c2:decide ((xs.length:Int)<=20) with
 |false=>
  have e2:decide (xs.length<=20)=false:=gJ fun q=>absurd (lZ c2) (by omega);rw[e2] at k;exact YB (YB (k H (.refl H)))
 |true=>
 have e2:decide (xs.length<=20)=true:=gz (by have:=fT c2;omega);rw[e2] at k;refine Z7 ⟨_,rfl,.inl ⟨p2,ys,rfl,.inl (nV hp2),_,rfl,rfl,_,rfl,?_⟩⟩;cases c3:decide (V.int (ys.length:Int)=V.int (xs.length:Int)) with
 |false=>
  have e3:decide (ys.length=xs.length)=false:=gJ fun q=>absurd (lZ c3) (by rw[q];simp);rw[e3] at k;exact YB (k H (.refl H))
 |true=>
 have e3:decide (ys.length=xs.length)=true:=gz (by have:=V.int.inj (fT c3);omega);rw[e3] at k;refine Z7 ⟨_,rfl,p,rfl,⟨xs,nV hp⟩,fun D hD=>?_⟩;refine Ws (K:=K) hD (nV hp) hS (fun i v _=>∀x,xs[i]?=some x->v=.bl (Yi H x)) (fun _ _ _ _ _ q=>q) ?_ ?_
 ·intro i x H2 N hx sm hN;have hk:=hy x (fU hx);refine⟨_,rfl,x,rfl,hk.mono sm,fun H3 s3=>hN _ _ s3 fun x' hx'=>?_⟩;rw[hx] at hx';cases hx';rw[qa sm hk.1]
 intro H2 zs hD2 sm hlen hr;have ey:=Vn (f:=Yi H) hlen fun i v x h1 h2=>hr i v h1 x h2;refine⟨D,_,rfl,nV (by rw[hD2,ey]),_,rfl,?_⟩;rw[xO];cases c4:xs.all (Yi H) with
 |false=>
  rw[c4] at k;exact YB (k H2 sm)
 |true=>
 rw[c4] at k;refine Z7 ⟨_,rfl,p2,rfl,⟨ys,nV (sm _ _ hp2)⟩,fun D' hD'=>?_⟩;refine Ws (K:=K) hD' (nV (sm _ _ hp2)) hS2 (fun i v _=>∀x,ys[i]?=some x->v=.bl (Z6 H xs.length x)) (fun _ _ _ _ _ q=>q) ?_ ?_
 ·intro i x H3 N hx sm3 hN;have hk:=hy2 x (fU hx);have s3:=sm.trans sm3;refine⟨_,rfl,_,rfl,x,_,rfl,hk.mono s3,fun H4 s4=>hN _ _ s4 fun x' hx'=>?_⟩;rw[hx] at hx';cases hx';rw[UI s3 hk.1]
 intro H3 zs3 hD3 sm3 hlen3 hr3;have s3:=sm.trans sm3;have ey3:=Vn (f:=Z6 H xs.length) hlen3 fun i v x h1 h2=>hr3 i v h1 x h2;refine⟨D',_,rfl,nV (by rw[hD3,ey3]),_,rfl,?_⟩;rw[xO];cases c5:ys.all (Z6 H xs.length) with
 |false=>
  rw[c5] at k;exact YB (k H3 s3)
 |true=>
 rw[c5] at k;refine Z7 ⟨_,rfl,_,rfl,z,_,rfl,kz.mono s3,fun H4 s4=>⟨_,rfl,?_⟩⟩;rw[UI s3 kz.1];have s5:=s3.trans s4;cases c6:Z6 H xs.length z with
 |false=>
  rw[c6] at k;exact Z7 (k H4 s5)
 |true=>
 rw[c6] at k;refine YB ⟨_,rfl,u,rfl,ku.mono s5,fun H5 s6=>⟨_,rfl,?_⟩⟩;rw[qa s5 ku.1];have s7:=s5.trans s6;cases c7:Yi H u with
 |false=>
  rw[c7] at k;exact Z7 (k H5 s7)
 |true=>
 rw[c7] at k;rcases UZ ku.1 with⟨_,p4,fs,rfl,hp4,hl4⟩|⟨_,e⟩
 ·rw[hl4] at k;refine YB ⟨_,rfl,.inl ⟨p4,fs,rfl,.inl (nV (s7 _ _ hp4)),_,_,rfl,rfl,?_⟩⟩;have q:=k H5 s7;have e8:decide (fs.length<=3)=decide ((fs.length:Int)<=3):=mj.mpr (by omega);simp only[Zd3] at q;rw[e8] at q;exact q
 ·unfold Yi at c7;rw[e] at c7;cases c7
def vj(K:W.Frag)(a:Adr):Sp:=fun vs H Q _=>Ex7 fun p dx x y z u d=>Cj5 (vs=[.ref p,x,y,z,u]) (H p=some (.ins a.C_World dx [])) (Wv H x y z u d) (JL d) (∀H',Zs p H H'->Z0 a.C_World H' p d->Q .non H')
theorem qe:Okd P w K mg base a 6 a.y31 a.z31 dy vj:=fun T hw=>by
 refine okX T.a9.f vm fun cR A outer s H E hr=>?_;intro X
 let d1:Rdg X YR [3]:=⟨_,(Zc (qF (pv 0) (ZO (Yu (K:=K) rfl) rfl T.aK oi (Za (Zl (UA (K:=K) rfl) rfl T.bO om (Za (pv 3) Zb rfl)) Zb rfl)) rfl) (Zh (qF (pv 0) (ZO (Yu (K:=K) rfl) rfl T.aK oi (Za (pv 4) Zb rfl)) rfl)))⟩
 let d2:Rdg X YR [2]:=⟨_,(Zc (qF (pv 0) (ZO (Yu (K:=K) rfl) rfl T.aK oi (Za (ZU (Nc:=["rooms"]) (ix:=[none]) (ZL.of (by decide +kernel:ZS (Zg YR) Ur _ _ _=true)) rfl (ZE (K:=K) rfl (pv 2)) (fun _ _ _ _ _=>(Zo (i:=0) (show List.Nodup (["rooms"]:List Str) by decide +kernel) rfl (.inl rfl))) (fun _ _ _ _ _=>Z3) (fun _ _ _ _ _=>(ZO (Yu (K:=K) rfl) rfl T.aK oi (Za (Zl (UA (K:=K) rfl) rfl T.bO om (Za (pv 0) Zb rfl)) Zb rfl)))) Zb rfl)) rfl) d1.2)⟩
 let d3:Rdg X YR [1]:=⟨_,(Zc (qF (pv 0) (ZO (Yu (K:=K) rfl) rfl T.aK oi (Za (ZU (Nc:=["names"]) (ix:=[none]) (ZL.of (by decide +kernel:ZS (Zg YR) Ur _ _ _=true)) rfl (ZE (K:=K) rfl (pv 1)) (fun _ _ _ _ _=>(Zo (i:=0) (show List.Nodup (["names"]:List Str) by decide +kernel) rfl (.inl rfl))) (fun _ _ _ _ _=>Z3) (fun _ _ _ _ _=>(ZO (Yu (K:=K) rfl) rfl T.aK oi (Za (Zl (UA (K:=K) rfl) rfl T.bO om (Za (pv 0) Zb rfl)) Zb rfl)))) Zb rfl)) rfl) d2.2)⟩
 intro vs Q h;obtain⟨p,dx,x,y,z,u,d,rfl,hp,pp,gd,k⟩:=h;refine⟨_,(Zc (Z2 (Xg (Xw (ZB T.br (xB T hw) hr rfl rfl (Zq (pv 1) (Zq (pv 2) (Zq (pv 3) (Zq (pv 4) Zb rfl) rfl) rfl) rfl)))) (Zh JJ) ZD) d3.2),?_⟩;obtain⟨kx,ky,kz,ku⟩:=pp.kd gd;have hm:=pp.makes gd;refine⟨_,rfl,_,rfl,_,rfl,_,rfl,x,y,z,u,rfl,kx,ky,kz,ku,fun H1 s1=>⟨_,rfl,?_⟩⟩;rw[hm];refine Z7 ?_;have p1:=pp.mono s1;have hp1:=s1 _ _ hp;have ph:=p1.hid hp1;have:=gd.n20;have:=gd.wl;obtain⟨b1,v1,e1,g1,l1,q1⟩:=p1.s;subst e1;refine⟨_,rfl,b1,rfl,⟨v1,nV g1⟩,fun D hD=>?_⟩;refine Ws (K:=K) hD (nV g1) (by rw[ft];lia) (fun i v G=>∀ss,d.signs[i]?=some ss->TS G v (Wm ss)) (fun i v _ _ sm q ss e=>TS.mono _ _ _ _ sm (q ss e)) ?_ ?_
 ·intro i w H2 N hx sm hN;have hi:i<d.signs.length:=by rw[<- l1];exact(fD.mp hx).1
  obtain⟨c,rfl,ec⟩:=q1 i w _ hx (fj hi);have hg:=gd.sn _ (fN hi);refine⟨_,rfl,.inl ⟨c,_,rfl,nV (sm _ _ ec),by lia,fun l hl=>⟨l,_,rfl,.inl ⟨nV Zd,fun t ht=>?_⟩⟩⟩⟩;refine hN _ _ ((Zi hl).trans (Zi ht)) fun ss hss=>⟨t,rfl,New.mk ((Zi hl).free ht) ?_⟩;rw[fj hi] at hss;cases hss;rw[Zd]
 intro H2 w1 hD2 s2 lw1 r1;refine⟨D,w1,rfl,.inl ⟨nV hD2,fun t1 ht1=>?_⟩⟩;have st1:=Zi (o:=.tup w1) ht1;have hp2:=st1 _ _ (s2 _ _ hp1);refine⟨_,rfl,p,_,dx,[],rfl,hp2,T.aj,T.aA,by decide,?_⟩;have x2:Zs p H1 (upd (upd H2 t1 (.tup w1)) p (.ins a.C_World dx (Yz "room_signs" (.ref t1) []))):=(Ze.x (s2.trans st1)).upd;have np1:t1≠p:=fun z=>by subst z;rw[s2 _ _ hp1] at ht1;cases ht1
 have W1:LT TS (hide p (upd (upd H2 t1 (.tup w1)) p (.ins a.C_World dx (Yz "room_signs" (.ref t1) [])))) (.ref t1) (d.signs.map Wm):=by
  refine vR (xs:=d.signs) (XY np1 (by rw[Zx np1,Zd])) (lw1.trans l1) fun i v hv ss hss=>?_;refine TS.mono _ _ _ _ ?_ (r1 i v hv ss hss);exact(New.hidden hp1).trans (Zs.hide ((Ze.x st1).upd))
 have hp3:(upd (upd H2 t1 (.tup w1)) p (.ins a.C_World dx (Yz "room_signs" (.ref t1) []))) p=some (.ins a.C_World dx (Yz "room_signs" (.ref t1) [])):=Zd;rw[put1] at x2 W1 hp3 ⊢;generalize upd (upd H2 t1 (.tup w1)) p (.ins a.C_World dx ([("room_signs",V.ref t1)]:List (Str×V)))=H3 at x2 W1 hp3 ⊢;have p3:=(ph.mono x2.hide).mono WK;obtain⟨b2,v2,e2,g2,l2,q2⟩:=p3.w;subst e2;refine⟨_,rfl,b2,rfl,⟨v2,nV g2⟩,fun D2 hDD=>?_⟩;refine Ws (K:=K) hDD (nV g2) (by rw[ft];lia) (fun i v G=>∀ss,d.ways[i]?=some ss->TIn G v (Yc ss)) (fun i v _ _ sm q ss e=>TIn.mono _ _ _ _ sm (q ss e)) ?_ ?_
 ·intro i w H4 N hx sm hN;have hi:i<d.ways.length:=by rw[<- l2];exact(fD.mp hx).1
  obtain⟨c,rfl,ec⟩:=q2 i w _ hx (fj hi);have hg:=gd.wn _ (fN hi);refine⟨_,rfl,.inr ⟨c,_,rfl,nV (sm _ _ ec),by lia,fun l hl=>⟨l,_,rfl,.inl ⟨nV Zd,fun t ht=>?_⟩⟩⟩⟩;refine hN _ _ ((Zi hl).trans (Zi ht)) fun ss hss=>⟨t,rfl,New.mk ((Zi hl).free ht) ?_⟩;rw[fj hi] at hss;cases hss;rw[Zd]
 intro H4 w2 hD4 s4 lw2 r2;refine⟨D2,w2,rfl,.inl ⟨nV hD4,fun t2 ht2=>?_⟩⟩;have st2:=Zi (o:=.tup w2) ht2;have hp4:=st2 _ _ (s4 _ _ hp3);refine⟨_,rfl,p,_,dx,_,rfl,hp4,T.aj,T.aM,by simp,?_⟩;have x4:Zs p H3 (upd (upd H4 t2 (.tup w2)) p (.ins a.C_World dx (Yz "room_ways" (.ref t2) ([("room_signs",V.ref t1)]:List (Str×V))))):=(Ze.x (s4.trans st2)).upd;have np2:t2≠p:=fun z=>by subst z;rw[s4 _ _ hp3] at ht2;cases ht2
 have W2:LT TIn (hide p (upd (upd H4 t2 (.tup w2)) p (.ins a.C_World dx (Yz "room_ways" (.ref t2) ([("room_signs",V.ref t1)]:List (Str×V)))))) (.ref t2) (d.ways.map Yc):=by
  refine vR (xs:=d.ways) (XY np2 (by rw[Zx np2,Zd])) (lw2.trans l2) fun i v hv ss hss=>?_;refine TIn.mono _ _ _ _ ?_ (r2 i v hv ss hss);exact(New.hidden hp3).trans (Zs.hide ((Ze.x st2).upd))
 have hp5:(upd (upd H4 t2 (.tup w2)) p (.ins a.C_World dx (Yz "room_ways" (.ref t2) ([("room_signs",V.ref t1)]:List (Str×V))))) p=some (.ins a.C_World dx (Yz "room_ways" (.ref t2) ([("room_signs",V.ref t1)]:List (Str×V)))):=Zd;have W1:=LT.mono TS.mono _ _ _ _ x4.hide W1;rw[put2] at x4 W1 W2 hp5 ⊢;generalize upd (upd H4 t2 (.tup w2)) p (.ins a.C_World dx ([("room_signs",V.ref t1),("room_ways",V.ref t2)]:List (Str×V)))=H5 at x4 W1 W2 hp5 ⊢;have x5:=x2.trans x4;have p5:=(ph.mono x5.hide).mono WK;obtain⟨b3,e3,g3⟩:=p5.st;subst e3;have hst:=gd.stn.2.2.2;refine⟨_,rfl,.inr ⟨b3,_,rfl,nV g3,by lia,fun l hl=>⟨l,_,rfl,.inl ⟨nV Zd,fun t3 ht3=>?_⟩⟩⟩⟩;have st3:=(Zi (o:=.lst ((Yc d.starts).map V.int)) hl).trans (Zi (o:=.tup ((Yc d.starts).map V.int)) ht3);have hp6:=st3 _ _ hp5;refine⟨_,rfl,p,_,dx,_,rfl,hp6,T.aj,T.aU,by simp,?_⟩;have np3:t3≠p:=fun z=>by subst z;rw[Zi hl _ _ hp5] at ht3;cases ht3
 have x6:Zs p H5 (upd (upd (upd H5 l (.lst ((Yc d.starts).map V.int))) t3 (.tup ((Yc d.starts).map V.int))) p (.ins a.C_World dx (Yz "start_rooms" (.ref t3) ([("room_signs",V.ref t1),("room_ways",V.ref t2)]:List (Str×V))))):=(Ze.x st3).upd;have hp7:(upd (upd (upd H5 l (.lst ((Yc d.starts).map V.int))) t3 (.tup ((Yc d.starts).map V.int))) p (.ins a.C_World dx (Yz "start_rooms" (.ref t3) ([("room_signs",V.ref t1),("room_ways",V.ref t2)]:List (Str×V))))) p=some (.ins a.C_World dx (Yz "start_rooms" (.ref t3) ([("room_signs",V.ref t1),("room_ways",V.ref t2)]:List (Str×V)))):=Zd;have W3:TIn (hide p (upd (upd (upd H5 l (.lst ((Yc d.starts).map V.int))) t3 (.tup ((Yc d.starts).map V.int))) p (.ins a.C_World dx (Yz "start_rooms" (.ref t3) ([("room_signs",V.ref t1),("room_ways",V.ref t2)]:List (Str×V)))))) (.ref t3) (Yc d.starts):=⟨t3,rfl,XY np3 (by rw[Zx np3,Zd])⟩;have W1:=LT.mono TS.mono _ _ _ _ x6.hide W1;have W2:=LT.mono TIn.mono _ _ _ _ x6.hide W2;rw[put3] at x6 W1 W2 W3 hp7 ⊢;generalize upd (upd (upd H5 l (.lst ((Yc d.starts).map V.int))) t3 (.tup ((Yc d.starts).map V.int))) p (.ins a.C_World dx ([("room_signs",V.ref t1),("room_ways",V.ref t2),("start_rooms",V.ref t3)]:List (Str×V)))=H7 at x6 W1 W2 W3 hp7 ⊢;have x7:=x5.trans x6;have p7:=(ph.mono x7.hide).mono WK;obtain⟨b4,e4,g4⟩:=p7.f;subst e4;refine⟨_,rfl,b4,_,rfl,.inl ⟨nV g4,fun t4 ht4=>?_⟩⟩;have st4:=Zi (o:=.tup (d.fair.map V.str)) ht4;have hp8:=st4 _ _ hp7;refine⟨_,rfl,p,_,dx,_,rfl,hp8,T.aj,T.aX,by simp,?_⟩;have np4:t4≠p:=fun z=>by subst z;rw[hp7] at ht4;cases ht4
 have x8:Zs p H7 (upd (upd H7 t4 (.tup (d.fair.map V.str))) p (.ins a.C_World dx (Yz "fair_names" (.ref t4) ([("room_signs",V.ref t1),("room_ways",V.ref t2),("start_rooms",V.ref t3)]:List (Str×V))))):=(Ze.x st4).upd;refine k _ ((Ze.x s1).trans (x7.trans x8)) ⟨dx,.ref t1,.ref t2,.ref t3,.ref t4,by rw[Zd,put4],?_,?_,?_,?_⟩
 ·exact LT.mono TS.mono _ _ _ _ (x8.hide.trans WK) W1
 ·exact LT.mono TIn.mono _ _ _ _ (x8.hide.trans WK) W2
 ·exact TIn.mono _ _ _ _ (x8.hide.trans WK) W3
 ·exact⟨t4,rfl,by rw[Zx np4,Zd]⟩
def vp(K:W.Frag)(a:Adr):Sp:=fun vs H Q _=>Ex2 fun p d=>Cj3 (vs=[.ref p]) (Z0 a.C_World H p d) (Q (.int d.signs.length) H)
theorem Xs:Okd P w K mg base a 1 a.y32 a.z32 cU vp:=fun T hw=>by
 refine okF T.ab.f vg fun cR A outer s H vs Q E hr h=>?_;obtain⟨p,d,rfl,hw,k⟩:=h;refine⟨_,(Zh (Zm (Zl (Zu (K:=K) rfl) rfl T.ay oh (Za (Wa (K:=K) rfl (pv 0) rfl) Zb rfl)))),?_⟩;obtain⟨dx,t1,t2,t3,t4,e,⟨b,vs,rfl,g,l,q⟩,_⟩:=hw.ex;refine⟨_,rfl,p,_,dx,_,_,rfl,e,T.aj,T.aA,J9 _ _ _ _,.inl ⟨b,vs,rfl,.inr (nX g),?_⟩⟩;rw[l,fi];exact k
def qS(K:W.Frag)(a:Adr):Sp:=fun vs H Q _=>Ex4 fun p d i ss=>Cj4 (vs=[.ref p,.int (i:Nat)]) (Z0 a.C_World H p d) (d.signs[i]?=some ss) (∀l,H l=none->Q (.ref l) (upd H l (.lst ((Wm ss).map V.str))))
theorem Wc:Okd P w K mg base a 1 a.y33 a.z33 cZ qS:=fun T hw=>by
 refine okF T.ag.f zi fun cR A outer s H vs Q E hr h=>?_;obtain⟨p,d,i,ss,rfl,hw,hs,k⟩:=h;refine⟨_,(Zh (Zm (ZO (YL (K:=K) rfl rfl) rfl T.aN nY (Za (Zv (ZP (K:=K) rfl) (Wa (K:=K) rfl (pv 0) rfl) (pv 1) (fun _ _=>rfl)) Zb rfl)))),?_⟩;obtain⟨dx,t1,t2,t3,t4,e,⟨b,vs,rfl,g,l,q⟩,_⟩:=hw.ex;have hi:i<vs.length:=by
  rw[l,fi];exact(fD.mp hs).1
 obtain⟨c,ec,gc⟩:=q i _ (Wm ss) (fj hi) (by rw[fw,hs];rfl);refine⟨_,rfl,p,_,dx,_,_,rfl,e,T.aj,T.aA,J9 _ _ _ _,_,rfl,b,vs,_,_,rfl,rfl,nX g,Zj (fj hi),?_⟩;rw[ec];exact .inl ⟨c,_,rfl,.inr (nX gc),k⟩
def zD(K:W.Frag)(a:Adr):Sp:=fun vs H Q _=>Ex4 fun p d i ss=>Cj4 (vs=[.ref p,.int (i:Nat)]) (Z0 a.C_World H p d) (d.ways[i]?=some ss) (∀l,H l=none->Q (.ref l) (upd H l (.lst ((Yc ss).map V.int))))
theorem Ww:Okd P w K mg base a 1 a.y34 a.z34 cZ zD:=fun T hw=>by
 refine okF T.ah.f zB fun cR A outer s H vs Q E hr h=>?_;obtain⟨p,d,i,ss,rfl,hw,hs,k⟩:=h;refine⟨_,(Zh (Zm (ZO (YL (K:=K) rfl rfl) rfl T.aN nY (Za (Zv (ZP (K:=K) rfl) (Wa (K:=K) rfl (pv 0) rfl) (pv 1) (fun _ _=>rfl)) Zb rfl)))),?_⟩;obtain⟨dx,t1,t2,t3,t4,e,_,⟨b,vs,rfl,g,l,q⟩,_⟩:=hw.ex;have hi:i<vs.length:=by
  rw[l,fi];exact(fD.mp hs).1
 obtain⟨c,ec,gc⟩:=q i _ (Yc ss) (fj hi) (by rw[fw,hs];rfl);refine⟨_,rfl,p,_,dx,_,_,rfl,e,T.aj,T.aM,Zdm _ _ _ _,_,rfl,b,vs,_,_,rfl,rfl,nX g,Zj (fj hi),?_⟩;rw[ec];exact .inl ⟨c,_,rfl,.inr (nX gc),k⟩
end KK
namespace L3
open PySem PySem.Spec PyProof.Rows L2
theorem qM{xs:List α}{p:Nat}(p1:1<=p)(hp:p<=xs.length):atI xs (-(p:Int))=some (xs[xs.length-p]'(by omega)):=by
 unfold atI ixN;rw[if_neg (by omega),if_pos (by omega)]
 show xs[_]?=_
 have e:(-(p:Int)+(xs.length:Nat)).toNat=xs.length-p:=by omega
 rw[e];exact fj (by omega)
theorem ZcF(xs:List V){p:Nat}(p1:1<=p)(hp:p<=xs.length):Vi xs (some (-(p:Int))) none=xs.drop (xs.length-p):=by
 unfold Vi;have e:HT.sIx xs.length 0 (some (-(p:Int)))=xs.length-p:=by
  show(if(-(p:Int))<0 then(-(p:Int)+(xs.length:Nat)).toNat else min (-(p:Int)).toNat xs.length)=_
  rw[if_pos (by omega)];omega
 rw[e,HT.sIx_none];exact mI (by rw[g6];omega)
def XD(way ring:List Int)(k:Nat):Int:=if k<way.length then way.getD k 0 else ring.getD ((k-way.length)%ring.length) 0
theorem ZdW{k:Nat}(h:k<(way++ring).length):(way++ring)[k]=XD way ring k:=by
 rw[fu] at h;unfold XD
 by_cases c:k<way.length
 ·rw[if_pos c,List.getElem_append_left c,iT,fj c];rfl
 ·rw[if_neg c,List.getElem_append_right (by omega),Nat.mod_eq_of_lt (by omega),iT,fj (by omega)];rfl
theorem jj(hr:ring≠[]){k:Nat}(h:(way++ring).length<=k):XD way ring k=XD way ring (k-ring.length):=by
 rw[fu] at h;have l0:0<ring.length:=nv fun e=>hr (mT e);unfold XD;rw[if_neg (by omega),if_neg (by omega)]
 congr 1
 have e:k-way.length=(k-ring.length-way.length)+ring.length:=by omega
 rw[e,Nat.add_mod_right]
def X4(t:Tr):Bool:=match t.lb with
 |.yes=>true
 |.sign _=>true
 |.op w=>decide (w = "some")
 |_=>false
noncomputable def YM(d:WD)(st:Tr->List Int)(t:Tr)(r:Int):Bool:=match t.lb with
 |.yes=>true
 |.sign z=>decide (z∈xC d r)
 |_=>decide (r∈st t)
noncomputable def U7(at_:Nat->Bool)(c:Lb)(gs:List (Nat->Bool)):Nat->Bool:=
 let g:=gs.getD 0 (fun _=>false)
 let h:=gs.getD 1 (fun _=>false)
 match c with
 |.yes=>at_
 |.sign _=>at_
 |.op w=>if w = "some" then at_ else if w = "not" then(fun k=>!g k) else if w = "next" then(fun k=>g (k+1)) else if w = "before" then Qd g else if w = "until" then X2 g h else Xu g h
 |_=>fun k=>g k&&h k
noncomputable def kX(d:WD)(st:Tr->List Int)(rm:Nat->Int)(c:Lb)(ps:List (Tr×(Nat->Bool))):Tr×(Nat->Bool):=(.node c (ps.map Prod.fst),U7 (fun k=>YM d st (.node c (ps.map Prod.fst)) (rm k)) c (ps.map Prod.snd))
noncomputable def Z5(d:WD)(st:Tr->List Int)(rm:Nat->Int)(t:Tr):Nat->Bool:=(Y1 (kX d st rm) t).2
theorem J0(d:WD)(st:Tr->List Int)(rm:Nat->Int):∀(n:Nat) (t:Tr),psz t<=n->(Y1 (kX d st rm) t).1=t
 |0,t,h=>by have:=Xv t;omega
 |n+1,t,h=>by
  rw[Vb]
  show Tr.node t.lb _=t
  have e:(t.ks.map (Y1 (kX d st rm))).map Prod.fst=t.ks:=by
   rw[gB];have:t.ks.map (Prod.fst∘Y1 (kX d st rm))=t.ks.map id:=mi fun k hk=>J0 d st rm n k (by have:=YG hk;omega);rw[this,List.map_id]
  rw[e];exact(Tr.eta t).symm
theorem Uy(d:WD)(st:Tr->List Int)(rm:Nat->Int)(t:Tr):Z5 d st rm t=U7 (fun k=>YM d st t (rm k)) t.lb (t.ks.map (Z5 d st rm)):=by
 unfold Z5;rw[Vb]
 show U7 (fun k=>YM d st (.node t.lb ((t.ks.map (Y1 (kX d st rm))).map Prod.fst)) (rm k)) t.lb ((t.ks.map (Y1 (kX d st rm))).map Prod.snd)=_
 have e:(t.ks.map (Y1 (kX d st rm))).map Prod.fst=t.ks:=by
  rw[gB];have:t.ks.map (Prod.fst∘Y1 (kX d st rm))=t.ks.map id:=mi fun k hk=>J0 d st rm _ k (fh _);rw[this,List.map_id]
 rw[e,<- Tr.eta t,gB];rfl
theorem jW{rm:Nat->Int}{t:Tr}(h:X4 t=true):Z5 d st rm t=fun k=>YM d st t (rm k):=by
 rw[Uy];unfold X4 at h;cases e:t.lb with
 |yes=>rfl
 |sign z=>rfl
 |op w=>
  rw[e] at h;unfold U7;exact if_pos (fT h)
 |wit m=>rw[e] at h;cases h
 |many w=>rw[e] at h;cases h
theorem ZdS{ks:List Tr}(h:ks.length=1):∃a,ks=[a]:=by
 cases ks with
 |nil=>cases h
 |cons a r=>cases r with
  |nil=>exact⟨a,rfl⟩
  |cons b s=>simp at h
theorem k3{ks:List Tr}(h:ks.length=2):∃a b,ks=[a,b]:=by
 cases ks with
 |nil=>cases h
 |cons a r=>cases r with
  |nil=>simp at h
  |cons b s=>cases s with
   |nil=>exact⟨a,b,rfl⟩
   |cons c u=>simp at h
theorem Ze9:∀w∈W6,w ≠ "some" -> w∈W1->w = "not" \/ w = "next" \/ w = "before" := by decide +kernel
theorem ZfA:∀w∈W6,w ≠ "some" -> w∈W2->w = "until" \/ w = "since" := by decide +kernel
theorem Wr{t:Tr}(hc:isC t=true)(ok:XN t.lb t.ks.length)(h:X4 t=false) :
  (∃w a,t=.node (.op w) [a]/\(w = "not" \/ w = "next" \/ w = "before"))\/(∃w a b,t=.node (.op w) [a,b]/\(w = "until" \/ w = "since"))\/∃a b,t=.node (.many "and") [a,b]:=by
 obtain⟨c,ks⟩:=t;rw[YV] at hc;unfold Us at hc;rw[gb] at hc;obtain⟨_,hc⟩:=hc;unfold X4 at h;cases c with
 |yes=>cases h
 |sign z=>cases h
 |op w=>
  have w6:=fT hc;have ns:w ≠ "some" := lZ h;rcases ok with⟨ok,l⟩|⟨ok,l⟩
  ·obtain⟨a,rfl⟩:=ZdS l;exact .inl ⟨w,a,rfl,Ze9 w w6 ns ok⟩
  ·obtain⟨a,b,rfl⟩:=k3 l;exact .inr (.inl ⟨w,a,b,rfl,ZfA w w6 ns ok⟩)
 |wit m=>cases hc
 |many w=>
  change (decide (w = "and")&&decide ((ks.map isC).length=2))=true at hc
  rw[gb] at hc;have e1:=fT hc.1;have e2:=fT hc.2;rw[fi] at e2;obtain⟨a,b,rfl⟩:=k3 e2;subst e1;exact .inr (.inr ⟨a,b,rfl⟩)
theorem UT(at_:Nat->Bool)(w:Str)(gs:List (Nat->Bool)):U7 at_ (.op w) gs=if w = "some" then at_ else if w = "not" then(fun k=>!gs.getD 0 (fun _=>false) k) else if w = "next" then(fun k=>gs.getD 0 (fun _=>false) (k+1)) else if w = "before" then Qd (gs.getD 0 fun _=>false) else if w = "until" then X2 (gs.getD 0 fun _=>false) (gs.getD 1 fun _=>false) else Xu (gs.getD 0 fun _=>false) (gs.getD 1 fun _=>false):=rfl
section
variable{rm:Nat->Int}
theorem jG(a:Tr):Z5 d st rm (.node (.op "not") [a])=fun k=>!Z5 d st rm a k:=by
 rw[Uy]
 show U7 _ (.op _) _=_
 rw[UT];rw[if_neg (by decide +kernel),if_pos rfl];rfl
theorem yX(a:Tr):Z5 d st rm (.node (.op "next") [a])=fun k=>Z5 d st rm a (k+1):=by
 rw[Uy]
 show U7 _ (.op _) _=_
 rw[UT];rw[if_neg (by decide +kernel),if_neg (by decide +kernel),if_pos rfl];rfl
theorem qC(a:Tr):Z5 d st rm (.node (.op "before") [a])=Qd (Z5 d st rm a):=by
 rw[Uy]
 show U7 _ (.op _) _=_
 rw[UT];rw[if_neg (by decide +kernel),if_neg (by decide +kernel),if_neg (by decide +kernel),if_pos rfl];rfl
theorem zP(a b:Tr):Z5 d st rm (.node (.op "until") [a,b])=X2 (Z5 d st rm a) (Z5 d st rm b):=by
 rw[Uy]
 show U7 _ (.op _) _=_
 rw[UT];rw[if_neg (by decide +kernel),if_neg (by decide +kernel),if_neg (by decide +kernel),if_neg (by decide +kernel),if_pos rfl];rfl
theorem zC(a b:Tr):Z5 d st rm (.node (.op "since") [a,b])=Xu (Z5 d st rm a) (Z5 d st rm b):=by
 rw[Uy]
 show U7 _ (.op _) _=_
 rw[UT];rw[if_neg (by decide +kernel),if_neg (by decide +kernel),if_neg (by decide +kernel),if_neg (by decide +kernel),if_neg (by decide +kernel)];rfl
theorem kT(a b:Tr):Z5 d st rm (.node (.many "and") [a,b])=fun k=>Z5 d st rm a k&&Z5 d st rm b k:=by
 rw[Uy];rfl
theorem KL{t:Tr}(h:X4 t=true)(hr:ring≠[]):ZT ring.length ((way++ring).map (YM d st t)) (Z5 d st (XD way ring) t):=by
 have l0:0<ring.length:=nv fun e=>hr (mT e);rw[jW h];refine .of l0 (fi _) (by rw[fu];omega) (fun k hk=>?_) (fun k hk=>by rw[jj hr hk]);rw[fw,fj hk,ZdW hk];rfl
end
theorem yM{a:Addr}{Q:VK}(l:List α)(φ:α->V)(f:α->V)(hD:H0 D=none)(hq:SqT K H0 a (l.map φ))(hz:l.length<=sizeLine)
  (step:∀x∈l,∀H (N:V->Hp->Prop),Ze H0 H->(∀H4,Ze H H4->N (f x) H4)->te (some (φ x)::τ) H N)
  (fin:∀H',H' D=some (.lst (l.map f))->Ze H0 H'->Q (.ref D) H'):zp (Itt K a) D (V0 0) yL te (none::τ) H0 Q:=by
 refine xJ l φ (fun _=>true) f hD hz (fun i H hi s=>⟨_,φ l[i],Ze.seqT s hq,by rw[fw,fj hi];rfl⟩) (fun H s=>⟨_,Ze.seqT s hq,by rw[fi];exact fh _⟩) (fun i x H H2 hi s hyl=>?_) (fun x hx H N N0 s h1 _=>UU (step x hx H N s fun H4 s4=>h1 H4 s4 rfl)) (fun H' h s=>fin H' (by rw[h,List.filter_eq_self.mpr (fun _ _=>rfl)]) s);obtain⟨rfl,hx⟩:=hyl;have e:=hx _ (Ze.seqT s hq);rw[fw,fj hi] at e;exact⟨rfl,(fO e).symm⟩
def Ord(F:List Tr):Prop:=∀(j:Nat) t,F[j]?=some t->∀k∈ZI t,∃i:Nat,i<j/\F[i]?=some k
theorem Ord.add{F:List Tr}{t:Tr}(h:Ord F)(hk:∀k∈ZI t,k∈F):Ord (Vc F t):=by
 by_cases c:t∈F
 ·rw[Uq c];exact h
 ·rw[Vo c];intro j u e k hu
  by_cases cj:j<F.length
  ·rw[fW cj] at e;obtain⟨i,hi,ei⟩:=h j u e k hu;exact⟨i,hi,by rw[fW (by omega)];exact ei⟩
  ·have hj:=(fD.mp e).1;rw[fu,gn] at hj;rw[gf (by omega),show j-F.length=0 by omega] at e;cases e;obtain⟨i,hi,ei⟩:=gu (hk k hu);exact⟨i,by omega,by rw[fW hi,fj hi,ei]⟩
def PB(F:List Tr):List Tr->Prop
 |[]=>True
 |t::r=>(∀k∈ZI t,k∈F)/\PB (F++[t]) r
theorem PB.more{F G:List Tr}(s:∀x∈F,x∈G):∀{L:List Tr},PB F L->PB G L
 |[],_=>trivial
 |t::r,h=>⟨fun k hk=>s k (h.1 k hk),PB.more (F:=F++[t]) (G:=G++[t]) (fun x hx=>by
   rcases fG.mp hx with q|q
   ·exact fG.mpr (.inl (s x q))
   ·exact fG.mpr (.inr q)) h.2⟩
theorem PB.app:∀{L M F:List Tr},PB F L->PB (F++L) M->PB F (L++M)
 |[],M,F,_,h=>by rw[ip] at h;exact h
 |t::r,M,F,h,g=>⟨h.1,PB.app h.2 (by rw[iG];exact g)⟩
theorem PB.flat:∀{Ls:List (List Tr)}{F:List Tr},(∀L∈Ls,PB [] L)->PB F Ls.flatten
 |[],F,_=>trivial
 |L::r,F,h=>by
  rw[i8];exact PB.app ((h L im).more fun x hx=>by cases hx) (PB.flat fun M hM=>h M (fS _ hM))
theorem Jg:∀(n:Nat) (t:Tr),psz t<=n->PB [] (Zp t)
 |0,t,h=>by have:=Xv t;omega
 |n+1,t,h=>by
  rw[Xx];refine PB.app (PB.flat fun L hL=>?_) ⟨fun k hk=>?_,trivial⟩
  ·obtain⟨k,hk,rfl⟩:=fX.mp hL;exact Jg n k (by have:=YG (Yv hk);omega)
  ·rw[lJ];exact iz.mpr ⟨Zp k,fX.mpr ⟨k,hk,rfl⟩,qK k⟩
theorem QJ:∀{L F A:List Tr},PB F L->(∀x∈F,x∈A)->Ord A->Ord (Zk A L)
 |[],F,A,_,_,o=>o
 |t::r,F,A,h,s,o=>by
  rw[XA];refine QJ h.2 (fun x hx=>?_) (o.add fun k hk=>s k (h.1 k hk));rcases fG.mp hx with q|q
  ·exact yV.mpr (.inl (s x q))
  ·exact yV.mpr (.inr (fM.mp q))
theorem Jl(t:Tr):Ord (Zk [] (Zp t)):=QJ (Jg _ t (fh _)) (fun x hx=>by cases hx) fun j u h=>by simp at h
theorem jo(t:Tr):∃ts,Zk [] (Zp t)=ts++[t]:=by
 have e:Zp t=((ZI t).map Zp).flatten++[t]:=Xx t;rw[e,Yh]
 show ∃ts,Vc (Zk [] ((ZI t).map Zp).flatten) t=ts++[t]
 refine⟨_,Vo fun m=>?_⟩;rcases ZJ.mp m with q|q
 ·cases q
 ·obtain⟨L,hL,hq⟩:=iz.mp q;obtain⟨k,hk,rfl⟩:=fX.mp hL;have h1:=V1 _ (fh _) hq;have h2:=YG (Yv hk);omega
def W5:Value->Int
 |.int x _=>x
 |_=>0
def jE(prog:Program)(w:World)(B:Bool)(h:Heap)(a:Addr)(ss:List Int):Prop:=
 ∃o es ep t,h.get? a=some o/\o.ExactSet/\o.data=.set es ep t/\t.fits es.size=true/\ElemsOf (ZC prog w) es.toList/\(B=false->t.led=true) /\
  (∀e∈es.toList,∃x k,e.2=.int x k)/\(es.toList.map fun e=>W5 e.2).Nodup/\(∀x,x∈(es.toList.map fun e=>W5 e.2)↔x∈ss)/\es.size<=ss.length
theorem jE.keep{B:Bool}{a:Addr}{ss:List Int}(x:jE prog w B h a ss)(k:∀o,h.get? a=some o->h'.get? a=some o):jE prog w B h' a ss:=by
 obtain⟨o,es,ep,t,ho,r⟩:=x;exact⟨o,es,ep,t,k o ho,r⟩
theorem QD{B:Bool}{a:Addr}{ss:List Int}{x:Int}{Q:Bool->Shared->Prop}(hS:jE prog w B s.heap a ss)(hroom:ss.length+1<scanBound)
  (h:∀h' b,Heap.SameBut a s.heap h'->jE prog w B h' a (ss++[x])->Q b { s with heap:=h' }) :
  wpAny (model prog w) A (setAddHashed a (.int x tk) ((ZC prog w).hash (.inl x))) Q E s:=by
 have hkey:(ZC prog w).is (.inl x) (.int x tk)=true:=V4 x tk;have hsc:(Value.int x tk).scannable=true:=rfl;obtain⟨o,es,ep,t,ho,hex,hd,hf,hel,hL,hst,hnd,hin,hle⟩:=hS;have hb:es.size<scanBound:=by omega
 have isx:∀e∈es.toList,((ZC prog w).is (.inl x) e.2=true↔W5 e.2=x):=fun e m=>by
  obtain⟨y,k,ey⟩:=hst e m;rw[ey];constructor
  ·intro q;have q2:UG (.inl x) (.int y k)=true:=q;rcases Yt q2 with⟨i,t',e1,e2⟩|⟨z,t',e1,e2⟩
   ·cases e1;cases e2;rfl
   ·cases e1
  ·intro q;have q':y=x:=q;subst q';exact V4 y k
 unfold setAddHashed setAddHashedIn;refine gW (fg (ij ho hd hf ?_));dsimp only;rw[byScan_of hsc hb hel];simp only[↓reduceIte];unfold setAddByScan;refine fg ?_;refine fg (lS ?_);refine fg (wpAny_setScan_of hkey ho hd hf hel ?_);cases hr:List.findIdx? (fun e=>(ZC prog w).is (.inl x) e.2) es.toList with
 |some j=>
  dsimp only;obtain⟨hj,hpj,_⟩:=List.findIdx?_eq_some_iff_getElem.mp hr;refine fq (fq ?_);have e:s={ s with heap:=s.heap }:=by cases s;rfl
  rw[e];have hm:x∈ss:=(hin x).mp (fX.mpr ⟨es.toList[j],fN hj,(isx _ (fN hj)).mp hpj⟩);refine h s.heap false (Heap.SameBut.refl a s.heap) ⟨o,es,ep,t,ho,hex,hd,hf,hel,hL,hst,hnd,fun y=>?_,by rw[fu];omega⟩;rw[hin y,fG,fM];exact⟨.inl,fun q=>q.elim id fun q=>q▸hm⟩
 |none=>
  dsimp only;have hnone:∀e∈es.toList,W5 e.2≠x:=fun e m q=>by
   have:=List.findIdx?_eq_none_iff.mp hr e m;rw[(isx e m).mpr q] at this;cases this
  have hgw:∀(b:Bool) {s₁:Shared}{Q':Unit->Shared->Prop},Q' () s₁->wpAny (model prog w) A (match b with|true=>rule "set.scan.the-table-gave-way" |false=>pure ()) Q' E s₁:=
   fun b s₁ Q' hq=>by cases b<;>first|exact fq hq|exact lS hq
  have hperm:=layNew_perm t es ((ZC prog w).hash (.inl x)) (.int x tk);have hfits:=layNew_fits t es ((ZC prog w).hash (.inl x)) (.int x tk);have hled:=Kt t es ((ZC prog w).hash (.inl x)) (.int x tk);generalize hLn:layNew t es ((ZC prog w).hash (.inl x)) (.int x tk)=L at hperm hfits hled ⊢;obtain⟨es1,t1,wasDummy,gave⟩:=L;dsimp only at hperm hfits hled ⊢;rw[nr] at hperm;have hel1:ElemsOf (ZC prog w) es1.toList:=(hel.push hkey hsc).perm hperm;have hsz1:es1.size=es.size+1:=by rw[<- hV,hperm.length_eq,fu,hV];rfl
  have good:∀(es2:Array (Int×Value)),es2.toList.Perm es1.toList->(∀e∈es2.toList,∃x k,e.2=.int x k)/\(es2.toList.map fun e=>W5 e.2).Nodup/\(∀y,y∈(es2.toList.map fun e=>W5 e.2)↔y∈ss++[x]):=fun es2 hp=>by
   have hp2:=hp.trans hperm;have hm:=hp2.map fun e=>W5 e.2;rw[fQ] at hm;refine⟨fun e m=>?_,hm.nodup_iff.mpr (li.mpr ⟨hnd,by simp,fun u hu v hv=>?_⟩),fun y=>?_⟩
   ·rcases fG.mp (hp2.mem_iff.mp m) with m|m
    ·exact hst e m
    ·rw[fM] at m;subst m;exact⟨x,tk,rfl⟩
   ·obtain⟨e,m,rfl⟩:=fX.mp hu;have:v=x:=by simpa[W5] using hv
    rw[this];exact hnone e m
   ·rw[hm.mem_iff,fG,fG,hin y];simp[W5]
  refine fg (hgw _ ?_);have X3:∀t2:SetTable,t2.fits es1.size=true->t2.led=t.led->wpAny (model prog w) A (do
    storeSet a es1 t2
    if(!wasDummy&&t2.tooFull)=true then do
      (match (relayAll t2 es1 (SetTable.grown es1.size)).2.2 with|true=>rule "set.scan.the-table-gave-way" |false=>pure ())
      storeSet a (relayAll t2 es1 (SetTable.grown es1.size)).1 (relayAll t2 es1 (SetTable.grown es1.size)).2.1
      pure (some true)
     else pure (some true)) (fun a_1 s'=>wpAny (model prog w) A (match a_1 with|some added=>pure added|none=>setAddHashedIn a (.int x tk) ((ZC prog w).hash (.inl x)) 99999) Q E s') E s:=by
   intro t2 f2 l2;refine fg (wpAny_storeSet_of ho hd ?_ (by rw[ft];have:scanBound=4096:=rfl;omega));have hg:=jr (es':=es1) (t':=t2) ho hd;have sb:=Heap.SameBut.update s.heap a (Obj.putSet es1 t2)
   split
   ·have hp:=relayAll_perm t2 es1 (SetTable.grown es1.size);have hfr:=relayAll_fits t2 es1 (SetTable.grown es1.size);have hlr:=jU t2 es1 (SetTable.grown es1.size);generalize hRl:relayAll t2 es1 (SetTable.grown es1.size)=Rl at hp hfr hlr ⊢;obtain⟨es2,t3,gave2⟩:=Rl;dsimp only at hp hfr hlr ⊢;have hsz:es2.size=es1.size:=by rw[<- hV,hp.length_eq,hV]
    refine fg (hgw _ ?_);refine fg (wpAny_storeSet_of hg rfl ?_ (by rw[ft];have:scanBound=4096:=rfl;omega));have hg':=jr (es':=es2) (t':=t3) hg rfl;obtain⟨g1,g2,g3⟩:=good es2 hp;exact fq (fq (h _ true (sb.trans (Heap.SameBut.update _ a _)) ⟨_,es2,_,t3,hg',hex,rfl,hfr,hel1.perm hp,(fun z=>by rw[hlr,l2];exact hL z),g1,g2,g3,by rw[hsz,hsz1,fu];simp;omega⟩))
   ·obtain⟨g1,g2,g3⟩:=good es1 (.refl _);exact fq (fq (h _ true sb ⟨_,es1,_,t2,hg,hex,rfl,f2,hel1,(fun z=>by rw[l2];exact hL z),g1,g2,g3,by rw[hsz1,fu];simp;omega⟩))
  split
  ·refine fg ?_;rw[hashByValue_scannable 8 hsc];refine fq ?_
   split
   ·exact X3 t1 hfits hled
   ·exact X3 _ (SetTable.fits_plain_off hfits) hled
  ·refine fg (fq ?_);simp only[↓reduceIte];exact X3 t1 hfits hled
theorem Zah{l:Addr}{ss:List Int}{items:List Value}(hh:A.handled=none)(hl:s.heap.IsList l items.toArray)(hv:ZM (ss.map V.int) items)(hb:ss.length<1000)
  (h:∀(h':Heap) (tk:Nat),jE prog w (w.params.followText "set-order") h' s.heap.objs.size ss->(∀b o,s.heap.get? b=some o->h'.get? b=some o)->Q (.ref s.heap.objs.size) { s with heap:=h',toks:=tk }) :
  wpAny (model prog w) A (call (.type "set") [.ref l]) Q E s:=by
 have len:items.length=ss.length:=by rw[<- hv.length,fi]
 have hmap:items.map W5=ss:=by
  clear h hb len hl
  induction ss generalizing items with
  |nil=>cases hv;rfl
  |cons y r ih=>
   cases hv with
   |cons h1 h2=>
    obtain⟨t,rfl⟩:=h1;rw[fP,ih h2];rfl
 have hstr:∀v∈items,∃x k,v=.int x k:=by
  clear h hb len hl hmap
  induction ss generalizing items with
  |nil=>cases hv;intro v h;cases h
  |cons y r ih=>
   cases hv with
   |cons h1 h2=>
    obtain⟨t,rfl⟩:=h1;intro v hm;rcases fF.mp hm with rfl|hm
    ·exact⟨_,_,rfl⟩
    ·exact ih h2 v hm
 refine ZaK (SI:=fun h vs=>jE prog w (w.params.followText "set-order") h s.heap.objs.size (vs.map W5)) hh hl (fun x k=>x.keep k) ?_ ?_ fun h' tk a b=>h h' tk (by rw[hmap] at a;exact a) b
 ·exact⟨_,#[],0,_,fR _ rfl,⟨rfl,rfl,rfl⟩,rfl,by rfl,(fun e he=>by simp at he),(fun z=>by show(!_)=true;rw[z];rfl),(fun e he=>by simp at he),by simp,fun x=>by simp,gk _⟩
 ·intro A' s' i v hA hvi hg hS E Q hQ;obtain⟨x,k,rfl⟩:=hstr v (fU hvi);unfold setAdd;refine gW (fg ((ZC prog w).pyHash (k:=.inl x) (V4 x k) ?_));refine QD (s:={ s' with toks:=s'.toks+1 }) (ss:=(items.take i).map W5) hS (by rw[fi,fZ];have:scanBound=4096:=rfl;omega) fun h' b sb hS'=>hQ h' _ b sb ?_;rw[fQ];exact hS'
theorem ZaW{B:Bool}{pk:Nat->Nat}{seq:List Value}
  (b1:∀(i:Nat) x,seq[i]?=some x->WL B (pickOrder pk es) es place (sls i) (0+i)=some (x,sls (i+1))) :
  ∀f:Value->Int,(es.toList.map fun e=>f e.2).Nodup->(seq.map f).Nodup:=by
 intro f hn;cases B with
 |true=>
  have hp:((pickOrder pk es).toList.map fun e=>f e.2).Nodup:=((Zaj (next:=pk) es).map _).nodup_iff.mpr hn;unfold List.Nodup;rw[mN];intro i j hi hj hij;rw[fi] at hi hj;have hx:∀(i:Nat) (h:i<seq.length),((pickOrder pk es).toList.map fun e=>f e.2)[i]?=some (f seq[i]):=fun i h=>by
   have:=b1 i seq[i] (fj h);unfold WL at this;simp only[gZ] at this;obtain⟨e,e1,e2⟩:=iw.mp this;rw[lU] at e1;rw[fw,i9,e1];have:e.2=seq[i]:=fI Prod.fst e2;rw[<- this];rfl
  rw[iC,iC];intro e;have h1:=hx i hi;have h2:=hx j hj;rw[<- e] at h2;obtain⟨l1,g1⟩:=fD.mp h1;obtain⟨l2,g2⟩:=fD.mp h2;have:=(iM hp).mp (g1.trans g2.symm);omega
 |false=>
  have st:∀(i:Nat) (h:i<seq.length),∃k p:Nat,(∃e,es[k]?=some e/\e.2=seq[i])/\place[k]?=some p/\sls i<=p/\sls (i+1)=p+1:=fun i h=>by
   have:=b1 i seq[i] (fj h);unfold WL at this;simp only[gX,gG] at this
   split at this
   ·rename_i u x j h1 h2
    have g:=fO this;have gx:x=seq[i]:=fI Prod.fst g;have gs:j+1=sls (i+1):=fI Prod.snd g;exact⟨_,j,⟨_,h1,gx⟩,h2,Ji rfl h2,gs.symm⟩
   ·cases this
  have up:∀(d i:Nat),i+d<=seq.length->sls i<=sls (i+d):=fun d=>by
   induction d with
   |zero=>exact fun i _=>fh _
   |succ d ih=>
    intro i h;obtain⟨k,p,_,_,h3,h4⟩:=st (i+d) (by omega);have:=ih i (by omega);have e:i+(d+1)=i+d+1:=by omega
    rw[e,h4];omega
  unfold List.Nodup;rw[mN];intro i j hi hj hij;rw[fi] at hi hj;rw[iC,iC];obtain⟨k1,p1,⟨e1,a1,c1⟩,a2,a3,a4⟩:=st i hi;obtain⟨k2,p2,⟨e2,d1,c2⟩,d2,d3,d4⟩:=st j hj;have hu:=up (j-(i+1)) (i+1) (by omega);have ej:i+1+(j-(i+1))=j:=by omega
  rw[ej,a4] at hu;intro e;have hk:k1≠k2:=fun z=>by rw[z,d2] at a2;cases a2;omega
  have q1:(es.toList.map fun e=>f e.2)[k1]?=some (f seq[i]):=by rw[fw,i9,a1,<- c1];rfl
  have q2:(es.toList.map fun e=>f e.2)[k2]?=some (f seq[j]):=by rw[fw,i9,d1,<- c2];rfl
  rw[<- e] at q2;obtain⟨l1,g1⟩:=fD.mp q1;obtain⟨l2,g2⟩:=fD.mp q2;exact hk ((iM hn).mp (g1.trans g2.symm))
theorem Qe{seq:List Value}{ys:List Nat}(nd:ys.Nodup)(q1:seq.length=ys.length)(q2:∀(i:Nat) x,seq[i]?=some x->∃p e,ys[i]?=some p/\es[p]?=some e/\x=e.2) :
  ∀f:Value->Int,(es.toList.map fun e=>f e.2).Nodup->(seq.map f).Nodup:=by
 intro f hn;unfold List.Nodup;rw[mN];intro i j hi hj hij;rw[fi] at hi hj;rw[iC,iC];obtain⟨p1,e1,a1,c1,f1⟩:=q2 i _ (fj hi);obtain⟨p2,e2,a2,c2,f2⟩:=q2 j _ (fj hj);intro e;have r1:(es.toList.map fun e=>f e.2)[p1]?=some (f seq[i]):=by rw[fw,i9,c1,f1];rfl
 have r2:(es.toList.map fun e=>f e.2)[p2]?=some (f seq[j]):=by rw[fw,i9,c2,f2];rfl
 rw[<- e] at r2;obtain⟨l1,g1⟩:=fD.mp r1;obtain⟨l2,g2⟩:=fD.mp r2;have hp:=(iM hn).mp (g1.trans g2.symm);rw[<- hp] at a2;obtain⟨m1,k1⟩:=fD.mp a1;obtain⟨m2,k2⟩:=fD.mp a2;have:=(iM nd).mp (k1.trans k2.symm);omega
def ZcL(prog:Program)(w:World)(A:Around)(es:Array (Int×Value))(z:Nat)(a I:Addr)(h:Heap):Prop:=
 ∃(fp:List Addr) (seq:List Value) (St:Nat->Heap->Prop),Walks prog w A I fp [I] seq.length (fun i v=>seq[i]?=some v) St/\St 0 h/\(∀b∈fp,b<h.objs.size)/\(∀b∈fp,b=a\/z<=b)/\I∈fp/\(∀v∈seq,∃e∈es.toList,v=e.2)/\seq.length<=es.size/\(0<es.size->0<seq.length)/\∀f:Value->Int,(es.toList.map fun e=>f e.2).Nodup->(seq.map f).Nodup
theorem ZaL{A':Around}{a:Addr}{es ep t}(hh:A'.handled=none)(hS:Wl s.heap a es ep t)(hf:t.fits es.size=true)(hled:w.params.followText "set-order" = false->t.led=true)(hz:es.size<=1000)
  (hQ:∀I h' dr,s.heap.objs.size<=I->(∀b o,s.heap.get? b=some o->h'.get? b=some o)->ZcL prog w A' es s.heap.objs.size a I h'->Q (.ref I) { s with heap:=h',drawn:=dr }):wpAny (model prog w) A (pyIter (.ref a)) Q E s:=by
 obtain⟨o,ho,hc,hd⟩:=id hS;have haz:a<s.heap.objs.size:=fC ho;refine wpAny_pyIter_slot hS.typeIs F.slot_set_iter (ia F.slot_set_iter hS.typeIs yY ?_ (F.args_set_iter_1 _))
 show wpAny _ _ (Builtin.Frozenset.sizeOf a >>= _) _ _ s
 refine fg ?_;unfold Builtin.Frozenset.sizeOf setEntries;refine fg (fg (ij ho hd hf (fq (fq ?_))));dsimp only;refine fg ?_;unfold setDrawn;refine fg (ij ho hd hf ?_);dsimp only;refine fg ?_;unfold setsByText;refine fg (mR (fq ?_))
 show wpAny _ _ (pure (!w.params.followText "set-order" && (!t.plain&&decide (es.size>1)))) _ _ s
 refine fq ?_;have fits_:=hf;have hpl:t.place.size=es.size:=by
  unfold SetTable.fits at hf;rw[gb] at hf;simpa using hf.1
 cases hdr:(!w.params.followText "set-order" && (!t.plain&&decide (es.size>1)))
 ·simp only[gX,gG];refine fg (fq ?_);refine fg ?_;unfold setEpoch;refine fg (ij ho hd hf (fq ?_));dsimp only;refine fg (g7 ?_);refine fq ⟨_,rfl, "set_iterator",_,⟨_,fR _ rfl,rfl⟩,ZV.lookup,?_⟩;have hw:w.params.followText "set-order" = false->t.led=true/\(t.plain=true\/es.size<=1):=fun e=>by
   refine⟨hled e,?_⟩;rw[e] at hdr;simp only[Bool.not_false,iS,Bool.and_eq_false_iff,Bool.not_eq_false',na] at hdr;rcases hdr with h|h
   ·exact .inl h
   ·exact .inr (by omega)
  have hdone:∃(seq:List Value) (sls:Nat->Nat),sls 0=0/\(∀i x,seq[i]?=some x->WL (w.params.followText "set-order") (pickOrder (w.params.setOrder a ep) es) es t.place (sls i) (0+i)=some (x,sls (i+1))) /\
    WL (w.params.followText "set-order") (pickOrder (w.params.setOrder a ep) es) es t.place (sls seq.length) (0+seq.length)=none/\seq.length<=es.size:=by
   obtain⟨p1,p2,p3⟩:=jN (next:=w.params.setOrder a ep) es;cases hT:w.params.followText "set-order"
   ·obtain⟨seq,sls,a1,a2,a3,a4⟩:=K2 (nxt:=WL false (pickOrder (w.params.setOrder a ep) es) es t.place) (m:=fun sl _=>t.place.toList.countP (fun x=>decide (sl<=x))) (fun sl g x sl' he=>by
     unfold WL at he;simp only[gX,gG] at he
     split at he
     ·rename_i j _ hj
      cases he;refine ZcN ?_ (Ji rfl hj);have:=nB hj;simpa using this
     ·cases he) _ 0 0 (fh _)
    refine⟨seq,sls,a1,a2,a3,fK a4 (fK List.countP_le_length ?_)⟩;rw[hV];omega
   ·obtain⟨seq,sls,a1,a2,a3,a4⟩:=K2 (nxt:=WL true (pickOrder (w.params.setOrder a ep) es) es t.place) (m:=fun _ g=>(pickOrder (w.params.setOrder a ep) es).size-g) (fun sl g x sl' he=>by
     unfold WL at he;simp only[gZ] at he;obtain⟨e,he1,he2⟩:=iw.mp he;have:g<(pickOrder (w.params.setOrder a ep) es).size:=by
      rcases Nat.lt_or_ge g (pickOrder (w.params.setOrder a ep) es).size with h|h
      ·exact h
      ·rw[nj h] at he1;cases he1
     show _-(g+1)<_-g
     omega) _ 0 0 (fh _)
    exact⟨seq,sls,a1,a2,a3,by omega⟩
  obtain⟨seq,sls,b0,b1,b2,b3⟩:=hdone;have once:=ZaW (fun i x hx=>b1 i x hx);have mem:∀sl g x sl',WL (w.params.followText "set-order") (pickOrder (w.params.setOrder a ep) es) es t.place sl g=some (x,sl')->∃e∈es.toList,x=e.2:=fun sl g x sl' he=>by
   unfold WL at he
   split at he
   ·obtain⟨e,he1,he2⟩:=iw.mp he;cases he2;refine⟨e,(jN (next:=w.params.setOrder a ep) es).1 e ?_,rfl⟩;have:=nB he1;simpa using this
   ·split at he
    ·rename_i h1 h2
     cases he;have:=nB h1;exact⟨_,by simpa using this,rfl⟩
    ·cases he
  refine hQ _ _ s.drawn (fh _) (fun b o z=>fz _ z) ⟨_,seq,_,KO (prog:=prog) (A:=A') hh (fE haz) hf hw (fun i x hx=>by have:=b1 i x hx;rwa [lU] at this) (by rw[lU] at b2;exact b2),⟨⟨0,?_⟩,?_⟩,?_,?_,by simp,?_,b3,?_,once⟩
  ·rw[b0];exact⟨_,0,0,0,fR _ rfl,rfl,rfl⟩
  ·exact⟨o,fz _ ho,hc,hd⟩
  ·intro b hb;rw[ie];simp only[fF,gO,gQ] at hb;rcases hb with h|h
   ·rw[h];exact i0 _
   ·rw[h];exact iQ haz
  ·intro b hb;simp only[fF,gO,gQ] at hb;rcases hb with h|h
   ·exact .inr (by rw[h];exact fh _)
   ·exact .inl h
  ·intro v hv;obtain⟨i,hi,e⟩:=gu hv;have:=b1 i v (by rw[fj hi,e]);exact mem _ _ _ _ this
  ·intro hpos;rcases Nat.eq_zero_or_pos seq.length with h0|h0
   ·rw[h0,b0] at b2
    exfalso
    unfold WL at b2
    split at b2
    ·have:=(jN (next:=w.params.setOrder a ep) es).2.2 hpos;rw[Option.map_eq_none_iff,Array.getElem?_eq_none_iff] at b2;omega
    ·have hb:SetTable.below t.place 0=0:=yg _ _;rw[hb,mC es 0 hpos,mC t.place 0 (by omega)] at b2;cases b2
   ·exact h0
 ·simp only[gZ];refine fg (xX es.size (List.range es.size) (by simp) fun ys dr hpm=>?_);have y1:∀y∈ys,y∈List.range es.size:=fun y hy=>hpm.mem_iff.mp hy;have y2:ys.length<=es.size:=by rw[hpm.length_eq,fY];exact fh _
  have y3:0<es.size->List.range es.size≠[]->0<ys.length:=fun h _=>by rw[hpm.length_eq,fY];exact h
  have y5:ys.Nodup:=hpm.nodup_iff.mpr List.nodup_range;refine fg (wpAny_newTuple (items:=ys.map fun(i:Nat)=>rawInt (i:Int)) ?_ (by rw[fi,ft];omega));refine fg ?_;unfold setEpoch;have ho1:(s.heap.push { cls:=.type "tuple",data:=.seq (ys.map fun(i:Nat)=>rawInt (i:Int)).toArray }).get? a=some o:=fz _ ho;refine fg (ij (s:={ s with drawn:=dr,heap:=_ }) ho1 hd hf (fq ?_));dsimp only;refine fg (g7 ?_);refine fq ⟨_,rfl, "set_iterator",_,⟨_,fR _ rfl,rfl⟩,ZV.lookup,?_⟩;have y4:∀y∈ys,y<es.size:=fun y hy=>lE.mp (y1 y hy);have ex:∃seq:List Value,seq.length=ys.length/\∀(i:Nat) x,seq[i]?=some x->∃p e,ys[i]?=some p/\es[p]?=some e/\x=e.2:=by
   refine⟨ys.map fun p=>(es.getD p (0,.none)).2,by simp,fun i x hx=>?_⟩;rw[fw] at hx;obtain⟨p,e1,e2⟩:=iw.mp hx;have hp:=y4 p (fU e1);refine⟨p,es[p],e1,mC es p hp,?_⟩;rw[<- e2,Array.getD_eq_getD_getElem?,mC es p hp];rfl
  obtain⟨seq,q1,q2⟩:=ex;have z1:(s.heap.push { cls:=.type "tuple",data:=.seq (ys.map fun(i:Nat)=>rawInt (i:Int)).toArray }).objs.size=s.heap.objs.size+1:=ie _ _;refine hQ _ _ dr (by rw[z1];exact iF _) (fun b o z=>fz _ (fz _ z)) ⟨_,seq,_,K3 (prog:=prog) (A:=A') (T:=s.heap.objs.size) (ps:=ys) (ep:=ep) hh (by rw[z1];exact fE (iQ haz)) (by rw[z1];exact fE (i0 _)) hf q1 q2,⟨?_,?_,?_⟩,?_,?_,by simp,?_,by omega,?_,Qe y5 q1 q2⟩
  ·exact⟨_,0,0,0,fR _ rfl,rfl,rfl⟩
  ·exact⟨o,fz _ ho1,hc,hd⟩
  ·exact⟨_,_,fz _ (fR _ rfl),rfl,rfl⟩
  ·intro b hb;rw[ie,z1];simp only[fF,gO,gQ] at hb;rcases hb with h|h|h
   ·rw[h,z1];exact i0 _
   ·rw[h];exact iQ (iQ haz)
   ·rw[h];exact iQ (i0 _)
  ·intro b hb;simp only[fF,gO,gQ] at hb;rcases hb with h|h|h
   ·exact .inr (by rw[h,z1];exact iF _)
   ·exact .inl h
   ·exact .inr (by rw[h];exact fh _)
  ·intro v hv;obtain⟨i,hi,e⟩:=gu hv;obtain⟨p,en,_,e2,e3⟩:=q2 i v (by rw[fj hi,e]);have:=nB e2;exact⟨en,by simpa using this,e3⟩
  ·intro hpos;rw[q1];exact y3 hpos (fun e=>by
    have:(List.range es.size).length=0:=by rw[e];rfl
    rw[fY] at this;omega)
def Jt(B:Bool)(h:Heap)(a:Addr)(ss:List Int):Prop:=
 ∃es ep t,Wl h a es ep t/\t.fits es.size=true/\(B=false->t.led=true) /\
  (∀e∈es.toList,∃x k,e.2=.int x k)/\(es.toList.map fun e=>W5 e.2).Nodup/\(∀x,x∈(es.toList.map fun e=>W5 e.2)↔x∈ss)/\es.size<=ss.length
theorem jE.toL{B:Bool}{a:Addr}{ss:List Int}(x:jE prog w B h a ss):Jt B h a ss:=by
 obtain⟨o,es,ep,t,ho,hc,hd,hf,_,r⟩:=x;exact⟨es,ep,t,⟨o,ho,hc,hd⟩,hf,r⟩
section
variable{prog:Program}{w:World}{A:Around}{E:Value->Shared->Prop}{s:Shared}
theorem kK{a:Addr}{vs:List Int}{Q:List Value->Shared->Prop}(hh:A.handled=none)(hS:Jt (w.params.followText "set-order") s.heap a vs)(hz:vs.length<=1000)
  (hQ:∀(seq:List Value) (h':Heap) dr tk,(∀v∈seq,∃i t,v=.int i t/\i∈vs)->(seq.map W5).Nodup->seq.length<=vs.length->(vs≠[]->0<seq.length)->s.heap.objs.size<=h'.objs.size->(∀b o,s.heap.get? b=some o->h'.get? b=some o)->Q seq { s with heap:=h',drawn:=dr,toks:=tk }) :
  wpAny (model prog w) A (collect (.ref a)) Q E s:=by
 obtain⟨es,ep,t,hA,hf,hL,hsv,hnd,hin,hle⟩:=hS;unfold collect;refine fg (wpAny_runValue (ir PySem.F.entry_proto_collect ?_));rw[iO PySem.F.plain_proto_collect _]
 show wpAny _ A.in1 (newList [] >>= fun l=>again (.builtin "list.__iadd__" ⟨[l,.ref a],[]⟩)) _ _ s
 refine fg (g7 ?_);refine fq ⟨iP PySem.F.plain_list_iadd _,ir PySem.F.entry_list_iadd ?_⟩;rw[iO PySem.F.plain_list_iadd _];have haz:a<s.heap.objs.size:=by obtain⟨o,ho,_⟩:=hA;exact fC ho
 have hA1:Wl (s.heap.push { cls:=.type "list",data:=.seq ([]:List Value).toArray }) a es ep t:=hA.at fun o z=>fz _ z
 show wpAny _ A.in1 (Builtin.List.listExtendWith (.ref s.heap.objs.size) (.ref a) (.ref s.heap.objs.size)) _ _ _
 unfold Builtin.List.listExtendWith;have hT:=Wl.typeIs (s:={ s with heap:=s.heap.push { cls:=.type "list",data:=.seq ([]:List Value).toArray } }) hA1;refine fg (wpAny_typeOf hT ?_);have h1:Builtin.List.listSameRef (.ref s.heap.objs.size) (.ref a)=false:=by simp[Builtin.List.listSameRef,gA haz]
 have h2:(Value.type "set" == Value.type "list")=false:=by decide
 have h3:(Value.type "set" == Value.type "tuple")=false:=by decide
 simp only[h1,h2,h3,Bool.or_false,gX,gG];have z1:(s.heap.push { cls:=.type "list",data:=.seq ([]:List Value).toArray }).objs.size=s.heap.objs.size+1:=ie _ _;refine fg (ZaL (A':=A.in1) (by simpa using hh) hA1 hf hL (by omega) fun I h1 dr hI hk1 hW=>?_);rw[z1] at hI;obtain⟨fp,seq,St,W,hst,hfp,hfa,hIf,m1,m2,m3,m4⟩:=hW;have hA2:Wl h1 a es ep t:=hA1.at fun o z=>hk1 _ o z;refine fg (gW ?_);unfold Builtin.List.listLengthHint;have hT2:=Wl.typeIs (s:={ s with heap:=h1,drawn:=dr }) hA2;refine fg (mJ hT2 kN ?_);have sp:splitId "set.__len__" = some ("set","__len__"):=by decide +kernel
 dsimp only;rw[sp];dsimp only;refine fg (wpAny_isInstance hT2 sub_set_self ?_);simp only[Bool.not_true,gX,gG]
 show wpAny _ _ (if true=true then _ else _) _ _ _
 rw[if_pos rfl];refine fg (wpAny_typeOf hT2 ?_);dsimp only;refine fq ?_
 show wpAny _ A.in1 (if(false||true)=true then _ else _) _ _ _
 rw[if_pos (show(false||true)=true from rfl)];refine fg (lS ?_);have hSf:s.heap.objs.size∉fp:=fun hm=>by
  rcases hfa _ hm with e|e
  ·exact absurd e (gA haz)
  ·rw[z1] at e;omega
 have hS₁:h1.get? s.heap.objs.size=some { cls:=.type "list",data:=.seq ([]:List Value).toArray }:=hk1 _ _ (fR _ rfl);refine fg ?_
 show wpAny _ A.in1 (updateSeq s.heap.objs.size (·.push .none) >>= fun _=>updateSeq s.heap.objs.size (·.pop)) _ _ _
 refine fg (lv hS₁ rfl ?_);have hS₂:=iA (Obj.mapSeq (·.push Value.none)) hS₁ rfl;refine lv hS₂ rfl ?_;have hS₃:=iA (Obj.mapSeq (·.pop)) hS₂ rfl;have oth:∀b o,b≠s.heap.objs.size->h1.get? b=some o->((h1.update s.heap.objs.size (Obj.mapSeq (·.push Value.none))).update s.heap.objs.size (Obj.mapSeq (·.pop))).get? b=some o:=
  fun b o hb e=>(ii _ _ (fJ hb)).trans ((ii _ _ (fJ hb)).trans e)
 refine fq ⟨iP mz _,codeAny_extend_loopS W.toS (by rw[ft];omega) _ hSf _ seq.length 0 _ _ _ rfl (gk _)
  (W.frame 0 _ _ hst fun b hb o e=>oth b o (fun h=>hSf (h▸hb)) e) hS₃ (ItemsOf.nil _) fun s' acc' c' hm hS' hacc=>?_⟩
 show wpAny _ A (load s.heap.objs.size >>= _) _ _ s'
 refine fg (wpAny_load hS' ?_);have e1:acc'.toList=seq:=by
  apply iR;intro i;rw[i9];rcases Nat.lt_or_ge i acc'.size with h|h
  ·have:=hacc.2 i _ (mC acc' i h);rw[mC acc' i h];exact this.symm
  ·rw[nj h,gK (by rw[hacc.1] at h;exact h)]
 refine fq ?_;rw[e1];obtain⟨hh',gg,dd,tt,oo⟩:=s';obtain⟨q1,q2,q3,q4,q5⟩:=hm;dsimp only at q1 q2 q3 q4 q5;subst q2;subst q3;subst q4;have keep:∀b o,s.heap.get? b=some o->hh'.get? b=some o:=fun b o z=>by
  have hlt:=fC z;refine q1 b o (by simp only[fF,gO,gQ];rintro(h|h);exact absurd hlt (by rw[h];exact ik _);exact absurd hlt (by rw[h];exact Nat.not_lt.mpr (mn hI))) (oth b o (fE hlt) (hk1 b o (fz _ z)))
 refine hQ seq hh' _ tt (fun v m=>?_) (m4 W5 hnd) (by omega) (fun z=>m3 ?_) ?_ keep
 ·obtain⟨e,h1,h2⟩:=m1 v m;obtain⟨i,t',e3⟩:=hsv e h1;exact⟨i,t',by rw[h2,e3],(hin i).mp (fX.mpr ⟨e,h1,by rw[e3];rfl⟩)⟩
 ·obtain⟨x,r,ev⟩:=List.exists_cons_of_ne_nil z;obtain⟨e,h1,_⟩:=fX.mp ((hin x).mpr (by rw[ev];simp));rw[<- hV];exact nO h1
 exact ib (fC hS')
theorem Zee:∀{l:List Value},(∀v∈l,∃i t,v=.int i t)->IntsAre l (l.map W5)
 |[],_=>.nil
 |v::r,h=>by
  obtain⟨i,t,rfl⟩:=h v (by simp);exact .cons i t (Zee fun u m=>h u (fS _ m))
theorem Zef:∀{l:List Value}{ns:List Int},IntsAre l ns->l.map W5=ns/\∀v∈l,∃t,v=.int (W5 v) t
 |_,_,.nil=>⟨rfl,nofun⟩
 |_,_,.cons n t h=>by
  obtain⟨h1,h2⟩:=Zef h;refine⟨by rw[fP,h1];rfl,fun v m=>?_⟩;rcases fF.mp m with rfl|m
  ·exact⟨t,rfl⟩
  ·exact h2 v m
theorem KP{a:Addr}{vs:List Int}(hh:A.handled=none)(hS:Jt (w.params.followText "set-order") s.heap a vs)(h64:vs.length<64)
  (h:∀(out:List Value) (L n:Nat) (h':Heap) dr tk,(∀v∈out,∃i t,v=.int i t/\i∈vs)->(out.map W5).Nodup->out.length<=vs.length->(vs≠[]->0<out.length)->s.heap.objs.size<=L->(∀b o,s.heap.get? b=some o->h'.get? b=some o) ->
   h'.get? L=some { cls:=.type "list",data:=.seq out.toArray n }->Q (.ref L) { s with heap:=h',drawn:=dr,toks:=tk }) :
  wpAny (model prog w) A (call (.builtin "sorted") [.ref a]) Q E s:=by
 refine Calls.call_function_entry kind_sorted plain_sorted entry_sorted (args_sorted1 _) ?_;unfold Builtin.«sorted»;refine fg (m:=checkCount "sorted" 1 1 _) (fq ?_);refine fg (kK (by simpa using hh) hS (by omega) fun seq h1 dr tk m1 m0 m2 m3 hz k1=>?_);refine fg (wpAny_newList ?_ (by rw[ft];omega));have hoL:(h1.push (seqObj "list" seq.toArray 0)).get? h1.objs.size=some (seqObj "list" seq.toArray 0):=fR _ rfl;have k2:∀b o,s.heap.get? b=some o->b≠h1.objs.size/\(h1.push (seqObj "list" seq.toArray 0)).get? b=some o:=fun b o z=>by
  have:=k1 b o z;exact⟨fE (fC this),fz _ this⟩
 show wpAny _ _ _ _ _ { s with heap:=h1.push (seqObj "list" seq.toArray 0),drawn:=dr,toks:=tk }
 refine fg (gW (ia slot_list_sort ⟨_,hoL,rfl⟩ entry_list_sort (list_sort_tree hoL (Zee fun v m=>let ⟨i,t,e,_⟩:=m1 v m; ⟨i,t,e⟩) (by omega) fun ot ns' i2 pm _=>⟨_,rfl,?_⟩) (args_list_sort _)))
 ·obtain⟨e1,e2⟩:=Zef i2;rw[<- e1] at pm;have pl:=pm.length_eq;rw[fi,fi] at pl;obtain⟨e,he⟩:=sortedHeap_at (out:=ot) hoL;refine fq ⟨_,rfl,h ot.toList h1.objs.size e _ dr tk (fun v m=>?_) (pm.nodup_iff.mpr m0) (by rw[pl];exact m2) (fun z=>by rw[pl];exact m3 z) hz (fun b o z=>?_) he⟩
  ·obtain⟨t,ht⟩:=e2 v m;obtain⟨u,hu,eu⟩:=fX.mp (pm.mem_iff.mp (lT m));obtain⟨i,t',e',hi⟩:=m1 u hu;refine⟨_,t,ht,?_⟩;rw[<- eu,e'];exact hi
  obtain⟨n1,z1⟩:=k2 b o z
  show(sortedHeap _ _ _ _).get? b=some o
  rw[sortedHeap_old n1 (fC z1)];exact z1
end
def SzO(Pm:Params)(a:Addr)(ss:List Int):HO:=.ext fun h=>Jt (Pm.followText "set-order") h a ss
theorem ZgE{a:Addr}{ss:List Int}(x:Jt (Pm.followText "set-order") h a ss):YI P w H h a (SzO Pm a ss):=by
 refine⟨x,?_,?_⟩
 ·obtain⟨_,_,_,⟨o,e,_⟩,_⟩:=x;exact⟨o,e⟩
 ·rintro h1 h2 ⟨es,ep,t,hA,c⟩ k;exact⟨es,ep,t,hA.at fun o z=>k o z,c⟩
def Zgm(K:W.Frag)(Pm:Params):List V->Hp->VK->Prop:=fun xs H Q=>∃p ss,xs=[.ref p]/\SqL K H p (ss.map V.int)/\ss.length<1000/\∀l,H l=none->Q (.ref l) (upd H l (SzO Pm l ss))
def Zfj(Pm:Params):List V->Hp->VK->Prop:=fun xs H Q=>∃p ss,xs=[.ref p]/\H p=some (SzO Pm p ss)/\ss.length<64/\∀l us,H l=none->us.Nodup->(∀x∈us,x∈ss)->us.length<=ss.length->(ss≠[]->us≠[])->Q (.ref l) (upd H l (.lst (us.map V.int)))
theorem ja:∀{out:List Value},(∀v∈out,∃i t,v=.int i t)->ZM ((out.map W5).map V.int) out
 |[],_=>.nil
 |v::r,h=>by
  obtain⟨i,t,rfl⟩:=h v (by simp);exact .cons ⟨t,rfl⟩ (ja fun u m=>h u (fS _ m))
theorem Zai(hK:X.K=K)(hw:X.w.params=Pm)(hc:X.calm=true):Yw X (.type "set") (Zgm K Pm):=by
 subst hK;intro cQ s U H xs us Q I r h;obtain⟨p,ss,rfl,hq,hl,q⟩:=h;obtain⟨u,rfl,ru⟩:=Vz r;obtain rfl:u=Value.ref p:=ru;obtain⟨its,rv,pl,hz⟩:=I.list hq;refine Zah (I.ok.hd hc) pl.isList rv hl fun h' tk hS k=>?_;exact⟨.ref s.heap.objs.size,_,I.laid (o:=SzO Pm s.heap.objs.size ss) k (fh _) (ZgE (by rw[<- hw];exact hS.toL)),rfl,q _ (I.hok.fresh (fh _))⟩
theorem Ko(hw:X.w.params=Pm)(hc:X.calm=true):Yw X (.builtin "sorted") (Zfj Pm):=by
 intro cQ s U H xs us Q I r h;obtain⟨p,ss,rfl,hq,hl,q⟩:=h;obtain⟨u,rfl,ru⟩:=Vz r;obtain rfl:u=Value.ref p:=ru;obtain⟨hS,_⟩:=I.hok p _ hq;refine KP (I.ok.hd hc) (by rw[hw];exact hS) hl fun out L n h' dr tk g1 g2 g3 g4 hL k hg=>?_;have lo:(out.map W5).length=out.length:=fi ..;refine⟨.ref L,_,Ze2 (I.laid (o:=.lst ((out.map W5).map V.int)) k hL ⟨by rw[fi,ft];omega,out,n,ja fun v m=>(let ⟨i,t,e,_⟩:=g1 v m; ⟨i,t,e⟩),hg⟩) dr,rfl,q L (out.map W5) (I.hok.fresh hL) g2 (fun x hx=>?_) (by omega) (fun z e=>?_)⟩
 ·obtain⟨v,m,rfl⟩:=fX.mp hx;obtain⟨i,t,rfl,hi⟩:=g1 v m;exact hi
 ·have:=g4 z;rw[<- lo,e] at this;exact absurd this (by simp)
end L3
namespace KK
open PySem PySem.Spec L2 L3
def jV(K:W.Frag)(a:Adr):Sp:=fun vs H Q _=>Ex5 fun(l:Addr) (n p:Nat) (L:List Bool) (f:Nat->Bool)=>Cj6 (vs=[.ref l,.int (n:Nat),.int (p:Nat)]) (H l=some (.lst (L.map V.bl))) (ZT p L f) (L.length<=100000) (n<=100000) (∀H' q L',Ze H H'->H q=none->H' q=some (.lst (L'.map V.bl))->ZT p L' f->L'.length=max L.length n->Q (.ref q) H')
theorem W7:Okd P w K mg base a 1 a.y23 a.z23 dz jV:=fun T hw=>by
 refine okX T.aO.f zh fun cR A outer s H E hr=>?_;intro X
 let d1:Rdg X WM [1,0,0]:=⟨_,(Zh (Yq (XR gv gH gI Z1 (pv 3) (Za (Zv (Zr (K:=K) rfl) (pv 3) (Vx We (pv 2)) (fun _ _=>rfl)) Zb rfl)) rfl))⟩
 let d2:Rdg X WM [1]:=⟨_,(Zc (VW gw (Zw jk (Zl (Zu (K:=K) rfl) rfl T.ay oh (Za (pv 3) Zb rfl)) (pv 1) (ZK _)) d1.2) (Zh (Zm (pv 3))))⟩
 intro vs Q h;obtain⟨l,n,p,L,f,rfl,hl,tl,ll,ln,k⟩:=h;refine⟨_,(Zc (Zn (i:=3) zh.nd rfl (.inl rfl) (ZO (YL (K:=K) rfl rfl) rfl T.aN nY (Za (pv 0) Zb rfl)) rfl (.inl rfl)) d2.2),?_⟩;refine⟨_,rfl,.inl ⟨l,_,rfl,.inl (nV hl),fun q hq=>?_⟩⟩;obtain⟨H1,qN,s1,e1⟩:=ZN (o:=.lst (L.map V.bl)) hq;rw[qN];refine⟨fun m U G=>∃L':List Bool,U=[some (.ref l),some (.int (n:Nat)),some (.int (p:Nat)),some (.ref q)]/\Ze H G/\G q=some (.lst (L'.map V.bl))/\ZT p L' f/\L.length<=L'.length/\L'.length<=max L.length n/\m=n-L'.length,⟨n-L.length,L,rfl,s1,e1,tl,fh _,by omega,rfl⟩,?_⟩;rintro m U G ⟨L',rfl,sG,gq,tl',l1,l2,rfl⟩;have p1:=tl'.p1;have pl:=tl'.le;refine⟨_,rfl,.inl ⟨q,_,rfl,.inl (nV gq),_,rfl,_,_,rfl,rfl,_,rfl,X9 (fun c=>?_) (fun c=>?_)⟩⟩
 ·have c1:L'.length<n:=by have:=fT c;rw[fi] at this;omega
  refine⟨fun U G=>∃L'':List Bool,U=[some (.ref l),some (.int (n:Nat)),some (.int (p:Nat)),some (.ref q)]/\Ze H G/\G q=some (.lst (L''.map V.bl))/\ZT p L'' f/\L''.length=L'.length+1,?_,?_⟩
  ·rintro σ' G' ⟨L'',rfl,a1,a2,a3,a4⟩;exact⟨n-L''.length,by omega,L'',rfl,a1,a2,a3,by omega,by omega,rfl⟩
  have ea:atI (L'.map V.bl) (-(p:Int))=some (.bl (L'[L'.length-p]'(by omega))):=by
   rw[qM p1 (by rw[fi];exact pl),iC];simp only[fi]
  refine⟨_,rfl,.inl ⟨rfl,_,nV gq⟩,_,rfl,_,rfl,_,rfl,q,_,_,_,rfl,rfl,nV gq,ea,q,_,_,rfl,rfl,gq,by rw[fi,ft];omega,?_⟩;refine⟨L'++[L'[L'.length-p]'(by omega)],rfl,(Zs.upd (Ze.x sG)).same hq,by rw[Zd,fQ];rfl,tl'.grow (fj _),by rw[fu];rfl⟩
 ·have c1:¬L'.length<n:=fun z=>c (gz (by rw[fi];omega));exact⟨_,rfl,k _ q L' sG hq gq tl' (by omega)⟩
def yU(K:W.Frag)(a:Adr):Sp:=fun vs H Q _=>Ex4 fun(l:Addr) (p:Nat) (L:List Bool) (f:Nat->Bool)=>Cj5 (vs=[.ref l,.int (p:Nat)]) (H l=some (.lst (L.map V.bl))) (ZT p L f) (L.length<=1000000) (∀H' q L',Ze H H'->H q=none->H' q=some (.lst (L'.map V.bl))->ZT p L' f->L'.length<=L.length->Q (.ref q) H')
theorem Qu:Okd P w K mg base a 1 a.y22 a.z22 dA yU:=fun T hw=>by
 refine okX T.bW.f qw fun cR A outer s H E hr=>?_;intro X
 let d1:Rdg X U2 [1]:=⟨_,(Zc (VW gw (PW.pt (Zfs (Zw Zew (pv 2) (pv 1) (ZK _)) (ZdZ (Zw YC (Zv (Zr (K:=K) rfl) (pv 0) (ZR Vh (pv 2) Zf) (fun _ _=>rfl)) (Zv (Zr (K:=K) rfl) (pv 0) (ZR Vh (ZR Vh (pv 2) Zf) (pv 1)) (fun _ _=>rfl)) (ZK _))))) (Zh (ZfH (i:=2) qw.nd rfl (.inl rfl) Zf ZeG))) (Zh (Zm (Yd (Xi (K:=K) rfl) (pv 0) YH (Z9 (pv 2))))))⟩
 intro vs Q h;obtain⟨l,p,L,f,rfl,hl,tl,ll,k⟩:=h;refine⟨_,(Zc (Zn (i:=2) qw.nd rfl (.inl rfl) (Zl (Zu (K:=K) rfl) rfl T.ay oh (Za (pv 0) Zb rfl)) rfl (.inl rfl)) d1.2),?_⟩;refine⟨_,rfl,.inl ⟨l,_,rfl,.inl (nV hl),?_⟩⟩;rw[fi];have p1:=tl.p1;have pl:=tl.le;refine⟨fun m U G=>G=H/\∃e:Nat,U=[some (.ref l),some (.int (p:Nat)),some (.int (e:Nat))]/\e<=L.length/\ZT p (L.take e) f/\m=e,⟨L.length,rfl,L.length,rfl,fh _,by rw[iH];exact tl,rfl⟩,?_⟩;rintro m U G ⟨rfl,e,rfl,le,te,rfl⟩;have pe:=te.le;rw[fZ] at pe;have stop:∀q,G q=none->Q (.ref q) (upd G q (.lst (Vi (L.map V.bl) none (some (m:Int))))):=fun q hq=>by
  rw[VY,<- iL];exact k _ q _ (Zi hq) hq Zd te (by rw[fZ];omega)
 refine⟨_,rfl,_,rfl,_,_,rfl,rfl,_,rfl,X9 (fun c=>?_) (fun c=>Z7 ?_)⟩
 ·have c1:p<m:=by have:=fT c;omega
  have i1:((m:Int)-1)=((m-1:Nat):Int):=by omega
  have i2:((m-1:Nat):Int)-(p:Int)=((m-1-p:Nat):Int):=by omega
  have g1:atI (L.map V.bl) ((m-1:Nat):Int)=some (.bl (L[m-1]'(by omega))):=Zj (by rw[fw,fj (show m-1<L.length by omega)];rfl);have g2:atI (L.map V.bl) ((m-1-p:Nat):Int)=some (.bl (L[m-1-p]'(by omega))):=Zj (by rw[fw,fj (show m-1-p<L.length by omega)];rfl);refine⟨_,rfl,_,rfl,_,_,rfl,rfl,l,_,_,_,rfl,rfl,nV hl,by rw[i1];exact g1,_,rfl,_,rfl,_,_,rfl,rfl,_,rfl,_,_,rfl,rfl,l,_,_,_,rfl,rfl,nV hl,by rw[i1,i2];exact g2,rfl,_,rfl,X9 (fun c2=>?_) (fun c2=>?_)⟩
  ·have c3:L[m-1]'(by omega)=L[m-1-p]'(by omega):=V.bl.inj (fT c2);refine⟨fun U F=>F=G/\U=[some (.ref l),some (.int (p:Nat)),some (.int ((m-1:Nat)))],?_,?_⟩
   ·rintro σ' G' ⟨hF,rfl⟩;refine⟨m-1,by omega,hF,m-1,rfl,by omega,?_,rfl⟩;obtain⟨n,rfl⟩:∃n,m=n+1:=⟨m-1,by omega⟩;exact ZT.cut te (by omega) (by omega) c3
   ·refine⟨_,rfl,_,_,rfl,rfl,rfl,?_⟩
    show[some (V.ref l),some (V.int (p:Nat)),some (V.int ((m:Int)-1))]=_
    rw[i1]
  ·exact⟨_,rfl,_,rfl,_,rfl,l,_,rfl,nV hl,stop⟩
 ·exact⟨_,rfl,_,rfl,_,rfl,l,_,rfl,nV hl,stop⟩
def BP(H:Hp)(z:List (V×(Bool×Bool))):Prop:=∀x∈z,∃q,x.1=.ref q/\H q=some (.tup [.bl x.2.1,.bl x.2.2])
def zd(K:W.Frag)(a:Adr):Sp:=fun vs H Q _=>Ex9 fun(ls l1 l2:Addr) (p m:Nat) (L M:List Bool) (f g:Nat->Bool)=>Zc8 (vs=[.ref ls,.int (p:Nat),.int (m:Nat)]) (H ls=some (.lst [.ref l1,.ref l2])) (H l1=some (.lst (L.map V.bl))) (H l2=some (.lst (M.map V.bl))) (ZT p L f) (ZT p M g) (L.length<=50000) (M.length<=50000) (m<=50000) (∀H' q (z:List (V×(Bool×Bool))) (L' M':List Bool),Ze H H'->H q=none->H' q=some (.lst (z.map Prod.fst))->BP H' z->z.map Prod.snd=L'.zip M'->ZT p L' f->ZT p M' g->L'.length=max L.length M.length+m->M'.length=max L.length M.length+m->Q (.ref q) H')
theorem Wf:Okd P w K mg base a 2 a.y24 a.z24 dB zd:=fun T hw=>by
 refine okX T.aB.f VB fun cR A outer s H E hr=>?_;intro X
 let d1:Rdg X XG [1]:=⟨_,(Zh (Zm (Qx (K:=K) rfl rfl rfl T.aN rfl T.cO (Za (ZB T.aO (W7 T hw) hr rfl rfl (Zq (Zv (Zr (K:=K) rfl) (pv 0) Zf (fun _ _=>rfl)) (Zq (pv 3) (Zq (pv 1) Zb rfl) rfl) rfl)) (Za (ZB T.aO (W7 T hw) hr rfl rfl (Zq (Zv (Zr (K:=K) rfl) (pv 0) Zf (fun _ _=>rfl)) (Zq (pv 3) (Zq (pv 1) Zb rfl) rfl) rfl)) Zb rfl) rfl))))⟩
 intro vs Q h;obtain⟨ls,l1,l2,p,m,L,M,f,g,rfl,hs,h1,h2,tl,tm,b1,b2,b3,k⟩:=h;refine⟨_,(Zc (Zn (i:=3) VB.nd rfl (.inl rfl) (ZR XC (Zl (ju rfl) rfl T.cK PyProof.Rows.Boot.«max» (Za (Zl (Zu (K:=K) rfl) rfl T.ay oh (Za (Zv (Zr (K:=K) rfl) (pv 0) Zf (fun _ _=>rfl)) Zb rfl)) (Za (Zl (Zu (K:=K) rfl) rfl T.ay oh (Za (Zv (Zr (K:=K) rfl) (pv 0) Zf (fun _ _=>rfl)) Zb rfl)) Zb rfl) rfl)) (pv 2)) rfl (.inl rfl)) d1.2),?_⟩;refine⟨_,rfl,ls,_,_,_,rfl,rfl,nV hs,Zj (j:=0) rfl,.inl ⟨l1,_,rfl,.inl (nV h1),_,rfl,ls,_,_,_,rfl,rfl,nV hs,Zj (j:=1) rfl,.inl ⟨l2,_,rfl,.inl (nV h2),_,_,rfl,?_⟩⟩⟩;rw[fi,fi];have em:(if((M.length:Nat):Int)>((L.length:Nat):Int) then((M.length:Nat):Int) else((L.length:Nat):Int))=((max L.length M.length:Nat):Int):=by split<;>lia
 rw[em];have em2:((max L.length M.length:Nat):Int)+(m:Nat)=((max L.length M.length+m:Nat):Int):=by lia
 refine⟨_,rfl,_,_,rfl,rfl,?_⟩;rw[em2];refine⟨_,rfl,ls,_,_,_,rfl,rfl,nV hs,Zj (j:=0) rfl,_,rfl,_,rfl,l1,max L.length M.length+m,p,L,f,rfl,h1,tl,by lia,by lia,fun H1 q1 L' s1 q10 e1 tl' ll'=>?_⟩;refine⟨_,rfl,ls,_,_,_,rfl,rfl,nV (s1 _ _ hs),Zj (j:=1) rfl,_,rfl,_,rfl,l2,max L.length M.length+m,p,M,g,rfl,s1 _ _ h2,tm,by lia,by lia,fun H2 q2 M' s2 q20 e2 tm' lm'=>?_⟩;refine⟨q1,q2,_,_,rfl,nV (s2 _ _ e1),nV e2,by rw[fi,fi];lia,fun H3 q3 zs s3 q30 e3 ez hz=>?_⟩;have lz:(L'.zip M').length=zs.length:=by
  have:=fI List.length ez;rw[fi,iB,fi,fi] at this;rw[iB];lia
 have ez2:zs.map Prod.snd=(L'.zip M').map fun x=>(V.bl x.1,V.bl x.2):=by
  rw[ez,List.zip_map];rfl
 refine k H3 q3 ((zs.map Prod.fst).zip (L'.zip M')) L' M' (s1.trans (s2.trans s3)) ((s1.trans s2).free q30) (by rw[e3,List.map_fst_zip (by rw[fi];lia)]) (fun x hx=>?_) (by rw[List.map_snd_zip (by rw[fi];lia)]) tl' tm' (by lia) (by lia);obtain⟨j,hj,ej⟩:=gu hx;rw[iB,fi] at hj;rw[mU,iC] at ej;have hjz:j<zs.length:=by lia
 obtain⟨q,eq,gq⟩:=hz _ (fN hjz);have e1:zs[j].1=x.1:=fI Prod.fst ej;have e2:(L'.zip M')[j]'(by lia)=x.2:=fI Prod.snd ej;have e4:zs[j].2=(V.bl x.2.1,V.bl x.2.2):=by
  have:(zs.map Prod.snd)[j]?=((L'.zip M').map fun x=>(V.bl x.1,V.bl x.2))[j]?:=by rw[ez2]
  rw[fw,fw,fj hjz,fj (show j<(L'.zip M').length by lia),e2] at this;exact fO this
 refine⟨q,by rw[<- e1];exact eq,?_⟩;rw[e4] at gq;exact gq
def yc(K:W.Frag)(a:Adr):Sp:=fun vs H Q _=>Ex5 fun(ls l1:Addr) (p:Nat) (L:List Bool) (f:Nat->Bool)=>Cj6 (vs=[.ref ls,.int (p:Nat)]) (H ls=some (.lst [.ref l1])) (H l1=some (.lst (L.map V.bl))) (ZT p L f) (L.length<=50000) (∀H' q (L':List Bool),Ze H H'->H' q=some (.lst (L'.map V.bl))->ZT p L' (fun k=>!f k)->L'.length<=L.length->Q (.ref q) H')
theorem kW:Okd P w K mg base a 1 a.y25 a.z25 cS yc:=fun T hw=>by
 refine okF T.bB.f JX fun cR A outer s H vs Q E hr h=>?_;obtain⟨ls,l1,p,L,f,rfl,hs,h1,tl,b1,k⟩:=h;refine⟨_,(Zh (Zm (ZU (Nc:=["truth"]) (ix:=[none]) (ZL.of (by decide +kernel:ZS (Zg Ut) ["lines","size"] _ _ _=true)) rfl (ZE (K:=K) rfl (Zv (Zr (K:=K) rfl) (pv 0) Zf (fun _ _=>rfl))) (fun _ _ _ _ _=>(Zo (i:=0) (show List.Nodup (["truth"]:List Str) by decide +kernel) rfl (.inl rfl))) (fun _ _ _ _ _=>Z3) (fun _ _ _ _ _=>(Qv (pv 0)))))),?_⟩;refine⟨_,rfl,ls,_,_,_,rfl,rfl,nV hs,Zj (j:=0) rfl,l1,rfl,⟨_,nV h1⟩,fun D hD=>?_⟩;refine Y0 L V.bl (fun b=>.bl (!b)) hD (nV h1) (by rw[ft];lia) ?_ ?_
 ·intro b hb G N sG hN;exact⟨_,rfl,_,rfl,hN _ (.refl _)⟩
 intro H1 e1 s1;refine k H1 D (L.map Bool.not) s1 (by rw[e1,gB];rfl) tl.not (by rw[fi];exact fh _)
def zf(K:W.Frag)(a:Adr):Sp:=fun vs H Q _=>Ex5 fun(ls l1:Addr) (p:Nat) (L:List Bool) (f:Nat->Bool)=>Cj6 (vs=[.ref ls,.int (p:Nat)]) (H ls=some (.lst [.ref l1])) (H l1=some (.lst (L.map V.bl))) (ZT p L f) (L.length<=50000) (∀H' q (L':List Bool),Ze H H'->H' q=some (.lst (L'.map V.bl))->ZT p L' (fun k=>f (k+1))->L'.length<=L.length->Q (.ref q) H')
theorem kA:Okd P w K mg base a 2 a.y27 a.z27 cS zf:=fun T hw=>by
 refine okF T.bq.f jB fun cR A outer s H vs Q E hr h=>?_;obtain⟨ls,l1,p,L,f,rfl,hs,h1,tl,b1,k⟩:=h;refine⟨_,(Zh (Zm (Yd (Xi (K:=K) rfl) (ZB T.aO (W7 T hw) hr rfl rfl (Zq (Zv (Zr (K:=K) rfl) (pv 0) Zf (fun _ _=>rfl)) (Zq (ZR XC (Zl (Zu (K:=K) rfl) rfl T.ay oh (Za (Zv (Zr (K:=K) rfl) (pv 0) Zf (fun _ _=>rfl)) Zb rfl)) Zf) (Zq (pv 1) Zb rfl) rfl) rfl)) (Z9 Zf) YH))),?_⟩;have em:((L.length:Nat):Int)+1=((L.length+1:Nat):Int):=by lia
 refine⟨_,rfl,ls,_,_,_,rfl,rfl,nV hs,Zj (j:=0) rfl,_,rfl,ls,_,_,_,rfl,rfl,nV hs,Zj (j:=0) rfl,.inl ⟨l1,_,rfl,.inl (nV h1),_,_,rfl,rfl,_,rfl,l1,L.length+1,p,L,f,by rw[fi,em];rfl,h1,tl,by lia,by lia,fun H1 q1 L' s1 q10 e1 tl' ll'=>?_⟩⟩;refine⟨1,rfl,q1,_,rfl,nV e1,fun q hq=>?_⟩;have l1':L'.length=L.length+1:=by lia
 have ec:=Wt (L'.map V.bl) 1 (by rw[fi];lia);rw[show((1:Nat):Int)=1 from rfl] at ec;rw[ec,<- mV];exact k _ q (L'.drop 1) (s1.trans (Zi hq)) Zd (tl'.next l1' tl.le tl.more) (by rw[g6];lia)
def UN(K:W.Frag)(a:Adr):Sp:=fun vs H Q _=>Ex5 fun(ls l1:Addr) (p:Nat) (L:List Bool) (f:Nat->Bool)=>Cj6 (vs=[.ref ls,.int (p:Nat)]) (H ls=some (.lst [.ref l1])) (H l1=some (.lst (L.map V.bl))) (ZT p L f) (L.length<=50000) (∀H' q (L':List Bool),Ze H H'->H' q=some (.lst (L'.map V.bl))->ZT p L' (Qd f)->L'.length<=L.length+1->Q (.ref q) H')
theorem yG:Okd P w K mg base a 1 a.y29 a.z29 cS UN:=fun T hw=>by
 refine okF T.aV.f xp fun cR A outer s H vs Q E hr h=>?_;obtain⟨ls,l1,p,L,f,rfl,hs,h1,tl,b1,k⟩:=h;refine⟨_,(Zh (Zm (ZR qy (ZY (Za Y9 Zb rfl)) (Zv (Zr (K:=K) rfl) (pv 0) Zf (fun _ _=>rfl))))),?_⟩;refine⟨sz1,fun D hD=>?_⟩;obtain⟨H1,qN,s1,e1⟩:=ZN (o:=.lst [.bl false]) hD;rw[qN];refine⟨_,rfl,ls,_,_,_,rfl,rfl,nV (s1 _ _ hs),Zj (j:=0) rfl,D,l1,_,_,rfl,rfl,e1,s1 _ _ h1,by rw[fi,ft];show 1+L.length<=16777216;lia,fun q hq=>?_⟩;exact k _ q (false::L) (s1.trans (Zi hq)) Zd tl.before (fh _)
theorem KR{z:List (V×(Bool×Bool))}{M:List Bool}{g:Nat->Bool}{p m:Nat}(ez:z.map Prod.snd=L.zip M)(tl:ZT p L f)(tm:ZT p M g)(hl:L.length=m)(hm:M.length=m):z.length=m/\∀j,(h:j<z.length)->z[j].2=(f j,g j):=by
 have lz:z.length=m:=by
  have:=fI List.length ez;rw[fi,iB] at this
  lia
 refine⟨lz,fun j h=>?_⟩;have:(z.map Prod.snd)[j]?=(L.zip M)[j]?:=by rw[ez]
 rw[fw,fj h,(lg (z:=(f j,g j))).mpr ⟨tl.get (by lia),tm.get (by lia)⟩] at this;exact fO this
theorem ZT.rng{p m:Nat}(p1:1<=p)(le:p<=m)(more:∀k,m<=k->f k=f (k-p)):ZT p ((List.range m).map f) f:=
 .of p1 (by rw[fi,fY]) le (fun k h=>by rw[fw,iU h];rfl) more
theorem xY(f:Nat->α)(n:Nat):(List.range (n+1)).map f=(List.range n).map f++[f n]:=by rw[List.range_succ,fQ];rfl
def zZ(K:W.Frag)(a:Adr):Sp:=fun vs H Q _=>Ex8 fun(ls l1 l2:Addr) (p:Nat) (L M:List Bool) (f g:Nat->Bool)=>Cj9 (vs=[.ref ls,.int (p:Nat)]) (H ls=some (.lst [.ref l1,.ref l2])) (H l1=some (.lst (L.map V.bl))) (H l2=some (.lst (M.map V.bl))) (ZT p L f) (ZT p M g) (L.length<=50000) (M.length<=50000) (∀H' q (L':List Bool),Ze H H'->H' q=some (.lst (L'.map V.bl))->ZT p L' (fun k=>f k&&g k)->L'.length<=max L.length M.length->Q (.ref q) H')
theorem kU:Okd P w K mg base a 3 a.y26 a.z26 cS zZ:=fun T hw=>by
 refine okF T.bC.f k5 fun cR A outer s H vs Q E hr h=>?_;obtain⟨ls,l1,l2,p,L,M,f,g,rfl,hs,h1,h2,tl,tm,b1,b2,k⟩:=h;refine⟨_,(Zh (Zm (ZU (Nc:=dg) (ix:=[none,none]) (ZL.of (by decide +kernel:ZS (Zg V6) ["lines","size"] _ _ _=true)) rfl (ZE (K:=K) rfl (ZB T.aB (Wf T hw) hr rfl rfl (Zq (pv 0) (Zq (pv 1) (Zq Zf Zb rfl) rfl) rfl))) (fun _ _ _ _ _=>(WH (K:=K) (n:=2) rfl rfl (Yj (Zo (i:=0) (show List.Nodup dg by decide +kernel) rfl (.inl rfl)) (Yj (Zo (i:=1) (show List.Nodup dg by decide +kernel) rfl (.inl rfl)) WF)))) (fun _ _ _ _ _=>Z3) (fun _ _ _ _ _=>(XQ (pv 0) (Xt (pv 1))))))),?_⟩;refine⟨_,rfl,_,rfl,ls,l1,l2,p,0,L,M,f,g,rfl,hs,h1,h2,tl,tm,b1,b2,by decide,fun H1 P z L' M' s1 P0 e1 bp ez tl' tm' ll lm=>⟨P,rfl,⟨_,nV e1⟩,fun D hD=>?_⟩⟩;rw[Nat.add_zero] at ll lm;obtain⟨lz,hz⟩:=KR ez tl' tm' ll lm;have le:=tl'.le
 let J1:Nat->L2.St->Hp->Prop:=fun i U G=>Ex2 fun(y1 y2:Option V)=>Cj3 (U=[y1,y2]) (Ze H1 G) (G D=some (.lst (((List.range i).map fun k=>f k&&g k).map V.bl)))
 refine YJ (J:=Itl K P) (n:=z.length) J1 ?_ ?_ ?_ ?_ ?_
 ·exact⟨_,_,rfl,Zi hD,Zd⟩
 ·rintro i U G hi ⟨y1,y2,rfl,sG,_⟩;exact⟨_,_,nV (sG _ _ e1),by rw[fw,fj hi];rfl⟩
 ·rintro U G ⟨y1,y2,rfl,sG,_⟩;exact⟨_,nV (sG _ _ e1),by rw[fi];exact fh _⟩
 ·rintro i x U G0 G hi ⟨y1,y2,rfl,sG,gD⟩ ⟨rfl,hx⟩ N N0 hN hN0;have ex:=hx _ (nV (sG _ _ e1));rw[fw,fj hi] at ex;have ex':x=z[i].1:=(fO ex).symm;subst ex';obtain⟨q,eq,gq⟩:=bp _ (fN hi);rw[hz i hi] at gq;rw[eq];refine⟨q,_,rfl,nX (sG _ _ gq),rfl,_,_,rfl,_,_,rfl,rfl,?_⟩;refine UU (te:=Zeo (Kz 0) (Kz 1)) (U:=[some (.bl (f i)),some (.bl (g i))]) (H:=G) (N:=fun v H5=>N v [some (.bl (f i)),some (.bl (g i))] H5) (N0:=fun H4=>N0 [some (.bl (f i)),some (.bl (g i))] H4) ?_;have go:N (.bl (f i&&g i)) [some (.bl (f i)),some (.bl (g i))] G:=by
   refine hN _ _ G _ gD (by rw[fi,fi,fY,ft];lia) ⟨_,_,rfl,(Zs.upd (Ze.x sG)).same hD,?_⟩;rw[Zd,xY,fQ];rfl
  refine⟨_,rfl,_,rfl,X9 (fun c=>⟨_,rfl,?_⟩) (fun c=>?_)⟩
  ·rw[c,iS] at go;rw[c];exact go
  ·have c':f i=false:=by simpa using c
   rw[c',iE] at go;rw[c'];exact go
 rintro U G ⟨y1,y2,rfl,sG,gD⟩;rw[lz] at gD;exact k G D _ (s1.trans sG) gD (ZT.rng tl.p1 (by lia) fun k hk=>by rw[tl'.more k (by lia),tm'.more k (by lia)]) (by rw[fi,fY];exact fh _)
def U8(K:W.Frag)(a:Adr):Sp:=fun vs H Q _=>Ex8 fun(ls l1 l2:Addr) (p:Nat) (L M:List Bool) (f g:Nat->Bool)=>Cj9 (vs=[.ref ls,.int (p:Nat)]) (H ls=some (.lst [.ref l1,.ref l2])) (H l1=some (.lst (L.map V.bl))) (H l2=some (.lst (M.map V.bl))) (ZT p L f) (ZT p M g) (L.length<=50000) (M.length<=50000) (∀H' q (L':List Bool),Ze H H'->H' q=some (.lst (L'.map V.bl))->ZT p L' (Xu f g)->L'.length<=max L.length M.length+p->Q (.ref q) H')
def ZbZ(f g:Nat->Bool):Nat->Bool
 |0=>false
 |k+1=>Xu f g k
theorem Zab(f g:Nat->Bool)(k:Nat):(g k||(f k&&ZbZ f g k))=Xu f g k:=by
 cases k with
 |zero=>show(g 0||(f 0&&false))=g 0;cases g 0<;>cases f 0<;>rfl
 |succ n=>rfl
theorem vc:Okd P w K mg base a 3 a.y30 a.z30 cS U8:=fun T hw=>by
 refine okX T.a8.f Xq fun cR A outer s H E hr=>?_;intro X
 let d1:Rdg X XH [2,0,0]:=⟨_,(Zc (Zn (i:=3) Xq.nd rfl (.inl rfl) (QG (pv 5) (Xt (XQ (pv 4) (Xt (pv 3))))) rfl (.inl rfl)) (Zh (Yq (XR gv gH gI Z1 (pv 2) (Za (pv 3) Zb rfl)) rfl)))⟩
 let d2:Rdg X XH [2]:=⟨_,(Zc (XF gw rfl (ZE (K:=K) rfl (ZB T.aB (Wf T hw) hr rfl rfl (Zq (pv 0) (Zq (pv 1) (Zq (pv 1) Zb rfl) rfl) rfl))) (WH (K:=K) (n:=2) rfl rfl (Yj (Zo (i:=4) Xq.nd rfl (.inl rfl)) (Yj (Zo (i:=5) Xq.nd rfl (.inl rfl)) WF))) d1.2) (Zh (Zm (pv 2))))⟩
 let d3:Rdg X XH [1]:=⟨_,(Zc (Zn (i:=3) Xq.nd rfl (.inl rfl) Y9 rfl (.inl rfl)) d2.2)⟩
 intro vs Q h;obtain⟨ls,l1,l2,p,L,M,f,g,rfl,hs,h1,h2,tl,tm,b1,b2,k⟩:=h;refine⟨_,(Zc (Zn (i:=2) Xq.nd rfl (.inl rfl) (ZY Zb) rfl (.inl rfl)) d3.2),?_⟩;have p1:=tl.p1;have ple:=tl.le;refine⟨by decide,fun D hD=>?_⟩;obtain⟨H1,qN,s1,e1⟩:=ZN (o:=.lst []) hD;rw[qN];refine⟨_,rfl,_,rfl,_,rfl,ls,l1,l2,p,p,L,M,f,g,rfl,s1 _ _ hs,s1 _ _ h1,s1 _ _ h2,tl,tm,b1,b2,by omega,fun H2 P z L' M' s2 P0 e2 bp ez tl' tm' ll lm=>⟨P,rfl,⟨_,nV e2⟩,?_⟩⟩;obtain⟨lz,hz⟩:=KR ez tl' tm' ll lm
 let J1:Nat->L2.St->Hp->Prop:=fun i U G=>∃z4 z5:Option V,U=[some (.ref ls),some (.int (p:Nat)),some (.ref D),some (.bl (ZbZ f g i)),z4,z5]/\Zs D H2 G/\G D=some (.lst (((List.range i).map (Xu f g)).map V.bl))
 refine Y4 (J:=Itl K P) (n:=z.length) J1 ?_ ?_ ?_ ?_ ?_
 ·exact⟨_,_,rfl,.refl _,s2 _ _ e1⟩
 ·rintro i U G hi ⟨z4,z5,rfl,sG,_⟩;have nPD:P≠D:=fun e=>by rw[e,e1] at P0;cases P0
  exact⟨_,_,nV (sG _ _ nPD e2),by rw[fw,fj hi];rfl⟩
 ·rintro U G ⟨z4,z5,rfl,sG,_⟩;have nPD:P≠D:=fun e=>by rw[e,e1] at P0;cases P0
  exact⟨_,nV (sG _ _ nPD e2),by rw[fi];exact fh _⟩
 ·rintro i x U G0 G hi ⟨z4,z5,rfl,sG,gD⟩ ⟨rfl,hx⟩;have nPD:P≠D:=fun e=>by rw[e,e1] at P0;cases P0
  have ex:=hx _ (nV (sG _ _ nPD e2));rw[fw,fj hi] at ex;have ex':x=z[i].1:=(fO ex).symm;subst ex';obtain⟨q,eq,gq⟩:=bp _ (fN hi);rw[hz i hi] at gq;have gq:H2 q=some (.tup [.bl (f i),.bl (g i)]):=gq;rw[eq];have nqD:q≠D:=fun e=>by rw[e,s2 _ _ e1] at gq;cases gq
  refine⟨q,_,rfl,nX (sG _ _ nqD gq),rfl,_,_,rfl,_,_,rfl,rfl,?_⟩;have go:∀b:Bool,b=Xu f g i->Vg (.ref D) [.bl b] G (fun _ H1=>∃z4 z5:Option V,[some (.ref ls),some (.int (p:Nat)),some (.ref D),some (.bl b),some (.bl (f i)),some (.bl (g i))]=[some (.ref ls),some (.int (p:Nat)),some (.ref D),some (.bl (ZbZ f g (i+1))),z4,z5]/\Zs D H2 H1/\H1 D=some (.lst (((List.range (i+1)).map (Xu f g)).map V.bl))):=fun b hb=>by
   subst hb;refine⟨D,_,_,rfl,rfl,gD,by rw[fi,fi,fY,ft];omega,_,_,rfl,sG.upd,?_⟩;rw[Zd,xY,fQ];rfl
  have hst:=Zab f g i;refine⟨_,rfl,_,rfl,X9 (fun c=>?_) (fun c=>⟨_,rfl,_,rfl,X9 (fun c2=>⟨_,rfl,?_⟩) (fun c2=>?_)⟩)⟩
  ·rw[c,mq] at hst;exact⟨_,rfl,.inl ⟨rfl,_,nV gD⟩,_,rfl,go true hst⟩
  ·have c':g i=false:=by simpa using c
   rw[c',c2,iK,iS] at hst;exact⟨_,rfl,.inl ⟨rfl,_,nV gD⟩,_,rfl,go _ hst⟩
  ·have c':g i=false:=by simpa using c
   have c2':f i=false:=by simpa using c2
   rw[c',c2',iK,iE] at hst;exact⟨_,rfl,.inl ⟨rfl,_,nV gD⟩,_,rfl,go _ hst⟩
 rintro U G ⟨z4,z5,rfl,sG,gD⟩;rw[lz] at gD;have hD2:∀b o,H b=some o->G b=some o:=fun b o e=>sG _ _ (fun z=>by rw[z,hD] at e;cases e) ((s1.trans s2) _ _ e);refine⟨_,rfl,k G D _ hD2 gD (ZT.rng p1 (by omega) fun k hk=>?_) (by rw[fi,fY];exact fh _)⟩;exact vN (m:=max L.length M.length) p1 (by omega) (fun j hj=>tl.more j (by omega)) (fun j hj=>tm.more j (by omega)) k (by omega)
def qi(K:W.Frag)(a:Adr):Sp:=fun vs H Q _=>Ex8 fun(ls l1 l2:Addr) (p:Nat) (L M:List Bool) (f g:Nat->Bool)=>Cj9 (vs=[.ref ls,.int (p:Nat)]) (H ls=some (.lst [.ref l1,.ref l2])) (H l1=some (.lst (L.map V.bl))) (H l2=some (.lst (M.map V.bl))) (ZT p L f) (ZT p M g) (L.length<=50000) (M.length<=50000) (∀H' q (L':List Bool),Ze H H'->H' q=some (.lst (L'.map V.bl))->ZT p L' (X2 f g)->L'.length<=max L.length M.length->Q (.ref q) H')
theorem Zaf(f g:Nat->Bool){m:Nat}(h:i<m):(g (m-1-i)||(f (m-1-i)&&Xj f g false (m-i) i))=Xj f g false (m-(i+1)) (i+1):=by
 have e1:m-(i+1)=m-1-i:=by omega
 rw[e1]
 show _=(g (m-1-i)||(f (m-1-i)&&Xj f g false (m-1-i+1) i))
 have e2:m-1-i+1=m-i:=by omega
 rw[e2]
theorem Zbl(f g:Nat->Bool){m:Nat}(h:i<m):(g (m-1-i)||(f (m-1-i)&&X2 f g (m-i)))=X2 f g (m-(i+1)):=by
 have e1:m-(i+1)=m-1-i:=by omega
 have e2:m-i=m-1-i+1:=by omega
 rw[e1,e2,<- kY]
theorem Zao(f:Nat->Bool)(m:Nat):(((List.range m).map fun i=>f (m-(i+1))).map V.bl).reverse=((List.range m).map f).map V.bl:=by
 rw[<- List.map_reverse]
 congr 1
 apply iR;intro i
 by_cases hi:i<m
 ·rw[mK (by rw[fi,fY];exact hi),fw,fw,fi,fY,iU (by omega),iU hi]
  show some (f (m-(m-1-i+1)))=some (f i)
  congr 2
  omega
 ·rw[gK (by rw[iu,fi,fY];omega),gK (by rw[fi,fY];omega)]
theorem vo:Okd P w K mg base a 3 a.y28 a.z28 cS qi:=fun T hw=>by
 refine okX T.aZ.f Yn fun cR A outer s H E hr=>?_;intro X
 let d1:Rdg X YU [4,0,0]:=⟨_,(Zc (Zn (i:=3) Yn.nd rfl (.inl rfl) (QG (pv 5) (Xt (XQ (pv 4) (Xt (pv 3))))) rfl (.inl rfl)) (Zh (Yq (XR gv gH gI Z1 (pv 6) (Za (pv 3) Zb rfl)) rfl)))⟩
 let d2:Rdg X YU [4]:=⟨_,(Zc (XF gw rfl (QZ (K:=K) rfl rfl T.bT (Za (pv 2) Zb rfl)) (WH (K:=K) (n:=2) rfl rfl (Yj (Zo (i:=4) Yn.nd rfl (.inl rfl)) (Yj (Zo (i:=5) Yn.nd rfl (.inl rfl)) WF))) d1.2) (Zh (Zm (yA (K:=K) rfl (pv 6) (Z9 (Vx We Zf))))))⟩
 let d3:Rdg X YU [3]:=⟨_,(Zc (Zn (i:=6) Yn.nd rfl (.inl rfl) (ZY Zb) rfl (.inl rfl)) d2.2)⟩
 let d4:Rdg X YU [2]:=⟨_,(Zc (XF gw rfl (QZ (K:=K) rfl rfl T.bT (Za (Yd (Xi (K:=K) rfl) (pv 2) (Z9 (Vx We (pv 1))) YH) Zb rfl)) (WH (K:=K) (n:=2) rfl rfl (Yj (Zo (i:=4) Yn.nd rfl (.inl rfl)) (Yj (Zo (i:=5) Yn.nd rfl (.inl rfl)) WF))) (Zh (Zn (i:=3) Yn.nd rfl (.inl rfl) (QG (pv 5) (Xt (XQ (pv 4) (Xt (pv 3))))) rfl (.inl rfl)))) d3.2)⟩
 let d5:Rdg X YU [1]:=⟨_,(Zc (Zn (i:=3) Yn.nd rfl (.inl rfl) Y9 rfl (.inl rfl)) d4.2)⟩
 intro vs Q h;obtain⟨ls,l1,l2,p,L,M,f,g,rfl,hs,h1,h2,tl,tm,b1,b2,k⟩:=h;refine⟨_,(Zc (Zn (i:=2) Yn.nd rfl (.inl rfl) (ZB T.aB (Wf T hw) hr rfl rfl (Zq (pv 0) (Zq (pv 1) (Zq Zf Zb rfl) rfl) rfl)) rfl (.inl rfl)) d5.2),?_⟩;have p1:=tl.p1;have ple:=tl.le;refine⟨_,rfl,_,rfl,ls,l1,l2,p,0,L,M,f,g,rfl,hs,h1,h2,tl,tm,b1,b2,by decide,fun H1 P z L' M' s1 P0 e1 bp ez tl' tm' ll lm=>?_⟩;rw[Nat.add_zero] at ll lm;obtain⟨lz,hz⟩:=KR ez tl' tm' ll lm;generalize hmm:max L.length M.length=m at ll lm lz k;have pm:p<=m:=by omega
 have hf:∀j,m<=j->f j=f (j-p):=fun j hj=>tl.more j (by omega);have hg:∀j,m<=j->g j=g (j-p):=fun j hj=>tm.more j (by omega);refine⟨_,rfl,_,rfl,_,rfl,_,rfl,P,_,rfl,nV e1,fun R hR=>?_⟩;rw[ZcF _ p1 (by rw[fi];omega),fi,lz];obtain⟨H2,qN,s2,e2⟩:=ZN (o:=.lst ((z.map Prod.fst).drop (m-p))) hR;rw[qN];have lR:((z.map Prod.fst).drop (m-p)).length=p:=by rw[g6,fi];omega
 refine⟨R,_,rfl,nV e2,?_⟩;rw[lR];have two:∀{n:Nat} (j:Nat),(hj:j<m)->∀{G:Hp},Ze H1 G->∃q,z[j]'(by omega)=(.ref q,(f j,g j))/\G q=some (.tup [.bl (f j),.bl (g j)]):=fun {_} j hj {G} sG=>by
  obtain⟨q,eq,gq⟩:=bp _ (fN (show j<z.length by omega));rw[hz j (by omega)] at gq;exact⟨q,Prod.ext eq (hz j (by omega)),sG _ _ gq⟩
 let J1:Nat->L2.St->Hp->Prop:=fun i U G=>∃z4 z5:Option V,U=[some (.ref ls),some (.int (p:Nat)),some (.ref P),some (.bl (Xj f g false (m-i) i)),z4,z5,none]/\Ze H2 G
 refine Y4 (J:=Itv K R p) (n:=p) J1 ?_ ?_ (fun U G _=>fh _) ?_ ?_
 ·exact⟨_,_,rfl,.refl _⟩
 ·rintro i U G hi ⟨z4,z5,rfl,sG⟩;exact⟨hi,_,nV (sG _ _ e2),lR⟩
 ·rintro i x U G0 G hi ⟨z4,z5,rfl,sG⟩ ⟨rfl,hx⟩;have ex:=hx _ (nV (sG _ _ e2));rw[mO,fw,show m-p+(p-1-i)=m-1-i by omega,fj (show m-1-i<z.length by omega)] at ex;obtain⟨q,eq,gq⟩:=two (n:=0) (m-1-i) (by omega) (s2.trans sG);rw[eq] at ex;have ex':x=.ref q:=(fO ex).symm;subst ex';refine⟨q,_,rfl,nX gq,rfl,_,_,rfl,_,_,rfl,rfl,?_⟩;have hst:=Zaf f g (show i<m by omega);refine⟨_,rfl,_,rfl,X9 (fun c=>?_) (fun c=>⟨_,rfl,_,rfl,X9 (fun c2=>⟨_,rfl,?_⟩) (fun c2=>?_)⟩)⟩
  ·rw[c,mq] at hst;exact⟨_,_,by rw[<- hst];rfl,sG⟩
  ·have c':g (m-1-i)=false:=by simpa using c
   rw[c',c2,iK,iS] at hst;exact⟨_,_,by rw[<- hst];rfl,sG⟩
  ·have c':g (m-1-i)=false:=by simpa using c
   have c2':f (m-1-i)=false:=by simpa using c2
   rw[c',c2',iK,iE] at hst;exact⟨_,_,by rw[<- hst];rfl,sG⟩
 rintro U G ⟨z4,z5,rfl,sG⟩;rw[vK p1 pm hf hg];refine⟨by decide,fun D hD=>?_⟩;obtain⟨G1,qN,t1,eD⟩:=ZN (o:=.lst []) hD;rw[qN];have s3:=s2.trans (sG.trans t1);have lP:(z.map Prod.fst).length=m:=by rw[fi];exact lz
 refine⟨_,rfl,P,_,rfl,nV (s3 _ _ e1),?_⟩;rw[lP];have nPD:P≠D:=fun e=>by rw[e] at e1;rw[(s2.trans sG) _ _ e1] at hD;cases hD
 let J2:Nat->L2.St->Hp->Prop:=fun i U F=>∃z4 z5:Option V,U=[some (.ref ls),some (.int (p:Nat)),some (.ref P),some (.bl (X2 f g (m-i))),z4,z5,some (.ref D)]/\Zs D G1 F/\F D=some (.lst (((List.range i).map fun j=>X2 f g (m-(j+1))).map V.bl))
 refine Y4 (J:=Itv K P m) (n:=m) J2 ?_ ?_ (fun U G _=>fh _) ?_ ?_
 ·exact⟨_,_,rfl,.refl _,eD⟩
 ·rintro i U F hi ⟨z4,z5,rfl,sF,_⟩;exact⟨hi,_,nV (sF _ _ nPD (s3 _ _ e1)),lP⟩
 ·rintro i x U F0 F hi ⟨z4,z5,rfl,sF,gD⟩ ⟨rfl,hx⟩;have ex:=hx _ (nV (sF _ _ nPD (s3 _ _ e1)));rw[fw,fj (show m-1-i<z.length by omega)] at ex;obtain⟨q,eq,gq⟩:=two (n:=0) (m-1-i) (by omega) (.refl H1);rw[eq] at ex;have ex':x=.ref q:=(fO ex).symm;subst ex';have nqD:q≠D:=fun e=>by rw[e] at gq;rw[(s2.trans sG) _ _ gq] at hD;cases hD
  refine⟨q,_,rfl,nX (sF _ _ nqD (s3 _ _ gq)),rfl,_,_,rfl,_,_,rfl,rfl,?_⟩;have go:∀b:Bool,b=X2 f g (m-(i+1))->Vg (.ref D) [.bl b] F (fun _ F1=>∃z4 z5:Option V,[some (.ref ls),some (.int (p:Nat)),some (.ref P),some (.bl b),some (.bl (f (m-1-i))),some (.bl (g (m-1-i))),some (.ref D)]=[some (.ref ls),some (.int (p:Nat)),some (.ref P),some (.bl (X2 f g (m-(i+1)))),z4,z5,some (.ref D)]/\Zs D G1 F1/\F1 D=some (.lst (((List.range (i+1)).map fun j=>X2 f g (m-(j+1))).map V.bl))):=fun b hb=>by
   subst hb;refine⟨D,_,_,rfl,rfl,gD,by rw[fi,fi,fY,ft];omega,_,_,rfl,sF.upd,?_⟩;rw[Zd,xY,fQ];rfl
  have hst:=Zbl f g (show i<m by omega);refine⟨_,rfl,_,rfl,X9 (fun c=>?_) (fun c=>⟨_,rfl,_,rfl,X9 (fun c2=>⟨_,rfl,?_⟩) (fun c2=>?_)⟩)⟩
  ·rw[c,mq] at hst;exact⟨_,rfl,.inl ⟨rfl,_,nV gD⟩,_,rfl,go true hst⟩
  ·have c':g (m-1-i)=false:=by simpa using c
   rw[c',c2,iK,iS] at hst;exact⟨_,rfl,.inl ⟨rfl,_,nV gD⟩,_,rfl,go _ hst⟩
  ·have c':g (m-1-i)=false:=by simpa using c
   have c2':f (m-1-i)=false:=by simpa using c2
   rw[c',c2',iK,iE] at hst;exact⟨_,rfl,.inl ⟨rfl,_,nV gD⟩,_,rfl,go _ hst⟩
 rintro U F ⟨z4,z5,rfl,sF,gD⟩;refine⟨_,rfl,_,rfl,_,rfl,D,_,rfl,rfl,nV gD,fun q hq=>?_⟩;rw[Zao];have hHF:Ze H F:=fun b o e=>sF _ _ (fun w=>by rw[w] at e;rw[(s1.trans (s2.trans sG)) _ _ e] at hD;cases hD) ((s1.trans s3) _ _ e);exact k _ q _ (hHF.trans (Zi hq)) Zd (ZT.rng p1 pm (jy pm hf hg)) (by rw[fi,fY];exact fh _)
theorem Zea(h:XN c n):n<=8:=by
 cases c with
 |yes=>have:n=0:=h;omega
 |sign z=>have:=h.1;omega
 |op w=>rcases h with h|h<;>omega
 |wit m=>have:=h.2;omega
 |many w=>exact h.2
def Zgl(K:W.Frag)(a:Adr):Addr->Sp->Prop:=fun f sp=>(f=a.y25/\sp=yc K a)\/(f=a.y26/\sp=zZ K a)\/(f=a.y27/\sp=zf K a)\/(f=a.y28/\sp=qi K a)\/(f=a.y29/\sp=UN K a)\/(f=a.y30/\sp=U8 K a)
def yw(K:W.Frag)(H:Hp)(d:WD)(st:Tr->List Int)(ts:List Tr)(j:Nat)(v:V)(t:Tr):Prop:=
 if X4 t=true then ∃(b tb:Addr),v=.ref b/\SqT K H b [.str "at",.ref tb]/\SqT K H tb (((List.range d.signs.length).map fun r:Nat=>YM d st t (r:Nat)).map V.bl)
 else ∃(b:Addr) (is:List Nat),v=.ref b/\SqT K H b (.str (Zy t.lb)::is.map fun i:Nat=>V.int (i:Nat))/\is.length=t.ks.length/\∀(i:Nat) k m,t.ks[i]?=some k->is[i]?=some m->m<j/\ts[m]?=some k
theorem yw.mono{t:Tr}(s:YX H H')(h:yw K H d st ts j v t):yw K H' d st ts j v t:=by
 unfold yw at h ⊢
 by_cases c:X4 t=true
 ·rw[if_pos c] at h ⊢;obtain⟨b,tb,e,g1,g2⟩:=h;exact⟨b,tb,e,s _ _ _ g1,s _ _ _ g2⟩
 ·rw[if_neg c] at h ⊢;obtain⟨b,is,e,g1,g2⟩:=h;exact⟨b,is,e,s _ _ _ g1,g2⟩
structure ZeS(K:W.Frag)(H:Hp)(d:WD)(st:Tr->List Int)(ts:List Tr)(rv:List V):Prop where
 len:rv.length=ts.length
 row:∀(j:Nat) v t,rv[j]?=some v->ts[j]?=some t->yw K H d st ts j v t
 c:∀t∈ts,isC t=true/\XN t.lb t.ks.length
def QH(H:Hp)(d:WD)(st:Tr->List Int)(rm:Nat->Int)(p n0:Nat)(ts:List Tr)(vs:List V):Prop:=vs.length<=ts.length/\∀(j:Nat) v t,vs[j]?=some v->ts[j]?=some t->∃l L,v=.ref l/\H l=some (.lst (L.map V.bl))/\ZT p L (Z5 d st rm t)/\L.length<=n0+(j+1)*(p+1)
structure qm(H:Hp)(rn:Addr)(n:Nat)(way ring:List Int):Prop where
 ex:∃W G,H rn=some (.tup [.ref W,.ref G])/\H W=some (.lst (way.map V.int))/\H G=some (.lst (ring.map V.int))
 ne:ring≠[]
 b:∀x∈way++ring,0<=x/\x<(n:Nat)
theorem qm.mono{rn:Addr}(s:Ze H H')(h:qm H rn n way ring):qm H' rn n way ring:=by
 obtain⟨W,G,h1,h2,h3⟩:=h.ex;exact⟨⟨W,G,s _ _ h1,s _ _ h2,s _ _ h3⟩,h.ne,h.b⟩
def kH(K:W.Frag)(a:Adr):Sp:=fun vs H Q _=>Zd6 fun(R rn:Addr) (m:Nat) (rv:List V) (ts:List Tr) (t:Tr) (d:WD) (st:Tr->List Int) (way ring:List Int)=>Cj7 (vs=[.ref R,.ref rn,.int (m:Nat)]) (H R=some (.lst rv)) (ZeS K H d st (ts++[t]) rv) (qm H rn d.signs.length way ring) (m<=50000) ((way++ring).length+(ts.length+1)*(ring.length+1)<=50000) (∀H' q,Ze H H'->H q=none->H' q=some (.lst (((List.range m).map (Z5 d st (XD way ring) t)).map V.bl))->Q (.ref q) H')
theorem j0:Okd P w K mg base a 4 a.y21 a.z21 dC kH:=fun T hw=>by
 refine okX T.bK.f YF fun cR A outer s H E hr=>?_;intro X
 let d1:Rdg X Yb [3,0,0,0,0]:=⟨_,(Zh (Y8 (i:=8) YF.nd rfl rfl (Nc:=["room","row"]) (ix:=[none,some 7]) (ZL.of (by decide +kernel:ZS (Zg Yb) UP _ _ _=true)) rfl (ZE (K:=K) rfl (ZR qy (pv 3) (pv 4))) (fun _ _ _ _ _=>(Zo (i:=0) (show List.Nodup (["room","row"]:List Str) by decide +kernel) rfl (.inl rfl))) (fun _ _ _ _ _=>Z3) (fun _ _ _ _ _=>(Zv (ZP (K:=K) rfl) (Zv (ZP (K:=K) rfl) (pv 1) Zf (fun _ _=>rfl)) (pv 0) (fun _ _=>rfl)))))⟩
 let d2:Rdg X Yb [3,0,0,1,1]:=⟨_,(Zh (Zn (i:=8) YF.nd rfl (.inl rfl) (Zbq (show Zeg _ (Zgl K a) from fun f sp h=>by rcases h with⟨rfl,rfl⟩|⟨rfl,rfl⟩|⟨rfl,rfl⟩|⟨rfl,rfl⟩|⟨rfl,rfl⟩|⟨rfl,rfl⟩;exact⟨_,_,_,(kW T hw),hr.mono (by decide),T.bB.f.kp,T.bB.n⟩;exact⟨_,_,_,(kU T hw),hr.mono (by decide),T.bC.f.kp,T.bC.n⟩;exact⟨_,_,_,(kA T hw),hr.mono (by decide),T.bq.f.kp,T.bq.n⟩;exact⟨_,_,_,(vo T hw),hr.mono (by decide),T.aZ.f.kp,T.aZ.n⟩;exact⟨_,_,_,(yG T hw),hr.mono (by decide),T.aV.f.kp,T.aV.n⟩;exact⟨_,_,_,(vc T hw),hr.mono (by decide),T.a8.f.kp,T.a8.n⟩) YK (pv 9) (Za (ZU (Nc:=["place","lines"]) (ix:=[none,some 6]) (ZL.of (by decide +kernel:ZS (Zg Yb) UP _ _ _=true)) rfl (jX (K:=K) rfl (Yd (W9 (K:=K) rfl) (pv 7) (Z9 Zf) YH)) (fun _ _ _ _ _=>(Zo (i:=0) (show List.Nodup (["place","lines"]:List Str) by decide +kernel) rfl (.inl rfl))) (fun _ _ _ _ _=>Z3) (fun _ _ _ _ _=>(Zv (Zr (K:=K) rfl) (pv 1) (pv 0) (fun _ _=>rfl)))) (Za (pv 5) Zb rfl) rfl)) rfl (.inl rfl)))⟩
 let d3:Rdg X Yb [3,0,0,1,0]:=⟨_,(Zc (Zn (i:=9) YF.nd rfl (.inl rfl) (Zv (Zdg (K:=K) (P:=a.Pm) rfl hw) (yi (v:=.ref a.D_LINES) rfl ⟨_,T.cH,rfl⟩) (Zv (ZP (K:=K) rfl) (pv 7) Zf (fun _ _=>rfl)) (fun _ _=>rfl)) rfl (.inl rfl)) d2.2)⟩
 let d4:Rdg X Yb [3,0,1]:=⟨_,(Zh (Yq (XR gv gH gI Z1 (pv 6) (Za (ZB T.bW (Qu T hw) hr rfl rfl (Za (pv 8) (Za (pv 5) Zb rfl) rfl)) Zb rfl)) rfl))⟩
 let d5:Rdg X Yb [3,0,0]:=⟨_,(Zc (Z2 (Zw YC (Zv (ZP (K:=K) rfl) (pv 7) Zf (fun _ _=>rfl)) Zz (ZK _)) d1.2 d3.2) d4.2)⟩
 let d6:Rdg X Yb [4]:=⟨_,(Zh (Zm (Yd (Xi (K:=K) rfl) (ZB T.aO (W7 T hw) hr rfl rfl (Zq (Zv (Zr (K:=K) rfl) (pv 6) (Vx We Zf) (fun _ _=>rfl)) (Zq (pv 2) (Zq (pv 5) Zb rfl) rfl) rfl)) YH (Z9 (pv 2)))))⟩
 let d7:Rdg X Yb [3]:=⟨_,(Zc (XF gw rfl (ZE (K:=K) rfl (pv 0)) (Zo (i:=7) YF.nd rfl (.inr rfl)) d5.2) d6.2)⟩
 let d8:Rdg X Yb [2]:=⟨_,(Zc (Zn (i:=6) YF.nd rfl (.inr rfl) (ZY Zb) rfl (.inl rfl)) d7.2)⟩
 let d9:Rdg X Yb [1]:=⟨_,(Zc (Zn (i:=5) YF.nd rfl (.inl rfl) (Zl (Zu (K:=K) rfl) rfl T.ay oh (Za (pv 4) Zb rfl)) rfl (.inl rfl)) d8.2)⟩
 intro vs Q h;obtain⟨R,rn,m,rv,ts,t,d,st,way,ring,rfl,hR,gr,ru,hm,hbig,k⟩:=h;refine⟨_,(Zc (ZeL (pv 1) (WH (K:=K) (n:=2) rfl rfl (Yj (Zo (i:=3) YF.nd rfl (.inl rfl)) (Yj (Zo (i:=4) YF.nd rfl (.inl rfl)) WF)))) d9.2),?_⟩;obtain⟨W,G,hrn,hW,hG⟩:=ru.ex;have l0:0<ring.length:=nv fun e=>ru.ne (mT e);generalize hp:ring.length=p at l0 hbig;have lts:(ts++[t]).length=ts.length+1:=by rw[fu];rfl
 have lrv:=gr.len;refine⟨_,rfl,rn,_,rfl,nX hrn,rfl,_,_,rfl,_,_,rfl,rfl,?_⟩;refine⟨_,rfl,.inl ⟨G,_,rfl,.inl (nV hG),?_⟩⟩;rw[fi,hp];refine⟨by decide,fun LN hLN=>?_⟩;obtain⟨H1,qN,s1,e1⟩:=ZN (o:=.lst []) hLN;rw[qN];refine⟨_,rfl,R,rfl,⟨_,nV (s1 _ _ hR)⟩,?_⟩;have keep:∀{F:Hp},Zs LN H1 F->Ze H F:=fun {F} sF b o e=>sF _ _ (fun z=>by rw[z,hLN] at e;cases e) (s1 _ _ e);refine Y4 (J:=Itl K R) (n:=rv.length) (fun j U F=>∃(z6 z7 z8:Option V) (vs:List V),U=[some (.ref R),some (.ref rn),some (.int (m:Nat)),some (.ref W),some (.ref G),some (.int (p:Nat)),some (.ref LN),z6,z7,z8]/\Zs LN H1 F/\F LN=some (.lst vs)/\vs.length=j/\(∀v∈vs,v≠.ref LN)/\QH F d st (XD way ring) p (way++ring).length (ts++[t]) vs) ?_ ?_ ?_ ?_ ?_
 ·exact⟨_,_,_,[],rfl,.refl _,e1,rfl,(fun v hv=>by cases hv),gk _,fun j v t h=>by simp at h⟩
 ·rintro j U F hj ⟨z6,z7,z8,vs,rfl,sF,_⟩;exact⟨_,_,nV (keep sF _ _ hR),fj hj⟩
 ·rintro U F ⟨z6,z7,z8,vs,rfl,sF,_⟩;exact⟨_,nV (keep sF _ _ hR),fh _⟩
 ·rintro j x U F0 F hj ⟨z6,z7,z8,vs,rfl,sF,fLN,lvs,nb,la⟩ ⟨rfl,hx⟩;have ex:=hx _ (nV (keep sF _ _ hR));have hjt:j<(ts++[t]).length:=by omega
  have ht:=fj hjt;have row:=(gr.row j x _ ex ht).mono (nW (keep sF));obtain⟨hc,ok⟩:=gr.c _ (fN hjt);generalize (ts++[t])[j]=u at ht row hc ok;have hjm:(j+1)*(p+1)<=(ts.length+1)*(p+1):=nU _ (by omega);have X3:∀(E':Hp) (z9:Option V) (l:Addr) (L:List Bool),Ze F E'->E' l=some (.lst (L.map V.bl))->ZT p L (Z5 d st (XD way ring) u)->L.length<=(way++ring).length+(j+1)*(p+1)->yU K a [.ref l,.int (p:Nat)] E' (fun v H2=>Vg (.ref LN) [v] H2 (fun _ H3=>∃(z6 z7 z8:Option V) (vs:List V),[some (.ref R),some (.ref rn),some (.int (m:Nat)),some (.ref W),some (.ref G),some (.int (p:Nat)),some (.ref LN),some x,some (.ref l),z9]=[some (.ref R),some (.ref rn),some (.int (m:Nat)),some (.ref W),some (.ref G),some (.int (p:Nat)),some (.ref LN),z6,z7,z8]/\Zs LN H1 H3/\H3 LN=some (.lst vs)/\vs.length=j+1/\(∀v∈vs,v≠.ref LN)/\QH H3 d st (XD way ring) p (way++ring).length (ts++[t]) vs)) (fun _ _ _=>False):=fun E' z9 l L sE el tl ll=>by
   refine⟨l,p,L,_,rfl,el,tl,by omega,fun H2 q L' s2 q0 eq tq lq=>?_⟩;have fLN2:=(sE.trans s2) _ _ fLN;have nq:q≠LN:=fun e=>by rw[e,sE _ _ fLN] at q0;cases q0
   refine⟨LN,_,_,rfl,rfl,fLN2,by rw[lvs,ft];have:j+1<=(j+1)*(p+1):=Nat.le_mul_of_pos_right _ (Nat.succ_pos _);omega,_,_,_,vs++[.ref q],rfl,?_,Zd,by rw[fu,lvs];rfl,fun v hv=>?_,?_,fun i v w e1 e2=>?_⟩
   ·exact(sF.trans (Ze.x (sE.trans s2))).upd
   ·rcases fG.mp hv with h|h
    ·exact nb v h
    ·rw[fM.mp h];exact fun e=>nq (V.ref.inj e)
   ·rw[fu,lvs];show j+1<=_;omega
   ·by_cases ci:i<vs.length
    ·rw[fW ci] at e1;obtain⟨l',L'',ev,gl,r⟩:=la.2 i v w e1 e2;have nl:l'≠LN:=fun e=>nb v (fU e1) (by rw[ev,e]);exact⟨l',L'',ev,by rw[Zx nl];exact(sE.trans s2) _ _ gl,r⟩
    ·have hi:=(fD.mp e1).1;rw[fu,gn] at hi;have ei:i=j:=by omega
     subst ei;rw[gf (by omega),lvs,gN] at e1;cases e1;rw[ht] at e2;cases e2;exact⟨q,L',rfl,by rw[Zx nq];exact eq,tq,by omega⟩
  unfold yw at row
  by_cases cat:X4 u=true
  ·rw[if_pos cat] at row;obtain⟨b,tb,rfl,g1,g2⟩:=row;refine⟨_,rfl,b,_,_,_,rfl,rfl,g1,Zj (j:=0) rfl,rfl,_,rfl,XT rfl ?_⟩;refine⟨_,rfl,_,rfl,W,G,_,_,rfl,rfl,keep sF _ _ hW,keep sF _ _ hG,by rw[fi,fi,ft];rw[fu] at hbig;omega,fun C hC=>?_⟩;rw[<- fQ];obtain⟨F1,qN,t1,eC⟩:=ZN (o:=.lst ((way++ring).map V.int)) hC;rw[qN];refine⟨C,rfl,⟨_,nV eC⟩,fun D hD=>?_⟩;refine Y0 (way++ring) V.int (fun r=>.bl (YM d st u r)) hD (nV eC) (by rw[ft];omega) ?_ ?_
   ·intro r hrm F2 N sF2 hN;obtain⟨r0,r1⟩:=ru.b r hrm;obtain⟨i,rfl⟩:=ml r0;have hi:i<d.signs.length:=by omega
    refine⟨_,rfl,b,_,_,_,rfl,rfl,nW (t1.trans sF2) _ _ _ g1,Zj (j:=1) rfl,_,rfl,tb,_,_,_,rfl,rfl,nW (t1.trans sF2) _ _ _ g2,Zj (by rw[fw,fw,iU hi];rfl),hN _ (.refl _)⟩
   intro F2 eD t2;refine⟨_,rfl,.inl ⟨rfl,_,nV ((t1.trans t2) _ _ fLN)⟩,_,rfl,_,rfl,X3 F2 _ D ((way++ring).map (YM d st u)) (t1.trans t2) (by rw[eD,gB];rfl) (by rw[<- hp];exact KL cat ru.ne) (by rw[fi];exact lY _ _)⟩
  ·rw[if_neg cat] at row;obtain⟨b,is,rfl,g1,il,hk⟩:=row;have cat':X4 u=false:=by simpa using cat
   have nat':Zy u.lb ≠ "at" := by
    rcases Wr hc ok cat' with⟨w,a1,rfl,h|h|h⟩|⟨w,a1,a2,rfl,h|h⟩|⟨a1,a2,rfl⟩
    ·rw[h];exact(by decide +kernel:¬(("not" : Str) = "at"))
    ·rw[h];exact(by decide +kernel:¬(("next" : Str) = "at"))
    ·rw[h];exact(by decide +kernel:¬(("before" : Str) = "at"))
    ·rw[h];exact(by decide +kernel:¬(("until" : Str) = "at"))
    ·rw[h];exact(by decide +kernel:¬(("since" : Str) = "at"))
    ·exact(by decide +kernel:¬(("and" : Str) = "at"))
   refine⟨_,rfl,b,_,_,_,rfl,rfl,g1,Zj (j:=0) rfl,rfl,_,rfl,Z4 (fun z=>nat' (V.str.inj z)) ?_⟩;have kid:∀(i mm:Nat) (kd:Tr),u.ks[i]?=some kd->is[i]?=some mm->∃l L,vs[mm]?=some (.ref l)/\F l=some (.lst (L.map V.bl))/\ZT p L (Z5 d st (XD way ring) kd)/\L.length<=(way++ring).length+j*(p+1):=fun i mm kd e1 e2=>by
    obtain⟨h1,h2⟩:=hk i kd mm e1 e2;have hv:vs[mm]?=some vs[mm]:=fj (by omega);obtain⟨l,L,ev,gl,tl,ll⟩:=la.2 mm _ kd hv h2;have:(mm+1)*(p+1)<=j*(p+1):=nU _ h1;exact⟨l,L,by rw[hv,ev],gl,tl,by omega⟩
   have jm:(j+1)*(p+1)=j*(p+1)+(p+1):=Nat.succ_mul _ _;have one:∀{q:Nat->Bool},q=Z5 d st (XD way ring) u->∀{L:List Bool},ZT p L q->ZT p L (Z5 d st (XD way ring) u):=fun e _ h=>e▸h;obtain⟨f,sp,mem,fam,deed⟩:∃f sp,(Zy u.lb,f)∈([("not",a.y25),("and",a.y26),("next",a.y27),("until",a.y28),("before",a.y29),("since",a.y30)]:List (Str×Addr))/\Zgl K a f sp/\∀(F2:Hp) (D:Addr) (Q':VK),Ze F F2->F2 D=some (.lst (is.map fun i=>(vs[i]?).getD .non))->(∀H3 l L,Ze F2 H3->H3 l=some (.lst (L.map V.bl))->ZT p L (Z5 d st (XD way ring) u)->L.length<=(way++ring).length+(j+1)*(p+1)->Q' (.ref l) H3)->sp [.ref D,.int (p:Nat)] F2 Q' E0:=by
    rcases Wr hc ok cat' with⟨w,a1,rfl,h⟩|⟨w,a1,a2,rfl,h⟩|⟨a1,a2,rfl⟩
    ·obtain⟨m1,rfl⟩:∃m1,is=[m1]:=by
      cases is with
      |nil=>cases il
      |cons x r=>cases r with
       |nil=>exact⟨x,rfl⟩
       |cons y s=>simp[Tr.ks] at il
     obtain⟨l1,L1,hv1,gl1,tl1,ll1⟩:=kid 0 m1 a1 rfl rfl;have em:([m1].map fun i=>(vs[i]?).getD .non)=[V.ref l1]:=by simp[hv1]
     rw[em];rcases h with rfl|rfl|rfl
     ·refine⟨a.y25,_,by simp[Zy,Tr.lb],.inl ⟨rfl,rfl⟩,fun F2 D Q' s2 eD q=>?_⟩;exact⟨D,l1,p,L1,_,rfl,eD,s2 _ _ gl1,tl1,by omega,fun H3 l L s3 el tl ll=>q H3 l L s3 el (one (jG a1).symm tl) (by omega)⟩
     ·refine⟨a.y27,_,by simp[Zy,Tr.lb],.inr (.inr (.inl ⟨rfl,rfl⟩)),fun F2 D Q' s2 eD q=>?_⟩;exact⟨D,l1,p,L1,_,rfl,eD,s2 _ _ gl1,tl1,by omega,fun H3 l L s3 el tl ll=>q H3 l L s3 el (one (yX a1).symm tl) (by omega)⟩
     ·refine⟨a.y29,_,by simp[Zy,Tr.lb],.inr (.inr (.inr (.inr (.inl ⟨rfl,rfl⟩)))),fun F2 D Q' s2 eD q=>?_⟩;exact⟨D,l1,p,L1,_,rfl,eD,s2 _ _ gl1,tl1,by omega,fun H3 l L s3 el tl ll=>q H3 l L s3 el (one (qC a1).symm tl) (by omega)⟩
    ·obtain⟨m1,m2,rfl⟩:∃m1 m2,is=[m1,m2]:=by
      cases is with
      |nil=>cases il
      |cons x r=>cases r with
       |nil=>simp[Tr.ks] at il
       |cons y s=>cases s with
        |nil=>exact⟨x,y,rfl⟩
        |cons z w=>simp[Tr.ks] at il
     obtain⟨l1,L1,hv1,gl1,tl1,ll1⟩:=kid 0 m1 a1 rfl rfl;obtain⟨l2,L2,hv2,gl2,tl2,ll2⟩:=kid 1 m2 a2 rfl rfl;have em:([m1,m2].map fun i=>(vs[i]?).getD .non)=[V.ref l1,V.ref l2]:=by simp[hv1,hv2]
     rw[em];rcases h with rfl|rfl
     ·refine⟨a.y28,_,by simp[Zy,Tr.lb],.inr (.inr (.inr (.inl ⟨rfl,rfl⟩))),fun F2 D Q' s2 eD q=>?_⟩;exact⟨D,l1,l2,p,L1,L2,_,_,rfl,eD,s2 _ _ gl1,s2 _ _ gl2,tl1,tl2,by omega,by omega,fun H3 l L s3 el tl ll=>q H3 l L s3 el (one (zP a1 a2).symm tl) (by omega)⟩
     ·refine⟨a.y30,_,by simp[Zy,Tr.lb],.inr (.inr (.inr (.inr (.inr ⟨rfl,rfl⟩)))),fun F2 D Q' s2 eD q=>?_⟩;exact⟨D,l1,l2,p,L1,L2,_,_,rfl,eD,s2 _ _ gl1,s2 _ _ gl2,tl1,tl2,by omega,by omega,fun H3 l L s3 el tl ll=>q H3 l L s3 el (one (zC a1 a2).symm tl) (by omega)⟩
    ·obtain⟨m1,m2,rfl⟩:∃m1 m2,is=[m1,m2]:=by
      cases is with
      |nil=>cases il
      |cons x r=>cases r with
       |nil=>simp[Tr.ks] at il
       |cons y s=>cases s with
        |nil=>exact⟨x,y,rfl⟩
        |cons z w=>simp[Tr.ks] at il
     obtain⟨l1,L1,hv1,gl1,tl1,ll1⟩:=kid 0 m1 a1 rfl rfl;obtain⟨l2,L2,hv2,gl2,tl2,ll2⟩:=kid 1 m2 a2 rfl rfl;have em:([m1,m2].map fun i=>(vs[i]?).getD .non)=[V.ref l1,V.ref l2]:=by simp[hv1,hv2]
     rw[em];refine⟨a.y26,_,by simp[Zy,Tr.lb],.inr (.inl ⟨rfl,rfl⟩),fun F2 D Q' s2 eD q=>?_⟩;exact⟨D,l1,l2,p,L1,L2,_,_,rfl,eD,s2 _ _ gl1,s2 _ _ gl2,tl1,tl2,by omega,by omega,fun H3 l L s3 el tl ll=>q H3 l L s3 el (one (kT a1 a2).symm tl) (by omega)⟩
   refine⟨_,rfl,b,_,_,_,rfl,rfl,g1,Zj (j:=0) rfl,a.D_LINES,_,_,f,rfl,rfl,T.cI,mem,?_⟩;refine⟨f,sp,rfl,fam,_,rfl,1,rfl,b,_,rfl,g1,?_,fun c hcN=>?_⟩
   ·intro⟨z1,_⟩;have:HT.sIx (V.str (Zy u.lb)::is.map fun i:Nat=>V.int (i:Nat)).length 0 (some ((1:Nat):Int))=0:=z1;rw[HT.sIx_nat] at this;simp at this
   have ec:=Wt (V.str (Zy u.lb)::is.map fun i:Nat=>V.int (i:Nat)) 1 (by simp);rw[show((1:Nat):Int)=1 from rfl] at ec;rw[ec];obtain⟨F1,qN,t1,ecc⟩:=ZN (o:=.tup (is.map fun i:Nat=>V.int (i:Nat))) hcN
   change upd F c (.tup ((V.str (Zy u.lb)::is.map fun i:Nat=>V.int (i:Nat)).drop 1))=F1 at qN
   rw[qN];refine⟨c,rfl,⟨_,nX ecc⟩,fun D hD=>?_⟩;refine yM is (fun i:Nat=>V.int (i:Nat)) (fun i=>(vs[i]?).getD .non) hD (nX ecc) (by rw[il,ft];have:=Zea ok;omega) ?_ ?_
   ·intro i hi F2 N sF2 hN;obtain⟨e0,he0,ei0⟩:=gu hi;have h1:u.ks[e0]?=some (u.ks[e0]'(by omega)):=fj (by omega);obtain⟨lt,_⟩:=hk e0 _ i h1 (by rw[fj he0,ei0]);have hv:vs[i]?=some vs[i]:=fj (by omega);have:=hN F2 (.refl _);rw[hv] at this;exact⟨_,rfl,_,rfl,LN,_,_,_,rfl,rfl,nV ((t1.trans sF2) _ _ fLN),Zj hv,this⟩
   intro F2 eD t2;refine⟨_,rfl,deed F2 D _ (t1.trans t2) eD fun H3 l L s3 el tl ll=>?_⟩;have s03:=t1.trans (t2.trans s3);exact⟨_,rfl,.inl ⟨rfl,_,nV (s03 _ _ fLN)⟩,_,rfl,_,rfl,X3 H3 _ l L s03 el tl ll⟩
 rintro U F ⟨z6,z7,z8,vs,rfl,sF,fLN,lvs,nb,la⟩;have lv1:vs.length=ts.length+1:=by omega
 have hv:vs[ts.length]?=some (vs[ts.length]'(by omega)):=fj (by omega);obtain⟨l,L,ev,gl,tl,ll⟩:=la.2 ts.length _ t hv (by rw[gf (fh _),gN];rfl);have ea:atI vs (-1)=some (.ref l):=by
  have:=qM (xs:=vs) (p:=1) (fh _) (by omega);rw[show(-((1:Nat):Int))=-1 from rfl] at this;rw[this];have e2:vs[vs.length-1]'(by omega)=vs[ts.length]'(by omega):=by congr 1;omega
  rw[e2,ev]
 refine⟨_,rfl,_,rfl,LN,_,_,_,rfl,rfl,nV fLN,ea,_,rfl,_,rfl,l,m,p,L,_,rfl,gl,tl,by omega,by omega,fun H2 q L' s2 q0 eq tq lq=>?_⟩;refine⟨_,rfl,_,rfl,q,_,rfl,nV eq,fun q2 hq2=>?_⟩;rw[VY,<- iL];have et:L'.take m=(List.range m).map (Z5 d st (XD way ring) t):=by
  apply iR;intro i
  by_cases hi:i<m
  ·rw[mE hi,tq.get (by omega),fw,iU hi];rfl
  ·rw[gK (by rw[fZ];omega),gK (by rw[fi,fY];omega)]
 rw[et];have sH:=(keep sF).trans (s2.trans (Zi (o:=.lst (((List.range m).map (Z5 d st (XD way ring) t)).map V.bl)) hq2));exact k _ q2 sH (((keep sF).trans s2).free hq2) Zd
def Q1(K:W.Frag)(H:Hp)(st:Tr->List Int)(t:Tr)(b:Addr)(rv:V):Prop:=(t.lb=.yes/\SqT K H b [.str "yes"])\/(∃z,t.lb=.sign z/\SqT K H b [.str "sign",.str z])\/(t.lb=.op "some" /\ (∃x,SqT K H b [.str "some",x])/\∃l,rv=.ref l/\H l=some (.lst ((st t).map V.int))/\(st t).length<=1000)
def xQ(K:W.Frag)(a:Adr):Sp:=fun vs H Q _=>Ex6 fun(w b:Addr) (rv:V) (d:WD) (st:Tr->List Int) (t:Tr)=>Cj5 (vs=[.ref w,.ref b,rv]) (Z0 a.C_World H w d) (d.signs.length<=20) (Q1 K H st t b rv) (∀H' tb,Ze H H'->H' tb=some (.tup (((List.range d.signs.length).map fun r:Nat=>YM d st t (r:Nat)).map V.bl))->Q (.ref tb) H')
theorem xz{ss:List Str}:inV (.str z) ((Wm ss).map V.str)=decide (z∈ss):=by
 rw[iY,jI,lQ];exact(qz ss).mem_iff
theorem xM:Okd P w K mg base a 2 a.y20 a.z20 dD xQ:=fun T hw=>by
 refine okX T.bo.f yN fun cR A outer s H E hr=>?_;intro X
 let d1:Rdg X Yl [0,0,0]:=⟨_,(Zh (Zm (ZO (Yu (K:=K) rfl) rfl T.aK oi (Za (ZU (Nc:=["room"]) (ix:=[none]) (ZL.of (by decide +kernel:ZS (Zg Yl) ["world","row","rooms"] _ _ _=true)) rfl (Xo rfl T.aJ (Za (V2 (pv 0) T.aj T.ab.m (Xs T hw) (rmL hr rfl) T.ab.n .nil YK) Zb rfl)) (fun _ _ _ _ _=>(Zo (i:=0) (show List.Nodup (["room"]:List Str) by decide +kernel) rfl (.inl rfl))) (fun _ _ _ _ _=>Z3) (fun _ _ _ _ _=>Y9)) Zb rfl))))⟩
 let d2:Rdg X Yl [1,0,0]:=⟨_,(Zh (Zm (ZO (Yu (K:=K) rfl) rfl T.aK oi (Za (ZU (Nc:=["room","row","world"]) (ix:=[none,some 1,some 0]) (ZL.of (by decide +kernel:ZS (Zg Yl) ["world","row","rooms"] _ _ _=true)) rfl (Xo rfl T.aJ (Za (V2 (pv 0) T.aj T.ab.m (Xs T hw) (rmL hr rfl) T.ab.n .nil YK) Zb rfl)) (fun _ _ _ _ _=>(Zo (i:=0) (show List.Nodup (["room","row","world"]:List Str) by decide +kernel) rfl (.inl rfl))) (fun _ _ _ _ _=>Z3) (fun _ _ _ _ _=>(Xb (WT (K:=K) rfl) (Zv (ZP (K:=K) rfl) (pv 1) Zf (fun _ _=>rfl)) (WC (pv 2) T.aj T.ag.m (Wc T hw) (rmL hr rfl) T.ag.n .nil YK (Za (pv 0) Zb rfl)) (by with_unfolding_all rfl)))) Zb rfl))))⟩
 let d3:Rdg X Yl [2]:=⟨_,(Zh (Zm (ZO (Yu (K:=K) rfl) rfl T.aK oi (Za (ZU (Nc:=["room","rooms"]) (ix:=[none,some 2]) (ZL.of (by decide +kernel:ZS (Zg Yl) ["world","row","rooms"] _ _ _=true)) rfl (Xo rfl T.aJ (Za (V2 (pv 0) T.aj T.ab.m (Xs T hw) (rmL hr rfl) T.ab.n .nil YK) Zb rfl)) (fun _ _ _ _ _=>(Zo (i:=0) (show List.Nodup (["room","rooms"]:List Str) by decide +kernel) rfl (.inl rfl))) (fun _ _ _ _ _=>Z3) (fun _ _ _ _ _=>(Xb (WT (K:=K) rfl) (pv 0) (pv 1) (by with_unfolding_all rfl)))) Zb rfl))))⟩
 let d4:Rdg X Yl [1]:=⟨_,(Zc (Z2 (Zw YC (Zv (ZP (K:=K) rfl) (pv 1) Zf (fun _ _=>rfl)) Zz (ZK _)) d2.2 ZD) d3.2)⟩
 intro vs Q h;obtain⟨w,b,rv,d,st,t,rfl,hw0,n20,ar,k⟩:=h;refine⟨_,(Zc (Z2 (Zw YC (Zv (ZP (K:=K) rfl) (pv 1) Zf (fun _ _=>rfl)) Zz (ZK _)) d1.2 ZD) d4.2),?_⟩;obtain⟨dx,fs,ho,hk0⟩:=yy hw0;rcases ar with⟨el,g⟩|⟨z,el,g⟩|⟨el,⟨x,g⟩,l,rfl,hl,ll⟩
 ·refine⟨_,rfl,b,_,_,_,rfl,rfl,g,Zj (j:=0) rfl,rfl,_,rfl,XT rfl ?_⟩;refine⟨_,rfl,w,dx,fs,rfl,ho,hk0,w,d,rfl,hw0,_,rfl,by lia,by lia,?_⟩;rw[ge];intro D hD;refine qr (fun r=>.bl (YM d st t (r:Nat))) hD (by rw[ft];lia) (fun r hr2 G N sG hN=>?_) fun H1 e1 s1=>?_
  ·have:YM d st t (r:Nat)=true:=by unfold YM;rw[el]
   have q:=hN G (.refl _);rw[this] at q;exact q
  ·exact⟨D,_,rfl,.inl ⟨nV e1,fun tb ht=>k _ tb (s1.trans (Zi ht)) (by rw[Zd,gB];rfl)⟩⟩
 ·refine⟨_,rfl,b,_,_,_,rfl,rfl,g,Zj (j:=0) rfl,rfl,_,rfl,Z4 (fun q=>(by decide +kernel:¬(("sign" : Str) = "yes")) (V.str.inj q)) ?_⟩;refine⟨_,rfl,b,_,_,_,rfl,rfl,g,Zj (j:=0) rfl,rfl,_,rfl,XT rfl ?_⟩;refine⟨_,rfl,w,dx,fs,rfl,ho,hk0,w,d,rfl,hw0,_,rfl,by lia,by lia,?_⟩;rw[ge];intro D hD;refine qr (fun r=>.bl (YM d st t (r:Nat))) hD (by rw[ft];lia) (fun r hr2 G N sG hN=>?_) fun H1 e1 s1=>?_
  ·obtain⟨dx2,fs2,ho2,hk2⟩:=UM (hw0.mono sG);refine⟨_,rfl,b,_,_,_,rfl,rfl,nW sG _ _ _ g,Zj (j:=1) rfl,_,rfl,w,dx2,fs2,rfl,ho2,hk2,_,rfl,w,d,r,d.signs[r],rfl,hw0.mono sG,fj hr2,fun q hq=>?_⟩;refine⟨q,_,rfl,.inl (nV Zd),rfl,zN _,?_⟩;have:YM d st t (r:Nat)=inV (.str z) ((Wm d.signs[r]).map V.str):=by
    unfold YM;rw[el,xz]
    show decide (z∈xC d (r:Nat))=_
    unfold xC;rw[ge,fj hr2];rfl
   have qq:=hN _ (Zi (o:=.lst ((Wm d.signs[r]).map V.str)) hq);rw[this] at qq;exact qq
  ·exact⟨D,_,rfl,.inl ⟨nV e1,fun tb ht=>k _ tb (s1.trans (Zi ht)) (by rw[Zd,gB];rfl)⟩⟩
 ·refine⟨_,rfl,b,_,_,_,rfl,rfl,g,Zj (j:=0) rfl,rfl,_,rfl,Z4 (fun q=>(by decide +kernel:¬(("some" : Str) = "yes")) (V.str.inj q)) ?_⟩;refine⟨_,rfl,b,_,_,_,rfl,rfl,g,Zj (j:=0) rfl,rfl,_,rfl,Z4 (fun q=>(by decide +kernel:¬(("some" : Str) = "sign")) (V.str.inj q)) ?_⟩;refine⟨_,rfl,w,dx,fs,rfl,ho,hk0,w,d,rfl,hw0,_,rfl,by lia,by lia,?_⟩;rw[ge];intro D hD;refine qr (fun r=>.bl (YM d st t (r:Nat))) hD (by rw[ft];lia) (fun r hr2 G N sG hN=>?_) fun H1 e1 s1=>?_
  ·refine⟨_,rfl,_,rfl,l,_,rfl,.inl (nV (sG _ _ hl)),rfl,VZ _,?_⟩;have:YM d st t (r:Nat)=inV (.int (r:Nat)) ((st t).map V.int):=by
    unfold YM;rw[el,zt]
   have qq:=hN G (.refl _);rw[this] at qq;exact qq
  ·exact⟨D,_,rfl,.inl ⟨nV e1,fun tb ht=>k _ tb (s1.trans (Zi ht)) (by rw[Zd,gB];rfl)⟩⟩
theorem k6(h1:H S=some (.dK kv)):YX H (upd H S o):=fun K b ys h=>by
 rcases h with(h|⟨o',h⟩)|h
 ·exact .inl (.inl (by rw[Zx (fun z=>by rw[z,h1] at h;cases h)];exact h))
 ·exact .inl (.inr ⟨o',by rw[Zx (fun z=>by rw[z,h1] at h;cases h)];exact h⟩)
 ·exact .inr h
theorem WQ{xs:List V}(h1:H S=some (.lst xs)):YX H (upd H S o):=fun K b ys h=>by
 rcases h with(h|⟨o',h⟩)|h
 ·exact .inl (.inl (by rw[Zx (fun z=>by rw[z,h1] at h;cases h)];exact h))
 ·exact .inl (.inr ⟨o',by rw[Zx (fun z=>by rw[z,h1] at h;cases h)];exact h⟩)
 ·exact .inr h
def Ze0(H:Hp)(st:Tr->List Int)(ps ts:List Tr)(kv:List (Key×V)):Prop:=∀(m:Nat) t,ps[m]?=some t->t∈ts->t.lb=.op "some" -> ∃l,Xc kv (.inl (m:Int))=some (.ref l)/\H l=some (.lst ((st t).map V.int))/\(st t).length<=1000
def xa(K:W.Frag)(a:Adr):Sp:=fun vs H Q _=>ZgJ fun(w r P R D tl:Addr) (i:Nat) (ps:List Tr) (t:Tr) (d:WD) (st:Tr->List Int) (kv:List (Key×V))=>ZcM (vs=[.ref w,.ref r,.int (i:Nat),.ref tl]) (Z0 a.C_World H w d) (d.signs.length<=20) (TbK K a.Pm a.C_Table H r P R D ps) (ps[i]?=some t) ((∀s∈ps,isC s=true)) (psz t<=2000000) ((Zk [] (Zp t)).length<4000) (H tl=some (.dK kv)) (Ze0 H st ps (Zk [] (Zp t)) kv) (∀H' q rv,Ze H H'->H q=none->H' q=some (.lst rv)->ZeS K H' d st (Zk [] (Zp t)) rv->Q (.ref q) H')
theorem yT:Okd P w K mg base a 3 a.y19 a.z19 dE xa:=fun T hw=>by
 refine okX T.bn.f XB fun cR A outer s H E hr=>?_;intro X
 let d1:Rdg X Ye [2,0,2,0,0]:=⟨_,(Zh (Yq (XR gv gH gI Z1 (pv 5) (Za (ZX (Za Zz (Za (ZB T.bo (xM T hw) hr rfl rfl (Zq (pv 0) (Zq (pv 7) (Zq (Zc1 (ZcT hr) (pv 3) (pv 6) ⟨rfl,rfl,rfl,rfl⟩) Zb rfl) rfl) rfl)) Zb rfl) rfl)) Zb rfl)) rfl))⟩
 let d2:Rdg X Ye [2,0,2,1,0]:=⟨_,(Zh (Yq (XR gv gH gI Z1 (pv 5) (Za (ZR (xV (K:=K) rfl) (ZX (Za (Zv (ZP (K:=K) rfl) (pv 7) Zf (fun _ _=>rfl)) Zb rfl)) (ZO (Yu (K:=K) rfl) rfl T.aK oi (Za (ZU (Nc:=["part","places"]) (ix:=[none,some 4]) (ZL.of (by decide +kernel:ZS (Zg Ye) U9 _ _ _=true)) rfl (jX (K:=K) rfl (Yd (W9 (K:=K) rfl) (pv 7) (Z9 Zf) YH)) (fun _ _ _ _ _=>(Zo (i:=0) (show List.Nodup (["part","places"]:List Str) by decide +kernel) rfl (.inl rfl))) (fun _ _ _ _ _=>Z3) (fun _ _ _ _ _=>(ZdM (ZcT hr) (pv 1) (pv 0) (fun _ _=>rfl)))) Zb rfl))) Zb rfl)) rfl))⟩
 let d3:Rdg X Ye [2,0,2]:=⟨_,(Zh (Z2 (Zw (WT (K:=K) rfl) (Zv (ZP (K:=K) rfl) (pv 7) Zf (fun _ _=>rfl)) (ZX (Zq Zz (Zq Zz (Zq Zz Zb rfl) rfl) rfl)) (by with_unfolding_all rfl)) d1.2 d2.2))⟩
 let d4:Rdg X Ye [2,0,1]:=⟨_,(Zc (ZdO (ZcT hr) (pv 4) (pv 6) (Zl (Zu (K:=K) rfl) rfl T.ay oh (Za (pv 5) Zb rfl)) rfl) d3.2)⟩
 let d5:Rdg X Ye [2,0,0]:=⟨_,(Zc (Zn (i:=7) XB.nd rfl (.inl rfl) (Zv (Zr (K:=K) rfl) (Wa (K:=K) rfl (pv 1) rfl) (pv 6) (fun _ _=>rfl)) rfl (.inl rfl)) d4.2)⟩
 let d6:Rdg X Ye [2]:=⟨_,(Zc (XF gw rfl (ZE (K:=K) rfl (WC (pv 1) T.av T.aq.m (Ub T hw) (rmL hr rfl) T.aq.n .nil YK (Za (pv 2) Zb rfl))) (Zo (i:=6) XB.nd rfl (.inl rfl)) d5.2) (Zh (Zm (pv 5))))⟩
 let d7:Rdg X Ye [1]:=⟨_,(Zc (Zn (i:=5) XB.nd rfl (.inl rfl) (ZY Zb) rfl (.inl rfl)) d6.2)⟩
 intro vs Q h;obtain⟨w,r,P,R,D,tl,i,ps,t,d,st,kv,rfl,hw0,n20,tb,hi,hc,hz,hfew,htl,told,k⟩:=h;refine⟨_,(Zc (Zn (i:=4) XB.nd rfl (.inr rfl) L3.pe_dnewK rfl (.inl rfl)) d7.2),?_⟩;generalize hts:Zk [] (Zp t)=ts at hfew told k;have ord:Ord ts:=by rw[<- hts];exact Jl t
 have tsn:ts.Nodup:=by rw[<- hts];exact YD (by simp)
 refine fun PL hPL=>?_;obtain⟨H1,qN,s1,ePL⟩:=ZN (o:=.dK []) hPL;rw[qN];refine⟨by decide,fun RW hRW=>?_⟩;obtain⟨H2,qN,s2,eRW⟩:=ZN (o:=.lst []) hRW;rw[qN];have s12:=s1.trans s2;have tb2:=tb.mono s12;obtain⟨dx,ho⟩:=tb2.obj;have nPR:PL≠RW:=fun e=>by rw[e] at ePL;rw[ePL] at hRW;cases hRW
 refine⟨_,rfl,r,dx,_,rfl,ho,lkN (by decide +kernel) (by decide +kernel) (by decide +kernel),_,rfl,r,P,R,D,ps,t,i,rfl,tb2,hi,hc,hz,by rw[hts];exact hfew,fun H3 L is s3 L0 hL nums=>⟨L,rfl,⟨_,nV hL⟩,?_⟩⟩;rw[hts] at nums;have s13:=s12.trans s3;have ePL3:=(s2.trans s3) _ _ ePL;have eRW3:=s3 _ _ eRW;have nLP:L≠PL:=fun e=>by rw[e,s2 _ _ ePL] at L0;cases L0
 have nLR:L≠RW:=fun e=>by rw[e,eRW] at L0;cases L0
 have iv:(iV is).length=is.length:=Vm is;have lis:=nums.1;have keep:∀{G:Hp},Vt PL RW H3 G->Ze H G:=fun {G} sG b o e=>sG _ _ (fun z=>by rw[z,hPL] at e;cases e) (fun z=>by rw[z] at e;rw[s1 _ _ e] at hRW;cases hRW) (s13 _ _ e);refine Y4 (J:=Itl K L) (n:=ts.length) (fun j U G=>∃(z6 z7:Option V) (kp:List (Key×V)) (rv:List V),U=[some (.ref w),some (.ref r),some (.int (i:Nat)),some (.ref tl),some (.ref PL),some (.ref RW),z6,z7]/\Vt PL RW H3 G/\G PL=some (.dK kp)/\kp.length<=j/\(∀(x m:Nat),x<j->is[x]?=some m->Xc kp (.inl (m:Int))=some (.int (x:Nat)))/\G RW=some (.lst rv)/\rv.length=j/\∀(x:Nat) v u,rv[x]?=some v->ts[x]?=some u->yw K G d st ts x v u) ?_ ?_ ?_ ?_ ?_
 ·exact⟨_,_,[],[],rfl,(fun b o _ _ e=>e),ePL3,fh _,(fun x m h=>absurd h (Nat.not_lt_zero x)),eRW3,rfl,fun x v u h=>by simp at h⟩
 ·rintro j U G hj ⟨z6,z7,kp,rv,rfl,sG,_⟩;exact⟨_,_,nV (sG _ _ nLP nLR hL),fj (by rw[iv];lia)⟩
 ·rintro U G ⟨z6,z7,kp,rv,rfl,sG,_⟩;exact⟨_,nV (sG _ _ nLP nLR hL),by rw[iv];lia⟩
 ·rintro j x U G0 G hj ⟨z6,z7,kp,rv,rfl,sG,gP,lk,pl,gR,lr,gr⟩ ⟨rfl,hx⟩;have ex:=hx _ (nV (sG _ _ nLP nLR hL));unfold iV at ex;rw[fw] at ex;have hm:is[j]?=some (is[j]'(by lia)):=fj (by lia);generalize (is[j]'(by lia))=m at hm;rw[hm] at ex;have ex':x=.int (m:Int):=(fO ex).symm;subst ex';have hu:ts[j]?=some ts[j]:=fj hj;have hmem:ts[j]∈ts:=fN hj;generalize hue:ts[j]=u at hu hmem;have hpm:=nums.2 j m u hm hu;have tbG:=tb.mono (keep sG);obtain⟨dx2,ho2⟩:=tbG.obj;obtain⟨np,pv0,hP2,aP⟩:=tbG.pl;obtain⟨rows,hR2,rl,hrt,hrr,hD2⟩:=tbG.rl;have hml:m<ps.length:=(fD.mp hpm).1;have hrk:rows[m]?=some (rows[m]'(by lia)):=fj (by lia);have hb:=hrt _ (fN (show m<rows.length by lia));obtain⟨kn,kl,kin,ekey⟩:=hrr m u _ hpm hrk;rw[ekey] at hb;have hrv:(rows.map fun e=>V.ref e.2)[m]?=some (V.ref (rows[m]'(by lia)).2):=by rw[fw,hrk];rfl
  generalize (rows[m]'(by lia)).2=b at hb hrv;have hcu:=hc u (fU hpm);have oku:=aP.oks u (fU hpm);refine⟨_,rfl,r,_,dx2,_,_,rfl,ho2,T.av,T.aE,lkR,_,rfl,R,_,_,_,rfl,rfl,nV hR2,Zj hrv,?_⟩;refine⟨_,rfl,.inl ⟨RW,_,rfl,.inl (nV gR),_,rfl,_,rfl,PL,_,rfl,Ja.k (k:=.inl (m:Int)) gP (by rw[ft];lia),?_⟩⟩;rw[lr];have tP:=k6 (o:=.dK (WS kp (.inl (m:Int)) (.int (j:Nat)))) gP;have s2P:Vt PL RW H3 (upd G PL (.dK (WS kp (.inl (m:Int)) (.int (j:Nat))))):=sG.upd1;have gP2:(upd G PL (.dK (WS kp (.inl (m:Int)) (.int (j:Nat))))) PL=some (.dK (WS kp (.inl (m:Int)) (.int (j:Nat)))):=Zd;have gR2:(upd G PL (.dK (WS kp (.inl (m:Int)) (.int (j:Nat))))) RW=some (.lst rv):=by rw[Zx (fJ nPR)];exact gR
  have lk2:(WS kp (.inl (m:Int)) (.int (j:Nat))).length<=j+1:=fK (X6 _ _ _) (by lia);have isn:∀x,x<j->is[x]?≠some m:=fun x hxj e=>by
   have h1:=nums.2 x m (ts[x]'(by lia)) e (fj (by lia));rw[hpm] at h1;have h2:=fO h1;rw[<- hue] at h2;have:=(iM tsn).mp h2
   lia
  have pl2:∀(x q:Nat),x<j+1->is[x]?=some q->Xc (WS kp (.inl (m:Int)) (.int (j:Nat))) (.inl (q:Int))=some (.int (x:Nat)):=fun x q hxj e=>by
   rw[Jr]
   by_cases cx:x=j
   ·subst cx;rw[hm] at e;cases e;rw[if_pos rfl]
   ·have hx2:x<j:=by lia
    rw[if_neg (fun z=>isn x hx2 (by
     have:(q:Int)=(m:Int):=Sum.inl.inj z;rw[e];congr 1;lia))]
    exact pl x q hx2 e
  have gr2:∀(x:Nat) v u,rv[x]?=some v->ts[x]?=some u->yw K (upd G PL (.dK (WS kp (.inl (m:Int)) (.int (j:Nat))))) d st ts x v u:=fun x v u h1 h2=>(gr x v u h1 h2).mono tP;have hb2:=tP _ _ _ hb;generalize upd G PL (.dK (WS kp (.inl (m:Int)) (.int (j:Nat))))=G2 at s2P gP2 gR2 gr2 hb2 ⊢;generalize WS kp (.inl (m:Int)) (.int (j:Nat))=kp2 at gP2 lk2 pl2;clear tP gr pl lk gP gR sG hP2 aP hR2 hrt hrr hD2 hrv hrk ho2 tbG;have X3:∀(G3:Hp) (q:V),Ze G2 G3->yw K G3 d st ts j q u->∀z6 z7,Vg (.ref RW) [q] G3 (fun _ G4=>∃(y6 y7:Option V) (kp:List (Key×V)) (rv:List V),[some (.ref w),some (.ref r),some (.int (i:Nat)),some (.ref tl),some (.ref PL),some (.ref RW),z6,z7]=[some (.ref w),some (.ref r),some (.int (i:Nat)),some (.ref tl),some (.ref PL),some (.ref RW),y6,y7]/\Vt PL RW H3 G4/\G4 PL=some (.dK kp)/\kp.length<=j+1/\(∀(x m:Nat),x<j+1->is[x]?=some m->Xc kp (.inl (m:Int))=some (.int (x:Nat)))/\G4 RW=some (.lst rv)/\rv.length=j+1/\∀(x:Nat) v u,rv[x]?=some v->ts[x]?=some u->yw K G4 d st ts x v u):=fun G3 q s3' gq z6 z7=>by
   have gR3:=s3' _ _ gR2;refine⟨RW,_,_,rfl,rfl,gR3,by rw[lr,ft];lia,_,_,kp2,rv++[q],rfl,(s2P.trans (Ze.two s3')).upd2,by rw[Zx nPR];exact s3' _ _ gP2,lk2,pl2,Zd,by rw[fu,lr];rfl,fun x v u' h1 h2=>?_⟩
   by_cases cx:x<rv.length
   ·rw[fW cx] at h1;exact(gr2 x v u' h1 h2).mono ((nW s3').trans (WQ gR3))
   ·have hxl:=(fD.mp h1).1;rw[fu,gn] at hxl;have exj:x=j:=by lia
    subst exj;rw[gf (by lia),lr,gN] at h1;cases h1;rw[hu] at h2;cases h2;exact gq.mono (WQ gR3)
  have hkeep:=keep s2P
  by_cases cat:X4 u=true
  ·-- an atom
   have arow:∃xs,SqT K G2 b (.str (Zy u.lb)::xs)/\Zy u.lb∈(["yes","sign","some"]:List Str)/\∀G3,Ze G2 G3->Q1 K G3 st u b ((Xc kv (.inl (m:Int))).getD .non):=by
    unfold X4 at cat;cases el:u.lb with
    |yes=>
     rw[el] at hb2;exact⟨[],hb2,by simp[Zy],fun G3 s3'=>.inl ⟨el,nW s3' _ _ _ hb2⟩⟩
    |sign z=>
     rw[el] at hb2;exact⟨[.str z],hb2,by simp[Zy],fun G3 s3'=>.inr (.inl ⟨z,el,nW s3' _ _ _ hb2⟩)⟩
    |op w'=>
     rw[el] at cat hb2;have ew:=fT cat;subst ew;obtain⟨l,hv,hl,ll⟩:=told m u hpm hmem el;rw[hv];have k1:kn.length=1:=by
      rw[kl];rw[el] at oku;rcases oku with⟨_,h⟩|⟨h,_⟩
      ·exact h
      ·exact absurd h (by decide +kernel)
     obtain⟨m1,rfl⟩:∃m1,kn=[m1]:=by
      cases kn with
      |nil=>cases k1
      |cons x r=>cases r with
       |nil=>exact⟨x,rfl⟩
       |cons y s=>simp at k1
     exact⟨_,hb2,by simp[Zy],fun G3 s3'=>.inr (.inr ⟨el,⟨_,nW s3' _ _ _ hb2⟩,l,rfl,(hkeep.trans s3') _ _ hl,ll⟩)⟩
    |wit m=>rw[el] at cat;cases cat
    |many w=>rw[el] at cat;cases cat
   obtain⟨xs,hrow,hin,har⟩:=arow;refine⟨_,rfl,b,_,_,_,rfl,rfl,hrow,Zj (j:=0) rfl,sz3,fun q hq=>?_⟩;obtain⟨G3,qN,u3,e3⟩:=ZN (o:=.tup [.str "yes",.str "sign",.str "some"]) hq;rw[qN];refine⟨q,_,rfl,.inr (nX e3),rfl,rfl,_,rfl,qg (ss:=["yes","sign","some"]) hin ?_⟩;refine⟨_,rfl,.inl ⟨rfl,_,nV (u3 _ _ gR2)⟩,_,rfl,_,rfl,_,rfl,tl,rfl,?_,_,rfl,_,jH.k (k:=.inl (m:Int)) ((hkeep.trans u3) _ _ htl),w,b,_,d,st,u,rfl,hw0.mono (hkeep.trans u3),n20,har G3 u3,fun G4 tb' u4 e4=>?_⟩
   ·exact .inl ⟨_,.inl ((hkeep.trans u3) _ _ htl)⟩
   refine⟨sz2,fun q2 hq2=>?_⟩;obtain⟨G5,qN,u5,e5⟩:=ZN (o:=.tup [.str "at",.ref tb']) hq2;rw[qN];refine X3 G5 (.ref q2) (u3.trans (u4.trans u5)) ?_ _ _;unfold yw;rw[if_pos cat];exact⟨q2,tb',rfl,nX e5,nX (u5 _ _ e4)⟩
  ·-- no atom
   have cat':X4 u=false:=by simpa using cat
   have hbl:ZI u=u.ks:=by
    rcases Wr hcu oku cat' with⟨w',a1,rfl,h⟩|⟨w',a1,a2,rfl,h⟩|⟨a1,a2,rfl⟩
    ·unfold ZI
     show(if w' = "some" then[] else _)=_
     rw[if_neg (by rcases h with rfl|rfl|rfl<;>decide +kernel)]
    ·unfold ZI
     show(if w' = "some" then[] else _)=_
     rw[if_neg (by rcases h with rfl|rfl<;>decide +kernel)]
    ·rfl
   have hkey:SqT K G2 b (.str (Zy u.lb)::kn.map fun i:Nat=>V.int (i:Nat))/\Zy u.lb∉(["yes","sign","some"]:List Str)/\kn≠[]:=by
    rcases Wr hcu oku cat' with⟨w',a1,rfl,h⟩|⟨w',a1,a2,rfl,h⟩|⟨a1,a2,rfl⟩
    ·refine⟨?_,by(show w'∉(["yes","sign","some"]:List Str));(rcases h with rfl|rfl|rfl<;>decide +kernel),fun e=>by rw[e] at kl;cases kl⟩;have e:(WV (.op w') kn).map kV=.str w'::kn.map fun i:Nat=>V.int (i:Nat):=by show V.str w'::(nK kn).map kV=_;unfold nK;rw[gB];rfl
     have hb3:SqT K G2 b ((WV (.op w') kn).map kV):=hb2;rw[e] at hb3;exact hb3
    ·refine⟨?_,by(show w'∉(["yes","sign","some"]:List Str));(rcases h with rfl|rfl<;>decide +kernel),fun e=>by rw[e] at kl;cases kl⟩;have e:(WV (.op w') kn).map kV=.str w'::kn.map fun i:Nat=>V.int (i:Nat):=by show V.str w'::(nK kn).map kV=_;unfold nK;rw[gB];rfl
     have hb3:SqT K G2 b ((WV (.op w') kn).map kV):=hb2;rw[e] at hb3;exact hb3
    ·refine⟨?_,by(show("and" : Str)∉(["yes","sign","some"]:List Str));decide +kernel,fun e=>by rw[e] at kl;cases kl⟩;have e:(WV (.many "and") kn).map kV=.str "and" :: kn.map fun i:Nat=>V.int (i:Nat):=by show V.str "and" :: (nK kn).map kV=_;unfold nK;rw[gB];rfl
     have hb3:SqT K G2 b ((WV (.many "and") kn).map kV):=hb2;rw[e] at hb3;exact hb3
   obtain⟨hrow,hin,kne⟩:=hkey;have k8:=Zea oku;have place:∀(x:Nat) kd q,u.ks[x]?=some kd->kn[x]?=some q->∃y:Nat,y<j/\ts[y]?=some kd/\is[y]?=some q:=fun x kd q h1 h2=>by
    have hq:=kin x kd q h1 h2;obtain⟨y,hy,ey⟩:=ord j u hu kd (by rw[hbl];exact fU h1);have hy2:is[y]?=some (is[y]'(by lia)):=fj (by lia);have:=nums.2 y _ kd hy2 ey;exact⟨y,hy,ey,by rw[hy2,yI tb.nd this hq]⟩
   refine⟨_,rfl,b,_,_,_,rfl,rfl,hrow,Zj (j:=0) rfl,sz3,fun q hq=>?_⟩;obtain⟨G3,qN,u3,e3⟩:=ZN (o:=.tup [.str "yes",.str "sign",.str "some"]) hq;rw[qN];refine⟨q,_,rfl,.inr (nX e3),rfl,rfl,_,rfl,XO (ss:=["yes","sign","some"]) hin ?_⟩;refine⟨_,rfl,.inl ⟨rfl,_,nV (u3 _ _ gR2)⟩,_,rfl,b,_,_,_,rfl,rfl,nW u3 _ _ _ hrow,Zj (j:=0) rfl,sz1,fun q1 hq1=>?_⟩;obtain⟨G4,qN,u4,e4⟩:=ZN (o:=.tup [.str (Zy u.lb)]) hq1;rw[qN];have u34:=u3.trans u4;refine⟨_,rfl,1,rfl,b,_,rfl,nW u34 _ _ _ hrow,?_,fun c hcN=>?_⟩
   ·intro⟨z1,_⟩;have:HT.sIx (V.str (Zy u.lb)::kn.map fun i:Nat=>V.int (i:Nat)).length 0 (some ((1:Nat):Int))=0:=z1;rw[HT.sIx_nat] at this;simp at this
   have ec:=Wt (V.str (Zy u.lb)::kn.map fun i:Nat=>V.int (i:Nat)) 1 (by simp);rw[show((1:Nat):Int)=1 from rfl] at ec;rw[ec];obtain⟨G5,qN,u5,e5⟩:=ZN (o:=.tup (kn.map fun i:Nat=>V.int (i:Nat))) hcN
   change upd G4 c (.tup ((V.str (Zy u.lb)::kn.map fun i:Nat=>V.int (i:Nat)).drop 1))=G5 at qN
   rw[qN];have u35:=u34.trans u5;refine⟨c,rfl,⟨_,nX e5⟩,fun Dc hDc=>?_⟩;have inKn:∀q∈kn,∃y:Nat,y<j/\is[y]?=some q:=fun q hqk=>by
    obtain⟨x,hx,e⟩:=gu hqk;obtain⟨y,h1,_,h3⟩:=place x _ q (fj (show x<u.ks.length by lia)) (by rw[fj hx,e]);exact⟨y,h1,h3⟩
   refine yM kn (fun i:Nat=>V.int (i:Nat)) (fun q:Nat=>(Xc kp2 (.inl (q:Int))).getD .non) hDc (nX e5) (by rw[kl,ft];lia) ?_ ?_
   ·intro q hqk F N sF hN;obtain⟨y,hy,ey⟩:=inKn q hqk;have hv:=pl2 y q (by lia) ey;have hn:=hN F (.refl _);rw[hv] at hn;refine⟨_,rfl,_,rfl,PL,_,rfl,?_,hn⟩;have hg:=jH.k (k:=.inl (q:Int)) ((u35.trans sF) _ _ gP2);rw[hv] at hg
    first|exact hg|(rw[hv];exact hg)
   intro G6 eD u6;refine⟨Dc,_,rfl,.inl ⟨nV eD,fun tt htt=>?_⟩⟩;obtain⟨G7,qN,u7,e7⟩:=ZN (o:=.tup (kn.map fun q:Nat=>(Xc kp2 (.inl (q:Int))).getD .non)) htt;rw[qN];have u47:=u5.trans (u6.trans u7);refine⟨q1,tt,_,_,rfl,rfl,nX (u47 _ _ e4),nX e7,by simp,by rw[fi,kl,ft];show 1+u.ks.length<=16777216;lia,(fun h=>absurd (List.map_eq_nil_iff.mp h) kne),fun _ q9 hq9=>?_⟩;obtain⟨G8,qN,u8,e8⟩:=ZN (o:=.tup ([.str (Zy u.lb)]++kn.map fun q:Nat=>(Xc kp2 (.inl (q:Int))).getD .non)) hq9;rw[qN];refine X3 G8 (.ref q9) (u34.trans (u47.trans u8)) ?_ _ _;unfold yw;rw[if_neg cat];have nums2:∀l:List Nat,(∀q∈l,∃y:Nat,y<j/\is[y]?=some q)->∃js:List Nat,js.length=l.length/\(l.map fun q:Nat=>(Xc kp2 (.inl (q:Int))).getD .non)=js.map (fun y:Nat=>V.int (y:Nat))/\∀(x:Nat) y q,js[x]?=some y->l[x]?=some q->y<j/\is[y]?=some q:=by
    intro l
    induction l with
    |nil=>exact fun _=>⟨[],rfl,rfl,fun x y q h=>by simp at h⟩
    |cons q l ih=>
     intro h;obtain⟨y,hy,ey⟩:=h q im;obtain⟨js,j1,j2,j3⟩:=ih fun q hq=>h q (fS _ hq);refine⟨y::js,by simp[j1],by rw[fP,fP,j2,pl2 y q (by lia) ey];rfl,fun x y' q' h1 h2=>?_⟩;cases x with
     |zero=>cases h1;cases h2;exact⟨hy,ey⟩
     |succ x=>exact j3 x y' q' h1 h2
   obtain⟨js,j1,j2,j3⟩:=nums2 kn inKn;rw[j2] at e8;refine⟨q9,js,rfl,nX e8,by lia,fun x kd y h1 h2=>?_⟩;have hxk:x<kn.length:=by have:=(fD.mp h1).1;lia
   have hkx:kn[x]?=some kn[x]:=fj hxk;obtain⟨hy,ey⟩:=j3 x y _ h2 hkx;obtain⟨y2,hy2,et,ei2⟩:=place x kd _ h1 hkx;have h3:=nums.2 y _ (ts[y]'(by lia)) ey (fj (by lia));have h4:=kin x kd _ h1 hkx;rw[h4] at h3;refine⟨hy,?_⟩;rw[fj (show y<ts.length by lia)];exact h3.symm
 rintro U G ⟨z6,z7,kp,rv,rfl,sG,gP,lk,pl,gR,lr,gr⟩;refine⟨_,rfl,k G RW rv (keep sG) (s1.free hRW) gR ⟨lr,gr,fun u hmu=>?_⟩⟩;obtain⟨x,hx,e⟩:=gu hmu;have hm:is[x]?=some (is[x]'(by lia)):=fj (by lia);have hp:=nums.2 x _ u hm (by rw[fj hx,e]);have tbG:=tb.mono (keep sG);obtain⟨np,pv0,hP2,aP⟩:=tbG.pl;exact⟨hc u (fU hp),aP.oks u (fU hp)⟩
def Ux(K:W.Frag)(H:Hp)(sl:Addr)(st:Tr->List Int)(ss:List Tr):Prop:=∃xs:List V,H sl=some (.lst xs)/\xs.length=ss.length/\∀(i:Nat) v t,xs[i]?=some v->ss[i]?=some t->∃(b l:Addr) (e:V) (n:Nat),v=.ref b/\SqT K H b [e,.ref l]/\At K n H e t/\H l=some (.lst ((st t).map V.int))
theorem Ux.mono{K:W.Frag}{H H':Hp}{sl:Addr}{st:Tr->List Int}{ss:List Tr}(s:Ze H H')(h:Ux K H sl st ss):Ux K H' sl st ss:=by
 obtain⟨xs,h1,h2,h3⟩:=h;refine⟨xs,s _ _ h1,h2,fun i v t a b=>?_⟩;obtain⟨b,l,e,n,q1,q2,q3,q4⟩:=h3 i v t a b;exact⟨b,l,e,n,q1,nW s _ _ _ q2,q3.mono (nW s),s _ _ q4⟩
theorem TbK.updD{r P R F:Addr}(hF:H F=some (.dK kv))(h:TbK K Pm C H r P R D ps):TbK K Pm C (upd H F o) r P R D ps:=by
 obtain⟨⟨dx,h0⟩,⟨n,pv,h1,h2⟩,⟨rows,g1,g2,g3,g4,g5⟩,nd,pr⟩:=h;have u:YX H (upd H F o):=k6 hF;have ke:∀{b:Addr}{o':HO},H b=some o'->o'≠.dK kv->upd H F o b=some o':=fun {b o'} e n=>by rw[Zx (fun z=>by rw[z,hF] at e;exact n (fO e).symm)];exact e
 exact⟨⟨dx,ke h0 (by intro z;cases z)⟩,⟨n,pv,ke h1 (by intro z;cases z),h2.mono u⟩,⟨rows,ke g1 (by intro z;cases z),g2,fun e he=>u _ _ _ (g3 e he),g4,ke g5 (by intro z;cases z)⟩,nd,pr⟩
noncomputable def tkI(ps ss:List Tr)(i:Nat):List Tr:=Zk ps ((ss.take i).map post).flatten
theorem ZbC{t:Tr}(h:ss[i]?=some t):tkI ps ss (i+1)=Zk (tkI ps ss i) (post t):=by
 unfold tkI;rw[lD,h]
 show Zk ps ((ss.take i++[t]).map post).flatten=_
 rw[fQ,mM,Yh]
 show Zk _ ([post t].flatten)=_
 rw[List.flatten_singleton]
theorem ZfJ(ps ss:List Tr)(i:Nat):(tkI ps ss i).length<=(Zk ps (ss.map post).flatten).length:=by
 unfold tkI;have e:(ss.map post).flatten=((ss.take i).map post).flatten++((ss.drop i).map post).flatten:=by rw[<- mM,<- fQ,nQ]
 rw[e,Yh];obtain⟨B,h⟩:=Wo ((ss.drop i).map post).flatten (Zk ps ((ss.take i).map post).flatten);rw[h,fu]
 lia
theorem Zat(t:Tr):t∈post t:=YQ _ (fh _) (qK t)
theorem Zde{x:Nat}{t:Tr}(h:x<i)(hx:ss[x]?=some t):t∈tkI ps ss i:=by
 unfold tkI;rw[ZJ];refine .inr (iz.mpr ⟨post t,lT ?_,Zat t⟩);exact mB.mpr ⟨x,by rw[mE h];exact hx⟩
def jM(K:W.Frag)(a:Adr):Sp:=fun vs H Q _=>Ex9 fun(r P R D sl:Addr) (ps:List Tr) (st:Tr->List Int) (ss:List Tr) (H0:Hp)=>ZcM (vs=[.ref r,.ref sl]) (TbK K a.Pm a.C_Table H r P R D ps) ((Zk ps (ss.map post).flatten).length<4000) (Ze H0 H) (H0 P=none) (H0 R=none) (H0 D=none) (Ux K H0 sl st ss) (ss.length<4000) ((∀t∈ss,isC t=true/\psz t<=2000000)) (∀H' Dc kv,Ze H0 H'->TbK K a.Pm a.C_Table H' r P R D (Zk ps (ss.map post).flatten)->H' Dc=some (.dK kv)->(∀t∈ss,∀m:Nat,(Zk ps (ss.map post).flatten)[m]?=some t->∃l,Xc kv (.inl (m:Int))=some (.ref l)/\H' l=some (.lst ((st t).map V.int)))->Q (.ref Dc) H')
theorem jT:Okd P w K mg base a 5 a.y18 a.z18 dG jM:=fun T hw=>by
 refine okF T.bJ.f jK fun cR A outer s H vs Q E hr h=>?_;obtain⟨r,P,R,D,sl,ps,st,ss,H0,rfl,tb,pl,s0,hP0,hR0,hD0,⟨xs,hxs,lx,hat⟩,lss,hss,k⟩:=h;refine⟨_,(Zh (Zm (ZaN (o0:=.dK []) (.inl rfl) (Nc:=dh) (ix:=[none,none,some 0]) (ZL.of (by decide +kernel:ZS (Zg VD) ["table","sets"] _ _ _=true)) (YA.units0 hr) rfl (ZE (K:=K) rfl (pv 1)) (fun _ _ _ _ _=>(WH (K:=K) (n:=2) rfl rfl (Yj (Zo (i:=0) (show List.Nodup dh by decide +kernel) rfl (.inl rfl)) (Yj (Zo (i:=1) (show List.Nodup dh by decide +kernel) rfl (.inl rfl)) WF)))) (fun _ _ _ _ _=>Z3) (fun _ _ _ _ _=>(WC (pv 2) T.av T.al.m (Vj T hw) (rmL hr rfl) T.al.n .nil YK (Za (pv 0) Zb rfl))) (fun _ _ _ _ _=>(pv 1))))),?_⟩;refine⟨_,rfl,sl,rfl,⟨_,nV (s0 _ _ hxs)⟩,fun Dc hDc=>?_⟩;have sB:∀{G G':Hp},Ze H0 G->VA P R D G G'->Ze H0 G':=fun {G G'} s sb b o e=>sb _ _ (fun z=>by rw[z,hP0] at e;cases e) (fun z=>by rw[z,hR0] at e;cases e) (fun z=>by rw[z,hD0] at e;cases e) (s _ _ e);have hDc0:H0 Dc=none:=s0.free hDc;have tdc:=tb.mono (Zi (o:=.dK []) hDc)
 let J1:Nat->L2.St->Hp->Prop:=fun i U G=>Ex3 fun(y1 y2:Option V) (kv:List (Key×V))=>Cj6 (U=[y1,y2,some (.ref r)]) (Ze H0 G) (TbK K a.Pm a.C_Table G r P R D (tkI ps ss i)) (G Dc=some (.dK kv)) (kv.length<=i) (∀(x m:Nat) t,x<i->ss[x]?=some t->(tkI ps ss i)[m]?=some t->∃l,Xc kv (.inl (m:Int))=some (.ref l)/\H0 l=some (.lst ((st t).map V.int)))
 refine k4 (J:=Itl K sl) (n:=ss.length) J1 ?_ ?_ ?_ ?_ ?_
 ·exact⟨_,_,[],rfl,s0.trans (Zi hDc),tdc,Zd,fh _,fun x m t h=>absurd h (Nat.not_lt_zero x)⟩
 ·rintro i U G hi ⟨y1,y2,kv,rfl,sG,_⟩;exact⟨_,_,nV (sG _ _ hxs),fj (by lia)⟩
 ·rintro U G ⟨y1,y2,kv,rfl,sG,_⟩;exact⟨_,nV (sG _ _ hxs),by lia⟩
 ·rintro i x U G0 G hi ⟨y1,y2,kv,rfl,sG,tG,gD,lk,hv⟩ ⟨rfl,hx⟩ N hN;have ex:=hx _ (nV (sG _ _ hxs));have hu:ss[i]?=some ss[i]:=fj hi;have hm:=fN hi;generalize ss[i]=t at hu hm;obtain⟨b,l,e,n,ev,hb,he,hl⟩:=hat i x t ex hu;subst ev;obtain⟨hc,hz⟩:=hss t hm;refine⟨b,_,rfl,nW sG _ _ _ hb,rfl,_,_,rfl,_,_,rfl,rfl,?_⟩;obtain⟨dx,ho⟩:=tG.obj;have ea:=ZbC (ps:=ps) hu;refine⟨_,rfl,r,dx,_,rfl,ho,lkN (by decide +kernel) (by decide +kernel) (by decide +kernel),_,rfl,r,P,R,D,tkI ps ss i,e,t,n,rfl,tG,he.mono (nW sG),hc,hz,by rw[<- ea];exact g9 (ZfJ ps ss _) pl,fun G1 m s1 t1 hm1=>?_⟩;rw[<- ea] at t1 hm1;have gD1:G1 Dc=some (.dK kv):=by
   obtain⟨np,pv0,h1,_⟩:=tG.pl;obtain⟨rows,h2,_,_,_,h3⟩:=tG.rl;exact s1 _ _ (fun z=>by rw[z,h1] at gD;cases gD) (fun z=>by rw[z,h2] at gD;cases gD) (fun z=>by rw[z,h3] at gD;cases gD) gD
  have sG1:=sB sG s1;refine⟨_,rfl,_,Ja.k (k:=.inl (m:Int)) gD1 (by rw[ft];lia),hN _ _ ⟨_,_,_,rfl,fun b' o' e'=>?_,TbK.updD gD1 t1,Zd,fK (X6 _ _ _) (by lia),fun x' m' t' hx' hs' hp'=>?_⟩⟩
  ·rw[Zx (fun z=>by rw[z,hDc0] at e';cases e')];exact sG1 _ _ e'
  ·rw[Jr]
   by_cases cm:m'=m
   ·subst cm;rw[if_pos rfl];rw[hm1] at hp';cases hp';exact⟨l,rfl,hl⟩
   ·rw[if_neg (fun z=>cm (by have:(m':Int)=(m:Int):=Sum.inl.inj z;lia))];have go:x'<i->∃l,Xc kv (.inl (m':Int))=some (.ref l)/\H0 l=some (.lst ((st t').map V.int)):=fun hxi=>by
     obtain⟨m2,hm2,e2⟩:=gu (Zde (ps:=ps) hxi hs');have e3:(tkI ps ss i)[m2]?=some t':=by rw[fj hm2,e2]
     obtain⟨B,eB⟩:=Wo (post t) (tkI ps ss i);have e4:(tkI ps ss (i+1))[m2]?=some t':=by rw[ea,eB,fW hm2];exact e3
     obtain rfl:=yI t1.nd hp' e4;exact hv x' _ t' hxi hs' e3
    apply go;have:x'≠i:=fun z=>by
     rw[z,hu] at hs';cases hs';exact cm (yI t1.nd hp' hm1)
    lia
 rintro U G ⟨y1,y2,kv,rfl,sG,tG,gD,lk,hv⟩;have et:tkI ps ss ss.length=Zk ps (ss.map post).flatten:=by unfold tkI;rw[iH]
 rw[et] at tG hv;refine k G Dc kv sG tG gD fun t ht m hp=>?_;obtain⟨x,hx,e⟩:=gu ht;obtain⟨l,h1,h2⟩:=hv x m t hx (by rw[fj hx,e]) hp;exact⟨l,h1,sG _ _ h2⟩
theorem yS{t:Tr}(hc:isC t=true):∀s∈Zk [] (post t),isC s=true:=fun s hs=>by
 rcases ZJ.mp hs with h|h
 ·cases h
 ·exact V3 _ (fh _) hc h
theorem ZbA{x:Addr}{o':HO}(h1:H x=none)(h2:H dx=none):Ze H (upd (upd H dx o) x o'):=fun b u e=>by
 rw[Zx (ZW e h1),Zx (ZW e h2)];exact e
structure Ku(K:W.Frag)(H:Hp)(sl:Addr)(st:Tr->List Int)(t:Tr)(ss:List Tr):Prop where
 at_:Ux K H sl st ss
 few:ss.length<4000
 sub:∀s∈ss,isC s=true/\psz s<=2000000
 room:(Zk (Zk [] (post t)) (ss.map post).flatten).length<4000
 short:∀s∈ss,(st s).length<=1000
 all:∀s∈Zk [] (Zp t),s.lb=.op "some" -> s∈ss
def kQ(K:W.Frag)(a:Adr):Sp:=fun vs H Q _=>Ex8 fun(w sl:Addr) (v:V) (n:Nat) (t:Tr) (d:WD) (st:Tr->List Int) (ss:List Tr)=>Cj9 (vs=[.ref w,v,.ref sl]) (Z0 a.C_World H w d) (d.signs.length<=20) (At K n H v t) (isC t=true) (psz t<=2000000) ((Zk [] (post t)).length<4000) (Ku K H sl st t ss) (∀H' q rv,Ze H H'->H q=none->H' q=some (.lst rv)->ZeS K H' d st (Zk [] (Zp t)) rv->Q (.ref q) H')
theorem kI:Okd P w K mg base a 6 a.y17 a.z17 dJ kQ:=fun T hw=>by
 refine okX T.bH.f V9 fun cR A outer s H E hr=>?_;intro X
 let d1:Rdg X WJ [2]:=⟨_,(Zh (Zm (ZB T.bn (yT T hw) hr rfl rfl (Zq (pv 0) (Zq (pv 3) (Zq (pv 4) (Zq (ZB T.bJ (jT T hw) hr rfl rfl (Za (pv 3) (Za (pv 2) Zb rfl) rfl)) Zb rfl) rfl) rfl) rfl))))⟩
 let d2:Rdg X WJ [1]:=⟨_,(Zc (Zn (i:=4) V9.nd rfl (.inl rfl) (WC (pv 3) T.av T.al.m (Vj T hw) (rmL hr rfl) T.al.n .nil YK (Za (pv 1) Zb rfl)) rfl (.inl rfl)) d1.2)⟩
 intro vs Q h;obtain⟨w,sl,v,n,t,d,st,ss,rfl,hw0,n20,hat,hc,hz,hfew,⟨hs,ls,hsub,hroom,hsh,hall⟩,k⟩:=h;refine⟨_,(Zc (Zn (i:=3) V9.nd rfl (.inl rfl) (ZcQ T.cB (vB T hw) (rmL hr rfl) rfl T.cJ T.bu.n .nil YK) rfl (.inl rfl)) d2.2),?_⟩;have hfewB:(Zk [] (Zp t)).length<4000:=g9 (yR t) hfew;refine fun x dx nx ndx nex=>⟨x,dx,rfl,Zd,fun H1 P R D x1 hP hR hD nP nR nD tb1=>⟨rfl,?_⟩⟩;have s0:=ZbA (o:=.own x) (o':=.ins a.C_Table dx []) nx ndx;have s1:Ze H H1:=fun b u e=>x1 _ _ (ZW e nx) (s0 _ _ e);have fr:∀{c:Addr},(upd (upd H dx (.own x)) x (.ins a.C_Table dx [])) c=none->H c=none:=fun h=>s0.free h;have hP0:=fr hP;have hR0:=fr hR;have hD0:=fr hD;obtain⟨dx1,ho1⟩:=tb1.obj;refine⟨_,rfl,x,dx1,_,rfl,ho1,lkN (by decide +kernel) (by decide +kernel) (by decide +kernel),_,rfl,x,P,R,D,[],v,t,n,rfl,tb1,hat.mono (nW s1),hc,hz,hfew,fun H2 i b2 tb2 hi=>?_⟩;have s2:Ze H H2:=fun b u e=>b2 _ _ (ZW e hP0) (ZW e hR0) (ZW e hD0) (s1 _ _ e);refine⟨_,rfl,_,rfl,_,rfl,_,rfl,_,rfl,x,P,R,D,sl,_,st,ss,H,rfl,tb2,hroom,s2,hP0,hR0,hD0,hs,ls,hsub,fun H3 Dc kv s3 tb3 hDc hv=>?_⟩;have hcs:∀s∈Zk (Zk [] (post t)) (ss.map post).flatten,isC s=true:=fun s hs=>by
  rcases ZJ.mp hs with h|h
  ·exact yS hc s h
  ·obtain⟨l,hl,hx⟩:=iz.mp h;obtain⟨u,hu,rfl⟩:=fX.mp hl;exact V3 _ (fh _) (hsub u hu).1 hx
 have hi2:(Zk (Zk [] (post t)) (ss.map post).flatten)[i]?=some t:=by
  obtain⟨B,e⟩:=Wo (ss.map post).flatten (Zk [] (post t));rw[e,fW (fD.mp hi).1];exact hi
 refine⟨w,x,P,R,D,Dc,i,_,t,d,st,kv,rfl,hw0.mono s3,n20,tb3,hi2,hcs,hz,hfewB,hDc,fun m s hp hm he=>?_,fun H4 q rv s4 q0 hq g=>k H4 q rv (s3.trans s4) (s3.free q0) hq g⟩;have h:=hall s hm he;obtain⟨l,h1,h2⟩:=hv s h m hp;exact⟨l,h1,h2,hsh s h⟩
structure Rd(K:W.Frag)(a:Adr)(H:Hp)(w rn sl:Addr)(v:V)(d:WD)(way ring:List Int)(t:Tr)(st:Tr->List Int):Prop where
 w:Z0 a.C_World H w d
 n20:d.signs.length<=20
 run:qm H rn d.signs.length way ring
 core:∃n,At K n H v t
 c:isC t=true
 sz:psz t<=2000000
 few:(Zk [] (post t)).length<4000
 sets:∃ss,Ku K H sl st t ss
 room:(way++ring).length+(Zk [] (post t)).length*(ring.length+1)<=50000
def vC(K:W.Frag)(a:Adr):Sp:=fun vs H Q _=>Zd6 fun(w rn sl:Addr) (v:V) (m:Nat) (t:Tr) (d:WD) (st:Tr->List Int) (way ring:List Int)=>Cj4 (vs=[.ref w,.ref rn,v,.ref sl,.int (m:Nat)]) (Rd K a H w rn sl v d way ring t st) (m<=50000) (∀H' q,Ze H H'->H q=none->H' q=some (.lst (((List.range m).map (Z5 d st (XD way ring) t)).map V.bl))->Q (.ref q) H')
theorem Xp:Okd P w K mg base a 7 a.y16 a.z16 dM vC:=fun T hw=>by
 refine okF T.az.f vF fun cR A outer s H vs Q E hr h=>?_;obtain⟨w,rn,sl,v,m,t,d,st,way,ring,rfl,⟨hw0,n20,hrun,⟨n,hat⟩,hc,hz,hfew,⟨ss,hss⟩,hroom⟩,hm,k⟩:=h;refine⟨_,(Zh (Zm (ZB T.bK (j0 T hw) hr rfl rfl (Zq (ZB T.bH (kI T hw) hr rfl rfl (Zq (pv 0) (Zq (pv 2) (Zq (pv 3) Zb rfl) rfl) rfl)) (Zq (pv 1) (Zq (pv 4) Zb rfl) rfl) rfl)))),?_⟩;obtain⟨ts,ets⟩:=jo t;have hfB:=yR t;refine⟨_,rfl,_,rfl,_,rfl,w,sl,v,n,t,d,st,ss,rfl,hw0,n20,hat,hc,hz,hfew,hss,fun H1 R rv s1 R0 hR g=>?_⟩;rw[ets] at g hfB;rw[fu,gn] at hfB;refine⟨_,rfl,_,rfl,R,rn,m,rv,ts,t,d,st,way,ring,rfl,hR,g,hrun.mono s1,hm,fK (Nat.add_le_add_left (nU _ hfB) _) hroom,fun H2 q s2 q0 hq=>k H2 q (s1.trans s2) (s1.free q0) hq⟩
def Zdw(K:W.Frag)(a:Adr):Sp:=fun vs H Q _=>Ex9 fun(w rn sl:Addr) (v:V) (t:Tr) (d:WD) (st:Tr->List Int) (way ring:List Int)=>Cj3 (vs=[.ref w,.ref rn,v,.ref sl]) (Rd K a H w rn sl v d way ring t st) (∀H',Ze H H'->Q (.bl (Z5 d st (XD way ring) t 0)) H')
theorem Zda:Okd P w K mg base a 8 a.y15 a.z15 dN Zdw:=fun T hw=>by
 refine okF T.cE.f Zdv fun cR A outer s H vs Q E hr h=>?_;obtain⟨w,rn,sl,v,t,d,st,way,ring,rfl,rd,k⟩:=h;refine⟨_,(Zh (Zm (Zv (Zr (K:=K) rfl) (ZB T.az (Xp T hw) hr rfl rfl (Zq (pv 0) (Zq (pv 1) (Zq (pv 2) (Zq (pv 3) (Zq Zf Zb rfl) rfl) rfl) rfl) rfl)) Zf (fun _ _=>rfl)))),?_⟩;exact⟨_,rfl,_,rfl,_,rfl,_,rfl,w,rn,sl,v,1,t,d,st,way,ring,rfl,rd,by decide,fun H1 q s1 q0 hq=>⟨q,_,_,_,rfl,rfl,nV hq,Zj (j:=0) rfl,k H1 s1⟩⟩
def Xa(H:Hp)(s:Addr)(n:Nat):Prop:=∃(x y:Int) (z:Nat),H s=some (.lst [.int x,.int y,.int (z:Nat)])/\0<=x/\0<=y/\y<2147483647/\z<=n
theorem Xa.mono{s:Addr}(h:Ze H H')(k:Xa H s n):Xa H' s n:=by
 obtain⟨x,y,z,e,r⟩:=k;exact⟨x,y,z,h _ _ e,r⟩
theorem Xa.lst{H:Hp}{s:Addr}{n:Nat}(k:Xa H s n):∃xs,H s=some (.lst xs):=by
 obtain⟨x,y,z,e,r⟩:=k;exact⟨_,e⟩
theorem Xa.le{s:Addr}{m:Nat}(k:Xa H s n)(h:n<=m):Xa H s m:=by
 obtain⟨x,y,z,e,r1,r2,r3,r4⟩:=k;exact⟨x,y,z,e,r1,r2,r3,fK r4 h⟩
theorem Xa.updN{s:Addr}(h:D≠s)(k:Xa H s n):Xa (upd H D o) s n:=by
 obtain⟨x,y,z,e,r⟩:=k;exact⟨x,y,z,by rw[Zx (fJ h)];exact e,r⟩
def vy(K:W.Frag)(a:Adr):Sp:=fun vs H Q _=>Ex1 fun(c:Int)=>Cj2 (vs=[.int c]) (∀H' s,Ze H H'->H s=none->Xa H' s 0->Q (.ref s) H')
theorem VN:Okd P w K mg base a 1 a.y40 a.z40 ["_law_cell"] vy:=fun T hw=>by
 refine okF T.aQ.f va fun cR A outer s H vs Q E hr h=>?_;obtain⟨c,rfl,k⟩:=h;refine⟨_,(Zh (Zm (ZY (Zq (Zl (ju rfl) rfl T.cK PyProof.Rows.Boot.«max» (Za Zf (Za (ZR Vh (pv 0) (ZR ZeB Zf Zf)) Zb rfl) rfl)) (Zq (ZR Uf (pv 0) Zf) (Zq Zf Zb rfl) rfl) rfl)))),?_⟩;refine⟨_,rfl,_,_,rfl,rfl,⟨by decide,by decide,by decide⟩,_,_,rfl,rfl,_,_,rfl,_,rfl,_,_,rfl,rfl,by decide,sz3,fun l hl=>?_⟩;obtain⟨H1,qN,s1,e1⟩:=ZN (o:=.lst [.int (if c-10 ^ (6:Int).toNat>0 then c-10 ^ (6:Int).toNat else 0),.int (c%2147483647),.int 0]) hl;rw[qN];have y0:=lV c (show(2147483647:Int)≠0 by decide);have y1:=lW c (show(0:Int)<2147483647 by decide);exact k H1 l s1 hl ⟨_,_,0,e1,by split<;>lia,y0,y1,fh _⟩
def qb(K:W.Frag)(a:Adr):Sp:=fun vs H Q _=>Ex3 fun(s:Addr) (b n:Nat)=>Cj6 (vs=[.ref s,.int (b:Nat)]) (Xa H s n) (n<100000) (0<b) (b<=1000) (∀H' (r:Nat),Zs s H H'->Xa H' s (n+1)->r<b->Q (.int (r:Nat)) H')
theorem ZH:Okd P w K mg base a 1 a.y41 a.z41 dQ qb:=fun T hw=>by
 refine okX T.aa.f WA fun cR A outer s H E hr=>?_;intro X
 let d1:Rdg X YW [0,0,0]:=⟨_,(Zc (Zn (i:=2) WA.nd rfl (.inl rfl) (ZR Uf (Zv (Zr (K:=K) rfl) (pv 0) Zf (fun _ _=>rfl)) (pv 1)) rfl (.inl rfl)) (Zc (jR (ZR U4 (Zv (Zr (K:=K) rfl) (pv 0) Zf (fun _ _=>rfl)) (pv 1)) (pv 0) Zf) (Zh (Zm (pv 2)))))⟩
 let d2:Rdg X YW [4]:=⟨_,(Zh (Zm (ZR Uf (ZR Uf (ZR xW (pv 3) (ZR XC (ZR U4 (pv 3) Zf) Zf)) Zf) (pv 1))))⟩
 let d3:Rdg X YW [3]:=⟨_,(Zc (Zn (i:=3) WA.nd rfl (.inl rfl) (ZR Uf (ZR xW (pv 3) (ZR XC (ZR U4 (pv 3) Zf) Zf)) Zf) rfl (.inl rfl)) d2.2)⟩
 let d4:Rdg X YW [2]:=⟨_,(Zc (Zn (i:=3) WA.nd rfl (.inl rfl) (ZR Uf (ZR xW (ZR XC (ZR XC (Zv (Zr (K:=K) rfl) (pv 0) Zf (fun _ _=>rfl)) (ZR xW Zf (Zv (Zr (K:=K) rfl) (pv 0) Zf (fun _ _=>rfl)))) Zf) Zf) Zf) rfl (.inl rfl)) d3.2)⟩
 let d5:Rdg X YW [1]:=⟨_,(Zc (jR (ZR XC (Zv (Zr (K:=K) rfl) (pv 0) Zf (fun _ _=>rfl)) Zf) (pv 0) Zf) d4.2)⟩
 intro vs Q h;obtain⟨s,b,n,rfl,⟨x,y,z,hs,x0,y0,y1,zn⟩,nb,b0,b1,k⟩:=h;refine⟨_,(Zc (Z2 (Zw Zew (Zv (Zr (K:=K) rfl) (pv 0) Zf (fun _ _=>rfl)) Zf (ZK _)) d1.2 ZD) d5.2),?_⟩;have bI:(0:Int)<(b:Nat):=by omega
 refine⟨_,rfl,s,_,_,_,rfl,rfl,nV hs,Zj (j:=0) rfl,_,_,rfl,rfl,_,rfl,X9 (fun c=>?_) (fun c=>?_)⟩
 ·have x1:0<x:=fT c;refine⟨_,rfl,s,_,_,_,rfl,rfl,nV hs,Zj (j:=0) rfl,_,rfl,_,_,rfl,rfl,bI,?_⟩;refine⟨_,rfl,s,_,_,_,rfl,rfl,nV hs,Zj (j:=0) rfl,_,rfl,_,_,rfl,rfl,⟨bI,by omega⟩,_,rfl,s,_,0,rfl,rfl,hs,by simp,_,rfl,?_⟩;have m0:=lV x (show((b:Nat):Int)≠0 by omega);have m1:=lW x bI;have e:x%(b:Nat)=((x%(b:Nat)).toNat:Int):=by omega
  rw[e];exact k _ _ (Zs.upd (Ze.x (.refl _))) ⟨x/(b:Nat),y,z,Zd,Int.ediv_nonneg x0 (by omega),y0,y1,by omega⟩ (by omega)
 ·refine⟨_,rfl,s,_,_,_,rfl,rfl,nV hs,Zj (j:=2) rfl,_,_,rfl,rfl,_,rfl,s,_,2,rfl,rfl,hs,by simp,?_⟩;have e2:((z:Nat):Int)+1=((z+1:Nat):Int):=by omega
  rw[e2];obtain⟨H1,qN⟩:∃H1,upd H s (.lst ([V.int x,.int y,.int (z:Nat)].set 2 (.int ((z+1:Nat):Int))))=H1:=⟨_,rfl⟩;have sx:Zs s H H1:=by rw[<- qN];exact Zs.upd (Ze.x (.refl _))
  have h1:H1 s=some (.lst [.int x,.int y,.int ((z+1:Nat):Int)]):=by rw[<- qN];exact Zd
  rw[qN];refine⟨_,rfl,s,_,_,_,rfl,rfl,nV h1,Zj (j:=1) rfl,_,rfl,s,_,_,_,rfl,rfl,nV h1,Zj (j:=2) rfl,_,_,rfl,rfl,.inl ⟨by decide,by decide⟩,_,_,rfl,rfl,_,_,rfl,rfl,_,_,rfl,rfl,.inr ⟨by decide,by decide⟩,_,_,rfl,rfl,by decide,?_⟩;have a0:=lV ((y+7919*((z+1:Nat):Int)+1)*48271) (show(2147483647:Int)≠0 by decide);have a1:=lW ((y+7919*((z+1:Nat):Int)+1)*48271) (show(0:Int)<2147483647 by decide);generalize (y+7919*((z+1:Nat):Int)+1)*48271%2147483647=u at a0 a1 ⊢;refine⟨_,rfl,_,rfl,_,_,rfl,rfl,⟨by decide,by decide⟩,_,_,rfl,rfl,_,_,rfl,rfl,.inl ⟨by omega,by omega⟩,_,_,rfl,rfl,by decide,?_⟩;have b0':=lV (u*(u/1009+69621)) (show(2147483647:Int)≠0 by decide);have b1':=lW (u*(u/1009+69621)) (show(0:Int)<2147483647 by decide);generalize u*(u/1009+69621)%2147483647=v at b0' b1' ⊢;refine⟨_,rfl,_,rfl,_,_,rfl,rfl,⟨by decide,by decide⟩,_,_,rfl,rfl,_,_,rfl,rfl,.inl ⟨by omega,by omega⟩,_,_,rfl,rfl,by decide,_,rfl,_,_,rfl,rfl,bI,?_⟩;generalize v*(v/2003+40692)%2147483399=u2;have m0:=lV u2 (show((b:Nat):Int)≠0 by omega);have m1:=lW u2 bI;have e:u2%(b:Nat)=((u2%(b:Nat)).toNat:Int):=by omega
  rw[e];exact k _ _ sx ⟨x,y,z+1,h1,x0,y0,y1,by omega⟩ (by omega)
def yt(K:W.Frag)(a:Adr):Sp:=fun vs H Q _=>Ex3 fun(p:Addr) (ns:List Int) (j:Nat)=>Cj3 (vs=[.ref p,.int (j:Nat)]) (SqL K H p (ns.map V.int)) (∀n:Int,Q (.int n) H)
theorem YO:Okd P w K mg base a 1 a.y39 a.z39 dU yt:=fun T hw=>by
 refine okF T.ak.f yx fun cR A outer s H vs Q E hr h=>?_;obtain⟨p,ns,j,rfl,hq,k⟩:=h;refine⟨_,(Zc (Z2 (Zw jk (pv 1) (Zl (Zu (K:=K) rfl) rfl T.ay oh (Za (pv 0) Zb rfl)) (ZK _)) (Zh (Zm (Zv (Zr (K:=K) rfl) (pv 0) (pv 1) (fun _ _=>rfl)))) ZD) (Zh (Zm Zf))),?_⟩;refine⟨_,rfl,_,rfl,.inl ⟨p,_,rfl,.inl hq,_,_,rfl,rfl,_,rfl,?_⟩⟩;refine X9 (fun c=>?_) (fun _=>k 0);have hj:j<ns.length:=by have:=fT c;rw[fi] at this;lia
 exact⟨_,rfl,_,rfl,p,_,_,_,rfl,rfl,hq,Zj (Zf6 hj),k _⟩
end KK
namespace L3
open PySem PySem.Spec PyProof.Rows L2
def Zex:List Str:=["next","until","before","since"]
def VP(c:Lb):Bool:=match c with
 |.op w=>decide (w∈Zex)
 |_=>false
def Vu:Tr->Nat:=Y1 fun c ds=>if X4 (.node c []) then 0 else mx ds+(if VP c then 1 else 0)
theorem kf(t:Tr):Vu t=if X4 t then 0 else mx (t.ks.map Vu)+(if VP t.lb then 1 else 0):=by
 have h:=Vb (fun c ds=>if X4 (.node c []) then 0 else mx ds+(if VP c then 1 else 0)) t;have e:X4 (.node t.lb [])=X4 t:=rfl;rw[e] at h;exact h
theorem kB{t x:Tr}(h:X4 t=false)(hx:x∈t.ks):Vu x+(if VP t.lb then 1 else 0)<=Vu t:=by
 rw[kf t,h];have:=JI.mp (fh (mx (t.ks.map Vu))) _ (fX.mpr ⟨x,hx,rfl⟩);simp;omega
theorem Zfc{t:Tr}(h:X4 t=true)(hr:ring≠[]):∀k,way.length+ring.length<=k->Z5 d st (XD way ring) t k=Z5 d st (XD way ring) t (k-ring.length):=fun k hk=>by
 rw[jW h]
 show YM d st t _=YM d st t _
 rw[jj hr (by rw[fu];exact hk)]
theorem QN{d:WD}{st:Tr->List Int}{way ring:List Int}(hr:ring≠[]):∀(n:Nat) (t:Tr),OkN n t->isC t=true->∀k,way.length+ring.length*(1+Vu t)<=k->Z5 d st (XD way ring) t k=Z5 d st (XD way ring) t (k-ring.length)
 |0,_,h,_=>h.elim
 |n+1,t,ok,hc=>by
  have p1:1<=ring.length:=iJ.mpr hr;intro k hk
  by_cases c:X4 t=true
  ·refine Zfc c hr k ?_;have:ring.length*1<=ring.length*(1+Vu t):=l3 _ (by omega);omega
  ·have cf:X4 t=false:=by simpa using c
   have kid:∀x∈t.ks,∀k,way.length+ring.length*(1+Vu x)<=k->Z5 d st (XD way ring) x k=Z5 d st (XD way ring) x (k-ring.length):=fun x hx=>QN hr n x (ok.2 x hx) (xK hc x hx);have md:∀x∈t.ks,ring.length*(1+Vu x)+ring.length*(if VP t.lb then 1 else 0)<=ring.length*(1+Vu t):=fun x hx=>by
    rw[<- iD];exact l3 _ (by have:=kB cf hx;omega)
   rcases Wr hc ok.1 cf with⟨o,a,rfl,h3⟩|⟨o,a,b,rfl,h2⟩|⟨a,b,rfl⟩
   ·have ka:=kid a (by simp[Tr.ks]);have ma:=md a (by simp[Tr.ks]);rcases h3 with rfl|rfl|rfl
    ·rw[jG];show(!_)=(!_);rw[ka k (by omega)]
    ·have e:(if VP (Tr.node (.op "next") [a]).lb then 1 else 0)=1:=if_pos (show VP (.op "next")=true by decide +kernel);rw[e,Nat.mul_one] at ma;rw[yX]
     show Z5 _ _ _ a (k+1)=Z5 _ _ _ a (k-ring.length+1)
     rw[ka (k+1) (by omega),show k+1-ring.length=k-ring.length+1 by omega]
    ·have e:(if VP (Tr.node (.op "before") [a]).lb then 1 else 0)=1:=if_pos (show VP (.op "before")=true by decide +kernel);rw[e,Nat.mul_one] at ma;rw[qC];have pa:ring.length*1<=ring.length*(1+Vu a):=l3 _ (by omega);obtain⟨j,rfl⟩:∃j,k=j+1:=⟨k-1,by omega⟩;have h1:=ka j (by omega);rw[show j+1-ring.length=(j-ring.length)+1 by omega];exact h1
   ·have ka:=kid a (by simp[Tr.ks]);have kb:=kid b (by simp[Tr.ks]);have ma:=md a (by simp[Tr.ks]);have mb:=md b (by simp[Tr.ks]);rcases h2 with rfl|rfl
    ·rw[zP];exact jy (m:=way.length+ring.length*(1+Vu (.node (.op "until") [a,b]))) (by
      have:ring.length*1<=ring.length*(1+Vu (.node (.op "until") [a,b])):=l3 _ (by omega);omega) (fun k hk=>ka k (by omega)) (fun k hk=>kb k (by omega)) k hk
    ·have e:(if VP (Tr.node (.op "since") [a,b]).lb then 1 else 0)=1:=if_pos (show VP (.op "since")=true by decide +kernel);rw[e] at ma mb;rw[zC];refine vN (m:=way.length+ring.length*(Vu (.node (.op "since") [a,b]))) p1 ?_ (fun k hk=>ka k (by rw[iD] at ma;rw[iD];rw[iD] at ma;omega)) (fun k hk=>kb k (by rw[iD] at mb;rw[iD];rw[iD] at mb;omega)) k ?_
     ·have:=kB (t:=.node (.op "since") [a,b]) cf (x:=a) (by simp[Tr.ks]);rw[e] at this;have:ring.length*1<=ring.length*(Vu (.node (.op "since") [a,b])):=l3 _ (by omega);omega
     ·rw[iD] at hk;omega
   ·have ka:=kid a (by simp[Tr.ks]);have kb:=kid b (by simp[Tr.ks]);have ma:=md a (by simp[Tr.ks]);have mb:=md b (by simp[Tr.ks]);rw[kT];show(_&&_)=(_&&_);rw[ka k (by omega),kb k (by omega)]
theorem QR:∀{l:List Nat},mx l=0\/mx l∈l
 |[]=>.inl rfl
 |a::r=>by
  have e:mx (a::r)=max a (mx r):=rfl;rcases Nat.le_total a (mx r) with h|h
  ·rw[e,Nat.max_eq_right h];rcases QR (l:=r) with z|z
   ·exact .inl z
   ·exact .inr (fS _ z)
  ·rw[e,Nat.max_eq_left h];exact .inr im
theorem UK{t:Tr}(h:X4 t=false):ZI t=t.ks:=by
 unfold X4 at h;unfold ZI;cases e:t.lb with
 |op w=>rw[e] at h;exact if_neg (lZ h)
 |yes=>rfl
 |sign z=>rfl
 |wit m=>rfl
 |many w=>rfl
theorem jw:∀(n:Nat) (t:Tr),psz t<=n->∃cs:List Tr,cs.Nodup/\(∀c∈cs,c∈Zp t/\VP c.lb=true)/\cs.length=Vu t
 |0,t,h=>by have:=Xv t;omega
 |n+1,t,h=>by
  cases c:X4 t with
  |true=>exact⟨[],iy,(fun c h=>by cases h),by rw[kf,if_pos c];rfl⟩
  |false=>
   have e:=kf t;rw[c,if_neg fV] at e;have key:∃cs:List Tr,cs.Nodup/\(∀c∈cs,(c∈Zp t/\VP c.lb=true)/\c≠t)/\cs.length=mx (t.ks.map Vu):=by
    rcases QR (l:=t.ks.map Vu) with z|z
    ·exact⟨[],iy,(fun c h=>by cases h),z.symm⟩
    ·obtain⟨x,hx,ex⟩:=fX.mp z;have lt:=YG hx;obtain⟨cs,nd,hcs,lc⟩:=jw n x (by omega);refine⟨cs,nd,fun c' hc'=>⟨⟨je (by rw[UK c];exact hx) (hcs c' hc').1,(hcs c' hc').2⟩,fun q=>?_⟩,by rw[lc,ex]⟩;have:=V1 _ (fh _) (hcs c' hc').1;rw[q] at this;omega
   obtain⟨cs,nd,hcs,lc⟩:=key;cases l:VP t.lb with
   |false=>
    rw[l,if_neg fV] at e;exact⟨cs,nd,fun c' hc'=>(hcs c' hc').1,by rw[lc,e];rfl⟩
   |true=>
    rw[l,if_pos rfl] at e;refine⟨t::cs,iq.mpr ⟨fun m=>(hcs t m).2 rfl,nd⟩,fun c' hc'=>?_,by rw[gp,lc,e]⟩;rcases fF.mp hc' with q|q
    ·rw[q];exact⟨qK t,l⟩
    ·exact(hcs c' q).1
theorem Zag(t:Tr):Vu t<=((Zk [] (Zp t)).filter fun u=>VP u.lb).length:=by
 obtain⟨cs,nd,hcs,lc⟩:=jw _ t (fh _);rw[<- lc];exact X5 nd fun x hx=>iX.mpr ⟨ZJ.mpr (.inr (hcs x hx).1),(hcs x hx).2⟩
theorem ZbQ{t:Tr}(h:X4 t=true)(ok:XN t.lb t.ks.length):ZI t=[]:=by
 unfold X4 at h;unfold ZI;cases e:t.lb with
 |op w=>rw[e] at h;exact if_pos (fT h)
 |yes=>rw[e] at ok;exact gC.mp ok
 |sign z=>rw[e] at ok;exact gC.mp ok.1
 |wit m=>rw[e] at h;cases h
 |many w=>rw[e] at h;cases h
theorem JF:∀(n:Nat) {t x:Tr},OkN n t->x∈Zp t->Vu x<=Vu t
 |0,t,x,h,_=>h.elim
 |n+1,t,x,h,hx=>by
  rcases WO hx with rfl|⟨k,hk,hxk⟩
  ·exact fh _
  ·cases c:X4 t with
   |true=>rw[ZbQ c h.1] at hk;cases hk
   |false=>
    rw[UK c] at hk;have h1:=kB c hk;have h2:=JF n (h.2 k hk) hxk;omega
def dTl:Lb->List PyData->List PyData
 |.yes,_=>[]
 |.sign z,_=>[.str z]
 |.op _,ds=>ds
 |.wit m,ds=>.int m::ds
 |.many _,ds=>[.tuple ds]
theorem Zes(c:Lb)(ds:List PyData):dF c ds=.tuple (.str (Zy c)::dTl c ds):=by cases c<;>rfl
theorem Zdq{c':Lb}{n':Nat}(h1:XN c n)(h2:XN c' n')(hw:Zy c=Zy c'):c=c'\/(∃z z',c=.sign z/\c'=.sign z')\/(∃m m',c=.wit m/\c'=.wit m'):=by
 have ny:¬(("sign" : Str) = "yes")/\¬(("within" : Str) = "yes")/\¬(("within" : Str) = "sign")/\¬(("and" : Str) = "yes")/\¬(("or" : Str) = "yes")/\¬(("and" : Str) = "sign")/\¬(("or" : Str) = "sign")/\¬(("and" : Str) = "within")/\¬(("or" : Str) = "within"):=by decide +kernel
 obtain⟨n1,n2,n3,n4,n5,n6,n7,n8,n9⟩:=ny;cases c with
 |yes=>
  cases c' with
  |yes=>exact .inl rfl
  |sign z=>exact absurd hw.symm n1
  |wit m=>exact absurd hw.symm n2
  |op w=>exact absurd hw.symm (Xh w (Vq h2)).1
  |many w=>rcases h2.1 with rfl|rfl;exact absurd hw.symm n4;exact absurd hw.symm n5
 |sign z=>
  cases c' with
  |yes=>exact absurd hw n1
  |sign z'=>exact .inr (.inl ⟨z,z',rfl,rfl⟩)
  |wit m=>exact absurd hw.symm n3
  |op w=>exact absurd hw.symm (Xh w (Vq h2)).2.1
  |many w=>rcases h2.1 with rfl|rfl;exact absurd hw.symm n6;exact absurd hw.symm n7
 |wit m=>
  cases c' with
  |yes=>exact absurd hw n2
  |sign z=>exact absurd hw n3
  |wit m'=>exact .inr (.inr ⟨m,m',rfl,rfl⟩)
  |op w=>exact absurd hw.symm (Xh w (Vq h2)).2.2.1
  |many w=>rcases h2.1 with rfl|rfl;exact absurd hw.symm n8;exact absurd hw.symm n9
 |op w=>
  have wa:=Xh w (Vq h1);cases c' with
  |yes=>exact absurd hw wa.1
  |sign z=>exact absurd hw wa.2.1
  |wit m=>exact absurd hw wa.2.2.1
  |op w'=>exact .inl (by rw[show w=w' from hw])
  |many w'=>rcases h2.1 with rfl|rfl;exact absurd hw wa.2.2.2.1;exact absurd hw wa.2.2.2.2
 |many w=>
  cases c' with
  |yes=>rcases h1.1 with rfl|rfl;exact absurd hw n4;exact absurd hw n5
  |sign z=>rcases h1.1 with rfl|rfl;exact absurd hw n6;exact absurd hw n7
  |wit m=>rcases h1.1 with rfl|rfl;exact absurd hw n8;exact absurd hw n9
  |op w'=>rcases h1.1 with rfl|rfl;exact absurd hw.symm (Xh w' (Vq h2)).2.2.2.1;exact absurd hw.symm (Xh w' (Vq h2)).2.2.2.2
  |many w'=>exact .inl (by rw[show w=w' from hw])
theorem Jc:∀{ks js:List Tr},(∀k∈ks,∀s∈js,PyData.eqv (dTr k) (dTr s)=true->k=s)->PyData.eqvAll (ks.map dTr) (js.map dTr)=true->ks=js
 |[],[],_,_=>rfl
 |[],_::_,_,h=>by simp[PyData.eqvAll] at h
 |_::_,[],_,h=>by simp[PyData.eqvAll] at h
 |k::ks,j::js,f,h=>by
  rw[fP,fP,PyData.eqvAll,gb] at h;rw[f k (by simp) j (by simp) h.1,Jc (fun a ha b hb=>f a (fS _ ha) b (fS _ hb)) h.2]
theorem KW:∀{n m:Nat}{t s:Tr},OkN n t->OkN m s->PyData.eqv (dTr t) (dTr s)=true->t=s
 |0,_,_,_,h,_,_=>h.elim
 |_+1,0,_,_,_,h,_=>h.elim
 |n+1,m+1,t,s,⟨o1,k1⟩,⟨o2,k2⟩,h=>by
  rw[ko,ko s,Zes,Zes,PyData.eqv,PyData.eqvAll,gb] at h;obtain⟨hw,ht⟩:=h;rw[PyData.eqv] at hw;have hw':Zy t.lb=Zy s.lb:=by simpa using hw
  have kids:PyData.eqvAll (t.ks.map dTr) (s.ks.map dTr)=true->t.ks=s.ks:=Jc fun k hk j hj e=>KW (k1 k hk) (k2 j hj) e;have fin:t.lb=s.lb->t.ks=s.ks->t=s:=fun a b=>by rw[Tr.eta t,Tr.eta s,a,b]
  rcases Zdq o1 o2 hw' with e|⟨z,z',e1,e2⟩|⟨a,b,e1,e2⟩
  ·refine fin e ?_;rw[<- e] at ht o2
   revert ht o1 o2
   cases t.lb with
   |yes=>intro o1 o2 ht;exact(gC.mp o1).trans (gC.mp o2).symm
   |sign z=>intro o1 o2 ht;exact(gC.mp o1.1).trans (gC.mp o2.1).symm
   |op w=>intro o1 o2 ht;exact kids ht
   |wit a=>
    intro o1 o2 ht;have ht2:(PyData.eqv (.int a) (.int a)&&PyData.eqvAll (t.ks.map dTr) (s.ks.map dTr))=true:=ht;rw[gb] at ht2;exact kids ht2.2
   |many w=>
    intro o1 o2 ht;have ht2:(PyData.eqv (.tuple (t.ks.map dTr)) (.tuple (s.ks.map dTr))&&PyData.eqvAll [] [])=true:=ht;rw[gb,PyData.eqv] at ht2;exact kids ht2.1
  ·rw[e1] at o1;rw[e2] at o2;rw[e1,e2] at ht;have ht2:(PyData.eqv (.str z) (.str z')&&PyData.eqvAll [] [])=true:=ht;rw[gb,PyData.eqv] at ht2;have hz:z=z':=by simpa using ht2.1
   exact fin (by rw[e1,e2,hz]) ((gC.mp o1.1).trans (gC.mp o2.1).symm)
  ·rw[e1,e2] at ht;have ht2:(PyData.eqv (.int a) (.int b)&&PyData.eqvAll (t.ks.map dTr) (s.ks.map dTr))=true:=ht;rw[gb,PyData.eqv] at ht2;have hz:a=b:=by simpa using ht2.1
   exact fin (by rw[e1,e2,hz]) (kids ht2.2)
theorem j4:∀{n:Nat}{t:Tr},OkN n t->dpt t<=2*n
 |0,_,h=>h.elim
 |n+1,t,⟨ok,h⟩=>by
  rw[Qh];have hk:mx (t.ks.map dpt)<=2*n:=JI.mpr fun x hx=>by
   obtain⟨k,hk,rfl⟩:=fX.mp hx;exact j4 (h k hk)
  split<;>omega
theorem QW:∀{ts:List Tr},(∀s∈ts,∃n,OkN n s)->PyData.canLayAll0 (ts.map dTr)=true
 |[],_=>rfl
 |t::r,h=>by
  obtain⟨n,o⟩:=h t (by simp);rw[fP,PyData.canLayAll0,gb];exact⟨(OkN.fine o).1,QW fun s hs=>h s (fS _ hs)⟩
open Classical in
theorem Zbr:∀{ts:List Tr}{t:Tr}{m:Nat},(∀s∈ts,∃n,OkN n s)->OkN m t->((ts.map dTr).any fun z=>PyData.eqv z (dTr t))=decide (t∈ts)
 |[],t,m,_,_=>by simp
 |s::r,t,m,h,o=>by
  obtain⟨n,os⟩:=h s (by simp);rw[fP,me,Zbr (fun x hx=>h x (fS _ hx)) o]
  by_cases e:t=s
  ·subst e;rw[qP (OkN.fine o)];simp
  ·have:PyData.eqv (dTr s) (dTr t)=false:=by
    cases hh:PyData.eqv (dTr s) (dTr t) with
    |false=>rfl
    |true=>exact absurd (KW os o hh).symm e
   rw[this,iK];simp[e]
theorem ZeA(h:AtL K n H vs ts):∀s∈ts,∃m,OkN m s:=fun s hs=>by
 obtain⟨i,hi,e⟩:=gu hs;have hv:i<vs.length:=by rw[h.1];exact hi
 exact⟨n,(h.2 i _ s (fj hv) (by rw[<- e];exact fj hi)).ok⟩
open Classical in
theorem ZeH{F:Addr}{fv:List V}{m:Nat}{t:Tr}{Q:VK}(hF:H F=some (.lst fv))(aF:AtL K n H fv ts)(hv:At K m H v t)(hd:dpt t<=190)(q1:t∈ts->Q (.bl false) H)(q2:t∉ts->Q (.bl true) H):Zf2 K true v (.ref F) H Q:=by
 have o:=hv.ok;refine⟨ts.map dTr,dTr t,.lst (nV hF) (xu aF.1 fun i u k h1 h2=>(aF.2 i u k h1 h2).dp),hv.dp,QW (ZeA aF),(OkN.fine o).1,?_,?_⟩
 ·have:=(OkN.fine o).2;omega
 ·rw[if_pos rfl,Zbr (ZeA aF) o]
  by_cases h:t∈ts
  ·rw[gz h];exact q1 h
  ·rw[gJ h];exact q2 h
theorem kr{t k:Tr}(h:k∈t.ks):dpt k<=dpt t:=by
 have h1:dpt k<=mx (t.ks.map dpt):=JI.mp (fh _) _ (lT h);rw[Qh t]
 split<;>omega
theorem UQ:∀(n:Nat) {t x:Tr},psz t<=n->x∈post t->dpt x<=dpt t
 |0,t,x,h,_=>by have:=Xv t;omega
 |n+1,t,x,h,hx=>by
  rw[W4,fG,Wz] at hx;rcases hx with⟨k,hk,hx⟩|hx
  ·have h1:=UQ n (by have:=YG hk;omega) hx;have h2:=kr hk;omega
  ·rw[fM.mp hx];exact fh _
theorem jL{m:Nat}{t s:Tr}(h1:OkN n t)(h2:OkN m s):PyData.eqv (dTr t) (dTr s)=true↔t=s:=⟨KW h1 h2,fun e=>by subst e;exact qP (OkN.fine h1)⟩
theorem Zgu{x:V}{t s:Tr}{m:Nat}{Q:VK}(h1:At K n H x t)(h2:At K m H y s)(hd:dpt t<=60)(q1:t=s->Q (.bl true) H)(q2:t≠s->Q (.bl false) H):JU K false x y H Q:=by
 refine⟨dTr t,dTr s,h1.dp,h2.dp,(OkN.fine h1.ok).1,(OkN.fine h2.ok).1,fK (OkN.fine h1.ok).2 hd,?_⟩
 show Q (.bl (PyData.eqv (dTr t) (dTr s))) H
 cases e:PyData.eqv (dTr t) (dTr s) with
 |true=>exact q1 ((jL h1.ok h2.ok).mp e)
 |false=>exact q2 fun z=>by rw[(jL h1.ok h2.ok).mpr z] at e;cases e
theorem Zfk{x:V}{t s:Tr}{m:Nat}{Q:VK}(h1:At K n H x t)(h2:At K m H y s)(hd:dpt t<=60)(q1:t=s->Q (.bl false) H)(q2:t≠s->Q (.bl true) H):JU K true x y H Q:=by
 refine⟨dTr t,dTr s,h1.dp,h2.dp,(OkN.fine h1.ok).1,(OkN.fine h2.ok).1,fK (OkN.fine h1.ok).2 hd,?_⟩
 show Q (.bl (!PyData.eqv (dTr t) (dTr s))) H
 cases e:PyData.eqv (dTr t) (dTr s) with
 |true=>exact q1 ((jL h1.ok h2.ok).mp e)
 |false=>exact q2 fun z=>by rw[(jL h1.ok h2.ok).mpr z] at e;cases e
end L3
namespace KK
open PySem PySem.Spec L2 L3
def yp(K:W.Frag)(a:Adr):Sp:=fun vs H Q _=>Ex5 fun(p q:Addr) (L M:List Bool) (k:Nat)=>Cj6 (vs=[.ref p,.ref q,.int (k:Nat)]) (H p=some (.lst (L.map V.bl))) (H q=some (.lst (M.map V.bl))) (k<L.length) (k<M.length) (Q (.bl (Xu (fun i=>L.getD i false) (fun i=>M.getD i false) k)) H)
def ZcP(f s:Nat->Bool):Nat->Bool
 |0=>false
 |i+1=>Xu f s i
theorem ZaV(f s:Nat->Bool)(i:Nat):ZcP f s (i+1)=(s i||(f i&&ZcP f s i)):=by
 cases i with
 |zero=>show s 0=(s 0||(f 0&&false));rw[Bool.and_false,Bool.or_false]
 |succ i=>rfl
theorem QQ{k:Nat}(h:k<L.length):atI (L.map V.bl) (k:Int)=some (.bl (L.getD k false)):=Zj (by
 rw[fw,fj h,iT,fj h];rfl)
theorem yr:Okd P w K mg base a 1 a.y48 a.z48 dX yp:=fun T hw=>by
 refine okX T.ba.f UE fun cR A outer s H E hr=>?_;intro X
 let d1:Rdg X Xz [0,0,1]:=⟨_,(Zc (Z2 (Xg (Xw (Zv (Zr (K:=K) rfl) (pv 0) (pv 2) (fun _ _=>rfl)))) (Zh (Zm Y9)) ZD) (Zh (Zn (i:=2) UE.nd rfl (.inl rfl) (ZR Vh (pv 2) Zf) rfl (.inl rfl))))⟩
 let d2:Rdg X Xz [0,0,0]:=⟨_,(Zc (Z2 (Xw (Zv (Zr (K:=K) rfl) (pv 1) (pv 2) (fun _ _=>rfl))) (Zh (Zm Y9)) ZD) d1.2)⟩
 intro vs Q h;obtain⟨p,q,L,M,k,rfl,hp,hq,kl,km,kk⟩:=h;refine⟨_,(Zc (VW gw (Zw ZfN (pv 2) Zf (ZK _)) d2.2) (Zh (Zm Y9))),?_⟩;refine⟨fun m U G=>U=[some (.ref p),some (.ref q),some (.int ((m:Nat)-1:Int))]/\G=H/\m<=k+1/\ZcP (fun i=>L.getD i false) (fun i=>M.getD i false) m=Xu (fun i=>L.getD i false) (fun i=>M.getD i false) k,⟨k+1,by rw[show((k+1:Nat):Int)-1=(k:Int) by lia];rfl,rfl,fh _,rfl⟩,?_⟩;rintro m U G ⟨rfl,rfl,hm,hv⟩;refine⟨_,rfl,_,_,rfl,rfl,_,rfl,X9 (fun c=>?_) (fun c=>?_)⟩
 ·have hc:=fT c;obtain⟨i,rfl⟩:∃i,m=i+1:=⟨m-1,by lia⟩;have ei:((i+1:Nat):Int)-1=(i:Int):=by lia
  rw[ei];rw[ZaV] at hv;refine⟨fun σ' G'=>σ'=[some (.ref p),some (.ref q),some (.int ((i:Nat)-1:Int))]/\G'=G/\ZcP (fun i=>L.getD i false) (fun i=>M.getD i false) i=Xu (fun i=>L.getD i false) (fun i=>M.getD i false) k,fun σ' G' h=>⟨i,by lia,h.1,h.2.1,by lia,h.2.2⟩,?_⟩;refine⟨_,rfl,_,rfl,q,_,_,_,rfl,rfl,nV hq,QQ (by lia),_,rfl,X9 (fun c1=>?_) (fun c1=>?_)⟩
  ·rw[c1,mq] at hv;rw[<- hv] at kk;exact kk
  have c1':M.getD i false=false:=by simpa using c1
  rw[c1',iK] at hv;refine⟨_,rfl,_,rfl,p,_,_,_,rfl,rfl,nV hp,QQ (by lia),_,rfl,X9 (fun c2=>?_) (fun c2=>?_)⟩
  ·have c2':L.getD i false=false:=by simpa using c2
   rw[c2',iE] at hv;rw[<- hv] at kk;exact kk
  have c2':L.getD i false=true:=by simpa using c2
  rw[c2',iS] at hv;exact⟨_,rfl,_,_,rfl,rfl,rfl,rfl,hv⟩
 ·have hc:¬(0:Int)<=(m:Int)-1:=fun z=>c (gz z);obtain rfl:m=0:=by lia
  rw[show ZcP (fun i=>L.getD i false) (fun i=>M.getD i false) 0=false from rfl] at hv;rw[<- hv] at kk;exact kk
def ve(K:W.Frag)(a:Adr):Sp:=fun vs H Q _=>Ex8 fun(p q:Addr) (L M:List Bool) (f s:Nat->Bool) (n c:Nat)=>ZcM (vs=[.ref p,.ref q,.int (c:Nat)]) (H p=some (.lst (L.map V.bl))) (H q=some (.lst (M.map V.bl))) (L.length=n) (M.length=n) (n<=100000) (c<n) ((∀k,k<n->L[k]?=some (f k))) ((∀k,k<n->M[k]?=some (s k))) (Xj f s false c (n-c)=X2 f s n) (∀H' D,Ze H H'->H D=none->H' D=some (.lst (((List.range n).map (X2 f s)).map V.bl))->Q (.ref D) H')
theorem JY(h:i<n):(((L3.upTo (n:Int)).map V.int).reverse)[i]?=some (V.int ((n-1-i:Nat):Int)):=by
 rw[mK (by rw[xo];exact h),xo];unfold L3.upTo;rw[fw,fw,iU (by omega)];rfl
theorem Zbk{s:Nat->Bool}{h:Bool}{F:List Bool}(hi:i<n)(lF:F.length=n)(hF:∀k,n-i<=k->k<n->F[k]?=some (Xj f s h k (n-k))) :
  ∀k,n-(i+1)<=k->k<n->(F.set (n-1-i) (Xj f s h (n-(i+1)) (i+1)))[k]?=some (Xj f s h k (n-k)):=fun k h1 h2=>by
 by_cases c:k=n-1-i
 ·subst c;rw[nF (by omega),show n-(n-1-i)=i+1 by omega,show n-(i+1)=n-1-i by omega]
 ·rw[nG (by omega)];exact hF k (by omega) h2
theorem vE:Okd P w K mg base a 1 a.y49 a.z49 dY ve:=fun T hw=>by
 refine okX T.bx.f YZ fun cR A outer s H E hr=>?_;intro X
 let d1:Rdg X YS [2,0,0,0,0]:=⟨_,(Zc (Zn (i:=4) YZ.nd rfl (.inl rfl) (QG (Zv (Zr (K:=K) rfl) (pv 1) (pv 6) (fun _ _=>rfl)) (Xt (XQ (Zv (Zr (K:=K) rfl) (pv 0) (pv 6) (fun _ _=>rfl)) (Xt (pv 4))))) rfl (.inl rfl)) (Zh (jR (pv 4) (pv 3) (pv 6))))⟩
 let d2:Rdg X YS [2,0,0]:=⟨_,(Zc (XF gw rfl (ZE (K:=K) rfl (yA (K:=K) rfl (ZO (YL (K:=K) rfl rfl) rfl T.aN nY (Za (ZO (xj) rfl T.aJ on (Za (Zl (Zu (K:=K) rfl) rfl T.ay oh (Za (pv 0) Zb rfl)) Zb rfl)) Zb rfl)) (Z9 (Vx We Zf)))) (Zo (i:=6) YZ.nd rfl (.inl rfl)) d1.2) (Zh (Zn (i:=4) YZ.nd rfl (.inl rfl) (Zv (Zr (K:=K) rfl) (pv 3) (pv 2) (fun _ _=>rfl)) rfl (.inl rfl))))⟩
 let d3:Rdg X YS [2]:=⟨_,(Zc (XF gw rfl (Xo rfl T.aJ (Za Zf Zb rfl)) (Zo (i:=5) YZ.nd rfl (.inl rfl)) d2.2) (Zh (Zm (pv 3))))⟩
 let d4:Rdg X YS [1]:=⟨_,(Zc (Zn (i:=4) YZ.nd rfl (.inl rfl) Y9 rfl (.inl rfl)) d3.2)⟩
 intro vs Q h;obtain⟨p,q,L,M,f,s,n,c,rfl,hp,hq,lL,lM,ln,cn,hf,hs,hu,k⟩:=h;refine⟨_,(Zc (Y8 (i:=3) YZ.nd rfl rfl (Nc:=cX) (ix:=[none]) (ZL.of (by decide +kernel:ZS (Zg YS) qZ _ _ _=true)) rfl (ZE (K:=K) rfl (pv 0)) (fun _ _ _ _ _=>(Zo (i:=0) (show List.Nodup cX by decide +kernel) rfl (.inl rfl))) (fun _ _ _ _ _=>Z3) (fun _ _ _ _ _=>Y9)) d4.2),?_⟩;have gL:∀k,k<n->atI (L.map V.bl) (k:Int)=some (.bl (f k)):=fun k hk=>Zj (by rw[fw,hf k hk];rfl);have gM:∀k,k<n->atI (M.map V.bl) (k:Int)=some (.bl (s k)):=fun k hk=>Zj (by rw[fw,hs k hk];rfl);refine⟨_,rfl,p,rfl,⟨_,nV hp⟩,fun D hD=>?_⟩;refine Y0 (K:=K) L V.bl (fun _=>V.bl false) hD (nV hp) (by rw[ft];omega) ?_ ?_
 ·intro x hx G N sG hN;exact hN _ (.refl _)
 intro H1 eD s1;have eD0:H1 D=some (.lst ((List.replicate n false).map V.bl)):=by
  rw[eD,List.map_replicate,<- lL]
  congr 2
  exact List.map_const' ..
 have nDp:D≠p:=fun z=>by rw[z,hp] at hD;cases hD
 have nDq:D≠q:=fun z=>by rw[z,hq] at hD;cases hD
 refine⟨_,rfl,by decide,by decide,?_⟩;refine Y4 (J:=Itr 0 2) (n:=2) (fun j U G=>∃(z5 z6:Option V) (h:Bool) (F:List Bool),U=[some (.ref p),some (.ref q),some (.int (c:Nat)),some (.ref D),some (.bl h),z5,z6]/\Ze H G/\G D=some (.lst (F.map V.bl))/\F.length=n/\(j=0->h=false)/\(j=1->h=X2 f s n)/\(2<=j->F=(List.range n).map (X2 f s))) ?_ (fun _ _ _ h _=>h) (fun _ _ _=>fh _) ?_ ?_
 ·exact⟨_,_,false,_,rfl,s1,eD0,List.length_replicate ..,fun _=>rfl,fun z=>by omega,fun z=>by omega⟩
 ·rintro j x U G0 G hj ⟨z5,z6,h,F,rfl,sG,gD,lF,h0,h1,_⟩ ⟨rfl,rfl⟩;refine⟨_,rfl,.inl ⟨p,_,rfl,.inl (nV (sG _ _ hp)),?_⟩⟩;rw[fi,lL];refine⟨_,rfl,fun R hR=>?_⟩;obtain⟨G1,qN,t1,eR⟩:=ZN (o:=.rng 0 (n:Int)) hR;rw[qN];refine .inr ⟨R,(n:Int),rfl,eR,by omega,by omega,fun A hA=>?_⟩;obtain⟨G2,qN,t2,eA⟩:=ZN (o:=.lst ((L3.upTo (n:Int)).map V.int)) hA;rw[qN];refine⟨_,rfl,_,rfl,A,_,rfl,rfl,nV eA,fun B hB=>?_⟩;obtain⟨G3,qN,t3,eB⟩:=ZN (o:=.lst (((L3.upTo (n:Int)).map V.int).reverse)) hB;rw[qN];have sG3:=sG.trans (t1.trans (t2.trans t3));have gD3:=(t1.trans (t2.trans t3)) _ _ gD;have nDB:B≠D:=fun z=>by rw[z,(t1.trans t2) _ _ gD] at hB;cases hB
  have lB:(((L3.upTo (n:Int)).map V.int).reverse).length=n:=by rw[iu,xo]
  refine⟨B,rfl,⟨_,nV eB⟩,?_⟩
  let J1:Nat->L2.St->Hp->Prop:=fun i U E=>∃(z6:Option V) (F:List Bool),U=[some (.ref p),some (.ref q),some (.int (c:Nat)),some (.ref D),some (.bl (Xj f s h (n-i) i)),some (.int (0+(j:Nat))),z6]/\Zs D G3 E/\E D=some (.lst (F.map V.bl))/\F.length=n/\∀k,n-i<=k->k<n->F[k]?=some (Xj f s h k (n-k))
  refine Y4 (J:=Itl K B) (n:=n) J1 ?_ ?_ ?_ ?_ ?_
  ·exact⟨_,F,rfl,.refl _,gD3,lF,fun k h1 h2=>by omega⟩
  ·rintro i U E hi ⟨z,F,rfl,xE,_⟩;exact⟨_,_,nV (xE _ _ nDB eB),JY hi⟩
  ·rintro U E ⟨z,F,rfl,xE,_⟩;exact⟨_,nV (xE _ _ nDB eB),by rw[lB];exact fh _⟩
  ·rintro i x U E0 E hi ⟨z,F,rfl,xE,gE,lF,hF⟩ ⟨rfl,hx⟩;have ex:=hx _ (nV (xE _ _ nDB eB));rw[JY hi] at ex;cases ex;have hpE:=xE _ _ (fJ nDp) (sG3 _ _ hp);have hqE:=xE _ _ (fJ nDq) (sG3 _ _ hq);have e1:Xj f s h (n-(i+1)) (i+1)=(s (n-1-i)||(f (n-1-i)&&Xj f s h (n-i) i)):=by
    show(s (n-(i+1))||(f (n-(i+1))&&Xj f s h (n-(i+1)+1) i))=_
    rw[show n-(i+1)=n-1-i by omega,show n-1-i+1=n-i by omega]
   have fin:∀b,b=Xj f s h (n-(i+1)) (i+1)->∃(z6:Option V) (F':List Bool),[some (.ref p),some (.ref q),some (.int (c:Nat)),some (.ref D),some (.bl b),some (.int (0+(j:Nat))),some (.int ((n-1-i:Nat):Int))]=[some (.ref p),some (.ref q),some (.int (c:Nat)),some (.ref D),some (.bl (Xj f s h (n-(i+1)) (i+1))),some (.int (0+(j:Nat))),z6]/\Zs D G3 (upd E D (.lst ((F.map V.bl).set (n-1-i) (.bl b))))/\(upd E D (.lst ((F.map V.bl).set (n-1-i) (.bl b)))) D=some (.lst (F'.map V.bl))/\F'.length=n/\∀k,n-(i+1)<=k->k<n->F'[k]?=some (Xj f s h k (n-k)):=fun b eb=>by
    subst eb;exact⟨_,F.set (n-1-i) (Xj f s h (n-(i+1)) (i+1)),rfl,xE.upd,by rw[Zd,List.map_set],by rw[List.length_set];exact lF,Zbk hi lF hF⟩
   refine⟨_,rfl,_,rfl,q,_,_,_,rfl,rfl,nV hqE,gM _ (by omega),_,rfl,?_⟩;cases hsv:s (n-1-i) with
   |true=>
    rw[hsv,mq] at e1;exact YB ⟨_,rfl,_,rfl,_,rfl,D,_,n-1-i,rfl,rfl,gE,by rw[fi];omega,fin _ e1.symm⟩
   |false=>
    rw[hsv,iK] at e1;refine Z7 ⟨_,rfl,_,rfl,p,_,_,_,rfl,rfl,nV hpE,gL _ (by omega),_,rfl,?_⟩;cases hfv:f (n-1-i) with
    |true=>
     rw[hfv,iS] at e1;exact YB ⟨_,rfl,_,rfl,_,rfl,_,rfl,D,_,n-1-i,rfl,rfl,gE,by rw[fi];omega,fin _ e1.symm⟩
    |false=>
     rw[hfv,iE] at e1;exact Z7 ⟨_,rfl,_,rfl,_,rfl,D,_,n-1-i,rfl,rfl,gE,by rw[fi];omega,fin _ e1.symm⟩
  rintro U E ⟨z,F',rfl,xE,gE,lF',hF'⟩;have gc:atI (F'.map V.bl) (c:Int)=some (.bl (Xj f s h c (n-c))):=Zj (by rw[fw,hF' c (by omega) cn];rfl);refine⟨_,rfl,_,rfl,D,_,_,_,rfl,rfl,nV gE,gc,?_⟩;have sE:Ze H E:=((Ze.x sG3).trans xE).same hD;refine⟨_,_,Xj f s h c (n-c),F',rfl,sE,gE,lF',fun z=>by omega,fun z=>?_,fun z=>?_⟩
  ·obtain rfl:j=0:=by omega
   rw[h0 rfl];exact hu
  ·obtain rfl:j=1:=by omega
   refine iR fun k=>?_
   by_cases hk:k<n
   ·rw[hF' k (by omega) hk,fw,iU hk,h1 (by omega)];have:=JG f s (n-k) k;rw[show k+(n-k)=n by omega] at this;rw[this];rfl
   ·rw[gK (by omega),gK (by rw[fi,fY];omega)]
 rintro U G ⟨z5,z6,h,F,rfl,sG,gD,lF,_,_,h2⟩;rw[h2 (by omega)] at gD;exact⟨_,rfl,k G D sG hD gD⟩
theorem Zdb{t:Tr}(hat:At K (n+1) H v t)(hc:isC t=true) :
  (Zy t.lb = "and" /\ ∃a b us,v=.ref a/\SqT K H a [.str (Zy t.lb),.ref b]/\SqT K H b us/\AtL K n H us t.ks) \/
  (Zy t.lb ≠ "and" /\ Zy t.lb∈(["yes","sign"]:List Str)/\t.ks=[]) \/
  (Zy t.lb ≠ "and" /\ Zy t.lb∉(["yes","sign"]:List Str)/\∃a us,v=.ref a/\SqT K H a (.str (Zy t.lb)::us)/\us≠[]/\AtL K n H us t.ks):=by
 obtain⟨c,ks⟩:=t;obtain⟨a,us,rfl,sh,ok,hl,hq⟩:=hat;have ok':XN c ks.length:=ok;have aL:AtL K n H us ks:=⟨hl,hq⟩;have sh':UJ K H a us c:=sh;clear ok hl hq sh
 show(Zy c=_/\_)\/(Zy c≠_/\Zy c∈_/\ks=[])\/(Zy c≠_/\Zy c∉_/\_)
 cases c with
 |yes=>exact .inr (.inl ⟨by decide +kernel,by simp[Zy],gC.mp ok'⟩)
 |sign z=>exact .inr (.inl ⟨show("sign" : Str) ≠ "and" by decide +kernel,by simp[Zy],gC.mp ok'.1⟩)
 |wit m=>rw[YV] at hc;unfold Us at hc;simp at hc
 |op w=>
  have wa:=Xh w (Vq ok');refine .inr (.inr ⟨wa.2.2.2.1,?_,a,us,rfl,sh',?_,aL⟩)
  ·simp only[Zy,fF,gO,gQ];exact fun z=>z.elim wa.1 wa.2.1
  ·intro e;have h1:=aL.1;rw[e] at h1;rcases ok' with⟨_,h2⟩|⟨_,h2⟩<;>simp[h2] at h1
 |many w=>
  have hw:w = "and" := by
   rw[YV] at hc;unfold Us at hc;simp at hc;exact hc.2.1
  subst hw;obtain⟨b,h1,h2⟩:=sh';exact .inl ⟨rfl,a,b,us,rfl,h1,h2,aL⟩
theorem ZcC{t:Tr}(h:Zy t.lb∈(["yes","sign","some"]:List Str))(hn:Zy t.lb ≠ "some" -> t.ks=[])(hat:XN t.lb t.ks.length):ZI t=[]:=by
 obtain⟨c,ks⟩:=t;cases c with
 |yes=>exact hn (show("yes" : Str) ≠ "some" by decide +kernel)
 |sign z=>exact hn (show("sign" : Str) ≠ "some" by decide +kernel)
 |wit m=>exact absurd h (show("within" : Str)∉_ by decide +kernel)
 |many w=>rcases hat.1 with z|z<;>(have:w∈(["yes","sign","some"]:List Str):=h;rw[z] at this;exact absurd this (by decide +kernel))
 |op w=>
  have h':w∈(["yes","sign","some"]:List Str):=h
  by_cases c:w = "some"
  ·show(if w = "some" then[] else ks)=[];rw[if_pos c]
  ·show(if w = "some" then[] else ks)=[];rw[if_neg c];exact hn c
theorem Zbe{t:Tr}(h:Zy t.lb ≠ "some"):ZI t=t.ks:=by
 obtain⟨c,ks⟩:=t;cases c with
 |op w=>show(if w = "some" then[] else ks)=ks;rw[if_neg (show ¬w = "some" from h)]
 |yes=>rfl
 |sign z=>rfl
 |wit m=>rfl
 |many w=>rfl
def vA(K:W.Frag)(a:Adr):Sp:=fun vs H Q _=>Ex3 fun v t n=>Cj4 (vs=[v]) (At K (n+1) H v t) (isC t=true) (∀H' L us,Ze H H'->H L=none->H' L=some (.lst us)->AtL K n H' us (ZI t)->Q (.ref L) H')
theorem VL:Okd P w K mg base a 1 a.y46 a.z46 c8 vA:=fun T hw=>by
 refine okX T.aC.f vi fun cR A outer s H E hr=>?_;intro X
 let d1:Rdg X W0 [1]:=⟨_,(Zc (Z2 (Zw YC (Zv (ZP (K:=K) rfl) (pv 0) Zf (fun _ _=>rfl)) Zz (ZK _)) (Zh (Zm (ZO (YL (K:=K) rfl rfl) rfl T.aN nY (Za (Zv (ZP (K:=K) rfl) (pv 0) Zf (fun _ _=>rfl)) Zb rfl)))) ZD) (Zh (Zm (ZO (YL (K:=K) rfl rfl) rfl T.aN nY (Za (Yd (W9 (K:=K) rfl) (pv 0) (Z9 Zf) YH) Zb rfl)))))⟩
 intro vs Q h;obtain⟨v,t,n,rfl,hat,hc,k⟩:=h;refine⟨_,(Zc (Z2 (Zw (WT (K:=K) rfl) (Zv (ZP (K:=K) rfl) (pv 0) Zf (fun _ _=>rfl)) (ZX (Zq Zz (Zq Zz (Zq Zz Zb rfl) rfl) rfl)) (by with_unfolding_all rfl)) (Zh (Zm (ZY Zb))) ZD) d1.2),?_⟩;have ins:=Zdb hat hc;have okt:XN t.lb t.ks.length:=hat.ok.1;obtain⟨ax,us0,rfl,sh0,_⟩:=id hat;obtain⟨xs,ex⟩:=sh0.tup;clear sh0;refine⟨_,rfl,ax,_,_,_,rfl,rfl,ex,Zj (j:=0) rfl,sz3,fun q hq=>?_⟩;obtain⟨H1,qN,s1,eq⟩:=ZN (o:=.tup [.str "yes",.str "sign",.str "some"]) hq;rw[qN];have ex1:=nW s1 _ _ _ ex;refine⟨q,_,rfl,.inr (nX eq),rfl,rfl,_,rfl,?_⟩
 by_cases hin:Zy t.lb∈(["yes","sign","some"]:List Str)
 ·refine qg (ss:=["yes","sign","some"]) hin ⟨by decide,fun l hl=>?_⟩;have hb:ZI t=[]:=ZcC hin (fun hns=>by
   rcases ins with⟨h1,_⟩|⟨_,_,h3⟩|⟨_,h2,_⟩
   ·rw[h1] at hin;exact absurd hin (by decide +kernel)
   ·exact h3
   ·exfalso
    simp only[fF,gO,gQ] at hin h2;rcases hin with z|z|z
    ·exact h2 (.inl z)
    ·exact h2 (.inr z)
    ·exact hns z) okt
  rw[hb] at k;exact k _ l [] (s1.trans (Zi hl)) (s1.free hl) Zd AtL.nil
 refine XO (ss:=["yes","sign","some"]) hin ?_;have hns:Zy t.lb ≠ "some" := fun z=>hin (by rw[z];simp);rw[Zbe hns] at k;rcases ins with⟨h1,a',b,us,ea,e1,e2,aL⟩|⟨h1,h2,h3⟩|⟨h1,h2,a',us,ea,e1,hne,aL⟩
 ·cases ea;refine⟨_,rfl,ax,_,_,_,rfl,rfl,ex1,Zj (j:=0) rfl,rfl,_,rfl,XT (fI V.str h1) ?_⟩;refine⟨_,rfl,ax,_,_,_,rfl,rfl,nW s1 _ _ _ e1,Zj (j:=1) rfl,.inl ⟨b,us,rfl,.inr (nW s1 _ _ _ e2),fun l hl=>?_⟩⟩;have s2:=s1.trans (Zi (o:=.lst us) hl);exact k _ l us s2 (s1.free hl) Zd (aL.mono (nW s2))
 ·exact absurd (by simp only[fF,gO,gQ] at h2 ⊢; rcases h2 with z|z;exact .inl z;exact .inr (.inl z)) hin
 ·cases ea;refine⟨_,rfl,ax,_,_,_,rfl,rfl,ex1,Zj (j:=0) rfl,rfl,_,rfl,Z4 (fun z=>h1 (V.str.inj z)) ?_⟩;refine⟨_,rfl,_,rfl,ax,_,rfl,nW s1 _ _ _ e1,yE (by decide) (by simp;lia),fun b hb=>?_⟩;rw[yP];obtain⟨H2,qN,s2,e3⟩:=ZN (o:=.tup us) hb;rw[qN];refine .inl ⟨b,us,rfl,.inr (nX e3),fun l hl=>?_⟩;have s3:=(s1.trans s2).trans (Zi (o:=.lst us) hl);exact k _ l us s3 ((s1.trans s2).free hl) Zd (aL.mono (nW s3))
open Classical in
theorem VG:∀{L A:List Tr},L.Nodup->Zk A L=A++L.filter fun x=>decide (x∉A)
 |[],A,_=>by rw[Uw];simp
 |x::r,A,h=>by
  rw[iq] at h;rw[XA]
  by_cases c:x∈A
  ·rw[Uq c,VG h.2,lN (by simpa using c)]
  ·rw[Vo c,VG h.2,lK (by simpa using c),iG]
   show A++(x::_)=A++(x::_)
   congr 2
   refine List.filter_congr fun y hy=>?_;have:y≠x:=fun z=>h.1 (by rw[<- z];exact hy);simp[this]
open Classical in
theorem Ky{A:List Tr}(t:Tr):Zk A (Zp t)=A++(Zk [] (Zp t)).filter fun x=>decide (x∉A):=by
 rw[<- J3,VG (YD (by simp))]
theorem zy:∀(n:Nat) {t x:Tr},psz t<=n->x∈post t->psz x<=psz t
 |0,t,x,h,_=>by have:=Xv t;lia
 |n+1,t,x,h,hx=>by
  rw[W4,fG,Wz] at hx;rcases hx with⟨k,hk,hx⟩|hx
  ·have h0:=YG hk;have h1:=zy n (by lia) hx
   lia
  ·rw[fM.mp hx];exact fh _
theorem V1{t x:Tr}(h:x∈Zp t):psz x<=psz t:=zy _ (fh _) (YQ _ (fh _) h)
theorem Qk(t:Tr):Zk [] (Zp t)=Zk [] ((ZI t).map Zp).flatten++[t]:=by
 rw[Xx,Yh]
 show Vc _ t=_
 refine Vo fun hm=>?_;rcases ZJ.mp hm with h|h
 ·cases h
 ·obtain⟨l,hl,hx⟩:=iz.mp h;obtain⟨k,hk,rfl⟩:=fX.mp hl;have:=V1 hx;have:=YG (Yv hk)
  lia
def qk(n:Nat)(K:W.Frag)(a:Adr):Sp:=fun vs H Q _=>Ex3 fun v t m=>Cj7 (vs=[v]) (m<n) (At K m H v t) (isC t=true) (psz t<=2000000) (dpt t<=190) (∀H' L us,Ze H H'->H L=none->H' L=some (.lst us)->AtL K m H' us (Zk [] (Zp t))->Q (.ref L) H')
theorem qc{Q:VK}{E:XK}(h:qk 0 K a vs H Q E):False:=by
 obtain⟨_,_,m,_,hm,_⟩:=h
 lia
theorem qh(T:Txt K mg a)(hw:w.params=a.Pm):∀n:Nat,VT P w K mg base CX0 (2+n) a.y47 a.z47 ["_law_core_here"] (qk n K a):=by
 intro n
 induction n with
 |zero=>exact⟨fun _ _ _ _ h=>(qc h).elim,fun _ _ _ _ _ _ _ _ _ _ _ _ _ h=>(qc h).elim⟩
 |succ n aT=>
  refine T.ai.f.ok WI (fun vs H Q E h=>?_) (fun cR A outer s H vs Q E hr h=>?_)
  ·obtain⟨v,t,m,rfl,_⟩:=h;rfl
  ·obtain⟨v,t,m,rfl,hm,hat,hc,hz,hdp,k⟩:=h;refine⟨_,(Zc (Zn (i:=1) WI.nd rfl (.inr rfl) (ZY Zb) rfl (.inl rfl)) (Zc (XF gw rfl (ZE (K:=K) rfl (Wh (VL T hw) (hr.mono (show _<=2+n by lia)) rfl T.aC.g T.aC.f.kp T.aC.n .nil YK (Za (pv 0) Zb rfl))) (Zo (i:=2) WI.nd rfl (.inl rfl)) (Zh (Zn (i:=1) WI.nd rfl (.inr rfl) (ZR qy (pv 1) (ZU (Nc:=eO) (ix:=[none,some 1]) (ZL.of (by decide +kernel:ZS (Zg Va) zw _ _ _=true)) rfl (ZE (K:=K) rfl (Wh aT hr rfl T.ai.g T.ai.f.kp T.ai.n .nil YK (Za (pv 2) Zb rfl))) (fun _ _ _ _ _=>(Zo (i:=0) (show List.Nodup eO by decide +kernel) rfl (.inl rfl))) (fun _ _ _ _ _=>(WE (Zw (Zaq (K:=K) rfl (YA.units2 hr)) (pv 0) (pv 1) (by with_unfolding_all rfl)))) (fun _ _ _ _ _=>(pv 0)))) rfl (.inl rfl)))) (Zh (Zm (ZR qy (pv 1) (ZY (Za (pv 0) Zb rfl))))))),?_⟩
   classical
   cases m with
   |zero=>exact hat.elim
   |succ m=>
    refine⟨by decide,fun F hF=>?_⟩;obtain⟨H1,qN,s1,e1⟩:=ZN (o:=.lst []) hF;rw[qN];refine⟨_,rfl,v,t,m,rfl,hat.mono (nW s1),hc,fun H2 L us s2 L0 hL aL=>⟨L,rfl,⟨_,nV hL⟩,?_⟩⟩;have s12:=s1.trans s2;have hul:=aL.1;have plen:∀i,(Zk [] (((ZI t).take i).map Zp).flatten).length<=2000000:=fun i=>by
     have h0:=qH (((ZI t).take i).map Zp).flatten [];have h1:((ZI t).map Zp).flatten=(((ZI t).take i).map Zp).flatten++(((ZI t).drop i).map Zp).flatten:=by
      rw[<- mM,<- fQ,nQ]
     have h2:=fI List.length (Xx t);rw[fu,h1,fu] at h2;have h3:=Vf _ (t:=t) (fh _);rw[List.length_nil] at h0
     lia
    refine Y4 (J:=Itl K L) (n:=us.length) (fun i U G=>Ex3 fun(z:Option V) (F:Addr) (fv:List V)=>Cj4 (U=[some v,some (.ref F),z]) (Ze H2 G) (G F=some (.lst fv)) (AtL K (m+1) G fv (Zk [] (((ZI t).take i).map Zp).flatten))) ?_ ?_ ?_ ?_ ?_
    ·exact⟨_,F,[],rfl,.refl _,s2 _ _ e1,by rw[List.take_zero];exact AtL.nil⟩
    ·rintro i U G hi ⟨z,F,fv,rfl,sG,_⟩;exact⟨_,_,nV (sG _ _ hL),fj hi⟩
    ·rintro U G ⟨z,F,fv,rfl,sG,_⟩;exact⟨_,nV (sG _ _ hL),fh _⟩
    ·rintro i x U G0 G hi ⟨z,F,fv,rfl,sG,gF,aF⟩ ⟨rfl,hx⟩;have ex:=hx _ (nV (sG _ _ hL));have hki:(ZI t)[i]?=some ((ZI t)[i]'(by lia)):=fj (by lia);have ax:=(aL.mono (nW sG)).2 i x _ ex hki;have hmem:=fN (show i<(ZI t).length by lia);have htk:(((ZI t).take (i+1)).map Zp).flatten=(((ZI t).take i).map Zp).flatten++Zp ((ZI t)[i]'(by lia)):=by
      rw[lD,hki,fQ,mM];simp
     have pl:=plen i;have pl1:=plen (i+1);rw[htk,Yh,Ky] at pl1 ⊢;generalize ((ZI t)[i]'(by lia))=u at ax hmem pl1 ⊢;generalize Zk [] (((ZI t).take i).map Zp).flatten=A at aF pl pl1 ⊢;have kin:=Yv hmem;have zu:=YG kin;refine⟨_,rfl,_,rfl,x,u,m,rfl,by lia,ax,xK hc u kin,by lia,fK (kr kin) hdp,fun G1 L1 us1 t1 L10 hL1 aL1=>⟨L1,rfl,⟨_,nV hL1⟩,fun D hD=>?_⟩⟩;have gF1:=t1 _ _ gF;have aF1:=aF.mono (nW t1);have lu:=aL1.1;have dpu:∀y∈Zk [] (Zp u),dpt y<=190:=fun y hy=>by
      rcases ZJ.mp hy with h|h
      ·cases h
      ·exact fK (UQ _ (fh _) (YQ _ (fh _) h)) (fK (kr kin) hdp)
     have plu:(Zk [] (Zp u)).length<=2000000:=by
      have h0:=qH (Zp u) [];have h3:=Vf _ (t:=u) (fh _);rw[List.length_nil] at h0
      lia
     generalize Zk [] (Zp u)=P at aL1 lu dpu plu pl1 ⊢;refine YJ (J:=Itl K L1) (n:=us1.length) (fun j U E=>∃(y:Option V) (ds:List V),U=[y,some (.ref F)]/\Ze G1 E/\E D=some (.lst ds)/\AtL K m E ds ((P.take j).filter fun x=>decide (x∉A))) ?_ ?_ ?_ ?_ ?_
     ·exact⟨_,[],rfl,Zi hD,Zd,by rw[List.take_zero];exact AtL.nil⟩
     ·rintro j U E hj ⟨y,ds,rfl,sE,_⟩;exact⟨_,_,nV (sE _ _ hL1),fj hj⟩
     ·rintro U E ⟨y,ds,rfl,sE,_⟩;exact⟨_,nV (sE _ _ hL1),fh _⟩
     ·rintro j w U E0 E hj ⟨y,ds,rfl,sE,gD,aD⟩ ⟨rfl,hw⟩ N N0 hN hN0;have ew:=hw _ (nV (sE _ _ hL1));have hpj:P[j]?=some (P[j]'(by lia)):=fj (by lia);have aw:=(aL1.mono (nW sE)).2 j w _ ew hpj;have tk:(P.take (j+1)).filter (fun x=>decide (x∉A))=(P.take j).filter (fun x=>decide (x∉A))++[P[j]'(by lia)].filter (fun x=>decide (x∉A)):=by rw[List.take_succ_eq_append_getElem (by lia),my]
      have dpj:=dpu _ (fN (show j<P.length by lia));generalize (P[j]'(by lia))=pj at aw tk dpj;have ld:ds.length<sizeLine:=by
       have h1:=aD.1;have h2:=lX (fun x=>decide (x∉A)) (P.take j);rw[fZ] at h2;rw[ft];lia
      refine⟨_,rfl,_,rfl,ZeH (sE _ _ gF1) (aF1.mono (nW sE)) aw dpj (fun hm=>?_) (fun hm=>?_)⟩
      ·refine⟨_,rfl,Z7 (hN0 _ _ ⟨_,ds,rfl,sE,gD,?_⟩)⟩;rw[tk,lN (by simpa using hm)];simpa using aD
      ·refine⟨_,rfl,YB ⟨_,rfl,hN _ _ E _ gD ld ⟨_,ds++[w],rfl,(Zs.upd (Ze.x sE)).same hD,Zd,?_⟩⟩⟩;have tU:=WQ (o:=.lst (ds++[w])) gD;rw[tk,lK (by simpa using hm)];exact(aD.mono tU).app (AtL.one (aw.mono tU))
     rintro U E ⟨y,ds,rfl,sE,gD,aD⟩;rw[lu,iH] at aD;have l1:=aF.1;have l2:=aD.1;rw[fu] at pl1;refine⟨F,D,_,_,rfl,rfl,sE _ _ gF1,gD,by rw[ft];lia,fun Z hZ=>?_⟩;obtain⟨E2,qN,u2,eZ⟩:=ZN (o:=.lst (fv++ds)) hZ;rw[qN];have tE:YX G1 E2:=(nW sE).trans (nW u2);exact⟨_,Z,fv++ds,rfl,sG.trans (t1.trans (sE.trans u2)),eZ,(aF1.mono tE).app ((aD.mono (nW u2)).le (iF m))⟩
    rintro U G ⟨z,F,fv,rfl,sG,gF,aF⟩;have pl:=plen us.length;rw[hul,iH] at aF pl;refine⟨_,rfl,_,rfl,sz1,fun B hB=>?_⟩;obtain⟨G2,qN,u2,eB⟩:=ZN (o:=.lst [v]) hB;rw[qN];have l1:=aF.1;refine⟨F,B,_,_,rfl,rfl,u2 _ _ gF,eB,by rw[ft];show fv.length+1<=_;lia,fun Z hZ=>?_⟩;obtain⟨G3,qN,u3,eZ⟩:=ZN (o:=.lst (fv++[v])) hZ;rw[qN];have sA:Ze H G3:=s12.trans (sG.trans (u2.trans u3));refine k G3 Z (fv++[v]) sA ((s12.trans (sG.trans u2)).free hZ) eZ ?_;rw[Qk];exact(aF.mono (nW (u2.trans u3))).app (AtL.one (hat.mono (nW sA)))
def Vd(K:W.Frag)(H:Hp)(L:Addr)(es:List (Tr×Addr)):Prop:=∃xs:List V,H L=some (.lst xs)/\xs.length=es.length/\∀(j:Nat) x e,xs[j]?=some x->es[j]?=some e->∃(b:Addr) (w:V) (n:Nat),x=.ref b/\SqT K H b [w,.ref e.2]/\At K n H w e.1/\dpt e.1<=60
def Ks(K:W.Frag)(a:Adr):Sp:=fun vs H Q _=>Ex7 fun(L:Addr) (es:List (Tr×Addr)) (v:V) (t:Tr) (m i:Nat) (l:Addr)=>Cj6 (vs=[.ref L,v]) (Vd K H L es) (At K m H v t) (es[i]?=some (t,l)) ((∀(j:Nat) e,j<i->es[j]?=some e->e.1≠t)) (Q (.ref l) H)
theorem Uk:Okd P w K mg base a 1 a.y50 a.z50 dZ Ks:=fun T hw=>by
 refine okF T.bf.f qE fun cR A outer s H vs Q E hr h=>?_;obtain⟨L,es,v,t,m,i,l,rfl,⟨xs,hL,lx,hp⟩,hat,hi,hno,k⟩:=h;refine⟨_,(Zc (XF gw rfl (ZE (K:=K) rfl (pv 0)) (WH (K:=K) (n:=2) rfl rfl (Yj (Zo (i:=2) qE.nd rfl (.inl rfl)) (Yj (Zo (i:=3) qE.nd rfl (.inl rfl)) WF))) (Zh (Z2 (Zw (QI (K:=K) rfl (YA.units hr)) (pv 2) (pv 1) (ZK _)) (Zh (Zm (pv 3))) ZD))) (Zh (Zm (ZY Zb)))),?_⟩;have hi':=(fD.mp hi).1;refine⟨_,rfl,L,rfl,⟨_,nV hL⟩,?_⟩;refine Y4 (J:=Itl K L) (n:=xs.length) (fun j U G=>∃(z1 z2:Option V),U=[some (.ref L),some v,z1,z2]/\G=H/\j<=i) ?_ ?_ ?_ ?_ ?_
 ·exact⟨_,_,rfl,rfl,gk _⟩
 ·rintro j U G hj ⟨z1,z2,rfl,rfl,_⟩;exact⟨_,_,nV hL,fj hj⟩
 ·rintro U G ⟨z1,z2,rfl,rfl,_⟩;exact⟨_,nV hL,fh _⟩
 ·rintro j x U G0 G hj ⟨z1,z2,rfl,rfl,hji⟩ ⟨rfl,hx⟩;have ex:=hx _ (nV hL);have he:es[j]?=some (es[j]'(by lia)):=fj (by lia);obtain⟨b,w,n,rfl,hb,aw,dw⟩:=hp j x _ ex he;refine⟨b,_,rfl,hb,rfl,_,_,rfl,_,_,rfl,rfl,?_⟩;refine⟨_,rfl,_,rfl,Zgu aw hat dw (fun e=>?_) (fun e=>?_)⟩
  ·have hij:j=i:=by
    apply Classical.byContradiction;intro z;exact hno j _ (by lia) he e
   subst hij;rw[hi] at he;have:=fI Prod.snd (fO he);refine⟨_,rfl,YB ⟨_,rfl,?_⟩⟩;rw[<- this];exact k
  ·refine⟨_,rfl,Z7 ⟨_,_,rfl,rfl,?_⟩⟩;apply Classical.byContradiction;intro z;obtain rfl:j=i:=by lia
   rw[hi] at he;exact e (fI Prod.fst (fO he)).symm
 rintro U G ⟨z1,z2,rfl,rfl,h⟩
 lia
theorem ZdV{t u:TT}{U:L2.St}{b c:Bool}(ht:∀Q:Bool->Hp->Prop,Q b H->t U H Q)(hu:∀Q:Bool->Hp->Prop,Q c H->u U H Q)(Q:Bool->Hp->Prop)(q:Q (b||c) H):tOr t u U H Q:=by
 refine ht _ ?_;cases b with
 |true=>exact YB q
 |false=>exact Z7 (hu _ q)
theorem Ze5{t u:TT}{A B C:L2.TS}{D}{U:L2.St}{b c:Bool}(ht:∀Q:Bool->Hp->Prop,Q b H->t U H Q)(hu:∀Q:Bool->Hp->Prop,Q c H->u U H Q)(q:if(b||c)=true then A { D with nx:=C D } U H else B { D with nx:=C D } U H):ZeK (Zfx (tOr t u) A B) C D U H:=ZdV ht hu _ q
theorem jd(xs:List V)(h:i<=j)(hj:j<=xs.length):Vi xs (some (i:Int)) (some (j:Int))=(xs.drop i).take (j-i):=by
 unfold Vi;rw[HT.sIx_nat,HT.sIx_nat,mH hj,mH (by lia)]
theorem Zcr{w:Str}{k:Tr}(hw:w∈W6)(h:isC k=true):isC (.node (.op w) [k])=true:=by
 rw[YV];simp[Us,h,hw]
theorem Zcn{w:Str}{k r:Tr}(hw:w∈W6)(h:isC k=true)(g:isC r=true):isC (.node (.op w) [k,r])=true:=by
 rw[YV];simp[Us,h,g,hw]
theorem Ze1{k r:Tr}(h:isC k=true)(g:isC r=true):isC (.node (.many "and") [k,r])=true:=by
 rw[YV];simp[Us,h,g]
theorem Q8{l:List Str}(hi:i<l.length):atI (l.map V.str) (i:Int)=some (.str l[i]):=Zj (by rw[fw,fj hi];rfl)
def JA:List Str:=["not","next","before","some"]
theorem Zf0:∀w∈JA,w∈W1/\w∈W6:=by decide +kernel
def us2:List Str:=["until","since"]
theorem us2W:∀w∈us2,w∈W2/\w∈W6:=by decide +kernel
def qO(n:Nat)(K:W.Frag)(a:Adr):Sp:=fun vs H Q _=>Ex5 fun(s nm:Addr) (nn:List Str) (m d:Nat)=>Zc8 (vs=[.ref s,.ref nm,.int (d:Nat)]) (d<n) (d<=3) (Xa H s m) (m+5 ^ (d+1)<=50000) (H nm=some (.lst (nn.map V.str))) (nn.length=3) ((∀x∈nn,Yo x=true)) (nm≠s) (∀H' v t,Zs s H H'->Xa H' s (m+5 ^ (d+1))->At K (d+1) H' v t->isC t=true->psz t<=3 ^ (d+1)->Q v H')
theorem zr{Q:VK}{E:XK}(h:qO 0 K a vs H Q E):False:=by
 obtain⟨_,_,_,_,d,_,hm,_⟩:=h
 lia
theorem jC(T:Txt K mg a)(hw:w.params=a.Pm):∀n:Nat,VT P w K mg base CX0 (2+n) a.y45 a.z45 ["_law_state_here","_law_names_here","_law_deep"] (qO n K a):=by
 intro n
 induction n with
 |zero=>exact⟨fun _ _ _ _ h=>(zr h).elim,fun _ _ _ _ _ _ _ _ _ _ _ _ _ h=>(zr h).elim⟩
 |succ n bt=>
  refine T.am.f.ok W8 (fun vs H Q E h=>?_) (fun cR A outer s H vs Q E hr h=>?_)
  ·obtain⟨s,nm,nn,m,d,rfl,_⟩:=h;rfl
  ·obtain⟨s,nm,nn,m,d,rfl,hd,d3,hst,hm,hnm,ln,nnm,nns,k⟩:=h;refine⟨_,(Zc (Zn (i:=3) W8.nd rfl (.inl rfl) (Wh (ZH T hw) (hr.mono (show _<=2+n by lia)) rfl T.aa.g T.aa.f.kp T.aa.n .nil YK (Za (pv 0) (Za Zf Zb rfl) rfl)) rfl (.inl rfl)) (Zc (Z2 (PW.pt (UC (Zw YC (pv 2) Zf (ZK _)) (VH (Zw jk (pv 3) Zf (ZK _))))) (Zc (Z2 (Zw YC (Wh (ZH T hw) (hr.mono (show _<=2+n by lia)) rfl T.aa.g T.aa.f.kp T.aa.n .nil YK (Za (pv 0) (Za Zf Zb rfl) rfl)) Zf (ZK _)) (Zh (Zm (ZX (Za Zz Zb rfl)))) ZD) (Zh (Zm (ZX (Za Zz (Za (Zv (Zr (K:=K) rfl) (pv 1) (Wh (ZH T hw) (hr.mono (show _<=2+n by lia)) rfl T.aa.g T.aa.f.kp T.aa.n .nil YK (Za (pv 0) (Za Zf Zb rfl) rfl)) (fun _ _=>rfl)) Zb rfl) rfl))))) ZD) (Zc (Zn (i:=4) W8.nd rfl (.inl rfl) (Wh bt hr rfl T.am.g T.am.f.kp T.am.n .nil YK (Zq (pv 0) (Zq (pv 1) (Zq (ZR Vh (pv 2) Zf) Zb rfl) rfl) rfl)) rfl (.inl rfl)) (Zc (Z2 (Zw jk (pv 3) Zf (ZK _)) (Zh (Zm (ZR (xV (K:=K) rfl) (Yd (W9 (K:=K) rfl) (ZX (Zq Zz (Zq Zz (Zq Zz (Zq Zz Zb rfl) rfl) rfl) rfl)) (Z9 (ZR Vh (pv 3) Zf)) (Z9 (ZR Vh (pv 3) Zf))) (ZX (Za (pv 4) Zb rfl))))) ZD) (Zc (Zn (i:=5) W8.nd rfl (.inl rfl) (Wh bt hr rfl T.am.g T.am.f.kp T.am.n .nil YK (Zq (pv 0) (Zq (pv 1) (Zq (ZR Vh (pv 2) Zf) Zb rfl) rfl) rfl)) rfl (.inl rfl)) (Zc (Z2 (Zw jk (pv 3) Zf (ZK _)) (Zh (Zm (ZX (Za Zz (Za (ZX (Za (pv 4) (Za (pv 5) Zb rfl) rfl)) Zb rfl) rfl)))) ZD) (Zh (Zm (ZX (Zq (Zv (Zr (K:=K) rfl) (ZY (Za Zz (Za Zz Zb rfl) rfl)) (ZR Uf (pv 3) Zf) (fun _ _=>rfl)) (Zq (pv 4) (Zq (pv 5) Zb rfl) rfl) rfl)))))))))),?_⟩;have p5:5<=5 ^ (d+1):=by rw[mD];have:=l6 d 5 (by decide);lia
   have p3:1<=3 ^ (d+1):=l6 _ _ (by decide);refine⟨_,rfl,s,12,m,rfl,hst,by lia,by decide,by decide,fun H1 fk x1 st1 hfk=>?_⟩;have hnm1:=x1 _ _ nns hnm;dsimp only[V0,Zeh]
   show ZeK (Zfx (tOr _ _) _ _) _ _ [some (.ref s),some (.ref nm),some (.int (d:Nat)),some (.int (fk:Nat)),none,none] H1
   refine Ze5 (b:=decide (V.int (d:Nat)=V.int 0)) (c:=decide (((fk:Nat):Int)<2)) ?_ ?_ ?_
   ·exact fun Q q=>⟨_,rfl,rfl,_,rfl,q⟩
   ·exact fun Q q=>⟨_,rfl,_,_,rfl,rfl,_,rfl,q⟩
   refine X9 (fun c=>?_) (fun c=>?_)
   ·refine⟨_,rfl,s,5,_,rfl,st1,by lia,by decide,by decide,fun H2 r x2 st2 hr=>⟨rfl,_,rfl,X9 (fun c=>?_) (fun c=>?_)⟩⟩
    ·refine⟨sz1,fun t ht=>?_⟩;obtain⟨H3,qN,u3,e3⟩:=ZN (o:=.tup [.str "yes"]) ht;rw[qN];exact k H3 _ (.node .yes []) ((x1.trans x2).trans (Ze.x u3)) ((st2.mono u3).le (by lia)) (ZeE (nX e3)) (by decide +kernel) (by rw[WN];simpa using p3)
    ·refine⟨_,rfl,_,rfl,s,3,_,rfl,st2,by lia,by decide,by decide,fun H4 v x4 st4 hv=>?_⟩;have hz:=nnm _ (fN (show v<nn.length by lia));refine⟨nm,_,_,.str (nn[v]'(by lia)),rfl,rfl,nV (x4 _ _ nns (x2 _ _ nns hnm1)),Q8 (by lia),sz2,fun t ht=>?_⟩;generalize (nn[v]'(by lia))=z at hz;obtain⟨H5,qN,u5,e5⟩:=ZN (o:=.tup [.str "sign",.str z]) ht;rw[qN];exact k H5 _ (.node (.sign z) []) ((x1.trans x2).trans (x4.trans (Ze.x u5))) ((st4.mono u5).le (by lia)) (QO (nX e5) hz) (by rw[YV];simp[Us]) (by rw[WN];simpa using p3)
   have hc:¬(d=0)/\¬(fk<2):=by
    refine⟨fun z=>c ?_,fun z=>c ?_⟩
    ·subst z;rfl
    ·rw[mG];exact .inr (gz (by lia))
   obtain⟨hd0,hf2⟩:=hc;obtain⟨e,rfl⟩:∃e,d=e+1:=⟨d-1,by lia⟩;have q1:5 ^ (e+1+1)=5 ^ (e+1)*5:=mD ..;have q3:3 ^ (e+1+1)=3 ^ (e+1)*3:=mD ..;have q4:5<=5 ^ (e+1):=by rw[mD];have:=l6 e 5 (by decide);lia
   have q5:1<=3 ^ (e+1):=l6 _ _ (by decide);have ed:((e+1:Nat):Int)-1=((e:Nat):Int):=by lia
   clear c;refine⟨_,rfl,_,rfl,_,rfl,_,_,rfl,rfl,s,nm,nn,m+1,e,by rw[ed];rfl,by lia,by lia,st1,by lia,hnm1,ln,nnm,nns,fun H2 v1 t1 x2 st2 at1 ic1 zs1=>?_⟩;have hnm2:=x2 _ _ nns hnm1;have x02:=x1.trans x2;obtain⟨o2,ho2⟩:=st2.lst;refine⟨_,rfl,_,_,rfl,rfl,_,rfl,X9 (fun c=>?_) (fun c=>?_)⟩
   ·have c6:((fk:Nat):Int)<6:=fT c;refine⟨sz4,fun A hA=>?_⟩;obtain⟨H3,qN,u3,e3⟩:=ZN (o:=.tup (JA.map V.str)) hA;have qN':upd H2 A (.tup [.str "not",.str "next",.str "before",.str "some"])=H3:=qN;rw[qN'];clear qN qN';have ef2:((fk:Nat):Int)-2=((fk-2:Nat):Int):=by lia
    have ef1:((fk:Nat):Int)-1=((fk-1:Nat):Int):=by lia
    have hw:=Zf0 _ (fN (show fk-2<JA.length from(by show fk-2<4;lia)));refine⟨_,rfl,_,_,rfl,rfl,_,rfl,_,rfl,_,_,rfl,rfl,_,rfl,?_⟩;rw[ef2,ef1];refine⟨A,_,rfl,nX e3,?_,fun B hB=>?_⟩
    ·rw[HT.sIx_nat,HT.sIx_nat,fi];rintro⟨z1,z2⟩;have l4:JA.length=4:=rfl;rw[l4] at z1 z2
     lia
    have ec:Vi (JA.map V.str) (some ((fk-2:Nat):Int)) (some ((fk-1:Nat):Int))=[.str (JA[fk-2]'(by show fk-2<4;lia))]:=by
     rw[jd _ (by lia) (by rw[fi];show fk-1<=4;lia),show fk-1-(fk-2)=1 by lia,<- mV,List.drop_eq_getElem_cons (show fk-2<JA.length from(by show fk-2<4;lia))];rfl
    rw[ec];generalize (JA[fk-2]'(by show fk-2<4;lia))=w at hw;obtain⟨H4,qN,u4,e4⟩:=ZN (o:=.tup [.str w]) hB;rw[qN];refine⟨_,rfl,sz1,fun C hC=>?_⟩;obtain⟨H5,qN,u5,e5⟩:=ZN (o:=.tup [v1]) hC;rw[qN];refine⟨B,C,_,_,rfl,rfl,nX (u5 _ _ e4),nX e5,by simp,sz2,fun z=>absurd z (by simp),fun _ T hT=>?_⟩;obtain⟨H6,qN,u6,e6⟩:=ZN (o:=.tup [.str w,v1]) hT;have qN':upd H5 T (.tup ([.str w]++[v1]))=H6:=qN;rw[qN'];clear qN qN';have u26:=u3.trans (u4.trans (u5.trans u6));exact k H6 _ (.node (.op w) [t1]) (x02.trans (Ze.x u26)) ((st2.mono u26).le (by lia)) (ZbD (nX e6) hw.1 (at1.mono (nW u26))) (Zcr hw.2 ic1) (by rw[WN];simp;lia)
   have c6:¬((fk:Nat):Int)<6:=fun z=>c (gz z);refine⟨_,rfl,_,rfl,_,rfl,_,_,rfl,rfl,s,nm,nn,m+1+5 ^ (e+1),e,by rw[ed];rfl,by lia,by lia,st2,by lia,hnm2,ln,nnm,nns,fun H3 v2 t2 x3 st3 at2 ic2 zs2=>?_⟩;have x03:=x02.trans x3;have at1':=at1.mono (Zs.tup x3 ho2);refine⟨_,rfl,_,_,rfl,rfl,_,rfl,X9 (fun c=>?_) (fun c=>?_)⟩
   ·refine⟨_,rfl,_,rfl,sz2,fun B hB=>?_⟩;obtain⟨H4,qN,u4,e4⟩:=ZN (o:=.tup [v1,v2]) hB;rw[qN];refine⟨sz2,fun T hT=>?_⟩;obtain⟨H5,qN,u5,e5⟩:=ZN (o:=.tup [.str "and",.ref B]) hT;rw[qN];have u35:=u4.trans u5;exact k H5 _ (.node (.many "and") [t1,t2]) (x03.trans (Ze.x u35)) ((st3.mono u35).le (by lia)) (ZeU (nX e5) (nX (u5 _ _ e4)) (AtL.two (at1'.mono (nW u35)) (at2.mono (nW u35))) (.inl rfl) (by show 2<=8;decide)) (Ze1 ic1 ic2) (by rw[WN];simp;lia)
   ·refine⟨sz2,fun A hA=>?_⟩;obtain⟨H4,qN,u4,e4⟩:=ZN (o:=.lst (us2.map V.str)) hA;have qN':upd H3 A (.lst [.str "until",.str "since"])=H4:=qN;rw[qN'];clear qN qN';have em:((fk:Nat):Int)%2=((fk%2:Nat):Int):=by lia
    have hm2:fk%2<2:=Nat.mod_lt _ (by decide);have hw:=us2W _ (fN (show fk%2<us2.length from hm2));refine⟨_,rfl,_,_,rfl,rfl,by decide,A,_,_,.str (us2[fk%2]'hm2),rfl,rfl,nV e4,by rw[em];exact Q8 hm2,_,rfl,_,rfl,sz3,fun T hT=>?_⟩;generalize (us2[fk%2]'hm2)=w at hw;obtain⟨H5,qN,u5,e5⟩:=ZN (o:=.tup [.str w,v1,v2]) hT;rw[qN];have u35:=u4.trans u5;exact k H5 _ (.node (.op w) [t1,t2]) (x03.trans (Ze.x u35)) ((st3.mono u35).le (by lia)) (Zbz (nX e5) hw.1 (at1'.mono (nW u35)) (at2.mono (nW u35))) (Zcn hw.2 ic1 ic2) (by rw[WN];simp;lia)
theorem qB{r:Nat}(h:r<26):atI ("abcdefghijklmnopqrstuvwxyz" : Str).cps.toList (r:Int)=some (97+r):=by
 have e:(r:Int)%26=(r:Int):=Int.emod_eq_of_lt (by omega) (by omega);have:=ZaC (r:Int);rw[e] at this;exact this
def zx(z:Str):Prop:=∀c∈z.cps.toList,yf c=true
theorem zx.app{x y:Str}(h:zx x)(g:zx y):zx (x++y):=fun c hc=>by
 have hc':c∈(x.cps++y.cps).toList:=hc;rw[Array.toList_append,fG] at hc';exact hc'.elim (h c) (g c)
theorem zx.one{r:Nat}(h:r<26):zx ⟨#[97+r]⟩:=fun c hc=>by
 have:c=97+r:=by simpa using hc
 subst this;exact gz ⟨by omega,by omega⟩
theorem zx.name(h:zx z)(h1:1<=z.length)(h8:z.length<=8):Yo z=true:=by
 unfold Yo;rw[gz h1,gz h8,gT.mpr h];rfl
theorem qQ{c:Nat}:Str.length ⟨#[c]⟩=1:=rfl
theorem ZdR:zx "" := by unfold zx;decide +kernel
theorem ZfX:zx "a" := by unfold zx;decide +kernel
def vd(K:W.Frag)(a:Adr):Sp:=fun vs H Q _=>Ex2 fun(s:Addr) (n:Nat)=>Cj4 (vs=[.ref s]) (Xa H s n) (n<1000) (∀H' nm (nn:List Str),Zs s H H'->Xa H' s (n+10)->H nm=none->H' nm=some (.lst (nn.map V.str))->nn.length=3->nn.Nodup->(∀x∈nn,Yo x=true)->Q (.ref nm) H')
theorem vf:Okd P w K mg base a 2 a.y42 a.z42 ef vd:=fun T hw=>by
 refine okX T.bv.f XS fun cR A outer s H E hr=>?_;intro X
 let d1:Rdg X Xe [2,0,0]:=⟨_,(Zh (Zn (i:=2) XS.nd rfl (.inl rfl) (ZR Uh (pv 2) (Zv K7 (pv 1) (ZB T.aa (ZH T hw) hr rfl rfl (Za (pv 0) (Za Zf Zb rfl) rfl)) (fun _ _=>rfl))) rfl (.inl rfl)))⟩
 let d2:Rdg X Xe [3]:=⟨_,(Zh (Zm (ZY (Zq (pv 2) (Zq (ZR Uh (pv 2) (Zv K7 (pv 1) (ZB T.aa (ZH T hw) hr rfl rfl (Za (pv 0) (Za Zf Zb rfl) rfl)) (fun _ _=>rfl))) (Zq (ZR Uh (ZR Uh (Zv K7 (pv 1) (ZB T.aa (ZH T hw) hr rfl rfl (Za (pv 0) (Za Zf Zb rfl) rfl)) (fun _ _=>rfl)) (pv 2)) Zz) Zb rfl) rfl) rfl))))⟩
 let d3:Rdg X Xe [2]:=⟨_,(Zc (XF gw rfl (Xo rfl T.aJ (Za (ZR XC Zf (ZB T.aa (ZH T hw) hr rfl rfl (Za (pv 0) (Za Zf Zb rfl) rfl))) Zb rfl)) (Zo (i:=3) XS.nd rfl (.inl rfl)) d1.2) d2.2)⟩
 let d4:Rdg X Xe [1]:=⟨_,(Zc (Zn (i:=2) XS.nd rfl (.inl rfl) Zz rfl (.inl rfl)) d3.2)⟩
 intro vs Q h;obtain⟨s,n,rfl,hst,hn,k⟩:=h;refine⟨_,(Zc (Zn (i:=1) XS.nd rfl (.inl rfl) Zz rfl (.inl rfl)) d4.2),?_⟩;refine⟨_,rfl,s,5,n,rfl,hst,by omega,by decide,by decide,fun H1 r x1 st1 hr=>⟨_,_,rfl,rfl,_,rfl,by omega,by omega,?_⟩⟩;have er:((1:Int)+(r:Nat)).toNat=r+1:=by omega
 rw[er]
 let J1:Nat->L2.St->Hp->Prop:=fun i U G=>Ex2 fun(z:Option V) (nm:Str)=>Cj5 (U=[some (.ref s),some (.str "abcdefghijklmnopqrstuvwxyz"),some (.str nm),z]) (Zs s H G) (Xa G s (n+1+i)) (zx nm) (nm.length=i)
 refine Y4 (J:=Itr 0 (r+1)) (n:=r+1) J1 ?_ (fun _ _ _ h _=>h) (fun _ _ _=>fh _) ?_ ?_
 ·exact⟨_,_,rfl,x1,st1,ZdR,rfl⟩
 ·rintro i x U G0 G hi ⟨z,nm,rfl,xG,stG,lo,ll⟩ ⟨rfl,rfl⟩;refine⟨_,rfl,_,rfl,_,rfl,s,26,_,rfl,stG,by omega,by decide,by decide,fun G1 c y1 st1 hc=>?_⟩;refine⟨_,_,_,rfl,rfl,by rw[ft];decide,qB hc,_,_,rfl,rfl,by rw[ll,qQ,ft];omega,?_⟩;exact⟨_,_,rfl,xG.trans y1,by rw[<- l7];exact st1,lo.app (.one hc),by rw[mW,ll];rfl⟩
 rintro U G ⟨z,nm,rfl,xG,stG,lo,ll⟩;refine⟨_,rfl,_,rfl,_,rfl,_,rfl,s,26,_,rfl,stG,by omega,by decide,by decide,fun G1 c y1 st1 hc=>?_⟩;refine⟨_,_,_,rfl,rfl,by rw[ft];decide,qB hc,_,_,rfl,rfl,by rw[ll,qQ,ft];omega,?_⟩;refine⟨_,rfl,_,rfl,s,26,_,rfl,st1,by omega,by decide,by decide,fun G2 c2 y2 st2 hc2=>?_⟩;refine⟨_,_,_,rfl,rfl,by rw[ft];decide,qB hc2,_,rfl,_,_,rfl,rfl,by rw[ll,qQ,ft];omega,?_⟩;refine⟨_,_,rfl,rfl,by rw[mW,ll,qQ,ft];show 1+(r+1)+1<=_;omega,sz3,fun A hA=>?_⟩;have loA:=ZfX;have l1:(nm++(⟨#[97+c]⟩:Str)).length=r+2:=by rw[mW,ll];rfl
 have l2:((⟨#[97+c2]⟩:Str)++nm ++ "a").length=r+3:=by rw[mW,mW,ll,qQ];show 1+(r+1)+1=r+3;omega
 obtain⟨G3,qN,u3,e3⟩:=ZN (o:=.lst (([nm,nm++(⟨#[97+c]⟩:Str),(⟨#[97+c2]⟩:Str)++nm ++ "a"]:List Str).map V.str)) hA;have qN':upd G2 A (.lst [.str nm,.str (nm++(⟨#[97+c]⟩:Str)),.str ((⟨#[97+c2]⟩:Str)++nm ++ "a")])=G3:=qN;rw[qN'];clear qN qN';have x02:=xG.trans (y1.trans y2);have nA:A≠s:=fun z=>by obtain⟨o1,ho1⟩:=st2.lst;rw[z,ho1] at hA;cases hA
 refine k G3 A _ (x02.trans (Ze.x u3)) ((st2.mono u3).le (by omega)) (x02.free nA hA) e3 rfl ?_ ?_
 ·have n1:nm≠nm++(⟨#[97+c]⟩:Str):=fun z=>by have:=fI Str.length z;rw[l1,ll] at this;omega
  have n2:nm≠(⟨#[97+c2]⟩:Str)++nm ++ "a" := fun z=>by have:=fI Str.length z;rw[l2,ll] at this;omega
  have n3:nm++(⟨#[97+c]⟩:Str)≠(⟨#[97+c2]⟩:Str)++nm ++ "a" := fun z=>by have:=fI Str.length z;rw[l1,l2] at this;omega
  simp[n1,n2,n3]
 ·intro x hx;simp only[fF,gO,gQ] at hx;rcases hx with rfl|rfl|rfl
  ·exact lo.name (by omega) (by omega)
  ·exact(lo.app (.one hc)).name (by omega) (by omega)
  ·exact(((zx.one hc2).app lo).app loA).name (by omega) (by omega)
structure Mk(nn:List Str)(H0 G:Hp)(SG WY:Addr)(many i:Nat)(sg:List (Addr×List Str))(wy:List (Addr×List Int)):Prop where
 hs:G SG=some (.lst (sg.map fun e=>V.ref e.1))
 hw:G WY=some (.lst (wy.map fun e=>V.ref e.1))
 ls:sg.length=i
 lw:wy.length=i
 es:∀e∈sg,H0 e.1=none/\G e.1=some (.lst (e.2.map V.str))/\e.2.Nodup/\(∀x∈e.2,x∈nn)/\e.2.length<=3
 ew:∀e∈wy,H0 e.1=none/\G e.1=some (.lst (e.2.map V.int))/\e.2.Nodup/\e.2≠[]/\(∀x∈e.2,0<=x/\x<(many:Nat))/\e.2.length<=3
theorem Mk.step{nn:List Str}{SG WY s:Addr}{many:Nat}(m:Mk nn H0 G SG WY many i sg wy)(n1:SG≠s)(n2:WY≠s)(h0:H0 s=some o)(x:Zs s G G'):Mk nn H0 G' SG WY many i sg wy:=
 ⟨x _ _ n1 m.hs,x _ _ n2 m.hw,m.ls,m.lw,fun e h=>(let ⟨a,b,c⟩:=m.es e h; ⟨a,x _ _ (fun z=>by rw[z,h0] at a;cases a) b,c⟩),fun e h=>(let ⟨a,b,c⟩:=m.ew e h; ⟨a,x _ _ (fun z=>by rw[z,h0] at a;cases a) b,c⟩)⟩
def vh(K:W.Frag)(a:Adr):Sp:=fun vs H Q _=>Ex4 fun(s nm:Addr) (n:Nat) (nn:List Str)=>Cj9 (vs=[.ref s,.ref nm]) (Xa H s n) (n<1000) (H nm=some (.lst (nn.map V.str))) (nn.length=3) nn.Nodup ((∀x∈nn,Yo x=true)) (nm≠s) (∀H' w d,Zs s H H'->Z0 a.C_World H' w d->JL d->d.signs.length<=20->Q (.ref w) H')
theorem vt:Okd P w K mg base a 8 a.y43 a.z43 eg vh:=fun T hw=>by
 refine okX T.bw.f Xn fun cR A outer s H E hr=>?_;intro X
 let d1:Rdg X Yf [3,0,2]:=⟨_,(Zh (Yq (XR gv gH gI Z1 (pv 4) (Za (Zl (Ko hw rfl) rfl T.bO om (Za (ZO (Zai (K:=K) rfl hw rfl) rfl T.cF oj (Za (pv 6) Zb rfl)) Zb rfl)) Zb rfl)) rfl))⟩
 let d2:Rdg X Yf [3,0,1]:=⟨_,(Zc (Y8 (i:=6) Xn.nd rfl rfl (Nc:=eQ) (ix:=[none,some 0,some 2]) (ZL.of (by decide +kernel:ZS (Zg Yf) Uv _ _ _=true)) rfl (Xo rfl T.aJ (Za (ZR XC Zf (ZB T.aa (ZH T hw) hr rfl rfl (Za (pv 0) (Za Zf Zb rfl) rfl))) Zb rfl)) (fun _ _ _ _ _=>(Zo (i:=0) (show List.Nodup eQ by decide +kernel) rfl (.inl rfl))) (fun _ _ _ _ _=>Z3) (fun _ _ _ _ _=>(ZB T.aa (ZH T hw) hr rfl rfl (Za (pv 1) (Za (pv 2) Zb rfl) rfl)))) d1.2)⟩
 let d3:Rdg X Yf [3,0,0]:=⟨_,(Zc (Yq (XR gv gH gI Z1 (pv 3) (Za (ZU (Nc:=eT) (ix:=[none,some 0]) (ZL.of (by decide +kernel:ZS (Zg Yf) Uv _ _ _=true)) rfl (ZE (K:=K) rfl (pv 1)) (fun _ _ _ _ _=>(Zo (i:=0) (show List.Nodup eT by decide +kernel) rfl (.inl rfl))) (fun _ _ _ _ _=>(WE (Zw YC (ZB T.aa (ZH T hw) hr rfl rfl (Za (pv 1) (Za Zf Zb rfl) rfl)) Zf (ZK _)))) (fun _ _ _ _ _=>(pv 0))) Zb rfl)) rfl) d2.2)⟩
 let d4:Rdg X Yf [4]:=⟨_,(Zh (Zm (QT T.cc (qe T hw) (rmL hr rfl) rfl T.cA T.a9.n .nil YK (Zq (pv 3) (Zq (pv 4) (Zq (ZY (Za Zf Zb rfl)) (Zq (ZY Zb) Zb rfl) rfl) rfl) rfl))))⟩
 let d5:Rdg X Yf [3]:=⟨_,(Zc (XF gw rfl (Xo rfl T.aJ (Za (pv 2) Zb rfl)) (Zo (i:=5) Xn.nd rfl (.inl rfl)) d3.2) d4.2)⟩
 let d6:Rdg X Yf [2]:=⟨_,(Zc (Zn (i:=4) Xn.nd rfl (.inl rfl) (ZY Zb) rfl (.inl rfl)) d5.2)⟩
 let d7:Rdg X Yf [1]:=⟨_,(Zc (Zn (i:=3) Xn.nd rfl (.inl rfl) (ZY Zb) rfl (.inl rfl)) d6.2)⟩
 intro vs Q h;obtain⟨s,nm,n,nn,rfl,hst,hn,hnm,lnn,nnd,nnm,nns,k⟩:=h;refine⟨_,(Zc (Zn (i:=2) Xn.nd rfl (.inr rfl) (Zv (Zr (K:=K) rfl) (ZY (Za (ZR XC Zf (ZB T.aa (ZH T hw) hr rfl rfl (Za (pv 0) (Za Zf Zb rfl) rfl))) (Za Zf Zb rfl) rfl)) (ZR U4 (ZB T.aa (ZH T hw) hr rfl rfl (Za (pv 0) (Za Zf Zb rfl) rfl)) Zf) (fun _ _=>rfl)) rfl (.inl rfl)) d7.2),?_⟩;obtain⟨os,hos⟩:=hst.lst;refine⟨_,rfl,s,6,n,rfl,hst,by omega,by decide,by decide,fun H1a r x1a st1a hr=>⟨_,_,rfl,rfl,sz2,fun A0 hA0=>?_⟩⟩;obtain⟨H1b,qN,u1b,eA0⟩:=ZN (o:=.lst [.int (1+(r:Nat)),.int 20]) hA0;rw[qN];have nA0:A0≠s:=fun z=>by obtain⟨o1,ho1⟩:=st1a.lst;rw[z,ho1] at hA0;cases hA0
 refine⟨_,rfl,s,8,n+1,rfl,st1a.mono u1b,by omega,by decide,by decide,fun H1 r8 x1c st1 hr8=>⟨_,_,rfl,rfl,⟨by decide,by decide⟩,?_⟩⟩;have x1:Zs s H H1:=x1a.trans ((Ze.x u1b).trans x1c);obtain⟨many,em,m1,m20⟩:∃many:Nat,atI [V.int (1+(r:Nat)),.int 20] ((r8:Int)/7)=some (.int (many:Nat))/\1<=many/\many<=20:=by
  rcases(show r8/7=0\/r8/7=1 by omega) with z|z
  ·rw[show(r8:Int)/7=((0:Nat):Int) by omega];exact⟨1+r,Zj (j:=0) (by show some (V.int (1+(r:Nat)))=_;congr 2),by omega,by omega⟩
  ·rw[show(r8:Int)/7=((1:Nat):Int) by omega];exact⟨20,Zj (j:=1) rfl,by decide,by decide⟩
 refine⟨A0,_,_,.int (many:Nat),rfl,rfl,nV (x1c _ _ nA0 eA0),em,by decide,fun SG hSG=>?_⟩;obtain⟨H2,qN,s2,eSG⟩:=ZN (o:=.lst []) hSG;rw[qN];refine⟨by decide,fun WY hWY=>?_⟩;obtain⟨H3,qN,s3,eWY⟩:=ZN (o:=.lst []) hWY;rw[qN];have x3:Zs s H H3:=x1.trans (Ze.x (s2.trans s3));have st3:=st1.mono (s2.trans s3);obtain⟨o3,ho3⟩:=st3.lst;have eSG3:=s3 _ _ eSG;have n1:SG≠s:=fun z=>by
  obtain⟨o1,ho1⟩:=st1.lst;rw[z,ho1] at hSG;cases hSG
 have n2:WY≠s:=fun z=>by
  obtain⟨o1,ho1⟩:=(st1.mono s2).lst;rw[z,ho1] at hWY;cases hWY
 have n3:SG≠WY:=fun z=>by rw[z] at eSG;rw[eSG] at hWY;cases hWY
 have h0SG:H SG=none:=by
  cases e:H SG with
  |none=>rfl
  |some o=>rw[x1 _ _ n1 e] at hSG;cases hSG
 have h0WY:H WY=none:=by
  cases e:H WY with
  |none=>rfl
  |some o=>rw[s2 _ _ (x1 _ _ n2 e)] at hWY;cases hWY
 refine⟨_,rfl,_,rfl,by omega,by omega,?_⟩
 let J1:Nat->L2.St->Hp->Prop:=fun i U G=>Ex4 fun(z4 z5:Option V) (sg:List (Addr×List Str)) (wy:List (Addr×List Int))=>Cj5 (U=[some (.ref s),some (.ref nm),some (.int (many:Nat)),some (.ref SG),some (.ref WY),z4,z5]) (Zs s H G) (Xa G s (n+2+10*i)) (Mk nn H3 G SG WY many i sg wy) (∀b o,b≠s->b≠SG->b≠WY->H3 b=some o->G b=some o)
 refine Y4 (J:=Itr 0 many) (n:=many) J1 ?_ (fun i U H' hi _=>hi) (fun U H' _=>fh _) ?_ ?_
 ·exact⟨_,_,[],[],rfl,x3,(by rw[Nat.mul_zero,Nat.add_zero];exact st3),⟨eSG3,eWY,rfl,rfl,(fun e h=>by cases h),(fun e h=>by cases h)⟩,fun b o _ _ _ e=>e⟩
 ·rintro i x U G0 G hi ⟨z4,z5,sg,wy,rfl,xG,stG,mk,kp⟩ ⟨rfl,rfl⟩;have nSGn:nm≠SG:=fun z=>by rw[<- z,x1 _ _ nns hnm] at hSG;cases hSG
  have nWYn:nm≠WY:=fun z=>by rw[<- z,s2 _ _ (x1 _ _ nns hnm)] at hWY;cases hWY
  have eq:=kp nm _ nns nSGn nWYn ((s2.trans s3) _ _ (x1 _ _ nns hnm));have u1:Ze G G:=.refl _;refine⟨_,rfl,.inl ⟨rfl,_,nV mk.hs⟩,_,rfl,nm,rfl,⟨_,nV eq⟩,fun D hD=>?_⟩;have nq:=nns;have st1':=stG.mono u1;have nD:D≠s:=fun z=>by obtain⟨o1,ho1⟩:=st1'.lst;rw[z,ho1] at hD;cases hD
  refine YJ (J:=Itl K nm) (n:=3) (fun j U F=>∃(y:Option V) (ss:List Str),U=[y,some (.ref s)]/\Zs s G F/\Xa F s (n+2+10*i+j)/\F D=some (.lst (ss.map V.str))/\ss.Sublist (nn.take j)) ?_ ?_ ?_ ?_ ?_
  ·exact⟨_,[],rfl,Ze.x (Zi hD),st1'.mono (Zi hD),Zd,List.nil_sublist _⟩
  ·rintro j U F hj ⟨y,ss,rfl,xF,_⟩;exact⟨_,_,nV (xF _ _ nq eq),fj (by rw[fi];omega)⟩
  ·rintro U F ⟨y,ss,rfl,xF,_⟩;exact⟨_,nV (xF _ _ nq eq),by rw[fi];omega⟩
  ·rintro j x U F0 F hj ⟨y,ss,rfl,xF,stF,eD,sub⟩ ⟨rfl,hx⟩ N N0 hN hN0;have ex:=hx _ (nV (xF _ _ nq eq));have hj3:j<nn.length:=by omega
   have ex':x=.str (nn[j]'hj3):=by
    rw[fw,fj hj3] at ex;exact(fO ex).symm
   subst ex';refine⟨_,rfl,s,2,_,rfl,stF,by omega,by decide,by decide,fun F1 r' y1 sty hr'=>⟨rfl,_,rfl,X9 (fun c=>⟨_,rfl,?_⟩) (fun c=>?_)⟩⟩
   ·have l1:ss.length<=3:=fK sub.length_le (by rw[fZ,lnn];exact m6 _ _);refine hN _ _ F1 _ (y1 _ _ nD eD) (by rw[fi,ft];omega) ⟨_,ss++[nn[j]'hj3],rfl,(xF.trans y1).updN hD,Xa.updN nD (by rw[<- l7];exact sty),by rw[Zd,fQ];rfl,?_⟩
    ·rw[lD,fj hj3];exact sub.append (List.Sublist.refl _)
   ·refine hN0 _ _ ⟨_,ss,rfl,xF.trans y1,by rw[<- l7];exact sty,y1 _ _ nD eD,?_⟩;rw[lD];exact sub.trans (List.sublist_append_left _ _)
  rintro U F ⟨y,ss,rfl,xF,stF,eD,sub⟩;have mkF:=mk.step n1 n2 ho3 ((Ze.x u1).trans xF);have kpF:∀b o,b≠s->b≠SG->b≠WY->H3 b=some o->F b=some o:=fun b o a1 a2 a3 e=>xF _ _ a1 (u1 _ _ (kp b o a1 a2 a3 e));have nDS:D≠SG:=fun z=>by rw[z,u1 _ _ mk.hs] at hD;cases hD
  have nDW:D≠WY:=fun z=>by rw[z,u1 _ _ mk.hw] at hD;cases hD
  have D0:H3 D=none:=by
   cases e:H3 D with
   |none=>rfl
   |some o=>rw[u1 _ _ (kp D o nD nDS nDW e)] at hD;cases hD
  have xHF:Zs s H F:=xG.trans ((Ze.x u1).trans xF);have lss:ss.length<=3:=fK sub.length_le (by rw[fZ,lnn];exact m6 _ _);refine⟨SG,_,_,rfl,rfl,mkF.hs,by rw[fi,mkF.ls,ft];omega,?_⟩;obtain⟨F2,qN⟩:∃F2,upd F SG (.lst ((sg.map fun e=>V.ref e.1)++[.ref D]))=F2:=⟨_,rfl⟩;have xHF2:Zs s H F2:=by rw[<- qN];exact xHF.updN h0SG
  have stF2:Xa F2 s (n+2+10*i+3):=by rw[<- qN];exact Xa.updN n1 stF
  have hs2:F2 SG=some (.lst ((sg++[(D,ss)]).map fun e=>V.ref e.1)):=by rw[<- qN,Zd,fQ];rfl
  have ot2:∀b o,b≠SG->F b=some o->F2 b=some o:=fun b o n e=>by rw[<- qN,Zx n];exact e
  have kpF2:∀b o,b≠s->b≠SG->b≠WY->H3 b=some o->F2 b=some o:=fun b o a1 a2 a3 e=>ot2 _ _ a2 (kpF b o a1 a2 a3 e);have hw2:F2 WY=some (.lst (wy.map fun e=>V.ref e.1)):=ot2 _ _ (fJ n3) mkF.hw;have nSG:∀{b:Addr},H3 b=none->b≠SG:=fun h z=>by rw[z,eSG3] at h;cases h
  have nWY:∀{b:Addr},H3 b=none->b≠WY:=fun h z=>by rw[z,eWY] at h;cases h
  have nS:∀{b:Addr},H3 b=none->b≠s:=fun h z=>by rw[z,ho3] at h;cases h
  have es2:∀e∈sg++[(D,ss)],H3 e.1=none/\F2 e.1=some (.lst (e.2.map V.str))/\e.2.Nodup/\(∀x∈e.2,x∈nn)/\e.2.length<=3:=fun e he=>by
   rcases fG.mp he with he|he
   ·obtain⟨a1,a2,a3⟩:=mkF.es e he;exact⟨a1,ot2 _ _ (nSG a1) a2,a3⟩
   ·rw[fM] at he;subst he;exact⟨D0,ot2 _ _ nDS eD,sub.nodup ((List.take_sublist _ _).nodup nnd),fun x hx=>(List.take_sublist _ _).subset (sub.subset hx),lss⟩
  have ew2:∀e∈wy,H3 e.1=none/\F2 e.1=some (.lst (e.2.map V.int))/\e.2.Nodup/\e.2≠[]/\(∀x∈e.2,0<=x/\x<(many:Nat))/\e.2.length<=3:=fun e he=>by
   obtain⟨a1,a2,a3⟩:=mkF.ew e he;exact⟨a1,ot2 _ _ (nSG a1) a2,a3⟩
  rw[qN];have lsg:(sg++[(D,ss)]).length=i+1:=by rw[fu,mk.ls];rfl
  have lwy:=mk.lw;generalize sg++[(D,ss)]=sg' at hs2 es2 lsg;clear qN ot2 kpF nDS nDW D0 mkF lss xF xHF stF eD sub st1' mk;refine⟨_,rfl,s,3,_,rfl,stF2,by omega,by decide,by decide,fun F3 r3 y3 st3' hr3=>⟨_,_,rfl,rfl,_,rfl,by omega,by omega,fun D2 hD2=>?_⟩⟩;have e3:((1:Int)+(r3:Nat)).toNat=r3+1:=by omega
  rw[e3];have nD2:D2≠s:=fun z=>by obtain⟨o1,ho1⟩:=st3'.lst;rw[z,ho1] at hD2;cases hD2
  refine YJ (J:=Itr 0 (r3+1)) (n:=r3+1) (fun j U F=>∃(y:Option V) (ns:List Int),U=[y,some (.ref s),some (.int (many:Nat))]/\Zs s F3 F/\Xa F s (n+2+10*i+4+j)/\F D2=some (.lst (ns.map V.int))/\ns.length=j/\∀x∈ns,0<=x/\x<(many:Nat)) ?_ (fun _ _ _ h _=>h) (fun _ _ _=>fh _) ?_ ?_
  ·exact⟨_,[],rfl,Ze.x (Zi hD2),st3'.mono (Zi hD2),Zd,rfl,fun x h=>by cases h⟩
  ·rintro j x U F0 F4 hj ⟨y,ns,rfl,xF4,stF4,eD4,ln,hb⟩ ⟨rfl,rfl⟩ N N0 hN hN0;refine UU (te:=ZbX (qb K a) [] E0 (kZ (Kz 1) (kZ (Kz 2) Za3))) (U:=[some (.int (0+(j:Nat))),some (.ref s),some (.int (many:Nat))]) (H:=F4) (N:=fun v H5=>N v [some (.int (0+(j:Nat))),some (.ref s),some (.int (many:Nat))] H5) (N0:=fun H4=>N0 [some (.int (0+(j:Nat))),some (.ref s),some (.int (many:Nat))] H4) ?_;refine⟨_,rfl,_,rfl,s,many,_,rfl,stF4,by omega,by omega,by omega,fun F5 v y5 st5 hv=>?_⟩;refine hN _ _ F5 _ (y5 _ _ nD2 eD4) (by rw[fi,ln,ft];omega) ⟨_,ns++[(v:Int)],rfl,(xF4.trans y5).updN hD2,Xa.updN nD2 (by rw[<- l7];exact st5),by rw[Zd,fQ];rfl,by rw[fu,ln];rfl,fun x hx=>?_⟩;rcases fG.mp hx with hx|hx
   ·exact hb x hx
   ·rw[fM] at hx;subst hx;omega
  rintro U F4 ⟨y,ns,rfl,xF4,stF4,eD4,ln,hb⟩;have x34:Zs s F2 F4:=y3.trans xF4;refine⟨_,rfl,.inl ⟨rfl,_,nV (x34 _ _ n2 hw2)⟩,_,rfl,D2,ns,rfl,nV eD4,by omega,fun S hS=>?_⟩;obtain⟨F5,qN,u5,eS⟩:=ZN (o:=SzO a.Pm S ns) hS;rw[qN];refine⟨S,ns,rfl,eS,by omega,fun L us hL nd hsub hle hne=>?_⟩;obtain⟨F6,qN,u6,eL⟩:=ZN (o:=.lst (us.map V.int)) hL;rw[qN];have x46:Zs s F2 F6:=x34.trans (Ze.x (u5.trans u6));have st6:=stF4.mono (u5.trans u6);have hw6:=x46 _ _ n2 hw2;have nL:L≠s:=fun z=>by obtain⟨o1,ho1⟩:=(stF4.mono u5).lst;rw[z,ho1] at hL;cases hL
  have nLS:L≠SG:=fun z=>by rw[z,u5 _ _ (x34 _ _ n1 hs2)] at hL;cases hL
  have nLW:L≠WY:=fun z=>by rw[z,u5 _ _ (x34 _ _ n2 hw2)] at hL;cases hL
  have L0:H3 L=none:=by
   cases e:H3 L with
   |none=>rfl
   |some o=>rw[u5 _ _ (x34 _ _ nL (kpF2 L o nL nLS nLW e))] at hL;cases hL
  refine⟨WY,_,_,rfl,rfl,hw6,by rw[fi,lwy,ft];omega,?_⟩;refine⟨_,_,sg',wy++[(L,us)],rfl,(xHF2.trans x46).updN h0WY,Xa.updN n2 (st6.le (by omega)),⟨by rw[Zx n3];exact x46 _ _ n1 hs2,by rw[Zd,fQ];rfl,lsg,by rw[fu,lwy];rfl,fun e he=>?_,fun e he=>?_⟩,fun b o a1 a2 a3 e=>by rw[Zx a3];exact x46 _ _ a1 (kpF2 b o a1 a2 a3 e)⟩
  ·obtain⟨a1,a2,a3⟩:=es2 e he;exact⟨a1,by rw[Zx (nWY a1)];exact x46 _ _ (nS a1) a2,a3⟩
  ·rcases fG.mp he with he|he
   ·obtain⟨a1,a2,a3⟩:=ew2 e he;exact⟨a1,by rw[Zx (nWY a1)];exact x46 _ _ (nS a1) a2,a3⟩
   ·rw[fM] at he;subst he;refine⟨L0,by rw[Zx nLW];exact eL,nd,hne (fun z=>by rw[z] at ln;cases ln),fun x hx=>hb x (hsub x hx),by show us.length<=3;omega⟩
 rintro U G ⟨z4,z5,sg,wy,rfl,xG,stG,mk,kp⟩;refine⟨_,rfl,_,rfl,sz1,fun L3 hL3=>?_⟩;obtain⟨G1,qN,u1,e3⟩:=ZN (o:=.lst [.int 0]) hL3;rw[qN];refine⟨by decide,fun L4 hL4=>?_⟩;obtain⟨G2,qN,u2,e4⟩:=ZN (o:=.lst []) hL4;rw[qN];have u12:=u1.trans u2;intro o dw no ndw new;have sm:Ze G2 (upd (upd G2 dw (.own o)) o (.ins a.C_World dw [])):=(Zi ndw).trans (Zi (by rw[Zx (fJ new)];exact no));have mk2:=mk.step n1 n2 ho3 (Ze.x u12);have pp:Wv G2 (.ref SG) (.ref WY) (.ref L3) (.ref L4) ⟨sg.map Prod.snd,wy.map Prod.snd,[0],[]⟩:=by
  refine⟨⟨SG,_,rfl,mk2.hs,by rw[fi,fi],fun i v x h1 h2=>?_⟩,⟨WY,_,rfl,mk2.hw,by rw[fi,fi],fun i v x h1 h2=>?_⟩,⟨L3,rfl,u2 _ _ e3⟩,⟨L4,rfl,e4⟩⟩
  ·rw[fw] at h1 h2;obtain⟨e,g1,rfl⟩:=iw.mp h1;rw[g1] at h2;cases h2;exact⟨_,rfl,(mk2.es e (fU g1)).2.1⟩
  ·rw[fw] at h1 h2;obtain⟨e,g1,rfl⟩:=iw.mp h1;rw[g1] at h2;cases h2;exact⟨_,rfl,(mk2.ew e (fU g1)).2.1⟩
 have ld:(sg.map Prod.snd).length=many:=by rw[fi,mk2.ls]
 have gd:JL ⟨sg.map Prod.snd,wy.map Prod.snd,[0],[]⟩:=by
  refine⟨by rw[ld];omega,by rw[ld];omega,by rw[ld,fi,mk2.lw],fun ss hs=>?_,fun ns hs=>?_,⟨(by decide:[(0:Int)].Nodup),(by decide:[(0:Int)]≠[]),fun x hx=>?_,(by decide:[(0:Int)].length<=20)⟩,⟨iy,(fun x hx=>by cases hx),gk _⟩⟩
  ·obtain⟨e,he,rfl⟩:=fX.mp hs;obtain⟨_,_,a3,a4,a5⟩:=mk2.es e he;exact⟨a3,fun x hx=>nnm x (a4 x hx),by omega⟩
  ·obtain⟨e,he,rfl⟩:=fX.mp hs;obtain⟨_,_,a3,a4,a5,a6⟩:=mk2.ew e he;exact⟨a3,a4,fun x hx=>by rw[ld];exact a5 x hx,by omega⟩
  ·rw[fM] at hx;subst hx;rw[ld];omega
 exact⟨o,dw,_,_,_,_,_,rfl,Zd,pp.mono sm,gd,fun H5 x5 wa=>⟨rfl,k _ o _ (fun b u nb e=>x5 b u (ZW (u12 _ _ (xG _ _ nb e)) no) (sm b u (u12 _ _ (xG _ _ nb e)))) wa gd (by rw[ld];omega)⟩⟩
theorem JB(xs:List V)(h:1<=xs.length):Vi xs none (some (-1))=xs.take (xs.length-1):=by
 unfold Vi;have e:HT.sIx xs.length xs.length (some (-1))=xs.length-1:=by
  show(if(-1:Int)<0 then((-1:Int)+(xs.length:Nat)).toNat else min (-1:Int).toNat xs.length)=_
  rw[if_pos (by decide)];omega
 have e0:HT.sIx xs.length 0 none=0:=rfl;rw[e,e0,List.drop_zero,Nat.sub_zero]
def JP(K:W.Frag)(a:Adr):Sp:=fun vs H Q _=>Ex4 fun(s w:Addr) (n:Nat) (d:WD)=>Cj7 (vs=[.ref s,.ref w]) (Xa H s n) (n<1000) (Z0 a.C_World H w d) (JL d) (d.signs.length<=20) (∀H' rn way ring,Zs s H H'->qm H' rn d.signs.length way ring->(way++ring).length<=31->Q (.ref rn) H')
theorem Jz:Okd P w K mg base a 2 a.y44 a.z44 eh JP:=fun T hw=>by
 refine okX T.bR.f YT fun cR A outer s H E hr=>?_;intro X
 let d1:Rdg X Ya [1,0,1]:=⟨_,(Zh (Yq (XR gv gH gI Z1 (pv 2) (Za (Zv (Zr (K:=K) rfl) (pv 4) (ZB T.aa (ZH T hw) hr rfl rfl (Za (pv 0) (Za (Zl (Zu (K:=K) rfl) rfl T.ay oh (Za (pv 4) Zb rfl)) Zb rfl) rfl)) (fun _ _=>rfl)) Zb rfl)) rfl))⟩
 let d2:Rdg X Ya [1,0,0]:=⟨_,(Zc (Zn (i:=4) YT.nd rfl (.inl rfl) (WC (pv 1) T.aj T.ah.m (Ww T hw) (rmL hr rfl) T.ah.n .nil YK (Za (Zv (Zr (K:=K) rfl) (pv 2) (Vx We Zf) (fun _ _=>rfl)) Zb rfl)) rfl (.inl rfl)) d1.2)⟩
 let d3:Rdg X Ya [2,0,1]:=⟨_,(Zh (Yq (XR gv gH gI Z1 (pv 2) (Za (Zv (Zr (K:=K) rfl) (pv 4) (ZB T.aa (ZH T hw) hr rfl rfl (Za (pv 0) (Za (Zl (Zu (K:=K) rfl) rfl T.ay oh (Za (pv 4) Zb rfl)) Zb rfl) rfl)) (fun _ _=>rfl)) Zb rfl)) rfl))⟩
 let d4:Rdg X Ya [2,0,0]:=⟨_,(Zc (Zn (i:=4) YT.nd rfl (.inl rfl) (WC (pv 1) T.aj T.ah.m (Ww T hw) (rmL hr rfl) T.ah.n .nil YK (Za (Zv (Zr (K:=K) rfl) (pv 2) (Vx We Zf) (fun _ _=>rfl)) Zb rfl)) rfl (.inl rfl)) d3.2)⟩
 let d5:Rdg X Ya [7]:=⟨_,(Zh (Zm (ZX (Za (Yd (Xi (K:=K) rfl) (pv 2) YH (Z9 (pv 8))) (Za (Yd (Xi (K:=K) rfl) (pv 2) (Z9 (pv 8)) (Z9 (pv 6))) Zb rfl) rfl))))⟩
 let d6:Rdg X Ya [6]:=⟨_,(Zc (Zn (i:=8) YT.nd rfl (.inl rfl) (Zv (Zr (K:=K) rfl) (pv 7) (ZB T.aa (ZH T hw) hr rfl rfl (Za (pv 0) (Za (Zl (Zu (K:=K) rfl) rfl T.ay oh (Za (pv 7) Zb rfl)) Zb rfl) rfl)) (fun _ _=>rfl)) rfl (.inl rfl)) d5.2)⟩
 let d7:Rdg X Ya [5]:=⟨_,(Zc (Y8 (i:=7) YT.nd rfl rfl (Nc:=eV) (ix:=[none,some 2,some 6]) (ZL.of (by decide +kernel:ZS (Zg Ya) qp _ _ _=true)) rfl (Xo rfl T.aJ (Za (pv 6) Zb rfl)) (fun _ _ _ _ _=>(Zo (i:=0) (show List.Nodup eV by decide +kernel) rfl (.inl rfl))) (fun _ _ _ _ _=>(WE (Zw YC (Zv (Zr (K:=K) rfl) (pv 1) (pv 0) (fun _ _=>rfl)) (Zv (Zr (K:=K) rfl) (pv 1) (pv 2) (fun _ _=>rfl)) (ZK _)))) (fun _ _ _ _ _=>(pv 0))) d6.2)⟩
 let d8:Rdg X Ya [4]:=⟨_,(Zc (Zn (i:=6) YT.nd rfl (.inr rfl) (Zv (Zr (K:=K) rfl) (pv 5) (ZB T.aa (ZH T hw) hr rfl rfl (Za (pv 0) (Za (Zl (Zu (K:=K) rfl) rfl T.ay oh (Za (pv 5) Zb rfl)) Zb rfl) rfl)) (fun _ _=>rfl)) rfl (.inl rfl)) d7.2)⟩
 let d9:Rdg X Ya [3]:=⟨_,(Zc (Y8 (i:=5) YT.nd rfl rfl (Nc:=["_law_k","_law_rooms"]) (ix:=[none,some 2]) (ZL.of (by decide +kernel:ZS (Zg Ya) qp _ _ _=true)) rfl (ZaI rfl T.aJ (Za Zf (Za (Zl (Zu (K:=K) rfl) rfl T.ay oh (Za (pv 2) Zb rfl)) Zb rfl) rfl)) (fun _ _ _ _ _=>(Zo (i:=0) (show List.Nodup (["_law_k","_law_rooms"]:List Str) by decide +kernel) rfl (.inl rfl))) (fun _ _ _ _ _=>(WE (Zw (WT (K:=K) rfl) (Zv (Zr (K:=K) rfl) (pv 1) (pv 0) (fun _ _=>rfl)) (Yd (Xi (K:=K) rfl) (pv 1) YH (Z9 (pv 0))) (by with_unfolding_all rfl)))) (fun _ _ _ _ _=>(pv 0))) d8.2)⟩
 let d10:Rdg X Ya [2]:=⟨_,(Zc (VW gw (Zw (zz (K:=K) rfl) (Zv (Zr (K:=K) rfl) (pv 2) (Vx We Zf) (fun _ _=>rfl)) (Yd (Xi (K:=K) rfl) (pv 2) YH (Z9 (Vx We Zf))) (by with_unfolding_all rfl)) d4.2) d9.2)⟩
 let d11:Rdg X Ya [1]:=⟨_,(Zc (XF gw rfl (Xo rfl T.aJ (Za (ZR XC Zf (ZB T.aa (ZH T hw) hr rfl rfl (Za (pv 0) (Za Zf Zb rfl) rfl))) Zb rfl)) (Zo (i:=3) YT.nd rfl (.inl rfl)) d2.2) d10.2)⟩
 intro vs Q h;obtain⟨s,w,n,d,rfl,hst,hn,hw0,gd,n6,k⟩:=h;refine⟨_,(Zc (Zn (i:=2) YT.nd rfl (.inr rfl) (ZY (Za (ZB T.aa (ZH T hw) hr rfl rfl (Za (pv 0) (Za (V2 (pv 1) T.aj T.ab.m (Xs T hw) (rmL hr rfl) T.ab.n .nil YK) Zb rfl) rfl)) Zb rfl)) rfl (.inl rfl)) d11.2),?_⟩;obtain⟨os,hos⟩:=hst.lst;obtain⟨dx,fs,ho,hk0⟩:=yy hw0;have n1:=gd.n1;refine⟨_,rfl,_,rfl,w,dx,fs,rfl,ho,hk0,w,d,rfl,hw0,s,d.signs.length,n,rfl,hst,by omega,by omega,by omega,fun H1 r x1 st1 hr=>⟨sz1,fun R hR=>?_⟩⟩;obtain⟨H2,qN,s2,eR⟩:=ZN (o:=.lst [.int (r:Nat)]) hR;rw[qN];have st2:=st1.mono s2;have x2:=x1.trans (Ze.x s2);have nR:R≠s:=fun z=>by obtain⟨o1,ho1⟩:=st1.lst;rw[z,ho1] at hR;cases hR
 have R0:H R=none:=x1.free nR hR;refine⟨_,rfl,s,4,_,rfl,st2,by omega,by decide,by decide,fun H3 r2 x3 st3 hr2=>⟨_,_,rfl,rfl,_,rfl,by omega,by omega,?_⟩⟩;have e7:((7:Int)+(r2:Nat)).toNat=r2+7:=by omega
 rw[e7]
 let J1:Nat->L2.St->Hp->Prop:=fun i U G=>Ex3 fun(z3 z4:Option V) (rs:List Int)=>Cj6 (U=[some (.ref s),some (.ref w),some (.ref R),z3,z4,none,none,none,none]) (Zs s H G) (Xa G s (n+2+i)) (G R=some (.lst (rs.map V.int))) (rs.length=i+1) (∀x∈rs,0<=x/\x<(d.signs.length:Nat))
 refine Y4 (J:=Itr 0 (r2+7)) (n:=r2+7) J1 ?_ (fun _ _ _ h _=>h) (fun _ _ _=>fh _) ?_ ?_
 ·exact⟨_,_,[(r:Int)],rfl,x2.trans x3,st3,x3 _ _ nR eR,rfl,fun x hx=>by rw[fM] at hx;subst hx;omega⟩
 ·rintro i x U G0 G hi ⟨z3,z4,rs,rfl,xG,stG,gR,lr,hb⟩ ⟨rfl,rfl⟩;have wG:=Z0.x hos xG hw0;obtain⟨dx2,fs2,ho2,hk2⟩:=qG wG;have hat:atI (rs.map V.int) (-1)=some (.int (rs[rs.length-1]'(by omega))):=by
   rw[show(-1:Int)=-((1:Nat):Int) from rfl,qM (fh 1) (by rw[fi];omega),iC];simp only[fi]
  have hl:=hb _ (fN (show rs.length-1<rs.length by omega));generalize (rs[rs.length-1]'(by omega))=y at hat hl;obtain⟨y,rfl⟩:=ml hl.1;have hyl:y<d.ways.length:=by rw[gd.wl];omega
  have hwy:d.ways[y]?=some d.ways[y]:=fj hyl;obtain⟨_,wne,wb,wl⟩:=gd.wn _ (fN hyl);generalize d.ways[y]=ws at hwy wne wb wl;refine⟨_,rfl,w,dx2,fs2,rfl,ho2,hk2,_,rfl,_,rfl,R,_,_,_,rfl,rfl,nV gR,hat,w,d,y,ws,rfl,wG,hwy,fun L hL=>?_⟩;obtain⟨G1,qN,u1,eL⟩:=ZN (o:=.lst ((Yc ws).map V.int)) hL;rw[qN];have st1':=stG.mono u1;have nL:L≠s:=fun z=>by obtain⟨o1,ho1⟩:=stG.lst;rw[z,ho1] at hL;cases hL
  have lso:(Yc ws).length=ws.length:=(X1 ws).length_eq;have lpos:0<ws.length:=iJ.mpr wne;refine⟨_,rfl,.inl ⟨rfl,_,nV (u1 _ _ gR)⟩,_,rfl,_,rfl,_,rfl,.inl ⟨L,_,rfl,.inl (nV eL),?_⟩⟩;rw[fi,lso];refine⟨s,ws.length,_,rfl,st1',by omega,lpos,by omega,fun G2 v y2 st2' hv=>?_⟩;have hsv:((Yc ws).map V.int)[v]?=some (.int ((Yc ws)[v]'(by omega))):=by rw[fw,fj (by omega)];rfl
  have hvb:=wb _ ((X1 ws).mem_iff.mp (fN (show v<(Yc ws).length by omega)));generalize ((Yc ws)[v]'(by omega))=yv at hsv hvb;refine⟨L,_,_,_,rfl,rfl,nV (y2 _ _ nL eL),Zj hsv,R,_,_,rfl,rfl,y2 _ _ nR (u1 _ _ gR),by rw[fi,lr,ft];omega,?_⟩;refine⟨_,_,rs++[yv],rfl,(xG.trans ((Ze.x u1).trans y2)).updN R0,Xa.updN nR (by rw[<- l7];exact st2'),by rw[Zd,fQ];rfl,by rw[fu,lr];rfl,fun x hx=>?_⟩;rcases fG.mp hx with hx|hx
  ·exact hb x hx
  ·rw[fM] at hx;subst hx;exact hvb
 rintro U G ⟨z3,z4,rs,rfl,xG,stG,gR,lr,hb⟩;refine⟨fun m U G=>∃(z3 z4:Option V) (rs ds:List Int) (c:Nat),U=[some (.ref s),some (.ref w),some (.ref R),z3,z4,none,none,none,none]/\Zs s H G/\Xa G s (n+2+c)/\G R=some (.lst (rs.map V.int))/\rs.length=c+1/\(∀x∈rs,0<=x/\x<(d.signs.length:Nat))/\ds.Nodup/\(∀x∈ds,x∈rs.take (rs.length-1))/\ds.length+m=21/\c+m=r2+28,⟨21,_,_,rs,[],_,rfl,xG,stG,gR,lr,hb,iy,(fun x h=>by cases h),rfl,by omega⟩,?_⟩;clear xG stG gR lr hb rs;rintro m U G ⟨z3,z4,rs,ds,c,rfl,xG,stG,gR,lr,hb,nds,hds,ld,lc⟩;have hat:atI (rs.map V.int) (-1)=some (.int (rs[rs.length-1]'(by omega))):=by
  rw[show(-1:Int)=-((1:Nat):Int) from rfl,qM (fh 1) (by rw[fi];omega),iC];simp only[fi]
 have hl:=hb _ (fN (show rs.length-1<rs.length by omega));have hlm:rs[rs.length-1]'(by omega)∈rs:=fN _;have hlast:rs.getD (rs.length-1) 0=rs[rs.length-1]'(by omega):=by rw[iT,fj (by omega)];rfl
 refine⟨_,rfl,_,rfl,R,_,_,_,rfl,rfl,nV gR,hat,?_⟩;generalize (rs[rs.length-1]'(by omega))=y at hat hl hlm hlast;refine⟨_,rfl,_,rfl,_,rfl,R,_,rfl,nV gR,fun c0 hc0=>?_⟩;rw[JB _ (by rw[fi];omega),fi,<- iL];obtain⟨G1,qN,u0,ec0⟩:=ZN (o:=.lst ((rs.take (rs.length-1)).map V.int)) hc0;rw[qN]
 replace xG:=xG.trans (Ze.x u0)
 replace stG:=stG.mono u0
 replace gR:=u0 _ _ gR
 refine⟨c0,_,rfl,.inl (nV ec0),rfl,VZ _,?_⟩;rw[if_pos rfl,zt];clear qN ec0 u0 hc0 c0 G;generalize G1=G at xG stG gR;refine⟨_,rfl,X9 (fun cw=>?_) (fun cw=>?_)⟩
 ·have hnm:y∉rs.take (rs.length-1):=by simpa using cw
  have nd':(ds++[y]).Nodup:=by
   rw[li];refine⟨nds,(by simp),fun a ha b hb2 e=>?_⟩;rw[fM] at hb2;subst e;subst hb2;exact hnm (hds _ ha)
  have l20:=jQ nd' (M:=d.signs.length) (fun x hx=>by
   rcases fG.mp hx with hx|hx
   ·exact hb x (nC (hds x hx))
   ·rw[fM] at hx;subst hx;exact hl)
  rw[fu] at l20;have l20':ds.length+1<=20:=fK l20 n6;have hyr:y∈rs:=hlm;refine⟨fun σ' G'=>∃(z3 z4:Option V) (yv:Int),σ'=[some (.ref s),some (.ref w),some (.ref R),z3,z4,none,none,none,none]/\Zs s H G'/\Xa G' s (n+2+c+1)/\G' R=some (.lst ((rs++[yv]).map V.int))/\0<=yv/\yv<(d.signs.length:Nat),?_,?_⟩
  ·rintro σ' G' ⟨z3,z4,yv,rfl,xG',stG',gR',hvb⟩;refine⟨m-1,by omega,z3,z4,rs++[yv],ds++[y],c+1,rfl,xG',stG',gR',by rw[fu,lr];rfl,fun x hx=>?_,nd',fun x hx=>?_,by rw[fu];show _+1+_=_;omega,by omega⟩
   ·rcases fG.mp hx with hx|hx
    ·exact hb x hx
    ·rw[fM] at hx;subst hx;exact hvb
   ·have e:(rs++[yv]).take ((rs++[yv]).length-1)=rs:=by
     rw[fu]
     show(rs++[yv]).take (rs.length+1-1)=rs
     rw[Nat.add_sub_cancel,List.take_left]
    rw[e];rcases fG.mp hx with hx|hx
    ·exact nC (hds x hx)
    ·rw[fM] at hx;subst hx;exact hyr
  have wG:=Z0.x hos xG hw0;obtain⟨dx2,fs2,ho2,hk2⟩:=qG wG;clear hlast hlm hyr nd' hnm l20 cw;obtain⟨y,rfl⟩:=ml hl.1;have hyl:y<d.ways.length:=by rw[gd.wl];omega
  have hwy:d.ways[y]?=some d.ways[y]:=fj hyl;obtain⟨_,wne,wb,wl⟩:=gd.wn _ (fN hyl);generalize d.ways[y]=ws at hwy wne wb wl;refine⟨_,rfl,w,dx2,fs2,rfl,ho2,hk2,_,rfl,_,rfl,R,_,_,_,rfl,rfl,nV gR,hat,w,d,y,ws,rfl,wG,hwy,fun L hL=>?_⟩;obtain⟨G1,qN,u1,eL⟩:=ZN (o:=.lst ((Yc ws).map V.int)) hL;rw[qN];have st1':=stG.mono u1;have nL:L≠s:=fun z=>by obtain⟨o1,ho1⟩:=stG.lst;rw[z,ho1] at hL;cases hL
  have lso:(Yc ws).length=ws.length:=(X1 ws).length_eq;have lpos:0<ws.length:=iJ.mpr wne;refine⟨_,rfl,.inl ⟨rfl,_,nV (u1 _ _ gR)⟩,_,rfl,_,rfl,_,rfl,.inl ⟨L,_,rfl,.inl (nV eL),?_⟩⟩;rw[fi,lso];refine⟨s,ws.length,_,rfl,st1',by omega,lpos,by omega,fun G2 v y2 st2' hv=>?_⟩;have hsv:((Yc ws).map V.int)[v]?=some (.int ((Yc ws)[v]'(by omega))):=by rw[fw,fj (by omega)];rfl
  have hvb:=wb _ ((X1 ws).mem_iff.mp (fN (show v<(Yc ws).length by omega)));generalize ((Yc ws)[v]'(by omega))=yv at hsv hvb;refine⟨L,_,_,_,rfl,rfl,nV (y2 _ _ nL eL),Zj hsv,R,_,_,rfl,rfl,y2 _ _ nR (u1 _ _ gR),by rw[fi,lr,ft];omega,?_⟩;exact⟨_,_,yv,rfl,(xG.trans ((Ze.x u1).trans y2)).updN R0,Xa.updN nR st2',by rw[Zd,fQ];rfl,hvb⟩
 have hlm':y∈rs.take (rs.length-1):=by simpa using cw
 refine⟨_,rfl,.inl ⟨R,_,rfl,.inl (nV gR),?_⟩⟩;rw[fi,lr];refine⟨_,_,rfl,⟨by decide,by decide,by omega,by omega⟩,fun D hD=>?_⟩;have en:(((c+1:Nat):Int)-1).toNat=c:=by omega
 rw[en];have rk:∀(j:Nat),j<rs.length->atI (rs.map V.int) (j:Int)=some (.int (rs.getD j 0)):=fun j hj=>by
  refine Zj ?_;rw[fw,fj hj,iT,fj hj];rfl
 refine YJ (J:=Itr 1 c) (n:=c) (fun j U F=>∃(y:Option V) (ks:List Nat),U=[y,some (.ref R)]/\Ze G F/\F D=some (.lst ((ks.map fun q:Nat=>(q:Int)).map V.int))/\ks.length<=j/\(∀q∈ks,1<=q/\q<rs.length/\rs.getD q 0∈rs.take q)/\∀q:Nat,1<=q->q<1+j->rs.getD q 0∈rs.take q->q∈ks) ?_ (fun _ _ _ h _=>h) (fun _ _ _=>fh _) ?_ ?_
 ·exact⟨_,[],rfl,Zi hD,Zd,fh _,(fun q h=>by cases h),fun q h1 h2=>by omega⟩
 ·rintro j x U F0 F hj ⟨y,ks,rfl,sF,eD,lk,h1,h2⟩ ⟨rfl,rfl⟩ N N0 hN hN0;have ej:(1:Int)+(j:Nat)=((1+j:Nat):Int):=by omega
  rw[ej];refine⟨_,rfl,_,rfl,R,_,_,_,rfl,rfl,nV (sF _ _ gR),rk (1+j) (by omega),_,rfl,_,rfl,_,rfl,R,_,rfl,nV (sF _ _ gR),fun c9 hc9=>?_⟩;rw[VY,<- iL];obtain⟨F1,qN,u1,ec⟩:=ZN (o:=.lst ((rs.take (1+j)).map V.int)) hc9;rw[qN];refine⟨c9,_,rfl,.inl (nV ec),rfl,VZ _,?_⟩;rw[if_neg fV,zt];refine⟨_,rfl,X9 (fun c=>⟨_,rfl,?_⟩) (fun c=>?_)⟩
  ·have hm:=fT c;refine hN _ _ F1 _ (u1 _ _ eD) (by rw[fi,fi,ft];omega) ⟨_,ks++[1+j],rfl,(Zs.upd (Ze.x (sF.trans u1))).same hD,by rw[Zd,fQ,fQ];rfl,by rw[fu];show _+1<=_;omega,fun q hq=>?_,fun q a1 a2 a3=>?_⟩
   ·rcases fG.mp hq with hq|hq
    ·exact h1 q hq
    ·rw[fM] at hq;subst hq;exact⟨by omega,by omega,hm⟩
   ·by_cases cq:q<1+j
    ·exact gS _ (h2 q a1 cq a3)
    ·have:q=1+j:=by omega
     subst this;exact gi _ (by simp)
  ·have hm:=lZ (Bool.eq_false_iff.mpr c);refine hN0 _ F1 ⟨_,ks,rfl,sF.trans u1,u1 _ _ eD,by omega,h1,fun q a1 a2 a3=>?_⟩
   by_cases cq:q<1+j
   ·exact h2 q a1 cq a3
   ·have:q=1+j:=by omega
    subst this;exact absurd a3 hm
 rintro U F ⟨y,ks,rfl,sF,eD,lk,h1,h2⟩;have kne:ks≠[]:=fun z=>by
  have:=h2 (rs.length-1) (by omega) (by omega) (by rw[hlast];exact hlm');rw[z] at this;cases this
 have lkp:0<ks.length:=iJ.mpr kne;have stF:=stG.mono sF;have nD:D≠s:=fun z=>by obtain⟨o1,ho1⟩:=stG.lst;rw[z,ho1] at hD;cases hD
 refine⟨_,rfl,_,rfl,_,rfl,.inl ⟨D,_,rfl,.inl (nV eD),?_⟩⟩;rw[fi,fi];refine⟨s,ks.length,_,rfl,stF,by omega,lkp,by omega,fun F2 v y2 st2' hv=>?_⟩;have hkv:((ks.map fun q:Nat=>(q:Int)).map V.int)[v]?=some (.int ((ks[v]'hv:Nat):Int)):=by rw[fw,fw,fj hv];rfl
 obtain⟨e1,e2,e3⟩:=h1 _ (fN hv);generalize (ks[v]'hv)=en2 at hkv e1 e2 e3;refine⟨D,_,_,_,rfl,rfl,nV (y2 _ _ nD eD),Zj hkv,?_⟩;have gR2:=y2 _ _ nR (sF _ _ gR);have xF2:Zs s H F2:=xG.trans ((Ze.x sF).trans y2);refine⟨_,rfl,_,rfl,by omega,by omega,fun D2 hD2=>?_⟩;rw[ge];refine YJ (J:=Itr 0 en2) (n:=en2) (fun j U F=>∃(y:Option V) (ks:List Nat),U=[y,some (.ref R),some (.int (en2:Nat))]/\Ze F2 F/\F D2=some (.lst ((ks.map fun q:Nat=>(q:Int)).map V.int))/\ks.length<=j/\(∀q∈ks,q<en2/\rs.getD q 0=rs.getD en2 0)/\∀q:Nat,q<j->rs.getD q 0=rs.getD en2 0->q∈ks) ?_ (fun _ _ _ h _=>h) (fun _ _ _=>fh _) ?_ ?_
 ·exact⟨_,[],rfl,Zi hD2,Zd,fh _,(fun q h=>by cases h),fun q h1 h2=>by omega⟩
 ·rintro j x U F0 F3 hj ⟨y,ks,rfl,sF3,eD3,lk3,h1,h2⟩ ⟨rfl,rfl⟩ N N0 hN hN0;have ej:(0:Int)+(j:Nat)=((j:Nat):Int):=by omega
  rw[ej];refine⟨_,rfl,_,rfl,R,_,_,_,rfl,rfl,nV (sF3 _ _ gR2),rk j (by omega),_,rfl,_,rfl,R,_,_,_,rfl,rfl,nV (sF3 _ _ gR2),rk en2 (by omega),?_⟩;refine⟨rfl,_,rfl,X9 (fun c=>⟨_,rfl,?_⟩) (fun c=>?_)⟩
  ·have hm:rs.getD j 0=rs.getD en2 0:=by have:=fT c;exact V.int.inj this
   refine hN _ _ F3 _ eD3 (by rw[fi,fi,ft];omega) ⟨_,ks++[j],rfl,(Zs.upd (Ze.x sF3)).same hD2,by rw[Zd,fQ,fQ];rfl,by rw[fu];show _+1<=_;omega,fun q hq=>?_,fun q a2 a3=>?_⟩
   ·rcases fG.mp hq with hq|hq
    ·exact h1 q hq
    ·rw[fM] at hq;subst hq;exact⟨hj,hm⟩
   ·by_cases cq:q<j
    ·exact gS _ (h2 q cq a3)
    ·have:q=j:=by omega
     subst this;exact gi _ (by simp)
  ·have hm:¬rs.getD j 0=rs.getD en2 0:=fun e=>c (gz (by rw[e]));refine hN0 _ _ ⟨_,ks,rfl,sF3,eD3,by omega,h1,fun q a2 a3=>?_⟩
   by_cases cq:q<j
   ·exact h2 q cq a3
   ·have:q=j:=by omega
    subst this;exact absurd a3 hm
 rintro U F3 ⟨y,bs,rfl,sF3,eD3,lk3,g1,g2⟩;have bne:bs≠[]:=fun z=>by
  obtain⟨q,hq,e⟩:=gu e3;rw[fZ] at hq;rw[ni] at e;have:=g2 q (by omega) (by rw[iT,fj (by omega)];exact e);rw[z] at this;cases this
 have lbp:0<bs.length:=iJ.mpr bne;have stF3:=st2'.mono sF3;have nD2:D2≠s:=fun z=>by obtain⟨o1,ho1⟩:=st2'.lst;rw[z,ho1] at hD2;cases hD2
 refine⟨_,rfl,_,rfl,_,rfl,.inl ⟨D2,_,rfl,.inl (nV eD3),?_⟩⟩;rw[fi,fi];refine⟨s,bs.length,_,rfl,stF3,by omega,lbp,by omega,fun F4 v2 y4 st4 hv2=>?_⟩;have hbv:((bs.map fun q:Nat=>(q:Int)).map V.int)[v2]?=some (.int ((bs[v2]'hv2:Nat):Int)):=by rw[fw,fw,fj hv2];rfl
 obtain⟨b1,b2⟩:=g1 _ (fN hv2);generalize (bs[v2]'hv2)=bg at hbv b1 b2;refine⟨D2,_,_,_,rfl,rfl,nV (y4 _ _ nD2 eD3),Zj hbv,?_⟩;have gR4:=y4 _ _ nR (sF3 _ _ gR2);have xF4:Zs s H F4:=xF2.trans ((Ze.x sF3).trans y4);refine⟨_,rfl,_,rfl,_,rfl,R,_,rfl,nV gR4,fun A1 hA1=>?_⟩;rw[VY,<- iL];obtain⟨F5,qN,u5,eA1⟩:=ZN (o:=.lst ((rs.take bg).map V.int)) hA1;rw[qN];refine⟨_,rfl,_,rfl,_,rfl,_,rfl,_,rfl,R,_,rfl,nV (u5 _ _ gR4),fun A2 hA2=>?_⟩;rw[jd _ (ib b1) (by rw[fi];omega),<- mV,<- iL];obtain⟨F6,qN,u6,eA2⟩:=ZN (o:=.lst (((rs.drop bg).take (en2-bg)).map V.int)) hA2;rw[qN];refine⟨sz2,fun rn hrn=>?_⟩;obtain⟨F7,qN,u7,ern⟩:=ZN (o:=.tup [.ref A1,.ref A2]) hrn;rw[qN];refine k F7 rn (rs.take bg) ((rs.drop bg).take (en2-bg)) (xF4.trans (Ze.x (u5.trans (u6.trans u7)))) ⟨⟨A1,A2,ern,(u6.trans u7) _ _ eA1,u7 _ _ eA2⟩,fun z=>?_,fun x hx=>hb x ?_⟩ ?_
 ·have:=fI List.length z;rw[fZ,g6] at this;simp at this;omega
 ·rcases fG.mp hx with hx|hx
  ·exact nC hx
  ·exact List.mem_of_mem_drop (nC hx)
 ·rw[fu,fZ,fZ,g6];omega
theorem Vd.mono{K:W.Frag}{H H':Hp}{L:Addr}{es:List (Tr×Addr)}(s:Ze H H')(h:Vd K H L es):Vd K H' L es:=
 let ⟨xs,h1,h2,h3⟩:=h
 ⟨xs,s _ _ h1,h2,fun j x e a b=>let ⟨b',w,n,q1,q2,q3,q4⟩:=h3 j x e a b; ⟨b',w,n,q1,nW s _ _ _ q2,q3.mono (nW s),q4⟩⟩
structure Rw(K:W.Frag)(a:Adr)(H:Hp)(w sl rm rws:Addr)(v:V)(d:WD)(st:Tr->List Int)(run:Nat->Int)(rs:List Int)(es:List (Tr×Addr))(t:Tr)(m p:Nat):Prop where
 w:Z0 a.C_World H w d
 rm:H rm=some (.lst (rs.map V.int))
 len:rs.length<=100000
 rn:∀k,k<rs.length->rs[k]?=some (run k)
 rb:∀x∈rs,0<=x/\x<(d.signs.length:Nat)
 core:At K (m+1) H v t
 c:isC t=true
 p1:1<=p
 pn:p<=rs.length
 rows:Vd K H rws es
 below:∀u∈ZI t,∃(i:Nat) (l:Addr),es[i]?=some (u,l)/\(∀(j:Nat) e,j<i->es[j]?=some e->e.1≠u)/\H l=some (.lst (((List.range rs.length).map (Z5 d st run u)).map V.bl))
 per:∀u∈ZI t,∀k,rs.length<=k->Z5 d st run u k=Z5 d st run u (k-p)
 sets:t.lb=.op "some" -> ∃(ss:List (Tr×Addr)) (i:Nat) (l:Addr),Vd K H sl ss/\ss[i]?=some (t,l)/\(∀(j:Nat) e,j<i->ss[j]?=some e->e.1≠t)/\H l=some (.lst ((st t).map V.int))
def Jf(K:W.Frag)(a:Adr):Sp:=fun vs H Q _=>ZeJ fun(w sl rm rws:Addr) (v:V) (d:WD) (st:Tr->List Int) (run:Nat->Int) (rs:List Int) (es:List (Tr×Addr)) (t:Tr) (m p:Nat)=>Cj3 (vs=[.ref w,.ref sl,.ref rm,.ref rws,v,.int ((rs.length-p:Nat):Int)]) (Rw K a H w sl rm rws v d st run rs es t m p) (∀H' D,Ze H H'->H D=none->H' D=some (.lst (((List.range rs.length).map (Z5 d st run t)).map V.bl))->Q (.ref D) H')
theorem Zfw{t:Tr}(h:X4 t=true)(hr:∀k,k<rs.length->rs[k]?=some (run k)):rs.map (fun x=>V.bl (YM d st t x))=((List.range rs.length).map (Z5 d st run t)).map V.bl:=by
 rw[jW h];apply iR;intro i;rw[fw,fw,fw]
 by_cases c:i<rs.length
 ·rw[hr i c,iU c];rfl
 ·rw[gK (by omega),gK (by rw[fY];omega)];rfl
theorem Zb0{t:Tr}(hc:isC t=true)(ok:XN t.lb t.ks.length)(h:X4 t=false) :
  ∃A B,(ZI t)[0]?=some A/\(ZI t)[(ZI t).length-1]?=some B /\
  ((Zy t.lb = "not" /\ Z5 d st run t=fun k=>!Z5 d st run A k)\/(Zy t.lb = "and" /\ Z5 d st run t=fun k=>Z5 d st run A k&&Z5 d st run B k)\/(Zy t.lb = "next" /\ Z5 d st run t=fun k=>Z5 d st run A (k+1))\/(Zy t.lb = "before" /\ Z5 d st run t=Qd (Z5 d st run A))\/(Zy t.lb = "until" /\ Z5 d st run t=X2 (Z5 d st run A) (Z5 d st run B))\/(Zy t.lb = "since" /\ Z5 d st run t=Xu (Z5 d st run A) (Z5 d st run B))):=by
 rw[UK h];rcases Wr hc ok h with⟨w,a,rfl,h3⟩|⟨w,a,b,rfl,h2⟩|⟨a,b,rfl⟩
 ·refine⟨a,a,rfl,rfl,?_⟩;rcases h3 with rfl|rfl|rfl
  ·exact .inl ⟨rfl,jG a⟩
  ·exact .inr (.inr (.inl ⟨rfl,yX a⟩))
  ·exact .inr (.inr (.inr (.inl ⟨rfl,qC a⟩)))
 ·refine⟨a,b,rfl,rfl,?_⟩;rcases h2 with rfl|rfl
  ·exact .inr (.inr (.inr (.inr (.inl ⟨rfl,zP a b⟩))))
  ·exact .inr (.inr (.inr (.inr (.inr ⟨rfl,zC a b⟩))))
 ·exact⟨a,b,rfl,rfl,.inr (.inl ⟨rfl,kT a b⟩)⟩
theorem VJ{k:Nat}(h:k<n):((List.range n).map f)[k]?=some (f k):=by rw[fw,iU h];rfl
theorem yD{k:Nat}(h:k<n):atI (((List.range n).map f).map V.bl) (k:Int)=some (.bl (f k)):=Zj (by rw[fw,VJ h];rfl)
theorem Jo{k:Nat}(h:k<n):((List.range n).map f).getD k false=f k:=by rw[iT,VJ h];rfl
theorem vJ{f f' s s':Nat->Bool}:∀{k:Nat},(∀i,i<=k->f i=f' i)->(∀i,i<=k->s i=s' i)->Xu f s k=Xu f' s' k
 |0,_,h2=>h2 0 (fh _)
 |k+1,h1,h2=>by
  show(s (k+1)||(f (k+1)&&Xu f s k))=(s' (k+1)||(f' (k+1)&&Xu f' s' k))
  rw[h1 _ (fh _),h2 _ (fh _),vJ (fun i h=>h1 i (by omega)) (fun i h=>h2 i (by omega))]
theorem JW{x:Int}(h:x∈L3.upTo (n:Int)):∃k:Nat,k<n/\x=(k:Int):=by
 obtain⟨k,hk,e⟩:=fX.mp h;rw[lE,ge] at hk;exact⟨k,hk,e.symm⟩
theorem JO(f:Nat->Bool):(L3.upTo (n:Int)).map (fun x=>V.bl (f x.toNat))=((List.range n).map f).map V.bl:=by
 unfold L3.upTo;rw[ge,gB,gB];rfl
theorem Zbu(h:1<=n):((List.range n).map f).drop 1++[f n]=(List.range n).map fun k=>f (k+1):=by
 apply iR;intro i
 by_cases c:i<n-1
 ·rw[fW (by rw[g6,fi,fY];exact c),mO,VJ (by omega),VJ (by omega),Nat.add_comm]
 ·rw[gf (by rw[g6,fi,fY];omega),g6,fi,fY]
  by_cases c2:i=n-1
  ·subst c2;rw[gN,VJ (by omega),show n-1+1=n by omega];rfl
  ·rw[gK (by simp;omega),gK (by simp;omega)]
theorem Zdc(h:1<=n):[false]++((List.range n).map f).take (n-1)=(List.range n).map (Qd f):=by
 apply iR;intro i;cases i with
 |zero=>rw[VJ (by omega)];rfl
 |succ i=>
  show(((List.range n).map f).take (n-1))[i]?=_
  by_cases c:i<n-1
  ·rw[mE c,VJ (by omega),VJ (by omega)];rfl
  ·rw[gK (by simp;omega),gK (by simp;omega)]
theorem Jk:Okd P w K mg base a 2 a.y51 a.z51 eG Jf:=fun T hw=>by
 refine okX T.bS.f X8 fun cR A outer s H E hr=>?_;intro X
 let d1:Rdg X ZF [1,0,0]:=⟨_,(Zh (Zm (ZU (Nc:=["_law_room"]) (ix:=[none]) (ZL.of (by decide +kernel:ZS (Zg ZF) X0 _ _ _=true)) rfl (ZE (K:=K) rfl (pv 2)) (fun _ _ _ _ _=>(Zo (i:=0) (show List.Nodup (["_law_room"]:List Str) by decide +kernel) rfl (.inl rfl))) (fun _ _ _ _ _=>Z3) (fun _ _ _ _ _=>Y9))))⟩
 let d2:Rdg X ZF [2,0,0]:=⟨_,(Zh (Zm (ZU (Nc:=eX) (ix:=[none,some 4,some 0]) (ZL.of (by decide +kernel:ZS (Zg ZF) X0 _ _ _=true)) rfl (ZE (K:=K) rfl (pv 2)) (fun _ _ _ _ _=>(Zo (i:=0) (show List.Nodup eX by decide +kernel) rfl (.inl rfl))) (fun _ _ _ _ _=>Z3) (fun _ _ _ _ _=>(Xb (WT (K:=K) rfl) (Zv (ZP (K:=K) rfl) (pv 1) Zf (fun _ _=>rfl)) (WC (pv 2) T.aj T.ag.m (Wc T hw) (rmL hr rfl) T.ag.n .nil YK (Za (pv 0) Zb rfl)) (by with_unfolding_all rfl))))))⟩
 let d3:Rdg X ZF [3,0,1]:=⟨_,(Zh (Zm (ZU (Nc:=db) (ix:=[none,some 7]) (ZL.of (by decide +kernel:ZS (Zg ZF) X0 _ _ _=true)) rfl (ZE (K:=K) rfl (pv 2)) (fun _ _ _ _ _=>(Zo (i:=0) (show List.Nodup db by decide +kernel) rfl (.inl rfl))) (fun _ _ _ _ _=>Z3) (fun _ _ _ _ _=>(Xb (WT (K:=K) rfl) (pv 0) (pv 1) (by with_unfolding_all rfl))))))⟩
 let d4:Rdg X ZF [3,0,0]:=⟨_,(Zc (Zn (i:=7) X8.nd rfl (.inr rfl) (ZB T.bf (Uk T hw) hr rfl rfl (Za (pv 1) (Za (pv 4) Zb rfl) rfl)) rfl (.inl rfl)) d3.2)⟩
 let d5:Rdg X ZF [7,0,0]:=⟨_,(Zh (Zm (ZU (Nc:=cX) (ix:=[none]) (ZL.of (by decide +kernel:ZS (Zg ZF) X0 _ _ _=true)) rfl (ZE (K:=K) rfl (pv 8)) (fun _ _ _ _ _=>(Zo (i:=0) (show List.Nodup cX by decide +kernel) rfl (.inl rfl))) (fun _ _ _ _ _=>Z3) (fun _ _ _ _ _=>(Qv (pv 0))))))⟩
 let d6:Rdg X ZF [8,0,0]:=⟨_,(Zh (Zm (ZU (Nc:=de) (ix:=[none,some 8,some 9]) (ZL.of (by decide +kernel:ZS (Zg ZF) X0 _ _ _=true)) rfl (ZE (K:=K) rfl (pv 10)) (fun _ _ _ _ _=>(Zo (i:=0) (show List.Nodup de by decide +kernel) rfl (.inl rfl))) (fun _ _ _ _ _=>Z3) (fun _ _ _ _ _=>(XQ (Zv (Zr (K:=K) rfl) (pv 1) (pv 0) (fun _ _=>rfl)) (Xt (Zv (Zr (K:=K) rfl) (pv 2) (pv 0) (fun _ _=>rfl))))))))⟩
 let d7:Rdg X ZF [9,0,0]:=⟨_,(Zh (Zm (ZR qy (Yd (Xi (K:=K) rfl) (pv 8) (Z9 Zf) YH) (ZY (Za (Zv (Zr (K:=K) rfl) (pv 8) (pv 5) (fun _ _=>rfl)) Zb rfl)))))⟩
 let d8:Rdg X ZF [12]:=⟨_,(Zh (Zm (ZU (Nc:=de) (ix:=[none,some 8,some 9]) (ZL.of (by decide +kernel:ZS (Zg ZF) X0 _ _ _=true)) rfl (ZE (K:=K) rfl (pv 10)) (fun _ _ _ _ _=>(Zo (i:=0) (show List.Nodup de by decide +kernel) rfl (.inl rfl))) (fun _ _ _ _ _=>Z3) (fun _ _ _ _ _=>(ZB T.ba (yr T hw) hr rfl rfl (Zq (pv 1) (Zq (pv 2) (Zq (pv 0) Zb rfl) rfl) rfl))))))⟩
 let d9:Rdg X ZF [11]:=⟨_,(Zc (Z2 (Zw YC (pv 6) Zz (ZK _)) (Zh (Zm (ZB T.bx (vE T hw) hr rfl rfl (Zq (pv 8) (Zq (pv 9) (Zq (pv 5) Zb rfl) rfl) rfl)))) ZD) d8.2)⟩
 let d10:Rdg X ZF [10]:=⟨_,(Zc (Z2 (Zw YC (pv 6) Zz (ZK _)) (Zh (Zm (ZR qy (ZY (Za Y9 Zb rfl)) (Yd (Xi (K:=K) rfl) (pv 8) YH (Z9 (Vx We Zf)))))) ZD) d9.2)⟩
 let d11:Rdg X ZF [9]:=⟨_,(Zc (Z2 (Zw YC (pv 6) Zz (ZK _)) d7.2 ZD) d10.2)⟩
 let d12:Rdg X ZF [8]:=⟨_,(Zc (Z2 (Zw YC (pv 6) Zz (ZK _)) d6.2 ZD) d11.2)⟩
 let d13:Rdg X ZF [7]:=⟨_,(Zc (Z2 (Zw YC (pv 6) Zz (ZK _)) d5.2 ZD) d12.2)⟩
 let d14:Rdg X ZF [6]:=⟨_,(Zc (Zn (i:=10) X8.nd rfl (.inl rfl) (ZO (YL (K:=K) rfl rfl) rfl T.aN nY (Za (ZO (xj) rfl T.aJ on (Za (Zl (Zu (K:=K) rfl) rfl T.ay oh (Za (pv 2) Zb rfl)) Zb rfl)) Zb rfl)) rfl (.inl rfl)) d13.2)⟩
 let d15:Rdg X ZF [5]:=⟨_,(Zc (Zn (i:=9) X8.nd rfl (.inr rfl) (ZB T.bf (Uk T hw) hr rfl rfl (Za (pv 3) (Za (Zv (Zr (K:=K) rfl) (ZB T.aC (VL T hw) hr rfl rfl (Za (pv 4) Zb rfl)) (Vx We Zf) (fun _ _=>rfl)) Zb rfl) rfl)) rfl (.inl rfl)) d14.2)⟩
 let d16:Rdg X ZF [4]:=⟨_,(Zc (Zn (i:=8) X8.nd rfl (.inr rfl) (ZB T.bf (Uk T hw) hr rfl rfl (Za (pv 3) (Za (Zv (Zr (K:=K) rfl) (ZB T.aC (VL T hw) hr rfl rfl (Za (pv 4) Zb rfl)) Zf (fun _ _=>rfl)) Zb rfl) rfl)) rfl (.inl rfl)) d15.2)⟩
 let d17:Rdg X ZF [3]:=⟨_,(Zc (Z2 (Zw YC (pv 6) Zz (ZK _)) d4.2 ZD) d16.2)⟩
 let d18:Rdg X ZF [2]:=⟨_,(Zc (Z2 (Zw YC (pv 6) Zz (ZK _)) d2.2 ZD) d17.2)⟩
 let d19:Rdg X ZF [1]:=⟨_,(Zc (Z2 (Zw YC (pv 6) Zz (ZK _)) d1.2 ZD) d18.2)⟩
 intro vs Q h;obtain⟨w,sl,rm,rws,v,d,st,run,rs,es,t,m,p,rfl,⟨hw0,hrm,hlen,hrun,hrb,hat,hc,p1,pn,hrows,hbel,hper,hsets⟩,kk⟩:=h;refine⟨_,(Zc (Zn (i:=6) X8.nd rfl (.inl rfl) (Zv (ZP (K:=K) rfl) (pv 4) Zf (fun _ _=>rfl)) rfl (.inl rfl)) d19.2),?_⟩;have okt:XN t.lb t.ks.length:=hat.ok.1;obtain⟨ax,us0,rfl,sh0,_⟩:=id hat;obtain⟨xs,ex⟩:=sh0.tup;refine⟨_,rfl,ax,_,_,_,rfl,rfl,ex,Zj (j:=0) rfl,?_⟩;cases hA:X4 t with
 |true=>
  have era:=Zfw (d:=d) (st:=st) hA hrun;have hA2:=hA;unfold X4 at hA2;cases el:t.lb with
  |wit _=>rw[el] at hA2;cases hA2
  |many _=>rw[el] at hA2;cases hA2
  |yes=>
   refine⟨_,rfl,rfl,_,rfl,XT rfl ?_⟩;refine⟨_,rfl,rm,rfl,⟨_,nV hrm⟩,fun D hD=>?_⟩;refine Y0 (K:=K) rs V.int (fun x=>.bl (YM d st t x)) hD (nV hrm) (by rw[ft];omega) ?_ ?_
   ·intro x hx G N sG hN;have:YM d st t x=true:=by unfold YM;rw[el]
    have q:=hN G (.refl _);rw[this] at q;exact q
   ·intro H1 e1 s1;exact kk H1 D s1 hD (by rw[e1,era])
  |sign z=>
   rw[el] at sh0;have g:SqT K H ax [.str "sign",.str z]:=sh0.2;refine⟨_,rfl,rfl,_,rfl,Z4 (fun q=>(by decide +kernel:¬(("sign" : Str) = "yes")) (V.str.inj q)) ?_⟩;refine⟨_,rfl,rfl,_,rfl,XT rfl ?_⟩;refine⟨_,rfl,rm,rfl,⟨_,nV hrm⟩,fun D hD=>?_⟩;refine Y0 (K:=K) rs V.int (fun x=>.bl (YM d st t x)) hD (nV hrm) (by rw[ft];omega) ?_ ?_
   ·intro x hx G N sG hN;obtain⟨x0,xl⟩:=hrb x hx;obtain⟨r,rfl⟩:=ml x0;have hr2:r<d.signs.length:=by omega
    obtain⟨dx2,fs2,ho2,hk2⟩:=UM (hw0.mono sG);refine⟨_,rfl,ax,_,_,_,rfl,rfl,nW sG _ _ _ g,Zj (j:=1) rfl,_,rfl,w,dx2,fs2,rfl,ho2,hk2,_,rfl,w,d,r,d.signs[r],rfl,hw0.mono sG,fj hr2,fun q hq=>?_⟩;refine⟨q,_,rfl,.inl (nV Zd),rfl,zN _,?_⟩;have:YM d st t (r:Nat)=inV (.str z) ((Wm d.signs[r]).map V.str):=by
     unfold YM;rw[el,xz]
     show decide (z∈xC d (r:Nat))=_
     unfold xC;rw[ge,fj hr2];rfl
    have qq:=hN _ (Zi (o:=.lst ((Wm d.signs[r]).map V.str)) hq);rw[this] at qq;exact qq
   ·intro H1 e1 s1;exact kk H1 D s1 hD (by rw[e1,era])
  |op wd=>
   rw[el] at hA2;have ew:wd = "some" := fT hA2;subst ew;obtain⟨ss,i,l,hps,hi,hno,hl⟩:=hsets el;refine⟨_,rfl,rfl,_,rfl,Z4 (fun q=>(by decide +kernel:¬(("some" : Str) = "yes")) (V.str.inj q)) ?_⟩;refine⟨_,rfl,rfl,_,rfl,Z4 (fun q=>(by decide +kernel:¬(("some" : Str) = "sign")) (V.str.inj q)) ?_⟩;refine⟨_,rfl,rfl,_,rfl,XT rfl ?_⟩;refine⟨_,rfl,_,rfl,sl,ss,.ref ax,t,m+1,i,l,rfl,hps,hat,hi,hno,?_⟩;refine⟨_,rfl,rm,rfl,⟨_,nV hrm⟩,fun D hD=>?_⟩;refine Y0 (K:=K) rs V.int (fun x=>.bl (YM d st t x)) hD (nV hrm) (by rw[ft];omega) ?_ ?_
   ·intro x hx G N sG hN;refine⟨_,rfl,_,rfl,l,_,rfl,.inl (nV (sG _ _ hl)),rfl,VZ _,?_⟩;have:YM d st t x=inV (.int x) ((st t).map V.int):=by
     unfold YM;rw[el,zt]
    have qq:=hN G (.refl _);rw[this] at qq;exact qq
   ·intro H1 e1 s1;exact kk H1 D s1 hD (by rw[e1,era])
 |false=>
  obtain⟨A,B,eA,eB,six⟩:=Zb0 (d:=d) (st:=st) (run:=run) hc okt hA;have w3:Zy t.lb ≠ "yes" /\ Zy t.lb ≠ "sign" /\ Zy t.lb ≠ "some" := by
   rcases six with⟨z,_⟩|⟨z,_⟩|⟨z,_⟩|⟨z,_⟩|⟨z,_⟩|⟨z,_⟩<;>(rw[z];decide +kernel)
  refine⟨_,rfl,rfl,_,rfl,Z4 (fun q=>w3.1 (V.str.inj q)) ?_⟩;refine⟨_,rfl,rfl,_,rfl,Z4 (fun q=>w3.2.1 (V.str.inj q)) ?_⟩;refine⟨_,rfl,rfl,_,rfl,Z4 (fun q=>w3.2.2 (V.str.inj q)) ?_⟩;obtain⟨i1,l1,hi1,hn1,g1⟩:=hbel A (fU eA);obtain⟨i2,l2,hi2,hn2,g2⟩:=hbel B (fU eB);have pA:=hper A (fU eA);have pB:=hper B (fU eB);refine⟨_,rfl,_,rfl,.ref ax,t,m,rfl,hat,hc,fun H1 L us s1 L0 hL aL=>?_⟩;have lu:us.length=(ZI t).length:=aL.1;have lp:0<us.length:=by rw[lu];exact(fD.mp eA).1
  refine⟨L,_,_,_,rfl,rfl,nV hL,Zj (j:=0) (fj lp),rws,es,_,A,m,i1,l1,rfl,hrows.mono s1,aL.2 0 _ _ (fj lp) eA,hi1,hn1,?_⟩;refine⟨_,rfl,_,rfl,.ref ax,t,m,rfl,hat.mono (nW s1),hc,fun H2 L2 us2 s2 L20 hL2 aL2=>?_⟩;have lu2:us2.length=(ZI t).length:=aL2.1;have lp2:0<us2.length:=by omega
  refine⟨_,rfl,L2,_,_,_,rfl,rfl,nV hL2,qM (p:=1) (fh 1) lp2,rws,es,_,B,m,i2,l2,rfl,hrows.mono (s1.trans s2),aL2.2 (us2.length-1) _ _ (fj (by omega)) (by rw[lu2];exact eB),hi2,hn2,?_⟩;have s12:=s1.trans s2;refine⟨_,rfl,.inl ⟨rm,_,rfl,.inl (nV (s12 _ _ hrm)),?_⟩⟩;rw[fi];refine⟨_,rfl,fun R hR=>?_⟩;obtain⟨H3,qN,t1,eR⟩:=ZN (o:=.rng 0 (rs.length:Int)) hR;rw[qN];refine .inr ⟨R,(rs.length:Int),rfl,eR,by omega,by omega,fun P hP=>?_⟩;obtain⟨H4,qN,t2,eP⟩:=ZN (o:=.lst ((L3.upTo (rs.length:Int)).map V.int)) hP;rw[qN];have s4:Ze H H4:=s12.trans (t1.trans t2)
  replace g1:=s4 _ _ g1
  replace g2:=s4 _ _ g2
  clear eR hP hR t1 t2 hL hL2 aL aL2 L0 L20 s1 s2 s12
  replace kk:∀H' D,Ze H4 H'->H4 D=none->H' D=some (.lst (((List.range rs.length).map (Z5 d st run t)).map V.bl))->Q (.ref D) H':=fun H' D a b c=>kk H' D (s4.trans a) (s4.free b) c
  have n1:1<=rs.length:=by omega
  generalize rs.length=n at *;generalize Z5 d st run A=fA at *;generalize Z5 d st run B=fB at *;have lr:∀f:Nat->Bool,((List.range n).map f).length=n:=fun f=>by rw[fi,fY]
  rcases six with⟨z,e⟩|⟨z,e⟩|⟨z,e⟩|⟨z,e⟩|⟨z,e⟩|⟨z,e⟩<;>rw[e] at kk<;>rw[z]
  ·refine⟨_,rfl,rfl,_,rfl,XT rfl ?_⟩;refine⟨_,rfl,l1,rfl,⟨_,nV g1⟩,fun D hD=>?_⟩;refine Y0 (K:=K) ((List.range n).map fA) V.bl (fun b=>.bl (!b)) hD (nV g1) (by rw[lr,ft];omega) ?_ ?_
   ·intro b hb G N sG hN;exact⟨_,rfl,_,rfl,hN _ (.refl _)⟩
   ·intro H5 e1 s5;exact kk H5 D s5 hD (by rw[e1,gB,gB];rfl)
  ·refine⟨_,rfl,rfl,_,rfl,Z4 (fun q=>(by decide +kernel:¬(("and" : Str) = "not")) (V.str.inj q)) ?_⟩;refine⟨_,rfl,rfl,_,rfl,XT rfl ?_⟩;refine⟨_,rfl,P,rfl,⟨_,nV eP⟩,fun D hD=>?_⟩;refine Y0 (K:=K) (L3.upTo (n:Int)) V.int (fun x=>.bl (fA x.toNat&&fB x.toNat)) hD (nV eP) (by unfold L3.upTo;rw[fi,fY,ft];omega) ?_ ?_
   ·intro x hx G N sG hN;obtain⟨k,hk,rfl⟩:=JW hx;have go:=hN G (.refl _);rw[ge] at go;refine⟨_,rfl,_,rfl,l1,_,_,_,rfl,rfl,nV (sG _ _ g1),yD hk,_,rfl,X9 (fun c=>?_) (fun c=>?_)⟩
    ·rw[c,iS] at go;exact⟨_,rfl,_,rfl,l2,_,_,_,rfl,rfl,nV (sG _ _ g2),yD hk,go⟩
    ·have c':fA k=false:=by simpa using c
     rw[c',iE] at go;exact go
   ·intro H5 e1 s5;exact kk H5 D s5 hD (by rw[e1];exact fI _ (fI _ (JO fun k=>fA k&&fB k)))
  ·refine⟨_,rfl,rfl,_,rfl,Z4 (fun q=>(by decide +kernel:¬(("next" : Str) = "not")) (V.str.inj q)) ?_⟩;refine⟨_,rfl,rfl,_,rfl,Z4 (fun q=>(by decide +kernel:¬(("next" : Str) = "and")) (V.str.inj q)) ?_⟩;refine⟨_,rfl,rfl,_,rfl,XT rfl ?_⟩;refine⟨_,rfl,1,rfl,l1,_,rfl,nV g1,fun q hq=>?_⟩;have ec:=Wt (((List.range n).map fA).map V.bl) 1 (by rw[fi,lr];omega);rw[show((1:Nat):Int)=1 from rfl] at ec;rw[ec,<- mV];obtain⟨H5,qN,s5,eq⟩:=ZN (o:=.lst ((((List.range n).map fA).drop 1).map V.bl)) hq;rw[qN];refine⟨_,rfl,_,rfl,l1,_,_,_,rfl,rfl,nV (s5 _ _ g1),yD (by omega),sz1,fun q2 hq2=>?_⟩;obtain⟨H6,qN,s6,eq2⟩:=ZN (o:=.lst [.bl (fA (n-p))]) hq2;rw[qN];refine⟨q,q2,_,_,rfl,rfl,s6 _ _ eq,eq2,by rw[fi,g6,lr,ft];show _+1<=_;omega,fun D hD=>?_⟩;refine kk _ D ((s5.trans s6).trans (Zi hD)) ((s5.trans s6).free hD) ?_;rw[Zd,<- pA n (fh _),<- Zbu n1,fQ];rfl
  ·refine⟨_,rfl,rfl,_,rfl,Z4 (fun q=>(by decide +kernel:¬(("before" : Str) = "not")) (V.str.inj q)) ?_⟩;refine⟨_,rfl,rfl,_,rfl,Z4 (fun q=>(by decide +kernel:¬(("before" : Str) = "and")) (V.str.inj q)) ?_⟩;refine⟨_,rfl,rfl,_,rfl,Z4 (fun q=>(by decide +kernel:¬(("before" : Str) = "next")) (V.str.inj q)) ?_⟩;refine⟨_,rfl,rfl,_,rfl,XT rfl ?_⟩;refine⟨sz1,fun q hq=>?_⟩;obtain⟨H5,qN,s5,eq⟩:=ZN (o:=.lst [.bl false]) hq;rw[qN];refine⟨_,rfl,_,rfl,_,rfl,l1,_,rfl,nV (s5 _ _ g1),fun q2 hq2=>?_⟩;rw[JB _ (by rw[fi,lr];omega),fi,lr,<- iL];obtain⟨H6,qN,s6,eq2⟩:=ZN (o:=.lst ((((List.range n).map fA).take (n-1)).map V.bl)) hq2;rw[qN];refine⟨q,q2,_,_,rfl,rfl,s6 _ _ eq,eq2,by rw[fi,fZ,lr,ft];show 1+_<=_;omega,fun D hD=>?_⟩;refine kk _ D ((s5.trans s6).trans (Zi hD)) ((s5.trans s6).free hD) ?_;rw[Zd,<- Zdc n1,fQ];rfl
  ·refine⟨_,rfl,rfl,_,rfl,Z4 (fun q=>(by decide +kernel:¬(("until" : Str) = "not")) (V.str.inj q)) ?_⟩;refine⟨_,rfl,rfl,_,rfl,Z4 (fun q=>(by decide +kernel:¬(("until" : Str) = "and")) (V.str.inj q)) ?_⟩;refine⟨_,rfl,rfl,_,rfl,Z4 (fun q=>(by decide +kernel:¬(("until" : Str) = "next")) (V.str.inj q)) ?_⟩;refine⟨_,rfl,rfl,_,rfl,Z4 (fun q=>(by decide +kernel:¬(("until" : Str) = "before")) (V.str.inj q)) ?_⟩;refine⟨_,rfl,rfl,_,rfl,XT rfl ?_⟩;refine⟨_,rfl,_,rfl,_,rfl,l1,l2,_,_,fA,fB,n,n-p,rfl,g1,g2,lr fA,lr fB,hlen,by omega,fun k hk=>VJ hk,fun k hk=>VJ hk,?_,fun H5 D s5 D0 e5=>kk H5 D s5 D0 e5⟩;rw[show n-(n-p)=p by omega];exact vK p1 pn pA pB
  ·refine⟨_,rfl,rfl,_,rfl,Z4 (fun q=>(by decide +kernel:¬(("since" : Str) = "not")) (V.str.inj q)) ?_⟩;refine⟨_,rfl,rfl,_,rfl,Z4 (fun q=>(by decide +kernel:¬(("since" : Str) = "and")) (V.str.inj q)) ?_⟩;refine⟨_,rfl,rfl,_,rfl,Z4 (fun q=>(by decide +kernel:¬(("since" : Str) = "next")) (V.str.inj q)) ?_⟩;refine⟨_,rfl,rfl,_,rfl,Z4 (fun q=>(by decide +kernel:¬(("since" : Str) = "before")) (V.str.inj q)) ?_⟩;refine⟨_,rfl,rfl,_,rfl,Z4 (fun q=>(by decide +kernel:¬(("since" : Str) = "until")) (V.str.inj q)) ?_⟩;refine⟨_,rfl,P,rfl,⟨_,nV eP⟩,fun D hD=>?_⟩;refine Y0 (K:=K) (L3.upTo (n:Int)) V.int (fun x=>.bl (Xu fA fB x.toNat)) hD (nV eP) (by unfold L3.upTo;rw[fi,fY,ft];omega) ?_ ?_
   ·intro x hx G N sG hN;obtain⟨k,hk,rfl⟩:=JW hx;have go:=hN G (.refl _);rw[ge] at go;refine⟨_,rfl,_,rfl,_,rfl,l1,l2,_,_,k,rfl,sG _ _ g1,sG _ _ g2,by rw[lr];exact hk,by rw[lr];exact hk,?_⟩;rw[vJ (f':=fA) (s':=fB) (fun i hi=>Jo (by omega)) (fun i hi=>Jo (by omega))];exact go
   ·intro H5 e1 s5;exact kk H5 D s5 hD (by rw[e1];exact fI _ (fI _ (JO fun k=>Xu fA fB k)))
theorem Za4(h:∀w,c=.many w->w = "and"):VP c=true↔Zy c∈(["next","until","before","since"]:List Str):=by
 cases c with
 |op w=>show decide (w∈Zex)=true↔w∈_;rw[lQ];rfl
 |yes=>exact⟨fun h=>(by cases h),fun h=>absurd h (show("yes" : Str)∉_ by decide +kernel)⟩
 |sign z=>exact⟨fun h=>(by cases h),fun h=>absurd h (show("sign" : Str)∉_ by decide +kernel)⟩
 |wit m=>exact⟨fun h=>(by cases h),fun h=>absurd h (show("within" : Str)∉_ by decide +kernel)⟩
 |many w=>rw[h w rfl];exact⟨fun h=>(by cases h),fun h=>absurd h (show("and" : Str)∉_ by decide +kernel)⟩
theorem Jd{t:Tr}(hc:isC t=true):VP t.lb=true↔Zy t.lb∈(["next","until","before","since"]:List Str):=Za4 fun w e=>by
 obtain⟨c,ks⟩:=t
 change c=_ at e
 subst e;rw[YV] at hc;unfold Us at hc;simp at hc;exact hc.2.1
theorem ZcH{ring:List Int}:∀{c k:Nat},k<ring.length*c->((List.replicate c ring).flatten)[k]?=some (ring.getD (k%ring.length) 0)
 |0,k,h=>by omega
 |c+1,k,h=>by
  rw[mh,i8]
  by_cases q:k<ring.length
  ·rw[fW q,Nat.mod_eq_of_lt q,iT,fj q];rfl
  ·rw[gf (by omega),ZcH (by rw[Nat.mul_succ] at h;omega),Nat.mod_eq_sub_mod (by omega:ring.length<=k)]
theorem QL{c:Nat}:((List.replicate c ring).flatten).length=ring.length*c:=by
 rw[List.length_flatten,List.map_replicate,List.sum_replicate_nat,Nat.mul_comm]
theorem Zfo{c k:Nat}(h:k<way.length+ring.length*c):(way++(List.replicate c ring).flatten)[k]?=some (XD way ring k):=by
 unfold XD
 by_cases q:k<way.length
 ·rw[if_pos q,fW q,iT,fj q];rfl
 ·rw[if_neg q,gf (by omega),ZcH (by omega)]
def vH(K:W.Frag)(a:Adr):Sp:=fun vs H Q _=>ZfC fun(w rn sl:Addr) (v:V) (m many:Nat) (t:Tr) (d:WD) (st:Tr->List Int) (way ring:List Int)=>ZfS (vs=[.ref w,.ref rn,v,.ref sl,.int (many:Nat)]) (Z0 a.C_World H w d) (qm H rn d.signs.length way ring) (At K m H v t) (m<8) (isC t=true) (psz t<=1000) (dpt t<=60) ((way++ring).length<=31) (many<=50000) ((∀u∈Zp t,u.lb=.op "some" -> ∃(ss:List (Tr×Addr)) (i:Nat) (l:Addr),Vd K H sl ss/\ss[i]?=some (u,l)/\(∀(j:Nat) e,j<i->ss[j]?=some e->e.1≠u)/\H l=some (.lst ((st u).map V.int)))) (∀H' q,Ze H H'->H q=none->H' q=some (.lst (((List.range many).map (Z5 d st (XD way ring) t)).map V.bl))->Q (.ref q) H')
theorem VI:Okd P w K mg base a 11 a.y52 a.z52 eI vH:=fun T hw=>by
 have aT:=qh (P:=P) (w:=w) (base:=base) T hw 8;refine okX T.aS.f Xm fun cR A outer s H E hr=>?_;intro X
 let d1:Rdg X YE [4,0,0]:=⟨_,(Zh (Yq (XR gv gH gI Z1 (pv 8) (Za (ZX (Za (pv 9) (Za (ZB T.bS (Jk T hw) hr rfl rfl (Zq (pv 0) (Zq (pv 3) (Zq (pv 7) (Zq (pv 8) (Zq (pv 9) (Zq (ZR Vh (Zl (Zu (K:=K) rfl) rfl T.ay oh (Za (pv 7) Zb rfl)) (Zl (Zu (K:=K) rfl) rfl T.ay oh (Za (Zv (ZP (K:=K) rfl) (pv 1) Zf (fun _ _=>rfl)) Zb rfl))) Zb rfl) rfl) rfl) rfl) rfl) rfl)) Zb rfl) rfl)) Zb rfl)) rfl))⟩
 let d2:Rdg X YE [4]:=⟨_,(Zc (XF gw rfl (ZE (K:=K) rfl (pv 5)) (Zo (i:=9) Xm.nd rfl (.inl rfl)) d1.2) (Zh (Zm (Yd (Xi (K:=K) rfl) (ZB T.bf (Uk T hw) hr rfl rfl (Za (pv 8) (Za (pv 2) Zb rfl) rfl)) YH (Z9 (pv 4))))))⟩
 let d3:Rdg X YE [3]:=⟨_,(Zc (Zn (i:=8) Xm.nd rfl (.inl rfl) (ZY Zb) rfl (.inl rfl)) d2.2)⟩
 let d4:Rdg X YE [2]:=⟨_,(Zc (Zn (i:=7) Xm.nd rfl (.inl rfl) (ZR qy (Zv (ZP (K:=K) rfl) (pv 1) Zf (fun _ _=>rfl)) (ZR ZfD (Zv (ZP (K:=K) rfl) (pv 1) Zf (fun _ _=>rfl)) (ZR XC (ZR XC Zf (Zl (Zu (K:=K) rfl) rfl T.ay oh (Za (pv 6) Zb rfl))) (ZR U4 (pv 4) (Zl (Zu (K:=K) rfl) rfl T.ay oh (Za (Zv (ZP (K:=K) rfl) (pv 1) Zf (fun _ _=>rfl)) Zb rfl)))))) rfl (.inl rfl)) d3.2)⟩
 let d5:Rdg X YE [1]:=⟨_,(Zc (Y8 (i:=6) Xm.nd rfl rfl (Nc:=["_law_part"]) (ix:=[none]) (ZL.of (by decide +kernel:ZS (Zg YE) zb _ _ _=true)) rfl (ZE (K:=K) rfl (pv 5)) (fun _ _ _ _ _=>(Zo (i:=0) (show List.Nodup (["_law_part"]:List Str) by decide +kernel) rfl (.inl rfl))) (fun _ _ _ _ _=>(WE (Zw (WT (K:=K) rfl) (Zv (ZP (K:=K) rfl) (pv 0) Zf (fun _ _=>rfl)) (ZX (Zq Zz (Zq Zz (Zq Zz (Zq Zz Zb rfl) rfl) rfl) rfl)) (by with_unfolding_all rfl)))) (fun _ _ _ _ _=>(pv 0))) d4.2)⟩
 intro vs Q h;obtain⟨w,rn,sl,v,m,many,t,d,st,way,ring,rfl,hw0,hrun,hat,hm8,hc,hz,hdp,hl31,hmany,hsets,kk⟩:=h;refine⟨_,(Zc (Zn (i:=5) Xm.nd rfl (.inl rfl) (Wh aT (rmL hr rfl) rfl T.ai.g T.ai.f.kp T.ai.n .nil YK (Za (pv 2) Zb rfl)) rfl (.inl rfl)) d5.2),?_⟩;refine⟨_,rfl,v,t,m,rfl,by omega,hat,hc,by omega,by omega,fun H1 L us s1 L0 hL aL=>?_⟩;obtain⟨ts,ets⟩:=jo t;have nps:(Zk [] (Zp t)).Nodup:=YD iy;have ord:=Jl t;have dpp:=Zag t;have lps:(Zk [] (Zp t)).length<=1000:=by
  have:=X5 nps (l₂:=Zp t) (fun x hx=>by rcases ZJ.mp hx with h|h;cases h;exact h);have:=Vf _ (fh (psz t));omega
 have inB:∀x∈Zk [] (Zp t),x∈Zp t:=fun x hx=>by rcases ZJ.mp hx with h|h;cases h;exact h
 have isCs:∀x∈Zk [] (Zp t),isC x=true:=fun x hx=>V3 _ (fh _) hc (YQ _ (fh _) (inB x hx));generalize Zk [] (Zp t)=ps at *;have lus:us.length=ps.length:=aL.1;refine⟨_,rfl,L,rfl,⟨_,nV hL⟩,fun D hD=>?_⟩;refine YJ (J:=Itl K L) (n:=us.length) (fun j U G=>∃(y:Option V) (xs:List V),U=[y]/\Ze H1 G/\G D=some (.lst xs)/\xs.length=((ps.take j).filter fun u=>VP u.lb).length) ?_ ?_ ?_ ?_ ?_
 ·exact⟨_,[],rfl,Zi hD,Zd,rfl⟩
 ·rintro i U G hi ⟨y,xs,rfl,sG,_⟩;exact⟨_,_,nV (sG _ _ hL),fj hi⟩
 ·rintro U G ⟨y,xs,rfl,sG,_⟩;exact⟨_,nV (sG _ _ hL),fh _⟩
 ·rintro i x U G0 G hi ⟨y,xs,rfl,sG,gD,lx⟩ ⟨rfl,hx⟩ N N0 hN hN0;have ex:=hx _ (nV (sG _ _ hL));have ep:ps[i]?=some (ps[i]'(by omega)):=fj (by omega);have au:=aL.2 i x _ ex ep;have tk:ps.take (i+1)=ps.take i++[ps[i]'(by omega)]:=by rw[lD,ep];rfl
  have cu:=isCs _ (fN (show i<ps.length by omega));generalize (ps[i]'(by omega))=u at ep au tk cu;obtain⟨m',rfl⟩:∃m',m=m'+1:=by cases m with|zero=>exact au.elim|succ m'=>exact⟨m',rfl⟩
  obtain⟨ax,us0,rfl,sh0,_⟩:=au;obtain⟨xs0,ex0⟩:=sh0.tup;refine⟨_,rfl,ax,_,_,_,rfl,rfl,nW sG _ _ _ ex0,Zj (j:=0) rfl,sz4,fun q hq=>?_⟩;obtain⟨G1,qN,u1,eq⟩:=ZN (o:=.tup [.str "next",.str "until",.str "before",.str "since"]) hq;rw[qN];refine⟨q,_,rfl,.inr (nX eq),rfl,rfl,_,rfl,?_⟩;cases hk:VP u.lb with
  |true=>
   refine qg (ss:=["next","until","before","since"]) ((Jd cu).mp hk) ⟨_,rfl,?_⟩;refine hN _ _ G1 _ (u1 _ _ gD) (by rw[lx,ft];have:=lX (fun u:Tr=>VP u.lb) (ps.take i);rw[fZ] at this;omega) ⟨_,xs++[_],rfl,(Zs.upd (Ze.x (sG.trans u1))).same hD,by rw[Zd],?_⟩;rw[tk,my,fu,fu,lx,lK (by exact hk)];rfl
  |false=>
   refine XO (ss:=["next","until","before","since"]) (fun z=>by rw[(Jd cu).mpr z] at hk;cases hk) ?_;refine hN0 _ G1 ⟨_,xs,rfl,sG.trans u1,u1 _ _ gD,?_⟩;rw[tk,my,fu,lx,lN (by rw[hk];exact fV)];rfl
 rintro U G ⟨y,xs,rfl,sG,gD,lx⟩;rw[lus,iH] at lx;rw[<- lx] at dpp;have lx1:xs.length<=1000:=by rw[lx];exact fK (lX _ _) lps
 obtain⟨⟨W,R,hrn,hW,hR⟩,rne,rb⟩:=hrun;have s2:=s1.trans sG;have p1:1<=ring.length:=iJ.mpr rne;rw[fu] at hl31;refine⟨_,rfl,rn,_,_,_,rfl,rfl,nX (s2 _ _ hrn),Zj (j:=0) rfl,?_⟩;refine⟨_,rfl,rn,_,_,_,rfl,rfl,nX (s2 _ _ hrn),Zj (j:=1) rfl,?_⟩;refine⟨_,rfl,.inl ⟨D,_,rfl,.inl (nV gD),?_⟩⟩;refine⟨_,_,rfl,rfl,_,rfl,_,rfl,rn,_,_,_,rfl,rfl,nX (s2 _ _ hrn),Zj (j:=1) rfl,.inl ⟨R,_,rfl,.inl (nV (s2 _ _ hR)),?_⟩⟩;rw[fi];have ei:(3:Int)+(xs.length:Nat)+(many:Int)/(ring.length:Nat)=((3+xs.length+many/ring.length:Nat):Int):=by simp
 have cm:ring.length*(many/ring.length)<=many:=Nat.mul_div_le _ _;have cm2:many<ring.length*(many/ring.length)+ring.length:=by have:=Nat.div_add_mod many ring.length;have:=Nat.mod_lt many p1;omega
 have lrc:ring.length*(3+xs.length+many/ring.length)=ring.length*3+ring.length*xs.length+ring.length*(many/ring.length):=by rw[iD,iD]
 have lrx:ring.length*xs.length<=31*1000:=Nat.mul_le_mul (by omega) lx1;have dqq:ring.length*Vu t<=ring.length*xs.length:=l3 _ dpp;refine⟨_,_,rfl,rfl,?_,_,_,rfl,rfl,R,_,_,rfl,rfl,s2 _ _ hR,?_,?_,?_,fun A1 hA1=>?_⟩
 ·exact⟨by omega,by omega⟩
 ·rw[ei];exact Int.le_trans (by decide) (Int.natCast_nonneg _)
 ·rw[ei];have:=Nat.div_le_self many ring.length;omega
 ·rw[ei,ge,fi,lrc,ft];omega
 rw[ei,ge,show(List.replicate (3+xs.length+many/ring.length) (ring.map V.int)).flatten=((List.replicate (3+xs.length+many/ring.length) ring).flatten).map V.int by rw[List.map_flatten,List.map_replicate]];obtain⟨G1,qN,u1,eA1⟩:=ZN (o:=.lst (((List.replicate (3+xs.length+many/ring.length) ring).flatten).map V.int)) hA1;rw[qN];refine⟨W,A1,_,_,rfl,rfl,u1 _ _ (s2 _ _ hW),eA1,by rw[fi,fi,QL,lrc,ft];omega,fun RM hRM=>?_⟩;rw[<- fQ];obtain⟨G2,qN,u2,eRM⟩:=ZN (o:=.lst ((way++(List.replicate (3+xs.length+many/ring.length) ring).flatten).map V.int)) hRM;rw[qN];have hrs:∀k,k<way.length+ring.length*(3+xs.length+many/ring.length)->(way++(List.replicate (3+xs.length+many/ring.length) ring).flatten)[k]?=some (XD way ring k):=fun k hk=>Zfo hk;have hrl:(way++(List.replicate (3+xs.length+many/ring.length) ring).flatten).length=way.length+ring.length*(3+xs.length+many/ring.length):=by rw[fu,QL]
 have hrb:∀x∈(way++(List.replicate (3+xs.length+many/ring.length) ring).flatten),0<=x/\x<(d.signs.length:Nat):=fun x hx=>by
  rcases fG.mp hx with h|h
  ·exact rb x (gS _ h)
  ·obtain⟨l,h1,h2⟩:=iz.mp h;rw[List.mem_replicate] at h1;rw[h1.2] at h2;exact rb x (gi _ h2)
 rw[<- hrl] at hrs;rw[lrc] at hrl;generalize (way++(List.replicate (3+xs.length+many/ring.length) ring).flatten)=rs at eRM hrs hrl hrb;have s3:Ze H1 G2:=sG.trans (u1.trans u2);have s4:Ze H G2:=s1.trans s3;have per:∀u∈ps,∀k,rs.length<=k->Z5 d st (XD way ring) u k=Z5 d st (XD way ring) u (k-ring.length):=fun u hu k hk=>by
  refine QN rne m u ?_ (isCs u hu) k ?_
  ·obtain⟨j,hj,ej⟩:=gu hu;have:=aL.2 j (us[j]'(by omega)) u (fj (by omega)) (by rw[fj hj,ej]);exact this.ok
  ·have:=l3 ring.length (JF m hat.ok (inB u hu));rw[iD];omega
 clear eA1 hA1 hRM gD hD u1 u2 sG s2 dpp lx;refine⟨by decide,fun RW hRW=>?_⟩;obtain⟨G3,qN,u3,eRW⟩:=ZN (o:=.lst []) hRW;rw[qN];refine⟨_,rfl,L,rfl,⟨_,nV (u3 _ _ (s3 _ _ hL))⟩,?_⟩
 let J1:Nat->L2.St->Hp->Prop:=fun i U G=>Ex2 fun(z9:Option V) (es:List (Tr×Addr))=>Cj6 (U=[some (.ref w),some (.ref rn),some v,some (.ref sl),some (.int (many:Nat)),some (.ref L),some (.ref D),some (.ref RM),some (.ref RW),z9]) (Ze G2 G) (Vd K G RW es) (es.length=i) ((∀(j:Nat) e,es[j]?=some e->ps[j]?=some e.1)) (∀e∈es,e.2≠RW/\G e.2=some (.lst (((List.range rs.length).map (Z5 d st (XD way ring) e.1)).map V.bl)))
 refine Y4 (J:=Itl K L) (n:=us.length) J1 ?_ ?_ ?_ ?_ ?_
 ·exact⟨_,[],rfl,u3,⟨[],eRW,rfl,fun j x e h=>by simp at h⟩,rfl,fun j e h=>by simp at h,fun e h=>by cases h⟩
 ·rintro i U F hi ⟨z9,es,rfl,sF,_⟩;exact⟨_,_,nV (sF _ _ (s3 _ _ hL)),fj hi⟩
 ·rintro U F ⟨z9,es,rfl,sF,_⟩;exact⟨_,nV (sF _ _ (s3 _ _ hL)),fh _⟩
 ·rintro i x U F0 F hi ⟨z9,es,rfl,sF,hpa,les,hes,hrow⟩ ⟨rfl,hx⟩;have ex:=hx _ (nV (sF _ _ (s3 _ _ hL)));have ep:ps[i]?=some (ps[i]'(by omega)):=fj (by omega);have au:=aL.2 i x _ ex ep;have um:=fN (show i<ps.length by omega);generalize (ps[i]'(by omega))=u at ep au um;obtain⟨m',rfl⟩:∃m',m=m'+1:=by cases m with|zero=>exact au.elim|succ m'=>exact⟨m',rfl⟩
  have sHF:=s4.trans sF;obtain⟨xs2,hx2,lx2,hp2⟩:=id hpa;refine⟨_,rfl,.inl ⟨rfl,_,nV hx2⟩,_,rfl,_,rfl,_,rfl,_,rfl,_,rfl,_,rfl,_,rfl,.inl ⟨RM,_,rfl,.inl (nV (sF _ _ eRM)),_,rfl,rn,_,_,_,rfl,rfl,nX (sHF _ _ hrn),Zj (j:=1) rfl,.inl ⟨R,_,rfl,.inl (nV (sHF _ _ hR)),_,_,rfl,rfl,?_⟩⟩⟩;rw[fi,fi];refine⟨w,sl,RM,RW,x,d,st,XD way ring,rs,es,u,m',ring.length,by rw[show((rs.length-ring.length:Nat):Int)=(rs.length:Int)-(ring.length:Int) by omega];rfl,⟨hw0.mono sHF,sF _ _ eRM,by omega,hrs,hrb,au.mono (nW (s3.trans sF)),isCs u um,p1,by omega,hpa,fun y hy=>?_,fun y hy=>?_,fun hs=>?_⟩,fun F1 D2 v1 D20 e2=>?_⟩
  ·obtain⟨i',hi',ei'⟩:=ord i u ep y hy;have hl:i'<es.length:=by omega
   have e1:=hes i' _ (fj hl);rw[ei'] at e1;have e1':y=(es[i']'hl).1:=fO e1;have hm:=hrow _ (fN hl);refine⟨i',(es[i']'hl).2,by rw[fj hl,e1'],fun j e hj he q=>?_,by rw[e1'];exact hm.2⟩;have e3:=hes j e he;rw[q] at e3;have a1:=fD.mp e3;have a2:=fD.mp ei';have:=(iM nps).mp (a1.2.trans a2.2.symm);omega
  ·obtain⟨i',hi',ei'⟩:=ord i u ep y hy;exact per y (fU ei')
  ·obtain⟨ss,i',l,h1,h2,h3,h4⟩:=hsets u (inB u um) hs;exact⟨ss,i',l,h1.mono sHF,h2,h3,sHF _ _ h4⟩
  refine⟨sz2,fun q hq=>?_⟩;obtain⟨F2,qN,v2,eq⟩:=ZN (o:=.tup [x,.ref D2]) hq;rw[qN];have v12:=v1.trans v2;have hx3:=v12 _ _ hx2;refine⟨RW,_,_,rfl,rfl,hx3,by rw[lx2,les,ft];omega,?_⟩;have tT:YX F2 (upd F2 RW (.lst (xs2++[.ref q]))):=(Zs.upd (Ze.x (Ze.refl F2))).tup hx3;have tF:=(nW v12).trans tT;have nD:D2≠RW:=fun z=>by rw[z,hx2] at D20;cases D20
  refine⟨_,es++[(u,D2)],rfl,(Zs.upd (Ze.x (sF.trans v12))).same hRW,⟨xs2++[.ref q],Zd,by rw[fu,fu,lx2];rfl,fun j y e hj he=>?_⟩,by rw[fu,les];rfl,fun j e he=>?_,fun e he=>?_⟩
  ·by_cases cj:j<xs2.length
   ·rw[fW cj] at hj;rw[fW (by omega)] at he;obtain⟨b',w',n',q1,q2,q3,q4⟩:=hp2 j y e hj he;exact⟨b',w',n',q1,tF _ _ _ q2,q3.mono tF,q4⟩
   ·have lj:=(fD.mp hj).1;rw[fu,gn] at lj;obtain rfl:j=xs2.length:=by omega
    rw[gf (fh _),gN] at hj;rw[lx2,gf (fh _),gN] at he;cases hj;cases he;exact⟨q,x,m'+1,rfl,tT _ _ _ (nX eq),(au.mono (nW (s3.trans sF))).mono tF,fK (UQ _ (fh _) (YQ _ (fh _) (inB u um))) hdp⟩
  ·by_cases cj:j<es.length
   ·rw[fW cj] at he;exact hes j e he
   ·have lj:=(fD.mp he).1;rw[fu,gn] at lj;obtain rfl:j=es.length:=by omega
    rw[gf (fh _),gN] at he;cases he;rw[les];exact ep
  ·rcases fG.mp he with he|he
   ·obtain⟨h1,h2⟩:=hrow e he;exact⟨h1,by rw[Zx h1];exact v12 _ _ h2⟩
   ·rw[fM] at he;subst he;exact⟨nD,by rw[Zx nD];exact v2 _ _ e2⟩
 rintro U F ⟨z9,es,rfl,sF,hpa,les,hes,hrow⟩;have lpt:ps.length=ts.length+1:=by rw[ets,fu];rfl
 have hl:ts.length<es.length:=by omega
 have e1:=hes _ _ (fj hl);have et:ps[ts.length]?=some t:=by rw[ets,gf (fh _),gN];rfl
 rw[et] at e1;have e1':t=(es[ts.length]'hl).1:=fO e1;have hm:=(hrow _ (fN hl)).2;rw[<- e1'] at hm;refine⟨_,rfl,_,rfl,RW,es,v,t,m,ts.length,(es[ts.length]'hl).2,rfl,hpa,hat.mono (nW (s4.trans sF)),by rw[fj hl,e1'],fun j e hj he q=>?_,?_⟩
 ·have e3:=hes j e he;rw[q] at e3;have a1:=fD.mp e3;have a2:=fD.mp et;have:=(iM nps).mp (a1.2.trans a2.2.symm);omega
 refine⟨_,rfl,_,rfl,_,_,rfl,nV hm,fun q hq=>?_⟩;rw[VY,<- iL,<- iL,List.take_range,mH (by omega)];exact kk _ q ((s4.trans sF).trans (Zi hq)) ((s4.trans sF).free hq) Zd
theorem At.head{m:Nat}{t:Tr}(h:At K m H v t):∃a xs,v=.ref a/\SqT K H a (.str (Zy t.lb)::xs):=by
 cases m with
 |zero=>exact h.elim
 |succ m=>
  obtain⟨a,vs,rfl,sh,_⟩:=h;cases e:t.lb with
  |yes=>rw[e] at sh;exact⟨a,[],rfl,sh.2⟩
  |sign z=>rw[e] at sh;exact⟨a,_,rfl,sh.2⟩
  |op w=>rw[e] at sh;exact⟨a,_,rfl,sh⟩
  |wit j=>rw[e] at sh;exact⟨a,_,rfl,sh⟩
  |many w=>rw[e] at sh;obtain⟨b,h1,_⟩:=sh;exact⟨a,_,rfl,h1⟩
theorem Jy{t:Tr}(hc:isC t=true):Zy t.lb = "some" ↔ t.lb=.op "some" := by
 obtain⟨c,ks⟩:=t
 show Zy c = "some" ↔ c=.op "some"
 cases c with
 |yes=>exact⟨fun z=>absurd (show("yes" : Str) = "some" from z) (by decide +kernel),nofun⟩
 |sign z=>exact⟨fun z=>absurd (show("sign" : Str) = "some" from z) (by decide +kernel),nofun⟩
 |op w=>exact⟨fun z=>fI Lb.op z,fun z=>Lb.op.inj z⟩
 |wit m=>exact⟨fun z=>absurd (show("within" : Str) = "some" from z) (by decide +kernel),nofun⟩
 |many w=>
  have hw:w = "and" := by
   rw[YV] at hc;unfold Us at hc;simp at hc;exact hc.2.1
  subst hw;exact⟨fun z=>absurd (show("and" : Str) = "some" from z) (by decide +kernel),nofun⟩
def trY:Tr:=.node (.op "some") [.node .yes []]
structure WU(K:W.Frag)(H0 G:Hp)(s SL:Addr)(st:Tr->List Int)(ss:List Tr)(xs:List V):Prop where
 hs:G SL=some (.lst xs)
 len:xs.length=ss.length
 it:∀(i:Nat) v t,xs[i]?=some v->ss[i]?=some t->∃(b l:Addr) (e:V) (n:Nat),v=.ref b/\SqT K G b [e,.ref l]/\At K n G e t/\G l=some (.lst ((st t).map V.int))/\l≠s/\l≠SL/\H0 l=none
 short:∀t∈ss,(st t).length<=1000/\dpt t<=60
 nd:ss.Nodup
theorem WU.step{s SL:Addr}{xs ys:List V}(h:WU K H0 G s SL st ss xs)(hs:G s=some (.lst ys))(n:SL≠s)(x:Zs s G G'):WU K H0 G' s SL st ss xs:=by
 have u:=Zs.tup x hs;refine⟨x _ _ n h.hs,h.len,fun i v t a b=>?_,h.short,h.nd⟩;obtain⟨b,l,e,n,q1,q2,q3,q4,q5,q6⟩:=h.it i v t a b;exact⟨b,l,e,n,q1,u _ _ _ q2,q3.mono u,x _ _ q5 q4,q5,q6⟩
theorem ZdN{xs:List α}{ss:List β}{p:α×β->Bool}{x:α}{t:β}(h1:(((xs.zip ss).filter p).map Prod.fst)[i]?=some x)(h2:(((xs.zip ss).filter p).map Prod.snd)[i]?=some t):p (x,t)=true/\∃j:Nat,xs[j]?=some x/\ss[j]?=some t:=by
 rw[fw] at h1 h2;obtain⟨e,he,rfl⟩:=iw.mp h1;rw[he] at h2;cases h2;have hm:=fU he;rw[iX] at hm;obtain⟨j,hj⟩:=mB.mp hm.1;rw[lg] at hj;exact⟨hm.2,j,hj⟩
theorem ZdH{xs:List α}{ss:List β}(h:xs.length=ss.length):(xs.zip ss).map Prod.snd=ss:=List.map_snd_zip (by omega)
theorem ZdD{xs:List α}{ss:List β}(h:xs.length=ss.length):(xs.zip ss).map Prod.fst=xs:=List.map_fst_zip (by omega)
theorem jO{xs:List α}{ss:List β}{q:β->Bool}(h:xs.length=ss.length){t:β}:t∈((xs.zip ss).filter fun e=>q e.2).map Prod.snd↔t∈ss/\q t=true:=by
 rw[fX];constructor
 ·rintro⟨e,he,rfl⟩;rw[iX] at he;exact⟨(i6 (a:=e.1) (b:=e.2) he.1).2,he.2⟩
 ·rintro⟨h1,h2⟩;obtain⟨j,hj,rfl⟩:=gu h1;refine⟨(xs[j]'(by omega),ss[j]),iX.mpr ⟨?_,h2⟩,rfl⟩;exact mB.mpr ⟨j,by rw[lg];exact⟨fj (by omega),fj hj⟩⟩
theorem WU.cut{s SL:Addr}{xs:List V}(h:WU K H0 G s SL st ss xs)(q:Tr->Bool)(x:Ze G G')(hD:G' D=some (.lst (((xs.zip ss).filter fun e=>q e.2).map Prod.fst)))(D0:G D=none):WU K H0 G' s D st (((xs.zip ss).filter fun e=>q e.2).map Prod.snd) (((xs.zip ss).filter fun e=>q e.2).map Prod.fst):=by
 refine⟨hD,by rw[fi,fi],fun i v t a b=>?_,fun t ht=>h.short t ((jO h.len).mp ht).1,?_⟩
 ·obtain⟨_,j,h1,h2⟩:=ZdN a b;obtain⟨b,l,e,n,q1,q2,q3,q4,q5,q6,q7⟩:=h.it j v t h1 h2;exact⟨b,l,e,n,q1,nW x _ _ _ q2,q3.mono (nW x),x _ _ q4,q5,(fun z=>by rw[z,D0] at q4;cases q4),q7⟩
 ·have:=((List.filter_sublist (p:=fun e:V×Tr=>q e.2) (l:=xs.zip ss)).map Prod.snd);rw[ZdH h.len] at this;exact this.nodup h.nd
open Classical in
theorem WU.add{s SL q l:Addr}{xs:List V}{m:Nat}{e:V}{u:Tr}(h:WU K H0 G s SL st ss xs)(hu:u∉ss)(hq:G q=some (.tup [e,.ref l]))(he:At K m G e u)(hl:G l=some (.lst (rs.map V.int)))(n1:l≠s)(n2:l≠SL)(l0:H0 l=none)(lr:rs.length<=1000)(du:dpt u<=60):WU K H0 (upd G SL (.lst (xs++[.ref q]))) s SL (fun x=>if x=u then rs else st x) (ss++[u]) (xs++[.ref q]):=by
 have tU:=WQ (o:=.lst (xs++[.ref q])) h.hs;refine⟨Zd,by rw[fu,fu,h.len];rfl,fun i v' t' h1 h2=>?_,fun x hx=>?_,?_⟩
 ·by_cases ci:i<xs.length
  ·rw[fW ci] at h1;rw[fW (by rw[<- h.len];exact ci)] at h2;obtain⟨b',l',e',n',q1,q2,q3,q4,q5,q6,q7⟩:=h.it i v' t' h1 h2;have hne:t'≠u:=fun z=>hu (by rw[<- z];exact fU h2);refine⟨b',l',e',n',q1,tU _ _ _ q2,q3.mono tU,?_,q5,q6,q7⟩;rw[Zx q6,if_neg hne];exact q4
  ·have hi2:=(fD.mp h1).1;rw[fu,gn] at hi2;have ei:i=xs.length:=by omega
   rw[gf (by omega),ei,gN] at h1;rw[gf (by rw[<- h.len];omega),ei,h.len,gN] at h2;cases h1;cases h2;refine⟨q,l,e,m,rfl,tU _ _ _ (nX hq),he.mono tU,?_,n1,n2,l0⟩;rw[Zx n2,if_pos rfl];exact hl
 ·rcases fG.mp hx with hx|hx
  ·have hne:x≠u:=fun z=>hu (by rw[<- z];exact hx);rw[if_neg hne];exact h.short x hx
  ·rw[fM] at hx;rw[if_pos hx,hx];exact⟨lr,du⟩
 ·rw[li];exact⟨h.nd,by simp,fun x hx y hy z=>by rw[fM] at hy;exact hu (by rw[<- hy,<- z];exact hx)⟩
def jJ(K:W.Frag)(a:Adr):Sp:=fun vs H Q _=>Ex6 fun(s:Addr) (v:V) (n m many:Nat) (t:Tr)=>Zc8 (vs=[.ref s,v,.int (many:Nat)]) (Xa H s n) (n<=10000) (many<=20) (At K m H v t) (m<8) (isC t=true) (psz t<=200) (dpt t<=60) (∀H' sl st ss xs,Zs s H H'->H sl=none->WU K H H' s sl st ss xs->(∀x∈ss,x=trY\/x∈Zp t)->(∀x∈Zk [] (Zp t),x.lb=.op "some" -> x∈ss)->(∀x∈ss,∀y∈st x,0<=y/\y<(20:Int))->Q (.ref sl) H')
theorem kj:Okd P w K mg base a 11 a.y54 a.z54 eJ jJ:=fun T hw=>by
 have aT:=qh (P:=P) (w:=w) (base:=base) T hw 8;refine okX T.bL.f WZ fun cR A outer s H E hr=>?_;intro X
 let d1:Rdg X YY [1,0,0,0,1]:=⟨_,(Zh (Yq (XR gv gH gI Z1 (pv 3) (Za (ZX (Za (pv 4) (Za (ZU (Nc:=eY) (ix:=[none,some 0]) (ZL.of (by decide +kernel:ZS (Zg YY) UH _ _ _=true)) rfl (Xo rfl T.aJ (Za (pv 2) Zb rfl)) (fun _ _ _ _ _=>(Zo (i:=0) (show List.Nodup eY by decide +kernel) rfl (.inl rfl))) (fun _ _ _ _ _=>(WE (Zw YC (ZB T.aa (ZH T hw) hr rfl rfl (Za (pv 1) (Za Zf Zb rfl) rfl)) Zf (ZK _)))) (fun _ _ _ _ _=>(pv 0))) Zb rfl) rfl)) Zb rfl)) rfl))⟩
 let d2:Rdg X YY [1,0,0,0,0]:=⟨_,(Zc (Y8 (i:=3) WZ.nd rfl rfl (Nc:=["_law_pair","_law_part"]) (ix:=[none,some 4]) (ZL.of (by decide +kernel:ZS (Zg YY) UH _ _ _=true)) rfl (ZE (K:=K) rfl (pv 3)) (fun _ _ _ _ _=>(Zo (i:=0) (show List.Nodup (["_law_pair","_law_part"]:List Str) by decide +kernel) rfl (.inl rfl))) (fun _ _ _ _ _=>(WE (Zw (U1 (K:=K) rfl (YA.units hr)) (Zv (ZP (K:=K) rfl) (pv 0) Zf (fun _ _=>rfl)) (pv 1) (ZK _)))) (fun _ _ _ _ _=>(pv 0))) d1.2)⟩
 let d3:Rdg X YY [1,0,0]:=⟨_,(Zh (Z2 (Zw YC (Zv (ZP (K:=K) rfl) (pv 4) Zf (fun _ _=>rfl)) Zz (ZK _)) d2.2 ZD))⟩
 let d4:Rdg X YY [1]:=⟨_,(Zc (XF gw rfl (ZE (K:=K) rfl (Wh aT (rmL hr rfl) rfl T.ai.g T.ai.f.kp T.ai.n .nil YK (Za (pv 1) Zb rfl))) (Zo (i:=4) WZ.nd rfl (.inr rfl)) d3.2) (Zh (Zm (pv 3))))⟩
 intro vs Q h;obtain⟨s,v,n,m,many,t,rfl,hst,hn,hm20,hat,hm8,hc,hz,hdp,k⟩:=h;refine⟨_,(Zc (Zn (i:=3) WZ.nd rfl (.inl rfl) (ZY (Za (ZX (Za (ZX (Za Zz (Za (ZX (Za Zz Zb rfl)) Zb rfl) rfl)) (Za (ZY (Za Zf Zb rfl)) Zb rfl) rfl)) Zb rfl)) rfl (.inl rfl)) d4.2),?_⟩;obtain⟨os,hos⟩:=hst.lst;refine⟨by decide,fun a1 ha1=>?_⟩;obtain⟨H1,qN,s1,e1⟩:=ZN (o:=.tup [.str "yes"]) ha1;rw[qN];refine⟨sz2,fun a2 ha2=>?_⟩;obtain⟨H2,qN,s2,e2⟩:=ZN (o:=.tup [.str "some",.ref a1]) ha2;rw[qN];refine⟨by decide,fun a3 ha3=>?_⟩;obtain⟨H3,qN,s3,e3⟩:=ZN (o:=.lst [.int 0]) ha3;rw[qN];refine⟨sz2,fun a4 ha4=>?_⟩;obtain⟨H4,qN,s4,e4⟩:=ZN (o:=.tup [.ref a2,.ref a3]) ha4;rw[qN];refine⟨sz1,fun SL hSL=>?_⟩;obtain⟨H5,qN,s5,e5⟩:=ZN (o:=.lst [.ref a4]) hSL;rw[qN];have sH5:=s1.trans (s2.trans (s3.trans (s4.trans s5)));have aY:At K 2 H5 (.ref a2) trY:=⟨a2,[.ref a1],rfl,nX ((s3.trans (s4.trans s5)) _ _ e2),.inl ⟨by decide +kernel,rfl⟩,rfl,fun i u k h1 h2=>by
  cases i with
  |zero=>cases h1;cases h2;exact⟨a1,[],rfl,⟨rfl,nX ((s2.trans (s3.trans (s4.trans s5))) _ _ e1)⟩,rfl,rfl,nofun⟩
  |succ i=>cases h1⟩
 have n3:a3≠s:=fun z=>by rw[z,(s1.trans s2) _ _ hos] at ha3;cases ha3
 have n3S:a3≠SL:=fun z=>by rw[<- z,s4 _ _ e3] at hSL;cases hSL
 have nSL:SL≠s:=fun z=>by rw[z,(s1.trans (s2.trans (s3.trans s4))) _ _ hos] at hSL;cases hSL
 have hSL0:H SL=none:=(s1.trans (s2.trans (s3.trans s4))).free hSL;have sT0:WU K H H5 s SL (fun _=>[0]) [trY] [.ref a4]:=by
  refine⟨e5,rfl,fun i v t h1 h2=>?_,fun t ht=>?_,by simp⟩
  ·cases i with
   |zero=>cases h1;cases h2;exact⟨a4,a3,.ref a2,2,rfl,nX (s5 _ _ e4),aY,(s4.trans s5) _ _ e3,n3,n3S,(s1.trans s2).free ha3⟩
   |succ i=>cases h1
  ·rw[fM] at ht;rw[ht];exact⟨by decide,by decide +kernel⟩
 refine⟨_,rfl,v,t,m,rfl,by omega,hat.mono (nW sH5),hc,by omega,by omega,fun H6 L us s6 L0 hL aL=>⟨L,rfl,⟨_,nV hL⟩,?_⟩⟩;have hcu:∀x∈Zk [] (Zp t),isC x=true/\x∈Zp t:=fun x hx=>by
  rcases ZJ.mp hx with h|h
  ·cases h
  ·exact⟨yS hc x (ZJ.mpr (.inr (YQ _ (fh _) h))),h⟩
 have nd:(Zk [] (Zp t)).Nodup:=YD (by simp);have lts0:(Zk [] (Zp t)).length<=200:=by
  have:=X5 nd (l₂:=Zp t) (fun x hx=>(hcu x hx).2);have:=Vf _ (fh (psz t));omega
 generalize hts:Zk [] (Zp t)=ts at aL hcu nd lts0;have s56:=sH5.trans s6;have st6:=hst.mono s56;have L00:H L=none:=sH5.free L0;have nL:L≠s:=fun z=>by rw[z,hos] at L00;cases L00
 refine Y4 (J:=Itl K L) (n:=us.length) (fun j U G=>∃(z:Option V) (SL:Addr) (st:Tr->List Int) (ss:List Tr) (xs:List V),U=[some (.ref s),some v,some (.int (many:Nat)),some (.ref SL),z]/\Zs s H G/\H SL=none/\G L=some (.lst us)/\L≠SL/\AtL K m G us ts/\Xa G s (n+20*j)/\WU K H G s SL st ss xs/\ss.length<=j+1/\(∀x∈ss,x=trY\/x∈ts.take j)/\(∀x∈ts.take j,x.lb=.op "some" -> x∈ss)/\∀x∈ss,∀y∈st x,0<=y/\y<(20:Int)) ?_ ?_ ?_ ?_ ?_
 ·exact⟨_,SL,_,_,_,rfl,Ze.x s56,hSL0,hL,(fun z=>by rw[z,e5] at L0;cases L0),aL,st6,⟨s6 _ _ sT0.hs,sT0.len,fun i v t a b=>(let ⟨b,l,e,n,q1,q2,q3,q4,q5⟩:=sT0.it i v t a b; ⟨b,l,e,n,q1,nW s6 _ _ _ q2,q3.mono (nW s6),s6 _ _ q4,q5⟩),sT0.short,sT0.nd⟩,fh _,(fun x h=>.inl (by simpa using h)),(fun x h=>by simp at h),fun x _ y hy=>by rw[fM] at hy;subst hy;exact⟨by decide,by decide⟩⟩
 ·rintro j U G hj ⟨z,SL,st,ss,xs,rfl,xG,hS0,gL,_⟩;exact⟨_,_,nV gL,fj hj⟩
 ·rintro U G ⟨z,SL,st,ss,xs,rfl,xG,hS0,gL,_⟩;exact⟨_,nV gL,fh _⟩
 ·rintro j x U G0 G hj ⟨z,SL,st,ss,xs,rfl,xG,hS0,gL,nLS,aG,stG,sT,lss,hin,hall,hb⟩ ⟨rfl,hx⟩;have ex:=hx _ (nV gL);have lts:=aG.1;have hu:ts[j]?=some (ts[j]'(by omega)):=fj (by omega);have hum:=fN (show j<ts.length by omega);have hnot:(ts[j]'(by omega))∉ts.take j:=fun hm=>by
   obtain⟨i,hi,e⟩:=gu hm;rw[fZ] at hi;rw[ni] at e;have:=(iM nd).mp e;omega
  have htk:ts.take (j+1)=ts.take j++[ts[j]'(by omega)]:=by rw[lD,hu];rfl
  rw[htk];generalize (ts[j]'(by omega))=u at hu hum hnot htk;have au:=aG.2 j x u ex hu;obtain⟨b,ys,rfl,hb0⟩:=At.head au;have du:dpt u<=60:=fK (UQ _ (fh _) (YQ _ (fh _) (hcu u hum).2)) hdp;refine⟨_,rfl,b,_,_,_,rfl,rfl,hb0,Zj (j:=0) rfl,rfl,_,rfl,X9 (fun c=>?_) (fun c=>?_)⟩
  ·have hlb:u.lb=.op "some" := (Jy (hcu u hum).1).mp (V.str.inj (fT c))
   classical
   refine⟨_,rfl,SL,rfl,⟨_,nV sT.hs⟩,fun D1 hD1=>?_⟩;refine U3 (K:=K) (xs.zip ss) Prod.fst (fun e=>!decide (e.2=u)) Prod.fst hD1 (by rw[ZdD sT.len];exact nV sT.hs) (by rw[iB,sT.len,Nat.min_self,ft];omega) ?_ ?_
   ·rintro⟨xv,xt⟩ hxe F N N0 sF hN hN0;obtain⟨i,hi⟩:=mB.mp hxe;rw[lg] at hi;obtain⟨b',l',e',n',q1,q2,q3,q4,q5,q6,q7⟩:=sT.it i xv xt hi.1 hi.2;have q1':xv=.ref b':=q1;subst q1';have hxs:xt∈ss:=fU hi.2;refine⟨_,rfl,b',_,_,_,rfl,rfl,nW sF _ _ _ q2,Zj (j:=0) rfl,_,rfl,Zfk (q3.mono (nW sF)) (au.mono (nW sF)) (sT.short xt hxs).2 (fun e=>?_) (fun e=>?_)⟩
    ·exact⟨_,rfl,Z7 (hN0 F (.refl _) (by show(!decide (xt=u))=false;rw[gz e];rfl))⟩
    ·exact⟨_,rfl,YB ⟨_,rfl,hN F (.refl _) (by show(!decide (xt=u))=true;rw[gJ e];rfl)⟩⟩
   intro G1 hG1 s1';have sT1:=sT.cut (fun x=>!decide (x=u)) s1' hG1 hD1;have nu:u∉((xs.zip ss).filter fun e=>!decide (e.2=u)).map Prod.snd:=fun z=>by
    have:=((jO (q:=fun x=>!decide (x=u)) sT.len).mp z).2;rw[gz rfl] at this;cases this
   have hmem:∀{y:Tr},y∈((xs.zip ss).filter fun e=>!decide (e.2=u)).map Prod.snd↔y∈ss/\y≠u:=fun {y}=>by
    rw[jO (q:=fun x=>!decide (x=u)) sT.len];simp
   have lss1:(((xs.zip ss).filter fun e=>!decide (e.2=u)).map Prod.snd).length<=j+1:=by
    rw[fi];have:=lX (fun e:V×Tr=>!decide (e.2=u)) (xs.zip ss);rw[iB,sT.len,Nat.min_self] at this;omega
   generalize ((xs.zip ss).filter fun e=>!decide (e.2=u)).map Prod.snd=ss1 at sT1 nu hmem lss1;generalize ((xs.zip ss).filter fun e=>!decide (e.2=u)).map Prod.fst=xs1 at sT1 hG1;have xG1:=xG.trans (Ze.x s1');have st1':=stG.mono s1';have nD1:D1≠s:=fun z=>by obtain⟨o1,ho1⟩:=stG.lst;rw[z,ho1] at hD1;cases hD1
   have D10:H D1=none:=xG.free nD1 hD1;have nLD1:L≠D1:=fun z=>by rw[<- z,gL] at hD1;cases hD1
   refine⟨_,rfl,.inl ⟨rfl,_,nV sT1.hs⟩,_,rfl,_,rfl,_,rfl,by omega,by omega,fun D hD=>?_⟩;rw[ge];have nD:D≠s:=fun z=>by obtain⟨o1,ho1⟩:=st1'.lst;rw[z,ho1] at hD;cases hD
   have nDS:D≠D1:=fun z=>by rw[z,sT1.hs] at hD;cases hD
   have D0:H D=none:=xG1.free nD hD
   let J1:Nat->L2.St->Hp->Prop:=fun i U F=>Ex2 fun(y:Option V) (rs:List Int)=>Cj6 (U=[y,some (.ref s)]) (Zs s G1 F) (Xa F s (n+20*j+i)) (F D=some (.lst (rs.map V.int))) (rs.length<=i) (∀x∈rs,0<=x/\x<(20:Int))
   refine YJ (J:=Itr 0 many) (n:=many) J1 ?_ (fun _ _ _ h _=>h) (fun _ _ _=>fh _) ?_ ?_
   ·exact⟨_,[],rfl,Ze.x (Zi hD),st1'.mono (Zi hD),Zd,fh _,fun x hx=>by cases hx⟩
   ·rintro i x U F0 F hi ⟨y,rs,rfl,xF,stF,eD,lr,rb⟩ ⟨rfl,rfl⟩ N N0 hN hN0;refine⟨_,rfl,s,2,_,rfl,stF,by omega,by decide,by decide,fun F1 r' y1 sty hr'=>⟨rfl,_,rfl,X9 (fun c=>⟨_,rfl,?_⟩) (fun c=>?_)⟩⟩
    ·refine hN _ _ F1 _ (y1 _ _ nD eD) (by rw[fi,ft];omega) ⟨_,rs++[(0+(i:Nat):Int)],rfl,(xF.trans y1).updN hD,Xa.updN nD (by rw[<- l7];exact sty),by rw[Zd,fQ];rfl,by rw[fu];show _+1<=_;omega,fun x hx=>?_⟩;rcases fG.mp hx with hx|hx
     ·exact rb x hx
     ·rw[fM] at hx;omega
    ·exact hN0 _ _ ⟨_,rs,rfl,xF.trans y1,by rw[<- l7];exact sty,y1 _ _ nD eD,by omega,rb⟩
   rintro U F ⟨y,rs,rfl,xF,stF,eD,lr,rb⟩;refine⟨sz2,fun q hq=>?_⟩;obtain⟨F2,qN,u2,eq⟩:=ZN (o:=.tup [.ref b,.ref D]) hq;rw[qN];obtain⟨oG,hoG⟩:=st1'.lst;have x2:Zs s G1 F2:=xF.trans (Ze.x u2);have sT2:=sT1.step hoG nD1 x2;have t2:YX G F2:=(nW s1').trans (Zs.tup x2 hoG);refine⟨D1,_,_,rfl,rfl,sT2.hs,by rw[sT2.len,ft];omega,?_⟩;have tU:=WQ (o:=.lst (xs1++[.ref q])) sT2.hs;refine⟨_,D1,fun x=>if x=u then rs else st x,ss1++[u],xs1++[.ref q],rfl,(xG1.trans x2).updN D10,D10,by rw[Zx nLD1];exact x2 _ _ nL (s1' _ _ gL),nLD1,aG.mono (t2.trans tU),Xa.updN nD1 ((stF.mono u2).le (by omega)),sT2.add nu eq (au.mono t2) (u2 _ _ eD) nD nDS D0 (by omega) du,by rw[fu];show _+1<=_;omega,fun x hx=>?_,fun x hx hl=>?_,fun x hx y hy=>?_⟩
   ·rcases fG.mp hx with hx|hx
    ·exact(hin x (hmem.mp hx).1).imp id (fun h=>gS _ h)
    ·exact .inr (gi _ hx)
   ·rcases fG.mp hx with hx|hx
    ·by_cases e:x=u
     ·rw[e];exact gi _ (fM.mpr rfl)
     ·exact gS _ (hmem.mpr ⟨hall x hx hl,e⟩)
    ·exact gi _ hx
   ·change y∈(if x=u then rs else st x) at hy
    by_cases e:x=u
    ·rw[if_pos e] at hy;exact rb y hy
    ·rw[if_neg e] at hy;rcases fG.mp hx with hx|hx
     ·exact hb x (hmem.mp hx).1 y hy
     ·exact absurd (fM.mp hx) e
  ·have hlb:¬u.lb=.op "some" := fun z=>c (gz (fI V.str ((Jy (hcu u hum).1).mpr z)));refine⟨_,SL,st,ss,xs,rfl,xG,hS0,gL,nLS,aG,stG.le (by omega),sT,by omega,fun x hx=>(hin x hx).imp id (fun h=>gS _ h),fun x hx hl=>?_,hb⟩;rcases fG.mp hx with hx|hx
   ·exact hall x hx hl
   ·rw[fM] at hx;rw[hx] at hl;exact absurd hl hlb
 rintro U G ⟨z,SL,st,ss,xs,rfl,xG,hS0,gL,nLS,aG,stG,sT,lss,hin,hall,hb⟩;have etk:ts.take us.length=ts:=by rw[aG.1];exact iH
 rw[etk] at hin hall;exact⟨_,rfl,k G SL st ss xs xG hS0 sT (fun x hx=>(hin x hx).imp id fun h=>(hcu x h).2) (by rw[hts];exact hall) hb⟩
structure Sx(K:W.Frag)(H:Hp)(sl:Addr)(st:Tr->List Int)(t:Tr)(ss:List Tr):Prop where
 at_:Ux K H sl st ss
 nd:ss.Nodup
 short:∀s∈ss,(st s).length<=1000/\dpt s<=60
 sub:∀s∈ss,s=trY\/s∈Zp t
 all:∀s∈Zk [] (Zp t),s.lb=.op "some" -> s∈ss
theorem Sx.mono{K:W.Frag}{H H':Hp}{sl:Addr}{st:Tr->List Int}{t:Tr}{ss:List Tr}(s:Ze H H')(h:Sx K H sl st t ss):Sx K H' sl st t ss:=⟨h.at_.mono s,h.nd,h.short,h.sub,h.all⟩
theorem Qn:isC trY=true/\psz trY<=2000000/\(post trY).length<=2:=by
 refine⟨by decide +kernel,by decide +kernel,by decide +kernel⟩
theorem Sx.few{t:Tr}(h:Sx K H sl st t ss)(hz:psz t<=200):ss.length<=201:=by
 have:=X5 h.nd (l₂:=trY::Zp t) (fun x hx=>by
  rcases h.sub x hx with h|h
  ·rw[h];exact im
  ·exact fS _ h)
 have:=Vf _ (fh (psz t));rw[gp] at *;omega
theorem ZcW{α β:Type}{R:α->β->Prop}:∀{ys:List α},(∀y∈ys,∃z,R y z)->∃zs:List β,zs.length=ys.length/\∀(i:Nat) y z,ys[i]?=some y->zs[i]?=some z->R y z
 |[],_=>⟨[],rfl,fun i y z h=>by simp at h⟩
 |y::ys,h=>by
  obtain⟨z,hz⟩:=h y (by simp);obtain⟨zs,hl,hr⟩:=ZcW (R:=R) (ys:=ys) fun y hy=>h y (fS _ hy);refine⟨z::zs,by rw[gp,gp,hl],fun i u v h1 h2=>?_⟩;cases i with
  |zero=>cases h1;cases h2;exact hz
  |succ i=>exact hr i u v h1 h2
theorem xf{l:List α}{x:α}(h:x∈l):∃i:Nat,l[i]?=some x:=mB.mp h
theorem Sx.sets{t:Tr}(h:Sx K H sl st t ss)(hc:isC t=true)(hz:psz t<=200):Ku K H sl st t ss:=by
 have few:=h.few hz;refine⟨h.at_,by omega,fun s hs=>?_,?_,fun s hs=>(h.short s hs).1,h.all⟩
 ·rcases h.sub s hs with rfl|e
  ·exact⟨Qn.1,Qn.2.1⟩
  ·have e':=YQ _ (fh _) e;exact⟨V3 _ (fh _) hc e',fK (zy _ (fh _) e') (by omega)⟩
 ·have nd:(Zk (Zk [] (post t)) (ss.map post).flatten).Nodup:=YD (YD iy);have:=X5 nd (l₂:=post t++post trY) (fun x hx=>by
   rcases ZJ.mp hx with hx|hx
   ·rcases ZJ.mp hx with hx|hx
    ·cases hx
    ·exact gS _ hx
   ·obtain⟨l,hl,hx⟩:=iz.mp hx;obtain⟨s,hs,rfl⟩:=fX.mp hl;rcases h.sub s hs with rfl|e
    ·exact gi _ hx
    ·exact gS _ (xA _ (fh _) (YQ _ (fh _) e) hx))
  have l1:(post t).length=psz t:=rfl;have l2:=Qn.2.2;rw[fu] at this;omega
theorem Sx.pairs{t:Tr}(h:Sx K H sl st t ss):∀u∈Zp t,u.lb=.op "some" -> ∃(es:List (Tr×Addr)) (i:Nat) (l:Addr),Vd K H sl es/\es[i]?=some (u,l)/\(∀(j:Nat) e,j<i->es[j]?=some e->e.1≠u)/\H l=some (.lst ((st u).map V.int)):=by
 obtain⟨xs,hxs,lx,hat⟩:=h.at_;obtain⟨es,le,hes⟩:=ZcW (ys:=xs.zip ss) (R:=fun(y:V×Tr) (z:Tr×Addr)=>z.1=y.2/\∃(b:Addr) (e:V) (n:Nat),y.1=.ref b/\SqT K H b [e,.ref z.2]/\At K n H e z.1/\H z.2=some (.lst ((st z.1).map V.int))) (fun y hy=>by
  obtain⟨i,hi⟩:=xf hy;rw[lg] at hi;obtain⟨b,l,e,n,q1,q2,q3,q4⟩:=hat i _ _ hi.1 hi.2;exact⟨(y.2,l),rfl,b,e,n,q1,q2,q3,q4⟩)
 rw[iB,lx,Nat.min_self] at le;have at_:∀(j:Nat) e,es[j]?=some e->∃x,xs[j]?=some x/\ss[j]?=some e.1/\∃(b:Addr) (v:V) (n:Nat),x=.ref b/\SqT K H b [v,.ref e.2]/\At K n H v e.1/\H e.2=some (.lst ((st e.1).map V.int)):=fun j e he=>by
  have hj:=(fD.mp he).1;have hx:xs[j]?=some (xs[j]'(by omega)):=fj (by omega);have hs:ss[j]?=some (ss[j]'(by omega)):=fj (by omega);obtain⟨q1,q2⟩:=hes j (xs[j]'(by omega),ss[j]'(by omega)) _ (lg.mpr ⟨hx,hs⟩) he;exact⟨_,hx,by rw[hs];exact fI some q1.symm,q2⟩
 intro u hu hl;obtain⟨i,hi⟩:=xf (h.all u (ZJ.mpr (.inr hu)) hl);have hi':=(fD.mp hi).1;have he:es[i]?=some (es[i]'(by omega)):=fj (by omega);obtain⟨x,hx,hs,b,v,n,_,_,_,q⟩:=at_ i _ he;rw[hi] at hs;have eu:u=(es[i]'(by omega)).1:=fO hs;refine⟨es,i,(es[i]'(by omega)).2,⟨xs,hxs,by omega,fun j y e h1 h2=>?_⟩,by rw[he,eu],fun j e hj h2 z=>?_,by rw[eu];exact q⟩
 ·obtain⟨x',hx',hs',b',v',n',q1,q2,q3,_⟩:=at_ j e h2;rw[h1] at hx';cases hx';exact⟨b',v',n',q1,q2,q3,(h.short _ (fU hs')).2⟩
 ·obtain⟨x',hx',hs',_⟩:=at_ j e h2;rw[z] at hs';have:=yI h.nd hs' hi;omega
theorem JT(bs:List Bool):Ug 1 (.list (bs.map PyData.bool)):=QP fun x _=>⟨by simp[PyData.canLay0],by simp[PyData.depth]⟩
theorem dpB{b:Addr}{bs:List Bool}(h:H b=some (.lst (bs.map V.bl))):Dp K H (.ref b) (.list (bs.map PyData.bool)):=.lst (nV h) (zO (fun x=>.bl x) bs)
def Two(K:W.Frag)(a:Adr)(n:Nat)(t:Tr)(G:Hp)(w sl:Addr):Prop:=∃(d:WD) (st:Tr->List Int) (ss:List Tr),Z0 a.C_World G w d/\d.signs.length=n/\Sx K G sl st t ss
theorem Two.mono{K:W.Frag}{a:Adr}{n:Nat}{t:Tr}{G G':Hp}{w sl:Addr}(s:Ze G G')(h:Two K a n t G w sl):Two K a n t G' w sl:=let ⟨d,st,ss,h1,h2,h3⟩:=h; ⟨d,st,ss,h1.mono s,h2,h3.mono s⟩
theorem Zcs{t:Tr}:(Zk [] (post t)).length<=psz t:=X5 (YD iy) (fun x hx=>by rcases ZJ.mp hx with h|h;cases h;exact h)
theorem Zdi{w rn:Addr}{t:Tr}{m:Nat}(hw:Z0 a.C_World H w d)(hd:d.signs.length=n)(n20:n<=20)(hs:Sx K H sl st t ss)(hat:At K m H v t)(hc:isC t=true)(hz:psz t<=200)(r:qm H rn n way ring)(l:(way++ring).length<=31):Rd K a H w rn sl v d way ring t st:=by
 subst hd;have h1:(Zk [] (post t)).length<=200:=fK Zcs hz;refine⟨hw,n20,r,⟨m,hat⟩,hc,by omega,by omega,⟨ss,hs.sets hc hz⟩,?_⟩;rw[fu] at l ⊢;have:=Nat.mul_le_mul h1 (show ring.length+1<=32 by omega);omega
def zJ(K:W.Frag)(a:Adr):Sp:=fun vs H Q _=>ZeJ fun(w nm rn sl:Addr) (v:V) (m:Nat) (nn:List Str) (t:Tr) (d:WD) (st:Tr->List Int) (ss:List Tr) (way ring:List Int)=>Zgn (vs=[.ref w,.ref nm,.ref rn,v,.ref sl]) (Z0 a.C_World H w d) (JL d) (d.signs.length<=20) (H nm=some (.lst (nn.map V.str))) (nn.length=3) nn.Nodup ((∀x∈nn,Yo x=true)) (qm H rn d.signs.length way ring) ((way++ring).length<=31) (At K m H v t) (m<8) (isC t=true) (psz t<=200) (dpt t<=60) (Sx K H sl st t ss) (∀H',Ze H H'->Q (.bl true) H')
theorem zT:Okd P w K mg base a 12 a.y53 a.z53 eM zJ:=fun T hw=>by
 refine okX T.aW.f Yk fun cR A outer s H E hr=>?_;intro X
 let d1:Rdg X ZQ [5,0,0]:=⟨_,(Zh (Z2 (Zw (U1 (K:=K) rfl (YA.units hr)) (ZB T.az (Xp T hw) hr rfl rfl (Zq (pv 10) (Zq (pv 2) (Zq (pv 3) (Zq (pv 11) (Zq (pv 9) Zb rfl) rfl) rfl) rfl) rfl)) (ZB T.aS (VI T hw) hr rfl rfl (Zq (pv 10) (Zq (pv 2) (Zq (pv 3) (Zq (pv 11) (Zq (pv 9) Zb rfl) rfl) rfl) rfl) rfl)) (ZK _)) (Zh (Zm Y9)) ZD))⟩
 let d2:Rdg X ZQ [5]:=⟨_,(Zc (XF gw rfl (ZE (K:=K) rfl (ZY (Zq (ZX (Za (pv 7) (Za (pv 4) Zb rfl) rfl)) (Zq (ZX (Za (pv 0) (Za (pv 8) Zb rfl) rfl)) (Zq (ZX (Za (pv 7) (Za (pv 8) Zb rfl) rfl)) (Zq (ZX (Za (pv 0) (Za (pv 4) Zb rfl) rfl)) Zb rfl) rfl) rfl) rfl))) (WH (K:=K) (n:=2) rfl rfl (Yj (Zo (i:=10) Yk.nd rfl (.inl rfl)) (Yj (Zo (i:=11) Yk.nd rfl (.inl rfl)) WF))) d1.2) (Zh (Zm Y9)))⟩
 let d3:Rdg X ZQ [4]:=⟨_,(Zc (Zn (i:=9) Yk.nd rfl (.inl rfl) (ZR XC (ZR XC Zf (Zl (Zu (K:=K) rfl) rfl T.ay oh (Za (Zv (ZP (K:=K) rfl) (pv 2) Zf (fun _ _=>rfl)) Zb rfl))) (Zl (Zu (K:=K) rfl) rfl T.ay oh (Za (Zv (ZP (K:=K) rfl) (pv 2) Zf (fun _ _=>rfl)) Zb rfl))) rfl (.inl rfl)) d2.2)⟩
 let d4:Rdg X ZQ [3]:=⟨_,(Zc (yb (i:=8) Yk.nd rfl rfl (Nc:=df) (ix:=[none,none,some 5]) (Wj.of (by decide +kernel:qX (Zg ZQ) XV _ _ _=true)) rfl (ZE (K:=K) rfl (yA (K:=K) rfl (pv 4) (Z9 (Vx We Zf)))) (fun _ _ _ _ _=>(WH (K:=K) (n:=2) rfl rfl (Yj (Zo (i:=0) (show List.Nodup df by decide +kernel) rfl (by first|exact Or.inl rfl|exact Or.inr rfl)) (Yj (Zo (i:=1) (show List.Nodup df by decide +kernel) rfl (by first|exact Or.inl rfl|exact Or.inr rfl)) WF)))) (fun _ _ _ _ _=>Z3) (fun _ _ _ _ _=>(ZX (Za (pv 0) (Za (ZU (Nc:=db) (ix:=[none,some 1]) (ZL.ofR (N:=df) (sc0:=Zg ZQ) rfl (by decide +kernel)) rfl (ZE (K:=K) rfl (pv 2)) (fun _ _ _ _ _=>(Zo (i:=0) (show List.Nodup db by decide +kernel) rfl (.inl rfl))) (fun _ _ _ _ _=>(WE (Zw (zz (K:=K) rfl) (pv 0) (pv 1) (by with_unfolding_all rfl)))) (fun _ _ _ _ _=>(pv 0))) Zb rfl) rfl)))) d3.2)⟩
 let d5:Rdg X ZQ [2]:=⟨_,(Zc (Zn (i:=7) Yk.nd rfl (.inl rfl) (QT T.cc (qe T hw) (rmL hr rfl) rfl T.cA T.a9.n .nil YK (Zq (pv 6) (Zq (ZU (Nc:=fb) (ix:=[none,some 0]) (ZL.of (by decide +kernel:ZS (Zg ZQ) XV _ _ _=true)) rfl (ZE (K:=K) rfl (pv 5)) (fun _ _ _ _ _=>(Zo (i:=0) (show List.Nodup fb by decide +kernel) rfl (.inl rfl))) (fun _ _ _ _ _=>Z3) (fun _ _ _ _ _=>(WC (pv 1) T.aj T.ah.m (Ww T hw) (rmL hr rfl) T.ah.n .nil YK (Za (pv 0) Zb rfl)))) (Zq (ZY (Za Zf Zb rfl)) (Zq (ZY Zb) Zb rfl) rfl) rfl) rfl)) rfl (.inl rfl)) d4.2)⟩
 let d6:Rdg X ZQ [1]:=⟨_,(Zc (yb (i:=6) Yk.nd rfl rfl (Nc:=di) (ix:=[none,some 1,some 0]) (Wj.of (by decide +kernel:qX (Zg ZQ) XV _ _ _=true)) rfl (ZE (K:=K) rfl (pv 5)) (fun _ _ _ _ _=>(Zo (i:=0) (show List.Nodup di by decide +kernel) rfl (by first|exact Or.inl rfl|exact Or.inr rfl))) (fun _ _ _ _ _=>Z3) (fun _ _ _ _ _=>(ZU (Nc:=fc) (ix:=[none,some 0,some 2]) (ZL.ofR (N:=di) (sc0:=Zg ZQ) rfl (by decide +kernel)) rfl (ZE (K:=K) rfl (pv 1)) (fun _ _ _ _ _=>(Zo (i:=0) (show List.Nodup fc by decide +kernel) rfl (.inl rfl))) (fun _ _ _ _ _=>(WE (Zw (zz (K:=K) rfl) (pv 0) (WC (pv 2) T.aj T.ag.m (Wc T hw) (rmL hr rfl) T.ag.n .nil YK (Za (pv 1) Zb rfl)) (by with_unfolding_all rfl)))) (fun _ _ _ _ _=>(pv 0))))) d5.2)⟩
 intro vs Q h;obtain⟨w,nm,rn,sl,v,m,nn,t,d,st,ss,way,ring,rfl,hw0,gd,n20,hnm,lnn,nnd,nnm,hrun,l31,hat,m8,hc,hz,hdp,sx,k⟩:=h;refine⟨_,(Zc (Zn (i:=5) Yk.nd rfl (.inr rfl) (ZO (YL (K:=K) rfl rfl) rfl T.aN nY (Za (ZO (xj) rfl T.aJ on (Za (V2 (pv 0) T.aj T.ab.m (Xs T hw) (rmL hr rfl) T.ab.n .nil YK) Zb rfl)) Zb rfl)) rfl (.inl rfl)) d6.2),?_⟩;obtain⟨dx,fs,ho,hk0⟩:=yy hw0;refine⟨_,rfl,w,dx,fs,rfl,ho,hk0,w,d,rfl,hw0,_,rfl,fun R hR=>?_⟩;obtain⟨H1,qN,s1,eR⟩:=ZN (o:=.rng 0 (d.signs.length:Int)) hR;rw[qN];refine .inr ⟨R,(d.signs.length:Int),rfl,eR,by omega,by omega,fun P hP=>?_⟩;obtain⟨H2,qN,s2,eP⟩:=ZN (o:=.lst ((L3.upTo (d.signs.length:Int)).map V.int)) hP;rw[qN];have s12:=s1.trans s2;have lup:((L3.upTo (d.signs.length:Int)).map V.int).length=d.signs.length:=by unfold L3.upTo;rw[fi,fi,fY];omega
 refine⟨_,rfl,P,rfl,⟨_,nV eP⟩,fun D1 hD1=>?_⟩;refine Zb5  (K:=K) hD1 (nV eP) (by rw[lup,ft];omega) (fun i v G=>∃(b:Addr) (ss:List Str),v=.ref b/\G b=some (.lst (ss.map V.str))/\ss.Sublist nn) (fun i v _ _ sm q=>(let ⟨b,ss,h1,h2,h3⟩:=q; ⟨b,ss,h1,sm _ _ h2,h3⟩)) ?_ ?_
 ·intro i x G N hx sG hN;obtain⟨rfl,hi⟩:=QK hx;refine⟨_,rfl,nm,rfl,⟨_,nV ((s12.trans sG) _ _ hnm)⟩,fun D hD=>?_⟩;refine U3 (K:=K) nn V.str (fun z=>!decide (z∈d.signs[i])) V.str hD (nV ((s12.trans sG) _ _ hnm)) (by rw[lnn,ft];decide) ?_ ?_
  ·intro z hz F N' N0 sF h1 h0;have wF:=hw0.mono (s12.trans (sG.trans sF));obtain⟨dx2,fs2,ho2,hk2⟩:=UM wF;refine⟨_,rfl,_,rfl,w,dx2,fs2,rfl,ho2,hk2,_,rfl,w,d,i,d.signs[i],rfl,wF,fj hi,fun q hq=>?_⟩;refine⟨q,_,rfl,.inl (nV Zd),rfl,zN _,_,rfl,?_⟩;have e:inV (.str z) ((Wm d.signs[i]).map V.str)=decide (z∈d.signs[i]):=xz;rw[e];refine X9 (fun c=>⟨_,rfl,h1 _ (Zi hq) (by simpa using c)⟩) (fun c=>h0 _ (Zi hq) (by simpa using c))
  ·intro F hF sF;exact hN _ _ sF ⟨D,_,rfl,New.mk hD hF,List.filter_sublist⟩
 intro H3 ys1 hD13 s3 ly1 r1;rw[lup] at ly1;have eP3:=s3 _ _ eP;have s13:=s12.trans s3;refine⟨_,rfl,_,rfl,P,rfl,⟨_,nV eP3⟩,fun D2 hD2=>?_⟩;refine Ws (K:=K) hD2 (nV eP3) (by rw[lup,ft];omega) (fun i v G=>∃b:Addr,v=.ref b/\∀ns,d.ways[i]?=some ns->G b=some (.lst ((Yc ns).map V.int))) (fun i v _ _ sm q=>(let ⟨b,h1,h2⟩:=q; ⟨b,h1,fun ns e=>sm _ _ (h2 ns e)⟩)) ?_ ?_
 ·intro i x G N hx sG hN;obtain⟨rfl,hi⟩:=QK hx;have wG:=hw0.mono (s13.trans sG);obtain⟨dx3,fs3,ho3,hk3⟩:=qG wG;have hi2:i<d.ways.length:=by rw[gd.wl];exact hi
  refine⟨_,rfl,w,dx3,fs3,rfl,ho3,hk3,_,rfl,w,d,i,d.ways[i],rfl,wG,fj hi2,fun q hq=>?_⟩;refine hN _ _ (Zi hq) ⟨q,rfl,fun ns e=>New.mk hq ?_⟩;rw[fj hi2] at e;cases e;exact Zd
 intro H4 ys2 hD24 s4 ly2 r2;rw[lup] at ly2;refine⟨sz1,fun LA hLA=>?_⟩;obtain⟨H5,qN,s5,e3⟩:=ZN (o:=.lst [.int 0]) hLA;rw[qN];refine⟨by decide,fun LB hLB=>?_⟩;obtain⟨H6,qN,s6,e4⟩:=ZN (o:=.lst []) hLB;rw[qN];intro o dw no ndw new;have sm:Ze H6 (upd (upd H6 dw (.own o)) o (.ins a.C_World dw [])):=(Zi ndw).trans (Zi (by rw[Zx (fJ new)];exact no));have s36:=s4.trans (s5.trans s6);obtain⟨sg,lsg,hsg⟩:=ZcW (ys:=ys1) (R:=fun(v:V) (ss:List Str)=>(∃b:Addr,v=.ref b/\H3 b=some (.lst (ss.map V.str)))/\ss.Sublist nn) (fun y hy=>by
  obtain⟨i,hi⟩:=xf hy;obtain⟨b,ss,h1,h2,h3⟩:=r1 i y hi;exact⟨ss,⟨b,h1,(New.of h2).2⟩,h3⟩)
 have ls:sg.length=d.signs.length:=by omega
 have pp:Wv H6 (.ref D1) (.ref D2) (.ref LA) (.ref LB) ⟨sg,d.ways.map Yc,[0],[]⟩:=by
  refine⟨⟨D1,_,rfl,s36 _ _ hD13,by show ys1.length=sg.length;omega,fun i v x h1 h2=>?_⟩,⟨D2,_,rfl,(s5.trans s6) _ _ hD24,by show ys2.length=(d.ways.map Yc).length;rw[fi,gd.wl];omega,fun i v x h1 h2=>?_⟩,⟨LA,rfl,s6 _ _ e3⟩,⟨LB,rfl,e4⟩⟩
  ·obtain⟨⟨b,q1,q2⟩,_⟩:=hsg i v x h1 h2;exact⟨b,q1,s36 _ _ q2⟩
  ·obtain⟨b,q1,q2⟩:=r2 i v h1;have h2':(d.ways.map Yc)[i]?=some x:=h2;rw[fw] at h2';obtain⟨ns,hn,rfl⟩:=iw.mp h2';exact⟨b,q1,(s5.trans s6) _ _ ((New.of (q2 ns hn)).2)⟩
 have n1:=gd.n1;have gd2:JL ⟨sg,d.ways.map Yc,[0],[]⟩:=by
  refine⟨by show 1<=sg.length;omega,by show sg.length<=20;omega,by show(d.ways.map Yc).length=sg.length;rw[fi,gd.wl];omega,fun ss hs=>?_,fun ns hs=>?_,⟨(by decide:[(0:Int)].Nodup),(by decide:[(0:Int)]≠[]),fun x hx=>?_,(by decide:[(0:Int)].length<=20)⟩,⟨iy,(fun x hx=>by cases hx),gk _⟩⟩
  ·obtain⟨i,hi⟩:=xf hs;have hi':i<sg.length:=(fD.mp hi).1;obtain⟨_,q⟩:=hsg i _ ss (fj (show i<ys1.length by omega)) hi;exact⟨q.nodup nnd,fun x hx=>nnm x (q.subset hx),fK q.length_le (by omega)⟩
  ·obtain⟨ms,hm,rfl⟩:=fX.mp hs;have pm:=X1 ms;obtain⟨g1,g2,g3,g4⟩:=gd.wn ms hm;exact⟨pm.nodup_iff.mpr g1,fun z=>g2 (by rw[z] at pm;exact pm.nil_eq.symm),fun x hx=>by show 0<=x/\x<(sg.length:Int);rw[ls];exact g3 x (pm.mem_iff.mp hx),by rw[pm.length_eq];exact g4⟩
  ·rw[fM] at hx;subst hx;show(0:Int)<=0/\(0:Int)<(sg.length:Nat);omega
 refine⟨o,dw,_,_,_,_,_,rfl,Zd,pp.mono sm,gd2,fun H7 x7 wo=>⟨rfl,?_⟩⟩;have s67:Ze H6 H7:=fun b u e=>x7 b u (ZW e no) (sm b u e);have s37:=s36.trans s67;have s17:=s13.trans s37;have eP7:=s37 _ _ eP3;generalize hd2:(⟨sg,d.ways.map Yc,[0],[]⟩:WD)=d2 at wo gd2;have ld2:d2.signs.length=d.signs.length:=by rw[<- hd2];exact ls
 clear hd2 pp r1 r2 hsg;have sx7:=sx.mono s17;obtain⟨xs,hxs,lx,hats⟩:=sx7.at_;refine⟨_,rfl,_,rfl,_,rfl,sl,xs,rfl,rfl,nV hxs,fun B hB=>?_⟩;obtain⟨H8,qN,s8,eB⟩:=ZN (o:=.lst xs.reverse) hB;rw[qN];have few:=sx.few hz;refine⟨B,rfl,⟨_,nV eB⟩,fun DR hDR=>?_⟩;have eP8:=s8 _ _ eP7;have lr:xs.reverse.length=ss.length:=by rw[iu,lx]
 refine Km  (J:=Itl K B) (n:=ss.length) (fun i U G=>Ex3 fun(y1 y2:Option V) (ys:List V)=>Cj5 (U=[y1,y2,some (.ref P)]) (Ze H8 G) (G DR=some (.lst ys)) (ys.length=i) (∀(j:Nat) v t,ys[j]?=some v->ss.reverse[j]?=some t->∃(b l:Addr) (e:V) (n:Nat),v=.ref b/\SqT K G b [e,.ref l]/\At K n G e t/\G l=some (.lst (((L3.upTo (d.signs.length:Int)).filter fun x=>!decide (x∈st t)).map V.int))/\l≠DR)) ?_ ?_ ?_ ?_ ?_
 ·exact⟨_,_,[],rfl,Zi hDR,Zd,rfl,fun j v t h=>by simp at h⟩
 ·rintro i U G hi ⟨y1,y2,ys,rfl,sG,_⟩;exact⟨_,_,nV (sG _ _ eB),fj (by omega)⟩
 ·rintro U G ⟨y1,y2,ys,rfl,sG,_⟩;exact⟨_,nV (sG _ _ eB),by omega⟩
 ·rintro i x U G0 G hi ⟨y1,y2,ys,rfl,sG,gD,ly,hys⟩ ⟨rfl,hx⟩ N N0 hN hN0;have ex:=hx _ (nV (sG _ _ eB));have hs:ss.reverse[i]?=some (ss.reverse[i]'(by rw[iu];exact hi)):=fj _;generalize (ss.reverse[i]'(by rw[iu];exact hi))=u at hs;have hs':=hs;rw[mK (by omega)] at ex hs';rw[lx] at ex;obtain⟨b,l,e,n,rfl,hb,he,hl⟩:=hats _ _ _ ex hs';have sG7:=s8.trans sG;refine⟨b,_,rfl,nW sG7 _ _ _ hb,rfl,_,_,rfl,_,_,rfl,rfl,?_⟩;refine YB (B:=True) (YB ⟨_,rfl,_,rfl,P,rfl,⟨_,nV (sG _ _ eP8)⟩,fun D hD=>?_⟩);refine U3 (K:=K) (L3.upTo (d.signs.length:Int)) V.int (fun x=>!decide (x∈st u)) V.int hD (nV (sG _ _ eP8)) (by rw[fi] at lup;rw[lup,ft];omega) ?_ ?_
  ·intro z hz F N' N0' sF h1 h0;refine⟨_,rfl,_,rfl,l,_,rfl,.inl (nV ((sG7.trans sF) _ _ hl)),rfl,VZ _,_,rfl,?_⟩;rw[zt];exact X9 (fun c=>⟨_,rfl,h1 _ (.refl _) (by simpa using c)⟩) (fun c=>h0 _ (.refl _) (by simpa using c))
  ·intro F hF sF;refine⟨sz2,fun q hq=>?_⟩;obtain⟨F2,qN,u2,eq⟩:=ZN (o:=.tup [e,.ref D]) hq;rw[qN];have sF2:=sF.trans u2;have nD:D≠DR:=fun z=>by rw[z,gD] at hD;cases hD
   have gF:=sF2 _ _ gD;have tU:=WQ (o:=.lst (ys++[.ref q])) gF;refine hN _ _ F2 ys gF (by rw[ly,ft];omega) ⟨_,_,ys++[.ref q],rfl,(Zs.upd (Ze.x (sG.trans sF2))).same hDR,Zd,by rw[fu,ly];rfl,fun j v' t' h1 h2=>?_⟩
   by_cases cj:j<ys.length
   ·rw[fW cj] at h1;obtain⟨b',l',e',n',q1,q2,q3,q4,q5⟩:=hys j v' t' h1 h2;exact⟨b',l',e',n',q1,tU _ _ _ (nW sF2 _ _ _ q2),(q3.mono (nW sF2)).mono tU,by rw[Zx q5];exact sF2 _ _ q4,q5⟩
   ·have lj:=(fD.mp h1).1;rw[fu,gn] at lj;obtain rfl:j=i:=by omega
    rw[gf (by omega),ly,gN] at h1;rw[hs] at h2;cases h1;cases h2;exact⟨q,D,e,n,rfl,tU _ _ _ (nX eq),(he.mono (nW (sG7.trans sF2))).mono tU,by rw[Zx nD];exact u2 _ _ hF,nD⟩
 rintro U H9 ⟨y1,y2,ys,rfl,s9,eDR,ly,hys⟩;have s79:=s8.trans s9;have sx9:Sx K H9 DR (fun u=>(L3.upTo (d.signs.length:Int)).filter fun x=>!decide (x∈st u)) t ss.reverse:=by
  refine⟨⟨ys,eDR,by rw[iu,ly],fun j v u h1 h2=>?_⟩,(List.reverse_perm ss).nodup_iff.mpr sx.nd,fun u hu=>⟨?_,(sx.short u (mF.mp hu)).2⟩,fun u hu=>sx.sub u (mF.mp hu),fun u hu hl=>mF.mpr (sx.all u hu hl)⟩
  ·obtain⟨b,l,e,n,q1,q2,q3,q4,_⟩:=hys j v u h1 h2;exact⟨b,l,e,n,q1,q2,q3,q4⟩
  ·rw[fi] at lup;exact fK (lX _ _) (by omega)
 have tA:Two K a d.signs.length t H9 o sl:=⟨d2,st,ss,wo.mono s79,ld2,sx7.mono s79⟩;have tB:Two K a d.signs.length t H9 w DR:=⟨d,_,_,hw0.mono (s17.trans s79),rfl,sx9⟩;have tC:Two K a d.signs.length t H9 o DR:=⟨d2,_,_,wo.mono s79,ld2,sx9⟩;have tD:Two K a d.signs.length t H9 w sl:=⟨d,st,ss,hw0.mono (s17.trans s79),rfl,sx7.mono s79⟩;have s09:=s17.trans s79;have run9:=hrun.mono s09;have at9:=hat.mono (nW s09);clear sx9 hys sx7 wo hats eDR hxs gd2 hD24 hD13 eP7 eP8 eB e3 e4;obtain⟨⟨W,GR,hrn,hW,hG⟩,hne,hb⟩:=run9;refine⟨_,rfl,rn,_,_,_,rfl,rfl,nX hrn,Zj (j:=0) rfl,.inl ⟨W,_,rfl,.inl (nV hW),_,_,rfl,rfl,?_⟩⟩;refine⟨_,rfl,rn,_,_,_,rfl,rfl,nX hrn,Zj (j:=1) rfl,.inl ⟨GR,_,rfl,.inl (nV hG),_,_,rfl,rfl,?_⟩⟩;rw[fi,fi];have em:(3:Int)+((way.length:Nat):Int)+((ring.length:Nat):Int)=((3+way.length+ring.length:Nat):Int):=by omega
 rw[em];have lm:3+way.length+ring.length<=50000:=by rw[fu] at l31;omega
 generalize 3+way.length+ring.length=many at lm;have run9:qm H9 rn d.signs.length way ring:=⟨⟨W,GR,hrn,hW,hG⟩,hne,hb⟩;have sz2:([V.ref o,.ref sl]:List V).length<=sizeLine:=sz2;refine⟨_,rfl,_,rfl,sz2,fun q1 h1=>?_⟩;obtain⟨F1,qN,f1,e1⟩:=ZN (o:=.tup [.ref o,.ref sl]) h1;rw[qN];refine⟨_,rfl,_,rfl,sz2,fun q2 h2=>?_⟩;obtain⟨F2,qN,f2,e2⟩:=ZN (o:=.tup [.ref w,.ref DR]) h2;rw[qN];refine⟨_,rfl,_,rfl,sz2,fun q3 h3=>?_⟩;obtain⟨F3,qN,f3,e3⟩:=ZN (o:=.tup [.ref o,.ref DR]) h3;rw[qN];refine⟨_,rfl,_,rfl,sz2,fun q4 h4=>?_⟩;obtain⟨F4,qN,f4,e4⟩:=ZN (o:=.tup [.ref w,.ref sl]) h4;rw[qN];refine⟨sz4,fun LL hLL=>?_⟩;obtain⟨F5,qN,f5,e5⟩:=ZN (o:=.lst [.ref q1,.ref q2,.ref q3,.ref q4]) hLL;rw[qN];have f25:=f2.trans (f3.trans (f4.trans f5));have f95:=f1.trans f25;have all4:∀x∈[V.ref q1,.ref q2,.ref q3,.ref q4],∃b w' sl':Addr,x=.ref b/\F5 b=some (.tup [.ref w',.ref sl'])/\Two K a d.signs.length t F5 w' sl':=fun x hx=>by
  simp only[fF,gO,gQ] at hx;rcases hx with rfl|rfl|rfl|rfl
  ·exact⟨q1,o,sl,rfl,f25 _ _ e1,tA.mono f95⟩
  ·exact⟨q2,w,DR,rfl,(f3.trans (f4.trans f5)) _ _ e2,tB.mono f95⟩
  ·exact⟨q3,o,DR,rfl,(f4.trans f5) _ _ e3,tC.mono f95⟩
  ·exact⟨q4,w,sl,rfl,f5 _ _ e4,tD.mono f95⟩
 have run5:=run9.mono f95;have at5:=at9.mono (nW f95);have s05:=s09.trans f95;generalize [V.ref q1,.ref q2,.ref q3,.ref q4]=qs at e5 all4;refine⟨LL,rfl,⟨_,nV e5⟩,?_⟩
 let J1:Nat->L2.St->Hp->Prop:=fun i U F=>Ex2 fun(z10 z11:Option V)=>Cj2 (U=[some (.ref w),some (.ref nm),some (.ref rn),some v,some (.ref sl),some (.ref P),some (.ref D1),some (.ref o),some (.ref DR),some (.int (many:Nat)),z10,z11]) (Ze F5 F)
 refine Y4 (J:=Itl K LL) (n:=qs.length) J1 ?_ ?_ ?_ ?_ ?_
 ·exact⟨_,_,rfl,.refl _⟩
 ·rintro i U F hi ⟨z10,z11,rfl,sF⟩;exact⟨_,_,nV (sF _ _ e5),fj hi⟩
 ·rintro U F ⟨z10,z11,rfl,sF⟩;exact⟨_,nV (sF _ _ e5),fh _⟩
 ·rintro i x U F0 F hi ⟨z10,z11,rfl,sF⟩ ⟨rfl,hx⟩;have ex:=hx _ (nV (sF _ _ e5));obtain⟨b,w',sl',rfl,hb',d',st',ss',wd,ld,sd⟩:=all4 x (fU ex);refine⟨b,_,rfl,nX (sF _ _ hb'),rfl,_,_,rfl,_,_,rfl,rfl,?_⟩;have rd:=Zdi (wd.mono sF) ld n20 (sd.mono sF) (at5.mono (nW sF)) hc hz (run5.mono sF) l31;refine⟨_,rfl,_,rfl,_,rfl,_,rfl,_,rfl,w',rn,sl',v,many,t,d',st',way,ring,rfl,rd,lm,fun G1 p1 g1 p10 hp1=>?_⟩;have sG1:=sF.trans g1;refine⟨_,rfl,_,rfl,_,rfl,_,rfl,_,rfl,w',rn,sl',v,m,many,t,d',st',way,ring,rfl,wd.mono sG1,by rw[ld];exact run5.mono sG1,at5.mono (nW sG1),m8,hc,by omega,hdp,l31,lm,(sd.mono sG1).pairs,fun G2 p2 g2 p20 hp2=>?_⟩;exact xU (JT _) (by decide) (dpB (g2 _ _ hp1)) (dpB hp2) ⟨_,rfl,Z7 ⟨_,_,rfl,sG1.trans g2⟩⟩
 rintro U F ⟨z10,z11,rfl,sF⟩;exact k _ (s05.trans sF)
theorem UW{s:Addr}(u:Ze H H1)(h:H s=none)(x:Zs s H1 H2):Ze H H2:=fun b o e=>x _ _ (fun z=>by rw[z,h] at e;cases e) (u _ _ e)
theorem Z4{x:V}[Decidable (x=y)]{A:Prop}(e:x=y)(h:B):if(!decide (x=y))=true then A else B:=by rw[gz e];exact Z7 h
def dSe(st:Tr->List Int)(t:Tr):PyData:=.tuple [dTr t,dI (st t)]
theorem ZgH(h:Ux K H sl st ss):Dp K H (.ref sl) (.list (ss.map (dSe st))):=by
 obtain⟨xs,hx,lx,hi⟩:=h;refine .lst (nV hx) (Kl (r:=fun H v t=>Dp K H v (dSe st t)) (fun v t h=>h) xs ss lx fun i v t h1 h2=>?_);obtain⟨b,l,e,n,rfl,q2,q3,q4⟩:=hi i v t h1 h2;exact .tup q2 (.cons q3.dp (.cons (LI.dp ⟨l,rfl,q4⟩) .nil))
theorem Zfn(h:Ux K H sl st ss)(hd:∀t∈ss,dpt t<=40):Ug 42 (.list (ss.map (dSe st))):=QP fun t ht=>by
 obtain⟨xs,hx,lx,hi⟩:=h;obtain⟨i,hi2⟩:=xf ht;have hl:=(fD.mp hi2).1;obtain⟨b,l,e,n,_,_,q3,_⟩:=hi i _ t (fj (show i<xs.length by omega)) hi2;have f1:=OkN.fine q3.ok;have f2:=Zco (st t);have:=f1.2;have:=f2.2;have:=hd t ht;refine⟨by simp[dSe,PyData.canLay0,PyData.canLayAll0,f1.1,f2.1],?_⟩;simp only[dSe,PyData.depth,PyData.depthAll];omega
theorem Zf4{a b:PyData}(ha:Ug n a)(hb:Ug n b):Ug (n+1) (.list [a,b]):=QP (f:=id) (xs:=[a,b]) (n:=n) (fun x hx=>by
 simp only[fF,gO,gQ] at hx;rcases hx with rfl|rfl
 ·exact ha
 ·exact hb)
def NoS(t:Tr):Prop:=∀s∈Zp t,s.lb≠.op "some"
theorem KB{ks:List Tr}(h:c≠.op "some")(hk:∀k∈ks,NoS k):NoS (.node c ks):=fun s hs=>by
 rcases WO hs with rfl|⟨k,hk',hx⟩
 ·exact h
 ·exact hk k (Yv hk') s hx
def Sm(K:W.Frag)(n:Nat)(G:Hp)(x:V):Prop:=∃t,At K n G x t/\isC t=true/\psz t<=3 ^ n/\NoS t
theorem Sm.mono{K:W.Frag}{n:Nat}{G G':Hp}{x:V}(s:Ze G G')(h:Sm K n G x):Sm K n G' x:=let ⟨t,h1,h2⟩:=h; ⟨t,h1.mono (nW s),h2⟩
theorem Sm.sign{b:Addr}(e:G b=some (.tup [.str "sign",.str z]))(hz:Yo z=true):Sm K (n+1) G (.ref b):=⟨_,QO (nX e) hz,by rw[YV];simp[Us],by rw[WN];exact l6 _ _ (by decide),KB nofun nofun⟩
theorem Zc2{w:Str}(h:w∈(["not","next","before","until","since"]:List Str)):Lb.op w≠.op "some" := fun z=>by
 have:=Lb.op.inj z;subst this;exact absurd h (by decide +kernel)
theorem Sm.op1{b:Addr}{w:Str}{u:V}(e:G b=some (.tup [.str w,u]))(h:Sm K n G u)(h1:w∈W1)(h6:w∈W6)(hn:w∈(["not","next","before","until","since"]:List Str)):Sm K (n+1) G (.ref b):=by
 obtain⟨t,a1,a2,a3,a4⟩:=h;refine⟨_,ZbD (nX e) h1 a1,Zcr h6 a2,?_,KB (Zc2 hn) (fun k hk=>by rw[fM] at hk;rw[hk];exact a4)⟩;rw[WN,mD];have:=l6 n 3 (by decide);simp;omega
theorem Sm.op2{b:Addr}{w:Str}{u:V}(e:G b=some (.tup [.str w,u,v]))(h:Sm K n G u)(g:Sm K n G v)(h1:w∈W2)(h6:w∈W6)(hn:w∈(["not","next","before","until","since"]:List Str)):Sm K (n+1) G (.ref b):=by
 obtain⟨t,a1,a2,a3,a4⟩:=h;obtain⟨r,b1,b2,b3,b4⟩:=g;refine⟨_,Zbz (nX e) h1 a1 b1,Zcn h6 a2 b2,?_,KB (Zc2 hn) (fun k hk=>by
  simp only[fF,gO,gQ] at hk;rcases hk with rfl|rfl
  ·exact a4
  ·exact b4)⟩
 rw[WN,mD];have:=l6 n 3 (by decide);simp;omega
theorem Sm.up{m:Nat}{x:V}(h:Sm K n G x)(hm:n<=m):Sm K m G x:=let ⟨t,h1,h2,h3,h4⟩:=h; ⟨t,h1.le hm,h2,fK h3 (nE (by decide) hm),h4⟩
def Zfi(K:W.Frag)(a:Adr):Sp:=fun vs H Q _=>∃(p:Addr) (ns:List Int),vs=[.ref p]/\SqL K H p (ns.map V.int)/\ns.length<=63/\∀H',Q (.bl true) H'
theorem ZeX:Okd P w K mg base a 13 a.y55 a.z55 eN Zfi:=fun T hw=>by
 have bt:=jC (P:=P) (w:=w) (base:=base) T hw 8;refine okX T.cM.f Xy fun cR A outer s H E hr=>?_;intro X
 let d1:Rdg X Y2 [4,0,11]:=⟨_,(Zh (Z2 (Xg (Xw (ZB T.aW (zT T hw) hr rfl rfl (Zq (pv 3) (Zq (pv 2) (Zq (pv 4) (Zq (pv 6) (Zq (pv 7) Zb rfl) rfl) rfl) rfl) rfl)))) (Zh (Zm Y9)) ZD))⟩
 let d2:Rdg X Y2 [4,0,10]:=⟨_,(Zc (Z2 (PW.pt (UC (Zw (U1 (K:=K) rfl (YA.units hr)) (pv 10) (ZY (Za (pv 4) (Za (pv 7) Zb rfl) rfl)) (ZK _)) (VH (Zw (U1 (K:=K) rfl (YA.units hr)) (ZB T.az (Xp T hw) hr rfl rfl (Zq (pv 3) (Zq (pv 4) (Zq (pv 6) (Zq (pv 7) (Zq Zf Zb rfl) rfl) rfl) rfl) rfl)) (ZY Zb) (ZK _))))) (Zh (Zm Y9)) ZD) d1.2)⟩
 let d3:Rdg X Y2 [4,0,9]:=⟨_,(Zc (Z2 (PW.pt (UC (Zw (U1 (K:=K) rfl (YA.units hr)) (ZB T.az (Xp T hw) hr rfl rfl (Zq (pv 3) (Zq (pv 4) (Zq (pv 6) (Zq (pv 7) (Zq (pv 8) Zb rfl) rfl) rfl) rfl) rfl)) (pv 9) (ZK _)) (VH (Zw Zbw (ZB T.cE (Zda T hw) hr rfl rfl (Zq (pv 3) (Zq (pv 4) (Zq (pv 6) (Zq (pv 7) Zb rfl) rfl) rfl) rfl)) (Zv (Zr (K:=K) rfl) (pv 9) Zf (fun _ _=>rfl)) (ZK _))))) (Zh (Zm Y9)) ZD) d2.2)⟩
 let d4:Rdg X Y2 [4,0,8]:=⟨_,(Zc (Yq (KH gv PySem.F.slot_list_clear PySem.F.type_list_clear Zbj (pv 11)) rfl) d3.2)⟩
 let d5:Rdg X Y2 [4,0,7]:=⟨_,(Zc (Z2 (PW.pt (UC (Xg (Xw (Zl (Xr (K:=K) rfl "list") rfl T.ae nZ (Za (pv 11) (Za (XU (v:=.ty "list") rfl T.aN nY rfl) Zb rfl) rfl)))) (UC (Zw (U1 (K:=K) rfl (YA.units hr)) (pv 11) (pv 9) (ZK _)) (VH (Xg (Xw (Zl (Ve (K:=K) rfl rfl) rfl T.cr og (Za (ZU (Nc:=cX) (ix:=[none]) (ZL.of (by decide +kernel:ZS (Zg Y2) Zcy _ _ _=true)) rfl (ZE (K:=K) rfl (pv 11)) (fun _ _ _ _ _=>(Zo (i:=0) (show List.Nodup cX by decide +kernel) rfl (.inl rfl))) (fun _ _ _ _ _=>Z3) (fun _ _ _ _ _=>(Zl (Xr (K:=K) rfl "bool") rfl T.ae nZ (Za (pv 0) (Za (XU (v:=.ty "bool") rfl T.cG PyProof.Rows.Boot.«bool» rfl) Zb rfl) rfl)))) Zb rfl)))))))) (Zh (Zm Y9)) ZD) d4.2)⟩
 let d6:Rdg X Y2 [4,0,6]:=⟨_,(Zc (Zn (i:=11) Xy.nd rfl (.inl rfl) (ZB T.az (Xp T hw) hr rfl rfl (Zq (pv 3) (Zq (pv 4) (Zq (pv 6) (Zq (pv 7) (Zq (pv 8) Zb rfl) rfl) rfl) rfl) rfl)) rfl (.inl rfl)) d5.2)⟩
 let d7:Rdg X Y2 [4,0,5]:=⟨_,(Zc (Zn (i:=10) Xy.nd rfl (.inl rfl) (ZY (Za (ZX (Za (ZO (YL (K:=K) rfl rfl) rfl T.aN nY (Za (Zv (ZP (K:=K) rfl) (pv 4) Zf (fun _ _=>rfl)) Zb rfl)) (Za (ZO (YL (K:=K) rfl rfl) rfl T.aN nY (Za (Zv (ZP (K:=K) rfl) (pv 4) Zf (fun _ _=>rfl)) Zb rfl)) Zb rfl) rfl)) (Za (ZU (Nc:=dj) (ix:=[none,none]) (ZL.of (by decide +kernel:ZS (Zg Y2) Zcy _ _ _=true)) rfl (ZE (K:=K) rfl (pv 7)) (fun _ _ _ _ _=>(WH (K:=K) (n:=2) rfl rfl (Yj (Zo (i:=0) (show List.Nodup dj by decide +kernel) rfl (.inl rfl)) (Yj (Zo (i:=1) (show List.Nodup dj by decide +kernel) rfl (.inl rfl)) WF)))) (fun _ _ _ _ _=>Z3) (fun _ _ _ _ _=>(ZX (Za (pv 0) (Za (ZO (YL (K:=K) rfl rfl) rfl T.aN nY (Za (pv 1) Zb rfl)) Zb rfl) rfl)))) Zb rfl) rfl)) rfl (.inl rfl)) d6.2)⟩
 let d8:Rdg X Y2 [4,0,4]:=⟨_,(Zc (Zn (i:=9) Xy.nd rfl (.inl rfl) (ZB T.aS (VI T hw) hr rfl rfl (Zq (pv 3) (Zq (pv 4) (Zq (pv 6) (Zq (pv 7) (Zq (pv 8) Zb rfl) rfl) rfl) rfl) rfl)) rfl (.inl rfl)) d7.2)⟩
 let d9:Rdg X Y2 [4,0,3]:=⟨_,(Zc (Zn (i:=8) Xy.nd rfl (.inl rfl) (ZR XC (Zl (Zu (K:=K) rfl) rfl T.ay oh (Za (Zv (ZP (K:=K) rfl) (pv 4) Zf (fun _ _=>rfl)) Zb rfl)) (ZR xW Zf (Zl (Zu (K:=K) rfl) rfl T.ay oh (Za (Zv (ZP (K:=K) rfl) (pv 4) Zf (fun _ _=>rfl)) Zb rfl)))) rfl (.inl rfl)) d8.2)⟩
 let d10:Rdg X Y2 [4,0,2]:=⟨_,(Zc (Zn (i:=7) Xy.nd rfl (.inl rfl) (ZB T.bL (kj T hw) hr rfl rfl (Zq (pv 1) (Zq (pv 6) (Zq (V2 (pv 3) T.aj T.ab.m (Xs T hw) (rmL hr rfl) T.ab.n .nil YK) Zb rfl) rfl) rfl)) rfl (.inl rfl)) d9.2)⟩
 let d11:Rdg X Y2 [4,0,1]:=⟨_,(Zc (Zn (i:=6) Xy.nd rfl (.inl rfl) (Wh bt (rmL hr rfl) rfl T.am.g T.am.f.kp T.am.n .nil YK (Zq (pv 1) (Zq (pv 2) (Zq (ZR XC Zf (ZB T.aa (ZH T hw) hr rfl rfl (Za (pv 1) (Za Zf Zb rfl) rfl))) Zb rfl) rfl) rfl)) rfl (.inl rfl)) d10.2)⟩
 let d12:Rdg X Y2 [4,0,0]:=⟨_,(Zc (Zn (i:=1) Xy.nd rfl (.inl rfl) (ZB T.aQ (VN T hw) hr rfl rfl (Za (pv 5) Zb rfl)) rfl (.inl rfl)) d11.2)⟩
 let d13:Rdg X Y2 [11]:=⟨_,(Zh (Zm (Xb (QI (K:=K) rfl (YA.units hr)) (ZB T.az (Xp T hw) hr rfl rfl (Zq (pv 3) (Zq (pv 4) (Zq (pv 6) (Zq (ZY Zb) (Zq Zf Zb rfl) rfl) rfl) rfl) rfl)) (ZB T.aS (VI T hw) hr rfl rfl (Zq (pv 3) (Zq (pv 4) (Zq (pv 6) (Zq (ZY Zb) (Zq Zf Zb rfl) rfl) rfl) rfl) rfl)) (ZK _))))⟩
 let d14:Rdg X Y2 [10]:=⟨_,(Zc (Zn (i:=6) Xy.nd rfl (.inl rfl) (Zv (Zr (K:=K) rfl) (pv 14) (ZR Uf (ZR U4 (ZB T.ak (YO T hw) hr rfl rfl (Za (pv 0) (Za Zf Zb rfl) rfl)) Zf) Zf) (fun _ _=>rfl)) rfl (.inl rfl)) d13.2)⟩
 let d15:Rdg X Y2 [9]:=⟨_,(Zc (Yq (XR gv gH gI Z1 (pv 14) (Za (ZX (Za Zz (Za (ZX (Zq Zz (Zq (pv 13) (Zq (pv 12) Zb rfl) rfl) rfl)) Zb rfl) rfl)) Zb rfl)) rfl) d14.2)⟩
 let d16:Rdg X Y2 [8]:=⟨_,(Zc (Zn (i:=14) Xy.nd rfl (.inl rfl) (ZY (Zq (ZX (Za Zz (Za (pv 12) Zb rfl) rfl)) (Zq (ZX (Za Zz (Za (pv 13) Zb rfl) rfl)) (Zq (ZX (Zq Zz (Zq (pv 13) (Zq (pv 12) Zb rfl) rfl) rfl)) (Zq (ZX (Zq Zz (Zq (pv 12) (Zq (pv 13) Zb rfl) rfl) rfl)) Zb rfl) rfl) rfl) rfl)) rfl (.inl rfl)) d15.2)⟩
 let d17:Rdg X Y2 [7]:=⟨_,(Zc (Zn (i:=13) Xy.nd rfl (.inl rfl) (ZX (Za Zz (Za (ZX (Za Zz (Za (Zv (Zr (K:=K) rfl) (pv 2) Zf (fun _ _=>rfl)) Zb rfl) rfl)) Zb rfl) rfl)) rfl (.inl rfl)) d16.2)⟩
 let d18:Rdg X Y2 [6]:=⟨_,(Zc (Zn (i:=12) Xy.nd rfl (.inl rfl) (ZX (Za Zz (Za (Zv (Zr (K:=K) rfl) (pv 2) Zf (fun _ _=>rfl)) Zb rfl) rfl)) rfl (.inl rfl)) d17.2)⟩
 let d19:Rdg X Y2 [5]:=⟨_,(Zc (Z2 (Zw Zbw (ZR Uf (ZB T.ak (YO T hw) hr rfl rfl (Za (pv 0) (Za Zf Zb rfl) rfl)) Zf) Zf (ZK _)) (Zh (Zm Y9)) ZD) d18.2)⟩
 let d20:Rdg X Y2 [4]:=⟨_,(Zc (XF gw rfl (ZE (K:=K) rfl (ZY (Za (ZB T.ak (YO T hw) hr rfl rfl (Za (pv 0) (Za Zf Zb rfl) rfl)) (Za (ZB T.ak (YO T hw) hr rfl rfl (Za (pv 0) (Za Zf Zb rfl) rfl)) Zb rfl) rfl))) (Zo (i:=5) Xy.nd rfl (.inl rfl)) d12.2) d19.2)⟩
 let d21:Rdg X Y2 [3]:=⟨_,(Zc (Zn (i:=4) Xy.nd rfl (.inl rfl) (ZB T.bR (Jz T hw) hr rfl rfl (Za (ZB T.aQ (VN T hw) hr rfl rfl (Za (ZB T.ak (YO T hw) hr rfl rfl (Za (pv 0) (Za Zf Zb rfl) rfl)) Zb rfl)) (Za (pv 3) Zb rfl) rfl)) rfl (.inl rfl)) d20.2)⟩
 let d22:Rdg X Y2 [2]:=⟨_,(Zc (Zn (i:=3) Xy.nd rfl (.inl rfl) (ZB T.bw (vt T hw) hr rfl rfl (Za (pv 1) (Za (pv 2) Zb rfl) rfl)) rfl (.inl rfl)) d21.2)⟩
 let d23:Rdg X Y2 [1]:=⟨_,(Zc (Zn (i:=2) Xy.nd rfl (.inl rfl) (ZB T.bv (vf T hw) hr rfl rfl (Za (pv 1) Zb rfl)) rfl (.inl rfl)) d22.2)⟩
 intro vs Q h;obtain⟨p,ns,rfl,hq,hz,k⟩:=h;refine⟨_,(Zc (Zn (i:=1) Xy.nd rfl (.inl rfl) (ZB T.aQ (VN T hw) hr rfl rfl (Za (ZB T.ak (YO T hw) hr rfl rfl (Za (pv 0) (Za Zf Zb rfl) rfl)) Zb rfl)) rfl (.inl rfl)) d23.2),?_⟩;refine⟨_,rfl,p,ns,0,rfl,hq,fun n0=>⟨n0,rfl,fun H1 s s1 s0 st1=>?_⟩⟩;obtain⟨o1,ho1⟩:=st1.lst;refine⟨_,rfl,s,0,rfl,st1,by decide,fun H2 nm nn x2 st2 nm0 hnm ln nnd nnm=>?_⟩;have nns:nm≠s:=fun z=>by rw[z,ho1] at nm0;cases nm0
 refine⟨_,rfl,_,rfl,s,nm,10,nn,rfl,st2,by decide,hnm,ln,nnd,nnm,nns,fun H3 w d x3 w3 gd n20=>?_⟩;have u3:Ze H H3:=UW s1 s0 (x2.trans x3);refine⟨_,rfl,p,ns,1,rfl,u3.seq hq,fun n1=>⟨n1,rfl,fun H4 s' s4 s40 st4=>⟨_,rfl,s',w,0,d,rfl,st4,by decide,w3.mono s4,gd,n20,fun H5 rn way ring x5 r5 l31=>?_⟩⟩⟩;have u35:Ze H3 H5:=UW s4 s40 x5;have hq5:=(u3.trans u35).seq hq;have w5:=w3.mono u35;have hnm5:=u35 _ _ (x3 _ _ nns hnm);clear x2 x3 x5 s1 s0 st1 st2 s4 s40 st4 u3 u35 hnm nm0 w3 hq ho1;refine⟨_,rfl,p,ns,2,rfl,hq5,fun n2=>⟨_,rfl,p,ns,3,rfl,hq5,fun n3=>⟨sz2,fun LL hLL=>?_⟩⟩⟩;obtain⟨H6,qN,u6,eLL⟩:=ZN (o:=.lst [.int n2,.int n3]) hLL;rw[qN];have hq6:=u6.seq hq5;have w6:=w5.mono u6;have hnm6:=u6 _ _ hnm5;have r6:=r5.mono u6;clear hq5 w5 hnm5 r5;have all2:∀x∈[V.int n2,.int n3],∃c:Int,x=.int c:=fun x hx=>by
  simp only[fF,gO,gQ] at hx;rcases hx with rfl|rfl
  ·exact⟨_,rfl⟩
  ·exact⟨_,rfl⟩
 generalize [V.int n2,.int n3]=cs at eLL all2;refine⟨LL,rfl,⟨_,nV eLL⟩,?_⟩
 let J1:Nat->L2.St->Hp->Prop:=fun i U G=>ZfC fun(z1 z5 z6 z7 z8 z9 z10 z11 z12 z13 z14:Option V)=>Cj2 (U=[some (.ref p),z1,some (.ref nm),some (.ref w),some (.ref rn),z5,z6,z7,z8,z9,z10,z11,z12,z13,z14]) (Ze H6 G)
 refine Y4 (J:=Itl K LL) (n:=cs.length) J1 ?_ ?_ ?_ ?_ ?_
 ·exact⟨_,_,_,_,_,_,_,_,_,_,_,rfl,.refl _⟩
 ·rintro i U F hi ⟨z1,z5,z6,z7,z8,z9,z10,z11,z12,z13,z14,rfl,sF⟩;exact⟨_,_,nV (sF _ _ eLL),fj hi⟩
 ·rintro U F ⟨z1,z5,z6,z7,z8,z9,z10,z11,z12,z13,z14,rfl,sF⟩;exact⟨_,nV (sF _ _ eLL),fh _⟩
 ·rintro i x U F0 F hi ⟨z1,z5,z6,z7,z8,z9,z10,z11,z12,z13,z14,rfl,sF⟩ ⟨rfl,hx⟩;have ex:=hx _ (nV (sF _ _ eLL));obtain⟨c,rfl⟩:=all2 x (fU ex);refine⟨_,rfl,c,rfl,fun F1 t s1 t0 st1=>?_⟩;have er:∀r:Nat,(1:Int)+(r:Nat)=((1+r:Nat):Int):=fun r=>by omega
  have sF1:=sF.trans s1;have nmt:nm≠t:=fun z=>by rw[<- z,sF _ _ hnm6] at t0;cases t0
  refine⟨_,rfl,_,rfl,_,rfl,t,3,0,rfl,st1,by decide,by decide,by decide,fun F2 r x2 st2 hr=>⟨_,_,rfl,rfl,t,nm,nn,1,1+r,by rw[er];rfl,by omega,by omega,st2,?_,x2 _ _ nmt (sF1 _ _ hnm6),ln,nnm,nmt,fun F3 v tr x3 st3 at3 ic3 sz3=>?_⟩⟩
  ·have:=nE (show 0<5 by decide) (show 1+r+1<=4 by omega);omega
  have q5:=nE (show 0<5 by decide) (show 1+r+1<=4 by omega);have q3:=nE (show 0<3 by decide) (show 1+r+1<=4 by omega);have dp3:dpt tr<=10:=fK (j4 at3.ok) (by omega);have z3:psz tr<=200:=by omega
  have st3':=st3.le (show 1+5 ^ (1+r+1)<=626 by omega);have m8:1+r+1<8:=by omega
  generalize 1+r+1=m at at3 m8;obtain⟨o3,ho3⟩:=st3'.lst;have u3:Ze F F3:=UW s1 t0 (x2.trans x3);have w3:=w6.mono (sF.trans u3);obtain⟨dx,fs,ho,hk0⟩:=yy w3;refine⟨_,rfl,_,rfl,_,rfl,w,dx,fs,rfl,ho,hk0,w,d,rfl,w3,t,v,626,m,d.signs.length,tr,rfl,st3',by decide,n20,at3,m8,ic3,z3,by omega,fun F4 sl st ss xs x4 sl0 sT hsub hall hb=>?_⟩;have u4:Ze F F4:=UW u3 t0 x4;have at4:=at3.mono (Zs.tup x4 ho3);have dps:∀s∈ss,dpt s<=40:=fun s hs=>by
   rcases hsub s hs with e|e
   ·rw[e];decide +kernel
   ·exact fK (UQ _ (fh _) (YQ _ (fh _) e)) (by omega)
  have sx:Sx K F4 sl st tr ss:=⟨⟨xs,sT.hs,sT.len,fun i v t h1 h2=>(let ⟨b,l,e,n,q1,q2,q3,q4,_⟩:=sT.it i v t h1 h2; ⟨b,l,e,n,q1,q2,q3,q4⟩)⟩,sT.nd,sT.short,hsub,hall⟩;have s4:=sF.trans u4;clear sT x4 x3 x2 st3 st3' st2 st1 ho3 ho at3 w3 u3 q5 q3 hsub hall hb sl0 s1 sF1;have r6':=r6;obtain⟨⟨W,GR,hrn,hW,hG⟩,hne,hbd⟩:=r6';refine⟨_,rfl,rn,_,_,_,rfl,rfl,nX (s4 _ _ hrn),Zj (j:=0) rfl,.inl ⟨W,_,rfl,.inl (nV (s4 _ _ hW)),?_⟩⟩;refine⟨_,rfl,rn,_,_,_,rfl,rfl,nX (s4 _ _ hrn),Zj (j:=1) rfl,.inl ⟨GR,_,rfl,.inl (nV (s4 _ _ hG)),?_⟩⟩;rw[fi,fi];refine⟨_,_,rfl,rfl,.inl ⟨by decide,by decide⟩,_,_,rfl,rfl,?_⟩;have em:((way.length:Nat):Int)+3*((ring.length:Nat):Int)=((way.length+3*ring.length:Nat):Int):=by omega
  rw[em];have lap:=l31;rw[fu] at lap;have lm:way.length+3*ring.length<=50000:=by omega
  have lm1:0<way.length+3*ring.length:=by have:=iJ.mpr hne;omega
  generalize way.length+3*ring.length=many at lm lm1;have w4:=w6.mono s4;refine⟨_,rfl,_,rfl,_,rfl,_,rfl,_,rfl,w,rn,sl,v,m,many,tr,d,st,way,ring,rfl,w4,r6.mono s4,at4,m8,ic3,by omega,by omega,l31,lm,sx.pairs,fun F5 du s5 du0 hdu=>?_⟩;have s45:=s4.trans s5;refine⟨_,rfl,rn,_,_,_,rfl,rfl,nX (s45 _ _ hrn),Zj (j:=0) rfl,.inl ⟨W,_,rfl,.inl (nV (s45 _ _ hW)),fun A1 hA1=>?_⟩⟩;obtain⟨G1,qN,g1,eA1⟩:=ZN (o:=.lst (way.map V.int)) hA1;rw[qN];refine⟨_,rfl,rn,_,_,_,rfl,rfl,nX (g1 _ _ (s45 _ _ hrn)),Zj (j:=1) rfl,.inl ⟨GR,_,rfl,.inl (nV (g1 _ _ (s45 _ _ hG))),fun A2 hA2=>?_⟩⟩;obtain⟨G2,qN,g2,eA2⟩:=ZN (o:=.lst (ring.map V.int)) hA2;rw[qN];refine⟨sz2,fun TT hTT=>?_⟩;obtain⟨G3,qN,g3,eTT⟩:=ZN (o:=.tup [.ref A1,.ref A2]) hTT;rw[qN];have g13:=g1.trans (g2.trans g3);have sx3:=sx.mono (s5.trans g13);obtain⟨xs',hxs',lx',hats⟩:=sx3.at_;have few:=sx.few z3;refine⟨_,rfl,sl,rfl,⟨_,nV hxs'⟩,fun D hD=>?_⟩
  let J2:Nat->L2.St->Hp->Prop:=fun i U G=>Ex3 fun(y1 y2:Option V) (ys:List V)=>Cj5 (U=[y1,y2]) (Ze G3 G) (G D=some (.lst ys)) (ys.length=i) (∀(j:Nat) v t,ys[j]?=some v->ss[j]?=some t->∃(b l:Addr) (e:V) (n:Nat),v=.ref b/\SqT K G b [e,.ref l]/\At K n G e t/\G l=some (.lst ((st t).map V.int))/\l≠D)
  refine YJ (J:=Itl K sl) (n:=ss.length) J2 ?_ ?_ ?_ ?_ ?_
  ·exact⟨_,_,[],rfl,Zi hD,Zd,rfl,fun j v t h=>by simp at h⟩
  ·rintro i U G hi ⟨y1,y2,ys,rfl,sG,_⟩;exact⟨_,_,nV (sG _ _ hxs'),fj (by omega)⟩
  ·rintro U G ⟨y1,y2,ys,rfl,sG,_⟩;exact⟨_,nV (sG _ _ hxs'),by omega⟩
  ·rintro i x U G0 G hi ⟨y1,y2,ys,rfl,sG,gD,ly,hys⟩ ⟨rfl,hx⟩ N N0 hN hN0;have ex:=hx _ (nV (sG _ _ hxs'));have hs:ss[i]?=some ss[i]:=fj hi;generalize ss[i]=u at hs;obtain⟨b,l,e,n,rfl,hb,he,hl⟩:=hats _ _ _ ex hs;refine⟨b,_,rfl,nW sG _ _ _ hb,rfl,_,_,rfl,_,_,rfl,rfl,?_⟩;refine YB (B:=True) (YB ⟨_,rfl,_,rfl,.inl ⟨l,_,rfl,.inl (nV (sG _ _ hl)),fun l2 hl2=>?_⟩⟩);obtain⟨E1,qN,f1,e1⟩:=ZN (o:=.lst ((st u).map V.int)) hl2;rw[qN];refine⟨sz2,fun q hq=>?_⟩;obtain⟨E2,qN,f2,eq⟩:=ZN (o:=.tup [e,.ref l2]) hq;rw[qN];have f12:=f1.trans f2;have nD:l2≠D:=fun z=>by rw[z,gD] at hl2;cases hl2
   have gE:=f12 _ _ gD;have tU:=WQ (o:=.lst (ys++[.ref q])) gE;refine hN _ _ E2 ys gE (by rw[ly,ft];omega) ⟨_,_,ys++[.ref q],rfl,(Zs.upd (Ze.x (sG.trans f12))).same hD,Zd,by rw[fu,ly];rfl,fun j v' t' h1 h2=>?_⟩
   by_cases cj:j<ys.length
   ·rw[fW cj] at h1;obtain⟨b',l',e',n',q1,q2,q3,q4,q5⟩:=hys j v' t' h1 h2;exact⟨b',l',e',n',q1,tU _ _ _ (nW f12 _ _ _ q2),(q3.mono (nW f12)).mono tU,by rw[Zx q5];exact f12 _ _ q4,q5⟩
   ·have lj:=(fD.mp h1).1;rw[fu,gn] at lj;obtain rfl:j=i:=by omega
    rw[gf (by omega),ly,gN] at h1;rw[hs] at h2;cases h1;cases h2;exact⟨q,l2,e,n,rfl,tU _ _ _ (nX eq),(he.mono (nW (sG.trans f12))).mono tU,by rw[Zx nD];exact f2 _ _ e1,nD⟩
  rintro U G4 ⟨y1,y2,ys,rfl,g4,eD,ly,hys⟩;have cp:Ux K G4 D st ss:=⟨ys,eD,ly,fun j v t h1 h2=>(let ⟨b,l,e,n,q1,q2,q3,q4,_⟩:=hys j v t h1 h2; ⟨b,l,e,n,q1,q2,q3,q4⟩)⟩;clear hys hats hxs' sx3;refine⟨sz2,fun HH hHH=>?_⟩;obtain⟨F6,qN,g5,eHH⟩:=ZN (o:=.lst [.ref TT,.ref D]) hHH;rw[qN];have g45:=g4.trans g5;have g35:=g3.trans g45;have dH:Dp K F6 (.ref HH) (.list [dR way ring,.list (ss.map (dSe st))]):=.lst (nV eHH) (.cons (dpR (g45 _ _ eTT) ((g2.trans g35) _ _ eA1) (g35 _ _ eA2)) (.cons (ZgH (cp.mono g5)) .nil));have fH:Ug 43 (.list [dR way ring,.list (ss.map (dSe st))]):=Zf4 ((Zgr way ring).up (by decide)) (Zfn sx.at_ dps);have s56:Ze F5 F6:=g13.trans g45;have s46:=s5.trans s56;have s06:=s4.trans s46;have hdu6:=s56 _ _ hdu;have sx6:=sx.mono s46;have at6:=at4.mono (nW s46);have w6':=w6.mono s06;have r6'':=r6.mono s06;have rd:=Zdi w6' rfl n20 sx6 at6 ic3 z3 r6'' l31;have rdm:∀{G:Hp},Ze F6 G->Rd K a G w rn sl v d way ring tr st:=fun sG=>Zdi (w6'.mono sG) rfl n20 (sx6.mono sG) (at6.mono (nW sG)) ic3 z3 (r6''.mono sG) l31;clear cp eTT eA1 eA2 eD sx at4 w4 hA1 hA2 hTT hD hHH;refine⟨_,rfl,_,rfl,_,rfl,_,rfl,_,rfl,w,rn,sl,v,many,tr,d,st,way,ring,rfl,rd,lm,fun F7 fo s7 fo0 hfo=>?_⟩;refine⟨_,rfl,.ref fo,.type "list",true,rfl,UF.lst hfo,rfl,_,rfl,Z7 ?_⟩;refine⟨_,rfl,_,rfl,xU (JT _) (by decide) (dpB hfo) (dpB (s7 _ _ hdu6)) ⟨_,rfl,Z7 ?_⟩⟩;refine⟨_,rfl,fo,rfl,⟨_,nV hfo⟩,fun D2 hD2=>?_⟩;refine Y0 (K:=K) ((List.range many).map (Z5 d st (XD way ring) tr)) V.bl (fun _=>.bl true) hD2 (nV hfo) (by rw[fi,fY,ft];omega) ?_ ?_
  ·intro b hb G N sG hN;exact⟨_,rfl,.bl b,.type "bool",true,rfl,UF.bl b,rfl,hN _ (.refl _)⟩
  intro F8 hF8 s8;refine⟨D2,((List.range many).map (Z5 d st (XD way ring) tr)).map (fun _=>true),rfl,by rw[gB];exact nV hF8,?_⟩;have ea:(((List.range many).map (Z5 d st (XD way ring) tr)).map (fun _=>true)).all id=true:=by simp
  rw[ea];refine⟨_,rfl,Z7 ?_⟩;have hfo8:=s8 _ _ hfo;refine⟨_,rfl,.inl ⟨rfl,_,nV hfo8⟩,fo,_,rfl,rfl,hfo8,?_⟩;have s69:Ze F6 (upd F8 fo (.lst [])):=(Zs.upd (Ze.x (s7.trans s8))).same fo0;generalize upd F8 fo (.lst [])=F9 at s69;clear hF8 ea hD2 s8 hfo8 hfo s7 fo0;refine⟨_,rfl,_,rfl,_,rfl,_,rfl,_,rfl,w,rn,sl,v,many,tr,d,st,way,ring,rfl,rdm s69,lm,fun F10 f2 s10 _ hf2=>⟨_,rfl,xU (JT _) (by decide) (dpB hf2) (dpB (s10 _ _ (s69 _ _ hdu6))) ⟨_,rfl,Z7 ?_⟩⟩⟩;have s610:=s69.trans s10;refine⟨_,rfl,_,rfl,_,rfl,_,rfl,w,rn,sl,v,tr,d,st,way,ring,rfl,rdm s610,fun F11 s11=>?_⟩;have s611:=s610.trans s11;refine⟨_,rfl,du,_,_,_,rfl,rfl,nV (s611 _ _ hdu6),yD (k:=0) lm1,rfl,_,rfl,Z4 rfl ?_⟩;refine⟨_,rfl,_,rfl,_,rfl,sz2,fun Z hZ=>?_⟩;obtain⟨F12,qN,s12,eZ⟩:=ZN (o:=.lst [.ref rn,.ref sl]) hZ;rw[qN];have s612:=s611.trans s12;have s012:=s06.trans s612;refine xU fH (by decide) (dH.mono s612) (.lst (nV eZ) (.cons (dpR (s012 _ _ hrn) (s012 _ _ hW) (s012 _ _ hG)) (.cons (ZgH (sx6.mono s612).at_) .nil))) ⟨_,rfl,Z7 ?_⟩;refine⟨_,rfl,_,rfl,_,rfl,_,rfl,w,rn,sl,v,0,tr,d,st,way,ring,rfl,rdm s612,by decide,fun F13 f3 s13 _ hf3=>⟨by decide,fun E3 hE3=>?_⟩⟩;obtain⟨F14,qN,s14,eE3⟩:=ZN (o:=.lst []) hE3;rw[qN];refine xU (JT []) (by decide) (dpB (bs:=[]) (s14 _ _ hf3)) (dpB (bs:=[]) eE3) ⟨_,rfl,Z7 ?_⟩;have s614:=s612.trans (s13.trans s14);refine⟨_,rfl,_,rfl,_,rfl,_,rfl,_,rfl,w,nm,rn,sl,v,m,nn,tr,d,st,ss,way,ring,rfl,w6'.mono s614,gd,n20,(s06.trans s614) _ _ hnm6,ln,nnd,nnm,r6''.mono s614,l31,at6.mono (nW s614),m8,ic3,z3,by omega,sx6.mono s614,fun F15 s15=>⟨_,rfl,Z7 ?_⟩⟩;exact⟨_,_,_,_,_,_,_,_,_,_,_,rfl,(s06.trans s614).trans s15⟩
 rintro U G ⟨z1,z5,z6,z7,z8,z9,z10,z11,z12,z13,z14,rfl,sG⟩;have hqG:=sG.seq hq6;refine⟨_,rfl,p,ns,4,rfl,hqG,fun n4=>⟨_,_,rfl,rfl,by decide,rfl,_,rfl,X9 (fun c=>k _) (fun c=>?_)⟩⟩;clear c;obtain⟨x1,x2,x3,rfl⟩:∃x1 x2 x3,nn=[x1,x2,x3]:=by
  match nn,ln with
  |[x1,x2,x3],_=>exact⟨x1,x2,x3,rfl⟩
 have hx1:=nnm x1 (by simp);have hx2:=nnm x2 (by simp);have hnmG:=sG _ _ hnm6;have sz2:2<=sizeLine:=by rw[ft];decide
 have sz3:3<=sizeLine:=by rw[ft];decide
 refine⟨_,rfl,nm,_,_,_,rfl,rfl,nV hnmG,Zj (j:=0) rfl,sz2,fun a1 h1=>?_⟩;obtain⟨G1,qN,g1,e1⟩:=ZN (o:=.tup [.str "sign",.str x1]) h1;rw[qN];refine⟨_,rfl,nm,_,_,_,rfl,rfl,nV (g1 _ _ hnmG),Zj (j:=1) rfl,sz2,fun a2 h2=>?_⟩;obtain⟨G2,qN,g2,e2⟩:=ZN (o:=.tup [.str "sign",.str x2]) h2;rw[qN];refine⟨sz2,fun a3 h3=>?_⟩;obtain⟨G3,qN,g3,e3⟩:=ZN (o:=.tup [.str "not",.ref a2]) h3;rw[qN];have w1:("not" : Str)∈W1/\("next" : Str)∈W1/\("before" : Str)∈W1/\("until" : Str)∈W2/\("since" : Str)∈W2:=by decide +kernel
 have w6a:("not" : Str)∈W6/\("next" : Str)∈W6/\("before" : Str)∈W6/\("until" : Str)∈W6/\("since" : Str)∈W6:=by decide +kernel
 have g23:=g2.trans g3;have m1:Sm K 2 G3 (.ref a1):=Sm.sign (g23 _ _ e1) hx1;have m3:Sm K 2 G3 (.ref a3):=Sm.op1 e3 (Sm.sign (n:=0) (g3 _ _ e2) hx2) w1.1 w6a.1 (by simp);refine⟨_,rfl,sz2,fun b1 h1=>?_⟩;obtain⟨G4,qN,f1,c1⟩:=ZN (o:=.tup [.str "next",.ref a1]) h1;rw[qN];refine⟨_,rfl,sz2,fun b2 h2=>?_⟩;obtain⟨G5,qN,f2,c2⟩:=ZN (o:=.tup [.str "before",.ref a3]) h2;rw[qN];refine⟨_,rfl,_,rfl,sz3,fun b3 h3=>?_⟩;obtain⟨G6,qN,f3,c3⟩:=ZN (o:=.tup [.str "until",.ref a3,.ref a1]) h3;rw[qN];refine⟨_,rfl,_,rfl,sz3,fun b4 h4=>?_⟩;obtain⟨G7,qN,f4,c4⟩:=ZN (o:=.tup [.str "since",.ref a1,.ref a3]) h4;rw[qN];refine⟨sz4,fun SL hSL=>?_⟩;obtain⟨G8,qN,f5,c5⟩:=ZN (o:=.lst [.ref b1,.ref b2,.ref b3,.ref b4]) hSL;rw[qN];refine⟨_,rfl,.inl ⟨rfl,_,nV c5⟩,_,rfl,_,rfl,sz3,fun b5 h5=>?_⟩;obtain⟨G9,qN,f6,c6⟩:=ZN (o:=.tup [.str "since",.ref a3,.ref a1]) h5;rw[qN];refine⟨sz2,fun b6 h6=>?_⟩;obtain⟨G10,qN,f7,c7⟩:=ZN (o:=.tup [.str "before",.ref b5]) h6;rw[qN];have f67:=f6.trans f7;have hSL10:=f67 _ _ c5;refine⟨SL,_,_,rfl,rfl,hSL10,sz4l,?_⟩;have f47:Ze G3 G10:=f1.trans (f2.trans (f3.trans (f4.trans (f5.trans f67))));have n1:=m1.mono f47;have n3:=m3.mono f47;have o1:Sm K 4 G10 (.ref b1):=(Sm.op1 ((f2.trans (f3.trans (f4.trans (f5.trans f67)))) _ _ c1) n1 w1.2.1 w6a.2.1 (by simp)).up (by decide);have o2:Sm K 4 G10 (.ref b2):=(Sm.op1 ((f3.trans (f4.trans (f5.trans f67))) _ _ c2) n3 w1.2.2.1 w6a.2.2.1 (by simp)).up (by decide);have o3:Sm K 4 G10 (.ref b3):=(Sm.op2 ((f4.trans (f5.trans f67)) _ _ c3) n3 n1 w1.2.2.2.1 w6a.2.2.2.1 (by simp)).up (by decide);have o4:Sm K 4 G10 (.ref b4):=(Sm.op2 ((f5.trans f67) _ _ c4) n1 n3 w1.2.2.2.2 w6a.2.2.2.2 (by simp)).up (by decide);have o5:Sm K 4 G10 (.ref b6):=Sm.op1 c7 (Sm.op2 (f7 _ _ c6) n3 n1 w1.2.2.2.2 w6a.2.2.2.2 (by simp)) w1.2.2.1 w6a.2.2.1 (by simp);have all5:∀x∈[V.ref b1,.ref b2,.ref b3,.ref b4]++[V.ref b6],Sm K 4 G10 x:=fun x hx=>by
  simp only[mL,lJ,fF,gO,gQ] at hx;rcases hx with rfl|rfl|rfl|rfl|rfl
  ·exact o1
  ·exact o2
  ·exact o3
  ·exact o4
  ·exact o5
 have S0:G SL=none:=(g1.trans (g23.trans (f1.trans (f2.trans (f3.trans f4))))).free hSL;have sU:Ze G (upd G10 SL (.lst ([V.ref b1,.ref b2,.ref b3,.ref b4]++[V.ref b6]))):=(Zs.upd (Ze.x (g1.trans (g23.trans f47)))).same S0;have tU:=WQ (o:=.lst ([V.ref b1,.ref b2,.ref b3,.ref b4]++[V.ref b6])) hSL10;have eU:upd G10 SL (.lst ([V.ref b1,.ref b2,.ref b3,.ref b4]++[V.ref b6])) SL=some (.lst ([V.ref b1,.ref b2,.ref b3,.ref b4]++[V.ref b6])):=Zd;have l5:([V.ref b1,.ref b2,.ref b3,.ref b4]++[V.ref b6]).length=5:=rfl;generalize upd G10 SL (.lst ([V.ref b1,.ref b2,.ref b3,.ref b4]++[V.ref b6]))=G11 at sU tU eU;generalize [V.ref b1,.ref b2,.ref b3,.ref b4]++[V.ref b6]=fv at all5 eU l5;clear o1 o2 o3 o4 o5 n1 n3 m1 m3 c1 c2 c3 c4 c5 c6 c7 e1 e2 e3 f47 f67 f1 f2 f3 f4 f5 f6 f7 g1 g2 g3 g23;refine⟨_,rfl,_,rfl,p,ns,4,rfl,sU.seq hqG,fun n5=>?_⟩;have hi0:=lV (n5/8) (show(5:Int)≠0 by decide);have hi1:=lW (n5/8) (show(0:Int)<5 by decide);obtain⟨i,ei⟩:∃i:Nat,n5/8%5=((i:Nat):Int):=⟨(n5/8%5).toNat,by omega⟩;have hi:i<fv.length:=by omega
 obtain⟨tr,at_,ic,sz,ns5⟩:=all5 _ (fN hi);refine⟨_,_,rfl,rfl,⟨by decide,by decide⟩,_,_,rfl,rfl,by decide,SL,fv,_,fv[i],rfl,rfl,nV eU,by rw[ei];exact Zj (fj hi),?_⟩;generalize fv[i]=v at at_;have at11:=at_.mono tU;have dp:dpt tr<=8:=j4 at_.ok;have z81:psz tr<=81:=sz;have s11:=sG.trans sU;have w11:=w6.mono s11;have r11:=r6.mono s11;refine⟨_,rfl,_,rfl,_,rfl,by decide,fun E1 hE1=>?_⟩;obtain⟨I1,qN,i1,eE1⟩:=ZN (o:=.lst []) hE1;rw[qN];have sx0:∀{G:Hp}{sl:Addr},G sl=some (.lst [])->Sx K G sl (fun _=>[]) tr []:=fun e=>⟨⟨[],e,rfl,fun i v t h=>by simp at h⟩,iy,(fun s hs=>by cases hs),(fun s hs=>by cases hs),fun s hs hl=>absurd hl (ns5 s (by rcases ZJ.mp hs with h|h;cases h;exact h))⟩;refine⟨w,rn,E1,v,400,tr,d,fun _=>[],way,ring,rfl,Zdi (w11.mono i1) rfl n20 (sx0 eE1) (at11.mono (nW i1)) ic (by omega) (r11.mono i1) l31,by decide,fun I2 q1 i2 _ hq1=>?_⟩;refine⟨_,rfl,_,rfl,_,rfl,by decide,fun E2 hE2=>?_⟩;obtain⟨I3,qN,i3,eE2⟩:=ZN (o:=.lst []) hE2;rw[qN];have s13:=i1.trans (i2.trans i3);refine⟨w,rn,E2,v,4,400,tr,d,fun _=>[],way,ring,rfl,w11.mono s13,r11.mono s13,at11.mono (nW s13),by decide,ic,by omega,by omega,l31,by decide,(sx0 eE2).pairs,fun I4 q2 i4 _ hq2=>?_⟩;exact Zd4 (JT _) (by decide) (dpB ((i3.trans i4) _ _ hq1)) (dpB hq2) (k _)
theorem ar1{P:List α->Prop}(h:∀a,P [a]):∀us:List α,us.length=1->P us
 |[a],_=>h a
theorem ar2{P:List α->Prop}(h:∀a b,P [a,b]):∀us:List α,us.length=2->P us
 |[a,b],_=>h a b
theorem ar3{P:List α->Prop}(h:∀a b c,P [a,b,c]):∀us:List α,us.length=3->P us
 |[a,b,c],_=>h a b c
theorem ar4{P:List α->Prop}(h:∀a b c d,P [a,b,c,d]):∀us:List α,us.length=4->P us
 |[a,b,c,d],_=>h a b c d
theorem ar5{P:List α->Prop}(h:∀a b c d e,P [a,b,c,d,e]):∀us:List α,us.length=5->P us
 |[a,b,c,d,e],_=>h a b c d e
theorem ar6{P:List α->Prop}(h:∀a b c d e f,P [a,b,c,d,e,f]):∀us:List α,us.length=6->P us
 |[a,b,c,d,e,f],_=>h a b c d e f
def Bd(x q:Str)(st:Stmt)(ps:List Str):Prop:=∀(kV doc pm:Value) (an:Option Addr) (cR ct:Value) (us:List Value),us.length=ps.length->bindArgs (W.fnOf x q (WX st) (XM st) (Zg st) .none kV doc pm an cR ct) ⟨us,[]⟩=pure (ps.zip us)
def spL(K:W.Frag):Sp:=fun vs H Q _=>∃(p:Addr) (ns:List Int),vs=[.ref p]/\SqL K H p (ns.map V.int)/\ns.length<=63/\∀H',Q (.bl true) H'
structure Fx(K:W.Frag)(x:Str)(st:Stmt)(fa:Addr)(fd:FuncData):Prop where
 a:W.nsIn K mainGlobals x=some (some (.ref fa))
 f:Fun K x x st fa fd
structure Mx(K:W.Frag)(C:Addr)(x q:Str)(st:Stmt)(fa:Addr)(fd:FuncData):Prop where
 a:W.findIn K (.ref C) x=some (some (.ref fa))
 i:W.isFn K (.ref fa)=true
 f:Fun K x q st fa fd
section
variable{x q:Str}{st:Stmt}{f:Addr}{ps:List Str}{oc kV dc pm cd ct:Value}{sl:Array (Option Value)}
theorem Fx.m(a:W.nsIn K mainGlobals x=some (some (.ref f)))(l:K.lookup f=some ⟨oc,od,.func (W.fnOf x x (WX st) (XM st) (Zg st) .none kV dc pm an cd ct),sl⟩)(c:W.codeIn K cd x=true)(k:W.keepIn K (.ref f)=true):Fx K x st f (W.fnOf x x (WX st) (XM st) (Zg st) .none kV dc pm an cd ct):=⟨a,ZbF l c k⟩
theorem Mx.m(a:W.findIn K (.ref C) x=some (some (.ref f)))(i:W.isFn K (.ref f)=true)(l:K.lookup f=some ⟨oc,od,.func (W.fnOf x q (WX st) (XM st) (Zg st) .none kV dc pm an cd ct),sl⟩)(c:W.codeIn K cd q=true)(k:W.keepIn K (.ref f)=true):Mx K C x q st f (W.fnOf x q (WX st) (XM st) (Zg st) .none kV dc pm an cd ct):=⟨a,i,ZbF l c k⟩
theorem Fx.g(e:Fx K x st f fd)(X:K.In h)(G:h.Ns mainGlobals mg)(b:Bd x x st ps:=by first|exact fun _ _ _ _ _ _=>ar1 fun _=>rfl|exact fun _ _ _ _ _ _=>ar2 fun _ _=>rfl|exact fun _ _ _ _ _ _=>ar3 fun _ _ _=>rfl|exact fun _ _ _ _ _ _=>ar4 fun _ _ _ _=>rfl|exact fun _ _ _ _ _ _=>ar5 fun _ _ _ _ _=>rfl|exact fun _ _ _ _ _ _=>ar6 fun _ _ _ _ _ _=>rfl):Fg K mg x st ps f fd:=⟨e.f,e.f.binds b,hE X G e.a⟩
theorem Mx.g(e:Mx K C x q st f fd)(b:Bd x q st ps:=by first|exact fun _ _ _ _ _ _=>ar1 fun _=>rfl|exact fun _ _ _ _ _ _=>ar2 fun _ _=>rfl|exact fun _ _ _ _ _ _=>ar3 fun _ _ _=>rfl|exact fun _ _ _ _ _ _=>ar4 fun _ _ _ _=>rfl|exact fun _ _ _ _ _ _=>ar5 fun _ _ _ _ _=>rfl|exact fun _ _ _ _ _ _=>ar6 fun _ _ _ _ _ _=>rfl):Mg K C x q st ps f fd:=⟨e.f,e.f.binds b,⟨e.a,e.i,e.f.kp⟩⟩
end
theorem all_mk(X:K.In h)(G:h.Ns mainGlobals mg)(hfa:mg "law" = some (.ref fa))
  {f0 f1 f2 f3 f4 f5 f6 f7 f8 f9 f10 f11 f12 f13 f14 f15 f16 f17 f18 f19 f20 f21 f22 f23 f24 f25 f26 f27 f28 f29 f30 f31 f32 f33 f34 f35 f36 f37 f38 f39 f40 f41 f42 f43 f44 f45 f46 f47 f48 f49 f50 f51 f52 f53 f54 f55:Addr}
  {C_Table C_World C_TimeError C_BadWorld C_BadSentence:Addr}
  {d0 d1 d2 d3 d4 d5 d6 d7 d8 d9 d10 d11 d12 d13 d14 d15 d16 d17 d18 d19 d20 d21 d22 d23 d24 d25 d26 d27 d28 d29 d30 d31 d32 d33 d34 d35 d36 d37 d38 d39 d40 d41 d42 d43 d44 d45 d46 d47 d48 d49 d50 d51 d52 d53 d54 d55:FuncData}
  {nn_LENGTHS:Nat}{dt_LENGTHS_0 dt_LENGTHS_1 dt_LENGTHS_2 dt_LENGTHS_3 dt_LENGTHS_4 dt_LENGTHS_5 dt_LENGTHS_6 dt_LENGTHS_7 dt_LENGTHS_8 dt_LENGTHS_9 dt_LENGTHS_10:Tok}
  {D_LINES:Addr}{nn_LINES:Nat}
  {tk_LETTERS tk_MOST_LETTERS tk_MOST_WITHIN tk_MOST_ROOMS tk_MOST_FAIR:Tok}
  (v54:W.nsIn K mainGlobals "Table" = some (some (.ref C_Table)))
  (v55:W.nsIn K mainGlobals "World" = some (some (.ref C_World)))
  (v16:W.nsIn K mainGlobals "TimeError" = some (some (.ref C_TimeError)))
  (v29:W.nsIn K mainGlobals "BadWorld" = some (some (.ref C_BadWorld)))
  (v11:W.nsIn K mainGlobals "BadSentence" = some (some (.ref C_BadSentence)))
  (e0:Fx K "is_whole" qv f0 d0)
  (e1:Fx K "is_name" VU f1 d1)
  (e2:Fx K "is_room" zF f2 d2)
  (e3:Fx K "are_names" WP f3 d3)
  (e4:Fx K "are_rooms" Vy f4 d4)
  (e5:Fx K "last_ones" VC f5 d5)
  (e6:Fx K "is_formed" Yp f6 d6)
  (e7:Fx K "inner_of" Wp f7 d7)
  (e8:Fx K "inner_ahead" Ys f8 d8)
  (e9:Fx K "row_with" Up f9 d9)
  (e10:Mx K C_Table "__init__" "Table.__init__" Ua f10 d10)
  (e11:Mx K C_Table "number_of" "Table.number_of" Yy f11 d11)
  (e12:Mx K C_Table "taken_in" "Table.taken_in" Y5 f12 d12)
  (e13:Mx K C_Table "inner_numbers" "Table.inner_numbers" ZA f13 d13)
  (e14:Fx K "below" jZ f14 d14)
  (e15:Fx K "read" KC f15 d15)
  (e16:Fx K "read_along" Ue f16 d16)
  (e17:Fx K "ground_of" WJ f17 d17)
  (e18:Fx K "told_sets" VD f18 d18)
  (e19:Fx K "ground_rows" Ye f19 d19)
  (e20:Fx K "room_truths" Yl f20 d20)
  (e21:Fx K "read_rows" Yb f21 d21)
  (e22:Fx K "trimmed" U2 f22 d22)
  (e23:Fx K "stretched" WM f23 d23)
  (e24:Fx K "stretched_both" XG f24 d24)
  (e25:Fx K "not_line" Ut f25 d25)
  (e26:Fx K "and_line" V6 f26 d26)
  (e27:Fx K "next_line" US f27 d27)
  (e28:Fx K "until_line" YU f28 d28)
  (e29:Fx K "before_line" VO f29 d29)
  (e30:Fx K "since_line" XH f30 d30)
  (e31:Mx K C_World "__init__" "World.__init__" YR f31 d31)
  (e32:Mx K C_World "many" "World.many" Uo f32 d32)
  (e33:Mx K C_World "signs_of" "World.signs_of" Wq f33 d33)
  (e34:Mx K C_World "ways_on" "World.ways_on" WR f34 d34)
  (e35:Mx K C_World "begins" "World.begins" Vl f35 d35)
  (e36:Mx K C_World "fair_signs" "World.fair_signs" XZ f36 d36)
  (e37:Fx K "makes_world" Ym f37 d37)
  (e38:Fx K "are_some_rooms" XL f38 d38)
  (e39:Fx K "_law_cell_at" Vs f39 d39)
  (e40:Fx K "_law_state" Ud f40 d40)
  (e41:Fx K "_law_digit" YW f41 d41)
  (e42:Fx K "_law_names" Xe f42 d42)
  (e43:Fx K "_law_world" Yf f43 d43)
  (e44:Fx K "_law_run" Ya f44 d44)
  (e45:Fx K "_law_core" UO f45 d45)
  (e46:Fx K "_law_inner" W0 f46 d46)
  (e47:Fx K "_law_parts" Va f47 d47)
  (e48:Fx K "_law_back_to" Xz f48 d48)
  (e49:Fx K "_law_ahead" YS f49 d49)
  (e50:Fx K "_law_of" zA f50 d50)
  (e51:Fx K "_law_row" ZF f51 d51)
  (e52:Fx K "_law_along" YE f52 d52)
  (e53:Fx K "_law_by_turns" ZQ f53 d53)
  (e54:Fx K "_law_sets" YY f54 d54)
  (e55:Fx K "law" Y2 f55 d55)
  (v56:W.plainGet K C_Table Str.empty=true)
  (v57:W.hasDictIn K C_Table=true)
  (v58:W.plainOver K C_Table=true)
  (v59:W.findIn K (.ref C_Table) "__setattr__" = some (some (.builtin "object.__setattr__")))
  (v60:W.makesIn K C_Table=true)
  (v61:W.keepIn K (.ref C_Table)=true)
  (v14:W.findIn K (.ref C_Table) "parts" = some none)
  (v17:W.findIn K (.ref C_Table) "rows" = some none)
  (v4:W.findIn K (.ref C_Table) "numbers" = some none)
  (v62:W.plainGet K C_World Str.empty=true)
  (v63:W.hasDictIn K C_World=true)
  (v64:W.plainOver K C_World=true)
  (v65:W.findIn K (.ref C_World) "__setattr__" = some (some (.builtin "object.__setattr__")))
  (v66:W.makesIn K C_World=true)
  (v67:W.keepIn K (.ref C_World)=true)
  (v1:W.findIn K (.ref C_World) "room_signs" = some none)
  (v3:W.findIn K (.ref C_World) "room_ways" = some none)
  (v0:W.findIn K (.ref C_World) "start_rooms" = some none)
  (v2:W.findIn K (.ref C_World) "fair_names" = some none)
  (v18:W.nsIn K mainGlobals "ValueError" = some none)
  (v79:W.nsIn K mainGlobals "all" = some none)
  (v74:W.nsIn K mainGlobals "tuple" = some none)
  (v80:W.nsIn K mainGlobals "len" = some none)
  (v77:W.nsIn K mainGlobals "list" = some none)
  (v42:W.nsIn K mainGlobals "reversed" = some none)
  (v75:W.nsIn K mainGlobals "range" = some none)
  (v19:W.nsIn K mainGlobals "isinstance" = some none)
  (v81:W.nsIn K mainGlobals "int" = some none)
  (v82:W.nsIn K mainGlobals "set" = some none)
  (v83:W.nsIn K mainGlobals "max" = some none)
  (v84:W.nsIn K mainGlobals "zip" = some none)
  (v78:W.nsIn K mainGlobals "bool" = some none)
  (v85:W.nsIn K mainGlobals "str" = some none)
  (v68:W.nsIn K mainGlobals "sorted" = some none)
  (v47:W.nsIn K mainGlobals "LETTERS" = some (some (.str "abcdefghijklmnopqrstuvwxyz" tk_LETTERS)))
  (v12:W.nsIn K mainGlobals "MOST_LETTERS" = some (some (.int 8 tk_MOST_LETTERS)))
  (v15:W.nsIn K mainGlobals "MOST_WITHIN" = some (some (.int 5 tk_MOST_WITHIN)))
  (v20:W.nsIn K mainGlobals "MOST_ROOMS" = some (some (.int 20 tk_MOST_ROOMS)))
  (v30:W.nsIn K mainGlobals "MOST_FAIR" = some (some (.int 3 tk_MOST_FAIR)))
  (v43:W.nsIn K mainGlobals "LENGTHS" = some (some (.ref D_LENGTHS)))
  (v44:K.lookup D_LENGTHS=some ⟨.type "dict",none,.dict es_LENGTHS nn_LENGTHS,#[]⟩)
  (v45:W.KeysLit w.params es_LENGTHS.toList)
  (v31:W.nsIn K D_LENGTHS "all" = some (some (.int 2 dt_LENGTHS_0)))
  (v32:W.nsIn K D_LENGTHS "some" = some (some (.int 2 dt_LENGTHS_1)))
  (v33:W.nsIn K D_LENGTHS "not" = some (some (.int 2 dt_LENGTHS_2)))
  (v34:W.nsIn K D_LENGTHS "next" = some (some (.int 2 dt_LENGTHS_3)))
  (v35:W.nsIn K D_LENGTHS "always" = some (some (.int 2 dt_LENGTHS_4)))
  (v36:W.nsIn K D_LENGTHS "ever" = some (some (.int 2 dt_LENGTHS_5)))
  (v37:W.nsIn K D_LENGTHS "before" = some (some (.int 2 dt_LENGTHS_6)))
  (v38:W.nsIn K D_LENGTHS "once" = some (some (.int 2 dt_LENGTHS_7)))
  (v39:W.nsIn K D_LENGTHS "sofar" = some (some (.int 2 dt_LENGTHS_8)))
  (v40:W.nsIn K D_LENGTHS "until" = some (some (.int 3 dt_LENGTHS_9)))
  (v21:W.nsIn K D_LENGTHS "since" = some (some (.int 3 dt_LENGTHS_10)))
  (v46:(D_LENGTHS==sysModules)=false)
  (v69:W.nsIn K mainGlobals "LINES" = some (some (.ref D_LINES)))
  (v70:K.lookup D_LINES=some ⟨.type "dict",none,.dict es_LINES nn_LINES,#[]⟩)
  (v71:W.KeysLit w.params es_LINES.toList)
  (v48:W.nsIn K D_LINES "not" = some (some (.ref f25)))
  (v49:W.nsIn K D_LINES "and" = some (some (.ref f26)))
  (v50:W.nsIn K D_LINES "next" = some (some (.ref f27)))
  (v51:W.nsIn K D_LINES "until" = some (some (.ref f28)))
  (v52:W.nsIn K D_LINES "before" = some (some (.ref f29)))
  (v53:W.nsIn K D_LINES "since" = some (some (.ref f30)))
  (v72:(D_LINES==sysModules)=false)
  (v22:W.excIn K C_TimeError [.type "ValueError",.type "Exception",.type "BaseException",.type "object"] "ValueError.__new__" = true)
  (v41:W.excIn K C_BadWorld [.type "ValueError",.type "Exception",.type "BaseException",.type "object"] "ValueError.__new__" = true)
  (v13:W.excIn K C_BadSentence [.type "ValueError",.type "Exception",.type "BaseException",.type "object"] "ValueError.__new__" = true)
  (xgt:W.specialIn K (.builtin "object.__class__") "__get__" = some (some (.builtin "getset_descriptor.__get__")))
  (xtk:W.takesIn K (.builtin "object.__class__")=some true)
  (v23:W.findIn K (.ref C_BadWorld) "__getattribute__" = some (some (.builtin "BaseException.__getattribute__")))
  (v24:W.findIn K (.ref C_BadWorld) "__getattr__" = some none)
  (v25:W.mroIn K C_BadWorld (.type "object")=some true)
  (v26:W.mroIn K C_BadWorld (.type "BaseException")=some true)
  (v27:W.findIn K (.ref C_BadWorld) "__class__" = some (some (.builtin "object.__class__")))
  (v28:W.hasDictIn K C_BadWorld=true)
  (v5:W.findIn K (.ref C_BadSentence) "__getattribute__" = some (some (.builtin "BaseException.__getattribute__")))
  (v6:W.findIn K (.ref C_BadSentence) "__getattr__" = some none)
  (v7:W.mroIn K C_BadSentence (.type "object")=some true)
  (v8:W.mroIn K C_BadSentence (.type "BaseException")=some true)
  (v9:W.findIn K (.ref C_BadSentence) "__class__" = some (some (.builtin "object.__class__")))
  (v10:W.hasDictIn K C_BadSentence=true)
  (v73:W.nsIn K D_LENGTHS "signs" = some none)
  (v76:W.nsIn K D_LENGTHS "Next" = some none) :
  ∃fd:FuncData,(∀(s:Shared) (v:Value),BindsTo s fd ⟨[v],[]⟩ [("_law_script",v)])/\∀base:Heap,K.In base->base.Ns mainGlobals mg->VT l.prog w K mg base CX0 13 fa fd ["_law_script"] (spL K):=by
 have e:=hfa.symm.trans (hE X G e55.a);cases e;obtain⟨_,_,_,_,_,_,_,_,_,rfl,_⟩:=e55.f.ex;have T:Txt K mg ⟨f0,d0,f1,d1,f2,d2,f3,d3,f4,d4,f5,d5,f6,d6,f7,d7,f8,d8,f9,d9,f10,d10,f11,d11,f12,d12,f13,d13,f14,d14,f15,d15,f16,d16,f17,d17,f18,d18,f19,d19,f20,d20,f21,d21,f22,d22,f23,d23,f24,d24,f25,d25,f26,d26,f27,d27,f28,d28,f29,d29,f30,d30,f31,d31,f32,d32,f33,d33,f34,d34,f35,d35,f36,d36,f37,d37,f38,d38,f39,d39,f40,d40,f41,d41,f42,d42,f43,d43,f44,d44,f45,d45,f46,d46,f47,d47,f48,d48,f49,d49,f50,d50,f51,d51,f52,d52,f53,d53,f54,d54,fa,_,C_TimeError,C_BadWorld,C_BadSentence,C_Table,C_World,D_LENGTHS,D_LINES,w.params⟩:={
  bY:=hE X G v43,
  bh:=⟨⟨_,_,v44,v45⟩,fun p hp=>by
   simp only[fF,gO,gQ] at hp;rcases hp with rfl|rfl|rfl|rfl|rfl|rfl|rfl|rfl|rfl|rfl|rfl
   ·exact⟨_,v31⟩
   ·exact⟨_,v32⟩
   ·exact⟨_,v33⟩
   ·exact⟨_,v34⟩
   ·exact⟨_,v35⟩
   ·exact⟨_,v36⟩
   ·exact⟨_,v37⟩
   ·exact⟨_,v38⟩
   ·exact⟨_,v39⟩
   ·exact⟨_,v40⟩
   ·exact⟨_,v21⟩,v46⟩,
  cH:=hE X G v69,
  cI:=⟨⟨_,_,v70,v71⟩,fun p hp=>by
   simp only[fF,gO,gQ] at hp;rcases hp with rfl|rfl|rfl|rfl|rfl|rfl
   ·exact v48
   ·exact v49
   ·exact v50
   ·exact v51
   ·exact v52
   ·exact v53,v72⟩,
  bz:=e0.g X G,
  bM:=e1.g X G,
  bV:=e2.g X G,
  bj:=e3.g X G,
  bE:=e4.g X G,
  bF:=e5.g X G,
  bG:=e6.g X G,
  bA:=e7.g X G,
  bm:=e8.g X G,
  bQ:=e9.g X G,
  bu:=e10.g,
  al:=e11.g,
  aH:=e12.g,
  aq:=e13.g,
  ck:=e14.g X G,
  cE:=e15.g X G,
  az:=e16.g X G,
  bH:=e17.g X G,
  bJ:=e18.g X G,
  bn:=e19.g X G,
  bo:=e20.g X G,
  bK:=e21.g X G,
  bW:=e22.g X G,
  aO:=e23.g X G,
  aB:=e24.g X G,
  bB:=e25.g X G,
  bC:=e26.g X G,
  bq:=e27.g X G,
  aZ:=e28.g X G,
  aV:=e29.g X G,
  a8:=e30.g X G,
  a9:=e31.g,
  ab:=e32.g,
  ag:=e33.g,
  ah:=e34.g,
  bZ:=e35.g,
  bN:=e36.g,
  br:=e37.g X G,
  aI:=e38.g X G,
  ak:=e39.g X G,
  aQ:=e40.g X G,
  aa:=e41.g X G,
  bv:=e42.g X G,
  bw:=e43.g X G,
  bR:=e44.g X G,
  am:=e45.g X G,
  aC:=e46.g X G,
  ai:=e47.g X G,
  ba:=e48.g X G,
  bx:=e49.g X G,
  bf:=e50.g X G,
  bS:=e51.g X G,
  aS:=e52.g X G,
  aW:=e53.g X G,
  bL:=e54.g X G,
  cM:=e55.g X G,
  ce:=gY X G v18,
  cr:=gY X G v79,
  aK:=gY X G v74,
  ay:=gY X G v80,
  aN:=gY X G v77,
  bT:=gY X G v42,
  aJ:=gY X G v75,
  ae:=gY X G v19,
  cN:=gY X G v81,
  cF:=gY X G v82,
  cK:=gY X G v83,
  cO:=gY X G v84,
  cG:=gY X G v78,
  cL:=gY X G v85,
  bO:=gY X G v68,
  cg:=⟨_,hE X G v47,⟨_,rfl⟩⟩,
  bD:=⟨_,hE X G v12,⟨_,rfl⟩⟩,
  bP:=⟨_,hE X G v15,⟨_,rfl⟩⟩,
  bU:=⟨_,hE X G v20,⟨_,rfl⟩⟩,
  bX:=⟨_,hE X G v30,⟨_,rfl⟩⟩,
  av:=⟨v56,v57,v58,v59⟩,
  cJ:=hE X G v54,
  cB:=⟨v60,e10.a,e10.i,v61⟩,
  bc:=v14,
  aE:=v17,
  ao:=v4,
  aj:=⟨v62,v63,v64,v65⟩,
  cA:=hE X G v55,
  cc:=⟨v66,e31.a,e31.i,v67⟩,
  aA:=v1,
  aM:=v3,
  aU:=v0,
  aX:=v2,
  cv:=hE X G v16,
  cy:=v22,
  cC:=hE X G v29,
  cD:=v41,
  b9:=hE X G v11,
  ca:=v13,
  k_BadWorld:=⟨v23,v24,v25,v26,v27,xgt,xtk,v28⟩,
  k_BadSentence:=⟨v5,v6,v7,v8,v9,xgt,xtk,v10⟩,
  nk_signs:=v73,
  nk_Next:=v76 }
 refine⟨_,?_,fun base _ _=>ZeX T rfl⟩;exact fun s v=>.of_eq rfl
theorem walk{d:DefRec}{K:Params->W.Frag}(hn:l.most=some 63)(hdf:d.params.defaults=[])
  (hY:∀(w:World) (h:Heap),YP w h->(K w.params).In h)
  (F:∀(w:World) (mg:Str->Option Value) (fa:Addr) (h:Heap),(K w.params).In h->h.Ns mainGlobals mg->mg d.name=some (.ref fa) ->
   ∃fd:FuncData,(∀(s:Shared) (u:Value),BindsTo s fd ⟨[u],[]⟩ [("_law_script",u)])/\∀base:Heap,(K w.params).In base->base.Ns mainGlobals mg->VT l.prog w (K w.params) mg base CX0 13 fa fd ["_law_script"] (spL (K w.params))) :
  W.WalkO q loose XP YP l.row.toRowW d [] (fun f vs=>PySem.call f vs):=
 L2.walk_of (n:=63) (k:=13) (x := "_law_script") (CX:=fun _=>CX0) (sp:=fun w=>spL (K w.params)) hn (by decide) hdf ⟨rfl,by decide,by decide⟩ hY F (fun _ _ a ns hl _ hS=>⟨a,ns,rfl,hS,hl,fun _=>rfl⟩) fun _ _ _ _ _ z=>z
end KK
open PySem PySem.W PyProof.Rows
namespace PySem.W.Fast
def tw14969980092545588610:=0
def tw1048967385303318643:=0
def tw11993412992436163300:=0
def tw14746512292490497808:=0
def tw14344418514425154190:=0
def tw2436239665601990581:=0
def tw11754605459505024367:=0
def tw15733513354851145185:=0
def tw5044337239012549943:=0
def tw13307978894334304509:=0
def tw457529616287038360:=0
def tw11619441618892269949:=0
def tw4981884605329777926:=0
def tw7415687987600590075:=0
def tw11283421073029253269:=0
def tw6901463736877818484:=0
def tw1714424437891713415:=0
def tw8164216722703160865:=0
def tw14043753564087559970:=0
def tw8422457169635656112:=0
def tw10094024432142592916:=0
def tw14759523202004962283:=0
def tw16845198869977867727:=0
def tw10423578110465672542:=0
def tw15636686379156627779:=0
def tw15453728551997076087:=0
def tw7302695519341163561:=0
def tw721210125765010693:=0
def tw9881659352609936702:=0
def tw9878543579102748554:=0
def tw8317520089570410207:=0
def tw6216607112573807769:=0
def tw17381210037264355985:=0
def tw17462182383368674637:=0
def tw13275598139540530931:=0
def tw9761590665914410933:=0
def tw18369340496798217694:=0
def tw1014753032982983634:=0
def tw7266639348282474796:=0
def tw5831805067890820318:=0
def tw10157441038911900258:=0
def tw962917998041874974:=0
def tw2067500195978468752:=0
def tw9763716588398372862:=0
def tw8994312046253983630:=0
def tw1086402625507837217:=0
def tw5720919003892872243:=0
def tw14648234495468063740:=0
def tw15680097452831504547:=0
def tw4291765800055723102:=0
def tw4529267442170178260:=0
def tw16176442801805685412:=0
def tw3337039051616737754:=0
def tw9086583695854031062:=0
def tw1073130522978081039:=0
def tw18008158776279227868:=0
def tw10943289535157951038:=0
def tw12555351580093155637:=0
def tw11737711852894109048:=0
def tw4536649969750571582:=0
def tw13842972691619769454:=0
def tw1803059587442752664:=0
def tw4960491232174376966:=0
def tw13136860818324832437:=0
def tw13988099674224866833:=0
def tw4706428379967312960:=0
def tw17806330218893463535:=0
def tw2323512845661827973:=0
def tw14722288492147652982:=0
def tw17391692042452085578:=0
def tw9867314002747071129:=0
def tw4298402752430673970:=0
def tw17317802993699855171:=0
def tw10595154191744568022:=0
def tw15194043876530221634:=0
def tw3604247396403476312:=0
def tw15962389237962346157:=0
def tw5062037451685838704:=0
def tw11685517431902266320:=0
def tw16185383074925007707:=0
def tw11027016075926848607:=0
def tw12321824161568978112:=0
def tw11706258494163743649:=0
def tw5169969889811937215:=0
def tw8435608631855747775:=0
def tw11878686934582392735:=0
def tw15687594980231463003:=0
def tw11219283556985978974:=0
def tw7880349540921795594:=0
def tw3631044527955971191:=0
def tw8928504136813489220:=0
def tw3641858930128353184:=0
def tw7940200937860072407:=0
def tw2845788300860518124:=0
def tw18263109439469036226:=0
def tw5160774779999844885:=0
def tw5633358199852393387:=0
def tw15855426749513923337:=0
def tw15884880655522853395:=0
def tw2796647557836853468:=0
def tw7885502631535079678:=0
def tw14392046810311100175:=0
def tw10464407114186804245:=0
def tw14352778175083816199:=0
def tw363738855650170232:=0
def tw9244718292387510802:=0
def tw9399266178270442943:=0
def tw17324355944024809249:=0
def tw10356572196826853439:=0
def tw1228574393650152813:=0
def tw2249365983253345997:=0
def tw14590183058582869454:=0
def tw10583366727203549644:=0
def tw401884741110993937:=0
def tw12686640154203889799:=0
def tw16395434946828190246:=0
def tw8515706001864676446:=0
def tw16547867419815544690:=0
def tw3511502875406029321:=0
def tw11723211021824940528:=0
def tw311843637687867565:=0
def tw10378445508517195612:=0
def tw9895242241016849579:=0
def tw15749978569807603325:=0
def tw3503902109597960024:=0
def tw7511988479399629112:=0
def tw5251682804653557768:=0
def tw10283499946700573999:=0
def tw11630940577740276590:=0
def tw16670850840649669359:=0
def tw5635374877438452241:=0
def tw16826154856285639619:=0
def tw7672980304244035763:=0
def tw10719274180983681025:=0
def tw12433684193131114113:=0
def tw254062252535302087:=0
def tw9098994686089894867:=0
def tw15752561864512119233:=0
def tw18188895265828038362:=0
def tw1743472175262946309:=0
def tw9005508343592229083:=0
def tw7875341034415269559:=0
def tw2783022712664473359:=0
def tw14156629549200099318:=0
def tw2093293380465633572:=0
def tw6907483263272086431:=0
def tw16555156740542981488:=0
def tw18188338816673071408:=0
def tw16685273405770770589:=0
def tw18269633867567198064:=0
end PySem.W.Fast
set_option maxRecDepth 100000 in
set_option maxHeartbeats 0 in
theorem PySem.Challenge.cw_timecourt_k21_read_along_holds : PySem.Challenge.rw_timecourt_k21_read_along.Holds := by
 w_on; o_law; k_head; (case hw => w_witness2)
 k_fill
 refine KK.walk (l := PySem.Challenge.rw_timecourt_k21_read_along) rfl rfl (fun w h Y => PySem.W.kIn_of Y) ?F
 case F =>
  intro w mg fa h KX G hmg
  have hmg2 : mg "law" = some (.ref fa) := hmg
  clear hmg
  refine' KK.all_mk KX G hmg2 ?v54 ?v55 ?v16 ?v29 ?v11 ?e0 ?e1 ?e2 ?e3 ?e4 ?e5 ?e6 ?e7 ?e8 ?e9 ?e10 ?e11 ?e12 ?e13 ?e14 ?e15 ?e16 ?e17 ?e18 ?e19 ?e20 ?e21 ?e22 ?e23 ?e24 ?e25 ?e26 ?e27 ?e28 ?e29 ?e30 ?e31 ?e32 ?e33 ?e34 ?e35 ?e36 ?e37 ?e38 ?e39 ?e40 ?e41 ?e42 ?e43 ?e44 ?e45 ?e46 ?e47 ?e48 ?e49 ?e50 ?e51 ?e52 ?e53 ?e54 ?e55 ?v56 ?v57 ?v58 ?v59 ?v60 ?v61 ?v14 ?v17 ?v4 ?v62 ?v63 ?v64 ?v65 ?v66 ?v67 ?v1 ?v3 ?v0 ?v2 ?v18 ?v79 ?v74 ?v80 ?v77 ?v42 ?v75 ?v19 ?v81 ?v82 ?v83 ?v84 ?v78 ?v85 ?v68 ?v47 ?v12 ?v15 ?v20 ?v30 ?v43 ?v44 ?v45 ?v31 ?v32 ?v33 ?v34 ?v35 ?v36 ?v37 ?v38 ?v39 ?v40 ?v21 ?v46 ?v69 ?v70 ?v71 ?v48 ?v49 ?v50 ?v51 ?v52 ?v53 ?v72 ?v22 ?v41 ?v13 ?xgt ?xtk ?v23 ?v24 ?v25 ?v26 ?v27 ?v28 ?v5 ?v6 ?v7 ?v8 ?v9 ?v10 ?v73 ?v76
  (case v54 | v55 | v16 | v29 | v11 => k_is)
  (case e0 | e1 | e2 | e3 | e4 | e5 | e6 | e7 | e8 | e9 => exact KK.Fx.m (by k_is) (by k_is) (by k_is) (by k_is))
  (case e10 | e11 | e12 | e13 => exact KK.Mx.m (by k_is) (by k_is) (by k_is) (by k_is) (by k_is))
  (case e14 | e15 | e16 | e17 | e18 | e19 | e20 | e21 | e22 | e23 | e24 | e25 | e26 | e27 | e28 | e29 | e30 => exact KK.Fx.m (by k_is) (by k_is) (by k_is) (by k_is))
  (case e31 | e32 | e33 | e34 | e35 | e36 => exact KK.Mx.m (by k_is) (by k_is) (by k_is) (by k_is) (by k_is))
  (case e37 | e38 | e39 | e40 | e41 | e42 | e43 | e44 | e45 | e46 | e47 | e48 | e49 | e50 | e51 | e52 | e53 | e54 | e55 => exact KK.Fx.m (by k_is) (by k_is) (by k_is) (by k_is))
  (case v56 | v57 | v58 | v59 | v60 | v61 | v14 | v17 | v4 | v62 | v63 | v64 | v65 | v66 | v67 | v1 | v3 | v0 | v2 | v18 | v79 | v74 | v80 | v77 | v42 | v75 | v19 | v81 | v82 | v83 | v84 | v78 | v85 | v68 | v47 | v12 | v15 | v20 | v30 | v43 => k_is)
  (case v44 => k_is)
  (case v45 => exact ⟨⟨_, _, rfl, rfl⟩, ⟨_, _, rfl, rfl⟩, ⟨_, _, rfl, rfl⟩, ⟨_, _, rfl, rfl⟩, ⟨_, _, rfl, rfl⟩, ⟨_, _, rfl, rfl⟩, ⟨_, _, rfl, rfl⟩, ⟨_, _, rfl, rfl⟩, ⟨_, _, rfl, rfl⟩, ⟨_, _, rfl, rfl⟩, ⟨_, _, rfl, rfl⟩, trivial⟩)
  (case v31 | v32 | v33 | v34 | v35 | v36 | v37 | v38 | v39 | v40 | v21 => k_is)
  (case v46 => rfl)
  (case v69 | v70 => k_is)
  (case v71 => exact ⟨⟨_, _, rfl, rfl⟩, ⟨_, _, rfl, rfl⟩, ⟨_, _, rfl, rfl⟩, ⟨_, _, rfl, rfl⟩, ⟨_, _, rfl, rfl⟩, ⟨_, _, rfl, rfl⟩, trivial⟩)
  (case v48 | v49 | v50 | v51 | v52 | v53 => k_is)
  (case v72 => rfl)
  (case v22 | v41 | v13 => k_exc)
  (case xgt | xtk | v23 | v24 | v25 | v26 | v27 | v28 | v5 | v6 | v7 | v8 | v9 | v10 | v73 | v76 => k_is)
