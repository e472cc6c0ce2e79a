import PyProof.Rows.All
import Wide.All
import OpenK.AllK
import Wide.FinOn
import Lean
import PyProof.EqAt
import PyProof.EqKinds
import PyProof.TupleCall
import KE.KRevIter
import KE.KDictList
import KE.KItemsList
import PyProof.Rows.CallKwBuiltin
import PySem.Challenge.RW_timecourt_k77_whole_shorter_reads_alike
set_option linter.all false
open Sum renaming inr->ι,inl->μ
open Prod renaming fst->ε,snd->ζ
open PySem renaming wpAny_bind->fE,wpAny_pure->fI,sizeLine_eq->fJ,wpAny_field->ik,wpAny_truthy_bool->ip,wpAny_holding->iq,mem_of_lookup->iy,wpAny_Call_Name_kw->iE,wpAny_newObj_type->iG,plainId_quiet->iO,wpAny_updateSeq->iR,wpAny_seqItems->iS,codeAny_builtin->i3,wpAny_mono->lc,wpAny_passesOwn->lh,wpAny_call_entry->lE,codeAny_mono->lY,wpAny_specialOf->me,wpAny_letGo->mf,wpAny_standAt->mv,wpAny_isInstance->mN,wpAny_tryCatch->mW,wpAny_callSpecial?_slot->ng
open List renaming range->γ,Nodup->δ,lookup->η,length->θ,take_succ_eq_append_getElem->ν,dropLast_concat_getLast->ξ,flatten_append->ο,filter_eq_self->π,map_eq_nil_iff->ρ,nodup_iff_pairwise_ne->υ,exists_cons_of_ne_nil->χ,drop_zero->ω,pairwise_iff_getElem->Α,getElem_append_right->Β,take_sublist->Γ,pairwise_map->Ε,getElem_take->Η,length_erase_of_mem->Θ,getElem_append_left->Ι,getElem_inj->Κ,pairwise_mergeSort->Ν,getLast_eq_getElem->Ξ,getElem?_set_self->Ο,range_succ_eq_map->Ρ,length_pos_of_mem->Υ,find?_cons_of_neg->Φ,getElem?_set_ne->Ω,length_map->fF,getElem?_eq_getElem->fG,length_append->fK,map_cons->fL,mem_map->fM,length_take->fN,getElem?_map->fO,getElem?_eq_some_iff->fP,map_map->fR,mem_cons_of_mem->fT,mem_cons->fU,size_toArray->gf,lookup_cons->gi,mem_append->gj,mem_of_getElem?->gk,map_nil->gm,mem_singleton->gn,map_append->gp,length_cons->gu,getElem?_append_left->gv,getElem?_append_right->gx,mem_append_right->gy,length_singleton->gz,getElem_mem->gC,getElem_of_mem->gF,sum_cons->gG,not_mem_nil->gN,length_drop->gQ,mem_append_left->gT,length_range->gU,length_eq_zero_iff->gX,all_eq_true->ie,getD_eq_getElem?_getD->ii,length_zip->io,append_nil->iu,nodup_cons->iw,map_congr_left->iz,take_of_length_le->iB,mem_filter->iC,sum_nil->iJ,getElem?_drop->iK,mem_cons_self->iL,forIn_cons->iN,mem_flatten->iT,mem_iff_getElem?->iU,map_take->iW,find?_cons->i5,getElem?_eq_none->i7,mem_range->i9,of_mem_zip->lA,getElem?_take_of_lt->lB,all_cons->lF,getElem?_zip_eq_some->lG,take_length->lI,append_assoc->lK,map_id->lT,reverse_cons->l3,any_eq_true->l4,length_reverse->l5,length_pos_iff->l9,nil_append->mh,cons_append->mi,mem_map_of_mem->mj,length_filter_le->mw,map_fst_zip->my,map_snd_zip->mz,getElem_zip->mB,isEmpty_iff->mC,take_succ->mD,any_cons->mG,filter_cons_of_pos->mI,filter_cons_of_neg->mJ,nodup_append->mK,all_map->mL,length_nil->mM,ext_getElem?->mO,forIn_nil->mR,filter_append->mS,drop_eq_getElem_cons->mY,map_drop->m5,getElem?_range->m6,filterMap_cons->m7,filter_nil->nt,getElem_map->nC,eq_nil_of_length_eq_zero->nE,drop_eq_nil_of_le->nF,take_append_drop->nG,length_dropLast->nI,getElem?_reverse->nL,mem_of_mem_take->nQ
open Nat renaming pos_of_ne_zero->ψ,lt_succ_self->Μ,not_lt_zero->Χ,le_of_ble_eq_true->Ψ,le_refl->fH,ne_of_lt->gb,le_trans->gg,lt_of_lt_of_le->gJ,ne_of_gt->gY,zero_le->g9,sub_self->ij,lt_of_le_of_lt->im,le_of_lt->iD,lt_irrefl->iZ,le_add_right->lO,le_succ->lZ,succ_mul->ml,mul_le_mul_right->mn,zero_add->mq,sub_zero->mV,min_eq_left->nk,min_eq_right->nu
open Option.some renaming inj->fW
open Ne renaming symm->fX
open PySem.Heap renaming lt_size->fY,get?_push_of_some->fZ,get?_push_size->gB,get?_update_other->iH,get?_update_self->lN
open Bool renaming not_eq_true'->Δ,true_or->Τ,false_ne_true->gw,and_eq_true->gM,eq_iff_iff->ic,false_eq_true->ig,false_and->iM,not_true->i6,false_or->lL,and_false->md,true_and->mZ,or_eq_true->ni
open PySem.F renaming plainAttrs_list->gA,slot_list_append->gH,type_list_append->gI,called_set->i4,plain_max_loop->lQ,plain_extend_loop->mU,slot_zip_next->nB,slot_dict_get->nM,slot_dict_keyiterator_next->nN
open PySem.PassesOwn renaming never->gE
open Int renaming toNat_natCast->hJ,emod_nonneg->iA,emod_lt_of_pos->iP,eq_ofNat_of_zero_le->iQ
open PySem.W renaming mg_of->hV,mg_none_of->ib,kia_one->ir,callWith_K->m8
open List.cons renaming inj->iI
open Sum.inl renaming inj->iX
open Sum.inr renaming inj->i8
open Array renaming length_toList->lg,getElem?_toList->mH,forIn_toList->mP,getElem?_eq_getElem->nr,getElem?_eq_none->nO
open PySem.Around renaming under_plainId->lH,in1_units->mQ
open PySem.Paired renaming length->lU
open Option renaming isSome_map->Ζ,map_eq_some_iff->mo,isSome_iff_exists->m9,map_some->nn
open PyProof.Rows renaming callWith_type1->mE,slot_tuple_getitem->nH
open PyProof.Rows.F renaming plain_set_update_loop->nh
open PyProof.Rows.Boot renaming «list»->nV,«tuple»->nW,«len»->nX,«isinstance»->nY,«int»->og,«all»->oh,«max»->oi,«set»->oj,«sorted»->om
def fQ:=@decide_eq_true
def fS:=@congrArg
def fV:=@decide_eq_false
def ge:=@of_decide_eq_true
def gK:=@if_false
def gO:=@or_false
def hU:=@decide_eq_true_iff
def iF:=@if_true
def iY:=@beq_eq_false_iff_ne
def lp:=@beq_iff_eq
def l7:=@decide_eq_decide
def mX:=@of_decide_eq_false
def nj:=@decide_eq_true_eq
def nJ:=@decide_eq_false_iff_not
def oo:=@if_neg
def oq:=@if_pos
def ot:=@absurd
set_option Elab.async false
set_option linter.all false
set_option maxRecDepth 100000
variable{K:_root_.PySem.W.Frag}{mg mA:PySem.Str->Option PySem.Value}{P prog q:PySem.Program}{w:PySem.World}{base h h':PySem.Heap}{n i t' j pd:Nat}{Q E QV:PySem.Value->PySem.Shared->Prop}{α κ:Type}{dm wD:List (PySem.Addr×PySem.Obj)}{s s':PySem.Shared}{on oQ rX:PySem.Pos}{D C p S dx sl it i1 i2 l1 l2 Y_STEADY_WORDS fa D_LENGTHS:PySem.Addr}{A:PySem.Around}{is rq:List Nat}{u vl acc:PySem.Value}{f:Nat->Bool}{us its AI:List PySem.Value}{e tg iter ua:PySem.Expr}{ss N si Nc:List PySem.Str}{XP:(PySem.Str->Option PySem.Value)->PySem.Heap->Prop}{ns ring way:List Int}{env:PySem.Env}{fd:PySem.FuncData}{scope sc:PySem.Scope}{pI es:List PySem.Expr}{kw:List (PySem.Str×PySem.Value)}{L:List Bool}{Pm:PySem.Params}{R:PySem.Result->PySem.Shared->Prop}{items ys:Array PySem.Value}{fp ch:List PySem.Addr}{YP:PySem.World->PySem.Heap->Prop}{st:PySem.Stmt}{use:Option (PySem.Value->PySem.Sem Unit)}{op:PySem.CmpOp}{qual:PySem.Str}{l:_root_.PySem.W.OpenLaw}{pl:PySem.Sem Bool}{osl o7 wO:Array (Option PySem.Value)}{M:PySem.Model}{T:String}{oK:List PySem.Stmt}{ix:List (Option Nat)}{B:Prop}{g':Array PySem.GenState}{outer:List PySem.Env}{o8 Ay an od:Option PySem.Addr}{lo hi:Option Int}{px rG:Array PySem.DictEntry}{bd:PySem.Addr->PySem.Env->PySem.Sem Unit}{Q':α->PySem.Shared->Prop}{d':PySem.Drawn}{cl:List (PySem.Str×PySem.Addr)}{ob oa:PySem.Obj}{tj:PySem.Arguments}{td o4 oT oY oV oZ o3 oW oX:PySem.Tok}{args:List _root_.PySem.W.WData}
local macro_rules|`(tactic|lia)=>`(tactic|omega)
local macro_rules|`(tactic|left)=>`(tactic|decide +kernel)
namespace L2
open PySem PySem.Spec PyProof.Rows
abbrev Key:=Sum Int Str
def VR:Key->Value->Bool
 |.inl k,v=>Value.isInt k v
 |.inr x,v=>Value.isStrOf x v
def QS(w:World):Key->Int
 |.inl k=>hashInt k
 |.inr x=>hashStr w x
def Yt:∀{k:Key}{v:Value},VR k v=true->(∃i t,k=μ i/\v=Value.int i t)\/(∃x t,k=ι x/\v=Value.str x t)
 |.inl i,v,h=>by
  obtain⟨t,e⟩:=Value.isInt_shape (k:=i) (v:=v) h;exact .inl ⟨i,t,rfl,e⟩
 |.inr x,v,h=>by
  obtain⟨t,e⟩:=Value.isStrOf_shape (x:=x) (v:=v) h;exact .inr ⟨x,t,rfl,e⟩
def kL(i:Int)(t:Tok):VR (.inl i) (.int i t)=true:=by simp[VR,Value.isInt]
def xj(x:Str)(t:Tok):VR (.inr x) (.str x t)=true:=by simp[VR,Value.isStrOf]
def Zhf(a b:Int):decide ((μ a:Key)=μ b)=(a==b):=by
 by_cases e:a=b
 ·subst e;simp
 ·have h:¬(μ a:Key)=μ b:=fun q=>e (iX q);rw[fV h];exact(iY.mpr e).symm
def ZgJ(a b:Str):decide ((ι a:Key)=ι b)=decide (a=b):=by
 by_cases e:a=b
 ·subst e;simp
 ·have h:¬(ι a:Key)=ι b:=fun q=>e (i8 q);rw[fV h,fV e]
def Zgx(a:Int)(b:Str):decide ((μ a:Key)=ι b)=false:=fV (fun q=>nomatch q)
def ZgU(a:Str)(b:Int):decide ((ι a:Key)=μ b)=false:=fV (fun q=>nomatch q)
def ZM(prog:Program)(w:World):PySem.KeyKind prog w Key where
 is:=VR
 hash:=QS w
 inj:=fun v a b ha hb=>by
  rcases Yt ha with⟨i,t,rfl,rfl⟩|⟨x,t,rfl,rfl⟩
  ·rcases Yt hb with⟨j,u,rfl,e⟩|⟨y,u,rfl,e⟩
   ·injection e with e1 _;rw[e1]
   ·exact nomatch e
  ·rcases Yt hb with⟨j,u,rfl,e⟩|⟨y,u,rfl,e⟩
   ·exact nomatch e
   ·injection e with e1 _;rw[e1]
 byValue:=fun k v h=>by
  rcases Yt h with⟨i,t,rfl,rfl⟩|⟨x,t,rfl,rfl⟩<;>rfl
 pyHash:=fun hv h=>by
  rcases Yt hv with⟨i,t,rfl,rfl⟩|⟨x,t,rfl,rfl⟩
  ·exact wpAny_pyHash_int h
  ·exact wpAny_pyHash_str h
 eqBool:=fun hu hv h=>by
  rcases Yt hu with⟨i,t,rfl,rfl⟩|⟨x,t,rfl,rfl⟩
  ·rcases Yt hv with⟨j,u,rfl,rfl⟩|⟨y,u,rfl,rfl⟩
   ·rw[Zhf] at h;exact wpAny_eqBool_int h
   ·rw[Zgx] at h;exact SeqAt.EqAt.int_str i t y u _ _ _ _ h
  ·rcases Yt hv with⟨j,u,rfl,rfl⟩|⟨y,u,rfl,rfl⟩
   ·rw[ZgU] at h;exact SeqAt.EqAt.str_int x t j u _ _ _ _ h
   ·rw[ZgJ] at h;exact wpAny_eqBool_str h
 «strs» := fun k x t v h=>by
  rcases Yt h with⟨i,u,rfl,e⟩|⟨y,u,rfl,e⟩
  ·exact nomatch e
  ·injection e with e1 _;subst e1;cases v<;>rfl
def KN(prog:Program)(w:World)(i:Int)(t:Tok):(ZM prog w).is (.inl i) (.int i t)=true:=kL i t
def Ky(prog:Program)(w:World)(x:Str)(t:Tok):(ZM prog w).is (.inr x) (.str x t)=true:=xj x t
inductive V where
 |non|bl (b:Bool)|int (i:Int)|str (x:Str)|byt (b:Array UInt8)|flt (b:UInt64)|ref (a:Addr)|ty (n:String)
 deriving DecidableEq
def Z6:V->Value->Prop
 |.non,u=>u=Value.none
 |.bl b,u=>u=Value.bool b
 |.int i,u=>∃t,u=Value.int i t
 |.str x,u=>∃t,u=Value.str x t
 |.byt b,u=>∃t,u=Value.bytes b t
 |.flt b,u=>∃t,u=Value.float b t
 |.ref a,u=>u=Value.ref a
 |.ty n,u=>u=Value.type n
abbrev ZV:List V->List Value->Prop:=Paired Z6
def ZV.length{xs:List V}{us:List Value}(r:ZV xs us):xs.length=us.length:=lU r
def ZV.get:∀{xs:List V}{us:List Value}{i:Nat}{x:V},ZV xs us->xs[i]?=some x->∃u,us[i]?=some u/\Z6 x u
 |_,_,_,_,.nil,e=>by simp at e
 |_,_,0,_,.cons r _,e=>by simp at e;subst e;exact⟨_,rfl,r⟩
 |_,_,i+1,x,.cons _ t,e=>by
  obtain⟨u,h1,h2⟩:=ZV.get (i:=i) (x:=x) t (by simpa using e);exact⟨u,by simpa using h1,h2⟩
def ZV.append:∀{xs ys:List V}{us ws:List Value},ZV xs us->ZV ys ws->ZV (xs++ys) (us++ws)
 |_,_,_,_,.nil,s=>s
 |_,_,_,_,.cons r t,s=>.cons r (ZV.append t s)
def ZV.take:∀{xs:List V}{us:List Value} (n:Nat),ZV xs us->ZV (xs.take n) (us.take n)
 |_,_,0,_=>.nil
 |_,_,_+1,.nil=>.nil
 |_,_,n+1,.cons r t=>.cons r (ZV.take n t)
def ZV.drop:∀{xs:List V}{us:List Value} (n:Nat),ZV xs us->ZV (xs.drop n) (us.drop n)
 |_,_,0,r=>r
 |_,_,_+1,.nil=>.nil
 |_,_,n+1,.cons _ t=>ZV.drop n t
def Ur:Option V->Option Value->Prop
 |some v,some u=>Z6 v u
 |none,none=>True
 |_,_=>False
def KV:List (κ×V)->List (κ×Value)->Prop:=Paired fun(p:κ×V) (q:κ×Value)=>p.1=q.1/\Z6 p.2 q.2
def kV:Key->V
 |.inl i=>.int i
 |.inr x=>.str x
inductive HO where
 |lst (xs:List V)
 |tup (xs:List V)
 |dK (kvs:List (Key×V))|dT (kvs:List (List Key×V))
 |set (S:Int->Bool) (n:Nat)
 |ins (C dx:Addr) (fs:List (Str×V))
 |own (x:Addr)
 |xd (fs:List (Str×V))
 |met (f x:Addr)
 |rng (lo hi:Int)
 |frz (o:Obj) (u:HO)
 |tbl (ps:Array Value)
 |ext (φ:Heap->Prop)
abbrev Hp:=Addr->Option HO
def upd(H:Hp)(a:Addr)(o:HO):Hp:=fun b=>if b=a then some o else H b
def Zd{H:Hp}{a:Addr}{o:HO}:upd H a o a=some o:=by unfold upd;rw[oq rfl]
def ZF{H:Hp}{a b:Addr}{o:HO}(h:b≠a):upd H a o b=H b:=by unfold upd;rw[oo h]
def Y0{H:Hp}{a b:Addr}{o u:HO}(h:H a=some o)(h':H b=some u)(d:o≠u):a≠b:=by
 intro e;subst e;rw[h] at h';exact d (fW h')
def Zr{H:Hp}{a b:Addr}{o:HO}(h:H a=some o)(h':H b=none):a≠b:=by
 intro e;subst e;rw[h] at h';cases h'
section
variable(P:Program)(w:World)
def Y1(H:Hp)(h:Heap)(a:Addr):HO->Prop
 |.lst xs=>xs.length<=sizeLine/\∃(its:List Value) (n:Nat),ZV xs its/\h.get? a=some { cls:=.type "list",data:=.seq its.toArray n }
 |.tup xs=>xs.length<=sizeLine/\∃its:List Value,ZV xs its/\IsTup h a its.toArray
 |.dK kvs=>kvs.length<=sizeLine/\(a==sysModules)=false/\∃vs,KV kvs vs/\h.DictOf (ZM P w) a vs
 |.dT kvs=>kvs.length<=sizeLine/\(a==sysModules)=false/\∃xs:List (List Key×Addr×Value),
   Paired (fun(p:List Key×V) (q:List Key×Addr×Value)=>p.1=q.1/\H q.2.1=some (.tup (p.1.map kV))/\Z6 p.2 q.2.2) kvs xs /\
   ∃o es ep,h.get? a=some o/\o.ExactDict/\o.data=.dict es ep/\es.toList=xs.map (entryOfKey (tupleKind (ZM P w)))/\(xs.map (·.1)).Nodup
 |.set S n=>h.SetOf (intKind P w) a S n
 |.ins C dx fs=>H dx=some (.own a)/\fs.length<=1000/\dx≠a/\h.get? a=some (W.instObj C dx) /\
   ∃mA,h.Ns1 dx mA/\(∀f,Ur (fs.lookup f) (mA f))/\PySem.Within mA (fs.map (·.1))
 |.own _=>∃o,h.get? a=some o
 |.xd fs=>∃mA,h.Ns1 a mA/\∀f,Ur (fs.lookup f) (mA f)
 |.rng lo hi=>∃t u v,h.get? a=some { cls:=.type "range",data:=.fields #[.int lo t,.int hi u,.int 1 v] }
 |.frz o u=>h.get? a=some o/\Y1 H h a u
 |.tbl ps=>h.get? a=some { cls:=.none,data:=.fields ps }
 |.met f x=>h.get? a=some (W.methodObj (.ref f) (.ref x))
 |.ext φ=>φ h/\(∃o,h.get? a=some o)/\∀h1 h2:Heap,φ h1->(∀o,h1.get? a=some o->h2.get? a=some o)->φ h2
def HOk(H:Hp)(h:Heap):Prop:=∀a o,H a=some o->Y1 P w H h a o
end
section
variable{P:Program}{w:World}{H H':Hp}{h h':Heap}{a:Addr}{o:HO}
theorem Y1.lt(x:Y1 P w H h a o):a<h.objs.size:=by
 cases o with
 |lst xs=>obtain⟨_,_,_,_,e⟩:=x;exact fY e
 |tup xs=>obtain⟨_,_,_,p⟩:=x;exact p.lt
 |dK kvs=>obtain⟨_,_,_,_,o,_,_,e,_⟩:=x;exact fY e
 |dT kvs=>obtain⟨_,_,_,_,o,_,_,e,_⟩:=x;exact fY e
 |set S n=>obtain⟨o,_,_,_,e,_⟩:=x;exact fY e
 |ins C dx fs=>obtain⟨_,_,_,e,_⟩:=x;exact fY e
 |own y=>obtain⟨_,e⟩:=x;exact fY e
 |xd fs=>obtain⟨_,⟨_,_,_,e,_⟩,_⟩:=x;exact fY e
 |rng lo hi=>obtain⟨_,_,_,e⟩:=x;exact fY e
 |frz ob u=>obtain⟨e,_⟩:=x;exact fY e
 |tbl ps=>exact fY (show h.get? a=some _ from x)
 |met f y=>exact fY (show h.get? a=some _ from x)
 |ext φ=>obtain⟨_,⟨_,e⟩,_⟩:=x;exact fY e
theorem Paired.mapP{α β:Type}{F G:α->β->Prop}:∀{l₁:List α}{l₂:List β},Paired F l₁ l₂->(∀a b,F a b->G a b)->Paired G l₁ l₂
 |_,_,.nil,_=>.nil
 |_,_,.cons r t,f=>.cons (f _ _ r) (Paired.mapP t f)
theorem Y1.stay(x:Y1 P w H h a o)(k:∀b u,(b=a\/H b=some (.own a))->h.get? b=some u->h'.get? b=some u)
  (ho:∀b,H b=some (.own a)->H' b=some (.own a)) (ht:∀b xs,H b=some (.tup xs)->H' b=some (.tup xs)):Y1 P w H' h' a o:=by
 induction o with
 |lst xs=>obtain⟨z,its,n,r,e⟩:=x;exact⟨z,its,n,r,k _ _ (.inl rfl) e⟩
 |tup xs=>obtain⟨z,its,r,ob,e,c⟩:=x;exact⟨z,its,r,ob,k _ _ (.inl rfl) e,c⟩
 |dK kvs=>obtain⟨z,y,vs,r,ob,es,ep,e,c⟩:=x;exact⟨z,y,vs,r,ob,es,ep,k _ _ (.inl rfl) e,c⟩
 |dT kvs=>
  obtain⟨z,y,xs,r,ob,es,ep,e,c⟩:=x;exact⟨z,y,xs,Paired.mapP r fun p q z=>⟨z.1,ht _ _ z.2.1,z.2.2⟩,ob,es,ep,k _ _ (.inl rfl) e,c⟩
 |set S n=>obtain⟨ob,es,ep,t,e,c⟩:=x;exact⟨ob,es,ep,t,k _ _ (.inl rfl) e,c⟩
 |ins C dx fs=>
  obtain⟨d,z,ne,e,mA,⟨od,es,ep,e2,c⟩,r⟩:=x;exact⟨ho _ d,z,ne,k _ _ (.inl rfl) e,mA,⟨od,es,ep,k _ _ (.inr d) e2,c⟩,r⟩
 |own y=>obtain⟨ob,e⟩:=x;exact⟨ob,k _ _ (.inl rfl) e⟩
 |xd fs=>obtain⟨mA,⟨od,es,ep,e,c⟩,r⟩:=x;exact⟨mA,⟨od,es,ep,k _ _ (.inl rfl) e,c⟩,r⟩
 |rng lo hi=>obtain⟨t,u,v,e⟩:=x;exact⟨t,u,v,k _ _ (.inl rfl) e⟩
 |frz ob u ih=>obtain⟨e,q⟩:=x;exact⟨k _ _ (.inl rfl) e,ih q⟩
 |tbl ps=>
  have e:h.get? a=some { cls:=.none,data:=.fields ps }:=x
  show h'.get? a=some { cls:=.none,data:=.fields ps }
  exact k a _ (.inl rfl) e
 |met f y=>
  have e:h.get? a=some (W.methodObj (.ref f) (.ref y)):=x
  show h'.get? a=some (W.methodObj (.ref f) (.ref y))
  exact k a _ (.inl rfl) e
 |ext φ=>obtain⟨p,⟨o,e⟩,st⟩:=x;exact⟨st _ _ p fun o q=>k _ _ (.inl rfl) q,⟨o,k _ _ (.inl rfl) e⟩,st⟩
theorem HOk.lt(x:HOk P w H h)(e:H a=some o):a<h.objs.size:=(x a o e).lt
theorem HOk.fresh(x:HOk P w H h)(e:h.objs.size<=a):H a=none:=by
 cases q:H a with
 |none=>rfl
 |some u=>exact ot (gJ (x.lt q) e) (iZ _)
theorem HOk.kept(x:HOk P w H h)(k:∀b u,h.get? b=some u->h'.get? b=some u):HOk P w H h':=fun a o e=>
 (x a o e).stay (fun b u _ q=>k b u q) (fun _ q=>q) fun _ _ q=>q
theorem HOk.laid(x:HOk P w H h)(k:∀b u,h.get? b=some u->h'.get? b=some u)(hp:h.objs.size<=a)(new:Y1 P w (upd H a o) h' a o):HOk P w (upd H a o) h':=fun b u e=>by
 have hn:=x.fresh hp
 by_cases hb:b=a
 ·subst hb;rw[Zd] at e;cases e;exact new
 ·rw[ZF hb] at e;exact(x b u e).stay (fun c v _ q=>k c v q) (fun c q=>by rw[ZF (Zr q hn)];exact q) fun c xs q=>by rw[ZF (Zr q hn)];exact q
end
def Rd(H:Hp)(a:Addr)(u:HO):Prop:=H a=some u\/∃o,H a=some (.frz o u)
def Rd.ok{H:Hp}{a:Addr}{u:HO}(r:Rd H a u)(x:HOk P w H h):Y1 P w H h a u:=by
 rcases r with r|⟨o,r⟩
 ·exact x a u r
 ·obtain⟨_,q⟩:=x a _ r;exact q
def Mut:Option HO->Prop
 |some (.lst _)=>True
 |some (.dK _)=>True
 |some (.dT _)=>True
 |some (.set _ _)=>True
 |some (.ins _ _ _)=>True
 |some (.ext _)=>True
 |_=>False
section
variable{H:Hp}{x e:Addr}{o':HO}
theorem HOk.write(ok:HOk P w H h)(mu:Mut (H x))(he:e=x\/H e=some (.own x))(k:∀b u,b≠e->h.get? b=some u->h'.get? b=some u)(Bb:∃u,h'.get? e=some u)
  (new:Y1 P w (upd H x o') h' x o'):HOk P w (upd H x o') h':=fun b u q=>by
 have CM:∀c y,H c=some (.own y)->c≠x:=fun c y r z=>by subst z;rw[r] at mu;exact mu
 have GM:∀c xs,H c=some (.tup xs)->c≠x:=fun c xs r z=>by subst z;rw[r] at mu;exact mu
 by_cases hb:b=x
 ·subst hb;rw[Zd] at q;cases q;exact new
 ·rw[ZF hb] at q
  by_cases hbe:b=e
  ·have q':H b=some (.own x):=by
    rcases he with z|z
    ·exact ot (hbe.trans z) hb
    ·rw[hbe];exact z
   rw[q] at q';cases q';obtain⟨v,hv⟩:=Bb;exact⟨v,by rw[hbe];exact hv⟩
  ·refine(ok b u q).stay (fun c v hc r=>k c v ?_ r) (fun c r=>by rw[ZF (CM c b r)];exact r) fun c xs r=>by rw[ZF (GM c xs r)];exact r
   rcases hc with rfl|hc
   ·exact hbe
   ·rintro rfl;rcases he with z|z
    ·exact CM c b hc z
    ·rw[hc] at z;cases z;exact hb rfl
end
structure Un(fs ex:List Addr)(H H':Hp)(h h':Heap):Prop where
 keep:∀b o,h.get? b=some o->H b=none->b∉fs->b∉ex->h'.get? b=some o
 slot:∀b o,h.get? b=some o->H b=none->b∈fs->b∉ex->∃sl,h'.get? b=some { o with slots:=sl }
 free:∀b o,h.get? b=some o->H b=none->b∉ex->H' b=none
 there:∀b o,h.get? b=some o->b∉ex->∃o',h'.get? b=some o'
 tups:∀b xs,H b=some (.tup xs)->H' b=some (.tup xs)
 frzs:∀b o u,H b=some (.frz o u)->H' b=some (.frz o u)
 tbls:∀b ps,H b=some (.tbl ps)->∃more,H' b=some (.tbl (ps++more))
section
variable{fs CT ex tJ:List Addr}{H H1 H2:Hp}{h1 h2:Heap}{a x e:Addr}{o:HO}
theorem Un.any(u:Un fs ex H H1 h h1){b:Addr}(q:h.get? b=some ob)(n:H b=none)(hx:b∉ex):∃sl,h1.get? b=some { ob with slots:=sl }:=by
 by_cases hb:b∈fs
 ·exact u.slot b ob q n hb hx
 ·exact⟨ob.slots,u.keep b ob q n hb hx⟩
theorem Un.kept(k:∀b u,h.get? b=some u->h'.get? b=some u):Un fs ex H H h h':=
 ⟨fun b ob q _ _ _=>k b ob q,fun b ob q _ _ _=>⟨ob.slots,k b ob q⟩,fun _ _ _ n _=>n,fun b ob q _=>⟨ob,k b ob q⟩,fun _ _ q=>q,fun _ _ _ q=>q,fun _ ps q=>⟨#[],by rw[q];simp⟩⟩
theorem Un.refl:Un fs ex H H h h:=Un.kept fun _ _ q=>q
theorem Un.laid(k:∀b u,h.get? b=some u->h'.get? b=some u)(hp:h.objs.size<=a)(hn:H a=none):Un fs ex H (upd H a o) h h' where
 keep:=fun b u q _ _ _=>k b u q
 slot:=fun b u q _ _ _=>⟨u.slots,k b u q⟩
 free:=fun b u q n _=>by rw[ZF (gb (gJ (fY q) hp))];exact n
 there:=fun b u q _=>⟨u,k b u q⟩
 tups:=fun b xs q=>by rw[ZF (Zr q hn)];exact q
 frzs:=fun b u xs q=>by rw[ZF (Zr q hn)];exact q
 tbls:=fun b ps q=>⟨#[],by rw[ZF (Zr q hn),q];simp⟩
theorem Un.write(mu:Mut (H x))(he:e=x\/H e=some (.own x))(k:∀b u,b≠e->h.get? b=some u->h'.get? b=some u)(Bb:∃u,h'.get? e=some u):Un fs ex H (upd H x o) h h':=by
 have hx:∀b,H b=none->b≠x:=fun b n z=>by subst z;rw[n] at mu;exact mu
 have hb:∀b,H b=none->b≠e:=fun b n z=>by
  subst z;rcases he with r|r
  ·exact hx b n r
  ·rw[n] at r;cases r
 have hm:∀b u,H b=some u->¬Mut (some u)->b≠x:=fun b u q nm z=>by subst z;rw[q] at mu;exact nm mu
 refine⟨fun b u q n _ _=>k b u (hb b n) q,fun b u q n _ _=>⟨u.slots,k b u (hb b n) q⟩,fun b u q n _=>by rw[ZF (hx b n)];exact n,fun b u q _=>?_,
  fun b xs q=>by rw[ZF (hm b _ q fun z=>z)];exact q,fun b u xs q=>by rw[ZF (hm b _ q fun z=>z)];exact q,fun b ps q=>⟨#[],by rw[ZF (hm b _ q fun z=>z),q];simp⟩⟩
 by_cases hbe:b=e
 ·subst hbe;exact Bb
 ·exact⟨u,k b u hbe q⟩
end
def trk(h:Heap)(H:Hp):List Addr:=(γ h.objs.size).filter fun a=>(H a).isSome
def JM(h:Heap)(H:Hp):Heap:=W.hideAll h (trk h H)
def Zb2(h:Heap)(H:Hp):(JM h H).objs.size=h.objs.size:=W.hideAll_size _ _
def ZcX{H:Hp}{b:Addr}{o:Obj}(e:h.get? b=some o)(n:H b=none):(JM h H).get? b=some o:=
 W.hideAll_get _ e fun hm=>by
  have q:(H b).isSome=true:=(iC.mp hm).2;rw[n] at q;simp at q
def ZeH{H:Hp}{b:Addr}{o:Obj}(e:(JM h H).get? b=some o):h.get? b=some o/\H b=none:=by
 have e':h.get? b=some o:=W.of_hideAll (trk h H) e;refine⟨e',?_⟩;cases q:H b with
 |none=>rfl
 |some x=>
  have hm:b∈trk h H:=iC.mpr ⟨i9.mpr (fY e'),by simp[q]⟩;have z:(JM h H).get? b=none:=W.hideAll_none (trk h H) hm;rw[z] at e;cases e
def Zfl(g h:Heap)(L:Addr):List (Addr×Obj):=(γ h.objs.size).filterMap fun a=>if a=L\/(g.get? a).isSome=true then none else(h.get? a).map fun o=>(a,o)
def XO(g h:Heap)(L d:Addr):List (Addr×Obj):=(Zfl g h L).filter fun p=>decide (p.1≠d)
end L2
variable{H H' H0 H1 G' G H2:L2.Hp}{r:L2.Hp->L2.V->α->Prop}{v y v1 v2 v3:L2.V}{o:L2.HO}{kvs:List (List L2.Key×L2.V)}{xs vs:List L2.V}{kv:List (L2.Key×L2.V)}
namespace L2
open PySem PySem.Spec PyProof.Rows
structure Mod(K:W.Frag)(mg:Str->Option Value)(base:Heap):Prop where
 kin:K.In base
 glob:base.Ns mainGlobals mg
 blt:∃mb,base.Ns builtinsNs mb/\∀x:Str,x ≠ "__name__" -> mb x=bootBuiltins x
 nolimit:base.NoLimit
structure Cx where
 prog:Program
 w:World
 K:W.Frag
 mg:Str->Option Value
 base:Heap
 A:Around
 N:List Str
 s₀:Shared
 H₀:Hp
 env:Env
 outer:List Env
 stack:List Env
 ex:List Addr
 fn:Str->Bool
 calm:Bool
 pn:List (Addr×Obj)
 xe:Value->Shared->Prop
def frs(l:List Env):List Addr:=l.filterMap (·.frame)
abbrev Cx.fs(X:Cx):List Addr:=frs X.outer
def Vis(sc:Scope)(x:Str):Prop:=sc.names.lookup x=some .local\/sc.names.lookup x=some .cell\/sc.names.lookup x=some .free
def Loc(sc:Scope)(x:Str):Prop:=sc.names.lookup x=some .local\/sc.names.lookup x=some .cell
def Look(env:Env)(h:Heap)(m:Str->Option Value)(x:Str)(u:Value):Prop:=
 (env.kindOf x=some .local/\m x=some u)\/((env.kindOf x=some .cell\/env.kindOf x=some .free)/\∃c,env.cells.lookup x=some c/\h.IsCell c (some u))
structure Cx.Ok(X:Cx):Prop where
 mod:Mod X.K X.mg X.base
 kind:X.env.scope.kind=.function
 glob:X.env.globals=mainGlobals
 blt:X.env.builtins=builtinsNs
 above:X.s₀.heap.objs.size<=X.env.locals
 inj:∀x y c,X.env.cells.lookup x=some c->X.env.cells.lookup y=some c->x=y
 has:∀x,(X.env.kindOf x=some .cell\/X.env.kindOf x=some .free)->∃c,X.env.cells.lookup x=some c
 cab:∀x c,X.fn x=true->X.env.cells.lookup x=some c->X.s₀.heap.objs.size<=c
 hd:X.calm=true->X.A.handled=none
 frames:X.A.frames=some X.stack
 stk:X.stack=X.outer\/(X.stack=X.env::X.outer/\X.env.frame=some X.env.locals)
 exf:∀b∈X.ex,b≠X.env.locals/\∀x c,X.env.cells.lookup x=some c->c≠b
 bs:∀b o,X.base.get? b=some o->X.s₀.heap.get? b=some o/\X.H₀ b=none
 bsz:X.base.objs.size<=X.s₀.heap.objs.size
 noex:∀b o,X.base.get? b=some o->b∉X.ex
 exfs:∀b∈X.ex,b∉X.fs
 funs:X.s₀.heap.FunFrames X.base X.outer
 frf:∀b∈X.fs,X.H₀ b=none
structure Inv(X:Cx)(dm:List (Addr×Obj))(U:List (Option V))(H:Hp)(s:Shared):Prop where
 ok:X.Ok
 os:s.os=X.s₀.os
 bare:AllBare s.gens
 base:Un X.fs X.ex X.H₀ H X.s₀.heap s.heap
 loc:∃m,s.heap.Ns X.env.locals m/\∀(i:Nat) (x:Str) (v:V),X.N[i]?=some x->U[i]?=some (some v)->Vis X.env.scope x->∃u,Z6 v u/\Look X.env s.heap m x u
 cell:∀x c,X.env.cells.lookup x=some c->∃v,s.heap.IsCell c v
 free:H X.env.locals=none
 freeC:∀x c,X.env.cells.lookup x=some c->H c=none
 pin:∀p∈X.pn++dm,s.heap.get? p.1=some p.2/\H p.1=none/\p.1≠X.env.locals/\p.1∉X.fs/\∀v,p.2.data≠.cell v
 hok:HOk X.prog X.w H s.heap
 len:U.length=X.N.length
section
variable{X:Cx}{U:List (Option V)}
theorem Cx.Ok.nofr(ok:X.Ok){b:Addr}{o:Obj}(e:X.base.get? b=some o):b∉X.fs:=fun hb=>by
 have:=(ok.funs.mem hb).1;rw[e] at this;cases this
theorem Inv.bs(I:Inv X dm U H s):∀b o,X.base.get? b=some o->s.heap.get? b=some o/\H b=none:=fun b o e=>
 ⟨I.base.keep b o (I.ok.bs b o e).1 (I.ok.bs b o e).2 (I.ok.nofr e) (I.ok.noex b o e),I.base.free b o (I.ok.bs b o e).1 (I.ok.bs b o e).2 (I.ok.noex b o e)⟩
theorem Inv.bk(I:Inv X dm U H s):∀b o,X.base.get? b=some o->s.heap.get? b=some o:=fun b o e=>(I.bs b o e).1
theorem Inv.mod(I:Inv X dm U H s):Mod X.K X.mg X.base:=I.ok.mod
theorem Inv.kIn(I:Inv X dm U H s):X.K.In s.heap:=I.ok.mod.kin.keeps I.bk
theorem Inv.fr(I:Inv X dm U H s):∃m,Fr X.base X.env.locals s.heap m:=
 let ⟨m,hn,_⟩:=I.loc
 ⟨m,hn,I.bk,gg I.ok.bsz I.ok.above⟩
theorem Inv.lt(I:Inv X dm U H s):X.env.locals<s.heap.objs.size:=let ⟨_,hn,_⟩:=I.loc;hn.lt
theorem Inv.sz(I:Inv X dm U H s):X.s₀.heap.objs.size<=s.heap.objs.size:=gg I.ok.above (iD I.lt)
theorem Inv.nofs(I:Inv X dm U H s){a:Addr}(h:s.heap.objs.size<=a):a∉X.fs:=fun hb=>by
 obtain⟨_,o,ho,_⟩:=I.ok.funs.mem hb;exact ot (gJ (fY ho) (gg I.sz h)) (iZ _)
theorem Inv.cne(I:Inv X dm U H s):∀x c,X.env.cells.lookup x=some c->c≠X.env.locals:=fun x c e z=>by
 obtain⟨v,o,ho,hd⟩:=I.cell x c e;obtain⟨m,⟨o',es,ep,rN,su,_⟩,_⟩:=I.loc;rw[z,rN] at ho;cases ho;rw[su] at hd;cases hd
theorem Inv.funs(I:Inv X dm U H s):s.heap.FunFrames X.base X.outer:=by
 have all:∀(l:List Env),(∀b∈frs l,b∈X.fs)->X.s₀.heap.FunFrames X.base l->s.heap.FunFrames X.base l:=by
  intro l
  induction l with
  |nil=>intro _ _;trivial
  |cons env r ih=>
   intro hs hl;obtain⟨hk,⟨L,o,hf,hn,ho,hd⟩,hr⟩:=hl;have hL:L∈X.fs:=hs L (by unfold frs;rw[m7,hf];exact iL);obtain⟨sl,e⟩:=I.base.slot L o ho (I.ok.frf L hL) hL fun z=>I.ok.exfs L z hL;exact⟨hk,⟨L,_,hf,hn,e,hd⟩,ih (fun b hb=>hs b (by unfold frs;rw[m7,hf];exact fT _ hb)) hr⟩
 exact all X.outer (fun _ hb=>hb) I.ok.funs
theorem Inv.stack(I:Inv X dm U H s):s.heap.FunFrames X.base X.stack:=by
 rcases I.ok.stk with e|⟨e,hf⟩
 ·rw[e];exact I.funs
 ·rw[e];obtain⟨m,hn,_⟩:=I.loc;refine .cons (by rw[I.ok.kind];decide) hf hn ?_ I.funs;exact Heap.get?_none_of_le (gg I.ok.bsz I.ok.above)
theorem Inv.stkSub(I:Inv X dm U H s):∀b∈frs X.stack,b∈X.env.locals::X.fs:=fun b hb=>by
 rcases I.ok.stk with e|⟨e,hf⟩
 ·rw[e] at hb;exact fT _ hb
 ·rw[e] at hb;unfold frs at hb;rw[m7,hf] at hb;exact hb
theorem Inv.stkFree(I:Inv X dm U H s):∀b∈frs X.stack,H b=none:=fun b hb=>by
 rcases fU.mp (I.stkSub b hb) with e|hb
 ·rw[e];exact I.free
 ·obtain⟨_,o,ho,_⟩:=I.ok.funs.mem hb;exact I.base.free b o ho (I.ok.frf b hb) fun z=>I.ok.exfs b z hb
theorem Inv.step(I:Inv X dm U H s)
  (se:∀b∈ch,(b∈X.ex\/X.s₀.heap.objs.size<=b)/\b≠X.env.locals/\(∀x c,X.env.cells.lookup x=some c->c≠b)/\∀p∈X.pn++dm,p.1≠b)
  (keep:∀b o,b≠X.env.locals->b∉X.fs->b∉ch->s.heap.get? b=some o->H b=none->h'.get? b=some o)
  (slot:∀b o,b≠X.env.locals->b∈X.fs->b∉ch->s.heap.get? b=some o->H b=none->∃sl,h'.get? b=some { o with slots:=sl }) (free:∀b o,b∉ch->s.heap.get? b=some o->H b=none->H' b=none)
  (there:∀b o,b∉ch->s.heap.get? b=some o->∃o',h'.get? b=some o')
  (tups:∀b xs,H b=some (.tup xs)->H' b=some (.tup xs)) (frzs:∀b o u,H b=some (.frz o u)->H' b=some (.frz o u)) (tbls:∀b ps,H b=some (.tbl ps)->∃more,H' b=some (.tbl (ps++more)))
  (ns:∀m,s.heap.Ns X.env.locals m->h'.Ns X.env.locals m) (hok:HOk X.prog X.w H' h') (hg:AllBare g') :
  Inv X dm U H' { s with heap:=h',gens:=g',drawn:=d',toks:=t' }:=by
 have HN:∀b o,X.s₀.heap.get? b=some o->b≠X.env.locals:=fun b o e=>gb (gJ (fY e) I.ok.above);have Dy:∀b o,X.s₀.heap.get? b=some o->b∉X.ex->b∉ch:=fun b o e hx hb=>by
  rcases(se b hb).1 with z|z
  ·exact hx z
  ·exact ot (gJ (fY e) z) (iZ _)
 have wo:∀x c,X.env.cells.lookup x=some c->∀v,s.heap.IsCell c v->h'.IsCell c v:=fun x c e v ⟨o,ho,hd⟩=>by
  have uY:c∉ch:=fun z=>(se c z).2.2.1 x c e rfl
  by_cases hc:c∈X.fs
  ·obtain⟨sl,q⟩:=slot c o (I.cne x c e) hc uY ho (I.freeC x c e);exact⟨_,q,hd⟩
  ·exact⟨o,keep c o (I.cne x c e) hc uY ho (I.freeC x c e),hd⟩
 refine⟨I.ok,I.os,hg,⟨fun b o e n hb hx=>?_,fun b o e n hb hx=>?_,fun b o e n hx=>?_,fun b o e hx=>?_,fun b xs e=>tups b xs (I.base.tups b xs e),fun b o xs e=>frzs b o xs (I.base.frzs b o xs e),fun b ps e=>?_⟩,?_,fun x c e=>?_,?_,fun x c e=>?_,fun p hp=>?_,hok,I.len⟩
 ·exact keep b o (HN b o e) hb (Dy b o e hx) (I.base.keep b o e n hb hx) (I.base.free b o e n hx)
 ·obtain⟨sl,e1⟩:=I.base.slot b o e n hb hx;obtain⟨NP,e2⟩:=slot b _ (HN b o e) hb (Dy b o e hx) e1 (I.base.free b o e n hx);exact⟨NP,e2⟩
 ·obtain⟨o',e1⟩:=I.base.there b o e hx;exact free b o' (Dy b o e hx) e1 (I.base.free b o e n hx)
 ·obtain⟨o',e1⟩:=I.base.there b o e hx;exact there b o' (Dy b o e hx) e1
 ·obtain⟨m1,e1⟩:=I.base.tbls b ps e;obtain⟨m2,e2⟩:=tbls b _ e1;exact⟨m1++m2,by rw[e2,Array.append_assoc]⟩
 ·obtain⟨m,hn,hl⟩:=I.loc;refine⟨m,ns m hn,fun i x v e1 e2 e3=>?_⟩;obtain⟨u,r,l⟩:=hl i x v e1 e2 e3;refine⟨u,r,?_⟩;rcases l with l|⟨k,c,e,z⟩
  ·exact .inl l
  ·exact .inr ⟨k,c,e,wo x c e _ z⟩
 ·obtain⟨v,z⟩:=I.cell x c e;exact⟨v,wo x c e v z⟩
 ·obtain⟨m,⟨o,_,_,ho,_⟩,_⟩:=I.loc;exact free _ o (fun z=>(se _ z).2.1 rfl) ho I.free
 ·obtain⟨v,o,ho,hd⟩:=I.cell x c e;exact free c o (fun z=>(se c z).2.2.1 x c e rfl) ho (I.freeC x c e)
 ·obtain⟨e,n,ne,nf,d⟩:=I.pin p hp;have uY:p.1∉ch:=fun z=>(se p.1 z).2.2.2 p hp rfl;exact⟨keep p.1 p.2 ne nf uY e n,free p.1 p.2 uY e n,ne,nf,d⟩
theorem Inv.un(I:Inv X dm U H s)(u:Un X.fs [] H H' s.heap h')(hok:HOk X.prog X.w H' h'):Inv X dm U H' { s with heap:=h',toks:=t' }:=by
 obtain⟨m,⟨o,es,ep,ho,r⟩,_⟩:=id I.loc;obtain⟨sl,hL⟩:=u.any ho I.free (by simp);exact I.step (g':=s.gens) (d':=s.drawn) (ch:=[]) (fun _ z=>nomatch z) (fun b o _ hb _ e n=>u.keep b o e n hb (by simp)) (fun b o _ hb _ e n=>u.slot b o e n hb (by simp)) (fun b o _ e n=>u.free b o e n (by simp)) (fun b o _ e=>u.there b o e (by simp)) u.tups u.frzs u.tbls (fun m' hm=>by
  obtain⟨o',FA,GA,rN,r'⟩:=hm;rw[ho] at rN;cases rN;exact⟨_,FA,GA,hL,r'⟩) hok I.bare
theorem Inv.call(I:Inv X dm U H s)(u:Un (frs X.stack) ch H H' s.heap h')(hok:HOk X.prog X.w H' h')(hg:AllBare g')
  (se:∀b∈ch,(b∈X.ex\/X.s₀.heap.objs.size<=b)/\b≠X.env.locals/\(∀x c,X.env.cells.lookup x=some c->c≠b)/\∀p∈X.pn++dm,p.1≠b) :
  Inv X dm U H' { s with heap:=h',gens:=g',drawn:=d',toks:=t' }:=by
 obtain⟨m,⟨o,es,ep,ho,r⟩,_⟩:=id I.loc;obtain⟨sl,hL⟩:=u.any ho I.free fun z=>(se _ z).2.1 rfl;exact I.step (ch:=ch) se (fun b o hL hb hc e n=>u.keep b o e n (fun z=>(fU.mp (I.stkSub b z)).elim hL hb) hc) (fun b o _ _ hc e n=>u.any e n hc) (fun b o hc e n=>u.free b o e n hc) (fun b o hc e=>u.there b o e hc) u.tups u.frzs u.tbls (fun m' hm=>by
  obtain⟨o',FA,GA,rN,r'⟩:=hm;rw[ho] at rN;cases rN;exact⟨_,FA,GA,hL,r'⟩) hok hg
theorem Inv.turned(I:Inv X dm U H s)(k:∀b o,b≠it->s.heap.get? b=some o->h'.get? b=some o)(hn:H it=none)(hL:it≠X.env.locals)
  (h1:it∈X.ex\/X.s₀.heap.objs.size<=it) (h2:∀x c,X.env.cells.lookup x=some c->c≠it) (h3:∀p∈X.pn++dm,p.1≠it):Inv X dm U H { s with heap:=h',toks:=t' }:=by
 have Mi:∀b u,H b=some u->b≠it:=fun b u e z=>by rw[z,hn] at e;cases e
 refine I.step (g':=s.gens) (d':=s.drawn) (ch:=[it]) (fun b hb=>?_) (fun b o _ _ hc e _=>k b o (fun z=>hc (by simp[z])) e) (fun b o _ _ hc e _=>⟨o.slots,k b o (fun z=>hc (by simp[z])) e⟩) (fun _ _ _ _ n=>n)
  (fun b o hc e=>⟨o,k b o (fun z=>hc (by simp[z])) e⟩) (fun _ _ e=>e) (fun _ _ _ e=>e) (fun b ps e=>⟨#[],by rw[e];simp⟩) (fun m hm=>?_) (fun b u e=>?_) I.bare
 ·have e:b=it:=by simpa using hb
  subst e;exact⟨h1,hL,h2,h3⟩
 ·obtain⟨o,es,ep,ho,r⟩:=hm;exact⟨o,es,ep,k _ o (fX hL) ho,r⟩
 ·refine(I.hok b u e).stay (fun c v hc q=>k c v ?_ q) (fun _ q=>q) fun _ _ q=>q;rcases hc with z|z
  ·rw[z];exact Mi b u e
  ·exact Mi c _ z
theorem Inv.tok(I:Inv X dm U H s)(t:Nat):Inv X dm U H { s with toks:=t }:=I.un (h':=s.heap) (t':=t) Un.refl I.hok
theorem Inv.kept{t':Nat}(I:Inv X dm U H s)(k:∀b u,s.heap.get? b=some u->h'.get? b=some u):Inv X dm U H { s with heap:=h',toks:=t' }:=I.un (Un.kept k) (I.hok.kept k)
theorem Inv.laid{a:Addr}{o:HO}{t':Nat}(I:Inv X dm U H s)(k:∀b u,s.heap.get? b=some u->h'.get? b=some u)(hp:s.heap.objs.size<=a)(new:Y1 X.prog X.w (upd H a o) h' a o) :
  Inv X dm U (upd H a o) { s with heap:=h',toks:=t' }:=I.un (Un.laid k hp (I.hok.fresh hp)) (I.hok.laid k hp new)
theorem Inv.write{x e:Addr}{o:HO}{t':Nat}(I:Inv X dm U H s)(mu:Mut (H x))(he:e=x\/H e=some (.own x))(k:∀b u,b≠e->s.heap.get? b=some u->h'.get? b=some u)(Bb:∃u,h'.get? e=some u)
  (new:Y1 X.prog X.w (upd H x o) h' x o):Inv X dm U (upd H x o) { s with heap:=h',toks:=t' }:=I.un (Un.write mu he k Bb) (I.hok.write mu he k Bb new)
theorem Inv.pins_of(I:Inv X dm U H s)(h:∀p∈wD,s.heap.get? p.1=some p.2/\H p.1=none/\p.1≠X.env.locals/\p.1∉X.fs/\∀v,p.2.data≠.cell v):Inv X wD U H s:=
 ⟨I.ok,I.os,I.bare,I.base,I.loc,I.cell,I.free,I.freeC,fun p hp=>(gj.mp hp).elim (fun z=>I.pin p (gT _ z)) (h p),I.hok,I.len⟩
theorem Kg(hN:N.Nodup){x:Str}(a:N[i]?=some x)(b:N[j]?=some x):i=j:=by
 obtain⟨h1,e1⟩:=fP.mp a;obtain⟨h2,e2⟩:=fP.mp b;exact(Κ hN).mp (e1.trans e2.symm)
theorem j8{x:Str}{Q:Unit->Shared->Prop}(I:Inv X dm U H s)(hN:X.N.Nodup)(hi:X.N[i]?=some x)(hx:Loc X.env.scope x)(r:Z6 v u)
  (h:∀s',Inv X dm (U.set i (some v)) H s'->(∃a,Heap.SameBut a s.heap s'.heap/\(a=X.env.locals\/X.env.cells.lookup x=some a))->Q () s') (hf:X.fn x=true\/X.env.scope.names.lookup x=some .local:=by first|exact .inl rfl|exact .inr rfl|assumption):wpAny M A (storeName X.env x u) Q E s:=by
 obtain⟨m,hn,hl⟩:=id I.loc;have Gu:(X.env.scope.kind==.class||(X.env.scope.kind==.module&&X.env.locals != X.env.globals))=false:=by rw[I.ok.kind];rfl
 have He:i<U.length:=by rw[I.len];exact(fP.mp hi).1
 have cne:=I.cne;have sC:∀{a:Addr}{h':Heap},(∃o,s.heap.get? a=some o/\H a=none)->Heap.SameBut a s.heap h'->HOk X.prog X.w H h':=fun {a h'} ha hs b ob e=>by
  obtain⟨_,_,pj⟩:=ha;refine(I.hok b ob e).stay (fun c w' hc q=>(hs.2 c ?_).trans q) (fun _ q=>q) fun _ _ q=>q;rintro rfl;rcases hc with rfl|hc
  ·rw[pj] at e;cases e
  ·rw[pj] at hc;cases hc
 rcases hx with hk|hk
 ·refine wpAny_storeName_local hk hn (fun h' EW hs=>?_) Gu;obtain⟨oL,_,_,Po,_⟩:=id hn;refine h _ ⟨I.ok,I.os,I.bare,⟨fun b o e n hb hx=>?_,fun b o e n hb hx=>?_,I.base.free,fun b o e hx=>?_,I.base.tups,I.base.frzs,I.base.tbls⟩,⟨_,EW,fun j y v' e1 e2 e3=>?_⟩,fun y c e=>?_,I.free,I.freeC,fun p hp=>?_,sC ⟨oL,Po,I.free⟩ hs,by simpa using I.len⟩ ⟨_,hs,.inl rfl⟩
  ·exact(hs.2 b (gb (gJ (fY e) I.ok.above))).trans (I.base.keep b o e n hb hx)
  ·obtain⟨sl,e1⟩:=I.base.slot b o e n hb hx;exact⟨sl,(hs.2 b (gb (gJ (fY e) I.ok.above))).trans e1⟩
  ·obtain⟨o',e1⟩:=I.base.there b o e hx;exact⟨o',(hs.2 b (gb (gJ (fY e) I.ok.above))).trans e1⟩
  ·by_cases hj:j=i
   ·subst hj;rw[hi] at e1;cases e1;rw[Ο He] at e2;cases e2;exact⟨u,r,.inl ⟨hk,by simp⟩⟩
   ·rw[Ω (fX hj)] at e2;obtain⟨u',r',q⟩:=hl j y v' e1 e2 e3;refine⟨u',r',?_⟩;rcases q with⟨k,e⟩|⟨k,c,e,z⟩
    ·refine .inl ⟨k,?_⟩;have:y≠x:=fun e=>hj (Kg hN e1 (e▸hi));simp[this,e]
    ·exact .inr ⟨k,c,e,z.sameBut hs (cne y c e)⟩
  ·obtain⟨w',z⟩:=I.cell y c e;exact⟨w',z.sameBut hs (cne y c e)⟩
  ·obtain⟨e,n,ne,nf,d⟩:=I.pin p hp;exact⟨(hs.2 p.1 ne).trans e,n,ne,nf,d⟩
 ·have Cn:X.fn x=true:=by
   rcases hf with z|z
   ·exact z
   ·rw[z] at hk;cases hk
  obtain⟨c,hc⟩:=I.ok.has x (.inl hk);obtain⟨w',z⟩:=I.cell x c hc;refine wpAny_storeName_cell I.ok.kind hk hc z (fun h' ro hs=>?_);obtain⟨oc,NA,FM⟩:=id z;refine h { s with heap:=h' } ⟨I.ok,I.os,I.bare,⟨fun b o e n hb hx=>?_,fun b o e n hb hx=>?_,I.base.free,fun b o e hx=>?_,I.base.tups,I.base.frzs,I.base.tbls⟩,⟨m,hn.sameBut hs (fX (cne x c hc)),fun j y v' e1 e2 e3=>?_⟩,fun y c' e=>?_,I.free,I.freeC,fun p hp=>?_,sC ⟨oc,NA,I.freeC x c hc⟩ hs,by simpa using I.len⟩ ⟨c,hs,.inr hc⟩
  ·exact(hs.2 b (gb (gJ (fY e) (I.ok.cab x c Cn hc)))).trans (I.base.keep b o e n hb hx)
  ·obtain⟨sl,e1⟩:=I.base.slot b o e n hb hx;exact⟨sl,(hs.2 b (gb (gJ (fY e) (I.ok.cab x c Cn hc)))).trans e1⟩
  ·obtain⟨o',e1⟩:=I.base.there b o e hx;exact⟨o',(hs.2 b (gb (gJ (fY e) (I.ok.cab x c Cn hc)))).trans e1⟩
  ·by_cases hj:j=i
   ·subst hj;rw[hi] at e1;cases e1;rw[Ο He] at e2;cases e2;exact⟨u,r,.inr ⟨.inl hk,c,hc,ro⟩⟩
   ·rw[Ω (fX hj)] at e2;obtain⟨u',r',q⟩:=hl j y v' e1 e2 e3;refine⟨u',r',?_⟩;rcases q with q|⟨k,c',e,z'⟩
    ·exact .inl q
    ·refine .inr ⟨k,c',e,z'.sameBut hs ?_⟩;rintro rfl;exact hj (Kg hN e1 (I.ok.inj _ _ _ e hc▸hi))
  ·by_cases Dx:c'=c
   ·subst Dx;exact⟨_,ro⟩
   ·obtain⟨w2,z2⟩:=I.cell y c' e;exact⟨w2,z2.sameBut hs Dx⟩
  ·obtain⟨e,n,ne,nf,d⟩:=I.pin p hp;refine⟨(hs.2 p.1 ?_).trans e,n,ne,nf,d⟩;intro q;rw[q,NA] at e;have q':oc=p.2:=fW e;exact d w' (by rw[<- q'];exact FM)
theorem vp{x:Str}{Q:Unit->Shared->Prop}(I:Inv X dm U H s)(hN:X.N.Nodup)(hi:X.N[i]?=some x)(hx:Loc X.env.scope x)(r:Z6 v u)
  (h:∀s',Inv X dm (U.set i (some v)) H s'->Q () s') (hf:X.fn x=true\/X.env.scope.names.lookup x=some .local:=by first|exact .inl rfl|exact .inr rfl|assumption):wpAny M A (storeName X.env x u) Q E s:=
 j8 I hN hi hx r (fun s' I' _=>h s' I') hf
theorem Inv.call'(I:Inv X dm U H s)(ho:s'.os=s.os)(u:Un (frs X.stack) ch H H' s.heap s'.heap)(hok:HOk X.prog X.w H' s'.heap)(hg:AllBare s'.gens)
  (se:∀b∈ch,(b∈X.ex\/X.s₀.heap.objs.size<=b)/\b≠X.env.locals/\(∀x c,X.env.cells.lookup x=some c->c≠b)/\∀p∈X.pn++dm,p.1≠b):Inv X dm U H' s':=by
 obtain⟨h',g',d',t',o'⟩:=s';have e:o'=s.os:=ho;subst e;exact I.call (g':=g') (t':=t') (d':=d') u hok hg se
end
abbrev XK:=Value->Option Addr->Hp->Prop
abbrev St:=List (Option V)
abbrev VK:=V->Hp->Prop
abbrev TE:=St->Hp->VK->Prop
abbrev TT:=St->Hp->(Bool->Hp->Prop)->Prop
abbrev TA:=St->Hp->(List V->Hp->Prop)->Prop
structure jN where
 nx:St->Hp->Prop
 rt:VK
 bk:St->Hp->Prop:=fun _ _=>False
 ct:St->Hp->Prop:=fun _ _=>False
abbrev TS:=jN->St->Hp->Prop
def EP(X:Cx)(dm:List (Addr×Obj))(U:St)(Q:VK)(u:Value)(s':Shared):Prop:=∃v H',Inv X dm U H' s'/\Z6 v u/\Q v H'
def TP(X:Cx)(dm:List (Addr×Obj))(U:St)(Q:Bool->Hp->Prop)(b:Bool)(s':Shared):Prop:=∃H',Inv X dm U H' s'/\Q b H'
def AP(X:Cx)(dm:List (Addr×Obj))(U:St)(Q:List V->Hp->Prop)(us:List Value)(s':Shared):Prop:=∃vs H',Inv X dm U H' s'/\ZV vs us/\Q vs H'
def SP(X:Cx)(dm:List (Addr×Obj))(D:jN)(f:Flow)(s':Shared):Prop:=
 match f with
 |.next=>∃σ' H',Inv X dm σ' H' s'/\D.nx σ' H'
 |.brk=>∃σ' H',Inv X dm σ' H' s'/\D.bk σ' H'
 |.cont=>∃σ' H',Inv X dm σ' H' s'/\D.ct σ' H'
 |.ret u=>∃v σ' H',Inv X dm σ' H' s'/\Z6 v u/\D.rt v H'
def PE(X:Cx)(e:Expr)(t:TE):Prop:=
 ∀(dm:List (Addr×Obj)) (s:Shared) (U:St) (H:Hp) (Q:VK),Inv X dm U H s->t U H Q->wpAny (model X.prog X.w) X.A (eval e X.env) (EP X dm U Q) X.xe s
def PT(X:Cx)(e:Expr)(t:TT):Prop:=
 ∀(dm:List (Addr×Obj)) (s:Shared) (U:St) (H:Hp) (Q:Bool->Hp->Prop),Inv X dm U H s->t U H Q->wpAny (model X.prog X.w) X.A (isTrue e X.env (eval e X.env)) (TP X dm U Q) X.xe s
def PW(X:Cx)(e:Expr)(t:TT):Prop:=
 ∀(oN:Sem Value) (dm:List (Addr×Obj)) (s:Shared) (U:St) (H:Hp) (Q:Bool->Hp->Prop),Inv X dm U H s->t U H Q->wpAny (model X.prog X.w) X.A (isTrue e X.env oN) (TP X dm U Q) X.xe s
def PW.pt{X:Cx}{t:TT}(h:PW X e t):PT X e t:=h _
def PA(X:Cx)(es:List Expr)(t:TA):Prop:=
 ∀(on:Pos) (dm:List (Addr×Obj)) (s:Shared) (U:St) (H:Hp) (Q:List V->Hp->Prop),Inv X dm U H s->t U H Q->wpAny (model X.prog X.w) X.A (spliced (backTo on (starEach es X.env))) (AP X dm U Q) X.xe s
def PS(X:Cx)(st:Stmt)(t:TS):Prop:=
 ∀(dm:List (Addr×Obj)) (s:Shared) (U:St) (H:Hp) (D:jN),Inv X dm U H s->t D U H->wpAny (model X.prog X.w) X.A (exec st X.env) (SP X dm D) X.xe s
def PSs(X:Cx)(st:List Stmt)(t:TS):Prop:=
 ∀(dm:List (Addr×Obj)) (s:Shared) (U:St) (H:Hp) (D:jN),Inv X dm U H s->t D U H->wpAny (model X.prog X.w) X.A (execs st X.env) (SP X dm D) X.xe s
def thn{t:Sem α}{Q:α->Shared->Prop}(h:wpAny M A t Q E s)(hQ:∀a s,Q a s->Q' a s):wpAny M A t Q' E s:=lc h hQ fun _ _ x=>x
end L2
variable{te tl:L2.TE}{U τ σ0:L2.St}{X:L2.Cx}{tt:L2.TT}{tb:L2.TS}{ta:L2.TA}
namespace L2
open PySem PySem.Spec PyProof.Rows
section
variable{X:Cx}
inductive Zh1(i:Nat)(U:St)(H:Hp)(Q:VK):Prop
 |mk (v:V) (h:U[i]?=some (some v)) (k:Q v H):Zh1 i U H Q
def xM(i:Nat):TE:=fun U H Q=>Zh1 i U H Q
def tC(v:V):TE:=fun _ H Q=>Q v H
theorem Zg9{x:Str}(hN:X.N[i]?=some x)(hv:Vis X.env.scope x)(hd:(x==("__debug__" : Str))=false:=by left)(tV:(x==("__classdict__" : Str))=false:=by left):PE X (.Name x on) (xM i):=by
 intro dm s U H Q I h;obtain⟨v,e,h⟩:=h;obtain⟨m,hn,hl⟩:=I.loc;obtain⟨u,r,l⟩:=hl i x v hN e hv;have oy:EP X dm U Q u s:=⟨v,H,I,r,h⟩;rcases l with⟨hk,hm⟩|⟨hk,c,hc,sq⟩
 ·exact wpAny_Name (wpAny_loadName_local I.ok.kind hk hn hm oy) hd
 ·rcases hk with hk|hk
  ·exact wpAny_Name (wpAny_loadName_cell I.ok.kind hk hc sq oy) hd
  ·exact wpAny_Name (wpAny_loadName_free I.ok.kind hk hc sq oy tV) hd
theorem Ze{i j on}:PE X (.Constant (.int i) j on) (tC (.int i)):=fun _ _ _ H _ I h=>wpAny_Constant_int ⟨.int i,H,I.tok _,⟨_,rfl⟩,h⟩
theorem VM{b j on}:PE X (.Constant (.bool b) j on) (tC (.bl b)):=fun _ _ _ H _ I h=>Constant_bool ⟨.bl b,H,I,rfl,h⟩
theorem ZdB{j on}:PE X (.Constant .none j on) (tC .non):=fun _ _ _ H _ I h=>Constant_none ⟨.non,H,I,rfl,h⟩
theorem Zl{x j on}:PE X (.Constant (.str x) j on) (tC (.str x)):=fun _ _ _ H _ I h=>Calls.Constant_str ⟨.str x,H,I.tok _,⟨_,rfl⟩,h⟩
def Gl(X:Cx)(x:Str):Prop:=X.env.kindOf x=some .globalImplicit
theorem xO{x:Str}(I:Inv X dm U H s)(hg:Gl X x)(hm:X.mg x=some u)(h:Q u s)
  (hd:(x==("__debug__" : Str))=false:=by left):wpAny (model X.prog X.w) X.A (eval (.Name x on) X.env) Q E s:=
 Calls.Name_function_global I.ok.kind hg (Calls.loadGlobal_global (by rw[I.ok.glob];exact I.mod.glob.keeps I.bk) hm h) hd
theorem UN{x:Str}(I:Inv X dm U H s)(hg:Gl X x)(hm:X.mg x=none)(hv:bootBuiltins x=some u)(h:Q u s)
  (hn:x ≠ "__name__" := by left) (hd:(x==("__debug__" : Str))=false:=by left):wpAny (model X.prog X.w) X.A (eval (.Name x on) X.env) Q E s:=by
 obtain⟨mb,h1,h2⟩:=I.mod.blt;exact Calls.Name_function_global I.ok.kind hg (Calls.loadGlobal_builtin (by rw[I.ok.glob];exact I.mod.glob.keeps I.bk) hm (by rw[I.ok.blt];exact h1.keeps I.bk) ((h2 x hn).trans hv) h) hd
theorem Zfz{x:Str}(hg:Gl X x)(hm:X.mg x=some u)(r:Z6 v u)(hd:(x==("__debug__" : Str))=false:=by left):PE X (.Name x on) (tC v):=
 fun _ _ _ H _ I h=>xO I hg hm ⟨v,H,I,r,h⟩ hd
theorem WY{x:Str}(hg:Gl X x)(hm:X.mg x=none)(hv:bootBuiltins x=some u)(r:Z6 v u)(hn:x ≠ "__name__" := by left)(hd:(x==("__debug__" : Str))=false:=by left):PE X (.Name x on) (tC v):=
 fun _ _ _ H _ I h=>UN I hg hm hv ⟨v,H,I,r,h⟩ hn hd
variable{a b:Expr}{ta tb:TE}{on:Pos}
def PC(X:Cx)(op:CmpOp)(a b:Expr)(t:TE):Prop:=
 ∀(dm:List (Addr×Obj)) (s:Shared) (U:St) (H:Hp) (Q:VK),Inv X dm U H s->t U H Q ->
  wpAny (model X.prog X.w) X.A (eval a X.env) (fun v s₁=>wpAny (model X.prog X.w) X.A (eval b X.env) (fun u s₂=>wpAny (model X.prog X.w) X.A (compareOp op v u) (EP X dm U Q) X.xe s₂) X.xe s₁) X.xe s
theorem Zc6(b:Expr)(h:op≠.In)(h2:op≠.NotIn):behindInMarks op b=false:=by
 have e1:(op==CmpOp.In)=false:=by cases op<;>first|rfl|exact ot rfl h
 have e2:(op==CmpOp.NotIn)=false:=by cases op<;>first|rfl|exact ot rfl h2
 cases b<;>simp[behindInMarks,e1,e2]
inductive Zdd(x:V)(H:Hp)(Q:Bool->Hp->Prop):Prop
 |mk (c:Bool) (h:x=.bl c) (k:Q c H):Zdd x H Q
def tB(t:TE):TT:=fun U H Q=>t U H fun x H1=>Zdd x H1 Q
theorem Zgs{t:TE}(h:PC X op a b t)(h1:behindInMarks op b=false:=by first|exact Zc6 _ (by left) (by left)|rfl):PT X (.Compare a [op] [b] on) (tB t):=by
 intro dm s U H Q I hw;refine wpAny_isTrue_Compare1 (thn (h dm s U H _ I hw) fun v s1 h1=>thn h1 fun u s2 h2=>thn h2 fun c s3 ⟨x,H1,I1,r1,q1⟩=>?_) h1;obtain⟨d,rfl,q⟩:=q1;cases r1;exact ip ⟨H1,I1,q⟩
theorem WC{t:TE}(h:PE X e t)(he:∀oN,isTrue e X.env oN=(do let v <- oN;standAt e.pos;holding [v] (truthy v)):=by intro _;rfl):PT X e (tB t):=by
 intro dm s U H Q I hw;refine isTrue_plain (thn (h dm s U H _ I hw) fun v s1 ⟨x,H1,I1,r1,q1⟩=>?_) (he _);obtain⟨d,rfl,q⟩:=q1;cases r1;exact ip ⟨H1,I1,q⟩
variable{tA Cw:TT}{XO:List Expr}
def Zh8(t u:TT):TT:=fun U H Q=>t U H fun c H1=>if c=true then u U H1 Q else Q false H1
def tOr(t u:TT):TT:=fun U H Q=>t U H fun c H1=>if c=true then Q true H1 else u U H1 Q
def tNot(t:TT):TT:=fun U H Q=>t U H fun c H1=>Q (!c) H1
theorem UY(ha:PT X a tA):PW X (.BoolOp .And [a] on) tA:=by
 intro wh dm s U H Q I h;refine isTrue_and (thn (ha dm s U H Q I h) fun c s1 e=>?_);cases c with
 |true=>exact isTrue_and_nil e
 |false=>exact e
theorem X8(ha:PT X a tA):PW X (.BoolOp .Or [a] on) tA:=by
 intro wh dm s U H Q I h;refine isTrue_or (thn (ha dm s U H Q I h) fun c s1 e=>?_);cases c with
 |false=>exact isTrue_or_nil e
 |true=>exact e
theorem zC(ha:PT X a tA)(hb:PW X (.BoolOp .And (b::XO) on) Cw):PW X (.BoolOp .And (a::b::XO) on) (Zh8 tA Cw):=by
 intro wh dm s U H Q I h;refine isTrue_and (thn (ha dm s U H _ I h) fun c s1 ⟨H1,I1,q1⟩=>?_);cases c with
 |true=>exact hb wh dm s1 U H1 Q I1 q1
 |false=>exact⟨H1,I1,q1⟩
theorem Vk(ha:PT X a tA)(hb:PW X (.BoolOp .Or (b::XO) on) Cw):PW X (.BoolOp .Or (a::b::XO) on) (tOr tA Cw):=by
 intro wh dm s U H Q I h;refine isTrue_or (thn (ha dm s U H _ I h) fun c s1 ⟨H1,I1,q1⟩=>?_);cases c with
 |true=>exact⟨H1,I1,q1⟩
 |false=>exact hb wh dm s1 U H1 Q I1 q1
theorem Xy(ha:PT X a tA):PT X (.UnaryOp .Not a on) (tNot tA):=by
 intro dm s U H Q I h;exact isTrue_not (ha dm s U H (fun c H1=>Q (!c) H1) I h)
def ZfM(ta tb:TE):TE:=fun U H Q=>ta U H fun x H1=>∃c,x=.bl c/\if c=true then tb U H1 Q else Q (.bl false) H1
def tOrV(ta tb:TE):TE:=fun U H Q=>ta U H fun x H1=>∃c,x=.bl c/\if c=true then Q (.bl true) H1 else tb U H1 Q
def Zif(ta:TE):TE:=fun U H Q=>ta U H fun x H1=>∃c,x=.bl c/\Q (.bl (!c)) H1
theorem Wb{op}{t:TE}(h:PE X a t):PE X (.BoolOp op [a] on) t:=fun dm s U H Q I hw=>BoolOp_one (h dm s U H Q I hw)
theorem Wr(ha:PE X a ta)(hb:PE X (.BoolOp .And (b::XO) on) tb):PE X (.BoolOp .And (a::b::XO) on) (ZfM ta tb):=by
 intro dm s U H Q I h;refine BoolOp_and (thn (ha dm s U H _ I h) fun v s1 ⟨x,H1,I1,r1,q1⟩=>?_);obtain⟨c,rfl,q1⟩:=q1;cases r1;refine ip ?_;cases c with
 |true=>exact hb dm s1 U H1 Q I1 q1
 |false=>exact⟨.bl false,H1,I1,rfl,q1⟩
theorem ZdK(ha:PE X a ta)(hb:PE X (.BoolOp .Or (b::XO) on) tb):PE X (.BoolOp .Or (a::b::XO) on) (tOrV ta tb):=by
 intro dm s U H Q I h;refine BoolOp_or (thn (ha dm s U H _ I h) fun v s1 ⟨x,H1,I1,r1,q1⟩=>?_);obtain⟨c,rfl,q1⟩:=q1;cases r1;refine ip ?_;cases c with
 |false=>exact hb dm s1 U H1 Q I1 q1
 |true=>exact⟨.bl true,H1,I1,rfl,q1⟩
theorem Zdt(ha:PE X a ta):PE X (.UnaryOp .Not a on) (Zif ta):=by
 intro dm s U H Q I h;refine UnaryOp_ (thn (ha dm s U H _ I h) fun v s1 ⟨x,H1,I1,r1,q1⟩=>?_);obtain⟨c,rfl,q1⟩:=q1;cases r1;exact not_of (ip ⟨.bl (!c),H1,I1,rfl,q1⟩)
def tIf(t:TT)(ta tb:TE):TE:=fun U H Q=>t U H fun c H1=>if c=true then ta U H1 Q else tb U H1 Q
theorem KM{c:Expr}(hc:PT X c tA)(ha:PE X a ta)(hb:PE X b tb):PE X (.IfExp c a b on) (tIf tA ta tb):=by
 intro dm s U H Q I h;refine wpAny_IfExp (thn (hc dm s U H _ I h) fun d s1 ⟨H1,I1,q1⟩=>?_);cases d with
 |true=>exact ha dm s1 U H1 Q I1 q1
 |false=>exact hb dm s1 U H1 Q I1 q1
end
def SqL(K:W.Frag)(H:Hp)(a:Addr)(xs:List V):Prop:=
 Rd H a (.lst xs) \/
  ∃(o:Obj) (its:Array Value) (n:Nat),K.lookup a=some o/\o.cls=.type "list" /\ o.dict=none/\o.data=.seq its n/\its.size<=sizeLine/\ZV xs its.toList
def SqT(K:W.Frag)(H:Hp)(a:Addr)(xs:List V):Prop:=
 Rd H a (.tup xs) \/
  ∃(o:Obj) (its:Array Value) (n:Nat),K.lookup a=some o/\o.cls=.type "tuple" /\ o.data=.seq its n/\its.size<=sizeLine/\ZV xs its.toList
def absV:Value->Option V
 |.none=>some .non
 |.bool b=>some (.bl b)
 |.int i _=>some (.int i)
 |.str x _=>some (.str x)
 |.bytes b _=>some (.byt b)
 |.float b _=>some (.flt b)
 |.ref a=>some (.ref a)
 |.type n=>some (.ty n)
 |_=>none
def Z6.abs{x:V}(r:Z6 x u):absV u=some x:=by
 cases x with
 |non=>cases r;rfl
 |bl _=>cases r;rfl
 |int _=>obtain⟨t,rfl⟩:=r;rfl
 |str _=>obtain⟨t,rfl⟩:=r;rfl
 |byt _=>obtain⟨t,rfl⟩:=r;rfl
 |flt _=>obtain⟨t,rfl⟩:=r;rfl
 |ref _=>cases r;rfl
 |ty _=>cases r;rfl
def Z6.inj{x y:V}{u:Value}(r:Z6 x u)(q:Z6 y u):x=y:=fW (r.abs.symm.trans q.abs)
def ZV.inj:∀{xs ys:List V}{us:List Value},ZV xs us->ZV ys us->xs=ys
 |_,_,_,.nil,.nil=>rfl
 |_,_,_,.cons r t,.cons r' t'=>by rw[r.inj r',ZV.inj t t']
section
variable{a:Addr}{ys:List V}
theorem SqL.of(h:H a=some (.lst xs)):SqL K H a xs:=.inl (.inl h)
def nS:=@SqL.of
theorem SqT.of(h:H a=some (.tup xs)):SqT K H a xs:=.inl (.inl h)
def nU:=@SqT.of
theorem Inv.list(I:Inv X dm U H s)(h:SqL X.K H a xs):∃its:List Value,ZV xs its/\PlainL s.heap a its.toArray/\xs.length<=sizeLine:=by
 rcases h with h|⟨o,its,n,hk,hc,hd,hs,hz,r⟩
 ·obtain⟨z,its,n,r,e⟩:=h.ok I.hok;exact⟨its,r,⟨_,n,e,rfl,rfl,rfl⟩,z⟩
 ·refine⟨its.toList,r,⟨o,n,I.kIn a o hk,hc,hd,by simpa using hs⟩,?_⟩;have e:=r.length;simp only[lg] at e;lia
theorem Inv.tuple(I:Inv X dm U H s)(h:SqT X.K H a xs):∃its:List Value,ZV xs its/\IsTup s.heap a its.toArray/\xs.length<=sizeLine:=by
 rcases h with h|⟨o,its,n,hk,hc,hs,hz,r⟩
 ·obtain⟨z,its,r,p⟩:=h.ok I.hok;exact⟨its,r,p,z⟩
 ·refine⟨its.toList,r,⟨o,I.kIn a o hk,hc,n,by simpa using hs⟩,?_⟩;have e:=r.length;simp only[lg] at e;lia
theorem Inv.list_inj(I:Inv X dm U H s)(h:SqL X.K H a xs)(h':SqL X.K H a ys):xs=ys:=by
 obtain⟨its,r,⟨o,n,e,_,_,d⟩,_⟩:=I.list h;obtain⟨its',r',⟨o',n',e',_,_,d'⟩,_⟩:=I.list h';rw[e] at e';cases e';rw[d] at d';injection d' with d1 _;have:its=its':=by simpa using fS Array.toList d1
 subst this;exact r.inj r'
theorem Inv.tuple_inj(I:Inv X dm U H s)(h:SqT X.K H a xs)(h':SqT X.K H a ys):xs=ys:=by
 obtain⟨its,r,⟨o,e,_,n,d⟩,_⟩:=I.tuple h;obtain⟨its',r',⟨o',e',_,n',d'⟩,_⟩:=I.tuple h';rw[e] at e';cases e';rw[d] at d';injection d' with d1 _;have:its=its':=by simpa using fS Array.toList d1
 subst this;exact r.inj r'
end
abbrev Cx.wish(X:Cx)(E:Value->Shared->Prop):Cx:={ X with xe:=E }
abbrev Cx.nox(X:Cx):Cx:=X.wish fun _ _=>False
def Cx.Ok.wish{X:Cx}(ok:X.Ok)(E:Value->Shared->Prop):(X.wish E).Ok:=
 ⟨ok.mod,ok.kind,ok.glob,ok.blt,ok.above,ok.inj,ok.has,ok.cab,ok.hd,ok.frames,ok.stk,ok.exf,ok.bs,ok.bsz,ok.noex,ok.exfs,ok.funs,ok.frf⟩
def Cx.Ok.unwish(ok:(X.wish E).Ok):X.Ok:=
 ⟨ok.mod,ok.kind,ok.glob,ok.blt,ok.above,ok.inj,ok.has,ok.cab,ok.hd,ok.frames,ok.stk,ok.exf,ok.bs,ok.bsz,ok.noex,ok.exfs,ok.funs,ok.frf⟩
def Inv.wish(I:Inv X dm U H s)(E:Value->Shared->Prop):Inv (X.wish E) dm U H s:=⟨I.ok.wish E,I.os,I.bare,I.base,I.loc,I.cell,I.free,I.freeC,I.pin,I.hok,I.len⟩
def Inv.unwish(I:Inv (X.wish E) dm U H s):Inv X dm U H s:=⟨I.ok.unwish,I.os,I.bare,I.base,I.loc,I.cell,I.free,I.freeC,I.pin,I.hok,I.len⟩
def SP.unwish{D:jN}{f:Flow}{s':Shared}(h:SP (X.wish E) dm D f s'):SP X dm D f s':=by
 cases f with
 |next=>obtain⟨σ',H',I,q⟩:=h;exact⟨σ',H',I.unwish,q⟩
 |brk=>obtain⟨σ',H',I,q⟩:=h;exact⟨σ',H',I.unwish,q⟩
 |cont=>obtain⟨σ',H',I,q⟩:=h;exact⟨σ',H',I.unwish,q⟩
 |ret u=>obtain⟨v,σ',H',I,r,q⟩:=h;exact⟨v,σ',H',I.unwish,r,q⟩
def PSs.nox{st:List Stmt}{t:TS}(h:PSs X.nox st t):PSs X st t:=fun dm s U H D I hw=>
 lc (h dm s U H D (I.wish _) hw) (fun _ _ q=>q.unwish) fun _ _ z=>False.elim z
section
variable{X:Cx}{st:Stmt}{XO:List Stmt}{t u:TS}{e:Expr}{te:TE}{on:Pos}
def ZfP:TS:=fun D U H=>D.nx U H
def tSeq(t u:TS):TS:=fun D U H=>t { D with nx:=u D } U H
theorem Zw:PSs X [] ZfP:=fun _ _ U H _ I h=>wpAny_execs_nil ⟨U,H,I,h⟩
theorem Zc(h1:PS X st t)(h2:PSs X XO u):PSs X (st::XO) (tSeq t u):=by
 intro dm s U H D I h;refine wpAny_execs_cons (thn (h1 dm s U H { D with nx:=u D } I h) fun f s1 q=>?_);cases f with
 |next=>
  obtain⟨σ',H',I',q⟩:=q;exact h2 dm s1 σ' H' D I' q
 |ret v=>exact q
 |brk=>exact q
 |cont=>exact q
theorem Zf(h1:PS X st t):PSs X [st] t:=by
 intro dm s U H D I h;refine wpAny_execs_cons (thn (h1 dm s U H D I h) fun f s1 q=>?_);cases f with
 |next=>exact wpAny_execs_nil q
 |ret v=>exact q
 |brk=>exact q
 |cont=>exact q
theorem Inv.quiet(I:Inv X dm U H s):interactive X.env=false:=by simp[interactive,I.ok.kind]
def ZfU(te:TE):TS:=fun D U H=>te U H fun _ H1=>D.nx U H1
theorem Yj(he:PE X e te)(hs:swapsWith e none on.line X.env=pure false:=by rfl):PS X (.Expr e on) (ZfU te):=by
 intro dm s U H D I h;exact wpAny_Expr_any (thn (he dm s U H _ I h) fun v s1 ⟨x,H1,I1,r1,q1⟩=>⟨U,H1,I1,q1⟩) I.quiet hs
def ZhT(te:TE):TS:=fun D U H=>te U H D.rt
theorem Zm(he:PE X e te):PS X (.Return (some e) on) (ZhT te):=by
 intro dm s U H D I h;exact wpAny_Return_some (thn (he dm s U H _ I h) fun v s1 ⟨x,H1,I1,r1,q1⟩=>⟨x,U,H1,I1,r1,q1⟩)
def Zh5(c:TT)(t u:TS):TS:=fun D U H=>c U H fun b H1=>if b=true then t D U H1 else u D U H1
theorem ZJ{c:Expr}{a b:List Stmt}{tc:TT}(hc:PT X c tc)(ha:PSs X a t)(hb:PSs X b u):PS X (.If c a b on) (Zh5 tc t u):=by
 intro dm s U H D I h;refine wpAny_If (thn (hc dm s U H _ I h) fun d s1 ⟨H1,I1,q1⟩=>?_);cases d with
 |true=>exact ha dm s1 U H1 D I1 q1
 |false=>exact hb dm s1 U H1 D I1 q1
def Zhc:TS:=fun _ _ _=>False
theorem Kl:PS X st Zhc:=fun _ _ _ _ _ _ h=>h.elim
end
abbrev TG:=V->St->Hp->(St->Hp->Prop)->Prop
abbrev TGs:=List V->St->Hp->(St->Hp->Prop)->Prop
def PG(X:Cx)(wL:Expr)(t:TG):Prop:=
 ∀(dm:List (Addr×Obj)) (s:Shared) (U:St) (H:Hp) (v:V) (u:Value) (Q:St->Hp->Prop),Inv X dm U H s->Z6 v u->t v U H Q ->
  wpAny (model X.prog X.w) X.A (assign wL X.env u) (fun _ s'=>∃σ' H',Inv X dm σ' H' s'/\Q σ' H') X.xe s
def PGs(X:Cx)(ts:List Expr)(t:TGs):Prop:=
 ∀(dm:List (Addr×Obj)) (s:Shared) (U:St) (H:Hp) (vs:List V) (us:List Value) (Q:St->Hp->Prop),Inv X dm U H s->ZV vs us->t vs U H Q ->
  wpAny (model X.prog X.w) X.A (assignInOrder ((assignEach ts X.env).map (·.2)) us) (fun _ s'=>∃σ' H',Inv X dm σ' H' s'/\Q σ' H') X.xe s
abbrev TIp:=V->V->Hp->VK->Prop
def PIp(X:Cx)(op:Operator)(t:TIp):Prop:=
 ∀(dm:List (Addr×Obj)) (s:Shared) (U:St) (H:Hp) (x y:V) (v u:Value) (Q:VK),Inv X dm U H s->Z6 x v->Z6 y u->t x y H Q ->
  wpAny (model X.prog X.w) X.A (inplaceOp op v u) (EP X dm U Q) X.xe s
section
variable{X:Cx}{on:Pos}
def V4(i:Nat):TG:=fun v U H Q=>Q (U.set i (some v)) H
theorem Zz{x:Str}(hN:X.N.Nodup)(hi:X.N[i]?=some x)(hx:Loc X.env.scope x)(hf:X.fn x=true\/X.env.scope.names.lookup x=some .local:=by first|exact .inl rfl|exact .inr rfl|assumption):PG X (.Name x on) (V4 i):=by
 intro dm s U H v u Q I r h;exact wpAny_assign_Name (vp I hN hi hx r (fun s' I'=>⟨_,H,I',h⟩) hf)
def gNil:TGs:=fun vs U H Q=>vs=[]/\Q U H
def ZhU(t:TG)(u:TGs):TGs:=fun vs U H Q=>∃v r,vs=v::r/\t v U H fun σ' H'=>u r σ' H' Q
theorem UF:PGs X [] gNil:=by
 intro dm s U H vs us Q I r h;obtain⟨e,h⟩:=h;subst e;cases r;exact assignInOrder_nil ⟨U,H,I,h⟩
theorem YV{t:TG}{u:TGs}(h1:PG X e t)(h2:PGs X es u)
  (hs:(assignEach (e::es) X.env).map (·.2)=assign e X.env::(assignEach es X.env).map (·.2):=by rfl):PGs X (e::es) (ZhU t u):=by
 intro dm s U H vs us Q I r h;obtain⟨v,vr,e1,h⟩:=h;subst e1;cases r with
 |cons r rr=>
  rw[hs];refine assignInOrder_cons (thn (h1 dm s U H _ _ _ I r h) fun _ s1 ⟨σ1,H1,I1,q1⟩=>?_);exact h2 dm s1 σ1 H1 _ _ Q I1 rr q1
def Zhv(K:W.Frag)(n:Nat)(t:TGs):TG:=fun v U H Q=>∃a xs,v=.ref a/\SqT K H a xs/\xs.length=n/\t xs U H Q
theorem Zgj{k:Nat}{t:TGs}(hc:X.calm=true)(h:PGs X es t)
  (hn:(assignEach es X.env).length=n:=by rfl) (oz:(assignEach es X.env).findIdx? (·.1)=none:=by rfl):PG X (.Tuple es k on) (Zhv X.K n t):=by
 intro dm s U H v u Q I r hw;obtain⟨a,xs,e1,hq,hl,hw⟩:=hw;subst e1;cases r;obtain⟨its,rv,ht,hz⟩:=I.tuple hq;refine assign_Tuple_tuple (I.ok.hd hc) ht (by simp[hn,<- hl,rv.length]) oz fun h' hx=>?_;have I1:Inv X dm U H { s with heap:=h' }:=I.kept (t':=s.toks) fun b o e=>hx b o (gb (fY e)) e;exact h dm _ U H xs _ Q I1 (by simpa using rv) hw
def Zha(te:TE)(g:TG):TS:=fun D U H=>te U H fun x H1=>g x U H1 D.nx
theorem Zd9{g:TG}(he:PE X e te)(hg:PG X tg g)(hs:swapsWithSole [tg] e on.line X.env=pure false:=by rfl)(hw:swappedStores [tg] e X.env=pure none:=by rfl)
  (h1:(assignEach [tg] X.env).map (·.2)=[assign tg X.env]:=by rfl):PS X (.Assign [tg] e on) (Zha te g):=by
 intro dm s U H D I h;refine wpAny_Assign_stores (thn (he dm s U H _ I h) fun v s1 ⟨x,H1,I1,r1,q1⟩=>?_) hs hw;rw[h1];exact thn (hg dm s1 U H1 x v _ I1 r1 q1) fun _ s2 q=>q
theorem Zo{i:Nat}{x:Str}{e:Expr}{te:TE}{oQ:Pos}(hN:X.N.Nodup)(hi:X.N[i]?=some x)(hx:Loc X.env.scope x)(he:PE X e te)(hs:swapsWith e (some (.Name x oQ)) on.line X.env=pure false:=by rfl)(hf:X.fn x=true\/X.env.scope.names.lookup x=some .local:=by first|exact .inl rfl|exact .inr rfl|assumption) :
  PS X (.Assign [.Name x oQ] e on) (Zha te (V4 i)):=by
 intro dm s U H D I h;refine wpAny_Assign_Name (thn (he dm s U H _ I h) fun v s1 ⟨y,H1,I1,r1,q1⟩=>?_) hs;exact vp I1 hN hi hx r1 (fun s2 I2=>⟨_,H1,I2,q1⟩) hf
def tAug(i:Nat)(te:TE)(ti:TIp):TS:=fun D U H=>∃x,U[i]?=some (some x)/\te U H fun y H1=>ti x y H1 fun z H2=>D.nx (U.set i (some z)) H2
theorem ZgP{x:Str}{op:Operator}{ti:TIp}(hN:X.N.Nodup)(hi:X.N[i]?=some x)(hx:Loc X.env.scope x)(he:PE X e te)(ho:PIp X op ti)(hf:X.fn x=true\/X.env.scope.names.lookup x=some .local:=by first|exact .inl rfl|exact .inr rfl|assumption) :
  PS X (.AugAssign (.Name x oQ) op e on) (tAug i te ti):=by
 intro dm s U H D I h;obtain⟨v,e1,h⟩:=h;obtain⟨m,hn,hl⟩:=I.loc;have PM:Vis X.env.scope x:=by rcases hx with k|k;exact .inl k;exact .inr (.inl k)
 obtain⟨u,r,l⟩:=hl i x v hi e1 PM;refine wpAny_AugAssign_Name ?_;have go:wpAny (model X.prog X.w) X.A (eval e X.env) (fun w s₂=>wpAny (model X.prog X.w) X.A (inplaceOp op u w) (fun r s₃=>wpAny (model X.prog X.w) X.A (storeName X.env x r) (fun _=>SP X dm D .next) X.xe s₃) X.xe s₂) X.xe s:=by
  refine thn (he dm s U H _ I h) fun w s1 ⟨y,H1,I1,r1,q1⟩=>?_;refine thn (ho dm s1 U H1 v y u w _ I1 r r1 q1) fun z s2 ⟨zv,H2,I2,r2,q2⟩=>?_;exact vp I2 hN hi hx r2 (fun s3 I3=>⟨_,H2,I3,q2⟩) hf
 rcases l with⟨hk,hm⟩|⟨hk,c,hc,sq⟩
 ·exact wpAny_loadName_local I.ok.kind hk hn hm go
 ·rcases hk with hk|hk
  ·exact wpAny_loadName_cell I.ok.kind hk hc sq go
  ·rcases hx with k|k
   ·have:X.env.scope.names.lookup x=some .free:=hk;rw[k] at this;cases this
   ·have:X.env.scope.names.lookup x=some .free:=hk;rw[k] at this;cases this
def ipI(f:Int->Int->Int):TIp:=fun x y H Q=>∃i j,x=.int i/\y=.int j/\Q (.int (f i j)) H
theorem Zgh:PIp X .Sub (ipI fun i j=>i-j):=by
 intro dm s U H x y v u Q I r1 r2 h;obtain⟨i,j,e1,e2,q⟩:=h;subst e1;subst e2;obtain⟨t,rfl⟩:=r1;obtain⟨t',rfl⟩:=r2;exact isub_int ⟨.int _,H,I.tok _,⟨_,rfl⟩,q⟩
end
def Zgy(c:TT)(tb:TS):TS:=fun D U H=>∃W:Nat->St->Hp->Prop,(∃m,W m U H)/\∀m U H,W m U H ->
 c U H fun b H1=>if b=true then ∃N:St->Hp->Prop,(∀σ' H',N σ' H'->∃m',m'<m/\W m' σ' H')/\tb { D with nx:=N,ct:=N,bk:=D.nx } U H1 else D.nx U H1
def qj{c:Expr}{tc:TT}(hp:PassesOwn (model X.prog X.w) X.A X.env X.xe)(hc:PT X c tc)(hb:PSs X oK tb):PS X (.While c oK [] on) (Zgy tc tb):=by
 intro dm s U H D I h;obtain⟨W,⟨m0,w0⟩,tL⟩:=h;refine wpAny_While (codeAny_whileLoop (fun n s'=>∃σ' H',Inv X dm σ' H' s'/\W n σ' H') ?_ m0 ⟨U,H,I,w0⟩);rintro n s1 ⟨σ1,H1,I1,w1⟩;refine lh hp (thn (hc dm s1 σ1 H1 _ I1 (tL n σ1 H1 w1)) fun b s2 ⟨H2,I2,q2⟩=>?_);cases b with
 |true=>
  obtain⟨N,hN,q2⟩:=q2;rw[oq rfl];refine lh hp (thn (hb dm s2 σ1 H2 _ I2 q2) fun f s3 q3=>?_);cases f with
  |next=>
   obtain⟨σ3,H3,I3,n3⟩:=q3;obtain⟨m',hm,w3⟩:=hN σ3 H3 n3;exact⟨m',hm,σ3,H3,I3,w3⟩
  |cont=>
   obtain⟨σ3,H3,I3,n3⟩:=q3;obtain⟨m',hm,w3⟩:=hN σ3 H3 n3;exact⟨m',hm,σ3,H3,I3,w3⟩
  |brk=>exact q3
  |ret v=>exact q3
 |false=>
  rw[oo gw];exact wpAny_execs_nil ⟨σ1,H2,I2,q2⟩
structure It where
 go:Nat->Hp->Prop
 yld:Nat->Hp->V->Hp->Prop
 stop:Nat->Hp->Prop
def za(X:Cx)(dm:List (Addr×Obj))(H:Hp)(b:Addr):Prop:=
 H b=none/\b≠X.env.locals/\b∉X.fs/\(b∈X.ex\/X.s₀.heap.objs.size<=b)/\(∀x c,X.env.cells.lookup x=some c->c≠b)/\∀p∈X.pn++dm,p.1≠b
def Inv.fpOk{b:Addr}(I:Inv X dm U H s)(hb:s.heap.objs.size<=b)(hn:H' b=none):za X dm H' b:=by
 refine⟨hn,gY (gJ I.lt hb),I.nofs hb,.inr (gg I.sz hb),fun x c e z=>?_,fun p hp z=>?_⟩
 ·obtain⟨v,q⟩:=I.cell x c e;exact ot (gJ q.lt (by rw[z];exact hb)) (iZ _)
 ·exact ot (gJ (fY (I.pin p hp).1) (by rw[z];exact hb)) (iZ _)
structure Qx(P:Program)(w:World)(K:W.Frag)(tg:Expr)(J:It)(fp:List Addr)(it:Addr)(tn:Nat->Heap->Prop):Prop where
 mem:it∈fp
 obj:∀i h,tn i h->∀b∈fp,∃o,h.get? b=some o/\∀v,o.data≠.cell v
 keep:∀i h h',tn i h->(∀b∈fp,∀o,h.get? b=some o->h'.get? b=some o)->tn i h'
 item:∀(X:Cx),X.prog=P->X.w=w->X.K=K->X.calm=true->∀(i:Nat) (dm:List (Addr×Obj)) (s:Shared) (U:St) (H:Hp) (E:Value->Shared->Prop),Inv X dm U H s->(∀b∈fp,za X dm H b)->tn i s.heap->J.go i H ->
  wpAny (model P w) X.A (pyNext (.ref it)) (fun r s1=>∃u,r=some u /\ wpAny (model P w) X.A (letOwnedTupleGo tg (.ref it) u) (fun _ s2=>∃x H',Inv X dm U H' s2/\Z6 x u/\J.yld i H x H'/\tn (i+1) s2.heap/\∀b∈fp,H' b=none) E s1) E s
 done:∀(X:Cx),X.prog=P->X.w=w->X.K=K->X.calm=true->∀(i:Nat) (dm:List (Addr×Obj)) (s:Shared) (U:St) (H:Hp) (E:Value->Shared->Prop),Inv X dm U H s->(∀b∈fp,za X dm H b)->tn i s.heap->J.stop i H ->
  wpAny (model P w) X.A (pyNext (.ref it)) (fun r s1=>r=none/\Inv X dm U H s1) E s
 self:∀(A:Around) (i:Nat) (s:Shared) (Q:Value->Shared->Prop) (E:Value->Shared->Prop),tn i s.heap->Q (.ref it) s->wpAny (model P w) A (pyIter (.ref it)) Q E s
abbrev TI:=St->Hp->(It->Hp->Prop)->Prop
def PIE(X:Cx)(dm:List (Addr×Obj))(U:St)(tg:Expr)(R:It->Hp->Prop)(E2:Value)(s2:Shared):Prop:=
 ∃(it:Addr) (fp:List Addr) (tn:Nat->Heap->Prop) (J:It) (H':Hp),E2=.ref it/\Inv X dm U H' s2/\Qx X.prog X.w X.K tg J fp it tn/\tn 0 s2.heap/\(∀b∈fp,za X dm H' b)/\R J H'
def PI(X:Cx)(tg iter:Expr)(wi:TI):Prop:=
 ∀(dm:List (Addr×Obj)) (s:Shared) (U:St) (H:Hp) (R:It->Hp->Prop),Inv X dm U H s->wi U H R ->
  wpAny (model X.prog X.w) X.A (eval iter X.env) (fun v s1=>wpAny (model X.prog X.w) X.A (pyIter v) (PIE X dm U tg R) X.xe s1) X.xe s
def Qh{o:Obj}{n:String}{vs:Array Value}{Q:Unit->Shared->Prop}(ho:s.heap.get? it=some o)(hc:o.cls=.type n)(hd:o.data=.fields vs)
    (hn:["enumerate","zip","dict_itemiterator","dict_reverseitemiterator","odict_iterator","itertools.zip_longest","itertools.pairwise"].contains n=false) (hQ:Q () s):wpAny M A (letOwnedTupleGo tg (.ref it) u) Q E s:=by
  unfold letOwnedTupleGo;cases tg<;>first
    |exact fI hQ
    | (cases u<;>first
        |exact fI hQ
        | (refine fE (wpAny_load ho ?_)
           rw[hc,hd]
           show wpAny M A (if(["enumerate","zip","dict_itemiterator","dict_reverseitemiterator","odict_iterator","itertools.zip_longest","itertools.pairwise"].contains n&&vs[0]?==some (rawInt _))=true then _ else _) Q E s
           rw[oo (by intro h;rw[hn,iM] at h;cases h)];exact fI hQ))
def Itl(K:W.Frag)(a:Addr):It:=
 ⟨fun i H=>∃xs x,SqL K H a xs/\xs[i]?=some x,fun i H x H'=>H'=H/\∀xs,SqL K H a xs->xs[i]?=some x,fun i H=>∃xs,SqL K H a xs/\xs.length<=i⟩
def Itt(K:W.Frag)(a:Addr):It:=
 ⟨fun i H=>∃xs x,SqT K H a xs/\xs[i]?=some x,fun i H x H'=>H'=H/\∀xs,SqT K H a xs->xs[i]?=some x,fun i H=>∃xs,SqT K H a xs/\xs.length<=i⟩
def Itr(lo:Int)(n:Nat):It:=⟨fun i _=>i<n,fun i H x H'=>H'=H/\x=.int (lo+i),fun i _=>n<=i⟩
def Zbp(a it:Addr):Qx P w K tg (Itl K a) [it] it (fun i h=>h.IsListIter it a i) where
 mem:=by simp
 obj:=fun i h st b hb=>by
  have e:b=it:=by simpa using hb
  subst e;obtain⟨o,e,c,d⟩:=st;exact⟨o,e,fun v z=>by rw[d] at z;cases z⟩
 keep:=fun i h h' st k=>st.at fun o e=>k it (by simp) o e
 item:=by
  intro X hP hw hK hc i dm s U H E I hf st hg;subst hP hw hK;obtain⟨xs,x,hq,hx⟩:=hg;obtain⟨its,rv,p,hz⟩:=I.list hq;obtain⟨u,hu,ru⟩:=rv.get hx;obtain⟨f0,f1,f2,f3,f4,f5⟩:=hf it (by simp);refine wpAny_pyNext_list_item st p.isList (x:=u) (by simpa using hu) fun h' rB sb=>?_;have I1:Inv X dm U H { s with heap:=h' }:=I.turned (t':=s.toks) (fun b o hb e=>(sb.2 b hb).trans e) f0 f1 f3 f4 f5;obtain⟨o,e,c,d⟩:=id rB;exact⟨u,rfl,Qh (s:={ s with heap:=h' }) e c d (by left) ⟨x,H,I1,ru,⟨rfl,fun ys hy=>by rw[I.list_inj hy hq];exact hx⟩,rB,fun b hb=>(hf b hb).1⟩⟩
 done:=by
  intro X hP hw hK hc i dm s U H E I hf st hg;subst hP hw hK;obtain⟨xs,hq,hx⟩:=hg;obtain⟨its,rv,p,hz⟩:=I.list hq;obtain⟨f0,f1,f2,f3,f4,f5⟩:=hf it (by simp);have hl:=rv.length;exact wpAny_pyNext_list_end (I.ok.hd hc) st p.isList (by simp;lia) fun h' eb=>⟨rfl,I.turned (t':=s.toks) (fun b o hb e=>eb b o hb e) f0 f1 f3 f4 f5⟩
 self:=fun _ _ _ _ _ st h=>wpAny_pyIter_listiter st h
def Zae(a it:Addr):Qx P w K tg (Itt K a) [it] it (fun i h=>h.IsTupleIter it a i) where
 mem:=by simp
 obj:=fun i h st b hb=>by
  have e:b=it:=by simpa using hb
  subst e;obtain⟨o,e,c,d⟩:=st;exact⟨o,e,fun v z=>by rw[d] at z;cases z⟩
 keep:=fun i h h' st k=>st.at fun o e=>k it (by simp) o e
 item:=by
  intro X hP hw hK hc i dm s U H E I hf st hg;subst hP hw hK;obtain⟨xs,x,hq,hx⟩:=hg;obtain⟨its,rv,p,hz⟩:=I.tuple hq;obtain⟨u,hu,ru⟩:=rv.get hx;obtain⟨f0,f1,f2,f3,f4,f5⟩:=hf it (by simp);refine wpAny_pyNext_tuple_item st (show s.heap.IsTuple a its.toArray from p) (x:=u) (by simpa using hu) fun h' rB sb=>?_;have I1:Inv X dm U H { s with heap:=h' }:=I.turned (t':=s.toks) (fun b o hb e=>(sb.2 b hb).trans e) f0 f1 f3 f4 f5;obtain⟨o,e,c,d⟩:=id rB;exact⟨u,rfl,Qh (s:={ s with heap:=h' }) e c d (by left) ⟨x,H,I1,ru,⟨rfl,fun ys hy=>by rw[I.tuple_inj hy hq];exact hx⟩,rB,fun b hb=>(hf b hb).1⟩⟩
 done:=by
  intro X hP hw hK hc i dm s U H E I hf st hg;subst hP hw hK;obtain⟨xs,hq,hx⟩:=hg;obtain⟨its,rv,p,hz⟩:=I.tuple hq;obtain⟨f0,f1,f2,f3,f4,f5⟩:=hf it (by simp);have hl:=rv.length;exact wpAny_pyNext_tuple_end (I.ok.hd hc) st (show s.heap.IsTuple a its.toArray from p) (by simp;lia) fun h' eb=>⟨rfl,I.turned (t':=s.toks) (fun b o hb e=>eb b o hb e) f0 f1 f3 f4 f5⟩
 self:=fun _ _ _ _ _ st h=>wpAny_pyIter_tupleiter st h
def Zag(it:Addr)(lo:Int)(n:Nat):Qx P w K tg (Itr lo n) [it] it (fun i h=>IsRangeIter h it (lo+(i:Nat)*1) ((n:Int)-(i:Nat)) 1) where
 mem:=by simp
 obj:=fun i h st b hb=>by
  have e:b=it:=by simpa using hb
  subst e;exact⟨_,st,fun v z=>by
   have z':Data.fields _=Data.cell v:=z;cases z'⟩
 keep:=fun i h h' st k=>k it (by simp) _ st
 item:=by
  intro X hP hw hK hc i dm s U H E I hf st hg;subst hP hw hK;obtain⟨f0,f1,f2,f3,f4,f5⟩:=hf it (by simp);have W:=Walks.range (prog:=X.prog) (w:=X.w) (I.ok.hd hc) it lo 1 n;refine W.item i s _ _ hg st fun v h' tk hv rB kk=>?_;obtain⟨t,rfl⟩:=hv;have I1:Inv X dm U H { s with heap:=h',toks:=tk }:=I.turned (fun b o hb e=>kk b o (by simpa using hb) e) f0 f1 f3 f4 f5;refine⟨_,rfl,Qh (s:={ s with heap:=h',toks:=tk }) (n := "range_iterator") rB rfl rfl (by left) ⟨.int (lo+i),H,I1,⟨t,?_⟩,⟨rfl,rfl⟩,rB,fun b hb=>(hf b hb).1⟩⟩;rw[Int.mul_one]
 done:=by
  intro X hP hw hK hc i dm s U H E I hf st hg;subst hP hw hK;obtain⟨f0,f1,f2,f3,f4,f5⟩:=hf it (by simp);exact wpAny_pyNext_range_end (I.ok.hd hc) st (by have:n<=i:=hg;lia) fun h' eb=>⟨rfl,I.turned (t':=s.toks) (fun b o hb e=>eb b o hb e) f0 f1 f3 f4 f5⟩
 self:=fun _ _ _ _ _ st h=>wpAny_pyIter_rangeiter st h
end L2
variable{wi:L2.TI}{J:L2.It}
namespace L2
open PySem PySem.Spec PyProof.Rows
inductive Zhz(K:W.Frag)(x:V)(H:Hp)(R:It->Hp->Prop):Prop
 |mk (a:Addr) (h:x=.ref a) (h2:∃xs,SqL K H a xs) (k:R (Itl K a) H):Zhz K x H R
def ZdR(K:W.Frag)(tl:TE):TI:=fun U H R=>tl U H fun x H1=>Zhz K x H1 R
def ZhM(K:W.Frag)(tl:TE):TI:=fun U H R=>tl U H fun x H1=>∃a,x=.ref a/\(∃xs,SqT K H1 a xs)/\R (Itt K a) H1
def ZeT{l:Expr}(hl:PE X l tl):PI X tg l (ZdR X.K tl):=by
 intro dm s U H R I h;refine thn (hl dm s U H _ I h) fun v s1 ⟨x,H1,I1,r1,q1⟩=>?_;obtain⟨a,e,⟨xs,hq⟩,q⟩:=q1;subst e;cases r1;obtain⟨its,rv,p,hz⟩:=I1.list hq;refine wpAny_pyIter_list p.isList ?_;refine⟨s1.heap.objs.size,[s1.heap.objs.size],_,_,H1,rfl,I1.kept (t':=s1.toks) fun b o e=>fZ _ e,Zbp a _,⟨_,gB _ rfl,rfl,rfl⟩,fun b hb=>?_,q⟩;have e:b=s1.heap.objs.size:=by simpa using hb
 subst e;exact I1.fpOk (fH _) (I1.hok.fresh (fH _))
def ZdQ{l:Expr}(hl:PE X l tl):PI X tg l (ZhM X.K tl):=by
 intro dm s U H R I h;refine thn (hl dm s U H _ I h) fun v s1 ⟨x,H1,I1,r1,q1⟩=>?_;obtain⟨a,e,⟨xs,hq⟩,q⟩:=q1;subst e;cases r1;obtain⟨its,rv,p,hz⟩:=I1.tuple hq;refine wpAny_pyIter_tuple (show s1.heap.IsTuple a its.toArray from p) ?_;refine⟨s1.heap.objs.size,[s1.heap.objs.size],_,_,H1,rfl,I1.kept (t':=s1.toks) fun b o e=>fZ _ e,Zae a _,⟨_,gB _ rfl,rfl,rfl⟩,fun b hb=>?_,q⟩;have e:b=s1.heap.objs.size:=by simpa using hb
 subst e;exact I1.fpOk (fH _) (I1.hok.fresh (fH _))
def ZcU{R:It->Hp->Prop}{lo hi:Int}{t u v:Tok}{tk:Nat}(I:Inv X dm U H s)(h1:-(2 ^ 62)<=lo)(h2:lo<2 ^ 62)(h3:-(2 ^ 62)<=hi)(h4:hi<2 ^ 62)
  (q:R (Itr lo (hi-lo).toNat) H):wpAny (model X.prog X.w) X.A (pyIter (.ref s.heap.objs.size)) (PIE X dm U tg R) E { s with heap:=s.heap.push { cls:=.type "range",data:=.fields #[.int lo t,.int hi u,.int 1 v] },toks:=tk }:=by
 refine wpAny_pyIter_range (IsRange.new ..) (small_one h1 h2 h3 h4) ?_;have I1:Inv X dm U H { s with heap:=s.heap.push { cls:=.type "range",data:=.fields #[.int lo t,.int hi u,.int 1 v] },toks:=tk }:=I.kept fun b o e=>fZ _ e;refine⟨(s.heap.push { cls:=.type "range",data:=.fields #[.int lo t,.int hi u,.int 1 v] }).objs.size,[(s.heap.push { cls:=.type "range",data:=.fields #[.int lo t,.int hi u,.int 1 v] }).objs.size],_,_,H,rfl,I1.kept (t':=tk) fun b o e=>fZ _ e,Zag _ lo (hi-lo).toNat,?_,fun b hb=>?_,q⟩
 ·have e1:lo+((0:Nat):Int)*1=lo:=by simp
  have e2:(((hi-lo).toNat:Nat):Int)-((0:Nat):Int)=Builtin.Range.rangeSize lo hi 1:=by rw[rangeSize_one];split<;>lia
  show IsRangeIter _ _ (lo+((0:Nat):Int)*1) ((((hi-lo).toNat:Nat):Int)-((0:Nat):Int)) 1
  rw[e1,e2];exact gB _ rfl
 ·have e:b=(s.heap.push { cls:=.type "range",data:=.fields #[.int lo t,.int hi u,.int 1 v] }).objs.size:=by simpa using hb
  subst e;exact I1.fpOk (fH _) (I1.hok.fresh (fH _))
def ZhX(ta:TA):TI:=fun U H R=>ta U H fun vs H1=>∃j:Int,vs=[.int j]/\-(2 ^ 62)<=j/\j<2 ^ 62/\R (Itr 0 j.toNat) H1
def Y9{a:Expr}{p:Pos}(hg:Gl X "range")(hm:X.mg "range" = none)(ha:PA X [a] ta)(hs:starEach [a] X.env=[(false,eval a X.env)]:=by rfl):PI X tg (.Call (.Name "range" p) [a] [] on) (ZhX ta):=by
 intro dm s U H R I h;refine Call_ (UN I hg hm boot_range (mE (thn (ha on dm s U H _ I h) fun us s1 ⟨vs,H1,I1,r1,q1⟩=>?_) hs rfl));obtain⟨j,e,q1,q2,q⟩:=q1;subst e;cases r1 with
 |cons r rr=>
  cases rr;obtain⟨t,rfl⟩:=r;exact call_range_1 (ZcU I1 (by lia) (by lia) q1 q2 (by simpa using q))
def tFor(wi:TI)(g:TG)(tb:TS):TS:=fun D U H=>wi U H fun J H1=>∃W:Nat->Nat->St->Hp->Prop,(∃m,W 0 m U H1)/\∀i m U H,W i m U H ->
 (J.stop i H/\D.nx U H)\/(J.go i H/\∃N:St->Hp->Prop,(∀σ' H',N σ' H'->∃m',m'<m/\W (i+1) m' σ' H')/\∀x H',J.yld i H x H'->g x U H' fun σ2 H2=>tb { D with nx:=N,ct:=N,bk:=D.nx } σ2 H2)
def jt(fp:List Addr)(h:Heap):List (Addr×Obj):=fp.filterMap fun b=>(h.get? b).map fun o=>(b,o)
def US{b:Addr}{o:Obj}(hb:b∈fp)(e:h.get? b=some o):(b,o)∈jt fp h:=List.mem_filterMap.mpr ⟨b,hb,by rw[e];rfl⟩
def ZbJ{p:Addr×Obj}(hp:p∈jt fp h):p.1∈fp/\h.get? p.1=some p.2:=by
 obtain⟨b,hb,e⟩:=List.mem_filterMap.mp hp;cases q:h.get? b with
 |none=>rw[q] at e;cases e
 |some o=>
  rw[q] at e;have e':(b,o)=p:=fW e;subst e';exact⟨hb,q⟩
def Inv.pinned(I:Inv X dm U H s)(hf:∀b∈fp,za X dm H b)(ho:∀b∈fp,∃o,s.heap.get? b=some o/\∀v,o.data≠.cell v):Inv X (dm++jt fp s.heap) U H s:=
 I.pins_of fun p hp=>(gj.mp hp).elim (fun z=>I.pin p (gy _ z)) fun z=>by
  obtain⟨hb,e⟩:=ZbJ z;obtain⟨f0,f1,f2,_⟩:=hf p.1 hb;obtain⟨o,e',d⟩:=ho p.1 hb;rw[e] at e';cases e';exact⟨e,f0,f1,f2,d⟩
def Inv.unpinned{pl:List (Addr×Obj)}(I:Inv X (dm++pl) U H s):Inv X dm U H s:=I.pins_of fun p hp=>I.pin p (gy _ (gT _ hp))
def Xp{g:TG}(hp:PassesOwn (model X.prog X.w) X.A X.env X.xe)(hc:X.calm=true)(hi:PI X tg iter wi)(hg:PG X tg g)(hb:PSs X oK tb)
  (hs:∀x,foldedSetIterable iter X.env x=pure x:=by intro _;rfl):PS X (.For tg iter oK [] on) (tFor wi g tb):=by
 intro dm s U H D I h;refine wpAny_For (thn (hi dm s U H _ I h) fun v s1 h1=>thn h1 fun E2 s2 h2=>?_) hs;obtain⟨it,fp,tn,J,H2,e,I2,T,so,f2,W,⟨m0,w0⟩,tL⟩:=h2;subst e;have r8:∀{H':Hp},(∀b∈fp,H' b=none)->∀b∈fp,za X dm H' b:=fun hn b hb=>⟨hn b hb,(f2 b hb).2⟩;refine codeAny_forLoop_any (fun n s'=>∃i σ' H',Inv X dm σ' H' s'/\tn i s'.heap/\(∀b∈fp,H' b=none)/\W i n σ' H') ?_ m0 ⟨0,U,H2,I2,so,fun b hb=>(f2 b hb).1,w0⟩;rintro n s3 ⟨i,σ3,H3,I3,wP,MZ,w3⟩;rcases tL i n σ3 H3 w3 with⟨stop,qn⟩|⟨go,N,hN,step⟩
 ·refine lh hp (thn (T.done X rfl rfl rfl hc i dm s3 σ3 H3 X.xe I3 (r8 MZ) wP stop) fun r s4 ⟨hr,I4⟩=>?_);subst hr;exact wpAny_execs_nil ⟨σ3,H3,I4,qn⟩
 ·refine lh hp (thn (T.item X rfl rfl rfl hc i dm s3 σ3 H3 X.xe I3 (r8 MZ) wP go) fun r s4 ⟨u,hr,h4⟩=>?_);subst hr;refine lh hp (thn h4 fun _ s5 ⟨x,H5,I5,r5,y5,Bj,Do⟩=>?_);have OW:=I5.pinned (r8 Do) (T.obj _ _ Bj);refine lh hp (thn (hg _ s5 σ3 H5 x u _ OW r5 (step x H5 y5)) fun _ s6 ⟨σ6,H6,I6,q6⟩=>?_);refine lh hp (thn (hb _ s6 σ6 H6 _ I6 q6) fun f s7 q7=>?_);have again:∀{σ7:St}{H7:Hp},Inv X (dm++jt fp s5.heap) σ7 H7 s7->N σ7 H7->∃m,m<n/\∃i σ' H',Inv X dm σ' H' s7/\tn i s7.heap/\(∀b∈fp,H' b=none)/\W i m σ' H':=fun {σ7 H7} I7 n7=>by
   obtain⟨m',hm,w7⟩:=hN σ7 H7 n7;refine⟨m',hm,i+1,σ7,H7,I7.unpinned,T.keep _ _ _ Bj fun b hb o e=>(I7.pin (b,o) (gy _ (gy _ (US hb e)))).1,fun b hb=>?_,w7⟩;obtain⟨o,e,d⟩:=T.obj _ _ Bj b hb;exact(I7.pin (b,o) (gy _ (gy _ (US hb e)))).2.1
  cases f with
  |next=>obtain⟨σ7,H7,I7,n7⟩:=q7;exact again I7 n7
  |cont=>obtain⟨σ7,H7,I7,n7⟩:=q7;exact again I7 n7
  |brk=>obtain⟨σ7,H7,I7,q7⟩:=q7;exact⟨σ7,H7,I7.unpinned,q7⟩
  |ret v=>obtain⟨x7,σ7,H7,I7,r7,q7⟩:=q7;exact⟨x7,σ7,H7,I7.unpinned,r7,q7⟩
def Wp{a:Addr}{g:TG}{D:jN}(Pv:Nat->St->Hp->Prop)(h0:Pv 0 U H)(hl:∀i U H,i<=xs.length->Pv i U H->SqL K H a xs)
  (hs:∀i x U H,xs[i]?=some x->Pv i U H->g x U H fun σ2 H2=>tb { D with nx:=Pv (i+1),ct:=Pv (i+1),bk:=D.nx } σ2 H2) (hd:∀U H,Pv xs.length U H->D.nx U H) :
  ∃W:Nat->Nat->St->Hp->Prop,(∃m,W 0 m U H)/\∀i m U H,W i m U H ->
   ((Itl K a).stop i H/\D.nx U H)\/((Itl K a).go i H/\∃N:St->Hp->Prop,(∀σ' H',N σ' H'->∃m',m'<m/\W (i+1) m' σ' H')/\∀x H',(Itl K a).yld i H x H'->g x U H' fun σ2 H2=>tb { D with nx:=N,ct:=N,bk:=D.nx } σ2 H2):=by
 refine⟨fun i m U H=>m=xs.length-i/\i<=xs.length/\Pv i U H,⟨xs.length,by simp,g9 _,h0⟩,?_⟩;rintro i m U H ⟨rfl,hi,p⟩;have q:=hl i U H hi p
 by_cases oU:i<xs.length
 ·refine .inr ⟨⟨xs,xs[i],q,by simp[oU]⟩,Pv (i+1),fun σ' H' p'=>⟨xs.length-(i+1),by lia,rfl,oU,p'⟩,fun x H' y=>?_⟩;obtain⟨e,y⟩:=y;subst e;exact hs i x U _ (y xs q) p
 ·have e:i=xs.length:=by lia
  subst e;exact .inl ⟨⟨xs,q,fH _⟩,hd U H p⟩
def Zcj{lo:Int}{g:TG}{D:jN}(Pv:Nat->St->Hp->Prop)(h0:Pv 0 U H)
  (hs:∀i U H,i<n->Pv i U H->g (.int (lo+i)) U H fun σ2 H2=>tb { D with nx:=Pv (i+1),ct:=Pv (i+1),bk:=D.nx } σ2 H2) (hd:∀U H,Pv n U H->D.nx U H) :
  ∃W:Nat->Nat->St->Hp->Prop,(∃m,W 0 m U H)/\∀i m U H,W i m U H ->
   ((Itr lo n).stop i H/\D.nx U H)\/((Itr lo n).go i H/\∃N:St->Hp->Prop,(∀σ' H',N σ' H'->∃m',m'<m/\W (i+1) m' σ' H')/\∀x H',(Itr lo n).yld i H x H'->g x U H' fun σ2 H2=>tb { D with nx:=N,ct:=N,bk:=D.nx } σ2 H2):=by
 refine⟨fun i m U H=>m=n-i/\i<=n/\Pv i U H,⟨n,by simp,g9 _,h0⟩,?_⟩;rintro i m U H ⟨rfl,hi,p⟩
 by_cases oU:i<n
 ·refine .inr ⟨oU,Pv (i+1),fun σ' H' p'=>⟨n-(i+1),by lia,rfl,oU,p'⟩,fun x H' y=>?_⟩;obtain⟨e,y⟩:=y;subst e y;exact hs i U _ oU p
 ·have e:i=n:=by lia
  subst e;exact .inl ⟨fH _,hd U H p⟩
abbrev R2:=V->V->Hp->VK->Prop
def OpR(X:Cx)(f:Value->Value->Sem Value)(r:R2):Prop:=
 ∀(dm:List (Addr×Obj)) (s:Shared) (U:St) (H:Hp) (x y:V) (v u:Value) (Q:VK),Inv X dm U H s->Z6 x v->Z6 y u->r x y H Q ->
  wpAny (model X.prog X.w) X.A (f v u) (EP X dm U Q) X.xe s
def UnR(X:Cx)(f:Value->Sem Value)(r:V->Hp->VK->Prop):Prop:=
 ∀(dm:List (Addr×Obj)) (s:Shared) (U:St) (H:Hp) (x:V) (v:Value) (Q:VK),Inv X dm U H s->Z6 x v->r x H Q ->
  wpAny (model X.prog X.w) X.A (f v) (EP X dm U Q) X.xe s
def YR(X:Cx)(f:Value)(r:List V->Hp->VK->Prop):Prop:=
 ∀(dm:List (Addr×Obj)) (s:Shared) (U:St) (H:Hp) (xs:List V) (us:List Value) (Q:VK),Inv X dm U H s->ZV xs us->r xs H Q ->
  wpAny (model X.prog X.w) X.A (call f us) (EP X dm U Q) X.xe s
def TruR(X:Cx)(r:V->Hp->(Bool->Hp->Prop)->Prop):Prop:=
 ∀(dm:List (Addr×Obj)) (s:Shared) (U:St) (H:Hp) (x:V) (v:Value) (Q:Bool->Hp->Prop),Inv X dm U H s->Z6 x v->r x H Q ->
  wpAny (model X.prog X.w) X.A (truthy v) (TP X dm U Q) X.xe s
def tOp(r:R2)(ta tb:TE):TE:=fun U H Q=>ta U H fun x H1=>tb U H1 fun y H2=>r x y H2 Q
def tUn(r:V->Hp->VK->Prop)(ta:TE):TE:=fun U H Q=>ta U H fun x H1=>r x H1 Q
inductive ZhQ(C:Int->Int->Prop)(g:Int->Int->V)(x:V)(y:V)(H:Hp)(Q:VK):Prop
 |mk (i:_) (j:_) (h0:x=.int i) (h1:y=.int j) (h2:C i j) (h3:Q (g i j) H):ZhQ C g x y H Q
def rI(C:Int->Int->Prop)(g:Int->Int->V):R2:=fun x y H Q=>ZhQ C g x y H Q
inductive ZfO(g:Int->Int->V)(x:V)(y:V)(H:Hp)(Q:VK):Prop
 |mk (i:_) (j:_) (h0:x=.int i) (h1:y=.int j) (h2:Q (g i j) H):ZfO g x y H Q
def rI0(g:Int->Int->V):R2:=fun x y H Q=>ZfO g x y H Q
inductive ZhR(g:Int->V)(x:V)(H:Hp)(Q:VK):Prop
 |mk (i:_) (h0:x=.int i) (h1:Q (g i) H):ZhR g x H Q
def rU(g:Int->V):V->Hp->VK->Prop:=fun x H Q=>ZhR g x H Q
section
variable{X:Cx}{a b c:Expr}{ta tb tc:TE}{on:Pos}
theorem ZgL(ha:PE X a ta)(hb:PE X b tb){R:V->V->Hp->Prop}(I:Inv X dm U H s)
  (h:ta U H fun x H1=>tb U H1 fun y H2=>R x y H2) {f:Value->Value->Sem Value}
  (hf:∀v u s2 x y H2,Inv X dm U H2 s2->Z6 x v->Z6 y u->R x y H2->wpAny (model X.prog X.w) X.A (f v u) Q X.xe s2) :
  wpAny (model X.prog X.w) X.A (eval a X.env) (fun v s₁=>wpAny (model X.prog X.w) X.A (eval b X.env) (fun u s₂=>wpAny (model X.prog X.w) X.A (f v u) Q X.xe s₂) X.xe s₁) X.xe s:=by
 refine thn (ha dm s U H _ I h) fun v s1 ⟨x,H1,I1,r1,q1⟩=>?_;refine thn (hb dm s1 U H1 _ I1 q1) fun u s2 ⟨y,H2,I2,r2,q2⟩=>?_;exact hf v u s2 x y H2 I2 r1 r2 q2
theorem Zv{op:Operator}{r:R2}(ho:OpR X (binaryOp op) r)(ha:PE X a ta)(hb:PE X b tb):PE X (.BinOp a op b on) (tOp r ta tb):=by
 intro dm s U H Q I h;exact wpAny_BinOp (ZgL ha hb I h fun v u s2 x y H2 I2 rx ry q=>ho dm s2 U H2 x y v u Q I2 rx ry q)
theorem VY{op:UnaryOp}{r:V->Hp->VK->Prop}(ho:UnR X (unaryOp op) r)(ha:PE X a ta):PE X (.UnaryOp op a on) (tUn r ta):=by
 intro dm s U H Q I h;exact UnaryOp_ (thn (ha dm s U H _ I h) fun v s1 ⟨x,H1,I1,r1,q1⟩=>ho dm s1 U H1 x v Q I1 r1 q1)
theorem opI{f:Value->Value->Sem Value}{C:Int->Int->Prop}{g:Int->Int->Int}
  (rule:∀(i j:Int) (t u:Tok) (s:Shared) (Q:Value->Shared->Prop) (E:Value->Shared->Prop),C i j->Q (.int (g i j) s.toks) { s with toks:=s.toks+1 }->wpAny (model X.prog X.w) X.A (f (.int i t) (.int j u)) Q E s) :
  OpR X f (rI C fun i j=>.int (g i j)):=by
 intro dm s U H x y v u Q I rx ry h;obtain⟨i,j,rfl,rfl,hc,q⟩:=h;obtain⟨t,rfl⟩:=rx;obtain⟨t',rfl⟩:=ry;exact rule i j t t' s _ _ hc ⟨.int (g i j),H,I.tok _,⟨_,rfl⟩,q⟩
theorem ZhI{f:Value->Value->Sem Value}{g:Int->Int->Int}
  (rule:∀(i j:Int) (t u:Tok) (s:Shared) (Q:Value->Shared->Prop) (E:Value->Shared->Prop),Q (.int (g i j) s.toks) { s with toks:=s.toks+1 }->wpAny (model X.prog X.w) X.A (f (.int i t) (.int j u)) Q E s) :
  OpR X f (rI0 fun i j=>.int (g i j)):=by
 intro dm s U H x y v u Q I rx ry h;obtain⟨i,j,rfl,rfl,q⟩:=h;obtain⟨t,rfl⟩:=rx;obtain⟨t',rfl⟩:=ry;exact rule i j t t' s _ _ ⟨.int (g i j),H,I.tok _,⟨_,rfl⟩,q⟩
theorem ZgW{f:Value->Value->Sem Value}{g:Int->Int->Bool}
  (rule:∀(i j:Int) (t u:Tok) (s:Shared) (Q:Value->Shared->Prop) (E:Value->Shared->Prop),Q (.bool (g i j)) s->wpAny (model X.prog X.w) X.A (f (.int i t) (.int j u)) Q E s) :
  OpR X f (rI0 fun i j=>.bl (g i j)):=by
 intro dm s U H x y v u Q I rx ry h;obtain⟨i,j,rfl,rfl,q⟩:=h;obtain⟨t,rfl⟩:=rx;obtain⟨t',rfl⟩:=ry;exact rule i j t t' s _ _ ⟨.bl (g i j),H,I,rfl,q⟩
def CDiv(i j:Int):Prop:=0<j/\j<1073741824
def Zhj(i j:Int):Prop:=0<=j/\j<=1000000/\i.natAbs<2 ^ 64
def ZgD(i j:Int):Prop:=(-(2 ^ 64)<i/\i<2 ^ 64)\/(-(2 ^ 64)<j/\j<2 ^ 64)
theorem ZgD.ok{i j:Int}(h:ZgD i j):IntMulOk i j:=by
 rcases h with⟨h1,h2⟩|⟨h1,h2⟩
 ·exact .of_left (intBits_le_64 h1 h2)
 ·exact .of_right (intBits_le_64 h1 h2)
theorem Z5:OpR X (binaryOp .Add) (rI0 fun i j=>.int (i+j)):=ZhI fun _ _ _ _ _ _ _ q=>add_int q
theorem yO:OpR X (binaryOp .Sub) (rI0 fun i j=>.int (i-j)):=ZhI fun _ _ _ _ _ _ _ q=>sub_int q
theorem VG:OpR X (binaryOp .Mult) (rI ZgD fun i j=>.int (i*j)):=opI fun _ _ _ _ _ _ _ hc q=>mul_int q hc.ok
theorem XL:OpR X (binaryOp .FloorDiv) (rI CDiv fun i j=>.int (i/j)):=opI fun i j _ _ _ _ _ hc q=>by
 have h1:(0:Int)<j:=hc.1;have h2:j<1073741824:=hc.2;exact floordiv_int (by lia) (by rw[Int.fdiv_eq_ediv_of_nonneg i (by lia)];exact q) (.inl (PyProof.noPylong_small (by lia)))
theorem Yx:OpR X (binaryOp .Mod) (rI (fun _ j=>0<j) fun i j=>.int (i%j)):=opI fun i j _ _ _ _ _ hc q=>by
 have h1:(0:Int)<j:=hc;exact mod_int' (by lia) (by rw[Int.fmod_eq_emod_of_nonneg i (by lia)];exact q)
theorem ZcK:OpR X (binaryOp .Pow) (rI Zhj fun i j=>.int (i ^ j.toNat)):=opI fun _ _ _ _ _ _ _ hc q=>pow_int_small hc.1 hc.2.1 hc.2.2 q
theorem QT:OpR X (binaryOp .LShift) (rI Zhj fun i j=>.int (i*2 ^ j.toNat)):=opI fun _ _ _ _ _ _ _ hc q=>lshift_int_small hc.1 hc.2.1 hc.2.2 q
theorem unI{f:Value->Sem Value}{g:Int->Int}
  (rule:∀(i:Int) (t:Tok) (s:Shared) (Q:Value->Shared->Prop) (E:Value->Shared->Prop),Q (.int (g i) s.toks) { s with toks:=s.toks+1 }->wpAny (model X.prog X.w) X.A (f (.int i t)) Q E s) :
  UnR X f (rU fun i=>.int (g i)):=by
 intro dm s U H x v Q I rx h;obtain⟨i,rfl,q⟩:=h;obtain⟨t,rfl⟩:=rx;exact rule i t s _ _ ⟨.int (g i),H,I.tok _,⟨_,rfl⟩,q⟩
theorem WB:UnR X (unaryOp .USub) (rU fun i=>.int (-i)):=unI fun _ _ _ _ _ q=>neg_int q
end
def Zia:V->V->Bool
 |.non,.non=>true|.non,.int _=>true|.int _,.non=>true|.non,.bl _=>true|.bl _,.non=>true|.non,.str _=>true|.str _,.non=>true
 |.int _,.int _=>true|.bl _,.bl _=>true|.str _,.str _=>true|.byt _,.byt _=>true
 |.int _,.str _=>true|.str _,.int _=>true|.bl _,.str _=>true|.str _,.bl _=>true
 |_,_=>false
inductive ZfQ(x y:V)(H:Hp)(Q:VK):Prop
 |mk (h:Zia x y=true) (k:Q (.bl (decide (x=y))) H):ZfQ x y H Q
inductive ZfX(x y:V)(H:Hp)(Q:VK):Prop
 |mk (h:Zia x y=true) (k:Q (.bl (!decide (x=y))) H):ZfX x y H Q
def rEq:R2:=fun x y H Q=>ZfQ x y H Q
def rNe:R2:=fun x y H Q=>ZfX x y H Q
def ZaQ{i j:Int}:decide (V.int i=V.int j)=(i==j):=by
 rw[ic];simp
def Zc1{i j:Bool}:decide (V.bl i=V.bl j)=(i==j):=by
 rw[ic];simp
def Zbb{i j:Str}:decide (V.str i=V.str j)=(i==j):=by
 rw[ic];simp
def Za3{i j:Array UInt8}:decide (V.byt i=V.byt j)=(i.toList==j.toList):=by
 rw[ic];cases i;cases j;simp
section
variable{X:Cx}{a b c:Expr}{ta tb tc:TE}{on:Pos}
theorem Ym{Q:VK}{k k':Bool}(I:Inv X dm U H s)(q:Q (.bl k) H)(e:k=k'):EP X dm U Q (.bool k') s:=by
 subst e;exact⟨.bl k,H,I,rfl,q⟩
theorem ZO:OpR X (compareOp .Eq) rEq:=by
 intro dm s U H x y v u Q I rx ry h;obtain⟨hs,q⟩:=h;cases x with
 |non=>
  cases rx;cases y with
  |non=>cases ry;exact PySem.EqNone.eq_none_none (Ym I q (by simp))
  |bl j=>cases ry;exact PySem.EqNone.eq_none_bool (Ym I q (by simp))
  |int j=>obtain⟨t',rfl⟩:=ry;exact PySem.EqNone.eq_none_int (Ym I q (by simp))
  |str j=>obtain⟨t',rfl⟩:=ry;exact PySem.EqNone.eq_none_str (Ym I q (by simp))
  |_=>exact ot (show false=true from hs) gw
 |bl i=>
  cases rx;cases y with
  |non=>cases ry;exact PySem.EqNone.eq_bool_none (Ym I q (by simp))
  |bl j=>cases ry;exact eq_bool (Ym I q Zc1)
  |str j=>obtain⟨t',rfl⟩:=ry;exact PySem.EqMixed.eq_bool_str (Ym I q (by simp))
  |_=>exact ot (show false=true from hs) gw
 |int i=>
  obtain⟨t,rfl⟩:=rx;cases y with
  |non=>cases ry;exact PySem.EqNone.eq_int_none (Ym I q (by simp))
  |int j=>obtain⟨t',rfl⟩:=ry;exact eq_int (Ym I q ZaQ)
  |str j=>obtain⟨t',rfl⟩:=ry;exact PySem.EqMixed.eq_int_str (Ym I q (by simp))
  |_=>exact ot (show false=true from hs) gw
 |str i=>
  obtain⟨t,rfl⟩:=rx;cases y with
  |non=>cases ry;exact PySem.EqNone.eq_str_none (Ym I q (by simp))
  |bl j=>cases ry;exact PySem.EqMixed.eq_str_bool (Ym I q (by simp))
  |int j=>obtain⟨t',rfl⟩:=ry;exact PySem.EqMixed.eq_str_int (Ym I q (by simp))
  |str j=>obtain⟨t',rfl⟩:=ry;exact eq_str (Ym I q Zbb)
  |_=>exact ot (show false=true from hs) gw
 |byt i=>
  obtain⟨t,rfl⟩:=rx;cases y with
  |byt j=>obtain⟨t',rfl⟩:=ry;exact W.eq_bytes (Ym I q Za3)
  |_=>exact ot (show false=true from hs) gw
 |_=>cases y<;>exact ot (show false=true from hs) gw
theorem Ql:OpR X (compareOp .NotEq) rNe:=by
 intro dm s U H x y v u Q I rx ry h;obtain⟨hs,q⟩:=h;cases x with
 |non=>
  cases rx;cases y with
  |non=>cases ry;exact PySem.EqNone.ne_none_none (Ym I q (by simp))
  |bl j=>cases ry;exact PySem.EqNone.ne_none_bool (Ym I q (by simp))
  |int j=>obtain⟨t',rfl⟩:=ry;exact PySem.EqNone.ne_none_int (Ym I q (by simp))
  |str j=>obtain⟨t',rfl⟩:=ry;exact PySem.EqNone.ne_none_str (Ym I q (by simp))
  |_=>exact ot (show false=true from hs) gw
 |bl i=>
  cases rx;cases y with
  |non=>cases ry;exact PySem.EqNone.ne_bool_none (Ym I q (by simp))
  |bl j=>cases ry;exact ne_bool (Ym I q (fS not Zc1))
  |str j=>obtain⟨t',rfl⟩:=ry;exact PySem.EqMixed.ne_bool_str (Ym I q (by simp))
  |_=>exact ot (show false=true from hs) gw
 |int i=>
  obtain⟨t,rfl⟩:=rx;cases y with
  |non=>cases ry;exact PySem.EqNone.ne_int_none (Ym I q (by simp))
  |int j=>obtain⟨t',rfl⟩:=ry;exact ne_int (Ym I q (fS not ZaQ))
  |str j=>obtain⟨t',rfl⟩:=ry;exact PySem.EqMixed.ne_int_str (Ym I q (by simp))
  |_=>exact ot (show false=true from hs) gw
 |str i=>
  obtain⟨t,rfl⟩:=rx;cases y with
  |non=>cases ry;exact PySem.EqNone.ne_str_none (Ym I q (by simp))
  |bl j=>cases ry;exact PySem.EqMixed.ne_str_bool (Ym I q (by simp))
  |int j=>obtain⟨t',rfl⟩:=ry;exact PySem.EqMixed.ne_str_int (Ym I q (by simp))
  |str j=>obtain⟨t',rfl⟩:=ry;exact ne_str (Ym I q (fS not Zbb))
  |_=>exact ot (show false=true from hs) gw
 |byt i=>
  obtain⟨t,rfl⟩:=rx;cases y with
  |byt j=>obtain⟨t',rfl⟩:=ry;exact W.ne_bytes (Ym I q (fS not Za3))
  |_=>exact ot (show false=true from hs) gw
 |_=>cases y<;>exact ot (show false=true from hs) gw
theorem ZaK:OpR X (compareOp .Lt) (rI0 fun i j=>.bl (decide (i<j))):=ZgW fun _ _ _ _ _ _ _ q=>lt_int q
theorem zk:OpR X (compareOp .LtE) (rI0 fun i j=>.bl (decide (i<=j))):=ZgW fun _ _ _ _ _ _ _ q=>le_int q
theorem ZaT:OpR X (compareOp .Gt) (rI0 fun i j=>.bl (decide (j<i))):=ZgW fun _ _ _ _ _ _ _ q=>gt_int q
theorem ZbW:OpR X (compareOp .In) (fun x y H Q=>∃i j,x=.str i/\y=.str j/\Q (.bl (!(Builtin.Str.occurrences j i 0 j.length 1).isEmpty)) H):=by
 intro dm s U H x y v u Q I rx ry h;obtain⟨i,j,rfl,rfl,q⟩:=h;obtain⟨t,rfl⟩:=rx;obtain⟨t',rfl⟩:=ry;exact in_str (Ym I q rfl)
theorem ZeM:OpR X (compareOp .IsNot) (fun x y H Q=>y=.non/\Q (.bl (!decide (x=.non))) H):=by
 intro dm s U H x y v u Q I rx ry h;obtain⟨rfl,q⟩:=h;cases ry;refine isnot_none_gen (Ym I q ?_);cases x<;>first
  | (cases rx;rfl)
  | (obtain⟨t,rfl⟩:=rx;rfl)
theorem Zx(b:Expr)(h:op≠.In:=by left)(h2:op≠.NotIn:=by left):behindInMarks op b=false:=by
 have e1:(op==CmpOp.In)=false:=by cases op<;>first|rfl|exact ot rfl h
 have e2:(op==CmpOp.NotIn)=false:=by cases op<;>first|rfl|exact ot rfl h2
 cases b<;>simp[behindInMarks,e1,e2]
theorem Xm{r:R2}(ho:OpR X (compareOp op) r)(ha:PE X a ta)(hb:PE X b tb)(hm:behindInMarks op b=false):PE X (.Compare a [op] [b] on) (tOp r ta tb):=by
 intro dm s U H Q I h;exact wpAny_Compare1 (ZgL ha hb I h fun v u s2 x y H2 I2 rx ry q=>ho dm s2 U H2 x y v u Q I2 rx ry q) hm
def Zbg(t:TE):TT:=fun U H Q=>t U H fun x H'=>Zdd x H' Q
theorem Zn{op:CmpOp}{r:R2}(ho:OpR X (compareOp op) r)(ha:PE X a ta)(hb:PE X b tb)(hm:behindInMarks op b=false):PT X (.Compare a [op] [b] on) (Zbg (tOp r ta tb)):=by
 intro dm s U H Q I h;refine wpAny_isTrue_Compare1 (thn (ha dm s U H _ I h) fun v s1 ⟨x,H1,I1,r1,q1⟩=>thn (hb dm s1 U H1 _ I1 q1) fun u s2 ⟨y,H2,I2,r2,q2⟩=> thn (ho dm s2 U H2 x y v u _ I2 r1 r2 q2) fun c s3 ⟨z,H3,I3,r3,k,e,q3⟩=>?_) hm
 subst e;cases r3;exact ip ⟨H3,I3,q3⟩
def ZdH(r r':R2)(ta tb tc:TE):TE:=fun U H Q=>ta U H fun x H1=>tb U H1 fun y H2=>r x y H2 fun z H3=>∃k,z=.bl k /\
 (if k=true then tc U H3 fun w' H4=>r' y w' H4 Q else Q (.bl false) H3)
theorem Kf{Ac:CmpOp}{r r':R2}(ho:OpR X (compareOp op) r)(rN:OpR X (compareOp Ac) r')(ha:PE X a ta)(hb:PE X b tb)(hc:PE X c tc)
  (hm:lastMarks [op,Ac] [b,c]=false:=by with_unfolding_all rfl):PE X (.Compare a [op,Ac] [b,c] on) (ZdH r r' ta tb tc):=by
 intro dm s U H Q I h;refine Compare_chain (thn (ha dm s U H _ I h) fun v s1 ⟨x,H1,I1,r1,q1⟩=>chain_link (thn (hb dm s1 U H1 _ I1 q1) fun u s2 ⟨y,H2,I2,r2,q2⟩=> thn (ho dm s2 U H2 x y v u _ I2 r1 r2 q2) fun d s3 ⟨z,H3,I3,r3,k,e,q3⟩=>?_)) hm
 subst e;cases r3;refine ip ?_;cases k with
 |false=>exact ite_ff ⟨.bl false,H3,I3,rfl,q3⟩
 |true=>exact ite_tt (chain_last (thn (hc dm s3 U H3 _ I3 q3) fun w' s4 ⟨z',H4,I4,r4,q4⟩=>rN dm s4 U H4 y z' u w' Q I4 r2 r4 q4))
theorem Qj{Ac:CmpOp}{r r':R2}(ho:OpR X (compareOp op) r)(rN:OpR X (compareOp Ac) r')(ha:PE X a ta)(hb:PE X b tb)(hc:PE X c tc)
  (hm:lastMarks [op,Ac] [b,c]=false:=by with_unfolding_all rfl):PT X (.Compare a [op,Ac] [b,c] on) (Zbg (ZdH r r' ta tb tc)):=by
 intro dm s U H Q I h;refine isTrue_chain (thn (ha dm s U H _ I h) fun v s1 ⟨x,H1,I1,r1,q1⟩=>test_link (thn (hb dm s1 U H1 _ I1 q1) fun u s2 ⟨y,H2,I2,r2,q2⟩=> thn (ho dm s2 U H2 x y v u _ I2 r1 r2 q2) fun d s3 ⟨z,H3,I3,r3,k,e,q3⟩=>?_)) hm
 subst e;cases r3;refine ip ?_;cases k with
 |false=>
  obtain⟨k',e',q'⟩:=q3;cases e';exact ite_ff ⟨H3,I3,q'⟩
 |true=>
  refine ite_tt (test_last (thn (hc dm s3 U H3 _ I3 q3) fun w' s4 ⟨z',H4,I4,r4,q4⟩=>thn (rN dm s4 U H4 y z' u w' _ I4 r2 r4 q4) fun d' s5 ⟨z2,H5,I5,r5,k2,e2,q5⟩=>?_));subst e2;cases r5;exact ip ⟨H5,I5,q5⟩
def Zgo(K:W.Frag)(x:V)(H:Hp)(k:Bool):Prop:=
 match x with
 |.non=>k=false
 |.bl b=>k=b
 |.int i=>k=(i != 0)
 |.str y=>y.length<=sizeLine/\k=((y.length:Int) != 0)
 |.byt y=>y.size<=sizeLine/\k=((y.size:Int) != 0)
 |.ref p=>(∃xs,SqL K H p xs/\k = !xs.isEmpty)\/(∃xs,SqT K H p xs/\k = !xs.isEmpty)\/∃kvs,H p=some (.dK kvs)/\k = !kvs.isEmpty
 |_=>False
theorem QC{kvs:List (κ×V)}{vs:List (κ×Value)}(r:KV kvs vs):(!vs.isEmpty) = !kvs.isEmpty:=by
 cases r<;>rfl
theorem vL(r:ZV xs its):(!its.toArray.isEmpty) = !xs.isEmpty:=by
 cases r<;>simp
theorem vf:(sizeLine:Nat)<2 ^ 63:=by rw[fJ];decide
theorem ZgN:TruR X (fun x H Q=>∃k,Zgo X.K x H k/\Q k H):=by
 intro dm s U H x v Q I rx h;obtain⟨k,e,q⟩:=h;have hl:=vf;have hs:sizeLine=16777216:=fJ;cases x with
 |non=>
  cases rx;have e':k=false:=e;subst e';exact truthy_none ⟨H,I,q⟩
 |bl b=>
  cases rx;have e':k=b:=e;subst e';exact ip ⟨H,I,q⟩
 |int i=>
  obtain⟨t,rfl⟩:=rx;have e':k=(i != 0):=e;subst e';exact PySem.P.truthy_int ⟨H,I,q⟩
 |str y=>
  obtain⟨t,rfl⟩:=rx;obtain⟨hy,e'⟩:y.length<=sizeLine/\k=((y.length:Int) != 0):=e;subst e';exact PySem.P.truthy_str (by lia) ⟨H,I.tok _,q⟩
 |byt y=>
  obtain⟨t,rfl⟩:=rx;obtain⟨hy,e'⟩:y.size<=sizeLine/\k=((y.size:Int) != 0):=e;subst e';exact W.truthy_bytes (by lia) ⟨H,I.tok _,q⟩
 |ref p=>
  cases rx;have e':(∃xs,SqL X.K H p xs/\k = !xs.isEmpty)\/(∃xs,SqT X.K H p xs/\k = !xs.isEmpty)\/∃kvs,H p=some (.dK kvs)/\k = !kvs.isEmpty:=e;rcases e' with⟨xs,hx,e'⟩|⟨xs,hx,e'⟩|⟨kvs,hx,e'⟩
  ·subst e';obtain⟨its,r,pl,hz⟩:=I.list hx;have ou:=r.length;exact wpAny_truthy_list pl.isList (by simp only[gf];lia) ⟨H,I.tok _,by rw[vL r];exact q⟩
  ·subst e';obtain⟨its,r,pl,hz⟩:=I.tuple hx;have ou:=r.length;exact truthy_tuple pl (by simp only[gf];lia) ⟨H,I.tok _,by rw[vL r];exact q⟩
  ·subst e';obtain⟨hz,hS,vs,r,m⟩:kvs.length<=sizeLine/\(p==sysModules)=false/\∃vs,KV kvs vs/\s.heap.DictOf (ZM X.prog X.w) p vs:=I.hok p _ hx;have ou:kvs.length=vs.length:=lU r;exact wpAny_truthy_dict hS m (by lia) ⟨H,I.tok _,by rw[QC r];exact q⟩
 |_=>exact(show False from e).elim
theorem Zdi(ha:PE X a ta)(he:∀oN,isTrue a X.env oN=(do let v <- oN;standAt a.pos;holding [v] (truthy v))) :
  PT X a (fun U H Q=>ta U H fun x H'=>∃k,Zgo X.K x H' k/\Q k H'):=by
 intro dm s U H Q I h;exact isTrue_plain (thn (ha dm s U H _ I h) fun v s1 ⟨x,H1,I1,r1,q1⟩=>ZgN dm s1 U H1 x v Q I1 r1 q1) (he _)
theorem Vj{x:V}(r:ZV [x] us):∃u,us=[u]/\Z6 x u:=by
 cases r with
 |cons r1 r2=>cases r2;exact⟨_,rfl,r1⟩
theorem Qr{x:V}(r:ZV [x,y] us):∃u w',us=[u,w']/\Z6 x u/\Z6 y w':=by
 cases r with
 |cons r1 r2=>
  cases r2 with
  |cons r3 r4=>cases r4;exact⟨_,_,rfl,r1,r3⟩
theorem yN(hc:X.calm=true):YR X (.builtin "max") (fun xs H Q=>∃i j,xs=[.int i,.int j]/\Q (.int (if j>i then j else i)) H):=by
 intro dm s U H xs us Q I r h;obtain⟨i,j,rfl,q⟩:=h;obtain⟨u,w',rfl,⟨t,rfl⟩,⟨t',rfl⟩⟩:=Qr r;refine max_two_ints (I.ok.hd hc) fun h' tk k=>⟨_,H,I.kept k,?_,q⟩
 by_cases hj:j>i
 ·rw[oq hj,oq hj];exact⟨_,rfl⟩
 ·rw[oo hj,oo hj];exact⟨_,rfl⟩
theorem kC:YR X (.type "int") (fun xs H Q=>(∃i,xs=[.int i]/\Q (.int i) H)\/∃k,xs=[.bl k]/\Q (.int (if k then 1 else 0)) H):=by
 intro dm s U H xs us Q I r h;rcases h with⟨i,rfl,q⟩|⟨k,rfl,q⟩
 ·obtain⟨u,rfl,t,rfl⟩:=Vj r;exact call_int_int ⟨.int i,H,I,⟨_,rfl⟩,q⟩
 ·obtain⟨u,rfl,r1⟩:=Vj r;cases r1;exact call_int_bool ⟨.int (if k then 1 else 0),H,I.tok _,⟨_,rfl⟩,q⟩
end
structure Zaj(h:Heap)(x dx C:Addr)(mA:Str->Option Value):Prop where
 obj:h.get? x=some (W.instObj C dx)
 ns:h.Ns1 dx mA
 ne:dx≠x
def Zbm(n:h.Ns1 dx mA):∃od,h.get? dx=some od/\∀name,W.lookIn name od=some (mA name):=by
 obtain⟨o,es,ep,ho,hd,hk,_,hm⟩:=n;refine⟨o,ho,fun name=>?_⟩;have e:=hm name;unfold nsFind findBy at e;rw[<- Array.find?_toList] at e;unfold W.lookIn;rw[hd];dsimp only
 split
 ·rename_i y q
  rw[q] at e;exact fS some e
 ·rename_i q
  rw[q] at e;have a:es.toList.any (·.refKey)=false:=by
   rw[List.any_eq_false];intro y hy;obtain⟨z,t,AA⟩:=hk y (Array.mem_toList_iff.mp hy);simp[DictEntry.refKey,AA]
  have a':¬es.toList.any (·.refKey)=true:=by rw[a];exact gw
  rw[oo a'];exact fS some e
def Zaj.look{x:Addr}(I:Zaj h x dx C mA):∃od,W.InstAt h x (W.instObj C dx) C (some od)/\∀name,W.lookIn name od=some (mA name):=
 let ⟨od,ho,hl⟩:=Zbm I.ns
 ⟨od,⟨I.obj,rfl,rfl,ho⟩,hl⟩
section
variable{x f:Addr}{name:Str}{v:Value}
theorem Zfk{GE:Bool}(X:K.In s.heap)(I:Zaj s.heap x dx C mA)(hg:W.plainGet K C name=true)(hh:W.hasDictIn K C=true)
  (ha:W.findIn K (.ref C) name=some none) (hv:mA name=some v) (N4:W.handedIn v=true) (h:Q v { s with toks:=s.toks+1 }) :
  wpAny (model prog w) A (getAttr (.ref x) name GE) Q E s:=by
 obtain⟨od,J,hl⟩:=I.look;exact W.get_value X J (W.plainGet_of hg).1 (W.findObj_own hh ha rfl (by rw[hl,hv])) N4 h
theorem ZcA{Q:Value×List Value->Shared->Prop}(X:K.In s.heap)(I:Zaj s.heap x dx C mA)(hg:W.plainGet K C name=true)
  (hf:W.findIn K (.ref C) name=some (some (.ref f))) (ht:W.isFn K (.ref f)=true) (hv:mA name=none) (h:Q (.ref f,[.ref x]) s) :
  wpAny (model prog w) A (getMethod (.ref x) name pl) Q E s:=by
 obtain⟨od,J,hl⟩:=I.look;exact W.method_fn X J (W.plainGet_of hg).1 (W.plainGet_of hg).2 hf (lp.mp ht) (by show(W.lookIn name od).map (·.isSome)=some false;rw[hl,hv];rfl) h
theorem Zfw{ns:List Str}{Q:Unit->Shared->Prop}(X:K.In s.heap)(I:Zaj s.heap x dx C mA)
  (hs:W.findIn K (.ref C) "__setattr__" = some (some (.builtin "object.__setattr__"))) (hp:W.plainOver K C=true) (ht:W.takerIn K C name=some none) (hh:W.hasDictIn K C=true)
  (hw:PySem.Within mA ns) (hsz:ns.length<=sizeLine)
  (h:∀h',Zaj h' x dx C (fun y=>if y=name then some v else mA y)->Heap.SameBut dx s.heap h'->Q () { s with heap:=h',toks:=s.toks+2 }) :
  wpAny (model prog w) A (setAttr (.ref x) name v) Q E s:=by
 obtain⟨od,J,hl⟩:=I.look;refine W.set_plain X J hs (W.osa_open (s:={ s with toks:=s.toks+1 }) (r:=none) X J hp ht fun b=>?_);obtain⟨cd,hc,su⟩:=W.any_some hh;have hx:s.heap.get? x=some ⟨.ref C,some dx,.plain,#[]⟩:=I.obj;refine fE (fI (fE (fE (wpAny_loadPart hx (fE (W.Looks.here (s:={ s with toks:=s.toks+1 }) (W.looks_clsIn X hc) ?_))))));rw[su];refine fI (a:=some dx) (fE (fI (fE ?_)));refine wpAny_nsSet1 (s:={ s with toks:=s.toks+1 }) I.ns fun h' DH Ar=>?_;obtain⟨oD,esD,epD,Sj,T2,SN⟩:=DH.count (PySem.Within.cons name v hw);refine fE (wpAny_lookBehind Sj (by rw[T2];exact pastItsLine_dict (gg SN (by rw[gu];lia))) ?_);exact fI (h _ ⟨(Ar.2 _ (fX I.ne)).trans I.obj,DH,I.ne⟩ Ar)
theorem ZcL{vs:List Value}(X:K.In s.heap)(hm:W.makesIn K C=true)
  (hi:W.findIn K (.ref C) "__init__" = some (some (.ref f))) (hf:W.typeIn K (.ref f)=some (.type "function"))
  (h:codeAny (model prog w) (A.under (.builtin "type.__call__" ⟨.ref C::vs,kw⟩)) (.call (.ref f) ⟨.ref (s.heap.objs.size+1)::vs,kw⟩) (W.InitBack (s.heap.objs.size+1) R) { s with heap:=(s.heap.push W.emptyDict).push (W.instObj C s.heap.objs.size) }) :
  codeAny (model prog w) A (.call (.ref C) ⟨vs,kw⟩) R s:=by
 obtain⟨hh,g,d,t,os⟩:=s;exact W.make_core (W.makes_of X hm) (W.looks_findIn X hi) (fun self=>W.bind_fn X self hf) (.inl rfl) h
end
def Yl(f:Str)(v:V):List (Str×V)->List (Str×V)
 |[]=>[(f,v)]
 | (g,x)::r=>if g=f then(g,v)::r else(g,x)::Yl f v r
def xx(f g:Str)(v:V):∀fs:List (Str×V),(Yl f v fs).lookup g=if g=f then some v else fs.lookup g
 |[]=>by
  show η g [(f,v)]=_
  by_cases h:g=f
  ·have hb:(g==f)=true:=lp.mpr h;simp only[η,hb,oq h]
  ·have hb:(g==f)=false:=iY.mpr h;simp only[η,hb,oo h]
 | (k,x)::r=>by
  have ih:=xx f g v r;rw[show Yl f v ((k,x)::r)=(if k=f then(k,v)::r else(k,x)::Yl f v r) from rfl]
  by_cases hk:k=f
  ·rw[oq hk]
   by_cases h:g=k
   ·have hb:(g==k)=true:=lp.mpr h;simp only[η,hb,oq (h.trans hk)]
   ·have hb:(g==k)=false:=iY.mpr h;simp only[η,hb,oo (fun e:g=f=>h (e.trans hk.symm))]
  ·rw[oo hk]
   by_cases h:g=k
   ·have hb:(g==k)=true:=lp.mpr h;simp only[η,hb,oo (fun e:g=f=>hk (h.symm.trans e))]
   ·have hb:(g==k)=false:=iY.mpr h;simp only[η,hb];exact ih
def yU(f:Str)(v:V):∀fs:List (Str×V),f∈(Yl f v fs).map (·.1)/\∀g,g∈fs.map (·.1)->g∈(Yl f v fs).map (·.1)
 |[]=>⟨by simp[Yl],fun g h=>by simp at h⟩
 | (k,x)::r=>by
  obtain⟨i1,i2⟩:=yU f v r;rw[show Yl f v ((k,x)::r)=(if k=f then(k,v)::r else(k,x)::Yl f v r) from rfl]
  by_cases hk:k=f
  ·rw[oq hk];subst hk;exact⟨by simp,fun g h=>by simpa using h⟩
  ·rw[oo hk];refine⟨?_,fun g h=>?_⟩
   ·rw[fL];exact fT _ i1
   ·rw[fL] at h ⊢;rcases fU.mp h with e|e
    ·exact fU.mpr (.inl e)
    ·exact fT _ (i2 g e)
def xu(f:Str)(v:V):∀fs:List (Str×V),(Yl f v fs).length<=fs.length+1
 |[]=>by simp[Yl]
 | (k,x)::r=>by
  have ih:=xu f v r;rw[show Yl f v ((k,x)::r)=(if k=f then(k,v)::r else(k,x)::Yl f v r) from rfl]
  by_cases hk:k=f
  ·rw[oq hk,gu,gu];lia
  ·rw[oo hk,gu,gu];lia
def Ur.some_of{o:Option Value}(r:Ur (some v) o):∃u,o=some u/\Z6 v u:=by
 cases o with
 |none=>exact(show False from r).elim
 |some u=>exact⟨u,rfl,r⟩
def Ur.none_of{o:Option Value}(r:Ur none o):o=none:=by
 cases o with
 |none=>rfl
 |some u=>exact(show False from r).elim
def ZbF(r:Z6 v u):W.handedIn u=true:=by
 cases v with
 |non=>cases (show u=Value.none from r);rfl
 |bl b=>cases (show u=Value.bool b from r);rfl
 |int i=>obtain⟨t,e⟩:=(show ∃t,u=Value.int i t from r);cases e;rfl
 |str x=>obtain⟨t,e⟩:=(show ∃t,u=Value.str x t from r);cases e;rfl
 |byt b=>obtain⟨t,e⟩:=(show ∃t,u=Value.bytes b t from r);cases e;rfl
 |flt b=>obtain⟨t,e⟩:=(show ∃t,u=Value.float b t from r);cases e;rfl
 |ref a=>cases (show u=Value.ref a from r);rfl
 |ty n=>cases (show u=Value.type n from r);rfl
section
variable{a:Addr}{fs CT:List (Str×V)}
theorem xR(hok:HOk P w H h)(e:H a=some (.ins C dx fs)):∃mA,Zaj h a dx C mA/\(∀f,Ur (fs.lookup f) (mA f))/\PySem.Within mA (fs.map (·.1))/\fs.length<=1000/\H dx=some (.own a):=by
 obtain⟨d,z,ne,ob,mA,n,r,q⟩:=(show Y1 P w H h a (.ins C dx fs) from hok a _ e);exact⟨mA,⟨ob,n,ne⟩,r,q,z,d⟩
end
structure Cls(K:W.Frag)(C:Addr):Prop where
 pg:W.plainGet K C Str.empty=true
 hd:W.hasDictIn K C=true
 po:W.plainOver K C=true
 sa:W.findIn K (.ref C) "__setattr__" = some (some (.builtin "object.__setattr__"))
def Cls.get(c:Cls K C)(f:Str):W.plainGet K C f=true:=c.pg
def X3(K:W.Frag)(C:Addr)(f:Str):Prop:=W.findIn K (.ref C) f=some none
def X3.taker{f:Str}(n:X3 K C f):W.takerIn K C f=some none:=by
 unfold W.takerIn;rw[show W.findIn K (.ref C) f=some none from n];rfl
structure ZeN(K:W.Frag)(C:Addr)(m:Str)(f:Addr):Prop where
 at_:W.findIn K (.ref C) m=some (some (.ref f))
 fn:W.isFn K (.ref f)=true
 kp:W.keepIn K (.ref f)=true
section
variable{a:Addr}{fs:List (Str×V)}{f:Str}
theorem QR{b:Bool}(I:Inv X dm U H s)(e:H a=some (.ins C dx fs))(c:Cls X.K C)(n:X3 X.K C f)(l:fs.lookup f=some v)
  (h:∀u s',Inv X dm U H s'->Z6 v u->Q u s'):wpAny (model X.prog X.w) A (getAttr (.ref a) f b) Q E s:=by
 obtain⟨mA,O,r,_,_,_⟩:=xR I.hok e;obtain⟨u,hu,ru⟩:=Ur.some_of (v:=v) (o:=mA f) (by rw[<- l];exact r f);exact Zfk I.kIn O (c.get f) c.hd n hu (ZbF ru) (h u _ (I.tok _) ru)
theorem xU{m:Str}{g:Addr}{Q:Value×List Value->Shared->Prop}(I:Inv X dm U H s)(e:H a=some (.ins C dx fs))(c:Cls X.K C)(k:ZeN X.K C m g)(l:fs.lookup m=none)
  (h:Q (.ref g,[.ref a]) s):wpAny (model X.prog X.w) A (getMethod (.ref a) m pl) Q E s:=by
 obtain⟨mA,O,r,_,_,_⟩:=xR I.hok e;have hn:mA m=none:=Ur.none_of (by rw[<- l];exact r m);exact ZcA I.kIn O (c.get m) k.at_ k.fn hn h
theorem Zas{Q:Unit->Shared->Prop}(I:Inv X dm U H s)(e:H a=some (.ins C dx fs))(c:Cls X.K C)(n:X3 X.K C f)(hl:fs.length<1000)(ry:Z6 y u)
  (h:∀s',Inv X dm U (upd H a (.ins C dx (Yl f y fs))) s'->Q () s'):wpAny (model X.prog X.w) A (setAttr (.ref a) f u) Q E s:=by
 obtain⟨mA,O,r,wi,_,ho⟩:=xR I.hok e;have hz:(fs.map (·.1)).length<=sizeLine:=by rw[fF,fJ];lia
 refine Zfw I.kIn O c.sa c.po n.taker c.hd wi hz fun h' O' sb=>h _ ?_;have hd:∃o,h'.get? dx=some o:=let ⟨o,_,_,e',_⟩:=O'.ns; ⟨o,e'⟩
 refine I.write (x:=a) (e:=dx) (by rw[e];exact True.intro) (.inr ho) (fun b q hb z=>(sb.2 b hb).trans z) hd ?_;refine⟨by rw[ZF O.ne];exact ho,?_,O.ne,O'.obj,_,O'.ns,fun g=>?_,fun g hg=>?_⟩
 ·have:=xu f y fs;lia
 ·show Ur ((Yl f y fs).lookup g) (if g=f then some u else mA g)
  rw[xx]
  by_cases q:g=f
  ·rw[oq q,oq q];exact ry
  ·rw[oo q,oo q];exact r g
 ·by_cases q:g=f
  ·rw[q];exact(yU f y fs).1
  ·refine(yU f y fs).2 g (wi g fun z=>hg ?_)
   show(if g=f then some u else mA g)=none
   rw[oo q];exact z
theorem Inv.made(I:Inv X dm U H s):Inv X dm U (upd (upd H s.heap.objs.size (.own (s.heap.objs.size+1))) (s.heap.objs.size+1) (.ins C s.heap.objs.size []))
  { s with heap:=(s.heap.push W.emptyDict).push (W.instObj C s.heap.objs.size) }:=by
 have e1:(s.heap.push W.emptyDict).get? s.heap.objs.size=some W.emptyDict:=gB s.heap rfl;have e2:((s.heap.push W.emptyDict).push (W.instObj C s.heap.objs.size)).get? (s.heap.objs.size+1)=some (W.instObj C s.heap.objs.size):=by
  have:=gB (s.heap.push W.emptyDict) (o:=W.instObj C s.heap.objs.size) rfl
  rwa [Heap.size_push] at this
 have e3:(s.heap.push W.emptyDict).Ns s.heap.objs.size (fun _=>none):=⟨W.emptyDict,#[],_,e1,rfl,(fun e he=>ot he (by simp)),fun _=>rfl⟩;have I1:=I.laid (a:=s.heap.objs.size) (o:=.own (s.heap.objs.size+1)) (h':=s.heap.push W.emptyDict) (t':=s.toks) (fun b u q=>fZ _ q) (fH _) ⟨_,e1⟩;refine I1.laid (a:=s.heap.objs.size+1) (o:=.ins C s.heap.objs.size []) (t':=s.toks) (fun b u q=>fZ _ q) (Nat.le_of_eq (Heap.size_push _ _)) ?_;have ne:s.heap.objs.size≠s.heap.objs.size+1:=gb (Μ _);refine⟨by rw[ZF ne,Zd],g9 _,ne,e2,fun _=>none,(Heap.Ns1.of_empty e3).at fun o q=>fZ _ q,fun _=>True.intro,fun y hy=>ot rfl hy⟩
theorem Zfe{f:Str}(hb:attributeBase e f env (eval e env)=eval e env)
  (h:wpAny (model prog w) A (eval e env) (fun o s₁=>wpAny (model prog w) A (getAttr o f true) Q E s₁) E s):wpAny (model prog w) A (eval (.Attribute e f on) env) Q E s:=
 Attribute_any_ h (by rw[arm_eval_Attribute,hb])
end
inductive ZhZ(K:W.Frag)(f:Str)(x:V)(H:Hp)(Q:VK):Prop
 |mk (a C dx:Addr) (fs:List (Str×V)) (v:V) (h1:x=.ref a) (h2:H a=some (.ins C dx fs)) (h3:Cls K C) (h4:X3 K C f) (h5:fs.lookup f=some v) (k:Q v H):ZhZ K f x H Q
def ZhL(K:W.Frag)(ta:TE)(f:Str):TE:=fun U H Q=>ta U H fun x H1=>ZhZ K f x H1 Q
def sFld(K:W.Frag)(ta tv:TE)(f:Str):TS:=fun D U H=>tv U H fun y H1=>ta U H1 fun x H2=>∃a C dx fs,x=.ref a/\H2 a=some (.ins C dx fs)/\Cls K C/\X3 K C f/\fs.length<1000 /\
 D.nx U (upd H2 a (.ins C dx (Yl f y fs)))
section
variable{o ow:Expr}{f:Str}{CO:Pos}{ta tv:TE}
theorem Zgk(he:PE X e ta)(hb:attributeBase e f X.env (eval e X.env)=eval e X.env):PE X (.Attribute e f on) (ZhL X.K ta f):=by
 intro dm s U H Q I h;refine Zfe hb (thn (he dm s U H _ I h) fun u s1 ⟨x,H1,I1,rx,a,C,dx,fs,v,ex,ea,c,n,l,q⟩=>?_);subst ex;obtain rfl:u=Value.ref a:=rx;exact QR I1 ea c n l fun u' s2 I2 ru=>⟨v,H1,I2,ru,q⟩
theorem Ud(ha:PE X o ta)(hv:PE X ow tv)(hs:swapsWith ow (some (.Attribute o f oQ)) on.line X.env=pure false):PS X (.Assign [.Attribute o f oQ] ow on) (sFld X.K ta tv f):=by
 intro dm s U H D I h;refine plainObj_wpAny_Assign_Attribute (thn (hv dm s U H _ I h) fun u s1 ⟨y,H1,I1,ry,q⟩=>thn (ha dm s1 U H1 _ I1 q) fun ov s2 ⟨x,H2,I2,rx,a,C,dx,fs,ex,ea,c,n,l,q2⟩=>?_) hs;subst ex;obtain rfl:ov=Value.ref a:=rx;exact Zas I2 ea c n l ry fun s3 I3=>⟨U,_,I3,q2⟩
end
section
variable{c:Value}{b:Bool}
inductive qZ(K:W.Frag)(H:Hp):V->Value->Prop where
 |non:qZ K H .non (.type "NoneType")
 |bl (x:Bool):qZ K H (.bl x) (.type "bool")
 |int (i:Int):qZ K H (.int i) (.type "int")
 |str (x:Str):qZ K H (.str x) (.type "str")
 |flt (x:UInt64):qZ K H (.flt x) (.type "float")
 |lst {a:Addr}{xs:List V} (e:H a=some (.lst xs)):qZ K H (.ref a) (.type "list")
 |frz {a:Addr}{o:Obj}{xs:List V} (e:H a=some (.frz o (.lst xs))):qZ K H (.ref a) (.type "list")
 |tup {a:Addr}{xs:List V} (e:H a=some (.tup xs)):qZ K H (.ref a) (.type "tuple")
 |dK {a:Addr}{kvs:List (Key×V)} (e:H a=some (.dK kvs)):qZ K H (.ref a) (.type "dict")
 |dT {a:Addr}{kvs:List (List Key×V)} (e:H a=some (.dT kvs)):qZ K H (.ref a) (.type "dict")
 |ins {a C dx:Addr}{fs:List (Str×V)} (e:H a=some (.ins C dx fs)) (cl:Cls K C) (ha:W.findIn K (.ref C) "__class__" = some (some (.builtin "object.__class__")))
   (hn:W.specialIn K (.builtin "object.__class__") "__get__" = some (some (.builtin "getset_descriptor.__get__"))) (htk:W.takesIn K (.builtin "object.__class__")=some true)
   (hm:W.mroIn K C (.type "object")=some true):qZ K H (.ref a) (.ref C)
theorem jT{x:V}{t:Value}(I:Inv X dm U H s)(rx:Z6 x u)(ty:qZ X.K H x t)(e:W.kitOne X.K t c=some b)(h:∀tk,Q (.bool b) { s with toks:=tk }) :
  wpAny (model X.prog X.w) A (call (.builtin "isinstance") [u,c]) Q E s:=by
 cases ty with
 |non=>cases (show u=Value.none from rx);exact ir W.kitx_none I.kIn True.intro e (fun z=>nomatch z) h
 |bl y=>cases (show u=Value.bool y from rx);exact ir W.kitx_bool I.kIn True.intro e (fun z=>nomatch z) h
 |int i=>obtain⟨t,q⟩:=(show ∃t,u=Value.int i t from rx);cases q;exact ir W.kitx_int I.kIn True.intro e (fun z=>nomatch z) h
 |str y=>obtain⟨t,q⟩:=(show ∃t,u=Value.str y t from rx);cases q;exact ir W.kitx_str I.kIn True.intro e (fun z=>nomatch z) h
 |flt y=>obtain⟨t,q⟩:=(show ∃t,u=Value.float y t from rx);cases q;exact ir W.kitx_float I.kIn True.intro e (fun z=>nomatch z) h
 |@lst a xs ea=>
  cases (show u=Value.ref a from rx);obtain⟨_,_,n,_,h1⟩:=(show Y1 X.prog X.w H s.heap a (.lst xs) from I.hok a _ ea);exact ir W.kitx_list I.kIn ⟨_,h1,rfl⟩ e (fun z=>nomatch z) h
 |@frz a ob xs ea=>
  cases (show u=Value.ref a from rx);obtain⟨_,_,_,n,_,h1⟩:=(show Y1 X.prog X.w H s.heap a (.frz ob (.lst xs)) from I.hok a _ ea);exact ir W.kitx_list I.kIn ⟨_,h1,rfl⟩ e (fun z=>nomatch z) h
 |@tup a xs ea=>
  cases (show u=Value.ref a from rx);obtain⟨_,_,_,p⟩:=(show Y1 X.prog X.w H s.heap a (.tup xs) from I.hok a _ ea);obtain⟨o,h1,h2,_⟩:=p;exact ir W.kitx_tuple I.kIn ⟨o,h1,h2⟩ e (fun z=>nomatch z) h
 |@dK a kvs ea=>
  cases (show u=Value.ref a from rx);obtain⟨_,_,vs,_,p⟩:=(show Y1 X.prog X.w H s.heap a (.dK kvs) from I.hok a _ ea);obtain⟨o,es,ep,h1,h2,_⟩:=p;exact ir W.kitx_dict I.kIn ⟨o,h1,h2.1⟩ e (fun z=>nomatch z) h
 |@dT a kvs ea=>
  cases (show u=Value.ref a from rx);obtain⟨_,_,xs,_,o,es,ep,h1,h2,_⟩:=(show Y1 X.prog X.w H s.heap a (.dT kvs) from I.hok a _ ea);exact ir W.kitx_dict I.kIn ⟨o,h1,h2.1⟩ e (fun z=>nomatch z) h
 |@ins a C dx fs ea cl ha hn htk hm=>
  cases (show u=Value.ref a from rx);obtain⟨mA,O,_⟩:=xR I.hok ea;obtain⟨od,J,_⟩:=O.look;exact ir (W.kitx_own (cl.get _) cl.hd ha hn htk hm) I.kIn J e (fun z=>nomatch z) h
end
structure Y8(k:Nat)(A:Around):Prop where
 hd:A.handled=none
 dp:A.depth+3*k+5<recursionLimit
 un:A.units+16*k+200<cLine
def Y8.mono{k:Nat}(r:Y8 k A)(h:j<=k):Y8 j A:=⟨r.hd,by have:=r.dp;lia,by have:=r.un;lia⟩
def Y8.deeper{k:Nat}{A:Around}(r:Y8 (k+1) A)(env:Env):Y8 k (A.deeper env):=
 ⟨r.hd,by have:=r.dp;show A.depth+1+3*k+5<_;lia,by have:=r.un;show A.units+3+16*k+200<_;lia⟩
def QD:(A.under (.builtin "type.__call__" ⟨.ref C::us,kw⟩)).depth=A.depth+1:=by
 first|rfl|simp[Around.under,Code.weight,Code.isCreation,Code.isGuard,Code.isCaller,Code.frames,Code.isFrame,guardIds]
def Q6:(A.under (.builtin "type.__call__" ⟨.ref C::us,kw⟩)).units=A.units+1:=by
 first|rfl|simp[Around.under,Code.cUnits,Code.frames,Code.isFrame]
def Y8.make{k:Nat}(r:Y8 (k+1) A)(C:Addr)(us:List Value)(kw:List (Str×Value)):Y8 k (A.under (.builtin "type.__call__" ⟨.ref C::us,kw⟩)):=
 ⟨r.hd,by have:=r.dp;rw[QD];lia,by have:=r.un;rw[Q6];lia⟩
def Y8.depth{k:Nat}{A:Around}(r:Y8 k A):A.depth<recursionLimit:=by have:=r.dp;lia
def Y8.units{k:Nat}{A:Around}(r:Y8 k A):A.units+64<cLine:=by have:=r.un;lia
def Y8.units0{k:Nat}(r:Y8 k A):A.units<cLine:=by have:=r.un;lia
def Jz:TA:=fun _ H Q=>Q [] H
def xX(ta:TE)(tr:TA):TA:=fun U H Q=>ta U H fun x H1=>tr U H1 fun xs H2=>Q (x::xs) H2
section
variable{X:Cx}{e:Expr}{es:List Expr}{te:TE}{t:TA}{on:Pos}
theorem Zb:PA X [] Jz:=fun _ _ _ _ H Q I h=>Calls.spliced_nil ⟨[],H,I,.nil,h⟩
theorem Za(ha:PE X e te)(hr:PA X es t)(hs:starEach (e::es) X.env=(false,eval e X.env)::starEach es X.env:=by rfl):PA X (e::es) (xX te t):=by
 intro on dm s U H Q I h;rw[hs]
 show wpAny _ _ (spliced ((false,eval e X.env)::backTo on (starEach es X.env))) _ _ s
 refine Calls.spliced_cons (thn (ha dm s U H _ I h) fun u s1 ⟨x,H1,I1,r1,q1⟩=>?_);exact thn (hr on dm s1 U H1 _ I1 q1) fun us s2 ⟨xs,H2,I2,r2,q2⟩=>⟨x::xs,H2,I2,.cons r1 r2,q2⟩
inductive Zgf(xs:List V)(o:HO)(H:Hp)(Q:VK):Prop
 |mk (z:xs.length<=sizeLine) (k:∀p,H p=none->Q (.ref p) (upd H p o)):Zgf xs o H Q
def tTup(t:TA):TE:=fun U H Q=>t U H fun xs H1=>Zgf xs (.tup xs) H1 Q
def tLst(t:TA):TE:=fun U H Q=>t U H fun xs H1=>Zgf xs (.lst xs) H1 Q
theorem ZH{x1}(h:PA X es t):PE X (.Tuple es x1 on) (tTup t):=by
 intro dm s U H Q I hq;refine wpAny_Tuple_spliced (thn (h on dm s U H _ I hq) fun us s1 ⟨xs,H1,I1,r,z,q⟩=>⟨by rw[<- r.length];exact z,?_⟩);have hf:H1 s1.heap.objs.size=none:=I1.hok.fresh (fH _);refine⟨.ref s1.heap.objs.size,upd H1 s1.heap.objs.size (.tup xs),I1.laid (t':=s1.toks) (fun b u e=>fZ _ e) (fH _) ?_,rfl,q _ hf⟩;exact⟨z,us,r,⟨_,gB _ rfl,rfl,_,rfl⟩⟩
theorem Z7(h:PA X es t):PE X (.List es on) (tLst t):=by
 intro dm s U H Q I hq;refine wpAny_List_spliced (thn (h on dm s U H _ I hq) fun us s1 ⟨xs,H1,I1,r,z,q⟩=>⟨by rw[<- r.length];exact z,?_⟩);have hf:H1 s1.heap.objs.size=none:=I1.hok.fresh (fH _);refine⟨.ref s1.heap.objs.size,upd H1 s1.heap.objs.size (.lst xs),I1.laid (t':=s1.toks) (fun b u e=>fZ _ e) (fH _) ?_,rfl,q _ hf⟩;exact⟨z,us,0,r,gB _ rfl⟩
end
abbrev Sp:=List V->Hp->VK->XK->Prop
abbrev CXT:=List Env->Hp->Shared->XK->Value->Shared->Prop
structure QK(P:Program)(w:World)(K:W.Frag)(mg:Str->Option Value)(base:Heap)(A:Around)(outer:List Env)(s:Shared)(H:Hp):Prop where
 frames:A.frames=some outer
 mod:Mod K mg base
 bs:∀b o,base.get? b=some o->s.heap.get? b=some o/\H b=none
 bsz:base.objs.size<=s.heap.objs.size
 funs:s.heap.FunFrames base outer
 frf:∀b∈frs outer,H b=none
 hok:HOk P w H s.heap
 bare:AllBare s.gens
def CE(outer:List Env)(P:Program)(w:World)(H:Hp)(s:Shared)(Q:VK)(u:Value)(s':Shared):Prop:=
 ∃v H',s'.os=s.os/\AllBare s'.gens/\Un (frs outer) [] H H' s.heap s'.heap/\HOk P w H' s'.heap/\Z6 v u/\Q v H'
def CR(CX:CXT)(outer:List Env)(P:Program)(w:World)(H:Hp)(s:Shared)(Q:VK)(E:XK)(r:Result)(s':Shared):Prop:=
 match r with
 |.ok (.ret u)=>CE outer P w H s Q u s'
 |.ok _=>False
 |.error e=>CX outer H s E e s'
structure Uo(P:Program)(w:World)(K:W.Frag)(mg:Str->Option Value)(base:Heap)(CX:CXT)(k:Nat)(f:Addr)(fd:FuncData)(ps:List Str)(sp:Sp):Prop where
 len:∀vs H Q E,sp vs H Q E->vs.length=ps.length
 run:∀(A:Around) (outer:List Env) (s:Shared) (H:Hp) (args:Args) (us:List Value) (vs:List V) (Q:VK) (E:XK),Y8 k A->QK P w K mg base A outer s H->BindsTo s fd args (ps.zip us)->ZV vs us->sp vs H Q E ->
  codeAny (model P w) A (.call (.ref f) args) (CR CX outer P w H s Q E) s
def QK.make(e:QK P w K mg base A outer s H)(C:Addr)(us:List Value)(kw:List (Str×Value)) :
  QK P w K mg base (A.under (.builtin "type.__call__" ⟨.ref C::us,kw⟩)) outer s H:=⟨by first|exact e.frames|(simpa[Around.under,Code.envs,Code.isFrame,pushEnvs] using e.frames),e.mod,e.bs,e.bsz,e.funs,e.frf,e.hok,e.bare⟩
def Inv.env0(I:Inv X dm U H s):QK X.prog X.w X.K X.mg X.base X.A X.stack s H:=
 ⟨I.ok.frames,I.ok.mod,I.bs,gg I.ok.bsz I.sz,I.stack,I.stkFree,I.hok,I.bare⟩
def Inv.after{Q:VK}(I:Inv X dm U H s)(h:CE X.stack X.prog X.w H s Q u s'):EP X dm U Q u s':=by
 obtain⟨v,H',os,bare,un,hok,r,q⟩:=h;obtain⟨hh,g,d,t,TY⟩:=s';obtain rfl:TY=s.os:=os;exact⟨v,H',I.call (h':=hh) (g':=g) (d':=d) (t':=t) (ch:=[]) un hok bare (fun b z=>ot z (by simp)),r,q⟩
def J7(sp:Sp)(pf:List V)(E:XK)(t:TA):TE:=fun U H Q=>t U H fun vs H1=>sp (vs++pf) H1 Q E
inductive Zga(C:Addr)(m:Str)(x:V)(H:Hp)(B:Prop):Prop
 |mk (a dx:Addr) (fs:List (Str×V)) (h1:x=.ref a) (h2:H a=some (.ins C dx fs)) (h3:fs.lookup m=none) (k:B):Zga C m x H B
def ZfR(C:Addr)(m:Str)(sp:Sp)(pf:List V)(E:XK)(ta:TE)(t:TA):TE:=fun U H Q=>ta U H fun x H1=>Zga C m x H1 (t U H1 fun vs H2=>sp (x::(vs++pf)) H2 Q E)
def Zf3(C:Addr)(sp:Sp)(pf:List V)(E:XK)(t:TA):TE:=fun U H Q=>t U H fun vs H1=>∀x dx,H1 x=none->H1 dx=none->dx≠x ->
 sp (.ref x::(vs++pf)) (upd (upd H1 dx (.own x)) x (.ins C dx [])) (fun v H2=>v=.non/\Q (.ref x) H2) E
def Um(K:W.Frag)(fd:FuncData)(ps:List Str)(ds:List Value):Prop:=
 ∀(s:Shared) (us:List Value),K.In s.heap->(us++ds).length=ps.length->BindsTo s fd ⟨us,[]⟩ (ps.zip (us++ds))
def Um.all{ps:List Str}(h:∀us:List Value,us.length=ps.length->bindArgs fd ⟨us,[]⟩=pure (ps.zip us)):Um K fd ps []:=fun s us _ hl=>by
 rw[iu] at hl ⊢;exact .of_eq (h us hl)
def Uz(CX:CXT)(X:Cx)(E:XK):Prop:=∀(dm:List (Addr×Obj)) (U:St) (H:Hp) (s:Shared) (e:Value) (s':Shared),Inv X dm U H s->CX X.stack H s E e s'->X.xe e s'
section
variable{CX:CXT}{k:Nat}{f:Addr}{ps:List Str}{sp:Sp}{pf:List V}{ds:List Value}{E:XK}{x m:Str}{p apos:Pos}{o:Expr}{ta:TE}{t:TA}
theorem Jk{Q:VK}(F:Uo X.prog X.w X.K X.mg X.base CX k f fd ps sp)(hr:Y8 k X.A)(hb:Um X.K fd ps ds)(hd:ZV pf ds)(hx:Uz CX X E)
  (I:Inv X dm U H s) (r:ZV vs us) (h:sp (vs++pf) H Q E):wpAny (model X.prog X.w) X.A (call (.ref f) us) (EP X dm U Q) X.xe s:=by
 have r2:ZV (vs++pf) (us++ds):=r.append hd;have hl:(us++ds).length=ps.length:=by rw[<- r2.length];exact F.len _ _ _ _ h
 refine wpAny_call (lY (F.run X.A X.stack s H ⟨us,[]⟩ (us++ds) (vs++pf) Q E hr I.env0 (hb s us I.kIn hl) r2 h) fun r s' hq=>?_);cases r with
 |error e=>exact hx dm U H s e s' I hq
 |ok fl=>
  cases fl with
  |ret u=>exact I.after hq
  |next=>exact False.elim hq
  |brk=>exact False.elim hq
  |cont=>exact False.elim hq
theorem XY(F:Uo X.prog X.w X.K X.mg X.base CX k f fd ps sp)(hr:Y8 k X.A)(hg:Gl X x)(hm:X.mg x=some (.ref f))(hk:W.keepIn X.K (.ref f)=true)(hb:Um X.K fd ps ds)(hd:ZV pf ds)(hx:Uz CX X E)
  (ha:PA X (e::es) t) (sf:(x==("__debug__" : Str))=false:=by left) (he:starEach (e::es) X.env=(false,eval e X.env)::starEach es X.env:=by rfl) (pH:(backTo on (starEach es X.env)).any (·.1)=false:=by rfl) :
  PE X (.Call (.Name x p) (e::es) [] on) (J7 sp pf E t):=by
 intro dm s U H Q I h;refine iE (xO I hg hm ?_ sf);refine m8 (h₀:=X.base) I.ok.mod.kin hk (thn (ha on dm s U H _ I h) fun us s1 ⟨vs,H1,I1,r,q⟩=>⟨I1.kIn,?_⟩) he pH;exact Jk F hr hb hd hx I1 r q
theorem YD(he:PE X o ta)(c:Cls X.K C)(hm:ZeN X.K C m f)(F:Uo X.prog X.w X.K X.mg X.base CX k f fd ps sp)(hr:Y8 k X.A)(hb:Um X.K fd ps ds)(hd:ZV pf ds)(hx:Uz CX X E)(ha:PA X (e::es) t)
  (oz:starEach (e::es) X.env=(false,eval e X.env)::starEach es X.env:=by rfl) (pH:(backTo on (starEach es X.env)).any (·.1)=false:=by rfl)
  (ht:eval (.Call (.Attribute o m apos) (e::es) [] on) X.env=(do
   let ov <- eval o X.env
   standAt apos.atName
   let (f,first) <- holding [ov] (getMethod ov m pl)
   callWith on f first (backTo on (starEach (e::es) X.env)) (backToKw on (keywordEach [] X.env))):=by rfl) :
  PE X (.Call (.Attribute o m apos) (e::es) [] on) (ZfR C m sp pf E ta t):=by
 intro dm s U H Q I h;refine W.methodCall_KW (pl:=pl) (thn (he dm s U H _ I h) fun u s1 ⟨x,H1,I1,rx,a,dx,fs,ex,ea,l,q⟩=>?_) ht;subst ex;obtain rfl:u=Value.ref a:=rx;refine xU I1 ea c hm l ?_;refine m8 (first:=[.ref a]) (h₀:=X.base) I.ok.mod.kin hm.kp (thn (ha on dm s1 U H1 _ I1 q) fun us s2 ⟨vs,H2,I2,r,q2⟩=>⟨I2.kIn,?_⟩) oz pH;exact Jk (us:=.ref a::us) (vs:=.ref a::vs) F hr hb hd hx I2 (.cons rfl r) q2
theorem jq(he:PE X o ta)(c:Cls X.K C)(hm:ZeN X.K C m f)(F:Uo X.prog X.w X.K X.mg X.base CX k f fd ps sp)(hr:Y8 k X.A)(hb:Um X.K fd ps ds)(hd:ZV pf ds)(hx:Uz CX X E)
  (ht:eval (.Call (.Attribute o m apos) [] [] on) X.env=(do
   let ov <- eval o X.env
   standAt apos.atName
   let (f,first) <- holding [ov] (getMethod ov m pl)
   callWith on f first (backTo on (starEach [] X.env)) (backToKw on (keywordEach [] X.env))):=by rfl) :
  PE X (.Call (.Attribute o m apos) [] [] on) (ZfR C m sp pf E ta Jz):=by
 intro dm s U H Q I h;refine W.methodCall_KW (pl:=pl) (thn (he dm s U H _ I h) fun u s1 ⟨x,H1,I1,rx,a,dx,fs,ex,ea,l,q⟩=>?_) ht;subst ex;obtain rfl:u=Value.ref a:=rx;refine xU I1 ea c hm l ?_;exact W.callWith_K0 (first:=[.ref a]) I1.kIn hm.kp (Jk (us:=[.ref a]) (vs:=[.ref a]) F hr hb hd hx I1 (.cons rfl .nil) q)
structure Mk(K:W.Frag)(C f:Addr):Prop where
 makes:W.makesIn K C=true
 init:W.findIn K (.ref C) "__init__" = some (some (.ref f))
 fn:W.isFn K (.ref f)=true
 kp:W.keepIn K (.ref C)=true
theorem Kv{Q:VK}(M:Mk X.K C f)(F:Uo X.prog X.w X.K X.mg X.base CX k f fd ps sp)(hr:Y8 (k+1) X.A)(hb:Um X.K fd ps ds)(hd:ZV pf ds)
  (hx:Uz CX X E) (I:Inv X dm U H s) (r:ZV vs us)
  (h:∀x dx,H x=none->H dx=none->dx≠x->sp (.ref x::(vs++pf)) (upd (upd H dx (.own x)) x (.ins C dx [])) (fun v H2=>v=.non/\Q (.ref x) H2) E) :
  wpAny (model X.prog X.w) X.A (call (.ref C) us) (EP X dm U Q) X.xe s:=by
 have hq:=h (s.heap.objs.size+1) s.heap.objs.size (I.hok.fresh (lZ _)) (I.hok.fresh (fH _)) (gb (Μ _));have I2:=Inv.made (C:=C) I;have r2:ZV (V.ref (s.heap.objs.size+1)::(vs++pf)) (Value.ref (s.heap.objs.size+1)::(us++ds)):=.cons rfl (r.append hd);have hl:(Value.ref (s.heap.objs.size+1)::us++ds).length=ps.length:=by
  have e:=r2.length;rw[F.len _ _ _ _ hq] at e;exact e.symm
 refine wpAny_call (ZcL (f:=f) I.kIn M.makes M.init (lp.mp M.fn) (lY (F.run _ X.stack _ _ ⟨Value.ref (s.heap.objs.size+1)::us,[]⟩ (Value.ref (s.heap.objs.size+1)::(us++ds)) _ _ E (hr.make C us []) (I2.env0.make C us []) (hb _ (Value.ref (s.heap.objs.size+1)::us) I2.kIn hl) r2 hq) fun r s' uq=>?_))
 cases r with
 |error e=>exact hx dm U _ _ e s' I2 uq
 |ok fl=>
  cases fl with
  |ret u=>
   obtain⟨v,H',I3,rv,ev,q3⟩:=I2.after uq;subst ev;exact⟨rv,⟨V.ref (s.heap.objs.size+1),H',I3,rfl,q3⟩⟩
  |next=>exact False.elim uq
  |brk=>exact False.elim uq
  |cont=>exact False.elim uq
theorem Zfg(M:Mk X.K C f)(F:Uo X.prog X.w X.K X.mg X.base CX k f fd ps sp)(hr:Y8 (k+1) X.A)(hg:Gl X x)(hm:X.mg x=some (.ref C))(hb:Um X.K fd ps ds)(hd:ZV pf ds)(hx:Uz CX X E)
  (ha:PA X (e::es) t) (sf:(x==("__debug__" : Str))=false:=by left) (he:starEach (e::es) X.env=(false,eval e X.env)::starEach es X.env:=by rfl) (pH:(backTo on (starEach es X.env)).any (·.1)=false:=by rfl) :
  PE X (.Call (.Name x p) (e::es) [] on) (Zf3 C sp pf E t):=by
 intro dm s U H Q I h;refine iE (xO I hg hm ?_ sf);refine m8 (h₀:=X.base) I.ok.mod.kin M.kp (thn (ha on dm s U H _ I h) fun us s1 ⟨vs,H1,I1,r,q⟩=>⟨I1.kIn,?_⟩) he pH;exact Kv M F hr hb hd hx I1 r q
theorem zU(M:Mk X.K C f)(F:Uo X.prog X.w X.K X.mg X.base CX k f fd ps sp)(hr:Y8 (k+1) X.A)(hg:Gl X x)(hm:X.mg x=some (.ref C))(hb:Um X.K fd ps ds)(hd:ZV pf ds)(hx:Uz CX X E)
  (sf:(x==("__debug__" : Str))=false:=by left):PE X (.Call (.Name x p) [] [] on) (Zf3 C sp pf E Jz):=by
 intro dm s U H Q I h;refine iE (xO I hg hm ?_ sf);exact W.callWith_K0 I.kIn M.kp (Kv (us:=[]) M F hr hb hd hx I .nil h)
end
section
variable{CX:CXT}{k:Nat}{f:Addr}{ps ks:List Str}{sp:Sp}{E:XK}{x m:Str}{p apos Ep:Pos}{o:Expr}{kws:List Keyword}{ta:TE}{t tk:TA}{nm:Option Str}
variable{g:List Value->List Value->List Value}{gV:List V->List V->List V}
end
structure Zt(N P:List Str)(sc:Scope):Prop where
 kind:sc.kind=.function
 co:sc.isCoroutine=false
 gen:sc.isGenerator=false
 nd:N.Nodup
 pre:N.take P.length=P
 par:∀x∈P,sc.names.lookup x=some .local\/sc.names.lookup x=some .cell
 nofree:∀y∈sc.names,y.2≠.free
def kO{kindOf:Str->Option NameKind}{x:Str}:∀{binds:List (Str×Value)}{m:Str->Option Value},(∀v,(x,v)∉binds)->bindL kindOf binds m x=m x
 |[],_,_=>rfl
 | (n,v)::r,m,h=>by
  unfold bindL;rw[kO fun w hw=>h w (fT _ hw)]
  split
  ·have:x≠n:=by rintro rfl;exact h v iL
   simp[this]
  ·rfl
def ka{kindOf:Str->Option NameKind}{x:Str}:∀{binds:List (Str×Value)}{m:Str->Option Value},(∀v,(x,v)∉binds)->bindC kindOf binds m x=m x
 |[],_,_=>rfl
 | (n,v)::r,m,h=>by
  unfold bindC;rw[ka fun w hw=>h w (fT _ hw)]
  split
  ·rfl
  ·have:x≠n:=by rintro rfl;exact h v iL
   simp[this]
def kG{kindOf:Str->Option NameKind}{x:Str}{v:Value}:∀{P:List Str}{vs:List Value}{i:Nat}{m:Str->Option Value},P.Nodup->P[i]?=some x->vs[i]?=some v->kindOf x=some .local ->
  bindL kindOf (P.zip vs) m x=some v
 |[],_,_,_,_,h,_,_=>by simp at h
 |_::_,[],_,_,_,_,h,_=>by simp at h
 |p::P,w::vs,0,m,nd,h1,h2,hk=>by
  simp at h1 h2;subst h1;subst h2
  show bindL kindOf ((p,w)::P.zip vs) m p=_
  unfold bindL;rw[kO fun v hv=>(iw.mp nd).1 (lA hv).1,oq hk];simp
 |p::P,w::vs,i+1,m,nd,h1,h2,hk=>by
  show bindL kindOf ((p,w)::P.zip vs) m x=_
  unfold bindL;exact kG (i:=i) (iw.mp nd).2 (by simpa using h1) (by simpa using h2) hk
def kH{kindOf:Str->Option NameKind}{x:Str}{v:Value}:∀{P:List Str}{vs:List Value}{i:Nat}{m:Str->Option Value},P.Nodup->P[i]?=some x->vs[i]?=some v->kindOf x≠some .local ->
  bindC kindOf (P.zip vs) m x=some v
 |[],_,_,_,_,h,_,_=>by simp at h
 |_::_,[],_,_,_,_,h,_=>by simp at h
 |p::P,w::vs,0,m,nd,h1,h2,hk=>by
  simp at h1 h2;subst h1;subst h2
  show bindC kindOf ((p,w)::P.zip vs) m p=_
  unfold bindC;rw[ka fun v hv=>(iw.mp nd).1 (lA hv).1,oo hk];simp
 |p::P,w::vs,i+1,m,nd,h1,h2,hk=>by
  show bindC kindOf ((p,w)::P.zip vs) m x=_
  unfold bindC;exact kH (i:=i) (iw.mp nd).2 (by simpa using h1) (by simpa using h2) hk
def zi(N:List Str)(vs:List V):St:=vs.map some++List.replicate (N.length-vs.length) none
def Qq(CX:CXT)(P:Program)(w:World)(K:W.Frag)(mg:Str->Option Value)(base:Heap)(N:List Str)(qual:Str)(scope:Scope)(f:Addr)(cd:Value)(A:Around)(outer:List Env)(s:Shared)(H:Hp)(E:XK):Cx where
 prog:=P
 w:=w
 K:=K
 mg:=mg
 base:=base
 A:=A.deeper (envOfC qual scope s.heap.objs.size f cd)
 N:=N
 s₀:=s
 H₀:=H
 env:=envOfC qual scope s.heap.objs.size f cd
 outer:=outer
 stack:=envOfC qual scope s.heap.objs.size f cd::outer
 ex:=[]
 calm:=true
 fn:=fun _=>true
 pn:=[]
 xe:=fun e s'=>wpAny (model P w) (A.deeper (envOfC qual scope s.heap.objs.size f cd)) (leaving (envOfC qual scope s.heap.objs.size f cd) e) (fun _ EG=>CX outer H s E e EG) (fun e' EG=>CX outer H s E e' EG) s'
def K4{x:Str}(h:sc.names.lookup x=some .cell):∃c,(cellsFrom n sc.names []).lookup x=some c:=by
 have q:=W.cellsFrom_some sc.names n [] (.inl h);exact m9.mp q
def Zbt{CX:CXT}{ps:List Str}{f:Addr}{cd:Value}{s1:Shared}{E:XK}
  (S:Zt N ps scope) (hd:A.handled=none) (e0:QK P w K mg base A outer s H) (hl:vs.length=ps.length) (r:ZV vs us)
  (x:InCallC s s.heap.objs.size (bindL (envOfC qual scope s.heap.objs.size f cd).kindOf (ps.zip us) fun _=>none) (cellsFrom (s.heap.objs.size+1) scope.names []) (bindC (envOfC qual scope s.heap.objs.size f cd).kindOf (ps.zip us) fun _=>none) s1) :
  Inv (Qq CX P w K mg base N qual scope f cd A outer s H E) [] (zi N vs) H s1:=by
 have pH:ps.length<=N.length:=by have:=fS θ S.pre;rw[fN] at this;lia
 obtain⟨h1,tk,rfl,hk⟩:=x.done;have CN:∀b:Addr,b∉(Qq CX P w K mg base N qual scope f cd A outer s H E).ex:=fun b z=>ot (show b∈([]:List Addr) from z) (by simp);refine⟨⟨e0.mod,S.kind,rfl,rfl,fH _,fun y z c h1 h2=>?_,fun y hy=>?_,fun y c _ h=>?_,fun _=>hd,Around.frames_deeper e0.frames,.inr ⟨rfl,rfl⟩,fun b z=>ot z (CN b),e0.bs,e0.bsz,fun b _ _=>CN b,fun b z=>ot z (CN b),e0.funs,e0.frf⟩,rfl,e0.bare,Un.kept hk,⟨_,x.toInCall.ns,fun i y v h1 h2 h3=>?_⟩,fun y c h=>⟨_,x.cell y c h⟩,e0.hok.fresh (fH _),fun y c h=>?_,fun p hp=>ot (show p∈([]:List (Addr×Obj)) from hp) (by simp),e0.hok.kept hk,?_⟩
 ·exact name_of_addr x.apart (iy h1) (iy h2)
 ·have hy:scope.names.lookup y=some .cell\/scope.names.lookup y=some .free:=hy;rcases hy with hy|hy
  ·exact K4 hy
  ·exact ot rfl (S.nofree _ (iy hy))
 ·exact iD (x.above y c (iy h))
 ·have hi:i<vs.length:=by
   unfold zi at h2
   by_cases hi:i<vs.length
   ·exact hi
   ·rw[gx (by simpa using hi)] at h2;rw[List.getElem?_replicate] at h2
    split at h2<;>cases h2
  have ha:vs[i]?=some v:=by
   unfold zi at h2;rw[gv (by simpa using hi),fO] at h2;cases e:vs[i]? with
   |none=>rw[e] at h2;cases h2
   |some a=>rw[e] at h2;cases h2;rfl
  obtain⟨u,hu,rv⟩:=r.get ha;have hp:ps[i]?=some y:=by
   rw[<- S.pre,lB (by lia)];exact h1
  have Ix:ps.Nodup:=by rw[<- S.pre];exact S.nd.sublist (Γ _ _)
  refine⟨u,rv,?_⟩;rcases S.par y (gk hp) with k|k
  ·exact .inl ⟨k,kG Ix hp hu k⟩
  ·obtain⟨c,e⟩:=K4 (n:=s.heap.objs.size+1) k;refine .inr ⟨.inl k,c,e,?_⟩;have q:=x.cell y c e;rw[kH Ix hp hu (by show scope.names.lookup y≠_;rw[k];decide)] at q;exact q
 ·exact e0.hok.fresh (iD (x.above y c (iy h)))
 ·unfold zi
  show _=N.length
  rw[fK,fF,List.length_replicate];lia
def Zhk{CX:CXT}{k:Nat}{f:Addr}{name:Str}{dV kV doc pm dn ct oc:Value}
  {ps:List Str}{sp:Sp} (lk:K.lookup f=some ⟨oc,od,.func (W.fnOf name qual tj oK scope dV kV doc pm an dn ct),osl⟩) (tV:W.codeIn K dn qual=true) (S:Zt N ps scope)
  (len:∀vs H Q E,sp vs H Q E->vs.length=ps.length)
  (pi:∀(A:Around) (outer:List Env) (s:Shared) (H:Hp) (vs:List V) (Q:VK) (E:XK),Y8 k (A.deeper (envOfC qual scope s.heap.objs.size f dn))->sp vs H Q E -> ∃t,PSs (Qq CX P w K mg base N qual scope f dn A outer s H E) oK t/\t { nx:=fun _ H'=>Q .non H',rt:=Q } (zi N vs) H) :
  Uo P w K mg base CX (k+1) f (W.fnOf name qual tj oK scope dV kV doc pm an dn ct) ps sp:=by
 refine⟨len,fun A outer s H args us vs Q E hr e0 hb r wf=>?_⟩;have hl:=len _ _ _ _ wf;have KX:K.In s.heap:=e0.mod.kin.keeps fun b o e=>(e0.bs b o e).1;have lim:s.heap.NoLimit:=e0.mod.nolimit.keeps fun b o e=>(e0.bs b o e).1;have CA:∀y∈ps.zip us,scope.names.lookup y.1=some .local\/(scope.names.lookup y.1=some .cell/\((cellsFrom (s.heap.objs.size+1) scope.names []).lookup y.1).isSome=true):=fun⟨n,v⟩ hy=>by
  rcases S.par n (lA hy).1 with q|q
  ·exact .inl q
  ·exact .inr ⟨q,W.cellsFrom_some _ _ _ (.inl q)⟩
 refine codeAny_call_function hr.depth (KX _ _ lk) rfl S.co S.gen rfl (W.codeRec_of KX tV) (hb _ _ _ _ ?_);refine wpAny_newFunctionEnv_cells S.kind CA fun env he s1 x=>?_;subst he;refine⟨lim.keeps x.toInCall.keep,codeAny_func ?_⟩;obtain⟨t,ht,hq⟩:=pi A outer s H vs Q E (hr.deeper _) wf;have I:Inv (Qq CX P w K mg base N qual scope f dn A outer s H E) [] (zi N vs) H s1:=Zbt S hr.hd e0 hl r x;refine lc (ht [] s1 (zi N vs) H _ I hq) (fun fl s' hs=>?_) fun e s' hs=>hs;have oy:∀{σ':St}{H':Hp}{v:V}{u:Value},Inv (Qq CX P w K mg base N qual scope f dn A outer s H E) [] σ' H' s'->Z6 v u->Q v H'->CE outer P w H s Q u s':=
  fun {σ' H' v u} J rv q=>⟨v,H',J.os,J.bare,J.base,J.hok,rv,q⟩
 cases fl with
 |ret u=>
  obtain⟨v,σ',H',J,rv,q⟩:=hs;exact oy J rv q
 |next=>
  obtain⟨σ',H',J,q⟩:=hs;exact oy (v:=V.non) (u:=Value.none) J rfl q
 |brk=>
  obtain⟨_,_,_,q⟩:=hs;exact False.elim q
 |cont=>
  obtain⟨_,_,_,q⟩:=hs;exact False.elim q
end L2
variable{sp:L2.Sp}{CX:L2.CXT}{Fam:PySem.Addr->L2.Sp->Prop}
namespace L2
open PySem PySem.Spec PyProof.Rows
section
variable{x:Str}{p:Pos}{t:TA}{id:String}{r:List V->Hp->VK->Prop}
def tCB(r:List V->Hp->VK->Prop)(t:TA):TE:=fun U H Q=>t U H fun vs H1=>r vs H1 Q
theorem Zp(hc:YR X (.builtin id) r)(hg:Gl X x)(hm:X.mg x=none)(hv:bootBuiltins x=some (.builtin id))(ha:PA X (e::es) t)(hn:x ≠ "__name__" := by left)(sf:(x==("__debug__" : Str))=false:=by left)
  (he:starEach (e::es) X.env=(false,eval e X.env)::starEach es X.env:=by rfl) (pH:(backTo on (starEach es X.env)).any (·.1)=false:=by rfl):PE X (.Call (.Name x p) (e::es) [] on) (tCB r t):=by
 intro dm s U H Q I h;refine iE (UN I hg hm hv ?_ hn sf);exact PyProof.Rows.callWith_builtin1 (thn (ha on dm s U H _ I h) fun us s1 ⟨vs,H1,I1,r1,q1⟩=>hc dm s1 U H1 vs us Q I1 r1 q1) he pH
theorem ZI(hc:YR X (.type T) r)(hg:Gl X x)(hm:X.mg x=none)(hv:bootBuiltins x=some (.type T))(ha:PA X (e::es) t)(hn:x ≠ "__name__" := by left)(sf:(x==("__debug__" : Str))=false:=by left)
  (he:starEach (e::es) X.env=(false,eval e X.env)::starEach es X.env:=by rfl) (pH:(backTo on (starEach es X.env)).any (·.1)=false:=by rfl):PE X (.Call (.Name x p) (e::es) [] on) (tCB r t):=by
 intro dm s U H Q I h;refine iE (UN I hg hm hv ?_ hn sf);exact mE (thn (ha on dm s U H _ I h) fun us s1 ⟨vs,H1,I1,r1,q1⟩=>hc dm s1 U H1 vs us Q I1 r1 q1) he pH
theorem QU(hc:YR X (.type T) r)(hg:Gl X x)(hm:X.mg x=none)(hv:bootBuiltins x=some (.type T))(hn:x ≠ "__name__" := by left)(sf:(x==("__debug__" : Str))=false:=by left) :
  PE X (.Call (.Name x p) [] [] on) (tCB r Jz):=by
 intro dm s U H Q I h;refine iE (UN I hg hm hv ?_ hn sf);exact PyProof.Rows.callWith_type0 (hc dm s U H [] [] Q I .nil h)
end
end L2
namespace HT
open PySem PyProof.Rows
section
open PySem.SeqAt
open PySem.AutoSeq1 (wpAny_loadPart')
open PySem.MeetsSeq PySem.MeetsSeq2 PySem.MeetsSeq3
end
def cat_tup{t b:Addr}{vs ws:List Value}(ht:IsTup s.heap t vs.toArray)(hb:IsTup s.heap b ws.toArray)(hv:vs≠[])
  (h1:ws=[]->Q (.ref t) s) (h2:ws≠[]->Q (.ref s.heap.objs.size) { s with heap:=s.heap.push { cls:=.type "tuple",data:=.seq (vs++ws).toArray } })
  (hsz:vs.length+ws.length<=sizeLine):wpAny (model prog w) A (binaryOp .Add (.ref t) (.ref b)) Q E s:=by
 obtain⟨⟨cls,dd,data,sl⟩,ho,hc,n,hd⟩:=id ht;obtain⟨⟨SA,Nx,data2,Ho⟩,pC,sP,n2,uU⟩:=id hb;simp only at hc hd sP uU;subst hc hd sP uU;have e:vs.toArray++ws.toArray=(vs++ws).toArray:=by simp
 by_cases hw:ws=[]
 ·exact concat_meets ⟨_,ho,rfl⟩ ⟨_,pC,rfl⟩ noFill_tuple_add seq_tuple_add PySem.F.slot_tuple_add PySem.F.entry_tuple_add (PySem.F.args_tuple_add_2 _ _)
   (tuple_addW1 t b vs.toArray ws.toArray n n2 dd Nx sl Ho (by simpa using hv) (by simp[hw])) ⟨ho,pC,h1 hw⟩
 ·refine concat_meets ⟨_,ho,rfl⟩ ⟨_,pC,rfl⟩ noFill_tuple_add seq_tuple_add PySem.F.slot_tuple_add PySem.F.entry_tuple_add (PySem.F.args_tuple_add_2 _ _)
   (tuple_addW2 t b vs.toArray ws.toArray n n2 dd Nx sl Ho (by simpa using hv) (by simpa using hw) (by rw[gf,gf];exact hsz)) ⟨ho,pC,?_⟩
  rw[e];exact h2 hw
def sIx(n d:Nat):Option Int->Nat
 |none=>d
 |some v=>if v<0 then(v+(n:Int)).toNat else min v.toNat n
def sIx_none(n d:Nat):sIx n d none=d:=rfl
def sIx_nat(n d k:Nat):sIx n d (some (k:Int))=min k n:=by
 show(if(k:Int)<0 then((k:Int)+(n:Int)).toNat else min (k:Int).toNat n)=min k n
 rw[oo (by lia),hJ]
def Zgm(n d:Nat)(hd:d<=n)(o:Option Int):sIx n d o<=n:=by
 cases o with
 |none=>exact hd
 |some v=>
  show(if v<0 then(v+(n:Int)).toNat else min v.toNat n)<=n
  by_cases hv:v<0
  ·rw[oq hv];lia
  ·rw[oo hv];exact Nat.min_le_right _ _
def ZaJ(v:Int)(n d:Nat):(if v<0 then max (v+(n:Int)) 0 else min v (n:Int))=((sIx n d (some v):Nat):Int):=by
 show(if v<0 then max (v+(n:Int)) 0 else min v (n:Int))=(((if v<0 then(v+(n:Int)).toNat else min v.toNat n):Nat):Int)
 by_cases hv:v<0
 ·simp only[oq hv];lia
 ·simp only[oo hv];lia
def QN(lo hi:Option Int)(n:Nat):Builtin.Slice.sliceAdjust lo hi 1 (n:Int)=(((sIx n 0 lo:Nat):Int),((sIx n n hi:Nat):Int)):=by
 have h1:¬((1:Int)<0):=by lia
 unfold Builtin.Slice.sliceAdjust;simp only[h1,gK];refine Prod.ext ?_ ?_
 ·cases lo with
  |none=>rfl
  |some v=>exact ZaJ v n 0
 ·cases hi with
  |none=>rfl
  |some v=>exact ZaJ v n n
def Zak(i j:Nat):Builtin.Slice.slicePlaces (i:Int) (j:Int) 1=j-i:=by
 unfold Builtin.Slice.slicePlaces;have h1:(1:Int)>0:=by lia
 simp only[h1,iF,Int.ediv_one]
 split<;>lia
def vJ{v:Value}{o:Option Int}{Q:Option Int->Shared->Prop}(p:IsPart v o)(h:Q o s):wpAny (model prog w) A (Builtin.Slice.slicePartIndex v) Q E s:=by
 cases p with
 |none=>exact slicePart_none h
 |int i t=>exact slicePart_int h
def yR{vu:Value}{Q:Int×Int×Nat->Shared->Prop}(hs:s.heap.IsSliceOf sl vl vu .none)(pl:IsPart vl lo)(pu:IsPart vu hi)
  (h:Q (((sIx n 0 lo:Nat):Int),1,sIx n n hi-sIx n 0 lo) s):wpAny (model prog w) A (Builtin.Slice.sliceApplied (.ref sl) (pure (n:Int))) Q E s:=by
 obtain⟨os,ut,Bg,wd⟩:=id hs;unfold Builtin.Slice.sliceApplied Builtin.Slice.sliceFields;refine fE (fE (ik ut wd (x:=vl) rfl (fE (ik ut wd (x:=vu) rfl (fE (ik ut wd (x:=.none) rfl (fI ?_)))))));refine fE (slicePart_none ?_)
 show wpAny _ _ (if((1:Int)==0)=true then _ else _) _ _ s
 rw[oo (by left)];refine fE (vJ pl (fE (vJ pu (fE (fI ?_)))))
 show wpAny _ _ (match Builtin.Slice.sliceAdjust lo hi 1 (n:Int) with|(lo,hi)=>pure (lo,(1:Int),Builtin.Slice.slicePlaces lo hi 1)) _ _ s
 rw[QN lo hi n]
 show wpAny _ _ (pure (((sIx n 0 lo:Nat):Int),(1:Int),Builtin.Slice.slicePlaces ((sIx n 0 lo:Nat):Int) ((sIx n n hi:Nat):Int) 1)) _ _ s
 rw[Zak];exact fI h
def ZcB(xs:Array Value)(i k:Nat):((γ k).filterMap fun(m:Nat)=>xs[((i:Int)+(m:Int)*1).toNat]?).toArray=((xs.toList.drop i).take k).toArray:=by
 have e:(fun(m:Nat)=>xs[((i:Int)+(m:Int)*1).toNat]?)=fun m=>xs[i+m]?:=by
  funext m
  have:((i:Int)+(m:Int)*1).toNat=i+m:=by lia
  rw[this]
 rw[e];have:=pick_run xs i k;rw[List.filterMap_map] at this;have e2:((fun x=>xs[x]?)∘fun x=>i+x)=fun m=>xs[i+m]?:=rfl;rw[e2] at this;rw[this]
def getItem_tuple_cut{t:Addr}{vu:Value}(ht:IsTup s.heap t items)(hs:s.heap.IsSliceOf sl vl vu .none)(pl:IsPart vl lo)(pu:IsPart vu hi)
  (hw:¬(sIx items.size 0 lo=0/\sIx items.size items.size hi=items.size))
  (h:Q (.ref s.heap.objs.size) { s with heap:=s.heap.push { cls:=.type "tuple",data:=.seq ((items.toList.drop (sIx items.size 0 lo)).take (sIx items.size items.size hi-sIx items.size 0 lo)).toArray } })
  (hsz:items.size<=sizeLine):wpAny (model prog w) A (getItem (.ref t) (.ref sl)) Q E s:=by
 have sr:sizeOk (.seq ((items.toList.drop (sIx items.size 0 lo)).take (sIx items.size items.size hi-sIx items.size 0 lo)).toArray):=by
  show((items.toList.drop (sIx items.size 0 lo)).take (sIx items.size items.size hi-sIx items.size 0 lo)).toArray.size<=sizeLine
  rw[gf,fN,gQ,lg];lia
 have hj:sIx items.size items.size hi<=items.size:=Zgm _ _ (fH _) hi;obtain⟨os,ut,Bg,wd⟩:=id hs;have DU:s.TypeIs (.ref sl) "slice" := ⟨os,ut,Bg⟩;unfold getItem
 try with_reducible refine iq ?_
 first|refine fE (fI ?_)|skip
 refine fE (wpAny_sequenceKey ht.typeIs (by left) ?_);refine fE (ng (name:=Str.ofString "__getitem__") ht.typeIs nH (lE nH ht.typeIs entry_tuple_getitem ?_ (args_tuple_getitem _ _)))
 show wpAny _ _ (Builtin.Tuple.tupleItemsOf (.ref t) >>= _) _ _ s
 refine fE (tupleItemsOf_ ht ?_);refine fE (wpAny_typeOf DU ?_);rw[oq (by left)];refine fE (yR hs pl pu ?_);have hno:¬((((sIx items.size 0 lo:Nat):Int)==0&&(1:Int)==1&&(sIx items.size items.size hi-sIx items.size 0 lo)==items.size)=true):=by
  intro q;rw[gM,gM] at q;have q1:((sIx items.size 0 lo:Nat):Int)=0:=eq_of_beq q.1.1;have q2:sIx items.size items.size hi-sIx items.size 0 lo=items.size:=eq_of_beq q.2;exact hw ⟨by lia,by lia⟩
 show wpAny _ _ (if(((sIx items.size 0 lo:Nat):Int)==0&&(1:Int)==1&&(sIx items.size items.size hi-sIx items.size 0 lo)==items.size)=true then _ else _) _ _ s
 rw[oo hno,ZcB]
 first
  |exact fE (m:=Builtin.Tuple.tupleExact _) (iG (fI ⟨_,rfl,fI h⟩) sr)
  |exact fE (m:=Builtin.Tuple.tupleExact _) (iG (fE (fI (fI ⟨_,rfl,fI h⟩))) sr)
  |exact fE (fE (m:=Builtin.Tuple.tupleExact _) (iG (fI (fI ⟨_,rfl,fI h⟩)) sr))
  |exact fE (fE (m:=Builtin.Tuple.tupleExact _) (iG (fI ⟨_,rfl,fI h⟩) sr))
end HT
namespace L2
open PySem PySem.Spec PyProof.Rows
abbrev TO:=St->Hp->(Option Int->Hp->Prop)->Prop
def PO(X:Cx)(e:Option Expr)(t:TO):Prop:=
 ∀(dm:List (Addr×Obj)) (s:Shared) (U:St) (H:Hp) (Q:Option Int->Hp->Prop),Inv X dm U H s->t U H Q ->
  wpAny (model X.prog X.w) X.A (evalPart e X.env) (fun u s'=>∃o H',Inv X dm U H' s'/\IsPart u o/\Q o H') X.xe s
def ZfK:TO:=fun _ H Q=>Q none H
inductive Zf2(x:V)(H:Hp)(Q:Option Int->Hp->Prop):Prop
 |mk (i:Int) (h:x=.int i) (k:Q (some i) H):Zf2 x H Q
def Zie(t:TE):TO:=fun U H Q=>t U H fun x H1=>Zf2 x H1 Q
def zy:∀{us:List Value},ZV (ns.map V.int) us->IntsAre us ns:=by
 induction ns with
 |nil=>intro us r;rw[gm] at r;cases r;exact .nil
 |cons n ns ih=>
  intro us r;rw[fL] at r;cases r with
  |cons r1 r2=>
   obtain⟨t,e⟩:=r1;subst e;exact .cons n t (ih r2)
section
variable{lo hi:Option Expr}{tl th:TO}{p2:Pos}
theorem Yr:PO X none ZfK:=by
 intro dm s U H Q I h;rw[evalPart_none];exact fI ⟨none,H,I,.none,h⟩
theorem Z4(h:PE X e te):PO X (some e) (Zie te):=by
 intro dm s U H Q I hw;rw[evalPart_some];refine thn (h dm s U H _ I hw) fun u s1 ⟨x,H1,I1,r1,q1⟩=>?_;obtain⟨i,rfl,q⟩:=q1;obtain⟨t,rfl⟩:=r1;exact⟨some i,H1,I1,.int i t,q⟩
def SlR(X:Cx)(r:V->Option Int->Option Int->Hp->VK->Prop):Prop:=
 ∀(dm:List (Addr×Obj)) (s:Shared) (U:St) (H:Hp) (x:V) (v vl vu:Value) (lo hi:Option Int) (sl:Addr) (Q:VK),Inv X dm U H s->Z6 x v->s.heap.IsSliceOf sl vl vu .none->IsPart vl lo->IsPart vu hi->r x lo hi H Q ->
  ∃T id,typeLookup (.type T) "__getitem__" = pure (some (.builtin id))/\s.TypeIs v T/\wpAny (model X.prog X.w) X.A (getItem v (.ref sl)) (EP X dm U Q) X.xe s
def tSl(r:V->Option Int->Option Int->Hp->VK->Prop)(te:TE)(tl th:TO):TE:=fun U H Q=>te U H fun x H1=>tl U H1 fun l H2=>th U H2 fun u H3=>r x l u H3 Q
theorem Z1{r:V->Option Int->Option Int->Hp->VK->Prop}(hr:SlR X r)(he:PE X e te)(hl:PO X lo tl)(hu:PO X hi th):PE X (.Subscript e (.Slice lo hi none p2) on) (tSl r te tl th):=by
 intro dm s U H Q I h;refine Subscript_ (thn (he dm s U H _ I h) fun v s1 ⟨x,H1,I1,r1,q1⟩=>?_);refine wpAny_Slice (thn (hl dm s1 U H1 _ I1 q1) fun vl s2 ⟨l,H2,I2,pl,q2⟩=>thn (hu dm s2 U H2 _ I2 q2) fun vu s3 ⟨u,H3,I3,pu,q3⟩=>?_);rw[evalPart_none];refine fI ?_;have I4:Inv X dm U H3 { s3 with heap:=s3.heap.push { cls:=.type "slice",data:=.fields #[vl,vu,.none] } }:=I3.kept (t':=s3.toks) fun b ob q=>fZ _ q;obtain⟨T,id,hT,ht,hg⟩:=hr dm { s3 with heap:=s3.heap.push { cls:=.type "slice",data:=.fields #[vl,vu,.none] } } U H3 x v vl vu l u s3.heap.objs.size Q I4 r1 (Heap.IsSliceOf.new ..) pl pu q3
 show wpAny (model X.prog X.w) X.A (subscriptTail e (.Slice lo hi none p2) v (.ref s3.heap.objs.size)) (EP X dm U Q) X.xe { s3 with heap:=s3.heap.push { cls:=.type "slice",data:=.fields #[vl,vu,.none] } }
 exact tail_any (ops:=[.ref s3.heap.objs.size,v]) ht hT hg (by with_unfolding_all rfl)
def Xc(xs:List V)(lo hi:Option Int):List V:=(xs.drop (HT.sIx xs.length 0 lo)).take (HT.sIx xs.length xs.length hi-HT.sIx xs.length 0 lo)
theorem xy(xs:List V)(lo hi:Option Int):(Xc xs lo hi).length<=xs.length:=by
 unfold Xc;rw[fN,gQ];lia
inductive Zdp(K:W.Frag)(x:V)(lo:Option Int)(hi:Option Int)(H:Hp)(Q:VK):Prop
 |mk (a:_) (xs:_) (h0:x=.ref a) (h1:SqT K H a xs) (h2:¬(HT.sIx xs.length 0 lo=0/\HT.sIx xs.length xs.length hi=xs.length)) (h3:∀p,H p=none->Q (.ref p) (upd H p (.tup (Xc xs lo hi)))):Zdp K x lo hi H Q
def ZhN(K:W.Frag):V->Option Int->Option Int->Hp->VK->Prop:=fun x lo hi H Q=>Zdp K x lo hi H Q
theorem Zg5:SlR X (ZhN X.K):=by
 intro dm s U H x v vl vu lo hi sl Q I rx hs pl pu h;obtain⟨a,xs,rfl,hx,hw,q⟩:=h;cases rx;obtain⟨its,r,ht,hz⟩:=I.tuple hx;have ou:its.toArray.size=xs.length:=by rw[gf];exact r.length.symm
 refine⟨"tuple",_,nH.lookup,ht.typeIs,?_⟩;refine HT.getItem_tuple_cut ht hs pl pu (by rw[ou];exact hw) ?_ (by rw[ou];exact hz);rw[ou];refine⟨.ref s.heap.objs.size,_,I.laid (t':=s.toks) (o:=.tup (Xc xs lo hi)) (fun b ob q=>fZ _ q) (fH _) ?_,rfl,q _ (I.hok.fresh (fH _))⟩;exact⟨gg (xy xs lo hi) hz,_,(r.drop (HT.sIx xs.length 0 lo)).take (HT.sIx xs.length xs.length hi-HT.sIx xs.length 0 lo),IsTup.new _ _⟩
inductive ZaF(K:W.Frag)(x:V)(y:V)(H:Hp)(Q:VK):Prop
 |mk (a:_) (b:_) (xs:_) (ys:_) (h0:x=.ref a) (h1:y=.ref b) (h2:SqT K H a xs) (h3:SqT K H b ys) (h4:xs≠[]) (h5:xs.length+ys.length<=sizeLine) (h6:(ys=[]->Q (.ref a) H)) (h7:(ys≠[]->∀p,H p=none->Q (.ref p) (upd H p (.tup (xs++ys))))):ZaF K x y H Q
def Zf4(K:W.Frag):R2:=fun x y H Q=>ZaF K x y H Q
theorem ZV.nil_iff(r:ZV xs us):us=[]↔xs=[]:=by
 cases r with
 |nil=>simp
 |cons _ _=>simp
theorem ZeP:OpR X (binaryOp .Add) (Zf4 X.K):=by
 intro dm s U H x y v u Q I rx ry h;obtain⟨a,b,xs,ys,rfl,rfl,ha,hb,hx,hz,q1,q2⟩:=h;cases rx;cases ry;obtain⟨its,r1,p1,_⟩:=I.tuple ha;obtain⟨pb,r2,p2,_⟩:=I.tuple hb;refine HT.cat_tup p1 p2 (fun z=>hx (r1.nil_iff.mp z)) (fun z=>⟨.ref a,H,I,rfl,q1 (r2.nil_iff.mp z)⟩) (fun z=>?_) (by rw[<- r1.length,<- r2.length];exact hz);refine⟨.ref s.heap.objs.size,_,I.laid (t':=s.toks) (o:=.tup (xs++ys)) (fun b ob q=>fZ _ q) (fH _) ?_,rfl,q2 (fun w=>z (r2.nil_iff.mpr w)) _ (I.hok.fresh (fH _))⟩;exact⟨by rw[fK];exact hz,_,r1.append r2,IsTup.new _ _⟩
end
def ixN(n:Nat)(i:Int):Option Nat:=if 0<=i then(if i<n then some i.toNat else none) else if -(n:Int)<=i then some (i+n).toNat else none
def atI(xs:List α)(i:Int):Option α:=(ixN xs.length i).bind fun j=>xs[j]?
def ZfL{i:Int}(h:ixN n i=some j):seqIndex? i n=some j/\j<n/\-(n:Int)<=i/\i<n:=by
 unfold ixN at h
 by_cases h0:0<=i
 ·rw[oq h0] at h
  by_cases h1:i<n
  ·rw[oq h1] at h;have e:i.toNat=j:=fW h;exact⟨by rw[seqIndex_of h0 h1,e],by lia,by lia,h1⟩
  ·rw[oo h1] at h;cases h
 ·rw[oo h0] at h
  by_cases h1:-(n:Int)<=i
  ·rw[oq h1] at h;have e:(i+n).toNat=j:=fW h;exact⟨by rw[seqIndex_neg (by lia) h1,e],by lia,h1,by lia⟩
  ·rw[oo h1] at h;cases h
def ZaM{xs:List α}{i:Int}{v:α}(h:atI xs i=some v):∃j,seqIndex? i xs.length=some j/\xs[j]?=some v/\j<xs.length/\-(xs.length:Int)<=i/\i<xs.length:=by
 unfold atI at h;cases e:ixN xs.length i with
 |none=>rw[e] at h;cases h
 |some j=>
  rw[e] at h;obtain⟨h1,h2,h3,h4⟩:=ZfL e;exact⟨j,h1,h,h2,h3,h4⟩
def Zh{xs:List α}{v:α}(h:xs[j]?=some v):atI xs (j:Int)=some v:=by
 have hj:j<xs.length:=(fP.mp h).1;have e:ixN xs.length (j:Int)=some j:=by
  unfold ixN;rw[oq (by lia),oq (by lia)];simp
 unfold atI;rw[e];exact h
def yx(xs:List α)(v:α):atI (xs++[v]) (-1)=some v:=by
 have hl:(xs++[v]).length=xs.length+1:=by simp
 have e:ixN (xs++[v]).length (-1)=some xs.length:=by
  unfold ixN;rw[hl,oo (by left),oq (by lia)]
  congr 1
  lia
 unfold atI;rw[e]
 show(xs++[v])[xs.length]?=some v
 simp
def Ze3(b:Expr):Prop:=∀o i,subscripted b false o i=operate [o,i] (getItem o i)
def IxR(X:Cx)(r:R2):Prop:=
 ∀(ow oJ:Expr) (dm:List (Addr×Obj)) (s:Shared) (U:St) (H:Hp) (x y:V) (v u:Value) (Q:VK),Inv X dm U H s->Z6 x v->Z6 y u->r x y H Q ->
  subscripted oJ false v u=operate [v,u] (getItem v u)->wpAny (model X.prog X.w) X.A (subscriptTail ow oJ v u) (EP X dm U Q) X.xe s
def MtR(X:Cx)(id:String)(r:V->List V->Hp->VK->Prop):Prop:=
 ∀(dm:List (Addr×Obj)) (s:Shared) (U:St) (H:Hp) (x:V) (xs:List V) (v:Value) (us:List Value) (Q:VK),Inv X dm U H s->Z6 x v->ZV xs us->r x xs H Q ->
  wpAny (model X.prog X.w) X.A (call (.builtin id) (v::us)) (EP X dm U Q) X.xe s
section
variable{X:Cx}{a b:Expr}{ta tb:TE}{on:Pos}
theorem Zq{r:R2}(hr:IxR X r)(ha:PE X a ta)(hb:PE X b tb)(hs:Ze3 b):PE X (.Subscript a b on) (tOp r ta tb):=by
 intro dm s U H Q I h;exact Subscript_ (ZgL ha hb I h fun v u s2 x y H2 I2 rx ry q=>hr a b dm s2 U H2 x y v u Q I2 rx ry q (hs _ _))
inductive Zdv(K:W.Frag)(x:V)(y:V)(H:Hp)(Q:VK):Prop
 |mk (p:_) (xs:_) (i:_) (v:_) (h0:x=.ref p) (h1:y=.int i) (h2:SqL K H p xs) (h3:atI xs i=some v) (h4:Q v H):Zdv K x y H Q
def Zhh(K:W.Frag):R2:=fun x y H Q=>Zdv K x y H Q
inductive Zd3(K:W.Frag)(x:V)(y:V)(H:Hp)(Q:VK):Prop
 |mk (p:_) (xs:_) (i:_) (v:_) (h0:x=.ref p) (h1:y=.int i) (h2:SqT K H p xs) (h3:atI xs i=some v) (h4:Q v H):Zd3 K x y H Q
def Zh9(K:W.Frag):R2:=fun x y H Q=>Zd3 K x y H Q
theorem ZeR:IxR X (Zhh X.K):=by
 intro ow oJ dm s U H x y v u Q I rx ry h hs;obtain⟨p,xs,i,z,rfl,rfl,hq,he,q⟩:=h;cases rx;obtain⟨t,rfl⟩:=ry;obtain⟨its,r,pl,hz⟩:=I.list hq;obtain⟨j,h1,h2,h3,h4,h5⟩:=ZaM he;obtain⟨w,ew,rS⟩:=r.get h2;have hl:=r.length;have hn:=vf;have oy:EP X dm U Q w s:=⟨z,H,I,rS,q⟩
 by_cases h0:0<=i
 ·have hj:i.toNat=j:=by
   rw[seqIndex_of h0 h5] at h1;exact fW h1
  exact item_listR pl.isList h0 (by lia) (by rw[hj];simpa using ew) oy hs
 ·have hj:(i+(its.toArray.size:Int)).toNat=j:=by
   rw[seqIndex_neg (by lia) h4] at h1;rw[gf,<- hl];exact fW h1
  exact subscriptTail_builtinR (x:=w) pl.isList.typeIs slot_list_getitem.lookup
   (wpAny_getItem_list_neg (Q:=fun r s'=>r=w/\EP X dm U Q r s') pl.isList (by lia) (by rw[gf]<;>lia) (by lia) (by rw[hj];simpa using ew) ⟨rfl,oy⟩) hs
theorem Zg0:IxR X (Zh9 X.K):=by
 intro ow oJ dm s U H x y v u Q I rx ry h hs;obtain⟨p,xs,i,z,rfl,rfl,hq,he,q⟩:=h;cases rx;obtain⟨t,rfl⟩:=ry;obtain⟨its,r,pl,hz⟩:=I.tuple hq;obtain⟨j,h1,h2,h3,h4,h5⟩:=ZaM he;obtain⟨w,ew,rS⟩:=r.get h2;have hl:=r.length;have hn:=vf;have oy:EP X dm U Q w s:=⟨z,H,I,rS,q⟩;exact subscriptTail_builtinR (x:=w) pl.typeIs slot_tuple_getitem.lookup
  (getItem_tuple (j:=j) (Q:=fun r s'=>r=w/\EP X dm U Q r s') pl (by lia) (by lia) (by rw[gf,<- hl];exact h1) (by simpa using ew) ⟨rfl,oy⟩) hs
theorem JV(lo hi:Option Int)(n:Nat):(sliceBounds lo hi none n).1=((HT.sIx n 0 lo:Nat):Int)/\(sliceBounds lo hi none n).2.1=((HT.sIx n n hi:Nat):Int)/\(sliceBounds lo hi none n).2.2=1:=by
 refine⟨?_,?_,rfl⟩
 ·cases lo with
  |none=>simp[sliceBounds,HT.sIx]
  |some i=>
   simp only[sliceBounds,HT.sIx,Option.getD_none,show(1:Int)>0 by left,iF]
   by_cases h:i<0
   ·simp only[h,iF]<;>lia
   ·simp only[h,gK]<;>lia
 ·cases hi with
  |none=>simp[sliceBounds,HT.sIx]
  |some i=>
   simp only[sliceBounds,HT.sIx,Option.getD_none,show(1:Int)>0 by left,iF]
   by_cases h:i<0
   ·simp only[h,iF]<;>lia
   ·simp only[h,gK]<;>lia
theorem jL(its:List Value)(lo hi:Option Int):slicePick its.toArray lo hi none=((its.drop (HT.sIx its.length 0 lo)).take (HT.sIx its.length its.length hi-HT.sIx its.length 0 lo)).toArray:=by
 obtain⟨h1,h2,h3⟩:=JV lo hi its.toArray.size;unfold slicePick;rw[h1,h2,h3];simp only[sliceRange_one,pick_run,gf]<;>rfl
inductive ZcT(K:W.Frag)(x:V)(lo:Option Int)(hi:Option Int)(H:Hp)(Q:VK):Prop
 |mk (a:_) (xs:_) (h0:x=.ref a) (h1:SqL K H a xs) (h2:∀p,H p=none->Q (.ref p) (upd H p (.lst (Xc xs lo hi)))):ZcT K x lo hi H Q
def Zhl(K:W.Frag):V->Option Int->Option Int->Hp->VK->Prop:=fun x lo hi H Q=>ZcT K x lo hi H Q
theorem Zfc:SlR X (Zhl X.K):=by
 intro dm s U H x v vl vu lo hi sl Q I rx hs pl pu h;obtain⟨a,xs,rfl,hx,q⟩:=h;cases rx;obtain⟨its,r,ht,hz⟩:=I.list hx;have ou:=r.length;refine⟨"list",_,slot_list_getitem.lookup,ht.isList.typeIs,?_⟩;refine wpAny_getItem_list_slice ht.isList hs pl pu .none (by simp) ?_ (by rw[gf]<;>lia);rw[jL,<- ou];refine⟨.ref s.heap.objs.size,_,I.laid (t':=s.toks) (o:=.lst (Xc xs lo hi)) (fun b ob q=>fZ _ q) (fH _) ?_,rfl,q _ (I.hok.fresh (fH _))⟩;exact⟨gg (xy xs lo hi) hz,_,0,(r.drop (HT.sIx xs.length 0 lo)).take (HT.sIx xs.length xs.length hi-HT.sIx xs.length 0 lo),gB _ rfl⟩
def zn:V->Bool
 |.non=>true
 |.bl _=>true
 |.int _=>true
 |.str _=>true
 |_=>false
def eqV:V->V->Bool
 |.non,.non=>true
 |.bl a,.bl b=>a==b
 |.bl a,.int b=>(if a then 1 else 0)==b
 |.int a,.bl b=>a==(if b then 1 else 0)
 |.int a,.int b=>a==b
 |.str a,.str b=>a==b
 |_,_=>false
theorem Zg3{x:V}{v:Value}(ry:Z6 y u)(rx:Z6 x v)(fy:zn y=true)(fx:zn x=true):SeqAt.EqAt A s u v (eqV y x):=by
 cases y with
 |non=>
  cases ry;cases x with
  |non=>cases rx;exact SeqAt.EqAt.same _
  |bl b=>cases rx;exact SeqAt.EqAt.none_bool b
  |int b=>obtain⟨t,rfl⟩:=rx;exact SeqAt.EqAt.none_int b t
  |str b=>obtain⟨t,rfl⟩:=rx;exact SeqAt.EqAt.none_str b t
  |_=>exact ot (show false=true from fx) gw
 |bl a=>
  cases ry;cases x with
  |non=>cases rx;exact SeqAt.EqAt.bool_none a
  |bl b=>cases rx;exact SeqAt.EqAt.bool_bool a b
  |int b=>obtain⟨t,rfl⟩:=rx;exact SeqAt.EqAt.bool_int a b t
  |str b=>obtain⟨t,rfl⟩:=rx;exact SeqAt.EqAt.bool_str a b t
  |_=>exact ot (show false=true from fx) gw
 |int a=>
  obtain⟨t',rfl⟩:=ry;cases x with
  |non=>cases rx;exact SeqAt.EqAt.int_none a t'
  |bl b=>cases rx;exact SeqAt.EqAt.int_bool a t' b
  |int b=>obtain⟨t,rfl⟩:=rx;exact SeqAt.EqAt.int_int a t' b t
  |str b=>obtain⟨t,rfl⟩:=rx;exact SeqAt.EqAt.int_str a t' b t
  |_=>exact ot (show false=true from fx) gw
 |str a=>
  obtain⟨t',rfl⟩:=ry;cases x with
  |non=>cases rx;exact SeqAt.EqAt.str_none a t'
  |bl b=>cases rx;exact SeqAt.EqAt.str_bool a t' b
  |int b=>obtain⟨t,rfl⟩:=rx;exact SeqAt.EqAt.str_int a t' b t
  |str b=>obtain⟨t,rfl⟩:=rx;exact SeqAt.EqAt.str_str a t' b t
  |_=>exact ot (show false=true from fx) gw
 |_=>exact ot (show false=true from fy) gw
def eqU(x:V)(u:Value):Bool:=match u with
 |.none=>eqV .non x
 |.bool b=>eqV (.bl b) x
 |.int i _=>eqV (.int i) x
 |.str z _=>eqV (.str z) x
 |_=>false
theorem Zed{x:V}(r:Z6 y u)(f:zn y=true):eqU x u=eqV y x:=by
 cases y with
 |non=>cases r;rfl
 |bl b=>cases r;rfl
 |int i=>obtain⟨t,rfl⟩:=r;rfl
 |str z=>obtain⟨t,rfl⟩:=r;rfl
 |_=>exact ot (show false=true from f) gw
theorem JD{x:V}:∀{xs:List V}{us:List Value},ZV xs us->xs.all zn=true->us.any (eqU x)=xs.any fun y=>eqV y x
 |_,_,.nil,_=>rfl
 |y::xs,u::us,.cons r t,f=>by
  rw[lF,gM] at f;rw[mG,mG,Zed r f.1,JD t f.2]
theorem ju{A:Around}{s:Shared}{x:V}{v:Value}(rx:Z6 x v)(fx:zn x=true):∀{xs:List V}{us:List Value},ZV xs us->xs.all zn=true->∀u∈us,SeqAt.EqAt A s u v (eqU x u)
 |_,_,.nil,_=>fun u hu=>by cases hu
 |y::xs,u::us,.cons r t,f=>fun u' hu=>by
  rw[lF,gM] at f;rcases fU.mp hu with rfl|hu
  ·rw[Zed r f.1];exact Zg3 r rx f.1 fx
  ·exact ju rx fx t f.2 u' hu
def inV(x:V)(xs:List V):Bool:=xs.any fun y=>eqV y x
inductive ZfY(K:W.Frag)(neg:Bool)(x:V)(y:V)(H:Hp)(Q:VK):Prop
 |mk (p:_) (xs:_) (h0:y=.ref p) (h1:(SqL K H p xs\/SqT K H p xs)) (h2:zn x=true) (h3:xs.all zn=true) (h4:Q (.bl (if neg then !inV x xs else inV x xs)) H):ZfY K neg x y H Q
def rIn(K:W.Frag)(neg:Bool):R2:=fun x y H Q=>ZfY K neg x y H Q
theorem ZbU:OpR X (compareOp .In) (rIn X.K false):=by
 intro dm s U H x y v u Q I rx ry h;obtain⟨p,xs,rfl,hq,fx,fs,q⟩:=h;cases ry;rcases hq with hq|hq
 ·obtain⟨its,r,pl,hz⟩:=I.list hq;refine SeqAt.in_listAt (eqU x) pl.isList (fun w hw=>ju rx fx r fs w (by simpa using hw)) ⟨.bl _,H,I,rfl,?_⟩;rw[show its.toArray.any (eqU x)=its.any (eqU x) by simp,JD r fs];exact q
 ·obtain⟨its,r,pl,hz⟩:=I.tuple hq;refine SeqAt.in_tupleAt (eqU x) pl (fun w hw=>ju rx fx r fs w (by simpa using hw)) ⟨.bl _,H,I,rfl,?_⟩;rw[show its.toArray.any (eqU x)=its.any (eqU x) by simp,JD r fs];exact q
theorem JR:YR X (.builtin "len") (fun xs H Q=>∃p ys,xs=[.ref p]/\(SqL X.K H p ys\/SqT X.K H p ys)/\Q (.int ys.length) H):=by
 intro dm s U H xs us Q I r h;obtain⟨p,ys,rfl,hq,q⟩:=h;obtain⟨u,rfl,rx⟩:=Vj r;cases rx;have hn:=vf;rcases hq with hq|hq
 ·obtain⟨its,r',pl,hz⟩:=I.list hq;have ou:=r'.length;exact Calls.call_len_list pl.isList (by simp only[gf]<;>lia) ⟨.int ys.length,H,I.tok _,⟨s.toks+1,by rw[gf,ou]⟩,q⟩
 ·obtain⟨its,r',pl,hz⟩:=I.tuple hq;have ou:=r'.length;exact len_tuple pl (by simp only[gf]<;>lia) ⟨.int ys.length,H,I.tok _,⟨s.toks+1,by rw[gf,ou]⟩,q⟩
theorem k6:YR X (.builtin "len") (fun xs H Q=>∃z,xs=[.str z]/\z.length<=sizeLine/\Q (.int z.length) H):=by
 intro dm s U H xs us Q I r h;obtain⟨z,rfl,hz,q⟩:=h;obtain⟨u,rfl,t,rfl⟩:=Vj r;have hn:=vf;exact len_str (by lia) ⟨.int z.length,H,I.tok _,⟨_,rfl⟩,q⟩
theorem YR.or{f:Value}{r r':List V->Hp->VK->Prop}(h:YR X f r)(h':YR X f r'):YR X f (fun xs H Q=>r xs H Q\/r' xs H Q):=by
 intro dm s U H xs us Q I rs q;rcases q with q|q
 ·exact h dm s U H xs us Q I rs q
 ·exact h' dm s U H xs us Q I rs q
theorem Jh:YR X (.type "list") (fun xs H Q=>∃p ys,xs=[.ref p]/\(SqL X.K H p ys\/SqT X.K H p ys)/\∀l,H l=none->Q (.ref l) (upd H l (.lst ys))):=by
 intro dm s U H xs us Q I r h;obtain⟨p,ys,rfl,hq,q⟩:=h;obtain⟨u,rfl,rx⟩:=Vj r;cases rx;have oy:∀(its:List Value),ZV ys its->ys.length<=sizeLine->∀(h':Heap) (c':Nat),(∀b o',s.heap.get? b=some o'->h'.get? b=some o') ->
   h'.get? s.heap.objs.size=some { cls:=.type "list",dict:=none,data:=.seq its.toArray c',slots:=#[] }->EP X dm U Q (.ref s.heap.objs.size) { s with heap:=h' }:=fun its r' hz h' c' kp e=>
  ⟨.ref s.heap.objs.size,_,I.laid (t':=s.toks) kp (fH _) (show Y1 X.prog X.w _ h' _ (.lst ys) from⟨hz,its,c',r',e⟩),rfl,q _ (I.hok.fresh (fH _))⟩
 rcases hq with hq|hq
 ·obtain⟨its,r',pl,hz⟩:=I.list hq;have ou:=r'.length;obtain⟨o,ho,hc,n,hd⟩:=pl.isList;exact call_list_seq p (.inl rfl) ho hc hd (fun h' c' kp e=>oy its r' hz h' c' kp e) (by simp only[gf]<;>lia)
 ·obtain⟨its,r',pl,hz⟩:=I.tuple hq;have ou:=r'.length;obtain⟨o,ho,hc,n,hd⟩:=pl;exact call_list_seq p (.inr rfl) ho hc hd (fun h' c' kp e=>oy its r' hz h' c' kp e) (by simp only[gf]<;>lia)
theorem jz:YR X (.type "tuple") (fun xs H Q=>∃p ys,xs=[.ref p]/\((SqL X.K H p ys/\∀l,H l=none->Q (.ref l) (upd H l (.tup ys)))\/(SqT X.K H p ys/\Q (.ref p) H))):=by
 intro dm s U H xs us Q I r h;obtain⟨p,ys,rfl,h⟩:=h;obtain⟨u,rfl,rx⟩:=Vj r;cases rx;rcases h with⟨hq,q⟩|⟨hq,q⟩
 ·obtain⟨its,r',pl,hz⟩:=I.list hq;have ou:=r'.length;refine call_tuple_list pl.isList (fun h' kp=>?_) (by simp only[gf]<;>lia);have I1:Inv X dm U H { s with heap:=h' }:=I.kept (t':=s.toks) kp;have I2:Inv X dm U (upd H h'.objs.size (.tup ys)) { s with heap:=h'.push { cls:=.type "tuple",data:=.seq its.toArray } }:=
   I1.laid (t':=s.toks) (fun b o e=>fZ _ e) (fH _) (show Y1 X.prog X.w _ _ _ (.tup ys) from⟨hz,its,r',IsTup.new _ _⟩)
  exact⟨.ref h'.objs.size,_,I2,rfl,q _ (I1.hok.fresh (fH _))⟩
 ·obtain⟨its,r',pl,hz⟩:=I.tuple hq;exact call_tuple_same pl ⟨.ref p,H,I,rfl,q⟩
def tyV(K:W.Frag)(T:String)(x:V)(H:Hp):Prop:=match x with
 |.str _=>T = "str"
 |.int _=>T = "int"
 |.ref p=>(T = "list" /\ ∃xs,SqL K H p xs)\/(T = "tuple" /\ ∃o,K.lookup p=some o/\o.cls=.type "tuple" /\ o.dict=none) \/
   (T = "dict" /\ ((∃kvs,H p=some (.dK kvs))\/∃kvs,H p=some (.dT kvs)))\/(T = "set" /\ ∃S n,H p=some (.set S n))
 |_=>False
theorem ZcE{x:V}{v:Value}(I:Inv X dm U H s)(r:Z6 x v)(ty:tyV X.K T x H) :
  s.TypeIs v T/\∀a,v=.ref a->∃ob,s.heap.get? a=some ob/\ob.dict=none:=by
 cases x with
 |str z=>
  obtain⟨t,rfl⟩:=r;cases (show T = "str" from ty);exact⟨typeIs_str s z t,fun _ e=>nomatch e⟩
 |int i=>
  obtain⟨t,rfl⟩:=r;cases (show T = "int" from ty);exact⟨typeIs_int s i t,fun _ e=>nomatch e⟩
 |ref p=>
  cases r;rcases ty with⟨rfl,xs,hq⟩|⟨rfl,o,hk,hc,hd⟩|⟨rfl,hk⟩|⟨rfl,S,n,hk⟩
  ·obtain⟨its,_,pl,_⟩:=I.list hq;refine⟨pl.isList.typeIs,fun a e=>?_⟩;cases e;obtain⟨o,n,e,c,hd,_⟩:=pl;exact⟨o,e,hd⟩
  ·refine⟨⟨o,I.kIn p o hk,hc⟩,fun a e=>?_⟩;cases e;exact⟨o,I.kIn _ o hk,hd⟩
  ·have z:∃o,s.heap.get? p=some o/\o.ExactDict:=by
    rcases hk with⟨kvs,hk⟩|⟨kvs,hk⟩
    ·obtain⟨_,_,_,_,o,_,_,e,ex,_⟩:=I.hok p _ hk;exact⟨o,e,ex⟩
    ·obtain⟨_,_,_,_,o,_,_,e,ex,_⟩:=I.hok p _ hk;exact⟨o,e,ex⟩
   obtain⟨o,e,ex⟩:=z;refine⟨⟨o,e,ex.1⟩,fun a e2=>?_⟩;cases e2;exact⟨o,e,ex.2.1⟩
  ·obtain⟨o,_,_,_,e,ex,_⟩:=I.hok p _ hk;refine⟨⟨o,e,ex.1⟩,fun a e2=>?_⟩;cases e2;exact⟨o,e,ex.2.1⟩
 |_=>exact False.elim ty
def tBM0(K:W.Frag)(T:String)(r:V->List V->Hp->VK->Prop)(to:TE):TE:=fun U H Q=>to U H fun x H1=>tyV K T x H1/\r x [] H1 Q
def tBM(K:W.Frag)(T:String)(r:V->List V->Hp->VK->Prop)(to:TE)(t:TA):TE:=fun U H Q=>to U H fun x H1=>tyV K T x H1/\t U H1 fun xs H2=>r x xs H2 Q
variable{o:Expr}{to:TE}{t:TA}{name:Str}{apos cpos:Pos}{id:String}{r:V->List V->Hp->VK->Prop}
theorem Zcm(pa:PlainAttrs T)(slot:Slot T name id)(Cy:typeOf (.builtin id)=pure (.type "method_descriptor"))(hm:MtR X id r)(ho:PE X o to)
  (tD:attributeBase o name X.env (eval o X.env)=eval o X.env:=by rfl) (tX:(apos.endLine==cpos.line)=true:=by rfl):PE X (.Call (.Attribute o name apos) [] [] cpos) (tBM0 X.K T r to):=by
 intro dm s U H Q I h;refine wpAny_Call_method0_late tD tX (thn (ho dm s U H _ I h) fun v s1 ⟨x,H1,I1,r1,ty,q1⟩=>?_);obtain⟨h1,h2⟩:=ZcE I1 r1 ty;exact⟨T,id,pa,slot,Cy,h1,h2,Calls.callWith_builtin rfl (PySem.evalArgs_none (hm dm s1 U H1 x [] v [] Q I1 r1 .nil q1))⟩
theorem XE(pa:PlainAttrs T)(slot:Slot T name id)(Cy:typeOf (.builtin id)=pure (.type "method_descriptor"))(hm:MtR X id r)(ho:PE X o to)(ha:PA X (e::es) t)
  (tD:attributeBase o name X.env (eval o X.env)=eval o X.env:=by rfl)
  (oG:((backTo cpos (starEach (e::es) X.env)).all (fun x=>!x.1)&&(backToKw cpos (keywordEach [] X.env)).all (fun x=>x.1.isSome) && decide ((e::es).length+([]:List Keyword).length+(if([]:List Keyword).isEmpty then 0 else 1)<30))=true:=by rfl)
  (tX:(apos.endLine==cpos.line)=true:=by rfl) (hs:starEach (e::es) X.env=(false,eval e X.env)::starEach es X.env:=by rfl) (wG:(backTo cpos (starEach es X.env)).any (·.1)=false:=by rfl) :
  PE X (.Call (.Attribute o name apos) (e::es) [] cpos) (tBM X.K T r to t):=by
 intro dm s U H Q I h;refine wpAny_Call_method_late tD oG tX rfl (thn (ho dm s U H _ I h) fun v s1 ⟨x,H1,I1,r1,ty,q1⟩=>?_);obtain⟨h1,h2⟩:=ZcE I1 r1 ty;refine⟨T,id,pa,slot,Cy,h1,h2,?_⟩;have hA:=ha cpos dm s1 U H1 _ I1 q1;rw[hs] at hA ⊢;refine Calls.callWith_builtin (by show(false||(backTo cpos (starEach es X.env)).any (·.1))=false;rw[wG]<;>rfl) (Calls.evalArgs_plain ?_);exact thn hA fun us s2 ⟨vs,H2,I2,r2,q2⟩=>hm dm s2 U H2 x vs v us Q I2 r1 r2 q2
end
def MtM(X:Cx)(id:String)(r:V->List V->Hp->VK->Prop):Prop:=
 ∀(dm:List (Addr×Obj)) (s:Shared) (U:St) (H:Hp) (x:V) (xs:List V) (v:Value) (us:List Value) (Q:VK),Inv X dm U H s->Z6 x v->ZV xs us->r x xs H Q ->
  wpAny (model X.prog X.w) X.A (call (.builtin id) (v::us)) (EP X dm U Q) X.xe s
def ZV.one:∀{x:V}{us:List Value},ZV [x] us->∃u,us=[u]/\Z6 x u
 |_,_,.cons r .nil=>⟨_,rfl,r⟩
def ZV.zero:∀{us:List Value},ZV [] us->us=[]
 |_,.nil=>rfl
def ZV.dropLast{xs:List V}{us:List Value}(h:ZV xs us):ZV xs.dropLast us.dropLast:=by
 induction h with
 |nil=>exact .nil
 |cons r t ih=>
  cases t with
  |nil=>exact .nil
  |cons q t'=>exact .cons r ih
def ZV.reverse{xs:List V}{us:List Value}(h:ZV xs us):ZV xs.reverse us.reverse:=by
 induction h with
 |nil=>exact .nil
 |cons r t ih=>rw[l3,l3];exact ZV.append ih (.cons r .nil)
def QY(l:List α):l.eraseIdx (l.length-1)=l.dropLast:=by
 induction l with
 |nil=>rfl
 |cons a r ih=>
  cases r with
  |nil=>rfl
  |cons b r=>
   have e:(a::b::r).length-1=((b::r).length-1)+1:=by
    have h1:(a::b::r).length=r.length+2:=rfl;have h2:(b::r).length=r.length+1:=rfl;lia
   rw[e,List.eraseIdx_cons_succ,ih]
   all_goals rfl
section
variable{l b:Addr}{ys zs:List V}
theorem Inv.lset{its':List Value}{f:Array Value->Array Value}(I:Inv X dm U H s)(hH:H l=some (.lst xs))
  (e:s.heap.get? l=some { cls:=.type "list",data:=.seq its.toArray n }) (hf:f its.toArray=its'.toArray) (hv:ZV ys its') (hz:ys.length<=sizeLine) :
  Inv X dm U (upd H l (.lst ys)) { s with heap:=s.heap.update l (Obj.mapSeq f),toks:=t' }:=by
 have q:=PySem.IsL.update e f;rw[hf] at q;refine I.write (x:=l) (e:=l) (by rw[hH];exact trivial) (.inl rfl) (fun b' u hb hu=>(iH s.heap (Obj.mapSeq f) (fX hb)).trans hu) ⟨_,q⟩ ?_;exact⟨hz,its',_,hv,q⟩
theorem Inv.lnew(I:Inv X dm U H s)(hv:ZV ys its)(hz:ys.length<=sizeLine) :
  Inv X dm U (upd H s.heap.objs.size (.lst ys)) { s with heap:=s.heap.push { cls:=.type "list",data:=.seq its.toArray },toks:=t' }:=
 I.laid (fun _ _ q=>fZ _ q) (fH _) ⟨hz,its,0,hv,gB _ rfl⟩
theorem Inv.fresh(I:Inv X dm U H s):H s.heap.objs.size=none:=I.hok.fresh (fH _)
theorem Inv.lstM(I:Inv X dm U H s)(hH:H l=some (.lst xs)):xs.length<=sizeLine/\∃(its:List Value) (n:Nat),ZV xs its/\xs.length=its.length/\s.heap.get? l=some { cls:=.type "list",data:=.seq its.toArray n }:=by
 obtain⟨z,its,n,r,e⟩:=I.hok l _ hH;exact⟨z,its,n,r,r.length,e⟩
theorem Zcy(h:n<=sizeLine):Builtin.List.listTooLong n=false:=by
 unfold Builtin.List.listTooLong;exact fV (by lia)
end
inductive Vx(x:V)(vs:List V)(H:Hp)(Q:VK):Prop
 |mk (l:_) (xs:_) (y:_) (h0:x=.ref l) (h1:vs=[y]) (h2:H l=some (.lst xs)) (h3:xs.length<sizeLine) (h4:Q .non (upd H l (.lst (xs++[y])))):Vx x vs H Q
def Za0:V->List V->Hp->VK->Prop:=fun x vs H Q=>Vx x vs H Q
def Z0:MtM X "list.append" Za0:=by
 intro dm s U H x vs v us Q I rx rv h;obtain⟨l,xs,y,rfl,rfl,hH,hz,q⟩:=h;cases rx;obtain⟨u,rfl,ru⟩:=rv.one;obtain⟨z,its,n,r,hl,e⟩:=I.lstM hH;refine call_meets F.slot_list_append ⟨_,e,rfl⟩ F.entry_list_append (F.args_list_append_2 _ _) (PySem.list_append l its.toArray n u (by rw[gf];lia)) ⟨e,?_⟩;refine⟨.non,_,I.lset (its':=its++[u]) hH e (by simp) (r.append (.cons ru .nil)) ?_,rfl,q⟩;rw[fK,gz];lia
inductive Zc8(x:V)(vs:List V)(H:Hp)(Q:VK):Prop
 |mk (l:_) (xs:_) (y:_) (h0:x=.ref l) (h1:vs=[]) (h2:H l=some (.lst xs)) (h3:xs[xs.length-1]?=some y) (h4:Q y (upd H l (.lst xs.dropLast))):Zc8 x vs H Q
def rPop:V->List V->Hp->VK->Prop:=fun x vs H Q=>Zc8 x vs H Q
def ZeC:MtM X "list.pop" rPop:=by
 intro dm s U H x vs v us Q I rx rv h;obtain⟨l,xs,y,rfl,rfl,hH,hy,q⟩:=h;cases rx;have uK:=rv.zero;subst uK;obtain⟨z,its,n,r,hl,e⟩:=I.lstM hH;obtain⟨u,hu,ru⟩:=r.get hy;have SY:its.toArray[its.toArray.size-1]?=some u:=by
  show its.toArray[its.length-1]?=some u
  rw[<- mH,<- hl];exact hu
 refine call_meets F.slot_list_pop ⟨_,e,rfl⟩ F.entry_list_pop (F.args_list_pop_1 _) (MeetsSeq.list_pop_last l its.toArray n u SY (by rw[gf];lia)) ⟨e,?_⟩;refine⟨y,_,I.lset (its':=its.dropLast) hH e ?_ r.dropLast ?_,ru,q⟩
 ·show its.toArray.eraseIdxIfInBounds (its.toArray.size-1)=its.dropLast.toArray
  rw[gf,List.eraseIdxIfInBounds_toArray,QY]
 ·rw[nI];lia
inductive Zdo(x:V)(y:V)(H:Hp)(Q:VK):Prop
 |mk (l:_) (b:_) (xs:_) (zs:_) (h0:x=.ref l) (h1:y=.ref b) (h2:H l=some (.lst xs)) (h3:H b=some (.lst zs)) (h4:xs.length+zs.length<=sizeLine) (h5:∀p,H p=none->Q (.ref p) (upd H p (.lst (xs++zs)))):Zdo x y H Q
def rCat:R2:=fun x y H Q=>Zdo x y H Q
def JN:OpR X (binaryOp .Add) rCat:=by
 intro dm s U H x y v u Q I rx ry h;obtain⟨l,b,xs,zs,rfl,rfl,hH,hB,hz,q⟩:=h;cases rx;cases ry;obtain⟨z,its,n,r,hl,e⟩:=I.lstM hH;obtain⟨z2,pb,n2,r2,uL,e2⟩:=I.lstM hB;refine PySem.P.add_list e e2 ?_ (by rw[gf,gf];lia);have ea:its.toArray++pb.toArray=(its++pb).toArray:=by simp
 rw[ea];exact⟨.ref _,_,I.lnew (t':=s.toks) (r.append r2) (by rw[fK];lia),rfl,q _ I.fresh⟩
end L2
namespace Att
open PySem PySem.W PySem.Calls PyProof.Rows
def xK{P:Params}:∀(ns:List Int) (vs:List Value),WellAll P h vs (ns.map WData.int)->IntsAre vs ns:=by
 intro ns
 induction ns with
 |nil=>
  intro vs w;rw[gm] at w;cases w;exact .nil
 |cons n ns ih=>
  intro vs w;rw[fL] at w;cases w with
  |cons a b=>
   cases a;exact .cons _ _ (ih _ b)
def Zby{l:OpenLaw}(hn:l.most=some n){P:Params}
  (uO:l.row.toRowW.claim.pre args=true) (rP:WellAll P h AI args) :
  ∃a vs ns,AI=[Value.ref a]/\args=[WData.list (ns.map WData.int)]/\h.get? a=some { cls:=.type "list",data:=.seq vs.toArray }/\IntsAre vs ns/\ns.length<=n:=by
 have EY:WShape.hasAll [] args [.list .int]=true:=(pre_splitW uO).1;have hc:l.pre.holds [] { args:=args }=true:=(pre_splitW uO).2;obtain⟨d,r,rfl,h1,h2⟩:=hasAllW_cons EY;obtain rfl:=hasAllW_nil h2;obtain⟨xs,rfl,h3⟩:=hasW_list h1;obtain⟨ns,rfl⟩:=items_int h3;have ou:ns.length<=n:=by
  unfold OpenLaw.pre at hc;have h4:(WTm.not (.lt (.lit (.int (n:Int))) (.len (.arg 0)))).holds [] { args:=[.list (ns.map .int)] }=true:=by
   have h4:=(holds_andW hc).1;rw[hn] at h4;exact h4
  have h5:=condW_of h4 (w_not (w_lt w_lit (w_len_list (w_arg rfl))));rw[fF] at h5;refine Nat.le_of_not_lt fun q=>?_;have q':(n:Int)<((ns.length:Nat):Int):=by lia
  first
   | (rw[fQ q'] at h5;exact ot h5 (by left))
   | (simp at h5;lia)
 cases rP with
 |cons w1 w2=>
  cases w2;cases w1 with
  |list ho oM=>exact⟨_,_,ns,rfl,rfl,ho,xK ns _ oM,ou⟩
def ZbL(l:OpenLaw)(args:List WData):l.row.toRowW.claim.post args (.bool true) args=true:=
 postW_of (r:=l.row.toRowW) (X:=(true==true))
  (show WShape.has [] (.bool true) .bool=true by first|rfl|decide|simp[WShape.has,WShape.arms,WShape.armsAll])
  (show(WTm.eq .res (.lit (.bool true))).value [] { args:=args,res:=some (.bool true),after:=args }=some (.bool (true==true)) from w_eq_bool (w_res rfl) w_lit) rfl
def attach_call{l:OpenLaw}{d:DefRec}
  (hn:l.most=some n) (C3:d.params.defaults=[])
  (call:∀(w:World) (s₀ s₁:Shared) (mg mb:Str->Option Value) (fa:Addr) (o:Obj) (pm cd doc:Value) (a:Addr) (vs:List Value) (ns:List Int),Ground q si [] XP w s₀ mg mb s₁.heap->YP w s₁.heap -> s₁.heap.get? fa=some o->o.data=.func (docDef d.name d.params d.body d.scope pm cd doc)->s₁.heap.CodeRec cd d.name->mg d.name=some (.ref fa) -> s₁.heap.get? a=some { cls:=.type "list",data:=.seq vs.toArray }->IntsAre vs ns->ns.length<=n->s₁.gens=#[] -> codeAny (model l.prog w) callerA (.call (.ref fa) ⟨[.ref a],[]⟩) (fun r s'=>r=.ok (.ret (.bool true))/\OldK s₁.heap s'.heap/\s'.os=s₁.os/\AllBare s'.gens) s₁) :
  WalkO q si XP YP l.row.toRowW d [] (fun f vs=>PySem.call f vs):=by
 intro w s₀ s₁ mg mb G Y fa o pm cd doc dV kV ho hd tV hD Ej hg args AI as uO SU hrd rP hlo;obtain rfl:dV=.none:=Dflts.none hD C3;obtain rfl:kV=.none:=Dflts.noKw hD;obtain⟨a,vs,ns,rfl,rfl,wQ,tE,ou⟩:=Zby hn uO rP;refine enter_call (lY (call w s₀ s₁ mg mb fa o pm cd doc a vs ns G Y ho (fd_plain hd) tV Ej wQ tE ou hg) fun r s' hq=>?_);obtain⟨rfl,h2,h3,h4⟩:=hq;exact⟨.inl ⟨.bool true,.bool true,[],rfl,fun _=>rfl,.bool true,ZbL l _,fun _=>⟨List.Pairwise.nil,fun _ hm=>(nomatch hm)⟩⟩,h2,h3,h4⟩
section
variable{K:Frag}
def Zig(h:Heap)(L d:Addr):List (Addr×Obj):=(γ h.objs.size).filterMap fun a=>if a=L\/a=d then none else(h.get? a).map fun o=>(a,o)
end
end Att
namespace L2
open PySem PySem.Spec PyProof.Rows
def jZ:∀{vs:List Value}{ns:List Int},IntsAre vs ns->ZV (ns.map V.int) vs
 |_,_,.nil=>.nil
 |_,_,.cons n t h=>.cons ⟨t,rfl⟩ (jZ h)
def ZgH(H:Hp):Prop:=∀b,H b=none\/∃o xs,H b=some (.frz o (.lst xs))
def ZcI{mb:Str->Option Value}{k:Nat}{a:Addr}{x:Str}{s₁:Shared}{vs:List Value}
  (KX:K.In s₁.heap) (DA:s₁.heap.Ns mainGlobals mg) (hb:s₁.heap.Ns builtinsNs mb) (NX:∀x:Str,x ≠ "__name__" -> mb x=bootBuiltins x) (Ei:s₁.heap.NoLimit) (hg:s₁.gens=#[])
  (ha:s₁.heap.get? a=some { cls:=.type "list",data:=.seq vs.toArray }) (hi:IntsAre vs ns) (hl:ns.length<=sizeLine) (hr:Y8 k callerA)
  (F:∀base:Heap,K.In base->base.Ns mainGlobals mg->Uo P w K mg base CX k fa fd [x] sp) (Ct:∀(s:Shared) (u:Value),BindsTo s fd ⟨[u],[]⟩ [(x,u)])
  (wf:∀H:Hp,ZgH H->SqL K H a (ns.map V.int)->sp [.ref a] H (fun v _=>v=.bl true) fun _ _ _=>False)
  (EB:∀H e s',CX [] H s₁ (fun _ _ _=>False) e s'->False) :
  codeAny (model P w) callerA (.call (.ref fa) ⟨[.ref a],[]⟩) (fun r s'=>r=.ok (.ret (.bool true))/\OldK s₁.heap s'.heap/\s'.os=s₁.os/\AllBare s'.gens) s₁:=by
 have rv:=jZ hi;have FN:=hi.length;have core:∀H:Hp,ZgH H->SqL K H a (ns.map V.int)->HOk P w H s₁.heap->(∀b,H b≠none->b=a)->(H a≠none->K.lookup a=none) ->
   codeAny (model P w) callerA (.call (.ref fa) ⟨[.ref a],[]⟩) (fun r s'=>r=.ok (.ret (.bool true))/\OldK s₁.heap s'.heap/\s'.os=s₁.os/\AllBare s'.gens) s₁:=by
  intro H hO hS hok hA hK;have sD:∀{b:Addr}{o:Obj},s₁.heap.get? b=some o->H b=none->(JM s₁.heap H).get? b=some o:=fun e n=>ZcX e n;have CN:∀{b:Addr}{o:Obj}{es:Array DictEntry}{ep:Nat},s₁.heap.get? b=some o->o.data=.dict es ep->H b=none:=fun {b o es ep} e d=>by
   cases q:H b with
   |none=>rfl
   |some u=>
    have e':b=a:=hA b (by rw[q];simp);subst e';rw[ha] at e;cases e;have d':Data.seq vs.toArray _=Data.dict es ep:=d;cases d'
  have Du:∀{b:Addr}{m:Str->Option Value},s₁.heap.Ns b m->(JM s₁.heap H).Ns b m:=fun {b m} ⟨o,es,ep,e,d,r⟩=>⟨o,es,ep,sD e (CN e d),d,r⟩;have HM:K.In (JM s₁.heap H):=fun b o e=>sD (KX b o e) (by
   cases q:H b with
   |none=>rfl
   |some u=>
    have e':b=a:=hA b (by rw[q];simp);subst e';rw[hK (by rw[q];simp)] at e;cases e)
  have hM:Mod K mg (JM s₁.heap H):=⟨HM,Du DA,⟨mb,Du hb,NX⟩,let ⟨mc,h1,h2⟩:=Ei; ⟨mc,Du h1,h2⟩⟩;have e0:QK P w K mg (JM s₁.heap H) callerA [] s₁ H:=⟨rfl,hM,fun b o e=>ZeH e,Nat.le_of_eq (Zb2 _ _),trivial,fun b hb=>ot (show b∈([]:List Addr) from hb) (by simp),hok,.of_eq hg⟩;refine lY ((F _ HM (Du DA)).run callerA [] s₁ H ⟨[.ref a],[]⟩ [.ref a] [.ref a] _ _ hr e0 (Ct s₁ (.ref a)) (.cons rfl .nil) (wf H hO hS)) fun r s' h=>?_;cases r with
  |error e=>exact(EB H e s' h).elim
  |ok fl=>
   cases fl with
   |next=>exact False.elim h
   |brk=>exact False.elim h
   |cont=>exact False.elim h
   |ret u=>
    obtain⟨v,H',os,bare,un,Gw,r',q⟩:=h;have q':v=.bl true:=q;subst q';obtain rfl:u=Value.bool true:=r';refine⟨rfl,OldK.of_keep fun b o e=>?_,os,bare⟩;cases q:H b with
    |none=>exact un.keep b o e q (by intro z;exact ot (show b∈([]:List Addr) from z) (by simp)) (by simp)
    |some u=>
     rcases hO b with z|⟨ob,xs,z⟩
     ·rw[q] at z;cases z
     ·have z2:=un.frzs b ob _ z;obtain⟨e1,_⟩:=hok b _ z;obtain⟨e2,_⟩:=Gw b _ z2;rw[e] at e1;cases e1;exact e2
 cases hk:K.lookup a with
 |some o=>
  have e:=KX a o hk;rw[ha] at e;cases e;refine core (fun _=>none) (fun _=>.inl rfl) (.inr ⟨_,vs.toArray,_,hk,rfl,rfl,rfl,by rw[gf,FN];exact hl,by simpa using rv⟩) (fun b u z=>by have z':(none:Option HO)=some u:=z;cases z') (fun b z=>ot rfl z) fun z=>ot rfl z
 |none=>
  refine core (fun b=>if b=a then some (.frz { cls:=.type "list",data:=.seq vs.toArray } (.lst (ns.map V.int))) else none) (fun b=>?_) (.inl (.inr ⟨{ cls:=.type "list",data:=.seq vs.toArray },oq rfl⟩)) (fun b u z=>?_) (fun b z=>?_) fun _=>hk
  ·by_cases hb:b=a
   ·exact .inr ⟨_,_,oq hb⟩
   ·exact .inl (oo hb)
  ·by_cases hb:b=a
   ·have z':=(oq hb).symm.trans z;cases z';subst hb;exact⟨ha,by rw[fF];exact hl,vs,_,rv,ha⟩
   ·have z':=(oo hb).symm.trans z;cases z'
  ·by_cases hb:b=a
   ·exact hb
   ·exact ot (oo hb) z
def walk_of{k:Nat}{d:DefRec}{K:Params->W.Frag}{CX:World->CXT}{sp:World->Sp}{x:Str}
  (hn:l.most=some n) (DH:n<=sizeLine) (C3:d.params.defaults=[]) (hr:Y8 k callerA)
  (hY:∀(w:World) (h:Heap),YP w h->(K w.params).In h)
  (F:∀(w:World) (mg:Str->Option Value) (fa:Addr) (h:Heap),(K w.params).In h->h.Ns mainGlobals mg->mg d.name=some (.ref fa) -> ∃fd:FuncData,(∀(s:Shared) (u:Value),BindsTo s fd ⟨[u],[]⟩ [(x,u)]) /\ ∀base:Heap,(K w.params).In base->base.Ns mainGlobals mg->Uo l.prog w (K w.params) mg base (CX w) k fa fd [x] (sp w))
  (wf:∀(w:World) (H:Hp) (a:Addr) (ns:List Int),ns.length<=n->ZgH H->SqL (K w.params) H a (ns.map V.int)->sp w [.ref a] H (fun v _=>v=.bl true) fun _ _ _=>False)
  (EB:∀(w:World) (H:Hp) (s:Shared) (e:Value) (s':Shared),CX w [] H s (fun _ _ _=>False) e s'->False) :
  W.WalkO q si XP YP l.row.toRowW d [] (fun f vs=>PySem.call f vs):=by
 refine Att.attach_call hn C3 fun w s₀ s₁ mg mb fa o pm cd doc a vs ns G Y ho hd tV Ej wQ tE ou hg=>?_;have KX:=hY w _ Y;obtain⟨fd,hb,hF⟩:=F w mg fa _ KX G.T.g Ej;exact ZcI KX G.T.g G.T.b G.T.builtins G.T.nolimit hg wQ tE (gg ou DH) hr hF hb (fun H hO hS=>wf w H a ns ou hO hS) fun H e s'=>EB w H s₁ e s'
def Xi(s:Stmt)(j:Nat):Stmt:=match s with
 |.ClassDef _ _ _ oK _ _ _ _ _ _ _=>oK.getD j (.Pass ⟨0,0,0,0⟩)
 |_=>.Pass ⟨0,0,0,0⟩
def Vs(s:Stmt):Arguments:=match s with
 |.FunctionDef _ a _ _ _ _ _ _ _ _=>a
 |_=>{ posonlyargs:=[],args:=[],vararg:=none,kwonlyargs:=[],kw_defaults:=[],kwarg:=none,defaults:=[] }
def XW(s:Stmt):List Stmt:=match s with
 |.FunctionDef _ _ b _ _ _ _ _ _ _=>b
 |_=>[]
def Zj(s:Stmt):Scope:=match s with
 |.FunctionDef _ _ _ _ _ _ sc _ _ _=>sc
 |_=>{ kind:=.function,names:=[],isGenerator:=false,isCoroutine:=false }
abbrev CX0:CXT:=fun _ _ _ _ _ _=>False
abbrev E0:XK:=fun _ _ _=>False
def Yh:Uz CX0 X E0:=fun _ _ _ _ _ _ _ h=>h.elim
structure Fun(K:W.Frag)(x qual:Str)(st:Stmt)(f:Addr)(fd:FuncData):Prop where
 ex:∃(oc:Value) (od:Option Addr) (kV doc pm:Value) (an:Option Addr) (dn ct:Value) (osl:Array (Option Value)),
  fd=W.fnOf x qual (Vs st) (XW st) (Zj st) .none kV doc pm an dn ct/\K.lookup f=some ⟨oc,od,.func fd,osl⟩/\W.codeIn K dn qual=true
 kp:W.keepIn K (.ref f)=true
def Fun.ok{x:Str}{f:Addr}{ps:List Str}{k:Nat}(F:Fun K x qual st f fd)(S:Zt N ps (Zj st))(len:∀vs H Q E,sp vs H Q E->vs.length=ps.length)
  (pi:∀(dn:Value) (A:Around) (outer:List Env) (s:Shared) (H:Hp) (vs:List V) (Q:VK) (E:XK),Y8 k (A.deeper (envOfC qual (Zj st) s.heap.objs.size f dn))->sp vs H Q E -> ∃t,PSs (Qq CX0 P w K mg base N qual (Zj st) f dn A outer s H E).nox (XW st) t/\t { nx:=fun _ H'=>Q .non H',rt:=Q } (zi N vs) H):Uo P w K mg base CX0 (k+1) f fd ps sp:=by
 obtain⟨oc,od,kV,doc,pm,an,dn,ct,osl,rfl,lk,tV⟩:=F.ex;refine Zhk lk tV S len fun A outer s H vs Q E hr wf=>?_;obtain⟨t,h,q⟩:=pi dn A outer s H vs Q E hr wf;exact⟨t,h.nox,q⟩
def Fun.binds{x:Str}{f:Addr}{ps:List Str}(F:Fun K x qual st f fd)
  (h:∀(kV doc pm:Value) (an:Option Addr) (dn ct:Value) (us:List Value),us.length=ps.length->bindArgs (W.fnOf x qual (Vs st) (XW st) (Zj st) .none kV doc pm an dn ct) ⟨us,[]⟩=pure (ps.zip us)):Um K fd ps []:=by
 obtain⟨oc,od,kV,doc,pm,an,dn,ct,osl,rfl,lk,tV⟩:=F.ex;exact .all (h kV doc pm an dn ct)
def Zdf{x:Str}{f:Addr}{oc:Value}{kV doc pm dn ct:Value}(l:K.lookup f=some ⟨oc,od,.func (W.fnOf x qual (Vs st) (XW st) (Zj st) .none kV doc pm an dn ct),osl⟩)
  (c:W.codeIn K dn qual=true) (k:W.keepIn K (.ref f)=true):Fun K x qual st f (W.fnOf x qual (Vs st) (XW st) (Zj st) .none kV doc pm an dn ct):=⟨⟨oc,od,kV,doc,pm,an,dn,ct,osl,rfl,l,c⟩,k⟩
def ZcP{k:Nat}(hr:Y8 k A):A.units+1<cLine:=im (Nat.add_le_add_left (by left:1<=64) _) hr.units
def pv(i:Nat){x:Str}(hN:X.N[i]?=some x:=by rfl)(hv:Vis X.env.scope x:=by first|exact Or.inl rfl|exact Or.inr (.inl rfl)|exact Or.inr (.inr rfl))(hd:(x==("__debug__" : Str))=false:=by left)
  (tV:(x==("__classdict__" : Str))=false:=by left):PE X (.Name x on) (xM i):=Zg9 hN hv hd tV
def Yn{A:Prop}(h:B):if false=true then A else B:=by
 rw[oo gw];exact h
def YM{A:Prop}(h:A):if true=true then A else B:=by
 rw[oq rfl];exact h
def YY{c A:Prop}[Decidable c](h1:c->A)(h2:¬c->B):if c then A else B:=by
 by_cases h:c
 ·rw[oq h];exact h1 h
 ·rw[oo h];exact h2 h
def Zg(H H':Hp):Prop:=∀b o,H b=some o->H' b=some o
def Zg.refl(H:Hp):Zg H H:=fun _ _ h=>h
def Zg.trans(a:Zg H H1)(b:Zg H1 H2):Zg H H2:=fun c o h=>b c o (a c o h)
def Zg.free(e:Zg H H'){l:Addr}(h:H' l=Option.none):H l=Option.none:=by
 cases q:H l with
 |none=>rfl
 |some o=>
  rw[e l o q] at h;cases h
def Zg.seq{a:Addr}(e:Zg H H')(h:SqL K H a xs):SqL K H' a xs:=by
 rcases h with(h|⟨o,h⟩)|h
 ·exact .inl (.inl (e _ _ h))
 ·exact .inl (.inr ⟨o,e _ _ h⟩)
 ·exact .inr h
end L2
set_option maxHeartbeats 8000000
namespace L3
open PySem PySem.Spec PyProof.Rows L2
abbrev St:=L2.St
def sub(ix:List (Option Nat))(U:St):St:=ix.map fun o=>o.bind fun j=>(U[j]?).join
def Qc{t:Sem α}{Q:α->Shared->Prop}(h:wpAny M A t Q (fun _ _=>False) s)(hQ:∀a s,Q a s->Q' a s):wpAny M A t Q' E s:=
 lc h hQ fun _ _ z=>z.elim
def PTs(X:Cx)(pI:List Expr)(t:TT):Prop:=
 ∀(dm:List (Addr×Obj)) (s:Shared) (U:St) (H:Hp) (Q:Bool->Hp->Prop),Inv X dm U H s->t U H Q ->
  wpAny (model X.prog X.w) X.A (forIn pI true fun c r=>if r=true then do let ok <- isTrue c X.env (eval c X.env);pure (ForInStep.yield ok) else pure (ForInStep.yield r)) (TP X dm U Q) X.xe s
def zx:TT:=fun _ H Q=>Q true H
def Ys:PTs X [] zx:=fun _ _ _ H _ I h=>wpAny_tests_nil ⟨H,I,h⟩
def UK{c:Expr}{t:TT}(h:PT X c t):PTs X [c] t:=fun dm s U H Q I q=>wpAny_tests_one (h dm s U H Q I q)
def Wn(scope:Scope)(env:Env):List (Str×Addr):=(scope.names.filter fun y=>y.2==.free).reverse.map fun y=>(y.1,(env.cells.lookup y.1).getD 0)
def ZbD:∀(ns:List (Str×NameKind)) (acc:List (Str×Addr)),(∀y∈ns,y.2=.free->(env.cells.lookup y.1).isSome=true) ->
  (forIn ns acc fun(x:Str×NameKind) (r:List (Str×Addr))=>if x.2==.free then do let a <- cellOf env x.1;pure (ForInStep.yield ((x.1,a)::r)) else pure (ForInStep.yield r):Sem (List (Str×Addr))) =
   pure ((ns.filter fun y=>y.2==.free).reverse.map (fun y=>(y.1,(env.cells.lookup y.1).getD 0))++acc):=by
 intro ns
 induction ns with
 |nil=>intro acc _;rfl
 |cons y r ih=>
  intro acc h;have hr:∀z∈r,z.2=.free->(env.cells.lookup z.1).isSome=true:=fun z hz=>h z (fT _ hz);rw[iN]
  by_cases hf:(y.2==NameKind.free)=true
  ·have hs:=h y iL (by simpa using hf);obtain⟨c,hc⟩:=m9.mp hs;have e1:cellOf env y.1=pure c:=by unfold cellOf;rw[hc]
   rw[oq hf,e1,pure_bind,pure_bind];refine(ih _ hr).trans ?_;rw[mI (by simpa using hf),l3,gp];simp[hc]
  ·rw[oo hf,pure_bind];refine(ih _ hr).trans ?_;rw[mJ (by simpa using hf)]
def Ze4(h:∀y∈scope.names,y.2=.free->(env.cells.lookup y.1).isSome=true):closureFor scope env=pure (Wn scope env):=by
 have e:=ZbD (env:=env) scope.names [] h;rw[iu] at e;unfold closureFor;rw[show Wn scope env=(scope.names.filter fun y=>y.2==.free).reverse.map (fun y=>(y.1,(env.cells.lookup y.1).getD 0)) from rfl];rw[<- pure_bind (m:=Sem) ((scope.names.filter fun y=>y.2==.free).reverse.map (fun y=>(y.1,(env.cells.lookup y.1).getD 0))) pure,<- e]
def UE{β:Type}(f:Str->β):∀(l:List (Str×NameKind)) (x:Str),(l.map fun y=>(y.1,f y.1)).lookup x=if x∈l.map (·.1) then some (f x) else none
 |[],x=>by simp
 |y::r,x=>by
  rw[fL,gi,UE f r x]
  by_cases e:x=y.1
  ·subst e;simp
  ·have hb:(x==y.1)=false:=by simpa using e
   rw[hb]
   by_cases hm:x∈r.map (·.1)
   ·rw[oq hm,oq (by rw[fL];exact fT _ hm)]
   ·rw[oo hm,oo (by rw[fL];intro z;rcases fU.mp z with z|z;exact e z;exact hm z)]
def WO{x:Str}{c:Addr}(h:∀y∈scope.names,y.2=.free->(env.cells.lookup y.1).isSome=true)(e:(Wn scope env).lookup x=some c):env.cells.lookup x=some c:=by
 unfold Wn at e;rw[UE (fun z=>(env.cells.lookup z).getD 0)] at e
 split at e
 ·rename_i hx
  obtain⟨y,hy,rfl⟩:=fM.mp hx;obtain⟨h1,h2⟩:=iC.mp (List.mem_reverse.mp hy);obtain⟨d,hd⟩:=m9.mp (h y h1 (by simpa using h2));have e':=fW e;rw[hd] at e' ⊢;exact fS some e'
 ·cases e
def va{x:Str}(hx:(x,NameKind.free)∈scope.names):∃c,(Wn scope env).lookup x=some c:=by
 unfold Wn;rw[UE (fun z=>(env.cells.lookup z).getD 0),oq]
 ·exact⟨_,rfl⟩
 ·exact fM.mpr ⟨(x,.free),List.mem_reverse.mpr (iC.mpr ⟨hx,by simp⟩),rfl⟩
def yn{env:Env}:∀{names:List (Str×NameKind)}{x:Str}{k:NameKind},
  (names.map fun(n,k)=>if(k==NameKind.free&&env.scope.kind==.function&&env.kindOf n==some .cell) then(n,NameKind.cell) else(n,k)).lookup x=some k ->
   names.lookup x=some k\/(k=.cell/\names.lookup x=some .free)
 |[],_,_,h=>by simp at h
 | (n,k0)::r,x,k,h=>by
  rw[fL] at h;dsimp only at h;cases hx:x==n with
  |true=>
   by_cases hc:(k0==NameKind.free&&env.scope.kind==.function&&env.kindOf n==some .cell)=true
   ·rw[oq hc] at h;simp only[gi,hx] at h ⊢;have:k0=.free:=by
     have h1:=(gM _ _▸((gM _ _▸hc).1)).1;simpa using h1
    exact .inr ⟨(fW h).symm,by rw[this]⟩
   ·rw[oo hc] at h;simp only[gi,hx] at h ⊢;exact .inl h
  |false=>
   have h':(r.map fun(n,k)=>if(k==NameKind.free&&env.scope.kind==.function&&env.kindOf n==some .cell) then(n,NameKind.cell) else(n,k)).lookup x=some k:=by
    by_cases hc:(k0==NameKind.free&&env.scope.kind==.function&&env.kindOf n==some .cell)=true
    ·rw[oq hc] at h;simpa only[gi,hx] using h
    ·rw[oo hc] at h;simpa only[gi,hx] using h
   simp only[gi,hx];exact yn h'
def zQ{env:Env}:∀{names:List (Str×NameKind)}{x:Str},names.lookup x=some .free ->
  (names.map fun(n,k)=>if(k==NameKind.free&&env.scope.kind==.function&&env.kindOf n==some .cell) then(n,NameKind.cell) else(n,k)).lookup x=some .cell \/
  (names.map fun(n,k)=>if(k==NameKind.free&&env.scope.kind==.function&&env.kindOf n==some .cell) then(n,NameKind.cell) else(n,k)).lookup x=some .free
 |[],_,h=>by simp at h
 | (n,k0)::r,x,h=>by
  rw[fL];dsimp only;cases hx:x==n with
  |true=>
   simp only[gi,hx] at h;have e:k0=.free:=fW h
   by_cases hc:(k0==NameKind.free&&env.scope.kind==.function&&env.kindOf n==some .cell)=true
   ·rw[oq hc];exact .inl (by simp only[gi,hx])
   ·rw[oo hc];exact .inr (by simp only[gi,hx];rw[e])
  |false=>
   simp only[gi,hx] at h;have ih:=zQ (env:=env) h
   by_cases hc:(k0==NameKind.free&&env.scope.kind==.function&&env.kindOf n==some .cell)=true
   ·rw[oq hc];simpa only[gi,hx] using ih
   ·rw[oo hc];simpa only[gi,hx] using ih
structure ZX(sc:Scope)(N Nc:List Str)(ix:List (Option Nat))(scope:Scope):Prop where
 kind:scope.kind=.function
 nocell:∀y∈scope.names,y.2≠.cell
 names:∀y∈scope.names,y.2=.local->scope.names.lookup y.1=some .local
 free:∀y∈scope.names,y.2=.free->sc.names.lookup y.1=some .cell\/sc.names.lookup y.1=some .free
 len:ix.length=Nc.length
 chk:((ix.zip Nc).all fun p=>match p.1 with|none=>true|some j=>N[j]?==some p.2&&scope.names.lookup p.2==some .free)=true
def ZX.at_(o:ZX sc N Nc ix scope){x:Str}(h1:ix[i]?=some (some j))(h2:Nc[i]?=some x):N[j]?=some x/\scope.names.lookup x=some .free:=by
 have hm:(some j,x)∈ix.zip Nc:=by
  refine gk (i:=i) ?_;rw[lG];exact⟨h1,h2⟩
 have q:=ie.mp o.chk _ hm;have q':=gM _ _▸q;exact⟨by simpa using q'.1,by simpa using q'.2⟩
def Y6(X:Cx)(Nc:List Str)(scope:Scope)(cl:List (Str×Addr))(C:Addr)(s:Shared)(H:Hp)(fp:List Addr):Cx where
 prog:=X.prog
 w:=X.w
 K:=X.K
 mg:=X.mg
 base:=X.base
 A:=X.A
 N:=Nc
 s₀:=s
 H₀:=H
 env:=compEnvC scope cl C X.env
 outer:=X.stack
 stack:=X.stack
 ex:=fp
 fn:=fun x=>(cl.lookup x).isNone
 calm:=X.calm
 pn:=X.pn
 xe:=fun _ _=>False
def xf(I:Inv X dm U H s)(ok:ZX X.env.scope X.N Nc ix scope):∀y∈scope.names,y.2=.free->(X.env.cells.lookup y.1).isSome=true:=fun y hy hf=>by
 obtain⟨c,hc⟩:=I.ok.has y.1 (ok.free y hy hf);rw[hc];rfl
def Zal{h1:Heap}(I:Inv X dm U H s)(ok:ZX X.env.scope X.N Nc ix scope)(hf:∀b∈fp,za X dm H b)(En:∀b∈fp,∃o,s.heap.get? b=some o)
  {m:Str->Option Value} (hn:h1.Ns s.heap.objs.size m) (hk:∀b o,s.heap.get? b=some o->h1.get? b=some o) :
  Inv (Y6 X Nc scope (Wn scope X.env) s.heap.objs.size s H fp) dm (sub ix U) H { s with heap:=h1,toks:=t' }:=by
 have ac:=xf I ok;have pX:∀{b:Addr}{o:Obj},s.heap.get? b=some o->b≠s.heap.objs.size:=fun e=>gb (fY e);refine⟨⟨I.ok.mod,?_,I.ok.glob,I.ok.blt,fH _,?_,?_,?_,I.ok.hd,I.ok.frames,.inl rfl,?_,I.bs,gg I.ok.bsz I.sz,?_,?_,I.stack,I.stkFree⟩,rfl,I.bare,Un.kept hk,⟨m,hn,?_⟩,?_,?_,?_,?_,I.hok.kept hk,?_⟩
 ·exact ok.kind
 ·intro x y c e1 e2;exact I.ok.inj x y c (WO ac e1) (WO ac e2)
 ·intro x hx;have sY:∀k,(relabel scope X.env).names.lookup x=some k->(k=.cell\/k=.free)->∃c,(Wn scope X.env).lookup x=some c:=fun k e uh=>by
   rcases yn e with q|⟨_,q⟩
   ·rcases uh with rfl|rfl
    ·exact ot rfl (ok.nocell _ (iy q))
    ·exact va (iy q)
   ·exact va (iy q)
  rcases hx with e|e
  ·exact sY _ e (.inl rfl)
  ·exact sY _ e (.inr rfl)
 ·intro x c Cn e;have e':(Wn scope X.env).lookup x=some c:=e;have CF:((Wn scope X.env).lookup x).isNone=true:=Cn;rw[e'] at CF;cases CF
 ·intro b hb;obtain⟨o,e⟩:=En b hb;obtain⟨f0,f1,f2,f3,f4,f5⟩:=hf b hb;exact⟨pX e,fun x c q=>f4 x c (WO ac q)⟩
 ·intro b o e hb;obtain⟨f0,f1,f2,f3,f4,f5⟩:=hf b hb;rcases f3 with z|z
  ·exact I.ok.noex b o e z
  ·exact ot (gJ (gJ (fY e) I.ok.bsz) z) (iZ _)
 ·intro b hb hz;obtain⟨f0,f1,f2,f3,f4,f5⟩:=hf b hb;rcases fU.mp (I.stkSub b hz) with z|z
  ·exact f1 z
  ·exact f2 z
 ·intro i x v e1 e2 e3;have e1:Nc[i]?=some x:=e1;unfold sub at e2;rw[fO] at e2;cases hi:ix[i]? with
  |none=>rw[hi] at e2;cases e2
  |some o=>
   cases o with
   |none=>rw[hi] at e2;cases e2
   |some j=>
    obtain⟨hN,pj⟩:=ok.at_ hi e1;have e4:U[j]?=some (some v):=by
     rw[hi] at e2;have Dg:some ((U[j]?).join)=some (some v):=e2;have e5:=fW Dg;cases hj:U[j]? with
     |none=>rw[hj] at e5;cases e5
     |some z=>rw[hj] at e5;exact fS some e5
    have F4:Vis X.env.scope x:=by
     rcases ok.free (x,.free) (iy pj) rfl with q|q
     ·exact .inr (.inl q)
     ·exact .inr (.inr q)
    obtain⟨m0,wj,hl⟩:=I.loc;obtain⟨u,r,lk⟩:=hl j x v hN e4 F4;refine⟨u,r,.inr ⟨zQ pj,?_⟩⟩;rcases lk with⟨q,_⟩|⟨_,c,hc,z⟩
    ·rcases ok.free (x,.free) (iy pj) rfl with q2|q2
     ·exact ot (q.symm.trans q2) (by left)
     ·exact ot (q.symm.trans q2) (by left)
    ·obtain⟨d,hd⟩:=va (env:=X.env) (iy pj);have:=WO ac hd;rw[hc] at this;cases this;obtain⟨oc,e5,e6⟩:=z;exact⟨c,hd,oc,hk c oc e5,e6⟩
 ·intro x c e;obtain⟨v,oc,e5,e6⟩:=I.cell x c (WO ac e);exact⟨v,oc,hk c oc e5,e6⟩
 ·exact I.hok.fresh (fH _)
 ·intro x c e;exact I.freeC x c (WO ac e)
 ·intro p hp;obtain⟨e,n,ne,nf,d⟩:=I.pin p hp;refine⟨hk _ _ e,n,pX e,fun z=>?_,d⟩;rcases fU.mp (I.stkSub p.1 z) with q|q
  ·exact ne q
  ·exact nf q
 ·unfold sub;rw[fF];exact ok.len
def ZdX{σ':St}(I:Inv X dm U H s)(hf:∀b∈fp,za X dm H b)(hC:s.heap.get? C=none)
  (J:Inv (Y6 X Nc scope cl C s H fp) dm σ' H' s') (sb:Heap.SameBut C s'.heap h'):Inv X dm U H' { s' with heap:=h' }:=by
 have u:Un (frs X.stack) fp H H' s.heap s'.heap:=J.base;have Lr:H' C=none:=J.free;have Co:∀{b:Addr}{o:Obj},s.heap.get? b=some o->b≠C:=fun e z=>by rw[z,hC] at e;cases e
 refine I.call' (s':={ s' with heap:=h' }) (ch:=fp) J.os ⟨fun b o e n h1 h2=>?_,fun b o e n h1 h2=>?_,u.free,fun b o e h2=>?_,u.tups,u.frzs,u.tbls⟩ ?_ J.bare fun b hb=>?_
 ·exact(sb.2 b (Co e)).trans (u.keep b o e n h1 h2)
 ·obtain⟨sl,q⟩:=u.slot b o e n h1 h2;exact⟨sl,(sb.2 b (Co e)).trans q⟩
 ·obtain⟨o',q⟩:=u.there b o e h2;exact⟨o',(sb.2 b (Co e)).trans q⟩
 ·intro b o e;refine(J.hok b o e).stay (fun c v hc q=>(sb.2 c ?_).trans q) (fun _ q=>q) fun _ _ q=>q;rintro rfl;rcases hc with z|z
  ·rw[<- z,Lr] at e;cases e
  ·rw[Lr] at z;cases z
 ·obtain⟨f0,f1,f2,f3,f4,f5⟩:=hf b hb;exact⟨f3,f1,f4,f5⟩
def zI(k:Key)(l:List Key):Bool:=l.any fun x=>decide (x=k)
def KZ{k:Key}{l:List Key}:zI k l=true↔k∈l:=by
 unfold zI;rw[l4];constructor
 ·rintro⟨x,hx,e⟩;have:=ge e;subst this;exact hx
 ·intro h;exact⟨k,h,by simp⟩
def Zce(k' k:Key)(l:List Key):(zI k' l||decide (k'=k))=zI k' (l++[k]):=by
 unfold zI;rw[List.any_append]
 by_cases e:k'=k
 ·subst e;simp
 ·have e':¬k=k':=fun z=>e z.symm;simp[e,e']
def Zc3{k:Key}{l:List Key}(h:¬k∈l):zI k l=false:=by
 cases e:zI k l with
 |false=>rfl
 |true=>exact ot (KZ.mp e) h
def Qy{k:Key}{v:Value}(h:VR k v=true):v.scannable=true:=by
 rcases Yt h with⟨i,t,rfl,rfl⟩|⟨x,t,rfl,rfl⟩<;>rfl
def yr{a:Addr}{S S':Key->Bool}{n':Nat}(x:h.SetOf (ZM prog w) a S n)(e:∀k,S k=S' k)(en:n=n'):h.SetOf (ZM prog w) a S' n':=by
 have:S=S':=funext e;subst this;subst en;exact x
def zN{a:Addr}{S:Key->Bool}(x:h.SetOf (ZM prog w) a S n)(k:∀o,h.get? a=some o->h'.get? a=some o):h'.SetOf (ZM prog w) a S n:=by
 obtain⟨o,es,ep,t,ho,r⟩:=x;exact⟨o,es,ep,t,k o ho,r⟩
def Zc0{I ax:Addr}{ks:List Key}(hh:A.handled=none)(oA:ax≠I)(Ec:S≠I)(DV:S≠ax)
  (hv:∀(i:Nat) v,items[i]?=some v->∃k,ks[i]?=some k/\VR k v=true) (hl:ks.length=items.size) (hb:items.size+1<scanBound) :
  ∀(c i:Nat) (s:Shared) (n:Nat),items.size-i=c->i<=items.size->s.heap.IsListIter I ax i/\s.heap.IsList ax items ->
   s.heap.SetOf (ZM prog w) S (fun k=>zI k (ks.take i)) n->n<=i->(n=i↔(ks.take i).Nodup) ->
   (∀(h':Heap) (tk n':Nat),h'.SetOf (ZM prog w) S (fun k=>zI k ks) n'->n'<=ks.length->(n'=ks.length↔ks.Nodup)->(∀b o,b≠S->b≠I->s.heap.get? b=some o->h'.get? b=some o) -> R (.ok (.ret .none)) { s with heap:=h',toks:=tk }) ->
   codeAny (model prog w) A (.builtin "set.update.loop" ⟨[.ref S,.ref I],[]⟩) R s:=by
 have W:=Walks.list (prog:=prog) (w:=w) (A:=A.in1) (by simpa using hh) I ax oA items;intro c
 induction c with
 |zero=>
  intro i s n hc hi st hS hn B8 hR;have e:i=items.size:=by lia
  subst e;refine i3 PyProof.Rows.F.entry_set_update_loop ?_;rw[lH nh _]
  show wpAny _ A.in1 (pyNext (.ref I) >>= _) _ _ s
  refine fE (W.done s _ _ st fun h' tk hk=>?_)
  show wpAny _ A.in1 (ret Value.none) _ _ _
  have et:ks.take items.size=ks:=by rw[<- hl];exact lI
  rw[et] at B8;refine fI (hR h' tk n (yr (zN hS fun o z=>hk S o (by simpa using Ec) z) (fun k=>by rw[et]) rfl) (by lia) (by rw[hl];exact B8) fun b o _ w9 z=>hk b o (by simpa using w9) z)
 |succ c ih=>
  intro i s n hc hi st hS hn B8 hR;have oU:i<items.size:=by lia
  refine i3 PyProof.Rows.F.entry_set_update_loop ?_;rw[lH nh _]
  show wpAny _ A.in1 (pyNext (.ref I) >>= _) _ _ s
  refine fE (W.item i s _ _ oU st fun v h1 tk hP Bc hk=>?_);obtain⟨k,AQ,EF⟩:=hv i v hP;have uZ:h1.SetOf (ZM prog w) S (fun k=>zI k (ks.take i)) n:=zN hS fun o z=>hk S o (by simpa using Ec) z
  show wpAny _ A.in1 (holding [v] (setAdd S v) >>= _) _ _ { s with heap:=h1,toks:=tk }
  refine fE (iq ?_);unfold setAdd;refine iq (fE ((ZM prog w).pyHash (k:=k) EF ?_));refine wpAny_setAddHashed_of (knd:=ZM prog w) (s:={ s with heap:=h1,toks:=tk+1 }) EF (Qy EF) uZ (by lia) fun h2 AY wA=>?_;have O6:i<ks.length:=by lia
  have ek:ks[i]=k:=by
   have:=fG O6;rw[AQ] at this;exact(fW this).symm
  have et:ks.take (i+1)=ks.take i++[k]:=by rw[List.take_add_one,AQ];rfl
  have e1:∀k',(zI k' (ks.take i)||decide (k'=k))=zI k' (ks.take (i+1)):=fun k'=>by rw[et];exact Zce _ _ _
  by_cases sS:k∈ks.take i
  ·have AT:=yr (n':=n) wA e1 (by rw[oq (KZ.mpr sS)]);refine fI ⟨iO nh _,ih (i+1) _ n (by lia) oU (W.frame _ _ _ Bc fun b hb o z=>?_) AT (by lia) ?_ fun h' Cg n' a1 a2 a3 a4=>?_⟩
   ·rw[AY.2 b (fun q=>by subst q;simp at hb;exact hb.elim Ec DV)];exact z
   ·constructor
    ·intro q;lia
    ·intro q;rw[et] at q;exact ot sS (fun z=>(mK.mp q).2.2 _ z _ (by simp) rfl)
   ·exact hR h' Cg n' a1 a2 a3 fun b o Bw w9 z=>a4 b o Bw w9 (by rw[AY.2 b Bw];exact hk b o (by simpa using w9) z)
  ·have AT:=yr (n':=n+1) wA e1 (by rw[Zc3 sS];rfl);refine fI ⟨iO nh _,ih (i+1) _ (n+1) (by lia) oU (W.frame _ _ _ Bc fun b hb o z=>?_) AT (by lia) ?_ fun h' Cg n' a1 a2 a3 a4=>?_⟩
   ·rw[AY.2 b (fun q=>by subst q;simp at hb;exact hb.elim Ec DV)];exact z
   ·rw[et];constructor
    ·intro q;exact mK.mpr ⟨B8.mp (by lia),by simp,fun a ha b hb q2=>by rw[gn.mp hb] at q2;subst q2;exact sS ha⟩
    ·intro q;have:=B8.mpr (mK.mp q).1;lia
   ·exact hR h' Cg n' a1 a2 a3 fun b o Bw w9 z=>a4 b o Bw w9 (by rw[AY.2 b Bw];exact hk b o (by simpa using w9) z)
set_option maxHeartbeats 8000000 in
def jQ{l:Addr}{ks:List Key}(hh:A.handled=none)(hl:s.heap.IsList l items)
  (hv:∀(i:Nat) v,items[i]?=some v->∃k,ks[i]?=some k/\VR k v=true) (hz:ks.length=items.size) (hb:items.size+1<scanBound)
  (h:∀(h':Heap) (tk n:Nat),h'.SetOf (ZM prog w) s.heap.objs.size (fun k=>zI k ks) n->n<=ks.length->(n=ks.length↔ks.Nodup)->(∀b o,s.heap.get? b=some o->h'.get? b=some o)->Q (.ref s.heap.objs.size) { s with heap:=h',toks:=tk }) :
  wpAny (model prog w) A (call (.type "set") [.ref l]) Q E s:=by
 have MG:=i4.made;have w4:=i4.sub;obtain⟨c,tl,Ow⟩:=i4.mro;refine wpAny_call (codeAny_of_tree (fI ⟨Code.quiet_builtin _ (by left),i3 PySem.F.entry_type_call ?_⟩));rw[Around.under_plain (weight_type_call_type "set" [.ref l] []) rfl];have g1:=i4.notType;have g2:=i4.canCreate;have g3:=PySem.F.typeCall_set_1 (.ref l)
 repeat (any_goals (first|assumption|wp_step))
 refine lY (code_set_new_1 (.ref l) (E:=E) (Q₁:=fun obj t=>∃sQ:Bool,obj=.ref s.heap.objs.size/\t={ s with heap:=s.heap.push { cls:=.type "set",dict:=none,data:=.set #[] 0 (.fresh 0 0 sQ) } }) fun sQ=>⟨sQ,rfl,rfl⟩) fun r t hr=>?_;cases r with
 |error e=>exact hr
 |ok fl=>
  cases fl with
  |ret obj=>
   obtain⟨sQ,rfl,rfl⟩:=hr;have hS:(s.heap.push { cls:=.type "set",dict:=none,data:=.set #[] 0 (.fresh 0 0 sQ) }).get? s.heap.objs.size=some { cls:=.type "set",dict:=none,data:=.set #[] 0 (.fresh 0 0 sQ) }:=gB _ rfl;have hT:Shared.TypeIs { s with heap:=s.heap.push { cls:=.type "set",dict:=none,data:=.set #[] 0 (.fresh 0 0 sQ) } } (.ref s.heap.objs.size) "set" := ⟨_,hS,rfl⟩;have hli:=i4.init.lookup;have hbi:=i4.init.bind (.ref s.heap.objs.size)
   repeat (any_goals (first|assumption|wp_step))
   refine lY (codeAny_call_builtin (R:=wants (fun r u=>r=.none/\∃h' tk n,u={ s with heap:=h',toks:=tk }/\h'.SetOf (ZM prog w) s.heap.objs.size (fun k=>zI k ks) n/\n<=ks.length/\(n=ks.length↔ks.Nodup) /\ (∀b o,s.heap.get? b=some o->h'.get? b=some o)) E) i4.init.plain PySem.F.entry_set_init (check_set_init_1 hT ?_)) fun r2 u pR=>?_
   ·obtain⟨ol,Hz,ri,nl,GY⟩:=hl;obtain⟨SZ,By,MA,wW⟩:=ol;simp only at ri GY;subst ri;subst GY;have Gr:(s.heap.push { cls:=.type "set",dict:=none,data:=.set #[] 0 (.fresh 0 0 sQ) }).get? l=some { cls:=.type "list",dict:=By,data:=.seq items nl,slots:=wW }:=fZ _ Hz;have Rf:=PySem.F.sub_list_set;have Ry:=PySem.F.sub_list_frozenset;have oA:(Value.type "list" == Value.type "dict")=false:=by left
    have sK:(s.heap.push { cls:=.type "set",dict:=none,data:=.set #[] 0 (.fresh 0 0 sQ) }).IsList l items:=⟨_,Gr,rfl,nl,rfl⟩;unfold Builtin.«set.__init__» noKeywords Builtin.Frozenset.updateFrom;generalize hPI:pyIter=PI
    wp_walk
    subst hPI;refine wpAny_pyIter_list sK ?_;refine fE (wpAny_runValue ?_);have Le:l<s.heap.objs.size:=fY Hz;have z1:(s.heap.push { cls:=.type "set",dict:=none,data:=.set #[] 0 (.fresh 0 0 sQ) }).objs.size=s.heap.objs.size+1:=Heap.size_push _ _;refine Zc0 (ks:=ks) (items:=items) (ax:=l) (by simpa using hh) (by rw[z1];exact gb (Nat.lt_succ_of_lt Le)) (by rw[z1];exact gb (Μ _)) (gY Le) hv hz hb (items.size-0) 0 _ 0 (by lia) (g9 _)
     ⟨⟨_,gB _ rfl,rfl,rfl⟩,(sK.push _)⟩ ?Bi (fH _) (by simp) ?hR
    case Bi=>
     refine yr (zN (h:=s.heap.push { cls:=.type "set",dict:=none,data:=.set #[] 0 (.fresh 0 0 sQ) }) ?_ fun o z=>fZ _ z) (S:=fun _=>false) (fun k=>rfl) rfl;exact⟨_,#[],0,_,hS,⟨rfl,rfl,rfl⟩,rfl,(fun e he=>by simp at he),(fun k=>by simp[zI]),(by unfold scanBound;decide),rfl,rfl⟩
    case hR=>
     intro h' tk n a1 a2 a3 a4
     show wpAny _ _ _ _ _ _
     refine fI ?_
     show wpAny _ _ (ret Value.none) _ _ _
     refine fI ⟨rfl,h',tk,n,rfl,a1,a2,a3,fun b o z=>?_⟩;have oU:=fY z;exact a4 b o (gb oU) (by rw[z1];exact gb (Nat.lt_succ_of_lt oU)) (fZ _ (fZ _ z))
   ·cases r2 with
    |error e=>exact pR
    |ok fl2=>
     cases fl2 with
     |ret r=>
      obtain⟨rfl,h',tk,n,rfl,a1,a2,a3,a4⟩:=pR
      repeat (any_goals (first|assumption|wp_step))
      exact h _ _ n a1 a2 a3 a4
     |_=>exact pR.elim
  |_=>exact hr.elim
def ZbM(a:Addr)(n:Nat):HO:=.ext fun h=>∃o es ep t,h.get? a=some o/\o.ExactSet/\o.data=.set es ep t/\t.fits es.size=true/\es.size=n
section
variable{X:Cx}
theorem jY:∀{ks:List Key}{us:List Value},ZV (ks.map kV) us->∀(i:Nat) v,us[i]?=some v->∃k,ks[i]?=some k/\VR k v=true
 |[],_,.nil,i,v,h=>by simp at h
 |k::r,_,.cons a b,0,v,h=>by
  simp at h;subst h;refine⟨k,rfl,?_⟩;cases k with
  |inl n=>obtain⟨t,rfl⟩:=a;exact kL n t
  |inr x=>obtain⟨t,rfl⟩:=a;exact xj x t
 |k::r,_,.cons a b,i+1,v,h=>by
  obtain⟨k',e,q⟩:=jY b i v (by simpa using h);exact⟨k',by simpa using e,q⟩
theorem ZdI(hc:X.calm=true):YR X (.type "set") (fun xs H Q=>∃(p:Addr) (ks:List Key),xs=[.ref p]/\SqL X.K H p (ks.map kV)/\ks.length<4000/\∀n a,n<=ks.length->(n=ks.length↔ks.Nodup)->H a=none->Q (.ref a) (upd H a (ZbM a n))):=by
 intro dm s U H xs us Q I r h;obtain⟨p,ks,rfl,hq,hl,q⟩:=h;obtain⟨u,rfl,ru⟩:=Vj r;obtain rfl:u=Value.ref p:=ru;obtain⟨its,rv,pl,hz⟩:=I.list hq;have el:=rv.length;rw[fF] at el;refine jQ (I.ok.hd hc) pl.isList (fun i v e=>jY rv i v (by simpa using e)) (by simpa using el) (by unfold scanBound;simp;lia) fun h' tk n a1 a2 a3 a4=>?_;refine⟨.ref s.heap.objs.size,_,I.laid a4 (fH _) ?_,rfl,q n _ a2 a3 (I.hok.fresh (fH _))⟩;obtain⟨o,es,ep,t,ho,e1,e2,e3,e4,e5,e6,e7⟩:=a1;refine⟨⟨o,es,ep,t,ho,e1,e2,e6,e7⟩,⟨o,ho⟩,?_⟩;rintro h1 h2 ⟨o1,TB,Te,t1,b1,b2⟩ k;exact⟨o1,TB,Te,t1,k _ b1,b2⟩
theorem Zb8:YR X (.builtin "len") (fun xs H Q=>∃a n,xs=[.ref a]/\H a=some (ZbM a n)/\n<4000/\Q (.int n) H):=by
 intro dm s U H xs us Q I r h;obtain⟨a,n,rfl,ha,hn,q⟩:=h;obtain⟨u,rfl,ru⟩:=Vj r;obtain rfl:u=Value.ref a:=ru;obtain⟨⟨o,es,ep,t,e1,e2,e3,e4,e5⟩,_⟩:=I.hok a _ ha;refine call_len_set e1 e2 e3 e4 (by lia) ?_;exact⟨.int n,H,I.tok _,⟨_,by rw[e5]⟩,q⟩
end
def X1(ns:List Int):List Int:=ns.mergeSort fun a b=>decide (a<=b)
def vy(ns:List Int):(X1 ns).Perm ns:=List.mergeSort_perm _ _
def Zey(ns:List Int):(X1 ns).Pairwise (·<=·):=by
 have h:=Ν (le:=fun a b:Int=>decide (a<=b)) (fun a b c h1 h2=>by simp at *; lia) (fun a b=>by simp;lia) ns;exact h.imp fun h=>by simpa using h
def ZeB{ms:List Int}(hp:ms.Perm ns)(hs:ms.Pairwise (·<=·)):ms=X1 ns:=
 W.ksm_same (hp.trans (vy ns).symm) hs (Zey ns)
def leS(a b:Str):Bool:=!decide (b.cps.toList<a.cps.toList)
def jW(a b c:Str)(h1:leS a b=true)(h2:leS b c=true):leS a c=true:=by
 unfold leS at *;simp only[Δ,nJ,List.not_lt] at *;exact List.le_trans h1 h2
def Zch(a b:Str):(leS a b||leS b a)=true:=by
 unfold leS;simp only[ni,Δ,nJ,List.not_lt];exact List.le_total _ _
def Zel{a b:Str}(h1:leS a b=true)(h2:leS b a=true):a=b:=by
 unfold leS at *;simp only[Δ,nJ,List.not_lt] at *;have e:=List.le_antisymm h1 h2;cases a;cases b;simp only[Str.mk.injEq];exact Array.toList_inj.mp e
def VO(ss:List Str):List Str:=ss.mergeSort leS
def zB(ss:List Str):(VO ss).Perm ss:=List.mergeSort_perm _ _
def Zdl(ss:List Str):(VO ss).Pairwise (fun a b=>leS a b=true):=Ν (le:=leS) jW Zch ss
def ZdV{ts:List Str}(hp:ts.Perm ss)(hs:ts.Pairwise fun a b=>leS a b=true):ts=VO ss:=
 (hp.trans (zB ss).symm).eq_of_pairwise (fun x y _ _ h1 h2=>Zel h1 h2) hs (Zdl ss)
def j0:∀(l:List Str) (p:Str),risingS p l=true->(∀y∈l,leS p y=true)/\l.Pairwise fun a b=>leS a b=true
 |[],_,_=>⟨fun _ h=>(nomatch h),.nil⟩
 |x::r,p,h=>by
  have h':(!ltCps x.cps.toList p.cps.toList&&risingS x r)=true:=h;rw[gM] at h';have hx:leS p x=true:=by
   have:=h'.1;rw[ltCps_eq] at this;exact this
  obtain⟨a,b⟩:=j0 r x h'.2;refine⟨fun y hy=>?_,.cons (fun y hy=>a y hy) b⟩;rcases fU.mp hy with rfl|hy
  ·exact hx
  ·exact jW _ _ _ hx (a y hy)
def Q5{l:List Str}(h:sortedS l=true):l.Pairwise fun a b=>leS a b=true:=by
 cases l with
 |nil=>exact .nil
 |cons x r=>
  obtain⟨a,b⟩:=j0 r x h;exact .cons a b
def vq:∀{ss:List Str}{us:List Value},ZV (ss.map V.str) us->StrsAre us ss
 |[],_,.nil=>.nil
 |x::r,_,.cons a b=>by
  obtain⟨t,rfl⟩:=a;exact .cons x t (vq b)
def kF:∀{ss:List Str}{us:List Value},StrsAre us ss->ZV (ss.map V.str) us
 |_,_,.nil=>.nil
 |_,_,.cons y t r=>.cons ⟨t,rfl⟩ (kF r)
def vd:∀{ns:List Int}{us:List Value},IntsAre us ns->ZV (ns.map V.int) us
 |_,_,.nil=>.nil
 |_,_,.cons n t r=>.cons ⟨t,rfl⟩ (vd r)
def xW:∀{bs:List Bool}{us:List Value},ZV (bs.map V.bl) us->∀(i:Nat) v,us[i]?=some v->∃b,bs[i]?=some b/\v=.bool b
 |[],_,.nil,i,v,h=>by simp at h
 |b::r,_,.cons a c,0,v,h=>by simp at h;subst h;exact⟨b,rfl,a⟩
 |b::r,_,.cons a c,i+1,v,h=>by
  obtain⟨b',e,q⟩:=xW c i v (by simpa using h);exact⟨b',by simpa using e,q⟩
def kR:YR X (.builtin "sorted") (fun xs H Q=>∃(p:Addr) (ns:List Int),xs=[.ref p]/\SqL X.K H p (ns.map V.int)/\ns.length<64/\∀l,H l=none->Q (.ref l) (upd H l (.lst ((X1 ns).map V.int)))):=by
 intro dm s U H xs us Q I r h;obtain⟨p,ns,rfl,hq,hl,q⟩:=h;obtain⟨u,rfl,ru⟩:=Vj r;obtain rfl:u=Value.ref p:=ru;obtain⟨its,rv,pl,hz⟩:=I.list hq;have el:=rv.length;rw[fF] at el;refine sorted_ints pl.isList (zy rv) (by lia) fun AG ms a1 a2 a3=>?_;obtain rfl:=ZeB a2 a3;obtain⟨e,he⟩:=sortedAll_at s.heap its AG;have ou:((X1 ns).map V.int).length<=sizeLine:=by rw[fF,(vy ns).length_eq,<- fF (f:=V.int)];exact hz
 have ne:H (s.heap.objs.size+1)=none:=I.hok.fresh (lZ _);exact⟨.ref (s.heap.objs.size+1),_,I.laid (o:=.lst ((X1 ns).map V.int)) (t':=s.toks) (fun b o z=>sortedAll_old z) (lZ _) ⟨ou,AG.toList,e,vd a1,by simpa using he⟩,rfl,q _ ne⟩
def Jr:YR X (.builtin "sorted") (fun xs H Q=>∃(p:Addr) (ss:List Str),xs=[.ref p]/\SqL X.K H p (ss.map V.str)/\ss.length<64/\∀l,H l=none->Q (.ref l) (upd H l (.lst ((VO ss).map V.str)))):=by
 intro dm s U H xs us Q I r h;obtain⟨p,ns,rfl,hq,hl,q⟩:=h;obtain⟨u,rfl,ru⟩:=Vj r;obtain rfl:u=Value.ref p:=ru;obtain⟨its,rv,pl,hz⟩:=I.list hq;have el:=rv.length;rw[fF] at el;refine sorted_strs pl.isList (vq rv) (by lia) fun AG ms a1 a2 a3=>?_;obtain rfl:=ZdV a2 (Q5 a3);obtain⟨e,he⟩:=sortedAll_at s.heap its AG;have ou:((VO ns).map V.str).length<=sizeLine:=by rw[fF,(zB ns).length_eq,<- fF (f:=V.str)];exact hz
 have ne:H (s.heap.objs.size+1)=none:=I.hok.fresh (lZ _);exact⟨.ref (s.heap.objs.size+1),_,I.laid (o:=.lst ((VO ns).map V.str)) (t':=s.toks) (fun b o z=>sortedAll_old z) (lZ _) ⟨ou,AG.toList,e,kF a1,by simpa using he⟩,rfl,q _ ne⟩
def Zbf(K:W.Frag):List V->Hp->VK->Prop:=fun xs H Q=>(∃(p:Addr) (ss:List Str),xs=[.ref p]/\SqL K H p (ss.map V.str)/\ss.length<64/\∀l,H l=none->Q (.ref l) (upd H l (.lst ((VO ss).map V.str))))\/(∃(p:Addr) (ns:List Int),xs=[.ref p]/\SqL K H p (ns.map V.int)/\ns.length<64/\∀l,H l=none->Q (.ref l) (upd H l (.lst ((X1 ns).map V.int))))
def Qd:YR X (.builtin "sorted") (Zbf X.K):=Jr.or kR
def Zb4{bs:List Bool}:((γ bs.length).all fun i=>(bs[i]?).getD true)=bs.all id:=by
 induction bs with
 |nil=>rfl
 |cons b r ih=>
  rw[gu,Ρ,lF,mL,lF,<- ih];rfl
def ZdU(hc:X.calm=true):YR X (.builtin "all") (fun xs H Q=>∃(p:Addr) (bs:List Bool),xs=[.ref p]/\SqL X.K H p (bs.map V.bl)/\Q (.bl (bs.all id)) H):=by
 intro dm s U H xs us Q I r h;obtain⟨p,bs,rfl,hq,q⟩:=h;obtain⟨u,rfl,ru⟩:=Vj r;obtain rfl:u=Value.ref p:=ru;obtain⟨its,rv,pl,hz⟩:=I.list hq;have el:=rv.length;rw[fF] at el;have oU:p<s.heap.objs.size:=by obtain⟨_,e,_⟩:=pl.isList;exact fY e
 refine call_all_walk (wpAny_pyIter_list pl.isList ?_);refine⟨s.heap.objs.size,[s.heap.objs.size,p],[s.heap.objs.size],its.toArray.size,_,_,fun i=>(bs[i]?).getD true,rfl,Walks.list (A:=X.A.in1) (by simpa using I.ok.hd hc) _ p (gb oU) its.toArray,⟨⟨_,gB _ rfl,rfl,rfl⟩,pl.isList.push _⟩,fun i v s' Q' E' hP hQ=>?_,fun h' tk hk=>?_⟩
 ·obtain⟨b,e,rfl⟩:=xW rv i v (by simpa using hP);simp only[e,Option.getD_some] at hQ;exact ip hQ
 ·rw[gf,<- el,Zb4];exact⟨.bl _,H,I.kept fun b o e=>hk b o (by simpa using gb (fY e)) (fZ _ e),rfl,q⟩
def Qw(n:Int):List Int:=(γ n.toNat).map fun(k:Nat)=>(k:Int)
def Q2{lo:Int}(h:ItemsOf (fun i v=>∃t,v=.int (lo+i*1) t) its.toArray n):ZV ((γ n).map fun(k:Nat)=>V.int (lo+(k:Int))) its:=by
 obtain⟨h1,h2⟩:=h;rw[gf] at h1
 induction its generalizing n lo with
 |nil=>simp at h1;subst h1;exact .nil
 |cons u r ih=>
  cases n with
  |zero=>simp at h1
  |succ n=>
   rw[Ρ,fL,fR];obtain⟨t,e⟩:=h2 0 u (by simp);refine .cons ⟨t,by rw[e];simp⟩ ?_;have:=ih (n:=n) (lo:=lo+1) (by simpa using h1) (fun j v hj=>by
    obtain⟨t,e⟩:=h2 (j+1) v (by simpa using hj);exact⟨t,by rw[e];congr 1;push_cast;lia⟩)
   refine(show ZV _ r from ?_);have e2:(γ n).map (fun(k:Nat)=>V.int (lo+1+(k:Int)))=(γ n).map ((fun(k:Nat)=>V.int (lo+(k:Int)))∘Nat.succ):=by
    apply iz;intro k _;simp only[Function.comp]
    congr 1
    push_cast
    lia
   rw[<- e2];exact this
def jR(hc:X.calm=true):YR X (.type "list") (fun xs H Q=>∃(p:Addr) (j:Int),xs=[.ref p]/\H p=some (.rng 0 j)/\0<=j/\j<=1000000/\∀l,H l=none->Q (.ref l) (upd H l (.lst ((Qw j).map V.int)))):=by
 intro dm s U H xs us Q I r h;obtain⟨p,j,rfl,hp,h0,h1,q⟩:=h;obtain⟨u,rfl,ru⟩:=Vj r;obtain rfl:u=Value.ref p:=ru;obtain⟨t,u,v,e⟩:=I.hok p _ hp;refine call_list_range (a:=0) (b:=j) (c:=1) (n:=j.toNat) (I.ok.hd hc) e (small_one (by lia) (by lia) (by lia) (by lia)) (by rw[rangeSize_one];split<;>lia) (by lia) fun h' tk acc c' hk he hi=>?_;have hv:ZV ((Qw j).map V.int) acc.toList:=by
  have:=Q2 (its:=acc.toList) (n:=j.toNat) (lo:=0) (by simpa using hi);unfold Qw;rw[fR];have e2:(γ j.toNat).map (fun(k:Nat)=>V.int (0+(k:Int)))=(γ j.toNat).map (V.int∘fun(k:Nat)=>(k:Int)):=by
   apply iz;intro k _;simp
  rw[<- e2];exact this
 have hz:((Qw j).map V.int).length<=sizeLine:=by unfold Qw;rw[fF,fF,gU,fJ];lia
 exact⟨.ref s.heap.objs.size,_,I.laid (o:=.lst ((Qw j).map V.int)) hk (fH _) ⟨hz,acc.toList,c',hv,by simpa using he⟩,rfl,q _ (I.hok.fresh (fH _))⟩
def ZhO(K:W.Frag)(te:TE)(ts:TO):TE:=fun U H Q=>te U H fun x H1=>ts U H1 fun k H2=>∃a xs,x=.ref a/\k=some (-1)/\SqL K H2 a xs/\∀p,H2 p=none->Q (.ref p) (upd H2 p (.lst xs.reverse))
def ZgX{st:Expr}{ts:TO}{p2:Pos}(he:PE X e te)(hs:PO X (some st) ts):PE X (.Subscript e (.Slice none none (some st) p2) on) (ZhO X.K te ts):=by
 intro dm s U H Q I h;refine Subscript_ (thn (he dm s U H _ I h) fun v s1 ⟨x,H1,I1,r1,q1⟩=>?_);refine wpAny_Slice ?_;rw[evalPart_none];refine fI (fI (thn (hs dm s1 U H1 _ I1 q1) fun vk s3 ⟨k,H3,I3,pk,q3⟩=>?_));obtain⟨a,xs,rfl,rfl,hq,q⟩:=q3;obtain rfl:v=Value.ref a:=r1;obtain⟨its,r,ht,hz⟩:=I3.list hq;have ou:=r.length;have I4:Inv X dm U H3 { s3 with heap:=s3.heap.push { cls:=.type "slice",data:=.fields #[.none,.none,vk] } }:=I3.kept (t':=s3.toks) fun b ob q=>fZ _ q;obtain⟨FW,r4,wE,hz4⟩:=I4.list hq;have LP:=r4.length
 show wpAny (model X.prog X.w) X.A (subscriptTail e (.Slice none none (some st) p2) (.ref a) (.ref s3.heap.objs.size)) (EP X dm U Q) X.xe { s3 with heap:=s3.heap.push { cls:=.type "slice",data:=.fields #[.none,.none,vk] } }
 refine tail_any (ops:=[.ref a,.ref s3.heap.objs.size]) wE.isList.typeIs slot_list_getitem.lookup ?_ (by with_unfolding_all rfl);refine wpAny_getItem_list_slice wE.isList (Heap.IsSliceOf.new ..) .none .none pk (by simp) ?_ (by rw[gf]<;>lia);rw[W.krv_pick];refine⟨.ref _,_,I4.laid (t':=s3.toks) (o:=.lst xs.reverse) (fun b ob q=>fZ _ q) (fH _) ?_,rfl,q _ (I4.hok.fresh (fH _))⟩;exact⟨by rw[l5];exact hz,FW.reverse,0,r4.reverse,gB _ rfl⟩
mutual
inductive Dp(K:W.Frag)(H:Hp):V->PyData->Prop
 |non:Dp K H .non .none
 |bl (b:_):Dp K H (.bl b) (.bool b)
 |int (i:_):Dp K H (.int i) (.int i)
 |str (x:_):Dp K H (.str x) (.str x)
 |lst {a xs ds}:SqL K H a xs->zh K H xs ds->Dp K H (.ref a) (.list ds)
 |tup {a xs ds}:SqT K H a xs->zh K H xs ds->Dp K H (.ref a) (.tuple ds)
inductive zh(K:W.Frag)(H:Hp):List V->List PyData->Prop
 |nil:zh K H [] []
 |cons {v d vs ds}:Dp K H v d->zh K H vs ds->zh K H (v::vs) (d::ds)
end
mutual
theorem Dp.reads(I:Inv X dm U H s):∀{v:V}{d:PyData}{u:Value},Dp X.K H v d->Z6 v u->∃as,Reads s.heap u d as
 |_,_,u,.non,r=>by cases (show u=Value.none from r);exact⟨_,.none⟩
 |_,_,u,.bl b,r=>by cases (show u=Value.bool b from r);exact⟨_,.bool b⟩
 |_,_,u,.int i,r=>by obtain⟨t,e⟩:=(show ∃t,u=Value.int i t from r);cases e;exact⟨_,.int i t⟩
 |_,_,u,.str x,r=>by obtain⟨t,e⟩:=(show ∃t,u=Value.str x t from r);cases e;exact⟨_,.str x t⟩
 |_,_,u,.lst (a:=a) h hs,r=>by
  cases (show u=Value.ref a from r);obtain⟨its,rv,pl,_⟩:=I.list h;obtain⟨o,ho,hc,n,hd⟩:=pl.isList;obtain⟨as,q⟩:=zh.reads I hs rv;exact⟨_,.list ho hc hd (by simpa using q)⟩
 |_,_,u,.tup (a:=a) h hs,r=>by
  cases (show u=Value.ref a from r);obtain⟨its,rv,⟨o,ho,hc,n,hd⟩,_⟩:=I.tuple h;obtain⟨as,q⟩:=zh.reads I hs rv;exact⟨_,.tuple ho hc hd (by simpa using q)⟩
theorem zh.reads(I:Inv X dm U H s):∀{vs:List V}{ds:List PyData}{us:List Value},zh X.K H vs ds->ZV vs us->∃as,ReadsAll s.heap us ds as
 |_,_,_,.nil,.nil=>⟨_,.nil⟩
 |_,_,_,.cons h hs,.cons r rs=>by
  obtain⟨as,a⟩:=h.reads I r;obtain⟨bs,b⟩:=hs.reads I rs;exact⟨_,.cons a b⟩
end
inductive Zct(K:W.Frag)(neg:Bool)(x:V)(y:V)(H:Hp)(Q:VK):Prop
 |mk (d:_) (e:_) (h0:Dp K H x d) (h1:Dp K H y e) (h2:d.canLay0=true) (h3:e.canLay0=true) (h4:d.depth<=60) (h5:Q (.bl (if neg then !PyData.eqv d e else PyData.eqv d e)) H):Zct K neg x y H Q
def ZbS(K:W.Frag)(neg:Bool):R2:=fun x y H Q=>Zct K neg x y H Q
theorem Zgn(hu:X.A.units+64<cLine):OpR X (compareOp .Eq) (ZbS X.K false):=by
 intro dm s U H x y u v Q I rx ry h;obtain⟨d,e,hx,hy,c1,c2,dp,q⟩:=h;obtain⟨as,a⟩:=hx.reads I rx;obtain⟨bs,b⟩:=hy.reads I ry;exact SeqAt.compareEq_reads a b c1 c2 (by lia) ⟨.bl _,H,I,rfl,q⟩
theorem Zgl(hu:X.A.units+64<cLine):OpR X (compareOp .NotEq) (ZbS X.K true):=by
 intro dm s U H x y u v Q I rx ry h;obtain⟨d,e,hx,hy,c1,c2,dp,q⟩:=h;obtain⟨as,a⟩:=hx.reads I rx;obtain⟨bs,b⟩:=hy.reads I ry;exact SeqAt.compareNe_reads a b c1 c2 (by lia) ⟨.bl _,H,I,rfl,q⟩
inductive ZeD(K:W.Frag)(T:String)(xs:List V)(H:Hp)(Q:VK):Prop
 |mk (x:_) (t:_) (b:_) (h0:xs=[x,.ty T]) (h1:qZ K H x t) (h2:W.kitOne K t (.type T)=some b) (h3:Q (.bl b) H):ZeD K T xs H Q
def Zg8(K:W.Frag)(T:String):List V->Hp->VK->Prop:=fun xs H Q=>ZeD K T xs H Q
theorem Zep(T:String):YR X (.builtin "isinstance") (Zg8 X.K T):=by
 intro dm s U H xs us Q I r h;obtain⟨x,t,b,rfl,ht,hk,q⟩:=h;obtain⟨u,v,rfl,ru,rv⟩:=Qr r;obtain rfl:v=Value.type T:=rv;exact jT I ru ht hk fun tk=>⟨.bl b,H,I.tok _,rfl,q⟩
example (K:W.Frag):W.kitOne K (.type "int") (.type "list")=some false:=by rfl
example (K:W.Frag):W.kitOne K (.type "bool") (.type "int")=some true:=by rfl
def New(H H':Hp):Hp:=fun b=>if(H b).isSome=true then none else H' b
def hide(D:Addr)(H:Hp):Hp:=fun b=>if b=D then none else H b
theorem New.of{b:Addr}(h:New H H' b=some o):H b=none/\H' b=some o:=by
 unfold New at h
 split at h
 ·cases h
 ·rename_i q
  refine⟨?_,h⟩;cases e:H b with
  |none=>rfl
  |some u=>rw[e] at q;exact ot rfl q
theorem New.mk{b:Addr}(h:H b=none)(h':H' b=some o):New H H' b=some o:=by
 unfold New;rw[h];exact h'
theorem New.sub:Zg (New H H') H':=fun _ _ h=>(New.of h).2
theorem New.mono{H3:Hp}(a:Zg H H1)(b:Zg H2 H3):Zg (New H1 H2) (New H H3):=fun c o h=>
 let ⟨h1,h2⟩:=New.of h
 New.mk (a.free h1) (b c o h2)
theorem Zi(h:H p=none):Zg H (upd H p o):=fun b u e=>by rw[ZF (Zr e h)];exact e
theorem XC:Zg (hide D H) H:=fun b o h=>by
 unfold hide at h
 split at h
 ·cases h
 ·exact h
theorem Vy{b:Addr}(h:hide D H b=some o):b≠D/\H b=some o:=by
 unfold hide at h
 split at h
 ·cases h
 ·rename_i q;exact⟨q,h⟩
theorem Xa{b:Addr}(n:b≠D)(h:H b=some o):hide D H b=some o:=by
 unfold hide;rw[oo n];exact h
def ZB(D:Addr)(H H':Hp):Prop:=∀b o,b≠D->H b=some o->H' b=some o
theorem Zg.x(h:Zg H H'):ZB D H H':=fun b o _ e=>h b o e
theorem ZB.refl(H:Hp):ZB D H H:=fun _ _ _ e=>e
theorem ZB.trans(a:ZB D H H1)(b:ZB D H1 H2):ZB D H H2:=fun c o n e=>b c o n (a c o n e)
theorem ZB.upd{D:Addr}{H H':Hp}{o:HO}(a:ZB D H H'):ZB D H (upd H' D o):=fun c u n e=>by rw[ZF n];exact a c u n e
theorem ZB.same(a:ZB D H H')(h:H D=none):Zg H H':=fun c u e=>a c u (Zr e h) e
theorem Zg.seqT{a:Addr}(e:Zg H H')(h:SqT K H a xs):SqT K H' a xs:=by
 rcases h with(h|⟨o,h⟩)|h
 ·exact .inl (.inl (e _ _ h))
 ·exact .inl (.inr ⟨o,e _ _ h⟩)
 ·exact .inr h
def Zht(K:W.Frag):List V->Hp->VK->Prop:=fun xs H Q=>(∃p ys,xs=[.ref p]/\(SqL K H p ys\/SqT K H p ys)/\Q (.int ys.length) H)\/((∃z,xs=[.str z]/\z.length<=sizeLine/\Q (.int z.length) H)\/∃a n,xs=[.ref a]/\H a=some (ZbM a n)/\n<4000/\Q (.int n) H)
theorem ZbQ:YR X (.builtin "len") (Zht X.K):=JR.or (k6.or Zb8)
def Zej(K:W.Frag):List V->Hp->VK->Prop:=fun xs H Q=>(∃p ys,xs=[.ref p]/\(SqL K H p ys\/SqT K H p ys)/\∀l,H l=none->Q (.ref l) (upd H l (.lst ys)))\/(∃(p:Addr) (j:Int),xs=[.ref p]/\H p=some (.rng 0 j)/\0<=j/\j<=1000000/\∀l,H l=none->Q (.ref l) (upd H l (.lst ((Qw j).map V.int))))
theorem Zao(hc:X.calm=true):YR X (.type "list") (Zej X.K):=Jh.or (jR hc)
theorem W9{x:Str}(hg:Gl X x)(h:∃u,X.mg x=some u/\Z6 v u)(hd:(x==("__debug__" : Str))=false:=by left):PE X (.Name x on) (tC v):=by
 obtain⟨u,hm,r⟩:=h;exact Zfz hg hm r hd
def ZZ(sc:Scope)(N Nc:List Str)(ix:List (Option Nat))(scope:Scope):Bool:=
 decide (scope.kind=.function)&&scope.names.all (fun y=>decide (y.2≠.cell))&&scope.names.all (fun y=>decide (y.2=.local->scope.names.lookup y.1=some .local)) &&
 scope.names.all (fun y=>decide (y.2=.free->sc.names.lookup y.1=some .cell\/sc.names.lookup y.1=some .free))&&decide (ix.length=Nc.length) &&
 (ix.zip Nc).all fun p=>match p.1 with|none=>true|some j=>N[j]?==some p.2&&scope.names.lookup p.2==some .free
theorem ZX.of(h:ZZ sc N Nc ix scope=true):ZX sc N Nc ix scope:=by
 unfold ZZ at h;simp only[gM] at h;obtain⟨⟨⟨⟨⟨h1,h2⟩,h3⟩,h4⟩,h5⟩,h6⟩:=h;exact⟨ge h1,fun y hy=>ge (ie.mp h2 y hy),fun y hy=>ge (ie.mp h3 y hy),fun y hy=>ge (ie.mp h4 y hy),ge h5,h6⟩
def Its(x:Str):It:=⟨fun i _=>i<x.cps.size,fun i H v H'=>H'=H/\∃c,x.cps[i]?=some c/\v=.str ⟨#[c]⟩,fun i _=>x.cps.size<=i⟩
theorem Zdz{x:Str}{t:Tok}{ty:String}
  (Cy:["enumerate","zip","dict_itemiterator","dict_reverseitemiterator","odict_iterator","itertools.zip_longest","itertools.pairwise"].contains ty=false)
  (W:∀A':Around,A'.handled=none->Walks P w A' it [it] [it] x.cps.size (SignAt x) (fun i h=>h.IsStrIter it ty x t i))
  (self:∀(A:Around) (i:Nat) (s:Shared) (Q:Value->Shared->Prop) (E:Value->Shared->Prop),s.heap.IsStrIter it ty x t i->Q (.ref it) s->wpAny (model P w) A (pyIter (.ref it)) Q E s) :
  Qx P w K tg (Its x) [it] it (fun i h=>i<=x.cps.size/\h.IsStrIter it ty x t i) where
 mem:=by simp
 obj:=fun i h st b hb=>by
  have e:b=it:=by simpa using hb
  subst e;obtain⟨_,o,e,c,d⟩:=st;exact⟨o,e,fun v z=>by rw[d] at z;cases z⟩
 keep:=fun i h h' st k=>by
  obtain⟨l,o,e,c,d⟩:=st;exact⟨l,o,k it (by simp) o e,c,d⟩
 item:=by
  intro X hP hw hK hc i dm s U H E I hf st hg;subst hP hw hK;obtain⟨f0,f1,f2,f3,f4,f5⟩:=hf it (by simp);refine(W X.A (I.ok.hd hc)).item i s _ _ hg st.2 fun v h' tk hv rB kk=>?_;obtain⟨c,u,Sr,rfl⟩:=hv;have I1:L2.Inv X dm U H { s with heap:=h',toks:=tk }:=I.turned (fun b o hb e=>kk b o (by simpa using hb) e) f0 f1 f3 f4 f5;obtain⟨o,e,oc,od⟩:=id rB;exact⟨_,rfl,Qh (s:={ s with heap:=h',toks:=tk }) e oc od Cy ⟨.str ⟨#[c]⟩,H,I1,⟨u,rfl⟩,⟨rfl,c,Sr,rfl⟩,⟨hg,rB⟩,fun b hb=>(hf b hb).1⟩⟩
 done:=by
  intro X hP hw hK hc i dm s U H E I hf st hg;subst hP hw hK;obtain⟨f0,f1,f2,f3,f4,f5⟩:=hf it (by simp);have e:i=x.cps.size:=Nat.le_antisymm st.1 hg;subst e;exact(W X.A (I.ok.hd hc)).done s _ _ st.2 fun h' tk kk=>⟨rfl,I.turned (fun b o hb e=>kk b o (by simpa using hb) e) f0 f1 f3 f4 f5⟩
 self:=fun A i s Q E st h=>self A i s Q E st.2 h
def iStr(tl:TE):TI:=fun U H R=>tl U H fun v H1=>∃x,v=.str x/\R (Its x) H1
theorem Zgr{l:Expr}(hl:PE X l tl):PI X tg l (iStr tl):=by
 intro dm s U H R I h;refine thn (hl dm s U H _ I h) fun v s1 ⟨y,H1,I1,r1,x,e,q⟩=>?_;subst e;obtain⟨t,rfl⟩:=(show ∃t,v=Value.str x t from r1);have oy:∀(ty:String),["enumerate","zip","dict_itemiterator","dict_reverseitemiterator","odict_iterator","itertools.zip_longest","itertools.pairwise"].contains ty=false ->
   (∀A':Around,A'.handled=none->Walks X.prog X.w A' s1.heap.objs.size [s1.heap.objs.size] [s1.heap.objs.size] x.cps.size (SignAt x) (fun i h=>h.IsStrIter s1.heap.objs.size ty x t i)) ->
   (∀(A:Around) (i:Nat) (s:Shared) (Q:Value->Shared->Prop) (E:Value->Shared->Prop),s.heap.IsStrIter s1.heap.objs.size ty x t i->Q (.ref s1.heap.objs.size) s->wpAny (model X.prog X.w) A (pyIter (.ref s1.heap.objs.size)) Q E s) ->
   PIE X dm U tg R (.ref s1.heap.objs.size) { s1 with heap:=s1.heap.push { cls:=.type ty,data:=.fields #[.str x t,.int 0 0] } }:=fun ty h1 h2 h3=>by
  refine⟨s1.heap.objs.size,[s1.heap.objs.size],_,_,H1,rfl,I1.kept (t':=s1.toks) fun b o e=>fZ _ e,Zdz h1 h2 h3,⟨g9 _,_,gB _ rfl,rfl,rfl⟩,fun b hb=>?_,q⟩;have e:b=s1.heap.objs.size:=by simpa using hb
  subst e;exact I1.fpOk (fH _) (I1.hok.fresh (fH _))
 cases ha:x.cps.all (·<128)
 ·exact wpAny_pyIter_wide ha (oy "str_iterator" (by left) (fun A' hA=>Walks.strWide hA _ x t) fun _ _ _ _ _ st h=>wpAny_pyIter_striter_wide st h)
 ·exact wpAny_pyIter_ascii ha (oy "str_ascii_iterator" (by left) (fun A' hA=>Walks.strAscii hA _ x t) fun _ _ _ _ _ st h=>wpAny_pyIter_striter_ascii st h)
theorem Zy(hK:X.K=K):YR X (.builtin "len") (Zht K):=by subst hK;exact ZbQ
theorem UU(hK:X.K=K):YR X (.builtin "sorted") (Zbf K):=by subst hK;exact Qd
def rAll(K:W.Frag):List V->Hp->VK->Prop:=fun xs H Q=>∃(p:Addr) (bs:List Bool),xs=[.ref p]/\SqL K H p (bs.map V.bl)/\Q (.bl (bs.all id)) H
theorem Uh(hK:X.K=K)(hc:X.calm=true):YR X (.builtin "all") (rAll K):=by subst hK;exact ZdU hc
theorem Xz(hK:X.K=K)(hc:X.calm=true):YR X (.type "list") (Zej K):=by subst hK;exact Zao hc
def Zfy(K:W.Frag):List V->Hp->VK->Prop:=fun xs H Q=>∃p ys,xs=[.ref p]/\((SqL K H p ys/\∀l,H l=none->Q (.ref l) (upd H l (.tup ys)))\/(SqT K H p ys/\Q (.ref p) H))
theorem Z9(hK:X.K=K):YR X (.type "tuple") (Zfy K):=by subst hK;exact jz
def ZhE(K:W.Frag):List V->Hp->VK->Prop:=fun xs H Q=>∃(p:Addr) (ks:List Key),xs=[.ref p]/\SqL K H p (ks.map kV)/\ks.length<4000/\∀n a,n<=ks.length->(n=ks.length↔ks.Nodup)->H a=none->Q (.ref a) (upd H a (ZbM a n))
theorem j7(hK:X.K=K)(hc:X.calm=true):YR X (.type "set") (ZhE K):=by subst hK;exact ZdI hc
theorem Wg(hK:X.K=K)(T:String):YR X (.builtin "isinstance") (Zg8 K T):=by subst hK;exact Zep T
theorem Zk(hK:X.K=K):IxR X (Zhh K):=by subst hK;exact ZeR
theorem ZD(hK:X.K=K):IxR X (Zh9 K):=by subst hK;exact Zg0
theorem YI(hK:X.K=K):SlR X (Zhl K):=by subst hK;exact Zfc
theorem WJ(hK:X.K=K):OpR X (compareOp .In) (rIn K false):=by subst hK;exact ZbU
theorem Jx(hK:X.K=K)(hu:X.A.units+64<cLine):OpR X (compareOp .Eq) (ZbS K false):=by subst hK;exact Zgn hu
theorem ZfH(hK:X.K=K)(hu:X.A.units+64<cLine):OpR X (compareOp .NotEq) (ZbS K true):=by subst hK;exact Zgl hu
theorem ZQ{l:Expr}(hK:X.K=K)(hl:PE X l tl):PI X tg l (ZdR K tl):=by subst hK;exact ZeT hl
theorem Uw{k:Nat}{t:TGs}(hK:X.K=K)(hc:X.calm=true)(h:PGs X es t)
  (hn:(assignEach es X.env).length=n:=by rfl) (oz:(assignEach es X.env).findIdx? (·.1)=none:=by rfl):PG X (.Tuple es k on) (Zhv K n t):=by subst hK;exact Zgj hc h hn oz
theorem ZU{f:Str}{ta:TE}(hK:X.K=K)(he:PE X e ta)(hb:attributeBase e f X.env (eval e X.env)=eval e X.env):PE X (.Attribute e f on) (ZhL K ta f):=by subst hK;exact Zgk he hb
theorem Za5{st:Expr}{ts:TO}{p2:Pos}(hK:X.K=K)(he:PE X e te)(hs:PO X (some st) ts):PE X (.Subscript e (.Slice none none (some st) p2) on) (ZhO K te ts):=by subst hK;exact ZgX he hs
inductive Kd(H:Hp):V->Prop
 |non:Kd H .non
 |bl (b:Bool):Kd H (.bl b)
 |int (i:Int):Kd H (.int i)
 |str (z:Str) (hz:z.length<=1000):Kd H (.str z)
 |lst {a:Addr}{xs:List V} (e:H a=some (.lst xs)):Kd H (.ref a)
 |tup {a:Addr}{xs:List V} (e:H a=some (.tup xs)):Kd H (.ref a)
 |dK {a:Addr}{kvs:List (Key×V)} (e:H a=some (.dK kvs)):Kd H (.ref a)
theorem Kd.mono{x:V}(s:Zg H H')(h:Kd H x):Kd H' x:=by
 cases h with
 |non=>exact .non
 |bl b=>exact .bl b
 |int i=>exact .int i
 |str z hz=>exact .str z hz
 |lst e=>exact .lst (s _ _ e)
 |tup e=>exact .tup (s _ _ e)
 |dK e=>exact .dK (s _ _ e)
def XS(H:Hp)(T:String):V->Bool
 |.bl _=>T == "bool" || T == "int"
 |.int _=>T == "int"
 |.str _=>T == "str"
 |.ref a=>match H a with
  |some (.lst _)=>T == "list"
  |some (.tup _)=>T == "tuple"
  |some (.dK _)=>T == "dict"
  |_=>false
 |_=>false
theorem ZgI{x:V}{Q:VK}(hT:T = "int" \/ T = "bool" \/ T = "str" \/ T = "list" \/ T = "tuple")(h:Kd H x)(q:Q (.bl (XS H T x)) H):Zg8 K T [x,.ty T] H Q:=by
 rcases hT with rfl|rfl|rfl|rfl|rfl
 all_goals
  cases h with
  |non=>exact⟨_,_,_,rfl,.non,rfl,q⟩
  |bl b=>exact⟨_,_,_,rfl,.bl b,rfl,q⟩
  |int i=>exact⟨_,_,_,rfl,.int i,rfl,q⟩
  |str z hz=>exact⟨_,_,_,rfl,.str z,rfl,q⟩
  |lst e=>first|exact⟨_,_,false,rfl,.lst e,rfl,by simpa[XS,e] using q⟩|exact⟨_,_,true,rfl,.lst e,rfl,by simpa[XS,e] using q⟩
  |tup e=>first|exact⟨_,_,false,rfl,.tup e,rfl,by simpa[XS,e] using q⟩|exact⟨_,_,true,rfl,.tup e,rfl,by simpa[XS,e] using q⟩
  |dK e=>first|exact⟨_,_,false,rfl,.dK e,rfl,by simpa[XS,e] using q⟩|exact⟨_,_,true,rfl,.dK e,rfl,by simpa[XS,e] using q⟩
def vY(c:Nat):Bool:=decide (97<=c/\c<=122)
def Xs(z:Str):Bool:=decide (1<=z.length)&&decide (z.length<=8)&&z.cps.toList.all vY
def Xx:V->Bool
 |.str z=>Xs z
 |_=>false
def Jf:V->Bool
 |.int _=>true
 |_=>false
def Xl(n:Int):V->Bool
 |.int i=>decide (0<=i)&&decide (i<n)
 |_=>false
def Wq(H:Hp):V->Option (List V)
 |.ref a=>match H a with
  |some (.lst xs)=>some xs
  |_=>none
 |_=>none
theorem Xo{a:Addr}(h:H a=some (.lst xs)):Wq H (.ref a)=some xs:=by simp[Wq,h]
theorem zG{x:V}(s:Zg H H')(k:Kd H x):Wq H' x=Wq H x:=by
 cases k with
 |non=>rfl
 |bl b=>rfl
 |int i=>rfl
 |str z hz=>rfl
 |lst e=>rw[Xo e,Xo (s _ _ e)]
 |tup e=>simp[Wq,e,s _ _ e]
 |dK e=>simp[Wq,e,s _ _ e]
def Yu(H:Hp)(x:V):Bool:=match Wq H x with
 |some xs=>xs.all Xx&&decide xs.Nodup
 |none=>false
def Wt(H:Hp)(n:Int)(x:V):Bool:=match Wq H x with
 |some xs=>xs.all (Xl n)
 |none=>false
def Ye(H:Hp)(n:Int)(x:V):Bool:=match Wq H x with
 |some xs=>xs.all (Xl n)&&!xs.isEmpty&&decide xs.Nodup
 |none=>false
def KdL(H:Hp)(x:V):Prop:=Kd H x/\∀xs,Wq H x=some xs->xs.length<=1000/\∀y∈xs,Kd H y
def Zcq(H:Hp)(x:V):Prop:=Kd H x/\∀xs,Wq H x=some xs->xs.length<=1000/\∀y∈xs,KdL H y
theorem KdL.mono{H H':Hp}{x:V}(s:Zg H H')(h:KdL H x):KdL H' x:=
 ⟨h.1.mono s,fun xs e=>by
  rw[zG s h.1] at e;exact⟨(h.2 xs e).1,fun y hy=>((h.2 xs e).2 y hy).mono s⟩⟩
theorem zr{x:V}(s:Zg H H')(k:Kd H x):Yu H' x=Yu H x:=by unfold Yu;rw[zG s k]
theorem qt{x:V}{n:Int}(s:Zg H H')(k:Kd H x):Ye H' n x=Ye H n x:=by unfold Ye;rw[zG s k]
def Zfx:Option (List V)->Bool
 |some fs=>decide (fs.length<=3)
 |none=>false
def U3(H:Hp)(s w st f:V):Bool:=match Wq H s,Wq H w with
 |some ss,some ws=>decide (1<=ss.length)&&decide (ss.length<=20)&&decide (ws.length=ss.length)&&ss.all (Yu H)&&ws.all (Ye H ss.length)&&(Ye H ss.length st&&(Yu H f&&Zfx (Wq H f)))
 |_,_=>false
theorem ZfS{a b:Key}:kV a≠kV b↔a≠b:=by
 constructor
 ·intro h e;exact h (by rw[e])
 ·intro h e;apply h;cases a<;>cases b<;>simp[kV] at e<;>simp[e]
theorem Zco(ks:List Key):(ks.map kV).Nodup↔ks.Nodup:=by
 unfold δ;rw[Ε];exact⟨fun h=>h.imp fun q=>ZfS.mp q,fun h=>h.imp fun q=>ZfS.mpr q⟩
theorem vA:∀{xs:List V},xs.all Xx=true->∃ks:List Key,xs=ks.map kV
 |[],_=>⟨[],rfl⟩
 |x::r,h=>by
  rw[lF,gM] at h;obtain⟨ks,rfl⟩:=vA h.2;cases x with
  |str z=>exact⟨.inr z::ks,rfl⟩
  |_=>exact ot h.1 (by simp[Xx])
theorem vo{n:Int}:∀{xs:List V},xs.all (Xl n)=true->∃ks:List Key,xs=ks.map kV
 |[],_=>⟨[],rfl⟩
 |x::r,h=>by
  rw[lF,gM] at h;obtain⟨ks,rfl⟩:=vo h.2;cases x with
  |int z=>exact⟨.inl z::ks,rfl⟩
  |_=>exact ot h.1 (by simp[Xl])
theorem Zbj{m:Nat}{ks:List Key}(hm:m=(ks.map kV).length)(h:n=ks.length↔ks.Nodup):decide (V.int (n:Nat)=V.int (m:Nat))=decide (ks.map kV).Nodup:=by
 have e:(V.int (n:Nat)=V.int (m:Nat))↔(ks.map kV).Nodup:=by
  rw[Zco,<- h];constructor
  ·intro q;have q':((n:Nat):Int)=((m:Nat):Int):=V.int.inj q;rw[fF] at hm;lia
  ·intro q;rw[fF] at hm;rw[q,hm]
 exact l7.mpr e
theorem VN{α:Type}{f:α->Bool}:∀{xs:List α}{ys:List V},ys.length=xs.length->(∀(i:Nat) v x,ys[i]?=some v->xs[i]?=some x->v=.bl (f x))->ys=(xs.map f).map V.bl
 |[],ys,hl,_=>by simp at hl;subst hl;rfl
 |x::r,[],hl,_=>by simp at hl
 |x::r,y::ys,hl,h=>by
  have e:=h 0 y x rfl rfl;subst e;rw[fL,fL,VN (xs:=r) (ys:=ys) (f:=f) (by simpa using hl) fun i v z h1 h2=>h (i+1) v z (by simpa using h1) (by simpa using h2)]
theorem jc(f:α->Bool)(xs:List α):(xs.map f).all id=xs.all f:=by
 rw[mL];rfl
theorem KG(c:Nat):decide (c∈("abcdefghijklmnopqrstuvwxyz" : Str).cps.toList)=vY c:=by
 have e:("abcdefghijklmnopqrstuvwxyz" : Str).cps.toList=(γ 26).map (·+97):=by left
 rw[e];unfold vY;refine l7.mpr ?_;rw[fM];constructor
 ·rintro⟨k,hk,rfl⟩;have:=i9.mp hk;lia
 ·rintro⟨h1,h2⟩;exact⟨c-97,i9.mpr (by lia),by lia⟩
theorem Vm(K:W.Frag){x:V}{b:Bool}(hT:T = "int" \/ T = "bool" \/ T = "str" \/ T = "list" \/ T = "tuple")(h:Kd H x)(hb:XS H T x=b):∃t,qZ K H x t/\W.kitOne K t (.type T)=some b:=by
 obtain⟨y,t,c,e,h1,h2,q⟩:=ZgI (K:=K) (Q:=fun v _=>v=.bl b) hT h (by rw[hb]);have e1:x=y:=(iI e).1;have e2:c=b:=V.bl.inj q;subst e1;subst e2;exact⟨t,h1,h2⟩
theorem Zg7{x:V}(h:Kd H x):(XS H "str" x=true/\∃z,x=.str z/\z.length<=1000)\/(XS H "str" x=false/\Xx x=false):=by
 cases h with
 |str z hz=>exact .inl ⟨rfl,z,rfl,hz⟩
 |non=>exact .inr ⟨rfl,rfl⟩
 |bl b=>exact .inr ⟨rfl,rfl⟩
 |int i=>exact .inr ⟨rfl,rfl⟩
 |lst e=>exact .inr ⟨by simp[XS,e],rfl⟩
 |tup e=>exact .inr ⟨by simp[XS,e],rfl⟩
 |dK e=>exact .inr ⟨by simp[XS,e],rfl⟩
theorem qU{x:V}(h:Kd H x):(XS H "list" x=true/\∃a xs,x=.ref a/\H a=some (.lst xs)/\Wq H x=some xs)\/(XS H "list" x=false/\Wq H x=none):=by
 cases h with
 |str z hz=>exact .inr ⟨rfl,rfl⟩
 |non=>exact .inr ⟨rfl,rfl⟩
 |bl b=>exact .inr ⟨rfl,rfl⟩
 |int i=>exact .inr ⟨rfl,rfl⟩
 |lst e=>exact .inl ⟨by simp[XS,e],_,_,rfl,e,Xo e⟩
 |tup e=>exact .inr ⟨by simp[XS,e],by simp[Wq,e]⟩
 |dK e=>exact .inr ⟨by simp[XS,e],by simp[Wq,e]⟩
def LS(H:Hp)(v:V)(ss:List Str):Prop:=∃a,v=.ref a/\H a=some (.lst (ss.map V.str))
def LI(H:Hp)(v:V)(ns:List Int):Prop:=∃a,v=.ref a/\H a=some (.lst (ns.map V.int))
def TS(H:Hp)(v:V)(ss:List Str):Prop:=∃a,v=.ref a/\H a=some (.tup (ss.map V.str))
def TIn(H:Hp)(v:V)(ns:List Int):Prop:=∃a,v=.ref a/\H a=some (.tup (ns.map V.int))
def LL(r:Hp->V->α->Prop)(H:Hp)(v:V)(xs:List α):Prop:=∃a vs,v=.ref a/\H a=some (.lst vs)/\vs.length=xs.length/\∀(i:Nat) v x,vs[i]?=some v->xs[i]?=some x->r H v x
def LT(r:Hp->V->α->Prop)(H:Hp)(v:V)(xs:List α):Prop:=∃a vs,v=.ref a/\H a=some (.tup vs)/\vs.length=xs.length/\∀(i:Nat) v x,vs[i]?=some v->xs[i]?=some x->r H v x
def Mon(r:Hp->V->α->Prop):Prop:=∀H H' v x,Zg H H'->r H v x->r H' v x
theorem LS.mono:Mon LS:=fun _ _ _ _ s ⟨a,e,h⟩=>⟨a,e,s _ _ h⟩
theorem LI.mono:Mon LI:=fun _ _ _ _ s ⟨a,e,h⟩=>⟨a,e,s _ _ h⟩
theorem TS.mono:Mon TS:=fun _ _ _ _ s ⟨a,e,h⟩=>⟨a,e,s _ _ h⟩
theorem TIn.mono:Mon TIn:=fun _ _ _ _ s ⟨a,e,h⟩=>⟨a,e,s _ _ h⟩
theorem LL.mono(m:Mon r):Mon (LL r):=fun _ _ _ _ s ⟨a,vs,e,h,l,q⟩=>⟨a,vs,e,s _ _ h,l,fun i v x h1 h2=>m _ _ _ _ s (q i v x h1 h2)⟩
theorem LT.mono(m:Mon r):Mon (LT r):=fun _ _ _ _ s ⟨a,vs,e,h,l,q⟩=>⟨a,vs,e,s _ _ h,l,fun i v x h1 h2=>m _ _ _ _ s (q i v x h1 h2)⟩
theorem ZB.hide{p:Addr}{H H':Hp}(s:ZB p H H'):Zg (hide p H) (hide p H'):=fun b o h=>
 let ⟨n,e⟩:=Vy h
 Xa n (s b o n e)
structure WD where
 signs:List (List Str)
 ways:List (List Int)
 starts:List Int
 fair:List Str
structure Wa(H:Hp)(s w st f:V)(d:WD):Prop where
 s:LL LS H s d.signs
 w:LL LI H w d.ways
 st:LI H st d.starts
 f:LS H f d.fair
theorem Wa.mono{H H':Hp}{s w st f:V}{d:WD}(e:Zg H H')(h:Wa H s w st f d):Wa H' s w st f d:=
 ⟨LL.mono LS.mono _ _ _ _ e h.s,LL.mono LI.mono _ _ _ _ e h.w,LI.mono _ _ _ _ e h.st,LS.mono _ _ _ _ e h.f⟩
structure QQ(d:WD):Prop where
 n1:1<=d.signs.length
 n20:d.signs.length<=20
 wl:d.ways.length=d.signs.length
 sn:∀ss∈d.signs,ss.Nodup/\(∀x∈ss,Xs x=true)/\ss.length<=30
 wn:∀ns∈d.ways,ns.Nodup/\ns≠[]/\(∀x∈ns,0<=x/\x<d.signs.length)/\ns.length<=20
 stn:d.starts.Nodup/\d.starts≠[]/\(∀x∈d.starts,0<=x/\x<d.signs.length)/\d.starts.length<=20
 fn:d.fair.Nodup/\(∀x∈d.fair,Xs x=true)/\d.fair.length<=3
theorem xa{β:Type}{f:α->β}(hf:∀a b,f a=f b->a=b){l:List α}(h:l.Nodup):(l.map f).Nodup:=by
 unfold δ at *;rw[Ε];exact h.imp fun q e=>q (hf _ _ e)
theorem ZeK(a b:Str)(h:V.str a=V.str b):a=b:=V.str.inj h
theorem ZfA(a b:Int)(h:V.int a=V.int b):a=b:=V.int.inj h
theorem jy{z:Str}(h:Xs z=true):z.length<=8:=by
 unfold Xs at h;simp only[gM,nj] at h;exact h.1.2
theorem LS.kd(h:LS H v ss)(hl:ss.length<=1000)(hn:∀x∈ss,Xs x=true):KdL H v:=by
 obtain⟨a,rfl,e⟩:=h;refine⟨.lst e,fun xs q=>?_⟩;rw[Xo e] at q;cases q;refine⟨by rw[fF];exact hl,fun y hy=>?_⟩;obtain⟨z,hz,rfl⟩:=fM.mp hy;exact .str z (gg (jy (hn z hz)) (by left))
theorem LI.kd(h:LI H v ns)(hl:ns.length<=1000):KdL H v:=by
 obtain⟨a,rfl,e⟩:=h;refine⟨.lst e,fun xs q=>?_⟩;rw[Xo e] at q;cases q;refine⟨by rw[fF];exact hl,fun y hy=>?_⟩;obtain⟨z,hz,rfl⟩:=fM.mp hy;exact .int z
theorem LS.names(h:LS H v ss)(nd:ss.Nodup)(hn:∀x∈ss,Xs x=true):Yu H v=true:=by
 obtain⟨a,rfl,e⟩:=h;unfold Yu;rw[Xo e];simp only[gM,nj];refine⟨ie.mpr fun y hy=>?_,xa ZeK nd⟩;obtain⟨z,hz,rfl⟩:=fM.mp hy;exact hn z hz
theorem LI.rooms(h:LI H v ns)(nd:ns.Nodup)(ne:ns≠[])(hn:∀x∈ns,0<=x/\x<(n:Int)):Ye H n v=true:=by
 obtain⟨a,rfl,e⟩:=h;unfold Ye;rw[Xo e];simp only[gM,nj];refine⟨⟨ie.mpr fun y hy=>?_,?_⟩,xa ZfA nd⟩
 ·obtain⟨z,hz,rfl⟩:=fM.mp hy;have:=hn z hz;simp[Xl,this.1,this.2]
 ·cases ns with
  |nil=>exact ot rfl ne
  |cons y r=>rfl
theorem LL.kd{xs:List α}(h:LL r H v xs)(hl:xs.length<=1000)(q:∀v x,r H v x->x∈xs->KdL H v):Zcq H v:=by
 obtain⟨a,vs,rfl,e,l,k⟩:=h;refine⟨.lst e,fun ys z=>?_⟩;rw[Xo e] at z;cases z;refine⟨by lia,fun y hy=>?_⟩;obtain⟨i,hi,rfl⟩:=gF hy;have hx:i<xs.length:=by lia
 exact q _ xs[i] (k i _ _ (fG hi) (fG hx)) (gC hx)
theorem LL.all{α:Type}{r:Hp->V->α->Prop}{H:Hp}{vs:List V}{xs:List α}{p:V->Bool}(l:vs.length=xs.length)(k:∀(i:Nat) v x,vs[i]?=some v->xs[i]?=some x->r H v x)(q:∀v x,r H v x->x∈xs->p v=true):vs.all p=true:=by
 refine ie.mpr fun y hy=>?_;obtain⟨i,hi,rfl⟩:=gF hy;have hx:i<xs.length:=by lia
 exact q _ xs[i] (k i _ _ (fG hi) (fG hx)) (gC hx)
theorem Wa.kd{H:Hp}{s w st f:V}{d:WD}(h:Wa H s w st f d)(g:QQ d):Zcq H s/\Zcq H w/\KdL H st/\KdL H f:=by
 refine⟨h.s.kd (by have:=g.n20;lia) fun v x r m=>?_,h.w.kd (by have:=g.n20;have:=g.wl;lia) fun v x r m=>?_,h.st.kd (by have:=g.stn.2.2.2;lia),h.f.kd (by have:=g.fn.2.2;lia) g.fn.2.1⟩
 ·have:=g.sn x m;exact r.kd (by lia) this.2.1
 ·have:=g.wn x m;exact r.kd (by lia)
theorem Wa.makes{s w st f:V}{d:WD}(h:Wa H s w st f d)(g:QQ d):U3 H s w st f=true:=by
 have oz:=h.st.rooms (n:=d.signs.length) g.stn.1 g.stn.2.1 g.stn.2.2.1;have hf:=h.f.names g.fn.1 g.fn.2.1;obtain⟨a,vs,rfl,e,l,k⟩:=h.s;obtain⟨b,ws,rfl,e2,l2,k2⟩:=h.w;obtain⟨c,rfl,e3⟩:=h.f;unfold U3;rw[Xo e,Xo e2,Xo e3];dsimp only;rw[l];have h1:vs.all (Yu H)=true:=LL.all l k fun v x r m=>r.names (g.sn x m).1 (g.sn x m).2.1;have h2:ws.all (Ye H d.signs.length)=true:=LL.all l2 k2 fun v x r m=>r.rooms (g.wn x m).1 (g.wn x m).2.1 (g.wn x m).2.2.1;have:=g.n1;have:=g.n20;have:=g.wl;have:=g.fn.2.2;simp only[Zfx,gM,nj,fF];refine⟨⟨⟨⟨⟨by lia,by lia⟩,by lia⟩,h1⟩,h2⟩,oz,hf,by lia⟩
def wfs(t1 t2 t3 t4:V):List (Str×V):=[("room_signs",t1),("room_ways",t2),("start_rooms",t3),("fair_names",t4)]
theorem n12:¬(("room_signs" : Str) = "room_ways"):=by left
theorem n13:¬(("room_signs" : Str) = "start_rooms"):=by left
theorem n14:¬(("room_signs" : Str) = "fair_names"):=by left
theorem n23:¬(("room_ways" : Str) = "start_rooms"):=by left
theorem n24:¬(("room_ways" : Str) = "fair_names"):=by left
theorem n34:¬(("start_rooms" : Str) = "fair_names"):=by left
theorem put1(t1:V):Yl "room_signs" t1 []=([("room_signs",t1)]:List (Str×V)):=rfl
theorem put2(t1 t2:V):Yl "room_ways" t2 ([("room_signs",t1)]:List (Str×V))=([("room_signs",t1),("room_ways",t2)]:List (Str×V)):=by simp only[Yl,oo n12]
theorem put3(t1 t2 t3:V):Yl "start_rooms" t3 ([("room_signs",t1),("room_ways",t2)]:List (Str×V))=([("room_signs",t1),("room_ways",t2),("start_rooms",t3)]:List (Str×V)):=by simp only[Yl,oo n13,oo n23]
theorem put4(t1 t2 t3 t4:V):Yl "fair_names" t4 ([("room_signs",t1),("room_ways",t2),("start_rooms",t3)]:List (Str×V))=wfs t1 t2 t3 t4:=by simp only[Yl,oo n14,oo n24,oo n34,wfs]
structure Xu(C:Addr)(H:Hp)(p:Addr)(d:WD):Prop where
 ex:∃dx t1 t2 t3 t4,H p=some (.ins C dx (wfs t1 t2 t3 t4))/\LT TS H t1 (d.signs.map VO)/\LT TIn H t2 (d.ways.map X1)/\TIn H t3 (X1 d.starts)/\TS H t4 d.fair
theorem Xu.mono{C:Addr}{H H':Hp}{p:Addr}{d:WD}(s:Zg H H')(h:Xu C H p d):Xu C H' p d:=by
 obtain⟨dx,t1,t2,t3,t4,e,h1,h2,h3,h4⟩:=h.ex;exact⟨dx,t1,t2,t3,t4,s _ _ e,LT.mono TS.mono _ _ _ _ s h1,LT.mono TIn.mono _ _ _ _ s h2,TIn.mono _ _ _ _ s h3,TS.mono _ _ _ _ s h4⟩
theorem Ze2{a b:Str}(h:¬a=b):(a==b)=false:=by simpa using h
theorem KH(t1 t2 t3 t4:V):(wfs t1 t2 t3 t4).lookup ("room_signs" : Str)=some t1:=by simp[wfs,gi]
theorem Zhg(t1 t2 t3 t4:V){m:Str}(h1:¬m = "room_signs")(h2:¬m = "room_ways")(h3:¬m = "start_rooms")(h4:¬m = "fair_names"):(wfs t1 t2 t3 t4).lookup m=none:=by simp[wfs,gi,Ze2 h1,Ze2 h2,Ze2 h3,Ze2 h4]
theorem New.hidden(h:H p=some o):Zg (New H H') (hide p H'):=fun b u e=>
 let ⟨h1,h2⟩:=New.of e
 Xa (fun z=>by subst z;rw[h] at h1;cases h1) h2
theorem LS.hid{fs:List (Str×V)}(hp:H p=some (.ins C dx fs))(h:LS H v ss):LS (hide p H) v ss:=by
 obtain⟨a,rfl,e⟩:=h;exact⟨a,rfl,Xa (Y0 e hp (by intro z;cases z)) e⟩
theorem LI.hid{fs:List (Str×V)}{ss:List Int}(hp:H p=some (.ins C dx fs))(h:LI H v ss):LI (hide p H) v ss:=by
 obtain⟨a,rfl,e⟩:=h;exact⟨a,rfl,Xa (Y0 e hp (by intro z;cases z)) e⟩
theorem LL.hid{fs:List (Str×V)}{xs:List α}(hp:H p=some (.ins C dx fs))(m:∀v x,r H v x->r (hide p H) v x)(h:LL r H v xs):LL r (hide p H) v xs:=by
 obtain⟨a,vs,rfl,e,l,q⟩:=h;exact⟨a,vs,rfl,Xa (Y0 e hp (by intro z;cases z)) e,l,fun i v x h1 h2=>m _ _ (q i v x h1 h2)⟩
theorem Wa.hid{H:Hp}{p C dx:Addr}{fs:List (Str×V)}{s w st f:V}{d:WD}(hp:H p=some (.ins C dx fs))(h:Wa H s w st f d):Wa (hide p H) s w st f d:=
 ⟨h.s.hid hp fun _ _ r=>r.hid hp,h.w.hid hp fun _ _ r=>r.hid hp,h.st.hid hp,h.f.hid hp⟩
theorem kh{β:Type}{r:Hp->V->β->Prop}{f:α->β}{a:Addr}{ys:List V}{xs:List α}(h:H a=some (.tup ys))(l:ys.length=xs.length)(q:∀(i:Nat) v,ys[i]?=some v->∀x,xs[i]?=some x->r H v (f x)):LT r H (.ref a) (xs.map f):=by
 refine⟨a,ys,rfl,h,by rw[fF,l],fun i v x h1 h2=>?_⟩;rw[fO] at h2;cases e:xs[i]? with
 |none=>rw[e] at h2;cases h2
 |some y=>
  rw[e] at h2;cases h2;exact q i v h1 y e
end L3
variable{d:L3.WD}
namespace L3
open PySem PySem.Spec L2
def dI(ns:List Int):PyData:=.list (ns.map PyData.int)
def dS(ss:List Str):PyData:=.list (ss.map PyData.str)
def Zfn(n:Nat)(d:PyData):Prop:=d.canLay0=true/\d.depth<=n
theorem ZfD{f:α->PyData}{xs:List α}(h:∀x∈xs,Zfn n (f x)):PyData.canLayAll0 (xs.map f)=true/\PyData.depthAll (xs.map f)<=n:=by
 induction xs with
 |nil=>exact⟨by simp[PyData.canLayAll0],by simp[PyData.depthAll]⟩
 |cons x r ih=>
  obtain⟨a,b⟩:=ih fun y hy=>h y (fT _ hy);obtain⟨c,d⟩:=h x iL;rw[fL];exact⟨by rw[PyData.canLayAll0,c,a];rfl,by rw[PyData.depthAll];exact Nat.max_le.mpr ⟨d,b⟩⟩
theorem ZhP{f:α->PyData}{xs:List α}(h:∀x∈xs,Zfn n (f x)):Zfn (n+1) (.list (xs.map f)):=by
 obtain⟨a,b⟩:=ZfD h;exact⟨by rw[PyData.canLay0];exact a,by rw[PyData.depth];lia⟩
theorem Zba(ns:List Int):Zfn 1 (dI ns):=ZhP fun x _=>⟨by simp[PyData.canLay0],by simp[PyData.depth]⟩
theorem Zaf{z:Str}(h:Xs z=true):PyData.strOk z=true:=by
 unfold Xs at h;rw[gM] at h;have h2:=ie.mp h.2;unfold PyData.strOk;rw[Array.all_eq_true_iff_forall_mem];intro x hx;have:=h2 x (Array.mem_toList_iff.mpr hx);unfold vY at this;have:=ge this;exact fQ (by lia)
section
variable{K:W.Frag}{H:Hp}
theorem kg{α:Type}{g:α->V}{f:α->PyData}(h:∀x,Dp K H (g x) (f x)):∀xs:List α,zh K H (xs.map g) (xs.map f)
 |[]=>.nil
 |x::r=>.cons (h x) (kg h r)
theorem LI.dp(h:LI H v ns):Dp K H v (dI ns):=by
 obtain⟨a,rfl,e⟩:=h;exact .lst (nS e) (kg (fun x=>.int x) ns)
end
theorem k7{a b:Addr}{Q:VK}(h1:H a=some (.lst (ns.map V.int)))(h2:H b=some (.lst []))(q:∀c:Bool,(c=true↔ns=[])->Q (.bl c) H):ZbS K false (.ref a) (.ref b) H Q:=by
 refine⟨dI ns,.list [],LI.dp ⟨a,rfl,h1⟩,.lst (nS h2) .nil,(Zba ns).1,by simp[PyData.canLay0,PyData.canLayAll0],gg (Zba ns).2 (by left),?_⟩;refine q _ ?_;cases ns with
 |nil=>simp[dI,PyData.eqv,PyData.eqvAll]
 |cons x r=>simp[dI,PyData.eqv,PyData.eqvAll]
theorem ZB.free(s:ZB p H H')(np:D≠p)(h:H' D=none):H D=none:=by
 cases e:H D with
 |none=>rfl
 |some o=>rw[s D o np e] at h;cases h
theorem yF{z:Str}:inV (.str z) (ss.map V.str)=true↔z∈ss:=by
 unfold inV;rw[List.any_map,l4];constructor
 ·rintro⟨y,hy,e⟩;have e':(y==z)=true:=e;rw[lp] at e';exact e'▸hy
 ·intro hz;exact⟨z,hz,by show(z==z)=true;simp⟩
theorem xc(ss:List Str):(ss.map V.str).all zn=true:=by
 rw[mL];exact ie.mpr fun _ _=>rfl
theorem V7{ts:List V}(n:Int)(h:ts≠[]):(0:Int)<ts.length/\∃v,atI ts (n%(ts.length:Int))=some v/\v∈ts:=by
 have hl:=l9.mpr h;have hp:(0:Int)<ts.length:=by lia
 refine⟨hp,?_⟩;have h0:=iA n (Int.ne_of_gt hp);have h1:=iP n hp;obtain⟨j,e⟩:=iQ h0;rw[e] at h1 ⊢;have hj:j<ts.length:=by lia
 exact⟨_,Zh (fG hj),gC hj⟩
theorem WF{F:Addr}{o':HO}(h:H p=some o)(n:p≠F):upd H F o' p=some o:=by rw[ZF n];exact h
theorem zO(h:H p=some o)(n:H D=none):p≠D:=fun e=>by rw[e,n] at h;cases h
theorem Xu.at(h:Xu C H p d){m:Str}(h1:¬m = "room_signs")(h2:¬m = "room_ways")(h3:¬m = "start_rooms")(h4:¬m = "fair_names"):∃dx fs,H p=some (.ins C dx fs)/\fs.lookup m=none:=by
 obtain⟨dx,t1,t2,t3,t4,e,_⟩:=h.ex;exact⟨dx,_,e,Zhg _ _ _ _ h1 h2 h3 h4⟩
theorem Zfh(h:Xu C H p d):∃dx fs,H p=some (.ins C dx fs)/\fs.lookup ("many" : Str)=none:=h.at (by left) (by left) (by left) (by left)
theorem Ka(h:Xu C H p d):∃dx fs,H p=some (.ins C dx fs)/\fs.lookup ("signs_of" : Str)=none:=h.at (by left) (by left) (by left) (by left)
open PyProof.Rows
theorem neA{a b:Nat}(h:a<b\/b<a):(a:Addr)≠b:=fun e=>by subst e;lia
theorem ZdT(I l1 l2:Nat)(h1:l1<I)(h2:l2<I):ZipApart (I+4) (I+2) (I+3) I (I+1) l1 l2:=by
 constructor<;>(refine neA ?_;lia)
theorem ZV.take{xs:List V}{us:List Value}(h:ZV xs us)(k:Nat):ZV (xs.take k) (us.take k):=by
 induction k generalizing xs us with
 |zero=>exact .nil
 |succ k ih=>
  cases h with
  |nil=>exact .nil
  |cons r t=>exact .cons r (ih t)
theorem ZV.drop{xs:List V}{us:List Value}(h:ZV xs us)(k:Nat):ZV (xs.drop k) (us.drop k):=by
 induction k generalizing xs us with
 |zero=>exact h
 |succ k ih=>
  cases h with
  |nil=>exact .nil
  |cons r t=>exact ih t
theorem Inv.big(I:L2.Inv X dm U H s):sysModules<s.heap.objs.size:=by
 have h:mainGlobals<s.heap.objs.size:=(I.mod.glob.keeps I.bk).lt;exact Nat.lt_trans (by left) h
theorem yA(h:Heap)(hb:sysModules<h.objs.size):Y1 P w H (h.push { cls:=.type "dict",data:=.dict #[] }) h.objs.size (.dK []):=
 ⟨g9 _,iY.mpr (fX (gb hb)),[],.nil,Heap.DictOf.new h⟩
def Zad:TE:=fun _ H Q=>∀p,H p=none->Q (.ref p) (upd H p (.dK []))
theorem pe_dnewK:PE X (.Dict [] [] on) Zad:=fun dm s U H Q I h=>
 wpAny_Dict_empty ⟨.ref s.heap.objs.size,_,I.laid (a:=s.heap.objs.size) (o:=.dK []) (t':=s.toks) (fun _ _ q=>fZ _ q) (fH _) (yA s.heap (Inv.big I)),rfl,h _ (I.hok.fresh (fH _))⟩
theorem Wk{a:Expr}{ta:TE}(hK:X.K=K)(ha:PE X a ta)(he:∀oN,isTrue a X.env oN=(do let v <- oN;standAt a.pos;holding [v] (truthy v))) :
  PT X a (fun U H Q=>ta U H fun x H'=>∃k,Zgo K x H' k/\Q k H'):=by subst hK;exact Zdi ha he
theorem WZ{g:TG}{tb:L2.TS}{D:jN}(Pv:Nat->St->Hp->Prop)(h0:Pv 0 U H)(uE:∀i U H,i<n->Pv i U H->J.go i H)(oz:∀U H,Pv n U H->J.stop n H)
  (hs:∀i x U H H2,i<n->Pv i U H->J.yld i H x H2->g x U H2 fun σ2 H3=>tb { D with nx:=Pv (i+1),ct:=Pv (i+1),bk:=D.nx } σ2 H3) (hd:∀U H,Pv n U H->D.nx U H) :
  ∃W:Nat->Nat->St->Hp->Prop,(∃m,W 0 m U H)/\∀i m U H,W i m U H ->
   (J.stop i H/\D.nx U H)\/(J.go i H/\∃N:St->Hp->Prop,(∀σ' H',N σ' H'->∃m',m'<m/\W (i+1) m' σ' H')/\∀x H',J.yld i H x H'->g x U H' fun σ2 H2=>tb { D with nx:=N,ct:=N,bk:=D.nx } σ2 H2):=by
 refine⟨fun i m U H=>m=n-i/\i<=n/\Pv i U H,⟨n,by simp,g9 _,h0⟩,?_⟩;rintro i m U H ⟨rfl,hi,p⟩
 by_cases oU:i<n
 ·exact .inr ⟨uE i U H oU p,Pv (i+1),fun σ' H' p'=>⟨n-(i+1),by lia,rfl,oU,p'⟩,fun x H' y=>hs i x U H H' oU p y⟩
 ·have e:i=n:=by lia
  subst e;exact .inl ⟨oz U H p,hd U H p⟩
def QA(d:WD)(r:Int):List Str:=(d.signs[r.toNat]?).getD []
theorem xP{z:Int}{ss:List Int}:inV (.int z) (ss.map V.int)=decide (z∈ss):=by
 rw[ic,hU];unfold inV;rw[List.any_map,l4];constructor
 ·rintro⟨y,hy,e⟩;have e':(y==z)=true:=e;rw[lp] at e';exact e'▸hy
 ·intro hz;exact⟨z,hz,by show(z==z)=true;simp⟩
theorem Zd5{z:Str}:inV (.str z) (ss.map V.str)=decide (z∈ss):=by
 rw[ic,hU];exact yF
theorem qT(ss:List Int):(ss.map V.int).all zn=true:=by
 rw[mL];exact ie.mpr fun _ _=>rfl
theorem Zh6{xs:List Int}(h:i<xs.length):(xs.map V.int)[i]?=some (.int (xs.getD i 0)):=by
 simp[List.getD,h]
theorem Vw(xs:List V)(k:Nat)(h:k<=xs.length):Xc xs (some (k:Int)) none=xs.drop k:=by
 unfold Xc;rw[HT.sIx_nat,HT.sIx_none,nk h];exact iB (by rw[gQ];lia)
theorem xS(xs:List V)(k:Nat)(h:k<=xs.length):Xc xs none (some (k:Int))=xs.take k:=by
 unfold Xc;rw[HT.sIx_nat,HT.sIx_none,nk h];simp
theorem ZbO(s:Zg H H')(h:Kd H v):XS H' T v=XS H T v:=by
 cases h with
 |non=>rfl
 |bl b=>rfl
 |int i=>rfl
 |str z hz=>rfl
 |lst e=>simp only[XS,e,s _ _ e]
 |tup e=>simp only[XS,e,s _ _ e]
 |dK e=>simp only[XS,e,s _ _ e]
theorem Us{XO:List Stmt}{t u:L2.TS}(h1:PS X st t)(h2:PSs X XO u):PSs X (st::XO) (fun D U H=>∃J:St->Hp->Prop,t { D with nx:=J } U H/\∀σ' H',J σ' H'->u D σ' H'):=by
 intro dm s U H D I h;obtain⟨J,h,hj⟩:=h;refine wpAny_execs_cons (thn (h1 dm s U H { D with nx:=J } I h) fun f s1 q=>?_);cases f with
 |next=>
  obtain⟨σ',H',I',q⟩:=q;exact h2 dm s1 σ' H' D I' (hj _ _ q)
 |ret v=>exact q
 |brk=>exact q
 |cont=>exact q
def free(c:Nat)(z:Str):Prop:=c∉z.cps.toList
def dT(d:WD):PyData:=.list (d.signs.map dS++d.ways.map dI++[dI d.starts,dS d.fair])
theorem ZdA{xs:List α}{k:Nat}(h1:1<=k)(h2:k<=xs.length):atI xs (-(k:Int))=xs[xs.length-k]?:=by
 have e:ixN xs.length (-(k:Int))=some (xs.length-k):=by
  unfold ixN;rw[oo (by lia),oq (by lia)]
  congr 1
  lia
 unfold atI;rw[e];rfl
open PySem.Calls PySem.W Builtin Builtin.ObjectAttr Builtin.Getset_descriptor
section
variable{w:PySem.World}{g:Array GenState}{d:Drawn}{t:Nat}{os:OsState}{K:Frag}{a:Addr}
structure ZhK(K:Frag)(C:Addr):Prop where
 ga:findIn K (.ref C) "__getattribute__" = some (some (.builtin "BaseException.__getattribute__"))
 gh:findIn K (.ref C) "__getattr__" = some none
 ob:mroIn K C (.type "object")=some true
 be:mroIn K C (.type "BaseException")=some true
 cl:findIn K (.ref C) "__class__" = some (some (.builtin "object.__class__"))
 gt:specialIn K (.builtin "object.__class__") "__get__" = some (some (.builtin "getset_descriptor.__get__"))
 tk:takesIn K (.builtin "object.__class__")=some true
 hd:hasDictIn K C=true
end
section
variable{t:TA}
end
def ZfZ:Expr->Bool
 |.Starred _ _=>true
 |_=>false
theorem ZgB(h:ZfZ e=false):starEach (e::es) env=(false,eval e env)::starEach es env:=by
 cases e<;>first|rfl|cases h
theorem ZC{X:Cx}{e:Expr}{es:List Expr}{te:TE}{t:TA}(ha:PE X e te)(hr:PA X es t)(h:ZfZ e=false:=by rfl):PA X (e::es) (xX te t):=Za ha hr (ZgB h)
theorem ZeZ(l:Addr)(items:Array Value)(n:Nat)(b:Addr)(pA:Array Value)(n2:Nat)(dd:Option Addr)(sl:Array (Option Value))(hs0:¬(!items.isEmpty&&Builtin.List.listTooLong (items.size+pA.size))=true)(Tu:items.size<=sizeLine)(Ar:items.size+pA.size<=sizeLine+1) :
  Meets (Builtin.«list.extend» ⟨[.ref l,.ref b],[]⟩) (fun _ R s=>s.heap.get? l=some { cls:=.type "list",dict:=none,data:=.seq items n,slots:=#[] }/\s.heap.get? b=some { cls:=.type "tuple",dict:=dd,data:=.seq pA n2,slots:=sl }/\R (.ok (.ret Value.none)) { s with heap:=s.heap.update l (Obj.mapSeq fun x=>x++pA),toks:=s.toks }):=
 .of_wp fun prog w A R s h=>by
  obtain⟨hp,g,d,tk,os⟩:=s;obtain⟨hl,hb,h⟩:=h;have f1:=AutoSeq1.idx_int;have f2:=AutoSeq1.sub_tuple_tuple;have f3:=AutoSeq1.sub_list_list;have f4:=AutoSeq1.sub_tuple_list;have f5:=AutoSeq1.sub_list_tuple;have AZ:(items++pA).size<=sizeLine+1:=by rw[Array.size_append];exact Ar
  wp_walk using(iR hl rfl (hz:=Tu) (_hz':=AZ)),wpAny_loadPart' hl,wpAny_loadPart' hb;exact⟨_,rfl,h⟩
inductive jh(K:W.Frag)(x:V)(vs:List V)(H:Hp)(Q:VK):Prop
 |mk (l:_) (b:_) (xs:_) (zs:_) (h0:x=.ref l) (h1:vs=[.ref b]) (h2:H l=some (.lst xs)) (h3:SqT K H b zs) (h4:xs.length+zs.length<=sizeLine) (h5:Q .non (upd H l (.lst (xs++zs)))):jh K x vs H Q
def ZdM(K:W.Frag):V->List V->Hp->VK->Prop:=fun x vs H Q=>jh K x vs H Q
theorem Q0(hK:X.K=K):MtM X "list.extend" (ZdM K):=by
 subst hK;intro dm s U H x vs v us Q I rx rv h;obtain⟨l,b,xs,zs,rfl,rfl,hH,hB,hz,q⟩:=h;cases rx;obtain⟨u,rfl,ru⟩:=rv.one;cases ru;obtain⟨z,its,n,r,hl,e⟩:=I.lstM hH;obtain⟨pb,r2,⟨o,e2,hc,n2,hd⟩,z2⟩:=I.tuple hB;obtain⟨c,dd,da,sl⟩:=o;have ro:c=.type "tuple" := hc;have su:da=.seq pb.toArray n2:=hd;subst ro su;have uL:=r2.length;have hsz:its.toArray.size+pb.toArray.size<=sizeLine:=by rw[gf,gf];lia
 have CD:¬(!its.toArray.isEmpty&&Builtin.List.listTooLong (its.toArray.size+pb.toArray.size))=true:=by
  rw[Zcy hsz,md];exact gw
 refine call_meets F.slot_list_extend ⟨_,e,rfl⟩ F.entry_list_extend (F.args_list_extend_2 _ _)
  (ZeZ l its.toArray n b pb.toArray n2 dd sl CD (by rw[gf];lia) (by lia)) ⟨e,e2,?_⟩
 refine⟨.non,_,I.lset (its':=its++pb) hH e (by simp) (r.append r2) ?_,rfl,q⟩;rw[fK];lia
theorem JO{sel:Nat->Bool}:∀(xs:List Value) (n k:Nat),(∀i,n<=i->i<n+xs.length->sel i=decide (n+k<=i))->((xs.zipIdx n).filterMap fun(x,i)=>if sel i=true then none else some x)=xs.take k
 |[],n,k,_=>by simp
 |x::r,n,k,h=>by
  have h0:=h n (fH _) (by simp);rw[List.zipIdx_cons,m7];cases k with
  |zero=>
   have e:sel n=true:=by rw[h0];simp
   simp only[e,iF];have:=JO (sel:=sel) r (n+1) 0 fun i h1 h2=>by rw[h i (by lia) (by simp;lia)];exact l7.mpr ⟨fun _=>by lia,fun _=>by lia⟩
   simpa using this
  |succ k=>
   have e:sel n=false:=by rw[h0];exact fV (by lia)
   simp only[e,ig,gK];rw[List.take_succ_cons,JO (sel:=sel) r (n+1) k fun i h1 h2=>by rw[h i (by lia) (by simp;lia)];exact l7.mpr ⟨fun _=>by lia,fun _=>by lia⟩]
theorem ZcM{l:Addr}{k:Nat}{Q:Unit->Shared->Prop}(ho:s.heap.get? l=some { cls:=.type "list",data:=.seq items n })(hs:s.heap.IsSliceOf sl vl .none .none)(pl:IsPart vl (some (k:Int)))(hk:k<=items.size)(hsz:items.size<=sizeLine)
  (h:∀f:Array Value->Array Value,f items=(items.toList.take k).toArray->Q () { s with heap:=s.heap.update l (Obj.mapSeq f) }):wpAny (model prog w) A (delItem (.ref l) (.ref sl)) Q E s:=by
 have hT:s.TypeIs (.ref l) "list" := ⟨_,ho,rfl⟩;obtain⟨os,ut,Bg,wd⟩:=id hs;have DU:s.TypeIs (.ref sl) "slice" := ⟨os,ut,Bg⟩;refine wpAny_delItem_slot hT (by left) F.slot_list_delitem (lE F.slot_list_delitem hT F.entry_list_delitem ?_ (F.args_list_delitem_2 _ _))
 show wpAny _ _ (Builtin.List.listSubscript? (.ref sl) >>= _) _ _ s
 refine fE ?_;unfold Builtin.List.listSubscript?;refine fE (me DU slice_no_index ?_);simp only[Option.isNone_none,iF];refine fI ?_
 show wpAny _ _ (typeOf (.ref sl) >>= _) _ _ s
 refine fE (wpAny_typeOf DU ?_);rw[oo (by left)];rw[listSliceParts_eq];refine fE (fE (ik ut wd (x:=.none) rfl (fE (wpAny_listPart .none ?_))));rw[oo (show ¬((rawPart none==rawInt 0)=true) from gw)];refine fE (ik ut wd (x:=vl) rfl (fE (wpAny_listPart pl ?_)));refine fE (ik ut wd (x:=.none) rfl (fE (wpAny_listPart .none (fI ?_))));refine fE (m:=Builtin.List.listItems (.ref l)) ?_;unfold Builtin.List.listItems;refine fE (iS ho rfl (fI ?_));have eb:sliceIndices (rawPart (some (k:Int))) (rawPart none) (rawPart none) items.size=pure ((k:Int),(items.size:Int),(1:Int)):=by
  rw[sliceIndices_raw _ _ _ _ (by simp)];have e1:(sliceBounds (some (k:Int)) none none items.size)=((k:Int),(items.size:Int),(1:Int)):=by
   unfold sliceBounds;simp;lia
  rw[e1]
 refine fE (wpAny_of_eq eb ?_);refine fE (wpAny_rule (fE ?_))
 show wpAny _ _ (updateSeq l _) _ _ s
 have hf:=JO (sel:=fun i=>if(1:Int)>0 then decide ((k:Int)<=i)&&decide ((i:Int)<(items.size:Int))&&((i:Int)-k)%1==0 else decide ((items.size:Int)<i)&&decide ((i:Int)<=k)&&((k:Int)-i)%(-1)==0) items.toList 0 k fun i h1 h2=>by
  have HY:i<items.size:=by simpa using h2
  simp only[show(1:Int)>0 by left,iF];rw[Int.emod_one];simp;lia
 have MF:=fS List.toArray hf;refine iR ho rfl ?_ hsz ?_
 ·exact fE (mf (fI ⟨_,rfl,h _ MF⟩))
 ·refine gg (Nat.le_of_eq (fS Array.size MF)) ?_;rw[gf,fN];lia
def Zeg(te:TE)(tl:TE):L2.TS:=fun D U H=>te U H fun x H1=>tl U H1 fun y H2=>∃l xs k,x=.ref l/\y=.int ((k:Nat):Int)/\H2 l=some (.lst xs)/\k<=xs.length/\D.nx U (upd H2 l (.lst (xs.take k)))
theorem QW{o lo:Expr}{p2 p3:Pos}(ho:PE X o te)(hl:PE X lo tl):PS X (.Delete [.Subscript o (.Slice (some lo) none none p2) p3] on) (Zeg te tl):=by
 intro dm s U H D I h;refine wpAny_Delete (wpAny_deleteEach_cons (wpAny_delete_Subscript (thn (ho dm s U H _ I h) fun u s1 ⟨x,H1,I1,rx,q1⟩=>?_)));refine wpAny_Slice ?_;rw[evalPart_some];refine thn (hl dm s1 U H1 _ I1 q1) fun vl s2 ⟨y,H2,I2,ry,l,xs,k,ex,ey,hH,hk,q⟩=>?_;subst ex ey;obtain rfl:u=Value.ref l:=rx;obtain⟨t,rfl⟩:=(show ∃t,vl=Value.int ((k:Nat):Int) t from ry);rw[evalPart_none];refine fI (fI ?_);have I3:Inv X dm U H2 { s2 with heap:=s2.heap.push { cls:=.type "slice",data:=.fields #[.int ((k:Nat):Int) t,.none,.none] } }:=I2.kept (t':=s2.toks) fun b ob q=>fZ _ q;obtain⟨z,its,n,r,ou,e⟩:=I3.lstM hH;refine ZcM e (Heap.IsSliceOf.new ..) (.int _ t) (by rw[gf];lia) (by rw[gf];lia) fun f hf=>wpAny_deleteEach_nil ?_;refine⟨U,_,I3.lset (its':=its.take k) (t':=s2.toks) hH e ?_ (r.take k) (by rw[fN];lia),q⟩;simpa using hf
structure ZgC(K:W.Frag)(P:Params)(D:Addr)(kvs:List (Str×Int)):Prop where
 ex:∃(es:Array DictEntry) (n:Nat),K.lookup D=some ⟨.type "dict",none,.dict es n,#[]⟩/\W.KeysLit P es.toList
 at_:∀p∈kvs,∃t,W.nsIn K D p.1=some (some (.int p.2 t))
 lo:(D==sysModules)=false
inductive ZcC(K:W.Frag)(P:Params)(x:V)(y:V)(H:Hp)(Q:VK):Prop
 |mk (D:_) (z:_) (kvs:_) (i:_) (h0:x=.ref D) (h1:y=.str z) (h2:ZgC K P D kvs) (h3:(z,i)∈kvs) (h4:Q (.int i) H):ZcC K P x y H Q
def rIxD(K:W.Frag)(P:Params):R2:=fun x y H Q=>ZcC K P x y H Q
section
variable{P:Params}
theorem ZgO(hK:X.K=K)(hw:X.w.params=P):IxR X (rIxD K P):=by
 subst hK hw;intro ow oJ dm s U H x y v u Q I rx ry h hs;obtain⟨D,z,kvs,i,rfl,rfl,d,hm,q⟩:=h;obtain⟨t,rfl⟩:=(show ∃t,u=Value.str z t from ry);obtain rfl:v=Value.ref D:=rx;obtain⟨m,F⟩:=I.fr;obtain⟨es,n,lk,hk⟩:=d.ex;obtain⟨t2,ea⟩:=d.at_ _ hm;exact W.topItem_K F I.mod.kin lk hk ea ⟨.int i,H,I.tok _,⟨t2,rfl⟩,q⟩ hs
end
inductive Lb where
 |yes
 |sign (s:Str)
 |op (w:Str)
 |wit (m:Int)
 |many (w:Str)
inductive Tr where
 |node (c:Lb) (ks:List Tr)
def Tr.lb:Tr->Lb
 |.node c _=>c
def Tr.ks:Tr->List Tr
 |.node _ ks=>ks
theorem Tr.eta(t:Tr):t=.node t.lb t.ks:=by cases t;rfl
def W1:List Str:=["all","some","not","next","always","ever","before","once","sofar"]
def W2:List Str:=["until","since"]
def Yi:Lb->Nat->Prop
 |.yes,n=>n=0
 |.sign s,n=>n=0/\Xs s=true
 |.op w,n=>(w∈W1/\n=1)\/(w∈W2/\n=2)
 |.wit m,n=>(0<=m/\m<=5)/\n=2
 |.many w,n=>(w = "and" \/ w = "or")/\n<=8
def Zu:Lb->Str
 |.yes => "yes"
 |.sign _ => "sign"
 |.op w=>w
 |.wit _ => "within"
 |.many w=>w
def U8(K:W.Frag)(H:Hp)(a:Addr)(vs:List V):Lb->Prop
 |.yes=>vs=[]/\SqT K H a [.str "yes"]
 |.sign s=>vs=[]/\SqT K H a [.str "sign",.str s]
 |.op w=>SqT K H a (.str w::vs)
 |.wit m=>SqT K H a (.str "within" :: .int m::vs)
 |.many w=>∃b,SqT K H a [.str w,.ref b]/\SqT K H b vs
def At(K:W.Frag):Nat->Hp->V->Tr->Prop
 |0,_,_,_=>False
 |n+1,H,v,t=>∃a vs,v=.ref a/\U8 K H a vs t.lb/\Yi t.lb t.ks.length/\vs.length=t.ks.length/\∀(i:Nat) u k,vs[i]?=some u->t.ks[i]?=some k->At K n H u k
def Yv(H H':Hp):Prop:=∀(K:W.Frag) b xs,SqT K H b xs->SqT K H' b xs
theorem Zg.tup{H H':Hp}(s:Zg H H'):Yv H H':=fun K b xs e=>Zg.seqT s e
def nT:=@Zg.tup
theorem ZB.tup{p:Addr}{H H':Hp}{xs:List V}(s:ZB p H H')(hp:H p=some (.lst xs)):Yv H H':=fun K b ys h=>by
 rcases h with(h|⟨o,h⟩)|h
 ·exact .inl (.inl (s _ _ (Y0 h hp (by intro z;cases z)) h))
 ·exact .inl (.inr ⟨o,s _ _ (Y0 h hp (by intro z;cases z)) h⟩)
 ·exact .inr h
theorem Yv.trans(a:Yv H H1)(b:Yv H1 H2):Yv H H2:=fun K c xs e=>b _ _ _ (a _ _ _ e)
variable{K:W.Frag}
theorem U8.mono(s:Yv H H'){a:Addr}{c:Lb}(h:U8 K H a vs c):U8 K H' a vs c:=by
 cases c with
 |yes=>exact⟨h.1,s _ _ _ h.2⟩
 |sign z=>exact⟨h.1,s _ _ _ h.2⟩
 |op w=>exact s _ _ _ h
 |wit m=>exact s _ _ _ h
 |many w=>obtain⟨b,h1,h2⟩:=h;exact⟨b,s _ _ _ h1,s _ _ _ h2⟩
theorem At.mono{H H':Hp}(s:Yv H H'):∀{n:Nat}{v:V}{t:Tr},At K n H v t->At K n H' v t
 |0,_,_,h=>h
 |n+1,v,t,⟨a,vs,e,sh,ok,l,q⟩=>⟨a,vs,e,sh.mono s,ok,l,fun i u k h1 h2=>At.mono s (q i u k h1 h2)⟩
theorem At.up{H:Hp}:∀{n:Nat}{v:V}{t:Tr},At K n H v t->At K (n+1) H v t
 |0,_,_,h=>h.elim
 |n+1,v,t,⟨a,vs,e,sh,ok,l,q⟩=>⟨a,vs,e,sh,ok,l,fun i u k h1 h2=>At.up (q i u k h1 h2)⟩
theorem At.le{m:Nat}{t:Tr}(h:At K n H v t)(hm:n<=m):At K m H v t:=by
 induction hm with
 |refl=>exact h
 |step _ ih=>exact ih.up
def AtL(K:W.Frag)(n:Nat)(H:Hp)(vs:List V)(ts:List Tr):Prop:=vs.length=ts.length/\∀(i:Nat) u k,vs[i]?=some u->ts[i]?=some k->At K n H u k
theorem AtL.mono{n:Nat}{H H':Hp}{vs:List V}{ts:List Tr}(s:Yv H H')(h:AtL K n H vs ts):AtL K n H' vs ts:=⟨h.1,fun i u k h1 h2=>(h.2 i u k h1 h2).mono s⟩
theorem AtL.le{n m:Nat}{H:Hp}{vs:List V}{ts:List Tr}(h:AtL K n H vs ts)(hm:n<=m):AtL K m H vs ts:=⟨h.1,fun i u k h1 h2=>(h.2 i u k h1 h2).le hm⟩
theorem AtL.nil:AtL K n H [] []:=⟨rfl,fun i u k h=>by simp at h⟩
theorem AtL.one{t:Tr}(h:At K n H v t):AtL K n H [v] [t]:=⟨rfl,fun i u k h1 h2=>by
 cases i with
 |zero=>cases h1;cases h2;exact h
 |succ i=>simp at h1⟩
theorem AtL.app{us:List V}{ts rs:List Tr}(h:AtL K n H vs ts)(g:AtL K n H us rs):AtL K n H (vs++us) (ts++rs):=by
 refine⟨by rw[fK,fK,h.1,g.1],fun i u k h1 h2=>?_⟩
 by_cases hi:i<vs.length
 ·rw[gv hi] at h1;rw[gv (by rw[<- h.1];exact hi)] at h2;exact h.2 i u k h1 h2
 ·rw[gx (by lia)] at h1;rw[gx (by rw[<- h.1];lia),<- h.1] at h2;exact g.2 _ u k h1 h2
theorem AtL.rev{ts:List Tr}(h:AtL K n H vs ts):AtL K n H vs.reverse ts.reverse:=by
 refine⟨by rw[l5,l5,h.1],fun i u k h1 h2=>?_⟩;have hi:=(fP.mp h1).1;rw[l5] at hi;rw[nL hi] at h1;rw[nL (by rw[<- h.1];exact hi),<- h.1] at h2;exact h.2 _ u k h1 h2
theorem AtL.last{ts:List Tr}(h:AtL K n H vs ts)(oA:vs≠[]):∃us u rs r,vs=us++[u]/\ts=rs++[r]/\AtL K n H us rs/\At K n H u r:=by
 have hl:=l9.mpr oA;have ht:ts≠[]:=fun e=>by rw[e] at h;have:=h.1;simp at this;exact oA this
 have e1:=ξ oA;have e2:=ξ ht;have sK:vs.dropLast.length=ts.dropLast.length:=by rw[nI,nI,h.1]
 refine⟨vs.dropLast,vs.getLast oA,ts.dropLast,ts.getLast ht,e1.symm,e2.symm,⟨sK,fun i u k h1 h2=>?_⟩,?_⟩
 ·have hi:=(fP.mp h1).1;refine h.2 i u k ?_ ?_
  ·rw[<- e1,gv hi];exact h1
  ·rw[<- e2,gv (by rw[<- sK];exact hi)];exact h2
 ·refine h.2 (vs.length-1) _ _ ?_ ?_
  ·rw[Ξ];exact fG _
  ·rw[Ξ,h.1];exact fG _
mutual
def YG:Tr->Bool
 |.node c ks=>match c with
  |.yes=>true
  |.sign _=>true
  |.op w=>if w = "all" \/ w = "some" then true else if w = "not" then vT ks else false
  |.wit _=>false
  |.many _=>vT ks
def vT:List Tr->Bool
 |[]=>true
 |t::r=>YG t&&vT r
end
theorem kE:∀ks:List Tr,vT ks=ks.all YG
 |[]=>by rw[vT];rfl
 |t::r=>by rw[vT,kE r,lF]
def Za6(c:Lb)(bs:List Bool):Bool:=match c with
 |.yes=>true
 |.sign _=>true
 |.op w=>if w = "all" \/ w = "some" then true else if w = "not" then bs.all id else false
 |.wit _=>false
 |.many _=>bs.all id
theorem qm(c:Lb)(ks:List Tr):YG (.node c ks)=Za6 c (ks.map YG):=by
 have e:(ks.map YG).all id=vT ks:=by rw[kE,mL];rfl
 cases c<;>simp only[YG,Za6,e]
mutual
def post:Tr->List Tr
 |.node c ks=>Yq ks++[.node c ks]
def Yq:List Tr->List Tr
 |[]=>[]
 |t::r=>post t++Yq r
end
theorem Vt(t:Tr):post t=Yq t.ks++[t]:=by cases t;rw[post];rfl
theorem yS:∀(a b:List Tr),Yq (a++b)=Yq a++Yq b
 |[],b=>by rw[mh,Yq,mh]
 |t::r,b=>by rw[mi,Yq,yS r b,Yq,lK]
theorem kj(t:Tr):Yq [t]=post t:=by rw[Yq,Yq,iu]
theorem ZbH(ws:List Tr)(w:Tr):(Yq (ws++[w])).reverse=w::(Yq (ws++w.ks)).reverse:=by
 rw[yS,yS,kj,Vt w];simp
mutual
def YL{α:Type}(F:Lb->List α->α):Tr->α
 |.node c ks=>F c (Zeo F ks)
def Zeo{α:Type}(F:Lb->List α->α):List Tr->List α
 |[]=>[]
 |t::r=>YL F t::Zeo F r
end
theorem KS{α:Type}(F:Lb->List α->α):∀ks:List Tr,Zeo F ks=ks.map (YL F)
 |[]=>by rw[Zeo];rfl
 |t::r=>by rw[Zeo,KS F r];rfl
theorem W0(F:Lb->List α->α)(t:Tr):YL F t=F t.lb (t.ks.map (YL F)):=by
 cases t with
 |node c ks=>rw[YL,KS];rfl
section
variable{α:Type}{F:Lb->List α->α}
def XZ(F:Lb->List α->α)(st:List α)(t:Tr):List α:=st.take (st.length-t.ks.length)++[F t.lb (st.drop (st.length-t.ks.length))]
def yh(F:Lb->List α->α):List α->List Tr->Prop
 |_,[]=>True
 |st,t::r=>(t.ks.length<=st.length/\st.drop (st.length-t.ks.length)=t.ks.map (YL F))/\yh F (XZ F st t) r
def yQ(F:Lb->List α->α):List α->List Tr->List α
 |st,[]=>st
 |st,t::r=>yQ F (XZ F st t) r
theorem ZbI(st:List α)(t:Tr):XZ F (st++t.ks.map (YL F)) t=st++[YL F t]:=by
 unfold XZ;have e:(st++t.ks.map (YL F)).length-t.ks.length=st.length:=by rw[fK,fF];lia
 rw[e,List.take_left,List.drop_left,<- W0 F t]
mutual
theorem Kx:∀(t:Tr) (st:List α) (r:List Tr),(yh F (st++[YL F t]) r->yh F st (post t++r))/\yQ F st (post t++r)=yQ F (st++[YL F t]) r
 |.node c ks,st,r=>by
  obtain⟨h1,h2⟩:=kN ks st (.node c ks::r);have e':XZ F (st++ks.map (YL F)) (.node c ks)=st++[YL F (.node c ks)]:=ZbI st (.node c ks);rw[post,lK,List.singleton_append];refine⟨fun h=>h1 ⟨⟨?_,?_⟩,?_⟩,?_⟩
  ·show ks.length<=_
   rw[fK,fF];lia
  ·show(st++ks.map (YL F)).drop ((st++ks.map (YL F)).length-ks.length)=ks.map (YL F)
   have e:(st++ks.map (YL F)).length-ks.length=st.length:=by rw[fK,fF];lia
   rw[e,List.drop_left]
  ·rw[e'];exact h
  ·rw[h2,yQ,e']
theorem kN:∀(ks:List Tr) (st:List α) (r:List Tr),(yh F (st++ks.map (YL F)) r->yh F st (Yq ks++r))/\yQ F st (Yq ks++r)=yQ F (st++ks.map (YL F)) r
 |[],st,r=>by
  rw[Yq,mh,gm,iu];exact⟨id,rfl⟩
 |t::ks,st,r=>by
  obtain⟨h1,h2⟩:=Kx t st (Yq ks++r);obtain⟨h3,h4⟩:=kN ks (st++[YL F t]) r;rw[Yq,lK,fL];have e:st++YL F t::ks.map (YL F)=st++[YL F t]++ks.map (YL F):=by simp
  rw[e];exact⟨fun h=>h1 (h3 h),by rw[h2,h4]⟩
end
theorem JG(t:Tr):yh F [] (post t)/\yQ F [] (post t)=[YL F t]:=by
 obtain⟨h1,h2⟩:=Kx (F:=F) t [] [];rw[iu] at h1 h2;exact⟨h1 trivial,h2⟩
end
mutual
theorem ZcN:∀(t:Tr),t∈post t
 |.node c ks=>by rw[post];simp
end
theorem Y7{p A:Prop}[Decidable p](h:p)(a:A):if decide p=true then A else B:=by rw[oq (fQ h)];exact a
theorem ZR{p A:Prop}[Decidable p](h:¬p)(b:B):if decide p=true then A else B:=by rw[oo (by simpa using h)];exact b
theorem qD{p:Prop}[Decidable p]{Q:VK}(h:p)(q:Q (.bl true) H):Q (.bl (decide p)) H:=by rw[fQ h];exact q
theorem WW(hK:X.K=K):SlR X (ZhN K):=by subst hK;exact Zg5
theorem zj{w:Str}{A:Prop}(h:w∈ss)(a:A):if inV (.str w) (ss.map V.str)=true then A else B:=by rw[oq (yF.mpr h)];exact a
theorem XM{w:Str}{A:Prop}(h:w∉ss)(b:B):if inV (.str w) (ss.map V.str)=true then A else B:=by rw[oo (fun e=>h (yF.mp e))];exact b
def LK:List (Str×Int):=[("all",2),("some",2),("not",2),("next",2),("always",2),("ever",2),("before",2),("once",2),("sofar",2),("until",3),("since",3)]
theorem ya:∀w∈W1++W2,w ≠ "yes" /\ w ≠ "sign" /\ w∉(["and","or"]:List Str)/\w ≠ "within" /\ w∉(["yes","sign"]:List Str):=by left
theorem WH:∀w∈(["and","or"]:List Str),w ≠ "yes" /\ w ≠ "sign" /\ w ≠ "within" /\ w∉(["yes","sign"]:List Str)/\w∉(["yes","sign","all","some"]:List Str)/\w∈(["not","and","or"]:List Str):=by left
theorem lk1:∀w∈W1,(w,(2:Int))∈LK:=by left
theorem lk2:∀w∈W2,(w,(3:Int))∈LK:=by left
theorem VF(z:Str):∃t,qZ K H (.str z) t/\W.kitOne K t (.type "str")=some true:=⟨_,.str _,rfl⟩
theorem U8.tup{H:Hp}{a:Addr}{vs:List V}{c:Lb}(h:U8 K H a vs c):∃xs,SqT K H a (.str (Zu c)::xs):=by
 cases c with
 |yes=>exact⟨[],h.2⟩
 |sign s=>exact⟨[.str s],h.2⟩
 |op w=>exact⟨vs,h⟩
 |wit m=>exact⟨.int m::vs,h⟩
 |many w=>obtain⟨b,h1,_⟩:=h;exact⟨[.ref b],h1⟩
inductive Zcv(K:W.Frag)(xs:List V)(H:Hp)(Q:VK):Prop
 |mk (x:_) (h0:xs=[x,.ty "tuple"]) (h1:((∃a ys,x=.ref a/\SqT K H a ys/\Q (.bl true) H)\/∃t,qZ K H x t/\W.kitOne K t (.type "tuple")=some false/\Q (.bl false) H)):Zcv K xs H Q
def rIsT(K:W.Frag):List V->Hp->VK->Prop:=fun xs H Q=>Zcv K xs H Q
theorem Ko(hK:X.K=K):YR X (.builtin "isinstance") (rIsT K):=by
 subst hK;intro dm s U H xs us Q I r h;obtain⟨x,rfl,h⟩:=h;obtain⟨u,v,rfl,ru,rv⟩:=Qr r;obtain rfl:v=Value.type "tuple" := rv;rcases h with⟨a,ys,rfl,hq,q⟩|⟨t,ht,hk,q⟩
 ·obtain rfl:u=Value.ref a:=ru;obtain⟨its,r,⟨o,h1,h2,h3⟩,hz⟩:=I.tuple hq;exact ir (b:=true) W.kitx_tuple I.kIn ⟨o,h1,h2⟩ rfl (fun z=>nomatch z) fun tk=>⟨.bl true,H,I.tok _,rfl,q⟩
 ·exact jT I ru ht hk fun tk=>⟨.bl false,H,I.tok _,rfl,q⟩
end L3
variable{ps cs ts ps0:List L3.Tr}{c:L3.Lb}{idle strong:L3.Tr}
namespace L3
open PySem PySem.Spec PyProof.Rows L2
def Itv(K:W.Frag)(a:Addr)(n:Nat):It:=
 ⟨fun i H=>i<n/\∃xs,SqL K H a xs/\xs.length=n,fun i H x H'=>H'=H/\∀xs,SqL K H a xs->xs[n-1-i]?=some x,fun i _=>n<=i⟩
theorem ZeA(a it:Addr)(n:Nat):Qx P w K tg (Itv K a n) [it] it (fun i h=>i<=n/\h.IsRevIter it a ((n:Int)-1-(i:Int))) where
 mem:=by simp
 obj:=fun i h st b hb=>by
  have e:b=it:=by simpa using hb
  subst e;obtain⟨_,o,e,c,d⟩:=st;exact⟨o,e,fun v z=>by rw[d] at z;cases z⟩
 keep:=fun i h h' st k=>⟨st.1,st.2.at fun o e=>k it (by simp) o e⟩
 item:=by
  intro X hP hw hK hc i dm s U H E I hf st hg;subst hP hw hK;obtain⟨hi,xs,hq,hn⟩:=hg;obtain⟨its,rv,p,hz⟩:=I.list hq;have hx:xs[n-1-i]?=some (xs[n-1-i]'(by lia)):=fG (by lia);obtain⟨u,hu,ru⟩:=rv.get hx;obtain⟨f0,f1,f2,f3,f4,f5⟩:=hf it (by simp);have e:(n:Int)-1-(i:Int)=((n-1-i:Nat):Int):=by lia
  have so:=st.2;rw[e] at so;refine wpAny_pyNext_rev_item so p.isList (x:=u) (by simpa using hu) fun h' rB sb=>?_;have I1:Inv X dm U H { s with heap:=h' }:=I.turned (t':=s.toks) (fun b o hb e=>(sb.2 b hb).trans e) f0 f1 f3 f4 f5;have e2:((n-1-i:Nat):Int)-1=(n:Int)-1-((i+1:Nat):Int):=by lia
  rw[e2] at rB;obtain⟨o,e,c,d⟩:=id rB;exact⟨u,rfl,Qh (s:={ s with heap:=h' }) e c d (by left) ⟨_,H,I1,ru,⟨rfl,fun ys hy=>by rw[I.list_inj hy hq];exact hx⟩,⟨hi,rB⟩,fun b hb=>(hf b hb).1⟩⟩
 done:=by
  intro X hP hw hK hc i dm s U H E I hf st hg;subst hP hw hK;have hn:n<=i:=hg;obtain⟨f0,f1,f2,f3,f4,f5⟩:=hf it (by simp);have e:(n:Int)-1-(i:Int)=-1:=by have:=st.1;lia
  have so:=st.2;rw[e] at so;exact wpAny_pyNext_rev_end (I.ok.hd hc) so fun h' eb=>⟨rfl,I.turned (t':=s.toks) (fun b o hb e=>eb b o hb e) f0 f1 f3 f4 f5⟩
 self:=fun _ _ _ _ _ st h=>wpAny_pyIter_revIter st.2 h
def iRev(K:W.Frag)(ta:TA):TI:=fun U H R=>ta U H fun vs H1=>∃a xs,vs=[.ref a]/\SqL K H1 a xs/\R (Itv K a xs.length) H1
theorem xN{a:Expr}{p:Pos}(hK:X.K=K)(hg:Gl X "reversed")(hm:X.mg "reversed" = none)(ha:PA X [a] ta)(hs:starEach [a] X.env=[(false,eval a X.env)]:=by rfl) :
  PI X tg (.Call (.Name "reversed" p) [a] [] on) (iRev K ta):=by
 subst hK;intro dm s U H R I h;refine Call_ (UN I hg hm PyProof.Rows.boot_reversed (mE (thn (ha on dm s U H _ I h) fun us s1 ⟨vs,H1,I1,r1,q1⟩=>?_) hs rfl));obtain⟨l,xs,rfl,hq,q⟩:=q1;obtain⟨u,rfl,ru⟩:=Vj r1;obtain rfl:u=Value.ref l:=ru;obtain⟨its,rv,pl,hz⟩:=I1.list hq;have hl:=rv.length;refine call_reversed_list pl.isList ?_;have st:(s1.heap.push (revObj l ((its.toArray.size:Int)-1))).IsRevIter s1.heap.objs.size l ((xs.length:Int)-1-((0:Nat):Int)):=⟨_,gB _ rfl,rfl,by
  show Data.fields #[Value.ref l,rawInt ((its.toArray.size:Int)-1)]=_
  have e:(its.toArray.size:Int)-1=(xs.length:Int)-1-((0:Nat):Int):=by rw[gf];lia
  rw[e]⟩
 refine wpAny_pyIter_revIter st ?_;refine⟨s1.heap.objs.size,[s1.heap.objs.size],_,_,H1,rfl,I1.kept (t':=s1.toks) fun b o e=>fZ _ e,ZeA l _ xs.length,⟨g9 _,st⟩,fun b hb=>?_,q⟩;have e:b=s1.heap.objs.size:=by simpa using hb
 subst e;exact I1.fpOk (fH _) (I1.hok.fresh (fH _))
theorem qC(hK:X.K=K):OpR X (binaryOp .Add) (Zf4 K):=by subst hK;exact ZeP
abbrev ZA:Tr:=.node .yes []
abbrev ZY(t:Tr):Tr:=.node (.op "not") [t]
abbrev zu(t:Tr):Tr:=.node (.op "next") [t]
abbrev KR(t:Tr):Tr:=.node (.op "some") [t]
abbrev Vf(a b:Tr):Tr:=.node (.many "and") [a,b]
abbrev ZfG(a b:Tr):Tr:=.node (.op "until") [a,b]
abbrev Zfa(a b:Tr):Tr:=.node (.op "since") [a,b]
def Wz:List Tr->Tr
 |[]=>ZA
 |[x]=>x
 |x::y::r=>Vf x (Wz (y::r))
def orT:List Tr->Tr
 |[]=>ZY ZA
 |[x]=>x
 |x::y::r=>ZY (Vf (ZY x) (ZY (orT (y::r))))
def Yb:Nat->Tr->Tr->Tr
 |0,_,s=>s
 |n+1,f,s=>ZY (Vf (ZY s) (ZY (Vf f (zu (Yb n f s)))))
def YW(c:Lb)(cs:List Tr):Tr:=match c with
 |.yes=>ZA
 |.sign s=>.node (.sign s) []
 |.many w=>if w = "and" then Wz cs else orT cs
 |.wit m=>Yb m.toNat (cs.getD 0 ZA) (cs.getD 1 ZA)
 |.op w=>if w = "all" then ZY (KR (ZY (cs.getD 0 ZA))) else if w = "ever" then ZfG ZA (cs.getD 0 ZA) else if w = "always" then ZY (ZfG ZA (ZY (cs.getD 0 ZA)))
  else if w = "once" then Zfa ZA (cs.getD 0 ZA) else if w = "sofar" then ZY (Zfa ZA (ZY (cs.getD 0 ZA))) else .node (.op w) cs
def Z8:Tr->Tr:=YL YW
theorem qx(t:Tr):Z8 t=YW t.lb (t.ks.map Z8):=W0 YW t
def mx(l:List Nat):Nat:=l.foldr max 0
theorem Za4{l:List Nat}{m:Nat}:mx l<=m↔∀x∈l,x<=m:=by
 induction l with
 |nil=>simp[mx]
 |cons a r ih=>
  have e:mx (a::r)=max a (mx r):=rfl;rw[e,Nat.max_le,ih];simp
def hgt:Tr->Nat:=YL fun _ hs=>mx hs+1
theorem vW(t:Tr):hgt t=mx (t.ks.map hgt)+1:=W0 _ t
def dpt:Tr->Nat:=YL fun c ds=>match c with|.many _=>mx ds+2|_=>mx ds+1
theorem ZgE(t:Tr):dpt t=match t.lb with|.many _=>mx (t.ks.map dpt)+2|_=>mx (t.ks.map dpt)+1:=W0 _ t
def psz(t:Tr):Nat:=(post t).length
theorem jp(t:Tr):psz t=(t.ks.map psz).sum+1:=by
 have sY:∀ks:List Tr,(Yq ks).length=(ks.map psz).sum:=by
  intro ks
  induction ks with
  |nil=>rfl
  |cons a r ih=>rw[Yq,fK,ih,fL,gG];rfl
 unfold psz;rw[Vt t,fK,sY];rfl
theorem Xw(t:Tr):1<=psz t:=by rw[jp];lia
theorem ZaH(t:Tr):1<=hgt t:=by rw[vW];lia
theorem At.hgt_le{K:W.Frag}{H:Hp}:∀{n:Nat}{v:V}{t:Tr},At K n H v t->hgt t<=n
 |0,_,_,h=>h.elim
 |n+1,v,t,⟨a,vs,e,sh,ok,l,q⟩=>by
  rw[vW];have:mx (t.ks.map hgt)<=n:=Za4.mpr fun x hx=>by
   obtain⟨k,hk,rfl⟩:=fM.mp hx;obtain⟨i,hi,rfl⟩:=gF hk;exact At.hgt_le (q i _ _ (fG (by lia)) (fG hi))
  lia
theorem ZeW{t k:Tr}(h:k∈t.ks):hgt k+1<=hgt t:=by
 rw[vW t];have:=(Za4 (m:=mx (t.ks.map hgt))).mp (fH _) (hgt k) (mj h);lia
theorem At.fit{K:W.Frag}{H:Hp}:∀{n m:Nat}{v:V}{t:Tr},At K n H v t->hgt t<=m->At K m H v t
 |0,_,_,_,h,_=>h.elim
 |n+1,0,v,t,h,hm=>by have:=ZaH t;lia
 |n+1,m+1,v,t,⟨a,vs,e,sh,ok,l,q⟩,hm=>⟨a,vs,e,sh,ok,l,fun i u k h1 h2=>At.fit (q i u k h1 h2) (by have:=ZeW (gk h2);lia)⟩
theorem Ve{P:Tr->Prop}(h:∀c∈cs,P c)(hy:P ZA):P (cs.getD i ZA):=by
 cases e:cs[i]? with
 |none=>rw[ii,e];exact hy
 |some x=>rw[ii,e];exact h x (gk e)
theorem XB(c:Lb)(ks:List Tr):hgt (.node c ks)=mx (ks.map hgt)+1:=vW _
theorem YH(c:Lb)(ks:List Tr):psz (.node c ks)=(ks.map psz).sum+1:=jp _
theorem XQ(c:Lb)(ks:List Tr):dpt (.node c ks)=match c with|.many _=>mx (ks.map dpt)+2|_=>mx (ks.map dpt)+1:=ZgE _
theorem mx1(a:Nat):mx [a]=a:=by simp[mx]
theorem mx2(a b:Nat):mx [a,b]=max a b:=by simp[mx]
theorem Zd6{m:Nat}(ok:Yi c cs.length)(h:∀k∈cs,hgt k<=m)(hm:1<=m):hgt (YW c cs)<=m+27:=by
 have y:hgt ZA=1:=rfl;have g0:hgt (cs.getD 0 ZA)<=m:=Ve (P:=fun k=>hgt k<=m) h (by rw[y];exact hm);have g1:hgt (cs.getD 1 ZA)<=m:=Ve (P:=fun k=>hgt k<=m) h (by rw[y];exact hm);have ha:∀cs:List Tr,(∀k∈cs,hgt k<=m)->hgt (Wz cs)<=m+cs.length:=by
  intro cs
  induction cs with
  |nil=>intro _;show hgt ZA<=_;rw[y];lia
  |cons x r ih=>
   intro h;cases r with
   |nil=>have:=h x (by simp);show hgt x<=_;lia
   |cons z r=>
    have i2:=ih fun k hk=>h k (fT _ hk);have:=h x (by simp)
    show hgt (Vf x (Wz (z::r)))<=_
    rw[XB,fL,fL,gm,mx2];simp only[gu] at i2 ⊢;lia
 have ho:∀cs:List Tr,(∀k∈cs,hgt k<=m)->hgt (orT cs)<=m+3*cs.length+1:=by
  intro cs
  induction cs with
  |nil=>intro _;show hgt (ZY ZA)<=_;rw[XB,fL,gm,mx1,y];lia
  |cons x r ih=>
   intro h;cases r with
   |nil=>have:=h x (by simp);show hgt x<=_;lia
   |cons z r=>
    have i2:=ih fun k hk=>h k (fT _ hk);have:=h x (by simp)
    show hgt (ZY (Vf (ZY x) (ZY (orT (z::r)))))<=_
    simp only[XB,fL,gm,mx1,mx2];simp only[gu] at i2 ⊢;lia
 have hw:∀n f s,hgt f<=m->hgt s<=m->hgt (Yb n f s)<=m+5*n:=by
  intro n f s hf hs
  induction n with
  |zero=>show hgt s<=_;lia
  |succ n ih=>
   show hgt (ZY (Vf (ZY s) (ZY (Vf f (zu (Yb n f s))))))<=_
   simp only[XB,fL,gm,mx1,mx2];lia
 cases c with
 |yes=>show hgt ZA<=_;rw[y];lia
 |sign z=>show hgt (.node (.sign z) [])<=_;rw[XB];simp[mx]
 |many w=>
  show hgt (if w = "and" then Wz cs else orT cs)<=_
  have:=ok.2
  split
  ·have:=ha cs h;lia
  ·have:=ho cs h;lia
 |wit k=>
  have:=hw k.toNat _ _ g0 g1;have:=ok.1
  show hgt (Yb k.toNat _ _)<=_
  lia
 |op w=>
  have rE:hgt (.node (.op w) cs)<=m+27:=by
   rw[XB];have:mx (cs.map hgt)<=m:=Za4.mpr fun x hx=>by obtain⟨k,hk,rfl⟩:=fM.mp hx;exact h k hk
   lia
  unfold YW;dsimp only
  split
  ·simp only[XB,fL,gm,mx1];lia
  split
  ·simp only[XB,fL,gm,mx1,mx2,y];lia
  split
  ·simp only[XB,fL,gm,mx1,mx2,y];lia
  split
  ·simp only[XB,fL,gm,mx1,mx2,y];lia
  split
  ·simp only[XB,fL,gm,mx1,mx2,y];lia
  ·exact rE
theorem Zcs{m:Nat}(ok:Yi c cs.length)(h:∀k∈cs,dpt k<=m)(hm:1<=m):dpt (YW c cs)<=m+35:=by
 have y:dpt ZA=1:=rfl;have g0:dpt (cs.getD 0 ZA)<=m:=Ve (P:=fun k=>dpt k<=m) h (by rw[y];exact hm);have g1:dpt (cs.getD 1 ZA)<=m:=Ve (P:=fun k=>dpt k<=m) h (by rw[y];exact hm);have ha:∀cs:List Tr,(∀k∈cs,dpt k<=m)->dpt (Wz cs)<=m+2*cs.length:=by
  intro cs
  induction cs with
  |nil=>intro _;show dpt ZA<=_;rw[y];lia
  |cons x r ih=>
   intro h;cases r with
   |nil=>have:=h x (by simp);show dpt x<=_;lia
   |cons z r=>
    have i2:=ih fun k hk=>h k (fT _ hk);have:=h x (by simp)
    show dpt (Vf x (Wz (z::r)))<=_
    simp only[XQ,fL,gm,mx2];simp only[gu] at i2 ⊢;lia
 have ho:∀cs:List Tr,(∀k∈cs,dpt k<=m)->dpt (orT cs)<=m+4*cs.length+1:=by
  intro cs
  induction cs with
  |nil=>intro _;show dpt (ZY ZA)<=_;simp only[XQ,fL,gm,mx1,y];lia
  |cons x r ih=>
   intro h;cases r with
   |nil=>have:=h x (by simp);show dpt x<=_;lia
   |cons z r=>
    have i2:=ih fun k hk=>h k (fT _ hk);have:=h x (by simp)
    show dpt (ZY (Vf (ZY x) (ZY (orT (z::r)))))<=_
    simp only[XQ,fL,gm,mx1,mx2];simp only[gu] at i2 ⊢;lia
 have hw:∀n f s,dpt f<=m->dpt s<=m->dpt (Yb n f s)<=m+7*n:=by
  intro n f s hf hs
  induction n with
  |zero=>show dpt s<=_;lia
  |succ n ih=>
   show dpt (ZY (Vf (ZY s) (ZY (Vf f (zu (Yb n f s))))))<=_
   simp only[XQ,fL,gm,mx1,mx2];lia
 cases c with
 |yes=>show dpt ZA<=_;rw[y];lia
 |sign z=>show dpt (.node (.sign z) [])<=_;simp[XQ,mx]
 |many w=>
  show dpt (if w = "and" then Wz cs else orT cs)<=_
  have:=ok.2
  split
  ·have:=ha cs h;lia
  ·have:=ho cs h;lia
 |wit k=>
  have:=hw k.toNat _ _ g0 g1;have:=ok.1
  show dpt (Yb k.toNat _ _)<=_
  lia
 |op w=>
  have rE:dpt (.node (.op w) cs)<=m+35:=by
   simp only[XQ];have:mx (cs.map dpt)<=m:=Za4.mpr fun x hx=>by obtain⟨k,hk,rfl⟩:=fM.mp hx;exact h k hk
   lia
  unfold YW;dsimp only
  split
  ·simp only[XQ,fL,gm,mx1];lia
  split
  ·simp only[XQ,fL,gm,mx1,mx2,y];lia
  split
  ·simp only[XQ,fL,gm,mx1,mx2,y];lia
  split
  ·simp only[XQ,fL,gm,mx1,mx2,y];lia
  split
  ·simp only[XQ,fL,gm,mx1,mx2,y];lia
  ·exact rE
theorem ZcZ{m:Nat}(ok:Yi c cs.length)(h:∀k∈cs,psz k<=m)(hm:1<=m):psz (YW c cs)<=11*m+35:=by
 have y:psz ZA=1:=rfl;have g0:psz (cs.getD 0 ZA)<=m:=Ve (P:=fun k=>psz k<=m) h (by rw[y];exact hm);have g1:psz (cs.getD 1 ZA)<=m:=Ve (P:=fun k=>psz k<=m) h (by rw[y];exact hm);have ha:∀cs:List Tr,(∀k∈cs,psz k<=m)->psz (Wz cs)<=cs.length*m+cs.length+1:=by
  intro cs
  induction cs with
  |nil=>intro _;show psz ZA<=_;rw[y];lia
  |cons x r ih=>
   intro h;cases r with
   |nil=>have:=h x (by simp);show psz x<=_;simp;lia
   |cons z r=>
    have i2:=ih fun k hk=>h k (fT _ hk);have:=h x (by simp)
    show psz (Vf x (Wz (z::r)))<=_
    simp only[YH,fL,gm,gG,iJ];simp only[gu,ml] at i2 ⊢;lia
 have ho:∀cs:List Tr,(∀k∈cs,psz k<=m)->psz (orT cs)<=cs.length*m+4*cs.length+2:=by
  intro cs
  induction cs with
  |nil=>intro _;show psz (ZY ZA)<=_;simp only[YH,fL,gm,gG,iJ];lia
  |cons x r ih=>
   intro h;cases r with
   |nil=>have:=h x (by simp);show psz x<=_;simp;lia
   |cons z r=>
    have i2:=ih fun k hk=>h k (fT _ hk);have:=h x (by simp)
    show psz (ZY (Vf (ZY x) (ZY (orT (z::r)))))<=_
    simp only[YH,fL,gm,gG,iJ];simp only[gu,ml] at i2 ⊢;lia
 have hw:∀n f s,psz f<=m->psz s<=m->psz (Yb n f s)<=m+n*(2*m+7):=by
  intro n f s hf hs
  induction n with
  |zero=>show psz s<=_;lia
  |succ n ih=>
   show psz (ZY (Vf (ZY s) (ZY (Vf f (zu (Yb n f s))))))<=_
   simp only[YH,fL,gm,gG,iJ];rw[ml];lia
 cases c with
 |yes=>show psz ZA<=_;rw[y];lia
 |sign z=>show psz (.node (.sign z) [])<=_;simp[YH]
 |many w=>
  show psz (if w = "and" then Wz cs else orT cs)<=_
  have h8:cs.length<=8:=ok.2;have h8m:cs.length*m<=8*m:=mn _ h8
  split
  ·have:=ha cs h;lia
  ·have:=ho cs h;lia
 |wit k=>
  have:=hw k.toNat _ _ g0 g1;have h5:k.toNat<=5:=by have:=ok.1;lia
  have h5m:k.toNat*(2*m+7)<=5*(2*m+7):=mn _ h5
  show psz (Yb k.toNat _ _)<=_
  lia
 |op w=>
  have rE:psz (.node (.op w) cs)<=11*m+35:=by
   rw[YH];have hl:cs.length=1\/cs.length=2:=by rcases ok with o|o;exact .inl o.2;exact .inr o.2
   match cs,hl,h with
   |[a],_,h=>have:=h a (by simp);simp;lia
   |[a,b],_,h=>have:=h a (by simp);have:=h b (by simp);simp;lia
  unfold YW;dsimp only
  split
  ·simp only[YH,fL,gm,gG,iJ];lia
  split
  ·simp only[YH,fL,gm,gG,iJ];lia
  split
  ·simp only[YH,fL,gm,gG,iJ];lia
  split
  ·simp only[YH,fL,gm,gG,iJ];lia
  split
  ·simp only[YH,fL,gm,gG,iJ];lia
  ·exact rE
def W6:List Str:=["not","next","until","before","since","some"]
def yP(c:Lb)(bs:List Bool):Bool:=bs.all id&&match c with
 |.yes=>bs.isEmpty
 |.sign _=>bs.isEmpty
 |.op w=>decide (w∈W6)
 |.wit _=>false
 |.many w=>decide (w = "and")&&decide (bs.length=2)
def isC:Tr->Bool:=YL yP
theorem ZcS(t:Tr):isC t=yP t.lb (t.ks.map isC):=W0 yP t
theorem Vc(c:Lb)(ks:List Tr):isC (.node c ks)=yP c (ks.map isC):=ZcS _
theorem Zdw{t:Tr}(h:isC t=true):∀k∈t.ks,isC k=true:=by
 rw[ZcS] at h;unfold yP at h;rw[gM] at h;intro k hk;have:=ie.mp h.1 (isC k) (mj hk);exact this
theorem ZgT:∀w∈W1++W2,w ≠ "all" -> w ≠ "ever" -> w ≠ "always" -> w ≠ "once" -> w ≠ "sofar" -> w∈W6:=by left
theorem Zcx(ok:Yi c cs.length)(h:∀k∈cs,isC k=true):isC (YW c cs)=true:=by
 have y:isC ZA=true:=rfl;have n1:∀{w:Str}{a:Tr},w∈W6->isC a=true->isC (.node (.op w) [a])=true:=fun {w a} hw ha=>by
  rw[Vc];simp[yP,ha,hw]
 have n2:∀{w:Str}{a b:Tr},w∈W6->isC a=true->isC b=true->isC (.node (.op w) [a,b])=true:=fun {w a b} hw ha hb=>by
  rw[Vc];simp[yP,ha,hb,hw]
 have na:∀{a b:Tr},isC a=true->isC b=true->isC (Vf a b)=true:=fun {a b} ha hb=>by
  rw[Vc];simp[yP,ha,hb]
 have wn:("not" : Str)∈W6:=by left
 have g0:isC (cs.getD 0 ZA)=true:=Ve (P:=fun k=>isC k=true) h y;have g1:isC (cs.getD 1 ZA)=true:=Ve (P:=fun k=>isC k=true) h y;have ha:∀cs:List Tr,(∀k∈cs,isC k=true)->isC (Wz cs)=true:=by
  intro cs
  induction cs with
  |nil=>intro _;exact y
  |cons x r ih=>
   intro h;cases r with
   |nil=>exact h x (by simp)
   |cons z r=>exact na (h x (by simp)) (ih fun k hk=>h k (fT _ hk))
 have ho:∀cs:List Tr,(∀k∈cs,isC k=true)->isC (orT cs)=true:=by
  intro cs
  induction cs with
  |nil=>intro _;exact n1 wn y
  |cons x r ih=>
   intro h;cases r with
   |nil=>exact h x (by simp)
   |cons z r=>exact n1 wn (na (n1 wn (h x (by simp))) (n1 wn (ih fun k hk=>h k (fT _ hk))))
 have hw:∀n f s,isC f=true->isC s=true->isC (Yb n f s)=true:=by
  intro n f s hf hs
  induction n with
  |zero=>exact hs
  |succ n ih=>exact n1 wn (na (n1 wn hs) (n1 wn (na hf (n1 (by left) ih))))
 cases c with
 |yes=>exact y
 |sign z=>rfl
 |many w=>
  show isC (if w = "and" then Wz cs else orT cs)=true
  split
  ·exact ha cs h
  ·exact ho cs h
 |wit k=>exact hw _ _ _ g0 g1
 |op w=>
  unfold YW;dsimp only
  split
  ·exact n1 wn (n1 (by left) (n1 wn g0))
  rename_i h1
  split
  ·exact n2 (by left) y g0
  rename_i h2
  split
  ·exact n1 wn (n2 (by left) y (n1 wn g0))
  rename_i h3
  split
  ·exact n2 (by left) y g0
  rename_i h4
  split
  ·exact n1 wn (n2 (by left) y (n1 wn g0))
  rename_i h5
  have Rh:w∈W6:=ZgT w (by rcases ok with o|o;exact gT _ o.1;exact gy _ o.1) h1 h2 h3 h4 h5;rw[Vc];unfold yP;rw[gM];refine⟨ie.mpr fun b hb=>?_,fQ Rh⟩;obtain⟨k,hk,rfl⟩:=fM.mp hb;exact h k hk
theorem Zci{ks:List Tr}(hr:Za6 c (ks.map YG)=true)(h:∀k∈ks,YG k=true->YG (Z8 k)=true):YG (YW c (ks.map Z8))=true:=by
 have r1:∀w a,YG (.node (.op w) [a])=Za6 (.op w) [YG a]:=fun w a=>qm _ _;have ra:∀a b,YG a=true->YG b=true->YG (Vf a b)=true:=fun a b ha hb=>by
  rw[qm]
  show([a,b].map YG).all id=true
  simp[ha,hb]
 have rn:∀a,YG a=true->YG (ZY a)=true:=fun a ha=>by
  rw[r1]
  show(if("not" : Str) = "all" \/ ("not" : Str) = "some" then true else if("not" : Str) = "not" then[YG a].all id else false)=true
  rw[oo (by left),oq rfl];simp[ha]
 have rs:∀a,YG (KR a)=true:=fun a=>by
  rw[r1]
  show(if("some" : Str) = "all" \/ ("some" : Str) = "some" then true else if("some" : Str) = "not" then[YG a].all id else false)=true
  rw[oq (.inr rfl)]
 have ha:∀cs:List Tr,(∀k∈cs,YG k=true)->YG (Wz cs)=true:=by
  intro cs
  induction cs with
  |nil=>intro _;rfl
  |cons x r ih=>
   intro h;cases r with
   |nil=>exact h x (by simp)
   |cons z r=>exact ra _ _ (h x (by simp)) (ih fun k hk=>h k (fT _ hk))
 have ho:∀cs:List Tr,(∀k∈cs,YG k=true)->YG (orT cs)=true:=by
  intro cs
  induction cs with
  |nil=>intro _;exact rn _ rfl
  |cons x r ih=>
   intro h;cases r with
   |nil=>exact h x (by simp)
   |cons z r=>exact rn _ (ra _ _ (rn _ (h x (by simp))) (rn _ (ih fun k hk=>h k (fT _ hk))))
 have all:(ks.map YG).all id=true->∀k∈ks.map Z8,YG k=true:=fun oM k hk=>by
  obtain⟨q,hq,rfl⟩:=fM.mp hk;exact h q hq (ie.mp oM (YG q) (mj hq))
 cases c with
 |yes=>rfl
 |sign z=>rfl
 |wit m=>cases hr
 |many w=>
  have ul:(ks.map YG).all id=true:=hr
  show YG (if w = "and" then _ else _)=true
  split
  ·exact ha _ (all ul)
  ·exact ho _ (all ul)
 |op w=>
  have ul:(if w = "all" \/ w = "some" then true else if w = "not" then(ks.map YG).all id else false)=true:=hr
  by_cases h1:w = "all"
  ·subst h1;exact rn _ (rs _)
  by_cases h2:w = "some"
  ·subst h2
   show YG (.node (.op "some") _)=true
   rw[qm]
   show(if("some" : Str) = "all" \/ ("some" : Str) = "some" then true else if("some" : Str) = "not" then((ks.map Z8).map YG).all id else false)=true
   rw[oq (.inr rfl)]
  rw[oo (fun z=>by rcases z with z|z;exact h1 z;exact h2 z)] at ul
  by_cases h3:w = "not"
  ·subst h3;rw[oq rfl] at ul
   show YG (.node (.op "not") _)=true
   rw[qm]
   show(if("not" : Str) = "all" \/ ("not" : Str) = "some" then true else if("not" : Str) = "not" then((ks.map Z8).map YG).all id else false)=true
   rw[oo (by left),oq rfl];refine ie.mpr fun b hb=>?_;obtain⟨k,hk,rfl⟩:=fM.mp hb;exact all ul k hk
  ·rw[oo h3] at ul;cases ul
def OkN:Nat->Tr->Prop
 |0,_=>False
 |n+1,t=>Yi t.lb t.ks.length/\∀k∈t.ks,OkN n k
theorem At.ok{K:W.Frag}{H:Hp}:∀{n:Nat}{v:V}{t:Tr},At K n H v t->OkN n t
 |0,_,_,h=>h
 |n+1,v,t,⟨a,vs,e,sh,ok,l,q⟩=>⟨ok,fun k hk=>by
  obtain⟨i,hi,rfl⟩:=gF hk;exact At.ok (q i _ _ (fG (by lia)) (fG hi))⟩
def Bz:Nat->Nat
 |0=>1
 |n+1=>11*Bz n+35
theorem ZgY:∀n,1<=Bz n
 |0=>fH _
 |n+1=>by show 1<=11*Bz n+35;lia
theorem yk:∀(n:Nat) (t:Tr),OkN n t->hgt (Z8 t)<=28*n/\dpt (Z8 t)<=36*n/\psz (Z8 t)<=Bz n/\isC (Z8 t)=true/\(YG t=true->YG (Z8 t)=true)
 |0,_,h=>h.elim
 |n+1,t,⟨ok,h⟩=>by
  have ih:=fun k hk=>yk n k (h k hk);have rO:Yi t.lb (t.ks.map Z8).length:=by rw[fF];exact ok
  have Pj:∀k∈t.ks.map Z8,hgt k<=max 1 (28*n):=fun k hk=>by obtain⟨q,hq,rfl⟩:=fM.mp hk;have:=(ih q hq).1;lia
  have Pr:∀k∈t.ks.map Z8,dpt k<=max 1 (36*n):=fun k hk=>by obtain⟨q,hq,rfl⟩:=fM.mp hk;have:=(ih q hq).2.1;lia
  have Sm:∀k∈t.ks.map Z8,psz k<=Bz n:=fun k hk=>by obtain⟨q,hq,rfl⟩:=fM.mp hk;exact(ih q hq).2.2.1
  have Pn:∀k∈t.ks.map Z8,isC k=true:=fun k hk=>by obtain⟨q,hq,rfl⟩:=fM.mp hk;exact(ih q hq).2.2.2.1
  rw[qx];have a1:=Zd6 rO Pj (by lia);have a2:=Zcs rO Pr (by lia);have a3:=ZcZ rO Sm (ZgY n);refine⟨by lia,by lia,a3,Zcx rO Pn,fun hr=>Zci ?_ fun k hk=>(ih k hk).2.2.2.2⟩;rw[<- qm];rw[<- Tr.eta];exact hr
theorem Uc{t:Addr}(e:SqT K H t [.str "yes"]):At K (n+1) H (.ref t) (.node .yes []):=⟨t,[],rfl,⟨rfl,e⟩,rfl,rfl,fun i u k h=>by simp at h⟩
theorem U2{t:Addr}{z:Str}(e:SqT K H t [.str "sign",.str z])(hz:Xs z=true):At K (n+1) H (.ref t) (.node (.sign z) []):=⟨t,[],rfl,⟨rfl,e⟩,⟨rfl,hz⟩,rfl,fun i u k h=>by simp at h⟩
theorem X7{t:Addr}{w:Str}{u:V}{k:Tr}(e:SqT K H t [.str w,u])(hw:w∈W1)(h:At K n H u k):At K (n+1) H (.ref t) (.node (.op w) [k]):=⟨t,[u],rfl,e,.inl ⟨hw,rfl⟩,rfl,(AtL.one h).2⟩
theorem xZ{t:Addr}{w:Str}{u:V}{k r:Tr}(e:SqT K H t [.str w,u,v])(hw:w∈W2)(h:At K n H u k)(g:At K n H v r):At K (n+1) H (.ref t) (.node (.op w) [k,r]):=⟨t,[u,v],rfl,e,.inr ⟨hw,rfl⟩,rfl,((AtL.one h).app (AtL.one g)).2⟩
theorem Zhd{t:Addr}{m:Int}{u:V}{k r:Tr}(e:SqT K H t [.str "within",.int m,u,v])(hm:0<=m/\m<=5)(h:At K n H u k)(g:At K n H v r):At K (n+1) H (.ref t) (.node (.wit m) [k,r]):=⟨t,[u,v],rfl,e,⟨hm,rfl⟩,rfl,((AtL.one h).app (AtL.one g)).2⟩
theorem Qv{t b:Addr}{w:Str}{us:List V}{ks:List Tr}(e:SqT K H t [.str w,.ref b])(eb:SqT K H b us)(h:AtL K n H us ks)(hw:w = "and" \/ w = "or")(hk:ks.length<=8):At K (n+1) H (.ref t) (.node (.many w) ks):=⟨t,us,rfl,⟨b,e,eb⟩,⟨hw,hk⟩,h.1,h.2⟩
theorem KB(xs:List V)(h:0<xs.length):Xc xs none (some (-1))=xs.take (xs.length-1):=by
 unfold Xc;have e1:HT.sIx xs.length 0 none=0:=rfl;have e2:HT.sIx xs.length xs.length (some (-1))=xs.length-1:=by unfold HT.sIx;simp;lia
 rw[e1,e2];simp
theorem Zbw{x:Tr}{l:List Tr}(h:l≠[]):Wz (x::l)=Vf x (Wz l):=by
 cases l with
 |nil=>exact ot rfl h
 |cons y r=>rfl
theorem Zev{x:Tr}{l:List Tr}(h:l≠[]):orT (x::l)=ZY (Vf (ZY x) (ZY (orT l))):=by
 cases l with
 |nil=>exact ot rfl h
 |cons y r=>rfl
theorem Q1{m:Nat}{f s:Tr}(hf:hgt f<=m)(hs:hgt s<=m):∀n,hgt (Yb n f s)<=m+5*n:=by
 intro n
 induction n with
 |zero=>show hgt s<=_;lia
 |succ n ih=>
  show hgt (ZY (Vf (ZY s) (ZY (Vf f (zu (Yb n f s))))))<=_
  simp only[XB,fL,gm,mx1,mx2];lia
theorem AtL.two{u:V}{a b:Tr}(h:At K n H u a)(g:At K n H v b):AtL K n H [u,v] [a,b]:=(AtL.one h).app (AtL.one g)
theorem yx{u:V}:atI (xs++[u]) (-1)=some u:=by
 have:=ZdA (xs:=xs++[u]) (k:=1) (by left) (by simp);simpa using this
abbrev NW:List Str:=["yes","sign","and","or","within"]
inductive Fm(K:W.Frag)(H:Hp):V->Prop
 |noT {v:V}:Kd H v->XS H "tuple" v=false->Fm K H v
 |emp {a:Addr}:SqT K H a []->Fm K H (.ref a)
 |noS {a:Addr}{x:V}{xs:List V}:SqT K H a (x::xs)->Kd H x->XS H "str" x=false->Fm K H (.ref a)
 |yes {a:Addr}{xs:List V}:SqT K H a (.str "yes" :: xs)->xs.length≠0->Fm K H (.ref a)
 |sgnL {a:Addr}{xs:List V}:SqT K H a (.str "sign" :: xs)->xs.length≠1->Fm K H (.ref a)
 |sgn {a:Addr}{x:V}:SqT K H a [.str "sign",x]->Kd H x->Xx x=false->Fm K H (.ref a)
 |manyL {a:Addr}{w:Str}{xs:List V}:w∈(["and","or"]:List Str)->SqT K H a (.str w::xs)->xs.length≠1->Fm K H (.ref a)
 |manyN {a:Addr}{w:Str}{x:V}:w∈(["and","or"]:List Str)->SqT K H a [.str w,x]->Kd H x->XS H "tuple" x=false->Fm K H (.ref a)
 |witL {a:Addr}{xs:List V}:SqT K H a (.str "within" :: xs)->xs.length≠3->Fm K H (.ref a)
 |witN {a:Addr}{x y z:V}:SqT K H a [.str "within",x,y,z]->Kd H x->Jf x=false->Fm K H (.ref a)
 |witM {a:Addr}{m:Int}{y z:V}:SqT K H a [.str "within",.int m,y,z]->¬(0<=m/\m<=5)->Fm K H (.ref a)
 |word {a:Addr}{w:Str}{xs:List V}:SqT K H a (.str w::xs)->w∈(["signs","Next"]:List Str)->Fm K H (.ref a)
 |lens {a:Addr}{w:Str}{i:Int}{xs:List V}:SqT K H a (.str w::xs)->w∉NW->(w,i)∈LK->((xs.length+1:Nat):Int)≠i->Fm K H (.ref a)
inductive Bt where
 |lf
 |nd (c:Lb) (ks:List Bt)
mutual
def bsz:Bt->Nat
 |.lf=>1
 |.nd _ ks=>ZhV ks+1
def ZhV:List Bt->Nat
 |[]=>0
 |b::r=>bsz b+ZhV r
end
def Zdk:Lb->Nat->Prop
 |.yes,n=>Yi .yes n
 |.sign s,n=>Yi (.sign s) n
 |.op w,n=>Yi (.op w) n
 |.wit m,n=>Yi (.wit m) n
 |.many w,n=>(w = "and" \/ w = "or")/\n<=1000
theorem Yi.b(h:Yi c n):Zdk c n:=by
 cases c with
 |many w=>exact⟨h.1,gg h.2 (by left)⟩
 |yes=>exact h
 |sign s=>exact h
 |op w=>exact h
 |wit m=>exact h
def FmT(K:W.Frag)(H:Hp)(v:V):Prop:=∃a us c,v=.ref a/\U8 K H a us c/\Zdk c us.length
theorem At.fmT{t:Tr}(h:At K n H v t):FmT K H v:=by
 cases n with
 |zero=>exact h.elim
 |succ n=>
  obtain⟨a,vs,e,sh,ok,l,_⟩:=h;exact⟨a,vs,t.lb,e,sh,by rw[l];exact ok.b⟩
inductive Za8(K:W.Frag)(P:Params)(x:V)(y:V)(H:Hp)(Q:VK):Prop
 |mk (z:_) (D:_) (kvs:_) (b:_) (h0:x=.str z) (h1:y=.ref D) (h2:ZgC K P D kvs) (h3:((b=true/\∃i,(z,i)∈kvs)\/(b=false/\W.nsIn K D z=some none))) (h4:Q (.bl b) H):Za8 K P x y H Q
def Zh4(K:W.Frag)(P:Params):R2:=fun x y H Q=>Za8 K P x y H Q
theorem Zfu{P:Params}(hK:X.K=K)(hw:X.w.params=P):OpR X (compareOp .In) (Zh4 K P):=by
 subst hK hw;intro dm s U H x y v u Q I rx ry h;obtain⟨z,D,kvs,b,rfl,rfl,d,hb,q⟩:=h;obtain⟨t,rfl⟩:=(show ∃t,v=Value.str z t from rx);obtain rfl:u=Value.ref D:=ry;obtain⟨m,F⟩:=I.fr;obtain⟨es,n,lk,hk⟩:=d.ex;rcases hb with⟨rfl,i,hm⟩|⟨rfl,ea⟩
 ·obtain⟨t2,ea⟩:=d.at_ _ hm;exact W.topIn_K F I.mod.kin lk hk ea d.lo ⟨.bl true,H,I.tok _,rfl,q⟩
 ·exact W.topIn_K F I.mod.kin lk hk ea d.lo ⟨.bl false,H,I.tok _,rfl,q⟩
theorem qN{p:Prop}[Decidable p]{Q:VK}(h:¬p)(q:Q (.bl false) H):Q (.bl (decide p)) H:=by rw[fV h];exact q
end L3
namespace L2
open PySem PySem.Spec PyProof.Rows
section
variable(P:Program)(w:World)
end
section
variable{a:Addr}
end
section
variable{x e:Addr}{o':HO}
end
section
variable{fs CT ex tJ:List Addr}{h1 h2:Heap}{a x e:Addr}
end
section
variable{U:List (Option V)}
end
section
variable{a b:Expr}{ta tb:TE}
variable{tA Cw:TT}{XO:List Expr}
end
section
variable{a:Addr}{ys:List V}
end
section
variable{XO:List Stmt}{t u:TS}
end
section
variable{a b c:Expr}{ta tb tc:TE}
end
section
variable{a b c:Expr}{ta tb tc:TE}
end
section
variable{x f:Addr}{name:Str}{v:Value}
end
section
variable{a:Addr}{fs CT:List (Str×V)}
end
section
variable{a:Addr}{fs:List (Str×V)}{f:Str}
end
section
variable{o ow:Expr}{f:Str}{CO:Pos}{ta tv:TE}
end
section
variable{c:Value}{b:Bool}
end
section
variable{t:TA}
end
section
variable{k:Nat}{f:Addr}{ps:List Str}{pf:List V}{ds:List Value}{E:XK}{x m:Str}{p apos:Pos}{o:Expr}{ta:TE}{t:TA}
end
section
variable{k:Nat}{f:Addr}{ps ks:List Str}{E:XK}{x m:Str}{p apos Ep:Pos}{o:Expr}{kws:List Keyword}{ta:TE}{t tk:TA}{nm:Option Str}
variable{g:List Value->List Value->List Value}{gV:List V->List V->List V}
end
section
variable{x:Str}{p:Pos}{t:TA}{id:String}{r:List V->Hp->VK->Prop}
end
section
variable{κ:Type}[DecidableEq κ]
def XH(kvs:List (κ×V))(k:κ):Option V:=(kvs.find? fun kv=>decide (kv.1=k)).map (·.2)
def WR(kvs:List (κ×V))(k:κ)(v:V):List (κ×V):=
 if(kvs.any fun kv=>decide (kv.1=k))=true then kvs.map (fun kv=>if kv.1=k then(kv.1,v) else kv) else kvs++[(k,v)]
theorem XD{p:κ×V}{r:List (κ×V)}{k:κ}(e:p.1=k):XH (p::r) k=some p.2:=by simp[XH,i5,e]
theorem XA{p:κ×V}{r:List (κ×V)}{k:κ}(e:¬p.1=k):XH (p::r) k=XH r k:=by simp[XH,i5,e]
theorem yE(k:κ):∀kvs:List (κ×V),(kvs.any fun kv=>decide (kv.1=k))=(XH kvs k).isSome
 |[]=>rfl
 |p::r=>by
  rw[mG]
  by_cases e:p.1=k
  ·simp only[XD e,fQ e,Τ,Option.isSome_some]
  ·rw[XA e,fV e,lL];exact yE k r
theorem KL(k j:κ)(y:V):∀kvs:List (κ×V),XH (kvs.map fun kv=>if kv.1=k then(kv.1,y) else kv) j=(XH kvs j).map fun x=>if j=k then y else x
 |[]=>rfl
 |p::r=>by
  have ih:=KL k j y r;rw[fL]
  by_cases h:p.1=k
  ·rw[oq h]
   by_cases e:p.1=j
   ·rw[XD (p:=(p.1,y)) e,XD e,nn,oq (e.symm.trans h)]
   ·rw[XA (p:=(p.1,y)) e,XA e,ih]
  ·rw[oo h]
   by_cases e:p.1=j
   ·rw[XD (p:=p) e,XD e,nn,oo (fun z=>h (e.trans z))]
   ·rw[XA (p:=p) e,XA e,ih]
theorem kf(k j:κ)(y:V):∀kvs:List (κ×V),XH kvs k=none->XH (kvs++[(k,y)]) j=if j=k then some y else XH kvs j
 |[],_=>by
  by_cases e:k=j
  ·rw[oq e.symm];exact XD (p:=(k,y)) e
  ·rw[oo (fun z=>e z.symm)];exact XA (p:=(k,y)) e
 |p::r,hn=>by
  rw[mi];have hk:¬p.1=k:=fun z=>by rw[XD z] at hn;cases hn
  rw[XA hk] at hn;have ih:=kf k j y r hn
  by_cases e:p.1=j
  ·rw[XD e,XD e,oo (fun z=>hk (e.trans z))]
  ·rw[XA e,XA e,ih]
theorem Ki(kvs:List (κ×V))(k j:κ)(y:V):XH (WR kvs k y) j=if j=k then some y else XH kvs j:=by
 unfold WR
 by_cases a:(kvs.any fun kv=>decide (kv.1=k))=true
 ·rw[oq a,KL];rw[yE] at a
  by_cases e:j=k
  ·obtain⟨x,hx⟩:=m9.mp a;rw[oq e,e,hx,nn,oq rfl]
  ·rw[oo e];cases XH kvs j with
   |none=>rfl
   |some x=>rw[nn,oo e]
 ·rw[oo a];refine kf k j y kvs ?_;rw[yE] at a;cases q:XH kvs k with
  |none=>rfl
  |some x=>rw[q] at a;exact(a rfl).elim
theorem Wj(kvs:List (κ×V))(k:κ)(v:V):(WR kvs k v).length<=kvs.length+1:=by
 unfold WR
 split
 ·rw[fF];lia
 ·rw[fK,gu,mM];lia
theorem Ur.isSome_eq{o:Option V}{u:Option Value}(r:Ur o u):o.isSome=u.isSome:=by
 cases o with
 |none=>cases u with
  |none=>rfl
  |some _=>exact(show False from r).elim
 |some _=>cases u with
  |none=>exact(show False from r).elim
  |some _=>rfl
theorem Ur.getD{o:Option V}{u:Option Value}{d:V}{d':Value}(r:Ur o u)(rd:Z6 d d'):Z6 (o.getD d) (u.getD d'):=by
 cases o with
 |none=>cases u with
  |none=>exact rd
  |some _=>exact(show False from r).elim
 |some _=>cases u with
  |none=>exact(show False from r).elim
  |some _=>exact r
theorem KV.val{kvs:List (κ×V)}{vs:List (κ×Value)}(r:KV kvs vs)(k:κ):Ur (XH kvs k) (valueAt vs k):=by
 unfold KV at r
 induction r with
 |nil=>exact True.intro
 |@cons p q ps qs h t ih=>
  obtain⟨h1,h2⟩:=h
  by_cases e:p.1=k
  ·have e':q.1=k:=h1.symm.trans e;have b:valueAt (q::qs) k=some q.2:=by simp[valueAt,i5,e']
   rw[XD e,b];exact h2
  ·have e':¬q.1=k:=fun z=>e (h1.trans z);have b:valueAt (q::qs) k=valueAt qs k:=by simp[valueAt,i5,e']
   rw[XA e,b];exact ih
theorem KV.any{kvs:List (κ×V)}{vs:List (κ×Value)}(r:KV kvs vs)(k:κ):(kvs.any fun kv=>decide (kv.1=k))=vs.any fun kv=>decide (kv.1=k):=by
 unfold KV at r
 induction r with
 |nil=>rfl
 |cons h t ih=>rw[mG,mG,ih,h.1]
theorem KV.repl{kvs:List (κ×V)}{vs:List (κ×Value)}(r:KV kvs vs)(k:κ)(ry:Z6 y u) :
  KV (kvs.map fun kv=>if kv.1=k then(kv.1,y) else kv) (vs.map fun kv=>if kv.1=k then(kv.1,u) else kv):=by
 unfold KV at r ⊢
 induction r with
 |nil=>exact .nil
 |@cons p q ps qs h t ih=>
  rw[fL,fL];refine .cons ?_ ih;obtain⟨h1,h2⟩:=h
  by_cases e:p.1=k
  ·rw[oq e,oq (h1.symm.trans e)];exact⟨h1,ry⟩
  ·rw[oo e,oo (fun z=>e (h1.trans z))];exact⟨h1,h2⟩
theorem KV.put{kvs:List (κ×V)}{vs:List (κ×Value)}(r:KV kvs vs)(k:κ)(ry:Z6 y u):KV (WR kvs k y) (stored vs k u):=by
 unfold WR stored;rw[r.any k]
 by_cases e:(vs.any fun kv=>decide (kv.1=k))=true
 ·rw[oq e,oq e];exact r.repl k ry
 ·rw[oo e,oo e];exact Paired.snoc r ⟨rfl,ry⟩
theorem KV.length{kvs:List (κ×V)}{vs:List (κ×Value)}(r:KV kvs vs):kvs.length=vs.length:=lU r
end
theorem KO{k:Key}(r:Z6 (kV k) u):(ZM P w).is k u=true:=by
 cases k with
 |inl i=>obtain⟨t,e⟩:=(show ∃t,u=Value.int i t from r);subst e;exact KN P w i t
 |inr x=>obtain⟨t,e⟩:=(show ∃t,u=Value.str x t from r);subst e;exact Ky P w x t
theorem xh{P:Program}{w:World}:∀{ks:List Key}{us:List Value},ZV (ks.map kV) us->ItemsAre (ZM P w) ks us
 |[],_,r=>by rw[gm] at r;cases r;exact .nil
 |k::ks,_,r=>by
  rw[fL] at r;cases r with
  |cons h t=>exact .cons (KO h) (xh t)
abbrev KT(H:Hp):List (List Key×V)->List (List Key×Addr×Value)->Prop:=Paired fun p q=>p.1=q.1/\H q.2.1=some (.tup (p.1.map kV))/\Z6 p.2 q.2.2
theorem KT.val{xs:List (List Key×Addr×Value)}(r:KT H kvs xs)(k:List Key):Ur (XH kvs k) ((atKey xs k).map (·.2)):=by
 induction r with
 |nil=>exact True.intro
 |@cons p q ps qs h t ih=>
  obtain⟨h1,_,h2⟩:=h
  by_cases e:p.1=k
  ·have e':q.1=k:=h1.symm.trans e;have b:atKey (q::qs) k=some q.2:=by simp[atKey,i5,e']
   rw[XD e,b];exact h2
  ·have e':¬q.1=k:=fun z=>e (h1.trans z);have b:atKey (q::qs) k=atKey qs k:=by simp[atKey,i5,e']
   rw[XA e,b];exact ih
theorem KT.repl{xs:List (List Key×Addr×Value)}(r:KT H kvs xs)(k:List Key)(ry:Z6 y u) :
  KT H (kvs.map fun kv=>if kv.1=k then(kv.1,y) else kv) (xs.map (putAt k u)):=by
 induction r with
 |nil=>exact .nil
 |@cons p q ps qs h t ih=>
  rw[fL,fL];refine .cons ?_ ih;obtain⟨h1,h2,h3⟩:=h;unfold putAt
  by_cases e:p.1=k
  ·rw[oq e,oq (h1.symm.trans e)];exact⟨h1,h2,ry⟩
  ·rw[oo e,oo (fun z=>e (h1.trans z))];exact⟨h1,h2,h3⟩
theorem KT.put{xs:List (List Key×Addr×Value)}(r:KT H kvs xs)(k:List Key){b:Addr}(hb:H b=some (.tup (k.map kV)))(ry:Z6 y u) :
  KT H (WR kvs k y) (storedH xs k b u):=by
 have e:(kvs.any fun kv=>decide (kv.1=k))=(atKey xs k).isSome:=by
  rw[yE,(r.val k).isSome_eq,Ζ]
 unfold WR storedH;rw[e]
 by_cases q:(atKey xs k).isSome=true
 ·rw[oq q,oq q];exact r.repl k ry
 ·rw[oo q,oo q];exact Paired.snoc r ⟨rfl,hb,ry⟩
theorem KT.keeps{xs:List (List Key×Addr×Value)}(r:KT H kvs xs)(ht:∀b ys,H b=some (.tup ys)->H' b=some (.tup ys)):KT H' kvs xs:=
 Paired.mapP r fun _ _ z=>⟨z.1,ht _ _ z.2.1,z.2.2⟩
section
variable{a:Addr}
theorem Zf5{u:HO}(ok:HOk P w H h)(e:Rd H a u):Y1 P w H h a u:=e.ok ok
theorem Qa{kvs:List (Key×V)}(ok:HOk P w H h)(e:Rd H a (.dK kvs)):kvs.length<=sizeLine/\(a==sysModules)=false/\∃vs,KV kvs vs/\h.DictOf (ZM P w) a vs:=
 show Y1 P w H h a (.dK kvs) from Zf5 ok e
theorem Zet{kvs:List (Key×V)}(ok:HOk P w H h)(e:H a=some (.dK kvs)):kvs.length<=sizeLine/\(a==sysModules)=false/\∃vs,KV kvs vs/\h.DictOf (ZM P w) a vs:=Qa ok (.inl e)
theorem vO{ks:List Key}(ok:HOk P w H h)(e:H a=some (.tup (ks.map kV))):(tupleKind (ZM P w)).is h ks a:=by
 obtain⟨_,its,r,o,h1,h2,n,h3⟩:=(show Y1 P w H h a (.tup (ks.map kV)) from ok a _ e);exact⟨o,its.toArray,n,h1,h2,h3,by simpa using xh r⟩
theorem Kq(ok:HOk P w H h)(e:Rd H a (.dT kvs)):kvs.length<=sizeLine/\(a==sysModules)=false /\
  ∃xs,KT H kvs xs/\h.DictOfH (tupleKind (ZM P w)) a xs:=by
 obtain⟨z,y,xs,r,o,es,ep,h1,h2,h3,h4,h5⟩:=(show Y1 P w H h a (.dT kvs) from Zf5 ok e);refine⟨z,y,xs,r,o,es,ep,h1,h2,h3,h4,fun x hx=>?_,h5⟩;have all:∀{l:List (List Key×V)}{m:List (List Key×Addr×Value)},KT H l m->∀x∈m,(tupleKind (ZM P w)).is h x.1 x.2.1:=by
  intro l m q
  induction q with
  |nil=>intro x hx;exact nomatch hx
  |@cons p q ps qs hq t ih=>
   intro x hx;rcases fU.mp hx with e|hx
   ·subst e;exact vO ok (by rw[<- hq.1];exact hq.2.1)
   ·exact ih x hx
 exact all r x hx
theorem Zf0(ok:HOk P w H h)(e:H a=some (.dT kvs)):kvs.length<=sizeLine/\(a==sysModules)=false /\
  ∃xs,KT H kvs xs/\h.DictOfH (tupleKind (ZM P w)) a xs:=Kq ok (.inl e)
end
def k5(H:Hp)(a:Addr)(y:V)(r:Option V):Prop:=
 (∃kvs k,Rd H a (.dK kvs)/\y=kV k/\r=XH kvs k)\/∃kvs k b,Rd H a (.dT kvs)/\y=.ref b/\H b=some (.tup (k.map kV))/\r=XH kvs k
def kT(H:Hp)(a:Addr)(y v:V)(H':Hp):Prop:=
 (∃kvs k,H a=some (.dK kvs)/\y=kV k/\kvs.length<sizeLine/\H'=upd H a (.dK (WR kvs k v))) \/
 ∃kvs k b,H a=some (.dT kvs)/\y=.ref b/\H b=some (.tup (k.map kV))/\kvs.length<sizeLine/\H'=upd H a (.dT (WR kvs k v))
theorem k5.k{H:Hp}{a:Addr}{kvs:List (Key×V)}{k:Key}(e:H a=some (.dK kvs)):k5 H a (kV k) (XH kvs k):=.inl ⟨kvs,k,.inl e,rfl,rfl⟩
theorem kT.k{H:Hp}{a:Addr}{kvs:List (Key×V)}{k:Key}{v:V}(e:H a=some (.dK kvs))(hl:kvs.length<sizeLine):kT H a (kV k) v (upd H a (.dK (WR kvs k v))):=.inl ⟨kvs,k,e,rfl,hl,rfl⟩
section
variable{a:Addr}{r:Value}{o:Option V}
theorem Inv.big(I:Inv X dm U H s):sysModules<s.heap.objs.size:=by
 have h:mainGlobals<s.heap.objs.size:=(I.mod.glob.keeps I.bk).lt;exact Nat.lt_trans (by left) h
theorem ZbC(hu:A.units+1<cLine)(I:Inv X dm U H s)(g:k5 H a y (some v))(ry:Z6 y u)(h:∀w' s',Inv X dm U H s'->Z6 v w'->Q w' s') :
  wpAny (model X.prog X.w) A (getItem (.ref a) u) Q E s:=by
 rcases g with⟨kvs,k,e,ey,l⟩|⟨kvs,k,b,e,ey,eb,l⟩
 ·subst ey;obtain⟨z,hd,vs,oP,dd⟩:=Qa I.hok e;obtain⟨w',hw,rS⟩:=Ur.some_of (v:=v) (o:=valueAt vs k) (by rw[l];exact oP.val k);exact wpAny_getItem_of (KO ry) dd.mapOf hw (h w' _ (I.tok _) rS)
 ·subst ey;cases (show u=Value.ref b from ry);obtain⟨z,hd,xs,oP,dd⟩:=Kq I.hok e;obtain⟨w',hw,rS⟩:=Ur.some_of (v:=v) (o:=(atKey xs k).map (·.2)) (by rw[l];exact oP.val k);obtain⟨p,hp,sU⟩:=mo.mp hw;refine wpAny_getItem_heap (tupleKind_room_in1 hu) (vO I.hok eb) dd hp ?_;rw[sU];exact h w' _ (I.tok _) rS
theorem qL{ob:HO}(I:Inv X dm U H s)(mu:Mut (H a))(hs:Heap.SameBut a s.heap h')(he:∃q,h'.get? a=some q)(new:Y1 X.prog X.w (upd H a ob) h' a ob) :
  Inv X dm U (upd H a ob) { s with heap:=h',toks:=t' }:=
 I.write (x:=a) (e:=a) mu (.inl rfl) (fun b q hb z=>(hs.2 b hb).trans z) he new
theorem Zd4{kvs:List (Key×V)}{vs:List (Key×Value)}(z:kvs.length<=sizeLine)(hd:(a==sysModules)=false)(oP:KV kvs vs)(dd:h'.DictOf (ZM P w) a vs) :
  Y1 P w H' h' a (.dK kvs):=⟨z,hd,vs,oP,dd⟩
theorem Zbl{Q:Unit->Shared->Prop}(hu:A.units+1<cLine)(I:Inv X dm U H s)(g:kT H a y v H')(ry:Z6 y u)(rv:Z6 v r)(h:∀s',Inv X dm U H' s'->Q () s') :
  wpAny (model X.prog X.w) A (setItem (.ref a) u r) Q E s:=by
 rcases g with⟨kvs,k,e,ey,l,eH⟩|⟨kvs,k,b,e,ey,eb,l,eH⟩
 ·subst ey eH;obtain⟨z,hd,vs,oP,dd⟩:=Zet I.hok e;have hz:vs.length<=sizeLine:=by rw[<- oP.length];exact z
  have hl:(WR kvs k v).length<=sizeLine:=by have:=Wj kvs k v;lia
  refine wpAny_setItem_pairs (hsz:=hz) (KO ry) dd fun h' sR hs=>h _ ?_;have he:∃q,h'.get? a=some q:=let ⟨q,_,_,hq,_⟩:=sR; ⟨q,hq⟩
  exact qL I (by rw[e];exact True.intro) hs he (Zd4 hl hd (oP.put k rv) sR)
 ·subst ey eH;cases (show u=Value.ref b from ry);obtain⟨z,hd,xs,oP,dd⟩:=Zf0 I.hok e;have hz:xs.length<=sizeLine:=by rw[<- lU oP];exact z
  have hl:(WR kvs k v).length<=sizeLine:=by have:=Wj kvs k v;lia
  refine wpAny_setItem_heap (hsz:=hz) (tupleKind_room_in1 hu) (vO I.hok eb) dd fun h' sR hs=>h _ ?_;obtain⟨q,es,ep,hq,h2,h3,h4,_,h5⟩:=sR;refine qL I (by rw[e];exact True.intro) hs ⟨q,hq⟩ ⟨hl,hd,_,(oP.put k eb rv).keeps fun c ys ec=>?_,q,es,ep,hq,h2,h3,h4,h5⟩;rw[ZF (Y0 ec e (fun z=>nomatch z))];exact ec
end
section
variable{a:Addr}{kvs:List (Key×V)}{k:Key}
end
def Zgp(i:Expr):Prop:=∀ov iv,subscripted i false ov iv=operate [ov,iv] (getItem ov iv)
theorem ZaC{ow oJ:Expr}{id:String}
  (hl:typeLookup (.type T) "__getitem__" = pure (some (.builtin id))) (hs:Zgp oJ)
  (h:wpAny (model prog w) A (eval ow env) (fun o s₁=>wpAny (model prog w) A (eval oJ env) (fun i s₂=>s₂.TypeIs o T/\wpAny (model prog w) A (getItem o i) Q E s₂) E s₁) E s) :
  wpAny (model prog w) A (eval (.Subscript ow oJ on) env) Q E s:=by
 refine Subscript_ (lc h (fun o s₁ h₁=>lc h₁ (fun i s₂ h₂=>?_) fun _ _ x=>x) fun _ _ x=>x);obtain⟨hT,h₂⟩:=h₂;unfold subscriptTail;refine fE ?_;rw[getitemInPython_of_ne hT.not_modules];refine fE (me hT hl ?_);have oy:wpAny (model prog w) A (subscripted oJ false o i) (fun r s₃=>wpAny (model prog w) A (letTemporaryGo ow o r >>= fun _=>pure r) Q E s₃) E s₂:=by
  rw[hs o i];exact wpAny_operating (lc h₂ (fun r s₃ h₃=>fE (wpAny_letTemporaryGo (fI h₃))) fun _ _ x=>x)
 first
  |exact fI (fE oy)
  |exact fE (fI (fE oy))
  |exact fE oy
theorem Kz{a:Addr}{o:Option V}(I:Inv X dm U H s)(g:k5 H a y o):s.TypeIs (.ref a) "dict" := by
 rcases g with⟨kvs,k,e,_,_⟩|⟨kvs,k,b,e,_,_,_⟩
 ·obtain⟨_,_,vs,_,dd⟩:=Qa I.hok e;exact dd.typeIs
 ·obtain⟨_,_,xs,_,dd⟩:=Kq I.hok e;exact dd.typeIs
def Zhu(td ty:TE):TE:=fun U H Q=>td U H fun x H1=>ty U H1 fun y H2=>∃a v,x=.ref a/\k5 H2 a y (some v)/\Q v H2
def ZhB(td ty tv:TE):TS:=fun D U H=>tv U H fun v H1=>td U H1 fun x H2=>ty U H2 fun y H3=>∃a H4,x=.ref a/\kT H3 a y v H4/\D.nx U H4
section
variable{o i ow:Expr}{CO:Pos}{td ty tv:TE}
theorem Ze9(hu:X.A.units+1<cLine)(ho:PE X o td)(hi:PE X i ty)(hs:Zgp i):PE X (.Subscript o i on) (Zhu td ty):=by
 intro dm s U H Q I h;refine ZaC PySem.F.slot_dict_getitem.lookup hs (thn (ho dm s U H _ I h) fun u s1 ⟨x,H1,I1,rx,q1⟩=>thn (hi dm s1 U H1 _ I1 q1) fun iv s2 ⟨y,H2,I2,ry,a,v,ex,g,q2⟩=>?_);subst ex;obtain rfl:u=Value.ref a:=rx;exact⟨Kz I2 g,ZbC hu I2 g ry fun w' s3 I3 rS=>⟨v,H2,I3,rS,q2⟩⟩
theorem ZeE(hu:X.A.units+1<cLine)(ho:PE X o td)(hi:PE X i ty)(hv:PE X ow tv)(hs:swapsWith ow (some (.Subscript o i oQ)) on.line X.env=pure false) :
  PS X (.Assign [.Subscript o i oQ] ow on) (ZhB td ty tv):=by
 intro dm s U H D I h;refine wpAny_Assign_Subscript (thn (hv dm s U H _ I h) fun r s1 ⟨v,H1,I1,rv,q1⟩=>thn (ho dm s1 U H1 _ I1 q1) fun u s2 ⟨x,H2,I2,rx,q2⟩=>thn (hi dm s2 U H2 _ I2 q2) fun iv s3 ⟨y,H3,I3,ry,a,H4,ex,g,q3⟩=>?_) hs;subst ex;obtain rfl:u=Value.ref a:=rx;exact Zbl hu I3 g ry rv fun s4 I4=>⟨U,H4,I4,q3⟩
end
theorem yA(h:Heap)(hb:sysModules<h.objs.size):Y1 P w H (h.push { cls:=.type "dict",data:=.dict #[] }) h.objs.size (.dK []):=
 ⟨g9 _,iY.mpr (fX (gb hb)),[],.nil,Heap.DictOf.new h⟩
theorem Zdh(h:Heap)(hb:sysModules<h.objs.size):Y1 P w H (h.push { cls:=.type "dict",data:=.dict #[] }) h.objs.size (.dT []):=
 ⟨g9 _,iY.mpr (fX (gb hb)),[],.nil,_,#[],0,gB _ rfl,⟨rfl,rfl,rfl⟩,rfl,rfl,List.nodup_nil⟩
def Zad:TE:=fun _ H Q=>∀p,H p=none->Q (.ref p) (upd H p (.dK []))
theorem pe_dnewK:PE X (.Dict [] [] on) Zad:=fun dm s U H Q I h=>
 wpAny_Dict_empty ⟨.ref s.heap.objs.size,_,I.laid (a:=s.heap.objs.size) (o:=.dK []) (t':=s.toks) (fun _ _ q=>fZ _ q) (fH _) (yA s.heap I.big),rfl,h _ (I.hok.fresh (fH _))⟩
structure M1(X:Cx)(o:Expr)(m:Str)(apos:Pos)(e:Expr)(cpos:Pos):Prop where
 base:attributeBase o m X.env (eval o X.env)=eval o X.env
 few:((backTo cpos (starEach [e] X.env)).all (fun x=>!x.1)&&(backToKw cpos (keywordEach [] X.env)).all (fun x=>x.1.isSome) && decide (([e]:List Expr).length+([]:List Keyword).length+(if([]:List Keyword).isEmpty then 0 else 1)<30))=true
 line:(apos.endLine==cpos.line)=true
 trees:backTo cpos (starEach [e] X.env)=[(false,eval e X.env)]
def IsD(H:Hp)(a:Addr):Prop:=(∃kvs,Rd H a (.dK kvs))\/∃kvs,Rd H a (.dT kvs)
theorem Zgt{a:Addr}(I:Inv X dm U H s)(d:IsD H a) :
  s.TypeIs (.ref a) "dict" /\ (∀b,Value.ref a=.ref b->∃ob,s.heap.get? b=some ob/\ob.dict=none)/\(a==sysModules)=false:=by
 rcases d with⟨kvs,e⟩|⟨kvs,e⟩
 ·obtain⟨_,hd,vs,_,dd⟩:=Qa I.hok e;refine⟨dd.typeIs,fun b q=>?_,hd⟩;cases q;obtain⟨ob,_,_,h1,h2,_⟩:=dd;exact⟨ob,h1,h2.2.1⟩
 ·obtain⟨_,hd,xs,_,dd⟩:=Kq I.hok e;refine⟨dd.typeIs,fun b q=>?_,hd⟩;cases q;obtain⟨ob,_,_,h1,h2,_⟩:=dd;exact⟨ob,h1,h2.2.1⟩
section
variable{a:Addr}{d:V}{r:Value}{o:Option V}
theorem Zgi(hu:A.units+1<cLine)(I:Inv X dm U H s)(g:k5 H a y o)(ry:Z6 y u)(h:∀w' s',Inv X dm U H s'->Z6 (o.getD .non) w'->Q w' s') :
  wpAny (model X.prog X.w) A (call (.builtin "dict.get") [.ref a,u]) Q E s:=by
 rcases g with⟨kvs,k,e,ey,l⟩|⟨kvs,k,b,e,ey,eb,l⟩
 ·subst ey;obtain⟨z,hd,vs,oP,dd⟩:=Qa I.hok e;refine call_meetsIn nM dd.typeIs PySem.F.entry_dict_get (PySem.F.args_dict_get_2 _ _) (meets_dict_get (ZM X.prog X.w) a (KO ry) hd) ⟨_,dd.mapOf,h _ _ (I.tok _) ?_⟩;rw[l];exact(oP.val k).getD rfl
 ·subst ey;cases (show u=Value.ref b from ry);obtain⟨z,hd,xs,oP,dd⟩:=Kq I.hok e;refine call_meetsIn nM dd.typeIs PySem.F.entry_dict_get (PySem.F.args_dict_get_2 _ _) (meetsH_dict_get (tupleKind (ZM X.prog X.w)) a b hd) ⟨tupleKind_room_in1 hu,k,xs,vO I.hok eb,dd,h _ _ (I.tok _) ?_⟩;rw[l];exact(oP.val k).getD rfl
end
def Zgw(td ty:TE):TE:=fun U H Q=>td U H fun x H1=>∃a,x=.ref a/\IsD H1 a/\ty U H1 fun y H2=>∃o,k5 H2 a y o/\Q (o.getD .non) H2
section
variable{o f:Expr}{apos cpos:Pos}{td ty tx:TE}
theorem Zd7(hu:X.A.units+1<cLine)(ho:PE X o td)(he:PE X e ty)(m:M1 X o "get" apos e cpos):PE X (.Call (.Attribute o "get" apos) [e] [] cpos) (Zgw td ty):=by
 intro dm s U H Q I h;refine wpAny_Call_method m.base m.few m.line PySem.F.plainAttrs_dict nM PySem.F.type_dict_get (thn (ho dm s U H _ I h) fun u s1 ⟨x,H1,I1,rx,a,ex,d,q1⟩=>?_);subst ex;obtain rfl:u=Value.ref a:=rx;obtain⟨t1,t2,_⟩:=Zgt I1 d;refine⟨t1,t2,?_⟩;rw[m.trees];refine Calls.callWith_builtin rfl (Calls.evalArgs_plain (Calls.spliced_cons (thn (he dm s1 U H1 _ I1 q1) fun iv s2 ⟨y,H2,I2,ry,ov,g,q2⟩=>Calls.spliced_nil ?_)));exact Zgi hu I2 g ry fun w' s3 I3 rS=>⟨_,H2,I3,rS,q2⟩
end
section
variable{a:Addr}{kvs:List (Key×V)}
end
section
variable{a:Addr}
end
end L2
namespace Att
open PySem PySem.W PySem.Calls PyProof.Rows
section
variable{K:Frag}
end
end Att
namespace L2
open PySem PySem.Spec PyProof.Rows
section
variable[DecidableEq κ]
end
end L2
namespace L3
open PySem PySem.Spec PyProof.Rows L2
def Zhn:List V->Hp->VK->Prop:=fun xs H Q=>xs=[]/\∀a,H a=none->Q (.ref a) (upd H a (.set (fun _=>false) 0))
theorem ZbG:YR X (.type "set") Zhn:=by
 intro dm s U H xs us Q I r h;obtain⟨rfl,q⟩:=h;have hu:us=[]:=by cases r;rfl
 subst hu;refine call_set_0 fun sQ=>⟨.ref s.heap.objs.size,_,I.laid (t':=s.toks) (o:=.set (fun _=>false) 0) (fun b ob q=>fZ _ q) (fH _) ?_,rfl,q _ (I.hok.fresh (fH _))⟩;exact(setObjOf_fresh (knd:=intKind X.prog X.w) sQ).setOf (gB _ rfl) (by left)
def Zfi:V->List V->Hp->VK->Prop:=fun x vs H Q=>∃a S n k,x=.ref a/\vs=[.int k]/\H a=some (.set S n)/\n+1<4096/\Q .non (upd H a (.set (fun j=>S j||decide (j=k)) (if S k then n else n+1)))
theorem Zb5:MtM X "set.add" Zfi:=by
 intro dm s U H x vs v us Q I rx rv h;obtain⟨a,S,n,k,rfl,rfl,ha,hn,q⟩:=h;cases rx;obtain⟨u,rfl,ru⟩:=rv.one;obtain⟨t,rfl⟩:=(show ∃t,u=Value.int k t from ru);have hS:s.heap.SetOf (intKind X.prog X.w) a S n:=I.hok a _ ha;refine call_set_add (knd:=intKind X.prog X.w) (k:=k) (by show Value.isInt k (.int k t)=true;simp[Value.isInt]) rfl hS hn fun h' sb rJ=>⟨.non,_,qL (ob:=.set (fun j=>S j||decide (j=k)) (if S k then n else n+1)) I (by rw[ha];exact True.intro) sb ?_ rJ,rfl,q⟩;obtain⟨o,_,_,_,e,_⟩:=rJ;exact⟨o,e⟩
def rInS(neg:Bool):R2:=fun x y H Q=>∃k a S n,x=.int k/\y=.ref a/\H a=some (.set S n)/\Q (.bl (if neg then !S k else S k)) H
theorem ZbZ:OpR X (compareOp .NotIn) (rInS true):=by
 intro dm s U H x y v u Q I rx ry h;obtain⟨k,a,S,n,rfl,rfl,ha,q⟩:=h;obtain⟨t,rfl⟩:=(show ∃t,v=Value.int k t from rx);obtain rfl:u=Value.ref a:=ry;have hS:s.heap.SetOf (intKind X.prog X.w) a S n:=I.hok a _ ha;exact wpAny_notInSet_of (knd:=intKind X.prog X.w) (k:=k) (by show Value.isInt k (.int k t)=true;simp[Value.isInt]) rfl hS ⟨.bl _,H,I.tok _,rfl,q⟩
section
open Classical
noncomputable def YN(A:List Tr)(t:Tr):List Tr:=if t∈A then A else A++[t]
noncomputable def Zs(A L:List Tr):List Tr:=L.foldl YN A
theorem UQ(A:List Tr):Zs A []=A:=rfl
theorem YO(A:List Tr)(x:Tr)(L:List Tr):Zs A (x::L)=Zs (YN A x) L:=rfl
theorem YT(A L M:List Tr):Zs A (L++M)=Zs (Zs A L) M:=List.foldl_append
theorem Vn{A:List Tr}{t:Tr}(h:t∈A):YN A t=A:=oq h
theorem Ui{A:List Tr}{t:Tr}(h:t∉A):YN A t=A++[t]:=oo h
theorem qo{A:List Tr}{t x:Tr}:x∈YN A t↔x∈A\/x=t:=by
 unfold YN
 split
 ·rename_i h
  exact⟨.inl,fun z=>z.elim id fun e=>by rw[e];exact h⟩
 ·simp
theorem ZW:∀{L A:List Tr}{x:Tr},x∈Zs A L↔x∈A\/x∈L
 |[],A,x=>by simp[UQ]
 |t::r,A,x=>by rw[YO,ZW,qo,fU,or_assoc]
theorem Uu{A:List Tr}{t:Tr}(h:A.Nodup):(YN A t).Nodup:=by
 unfold YN
 split
 ·exact h
 ·rename_i n
  rw[mK];exact⟨h,by simp,fun a ha b hb e=>n (by rw[gn.mp hb] at e;rw[<- e];exact ha)⟩
theorem Xf:∀{L A:List Tr},A.Nodup->(Zs A L).Nodup
 |[],_,h=>h
 |t::r,A,h=>by rw[YO];exact Xf (Uu h)
theorem VJ:∀{L A:List Tr},(∀x∈L,x∈A)->Zs A L=A
 |[],_,_=>rfl
 |t::r,A,h=>by
  rw[YO,Vn (h t (by simp))];exact VJ fun x hx=>h x (fT _ hx)
theorem Ku(A:List Tr)(t:Tr):∃B,YN A t=A++B:=by
 unfold YN
 split
 ·exact⟨[],by simp⟩
 ·exact⟨[t],rfl⟩
theorem WN:∀(L A:List Tr),∃B,Zs A L=A++B
 |[],A=>⟨[],by simp[UQ]⟩
 |t::r,A=>by
  obtain⟨B,e⟩:=Ku A t;obtain⟨C,e2⟩:=WN r (YN A t);exact⟨B++C,by rw[YO,e2,e,lK]⟩
theorem U7:∀(L A:List Tr),(Zs A L).length<=A.length+L.length
 |[],A=>by simp[UQ]
 |t::r,A=>by
  have:=U7 r (YN A t);have h:(YN A t).length<=A.length+1:=by
   unfold YN
   split<;>simp
  rw[YO,gu];lia
end
def Y4(t:Tr):List Tr:=match t.lb with
 |.op w=>if w = "some" then[] else t.ks
 |_=>t.ks
mutual
def ZN:Tr->List Tr
 |.node c ks=>(match c with|.op w=>if w = "some" then[] else VL ks|_=>VL ks)++[.node c ks]
def VL:List Tr->List Tr
 |[]=>[]
 |t::r=>ZN t++VL r
end
theorem Wl:∀ks:List Tr,VL ks=(ks.map ZN).flatten
 |[]=>by rw[VL];rfl
 |t::r=>by rw[VL,Wl r];rfl
theorem W5(t:Tr):ZN t=(( Y4 t).map ZN).flatten++[t]:=by
 cases t with
 |node c ks=>
  cases c with
  |op w=>
   have e:ZN (.node (.op w) ks)=(if w = "some" then[] else VL ks)++[.node (.op w) ks]:=by rw[ZN]
   rw[e]
   show _=((if w = "some" then[] else ks).map ZN).flatten++_
   split
   ·rfl
   ·rw[Wl]
  |yes=>rw[show ZN (.node .yes ks)=VL ks++[.node .yes ks] from(by rw[ZN];intro w z;cases z),Wl];rfl
  |sign z=>rw[show ZN (.node (.sign z) ks)=VL ks++[.node (.sign z) ks] from(by rw[ZN];intro w z;cases z),Wl];rfl
  |wit m=>rw[show ZN (.node (.wit m) ks)=VL ks++[.node (.wit m) ks] from(by rw[ZN];intro w z;cases z),Wl];rfl
  |many w=>rw[show ZN (.node (.many w) ks)=VL ks++[.node (.many w) ks] from(by rw[ZN];intro w z;cases z),Wl];rfl
theorem XF{t k:Tr}(h:k∈Y4 t):k∈t.ks:=by
 unfold Y4 at h
 split at h
 ·split at h
  ·cases h
  ·exact h
 ·exact h
theorem Xg{t k:Tr}(h:k∈t.ks):psz k<psz t:=by
 rw[jp t];have:∀(l:List Nat) (n:Nat),n∈l->n<=l.sum:=by
  intro l
  induction l with
  |nil=>intro n h;cases h
  |cons a r ih=>
   intro n h;rw[gG];rcases fU.mp h with rfl|h
   ·lia
   ·have:=ih n h;lia
 have:=this _ _ (mj (f:=psz) h);lia
theorem vR(t:Tr):t∈ZN t:=by rw[W5];simp
theorem VS{t x:Tr}(h:x∈ZN t):x=t\/∃k∈Y4 t,x∈ZN k:=by
 rw[W5,gj] at h;rcases h with h|h
 ·obtain⟨l,hl,hx⟩:=iT.mp h;obtain⟨k,hk,rfl⟩:=fM.mp hl;exact .inr ⟨k,hk,hx⟩
 ·exact .inl (gn.mp h)
theorem j6{t k x:Tr}(h:k∈Y4 t)(hx:x∈ZN k):x∈ZN t:=by
 rw[W5,gj];exact .inl (iT.mpr ⟨_,mj h,hx⟩)
theorem kB:∀(n:Nat) {t x:Tr},psz t<=n->x∈ZN t->psz x<=psz t
 |0,t,x,h,_=>by have:=Xw t;lia
 |n+1,t,x,h,hx=>by
  rcases VS hx with rfl|⟨k,hk,uM⟩
  ·exact fH _
  ·have h1:=Xg (XF hk);have h2:=kB n (by lia) uM;lia
theorem xC:∀(n:Nat) {t x y:Tr},psz t<=n->x∈ZN t->y∈ZN x->y∈ZN t
 |0,t,x,y,h,_,_=>by have:=Xw t;lia
 |n+1,t,x,y,h,hx,hy=>by
  rcases VS hx with rfl|⟨k,hk,uM⟩
  ·exact hy
  ·have h1:=Xg (XF hk);exact j6 hk (xC n (by lia) uM hy)
noncomputable def vi:List Tr->List Tr->List Tr
 |[],F=>F
 |t::w,F=>vi w (Zs F (ZN t))
def qK(F:List Tr):Prop:=∀x∈F,∀y∈ZN x,y∈F
theorem Zau:qK []:=fun x h=>by cases h
theorem ZeQ{F:List Tr}{t:Tr}(hc:qK F)(hk:∀k∈Y4 t,k∈F)(ht:t∉F):Zs F (ZN t)=F++[t]/\qK (F++[t]):=by
 have hs:∀x∈((Y4 t).map ZN).flatten,x∈F:=fun x hx=>by
  obtain⟨l,hl,A3⟩:=iT.mp hx;obtain⟨k,uH,rfl⟩:=fM.mp hl;exact hc k (hk k uH) x A3
 refine⟨?_,fun x hx y hy=>?_⟩
 ·rw[W5,YT,VJ hs];exact Ui ht
 ·rcases gj.mp hx with hx|hx
  ·exact gT _ (hc x hx y hy)
  ·rw[gn.mp hx,W5,gj] at hy;rcases hy with hy|hy
   ·exact gT _ (hs y hy)
   ·exact gy _ hy
theorem Zdy{F:List Tr}{t k:Tr}{a b:List Tr}(hc:qK F)(hb:Y4 t=a++k::b)(ha:∀x∈a,x∈F):Zs (Zs F (ZN k)) (ZN t)=Zs F (ZN t)/\qK (Zs F (ZN k)):=by
 have hs:∀x∈(a.map ZN).flatten,x∈F:=fun x hx=>by
  obtain⟨l,hl,A3⟩:=iT.mp hx;obtain⟨j,hj,rfl⟩:=fM.mp hl;exact hc j (ha j hj) x A3
 have e:ZN t=(a.map ZN).flatten++(ZN k++((b.map ZN).flatten++[t])):=by
  rw[W5,hb,gp,ο,fL,List.flatten_cons];simp
 refine⟨?_,fun x hx y hy=>?_⟩
 ·rw[e,YT,YT (Zs (Zs F (ZN k)) _),YT F,YT (Zs F (a.map ZN).flatten)];rw[VJ hs,VJ (A:=Zs F (ZN k)) fun x hx=>ZW.mpr (.inl (hs x hx)),VJ (A:=Zs F (ZN k)) fun x hx=>ZW.mpr (.inr hx)]
 ·rcases ZW.mp hx with hx|hx
  ·exact ZW.mpr (.inl (hc x hx y hy))
  ·exact ZW.mpr (.inr (xC _ (fH _) hx hy))
theorem vC:∀(w F:List Tr),∃B,vi w F=F++B
 |[],F=>⟨[],by simp[vi]⟩
 |t::w,F=>by
  obtain⟨B,e⟩:=WN (ZN t) F;obtain⟨C,e2⟩:=vC w (Zs F (ZN t));exact⟨B++C,by rw[vi,e2,e,lK]⟩
def yX:List Tr->Prop
 |[]=>True
 |[_]=>True
 |t::s::r=>t∈Y4 s/\yX (s::r)
theorem jV:∀{t:Tr}{w:List Tr},yX (t::w)->∀s∈w,psz t<psz s
 |t,[],_,s,h=>by cases h
 |t,a::r,⟨h1,h2⟩,s,h=>by
  have h3:=Xg (XF h1);rcases fU.mp h with rfl|h
  ·exact h3
  ·have:=jV h2 s h;lia
theorem kr:∀{w:List Tr}{m:Nat},yX w->(∀s∈w,psz s<=m)->w.length<=m
 |[],_,_,_=>by simp
 |[t],m,_,h=>by have:=h t (by simp);have:=Xw t;simp;lia
 |t::s::r,m,⟨h1,h2⟩,h=>by
  have h3:=Xg (XF h1);have:∀{w:List Tr}{t:Tr},yX (t::w)->∀m,(∀s∈(t::w),psz s<=m)->w.length+psz t<=m:=by
   intro w
   induction w with
   |nil=>intro t _ m hm;have:=hm t (by simp);simp;lia
   |cons a r ih=>
    intro t hc m hm;have h4:=Xg (XF hc.1);have:=ih hc.2 m fun s hs=>hm s (fT _ hs);rw[gu];lia
  have:=this (w:=s::r) (t:=t) ⟨h1,h2⟩ m h;have:=Xw t;simp at *;lia
def nK(is:List Nat):List Key:=is.map fun(i:Nat)=>(μ ((i:Nat):Int):Key)
def XJ:Lb->List Nat->List Key
 |.yes,_=>[.inr "yes"]
 |.sign z,_=>[.inr "sign",.inr z]
 |.wit m,is=>.inr "within" :: .inl m::nK is
 |.op w,is=>.inr w::nK is
 |.many w,is=>.inr w::nK is
def ZfN(ps:List Tr)(t:Tr)(ks:List Key):Prop:=∃is:List Nat,is.length=t.ks.length/\(∀(j:Nat) k i,t.ks[j]?=some k->is[j]?=some i->ps[i]?=some k)/\ks=XJ t.lb is
theorem JQ:∀{a b:List Nat},nK a=nK b->a=b
 |[],[],_=>rfl
 |[],y::b,h=>by simp[nK] at h
 |x::a,[],h=>by simp[nK] at h
 |x::a,y::b,h=>by
  have h1:(μ (x:Int):Key)=μ (y:Int):=(iI h).1;have h2:nK a=nK b:=(iI h).2;have e:(x:Int)=y:=iX h1;rw[JQ h2,show x=y by lia]
theorem W4:∀w∈W1++W2,w ≠ "yes" /\ w ≠ "sign" /\ w ≠ "within" /\ w ≠ "and" /\ w ≠ "or" := by left
theorem zX{w:Str}(h:Yi (.op w) n):w∈W1++W2:=by
 rcases h with⟨h,_⟩|⟨h,_⟩
 ·exact gT _ h
 ·exact gy _ h
theorem yc:∃r,XJ c is=.inr (Zu c)::r:=by
 cases c<;>exact⟨_,rfl⟩
theorem ZeJ{c':Lb}(h1:Yi c is.length)(h2:Yi c' rq.length)(h:XJ c is=XJ c' rq):c=c'/\is=rq:=by
 obtain⟨r,e⟩:=yc (c:=c) (is:=is);obtain⟨r',e'⟩:=yc (c:=c') (is:=rq);have hw:Zu c=Zu c':=by
  rw[e,e'] at h;exact i8 (iI h).1
 clear e e' r r';have ny:¬(("sign" : Str) = "yes")/\¬(("within" : Str) = "yes")/\¬(("within" : Str) = "sign")/\¬(("and" : Str) = "yes")/\¬(("or" : Str) = "yes")/\¬(("and" : Str) = "sign")/\¬(("or" : Str) = "sign")/\¬(("and" : Str) = "within")/\¬(("or" : Str) = "within"):=by left
 obtain⟨n1,n2,n3,n4,n5,n6,n7,n8,n9⟩:=ny;have z0:∀{l:List Nat},l.length=0->l=[]:=fun h=>gX.mp h;cases c with
 |yes=>
  cases c' with
  |yes=>exact⟨rfl,(z0 h1).trans (z0 h2).symm⟩
  |sign z=>exact ot hw.symm n1
  |wit m=>exact ot hw.symm n2
  |op w=>exact ot hw.symm (W4 w (zX h2)).1
  |many w=>rcases h2.1 with rfl|rfl;exact ot hw.symm n4;exact ot hw.symm n5
 |sign z=>
  cases c' with
  |yes=>exact ot hw n1
  |sign z'=>
   have e:z=z':=i8 (iI (iI h).2).1;exact⟨by rw[e],(z0 h1.1).trans (z0 h2.1).symm⟩
  |wit m=>exact ot hw.symm n3
  |op w=>exact ot hw.symm (W4 w (zX h2)).2.1
  |many w=>rcases h2.1 with rfl|rfl;exact ot hw.symm n6;exact ot hw.symm n7
 |wit m=>
  cases c' with
  |yes=>exact ot hw n2
  |sign z=>exact ot hw n3
  |wit m'=>
   have e:=(iI (iI h).2);exact⟨by rw[iX e.1],JQ e.2⟩
  |op w=>exact ot hw.symm (W4 w (zX h2)).2.2.1
  |many w=>rcases h2.1 with rfl|rfl;exact ot hw.symm n8;exact ot hw.symm n9
 |op w=>
  have wa:=W4 w (zX h1);cases c' with
  |yes=>exact ot hw wa.1
  |sign z=>exact ot hw wa.2.1
  |wit m=>exact ot hw wa.2.2.1
  |op w'=>exact⟨by rw[show w=w' from hw],JQ (iI h).2⟩
  |many w'=>rcases h2.1 with rfl|rfl;exact ot hw wa.2.2.2.1;exact ot hw wa.2.2.2.2
 |many w=>
  cases c' with
  |yes=>rcases h1.1 with rfl|rfl;exact ot hw n4;exact ot hw n5
  |sign z=>rcases h1.1 with rfl|rfl;exact ot hw n6;exact ot hw n7
  |wit m=>rcases h1.1 with rfl|rfl;exact ot hw n8;exact ot hw n9
  |op w'=>rcases h1.1 with rfl|rfl;exact ot hw.symm (W4 w' (zX h2)).2.2.2.1;exact ot hw.symm (W4 w' (zX h2)).2.2.2.2
  |many w'=>exact⟨by rw[show w=w' from hw],JQ (iI h).2⟩
theorem zq(nd:ps.Nodup){t:Tr}(h1:ps[i]?=some t)(h2:ps[j]?=some t):i=j:=by
 obtain⟨a,e1⟩:=fP.mp h1;obtain⟨b,e2⟩:=fP.mp h2;have pw:=Α.mp (υ.mp nd);rcases Nat.lt_trichotomy i j with h|h|h
 ·exact ot (e1.trans e2.symm) (pw i j a b h)
 ·exact h
 ·exact ot (e2.trans e1.symm) (pw j i b a h)
def Y5(P R D:Addr)(H H':Hp):Prop:=∀b o,b≠P->b≠R->b≠D->H b=some o->H' b=some o
theorem Y5.refl{P R:Addr}:Y5 P R D H H:=fun b o _ _ _ e=>e
theorem Y5.trans{P R:Addr}(a:Y5 P R D H H1)(b:Y5 P R D H1 H2):Y5 P R D H H2:=fun c o n1 n2 n3 e=>b c o n1 n2 n3 (a c o n1 n2 n3 e)
theorem Zg.b{P R D:Addr}{H H':Hp}(s:Zg H H'):Y5 P R D H H':=fun b o _ _ _ e=>s _ _ e
theorem ZhC(v:V):Yl "parts" v []=([("parts",v)]:List (Str×V)):=by
 simp[Yl]
open Classical in
theorem Vz:∀{l₁ l₂:List Tr},l₁.Nodup->(∀x∈l₁,x∈l₂)->l₁.length<=l₂.length
 |[],_,_,_=>by simp
 |x::r,l₂,nd,h=>by
  obtain⟨h1,h2⟩:=iw.mp nd;have hx:=h x (by simp);have:=Vz (l₂:=l₂.erase x) h2 fun y hy=>(List.mem_erase_of_ne (fun e=>h1 (by rw[<- e];exact hy))).mpr (h y (fT _ hy));rw[Θ hx] at this;have:=Υ hx;rw[gu];lia
theorem UW:∀{ks:List Tr}{s:Tr},s∈Yq ks↔∃k∈ks,s∈post k
 |[],s=>by rw[Yq];simp
 |t::r,s=>by rw[Yq,gj,UW];simp
theorem jf:∀(n:Nat) {t x y:Tr},psz t<=n->x∈post t->y∈post x->y∈post t
 |0,t,x,y,h,_,_=>by have:=Xw t;lia
 |n+1,t,x,y,h,hx,hy=>by
  rw[Vt,gj,UW] at hx;rcases hx with⟨k,hk,hx⟩|hx
  ·rw[Vt,gj,UW];exact .inl ⟨k,hk,jf n (by have:=Xg hk;lia) hx hy⟩
  ·rw[gn.mp hx] at hy;exact hy
theorem Ut:∀(n:Nat) {t x:Tr},psz t<=n->x∈ZN t->x∈post t
 |0,t,x,h,_=>by have:=Xw t;lia
 |n+1,t,x,h,hx=>by
  rcases VS hx with rfl|⟨k,hk,uM⟩
  ·exact ZcN _
  ·rw[Vt,gj,UW];exact .inl ⟨k,XF hk,Ut n (by have:=Xg (XF hk);lia) uM⟩
theorem vZ(t:Tr):(Zs [] (ZN t)).length<=(Zs [] (post t)).length:=by
 refine Vz (Xf (by simp)) fun y hy=>?_;rcases ZW.mp hy with hy|hy
 ·cases hy
 ·exact ZW.mpr (.inr (Ut _ (fH _) hy))
theorem AtL.oks(h:AtL K n H vs ts):∀t∈ts,Yi t.lb t.ks.length:=fun t ht=>by
 obtain⟨i,hi,e⟩:=gF ht;have hv:i<vs.length:=by rw[h.1];exact hi
 have:=h.2 i _ t (fG hv) (by rw[<- e];exact fG hi);cases n with
 |zero=>exact this.elim
 |succ n=>obtain⟨_,_,_,_,ok,_⟩:=this;exact ok
def ZhH(K:W.Frag):List V->Hp->VK->Prop:=fun vs H Q=>∃(a:Addr) (ns:List Int),vs=[.ref a]/\SqL K H a (ns.map V.int)/\Q (.int ns.sum) H
theorem jU(hK:X.K=K)(hc:X.calm=true):YR X (.builtin "sum") (ZhH K):=by
 subst hK;intro dm s U H xs us Q I r h;obtain⟨a,ns,rfl,hq,q⟩:=h;obtain⟨u,rfl,ru⟩:=Vj r;obtain rfl:u=Value.ref a:=ru;obtain⟨its,Au,pl,hz⟩:=I.list hq;have ia:IntsAre its ns:=zy Au;obtain⟨ys,ey⟩:=(IntsAre.allInts ia).items;have en:ys.toList.map (·.1)=ns:=by
  rw[<- nums_intItems,<- ey];exact IntsAre.numsOf ia
 have il:=pl.isList;rw[ey] at il;refine sum_intListG (I.ok.hd hc) il fun h' tk t' hk=>?_;have e2:preSum (numAt ys) ys.size=ns.sum:=by rw[preSum_eq,iB (by simp),en]
 rw[e2];exact⟨.int ns.sum,H,I.kept (t':=tk) hk,⟨t',rfl⟩,q⟩
structure Zhm(K:W.Frag)(P:Params)(D:Addr)(kvs:List (Str×Addr)):Prop where
 ex:∃(es:Array DictEntry) (n:Nat),K.lookup D=some ⟨.type "dict",none,.dict es n,#[]⟩/\W.KeysLit P es.toList
 at_:∀p∈kvs,W.nsIn K D p.1=some (some (.ref p.2))
 lo:(D==sysModules)=false
inductive Zez(K:W.Frag)(P:Params)(x:V)(y:V)(H:Hp)(Q:VK):Prop
 |mk (D:Addr) (z:Str) (kvs:List (Str×Addr)) (f:Addr) (h0:x=.ref D) (h1:y=.str z) (h2:Zhm K P D kvs) (h3:(z,f)∈kvs) (h4:Q (.ref f) H):Zez K P x y H Q
def rIxF(K:W.Frag)(P:Params):R2:=fun x y H Q=>Zez K P x y H Q
section
variable{P:Params}
theorem ZeL(hK:X.K=K)(hw:X.w.params=P):IxR X (rIxF K P):=by
 subst hK hw;intro ow oJ dm s U H x y v u Q I rx ry h hs;obtain⟨D,z,kvs,f,rfl,rfl,d,hm,q⟩:=h;obtain⟨t,rfl⟩:=(show ∃t,u=Value.str z t from ry);obtain rfl:v=Value.ref D:=rx;obtain⟨m,F⟩:=I.fr;obtain⟨es,n,lk,hk⟩:=d.ex;exact W.topItem_K F I.mod.kin lk hk (d.at_ _ hm) ⟨.ref f,H,I.tok _,rfl,q⟩ hs
def Zf9(X:Cx)(Fam:Addr->Sp->Prop):Prop:=∀f sp,Fam f sp->∃fd ps k,Uo X.prog X.w X.K X.mg X.base CX0 k f fd ps sp/\Y8 k X.A/\W.keepIn X.K (.ref f)=true/\Um X.K fd ps []
inductive Zdg(Fam:Addr->Sp->Prop)(i:Nat)(U:L2.St)(H:Hp)(B:Sp->Prop):Prop
 |mk (f:Addr) (sp:Sp) (h0:U[i]?=some (some (.ref f))) (h1:Fam f sp) (h2:B sp):Zdg Fam i U H B
def Zhb(Fam:Addr->Sp->Prop)(i:Nat)(t:TA):TE:=fun U H Q=>Zdg Fam i U H fun sp=>t U H fun vs H1=>sp vs H1 Q E0
theorem Zex{x:Str}{p:Pos}{t:TA}(F:Zf9 X Fam)(hx:Uz CX0 X E0)(hv:PE X (.Name x p) (xM i))(ha:PA X (e::es) t)
  (he:starEach (e::es) X.env=(false,eval e X.env)::starEach es X.env:=by rfl) (pH:(backTo on (starEach es X.env)).any (·.1)=false:=by rfl) :
  PE X (.Call (.Name x p) (e::es) [] on) (Zhb Fam i t):=by
 intro dm s U H Q I h;obtain⟨f,sp,ei,fm,h⟩:=h;obtain⟨fd,ps,k,Fo,hr,hk,hb⟩:=F f sp fm;refine iE (thn (hv dm s U H (fun v H1=>v=.ref f/\H1=H) I ⟨_,ei,rfl,rfl⟩) fun u s1 ⟨v,H1,I1,r,q1,q2⟩=>?_);subst q1;subst q2;obtain rfl:u=Value.ref f:=r;refine m8 (h₀:=X.base) I1.ok.mod.kin hk (thn (ha on dm s1 U H1 _ I1 h) fun us s2 ⟨vs,H2,I2,r2,q⟩=>⟨I2.kIn,?_⟩) he pH;exact Jk Fo hr hb .nil hx I2 r2 (by rw[iu];exact q)
end
structure ZS(p:Nat)(L:List Bool)(f:Nat->Bool):Prop where
 p1:1<=p
 le:p<=L.length
 at_:∀k,(h:k<L.length)->L[k]=f k
 more:∀k,L.length<=k->f k=f (k-p)
theorem ZS.get{p:Nat}(t:ZS p L f){k:Nat}(h:k<L.length):L[k]?=some (f k):=by rw[fG h,t.at_ k h]
theorem ZS.cut{p:Nat}{e:Nat}(t:ZS p (L.take (e+1)) f)(he:e<L.length)(hp:p<=e)(h:L[e]=L[e-p]'(by lia)):ZS p (L.take e) f:=by
 have p1:=t.p1;have l1:(L.take (e+1)).length=e+1:=by rw[fN];lia
 have l0:(L.take e).length=e:=by rw[fN];lia
 have rz:∀k,(hk:k<e+1)->L[k]'(by lia)=f k:=fun k hk=>by
  have:=t.at_ k (by lia);rw[Η] at this;exact this
 refine⟨t.p1,by lia,fun k hk=>?_,fun k hk=>?_⟩
 ·rw[Η];exact rz k (by lia)
 ·rw[l0] at hk
  by_cases c:k=e
  ·subst c;rw[<- rz k (by lia),<- rz (k-p) (by lia)];exact h
  ·exact t.more k (by lia)
theorem ZS.grow{p:Nat}(t:ZS p L f){b:Bool}(h:L[L.length-p]?=some b):ZS p (L++[b]) f:=by
 have p1:=t.p1;have le:=t.le;have eb:b=f L.length:=by
  rw[t.more L.length (fH _)];have hl:L.length-p<L.length:=by lia
  rw[fG hl] at h;rw[<- t.at_ _ hl];exact(fW h).symm
 refine⟨p1,by rw[fK];lia,fun k hk=>?_,fun k hk=>t.more k (by rw[fK] at hk;lia)⟩;rw[fK,gz] at hk
 by_cases c:k<L.length
 ·rw[Ι c];exact t.at_ k c
 ·have:k=L.length:=by lia
  subst this;rw[Β (fH _)];simpa using eb
theorem ZS.of{p m:Nat}(p1:1<=p)(hl:L.length=m)(le:p<=m)(at_:∀k,k<m->L[k]?=some (f k))(more:∀k,m<=k->f k=f (k-p)):ZS p L f:=by
 subst hl;exact⟨p1,le,fun k h=>by have:=at_ k h;rw[fG h] at this;exact fW this,more⟩
theorem ZS.not{p:Nat}{L:List Bool}{f:Nat->Bool}(t:ZS p L f):ZS p (L.map Bool.not) (fun k=>!f k):=
 .of t.p1 (fF _) t.le (fun k h=>by rw[fO,t.get h];rfl) (fun k h=>by rw[t.more k h])
theorem ZS.next{p:Nat}(t:ZS p L f)(hn:L.length=n+1)(hp:p<=n)(hm:∀k,n<=k->f k=f (k-p)):ZS p (L.drop 1) (fun k=>f (k+1)):=by
 refine .of t.p1 (m:=n) (by rw[gQ];lia) hp (fun k h=>?_) (fun k h=>?_)
 ·rw[iK,Nat.add_comm,t.get (by lia)]
 ·have:=t.p1
  show f (k+1)=f (k-p+1)
  rw[hm (k+1) (by lia)]
  congr 1
  lia
def Zbq(f:Nat->Bool):Nat->Bool
 |0=>false
 |k+1=>f k
theorem ZS.before{p:Nat}(t:ZS p L f):ZS p (false::L) (Zbq f):=by
 refine .of t.p1 (m:=L.length+1) rfl (by have:=t.le;lia) (fun k h=>?_) (fun k h=>?_)
 ·cases k with
  |zero=>rfl
  |succ n=>rw[List.getElem?_cons_succ,t.get (by lia)];rfl
 ·have:=t.p1;have:=t.le;cases k with
  |zero=>lia
  |succ n=>
   have e:n+1-p=(n-p)+1:=by lia
   rw[e];exact t.more n (by lia)
def XT(f s:Nat->Bool):Nat->Bool
 |0=>s 0
 |k+1=>s (k+1)||(f (k+1)&&XT f s k)
theorem xb{f s:Nat->Bool}{m:Nat}:∀q,∃a b:Bool,(∀c,(∀j,j<q->s (m+j+1)=s (c+j+1)/\f (m+j+1)=f (c+j+1))->XT f s (c+q)=(a||(b&&XT f s c)))
 |0=>⟨false,true,fun c _=>by simp⟩
 |q+1=>by
  obtain⟨a,b,h⟩:=xb (f:=f) (s:=s) (m:=m) q;refine⟨s (m+q+1)||(f (m+q+1)&&a),f (m+q+1)&&b,fun c hc=>?_⟩;have h1:=h c fun j hj=>hc j (by lia);obtain⟨e1,e2⟩:=hc q (by lia)
  show(s (c+q+1)||(f (c+q+1)&&XT f s (c+q)))=_
  rw[h1,<- e1,<- e2];cases s (m+q+1)<;>cases f (m+q+1)<;>cases a<;>cases b<;>cases XT f s c<;>rfl
theorem ZbT{s:Nat->Bool}{p m:Nat}(p1:1<=p)(hp:p<=m)(hf:∀k,m<=k->f k=f (k-p))(hs:∀k,m<=k->s k=s (k-p)):∀k,m+p<=k+1->XT f s k=XT f s (k-p):=by
 have base:XT f s (m+p-1)=XT f s (m-1):=by
  by_cases c:m=p
  ·-- the ring begins at once
   obtain⟨q,rfl⟩:∃q,p=q+1:=⟨p-1,by lia⟩;subst c;obtain⟨a,b,h⟩:=xb (f:=f) (s:=s) (m:=0) q;have h0:=h 0 fun j hj=>⟨rfl,rfl⟩;have h1:=h (q+1) fun j hj=>⟨by rw[hs (q+1+j+1) (by lia)];congr 1;lia,by rw[hf (q+1+j+1) (by lia)];congr 1;lia⟩;have z:XT f s (q+1)=(s 0||(f 0&&XT f s q)):=by
    show(s (q+1)||(f (q+1)&&XT f s q))=_
    rw[hs (q+1) (by lia),hf (q+1) (by lia)];simp
   have z0:XT f s 0=s 0:=rfl;have e1:q+1+(q+1)-1=q+1+q:=by lia
   have e2:q+1-1=0+q:=by lia
   rw[e1,e2,h1,h0,z,z0];have SI:XT f s q=(a||(b&&s 0)):=by have hh:=h0;rw[mq,z0] at hh;exact hh
   rw[SI];cases a<;>cases b<;>cases s 0<;>cases f 0<;>rfl
  ·obtain⟨n,rfl⟩:∃n,m=p+(n+1):=⟨m-p-1,by lia⟩;obtain⟨a,b,h⟩:=xb (f:=f) (s:=s) (m:=n) p;have h0:=h n fun j hj=>⟨rfl,rfl⟩;have h1:=h (n+p) fun j hj=>⟨by rw[hs (n+p+j+1) (by lia)];congr 1;lia,by rw[hf (n+p+j+1) (by lia)];congr 1;lia⟩;have e1:p+(n+1)+p-1=n+p+p:=by lia
   have e2:p+(n+1)-1=n+p:=by lia
   rw[e1,e2,h1,h0];cases a<;>cases b<;>cases XT f s n<;>rfl
 intro k hk
 induction k with
 |zero=>
  have:m=1/\p=0\/m=0/\p=1\/m=0/\p=0:=by lia
  lia
 |succ n ih=>
  by_cases c:n+1=m+p-1
  ·rw[c,base];congr 1;lia
  ·have h1:=ih (by lia);have e:n+1-p=(n-p)+1:=by lia
   rw[e]
   show(s (n+1)||(f (n+1)&&XT f s n))=(s (n-p+1)||(f (n-p+1)&&XT f s (n-p)))
   rw[h1,hs (n+1) (by lia),hf (n+1) (by lia),e]
open Classical in
noncomputable def X4(f s:Nat->Bool)(k:Nat):Bool:=decide (∃j,s (k+j)=true/\∀i,i<j->f (k+i)=true)
open Classical in
theorem Zdc(f s:Nat->Bool)(k:Nat):X4 f s k=(s k||(f k&&X4 f s (k+1))):=by
 unfold X4;rw[ic,hU];rw[ni,gM,hU];constructor
 ·rintro⟨j,h1,h2⟩;cases j with
  |zero=>exact .inl h1
  |succ n=>
   refine .inr ⟨h2 0 (by lia),n,?_,fun i hi=>?_⟩
   ·have:k+1+n=k+(n+1):=by lia
    rw[this];exact h1
   ·have:=h2 (i+1) (by lia);have e:k+1+i=k+(i+1):=by lia
    rw[e];exact this
 ·rintro(h|⟨h0,j,h1,h2⟩)
  ·exact⟨0,h,fun i hi=>by lia⟩
  ·refine⟨j+1,?_,fun i hi=>?_⟩
   ·have:k+(j+1)=k+1+j:=by lia
    rw[this];exact h1
   ·cases i with
    |zero=>exact h0
    |succ n=>
     have e:k+(n+1)=k+1+n:=by lia
     rw[e];exact h2 n (by lia)
theorem kJ{s g t:Nat->Bool}{k l:Nat}(hf:∀i,f (k+i)=g (l+i))(hs:∀i,s (k+i)=t (l+i)):X4 f s k=X4 g t l:=by
 have h:(∃j,s (k+j)=true/\∀i,i<j->f (k+i)=true)↔(∃j,t (l+j)=true/\∀i,i<j->g (l+i)=true):=
  ⟨fun⟨j,h1,h2⟩=>⟨j,hs j▸h1,fun i hi=>hf i▸h2 i hi⟩,fun⟨j,h1,h2⟩=>⟨j,(hs j).symm▸h1,fun i hi=>(hf i).symm▸h2 i hi⟩⟩
 unfold X4;exact l7.mpr h
def xD(f s:Nat->Bool)(h:Bool)(k:Nat):Nat->Bool
 |0=>h
 |q+1=>s k||(f k&&xD f s h (k+1) q)
theorem jl{f s:Nat->Bool}:∀q k,xD f s false k q=true↔∃j,j<q/\s (k+j)=true/\∀i,i<j->f (k+i)=true
 |0,k=>⟨fun h=>(gw h).elim,fun⟨j,hj,_⟩=>by lia⟩
 |q+1,k=>by
  show(s k||(f k&&xD f s false (k+1) q))=true↔_
  rw[ni,gM,jl q (k+1)];constructor
  ·rintro(h|⟨h0,j,hj,h1,h2⟩)
   ·exact⟨0,by lia,h,fun i hi=>by lia⟩
   ·refine⟨j+1,by lia,?_,fun i hi=>?_⟩
    ·have:k+(j+1)=k+1+j:=by lia
     rw[this];exact h1
    ·cases i with
     |zero=>exact h0
     |succ n=>
      have e:k+(n+1)=k+1+n:=by lia
      rw[e];exact h2 n (by lia)
  ·rintro⟨j,hj,h1,h2⟩;cases j with
   |zero=>exact .inl h1
   |succ n=>
    refine .inr ⟨h2 0 (by lia),n,by lia,?_,fun i hi=>?_⟩
    ·have:k+1+n=k+(n+1):=by lia
     rw[this];exact h1
    ·have:=h2 (i+1) (by lia);have e:k+1+i=k+(i+1):=by lia
     rw[e];exact this
open Classical in
theorem Zcb{s:Nat->Bool}{p m:Nat}(p1:1<=p)(hp:p<=m)(hf:∀k,m<=k->f k=f (k-p))(hs:∀k,m<=k->s k=s (k-p)):xD f s false (m-p) p=X4 f s m:=by
 rw[ic,jl];have sh:X4 f s m=X4 f s (m-p):=kJ (fun i=>by rw[hf (m+i) (by lia)];congr 1;lia) (fun i=>by rw[hs (m+i) (by lia)];congr 1;lia);rw[sh];unfold X4;rw[hU];constructor
 ·rintro⟨j,_,h1,h2⟩;exact⟨j,h1,h2⟩
 ·rintro⟨j,h1,h2⟩;have:∃j,(s (m-p+j)=true/\∀i,i<j->f (m-p+i)=true)/\j<p:=by
   induction j using Nat.strongRecOn with
   |_ j ih=>
    by_cases c:j<p
    ·exact⟨j,⟨h1,h2⟩,c⟩
    ·refine ih (j-p) (by lia) ?_ fun i hi=>h2 i (by lia);rw[hs (m-p+j) (by lia)] at h1;have e:m-p+j-p=m-p+(j-p):=by lia
     rw[e] at h1;exact h1
  obtain⟨j,⟨h1,h2⟩,hj⟩:=this;exact⟨j,hj,h1,h2⟩
theorem ZbN{s:Nat->Bool}{p m:Nat}(hp:p<=m)(hf:∀k,m<=k->f k=f (k-p))(hs:∀k,m<=k->s k=s (k-p)):∀k,m<=k->X4 f s k=X4 f s (k-p):=fun k hk=>
 kJ (fun i=>by rw[hf (k+i) (by lia)];congr 1;lia) (fun i=>by rw[hs (k+i) (by lia)];congr 1;lia)
open PySem.SetTable
section
variable{t:SetTable}{hashAt:Nat->Int}{h:Int}
end
theorem vP:∀{l₁ l₂:List Nat},l₁.Nodup->(∀x∈l₁,x∈l₂)->l₁.length<=l₂.length
 |[],_,_,_=>by simp
 |x::r,l₂,nd,h=>by
  obtain⟨h1,h2⟩:=iw.mp nd;have hx:=h x (by simp);have:=vP (l₂:=l₂.erase x) h2 fun y hy=>(List.mem_erase_of_ne (fun e=>h1 (by rw[<- e];exact hy))).mpr (h y (fT _ hy));rw[Θ hx] at this;have:=Υ hx;rw[gu];lia
theorem xI{a:Addr}(h:H a=none):∃H1,upd H a o=H1/\Zg H H1/\H1 a=some o:=⟨_,rfl,Zi h,Zd⟩
def WT(h:Heap)(d:Addr)(es:Array DictEntry)(ep:Nat):Prop:=∃o,h.get? d=some o/\o.ExactDict/\o.data=.dict es ep
section
variable{d:Addr}{es:Array DictEntry}{ep:Nat}
theorem WT.ty(m:WT s.heap d es ep):s.TypeIs (.ref d) "dict" := let ⟨o,h1,h2,_⟩:=m; ⟨o,h1,h2.1⟩
theorem WT.keep(m:WT h d es ep)(k:∀o,h.get? d=some o->h'.get? d=some o):WT h' d es ep:=let ⟨o,h1,r⟩:=m; ⟨o,k _ h1,r⟩
theorem WT.lt(m:WT h d es ep):d<h.objs.size:=let ⟨_,h1,_⟩:=m;fY h1
theorem Zcc(hd:(d==sysModules)=false)(m:WT s.heap d es ep)
  (q:Q (.ref s.heap.objs.size) { s with heap:=s.heap.push { cls:=.type "dict_keyiterator",data:=.fields #[.ref d,.int 0 0,.int es.size 0,.int ep 0] } }) :
  wpAny (model prog w) A (pyIter (.ref d)) Q E s:=by
 obtain⟨o,ho,hc,C6⟩:=id m;refine wpAny_pyIter_slot m.ty F.slot_dict_iter (lE F.slot_dict_iter m.ty F.entry_dict_iter ?_ (F.args_dict_iter_1 _));unfold Builtin.«dict.__iter__» Builtin.Dict.dictSlotNone Builtin.Dict.showsAll;refine fE (fE (wpAny_notOrdered_dict m.ty (fI ?_)));refine fE (m:=Builtin.Dict.addrOf _) (wpAny_of_eq (a:=d) rfl ?_);rw[oo (by rw[hd];exact gw)];refine fE (fI (fE (wpAny_dictEntries ho C6 (fE (wpAny_dictEpoch ho C6 ?_)))));exact fE (iG (fI ⟨_,rfl, "dict_keyiterator",_,⟨_,gB _ rfl,rfl⟩,nN.lookup,by simpa[rawInt] using q⟩))
theorem kq{Q:Option Value->Shared->Prop}(wy:s.heap.IsKeyIter it d i es.size ep)(m:WT s.heap d es ep)
  (q1:∀hi:i<es.size,∀h',h'.IsKeyIter it d (i+1) es.size ep->Heap.SameBut it s.heap h'->Q (some es[i].key) { s with heap:=h' })
  (q2:es.size<=i->A.handled=none/\∀h',Heap.ExtBut it s.heap h'->Q none { s with heap:=h' }):wpAny (model prog w) A (pyNext (.ref it)) Q E s:=by
 have ty:=wy.typeIs;obtain⟨o,ho,hc,hd⟩:=id wy;obtain⟨od,IP,_,LJ⟩:=m;have nm:∀{A':Around}{Q':String->Shared->Prop} {E'},Q' "dict_keyiterator" s->wpAny (model prog w) A' (typeNameOfWhole (.ref it)) Q' E' s:=fun h=>wpAny_typeNameOfWhole_keyiter ty h;unfold pyNext;refine fE (wpAny_attempt (ng (name:=Str.ofString "__next__") ty nN (lE nN ty F.entry_dict_keyiterator_next ?_ (F.args_dict_keyiterator_next_1 _))));refine fE (fI (fE (fE (fE (nm (fI (fE (wpAny_fieldsOf ho hd ?_))))))));rw[show Builtin.Dict_items.ownsTuple "dict_keyiterator" = false by left];simp only[ig,gK]
 change wpAny _ _ (if(Value.ref d==Value.none)=true then _ else _) _ _ s
 rw[oo (show ¬((Value.ref d==Value.none)=true) from nofun)];refine fE (fI (fE (wpAny_dictEntries IP LJ ?_)));rw[oo (by simp)];refine fE (fI (fE (wpAny_dictEpoch IP LJ ?_)));rw[oo (by simp)];refine fI ?_;have n0:¬((i:Int)<0):=by lia
 rcases Nat.lt_or_ge i es.size with hi|hi
 ·simp only[n0,gK,hJ,nr hi];refine fE (fE (nm (fI (fE (wpAny_isOneOf_keyiter ty ?_)))));refine fE (m:=setField (.ref it) 1 (rawInt ((i:Int)+1))) (wpAny_setField ho hd (by simp) ?_);have st:(s.heap.update it (Obj.mapFields (·.setIfInBounds 1 (rawInt ((i:Int)+1))))).IsKeyIter it d (i+1) es.size ep:=
   ⟨_,lN _ ho (Obj.isFreed_of_fields (Obj.data_mapFields hd _)),(Obj.cls_mapFields ..).trans hc,by rw[Obj.data_mapFields hd];simp[rawInt]⟩
  have q:=q1 hi _ st (Heap.SameBut.update ..);generalize s.heap.update it (Obj.mapFields (·.setIfInBounds 1 (rawInt ((i:Int)+1))))=h' at st q ⊢;exact fE (iq (fE (wpAny_isOneOf_keyiter (s:={ s with heap:=h' }) st.typeIs (fI (fI ⟨_,rfl,fI q⟩)))))
 ·obtain⟨hh,q⟩:=q2 hi;simp only[n0,gK,hJ,nO hi];refine fE (fE (nm (fI ?_)));refine fE (m:=setField (.ref it) 0 .none) (wpAny_setField ho hd (by simp) ?_);refine fE (m:=newExc (.type "StopIteration") []) ?_;simp only[newExc,newTuple];refine fE (iG (fE (m:=firstArgMember _ _) (wpAny_of_eq (a:=Value.none) rfl (iG ?_ (by size_fits)))) (by size_fits));unfold raiseNew;refine fE (wpAny_handled ?_);rw[show A.in1.handled=none from hh];refine fE (fI (wpAny_throw ?_));exact fE (mN (T := "StopIteration") (b:=true) ⟨_,gB _ rfl,rfl⟩ isSubtype_stop (fI (q _ (((Heap.SameBut.update ..).extBut.push _).push _))))
theorem Zb7{Q:Option Value->Shared->Prop}(wy:s.heap.IsKeyIter it d i es.size ep)(m:WT s.heap d es ep)(hi:i<es.size)
  (q:∀h',h'.IsKeyIter it d (i+1) es.size ep->Heap.SameBut it s.heap h'->Q (some es[i].key) { s with heap:=h' }) :
  wpAny (model prog w) A (pyNext (.ref it)) Q E s:=kq wy m (fun _=>q) fun h=>ot hi (by lia)
theorem ZbR{Q:Option Value->Shared->Prop}(hh:A.handled=none)(hi:es.size<=i)(wy:s.heap.IsKeyIter it d i es.size ep)(m:WT s.heap d es ep)
  (q:∀h',Heap.ExtBut it s.heap h'->Q none { s with heap:=h' }):wpAny (model prog w) A (pyNext (.ref it)) Q E s:=kq wy m (fun h=>ot hi (by lia)) fun _=>⟨hh,q⟩
theorem Zaz(hh:A.handled=none)(I d:Addr)(oA:d≠I)(es:Array DictEntry)(ep:Nat) :
  Walks prog w A I [I,d] [I] es.size (fun i v=>∃e,es[i]?=some e/\v=e.key) (fun i h=>h.IsKeyIter I d i es.size ep/\WT h d es ep) where
 sub:=fun b hb=>by simp at hb;simp[hb]
 frame:=fun _ _ _ st hk=>⟨st.1.at fun o e=>hk I (by simp) o e,st.2.keep fun o e=>hk d (by simp) o e⟩
 item:=fun i s Q E hi st hQ=>Zb7 st.1 st.2 hi fun h' E7 Ax=>
  hQ _ h' s.toks ⟨es[i],nr hi,rfl⟩ ⟨E7,st.2.keep fun o e=>Ax.extBut d o oA e⟩ fun b o hb e=>Ax.extBut b o (fun h=>hb (by simp[h])) e
 done:=fun s Q E st hQ=>ZbR hh (fH _) st.1 st.2 fun h' Fb=>hQ h' s.toks fun b o hb e=>Fb b o (fun h=>hb (by simp[h])) e
 self:=fun _ _ _ _ st hQ=>wpAny_pyIter_keyiter st.1 hQ
theorem Zdn(lo:(d==sysModules)=false):W.KdlSrc prog w "dict" d d es.size (fun i v=>∃e,es[i]?=some e/\v=e.key) (fun h=>WT h d es ep) where
 type:=fun _ m=>m.ty
 there:=fun _ m=>⟨m.lt,m.lt⟩
 keep:=fun _ _ m hk=>m.keep fun o e=>hk d (.inl rfl) o e
 notList:=by left
 notTuple:=by left
 hint:=fun _ _ _ _ m hq=>W.kdl_hint_dict m.ty hq
 iter:=fun _ _ hh m=>⟨_,_,(fun _ _ hq=>Zcc lo m hq),Zaz hh _ d (gb m.lt) es ep,⟨⟨_,gB _ rfl,rfl,rfl⟩,m.keep fun _ e=>fZ _ e⟩⟩
end
theorem ZeS{fs:Array DictEntry}{acc:Array Value}{ys:List Value}(e:fs.toList.map (·.key)=ys)(h:ItemsOf (fun i v=>∃e,fs[i]?=some e/\v=e.key) acc fs.size):acc.toList=ys:=by
 subst e;refine mO fun j=>?_;rw[fO,mH,mH];cases c:acc[j]? with
 |none=>
  have:acc.size<=j:=by simpa using c
  rw[nO (by have:=h.1;lia)];rfl
 |some v=>
  obtain⟨e,he,rfl⟩:=h.2 j v c;rw[he];rfl
open PySem.W
section
variable{K1 K2:Type}[DecidableEq K1][DecidableEq K2](k1:KeyKind prog w K1)(k2:KeyKind prog w K2)
def zJ(h:Heap)(x:K1×List K2)(a:Addr):Prop:=∃o v b n,h.get? a=some o/\o.cls=.type "tuple" /\ o.data=.seq #[v,.ref b] n/\k1.is x.1 v=true/\IsTupleKey k2 h x.2 b
variable{k1 k2}
theorem zJ.typeIs{x:K1×List K2}{a:Addr}(y:zJ k1 k2 s.heap x a):s.TypeIs (.ref a) "tuple" := let ⟨o,_,_,_,ho,hc,_⟩:=y; ⟨o,ho,hc⟩
theorem zJ.inj{h:Heap}{a:Addr}{x y:K1×List K2}(hx:zJ k1 k2 h x a)(hy:zJ k1 k2 h y a):x=y:=by
 obtain⟨o,v,b,n,ho,_,hd,h1,h2⟩:=hx;obtain⟨o',v',b',n',rN,_,su,h1',HY⟩:=hy;obtain rfl:o=o':=fW (ho.symm.trans rN);rw[hd] at su;injection su with e _;injection e with e;injection e with e1 e2;injection e2 with e2 _;injection e2 with e2;subst e1;subst e2;exact Prod.ext (k1.inj _ _ _ h1 h1') (h2.inj HY)
theorem zJ.keeps{h h':Heap}{x:K1×List K2}{a d:Addr}{o:Obj}{es ep}(y:zJ k1 k2 h x a)(ho:h.get? d=some o)(hd:o.data=.dict es ep)(hs:Heap.SameBut d h h'):zJ k1 k2 h' x a:=by
 obtain⟨o',v,b,n,rN,hc,su,h1,h2⟩:=y;have oA:a≠d:=by
  rintro rfl;obtain rfl:o'=o:=fW (rN.symm.trans ho);rw[hd] at su;exact nomatch su
 exact⟨o',v,b,n,(hs.2 a oA).trans rN,hc,su,h1,h2.keeps ho hd hs⟩
def Zea(k1:KeyKind prog w K1)(k2:KeyKind prog w K2)(x:K1×List K2):Int:=reduceHash (Builtin.Tuple.tupleHashOf [k1.hash x.1,tupleKeyHash k2 x.2])
theorem Zcf{x:K1×List K2}{a:Addr}{Q:Int->Shared->Prop}(hu:A.units+1<cLine)(hk:zJ k1 k2 s.heap x a)(h:Q (Zea k1 k2 x) { s with toks:=s.toks+(x.2.length+3) }) :
  wpAny (model prog w) A (pyHash (.ref a)) Q E s:=by
 have hT:=hk.typeIs;obtain⟨o,v,b,n,ho,_,hd,h1,h2⟩:=hk;refine pyHash_slot (T := "tuple") hT F.slot_tuple_hash F.entry_tuple_hash (F.args_tuple_hash_1 _) (beq_builtin_none _) (.inr (by lia)) ?_
 show wpAny _ _ (Builtin.Tuple.tupleItemsOf (.ref a) >>= _) _ _ s
 refine fE (wpAny_tupleItemsOf ho hd ?_);refine fE ?_;rw[<- mP]
 show wpAny _ _ (forIn [v,Value.ref b] _ _) _ _ s
 rw[iN];refine fE (fE (k1.pyHash h1 ?_))
 first
  |refine fI ?_
  |refine fE (fI (fI ?_))
 show wpAny _ _ (forIn [Value.ref b] _ _) _ _ _
 rw[iN];refine fE (fE (wpAny_pyHash_tuple (knd:=k2) (ks:=x.2) (by simp only[mQ];lia) h2 ?_))
 first
  |refine fI ?_
  |refine fE (fI (fI ?_))
 show wpAny _ _ (forIn ([]:List Value) _ _) _ _ _
 rw[mR];refine fI ?_
 show wpAny _ _ (retInt (Builtin.Tuple.tupleHashOf [k1.hash x.1,tupleKeyHash k2 x.2])) _ _ _
 refine fE (wpAny_mkInt (fI ⟨_,_,rfl,?_⟩));have e:s.toks+(x.2.length+3)=s.toks+1+(x.2.length+1)+1:=by lia
 rw[e] at h;exact h
theorem QO{x y:K1×List K2}{a b:Addr}{P:Fin->Shared->Prop}(hu:A.units<cLine)(hx:zJ k1 k2 s.heap x a)(hy:zJ k1 k2 s.heap y b)(h:P (.done (.ret (.bool (decide (x=y))))) s) :
  wpAny (model prog w) A (Builtin.«tuple.__eq__» ⟨[.ref a,.ref b],[]⟩) P E s:=by
 have RA:=hy.typeIs;obtain⟨oa,u,p,na,Sv,_,RS,wM,w8⟩:=hx;obtain⟨ob,v,q,nb,En,_,sf,uA,ui⟩:=hy;have hd:decide (x=y)=(decide (x.1=y.1)&&decide (x.2=y.2)):=by
  obtain⟨x1,x2⟩:=x;obtain⟨y1,y2⟩:=y
  by_cases e1:x1=y1<;>by_cases e2:x2=y2<;>simp[e1,e2]
 show wpAny _ _ (isInstance (.ref b) (.type "tuple") >>= _) _ _ s
 refine fE (mN RA isSubtype_tuple_tuple ?_);simp only[i6,ig,gK];refine fE (wpAny_tupleItemsOf Sv RS ?_);refine fE (wpAny_tupleItemsOf En sf ?_);refine fE ?_
 show wpAny _ _ (forIn [(u,v),(Value.ref p,Value.ref q)] _ _) _ _ s
 rw[iN];refine fE (fE (k1.eqBool (a:=x.1) (b:=y.1) wM uA ?_))
 by_cases e1:x.1=y.1
 ·rw[fQ e1];simp only[i6,ig,gK];refine fI ?_
  show wpAny _ _ (forIn [(Value.ref p,Value.ref q)] _ _) _ _ s
  rw[iN];refine fE (fE (wpAny_eqBool_tuple (knd:=k2) hu w8 ui ?_))
  by_cases e2:x.2=y.2
  ·rw[fQ e2];simp only[i6,ig,gK];refine fI ?_
   show wpAny _ _ (forIn ([]:List (Value×Value)) _ _) _ _ s
   rw[mR];refine fI (fI ?_);rw[hd,fQ e1,fQ e2] at h;exact h
  ·rw[fV e2];simp only[Bool.not_false,iF];rw[hd,fV e2,md] at h;exact fE (fI (fI (fI (fI h))))
 ·rw[fV e1];simp only[Bool.not_false,iF];rw[hd,fV e1,iM] at h;exact fE (fI (fI (fI (fI h))))
theorem ZbV{x y:K1×List K2}{a b:Addr}{Q:Bool->Shared->Prop}(hu:A.units+1<cLine)(hx:zJ k1 k2 s.heap x a)(hy:zJ k1 k2 s.heap y b)(h:Q (decide (x=y)) s) :
  wpAny (model prog w) A (eqBool (.ref a) (.ref b)) Q E s:=by
 unfold eqBool
 try with_reducible refine iq ?_
 show wpAny _ _ (if(Value.ref a==Value.ref b)=true then _ else _) Q E s
 by_cases hab:(Value.ref a==Value.ref b)=true
 ·rw[oq hab];have e:a=b:=by have:=eq_of_beq hab;injection this
  subst e;obtain rfl:=hx.inj hy;exact fE (wpAny_rule (fI (by simpa using h)))
 ·rw[oo hab];exact fE (wpAny_richCompare_same_room (op:=.Eq) hx.typeIs hy.typeIs F.slot_tuple_eq (lE F.slot_tuple_eq hx.typeIs F.entry_tuple_eq (QO (by simp only[mQ];lia) hx hy ⟨_,rfl,(fun e=>nomatch e),ip h⟩) (F.args_tuple_eq_2 _ _)) (by lia))
theorem JH{ks:List K2}{a:Addr}{Q:Bool->Shared->Prop}(n:Nat)(hk:IsTupleKey k2 s.heap ks a)(h:Q true s):wpAny (model prog w) A (eqIsQuiet (n+1) (.ref a)) Q E s:=by
 have hT:=hk.typeIs;obtain⟨o,items,n,ho,_,hd,hi⟩:=hk;unfold eqIsQuiet;refine fE (me hT F.slot_tuple_eq.lookup ?_)
 show wpAny _ _ (isInstance (.ref a) (.type "tuple") >>= _) _ _ s
 refine fE (mN hT isSubtype_tuple_tuple ?_);simp only[i6,ig,gK];refine fE (iS ho hd ?_);refine fE ?_
 show wpAny _ _ (forIn items _ _) _ _ s
 rw[<- mP];refine wpAny_forIn_list _ (fun XO r s'=>r.1=none/\s'=s/\∀v∈XO,carriedByValue v=true) _ ?_ ?_ _ _ ⟨rfl,rfl,hi.byValue⟩
 ·rintro v XO r s' ⟨hr,rfl,oM⟩;rw[eqIsQuiet_byValue _ (oM v iL)];refine fE (fI ?_);simp only[i6,ig,gK];exact fI ⟨rfl,rfl,fun u Tx=>oM u (fT _ Tx)⟩
 ·rintro⟨r1,r2⟩ s' ⟨hr,rfl,_⟩;simp only at hr;subst hr;exact fI h
theorem Zcl{x:K1×List K2}{a:Addr}{Q:Bool->Shared->Prop}(hk:zJ k1 k2 s.heap x a)(h:Q true s):wpAny (model prog w) A (eqIsQuiet 8 (.ref a)) Q E s:=by
 have hT:=hk.typeIs;obtain⟨o,v,b,n,ho,_,hd,h1,h2⟩:=hk;unfold eqIsQuiet;refine fE (me hT F.slot_tuple_eq.lookup ?_)
 show wpAny _ _ (isInstance (.ref a) (.type "tuple") >>= _) _ _ s
 refine fE (mN hT isSubtype_tuple_tuple ?_);simp only[i6,ig,gK];refine fE (iS ho hd ?_);refine fE ?_;rw[<- mP]
 show wpAny _ _ (forIn [v,Value.ref b] _ _) _ _ s
 rw[iN,eqIsQuiet_byValue _ (k1.byValue _ _ h1)];refine fE (fE (fI ?_));simp only[i6,ig,gK];refine fI ?_
 show wpAny _ _ (forIn [Value.ref b] _ _) _ _ s
 rw[iN];refine fE (fE (JH 6 h2 ?_));simp only[i6,ig,gK];refine fI ?_
 show wpAny _ _ (forIn ([]:List Value) _ _) _ _ s
 rw[mR];exact fI (fI h)
end
abbrev TEm:=St->Hp->(St->Hp->Prop)->Prop
def PEm(X:Cx)(em:Sem Unit)(t:TEm):Prop:=
 ∀(dm:List (Addr×Obj)) (s:Shared) (U:St) (H:Hp) (Q:St->Hp->Prop),L2.Inv X dm U H s->t U H Q->wpAny (model X.prog X.w) X.A em (fun _ s'=>∃σ' H',L2.Inv X dm σ' H' s'/\Q σ' H') X.xe s
def ZaV(J:It)(g:TG)(tt:TT)(em:TEm)(σ0:St)(H1:Hp)(Q:St->Hp->Prop):Prop:=
 ∃W:Nat->Nat->St->Hp->Prop,(∃m,W 0 m σ0 H1)/\∀i m σ' H',W i m σ' H'->(J.stop i H'/\Q σ' H') \/
  (J.go i H'/\∃N:St->Hp->Prop,(∀σ2 H5,N σ2 H5->∃m',m'<m/\W (i+1) m' σ2 H5)/\∀x H2,J.yld i H' x H2->g x σ' H2 fun σ2 H3=>tt σ2 H3 fun c H4=>if c=true then em σ2 H4 N else N σ2 H4)
def Zax(p:Pos)(tg:Expr)(pI:List Expr)(it:Value)(env:Env)(oK:Sem Unit)(c:Code):Sem Fin:=do
 standAt p
 match <- pyNext it with
 |none=>pure (.done .next)
 |some v=>
  letOwnedTupleGo tg it v
  assign tg env v
  let mut ok:=true
  for c in pI do
   if ok then ok <- isTrue c env (eval c env)
  if ok then oK
  again c
theorem Zdx{d:Nat}{it:Value}(h:(Code.compLoop e d it acc env).isFrame=false) :
  (model prog w).den (.compLoop e d it acc env)=(compTurn e d it acc env).onRaise (fun x=>do noteFrame x env;theTreesLotGoes x):=by
 show(if(Code.compLoop e d it acc env).isFrame then(compTurn e d it acc env).onRaise (leaving env) else(compTurn e d it acc env).onRaise (fun x=>do noteFrame x env;theTreesLotGoes x))=_
 rw[h];rfl
theorem Zbx{d:Nat}{it:Value}(h:(Code.compStart e d it acc env).isFrame=false) :
  (model prog w).den (.compStart e d it acc env)=(compStart e d it acc env).onRaise (fun x=>do noteFrame x env;standAt theWindowsPlace):=by
 show(if(Code.compStart e d it acc env).isFrame then(compStart e d it acc env).onRaise (leaving env) else(compStart e d it acc env).onRaise (fun x=>do noteFrame x env;standAt theWindowsPlace))=_
 rw[h];rfl
theorem Zbk{d:Nat}{it:Value}(cl:(clausesOf e)[d]?=some ⟨tg,iter,pI,0⟩)(hf:(Code.compStart e d it acc env).isFrame=false)
  (h0:codeAny (model prog w) A (.compLoop e d it acc env) R s)
  (h:wpAny (model prog w) A (pyIter it) (fun Cm s'=>codeAny (model prog w) A (.compLoop e d Cm acc env) R s') (fun _ _=>False) s) (hu:A.under (.compStart e d it acc env)=A:=by rfl) (hq:∀Cm,(Code.compLoop e d Cm acc env).quiet=true:=by intro _;rfl) :
  codeAny (model prog w) A (.compStart e d it acc env) R s:=by
 refine codeAny_of_tree ?_;rw[Zbx hf,hu];refine wpAny_notedAt ?_;unfold compStart;rw[cl]
 show wpAny _ A (ask >>= _) _ _ s
 refine fE (wpAny_askSetting (wpAny_ite ?_))
 split
 ·first
   |exact fE (fI (fI (And.intro (hq _) h0)))
   |exact fI (And.intro (hq _) h0)
 ·first
   |exact fE (wpAny_rule (fE (mv (fE (Qc h fun Cm s' h'=>fI (And.intro (hq _) h'))))))
   | (refine fE (wpAny_rule ?_);show wpAny _ _ (standAt iter.pos >>= _) _ _ s;exact fE (mv (fE (Qc h fun Cm s' h'=>fI (And.intro (hq _) h')))))
section
variable{Y:Cx}{tn:Nat->Heap->Prop}{g:TG}{em:TEm}{p:Pos}{oK:Sem Unit}{d:Nat}{Q:St->Hp->Prop}
theorem ZfE(hf:(Code.compLoop e d (.ref it) acc Y.env).isFrame=false)(ht:compTurn e d (.ref it) acc Y.env=Zax p tg pI (.ref it) Y.env oK (.compLoop e d (.ref it) acc Y.env))
  (T:Qx Y.prog Y.w Y.K tg J fp it tn) (I:L2.Inv Y dm σ0 H1 s) (st:tn 0 s.heap) (Dw:∀b∈fp,za Y dm H1 b) (hc:Y.calm=true) (hx:Y.xe=fun _ _=>False)
  (hg:PG Y tg g) (hT:PTs Y pI tt) (he:PEm Y oK em) (h:ZaV J g tt em σ0 H1 Q) (hR:∀σ' H' s',L2.Inv Y dm σ' H' s'->Q σ' H'->R (.ok .next) s')
  (hu:Y.A.under (.compLoop e d (.ref it) acc Y.env)=Y.A:=by rfl) (hq:(Code.compLoop e d (.ref it) acc Y.env).quiet=true:=by rfl) :
  codeAny (model Y.prog Y.w) Y.A (.compLoop e d (.ref it) acc Y.env) R s:=by
 obtain⟨W,⟨m0,w0⟩,tL⟩:=h;have r8:∀{H':Hp},(∀b∈fp,H' b=none)->∀b∈fp,za Y dm H' b:=fun {H'} hn b hb=>by
  obtain⟨f0,fr⟩:=Dw b hb;exact⟨hn b hb,fr⟩
 unfold PG at hg;unfold PTs at hT;unfold PEm at he;rw[hx] at hg hT he;refine codeAny_loop hq (fun n s'=>∃i σ' H',L2.Inv Y dm σ' H' s'/\tn i s'.heap/\(∀b∈fp,H' b=none)/\W i n σ' H') ?_ m0 ⟨0,σ0,H1,I,st,fun b hb=>(Dw b hb).1,w0⟩;rintro n s5 ⟨i,σ5,H5,I5,Bj,Do,w5⟩;rw[Zdx hf,hu,ht];refine wpAny_noted ?_;unfold Zax;have TI:=T.item Y rfl rfl rfl hc i dm s5 σ5 H5 (fun _ _=>False) I5 (r8 Do) Bj;have TD:=T.done Y rfl rfl rfl hc i dm s5 σ5 H5 (fun _ _=>False) I5 (r8 Do) Bj;rcases tL i n σ5 H5 w5 with⟨stop,qn⟩|⟨go,N,hN,step⟩
 ·refine fE (mv (fE (Qc (TD stop) fun r s6 ⟨hr,I6⟩=>?_)));subst hr;exact fI (hR _ _ _ I6 qn)
 ·refine fE (mv (fE (Qc (TI go) fun r s6 ⟨u,hr,h6⟩=>?_)));subst hr;refine fE (Qc h6 fun _ s7 ⟨x,H7,I7,r7,y7,EU,Tv⟩=>?_);have Tt:=I7.pinned (r8 Tv) (T.obj _ _ EU);refine fE (Qc (hg _ s7 σ5 H7 x u _ Tt r7 (step x H7 y7)) fun _ s8 ⟨σ8,H8,I8,q8⟩=>?_);refine fE (Qc (hT _ s8 σ8 H8 _ I8 q8) fun c s9 ⟨H9,I9,q9⟩=>?_);have Cj:∀{σa:St}{Ha:Hp}{sa:Shared},L2.Inv Y (dm++jt fp s7.heap) σa Ha sa->(∃m',m'<n/\W (i+1) m' σa Ha)->∃m,m<n/\∃i σ' H',L2.Inv Y dm σ' H' sa/\tn i sa.heap/\(∀b∈fp,H' b=none)/\W i m σ' H':=fun {σa Ha sa} Ia ⟨m',hm,wa⟩=>by
   refine⟨m',hm,i+1,σa,Ha,Ia.unpinned,T.keep _ _ _ EU fun b hb o e=>(Ia.pin (b,o) (gy _ (gy _ (US hb e)))).1,fun b hb=>?_,wa⟩;obtain⟨o,e,d⟩:=T.obj _ _ EU b hb;exact(Ia.pin (b,o) (gy _ (gy _ (US hb e)))).2.1
  cases c with
  |false=>exact fI ⟨rfl,Cj I9 (hN _ _ (by simpa using q9))⟩
  |true=>
   rw[oq rfl] at q9;exact fE (Qc (he _ s9 σ8 H9 _ I9 q9) fun _ s10 ⟨σ10,Sq,Tk,FD⟩=>fI ⟨rfl,Cj Tk (hN _ _ FD)⟩)
end
def ZdZ(wi:TI)(ix:List (Option Nat))(o0:Addr->HO)(g:TG)(tt:TT)(em:Addr->TEm):TE:=fun U H Q=>wi U H fun J H1=>∀D,H1 D=none->ZaV J g tt (em D) (sub ix U) (upd H1 D (o0 D)) (fun _ H'=>Q (.ref D) H')
theorem kK{XO:List Comprehension}{nA:Sem Value}{o0:Addr->HO}{g:TG}{em:Addr->TEm}{Q:VK}
  (I:L2.Inv X dm U H s) (h:ZdZ wi ix o0 g tt em U H Q)
  (oy:∀(D C:Addr) (H':Hp) (s':Shared) (m:Str->Option Value),L2.Inv X dm U H' s'->za X dm H' C->s'.heap.Ns C m->Q (.ref D) H'->compPost (model X.prog X.w) X.A X.xe use QV (.ref D) C (.ok .next) s')
  (ri:clausesOf e=⟨tg,iter,pI,0⟩::XO) (IU:∀it acc env,(Code.compLoop e 0 it acc env).isFrame=false/\(Code.compStart e 0 it acc env).isFrame=false)
  (S2:∀it D env,compTurn e 0 it (.ref D) env=Zax iter.pos tg pI it env (bd D env) (.compLoop e 0 it (.ref D) env))
  (Dk:∀(A:Around) it acc env,A.under (.compLoop e 0 it acc env)=A/\A.under (.compStart e 0 it acc env)=A) (No:∀it acc env,(Code.compLoop e 0 it acc env).quiet=true)
  (Oy:∀(A:Around) (E:Value->Shared->Prop) (Q:Value->Shared->Prop) (s:Shared),Q (.ref s.heap.objs.size) { s with heap:=s.heap.push ob }->wpAny (model X.prog X.w) A nA Q E s)
  (pH:∀s2:Shared,∀H1,L2.Inv X dm U H1 s2->L2.Inv X dm U (upd H1 s2.heap.objs.size (o0 s2.heap.objs.size)) { s2 with heap:=s2.heap.push ob })
  (ok:ZX X.env.scope X.N Nc ix scope) (hc:X.calm=true) (hi:PI X tg iter wi)
  (hg:∀cl C s H fp,PG (Y6 X Nc scope cl C s H fp) tg g) (ht:∀cl C s H fp,PTs (Y6 X Nc scope cl C s H fp) pI tt) (he:∀cl C s H fp D,PEm (Y6 X Nc scope cl C s H fp) (bd D (compEnvC scope cl C X.env)) (em D))
  (hs:∀x,foldedSetIterable iter X.env x=pure x:=by intro _;rfl):wpAny (model X.prog X.w) X.A (comprehension e scope X.env rX nA false (eval iter X.env) use) QV X.xe s:=by
 refine wpAny_comprehension_free (use:=use) (cl:=Wn scope X.env) ri hs (Ze4 (xf I ok)) ok.kind ok.names (thn (hi dm s U H _ I h) fun v s1 q1=>thn q1 fun E2 s2 q2=>?_);obtain⟨it,fp,tn,J,H1,e1,I2,T,so,f2,q⟩:=q2;subst e1;have hD:H1 s2.heap.objs.size=none:=I2.hok.fresh (fH _);have lw:=q _ hD;refine Oy _ _ _ _ ?_;have I3:=pH s2 H1 I2;have ES:=T.obj 0 _ so;have f3:∀b∈fp,za X dm (upd H1 s2.heap.objs.size (o0 s2.heap.objs.size)) b:=fun b hb=>by
  obtain⟨o,e,_⟩:=ES b hb;obtain⟨f0,fr⟩:=f2 b hb;exact⟨by rw[ZF (gb (fY e))];exact f0,fr⟩
 have wP:tn 0 (s2.heap.push ob):=T.keep 0 _ _ so fun b _ o e=>fZ _ e;generalize DB:({ s2 with heap:=s2.heap.push ob }:Shared)=s3 at I3 ⊢;have Ci:tn 0 s3.heap:=by rw[<- DB];exact wP
 refine wpAny_newFunctionEnv ok.nocell (by intro y hy;simp at hy) (fun h1 DA AY=>?_) ok.kind;have k1:∀b o,s3.heap.get? b=some o->h1.get? b=some o:=fun b o e=>(AY.2 b (gb (fY e))).trans (fZ _ e);have BC:∀b∈fp,∃o,s3.heap.get? b=some o:=fun b hb=>let ⟨o,e,_⟩:=T.obj 0 _ Ci b hb; ⟨o,e⟩
 have I4:L2.Inv (Y6 X Nc scope (Wn scope X.env) s3.heap.objs.size s3 (upd H1 s2.heap.objs.size (o0 s2.heap.objs.size)) fp) dm (sub ix U) (upd H1 s2.heap.objs.size (o0 s2.heap.objs.size)) { s3 with heap:=h1,toks:=s3.toks+([]:List (Str×Value)).length }:=
  Zal I3 ok f3 BC DA k1
 have BM:tn 0 h1:=T.keep 0 _ _ Ci fun b _ o e=>k1 b o e;have hC:s3.heap.get? s3.heap.objs.size=none:=Heap.get?_none_of_le (fH _);have f4:∀b∈fp,za (Y6 X Nc scope (Wn scope X.env) s3.heap.objs.size s3 (upd H1 s2.heap.objs.size (o0 s2.heap.objs.size)) fp) dm (upd H1 s2.heap.objs.size (o0 s2.heap.objs.size)) b:=fun b hb=>by
  obtain⟨o,e⟩:=BC b hb;obtain⟨f0,f1,ff,f3',f4,f5⟩:=f3 b hb;have OP:b∉frs X.stack:=fun z=>by
   rcases fU.mp (I3.stkSub b z) with z|z
   ·exact f1 z
   ·exact ff z
  exact⟨f0,gb (fY e),OP,.inl hb,fun x c q=>f4 x c (WO (xf I3 ok) q),f5⟩
 have Dd:=ZfE (Y:=Y6 X Nc scope (Wn scope X.env) s3.heap.objs.size s3 (upd H1 s2.heap.objs.size (o0 s2.heap.objs.size)) fp) (e:=e) (d:=0) (acc:=.ref s2.heap.objs.size) (p:=iter.pos) (R:=compPost (model X.prog X.w) X.A X.xe use QV (.ref s2.heap.objs.size) s3.heap.objs.size)
  (IU _ _ _).1 (S2 _ _ _) T I4 BM f4 hc rfl (hg _ _ _ _ _) (ht _ _ _ _ _) (he _ _ _ _ _ _) lw (fun σ' H' s' J' qq=>by
   obtain⟨m',EW,_⟩:=id J'.loc;have Co:H' s3.heap.objs.size=none:=J'.free;exact oy _ _ H' s' m' (ZdX (h':=s'.heap) I3 f3 hC J' (.refl ..)) (I3.fpOk (fH _) Co) EW qq) (Dk _ _ _ _).1 (No _ _ _)
 exact Zbk (by rw[ri];rfl) (IU _ _ _).2 Dd (T.self X.A 0 _ _ _ BM Dd) (Dk _ _ _ _).2 (fun _=>No _ _ _)
theorem vN{g:TG}{em:TEm}{Q:St->Hp->Prop}(Pv:Nat->St->Hp->Prop)(h0:Pv 0 σ0 H0)
  (uE:∀i U H,i<n->Pv i U H->J.go i H) (oz:∀U H,Pv n U H->J.stop n H)
  (hs:∀i x U H H2,i<n->Pv i U H->J.yld i H x H2->∀(N:St->Hp->Prop),(∀σ2 H4,Pv (i+1) σ2 H4->N σ2 H4) -> g x U H2 fun σ2 H3=>tt σ2 H3 fun c H4=>if c=true then em σ2 H4 N else N σ2 H4)
  (hd:∀U H,Pv n U H->Q U H):ZaV J g tt em σ0 H0 Q:=by
 refine⟨fun i m U H=>m=n-i/\i<=n/\Pv i U H,⟨n,by simp,g9 _,h0⟩,?_⟩;rintro i m U H ⟨rfl,hi,p⟩
 by_cases oU:i<n
 ·refine .inr ⟨uE i U H oU p,fun σ2 H4=>Pv (i+1) σ2 H4,fun σ2 H4 q=>⟨n-(i+1),by lia,rfl,oU,q⟩,fun x H2 y=>hs i x U H H2 oU p y _ fun σ2 H4 q=>q⟩
 ·have:i=n:=by lia
  subst this;exact .inl ⟨oz U H p,hd U H p⟩
def emL(te:TE)(D:Addr):TEm:=fun U H Q=>te U H fun v H5=>∃xs,H5 D=some (.lst xs)/\xs.length<sizeLine/\Q U (upd H5 D (.lst (xs++[v])))
theorem Zcz{Y:Cx}(h:PE Y ua te):PEm Y (do let _ <- call (.builtin "list.append") [.ref D,<- eval ua Y.env]) (emL te D):=by
 intro dm s U H Q I q;refine fE (thn (h dm s U H _ I q) fun z s1 ⟨v,H1,I1,r1,xs,hx,hz,q1⟩=>?_);have ap:=Z0 (X:=Y) dm s1 U H1 (.ref D) [v] (.ref D) [z] (fun _ Hb=>Q U Hb) I1 rfl (.cons r1 .nil) ⟨_,xs,v,rfl,rfl,hx,hz,q1⟩;exact fE (thn ap fun _ s11 ⟨_,IK,SO,_,R7⟩=>fI ⟨U,IK,SO,R7⟩)
def emD(tk tv:TE)(D:Addr):TEm:=fun U H Q=>tk U H fun y H5=>tv U H5 fun v H6=>∃H7,kT H6 D y v H7/\Q U H7
section
variable{U:L2.St}{a:Addr}{r:Value}
theorem Zhr{Q:Unit->Shared->Prop}(hu:A.units<cLine)(I:L2.Inv X dm U H s)(g:kT H a y v H')(ry:Z6 y u)(rv:Z6 v r)(h:∀s',L2.Inv X dm U H' s'->Q () s') :
  wpAny (model X.prog X.w) A (dictSet a u r) Q E s:=by
 rcases g with⟨kvs,k,e,ey,l,eH⟩|⟨kvs,k,b,e,ey,eb,l,eH⟩
 ·subst ey eH;obtain⟨z,hd,vs,oP,dd⟩:=Zet I.hok e;have hz:vs.length<=sizeLine:=by rw[<- oP.length];exact z
  have hl:(WR kvs k v).length<=sizeLine:=by have:=Wj kvs k v;lia
  refine wpAny_dictSet_pairs (hsz:=hz) (KO ry) dd fun h' sR hs=>h _ ?_;have he:∃q,h'.get? a=some q:=let ⟨q,_,_,hq,_⟩:=sR; ⟨q,hq⟩
  exact qL I (by rw[e];exact True.intro) hs he (Zd4 hl hd (oP.put k rv) sR)
 ·subst ey eH;cases (show u=Value.ref b from ry);obtain⟨z,hd,xs,oP,dd⟩:=Zf0 I.hok e;have hz:xs.length<=sizeLine:=by rw[<- lU oP];exact z
  have hl:(WR kvs k v).length<=sizeLine:=by have:=Wj kvs k v;lia
  refine wpAny_dictSet_heap (hsz:=hz) hu (vO I.hok eb) dd fun h' sR hs=>h _ ?_;obtain⟨q,es,ep,hq,h2,h3,h4,_,h5⟩:=sR;refine qL I (by rw[e];exact True.intro) hs ⟨q,hq⟩ ⟨hl,hd,_,(oP.put k eb rv).keeps fun c ys ec=>?_,q,es,ep,hq,h2,h3,h4,h5⟩;rw[ZF (Y0 ec e (fun z=>nomatch z))];exact ec
end
theorem Zdr{Y:Cx}{kx vx:Expr}{tk tv:TE}(hu:Y.A.units<cLine)(hk:PE Y kx tk)(hv:PE Y vx tv):PEm Y (do
   let kv <- eval kx Y.env
   let vv <- holding [kv] (eval vx Y.env)
   standAt { kx.pos with endLine:=vx.pos.endLine,endCol:=vx.pos.endCol }
   holding [kv,vv] (dictSet D kv vv)) (emD tk tv D):=by
 intro dm s U H Q I q;refine fE (thn (hk dm s U H _ I q) fun z s1 ⟨y,H1,I1,r1,q1⟩=>?_);refine fE (iq (thn (hv dm s1 U H1 _ I1 q1) fun z2 s2 ⟨v,H2,I2,r2,H3,hp,q2⟩=>?_));exact fE (mv (iq (Zhr hu I2 hp r1 r2 fun s' I'=>⟨U,H3,I',q2⟩)))
inductive Qf(xs:List V)(H:Hp)(Q:VK):Prop
 |mk (a:Addr) (kvs:List (Key×V)) (h0:xs=[.ref a]) (h1:H a=some (.dK kvs)) (h2:∀l,H l=none->Q (.ref l) (upd H l (.lst (kvs.map fun p=>kV p.1)))):Qf xs H Q
def ZgA:List V->Hp->VK->Prop:=fun xs H Q=>Qf xs H Q
theorem KV.keyV{kvs:List (Key×V)}{vs:List (Key×Value)}(r:KV kvs vs)(h:us.length=vs.length)(e:∀(i:Nat) u p,us[i]?=some u->vs[i]?=some p->(ZM P w).is p.1 u=true):ZV (kvs.map fun p=>kV p.1) us:=by
 have r':Paired (fun(p:Key×V) (q:Key×Value)=>p.1=q.1/\Z6 p.2 q.2) kvs vs:=r;clear r
 induction r' generalizing us with
 |nil=>
  cases us with
  |nil=>exact .nil
  |cons u r=>simp at h
 |@cons p q l1 l2 hpq _ ih=>
  cases us with
  |nil=>simp at h
  |cons u r=>
   refine .cons ?_ (ih (by simpa using h) fun i u p a b=>e (i+1) u p (by simpa using a) (by simpa using b));have:=e 0 u q rfl rfl;rw[<- hpq.1] at this;have q2:VR p.1 u=true:=this;rcases Yt q2 with⟨i,t',e1,e2⟩|⟨z,t',e1,e2⟩
   ·show Z6 (kV p.1) u
    rw[e1,e2];exact⟨t',rfl⟩
   ·show Z6 (kV p.1) u
    rw[e1,e2];exact⟨t',rfl⟩
theorem Kk(hc:X.calm=true):YR X (.type "list") ZgA:=by
 intro dm s U H xs us Q I r h;obtain⟨a,kvs,rfl,g,q⟩:=h;obtain⟨u,rfl,ru⟩:=Vj r;obtain rfl:u=Value.ref a:=ru;obtain⟨z,y,vs,oP,o,es,ep,h1,h2,h3,h4,h5,h6⟩:=Zet I.hok g;have e1:=h5.length;rw[lg] at e1;have e2:=oP.length;refine W.kdl_call (Zdn (ep:=ep) (es:=es) y) (I.ok.hd hc) ⟨o,h1,h2,h3⟩ (by lia) fun h' tk acc c hk hg pD=>?_;refine⟨.ref s.heap.objs.size,_,I.laid (o:=.lst (kvs.map fun p=>kV p.1)) (t':=tk) hk (fH _) ⟨by rw[fF];exact z,acc.toList,c,?_,by simpa using hg⟩,rfl,q _ (I.hok.fresh (fH _))⟩;rw[ZeS rfl pD];refine KV.keyV (P:=X.prog) (w:=X.w) oP (by rw[fF,lg];exact e1) fun i u p a b=>?_;rw[fO] at a;obtain⟨e,ea,rfl⟩:=mo.mp a;exact(h5.get? ea b).1
theorem Zcd{s2:Shared}(I2:L2.Inv X dm U H1 s2):L2.Inv X dm U (upd H1 s2.heap.objs.size (.lst [])) { s2 with heap:=s2.heap.push { cls:=.type "list",data:=.seq ([]:List Value).toArray } }:=
 I2.laid (t':=s2.toks) (fun b u e=>fZ _ e) (fH _) ⟨g9 _,[],0,.nil,gB _ rfl⟩
theorem Zat{x:Str}{D:jN}{L:Addr}{m:Str->Option Value}(hN:X.N.Nodup)(hi:X.N[i]?=some x)(hx:X.env.kindOf x=some .local)(I':L2.Inv X dm U H' s')(f:za X dm H' C)(hn:s'.heap.Ns C m)(qq:D.nx (U.set i (some (.ref L))) H') :
  compPost (model X.prog X.w) X.A X.xe (some (assign (.Name x oQ) X.env)) (fun _ s'=>SP X dm D .next s') (.ref L) C (.ok .next) s':=by
 obtain⟨f0,f1,f2,f3,f4,f5⟩:=f;refine wpAny_assign_Name (j8 (v:=.ref L) I' hN hi (.inl hx) rfl (fun s2 I2 ⟨a,sb,ha⟩=>?_) (.inr hx));have TR:C≠a:=by
  rintro rfl;rcases ha with z|z
  ·exact f1 z
  ·exact f4 _ _ z rfl
 exact⟨m,hn.sameBut sb TR,fun h' sb'=>⟨_,H',I2.turned (t':=s2.toks) (fun b o hb e=>(sb'.2 b hb).trans e) f0 f1 f3 f4 f5,qq⟩⟩
theorem ki{kx vx:Expr}{g:TG}{tk tv:TE}{o0:HO}(h0:o0=.dK []\/o0=.dT [])(ok:ZX X.env.scope X.N Nc ix scope)(hu:X.A.units<cLine)(hc:X.calm=true)(hi:PI X tg iter wi)
  (hg:∀cl C s H fp,PG (Y6 X Nc scope cl C s H fp) tg g) (ht:∀cl C s H fp,PTs (Y6 X Nc scope cl C s H fp) pI tt)
  (hk:∀cl C s H fp,PE (Y6 X Nc scope cl C s H fp) kx tk) (hv:∀cl C s H fp,PE (Y6 X Nc scope cl C s H fp) vx tv)
  (hs:∀x,foldedSetIterable iter X.env x=pure x:=by intro _;rfl):PE X (.DictComp kx vx [⟨tg,iter,pI,0⟩] scope on) (ZdZ wi ix (fun _=>o0) g tt (fun D=>emD tk tv D)):=by
 intro dm s U H Q I h;rw[arm_eval_DictComp];refine kK (e:=.DictComp kx vx [⟨tg,iter,pI,0⟩] scope on) (use:=none) (QV:=EP X dm U Q) (ob:={ cls:=.type "dict",data:=.dict #[] }) (bd:=fun D env=>do
   let kv <- eval kx env
   let vv <- holding [kv] (eval vx env)
   standAt { kx.pos with endLine:=vx.pos.endLine,endCol:=vx.pos.endCol }
   holding [kv,vv] (dictSet D kv vv)) I h (fun D C H' s' m I' f hn qq=>?_) rfl (fun _ _ _=>⟨rfl,rfl⟩) (fun _ _ _=>rfl) (fun _ _ _ _=>⟨rfl,rfl⟩) (fun _ _ _=>rfl)
  (fun _ _ _ _ q=>iG q) (fun s2 H1 I2=>?_) ok hc hi hg ht (fun cl C s H fp D=>Zdr (Y:=Y6 X Nc scope cl C s H fp) hu (hk cl C s H fp) (hv cl C s H fp)) hs
 ·obtain⟨f0,f1,f2,f3,f4,f5⟩:=f;exact⟨m,hn,fun h' sb=>⟨.ref D,H',I'.turned (t':=s'.toks) (fun b o hb e=>(sb.2 b hb).trans e) f0 f1 f3 f4 f5,rfl,qq⟩⟩
 ·rcases h0 with rfl|rfl
  ·exact I2.laid (t':=s2.toks) (fun b u e=>fZ _ e) (fH _) (yA s2.heap I2.big)
  ·exact I2.laid (t':=s2.toks) (fun b u e=>fZ _ e) (fH _) (Zdh s2.heap I2.big)
def U9(J:It)(D:Addr)(g:TG)(tt:TT)(te:TE)(σ0:St)(H1:Hp)(Q:VK):Prop:=ZaV J g tt (emL te D) σ0 (upd H1 D (.lst [])) (fun _ H'=>Q (.ref D) H')
def JW(wi:TI)(ix:List (Option Nat))(g:TG)(tt:TT)(te:TE):TE:=fun U H Q=>wi U H fun J H1=>∀D,H1 D=none->U9 J D g tt te (sub ix U) H1 Q
theorem kA{g:TG}{Q:VK}(I:L2.Inv X dm U H s)(h:JW wi ix g tt te U H Q)
  (oy:∀(D C:Addr) (H':Hp) (s':Shared) (m:Str->Option Value),L2.Inv X dm U H' s'->za X dm H' C->s'.heap.Ns C m->Q (.ref D) H'->compPost (model X.prog X.w) X.A X.xe use QV (.ref D) C (.ok .next) s')
  (ok:ZX X.env.scope X.N Nc ix scope) (hc:X.calm=true) (hi:PI X tg iter wi)
  (hg:∀cl C s H fp,PG (Y6 X Nc scope cl C s H fp) tg g) (ht:∀cl C s H fp,PTs (Y6 X Nc scope cl C s H fp) pI tt) (he:∀cl C s H fp,PE (Y6 X Nc scope cl C s H fp) ua te)
  (hs:∀x,foldedSetIterable iter X.env x=pure x):wpAny (model X.prog X.w) X.A (comprehension (.ListComp ua [⟨tg,iter,pI,0⟩] scope on) scope X.env rX (newList []) false (eval iter X.env) use) QV X.xe s:=
 kK (em:=fun D=>emL te D) (o0:=fun _=>.lst []) (ob:={ cls:=.type "list",data:=.seq ([]:List Value).toArray }) (bd:=fun D env=>do let _ <- call (.builtin "list.append") [.ref D,<- eval ua env]) I h oy rfl (fun _ _ _=>⟨rfl,rfl⟩) (fun _ _ _=>rfl) (fun _ _ _ _=>⟨rfl,rfl⟩) (fun _ _ _=>rfl)
  (fun _ _ _ _ q=>iG q) (fun _ _ I2=>Zcd I2) ok hc hi hg ht (fun cl C s H fp D=>Zcz (he cl C s H fp)) hs
theorem Ya{g:TG}(ok:ZX X.env.scope X.N Nc ix scope)(hc:X.calm=true)(hi:PI X tg iter wi)
  (hg:∀cl C s H fp,PG (Y6 X Nc scope cl C s H fp) tg g) (ht:∀cl C s H fp,PTs (Y6 X Nc scope cl C s H fp) pI tt) (he:∀cl C s H fp,PE (Y6 X Nc scope cl C s H fp) ua te)
  (hs:∀x,foldedSetIterable iter X.env x=pure x:=by intro _;rfl):PE X (.ListComp ua [⟨tg,iter,pI,0⟩] scope on) (JW wi ix g tt te):=by
 intro dm s U H Q I h;rw[eval_ListComp];refine kA (use:=none) I h (fun D C H' s' m I' f hn qq=>?_) ok hc hi hg ht he hs;obtain⟨f0,f1,f2,f3,f4,f5⟩:=f;exact⟨m,hn,fun h' sb=>⟨.ref D,H',I'.turned (t':=s'.toks) (fun b o hb e=>(sb.2 b hb).trans e) f0 f1 f3 f4 f5,rfl,qq⟩⟩
theorem Wh{x:Str}{C0:Pos}{g:TG}(hN:X.N.Nodup)(hi:X.N[i]?=some x)(hx:X.env.kindOf x=some .local)
  (ok:ZX X.env.scope X.N Nc ix scope) (hc:X.calm=true) (wy:PI X tg iter wi)
  (hg:∀cl C s H fp,PG (Y6 X Nc scope cl C s H fp) tg g) (ht:∀cl C s H fp,PTs (Y6 X Nc scope cl C s H fp) pI tt) (he:∀cl C s H fp,PE (Y6 X Nc scope cl C s H fp) ua te)
  (Rb:swapsWith (.ListComp ua [⟨tg,iter,pI,0⟩] scope on) (some (.Name x oQ)) C0.line X.env=pure true:=by rfl)
  (hs:∀x,foldedSetIterable iter X.env x=pure x:=by intro _;rfl):PS X (.Assign [.Name x oQ] (.ListComp ua [⟨tg,iter,pI,0⟩] scope on) C0) (Zha (JW wi ix g tt te) (V4 i)):=by
 intro dm s U H D I h;rw[exec_Assign_Name_used _ _ _ _ Rb];refine fE (mv (fE ?_))
 show wpAny _ X.A (do let _ <- comprehension (.ListComp ua [⟨tg,iter,pI,0⟩] scope on) scope X.env _ (newList []) false (eval iter X.env) (some (assign (.Name x oQ) X.env))) _ _ s
 refine fE (thn (kA (use:=some (assign (.Name x oQ) X.env)) (QV:=fun _ s'=>SP X dm D .next s') I h (fun L C H' s' m I' f hn qq=>?_) ok hc wy hg ht he hs) fun _ s' q=>fI (fI q));exact Zat hN hi hx I' f hn qq
theorem WL{g:TG}{Q:VK}(Pv:Nat->St->Hp->Prop)(h0:Pv 0 σ0 (upd H0 D (.lst [])))
  (uE:∀i U H,i<n->Pv i U H->J.go i H) (oz:∀U H,Pv n U H->J.stop n H)
  (hs:∀i x U H H2,i<n->Pv i U H->J.yld i H x H2->∀(N:V->St->Hp->Prop) (N0:St->Hp->Prop),(∀v σ2 H5 ys,H5 D=some (.lst ys)->ys.length<sizeLine->Pv (i+1) σ2 (upd H5 D (.lst (ys++[v])))->N v σ2 H5)->(∀σ2 H4,Pv (i+1) σ2 H4->N0 σ2 H4) -> g x U H2 fun σ2 H3=>tt σ2 H3 fun c H4=>if c=true then te σ2 H4 fun v H5=>N v σ2 H5 else N0 σ2 H4)
  (hd:∀U H,Pv n U H->Q (.ref D) H):U9 J D g tt te σ0 H0 Q:=by
 refine vN (n:=n) Pv h0 uE oz (fun i x U H H2 hi p y N hN=>?_) hd;exact hs i x U H H2 hi p y (fun v σ2 H5=>∃ys,H5 D=some (.lst ys)/\ys.length<sizeLine/\N σ2 (upd H5 D (.lst (ys++[v])))) N (fun v σ2 H5 ys a b c=>⟨ys,a,b,hN _ _ c⟩) hN
theorem VA{a:Addr}{Q:VK}(hD:H0 D=none)(hq:SqL K H0 a xs)(hz:xs.length<=sizeLine)(R:Nat->V->Hp->Prop)(mono:∀i v H H',Zg H H'->R i v H->R i v H')
  (step:∀i x H (N:V->Hp->Prop),xs[i]?=some x->Zg H0 H->(∀v H4,Zg H H4->R i v (New H H4)->N v H4)->te (some x::τ) H N)
  (oy:∀H' ys,H' D=some (.lst ys)->Zg H0 H'->ys.length=xs.length->(∀i v,ys[i]?=some v->R i v (New H0 H'))->Q (.ref D) H') :
  U9 (Itl K a) D (V4 0) zx te (none::τ) H0 Q:=by
 refine WL (n:=xs.length) (fun i U H=>∃z ys,U=z::τ/\H D=some (.lst ys)/\ys.length=i/\Zg H0 H/\∀j v,ys[j]?=some v->R j v (hide D (New H0 H))) ?_ ?_ ?_ ?_ ?_
 ·exact⟨none,[],rfl,Zd,rfl,Zi hD,fun j v e=>by simp at e⟩
 ·rintro i U H hi ⟨z,ys,rfl,_,_,s,_⟩;exact⟨xs,xs[i],s.seq hq,by simp[hi]⟩
 ·rintro U H ⟨z,ys,rfl,_,_,s,_⟩;exact⟨xs,s.seq hq,fH _⟩
 ·rintro i x U H H2 hi ⟨z,ys,rfl,hy,hl,s,r⟩ ⟨rfl,hx⟩ N N0 hN o5
  show te (some x::τ) H2 _
  refine step i x H2 _ (hx xs (s.seq hq)) s fun v H4 s4 r4=>?_;refine hN v _ H4 ys (s4 _ _ hy) (by lia) ⟨some x,ys++[v],rfl,Zd,by rw[fK,gz,hl],?_,?_⟩
  ·exact(ZB.upd (Zg.x (s.trans s4))).same hD
  ·intro j w e
   by_cases hj:j<ys.length
   ·rw[gv hj] at e;refine mono j w _ _ ?_ (r j w e);intro b o hb;obtain⟨nb,hb⟩:=Vy hb;obtain⟨h1,h2⟩:=New.of hb;exact Xa nb (New.mk h1 (by rw[ZF nb];exact s4 _ _ h2))
   ·have ej:j=ys.length:=by
     have:=(fP.mp e).1;rw[fK,gz] at this;lia
    subst ej;simp at e;subst e;rw[hl];refine mono i v _ _ ?_ r4;intro b o hb;obtain⟨h1,h2⟩:=New.of hb;have nb:b≠D:=fun z=>by subst z;rw[hy] at h1;cases h1
    exact Xa nb (New.mk (s.free h1) (by rw[ZF nb];exact h2))
 ·rintro U H ⟨z,ys,rfl,hy,hl,s,r⟩;exact oy H ys hy s hl fun i v e=>mono i v _ _ XC (r i v e)
theorem Zan{Q:VK}(hD:H0 D=none)(hz:n<=sizeLine)(R:Nat->V->Hp->Prop)(mono:∀i v H H',Zg H H'->R i v H->R i v H')
  (step:∀i H (N:V->Hp->Prop),i<n->Zg H0 H->(∀v H4,Zg H H4->R i v (New H H4)->N v H4)->te (some (.int (i:Nat))::τ) H N)
  (oy:∀H' ys,H' D=some (.lst ys)->Zg H0 H'->ys.length=n->(∀i v,ys[i]?=some v->R i v (New H0 H'))->Q (.ref D) H') :
  U9 (Itr 0 n) D (V4 0) zx te (none::τ) H0 Q:=by
 refine WL (n:=n) (fun i U H=>∃z ys,U=z::τ/\H D=some (.lst ys)/\ys.length=i/\Zg H0 H/\∀j v,ys[j]?=some v->R j v (hide D (New H0 H))) ?_ ?_ ?_ ?_ ?_
 ·exact⟨none,[],rfl,Zd,rfl,Zi hD,fun j v e=>by simp at e⟩
 ·rintro i U H hi _;exact hi
 ·rintro U H _;exact fH _
 ·rintro i x U H H2 hi ⟨z,ys,rfl,hy,hl,s,r⟩ ⟨rfl,rfl⟩ N N0 hN o5;have ei:(0:Int)+(i:Int)=((i:Nat):Int):=Int.zero_add _;rw[ei]
  show te (some (.int (i:Nat))::τ) H2 _
  refine step i H2 _ hi s fun v H4 s4 r4=>?_;refine hN v _ H4 ys (s4 _ _ hy) (by lia) ⟨some (.int (i:Nat)),ys++[v],rfl,Zd,by rw[fK,gz,hl],?_,?_⟩
  ·exact(ZB.upd (Zg.x (s.trans s4))).same hD
  ·intro j w e
   by_cases hj:j<ys.length
   ·rw[gv hj] at e;refine mono j w _ _ ?_ (r j w e);intro b o hb;obtain⟨nb,hb⟩:=Vy hb;obtain⟨h1,h2⟩:=New.of hb;exact Xa nb (New.mk h1 (by rw[ZF nb];exact s4 _ _ h2))
   ·have ej:j=ys.length:=by
     have:=(fP.mp e).1;rw[fK,gz] at this;lia
    subst ej;simp at e;subst e;rw[hl];refine mono i v _ _ ?_ r4;intro b o hb;obtain⟨h1,h2⟩:=New.of hb;have nb:b≠D:=fun z=>by subst z;rw[hy] at h1;cases h1
    exact Xa nb (New.mk (s.free h1) (by rw[ZF nb];exact h2))
 ·rintro U H ⟨z,ys,rfl,hy,hl,s,r⟩;exact oy H ys hy s hl fun i v e=>mono i v _ _ XC (r i v e)
theorem qh{N:V->Hp->Prop}{N0:Hp->Prop}(h:te U H N):zx U H fun c H4=>if c=true then te U H4 N else N0 H4:=by
 show(if true=true then te U H N else N0 H)
 rw[oq rfl];exact h
theorem vX{Q:VK}(l:List α)(φ:α->V)(p:α->Bool)(f:α->V)(hD:H0 D=none)(hz:l.length<=sizeLine)
  (uE:∀i H,i<l.length->Zg H0 H->J.go i H) (oz:∀H,Zg H0 H->J.stop l.length H) (hy:∀i x H H2 (h:i<l.length),Zg H0 H->J.yld i H x H2->H2=H/\x=φ l[i])
  (step:∀x∈l,∀H (N:V->Hp->Prop) (N0:Hp->Prop),Zg H0 H->(∀H4,Zg H H4->p x=true->N (f x) H4)->(∀H4,Zg H H4->p x=false->N0 H4)->tt (some (φ x)::τ) H fun c H4=>if c=true then te (some (φ x)::τ) H4 N else N0 H4)
  (oy:∀H',H' D=some (.lst ((l.filter p).map f))->Zg H0 H'->Q (.ref D) H'):U9 J D (V4 0) tt te (none::τ) H0 Q:=by
 refine WL (n:=l.length) (fun i U H=>∃z,U=z::τ/\H D=some (.lst (((l.take i).filter p).map f))/\Zg H0 H) ?_ ?_ ?_ ?_ ?_
 ·exact⟨none,rfl,Zd,Zi hD⟩
 ·rintro i U H hi ⟨z,rfl,_,s⟩;exact uE i H hi s
 ·rintro U H ⟨z,rfl,_,s⟩;exact oz H s
 ·rintro i x U H H2 hi ⟨z,rfl,hd,s⟩ tR N N0 hN o5;obtain⟨rfl,rfl⟩:=hy i x H H2 hi s tR;have tk:(l.take (i+1)).filter p=(l.take i).filter p++[l[i]].filter p:=by rw[ν hi,mS]
  have le:(((l.take i).filter p).map f).length<sizeLine:=by
   rw[fF];have:=mw p (l.take i);rw[fN] at this;lia
  refine step _ (gC hi) H2 (fun v H5=>N v (some (φ l[i])::τ) H5) (fun H4=>N0 (some (φ l[i])::τ) H4) s (fun H4 s4 hp=>?_) (fun H4 s4 hp=>?_)
  ·refine hN _ _ H4 _ (s4 _ _ hd) le ⟨_,rfl,?_,(ZB.upd (Zg.x (s.trans s4))).same hD⟩;rw[Zd,tk,mI hp,gp];rfl
  ·refine o5 _ H4 ⟨_,rfl,?_,s.trans s4⟩;rw[s4 _ _ hd,tk,mJ (by rw[hp];exact gw),nt,iu]
 ·rintro U H ⟨z,rfl,hd,s⟩;rw[lI] at hd;exact oy H hd s
theorem kI{a:Addr}{Q:VK}(l:List α)(φ:α->V)(p:α->Bool)(f:α->V)(hD:H0 D=none)(hq:SqL K H0 a (l.map φ))(hz:l.length<=sizeLine)
  (step:∀x∈l,∀H (N:V->Hp->Prop) (N0:Hp->Prop),Zg H0 H->(∀H4,Zg H H4->p x=true->N (f x) H4)->(∀H4,Zg H H4->p x=false->N0 H4)->tt (some (φ x)::τ) H fun c H4=>if c=true then te (some (φ x)::τ) H4 N else N0 H4)
  (oy:∀H',H' D=some (.lst ((l.filter p).map f))->Zg H0 H'->Q (.ref D) H'):U9 (Itl K a) D (V4 0) tt te (none::τ) H0 Q:=by
 refine vX l φ p f hD hz (fun i H hi s=>⟨_,φ l[i],s.seq hq,by rw[fO,fG hi];rfl⟩) (fun H s=>⟨_,s.seq hq,by rw[fF];exact fH _⟩) (fun i x H H2 hi s tR=>?_) step oy;obtain⟨rfl,hx⟩:=tR;have e:=hx _ (s.seq hq);rw[fO,fG hi] at e;exact⟨rfl,(fW e).symm⟩
theorem Ug{Q:VK}(p:Nat->Bool)(f:Nat->V)(hD:H0 D=none)(hz:n<=sizeLine)
  (step:∀k,k<n->∀H (N:V->Hp->Prop) (N0:Hp->Prop),Zg H0 H->(∀H4,Zg H H4->p k=true->N (f k) H4)->(∀H4,Zg H H4->p k=false->N0 H4)->tt (some (.int (k:Nat))::τ) H fun c H4=>if c=true then te (some (.int (k:Nat))::τ) H4 N else N0 H4)
  (oy:∀H',H' D=some (.lst (((γ n).filter p).map f))->Zg H0 H'->Q (.ref D) H'):U9 (Itr 0 n) D (V4 0) tt te (none::τ) H0 Q:=by
 refine vX (γ n) (fun k=>.int (k:Nat)) p f hD (by rw[gU];exact hz) (fun i H hi _=>by rw[gU] at hi;exact hi) (fun H _=>by rw[gU];exact fH _) (fun i x H H2 hi s tR=>?_) (fun x hx=>step x (i9.mp hx)) oy;obtain⟨rfl,rfl⟩:=tR;refine⟨rfl,?_⟩;rw[List.getElem_range,Int.zero_add]
theorem We{a:Addr}{Q:VK}(l:List α)(φ:α->V)(f:α->V)(hD:H0 D=none)(hq:SqL K H0 a (l.map φ))(hz:l.length<=sizeLine)
  (step:∀x∈l,∀H (N:V->Hp->Prop),Zg H0 H->(∀H4,Zg H H4->N (f x) H4)->te (some (φ x)::τ) H N)
  (oy:∀H',H' D=some (.lst (l.map f))->Zg H0 H'->Q (.ref D) H'):U9 (Itl K a) D (V4 0) zx te (none::τ) H0 Q:=by
 refine kI l φ (fun _=>true) f hD hq hz (fun x hx H N N0 s h1 _=>?_) (fun H' h s=>oy H' (by rw[h,π.mpr (fun _ _=>rfl)]) s);exact qh (step x hx H N s fun H4 s4=>h1 H4 s4 rfl)
theorem zz{Q:VK}(f:Nat->V)(hD:H0 D=none)(hz:n<=sizeLine)
  (step:∀k,k<n->∀H (N:V->Hp->Prop),Zg H0 H->(∀H4,Zg H H4->N (f k) H4)->te (some (.int (k:Nat))::τ) H N)
  (oy:∀H',H' D=some (.lst ((γ n).map f))->Zg H0 H'->Q (.ref D) H'):U9 (Itr 0 n) D (V4 0) zx te (none::τ) H0 Q:=by
 refine Ug (fun _=>true) f hD hz (fun x hx H N N0 s h1 _=>?_) (fun H' h s=>oy H' (by rw[h,π.mpr (fun _ _=>rfl)]) s);exact qh (step x hx H N s fun H4 s4=>h1 H4 s4 rfl)
def ZL(r:Hp->V->α->Prop)(H:Hp)(z:List (V×α)):Prop:=∀x∈z,r H x.1 x.2
theorem ZL.ll{a:Addr}{z:List (V×α)}(h:H a=some (.lst (z.map ε)))(q:ZL r H z):LL r H (.ref a) (z.map ζ):=by
 refine⟨a,_,rfl,h,by rw[fF,fF],fun i v p h1 h2=>?_⟩;rw[fO] at h1 h2;cases e:z[i]? with
 |none=>rw[e] at h1;cases h1
 |some x=>
  rw[e] at h1 h2;cases h1;cases h2;exact q x (gk e)
theorem LL.z{α:Type}{r:Hp->V->α->Prop}{H:Hp}{v:V}{xs:List α}(h:LL r H v xs):∃a z,v=.ref a/\H a=some (.lst (z.map ε))/\z.map ζ=xs/\ZL r H z:=by
 obtain⟨a,vs,rfl,e,l,q⟩:=h;refine⟨a,vs.zip xs,rfl,by rw[e,my (by lia)],mz (by lia),fun x hx=>?_⟩;obtain⟨i,hi,rfl⟩:=gF hx;rw[io] at hi;rw[mB];exact q i _ _ (fG (by lia)) (fG (by lia))
theorem ZL.mono(m:Mon r){z:List (V×α)}(s:Zg H H')(q:ZL r H z):ZL r H' z:=fun x hx=>m _ _ _ _ s (q x hx)
theorem ZL.app{z y:List (V×α)}(h:ZL r H z)(g:ZL r H y):ZL r H (z++y):=fun x hx=>(gj.mp hx).elim (h x) (g x)
theorem ZL.one{x:α}(g:r H v x):ZL r H [(v,x)]:=fun y hy=>by cases gn.mp hy;exact g
theorem ZL.nil:ZL r H ([]:List (V×α)):=fun x hx=>by cases hx
def X5(S W:Addr)(G G':Hp):Prop:=∀b o,b≠S->b≠W->G b=some o->G' b=some o
theorem X5.trans{W:Addr}{G1 G2:Hp}(a:X5 S W G G1)(b:X5 S W G1 G2):X5 S W G G2:=fun c o n m e=>b c o n m (a c o n m e)
theorem Zg.two{W:Addr}(h:Zg G G'):X5 S W G G':=fun b o _ _ e=>h b o e
theorem X5.upd1{W:Addr}(h:X5 S W G G'):X5 S W G (upd G' S o):=fun b u n m e=>by rw[ZF n];exact h b u n m e
theorem X5.upd2{W:Addr}(h:X5 S W G G'):X5 S W G (upd G' W o):=fun b u n m e=>by rw[ZF m];exact h b u n m e
theorem X5.same{W:Addr}(h:X5 S W G G')(hS:G S=none)(hW:G W=none):Zg G G':=fun b o e=>h b o (Zr e hS) (Zr e hW) e
def ZbY(S W:Addr)(H:Hp):Hp:=hide S (hide W H)
theorem Qo{W:Addr}:Zg (ZbY S W H) H:=fun b o h=>XC _ _ (XC _ _ h)
theorem k9{W b:Addr}(n:b≠S)(m:b≠W)(h:H b=some o):ZbY S W H b=some o:=Xa n (Xa m h)
theorem X5.new{W:Addr}(h:X5 S W G G'):Zg (ZbY S W (New H G)) (ZbY S W (New H G')):=fun b o e=>by
 obtain⟨n,e⟩:=Vy e;obtain⟨m,e⟩:=Vy e;obtain⟨h1,h2⟩:=New.of e;exact k9 n m (New.mk h1 (h b o n m h2))
theorem qV(xs:List V)(k:Nat):Xc xs none (some (k:Int))=xs.take k:=by
 by_cases h:k<=xs.length
 ·exact xS xs k h
 ·unfold Xc;rw[HT.sIx_nat,HT.sIx_none,nu (by lia),iB (by lia:xs.length<=k)];simp
theorem ZhS(p:Nat->Bool):∃ss:List Str,((γ 3).filter p).map (fun j=>V.str ((["zeta","b","am"]:List Str).getD j ""))=ss.map V.str/\ss.Sublist ["zeta","b","am"]:=by
 refine⟨((γ 3).filter p).map (fun j=>(["zeta","b","am"]:List Str).getD j ""),by rw[fR];rfl,?_⟩;exact(List.filter_sublist (l:=γ 3) (p:=p)).map (fun j=>(["zeta","b","am"]:List Str).getD j "")
theorem ZdS:(∀x∈(["zeta","b","am"]:List Str),Xs x=true)/\(["zeta","b","am"]:List Str).Nodup:=by left
theorem yq{l:List Int}{M:Nat}(nd:l.Nodup)(h:∀y∈l,0<=y/\y<(M:Nat)):l.length<=M:=by
 have h1:(l.map Int.toNat).Nodup:=by
  unfold δ;rw[Ε];refine List.Pairwise.imp_of_mem (fun {a b} ha hb n e=>n ?_) nd;have:=h a ha;have:=h b hb;lia
 have h2:=vP (l₂:=γ M) h1 fun x hx=>by
  obtain⟨y,hy,rfl⟩:=fM.mp hx;have:=h y hy;exact i9.mpr (by lia)
 rw[fF,gU] at h2;exact h2
structure ZhJ(n m:Nat)(d:WD):Prop where
 g:QQ d
 n:d.signs.length<=n
 s:∀ss∈d.signs,ss.length<=m
def RL(g:α->List V)(H:Hp)(v:V)(x:α):Prop:=∃b,v=.ref b/\H b=some (.lst (g x))
theorem RL.ls{f:α->List Str}{z:List (V×α)}{a:Addr}{l:List α}(h:H a=some (.lst (z.map ε)))(e:z.map ζ=l)(q:ZL (RL fun x=>(f x).map V.str) H z):LL LS H (.ref a) (l.map f):=by
 have h2:z.map ε=(z.map fun x=>(x.1,f x.2)).map ε:=by rw[fR];rfl
 rw[h2] at h;have:=ZL.ll (r:=LS) h fun x hx=>by
  obtain⟨y,hy,rfl⟩:=fM.mp hx;exact q y hy
 rw[fR] at this;rw[<- e,fR];exact this
theorem RL.li{f:α->List Int}{z:List (V×α)}{a:Addr}{l:List α}(h:H a=some (.lst (z.map ε)))(e:z.map ζ=l)(q:ZL (RL fun x=>(f x).map V.int) H z):LL LI H (.ref a) (l.map f):=by
 have h2:z.map ε=(z.map fun x=>(x.1,f x.2)).map ε:=by rw[fR];rfl
 rw[h2] at h;have:=ZL.ll (r:=LI) h fun x hx=>by
  obtain⟨y,hy,rfl⟩:=fM.mp hx;exact q y hy
 rw[fR] at this;rw[<- e,fR];exact this
theorem ZdY{Q:VK}(l:List α)(φ:α->V)(g:α->List V)(hD:H0 D=none)(hz:l.length<=sizeLine)
  (uE:∀i H,i<l.length->Zg H0 H->J.go i H) (oz:∀H,Zg H0 H->J.stop l.length H) (hy:∀i x H H2 (h:i<l.length),Zg H0 H->J.yld i H x H2->H2=H/\x=φ l[i])
  (step:∀x∈l,∀H (N:V->Hp->Prop),Zg H0 H->(∀b H4,Zg H H4->H b=none->H4 b=some (.lst (g x))->N (.ref b) H4)->te (some (φ x)::τ) H N)
  (oy:∀H' z,H' D=some (.lst (z.map ε))->Zg H0 H'->z.map ζ=l->ZL (RL g) (New H0 H') z->Q (.ref D) H'):U9 J D (V4 0) zx te (none::τ) H0 Q:=by
 refine WL (n:=l.length) (fun i U H=>∃y z,U=y::τ/\H D=some (.lst (z.map ε))/\Zg H0 H/\z.map ζ=l.take i/\ZL (RL g) (hide D (New H0 H)) z) ?_ ?_ ?_ ?_ ?_
 ·exact⟨none,[],rfl,Zd,Zi hD,rfl,ZL.nil⟩
 ·rintro i U H hi ⟨y,z,rfl,_,s,_⟩;exact uE i H hi s
 ·rintro U H ⟨y,z,rfl,_,s,_⟩;exact oz H s
 ·rintro i x U H H2 hi ⟨y,z,rfl,hd,s,ez,qz⟩ tR N N0 hN o5;obtain⟨rfl,rfl⟩:=hy i x H H2 hi s tR;have lz:z.length<=i:=by
   have:=fS θ ez;rw[fF,fN] at this;lia
  refine qh (N:=fun v H5=>N v (some (φ l[i])::τ) H5) (N0:=fun H4=>N0 (some (φ l[i])::τ) H4) (step _ (gC hi) H2 _ s fun b H4 s4 hb Pg=>?_);have nb:b≠D:=fun e=>by rw[e,hd] at hb;cases hb
  refine hN _ _ H4 _ (s4 _ _ hd) (by rw[fF];lia) ⟨_,z++[(.ref b,l[i])],rfl,?_,(ZB.upd (Zg.x (s.trans s4))).same hD,?_,ZL.app (fun x hx=>?_) (ZL.one ⟨b,rfl,Xa nb (New.mk (s.free hb) (by rw[ZF nb];exact Pg))⟩)⟩
  ·rw[Zd,gp];rfl
  ·rw[gp,ez,ν hi];rfl
  ·obtain⟨c,ec,gc⟩:=qz x hx;obtain⟨nc,gc⟩:=Vy gc;obtain⟨g1,g2⟩:=New.of gc;exact⟨c,ec,Xa nc (New.mk g1 (by rw[ZF nc];exact s4 _ _ g2))⟩
 ·rintro U H ⟨y,z,rfl,hd,s,ez,qz⟩;rw[lI] at ez;exact oy H z hd s ez fun x hx=>let ⟨c,ec,gc⟩:=qz x hx; ⟨c,ec,XC _ _ gc⟩
theorem j9{a:Addr}{Q:VK}(l:List α)(φ:α->V)(g:α->List V)(hD:H0 D=none)(hq:SqL K H0 a (l.map φ))(hz:l.length<=sizeLine)
  (step:∀x∈l,∀H (N:V->Hp->Prop),Zg H0 H->(∀b H4,Zg H H4->H b=none->H4 b=some (.lst (g x))->N (.ref b) H4)->te (some (φ x)::τ) H N)
  (oy:∀H' z,H' D=some (.lst (z.map ε))->Zg H0 H'->z.map ζ=l->ZL (RL g) (New H0 H') z->Q (.ref D) H'):U9 (Itl K a) D (V4 0) zx te (none::τ) H0 Q:=by
 refine ZdY l φ g hD hz (fun i H hi s=>⟨_,φ l[i],s.seq hq,by rw[fO,fG hi];rfl⟩) (fun H s=>⟨_,s.seq hq,by rw[fF];exact fH _⟩) (fun i x H H2 hi s tR=>?_) step oy;obtain⟨rfl,hx⟩:=tR;have e:=hx _ (s.seq hq);rw[fO,fG hi] at e;exact⟨rfl,(fW e).symm⟩
abbrev QM(h:Heap)(z TI TO a:Addr)(f:Bool):Prop:=h.get? z=some { cls:=.type "zip",dict:=none,data:=.fields #[rawInt a,.bool f,.bool false,.ref TI,.ref TO],slots:=#[] }
theorem Zbn{z TI TO a:Addr}{f:Bool}{k1 k2:Nat}{xs:Array Value}{x y:Value}{Q:Option Value->Shared->Prop}(D:ZipApart z TI TO i1 i2 l1 l2)(hz:QM s.heap z TI TO a f)(ha:s.heap.get? a=some oa)(haz:a≠z)
  (Cr:IsPair s.heap TI (.ref i1) (.ref i2)) (h1:s.heap.IsListIter i1 l1 k1) (h2:s.heap.IsListIter i2 l2 k2) (sK:s.heap.IsList l1 xs) (uL:s.heap.IsList l2 ys) (hx:xs[k1]?=some x) (hy:ys[k2]?=some y)
  (hQ:∀h',QM h' z TI TO a true->h'.IsListIter i1 l1 (k1+1)->h'.IsListIter i2 l2 (k2+1)->IsPair h' s.heap.objs.size x y->h'.objs.size=s.heap.objs.size+1->(∀c o,c≠z->c≠i1->c≠i2->s.heap.get? c=some o->h'.get? c=some o)->Q (some (.ref s.heap.objs.size)) { s with heap:=h' }) :
  wpAny (model P w) A (pyNext (.ref z)) Q E s:=by
 have ty:s.TypeIs (.ref z) "zip" := ⟨_,hz,rfl⟩;unfold pyNext;refine fE (wpAny_attempt (ng (name:=Str.ofString "__next__") ty nB (lE nB ty PySem.F.entry_zip_next ?_ (PySem.F.args_zip_next_1 _))))
 show wpAny _ _ (field (.ref z) 2 >>= _) _ _ _
 refine fE (ik hz rfl (x:=Value.bool false) rfl ?_)
 show wpAny _ _ (field (.ref z) 3 >>= _) _ _ _
 refine fE (ik hz rfl (x:=Value.ref TI) rfl ?_);refine fE (iS Cr rfl ?_)
 show wpAny _ _ (Builtin.SmallTypes.ownedTupleIsFree (.ref z) >>= _) _ _ _
 refine fE (thn (Q:=fun b s1=>b=false/\∃hp,s1={ s with heap:=hp }/\QM hp z TI TO a true/\Heap.SameBut z s.heap hp) ?_ fun b s1 hb=>?_)
 ·unfold Builtin.SmallTypes.ownedTupleIsFree;refine fE (ik hz rfl (x:=rawInt a) rfl ?_)
  show wpAny _ _ (loadIfAlive ((a:Int).toNat) >>= _) _ _ _
  rw[hJ];refine fE (W.kdx_alive ha ?_);simp only[Option.isNone_some,ig,gK];refine fE (ik hz rfl (x:=Value.bool f) rfl ?_);cases f with
  |true=>
   rw[oo (show ¬((Value.bool true != Value.bool true)=true) from fun q=>Bool.noConfusion q)];exact fI ⟨rfl,_,rfl,hz,Heap.SameBut.refl _ _⟩
  |false=>
   rw[oq (show(Value.bool false != Value.bool true)=true from rfl)];exact fE (wpAny_setField_rec hz (by simp) fun h₃ EH Ev=>fI ⟨rfl,h₃,rfl,EH,Ev⟩)
 obtain⟨rfl,hp,rfl,AZ,sb⟩:=hb;simp only[ig,gK];rw[<- mP];simp only[iN,mR];refine fE (fE (fE (iq ?_)))
 show wpAny _ _ (Builtin.SmallTypes.nextOf (.ref i1) >>= _) _ _ _
 refine fE (wpAny_nextOf_list_item (h1.extBut sb.extBut D.i1z) (sK.extBut sb.extBut D.l1z) hx fun g₂ j1 t₂=>fI (fI ?_));refine fE (fE (iq ?_))
 show wpAny _ _ (Builtin.SmallTypes.nextOf (.ref i2) >>= _) _ _ _
 refine fE (wpAny_nextOf_list_item ((h2.extBut sb.extBut D.i2z).extBut t₂.extBut D.i12.symm) ((uL.extBut sb.extBut D.l2z).extBut t₂.extBut D.l2i1) hy fun g₃ j2 t₃=>fI (fI (fI ?_)));refine fE (wpAny_newTuple (hsz:=by show 2<=sizeLine;decide) ?_);have sz:g₃.objs.size=s.heap.objs.size:=by rw[t₃.1,t₂.1,sb.1]
 have z3:QM g₃ z TI TO a true:=t₃.extBut _ _ D.i2z.symm (t₂.extBut _ _ D.i1z.symm AZ);refine fI ⟨_,rfl,fI ?_⟩
 show Q (some (.ref g₃.objs.size)) _
 have Rz:g₃.IsListIter i1 l1 (k1+1):=j1.extBut t₃.extBut D.i12;rw[sz];refine hQ _ (fZ _ z3) (Rz.at fun o e=>fZ _ e) (j2.at fun o e=>fZ _ e) ?_ ?_ fun c o n1 n2 n3 e=>fZ _ (t₃.extBut _ _ n3 (t₂.extBut _ _ n2 (sb.extBut _ _ n1 e)))
 ·rw[<- sz];exact gB _ rfl
 ·rw[Heap.size_push,sz]
theorem Zes{z TI TO a:Addr}{f:Bool}{k1:Nat}{xs:Array Value}{Q:Option Value->Shared->Prop}(hh:A.handled=none)(D:ZipApart z TI TO i1 i2 l1 l2)(hz:QM s.heap z TI TO a f)(ha:s.heap.get? a=some oa)
  (Cr:IsPair s.heap TI (.ref i1) (.ref i2)) (h1:s.heap.IsListIter i1 l1 k1) (sK:s.heap.IsList l1 xs) (hx:xs[k1]?=none)
  (hQ:∀h',(∀c o,c≠z->c≠i1->s.heap.get? c=some o->h'.get? c=some o)->Q none { s with heap:=h' }):wpAny (model P w) A (pyNext (.ref z)) Q E s:=by
 have ty:s.TypeIs (.ref z) "zip" := ⟨_,hz,rfl⟩;unfold pyNext;refine fE (wpAny_attempt (ng (name:=Str.ofString "__next__") ty nB (lE nB ty PySem.F.entry_zip_next ?_ (PySem.F.args_zip_next_1 _))))
 show wpAny _ _ (field (.ref z) 2 >>= _) _ _ _
 refine fE (ik hz rfl (x:=Value.bool false) rfl ?_)
 show wpAny _ _ (field (.ref z) 3 >>= _) _ _ _
 refine fE (ik hz rfl (x:=Value.ref TI) rfl ?_);refine fE (iS Cr rfl ?_)
 show wpAny _ _ (Builtin.SmallTypes.ownedTupleIsFree (.ref z) >>= _) _ _ _
 refine fE (thn (Q:=fun b s1=>b=false/\∃hp,s1={ s with heap:=hp }/\QM hp z TI TO a true/\Heap.SameBut z s.heap hp) ?_ fun b s1 hb=>?_)
 ·unfold Builtin.SmallTypes.ownedTupleIsFree;refine fE (ik hz rfl (x:=rawInt a) rfl ?_)
  show wpAny _ _ (loadIfAlive ((a:Int).toNat) >>= _) _ _ _
  rw[hJ];refine fE (W.kdx_alive ha ?_);simp only[Option.isNone_some,ig,gK];refine fE (ik hz rfl (x:=Value.bool f) rfl ?_);cases f with
  |true=>
   rw[oo (show ¬((Value.bool true != Value.bool true)=true) from fun q=>Bool.noConfusion q)];exact fI ⟨rfl,_,rfl,hz,Heap.SameBut.refl _ _⟩
  |false=>
   rw[oq (show(Value.bool false != Value.bool true)=true from rfl)];exact fE (wpAny_setField_rec hz (by simp) fun h₃ EH Ev=>fI ⟨rfl,h₃,rfl,EH,Ev⟩)
 obtain⟨rfl,hp,rfl,AZ,sb⟩:=hb;simp only[ig,gK];rw[<- mP];simp only[iN,mR];refine fE (fE (fE (iq ?_)))
 show wpAny _ _ (Builtin.SmallTypes.nextOf (.ref i1) >>= _) _ _ _
 refine fE (wpAny_nextOf_list_end hh (h1.extBut sb.extBut D.i1z) (sK.extBut sb.extBut D.l1z) hx fun g₂ ee t₂ he=>?_);obtain⟨oe,RR,RD⟩:=he;refine fE (mN (T := "StopIteration") (b:=true) ⟨oe,RR,RD⟩ isSubtype_stop (fI (hQ _ fun c o n1 n2 e=>?_)));exact t₂ _ _ n2 (sb.extBut _ _ n1 e)
structure ZSt(h:Heap)(z TI TO i1 i2 l1 l2 S:Addr)(xs ys:Array Value)(i:Nat):Prop where
 z:(i=0/\IsZip h z TI TO .none/\∃u v,IsPair h TO u v)\/∃a f oa,QM h z TI TO a f/\h.get? a=some oa/\a≠z/\a≠i1/\a≠i2/\a≠S
 ti:IsPair h TI (.ref i1) (.ref i2)
 i1:h.IsListIter i1 l1 i
 i2:h.IsListIter i2 l2 i
 l1:h.IsList l1 xs
 l2:h.IsList l2 ys
structure ZfC(z TI TO i1 i2 l1 l2 S:Addr):Prop where
 z:z≠S
 ti:TI≠S
 to:TO≠S
 i1:i1≠S
 i2:i2≠S
 l1:l1≠S
 l2:l2≠S
theorem ZSt.keep{z TI TO:Addr}{xs:Array Value}(x:ZSt h z TI TO i1 i2 l1 l2 S xs ys i)(o6:ZfC z TI TO i1 i2 l1 l2 S)(hk:∀b o,b≠S->h.get? b=some o->h'.get? b=some o):ZSt h' z TI TO i1 i2 l1 l2 S xs ys i:=by
 refine⟨?_,hk _ _ o6.ti x.ti,x.i1.at fun o e=>hk _ _ o6.i1 e,x.i2.at fun o e=>hk _ _ o6.i2 e,x.l1.at fun o e=>hk _ _ o6.l1 e,x.l2.at fun o e=>hk _ _ o6.l2 e⟩;rcases x.z with⟨e,q,u,v,p⟩|⟨a,f,oa,q,ha,n1,n2,n3,n4⟩
 ·exact .inl ⟨e,hk _ _ o6.z q,u,v,hk _ _ o6.to p⟩
 ·exact .inr ⟨a,f,oa,hk _ _ o6.z q,hk _ _ n4 ha,n1,n2,n3,n4⟩
theorem ZSt.item{z TI TO:Addr}{xs:Array Value}{x y:Value}{Q:Option Value->Shared->Prop}(D:ZipApart z TI TO i1 i2 l1 l2)(st:ZSt s.heap z TI TO i1 i2 l1 l2 S xs ys i)(hS:S<s.heap.objs.size)(lt:z<s.heap.objs.size/\i1<s.heap.objs.size/\i2<s.heap.objs.size)(hx:xs[i]?=some x)(hy:ys[i]?=some y)
  (hQ:∀h',ZSt h' z TI TO i1 i2 l1 l2 S xs ys (i+1)->IsPair h' s.heap.objs.size x y->h'.objs.size=s.heap.objs.size+1->(∀c o,c≠z->c≠TO->c≠i1->c≠i2->s.heap.get? c=some o->h'.get? c=some o)->Q (some (.ref s.heap.objs.size)) { s with heap:=h' }):wpAny (model P w) A (pyNext (.ref z)) Q E s:=by
 rcases st.z with⟨rfl,q,u,v,p⟩|⟨a,f,oa,q,ha,n1,n2,n3,n4⟩
 ·refine wpAny_pyNext_zip_item D q st.ti p st.i1 st.i2 st.l1 st.l2 hx hy fun h' b1 b2 b3 b4 b5 b6 b7=>hQ h' ⟨.inr ⟨_,false,_,b1,b5,gY lt.1,gY lt.2.1,gY lt.2.2,gY hS⟩,b7 _ _ D.TIz D.TITO D.TIi1 D.TIi2 st.ti,b3,b4,st.l1.at fun o e=>b7 _ _ D.l1z D.l1TO D.l1i1 D.l1i2 e,st.l2.at fun o e=>b7 _ _ D.l2z D.l2TO D.l2i1 D.l2i2 e⟩ b5 b6 b7
 ·refine Zbn D q ha n1 st.ti st.i1 st.i2 st.l1 st.l2 hx hy fun h' b1 b3 b4 b5 b6 b7=>hQ h' ⟨.inr ⟨a,true,oa,b1,b7 _ _ n1 n2 n3 ha,n1,n2,n3,n4⟩,b7 _ _ D.TIz D.TIi1 D.TIi2 st.ti,b3,b4,st.l1.at fun o e=>b7 _ _ D.l1z D.l1i1 D.l1i2 e,st.l2.at fun o e=>b7 _ _ D.l2z D.l2i1 D.l2i2 e⟩ b5 b6 fun c o m1 _ m3 m4 e=>b7 c o m1 m3 m4 e
theorem ZSt.stop{z TI TO:Addr}{xs:Array Value}{Q:Option Value->Shared->Prop}(hh:A.handled=none)(D:ZipApart z TI TO i1 i2 l1 l2)(st:ZSt s.heap z TI TO i1 i2 l1 l2 S xs ys i)(hx:xs[i]?=none)
  (hQ:∀h',(∀c o,c≠z->c≠TO->c≠i1->c≠i2->s.heap.get? c=some o->h'.get? c=some o)->Q none { s with heap:=h' }):wpAny (model P w) A (pyNext (.ref z)) Q E s:=by
 rcases st.z with⟨rfl,q,u,v,p⟩|⟨a,f,oa,q,ha,n1,n2,n3,n4⟩
 ·exact wpAny_pyNext_zip_end hh D q st.ti p st.i1 st.i2 st.l1 st.l2 (.inl hx) fun h' b=>hQ h' b
 ·exact Zes hh D q ha st.ti st.i1 st.l1 hx fun h' b=>hQ h' fun c o m1 _ m3 _ e=>b c o m1 m3 e
theorem Zay:typeLookup (.type "zip") "__len__" = pure none:=by
 rw[typeLookup_type,builtinLookup_eq_fast]
 kernel_rfl
theorem Km:typeLookup (.type "zip") "__length_hint__" = pure none:=by
 rw[typeLookup_type,builtinLookup_eq_fast]
 kernel_rfl
theorem Zcw{r:Addr}(ty:s.TypeIs (.ref r) "zip"){Q:Bool->Shared->Prop}(h:Q true s):wpAny (model P w) A (Builtin.List.listLengthHint (.ref r)) Q E s:=by
 unfold Builtin.List.listLengthHint;refine fE (me ty Zay ?_);refine wpAny_ite_split (fun q=>ot q (by left)) fun _=>?_;refine wpAny_ite_split (fun q=>ot q (by left)) fun _=>?_;exact fE (me ty Km (fI h))
def ZG(h:Heap)(lo:Addr)(xs ys:Array Value)(as:List Addr):Prop:=as.Pairwise (·<·)/\(∀a∈as,lo<a)/\∀(j:Nat) a,as[j]?=some a->∃x y,xs[j]?=some x/\ys[j]?=some y/\IsPair h a x y
theorem Zfr{z TI TO:Addr}{xs:Array Value}(hh:A.handled=none)(D:ZipApart z TI TO i1 i2 l1 l2)(o6:ZfC z TI TO i1 i2 l1 l2 S)(lo:z<=S/\TI<=S/\TO<=S/\i1<=S/\i2<=S)(hl:ys.size=xs.size)(hn:xs.size<=sizeLine)(res:Value){h₁:Heap}
  (hR:∀h' tk acc c as,(∀b o,b≠S->b≠z->b≠TO->b≠i1->b≠i2->h₁.get? b=some o->h'.get? b=some o)->h'.get? S=some { cls:=.type "list",dict:=none,data:=.seq acc c,slots:=#[] }->as.length=xs.size->ZG h' S xs ys as->acc.toList=as.map Value.ref->R (.ok (.ret res)) { s with heap:=h',toks:=tk }) :
  ∀(k i:Nat) (h:Heap) (tk c:Nat) (acc:Array Value) (as:List Addr),xs.size-i=k->i<=xs.size->ZSt h z TI TO i1 i2 l1 l2 S xs ys i->(∀b o,b≠S->b≠z->b≠TO->b≠i1->b≠i2->h₁.get? b=some o->h.get? b=some o) ->
   h.get? S=some { cls:=.type "list",dict:=none,data:=.seq acc c,slots:=#[] }->acc.toList=as.map Value.ref->as.length=i->ZG h S xs ys as ->
   codeAny (model P w) A (.builtin "list.extend.loop" ⟨[.ref S,.ref z,res],[]⟩) R { s with heap:=h,toks:=tk }:=by
 intro k
 induction k with
 |zero=>
  intro i h tk c acc as hk hi st kp hS pD Dv hG;refine i3 PySem.F.entry_extend_loop ?_;rw[lH mU _]
  show wpAny _ A.in1 (pyNext (.ref z) >>= _) _ _ _
  refine fE (ZSt.stop (s:={ s with heap:=h,toks:=tk }) (A:=A.in1) hh D st (nO (by lia)) fun h' he=>fI (hR h' tk acc c as (fun b o m0 m1 m2 m3 m4 e=>he b o m1 m2 m3 m4 (kp b o m0 m1 m2 m3 m4 e)) (he S _ o6.z.symm o6.to.symm o6.i1.symm o6.i2.symm hS) (by lia) ⟨hG.1,hG.2.1,fun j a hj=>?_⟩ pD));obtain⟨x,y,q1,q2,q3⟩:=hG.2.2 j a hj;have:=hG.2.1 a (gk hj);exact⟨x,y,q1,q2,he a _ (gY (im lo.1 this)) (gY (im lo.2.2.1 this)) (gY (im lo.2.2.2.1 this)) (gY (im lo.2.2.2.2 this)) q3⟩
 |succ k ih=>
  intro i h tk c acc as hk hi st kp hS pD Dv hG;have lt:i<xs.size:=by lia
  have hx:xs[i]?=some xs[i]:=nr lt;have hy:ys[i]?=some (ys[i]'(by lia)):=nr (by lia);have Bh:S<h.objs.size:=fY hS;have IM:acc.size=i:=by rw[<- lg,pD,fF,Dv]
  have lz:z<h.objs.size/\i1<h.objs.size/\i2<h.objs.size:=⟨im lo.1 Bh,im lo.2.2.2.1 Bh,im lo.2.2.2.2 Bh⟩;refine i3 PySem.F.entry_extend_loop ?_;rw[lH mU _]
  show wpAny _ A.in1 (pyNext (.ref z) >>= _) _ _ _
  refine fE (ZSt.item (s:={ s with heap:=h,toks:=tk }) D st Bh lz hx hy fun h' rB ht hz kk=>?_);dsimp only at ht hz kk ⊢;have rJ:=kk S _ o6.z.symm o6.to.symm o6.i1.symm o6.i2.symm hS;have up:∀b o,b≠S->h'.get? b=some o->(h'.update S (Obj.mapSeq (·.push (Value.ref h.objs.size)))).get? b=some o:=fun b o m e=>(iH _ _ (fX m)).trans e
  show wpAny _ A.in1 (updateSeq S (·.push (Value.ref h.objs.size)) >>= _) _ _ _
  refine fE (iR rJ rfl (fI ⟨iO mU _,ih (i+1) _ tk _ (acc.push (Value.ref h.objs.size)) (as++[h.objs.size]) (by lia) lt (rB.keep o6 up) (fun b o m0 m1 m2 m3 m4 e=>up b o m0 (kk b o m1 m2 m3 m4 (kp b o m0 m1 m2 m3 m4 e))) (lN _ rJ rfl) (by rw[Array.toList_push,pD,gp];rfl) (by rw[fK,Dv];rfl) ⟨?_,?_,?_⟩⟩) (by rw[IM];lia) (by show(acc.push (Value.ref h.objs.size)).size<=sizeLine+1;rw[Array.size_push,IM];lia))
  ·refine List.pairwise_append.mpr ⟨hG.1,List.pairwise_singleton _ _,fun a ha b hb=>?_⟩;rw[gn.mp hb];obtain⟨j,hj⟩:=iU.mp ha;obtain⟨_,_,_,_,q⟩:=hG.2.2 j a hj;exact fY q
  ·intro a ha;rcases gj.mp ha with ha|ha
   ·exact hG.2.1 a ha
   ·rw[gn.mp ha];exact Bh
  ·intro j b hj
   by_cases c1:j<as.length
   ·rw[gv c1] at hj;obtain⟨x,y,q1,q2,q3⟩:=hG.2.2 j b hj;have hb:=hG.2.1 b (gk hj);exact⟨x,y,q1,q2,up b _ (gY hb) (kk b _ (gY (im lo.1 hb)) (gY (im lo.2.2.1 hb)) (gY (im lo.2.2.2.1 hb)) (gY (im lo.2.2.2.2 hb)) q3)⟩
   ·have RZ:=(fP.mp hj).1;rw[fK,gz] at RZ;have ej:j=i:=by lia
    subst ej;rw[gx (by lia),Dv,ij] at hj;cases hj;exact⟨_,_,hx,hy,up _ _ (gY Bh) ht⟩
section
variable{z TI TO:Addr}{xs:Array Value}
theorem Zbr(hh:A.handled=none)(D:ZipApart z TI TO i1 i2 l1 l2)(o6:ZfC z TI TO i1 i2 l1 l2 S)(lo:z<=S/\TI<=S/\TO<=S/\i1<=S/\i2<=S)(hl:ys.size=xs.size)(hn:xs.size<=sizeLine)(hz:IsZip s.heap z TI TO .none)(st:ZSt s.heap z TI TO i1 i2 l1 l2 S xs ys 0)(res:Value)(c₀:Nat)(hS:s.heap.get? S=some { cls:=.type "list",data:=.seq #[] c₀ })
  (hR:∀h' tk acc c as,(∀b o,b≠S->b≠z->b≠TO->b≠i1->b≠i2->s.heap.get? b=some o->h'.get? b=some o)->h'.get? S=some { cls:=.type "list",dict:=none,data:=.seq acc c,slots:=#[] }->as.length=xs.size->ZG h' S xs ys as->acc.toList=as.map Value.ref->R (.ok (.ret res)) { s with heap:=h',toks:=tk }) :
  wpAny (model P w) A.in1 (Builtin.List.listExtendWith (.ref S) (.ref z) res) (fun oy s'=>match oy with|.done f=>R (.ok f) s'|.again c'=>c'.quiet=true/\codeAny (model P w) A c' R s') (fun e s'=>R (.error e) s') s:=by
 have run:∀(h:Heap) (c₁ tk:Nat),(∀b o,b≠S->s.heap.get? b=some o->h.get? b=some o)->h.get? S=some { cls:=.type "list",data:=.seq #[] c₁ }->codeAny (model P w) A (.builtin "list.extend.loop" ⟨[.ref S,.ref z,res],[]⟩) R { s with heap:=h,toks:=tk }:=fun h c₁ tk kp RC=>
  Zfr (s:=s) (h₁:=s.heap) hh D o6 lo hl hn res hR xs.size 0 h tk c₁ #[] [] (mV _) (g9 _) (st.keep o6 kp) (fun b o m0 _ _ _ _ e=>kp b o m0 e) RC rfl rfl ⟨List.Pairwise.nil,(fun _ ha=>nomatch ha),(fun j a hj=>by simp at hj)⟩
 unfold Builtin.List.listExtendWith;refine fE (wpAny_typeOf (T := "zip") ⟨_,hz,rfl⟩ ?_);have q1:Builtin.List.listSameRef (.ref S) (.ref z)=false:=by simp[Builtin.List.listSameRef,o6.z.symm]
 have q2:(Value.type "zip" == Value.type "list")=false:=by left
 have q3:(Value.type "zip" == Value.type "tuple")=false:=by left
 simp only[q1,q2,q3,Bool.or_false,ig,gK];refine fE (wpAny_pyIter_zip hz ?_);refine fE (iq (Zcw ⟨_,hz,rfl⟩ ?_));refine wpAny_ite_split (fun _=>?_) (fun _=>fI ⟨iO mU _,run _ c₀ _ (fun b o _ e=>e) hS⟩);refine fE (wpAny_rule (fE ?_))
 show wpAny _ _ (updateSeq S (·.push .none) >>= fun _=>updateSeq S (·.pop)) _ _ s
 refine fE (iR hS rfl ?_);have e2:=lN (Obj.mapSeq (·.push Value.none)) hS rfl;refine iR (hz:=by seq_fits) e2 rfl (fI ⟨iO mU _,run _ _ _ (fun b o m e=>?_) (lN (Obj.mapSeq (·.pop)) e2 rfl)⟩);exact(iH _ _ (fX m)).trans ((iH _ _ (fX m)).trans e)
theorem ZeO(hh:A.handled=none)(D:ZipApart z TI TO i1 i2 l1 l2)(lt:z<s.heap.objs.size/\TI<s.heap.objs.size/\TO<s.heap.objs.size/\i1<s.heap.objs.size/\i2<s.heap.objs.size/\l1<s.heap.objs.size/\l2<s.heap.objs.size)(hl:ys.size=xs.size)(hn:xs.size<=sizeLine)
  (hz:IsZip s.heap z TI TO .none) (Cr:IsPair s.heap TI (.ref i1) (.ref i2)) {v:Value} (OI:IsPair s.heap TO u v) (h1:s.heap.IsListIter i1 l1 0) (h2:s.heap.IsListIter i2 l2 0) (sK:s.heap.IsList l1 xs) (uL:s.heap.IsList l2 ys)
  (hQ:∀h' tk acc c as,(∀b o,b≠z->b≠TO->b≠i1->b≠i2->s.heap.get? b=some o->h'.get? b=some o)->h'.get? s.heap.objs.size=some { cls:=.type "list",dict:=none,data:=.seq acc c,slots:=#[] }->as.length=xs.size->ZG h' s.heap.objs.size xs ys as->acc.toList=as.map Value.ref->Q (.ref s.heap.objs.size) { s with heap:=h',toks:=tk }) :
  wpAny (model P w) A (call (.type "list") [.ref z]) Q E s:=by
 refine callType_codes (Q₁:=fun obj s₁=>obj=.ref s.heap.objs.size/\s₁={ s with heap:=s.heap.push { cls:=.type "list",data:=.seq #[] } }) PySem.F.called_list (PySem.F.typeCall_list_1 _) PySem.F.entry_list_init (code_list_new _ ⟨rfl,rfl⟩) fun obj s₁ q₁=>?_;obtain⟨rfl,rfl⟩:=q₁;obtain⟨a1,a2,a3,a4,a5,a6,a7⟩:=lt;have hS:(s.heap.push { cls:=.type "list",data:=.seq #[] }).get? s.heap.objs.size=some { cls:=.type "list",data:=.seq #[] }:=gB _ rfl;have o6:ZfC z TI TO i1 i2 l1 l2 s.heap.objs.size:=⟨gb a1,gb a2,gb a3,gb a4,gb a5,gb a6,gb a7⟩;have st0:ZSt s.heap z TI TO i1 i2 l1 l2 s.heap.objs.size xs ys 0:=⟨.inl ⟨rfl,hz,u,v,OI⟩,Cr,h1,h2,sK,uL⟩;refine⟨⟨_,hS,rfl⟩,PySem.F.args_list_init_2 _ _,?_⟩
 show wpAny _ _ (do let pX <- Builtin.List.listItems (.ref s.heap.objs.size);Builtin.List.listUpdate (.ref s.heap.objs.size) (fun _=>#[]);letGo pX.toList.reverse;Builtin.List.listExtendWith (.ref s.heap.objs.size) (.ref z) .none) _ _ _
 refine fE ?_;unfold Builtin.List.listItems;refine fE (iS hS rfl (fI ?_))
 show wpAny _ _ (updateSeq s.heap.objs.size (fun _=>#[]) >>= fun _=>letGo (#[]:Array Value).toList.reverse >>= fun _=>Builtin.List.listExtendWith (.ref s.heap.objs.size) (.ref z) .none) _ _ _
 refine fE (iR hS rfl ?_);have e2:=lN (Obj.mapSeq (fun _=>(#[]:Array Value))) hS rfl;have kp:∀b o,b≠s.heap.objs.size->s.heap.get? b=some o->((s.heap.push { cls:=.type "list",data:=.seq #[] }).update s.heap.objs.size (Obj.mapSeq (fun _=>(#[]:Array Value)))).get? b=some o:=fun b o m e=>(iH _ _ (fX m)).trans (fZ _ e);refine fE (mf (Zbr (A:=A.in1) hh D o6 ⟨iD a1,iD a2,iD a3,iD a4,iD a5⟩ hl hn (kp _ _ o6.z hz) (st0.keep o6 kp) .none _ e2 fun h' tk acc c as hk rJ ha hG pD=>⟨rfl,hQ h' tk acc c as (fun b o m1 m2 m3 m4 e=>?_) rJ ha hG pD⟩));have lb:=gb (fY e);exact hk b o lb m1 m2 m3 m4 (kp b o lb e)
end
def vz(H N:Hp):Hp:=fun b=>if(N b).isSome=true then N b else H b
theorem jw{N:Hp}{b:Addr}(h:N b=some o):vz H N b=some o:=by unfold vz;rw[h];rfl
theorem zW{N:Hp}{b:Addr}(h:N b=none):vz H N b=H b:=by unfold vz;rw[h];rfl
section
variable{U:L3.St}{N:Hp}
theorem Inv.turnedLaids(I:L2.Inv X dm U H s)(k:∀b u,b∉ch->s.heap.get? b=some u->h'.get? b=some u)(hf:∀b∈ch,za X dm H b)(hN:∀b o,N b=some o->s.heap.objs.size<=b)
  (new:∀b o,N b=some o->Y1 X.prog X.w (vz H N) h' b o):L2.Inv X dm U (vz H N) { s with heap:=h',toks:=t' }:=by
 have fr:∀{b:Addr}{u:HO},H b=some u->vz H N b=some u:=fun {b u} e=>by
  rw[zW];exact e;cases q:N b with
  |none=>rfl
  |some o=>rw[I.hok.fresh (hN b o q)] at e;cases e
 have pX:∀{b:Addr}{u:Obj},s.heap.get? b=some u->N b=none:=fun {b u} e=>by
  cases q:N b with
  |none=>rfl
  |some o=>exact ot (gJ (fY e) (hN b o q)) (iZ _)
 refine I.step (g':=s.gens) (d':=s.drawn) (ch:=ch) (fun b hb=>?_) (fun b u _ _ hc e _=>k b u hc e) (fun b u _ _ hc e _=>⟨u.slots,k b u hc e⟩) (fun b u _ e n=>by rw[zW (pX e)];exact n) (fun b u hc e=>⟨u,k b u hc e⟩) (fun b xs e=>fr e) (fun b u xs e=>fr e) (fun b ps e=>⟨#[],by rw[fr e];simp⟩) (fun m hm=>?_) (fun b u e=>?_) I.bare
 ·obtain⟨f0,f1,f2,f3,f4,f5⟩:=hf b hb;exact⟨f3,f1,f4,f5⟩
 ·obtain⟨ob,es,ep,ho,r⟩:=hm;exact⟨ob,es,ep,k _ ob (fun z=>(hf _ z).2.1 rfl) ho,r⟩
 ·cases q:N b with
  |some o=>
   rw[jw q] at e;cases e;exact new b _ q
  |none=>
   rw[zW q] at e;have uY:∀c v,H c=some v->c∉ch:=fun c v q z=>by rw[(hf c z).1] at q;cases q
   refine(I.hok b u e).stay (fun c v hc q=>k c v ?_ q) (fun c q=>fr q) fun c xs q=>fr q;rcases hc with rfl|hc
   ·exact uY _ _ e
   ·exact uY _ _ hc
end
theorem K9{α:Type}:∀{as:List Addr}{l:List α}{a:Addr}{q:α},as.Nodup->(a,q)∈as.zip l->(as.zip l).lookup a=some q
 |[],_,_,_,_,h=>by simp at h
 |_::_,[],_,_,_,h=>by simp at h
 |b::as,x::l,a,q,nd,h=>by
  rw[iw] at nd;rw[List.zip_cons_cons,fU] at h;rw[List.zip_cons_cons,gi];rcases h with h|h
  ·cases h;simp
  ·have ma:a∈as:=(lA h).1;have ne:¬a=b:=fun e=>nd.1 (e▸ma);have:(a==b)=false:=by simpa using ne
   rw[this];exact K9 nd.2 h
theorem Kw{α:Type}:∀{l:List (Addr×α)}{a:Addr}{q:α},l.lookup a=some q->(a,q)∈l
 |[],_,_,h=>by cases h
 | (b,x)::l,a,q,h=>by
  rw[gi] at h
  by_cases e:a=b
  ·subst e;simp at h;rw[h];exact iL
  ·have:(a==b)=false:=by simpa using e
   rw[this] at h;exact fT _ (Kw h)
theorem jX:∀as:List Addr,ZV (as.map V.ref) (as.map Value.ref)
 |[]=>.nil
 |a::r=>.cons rfl (jX r)
inductive LZR(K:W.Frag)(vs:List V)(H:Hp)(Q:VK):Prop
 |mk (a b:Addr) (xs ys:List V) (h0:vs=[.ref a,.ref b]) (h1:SqL K H a xs) (h2:SqL K H b ys) (h3:ys.length=xs.length)
   (h4:∀H' L (zs:List (V×(V×V))),Zg H H'->H L=none->H' L=some (.lst (zs.map ε))->zs.map ζ=xs.zip ys->(∀x∈zs,∃q,x.1=.ref q/\H' q=some (.tup [x.2.1,x.2.2]))->Q (.ref L) H'):LZR K vs H Q
def Zer(K:W.Frag)(ta:TA):TE:=fun U H Q=>ta U H fun vs H1=>LZR K vs H1 Q
theorem Zac{a b:Expr}{p p2:Pos}(hK:X.K=K)(hc:X.calm=true)(hg:Gl X "list")(hm:X.mg "list" = none)(hg2:Gl X "zip")(uc:X.mg "zip" = none)(ha:PA X [a,b] ta)
  (hs:starEach [a,b] X.env=[(false,eval a X.env),(false,eval b X.env)]:=by rfl) (Ar:starEach [b] X.env=[(false,eval b X.env)]:=by rfl) (DB:starEach [.Call (.Name "zip" p2) [a,b] [] rX] X.env=[(false,eval (.Call (.Name "zip" p2) [a,b] [] rX) X.env)]:=by rfl) :
  PE X (.Call (.Name "list" p) [.Call (.Name "zip" p2) [a,b] [] rX] [] on) (Zer K ta):=by
 subst hK;intro dm s U H Q I h;refine iE (UN I hg hm nV ?_);refine mE ?_ (by rw[DB];rfl) rfl;rw[DB]
 show wpAny _ _ (spliced ((false,eval (.Call (.Name "zip" p2) [a,b] [] rX) X.env)::backTo on (starEach [] X.env))) _ _ s
 refine Calls.spliced_cons (iE (UN I hg2 uc PyProof.Rows.boot_zip (mE (thn (ha rX dm s U H _ I h) fun us s1 ⟨vs,H1,I1,r1,q1⟩=>?_) (by rw[hs,Ar]) (by rw[Ar];rfl))));obtain⟨l1,l2,xs,ys,rfl,EL,oS,hl,q⟩:=q1;obtain⟨u,v,rfl,ru,rv⟩:=Qr r1;obtain rfl:u=Value.ref l1:=ru;obtain rfl:v=Value.ref l2:=rv;obtain⟨BJ,A5,p1,MI⟩:=I1.list EL;obtain⟨pb,HP,Dm,hz2⟩:=I1.list oS;have HX:l1<s1.heap.objs.size:=by obtain⟨_,e,_⟩:=p1.isList;exact fY e
 have Mp:l2<s1.heap.objs.size:=by obtain⟨_,e,_⟩:=Dm.isList;exact fY e
 refine call_zip_2 p1.isList Dm.isList fun h' a1 a2 a3 a4 a5 a6 a7=>?_;refine Calls.spliced_nil (ZeO (s:={ s1 with heap:=h' }) (xs:=BJ.toArray) (ys:=pb.toArray) (I1.ok.hd hc) (ZdT _ _ _ HX Mp) ⟨?_,?_,?_,?_,?_,?_,?_⟩ ?_ ?_ a1 a2 a3 a4 a5 (p1.isList.at fun o e=>a7 _ _ e) (Dm.isList.at fun o e=>a7 _ _ e) fun g tk acc c as kp gL la hG pD=>?_)
 iterate 5 (show _<h'.objs.size;rw[a6];first|exact Nat.lt_add_of_pos_right (by left)|exact Nat.add_lt_add_left (by left) _)
 ·show l1<h'.objs.size;rw[a6];exact gJ HX (lO _ _)
 ·show l2<h'.objs.size;rw[a6];exact gJ Mp (lO _ _)
 ·rw[gf,gf,<- A5.length,<- HP.length];exact hl
 ·rw[gf,<- A5.length];exact MI
 have TL:∀b o,s1.heap.get? b=some o->g.get? b=some o:=fun b o e=>by
  have lb:=fY e;exact kp b o (gb (gJ lb (lO _ _))) (gb (gJ lb (lO _ _))) (gb lb) (gb (gJ lb (lO _ _))) (a7 b o e)
 have O8:as.length=xs.length:=by rw[la,gf,A5.length]
 have nd:as.Nodup:=hG.1.imp fun {x y} q=>gb q;have lo:∀x∈as,h'.objs.size<x:=hG.2.1;have zl:(xs.zip ys).length=as.length:=by rw[io];lia
 generalize hNd:(fun b=>if b=h'.objs.size then some (HO.lst (as.map V.ref)) else((as.zip (xs.zip ys)).lookup b).map fun q=>HO.tup [q.1,q.2]:Hp)=N;have Nl:N h'.objs.size=some (.lst (as.map V.ref)):=by rw[<- hNd];exact oq rfl
 have Np:∀x q,(x,q)∈as.zip (xs.zip ys)->N x=some (.tup [q.1,q.2]):=fun x q m=>by
  rw[<- hNd];have lx:=lo x (lA m).1
  show(if x=h'.objs.size then _ else _)=_
  rw[oo (gY lx),K9 nd m];rfl
 have Nc:∀b o,N b=some o->(b=h'.objs.size/\o=.lst (as.map V.ref))\/∃q,(b,q)∈as.zip (xs.zip ys)/\o=.tup [q.1,q.2]:=fun b o e=>by
  rw[<- hNd] at e
  change (if b=h'.objs.size then _ else _)=_ at e
  by_cases cb:b=h'.objs.size
  ·rw[oq cb] at e;exact .inl ⟨cb,(fW e).symm⟩
  ·rw[oo cb] at e;cases ql:(as.zip (xs.zip ys)).lookup b with
   |none=>rw[ql] at e;cases e
   |some q=>
    rw[ql] at e;exact .inr ⟨q,Kw ql,(fW e).symm⟩
 clear hNd;have Bo:s1.heap.objs.size<=h'.objs.size:=by rw[a6];exact lO _ _
 have Er:L2.Inv X dm U (vz H1 N) { s1 with heap:=g,toks:=tk }:=by
  refine Inv.turnedLaids (ch:=[]) I1 (fun b u _ e=>TL b u e) (fun b hb=>by cases hb) (fun b o e=>?_) (fun b o e=>?_)
  ·rcases Nc b o e with⟨rfl,_⟩|⟨q,m,_⟩
   ·exact Bo
   ·exact gg Bo (iD (lo b (lA m).1))
  ·rcases Nc b o e with⟨rfl,rfl⟩|⟨q,m,rfl⟩
   ·refine⟨by rw[fF,O8,A5.length];rw[<- A5.length];exact MI,as.map Value.ref,c,?_,?_⟩
    ·exact jX as
    ·rw[<- pD,Array.toArray_toList];exact gL
   ·obtain⟨j,hj,ej⟩:=gF m;rw[io] at hj;rw[mB,mB] at ej;have eb:as[j]'(by lia)=b:=fS ε ej;have eq:(xs[j]'(by lia),ys[j]'(by lia))=q:=fS ζ ej;obtain⟨x,y,g1,g2,g3⟩:=hG.2.2 j b (by rw[<- eb];exact fG _);obtain⟨u1,wM,ru1⟩:=A5.get (fG (show j<xs.length by lia));obtain⟨u2,w8,OQ⟩:=HP.get (fG (show j<ys.length by lia));have e1:x=u1:=by
     have:BJ[j]?=some x:=by simpa using g1
     rw[wM] at this;exact(fW this).symm
    have e2:y=u2:=by
     have:pb[j]?=some y:=by simpa using g2
     rw[w8] at this;exact(fW this).symm
    subst e1;subst e2;rw[<- eq];exact⟨by show 2<=sizeLine;decide,[x,y],.cons ru1 (.cons OQ .nil),⟨_,g3,rfl,_,rfl⟩⟩
 have sm:Zg H1 (vz H1 N):=fun b o e=>by
  rw[zW];exact e;cases qn:N b with
  |none=>rfl
  |some o'=>
   have:s1.heap.objs.size<=b:=by
    rcases Nc b o' qn with⟨rfl,_⟩|⟨q,m,_⟩
    ·exact Bo
    ·exact gg Bo (iD (lo b (lA m).1))
   rw[I1.hok.fresh this] at e;cases e
 refine⟨.ref h'.objs.size,vz H1 N,Er,rfl,q (vz H1 N) h'.objs.size ((as.map V.ref).zip (xs.zip ys)) sm (I1.hok.fresh Bo) ?_ ?_ fun x hx=>?_⟩
 ·rw[jw Nl,my (by rw[fF];lia)]
 ·rw[mz (by rw[fF];lia)]
 ·obtain⟨j,hj,ej⟩:=gF hx;rw[io,fF] at hj;rw[mB,nC] at ej;have e1:V.ref (as[j]'(by lia))=x.1:=fS ε ej;have e2:(xs.zip ys)[j]'(by lia)=x.2:=fS ζ ej;refine⟨as[j]'(by lia),e1.symm,jw (Np _ _ ?_)⟩;have:(as[j]'(by lia),(xs.zip ys)[j]'(by lia))∈as.zip (xs.zip ys):=by
   have:=gC (l:=as.zip (xs.zip ys)) (n:=j) (by rw[io];lia);rw[mB] at this;exact this
  rw[e2] at this;exact this
def ZbK(val:Nat->Int):Nat->Nat->Int->Int
 |0,_,b=>b
 |k+1,j,b=>ZbK val k (j+1) (if val j>b then val j else b)
section
variable{I:Addr}{wr:List Addr}{P:Nat->Value->Prop}{St:Nat->Heap->Prop}
theorem Zfd(W:Walks prog w A.in1 I fp wr n P St)(val:Nat->Int)(uN:∀i v,P i v->∃t,v=.int (val i) t)(S:Addr)(wk:S∉fp)(kw:List (Str×Value)) :
  ∀(k j:Nat) (s:Shared) (b:Int) (t:Tok) (c:Nat),n-j=k->j<=n->St j s.heap ->
  s.heap.get? S=some { cls:=.type "list",dict:=none,data:=.seq #[.int b t,.int b t] c,slots:=#[] } ->
  (∀t' h' tk,(∀a o,a∉wr->a≠S->s.heap.get? a=some o->h'.get? a=some o)->R (.ok (.ret (.int (ZbK val k j b) t'))) { s with heap:=h',toks:=tk }) ->
  codeAny (model prog w) A (.builtin "max.loop" ⟨[.ref I,.none,.ref S],kw⟩) R s:=by
 have DY:S∉wr:=fun h=>wk (W.sub _ h);have pL:(toString "max" ++ toString ".loop" : String) = "max.loop" := by left
 intro k
 induction k with
 |zero=>
  intro j s b t c hk hj oz hS hR;obtain rfl:j=n:=by lia
  refine i3 F.entry_max_loop ?_;rw[lH lQ _]
  show wpAny _ A.in1 (seqItems? (.ref S) >>= _) _ _ s
  refine fE (iS hS rfl ?_)
  show wpAny _ A.in1 (tryCatch (pyNext (.ref I)) _ >>= _) _ _ s
  refine fE (mW (W.done s _ _ oz fun h' tk pG=>?_));have rJ:=pG S _ DY hS
  show wpAny _ A.in1 (updateSeq S (fun _=>#[]) >>= _) _ _ _
  refine fE (iR rJ rfl (fE (mf (fI ?_))));exact hR t _ tk fun a o ha oA e=>(iH _ _ (fX oA)).trans (pG a o ha e)
 |succ k ih=>
  intro j s b t c hk hj oz hS hR;refine i3 F.entry_max_loop ?_;rw[lH lQ _]
  show wpAny _ A.in1 (seqItems? (.ref S) >>= _) _ _ s
  refine fE (iS hS rfl ?_)
  show wpAny _ A.in1 (tryCatch (pyNext (.ref I)) _ >>= _) _ _ s
  refine fE (mW (W.item j s _ _ (by lia) oz fun v h' tk hP ux pG=>?_));have rJ:=pG S _ DY hS;obtain⟨t2,rfl⟩:=uN j v hP
  show wpAny _ A.in1 (tryCatch (holding _ (richCompare .Gt (.int (val j) t2) (.int b t) >>= _)) _ >>= _) _ _ _
  refine fE (mW (iq (fE (CmpOf.ints_gt (P:=fun i v=>(i=0/\v=.int (val j) t2)\/(i=1/\v=.int b t)) (fun i=>if i=0 then val j else b) (fun i v h=>?_) 0 1 _ _ _ _ _ (.inl ⟨rfl,rfl⟩) (.inr ⟨rfl,rfl⟩) ?_))))
  ·rcases h with⟨rfl,rfl⟩|⟨rfl,rfl⟩
   ·exact⟨_,rfl⟩
   ·exact⟨_,rfl⟩
  refine fE (iq (ip ?_));refine fE (mf (fI ?_))
  show wpAny _ A.in1 (if decide (val j>b)=true then _ else _) _ _ _
  have DT:∀t' h' tk,(∀a o,a∉wr->a≠S->s.heap.get? a=some o->h'.get? a=some o)->R (.ok (.ret (.int (ZbK val k (j+1) (if val j>b then val j else b)) t'))) { s with heap:=h',toks:=tk }:=hR
  by_cases hb:val j>b
  ·rw[oq (fQ hb)];rw[oq hb] at DT;refine fE (iR rJ rfl (fE (mf ?_)));rw[pL];refine fI ⟨iO lQ _,ih (j+1) _ (val j) t2 _ (by lia) (by lia) (W.frame _ _ _ ux fun a ha o e=>?_) (lN _ rJ rfl) fun t' h2 CG uH=>?_⟩
   ·exact(iH _ _ (fun h:S=a=>wk (by rw[h];exact ha))).trans e
   ·exact DT t' h2 CG fun a o ha oA e=>uH a o ha oA ((iH _ _ (fX oA)).trans (pG a o ha e))
  ·rw[oo (by rw[fV hb];exact gw)];rw[oo hb] at DT;refine fE (mf ?_);rw[pL];exact fI ⟨iO lQ _,ih (j+1) _ b t _ (by lia) (by lia) ux rJ fun t' h2 CG uH=>DT t' h2 CG fun a o ha oA e=>uH a o ha oA (pG a o ha e)⟩
def mxD(val:Nat->Int):Nat->Int->Int
 |0,d=>d
 |k+1,_=>ZbK val k 1 (val 0)
theorem Zcn(W:Walks prog w A.in1 I fp wr n P St)(val:Nat->Int)(uN:∀i v,P i v->∃t,v=.int (val i) t)(S:Addr)(wk:S∉fp){d:Int}{c:Nat}(oz:St 0 s.heap)
  (hS:s.heap.get? S=some { cls:=.type "list",dict:=none,data:=.seq #[] c,slots:=#[] })
  (hR:∀t' h' tk,(∀a o,a∉wr->a≠S->s.heap.get? a=some o->h'.get? a=some o)->R (.ok (.ret (.int (mxD val n d) t'))) { s with heap:=h',toks:=tk }) :
  codeAny (model prog w) A (.builtin "max.loop" ⟨[.ref I,.none,.ref S],[("default",.int d td)]⟩) R s:=by
 have DY:S∉wr:=fun h=>wk (W.sub _ h);have pL:(toString "max" ++ toString ".loop" : String) = "max.loop" := by left
 refine i3 F.entry_max_loop ?_;rw[lH lQ _]
 show wpAny _ A.in1 (seqItems? (.ref S) >>= _) _ _ s
 refine fE (iS hS rfl ?_)
 show wpAny _ A.in1 (tryCatch (pyNext (.ref I)) _ >>= _) _ _ s
 cases n with
 |zero=>
  refine fE (mW (W.done s _ _ oz fun h' tk pG=>?_))
  show wpAny _ A.in1 (rule _ >>= _) _ _ _
  refine fE (wpAny_rule ?_);exact fI (hR td h' tk fun a o ha _ e=>pG a o ha e)
 |succ n=>
  refine fE (mW (W.item 0 s _ _ (by lia) oz fun v h' tk hP ux pG=>?_));have rJ:=pG S _ DY hS;obtain⟨t2,rfl⟩:=uN 0 v hP
  show wpAny _ A.in1 (updateSeq S (fun _=>#[.int (val 0) t2,.int (val 0) t2]) >>= _) _ _ _
  refine fE (iR rJ rfl ?_);rw[pL];refine fI ⟨iO lQ _,Zfd W val uN S wk _ n 1 _ (val 0) t2 _ (by lia) (by lia) (W.frame _ _ _ ux fun a ha o e=>?_) (lN _ rJ rfl) fun t' h2 CG uH=>?_⟩
  ·exact(iH _ _ (fun h:S=a=>wk (by rw[h];exact ha))).trans e
  ·exact hR t' h2 CG fun a o ha oA e=>uH a o ha oA ((iH _ _ (fX oA)).trans (pG a o ha e))
end
section
variable{l:Addr}{xs:Array (Int×Tok)}
theorem ZbA(a d:Value):argsOk "max" ⟨[a],[("default",d)]⟩:=by unfold argsOk;kernel_rfl
theorem JJ{id:String}{b:Builtin}{args:List Value}(hk:builtinKind id=none)(hp:plainId id=true)
  (hb:entryFor table id=some b) (ha:argsOk id ⟨args,kw⟩)
  (hc:wpAny (model prog w) A.in1 (b ⟨args,kw⟩) (fun oy s'=>match oy with
   |.done f=>(match (Except.ok f:Result) with|.ok (.ret v)=>Q v s'|.ok _=>False|.error e=>E e s')
   |.again c'=>c'.quiet=true/\codeAny (model prog w) A c' (fun r s'=>match r with|.ok (.ret v)=>Q v s'|.ok _=>False|.error e=>E e s') s') E s) :
  wpAny (model prog w) A (call (.builtin id) args kw) Q E s:=by
 refine wpAny_call (codeAny_call_builtin hp hb ?_);simp only[checkBuiltinCall,hk];cases hsig:Manifest.signature? id with
 |none=>exact fI hc
 |some sig=>
  have h2:Bind.checkArgs id sig ⟨args,kw⟩=pure ():=by simpa only[argsOk,hsig] using ha
  simp only[h2];exact fI hc
theorem Zb9{d:Int}(hh:A.handled=none)(hl:s.heap.IsList l (intItems xs))
  (h:∀h' tk t',(∀b o,s.heap.get? b=some o->h'.get? b=some o)->Q (.int (mxD (numAt xs) xs.size d) t') { s with heap:=h',toks:=tk }) :
  wpAny (model prog w) A (call (.builtin "max") [.ref l] [("default",.int d td)]) Q E s:=by
 have pL:(toString "max" ++ toString ".loop" : String) = "max.loop" := by left
 refine JJ F.kind_max F.plain_max F.entry_max (ZbA _ _) ?_
 show wpAny _ A.in1 (Builtin.Builtins.bindParams "max" ["key","default"] 0 ⟨[],[("default",.int d td)]⟩ >>= _) _ _ s
 refine fE (wpAny_of_eq (show Builtin.Builtins.bindParams "max" ["key","default"] 0 ⟨[],[("default",.int d td)]⟩=pure [none,some (.int d td)] from rfl) ?_);refine fE (fI ?_);refine fE (iter_intList hl fun s₂ e st Dw hlI=>?_);refine fE (iG ?_);have wk:s₂.heap.objs.size∉[s.heap.objs.size,l]:=fun hm=>iZ _ (Dw _ hm);rw[pL];have W:=Walks.list (prog:=prog) (w:=w) (A:=A.in1) hh s.heap.objs.size l hlI (intItems xs);have hsz:(intItems xs).size=xs.size:=by simp[intItems]
 rw[hsz] at W;refine fI ⟨iO lQ _,Zcn W (numAt xs) (fun _ _=>intItems_at) s₂.heap.objs.size wk (W.frame _ _ _ st fun b _ o e=>fZ _ e) (gB _ rfl) fun t' h' tk hk=>?_⟩;subst e;refine h h' tk t' (old_kept (l:=l) fun b o hb e=>?_);exact hk b o hb (gb (fY e)) (fZ _ e)
end
def mxL(d:Int):List Int->Int
 |[]=>d
 |x::r=>r.foldl (fun b y=>if y>b then y else b) x
theorem ZaL{val:Nat->Int}:∀(r:List Int) (j:Nat) (b:Int),(∀i y,r[i]?=some y->val (j+i)=y)->ZbK val r.length j b=r.foldl (fun b y=>if y>b then y else b) b
 |[],_,_,_=>rfl
 |x::r,j,b,h=>by
  have h0:val j=x:=h 0 x rfl;rw[gu,List.foldl_cons,<- h0];exact ZaL r (j+1) _ fun i y e=>by rw[Nat.add_right_comm];exact h (i+1) y e
theorem ZgV{val:Nat->Int}{d:Int}(r:List Int)(h:∀i y,r[i]?=some y->val i=y):mxD val r.length d=mxL d r:=by
 cases r with
 |nil=>rfl
 |cons x r=>
  have h0:val 0=x:=h 0 x rfl
  show ZbK val r.length 1 (val 0)=r.foldl _ x
  rw[h0];exact ZaL r 1 x fun i y e=>by rw[Nat.add_comm];exact h (i+1) y e
def ZfV(K:W.Frag)(te:TE)(td:TE):TE:=fun U H Q=>te U H fun x H1=>td U H1 fun y H2=>∃(a:Addr) (ns:List Int) (d:Int),x=.ref a/\y=.int d/\SqL K H2 a (ns.map V.int)/\Q (.int (mxL d ns)) H2
theorem ZfF{d:Expr}{td:TE}{p kp:Pos}(hK:X.K=K)(hc:X.calm=true)(hg:Gl X "max")(hm:X.mg "max" = none)(hv:bootBuiltins "max" = some (.builtin "max"))(ha:PE X e te)(hd:PE X d td)
  (hs:starEach [e] X.env=[(false,eval e X.env)]:=by rfl):PE X (.Call (.Name "max" p) [e] [⟨some "default",d,kp⟩] on) (ZfV K te td):=by
 subst hK;intro dm s U H Q I h;refine iE (UN I hg hm hv ?_ (by left) (by left));refine callWith_kw ?_ (by rw[hs];rfl) (by rw[hs];rfl);refine thn ((Za ha Zb hs) on dm s U H (fun vs H1=>match vs with
  |[x]=>td U H1 fun y H2=>∃(a:Addr) (ns:List Int) (d:Int),x=.ref a/\y=.int d/\SqL X.K H2 a (ns.map V.int)/\Q (.int (mxL d ns)) H2
  |_=>False) I h) fun us s1 ⟨vs,H1,I1,r1,q1⟩=>?_
 obtain⟨x,rfl⟩:∃x,vs=[x]:=by
  match vs,q1 with
  |[x],_=>exact⟨x,rfl⟩
 obtain⟨u,rfl,ru⟩:=Vj r1;refine kws_cons (thn (hd dm s1 U H1 _ I1 q1) fun v s2 ⟨y,H2,I2,r2,q2⟩=>kws_nil ?_);obtain⟨a,ns,d,rfl,rfl,hq,q⟩:=q2;obtain rfl:u=Value.ref a:=ru;obtain⟨t,rfl⟩:=r2;obtain⟨its,Au,pl,hz⟩:=I2.list hq;have ia:IntsAre its ns:=zy Au;obtain⟨ys,ey⟩:=(IntsAre.allInts ia).items;have en:ys.toList.map (·.1)=ns:=by
  rw[<- nums_intItems,<- ey];exact IntsAre.numsOf ia
 have il:=pl.isList;rw[ey] at il
 show wpAny _ _ (call (.builtin "max") [.ref a] [("default",.int d t)]) _ _ _
 refine Zb9 (I2.ok.hd hc) il fun h' tk t' hk=>?_;have e2:mxD (numAt ys) ys.size d=mxL d ns:=by
  have hl:ys.size=ns.length:=by rw[<- en];simp
  rw[hl];refine ZgV ns fun i y e=>?_;rw[<- en,fO] at e;unfold numAt;rw[mH] at e;rw[e];rfl
 rw[e2];exact⟨.int (mxL d ns),H2,I2.kept (t':=tk) hk,⟨t',rfl⟩,q⟩
def nNo:Tr:=ZY ZA
def SW:List Str:=["next","always","ever","until","within","once","sofar","since"]
section
open Classical
noncomputable def Xq(w:Str)(idle strong:Tr)(ks:List Tr):Tr:=
 if strong∈ks then strong else match Zs [] (ks.filter fun x=>decide (x≠idle)) with
  |[]=>idle
  |[x]=>x
  |x::y::r=>.node (.many w) (x::y::r)
def wdT(t:Tr):Str:=Zu t.lb
def X9(ks:List Tr):Tr:=ks.getD 0 ZA
def yW(k:Tr)(same oC:Str):Prop:=if wdT k=oC then wdT (X9 k.ks)=same else wdT k=same
noncomputable def shF(c:Lb)(ks:List Tr):Tr:=
 if Zu c = "and" then Xq "and" ZA nNo ks
 else if Zu c = "or" then Xq "or" nNo ZA ks
 else if Zu c∈SW/\(ks.getLastD ZA=ZA\/ks.getLastD ZA=nNo) then ks.getLastD ZA
 else if Zu c = "not" /\ wdT (X9 ks) = "not" then X9 (X9 ks).ks
 else if Zu c = "always" /\ yW (X9 ks) "always" "ever" then X9 ks
 else if Zu c = "ever" /\ yW (X9 ks) "ever" "always" then X9 ks
 else .node c ks
def quL(c:Lb):Prop:=Zu c = "all" \/ Zu c = "some"
noncomputable def shP(c:Lb)(ps:List (Tr×Tr)):Tr×Tr:=(.node c (ps.map ε),if quL c then .node c (ps.map ε) else shF c (ps.map ζ))
noncomputable def shT(t:Tr):Tr:=(YL shP t).2
theorem ZaP:∀(n:Nat) (t:Tr),psz t<=n->(YL shP t).1=t
 |0,t,h=>by have:=Xw t;lia
 |n+1,t,h=>by
  rw[W0]
  show Tr.node t.lb _=t
  have e:(t.ks.map (YL shP)).map ε=t.ks:=by
   rw[fR];have:t.ks.map (ε∘YL shP)=t.ks.map id:=iz fun k hk=>ZaP n k (by have:=Xg hk;lia);rw[this,lT]
  rw[e];exact(Tr.eta t).symm
theorem qd(t:Tr):shT t=if quL t.lb then t else shF t.lb (t.ks.map shT):=by
 unfold shT;rw[W0]
 show(if quL t.lb then Tr.node t.lb ((t.ks.map (YL shP)).map ε) else shF t.lb ((t.ks.map (YL shP)).map ζ))=_
 have e:(t.ks.map (YL shP)).map ε=t.ks:=by
  rw[fR];have:t.ks.map (ε∘YL shP)=t.ks.map id:=iz fun k hk=>ZaP _ k (fH _);rw[this,lT]
 rw[e,<- Tr.eta t,fR];rfl
theorem quN{w:Str}(h:w∉(["all","some"]:List Str))(c:Lb)(e:Zu c=w):¬quL c:=by
 subst e;rintro(z|z)<;>exact h (by rw[z];left)
theorem QB:ZA≠nNo:=fun z=>by
 have:=fS wdT z;exact ot this (show("yes" : Str) ≠ "not" by left)
theorem Wd(w:Str)(idle strong:Tr)(ks:List Tr):(strong∈ks/\Xq w idle strong ks=strong)\/(strong∉ks/\∃few,few=Zs [] (ks.filter fun x=>decide (x≠idle))/\((few=[]/\Xq w idle strong ks=idle)\/(∃x,few=[x]/\Xq w idle strong ks=x)\/(2<=few.length/\Xq w idle strong ks=.node (.many w) few))):=by
 by_cases c:strong∈ks
 ·exact .inl ⟨c,oq c⟩
 ·refine .inr ⟨c,_,rfl,?_⟩;unfold Xq;rw[oo c];generalize Zs [] (ks.filter fun x=>decide (x≠idle))=few
  match few with
  |[]=>exact .inl ⟨rfl,rfl⟩
  |[x]=>exact .inr (.inl ⟨x,rfl,rfl⟩)
  |x::y::r=>exact .inr (.inr ⟨by simp,rfl⟩)
theorem UO{x:Tr}{ks:List Tr}(h:x∈Zs [] (ks.filter fun x=>decide (x≠idle))):x∈ks/\x≠idle:=by
 rcases ZW.mp h with h|h
 ·cases h
 ·have:=iC.mp h;exact⟨this.1,ge this.2⟩
end
section
open Classical
theorem qX(c:Lb)(ks:List Tr):(Zu c = "and" /\ shF c ks=Xq "and" ZA nNo ks)\/(Zu c = "or" /\ shF c ks=Xq "or" nNo ZA ks)\/((ks.getLastD ZA=ZA\/ks.getLastD ZA=nNo)/\Zu c∈SW/\shF c ks=ks.getLastD ZA)\/(Zu c = "not" /\ wdT (X9 ks) = "not" /\ shF c ks=X9 (X9 ks).ks)\/((Zu c = "always" \/ Zu c = "ever")/\shF c ks=X9 ks)\/shF c ks=.node c ks:=by
 unfold shF
 by_cases h1:Zu c = "and"
 ·exact .inl ⟨h1,oq h1⟩
 rw[oo h1]
 by_cases h2:Zu c = "or"
 ·exact .inr (.inl ⟨h2,oq h2⟩)
 rw[oo h2]
 by_cases h3:Zu c∈SW/\(ks.getLastD ZA=ZA\/ks.getLastD ZA=nNo)
 ·exact .inr (.inr (.inl ⟨h3.2,h3.1,oq h3⟩))
 rw[oo h3]
 by_cases h4:Zu c = "not" /\ wdT (X9 ks) = "not"
 ·exact .inr (.inr (.inr (.inl ⟨h4.1,h4.2,oq h4⟩)))
 rw[oo h4]
 by_cases h5:Zu c = "always" /\ yW (X9 ks) "always" "ever"
 ·exact .inr (.inr (.inr (.inr (.inl ⟨.inl h5.1,oq h5⟩))))
 rw[oo h5]
 by_cases h6:Zu c = "ever" /\ yW (X9 ks) "ever" "always"
 ·exact .inr (.inr (.inr (.inr (.inl ⟨.inr h6.1,oq h6⟩))))
 ·exact .inr (.inr (.inr (.inr (.inr (oo h6)))))
theorem WX{ks:List Tr}:X9 ks=ZA\/X9 ks∈ks:=by
 cases ks with
 |nil=>exact .inl rfl
 |cons x r=>exact .inr (by show x∈_;simp)
theorem qop{w:Str}(h:w∉(["all","some"]:List Str)):¬quL (.op w):=quN h _ rfl
theorem qmy{w:Str}(h:w∉(["all","some"]:List Str)):¬quL (.many w):=quN h _ rfl
theorem Q9{s:Tr}(ok:Yi s.lb s.ks.length)(h:wdT s = "not"):∃x,s=ZY x:=by
 obtain⟨c,ks⟩:=s;have h':Zu c = "not" := h;have rO:Yi c ks.length:=ok;cases c with
 |yes=>exact ot h' (show("yes" : Str) ≠ "not" by left)
 |sign z=>exact ot h' (show("sign" : Str) ≠ "not" by left)
 |wit m=>exact ot h' (show("within" : Str) ≠ "not" by left)
 |many w=>
  have:w = "not" := h';rcases rO.1 with z|z
  ·rw[this] at z;exact ot z (by left)
  ·rw[this] at z;exact ot z (by left)
 |op w=>
  have hw:w = "not" := h';subst hw;rcases rO with⟨_,l⟩|⟨z,_⟩
  ·match ks,l with
   |[x],_=>exact⟨x,rfl⟩
  ·exact ot z (by left)
theorem Ql{w:Str}{x y:Tr}(h1:w ≠ "yes")(h2:w ≠ "not"):Tr.node (.op w) [x]≠ZA/\Tr.node (.op w) [x]≠nNo:=⟨fun z=>h1 (fS wdT z),fun z=>h2 (fS wdT z)⟩
end
section
open Classical
def czF(c:Lb)(zs:List Nat):Nat:=match c with
 |.yes=>1
 |.sign _=>1
 |.many w=>if w = "and" then zs.sum+(zs.length-1)+(if zs=[] then 1 else 0) else zs.sum+4*(zs.length-1)+(if zs=[] then 2 else 0)
 |.wit m=>zs.getD 1 1+m.toNat*(zs.getD 0 1+zs.getD 1 1+6)
 |.op w=>if w = "all" then zs.getD 0 1+3 else if w = "ever" then zs.getD 0 1+2 else if w = "always" then zs.getD 0 1+4 else if w = "once" then zs.getD 0 1+2 else if w = "sofar" then zs.getD 0 1+4 else zs.sum+1
theorem p1(c:Lb)(k:Tr):psz (.node c [k])=psz k+1:=by rw[YH];simp
theorem p2(c:Lb)(k r:Tr):psz (.node c [k,r])=psz k+psz r+1:=by rw[YH];simp
theorem jM:psz ZA=1:=by unfold ZA;rw[YH];simp
theorem ZaZ:∀l:List Tr,psz (Wz l)=(l.map psz).sum+(l.length-1)+(if l=[] then 1 else 0)
 |[]=>by simp[Wz,jM]
 |[x]=>by simp[Wz]
 |x::y::r=>by
  have:=ZaZ (y::r);rw[Wz];unfold Vf;rw[p2,this];simp;lia
theorem ZdC:∀l:List Tr,psz (orT l)=(l.map psz).sum+4*(l.length-1)+(if l=[] then 2 else 0)
 |[]=>by simp[orT,ZY,p1,jM]
 |[x]=>by simp[orT]
 |x::y::r=>by
  have:=ZdC (y::r);rw[orT];unfold ZY Vf;rw[p1,p2,p1,p1,this];simp;lia
theorem vQ(f s:Tr):∀n,psz (Yb n f s)=psz s+n*(psz f+psz s+6)
 |0=>by simp[Yb]
 |n+1=>by
  have:=vQ f s n;rw[Yb];unfold ZY Vf zu;rw[p1,p2,p1,p1,p2,p1,this,ml];lia
theorem Uv:(cs.map psz).getD i 1=psz (cs.getD i ZA):=by
 rw[ii,ii,fO];cases cs[i]? with
 |none=>exact jM.symm
 |some x=>rfl
theorem ZfI(c:Lb)(cs:List Tr)(ok:Yi c cs.length):psz (YW c cs)=czF c (cs.map psz):=by
 unfold YW czF;cases c with
 |yes=>exact jM
 |sign z=>show psz (Tr.node _ [])=1;rw[YH];simp
 |many w=>
  dsimp only
  split
  ·rw[ZaZ];simp
  ·rw[ZdC];simp
 |wit m=>dsimp only;rw[vQ,Uv,Uv]
 |op w=>
  dsimp only
  split
  ·unfold ZY KR;rw[p1,p1,p1,Uv]
  split
  ·unfold ZfG;rw[p2,jM,Uv];lia
  split
  ·unfold ZY ZfG;rw[p1,p2,p1,jM,Uv];lia
  split
  ·unfold Zfa;rw[p2,jM,Uv];lia
  split
  ·unfold ZY Zfa;rw[p1,p2,p1,jM,Uv];lia
  rw[YH]
def cz(t:Tr):Nat:=psz (Z8 t)
theorem jg{t:Tr}(ok:Yi t.lb t.ks.length):cz t=czF t.lb (t.ks.map cz):=by
 unfold cz;rw[qx,ZfI _ _ (by rw[fF];exact ok),fR];rfl
end
section
open Classical
theorem OkN.up1:∀{n:Nat}{t:Tr},OkN n t->OkN (n+1) t
 |0,_,h=>h.elim
 |n+1,t,h=>⟨h.1,fun k hk=>OkN.up1 (h.2 k hk)⟩
theorem xg(n:Nat):OkN (n+1) ZA:=⟨rfl,fun k hk=>by cases hk⟩
theorem Zcp(n:Nat):OkN (n+2) nNo:=⟨.inl ⟨by left,rfl⟩,fun k hk=>by
 have:k=ZA:=gn.mp hk;rw[this];exact xg n⟩
theorem ZaI{w:Str}{ks:List Tr}(hw:w = "and" \/ w = "or")(hi:OkN (n+1) idle)(hs:OkN (n+1) strong)(hk:∀k∈ks,OkN n k)(l8:ks.length<=8):OkN (n+1) (Xq w idle strong ks):=by
 rcases Wd w idle strong ks with⟨_,z⟩|⟨hn,few,ef,⟨_,z⟩|⟨x,ex,z⟩|⟨h2,z⟩⟩
 ·rw[z];exact hs
 ·rw[z];exact hi
 ·rw[z];exact(hk x (UO (idle:=idle) (by rw[<- ef,ex];simp)).1).up1
 ·rw[z];refine⟨⟨hw,?_⟩,fun k pG=>hk k (UO (idle:=idle) (by rw[<- ef];exact pG)).1⟩
  show few.length<=8
  rw[ef];have h1:=U7 (ks.filter fun x=>decide (x≠idle)) [];have h2:=mw (fun x=>decide (x≠idle)) ks;simp only[mM,mq] at h1;lia
theorem Zgg{ks:List Tr}(ok:Yi c ks.length)(hk:∀k∈ks,OkN (n+1) k):OkN (n+2) (shF c ks):=by
 rcases qX c ks with⟨h,e⟩|⟨h,e⟩|⟨h,_,e⟩|⟨h,h2,e⟩|⟨h,e⟩|e
 ·rw[e];refine ZaI (.inl rfl) (xg _) (Zcp n) hk ?_;cases c with
  |many w=>exact ok.2
  |yes=>exact ot h (show("yes" : Str) ≠ "and" by left)
  |sign z=>exact ot h (show("sign" : Str) ≠ "and" by left)
  |wit m=>exact ot h (show("within" : Str) ≠ "and" by left)
  |op w=>have:w = "and" := h;subst this;rcases ok with⟨z,_⟩|⟨z,_⟩<;>exact ot z (by left)
 ·rw[e];refine ZaI (.inr rfl) (Zcp n) (xg _) hk ?_;cases c with
  |many w=>exact ok.2
  |yes=>exact ot h (show("yes" : Str) ≠ "or" by left)
  |sign z=>exact ot h (show("sign" : Str) ≠ "or" by left)
  |wit m=>exact ot h (show("within" : Str) ≠ "or" by left)
  |op w=>have:w = "or" := h;subst this;rcases ok with⟨z,_⟩|⟨z,_⟩<;>exact ot z (by left)
 ·rw[e];rcases h with h|h
  ·rw[h];exact xg _
  ·rw[h];exact Zcp n
 ·rw[e];rcases WX (ks:=ks) with z|z
  ·rw[z] at h2;exact ot h2 (show("yes" : Str) ≠ "not" by left)
  ·have hn:=hk _ z;rcases WX (ks:=(X9 ks).ks) with y|y
   ·rw[y];exact xg _
   ·exact(hn.2 _ y).up1.up1
 ·rw[e];rcases WX (ks:=ks) with z|z
  ·rw[z];exact xg _
  ·exact(hk _ z).up1
 ·rw[e];exact⟨ok,hk⟩
theorem Kt:∀{n:Nat}{t:Tr},OkN n t->OkN (n+1) (shT t)
 |0,_,h=>h.elim
 |n+1,t,h=>by
  rw[qd]
  by_cases q:quL t.lb
  ·rw[oq q];exact h.up1
  ·rw[oo q];refine Zgg (by rw[fF];exact h.1) fun k hk=>?_;obtain⟨x,hx,rfl⟩:=fM.mp hk;exact Kt (h.2 x hx)
theorem qS{f:Tr->Nat}:∀{l:List Tr}{x:Tr},x∈l->f x<=(l.map f).sum
 |y::r,x,h=>by
  rw[fL,gG];rcases fU.mp h with rfl|h
  ·lia
  ·have:=qS (f:=f) h;lia
theorem zH{f:Tr->Nat}:∀(L A:List Tr),((Zs A L).map f).sum<=(A.map f).sum+(L.map f).sum
 |[],A=>by rw[UQ];simp
 |t::r,A=>by
  rw[YO];have h:=zH (f:=f) r (YN A t);have h2:((YN A t).map f).sum<=(A.map f).sum+f t:=by
   unfold YN
   split
   ·lia
   ·rw[gp,List.sum_append];simp
  rw[fL,gG];lia
theorem zP{f:Tr->Nat}{p:Tr->Bool}:∀(L:List Tr),((L.filter p).map f).sum<=(L.map f).sum
 |[]=>by simp
 |t::r=>by
  have:=zP (f:=f) (p:=p) r;rw[List.filter_cons]
  split
  ·rw[fL,gG,fL,gG];lia
  ·rw[fL,gG];lia
theorem Zap(t:Tr):1<=cz t:=Xw _
theorem QP:cz ZA=1:=by
 rw[jg (t:=ZA) rfl];rfl
theorem ZhA:cz nNo=2:=by
 have ok:Yi nNo.lb nNo.ks.length:=.inl ⟨by left,rfl⟩;rw[jg ok]
 show czF (.op "not") [cz ZA]=2
 rw[QP];left
theorem Za2{w:Str}{ks:List Tr}{b:Nat}(hi:cz idle<=(if ks=[] then b else 2))(hb:∀x∈ks,1<=cz x)(sS:ks≠[]->Zs [] (ks.filter fun x=>decide (x≠idle))=[]->cz idle<=(ks.map cz).sum)
  (hm:∀few:List Tr,few.length<=8->2<=few.length->cz (.node (.many w) few)=(few.map cz).sum+j*(few.length-1)) (l8:ks.length<=8):cz (Xq w idle strong ks)<=(ks.map cz).sum+j*(ks.length-1)+(if ks=[] then b else 0):=by
 have s1:=zP (f:=cz) (p:=fun x=>decide (x≠idle)) ks;have s2:=zH (f:=cz) (ks.filter fun x=>decide (x≠idle)) [];have s3:=U7 (ks.filter fun x=>decide (x≠idle)) [];have s4:=mw (fun x=>decide (x≠idle)) ks;simp only[gm,iJ,mq,mM] at s2 s3;rcases Wd w idle strong ks with⟨ud,z⟩|⟨hn,few,ef,⟨e0,z⟩|⟨x,ex,z⟩|⟨h2,z⟩⟩
 ·rw[z];have:=qS (f:=cz) ud;lia
 ·rw[z]
  by_cases c:ks=[]
  ·rw[oq c] at hi ⊢; lia
  ·have:=sS c (by rw[<- ef];exact e0);lia
 ·rw[z];have:=qS (f:=cz) (UO (idle:=idle) (x:=x) (ks:=ks) (by rw[<- ef,ex];simp)).1;lia
 ·rw[z];rw[<- ef] at s2 s3;rw[hm few (by lia) h2];have:j*(few.length-1)<=j*(ks.length-1):=Nat.mul_le_mul_left _ (by lia);lia
theorem Zds{f g:Tr->Nat}:∀{l:List Tr},(∀k∈l,f k<=g k)->(l.map f).sum<=(l.map g).sum
 |[],_=>by simp
 |x::r,h=>by
  have:=Zds (f:=f) (g:=g) (l:=r) fun k hk=>h k (fT _ hk);have:=h x (by simp);rw[fL,gG,fL,gG];lia
theorem ZfW{f g:Tr->Nat}{l:List Tr}(h:∀k∈l,f k<=g k)(i:Nat):(l.map f).getD i 1<=(l.map g).getD i 1:=by
 rw[ii,ii,fO,fO];cases e:l[i]? with
 |none=>exact fH _
 |some x=>exact h x (gk e)
theorem Zec{f g:Tr->Nat}{l:List Tr}(h:∀k∈l,f k<=g k):czF c (l.map f)<=czF c (l.map g):=by
 have s:=Zds h;have g0:=ZfW h 0;have g1:=ZfW h 1;unfold czF;cases c with
 |yes=>exact fH _
 |sign z=>exact fH _
 |many w=>
  dsimp only;have e1:(l.map f=[])↔(l.map g=[]):=by simp
  have e2:(if l.map f=[] then 1 else 0)=(if l.map g=[] then 1 else 0):=by
   by_cases c:l.map f=[]
   ·rw[oq c,oq (e1.mp c)]
   ·rw[oo c,oo (fun z=>c (e1.mpr z))]
  have e3:(if l.map f=[] then 2 else 0)=(if l.map g=[] then 2 else 0):=by
   by_cases c:l.map f=[]
   ·rw[oq c,oq (e1.mp c)]
   ·rw[oo c,oo (fun z=>c (e1.mpr z))]
  rw[e2,e3,fF,fF]
  split<;>lia
 |wit m=>
  dsimp only;have:=Nat.mul_le_mul_left m.toNat (show(l.map f).getD 0 1+(l.map f).getD 1 1+6<=(l.map g).getD 0 1+(l.map g).getD 1 1+6 by lia);lia
 |op w=>
  dsimp only
  split
  ·lia
  split
  ·lia
  split
  ·lia
  split
  ·lia
  split
  ·lia
  lia
theorem JK(w:Str)(x:Nat):x+1<=czF (.op w) [x]:=by
 unfold czF;dsimp only;have e:([x]:List Nat).getD 0 1=x:=rfl;have e2:([x]:List Nat).sum=x:=by simp
 rw[e,e2]
 split
 ·lia
 split
 ·lia
 split
 ·lia
 split
 ·lia
 split
 ·lia
 lia
theorem Ze6{w:Str}(hw:w∈W2)(x y:Nat):czF (.op w) [x,y]=x+y+1:=by
 have h:∀w∈W2,w ≠ "all" /\ w ≠ "ever" /\ w ≠ "always" /\ w ≠ "once" /\ w ≠ "sofar" := by left
 obtain⟨h1,h2,h3,h4,h5⟩:=h w hw;unfold czF;dsimp only;rw[oo h1,oo h2,oo h3,oo h4,oo h5];simp
theorem ZcV{ks:List Tr}(ok:Yi c ks.length)(hc:Zu c∈SW):cz (ks.getLastD ZA)<=czF c (ks.map cz):=by
 cases c with
 |yes=>exact ot hc (show ¬(("yes" : Str)∈SW) by left)
 |sign z=>exact ot hc (show ¬(("sign" : Str)∈SW) by left)
 |many w=>
  have ro:w∈SW:=hc;rcases ok.1 with rfl|rfl<;>exact ot ro (by left)
 |wit m=>
  obtain⟨_,l⟩:=ok
  match ks,l with
  |[x,y],_=>
   show cz y<=cz y+m.toNat*(cz x+cz y+6)
   lia
 |op w=>
  rcases ok with⟨_,l⟩|⟨hw,l⟩
  ·match ks,l with
   |[x],_=>have:=JK w (cz x);show cz x<=czF (.op w) [cz x];lia
  ·match ks,l with
   |[x,y],_=>show cz y<=czF (.op w) [cz x,cz y];rw[Ze6 hw];lia
theorem ZaN{ks:List Tr}(ok:Yi c ks.length)(hc:Zu c∈(["not","always","ever"]:List Str)):cz (X9 ks)+1<=czF c (ks.map cz):=by
 cases c with
 |yes=>exact ot hc (show ¬(("yes" : Str)∈_) by left)
 |sign z=>exact ot hc (show ¬(("sign" : Str)∈_) by left)
 |many w=>
  have ro:w∈(["not","always","ever"]:List Str):=hc;rcases ok.1 with rfl|rfl<;>exact ot ro (by left)
 |wit m=>exact ot hc (show ¬(("within" : Str)∈_) by left)
 |op w=>
  have ro:w∈(["not","always","ever"]:List Str):=hc;rcases ok with⟨_,l⟩|⟨hw,l⟩
  ·match ks,l with
   |[x],_=>exact JK w (cz x)
  ·have h:∀w∈W2,w∉(["not","always","ever"]:List Str):=by left
   exact ot ro (h w hw)
theorem yK{w:Str}(ok:Yi c n)(h:Zu c=w)(hw:w = "and" \/ w = "or"):c=.many w/\n<=8:=by
 cases c with
 |many v=>have:v=w:=h;subst this;exact⟨rfl,ok.2⟩
 |yes=>have:("yes" : Str)=w:=h;subst this;exact ot hw (by left)
 |sign z=>have:("sign" : Str)=w:=h;subst this;exact ot hw (by left)
 |wit m=>have:("within" : Str)=w:=h;subst this;exact ot hw (by left)
 |op v=>
  have:v=w:=h;subst this;have hh:∀w∈W1++W2,w ≠ "and" /\ w ≠ "or" := by left
  have:=hh v (by rcases ok with⟨z,_⟩|⟨z,_⟩;exact gT _ z;exact gy _ z);rcases hw with z|z
  ·exact ot z this.1
  ·exact ot z this.2
theorem ZaD(zs:List Nat):czF (.many "and") zs=zs.sum+(zs.length-1)+(if zs=[] then 1 else 0):=by unfold czF;dsimp only;rw[oq rfl]
theorem Zdm(zs:List Nat):czF (.many "or") zs=zs.sum+4*(zs.length-1)+(if zs=[] then 2 else 0):=by unfold czF;dsimp only;rw[oo (by left)]
theorem map_nil{ks:List Tr}:(ks.map cz=[])↔ks=[]:=by simp
theorem Zcu{ks:List Tr}(h:Zs [] (ks.filter fun x=>decide (x≠idle))=[]):∀x∈ks,x=idle:=fun x hx=>by
 apply Classical.byContradiction;intro oA;have:x∈Zs [] (ks.filter fun x=>decide (x≠idle)):=ZW.mpr (.inr (iC.mpr ⟨hx,fQ oA⟩));rw[h] at this;cases this
theorem ZaY{w:Str}{few:List Tr}(hw:w = "and" \/ w = "or")(l8:few.length<=8)(h2:2<=few.length):cz (.node (.many w) few)=(few.map cz).sum+(if w = "and" then 1 else 4)*(few.length-1):=by
 rw[jg (t:=.node (.many w) few) ⟨hw,l8⟩];have hn:few.map cz≠[]:=fun z=>by rw[map_nil.mp z] at h2;simp at h2
 show czF (.many w) (few.map cz)=_
 rcases hw with rfl|rfl
 ·rw[ZaD,oo hn,fF,oq rfl];lia
 ·rw[Zdm,oo hn,fF,oo (by left)];lia
theorem ZgK{ks:List Tr}(ok:Yi c ks.length)(hk:∀k∈ks,Yi k.lb k.ks.length):cz (shF c ks)<=czF c (ks.map cz):=by
 rcases qX c ks with⟨h,e⟩|⟨h,e⟩|⟨_,h,e⟩|⟨h,h2,e⟩|⟨h,e⟩|e
 ·obtain⟨rfl,l8⟩:=yK ok h (.inl rfl);rw[e];have:=Za2 (w := "and") (idle:=ZA) (strong:=nNo) (ks:=ks) (b:=1) (j:=1) (by rw[QP];split<;>lia) (fun x _=>Zap x) (fun hn _=>by
   obtain⟨x,r,ex⟩:=χ hn;have:=qS (f:=cz) (l:=ks) (x:=x) (by rw[ex];simp);have:=Zap x;rw[QP];lia) (fun few l h=>by rw[ZaY (.inl rfl) l h,oq rfl]) l8
  rw[ZaD,fF]
  by_cases cn:ks=[]
  ·rw[oq cn] at this;rw[oq (map_nil.mpr cn)];lia
  ·rw[oo cn] at this;rw[oo (fun z=>cn (map_nil.mp z))];lia
 ·obtain⟨rfl,l8⟩:=yK ok h (.inr rfl);rw[e];have:=Za2 (w := "or") (idle:=nNo) (strong:=ZA) (ks:=ks) (b:=2) (j:=4) (by rw[ZhA];split<;>lia) (fun x _=>Zap x) (fun hn h0=>by
   obtain⟨x,r,ex⟩:=χ hn;have hm:x∈ks:=by rw[ex];simp
   have:=qS (f:=cz) hm;rw[Zcu h0 x hm] at this;exact this) (fun few l h=>by rw[ZaY (.inr rfl) l h,oo (by left)]) l8
  rw[Zdm,fF]
  by_cases cn:ks=[]
  ·rw[oq cn] at this;rw[oq (map_nil.mpr cn)];lia
  ·rw[oo cn] at this;rw[oo (fun z=>cn (map_nil.mp z))];lia
 ·rw[e];exact ZcV ok h
 ·rw[e];have h1:=ZaN ok (by rw[h];left);rcases WX (ks:=ks) with z|z
  ·rw[z] at h2;exact ot h2 (show("yes" : Str) ≠ "not" by left)
  ·have um:=hk _ z;obtain⟨x,ex⟩:=Q9 um h2;rw[ex] at h1 um ⊢;have:cz x+1<=cz (ZY x):=by rw[jg um];exact JK "not" (cz x)
   show cz x<=_
   lia
 ·rw[e];have:=ZaN ok (show Zu c∈_ by rcases h with h|h<;>rw[h]<;>left);lia
 ·rw[e,jg (t:=.node c ks) ok];exact fH _
theorem OkN.lb{n:Nat}{t:Tr}(h:OkN n t):Yi t.lb t.ks.length:=by
 cases n with
 |zero=>exact h.elim
 |succ n=>exact h.1
theorem KQ:∀{n:Nat}{t:Tr},OkN n t->cz (shT t)<=cz t
 |0,_,h=>h.elim
 |n+1,t,h=>by
  rw[qd]
  by_cases q:quL t.lb
  ·rw[oq q];exact fH _
  ·rw[oo q];have h1:=ZgK (c:=t.lb) (ks:=t.ks.map shT) (by rw[fF];exact h.1) (fun k hk=>by
    obtain⟨x,hx,rfl⟩:=fM.mp hk;exact(Kt (h.2 x hx)).lb)
   have h2:=Zec (c:=t.lb) (f:=fun k=>cz (shT k)) (g:=cz) (l:=t.ks) fun k hk=>KQ (h.2 k hk);rw[fR] at h1;rw[jg h.1];exact gg h1 h2
end
section
open Classical
theorem ko:∀{ks:List Tr}{s:Tr},s∈Yq ks->∃k∈ks,s∈post k
 |[],s,h=>by rw[Yq] at h;cases h
 |t::r,s,h=>by
  rw[Yq,gj] at h;rcases h with h|h
  ·exact⟨t,by simp,h⟩
  ·obtain⟨k,hk,hs⟩:=ko h;exact⟨k,fT _ hk,hs⟩
theorem pin{ks:List Tr}{s:Tr}(h:s∈post (.node c ks)):s=.node c ks\/∃k∈ks,s∈post k:=by
 rw[post,gj,gn] at h;rcases h with h|h
 ·exact .inr (ko h)
 ·exact .inl h
theorem Za9{s:Tr}{ks:List Tr}(h:s∈ks):psz s<=(ks.map psz).sum:=qS h
theorem Zhi{x:Tr}(h:x∈post ZA):x=ZA:=by
 rcases pin (c:=.yes) (ks:=[]) h with e|⟨k,hk,_⟩
 ·exact e
 ·cases hk
theorem pno{x:Tr}(h:x∈post nNo):x=ZA\/x=nNo:=by
 rcases pin (c:=.op "not") (ks:=[ZA]) h with e|⟨k,hk,h⟩
 ·exact .inr e
 ·rw[gn] at hk;subst hk;exact .inl (Zhi h)
theorem ZeG{t k:Tr}(h:k∈t.ks):psz k<=psz t:=by have:=Xg h;lia
theorem ZfJ{ks:List Tr}:psz (shF c ks)<=2\/psz (shF c ks)<=(ks.map psz).sum+1:=by
 have y1:psz ZA<=2:=by rw[jM];decide
 have n2:psz nNo<=2:=by show psz (.node _ [ZA])<=2;rw[p1,jM];decide
 have km:∀{k:Tr},k∈ks->psz k<=2\/psz k<=(ks.map psz).sum+1:=fun hk=>.inr (by have:=Za9 hk;lia);have jn:∀{w:Str}{idle strong:Tr},psz idle<=2->psz strong<=2->psz (Xq w idle strong ks)<=2\/psz (Xq w idle strong ks)<=(ks.map psz).sum+1:=fun {w idle strong} hi hs=>by
  rcases Wd w idle strong ks with⟨_,z⟩|⟨hn,few,ef,⟨_,z⟩|⟨y,ey,z⟩|⟨h2,z⟩⟩
  ·rw[z];exact .inl hs
  ·rw[z];exact .inl hi
  ·rw[z];exact km (UO (idle:=idle) (by rw[<- ef,ey];simp)).1
  ·rw[z,YH,ef];have h1:=zH (f:=psz) (ks.filter fun x=>decide (x≠idle)) [];have h2:=zP (f:=psz) (p:=fun x=>decide (x≠idle)) ks;have h3:(([]:List Tr).map psz).sum=0:=rfl
   right;lia
 rcases qX c ks with⟨h,e⟩|⟨h,e⟩|⟨h,_,e⟩|⟨h,h2,e⟩|⟨h,e⟩|e
 ·rw[e];exact jn y1 n2
 ·rw[e];exact jn n2 y1
 ·rw[e];rcases h with h|h
  ·rw[h];exact .inl y1
  ·rw[h];exact .inl n2
 ·rw[e];rcases WX (ks:=(X9 ks).ks) with z|z
  ·rw[z];exact .inl y1
  ·have h3:=ZeG z;rcases WX (ks:=ks) with u|u
   ·rw[u] at h3 ⊢; exact .inl (gg h3 y1)
   ·have:=Za9 u;right;lia
 ·rw[e];rcases WX (ks:=ks) with u|u
  ·rw[u];exact .inl y1
  ·exact km u
 ·rw[e,YH];exact .inr (fH _)
theorem Zdu:∀(n:Nat) (t:Tr),psz t<=n->psz (shT t)<=2*psz t
 |0,t,h=>by have:=Xw t;lia
 |n+1,t,h=>by
  have hp:=Xw t
  by_cases q:quL t.lb
  ·rw[qd,oq q];lia
  ·have e:shT t=shF t.lb (t.ks.map shT):=by rw[qd,oo q]
   rw[e];rcases ZfJ (c:=t.lb) (ks:=t.ks.map shT) with h1|h1
   ·lia
   ·have h2:((t.ks.map shT).map psz).sum<=(t.ks.map fun k=>2*psz k).sum:=by
     rw[fR];exact Zds fun k hk=>Zdu n k (by have:=Xg hk;lia)
    have h3:∀l:List Tr,(l.map fun k=>2*psz k).sum=2*(l.map psz).sum:=fun l=>by
     induction l with
     |nil=>rfl
     |cons x l ih=>rw[fL,gG,fL,gG,ih];lia
    rw[h3] at h2;rw[jp t];lia
def g8:Nat->Nat
 |0=>0
 |n+1=>8*g8 n+1
theorem Zib(h:Yi c n):n<=8:=by
 cases c with
 |yes=>have:n=0:=h;lia
 |sign s=>have:=h.1;lia
 |op w=>rcases h with⟨_,h⟩|⟨_,h⟩<;>lia
 |wit m=>have:=h.2;lia
 |many w=>exact h.2
theorem ZcR:∀{n:Nat}{t:Tr},OkN n t->psz t<=g8 n
 |0,_,h=>h.elim
 |n+1,t,⟨ok,hk⟩=>by
  have sY:∀l:List Tr,(∀k∈l,OkN n k)->(l.map psz).sum<=l.length*g8 n:=fun l=>by
   induction l with
   |nil=>intro _;simp
   |cons x l ih=>
    intro h;have h1:=ZcR (h x (by simp));have h2:=ih fun k hk=>h k (fT _ hk);rw[fL,gG,gu,ml];lia
  rw[jp];have h1:=sY t.ks hk;have h2:=mn (g8 n) (Zib ok)
  show _<=8*g8 n+1
  lia
def FwT(t:Tr):Prop:=psz t<=8000000/\∃C:List Tr,C.length<=1990/\∀s∈post t,s∈C
end
abbrev RK:=Sum (List Key) Str
def Ue:Key->PyData
 |.inl i=>.int i
 |.inr x=>.str x
def JU(ks:List Key):Prop:=∀x,ι x∈ks->PyData.strOk x=true
def rkD:RK->PyData
 |.inl ks=>.tuple (ks.map Ue)
 |.inr z=>.tuple [.str z,.tuple []]
section
variable{prog:Program}{w:World}
def Q3(prog:Program)(w:World)(h:Heap):RK->Addr->Prop
 |.inl ks,a=>IsTupleKey (ZM prog w) h ks a/\JU ks
 |.inr z,a=>zJ (ZM prog w) (ZM prog w) h ((ι z:Key),[]) a/\PyData.strOk z=true
theorem kM{k:Key}{v:Value}(e:VR k v=true):∃as,Reads h v (Ue k) as:=by
 rcases Yt e with⟨i,t,rfl,rfl⟩|⟨x,t,rfl,rfl⟩
 ·exact⟨_,.int i t⟩
 ·exact⟨_,.str x t⟩
theorem qc{h:Heap}:∀{ks:List Key}{vs:List Value},ItemsAre (ZM prog w) ks vs->∃as,ReadsAll h vs (ks.map Ue) as
 |_,_,.nil=>⟨_,.nil⟩
 |_,_,.cons e r=>by
  obtain⟨as,a⟩:=kM (h:=h) e;obtain⟨bs,b⟩:=qc (h:=h) r;exact⟨_,.cons a b⟩
theorem ym{x:RK}{a:Addr}(i:Q3 prog w h x a):∃as,Reads h (.ref a) (rkD x) as:=by
 cases x with
 |inl ks=>
  obtain⟨⟨o,items,n,ho,hc,hd,hi⟩,_⟩:=i;obtain⟨as,q⟩:=qc (h:=h) hi;exact⟨_,.tuple ho hc hd q⟩
 |inr z=>
  obtain⟨⟨o,v,b,n,ho,hc,hd,h1,o2,items,n2,pC,sP,uU,sN⟩,_⟩:=i;obtain⟨as,q⟩:=qc (h:=h) sN;obtain⟨bs,q1⟩:=kM (h:=h) (show VR (ι z) v=true from h1);exact⟨_,.tuple ho hc hd (.cons q1 (.cons (.tuple pC sP uU q) .nil))⟩
theorem Uf:∀{ks:List Key},JU ks->PyData.canLayAll0 (ks.map Ue)=true/\PyData.depthAll (ks.map Ue)<=0
 |[],_=>⟨rfl,fH _⟩
 |.inl i::r,h=>by
  obtain⟨a,b⟩:=Uf (ks:=r) fun x hx=>h x (fT _ hx);exact⟨by simp[Ue,PyData.canLayAll0,PyData.canLay0,a],by simp[Ue,PyData.depthAll,PyData.depth] at b ⊢; exact b⟩
 |.inr x::r,h=>by
  obtain⟨a,b⟩:=Uf (ks:=r) fun x hx=>h x (fT _ hx);exact⟨by simp[Ue,PyData.canLayAll0,PyData.canLay0,a,h x (by simp)],by simp[Ue,PyData.depthAll,PyData.depth] at b ⊢; exact b⟩
theorem JB{x:RK}{a:Addr}(i:Q3 prog w h x a):(rkD x).canLay0=true:=by
 cases x with
 |inl ks=>simp[rkD,PyData.canLay0,(Uf i.2).1]
 |inr z=>simp[rkD,PyData.canLay0,PyData.canLayAll0,i.2]
theorem Kc(k:Key)(ds:List PyData):PyData.eqv (Ue k) (.tuple ds)=false/\PyData.eqv (.tuple ds) (Ue k)=false:=by
 cases k<;>simp[Ue,PyData.eqv]
theorem KW(ks:List Key)(z:Str):PyData.eqv (rkD (.inl ks)) (rkD (.inr z))=false/\PyData.eqv (rkD (.inr z)) (rkD (.inl ks))=false:=by
 match ks with
 |[]=>simp[rkD,PyData.eqv,PyData.eqvAll]
 |[k]=>
  have e1:PyData.eqvAll [] [PyData.tuple []]=false:=by simp[PyData.eqvAll]
  have e2:PyData.eqvAll [PyData.tuple []] []=false:=by simp[PyData.eqvAll]
  constructor
  ·show PyData.eqv (.tuple [Ue k]) (.tuple [.str z,.tuple []])=false
   rw[PyData.eqv,PyData.eqvAll,e1,md]
  ·show PyData.eqv (.tuple [.str z,.tuple []]) (.tuple [Ue k])=false
   rw[PyData.eqv,PyData.eqvAll,e2,md]
 |k::k2::r=>
  constructor
  ·show PyData.eqv (.tuple (Ue k::Ue k2::r.map Ue)) (.tuple [.str z,.tuple []])=false
   rw[PyData.eqv,PyData.eqvAll,PyData.eqvAll,(Kc k2 []).1,iM,md]
  ·show PyData.eqv (.tuple [.str z,.tuple []]) (.tuple (Ue k::Ue k2::r.map Ue))=false
   rw[PyData.eqv,PyData.eqvAll,PyData.eqvAll,(Kc k2 []).2,iM,md]
theorem ZgF{a:Addr}{x y:RK}(hx:Q3 prog w h x a)(hy:Q3 prog w h y a):x=y:=by
 have wc:∀{ks:List Key}{z:Str},Q3 prog w h (.inl ks) a->Q3 prog w h (.inr z) a->False:=fun {ks z} p q=>by
  obtain⟨⟨o,items,n,ho,hc,hd,hi⟩,_⟩:=p;obtain⟨⟨o2,v,b,n2,pC,sP,uU,_⟩,_⟩:=q;rw[ho] at pC;cases pC;rw[hd] at uU;cases uU;cases hi with
  |cons e r=>
   cases r with
   |@cons k2 v2 ks2 vs2 e2 r2=>
    rcases Yt (show VR k2 (Value.ref b)=true from e2) with⟨_,_,_,z⟩|⟨_,_,_,z⟩<;>cases z
 cases x with
 |inl ks=>
  cases y with
  |inl ls=>rw[hx.1.inj hy.1]
  |inr z=>exact(wc hx hy).elim
 |inr z=>
  cases y with
  |inl ls=>exact(wc hy hx).elim
  |inr z'=>
   have:=hx.1.inj hy.1;have e:(ι z:Key)=ι z':=fS ε this;rw[i8 e]
def Qu(prog:Program)(w:World):RK->Int
 |.inl ks=>tupleKeyHash (ZM prog w) ks
 |.inr z=>Zea (ZM prog w) (ZM prog w) ((ι z:Key),[])
def U5(prog:Program)(w:World):HeapKind prog w RK where
 is:=Q3 prog w
 hash:=Qu prog w
 draws:=fun x=>match x with|.inl ks=>ks.length+1|.inr _=>3
 room:=fun A=>A.units+3<cLine
 inj:=fun hx hy=>ZgF hx hy
 keeps:=fun {h h' k a d o es ep} x ho hd hs=>by
  cases k with
  |inl ks=>exact⟨x.1.keeps ho hd hs,x.2⟩
  |inr z=>exact⟨x.1.keeps ho hd hs,x.2⟩
 pyHash:=fun {A E s k a Q} hu hk h=>by
  cases k with
  |inl ks=>exact wpAny_pyHash_tuple (by lia) hk.1 h
  |inr z=>exact Zcf (by lia) hk.1 h
 eqBool:=fun {A E s x y a b Q} hu hx hy h=>by
  cases x with
  |inl ks=>
   cases y with
   |inl ls=>
    refine wpAny_eqBool_tuple (by lia) hx.1 hy.1 ?_;have e:decide ((μ ks:RK)=μ ls)=decide (ks=ls):=by
     by_cases q:ks=ls
     ·subst q;simp
     ·rw[fV q,fV fun z=>q (iX z)]
    rw[e] at h;exact h
   |inr z=>
    obtain⟨as,r1⟩:=ym hx;obtain⟨bs,r2⟩:=ym hy;refine SeqAt.eqBoolOverData prog w A E s _ _ _ _ as bs Q r1 r2 (JB hx) (JB hy) ?_ ?_
    ·have:(rkD (.inl ks)).depth<=1:=by have:=(Uf hx.2).2;simp only[rkD,PyData.depth];lia
     have:=Nat.min_le_left (rkD (.inl ks)).depth (rkD (.inr z)).depth;lia
    ·rw[(KW ks z).1];rw[fV (by simp)] at h;exact h
  |inr z=>
   cases y with
   |inl ls=>
    obtain⟨as,r1⟩:=ym hx;obtain⟨bs,r2⟩:=ym hy;refine SeqAt.eqBoolOverData prog w A E s _ _ _ _ as bs Q r1 r2 (JB hx) (JB hy) ?_ ?_
    ·have:(rkD (.inl ls)).depth<=1:=by have:=(Uf hy.2).2;simp only[rkD,PyData.depth];lia
     have:=Nat.min_le_right (rkD (.inr z)).depth (rkD (.inl ls)).depth;lia
    ·rw[(KW ls z).2];rw[fV (by simp)] at h;exact h
   |inr z'=>
    refine ZbV (by lia) hx.1 hy.1 ?_;have e:decide ((ι z:RK)=ι z')=decide ((((ι z:Key),[]):Key×List Key)=((ι z':Key),[])):=by
     by_cases q:z=z'
     ·subst q;simp
     ·rw[fV fun e=>q (i8 e),fV fun e=>q (i8 (fS ε e))]
    rw[e] at h;exact h
 quiet:=fun {A E s k a Q} hk h=>by
  cases k with
  |inl ks=>exact wpAny_eqIsQuiet_tuple hk.1 h
  |inr z=>exact Zcl hk.1 h
end
abbrev YE:=List (RK×Addr×V)
abbrev YPr:YE->List (RK×Addr×Value)->Prop:=Paired fun p q=>p.1=q.1/\p.2.1=q.2.1/\Z6 p.2.2 q.2.2
def Zid(Pm:Params)(a:Addr)(es:YE)(h:Heap):Prop:=es.length<=sizeLine/\(a==sysModules)=false/\∃(P:Program) (w:World) (xs:List (RK×Addr×Value)),w.params=Pm/\YPr es xs /\
 ∃o fs ep,h.get? a=some o/\o.ExactDict/\o.data=.dict fs ep/\fs.toList=xs.map (entryOfKey (U5 P w))/\(xs.map (·.1)).Nodup
def DyO(Pm:Params)(a:Addr)(es:YE):HO:=.ext (Zid Pm a es)
theorem Zgc{a:Addr}{es:YE}(x:Zid Pm a es h):Y1 P w H h a (DyO Pm a es):=by
 refine⟨x,?_,?_⟩
 ·obtain⟨_,_,_,_,_,_,_,o,_,_,e,_⟩:=x;exact⟨o,e⟩
 ·rintro h1 h2 ⟨z,y,P',w',xs,hp,r,o,fs,ep,e,c⟩ k;exact⟨z,y,P',w',xs,hp,r,o,fs,ep,k _ e,c⟩
theorem Qn{P':Program}{w':World}(h:w.params=w'.params):entryOfKey (U5 P w)=entryOfKey (U5 P' w'):=by
 have hk:QS w=QS w':=by
  funext k
  cases k with
  |inl i=>rfl
  |inr x=>show hashStr w x=hashStr w' x;unfold hashStr;rw[h]
 have ht:∀ks:List Key,tupleKeyHash (ZM P w) ks=tupleKeyHash (ZM P' w') ks:=fun ks=>by
  unfold tupleKeyHash
  show reduceHash (Builtin.Tuple.tupleHashOf (ks.map (QS w)))=reduceHash (Builtin.Tuple.tupleHashOf (ks.map (QS w')))
  rw[hk]
 funext x
 unfold entryOfKey
 congr 1
 show Qu P w x.1=Qu P' w' x.1
 cases x.1 with
 |inl ks=>exact ht ks
 |inr z=>
  show reduceHash (Builtin.Tuple.tupleHashOf [QS w (ι z),tupleKeyHash (ZM P w) []])=reduceHash (Builtin.Tuple.tupleHashOf [QS w' (ι z),tupleKeyHash (ZM P' w') []])
  rw[hk,ht]
def X2(K:W.Frag)(H:Hp)(b:Addr):RK->Prop
 |.inl ks=>SqT K H b (ks.map kV)/\JU ks
 |.inr z=>(∃e,SqT K H b [.str z,.ref e]/\SqT K H e [])/\PyData.strOk z=true
theorem X2.mono{b:Addr}{x:RK}(s:Yv H H')(h:X2 K H b x):X2 K H' b x:=by
 cases x with
 |inl ks=>exact⟨s _ _ _ h.1,h.2⟩
 |inr z=>obtain⟨⟨e,h1,h2⟩,h3⟩:=h;exact⟨⟨e,s _ _ _ h1,s _ _ _ h2⟩,h3⟩
def ZbP(es:YE)(k:RK):Option V:=XH (es.map fun e=>(e.1,e.2.2)) k
theorem YPr.val{es:YE}{xs:List (RK×Addr×Value)}(r:YPr es xs)(k:RK):Ur (ZbP es k) ((atKey xs k).map (·.2)):=by
 induction r with
 |nil=>exact True.intro
 |@cons p q ps qs h t ih=>
  obtain⟨h1,_,h2⟩:=h;unfold ZbP at ih ⊢;rw[fL]
  by_cases e:p.1=k
  ·have e':q.1=k:=h1.symm.trans e;have b:atKey (q::qs) k=some q.2:=by simp[atKey,i5,e']
   rw[XD e,b];exact h2
  ·have e':¬q.1=k:=fun z=>e (h1.trans z);have b:atKey (q::qs) k=atKey qs k:=by simp[atKey,i5,e']
   rw[XA e,b];exact ih
def Zft(K:W.Frag)(Pm:Params)(H:Hp)(a:Addr)(y:V)(r:Option V):Prop:=∃es k b,H a=some (DyO Pm a es)/\y=.ref b/\X2 K H b k/\(∀e∈es,X2 K H e.2.1 e.1)/\r=ZbP es k
def Zic(K:W.Frag)(Pm:Params)(H:Hp)(a:Addr)(y v:V)(H':Hp):Prop:=∃es k b,H a=some (DyO Pm a es)/\y=.ref b/\X2 K H b k/\(∀e∈es,X2 K H e.2.1 e.1)/\ZbP es k=none/\es.length<sizeLine/\H'=upd H a (DyO Pm a (es++[(k,b,v)]))
section
variable{U:L3.St}{a:Addr}{r:Value}{o:Option V}
theorem xT{x:RK}{b:Addr}(I:L2.Inv X dm U H s)(e:X2 X.K H b x):(U5 X.prog X.w).is s.heap x b:=by
 have tk:∀{ks:List Key}{b:Addr},SqT X.K H b (ks.map kV)->IsTupleKey (ZM X.prog X.w) s.heap ks b:=fun {ks b} e=>by
  obtain⟨its,r,t,_⟩:=I.tuple e;obtain⟨o,h1,h2,n,h3⟩:=t;exact⟨o,its.toArray,n,h1,h2,h3,by simpa using xh r⟩
 cases x with
 |inl ks=>exact⟨tk e.1,e.2⟩
 |inr z=>
  obtain⟨⟨e1,h1,h2⟩,h3⟩:=e;obtain⟨its,r,t,_⟩:=I.tuple h1;obtain⟨o,q1,q2,n,q3⟩:=t;obtain⟨u,v,rfl,ru,rv⟩:=Qr r;obtain rfl:v=Value.ref e1:=rv;obtain⟨Cg,rfl⟩:∃t,u=Value.str z t:=ru;exact⟨⟨o,_,e1,n,q1,q2,q3,xj z Cg,tk (ks:=[]) h2⟩,h3⟩
theorem Zc4{es:YE}(hw:X.w.params=Pm)(I:L2.Inv X dm U H s)(e:H a=some (DyO Pm a es))(hk:∀e∈es,X2 X.K H e.2.1 e.1):es.length<=sizeLine/\(a==sysModules)=false/\∃xs,YPr es xs/\s.heap.DictOfH (U5 X.prog X.w) a xs:=by
 obtain⟨⟨z,y,P,w,xs,hp,r,o,fs,ep,h1,h2,h3,h4,h5⟩,_⟩:=I.hok a _ e;refine⟨z,y,xs,r,o,fs,ep,h1,h2,h3,?_,fun x hx=>?_,h5⟩
 ·rw[h4,Qn (P':=X.prog) (w':=X.w) (hp.trans hw.symm)]
 ·have all:∀{l:YE}{m:List (RK×Addr×Value)},YPr l m->(∀e∈l,X2 X.K H e.2.1 e.1)->∀x∈m,(U5 X.prog X.w).is s.heap x.1 x.2.1:=by
   intro l m q
   induction q with
   |nil=>intro _ x hx;exact nomatch hx
   |@cons p q ps qs hq t ih=>
    intro hk x hx;rcases fU.mp hx with e|hx
    ·subst e;have:=hk p (by simp);rw[hq.1,hq.2.1] at this;exact xT I this
    ·exact ih (fun e he=>hk e (fT _ he)) x hx
  exact all r hk x hx
theorem Zb6(hw:X.w.params=Pm)(hu:A.units+4<cLine)(I:L2.Inv X dm U H s)(g:Zft X.K Pm H a y (some v))(ry:Z6 y u)(h:∀w' s',L2.Inv X dm U H s'->Z6 v w'->Q w' s') :
  wpAny (model X.prog X.w) A (getItem (.ref a) u) Q E s:=by
 obtain⟨es,k,b,e,rfl,eb,hk,l⟩:=g;cases (show u=Value.ref b from ry);obtain⟨z,hd,xs,oP,dd⟩:=Zc4 hw I e hk;obtain⟨w',Aa,rS⟩:=Ur.some_of (v:=v) (o:=(atKey xs k).map (·.2)) (by rw[l];exact oP.val k);obtain⟨p,hp,sU⟩:=mo.mp Aa;refine wpAny_getItem_heap ((by simpa[U5,mQ] using(show A.units+1+3<cLine by lia))) (xT I eb) dd hp ?_;rw[sU];exact h w' _ (I.tok _) rS
theorem Ze8(hw:X.w.params=Pm)(hu:A.units+4<cLine)(I:L2.Inv X dm U H s)(g:Zft X.K Pm H a y o)(ry:Z6 y u)(h:∀s',L2.Inv X dm U H s'->Q (.bool (!o.isSome)) s') :
  wpAny (model X.prog X.w) A (compareOp .NotIn u (.ref a)) Q E s:=by
 obtain⟨es,k,b,e,rfl,eb,hk,l⟩:=g;cases (show u=Value.ref b from ry);obtain⟨z,hd,xs,oP,dd⟩:=Zc4 hw I e hk;refine wpAny_notIn_heap ((by simpa[U5,mQ] using(show A.units+1+3<cLine by lia))) (xT I eb) hd dd ?_;have q:=(oP.val k).isSome_eq;rw[Ζ] at q;rw[<- q,<- l];exact h _ (I.tok _)
theorem Zbz{Q:Unit->Shared->Prop}(hw:X.w.params=Pm)(hu:A.units+4<cLine)(I:L2.Inv X dm U H s)(g:Zic X.K Pm H a y v H')(ry:Z6 y u)(rv:Z6 v r)(h:∀s',L2.Inv X dm U H' s'->Q () s') :
  wpAny (model X.prog X.w) A (setItem (.ref a) u r) Q E s:=by
 obtain⟨es,k,b,e,rfl,eb,hk,hn,hl,rfl⟩:=g;cases (show u=Value.ref b from ry);obtain⟨z,hd,xs,oP,dd⟩:=Zc4 hw I e hk;have hz:xs.length<=sizeLine:=by rw[<- lU oP];exact z
 have Da:atKey xs k=none:=by
  have q:=(oP.val k).isSome_eq;rw[hn,Ζ] at q;cases hh:atKey xs k with
  |none=>rfl
  |some p=>rw[hh] at q;cases q
 refine wpAny_setItem_heap (hsz:=hz) ((by simpa[U5,mQ] using(show A.units+1+3<cLine by lia))) (xT I eb) dd fun h' sR hs=>h _ ?_;rw[storedH_new Da] at sR;obtain⟨q,fs,ep,hq,h2,h3,h4,_,h5⟩:=sR;refine qL (ob:=DyO Pm a (es++[(k,b,v)])) I (by rw[e];exact True.intro) hs ⟨q,hq⟩ (Zgc ⟨by rw[fK,gz];lia,hd,X.prog,X.w,_,hw,Paired.snoc oP ⟨rfl,rfl,rv⟩,q,fs,ep,hq,h2,h3,h4,h5⟩)
end
def ZhF(K:W.Frag)(Pm:Params)(td ty:TE):TE:=fun U H Q=>td U H fun x H1=>ty U H1 fun y H2=>∃a v,x=.ref a/\Zft K Pm H2 a y (some v)/\Q v H2
def Ze5(K:W.Frag)(Pm:Params)(ty td:TE):TE:=fun U H Q=>ty U H fun y H1=>td U H1 fun x H2=>∃a o,x=.ref a/\Zft K Pm H2 a y o/\Q (.bl (!o.isSome)) H2
def Zh2(K:W.Frag)(Pm:Params)(td ty tv:TE):L2.TS:=fun D U H=>tv U H fun v H1=>td U H1 fun x H2=>ty U H2 fun y H3=>∃a H4,x=.ref a/\Zic K Pm H3 a y v H4/\D.nx U H4
def Zhq(Pm:Params):TE:=fun _ H Q=>∀p,H p=none->Q (.ref p) (upd H p (DyO Pm p []))
section
variable{o i ow:Expr}{td ty tv:TE}
theorem ZgS{U:L3.St}{a:Addr}{es:YE}(I:L2.Inv X dm U H s)(e:H a=some (DyO Pm a es)):s.TypeIs (.ref a) "dict" := by
 obtain⟨⟨_,_,_,_,_,_,_,o,_,_,h1,h2,_⟩,_⟩:=I.hok a _ e;exact⟨o,h1,h2.1⟩
theorem Zfq(hK:X.K=K)(hw:X.w.params=Pm)(hu:X.A.units+4<cLine)(ho:PE X o td)(hi:PE X i ty)(hs:Zgp i):PE X (.Subscript o i on) (ZhF K Pm td ty):=by
 subst hK;intro dm s U H Q I h;refine ZaC PySem.F.slot_dict_getitem.lookup hs (thn (ho dm s U H _ I h) fun u s1 ⟨x,H1,I1,rx,q1⟩=>thn (hi dm s1 U H1 _ I1 q1) fun iv s2 ⟨y,H2,I2,ry,a,v,ex,g,q2⟩=>?_);subst ex;obtain rfl:u=Value.ref a:=rx;obtain⟨es,_,_,e,_⟩:=id g;exact⟨ZgS I2 e,Zb6 hw hu I2 g ry fun w' s3 I3 rS=>⟨v,H2,I3,rS,q2⟩⟩
theorem Zbu(hK:X.K=K)(hw:X.w.params=Pm)(hu:X.A.units+4<cLine)(hi:PE X i ty)(ho:PE X o td):PC X .NotIn i o (Ze5 K Pm ty td):=by
 subst hK;intro dm s U H Q I h;refine thn (hi dm s U H _ I h) fun iv s1 ⟨y,H1,I1,ry,q1⟩=>thn (ho dm s1 U H1 _ I1 q1) fun u s2 ⟨x,H2,I2,rx,a,ov,ex,g,q2⟩=>?_;subst ex;obtain rfl:u=Value.ref a:=rx;exact Ze8 hw hu I2 g ry fun s3 I3=>⟨.bl (!ov.isSome),H2,I3,rfl,q2⟩
theorem Zfb(hK:X.K=K)(hw:X.w.params=Pm)(hu:X.A.units+4<cLine)(ho:PE X o td)(hi:PE X i ty)(hv:PE X ow tv)(hs:swapsWith ow (some (.Subscript o i oQ)) on.line X.env=pure false) :
  PS X (.Assign [.Subscript o i oQ] ow on) (Zh2 K Pm td ty tv):=by
 subst hK;intro dm s U H D I h;refine wpAny_Assign_Subscript (thn (hv dm s U H _ I h) fun r s1 ⟨v,H1,I1,rv,q1⟩=>thn (ho dm s1 U H1 _ I1 q1) fun u s2 ⟨x,H2,I2,rx,q2⟩=>thn (hi dm s2 U H2 _ I2 q2) fun iv s3 ⟨y,H3,I3,ry,a,H4,ex,g,q3⟩=>?_) hs;subst ex;obtain rfl:u=Value.ref a:=rx;exact Zbz hw hu I3 g ry rv fun s4 I4=>⟨U,H4,I4,q3⟩
theorem Zfp(hw:X.w.params=Pm):PE X (.Dict [] [] on) (Zhq Pm):=fun dm s U H Q I h=>
 wpAny_Dict_empty ⟨.ref s.heap.objs.size,_,I.laid (a:=s.heap.objs.size) (o:=DyO Pm s.heap.objs.size []) (t':=s.toks) (fun _ _ q=>fZ _ q) (fH _) (Zgc ⟨g9 _,iY.mpr (fX (gb (Inv.big I))),X.prog,X.w,[],hw,.nil,_,#[],0,gB _ rfl,⟨rfl,rfl,rfl⟩,rfl,rfl,List.nodup_nil⟩),rfl,h _ (I.hok.fresh (fH _))⟩
end
def qE:Lb->List Nat->RK
 |.many w,[]=>.inr w
 |c,is=>.inl (XJ c is)
theorem WU(c:Lb)(is:List Nat):(∃w,c=.many w/\is=[]/\qE c is=.inr w)\/(qE c is=.inl (XJ c is)/\∀w,c=.many w->is≠[]):=by
 cases c with
 |many w=>
  cases is with
  |nil=>exact .inl ⟨w,rfl,rfl,rfl⟩
  |cons i r=>exact .inr ⟨rfl,fun _ _ z=>by cases z⟩
 |yes=>exact .inr ⟨rfl,fun _ z=>by cases z⟩
 |sign z=>exact .inr ⟨rfl,fun _ z=>by cases z⟩
 |wit m=>exact .inr ⟨rfl,fun _ z=>by cases z⟩
 |op w=>exact .inr ⟨rfl,fun _ z=>by cases z⟩
theorem ZfB{c':Lb}(h1:Yi c is.length)(h2:Yi c' rq.length)(h:qE c is=qE c' rq):c=c'/\is=rq:=by
 rcases WU c is with⟨w,rfl,rfl,e⟩|⟨e,n⟩
 ·rcases WU c' rq with⟨w',rfl,rfl,e'⟩|⟨e',n'⟩
  ·rw[e,e'] at h;rw[i8 h];exact⟨rfl,rfl⟩
  ·rw[e,e'] at h;cases h
 ·rcases WU c' rq with⟨w',rfl,rfl,e'⟩|⟨e',n'⟩
  ·rw[e,e'] at h;cases h
  ·rw[e,e'] at h;exact ZeJ h1 h2 (iX h)
def WQ(ps:List Tr)(t:Tr)(x:RK):Prop:=∃is:List Nat,is.length=t.ks.length/\(∀(j:Nat) k i,t.ks[j]?=some k->is[j]?=some i->ps[i]?=some k)/\x=qE t.lb is
theorem WQ.more{t x:Tr}{ks:RK}(h:WQ ps t ks):WQ (ps++[x]) t ks:=by
 obtain⟨is,h1,h2,h3⟩:=h;refine⟨is,h1,fun j k i e1 e2=>?_,h3⟩;have:=h2 j k i e1 e2;rw[gv (fP.mp this).1];exact this
theorem Kb{t s:Tr}{ks:RK}(o1:Yi t.lb t.ks.length)(o2:Yi s.lb s.ks.length)(h:WQ ps t ks)(g:WQ ps s ks):t=s:=by
 obtain⟨is,h1,h2,h3⟩:=h;obtain⟨js,g1,g2,g3⟩:=g;obtain⟨e1,e2⟩:=ZfB (by rw[h1];exact o1) (by rw[g1];exact o2) (h3.symm.trans g3);subst e2;rw[Tr.eta t,Tr.eta s,e1]
 congr 1
 apply mO;intro j;have hl:t.ks.length=s.ks.length:=h1.symm.trans g1
 by_cases hj:j<t.ks.length
 ·have Lz:j<is.length:=by rw[h1];exact hj
  have a:=h2 j _ _ (fG hj) (fG Lz);have b:=g2 j _ _ (fG (by rw[<- hl];exact hj)) (fG Lz);rw[fG hj,fG (by rw[<- hl];exact hj)];exact a.symm.trans b
 ·rw[i7 (by lia),i7 (by lia)]
theorem ZcG(nd:ps.Nodup){t:Tr}{ks js:RK}(h:WQ ps t ks)(g:WQ ps t js):ks=js:=by
 obtain⟨is,h1,h2,h3⟩:=h;obtain⟨rq,g1,g2,g3⟩:=g;have e:is=rq:=by
  apply mO;intro j
  by_cases hj:j<t.ks.length
  ·rw[fG (show j<is.length by lia),fG (show j<rq.length by lia)]
   congr 1
   exact zq nd (h2 j _ _ (fG hj) (fG (by lia))) (g2 j _ _ (fG hj) (fG (by lia)))
  ·rw[i7 (by lia),i7 (by lia)]
 rw[h3,g3,e]
def JP:Nat->List RK->List (RK×V)
 |_,[]=>[]
 |n,k::r=>(k,.int (n:Int))::JP (n+1) r
theorem ZaW:∀{n:Nat}{l:List RK}{k:RK},k∉l->XH (JP n l) k=none
 |n,[],k,_=>rfl
 |n,a::r,k,h=>by
  have ha:a≠k:=fun e=>h (by rw[e];simp);have ih:=ZaW (n:=n+1) (l:=r) (k:=k) fun z=>h (fT _ z);unfold XH at ih ⊢;rw[JP,Φ (by simpa using ha)];exact ih
theorem kS:∀{n:Nat}{l:List RK}{k:RK}{i:Nat},l.Nodup->l[i]?=some k->XH (JP n l) k=some (.int ((n+i:Nat):Int))
 |n,[],k,i,_,h=>by simp at h
 |n,a::r,k,0,_,h=>by
  have e:a=k:=by simpa using h
  unfold XH;rw[JP,List.find?_cons_of_pos (by simpa using e)];rfl
 |n,a::r,k,i+1,nd,h=>by
  have hm:r[i]?=some k:=by simpa using h
  have ha:a≠k:=fun e=>(iw.mp nd).1 (by rw[e];exact gk hm);have ih:=kS (n:=n+1) (l:=r) (k:=k) (iw.mp nd).2 hm;unfold XH at ih ⊢;rw[JP,Φ (by simpa using ha),show n+(i+1)=n+1+i by lia];exact ih
theorem QL{rks:List RK}(nd:ps.Nodup)(hl:rks.length=ps.length)(ok:∀t∈ps,Yi t.lb t.ks.length)(hr:∀(i:Nat) t ks,ps[i]?=some t->rks[i]?=some ks->WQ ps t ks) :
  rks.Nodup/\∀{t:Tr}{ks:RK},Yi t.lb t.ks.length->WQ ps t ks->(∀i:Nat,ps[i]?=some t->rks[i]?=some ks)/\(t∉ps->ks∉rks):=by
 have same:∀(i j:Nat) ks,rks[i]?=some ks->rks[j]?=some ks->i=j:=fun i j ks h1 h2=>by
  have hi:=(fP.mp h1).1;have hj:=(fP.mp h2).1;have e1:ps[i]?=some ps[i]:=fG (by lia);have e2:ps[j]?=some ps[j]:=fG (by lia);have e:=Kb (ok _ (gC _)) (ok _ (gC _)) (hr i _ _ e1 h1) (hr j _ _ e2 h2);rw[<- e] at e2;exact zq nd e1 e2
 refine⟨?_,fun {t ks} o1 h=>⟨fun i hi=>?_,fun hn hm=>?_⟩⟩
 ·rw[υ,Α];intro i j hi hj MH e;have:=same i j rks[i] (fG hi) (by rw[e];exact fG hj);lia
 ·have sN:=(fP.mp hi).1;have e1:rks[i]?=some rks[i]:=fG (by lia);rw[ZcG nd h (hr i t _ hi e1)];exact e1
 ·obtain⟨i,hi,e⟩:=gF hm;have e1:ps[i]?=some ps[i]:=fG (by lia);have:=Kb o1 (ok _ (gC _)) h (hr i _ _ e1 (by rw[<- e];exact fG hi));exact hn (by rw[this];exact gC _)
def VQ:Nat->List (RK×Addr)->YE
 |_,[]=>[]
 |n,e::r=>(e.1,e.2,.int (n:Int))::VQ (n+1) r
theorem Ks:∀(n:Nat) (l:List (RK×Addr)),(VQ n l).length=l.length
 |_,[]=>rfl
 |n,k::r=>by rw[VQ,gu,Ks,gu]
theorem kP:∀(n:Nat) (l:List (RK×Addr)) (e:RK×Addr),VQ n (l++[e])=VQ n l++[(e.1,e.2,.int ((n+l.length:Nat):Int))]
 |n,[],e=>rfl
 |n,a::r,e=>by rw[mi,VQ,kP (n+1) r e,VQ,gu,mi,show n+1+r.length=n+(r.length+1) by lia]
theorem Zdq:∀(n:Nat) (l:List (RK×Addr)),(VQ n l).map (fun e=>(e.1,e.2.2))=JP n (l.map (·.1))
 |_,[]=>rfl
 |n,e::r=>by rw[VQ,fL,Zdq,fL,JP]
theorem Jc(rows:List (RK×Addr))(k:RK):ZbP (VQ 0 rows) k=XH (JP 0 (rows.map (·.1))) k:=by unfold ZbP;rw[Zdq]
theorem je:∀{n:Nat}{l:List (RK×Addr)}{e:RK×Addr×V},e∈VQ n l->(e.1,e.2.1)∈l
 |_,[],e,h=>by cases h
 |n,a::r,e,h=>by
  rw[VQ] at h;rcases fU.mp h with rfl|h
  ·simp
  ·exact fT _ (je h)
structure TbY(K:W.Frag)(Pm:Params)(C:Addr)(H:Hp)(r P R D:Addr)(ps:List Tr):Prop where
 obj:∃dx,H r=some (.ins C dx [("parts",.ref P),("rows",.ref R),("numbers",.ref D)])
 pl:∃n pv,H P=some (.lst pv)/\AtL K n H pv ps
 rl:∃rows:List (RK×Addr),H R=some (.lst (rows.map fun e=>.ref e.2))/\rows.length=ps.length/\(∀e∈rows,X2 K H e.2 e.1)/\(∀(i:Nat) t e,ps[i]?=some t->rows[i]?=some e->WQ ps t e.1)/\H D=some (DyO Pm D (VQ 0 rows))
 nd:ps.Nodup
 pr:P≠R
theorem Y5.tY{P R:Addr}{pv rv:List V}{es:YE}(s:Y5 P R D H H')(h1:H P=some (.lst pv))(h2:H R=some (.lst rv))(h3:H D=some (DyO Pm D es)):Yv H H':=fun K b xs h=>by
 have n:∀{o:HO},H b=some o->(∀ys,o≠.lst ys)->(∀φ,o≠.ext φ)->H' b=some o:=fun e q1 q2=>s _ _ (fun z=>by rw[z,h1] at e;cases e;exact q1 _ rfl) (fun z=>by rw[z,h2] at e;cases e;exact q1 _ rfl) (fun z=>by rw[z,h3] at e;cases e;exact q2 _ rfl) e;rcases h with(h|⟨o,h⟩)|h
 ·exact .inl (.inl (n h (fun _ z=>by cases z) (fun _ z=>by cases z)))
 ·exact .inl (.inr ⟨o,n h (fun _ z=>by cases z) (fun _ z=>by cases z)⟩)
 ·exact .inr h
theorem TbY.t{r P R:Addr}(h:TbY K Pm C H r P R D ps)(s:Y5 P R D H H'):Yv H H':=by
 obtain⟨n,pv,h1,_⟩:=h.pl;obtain⟨rows,h2,_,_,_,h3⟩:=h.rl;exact s.tY h1 h2 h3
theorem TbY.mono{C:Addr}{H H':Hp}{r P R D:Addr}{ps:List Tr}(s:Zg H H')(h:TbY K Pm C H r P R D ps):TbY K Pm C H' r P R D ps:=by
 obtain⟨⟨dx,h0⟩,⟨n,pv,h1,h2⟩,⟨rows,g1,g2,g3,g4,g5⟩,nd,pr⟩:=h;exact⟨⟨dx,s _ _ h0⟩,⟨n,pv,s _ _ h1,h2.mono (nT s)⟩,⟨rows,s _ _ g1,g2,fun e he=>(g3 e he).mono (nT s),g4,s _ _ g5⟩,nd,pr⟩
theorem TbY.monoX{r P R F:Addr}(s:ZB F H H')(hF:H F=some (.lst xs))(n1:P≠F)(n2:R≠F)(h:TbY K Pm C H r P R D ps):TbY K Pm C H' r P R D ps:=by
 obtain⟨⟨dx,h0⟩,⟨n,pv,h1,h2⟩,⟨rows,g1,g2,g3,g4,g5⟩,nd,pr⟩:=h;have u:Yv H H':=ZB.tup s hF;exact⟨⟨dx,s _ _ (Y0 h0 hF (by intro z;cases z)) h0⟩,⟨n,pv,s _ _ n1 h1,h2.mono u⟩,⟨rows,s _ _ n2 g1,g2,fun e he=>(g3 e he).mono u,g4,s _ _ (Y0 g5 hF (by intro z;cases z)) g5⟩,nd,pr⟩
theorem Y8.units4{k:Nat}(r:Y8 k A):A.units+4<cLine:=by have:=r.un;lia
theorem xQ{xs:List α}{p:Nat}(p1:1<=p)(hp:p<=xs.length):atI xs (-(p:Int))=some (xs[xs.length-p]'(by lia)):=by
 unfold atI ixN;rw[oo (by lia),oq (by lia)]
 show xs[_]?=_
 have e:(-(p:Int)+(xs.length:Nat)).toNat=xs.length-p:=by lia
 rw[e];exact fG (by lia)
theorem ZdF(xs:List V){p:Nat}(p1:1<=p)(hp:p<=xs.length):Xc xs (some (-(p:Int))) none=xs.drop (xs.length-p):=by
 unfold Xc;have e:HT.sIx xs.length 0 (some (-(p:Int)))=xs.length-p:=by
  show(if(-(p:Int))<0 then(-(p:Int)+(xs.length:Nat)).toNat else min (-(p:Int)).toNat xs.length)=_
  rw[oq (by lia)];lia
 rw[e,HT.sIx_none];exact iB (by rw[gQ];lia)
theorem UC{a:Addr}{Q:VK}(l:List α)(φ:α->V)(f:α->V)(hD:H0 D=none)(hq:SqT K H0 a (l.map φ))(hz:l.length<=sizeLine)
  (step:∀x∈l,∀H (N:V->Hp->Prop),Zg H0 H->(∀H4,Zg H H4->N (f x) H4)->te (some (φ x)::τ) H N)
  (oy:∀H',H' D=some (.lst (l.map f))->Zg H0 H'->Q (.ref D) H'):U9 (Itt K a) D (V4 0) zx te (none::τ) H0 Q:=by
 refine vX l φ (fun _=>true) f hD hz (fun i H hi s=>⟨_,φ l[i],Zg.seqT s hq,by rw[fO,fG hi];rfl⟩) (fun H s=>⟨_,Zg.seqT s hq,by rw[fF];exact fH _⟩) (fun i x H H2 hi s tR=>?_) (fun x hx H N N0 s h1 _=>qh (step x hx H N s fun H4 s4=>h1 H4 s4 rfl)) (fun H' h s=>oy H' (by rw[h,π.mpr (fun _ _=>rfl)]) s);obtain⟨rfl,hx⟩:=tR;have e:=hx _ (Zg.seqT s hq);rw[fO,fG hi] at e;exact⟨rfl,(fW e).symm⟩
def Ord(F:List Tr):Prop:=∀(j:Nat) t,F[j]?=some t->∀k∈Y4 t,∃i:Nat,i<j/\F[i]?=some k
theorem Ord.add{F:List Tr}{t:Tr}(h:Ord F)(hk:∀k∈Y4 t,k∈F):Ord (YN F t):=by
 by_cases c:t∈F
 ·rw[Vn c];exact h
 ·rw[Ui c];intro j u e k hu
  by_cases cj:j<F.length
  ·rw[gv cj] at e;obtain⟨i,hi,ei⟩:=h j u e k hu;exact⟨i,hi,by rw[gv (by lia)];exact ei⟩
  ·have hj:=(fP.mp e).1;rw[fK,gz] at hj;rw[gx (by lia),show j-F.length=0 by lia] at e;cases e;obtain⟨i,hi,ei⟩:=gF (hk k hu);exact⟨i,by lia,by rw[gv hi,fG hi,ei]⟩
def PB(F:List Tr):List Tr->Prop
 |[]=>True
 |t::r=>(∀k∈Y4 t,k∈F)/\PB (F++[t]) r
theorem PB.more{F G:List Tr}(s:∀x∈F,x∈G):∀{L:List Tr},PB F L->PB G L
 |[],_=>trivial
 |t::r,h=>⟨fun k hk=>s k (h.1 k hk),PB.more (F:=F++[t]) (G:=G++[t]) (fun x hx=>by
   rcases gj.mp hx with q|q
   ·exact gj.mpr (.inl (s x q))
   ·exact gj.mpr (.inr q)) h.2⟩
theorem PB.app:∀{L M F:List Tr},PB F L->PB (F++L) M->PB F (L++M)
 |[],M,F,_,h=>by rw[iu] at h;exact h
 |t::r,M,F,h,g=>⟨h.1,PB.app h.2 (by rw[lK];exact g)⟩
theorem PB.flat:∀{Ls:List (List Tr)}{F:List Tr},(∀L∈Ls,PB [] L)->PB F Ls.flatten
 |[],F,_=>trivial
 |L::r,F,h=>by
  rw[List.flatten_cons];exact PB.app ((h L iL).more fun x hx=>by cases hx) (PB.flat fun M hM=>h M (fT _ hM))
theorem J9:∀(n:Nat) (t:Tr),psz t<=n->PB [] (ZN t)
 |0,t,h=>by have:=Xw t;lia
 |n+1,t,h=>by
  rw[W5];refine PB.app (PB.flat fun L hL=>?_) ⟨fun k hk=>?_,trivial⟩
  ·obtain⟨k,hk,rfl⟩:=fM.mp hL;exact J9 n k (by have:=Xg (XF hk);lia)
  ·rw[mh];exact iT.mpr ⟨ZN k,fM.mpr ⟨k,hk,rfl⟩,vR k⟩
theorem Zbh:∀{L F A:List Tr},PB F L->(∀x∈F,x∈A)->Ord A->Ord (Zs A L)
 |[],F,A,_,_,o=>o
 |t::r,F,A,h,s,o=>by
  rw[YO];refine Zbh h.2 (fun x hx=>?_) (o.add fun k hk=>s k (h.1 k hk));rcases gj.mp hx with q|q
  ·exact qo.mpr (.inl (s x q))
  ·exact qo.mpr (.inr (gn.mp q))
theorem ZdN(t:Tr):Ord (Zs [] (ZN t)):=Zbh (J9 _ t (fH _)) (fun x hx=>by cases hx) fun j u h=>by simp at h
theorem ZbE(t:Tr):∃ts,Zs [] (ZN t)=ts++[t]:=by
 have e:ZN t=((Y4 t).map ZN).flatten++[t]:=W5 t;rw[e,YT]
 show ∃ts,YN (Zs [] ((Y4 t).map ZN).flatten) t=ts++[t]
 refine⟨_,Ui fun m=>?_⟩;rcases ZW.mp m with q|q
 ·cases q
 ·obtain⟨L,hL,hq⟩:=iT.mp q;obtain⟨k,hk,rfl⟩:=fM.mp hL;have h1:=kB _ (fH _) hq;have h2:=Xg (XF hk);lia
def qb(way ring:List Int)(k:Nat):Int:=if k<way.length then way.getD k 0 else ring.getD ((k-way.length)%ring.length) 0
theorem ZeX{k:Nat}(h:k<(way++ring).length):(way++ring)[k]=qb way ring k:=by
 rw[fK] at h;unfold qb
 by_cases c:k<way.length
 ·rw[oq c,Ι c,ii,fG c];rfl
 ·rw[oo c,Β (by lia),Nat.mod_eq_of_lt (by lia),ii,fG (by lia)];rfl
theorem Zbo(hr:ring≠[]){k:Nat}(h:(way++ring).length<=k):qb way ring k=qb way ring (k-ring.length):=by
 rw[fK] at h;have l0:0<ring.length:=ψ fun e=>hr (nE e);unfold qb;rw[oo (by lia),oo (by lia)]
 congr 1
 have e:k-way.length=(k-ring.length-way.length)+ring.length:=by lia
 rw[e,Nat.add_mod_right]
def xE(t:Tr):Bool:=match t.lb with
 |.yes=>true
 |.sign _=>true
 |.op w=>decide (w = "some")
 |_=>false
noncomputable def Ww(d:WD)(st:Tr->List Int)(t:Tr)(r:Int):Bool:=match t.lb with
 |.yes=>true
 |.sign z=>decide (z∈QA d r)
 |_=>decide (r∈st t)
noncomputable def zm(at_:Nat->Bool)(c:Lb)(gs:List (Nat->Bool)):Nat->Bool:=
 let g:=gs.getD 0 (fun _=>false)
 let h:=gs.getD 1 (fun _=>false)
 match c with
 |.yes=>at_
 |.sign _=>at_
 |.op w=>if w = "some" then at_ else if w = "not" then(fun k=>!g k) else if w = "next" then(fun k=>g (k+1)) else if w = "before" then Zbq g else if w = "until" then X4 g h else XT g h
 |_=>fun k=>g k&&h k
noncomputable def K5(d:WD)(st:Tr->List Int)(rm:Nat->Int)(c:Lb)(ps:List (Tr×(Nat->Bool))):Tr×(Nat->Bool):=(.node c (ps.map ε),zm (fun k=>Ww d st (.node c (ps.map ε)) (rm k)) c (ps.map ζ))
noncomputable def Yw(d:WD)(st:Tr->List Int)(rm:Nat->Int)(t:Tr):Nat->Bool:=(YL (K5 d st rm) t).2
theorem K0(d:WD)(st:Tr->List Int)(rm:Nat->Int):∀(n:Nat) (t:Tr),psz t<=n->(YL (K5 d st rm) t).1=t
 |0,t,h=>by have:=Xw t;lia
 |n+1,t,h=>by
  rw[W0]
  show Tr.node t.lb _=t
  have e:(t.ks.map (YL (K5 d st rm))).map ε=t.ks:=by
   rw[fR];have:t.ks.map (ε∘YL (K5 d st rm))=t.ks.map id:=iz fun k hk=>K0 d st rm n k (by have:=Xg hk;lia);rw[this,lT]
  rw[e];exact(Tr.eta t).symm
theorem U1(d:WD)(st:Tr->List Int)(rm:Nat->Int)(t:Tr):Yw d st rm t=zm (fun k=>Ww d st t (rm k)) t.lb (t.ks.map (Yw d st rm)):=by
 unfold Yw;rw[W0]
 show zm (fun k=>Ww d st (.node t.lb ((t.ks.map (YL (K5 d st rm))).map ε)) (rm k)) t.lb ((t.ks.map (YL (K5 d st rm))).map ζ)=_
 have e:(t.ks.map (YL (K5 d st rm))).map ε=t.ks:=by
  rw[fR];have:t.ks.map (ε∘YL (K5 d st rm))=t.ks.map id:=iz fun k hk=>K0 d st rm _ k (fH _);rw[this,lT]
 rw[e,<- Tr.eta t,fR];rfl
theorem Jd{st:Tr->List Int}{rm:Nat->Int}{t:Tr}(h:xE t=true):Yw d st rm t=fun k=>Ww d st t (rm k):=by
 rw[U1];unfold xE at h;cases e:t.lb with
 |yes=>rfl
 |sign z=>rfl
 |op w=>
  rw[e] at h;unfold zm;exact oq (ge h)
 |wit m=>rw[e] at h;cases h
 |many w=>rw[e] at h;cases h
theorem VU{ks:List Tr}(h:ks.length=1):∃a,ks=[a]:=by
 cases ks with
 |nil=>cases h
 |cons a r=>cases r with
  |nil=>exact⟨a,rfl⟩
  |cons b s=>simp at h
theorem qi{ks:List Tr}(h:ks.length=2):∃a b,ks=[a,b]:=by
 cases ks with
 |nil=>cases h
 |cons a r=>cases r with
  |nil=>simp at h
  |cons b s=>cases s with
   |nil=>exact⟨a,b,rfl⟩
   |cons c u=>simp at h
theorem ZgR:∀w∈W6,w ≠ "some" -> w∈W1->w = "not" \/ w = "next" \/ w = "before" := by left
theorem Zhe:∀w∈W6,w ≠ "some" -> w∈W2->w = "until" \/ w = "since" := by left
theorem Ux{t:Tr}(hc:isC t=true)(ok:Yi t.lb t.ks.length)(h:xE t=false) :
  (∃w a,t=.node (.op w) [a]/\(w = "not" \/ w = "next" \/ w = "before"))\/(∃w a b,t=.node (.op w) [a,b]/\(w = "until" \/ w = "since"))\/∃a b,t=.node (.many "and") [a,b]:=by
 obtain⟨c,ks⟩:=t;rw[Vc] at hc;unfold yP at hc;rw[gM] at hc;obtain⟨_,hc⟩:=hc;unfold xE at h;cases c with
 |yes=>cases h
 |sign z=>cases h
 |op w=>
  have w6:=ge hc;have ns:w ≠ "some" := mX h;rcases ok with⟨ok,l⟩|⟨ok,l⟩
  ·obtain⟨a,rfl⟩:=VU l;exact .inl ⟨w,a,rfl,ZgR w w6 ns ok⟩
  ·obtain⟨a,b,rfl⟩:=qi l;exact .inr (.inl ⟨w,a,b,rfl,Zhe w w6 ns ok⟩)
 |wit m=>cases hc
 |many w=>
  change (decide (w = "and")&&decide ((ks.map isC).length=2))=true at hc
  rw[gM] at hc;have e1:=ge hc.1;have e2:=ge hc.2;rw[fF] at e2;obtain⟨a,b,rfl⟩:=qi e2;subst e1;exact .inr (.inr ⟨a,b,rfl⟩)
theorem qk(at_:Nat->Bool)(w:Str)(gs:List (Nat->Bool)):zm at_ (.op w) gs=if w = "some" then at_ else if w = "not" then(fun k=>!gs.getD 0 (fun _=>false) k) else if w = "next" then(fun k=>gs.getD 0 (fun _=>false) (k+1)) else if w = "before" then Zbq (gs.getD 0 fun _=>false) else if w = "until" then X4 (gs.getD 0 fun _=>false) (gs.getD 1 fun _=>false) else XT (gs.getD 0 fun _=>false) (gs.getD 1 fun _=>false):=rfl
section
variable{st:Tr->List Int}{rm:Nat->Int}
theorem XV(a:Tr):Yw d st rm (.node (.op "not") [a])=fun k=>!Yw d st rm a k:=by
 rw[U1]
 show zm _ (.op _) _=_
 rw[qk];rw[oo (by left),oq rfl];rfl
theorem vb(a:Tr):Yw d st rm (.node (.op "next") [a])=fun k=>Yw d st rm a (k+1):=by
 rw[U1]
 show zm _ (.op _) _=_
 rw[qk];rw[oo (by left),oo (by left),oq rfl];rfl
theorem jx(a:Tr):Yw d st rm (.node (.op "before") [a])=Zbq (Yw d st rm a):=by
 rw[U1]
 show zm _ (.op _) _=_
 rw[qk];rw[oo (by left),oo (by left),oo (by left),oq rfl];rfl
theorem qQ(a b:Tr):Yw d st rm (.node (.op "until") [a,b])=X4 (Yw d st rm a) (Yw d st rm b):=by
 rw[U1]
 show zm _ (.op _) _=_
 rw[qk];rw[oo (by left),oo (by left),oo (by left),oo (by left),oq rfl];rfl
theorem qM(a b:Tr):Yw d st rm (.node (.op "since") [a,b])=XT (Yw d st rm a) (Yw d st rm b):=by
 rw[U1]
 show zm _ (.op _) _=_
 rw[qk];rw[oo (by left),oo (by left),oo (by left),oo (by left),oo (by left)];rfl
theorem yp(a b:Tr):Yw d st rm (.node (.many "and") [a,b])=fun k=>Yw d st rm a k&&Yw d st rm b k:=by
 rw[U1];rfl
theorem Zaq{t:Tr}(h:xE t=true)(hr:ring≠[]):ZS ring.length ((way++ring).map (Ww d st t)) (Yw d st (qb way ring) t):=by
 have l0:0<ring.length:=ψ fun e=>hr (nE e);rw[Jd h];refine .of l0 (fF _) (by rw[fK];lia) (fun k hk=>?_) (fun k hk=>by rw[Zbo hr hk]);rw[fO,fG hk,ZeX hk];rfl
end
section
open Classical
def Qz:Nat->(Nat->Bool)->(Nat->Bool)->Nat->Bool
 |0,_,s=>s
 |n+1,f,s=>fun k=>s k||(f k&&Qz n f s (k+1))
def tt1:Nat->Bool:=fun _=>true
noncomputable def mF(at_:Nat->Bool)(c:Lb)(gs:List (Nat->Bool)):Nat->Bool:=
 let g:=gs.getD 0 tt1
 let h:=gs.getD 1 tt1
 match c with
 |.yes=>tt1
 |.sign _=>at_
 |.many w=>if w = "and" then fun k=>gs.all (· k) else fun k=>gs.any (· k)
 |.wit n=>Qz n.toNat g h
 |.op w=>if w = "ever" then X4 tt1 g else if w = "always" then(fun k=>!X4 tt1 (fun j=>!g j) k) else if w = "once" then XT tt1 g else if w = "sofar" then(fun k=>!XT tt1 (fun j=>!g j) k)
  else if w = "not" then(fun k=>!g k) else if w = "next" then(fun k=>g (k+1)) else if w = "before" then Zbq g else if w = "until" then X4 g h else XT g h
section
variable{d:WD}{st:Tr->List Int}{rm:Nat->Int}
theorem xp:Yw d st rm ZA=tt1:=by
 rw[Jd (t:=ZA) rfl];rfl
theorem Zf1:∀l:List Tr,Yw d st rm (Wz l)=fun k=>(l.map (Yw d st rm)).all (· k)
 |[]=>by show Yw d st rm ZA=_;rw[xp];rfl
 |[x]=>by show Yw d st rm x=_;funext k;simp
 |x::y::r=>by
  show Yw d st rm (.node (.many "and") [x,Wz (y::r)])=_
  rw[yp,Zf1 (y::r)]
  funext k
  simp
theorem Zh3:∀l:List Tr,Yw d st rm (orT l)=fun k=>(l.map (Yw d st rm)).any (· k)
 |[]=>by
  show Yw d st rm (.node (.op "not") [ZA])=_
  rw[XV,xp];rfl
 |[x]=>by show Yw d st rm x=_;funext k;simp
 |x::y::r=>by
  show Yw d st rm (.node (.op "not") [.node (.many "and") [.node (.op "not") [x],.node (.op "not") [orT (y::r)]]])=_
  rw[XV,yp,XV,XV,Zh3 (y::r)]
  funext k
  simp
theorem Qk(f s:Tr):∀n,Yw d st rm (Yb n f s)=Qz n (Yw d st rm f) (Yw d st rm s)
 |0=>rfl
 |n+1=>by
  show Yw d st rm (.node (.op "not") [.node (.many "and") [.node (.op "not") [s],.node (.op "not") [.node (.many "and") [f,.node (.op "next") [Yb n f s]]]]])=_
  rw[XV,yp,XV,XV,yp,vb,Qk f s n]
  funext k
  simp[Qz]
noncomputable def mT(d:WD)(st:Tr->List Int)(rm:Nat->Int)(t:Tr):Nat->Bool:=Yw d st rm (Z8 t)
theorem Za7(ks:List Tr)(i:Nat):Yw d st rm ((ks.map Z8).getD i ZA)=(ks.map (mT d st rm)).getD i tt1:=by
 rw[ii,ii,fO,fO];cases ks[i]? with
 |none=>exact xp
 |some x=>rfl
theorem V8{ks:List Tr}(ok:Yi c ks.length)(q:¬quL c):mT d st rm (.node c ks)=mF (fun k=>Ww d st (.node c []) (rm k)) c (ks.map (mT d st rm)):=by
 unfold mT;rw[qx]
 show Yw d st rm (YW c (ks.map Z8))=_
 cases c with
 |yes=>exact xp
 |sign z=>exact Jd (t:=.node (.sign z) []) rfl
 |many w=>
  unfold YW mF;dsimp only
  split
  ·rw[Zf1,fR];rfl
  ·rw[Zh3,fR];rfl
 |wit n=>
  unfold YW mF;dsimp only;rw[Qk,Za7,Za7];rfl
 |op w=>
  have h1:w ≠ "all" := fun z=>q (.inl (by rw[z];rfl));have h2:w ≠ "some" := fun z=>q (.inr (by rw[z];rfl));have g0:=Za7 (d:=d) (st:=st) (rm:=rm) ks 0;have g1:=Za7 (d:=d) (st:=st) (rm:=rm) ks 1;unfold YW mF;dsimp only;rw[oo h1];generalize he:(ks.map (mT d st rm))=gs at g0 g1;have Fb:ks.map (fun t=>Yw d st rm (Z8 t))=gs:=he;rw[Fb]
  by_cases c1:w = "ever"
  ·rw[oq c1,oq c1]
   show Yw d st rm (.node (.op "until") [ZA,_])=_
   rw[qQ,xp,g0]
  rw[oo c1,oo c1]
  by_cases c2:w = "always"
  ·rw[oq c2,oq c2]
   show Yw d st rm (.node (.op "not") [.node (.op "until") [ZA,.node (.op "not") [_]]])=_
   rw[XV,qQ,xp,XV,g0]
  rw[oo c2,oo c2]
  by_cases c3:w = "once"
  ·rw[oq c3,oq c3]
   show Yw d st rm (.node (.op "since") [ZA,_])=_
   rw[qM,xp,g0]
  rw[oo c3,oo c3]
  by_cases c4:w = "sofar"
  ·rw[oq c4,oq c4]
   show Yw d st rm (.node (.op "not") [.node (.op "since") [ZA,.node (.op "not") [_]]])=_
   rw[XV,qM,xp,XV,g0]
  rw[oo c4,oo c4];rcases ok with⟨hw,hl⟩|⟨hw,hl⟩
  ·obtain⟨x,rfl⟩:=VU hl;have e0:gs.getD 0 tt1=Yw d st rm (Z8 x):=by rw[<- g0];rfl
   rw[e0];simp only[W1,fU,gN,gO] at hw;rcases hw with rfl|rfl|rfl|rfl|rfl|rfl|rfl|rfl|rfl<;>first|exact ot rfl h1|exact ot rfl h2|exact ot rfl c1|exact ot rfl c2|exact ot rfl c3|exact ot rfl c4|(show Yw d st rm (.node (.op _) [Z8 x])=_;first|(rw[XV,oq rfl])|(rw[vb,oo (by left),oq rfl])|(rw[jx,oo (by left),oo (by left),oq rfl]))
  ·obtain⟨x,y,rfl⟩:=qi hl;have e0:gs.getD 0 tt1=Yw d st rm (Z8 x):=by rw[<- g0];rfl
   have e1:gs.getD 1 tt1=Yw d st rm (Z8 y):=by rw[<- g1];rfl
   rw[e0,e1];simp only[W2,fU,gN,gO] at hw;rcases hw with rfl|rfl<;>(show Yw d st rm (.node (.op _) [Z8 x,Z8 y])=_)<;>rw[oo (by left),oo (by left),oo (by left)]
   ·rw[qQ,oq rfl]
   ·rw[qM,oo (by left)]
theorem J6{w:Str}{x:Tr}(h:w∈W1):Yi (.op w) [x].length:=Or.inl ⟨h,rfl⟩
theorem Zc2{w:Str}{ks:List Tr}(h:w = "and" \/ w = "or")(l:ks.length<=8):Yi (.many w) ks.length:=And.intro h l
theorem ZaR:mT d st rm ZA=tt1:=V8 (c:=.yes) (ks:=[]) rfl (quN (w := "yes") (by left) _ rfl)
theorem Zd0(x:Tr):mT d st rm (ZY x)=fun k=>!mT d st rm x k:=by
 show mT d st rm (.node (.op "not") [x])=_
 rw[V8 (J6 (by left)) (qop (by left))];unfold mF;dsimp only;rw[oo (by left),oo (by left),oo (by left),oo (by left),oq rfl];rfl
theorem Zgz:mT d st rm nNo=fun _=>false:=by
 rw[show nNo=ZY ZA from rfl,Zd0,ZaR];rfl
theorem Zef(f:Nat->Bool)(b:Bool):X4 f (fun _=>b)=fun _=>b:=by
 funext k
 cases b with
 |true=>exact fQ ⟨0,rfl,fun i hi=>ot hi (Χ i)⟩
 |false=>exact fV fun⟨_,h,_⟩=>by cases h
theorem ZdJ(f:Nat->Bool)(b:Bool):XT f (fun _=>b)=fun _=>b:=by
 funext k
 cases b with
 |true=>cases k<;>simp[XT]
 |false=>
  induction k with
  |zero=>simp[XT]
  |succ k ih=>simp[XT,ih]
theorem Zgd(f:Nat->Bool)(b:Bool):∀n,Qz n f (fun _=>b)=fun _=>b
 |0=>rfl
 |n+1=>by
  funext k
  show(b||(f k&&Qz n f (fun _=>b) (k+1)))=b
  rw[Zgd f b n];cases b<;>simp
noncomputable def evB(f:Nat->Bool):Nat->Bool:=X4 tt1 f
noncomputable def alB(f:Nat->Bool):Nat->Bool:=fun k=>!X4 tt1 (fun j=>!f j) k
theorem V9{k:Nat}:evB f k=true↔∃j,f (k+j)=true:=by
 unfold evB X4;rw[hU];exact⟨fun⟨j,h,_⟩=>⟨j,h⟩,fun⟨j,h⟩=>⟨j,h,fun _ _=>rfl⟩⟩
theorem UM{k:Nat}:alB f k=true↔∀j,f (k+j)=true:=by
 have e:=V9 (f:=fun j=>!f j) (k:=k);unfold alB;constructor
 ·intro h j;cases hj:f (k+j) with
  |true=>rfl
  |false=>
   have:=e.mpr ⟨j,by simp[hj]⟩;unfold evB at this;rw[this] at h;cases h
 ·intro h;cases hu:X4 tt1 (fun j=>!f j) k with
  |false=>rfl
  |true=>
   obtain⟨j,hj⟩:=e.mp hu;rw[h j] at hj;cases hj
theorem ZaB{g:Nat->Bool}(h:∀k,f k=true↔g k=true):f=g:=by
 funext k
 have:=h k;cases hf:f k<;>cases hg:g k<;>simp_all
theorem Zhx(f:Nat->Bool):alB (alB f)=alB f:=ZaB fun k=>by
 rw[UM,UM];constructor
 ·intro h j;have:=UM.mp (h 0) j;simpa using this
 ·intro h j;rw[UM];intro i;rw[Nat.add_assoc];exact h _
theorem ZhD(f:Nat->Bool):evB (evB f)=evB f:=ZaB fun k=>by
 rw[V9,V9];constructor
 ·rintro⟨j,h⟩;obtain⟨i,h⟩:=V9.mp h;exact⟨j+i,by rw[<- Nat.add_assoc];exact h⟩
 ·rintro⟨j,h⟩;exact⟨j,V9.mpr ⟨0,h⟩⟩
theorem Zd1(f:Nat->Bool):alB (evB (alB f))=evB (alB f):=ZaB fun k=>by
 rw[UM];constructor
 ·intro h;have:=h 0;simpa using this
 ·intro h j;obtain⟨i,h⟩:=V9.mp h;rw[V9];refine⟨i,UM.mpr fun n=>?_⟩;have:=UM.mp h (j+n);rw[show k+j+i+n=k+i+(j+n) by lia];exact this
theorem Zen(f:Nat->Bool):evB (alB (evB f))=alB (evB f):=ZaB fun k=>by
 rw[V9];constructor
 ·rintro⟨j,h⟩;rw[UM];intro i;obtain⟨n,h⟩:=V9.mp (UM.mp h i);rw[V9];exact⟨j+n,by rw[show k+i+(j+n)=k+j+i+n by lia];exact h⟩
 ·intro h;exact⟨0,h⟩
theorem jb(x:Tr):mT d st rm (.node (.op "ever") [x])=evB (mT d st rm x):=by
 rw[V8 (J6 (by left)) (qop (by left))];unfold mF;dsimp only;rw[oq rfl];rfl
theorem qe(x:Tr):mT d st rm (.node (.op "always") [x])=alB (mT d st rm x):=by
 rw[V8 (J6 (by left)) (qop (by left))];unfold mF;dsimp only;rw[oo (by left),oq rfl];rfl
theorem ZcW{w:Str}{ks:List Tr}(hw:w = "and" \/ w = "or")(l8:ks.length<=8)(k:Nat):mT d st rm (.node (.many w) ks) k=if w = "and" then(ks.map (mT d st rm)).all (· k) else(ks.map (mT d st rm)).any (· k):=by
 rw[V8 (Zc2 hw l8) (qmy (by rcases hw with rfl|rfl<;>left))];unfold mF;dsimp only
 split<;>rfl
theorem Zeh{w:Str}{s:Tr}(ok:Yi s.lb s.ks.length)(h:wdT s=w)(hw:w = "always" \/ w = "ever"):∃x,s=.node (.op w) [x]:=by
 obtain⟨c,ks⟩:=s;have h':Zu c=w:=h;have rO:Yi c ks.length:=ok;cases c with
 |yes=>exact ot h' (by rcases hw with rfl|rfl;exact(show("yes" : Str) ≠ "always" by left);exact(show("yes" : Str) ≠ "ever" by left))
 |sign z=>exact ot h' (by rcases hw with rfl|rfl;exact(show("sign" : Str) ≠ "always" by left);exact(show("sign" : Str) ≠ "ever" by left))
 |wit m=>exact ot h' (by rcases hw with rfl|rfl;exact(show("within" : Str) ≠ "always" by left);exact(show("within" : Str) ≠ "ever" by left))
 |many v=>
  have hv:v=w:=h';subst hv;rcases rO.1 with z|z<;>rw[z] at hw<;>exact ot hw (by left)
 |op v=>
  have hv:v=w:=h';subst hv;rcases rO with⟨_,l⟩|⟨z,_⟩
  ·obtain⟨x,rfl⟩:=VU l;exact⟨x,rfl⟩
  ·rcases hw with rfl|rfl<;>exact ot z (by left)
theorem Zcr{w:Str}{ks:List Tr}(hw:w = "and" \/ w = "or")(l8:ks.length<=8)(hi:∀k,mT d st rm idle k=decide (w = "and"))(hs:∀k,mT d st rm strong k = !decide (w = "and")):mT d st rm (Xq w idle strong ks)=mT d st rm (.node (.many w) ks):=by
 have sY:∀(l:List Tr) (k:Nat),(if w = "and" then(l.map (mT d st rm)).all (· k) else(l.map (mT d st rm)).any (· k))=if w = "and" then decide (∀x∈l,mT d st rm x k=true) else decide (∃x∈l,mT d st rm x k=true):=fun l k=>by
  split
  ·rw[ic,ie,hU];simp
  ·rw[ic,l4,hU];simp only[fM];exact⟨fun⟨_,⟨a,ha,e⟩,h⟩=>⟨a,ha,by rw[e];exact h⟩,fun⟨a,ha,h⟩=>⟨_,⟨a,ha,rfl⟩,h⟩⟩
 funext k
 rw[ZcW hw l8,sY];rcases Wd w idle strong ks with⟨hm,z⟩|⟨hn,few,ef,hf⟩
 ·rw[z,hs]
  by_cases c:w = "and"
  ·rw[oq c,fQ c];refine(fV fun h=>?_).symm;have:=h _ hm;rw[hs,fQ c] at this;cases this
  ·rw[oo c,fV c];exact(fQ ⟨_,hm,by rw[hs,fV c];rfl⟩).symm
 ·have mem:∀x,x∈few↔x∈ks/\x≠idle:=fun x=>by
   rw[ef];constructor
   ·exact UO
   ·intro⟨h1,h2⟩;exact ZW.mpr (.inr (iC.mpr ⟨h1,fQ h2⟩))
  have AG:(if w = "and" then decide (∀x∈ks,mT d st rm x k=true) else decide (∃x∈ks,mT d st rm x k=true))=if w = "and" then decide (∀x∈few,mT d st rm x k=true) else decide (∃x∈few,mT d st rm x k=true):=by
   by_cases c:w = "and"
   ·rw[oq c,oq c,ic,hU,hU];constructor
    ·exact fun h x hx=>h x ((mem x).mp hx).1
    ·intro h x hx
     by_cases e:x=idle
     ·rw[e,hi,fQ c]
     ·exact h x ((mem x).mpr ⟨hx,e⟩)
   ·rw[oo c,oo c,ic,hU,hU];constructor
    ·rintro⟨x,hx,h⟩;refine⟨x,(mem x).mpr ⟨hx,fun e=>?_⟩,h⟩;rw[e,hi,fV c] at h;cases h
    ·exact fun⟨x,hx,h⟩=>⟨x,((mem x).mp hx).1,h⟩
  rw[AG];rcases hf with⟨e,z⟩|⟨y,e,z⟩|⟨h2,z⟩
  ·rw[z,hi,e]
   by_cases c:w = "and"
   ·rw[oq c,fQ c];exact(fQ fun x hx=>by cases hx).symm
   ·rw[oo c,fV c];exact(fV fun⟨x,hx,_⟩=>by cases hx).symm
  ·rw[z,e]
   by_cases c:w = "and"
   ·rw[oq c,ic,hU];simp
   ·rw[oo c,ic,hU];simp
  ·have lf:few.length<=8:=by
    have h1:=Vz (l₁:=few) (l₂:=ks) (by rw[ef];exact Xf (by simp)) fun x hx=>((mem x).mp hx).1;lia
   rw[z,ZcW hw lf,sY]
theorem Zda{ks:List Tr}(ok:Yi c ks.length)(hc:Zu c∈SW)(hl:ks.getLastD ZA=ZA\/ks.getLastD ZA=nNo):mT d st rm (ks.getLastD ZA)=mT d st rm (.node c ks):=by
 obtain⟨b,hb⟩:∃b,mT d st rm (ks.getLastD ZA)=fun _=>b:=by
  rcases hl with e|e
  ·exact⟨true,by rw[e];exact ZaR⟩
  ·exact⟨false,by rw[e];exact Zgz⟩
 rw[hb];have q:¬quL c:=fun z=>by
  rcases z with z|z<;>rw[z] at hc<;>exact ot hc (by left)
 cases c with
 |yes=>exact ot hc (show("yes" : Str)∉SW by left)
 |sign z=>exact ot hc (show("sign" : Str)∉SW by left)
 |many w=>
  have ro:w∈SW:=hc;rcases ok.1 with z|z<;>rw[z] at ro<;>exact ot ro (by left)
 |wit n=>
  obtain⟨x,y,rfl⟩:=qi ok.2;have AF:mT d st rm y=fun _=>b:=hb;rw[V8 ok q]
  show _=Qz n.toNat (mT d st rm x) (mT d st rm y)
  rw[AF,Zgd]
 |op w=>
  have ro:w∈SW:=hc;rcases id ok with⟨hw,l⟩|⟨hw,l⟩
  ·obtain⟨x,rfl⟩:=VU l;have AF:mT d st rm x=fun _=>b:=hb;rw[V8 ok q]
   show _=mF _ (.op w) [mT d st rm x]
   rw[AF];have e1:=Zef tt1 b;have e2:(fun k=>!X4 tt1 (fun _=>!b) k)=fun _=>b:=by rw[Zef];simp
   have e3:=ZdJ tt1 b;have e4:(fun k=>!XT tt1 (fun _=>!b) k)=fun _=>b:=by rw[ZdJ];simp
   simp only[W1,fU,gN,gO] at hw;rcases hw with rfl|rfl|rfl|rfl|rfl|rfl|rfl|rfl|rfl<;>first|exact ot ro (by left)|skip
   ·unfold mF;dsimp only;rw[oo (by left),oo (by left),oo (by left),oo (by left),oo (by left),oq rfl];rfl
   ·unfold mF;dsimp only;rw[oo (by left),oq rfl];exact e2.symm
   ·unfold mF;dsimp only;rw[oq rfl];exact e1.symm
   ·unfold mF;dsimp only;rw[oo (by left),oo (by left),oq rfl];exact e3.symm
   ·unfold mF;dsimp only;rw[oo (by left),oo (by left),oo (by left),oq rfl];exact e4.symm
  ·obtain⟨x,y,rfl⟩:=qi l;have AF:mT d st rm y=fun _=>b:=hb;rw[V8 ok q]
   show _=mF _ (.op w) [mT d st rm x,mT d st rm y]
   rw[AF];simp only[W2,fU,gN,gO] at hw;rcases hw with rfl|rfl
   ·unfold mF;dsimp only;rw[oo (by left),oo (by left),oo (by left),oo (by left),oo (by left),oo (by left),oo (by left),oq rfl];exact(Zef _ b).symm
   ·unfold mF;dsimp only;rw[oo (by left),oo (by left),oo (by left),oo (by left),oo (by left),oo (by left),oo (by left),oo (by left)];exact(ZdJ _ b).symm
theorem ZhY{ks:List Tr}(ok:Yi c ks.length)(q:¬quL c)(hk:∀k∈ks,OkN n k):mT d st rm (shF c ks)=mT d st rm (.node c ks):=by
 have one:∀{w:Str},Zu c=w->w∈(["not","always","ever"]:List Str)->c=.op w/\∃x,ks=[x]:=fun {w} h hw=>by
  cases c with
  |yes=>rw[<- h] at hw;exact ot hw (show("yes" : Str)∉_ by left)
  |sign z=>rw[<- h] at hw;exact ot hw (show("sign" : Str)∉_ by left)
  |wit m=>rw[<- h] at hw;exact ot hw (show("within" : Str)∉_ by left)
  |many v=>
   have hv:v=w:=h;rw[<- hv] at hw;rcases ok.1 with z|z<;>rw[z] at hw<;>exact ot hw (by left)
  |op v=>
   have hv:v=w:=h;subst hv;rcases ok with⟨_,l⟩|⟨z,_⟩
   ·exact⟨rfl,VU l⟩
   ·simp only[W2,fU,gN,gO] at z;rcases z with rfl|rfl<;>exact ot hw (by left)
 unfold shF
 by_cases h1:Zu c = "and"
 ·rw[oq h1];obtain⟨rfl,l8⟩:=yK ok h1 (.inl rfl);exact Zcr (.inl rfl) l8 (fun k=>by rw[ZaR];rfl) (fun k=>by rw[Zgz];rfl)
 rw[oo h1]
 by_cases h2:Zu c = "or"
 ·rw[oq h2];obtain⟨rfl,l8⟩:=yK ok h2 (.inr rfl);exact Zcr (.inr rfl) l8 (fun k=>by rw[Zgz];exact(fV (by left)).symm) (fun k=>by rw[ZaR,fV (show ¬(("or" : Str) = "and") by left)];rfl)
 rw[oo h2]
 by_cases h3:Zu c∈SW/\(ks.getLastD ZA=ZA\/ks.getLastD ZA=nNo)
 ·rw[oq h3];exact Zda ok h3.1 h3.2
 rw[oo h3]
 by_cases h4:Zu c = "not" /\ wdT (X9 ks) = "not"
 ·rw[oq h4];obtain⟨rfl,x,rfl⟩:=one h4.1 (by left);obtain⟨y,hy⟩:=Q9 (hk x (by simp)).lb h4.2;subst hy
  show mT d st rm y=mT d st rm (ZY (ZY y))
  rw[Zd0,Zd0]
  funext k;simp
 rw[oo h4];have Lf:∀{w o:Str},(w = "always" /\ o = "ever")\/(w = "ever" /\ o = "always")->Zu c=w/\yW (X9 ks) w o->mT d st rm (X9 ks)=mT d st rm (.node c ks):=fun {w o} hw h=>by
  obtain⟨rfl,x,rfl⟩:=one h.1 (by rcases hw with⟨rfl,_⟩|⟨rfl,_⟩<;>left);have hx:=hk x (by simp);have hd:yW x w o:=h.2
  show mT d st rm x=_
  unfold yW at hd
  by_cases ho:wdT x=o
  ·rw[oq ho] at hd;obtain⟨y,hy⟩:=Zeh hx.lb ho (by rcases hw with⟨_,rfl⟩|⟨_,rfl⟩;exact .inr rfl;exact .inl rfl);subst hy;have su:wdT y=w:=hd;cases n with
   |zero=>exact hx.elim
   |succ n=>
    obtain⟨z,hz⟩:=Zeh (hx.2 y (by simp[Tr.ks])).lb su (by rcases hw with⟨rfl,_⟩|⟨rfl,_⟩;exact .inl rfl;exact .inr rfl);subst hz;rcases hw with⟨rfl,rfl⟩|⟨rfl,rfl⟩
    ·rw[qe,jb,qe,Zd1]
    ·rw[jb,qe,jb,Zen]
  ·rw[oo ho] at hd;obtain⟨y,hy⟩:=Zeh hx.lb hd (by rcases hw with⟨rfl,_⟩|⟨rfl,_⟩;exact .inl rfl;exact .inr rfl);subst hy;rcases hw with⟨rfl,rfl⟩|⟨rfl,rfl⟩
   ·rw[qe (.node (.op "always") [y]),qe,Zhx]
   ·rw[jb (.node (.op "ever") [y]),jb,ZhD]
 by_cases h5:Zu c = "always" /\ yW (X9 ks) "always" "ever"
 ·rw[oq h5];exact Lf (.inl ⟨rfl,rfl⟩) h5
 rw[oo h5]
 by_cases h6:Zu c = "ever" /\ yW (X9 ks) "ever" "always"
 ·rw[oq h6];exact Lf (.inr ⟨rfl,rfl⟩) h6
 rw[oo h6]
theorem ZaU:∀{n:Nat}{t:Tr},OkN n t->mT d st rm (shT t)=mT d st rm t
 |0,_,h=>h.elim
 |n+1,t,⟨ok,hk⟩=>by
  rw[qd]
  by_cases q:quL t.lb
  ·rw[oq q]
  ·rw[oo q];have rO:Yi t.lb (t.ks.map shT).length:=by rw[fF];exact ok
   rw[ZhY (n:=n+1) rO q fun k pG=>by
    obtain⟨y,hy,rfl⟩:=fM.mp pG;exact Kt (hk y hy),V8 rO q,fR]
   have e:t.ks.map (mT d st rm∘shT)=t.ks.map (mT d st rm):=iz fun k pG=>ZaU (hk k pG);rw[e]
   conv=>rhs;rw[Tr.eta t]
   exact(V8 ok q).symm
end
end
theorem Zd2{t:Tr}(hc:isC t=true)(hl:is.length=t.ks.length):qE t.lb is=.inl (XJ t.lb is):=by
 rcases WU t.lb is with⟨w,e,e0,_⟩|⟨e,_⟩
 ·exfalso
  obtain⟨c,ks⟩:=t;have ec:c=.many w:=e;subst ec;have hk:ks=[]:=gX.mp (by rw[<- (show is.length=ks.length from hl),e0];rfl);subst hk;rw[Vc] at hc;simp[yP] at hc
 ·exact e
theorem TbY.rk{r P R:Addr}(h:TbY K Pm C H r P R D ps)(hc:∀s∈ps,isC s=true) :
  ∃rows:List (List Key×Addr),H R=some (.lst (rows.map fun e=>.ref e.2))/\rows.length=ps.length/\(∀e∈rows,SqT K H e.2 (e.1.map kV))/\(∀(i:Nat) t e,ps[i]?=some t->rows[i]?=some e->ZfN ps t e.1)/\∃es,H D=some (DyO Pm D es):=by
 obtain⟨rows,g1,g2,g3,g4,g5⟩:=h.rl
 let un:RK->List Key:=fun x=>match x with|.inl k=>k|.inr _=>[]
 have sY:∀(i:Nat) e,rows[i]?=some e->∃t,ps[i]?=some t/\e.1=.inl (un e.1)/\ZfN ps t (un e.1):=fun i e he=>by
  have hi:=(fP.mp he).1;have ht:ps[i]?=some (ps[i]'(by lia)):=fG (by lia);obtain⟨is,l,q,x⟩:=g4 i _ e ht he;rw[Zd2 (hc _ (gk ht)) l] at x;exact⟨_,ht,by rw[x],is,l,q,by rw[x]⟩
 refine⟨rows.map fun e=>(un e.1,e.2),by rw[g1,fR];rfl,by rw[fF];exact g2,fun e he=>?_,fun i t e h1 h2=>?_,_,g5⟩
 ·obtain⟨y,hy,rfl⟩:=fM.mp he;obtain⟨i,hi⟩:=iU.mp hy;obtain⟨_,_,e1,_⟩:=sY i y hi;have:=g3 y hy;rw[e1] at this;exact this.1
 ·rw[fO] at h2;obtain⟨y,hy,rfl⟩:=mo.mp h2;obtain⟨t',MJ,_,hr⟩:=sY i y hy;rw[h1] at MJ;rw[fW MJ];exact hr
section
open Classical
def SmB(c s:Tr):Prop:=s∈ZN c/\s.lb=.op "some"
theorem yb{ks:List Tr}{s:Tr}(h:c≠.op "some"):SmB (.node c ks) s↔∃k∈ks,SmB k s:=by
 have hb:Y4 (.node c ks)=ks:=by
  cases c with
  |op w=>exact oo fun z=>h (by rw[z])
  |yes=>rfl
  |sign z=>rfl
  |wit m=>rfl
  |many w=>rfl
 constructor
 ·rintro⟨h1,h2⟩;rcases VS h1 with rfl|⟨k,hk,h1⟩
  ·exact ot h2 h
  ·rw[hb] at hk;exact⟨k,hk,h1,h2⟩
 ·rintro⟨k,hk,h1,h2⟩;exact⟨j6 (by rw[hb];exact hk) h1,h2⟩
theorem qF{s:Tr}:¬SmB ZA s:=fun h=>by
 obtain⟨k,hk,_⟩:=(yb (c:=.yes) (ks:=[]) (by intro z;cases z)).mp h;cases hk
theorem Zek{w:Str}{x s:Tr}(h:w ≠ "some"):SmB (.node (.op w) [x]) s↔SmB x s:=by
 rw[yb (fun z=>h (Lb.op.inj z))];simp
theorem qH{x y s:Tr}(h:c≠.op "some"):SmB (.node c [x,y]) s↔SmB x s\/SmB y s:=by
 rw[yb h];simp
theorem Zc7{w:Str}(h:w ≠ "some"):Lb.op w≠.op "some" := fun z=>h (Lb.op.inj z)
theorem VC{x s:Tr}:SmB (ZY x) s↔SmB x s:=Zek (by left)
theorem ZdG:∀(l:List Tr) {s:Tr},SmB (Wz l) s↔∃k∈l,SmB k s
 |[],s=>by
  show SmB ZA s↔_
  exact⟨fun h=>ot h qF,fun⟨k,hk,_⟩=>by cases hk⟩
 |[x],s=>by show SmB x s↔_;simp
 |x::y::r,s=>by
  show SmB (.node (.many "and") [x,Wz (y::r)]) s↔_
  rw[qH (by intro z;cases z),ZdG (y::r)];simp
theorem ZfT:∀(l:List Tr) {s:Tr},SmB (orT l) s↔∃k∈l,SmB k s
 |[],s=>by
  show SmB (ZY ZA) s↔_
  rw[VC];exact⟨fun h=>ot h qF,fun⟨k,hk,_⟩=>by cases hk⟩
 |[x],s=>by show SmB x s↔_;simp
 |x::y::r,s=>by
  show SmB (ZY (.node (.many "and") [ZY x,ZY (orT (y::r))])) s↔_
  rw[VC,qH (by intro z;cases z),VC,VC,ZfT (y::r)];simp
theorem ZdW(f g:Tr):∀n {s:Tr},SmB (Yb n f g) s↔(0<n/\SmB f s)\/SmB g s
 |0,s=>by show SmB g s↔_;simp
 |n+1,s=>by
  show SmB (ZY (.node (.many "and") [ZY g,ZY (.node (.many "and") [f,.node (.op "next") [Yb n f g]])])) s↔_
  rw[VC,qH (by intro z;cases z),VC,VC,qH (by intro z;cases z),Zek (by left),ZdW f g n];constructor
  ·rintro(h|h|⟨_,h⟩|h)
   ·exact .inr h
   ·exact .inl ⟨by lia,h⟩
   ·exact .inl ⟨by lia,h⟩
   ·exact .inr h
  ·rintro(⟨_,h⟩|h)
   ·exact .inr (.inl h)
   ·exact .inl h
def SF(c:Lb)(ps:List (Tr->Prop))(s:Tr):Prop:=match c with
 |.wit n=>(0<n.toNat/\(ps.getD 0 (fun _=>False)) s)\/(ps.getD 1 (fun _=>False)) s
 |_=>∃p∈ps,p s
def smT(t s:Tr):Prop:=SmB (Z8 t) s
theorem ZdD(ks:List Tr)(i:Nat){s:Tr}:SmB ((ks.map Z8).getD i ZA) s↔((ks.map smT).getD i (fun _=>False)) s:=by
 rw[ii,ii,fO,fO];cases ks[i]? with
 |none=>exact⟨fun h=>ot h qF,fun h=>h.elim⟩
 |some x=>exact Iff.rfl
theorem Zbs{ks:List Tr}(ok:Yi c ks.length)(q:¬quL c){s:Tr}:smT (.node c ks) s↔SF c (ks.map smT) s:=by
 unfold smT;rw[qx]
 show SmB (YW c (ks.map Z8)) s↔_
 have ex:(∃k∈ks.map Z8,SmB k s)↔∃p∈ks.map smT,p s:=by
  constructor
  ·rintro⟨k,hk,h⟩;obtain⟨x,hx,rfl⟩:=fM.mp hk;exact⟨_,fM.mpr ⟨x,hx,rfl⟩,h⟩
  ·rintro⟨k,hk,h⟩;obtain⟨x,hx,rfl⟩:=fM.mp hk;exact⟨_,fM.mpr ⟨x,hx,rfl⟩,h⟩
 cases c with
 |yes=>
  obtain rfl:ks=[]:=gX.mp ok;exact⟨fun h=>ot h qF,fun⟨p,hp,_⟩=>by cases hp⟩
 |sign z=>
  obtain rfl:ks=[]:=gX.mp ok.1;refine⟨fun h=>?_,fun⟨p,hp,_⟩=>by cases hp⟩;obtain⟨k,hk,_⟩:=(yb (c:=.sign z) (ks:=[]) (by intro z;cases z)).mp h;cases hk
 |many w=>
  show SmB (if w = "and" then Wz _ else orT _) s↔∃p∈ks.map smT,p s
  rw[<- ex]
  split
  ·exact ZdG _
  ·exact ZfT _
 |wit n=>
  show SmB (Yb n.toNat _ _) s↔(0<n.toNat/\_)\/_
  rw[ZdW,ZdD,ZdD];exact Iff.rfl
 |op w=>
  have h1:w ≠ "all" := fun z=>q (.inl (by rw[z];rfl));have h2:w ≠ "some" := fun z=>q (.inr (by rw[z];rfl))
  show SmB (YW (.op w) (ks.map Z8)) s↔∃p∈ks.map smT,p s
  rw[<- ex];have one:∀{x:Tr},ks=[x]->(SmB ((ks.map Z8).getD 0 ZA) s↔∃k∈ks.map Z8,SmB k s):=fun e=>by subst e;simp
  unfold YW;dsimp only;rw[oo h1];have w1:w∈W1->∃x,ks=[x]:=fun hw=>by
   rcases ok with⟨_,l⟩|⟨z,_⟩
   ·exact VU l
   ·simp only[W2,fU,gN,gO] at z;rcases z with rfl|rfl<;>exact ot hw (by left)
  by_cases c1:w = "ever"
  ·rw[oq c1];obtain⟨x,e⟩:=w1 (by rw[c1];left)
   show SmB (.node (.op "until") [ZA,_]) s↔_
   rw[qH (Zc7 (by left)),<- one e];exact⟨fun h=>h.elim (fun h=>ot h qF) id,.inr⟩
  rw[oo c1]
  by_cases c2:w = "always"
  ·rw[oq c2];obtain⟨x,e⟩:=w1 (by rw[c2];left)
   show SmB (ZY (.node (.op "until") [ZA,ZY _])) s↔_
   rw[VC,qH (Zc7 (by left)),VC,<- one e];exact⟨fun h=>h.elim (fun h=>ot h qF) id,.inr⟩
  rw[oo c2]
  by_cases c3:w = "once"
  ·rw[oq c3];obtain⟨x,e⟩:=w1 (by rw[c3];left)
   show SmB (.node (.op "since") [ZA,_]) s↔_
   rw[qH (Zc7 (by left)),<- one e];exact⟨fun h=>h.elim (fun h=>ot h qF) id,.inr⟩
  rw[oo c3]
  by_cases c4:w = "sofar"
  ·rw[oq c4];obtain⟨x,e⟩:=w1 (by rw[c4];left)
   show SmB (ZY (.node (.op "since") [ZA,ZY _])) s↔_
   rw[VC,qH (Zc7 (by left)),VC,<- one e];exact⟨fun h=>h.elim (fun h=>ot h qF) id,.inr⟩
  rw[oo c4];exact yb (Zc7 h2)
theorem qW{s:Tr}:¬smT ZA s:=fun h=>by
 obtain⟨p,hp,_⟩:=(Zbs (c:=.yes) (ks:=[]) rfl (quN (w := "yes") (by left) _ rfl)).mp h;cases hp
theorem ZaA{x s:Tr}:smT (ZY x) s↔smT x s:=by
 show smT (.node (.op "not") [x]) s↔_
 rw[Zbs (J6 (by left)) (qop (by left))]
 show(∃p∈[smT x],p s)↔_
 simp
theorem Q7{s:Tr}:¬smT nNo s:=fun h=>qW (ZaA.mp h)
theorem ZgZ{ks:List Tr}{s:Tr}(ok:Yi c ks.length)(q:¬quL c)(hk:∀k∈ks,OkN n k)(h:smT (shF c ks) s):smT (.node c ks) s:=by
 have sX:(∀m,c≠.wit m)->∀k∈ks,smT k s->smT (.node c ks) s:=fun hn k pG hs=>by
  rw[Zbs ok q];have:∃p∈ks.map smT,p s:=⟨_,fM.mpr ⟨k,pG,rfl⟩,hs⟩;cases c with
  |wit m=>exact ot rfl (hn m)
  |yes=>exact this
  |sign z=>exact this
  |op w=>exact this
  |many w=>exact this
 have nw:∀{w:Str},Zu c=w->w ≠ "within" -> ∀m,c≠.wit m:=fun e hw m z=>hw (by rw[<- e,z];rfl);have jn:∀{w:Str}{idle strong:Tr},(w = "and" \/ w = "or")->Zu c=w->(¬smT idle s)->(¬smT strong s)->smT (Xq w idle strong ks) s->smT (.node c ks) s:=fun {w idle strong} hw e hi hs hj=>by
  have hn:=nw e (by rcases hw with rfl|rfl<;>left);rcases Wd w idle strong ks with⟨_,z⟩|⟨_,few,ef,⟨_,z⟩|⟨y,ey,z⟩|⟨h2,z⟩⟩
  ·rw[z] at hj;exact ot hj hs
  ·rw[z] at hj;exact ot hj hi
  ·rw[z] at hj;exact sX hn y (UO (idle:=idle) (by rw[<- ef,ey];simp)).1 hj
  ·rw[z] at hj;have mem:∀x∈few,x∈ks:=fun x hx=>(UO (idle:=idle) (by rw[<- ef];exact hx)).1;obtain⟨_,l8⟩:=yK ok e hw;have lf:few.length<=8:=by
    have h1:=Vz (l₁:=few) (l₂:=ks) (by rw[ef];exact Xf (by simp)) mem;lia
   obtain⟨p,hp,t9⟩:=(Zbs (Zc2 hw lf) (qmy (by rcases hw with rfl|rfl<;>left))).mp hj;obtain⟨x,hx,rfl⟩:=fM.mp hp;exact sX hn x (mem x hx) t9
 rcases qX c ks with⟨e,z⟩|⟨e,z⟩|⟨hl,_,z⟩|⟨e,e2,z⟩|⟨e,z⟩|z
 ·rw[z] at h;exact jn (.inl rfl) e qW Q7 h
 ·rw[z] at h;exact jn (.inr rfl) e Q7 qW h
 ·rw[z] at h;rcases hl with e|e
  ·rw[e] at h;exact ot h qW
  ·rw[e] at h;exact ot h Q7
 ·rw[z] at h;rcases WX (ks:=ks) with u|u
  ·rw[u] at h;rcases WX (ks:=ZA.ks) with v|v
   ·rw[v] at h;exact ot h qW
   ·cases v
  ·obtain⟨y,hy⟩:=Q9 (hk _ u).lb e2;rw[hy] at h u;exact sX (nw e (by left)) _ u (ZaA.mpr h)
 ·rw[z] at h;rcases WX (ks:=ks) with u|u
  ·rw[u] at h;exact ot h qW
  ·exact sX (by rcases e with e|e<;>exact nw e (by left)) _ u h
 ·rw[z] at h;exact h
theorem Zeu:∀{n:Nat}{t s:Tr},OkN n t->smT (shT t) s->smT t s
 |0,_,_,h,_=>h.elim
 |n+1,t,s,⟨ok,hk⟩,h=>by
  rw[qd] at h
  by_cases q:quL t.lb
  ·rw[oq q] at h;exact h
  ·rw[oo q] at h;have rO:Yi t.lb (t.ks.map shT).length:=by rw[fF];exact ok
   have h2:=ZgZ (n:=n+1) rO q (fun k pG=>by
    obtain⟨y,hy,rfl⟩:=fM.mp pG;exact Kt (hk y hy)) h
   rw[Zbs rO q] at h2;rw[Tr.eta t,Zbs ok q];have Bs:∀i,(((t.ks.map shT).map smT).getD i (fun _=>False)) s->((t.ks.map smT).getD i (fun _=>False)) s:=fun i hi=>by
    rw[ii,fO,fO] at hi;rw[ii,fO];cases e:t.ks[i]? with
    |none=>rw[e] at hi;exact hi
    |some x=>rw[e] at hi;exact Zeu (hk x (gk e)) hi
   have pE:(∃p∈(t.ks.map shT).map smT,p s)->∃p∈t.ks.map smT,p s:=by
    rintro⟨p,hp,t9⟩;obtain⟨y,hy,rfl⟩:=fM.mp hp;obtain⟨x,hx,rfl⟩:=fM.mp hy;exact⟨_,fM.mpr ⟨x,hx,rfl⟩,Zeu (hk x hx) t9⟩
   generalize t.lb=c at h2 ⊢;cases c with
   |wit m=>exact h2.imp (fun⟨a,b⟩=>⟨a,Bs 0 b⟩) (Bs 1)
   |yes=>exact pE h2
   |sign z=>exact pE h2
   |op w=>exact pE h2
   |many w=>exact pE h2
end
theorem sz1:1<=sizeLine:=by rw[fJ];decide
theorem sz2:2<=sizeLine:=by rw[fJ];decide
theorem sz3:3<=sizeLine:=by rw[fJ];decide
theorem sz4:4<=sizeLine:=by rw[fJ];decide
theorem sz6:6<=sizeLine:=by rw[fJ];decide
theorem sz8:8<=sizeLine:=by rw[fJ];decide
end L3
namespace L3
open PySem PySem.Spec L2
theorem pa_n1{X:Cx}{e:Expr}{te:TE}(ha:PE X e te)(hs:starEach [e] X.env=(false,eval e X.env)::starEach [] X.env):PA X [e] (xX te Jz):=Za ha Zb hs
end L3
namespace KK
open PySem PySem.Spec L2 L3
abbrev qr0(a:Addr):Option V:=some (.ref a)
def top(i:Nat):Stmt:=PySem.Challenge.pw_timecourt_k77_whole_shorter_reads_alike.main.body.getD i (.Pass ⟨0,0,0,0⟩)
def dq:List Str:=["lines","size"]
def dr:List Str:=["self"]
def du:List Str:=["sentence"]
def dy:List Str:=["thing"]
def dz:List Str:=["thing","many"]
def dA:List Str:=["self","sentence","inner"]
def dB:List Str:=["_law_one"]
def dC:List Str:=["cores"]
def dD:List Str:=["sentence","inner"]
def dE:List Str:=["self","number"]
def dG:List Str:=["self","room"]
def dH:List Str:=["number","self"]
def dJ:List Str:=["_law_sentence"]
def dM:List Str:=["one","other"]
def dN:List Str:=["some","rooms","table"]
def dQ:List Str:=["turns","first","second"]
def dU:List Str:=["_law_xs","_law_most"]
def dX:List Str:=["line","length","size"]
def dY:List Str:=["things","many"]
def dZ:List Str:=["self","part","row"]
def eh:List Str:=["self","core"]
def eo:List Str:=["self","word","inner","idle","strong"]
def eG:List Str:=["self","number","same","other"]
def eI:List Str:=["lines","size","more"]
def eJ:List Str:=["line","size"]
def eK:List Str:=["rows","run","many"]
def eN:List Str:=["_law_cell","_law_many"]
def eO:List Str:=["world","row","rooms"]
def eP:List Str:=["world","table","number","told"]
def eQ:List Str:=["table","sets"]
def eT:List Str:=["_law_core","_law_many","_law_cell"]
def eU:List Str:=["_law_lists_here","_law_cell"]
def eW:List Str:=["_law_word","_law_some_here","_law_x"]
def eY:List Str:=["_law_x","_law_some_here","_law_words"]
def fb:List Str:=["_law_cell","_law_most"]
def fe:List Str:=["_law_cells","_law_words","_law_most"]
def fg:List Str:=["signs","ways","starts","fair"]
def fh:List Str:=["self","signs","ways","starts","fair"]
def fj:List Str:=["_law_lists_here"]
def fk:List Str:=["_law_script","_law_k"]
def fo:List Str:=["world","core","sets"]
def fq:List Str:=["world","run","core","sets","many"]
def ft:List Str:=["world","run","core","sets"]
def fu:List Str:=["_law_script"]
def fz:List Str:=["_law_room","_law_xs","_law_sets_here"]
def fA:List Str:=["_law_k","_law_row_here","_law_lists_here"]
def fB:List Str:=["_law_k","_law_some_here","_law_x"]
def fC:List Str:=["_law_room","_law_first"]
def fD:List Str:=["_law_j","_law_names","_law_xs","_law_k"]
abbrev zF:=top 4
abbrev Uq:=top 5
abbrev yT:=top 6
abbrev W8:=top 7
abbrev V2:=top 8
abbrev V1:=top 9
abbrev YF:=top 17
abbrev WK:=top 18
abbrev YK:=top 19
abbrev Vv:=top 22
abbrev ZT:=top 23
abbrev Up:=top 24
abbrev qO:=top 25
abbrev Vd:=top 26
abbrev UX:=top 27
abbrev UJ:=Xi (top 28) 0
abbrev YQ:=Xi (top 28) 1
abbrev Xn:=Xi (top 28) 2
abbrev ZE:=Xi (top 28) 3
abbrev k3:=top 29
abbrev U6:=top 30
abbrev Wi:=top 33
abbrev X6:=Xi (top 34) 0
abbrev YJ:=Xi (top 34) 1
abbrev ZP:=Xi (top 34) 2
abbrev Yd:=Xi (top 34) 3
abbrev Y3:=Xi (top 34) 4
abbrev WM:=Xi (top 34) 5
abbrev Xk:=Xi (top 34) 6
abbrev Zaa:=top 36
abbrev Uy:=top 37
abbrev W7:=top 38
abbrev VW:=top 39
abbrev Yo:=top 40
abbrev Yz:=top 41
abbrev Yk:=top 42
abbrev qP:=top 43
abbrev Vb:=top 44
abbrev XX:=top 45
abbrev UZ:=top 46
abbrev UG:=top 47
abbrev qB:=top 48
abbrev Xb:=top 49
abbrev V6:=top 50
abbrev XU:=top 51
abbrev Xd:=Xi (top 56) 0
abbrev UR:=Xi (top 56) 1
abbrev WI:=Xi (top 56) 2
abbrev Vi:=Xi (top 56) 3
abbrev VE:=Xi (top 56) 4
abbrev Wc:=Xi (top 56) 5
abbrev YA:=top 57
abbrev XR:=top 58
abbrev VI:=top 60
abbrev Yc:=top 61
abbrev Wm:=top 62
abbrev Z3:=top 63
abbrev Wf:=top 65
abbrev qr:=top 66
abbrev WP:=top 67
abbrev Xe:=top 68
abbrev V3:=top 69
abbrev V0:=top 70
abbrev Yf:=top 71
abbrev YC:=top 72
abbrev Xr:=top 73
abbrev Va:=top 74
theorem dk{N P:List Str}{S:Scope}(a:S.kind=.function:=by rfl)(b:S.isCoroutine=false:=by rfl)(c:S.isGenerator=false:=by rfl)(d:N.take P.length=P:=by rfl)(e:N.Nodup/\(∀x∈P,S.names.lookup x=some .local\/S.names.lookup x=some .cell)/\∀y∈S.names,y.2≠.free:=by left):Zt N P S:=⟨a,b,c,e.1,d,e.2.1,e.2.2⟩
theorem Qm:Zt ["thing"] dy (Zj zF):=dk
theorem Q8:Zt ["thing"] dy (Zj Uq):=dk
theorem Zab:Zt ["thing","many"] dz (Zj yT):=dk
theorem JX:Zt ["thing"] dy (Zj W8):=dk
theorem Ji:Zt ["thing","many"] dz (Zj V2):=dk
theorem UA:Zt ["things","many","start","taken"] dY (Zj V1):=dk
theorem yJ:Zt ["thing","word"] dy (Zj YF):=dk
theorem xz:Zt ["sentence","word"] du (Zj WK):=dk
theorem Wy:Zt ["sentence","found","waiting","one"] du (Zj YK):=dk
theorem UV:Zt ["sentence","found","one","inner"] du (Zj Vv):=dk
theorem ye:Zt ["sentence","inner","word"] dD (Zj ZT):=dk
theorem qR:Zt ["cores","whole","core"] dC (Zj Up):=dk
theorem zS:Zt ["cores","whole","core"] dC (Zj qO):=dk
theorem Vp:Zt ["turns","first","second","whole","turn"] dQ (Zj Vd):=dk
theorem xw:Zt ["sentence","inner","head"] dD (Zj UX):=dk
theorem jE:Zt ["self"] dr (Zj UJ):=dk
theorem Xv:Zt ["self","core","found","part","inner"] eh (Zj YQ):=dk
theorem yd:Zt ["self","part","row"] dZ (Zj Xn):=dk
def WG:List Str:=["self","number","found","seen","waiting","at","ahead"]
theorem Yg:Zt WG dE (Zj ZE):=dk
theorem Zem:Zt ["row"] ["row"] (Zj k3):=dk
theorem xo:Zt ["core","table"] ["core"] (Zj U6):=dk
theorem VB:Zt ["sentence","shorts","found","one","inner"] du (Zj Wi):=dk
theorem vh:Zt ["self"] dr (Zj X6):=dk
theorem VX:Zt ["self","sentence","inner","stands"] dA (Zj YJ):=dk
theorem VH:Zt ["self","sentence","inner","word"] dA (Zj ZP):=dk
def Vh:List Str:=["self","word","inner","idle","strong","few","parts"]
theorem WV:Zt Vh eo (Zj Yd):=dk
theorem ze:Zt ["self","number","same","other"] eG (Zj Y3):=dk
theorem yg:Zt ["self","number"] dE (Zj WM):=dk
theorem qg:Zt ["self","sentence","inner","parts"] dA (Zj Xk):=dk
theorem Zfo:Zt ["world","run","core","sets"] ft (Zj Zaa):=dk
theorem jC:Zt ["world","run","core","sets","many"] fq (Zj Uy):=dk
theorem UI:Zt ["world","core","sets","table","number"] fo (Zj W7):=dk
theorem Jw:Zt ["table","sets"] eQ (Zj VW):=dk
def zp:List Str:=["world","table","number","told","places","rows","inner","row"]
theorem XN:Zt zp eP (Zj Yo):=dk
theorem vF:Zt ["world","row","rooms"] eO (Zj Yz):=dk
def qJ:List Str:=["rows","run","many","way","ring","size","lines","row","line","deed"]
theorem YX:Zt qJ eK (Zj Yk):=dk
theorem zD:Zt ["line","size","end"] eJ (Zj qP):=dk
theorem yi:Zt ["line","length","size","longer"] dX (Zj Vb):=dk
theorem VT:Zt ["lines","size","more","length"] eI (Zj XX):=dk
theorem KF:Zt ["lines","size"] dq (Zj UZ):=dk
theorem KI:Zt ["lines","size"] dq (Zj UG):=dk
theorem kU:Zt ["lines","size"] dq (Zj qB):=dk
theorem Yy:Zt ["lines","size","pairs","later","first","second","line"] dq (Zj Xb):=dk
theorem vU:Zt ["lines","size"] dq (Zj V6):=dk
theorem XG:Zt ["lines","size","line","held","first","second"] dq (Zj XU):=dk
def UH:List Str:=["self","signs","ways","starts","fair"]
theorem jI:Zt UH fh (Zj Xd):=dk
theorem jA:Zt ["self"] dr (Zj UR):=dk
theorem yt:Zt ["self","room"] dG (Zj WI):=dk
theorem Zcg:Zt ["self","room"] dG (Zj Vi):=dk
theorem Zck:Zt ["self"] dr (Zj VE):=dk
theorem Qs:Zt ["self"] dr (Zj Wc):=dk
def V5:List Str:=["signs","ways","starts","fair","many"]
theorem qI:Zt V5 fg (Zj YA):=dk
theorem zY:Zt ["thing","many"] dz (Zj XR):=dk
theorem xL:Zt ["_law_script","_law_k"] fk (Zj VI):=dk
theorem YB:Zt ["_law_cell","_law_many","_law_found","_law_rest","_law_number","_law_other","_law_k"] eN (Zj Yc):=dk
theorem UP:Zt ["_law_xs","_law_most","_law_found"] dU (Zj Wm):=dk
def U0:List Str:=["_law_cell","_law_most","_law_names","_law_xs","_law_many","_law_signs","_law_ways","_law_k","_law_first","_law_more","_law_starts","_law_fair"]
theorem Yp:Zt U0 fb (Zj Z3):=dk
def qG:List Str:=["_law_lists_here","_law_signs","_law_ways","_law_starts","_law_fair"]
theorem Wx:Zt qG fj (Zj Wf):=dk
theorem Jv:Zt ["_law_x"] ["_law_x"] (Zj qr):=dk
def vw:List Str:=["_law_word","_law_some_here","_law_x","_law_many","_law_row_here"]
theorem qf:Zt vw eW (Zj WP):=dk
theorem Vr:Zt ["_law_x","_law_some_here","_law_words","_law_one","_law_other","_law_word"] eY (Zj Xe):=dk
def xr:List Str:=["_law_sentence","_law_word","_law_sizes","_law_one","_law_other"]
theorem Wu:Zt xr dJ (Zj V3):=dk
def xn:List Str:=["_law_sentence","_law_word","_law_inner"]
theorem Wo:Zt xn dJ (Zj V0):=dk
theorem YS:Zt ["_law_cells","_law_words","_law_most","_law_some_here","_law_cell","_law_xs","_law_one"] fe (Zj Yf):=dk
def vK:List Str:=["_law_lists_here","_law_cell","_law_xs","_law_room","_law_row_here","_law_x","_law_back","_law_cuts","_law_cut"]
theorem YZ:Zt vK eU (Zj YC):=dk
def xA:List Str:=["_law_core","_law_many","_law_cell","_law_sets_here","_law_xs","_law_part"]
theorem Vu:Zt xA eT (Zj Xr):=dk
theorem Ws:Zt ["_law_script","_law_lists_here","_law_world","_law_words","_law_runs","_law_cell","_law_run_here","_law_one","_law_core","_law_short","_law_sets_here"] fu (Zj Va):=dk
inductive Cj2(p0 p1:Prop):Prop
 |mk (h0:p0) (h1:p1):Cj2 p0 p1
inductive Cj3(p0 p1 p2:Prop):Prop
 |mk (h0:p0) (h1:p1) (h2:p2):Cj3 p0 p1 p2
inductive Cj4(p0 p1 p2 p3:Prop):Prop
 |mk (h0:p0) (h1:p1) (h2:p2) (h3:p3):Cj4 p0 p1 p2 p3
inductive Cj5(p0 p1 p2 p3 p4:Prop):Prop
 |mk (h0:p0) (h1:p1) (h2:p2) (h3:p3) (h4:p4):Cj5 p0 p1 p2 p3 p4
inductive Cj6(p0 p1 p2 p3 p4 p5:Prop):Prop
 |mk (h0:p0) (h1:p1) (h2:p2) (h3:p3) (h4:p4) (h5:p5):Cj6 p0 p1 p2 p3 p4 p5
inductive Cj7(p0 p1 p2 p3 p4 p5 p6:Prop):Prop
 |mk (h0:p0) (h1:p1) (h2:p2) (h3:p3) (h4:p4) (h5:p5) (h6:p6):Cj7 p0 p1 p2 p3 p4 p5 p6
inductive Cj8(p0 p1 p2 p3 p4 p5 p6 p7:Prop):Prop
 |mk (h0:p0) (h1:p1) (h2:p2) (h3:p3) (h4:p4) (h5:p5) (h6:p6) (h7:p7):Cj8 p0 p1 p2 p3 p4 p5 p6 p7
inductive Cj9(p0 p1 p2 p3 p4 p5 p6 p7 p8:Prop):Prop
 |mk (h0:p0) (h1:p1) (h2:p2) (h3:p3) (h4:p4) (h5:p5) (h6:p6) (h7:p7) (h8:p8):Cj9 p0 p1 p2 p3 p4 p5 p6 p7 p8
inductive Zbv(p0 p1 p2 p3 p4 p5 p6 p7 p8 p9:Prop):Prop
 |mk (h0:p0) (h1:p1) (h2:p2) (h3:p3) (h4:p4) (h5:p5) (h6:p6) (h7:p7) (h8:p8) (h9:p9):Zbv p0 p1 p2 p3 p4 p5 p6 p7 p8 p9
inductive Zfj(p0 p1 p2 p3 p4 p5 p6 p7 p8 p9 p10:Prop):Prop
 |mk (h0:p0) (h1:p1) (h2:p2) (h3:p3) (h4:p4) (h5:p5) (h6:p6) (h7:p7) (h8:p8) (h9:p9) (h10:p10):Zfj p0 p1 p2 p3 p4 p5 p6 p7 p8 p9 p10
inductive Zhs(p0 p1 p2 p3 p4 p5 p6 p7 p8 p9 p10 p11 p12 p13 p14:Prop):Prop
 |mk (h0:p0) (h1:p1) (h2:p2) (h3:p3) (h4:p4) (h5:p5) (h6:p6) (h7:p7) (h8:p8) (h9:p9) (h10:p10) (h11:p11) (h12:p12) (h13:p13) (h14:p14):Zhs p0 p1 p2 p3 p4 p5 p6 p7 p8 p9 p10 p11 p12 p13 p14
inductive Ex1{u0:Type}(P:u0->Prop):Prop
 |mk (x0:u0) (h:P x0):Ex1 P
inductive Ex2{u0 u1:Type}(P:u0->u1->Prop):Prop
 |mk (x0:u0) (x1:u1) (h:P x0 x1):Ex2 P
inductive Ex3{u0 u1 u2:Type}(P:u0->u1->u2->Prop):Prop
 |mk (x0:u0) (x1:u1) (x2:u2) (h:P x0 x1 x2):Ex3 P
inductive Ex4{u0 u1 u2 u3:Type}(P:u0->u1->u2->u3->Prop):Prop
 |mk (x0:u0) (x1:u1) (x2:u2) (x3:u3) (h:P x0 x1 x2 x3):Ex4 P
inductive Ex5{u0 u1 u2 u3 u4:Type}(P:u0->u1->u2->u3->u4->Prop):Prop
 |mk (x0:u0) (x1:u1) (x2:u2) (x3:u3) (x4:u4) (h:P x0 x1 x2 x3 x4):Ex5 P
inductive Ex6{u0 u1 u2 u3 u4 u5:Type}(P:u0->u1->u2->u3->u4->u5->Prop):Prop
 |mk (x0:u0) (x1:u1) (x2:u2) (x3:u3) (x4:u4) (x5:u5) (h:P x0 x1 x2 x3 x4 x5):Ex6 P
inductive Ex7{u0 u1 u2 u3 u4 u5 u6:Type}(P:u0->u1->u2->u3->u4->u5->u6->Prop):Prop
 |mk (x0:u0) (x1:u1) (x2:u2) (x3:u3) (x4:u4) (x5:u5) (x6:u6) (h:P x0 x1 x2 x3 x4 x5 x6):Ex7 P
inductive Ex8{u0 u1 u2 u3 u4 u5 u6 u7:Type}(P:u0->u1->u2->u3->u4->u5->u6->u7->Prop):Prop
 |mk (x0:u0) (x1:u1) (x2:u2) (x3:u3) (x4:u4) (x5:u5) (x6:u6) (x7:u7) (h:P x0 x1 x2 x3 x4 x5 x6 x7):Ex8 P
inductive Ex9{u0 u1 u2 u3 u4 u5 u6 u7 u8:Type}(P:u0->u1->u2->u3->u4->u5->u6->u7->u8->Prop):Prop
 |mk (x0:u0) (x1:u1) (x2:u2) (x3:u3) (x4:u4) (x5:u5) (x6:u6) (x7:u7) (x8:u8) (h:P x0 x1 x2 x3 x4 x5 x6 x7 x8):Ex9 P
inductive ZdO{u0 u1 u2 u3 u4 u5 u6 u7 u8 u9:Type}(P:u0->u1->u2->u3->u4->u5->u6->u7->u8->u9->Prop):Prop
 |mk (x0:u0) (x1:u1) (x2:u2) (x3:u3) (x4:u4) (x5:u5) (x6:u6) (x7:u7) (x8:u8) (x9:u9) (h:P x0 x1 x2 x3 x4 x5 x6 x7 x8 x9):ZdO P
inductive Zg1{u0 u1 u2 u3 u4 u5 u6 u7 u8 u9 u10 u11:Type}(P:u0->u1->u2->u3->u4->u5->u6->u7->u8->u9->u10->u11->Prop):Prop
 |mk (x0:u0) (x1:u1) (x2:u2) (x3:u3) (x4:u4) (x5:u5) (x6:u6) (x7:u7) (x8:u8) (x9:u9) (x10:u10) (x11:u11) (h:P x0 x1 x2 x3 x4 x5 x6 x7 x8 x9 x10 x11):Zg1 P
inductive ZeI{u0 u1 u2 u3 u4 u5 u6 u7 u8 u9 u10 u11 u12 u13:Type}(P:u0->u1->u2->u3->u4->u5->u6->u7->u8->u9->u10->u11->u12->u13->Prop):Prop
 |mk (x0:u0) (x1:u1) (x2:u2) (x3:u3) (x4:u4) (x5:u5) (x6:u6) (x7:u7) (x8:u8) (x9:u9) (x10:u10) (x11:u11) (x12:u12) (x13:u13) (h:P x0 x1 x2 x3 x4 x5 x6 x7 x8 x9 x10 x11 x12 x13):ZeI P
inductive Zhw{u0 u1 u2 u3 u4 u5 u6 u7 u8 u9 u10 u11 u12 u13 u14 u15:Type}(P:u0->u1->u2->u3->u4->u5->u6->u7->u8->u9->u10->u11->u12->u13->u14->u15->Prop):Prop
 |mk (x0:u0) (x1:u1) (x2:u2) (x3:u3) (x4:u4) (x5:u5) (x6:u6) (x7:u7) (x8:u8) (x9:u9) (x10:u10) (x11:u11) (x12:u12) (x13:u13) (x14:u14) (x15:u15) (h:P x0 x1 x2 x3 x4 x5 x6 x7 x8 x9 x10 x11 x12 x13 x14 x15):Zhw P
structure Fg(K:W.Frag)(mg:Str->Option Value)(x:Str)(st:Stmt)(ps:List Str)(fa:Addr)(fd:FuncData):Prop where
 f:Fun K x x st fa fd
 n:Um K fd ps []
 g:mg x=some (.ref fa)
structure Mg(K:W.Frag)(C:Addr)(x q:Str)(st:Stmt)(ps:List Str)(fa:Addr)(fd:FuncData):Prop where
 f:Fun K x q st fa fd
 n:Um K fd ps []
 m:ZeN K C x fa
theorem okF{x:Str}{f:Addr}{ps:List Str}{k:Nat}(F:Fun K x qual st f fd)(S:Zt N ps (Zj st))
  (pi:∀(dn:Value) (A:Around) (outer:List Env) (s:Shared) (H:Hp) (vs:List V) (Q:VK) (E:XK),Y8 k (A.deeper (PyProof.Rows.envOfC qual (Zj st) s.heap.objs.size f dn))->sp vs H Q E -> ∃t,PSs (Qq CX0 P w K mg base N qual (Zj st) f dn A outer s H E).nox (XW st) t/\t { nx:=fun _ H'=>Q .non H',rt:=Q } (zi N vs) H)
  (len:∀vs H Q E,sp vs H Q E->vs.length=ps.length:=by intro _ _ _ _ h;first|(cases h;rename_i h;cases h;subst_vars;rfl)|(cases h;subst_vars;rfl)|(repeat (first|(obtain⟨rfl,_⟩:=h;rfl)|obtain⟨_,h⟩:=h))):Uo P w K mg base CX0 (k+1) f fd ps sp:=F.ok S len pi
theorem rmL{k:Nat}(r:Y8 k A)(h:Nat.ble j k=true):Y8 j A:=r.mono (Ψ h)
theorem ZK{k:Nat}{f:Addr}{ps:List Str}{x:Str}{p:Pos}{t:TA}(g:Fg X.K X.mg x st ps f fd)(F:Uo X.prog X.w X.K X.mg X.base CX0 j f fd ps sp)(hr:Y8 k X.A)(le:Nat.ble j k=true)(hg:Gl X x)(ha:PA X (e::es) t)(sf:(x==("__debug__" : Str))=false:=by left)(he:starEach (e::es) X.env=(false,eval e X.env)::starEach es X.env:=by rfl)(pH:(backTo on (starEach es X.env)).any (·.1)=false:=by rfl):PE X (.Call (.Name x p) (e::es) [] on) (J7 sp [] E0 t):=XY F (rmL hr le) hg g.g g.f.kp g.n .nil Yh ha sf he pH
def blk:List Stmt->Nat->List Stmt
 |.For _ _ b _ _::_,0=>b
 |.For _ _ _ e _::_,_=>e
 |.While _ b _ _::_,0=>b
 |.While _ _ e _::_,_=>e
 |.If _ b _ _::_,0=>b
 |.If _ _ e _::_,_=>e
 |_,_=>[]
def pkL(ss:List Stmt):List Nat->List Stmt
 |[]=>ss
 |[n]=>ss.drop n
 |n::b::p=>pkL (blk (ss.drop n) b) p
abbrev Rdg(X:Cx)(s:Stmt)(p:List Nat):Type:={t:L2.TS // PSs X (pkL (XW s) p) t}
theorem okX{x:Str}{f:Addr}{ps:List Str}{k:Nat}(F:Fun K x qual st f fd)(S:Zt N ps (Zj st))
  (pi:∀(dn:Value) (A:Around) (outer:List Env) (s:Shared) (H:Hp) (E:XK),Y8 k (A.deeper (PyProof.Rows.envOfC qual (Zj st) s.heap.objs.size f dn))->let X:=(Qq CX0 P w K mg base N qual (Zj st) f dn A outer s H E).nox
   ∀(vs:List V) (Q:VK),sp vs H Q E->∃t,PSs X (XW st) t/\t { nx:=fun _ H'=>Q .non H',rt:=Q } (zi N vs) H)
  (len:∀vs H Q E,sp vs H Q E->vs.length=ps.length:=by intro _ _ _ _ h;first|(cases h;rename_i h;cases h;subst_vars;rfl)|(cases h;subst_vars;rfl)|(repeat (first|(obtain⟨rfl,_⟩:=h;rfl)|obtain⟨_,h⟩:=h))):Uo P w K mg base CX0 (k+1) f fd ps sp:=F.ok S len fun dn A outer s H vs Q E hr h=>pi dn A outer s H E hr vs Q h
theorem zl(h:Nat.ble n 9999=true:=by rfl):n<=sizeLine:=by
 have:=Ψ h;rw[fJ];lia
theorem Xh{q:α}{C:Hp->α->Prop}(h:H p=none)(k:∀G,Zg H G->G p=some o->C G q):C (upd H p o) q:=k _ (Zi h) Zd
theorem YU{C:Hp->Prop}(h:H p=none)(k:∀G,Zg H G->G p=some o->C G):C (upd H p o):=k _ (Zi h) Zd
set_option genInjectivity false
structure Adr where
 (y0 y1 y2 y3 y4 y5 y6 y7 y8 y9 y10 y11 y12 y13 y14 y15 y16 y17 y18 y19 y20 y21 y22 y23 y24 y25 y26 y27 y28 y29 y30 y31 y32 y33 y34 y35 y36 y37 y38 y39 y40 y41 y42 y43 y44 y45 y46 y47 y48 y49 y50 y51 y52 y53 y54 y55 y56 y57 y58 y59 y60 y61 y62 y63 y64 y65 y66:Addr)
 (z0 z1 z2 z3 z4 z5 z6 z7 z8 z9 z10 z11 z12 z13 z14 z15 z16 z17 z18 z19 z20 z21 z22 z23 z24 z25 z26 z27 z28 z29 z30 z31 z32 z33 z34 z35 z36 z37 z38 z39 z40 z41 z42 z43 z44 z45 z46 z47 z48 z49 z50 z51 z52 z53 z54 z55 z56 z57 z58 z59 z60 z61 z62 z63 z64 z65 z66:FuncData)
 (C_TimeError C_BadWorld C_BadSentence C_Table C_Shorts C_World D_LENGTHS D_LINES Y_YES Y_STEADY_WORDS:Addr)
 (Pm:Params)
structure Txt(K:W.Frag)(mg:Str->Option Value)(a:Adr):Prop where
 bF:Fg K mg "is_whole" zF dy a.y0 a.z0
 bW:Fg K mg "is_name" Uq dy a.y1 a.z1
 cy:Fg K mg "is_room" yT dz a.y2 a.z2
 bt:Fg K mg "are_names" W8 dy a.y3 a.z3
 bK:Fg K mg "are_rooms" V2 dz a.y4 a.z4
 bg:Fg K mg "last_ones" V1 dY a.y5 a.z5
 bL:Fg K mg "is_formed" YF dy a.y6 a.z6
 bf:Fg K mg "inner_of" WK du a.y7 a.z7
 aT:Fg K mg "inner_ahead" YK du a.y8 a.z8
 bX:Fg K mg "core_of" Vv du a.y9 a.z9
 bM:Fg K mg "core_with" ZT dD a.y10 a.z10
 ck:Fg K mg "and_of" Up dC a.y11 a.z11
 cG:Fg K mg "or_of" qO dC a.y12 a.z12
 bN:Fg K mg "within_of" Vd dQ a.y13 a.z13
 bo:Fg K mg "row_with" UX dD a.y14 a.z14
 aY:Mg K a.C_Table "__init__" "Table.__init__" UJ dr a.y15 a.z15
 ae:Mg K a.C_Table "number_of" "Table.number_of" YQ eh a.y16 a.z16
 ah:Mg K a.C_Table "taken_in" "Table.taken_in" Xn dZ a.y17 a.z17
 az:Mg K a.C_Table "inner_numbers" "Table.inner_numbers" ZE dE a.y18 a.z18
 cO:Fg K mg "below" k3 ["row"] a.y19 a.z19
 b9:Fg K mg "parts_of" U6 ["core"] a.y20 a.z20
 cA:Fg K mg "shorter" Wi du a.y21 a.z21
 bu:Mg K a.C_Shorts "__init__" "Shorts.__init__" X6 dr a.y22 a.z22
 aN:Mg K a.C_Shorts "both_of" "Shorts.both_of" YJ dA a.y23 a.z23
 aH:Mg K a.C_Shorts "short_of" "Shorts.short_of" ZP dA a.y24 a.z24
 aB:Mg K a.C_Shorts "joined" "Shorts.joined" Yd eo a.y25 a.z25
 al:Mg K a.C_Shorts "is_double" "Shorts.is_double" Y3 eG a.y26 a.z26
 aj:Mg K a.C_Shorts "word_of" "Shorts.word_of" WM dE a.y27 a.z27
 bb:Mg K a.C_Shorts "made" "Shorts.made" Xk dA a.y28 a.z28
 cR:Fg K mg "read" Zaa ft a.y29 a.z29
 bC:Fg K mg "read_along" Uy fq a.y30 a.z30
 bO:Fg K mg "ground_of" W7 fo a.y31 a.z31
 bP:Fg K mg "told_sets" VW eQ a.y32 a.z32
 bv:Fg K mg "ground_rows" Yo eP a.y33 a.z33
 bx:Fg K mg "room_truths" Yz eO a.y34 a.z34
 bQ:Fg K mg "read_rows" Yk eK a.y35 a.z35
 cB:Fg K mg "trimmed" qP eJ a.y36 a.z36
 aW:Fg K mg "stretched" Vb dX a.y37 a.z37
 aF:Fg K mg "stretched_both" XX eI a.y38 a.z38
 bG:Fg K mg "not_line" UZ dq a.y39 a.z39
 bH:Fg K mg "and_line" UG dq a.y40 a.z40
 bz:Fg K mg "next_line" qB dq a.y41 a.z41
 bj:Fg K mg "until_line" Xb dq a.y42 a.z42
 bc:Fg K mg "before_line" V6 dq a.y43 a.z43
 bm:Fg K mg "since_line" XU dq a.y44 a.z44
 bD:Mg K a.C_World "__init__" "World.__init__" Xd fh a.y45 a.z45
 aC:Mg K a.C_World "many" "World.many" UR dr a.y46 a.z46
 aO:Mg K a.C_World "signs_of" "World.signs_of" WI dG a.y47 a.z47
 cC:Mg K a.C_World "ways_on" "World.ways_on" Vi dG a.y48 a.z48
 cF:Mg K a.C_World "begins" "World.begins" VE dr a.y49 a.z49
 bY:Mg K a.C_World "fair_signs" "World.fair_signs" Wc dr a.y50 a.z50
 bA:Fg K mg "makes_world" YA fg a.y51 a.z51
 aQ:Fg K mg "are_some_rooms" XR dz a.y52 a.z52
 aM:Fg K mg "_law_cell_at" VI fk a.y53 a.z53
 aJ:Fg K mg "_law_stream" Yc eN a.y54 a.z54
 bB:Fg K mg "_law_some" Wm dU a.y55 a.z55
 bE:Fg K mg "_law_lists" Z3 fb a.y56 a.z56
 bR:Fg K mg "_law_made" Wf fj a.y57 a.z57
 bS:Fg K mg "_law_leaf" qr ["_law_x"] a.y58 a.z58
 ce:Fg K mg "_law_row" WP eW a.y59 a.z59
 bT:Fg K mg "_law_step" Xe eY a.y60 a.z60
 aa:Fg K mg "_law_size" V3 dJ a.y61 a.z61
 aG:Fg K mg "_law_deep" V0 dJ a.y62 a.z62
 a8:Fg K mg "_law_sentences" Yf fe a.y63 a.z63
 cf:Fg K mg "_law_run" YC eU a.y64 a.z64
 bU:Fg K mg "_law_sets" Xr eT a.y65 a.z65
 di:Fg K mg "law" Va fu a.y66 a.z66
 cL:mg "ValueError" = none
 cU:mg "all" = none
 bq:mg "reversed" = none
 aX:mg "range" = none
 aD:mg "tuple" = none
 av:mg "len" = none
 a9:mg "list" = none
 ak:mg "isinstance" = none
 db:mg "int" = none
 de:mg "set" = none
 cY:mg "max" = none
 dj:mg "zip" = none
 df:mg "bool" = none
 dg:mg "str" = none
 cp:mg "sorted" = none
 dh:mg "sum" = none
 cM:∃u,mg "LETTERS" = some u/\Z6 (.str "abcdefghijklmnopqrstuvwxyz") u
 bI:∃u,mg "MOST_LETTERS" = some u/\Z6 (.int 8) u
 bZ:∃u,mg "MOST_WITHIN" = some u/\Z6 (.int 5) u
 cg:∃u,mg "MOST_ROOMS" = some u/\Z6 (.int 20) u
 cD:∃u,mg "MOST_FAIR" = some u/\Z6 (.int 3) u
 cP:mg "TimeError" = some (.ref a.C_TimeError)
 cQ:W.excIn K a.C_TimeError [.type "ValueError",.type "Exception",.type "BaseException",.type "object"] "ValueError.__new__" = true
 cW:mg "BadWorld" = some (.ref a.C_BadWorld)
 cX:W.excIn K a.C_BadWorld [.type "ValueError",.type "Exception",.type "BaseException",.type "object"] "ValueError.__new__" = true
 cH:mg "BadSentence" = some (.ref a.C_BadSentence)
 cI:W.excIn K a.C_BadSentence [.type "ValueError",.type "Exception",.type "BaseException",.type "object"] "ValueError.__new__" = true
 k_BadWorld:ZhK K a.C_BadWorld
 k_BadSentence:ZhK K a.C_BadSentence
 nk_signs:W.nsIn K a.D_LENGTHS "signs" = some none
 nk_Next:W.nsIn K a.D_LENGTHS "Next" = some none
 cJ:mg "YES" = some (.ref a.Y_YES)
 y_YES:∀H:Hp,SqT K H a.Y_YES [.str "yes"]
 bJ:mg "STEADY_WORDS" = some (.ref a.Y_STEADY_WORDS)
 y_STEADY_WORDS:∀H:Hp,SqT K H a.Y_STEADY_WORDS [.str "next",.str "always",.str "ever",.str "until",.str "within",.str "once",.str "sofar",.str "since"]
 cE:mg "LENGTHS" = some (.ref a.D_LENGTHS)
 br:ZgC K a.Pm a.D_LENGTHS [("all",2),("some",2),("not",2),("next",2),("always",2),("ever",2),("before",2),("once",2),("sofar",2),("until",3),("since",3)]
 cZ:mg "LINES" = some (.ref a.D_LINES)
 c8:Zhm K a.Pm a.D_LINES [("not",a.y39),("and",a.y40),("next",a.y41),("until",a.y42),("before",a.y43),("since",a.y44)]
 ai:Cls K a.C_Table
 cK:mg "Table" = some (.ref a.C_Table)
 cu:Mk K a.C_Table a.y15
 aA:X3 K a.C_Table "parts"
 ao:X3 K a.C_Table "rows"
 ay:X3 K a.C_Table "numbers"
 ab:Cls K a.C_Shorts
 cS:mg "Shorts" = some (.ref a.C_Shorts)
 cN:Mk K a.C_Shorts a.y22
 ag:X3 K a.C_Shorts "table"
 aU:X3 K a.C_Shorts "yes"
 aZ:X3 K a.C_Shorts "no"
 aV:Cls K a.C_World
 c9:mg "World" = some (.ref a.C_World)
 cT:Mk K a.C_World a.y45
 aE:X3 K a.C_World "room_signs"
 bn:X3 K a.C_World "room_ways"
 ba:X3 K a.C_World "start_rooms"
 bh:X3 K a.C_World "fair_names"
abbrev Okd(P:Program)(w:World)(K:W.Frag)(mg:Str->Option Value)(base:Heap)(a:Adr)(k:Nat)(f:Addr)(fd:FuncData)(ps:List Str)(sp:W.Frag->Adr->Sp):Prop:=∀(_:Txt K mg a) (_:w.params=a.Pm),Uo P w K mg base CX0 k f fd ps (sp K a)
end KK
variable{a:KK.Adr}
namespace KK
open PySem PySem.Spec L2 L3
def ZcO(K:W.Frag)(a:Adr):Sp:=fun vs H Q _=>Ex4 fun(p:Addr) (us:List V) (cs:List Tr) (n:Nat)=>Cj6 (vs=[.ref p]) (H p=some (.lst us)) (AtL K n H us cs) (cs.length<=8) (1<=n) (∀H' v,Zg H H'->At K (n+24) H' v (orT cs)->Q v H')
theorem KC:Okd P w K mg base a 1 a.y12 a.z12 dC ZcO:=fun T hw=>by
 refine okX T.cG.f zS fun dn A outer s H E hr=>?_;intro X;have hK:X.K=K:=rfl
 let d1:Rdg X qO [2,0,0]:=⟨_,(@Zf _ _ _ (@Zo _ _ (1) _ _ _ _ zS.nd rfl (.inl rfl) (@ZH _ _ _ _ _ (@Za _ _ _ _ _ Zl (@Za _ _ _ _ _ (@ZH _ _ _ _ _ (@Za _ _ _ _ _ Zl (@Za _ _ _ _ _ (@ZH _ _ _ _ _ (@Za _ _ _ _ _ (@ZH _ _ _ _ _ (@Za _ _ _ _ _ Zl (@Za _ _ _ _ _ (pv 2) Zb rfl) rfl)) (@Za _ _ _ _ _ (@ZH _ _ _ _ _ (@Za _ _ _ _ _ Zl (@Za _ _ _ _ _ (pv 1) Zb rfl) rfl)) Zb rfl) rfl)) Zb rfl) rfl)) Zb rfl) rfl)) rfl (.inl rfl)))⟩
 let d2:Rdg X qO [2]:=⟨_,(@Zc _ _ _ _ _ (Xp gE rfl (xN hK rfl T.bq (@Za _ _ _ _ _ (Z1 (YI hK) (pv 0) Yr (Z4 (VY WB Ze))) Zb rfl)) (Zz (i:=2) zS.nd rfl (.inl rfl)) d1.2) (@Zf _ _ _ (@Zm _ _ _ _ (pv 1))))⟩
 let d3:Rdg X qO [1]:=⟨_,(@Zc _ _ _ _ _ (@Zo _ _ (1) _ _ _ _ zS.nd rfl (.inl rfl) (@Zq _ _ _ _ _ _ _ (Zk hK) (pv 0) (VY WB Ze) (fun _ _=>rfl)) rfl (.inl rfl)) d2.2)⟩
 intro vs Q h;obtain⟨p,us,cs,n,rfl,hp,aL,h8,hn,k⟩:=h;refine⟨_,(@Zc _ _ _ _ _ (@ZJ _ _ _ _ _ _ _ _ (@Xy _ _ _ _ (Wk hK (pv 0) (fun _=>rfl))) (@Zf _ _ _ (@Zm _ _ _ _ (@ZH _ _ _ _ _ (@Za _ _ _ _ _ Zl (@Za _ _ _ _ _ (W9 (v:=.ref a.Y_YES) rfl ⟨_,T.cJ,rfl⟩) Zb rfl) rfl)))) Zw) d3.2),?_⟩;have pc:=aL.1;refine⟨_,rfl,!us.isEmpty,.inl ⟨_,nS hp,rfl⟩,?_⟩;cases uK:us.isEmpty with
 |true=>
  have e0:us=[]:=mC.mp uK;subst e0;have et:cs=[]:=gX.mp pc.symm;subst et;refine YM ⟨zl,fun t ht=>?_⟩;have s4:=Zi (o:=.tup [.str "not",.ref a.Y_YES]) ht;exact k _ _ s4 ((X7 (nU Zd) (by left) (Uc (T.y_YES _):At K (0+1) _ _ ZA)).le (by lia))
 |false=>
  have oA:us≠[]:=fun e=>by rw[e] at uK;cases uK
  obtain⟨ws,u,ds,d,ew,ed,aw,au⟩:=aL.last oA;subst ew ed;have rP:=aw.1;refine Yn ?_;refine⟨_,rfl,1,rfl,p,_,_,u,rfl,rfl,nS hp,yx,?_⟩;refine⟨_,rfl,1,rfl,_,rfl,p,_,rfl,nS hp,fun c hc=>?_⟩;rw[KB _ (by simp)];have ec:(ws++[u]).take ((ws++[u]).length-1)=ws:=by simp
  rw[ec];have s1:=Zi (o:=.lst ws) hc;have e1:(upd H c (.lst ws)) c=some (.lst ws):=Zd;generalize upd H c (.lst ws)=H1 at s1 e1 ⊢;refine⟨c,ws,rfl,nS e1,?_⟩
  let J1:Nat->L2.St->Hp->Prop:=fun i U H'=>Ex2 fun(z:Option V) (v:V)=>Cj3 (U=[qr0 p,some v,z]) (Zg H1 H') (At K (n+3*i) H' v (orT (ds.drop (ws.length-i)++[d])))
  refine WZ (J:=Itv K c ws.length) (n:=ws.length) J1 ?_ ?_ ?_ ?_ ?_
  ·refine⟨_,u,rfl,.refl _,?_⟩;rw[mV,rP,List.drop_length,mh];exact(au.mono (nT s1)).le (by lia)
  ·rintro i U H' hi ⟨z,v,rfl,s',_⟩;exact⟨hi,ws,nS (s' _ _ e1),rfl⟩
  ·rintro U H' _;exact fH _
  ·rintro i x U H2 Cp hi ⟨z,v,rfl,s2,pK⟩ ⟨rfl,hx⟩;have e:=hx ws (nS (s2 _ _ e1));have hj:ws.length-1-i<ds.length:=by lia
   have ED:=(aw.2 _ _ _ e (fG hj)).mono (nT (s1.trans s2));refine⟨_,rfl,zl,fun t1 rC=>?_⟩;have s3:=Zi (o:=.tup [.str "not",x]) rC;have e3:(upd Cp t1 (.tup [.str "not",x])) t1=some (.tup [.str "not",x]):=Zd;generalize upd Cp t1 (.tup [.str "not",x])=H3 at s3 e3 ⊢;refine⟨_,rfl,zl,fun t2 tK=>?_⟩;have s4:=Zi (o:=.tup [.str "not",v]) tK;have e4:(upd H3 t2 (.tup [.str "not",v])) t2=some (.tup [.str "not",v]):=Zd;generalize upd H3 t2 (.tup [.str "not",v])=H4 at s4 e4 ⊢;refine⟨zl,fun b hb=>?_⟩;have s5:=Zi (o:=.tup [.ref t1,.ref t2]) hb;have e5:(upd H4 b (.tup [.ref t1,.ref t2])) b=some (.tup [.ref t1,.ref t2]):=Zd;generalize upd H4 b (.tup [.ref t1,.ref t2])=H5 at s5 e5 ⊢;refine⟨zl,fun t3 tZ=>?_⟩;have s6:=Zi (o:=.tup [.str "and",.ref b]) tZ;have e6:(upd H5 t3 (.tup [.str "and",.ref b])) t3=some (.tup [.str "and",.ref b]):=Zd;generalize upd H5 t3 (.tup [.str "and",.ref b])=H6 at s6 e6 ⊢;refine⟨zl,fun t4 wE=>?_⟩;have s7:=Zi (o:=.tup [.str "not",.ref t3]) wE;have e7:(upd H6 t4 (.tup [.str "not",.ref t3])) t4=some (.tup [.str "not",.ref t3]):=Zd;generalize upd H6 t4 (.tup [.str "not",.ref t3])=H7 at s7 e7 ⊢;have DQ:=s5.trans (s6.trans s7);refine⟨_,.ref t4,rfl,s2.trans (s3.trans (s4.trans DQ)),?_⟩;have ed:ds.drop (ws.length-(i+1))=ds[ws.length-1-i]::ds.drop (ws.length-i):=by
    have wB:ws.length-(i+1)=ws.length-1-i:=by lia
    have Dg:ws.length-i=ws.length-1-i+1:=by lia
    rw[wB,Dg];exact mY hj
   rw[ed,mi,Zev (by simp)];have T7:=nT (s3.trans (s4.trans DQ));have wn:("not" : Str)∈W1:=by left
   have q1:At K (n+3*i+1) H7 (.ref t1) (ZY ds[ws.length-1-i]):=X7 (nU ((s4.trans DQ) _ _ e3)) wn ((ED.le (by lia)).mono T7);have q2:At K (n+3*i+1) H7 (.ref t2) (ZY _):=X7 (nU (DQ _ _ e4)) wn (pK.mono T7);exact X7 (nU e7) wn (Qv (nU (s7 _ _ e6)) (nU ((s6.trans s7) _ _ e5)) (AtL.two q1 q2) (.inl rfl) (by simp))
  rintro U H2 ⟨z,v,rfl,s2,pK⟩;rw[ij,ω] at pK;simp at h8;exact⟨_,rfl,k _ v (s1.trans s2) (pK.le (by lia))⟩
def ZbB(K:W.Frag)(a:Adr):Sp:=fun vs H Q _=>Ex4 fun(p:Addr) (us:List V) (cs:List Tr) (n:Nat)=>Cj6 (vs=[.ref p]) (H p=some (.lst us)) (AtL K n H us cs) (cs.length<=8) (1<=n) (∀H' v,Zg H H'->At K (n+8) H' v (Wz cs)->Q v H')
theorem j5:Okd P w K mg base a 1 a.y11 a.z11 dC ZbB:=fun T hw=>by
 refine okX T.ck.f qR fun dn A outer s H E hr=>?_;intro X;have hK:X.K=K:=rfl
 let d1:Rdg X Up [2,0,0]:=⟨_,(Zf (Zo (i:=1) qR.nd rfl (.inl rfl) (ZH (Za Zl (Za (ZH (Za (pv 2) (Za (pv 1) Zb rfl) rfl)) Zb rfl) rfl)) rfl (.inl rfl)))⟩
 let d2:Rdg X Up [2]:=⟨_,(Zc (Xp gE rfl (xN hK rfl T.bq (Za (Z1 (YI hK) (pv 0) Yr (Z4 (VY WB Ze))) Zb rfl)) (Zz (i:=2) qR.nd rfl (.inl rfl)) d1.2) (Zf (Zm (pv 1))))⟩
 let d3:Rdg X Up [1]:=⟨_,(Zc (Zo (i:=1) qR.nd rfl (.inl rfl) (Zq (Zk hK) (pv 0) (VY WB Ze) (fun _ _=>rfl)) rfl (.inl rfl)) d2.2)⟩
 intro vs Q h;obtain⟨p,us,cs,n,rfl,hp,aL,h8,hn,k⟩:=h;refine⟨_,(Zc (ZJ (Xy (Wk hK (pv 0) (fun _=>rfl))) (Zf (Zm (W9 (v:=.ref a.Y_YES) rfl ⟨_,T.cJ,rfl⟩))) Zw) d3.2),?_⟩;have pc:=aL.1;refine⟨_,rfl,!us.isEmpty,.inl ⟨_,nS hp,rfl⟩,?_⟩;cases uK:us.isEmpty with
 |true=>
  have e0:us=[]:=mC.mp uK;subst e0;have et:cs=[]:=gX.mp pc.symm;subst et;exact YM (k H _ (.refl _) ((Uc (T.y_YES H):At K (0+1) H _ ZA).le (by lia)))
 |false=>
  have oA:us≠[]:=fun e=>by rw[e] at uK;cases uK
  obtain⟨ws,u,ds,d,ew,ed,aw,au⟩:=aL.last oA;subst ew ed;have rP:=aw.1;refine Yn ?_;refine⟨_,rfl,1,rfl,p,_,_,u,rfl,rfl,nS hp,yx,?_⟩;refine⟨_,rfl,1,rfl,_,rfl,p,_,rfl,nS hp,fun c hc=>?_⟩;rw[KB _ (by simp)];have ec:(ws++[u]).take ((ws++[u]).length-1)=ws:=by simp
  rw[ec];have s1:=Zi (o:=.lst ws) hc;have e1:(upd H c (.lst ws)) c=some (.lst ws):=Zd;generalize upd H c (.lst ws)=H1 at s1 e1 ⊢;refine⟨c,ws,rfl,nS e1,?_⟩
  let J1:Nat->L2.St->Hp->Prop:=fun i U H'=>Ex2 fun(z:Option V) (v:V)=>Cj3 (U=[qr0 p,some v,z]) (Zg H1 H') (At K (n+i) H' v (Wz (ds.drop (ws.length-i)++[d])))
  refine WZ (J:=Itv K c ws.length) (n:=ws.length) J1 ?_ ?_ ?_ ?_ ?_
  ·refine⟨_,u,rfl,.refl _,?_⟩;rw[mV,rP,List.drop_length,mh];exact(au.mono (nT s1)).le (by lia)
  ·rintro i U H' hi ⟨z,v,rfl,s',_⟩;exact⟨hi,ws,nS (s' _ _ e1),rfl⟩
  ·rintro U H' _;exact fH _
  ·rintro i x U H2 Cp hi ⟨z,v,rfl,s2,pK⟩ ⟨rfl,hx⟩;have e:=hx ws (nS (s2 _ _ e1));have hj:ws.length-1-i<ds.length:=by lia
   have ED:=(aw.2 _ _ _ e (fG hj)).mono (nT (s1.trans s2));refine⟨_,rfl,_,rfl,zl,fun b hb=>?_⟩;have s3:=Zi (o:=.tup [x,v]) hb;have e3:(upd Cp b (.tup [x,v])) b=some (.tup [x,v]):=Zd;generalize upd Cp b (.tup [x,v])=H3 at s3 e3 ⊢;refine⟨zl,fun t ht=>?_⟩;have s4:=Zi (o:=.tup [.str "and",.ref b]) ht;have e4:(upd H3 t (.tup [.str "and",.ref b])) t=some (.tup [.str "and",.ref b]):=Zd;generalize upd H3 t (.tup [.str "and",.ref b])=H4 at s4 e4 ⊢;refine⟨_,.ref t,rfl,s2.trans (s3.trans s4),?_⟩;have ed:ds.drop (ws.length-(i+1))=ds[ws.length-1-i]::ds.drop (ws.length-i):=by
    have wB:ws.length-(i+1)=ws.length-1-i:=by lia
    have Dg:ws.length-i=ws.length-1-i+1:=by lia
    rw[wB,Dg];exact mY hj
   rw[ed,mi,Zbw (by simp)];have T4:=nT (s3.trans s4);exact Qv (nU e4) (nU (s4 _ _ e3)) (AtL.two ((ED.le (show n<=n+i by lia)).mono T4) (pK.mono T4)) (.inl rfl) (by simp)
  rintro U H2 ⟨z,v,rfl,s2,pK⟩;rw[ij,ω] at pK;simp at h8;exact⟨_,rfl,k _ v (s1.trans s2) (pK.le (by lia))⟩
def Jt(K:W.Frag)(a:Adr):Sp:=fun vs H Q _=>Ex6 fun(m:Int) (f s:V) (tf ts:Tr) (n:Nat)=>Cj5 (vs=[.int m,f,s]) ((0<=m/\m<=5)) (At K n H f tf) (At K n H s ts) (∀H' v,Zg H H'->At K (n+25) H' v (Yb m.toNat tf ts)->Q v H')
theorem kX:Okd P w K mg base a 2 a.y13 a.z13 dQ Jt:=fun T hw=>by
 refine okX T.bN.f Vp fun dn A outer s H E hr=>?_;intro X
 let d1:Rdg X Vd [1,0,0]:=⟨_,(Zf (Zo (i:=3) Vp.nd rfl (.inl rfl) (ZK T.cG (KC T hw) hr rfl rfl (Za (Z7 (Za (pv 2) (Za (ZK T.ck (j5 T hw) hr rfl rfl (Za (Z7 (Za (pv 1) (Za (ZH (Za Zl (Za (pv 3) Zb rfl) rfl)) Zb rfl) rfl)) Zb rfl)) Zb rfl) rfl)) Zb rfl)) rfl (.inl rfl)))⟩
 let d2:Rdg X Vd [1]:=⟨_,(Zc (Xp gE rfl (Y9 rfl T.aX (Za (pv 0) Zb rfl)) (Zz (i:=4) Vp.nd rfl (.inl rfl)) d1.2) (Zf (Zm (pv 3))))⟩
 intro vs Q h;obtain⟨m,f,s,tf,ts,n,rfl,hm,af,as,k⟩:=h;refine⟨_,(Zc (Zo (i:=3) Vp.nd rfl (.inl rfl) (pv 2) rfl (.inl rfl)) d2.2),?_⟩;have hf:=af.hgt_le;have hs:=as.hgt_le;have hn:1<=n:=gg (ZaH ts) hs;refine⟨_,rfl,_,rfl,_,rfl,by lia,by lia,?_⟩
 let J1:Nat->L2.St->Hp->Prop:=fun i U H'=>Ex2 fun(z:Option V) (v:V)=>Cj3 (U=[some (.int m),some f,some s,some v,z]) (Zg H H') (At K (n+25) H' v (Yb i tf ts))
 refine Zcj J1 ?_ ?_ ?_
 ·exact⟨_,s,rfl,.refl _,as.le (by lia)⟩
 ·rintro i U H1 hi ⟨z,v,rfl,s1,rz⟩;have Cb:i<m.toNat:=hi;have T1:=nT s1;refine⟨_,rfl,_,rfl,_,rfl,zl,fun t ht=>?_⟩;have s2:=Zi (o:=.tup [.str "next",v]) ht;have e2:(upd H1 t (.tup [.str "next",v])) t=some (.tup [.str "next",v]):=Zd;generalize upd H1 t (.tup [.str "next",v])=H2 at s2 e2 ⊢;refine⟨zl,fun L hL=>?_⟩;have s3:=Zi (o:=.lst [f,.ref t]) hL;have e3:(upd H2 L (.lst [f,.ref t])) L=some (.lst [f,.ref t]):=Zd;generalize upd H2 L (.lst [f,.ref t])=H3 at s3 e3 ⊢;have rT:=s1.trans (s2.trans s3);have q1:At K (n+26) H3 (.ref t) (zu (Yb i tf ts)):=X7 (nU (s3 _ _ e2)) (by left) (rz.mono (nT (s2.trans s3)));refine⟨L,_,[tf,zu (Yb i tf ts)],n+26,rfl,e3,AtL.two ((af.le (by lia)).mono (nT rT)) q1,by simp,by lia,fun H4 v4 s4 Ck=>?_⟩;refine⟨zl,fun DD wZ=>?_⟩;have s5:=Zi (o:=.lst [s,v4]) wZ;have e5:(upd H4 DD (.lst [s,v4])) DD=some (.lst [s,v4]):=Zd;generalize upd H4 DD (.lst [s,v4])=H5 at s5 e5 ⊢;have wm:=rT.trans (s4.trans s5);refine⟨DD,_,[ts,Wz [tf,zu (Yb i tf ts)]],n+34,rfl,e5,AtL.two ((as.le (by lia)).mono (nT wm)) (Ck.mono (nT s5)),by simp,by lia,fun H6 v6 s6 uy=>?_⟩;refine⟨_,v6,rfl,wm.trans s6,?_⟩;have e6:orT [ts,Wz [tf,zu (Yb i tf ts)]]=Yb (i+1) tf ts:=rfl;rw[e6] at uy;refine uy.fit ?_;have:=Q1 hf hs (i+1);lia
 rintro U H1 ⟨z,v,rfl,s1,rz⟩;exact⟨_,rfl,k _ v s1 rz⟩
def Ja(K:W.Frag)(a:Adr):Sp:=fun vs H Q _=>Ex8 fun(v:V) (c:Lb) (ks:List Tr) (n:Nat) (p:Addr) (us:List V) (cs:List Tr) (m:Nat)=>Cj7 (vs=[v,.ref p]) (At K n H v (.node c ks)) (H p=some (.lst us)) (AtL K m H us cs) (cs.length=ks.length) (1<=m) (∀H' v',Zg H H'->At K (m+27) H' v' (YW c cs)->Q v' H')
theorem AtL.first{us:List V}(h:AtL K n H us cs)(hl:1<=cs.length):∃u ur c cr,us=u::ur/\cs=c::cr/\At K n H u c:=by
 have hu:=h.1
 match us,cs,h,hl,hu with
 |u::ur,c::cr,h,_,_=>exact⟨u,ur,c,cr,rfl,rfl,h.2 0 u c rfl rfl⟩
 |[],c::cr,h,_,hu=>simp at hu
theorem AtL.pair{us:List V}(h:AtL K n H us cs)(hl:cs.length=2):∃u v c d,us=[u,v]/\cs=[c,d]/\At K n H u c/\At K n H v d:=by
 have hu:=h.1
 match us,cs,h,hl,hu with
 |[u,v],[c,d],h,_,_=>exact⟨u,v,c,d,rfl,rfl,h.2 0 u c rfl rfl,h.2 1 v d rfl rfl⟩
 |[],[c,d],h,_,hu=>simp at hu
 |[u],[c,d],h,_,hu=>simp at hu
 |u::v::w::r,[c,d],h,_,hu=>simp at hu
theorem J0:Okd P w K mg base a 3 a.y10 a.z10 dD Ja:=fun T hw=>by
 refine okX T.bM.f ye fun dn A outer s H E hr=>?_;intro X;have hK:X.K=K:=rfl
 let d1:Rdg X ZT [4,0,0]:=⟨_,(@Zf _ _ _ (@Zm _ _ _ _ (@ZH _ _ _ _ _ (@Za _ _ _ _ _ Zl (@Za _ _ _ _ _ (@ZH _ _ _ _ _ (@Za _ _ _ _ _ Zl (@Za _ _ _ _ _ (@ZH _ _ _ _ _ (@Za _ _ _ _ _ Zl (@Za _ _ _ _ _ (@Zq _ _ _ _ _ _ _ (Zk hK) (pv 1) Ze (fun _ _=>rfl)) Zb rfl) rfl)) Zb rfl) rfl)) Zb rfl) rfl))))⟩
 let d2:Rdg X ZT [5,0,0]:=⟨_,(@Zf _ _ _ (@Zm _ _ _ _ (@ZH _ _ _ _ _ (@ZC _ _ _ _ _ Zl (@ZC _ _ _ _ _ (W9 (v:=.ref a.Y_YES) rfl ⟨_,T.cJ,rfl⟩) (@ZC _ _ _ _ _ (@Zq _ _ _ _ _ _ _ (Zk hK) (pv 1) Ze (fun _ _=>rfl)) Zb rfl) rfl) rfl))))⟩
 let d3:Rdg X ZT [6,0,0]:=⟨_,(@Zf _ _ _ (@Zm _ _ _ _ (@ZH _ _ _ _ _ (@Za _ _ _ _ _ Zl (@Za _ _ _ _ _ (@ZH _ _ _ _ _ (@ZC _ _ _ _ _ Zl (@ZC _ _ _ _ _ (W9 (v:=.ref a.Y_YES) rfl ⟨_,T.cJ,rfl⟩) (@ZC _ _ _ _ _ (@ZH _ _ _ _ _ (@Za _ _ _ _ _ Zl (@Za _ _ _ _ _ (@Zq _ _ _ _ _ _ _ (Zk hK) (pv 1) Ze (fun _ _=>rfl)) Zb rfl) rfl)) Zb rfl) rfl) rfl)) Zb rfl) rfl))))⟩
 let d4:Rdg X ZT [7,0,0]:=⟨_,(@Zf _ _ _ (@Zm _ _ _ _ (@ZH _ _ _ _ _ (@ZC _ _ _ _ _ Zl (@ZC _ _ _ _ _ (W9 (v:=.ref a.Y_YES) rfl ⟨_,T.cJ,rfl⟩) (@ZC _ _ _ _ _ (@Zq _ _ _ _ _ _ _ (Zk hK) (pv 1) Ze (fun _ _=>rfl)) Zb rfl) rfl) rfl))))⟩
 let d5:Rdg X ZT [8,0,0]:=⟨_,(@Zf _ _ _ (@Zm _ _ _ _ (@ZH _ _ _ _ _ (@Za _ _ _ _ _ Zl (@Za _ _ _ _ _ (@ZH _ _ _ _ _ (@ZC _ _ _ _ _ Zl (@ZC _ _ _ _ _ (W9 (v:=.ref a.Y_YES) rfl ⟨_,T.cJ,rfl⟩) (@ZC _ _ _ _ _ (@ZH _ _ _ _ _ (@Za _ _ _ _ _ Zl (@Za _ _ _ _ _ (@Zq _ _ _ _ _ _ _ (Zk hK) (pv 1) Ze (fun _ _=>rfl)) Zb rfl) rfl)) Zb rfl) rfl) rfl)) Zb rfl) rfl))))⟩
 let d6:Rdg X ZT [9,0,0]:=⟨_,(@Zf _ _ _ (@Zm _ _ _ _ (ZK T.bN (kX T hw) hr rfl rfl (@ZC _ _ _ _ _ (@Zq _ _ _ _ _ _ _ (ZD hK) (pv 0) Ze (fun _ _=>rfl)) (@ZC _ _ _ _ _ (@Zq _ _ _ _ _ _ _ (Zk hK) (pv 1) Ze (fun _ _=>rfl)) (@ZC _ _ _ _ _ (@Zq _ _ _ _ _ _ _ (Zk hK) (pv 1) Ze (fun _ _=>rfl)) Zb rfl) rfl) rfl))))⟩
 let d7:Rdg X ZT [10]:=⟨_,(@Zf _ _ _ (@Zm _ _ _ _ (@Zv _ _ _ _ _ _ _ _ (qC hK) (@ZH _ _ _ _ _ (@Za _ _ _ _ _ (pv 2) Zb rfl)) (ZI (Z9 hK) rfl T.aD nW (@Za _ _ _ _ _ (pv 1) Zb rfl)))))⟩
 let d8:Rdg X ZT [9]:=⟨_,(@Zc _ _ _ _ _ (@ZJ _ _ _ _ _ _ _ _ (@Zn _ _ _ _ _ _ _ _ ZO (pv 2) Zl (Zx _)) d6.2 Zw) d7.2)⟩
 let d9:Rdg X ZT [8]:=⟨_,(@Zc _ _ _ _ _ (@ZJ _ _ _ _ _ _ _ _ (@Zn _ _ _ _ _ _ _ _ ZO (pv 2) Zl (Zx _)) d5.2 Zw) d8.2)⟩
 let uj:Rdg X ZT [7]:=⟨_,(@Zc _ _ _ _ _ (@ZJ _ _ _ _ _ _ _ _ (@Zn _ _ _ _ _ _ _ _ ZO (pv 2) Zl (Zx _)) d4.2 Zw) d9.2)⟩
 let wp:Rdg X ZT [6]:=⟨_,(@Zc _ _ _ _ _ (@ZJ _ _ _ _ _ _ _ _ (@Zn _ _ _ _ _ _ _ _ ZO (pv 2) Zl (Zx _)) d3.2 Zw) uj.2)⟩
 let AW:Rdg X ZT [5]:=⟨_,(@Zc _ _ _ _ _ (@ZJ _ _ _ _ _ _ _ _ (@Zn _ _ _ _ _ _ _ _ ZO (pv 2) Zl (Zx _)) d2.2 Zw) wp.2)⟩
 let Bl:Rdg X ZT [4]:=⟨_,(@Zc _ _ _ _ _ (@ZJ _ _ _ _ _ _ _ _ (@Zn _ _ _ _ _ _ _ _ ZO (pv 2) Zl (Zx _)) d1.2 Zw) AW.2)⟩
 let AK:Rdg X ZT [3]:=⟨_,(@Zc _ _ _ _ _ (@ZJ _ _ _ _ _ _ _ _ (@Zn _ _ _ _ _ _ _ _ ZO (pv 2) Zl (Zx _)) (@Zf _ _ _ (@Zm _ _ _ _ (ZK T.cG (KC T hw) hr rfl rfl (@Za _ _ _ _ _ (pv 1) Zb rfl)))) Zw) Bl.2)⟩
 let DG:Rdg X ZT [2]:=⟨_,(@Zc _ _ _ _ _ (@ZJ _ _ _ _ _ _ _ _ (@Zn _ _ _ _ _ _ _ _ ZO (pv 2) Zl (Zx _)) (@Zf _ _ _ (@Zm _ _ _ _ (ZK T.ck (j5 T hw) hr rfl rfl (@Za _ _ _ _ _ (pv 1) Zb rfl)))) Zw) AK.2)⟩
 let Ef:Rdg X ZT [1]:=⟨_,(@Zc _ _ _ _ _ (@ZJ _ _ _ _ _ _ _ _ (@Zn _ _ _ _ _ _ _ _ (WJ hK) (pv 2) (@ZH _ _ _ _ _ (@Za _ _ _ _ _ Zl (@Za _ _ _ _ _ Zl Zb rfl) rfl)) (by with_unfolding_all rfl)) (@Zf _ _ _ (@Zm _ _ _ _ (pv 0))) Zw) DG.2)⟩
 intro vs Q h;obtain⟨v,c,ks,n,p,us,cs,m,rfl,ox,hp,aL,ri,hm,k⟩:=h;refine⟨_,(@Zc _ _ _ _ _ (@Zo _ _ (2) _ _ _ _ ye.nd rfl (.inl rfl) (@Zq _ _ _ _ _ _ _ (ZD hK) (pv 0) Ze (fun _ _=>rfl)) rfl (.inl rfl)) Ef.2),?_⟩;cases n with
 |zero=>exact ox.elim
 |succ n=>
  obtain⟨ad,us0,rfl,sh,ok,hl0,R9⟩:=ox;have pc:=aL.1;obtain⟨xs,e⟩:=sh.tup;refine⟨_,rfl,ad,_,_,_,rfl,rfl,e,Zh (j:=0) rfl,?_⟩;refine⟨_,rfl,zl,fun q hq=>⟨q,_,rfl,.inr (nU Zd),rfl,rfl,_,rfl,?_⟩⟩;have s1:=Zi (o:=.tup [.str "yes",.str "sign"]) hq;generalize upd H q (.tup [.str "yes",.str "sign"])=H1 at s1 ⊢;have pM:=sh.mono (nT s1);have CY:=aL.mono (nT s1);have rj:=s1 _ _ hp;have wn:("not" : Str)∈W1:=by left
  clear e xs sh R9
  revert pM ok
  cases c with
  |yes=>
   intro ok sh;exact zj (ss:=["yes","sign"]) (show("yes" : Str)∈(["yes","sign"]:List Str) by left) ⟨_,rfl,k _ _ s1 ((Uc sh.2:At K (0+1) H1 _ ZA).le (by lia))⟩
  |sign z=>
   intro ok sh;exact zj (ss:=["yes","sign"]) (show("sign" : Str)∈(["yes","sign"]:List Str) by left) ⟨_,rfl,k _ _ s1 ((U2 sh.2 ok.2:At K (0+1) H1 _ (.node (.sign z) [])).le (by lia))⟩
  |many w=>
   intro ok sh;have oO:w∈(["and","or"]:List Str):=by rcases ok.1 with rfl|rfl<;>simp
   have MS:cs.length<=8:=by rw[ri];exact ok.2
   refine XM (ss:=["yes","sign"]) (WH w oO).2.2.2.1 ?_;rcases ok.1 with rfl|rfl
   ·refine⟨_,rfl,rfl,_,rfl,Y7 rfl ?_⟩;exact⟨_,rfl,p,us,cs,m,rfl,rj,CY,MS,hm,fun H2 v2 s2 pK=>k _ _ (s1.trans s2) (pK.le (by lia))⟩
   ·refine⟨_,rfl,rfl,_,rfl,ZR (fun z=>(by left:¬(("or" : Str) = "and")) (V.str.inj z)) ?_⟩;refine⟨_,rfl,rfl,_,rfl,Y7 rfl ?_⟩;exact⟨_,rfl,p,us,cs,m,rfl,rj,CY,MS,hm,fun H2 v2 s2 pK=>k _ _ (s1.trans s2) (pK.le (by lia))⟩
  |wit j=>
   intro ok sh;refine XM (ss:=["yes","sign"]) (show("within" : Str)∉(["yes","sign"]:List Str) by left) ?_;refine⟨_,rfl,rfl,_,rfl,ZR (fun z=>(by left:¬(("within" : Str) = "and")) (V.str.inj z)) ?_⟩;refine⟨_,rfl,rfl,_,rfl,ZR (fun z=>(by left:¬(("within" : Str) = "or")) (V.str.inj z)) ?_⟩;refine⟨_,rfl,rfl,_,rfl,ZR (fun z=>(by left:¬(("within" : Str) = "all")) (V.str.inj z)) ?_⟩;refine⟨_,rfl,rfl,_,rfl,ZR (fun z=>(by left:¬(("within" : Str) = "ever")) (V.str.inj z)) ?_⟩;refine⟨_,rfl,rfl,_,rfl,ZR (fun z=>(by left:¬(("within" : Str) = "always")) (V.str.inj z)) ?_⟩;refine⟨_,rfl,rfl,_,rfl,ZR (fun z=>(by left:¬(("within" : Str) = "once")) (V.str.inj z)) ?_⟩;refine⟨_,rfl,rfl,_,rfl,ZR (fun z=>(by left:¬(("within" : Str) = "sofar")) (V.str.inj z)) ?_⟩;refine⟨_,rfl,rfl,_,rfl,Y7 rfl ?_⟩;obtain⟨u0,u1,c0,c1,rfl,rfl,a0,a1⟩:=AtL.pair CY (by rw[ri];exact ok.2);exact⟨_,rfl,ad,_,_,_,rfl,rfl,sh,Zh (j:=1) rfl,_,rfl,p,_,_,u0,rfl,rfl,nS rj,Zh (j:=0) rfl,_,rfl,p,_,_,u1,rfl,rfl,nS rj,Zh (j:=1) rfl,j,u0,u1,c0,c1,m,rfl,ok.1,a0,a1,fun H2 v2 s2 pK=>k _ _ (s1.trans s2) (pK.le (by lia))⟩
  |op w=>
   intro ok sh;obtain⟨h1,h2,h3,h4,h5⟩:=ya w (by rcases ok with ok|ok;exact gT _ ok.1;exact gy _ ok.1);have ou:1<=cs.length:=by
    rw[ri];rcases ok with o|o
    ·have h0:ks.length=1:=o.2;lia
    ·have h0:ks.length=2:=o.2;lia
   have B6:cs.length<=2:=by
    rw[ri];rcases ok with o|o
    ·have h0:ks.length=1:=o.2;lia
    ·have h0:ks.length=2:=o.2;lia
   obtain⟨u0,ur,c0,cr,rfl,rfl,a0⟩:=AtL.first CY ou;refine XM (ss:=["yes","sign"]) h5 ?_;refine⟨_,rfl,rfl,_,rfl,ZR (fun z=>h3 (by have ez:w = "and" := V.str.inj z;rw[ez];simp)) ?_⟩;refine⟨_,rfl,rfl,_,rfl,ZR (fun z=>h3 (by have ez:w = "or" := V.str.inj z;rw[ez];simp)) ?_⟩
   by_cases n1:w = "all"
   ·subst n1;refine⟨_,rfl,rfl,_,rfl,Y7 rfl ?_⟩;refine⟨_,rfl,p,_,_,u0,rfl,rfl,nS rj,Zh (j:=0) rfl,zl,fun t1 rC=>?_⟩;have s2:=Zi (o:=.tup [.str "not",u0]) rC;have e2:(upd H1 t1 (.tup [.str "not",u0])) t1=some (.tup [.str "not",u0]):=Zd;generalize upd H1 t1 (.tup [.str "not",u0])=H2 at s2 e2 ⊢;refine⟨zl,fun t2 tK=>?_⟩;have s3:=Zi (o:=.tup [.str "some",.ref t1]) tK;have e3:(upd H2 t2 (.tup [.str "some",.ref t1])) t2=some (.tup [.str "some",.ref t1]):=Zd;generalize upd H2 t2 (.tup [.str "some",.ref t1])=H3 at s3 e3 ⊢;refine⟨zl,fun t3 tZ=>?_⟩;have s4:=Zi (o:=.tup [.str "not",.ref t2]) tZ;have e4:(upd H3 t3 (.tup [.str "not",.ref t2])) t3=some (.tup [.str "not",.ref t2]):=Zd;generalize upd H3 t3 (.tup [.str "not",.ref t2])=H4 at s4 e4 ⊢;have q1:At K (m+1) H4 (.ref t1) (ZY c0):=X7 (nU ((s3.trans s4) _ _ e2)) wn (a0.mono (nT (s2.trans (s3.trans s4))));have q2:At K (m+2) H4 (.ref t2) (KR (ZY c0)):=X7 (nU (s4 _ _ e3)) (by left) q1;exact k _ _ (s1.trans (s2.trans (s3.trans s4))) ((X7 (nU e4) wn q2:At K (m+3) H4 _ (ZY (KR (ZY c0)))).le (by lia))
   refine⟨_,rfl,rfl,_,rfl,ZR (fun z=>n1 (V.str.inj z)) ?_⟩
   by_cases n2:w = "ever"
   ·subst n2;refine⟨_,rfl,rfl,_,rfl,Y7 rfl ?_⟩;refine⟨_,rfl,p,_,_,u0,rfl,rfl,nS rj,Zh (j:=0) rfl,zl,fun t1 rC=>?_⟩;have s2:=Zi (o:=.tup [.str "until",.ref a.Y_YES,u0]) rC;have e2:(upd H1 t1 (.tup [.str "until",.ref a.Y_YES,u0])) t1=some (.tup [.str "until",.ref a.Y_YES,u0]):=Zd;generalize upd H1 t1 (.tup [.str "until",.ref a.Y_YES,u0])=H2 at s2 e2 ⊢;exact k _ _ (s1.trans s2) ((xZ (nU e2) (by left) ((Uc (T.y_YES _):At K (0+1) H2 _ ZA).le (show 1<=m from hm)) (a0.mono (nT s2)):At K (m+1) H2 _ (.node (.op "until") [ZA,c0])).le (by lia))
   refine⟨_,rfl,rfl,_,rfl,ZR (fun z=>n2 (V.str.inj z)) ?_⟩
   by_cases n3:w = "always"
   ·subst n3;refine⟨_,rfl,rfl,_,rfl,Y7 rfl ?_⟩;refine⟨_,rfl,p,_,_,u0,rfl,rfl,nS rj,Zh (j:=0) rfl,zl,fun t1 rC=>?_⟩;have s2:=Zi (o:=.tup [.str "not",u0]) rC;have e2:(upd H1 t1 (.tup [.str "not",u0])) t1=some (.tup [.str "not",u0]):=Zd;generalize upd H1 t1 (.tup [.str "not",u0])=H2 at s2 e2 ⊢;refine⟨zl,fun t2 tK=>?_⟩;have s3:=Zi (o:=.tup [.str "until",.ref a.Y_YES,.ref t1]) tK;have e3:(upd H2 t2 (.tup [.str "until",.ref a.Y_YES,.ref t1])) t2=some (.tup [.str "until",.ref a.Y_YES,.ref t1]):=Zd;generalize upd H2 t2 (.tup [.str "until",.ref a.Y_YES,.ref t1])=H3 at s3 e3 ⊢;refine⟨zl,fun t3 tZ=>?_⟩;have s4:=Zi (o:=.tup [.str "not",.ref t2]) tZ;have e4:(upd H3 t3 (.tup [.str "not",.ref t2])) t3=some (.tup [.str "not",.ref t2]):=Zd;generalize upd H3 t3 (.tup [.str "not",.ref t2])=H4 at s4 e4 ⊢;have q1:At K (m+1) H4 (.ref t1) (ZY c0):=X7 (nU ((s3.trans s4) _ _ e2)) wn (a0.mono (nT (s2.trans (s3.trans s4))));have q2:At K (m+2) H4 (.ref t2) (.node (.op "until") [ZA,ZY c0]):=xZ (nU (s4 _ _ e3)) (by left) ((Uc (T.y_YES _):At K (0+1) H4 _ ZA).le (by lia)) q1;exact k _ _ (s1.trans (s2.trans (s3.trans s4))) ((X7 (nU e4) wn q2:At K (m+3) H4 _ (ZY (.node (.op "until") [ZA,ZY c0]))).le (by lia))
   refine⟨_,rfl,rfl,_,rfl,ZR (fun z=>n3 (V.str.inj z)) ?_⟩
   by_cases n4:w = "once"
   ·subst n4;refine⟨_,rfl,rfl,_,rfl,Y7 rfl ?_⟩;refine⟨_,rfl,p,_,_,u0,rfl,rfl,nS rj,Zh (j:=0) rfl,zl,fun t1 rC=>?_⟩;have s2:=Zi (o:=.tup [.str "since",.ref a.Y_YES,u0]) rC;have e2:(upd H1 t1 (.tup [.str "since",.ref a.Y_YES,u0])) t1=some (.tup [.str "since",.ref a.Y_YES,u0]):=Zd;generalize upd H1 t1 (.tup [.str "since",.ref a.Y_YES,u0])=H2 at s2 e2 ⊢;exact k _ _ (s1.trans s2) ((xZ (nU e2) (by left) ((Uc (T.y_YES _):At K (0+1) H2 _ ZA).le (show 1<=m from hm)) (a0.mono (nT s2)):At K (m+1) H2 _ (.node (.op "since") [ZA,c0])).le (by lia))
   refine⟨_,rfl,rfl,_,rfl,ZR (fun z=>n4 (V.str.inj z)) ?_⟩
   by_cases n5:w = "sofar"
   ·subst n5;refine⟨_,rfl,rfl,_,rfl,Y7 rfl ?_⟩;refine⟨_,rfl,p,_,_,u0,rfl,rfl,nS rj,Zh (j:=0) rfl,zl,fun t1 rC=>?_⟩;have s2:=Zi (o:=.tup [.str "not",u0]) rC;have e2:(upd H1 t1 (.tup [.str "not",u0])) t1=some (.tup [.str "not",u0]):=Zd;generalize upd H1 t1 (.tup [.str "not",u0])=H2 at s2 e2 ⊢;refine⟨zl,fun t2 tK=>?_⟩;have s3:=Zi (o:=.tup [.str "since",.ref a.Y_YES,.ref t1]) tK;have e3:(upd H2 t2 (.tup [.str "since",.ref a.Y_YES,.ref t1])) t2=some (.tup [.str "since",.ref a.Y_YES,.ref t1]):=Zd;generalize upd H2 t2 (.tup [.str "since",.ref a.Y_YES,.ref t1])=H3 at s3 e3 ⊢;refine⟨zl,fun t3 tZ=>?_⟩;have s4:=Zi (o:=.tup [.str "not",.ref t2]) tZ;have e4:(upd H3 t3 (.tup [.str "not",.ref t2])) t3=some (.tup [.str "not",.ref t2]):=Zd;generalize upd H3 t3 (.tup [.str "not",.ref t2])=H4 at s4 e4 ⊢;have q1:At K (m+1) H4 (.ref t1) (ZY c0):=X7 (nU ((s3.trans s4) _ _ e2)) wn (a0.mono (nT (s2.trans (s3.trans s4))));have q2:At K (m+2) H4 (.ref t2) (.node (.op "since") [ZA,ZY c0]):=xZ (nU (s4 _ _ e3)) (by left) ((Uc (T.y_YES _):At K (0+1) H4 _ ZA).le (by lia)) q1;exact k _ _ (s1.trans (s2.trans (s3.trans s4))) ((X7 (nU e4) wn q2:At K (m+3) H4 _ (ZY (.node (.op "since") [ZA,ZY c0]))).le (by lia))
   refine⟨_,rfl,rfl,_,rfl,ZR (fun z=>n5 (V.str.inj z)) ?_⟩;refine⟨_,rfl,rfl,_,rfl,ZR (fun z=>h4 (V.str.inj z)) ?_⟩;have hW:Zu (Tr.node (.op w) ks).lb=w:=rfl;rw[hW];refine⟨_,rfl,zl,fun t1 rC=>?_⟩;have s2:=Zi (o:=.tup [.str w]) rC;have e2:(upd H1 t1 (.tup [.str w])) t1=some (.tup [.str w]):=Zd;generalize upd H1 t1 (.tup [.str w])=H2 at s2 e2 ⊢;refine⟨_,rfl,p,_,rfl,.inl ⟨nS (s2 _ _ rj),fun b hb=>?_⟩⟩;have s3:=Zi (o:=.tup (u0::ur)) hb;have e3:(upd H2 b (.tup (u0::ur))) b=some (.tup (u0::ur)):=Zd;generalize upd H2 b (.tup (u0::ur))=H3 at s3 e3 ⊢;refine⟨t1,b,_,_,rfl,rfl,nU (s3 _ _ e2),nU e3,by simp,by rw[fJ];simp at pc B6 ⊢; lia,(fun z=>by cases z),fun _ r hr=>?_⟩;have s4:=Zi (o:=.tup ([.str w]++(u0::ur))) hr;have SM:=CY.mono (nT (s2.trans (s3.trans s4)));have ef:YW (.op w) (c0::cr)=.node (.op w) (c0::cr):=by
    unfold YW;dsimp only;rw[oo n1,oo n2,oo n3,oo n4,oo n5]
   refine k _ _ (s1.trans (s2.trans (s3.trans s4))) ?_;rw[ef];refine At.le (n:=m+1) ⟨r,u0::ur,rfl,nU Zd,?_,pc,SM.2⟩ (by lia)
   show Yi (.op w) (c0::cr).length
   rw[ri];exact ok
theorem Zah{k:Nat}(h:k<=20):0<(1:Int)*2 ^ ((k:Nat):Int).toNat/\(1:Int)*2 ^ ((k:Nat):Int).toNat<1073741824:=by
 have e:(2:Int) ^ k=((2 ^ k:Nat):Int):=by simp
 rw[hJ,Int.one_mul,e];have h1:2 ^ k<=2 ^ 20:=Nat.pow_le_pow_right (by left) h;have h2:0<2 ^ k:=Nat.pow_pos (by left);have h3:(2:Nat) ^ 20=1048576:=by left
 lia
def JY(K:W.Frag)(a:Adr):Sp:=fun vs H Q _=>Ex2 fun(x:Int) (m:Nat)=>Cj4 (vs=[.int x,.int (m:Nat)]) (1<=m) (m<=20) (∀H' p (ns:List Int),Zg H H'->H p=none->H' p=some (.lst (ns.map V.int))->ns≠[]->ns.Nodup->(∀y∈ns,0<=y/\y<(m:Nat))->Q (.ref p) H')
theorem yw:Okd P w K mg base a 1 a.y55 a.z55 dU JY:=fun T hw=>by
 refine okX T.bB.f UP fun dn A outer s H E hr=>?_;intro X
 let d1:Rdg X Wm [1,0,0]:=⟨_,(Zf (Zo (i:=2) UP.nd rfl (.inl rfl) (Z7 (Za (Zv Yx (Zv XL (pv 0) Ze) (pv 1)) Zb rfl)) rfl (.inl rfl)))⟩
 let d2:Rdg X Wm [1]:=⟨_,(Zc (ZJ (Zn (Jx (K:=K) rfl (Y8.units hr)) (pv 2) (Z7 Zb) (Zx _)) d1.2 Zw) (Zf (Zm (pv 2))))⟩
 intro vs Q h;obtain⟨x,m,rfl,m1,m2,k⟩:=h;refine⟨_,(Zc (Wh (i:=2) UP.nd rfl rfl (Nc:=["_law_k","_law_xs"]) (ix:=[none,some 0]) (ZX.of (by left:ZZ (Zj Wm) ["_law_xs","_law_most","_law_found"] _ _ _=true)) rfl (Y9 rfl T.aX (Za (pv 1) Zb rfl)) (fun _ _ _ _ _=>(Zz (i:=0) (show δ (["_law_k","_law_xs"]:List Str) by left) rfl (.inl rfl))) (fun _ _ _ _ _=>(UK (Zn ZO (Zv Yx (Zv XL (pv 1) (Zv QT Ze (pv 0))) Ze) Ze (Zx _)))) (fun _ _ _ _ _=>(pv 0))) d2.2),?_⟩;refine⟨_,rfl,_,rfl,by lia,by lia,?_⟩;rw[hJ];intro D hD;refine Ug (fun j=>decide (V.int (x/(1*2 ^ ((j:Nat):Int).toNat)%2)=V.int 1)) (fun j=>.int (j:Nat)) hD (by rw[fJ];lia) ?_ ?_
 ·intro j hj G N N0 sG h1 h2;refine⟨_,rfl,_,rfl,_,_,rfl,rfl,⟨by lia,by lia,by left⟩,_,_,rfl,rfl,Zah (by lia),_,_,rfl,rfl,by left,rfl,_,rfl,YY (fun c=>?_) (fun c=>?_)⟩
  ·exact⟨_,rfl,h1 _ (.refl _) c⟩
  ·exact h2 _ (.refl _) (by simpa using c)
 intro H1 e1 s1;have e2:((γ m).filter (fun j=>decide (V.int (x/(1*2 ^ ((j:Nat):Int).toNat)%2)=V.int 1))).map (fun j=>V.int (j:Nat))=(((γ m).filter (fun j=>decide (V.int (x/(1*2 ^ ((j:Nat):Int).toNat)%2)=V.int 1))).map (fun j:Nat=>(j:Int))).map V.int:=by rw[fR];rfl
 rw[e2] at e1;have nd:(((γ m).filter (fun j=>decide (V.int (x/(1*2 ^ ((j:Nat):Int).toNat)%2)=V.int 1))).map (fun j:Nat=>(j:Int))).Nodup:=xa (fun a b h=>by lia) (List.nodup_range.filter _);have bd:∀y∈(((γ m).filter (fun j=>decide (V.int (x/(1*2 ^ ((j:Nat):Int).toNat)%2)=V.int 1))).map (fun j:Nat=>(j:Int))),0<=y/\y<(m:Nat):=fun y hy=>by
  obtain⟨j,hj,rfl⟩:=fM.mp hy;have:=i9.mp (iC.mp hj).1;lia
 clear e2;generalize (((γ m).filter (fun j=>decide (V.int (x/(1*2 ^ ((j:Nat):Int).toNat)%2)=V.int 1))).map (fun j:Nat=>(j:Int)))=ns at e1 nd bd;refine⟨_,rfl,by left,fun B hB=>?_⟩;obtain⟨H2,qN,s2,eB⟩:=xI (o:=.lst []) hB;rw[qN];  clear qN;refine k7 (s2 _ _ e1) eB fun c hc=>?_;refine⟨_,rfl,YY (fun c1=>?_) (fun c1=>?_)⟩
 ·refine⟨_,rfl,_,_,rfl,rfl,⟨by left,by left⟩,_,rfl,_,_,rfl,rfl,by lia,sz1,fun l hl=>?_⟩;have a0:=iA (x/64) (show(m:Int)≠0 by lia);have a1:=iP (x/64) (show(0:Int)<m by lia);refine⟨_,rfl,k _ l [x/64%(m:Nat)] (s1.trans (s2.trans (Zi hl))) ((s1.trans s2).free hl) Zd (by simp) (by simp) fun y hy=>?_⟩;rw[gn.mp hy];exact⟨a0,a1⟩
 ·refine⟨_,rfl,k _ D ns (s1.trans s2) hD (s2 _ _ e1) (fun e=>c1 (hc.mpr e)) nd bd⟩
def Jj(K:W.Frag)(a:Adr):Sp:=fun vs H Q _=>Ex5 fun(l:Addr) (n p:Nat) (L:List Bool) (f:Nat->Bool)=>Cj6 (vs=[.ref l,.int (n:Nat),.int (p:Nat)]) (H l=some (.lst (L.map V.bl))) (ZS p L f) (L.length<=100000) (n<=100000) (∀H' q L',Zg H H'->H q=none->H' q=some (.lst (L'.map V.bl))->ZS p L' f->L'.length=max L.length n->Q (.ref q) H')
theorem Vq:Okd P w K mg base a 1 a.y37 a.z37 dX Jj:=fun T hw=>by
 refine okX T.aW.f yi fun dn A outer s H E hr=>?_;intro X;have hK:X.K=K:=rfl
 let d1:Rdg X Vb [1,0,0]:=⟨_,(Zf (Yj (XE gA gH gI Z0 (pv 3) (Za (Zq (Zk hK) (pv 3) (VY WB (pv 2)) (fun _ _=>rfl)) Zb rfl)) rfl))⟩
 let d2:Rdg X Vb [1]:=⟨_,(Zc (qj gE (Zn ZaK (Zp (Zy hK) rfl T.av nX (Za (pv 3) Zb rfl)) (pv 1) (Zx _)) d1.2) (Zf (Zm (pv 3))))⟩
 intro vs Q h;obtain⟨l,n,p,L,f,rfl,hl,tl,ll,ln,k⟩:=h;refine⟨_,(Zc (Zo (i:=3) yi.nd rfl (.inl rfl) (ZI (Xz hK rfl) rfl T.a9 nV (Za (pv 0) Zb rfl)) rfl (.inl rfl)) d2.2),?_⟩;refine⟨_,rfl,.inl ⟨l,_,rfl,.inl (nS hl),fun q hq=>?_⟩⟩;refine YU hq fun H1 s1 e1=>?_;refine⟨fun m U G=>∃L':List Bool,U=[qr0 l,some (.int (n:Nat)),some (.int (p:Nat)),qr0 q]/\Zg H G/\G q=some (.lst (L'.map V.bl))/\ZS p L' f/\L.length<=L'.length/\L'.length<=max L.length n/\m=n-L'.length,⟨n-L.length,L,rfl,s1,e1,tl,fH _,by lia,rfl⟩,?_⟩;rintro m U G ⟨L',rfl,sG,gq,rL,l1,l2,rfl⟩;have p1:=rL.p1;have pl:=rL.le;refine⟨_,rfl,.inl ⟨q,_,rfl,.inl (nS gq),_,rfl,_,_,rfl,rfl,_,rfl,YY (fun c=>?_) (fun c=>?_)⟩⟩
 ·have c1:L'.length<n:=by have:=ge c;rw[fF] at this;lia
  refine⟨fun U G=>∃wx:List Bool,U=[qr0 l,some (.int (n:Nat)),some (.int (p:Nat)),qr0 q]/\Zg H G/\G q=some (.lst (wx.map V.bl))/\ZS p wx f/\wx.length=L'.length+1,?_,?_⟩
  ·rintro σ' G' ⟨wx,rfl,a1,a2,a3,a4⟩;exact⟨n-wx.length,by lia,wx,rfl,a1,a2,a3,by lia,by lia,rfl⟩
  have ea:atI (L'.map V.bl) (-(p:Int))=some (.bl (L'[L'.length-p]'(by lia))):=by
   rw[xQ p1 (by rw[fF];exact pl),nC];simp only[fF]
  refine⟨_,rfl,.inl ⟨rfl,_,nS gq⟩,_,rfl,_,rfl,_,rfl,q,_,_,_,rfl,rfl,nS gq,ea,q,_,_,rfl,rfl,gq,by rw[fF,fJ];lia,?_⟩;refine⟨L'++[L'[L'.length-p]'(by lia)],rfl,(ZB.upd (Zg.x sG)).same hq,by rw[Zd,gp];rfl,rL.grow (fG _),by rw[fK];rfl⟩
 ·have c1:¬L'.length<n:=fun z=>c (fQ (by rw[fF];lia));exact⟨_,rfl,k _ q L' sG hq gq rL (by lia)⟩
def KY(K:W.Frag)(a:Adr):Sp:=fun vs H Q _=>Ex4 fun(v:V) (ad:Addr) (us:List V) (c:Lb)=>Cj5 (vs=[v]) (v=.ref ad) (U8 K H ad us c) (Zdk c us.length) (∀H' b,Zg H H'->SqT K H' b us->Q (.ref b) H')
theorem vB(x y:V)(vs:List V):Xc (x::y::vs) (some 2) none=vs:=by
 have:=Vw (x::y::vs) 2 (by simp);exact this
theorem qp(x:V)(vs:List V):Xc (x::vs) (some 1) none=vs:=by
 have:=Vw (x::vs) 1 (by simp);exact this
theorem UD{k:Int}(h:0<k)(hn:(k:Int)<=n):¬(HT.sIx n 0 (some k)=0/\HT.sIx n n none=n):=by
 rintro⟨h1,_⟩;have h2:¬(k<0):=by lia
 unfold HT.sIx at h1;simp only[h2,gK] at h1;lia
theorem VV:Okd P w K mg base a 1 a.y7 a.z7 du KY:=fun T hw=>by
 refine okX T.bf.f xz fun dn A outer s H E hr=>?_;intro X;have hK:X.K=K:=rfl
 let d1:Rdg X WK [3]:=⟨_,(Zc (ZJ (Zn ZO (pv 1) Zl (Zx _)) (Zf (Zm (Z1 (WW hK) (pv 0) (Z4 Ze) Yr))) Zw) (Zf (Zm (Z1 (WW hK) (pv 0) (Z4 Ze) Yr))))⟩
 let d2:Rdg X WK [2]:=⟨_,(Zc (ZJ (Zn (WJ hK) (pv 1) (ZH (Za Zl (Za Zl Zb rfl) rfl)) (by with_unfolding_all rfl)) (Zf (Zm (Zq (ZD hK) (pv 0) Ze (fun _ _=>rfl)))) Zw) d1.2)⟩
 let d3:Rdg X WK [1]:=⟨_,(Zc (ZJ (Zn (WJ hK) (pv 1) (ZH (Za Zl (Za Zl Zb rfl) rfl)) (by with_unfolding_all rfl)) (Zf (Zm (ZH Zb))) Zw) d2.2)⟩
 intro vs Q h;obtain⟨v,ad,us,c,rfl,rfl,sh,ok,k⟩:=h;refine⟨_,(Zc (Zo (i:=1) xz.nd rfl (.inl rfl) (Zq (ZD hK) (pv 0) Ze (fun _ _=>rfl)) rfl (.inl rfl)) d3.2),?_⟩;obtain⟨xs,e⟩:=sh.tup;refine⟨_,rfl,ad,_,_,_,rfl,rfl,e,Zh (j:=0) rfl,?_⟩;refine⟨_,rfl,zl,fun q oS=>⟨q,_,rfl,.inr (nU Zd),rfl,rfl,_,rfl,?_⟩⟩;have s1:=Zi (o:=.tup [.str "yes",.str "sign"]) oS;generalize upd H q (.tup [.str "yes",.str "sign"])=H1 at s1 ⊢;have pM:=sh.mono (nT s1);clear e xs sh
 revert pM ok
 cases c with
 |yes=>
  intro ok sh;refine zj (ss:=["yes","sign"]) (by left) ⟨zl,fun r hr=>?_⟩;have h0:=sh.1;subst h0;exact k _ r (s1.trans (Zi hr)) (nU Zd)
 |sign z=>
  intro ok sh;refine zj (ss:=["yes","sign"]) (show("sign" : Str)∈(["yes","sign"]:List Str) by left) ⟨zl,fun r hr=>?_⟩;have h0:=sh.1;subst h0;exact k _ r (s1.trans (Zi hr)) (nU Zd)
 |op w=>
  intro ok sh;obtain⟨h1,h2,h3,h4,h5⟩:=ya w (by rcases ok with ok|ok;exact gT _ ok.1;exact gy _ ok.1);refine XM (ss:=["yes","sign"]) h5 ?_;refine⟨_,rfl,zl,fun q3 C8=>⟨q3,_,rfl,.inr (nU Zd),rfl,rfl,_,rfl,XM (ss:=["and","or"]) h3 ?_⟩⟩;have s2:=Zi (o:=.tup [.str "and",.str "or"]) C8;generalize upd H1 q3 (.tup [.str "and",.str "or"])=H2 at s2 ⊢;refine⟨_,rfl,rfl,_,rfl,ZR (fun z=>h4 (V.str.inj z)) ?_⟩;refine⟨_,rfl,_,rfl,ad,_,rfl,(nT s2 K _ _ sh),UD (by left) (by simp;lia),fun r hr=>?_⟩;rw[qp];exact k _ r ((s1.trans s2).trans (Zi hr)) (nU Zd)
 |wit m=>
  intro ok sh;refine XM (ss:=["yes","sign"]) (show("within" : Str)∉(["yes","sign"]:List Str) by left) ?_;refine⟨_,rfl,zl,fun q3 C8=>⟨q3,_,rfl,.inr (nU Zd),rfl,rfl,_,rfl,XM (ss:=["and","or"]) (show("within" : Str)∉(["and","or"]:List Str) by left) ?_⟩⟩;have s2:=Zi (o:=.tup [.str "and",.str "or"]) C8;generalize upd H1 q3 (.tup [.str "and",.str "or"])=H2 at s2 ⊢;refine⟨_,rfl,rfl,_,rfl,Y7 rfl ?_⟩;refine⟨_,rfl,_,rfl,ad,_,rfl,(nT s2 K _ _ sh),UD (by left) (by simp;lia),fun r hr=>?_⟩;rw[vB];exact k _ r ((s1.trans s2).trans (Zi hr)) (nU Zd)
 |many w=>
  intro ok sh;have oO:w∈(["and","or"]:List Str):=by rcases ok.1 with rfl|rfl<;>simp
  obtain⟨h1,h2,h3,h4,_⟩:=WH w oO;obtain⟨b,pM,wX⟩:=sh;refine XM (ss:=["yes","sign"]) h4 ?_;refine⟨_,rfl,zl,fun q3 C8=>⟨q3,_,rfl,.inr (nU Zd),rfl,rfl,_,rfl,zj (ss:=["and","or"]) oO ?_⟩⟩;have s2:=Zi (o:=.tup [.str "and",.str "or"]) C8;generalize upd H1 q3 (.tup [.str "and",.str "or"])=H2 at s2 ⊢;exact⟨_,rfl,ad,_,_,_,rfl,rfl,(nT s2 K _ _ pM),Zh (j:=1) rfl,k _ b (s1.trans s2) (nT s2 K _ _ wX)⟩
def K7(K:W.Frag)(a:Adr):Sp:=fun vs H Q _=>Ex1 fun x=>Cj3 (vs=[x]) (Kd H x) (Q (.bl (Jf x)) H)
theorem xq:Okd P w K mg base a 1 a.y0 a.z0 dy K7:=fun T hw=>by
 refine okF T.bF.f Qm fun dn A outer s H vs Q E hr h=>?_;obtain⟨x,rfl,hk,k⟩:=h;refine⟨_,(Zf (Zm (Wr (Zp (Wg (K:=K) rfl "int") rfl T.ak nY (Za (pv 0) (Za (WY (v:=.ty "int") rfl T.db og rfl) Zb rfl) rfl)) (Wb (Zdt (Zp (Wg (K:=K) rfl "bool") rfl T.ak nY (Za (pv 0) (Za (WY (v:=.ty "bool") rfl T.df PyProof.Rows.Boot.«bool» rfl) Zb rfl) rfl))))))),?_⟩;cases hb:XS H "int" x with
 |false=>
  obtain⟨t,h1,h2⟩:=Vm K (by simp) hk hb;have e:Jf x=false:=by cases hk<;>first|rfl|(simp[XS] at hb)
  rw[e] at k;exact⟨_,rfl,_,t,_,rfl,h1,h2,_,rfl,Yn k⟩
 |true=>
  obtain⟨t,h1,h2⟩:=Vm K (by simp) hk hb;obtain⟨u,h3,h4⟩:=Vm K (T := "bool") (by simp) hk rfl;have e:Jf x = !XS H "bool" x:=by
   cases hk with
   |lst e=>simp[XS,e] at hb
   |tup e=>simp[XS,e] at hb
   |dK e=>simp[XS,e] at hb
   |non=>simp[XS] at hb
   |str z hz=>simp[XS] at hb
   |bl b=>rfl
   |int i=>rfl
  rw[e] at k;exact⟨_,rfl,_,t,_,rfl,h1,h2,_,rfl,YM ⟨_,rfl,_,u,_,rfl,h3,h4,_,rfl,k⟩⟩
def QH(K:W.Frag)(a:Adr):Sp:=fun vs H Q _=>Ex1 fun x=>Cj3 (vs=[x]) (Kd H x) (∀H',Zg H H'->Q (.bl (Xx x)) H')
theorem vM:Okd P w K mg base a 1 a.y1 a.z1 dy QH:=fun T hw=>by
 refine okX T.bW.f Q8 fun dn A outer s H E hr=>?_;intro X;have hK:X.K=K:=rfl
 let d1:Rdg X Uq [1]:=⟨_,(Zf (Zm (Zp (Uh hK rfl) rfl T.cU oh (Za (Ya (Nc:=["letter"]) (ix:=[none]) (ZX.of (by left:ZZ (Zj Uq) ["thing"] _ _ _=true)) rfl (Zgr (pv 0)) (fun _ _ _ _ _=>(Zz (i:=0) (show δ (["letter"]:List Str) by left) rfl (.inl rfl))) (fun _ _ _ _ _=>Ys) (fun _ _ _ _ _=>(Xm ZbW (pv 0) (W9 rfl T.cM) (by with_unfolding_all rfl)))) Zb rfl))))⟩
 intro vs Q h;obtain⟨x,rfl,hk,k⟩:=h;refine⟨_,(Zc (ZJ (PW.pt (Vk (Xy (WC (Zp (Wg hK "str") rfl T.ak nY (Za (pv 0) (Za (WY (v:=.ty "str") rfl T.dg PyProof.Rows.Boot.«str» rfl) Zb rfl) rfl)))) (X8 (Xy (Qj zk zk Ze (Zp (Zy hK) rfl T.av nX (Za (pv 0) Zb rfl)) (W9 rfl T.bI)))))) (Zf (Zm VM)) Zw) d1.2),?_⟩;rcases Zg7 hk with⟨hb,z,rfl,hz⟩|⟨hb,e⟩
 ·obtain⟨t,h1,h2⟩:=Vm K (by simp) hk hb;refine⟨_,rfl,_,t,_,rfl,h1,h2,_,rfl,Yn ?_⟩;refine⟨_,rfl,.inr (.inl ⟨z,rfl,by rw[fJ];lia,_,_,rfl,rfl,_,rfl,?_⟩)⟩;have oy:decide (1<=(z.length:Int))=true->decide ((z.length:Int)<=8)=true->Xx (.str z)=z.cps.toList.all vY:=fun a b=>by
   have a':=ge a;have b':=ge b;have a2:1<=z.length:=by lia
   have b2:z.length<=8:=by lia
   simp[Xx,Xs,a2,b2]
  have I0:¬((1:Int)<=z.length/\(z.length:Int)<=8)->Xx (.str z)=false:=fun q=>by
   have:¬(1<=z.length/\z.length<=8):=by lia
   simp only[Xx,Xs]
   by_cases h1:1<=z.length
   ·have h2:¬z.length<=8:=fun h2=>this ⟨h1,h2⟩;simp[h1,h2]
   ·simp[h1]
  refine YY (fun c1=>?_) (fun c1=>?_)
  ·refine⟨_,_,rfl,rfl,_,rfl,?_⟩;cases c2:decide ((z.length:Int)<=8) with
   |false=>
    refine YM ?_;have q:=k H (.refl H);rw[I0 (fun q=>by have:=mX c2;lia)] at q;exact q
   |true=>
    refine Yn ⟨_,rfl,z,rfl,fun D hD=>?_⟩;refine WL (J:=Its z) (n:=z.cps.size) (fun i U H'=>Zg H H'/\H' D=some (.lst ((z.cps.toList.take i).map fun c=>V.bl (vY c)))/\∃y,U=[y]) ?_ (fun i U H' hi _=>hi) (fun U H' _=>fH _) ?_ ?_
    ·exact⟨Zi hD,Zd,_,rfl⟩
    ·rintro i x U H' H2 hi ⟨sm,hl,y,rfl⟩ ⟨rfl,c,hc,rfl⟩ N N0 hN o5;refine⟨_,rfl,_,_,rfl,rfl,?_⟩;have el:=PySem.StrLaws.found_one ("abcdefghijklmnopqrstuvwxyz" : Str) c;refine hN _ _ _ _ hl (by rw[fF,fN,fJ];have:z.cps.size=z.length:=rfl;lia) ⟨(ZB.upd (Zg.x sm)).same hD,?_,_,rfl⟩;have ro:z.cps.toList[i]?=some c:=by rw[mH];exact hc
     rw[Zd,List.take_add_one,ro,gp];refine fS (fun b=>some (HO.lst (_++[V.bl b]))) ?_;rw[<- KG];exact el
    ·rintro U H' ⟨sm,hl,y,rfl⟩;have et:z.cps.toList.take z.cps.size=z.cps.toList:=by rw[<- lg];exact lI
     rw[et] at hl;have q:=k H' sm;rw[oy c1 c2,<- jc] at q;exact⟨D,z.cps.toList.map vY,rfl,nS (by rw[hl,fR];rfl),q⟩
  ·refine⟨_,rfl,YM ?_⟩;have q:=k H (.refl H);rw[I0 (fun q=>c1 (fQ q.1))] at q;exact q
 ·obtain⟨t,h1,h2⟩:=Vm K (by simp) hk hb;have q:=k H (.refl H);rw[e] at q;exact⟨_,rfl,_,t,_,rfl,h1,h2,_,rfl,YM (YM q)⟩
def Qt(K:W.Frag)(a:Adr):Sp:=fun vs H Q _=>Ex2 fun x n=>Cj3 (vs=[x,.int n]) (Kd H x) (Q (.bl (Xl n x)) H)
theorem Zar:Okd P w K mg base a 2 a.y2 a.z2 dz Qt:=fun T hw=>by
 refine okF T.cy.f Zab fun dn A outer s H vs Q E hr h=>?_;obtain⟨x,n,rfl,hk,k⟩:=h;refine⟨_,(Zf (Zm (Wr (ZK T.bF (xq T hw) hr rfl rfl (Za (pv 0) Zb rfl)) (Wb (Kf zk ZaK Ze (pv 0) (pv 1)))))),?_⟩;refine⟨_,rfl,x,rfl,hk,_,rfl,?_⟩;cases x with
 |int i=>
  refine YM ⟨_,rfl,_,_,rfl,rfl,_,rfl,?_⟩;cases c1:decide (0<=i) with
  |true=>
   refine YM ⟨_,rfl,_,_,rfl,rfl,?_⟩;have e:Xl n (.int i)=decide (i<n):=by simp only[Xl,c1,mZ]
   rw[e] at k;exact k
  |false=>
   have e:Xl n (.int i)=false:=by simp only[Xl,c1,iM]
   rw[e] at k;exact Yn k
 |_=>exact Yn k
def kY(K:W.Frag)(a:Adr):Sp:=fun vs H Q _=>Ex2 fun(v:V) (b:Bool)=>Cj3 (vs=[v]) (((b=true/\FmT K H v)\/(b=false/\Fm K H v))) (∀H',Zg H H'->Q (.bl b) H')
theorem ZhG:∀w∈(["signs","Next"]:List Str),w ≠ "yes" /\ w ≠ "sign" /\ w∉(["and","or"]:List Str)/\w ≠ "within" := by left
theorem nwx{w:Str}(h:w∉NW):w ≠ "yes" /\ w ≠ "sign" /\ w∉(["and","or"]:List Str)/\w ≠ "within" := by
 refine⟨fun e=>h (by rw[e];simp),fun e=>h (by rw[e];simp),fun e=>h ?_,fun e=>h (by rw[e];simp)⟩;simp at e;rcases e with rfl|rfl<;>simp
theorem Jq:Okd P w K mg base a 2 a.y6 a.z6 dy kY:=fun T hw=>by
 refine okX T.bL.f yJ fun dn A outer s H E hr=>?_;intro X;have hK:X.K=K:=rfl
 let d1:Rdg X YF [3,0,0]:=⟨_,(Zf (Zm (Wr (Xm ZO (Zp (Zy hK) rfl T.av nX (Za (pv 0) Zb rfl)) Ze (Zx _)) (Wb (ZK T.bW (vM T hw) hr rfl rfl (Za (Zq (ZD hK) (pv 0) Ze (fun _ _=>rfl)) Zb rfl))))))⟩
 let d2:Rdg X YF [4,0,0]:=⟨_,(Zf (Zm (Wr (Xm ZO (Zp (Zy hK) rfl T.av nX (Za (pv 0) Zb rfl)) Ze (Zx _)) (Wb (Zp (Ko hK) rfl T.ak nY (Za (Zq (ZD hK) (pv 0) Ze (fun _ _=>rfl)) (Za (WY (v:=.ty "tuple") rfl T.aD nW rfl) Zb rfl) rfl))))))⟩
 let d3:Rdg X YF [5,0,0]:=⟨_,(Zf (Zm (Wr (Xm ZO (Zp (Zy hK) rfl T.av nX (Za (pv 0) Zb rfl)) Ze (Zx _)) (Wr (ZK T.bF (xq T hw) hr rfl rfl (Za (Zq (ZD hK) (pv 0) Ze (fun _ _=>rfl)) Zb rfl)) (Wb (Kf zk zk Ze (Zq (ZD hK) (pv 0) Ze (fun _ _=>rfl)) (W9 rfl T.bZ)))))))⟩
 let d4:Rdg X YF [6]:=⟨_,(Zf (Zm (Wr (Xm (Zfu (K:=K) (P:=a.Pm) rfl hw) (pv 1) (W9 (v:=.ref a.D_LENGTHS) rfl ⟨_,T.cE,rfl⟩) (by with_unfolding_all rfl)) (Wb (Xm ZO (Zp (Zy hK) rfl T.av nX (Za (pv 0) Zb rfl)) (Zq (ZgO (K:=K) (P:=a.Pm) rfl hw) (W9 (v:=.ref a.D_LENGTHS) rfl ⟨_,T.cE,rfl⟩) (pv 1) (fun _ _=>rfl)) (Zx _))))))⟩
 let d5:Rdg X YF [5]:=⟨_,(Zc (ZJ (Zn ZO (pv 1) Zl (Zx _)) d3.2 Zw) d4.2)⟩
 let d6:Rdg X YF [4]:=⟨_,(Zc (ZJ (Zn (WJ hK) (pv 1) (ZH (Za Zl (Za Zl Zb rfl) rfl)) (by with_unfolding_all rfl)) d2.2 Zw) d5.2)⟩
 let d7:Rdg X YF [3]:=⟨_,(Zc (ZJ (Zn ZO (pv 1) Zl (Zx _)) d1.2 Zw) d6.2)⟩
 let d8:Rdg X YF [2]:=⟨_,(Zc (ZJ (Zn ZO (pv 1) Zl (Zx _)) (Zf (Zm (Xm ZO (Zp (Zy hK) rfl T.av nX (Za (pv 0) Zb rfl)) Ze (Zx _)))) Zw) d7.2)⟩
 let d9:Rdg X YF [1]:=⟨_,(Zc (Zo (i:=1) yJ.nd rfl (.inl rfl) (Zq (ZD hK) (pv 0) Ze (fun _ _=>rfl)) rfl (.inl rfl)) d8.2)⟩
 intro vs Q h;obtain⟨v,b,rfl,hb,k⟩:=h;refine⟨_,(Zc (ZJ (PW.pt (Vk (Xy (WC (Zp (Ko hK) rfl T.ak nY (Za (pv 0) (Za (WY (v:=.ty "tuple") rfl T.aD nW rfl) Zb rfl) rfl)))) (Vk (Zn ZO (Zp (Zy hK) rfl T.av nX (Za (pv 0) Zb rfl)) Ze (Zx _)) (X8 (Xy (WC (Zp (Wg hK "str") rfl T.ak nY (Za (Zq (ZD hK) (pv 0) Ze (fun _ _=>rfl)) (Za (WY (v:=.ty "str") rfl T.dg PyProof.Rows.Boot.«str» rfl) Zb rfl) rfl)))))))) (Zf (Zm VM)) Zw) d9.2),?_⟩;rcases hb with⟨rfl,hT⟩|⟨rfl,hF⟩
 ·obtain⟨ad,us,c,rfl,sh,ok⟩:=hT;obtain⟨xs,e⟩:=sh.tup;obtain⟨pB,c3,c4⟩:=VF (K:=K) (H:=H) (Zu c);refine⟨_,rfl,_,rfl,.inl ⟨ad,_,rfl,e,_,rfl,Yn ?_⟩⟩;refine⟨_,rfl,.inl ⟨ad,_,rfl,.inr e,rfl,_,rfl,ZR (fun z=>by have:=V.int.inj z;simp at this<;>lia) ?_⟩⟩;refine⟨_,rfl,ad,_,_,_,rfl,rfl,e,Zh (j:=0) rfl,_,pB,_,rfl,c3,c4,_,rfl,Yn ?_⟩;refine⟨_,rfl,ad,_,_,_,rfl,rfl,e,Zh (j:=0) rfl,?_⟩;clear e c3 c4 pB xs
  revert sh ok
  cases c with
  |yes=>
   intro sh ok;refine⟨_,rfl,rfl,_,rfl,Y7 rfl ?_⟩;exact⟨_,rfl,.inl ⟨ad,_,rfl,.inr (sh.2),rfl,qD rfl (k _ (.refl _))⟩⟩
  |sign z=>
   intro sh ok;refine⟨_,rfl,rfl,_,rfl,ZR (fun z=>(by left:¬(("sign" : Str) = "yes")) (V.str.inj z)) ?_⟩;refine⟨_,rfl,rfl,_,rfl,Y7 rfl ?_⟩;refine⟨_,rfl,.inl ⟨ad,_,rfl,.inr (sh.2),rfl,_,rfl,Y7 rfl ?_⟩⟩;refine⟨_,rfl,ad,_,_,_,rfl,rfl,sh.2,Zh (j:=1) rfl,.str z,rfl,.str z (gg (jy ok.2) (by left)),fun H' s'=>?_⟩;have e:Xx (.str z)=true:=ok.2;rw[e];exact k H' s'
  |op w=>
   intro sh ok;obtain⟨h1,h2,h3,h4,_⟩:=ya w (by rcases ok with ok|ok;exact gT _ ok.1;exact gy _ ok.1);refine⟨_,rfl,rfl,_,rfl,ZR (fun z=>h1 (V.str.inj z)) ?_⟩;refine⟨_,rfl,rfl,_,rfl,ZR (fun z=>h2 (V.str.inj z)) ?_⟩;refine⟨_,rfl,zl,fun q oS=>⟨q,_,rfl,.inr (nU Zd),rfl,rfl,_,rfl,XM (ss:=["and","or"]) h3 ?_⟩⟩;have s1:=Zi (o:=.tup [.str "and",.str "or"]) oS;have e1:=nT s1 K _ _ sh;generalize upd H q (.tup [.str "and",.str "or"])=H1 at s1 e1 ⊢;refine⟨_,rfl,rfl,_,rfl,ZR (fun z=>h4 (V.str.inj z)) ?_⟩;obtain⟨i,hm,hi⟩:∃i:Int,(w,i)∈LK/\((us.length+1:Nat):Int)=i:=by
    rcases ok with⟨ok,o2⟩|⟨ok,o2⟩
    ·exact⟨2,lk1 w ok,by lia⟩
    ·exact⟨3,lk2 w ok,by lia⟩
   refine⟨_,rfl,w,_,_,true,rfl,rfl,T.br,.inl ⟨rfl,i,hm⟩,_,rfl,YM ⟨_,rfl,.inl ⟨ad,_,rfl,.inr (e1),_,rfl,_,w,_,i,rfl,rfl,T.br,hm,rfl,qD (fS V.int hi) (k _ s1)⟩⟩⟩
  |wit m=>
   intro sh ok;refine⟨_,rfl,rfl,_,rfl,ZR (fun z=>(by left:¬(("within" : Str) = "yes")) (V.str.inj z)) ?_⟩;refine⟨_,rfl,rfl,_,rfl,ZR (fun z=>(by left:¬(("within" : Str) = "sign")) (V.str.inj z)) ?_⟩;refine⟨_,rfl,zl,fun q oS=>⟨q,_,rfl,.inr (nU Zd),rfl,rfl,_,rfl,XM (ss:=["and","or"]) (show("within" : Str)∉(["and","or"]:List Str) by left) ?_⟩⟩;have s1:=Zi (o:=.tup [.str "and",.str "or"]) oS;have e1:=nT s1 K _ _ sh;generalize upd H q (.tup [.str "and",.str "or"])=H1 at s1 e1 ⊢;refine⟨_,rfl,rfl,_,rfl,Y7 rfl ?_⟩;have hu:us.length=2:=ok.2;refine⟨_,rfl,.inl ⟨ad,_,rfl,.inr (e1),rfl,_,rfl,Y7 (fS V.int (by simp[hu])) ?_⟩⟩;refine⟨_,rfl,ad,_,_,_,rfl,rfl,e1,Zh (j:=1) rfl,.int m,rfl,.int m,_,rfl,YM ?_⟩;exact⟨_,rfl,ad,_,_,_,rfl,rfl,e1,Zh (j:=1) rfl,_,_,rfl,rfl,_,rfl,Y7 ok.1.1 ⟨_,_,rfl,rfl,qD ok.1.2 (k _ s1)⟩⟩
  |many w=>
   intro sh ok;obtain⟨b,pM,wX⟩:=sh;have oO:w∈(["and","or"]:List Str):=by rcases ok.1 with rfl|rfl<;>simp
   obtain⟨h1,h2,h3,_⟩:=WH w oO;refine⟨_,rfl,rfl,_,rfl,ZR (fun z=>h1 (V.str.inj z)) ?_⟩;refine⟨_,rfl,rfl,_,rfl,ZR (fun z=>h2 (V.str.inj z)) ?_⟩;refine⟨_,rfl,zl,fun q oS=>⟨q,_,rfl,.inr (nU Zd),rfl,rfl,_,rfl,zj (ss:=["and","or"]) oO ?_⟩⟩;have s1:=Zi (o:=.tup [.str "and",.str "or"]) oS;have e1:=nT s1 K _ _ pM;have e2:=nT s1 K _ _ wX;generalize upd H q (.tup [.str "and",.str "or"])=H1 at s1 e1 e2 ⊢;exact⟨_,rfl,.inl ⟨ad,_,rfl,.inr (e1),rfl,_,rfl,Y7 rfl ⟨_,rfl,ad,_,_,_,rfl,rfl,e1,Zh (j:=1) rfl,_,rfl,.inl ⟨b,_,rfl,e2,k _ s1⟩⟩⟩⟩
 cases hF with
 |noT hk ht=>
  obtain⟨t,h1,h2⟩:=Vm K (by simp) hk ht;exact⟨_,rfl,_,rfl,.inr ⟨t,h1,h2,_,rfl,YM (k _ (.refl _))⟩⟩
 |@emp ad e=>
  refine⟨_,rfl,_,rfl,.inl ⟨ad,_,rfl,e,_,rfl,Yn ?_⟩⟩;exact⟨_,rfl,.inl ⟨ad,_,rfl,.inr e,rfl,_,rfl,Y7 rfl (k _ (.refl _))⟩⟩
 |@noS ad x xs e hk ht=>
  obtain⟨t,h1,h2⟩:=Vm K (by simp) hk ht;refine⟨_,rfl,_,rfl,.inl ⟨ad,_,rfl,e,_,rfl,Yn ?_⟩⟩;refine⟨_,rfl,.inl ⟨ad,_,rfl,.inr e,rfl,_,rfl,ZR (fun z=>by have:=V.int.inj z;simp at this<;>lia) ?_⟩⟩;exact⟨_,rfl,ad,_,_,_,rfl,rfl,e,Zh (j:=0) rfl,_,t,_,rfl,h1,h2,_,rfl,YM (k _ (.refl _))⟩
 |@yes ad xs e hl=>
  obtain⟨pB,c3,c4⟩:=VF (K:=K) (H:=H) "yes";refine⟨_,rfl,_,rfl,.inl ⟨ad,_,rfl,e,_,rfl,Yn ?_⟩⟩;refine⟨_,rfl,.inl ⟨ad,_,rfl,.inr e,rfl,_,rfl,ZR (fun z=>by have:=V.int.inj z;simp at this<;>lia) ?_⟩⟩;refine⟨_,rfl,ad,_,_,_,rfl,rfl,e,Zh (j:=0) rfl,_,pB,_,rfl,c3,c4,_,rfl,Yn ?_⟩;refine⟨_,rfl,ad,_,_,_,rfl,rfl,e,Zh (j:=0) rfl,?_⟩;refine⟨_,rfl,rfl,_,rfl,Y7 rfl ?_⟩;exact⟨_,rfl,.inl ⟨ad,_,rfl,.inr e,rfl,qN (fun z=>by have:=V.int.inj z;simp at this<;>lia) (k _ (.refl _))⟩⟩
 |@sgnL ad xs e hl=>
  obtain⟨pB,c3,c4⟩:=VF (K:=K) (H:=H) "sign";refine⟨_,rfl,_,rfl,.inl ⟨ad,_,rfl,e,_,rfl,Yn ?_⟩⟩;refine⟨_,rfl,.inl ⟨ad,_,rfl,.inr e,rfl,_,rfl,ZR (fun z=>by have:=V.int.inj z;simp at this<;>lia) ?_⟩⟩;refine⟨_,rfl,ad,_,_,_,rfl,rfl,e,Zh (j:=0) rfl,_,pB,_,rfl,c3,c4,_,rfl,Yn ?_⟩;refine⟨_,rfl,ad,_,_,_,rfl,rfl,e,Zh (j:=0) rfl,?_⟩;refine⟨_,rfl,rfl,_,rfl,ZR (fun z=>(by left:¬(("sign" : Str) = "yes")) (V.str.inj z)) ?_⟩;refine⟨_,rfl,rfl,_,rfl,Y7 rfl ?_⟩;exact⟨_,rfl,.inl ⟨ad,_,rfl,.inr e,rfl,_,rfl,ZR (fun z=>by have:=V.int.inj z;simp at this<;>lia) (k _ (.refl _))⟩⟩
 |@sgn ad x e hk hx=>
  obtain⟨pB,c3,c4⟩:=VF (K:=K) (H:=H) "sign";refine⟨_,rfl,_,rfl,.inl ⟨ad,_,rfl,e,_,rfl,Yn ?_⟩⟩;refine⟨_,rfl,.inl ⟨ad,_,rfl,.inr e,rfl,_,rfl,ZR (fun z=>by have:=V.int.inj z;simp at this<;>lia) ?_⟩⟩;refine⟨_,rfl,ad,_,_,_,rfl,rfl,e,Zh (j:=0) rfl,_,pB,_,rfl,c3,c4,_,rfl,Yn ?_⟩;refine⟨_,rfl,ad,_,_,_,rfl,rfl,e,Zh (j:=0) rfl,?_⟩;refine⟨_,rfl,rfl,_,rfl,ZR (fun z=>(by left:¬(("sign" : Str) = "yes")) (V.str.inj z)) ?_⟩;refine⟨_,rfl,rfl,_,rfl,Y7 rfl ?_⟩;refine⟨_,rfl,.inl ⟨ad,_,rfl,.inr e,rfl,_,rfl,Y7 rfl ?_⟩⟩;refine⟨_,rfl,ad,_,_,_,rfl,rfl,e,Zh (j:=1) rfl,x,rfl,hk,fun H' s'=>?_⟩;rw[hx];exact k H' s'
 |@manyL ad w xs oO e hl=>
  obtain⟨h1,h2,h3,_⟩:=WH w oO;obtain⟨pB,c3,c4⟩:=VF (K:=K) (H:=H) w;refine⟨_,rfl,_,rfl,.inl ⟨ad,_,rfl,e,_,rfl,Yn ?_⟩⟩;refine⟨_,rfl,.inl ⟨ad,_,rfl,.inr e,rfl,_,rfl,ZR (fun z=>by have:=V.int.inj z;simp at this<;>lia) ?_⟩⟩;refine⟨_,rfl,ad,_,_,_,rfl,rfl,e,Zh (j:=0) rfl,_,pB,_,rfl,c3,c4,_,rfl,Yn ?_⟩;refine⟨_,rfl,ad,_,_,_,rfl,rfl,e,Zh (j:=0) rfl,?_⟩;refine⟨_,rfl,rfl,_,rfl,ZR (fun z=>h1 (V.str.inj z)) ?_⟩;refine⟨_,rfl,rfl,_,rfl,ZR (fun z=>h2 (V.str.inj z)) ?_⟩;refine⟨_,rfl,zl,fun q oS=>⟨q,_,rfl,.inr (nU Zd),rfl,rfl,_,rfl,zj (ss:=["and","or"]) oO ?_⟩⟩;have s1:=Zi (o:=.tup [.str "and",.str "or"]) oS;have e1:=nT s1 K _ _ e;generalize upd H q (.tup [.str "and",.str "or"])=H1 at s1 e1 ⊢;exact⟨_,rfl,.inl ⟨ad,_,rfl,.inr (e1),rfl,_,rfl,ZR (fun z=>by have:=V.int.inj z;simp at this<;>lia) (k _ s1)⟩⟩
 |@manyN ad w x oO e hk ht=>
  obtain⟨h1,h2,h3,_⟩:=WH w oO;obtain⟨pB,c3,c4⟩:=VF (K:=K) (H:=H) w;refine⟨_,rfl,_,rfl,.inl ⟨ad,_,rfl,e,_,rfl,Yn ?_⟩⟩;refine⟨_,rfl,.inl ⟨ad,_,rfl,.inr e,rfl,_,rfl,ZR (fun z=>by have:=V.int.inj z;simp at this<;>lia) ?_⟩⟩;refine⟨_,rfl,ad,_,_,_,rfl,rfl,e,Zh (j:=0) rfl,_,pB,_,rfl,c3,c4,_,rfl,Yn ?_⟩;refine⟨_,rfl,ad,_,_,_,rfl,rfl,e,Zh (j:=0) rfl,?_⟩;refine⟨_,rfl,rfl,_,rfl,ZR (fun z=>h1 (V.str.inj z)) ?_⟩;refine⟨_,rfl,rfl,_,rfl,ZR (fun z=>h2 (V.str.inj z)) ?_⟩;refine⟨_,rfl,zl,fun q oS=>⟨q,_,rfl,.inr (nU Zd),rfl,rfl,_,rfl,zj (ss:=["and","or"]) oO ?_⟩⟩;have s1:=Zi (o:=.tup [.str "and",.str "or"]) oS;have e1:=nT s1 K _ _ e;generalize upd H q (.tup [.str "and",.str "or"])=H1 at s1 e1 ⊢;obtain⟨t,h5,h6⟩:=Vm K (by simp) (hk.mono s1) ((ZbO s1 hk).trans ht);exact⟨_,rfl,.inl ⟨ad,_,rfl,.inr (e1),rfl,_,rfl,Y7 rfl ⟨_,rfl,ad,_,_,_,rfl,rfl,e1,Zh (j:=1) rfl,_,rfl,.inr ⟨t,h5,h6,k _ s1⟩⟩⟩⟩
 |@witL ad xs e hl=>
  obtain⟨pB,c3,c4⟩:=VF (K:=K) (H:=H) "within";refine⟨_,rfl,_,rfl,.inl ⟨ad,_,rfl,e,_,rfl,Yn ?_⟩⟩;refine⟨_,rfl,.inl ⟨ad,_,rfl,.inr e,rfl,_,rfl,ZR (fun z=>by have:=V.int.inj z;simp at this<;>lia) ?_⟩⟩;refine⟨_,rfl,ad,_,_,_,rfl,rfl,e,Zh (j:=0) rfl,_,pB,_,rfl,c3,c4,_,rfl,Yn ?_⟩;refine⟨_,rfl,ad,_,_,_,rfl,rfl,e,Zh (j:=0) rfl,?_⟩;refine⟨_,rfl,rfl,_,rfl,ZR (fun z=>(by left:¬(("within" : Str) = "yes")) (V.str.inj z)) ?_⟩;refine⟨_,rfl,rfl,_,rfl,ZR (fun z=>(by left:¬(("within" : Str) = "sign")) (V.str.inj z)) ?_⟩;refine⟨_,rfl,zl,fun q oS=>⟨q,_,rfl,.inr (nU Zd),rfl,rfl,_,rfl,XM (ss:=["and","or"]) (show("within" : Str)∉(["and","or"]:List Str) by left) ?_⟩⟩;have s1:=Zi (o:=.tup [.str "and",.str "or"]) oS;have e1:=nT s1 K _ _ e;generalize upd H q (.tup [.str "and",.str "or"])=H1 at s1 e1 ⊢;refine⟨_,rfl,rfl,_,rfl,Y7 rfl ?_⟩;exact⟨_,rfl,.inl ⟨ad,_,rfl,.inr (e1),rfl,_,rfl,ZR (fun z=>by have:=V.int.inj z;simp at this<;>lia) (k _ s1)⟩⟩
 |@witN ad x y z e hk hx=>
  obtain⟨pB,c3,c4⟩:=VF (K:=K) (H:=H) "within";refine⟨_,rfl,_,rfl,.inl ⟨ad,_,rfl,e,_,rfl,Yn ?_⟩⟩;refine⟨_,rfl,.inl ⟨ad,_,rfl,.inr e,rfl,_,rfl,ZR (fun z=>by have:=V.int.inj z;simp at this<;>lia) ?_⟩⟩;refine⟨_,rfl,ad,_,_,_,rfl,rfl,e,Zh (j:=0) rfl,_,pB,_,rfl,c3,c4,_,rfl,Yn ?_⟩;refine⟨_,rfl,ad,_,_,_,rfl,rfl,e,Zh (j:=0) rfl,?_⟩;refine⟨_,rfl,rfl,_,rfl,ZR (fun z=>(by left:¬(("within" : Str) = "yes")) (V.str.inj z)) ?_⟩;refine⟨_,rfl,rfl,_,rfl,ZR (fun z=>(by left:¬(("within" : Str) = "sign")) (V.str.inj z)) ?_⟩;refine⟨_,rfl,zl,fun q oS=>⟨q,_,rfl,.inr (nU Zd),rfl,rfl,_,rfl,XM (ss:=["and","or"]) (show("within" : Str)∉(["and","or"]:List Str) by left) ?_⟩⟩;have s1:=Zi (o:=.tup [.str "and",.str "or"]) oS;have e1:=nT s1 K _ _ e;generalize upd H q (.tup [.str "and",.str "or"])=H1 at s1 e1 ⊢;refine⟨_,rfl,rfl,_,rfl,Y7 rfl ?_⟩;refine⟨_,rfl,.inl ⟨ad,_,rfl,.inr (e1),rfl,_,rfl,Y7 rfl ?_⟩⟩;refine⟨_,rfl,ad,_,_,_,rfl,rfl,e1,Zh (j:=1) rfl,x,rfl,hk.mono s1,?_⟩;rw[hx];exact⟨_,rfl,Yn (k _ s1)⟩
 |@witM ad m y z e hm=>
  obtain⟨pB,c3,c4⟩:=VF (K:=K) (H:=H) "within";refine⟨_,rfl,_,rfl,.inl ⟨ad,_,rfl,e,_,rfl,Yn ?_⟩⟩;refine⟨_,rfl,.inl ⟨ad,_,rfl,.inr e,rfl,_,rfl,ZR (fun z=>by have:=V.int.inj z;simp at this<;>lia) ?_⟩⟩;refine⟨_,rfl,ad,_,_,_,rfl,rfl,e,Zh (j:=0) rfl,_,pB,_,rfl,c3,c4,_,rfl,Yn ?_⟩;refine⟨_,rfl,ad,_,_,_,rfl,rfl,e,Zh (j:=0) rfl,?_⟩;refine⟨_,rfl,rfl,_,rfl,ZR (fun z=>(by left:¬(("within" : Str) = "yes")) (V.str.inj z)) ?_⟩;refine⟨_,rfl,rfl,_,rfl,ZR (fun z=>(by left:¬(("within" : Str) = "sign")) (V.str.inj z)) ?_⟩;refine⟨_,rfl,zl,fun q oS=>⟨q,_,rfl,.inr (nU Zd),rfl,rfl,_,rfl,XM (ss:=["and","or"]) (show("within" : Str)∉(["and","or"]:List Str) by left) ?_⟩⟩;have s1:=Zi (o:=.tup [.str "and",.str "or"]) oS;have e1:=nT s1 K _ _ e;generalize upd H q (.tup [.str "and",.str "or"])=H1 at s1 e1 ⊢;refine⟨_,rfl,rfl,_,rfl,Y7 rfl ?_⟩;refine⟨_,rfl,.inl ⟨ad,_,rfl,.inr (e1),rfl,_,rfl,Y7 rfl ?_⟩⟩;refine⟨_,rfl,ad,_,_,_,rfl,rfl,e1,Zh (j:=1) rfl,.int m,rfl,.int m,_,rfl,YM ?_⟩;refine⟨_,rfl,ad,_,_,_,rfl,rfl,e1,Zh (j:=1) rfl,_,_,rfl,rfl,_,rfl,?_⟩
  by_cases h0:0<=m
  ·exact Y7 h0 ⟨_,_,rfl,rfl,qN (fun h5=>hm ⟨h0,h5⟩) (k _ s1)⟩
  ·exact ZR h0 (k _ s1)
 |@word ad w xs e Aw=>
  obtain⟨h1,h2,h3,h4⟩:=ZhG w Aw;obtain⟨pB,c3,c4⟩:=VF (K:=K) (H:=H) w;refine⟨_,rfl,_,rfl,.inl ⟨ad,_,rfl,e,_,rfl,Yn ?_⟩⟩;refine⟨_,rfl,.inl ⟨ad,_,rfl,.inr e,rfl,_,rfl,ZR (fun z=>by have:=V.int.inj z;simp at this<;>lia) ?_⟩⟩;refine⟨_,rfl,ad,_,_,_,rfl,rfl,e,Zh (j:=0) rfl,_,pB,_,rfl,c3,c4,_,rfl,Yn ?_⟩;refine⟨_,rfl,ad,_,_,_,rfl,rfl,e,Zh (j:=0) rfl,?_⟩;refine⟨_,rfl,rfl,_,rfl,ZR (fun z=>h1 (V.str.inj z)) ?_⟩;refine⟨_,rfl,rfl,_,rfl,ZR (fun z=>h2 (V.str.inj z)) ?_⟩;refine⟨_,rfl,zl,fun q oS=>⟨q,_,rfl,.inr (nU Zd),rfl,rfl,_,rfl,XM (ss:=["and","or"]) h3 ?_⟩⟩;have s1:=Zi (o:=.tup [.str "and",.str "or"]) oS;have e1:=nT s1 K _ _ e;generalize upd H q (.tup [.str "and",.str "or"])=H1 at s1 e1 ⊢;refine⟨_,rfl,rfl,_,rfl,ZR (fun z=>h4 (V.str.inj z)) ?_⟩;have hn:W.nsIn K a.D_LENGTHS w=some none:=by
   simp at Aw;rcases Aw with rfl|rfl
   ·exact T.nk_signs
   ·exact T.nk_Next
  exact⟨_,rfl,w,_,_,false,rfl,rfl,T.br,.inr ⟨rfl,hn⟩,_,rfl,Yn (k _ s1)⟩
 |@lens ad w i xs e Aw hm hi=>
  obtain⟨h1,h2,h3,h4⟩:=nwx Aw;obtain⟨pB,c3,c4⟩:=VF (K:=K) (H:=H) w;refine⟨_,rfl,_,rfl,.inl ⟨ad,_,rfl,e,_,rfl,Yn ?_⟩⟩;refine⟨_,rfl,.inl ⟨ad,_,rfl,.inr e,rfl,_,rfl,ZR (fun z=>by have:=V.int.inj z;simp at this<;>lia) ?_⟩⟩;refine⟨_,rfl,ad,_,_,_,rfl,rfl,e,Zh (j:=0) rfl,_,pB,_,rfl,c3,c4,_,rfl,Yn ?_⟩;refine⟨_,rfl,ad,_,_,_,rfl,rfl,e,Zh (j:=0) rfl,?_⟩;refine⟨_,rfl,rfl,_,rfl,ZR (fun z=>h1 (V.str.inj z)) ?_⟩;refine⟨_,rfl,rfl,_,rfl,ZR (fun z=>h2 (V.str.inj z)) ?_⟩;refine⟨_,rfl,zl,fun q oS=>⟨q,_,rfl,.inr (nU Zd),rfl,rfl,_,rfl,XM (ss:=["and","or"]) h3 ?_⟩⟩;have s1:=Zi (o:=.tup [.str "and",.str "or"]) oS;have e1:=nT s1 K _ _ e;generalize upd H q (.tup [.str "and",.str "or"])=H1 at s1 e1 ⊢;refine⟨_,rfl,rfl,_,rfl,ZR (fun z=>h4 (V.str.inj z)) ?_⟩;exact⟨_,rfl,w,_,_,true,rfl,rfl,T.br,.inl ⟨rfl,i,hm⟩,_,rfl,YM ⟨_,rfl,.inl ⟨ad,_,rfl,.inr (e1),_,rfl,_,w,_,i,rfl,rfl,T.br,hm,rfl,qN (fun z=>hi (V.int.inj z)) (k _ s1)⟩⟩⟩
theorem yZ:∀ts:List Tr,ts.length<=(Yq ts).length
 |[]=>by simp[Yq]
 |t::r=>by
  have:=yZ r;rw[Yq,fK,gu,Vt t,fK];simp;lia
def jo(K:W.Frag)(a:Adr):Sp:=fun vs H Q _=>Ex3 fun(v:V) (t:Tr) (n:Nat)=>Cj4 (vs=[v]) (At K n H v t) ((post t).length<=8000000) (∀H' l us,Zg H H'->H l=none->H' l=some (.lst us)->AtL K n H' us (post t)->Q (.ref l) H')
theorem VD:Okd P w K mg base a 3 a.y8 a.z8 du jo:=fun T hw=>by
 refine okX T.aT.f Wy fun dn A outer s H E hr=>?_;intro X;have hK:X.K=K:=rfl
 let d1:Rdg X YK [2,0,3]:=⟨_,(Zf (Yj (XE gA PySem.F.slot_list_extend PySem.F.type_list_extend (Q0 hK) (pv 2) (Za (ZK T.bf (VV T hw) hr rfl rfl (Za (pv 3) Zb rfl)) Zb rfl)) rfl))⟩
 let d2:Rdg X YK [2,0,2]:=⟨_,(Zc (Yj (XE gA gH gI Z0 (pv 1) (Za (pv 3) Zb rfl)) rfl) d1.2)⟩
 let d3:Rdg X YK [2,0,1]:=⟨_,(Zc (ZJ (Xy (WC (ZK T.bL (Jq T hw) hr rfl rfl (Za (pv 3) Zb rfl)))) (Zf Kl) Zw) d2.2)⟩
 let d4:Rdg X YK [2,0,0]:=⟨_,(Zc (Zo (i:=3) Wy.nd rfl (.inl rfl) (Zcm gA PySem.F.slot_list_pop PySem.F.type_list_pop ZeC (pv 2)) rfl (.inl rfl)) d3.2)⟩
 let d5:Rdg X YK [2]:=⟨_,(Zc (qj gE (Wk hK (pv 2) (fun _=>rfl)) d4.2) (Zf (Zm (Za5 hK (pv 1) (Z4 (VY WB Ze))))))⟩
 let d6:Rdg X YK [1]:=⟨_,(Zc (Zo (i:=2) Wy.nd rfl (.inl rfl) (Z7 (Za (pv 0) Zb rfl)) rfl (.inl rfl)) d5.2)⟩
 intro vs Q h;obtain⟨v,t,n,rfl,ox,hz,k⟩:=h;refine⟨_,(Zc (Zo (i:=1) Wy.nd rfl (.inl rfl) (Z7 Zb) rfl (.inl rfl)) d6.2),?_⟩;cases n with
 |zero=>exact ox.elim
 |succ n=>
  refine⟨by left,fun F hF=>?_⟩;have s1:=Zi (o:=.lst []) hF;have e1:(upd H F (.lst [])) F=some (.lst []):=Zd;generalize upd H F (.lst [])=H1 at s1 e1 ⊢;refine⟨_,rfl,zl,fun W hW=>?_⟩;have s2:=Zi (o:=.lst [v]) hW;have e2:(upd H1 W (.lst [v])) W=some (.lst [v]):=Zd;have Ae:F≠W:=zO e1 hW;have wB:=s2 _ _ e1;generalize upd H1 W (.lst [v])=H2 at s2 e2 wB ⊢;have ue:H W=none:=s1.free hW;have pK:=ox.mono (nT (s1.trans s2));refine⟨fun m U H'=>∃(z:Option V) (ws fs:List V) (tw tf:List Tr),U=[some v,qr0 F,qr0 W,z]/\Zg H H'/\H' F=some (.lst fs)/\H' W=some (.lst ws)/\AtL K (n+1) H' ws tw/\AtL K (n+1) H' fs tf/\tf++(Yq tw).reverse=(post t).reverse/\m=(Yq tw).length,⟨_,_,[v],[],[t],[],rfl,s1.trans s2,wB,e2,AtL.one pK,AtL.nil,by rw[kj];rfl,rfl⟩,?_⟩;rintro m U H3 ⟨z,ws,fs,tw,tf,rfl,s3,sk,uu,aw,af,he,rfl⟩;have ou:tf.length+(Yq tw).length=(post t).length:=by have:=fS θ he;simpa using this
  have rP:=yZ tw;have Gj:=aw.1;have S3:=af.1;refine⟨_,rfl,!ws.isEmpty,?tru,?_⟩
  case tru=>exact .inl ⟨_,nS uu,rfl⟩
  cases hws:ws.isEmpty with
  |true=>
   have e0:ws=[]:=mC.mp hws;subst e0;have et:tw=[]:=gX.mp Gj.symm;subst et;refine Yn ?_;rw[Yq,List.reverse_nil,iu] at he;refine⟨_,rfl,_,rfl,_,rfl,F,_,rfl,rfl,nS sk,fun p hp=>?_⟩;have ar:=af.rev;rw[he,List.reverse_reverse] at ar;exact k _ p _ (s3.trans (Zi hp)) (s3.free hp) Zd (ar.mono (nT (Zi hp)))
  |false=>
   have oA:ws≠[]:=fun e=>by rw[e] at hws;cases hws
   obtain⟨us,u,rs,r,ew,SV,Lh,au⟩:=aw.last oA;subst ew SV;refine YM ?_;refine⟨fun U H'=>∃(z:Option V) (ws fs:List V) (tw tf:List Tr),U=[some v,qr0 F,qr0 W,z]/\Zg H H'/\H' F=some (.lst fs)/\H' W=some (.lst ws)/\AtL K (n+1) H' ws tw/\AtL K (n+1) H' fs tf/\tf++(Yq tw).reverse=(post t).reverse/\(Yq tw).length<(Yq (rs++[r])).length,?_,?_⟩
   ·rintro σ' H' ⟨z',PQ,CT,SC,Tf,rfl,a1,a2,a3,a4,a5,a6,a7⟩;exact⟨_,a7,z',PQ,CT,SC,Tf,rfl,a1,a2,a3,a4,a5,a6,rfl⟩
   refine⟨_,rfl,.inl ⟨rfl,_,nS uu⟩,W,_,u,rfl,rfl,uu,by simp,?_⟩;rw[List.dropLast_concat];have x4:ZB W H3 (upd H3 W (.lst us)):=(ZB.refl H3).upd;have t4:Yv H3 (upd H3 W (.lst us)):=ZB.tup x4 uu;have rg:(upd H3 W (.lst us)) F=some (.lst fs):=WF sk Ae;have DC:(upd H3 W (.lst us)) W=some (.lst us):=Zd;have s4:Zg H (upd H3 W (.lst us)):=((Zg.x s3).upd).same ue;generalize upd H3 W (.lst us)=H4 at x4 t4 rg DC s4 ⊢;have Sw:=au.mono t4;refine⟨_,rfl,u,true,rfl,.inl ⟨rfl,Sw.fmT⟩,fun H5 s5=>⟨_,rfl,Yn ?_⟩⟩;have rf:=s5 _ _ rg;have A1:=s5 _ _ DC;have LC:=ZbH rs r;have tl:=fS θ LC;simp at tl;refine⟨_,rfl,.inl ⟨rfl,_,nS rf⟩,_,rfl,F,_,_,rfl,rfl,rf,by rw[fJ];lia,?_⟩;have x6:ZB F H5 (upd H5 F (.lst (fs++[u]))):=(ZB.refl H5).upd;have t6:Yv H5 (upd H5 F (.lst (fs++[u]))):=ZB.tup x6 rf;have tz:(upd H5 F (.lst (fs++[u]))) F=some (.lst (fs++[u])):=Zd;have A2:(upd H5 F (.lst (fs++[u]))) W=some (.lst us):=WF A1 (fX Ae);have s6:Zg H (upd H5 F (.lst (fs++[u]))):=((Zg.x (s4.trans s5)).upd).same hF;generalize upd H5 F (.lst (fs++[u]))=H6 at x6 t6 tz A2 s6 ⊢;have M0:Yv H3 H6:=t4.trans ((nT s5).trans t6);obtain⟨Af,sw,AB,As,Aj,uJ,CI⟩:=au.mono M0;refine⟨_,rfl,.inl ⟨rfl,_,nS A2⟩,_,rfl,u,Af,sw,r.lb,rfl,AB,As,by rw[uJ];exact Aj.b,fun H7 b s7 eb=>?_⟩;have aL:AtL K n H7 sw r.ks:=AtL.mono (nT s7) ⟨uJ,CI⟩;have Cu:=s7 _ _ A2;have tU:=aL.1;have Cc:=yZ (rs++r.ks);simp at Cc;have pc:=Lh.1;refine⟨W,b,_,_,rfl,rfl,Cu,eb,by rw[fJ];lia,?_⟩;have x8:ZB W H7 (upd H7 W (.lst (us++sw))):=(ZB.refl H7).upd;have t8:Yv H7 (upd H7 W (.lst (us++sw))):=ZB.tup x8 Cu;have Gk:Yv H3 (upd H7 W (.lst (us++sw))):=M0.trans ((nT s7).trans t8);refine⟨_,us++sw,fs++[u],rs++r.ks,tf++[r],rfl,((Zg.x (s6.trans s7)).upd).same ue,WF (s7 _ _ tz) Ae,Zd,(Lh.mono Gk).app ((aL.le (lZ n)).mono t8),(af.mono Gk).app (AtL.one (au.mono Gk)),?_,?_⟩
   ·rw[LC] at he;rw[lK];exact he
   ·lia
def JS(K:W.Frag)(a:Adr):Sp:=fun vs H Q _=>Ex3 fun(p:Addr) (xs:List V) (m:Nat)=>Cj4 (vs=[.ref p,.int (m:Nat)]) (H p=some (.lst xs)) (m<=xs.length) (∀H' l,ZB p H H'->H' p=some (.lst (xs.take (xs.length-m)))->H l=none->H' l=some (.lst (xs.drop (xs.length-m)))->Q (.ref l) H')
theorem UB:Okd P w K mg base a 1 a.y5 a.z5 dY JS:=fun T hw=>by
 refine okX T.bg.f UA fun dn A outer s H E hr=>?_;intro X
 let d1:Rdg X V1 [1]:=⟨_,(Zc (Zo (i:=3) UA.nd rfl (.inl rfl) (Z1 (YI (K:=K) rfl) (pv 0) (Z4 (pv 2)) Yr) rfl (.inl rfl)) (Zc (QW (pv 0) (pv 2)) (Zf (Zm (pv 3)))))⟩
 intro vs Q h;obtain⟨p,xs,m,rfl,hp,hm,k⟩:=h;refine⟨_,(Zc (Zo (i:=2) UA.nd rfl (.inl rfl) (Zv yO (Zp (Zy (K:=K) rfl) rfl T.av nX (Za (pv 0) Zb rfl)) (pv 1)) rfl (.inl rfl)) d1.2),?_⟩;have e:(xs.length:Int)-(m:Int)=((xs.length-m:Nat):Int):=by lia
 refine⟨_,rfl,.inl ⟨p,_,rfl,.inl (nS hp),_,rfl,_,_,rfl,rfl,?_⟩⟩;refine⟨_,rfl,_,rfl,((xs.length-m:Nat):Int),fS V.int e,p,xs,rfl,nS hp,fun l hl=>?_⟩;rw[Vw _ _ (by lia)];have np:=zO hp hl;refine⟨_,rfl,_,rfl,p,xs,xs.length-m,rfl,fS V.int e,WF hp np,by lia,?_⟩;refine⟨_,rfl,k _ l (Zg.x (Zi hl)).upd Zd hl ?_⟩;rw[ZF (fX np),Zd]
theorem AtL.take{K:W.Frag}{n:Nat}{H:Hp}{us:List V}{cs:List Tr}(h:AtL K n H us cs)(m:Nat):AtL K n H (us.take m) (cs.take m):=by
 refine⟨by rw[fN,fN,h.1],fun i u k h1 h2=>?_⟩;rw[List.getElem?_take] at h1 h2
 split at h1
 ·rename_i hi
  rw[oq hi] at h2;exact h.2 i u k h1 h2
 ·cases h1
theorem AtL.drop{K:W.Frag}{n:Nat}{H:Hp}{us:List V}{cs:List Tr}(h:AtL K n H us cs)(m:Nat):AtL K n H (us.drop m) (cs.drop m):=by
 refine⟨by rw[gQ,gQ,h.1],fun i u k h1 h2=>?_⟩;rw[iK] at h1 h2;exact h.2 _ u k h1 h2
def QE(K:W.Frag)(a:Adr):Sp:=fun vs H Q _=>Ex3 fun(v:V) (t:Tr) (n:Nat)=>Cj4 (vs=[v]) (At K n H v t) ((post t).length<=8000000) (∀H' v',Zg H H'->At K (28*n) H' v' (Z8 t)->Q v' H')
theorem vV:Okd P w K mg base a 4 a.y9 a.z9 du QE:=fun T hw=>by
 refine okX T.bX.f UV fun dn A outer s H E hr=>?_;intro X;have hK:X.K=K:=rfl
 let d1:Rdg X Vv [1,0,1]:=⟨_,(Zf (Yj (XE gA gH gI Z0 (pv 1) (Za (ZK T.bM (J0 T hw) hr rfl rfl (Za (pv 2) (Za (pv 3) Zb rfl) rfl)) Zb rfl)) rfl))⟩
 let d2:Rdg X Vv [1,0,0]:=⟨_,(Zc (Zo (i:=3) UV.nd rfl (.inl rfl) (ZK T.bg (UB T hw) hr rfl rfl (Za (pv 1) (Za (Zp (Zy hK) rfl T.av nX (Za (ZK T.bf (VV T hw) hr rfl rfl (Za (pv 2) Zb rfl)) Zb rfl)) Zb rfl) rfl)) rfl (.inl rfl)) d1.2)⟩
 let d3:Rdg X Vv [1]:=⟨_,(Zc (Xp gE rfl (ZQ hK (ZK T.aT (VD T hw) hr rfl rfl (Za (pv 0) Zb rfl))) (Zz (i:=2) UV.nd rfl (.inl rfl)) d2.2) (Zf (Zm (Zq (Zk hK) (pv 1) Ze (fun _ _=>rfl)))))⟩
 intro vs Q h;obtain⟨v,t,n,rfl,ox,hz,k⟩:=h;refine⟨_,(Zc (Zo (i:=1) UV.nd rfl (.inl rfl) (Z7 Zb) rfl (.inl rfl)) d3.2),?_⟩;cases n with
 |zero=>exact ox.elim
 |succ n=>
  refine⟨by left,fun F hF=>?_⟩;have s1:=Zi (o:=.lst []) hF;have e1:(upd H F (.lst [])) F=some (.lst []):=Zd;generalize upd H F (.lst [])=H1 at s1 e1 ⊢;refine⟨_,rfl,v,t,n+1,rfl,ox.mono (nT s1),hz,fun H2 L us s2 L0 eL aL=>⟨L,rfl,⟨_,nS eL⟩,?_⟩⟩;have AD:L≠F:=fun e=>by rw[e,e1] at L0;cases L0
  have A8:=s2 _ _ e1;obtain⟨uS,r6⟩:=JG (F:=YW) t;have pc:=aL.1
  let J1:Nat->L2.St->Hp->Prop:=fun i U H'=>Ex4 fun(z1 z2:Option V) (uv:List V) (st:List Tr)=>Cj7 (U=[some v,qr0 F,z1,z2]) (ZB F H2 H') (H' F=some (.lst uv)) (AtL K (28*(n+1)) H' uv st) (yh YW st ((post t).drop i)) (yQ YW st ((post t).drop i)=[Z8 t]) (st.length<=i)
  refine Wp (K:=K) (xs:=us) J1 ?_ ?_ ?_ ?_
  ·exact⟨_,_,[],[],rfl,.refl _,A8,AtL.nil,uS,r6,fH _⟩
  ·rintro i U H' hi ⟨z1,z2,uv,st,rfl,x',_⟩;exact nS (x' _ _ AD eL)
  ·rintro i x U H3 hx ⟨z1,z2,uv,st,rfl,x3,sk,aS,ub,oI,oz⟩;have hi:i<us.length:=(fP.mp hx).1;have sN:i<(post t).length:=by lia
   have t23:Yv H2 H3:=ZB.tup x3 A8;have at3:=(aL.2 i x _ hx (fG sN)).mono t23;rw[mY sN] at ub oI;obtain⟨⟨A0,rH⟩,uR⟩:=ub;have rA:yQ YW (XZ YW st (post t)[i]) ((post t).drop (i+1))=[Z8 t]:=oI;generalize (post t)[i]=r at at3 A0 rH uR rA;have Be:=aS.1;obtain⟨Af,ks,AB,As,Aj,uJ,CI⟩:=id at3;refine⟨_,rfl,_,rfl,x,Af,ks,r.lb,rfl,AB,As,by rw[uJ];exact Aj.b,fun H4 b s4 eb=>.inl ⟨b,_,rfl,.inr (eb),?_⟩⟩;have aK:AtL K n H4 ks r.ks:=AtL.mono (nT s4) ⟨uJ,CI⟩;have tU:=aK.1;have rg:=s4 _ _ sk;refine⟨F,uv,ks.length,rfl,rg,by rw[Be,tU];exact A0,fun H5 l x5 rf l0 tH=>?_⟩;have IH:l≠F:=fun e=>by rw[e,rg] at l0;cases l0
   have Rr:Yv H4 H5:=ZB.tup x5 rg;have Nf:Yv H3 H5:=(nT s4).trans Rr;rw[Be,tU] at rf tH;have wK:=at3.mono Nf;have Mv:=aS.mono Nf;have aI:=AtL.drop Mv (st.length-r.ks.length);rw[rH] at aI;have ca:=yk _ r wK.ok;have Hg:YW r.lb (r.ks.map Z8)=Z8 r:=(qx r).symm;have FS:At K (n+1) H5 x (.node r.lb r.ks):=by rw[<- Tr.eta];exact wK
   refine⟨_,rfl,.inl ⟨rfl,_,nS rf⟩,_,rfl,_,rfl,x,r.lb,r.ks,n+1,l,_,_,28*(n+1),rfl,FS,tH,aI,fF _,by lia,fun H6 v6 s6 uy=>?_⟩;rw[show YL YW=Z8 from rfl,Hg] at uy;have uy:=uy.fit ca.1;have tz:=s6 _ _ rf;refine⟨F,_,_,rfl,rfl,tz,by rw[fN,fJ];lia,?_⟩;have P7:ZB F H3 H6:=(Zg.x s4).trans (x5.trans (Zg.x s6));have t6:Yv H6 (upd H6 F (.lst (uv.take (st.length-r.ks.length)++[v6]))):=ZB.tup ((ZB.refl H6).upd) tz;refine⟨_,_,uv.take (st.length-r.ks.length)++[v6],XZ YW st r,rfl,(x3.trans P7).upd,Zd,?_,uR,rA,?_⟩
   ·unfold XZ;rw[rH,show YL YW=Z8 from rfl,Hg];exact AtL.app (((AtL.take Mv _).mono (nT s6)).mono t6) (AtL.one (uy.mono t6))
   ·unfold XZ;rw[fK,fN];simp;lia
  rintro U H3 ⟨z1,z2,uv,st,rfl,x3,sk,aS,ub,oI,oz⟩;rw[nF (by lia)] at oI;have BB:st=[Z8 t]:=oI;subst BB;obtain⟨u0,ur,c0,cr,rfl,ec,a0⟩:=AtL.first aS (by simp);cases ec;exact⟨_,rfl,F,_,_,_,rfl,rfl,nS sk,Zh (j:=0) rfl,k H3 _ (((Zg.x (s1.trans s2)).trans x3).same hF) a0⟩
def yM(K:W.Frag)(a:Adr):Sp:=fun vs H Q _=>ZdO fun r P R D ps v t n b ks=>Cj7 (vs=[.ref r,v,.ref b]) (TbY K a.Pm a.C_Table H r P R D ps) (At K n H v t) (X2 K H b ks) (WQ ps t ks) (ps.length<4000) (∀H' (i:Nat),Y5 P R D H H'->TbY K a.Pm a.C_Table H' r P R D (YN ps t)->(YN ps t)[i]?=some t->Q (.int (i:Int)) H')
theorem Zaw{t:Tr}(h:At K n H v t):Yi t.lb t.ks.length:=by
 cases n with
 |zero=>exact h.elim
 |succ n=>obtain⟨_,_,_,_,ok,_⟩:=h;exact ok
theorem lkP:([("parts",v1),("rows",v2),("numbers",v3)]:List (Str×V)).lookup ("parts" : Str)=some v1:=rfl
theorem lkR:([("parts",v1),("rows",v2),("numbers",v3)]:List (Str×V)).lookup ("rows" : Str)=some v2:=by
 have e:(("rows" : Str) == "parts")=false:=by left
 rw[gi,e];rfl
theorem lkD:([("parts",v1),("rows",v2),("numbers",v3)]:List (Str×V)).lookup ("numbers" : Str)=some v3:=by
 have e:(("numbers" : Str) == "parts")=false:=by left
 have e2:(("numbers" : Str) == "rows")=false:=by left
 rw[gi,e]
 show η _ _=_
 rw[gi,e2];rfl
theorem Xj:Okd P w K mg base a 1 a.y17 a.z17 dZ yM:=fun T hw=>by
 refine okX T.ah.f yd fun dn A outer s H E hr=>?_;intro X;have hK:X.K=K:=rfl
 let d1:Rdg X Xn [0,0,1]:=⟨_,(Zc (Yj (XE gA gH gI Z0 (ZU hK (pv 0) rfl) (Za (pv 1) Zb rfl)) rfl) (Zf (Yj (XE gA gH gI Z0 (ZU hK (pv 0) rfl) (Za (pv 2) Zb rfl)) rfl)))⟩
 let d2:Rdg X Xn [0,0,0]:=⟨_,(Zc (Zfb (K:=K) (Pm:=a.Pm) rfl hw (Y8.units4 hr) (ZU hK (pv 0) rfl) (pv 2) (Zp (Zy hK) rfl T.av nX (Za (ZU hK (pv 0) rfl) Zb rfl)) rfl) d1.2)⟩
 intro vs Q h;obtain⟨r,P,R,D,ps,v,t,n,b,ks,rfl,tb,ox,hb,oE,hsz,k⟩:=h;refine⟨_,(Zc (ZJ (Zgs (Zbu (K:=K) (Pm:=a.Pm) rfl hw (Y8.units4 hr) (pv 2) (ZU hK (pv 0) rfl))) d2.2 Zw) (Zf (Zm (Zfq (K:=K) (Pm:=a.Pm) rfl hw (Y8.units4 hr) (ZU hK (pv 0) rfl) (pv 2) (fun _ _=>rfl))))),?_⟩;obtain⟨⟨dx,ho⟩,⟨np,pv,hP,aP⟩,⟨rows,hR,rl,Aq,Az,hD⟩,nd,pr⟩:=id tb;have Lv:(rows.map (·.1)).length=ps.length:=by rw[fF];exact rl
 obtain⟨knd,De⟩:=QL (rks:=rows.map (·.1)) nd Lv aP.oks fun i t ks h1 h2=>by
  rw[fO] at h2;obtain⟨e,he,rfl⟩:=mo.mp h2;exact Az i t e h1 he
 obtain⟨kin,BQ⟩:=De (Zaw ox) oE;have tM:∀e∈VQ 0 rows,X2 K H e.2.1 e.1:=fun e he=>Aq _ (je he);refine⟨_,rfl,_,rfl,r,_,dx,_,_,rfl,ho,T.ai,T.ay,lkD,D,_,rfl,⟨_,ks,b,hD,rfl,hb,tM,rfl⟩,?_⟩;rw[Jc]
 by_cases ht:t∈ps
 ·obtain⟨i,hi,e⟩:=gF ht;have Cb:ps[i]?=some t:=by rw[<- e];exact fG hi
  have hv:=kS (n:=0) knd (kin i Cb);rw[mq] at hv;rw[hv];refine⟨_,rfl,Yn ?_⟩;exact⟨_,rfl,r,_,dx,_,_,rfl,ho,T.ai,T.ay,lkD,_,rfl,D,_,rfl,⟨_,ks,b,hD,rfl,hb,tM,by rw[Jc,hv]⟩,k H i .refl (by rw[Vn ht];exact tb) (by rw[Vn ht];exact Cb)⟩
 ·have hv:=ZaW (n:=0) (BQ ht);rw[hv];refine⟨_,rfl,YM ?_⟩;have aR:=aP.1;refine⟨_,rfl,r,_,dx,_,_,rfl,ho,T.ai,T.ao,lkR,.inl ⟨R,_,rfl,.inl (nS hR),_,rfl,r,_,dx,_,_,rfl,ho,T.ai,T.ay,lkD,_,rfl,D,_,rfl,⟨_,ks,b,hD,rfl,hb,tM,by rw[Jc];exact hv,by rw[Ks,fJ];lia,rfl⟩,?_⟩⟩;have ep:VQ 0 rows++[(ks,b,V.int (((rows.map fun e=>V.ref e.2).length:Nat):Int))]=VQ 0 (rows++[(ks,b)]):=by
   rw[kP,fF,mq]
  rw[ep];have tF:P≠D:=Y0 hP hD (by intro z;cases z);have ID:R≠D:=Y0 hR hD (by intro z;cases z);have S6:r≠D:=Y0 ho hD (by intro z;cases z);have uD:(upd H D (DyO a.Pm D (VQ 0 (rows++[(ks,b)])))) r=_:=WF ho S6;have FV:(upd H D (DyO a.Pm D (VQ 0 (rows++[(ks,b)])))) P=_:=WF hP tF;have NN:(upd H D (DyO a.Pm D (VQ 0 (rows++[(ks,b)])))) R=_:=WF hR ID;have uI:(upd H D (DyO a.Pm D (VQ 0 (rows++[(ks,b)])))) D=_:=Zd;have s1:Y5 P R D H (upd H D (DyO a.Pm D (VQ 0 (rows++[(ks,b)])))):=fun c o _ _ n3 e=>by rw[ZF n3];exact e
  generalize upd H D (DyO a.Pm D (VQ 0 (rows++[(ks,b)])))=H1 at uD FV NN uI s1 ⊢;refine⟨_,rfl,r,_,dx,_,_,rfl,uD,T.ai,T.aA,lkP,.inl ⟨rfl,_,nS FV⟩,_,rfl,P,_,_,rfl,rfl,FV,by rw[fJ];lia,?_⟩;have nrP:r≠P:=Y0 ho hP (by intro z;cases z);have pC:(upd H1 P (.lst (pv++[v]))) r=_:=WF uD nrP;have An:(upd H1 P (.lst (pv++[v]))) P=_:=Zd;have wq:(upd H1 P (.lst (pv++[v]))) R=_:=WF NN (fX pr);have rh:(upd H1 P (.lst (pv++[v]))) D=_:=WF uI (fX tF);have s2:Y5 P R D H (upd H1 P (.lst (pv++[v]))):=fun c o n1 n2 n3 e=>by rw[ZF n1];exact s1 _ _ n1 n2 n3 e
  generalize upd H1 P (.lst (pv++[v]))=H2 at pC An wq rh s2 ⊢;refine⟨_,rfl,r,_,dx,_,_,rfl,pC,T.ai,T.ao,lkR,.inl ⟨rfl,_,nS wq⟩,_,rfl,R,_,_,rfl,rfl,wq,by rw[fF,fJ];lia,?_⟩;have Pt:r≠R:=Y0 ho hR (by intro z;cases z);have er:(rows.map fun e=>V.ref e.2)++[V.ref b]=(rows++[(ks,b)]).map fun e=>V.ref e.2:=by rw[gp];rfl
  rw[er];have Ed:(upd H2 R (.lst ((rows++[(ks,b)]).map fun e=>V.ref e.2))) r=_:=WF pC Pt;have Dr:(upd H2 R (.lst ((rows++[(ks,b)]).map fun e=>V.ref e.2))) P=_:=WF An pr;have MX:(upd H2 R (.lst ((rows++[(ks,b)]).map fun e=>V.ref e.2))) R=_:=Zd;have BZ:(upd H2 R (.lst ((rows++[(ks,b)]).map fun e=>V.ref e.2))) D=_:=WF rh (fX ID);have s3:Y5 P R D H (upd H2 R (.lst ((rows++[(ks,b)]).map fun e=>V.ref e.2))):=fun c o n1 n2 n3 e=>by rw[ZF n2];exact s2 _ _ n1 n2 n3 e
  generalize upd H2 R (.lst ((rows++[(ks,b)]).map fun e=>V.ref e.2))=H3 at Ed Dr MX BZ s3 ⊢;have u3:Yv H H3:=tb.t s3;have eA:YN ps t=ps++[t]:=Ui ht;have S1:((rows++[(ks,b)]).map (·.1)).Nodup:=by
   rw[gp,mK];exact⟨knd,by simp,fun x hx y hy e=>BQ ht (by
    have:y=ks:=by simpa using hy
    rw[this] at e;rw[<- e];exact hx)⟩
  have So:((rows++[(ks,b)]).map (·.1))[ps.length]?=some ks:=by rw[gp,<- Lv,gx (fH _),ij];rfl
  have ui:=kS (n:=0) S1 So;rw[mq] at ui;have TK:(ps++[t])[ps.length]?=some t:=by rw[gx (fH _),ij];rfl
  have BY:∀e∈rows++[(ks,b)],X2 K H3 e.2 e.1:=fun e he=>by
   rcases gj.mp he with he|he
   ·exact(Aq e he).mono u3
   ·rw[gn.mp he];exact hb.mono u3
  refine⟨_,rfl,r,_,dx,_,_,rfl,Ed,T.ai,T.ay,lkD,_,rfl,D,V.int ((ps.length:Nat):Int),rfl,⟨_,ks,b,BZ,rfl,hb.mono u3,fun e he=>BY _ (je he),by rw[Jc];exact ui.symm⟩,k H3 ps.length s3 ?_ (by rw[eA];exact TK)⟩;rw[eA];have pX:∀{α:Type}{xs:List α}{y x:α}{i:Nat},(xs++[y])[i]?=some x->(i<xs.length/\xs[i]?=some x)\/(i=xs.length/\x=y):=fun {α xs y x i} h=>by
   by_cases hi:i<xs.length
   ·rw[gv hi] at h;exact .inl ⟨hi,h⟩
   ·have hj:=(fP.mp h).1;rw[fK,gz] at hj;have MH:i=xs.length:=by lia
    subst MH;rw[gx (fH _),ij] at h;exact .inr ⟨rfl,by simpa using h.symm⟩
  refine⟨⟨dx,Ed⟩,⟨max np n,pv++[v],Dr,((aP.le (Nat.le_max_left _ _)).mono u3).app (AtL.one ((ox.le (Nat.le_max_right _ _)).mono u3))⟩,⟨rows++[(ks,b)],MX,by simp[rl],BY,fun i x e h1 h2=>?_,BZ⟩,?_,pr⟩
  ·rcases pX h1 with⟨l1,h1⟩|⟨l1,h1⟩
   ·rcases pX h2 with⟨l2,h2⟩|⟨l2,h2⟩
    ·exact(Az i x e h1 h2).more
    ·lia
   ·rcases pX h2 with⟨l2,h2⟩|⟨l2,h2⟩
    ·lia
    ·subst h1 h2;exact oE.more
  ·rw[<- eA];exact Uu nd
structure VP(K:W.Frag)(a:Adr)(H:Hp)(r T P R D:Addr)(ps:List Tr)(y n:Nat):Prop where
 obj:∃dx,H r=some (.ins a.C_Shorts dx [("table",.ref T),("yes",.int (y:Int)),("no",.int (n:Int))])
 tb:TbY K a.Pm a.C_Table H T P R D ps
 yes:ps[y]?=some ZA
 no:ps[n]?=some nNo
theorem lkT:([("table",v1),("yes",v2),("no",v3)]:List (Str×V)).lookup ("table" : Str)=some v1:=rfl
theorem ZgG:([("table",v1),("yes",v2),("no",v3)]:List (Str×V)).lookup ("yes" : Str)=some v2:=by
 rw[gi,(by left:(("yes" : Str) == "table")=false)];rfl
theorem ZgM:([("table",v1),("yes",v2),("no",v3)]:List (Str×V)).lookup ("no" : Str)=some v3:=by
 rw[gi,(by left:(("no" : Str) == "table")=false)]
 show η _ _=_
 rw[gi,(by left:(("no" : Str) == "yes")=false)];rfl
theorem VP.mono{K:W.Frag}{a:Adr}{H H':Hp}{r T P R D:Addr}{ps:List Tr}{y n:Nat}(s:Zg H H')(h:VP K a H r T P R D ps y n):VP K a H' r T P R D ps y n:=
 ⟨let ⟨dx,e⟩:=h.obj; ⟨dx,s _ _ e⟩,h.tb.mono s,h.yes,h.no⟩
theorem Zeq{b:Addr}(h:X2 K H b (qE c is)):∃xs,SqT K H b (.str (Zu c)::xs):=by
 rcases WU c is with⟨w,rfl,rfl,e⟩|⟨e,_⟩
 ·rw[e] at h;obtain⟨⟨q,h1,_⟩,_⟩:=h;exact⟨_,h1⟩
 ·rw[e] at h;obtain⟨r,er⟩:=yc (c:=c) (is:=is);rw[er] at h;exact⟨_,h.1⟩
theorem QF{r P R:Addr}(h:TbY K Pm C H r P R D ps){t:Tr}(hi:ps[i]?=some t) :
  ∃(rv:List V) (b:Addr) (is:List Nat),H R=some (.lst rv)/\rv[i]?=some (.ref b)/\X2 K H b (qE t.lb is)/\is.length=t.ks.length/\∀(j:Nat) k m,t.ks[j]?=some k->is[j]?=some m->ps[m]?=some k:=by
 obtain⟨rows,h1,h2,h3,h4,_⟩:=h.rl;have hl:=(fP.mp hi).1;have he:rows[i]?=some (rows[i]'(by lia)):=fG (by lia);obtain⟨is,q1,q2,q3⟩:=h4 i t _ hi he;exact⟨_,(rows[i]'(by lia)).2,is,h1,by rw[fO,he];rfl,by rw[<- q3];exact h3 _ (gk he),q1,q2⟩
def zZ(K:W.Frag)(a:Adr):Sp:=fun vs H Q _=>ZdO fun(r T P R D:Addr) (ps:List Tr) (y n i:Nat) (t:Tr)=>Cj4 (vs=[.ref r,.int (i:Nat)]) (VP K a H r T P R D ps y n) (ps[i]?=some t) (Q (.str (wdT t)) H)
theorem XI:Okd P w K mg base a 1 a.y27 a.z27 dE zZ:=fun T hw=>by
 refine okF T.aj.f yg fun dn A outer s H vs Q E hr h=>?_;obtain⟨r,S,P,R,D,ps,y,n,i,t,rfl,sh,hi,k⟩:=h;refine⟨_,(Zf (Zm (Zq (ZD (K:=K) rfl) (Zq (Zk (K:=K) rfl) (ZU (K:=K) rfl (ZU (K:=K) rfl (pv 0) rfl) rfl) (pv 1) (fun _ _=>rfl)) Ze (fun _ _=>rfl)))),?_⟩;obtain⟨dx,ho⟩:=sh.obj;obtain⟨dt,ht⟩:=sh.tb.obj;obtain⟨rv,b,is,hR,hb,oE,_,_⟩:=QF sh.tb hi;obtain⟨xs,hx⟩:=Zeq oE;refine⟨_,rfl,r,_,dx,_,_,rfl,ho,T.ab,T.ag,lkT,?_⟩;refine⟨S,_,dt,_,_,rfl,ht,T.ai,T.ao,lkR,_,rfl,R,_,_,_,rfl,rfl,nS hR,Zh hb,b,_,_,_,rfl,rfl,hx,Zh (j:=0) rfl,k⟩
def iV(is:List Nat):List V:=is.map fun(i:Nat)=>V.int ((i:Nat):Int)
theorem Xt(is:List Nat):(iV is).length=is.length:=fF _
theorem KU(is:List Nat):(nK is).map kV=iV is:=by unfold nK iV;rw[fR];rfl
theorem Ze0:∀w∈W1++W2++(["yes","sign","within","and","or"]:List Str),PyData.strOk w=true:=by left
theorem J8(ok:Yi c n):PyData.strOk (Zu c)=true:=by
 refine Ze0 _ ?_;cases c with
 |yes=>exact gy _ (show("yes" : Str)∈_ by left)
 |sign z=>exact gy _ (show("sign" : Str)∈_ by left)
 |wit m=>exact gy _ (show("within" : Str)∈_ by left)
 |op w=>exact gT _ (zX ok)
 |many w=>rcases ok.1 with rfl|rfl;exact gy _ (show("and" : Str)∈_ by left);exact gy _ (show("or" : Str)∈_ by left)
theorem QI(is:List Nat)(x:Str):(ι x:Key)∉nK is:=fun h=>by
 unfold nK at h;obtain⟨i,_,e⟩:=fM.mp h;cases e
theorem Kp(ok:Yi c is.length):JU (XJ c is):=fun x hx=>by
 have hw:=J8 ok;cases c with
 |yes=>
  have:x = "yes" := by simpa[XJ] using hx
  rw[this];exact hw
 |sign z=>
  have:x = "sign" \/ x=z:=by simpa[XJ] using hx
  rcases this with rfl|rfl
  ·exact hw
  ·exact Zaf ok.2
 |wit m=>
  have:x = "within" \/ (ι x:Key)∈nK is:=by simpa[XJ] using hx
  rcases this with rfl|h
  ·exact hw
  ·exact ot h (QI _ _)
 |op w=>
  have:x=w\/(ι x:Key)∈nK is:=by simpa[XJ] using hx
  rcases this with rfl|h
  ·exact hw
  ·exact ot h (QI _ _)
 |many w=>
  have:x=w\/(ι x:Key)∈nK is:=by simpa[XJ] using hx
  rcases this with rfl|h
  ·exact hw
  ·exact ot h (QI _ _)
theorem ZcD{b:Addr}(ok:Yi c is.length)(hn:is≠[])(h:SqT K H b ((XJ c is).map kV)):X2 K H b (qE c is):=by
 rcases WU c is with⟨_,_,e,_⟩|⟨e,_⟩
 ·exact ot e hn
 ·rw[e];exact⟨h,Kp ok⟩
theorem Kn{a:Addr}(sh:U8 K H a vs c)(hl:vs.length=0)(ok:Yi c 0):X2 K H a (qE c []):=by
 have hk:=Kp (is:=[]) ok;cases c with
 |yes=>exact⟨sh.2,hk⟩
 |sign z=>exact⟨sh.2,hk⟩
 |wit m=>cases ok.2
 |op w=>rcases ok with⟨_,h⟩|⟨_,h⟩<;>cases h
 |many w=>
  obtain⟨b,h1,h2⟩:=sh;obtain rfl:=gX.mp hl;exact⟨⟨b,h1,h2⟩,J8 ok⟩
theorem Zfv{a:Addr}(sh:U8 K H a vs c)(hl:vs.length=n)(ok:Yi c n)(hn:0<n) :
  (∃m x xs,c=.wit m/\SqT K H a (.str "within" :: .int m::x::xs))\/(Zu c ≠ "within" /\ (∃x xs,SqT K H a (.str (Zu c)::x::xs))/\∀is,XJ c is=.inr (Zu c)::nK is):=by
 cases c with
 |yes=>have h:n=0:=ok;lia
 |sign z=>have h:n=0:=ok.1;lia
 |wit m=>
  cases vs with
  |nil=>simp at hl;lia
  |cons x xs=>exact .inl ⟨m,x,xs,rfl,sh⟩
 |op w=>
  cases vs with
  |nil=>simp at hl;lia
  |cons x xs=>exact .inr ⟨(W4 w (zX ok)).2.2.1,⟨x,xs,sh⟩,fun _=>rfl⟩
 |many w=>
  obtain⟨b,h1,h2⟩:=sh;exact .inr ⟨by rcases ok.1 with rfl|rfl<;>left,⟨.ref b,[],h1⟩,fun _=>rfl⟩
theorem lb8(ok:Yi c n):n<=8:=by
 cases c with
 |yes=>have h:n=0:=ok;lia
 |sign s=>have h:n=0:=ok.1;lia
 |op w=>rcases ok with o|o;have h:n=1:=o.2;lia;have h:n=2:=o.2;lia
 |wit m=>have h:n=2:=ok.2;lia
 |many w=>exact ok.2
theorem Zbi{k:Nat}(h:k<n):¬(HT.sIx n 0 none=0/\HT.sIx n n (some (k:Int))=n):=by
 rintro⟨_,h1⟩;have h2:¬((k:Int)<0):=by lia
 unfold HT.sIx at h1;simp only[h2,gK] at h1;lia
def Kh(K:W.Frag)(a:Adr):Sp:=fun vs H Q _=>Ex5 fun(v:V) (t:Tr) (n:Nat) (l:Addr) (is:List Nat)=>Cj5 (vs=[v,.ref l]) (At K n H v t) (H l=some (.lst (iV is))) (is.length=t.ks.length) (∀H' b,Zg H H'->X2 K H' b (qE t.lb is)->Q (.ref b) H')
theorem qv:Okd P w K mg base a 1 a.y14 a.z14 dD Kh:=fun T hw=>by
 refine okX T.bo.f xw fun dn A outer s H E hr=>?_;intro X;have hK:X.K=K:=rfl
 let d1:Rdg X UX [1]:=⟨_,(Zc (Zo (i:=2) xw.nd rfl (.inl rfl) (KM (Zn ZO (Zq (ZD hK) (pv 0) Ze (fun _ _=>rfl)) Zl (Zx _)) (Z1 (WW hK) (pv 0) Yr (Z4 Ze)) (Z1 (WW hK) (pv 0) Yr (Z4 Ze))) rfl (.inl rfl)) (Zf (Zm (Zv (qC hK) (pv 2) (ZI (Z9 hK) rfl T.aD nW (Za (pv 1) Zb rfl))))))⟩
 intro vs Q h;obtain⟨v,t,n,l,is,rfl,ox,hl,rD,k⟩:=h;refine⟨_,(Zc (ZJ (Xy (Wk hK (pv 1) (fun _=>rfl))) (Zf (Zm (pv 0))) Zw) d1.2),?_⟩;cases n with
 |zero=>exact ox.elim
 |succ n=>
  obtain⟨ad,us,rfl,sh,ok,pc,hq⟩:=ox;refine⟨_,rfl,!(iV is).isEmpty,.inl ⟨_,nS hl,rfl⟩,?_⟩;cases his:(iV is).isEmpty with
  |true=>
   have e0:iV is=[]:=mC.mp his;have e1:is=[]:=gX.mp (by rw[<- Xt,e0];rfl);subst e1;have z0:t.ks.length=0:=rD.symm;rw[z0] at ok pc;exact YM ⟨_,rfl,k H ad (fun _ _ e=>e) (Kn sh pc ok)⟩
  |false=>
   have wj:is≠[]:=fun e=>by rw[e] at his;cases his
   have Ab:0<t.ks.length:=by rw[<- rD];exact l9.mpr wj
   have Rc:Yi t.lb is.length:=by rw[rD];exact ok
   have h8:=lb8 ok;refine Yn ?_;have oy:∀(q:Addr) (hd:List V) (H1:Hp),Zg H H1->H1 q=some (.tup hd)->hd≠[]->hd.length<=2->hd++iV is=(XJ t.lb is).map kV ->
     ∀b,H1 b=none->∀c,(upd H1 b (.tup (iV is))) c=none->Q (.ref c) (upd (upd H1 b (.tup (iV is))) c (.tup (hd++iV is))):=fun q hd H1 s1 e1 oA uL ek b hb c hc=>by
    refine k _ c ((s1.trans (Zi hb)).trans (Zi hc)) (ZcD Rc wj ?_);rw[<- ek];exact nU Zd
   rcases Zfv sh pc ok Ab with⟨m,x,xs,ew,ea⟩|⟨hw,⟨x,xs,ea⟩,hk⟩
   ·refine⟨_,rfl,ad,_,_,_,rfl,rfl,ea,Zh (j:=0) rfl,rfl,_,rfl,Y7 rfl ?_⟩;refine⟨_,rfl,_,rfl,ad,_,rfl,ea,Zbi (k:=2) (by simp),fun q hq=>?_⟩;have ec:Xc (V.str "within" :: .int m::x::xs) none (some 2)=[V.str "within",.int m]:=xS (V.str "within" :: .int m::x::xs) 2 (by simp);rw[ec];have s1:=Zi (o:=.tup [V.str "within",.int m]) hq;have e1:(upd H q (.tup [V.str "within",.int m])) q=some (.tup [V.str "within",.int m]):=Zd;generalize upd H q (.tup [V.str "within",.int m])=H1 at s1 e1 ⊢;refine⟨_,rfl,_,rfl,l,_,rfl,.inl ⟨nS (s1 _ _ hl),fun b hb=>?_⟩⟩;refine⟨q,b,_,_,rfl,rfl,nU (Zi hb _ _ e1),nU Zd,by simp,by rw[Xt,fJ];simp;lia,fun z=>?_,fun _ c sP=>oy q _ H1 s1 e1 (by simp) (by simp) (by rw[ew];show _=V.str "within" :: V.int m::(nK is).map kV;rw[KU];rfl) b hb c sP⟩;rw[z] at his;cases his
   ·refine⟨_,rfl,ad,_,_,_,rfl,rfl,ea,Zh (j:=0) rfl,rfl,_,rfl,ZR (fun z=>hw (V.str.inj z)) ?_⟩;refine⟨_,rfl,_,rfl,ad,_,rfl,ea,Zbi (k:=1) (by simp),fun q hq=>?_⟩;have ec:Xc (V.str (Zu t.lb)::x::xs) none (some 1)=[V.str (Zu t.lb)]:=xS (V.str (Zu t.lb)::x::xs) 1 (by simp);rw[ec];have s1:=Zi (o:=.tup [V.str (Zu t.lb)]) hq;have e1:(upd H q (.tup [V.str (Zu t.lb)])) q=some (.tup [V.str (Zu t.lb)]):=Zd;generalize upd H q (.tup [V.str (Zu t.lb)])=H1 at s1 e1 ⊢;refine⟨_,rfl,_,rfl,l,_,rfl,.inl ⟨nS (s1 _ _ hl),fun b hb=>?_⟩⟩;refine⟨q,b,_,_,rfl,rfl,nU (Zi hb _ _ e1),nU Zd,by simp,by rw[Xt,fJ];simp;lia,fun z=>?_,fun _ c sP=>oy q _ H1 s1 e1 (by simp) (by simp) (by rw[hk,fL,KU];rfl) b hb c sP⟩;rw[z] at his;cases his
theorem Uj:∀(n:Nat) (t:Tr),psz t<=n->YL Tr.node t=t
 |0,t,h=>by have:=Xw t;lia
 |n+1,t,h=>by
  rw[W0];have e:t.ks.map (YL Tr.node)=t.ks:=by
   have:t.ks.map (YL Tr.node)=t.ks.map id:=iz fun k hk=>Uj n k (by have:=Xg hk;lia);rw[this,lT]
  rw[e];exact(Tr.eta t).symm
theorem kQ:∀{ks:List Tr}{s:Tr},s∈Yq ks->∃k∈ks,s∈post k
 |[],s,h=>by rw[Yq] at h;cases h
 |t::r,s,h=>by
  rw[Yq,gj] at h;rcases h with h|h
  ·exact⟨t,by simp,h⟩
  ·obtain⟨k,hk,hs⟩:=kQ h;exact⟨k,fT _ hk,hs⟩
theorem lkN{m:Str}(h1:(m==("parts" : Str))=false)(h2:(m==("rows" : Str))=false)(h3:(m==("numbers" : Str))=false):([("parts",v1),("rows",v2),("numbers",v3)]:List (Str×V)).lookup m=none:=by
 rw[gi,h1]
 show η _ _=_
 rw[gi,h2]
 show η _ _=_
 rw[gi,h3];rfl
theorem Qe{L:List Tr}{x:Tr}(h:L[i]?=some x):Zs ps0 (L.take (i+1))=YN (Zs ps0 (L.take i)) x:=by
 rw[mD,h,YT];rfl
theorem WA{x s:Tr}{m:Nat}(h:ps[m]?=some s):(YN ps x)[m]?=some s:=by
 obtain⟨B,e⟩:=Ku ps x;rw[e,gv (fP.mp h).1];exact h
def zA(K:W.Frag)(a:Adr):Sp:=fun vs H Q _=>Ex8 fun r P R D ps0 v t n=>Cj6 (vs=[.ref r,v]) (TbY K a.Pm a.C_Table H r P R D ps0) (At K n H v t) (psz t<=8000000) ((Zs ps0 (post t)).length<4000) (∀H' (i:Nat),Y5 P R D H H'->TbY K a.Pm a.C_Table H' r P R D (Zs ps0 (post t))->(Zs ps0 (post t))[i]?=some t->Q (.int (i:Int)) H')
theorem Y2:Okd P w K mg base a 4 a.y16 a.z16 eh zA:=fun T hw=>by
 refine okX T.ae.f Xv fun dn A outer s H E hr=>?_;intro X;have hK:X.K=K:=rfl
 let d1:Rdg X YQ [1,0,1]:=⟨_,(Zf (Yj (XE gA gH gI Z0 (pv 2) (Za (YD (pv 0) T.ai T.ah.m (Xj T hw) (rmL hr rfl) T.ah.n .nil Yh (Za (pv 3) (Za (ZK T.bo (qv T hw) hr rfl rfl (Za (pv 3) (Za (pv 4) Zb rfl) rfl)) Zb rfl) rfl)) Zb rfl)) rfl))⟩
 let d2:Rdg X YQ [1,0,0]:=⟨_,(Zc (Zo (i:=4) Xv.nd rfl (.inl rfl) (ZK T.bg (UB T hw) hr rfl rfl (Za (pv 2) (Za (Zp (Zy hK) rfl T.av nX (Za (ZK T.bf (VV T hw) hr rfl rfl (Za (pv 3) Zb rfl)) Zb rfl)) Zb rfl) rfl)) rfl (.inl rfl)) d1.2)⟩
 let d3:Rdg X YQ [1]:=⟨_,(Zc (Xp gE rfl (ZQ hK (ZK T.aT (VD T hw) hr rfl rfl (Za (pv 1) Zb rfl))) (Zz (i:=3) Xv.nd rfl (.inl rfl)) d2.2) (Zf (Zm (Zq (Zk hK) (pv 2) Ze (fun _ _=>rfl)))))⟩
 intro vs Q h;obtain⟨r,P,R,D,ps0,v,t,n,rfl,tb,ox,hz,oG,k⟩:=h;refine⟨_,(Zc (Zo (i:=2) Xv.nd rfl (.inl rfl) (Z7 Zb) rfl (.inl rfl)) d3.2),?_⟩;cases n with
 |zero=>exact ox.elim
 |succ n=>
  refine⟨by left,fun F hF=>?_⟩;have s1:=Zi (o:=.lst []) hF;have e1:(upd H F (.lst [])) F=some (.lst []):=Zd;generalize upd H F (.lst [])=H1 at s1 e1 ⊢;have AZ:(post t).length<=8000000:=hz;refine⟨_,rfl,v,t,n+1,rfl,ox.mono (nT s1),by lia,fun H2 L us s2 L0 eL aL=>⟨L,rfl,⟨_,nS eL⟩,?_⟩⟩;have AD:L≠F:=fun e=>by rw[e,e1] at L0;cases L0
  have A8:=s2 _ _ e1;obtain⟨uS,r6⟩:=JG (F:=Tr.node) t;rw[Uj _ t (fH _)] at r6;have pc:=aL.1;obtain⟨n0,DZ,rM,_⟩:=tb.pl;obtain⟨BV,rV,_,_,_,r9⟩:=tb.rl;have Ak:P≠F:=Zr rM hF;have wT:R≠F:=Zr rV hF;have GR:D≠F:=Zr r9 hF;have wU:∀c o,H c=some o->c≠L:=fun c o e z=>by rw[z] at e;rw[s1 _ _ e] at L0;cases L0
  have Fz:=wU _ _ rM;have E9:=wU _ _ rV;have EX:=wU _ _ r9;have sM:=(tb.mono s1).mono s2
  let J1:Nat->L2.St->Hp->Prop:=fun i U H'=>Ex4 fun(z1 z2:Option V) (is:List Nat) (st:List Tr)=>Zfj (U=[qr0 r,some v,qr0 F,z1,z2]) (Y5 P R D H H') (H' L=some (.lst us)) (AtL K (n+1) H' us (post t)) (TbY K a.Pm a.C_Table H' r P R D (Zs ps0 ((post t).take i))) (H' F=some (.lst (iV is))) (is.length=st.length) ((∀(j:Nat) s m,st[j]?=some s->is[j]?=some m->(Zs ps0 ((post t).take i))[m]?=some s)) (yh Tr.node st ((post t).drop i)) (yQ Tr.node st ((post t).drop i)=[t]) (st.length<=i)
  refine Wp (K:=K) (xs:=us) J1 ?_ ?_ ?_ ?_
  ·exact⟨_,_,[],[],rfl,Zg.b (s1.trans s2),eL,aL,sM,A8,rfl,fun j s m h=>by simp at h,uS,r6,fH _⟩
  ·rintro i U H' hi ⟨z1,z2,is,st,rfl,_,Gv,_⟩;exact nS Gv
  ·rintro i x U H3 hx ⟨z1,z2,is,st,rfl,b3,wI,Av,rK,sk,rD,oH,ub,oI,oz⟩;have hi:i<us.length:=(fP.mp hx).1;have sN:i<(post t).length:=by lia
   have ug:(post t)[i]?=some (post t)[i]:=fG sN;have at3:=Av.2 i x _ hx ug;have sL:=Qe (ps0:=ps0) ug;have pH:(Zs ps0 ((post t).take i)).length<4000:=by
    have e1:Zs ps0 (post t)=Zs (Zs ps0 ((post t).take i)) ((post t).drop i):=by rw[<- YT,nG]
    obtain⟨B,e2⟩:=WN ((post t).drop i) (Zs ps0 ((post t).take i));rw[e1,e2,fK] at oG;lia
   rw[mY sN] at ub oI;obtain⟨⟨A0,rH⟩,uR⟩:=ub;have rA:yQ Tr.node (XZ Tr.node st (post t)[i]) ((post t).drop (i+1))=[t]:=oI;have pE:(post t)[i].ks.map (YL Tr.node)=(post t)[i].ks:=by
    have:(post t)[i].ks.map (YL Tr.node)=(post t)[i].ks.map id:=iz fun k hk=>Uj _ k (fH _);rw[this,lT]
   rw[pE] at rH;generalize (post t)[i]=q at at3 A0 rH uR rA sL ug pE;generalize t9:Zs ps0 ((post t).take i)=ps at rK oH sL pH;obtain⟨Af,sw,AB,As,Aj,uJ,CI⟩:=id at3;refine⟨_,rfl,_,rfl,x,Af,sw,q.lb,rfl,AB,As,by rw[uJ];exact Aj.b,fun H4 b s4 eb=>.inl ⟨b,_,rfl,.inr eb,?_⟩⟩;have rg:=s4 _ _ sk;have Ft:=Xt is;refine⟨F,iV is,sw.length,rfl,rg,by rw[Ft];lia,fun H5 l x5 rf l0 tH=>?_⟩;have IH:l≠F:=fun e=>by rw[e,rg] at l0;cases l0
   have Ek:Yv H4 H5:=ZB.tup x5 rg;have wY:Yv H3 H5:=(nT s4).trans Ek;have GP:TbY K a.Pm a.C_Table H5 r P R D ps:=(rK.mono s4).monoX x5 rg Ak wT;rw[show(iV is).length-sw.length=st.length-q.ks.length by lia] at rf tH;have ed:(iV is).drop (st.length-q.ks.length)=iV (is.drop (st.length-q.ks.length)):=by unfold iV;rw[m5]
   have ek:(iV is).take (st.length-q.ks.length)=iV (is.take (st.length-q.ks.length)):=by unfold iV;rw[iW]
   rw[ed] at tH;rw[ek] at rf;have wK:=at3.mono wY;obtain⟨Eo,Fi⟩:=GP.obj;have uz:(is.drop (st.length-q.ks.length)).length=q.ks.length:=by rw[gQ];lia
   have oE:WQ ps q (qE q.lb (is.drop (st.length-q.ks.length))):=by
    refine⟨_,uz,fun j kk m h1 h2=>?_,rfl⟩;rw[<- rH,iK] at h1;rw[iK] at h2;exact oH _ _ _ h1 h2
   refine⟨_,rfl,.inl ⟨rfl,_,nS rf⟩,_,rfl,r,Eo,_,rfl,Fi,lkN (by left) (by left) (by left),_,rfl,_,rfl,_,rfl,x,q,n+1,l,_,rfl,wK,tH,uz,fun H6 b6 s6 e6=>⟨r,P,R,D,ps,x,q,n+1,b6,_,rfl,GP.mono s6,wK.mono (nT s6),e6,oE,by lia,fun H7 m b7 AX hm=>?_⟩⟩;have Ff:=b7 _ _ (fX Ak) (fX wT) (fX GR) (s6 _ _ rf);refine⟨F,_,_,rfl,rfl,Ff,by rw[Xt,fN,fJ];lia,?_⟩;have x8:ZB F H7 (upd H7 F (.lst (iV (is.take (st.length-q.ks.length))++[.int (m:Int)]))):=(ZB.refl H7).upd;have u8:Yv H7 (upd H7 F (.lst (iV (is.take (st.length-q.ks.length))++[.int (m:Int)]))):=ZB.tup x8 Ff;have Fk:=AX.monoX x8 Ff Ak wT;have e8:(upd H7 F (.lst (iV (is.take (st.length-q.ks.length))++[.int (m:Int)]))) F=some (.lst (iV (is.take (st.length-q.ks.length)++[m]))):=by
    rw[Zd];unfold iV;rw[gp];rfl
   have b8:Y5 P R D H (upd H7 F (.lst (iV (is.take (st.length-q.ks.length))++[.int (m:Int)]))):=fun c o n1 n2 n3 e=>by
    have nc:c≠F:=Zr e hF;rw[ZF nc];exact b7 _ _ n1 n2 n3 (s6 _ _ (x5 _ _ nc (s4 _ _ (b3 _ _ n1 n2 n3 e))))
   have Ee:(upd H7 F (.lst (iV (is.take (st.length-q.ks.length))++[.int (m:Int)]))) L=some (.lst us):=WF (b7 _ _ (fX Fz) (fX E9) (fX EX) (s6 _ _ (x5 _ _ AD (s4 _ _ wI)))) AD;have DM:Yv H3 (upd H7 F (.lst (iV (is.take (st.length-q.ks.length))++[.int (m:Int)]))):=(wY.trans (nT s6)).trans (((GP.mono s6).t b7).trans u8);generalize upd H7 F (.lst (iV (is.take (st.length-q.ks.length))++[.int (m:Int)]))=H8 at x8 u8 Fk e8 b8 Ee DM ⊢;rw[<- sL] at Fk hm;refine⟨_,_,is.take (st.length-q.ks.length)++[m],XZ Tr.node st q,rfl,b8,Ee,Av.mono DM,Fk,e8,?_,?_,uR,rA,?_⟩
   ·unfold XZ;rw[fK,fK,fN,fN,rD];rfl
   ·intro j s m' h1 h2;unfold XZ at h1;have Cc:(st.take (st.length-q.ks.length)).length=(is.take (st.length-q.ks.length)).length:=by rw[fN,fN,rD]
    by_cases hj:j<(is.take (st.length-q.ks.length)).length
    ·rw[gv (by rw[Cc];exact hj)] at h1;rw[gv hj] at h2;have RU:j<st.length-q.ks.length:=by rw[fN] at hj;lia
     rw[lB RU] at h1 h2;rw[sL];exact WA (oH j s m' h1 h2)
    ·rw[gx (by rw[Cc];lia),Cc] at h1;rw[gx (by lia)] at h2;have Rk:j-(is.take (st.length-q.ks.length)).length=0:=by
      have:=(fP.mp h2).1;rw[gz] at this;lia
     rw[Rk] at h1 h2;have e1:m=m':=by simpa using h2
     have e2:Tr.node q.lb (st.drop (st.length-q.ks.length))=s:=by simpa using h1
     rw[rH,<- Tr.eta] at e2;rw[<- e1,<- e2];exact hm
   ·unfold XZ;rw[fK,fN];simp;lia
  rintro U H3 ⟨z1,z2,is,st,rfl,b3,wI,Av,rK,sk,rD,oH,ub,oI,oz⟩;rw[pc,nF (fH _)] at oI;rw[pc,iB (fH _)] at rK oH;have BB:st=[t]:=oI;subst BB;obtain⟨m,rfl⟩:∃m,is=[m]:=by
   match is,rD with
   |[m],_=>exact⟨m,rfl⟩
  exact⟨_,rfl,F,_,_,_,rfl,rfl,nS sk,Zh (j:=0) rfl,k H3 m b3 rK (oH 0 t m rfl rfl)⟩
def qA(ps:List Tr)(is:List Nat)(ks:List Tr):Prop:=is.length=ks.length/\∀(j:Nat) k i,ks[j]?=some k->is[j]?=some i->ps[i]?=some k
theorem VP.next{r T P R:Addr}{y:Nat}{x:Tr}(h:VP K a H r T P R D ps y n)(b:Y5 P R D H H')(tb:TbY K a.Pm a.C_Table H' T P R D (YN ps x)):VP K a H' r T P R D (YN ps x) y n:=by
 obtain⟨dx,e⟩:=h.obj;obtain⟨_,_,h1,_⟩:=h.tb.pl;obtain⟨_,h2,_,_,_,h3⟩:=h.tb.rl;exact⟨⟨dx,b _ _ (Y0 e h1 (by intro z;cases z)) (Y0 e h2 (by intro z;cases z)) (Y0 e h3 (by intro z;cases z)) e⟩,tb,WA h.yes,WA h.no⟩
theorem Q4{b:Addr}{us:List V}(sh:U8 K H b us c)(hm:∀w,c≠.many w)(hu:us≠[]):∃hd:List V,SqT K H b (hd++us)/\1<=hd.length/\hd.length<=2/\∀H' q ws,SqT K H' q (hd++ws)->U8 K H' q ws c:=by
 cases c with
 |yes=>exact ot sh.1 hu
 |sign z=>exact ot sh.1 hu
 |op w=>exact⟨[.str w],sh,by simp,by simp,fun _ _ _ h=>h⟩
 |wit m=>exact⟨[.str "within",.int m],sh,by simp,by simp,fun _ _ _ h=>h⟩
 |many w=>exact ot rfl (hm w)
theorem ZeV{us:List V}(h:1<=us.length):Xc (xs++us) none (some (-(us.length:Int)))=xs:=by
 unfold Xc;have e:HT.sIx (xs++us).length (xs++us).length (some (-(us.length:Int)))=xs.length:=by
  show(if(-(us.length:Int))<0 then((-(us.length:Int))+((xs++us).length:Nat)).toNat else _)=_
  rw[oq (by lia),fK];lia
 have e0:HT.sIx (xs++us).length 0 none=0:=rfl;rw[e,e0,ω,mV,List.take_left]
def vg(K:W.Frag)(a:Adr):Sp:=fun vs H Q _=>ZeI fun(r T P R D:Addr) (ps:List Tr) (y n:Nat) (v:V) (t:Tr) (m:Nat) (l:Addr) (is:List Nat) (ks:List Tr)=>Cj9 (vs=[.ref r,v,.ref l]) (VP K a H r T P R D ps y n) (ps.length<4000) (At K m H v t) ((∀w,t.lb≠.many w)) (H l=some (.lst (iV is))) (qA ps is ks) (ks.length=t.ks.length) (∀H' (i:Nat),Y5 P R D H H'->VP K a H' r T P R D (YN ps (.node t.lb ks)) y n->(YN ps (.node t.lb ks))[i]?=some (.node t.lb ks)->Q (.int (i:Int)) H')
theorem ja:Okd P w K mg base a 2 a.y28 a.z28 dA vg:=fun T hw=>by
 refine okX T.bb.f qg fun dn A outer s H E hr=>?_;intro X;have hK:X.K=K:=rfl
 let d1:Rdg X Xk [0,0,0]:=⟨_,(Zf (Zm (YD (ZU hK (pv 0) rfl) T.ai T.ah.m (Xj T hw) (rmL hr rfl) T.ah.n .nil Yh (Za (pv 1) (Za (pv 1) Zb rfl) rfl))))⟩
 let d2:Rdg X Xk [2]:=⟨_,(Zf (Zm (YD (ZU hK (pv 0) rfl) T.ai T.ah.m (Xj T hw) (rmL hr rfl) T.ah.n .nil Yh (Za (Zv (qC hK) (Z1 (WW hK) (pv 1) Yr (Z4 (VY WB (Zp (Zy hK) rfl T.av nX (Za (pv 2) Zb rfl))))) (pv 3)) (Za (ZK T.bo (qv T hw) hr rfl rfl (Za (pv 1) (Za (pv 2) Zb rfl) rfl)) Zb rfl) rfl))))⟩
 let d3:Rdg X Xk [1]:=⟨_,(Zc (Zo (i:=3) qg.nd rfl (.inl rfl) (ZI (Z9 hK) rfl T.aD nW (Za (Ya (Nc:=dH) (ix:=[none,some 0]) (ZX.of (by left:ZZ (Zj Xk) ["self","sentence","inner","parts"] _ _ _=true)) rfl (ZQ hK (pv 2)) (fun _ _ _ _ _=>(Zz (i:=0) (show δ dH by left) rfl (.inl rfl))) (fun _ _ _ _ _=>Ys) (fun _ _ _ _ _=>(Zq (Zk hK) (ZU hK (ZU hK (pv 1) rfl) rfl) (pv 0) (fun _ _=>rfl)))) Zb rfl)) rfl (.inl rfl)) d2.2)⟩
 intro vs Q h;obtain⟨r,S,P,R,D,ps,y,n,v,t,m,l,is,ks,rfl,sh,few,ox,Ph,hl,⟨rD,oH⟩,tU,k⟩:=h;refine⟨_,(Zc (ZJ (Xy (Wk hK (pv 2) (fun _=>rfl))) d1.2 Zw) d3.2),?_⟩;obtain⟨dx,ho⟩:=sh.obj;obtain⟨dt,ht⟩:=sh.tb.obj;obtain⟨np,pv,hP,aP⟩:=sh.tb.pl;cases m with
 |zero=>exact ox.elim
 |succ m=>
  obtain⟨ad,us,rfl,Mj,ok,pc,hq⟩:=id ox;refine⟨_,rfl,!(iV is).isEmpty,.inl ⟨_,nS hl,rfl⟩,?_⟩;have h8:=lb8 ok;have uB:=fun(v1 v2 v3:V)=>lkN (v1:=v1) (v2:=v2) (v3:=v3) (m := "taken_in") (by left) (by left) (by left);have oE:∀rq,rq=is->WQ ps (.node t.lb ks) (qE t.lb rq):=fun rq e=>⟨is,by rw[rD];rfl,oH,by rw[e];rfl⟩;cases his:(iV is).isEmpty with
  |true=>
   have e0:iV is=[]:=mC.mp his;have e1:is=[]:=gX.mp (by rw[<- Xt,e0];rfl);have e2:ks=[]:=gX.mp (by rw[<- rD,e1];rfl);have e3:t.ks=[]:=gX.mp (by rw[<- tU,e2];rfl);have et:Tr.node t.lb ks=t:=by rw[e2,<- e3];exact(Tr.eta t).symm
   have z0:t.ks.length=0:=by rw[e3];rfl
   have rw0:X2 K H ad (qE t.lb []):=Kn Mj (by rw[pc,z0]) (by rw[<- z0];exact ok);rw[et] at k;refine YM ⟨_,rfl,r,_,dx,_,_,rfl,ho,T.ab,T.ag,lkT,S,dt,_,rfl,ht,uB _ _ _,_,rfl,_,rfl,S,P,R,D,ps,.ref ad,t,m+1,ad,qE t.lb [],rfl,sh.tb,ox,rw0,by have:=oE [] e1.symm;rw[et] at this;exact this,few,fun H1 i b1 uw hi=>k H1 i b1 (sh.next b1 uw) hi⟩
  |false=>
   have wj:is≠[]:=fun e=>by rw[e] at his;cases his
   have Ab:0<is.length:=l9.mpr wj;have Dk:us≠[]:=fun e=>by rw[e] at pc;simp at pc;lia
   obtain⟨hd,hs,HC,uU,NU⟩:=Q4 Mj Ph Dk;refine Yn ?_;refine⟨_,rfl,l,rfl,⟨_,nS hl⟩,fun A hA=>?_⟩;refine We (K:=K) is (fun i=>V.int ((i:Nat):Int)) (fun i=>(pv[i]?).getD .non) hA (nS hl) (by rw[fJ];lia) ?_ ?_
   ·intro x hx G N sG hN;obtain⟨j,hj,ej⟩:=gF hx;have hk:ks[j]?=some (ks[j]'(by lia)):=fG (by lia);have hp:=oH j _ x hk (by rw[<- ej];exact fG hj);have rW:x<pv.length:=by rw[aP.1];exact(fP.mp hp).1
    have hu:pv[x]?=some (pv[x]'rW):=fG rW;have BW:=hN G (.refl _);rw[hu] at BW;exact⟨_,rfl,r,_,dx,_,_,rfl,sG _ _ ho,T.ab,T.ag,lkT,S,_,dt,_,_,rfl,sG _ _ ht,T.ai,T.aA,lkP,_,rfl,P,_,_,_,rfl,rfl,nS (sG _ _ hP),Zh hu,BW⟩
   intro H1 uT s1;generalize hws:is.map (fun i=>(pv[i]?).getD .non)=ws at uT;have Dn:ws.length=is.length:=by rw[<- hws,fF]
   have E4:AtL K np H ws ks:=by
    refine⟨by lia,fun j u k' h1 h2=>?_⟩;have hj:j<is.length:=by rw[<- Dn];exact(fP.mp h1).1
    have hp:=oH j k' is[j] h2 (fG hj);have rW:is[j]<pv.length:=by rw[aP.1];exact(fP.mp hp).1
    rw[<- hws,fO,fG hj] at h1;have e:u=pv[is[j]]'rW:=by
     have:=fW h1;rw[<- this];show(pv[is[j]]?).getD .non=_;rw[fG rW];rfl
    rw[e];exact aP.2 _ _ _ (fG rW) hp
   refine⟨A,ws,rfl,.inl ⟨nS uT,fun B hB=>?_⟩⟩;refine YU hB fun H2 s2 eB=>?_;have oR:=s1.trans s2;refine⟨_,rfl,r,_,dx,_,_,rfl,oR _ _ ho,T.ab,T.ag,lkT,S,dt,_,rfl,oR _ _ ht,uB _ _ _,?_⟩;refine⟨_,rfl,_,rfl,.inl ⟨l,_,rfl,.inl (nS (oR _ _ hl)),?_⟩⟩;rw[Xt];have lu:us.length=is.length:=by lia
   refine⟨_,rfl,_,rfl,ad,_,rfl,nT oR _ _ _ hs,?_,fun q hq=>?_⟩
   ·rintro⟨z1,z2⟩;have e:HT.sIx (hd++us).length (hd++us).length (some (-(is.length:Int)))=hd.length:=by
     show(if(-(is.length:Int))<0 then((-(is.length:Int))+((hd++us).length:Nat)).toNat else _)=_
     rw[oq (by lia),fK];lia
    rw[e,fK] at z2;lia
   have ec:Xc (hd++us) none (some (-(is.length:Int)))=hd:=by rw[<- lu];exact ZeV (by lia)
   rw[ec];refine Xh hq fun H3 s3 eq=>?_;refine⟨_,rfl,q,B,hd,ws,rfl,rfl,nU eq,nU (s3 _ _ eB),fun z=>by rw[z] at HC;simp at HC,by rw[fJ];lia,fun z=>ot (fS θ z) (by rw[Dn];simp;lia),fun _ c hc=>?_⟩;refine Xh hc fun H4 s4 ec4=>?_;have E1:=s3.trans s4;have wt:=oR.trans E1;have Ck:At K (np+1) H4 (.ref c) (.node t.lb ks):=⟨c,ws,rfl,NU _ _ _ (nU ec4),by show Yi t.lb ks.length;rw[tU];exact ok,by show ws.length=ks.length;lia,fun i u k' h1 h2=>(E4.2 i u k' h1 h2).mono (nT wt)⟩;refine⟨_,rfl,_,rfl,.ref ad,t,m+1,l,is,rfl,ox.mono (nT wt),wt _ _ hl,by lia,fun H5 b5 s5 r5=>?_⟩;have wm:=wt.trans s5;refine⟨S,P,R,D,ps,.ref c,.node t.lb ks,np+1,b5,_,rfl,sh.tb.mono wm,Ck.mono (nT s5),r5,oE _ rfl,few,fun H6 i b6 Dt hi=>?_⟩;have BI:Y5 P R D H H6:=(Zg.b wm).trans b6;exact k H6 i BI (sh.next BI Dt) hi
open Classical in
theorem j4{k:Key}:(WR kv k v).map (·.1)=if k∈kv.map (·.1) then kv.map (·.1) else kv.map (·.1)++[k]:=by
 unfold WR
 by_cases h:(kv.any fun e=>decide (e.1=k))=true
 ·have hm:k∈kv.map (·.1):=by
   obtain⟨e,he,q⟩:=l4.mp h;exact fM.mpr ⟨e,he,ge q⟩
  rw[oq h,oq hm,fR];refine iz fun e he=>?_
  show(if e.1=k then _ else e).1=e.1
  split<;>first|rfl|(rename_i q;exact q.symm)
 ·have hm:k∉kv.map (·.1):=fun z=>h (by
   obtain⟨e,he,q⟩:=fM.mp z;exact l4.mpr ⟨e,he,fQ q⟩)
  rw[oo h,oo hm,gp];rfl
def nKs(fs:List Nat):List Key:=fs.map fun(i:Nat)=>(μ ((i:Nat):Int):Key)
theorem Zbc{fs:List Nat}{x:Nat}:(μ ((x:Nat):Int):Key)∈nKs fs↔x∈fs:=by
 unfold nKs;rw[fM];constructor
 ·rintro⟨i,hi,e⟩;have:(i:Int)=(x:Int):=iX e;have:i=x:=by lia
  rw[<- this];exact hi
 ·exact fun h=>⟨x,h,rfl⟩
theorem qA.mem(nd:ps.Nodup){fs:List Nat}{ks:List Tr}(h:qA ps fs ks){x:Nat}{k:Tr}(hx:ps[x]?=some k):x∈fs↔k∈ks:=by
 constructor
 ·intro hm;obtain⟨j,hj,e⟩:=gF hm;have hk:ks[j]?=some (ks[j]'(by rw[<- h.1];exact hj)):=fG _;have:=h.2 j _ x hk (by rw[<- e];exact fG hj);rw[hx] at this;rw[fW this];exact gC _
 ·intro hm;obtain⟨j,hj,e⟩:=gF hm;have hi:fs[j]?=some (fs[j]'(by rw[h.1];exact hj)):=fG _;have:=h.2 j k _ (by rw[<- e];exact fG hj) hi;rw[zq nd hx this];exact gC _
theorem qA.snoc{fs:List Nat}{ks:List Tr}(h:qA ps fs ks){x:Nat}{k:Tr}(hx:ps[x]?=some k):qA ps (fs++[x]) (ks++[k]):=by
 refine⟨by rw[fK,fK,h.1];rfl,fun j k' i h1 h2=>?_⟩
 by_cases cj:j<ks.length
 ·rw[gv cj] at h1;rw[gv (by rw[h.1];exact cj)] at h2;exact h.2 j k' i h1 h2
 ·have lj:=(fP.mp h1).1;rw[fK,gz] at lj;obtain rfl:j=ks.length:=by lia
  rw[gx (fH _),ij] at h1;rw[<- h.1,gx (fH _),ij] at h2;cases h1;cases h2;exact hx
def xk(K:W.Frag)(a:Adr):Sp:=fun vs H Q _=>Zhw fun(r T P R D:Addr) (ps:List Tr) (y n:Nat) (w:Str) (l:Addr) (is:List Nat) (ks:List Tr) (i0 s0:Nat) (tI tS:Tr)=>Zbv (vs=[.ref r,.str w,.ref l,.int (i0:Nat),.int (s0:Nat)]) ((w = "and" \/ w = "or")) (VP K a H r T P R D ps y n) (ps.length<4000) (H l=some (.lst (iV is))) (qA ps is ks) (ks.length<=8) (ps[i0]?=some tI) (ps[s0]?=some tS) (∀H' (i:Nat),Y5 P R D H H'->VP K a H' r T P R D (YN ps (Xq w tI tS ks)) y n->(YN ps (Xq w tI tS ks))[i]?=some (Xq w tI tS ks)->Q (.int (i:Int)) H')
theorem Uk:Okd P w K mg base a 2 a.y25 a.z25 eo xk:=fun T hw=>by
 refine okX T.aB.f WV fun dn A outer s H E hr=>?_;intro X;have hK:X.K=K:=rfl
 let d1:Rdg X Yd [5]:=⟨_,(Zf (Zm (YD (ZU hK (pv 0) rfl) T.ai T.ah.m (Xj T hw) (rmL hr rfl) T.ah.n .nil Yh (Za (ZH (Za (pv 1) (Za (pv 6) Zb rfl) rfl)) (Za (Zv (qC hK) (ZH (Za (pv 1) Zb rfl)) (ZI (Z9 hK) rfl T.aD nW (Za (pv 5) Zb rfl))) Zb rfl) rfl))))⟩
 let d2:Rdg X Yd [4]:=⟨_,(Zc (Zo (i:=6) WV.nd rfl (.inl rfl) (ZI (Z9 hK) rfl T.aD nW (Za (Ya (Nc:=dH) (ix:=[none,some 0]) (ZX.of (by left:ZZ (Zj Yd) Vh _ _ _=true)) rfl (ZQ hK (pv 5)) (fun _ _ _ _ _=>(Zz (i:=0) (show δ dH by left) rfl (.inl rfl))) (fun _ _ _ _ _=>Ys) (fun _ _ _ _ _=>(Zq (Zk hK) (ZU hK (ZU hK (pv 1) rfl) rfl) (pv 0) (fun _ _=>rfl)))) Zb rfl)) rfl (.inl rfl)) d1.2)⟩
 let d3:Rdg X Yd [3]:=⟨_,(Zc (ZJ (Zn ZO (Zp (Zy hK) rfl T.av nX (Za (pv 5) Zb rfl)) Ze (Zx _)) (Zf (Zm (Zq (Zk hK) (pv 5) Ze (fun _ _=>rfl)))) Zw) d2.2)⟩
 let d4:Rdg X Yd [2]:=⟨_,(Zc (ZJ (Xy (Wk hK (pv 5) (fun _=>rfl))) (Zf (Zm (pv 3))) Zw) d3.2)⟩
 let d5:Rdg X Yd [1]:=⟨_,(Zc (Zo (i:=5) WV.nd rfl (.inl rfl) (ZI (Kk rfl) rfl T.a9 nV (Za (ki (o0:=.dK []) (.inl rfl) (Nc:=["number","idle"]) (ix:=[none,some 3]) (ZX.of (by left:ZZ (Zj Yd) Vh _ _ _=true)) (Y8.units0 hr) rfl (ZQ hK (pv 2)) (fun _ _ _ _ _=>(Zz (i:=0) (show δ (["number","idle"]:List Str) by left) rfl (.inl rfl))) (fun _ _ _ _ _=>(UK (Zn Ql (pv 0) (pv 1) (Zx _)))) (fun _ _ _ _ _=>(pv 0)) (fun _ _ _ _ _=>VM)) Zb rfl)) rfl (.inl rfl)) d4.2)⟩
 intro vs Q h;obtain⟨r,S,P,R,D,ps,y,n,w,l,is,ks,i0,s0,tI,tS,rfl,P4,sh,FZ,hl,o5,h8,hI,hS,k⟩:=h;refine⟨_,(Zc (ZJ (Zn (WJ hK) (pv 4) (pv 2) (by with_unfolding_all rfl)) (Zf (Zm (pv 4))) Zw) d5.2),?_⟩
 classical
 obtain⟨dx,ho⟩:=sh.obj;obtain⟨dt,ht⟩:=sh.tb.obj;obtain⟨np,pv,hP,aP⟩:=sh.tb.pl;have nd:=sh.tb.nd;have pX:∀{x:Tr}{i:Nat}{H':Hp},ps[i]?=some x->Xq w tI tS ks=x->Zg H H'->Q (.int (i:Nat)) H':=fun {x i H'} hx e s=>by
  have ex:YN ps (Xq w tI tS ks)=ps:=by rw[e];exact Vn (gk hx)
  exact k H' i (Zg.b s) (by rw[ex];exact sh.mono s) (by rw[ex,e];exact hx)
 have Dl:is.length<=8:=by rw[o5.1];exact h8
 have eV:iV is=(is.map fun(i:Nat)=>((i:Nat):Int)).map V.int:=by unfold iV;rw[fR];rfl
 refine⟨_,rfl,_,rfl,l,_,rfl,.inl (nS hl),rfl,by rw[eV];exact qT _,?_⟩;have Sf:inV (.int ((s0:Nat):Int)) (iV is)=decide (tS∈ks):=by
  rw[eV,xP];have:((s0:Nat):Int)∈is.map (fun(i:Nat)=>((i:Nat):Int))↔s0∈is:=by
   rw[fM];exact⟨fun⟨i,hi,e⟩=>by
    have:i=s0:=by lia
    rw[<- this];exact hi,fun h=>⟨s0,h,rfl⟩⟩
  by_cases c:tS∈ks
  ·rw[fQ c,fQ (this.mpr ((o5.mem nd hS).mpr c))]
  ·rw[fV c,fV fun z=>c ((o5.mem nd hS).mp (this.mp z))]
 rw[show(if false=true then !inV (.int ((s0:Nat):Int)) (iV is) else inV (.int ((s0:Nat):Int)) (iV is))=decide (tS∈ks) from Sf];refine⟨_,rfl,YY (fun c=>?_) (fun c=>?_)⟩
 ·have c':tS∈ks:=ge c;rcases Wd w tI tS ks with⟨_,e⟩|⟨q,_⟩
  ·exact⟨_,rfl,pX hS e (.refl _)⟩
  ·exact ot c' q
 have c':tS∉ks:=fun z=>c (fQ z);obtain⟨fw,Sd,hj⟩:∃few,few=Zs [] (ks.filter fun x=>decide (x≠tI))/\((few=[]/\Xq w tI tS ks=tI)\/(∃x,few=[x]/\Xq w tI tS ks=x)\/(2<=few.length/\Xq w tI tS ks=.node (.many w) few)):=by
  rcases Wd w tI tS ks with⟨q,_⟩|⟨_,q⟩
  ·exact ot q c'
  ·exact q
 refine⟨_,rfl,l,rfl,⟨_,nS hl⟩,fun Dc sx=>?_⟩;have lV:(iV is).length=is.length:=Xt is;refine vN (J:=Itl K l) (n:=is.length) (fun i U G=>Ex3 fun(z:Option V) (kv:List (Key×V)) (fs:List Nat)=>Cj6 (U=[z,some (.int (i0:Nat))]) (Zg H G) (G Dc=some (.dK kv)) (kv.map (·.1)=nKs fs) (qA ps fs (Zs [] ((ks.take i).filter fun x=>decide (x≠tI)))) (fs.length<=i)) ?_ ?_ ?_ ?_ ?_
 ·exact⟨_,[],[],rfl,Zi sx,Zd,rfl,⟨rfl,fun j k i _ h=>by simp at h⟩,fH _⟩
 ·rintro i U G hi ⟨z,kv,fs,rfl,sG,_⟩;exact⟨_,_,nS (sG _ _ hl),fG (by lia)⟩
 ·rintro U G ⟨z,kv,fs,rfl,sG,_⟩;exact⟨_,nS (sG _ _ hl),by lia⟩
 ·rintro i x U G0 G hi ⟨z,kv,fs,rfl,sG,gD,AL,sW,lf⟩ ⟨rfl,hx⟩ N hN;have ex:=hx _ (nS (sG _ _ hl));have Fv:is[i]?=some is[i]:=fG hi;have AQ:ks[i]?=some (ks[i]'(by rw[<- o5.1];exact hi)):=fG _;have hp:=o5.2 i _ _ AQ Fv;have htk:ks.take (i+1)=ks.take i++[ks[i]'(by rw[<- o5.1];exact hi)]:=by rw[mD,AQ];rfl
  generalize (ks[i]'(by rw[<- o5.1];exact hi))=kt at AQ hp htk;generalize is[i]=xi at Fv hp;obtain rfl:x=.int ((xi:Nat):Int):=by
   unfold iV at ex;rw[fO,Fv] at ex;exact(fW ex).symm
  refine⟨_,rfl,_,rfl,rfl,_,rfl,YY (fun c=>?_) (fun c=>?_)⟩
  ·have oA:kt≠tI:=fun z=>by
    rw[z] at hp;have:=zq nd hp hI;rw[this,fQ rfl] at c;cases c
   have Fj:(ks.take (i+1)).filter (fun x=>decide (x≠tI))=(ks.take i).filter (fun x=>decide (x≠tI))++[kt]:=by
    rw[htk,mS,mI (by simpa using oA)];rfl
   refine⟨_,rfl,_,kT.k (k:=.inl ((xi:Nat):Int)) gD (by have:=fS θ AL;unfold nKs at this;rw[fF,fF] at this;rw[fJ];lia),hN _ _ ?_⟩;rw[Fj]
   by_cases hm:xi∈fs
   ·have uc:=(sW.mem nd hp).mp hm;refine⟨_,_,fs,rfl,(ZB.upd (Zg.x sG)).same sx,Zd,?_,?_,by lia⟩
    ·rw[j4,AL,oq (Zbc.mpr hm)]
    ·rw[YT,YO,Vn uc];exact sW
   ·have uc:kt∉_:=fun z=>hm ((sW.mem nd hp).mpr z);refine⟨_,_,fs++[xi],rfl,(ZB.upd (Zg.x sG)).same sx,Zd,?_,?_,by rw[fK];show _+1<=_;lia⟩
    ·rw[j4,AL,oo fun z=>hm (Zbc.mp z)];unfold nKs;rw[gp];rfl
    ·rw[YT,YO,Ui uc];exact sW.snoc hp
  ·have he:kt=tI:=by
    have:((xi:Nat):Int)=((i0:Nat):Int):=by
     by_cases q:(V.int ((xi:Nat):Int)=V.int ((i0:Nat):Int))
     ·exact V.int.inj q
     ·rw[fV q] at c;exact ot rfl c
    have e2:xi=i0:=by lia
    rw[e2,hI] at hp;exact(fW hp).symm
   have Fj:(ks.take (i+1)).filter (fun x=>decide (x≠tI))=(ks.take i).filter (fun x=>decide (x≠tI)):=by
    rw[htk,mS,mJ (by simp[he]),nt,iu]
   refine hN _ _ ⟨_,kv,fs,rfl,sG,gD,AL,?_,by lia⟩;rw[Fj];exact sW
 rintro U G ⟨z,kv,fs,rfl,sG,gD,AL,sW,lf⟩;rw[show ks.take is.length=ks by rw[o5.1];exact lI,<- Sd] at sW;refine⟨Dc,kv,rfl,gD,fun F hF=>?_⟩;have S7:(kv.map fun p=>kV p.1)=iV fs:=by
  have:(kv.map fun p=>kV p.1)=(kv.map (·.1)).map kV:=by rw[fR];rfl
  rw[this,AL];unfold nKs iV;rw[fR];rfl
 rw[S7];refine Xh hF fun G1 s1 eF=>?_;have AU:=sG.trans s1;have D3:(iV fs).length=fs.length:=Xt fs;refine⟨_,rfl,!(iV fs).isEmpty,.inl ⟨_,nS eF,rfl⟩,?_⟩;have AJ:=sW.1;cases his:(iV fs).isEmpty with
 |true=>
  have e0:iV fs=[]:=mC.mp his;have z0:fw=[]:=gX.mp (by rw[<- AJ,<- D3,e0];rfl);rcases hj with⟨_,e⟩|⟨x,e,_⟩|⟨e,_⟩
  ·exact YM ⟨_,rfl,pX hI e AU⟩
  ·rw[z0] at e;cases e
  ·rw[z0] at e;cases e
 |false=>
  have wj:fs≠[]:=fun e=>by rw[e] at his;cases his
  have Ab:0<fs.length:=l9.mpr wj;refine Yn ⟨_,rfl,.inl ⟨F,_,rfl,.inl (nS eF),rfl,_,rfl,YY (fun c=>?_) (fun c=>?_)⟩⟩
  ·have h1:fs.length=1:=by have:=V.int.inj (ge c);lia
   obtain⟨x,rfl⟩:∃x,fs=[x]:=by
    match fs,h1 with
    |[x],_=>exact⟨x,rfl⟩
   rcases hj with⟨e,_⟩|⟨t,e,ej⟩|⟨e,_⟩
   ·rw[e] at AJ;cases AJ
   ·subst e;exact⟨_,rfl,F,_,_,_,rfl,rfl,nS eF,Zh (j:=0) rfl,pX (sW.2 0 t x rfl rfl) ej AU⟩
   ·rw[<- AJ] at e;exact ot e (by simp)
  ·have h2:2<=fs.length:=by
    rcases(show fs.length=1\/2<=fs.length by lia) with q|q
    ·exact ot (fQ (by show V.int _=V.int 1;rw[D3,q];rfl)) c
    ·exact q
   obtain⟨e2,ej⟩:2<=fw.length/\Xq w tI tS ks=.node (.many w) fw:=by
    rcases hj with⟨e,_⟩|⟨t,e,_⟩|q
    ·have:=fS θ e;rw[mM] at this;lia
    ·have:=fS θ e;rw[gz] at this;lia
    ·exact q
   have lf8:fs.length<=8:=by lia
   refine⟨_,rfl,F,rfl,⟨_,nS eF⟩,fun A hA=>?_⟩;refine We (K:=K) fs (fun i=>V.int ((i:Nat):Int)) (fun i=>(pv[i]?).getD .non) hA (nS eF) (by rw[fJ];lia) ?_ ?_
   ·intro x hx G2 N Ca hN;obtain⟨j,hj,ej⟩:=gF hx;have hk:fw[j]?=some (fw[j]'(by lia)):=fG (by lia);have hp:=sW.2 j _ x hk (by rw[<- ej];exact fG hj);have rW:x<pv.length:=by rw[aP.1];exact(fP.mp hp).1
    have hu:pv[x]?=some (pv[x]'rW):=fG rW;have BW:=hN G2 (.refl _);rw[hu] at BW;have s2:=AU.trans Ca;exact⟨_,rfl,r,_,dx,_,_,rfl,s2 _ _ ho,T.ab,T.ag,lkT,S,_,dt,_,_,rfl,s2 _ _ ht,T.ai,T.aA,lkP,_,rfl,P,_,_,_,rfl,rfl,nS (s2 _ _ hP),Zh hu,BW⟩
   intro H1 uT Hx;generalize hws:fs.map (fun i=>(pv[i]?).getD .non)=ws at uT;have Dn:ws.length=fs.length:=by rw[<- hws,fF]
   have E4:AtL K np H ws fw:=by
    refine⟨by lia,fun j u k' h1 h2=>?_⟩;have hj:j<fs.length:=by rw[<- Dn];exact(fP.mp h1).1
    have hp:=sW.2 j k' fs[j] h2 (fG hj);have rW:fs[j]<pv.length:=by rw[aP.1];exact(fP.mp hp).1
    rw[<- hws,fO,fG hj] at h1;have e:u=pv[fs[j]]'rW:=by
     have:=fW h1;rw[<- this];show(pv[fs[j]]?).getD .non=_;rw[fG rW];rfl
    rw[e];exact aP.2 _ _ _ (fG rW) hp
   have sH1:=AU.trans Hx;refine⟨A,ws,rfl,.inl ⟨nS uT,fun B hB=>?_⟩⟩;refine YU hB fun H2 s2 eB=>?_;have GV:=sH1.trans s2;have sz2:2<=sizeLine:=by rw[fJ];decide
   refine⟨_,rfl,r,_,dx,_,_,rfl,GV _ _ ho,T.ab,T.ag,lkT,S,dt,_,rfl,GV _ _ ht,lkN (by left) (by left) (by left),?_⟩;refine⟨_,rfl,_,rfl,sz2,fun c hc=>?_⟩;refine Xh hc fun H3 s3 ec=>?_;refine⟨_,rfl,sz1,fun q hq=>?_⟩;refine Xh hq fun H4 s4 eq=>?_;have E1:=s3.trans s4;refine⟨_,rfl,F,_,rfl,.inl ⟨nS (E1 _ _ (s2 _ _ (Hx _ _ eF))),fun b hb=>?_⟩⟩;refine Xh hb fun H5 s5 eb=>?_;refine⟨q,b,_,_,rfl,rfl,nU (s5 _ _ eq),nU eb,by simp,by rw[D3,fJ];show 1+_<=_;lia,fun z=>ot (fS θ z) (by rw[D3];simp;lia),fun _ g hg=>?_⟩;obtain⟨H6,qN,s6,eg⟩:=xI (o:=.tup (.str w::iV fs)) hg;have Bm:upd H5 g (.tup ([.str w]++iV fs))=H6:=qN;rw[Bm];clear qN Bm;have Gz:=s4.trans (s5.trans s6);have E3:=GV.trans (s3.trans Gz);have LM:Yi (.many w) fw.length:=⟨P4,by lia⟩;have uy:At K (np+1) H6 (.ref c) (.node (.many w) fw):=⟨c,ws,rfl,⟨B,nU (Gz _ _ ec),nU ((s3.trans Gz) _ _ eB)⟩,LM,by show ws.length=fw.length;lia,fun i u k' h1 h2=>(E4.2 i u k' h1 h2).mono (nT E3)⟩;have Gp:X2 K H6 g (qE (.many w) fs):=ZcD (by rw[AJ];exact LM) wj (by
    show SqT K H6 g (V.str w::(nK fs).map kV)
    rw[KU];exact nU eg)
   refine⟨S,P,R,D,ps,.ref c,.node (.many w) fw,np+1,g,_,rfl,sh.tb.mono E3,uy,Gp,⟨fs,AJ,sW.2,rfl⟩,FZ,fun H7 i b7 AX hi=>?_⟩;rw[<- ej] at AX hi;have MB:Y5 P R D H H7:=(Zg.b E3).trans b7;exact k H7 i MB (sh.next MB AX) hi
theorem ZaS{b:Addr}{t:Tr}{w:Str}(h:X2 K H b (qE t.lb is))(ok:Yi t.lb t.ks.length)(hl:is.length=t.ks.length)(hw:wdT t=w)(h1:w∈W1):∃i,is=[i]/\SqT K H b [.str w,.int (i:Nat)]/\t.lb=.op w/\∃k,t.ks=[k]:=by
 have oA:=W4 w (gT _ h1);cases e:t.lb with
 |yes=>rw[wdT,e] at hw;exact ot hw.symm oA.1
 |sign z=>rw[wdT,e] at hw;exact ot hw.symm oA.2.1
 |wit m=>rw[wdT,e] at hw;exact ot hw.symm oA.2.2.1
 |many v=>
  rw[wdT,e] at hw;rw[e] at ok;rcases ok.1 with rfl|rfl
  ·exact ot hw.symm oA.2.2.2.1
  ·exact ot hw.symm oA.2.2.2.2
 |op v=>
  rw[wdT,e] at hw;have hv:v=w:=hw;subst hv;rw[e] at ok h;have h12:∀x∈W1,x∉W2:=by left
  rcases ok with⟨_,o⟩|⟨o2,_⟩
  ·obtain⟨k,ek⟩:∃k,t.ks=[k]:=by
    match t.ks,o with
    |[k],_=>exact⟨k,rfl⟩
   obtain⟨i,ei⟩:∃i,is=[i]:=by
    rw[o] at hl
    match is,hl with
    |[i],_=>exact⟨i,rfl⟩
   subst ei;exact⟨i,rfl,h.1,rfl,k,ek⟩
  ·exact ot o2 (h12 _ h1)
theorem Za1{r P R:Addr}(h:TbY K Pm C H r P R D ps):∀t∈ps,Yi t.lb t.ks.length:=by
 obtain⟨n,pv,_,hp⟩:=h.pl;exact hp.oks
noncomputable def ZcY(k:Tr)(same oC:Str):Bool:=if wdT k=oC then decide (wdT (X9 k.ks)=same) else decide (wdT k=same)
theorem zT{k:Tr}{same oC:Str}:ZcY k same oC=true↔yW k same oC:=by
 unfold ZcY yW
 split<;>exact hU
def zb(K:W.Frag)(a:Adr):Sp:=fun vs H Q _=>Zg1 fun(r T P R D:Addr) (ps:List Tr) (y n i:Nat) (t:Tr) (same oC:Str)=>Cj5 (vs=[.ref r,.int (i:Nat),.str same,.str oC]) (VP K a H r T P R D ps y n) (ps[i]?=some t) (oC∈W1) (Q (.bl (ZcY t same oC)) H)
theorem Vl:Okd P w K mg base a 2 a.y26 a.z26 eG zb:=fun T hw=>by
 refine okX T.al.f ze fun dn A outer s H E hr=>?_;intro X;have hK:X.K=K:=rfl
 let d1:Rdg X Y3 [0,0,0]:=⟨_,(Zf (Zm (Xm ZO (YD (pv 0) T.ab T.aj.m (XI T hw) (rmL hr rfl) T.aj.n .nil Yh (Za (Zq (ZD hK) (Zq (Zk hK) (ZU hK (ZU hK (pv 0) rfl) rfl) (pv 1) (fun _ _=>rfl)) Ze (fun _ _=>rfl)) Zb rfl)) (pv 2) (Zx _))))⟩
 let d2:Rdg X Y3 [1]:=⟨_,(Zf (Zm (Xm ZO (YD (pv 0) T.ab T.aj.m (XI T hw) (rmL hr rfl) T.aj.n .nil Yh (Za (pv 1) Zb rfl)) (pv 2) (Zx _))))⟩
 intro vs Q h;obtain⟨r,S,P,R,D,ps,y,n,i,t,same,oC,rfl,sh,hi,uD,k⟩:=h;refine⟨_,(Zc (ZJ (Zn ZO (YD (pv 0) T.ab T.aj.m (XI T hw) (rmL hr rfl) T.aj.n .nil Yh (Za (pv 1) Zb rfl)) (pv 3) (Zx _)) d1.2 Zw) d2.2),?_⟩;obtain⟨dx,ho⟩:=sh.obj;obtain⟨dt,ht⟩:=sh.tb.obj;have FP:([("table",.ref S),("yes",.int (y:Int)),("no",.int (n:Int))]:List (Str×V)).lookup ("word_of" : Str)=none:=by
  rw[gi,(by left:(("word_of" : Str) == "table")=false)]
  show η _ _=_
  rw[gi,(by left:(("word_of" : Str) == "yes")=false)]
  show η _ _=_
  rw[gi,(by left:(("word_of" : Str) == "no")=false)];rfl
 refine⟨_,rfl,r,dx,_,rfl,ho,FP,_,rfl,r,S,P,R,D,ps,y,n,i,t,rfl,sh,hi,_,rfl,rfl,_,rfl,YY (fun c=>?_) (fun c=>?_)⟩
 ·have cw:wdT t=oC:=V.str.inj (ge c);obtain⟨rv,b,is,hR,hb,oE,rD,oH⟩:=QF sh.tb hi;obtain⟨j,rfl,hx,_,k0,ek⟩:=ZaS oE (Za1 sh.tb t (gk hi)) rD cw uD;have sd:ps[j]?=some k0:=oH 0 k0 j (by rw[ek];rfl) rfl;refine⟨_,rfl,r,dx,_,rfl,ho,FP,_,rfl,r,_,dx,_,_,rfl,ho,T.ab,T.ag,lkT,S,_,dt,_,_,rfl,ht,T.ai,T.ao,lkR,_,rfl,R,_,_,_,rfl,rfl,nS hR,Zh hb,b,_,_,_,rfl,rfl,hx,Zh (j:=1) rfl,r,S,P,R,D,ps,y,n,j,k0,rfl,sh,sd,_,rfl,rfl,?_⟩;unfold ZcY at k;rw[oq cw,ek] at k;have e:decide (V.str (wdT k0)=V.str same)=decide (wdT (X9 [k0])=same):=by
   show _=decide (wdT k0=same)
   by_cases q:wdT k0=same
   ·rw[fQ q,fQ (fS V.str q)]
   ·rw[fV q,fV fun z=>q (V.str.inj z)]
  show Q (.bl _) H
  rw[e];exact k
 ·have cw:¬wdT t=oC:=fun z=>c (fQ (fS V.str z));refine⟨_,rfl,r,dx,_,rfl,ho,FP,_,rfl,r,S,P,R,D,ps,y,n,i,t,rfl,sh,hi,_,rfl,rfl,?_⟩;unfold ZcY at k;rw[oo cw] at k;have e:decide (V.str (wdT t)=V.str same)=decide (wdT t=same):=by
   by_cases q:wdT t=same
   ·rw[fQ q,fQ (fS V.str q)]
   ·rw[fV q,fV fun z=>q (V.str.inj z)]
  show Q (.bl _) H
  rw[e];exact k
theorem At.head{m:Nat}{t:Tr}(h:At K m H v t):∃a xs,v=.ref a/\SqT K H a (.str (Zu t.lb)::xs):=by
 cases m with
 |zero=>exact h.elim
 |succ m=>
  obtain⟨a,vs,rfl,sh,_⟩:=h;cases e:t.lb with
  |yes=>rw[e] at sh;exact⟨a,[],rfl,sh.2⟩
  |sign z=>rw[e] at sh;exact⟨a,_,rfl,sh.2⟩
  |op w=>rw[e] at sh;exact⟨a,_,rfl,sh⟩
  |wit j=>rw[e] at sh;exact⟨a,_,rfl,sh⟩
  |many w=>rw[e] at sh;obtain⟨b,h1,_⟩:=sh;exact⟨a,_,rfl,h1⟩
theorem Zfs(ok:Yi c n)(h:Zu c∈SW):1<=n:=by
 cases c with
 |yes=>exact ot h (show("yes" : Str)∉SW by left)
 |sign z=>exact ot h (show("sign" : Str)∉SW by left)
 |wit m=>have:=ok.2;lia
 |op w=>rcases ok with⟨_,o⟩|⟨_,o⟩<;>lia
 |many w=>rcases ok.1 with rfl|rfl;exact ot h (show("and" : Str)∉SW by left);exact ot h (show("or" : Str)∉SW by left)
theorem VU{t:Tr}{w:Str}(ok:Yi t.lb t.ks.length)(hw:Zu t.lb=w)(h1:w∈W1):t.ks.length=1/\t.lb=.op w:=by
 have oA:=W4 w (gT _ h1);have h12:∀x∈W1,x∉W2:=by left
 cases e:t.lb with
 |yes=>rw[e] at hw;exact ot hw.symm oA.1
 |sign z=>rw[e] at hw;exact ot hw.symm oA.2.1
 |wit m=>rw[e] at hw;exact ot hw.symm oA.2.2.1
 |many v=>rw[e] at hw ok;rcases ok.1 with rfl|rfl;exact ot hw.symm oA.2.2.2.1;exact ot hw.symm oA.2.2.2.2
 |op v=>
  rw[e] at hw ok;have hv:v=w:=hw;subst hv;rcases ok with⟨_,o⟩|⟨o2,_⟩
  ·exact⟨o,rfl⟩
  ·exact ot o2 (h12 _ h1)
theorem dS(x y:Str):decide (V.str x=V.str y)=decide (x=y):=by
 by_cases q:x=y
 ·rw[fQ q,fQ (fS V.str q)]
 ·rw[fV q,fV fun z=>q (V.str.inj z)]
theorem ZdL{ks:List Tr}(h:qA ps is ks)(hp:0<is.length):ps[is[is.length-1]'(by lia)]?=some (ks.getLastD ZA):=by
 have e1:=h.1;have hk:ks[ks.length-1]?=some (ks.getLastD ZA):=by
  rw[List.getLastD_eq_getLast?,List.getLast?_eq_getElem?];have:ks[ks.length-1]?=some (ks[ks.length-1]'(by lia)):=fG (by lia);rw[this];rfl
 exact h.2 (ks.length-1) _ _ hk (by rw[<- e1];exact fG (by lia))
theorem Zfm(h:0<is.length):(iV is)[(iV is).length-1]'(by rw[Xt];lia)=V.int (((is[is.length-1]'(by lia)):Nat):Int):=by
 have e:(iV is)[(iV is).length-1]?=some (V.int (((is[is.length-1]'(by lia)):Nat):Int)):=by
  rw[Xt];unfold iV;rw[fO,fG (show is.length-1<is.length by lia)];rfl
 exact(fP.mp e).2
def zE(K:W.Frag)(a:Adr):Sp:=fun vs H Q _=>ZeI fun(r T P R D:Addr) (ps:List Tr) (y n:Nat) (v:V) (t:Tr) (m:Nat) (l:Addr) (is:List Nat) (ks:List Tr)=>Cj8 (vs=[.ref r,v,.ref l]) (VP K a H r T P R D ps y n) (ps.length<4000) (At K m H v t) (H l=some (.lst (iV is))) (qA ps is ks) (ks.length=t.ks.length) (∀H' (i:Nat),Y5 P R D H H'->VP K a H' r T P R D (YN ps (shF t.lb ks)) y n->(YN ps (shF t.lb ks))[i]?=some (shF t.lb ks)->Q (.int (i:Int)) H')
theorem zM:Okd P w K mg base a 3 a.y24 a.z24 dA zE:=fun T hw=>by
 refine okX T.aH.f VH fun dn A outer s H E hr=>?_;intro X;have hK:X.K=K:=rfl
 let d1:Rdg X ZP [1,0,0]:=⟨_,(Zf (Zm (YD (pv 0) T.ab T.aB.m (Uk T hw) (rmL hr rfl) T.aB.n .nil Yh (@ZC _ _ _ _ _ (pv 3) (@ZC _ _ _ _ _ (pv 2) (@ZC _ _ _ _ _ (ZU hK (pv 0) rfl) (@ZC _ _ _ _ _ (ZU hK (pv 0) rfl) Zb rfl) rfl) rfl) rfl))))⟩
 let d2:Rdg X ZP [2,0,0]:=⟨_,(Zf (Zm (YD (pv 0) T.ab T.aB.m (Uk T hw) (rmL hr rfl) T.aB.n .nil Yh (@ZC _ _ _ _ _ (pv 3) (@ZC _ _ _ _ _ (pv 2) (@ZC _ _ _ _ _ (ZU hK (pv 0) rfl) (@ZC _ _ _ _ _ (ZU hK (pv 0) rfl) Zb rfl) rfl) rfl) rfl))))⟩
 let d3:Rdg X ZP [4,0,0]:=⟨_,(Zf (Zm (Zq (ZD hK) (Zq (Zk hK) (ZU hK (ZU hK (pv 0) rfl) rfl) (Zq (Zk hK) (pv 2) Ze (fun _ _=>rfl)) (fun _ _=>rfl)) Ze (fun _ _=>rfl))))⟩
 let d4:Rdg X ZP [6]:=⟨_,(Us (ZJ (PW.pt (zC (Zn ZO (pv 3) Zl (Zx _)) (UY (WC (YD (pv 0) T.ab T.al.m (Vl T hw) (rmL hr rfl) T.al.n .nil Yh (@ZC _ _ _ _ _ (Zq (Zk hK) (pv 2) Ze (fun _ _=>rfl)) (@ZC _ _ _ _ _ Zl (@ZC _ _ _ _ _ Zl Zb rfl) rfl) rfl)))))) (Zf (Zm (Zq (Zk hK) (pv 2) Ze (fun _ _=>rfl)))) Zw) (Zf (Zm (YD (pv 0) T.ab T.bb.m (ja T hw) (rmL hr rfl) T.bb.n .nil Yh (Za (pv 1) (Za (pv 2) Zb rfl) rfl)))))⟩
 let d5:Rdg X ZP [5]:=⟨_,(Us (ZJ (PW.pt (zC (Zn ZO (pv 3) Zl (Zx _)) (UY (WC (YD (pv 0) T.ab T.al.m (Vl T hw) (rmL hr rfl) T.al.n .nil Yh (@ZC _ _ _ _ _ (Zq (Zk hK) (pv 2) Ze (fun _ _=>rfl)) (@ZC _ _ _ _ _ Zl (@ZC _ _ _ _ _ Zl Zb rfl) rfl) rfl)))))) (Zf (Zm (Zq (Zk hK) (pv 2) Ze (fun _ _=>rfl)))) Zw) d4.2)⟩
 let d6:Rdg X ZP [4]:=⟨_,(Us (ZJ (PW.pt (zC (Zn ZO (pv 3) Zl (Zx _)) (UY (Zn ZO (YD (pv 0) T.ab T.aj.m (XI T hw) (rmL hr rfl) T.aj.n .nil Yh (Za (Zq (Zk hK) (pv 2) Ze (fun _ _=>rfl)) Zb rfl)) Zl (Zx _))))) d3.2 Zw) d5.2)⟩
 let d7:Rdg X ZP [3]:=⟨_,(Us (ZJ (PW.pt (zC (Zn (WJ hK) (pv 3) (W9 (v:=.ref a.Y_STEADY_WORDS) rfl ⟨_,T.bJ,rfl⟩) (by with_unfolding_all rfl)) (UY (Zn (WJ hK) (Zq (Zk hK) (pv 2) (VY WB Ze) (fun _ _=>rfl)) (ZH (Za (ZU hK (pv 0) rfl) (Za (ZU hK (pv 0) rfl) Zb rfl) rfl)) (by with_unfolding_all rfl))))) (Zf (Zm (Zq (Zk hK) (pv 2) (VY WB Ze) (fun _ _=>rfl)))) Zw) d6.2)⟩
 let d8:Rdg X ZP [2]:=⟨_,(Zc (ZJ (Zn ZO (pv 3) Zl (Zx _)) d2.2 Zw) d7.2)⟩
 let d9:Rdg X ZP [1]:=⟨_,(Zc (ZJ (Zn ZO (pv 3) Zl (Zx _)) d1.2 Zw) d8.2)⟩
 intro vs Q h;obtain⟨r,S,P,R,D,ps,y,n,v,t,m,l,is,ks,rfl,sh,few,ox,hl,o5,tU,k⟩:=h;refine⟨_,(Zc (Zo (i:=3) VH.nd rfl (.inl rfl) (Zq (ZD hK) (pv 1) Ze (fun _ _=>rfl)) rfl (.inl rfl)) d9.2),?_⟩
 classical
 obtain⟨dx,ho⟩:=sh.obj;obtain⟨dt,ht⟩:=sh.tb.obj;have nd:=sh.tb.nd;have ok:=Zaw ox;have h8:=lb8 ok;obtain⟨ad,xs,rfl,oO⟩:=At.head ox;have pX:∀{x:Tr}{i:Nat}{H':Hp},ps[i]?=some x->shF t.lb ks=x->Zg H H'->Q (.int (i:Nat)) H':=fun {x i H'} hx e s=>by
  have ex:YN ps (shF t.lb ks)=ps:=by rw[e];exact Vn (gk hx)
  exact k H' i (Zg.b s) (by rw[ex];exact sh.mono s) (by rw[ex,e];exact hx)
 have DN:∀{m:Str},(m==("table" : Str))=false->(m==("yes" : Str))=false->(m==("no" : Str))=false->([("table",.ref S),("yes",.int (y:Int)),("no",.int (n:Int))]:List (Str×V)).lookup m=none:=fun {m} h1 h2 h3=>by
  rw[gi,h1]
  show η _ _=_
  rw[gi,h2]
  show η _ _=_
  rw[gi,h3];rfl
 have lJ:=DN (m := "joined") (by left) (by left) (by left);have lW:=DN (m := "word_of") (by left) (by left) (by left);have lD:=DN (m := "is_double") (by left) (by left) (by left);have lM:=DN (m := "made") (by left) (by left) (by left);refine⟨_,rfl,ad,_,_,_,rfl,rfl,oO,Zh (j:=0) rfl,?_⟩;refine⟨_,rfl,rfl,_,rfl,?_⟩;rw[dS];refine YY (fun c=>?_) (fun c=>?_)
 ·have cw:Zu t.lb = "and" := ge c;have e:shF t.lb ks=Xq "and" ZA nNo ks:=by unfold shF;rw[oq cw]
  rw[e] at k;refine⟨_,rfl,r,dx,_,rfl,ho,lJ,_,rfl,_,rfl,_,rfl,r,_,dx,_,_,rfl,ho,T.ab,T.aU,ZgG,_,rfl,r,_,dx,_,_,rfl,ho,T.ab,T.aZ,ZgM,r,S,P,R,D,ps,y,n, "and",l,is,ks,y,n,ZA,nNo,by rw[cw];rfl,.inl rfl,sh,few,hl,o5,by lia,sh.yes,sh.no,k⟩
 have c1:¬Zu t.lb = "and" := fun z=>c (fQ z);refine⟨_,rfl,rfl,_,rfl,?_⟩;rw[dS];refine YY (fun c=>?_) (fun c=>?_)
 ·have cw:Zu t.lb = "or" := ge c;have e:shF t.lb ks=Xq "or" nNo ZA ks:=by unfold shF;rw[oo c1,oq cw]
  rw[e] at k;refine⟨_,rfl,r,dx,_,rfl,ho,lJ,_,rfl,_,rfl,_,rfl,r,_,dx,_,_,rfl,ho,T.ab,T.aZ,ZgM,_,rfl,r,_,dx,_,_,rfl,ho,T.ab,T.aU,ZgG,r,S,P,R,D,ps,y,n, "or",l,is,ks,n,y,nNo,ZA,by rw[cw];rfl,.inr rfl,sh,few,hl,o5,by lia,sh.no,sh.yes,k⟩
 have c2:¬Zu t.lb = "or" := fun z=>c (fQ z);have Dl:is.length=t.ks.length:=by rw[o5.1];exact tU
 have σe:∀{P':Prop}{H':Hp},Zg H H'->P'->(fun σ' H'=>σ'=[some (V.ref r),some (V.ref ad),some (V.ref l),some (V.str (Zu t.lb))]/\Zg H H'/\P') [some (V.ref r),some (V.ref ad),some (V.ref l),some (V.str (Zu t.lb))] H':=fun s p=>⟨rfl,s,p⟩;have Eg:inV (V.str (Zu t.lb)) (SW.map V.str)=decide (Zu t.lb∈SW):=Zd5;refine⟨fun σ' H'=>σ'=[some (V.ref r),some (V.ref ad),some (V.ref l),some (V.str (Zu t.lb))]/\Zg H H'/\¬(Zu t.lb∈SW/\(ks.getLastD ZA=ZA\/ks.getLastD ZA=nNo)),?_,?_⟩
 ·refine⟨_,rfl,a.Y_STEADY_WORDS,SW.map V.str,rfl,.inr (T.y_STEADY_WORDS H),rfl,xc _,_,rfl,?_⟩
  show if inV (V.str (Zu t.lb)) (SW.map V.str)=true then _ else _
  rw[Eg];refine YY (fun hb=>?_) (fun hb=>Yn (σe (.refl _) fun z=>hb (fQ z.1)));have w1:Zu t.lb∈SW:=ge hb;have k1:=Zfs ok w1;have oB:=ZdL o5 (by lia);have Fq:0<(iV is).length:=by rw[Xt];lia
  have Ai:=xQ (xs:=iV is) (p:=1) (fH 1) Fq;rw[Zfm (by lia:0<is.length)] at Ai;refine⟨_,rfl,_,rfl,l,_,_,_,rfl,rfl,nS hl,Ai,?_⟩;refine⟨_,rfl,r,_,dx,_,_,rfl,ho,T.ab,T.aU,ZgG,_,rfl,r,_,dx,_,_,rfl,ho,T.ab,T.aZ,ZgM,sz2,fun q' uq=>?_⟩;refine Xh uq fun H1 s1 eq=>?_;refine⟨q',([(y:Int),(n:Int)]:List Int).map V.int,rfl,.inr (nU eq),rfl,qT _,_,rfl,?_⟩;have hx:=oB;have e:inV (.int (((is[is.length-1]'(by lia)):Nat):Int)) (([(y:Int),(n:Int)]:List Int).map V.int)=decide (ks.getLastD ZA=ZA\/ks.getLastD ZA=nNo):=by
   rw[xP];generalize (is[is.length-1]'(by lia))=li at oB;generalize ks.getLastD ZA=lt at oB;have i1:li=y↔lt=ZA:=⟨fun z=>by rw[z,sh.yes] at oB;exact(fW oB).symm,fun z=>by rw[z] at oB;exact zq nd oB sh.yes⟩;have i2:li=n↔lt=nNo:=⟨fun z=>by rw[z,sh.no] at oB;exact(fW oB).symm,fun z=>by rw[z] at oB;exact zq nd oB sh.no⟩;have:((li:Nat):Int)∈([(y:Int),(n:Int)]:List Int)↔(lt=ZA\/lt=nNo):=by
    rw[<- i1,<- i2];simp only[fU,gN,gO];lia
   by_cases z:(lt=ZA\/lt=nNo)
   ·rw[fQ z,fQ (this.mpr z)]
   ·rw[fV z,fV fun x=>z (this.mp x)]
  show if inV (.int (((is[is.length-1]'(by lia)):Nat):Int)) (([(y:Int),(n:Int)]:List Int).map V.int)=true then _ else _
  rw[e];refine YY (fun c=>?_) (fun c=>σe s1 fun z=>c (fQ z.2));exact⟨_,rfl,_,rfl,l,_,_,_,rfl,rfl,nS (s1 _ _ hl),Ai,pX hx (by unfold shF;rw[oo c1,oo c2,oq ⟨w1,ge c⟩]) s1⟩
 rintro σ1 H1 ⟨rfl,s1,c3⟩;have σ2:∀{P':Prop}{H':Hp},Zg H H'->P'->(fun σ' H'=>σ'=[some (V.ref r),some (V.ref ad),some (V.ref l),some (V.str (Zu t.lb))]/\Zg H H'/\P') [some (V.ref r),some (V.ref ad),some (V.ref l),some (V.str (Zu t.lb))] H':=fun s p=>⟨rfl,s,p⟩;have one:∀{w:Str},Zu t.lb=w->w∈W1->∃i k0,is=[i]/\ks=[k0]/\ps[i]?=some k0/\t.lb=.op w:=fun {w} hw h1=>by
  obtain⟨o1,o2⟩:=VU ok hw h1;obtain⟨i,rfl⟩:∃i,is=[i]:=by
   rw[o1] at Dl
   match is,Dl with
   |[i],_=>exact⟨i,rfl⟩
  obtain⟨k0,rfl⟩:∃k0,ks=[k0]:=by
   rw[o1] at tU
   match ks,tU with
   |[k0],_=>exact⟨k0,rfl⟩
  exact⟨i,k0,rfl,rfl,o5.2 0 k0 i rfl rfl,o2⟩
 have w1:("not" : Str)∈W1/\("always" : Str)∈W1/\("ever" : Str)∈W1:=by left
 refine⟨fun σ' H'=>σ'=[some (V.ref r),some (V.ref ad),some (V.ref l),some (V.str (Zu t.lb))]/\Zg H H'/\¬(Zu t.lb = "not" /\ wdT (X9 ks) = "not"),?_,?_⟩
 ·refine⟨_,rfl,rfl,_,rfl,?_⟩
  show if decide (V.str (Zu t.lb)=V.str "not")=true then _ else _
  rw[dS];refine YY (fun hb=>?_) (fun hb=>Yn (σ2 s1 fun z=>hb (fQ z.1)));have hw:=ge hb;obtain⟨i,k0,rfl,rfl,sd,NE⟩:=one hw w1.1;have pM:=sh.mono s1;have sK:=s1 _ _ hl;refine⟨_,rfl,r,dx,_,rfl,s1 _ _ ho,lW,_,rfl,l,_,_,_,rfl,rfl,nS sK,Zh (j:=0) rfl,r,S,P,R,D,ps,y,n,i,k0,rfl,pM,sd,rfl,_,rfl,?_⟩
  show if decide (V.str (wdT k0)=V.str "not")=true then _ else _
  rw[dS];refine YY (fun c=>?_) (fun c=>σ2 s1 fun z=>c (fQ z.2));have AO:=ge c;obtain⟨rv,b,rq,hR,AF,oE,GB,C1⟩:=QF pM.tb sd;obtain⟨j,rfl,hx,_,k1,ek⟩:=ZaS oE (Za1 pM.tb k0 (gk sd)) GB AO w1.1;have Px:ps[j]?=some k1:=C1 0 k1 j (by rw[ek];rfl) rfl;refine⟨_,rfl,r,_,dx,_,_,rfl,s1 _ _ ho,T.ab,T.ag,lkT,S,_,dt,_,_,rfl,s1 _ _ ht,T.ai,T.ao,lkR,_,rfl,l,_,_,_,rfl,rfl,nS sK,Zh (j:=0) rfl,R,_,_,_,rfl,rfl,nS hR,Zh AF,b,_,_,_,rfl,rfl,hx,Zh (j:=1) rfl,?_⟩;refine pX Px ?_ s1;unfold shF;rw[oo c1,oo c2,oo c3,oq ⟨hw,AO⟩]
  show X9 k0.ks=k1
  rw[ek];rfl
 rintro σ3 H2 ⟨rfl,s2,c4⟩;refine⟨fun σ' H'=>σ'=[some (V.ref r),some (V.ref ad),some (V.ref l),some (V.str (Zu t.lb))]/\Zg H H'/\¬(Zu t.lb = "always" /\ yW (X9 ks) "always" "ever"),?_,?_⟩
 ·refine⟨_,rfl,rfl,_,rfl,?_⟩
  show if decide (V.str (Zu t.lb)=V.str "always")=true then _ else _
  rw[dS];refine YY (fun hb=>?_) (fun hb=>Yn (σ2 s2 fun z=>hb (fQ z.1)));have hw:=ge hb;obtain⟨i,k0,rfl,rfl,sd,NE⟩:=one hw w1.2.1;refine⟨_,rfl,r,dx,_,rfl,s2 _ _ ho,lD,_,rfl,l,_,_,_,rfl,rfl,nS (s2 _ _ hl),Zh (j:=0) rfl,r,S,P,R,D,ps,y,n,i,k0,_,_,rfl,sh.mono s2,sd,w1.2.2,_,rfl,?_⟩;refine YY (fun c=>?_) (fun c=>σ2 s2 fun z=>c (zT.mpr z.2));exact⟨_,rfl,l,_,_,_,rfl,rfl,nS (s2 _ _ hl),Zh (j:=0) rfl,pX sd (by unfold shF;rw[oo c1,oo c2,oo c3,oo c4,oq ⟨hw,zT.mp c⟩];rfl) s2⟩
 rintro σ4 H3 ⟨rfl,s3,c5⟩;refine⟨fun σ' H'=>σ'=[some (V.ref r),some (V.ref ad),some (V.ref l),some (V.str (Zu t.lb))]/\Zg H H'/\¬(Zu t.lb = "ever" /\ yW (X9 ks) "ever" "always"),?_,?_⟩
 ·refine⟨_,rfl,rfl,_,rfl,?_⟩
  show if decide (V.str (Zu t.lb)=V.str "ever")=true then _ else _
  rw[dS];refine YY (fun hb=>?_) (fun hb=>Yn (σ2 s3 fun z=>hb (fQ z.1)));have hw:=ge hb;obtain⟨i,k0,rfl,rfl,sd,NE⟩:=one hw w1.2.2;refine⟨_,rfl,r,dx,_,rfl,s3 _ _ ho,lD,_,rfl,l,_,_,_,rfl,rfl,nS (s3 _ _ hl),Zh (j:=0) rfl,r,S,P,R,D,ps,y,n,i,k0,_,_,rfl,sh.mono s3,sd,w1.2.1,_,rfl,?_⟩;refine YY (fun c=>?_) (fun c=>σ2 s3 fun z=>c (zT.mpr z.2));exact⟨_,rfl,l,_,_,_,rfl,rfl,nS (s3 _ _ hl),Zh (j:=0) rfl,pX sd (by unfold shF;rw[oo c1,oo c2,oo c3,oo c4,oo c5,oq ⟨hw,zT.mp c⟩];rfl) s3⟩
 rintro σ5 H4 ⟨rfl,s4,c6⟩;have e:shF t.lb ks=.node t.lb ks:=by unfold shF;rw[oo c1,oo c2,oo c3,oo c4,oo c5,oo c6]
 rw[e] at k;have nm:∀w,t.lb≠.many w:=fun w z=>by
  rw[z] at ok c1 c2;rcases ok.1 with rfl|rfl
  ·exact c1 rfl
  ·exact c2 rfl
 exact⟨_,rfl,r,dx,_,rfl,s4 _ _ ho,lM,_,rfl,_,rfl,r,S,P,R,D,ps,y,n,.ref ad,t,m,l,is,ks,rfl,sh.mono s4,few,ox.mono (nT s4),nm,s4 _ _ hl,o5,tU,fun H' i b' Tl hi=>k H' i ((Zg.b s4).trans b') Tl hi⟩
def Zf7(H:Hp)(l:Addr)(is ss:List Nat):Prop:=is.length=ss.length/\∃bs:List Addr,bs.length=is.length/\H l=some (.lst (bs.map V.ref))/\∀(j:Nat) b i s,bs[j]?=some b->is[j]?=some i->ss[j]?=some s->H b=some (.tup [.int (i:Nat),.int (s:Nat)])
theorem qA.more{ks:List Tr}{x:Tr}(h:qA ps is ks):qA (YN ps x) is ks:=⟨h.1,fun j k i h1 h2=>WA (h.2 j k i h1 h2)⟩
theorem Zde{bs:List α}(h:bs.length=is.length):(bs.zip is).map (fun e=>V.int ((e.2:Nat):Int))=iV is:=by
 unfold iV;have:(bs.zip is).map ζ=is:=mz (by lia)
 conv=>rhs;rw[<- this]
 rw[fR];rfl
def yy(K:W.Frag)(a:Adr):Sp:=fun vs H Q _=>ZeI fun(r T P R D:Addr) (ps:List Tr) (y n:Nat) (v:V) (t:Tr) (m:Nat) (l:Addr) (is ss:List Nat)=>Zbv (vs=[.ref r,v,.ref l]) (VP K a H r T P R D ps y n) (ps.length<3999) (At K m H v t) (Zf7 H l is ss) (l≠P) (l≠R) (qA ps is t.ks) (qA ps ss (t.ks.map shT)) (∀H' (q:Addr) (i s:Nat),Y5 P R D H H'->H q=none->VP K a H' r T P R D (YN (YN ps t) (shT t)) y n->(YN (YN ps t) (shT t))[i]?=some t->(YN (YN ps t) (shT t))[s]?=some (shT t)->H' q=some (.tup [.int (i:Nat),.int (s:Nat)])->Q (.ref q) H')
theorem zR:Okd P w K mg base a 4 a.y23 a.z23 dA yy:=fun T hw=>by
 refine okX T.aN.f VX fun dn A outer s H E hr=>?_;intro X;have hK:X.K=K:=rfl
 let d1:Rdg X YJ [2]:=⟨_,(Zf (Zm (ZH (Za (pv 3) (Za (YD (pv 0) T.ab T.aH.m (zM T hw) (rmL hr rfl) T.aH.n .nil Yh (Za (pv 1) (Za (Ya (Nc:=["pair"]) (ix:=[none]) (ZX.of (by left:ZZ (Zj YJ) ["self","sentence","inner","stands"] _ _ _=true)) rfl (ZQ hK (pv 2)) (fun _ _ _ _ _=>(Zz (i:=0) (show δ (["pair"]:List Str) by left) rfl (.inl rfl))) (fun _ _ _ _ _=>Ys) (fun _ _ _ _ _=>(Zq (ZD hK) (pv 0) Ze (fun _ _=>rfl)))) Zb rfl) rfl)) Zb rfl) rfl))))⟩
 let d2:Rdg X YJ [1]:=⟨_,(Zc (ZJ (Zn (WJ hK) (Zq (ZD hK) (pv 1) Ze (fun _ _=>rfl)) (ZH (Za Zl (Za Zl Zb rfl) rfl)) (by with_unfolding_all rfl)) (Zf (Zm (ZH (Za (pv 3) (Za (pv 3) Zb rfl) rfl)))) Zw) d1.2)⟩
 intro vs Q h;obtain⟨r,S,P,R,D,ps,y,n,v,t,m,l,is,ss,rfl,sh,few,ox,⟨hls,bs,lbs,hl,Nt⟩,lP,lR,Bp,GJ,k⟩:=h;refine⟨_,(Zc (Zo (i:=3) VX.nd rfl (.inl rfl) (YD (ZU hK (pv 0) rfl) T.ai T.ah.m (Xj T hw) (rmL hr rfl) T.ah.n .nil Yh (Za (pv 1) (Za (ZK T.bo (qv T hw) hr rfl rfl (Za (pv 1) (Za (Ya (Nc:=["pair"]) (ix:=[none]) (ZX.of (by left:ZZ (Zj YJ) ["self","sentence","inner","stands"] _ _ _=true)) rfl (ZQ hK (pv 2)) (fun _ _ _ _ _=>(Zz (i:=0) (show δ (["pair"]:List Str) by left) rfl (.inl rfl))) (fun _ _ _ _ _=>Ys) (fun _ _ _ _ _=>(Zq (ZD hK) (pv 0) Ze (fun _ _=>rfl)))) Zb rfl) rfl)) Zb rfl) rfl)) rfl (.inl rfl)) d2.2),?_⟩;obtain⟨dx,ho⟩:=sh.obj;obtain⟨dt,ht⟩:=sh.tb.obj;have ok:=Zaw ox;have h8:=lb8 ok;have li:is.length=t.ks.length:=Bp.1;obtain⟨ad,xs,rfl,oO⟩:=At.head ox;have uB:=fun(v1 v2 v3:V)=>lkN (v1:=v1) (v2:=v2) (v3:=v3) (m := "taken_in") (by left) (by left) (by left);refine⟨_,rfl,r,_,dx,_,_,rfl,ho,T.ab,T.ag,lkT,S,dt,_,rfl,ht,uB _ _ _,_,rfl,_,rfl,_,rfl,l,rfl,⟨_,nS hl⟩,fun A hA=>?_⟩;have zf:∀(js:List Nat),bs.length=js.length->(bs.zip js).map (fun e=>V.ref e.1)=bs.map V.ref:=fun js e=>by
  have:(bs.zip js).map ε=bs:=my (by lia)
  conv=>rhs;rw[<- this]
  rw[fR];rfl
 refine We (K:=K) (bs.zip is) (fun e=>V.ref e.1) (fun e=>V.int ((e.2:Nat):Int)) hA (by rw[zf is (by lia)];exact nS hl) (by rw[io,fJ];lia) ?_ ?_
 ·rintro⟨b,i⟩ hx G N sG hN;obtain⟨j,hj⟩:=iU.mp hx;rw[lG] at hj;have Oq:=(fP.mp hj.2).1;have hb:=Nt j b i _ hj.1 hj.2 (fG (show j<ss.length by lia));exact⟨_,rfl,b,_,_,_,rfl,rfl,nU (sG _ _ hb),Zh (j:=0) rfl,hN _ (.refl _)⟩
 intro H1 uT s1;rw[Zde (by lia)] at uT;refine⟨.ref ad,t,m,A,is,rfl,ox.mono (nT s1),uT,li,fun H2 b2 s2 r2=>?_⟩;have oR:=s1.trans s2;refine⟨S,P,R,D,ps,.ref ad,t,m,b2,_,rfl,sh.tb.mono oR,ox.mono (nT oR),r2,⟨is,Bp.1,Bp.2,rfl⟩,by lia,fun H3 i b3 rK hi=>?_⟩;have FR:Y5 P R D H H3:=(Zg.b oR).trans b3;have uo:=sh.next FR rK;have u3:Yv H H3:=sh.tb.t FR;obtain⟨dx3,Ed⟩:=uo.obj;have D9:=u3 _ _ _ oO;refine⟨_,rfl,ad,_,_,_,rfl,rfl,D9,Zh (j:=0) rfl,sz2,fun q2 oS=>?_⟩;obtain⟨H4,qN,s4,e4⟩:=xI (o:=.tup (([("all" : Str), "some"]:List Str).map V.str)) oS;have Bm:upd H3 q2 (.tup [V.str "all",.str "some"])=H4:=qN;rw[Bm];clear qN Bm;refine⟨q2,_,rfl,.inr (nU e4),rfl,xc _,_,rfl,?_⟩
 show if inV (V.str (Zu t.lb)) (([("all" : Str), "some"]:List Str).map V.str)=true then _ else _
 have CK:Y5 P R D H H4:=FR.trans (Zg.b s4);have uV:=uo.mono s4;have fr:∀{c:Addr}{G:Hp},Y5 P R D H G->G c=none->(∀o,H c≠some o)\/c=P\/c=R\/c=D:=fun {c G} b h=>by
  by_cases z:c=P\/c=R\/c=D
  ·exact .inr z
  ·refine .inl fun o e=>?_;rw[not_or,not_or] at z;rw[b c o z.1 z.2.1 z.2.2 e] at h;cases h
 have fresh:∀{c:Addr}{G:Hp}{Nk:List Tr},Y5 P R D H G->TbY K a.Pm a.C_Table G S P R D Nk->G c=none->H c=none:=fun {c G Nk} b tb h=>by
  obtain⟨_,_,h1,_⟩:=tb.pl;obtain⟨_,h2,_,_,_,h3⟩:=tb.rl;rcases fr b h with z|z|z|z
  ·cases e:H c with
   |none=>rfl
   |some o=>exact ot e (z o)
  ·rw[z,h1] at h;cases h
  ·rw[z,h2] at h;cases h
  ·rw[z,h3] at h;cases h
 have qu:inV (V.str (Zu t.lb)) (([("all" : Str), "some"]:List Str).map V.str)=true↔quL t.lb:=by
  rw[yF];simp only[fU,gN,gO];exact Iff.rfl
 refine YY (fun c=>?_) (fun c=>?_)
 ·have cq:=qu.mp c;have et:shT t=t:=by rw[qd,oq cq]
  have ea:YN (YN ps t) (shT t)=YN ps t:=by rw[et];exact Vn (gk hi)
  refine⟨_,rfl,_,rfl,sz2,fun q hq=>?_⟩;refine YU hq fun H5 s5 e5=>?_;exact k H5 q i i (CK.trans (Zg.b s5)) (fresh CK uV.tb hq) (by rw[ea];exact uV.mono s5) (by rw[ea];exact hi) (by rw[ea,et];exact hi) e5
 ·have cq:¬quL t.lb:=fun z=>c (qu.mpr z);have et:shT t=shF t.lb (t.ks.map shT):=by rw[qd,oo cq]
  rw[et] at k;have Gy:([("table",.ref S),("yes",.int (y:Int)),("no",.int (n:Int))]:List (Str×V)).lookup ("short_of" : Str)=none:=by
   rw[gi,(by left:(("short_of" : Str) == "table")=false)]
   show η _ _=_
   rw[gi,(by left:(("short_of" : Str) == "yes")=false)]
   show η _ _=_
   rw[gi,(by left:(("short_of" : Str) == "no")=false)];rfl
  obtain⟨dx4,Gh⟩:=uV.obj;have lD:l≠D:=fun z=>by obtain⟨_,_,_,_,_,h3⟩:=sh.tb.rl;rw[z,h3] at hl;cases hl
  have DR:=CK l _ lP lR lD hl;have u4:Yv H H4:=sh.tb.t CK;refine⟨_,rfl,_,rfl,r,dx4,_,rfl,Gh,Gy,_,rfl,_,rfl,l,rfl,⟨_,nS DR⟩,fun A' N9=>?_⟩;refine We (K:=K) (bs.zip ss) (fun e=>V.ref e.1) (fun e=>V.int ((e.2:Nat):Int)) N9 (by rw[zf ss (by lia)];exact nS DR) (by rw[io,fJ];lia) ?_ ?_
  ·rintro⟨b,s⟩ hx G N sG hN;obtain⟨j,hj⟩:=iU.mp hx;rw[lG] at hj;have Oq:=(fP.mp hj.2).1;have hb:=Nt j b _ s hj.1 (fG (show j<is.length by lia)) hj.2;exact⟨_,rfl,b,_,_,_,rfl,rfl,nT sG _ _ _ (u4 _ _ _ (nU hb)),Zh (j:=1) rfl,hN _ (.refl _)⟩
  intro H5 wV s5;rw[Zde (by lia)] at wV;have HV:Y5 P R D H H5:=CK.trans (Zg.b s5);have fw:(YN ps t).length<4000:=by unfold YN;split<;>(try rw[fK])<;>(try (have:[t].length=1:=rfl))<;>lia
  refine⟨r,S,P,R,D,YN ps t,y,n,.ref ad,t,m,A',ss,t.ks.map shT,rfl,uV.mono s5,fw,ox.mono (sh.tb.t HV),wV,GJ.more,by rw[fF],fun H6 s b6 Dq hs=>?_⟩;have BI:=HV.trans b6;refine⟨sz2,fun q hq=>?_⟩;refine YU hq fun H7 s7 e7=>?_;exact k H7 q i s (BI.trans (Zg.b s7)) (fresh BI Dq.tb hq) (Dq.mono s7) (WA hi) hs e7
def BP(H:Hp)(z:List (V×(Bool×Bool))):Prop:=∀x∈z,∃q,x.1=.ref q/\H q=some (.tup [.bl x.2.1,.bl x.2.2])
def yz(K:W.Frag)(a:Adr):Sp:=fun vs H Q _=>Ex9 fun(ls l1 l2:Addr) (p m:Nat) (L M:List Bool) (f g:Nat->Bool)=>Zbv (vs=[.ref ls,.int (p:Nat),.int (m:Nat)]) (H ls=some (.lst [.ref l1,.ref l2])) (H l1=some (.lst (L.map V.bl))) (H l2=some (.lst (M.map V.bl))) (ZS p L f) (ZS p M g) (L.length<=50000) (M.length<=50000) (m<=50000) (∀H' q (z:List (V×(Bool×Bool))) (L' M':List Bool),Zg H H'->H q=none->H' q=some (.lst (z.map ε))->BP H' z->z.map ζ=L'.zip M'->ZS p L' f->ZS p M' g->L'.length=max L.length M.length+m->M'.length=max L.length M.length+m->Q (.ref q) H')
theorem Wv:Okd P w K mg base a 2 a.y38 a.z38 eI yz:=fun T hw=>by
 refine okX T.aF.f VT fun dn A outer s H E hr=>?_;intro X;have hK:X.K=K:=rfl
 let d1:Rdg X XX [1]:=⟨_,(Zf (Zm (Zac hK rfl rfl T.a9 rfl T.dj (Za (ZK T.aW (Vq T hw) hr rfl rfl (@ZC _ _ _ _ _ (Zq (Zk hK) (pv 0) Ze (fun _ _=>rfl)) (@ZC _ _ _ _ _ (pv 3) (@ZC _ _ _ _ _ (pv 1) Zb rfl) rfl) rfl)) (Za (ZK T.aW (Vq T hw) hr rfl rfl (@ZC _ _ _ _ _ (Zq (Zk hK) (pv 0) Ze (fun _ _=>rfl)) (@ZC _ _ _ _ _ (pv 3) (@ZC _ _ _ _ _ (pv 1) Zb rfl) rfl) rfl)) Zb rfl) rfl))))⟩
 intro vs Q h;obtain⟨ls,l1,l2,p,m,L,M,f,g,rfl,hs,h1,h2,tl,tm,b1,b2,b3,k⟩:=h;refine⟨_,(Zc (Zo (i:=3) VT.nd rfl (.inl rfl) (Zv Z5 (Zp (yN rfl) rfl T.cY oi (Za (Zp (Zy hK) rfl T.av nX (Za (Zq (Zk hK) (pv 0) Ze (fun _ _=>rfl)) Zb rfl)) (Za (Zp (Zy hK) rfl T.av nX (Za (Zq (Zk hK) (pv 0) Ze (fun _ _=>rfl)) Zb rfl)) Zb rfl) rfl)) (pv 2)) rfl (.inl rfl)) d1.2),?_⟩;refine⟨_,rfl,ls,_,_,_,rfl,rfl,nS hs,Zh (j:=0) rfl,.inl ⟨l1,_,rfl,.inl (nS h1),_,rfl,ls,_,_,_,rfl,rfl,nS hs,Zh (j:=1) rfl,.inl ⟨l2,_,rfl,.inl (nS h2),_,_,rfl,?_⟩⟩⟩;rw[fF,fF];have em:(if((M.length:Nat):Int)>((L.length:Nat):Int) then((M.length:Nat):Int) else((L.length:Nat):Int))=((max L.length M.length:Nat):Int):=by split<;>lia
 rw[em];have RG:((max L.length M.length:Nat):Int)+(m:Nat)=((max L.length M.length+m:Nat):Int):=by lia
 refine⟨_,rfl,_,_,rfl,rfl,?_⟩;rw[RG];refine⟨_,rfl,ls,_,_,_,rfl,rfl,nS hs,Zh (j:=0) rfl,_,rfl,_,rfl,l1,max L.length M.length+m,p,L,f,rfl,h1,tl,by lia,by lia,fun H1 q1 L' s1 FD e1 rL Oe=>?_⟩;refine⟨_,rfl,ls,_,_,_,rfl,rfl,nS (s1 _ _ hs),Zh (j:=1) rfl,_,rfl,_,rfl,l2,max L.length M.length+m,p,M,g,rfl,s1 _ _ h2,tm,by lia,by lia,fun H2 q2 M' s2 q20 e2 uX lm'=>?_⟩;refine⟨q1,q2,_,_,rfl,nS (s2 _ _ e1),nS e2,by rw[fF,fF];lia,fun H3 q3 zs s3 Op e3 ez hz=>?_⟩;have lz:(L'.zip M').length=zs.length:=by
  have:=fS θ ez;rw[fF,io,fF,fF] at this;rw[io];lia
 have F5:zs.map ζ=(L'.zip M').map fun x=>(V.bl x.1,V.bl x.2):=by
  rw[ez,List.zip_map];rfl
 refine k H3 q3 ((zs.map ε).zip (L'.zip M')) L' M' (s1.trans (s2.trans s3)) ((s1.trans s2).free Op) (by rw[e3,my (by rw[fF];lia)]) (fun x hx=>?_) (by rw[mz (by rw[fF];lia)]) rL uX (by lia) (by lia);obtain⟨j,hj,ej⟩:=gF hx;rw[io,fF] at hj;rw[mB,nC] at ej;have Lg:j<zs.length:=by lia
 obtain⟨q,eq,gq⟩:=hz _ (gC Lg);have e1:zs[j].1=x.1:=fS ε ej;have e2:(L'.zip M')[j]'(by lia)=x.2:=fS ζ ej;have e4:zs[j].2=(V.bl x.2.1,V.bl x.2.2):=by
  have:(zs.map ζ)[j]?=((L'.zip M').map fun x=>(V.bl x.1,V.bl x.2))[j]?:=by rw[F5]
  rw[fO,fO,fG Lg,fG (show j<(L'.zip M').length by lia),e2] at this;exact fW this
 refine⟨q,by rw[<- e1];exact eq,?_⟩;rw[e4] at gq;exact gq
theorem Zai{z:List (V×(Bool×Bool))}{M:List Bool}{g:Nat->Bool}{p m:Nat}(ez:z.map ζ=L.zip M)(tl:ZS p L f)(tm:ZS p M g)(hl:L.length=m)(hm:M.length=m):z.length=m/\∀j,(h:j<z.length)->z[j].2=(f j,g j):=by
 have lz:z.length=m:=by
  have:=fS θ ez;rw[fF,io] at this;lia
 refine⟨lz,fun j h=>?_⟩;have:(z.map ζ)[j]?=(L.zip M)[j]?:=by rw[ez]
 rw[fO,fG h,(lG (z:=(f j,g j))).mpr ⟨tl.get (by lia),tm.get (by lia)⟩] at this;exact fW this
theorem ZS.rng{p m:Nat}(p1:1<=p)(le:p<=m)(more:∀k,m<=k->f k=f (k-p)):ZS p ((γ m).map f) f:=
 .of p1 (by rw[fF,gU]) le (fun k h=>by rw[fO,m6 h];rfl) more
theorem jk(f:Nat->α)(n:Nat):(γ (n+1)).map f=(γ n).map f++[f n]:=by rw[List.range_succ,gp];rfl
def xB(K:W.Frag)(a:Adr):Sp:=fun vs H Q _=>Ex8 fun(ls l1 l2:Addr) (p:Nat) (L M:List Bool) (f g:Nat->Bool)=>Cj9 (vs=[.ref ls,.int (p:Nat)]) (H ls=some (.lst [.ref l1,.ref l2])) (H l1=some (.lst (L.map V.bl))) (H l2=some (.lst (M.map V.bl))) (ZS p L f) (ZS p M g) (L.length<=50000) (M.length<=50000) (∀H' q (L':List Bool),Zg H H'->H' q=some (.lst (L'.map V.bl))->ZS p L' (fun k=>f k&&g k)->L'.length<=max L.length M.length->Q (.ref q) H')
theorem Qp:Okd P w K mg base a 3 a.y40 a.z40 dq xB:=fun T hw=>by
 refine okF T.bH.f KI fun dn A outer s H vs Q E hr h=>?_;obtain⟨ls,l1,l2,p,L,M,f,g,rfl,hs,h1,h2,tl,tm,b1,b2,k⟩:=h;refine⟨_,(Zf (Zm (Ya (Nc:=dM) (ix:=[none,none]) (ZX.of (by left:ZZ (Zj UG) ["lines","size"] _ _ _=true)) rfl (ZQ (K:=K) rfl (ZK T.aF (Wv T hw) hr rfl rfl (@ZC _ _ _ _ _ (pv 0) (@ZC _ _ _ _ _ (pv 1) (@ZC _ _ _ _ _ Ze Zb rfl) rfl) rfl))) (fun _ _ _ _ _=>(Uw (K:=K) (n:=2) rfl rfl (YV (Zz (i:=0) (show δ dM by left) rfl (.inl rfl)) (YV (Zz (i:=1) (show δ dM by left) rfl (.inl rfl)) UF)))) (fun _ _ _ _ _=>Ys) (fun _ _ _ _ _=>(Wr (pv 0) (Wb (pv 1))))))),?_⟩;refine⟨_,rfl,_,rfl,ls,l1,l2,p,0,L,M,f,g,rfl,hs,h1,h2,tl,tm,b1,b2,by left,fun H1 P z L' M' s1 P0 e1 bp ez rL uX ll lm=>⟨P,rfl,⟨_,nS e1⟩,fun D hD=>?_⟩⟩;rw[Nat.add_zero] at ll lm;obtain⟨lz,hz⟩:=Zai ez rL uX ll lm;have le:=rL.le
 let J1:Nat->L2.St->Hp->Prop:=fun i U G=>Ex2 fun(y1 y2:Option V)=>Cj3 (U=[y1,y2]) (Zg H1 G) (G D=some (.lst (((γ i).map fun k=>f k&&g k).map V.bl)))
 refine WL (J:=Itl K P) (n:=z.length) J1 ?_ ?_ ?_ ?_ ?_
 ·exact⟨_,_,rfl,Zi hD,Zd⟩
 ·rintro i U G hi ⟨y1,y2,rfl,sG,_⟩;exact⟨_,_,nS (sG _ _ e1),by rw[fO,fG hi];rfl⟩
 ·rintro U G ⟨y1,y2,rfl,sG,_⟩;exact⟨_,nS (sG _ _ e1),by rw[fF];exact fH _⟩
 ·rintro i x U G0 G hi ⟨y1,y2,rfl,sG,gD⟩ ⟨rfl,hx⟩ N N0 hN o5;have ex:=hx _ (nS (sG _ _ e1));rw[fO,fG hi] at ex;have tJ:x=z[i].1:=(fW ex).symm;subst tJ;obtain⟨q,eq,gq⟩:=bp _ (gC hi);rw[hz i hi] at gq;rw[eq];refine⟨q,_,rfl,nU (sG _ _ gq),rfl,_,_,rfl,_,_,rfl,rfl,?_⟩;refine qh (te:=ZfM (xM 0) (xM 1)) (U:=[some (.bl (f i)),some (.bl (g i))]) (H:=G) (N:=fun v H5=>N v [some (.bl (f i)),some (.bl (g i))] H5) (N0:=fun H4=>N0 [some (.bl (f i)),some (.bl (g i))] H4) ?_;have go:N (.bl (f i&&g i)) [some (.bl (f i)),some (.bl (g i))] G:=by
   refine hN _ _ G _ gD (by rw[fF,fF,gU,fJ];lia) ⟨_,_,rfl,(ZB.upd (Zg.x sG)).same hD,?_⟩;rw[Zd,jk,gp];rfl
  refine⟨_,rfl,_,rfl,YY (fun c=>⟨_,rfl,?_⟩) (fun c=>?_)⟩
  ·rw[c,mZ] at go;rw[c];exact go
  ·have c':f i=false:=by simpa using c
   rw[c',iM] at go;rw[c'];exact go
 rintro U G ⟨y1,y2,rfl,sG,gD⟩;rw[lz] at gD;exact k G D _ (s1.trans sG) gD (ZS.rng tl.p1 (by lia) fun k hk=>by rw[rL.more k (by lia),uX.more k (by lia)]) (by rw[fF,gU];exact fH _)
def zo(K:W.Frag)(a:Adr):Sp:=fun vs H Q _=>Ex8 fun(ls l1 l2:Addr) (p:Nat) (L M:List Bool) (f g:Nat->Bool)=>Cj9 (vs=[.ref ls,.int (p:Nat)]) (H ls=some (.lst [.ref l1,.ref l2])) (H l1=some (.lst (L.map V.bl))) (H l2=some (.lst (M.map V.bl))) (ZS p L f) (ZS p M g) (L.length<=50000) (M.length<=50000) (∀H' q (L':List Bool),Zg H H'->H' q=some (.lst (L'.map V.bl))->ZS p L' (X4 f g)->L'.length<=max L.length M.length->Q (.ref q) H')
theorem Zb1(f g:Nat->Bool){m:Nat}(h:i<m):(g (m-1-i)||(f (m-1-i)&&xD f g false (m-i) i))=xD f g false (m-(i+1)) (i+1):=by
 have e1:m-(i+1)=m-1-i:=by lia
 rw[e1]
 show _=(g (m-1-i)||(f (m-1-i)&&xD f g false (m-1-i+1) i))
 have e2:m-1-i+1=m-i:=by lia
 rw[e2]
theorem Zc5(f g:Nat->Bool){m:Nat}(h:i<m):(g (m-1-i)||(f (m-1-i)&&X4 f g (m-i)))=X4 f g (m-(i+1)):=by
 have e1:m-(i+1)=m-1-i:=by lia
 have e2:m-i=m-1-i+1:=by lia
 rw[e1,e2,<- Zdc]
theorem Zca(f:Nat->Bool)(m:Nat):(((γ m).map fun i=>f (m-(i+1))).map V.bl).reverse=((γ m).map f).map V.bl:=by
 rw[<- List.map_reverse]
 congr 1
 apply mO;intro i
 by_cases hi:i<m
 ·rw[nL (by rw[fF,gU];exact hi),fO,fO,fF,gU,m6 (by lia),m6 hi]
  show some (f (m-(m-1-i+1)))=some (f i)
  congr 2
  lia
 ·rw[i7 (by rw[l5,fF,gU];lia),i7 (by rw[fF,gU];lia)]
theorem jJ:Okd P w K mg base a 3 a.y42 a.z42 dq zo:=fun T hw=>by
 refine okX T.bj.f Yy fun dn A outer s H E hr=>?_;intro X;have hK:X.K=K:=rfl
 let d1:Rdg X Xb [4,0,0]:=⟨_,(Zc (Zo (i:=3) Yy.nd rfl (.inl rfl) (ZdK (pv 5) (Wb (Wr (pv 4) (Wb (pv 3))))) rfl (.inl rfl)) (Zf (Yj (XE gA gH gI Z0 (pv 6) (Za (pv 3) Zb rfl)) rfl)))⟩
 let d2:Rdg X Xb [4]:=⟨_,(Zc (Xp gE rfl (xN hK rfl T.bq (Za (pv 2) Zb rfl)) (Uw (K:=K) (n:=2) rfl rfl (YV (Zz (i:=4) Yy.nd rfl (.inl rfl)) (YV (Zz (i:=5) Yy.nd rfl (.inl rfl)) UF))) d1.2) (Zf (Zm (Za5 hK (pv 6) (Z4 (VY WB Ze))))))⟩
 let d3:Rdg X Xb [3]:=⟨_,(Zc (Zo (i:=6) Yy.nd rfl (.inl rfl) (Z7 Zb) rfl (.inl rfl)) d2.2)⟩
 let d4:Rdg X Xb [2]:=⟨_,(Zc (Xp gE rfl (xN hK rfl T.bq (Za (Z1 (YI hK) (pv 2) (Z4 (VY WB (pv 1))) Yr) Zb rfl)) (Uw (K:=K) (n:=2) rfl rfl (YV (Zz (i:=4) Yy.nd rfl (.inl rfl)) (YV (Zz (i:=5) Yy.nd rfl (.inl rfl)) UF))) (Zf (Zo (i:=3) Yy.nd rfl (.inl rfl) (ZdK (pv 5) (Wb (Wr (pv 4) (Wb (pv 3))))) rfl (.inl rfl)))) d3.2)⟩
 let d5:Rdg X Xb [1]:=⟨_,(Zc (Zo (i:=3) Yy.nd rfl (.inl rfl) VM rfl (.inl rfl)) d4.2)⟩
 intro vs Q h;obtain⟨ls,l1,l2,p,L,M,f,g,rfl,hs,h1,h2,tl,tm,b1,b2,k⟩:=h;refine⟨_,(Zc (Zo (i:=2) Yy.nd rfl (.inl rfl) (ZK T.aF (Wv T hw) hr rfl rfl (@ZC _ _ _ _ _ (pv 0) (@ZC _ _ _ _ _ (pv 1) (@ZC _ _ _ _ _ Ze Zb rfl) rfl) rfl)) rfl (.inl rfl)) d5.2),?_⟩;have p1:=tl.p1;have SJ:=tl.le;refine⟨_,rfl,_,rfl,ls,l1,l2,p,0,L,M,f,g,rfl,hs,h1,h2,tl,tm,b1,b2,by left,fun H1 P z L' M' s1 P0 e1 bp ez rL uX ll lm=>?_⟩;rw[Nat.add_zero] at ll lm;obtain⟨lz,hz⟩:=Zai ez rL uX ll lm;generalize hmm:max L.length M.length=m at ll lm lz k;have pm:p<=m:=by lia
 have hf:∀j,m<=j->f j=f (j-p):=fun j hj=>tl.more j (by lia);have hg:∀j,m<=j->g j=g (j-p):=fun j hj=>tm.more j (by lia);refine⟨_,rfl,_,rfl,_,rfl,_,rfl,P,_,rfl,nS e1,fun R hR=>?_⟩;rw[ZdF _ p1 (by rw[fF];lia),fF,lz];refine YU hR fun H2 s2 e2=>?_;have lR:((z.map ε).drop (m-p)).length=p:=by rw[gQ,fF];lia
 refine⟨R,_,rfl,nS e2,?_⟩;rw[lR];have two:∀{n:Nat} (j:Nat),(hj:j<m)->∀{G:Hp},Zg H1 G->∃q,z[j]'(by lia)=(.ref q,(f j,g j))/\G q=some (.tup [.bl (f j),.bl (g j)]):=fun {_} j hj {G} sG=>by
  obtain⟨q,eq,gq⟩:=bp _ (gC (show j<z.length by lia));rw[hz j (by lia)] at gq;exact⟨q,Prod.ext eq (hz j (by lia)),sG _ _ gq⟩
 let J1:Nat->L2.St->Hp->Prop:=fun i U G=>∃z4 z5:Option V,U=[qr0 ls,some (.int (p:Nat)),qr0 P,some (.bl (xD f g false (m-i) i)),z4,z5,none]/\Zg H2 G
 refine WZ (J:=Itv K R p) (n:=p) J1 ?_ ?_ (fun U G _=>fH _) ?_ ?_
 ·exact⟨_,_,rfl,.refl _⟩
 ·rintro i U G hi ⟨z4,z5,rfl,sG⟩;exact⟨hi,_,nS (sG _ _ e2),lR⟩
 ·rintro i x U G0 G hi ⟨z4,z5,rfl,sG⟩ ⟨rfl,hx⟩;have ex:=hx _ (nS (sG _ _ e2));rw[iK,fO,show m-p+(p-1-i)=m-1-i by lia,fG (show m-1-i<z.length by lia)] at ex;obtain⟨q,eq,gq⟩:=two (n:=0) (m-1-i) (by lia) (s2.trans sG);rw[eq] at ex;have tJ:x=.ref q:=(fW ex).symm;subst tJ;refine⟨q,_,rfl,nU gq,rfl,_,_,rfl,_,_,rfl,rfl,?_⟩;have oz:=Zb1 f g (show i<m by lia);refine⟨_,rfl,_,rfl,YY (fun c=>?_) (fun c=>⟨_,rfl,_,rfl,YY (fun c2=>⟨_,rfl,?_⟩) (fun c2=>?_)⟩)⟩
  ·rw[c,Τ] at oz;exact⟨_,_,by rw[<- oz];rfl,sG⟩
  ·have c':g (m-1-i)=false:=by simpa using c
   rw[c',c2,lL,mZ] at oz;exact⟨_,_,by rw[<- oz];rfl,sG⟩
  ·have c':g (m-1-i)=false:=by simpa using c
   have BU:f (m-1-i)=false:=by simpa using c2
   rw[c',BU,lL,iM] at oz;exact⟨_,_,by rw[<- oz];rfl,sG⟩
 rintro U G ⟨z4,z5,rfl,sG⟩;rw[Zcb p1 pm hf hg];refine⟨by left,fun D hD=>?_⟩;refine YU hD fun G1 t1 eD=>?_;have s3:=s2.trans (sG.trans t1);have lP:(z.map ε).length=m:=by rw[fF];exact lz
 refine⟨_,rfl,P,_,rfl,nS (s3 _ _ e1),?_⟩;rw[lP];have tF:P≠D:=fun e=>by rw[e] at e1;rw[(s2.trans sG) _ _ e1] at hD;cases hD
 let J2:Nat->L2.St->Hp->Prop:=fun i U F=>∃z4 z5:Option V,U=[qr0 ls,some (.int (p:Nat)),qr0 P,some (.bl (X4 f g (m-i))),z4,z5,qr0 D]/\ZB D G1 F/\F D=some (.lst (((γ i).map fun j=>X4 f g (m-(j+1))).map V.bl))
 refine WZ (J:=Itv K P m) (n:=m) J2 ?_ ?_ (fun U G _=>fH _) ?_ ?_
 ·exact⟨_,_,rfl,.refl _,eD⟩
 ·rintro i U F hi ⟨z4,z5,rfl,sF,_⟩;exact⟨hi,_,nS (sF _ _ tF (s3 _ _ e1)),lP⟩
 ·rintro i x U F0 F hi ⟨z4,z5,rfl,sF,gD⟩ ⟨rfl,hx⟩;have ex:=hx _ (nS (sF _ _ tF (s3 _ _ e1)));rw[fO,fG (show m-1-i<z.length by lia)] at ex;obtain⟨q,eq,gq⟩:=two (n:=0) (m-1-i) (by lia) (.refl H1);rw[eq] at ex;have tJ:x=.ref q:=(fW ex).symm;subst tJ;have FI:q≠D:=fun e=>by rw[e] at gq;rw[(s2.trans sG) _ _ gq] at hD;cases hD
  refine⟨q,_,rfl,nU (sF _ _ FI (s3 _ _ gq)),rfl,_,_,rfl,_,_,rfl,rfl,?_⟩;have go:∀b:Bool,b=X4 f g (m-(i+1))->Vx (.ref D) [.bl b] F (fun _ F1=>∃z4 z5:Option V,[qr0 ls,some (.int (p:Nat)),qr0 P,some (.bl b),some (.bl (f (m-1-i))),some (.bl (g (m-1-i))),qr0 D]=[qr0 ls,some (.int (p:Nat)),qr0 P,some (.bl (X4 f g (m-(i+1)))),z4,z5,qr0 D]/\ZB D G1 F1/\F1 D=some (.lst (((γ (i+1)).map fun j=>X4 f g (m-(j+1))).map V.bl))):=fun b hb=>by
   subst hb;refine⟨D,_,_,rfl,rfl,gD,by rw[fF,fF,gU,fJ];lia,_,_,rfl,sF.upd,?_⟩;rw[Zd,jk,gp];rfl
  have oz:=Zc5 f g (show i<m by lia);refine⟨_,rfl,_,rfl,YY (fun c=>?_) (fun c=>⟨_,rfl,_,rfl,YY (fun c2=>⟨_,rfl,?_⟩) (fun c2=>?_)⟩)⟩
  ·rw[c,Τ] at oz;exact⟨_,rfl,.inl ⟨rfl,_,nS gD⟩,_,rfl,go true oz⟩
  ·have c':g (m-1-i)=false:=by simpa using c
   rw[c',c2,lL,mZ] at oz;exact⟨_,rfl,.inl ⟨rfl,_,nS gD⟩,_,rfl,go _ oz⟩
  ·have c':g (m-1-i)=false:=by simpa using c
   have BU:f (m-1-i)=false:=by simpa using c2
   rw[c',BU,lL,iM] at oz;exact⟨_,rfl,.inl ⟨rfl,_,nS gD⟩,_,rfl,go _ oz⟩
 rintro U F ⟨z4,z5,rfl,sF,gD⟩;refine⟨_,rfl,_,rfl,_,rfl,D,_,rfl,rfl,nS gD,fun q hq=>?_⟩;rw[Zca];have NV:Zg H F:=fun b o e=>sF _ _ (fun w=>by rw[w] at e;rw[(s1.trans (s2.trans sG)) _ _ e] at hD;cases hD) ((s1.trans s3) _ _ e);exact k _ q _ (NV.trans (Zi hq)) Zd (ZS.rng p1 pm (ZbN pm hf hg)) (by rw[fF,gU];exact fH _)
def zg(K:W.Frag)(a:Adr):Sp:=fun vs H Q _=>Ex8 fun(ls l1 l2:Addr) (p:Nat) (L M:List Bool) (f g:Nat->Bool)=>Cj9 (vs=[.ref ls,.int (p:Nat)]) (H ls=some (.lst [.ref l1,.ref l2])) (H l1=some (.lst (L.map V.bl))) (H l2=some (.lst (M.map V.bl))) (ZS p L f) (ZS p M g) (L.length<=50000) (M.length<=50000) (∀H' q (L':List Bool),Zg H H'->H' q=some (.lst (L'.map V.bl))->ZS p L' (XT f g)->L'.length<=max L.length M.length+p->Q (.ref q) H')
def Zeb(f g:Nat->Bool):Nat->Bool
 |0=>false
 |k+1=>XT f g k
theorem Zb3(f g:Nat->Bool)(k:Nat):(g k||(f k&&Zeb f g k))=XT f g k:=by
 cases k with
 |zero=>show(g 0||(f 0&&false))=g 0;cases g 0<;>cases f 0<;>rfl
 |succ n=>rfl
theorem jP:Okd P w K mg base a 3 a.y44 a.z44 dq zg:=fun T hw=>by
 refine okX T.bm.f XG fun dn A outer s H E hr=>?_;intro X
 let d1:Rdg X XU [2,0,0]:=⟨_,(Zc (Zo (i:=3) XG.nd rfl (.inl rfl) (ZdK (pv 5) (Wb (Wr (pv 4) (Wb (pv 3))))) rfl (.inl rfl)) (Zf (Yj (XE gA gH gI Z0 (pv 2) (Za (pv 3) Zb rfl)) rfl)))⟩
 let d2:Rdg X XU [2]:=⟨_,(Zc (Xp gE rfl (ZQ (K:=K) rfl (ZK T.aF (Wv T hw) hr rfl rfl (@ZC _ _ _ _ _ (pv 0) (@ZC _ _ _ _ _ (pv 1) (@ZC _ _ _ _ _ (pv 1) Zb rfl) rfl) rfl))) (Uw (K:=K) (n:=2) rfl rfl (YV (Zz (i:=4) XG.nd rfl (.inl rfl)) (YV (Zz (i:=5) XG.nd rfl (.inl rfl)) UF))) d1.2) (Zf (Zm (pv 2))))⟩
 let d3:Rdg X XU [1]:=⟨_,(Zc (Zo (i:=3) XG.nd rfl (.inl rfl) VM rfl (.inl rfl)) d2.2)⟩
 intro vs Q h;obtain⟨ls,l1,l2,p,L,M,f,g,rfl,hs,h1,h2,tl,tm,b1,b2,k⟩:=h;refine⟨_,(Zc (Zo (i:=2) XG.nd rfl (.inl rfl) (Z7 Zb) rfl (.inl rfl)) d3.2),?_⟩;have p1:=tl.p1;have SJ:=tl.le;refine⟨by left,fun D hD=>?_⟩;refine YU hD fun H1 s1 e1=>?_;refine⟨_,rfl,_,rfl,_,rfl,ls,l1,l2,p,p,L,M,f,g,rfl,s1 _ _ hs,s1 _ _ h1,s1 _ _ h2,tl,tm,b1,b2,by lia,fun H2 P z L' M' s2 P0 e2 bp ez rL uX ll lm=>⟨P,rfl,⟨_,nS e2⟩,?_⟩⟩;obtain⟨lz,hz⟩:=Zai ez rL uX ll lm
 let J1:Nat->L2.St->Hp->Prop:=fun i U G=>∃z4 z5:Option V,U=[qr0 ls,some (.int (p:Nat)),qr0 D,some (.bl (Zeb f g i)),z4,z5]/\ZB D H2 G/\G D=some (.lst (((γ i).map (XT f g)).map V.bl))
 refine WZ (J:=Itl K P) (n:=z.length) J1 ?_ ?_ ?_ ?_ ?_
 ·exact⟨_,_,rfl,.refl _,s2 _ _ e1⟩
 ·rintro i U G hi ⟨z4,z5,rfl,sG,_⟩;have tF:P≠D:=fun e=>by rw[e,e1] at P0;cases P0
  exact⟨_,_,nS (sG _ _ tF e2),by rw[fO,fG hi];rfl⟩
 ·rintro U G ⟨z4,z5,rfl,sG,_⟩;have tF:P≠D:=fun e=>by rw[e,e1] at P0;cases P0
  exact⟨_,nS (sG _ _ tF e2),by rw[fF];exact fH _⟩
 ·rintro i x U G0 G hi ⟨z4,z5,rfl,sG,gD⟩ ⟨rfl,hx⟩;have tF:P≠D:=fun e=>by rw[e,e1] at P0;cases P0
  have ex:=hx _ (nS (sG _ _ tF e2));rw[fO,fG hi] at ex;have tJ:x=z[i].1:=(fW ex).symm;subst tJ;obtain⟨q,eq,gq⟩:=bp _ (gC hi);rw[hz i hi] at gq;have gq:H2 q=some (.tup [.bl (f i),.bl (g i)]):=gq;rw[eq];have FI:q≠D:=fun e=>by rw[e,s2 _ _ e1] at gq;cases gq
  refine⟨q,_,rfl,nU (sG _ _ FI gq),rfl,_,_,rfl,_,_,rfl,rfl,?_⟩;have go:∀b:Bool,b=XT f g i->Vx (.ref D) [.bl b] G (fun _ H1=>∃z4 z5:Option V,[qr0 ls,some (.int (p:Nat)),qr0 D,some (.bl b),some (.bl (f i)),some (.bl (g i))]=[qr0 ls,some (.int (p:Nat)),qr0 D,some (.bl (Zeb f g (i+1))),z4,z5]/\ZB D H2 H1/\H1 D=some (.lst (((γ (i+1)).map (XT f g)).map V.bl))):=fun b hb=>by
   subst hb;refine⟨D,_,_,rfl,rfl,gD,by rw[fF,fF,gU,fJ];lia,_,_,rfl,sG.upd,?_⟩;rw[Zd,jk,gp];rfl
  have oz:=Zb3 f g i;refine⟨_,rfl,_,rfl,YY (fun c=>?_) (fun c=>⟨_,rfl,_,rfl,YY (fun c2=>⟨_,rfl,?_⟩) (fun c2=>?_)⟩)⟩
  ·rw[c,Τ] at oz;exact⟨_,rfl,.inl ⟨rfl,_,nS gD⟩,_,rfl,go true oz⟩
  ·have c':g i=false:=by simpa using c
   rw[c',c2,lL,mZ] at oz;exact⟨_,rfl,.inl ⟨rfl,_,nS gD⟩,_,rfl,go _ oz⟩
  ·have c':g i=false:=by simpa using c
   have BU:f i=false:=by simpa using c2
   rw[c',BU,lL,iM] at oz;exact⟨_,rfl,.inl ⟨rfl,_,nS gD⟩,_,rfl,go _ oz⟩
 rintro U G ⟨z4,z5,rfl,sG,gD⟩;rw[lz] at gD;have rh:∀b o,H b=some o->G b=some o:=fun b o e=>sG _ _ (fun z=>by rw[z,hD] at e;cases e) ((s1.trans s2) _ _ e);refine⟨_,rfl,k G D _ rh gD (ZS.rng p1 (by lia) fun k hk=>?_) (by rw[fF,gU];exact fH _)⟩;exact ZbT (m:=max L.length M.length) p1 (by lia) (fun j hj=>tl.more j (by lia)) (fun j hj=>tm.more j (by lia)) k (by lia)
def xt(K:W.Frag)(a:Adr):Sp:=fun vs H Q _=>Ex5 fun(ls l1:Addr) (p:Nat) (L:List Bool) (f:Nat->Bool)=>Cj6 (vs=[.ref ls,.int (p:Nat)]) (H ls=some (.lst [.ref l1])) (H l1=some (.lst (L.map V.bl))) (ZS p L f) (L.length<=50000) (∀H' q (L':List Bool),Zg H H'->H' q=some (.lst (L'.map V.bl))->ZS p L' (fun k=>!f k)->L'.length<=L.length->Q (.ref q) H')
theorem K6:Okd P w K mg base a 1 a.y39 a.z39 dq xt:=fun T hw=>by
 refine okF T.bG.f KF fun dn A outer s H vs Q E hr h=>?_;obtain⟨ls,l1,p,L,f,rfl,hs,h1,tl,b1,k⟩:=h;refine⟨_,(Zf (Zm (Ya (Nc:=["truth"]) (ix:=[none]) (ZX.of (by left:ZZ (Zj UZ) ["lines","size"] _ _ _=true)) rfl (ZQ (K:=K) rfl (Zq (Zk (K:=K) rfl) (pv 0) Ze (fun _ _=>rfl))) (fun _ _ _ _ _=>(Zz (i:=0) (show δ (["truth"]:List Str) by left) rfl (.inl rfl))) (fun _ _ _ _ _=>Ys) (fun _ _ _ _ _=>(Zdt (pv 0)))))),?_⟩;refine⟨_,rfl,ls,_,_,_,rfl,rfl,nS hs,Zh (j:=0) rfl,l1,rfl,⟨_,nS h1⟩,fun D hD=>?_⟩;refine We L V.bl (fun b=>.bl (!b)) hD (nS h1) (by rw[fJ];lia) ?_ ?_
 ·intro b hb G N sG hN;exact⟨_,rfl,_,rfl,hN _ (.refl _)⟩
 intro H1 e1 s1;refine k H1 D (L.map Bool.not) s1 (by rw[e1,fR];rfl) tl.not (by rw[fF];exact fH _)
def yj(K:W.Frag)(a:Adr):Sp:=fun vs H Q _=>Ex5 fun(ls l1:Addr) (p:Nat) (L:List Bool) (f:Nat->Bool)=>Cj6 (vs=[.ref ls,.int (p:Nat)]) (H ls=some (.lst [.ref l1])) (H l1=some (.lst (L.map V.bl))) (ZS p L f) (L.length<=50000) (∀H' q (L':List Bool),Zg H H'->H' q=some (.lst (L'.map V.bl))->ZS p L' (fun k=>f (k+1))->L'.length<=L.length->Q (.ref q) H')
theorem kZ:Okd P w K mg base a 2 a.y41 a.z41 dq yj:=fun T hw=>by
 refine okF T.bz.f kU fun dn A outer s H vs Q E hr h=>?_;obtain⟨ls,l1,p,L,f,rfl,hs,h1,tl,b1,k⟩:=h;refine⟨_,(Zf (Zm (Z1 (YI (K:=K) rfl) (ZK T.aW (Vq T hw) hr rfl rfl (@ZC _ _ _ _ _ (Zq (Zk (K:=K) rfl) (pv 0) Ze (fun _ _=>rfl)) (@ZC _ _ _ _ _ (Zv Z5 (Zp (Zy (K:=K) rfl) rfl T.av nX (Za (Zq (Zk (K:=K) rfl) (pv 0) Ze (fun _ _=>rfl)) Zb rfl)) Ze) (@ZC _ _ _ _ _ (pv 1) Zb rfl) rfl) rfl)) (Z4 Ze) Yr))),?_⟩;have em:((L.length:Nat):Int)+1=((L.length+1:Nat):Int):=by lia
 refine⟨_,rfl,ls,_,_,_,rfl,rfl,nS hs,Zh (j:=0) rfl,_,rfl,ls,_,_,_,rfl,rfl,nS hs,Zh (j:=0) rfl,.inl ⟨l1,_,rfl,.inl (nS h1),_,_,rfl,rfl,_,rfl,l1,L.length+1,p,L,f,by rw[fF,em];rfl,h1,tl,by lia,by lia,fun H1 q1 L' s1 FD e1 rL Oe=>?_⟩⟩;refine⟨1,rfl,q1,_,rfl,nS e1,fun q hq=>?_⟩;have RE:L'.length=L.length+1:=by lia
 have ec:=Vw (L'.map V.bl) 1 (by rw[fF];lia);rw[show((1:Nat):Int)=1 from rfl] at ec;rw[ec,<- m5];exact k _ q (L'.drop 1) (s1.trans (Zi hq)) Zd (rL.next RE tl.le tl.more) (by rw[gQ];lia)
def qy(K:W.Frag)(a:Adr):Sp:=fun vs H Q _=>Ex5 fun(ls l1:Addr) (p:Nat) (L:List Bool) (f:Nat->Bool)=>Cj6 (vs=[.ref ls,.int (p:Nat)]) (H ls=some (.lst [.ref l1])) (H l1=some (.lst (L.map V.bl))) (ZS p L f) (L.length<=50000) (∀H' q (L':List Bool),Zg H H'->H' q=some (.lst (L'.map V.bl))->ZS p L' (Zbq f)->L'.length<=L.length+1->Q (.ref q) H')
theorem vc:Okd P w K mg base a 1 a.y43 a.z43 dq qy:=fun T hw=>by
 refine okF T.bc.f vU fun dn A outer s H vs Q E hr h=>?_;obtain⟨ls,l1,p,L,f,rfl,hs,h1,tl,b1,k⟩:=h;refine⟨_,(Zf (Zm (Zv JN (Z7 (Za VM Zb rfl)) (Zq (Zk (K:=K) rfl) (pv 0) Ze (fun _ _=>rfl))))),?_⟩;refine⟨sz1,fun D hD=>?_⟩;refine Xh hD fun H1 s1 e1=>?_;refine⟨_,rfl,ls,_,_,_,rfl,rfl,nS (s1 _ _ hs),Zh (j:=0) rfl,D,l1,_,_,rfl,rfl,e1,s1 _ _ h1,by rw[fF,fJ];show 1+L.length<=16777216;lia,fun q hq=>?_⟩;exact k _ q (false::L) (s1.trans (Zi hq)) Zd tl.before (fH _)
def jd(K:W.Frag)(a:Adr):Sp:=fun vs H Q _=>Ex4 fun(l:Addr) (p:Nat) (L:List Bool) (f:Nat->Bool)=>Cj5 (vs=[.ref l,.int (p:Nat)]) (H l=some (.lst (L.map V.bl))) (ZS p L f) (L.length<=1000000) (∀H' q L',Zg H H'->H q=none->H' q=some (.lst (L'.map V.bl))->ZS p L' f->L'.length<=L.length->Q (.ref q) H')
theorem QG:Okd P w K mg base a 1 a.y36 a.z36 eJ jd:=fun T hw=>by
 refine okX T.cB.f zD fun dn A outer s H E hr=>?_;intro X;have hK:X.K=K:=rfl
 let d1:Rdg X qP [1]:=⟨_,(Zc (qj gE (PW.pt (zC (Zn ZaT (pv 2) (pv 1) (Zx _)) (UY (Zn ZO (Zq (Zk hK) (pv 0) (Zv yO (pv 2) Ze) (fun _ _=>rfl)) (Zq (Zk hK) (pv 0) (Zv yO (Zv yO (pv 2) Ze) (pv 1)) (fun _ _=>rfl)) (Zx _))))) (Zf (ZgP (i:=2) zD.nd rfl (.inl rfl) Ze Zgh))) (Zf (Zm (Z1 (YI hK) (pv 0) Yr (Z4 (pv 2))))))⟩
 intro vs Q h;obtain⟨l,p,L,f,rfl,hl,tl,ll,k⟩:=h;refine⟨_,(Zc (Zo (i:=2) zD.nd rfl (.inl rfl) (Zp (Zy hK) rfl T.av nX (Za (pv 0) Zb rfl)) rfl (.inl rfl)) d1.2),?_⟩;refine⟨_,rfl,.inl ⟨l,_,rfl,.inl (nS hl),?_⟩⟩;rw[fF];have p1:=tl.p1;have pl:=tl.le;refine⟨fun m U G=>G=H/\∃e:Nat,U=[qr0 l,some (.int (p:Nat)),some (.int (e:Nat))]/\e<=L.length/\ZS p (L.take e) f/\m=e,⟨L.length,rfl,L.length,rfl,fH _,by rw[lI];exact tl,rfl⟩,?_⟩;rintro m U G ⟨rfl,e,rfl,le,te,rfl⟩;have pe:=te.le;rw[fN] at pe;have stop:∀q,G q=none->Q (.ref q) (upd G q (.lst (Xc (L.map V.bl) none (some (m:Int))))):=fun q hq=>by
  rw[qV,<- iW];exact k _ q _ (Zi hq) hq Zd te (by rw[fN];lia)
 refine⟨_,rfl,_,rfl,_,_,rfl,rfl,_,rfl,YY (fun c=>?_) (fun c=>Yn ?_)⟩
 ·have c1:p<m:=by have:=ge c;lia
  have i1:((m:Int)-1)=((m-1:Nat):Int):=by lia
  have i2:((m-1:Nat):Int)-(p:Int)=((m-1-p:Nat):Int):=by lia
  have g1:atI (L.map V.bl) ((m-1:Nat):Int)=some (.bl (L[m-1]'(by lia))):=Zh (by rw[fO,fG (show m-1<L.length by lia)];rfl);have g2:atI (L.map V.bl) ((m-1-p:Nat):Int)=some (.bl (L[m-1-p]'(by lia))):=Zh (by rw[fO,fG (show m-1-p<L.length by lia)];rfl);refine⟨_,rfl,_,rfl,_,_,rfl,rfl,l,_,_,_,rfl,rfl,nS hl,by rw[i1];exact g1,_,rfl,_,rfl,_,_,rfl,rfl,_,rfl,_,_,rfl,rfl,l,_,_,_,rfl,rfl,nS hl,by rw[i1,i2];exact g2,rfl,_,rfl,YY (fun c2=>?_) (fun c2=>?_)⟩
  ·have c3:L[m-1]'(by lia)=L[m-1-p]'(by lia):=V.bl.inj (ge c2);refine⟨fun U F=>F=G/\U=[qr0 l,some (.int (p:Nat)),some (.int ((m-1:Nat)))],?_,?_⟩
   ·rintro σ' G' ⟨hF,rfl⟩;refine⟨m-1,by lia,hF,m-1,rfl,by lia,?_,rfl⟩;obtain⟨n,rfl⟩:∃n,m=n+1:=⟨m-1,by lia⟩;exact ZS.cut te (by lia) (by lia) c3
   ·refine⟨_,rfl,_,_,rfl,rfl,rfl,?_⟩
    show[some (V.ref l),some (V.int (p:Nat)),some (V.int ((m:Int)-1))]=_
    rw[i1]
  ·exact⟨_,rfl,_,rfl,_,rfl,l,_,rfl,nS hl,stop⟩
 ·exact⟨_,rfl,_,rfl,_,rfl,l,_,rfl,nS hl,stop⟩
def yY(c:Lb)(is:List Nat):List Nat:=match c with
 |.op w=>if w = "some" then[] else is
 |_=>is
theorem Zd8(ok:Yi c is.length)(nw:∀m,c≠.wit m):(Zu c∈(["yes","sign","some"]:List Str)/\yY c is=[])\/(Zu c∉(["yes","sign","some"]:List Str)/\(XJ c is).map kV=.str (Zu c)::iV is/\yY c is=is):=by
 cases c with
 |yes=>exact .inl ⟨by simp[Zu],gX.mp ok⟩
 |sign z=>exact .inl ⟨by simp[Zu],gX.mp ok.1⟩
 |wit m=>exact ot rfl (nw m)
 |op w=>
  by_cases h:w = "some"
  ·subst h;exact .inl ⟨by simp[Zu],by show(if("some" : Str) = "some" then[] else is)=[];rw[oq rfl]⟩
  ·have wa:=W4 w (zX ok);refine .inr ⟨?_,by rw[<- KU];rfl,oo h⟩;simp only[Zu,fU,gN,gO];exact fun z=>z.elim wa.1 fun z=>z.elim wa.2.1 h
 |many w=>
  refine .inr ⟨?_,by rw[<- KU];rfl,rfl⟩;rcases ok.1 with rfl|rfl<;>left
def Zdj(K:W.Frag)(a:Adr):Sp:=fun vs H Q _=>Ex3 fun(b:Addr) (c:Lb) (is:List Nat)=>Cj5 (vs=[.ref b]) (SqT K H b ((XJ c is).map kV)) (Yi c is.length) ((∀m,c≠.wit m)) (∀H' b',Zg H H'->SqT K H' b' (iV (yY c is))->Q (.ref b') H')
theorem Zee:Okd P w K mg base a 1 a.y19 a.z19 ["row"] Zdj:=fun T hw=>by
 refine okF T.cO.f Zem fun dn A outer s H vs Q E hr h=>?_;obtain⟨b,c,is,rfl,hb,ok,nw,k⟩:=h;refine⟨_,(Zf (Zm (KM (Zn (WJ (K:=K) rfl) (Zq (ZD (K:=K) rfl) (pv 0) Ze (fun _ _=>rfl)) (ZH (@ZC _ _ _ _ _ Zl (@ZC _ _ _ _ _ Zl (@ZC _ _ _ _ _ Zl Zb rfl) rfl) rfl)) (by with_unfolding_all rfl)) (ZH Zb) (Z1 (WW (K:=K) rfl) (pv 0) (Z4 Ze) Yr)))),?_⟩;obtain⟨r0,Rl⟩:=yc (c:=c) (is:=is);have hb0:SqT K H b (.str (Zu c)::r0.map kV):=by rw[Rl] at hb;exact hb
 refine⟨_,rfl,b,_,_,_,rfl,rfl,hb0,Zh (j:=0) rfl,zl,fun q hq=>⟨q,_,rfl,.inr (nU Zd),rfl,rfl,_,rfl,?_⟩⟩;have s1:=Zi (o:=.tup [.str "yes",.str "sign",.str "some"]) hq;generalize upd H q (.tup [.str "yes",.str "sign",.str "some"])=H1 at s1 ⊢;rcases Zd8 ok nw with⟨h1,h2⟩|⟨h1,h2,h3⟩
 ·refine zj (ss:=["yes","sign","some"]) h1 ⟨zl,fun e he=>?_⟩;rw[h2] at k;exact k _ e (s1.trans (Zi he)) (nU Zd)
 ·refine XM (ss:=["yes","sign","some"]) h1 ?_;rw[h2] at hb;refine⟨_,rfl,_,rfl,b,_,rfl,(nT s1 _ _ _ hb),UD (by left) (by simp;lia),fun e he=>?_⟩;rw[qp];rw[h3] at k;exact k _ e (s1.trans (Zi he)) (nU Zd)
theorem JL{l:Expr}(hK:X.K=K)(hl:PE X l tl):PI X tg l (ZhM K tl):=by subst hK;exact ZdQ hl
def qY(ps:List Tr)(is:List Nat)(ts:List Tr):Prop:=is.length=ts.length/\∀(j:Nat) m s,is[j]?=some m->ts[j]?=some s->ps[m]?=some s
theorem Ul{m:Nat}{s:Tr}:qY ps (m::is) (s::ts)↔ps[m]?=some s/\qY ps is ts:=by
 constructor
 ·rintro⟨h1,h2⟩;exact⟨h2 0 m s rfl rfl,by simpa using h1,fun j m' s' e1 e2=>h2 (j+1) m' s' (by simpa using e1) (by simpa using e2)⟩
 ·rintro⟨h0,h1,h2⟩;refine⟨by simp[h1],fun j m' s' e1 e2=>?_⟩;cases j with
  |zero=>
   have a:m=m':=by simpa using e1
   have b:s=s':=by simpa using e2
   rw[<- a,<- b];exact h0
  |succ j=>exact h2 j m' s' (by simpa using e1) (by simpa using e2)
theorem ZdP{js:List Nat}{rs:List Tr}(h:qY ps is ts)(g:qY ps js rs):qY ps (is++js) (ts++rs):=by
 refine⟨by rw[fK,fK,h.1,g.1],fun i u k h1 h2=>?_⟩
 by_cases hi:i<is.length
 ·rw[gv hi] at h1;rw[gv (by rw[<- h.1];exact hi)] at h2;exact h.2 i u k h1 h2
 ·rw[gx (by lia)] at h1;rw[gx (by rw[<- h.1];lia),<- h.1] at h2;exact g.2 _ u k h1 h2
theorem KP{m:Nat}{s:Tr}(h:ps[m]?=some s):qY ps [m] [s]:=Ul.mpr ⟨h,rfl,fun j a b e=>by simp at e⟩
theorem jr{ps:List Tr}(nd:ps.Nodup):∀{fs:List Nat}{F:List Tr},qY ps fs F->∀{m:Nat}{s:Tr},ps[m]?=some s->(m∈fs↔s∈F)
 |[],[],_,m,s,_=>by simp
 |[],_::_,h,_,_,_=>by have:=h.1;simp at this
 |_::_,[],h,_,_,_=>by have:=h.1;simp at this
 |a::fs,t::F,h,m,s,hm=>by
  obtain⟨h1,h2⟩:=Ul.mp h;rw[fU,fU,jr nd h2 hm];constructor
  ·rintro(e|e)
   ·refine .inl ?_;rw[e,h1] at hm;exact(fW hm).symm
   ·exact .inr e
  ·rintro(e|e)
   ·refine .inl ?_;rw[e] at hm;exact zq nd hm h1
   ·exact .inr e
theorem Zam{t:Tr}(h:qY ps is t.ks):qY ps (yY t.lb is) (Y4 t):=by
 unfold yY Y4;cases t.lb with
 |op w=>
  show qY ps (if w = "some" then[] else is) (if w = "some" then[] else t.ks)
  split
  ·exact⟨rfl,fun j m s e=>by simp at e⟩
  ·exact h
 |yes=>exact h
 |sign z=>exact h
 |wit m=>exact h
 |many w=>exact h
theorem xV{ps:List Tr}(nd:ps.Nodup){fs:List Nat}{F:List Tr}(hF:qY ps fs F):∀{bi:List Nat}{ks:List Tr},qY ps bi ks ->
  (bi.filter (fun m=>!decide (m∈fs))=[]/\∀k∈ks,k∈F)\/∃a1 XO A k B,bi.filter (fun m=>!decide (m∈fs))=a1::XO/\ks=A++k::B/\(∀x∈A,x∈F)/\ps[a1]?=some k/\k∉F
 |[],[],_=>.inl ⟨rfl,fun k h=>by cases h⟩
 |[],_::_,h=>by have:=h.1;simp at this
 |_::_,[],h=>by have:=h.1;simp at this
 |m::bi,k::ks,h=>by
  obtain⟨h1,h2⟩:=Ul.mp h;have hm:=jr nd hF h1
  by_cases hk:m∈fs
  ·have e:(m::bi).filter (fun m=>!decide (m∈fs))=bi.filter (fun m=>!decide (m∈fs)):=mJ (by simp[hk]);rw[e];rcases xV nd hF h2 with⟨g1,g2⟩|⟨a1,XO,A,k',B,g1,g2,g3,g4,g5⟩
   ·exact .inl ⟨g1,fun x hx=>by rcases fU.mp hx with rfl|hx;exact hm.mp hk;exact g2 x hx⟩
   ·exact .inr ⟨a1,XO,k::A,k',B,g1,by rw[g2];rfl,fun x hx=>by rcases fU.mp hx with rfl|hx;exact hm.mp hk;exact g3 x hx,g4,g5⟩
  ·have e:(m::bi).filter (fun m=>!decide (m∈fs))=m::bi.filter (fun m=>!decide (m∈fs)):=mI (by simp[hk]);exact .inr ⟨m,_,[],k,ks,e,rfl,fun x hx=>(by cases hx),h1,fun z=>hk (hm.mpr z)⟩
theorem xY(a b:List Nat):iV (a++b)=iV a++iV b:=by unfold iV;rw[gp]
def INv(H:Hp)(r Fd Sn W:Addr)(i:Nat)(ps tQ:List Tr)(m:Nat)(U:L3.St)(H':Hp):Prop:=∃(z1 z2:Option V) (ws fs:List Nat) (w F:List Tr) (S:Int->Bool),U=[qr0 r,some (.int (i:Int)),qr0 Fd,qr0 Sn,qr0 W,z1,z2]/\Zg H H'/\H' Fd=some (.lst (iV fs))/\H' Sn=some (.set S fs.length)/\H' W=some (.lst (iV ws.reverse))/\qY ps ws w/\qY ps fs F/\(∀q:Nat,S (q:Int)=true↔q∈fs)/\qK F/\vi w F=tQ/\yX w/\(∀s∈w,s∉F)/\(∀s∈w,psz s<=2000000)/\m=(tQ.length-F.length)*2000001+(2000000-w.length)
def U4(K:W.Frag)(a:Adr):Sp:=fun vs H Q _=>Ex7 fun r P R D ps t (i:Nat)=>Cj7 (vs=[.ref r,.int (i:Int)]) (TbY K a.Pm a.C_Table H r P R D ps) (ps[i]?=some t) ((∀s∈ps,isC s=true)) (psz t<=2000000) ((Zs [] (ZN t)).length<4000) (∀H' L is,Zg H H'->H L=none->H' L=some (.lst (iV is))->qY ps is (Zs [] (ZN t))->Q (.ref L) H')
theorem UL:Okd P w K mg base a 2 a.y18 a.z18 dE U4:=fun T hw=>by
 refine okX T.az.f Yg fun dn A outer s H E hr=>?_;intro X;have hK:X.K=K:=rfl
 let d1:Rdg X ZE [3,0,2,0,0]:=⟨_,(Zf (Yj (XE gA gH gI Z0 (pv 4) (Za (Zq (Zk hK) (pv 6) Ze (fun _ _=>rfl)) Zb rfl)) rfl))⟩
 let d2:Rdg X ZE [3,0,2,1,0]:=⟨_,(Zc (Yj (XE gA gH gI Z0 (pv 2) (Za (Zcm gA PySem.F.slot_list_pop PySem.F.type_list_pop ZeC (pv 4)) Zb rfl)) rfl) (Zf (Yj (XE PySem.F.plainAttrs_set PySem.F.slot_set_add PySem.F.type_set_add Zb5 (pv 3) (Za (pv 5) Zb rfl)) rfl)))⟩
 let d3:Rdg X ZE [3,0,2]:=⟨_,(Zf (ZJ (Wk hK (pv 6) (fun _=>rfl)) d1.2 d2.2))⟩
 let d4:Rdg X ZE [3,0,1]:=⟨_,(Zc (Wh (i:=6) Yg.nd rfl rfl (Nc:=["inner","seen"]) (ix:=[none,some 3]) (ZX.of (by left:ZZ (Zj ZE) WG _ _ _=true)) rfl (JL hK (ZK T.cO (Zee T hw) hr rfl rfl (Za (Zq (Zk hK) (ZU hK (pv 0) rfl) (pv 5) (fun _ _=>rfl)) Zb rfl))) (fun _ _ _ _ _=>(Zz (i:=0) (show δ (["inner","seen"]:List Str) by left) rfl (.inl rfl))) (fun _ _ _ _ _=>(UK (Zn ZbZ (pv 0) (pv 1) (by with_unfolding_all rfl)))) (fun _ _ _ _ _=>(pv 0))) d3.2)⟩
 let d5:Rdg X ZE [3,0,0]:=⟨_,(Zc (Zo (i:=5) Yg.nd rfl (.inl rfl) (Zq (Zk hK) (pv 4) (VY WB Ze) (fun _ _=>rfl)) rfl (.inl rfl)) d4.2)⟩
 let d6:Rdg X ZE [3]:=⟨_,(Zc (qj gE (Wk hK (pv 4) (fun _=>rfl)) d5.2) (Zf (Zm (pv 2))))⟩
 let d7:Rdg X ZE [2]:=⟨_,(Zc (Zo (i:=4) Yg.nd rfl (.inl rfl) (Z7 (Za (pv 1) Zb rfl)) rfl (.inl rfl)) d6.2)⟩
 let d8:Rdg X ZE [1]:=⟨_,(Zc (Zo (i:=3) Yg.nd rfl (.inr rfl) (QU ZbG rfl T.de oj) rfl (.inl rfl)) d7.2)⟩
 intro vs Q h;obtain⟨r,P,R,D,ps,t,i,rfl,tb,hi,hc,hz,oG,k⟩:=h;refine⟨_,(Zc (Zo (i:=2) Yg.nd rfl (.inl rfl) (Z7 Zb) rfl (.inl rfl)) d8.2),?_⟩;refine⟨by left,fun Fd Ew=>?_⟩;have s1:=Zi (o:=.lst []) Ew;have e1:(upd H Fd (.lst [])) Fd=some (.lst (iV [])):=Zd;generalize upd H Fd (.lst [])=H1 at s1 e1 ⊢;refine⟨rfl,fun Sn B9=>?_⟩;have s2:=Zi (o:=.set (fun _=>false) 0) B9;have e2:(upd H1 Sn (.set (fun _=>false) 0)) Sn=some (.set (fun _=>false) 0):=Zd;have wR:=s2 _ _ e1;have GF:=s1.free B9;generalize upd H1 Sn (.set (fun _=>false) 0)=H2 at s2 e2 wR ⊢;refine⟨_,rfl,zl,fun W hW=>?_⟩;have s3:=Zi (o:=.lst [.int (i:Int)]) hW;have e3:(upd H2 W (.lst [.int (i:Int)])) W=some (.lst (iV [i].reverse)):=Zd;have AH:=s3 _ _ wR;have C7:=s3 _ _ e2;have ue:=(s1.trans s2).free hW;have Ae:Fd≠W:=fun e=>by rw[e] at wR;rw[wR] at hW;cases hW
 have A6:Sn≠W:=fun e=>by rw[e] at e2;rw[e2] at hW;cases hW
 have IZ:Fd≠Sn:=fun e=>by rw[e] at e1;rw[e1] at B9;cases B9
 generalize upd H2 W (.lst [.int (i:Int)])=H3 at s3 e3 AH C7 ⊢;have C9:=s1.trans (s2.trans s3);clear s1 e1 s2 e2 wR s3 B9 hW;have nd:=tb.nd;generalize htgt:Zs [] (ZN t)=tQ at k oG;refine⟨INv H r Fd Sn W i ps tQ,⟨_,none,none,[i],[],[t],[],fun _=>false,rfl,C9,AH,C7,e3,KP hi,⟨rfl,fun j m s e=>by simp at e⟩,fun q=>by simp,Zau,htgt,trivial,fun s _ z=>(by cases z),fun s hs=>by rw[gn.mp hs];exact hz,rfl⟩,?_⟩;clear AH C7 e3 C9 H3;rintro m U H3 ⟨z1,z2,ws,fs,w,F,S,rfl,s3,BD,FU,uu,nw,nf,hS,cl,rF,se,uF,t9,rfl⟩;refine⟨_,rfl,!(iV ws.reverse).isEmpty,.inl ⟨_,nS uu,rfl⟩,?_⟩;cases ws with
 |nil=>
  have ew:w=[]:=gX.mp nw.1.symm;subst ew;refine Yn ?_;have eF:F=tQ:=rF;rw[eF] at nf;exact⟨_,rfl,k H3 Fd fs s3 Ew BD nf⟩
 |cons a0 ws=>
  cases w with
  |nil=>have:=nw.1;simp at this
  |cons t0 w=>
   obtain⟨Br,Ij⟩:=Ul.mp nw;have Fs:iV (a0::ws).reverse=iV ws.reverse++[.int (a0:Int)]:=by rw[l3,xY];rfl
   rw[Fs] at uu ⊢;have Sa:(iV ws.reverse++[V.int (a0:Int)]).isEmpty=false:=by simp
   rw[Sa];refine YM ⟨fun σ' H'=>∃m',m'<(tQ.length-F.length)*2000001+(2000000-(t0::w).length)/\INv H r Fd Sn W i ps tQ m' σ' H',fun _ _ z=>z,?_⟩;refine⟨_,rfl,_,rfl,W,_,_,.int (a0:Int),rfl,rfl,nS uu,yx,?_⟩;have rK:=tb.mono s3;obtain⟨dx,ho⟩:=rK.obj;obtain⟨np,pv,hP,aP⟩:=rK.pl;obtain⟨rows,hR,rl,Aq,Az,hD⟩:=rK.rk hc;have ha0:a0<ps.length:=(fP.mp Br).1;have Ba:rows[a0]?=some rows[a0]:=fG (by lia);have hb:=Aq _ (gC (show a0<rows.length by lia));obtain⟨Eu,Hv,Oz,T6⟩:=Az a0 t0 _ Br Ba;have A9:(rows.map fun e=>V.ref e.2)[a0]?=some (V.ref rows[a0].2):=by rw[fO,Ba];rfl
   generalize rows[a0].2=b at hb A9;have HJ:t0∈ps:=gk Br;have uS:=aP.oks t0 HJ;have FL:∀m,t0.lb≠.wit m:=fun m e=>by
    have h1:=hc t0 HJ;rw[Tr.eta t0,Vc,e] at h1;unfold yP at h1;simp at h1
   rw[T6] at hb;have n0:qY ps Eu t0.ks:=⟨Hv,fun j m s e1 e2=>Oz j s m e2 e1⟩;have nb:=Zam n0;refine⟨_,rfl,r,_,dx,_,_,rfl,ho,T.ai,T.ao,lkR,_,rfl,R,_,_,_,rfl,rfl,nS hR,Zh A9,b,t0.lb,Eu,rfl,hb,by rw[Hv];exact uS,FL,fun H4 b' s4 CZ=>⟨b',rfl,⟨_,CZ⟩,fun Dc sx=>?_⟩⟩;generalize yY t0.lb Eu=bi at nb CZ;have Bf:bi.length<=8:=by
    have h1:=nb.1;have h2:(Y4 t0).length<=t0.ks.length:=by
     unfold Y4
     split
     ·split
      ·simp
      ·exact fH _
     ·exact fH _
    have:=lb8 uS;lia
   have SK:=s3.trans s4;have CW:=s4 _ _ FU;refine WL (n:=bi.length) (fun j σ' H'=>∃z,σ'=[z,qr0 Sn]/\H' Dc=some (.lst (iV ((bi.take j).filter (fun m=>!decide (m∈fs)))))/\Zg H4 H') ?_ ?_ ?_ ?_ ?_
   ·exact⟨none,rfl,Zd,Zi sx⟩
   ·rintro j σ' H' hj ⟨z,rfl,_,sj⟩;exact⟨iV bi,(iV bi)[j]'(by rw[Xt];exact hj),Zg.seqT sj CZ,fG (by rw[Xt];exact hj)⟩
   ·rintro σ' H' ⟨z,rfl,_,sj⟩;exact⟨_,Zg.seqT sj CZ,by rw[Xt];exact fH _⟩
   ·rintro j x σ' H' H5 hj ⟨z,rfl,Nd,sj⟩ ⟨rfl,hx⟩ N N0 hN o5;have B5:=hx _ (Zg.seqT sj CZ);have HL:bi[j]?=some bi[j]:=fG hj;have ex:x=V.int ((bi[j]:Nat):Int):=by
     unfold iV at B5;rw[fO,HL] at B5;exact(fW B5).symm
    subst ex;have sL:(bi.take (j+1))=bi.take j++[bi[j]]:=by rw[mD,HL];rfl
    refine⟨_,rfl,_,rfl,_,Sn,S,_,rfl,rfl,sj _ _ CW,_,rfl,?_⟩
    by_cases hm:bi[j]∈fs
    ·have Fy:S ((bi[j]:Nat):Int)=true:=(hS _).mpr hm;rw[Fy];refine Yn (o5 _ _ ⟨_,rfl,?_,sj⟩);rw[sL,mS,mJ (by simp[hm]),nt,iu];exact Nd
    ·have Fy:S ((bi[j]:Nat):Int)=false:=by
      cases h:S ((bi[j]:Nat):Int) with
      |false=>rfl
      |true=>exact ot ((hS _).mp h) hm
     rw[Fy];refine YM ⟨_,rfl,hN _ _ _ _ Nd ?_ ⟨_,rfl,?_,?_⟩⟩
     ·rw[Xt,fJ];have:=mw (fun m=>!decide (m∈fs)) (bi.take j);rw[fN] at this;lia
     ·rw[Zd,sL,mS,mI (by simp[hm]),nt,xY];rfl
     ·exact((Zg.x sj).upd).same sx
   rintro σ' H5 ⟨z,rfl,wV,s5⟩;rw[iB (fH _)] at wV;have MV:=SK.trans s5;have A1:=s5 _ _ (s4 _ _ uu);have AE:=s5 _ _ (s4 _ _ BD);have CC:=s5 _ _ CW;have lch:=kr se t9;have MO:=vC (t0::w) F;rw[rF] at MO;obtain⟨Bt,eBt⟩:=MO;have hFl:F.length<=tQ.length:=by rw[eBt,fK];lia
   have hfl:=nf.1;refine⟨_,rfl,!(iV (bi.filter fun m=>!decide (m∈fs))).isEmpty,.inl ⟨_,nS wV,rfl⟩,?_⟩;rcases xV nd nf nb with⟨g1,g2⟩|⟨a1,XO,A,kk,B,g1,g2,g3,g4,g5⟩
   ·rw[g1];refine Yn ?_;obtain⟨p1,p2⟩:=ZeQ cl g2 (uF t0 (by simp));refine⟨_,rfl,.inl ⟨rfl,_,nS AE⟩,_,rfl,.inl ⟨rfl,_,nS A1⟩,W,_,.int (a0:Int),rfl,rfl,A1,by rw[fK,gz,Nat.add_sub_cancel,gx (fH _),ij];rfl,?_⟩;rw[List.dropLast_concat];have BA:(upd H5 W (.lst (iV ws.reverse))) Fd=some (.lst (iV fs)):=WF AE Ae;have CJ:(upd H5 W (.lst (iV ws.reverse))) Sn=some (.set S fs.length):=WF CC A6;have A2:(upd H5 W (.lst (iV ws.reverse))) W=some (.lst (iV ws.reverse)):=Zd;have Mr:Zg H (upd H5 W (.lst (iV ws.reverse))):=((Zg.x MV).upd).same ue;generalize upd H5 W (.lst (iV ws.reverse))=H6 at BA CJ A2 Mr ⊢;refine⟨Fd,_,_,rfl,rfl,BA,by rw[Xt,fJ];lia,?_⟩;have B1:(upd H6 Fd (.lst (iV fs++[.int (a0:Int)]))) Fd=some (.lst (iV (fs++[a0]))):=by rw[Zd,xY];rfl
    have Ap:(upd H6 Fd (.lst (iV fs++[.int (a0:Int)]))) Sn=some (.set S fs.length):=WF CJ (fX IZ);have Cu:(upd H6 Fd (.lst (iV fs++[.int (a0:Int)]))) W=some (.lst (iV ws.reverse)):=WF A2 (fX Ae);have Lj:Zg H (upd H6 Fd (.lst (iV fs++[.int (a0:Int)]))):=((Zg.x Mr).upd).same Ew;generalize upd H6 Fd (.lst (iV fs++[.int (a0:Int)]))=H7 at B1 Ap Cu Lj ⊢;refine⟨_,rfl,.inr (.inr (.inr ⟨rfl,_,_,Ap⟩)),_,rfl,Sn,S,fs.length,(a0:Int),rfl,rfl,Ap,by lia,?_⟩;have DV:S (a0:Int)=false:=by
     cases h:S (a0:Int) with
     |false=>rfl
     |true=>exact ot ((jr nd nf Br).mp ((hS a0).mp h)) (uF t0 (by simp))
    rw[DV];have NS:(F++[t0]).length<=tQ.length:=by
     have sP:vi w (F++[t0])=tQ:=by rw[<- p1];exact rF
     obtain⟨B2,e2⟩:=vC w (F++[t0]);rw[sP] at e2;rw[e2];simp
    have lF2:(F++[t0]).length=F.length+1:=by rw[fK,gz]
    refine⟨_,?_,_,_,ws,fs++[a0],w,F++[t0],fun j=>S j||decide (j=(a0:Int)),rfl,((Zg.x Lj).upd).same GF,WF B1 IZ,?_,WF Cu (fX A6),Ij,ZdP nf (KP Br),?_,p2,by rw[<- p1];exact rF,?_,?_,fun s hs=>t9 s (fT _ hs),rfl⟩
    ·rw[gu] at lch ⊢;lia
    ·rw[Zd,fK,gz];rfl
    ·intro q;rw[gj,gn,ni,hS,hU];constructor
     ·rintro(h|h)
      ·exact .inl h
      ·exact .inr (by lia)
     ·rintro(h|h)
      ·exact .inl h
      ·exact .inr (by lia)
    ·cases w with
     |nil=>trivial
     |cons s r=>exact se.2
    ·intro s hs z;rcases gj.mp z with z|z
     ·exact uF s (fT _ hs) z
     ·have:=jV se s hs;rw[gn.mp z] at this;lia
   ·rw[g1];refine YM ?_;rw[g1] at wV;obtain⟨p1,p2⟩:=Zdy cl g2 g3;have kb:kk∈Y4 t0:=by rw[g2];simp
    have B4:yX (kk::t0::w):=⟨kb,se⟩;have B7:∀s∈kk::t0::w,psz s<=2000000:=fun s hs=>by
     rcases fU.mp hs with rfl|hs
     ·have:=Xg (XF kb);have:=t9 t0 (by simp);lia
     ·exact t9 s hs
    have Df:=kr B4 B7;refine⟨_,rfl,.inl ⟨rfl,_,nS A1⟩,_,rfl,Dc,_,_,.int (a1:Int),rfl,rfl,nS wV,Zh (j:=0) rfl,W,_,_,rfl,rfl,A1,by rw[fK,Xt,l5,gz,fJ];have:=Ij.1;simp at Df;lia,?_⟩;refine⟨_,?_,_,_,a1::a0::ws,fs,kk::t0::w,F,S,rfl,((Zg.x MV).upd).same ue,WF AE Ae,WF CC A6,?_,Ul.mpr ⟨g4,nw⟩,nf,hS,cl,?_,B4,?_,B7,rfl⟩
    ·simp only[gu] at Df ⊢;lia
    ·rw[Zd,l3,xY,l3,xY];rfl
    ·show vi w (Zs (Zs F (ZN kk)) (ZN t0))=tQ
     rw[p1];exact rF
    ·intro s hs;rcases fU.mp hs with rfl|hs
     ·exact g5
     ·exact uF s hs
theorem Zf6(h:Yi c n):n<=8:=by
 cases c with
 |yes=>have:n=0:=h;lia
 |sign z=>have:=h.1;lia
 |op w=>rcases h with h|h<;>lia
 |wit m=>have:=h.2;lia
 |many w=>exact h.2
def Zhy(K:W.Frag)(a:Adr):Addr->Sp->Prop:=fun f sp=>(f=a.y39/\sp=xt K a)\/(f=a.y40/\sp=xB K a)\/(f=a.y41/\sp=yj K a)\/(f=a.y42/\sp=zo K a)\/(f=a.y43/\sp=qy K a)\/(f=a.y44/\sp=zg K a)
def xH(K:W.Frag)(H:Hp)(d:WD)(st:Tr->List Int)(ts:List Tr)(j:Nat)(v:V)(t:Tr):Prop:=
 if xE t=true then ∃(b tb:Addr),v=.ref b/\SqT K H b [.str "at",.ref tb]/\SqT K H tb (((γ d.signs.length).map fun r:Nat=>Ww d st t (r:Nat)).map V.bl)
 else ∃(b:Addr) (is:List Nat),v=.ref b/\SqT K H b (.str (Zu t.lb)::is.map fun i:Nat=>V.int (i:Nat))/\is.length=t.ks.length/\∀(i:Nat) k m,t.ks[i]?=some k->is[i]?=some m->m<j/\ts[m]?=some k
theorem xH.mono{st:Tr->List Int}{t:Tr}(s:Yv H H')(h:xH K H d st ts j v t):xH K H' d st ts j v t:=by
 unfold xH at h ⊢
 by_cases c:xE t=true
 ·rw[oq c] at h ⊢;obtain⟨b,tb,e,g1,g2⟩:=h;exact⟨b,tb,e,s _ _ _ g1,s _ _ _ g2⟩
 ·rw[oo c] at h ⊢;obtain⟨b,is,e,g1,g2⟩:=h;exact⟨b,is,e,s _ _ _ g1,g2⟩
structure Zgq(K:W.Frag)(H:Hp)(d:WD)(st:Tr->List Int)(ts:List Tr)(rv:List V):Prop where
 len:rv.length=ts.length
 row:∀(j:Nat) v t,rv[j]?=some v->ts[j]?=some t->xH K H d st ts j v t
 c:∀t∈ts,isC t=true/\Yi t.lb t.ks.length
def ZaG(H:Hp)(d:WD)(st:Tr->List Int)(rm:Nat->Int)(p n0:Nat)(ts:List Tr)(vs:List V):Prop:=vs.length<=ts.length/\∀(j:Nat) v t,vs[j]?=some v->ts[j]?=some t->∃l L,v=.ref l/\H l=some (.lst (L.map V.bl))/\ZS p L (Yw d st rm t)/\L.length<=n0+(j+1)*(p+1)
structure ji(H:Hp)(rn:Addr)(n:Nat)(way ring:List Int):Prop where
 ex:∃W G,H rn=some (.tup [.ref W,.ref G])/\H W=some (.lst (way.map V.int))/\H G=some (.lst (ring.map V.int))
 ne:ring≠[]
 b:∀x∈way++ring,0<=x/\x<(n:Nat)
theorem ji.mono{rn:Addr}(s:Zg H H')(h:ji H rn n way ring):ji H' rn n way ring:=by
 obtain⟨W,G,h1,h2,h3⟩:=h.ex;exact⟨⟨W,G,s _ _ h1,s _ _ h2,s _ _ h3⟩,h.ne,h.b⟩
def JA(K:W.Frag)(a:Adr):Sp:=fun vs H Q _=>ZdO fun(R rn:Addr) (m:Nat) (rv:List V) (ts:List Tr) (t:Tr) (d:WD) (st:Tr->List Int) (way ring:List Int)=>Cj7 (vs=[.ref R,.ref rn,.int (m:Nat)]) (H R=some (.lst rv)) (Zgq K H d st (ts++[t]) rv) (ji H rn d.signs.length way ring) (m<=50000) ((way++ring).length+(ts.length+1)*(ring.length+1)<=50000) (∀H' q,Zg H H'->H q=none->H' q=some (.lst (((γ m).map (Yw d st (qb way ring) t)).map V.bl))->Q (.ref q) H')
theorem Jg:Okd P w K mg base a 4 a.y35 a.z35 eK JA:=fun T hw=>by
 refine okX T.bQ.f YX fun dn A outer s H E hr=>?_;intro X;have hK:X.K=K:=rfl
 let d1:Rdg X Yk [3,0,0,0,0]:=⟨_,(Zf (Wh (i:=8) YX.nd rfl rfl (Nc:=["room","row"]) (ix:=[none,some 7]) (ZX.of (by left:ZZ (Zj Yk) qJ _ _ _=true)) rfl (ZQ hK (Zv JN (pv 3) (pv 4))) (fun _ _ _ _ _=>(Zz (i:=0) (show δ (["room","row"]:List Str) by left) rfl (.inl rfl))) (fun _ _ _ _ _=>Ys) (fun _ _ _ _ _=>(Zq (ZD hK) (Zq (ZD hK) (pv 1) Ze (fun _ _=>rfl)) (pv 0) (fun _ _=>rfl)))))⟩
 let d2:Rdg X Yk [3,0,0,1,1]:=⟨_,(Zf (Zo (i:=8) YX.nd rfl (.inl rfl) (Zex (show Zf9 _ (Zhy K a) from fun f sp h=>by rcases h with⟨rfl,rfl⟩|⟨rfl,rfl⟩|⟨rfl,rfl⟩|⟨rfl,rfl⟩|⟨rfl,rfl⟩|⟨rfl,rfl⟩;exact⟨_,_,_,(K6 T hw),hr.mono (by left),T.bG.f.kp,T.bG.n⟩;exact⟨_,_,_,(Qp T hw),hr.mono (by left),T.bH.f.kp,T.bH.n⟩;exact⟨_,_,_,(kZ T hw),hr.mono (by left),T.bz.f.kp,T.bz.n⟩;exact⟨_,_,_,(jJ T hw),hr.mono (by left),T.bj.f.kp,T.bj.n⟩;exact⟨_,_,_,(vc T hw),hr.mono (by left),T.bc.f.kp,T.bc.n⟩;exact⟨_,_,_,(jP T hw),hr.mono (by left),T.bm.f.kp,T.bm.n⟩) Yh (pv 9) (Za (Ya (Nc:=["place","lines"]) (ix:=[none,some 6]) (ZX.of (by left:ZZ (Zj Yk) qJ _ _ _=true)) rfl (JL hK (Z1 (WW hK) (pv 7) (Z4 Ze) Yr)) (fun _ _ _ _ _=>(Zz (i:=0) (show δ (["place","lines"]:List Str) by left) rfl (.inl rfl))) (fun _ _ _ _ _=>Ys) (fun _ _ _ _ _=>(Zq (Zk hK) (pv 1) (pv 0) (fun _ _=>rfl)))) (Za (pv 5) Zb rfl) rfl)) rfl (.inl rfl)))⟩
 let d3:Rdg X Yk [3,0,0,1,0]:=⟨_,(Zc (Zo (i:=9) YX.nd rfl (.inl rfl) (Zq (ZeL (K:=K) (P:=a.Pm) rfl hw) (W9 (v:=.ref a.D_LINES) rfl ⟨_,T.cZ,rfl⟩) (Zq (ZD hK) (pv 7) Ze (fun _ _=>rfl)) (fun _ _=>rfl)) rfl (.inl rfl)) d2.2)⟩
 let d4:Rdg X Yk [3,0,1]:=⟨_,(Zf (Yj (XE gA gH gI Z0 (pv 6) (Za (ZK T.cB (QG T hw) hr rfl rfl (Za (pv 8) (Za (pv 5) Zb rfl) rfl)) Zb rfl)) rfl))⟩
 let d5:Rdg X Yk [3,0,0]:=⟨_,(Zc (ZJ (Zn ZO (Zq (ZD hK) (pv 7) Ze (fun _ _=>rfl)) Zl (Zx _)) d1.2 d3.2) d4.2)⟩
 let d6:Rdg X Yk [4]:=⟨_,(Zf (Zm (Z1 (YI hK) (ZK T.aW (Vq T hw) hr rfl rfl (@ZC _ _ _ _ _ (Zq (Zk hK) (pv 6) (VY WB Ze) (fun _ _=>rfl)) (@ZC _ _ _ _ _ (pv 2) (@ZC _ _ _ _ _ (pv 5) Zb rfl) rfl) rfl)) Yr (Z4 (pv 2)))))⟩
 let d7:Rdg X Yk [3]:=⟨_,(Zc (Xp gE rfl (ZQ hK (pv 0)) (Zz (i:=7) YX.nd rfl (.inr rfl)) d5.2) d6.2)⟩
 let d8:Rdg X Yk [2]:=⟨_,(Zc (Zo (i:=6) YX.nd rfl (.inr rfl) (Z7 Zb) rfl (.inl rfl)) d7.2)⟩
 let d9:Rdg X Yk [1]:=⟨_,(Zc (Zo (i:=5) YX.nd rfl (.inl rfl) (Zp (Zy hK) rfl T.av nX (Za (pv 4) Zb rfl)) rfl (.inl rfl)) d8.2)⟩
 intro vs Q h;obtain⟨R,rn,m,rv,ts,t,d,st,way,ring,rfl,hR,gr,ru,hm,B0,k⟩:=h;refine⟨_,(Zc (Zd9 (pv 1) (Uw (K:=K) (n:=2) rfl rfl (YV (Zz (i:=3) YX.nd rfl (.inl rfl)) (YV (Zz (i:=4) YX.nd rfl (.inl rfl)) UF)))) d9.2),?_⟩;obtain⟨W,G,T9,hW,hG⟩:=ru.ex;have l0:0<ring.length:=ψ fun e=>ru.ne (nE e);generalize hp:ring.length=p at l0 B0;have LD:(ts++[t]).length=ts.length+1:=by rw[fK];rfl
 have lrv:=gr.len;refine⟨_,rfl,rn,_,rfl,nU T9,rfl,_,_,rfl,_,_,rfl,rfl,?_⟩;refine⟨_,rfl,.inl ⟨G,_,rfl,.inl (nS hG),?_⟩⟩;rw[fF,hp];refine⟨by left,fun LN NH=>?_⟩;refine YU NH fun H1 s1 e1=>?_;refine⟨_,rfl,R,rfl,⟨_,nS (s1 _ _ hR)⟩,?_⟩;have keep:∀{F:Hp},ZB LN H1 F->Zg H F:=fun {F} sF b o e=>sF _ _ (fun z=>by rw[z,NH] at e;cases e) (s1 _ _ e);refine WZ (J:=Itl K R) (n:=rv.length) (fun j U F=>∃(z6 z7 z8:Option V) (vs:List V),U=[qr0 R,qr0 rn,some (.int (m:Nat)),qr0 W,qr0 G,some (.int (p:Nat)),qr0 LN,z6,z7,z8]/\ZB LN H1 F/\F LN=some (.lst vs)/\vs.length=j/\(∀v∈vs,v≠.ref LN)/\ZaG F d st (qb way ring) p (way++ring).length (ts++[t]) vs) ?_ ?_ ?_ ?_ ?_
 ·exact⟨_,_,_,[],rfl,.refl _,e1,rfl,(fun v hv=>by cases hv),g9 _,fun j v t h=>by simp at h⟩
 ·rintro j U F hj ⟨z6,z7,z8,vs,rfl,sF,_⟩;exact⟨_,_,nS (keep sF _ _ hR),fG hj⟩
 ·rintro U F ⟨z6,z7,z8,vs,rfl,sF,_⟩;exact⟨_,nS (keep sF _ _ hR),fH _⟩
 ·rintro j x U F0 F hj ⟨z6,z7,z8,vs,rfl,sF,Ag,BF,nb,la⟩ ⟨rfl,hx⟩;have ex:=hx _ (nS (keep sF _ _ hR));have NG:j<(ts++[t]).length:=by lia
  have ht:=fG NG;have row:=(gr.row j x _ ex ht).mono (nT (keep sF));obtain⟨hc,ok⟩:=gr.c _ (gC NG);generalize (ts++[t])[j]=u at ht row hc ok;have hjm:(j+1)*(p+1)<=(ts.length+1)*(p+1):=mn _ (by lia);have XO:∀(E':Hp) (z9:Option V) (l:Addr) (L:List Bool),Zg F E'->E' l=some (.lst (L.map V.bl))->ZS p L (Yw d st (qb way ring) u)->L.length<=(way++ring).length+(j+1)*(p+1)->jd K a [.ref l,.int (p:Nat)] E' (fun v H2=>Vx (.ref LN) [v] H2 (fun _ H3=>∃(z6 z7 z8:Option V) (vs:List V),[qr0 R,qr0 rn,some (.int (m:Nat)),qr0 W,qr0 G,some (.int (p:Nat)),qr0 LN,some x,qr0 l,z9]=[qr0 R,qr0 rn,some (.int (m:Nat)),qr0 W,qr0 G,some (.int (p:Nat)),qr0 LN,z6,z7,z8]/\ZB LN H1 H3/\H3 LN=some (.lst vs)/\vs.length=j+1/\(∀v∈vs,v≠.ref LN)/\ZaG H3 d st (qb way ring) p (way++ring).length (ts++[t]) vs)) (fun _ _ _=>False):=fun E' z9 l L sE el tl ll=>by
   refine⟨l,p,L,_,rfl,el,tl,by lia,fun H2 q L' s2 q0 eq tq lq=>?_⟩;have GK:=(sE.trans s2) _ _ Ag;have nq:q≠LN:=fun e=>by rw[e,sE _ _ Ag] at q0;cases q0
   refine⟨LN,_,_,rfl,rfl,GK,by rw[BF,fJ];have:j+1<=(j+1)*(p+1):=Nat.le_mul_of_pos_right _ (Nat.succ_pos _);lia,_,_,_,vs++[.ref q],rfl,?_,Zd,by rw[fK,BF];rfl,fun v hv=>?_,?_,fun i v w e1 e2=>?_⟩
   ·exact(sF.trans (Zg.x (sE.trans s2))).upd
   ·rcases gj.mp hv with h|h
    ·exact nb v h
    ·rw[gn.mp h];exact fun e=>nq (V.ref.inj e)
   ·rw[fK,BF];show j+1<=_;lia
   ·by_cases ci:i<vs.length
    ·rw[gv ci] at e1;obtain⟨l',wx,ev,gl,r⟩:=la.2 i v w e1 e2;have nl:l'≠LN:=fun e=>nb v (gk e1) (by rw[ev,e]);exact⟨l',wx,ev,by rw[ZF nl];exact(sE.trans s2) _ _ gl,r⟩
    ·have hi:=(fP.mp e1).1;rw[fK,gz] at hi;have ei:i=j:=by lia
     subst ei;rw[gx (by lia),BF,ij] at e1;cases e1;rw[ht] at e2;cases e2;exact⟨q,L',rfl,by rw[ZF nq];exact eq,tq,by lia⟩
  unfold xH at row
  by_cases cat:xE u=true
  ·rw[oq cat] at row;obtain⟨b,tb,rfl,g1,g2⟩:=row;refine⟨_,rfl,b,_,_,_,rfl,rfl,g1,Zh (j:=0) rfl,rfl,_,rfl,Y7 rfl ?_⟩;refine⟨_,rfl,_,rfl,W,G,_,_,rfl,rfl,keep sF _ _ hW,keep sF _ _ hG,by rw[fF,fF,fJ];rw[fK] at B0;lia,fun C hC=>?_⟩;rw[<- gp];refine Xh hC fun F1 t1 eC=>?_;refine⟨C,rfl,⟨_,nS eC⟩,fun D hD=>?_⟩;refine We (way++ring) V.int (fun r=>.bl (Ww d st u r)) hD (nS eC) (by rw[fJ];lia) ?_ ?_
   ·intro r RP F2 N AN hN;obtain⟨r0,r1⟩:=ru.b r RP;obtain⟨i,rfl⟩:=iQ r0;have hi:i<d.signs.length:=by lia
    refine⟨_,rfl,b,_,_,_,rfl,rfl,nT (t1.trans AN) _ _ _ g1,Zh (j:=1) rfl,_,rfl,tb,_,_,_,rfl,rfl,nT (t1.trans AN) _ _ _ g2,Zh (by rw[fO,fO,m6 hi];rfl),hN _ (.refl _)⟩
   intro F2 eD t2;refine⟨_,rfl,.inl ⟨rfl,_,nS ((t1.trans t2) _ _ Ag)⟩,_,rfl,_,rfl,XO F2 _ D ((way++ring).map (Ww d st u)) (t1.trans t2) (by rw[eD,fR];rfl) (by rw[<- hp];exact Zaq cat ru.ne) (by rw[fF];exact lO _ _)⟩
  ·rw[oo cat] at row;obtain⟨b,is,rfl,g1,il,hk⟩:=row;have tO:xE u=false:=by simpa using cat
   have Go:Zu u.lb ≠ "at" := by
    rcases Ux hc ok tO with⟨w,a1,rfl,h|h|h⟩|⟨w,a1,a2,rfl,h|h⟩|⟨a1,a2,rfl⟩
    ·rw[h];exact(by left:¬(("not" : Str) = "at"))
    ·rw[h];exact(by left:¬(("next" : Str) = "at"))
    ·rw[h];exact(by left:¬(("before" : Str) = "at"))
    ·rw[h];exact(by left:¬(("until" : Str) = "at"))
    ·rw[h];exact(by left:¬(("since" : Str) = "at"))
    ·exact(by left:¬(("and" : Str) = "at"))
   refine⟨_,rfl,b,_,_,_,rfl,rfl,g1,Zh (j:=0) rfl,rfl,_,rfl,ZR (fun z=>Go (V.str.inj z)) ?_⟩;have sX:∀(i mm:Nat) (kd:Tr),u.ks[i]?=some kd->is[i]?=some mm->∃l L,vs[mm]?=some (.ref l)/\F l=some (.lst (L.map V.bl))/\ZS p L (Yw d st (qb way ring) kd)/\L.length<=(way++ring).length+j*(p+1):=fun i mm kd e1 e2=>by
    obtain⟨h1,h2⟩:=hk i kd mm e1 e2;have hv:vs[mm]?=some vs[mm]:=fG (by lia);obtain⟨l,L,ev,gl,tl,ll⟩:=la.2 mm _ kd hv h2;have:(mm+1)*(p+1)<=j*(p+1):=mn _ h1;exact⟨l,L,by rw[hv,ev],gl,tl,by lia⟩
   have jm:(j+1)*(p+1)=j*(p+1)+(p+1):=ml _ _;have one:∀{q:Nat->Bool},q=Yw d st (qb way ring) u->∀{L:List Bool},ZS p L q->ZS p L (Yw d st (qb way ring) u):=fun e _ h=>e▸h;obtain⟨f,sp,mem,fam,Gb⟩:∃f sp,(Zu u.lb,f)∈([("not",a.y39),("and",a.y40),("next",a.y41),("until",a.y42),("before",a.y43),("since",a.y44)]:List (Str×Addr))/\Zhy K a f sp/\∀(F2:Hp) (D:Addr) (Q':VK),Zg F F2->F2 D=some (.lst (is.map fun i=>(vs[i]?).getD .non))->(∀H3 l L,Zg F2 H3->H3 l=some (.lst (L.map V.bl))->ZS p L (Yw d st (qb way ring) u)->L.length<=(way++ring).length+(j+1)*(p+1)->Q' (.ref l) H3)->sp [.ref D,.int (p:Nat)] F2 Q' E0:=by
    rcases Ux hc ok tO with⟨w,a1,rfl,h⟩|⟨w,a1,a2,rfl,h⟩|⟨a1,a2,rfl⟩
    ·obtain⟨m1,rfl⟩:∃m1,is=[m1]:=by
      cases is with
      |nil=>cases il
      |cons x r=>cases r with
       |nil=>exact⟨x,rfl⟩
       |cons y s=>simp[Tr.ks] at il
     obtain⟨l1,L1,uA,wu,wF,HQ⟩:=sX 0 m1 a1 rfl rfl;have em:([m1].map fun i=>(vs[i]?).getD .non)=[V.ref l1]:=by simp[uA]
     rw[em];rcases h with rfl|rfl|rfl
     ·refine⟨a.y39,_,by simp[Zu,Tr.lb],.inl ⟨rfl,rfl⟩,fun F2 D Q' s2 eD q=>?_⟩;exact⟨D,l1,p,L1,_,rfl,eD,s2 _ _ wu,wF,by lia,fun H3 l L s3 el tl ll=>q H3 l L s3 el (one (XV a1).symm tl) (by lia)⟩
     ·refine⟨a.y41,_,by simp[Zu,Tr.lb],.inr (.inr (.inl ⟨rfl,rfl⟩)),fun F2 D Q' s2 eD q=>?_⟩;exact⟨D,l1,p,L1,_,rfl,eD,s2 _ _ wu,wF,by lia,fun H3 l L s3 el tl ll=>q H3 l L s3 el (one (vb a1).symm tl) (by lia)⟩
     ·refine⟨a.y43,_,by simp[Zu,Tr.lb],.inr (.inr (.inr (.inr (.inl ⟨rfl,rfl⟩)))),fun F2 D Q' s2 eD q=>?_⟩;exact⟨D,l1,p,L1,_,rfl,eD,s2 _ _ wu,wF,by lia,fun H3 l L s3 el tl ll=>q H3 l L s3 el (one (jx a1).symm tl) (by lia)⟩
    ·obtain⟨m1,m2,rfl⟩:∃m1 m2,is=[m1,m2]:=by
      cases is with
      |nil=>cases il
      |cons x r=>cases r with
       |nil=>simp[Tr.ks] at il
       |cons y s=>cases s with
        |nil=>exact⟨x,y,rfl⟩
        |cons z w=>simp[Tr.ks] at il
     obtain⟨l1,L1,uA,wu,wF,HQ⟩:=sX 0 m1 a1 rfl rfl;obtain⟨l2,L2,ui,DL,D4,N2⟩:=sX 1 m2 a2 rfl rfl;have em:([m1,m2].map fun i=>(vs[i]?).getD .non)=[V.ref l1,V.ref l2]:=by simp[uA,ui]
     rw[em];rcases h with rfl|rfl
     ·refine⟨a.y42,_,by simp[Zu,Tr.lb],.inr (.inr (.inr (.inl ⟨rfl,rfl⟩))),fun F2 D Q' s2 eD q=>?_⟩;exact⟨D,l1,l2,p,L1,L2,_,_,rfl,eD,s2 _ _ wu,s2 _ _ DL,wF,D4,by lia,by lia,fun H3 l L s3 el tl ll=>q H3 l L s3 el (one (qQ a1 a2).symm tl) (by lia)⟩
     ·refine⟨a.y44,_,by simp[Zu,Tr.lb],.inr (.inr (.inr (.inr (.inr ⟨rfl,rfl⟩)))),fun F2 D Q' s2 eD q=>?_⟩;exact⟨D,l1,l2,p,L1,L2,_,_,rfl,eD,s2 _ _ wu,s2 _ _ DL,wF,D4,by lia,by lia,fun H3 l L s3 el tl ll=>q H3 l L s3 el (one (qM a1 a2).symm tl) (by lia)⟩
    ·obtain⟨m1,m2,rfl⟩:∃m1 m2,is=[m1,m2]:=by
      cases is with
      |nil=>cases il
      |cons x r=>cases r with
       |nil=>simp[Tr.ks] at il
       |cons y s=>cases s with
        |nil=>exact⟨x,y,rfl⟩
        |cons z w=>simp[Tr.ks] at il
     obtain⟨l1,L1,uA,wu,wF,HQ⟩:=sX 0 m1 a1 rfl rfl;obtain⟨l2,L2,ui,DL,D4,N2⟩:=sX 1 m2 a2 rfl rfl;have em:([m1,m2].map fun i=>(vs[i]?).getD .non)=[V.ref l1,V.ref l2]:=by simp[uA,ui]
     rw[em];refine⟨a.y40,_,by simp[Zu,Tr.lb],.inr (.inl ⟨rfl,rfl⟩),fun F2 D Q' s2 eD q=>?_⟩;exact⟨D,l1,l2,p,L1,L2,_,_,rfl,eD,s2 _ _ wu,s2 _ _ DL,wF,D4,by lia,by lia,fun H3 l L s3 el tl ll=>q H3 l L s3 el (one (yp a1 a2).symm tl) (by lia)⟩
   refine⟨_,rfl,b,_,_,_,rfl,rfl,g1,Zh (j:=0) rfl,a.D_LINES,_,_,f,rfl,rfl,T.c8,mem,?_⟩;refine⟨f,sp,rfl,fam,_,rfl,1,rfl,b,_,rfl,g1,?_,fun c FE=>?_⟩
   ·intro⟨z1,_⟩;have:HT.sIx (V.str (Zu u.lb)::is.map fun i:Nat=>V.int (i:Nat)).length 0 (some ((1:Nat):Int))=0:=z1;rw[HT.sIx_nat] at this;simp at this
   have ec:=Vw (V.str (Zu u.lb)::is.map fun i:Nat=>V.int (i:Nat)) 1 (by simp);rw[show((1:Nat):Int)=1 from rfl] at ec;rw[ec];obtain⟨F1,qN,t1,Nu⟩:=xI (o:=.tup (is.map fun i:Nat=>V.int (i:Nat))) FE
   change upd F c (.tup ((V.str (Zu u.lb)::is.map fun i:Nat=>V.int (i:Nat)).drop 1))=F1 at qN
   rw[qN];refine⟨c,rfl,⟨_,nU Nu⟩,fun D hD=>?_⟩;refine UC is (fun i:Nat=>V.int (i:Nat)) (fun i=>(vs[i]?).getD .non) hD (nU Nu) (by rw[il,fJ];have:=Zf6 ok;lia) ?_ ?_
   ·intro i hi F2 N AN hN;obtain⟨e0,OG,Su⟩:=gF hi;have h1:u.ks[e0]?=some (u.ks[e0]'(by lia)):=fG (by lia);obtain⟨lt,_⟩:=hk e0 _ i h1 (by rw[fG OG,Su]);have hv:vs[i]?=some vs[i]:=fG (by lia);have:=hN F2 (.refl _);rw[hv] at this;exact⟨_,rfl,_,rfl,LN,_,_,_,rfl,rfl,nS ((t1.trans AN) _ _ Ag),Zh hv,this⟩
   intro F2 eD t2;refine⟨_,rfl,Gb F2 D _ (t1.trans t2) eD fun H3 l L s3 el tl ll=>?_⟩;have C9:=t1.trans (t2.trans s3);exact⟨_,rfl,.inl ⟨rfl,_,nS (C9 _ _ Ag)⟩,_,rfl,_,rfl,XO H3 _ l L C9 el tl ll⟩
 rintro U F ⟨z6,z7,z8,vs,rfl,sF,Ag,BF,nb,la⟩;have lv1:vs.length=ts.length+1:=by lia
 have hv:vs[ts.length]?=some (vs[ts.length]'(by lia)):=fG (by lia);obtain⟨l,L,ev,gl,tl,ll⟩:=la.2 ts.length _ t hv (by rw[gx (fH _),ij];rfl);have ea:atI vs (-1)=some (.ref l):=by
  have:=xQ (xs:=vs) (p:=1) (fH _) (by lia);rw[show(-((1:Nat):Int))=-1 from rfl] at this;rw[this];have e2:vs[vs.length-1]'(by lia)=vs[ts.length]'(by lia):=by congr 1;lia
  rw[e2,ev]
 refine⟨_,rfl,_,rfl,LN,_,_,_,rfl,rfl,nS Ag,ea,_,rfl,_,rfl,l,m,p,L,_,rfl,gl,tl,by lia,by lia,fun H2 q L' s2 q0 eq tq lq=>?_⟩;refine⟨_,rfl,_,rfl,q,_,rfl,nS eq,fun q2 oS=>?_⟩;rw[qV,<- iW];have et:L'.take m=(γ m).map (Yw d st (qb way ring) t):=by
  apply mO;intro i
  by_cases hi:i<m
  ·rw[lB hi,tq.get (by lia),fO,m6 hi];rfl
  ·rw[i7 (by rw[fN];lia),i7 (by rw[fF,gU];lia)]
 rw[et];have sH:=(keep sF).trans (s2.trans (Zi (o:=.lst (((γ m).map (Yw d st (qb way ring) t)).map V.bl)) oS));exact k _ q2 sH (((keep sF).trans s2).free oS) Zd
def vm(K:W.Frag)(a:Adr):Sp:=fun vs H Q _=>Ex2 fun(c:Int) (m:Nat)=>Cj3 (vs=[.int c,.int (m:Int)]) (m<=1000) (∀H' p (ns:List Int),Zg H H'->H p=none->H' p=some (.lst (ns.map V.int))->ns.length=m->Q (.ref p) H')
theorem WE:Okd P w K mg base a 1 a.y54 a.z54 eN vm:=fun T hw=>by
 refine okX T.aJ.f YB fun dn A outer s H E hr=>?_;intro X
 let d1:Rdg X Yc [1,0,1,0,0]:=⟨_,(Zc (Yj (XE gA gH gI Z0 (pv 2) (Za (Zv Yx (pv 3) Ze) Zb rfl)) rfl) (Zf (Zo (i:=3) YB.nd rfl (.inl rfl) (Zv XL (pv 3) Ze) rfl (.inl rfl))))⟩
 let d2:Rdg X Yc [1,0,1]:=⟨_,(Zf (qj gE (PW.pt (zC (Zn ZaT (pv 3) Ze (Zx _)) (UY (Zn ZaK (Zp (Zy (K:=K) rfl) rfl T.av nX (Za (pv 2) Zb rfl)) (pv 1) (Zx _))))) d1.2))⟩
 let d3:Rdg X Yc [1,0,0]:=⟨_,(Zc (Zo (i:=3) YB.nd rfl (.inl rfl) (Zv XL (pv 0) Ze) rfl (.inl rfl)) d2.2)⟩
 let d4:Rdg X Yc [4,0,1]:=⟨_,(Zc (Zo (i:=5) YB.nd rfl (.inl rfl) (Zv Yx (Zv VG (pv 5) Ze) Ze) rfl (.inl rfl)) (Zf (Yj (XE gA gH gI Z0 (pv 2) (Za (Zv Z5 (pv 4) (pv 5)) Zb rfl)) rfl)))⟩
 let d5:Rdg X Yc [4,0,0]:=⟨_,(Zc (Zo (i:=4) YB.nd rfl (.inl rfl) (Zv Yx (Zv Z5 (Zv Z5 (Zv VG (pv 4) (pv 4)) (Zv VG Ze (pv 4))) (pv 6)) (Zv Z5 (Zv ZcK Ze Ze) Ze)) rfl (.inl rfl)) d4.2)⟩
 let d6:Rdg X Yc [4]:=⟨_,(Zc (Xp gE rfl (Y9 rfl T.aX (Za (Zv Z5 (pv 1) Ze) Zb rfl)) (Zz (i:=6) YB.nd rfl (.inl rfl)) d5.2) (Zf (Zm (Z1 (YI (K:=K) rfl) (pv 2) Yr (Z4 (pv 1))))))⟩
 let d7:Rdg X Yc [3]:=⟨_,(Zc (Zo (i:=5) YB.nd rfl (.inl rfl) (Zv Z5 (Zv Yx (pv 0) Ze) Ze) rfl (.inl rfl)) d6.2)⟩
 let d8:Rdg X Yc [2]:=⟨_,(Zc (Zo (i:=4) YB.nd rfl (.inl rfl) (Zv Z5 (Zv Yx (pv 0) (Zv Z5 (Zv ZcK Ze Ze) Ze)) Ze) rfl (.inl rfl)) d7.2)⟩
 let d9:Rdg X Yc [1]:=⟨_,(Us (ZJ (Zn ZO (Zv Yx (pv 0) Ze) Ze (Zx _)) d3.2 Zw) d8.2)⟩
 intro vs Q h;obtain⟨c,m,rfl,hm,k⟩:=h;refine⟨_,(Zc (Zo (i:=2) YB.nd rfl (.inl rfl) (Z7 Zb) rfl (.inl rfl)) d9.2),?_⟩;refine⟨by left,fun D hD=>?_⟩;refine⟨fun U H'=>∃(ns:List Int) (r:Option V),U=[some (.int c),some (.int m),qr0 D,r,none,none,none]/\H' D=some (.lst (ns.map V.int))/\Zg H H'/\ns.length<=m,?_,?_⟩
 ·refine⟨_,rfl,_,_,rfl,rfl,by left,rfl,_,rfl,YY (fun c1=>?_) (fun c1=>?_)⟩
  ·refine⟨_,rfl,_,_,rfl,rfl,⟨by left,by left⟩,?_⟩;refine⟨fun n U H'=>∃(ns:List Int) (r:Int),U=[some (.int c),some (.int m),qr0 D,some (.int r),none,none,none]/\H' D=some (.lst (ns.map V.int))/\Zg H H'/\ns.length<=m/\n=m-ns.length,⟨m,[],_,rfl,Zd,Zi hD,g9 _,rfl⟩,?_⟩;rintro n U H1 ⟨ns,r,rfl,h1,s1,hl,rfl⟩;refine⟨_,rfl,_,_,rfl,rfl,_,rfl,YY (fun c2=>⟨_,rfl,.inl ⟨D,_,rfl,.inl (nS h1),_,rfl,_,_,rfl,rfl,_,rfl,YY (fun c3=>?oK) (fun c3=>?XO)⟩⟩) (fun c2=>Yn ?rest2)⟩
   case XO=>exact⟨ns,_,rfl,h1,s1,hl⟩
   case rest2=>exact⟨ns,_,rfl,h1,s1,hl⟩
   case oK=>
    have c4:ns.length<m:=by have:=ge c3;rw[fF] at this;lia
    refine⟨fun U H'=>∃(sT:List Int) (r:Int),U=[some (.int c),some (.int m),qr0 D,some (.int r),none,none,none]/\H' D=some (.lst (sT.map V.int))/\Zg H H'/\sT.length=ns.length+1,?_,?_⟩
    ·rintro σ' H' ⟨sT,r',rfl,a1,a2,a3⟩;exact⟨m-sT.length,by lia,sT,r',rfl,a1,a2,by lia,rfl⟩
    ·refine⟨_,rfl,.inl ⟨rfl,_,nS h1⟩,_,rfl,_,_,rfl,rfl,by left,D,_,_,rfl,rfl,h1,by rw[fF,fJ];lia,?_⟩;refine⟨_,rfl,_,_,rfl,rfl,⟨by left,by left⟩,?_⟩;exact⟨ns++[_],_,rfl,by rw[Zd,gp];rfl,(ZB.upd (Zg.x s1)).same hD,by simp⟩
  ·exact⟨[],_,rfl,Zd,Zi hD,g9 _⟩
 rintro U H1 ⟨ns,r,rfl,h1,s1,hl⟩;have Ik:((10:Int) ^ (18:Int).toNat+9)=1000000000000000009:=by left
 refine⟨_,rfl,_,_,rfl,rfl,⟨by left,by left,by left⟩,_,_,rfl,rfl,_,_,rfl,rfl,by left,_,_,rfl,rfl,?_⟩;refine⟨_,rfl,_,_,rfl,rfl,by left,_,_,rfl,rfl,?_⟩;refine⟨_,rfl,_,_,rfl,rfl,_,rfl,by lia,by lia,?_⟩;have e0:((m:Int)+2).toNat=m+2:=by lia
 rw[e0];have r0:=iA c (show(1000000000000000009:Int)≠0 by left);have r1:=iP c (show(0:Int)<1000000000000000009 by left)
 let J1:Nat->L2.St->Hp->Prop:=fun i U H'=>Ex4 fun(sT:List Int) (sZ E5:Int) (z:Option V)=>Cj5 (U=[some (.int c),some (.int m),qr0 D,r,some (.int sZ),some (.int E5),z]) ((0<=sZ/\sZ<1000000000000100000)) (H' D=some (.lst (sT.map V.int))) (Zg H H') (sT.length=ns.length+i)
 refine WZ (J:=Itr 0 (m+2)) (n:=m+2) J1 ?_ (fun i U H' hi _=>hi) (fun U H' _=>fH _) ?_ ?_
 ·exact⟨ns,c%1000000000000000009+48271,_,none,rfl,⟨by lia,by lia⟩,h1,s1,by simp⟩
 ·rintro i x U H2 H3 hi ⟨sT,sZ,E5,z,rfl,⟨n0,n1⟩,g1,g2,g3⟩ ⟨rfl,rfl⟩;refine⟨_,rfl,_,rfl,_,_,rfl,rfl,.inl ⟨by lia,by lia⟩,_,rfl,_,_,rfl,rfl,.inl ⟨by left,by left⟩,_,_,rfl,rfl,_,rfl,_,_,rfl,rfl,_,_,rfl,rfl,⟨by left,by left,by left⟩,_,_,rfl,rfl,_,_,rfl,rfl,by left,?_⟩;have m0:=iA (sZ*sZ+48271*sZ+(0+(i:Int))) (show((10:Int) ^ (18:Int).toNat+9)≠0 by left);have m1:=iP (sZ*sZ+48271*sZ+(0+(i:Int))) (show(0:Int)<((10:Int) ^ (18:Int).toNat+9) by left);have m2:((10:Int) ^ (18:Int).toNat+9)<1000000000000100000:=by left
  refine⟨_,rfl,_,_,rfl,rfl,.inr ⟨by left,by left⟩,_,_,rfl,rfl,by left,?_⟩;refine⟨_,rfl,.inl ⟨rfl,_,nS g1⟩,_,rfl,_,rfl,_,_,rfl,rfl,D,_,_,rfl,rfl,g1,by rw[fF,fJ];lia,?_⟩;exact⟨sT++[_],_,_,_,rfl,⟨m0,Int.lt_trans m1 m2⟩,by rw[Zd,gp];rfl,(ZB.upd (Zg.x g2)).same hD,by rw[fK,g3];rfl⟩
 ·rintro U H2 ⟨sT,sZ,E5,z,rfl,_,g1,g2,g3⟩;refine⟨_,rfl,_,rfl,m,rfl,D,_,rfl,nS g1,fun p hp=>?_⟩;refine k _ p (sT.take m) (g2.trans (Zi hp)) (g2.free hp) ?_ (by rw[fN];lia);rw[Zd,xS _ m (by rw[fF];lia),iW]
def jS(K:W.Frag)(a:Adr):Sp:=fun vs H Q _=>Ex2 fun p d=>Cj3 (vs=[.ref p]) (Xu a.C_World H p d) (Q (.int d.signs.length) H)
theorem Ub:Okd P w K mg base a 1 a.y46 a.z46 dr jS:=fun T hw=>by
 refine okF T.aC.f jA fun dn A outer s H vs Q E hr h=>?_;obtain⟨p,d,rfl,hw,k⟩:=h;refine⟨_,(Zf (Zm (Zp (Zy (K:=K) rfl) rfl T.av nX (Za (ZU (K:=K) rfl (pv 0) rfl) Zb rfl)))),?_⟩;obtain⟨dx,t1,t2,t3,t4,e,⟨b,vs,rfl,g,l,q⟩,_⟩:=hw.ex;refine⟨_,rfl,p,_,dx,_,_,rfl,e,T.aV,T.aE,KH _ _ _ _,.inl ⟨b,vs,rfl,.inr (nU g),?_⟩⟩;rw[l,fF];exact k
def yL(K:W.Frag)(a:Adr):Sp:=fun vs H Q _=>Ex4 fun p d i ss=>Cj4 (vs=[.ref p,.int (i:Nat)]) (Xu a.C_World H p d) (d.signs[i]?=some ss) (∀l,H l=none->Q (.ref l) (upd H l (.lst ((VO ss).map V.str))))
theorem yH:Okd P w K mg base a 1 a.y47 a.z47 dG yL:=fun T hw=>by
 refine okF T.aO.f yt fun dn A outer s H vs Q E hr h=>?_;obtain⟨p,d,i,ss,rfl,hw,hs,k⟩:=h;refine⟨_,(Zf (Zm (ZI (Xz (K:=K) rfl rfl) rfl T.a9 nV (Za (Zq (ZD (K:=K) rfl) (ZU (K:=K) rfl (pv 0) rfl) (pv 1) (fun _ _=>rfl)) Zb rfl)))),?_⟩;obtain⟨dx,t1,t2,t3,t4,e,⟨b,vs,rfl,g,l,q⟩,_⟩:=hw.ex;have hi:i<vs.length:=by
  rw[l,fF];exact(fP.mp hs).1
 obtain⟨c,ec,gc⟩:=q i _ (VO ss) (fG hi) (by rw[fO,hs];rfl);refine⟨_,rfl,p,_,dx,_,_,rfl,e,T.aV,T.aE,KH _ _ _ _,_,rfl,b,vs,_,_,rfl,rfl,nU g,Zh (fG hi),?_⟩;rw[ec];exact .inl ⟨c,_,rfl,.inr (nU gc),k⟩
def Zbe(K:W.Frag)(H:Hp)(st:Tr->List Int)(t:Tr)(b:Addr)(rv:V):Prop:=(t.lb=.yes/\SqT K H b [.str "yes"])\/(∃z,t.lb=.sign z/\SqT K H b [.str "sign",.str z])\/(t.lb=.op "some" /\ (∃x,SqT K H b [.str "some",x])/\∃l,rv=.ref l/\H l=some (.lst ((st t).map V.int))/\(st t).length<=1000)
def vt(K:W.Frag)(a:Adr):Sp:=fun vs H Q _=>Ex6 fun(w b:Addr) (rv:V) (d:WD) (st:Tr->List Int) (t:Tr)=>Cj5 (vs=[.ref w,.ref b,rv]) (Xu a.C_World H w d) (d.signs.length<=20) (Zbe K H st t b rv) (∀H' tb,Zg H H'->H' tb=some (.tup (((γ d.signs.length).map fun r:Nat=>Ww d st t (r:Nat)).map V.bl))->Q (.ref tb) H')
theorem ZcH{z:Str}:inV (.str z) ((VO ss).map V.str)=decide (z∈ss):=by
 rw[ic,yF,hU];exact(zB ss).mem_iff
theorem ve:Okd P w K mg base a 2 a.y34 a.z34 eO vt:=fun T hw=>by
 refine okX T.bx.f vF fun dn A outer s H E hr=>?_;intro X;have hK:X.K=K:=rfl
 let d1:Rdg X Yz [0,0,0]:=⟨_,(Zf (Zm (ZI (Z9 hK) rfl T.aD nW (Za (Ya (Nc:=["room"]) (ix:=[none]) (ZX.of (by left:ZZ (Zj Yz) ["world","row","rooms"] _ _ _=true)) rfl (Y9 rfl T.aX (Za (jq (pv 0) T.aV T.aC.m (Ub T hw) (rmL hr rfl) T.aC.n .nil Yh) Zb rfl)) (fun _ _ _ _ _=>(Zz (i:=0) (show δ (["room"]:List Str) by left) rfl (.inl rfl))) (fun _ _ _ _ _=>Ys) (fun _ _ _ _ _=>VM)) Zb rfl))))⟩
 let d2:Rdg X Yz [1,0,0]:=⟨_,(Zf (Zm (ZI (Z9 hK) rfl T.aD nW (Za (Ya (Nc:=["room","row","world"]) (ix:=[none,some 1,some 0]) (ZX.of (by left:ZZ (Zj Yz) ["world","row","rooms"] _ _ _=true)) rfl (Y9 rfl T.aX (Za (jq (pv 0) T.aV T.aC.m (Ub T hw) (rmL hr rfl) T.aC.n .nil Yh) Zb rfl)) (fun _ _ _ _ _=>(Zz (i:=0) (show δ (["room","row","world"]:List Str) by left) rfl (.inl rfl))) (fun _ _ _ _ _=>Ys) (fun _ _ _ _ _=>(Xm (WJ hK) (Zq (ZD hK) (pv 1) Ze (fun _ _=>rfl)) (YD (pv 2) T.aV T.aO.m (yH T hw) (rmL hr rfl) T.aO.n .nil Yh (Za (pv 0) Zb rfl)) (by with_unfolding_all rfl)))) Zb rfl))))⟩
 let d3:Rdg X Yz [2]:=⟨_,(Zf (Zm (ZI (Z9 hK) rfl T.aD nW (Za (Ya (Nc:=["room","rooms"]) (ix:=[none,some 2]) (ZX.of (by left:ZZ (Zj Yz) ["world","row","rooms"] _ _ _=true)) rfl (Y9 rfl T.aX (Za (jq (pv 0) T.aV T.aC.m (Ub T hw) (rmL hr rfl) T.aC.n .nil Yh) Zb rfl)) (fun _ _ _ _ _=>(Zz (i:=0) (show δ (["room","rooms"]:List Str) by left) rfl (.inl rfl))) (fun _ _ _ _ _=>Ys) (fun _ _ _ _ _=>(Xm (WJ hK) (pv 0) (pv 1) (by with_unfolding_all rfl)))) Zb rfl))))⟩
 let d4:Rdg X Yz [1]:=⟨_,(Zc (ZJ (Zn ZO (Zq (ZD hK) (pv 1) Ze (fun _ _=>rfl)) Zl (Zx _)) d2.2 Zw) d3.2)⟩
 intro vs Q h;obtain⟨w,b,rv,d,st,t,rfl,oO,n20,ar,k⟩:=h;refine⟨_,(Zc (ZJ (Zn ZO (Zq (ZD hK) (pv 1) Ze (fun _ _=>rfl)) Zl (Zx _)) d1.2 Zw) d4.2),?_⟩;obtain⟨dx,fs,ho,sd⟩:=Zfh oO;rcases ar with⟨el,g⟩|⟨z,el,g⟩|⟨el,⟨x,g⟩,l,rfl,hl,ll⟩
 ·refine⟨_,rfl,b,_,_,_,rfl,rfl,g,Zh (j:=0) rfl,rfl,_,rfl,Y7 rfl ?_⟩;refine⟨_,rfl,w,dx,fs,rfl,ho,sd,w,d,rfl,oO,_,rfl,by lia,by lia,?_⟩;rw[hJ];intro D hD;refine zz (fun r=>.bl (Ww d st t (r:Nat))) hD (by rw[fJ];lia) (fun r pR G N sG hN=>?_) fun H1 e1 s1=>?_
  ·have:Ww d st t (r:Nat)=true:=by unfold Ww;rw[el]
   have q:=hN G (.refl _);rw[this] at q;exact q
  ·exact⟨D,_,rfl,.inl ⟨nS e1,fun tb ht=>k _ tb (s1.trans (Zi ht)) (by rw[Zd,fR];rfl)⟩⟩
 ·refine⟨_,rfl,b,_,_,_,rfl,rfl,g,Zh (j:=0) rfl,rfl,_,rfl,ZR (fun q=>(by left:¬(("sign" : Str) = "yes")) (V.str.inj q)) ?_⟩;refine⟨_,rfl,b,_,_,_,rfl,rfl,g,Zh (j:=0) rfl,rfl,_,rfl,Y7 rfl ?_⟩;refine⟨_,rfl,w,dx,fs,rfl,ho,sd,w,d,rfl,oO,_,rfl,by lia,by lia,?_⟩;rw[hJ];intro D hD;refine zz (fun r=>.bl (Ww d st t (r:Nat))) hD (by rw[fJ];lia) (fun r pR G N sG hN=>?_) fun H1 e1 s1=>?_
  ·obtain⟨BE,Pq,pC,uH⟩:=Ka (oO.mono sG);refine⟨_,rfl,b,_,_,_,rfl,rfl,nT sG _ _ _ g,Zh (j:=1) rfl,_,rfl,w,BE,Pq,rfl,pC,uH,_,rfl,w,d,r,d.signs[r],rfl,oO.mono sG,fG pR,fun q hq=>?_⟩;refine⟨q,_,rfl,.inl (nS Zd),rfl,xc _,?_⟩;have:Ww d st t (r:Nat)=inV (.str z) ((VO d.signs[r]).map V.str):=by
    unfold Ww;rw[el,ZcH]
    show decide (z∈QA d (r:Nat))=_
    unfold QA;rw[hJ,fG pR];rfl
   have qq:=hN _ (Zi (o:=.lst ((VO d.signs[r]).map V.str)) hq);rw[this] at qq;exact qq
  ·exact⟨D,_,rfl,.inl ⟨nS e1,fun tb ht=>k _ tb (s1.trans (Zi ht)) (by rw[Zd,fR];rfl)⟩⟩
 ·refine⟨_,rfl,b,_,_,_,rfl,rfl,g,Zh (j:=0) rfl,rfl,_,rfl,ZR (fun q=>(by left:¬(("some" : Str) = "yes")) (V.str.inj q)) ?_⟩;refine⟨_,rfl,b,_,_,_,rfl,rfl,g,Zh (j:=0) rfl,rfl,_,rfl,ZR (fun q=>(by left:¬(("some" : Str) = "sign")) (V.str.inj q)) ?_⟩;refine⟨_,rfl,w,dx,fs,rfl,ho,sd,w,d,rfl,oO,_,rfl,by lia,by lia,?_⟩;rw[hJ];intro D hD;refine zz (fun r=>.bl (Ww d st t (r:Nat))) hD (by rw[fJ];lia) (fun r pR G N sG hN=>?_) fun H1 e1 s1=>?_
  ·refine⟨_,rfl,_,rfl,l,_,rfl,.inl (nS (sG _ _ hl)),rfl,qT _,?_⟩;have:Ww d st t (r:Nat)=inV (.int (r:Nat)) ((st t).map V.int):=by
    unfold Ww;rw[el,xP]
   have qq:=hN G (.refl _);rw[this] at qq;exact qq
  ·exact⟨D,_,rfl,.inl ⟨nS e1,fun tb ht=>k _ tb (s1.trans (Zi ht)) (by rw[Zd,fR];rfl)⟩⟩
theorem Qg(h1:H S=some (.dK kv)):Yv H (upd H S o):=fun K b ys h=>by
 rcases h with(h|⟨o',h⟩)|h
 ·exact .inl (.inl (by rw[ZF (fun z=>by rw[z,h1] at h;cases h)];exact h))
 ·exact .inl (.inr ⟨o',by rw[ZF (fun z=>by rw[z,h1] at h;cases h)];exact h⟩)
 ·exact .inr h
theorem Qb(h1:H S=some (.lst xs)):Yv H (upd H S o):=fun K b ys h=>by
 rcases h with(h|⟨o',h⟩)|h
 ·exact .inl (.inl (by rw[ZF (fun z=>by rw[z,h1] at h;cases h)];exact h))
 ·exact .inl (.inr ⟨o',by rw[ZF (fun z=>by rw[z,h1] at h;cases h)];exact h⟩)
 ·exact .inr h
def Zg4(H:Hp)(st:Tr->List Int)(ps ts:List Tr)(kv:List (Key×V)):Prop:=∀(m:Nat) t,ps[m]?=some t->t∈ts->t.lb=.op "some" -> ∃l,XH kv (.inl (m:Int))=some (.ref l)/\H l=some (.lst ((st t).map V.int))/\(st t).length<=1000
def vD(K:W.Frag)(a:Adr):Sp:=fun vs H Q _=>Zg1 fun(w r P R D tl:Addr) (i:Nat) (ps:List Tr) (t:Tr) (d:WD) (st:Tr->List Int) (kv:List (Key×V))=>Zfj (vs=[.ref w,.ref r,.int (i:Nat),.ref tl]) (Xu a.C_World H w d) (d.signs.length<=20) (TbY K a.Pm a.C_Table H r P R D ps) (ps[i]?=some t) ((∀s∈ps,isC s=true)) (psz t<=2000000) ((Zs [] (ZN t)).length<4000) (H tl=some (.dK kv)) (Zg4 H st ps (Zs [] (ZN t)) kv) (∀H' q rv,Zg H H'->H q=none->H' q=some (.lst rv)->Zgq K H' d st (Zs [] (ZN t)) rv->Q (.ref q) H')
theorem vH:Okd P w K mg base a 3 a.y33 a.z33 eP vD:=fun T hw=>by
 refine okX T.bv.f XN fun dn A outer s H E hr=>?_;intro X;have hK:X.K=K:=rfl
 let d1:Rdg X Yo [2,0,2,0,0]:=⟨_,(Zf (Yj (XE gA gH gI Z0 (pv 5) (Za (ZH (Za Zl (Za (ZK T.bx (ve T hw) hr rfl rfl (@ZC _ _ _ _ _ (pv 0) (@ZC _ _ _ _ _ (pv 7) (@ZC _ _ _ _ _ (Zd7 (ZcP hr) (pv 3) (pv 6) ⟨rfl,rfl,rfl,rfl⟩) Zb rfl) rfl) rfl)) Zb rfl) rfl)) Zb rfl)) rfl))⟩
 let d2:Rdg X Yo [2,0,2,1,0]:=⟨_,(Zf (Yj (XE gA gH gI Z0 (pv 5) (Za (Zv (qC hK) (ZH (Za (Zq (ZD hK) (pv 7) Ze (fun _ _=>rfl)) Zb rfl)) (ZI (Z9 hK) rfl T.aD nW (Za (Ya (Nc:=["part","places"]) (ix:=[none,some 4]) (ZX.of (by left:ZZ (Zj Yo) zp _ _ _=true)) rfl (JL hK (Z1 (WW hK) (pv 7) (Z4 Ze) Yr)) (fun _ _ _ _ _=>(Zz (i:=0) (show δ (["part","places"]:List Str) by left) rfl (.inl rfl))) (fun _ _ _ _ _=>Ys) (fun _ _ _ _ _=>(Ze9 (ZcP hr) (pv 1) (pv 0) (fun _ _=>rfl)))) Zb rfl))) Zb rfl)) rfl))⟩
 let d3:Rdg X Yo [2,0,2]:=⟨_,(Zf (ZJ (Zn (WJ hK) (Zq (ZD hK) (pv 7) Ze (fun _ _=>rfl)) (ZH (@ZC _ _ _ _ _ Zl (@ZC _ _ _ _ _ Zl (@ZC _ _ _ _ _ Zl Zb rfl) rfl) rfl)) (by with_unfolding_all rfl)) d1.2 d2.2))⟩
 let d4:Rdg X Yo [2,0,1]:=⟨_,(Zc (ZeE (ZcP hr) (pv 4) (pv 6) (Zp (Zy hK) rfl T.av nX (Za (pv 5) Zb rfl)) rfl) d3.2)⟩
 let d5:Rdg X Yo [2,0,0]:=⟨_,(Zc (Zo (i:=7) XN.nd rfl (.inl rfl) (Zq (Zk hK) (ZU hK (pv 1) rfl) (pv 6) (fun _ _=>rfl)) rfl (.inl rfl)) d4.2)⟩
 let d6:Rdg X Yo [2]:=⟨_,(Zc (Xp gE rfl (ZQ hK (YD (pv 1) T.ai T.az.m (UL T hw) (rmL hr rfl) T.az.n .nil Yh (Za (pv 2) Zb rfl))) (Zz (i:=6) XN.nd rfl (.inl rfl)) d5.2) (Zf (Zm (pv 5))))⟩
 let d7:Rdg X Yo [1]:=⟨_,(Zc (Zo (i:=5) XN.nd rfl (.inl rfl) (Z7 Zb) rfl (.inl rfl)) d6.2)⟩
 intro vs Q h;obtain⟨w,r,P,R,D,tl,i,ps,t,d,st,kv,rfl,oO,n20,tb,hi,hc,hz,oG,Ny,Cd,k⟩:=h;refine⟨_,(Zc (Zo (i:=4) XN.nd rfl (.inr rfl) L3.pe_dnewK rfl (.inl rfl)) d7.2),?_⟩;generalize uC:Zs [] (ZN t)=ts at oG Cd k;have ord:Ord ts:=by rw[<- uC];exact ZdN t
 have PP:ts.Nodup:=by rw[<- uC];exact Xf (by simp)
 refine fun PL Mq=>?_;refine YU Mq fun H1 s1 D6=>?_;refine⟨by left,fun RW A4=>?_⟩;refine YU A4 fun H2 s2 Lo=>?_;have oR:=s1.trans s2;have sM:=tb.mono oR;obtain⟨dx,ho⟩:=sM.obj;have Ip:PL≠RW:=fun e=>by rw[e] at D6;rw[D6] at A4;cases A4
 refine⟨_,rfl,r,dx,_,rfl,ho,lkN (by left) (by left) (by left),_,rfl,r,P,R,D,ps,t,i,rfl,sM,hi,hc,hz,by rw[uC];exact oG,fun H3 L is s3 L0 hL rQ=>⟨L,rfl,⟨_,nS hL⟩,?_⟩⟩;rw[uC] at rQ;have rT:=oR.trans s3;have EK:=(s2.trans s3) _ _ D6;have FQ:=s3 _ _ Lo;have Fu:L≠PL:=fun e=>by rw[e,s2 _ _ D6] at L0;cases L0
 have FH:L≠RW:=fun e=>by rw[e,Lo] at L0;cases L0
 have iv:(iV is).length=is.length:=Xt is;have Dl:=rQ.1;have keep:∀{G:Hp},X5 PL RW H3 G->Zg H G:=fun {G} sG b o e=>sG _ _ (fun z=>by rw[z,Mq] at e;cases e) (fun z=>by rw[z] at e;rw[s1 _ _ e] at A4;cases A4) (rT _ _ e);refine WZ (J:=Itl K L) (n:=ts.length) (fun j U G=>∃(z6 z7:Option V) (kp:List (Key×V)) (rv:List V),U=[qr0 w,qr0 r,some (.int (i:Nat)),qr0 tl,qr0 PL,qr0 RW,z6,z7]/\X5 PL RW H3 G/\G PL=some (.dK kp)/\kp.length<=j/\(∀(x m:Nat),x<j->is[x]?=some m->XH kp (.inl (m:Int))=some (.int (x:Nat)))/\G RW=some (.lst rv)/\rv.length=j/\∀(x:Nat) v u,rv[x]?=some v->ts[x]?=some u->xH K G d st ts x v u) ?_ ?_ ?_ ?_ ?_
 ·exact⟨_,_,[],[],rfl,(fun b o _ _ e=>e),EK,fH _,(fun x m h=>ot h (Χ x)),FQ,rfl,fun x v u h=>by simp at h⟩
 ·rintro j U G hj ⟨z6,z7,kp,rv,rfl,sG,_⟩;exact⟨_,_,nS (sG _ _ Fu FH hL),fG (by rw[iv];lia)⟩
 ·rintro U G ⟨z6,z7,kp,rv,rfl,sG,_⟩;exact⟨_,nS (sG _ _ Fu FH hL),by rw[iv];lia⟩
 ·rintro j x U G0 G hj ⟨z6,z7,kp,rv,rfl,sG,gP,lk,pl,gR,lr,gr⟩ ⟨rfl,hx⟩;have ex:=hx _ (nS (sG _ _ Fu FH hL));unfold iV at ex;rw[fO] at ex;have hm:is[j]?=some (is[j]'(by lia)):=fG (by lia);generalize (is[j]'(by lia))=m at hm;rw[hm] at ex;have tJ:x=.int (m:Int):=(fW ex).symm;subst tJ;have hu:ts[j]?=some ts[j]:=fG hj;have Ce:ts[j]∈ts:=gC hj;generalize hue:ts[j]=u at hu Ce;have A7:=rQ.2 j m u hm hu;have Bk:=tb.mono (keep sG);obtain⟨BE,pC⟩:=Bk.obj;obtain⟨np,DZ,An,aP⟩:=Bk.pl;obtain⟨rows,wq,rl,Aq,Az,rh⟩:=Bk.rk hc;have hml:m<ps.length:=(fP.mp A7).1;have Ba:rows[m]?=some (rows[m]'(by lia)):=fG (by lia);have hb:=Aq _ (gC (show m<rows.length by lia));obtain⟨kn,kl,kin,Em⟩:=Az m u _ A7 Ba;rw[Em] at hb;have A9:(rows.map fun e=>V.ref e.2)[m]?=some (V.ref (rows[m]'(by lia)).2):=by rw[fO,Ba];rfl
  generalize (rows[m]'(by lia)).2=b at hb A9;have LY:=hc u (gk A7);have Bx:=aP.oks u (gk A7);refine⟨_,rfl,r,_,BE,_,_,rfl,pC,T.ai,T.ao,lkR,_,rfl,R,_,_,_,rfl,rfl,nS wq,Zh A9,?_⟩;refine⟨_,rfl,.inl ⟨RW,_,rfl,.inl (nS gR),_,rfl,_,rfl,PL,_,rfl,kT.k (k:=.inl (m:Int)) gP (by rw[fJ];lia),?_⟩⟩;rw[lr];have tP:=Qg (o:=.dK (WR kp (.inl (m:Int)) (.int (j:Nat)))) gP;have FJ:X5 PL RW H3 (upd G PL (.dK (WR kp (.inl (m:Int)) (.int (j:Nat))))):=sG.upd1;have DI:(upd G PL (.dK (WR kp (.inl (m:Int)) (.int (j:Nat))))) PL=some (.dK (WR kp (.inl (m:Int)) (.int (j:Nat)))):=Zd;have uf:(upd G PL (.dK (WR kp (.inl (m:Int)) (.int (j:Nat))))) RW=some (.lst rv):=by rw[ZF (fX Ip)];exact gR
  have lk2:(WR kp (.inl (m:Int)) (.int (j:Nat))).length<=j+1:=gg (Wj _ _ _) (by lia);have Ot:∀x,x<j->is[x]?≠some m:=fun x B5 e=>by
   have h1:=rQ.2 x m (ts[x]'(by lia)) e (fG (by lia));rw[A7] at h1;have h2:=fW h1;rw[<- hue] at h2;have:=(Κ PP).mp h2;lia
  have DK:∀(x q:Nat),x<j+1->is[x]?=some q->XH (WR kp (.inl (m:Int)) (.int (j:Nat))) (.inl (q:Int))=some (.int (x:Nat)):=fun x q B5 e=>by
   rw[Ki]
   by_cases cx:x=j
   ·subst cx;rw[hm] at e;cases e;rw[oq rfl]
   ·have A3:x<j:=by lia
    rw[oo (fun z=>Ot x A3 (by
     have:(q:Int)=(m:Int):=iX z;rw[e];congr 1;lia))]
    exact pl x q A3 e
  have IA:∀(x:Nat) v u,rv[x]?=some v->ts[x]?=some u->xH K (upd G PL (.dK (WR kp (.inl (m:Int)) (.int (j:Nat))))) d st ts x v u:=fun x v u h1 h2=>(gr x v u h1 h2).mono tP;have pS:=tP _ _ _ hb;generalize upd G PL (.dK (WR kp (.inl (m:Int)) (.int (j:Nat))))=G2 at FJ DI uf IA pS ⊢;generalize WR kp (.inl (m:Int)) (.int (j:Nat))=Gc at DI lk2 DK;clear tP gr pl lk gP gR sG An aP wq Aq Az rh A9 Ba pC Bk;have XO:∀(G3:Hp) (q:V),Zg G2 G3->xH K G3 d st ts j q u->∀z6 z7,Vx (.ref RW) [q] G3 (fun _ G4=>∃(y6 y7:Option V) (kp:List (Key×V)) (rv:List V),[qr0 w,qr0 r,some (.int (i:Nat)),qr0 tl,qr0 PL,qr0 RW,z6,z7]=[qr0 w,qr0 r,some (.int (i:Nat)),qr0 tl,qr0 PL,qr0 RW,y6,y7]/\X5 PL RW H3 G4/\G4 PL=some (.dK kp)/\kp.length<=j+1/\(∀(x m:Nat),x<j+1->is[x]?=some m->XH kp (.inl (m:Int))=some (.int (x:Nat)))/\G4 RW=some (.lst rv)/\rv.length=j+1/\∀(x:Nat) v u,rv[x]?=some v->ts[x]?=some u->xH K G4 d st ts x v u):=fun G3 q tN gq z6 z7=>by
   have GD:=tN _ _ uf;refine⟨RW,_,_,rfl,rfl,GD,by rw[lr,fJ];lia,_,_,Gc,rv++[q],rfl,(FJ.trans (Zg.two tN)).upd2,by rw[ZF Ip];exact tN _ _ DI,lk2,DK,Zd,by rw[fK,lr];rfl,fun x v u' h1 h2=>?_⟩
   by_cases cx:x<rv.length
   ·rw[gv cx] at h1;exact(IA x v u' h1 h2).mono ((nT tN).trans (Qb GD))
   ·have rW:=(fP.mp h1).1;rw[fK,gz] at rW;have P1:x=j:=by lia
    subst P1;rw[gx (by lia),lr,ij] at h1;cases h1;rw[hu] at h2;cases h2;exact gq.mono (Qb GD)
  have sy:=keep FJ
  by_cases cat:xE u=true
  ·-- an atom
   have EI:∃xs,SqT K G2 b (.str (Zu u.lb)::xs)/\Zu u.lb∈(["yes","sign","some"]:List Str)/\∀G3,Zg G2 G3->Zbe K G3 st u b ((XH kv (.inl (m:Int))).getD .non):=by
    unfold xE at cat;cases el:u.lb with
    |yes=>
     rw[el] at pS;exact⟨[],pS,by simp[Zu],fun G3 tN=>.inl ⟨el,nT tN _ _ _ pS⟩⟩
    |sign z=>
     rw[el] at pS;exact⟨[.str z],pS,by simp[Zu],fun G3 tN=>.inr (.inl ⟨z,el,nT tN _ _ _ pS⟩)⟩
    |op w'=>
     rw[el] at cat pS;have ew:=ge cat;subst ew;obtain⟨l,hv,hl,ll⟩:=Cd m u A7 Ce el;rw[hv];have k1:kn.length=1:=by
      rw[kl];rw[el] at Bx;rcases Bx with⟨_,h⟩|⟨h,_⟩
      ·exact h
      ·exact ot h (by left)
     obtain⟨m1,rfl⟩:∃m1,kn=[m1]:=by
      cases kn with
      |nil=>cases k1
      |cons x r=>cases r with
       |nil=>exact⟨x,rfl⟩
       |cons y s=>simp at k1
     exact⟨_,pS,by simp[Zu],fun G3 tN=>.inr (.inr ⟨el,⟨_,nT tN _ _ _ pS⟩,l,rfl,(sy.trans tN) _ _ hl,ll⟩)⟩
    |wit m=>rw[el] at cat;cases cat
    |many w=>rw[el] at cat;cases cat
   obtain⟨xs,oE,sS,Tg⟩:=EI;refine⟨_,rfl,b,_,_,_,rfl,rfl,oE,Zh (j:=0) rfl,sz3,fun q hq=>?_⟩;refine Xh hq fun G3 u3 e3=>?_;refine⟨q,_,rfl,.inr (nU e3),rfl,rfl,_,rfl,zj (ss:=["yes","sign","some"]) sS ?_⟩;refine⟨_,rfl,.inl ⟨rfl,_,nS (u3 _ _ uf)⟩,_,rfl,_,rfl,_,rfl,tl,rfl,?_,_,rfl,_,k5.k (k:=.inl (m:Int)) ((sy.trans u3) _ _ Ny),w,b,_,d,st,u,rfl,oO.mono (sy.trans u3),n20,Tg G3 u3,fun G4 Pd u4 e4=>?_⟩
   ·exact .inl ⟨_,.inl ((sy.trans u3) _ _ Ny)⟩
   refine⟨sz2,fun q2 oS=>?_⟩;refine YU oS fun G5 u5 e5=>?_;refine XO G5 (.ref q2) (u3.trans (u4.trans u5)) ?_ _ _;unfold xH;rw[oq cat];exact⟨q2,Pd,rfl,nU e5,nU (u5 _ _ e4)⟩
  ·-- no atom
   have tO:xE u=false:=by simpa using cat
   have Bf:Y4 u=u.ks:=by
    rcases Ux LY Bx tO with⟨w',a1,rfl,h⟩|⟨w',a1,a2,rfl,h⟩|⟨a1,a2,rfl⟩
    ·unfold Y4
     show(if w' = "some" then[] else _)=_
     rw[oo (by rcases h with rfl|rfl|rfl<;>left)]
    ·unfold Y4
     show(if w' = "some" then[] else _)=_
     rw[oo (by rcases h with rfl|rfl<;>left)]
    ·rfl
   have AA:SqT K G2 b (.str (Zu u.lb)::kn.map fun i:Nat=>V.int (i:Nat))/\Zu u.lb∉(["yes","sign","some"]:List Str)/\kn≠[]:=by
    rcases Ux LY Bx tO with⟨w',a1,rfl,h⟩|⟨w',a1,a2,rfl,h⟩|⟨a1,a2,rfl⟩
    ·refine⟨?_,by(show w'∉(["yes","sign","some"]:List Str));(rcases h with rfl|rfl|rfl<;>left),fun e=>by rw[e] at kl;cases kl⟩;have e:(XJ (.op w') kn).map kV=.str w'::kn.map fun i:Nat=>V.int (i:Nat):=by show V.str w'::(nK kn).map kV=_;unfold nK;rw[fR];rfl
     have wg:SqT K G2 b ((XJ (.op w') kn).map kV):=pS;rw[e] at wg;exact wg
    ·refine⟨?_,by(show w'∉(["yes","sign","some"]:List Str));(rcases h with rfl|rfl<;>left),fun e=>by rw[e] at kl;cases kl⟩;have e:(XJ (.op w') kn).map kV=.str w'::kn.map fun i:Nat=>V.int (i:Nat):=by show V.str w'::(nK kn).map kV=_;unfold nK;rw[fR];rfl
     have wg:SqT K G2 b ((XJ (.op w') kn).map kV):=pS;rw[e] at wg;exact wg
    ·refine⟨?_,by(show("and" : Str)∉(["yes","sign","some"]:List Str));left,fun e=>by rw[e] at kl;cases kl⟩;have e:(XJ (.many "and") kn).map kV=.str "and" :: kn.map fun i:Nat=>V.int (i:Nat):=by show V.str "and" :: (nK kn).map kV=_;unfold nK;rw[fR];rfl
     have wg:SqT K G2 b ((XJ (.many "and") kn).map kV):=pS;rw[e] at wg;exact wg
   obtain⟨oE,sS,Ge⟩:=AA;have k8:=Zf6 Bx;have wb:∀(x:Nat) kd q,u.ks[x]?=some kd->kn[x]?=some q->∃y:Nat,y<j/\ts[y]?=some kd/\is[y]?=some q:=fun x kd q h1 h2=>by
    have hq:=kin x kd q h1 h2;obtain⟨y,hy,ey⟩:=ord j u hu kd (by rw[Bf];exact gk h1);have Bn:is[y]?=some (is[y]'(by lia)):=fG (by lia);have:=rQ.2 y _ kd Bn ey;exact⟨y,hy,ey,by rw[Bn,zq tb.nd this hq]⟩
   refine⟨_,rfl,b,_,_,_,rfl,rfl,oE,Zh (j:=0) rfl,sz3,fun q hq=>?_⟩;refine Xh hq fun G3 u3 e3=>?_;refine⟨q,_,rfl,.inr (nU e3),rfl,rfl,_,rfl,XM (ss:=["yes","sign","some"]) sS ?_⟩;refine⟨_,rfl,.inl ⟨rfl,_,nS (u3 _ _ uf)⟩,_,rfl,b,_,_,_,rfl,rfl,nT u3 _ _ _ oE,Zh (j:=0) rfl,sz1,fun q1 EL=>?_⟩;refine Xh EL fun G4 u4 e4=>?_;have Gm:=u3.trans u4;refine⟨_,rfl,1,rfl,b,_,rfl,nT Gm _ _ _ oE,?_,fun c FE=>?_⟩
   ·intro⟨z1,_⟩;have:HT.sIx (V.str (Zu u.lb)::kn.map fun i:Nat=>V.int (i:Nat)).length 0 (some ((1:Nat):Int))=0:=z1;rw[HT.sIx_nat] at this;simp at this
   have ec:=Vw (V.str (Zu u.lb)::kn.map fun i:Nat=>V.int (i:Nat)) 1 (by simp);rw[show((1:Nat):Int)=1 from rfl] at ec;rw[ec];obtain⟨G5,qN,u5,e5⟩:=xI (o:=.tup (kn.map fun i:Nat=>V.int (i:Nat))) FE
   change upd G4 c (.tup ((V.str (Zu u.lb)::kn.map fun i:Nat=>V.int (i:Nat)).drop 1))=G5 at qN
   rw[qN];have wY:=Gm.trans u5;refine⟨c,rfl,⟨_,nU e5⟩,fun Dc sx=>?_⟩;have CQ:∀q∈kn,∃y:Nat,y<j/\is[y]?=some q:=fun q Fa=>by
    obtain⟨x,hx,e⟩:=gF Fa;obtain⟨y,h1,_,h3⟩:=wb x _ q (fG (show x<u.ks.length by lia)) (by rw[fG hx,e]);exact⟨y,h1,h3⟩
   refine UC kn (fun i:Nat=>V.int (i:Nat)) (fun q:Nat=>(XH Gc (.inl (q:Int))).getD .non) sx (nU e5) (by rw[kl,fJ];lia) ?_ ?_
   ·intro q Fa F N sF hN;obtain⟨y,hy,ey⟩:=CQ q Fa;have hv:=DK y q (by lia) ey;have hn:=hN F (.refl _);rw[hv] at hn;refine⟨_,rfl,_,rfl,PL,_,rfl,?_,hn⟩;have hg:=k5.k (k:=.inl (q:Int)) ((wY.trans sF) _ _ DI);rw[hv] at hg
    first|exact hg|(rw[hv];exact hg)
   intro G6 eD u6;refine⟨Dc,_,rfl,.inl ⟨nS eD,fun tt EE=>?_⟩⟩;refine Xh EE fun G7 u7 e7=>?_;have L9:=u5.trans (u6.trans u7);refine⟨q1,tt,_,_,rfl,rfl,nU (L9 _ _ e4),nU e7,by simp,by rw[fF,kl,fJ];show 1+u.ks.length<=16777216;lia,(fun h=>ot (ρ.mp h) Ge),fun _ q9 Ox=>?_⟩;refine YU Ox fun G8 u8 e8=>?_;refine XO G8 (.ref q9) (Gm.trans (L9.trans u8)) ?_ _ _;unfold xH;rw[oo cat];have Bu:∀l:List Nat,(∀q∈l,∃y:Nat,y<j/\is[y]?=some q)->∃js:List Nat,js.length=l.length/\(l.map fun q:Nat=>(XH Gc (.inl (q:Int))).getD .non)=js.map (fun y:Nat=>V.int (y:Nat))/\∀(x:Nat) y q,js[x]?=some y->l[x]?=some q->y<j/\is[y]?=some q:=by
    intro l
    induction l with
    |nil=>exact fun _=>⟨[],rfl,rfl,fun x y q h=>by simp at h⟩
    |cons q l ih=>
     intro h;obtain⟨y,hy,ey⟩:=h q iL;obtain⟨js,j1,j2,j3⟩:=ih fun q hq=>h q (fT _ hq);refine⟨y::js,by simp[j1],by rw[fL,fL,j2,DK y q (by lia) ey];rfl,fun x y' q' h1 h2=>?_⟩;cases x with
     |zero=>cases h1;cases h2;exact⟨hy,ey⟩
     |succ x=>exact j3 x y' q' h1 h2
   obtain⟨js,j1,j2,j3⟩:=Bu kn CQ;rw[j2] at e8;refine⟨q9,js,rfl,nU e8,by lia,fun x kd y h1 h2=>?_⟩;have uM:x<kn.length:=by have:=(fP.mp h1).1;lia
   have ER:kn[x]?=some kn[x]:=fG uM;obtain⟨hy,ey⟩:=j3 x y _ h2 ER;obtain⟨y2,Bn,et,ei2⟩:=wb x kd _ h1 ER;have h3:=rQ.2 y _ (ts[y]'(by lia)) ey (fG (by lia));have h4:=kin x kd _ h1 ER;rw[h4] at h3;refine⟨hy,?_⟩;rw[fG (show y<ts.length by lia)];exact h3.symm
 rintro U G ⟨z6,z7,kp,rv,rfl,sG,gP,lk,pl,gR,lr,gr⟩;refine⟨_,rfl,k G RW rv (keep sG) (s1.free A4) gR ⟨lr,gr,fun u OE=>?_⟩⟩;obtain⟨x,hx,e⟩:=gF OE;have hm:is[x]?=some (is[x]'(by lia)):=fG (by lia);have hp:=rQ.2 x _ u hm (by rw[fG hx,e]);have Bk:=tb.mono (keep sG);obtain⟨np,DZ,An,aP⟩:=Bk.pl;exact⟨hc u (gk hp),aP.oks u (gk hp)⟩
def zK(K:W.Frag)(H:Hp)(sl:Addr)(st:Tr->List Int)(ss:List Tr):Prop:=∃xs:List V,H sl=some (.lst xs)/\xs.length=ss.length/\∀(i:Nat) v t,xs[i]?=some v->ss[i]?=some t->∃(b l:Addr) (e:V) (n:Nat),v=.ref b/\SqT K H b [e,.ref l]/\At K n H e t/\H l=some (.lst ((st t).map V.int))
theorem zK.mono{K:W.Frag}{H H':Hp}{sl:Addr}{st:Tr->List Int}{ss:List Tr}(s:Zg H H')(h:zK K H sl st ss):zK K H' sl st ss:=by
 obtain⟨xs,h1,h2,h3⟩:=h;refine⟨xs,s _ _ h1,h2,fun i v t a b=>?_⟩;obtain⟨b,l,e,n,q1,q2,q3,q4⟩:=h3 i v t a b;exact⟨b,l,e,n,q1,nT s _ _ _ q2,q3.mono (nT s),s _ _ q4⟩
theorem TbY.updD{r P R F:Addr}(hF:H F=some (.dK kv))(h:TbY K Pm C H r P R D ps):TbY K Pm C (upd H F o) r P R D ps:=by
 obtain⟨⟨dx,h0⟩,⟨n,pv,h1,h2⟩,⟨rows,g1,g2,g3,g4,g5⟩,nd,pr⟩:=h;have u:Yv H (upd H F o):=Qg hF;have ke:∀{b:Addr}{o':HO},H b=some o'->o'≠.dK kv->upd H F o b=some o':=fun {b o'} e n=>by rw[ZF (fun z=>by rw[z,hF] at e;exact n (fW e).symm)];exact e
 exact⟨⟨dx,ke h0 (by intro z;cases z)⟩,⟨n,pv,ke h1 (by intro z;cases z),h2.mono u⟩,⟨rows,ke g1 (by intro z;cases z),g2,fun e he=>(g3 e he).mono u,g4,ke g5 (by intro z;cases z)⟩,nd,pr⟩
noncomputable def tkI(ps ss:List Tr)(i:Nat):List Tr:=Zs ps ((ss.take i).map post).flatten
theorem Zc9{ss:List Tr}{t:Tr}(h:ss[i]?=some t):tkI ps ss (i+1)=Zs (tkI ps ss i) (post t):=by
 unfold tkI;rw[mD,h]
 show Zs ps ((ss.take i++[t]).map post).flatten=_
 rw[gp,ο,YT]
 show Zs _ ([post t].flatten)=_
 rw[List.flatten_singleton]
theorem Zg6(ps ss:List Tr)(i:Nat):(tkI ps ss i).length<=(Zs ps (ss.map post).flatten).length:=by
 unfold tkI;have e:(ss.map post).flatten=((ss.take i).map post).flatten++((ss.drop i).map post).flatten:=by rw[<- ο,<- gp,nG]
 rw[e,YT];obtain⟨B,h⟩:=WN ((ss.drop i).map post).flatten (Zs ps ((ss.take i).map post).flatten);rw[h,fK];lia
theorem Zb0(t:Tr):t∈post t:=Ut _ (fH _) (vR t)
theorem ZeY{ss:List Tr}{x:Nat}{t:Tr}(h:x<i)(hx:ss[x]?=some t):t∈tkI ps ss i:=by
 unfold tkI;rw[ZW];refine .inr (iT.mpr ⟨post t,mj ?_,Zb0 t⟩);exact iU.mpr ⟨x,by rw[lB h];exact hx⟩
def Ju(K:W.Frag)(a:Adr):Sp:=fun vs H Q _=>Ex9 fun(r P R D sl:Addr) (ps:List Tr) (st:Tr->List Int) (ss:List Tr) (H0:Hp)=>Zfj (vs=[.ref r,.ref sl]) (TbY K a.Pm a.C_Table H r P R D ps) ((Zs ps (ss.map post).flatten).length<4000) (Zg H0 H) (H0 P=none) (H0 R=none) (H0 D=none) (zK K H0 sl st ss) (ss.length<4000) ((∀t∈ss,isC t=true/\psz t<=2000000)) (∀H' Dc kv,Zg H0 H'->TbY K a.Pm a.C_Table H' r P R D (Zs ps (ss.map post).flatten)->H' Dc=some (.dK kv)->(∀t∈ss,∀m:Nat,(Zs ps (ss.map post).flatten)[m]?=some t->∃l,XH kv (.inl (m:Int))=some (.ref l)/\H' l=some (.lst ((st t).map V.int)))->Q (.ref Dc) H')
theorem JF:Okd P w K mg base a 5 a.y32 a.z32 eQ Ju:=fun T hw=>by
 refine okF T.bP.f Jw fun dn A outer s H vs Q E hr h=>?_;obtain⟨r,P,R,D,sl,ps,st,ss,H0,rfl,tb,pl,s0,rM,rV,r9,⟨xs,DP,lx,ox⟩,Ga,pT,k⟩:=h;refine⟨_,(Zf (Zm (ki (o0:=.dK []) (.inl rfl) (Nc:=dN) (ix:=[none,none,some 0]) (ZX.of (by left:ZZ (Zj VW) ["table","sets"] _ _ _=true)) (Y8.units0 hr) rfl (ZQ (K:=K) rfl (pv 1)) (fun _ _ _ _ _=>(Uw (K:=K) (n:=2) rfl rfl (YV (Zz (i:=0) (show δ dN by left) rfl (.inl rfl)) (YV (Zz (i:=1) (show δ dN by left) rfl (.inl rfl)) UF)))) (fun _ _ _ _ _=>Ys) (fun _ _ _ _ _=>(YD (pv 2) T.ai T.ae.m (Y2 T hw) (rmL hr rfl) T.ae.n .nil Yh (Za (pv 0) Zb rfl))) (fun _ _ _ _ _=>(pv 1))))),?_⟩;refine⟨_,rfl,sl,rfl,⟨_,nS (s0 _ _ DP)⟩,fun Dc sx=>?_⟩;have sB:∀{G G':Hp},Zg H0 G->Y5 P R D G G'->Zg H0 G':=fun {G G'} s sb b o e=>sb _ _ (fun z=>by rw[z,rM] at e;cases e) (fun z=>by rw[z,rV] at e;cases e) (fun z=>by rw[z,r9] at e;cases e) (s _ _ e);have GO:H0 Dc=none:=s0.free sx;have Sk:=tb.mono (Zi (o:=.dK []) sx)
 let J1:Nat->L2.St->Hp->Prop:=fun i U G=>Ex3 fun(y1 y2:Option V) (kv:List (Key×V))=>Cj6 (U=[y1,y2,qr0 r]) (Zg H0 G) (TbY K a.Pm a.C_Table G r P R D (tkI ps ss i)) (G Dc=some (.dK kv)) (kv.length<=i) (∀(x m:Nat) t,x<i->ss[x]?=some t->(tkI ps ss i)[m]?=some t->∃l,XH kv (.inl (m:Int))=some (.ref l)/\H0 l=some (.lst ((st t).map V.int)))
 refine vN (J:=Itl K sl) (n:=ss.length) J1 ?_ ?_ ?_ ?_ ?_
 ·exact⟨_,_,[],rfl,s0.trans (Zi sx),Sk,Zd,fH _,fun x m t h=>ot h (Χ x)⟩
 ·rintro i U G hi ⟨y1,y2,kv,rfl,sG,_⟩;exact⟨_,_,nS (sG _ _ DP),fG (by lia)⟩
 ·rintro U G ⟨y1,y2,kv,rfl,sG,_⟩;exact⟨_,nS (sG _ _ DP),by lia⟩
 ·rintro i x U G0 G hi ⟨y1,y2,kv,rfl,sG,tG,gD,lk,hv⟩ ⟨rfl,hx⟩ N hN;have ex:=hx _ (nS (sG _ _ DP));have hu:ss[i]?=some ss[i]:=fG hi;have hm:=gC hi;generalize ss[i]=t at hu hm;obtain⟨b,l,e,n,ev,hb,he,hl⟩:=ox i x t ex hu;subst ev;obtain⟨hc,hz⟩:=pT t hm;refine⟨b,_,rfl,nT sG _ _ _ hb,rfl,_,_,rfl,_,_,rfl,rfl,?_⟩;obtain⟨dx,ho⟩:=tG.obj;have ea:=Zc9 (ps:=ps) hu;refine⟨_,rfl,r,dx,_,rfl,ho,lkN (by left) (by left) (by left),_,rfl,r,P,R,D,tkI ps ss i,e,t,n,rfl,tG,he.mono (nT sG),gg hz (by left),by rw[<- ea];exact im (Zg6 ps ss _) pl,fun G1 m s1 t1 ud=>?_⟩;rw[<- ea] at t1 ud;have MC:G1 Dc=some (.dK kv):=by
   obtain⟨np,DZ,h1,_⟩:=tG.pl;obtain⟨rows,h2,_,_,_,h3⟩:=tG.rl;exact s1 _ _ (fun z=>by rw[z,h1] at gD;cases gD) (fun z=>by rw[z,h2] at gD;cases gD) (fun z=>by rw[z,h3] at gD;cases gD) gD
  have AU:=sB sG s1;refine⟨_,rfl,_,kT.k (k:=.inl (m:Int)) MC (by rw[fJ];lia),hN _ _ ⟨_,_,_,rfl,fun b' o' e'=>?_,TbY.updD MC t1,Zd,gg (Wj _ _ _) (by lia),fun x' m' t' sV Ax Ds=>?_⟩⟩
  ·rw[ZF (fun z=>by rw[z,GO] at e';cases e')];exact AU _ _ e'
  ·rw[Ki]
   by_cases cm:m'=m
   ·subst cm;rw[oq rfl];rw[ud] at Ds;cases Ds;exact⟨l,rfl,hl⟩
   ·rw[oo (fun z=>cm (by have:(m':Int)=(m:Int):=iX z;lia))];have go:x'<i->∃l,XH kv (.inl (m':Int))=some (.ref l)/\H0 l=some (.lst ((st t').map V.int)):=fun ug=>by
     obtain⟨m2,uc,e2⟩:=gF (ZeY (ps:=ps) ug Ax);have e3:(tkI ps ss i)[m2]?=some t':=by rw[fG uc,e2]
     obtain⟨B,eB⟩:=WN (post t) (tkI ps ss i);have e4:(tkI ps ss (i+1))[m2]?=some t':=by rw[ea,eB,gv uc];exact e3
     obtain rfl:=zq t1.nd Ds e4;exact hv x' _ t' ug Ax e3
    apply go;have:x'≠i:=fun z=>by
     rw[z,hu] at Ax;cases Ax;exact cm (zq t1.nd Ds ud)
    lia
 rintro U G ⟨y1,y2,kv,rfl,sG,tG,gD,lk,hv⟩;have et:tkI ps ss ss.length=Zs ps (ss.map post).flatten:=by unfold tkI;rw[lI]
 rw[et] at tG hv;refine k G Dc kv sG tG gD fun t ht m hp=>?_;obtain⟨x,hx,e⟩:=gF ht;obtain⟨l,h1,h2⟩:=hv x m t hx (by rw[fG hx,e]) hp;exact⟨l,h1,sG _ _ h2⟩
theorem Zhp(v1 v2:V):Yl "rows" v2 ([("parts",v1)]:List (Str×V))=([("parts",v1),("rows",v2)]:List (Str×V)):=by simp only[Yl,oo (by left:¬(("parts" : Str) = "rows"))]
theorem Zh0(v1 v2 v3:V):Yl "numbers" v3 ([("parts",v1),("rows",v2)]:List (Str×V))=([("parts",v1),("rows",v2),("numbers",v3)]:List (Str×V)):=by simp only[Yl,oo (by left:¬(("parts" : Str) = "numbers")),oo (by left:¬(("rows" : Str) = "numbers"))]
def jK(K:W.Frag)(a:Adr):Sp:=fun vs H Q _=>Ex2 fun r dx=>Cj3 (vs=[.ref r]) (H r=some (.ins a.C_Table dx [])) (∀H' P R D,ZB r H H'->H P=none->H R=none->H D=none->r≠P->r≠R->r≠D->TbY K a.Pm a.C_Table H' r P R D []->Q .non H')
theorem Ua:Okd P w K mg base a 1 a.y15 a.z15 dr jK:=fun T hw=>by
 refine okF T.aY.f jE fun dn A outer s H vs Q E hr h=>?_;obtain⟨r,dx,rfl,Cs,k⟩:=h;refine⟨_,(Zc (Ud (pv 0) (Z7 Zb) rfl) (Zc (Ud (pv 0) (Z7 Zb) rfl) (Zf (Ud (pv 0) (Zfp (Pm:=a.Pm) hw) rfl)))),?_⟩;refine⟨by left,fun P hP=>⟨_,rfl,r,_,dx,[],rfl,Zi hP _ _ Cs,T.ai,T.aA,by left,?_⟩⟩;have nP:P≠r:=fun z=>by rw[z,Cs] at hP;cases hP
 have s1:=Zi (o:=.lst []) hP;have e1:(upd H P (.lst [])) P=some (.lst []):=Zd;generalize upd H P (.lst [])=H1 at s1 e1 ⊢;have x2:ZB r H (upd H1 r (.ins a.C_Table dx (Yl "parts" (.ref P) []))):=(Zg.x s1).upd;have pR:(upd H1 r (.ins a.C_Table dx (Yl "parts" (.ref P) []))) r=some (.ins a.C_Table dx [("parts",.ref P)]):=by rw[Zd,ZhC]
 have e2:(upd H1 r (.ins a.C_Table dx (Yl "parts" (.ref P) []))) P=some (.lst []):=WF e1 nP;generalize upd H1 r (.ins a.C_Table dx (Yl "parts" (.ref P) []))=H2 at x2 pR e2 ⊢;refine⟨by left,fun R hR=>⟨_,rfl,r,_,dx,_,rfl,Zi hR _ _ pR,T.ai,T.ao,by simp,?_⟩⟩;have nR:R≠r:=fun z=>by rw[z,pR] at hR;cases hR
 have SQ:R≠P:=fun z=>by rw[z,e2] at hR;cases hR
 have s3:=Zi (o:=.lst []) hR;have e3:(upd H2 R (.lst [])) R=some (.lst []):=Zd;have MP:=s3 _ _ e2;generalize upd H2 R (.lst [])=H3 at s3 e3 MP ⊢;have x4:ZB r H (upd H3 r (.ins a.C_Table dx (Yl "rows" (.ref R) [("parts",.ref P)]))):=(x2.trans (Zg.x s3)).upd;have AC:(upd H3 r (.ins a.C_Table dx (Yl "rows" (.ref R) [("parts",.ref P)]))) r=some (.ins a.C_Table dx [("parts",.ref P),("rows",.ref R)]):=by rw[Zd,Zhp]
 have LG:(upd H3 r (.ins a.C_Table dx (Yl "rows" (.ref R) [("parts",.ref P)]))) P=some (.lst []):=WF MP nP;have M7:(upd H3 r (.ins a.C_Table dx (Yl "rows" (.ref R) [("parts",.ref P)]))) R=some (.lst []):=WF e3 nR;generalize upd H3 r (.ins a.C_Table dx (Yl "rows" (.ref R) [("parts",.ref P)]))=H4 at x4 AC LG M7 ⊢;refine fun D hD=>⟨_,rfl,r,_,dx,_,rfl,Zi hD _ _ AC,T.ai,T.ay,by simp,?_⟩;have nD:D≠r:=fun z=>by rw[z,AC] at hD;cases hD
 have s5:=Zi (o:=DyO a.Pm D []) hD;have e5:(upd H4 D (DyO a.Pm D [])) D=some (DyO a.Pm D []):=Zd;have Hw:=s5 _ _ LG;have Mo:=s5 _ _ M7;generalize upd H4 D (DyO a.Pm D [])=H5 at s5 e5 Hw Mo ⊢;refine k _ P R D ((x4.trans (Zg.x s5)).upd) hP (x2.free nR hR) (x4.free nD hD) (fX nP) (fX nR) (fX nD) ⟨⟨dx,by rw[Zd,Zh0]⟩,⟨1,[],WF Hw nP,AtL.nil⟩,⟨[],WF Mo nR,rfl,fun e h=>(by cases h),fun i t e h=>(by simp at h),WF e5 nD⟩,by simp,fX SQ⟩
theorem jv:∀(n:Nat) {t s:Tr},psz t<=n->isC t=true->s∈post t->isC s=true
 |0,t,s,h,_,_=>by have:=Xw t;lia
 |n+1,t,s,h,hc,hs=>by
  rw[Vt,gj] at hs;rcases hs with hs|hs
  ·obtain⟨k,hk,hs⟩:=kQ hs;exact jv n (by have:=Xg hk;lia) (Zdw hc k hk) hs
  ·rw[gn.mp hs];exact hc
theorem zL{t:Tr}(hc:isC t=true):∀s∈Zs [] (post t),isC s=true:=fun s hs=>by
 rcases ZW.mp hs with h|h
 ·cases h
 ·exact jv _ (fH _) hc h
theorem yG{x:Addr}{o':HO}(h1:H x=none)(h2:H dx=none):Zg H (upd (upd H dx o) x o'):=fun b u e=>by
 rw[ZF (Zr e h1),ZF (Zr e h2)];exact e
def K3(K:W.Frag)(a:Adr):Sp:=fun vs H Q _=>Ex3 fun v t n=>Cj6 (vs=[v]) (At K n H v t) (isC t=true) (psz t<=2000000) ((Zs [] (post t)).length<4000) (∀H' L us m,Zg H H'->H L=none->H' L=some (.lst us)->AtL K m H' us (Zs [] (post t))->Q (.ref L) H')
theorem KD:Okd P w K mg base a 5 a.y20 a.z20 ["core"] K3:=fun T hw=>by
 refine okX T.b9.f xo fun dn A outer s H E hr=>?_;intro X
 let d1:Rdg X U6 [1]:=⟨_,(Zc (Yj (YD (pv 1) T.ai T.ae.m (Y2 T hw) (rmL hr rfl) T.ae.n .nil Yh (Za (pv 0) Zb rfl)) rfl) (Zf (Zm (ZU (K:=K) rfl (pv 1) rfl))))⟩
 intro vs Q h;obtain⟨v,t,n,rfl,ox,hc,hz,oG,k⟩:=h;refine⟨_,(Zc (Zo (i:=1) xo.nd rfl (.inl rfl) (zU T.cu (Ua T hw) (rmL hr rfl) rfl T.cK T.aY.n .nil Yh) rfl (.inl rfl)) d1.2),?_⟩;refine fun x dx nx F6 FY=>⟨x,dx,rfl,Zd,fun H1 P R D x1 hP hR hD nP nR nD uw=>⟨rfl,?_⟩⟩;have s0:=yG (o:=.own x) (o':=.ins a.C_Table dx []) nx F6;have s1:Zg H H1:=fun b u e=>x1 _ _ (Zr e nx) (s0 _ _ e);have fr:∀{c:Addr},(upd (upd H dx (.own x)) x (.ins a.C_Table dx [])) c=none->H c=none:=fun h=>s0.free h;have rM:=fr hP;have rV:=fr hR;have r9:=fr hD;obtain⟨GI,uD⟩:=uw.obj;refine⟨_,rfl,x,GI,_,rfl,uD,lkN (by left) (by left) (by left),_,rfl,x,P,R,D,[],v,t,n,rfl,uw,ox.mono (nT s1),gg hz (by left),oG,fun H2 i b2 sM hi=>?_⟩;have s2:Zg H H2:=fun b u e=>b2 _ _ (Zr e rM) (Zr e rV) (Zr e r9) (s1 _ _ e);obtain⟨BE,pC⟩:=sM.obj;obtain⟨np,pv,An,aP⟩:=sM.pl;exact⟨_,rfl,x,_,BE,_,_,rfl,pC,T.ai,T.aA,lkP,k H2 P pv np s2 rM An aP⟩
theorem At.hd7{m:Nat}{t:Tr}(h:At K m H v t):∃a xs,v=.ref a/\SqT K H a (.str (Zu t.lb)::xs):=by
 cases m with
 |zero=>exact h.elim
 |succ m=>
  obtain⟨a,vs,rfl,sh,_⟩:=h;cases e:t.lb with
  |yes=>rw[e] at sh;exact⟨a,[],rfl,sh.2⟩
  |sign z=>rw[e] at sh;exact⟨a,_,rfl,sh.2⟩
  |op w=>rw[e] at sh;exact⟨a,_,rfl,sh⟩
  |wit j=>rw[e] at sh;exact⟨a,_,rfl,sh⟩
  |many w=>rw[e] at sh;obtain⟨b,h1,_⟩:=sh;exact⟨a,_,rfl,h1⟩
theorem K8{t:Tr}(hc:isC t=true):Zu t.lb = "some" ↔ t.lb=.op "some" := by
 obtain⟨c,ks⟩:=t
 show Zu c = "some" ↔ c=.op "some"
 cases c with
 |yes=>exact⟨fun z=>ot (show("yes" : Str) = "some" from z) (by left),nofun⟩
 |sign z=>exact⟨fun z=>ot (show("sign" : Str) = "some" from z) (by left),nofun⟩
 |op w=>exact⟨fun z=>fS Lb.op z,fun z=>Lb.op.inj z⟩
 |wit m=>exact⟨fun z=>ot (show("within" : Str) = "some" from z) (by left),nofun⟩
 |many w=>
  have hw:w = "and" := by
   rw[Vc] at hc;unfold yP at hc;simp at hc;exact hc.2.1
  subst hw;exact⟨fun z=>ot (show("and" : Str) = "some" from z) (by left),nofun⟩
def JI(K:W.Frag)(a:Adr):Sp:=fun vs H Q _=>Ex5 fun(v:V) (n m:Nat) (c:Int) (t:Tr)=>Cj7 (vs=[v,.int (m:Nat),.int c]) (m<=20) (At K n H v t) (isC t=true) (psz t<=2000000) ((Zs [] (post t)).length<4000) (∀H' sl st ss,Zg H H'->zK K H' sl st ss->ss.length<4000->(∀s∈ss,s∈Zs [] (post t))->(∀s∈Zs [] (post t),s.lb=.op "some" -> s∈ss)->(∀s∈ss,(st s).length<=1000)->Q (.ref sl) H')
theorem JT:Okd P w K mg base a 6 a.y65 a.z65 eT JI:=fun T hw=>by
 refine okX T.bU.f Vu fun dn A outer s H E hr=>?_;intro X;have hK:X.K=K:=rfl
 let d1:Rdg X Xr [2,0,0,0,0]:=⟨_,(Zf (Yj (XE gA gH gI Z0 (pv 3) (Za (ZH (Za (pv 5) (Za (Ya (Nc:=fz) (ix:=[none,some 4,some 3]) (ZX.of (by left:ZZ (Zj Xr) xA _ _ _=true)) rfl (Y9 rfl T.aX (Za (pv 1) Zb rfl)) (fun _ _ _ _ _=>(Zz (i:=0) (show δ fz by left) rfl (.inl rfl))) (fun _ _ _ _ _=>(UK (Zn ZO (Zv Yx (Zv XL (Zq (Zk hK) (pv 1) (Zv Yx (Zp (Zy hK) rfl T.av nX (Za (pv 2) Zb rfl)) Ze) (fun _ _=>rfl)) (Zv QT Ze (pv 0))) Ze) Ze (Zx _)))) (fun _ _ _ _ _=>(pv 0))) Zb rfl) rfl)) Zb rfl)) rfl))⟩
 let d2:Rdg X Xr [2,0,0]:=⟨_,(Zf (ZJ (Zn ZO (Zq (ZD hK) (pv 5) Ze (fun _ _=>rfl)) Zl (Zx _)) d1.2 Zw))⟩
 let d3:Rdg X Xr [2]:=⟨_,(Zc (Xp gE rfl (ZQ hK (ZK T.b9 (KD T hw) hr rfl rfl (Za (pv 0) Zb rfl))) (Zz (i:=5) Vu.nd rfl (.inl rfl)) d2.2) (Zf (Zm (pv 3))))⟩
 let d4:Rdg X Xr [1]:=⟨_,(Zc (Zo (i:=4) Vu.nd rfl (.inr rfl) (ZK T.aJ (WE T hw) hr rfl rfl (Za (pv 2) (Za Ze Zb rfl) rfl)) rfl (.inl rfl)) d3.2)⟩
 intro vs Q h;obtain⟨v,n,m,c,t,rfl,hm,ox,hc,hz,oG,k⟩:=h;refine⟨_,(Zc (Zo (i:=3) Vu.nd rfl (.inr rfl) (Z7 Zb) rfl (.inl rfl)) d4.2),?_⟩;refine⟨zl,fun SL Mm=>?_⟩;refine YU Mm fun H1 s1 e1=>?_;refine⟨_,rfl,c,30,rfl,by left,fun H2 X ms s2 X0 eX lX=>?_⟩;have oR:=s1.trans s2;have To:X≠SL:=fun z=>by rw[z,e1] at X0;cases X0
 refine⟨_,rfl,v,t,n,rfl,ox.mono (nT oR),hc,hz,oG,fun H3 L us m' s3 L0 eL aL=>⟨L,rfl,⟨_,nS eL⟩,?_⟩⟩;have e3:=s3 _ _ (s2 _ _ e1);have Ov:=s3 _ _ eX;have R5:L≠SL:=fun z=>by rw[z,s2 _ _ e1] at L0;cases L0
 have rT:=oR.trans s3;have nd:(Zs [] (post t)).Nodup:=Xf (by simp);have NL:∀s∈Zs [] (post t),isC s=true:=zL hc;generalize Zs [] (post t)=ts at aL oG k nd NL;have LD:=aL.1
 let J1:Nat->L2.St->Hp->Prop:=fun i U G=>Ex4 fun(z5:Option V) (xs:List V) (st:Tr->List Int) (ss:List Tr)=>Cj9 (U=[some v,some (.int (m:Nat)),some (.int c),qr0 SL,qr0 X,z5]) (ZB SL H3 G) (G SL=some (.lst xs)) (xs.length=ss.length) (ss.length<=i) ((∀(j:Nat) x s,xs[j]?=some x->ss[j]?=some s->∃(b l:Addr) (e:V) (n:Nat),x=.ref b/\SqT K G b [e,.ref l]/\At K n G e s/\l≠SL/\G l=some (.lst ((st s).map V.int)))) ((∀s∈ss,s∈ts.take i)) ((∀s∈ts.take i,s.lb=.op "some" -> s∈ss)) (∀s∈ss,(st s).length<=1000)
 refine Wp (K:=K) (xs:=us) J1 ?_ ?_ ?_ ?_
 ·exact⟨_,[],fun _=>[],[],rfl,ZB.refl _,e3,rfl,by simp,(fun j x s h=>by simp at h),(fun s h=>ot h (by simp)),(fun s h=>ot h (by simp)),(fun s h=>ot h (by simp))⟩
 ·rintro i U G hi ⟨_,_,_,_,rfl,xG,_⟩;exact nS (xG _ _ R5 eL)
 ·rintro i u U G hu ⟨z5,xs,st,ss,rfl,xG,gS,lx,ls,it,sub,all,sh⟩;have hi:i<us.length:=(fP.mp hu).1;have uC:ts[i]?=some (ts[i]'(by lia)):=fG (by lia);have htk:ts.take (i+1)=ts.take i++[ts[i]'(by lia)]:=by rw[mD,uC];rfl
  have Mh:(ts[i]'(by lia))∉ts.take i:=fun hm=>by
   obtain⟨j,hj,e⟩:=gF hm;rw[fN] at hj;rw[Η] at e;have:=(Κ nd).mp e;lia
  generalize (ts[i]'(by lia))=p at uC htk Mh;have uG:Yv H3 G:=ZB.tup xG e3;have Ni:=(aL.2 i u p hu uC).mono uG;have HH:=NL p (gk uC);obtain⟨ad,ys,rfl,RY⟩:=At.hd7 Ni;refine⟨_,rfl,ad,_,_,_,rfl,rfl,RY,Zh (j:=0) rfl,rfl,_,rfl,YY (fun cw=>?_) (fun cw=>?_)⟩
  ·have t9:p.lb=.op "some" := (K8 HH).mp (V.str.inj (ge cw));have eXG:=xG _ _ To Ov;obtain⟨on,v0,hv,wJ⟩:=V7 (ts:=ms.map V.int) ((xs.length:Nat):Int) (by intro z;have:=fS θ z;rw[fF,lX] at this;cases this);obtain⟨y,_,rfl⟩:=fM.mp wJ;rw[fF,lX] at hv;refine⟨_,rfl,.inl ⟨rfl,_,nS gS⟩,_,rfl,_,rfl,_,rfl,by lia,by lia,fun D hD=>?_⟩;rw[hJ];refine Ug (n:=m) (fun j=>decide (V.int (y/(1*2 ^ ((j:Nat):Int).toNat)%2)=V.int 1)) (fun j=>.int (j:Nat)) hD (by rw[fJ];lia) ?_ ?_
   ·intro j hj F N N0 sF h1 h2;refine⟨_,rfl,_,rfl,.inl ⟨SL,_,rfl,.inl (nS (sF _ _ gS)),_,_,rfl,rfl,by left,X,_,_,_,rfl,rfl,nS (sF _ _ eXG),hv,_,rfl,_,_,rfl,rfl,⟨by lia,by lia,by left⟩,_,_,rfl,rfl,Zah (by lia),_,_,rfl,rfl,by left,rfl,_,rfl,YY (fun c=>?_) (fun c=>?_)⟩⟩
    ·exact⟨_,rfl,h1 _ (.refl _) c⟩
    ·exact h2 _ (.refl _) (by simpa using c)
   intro G1 eD g1;have AR:G1 D=some (.lst ((((γ m).filter fun j=>decide (V.int (y/(1*2 ^ ((j:Nat):Int).toNat)%2)=V.int 1)).map fun j:Nat=>(j:Int)).map V.int)):=by rw[fR];exact eD
   have rl:(((γ m).filter fun j=>decide (V.int (y/(1*2 ^ ((j:Nat):Int).toNat)%2)=V.int 1)).map fun j:Nat=>(j:Int)).length<=1000:=by
    rw[fF];have:=mw (fun j=>decide (V.int (y/(1*2 ^ ((j:Nat):Int).toNat)%2)=V.int 1)) (γ m);rw[gU] at this;lia
   generalize ((γ m).filter fun j=>decide (V.int (y/(1*2 ^ ((j:Nat):Int).toNat)%2)=V.int 1)).map (fun j:Nat=>(j:Int))=Eh at AR rl;clear eD;refine⟨zl,fun B hB=>?_⟩;refine YU hB fun G2 g2 e2=>?_;have Ln:=g1.trans g2;have Cq:=Ln _ _ gS;refine⟨SL,_,_,rfl,rfl,Cq,by rw[fJ];lia,?_⟩;have Io:D≠SL:=(zO gS hD).symm;have x2:ZB SL G (upd G2 SL (.lst (xs++[.ref B]))):=(Zg.x Ln).upd;have u2:Yv G (upd G2 SL (.lst (xs++[.ref B]))):=ZB.tup x2 gS;have x3:ZB SL G2 (upd G2 SL (.lst (xs++[.ref B]))):=(ZB.refl _).upd;have eS:(upd G2 SL (.lst (xs++[.ref B]))) SL=some (.lst (xs++[.ref B])):=Zd;generalize upd G2 SL (.lst (xs++[.ref B]))=G3 at x2 u2 x3 eS ⊢;have Ol:G3 D=some (.lst (Eh.map V.int)):=x3 _ _ Io (g2 _ _ AR);have TF:G3 B=some (.tup [.ref ad,.ref D]):=x3 _ _ (Y0 e2 Cq (by intro z;cases z)) e2;have Es:p∉ss:=fun z=>Mh (sub p z)
   classical
   refine⟨_,xs++[.ref B],fun s=>if s=p then Eh else st s,ss++[p],rfl,xG.trans x2,eS,by rw[fK,fK,lx];rfl,by rw[fK];simp;lia,fun j x s h1 h2=>?_,fun s hs=>?_,fun s hs hl=>?_,fun s hs=>?_⟩
   ·by_cases hj:j<xs.length
    ·rw[gv hj] at h1;rw[gv (by lia)] at h2;obtain⟨b,l,e,n',q1,q2,q3,q4,q5⟩:=it j x s h1 h2;have sp:s≠p:=fun z=>Es (by rw[<- z];exact gk h2);exact⟨b,l,e,n',q1,u2 _ _ _ q2,q3.mono u2,q4,by dsimp only;rw[oo sp];exact x2 _ _ q4 q5⟩
    ·have hl:=(fP.mp h1).1;rw[fK,gz] at hl;obtain rfl:j=xs.length:=by lia
     rw[gx (fH _),ij] at h1;rw[lx,gx (fH _),ij] at h2;cases h1;cases h2;exact⟨B,D,.ref ad,_,rfl,nU TF,Ni.mono u2,Io,by dsimp only;rw[oq rfl];exact Ol⟩
   ·rw[htk];rcases gj.mp hs with hs|hs
    ·exact gT _ (sub s hs)
    ·exact gy _ hs
   ·rw[htk] at hs;rcases gj.mp hs with hs|hs
    ·exact gT _ (all s hs hl)
    ·exact gy _ hs
   ·show(if s=p then Eh else st s).length<=1000
    split
    ·exact rl
    ·rename_i sp
     rcases gj.mp hs with hs|hs
     ·exact sh s hs
     ·exact ot (gn.mp hs) sp
  ·refine⟨_,xs,st,ss,rfl,xG,gS,lx,by lia,it,fun s hs=>?_,fun s hs hl=>?_,sh⟩
   ·rw[htk];exact gT _ (sub s hs)
   ·rw[htk] at hs;rcases gj.mp hs with hs|hs
    ·exact all s hs hl
    ·rw[gn.mp hs] at hl;exact ot (fQ (fS V.str ((K8 HH).mpr hl))) cw
 rintro U G ⟨z5,xs,st,ss,rfl,xG,gS,lx,ls,it,sub,all,sh⟩;rw[LD,iB (fH _)] at sub all;refine⟨_,rfl,k G SL st ss (fun b o e=>xG b o (Zr e Mm) (rT b o e)) ⟨xs,gS,lx,fun j x s h1 h2=>?_⟩ (by lia) sub all sh⟩;obtain⟨b,l,e,n',q1,q2,q3,_,q5⟩:=it j x s h1 h2;exact⟨b,l,e,n',q1,q2,q3,q5⟩
theorem Zdb{a b:Addr}{Q:VK}(h1:H a=some (.lst (ns.map V.int)))(h2:H b=some (.lst []))(q:∀c:Bool,(c=true↔ns≠[])->Q (.bl c) H):ZbS K true (.ref a) (.ref b) H Q:=by
 refine⟨dI ns,.list [],LI.dp ⟨a,rfl,h1⟩,.lst (nS h2) .nil,(Zba ns).1,by simp[PyData.canLay0,PyData.canLayAll0],gg (Zba ns).2 (by left),?_⟩;refine q _ ?_;cases ns with
 |nil=>simp[dI,PyData.eqv,PyData.eqvAll]
 |cons x r=>simp[dI,PyData.eqv,PyData.eqvAll]
theorem Zav{w:V}(h:LL LI H w d.ways)(g:QQ d){q:Nat}(hq:q<d.signs.length):∃(W:Addr) (uk:List V) (A:Addr) (ns:List Int),w=.ref W/\H W=some (.lst uk)/\uk[q]?=some (.ref A)/\H A=some (.lst (ns.map V.int))/\ns≠[]/\(∀x∈ns,0<=x/\x<d.signs.length)/\ns.length<=20:=by
 obtain⟨W,uk,e,hW,l,r⟩:=h;have wl:=g.wl;have h1:uk[q]?=some (uk[q]'(by lia)):=fG (by lia);have h2:d.ways[q]?=some (d.ways[q]'(by lia)):=fG (by lia);obtain⟨A,eA,hA⟩:=r q _ _ h1 h2;obtain⟨_,n1,n2,n3⟩:=g.wn _ (gk h2);exact⟨W,uk,A,_,e,hW,by rw[h1,eA],hA,n1,n2,n3⟩
theorem Zge(ns:List Int)(k:Nat)(h:k<=ns.length):Xc (ns.map V.int) none (some (k:Nat))=(ns.take k).map V.int:=by
 unfold Xc;have e0:HT.sIx (ns.map V.int).length 0 none=0:=rfl;have e:HT.sIx (ns.map V.int).length (ns.map V.int).length (some ((k:Nat):Int))=k:=by
  show(if((k:Nat):Int)<0 then(((k:Nat):Int)+((ns.map V.int).length:Nat)).toNat else min ((k:Nat):Int).toNat (ns.map V.int).length)=_
  rw[oo (by lia),fF,hJ];lia
 rw[e,e0,ω,mV,iW]
theorem ZgQ(ns:List Int)(k:Nat)(h:k<=ns.length):Xc (ns.map V.int) (some (k:Nat)) none=(ns.drop k).map V.int:=by
 unfold Xc;have e:HT.sIx (ns.map V.int).length 0 (some ((k:Nat):Int))=k:=by
  show(if((k:Nat):Int)<0 then(((k:Nat):Int)+((ns.map V.int).length:Nat)).toNat else min ((k:Nat):Int).toNat (ns.map V.int).length)=_
  rw[oo (by lia),fF,hJ];lia
 have e1:HT.sIx (ns.map V.int).length (ns.map V.int).length none=(ns.map V.int).length:=rfl;rw[e,e1,iB (by rw[gQ];lia),m5]
theorem Je(h:y∈Xc xs lo hi):y∈xs:=by
 unfold Xc at h;exact List.mem_of_mem_drop (nQ h)
theorem ZaE(xs:List V)(lo hi:Option Int):(Xc xs lo hi).length<=xs.length:=by
 unfold Xc;rw[fN,gQ];lia
def Kj(K:W.Frag)(a:Adr):Sp:=fun vs H Q _=>Ex7 fun(t:Addr) (s w st f:V) (d:WD) (c:Int)=>Cj5 (vs=[.ref t,.int c]) (H t=some (.tup [s,w,st,f])) (Wa H s w st f d) (QQ d) (∀H' r,Zg H H'->(r=.non\/∃rn way ring,r=.ref rn/\ji (New H H') rn d.signs.length way ring/\(way++ring).length<=60)->Q r H')
theorem Kr:Okd P w K mg base a 2 a.y64 a.z64 eU Kj:=fun T hw=>by
 refine okX T.cf.f YZ fun dn A outer s H E hr=>?_;intro X;have hK:X.K=K:=rfl
 let d1:Rdg X YC [3,0,0]:=⟨_,(Zc (Zo (i:=3) YZ.nd rfl (.inl rfl) (Zq (Zk hK) (Zq (Zk hK) (Zq (ZD hK) (pv 0) Ze (fun _ _=>rfl)) (pv 3) (fun _ _=>rfl)) (Zv Yx (pv 5) (Zp (Zy hK) rfl T.av nX (Za (Zq (Zk hK) (Zq (ZD hK) (pv 0) Ze (fun _ _=>rfl)) (pv 3) (fun _ _=>rfl)) Zb rfl))) (fun _ _=>rfl)) rfl (.inl rfl)) (Zf (Yj (XE gA gH gI Z0 (pv 4) (Za (pv 3) Zb rfl)) rfl)))⟩
 let d2:Rdg X YC [4,0,1,0,1]:=⟨_,(Zf (Zm (ZH (Za (Z1 (YI hK) (pv 4) Yr (Z4 (pv 8))) (Za (Z1 (YI hK) (pv 4) (Z4 (pv 8)) Yr) Zb rfl) rfl))))⟩
 let d3:Rdg X YC [4,0,1,0,0]:=⟨_,(Zc (Zo (i:=8) YZ.nd rfl (.inl rfl) (Zq (Zk hK) (pv 7) (Zv Yx (Zq (Zk hK) (pv 2) Ze (fun _ _=>rfl)) (Zp (Zy hK) rfl T.av nX (Za (pv 7) Zb rfl))) (fun _ _=>rfl)) rfl (.inl rfl)) d2.2)⟩
 let d4:Rdg X YC [4,0,2]:=⟨_,(Zc (Zo (i:=3) YZ.nd rfl (.inl rfl) (Zq (Zk hK) (Zq (Zk hK) (Zq (ZD hK) (pv 0) Ze (fun _ _=>rfl)) (pv 3) (fun _ _=>rfl)) (Zv Yx (Zq (Zk hK) (pv 2) Ze (fun _ _=>rfl)) (Zp (Zy hK) rfl T.av nX (Za (Zq (Zk hK) (Zq (ZD hK) (pv 0) Ze (fun _ _=>rfl)) (pv 3) (fun _ _=>rfl)) Zb rfl))) (fun _ _=>rfl)) rfl (.inl rfl)) (Zf (Yj (XE gA gH gI Z0 (pv 4) (Za (pv 3) Zb rfl)) rfl)))⟩
 let d5:Rdg X YC [4,0,1]:=⟨_,(Zc (ZJ (Zn (ZfH hK (Y8.units hr)) (pv 7) (Z7 Zb) (Zx _)) d3.2 Zw) d4.2)⟩
 let d6:Rdg X YC [4,0,0]:=⟨_,(Zc (Wh (i:=7) YZ.nd rfl rfl (Nc:=fA) (ix:=[none,some 4,some 0]) (ZX.of (by left:ZZ (Zj YC) vK _ _ _=true)) rfl (Y9 rfl T.aX (Za (Zp (Zy hK) rfl T.av nX (Za (pv 4) Zb rfl)) Zb rfl)) (fun _ _ _ _ _=>(Zz (i:=0) (show δ fA by left) rfl (.inl rfl))) (fun _ _ _ _ _=>(UK (Zn (WJ hK) (Zq (Zk hK) (pv 1) (pv 0) (fun _ _=>rfl)) (Zq (Zk hK) (Zq (ZD hK) (pv 2) Ze (fun _ _=>rfl)) (Zq (Zk hK) (pv 1) (VY WB Ze) (fun _ _=>rfl)) (fun _ _=>rfl)) (by with_unfolding_all rfl)))) (fun _ _ _ _ _=>(pv 0))) d5.2)⟩
 let d7:Rdg X YC [4]:=⟨_,(Zc (Xp gE rfl (Y9 rfl T.aX (Za Ze Zb rfl)) (Zz (i:=6) YZ.nd rfl (.inl rfl)) d6.2) (Zf (Zm ZdB)))⟩
 let d8:Rdg X YC [3]:=⟨_,(Zc (Xp gE rfl (ZQ hK (Z1 (YI hK) (pv 2) (Z4 Ze) (Z4 (Zv Z5 (Zv Z5 Ze Ze) (Zv Yx (Zq (Zk hK) (pv 2) Ze (fun _ _=>rfl)) Ze))))) (Zz (i:=5) YZ.nd rfl (.inl rfl)) d1.2) d7.2)⟩
 let d9:Rdg X YC [2]:=⟨_,(Zc (Zo (i:=4) YZ.nd rfl (.inr rfl) (Z7 (Za (pv 3) Zb rfl)) rfl (.inl rfl)) d8.2)⟩
 let uj:Rdg X YC [1]:=⟨_,(Zc (Zo (i:=3) YZ.nd rfl (.inl rfl) (Zv Yx (Zq (Zk hK) (pv 2) Ze (fun _ _=>rfl)) (Zp (Zy hK) rfl T.av nX (Za (Zq (ZD hK) (pv 0) Ze (fun _ _=>rfl)) Zb rfl))) rfl (.inl rfl)) d9.2)⟩
 intro vs Q h;obtain⟨t,s,w,st,f,d,c,rfl,ht,sI,gd,k⟩:=h;refine⟨_,(Zc (Zo (i:=2) YZ.nd rfl (.inl rfl) (ZK T.aJ (WE T hw) hr rfl rfl (Za (pv 1) (Za Ze Zb rfl) rfl)) rfl (.inl rfl)) uj.2),?_⟩;have n1:=gd.n1;have n20:=gd.n20;obtain⟨S0,AS,rfl,hS,lS,_⟩:=id sI.s;refine⟨_,rfl,c,14,rfl,by left,fun H1 X ms s1 X0 eX lX=>?_⟩;have Dh:ms[0]?=some (ms[0]'(by lia)):=fG _;have ud:ms[1]?=some (ms[1]'(by lia)):=fG _;have CS:ms[12]?=some (ms[12]'(by lia)):=fG _;have C4:ms[13]?=some (ms[13]'(by lia)):=fG _;have DW:∀{j:Nat}{y:Int},ms[j]?=some y->atI (ms.map V.int) ((j:Nat):Int)=some (.int y):=fun {j y} h=>Zh (by rw[fO,h];rfl);generalize (ms[0]'(by lia))=m0 at Dh;generalize (ms[1]'(by lia))=m1 at ud;generalize (ms[12]'(by lia))=m12 at CS;generalize (ms[13]'(by lia))=m13 at C4;refine⟨_,rfl,X,_,_,_,rfl,rfl,nS eX,DW Dh,_,rfl,t,_,_,_,rfl,rfl,nU (s1 _ _ ht),Zh (j:=0) rfl,.inl ⟨S0,_,rfl,.inl (nS (s1 _ _ hS)),_,_,rfl,rfl,by lia,?_⟩⟩;have q0:=iA m0 (show((AS.length:Nat):Int)≠0 by lia);have q1:=iP m0 (show(0:Int)<((AS.length:Nat):Int) by lia);obtain⟨q,eq⟩:∃q:Nat,m0%((AS.length:Nat):Int)=((q:Nat):Int):=⟨(m0%((AS.length:Nat):Int)).toNat,by lia⟩;rw[eq];have hq:q<d.signs.length:=by lia
 refine⟨_,rfl,zl,fun R hR=>?_⟩;refine YU hR fun H2 s2 e2=>?_;have oR:=s1.trans s2;have R0:H R=none:=s1.free hR;have MK:X≠R:=Zr eX hR;refine⟨_,rfl,_,rfl,_,_,rfl,rfl,_,rfl,X,_,_,_,rfl,rfl,nS (s2 _ _ eX),DW ud,_,_,rfl,rfl,by left,_,_,rfl,rfl,_,rfl,X,_,rfl,nS (s2 _ _ eX),fun Y hY=>?_⟩;obtain⟨W,_,rfl,_,_,_⟩:=id sI.w;have Lc:∀y∈Xc (ms.map V.int) (some 2) (some (2+1+m1%9)),∃x:Int,y=.int x:=fun y hy=>by
  obtain⟨x,_,e⟩:=fM.mp (Je hy);exact⟨x,e.symm⟩
 have yl:(Xc (ms.map V.int) (some 2) (some (2+1+m1%9))).length<=14:=by
  have:=ZaE (ms.map V.int) (some 2) (some (2+1+m1%9));rw[fF] at this;lia
 generalize Xc (ms.map V.int) (some 2) (some (2+1+m1%9))=ys at Lc yl;refine Xh hY fun H3 s3 e3=>?_;have rT:=oR.trans s3;have Om:Y≠R:=(Zr e2 hY).symm;refine⟨Y,rfl,⟨_,nS e3⟩,?_⟩
 let J1:Nat->L2.St->Hp->Prop:=fun i U H'=>Ex6 fun(z5 z6 z7 z8:Option V) (q:Nat) (rs:List Int)=>Cj7 (U=[qr0 t,some (.int c),qr0 X,some (.int (q:Nat)),qr0 R,z5,z6,z7,z8]) (ZB R H3 H') (H' R=some (.lst (rs.map V.int))) (q<d.signs.length) (rs≠[]) (rs.length<=i+1) (∀x∈rs,0<=x/\x<((d.signs.length:Nat):Int))
 refine Wp (K:=K) (xs:=ys) J1 ?_ ?_ ?_ ?_
 ·refine⟨_,_,_,_,q,[((q:Nat):Int)],rfl,ZB.refl _,s3 _ _ e2,hq,by simp,by simp,fun x hx=>?_⟩;rw[gn.mp hx];exact⟨by lia,by lia⟩
 ·rintro i U H' hi ⟨_,_,_,_,_,_,rfl,xG,_⟩;exact nS (xG _ _ Om e3)
 ·clear hq q0 q1 eq e2;rintro i xv U G hx ⟨z5,z6,z7,z8,q,rs,rfl,xG,gR,hq,C5,rl,rb⟩;obtain⟨x,rfl⟩:=Lc xv (gk hx);have hi:i<ys.length:=(fP.mp hx).1;have sG:Zg H G:=fun b o e=>xG b o (Zr e R0) (rT b o e);obtain⟨W',uk,A,ns,ew,hW,ww,hA,CU,nb,nl⟩:=Zav sI.w gd hq;cases ew;obtain⟨on,v,hv,wJ⟩:=V7 (ts:=ns.map V.int) x (by simpa using CU);obtain⟨y,hy,rfl⟩:=fM.mp wJ;obtain⟨y0,y1⟩:=nb y hy;obtain⟨q',rfl⟩:=iQ y0;refine⟨_,rfl,t,_,_,_,rfl,rfl,nU (sG _ _ ht),Zh (j:=1) rfl,_,rfl,W,_,_,_,rfl,rfl,nS (sG _ _ hW),Zh ww,_,rfl,_,rfl,t,_,_,_,rfl,rfl,nU (sG _ _ ht),Zh (j:=1) rfl,_,rfl,W,_,_,_,rfl,rfl,nS (sG _ _ hW),Zh ww,.inl ⟨A,_,rfl,.inl (nS (sG _ _ hA)),_,_,rfl,rfl,on,A,_,_,_,rfl,rfl,nS (sG _ _ hA),hv,?_⟩⟩;refine⟨_,rfl,.inl ⟨rfl,_,nS gR⟩,_,rfl,R,_,_,rfl,rfl,gR,by rw[fF,fJ];lia,?_⟩;refine⟨_,_,_,_,q',rs++[((q':Nat):Int)],rfl,xG.upd,by rw[Zd,gp];rfl,by lia,by simp,by rw[fK];simp;lia,fun x hx=>?_⟩;rcases gj.mp hx with hx|hx
  ·exact rb x hx
  ·rw[gn.mp hx];exact⟨y0,y1⟩
 clear hq q0 q1 eq e2;rintro U G ⟨z5,z6,z7,z8,q,rs,rfl,xG,gR,hq,C5,rl,rb⟩;have Sb:rs.length<=15:=by lia
 clear rl;refine⟨_,rfl,by left,by left,?_⟩
 let J2:Nat->L2.St->Hp->Prop:=fun i U H'=>Ex6 fun(z5 z6 z7 z8:Option V) (q:Nat) (rs:List Int)=>Cj7 (U=[qr0 t,some (.int c),qr0 X,some (.int (q:Nat)),qr0 R,z5,z6,z7,z8]) (ZB R H3 H') (H' R=some (.lst (rs.map V.int))) (q<d.signs.length) (rs≠[]) (rs.length<=i+15) (∀x∈rs,0<=x/\x<((d.signs.length:Nat):Int))
 refine WZ (J:=Itr 0 40) (n:=40) J2 ?_ ?_ ?_ ?_ ?_
 ·exact⟨_,_,_,_,q,rs,rfl,xG,gR,hq,C5,by lia,rb⟩
 ·rintro i U G' hi _;exact hi
 ·rintro U G' _;exact fH _
 ·clear xG gR hq C5 Sb rb;rintro i xv U G0 G hi ⟨z5,z6,z7,z8,q,rs,rfl,xG,gR,hq,C5,rl,rb⟩ ⟨rfl,rfl⟩;have sG:Zg H G:=fun b o e=>xG b o (Zr e R0) (rT b o e);have rp:1<=rs.length:=l9.mpr C5;have oB:(rs[rs.length-1]'(by lia))∈rs:=gC _;generalize hle:(rs[rs.length-1]'(by lia))=la at oB;obtain⟨b0,b1⟩:=rb la oB;obtain⟨qa,rfl⟩:=iQ b0;obtain⟨W',uk,A,ns,ew,hW,ww,hA,CU,nb,nl⟩:=Zav sI.w gd (q:=qa) (by lia);cases ew;refine⟨_,rfl,.inl ⟨R,_,rfl,.inl (nS gR),_,rfl,by rw[fF];lia,by rw[fF];lia,fun D hD=>?_⟩⟩;rw[fF,hJ];have GU:atI (rs.map V.int) (-1)=some (.int ((qa:Nat):Int)):=by
   have h:=xQ (xs:=rs.map V.int) (p:=1) (by left) (by rw[fF];exact rp);rw[show(-((1:Nat):Int))=-1 from rfl] at h;rw[h,nC];have e:(rs[(rs.map V.int).length-1]'(by rw[fF];lia))=((qa:Nat):Int):=by rw[<- hle];congr 1;rw[fF]
   rw[e]
  refine Ug (fun k=>decide (rs.getD k 0∈ns)) (fun k=>.int (k:Nat)) hD (by rw[fJ];lia) ?_ ?_
  ·intro kk hk G1 N N0 sg hN o5;have BH:=sg _ _ gR;have uh:(rs.map V.int)[kk]?=some (.int (rs.getD kk 0)):=by rw[fO,fG hk,ii,fG hk];rfl
   refine⟨_,rfl,_,rfl,R,_,_,_,rfl,rfl,nS BH,Zh uh,_,rfl,t,_,_,_,rfl,rfl,nU (sg _ _ (sG _ _ ht)),Zh (j:=1) rfl,_,rfl,_,rfl,R,_,_,_,rfl,rfl,nS BH,GU,W,_,_,_,rfl,rfl,nS (sg _ _ (sG _ _ hW)),Zh ww,A,_,rfl,.inl (nS (sg _ _ (sG _ _ hA))),rfl,qT _,?_⟩;rw[oo gw,xP];refine⟨_,rfl,YY (fun h=>?_) (fun h=>?_)⟩
   ·exact⟨_,rfl,hN G1 (.refl _) h⟩
   ·exact o5 G1 (.refl _) (by simpa using h)
  intro G1 eD sg;have BH:=sg _ _ gR;have AR:G1 D=some (.lst ((((γ rs.length).filter fun k=>decide (rs.getD k 0∈ns)).map fun k:Nat=>(k:Int)).map V.int)):=by rw[fR];exact eD
  have kin:∀k∈(γ rs.length).filter (fun k=>decide (rs.getD k 0∈ns)),k<rs.length:=fun k hk=>i9.mp (iC.mp hk).1;generalize (γ rs.length).filter (fun k=>decide (rs.getD k 0∈ns))=ks at AR kin;clear eD;refine⟨_,rfl,zl,fun Z hZ=>?_⟩;obtain⟨G2,qN,g2,eZ⟩:=xI (o:=.lst []) hZ;rw[qN];  clear qN;have we:=sg.trans g2;refine Zdb (g2 _ _ AR) eZ fun cc Dx=>⟨_,rfl,YY (fun h=>?_) (fun h=>?_)⟩
  ·have Ge:ks≠[]:=fun z=>(Dx.mp h) (by rw[z];rfl);have Gn:G2 X=some (.lst (ms.map V.int)):=we _ _ (xG _ _ MK (s3 _ _ (s2 _ _ eX)));have DF:=g2 _ _ AR;obtain⟨on,v,hv,wJ⟩:=V7 (ts:=(ks.map fun k:Nat=>(k:Int)).map V.int) m12 (by simpa using Ge);obtain⟨y,hy,rfl⟩:=fM.mp wJ;obtain⟨kc,Tq,rfl⟩:=fM.mp hy;have hk:=kin kc Tq;have uf:=g2 _ _ BH;refine⟨_,rfl,_,rfl,X,_,_,_,rfl,rfl,nS Gn,DW CS,_,rfl,.inl ⟨D,_,rfl,.inl (nS DF),_,_,rfl,rfl,on,D,_,_,_,rfl,rfl,nS DF,hv,?_⟩⟩;refine⟨_,rfl,_,rfl,_,rfl,R,_,rfl,nS uf,fun p1 rj=>?_⟩;rw[Zge rs kc (by lia)];refine Xh rj fun G3 g3 e1=>?_;refine⟨_,rfl,_,rfl,_,rfl,R,_,rfl,nS (g3 _ _ uf),fun p2 sU=>?_⟩;rw[ZgQ rs kc (by lia)];refine YU sU fun G4 g4 e4=>?_;refine⟨zl,fun p3 wz=>?_⟩;refine YU wz fun G5 g5 e5=>?_;refine k G5 _ (sG.trans (we.trans (g3.trans (g4.trans g5)))) (.inr ⟨p3,rs.take kc,rs.drop kc,rfl,⟨⟨p1,p2,New.mk ((sG.trans (we.trans (g3.trans g4))).free wz) e5,New.mk ((sG.trans we).free rj) (g5 _ _ (g4 _ _ e1)),New.mk ((sG.trans (we.trans g3)).free sU) (g5 _ _ e4)⟩,fun z=>?_,fun x hx=>?_⟩,?_⟩)
   ·have:=fS θ z;rw[gQ] at this;simp at this;lia
   ·rw[nG] at hx;exact rb x hx
   ·rw[nG];lia
  ·have Gn:G2 X=some (.lst (ms.map V.int)):=we _ _ (xG _ _ MK (s3 _ _ (s2 _ _ eX)));have uf:=g2 _ _ BH;have Ri:ZB R H3 G2:=xG.trans (Zg.x we);have AV:Zg H G2:=sG.trans we;clear hA ww hW CU nb nl ns uk A;obtain⟨W',uk,A,ns,ew,hW,ww,hA,CU,nb,nl⟩:=Zav sI.w gd hq;cases ew;obtain⟨on,v,hv,wJ⟩:=V7 (ts:=ns.map V.int) m13 (by simpa using CU);obtain⟨y,hy,rfl⟩:=fM.mp wJ;obtain⟨y0,y1⟩:=nb y hy;obtain⟨q',rfl⟩:=iQ y0;refine⟨_,rfl,t,_,_,_,rfl,rfl,nU (AV _ _ ht),Zh (j:=1) rfl,_,rfl,W,_,_,_,rfl,rfl,nS (AV _ _ hW),Zh ww,_,rfl,X,_,_,_,rfl,rfl,nS Gn,DW C4,_,rfl,t,_,_,_,rfl,rfl,nU (AV _ _ ht),Zh (j:=1) rfl,_,rfl,W,_,_,_,rfl,rfl,nS (AV _ _ hW),Zh ww,.inl ⟨A,_,rfl,.inl (nS (AV _ _ hA)),_,_,rfl,rfl,on,A,_,_,_,rfl,rfl,nS (AV _ _ hA),hv,?_⟩⟩;refine⟨_,rfl,.inl ⟨rfl,_,nS uf⟩,_,rfl,R,_,_,rfl,rfl,uf,by rw[fF,fJ];lia,?_⟩;refine⟨_,_,_,_,q',rs++[((q':Nat):Int)],rfl,Ri.upd,by rw[Zd,gp];rfl,by lia,by simp,by rw[fK];simp;lia,fun x hx=>?_⟩;rcases gj.mp hx with hx|hx
   ·exact rb x hx
   ·rw[gn.mp hx];exact⟨y0,y1⟩
 rintro U G' ⟨z5,z6,z7,z8,q,rs,rfl,xG,_⟩;exact k G' .non (fun b o e=>xG b o (Zr e R0) (rT b o e)) (.inl rfl)
theorem Zei:∀(l:List Nat) (b:Nat),((l.map fun n:Nat=>(n:Int)).foldl (fun b y=>if y>b then y else b) (b:Int))=((max b (mx l):Nat):Int)
 |[],b=>by simp[mx]
 |x::l,b=>by
  rw[fL,List.foldl_cons];have e:(if((x:Nat):Int)>(b:Int) then((x:Nat):Int) else(b:Int))=((max b x:Nat):Int):=by
   split<;>lia
  rw[e,Zei l (max b x)]
  show _=((max b (max x (mx l)):Nat):Int)
  lia
theorem Zff(l:List Nat):mxL 0 (l.map fun n:Nat=>(n:Int))=((mx l:Nat):Int):=by
 cases l with
 |nil=>rfl
 |cons x l=>exact Zei l x
def Vo(n:Nat)(K:W.Frag)(a:Adr):Sp:=fun vs H Q _=>Ex3 fun v t m=>Cj4 (vs=[v]) (m<n) (At K m H v t) (∀H',Zg H H'->Q (.int ((hgt t:Nat):Int)) H')
theorem yC{Q:VK}{E:XK}(h:Vo 0 K a vs H Q E):False:=by
 obtain⟨_,_,m,_,hm,_⟩:=h;lia
theorem Jb(T:Txt K mg a)(hw:w.params=a.Pm):∀n:Nat,Uo P w K mg base CX0 (1+n) a.y62 a.z62 ["_law_sentence"] (Vo n K a):=by
 intro n
 induction n with
 |zero=>exact⟨fun _ _ _ _ h=>(yC h).elim,fun _ _ _ _ _ _ _ _ _ _ _ _ _ h=>(yC h).elim⟩
 |succ n bV=>
  refine T.aG.f.ok Wo (fun vs H Q E h=>?_) (fun dn A outer s H vs Q E hr h=>?_)
  ·obtain⟨v,t,m,rfl,_⟩:=h;rfl
  ·obtain⟨v,t,m,rfl,hm,ox,k⟩:=h;refine⟨_,(Zc (Zo (i:=1) Wo.nd rfl (.inl rfl) (Zq (ZD (K:=K) rfl) (pv 0) Ze (fun _ _=>rfl)) rfl (.inl rfl)) (Zc (ZJ (PW.pt (Vk (Zn ZO (pv 1) Zl (Zx _)) (X8 (Zn ZO (pv 1) Zl (Zx _))))) (Zf (Zm Ze)) Zw) (Zc (Zo (i:=2) Wo.nd rfl (.inl rfl) (ZI (Xz (K:=K) rfl rfl) rfl T.a9 nV (Za (Z1 (WW (K:=K) rfl) (pv 0) (Z4 Ze) Yr) Zb rfl)) rfl (.inl rfl)) (Zc (ZJ (PW.pt (Vk (Zn ZO (pv 1) Zl (Zx _)) (X8 (Zn ZO (pv 1) Zl (Zx _))))) (Zf (Zo (i:=2) Wo.nd rfl (.inl rfl) (ZI (Xz (K:=K) rfl rfl) rfl T.a9 nV (Za (Zq (ZD (K:=K) rfl) (pv 0) Ze (fun _ _=>rfl)) Zb rfl)) rfl (.inl rfl))) Zw) (Zc (ZJ (Zn ZO (pv 1) Zl (Zx _)) (Zf (Zo (i:=2) Wo.nd rfl (.inl rfl) (ZI (Xz (K:=K) rfl rfl) rfl T.a9 nV (Za (Z1 (WW (K:=K) rfl) (pv 0) (Z4 Ze) Yr) Zb rfl)) rfl (.inl rfl))) Zw) (Zf (Zm (Zv Z5 Ze (ZfF (K:=K) rfl rfl rfl T.cY oi (Ya (Nc:=dB) (ix:=[none]) (ZX.of (by left:ZZ (Zj V0) xn _ _ _=true)) rfl (ZQ (K:=K) rfl (pv 2)) (fun _ _ _ _ _=>(Zz (i:=0) (show δ dB by left) rfl (.inl rfl))) (fun _ _ _ _ _=>Ys) (fun _ _ _ _ _=>(XY bV hr rfl T.aG.g T.aG.f.kp T.aG.n .nil Yh (Za (pv 0) Zb rfl)))) Ze))))))))),?_⟩;cases m with
   |zero=>exact ox.elim
   |succ m=>
    obtain⟨ad,us,rfl,sh,ok,hl,hq⟩:=ox;have BG:=vW t;have kk:∀z:Int,z=((hgt t:Nat):Int)->∀H',Zg H H'->Q (.int z) H':=fun z e=>by subst e;exact k
    rw[BG] at kk;clear k BG;obtain⟨c,ks⟩:=t;simp only[Tr.lb,Tr.ks] at sh ok hl hq kk;have rY:∀(w:Str) (L:Addr) (G:Hp),Zg H G->G L=some (.lst us)->ZhT (tOp (rI0 fun i j=>V.int (i+j)) (tC (V.int 1)) (ZfV K (JW (ZdR K (xM 2)) [none] (V4 0) zx (J7 (Vo n K a) [] E0 (xX (xM 0) Jz))) (tC (V.int 0)))) { nx:=fun x H'=>Q V.non H',rt:=Q } [qr0 ad,some (.str w),qr0 L] G:=fun w L G g0 eL=>by
     have zf:(us.zip ks).map (fun e=>e.1)=us:=my (by lia);have zs:(us.zip ks).map (fun e=>V.int ((hgt e.2:Nat):Int))=((ks.map hgt).map fun z:Nat=>(z:Int)).map V.int:=by
      have:(us.zip ks).map ζ=ks:=mz (by lia)
      conv=>rhs;rw[<- this]
      rw[fR,fR,fR];rfl
     have l8:=Zib ok;refine⟨_,rfl,L,rfl,⟨_,nS eL⟩,fun D hD=>?_⟩;refine We (K:=K) (us.zip ks) (fun e=>e.1) (fun e=>V.int ((hgt e.2:Nat):Int)) hD (by rw[zf];exact nS eL) (by rw[io,fJ];lia) ?_ ?_
     ·rintro⟨u,kd⟩ hx G1 N sG hN;obtain⟨j,hj⟩:=iU.mp hx;rw[lG] at hj;exact⟨_,rfl,u,kd,m,rfl,by lia,(hq j u kd hj.1 hj.2).mono (nT (g0.trans sG)),fun H' s'=>hN H' s'⟩
     intro G1 eD sG;rw[zs] at eD;refine⟨D,_,0,rfl,rfl,nS eD,?_⟩;refine⟨_,_,rfl,rfl,kk _ ?_ G1 (g0.trans sG)⟩;rw[Zff];lia
    cases c with
    |yes=>
     refine⟨_,rfl,ad,_,_,_,rfl,rfl,sh.2,Zh (j:=0) rfl,?_⟩;obtain rfl:ks=[]:=gX.mp ok;exact⟨_,rfl,rfl,_,rfl,Y7 rfl (YM (kk _ rfl H (.refl _)))⟩
    |sign z=>
     refine⟨_,rfl,ad,_,_,_,rfl,rfl,sh.2,Zh (j:=0) rfl,?_⟩;obtain rfl:ks=[]:=gX.mp ok.1;exact⟨_,rfl,rfl,_,rfl,ZR (fun z=>ot (V.str.inj z) (by left)) ⟨_,rfl,rfl,_,rfl,Y7 rfl (kk _ rfl H (.refl _))⟩⟩
    |op w=>
     refine⟨_,rfl,ad,_,_,_,rfl,rfl,sh,Zh (j:=0) rfl,?_⟩;obtain⟨h1,h2,h3,h4,h5⟩:=ya w (by rcases ok with ok|ok;exact gT _ ok.1;exact gy _ ok.1);have nz:∀{z:Str}{l:List Str},w∉l->z∈l->V.str w≠V.str z:=fun h hz e=>h (by rw[V.str.inj e];exact hz);refine⟨_,rfl,rfl,_,rfl,ZR (nz h5 (by simp)) ⟨_,rfl,rfl,_,rfl,ZR (nz h5 (by simp)) ?_⟩⟩;refine⟨_,rfl,_,rfl,ad,_,rfl,sh,UD (by left) (by rcases ok with ok|ok<;>simp<;>lia),fun r hr=>?_⟩;rw[qp];refine YU hr fun H1 s1 e1=>?_;refine .inl ⟨r,_,rfl,.inr (nU e1),fun L hL=>?_⟩;refine YU hL fun H2 s2 e2=>?_;refine⟨_,rfl,rfl,_,rfl,ZR (nz h3 (by simp)) ⟨_,rfl,rfl,_,rfl,ZR (nz h3 (by simp)) ?_⟩⟩;exact⟨_,rfl,rfl,_,rfl,ZR (fun z=>h4 (V.str.inj z)) (rY w L H2 (s1.trans s2) e2)⟩
    |wit d=>
     obtain⟨hd,h2⟩:=ok;refine⟨_,rfl,ad,_,_,_,rfl,rfl,sh,Zh (j:=0) rfl,?_⟩;refine⟨_,rfl,rfl,_,rfl,ZR (fun z=>ot (V.str.inj z) (by left)) ⟨_,rfl,rfl,_,rfl,ZR (fun z=>ot (V.str.inj z) (by left)) ?_⟩⟩;refine⟨_,rfl,_,rfl,ad,_,rfl,sh,UD (by left) (by simp<;>lia),fun r hr=>?_⟩;rw[qp];refine YU hr fun H1 s1 e1=>?_;refine .inl ⟨r,_,rfl,.inr (nU e1),fun L hL=>?_⟩;refine YU hL fun H2 s2 e2=>?_;have oR:=s1.trans s2;refine⟨_,rfl,rfl,_,rfl,ZR (fun z=>ot (V.str.inj z) (by left)) ⟨_,rfl,rfl,_,rfl,ZR (fun z=>ot (V.str.inj z) (by left)) ?_⟩⟩;refine⟨_,rfl,rfl,_,rfl,Y7 rfl ?_⟩;refine⟨_,rfl,_,rfl,ad,_,rfl,nT oR _ _ _ sh,UD (by left) (by simp;lia),fun r2 pR=>?_⟩;rw[vB];refine YU pR fun H3 s3 e3=>?_;refine .inl ⟨r2,_,rfl,.inr (nU e3),fun L2 wZ=>?_⟩;refine YU wZ fun H4 s4 e4=>?_;exact rY _ L2 H4 (oR.trans (s3.trans s4)) e4
    |many w=>
     obtain⟨b,pM,Al⟩:=sh;have oO:w∈(["and","or"]:List Str):=by rcases ok.1 with rfl|rfl<;>simp
     obtain⟨h1,h2,h3,h4,_⟩:=WH w oO;have nz:∀{z:Str}{l:List Str},w∉l->z∈l->V.str w≠V.str z:=fun h hz e=>h (by rw[V.str.inj e];exact hz);refine⟨_,rfl,ad,_,_,_,rfl,rfl,pM,Zh (j:=0) rfl,?_⟩;refine⟨_,rfl,rfl,_,rfl,ZR (nz h4 (by simp)) ⟨_,rfl,rfl,_,rfl,ZR (nz h4 (by simp)) ?_⟩⟩;refine⟨_,rfl,_,rfl,ad,_,rfl,pM,UD (by left) (by simp<;>lia),fun r hr=>?_⟩;rw[qp];refine YU hr fun H1 s1 e1=>?_;refine .inl ⟨r,_,rfl,.inr (nU e1),fun L hL=>?_⟩;refine YU hL fun H2 s2 e2=>?_;have oR:=s1.trans s2;have wn:V.str w≠V.str "within" := by rcases ok.1 with rfl|rfl<;>exact fun z=>ot (V.str.inj z) (by left)
     rcases ok.1 with rfl|rfl
     ·refine⟨_,rfl,rfl,_,rfl,Y7 rfl (YM ?_)⟩;refine⟨_,rfl,ad,_,_,_,rfl,rfl,nT oR _ _ _ pM,Zh (j:=1) rfl,.inl ⟨b,_,rfl,.inr (nT oR _ _ _ Al),fun L2 wZ=>?_⟩⟩;refine YU wZ fun H4 s4 e4=>?_;exact⟨_,rfl,rfl,_,rfl,ZR wn (rY _ L2 H4 (oR.trans s4) e4)⟩
     ·refine⟨_,rfl,rfl,_,rfl,ZR (fun z=>ot (V.str.inj z) (by left)) ⟨_,rfl,rfl,_,rfl,Y7 rfl ?_⟩⟩;refine⟨_,rfl,ad,_,_,_,rfl,rfl,nT oR _ _ _ pM,Zh (j:=1) rfl,.inl ⟨b,_,rfl,.inr (nT oR _ _ _ Al),fun L2 wZ=>?_⟩⟩;refine YU wZ fun H4 s4 e4=>?_;exact⟨_,rfl,rfl,_,rfl,ZR wn (rY _ L2 H4 (oR.trans s4) e4)⟩
theorem jj:∀z:List Nat,(z.map fun n:Nat=>(n:Int)).sum=((z.sum:Nat):Int)
 |[]=>rfl
 |x::z=>by
  rw[fL,gG,gG,jj z];lia
theorem Qi{L:Int}(h:L=n):(if L-1>0 then L-1 else 0)=((n-1:Nat):Int):=by
 split<;>lia
def UT(n:Nat)(K:W.Frag)(a:Adr):Sp:=fun vs H Q _=>Ex3 fun v t m=>Cj4 (vs=[v]) (m<n) (At K m H v t) (∀H',Zg H H'->Q (.int ((cz t:Nat):Int)) H')
theorem yo{Q:VK}{E:XK}(h:UT 0 K a vs H Q E):False:=by
 obtain⟨_,_,m,_,hm,_⟩:=h;lia
theorem JC(T:Txt K mg a)(hw:w.params=a.Pm):∀n:Nat,Uo P w K mg base CX0 (1+n) a.y61 a.z61 ["_law_sentence"] (UT n K a):=by
 intro n
 induction n with
 |zero=>exact⟨fun _ _ _ _ h=>(yo h).elim,fun _ _ _ _ _ _ _ _ _ _ _ _ _ h=>(yo h).elim⟩
 |succ n aq=>
  refine T.aa.f.ok Wu (fun vs H Q E h=>?_) (fun dn A outer s H vs Q E hr h=>?_)
  ·obtain⟨v,t,m,rfl,_⟩:=h;rfl
  ·obtain⟨v,t,m,rfl,hm,ox,k⟩:=h;refine⟨_,(Zc (Zo (i:=1) Wu.nd rfl (.inl rfl) (Zq (ZD (K:=K) rfl) (pv 0) Ze (fun _ _=>rfl)) rfl (.inl rfl)) (Zc (ZJ (PW.pt (Vk (Zn ZO (pv 1) Zl (Zx _)) (X8 (Zn ZO (pv 1) Zl (Zx _))))) (Zf (Zm Ze)) Zw) (Zc (ZJ (PW.pt (Vk (Zn ZO (pv 1) Zl (Zx _)) (X8 (Zn ZO (pv 1) Zl (Zx _))))) (Zc (Wh (i:=2) Wu.nd rfl rfl (Nc:=dB) (ix:=[none]) (ZX.of (by left:ZZ (Zj V3) xr _ _ _=true)) rfl (ZdQ (Zq (ZD (K:=K) rfl) (pv 0) Ze (fun _ _=>rfl))) (fun _ _ _ _ _=>(Zz (i:=0) (show δ dB by left) rfl (.inl rfl))) (fun _ _ _ _ _=>Ys) (fun _ _ _ _ _=>(XY aq hr rfl T.aa.g T.aa.f.kp T.aa.n .nil Yh (Za (pv 0) Zb rfl)))) (Zc (ZJ (Zn ZO (pv 1) Zl (Zx _)) (Zf (Zm (Zv Z5 (Zv Z5 (Zp (jU (K:=K) rfl rfl) rfl T.dh PyProof.Rows.Boot.«sum» (Za (pv 2) Zb rfl)) (Zp (yN rfl) rfl T.cY oi (Za Ze (Za (Zv yO (Zp (Zy (K:=K) rfl) rfl T.av nX (Za (pv 2) Zb rfl)) Ze) Zb rfl) rfl))) (ZI (kC) rfl T.db og (Za (Xm (Jx (K:=K) rfl (Y8.units hr)) (pv 2) (Z7 Zb) (Zx _)) Zb rfl))))) Zw) (Zf (Zm (Zv Z5 (Zv Z5 (Zp (jU (K:=K) rfl rfl) rfl T.dh PyProof.Rows.Boot.«sum» (Za (pv 2) Zb rfl)) (Zv VG Ze (Zp (yN rfl) rfl T.cY oi (Za Ze (Za (Zv yO (Zp (Zy (K:=K) rfl) rfl T.av nX (Za (pv 2) Zb rfl)) Ze) Zb rfl) rfl)))) (Zv VG Ze (ZI (kC) rfl T.db og (Za (Xm (Jx (K:=K) rfl (Y8.units hr)) (pv 2) (Z7 Zb) (Zx _)) Zb rfl)))))))) Zw) (Zc (ZJ (Zn ZO (pv 1) Zl (Zx _)) (Zc (Zo (i:=3) Wu.nd rfl (.inl rfl) (XY aq hr rfl T.aa.g T.aa.f.kp T.aa.n .nil Yh (Za (Zq (ZD (K:=K) rfl) (pv 0) Ze (fun _ _=>rfl)) Zb rfl)) rfl (.inl rfl)) (Zc (Zo (i:=4) Wu.nd rfl (.inl rfl) (XY aq hr rfl T.aa.g T.aa.f.kp T.aa.n .nil Yh (Za (Zq (ZD (K:=K) rfl) (pv 0) Ze (fun _ _=>rfl)) Zb rfl)) rfl (.inl rfl)) (Zf (Zm (Zv Z5 (pv 4) (Zv VG (Zq (ZD (K:=K) rfl) (pv 0) Ze (fun _ _=>rfl)) (Zv Z5 (Zv Z5 (pv 3) (pv 4)) Ze))))))) Zw) (Zc (ZJ (PW.pt (Vk (Zn ZO (pv 1) Zl (Zx _)) (X8 (Zn ZO (pv 1) Zl (Zx _))))) (Zf (Zm (Zv Z5 (Zv Z5 Ze (XY aq hr rfl T.aa.g T.aa.f.kp T.aa.n .nil Yh (Za (Zq (ZD (K:=K) rfl) (pv 0) Ze (fun _ _=>rfl)) Zb rfl))) (XY aq hr rfl T.aa.g T.aa.f.kp T.aa.n .nil Yh (Za (Zq (ZD (K:=K) rfl) (pv 0) Ze (fun _ _=>rfl)) Zb rfl))))) Zw) (Zc (ZJ (PW.pt (Vk (Zn ZO (pv 1) Zl (Zx _)) (X8 (Zn ZO (pv 1) Zl (Zx _))))) (Zf (Zm (Zv Z5 Ze (XY aq hr rfl T.aa.g T.aa.f.kp T.aa.n .nil Yh (Za (Zq (ZD (K:=K) rfl) (pv 0) Ze (fun _ _=>rfl)) Zb rfl))))) Zw) (Zc (ZJ (PW.pt (Vk (Zn ZO (pv 1) Zl (Zx _)) (X8 (Zn ZO (pv 1) Zl (Zx _))))) (Zf (Zm (Zv Z5 Ze (XY aq hr rfl T.aa.g T.aa.f.kp T.aa.n .nil Yh (Za (Zq (ZD (K:=K) rfl) (pv 0) Ze (fun _ _=>rfl)) Zb rfl))))) Zw) (Zc (ZJ (Zn ZO (pv 1) Zl (Zx _)) (Zf (Zm (Zv Z5 Ze (XY aq hr rfl T.aa.g T.aa.f.kp T.aa.n .nil Yh (Za (Zq (ZD (K:=K) rfl) (pv 0) Ze (fun _ _=>rfl)) Zb rfl))))) Zw) (Zf (Zm (Zv Z5 Ze (XY aq hr rfl T.aa.g T.aa.f.kp T.aa.n .nil Yh (Za (Zq (ZD (K:=K) rfl) (pv 0) Ze (fun _ _=>rfl)) Zb rfl))))))))))))),?_⟩;cases m with
   |zero=>exact ox.elim
   |succ m=>
    obtain⟨ad,us,rfl,sh,ok,hl,hq⟩:=ox;have BG:=jg ok;have kk:∀z:Int,z=((cz t:Nat):Int)->∀H',Zg H H'->Q (.int z) H':=fun z e=>by subst e;exact k
    rw[BG] at kk;clear k BG;obtain⟨c,ks⟩:=t;simp only[Tr.lb,Tr.ks] at sh ok hl hq kk;cases c with
    |yes=>
     refine⟨_,rfl,ad,_,_,_,rfl,rfl,sh.2,Zh (j:=0) rfl,?_⟩;exact⟨_,rfl,rfl,_,rfl,Y7 rfl (YM (kk _ rfl H (.refl _)))⟩
    |sign z=>
     refine⟨_,rfl,ad,_,_,_,rfl,rfl,sh.2,Zh (j:=0) rfl,?_⟩;exact⟨_,rfl,rfl,_,rfl,ZR (fun z=>ot (V.str.inj z) (by left)) ⟨_,rfl,rfl,_,rfl,Y7 rfl (kk _ rfl H (.refl _))⟩⟩
    |op w=>
     refine⟨_,rfl,ad,_,_,_,rfl,rfl,sh,Zh (j:=0) rfl,?_⟩;rcases ok with⟨hw,h1⟩|⟨hw,h2⟩
     ·obtain⟨kd,rfl⟩:∃kd,ks=[kd]:=by
       match ks,h1 with
       |[m],_=>exact⟨m,rfl⟩
      obtain⟨u,rfl⟩:∃u,us=[u]:=by
       match us,hl with
       |[m],_=>exact⟨m,rfl⟩
      have hu:=hq 0 u kd rfl rfl;simp only[W1,fU,gN,gO] at hw;rcases hw with rfl|rfl|rfl|rfl|rfl|rfl|rfl|rfl|rfl<;>(repeat (refine⟨_,rfl,rfl,_,rfl,ZR (fun z=>ot (V.str.inj z) (by left)) ?_⟩))<;>(try refine⟨_,rfl,rfl,_,rfl,Y7 rfl ?_⟩)<;>(try refine YM ?_)<;>refine⟨_,rfl,ad,_,_,_,rfl,rfl,sh,Zh (j:=1) rfl,u,kd,m,rfl,by lia,hu,fun H' s'=>⟨_,_,rfl,rfl,kk _ ?_ H' s'⟩⟩<;>(unfold czF;dsimp only[List.map];repeat (first|rw[oq rfl]|rw[oo (by left)]))<;>simp<;>lia
     ·obtain⟨k1,k2,rfl⟩:∃k1 k2,ks=[k1,k2]:=by
       match ks,h2 with
       |[m,n],_=>exact⟨m,n,rfl⟩
      obtain⟨u1,u2,rfl⟩:∃u1 u2,us=[u1,u2]:=by
       match us,hl with
       |[m,n],_=>exact⟨m,n,rfl⟩
      have wM:=hq 0 u1 k1 rfl rfl;have w8:=hq 1 u2 k2 rfl rfl;simp only[W2,fU,gN,gO] at hw;rcases hw with rfl|rfl<;>(repeat (refine⟨_,rfl,rfl,_,rfl,ZR (fun z=>ot (V.str.inj z) (by left)) ?_⟩))<;>refine⟨_,rfl,rfl,_,rfl,Y7 rfl ?_⟩<;>(try refine YM ?_)<;>refine⟨_,rfl,ad,_,_,_,rfl,rfl,sh,Zh (j:=1) rfl,u1,k1,m,rfl,by lia,wM,fun H1 s1=>⟨_,_,rfl,rfl,_,rfl,ad,_,_,_,rfl,rfl,nT s1 _ _ _ sh,Zh (j:=2) rfl,u2,k2,m,rfl,by lia,w8.mono (nT s1),fun H2 s2=>⟨_,_,rfl,rfl,kk _ ?_ H2 (s1.trans s2)⟩⟩⟩<;>(unfold czF;dsimp only[List.map];repeat (first|rw[oq rfl]|rw[oo (by left)]))<;>simp<;>lia
    |wit d=>
     obtain⟨hd,h2⟩:=ok;obtain⟨k1,k2,rfl⟩:∃k1 k2,ks=[k1,k2]:=by
      match ks,h2 with
      |[m,n],_=>exact⟨m,n,rfl⟩
     obtain⟨u1,u2,rfl⟩:∃u1 u2,us=[u1,u2]:=by
      match us,hl with
      |[m,n],_=>exact⟨m,n,rfl⟩
     have wM:=hq 0 u1 k1 rfl rfl;have w8:=hq 1 u2 k2 rfl rfl;refine⟨_,rfl,ad,_,_,_,rfl,rfl,sh,Zh (j:=0) rfl,?_⟩;refine⟨_,rfl,rfl,_,rfl,ZR (fun z=>ot (V.str.inj z) (by left)) ⟨_,rfl,rfl,_,rfl,ZR (fun z=>ot (V.str.inj z) (by left)) ⟨_,rfl,rfl,_,rfl,ZR (fun z=>ot (V.str.inj z) (by left)) ⟨_,rfl,rfl,_,rfl,ZR (fun z=>ot (V.str.inj z) (by left)) ⟨_,rfl,rfl,_,rfl,Y7 rfl ?_⟩⟩⟩⟩⟩;refine⟨_,rfl,ad,_,_,_,rfl,rfl,sh,Zh (j:=2) rfl,u1,k1,m,rfl,by lia,wM,fun H1 s1=>?_⟩;refine⟨_,rfl,ad,_,_,_,rfl,rfl,nT s1 _ _ _ sh,Zh (j:=3) rfl,u2,k2,m,rfl,by lia,w8.mono (nT s1),fun H2 s2=>?_⟩;have wX:=nT (s1.trans s2) _ _ _ sh;obtain⟨d,rfl⟩:=iQ hd.1;refine⟨_,rfl,_,rfl,ad,_,_,_,rfl,rfl,wX,Zh (j:=1) rfl,_,rfl,_,rfl,_,_,rfl,rfl,_,_,rfl,rfl,_,_,rfl,rfl,.inl ⟨by lia,by lia⟩,_,_,rfl,rfl,kk _ ?_ H2 (s1.trans s2)⟩;unfold czF;dsimp only[List.map,List.getD_cons_zero,List.getD_cons_succ];simp
    |many w=>
     obtain⟨b,pM,Al⟩:=sh;refine⟨_,rfl,ad,_,_,_,rfl,rfl,pM,Zh (j:=0) rfl,?_⟩;have zf:(us.zip ks).map (fun e=>e.1)=us:=my (by lia);have zs:(us.zip ks).map (fun e=>V.int ((cz e.2:Nat):Int))=(ks.map cz).map (fun z:Nat=>V.int (z:Int)):=by
      have:(us.zip ks).map ζ=ks:=mz (by lia)
      conv=>rhs;rw[<- this]
      rw[fR,fR];rfl
     refine⟨_,rfl,rfl,_,rfl,ZR (fun z=>ot (V.str.inj z) (by rcases ok.1 with rfl|rfl<;>left)) ⟨_,rfl,rfl,_,rfl,ZR (fun z=>ot (V.str.inj z) (by rcases ok.1 with rfl|rfl<;>left)) ?_⟩⟩;rcases ok with⟨rfl|rfl,h8⟩
     ·refine⟨_,rfl,rfl,_,rfl,Y7 rfl (YM ?_)⟩;refine⟨_,rfl,ad,_,_,_,rfl,rfl,pM,Zh (j:=1) rfl,b,rfl,⟨_,Al⟩,fun D hD=>?_⟩;refine UC (K:=K) (us.zip ks) (fun e=>e.1) (fun e=>V.int ((cz e.2:Nat):Int)) hD (by rw[zf];exact Al) (by rw[io,fJ];lia) ?_ ?_
      ·rintro⟨u,kd⟩ hx G N sG hN;obtain⟨j,hj⟩:=iU.mp hx;rw[lG] at hj;exact⟨_,rfl,u,kd,m,rfl,by lia,(hq j u kd hj.1 hj.2).mono (nT sG),fun H' s'=>hN H' s'⟩
      intro G eD sG;rw[zs] at eD;refine⟨_,rfl,rfl,_,rfl,Y7 rfl ?_⟩;have E8:SqL K G D (((ks.map cz).map fun z:Nat=>(z:Int)).map V.int):=by rw[fR];exact nS eD
      refine⟨_,rfl,D,_,rfl,E8,_,rfl,.inl ⟨D,_,rfl,.inl (nS eD),_,_,rfl,rfl,_,_,rfl,_,_,rfl,rfl,_,rfl,by left,fun E hE=>?_⟩⟩;obtain⟨G1,qN,g1,eE⟩:=xI (o:=.lst []) hE;rw[qN];  clear qN;have EA:G1 D=some (.lst (((ks.map cz).map fun z:Nat=>(z:Int)).map V.int)):=by rw[fR];exact g1 _ _ eD
      refine k7 EA eE fun c hc=>.inr ⟨c,rfl,_,_,rfl,rfl,kk _ ?_ G1 (sG.trans g1)⟩;unfold czF;dsimp only;rw[oq rfl,jj,Qi (n:=(ks.map cz).length) (by rw[fF])]
      by_cases hn:ks.map cz=[]
      ·rw[hn] at hc ⊢;rw[hc.mpr rfl];rfl
      ·rw[oo hn,oo (fun z=>hn (ρ.mp (hc.mp z)))];lia
     ·refine⟨_,rfl,rfl,_,rfl,ZR (fun z=>ot (V.str.inj z) (by left)) ⟨_,rfl,rfl,_,rfl,Y7 rfl ?_⟩⟩;refine⟨_,rfl,ad,_,_,_,rfl,rfl,pM,Zh (j:=1) rfl,b,rfl,⟨_,Al⟩,fun D hD=>?_⟩;refine UC (K:=K) (us.zip ks) (fun e=>e.1) (fun e=>V.int ((cz e.2:Nat):Int)) hD (by rw[zf];exact Al) (by rw[io,fJ];lia) ?_ ?_
      ·rintro⟨u,kd⟩ hx G N sG hN;obtain⟨j,hj⟩:=iU.mp hx;rw[lG] at hj;exact⟨_,rfl,u,kd,m,rfl,by lia,(hq j u kd hj.1 hj.2).mono (nT sG),fun H' s'=>hN H' s'⟩
      intro G eD sG;rw[zs] at eD;refine⟨_,rfl,rfl,_,rfl,ZR (fun z=>ot (V.str.inj z) (by left)) ?_⟩;have E8:SqL K G D (((ks.map cz).map fun z:Nat=>(z:Int)).map V.int):=by rw[fR];exact nS eD
      refine⟨_,rfl,D,_,rfl,E8,_,rfl,.inl ⟨D,_,rfl,.inl (nS eD),_,_,rfl,rfl,_,_,rfl,_,_,rfl,rfl,.inl ⟨by left,by left⟩,_,_,rfl,rfl,_,rfl,by left,fun E hE=>?_⟩⟩;obtain⟨G1,qN,g1,eE⟩:=xI (o:=.lst []) hE;rw[qN];  clear qN;have EA:G1 D=some (.lst (((ks.map cz).map fun z:Nat=>(z:Int)).map V.int)):=by rw[fR];exact g1 _ _ eD
      refine k7 EA eE fun c hc=>.inr ⟨c,rfl,_,_,rfl,rfl,.inl ⟨by left,by left⟩,_,_,rfl,rfl,kk _ ?_ G1 (sG.trans g1)⟩;unfold czF;dsimp only;rw[jj,Qi (n:=(ks.map cz).length) (by rw[fF]),oo (show ¬(("or" : Str) = "and") by left)]
      by_cases hn:ks.map cz=[]
      ·rw[hn] at hc ⊢;rw[hc.mpr rfl];rfl
      ·rw[oo hn,oo (fun z=>hn (ρ.mp (hc.mp z)))];lia
theorem Zgb{α β:Type}{R:α->β->Prop}:∀{ys:List α},(∀y∈ys,∃z,R y z)->∃zs:List β,zs.length=ys.length/\∀(i:Nat) y z,ys[i]?=some y->zs[i]?=some z->R y z
 |[],_=>⟨[],rfl,fun i y z h=>by simp at h⟩
 |y::ys,h=>by
  obtain⟨z,hz⟩:=h y (by simp);obtain⟨zs,h1,h2⟩:=Zgb (ys:=ys) fun y hy=>h y (fT _ hy);refine⟨z::zs,by rw[gu,gu,h1],fun i y' z' e1 e2=>?_⟩;cases i with
  |zero=>cases e1;cases e2;exact hz
  |succ i=>exact h2 i y' z' e1 e2
def xm(K:W.Frag)(a:Adr):Sp:=fun vs H Q _=>Ex6 fun(w:Str) (l:Addr) (x:Int) (us:List V) (n:Nat) (P:Tr->Prop)=>Cj7 (vs=[.str w,.ref l,.int x]) (H l=some (.lst us)) (us≠[]) (us.length<=100) ((w = "and" \/ w = "or")) ((∀u∈us,∃t,At K n H u t/\P t)) (∀H' q t,Zg H H'->At K (n+1) H' (.ref q) t->(∀k∈t.ks,P k)->Q (.ref q) H')
theorem KA:Okd P w K mg base a 1 a.y59 a.z59 eW xm:=fun T hw=>by
 refine okX T.ce.f qf fun dn A outer s H E hr=>?_;intro X;have hK:X.K=K:=rfl
 let d1:Rdg X WP [2]:=⟨_,(Zf (Zm (@ZH _ _ _ _ _ (@Za _ _ _ _ _ (pv 0) (@Za _ _ _ _ _ (ZI (Z9 hK) rfl T.aD nW (@Za _ _ _ _ _ (pv 4) Zb rfl)) Zb rfl) rfl))))⟩
 let d2:Rdg X WP [1]:=⟨_,(Zc (Wh (i:=4) qf.nd rfl rfl (Nc:=fB) (ix:=[none,some 1,some 2]) (ZX.of (by left:ZZ (Zj WP) vw _ _ _=true)) rfl (Y9 rfl T.aX (@Za _ _ _ _ _ (pv 3) Zb rfl)) (fun _ _ _ _ _=>(Zz (i:=0) (show δ fB by left) rfl (.inl rfl))) (fun _ _ _ _ _=>Ys) (fun _ _ _ _ _=>(Zq (Zk hK) (pv 1) (Zv Yx (Zv XL (pv 2) (Zv Z5 Ze (Zv VG Ze (pv 0)))) (Zp (Zy hK) rfl T.av nX (@Za _ _ _ _ _ (pv 1) Zb rfl))) (fun _ _=>rfl)))) d1.2)⟩
 intro vs Q h;obtain⟨w,l,x,us,n,P,rfl,hl,oA,pc,AO,ox,k⟩:=h;refine⟨_,(Zc (@Zo _ _ (3) _ _ _ _ qf.nd rfl (.inl rfl) (Zq (Zk hK) (@Z7 _ _ _ _ (@ZC _ _ _ _ _ Ze (@ZC _ _ _ _ _ Ze (@ZC _ _ _ _ _ Ze (@ZC _ _ _ _ _ Ze (@ZC _ _ _ _ _ Ze (@ZC _ _ _ _ _ Ze (@ZC _ _ _ _ _ Ze (@ZC _ _ _ _ _ Ze Zb rfl) rfl) rfl) rfl) rfl) rfl) rfl) rfl)) (Zv Yx (pv 2) Ze) (fun _ _=>rfl)) rfl (.inl rfl)) d2.2),?_⟩;have sz2:2<=sizeLine:=by rw[fJ];decide
 refine⟨sz8,fun A hA=>?_⟩;refine Xh hA fun H1 s1 e1=>?_;have C2:∀v∈[V.int 0,.int 1,.int 2,.int 3,.int 2,.int 4,.int 6,.int 8],∃m:Nat,v=.int (m:Nat)/\m<=8:=fun v hv=>by
  simp only[fU,gN,gO] at hv;rcases hv with rfl|rfl|rfl|rfl|rfl|rfl|rfl|rfl
  ·exact⟨0,rfl,by left⟩
  ·exact⟨1,rfl,by left⟩
  ·exact⟨2,rfl,by left⟩
  ·exact⟨3,rfl,by left⟩
  ·exact⟨2,rfl,by left⟩
  ·exact⟨4,rfl,by left⟩
  ·exact⟨6,rfl,by left⟩
  ·exact⟨8,rfl,by left⟩
 have l8:[V.int 0,.int 1,.int 2,.int 3,.int 2,.int 4,.int 6,.int 8].length=8:=rfl;generalize [V.int 0,.int 1,.int 2,.int 3,.int 2,.int 4,.int 6,.int 8]=xs at e1 C2 l8;obtain⟨_,v0,My,Dh⟩:=V7 (ts:=xs) x (by intro z;rw[z] at l8;cases l8);rw[l8] at My;obtain⟨m,rfl,hm8⟩:=C2 _ Dh;refine⟨_,rfl,_,_,rfl,rfl,by left,A,xs,_,_,rfl,rfl,nS e1,My,?_⟩;refine⟨_,rfl,_,rfl,by lia,by lia,fun D hD=>?_⟩;rw[hJ];refine Zan hD (by rw[fJ];lia) (fun _ v _=>v∈us) (fun _ v _ _ _ q=>q) ?_ ?_
 ·intro j G N hj sG hN;have NK:=(s1.trans sG) _ _ hl;obtain⟨u0,vj,Rn,S5⟩:=V7 (ts:=us) (x/(8+5*(j:Nat))) oA;refine⟨_,rfl,_,rfl,_,rfl,_,_,rfl,rfl,.inl ⟨by left,by left⟩,_,_,rfl,rfl,_,_,rfl,rfl,⟨by lia,by lia⟩,_,rfl,.inl ⟨l,_,rfl,.inl (nS NK),_,_,rfl,rfl,by lia,l,us,_,_,rfl,rfl,nS NK,Rn,hN _ _ (.refl _) S5⟩⟩
 intro G ys eD sG ly r;have r':∀y∈ys,∃t,At K n G y t/\P t:=fun y hy=>by
  obtain⟨i,hi⟩:=iU.mp hy;obtain⟨t,ht⟩:=ox y (r i y hi);exact⟨t,ht.1.mono (nT (s1.trans sG)),ht.2⟩
 obtain⟨ks,lk,hk⟩:=Zgb r';refine⟨_,rfl,_,rfl,D,_,rfl,.inl ⟨nS eD,fun tt EE=>?_⟩⟩;refine YU EE fun G1 g1 e2=>?_;refine⟨sz2,fun q hq=>?_⟩;refine YU hq fun G2 g2 e3=>?_;exact k G2 q _ (s1.trans (sG.trans (g1.trans g2))) (Qv (ks:=ks) (nU e3) (nU (g2 _ _ e2)) ⟨lk.symm,fun i u kk h1 h2=>(hk i u kk h1 h2).1.mono (nT (g1.trans g2))⟩ AO (by lia)) fun kk uh=>by
  obtain⟨i,hi,e⟩:=gF uh;have Cb:i<ks.length:=hi;have e':ks[i]?=some kk:=by rw[<- e];exact fG Cb
  exact(hk i _ kk (fG (by lia)) e').2
def WS:List Str:=["not","and","or","next","until","always","ever","within","before","since","once","sofar","all","some"]
def k4(K:W.Frag)(a:Adr):Sp:=fun vs H Q _=>Ex7 fun(x:Int) (l wl:Addr) (us:List V) (n:Nat) (P:Tr->Prop) (ws:List Str)=>Zbv (vs=[.int x,.ref l,.ref wl]) (H l=some (.lst us)) (us≠[]) (us.length<=100) (H wl=some (.lst (ws.map V.str))) (ws≠[]) (ws.length<=100) ((∀w∈ws,w∈WS)) ((∀u∈us,∃t,At K n H u t/\P t)) (∀H' q t,Zg H H'->At K (n+1) H' (.ref q) t->(∀k∈t.ks,P k)->Q (.ref q) H')
theorem Jy:Okd P w K mg base a 2 a.y60 a.z60 eY k4:=fun T hw=>by
 refine okX T.bT.f Vr fun dn A outer s H E hr=>?_;intro X;have hK:X.K=K:=rfl
 let d1:Rdg X Xe [4,0,0]:=⟨_,(Zf (Zm (ZH (@ZC _ _ _ _ _ (pv 5) (@ZC _ _ _ _ _ (Zv Yx (Zv XL (pv 0) Ze) Ze) (@ZC _ _ _ _ _ (pv 3) (@ZC _ _ _ _ _ (pv 4) Zb rfl) rfl) rfl) rfl))))⟩
 let d2:Rdg X Xe [5]:=⟨_,(Zc (ZJ (PW.pt (Vk (Zn ZO (pv 5) Zl (Zx _)) (X8 (Zn ZO (pv 5) Zl (Zx _))))) (Zf (Zm (ZK T.ce (KA T hw) hr rfl rfl (@ZC _ _ _ _ _ (pv 5) (@ZC _ _ _ _ _ (pv 1) (@ZC _ _ _ _ _ (Zv XL (pv 0) Ze) Zb rfl) rfl) rfl)))) Zw) (Zf (Zm (ZH (Za (pv 5) (Za (pv 3) Zb rfl) rfl)))))⟩
 let d3:Rdg X Xe [4]:=⟨_,(Zc (ZJ (Zn ZO (pv 5) Zl (Zx _)) d1.2 Zw) d2.2)⟩
 let d4:Rdg X Xe [3]:=⟨_,(Zc (ZJ (PW.pt (Vk (Zn ZO (pv 5) Zl (Zx _)) (X8 (Zn ZO (pv 5) Zl (Zx _))))) (Zf (Zm (ZH (@ZC _ _ _ _ _ (pv 5) (@ZC _ _ _ _ _ (pv 3) (@ZC _ _ _ _ _ (pv 4) Zb rfl) rfl) rfl)))) Zw) d3.2)⟩
 let d5:Rdg X Xe [2]:=⟨_,(Zc (Zo (i:=5) Vr.nd rfl (.inl rfl) (Zq (Zk hK) (pv 2) (Zv Yx (pv 0) (Zp (Zy hK) rfl T.av nX (Za (pv 2) Zb rfl))) (fun _ _=>rfl)) rfl (.inl rfl)) d4.2)⟩
 let d6:Rdg X Xe [1]:=⟨_,(Zc (Zo (i:=4) Vr.nd rfl (.inl rfl) (Zq (Zk hK) (pv 1) (Zv Yx (Zv XL (pv 0) Ze) (Zp (Zy hK) rfl T.av nX (Za (pv 1) Zb rfl))) (fun _ _=>rfl)) rfl (.inl rfl)) d5.2)⟩
 intro vs Q h;obtain⟨x,l,wl,us,n,P,ws,rfl,hl,oA,pc,rP,Bv,Ea,Cz,ox,k⟩:=h;refine⟨_,(Zc (Zo (i:=3) Vr.nd rfl (.inl rfl) (Zq (Zk hK) (pv 1) (Zv Yx (Zv XL (pv 0) Ze) (Zp (Zy hK) rfl T.av nX (Za (pv 1) Zb rfl))) (fun _ _=>rfl)) rfl (.inl rfl)) d6.2),?_⟩;have sz2:2<=sizeLine:=by rw[fJ];decide
 have sz3:3<=sizeLine:=by rw[fJ];decide
 have sz4:4<=sizeLine:=by rw[fJ];decide
 obtain⟨u0,v1,uA,ud⟩:=V7 (ts:=us) (x/64) oA;obtain⟨_,v2,ui,uc⟩:=V7 (ts:=us) (x/1024) oA;obtain⟨w0,v3,Ou,OR⟩:=V7 (ts:=ws.map V.str) x (by simpa using Bv);obtain⟨w,Gg,rfl⟩:=fM.mp OR;have D9:=Cz w Gg;obtain⟨t1,rz,SH⟩:=ox _ ud;obtain⟨t2,pK,Dm⟩:=ox _ uc;refine⟨_,rfl,_,rfl,_,_,rfl,rfl,⟨by left,by left⟩,_,rfl,.inl ⟨l,_,rfl,.inl (nS hl),_,_,rfl,rfl,by lia,l,us,_,_,rfl,rfl,nS hl,uA,?_⟩⟩;refine⟨_,rfl,_,rfl,_,_,rfl,rfl,⟨by left,by left⟩,_,rfl,.inl ⟨l,_,rfl,.inl (nS hl),_,_,rfl,rfl,by lia,l,us,_,_,rfl,rfl,nS hl,ui,?_⟩⟩;refine⟨_,rfl,_,rfl,_,rfl,.inl ⟨wl,_,rfl,.inl (nS rP),_,_,rfl,rfl,by lia,wl,_,_,_,rfl,rfl,nS rP,Ou,?_⟩⟩;have ew:∀{z:Str},decide (V.str w=V.str z)=true->w=z:=fun c=>V.str.inj (ge c);have nw:∀{z:Str},¬decide (V.str w=V.str z)=true->w≠z:=fun c e=>c (by rw[e];exact fQ rfl);have pq:∀kk∈[t1,t2],P kk:=fun kk uh=>by
  simp only[fU,gN,gO] at uh;rcases uh with rfl|rfl<;>assumption
 have CB:∀q,H q=none->w∈W2->Q (.ref q) (upd H q (.tup [.str w,v1,v2])):=fun q hq hw=>by
  obtain⟨H1,qN,s1,e1⟩:=xI (o:=.tup [.str w,v1,v2]) hq;rw[qN];exact k H1 q _ s1 (xZ (nU e1) hw (rz.mono (nT s1)) (pK.mono (nT s1))) pq
 refine⟨_,rfl,rfl,_,rfl,YY (fun c=>?_) (fun c=>?_)⟩
 ·refine YM ⟨_,rfl,_,rfl,_,rfl,sz3,fun q hq=>CB q hq ?_⟩;rw[ew c];left
 refine⟨_,rfl,rfl,_,rfl,YY (fun c'=>?_) (fun c'=>?_)⟩
 ·refine⟨_,rfl,_,rfl,_,rfl,sz3,fun q hq=>CB q hq ?_⟩;rw[ew c'];left
 refine⟨_,rfl,rfl,_,rfl,YY (fun c3=>?_) (fun c3=>?_)⟩
 ·have e:=ew c3;subst e;have h0:=iA (x/16384) (show(4:Int)≠0 by left);have h1:=iP (x/16384) (show(0:Int)<4 by left);refine⟨_,rfl,_,rfl,_,_,rfl,rfl,⟨by left,by left⟩,_,_,rfl,rfl,by left,_,rfl,_,rfl,sz4,fun q hq=>?_⟩;obtain⟨H1,qN,s1,e1⟩:=xI (o:=.tup [.str "within",.int (x/16384%4),v1,v2]) hq;rw[qN];exact k H1 q _ s1 (Zhd (nU e1) ⟨by lia,by lia⟩ (rz.mono (nT s1)) (pK.mono (nT s1))) pq
 have B3:(w = "and" \/ w = "or")->xm K a [.str w,.ref l,.int (x/64)] H Q E0:=fun h=>⟨w,l,x/64,us,n,P,rfl,hl,oA,pc,h,ox,k⟩;refine⟨_,rfl,rfl,_,rfl,YY (fun c4=>?_) (fun c4=>?_)⟩
 ·exact YM ⟨_,rfl,_,rfl,_,rfl,_,_,rfl,rfl,⟨by left,by left⟩,B3 (.inl (ew c4))⟩
 refine⟨_,rfl,rfl,_,rfl,YY (fun c5=>?_) (fun c5=>?_)⟩
 ·exact⟨_,rfl,_,rfl,_,rfl,_,_,rfl,rfl,⟨by left,by left⟩,B3 (.inr (ew c5))⟩
 refine⟨_,rfl,_,rfl,sz2,fun q hq=>?_⟩;obtain⟨H1,qN,s1,e1⟩:=xI (o:=.tup [.str w,v1]) hq;rw[qN];refine k H1 q _ s1 (X7 (nU e1) ?_ (rz.mono (nT s1))) (fun kk uh=>by rw[gn.mp uh];exact SH);have n1:=nw c;have n2:=nw c';have n3:=nw c3;have n4:=nw c4;have n5:=nw c5;simp only[WS,fU,gN,gO] at D9;rcases D9 with rfl|rfl|rfl|rfl|rfl|rfl|rfl|rfl|rfl|rfl|rfl|rfl|rfl|rfl<;>first|exact ot rfl n1|exact ot rfl n2|exact ot rfl n3|exact ot rfl n4|exact ot rfl n5|left
def LF:List Tr:=[.node (.sign "zeta") [],.node (.sign "b") [],.node (.sign "am") [],ZA,nNo]
theorem xl{t s:Tr}(h:s∈post t)(ht:t∈LF):s∈LF:=by
 have lf:∀{c:Lb},s∈post (.node c [])->s=.node c []:=fun h=>by
  rcases pin h with e|⟨k,hk,_⟩
  ·exact e
  ·cases hk
 simp only[LF,fU,gN,gO] at ht;rcases ht with rfl|rfl|rfl|rfl|rfl
 ·rw[lf h];simp[LF]
 ·rw[lf h];simp[LF]
 ·rw[lf h];simp[LF]
 ·rw[Zhi h];simp[LF]
 ·rcases pno h with e|e<;>rw[e]<;>simp[LF]
def Jl(K:W.Frag)(a:Adr):Sp:=fun vs H Q _=>Ex1 fun(x:Int)=>Cj2 (vs=[.int x]) (∀H' v t,Zg H H'->At K 2 H' v t->psz t<=2->(∀s∈post t,s∈LF)->Q v H')
theorem Jm:Okd P w K mg base a 1 a.y58 a.z58 ["_law_x"] Jl:=fun T hw=>by
 refine okF T.bS.f Jv fun dn A outer s H vs Q E hr h=>?_;obtain⟨x,rfl,k⟩:=h;refine⟨_,(@Zf _ _ _ (@Zm _ _ _ _ (@Zq _ _ _ _ _ _ _ (Zk (K:=K) rfl) (@Z7 _ _ _ _ (@ZC _ _ _ _ _ (@ZH _ _ _ _ _ (@Za _ _ _ _ _ Zl (@Za _ _ _ _ _ Zl Zb rfl) rfl)) (@ZC _ _ _ _ _ (@ZH _ _ _ _ _ (@Za _ _ _ _ _ Zl (@Za _ _ _ _ _ Zl Zb rfl) rfl)) (@ZC _ _ _ _ _ (@ZH _ _ _ _ _ (@Za _ _ _ _ _ Zl (@Za _ _ _ _ _ Zl Zb rfl) rfl)) (@ZC _ _ _ _ _ (@ZH _ _ _ _ _ (@Za _ _ _ _ _ Zl Zb rfl)) (@ZC _ _ _ _ _ (@ZH _ _ _ _ _ (@Za _ _ _ _ _ Zl (@Za _ _ _ _ _ (@ZH _ _ _ _ _ (@Za _ _ _ _ _ Zl Zb rfl)) Zb rfl) rfl)) (@ZC _ _ _ _ _ (@ZH _ _ _ _ _ (@Za _ _ _ _ _ Zl (@Za _ _ _ _ _ Zl Zb rfl) rfl)) Zb rfl) rfl) rfl) rfl) rfl) rfl)) (@Zv _ _ _ _ _ _ _ _ Yx (pv 0) Ze) (fun _ _=>rfl)))),?_⟩;have sz2:2<=sizeLine:=by rw[fJ];decide
 have sz1:1<=sizeLine:=by rw[fJ];decide
 refine⟨sz2,fun a1 h1=>?_⟩;refine YU h1 fun G1 g1 e1=>?_;refine⟨sz2,fun a2 h2=>?_⟩;refine YU h2 fun G2 g2 e2=>?_;refine⟨sz2,fun a3 h3=>?_⟩;refine YU h3 fun G3 g3 e3=>?_;refine⟨sz1,fun a4 h4=>?_⟩;refine YU h4 fun G4 g4 e4=>?_;refine⟨sz1,fun a5 h5=>?_⟩;refine YU h5 fun G5 g5 e5=>?_;refine⟨sz2,fun a6 h6=>?_⟩;refine YU h6 fun G6 g6 e6=>?_;refine⟨sz2,fun a7 h7=>?_⟩;refine YU h7 fun G7 g7 e7=>?_;refine⟨sz6,fun L hL=>?_⟩;refine Xh hL fun G8 g8 e8=>?_;have hi0:=iA x (show(6:Int)≠0 by left);have hi1:=iP x (show(0:Int)<6 by left);obtain⟨i,ei⟩:∃i:Nat,x%6=((i:Nat):Int):=⟨(x%6).toNat,by lia⟩;have LB:=g7.trans g8;have IC:=g6.trans LB;have IE:=g5.trans IC;have IQ:=g4.trans IE;have Nn:=g3.trans IQ;have HK:=g2.trans Nn;have Rt:=g1.trans HK;have CH:∀v∈[V.ref a1,.ref a2,.ref a3,.ref a4,.ref a6,.ref a7],∃t,At K 2 G8 v t/\psz t<=2/\∀s∈post t,s∈LF:=fun v hv=>by
  simp only[fU,gN,gO] at hv;rcases hv with rfl|rfl|rfl|rfl|rfl|rfl
  ·exact⟨_,U2 (nU (HK _ _ e1)) (by left),by left,fun s hs=>xl hs (by unfold LF nNo ZY;simp)⟩
  ·exact⟨_,U2 (nU (Nn _ _ e2)) (by left),by left,fun s hs=>xl hs (by unfold LF nNo ZY;simp)⟩
  ·exact⟨_,U2 (nU (IQ _ _ e3)) (by left),by left,fun s hs=>xl hs (by unfold LF nNo ZY;simp)⟩
  ·exact⟨_,Uc (nU (IE _ _ e4)),by left,fun s hs=>xl hs (by unfold LF nNo ZY;simp)⟩
  ·exact⟨_,X7 (nU (LB _ _ e6)) (by left) (Uc (nU (IC _ _ e5))),by left,fun s hs=>xl hs (by unfold LF nNo ZY;simp)⟩
  ·exact⟨_,U2 (nU (g8 _ _ e7)) (by left),by left,fun s hs=>xl hs (by unfold LF nNo ZY;simp)⟩
 have l6:[V.ref a1,.ref a2,.ref a3,.ref a4,.ref a6,.ref a7].length=6:=rfl;generalize [V.ref a1,.ref a2,.ref a3,.ref a4,.ref a6,.ref a7]=xs at e8 CH l6;have hi:i<xs.length:=by lia
 obtain⟨t,Rs,sz,Ts⟩:=CH _ (gC hi);refine⟨_,rfl,_,_,rfl,rfl,by left,L,xs,_,xs[i],rfl,rfl,nS e8,by rw[ei];exact Zh (fG hi),k G8 _ t Rt Rs sz Ts⟩
theorem at3:∀{j:Nat},j<3->([V.str "zeta",.str "b",.str "am"])[j]?=some (V.str ((["zeta","b","am"]:List Str).getD j ""))
 |0,_=>rfl
 |1,_=>rfl
 |2,_=>rfl
 |n+3,h=>ot h (by lia)
def jH(K:W.Frag)(a:Adr):Sp:=fun vs H Q _=>Ex1 fun(c:Int)=>Cj2 (vs=[.int c,.int 5]) (∀H' t s w st f d,Zg H H'->H t=none->H' t=some (.tup [s,w,st,f])->Wa (New H H') s w st f d->ZhJ 5 3 d->Q (.ref t) H')
theorem jF:Okd P w K mg base a 2 a.y56 a.z56 fb jH:=fun T hw=>by
 refine okX T.bE.f Yp fun dn A outer s H E hr=>?_;intro X;have hK:X.K=K:=rfl
 let d1:Rdg X Z3 [5,0,3]:=⟨_,(@Zf _ _ _ (@Yj _ _ _ _ (XE gA gH gI Z0 (pv 6) (@Za _ _ _ _ _ (@Zv _ _ _ _ _ _ _ _ JN (@Z7 _ _ _ _ (@Za _ _ _ _ _ (pv 8) Zb rfl)) (Ya (Nc:=fC) (ix:=[none,some 8]) (ZX.of (by left:ZZ (Zj Z3) U0 _ _ _=true)) rfl (ZQ hK (pv 9)) (fun _ _ _ _ _=>(Zz (i:=0) (show δ fC by left) rfl (.inl rfl))) (fun _ _ _ _ _=>(UK (@Zn _ _ _ _ _ _ _ _ Ql (pv 0) (pv 1) (Zx _)))) (fun _ _ _ _ _=>(pv 0)))) Zb rfl)) rfl))⟩
 let d2:Rdg X Z3 [5,0,2]:=⟨_,(@Zc _ _ _ _ _ (@Zo _ _ (9) _ _ _ _ Yp.nd rfl (.inl rfl) (Z1 (YI hK) (ZK T.bB (yw T hw) hr rfl rfl (@Za _ _ _ _ _ (@Zv _ _ _ _ _ _ _ _ XL (@Zq _ _ _ _ _ _ _ (Zk hK) (pv 3) (@Zv _ _ _ _ _ _ _ _ Z5 (@Zv _ _ _ _ _ _ _ _ Z5 Ze (pv 1)) (pv 7)) (fun _ _=>rfl)) Ze) (@Za _ _ _ _ _ (pv 4) Zb rfl) rfl)) Yr (Z4 (@Zv _ _ _ _ _ _ _ _ Yx (@Zv _ _ _ _ _ _ _ _ XL (@Zq _ _ _ _ _ _ _ (Zk hK) (pv 3) (@Zv _ _ _ _ _ _ _ _ Z5 (@Zv _ _ _ _ _ _ _ _ Z5 Ze (pv 1)) (pv 7)) (fun _ _=>rfl)) Ze) Ze))) rfl (.inl rfl)) d1.2)⟩
 let d3:Rdg X Z3 [5,0,1]:=⟨_,(@Zc _ _ _ _ _ (@Zo _ _ (8) _ _ _ _ Yp.nd rfl (.inr rfl) (@Zv _ _ _ _ _ _ _ _ Yx (@Zq _ _ _ _ _ _ _ (Zk hK) (pv 3) (@Zv _ _ _ _ _ _ _ _ Z5 (@Zv _ _ _ _ _ _ _ _ Z5 Ze (pv 1)) (pv 7)) (fun _ _=>rfl)) (pv 4)) rfl (.inl rfl)) d2.2)⟩
 let d4:Rdg X Z3 [5,0,0]:=⟨_,(@Zc _ _ _ _ _ (@Yj _ _ _ _ (XE gA gH gI Z0 (pv 5) (@Za _ _ _ _ _ (Ya (Nc:=fD) (ix:=[none,some 2,some 3,some 7]) (ZX.of (by left:ZZ (Zj Z3) U0 _ _ _=true)) rfl (Y9 rfl T.aX (@Za _ _ _ _ _ Ze Zb rfl)) (fun _ _ _ _ _=>(Zz (i:=0) (show δ fD by left) rfl (.inl rfl))) (fun _ _ _ _ _=>(UK (@Zn _ _ _ _ _ _ _ _ ZO (@Zv _ _ _ _ _ _ _ _ Yx (@Zv _ _ _ _ _ _ _ _ XL (@Zq _ _ _ _ _ _ _ (Zk hK) (pv 2) (@Zv _ _ _ _ _ _ _ _ Z5 Ze (pv 3)) (fun _ _=>rfl)) (@Zv _ _ _ _ _ _ _ _ QT Ze (pv 0))) Ze) Ze (Zx _)))) (fun _ _ _ _ _=>(@Zq _ _ _ _ _ _ _ (Zk hK) (pv 1) (pv 0) (fun _ _=>rfl)))) Zb rfl)) rfl) d3.2)⟩
 let d5:Rdg X Z3 [7]:=⟨_,(@Zc _ _ _ _ _ (@Zo _ _ (11) _ _ _ _ Yp.nd rfl (.inl rfl) (@Zq _ _ _ _ _ _ _ (Zk hK) (@Z7 _ _ _ _ (@ZC _ _ _ _ _ (@Z7 _ _ _ _ (@Za _ _ _ _ _ Zl (@Za _ _ _ _ _ Zl Zb rfl) rfl)) (@ZC _ _ _ _ _ (@Z7 _ _ _ _ Zb) (@ZC _ _ _ _ _ (@Z7 _ _ _ _ (@Za _ _ _ _ _ Zl Zb rfl)) (@ZC _ _ _ _ _ (@Z7 _ _ _ _ Zb) Zb rfl) rfl) rfl) rfl)) (@Zv _ _ _ _ _ _ _ _ Yx (@Zq _ _ _ _ _ _ _ (Zk hK) (pv 3) (@Zv _ _ _ _ _ _ _ _ Z5 (@Zv _ _ _ _ _ _ _ _ VG Ze (pv 1)) Ze) (fun _ _=>rfl)) Ze) (fun _ _=>rfl)) rfl (.inl rfl)) (@Zf _ _ _ (@Zm _ _ _ _ (@ZH _ _ _ _ _ (@ZC _ _ _ _ _ (pv 5) (@ZC _ _ _ _ _ (pv 6) (@ZC _ _ _ _ _ (pv 10) (@ZC _ _ _ _ _ (pv 11) Zb rfl) rfl) rfl) rfl)))))⟩
 let d6:Rdg X Z3 [6]:=⟨_,(@Zc _ _ _ _ _ (@Zo _ _ (10) _ _ _ _ Yp.nd rfl (.inl rfl) (Z1 (YI hK) (ZK T.bB (yw T hw) hr rfl rfl (@Za _ _ _ _ _ (@Zq _ _ _ _ _ _ _ (Zk hK) (pv 3) (@Zv _ _ _ _ _ _ _ _ Z5 (@Zv _ _ _ _ _ _ _ _ VG Ze (pv 1)) Ze) (fun _ _=>rfl)) (@Za _ _ _ _ _ (pv 4) Zb rfl) rfl)) Yr (Z4 (@Zv _ _ _ _ _ _ _ _ Z5 Ze (@Zv _ _ _ _ _ _ _ _ Yx (@Zq _ _ _ _ _ _ _ (Zk hK) (pv 3) (@Zv _ _ _ _ _ _ _ _ Z5 (@Zv _ _ _ _ _ _ _ _ VG Ze (pv 1)) Ze) (fun _ _=>rfl)) Ze)))) rfl (.inl rfl)) d5.2)⟩
 let d7:Rdg X Z3 [5]:=⟨_,(@Zc _ _ _ _ _ (Xp gE rfl (Y9 rfl T.aX (@Za _ _ _ _ _ (pv 4) Zb rfl)) (Zz (i:=7) Yp.nd rfl (.inr rfl)) d4.2) d6.2)⟩
 let d8:Rdg X Z3 [4]:=⟨_,(@Zc _ _ _ _ _ (@Zo _ _ (6) _ _ _ _ Yp.nd rfl (.inl rfl) (@Z7 _ _ _ _ Zb) rfl (.inl rfl)) d7.2)⟩
 let d9:Rdg X Z3 [3]:=⟨_,(@Zc _ _ _ _ _ (@Zo _ _ (5) _ _ _ _ Yp.nd rfl (.inl rfl) (@Z7 _ _ _ _ Zb) rfl (.inl rfl)) d8.2)⟩
 let uj:Rdg X Z3 [2]:=⟨_,(@Zc _ _ _ _ _ (@Zo _ _ (4) _ _ _ _ Yp.nd rfl (.inl rfl) (@Zv _ _ _ _ _ _ _ _ Z5 Ze (@Zv _ _ _ _ _ _ _ _ Yx (@Zq _ _ _ _ _ _ _ (Zk hK) (pv 3) Ze (fun _ _=>rfl)) (pv 1))) rfl (.inl rfl)) d9.2)⟩
 let wp:Rdg X Z3 [1]:=⟨_,(@Zc _ _ _ _ _ (@Zo _ _ (3) _ _ _ _ Yp.nd rfl (.inr rfl) (ZK T.aJ (WE T hw) hr rfl rfl (@Za _ _ _ _ _ (pv 0) (@Za _ _ _ _ _ (@Zv _ _ _ _ _ _ _ _ Z5 (@Zv _ _ _ _ _ _ _ _ VG Ze (pv 1)) Ze) Zb rfl) rfl)) rfl (.inl rfl)) uj.2)⟩
 intro vs Q h;obtain⟨c,rfl,k⟩:=h;refine⟨_,(@Zc _ _ _ _ _ (@Zo _ _ (2) _ _ _ _ Yp.nd rfl (.inr rfl) (@Z7 _ _ _ _ (@ZC _ _ _ _ _ Zl (@ZC _ _ _ _ _ Zl (@ZC _ _ _ _ _ Zl Zb rfl) rfl) rfl)) rfl (.inl rfl)) wp.2),?_⟩;refine⟨sz3,fun Nm Gf=>?_⟩;refine YU Gf fun H1 s1 F8=>?_;refine⟨_,rfl,_,rfl,_,_,rfl,rfl,.inl ⟨by left,by left⟩,_,_,rfl,rfl,c,14,rfl,by left,fun H2 X ns s2 X0 hX ln=>?_⟩;have hx:∀j:Nat,(hj:j<14)->atI (ns.map V.int) (j:Int)=some (.int (ns[j]'(by lia))):=fun j hj=>Zh (by rw[fO,fG (by lia)];rfl);refine⟨_,rfl,X,_,_,_,rfl,rfl,nS hX,hx 0 (by lia),_,rfl,_,_,rfl,rfl,by left,_,_,rfl,rfl,?_⟩;have m0:=iA (ns[0]'(by lia)) (show(5:Int)≠0 by left);have m1:=iP (ns[0]'(by lia)) (show(0:Int)<5 by left);generalize ns[0]'(by lia)%(5:Int)=r0 at m0 m1 ⊢;obtain⟨M,eM⟩:=iQ (show 0<=1+r0 by lia);rw[eM];have M1:1<=M:=by lia
 have M5:M<=5:=by lia
 clear m0 m1 eM;have Gq:=s2 _ _ F8;have BO:=s1.trans s2;refine⟨by rw[fJ];decide,fun S Bi=>?_⟩;refine YU Bi fun H3 s3 AT=>?_;refine⟨by rw[fJ];decide,fun W ue=>?_⟩;refine YU ue fun H4 s4 DC=>?_;have A6:S≠W:=fun e=>by rw[<- e,AT] at ue;cases ue
 refine⟨_,rfl,_,rfl,by lia,by lia,?_⟩;rw[hJ];have Fc:H2 W=none:=s3.free ue
 let J1:Nat->L2.St->Hp->Prop:=fun i U G=>Ex5 fun(z7 z8 z9:Option V) (zs:List (V×List Str)) (zw:List (V×List Int))=>Zbv (U=[some (.int c),some (.int 5),qr0 Nm,qr0 X,some (.int M),qr0 S,qr0 W,z7,z8,z9,none,none]) (Zg H2 G) (G S=some (.lst (zs.map ε))) (G W=some (.lst (zw.map ε))) (zs.length=i) (zw.length=i) (ZL LS (ZbY S W (New H2 G)) zs) (ZL LI (ZbY S W (New H2 G)) zw) ((∀x∈zs,x.2.Sublist ["zeta","b","am"])) ((∀x∈zw,x.2.Nodup/\x.2≠[]/\(∀y∈x.2,0<=y/\y<(M:Nat))/\x.2.length<=20))
 refine WZ (J:=Itr 0 M) (n:=M) J1 ?_ (fun i U H' hi _=>hi) (fun U H' _=>fH _) ?_ ?_
 ·exact⟨_,_,_,[],[],rfl,s3.trans s4,s4 _ _ AT,DC,rfl,rfl,ZL.nil,ZL.nil,(fun x hx=>by cases hx),(fun x hx=>by cases hx)⟩
 ·rintro i x U G0 G hi ⟨z7,z8,z9,zs,zw,rfl,sG,gS,gW,Db,GH,qs,qw,bs,bw⟩ ⟨rfl,rfl⟩;have ei:(0:Int)+(i:Int)=((i:Nat):Int):=Int.zero_add _;rw[ei];have e1:(1:Int)+(i:Int)=((1+i:Nat):Int):=by lia
  have e6:(1:Int)+5+(i:Int)=((6+i:Nat):Int):=by lia
  have NO:=sG _ _ hX;refine⟨_,rfl,.inl ⟨rfl,_,nS gS⟩,3,rfl,by left,by left,fun D1 uI=>?_⟩;refine Ug (n:=3) (fun j=>decide (V.int ((ns[1+i]'(by lia))/(1*2 ^ ((j:Nat):Int).toNat)%2)=V.int 1)) (fun j=>V.str ((["zeta","b","am"]:List Str).getD j "")) uI (by rw[fJ];decide) ?_ ?_
  ·intro j hj F N N0 sF h1 h2;refine⟨_,rfl,_,rfl,_,_,rfl,rfl,X,_,_,_,rfl,rfl,nS (sF _ _ NO),by rw[e1];exact hx (1+i) (by lia),_,rfl,_,_,rfl,rfl,⟨by lia,by lia,by left⟩,_,_,rfl,rfl,Zah (by lia),_,_,rfl,rfl,by left,rfl,_,rfl,YY (fun c=>?_) (fun c=>?_)⟩
   ·exact⟨_,rfl,_,rfl,Nm,_,_,_,rfl,rfl,nS (sF _ _ (sG _ _ Gq)),Zh (at3 hj),h1 _ (.refl _) c⟩
   ·exact h2 _ (.refl _) (by simpa using c)
  intro G1 Gs t1;obtain⟨ss,NB,sub⟩:=ZhS (fun j=>decide (V.int ((ns[1+i]'(by lia))/(1*2 ^ ((j:Nat):Int).toNat)%2)=V.int 1));rw[NB] at Gs;clear NB;have CV:D1≠S/\D1≠W:=⟨(zO gS uI).symm,(zO gW uI).symm⟩;have sl3:=sub.length_le;refine⟨S,_,_,rfl,rfl,t1 _ _ gS,by rw[fF,fJ];lia,?_⟩;obtain⟨G2,AM⟩:∃G2,upd G1 S (.lst (zs.map ε++[.ref D1]))=G2:=⟨_,rfl⟩;rw[AM];have Cq:G2 S=some (.lst ((zs++[(V.ref D1,ss)]).map ε)):=by rw[<- AM,Zd,gp];rfl
  have t2:X5 S W G G2:=by rw[<- AM];exact(Zg.two t1).upd1
  have EN:G2 W=some (.lst (zw.map ε)):=by rw[<- AM,ZF (fX A6)];exact t1 _ _ gW
  have DF:G2 D1=some (.lst (ss.map V.str)):=by rw[<- AM,ZF CV.1];exact Gs
  have Ca:Zg H2 G2:=((Zg.two sG).trans t2).same Bi Fc;clear AM t1 Gs;have Ao:=Ca _ _ hX;refine⟨_,rfl,_,rfl,_,_,rfl,rfl,_,rfl,_,_,rfl,rfl,X,_,_,_,rfl,rfl,nS Ao,by rw[e6];exact hx (6+i) (by lia),_,rfl,_,_,rfl,rfl,by lia,?_⟩;have f0:=iA (ns[6+i]'(by lia)) (show(M:Int)≠0 by lia);have f1:=iP (ns[6+i]'(by lia)) (show(0:Int)<M by lia);generalize ns[6+i]'(by lia)%(M:Int)=fi at f0 f1 ⊢;refine⟨_,rfl,_,rfl,_,_,rfl,rfl,_,rfl,_,_,rfl,rfl,X,_,_,_,rfl,rfl,nS Ao,by rw[e6];exact hx (6+i) (by lia),_,_,rfl,rfl,⟨by left,by left⟩,_,rfl,_,M,rfl,M1,by lia,fun G3 Pk pk t3 P0 hP M8 EQ F3=>?_⟩;refine⟨_,rfl,_,rfl,_,_,rfl,rfl,_,rfl,_,_,rfl,rfl,X,_,_,_,rfl,rfl,nS (t3 _ _ Ao),by rw[e6];exact hx (6+i) (by lia),_,_,rfl,rfl,⟨by left,by left⟩,_,_,rfl,rfl,by left,_,rfl,Pk,_,rfl,nS hP,fun R hR=>?_⟩;have u0:=iA ((ns[6+i]'(by lia))/8) (show(3:Int)≠0 by left);obtain⟨u,eu⟩:=iQ u0;rw[eu,qV,<- iW];clear u0 eu;have BK:(pk.take u).Sublist pk:=Γ _ _;have wS:=EQ.sublist BK;have wH:∀y∈pk.take u,0<=y/\y<(M:Nat):=fun y hy=>F3 y (BK.subset hy);generalize pk.take u=mr at wS wH ⊢;refine Xh hR fun G4 t4 eR=>?_;refine⟨_,rfl,.inl ⟨rfl,_,nS ((t3.trans t4) _ _ EN)⟩,_,rfl,sz1,fun F hF=>?_⟩;refine Xh hF fun G5 t5 eF=>?_;have Fn:mr.length<=M:=by
   have:=yq wS wH;exact this
  refine⟨_,rfl,R,rfl,⟨_,nS (t5 _ _ eR)⟩,fun D2 rh=>?_⟩;refine kI mr V.int (fun y=>!decide (V.int y=V.int fi)) V.int rh (nS (t5 _ _ eR)) (by rw[fJ];lia) ?_ ?_
  ·intro y hy E' N N0 sE h1 h2;refine⟨_,rfl,_,rfl,rfl,_,rfl,YY (fun c=>?_) (fun c=>?_)⟩
   ·exact⟨_,rfl,h1 _ (.refl _) c⟩
   ·exact h2 _ (.refl _) (by simpa using c)
  intro G6 eD t6;have fl:(mr.filter (fun y=>!decide (V.int y=V.int fi))).length<=M:=gg (mw _ _) Fn;have Eb:=wS.filter (fun y=>!decide (V.int y=V.int fi));have Ey:∀y∈mr.filter (fun y=>!decide (V.int y=V.int fi)),(0<=y/\y<(M:Nat))/\y≠fi:=fun y hy=>by
   obtain⟨h1,h2⟩:=iC.mp hy;exact⟨wH y h1,fun e=>by rw[e] at h2;simp at h2⟩
  generalize mr.filter (fun y=>!decide (V.int y=V.int fi))=fr at eD fl Eb Ey;refine⟨F,D2,_,_,rfl,rfl,t6 _ _ eF,eD,by rw[fF,fJ];show 1+fr.length<=16777216;lia,fun Z hZ=>?_⟩;have eZ:[V.int fi]++fr.map V.int=(fi::fr).map V.int:=rfl;rw[eZ];refine Xh hZ fun G7 t7 gZ=>?_;have EO:=t3.trans (t4.trans (t5.trans (t6.trans t7)));have Z2:G2 Z=none:=(t3.trans (t4.trans (t5.trans t6))).free hZ;have nZ:Z≠S/\Z≠W:=⟨(zO Cq Z2).symm,(zO EN Z2).symm⟩;refine⟨W,_,_,rfl,rfl,EO _ _ EN,by rw[fF,fJ];lia,?_⟩;have tt:X5 S W G2 (upd G7 W (.lst (zw.map ε++[.ref Z]))):=(Zg.two EO).upd2;refine⟨_,_,_,zs++[(V.ref D1,ss)],zw++[(V.ref Z,fi::fr)],rfl,((Zg.two Ca).trans tt).same Bi Fc,by rw[ZF A6];exact EO _ _ Cq,by rw[Zd,gp];rfl,by rw[fK,Db];rfl,by rw[fK,GH];rfl,?_,?_,?_,?_⟩
  ·refine ZL.app (qs.mono LS.mono (t2.trans tt).new) (ZL.one ⟨D1,rfl,k9 CV.1 CV.2 (New.mk (sG.free uI) (tt _ _ CV.1 CV.2 DF))⟩)
  ·refine ZL.app (qw.mono LI.mono (t2.trans tt).new) (ZL.one ⟨Z,rfl,k9 nZ.1 nZ.2 (New.mk (Ca.free Z2) (by rw[ZF nZ.2];exact gZ))⟩)
  ·intro x hx;rcases gj.mp hx with h|h
   ·exact bs x h
   ·cases gn.mp h;exact sub
  ·intro x hx;rcases gj.mp hx with h|h
   ·exact bw x h
   ·cases gn.mp h;refine⟨iw.mpr ⟨fun h=>(Ey _ h).2 rfl,Eb⟩,by simp,fun y hy=>?_,by show fr.length+1<=20;lia⟩;rcases fU.mp hy with rfl|h
    ·exact⟨f0,f1⟩
    ·exact(Ey y h).1
 rintro U H5 ⟨z7,z8,z9,zs,zw,rfl,sG,gS,gW,Db,GH,qs,qw,bs,bw⟩;have Gi:=sG _ _ hX;refine⟨_,rfl,_,rfl,_,_,rfl,rfl,.inl ⟨by left,by left⟩,_,_,rfl,rfl,X,_,_,_,rfl,rfl,nS Gi,hx 11 (by lia),_,rfl,_,M,rfl,M1,by lia,fun H6 Pk pk s6 P0 hP M8 EQ F3=>?_⟩;refine⟨_,rfl,_,rfl,_,_,rfl,rfl,.inl ⟨by left,by left⟩,_,_,rfl,rfl,X,_,_,_,rfl,rfl,nS (s6 _ _ Gi),hx 12 (by lia),_,_,rfl,rfl,by left,_,_,rfl,rfl,_,rfl,Pk,_,rfl,nS hP,fun R hR=>?_⟩;have u0:=iA (ns[12]'(by lia)) (show(2:Int)≠0 by left);generalize ns[12]'(by lia)%(2:Int)=r2 at u0 ⊢;obtain⟨u,eu⟩:=iQ (show 0<=1+r2 by lia);have u1:1<=u:=by lia
 rw[eu,qV,<- iW];clear u0 eu;have BK:(pk.take u).Sublist pk:=Γ _ _;have Et:=EQ.sublist BK;have Fl:∀y∈pk.take u,0<=y/\y<(M:Nat):=fun y hy=>F3 y (BK.subset hy);have NJ:pk.take u≠[]:=fun e=>by
  have:=fS θ e;rw[fN,mM] at this;have:pk.length≠0:=fun z=>M8 (nE z);lia
 generalize pk.take u=Di at Et Fl NJ ⊢;have tlen:Di.length<=M:=yq Et Fl;refine Xh hR fun H7 s7 eR=>?_;refine⟨by rw[fJ];decide,fun n1 h1=>?_⟩;refine Xh h1 fun H8 t1 g1=>?_;refine⟨by rw[fJ];decide,fun n2 h2=>?_⟩;refine YU h2 fun H9 t2 g2=>?_;refine⟨by rw[fJ];decide,fun n3 h3=>?_⟩;refine Xh h3 fun Sq t3 g3=>?_;refine⟨by rw[fJ];decide,fun n4 h4=>?_⟩;refine YU h4 fun IK t4 g4=>?_;refine⟨sz4,fun n5 h5=>?_⟩;refine Xh h5 fun LQ t5 g5=>?_;have Dj:=s6.trans s7;have Dz:Zg H7 LQ:=t1.trans (t2.trans (t3.trans (t4.trans t5)));obtain⟨v,fs,hv,hf,Eb,Ss,f3⟩:∃(v:V) (fs:List Str),atI [V.ref n1,.ref n2,.ref n3,.ref n4] (ns[13]'(by lia)%4)=some v/\LS (New H7 LQ) v fs/\fs.Nodup/\(∀x∈fs,Xs x=true)/\fs.length<=3:=by
  obtain⟨_,v,hv,Il⟩:=V7 (ts:=[V.ref n1,.ref n2,.ref n3,.ref n4]) (ns[13]'(by lia)) (by simp);simp only[fU,gN,gO] at Il;rcases Il with rfl|rfl|rfl|rfl
  ·exact⟨_,["am","b"],hv,⟨n1,rfl,New.mk h1 ((t2.trans (t3.trans (t4.trans t5))) _ _ g1)⟩,by left,by left,by left⟩
  ·exact⟨_,[],hv,⟨n2,rfl,New.mk (t1.free h2) ((t3.trans (t4.trans t5)) _ _ g2)⟩,by simp,by simp,by left⟩
  ·exact⟨_,["zeta"],hv,⟨n3,rfl,New.mk ((t1.trans t2).free h3) ((t4.trans t5) _ _ g3)⟩,by left,by left,by left⟩
  ·exact⟨_,[],hv,⟨n4,rfl,New.mk ((t1.trans (t2.trans t3)).free h4) (t5 _ _ g4)⟩,by simp,by simp,by left⟩
 refine⟨_,rfl,_,rfl,_,_,rfl,rfl,.inl ⟨by left,by left⟩,_,_,rfl,rfl,X,_,_,_,rfl,rfl,nS ((Dj.trans Dz) _ _ Gi),hx 13 (by lia),_,_,rfl,rfl,by left,n5,_,_,_,rfl,rfl,nS g5,hv,?_⟩;refine⟨_,rfl,_,rfl,_,rfl,_,rfl,sz4,fun t ht=>?_⟩;have st:=Zi (o:=.tup [.ref S,.ref W,.ref R,v]) ht;have CL:=Dj.trans (Dz.trans st);have D5:=BO.trans sG;have RX:H R=none:=(D5.trans s6).free hR;refine k _ t _ _ _ _ ⟨zs.map ζ,zw.map ζ,Di,fs⟩ (D5.trans CL) ((D5.trans (Dj.trans Dz)).free ht) Zd ⟨?_,?_,?_,?_⟩ ⟨⟨?_,?_,?_,?_,?_,?_,?_⟩,?_,?_⟩
 ·exact ZL.ll (New.mk (BO.free Bi) (CL _ _ gS)) (qs.mono LS.mono (Qo.trans (New.mono BO CL)))
 ·exact ZL.ll (New.mk (BO.free Fc) (CL _ _ gW)) (qw.mono LI.mono (Qo.trans (New.mono BO CL)))
 ·exact⟨R,rfl,New.mk RX ((Dz.trans st) _ _ eR)⟩
 ·exact LS.mono _ _ _ _ (New.mono (D5.trans Dj) st) hf
 ·show 1<=(zs.map ζ).length;rw[fF];lia
 ·show(zs.map ζ).length<=20;rw[fF];lia
 ·show(zw.map ζ).length=(zs.map ζ).length;rw[fF,fF];lia
 ·intro ss pT;obtain⟨x,hx,rfl⟩:=fM.mp pT;have sb:=bs x hx;have:=sb.length_le;exact⟨ZdS.2.sublist sb,fun y hy=>ZdS.1 y (sb.subset hy),gg this (by left)⟩
 ·intro ss pT;obtain⟨x,hx,rfl⟩:=fM.mp pT
  show _/\_/\(∀y∈x.2,0<=y/\y<(((zs.map ζ).length:Nat):Int))/\_
  rw[fF,Db];exact bw x hx
 ·refine⟨Et,NJ,?_,by show Di.length<=20;lia⟩
  show ∀y∈Di,0<=y/\y<(((zs.map ζ).length:Nat):Int)
  rw[fF,Db];exact Fl
 ·exact⟨Eb,Ss,f3⟩
 ·show(zs.map ζ).length<=5;rw[fF];lia
 ·intro ss pT;obtain⟨x,hx,rfl⟩:=fM.mp pT;exact(bs x hx).length_le
def KpT(K:W.Frag)(H:Hp)(C:List Tr)(u:V):Prop:=∃t,At K 8 H u t/\cz t<=40/\∀s∈post t,s∈C
def zV(K:W.Frag)(a:Adr):Sp:=fun vs H Q _=>Ex4 fun(cl wl:Addr) (ns:List Int) (ws:List Str)=>Cj8 (vs=[.ref cl,.ref wl,.int 40]) (H cl=some (.lst (ns.map V.int))) (ns.length<=12) (H wl=some (.lst (ws.map V.str))) (ws≠[]) (ws.length<=100) ((∀w∈ws,w∈WS)) (∀H' q us C,Zg H H'->H q=none->H' q=some (.lst us)->us.length<=12->(∀u∈us,KpT K H' C u)->C.length<=20->Q (.ref q) H')
theorem yD:Okd P w K mg base a 22 a.y63 a.z63 fe zV:=fun T hw=>by
 have aq:=JC (P:=P) (w:=w) (base:=base) T hw 20;have bV:=Jb (P:=P) (w:=w) (base:=base) T hw 20;refine okX T.a8.f YS fun dn A outer s H E hr=>?_;intro X;have hK:X.K=K:=rfl
 let d1:Rdg X Yf [1,0,2,0,0]:=⟨_,(Zf (Zo (i:=6) YS.nd rfl (.inl rfl) (ZK T.bT (Jy T hw) hr rfl rfl (@ZC _ _ _ _ _ (Zq (Zk hK) (pv 5) Ze (fun _ _=>rfl)) (@ZC _ _ _ _ _ (pv 3) (@ZC _ _ _ _ _ (pv 1) Zb rfl) rfl) rfl)) rfl (.inl rfl)))⟩
 let d2:Rdg X Yf [1,0,3]:=⟨_,(Zf (ZJ (PW.pt (zC (Zn zk (XY aq (rmL hr rfl) rfl T.aa.g T.aa.f.kp T.aa.n .nil Yh (Za (pv 6) Zb rfl)) (pv 2) (Zx _)) (UY (Zn zk (XY bV (rmL hr rfl) rfl T.aG.g T.aG.f.kp T.aG.n .nil Yh (Za (pv 6) Zb rfl)) Ze (Zx _))))) (Zf (Yj (XE gA gH gI Z0 (pv 3) (Za (pv 6) Zb rfl)) rfl)) Zw))⟩
 let d3:Rdg X Yf [1,0,2]:=⟨_,(Zc (ZJ (Zn ZaT (Zv Yx (Zv XL (Zq (Zk hK) (pv 5) Ze (fun _ _=>rfl)) Ze) Ze) Ze (Zx _)) d1.2 Zw) d2.2)⟩
 let d4:Rdg X Yf [1,0,1]:=⟨_,(Zc (Zo (i:=6) YS.nd rfl (.inl rfl) (ZK T.bS (Jm T hw) hr rfl rfl (Za (Zq (Zk hK) (pv 5) Ze (fun _ _=>rfl)) Zb rfl)) rfl (.inl rfl)) d3.2)⟩
 let d5:Rdg X Yf [1,0,0]:=⟨_,(Zc (Zo (i:=5) YS.nd rfl (.inl rfl) (ZK T.aJ (WE T hw) hr rfl rfl (Za (pv 4) (Za Ze Zb rfl) rfl)) rfl (.inl rfl)) d4.2)⟩
 let d6:Rdg X Yf [1]:=⟨_,(Zc (Xp gE rfl (ZQ hK (pv 0)) (Zz (i:=4) YS.nd rfl (.inl rfl)) d5.2) (Zf (Zm (Z1 (YI hK) (pv 3) (Z4 Ze) Yr))))⟩
 intro vs Q h;obtain⟨cl,wl,ns,ws,rfl,ri,hnl,rP,Bv,Ea,Cz,k⟩:=h;refine⟨_,(Zc (Zo (i:=3) YS.nd rfl (.inl rfl) (Z7 (Za (ZH (Za Zl (Za Zl Zb rfl) rfl)) (Za (ZH (Za Zl (Za Zl Zb rfl) rfl)) Zb rfl) rfl)) rfl (.inl rfl)) d6.2),?_⟩;have sz2:2<=sizeLine:=by rw[fJ];decide
 refine⟨sz2,fun b1 SS=>?_⟩;refine YU SS fun G1 g1 e1=>?_;refine⟨sz2,fun b2 pS=>?_⟩;refine YU pS fun G2 g2 e2=>?_;refine⟨sz2,fun S hS=>?_⟩;refine YU hS fun G3 g3 e3=>?_;have Hl:=g2.trans g3;have HR:=g1.trans Hl;have S0:H S=none:=(g1.trans g2).free hS;refine⟨_,rfl,cl,rfl,⟨_,nS (HR _ _ ri)⟩,?_⟩
 let J1:Nat->L2.St->Hp->Prop:=fun i U H'=>∃(z1 z2 z3:Option V) (us:List V) (C:List Tr),U=[qr0 cl,qr0 wl,some (.int 40),qr0 S,z1,z2,z3]/\Zg H H'/\H' S=some (.lst us)/\2<=us.length/\us.length<=i+2/\(∀u∈us,KpT K H' C u)/\C.length<=i+5/\∀s∈LF,s∈C
 refine Wp (K:=K) (xs:=ns.map V.int) J1 ?_ ?_ ?_ ?_
 ·refine⟨_,_,_,[.ref b1,.ref b2],LF,rfl,HR,e3,by simp,by simp,fun u hu=>?_,by simp[LF],fun s h=>h⟩;simp only[fU,gN,gO] at hu;rcases hu with rfl|rfl
  ·exact⟨_,(U2 (n:=7) (nU (Hl _ _ e1)) (by left)),by left,fun s hs=>xl hs (by simp[LF])⟩
  ·exact⟨_,(U2 (n:=7) (nU (g3 _ _ e2)) (by left)),by left,fun s hs=>xl hs (by simp[LF])⟩
 ·rintro i U H' hi ⟨z1,z2,z3,us,C,rfl,s',_⟩;exact nS (s' _ _ ri)
 ·rintro i xv U H1 hx ⟨z1,z2,z3,us,C,rfl,s1,uZ,l2,lu,kp,lC,BS⟩;have li:i<ns.length:=by have:=(fP.mp hx).1;rw[fF] at this;exact this
  obtain⟨nv,hnv,rfl⟩:=fM.mp (gk hx);have rY:∀(z4 z5:Option V) (v:V) (t:Tr) (G:Hp),Zg H1 G->At K 9 G v t->(∀s∈post t,s=t\/s∈C)->∀D':jN,(∀U H',(∃(z1 z2 z3:Option V) (us:List V) (C:List Tr),U=[qr0 cl,qr0 wl,some (.int 40),qr0 S,z1,z2,z3]/\Zg H H'/\H' S=some (.lst us)/\2<=us.length/\us.length<=i+1+2/\(∀u∈us,KpT K H' C u)/\C.length<=i+1+5/\∀s∈LF,s∈C)->D'.nx U H')->Zh5 (Zh8 (Zbg (tOp (rI0 fun i j=>V.bl (decide (i<=j))) (J7 (UT 20 K a) [] E0 (xX (xM 6) Jz)) (xM 2))) (Zbg (tOp (rI0 fun i j=>V.bl (decide (i<=j))) (J7 (Vo 20 K a) [] E0 (xX (xM 6) Jz)) (tC (V.int 8))))) (ZfU (tBM K "list" Za0 (xM 3) (xX (xM 6) Jz))) ZfP D' [qr0 cl,qr0 wl,some (.int 40),qr0 S,z4,z5,some v] G:=fun z4 z5 v t G sG ox sS D' kD=>by
   refine⟨_,rfl,v,t,9,rfl,by left,ox,fun G1 g1=>⟨_,rfl,_,_,rfl,rfl,_,rfl,YY (fun c=>?_) (fun c=>?_)⟩⟩
   ·refine⟨_,rfl,v,t,9,rfl,by left,ox.mono (nT g1),fun G2 g2=>⟨_,_,rfl,rfl,_,rfl,YY (fun c'=>?_) (fun c'=>?_)⟩⟩
    ·have OO:cz t<=40:=by have:=ge c;lia
     have h8:hgt t<=8:=by have:=ge c';lia
     have s2:=(sG.trans g1).trans g2;have wA:=s2 _ _ uZ;refine⟨_,rfl,.inl ⟨rfl,_,nS wA⟩,_,rfl,S,_,_,rfl,rfl,wA,by rw[fJ];lia,?_⟩;have x3:ZB S G2 (upd G2 S (.lst (us++[v]))):=(ZB.refl G2).upd;have u3:Yv G2 (upd G2 S (.lst (us++[v]))):=ZB.tup x3 wA;have e3:(upd G2 S (.lst (us++[v]))) S=some (.lst (us++[v])):=Zd;have s3:Zg H (upd G2 S (.lst (us++[v]))):=((Zg.x (s1.trans s2)).upd).same S0;generalize upd G2 S (.lst (us++[v]))=G3 at x3 u3 e3 s3 ⊢;refine kD _ _ ⟨_,_,_,us++[v],t::C,rfl,s3,e3,by simp;lia,by simp;lia,fun u hu=>?_,by simp;lia,fun s hs=>fT _ (BS s hs)⟩;rcases gj.mp hu with hu|hu
     ·obtain⟨t',h1,h2,h3⟩:=kp u hu;exact⟨t',h1.mono ((nT s2).trans u3),h2,fun s hs=>fT _ (h3 s hs)⟩
     ·rw[gn.mp hu];exact⟨t,(ox.mono ((nT (g1.trans g2)).trans u3)).fit h8,OO,fun s hs=>by
       rcases sS s hs with e|e
       ·rw[e];simp
       ·exact fT _ e⟩
    ·have s2:=(sG.trans g1).trans g2;exact kD _ _ ⟨_,_,_,us,C,rfl,s1.trans s2,s2 _ _ uZ,l2,by lia,fun u hu=>by
      obtain⟨t',h1,h2,h3⟩:=kp u hu;exact⟨t',h1.mono (nT s2),h2,h3⟩,by lia,BS⟩
   ·have s2:=sG.trans g1;exact Yn (kD _ _ ⟨_,_,_,us,C,rfl,s1.trans s2,s2 _ _ uZ,l2,by lia,fun u hu=>by
      obtain⟨t',h1,h2,h3⟩:=kp u hu;exact⟨t',h1.mono (nT s2),h2,h3⟩,by lia,BS⟩)
  refine⟨_,rfl,nv,2,rfl,by left,fun H2 X ms s2 X0 eX lX=>?_⟩;obtain⟨m0,m1,rfl⟩:∃m0 m1,ms=[m0,m1]:=by
   match ms,lX with
   |[x,y],_=>exact⟨x,y,rfl⟩
  refine⟨_,rfl,X,_,_,_,rfl,rfl,nS eX,Zh (j:=1) rfl,m1,rfl,fun H3 v3 t3 s3 at3 z3 P8=>?_⟩;refine⟨_,rfl,X,_,_,_,rfl,rfl,nS (s3 _ _ eX),Zh (j:=1) rfl,_,_,rfl,rfl,⟨by left,by left⟩,_,_,rfl,rfl,by left,_,_,rfl,rfl,_,rfl,YY (fun c=>?_) (fun c=>?_)⟩
  ·have rT:=s2.trans s3;refine⟨_,rfl,X,_,_,_,rfl,rfl,nS (s3 _ _ eX),Zh (j:=0) rfl,_,rfl,_,rfl,m0,S,wl,us,8,(fun t=>∀s∈post t,s∈C),ws,rfl,rT _ _ uZ,fun z=>by rw[z] at l2;simp at l2,by lia,rT _ _ (s1 _ _ rP),Bv,Ea,Cz,fun u hu=>?_,fun H4 q t s4 Ck sX=>?_⟩
   ·obtain⟨t',h1,h2,h3⟩:=kp u hu;exact⟨t',h1.mono (nT rT),h3⟩
   ·refine rY _ _ _ t H4 (rT.trans s4) Ck (fun s hs=>?_) _ fun U H' h=>h;rw[Tr.eta t] at hs;rcases pin hs with e|⟨kk,hk,h⟩
    ·exact .inl (by rw[e,<- Tr.eta t])
    ·exact .inr (sX kk hk s h)
  ·exact rY _ _ _ t3 H3 (s2.trans s3) (at3.le (by left)) (fun s hs=>.inr (BS s (P8 s hs))) _ fun U H' h=>h
 rintro U H1 ⟨z1,z2,z3,us,C,rfl,s1,uZ,l2,lu,kp,lC,BS⟩;rw[fF] at lu lC;refine⟨_,rfl,_,rfl,S,_,rfl,nS uZ,fun q hq=>?_⟩;refine YU hq fun H2 s2 e2=>?_;have ec:Xc us (some 2) none=us.drop 2:=by
  match us,l2 with
  |x::y::r,_=>exact vB x y r
 rw[ec] at e2;exact k H2 q (us.drop 2) C (s1.trans s2) (s1.free hq) e2 (by rw[gQ];lia) (fun u hu=>by
  obtain⟨t',h1,h2,h3⟩:=kp u (List.mem_of_mem_drop hu);exact⟨t',h1.mono (nT s2),h2,h3⟩) (by lia)
def Jp(K:W.Frag)(a:Adr):Sp:=fun vs H Q _=>Ex1 fun x=>Cj3 (vs=[x]) (KdL H x) (∀H',Zg H H'->Q (.bl (Yu H x)) H')
theorem yu:Okd P w K mg base a 2 a.y3 a.z3 dy Jp:=fun T hw=>by
 refine okX T.bt.f JX fun dn A outer s H E hr=>?_;intro X;have hK:X.K=K:=rfl
 let d1:Rdg X W8 [1]:=⟨_,(Zf (Zm (Xm ZO (Zp (Zy hK) rfl T.av nX (Za (ZI (j7 hK rfl) rfl T.de oj (Za (pv 0) Zb rfl)) Zb rfl)) (Zp (Zy hK) rfl T.av nX (Za (pv 0) Zb rfl)) (Zx _))))⟩
 intro vs Q h;obtain⟨x,rfl,hk,k⟩:=h;refine⟨_,(Zc (ZJ (PW.pt (Vk (Xy (WC (Zp (Wg hK "list") rfl T.ak nY (Za (pv 0) (Za (WY (v:=.ty "list") rfl T.a9 nV rfl) Zb rfl) rfl)))) (X8 (Xy (WC (Zp (Uh hK rfl) rfl T.cU oh (Za (Ya (Nc:=["name"]) (ix:=[none]) (ZX.of (by left:ZZ (Zj W8) ["thing"] _ _ _=true)) rfl (ZQ hK (pv 0)) (fun _ _ _ _ _=>(Zz (i:=0) (show δ (["name"]:List Str) by left) rfl (.inl rfl))) (fun _ _ _ _ _=>Ys) (fun _ _ _ _ _=>(ZK T.bW (vM T hw) hr rfl rfl (Za (pv 0) Zb rfl)))) Zb rfl))))))) (Zf (Zm VM)) Zw) d1.2),?_⟩;rcases qU hk.1 with⟨hb,p,xs,rfl,hp,hl⟩|⟨hb,e⟩
 ·obtain⟨t,h1,h2⟩:=Vm K (by simp) hk.1 hb;obtain⟨hz,hy⟩:=hk.2 xs hl;have hS:xs.length<=sizeLine:=by rw[fJ];lia
  have ev:Yu H (.ref p)=(xs.all Xx&&decide xs.Nodup):=by unfold Yu;rw[hl]
  rw[ev] at k;refine⟨_,rfl,_,t,_,rfl,h1,h2,_,rfl,Yn ?_⟩;refine⟨_,rfl,p,rfl,⟨xs,nS hp⟩,fun D hD=>?_⟩;refine VA (K:=K) hD (nS hp) hS (fun i v _=>∀x,xs[i]?=some x->v=.bl (Xx x)) (fun _ _ _ _ _ q=>q) ?_ ?_
  ·intro i x H2 N hx sm hN;refine⟨_,rfl,x,rfl,(hy x (gk hx)).mono sm,fun H3 s3=>hN _ _ s3 fun x' sV=>?_⟩;rw[hx] at sV;cases sV;rfl
  ·intro H2 ys rh sm ou hr;have ey:=VN (f:=Xx) ou fun i v x h1 h2=>hr i v h1 x h2;refine⟨D,_,rfl,nS (by rw[rh,ey]),_,rfl,?_⟩;rw[jc];cases oM:xs.all Xx with
   |false=>
    rw[oM] at k;exact YM (k H2 sm)
   |true=>
    rw[oM] at k;obtain⟨ks,rfl⟩:=vA oM;rw[fF] at hz;refine Yn ⟨_,rfl,p,ks,rfl,nS (sm _ _ hp),by lia,fun n c a1 a2 hc=>?_⟩;have s3:Zg H (upd H2 c (ZbM c n)):=sm.trans (Zi hc);refine .inr (.inr ⟨c,n,rfl,Zd,by lia,_,rfl,.inl ⟨p,_,rfl,.inl (nS (s3 _ _ hp)),rfl,?_⟩⟩);rw[Zbj rfl a2];exact k _ s3
 ·obtain⟨t,h1,h2⟩:=Vm K (by simp) hk.1 hb;have q:=k H (.refl H);have e2:Yu H x=false:=by unfold Yu;rw[e]
  rw[e2] at q;exact⟨_,rfl,_,t,_,rfl,h1,h2,_,rfl,YM (YM q)⟩
def Jo(K:W.Frag)(a:Adr):Sp:=fun vs H Q _=>Ex2 fun x n=>Cj3 (vs=[x,.int n]) (KdL H x) (∀H',Zg H H'->Q (.bl (Wt H n x)) H')
theorem Jn:Okd P w K mg base a 3 a.y4 a.z4 dz Jo:=fun T hw=>by
 refine okF T.bK.f Ji fun dn A outer s H vs Q E hr h=>?_;obtain⟨x,n,rfl,hk,k⟩:=h;refine⟨_,(Zf (Zm (Wr (Zp (Wg (K:=K) rfl "list") rfl T.ak nY (Za (pv 0) (Za (WY (v:=.ty "list") rfl T.a9 nV rfl) Zb rfl) rfl)) (Wb (Zp (Uh (K:=K) rfl rfl) rfl T.cU oh (Za (Ya (Nc:=["room","many"]) (ix:=[none,some 1]) (ZX.of (by left:ZZ (Zj V2) ["thing","many"] _ _ _=true)) rfl (ZQ (K:=K) rfl (pv 0)) (fun _ _ _ _ _=>(Zz (i:=0) (show δ (["room","many"]:List Str) by left) rfl (.inl rfl))) (fun _ _ _ _ _=>Ys) (fun _ _ _ _ _=>(ZK T.cy (Zar T hw) hr rfl rfl (Za (pv 0) (Za (pv 1) Zb rfl) rfl)))) Zb rfl)))))),?_⟩;rcases qU hk.1 with⟨hb,p,xs,rfl,hp,hl⟩|⟨hb,e⟩
 ·obtain⟨t,h1,h2⟩:=Vm K (by simp) hk.1 hb;obtain⟨hz,hy⟩:=hk.2 xs hl;have hS:xs.length<=sizeLine:=by rw[fJ];lia
  have ev:Wt H n (.ref p)=xs.all (Xl n):=by unfold Wt;rw[hl]
  rw[ev] at k;refine⟨_,rfl,_,t,_,rfl,h1,h2,_,rfl,YM ?_⟩;refine⟨_,rfl,p,rfl,⟨xs,nS hp⟩,fun D hD=>?_⟩;refine VA (K:=K) hD (nS hp) hS (fun i v _=>∀x,xs[i]?=some x->v=.bl (Xl n x)) (fun _ _ _ _ _ q=>q) ?_ ?_
  ·intro i x H2 N hx sm hN;refine⟨_,rfl,_,rfl,x,n,rfl,(hy x (gk hx)).mono sm,hN _ _ (.refl _) fun x' sV=>?_⟩;rw[hx] at sV;cases sV;rfl
  ·intro H2 ys rh sm ou hr;have ey:=VN (f:=Xl n) ou fun i v x h1 h2=>hr i v h1 x h2;refine⟨D,_,rfl,nS (by rw[rh,ey]),?_⟩;rw[jc];exact k H2 sm
 ·obtain⟨t,h1,h2⟩:=Vm K (by simp) hk.1 hb;have q:=k H (.refl H);have e2:Wt H n x=false:=by unfold Wt;rw[e]
  rw[e2] at q;exact⟨_,rfl,_,t,_,rfl,h1,h2,_,rfl,Yn q⟩
def yB(K:W.Frag)(a:Adr):Sp:=fun vs H Q _=>Ex2 fun x n=>Cj3 (vs=[x,.int n]) (KdL H x) (∀H',Zg H H'->Q (.bl (Ye H n x)) H')
theorem VZ:Okd P w K mg base a 4 a.y52 a.z52 dz yB:=fun T hw=>by
 refine okX T.aQ.f zY fun dn A outer s H E hr=>?_;intro X;have hK:X.K=K:=rfl
 let d1:Rdg X XR [1]:=⟨_,(Zf (Zm (Xm ZO (Zp (Zy hK) rfl T.av nX (Za (ZI (j7 hK rfl) rfl T.de oj (Za (pv 0) Zb rfl)) Zb rfl)) (Zp (Zy hK) rfl T.av nX (Za (pv 0) Zb rfl)) (Zx _))))⟩
 intro vs Q h;obtain⟨x,n,rfl,hk,k⟩:=h;refine⟨_,(Zc (ZJ (PW.pt (Vk (Xy (WC (ZK T.bK (Jn T hw) hr rfl rfl (Za (pv 0) (Za (pv 1) Zb rfl) rfl)))) (X8 (Zn ZO (Zp (Zy hK) rfl T.av nX (Za (pv 0) Zb rfl)) Ze (Zx _))))) (Zf (Zm VM)) Zw) d1.2),?_⟩;refine⟨_,rfl,_,rfl,x,n,rfl,hk,fun H1 s1=>⟨_,rfl,?_⟩⟩;rcases qU hk.1 with⟨hb,p,xs,rfl,hp,hl⟩|⟨hb,e⟩
 ·obtain⟨hz,hy⟩:=hk.2 xs hl;have ev:Wt H n (.ref p)=xs.all (Xl n):=by unfold Wt;rw[hl]
  have ew:Ye H n (.ref p)=(xs.all (Xl n)&&!xs.isEmpty&&decide xs.Nodup):=by unfold Ye;rw[hl]
  rw[ew] at k;rw[ev];cases oM:xs.all (Xl n) with
  |false=>
   rw[oM] at k;exact YM (YM (k H1 s1))
  |true=>
   rw[oM] at k;refine Yn ⟨_,rfl,.inl ⟨p,xs,rfl,.inl (nS (s1 _ _ hp)),rfl,_,rfl,?_⟩⟩;cases xs with
   |nil=>
    exact YM (k H1 s1)
   |cons y r=>
    have e0:decide (V.int (((y::r).length:Nat):Int)=V.int 0)=false:=by
     refine fV fun q=>?_;have q':=V.int.inj q;rw[gu] at q';lia
    rw[e0];obtain⟨ks,HG⟩:=vo oM;rw[HG] at hp k hz;rw[fF] at hz;refine Yn ⟨_,rfl,p,ks,rfl,nS (s1 _ _ hp),by lia,fun m c a1 a2 hc=>?_⟩;have s3:Zg H (upd H1 c (ZbM c m)):=s1.trans (Zi hc);refine .inr (.inr ⟨c,m,rfl,Zd,by lia,_,rfl,.inl ⟨p,_,rfl,.inl (nS (s3 _ _ hp)),rfl,?_⟩⟩);rw[Zbj rfl a2];have q:=k _ s3;have ne:(!(ks.map kV).isEmpty)=true:=by rw[<- HG];rfl
    rw[ne] at q;exact q
 ·have ev:Wt H n x=false:=by unfold Wt;rw[e]
  have ew:Ye H n x=false:=by unfold Ye;rw[e]
  rw[ew] at k;rw[ev];exact YM (YM (k H1 s1))
def vG(K:W.Frag)(a:Adr):Sp:=fun vs H Q _=>Ex4 fun x y z u=>Cj6 (vs=[x,y,z,u]) (Zcq H x) (Zcq H y) (KdL H z) (KdL H u) (∀H',Zg H H'->Q (.bl (U3 H x y z u)) H')
theorem vS:Okd P w K mg base a 5 a.y51 a.z51 fg vG:=fun T hw=>by
 refine okX T.bA.f qI fun dn A outer s H E hr=>?_;intro X;have hK:X.K=K:=rfl
 let d1:Rdg X YA [5]:=⟨_,(Zf (Zm (Wr (ZK T.aQ (VZ T hw) hr rfl rfl (Za (pv 2) (Za (pv 4) Zb rfl) rfl)) (Wr (ZK T.bt (yu T hw) hr rfl rfl (Za (pv 3) Zb rfl)) (Wb (Xm zk (Zp (Zy hK) rfl T.av nX (Za (pv 3) Zb rfl)) (W9 rfl T.cD) (Zx _)))))))⟩
 let d2:Rdg X YA [4]:=⟨_,(Zc (ZJ (Xy (WC (Zp (Uh hK rfl) rfl T.cU oh (Za (Ya (Nc:=["rooms","many"]) (ix:=[none,some 4]) (ZX.of (by left:ZZ (Zj YA) V5 _ _ _=true)) rfl (ZQ hK (pv 1)) (fun _ _ _ _ _=>(Zz (i:=0) (show δ (["rooms","many"]:List Str) by left) rfl (.inl rfl))) (fun _ _ _ _ _=>Ys) (fun _ _ _ _ _=>(ZK T.aQ (VZ T hw) hr rfl rfl (Za (pv 0) (Za (pv 1) Zb rfl) rfl)))) Zb rfl)))) (Zf (Zm VM)) Zw) d1.2)⟩
 let d3:Rdg X YA [3]:=⟨_,(Zc (ZJ (Xy (WC (Zp (Uh hK rfl) rfl T.cU oh (Za (Ya (Nc:=["names"]) (ix:=[none]) (ZX.of (by left:ZZ (Zj YA) V5 _ _ _=true)) rfl (ZQ hK (pv 0)) (fun _ _ _ _ _=>(Zz (i:=0) (show δ (["names"]:List Str) by left) rfl (.inl rfl))) (fun _ _ _ _ _=>Ys) (fun _ _ _ _ _=>(ZK T.bt (yu T hw) hr rfl rfl (Za (pv 0) Zb rfl)))) Zb rfl)))) (Zf (Zm VM)) Zw) d2.2)⟩
 let d4:Rdg X YA [2]:=⟨_,(Zc (ZJ (PW.pt (Vk (Xy (Qj zk zk Ze (pv 4) (W9 rfl T.cg))) (X8 (Zn Ql (Zp (Zy hK) rfl T.av nX (Za (pv 1) Zb rfl)) (pv 4) (Zx _))))) (Zf (Zm VM)) Zw) d3.2)⟩
 let d5:Rdg X YA [1]:=⟨_,(Zc (Zo (i:=4) qI.nd rfl (.inr rfl) (Zp (Zy hK) rfl T.av nX (Za (pv 0) Zb rfl)) rfl (.inl rfl)) d4.2)⟩
 intro vs Q h;obtain⟨x,y,z,u,rfl,kx,ky,kz,ku,k⟩:=h;refine⟨_,(Zc (ZJ (PW.pt (Vk (Xy (WC (Zp (Wg hK "list") rfl T.ak nY (Za (pv 0) (Za (WY (v:=.ty "list") rfl T.a9 nV rfl) Zb rfl) rfl)))) (X8 (Xy (WC (Zp (Wg hK "list") rfl T.ak nY (Za (pv 1) (Za (WY (v:=.ty "list") rfl T.a9 nV rfl) Zb rfl) rfl))))))) (Zf (Zm VM)) Zw) d5.2),?_⟩;rcases qU kx.1 with⟨hb,p,xs,rfl,hp,hl⟩|⟨hb,e⟩
 case inr=>
  obtain⟨t,h1,h2⟩:=Vm K (by simp) kx.1 hb;have q:=k H (.refl H);have e2:U3 H x y z u=false:=by unfold U3;rw[e]
  rw[e2] at q;exact⟨_,rfl,_,t,_,rfl,h1,h2,_,rfl,YM (YM q)⟩
 obtain⟨t,h1,h2⟩:=Vm K (by simp) kx.1 hb;refine⟨_,rfl,_,t,_,rfl,h1,h2,_,rfl,Yn ?_⟩;rcases qU ky.1 with⟨pS,p2,ys,rfl,sU,uL⟩|⟨pS,e⟩
 case inr=>
  obtain⟨t,h1,h2⟩:=Vm K (by simp) ky.1 pS;have q:=k H (.refl H);have e2:U3 H (.ref p) y z u=false:=by unfold U3;rw[hl,e]
  rw[e2] at q;exact⟨_,rfl,_,t,_,rfl,h1,h2,_,rfl,YM q⟩
 obtain⟨t2,h3,h4⟩:=Vm K (by simp) ky.1 pS;refine⟨_,rfl,_,t2,_,rfl,h3,h4,_,rfl,Yn ?_⟩;obtain⟨hz,hy⟩:=kx.2 xs hl;obtain⟨hz2,Bn⟩:=ky.2 ys uL;have hS:xs.length<=sizeLine:=by rw[fJ];lia
 have wA:ys.length<=sizeLine:=by rw[fJ];lia
 have ev:U3 H (.ref p) (.ref p2) z u=(decide (1<=xs.length)&&decide (xs.length<=20)&&decide (ys.length=xs.length)&&xs.all (Yu H)&&ys.all (Ye H xs.length)&&(Ye H xs.length z&&(Yu H u&&Zfx (Wq H u)))):=by unfold U3;rw[hl,uL]
 rw[ev] at k;refine⟨_,rfl,.inl ⟨p,xs,rfl,.inl (nS hp),?_⟩⟩;refine⟨_,rfl,_,_,rfl,rfl,_,rfl,?_⟩;cases c1:decide ((1:Int)<=xs.length) with
 |false=>
  have e1:decide (1<=xs.length)=false:=fV fun q=>ot (mX c1) (by lia);rw[e1] at k;exact Yn ⟨_,rfl,YM (YM (k H (.refl H)))⟩
 |true=>
 have e1:decide (1<=xs.length)=true:=fQ (by have:=ge c1;lia);rw[e1] at k;refine YM ⟨_,_,rfl,rfl,_,rfl,?_⟩;cases c2:decide ((xs.length:Int)<=20) with
 |false=>
  have e2:decide (xs.length<=20)=false:=fV fun q=>ot (mX c2) (by lia);rw[e2] at k;exact YM (YM (k H (.refl H)))
 |true=>
 have e2:decide (xs.length<=20)=true:=fQ (by have:=ge c2;lia);rw[e2] at k;refine Yn ⟨_,rfl,.inl ⟨p2,ys,rfl,.inl (nS sU),_,rfl,rfl,_,rfl,?_⟩⟩;cases c3:decide (V.int (ys.length:Int)=V.int (xs.length:Int)) with
 |false=>
  have e3:decide (ys.length=xs.length)=false:=fV fun q=>ot (mX c3) (by rw[q];simp);rw[e3] at k;exact YM (k H (.refl H))
 |true=>
 have e3:decide (ys.length=xs.length)=true:=fQ (by have:=V.int.inj (ge c3);lia);rw[e3] at k;refine Yn ⟨_,rfl,p,rfl,⟨xs,nS hp⟩,fun D hD=>?_⟩;refine VA (K:=K) hD (nS hp) hS (fun i v _=>∀x,xs[i]?=some x->v=.bl (Yu H x)) (fun _ _ _ _ _ q=>q) ?_ ?_
 ·intro i x H2 N hx sm hN;have hk:=hy x (gk hx);refine⟨_,rfl,x,rfl,hk.mono sm,fun H3 s3=>hN _ _ s3 fun x' sV=>?_⟩;rw[hx] at sV;cases sV;rw[zr sm hk.1]
 intro H2 zs rh sm ou hr;have ey:=VN (f:=Yu H) ou fun i v x h1 h2=>hr i v h1 x h2;refine⟨D,_,rfl,nS (by rw[rh,ey]),_,rfl,?_⟩;rw[jc];cases c4:xs.all (Yu H) with
 |false=>
  rw[c4] at k;exact YM (k H2 sm)
 |true=>
 rw[c4] at k;refine Yn ⟨_,rfl,p2,rfl,⟨ys,nS (sm _ _ sU)⟩,fun D' RF=>?_⟩;refine VA (K:=K) RF (nS (sm _ _ sU)) wA (fun i v _=>∀x,ys[i]?=some x->v=.bl (Ye H xs.length x)) (fun _ _ _ _ _ q=>q) ?_ ?_
 ·intro i x H3 N hx ET hN;have hk:=Bn x (gk hx);have s3:=sm.trans ET;refine⟨_,rfl,_,rfl,x,_,rfl,hk.mono s3,fun H4 s4=>hN _ _ s4 fun x' sV=>?_⟩;rw[hx] at sV;cases sV;rw[qt s3 hk.1]
 intro H3 zs3 BZ ET Ch D7;have s3:=sm.trans ET;have PV:=VN (f:=Ye H xs.length) Ch fun i v x h1 h2=>D7 i v h1 x h2;refine⟨D',_,rfl,nS (by rw[BZ,PV]),_,rfl,?_⟩;rw[jc];cases c5:ys.all (Ye H xs.length) with
 |false=>
  rw[c5] at k;exact YM (k H3 s3)
 |true=>
 rw[c5] at k;refine Yn ⟨_,rfl,_,rfl,z,_,rfl,kz.mono s3,fun H4 s4=>⟨_,rfl,?_⟩⟩;rw[qt s3 kz.1];have s5:=s3.trans s4;cases c6:Ye H xs.length z with
 |false=>
  rw[c6] at k;exact Yn (k H4 s5)
 |true=>
 rw[c6] at k;refine YM ⟨_,rfl,u,rfl,ku.mono s5,fun H5 s6=>⟨_,rfl,?_⟩⟩;rw[zr s5 ku.1];have s7:=s5.trans s6;cases c7:Yu H u with
 |false=>
  rw[c7] at k;exact Yn (k H5 s7)
 |true=>
 rw[c7] at k;rcases qU ku.1 with⟨_,p4,fs,rfl,FK,DR⟩|⟨_,e⟩
 ·rw[DR] at k;refine YM ⟨_,rfl,.inl ⟨p4,fs,rfl,.inl (nS (s7 _ _ FK)),_,_,rfl,rfl,?_⟩⟩;have q:=k H5 s7;have e8:decide (fs.length<=3)=decide ((fs.length:Int)<=3):=l7.mpr (by lia);simp only[Zfx] at q;rw[e8] at q;exact q
 ·unfold Yu at c7;rw[e] at c7;cases c7
def jG(K:W.Frag)(a:Adr):Sp:=fun vs H Q _=>Ex7 fun p dx x y z u d=>Cj5 (vs=[.ref p,x,y,z,u]) (H p=some (.ins a.C_World dx [])) (Wa H x y z u d) (QQ d) (∀H',ZB p H H'->Xu a.C_World H' p d->Q .non H')
theorem jD:Okd P w K mg base a 6 a.y45 a.z45 fh jG:=fun T hw=>by
 refine okX T.bD.f jI fun dn A outer s H E hr=>?_;intro X;have hK:X.K=K:=rfl
 let d1:Rdg X Xd [3]:=⟨_,(Zc (Ud (pv 0) (ZI (Z9 hK) rfl T.aD nW (Za (Zp (UU hK) rfl T.cp om (Za (pv 3) Zb rfl)) Zb rfl)) rfl) (Zf (Ud (pv 0) (ZI (Z9 hK) rfl T.aD nW (Za (pv 4) Zb rfl)) rfl)))⟩
 let d2:Rdg X Xd [2]:=⟨_,(Zc (Ud (pv 0) (ZI (Z9 hK) rfl T.aD nW (Za (Ya (Nc:=["rooms"]) (ix:=[none]) (ZX.of (by left:ZZ (Zj Xd) UH _ _ _=true)) rfl (ZQ hK (pv 2)) (fun _ _ _ _ _=>(Zz (i:=0) (show δ (["rooms"]:List Str) by left) rfl (.inl rfl))) (fun _ _ _ _ _=>Ys) (fun _ _ _ _ _=>(ZI (Z9 hK) rfl T.aD nW (Za (Zp (UU hK) rfl T.cp om (Za (pv 0) Zb rfl)) Zb rfl)))) Zb rfl)) rfl) d1.2)⟩
 let d3:Rdg X Xd [1]:=⟨_,(Zc (Ud (pv 0) (ZI (Z9 hK) rfl T.aD nW (Za (Ya (Nc:=["names"]) (ix:=[none]) (ZX.of (by left:ZZ (Zj Xd) UH _ _ _=true)) rfl (ZQ hK (pv 1)) (fun _ _ _ _ _=>(Zz (i:=0) (show δ (["names"]:List Str) by left) rfl (.inl rfl))) (fun _ _ _ _ _=>Ys) (fun _ _ _ _ _=>(ZI (Z9 hK) rfl T.aD nW (Za (Zp (UU hK) rfl T.cp om (Za (pv 0) Zb rfl)) Zb rfl)))) Zb rfl)) rfl) d2.2)⟩
 intro vs Q h;obtain⟨p,dx,x,y,z,u,d,rfl,hp,pp,gd,k⟩:=h;refine⟨_,(Zc (ZJ (Xy (WC (ZK T.bA (vS T hw) hr rfl rfl (@ZC _ _ _ _ _ (pv 1) (@ZC _ _ _ _ _ (pv 2) (@ZC _ _ _ _ _ (pv 3) (@ZC _ _ _ _ _ (pv 4) Zb rfl) rfl) rfl) rfl)))) (Zf Kl) Zw) d3.2),?_⟩;obtain⟨kx,ky,kz,ku⟩:=pp.kd gd;have hm:=pp.makes gd;refine⟨_,rfl,_,rfl,_,rfl,_,rfl,x,y,z,u,rfl,kx,ky,kz,ku,fun H1 s1=>⟨_,rfl,?_⟩⟩;rw[hm];refine Yn ?_;have p1:=pp.mono s1;have rj:=s1 _ _ hp;have ph:=p1.hid rj;have:=gd.n20;have:=gd.wl;obtain⟨b1,v1,e1,g1,l1,q1⟩:=p1.s;subst e1;refine⟨_,rfl,b1,rfl,⟨v1,nS g1⟩,fun D hD=>?_⟩;refine VA (K:=K) hD (nS g1) (by rw[fJ];lia) (fun i v G=>∀ss,d.signs[i]?=some ss->TS G v (VO ss)) (fun i v _ _ sm q ss e=>TS.mono _ _ _ _ sm (q ss e)) ?_ ?_
 ·intro i w H2 N hx sm hN;have hi:i<d.signs.length:=by rw[<- l1];exact(fP.mp hx).1
  obtain⟨c,rfl,ec⟩:=q1 i w _ hx (fG hi);have hg:=gd.sn _ (gC hi);refine⟨_,rfl,.inl ⟨c,_,rfl,nS (sm _ _ ec),by lia,fun l hl=>⟨l,_,rfl,.inl ⟨nS Zd,fun t ht=>?_⟩⟩⟩⟩;refine hN _ _ ((Zi hl).trans (Zi ht)) fun ss pT=>⟨t,rfl,New.mk ((Zi hl).free ht) ?_⟩;rw[fG hi] at pT;cases pT;rw[Zd]
 intro H2 w1 rh s2 PU r1;refine⟨D,w1,rfl,.inl ⟨nS rh,fun t1 rC=>?_⟩⟩;have Bc:=Zi (o:=.tup w1) rC;have sU:=Bc _ _ (s2 _ _ rj);refine⟨_,rfl,p,_,dx,[],rfl,sU,T.aV,T.aE,by left,?_⟩;have x2:ZB p H1 (upd (upd H2 t1 (.tup w1)) p (.ins a.C_World dx (Yl "room_signs" (.ref t1) []))):=(Zg.x (s2.trans Bc)).upd;have Iv:t1≠p:=fun z=>by subst z;rw[s2 _ _ rj] at rC;cases rC
 have W1:LT TS (hide p (upd (upd H2 t1 (.tup w1)) p (.ins a.C_World dx (Yl "room_signs" (.ref t1) [])))) (.ref t1) (d.signs.map VO):=by
  refine kh (xs:=d.signs) (Xa Iv (by rw[ZF Iv,Zd])) (PU.trans l1) fun i v hv ss pT=>?_;refine TS.mono _ _ _ _ ?_ (r1 i v hv ss pT);exact(New.hidden rj).trans (ZB.hide ((Zg.x Bc).upd))
 have wz:(upd (upd H2 t1 (.tup w1)) p (.ins a.C_World dx (Yl "room_signs" (.ref t1) []))) p=some (.ins a.C_World dx (Yl "room_signs" (.ref t1) [])):=Zd;rw[put1] at x2 W1 wz ⊢;generalize upd (upd H2 t1 (.tup w1)) p (.ins a.C_World dx ([("room_signs",V.ref t1)]:List (Str×V)))=H3 at x2 W1 wz ⊢;have p3:=(ph.mono x2.hide).mono XC;obtain⟨b2,v2,e2,g2,l2,q2⟩:=p3.w;subst e2;refine⟨_,rfl,b2,rfl,⟨v2,nS g2⟩,fun D2 D8=>?_⟩;refine VA (K:=K) D8 (nS g2) (by rw[fJ];lia) (fun i v G=>∀ss,d.ways[i]?=some ss->TIn G v (X1 ss)) (fun i v _ _ sm q ss e=>TIn.mono _ _ _ _ sm (q ss e)) ?_ ?_
 ·intro i w H4 N hx sm hN;have hi:i<d.ways.length:=by rw[<- l2];exact(fP.mp hx).1
  obtain⟨c,rfl,ec⟩:=q2 i w _ hx (fG hi);have hg:=gd.wn _ (gC hi);refine⟨_,rfl,.inr ⟨c,_,rfl,nS (sm _ _ ec),by lia,fun l hl=>⟨l,_,rfl,.inl ⟨nS Zd,fun t ht=>?_⟩⟩⟩⟩;refine hN _ _ ((Zi hl).trans (Zi ht)) fun ss pT=>⟨t,rfl,New.mk ((Zi hl).free ht) ?_⟩;rw[fG hi] at pT;cases pT;rw[Zd]
 intro H4 w2 OB s4 Og r2;refine⟨D2,w2,rfl,.inl ⟨nS OB,fun t2 tK=>?_⟩⟩;have so:=Zi (o:=.tup w2) tK;have FK:=so _ _ (s4 _ _ wz);refine⟨_,rfl,p,_,dx,_,rfl,FK,T.aV,T.bn,by simp,?_⟩;have x4:ZB p H3 (upd (upd H4 t2 (.tup w2)) p (.ins a.C_World dx (Yl "room_ways" (.ref t2) ([("room_signs",V.ref t1)]:List (Str×V))))):=(Zg.x (s4.trans so)).upd;have Ic:t2≠p:=fun z=>by subst z;rw[s4 _ _ wz] at tK;cases tK
 have W2:LT TIn (hide p (upd (upd H4 t2 (.tup w2)) p (.ins a.C_World dx (Yl "room_ways" (.ref t2) ([("room_signs",V.ref t1)]:List (Str×V)))))) (.ref t2) (d.ways.map X1):=by
  refine kh (xs:=d.ways) (Xa Ic (by rw[ZF Ic,Zd])) (Og.trans l2) fun i v hv ss pT=>?_;refine TIn.mono _ _ _ _ ?_ (r2 i v hv ss pT);exact(New.hidden wz).trans (ZB.hide ((Zg.x so).upd))
 have DJ:(upd (upd H4 t2 (.tup w2)) p (.ins a.C_World dx (Yl "room_ways" (.ref t2) ([("room_signs",V.ref t1)]:List (Str×V))))) p=some (.ins a.C_World dx (Yl "room_ways" (.ref t2) ([("room_signs",V.ref t1)]:List (Str×V)))):=Zd;have W1:=LT.mono TS.mono _ _ _ _ x4.hide W1;rw[put2] at x4 W1 W2 DJ ⊢;generalize upd (upd H4 t2 (.tup w2)) p (.ins a.C_World dx ([("room_signs",V.ref t1),("room_ways",V.ref t2)]:List (Str×V)))=H5 at x4 W1 W2 DJ ⊢;have x5:=x2.trans x4;have p5:=(ph.mono x5.hide).mono XC;obtain⟨b3,e3,g3⟩:=p5.st;subst e3;have oz:=gd.stn.2.2.2;refine⟨_,rfl,.inr ⟨b3,_,rfl,nS g3,by lia,fun l hl=>⟨l,_,rfl,.inl ⟨nS Zd,fun t3 tZ=>?_⟩⟩⟩⟩;have wP:=(Zi (o:=.lst ((X1 d.starts).map V.int)) hl).trans (Zi (o:=.tup ((X1 d.starts).map V.int)) tZ);have OZ:=wP _ _ DJ;refine⟨_,rfl,p,_,dx,_,rfl,OZ,T.aV,T.ba,by simp,?_⟩;have Na:t3≠p:=fun z=>by subst z;rw[Zi hl _ _ DJ] at tZ;cases tZ
 have x6:ZB p H5 (upd (upd (upd H5 l (.lst ((X1 d.starts).map V.int))) t3 (.tup ((X1 d.starts).map V.int))) p (.ins a.C_World dx (Yl "start_rooms" (.ref t3) ([("room_signs",V.ref t1),("room_ways",V.ref t2)]:List (Str×V))))):=(Zg.x wP).upd;have DX:(upd (upd (upd H5 l (.lst ((X1 d.starts).map V.int))) t3 (.tup ((X1 d.starts).map V.int))) p (.ins a.C_World dx (Yl "start_rooms" (.ref t3) ([("room_signs",V.ref t1),("room_ways",V.ref t2)]:List (Str×V))))) p=some (.ins a.C_World dx (Yl "start_rooms" (.ref t3) ([("room_signs",V.ref t1),("room_ways",V.ref t2)]:List (Str×V)))):=Zd;have W3:TIn (hide p (upd (upd (upd H5 l (.lst ((X1 d.starts).map V.int))) t3 (.tup ((X1 d.starts).map V.int))) p (.ins a.C_World dx (Yl "start_rooms" (.ref t3) ([("room_signs",V.ref t1),("room_ways",V.ref t2)]:List (Str×V)))))) (.ref t3) (X1 d.starts):=⟨t3,rfl,Xa Na (by rw[ZF Na,Zd])⟩;have W1:=LT.mono TS.mono _ _ _ _ x6.hide W1;have W2:=LT.mono TIn.mono _ _ _ _ x6.hide W2;rw[put3] at x6 W1 W2 W3 DX ⊢;generalize upd (upd (upd H5 l (.lst ((X1 d.starts).map V.int))) t3 (.tup ((X1 d.starts).map V.int))) p (.ins a.C_World dx ([("room_signs",V.ref t1),("room_ways",V.ref t2),("start_rooms",V.ref t3)]:List (Str×V)))=H7 at x6 W1 W2 W3 DX ⊢;have x7:=x5.trans x6;have p7:=(ph.mono x7.hide).mono XC;obtain⟨b4,e4,g4⟩:=p7.f;subst e4;refine⟨_,rfl,b4,_,rfl,.inl ⟨nS g4,fun t4 wE=>?_⟩⟩;have BM:=Zi (o:=.tup (d.fair.map V.str)) wE;have Ta:=BM _ _ DX;refine⟨_,rfl,p,_,dx,_,rfl,Ta,T.aV,T.bh,by simp,?_⟩;have Py:t4≠p:=fun z=>by subst z;rw[DX] at wE;cases wE
 have x8:ZB p H7 (upd (upd H7 t4 (.tup (d.fair.map V.str))) p (.ins a.C_World dx (Yl "fair_names" (.ref t4) ([("room_signs",V.ref t1),("room_ways",V.ref t2),("start_rooms",V.ref t3)]:List (Str×V))))):=(Zg.x BM).upd;refine k _ ((Zg.x s1).trans (x7.trans x8)) ⟨dx,.ref t1,.ref t2,.ref t3,.ref t4,by rw[Zd,put4],?_,?_,?_,?_⟩
 ·exact LT.mono TS.mono _ _ _ _ (x8.hide.trans XC) W1
 ·exact LT.mono TIn.mono _ _ _ _ (x8.hide.trans XC) W2
 ·exact TIn.mono _ _ _ _ (x8.hide.trans XC) W3
 ·exact⟨t4,rfl,by rw[ZF Py,Zd]⟩
def JZ(K:W.Frag)(a:Adr):Sp:=fun vs H Q _=>Ex6 fun(t:Addr) (s w st f:V) (d:WD)=>Cj5 (vs=[.ref t]) (H t=some (.tup [s,w,st,f])) (Wa H s w st f d) (QQ d) (∀H' o,Zg H H'->H o=none->Xu a.C_World H' o d->Q (.ref o) H')
theorem kW:Okd P w K mg base a 8 a.y57 a.z57 fj JZ:=fun T hw=>by
 refine okX T.bR.f Wx fun dn A outer s H E hr=>?_;intro X;have hK:X.K=K:=rfl
 let d1:Rdg X Wf [1]:=⟨_,(Zf (Zm (Zfg T.cT (jD T hw) (rmL hr rfl) rfl T.c9 T.bD.n .nil Yh (@ZC _ _ _ _ _ (Ya (Nc:=dB) (ix:=[none]) (ZX.of (by left:ZZ (Zj Wf) qG _ _ _=true)) rfl (ZQ hK (pv 1)) (fun _ _ _ _ _=>(Zz (i:=0) (show δ dB by left) rfl (.inl rfl))) (fun _ _ _ _ _=>Ys) (fun _ _ _ _ _=>(ZI (Xz hK rfl) rfl T.a9 nV (Za (pv 0) Zb rfl)))) (@ZC _ _ _ _ _ (Ya (Nc:=dB) (ix:=[none]) (ZX.of (by left:ZZ (Zj Wf) qG _ _ _=true)) rfl (ZQ hK (pv 2)) (fun _ _ _ _ _=>(Zz (i:=0) (show δ dB by left) rfl (.inl rfl))) (fun _ _ _ _ _=>Ys) (fun _ _ _ _ _=>(ZI (Xz hK rfl) rfl T.a9 nV (Za (pv 0) Zb rfl)))) (@ZC _ _ _ _ _ (ZI (Xz hK rfl) rfl T.a9 nV (Za (pv 3) Zb rfl)) (@ZC _ _ _ _ _ (ZI (Xz hK rfl) rfl T.a9 nV (Za (pv 4) Zb rfl)) Zb rfl) rfl) rfl) rfl))))⟩
 intro vs Q h;obtain⟨t,sv,wv,stv,fv,d,rfl,ht,sI,gd,k⟩:=h;refine⟨_,(Zc (Zd9 (pv 0) (Uw (K:=K) (n:=4) rfl rfl (YV (Zz (i:=1) Wx.nd rfl (.inl rfl)) (YV (Zz (i:=2) Wx.nd rfl (.inl rfl)) (YV (Zz (i:=3) Wx.nd rfl (.inl rfl)) (YV (Zz (i:=4) Wx.nd rfl (.inl rfl)) UF)))))) d1.2),?_⟩;refine⟨_,rfl,t,_,rfl,nU ht,rfl,_,_,rfl,_,_,rfl,_,_,rfl,_,_,rfl,rfl,?_⟩;obtain⟨S,zs,rfl,hS,Iy,qs⟩:=sI.s.z;obtain⟨W,zw,rfl,hW,NC,qw⟩:=sI.w.z;obtain⟨ST,rfl,Rw⟩:=sI.st;obtain⟨F,rfl,hF⟩:=sI.f;have n20:=gd.n20;have wl:=gd.wl;have Db:zs.length=d.signs.length:=by rw[<- Iy,fF]
 have GH:zw.length=d.ways.length:=by rw[<- NC,fF]
 refine⟨_,rfl,S,rfl,⟨_,nS hS⟩,fun D1 uI=>?_⟩;refine j9 zs ε (fun x=>x.2.map V.str) uI (nS hS) (by rw[fJ];lia) ?_ ?_
 ·intro x hx G N sG hN;obtain⟨c,ec,gc⟩:=qs x hx;rw[ec];refine⟨_,rfl,.inl ⟨c,_,rfl,.inl (nS (sG _ _ gc)),fun l hl=>hN l _ (Zi hl) hl Zd⟩⟩
 intro H1 z1 e1 s1 Ra q1;refine⟨_,rfl,W,rfl,⟨_,nS (s1 _ _ hW)⟩,fun D2 rh=>?_⟩;refine j9 zw ε (fun x=>x.2.map V.int) rh (nS (s1 _ _ hW)) (by rw[fJ];lia) ?_ ?_
 ·intro x hx G N sG hN;obtain⟨c,ec,gc⟩:=qw x hx;rw[ec];refine⟨_,rfl,.inl ⟨c,_,rfl,.inl (nS ((s1.trans sG) _ _ gc)),fun l hl=>hN l _ (Zi hl) hl Zd⟩⟩
 intro H2 z2 e2 s2 F5 q2;have oR:=s1.trans s2;refine⟨_,rfl,.inl ⟨ST,_,rfl,.inl (nS (oR _ _ Rw)),fun L3 wI=>?_⟩⟩;refine Xh wI fun H3 s3 e3=>?_;refine⟨_,rfl,.inl ⟨F,_,rfl,.inl (nS ((oR.trans s3) _ _ hF)),fun L4 O7=>?_⟩⟩;refine YU O7 fun H4 s4 e4=>?_;have wt:=oR.trans (s3.trans s4);intro o dw no Od new;have sm:Zg H4 (upd (upd H4 dw (.own o)) o (.ins a.C_World dw [])):=(Zi Od).trans (Zi (by rw[ZF (fX new)];exact no));have pp:Wa H4 (.ref D1) (.ref D2) (.ref L3) (.ref L4) d:=by
  have g1:=RL.ls (f:=ζ) (H:=H4) ((s2.trans (s3.trans s4)) _ _ e1) Ra fun x hx=>let ⟨c,ec,gc⟩:=q1 x hx; ⟨c,ec,(s2.trans (s3.trans s4)) _ _ (New.of gc).2⟩
  have g2:=RL.li (f:=ζ) (H:=H4) ((s3.trans s4) _ _ e2) F5 fun x hx=>let ⟨c,ec,gc⟩:=q2 x hx; ⟨c,ec,(s3.trans s4) _ _ (New.of gc).2⟩
  rw[Iy] at g1;rw[NC] at g2;exact⟨g1,g2,⟨L3,rfl,s4 _ _ e3⟩,⟨L4,rfl,e4⟩⟩
 exact⟨o,dw,_,_,_,_,d,rfl,Zd,pp.mono sm,gd,fun H5 x5 wa=>⟨rfl,k _ o (fun b u e=>x5 b u (Zr (wt _ _ e) no) (sm b u (wt _ _ e))) (wt.free no) wa⟩⟩
def xJ(K:W.Frag)(a:Adr):Sp:=fun vs H Q _=>Ex3 fun(p:Addr) (ns:List Int) (j:Nat)=>Cj3 (vs=[.ref p,.int (j:Nat)]) (SqL K H p (ns.map V.int)) (∀n:Int,Q (.int n) H)
theorem Vg:Okd P w K mg base a 1 a.y53 a.z53 fk xJ:=fun T hw=>by
 refine okF T.aM.f xL fun dn A outer s H vs Q E hr h=>?_;obtain⟨p,ns,j,rfl,hq,k⟩:=h;refine⟨_,(Zc (ZJ (Zn ZaK (pv 1) (Zp (Zy (K:=K) rfl) rfl T.av nX (Za (pv 0) Zb rfl)) (Zx _)) (Zf (Zm (Zq (Zk (K:=K) rfl) (pv 0) (pv 1) (fun _ _=>rfl)))) Zw) (Zf (Zm Ze))),?_⟩;refine⟨_,rfl,_,rfl,.inl ⟨p,_,rfl,.inl hq,_,_,rfl,rfl,_,rfl,?_⟩⟩;refine YY (fun c=>?_) (fun _=>k 0);have hj:j<ns.length:=by have:=ge c;rw[fF] at this;lia
 exact⟨_,rfl,_,rfl,p,_,_,_,rfl,rfl,hq,Zh (Zh6 hj),k _⟩
structure yV(K:W.Frag)(H:Hp)(sl:Addr)(st:Tr->List Int)(t:Tr)(ss:List Tr):Prop where
 at_:zK K H sl st ss
 few:ss.length<4000
 sub:∀s∈ss,isC s=true/\psz s<=2000000
 room:(Zs (Zs [] (post t)) (ss.map post).flatten).length<4000
 short:∀s∈ss,(st s).length<=1000
 all:∀s∈Zs [] (ZN t),s.lb=.op "some" -> s∈ss
def JE(K:W.Frag)(a:Adr):Sp:=fun vs H Q _=>Ex8 fun(w sl:Addr) (v:V) (n:Nat) (t:Tr) (d:WD) (st:Tr->List Int) (ss:List Tr)=>Cj9 (vs=[.ref w,v,.ref sl]) (Xu a.C_World H w d) (d.signs.length<=20) (At K n H v t) (isC t=true) (psz t<=2000000) ((Zs [] (post t)).length<4000) (yV K H sl st t ss) (∀H' q rv,Zg H H'->H q=none->H' q=some (.lst rv)->Zgq K H' d st (Zs [] (ZN t)) rv->Q (.ref q) H')
theorem Js:Okd P w K mg base a 6 a.y31 a.z31 fo JE:=fun T hw=>by
 refine okX T.bO.f UI fun dn A outer s H E hr=>?_;intro X
 let d1:Rdg X W7 [2]:=⟨_,(Zf (Zm (ZK T.bv (vH T hw) hr rfl rfl (@ZC _ _ _ _ _ (pv 0) (@ZC _ _ _ _ _ (pv 3) (@ZC _ _ _ _ _ (pv 4) (@ZC _ _ _ _ _ (ZK T.bP (JF T hw) hr rfl rfl (Za (pv 3) (Za (pv 2) Zb rfl) rfl)) Zb rfl) rfl) rfl) rfl))))⟩
 let d2:Rdg X W7 [1]:=⟨_,(Zc (Zo (i:=4) UI.nd rfl (.inl rfl) (YD (pv 3) T.ai T.ae.m (Y2 T hw) (rmL hr rfl) T.ae.n .nil Yh (Za (pv 1) Zb rfl)) rfl (.inl rfl)) d1.2)⟩
 intro vs Q h;obtain⟨w,sl,v,n,t,d,st,ss,rfl,oO,n20,ox,hc,hz,oG,⟨hs,ls,w4,tW,EY,oM⟩,k⟩:=h;refine⟨_,(Zc (Zo (i:=3) UI.nd rfl (.inl rfl) (zU T.cu (Ua T hw) (rmL hr rfl) rfl T.cK T.aY.n .nil Yh) rfl (.inl rfl)) d2.2),?_⟩;have CP:(Zs [] (ZN t)).length<4000:=im (vZ t) oG;refine fun x dx nx F6 FY=>⟨x,dx,rfl,Zd,fun H1 P R D x1 hP hR hD nP nR nD uw=>⟨rfl,?_⟩⟩;have s0:=yG (o:=.own x) (o':=.ins a.C_Table dx []) nx F6;have s1:Zg H H1:=fun b u e=>x1 _ _ (Zr e nx) (s0 _ _ e);have fr:∀{c:Addr},(upd (upd H dx (.own x)) x (.ins a.C_Table dx [])) c=none->H c=none:=fun h=>s0.free h;have rM:=fr hP;have rV:=fr hR;have r9:=fr hD;obtain⟨GI,uD⟩:=uw.obj;refine⟨_,rfl,x,GI,_,rfl,uD,lkN (by left) (by left) (by left),_,rfl,x,P,R,D,[],v,t,n,rfl,uw,ox.mono (nT s1),gg hz (by left),oG,fun H2 i b2 sM hi=>?_⟩;have s2:Zg H H2:=fun b u e=>b2 _ _ (Zr e rM) (Zr e rV) (Zr e r9) (s1 _ _ e);refine⟨_,rfl,_,rfl,_,rfl,_,rfl,_,rfl,x,P,R,D,sl,_,st,ss,H,rfl,sM,tW,s2,rM,rV,r9,hs,ls,w4,fun H3 Dc kv s3 rK sx hv=>?_⟩;have Bg:∀s∈Zs (Zs [] (post t)) (ss.map post).flatten,isC s=true:=fun s hs=>by
  rcases ZW.mp hs with h|h
  ·exact zL hc s h
  ·obtain⟨l,hl,hx⟩:=iT.mp h;obtain⟨u,hu,rfl⟩:=fM.mp hl;exact jv _ (fH _) (w4 u hu).1 hx
 have sN:(Zs (Zs [] (post t)) (ss.map post).flatten)[i]?=some t:=by
  obtain⟨B,e⟩:=WN (ss.map post).flatten (Zs [] (post t));rw[e,gv (fP.mp hi).1];exact hi
 refine⟨w,x,P,R,D,Dc,i,_,t,d,st,kv,rfl,oO.mono s3,n20,rK,sN,Bg,hz,CP,sx,fun m s hp hm he=>?_,fun H4 q rv s4 q0 hq g=>k H4 q rv (s3.trans s4) (s3.free q0) hq g⟩;have h:=oM s hm he;obtain⟨l,h1,h2⟩:=hv s h m hp;exact⟨l,h1,h2,EY s h⟩
structure Rd(K:W.Frag)(a:Adr)(H:Hp)(w rn sl:Addr)(v:V)(d:WD)(way ring:List Int)(t:Tr)(st:Tr->List Int):Prop where
 w:Xu a.C_World H w d
 n20:d.signs.length<=20
 run:ji H rn d.signs.length way ring
 core:∃n,At K n H v t
 c:isC t=true
 sz:psz t<=2000000
 few:(Zs [] (post t)).length<4000
 sets:∃ss,yV K H sl st t ss
 room:(way++ring).length+(Zs [] (post t)).length*(ring.length+1)<=50000
def jO(K:W.Frag)(a:Adr):Sp:=fun vs H Q _=>ZdO fun(w rn sl:Addr) (v:V) (m:Nat) (t:Tr) (d:WD) (st:Tr->List Int) (way ring:List Int)=>Cj4 (vs=[.ref w,.ref rn,v,.ref sl,.int (m:Nat)]) (Rd K a H w rn sl v d way ring t st) (m<=50000) (∀H' q,Zg H H'->H q=none->H' q=some (.lst (((γ m).map (Yw d st (qb way ring) t)).map V.bl))->Q (.ref q) H')
theorem jB:Okd P w K mg base a 7 a.y30 a.z30 fq jO:=fun T hw=>by
 refine okF T.bC.f jC fun dn A outer s H vs Q E hr h=>?_;obtain⟨w,rn,sl,v,m,t,d,st,way,ring,rfl,⟨oO,n20,Ex,⟨n,ox⟩,hc,hz,oG,⟨ss,pT⟩,tW⟩,hm,k⟩:=h;refine⟨_,(Zf (Zm (ZK T.bQ (Jg T hw) hr rfl rfl (@ZC _ _ _ _ _ (ZK T.bO (Js T hw) hr rfl rfl (@ZC _ _ _ _ _ (pv 0) (@ZC _ _ _ _ _ (pv 2) (@ZC _ _ _ _ _ (pv 3) Zb rfl) rfl) rfl)) (@ZC _ _ _ _ _ (pv 1) (@ZC _ _ _ _ _ (pv 4) Zb rfl) rfl) rfl)))),?_⟩;obtain⟨ts,ets⟩:=ZbE t;have EM:=vZ t;refine⟨_,rfl,_,rfl,_,rfl,w,sl,v,n,t,d,st,ss,rfl,oO,n20,ox,hc,hz,oG,pT,fun H1 R rv s1 R0 hR g=>?_⟩;rw[ets] at g EM;rw[fK,gz] at EM;refine⟨_,rfl,_,rfl,R,rn,m,rv,ts,t,d,st,way,ring,rfl,hR,g,Ex.mono s1,hm,gg (Nat.add_le_add_left (mn _ EM) _) tW,fun H2 q s2 q0 hq=>k H2 q (s1.trans s2) (s1.free q0) hq⟩
def ZeU(K:W.Frag)(a:Adr):Sp:=fun vs H Q _=>Ex9 fun(w rn sl:Addr) (v:V) (t:Tr) (d:WD) (st:Tr->List Int) (way ring:List Int)=>Cj3 (vs=[.ref w,.ref rn,v,.ref sl]) (Rd K a H w rn sl v d way ring t st) (∀H',Zg H H'->Q (.bl (Yw d st (qb way ring) t 0)) H')
theorem Zbd:Okd P w K mg base a 8 a.y29 a.z29 ft ZeU:=fun T hw=>by
 refine okF T.cR.f Zfo fun dn A outer s H vs Q E hr h=>?_;obtain⟨w,rn,sl,v,t,d,st,way,ring,rfl,rd,k⟩:=h;refine⟨_,(Zf (Zm (Zq (Zk (K:=K) rfl) (ZK T.bC (jB T hw) hr rfl rfl (@ZC _ _ _ _ _ (pv 0) (@ZC _ _ _ _ _ (pv 1) (@ZC _ _ _ _ _ (pv 2) (@ZC _ _ _ _ _ (pv 3) (@ZC _ _ _ _ _ Ze Zb rfl) rfl) rfl) rfl) rfl)) Ze (fun _ _=>rfl)))),?_⟩;exact⟨_,rfl,_,rfl,_,rfl,_,rfl,w,rn,sl,v,1,t,d,st,way,ring,rfl,rd,by left,fun H1 q s1 q0 hq=>⟨q,_,_,_,rfl,rfl,nS hq,Zh (j:=0) rfl,k H1 s1⟩⟩
theorem Zho(v:V):Yl "table" v []=([("table",v)]:List (Str×V)):=by simp[Yl]
theorem ZhW(v1 v2:V):Yl "yes" v2 ([("table",v1)]:List (Str×V))=([("table",v1),("yes",v2)]:List (Str×V)):=by simp only[Yl,oo (by left:¬(("table" : Str) = "yes"))]
theorem Zh7(v1 v2 v3:V):Yl "no" v3 ([("table",v1),("yes",v2)]:List (Str×V))=([("table",v1),("yes",v2),("no",v3)]:List (Str×V)):=by simp only[Yl,oo (by left:¬(("table" : Str) = "no")),oo (by left:¬(("yes" : Str) = "no"))]
theorem ZcF(T:Txt K mg a)(H:Hp):At K (n+1) H (.ref a.Y_YES) ZA:=Uc (T.y_YES H)
theorem KJ:post ZA=[ZA]:=by rw[Vt];rfl
theorem Ze7:post nNo=[ZA,nNo]:=by
 rw[Vt]
 show Yq [ZA]++[nNo]=_
 rw[Yq,KJ,Yq];rfl
theorem ZcQ:Zs [ZA] (post nNo)=[ZA,nNo]:=by
 rw[Ze7,YO,Vn (by simp),YO,Ui (by simp only[gn];exact fun z=>QB z.symm)];rfl
theorem ZeF{r:Addr}{fs:List (Str×V)}(s:ZB r H H')(hr:H r=some (.ins C dx fs)):Yv H H':=fun K b xs h=>by
 have n:∀{o:HO},H b=some o->(∀C dx fs,o≠.ins C dx fs)->H' b=some o:=fun e q=>s _ _ (fun z=>by rw[z,hr] at e;cases e;exact q _ _ _ rfl) e;rcases h with(h|⟨o,h⟩)|h
 ·exact .inl (.inl (n h (fun _ _ _ z=>by cases z)))
 ·exact .inl (.inr ⟨o,n h (fun _ _ _ z=>by cases z)⟩)
 ·exact .inr h
theorem QJ{C':Addr}{r q P R:Addr}{fs:List (Str×V)}(s:ZB q H H')(hq:H q=some (.ins C' dx fs))(n:r≠q)(h:TbY K Pm C H r P R D ps):TbY K Pm C H' r P R D ps:=by
 obtain⟨⟨d0,h0⟩,⟨m,pv,h1,h2⟩,⟨rows,g1,g2,g3,g4,g5⟩,nd,pr⟩:=h;have u:=ZeF s hq;exact⟨⟨d0,s _ _ n h0⟩,⟨m,pv,s _ _ (Y0 h1 hq (by intro z;cases z)) h1,h2.mono u⟩,⟨rows,s _ _ (Y0 g1 hq (by intro z;cases z)) g1,g2,fun e he=>(g3 e he).mono u,g4,s _ _ (Y0 g5 hq (by intro z;cases z)) g5⟩,nd,pr⟩
theorem ZaX:Zs [] (post ZA)=[ZA]:=by rw[KJ];rfl
def vE(K:W.Frag)(a:Adr):Sp:=fun vs H Q _=>Ex2 fun(r dx:Addr)=>Cj3 (vs=[.ref r]) (H r=some (.ins a.C_Shorts dx [])) (∀H' T P R D,ZB r H H'->H T=none->H P=none->H R=none->H D=none->VP K a H' r T P R D [ZA,nNo] 0 1->Q .non H')
theorem vn:Okd P w K mg base a 5 a.y22 a.z22 dr vE:=fun T hw=>by
 refine okX T.bu.f vh fun dn A outer s H E hr=>?_;intro X
 let d1:Rdg X X6 [2]:=⟨_,(Zf (Ud (pv 0) (YD (ZU (K:=K) rfl (pv 0) rfl) T.ai T.ae.m (Y2 T hw) (rmL hr rfl) T.ae.n .nil Yh (Za (ZH (Za Zl (Za (W9 (v:=.ref a.Y_YES) rfl ⟨_,T.cJ,rfl⟩) Zb rfl) rfl)) Zb rfl)) rfl))⟩
 let d2:Rdg X X6 [1]:=⟨_,(Zc (Ud (pv 0) (YD (ZU (K:=K) rfl (pv 0) rfl) T.ai T.ae.m (Y2 T hw) (rmL hr rfl) T.ae.n .nil Yh (Za (W9 (v:=.ref a.Y_YES) rfl ⟨_,T.cJ,rfl⟩) Zb rfl)) rfl) d1.2)⟩
 intro vs Q h;obtain⟨r,dx,rfl,Cs,k⟩:=h;refine⟨_,(Zc (Ud (pv 0) (zU T.cu (Ua T hw) (rmL hr rfl) rfl T.cK T.aY.n .nil Yh) rfl) d2.2),?_⟩;refine fun x dt nx Ez FY=>⟨x,dt,rfl,Zd,fun H1 P R D x1 hP hR hD nP nR nD uw=>⟨rfl,?_⟩⟩;have s0:=yG (o:=.own x) (o':=.ins a.C_Table dt []) nx Ez;have s1:Zg H H1:=fun b u e=>x1 _ _ (Zr e nx) (s0 _ _ e);have Iu:=s1 _ _ Cs;have fr:∀{c:Addr},(upd (upd H dt (.own x)) x (.ins a.C_Table dt [])) c=none->H c=none:=fun h=>s0.free h;have FX:x≠r:=Zr Cs nx |>.symm;refine⟨_,rfl,r,_,dx,[],rfl,Iu,T.ab,T.ag,by left,?_⟩;have x2:ZB r H1 (upd H1 r (.ins a.C_Shorts dx (Yl "table" (.ref x) []))):=(ZB.refl H1).upd;have pR:(upd H1 r (.ins a.C_Shorts dx (Yl "table" (.ref x) []))) r=some (.ins a.C_Shorts dx [("table",.ref x)]):=by rw[Zd,Zho]
 generalize upd H1 r (.ins a.C_Shorts dx (Yl "table" (.ref x) []))=H2 at x2 pR ⊢;have sM:=QJ x2 Iu FX uw;obtain⟨d2,pC⟩:=sM.obj;refine⟨_,rfl,r,_,dx,_,_,rfl,pR,T.ab,T.ag,rfl,x,d2,_,rfl,pC,lkN (by left) (by left) (by left),x,P,R,D,[],.ref a.Y_YES,ZA,1,rfl,sM,ZcF T H2,by left,by rw[ZaX];decide,fun H3 i b3 rK hi=>?_⟩;rw[ZaX] at rK hi;have i0:i=0:=by have:=(fP.mp hi).1;rw[gz] at this;lia
 subst i0;have T8:∀{H:Hp}{fs:List (Str×V)}{ps:List Tr},H r=some (.ins a.C_Shorts dx fs)->TbY K a.Pm a.C_Table H x P R D ps->r≠P/\r≠R/\r≠D:=fun {H fs ps} e tb=>by
  obtain⟨_,_,h1,_⟩:=tb.pl;obtain⟨_,h2,_,_,_,h3⟩:=tb.rl;exact⟨Y0 e h1 (by intro z;cases z),Y0 e h2 (by intro z;cases z),Y0 e h3 (by intro z;cases z)⟩
 obtain⟨n1,n2,n3⟩:=T8 pR sM;have D7:=b3 _ _ n1 n2 n3 pR;refine⟨_,rfl,r,_,dx,_,rfl,D7,T.ab,T.aU,by simp,?_⟩;have x4:ZB r H3 (upd H3 r (.ins a.C_Shorts dx (Yl "yes" (.int ((0:Nat):Int)) [("table",.ref x)]))):=(ZB.refl H3).upd;have AC:(upd H3 r (.ins a.C_Shorts dx (Yl "yes" (.int ((0:Nat):Int)) [("table",.ref x)]))) r=some (.ins a.C_Shorts dx [("table",.ref x),("yes",.int ((0:Nat):Int))]):=by rw[Zd,ZhW]
 generalize upd H3 r (.ins a.C_Shorts dx (Yl "yes" (.int ((0:Nat):Int)) [("table",.ref x)]))=H4 at x4 AC ⊢;have Lm:=QJ x4 D7 FX rK;obtain⟨d4,Gh⟩:=Lm.obj;refine⟨_,rfl,r,_,dx,_,_,rfl,AC,T.ab,T.ag,rfl,x,d4,_,rfl,Gh,lkN (by left) (by left) (by left),sz2,fun q hq=>?_⟩;refine YU hq fun H5 s5 e5=>?_;have a5:At K 2 H5 (.ref q) nNo:=X7 (nU e5) (by left) (ZcF T H5);refine⟨x,P,R,D,[ZA],.ref q,nNo,2,rfl,Lm.mono s5,a5,by left,by rw[ZcQ];decide,fun H6 j b6 Dt hj=>?_⟩;rw[ZcQ] at Dt hj;have j1:j=1:=by
  have:=(fP.mp hj).1;rw[gu,gz] at this;rcases(show j=0\/j=1 by lia) with rfl|rfl
  ·exact ot (fW hj) QB
  ·rfl
 subst j1;have IG:=b6 _ _ n1 n2 n3 (s5 _ _ AC);refine⟨_,rfl,r,_,dx,_,rfl,IG,T.ab,T.aZ,by simp,?_⟩;have x7:ZB r H6 (upd H6 r (.ins a.C_Shorts dx (Yl "no" (.int ((1:Nat):Int)) [("table",.ref x),("yes",.int ((0:Nat):Int))]))):=(ZB.refl H6).upd;have ML:(upd H6 r (.ins a.C_Shorts dx (Yl "no" (.int ((1:Nat):Int)) [("table",.ref x),("yes",.int ((0:Nat):Int))]))) r=some (.ins a.C_Shorts dx [("table",.ref x),("yes",.int ((0:Nat):Int)),("no",.int ((1:Nat):Int))]):=by rw[Zd,Zh7]
 generalize upd H6 r (.ins a.C_Shorts dx (Yl "no" (.int ((1:Nat):Int)) [("table",.ref x),("yes",.int ((0:Nat):Int))]))=H7 at x7 ML ⊢;have AX:=QJ x7 IG FX Dt;have rM:=fr hP;have rV:=fr hR;have r9:=fr hD;refine k H7 x P R D (fun b o nb e=>x7 _ _ nb (b6 _ _ (Zr e rM) (Zr e rV) (Zr e r9) (s5 _ _ (x4 _ _ nb (b3 _ _ (Zr e rM) (Zr e rV) (Zr e r9) (x2 _ _ nb (s1 _ _ e))))))) nx rM rV r9 ⟨⟨dx,ML⟩,AX,rfl,rfl⟩
noncomputable def yf(ps:List Tr):List Tr->List Tr
 |[]=>ps
 |q::L=>yf (YN (YN ps q) (shT q)) L
theorem Zew:∀(A B:List Tr),yf ps (A++B)=yf (yf ps A) B:=by
 intro A
 induction A generalizing ps with
 |nil=>intro B;rfl
 |cons q A ih=>intro B;exact ih B
theorem ZbX{L:List Tr}{x:Tr}(h:L[i]?=some x):yf ps0 (L.take (i+1))=YN (YN (yf ps0 (L.take i)) x) (shT x):=by
 rw[mD,h,Zew];rfl
theorem Ze1(L:List Tr)(h:ps.Nodup):(yf ps L).Nodup:=by
 induction L generalizing ps with
 |nil=>exact h
 |cons q L ih=>exact ih (Uu (Uu h))
theorem ZdE{x:Tr}(L:List Tr)(h:x∈yf ps L):x∈ps\/∃q∈L,x=q\/x=shT q:=by
 induction L generalizing ps with
 |nil=>exact .inl h
 |cons q L ih=>
  rcases ih (ps:=YN (YN ps q) (shT q)) h with h|⟨y,hy,h⟩
  ·rcases qo.mp h with h|h
   ·rcases qo.mp h with h|h
    ·exact .inl h
    ·exact .inr ⟨q,by simp,.inl h⟩
   ·exact .inr ⟨q,by simp,.inr h⟩
  ·exact .inr ⟨y,fT _ hy,h⟩
theorem ZcJ{C:List Tr}(L:List Tr)(h:∀s∈L,s∈C):(yf [ZA,nNo] L).length<=2*C.length+2:=by
 have n0:([ZA,nNo]:List Tr).Nodup:=by
  rw[iw];exact⟨fun z=>QB (gn.mp z),by simp⟩
 have:=Vz (l₂:=ZA::nNo::(C++C.map shT)) (Ze1 L n0) fun x hx=>by
  rcases ZdE L hx with h1|⟨q,hq,h1|h1⟩
  ·simp only[fU,gN,gO] at h1;rcases h1 with rfl|rfl<;>simp
  ·exact fT _ (fT _ (gj.mpr (.inl (by rw[h1];exact h q hq))))
  ·exact fT _ (fT _ (gj.mpr (.inr (by rw[h1];exact fM.mpr ⟨q,h q hq,rfl⟩))))
 simp at this;lia
theorem VP.monoX{K:W.Frag}{a:Adr}{H H':Hp}{r T P R D F:Addr}{ps:List Tr}{y n:Nat}{xs:List V}(x:ZB F H H')(hF:H F=some (.lst xs))(nP:P≠F)(nR:R≠F)(h:VP K a H r T P R D ps y n):VP K a H' r T P R D ps y n:=by
 obtain⟨⟨dx,ho⟩,tb,hy,hn⟩:=h;exact⟨⟨dx,x _ _ (Y0 ho hF (by intro z;cases z)) ho⟩,tb.monoX x hF nP nR,hy,hn⟩
def QX(K:W.Frag)(a:Adr):Sp:=fun vs H Q _=>Ex3 fun(v:V) (t:Tr) (n:Nat)=>Cj4 (vs=[v]) (At K n H v t) (FwT t) (∀H' v' m,Zg H H'->At K m H' v' (shT t)->Q v' H')
theorem QZ:Okd P w K mg base a 7 a.y21 a.z21 du QX:=fun T hw=>by
 refine okX T.cA.f VB fun dn A outer s H E hr=>?_;intro X;have hK:X.K=K:=rfl
 let d1:Rdg X Wi [2,0,1]:=⟨_,(Zf (Yj (XE gA gH gI Z0 (pv 2) (Za (YD (pv 1) T.ab T.aN.m (zR T hw) (rmL hr rfl) T.aN.n .nil Yh (Za (pv 3) (Za (pv 4) Zb rfl) rfl)) Zb rfl)) rfl))⟩
 let d2:Rdg X Wi [2,0,0]:=⟨_,(Zc (Zo (i:=4) VB.nd rfl (.inl rfl) (ZK T.bg (UB T hw) hr rfl rfl (Za (pv 2) (Za (Zp (Zy hK) rfl T.av nX (Za (ZK T.bf (VV T hw) hr rfl rfl (Za (pv 3) Zb rfl)) Zb rfl)) Zb rfl) rfl)) rfl (.inl rfl)) d1.2)⟩
 let d3:Rdg X Wi [3]:=⟨_,(Zf (Zm (Zq (Zk hK) (ZU hK (ZU hK (pv 1) rfl) rfl) (Zq (ZD hK) (Zq (Zk hK) (pv 2) Ze (fun _ _=>rfl)) Ze (fun _ _=>rfl)) (fun _ _=>rfl))))⟩
 let d4:Rdg X Wi [2]:=⟨_,(Zc (Xp gE rfl (ZQ hK (ZK T.aT (VD T hw) hr rfl rfl (Za (pv 0) Zb rfl))) (Zz (i:=3) VB.nd rfl (.inl rfl)) d2.2) d3.2)⟩
 let d5:Rdg X Wi [1]:=⟨_,(Zc (Zo (i:=2) VB.nd rfl (.inl rfl) (Z7 Zb) rfl (.inl rfl)) d4.2)⟩
 intro vs Q h;obtain⟨v,t,n,rfl,ox,⟨hz,C,lC,hC⟩,k⟩:=h;refine⟨_,(Zc (Zo (i:=1) VB.nd rfl (.inl rfl) (zU T.cN (vn T hw) (rmL hr rfl) rfl T.cS T.bu.n .nil Yh) rfl (.inl rfl)) d5.2),?_⟩;cases n with
 |zero=>exact ox.elim
 |succ n=>
  refine fun x dt nx Ez FY=>⟨x,dt,rfl,Zd,fun H0 S P R D x0 S0 P0 R0 D0 El=>⟨rfl,?_⟩⟩;have DE:=yG (o:=.own x) (o':=.ins a.C_Shorts dt []) nx Ez;have s0:Zg H H0:=fun b u e=>x0 _ _ (Zr e nx) (DE _ _ e);have rM:=DE.free P0;have rV:=DE.free R0;have r9:=DE.free D0;refine⟨by left,fun F hF=>?_⟩;have s1:=Zi (o:=.lst []) hF;have e1:(upd H0 F (.lst [])) F=some (.lst []):=Zd;generalize upd H0 F (.lst [])=H1 at s1 e1 ⊢;have LX:=s0.free hF;have AZ:(post t).length<=8000000:=hz;refine⟨_,rfl,v,t,n+1,rfl,ox.mono (nT (s0.trans s1)),by lia,fun H2 L us s2 L0 eL aL=>⟨L,rfl,⟨_,nS eL⟩,?_⟩⟩;have AD:L≠F:=fun e=>by rw[e,e1] at L0;cases L0
  have A8:=s2 _ _ e1;obtain⟨uS,r6⟩:=JG (F:=Tr.node) t;rw[Uj _ t (fH _)] at r6;have pc:=aL.1;obtain⟨n0,DZ,Mb,_⟩:=El.tb.pl;obtain⟨BV,Ng,_,_,_,D8⟩:=El.tb.rl;have Ak:P≠F:=Zr Mb hF;have wT:R≠F:=Zr Ng hF;have GR:D≠F:=Zr D8 hF;have wU:∀c o,H0 c=some o->c≠L:=fun c o e z=>by rw[z] at e;rw[s1 _ _ e] at L0;cases L0
  have Fz:=wU _ _ Mb;have E9:=wU _ _ Ng;have EX:=wU _ _ D8;have wX:=(El.mono s1).mono s2
  let J1:Nat->L2.St->Hp->Prop:=fun i U H'=>Ex6 fun(z1 z2:Option V) (bs:List Addr) (is ss:List Nat) (st:List Tr)=>Zhs (U=[some v,qr0 x,qr0 F,z1,z2]) (Zg H H') (H' L=some (.lst us)) (AtL K (n+1) H' us (post t)) (VP K a H' x S P R D (yf [ZA,nNo] ((post t).take i)) 0 1) (H' F=some (.lst (bs.map V.ref))) (bs.length=st.length) (is.length=st.length) (ss.length=st.length) ((∀(j:Nat) b i s,bs[j]?=some b->is[j]?=some i->ss[j]?=some s->H' b=some (.tup [.int (i:Nat),.int (s:Nat)]))) ((∀(j:Nat) u m,st[j]?=some u->is[j]?=some m->(yf [ZA,nNo] ((post t).take i))[m]?=some u)) ((∀(j:Nat) u m,st[j]?=some u->ss[j]?=some m->(yf [ZA,nNo] ((post t).take i))[m]?=some (shT u))) (yh Tr.node st ((post t).drop i)) (yQ Tr.node st ((post t).drop i)=[t]) (st.length<=i)
  refine Wp (K:=K) (xs:=us) J1 ?_ ?_ ?_ ?_
  ·exact⟨_,_,[],[],[],[],rfl,s0.trans (s1.trans s2),eL,aL,wX,A8,rfl,rfl,rfl,(fun j b i s h=>by simp at h),(fun j s m h=>by simp at h),(fun j s m h=>by simp at h),uS,r6,fH _⟩
  ·rintro i U H' hi ⟨z1,z2,bs,is,ss,st,rfl,_,Gv,_⟩;exact nS Gv
  ·rintro i xv U H3 hx ⟨z1,z2,bs,is,ss,st,rfl,b3,wI,Av,uo,sk,Bf,rD,Be,uQ,oH,sO,ub,oI,oz⟩;have hi:i<us.length:=(fP.mp hx).1;have sN:i<(post t).length:=by lia
   have ug:(post t)[i]?=some (post t)[i]:=fG sN;have at3:=Av.2 i xv _ hx ug;have sL:=ZbX (ps0:=[ZA,nNo]) ug;have pH:(yf [ZA,nNo] ((post t).take i)).length<3999:=by
    have h1:=ZcJ (C:=C) ((post t).take i) fun s hs=>hC s (nQ hs);lia
   rw[mY sN] at ub oI;obtain⟨⟨A0,rH⟩,uR⟩:=ub;have rA:yQ Tr.node (XZ Tr.node st (post t)[i]) ((post t).drop (i+1))=[t]:=oI;have pE:(post t)[i].ks.map (YL Tr.node)=(post t)[i].ks:=by
    have:(post t)[i].ks.map (YL Tr.node)=(post t)[i].ks.map id:=iz fun k hk=>Uj _ k (fH _);rw[this,lT]
   rw[pE] at rH;generalize (post t)[i]=q at at3 A0 rH uR rA sL ug pE;generalize t9:yf [ZA,nNo] ((post t).take i)=ps at uo oH sO sL pH;obtain⟨Af,sw,AB,As,Aj,uJ,CI⟩:=id at3;refine⟨_,rfl,_,rfl,xv,Af,sw,q.lb,rfl,AB,As,by rw[uJ];exact Aj.b,fun H4 b s4 eb=>.inl ⟨b,_,rfl,.inr eb,?_⟩⟩;have rg:=s4 _ _ sk;have Ft:(bs.map V.ref).length=bs.length:=fF ..;refine⟨F,bs.map V.ref,sw.length,rfl,rg,by rw[Ft];lia,fun H5 l x5 rf l0 tH=>?_⟩;have IH:l≠F:=fun e=>by rw[e,rg] at l0;cases l0
   have Ek:Yv H4 H5:=ZB.tup x5 rg;have wY:Yv H3 H5:=(nT s4).trans Ek;have uV:=uo.mono s4;have Bq:VP K a H5 x S P R D ps 0 1:=uV.monoX x5 rg Ak wT;have lP:l≠P:=fun z=>by obtain⟨_,_,e,_⟩:=uV.tb.pl;rw[z,e] at l0;cases l0
   have lR:l≠R:=fun z=>by obtain⟨_,e,_⟩:=uV.tb.rl;rw[z,e] at l0;cases l0
   rw[show(bs.map V.ref).length-sw.length=st.length-q.ks.length by lia] at rf tH;generalize Aa:st.length-q.ks.length=w' at rf tH rH;rw[<- m5] at tH;rw[<- iW] at rf;have wK:=at3.mono wY;obtain⟨Eo,Fi⟩:=Bq.obj;have uz:(is.drop w').length=q.ks.length:=by rw[gQ];lia
   have EJ:(ss.drop w').length=q.ks.length:=by rw[gQ];lia
   have Fe:Zf7 H5 l (is.drop w') (ss.drop w'):=by
    refine⟨by lia,bs.drop w',by rw[gQ];lia,tH,fun j b i' s' h1 h2 h3=>?_⟩;rw[iK] at h1 h2 h3;have e:=s4 _ _ (uQ _ _ _ _ h1 h2 h3);exact x5 _ _ (Y0 e rg (by intro z;cases z)) e
   have Bp:qA ps (is.drop w') q.ks:=⟨uz,fun j kk m h1 h2=>by
    rw[<- rH,iK] at h1;rw[iK] at h2;exact oH _ _ _ h1 h2⟩
   have GJ:qA ps (ss.drop w') (q.ks.map shT):=⟨by rw[fF];exact EJ,fun j kk m h1 h2=>by
    rw[fO] at h1;obtain⟨u,hu,rfl⟩:=mo.mp h1;rw[<- rH,iK] at hu;rw[iK] at h2;exact sO _ _ _ hu h2⟩
   have GQ:([("table",.ref S),("yes",.int ((0:Nat):Int)),("no",.int ((1:Nat):Int))]:List (Str×V)).lookup ("both_of" : Str)=none:=by
    rw[gi,(by left:(("both_of" : Str) == "table")=false)]
    show η _ _=_
    rw[gi,(by left:(("both_of" : Str) == "yes")=false)]
    show η _ _=_
    rw[gi,(by left:(("both_of" : Str) == "no")=false)];rfl
   refine⟨_,rfl,.inl ⟨rfl,_,nS rf⟩,_,rfl,x,Eo,_,rfl,Fi,GQ,_,rfl,_,rfl,x,S,P,R,D,ps,0,1,xv,q,n+1,l,_,_,rfl,Bq,pH,wK,Fe,lP,lR,Bp,GJ,fun H6 pq m s b6 pq0 Dq hm hs e6=>?_⟩;have tz:=b6 _ _ (fX Ak) (fX wT) (fX GR) rf;refine⟨F,_,_,rfl,rfl,tz,by rw[fF,fN,fJ];lia,?_⟩;have ev:((bs.take w').map V.ref++[V.ref pq])=(bs.take w'++[pq]).map V.ref:=by rw[gp];rfl
   rw[ev];have x8:ZB F H6 (upd H6 F (.lst ((bs.take w'++[pq]).map V.ref))):=(ZB.refl H6).upd;have u8:Yv H6 (upd H6 F (.lst ((bs.take w'++[pq]).map V.ref))):=ZB.tup x8 tz;have F7:=Dq.monoX x8 tz Ak wT;have e8:(upd H6 F (.lst ((bs.take w'++[pq]).map V.ref))) F=some (.lst ((bs.take w'++[pq]).map V.ref)):=Zd;generalize upd H6 F (.lst ((bs.take w'++[pq]).map V.ref))=H8 at x8 u8 F7 e8 ⊢;have Gx:∀c xs,H3 c=some (.tup xs)->H8 c=some (.tup xs):=fun c xs e=>by
    have e4:=s4 _ _ e;have e5:=x5 _ _ (Y0 e4 rg (by intro z;cases z)) e4;obtain⟨_,_,h1,_⟩:=Bq.tb.pl;obtain⟨_,h2,_,_,_,h3⟩:=Bq.tb.rl;have Hu:=b6 _ _ (Y0 e5 h1 (by intro z;cases z)) (Y0 e5 h2 (by intro z;cases z)) (Y0 e5 h3 (by intro z;cases z)) e5;exact x8 _ _ (Y0 Hu tz (by intro z;cases z)) Hu
   have Ps:=x8 _ _ (Y0 e6 tz (by intro z;cases z)) e6;have b8:Zg H H8:=fun c o e=>x8 _ _ (Zr e LX) (b6 _ _ (Zr e rM) (Zr e rV) (Zr e r9) (x5 _ _ (Zr e LX) (s4 _ _ (b3 _ _ e))));have Ee:H8 L=some (.lst us):=x8 _ _ AD (b6 _ _ (fX Fz) (fX E9) (fX EX) (x5 _ _ AD (s4 _ _ wI)));have DM:Yv H3 H8:=wY.trans ((Bq.tb.t b6).trans u8);rw[<- sL] at F7 hm hs;refine⟨_,_,bs.take w'++[pq],is.take w'++[m],ss.take w'++[s],XZ Tr.node st q,rfl,b8,Ee,Av.mono DM,F7,e8,?_,?_,?_,?_,?_,?_,uR,rA,?_⟩
   ·unfold XZ;rw[fK,fK,fN,fN,Bf,Aa];rfl
   ·unfold XZ;rw[fK,fK,fN,fN,rD,Aa];rfl
   ·unfold XZ;rw[fK,fK,fN,fN,Be,Aa];rfl
   ·intro j b' i' s' h1 h2 h3
    by_cases hj:j<w'
    ·rw[gv (by rw[fN];lia),lB hj] at h1 h2 h3;exact Gx _ _ (uQ _ _ _ _ h1 h2 h3)
    ·have oU:=(fP.mp h1).1;rw[fK,fN,gz] at oU;have ej:j=w':=by lia
     rw[gx (by rw[fN];lia),fN,show j-min w' bs.length=0 by lia] at h1;rw[gx (by rw[fN];lia),fN,show j-min w' is.length=0 by lia] at h2;rw[gx (by rw[fN];lia),fN,show j-min w' ss.length=0 by lia] at h3;cases h1;cases h2;cases h3;exact Ps
   ·intro j u m' h1 h2;unfold XZ at h1;rw[Aa] at h1
    by_cases hj:j<w'
    ·rw[gv (by rw[fN];lia),lB hj] at h1 h2;rw[sL];exact WA (WA (oH _ _ _ h1 h2))
    ·have oU:=(fP.mp h2).1;rw[fK,fN,gz] at oU;rw[gx (by rw[fN];lia),fN,show j-min w' st.length=0 by lia] at h1;rw[gx (by rw[fN];lia),fN,show j-min w' is.length=0 by lia] at h2;cases h2;have e2:Tr.node q.lb (st.drop w')=u:=by simpa using h1
     rw[rH,<- Tr.eta] at e2;rw[<- e2];exact hm
   ·intro j u m' h1 h2;unfold XZ at h1;rw[Aa] at h1
    by_cases hj:j<w'
    ·rw[gv (by rw[fN];lia),lB hj] at h1 h2;rw[sL];exact WA (WA (sO _ _ _ h1 h2))
    ·have oU:=(fP.mp h2).1;rw[fK,fN,gz] at oU;rw[gx (by rw[fN];lia),fN,show j-min w' st.length=0 by lia] at h1;rw[gx (by rw[fN];lia),fN,show j-min w' ss.length=0 by lia] at h2;cases h2;have e2:Tr.node q.lb (st.drop w')=u:=by simpa using h1
     rw[rH,<- Tr.eta] at e2;rw[<- e2];exact hs
   ·unfold XZ;rw[fK,fN];simp;lia
  rintro U H3 ⟨z1,z2,bs,is,ss,st,rfl,b3,wI,Av,uo,sk,Bf,rD,Be,uQ,oH,sO,ub,oI,oz⟩;rw[pc,nF (fH _)] at oI;rw[pc,iB (fH _)] at uo oH sO;have BB:st=[t]:=oI;subst BB;obtain⟨b,rfl⟩:∃b,bs=[b]:=by
   match bs,Bf with
   |[m],_=>exact⟨m,rfl⟩
  obtain⟨m,rfl⟩:∃m,is=[m]:=by
   match is,rD with
   |[m],_=>exact⟨m,rfl⟩
  obtain⟨s,rfl⟩:∃s,ss=[s]:=by
   match ss,Be with
   |[m],_=>exact⟨m,rfl⟩
  have hb:=uQ 0 b m s rfl rfl rfl;have hs:=sO 0 t s rfl rfl;obtain⟨dx,ho⟩:=uo.obj;obtain⟨R4,ht⟩:=uo.tb.obj;obtain⟨n1,pv,Dr,aP⟩:=uo.tb.pl;have EC:=(fP.mp hs).1;have hu:pv[s]?=some (pv[s]'(by rw[aP.1];exact EC)):=fG _;have FO:=aP.2 s _ _ hu hs;refine⟨_,rfl,x,_,dx,_,_,rfl,ho,T.ab,T.ag,lkT,S,_,R4,_,_,rfl,ht,T.ai,T.aA,lkP,_,rfl,F,_,_,_,rfl,rfl,nS sk,Zh (j:=0) rfl,b,_,_,_,rfl,rfl,nU hb,Zh (j:=1) rfl,P,_,_,_,rfl,rfl,nS Dr,Zh hu,k H3 _ _ b3 FO⟩
def RnL(H:Hp)(n:Nat)(us:List V):Prop:=∀u∈us,∃rn way ring,u=.ref rn/\ji H rn n way ring/\(way++ring).length<=60
theorem RnL.mono{H H':Hp}{n:Nat}{us:List V}(h:RnL H n us)(s:Zg H H'):RnL H' n us:=fun u hu=>let ⟨rn,way,ring,e,h1,h2⟩:=h u hu; ⟨rn,way,ring,e,h1.mono s,h2⟩
theorem Ke:∀(n:Nat) {t x:Tr},psz t<=n->x∈post t->psz x<=psz t
 |0,t,x,h,_=>by have:=Xw t;lia
 |n+1,.node c ks,x,h,hx=>by
  rcases pin hx with rfl|⟨k,hk,uM⟩
  ·exact fH _
  ·have h1:=Xg (t:=.node c ks) hk;have:=Ke n (t:=k) (by lia) uM;lia
theorem ZaO{st:Tr->List Int}{c t:Tr}{ss:List Tr}(h:zK K H sl st ss)(l:ss.length<4000)(hc:isC c=true)(zc:psz c<=40)(zt:psz t<=40)(sub:∀s∈ss,s∈Zs [] (post c))(sh:∀s∈ss,(st s).length<=1000)(all:∀s∈ZN t,s.lb=.op "some" -> s∈ss):yV K H sl st t ss:=by
 have Lq:∀s∈ss,s∈post c:=fun s hs=>by
  rcases ZW.mp (sub s hs) with h|h
  ·cases h
  ·exact h
 refine⟨h,l,fun s hs=>⟨zL hc s (sub s hs),gg (Ke _ (fH _) (Lq s hs)) (by lia)⟩,?_,sh,fun s hs=>?_⟩
 ·have:=Vz (l₂:=post t++post c) (Xf (L:=(ss.map post).flatten) (Xf (L:=post t) (A:=[]) (by simp))) fun x hx=>by
   rcases ZW.mp hx with h|h
   ·rcases ZW.mp h with h|h
    ·cases h
    ·exact gT _ h
   ·obtain⟨l,hl,hx⟩:=iT.mp h;obtain⟨u,hu,rfl⟩:=fM.mp hl;exact gy _ (jf _ (fH _) (Lq u hu) hx)
  rw[fK] at this;have e1:(post t).length=psz t:=rfl;have e2:(post c).length=psz c:=rfl;lia
 ·rcases ZW.mp hs with h|h
  ·cases h
  ·exact all s h
theorem Zf8{t:Tr}(h:psz t<=40):(Zs [] (post t)).length<=40:=by
 have:=U7 (post t) [];have e1:(post t).length=psz t:=rfl;simp at this;lia
theorem ZR{x:V}[Decidable (x=y)]{A:Prop}(e:x=y)(h:B):if(!decide (x=y))=true then A else B:=by rw[fQ e];exact Yn h
theorem Zgu(ns:List Int):Xc (ns.map V.int) (some 10) (some 16)=((ns.drop 10).take 6).map V.int:=by
 unfold Xc;have e0:HT.sIx (ns.map V.int).length 0 (some 10)=min 10 ns.length:=by
  show(if(10:Int)<0 then((10:Int)+((ns.map V.int).length:Nat)).toNat else min (10:Int).toNat (ns.map V.int).length)=_
  rw[oo (by left),fF];rfl
 have e:HT.sIx (ns.map V.int).length (ns.map V.int).length (some 16)=min 16 ns.length:=by
  show(if(16:Int)<0 then((16:Int)+((ns.map V.int).length:Nat)).toNat else min (16:Int).toNat (ns.map V.int).length)=_
  rw[oo (by left),fF];rfl
 rw[e,e0,<- m5,<- iW]
 congr 1
 rcases Nat.le_total 10 ns.length with h|h
 ·rw[nk h];rcases Nat.le_total 16 ns.length with h'|h'
  ·rw[nk h']
  ·rw[nu h',iB (by rw[gQ];lia),iB (by rw[gQ];lia)]
 ·rw[nu h,nu (by lia),ij,nF h];simp
def Zg2(K:W.Frag)(a:Adr):Sp:=fun vs H Q _=>∃(p:Addr) (ns:List Int),vs=[.ref p]/\SqL K H p (ns.map V.int)/\ns.length<=63/\∀H',Q (.bl true) H'
theorem Zgv:Okd P w K mg base a 23 a.y66 a.z66 fu Zg2:=fun T hw=>by
 refine okX T.di.f Ws fun dn A outer s H E hr=>?_;intro X;have hK:X.K=K:=rfl
 let d1:Rdg X Va [6,0,1]:=⟨_,(Zf (ZJ (Zn ZeM (pv 6) ZdB (Zx _)) (Zf (Yj (XE gA gH gI Z0 (pv 4) (Za (pv 6) Zb rfl)) rfl)) Zw))⟩
 let d2:Rdg X Va [6,0,0]:=⟨_,(Zc (Zo (i:=6) Ws.nd rfl (.inl rfl) (ZK T.cf (Kr T hw) hr rfl rfl (Za (pv 1) (Za (pv 5) Zb rfl) rfl)) rfl (.inl rfl)) d1.2)⟩
 let d3:Rdg X Va [7,0,3,0,0]:=⟨_,(Zf (ZJ (Zn Ql (ZK T.cR (Zbd T hw) hr rfl rfl (@ZC _ _ _ _ _ (pv 2) (@ZC _ _ _ _ _ (pv 6) (@ZC _ _ _ _ _ (pv 8) (@ZC _ _ _ _ _ (pv 10) Zb rfl) rfl) rfl) rfl)) (ZK T.cR (Zbd T hw) hr rfl rfl (@ZC _ _ _ _ _ (pv 2) (@ZC _ _ _ _ _ (pv 6) (@ZC _ _ _ _ _ (pv 9) (@ZC _ _ _ _ _ (pv 10) Zb rfl) rfl) rfl) rfl)) (Zx _)) (Zf (Zm VM)) Zw))⟩
 let d4:Rdg X Va [7,0,3]:=⟨_,(Zf (Xp gE rfl (ZQ hK (Z1 (YI hK) (pv 4) Yr (Z4 Ze))) (Zz (i:=6) Ws.nd rfl (.inl rfl)) d3.2))⟩
 let d5:Rdg X Va [7,0,2]:=⟨_,(Zc (Zo (i:=10) Ws.nd rfl (.inl rfl) (ZK T.bU (JT T hw) hr rfl rfl (@ZC _ _ _ _ _ (pv 8) (@ZC _ _ _ _ _ (Zp (Zy hK) rfl T.av nX (Za (Zq (ZD hK) (pv 1) Ze (fun _ _=>rfl)) Zb rfl)) (@ZC _ _ _ _ _ (ZK T.aM (Vg T hw) hr rfl rfl (Za (pv 0) (Za Ze Zb rfl) rfl)) Zb rfl) rfl) rfl)) rfl (.inl rfl)) d4.2)⟩
 let d6:Rdg X Va [7,0,1]:=⟨_,(Zc (Zo (i:=9) Ws.nd rfl (.inl rfl) (ZK T.bX (vV T hw) hr rfl rfl (Za (ZK T.cA (QZ T hw) hr rfl rfl (Za (pv 7) Zb rfl)) Zb rfl)) rfl (.inl rfl)) d5.2)⟩
 let d7:Rdg X Va [7,0,0]:=⟨_,(Zc (Zo (i:=8) Ws.nd rfl (.inl rfl) (ZK T.bX (vV T hw) hr rfl rfl (Za (pv 7) Zb rfl)) rfl (.inl rfl)) d6.2)⟩
 let d8:Rdg X Va [7]:=⟨_,(Zc (Xp gE rfl (ZQ hK (ZK T.a8 (yD T hw) hr rfl rfl (@ZC _ _ _ _ _ (Z1 (YI hK) (pv 0) (Z4 Ze) (Z4 Ze)) (@ZC _ _ _ _ _ (pv 3) (@ZC _ _ _ _ _ Ze Zb rfl) rfl) rfl))) (Zz (i:=7) Ws.nd rfl (.inl rfl)) d7.2) (Zf (Zm VM)))⟩
 let d9:Rdg X Va [6]:=⟨_,(Zc (Xp gE rfl (ZQ hK (Z1 (YI hK) (pv 0) (Z4 Ze) (Z4 Ze))) (Zz (i:=5) Ws.nd rfl (.inl rfl)) d2.2) d8.2)⟩
 let uj:Rdg X Va [5]:=⟨_,(Zc (Zo (i:=4) Ws.nd rfl (.inl rfl) (Z7 Zb) rfl (.inl rfl)) d9.2)⟩
 let wp:Rdg X Va [4]:=⟨_,(Us (ZJ (Zn ZaT (Zv Yx (ZK T.aM (Vg T hw) hr rfl rfl (Za (pv 0) (Za Ze Zb rfl) rfl)) Ze) Ze (Zx _)) (Zf (Zo (i:=3) Ws.nd rfl (.inl rfl) (Z1 (YI hK) (pv 3) Yr (Z4 Ze)) rfl (.inl rfl))) Zw) uj.2)⟩
 let AW:Rdg X Va [3]:=⟨_,(Zc (Zo (i:=3) Ws.nd rfl (.inl rfl) (Zv JN (pv 3) (Z7 (@ZC _ _ _ _ _ Zl (@ZC _ _ _ _ _ Zl (@ZC _ _ _ _ _ Zl (@ZC _ _ _ _ _ Zl (@ZC _ _ _ _ _ Zl Zb rfl) rfl) rfl) rfl) rfl))) rfl (.inl rfl)) wp.2)⟩
 let Bl:Rdg X Va [2]:=⟨_,(Zc (Zo (i:=3) Ws.nd rfl (.inl rfl) (Z7 (@ZC _ _ _ _ _ Zl (@ZC _ _ _ _ _ Zl (@ZC _ _ _ _ _ Zl (@ZC _ _ _ _ _ Zl (@ZC _ _ _ _ _ Zl (@ZC _ _ _ _ _ Zl (@ZC _ _ _ _ _ Zl (@ZC _ _ _ _ _ Zl Zb rfl) rfl) rfl) rfl) rfl) rfl) rfl) rfl)) rfl (.inl rfl)) AW.2)⟩
 let AK:Rdg X Va [1]:=⟨_,(Zc (Zo (i:=2) Ws.nd rfl (.inl rfl) (ZK T.bR (kW T hw) hr rfl rfl (Za (pv 1) Zb rfl)) rfl (.inl rfl)) Bl.2)⟩
 intro vs Q h;obtain⟨p,ns,rfl,hq,hz,k⟩:=h;refine⟨_,(Zc (Zo (i:=1) Ws.nd rfl (.inl rfl) (ZK T.bE (jF T hw) hr rfl rfl (Za (ZK T.aM (Vg T hw) hr rfl rfl (Za (pv 0) (Za Ze Zb rfl) rfl)) (Za Ze Zb rfl) rfl)) rfl (.inl rfl)) AK.2),?_⟩;refine⟨_,rfl,p,ns,0,rfl,hq,fun n0=>⟨n0,rfl,fun H1 t s w st f d s1 t0 et Fp sm=>?_⟩⟩;have sI:=Fp.mono New.sub;have gd:=sm.g;refine⟨_,rfl,t,s,w,st,f,d,rfl,et,sI,gd,fun H2 o s2 o0 wa=>?_⟩;refine⟨zl,fun w1 Aw=>?_⟩;refine YU Aw fun G1 g1 e1=>?_;refine⟨_,rfl,zl,fun w2 AO=>?_⟩;refine Xh AO fun G2 g2 e2=>?_;refine⟨_,_,_,_,rfl,rfl,g2 _ _ e1,e2,zl,fun wl rP=>?_⟩;refine YU rP fun G3 g3 e3=>?_;have sA:=(s1.trans s2).trans (g1.trans (g2.trans g3))
 let tu:List Str:=["not","and","or","next","until","always","ever","within","before","since","once","sofar","some"]
 have AH:G3 wl=some (.lst (tu.map V.str)):=e3;have Hh:∀w∈tu,w∈WS:=by left
 refine⟨fun σ' H'=>∃(uW:Addr) (ws:List Str),σ'=[qr0 p,qr0 t,qr0 o,qr0 uW,none,none,none,none,none,none,none]/\Zg G3 H'/\H' uW=some (.lst (ws.map V.str))/\ws≠[]/\ws.length<=100/\∀w∈ws,w∈WS,?_,?_⟩
 ·refine⟨_,rfl,p,ns,1,rfl,sA.seq hq,fun n1=>⟨_,_,rfl,rfl,by left,_,_,rfl,rfl,_,rfl,YY (fun _=>?_) (fun _=>?_)⟩⟩
  ·refine⟨_,rfl,_,rfl,wl,_,rfl,nS e3,fun q uq=>?_⟩;obtain⟨G4,qN,g4,e4⟩:=xI (o:=.lst ((tu.take 12).map V.str)) uq;refine⟨q,tu.take 12,rfl,Zi uq,Zd,by left,by left,fun w hw=>Hh w (nQ hw)⟩
  ·exact⟨wl,tu,rfl,.refl _,AH,by left,by left,Hh⟩
 rintro σ' H3 ⟨uW,ws,rfl,s3,Cv,Bv,Ea,Cz⟩;have sB:=sA.trans s3;refine⟨zl,fun R hR=>?_⟩;refine YU hR fun G4 g4 e4=>?_;refine⟨_,rfl,_,rfl,_,rfl,p,_,rfl,(sB.trans g4).seq hq,fun cl ri=>?_⟩;have yI:∀y∈Xc (ns.map V.int) (some 2) (some 5),∃x:Int,y=.int x:=fun y hy=>by
  obtain⟨x,_,e⟩:=fM.mp (Je hy);exact⟨x,e.symm⟩
 have yl:(Xc (ns.map V.int) (some 2) (some 5)).length<=63:=by
  have:=ZaE (ns.map V.int) (some 2) (some 5);rw[fF] at this;lia
 generalize Xc (ns.map V.int) (some 2) (some 5)=ys at yI yl;refine Xh ri fun G5 g5 e5=>?_;have NT:cl≠R:=fun z=>by rw[z,e4] at ri;cases ri
 have Mz:=s2.trans (g1.trans (g2.trans (g3.trans s3)));have R0:H1 R=none:=Mz.free hR;have R00:H R=none:=s1.free R0;have wm:=Mz.trans (g4.trans g5);refine⟨cl,rfl,⟨_,nS e5⟩,?_⟩
 let J3:Nat->L2.St->Hp->Prop:=fun i U H'=>Ex3 fun(z5 z6:Option V) (us:List V)=>Cj5 (U=[qr0 p,qr0 t,qr0 o,qr0 uW,qr0 R,z5,z6,none,none,none,none]) (ZB R G5 H') (H' R=some (.lst us)) (us.length<=i) (RnL (hide R H') d.signs.length us)
 refine Wp (K:=K) (xs:=ys) J3 ?_ ?_ ?_ ?_
 ·exact⟨_,_,[],rfl,.refl _,g5 _ _ e4,fH _,fun u hu=>by cases hu⟩
 ·rintro i U H' hi ⟨_,_,_,rfl,x',_⟩;exact nS (x' _ _ NT e5)
 ·rintro i yv U F hy ⟨z5,z6,us,rfl,xF,DS,SR,rn⟩;obtain⟨y,rfl⟩:=yI yv (gk hy);have li:i<ys.length:=(fP.mp hy).1;have sF:Zg H1 F:=fun b u e=>xF b u (Zr e R0) (wm b u e);refine⟨_,rfl,_,rfl,t,s,w,st,f,d,y,rfl,sF _ _ et,sI.mono sF,gd,fun F1 r f1 ul=>?_⟩;have Am:=f1 _ _ DS;rcases ul with rfl|⟨wC,way,ring,rfl,ra,la⟩
  ·refine⟨_,rfl,rfl,_,rfl,YY (fun c=>ot c (by simp)) (fun _=>?_)⟩;exact⟨_,_,us,rfl,xF.trans (Zg.x f1),Am,by lia,rn.mono (Zg.x f1).hide⟩
  ·refine⟨_,rfl,rfl,_,rfl,YY (fun _=>?_) (fun c=>ot (by simp) c)⟩;refine⟨_,rfl,.inl ⟨rfl,_,nS Am⟩,_,rfl,R,_,_,rfl,rfl,Am,by rw[fJ];lia,?_⟩;have x2:ZB R F (upd F1 R (.lst (us++[.ref wC]))):=(Zg.x f1).upd;have x3:ZB R F1 (upd F1 R (.lst (us++[.ref wC]))):=(ZB.refl _).upd;refine⟨_,_,us++[.ref wC],rfl,xF.trans x2,Zd,by simp;lia,fun u hu=>?_⟩;rcases gj.mp hu with hu|hu
   ·exact rn.mono x2.hide u hu
   ·rw[gn.mp hu];refine⟨wC,way,ring,rfl,ra.mono fun b u e=>?_,la⟩;obtain⟨e1,e2⟩:=New.of e;have nb:b≠R:=fun z=>by rw[z,DS] at e1;cases e1
    exact Xa nb (x3 _ _ nb e2)
 rintro U F ⟨z5,z6,us,rfl,xF,DS,SR,rn⟩;have sF:Zg H1 F:=fun b u e=>xF b u (Zr e R0) (wm b u e);have OT:=rn.mono XC;have Ti:F uW=some (.lst (ws.map V.str)):=xF _ _ (fun z=>by rw[<- z,Cv] at hR;cases hR) (g5 _ _ (g4 _ _ Cv));have oF:=wa.mono (show Zg H2 F from fun b u e=>xF b u (fun z=>by rw[z] at e;rw[(g1.trans (g2.trans (g3.trans s3))).free hR] at e;cases e) (((g1.trans (g2.trans (g3.trans s3))).trans (g4.trans g5)) b u e));refine⟨_,rfl,_,rfl,_,rfl,p,_,rfl,(s1.trans sF).seq hq,fun c2 sP=>?_⟩;have vI:∃vs:List Int,Xc (ns.map V.int) (some 10) (some 16)=vs.map V.int/\vs.length<=6:=⟨(ns.drop 10).take 6,Zgu ns,by rw[fN];lia⟩;obtain⟨vs,ev,lv⟩:=vI;rw[ev];refine Xh sP fun F1 f1 wB=>?_;have sF1:=sF.trans f1;refine⟨_,rfl,c2,uW,vs,ws,rfl,wB,by lia,f1 _ _ Ti,Bv,Ea,Cz,fun F2 L qs C f2 L0 eL lq kp lC=>⟨L,rfl,⟨_,nS eL⟩,?_⟩⟩;have Ad:=f1.trans f2;have AN:=sF.trans Ad;have Rm:=OT.mono Ad;have wq:=Ad _ _ DS;have Pz:=oF.mono Ad;obtain⟨S0,AS,rfl,hS,lS,_⟩:=id sI.s
 let J4:Nat->L2.St->Hp->Prop:=fun i U H'=>Ex5 fun(z6 z7 z8 z9 z10:Option V)=>Cj2 (U=[qr0 p,qr0 t,qr0 o,qr0 uW,qr0 R,z5,z6,z7,z8,z9,z10]) (Zg F2 H')
 refine Wp (K:=K) (xs:=qs) J4 ?_ ?_ ?_ ?_
 ·exact⟨_,_,_,_,_,rfl,.refl _⟩
 ·rintro i U H' hi ⟨_,_,_,_,_,rfl,s'⟩;exact nS (s' _ _ eL)
 ·rintro i u U G hu ⟨z6,z7,z8,z9,z10,rfl,sG⟩;obtain⟨x,rz,Ly,SG⟩:=kp u (gk hu);have rz:=rz.mono (nT sG);have um:=rz.ok;have pz:psz x<=3000000:=gg (ZcR um) (by left);refine⟨_,rfl,u,x,8,rfl,rz,gg pz (by left),fun G1 cv q1 Hc=>?_⟩;refine⟨_,rfl,u,x,8,rfl,rz.mono (nT q1),⟨gg pz (by left),C,by lia,SG⟩,fun G2 sv m q2 FO=>?_⟩;have Rj:psz (shT x)<=6000000:=gg (Zdu _ x (fH _)) (by lia);refine⟨sv,shT x,m,rfl,FO,gg Rj (by left),fun G3 dv q3 On=>?_⟩;have c4:=(yk _ _ um).2.2.2.1;have d4:=(yk _ _ (Kt um)).2.2.2.1;have zc:psz (Z8 x)<=40:=Ly;have zd:psz (Z8 (shT x))<=40:=gg (KQ um) Ly;have fc:=Zf8 zc;have fd:=Zf8 zd;have DO:Zg H1 G3:=AN.trans (sG.trans (q1.trans (q2.trans q3)));refine⟨_,rfl,_,rfl,t,_,_,_,rfl,rfl,nU (DO _ _ et),Zh (j:=0) rfl,.inl ⟨S0,_,rfl,.inl (nS (DO _ _ hS)),_,rfl,p,ns,20,rfl,(s1.trans DO).seq hq,fun n20=>?_⟩⟩;refine⟨cv,_,AS.length,n20,Z8 x,rfl,by rw[lS];exact gd.n20,Hc.mono (nT (q2.trans q3)),c4,by lia,by lia,fun G4 sl uP ss q4 sa Ga sub all sh=>?_⟩;have sG4:=DO.trans q4;have GS:=q2.trans (q3.trans q4);have FC:=sG.trans (q1.trans GS);have II:yV K G4 sl uP (Z8 x) ss:=ZaO sa Ga c4 zc zc sub sh fun s hs hl=>all s (ZW.mpr (.inr (Ut _ (fH _) hs))) hl;have Hj:yV K G4 sl uP (Z8 (shT x)) ss:=ZaO sa Ga c4 zc zd sub sh fun s hs hl=>by
   have:=Zeu um (s:=s) ⟨hs,hl⟩;exact all s (ZW.mpr (.inr (Ut _ (fH _) this.1))) hl
  have Cf:=Hc.mono (nT GS);have BX:=On.mono (nT q4);have EV:∀rm,Yw d uP rm (Z8 (shT x))=Yw d uP rm (Z8 x):=fun rm=>ZaU (d:=d) (st:=uP) (rm:=rm) um;generalize Z8 (shT x)=dt at d4 zd fd Hj BX EV;generalize Z8 x=ct at c4 zc fc II Cf EV;refine⟨_,rfl,_,rfl,R,_,rfl,nS (FC _ _ wq),fun D hD=>?_⟩;have ru:RnL G4 d.signs.length (Xc us none (some 3)):=fun u hu=>(Rm.mono FC) u (Je hu);generalize Xc us none (some 3)=vs3 at ru;refine Xh hD fun O3 q5 Lx=>?_;refine⟨D,rfl,⟨_,nS Lx⟩,?_⟩
  let J5:Nat->L2.St->Hp->Prop:=fun i U H'=>Ex1 fun(z6:Option V)=>Cj2 (U=[qr0 p,qr0 t,qr0 o,qr0 uW,qr0 R,z5,z6,some u,some cv,some dv,qr0 sl]) (Zg O3 H')
  refine Wp (K:=K) (xs:=vs3) J5 ?_ ?_ ?_ ?_
  ·exact⟨_,rfl,.refl _⟩
  ·rintro i U H' hi ⟨_,rfl,s'⟩;exact nS (s' _ _ Lx)
  ·rintro j y U J hy ⟨z6,rfl,sJ⟩;obtain⟨wC,way,ring,rfl,ra,la⟩:=ru y (gk hy);have j1:=q5.trans sJ;have rd:∀{J':Hp}{v:V}{tt:Tr},Zg G4 J'->(∃n,At K n G4 v tt)->isC tt=true->psz tt<=40->(Zs [] (post tt)).length<=40->yV K G4 sl uP tt ss->Rd K a J' o wC sl v d way ring tt uP:=fun {J' v tt} hs ha h1 h2 h3 h4=>
    ⟨(Pz.mono FC).mono hs,gd.n20,ra.mono hs,ha.imp fun n q=>q.mono (nT hs),h1,by lia,by lia,⟨ss,⟨h4.at_.mono hs,h4.few,h4.sub,h4.room,h4.short,h4.all⟩⟩,by
     rw[fK] at la ⊢;have:=Nat.mul_le_mul h3 (show ring.length+1<=61 by lia);lia⟩
   refine⟨_,rfl,_,rfl,_,rfl,_,rfl,o,wC,sl,cv,ct,d,uP,way,ring,rfl,rd j1 ⟨_,Cf⟩ c4 zc fc II,fun J1 j2=>?_⟩;refine⟨_,rfl,_,rfl,_,rfl,_,rfl,o,wC,sl,dv,dt,d,uP,way,ring,rfl,rd (j1.trans j2) ⟨_,BX⟩ d4 zd fd Hj,fun J2 j3=>?_⟩;refine⟨rfl,_,rfl,ZR (by rw[EV]) ?_⟩;exact⟨_,rfl,sJ.trans (j2.trans j3)⟩
  rintro U J ⟨z6,rfl,sJ⟩;exact⟨_,_,_,_,_,rfl,sG.trans (q1.trans (GS.trans (q5.trans sJ)))⟩
 rintro U G ⟨z6,z7,z8,z9,z10,rfl,sG⟩;exact k _
theorem ar1{P:List α->Prop}(h:∀a,P [a]):∀us:List α,us.length=1->P us
 |[a],_=>h a
theorem ar2{P:List α->Prop}(h:∀a b,P [a,b]):∀us:List α,us.length=2->P us
 |[a,b],_=>h a b
theorem ar3{P:List α->Prop}(h:∀a b c,P [a,b,c]):∀us:List α,us.length=3->P us
 |[a,b,c],_=>h a b c
theorem ar4{P:List α->Prop}(h:∀a b c d,P [a,b,c,d]):∀us:List α,us.length=4->P us
 |[a,b,c,d],_=>h a b c d
theorem ar5{P:List α->Prop}(h:∀a b c d e,P [a,b,c,d,e]):∀us:List α,us.length=5->P us
 |[a,b,c,d,e],_=>h a b c d e
def Bd(x q:Str)(st:Stmt)(ps:List Str):Prop:=∀(kV doc pm:Value) (an:Option Addr) (dn ct:Value) (us:List Value),us.length=ps.length->bindArgs (W.fnOf x q (Vs st) (XW st) (Zj st) .none kV doc pm an dn ct) ⟨us,[]⟩=pure (ps.zip us)
def spL(K:W.Frag):Sp:=fun vs H Q _=>∃(p:Addr) (ns:List Int),vs=[.ref p]/\SqL K H p (ns.map V.int)/\ns.length<=63/\∀H',Q (.bl true) H'
structure Fx(K:W.Frag)(x:Str)(st:Stmt)(fa:Addr)(fd:FuncData):Prop where
 a:W.nsIn K mainGlobals x=some (some (.ref fa))
 f:Fun K x x st fa fd
structure Mx(K:W.Frag)(C:Addr)(x q:Str)(st:Stmt)(fa:Addr)(fd:FuncData):Prop where
 a:W.findIn K (.ref C) x=some (some (.ref fa))
 i:W.isFn K (.ref fa)=true
 f:Fun K x q st fa fd
section
variable{x q:Str}{f:Addr}{ps:List Str}{oc kV dc pm cd ct:Value}{sl:Array (Option Value)}
theorem Fx.m(a:W.nsIn K mainGlobals x=some (some (.ref f)))(l:K.lookup f=some ⟨oc,od,.func (W.fnOf x x (Vs st) (XW st) (Zj st) .none kV dc pm an cd ct),sl⟩)(c:W.codeIn K cd x=true)(k:W.keepIn K (.ref f)=true):Fx K x st f (W.fnOf x x (Vs st) (XW st) (Zj st) .none kV dc pm an cd ct):=⟨a,Zdf l c k⟩
theorem Mx.m(a:W.findIn K (.ref C) x=some (some (.ref f)))(i:W.isFn K (.ref f)=true)(l:K.lookup f=some ⟨oc,od,.func (W.fnOf x q (Vs st) (XW st) (Zj st) .none kV dc pm an cd ct),sl⟩)(c:W.codeIn K cd q=true)(k:W.keepIn K (.ref f)=true):Mx K C x q st f (W.fnOf x q (Vs st) (XW st) (Zj st) .none kV dc pm an cd ct):=⟨a,i,Zdf l c k⟩
theorem Fx.g(e:Fx K x st f fd)(X:K.In h)(G:h.Ns mainGlobals mg)(b:Bd x x st ps:=by first|exact fun _ _ _ _ _ _=>ar1 fun _=>rfl|exact fun _ _ _ _ _ _=>ar2 fun _ _=>rfl|exact fun _ _ _ _ _ _=>ar3 fun _ _ _=>rfl|exact fun _ _ _ _ _ _=>ar4 fun _ _ _ _=>rfl|exact fun _ _ _ _ _ _=>ar5 fun _ _ _ _ _=>rfl):Fg K mg x st ps f fd:=⟨e.f,e.f.binds b,hV X G e.a⟩
theorem Mx.g(e:Mx K C x q st f fd)(b:Bd x q st ps:=by first|exact fun _ _ _ _ _ _=>ar1 fun _=>rfl|exact fun _ _ _ _ _ _=>ar2 fun _ _=>rfl|exact fun _ _ _ _ _ _=>ar3 fun _ _ _=>rfl|exact fun _ _ _ _ _ _=>ar4 fun _ _ _ _=>rfl|exact fun _ _ _ _ _ _=>ar5 fun _ _ _ _ _=>rfl):Mg K C x q st ps f fd:=⟨e.f,e.f.binds b,⟨e.a,e.i,e.f.kp⟩⟩
end
theorem all_mk(X:K.In h)(G:h.Ns mainGlobals mg)(NY:mg "law" = some (.ref fa))
  {f0 f1 f2 f3 f4 f5 f6 f7 f8 f9 HF HI Ad Hy GX Li Iw Ma Iz HW IY Ih IR Nq Mu Hq Iq IX Im Hf IS MW Mc Ig HE Nv IF LA Ll GC FB E6 EZ FT F9 L5 M3 ND LV LR HS M6 Ib Nr Me Lp Hm Nz M4 G9 Nb ME NM GW HB Hd N7:Addr}
  {C_Table C_Shorts C_World C_TimeError C_BadWorld C_BadSentence:Addr}
  {d0 d1 d2 d3 d4 d5 d6 d7 d8 d9 uj wp AW Bl AK DG Ef LW Lu MN Ld LH Hn L6 Mf Hi Nh LO Mt Mw Hr Hk IN L7 L8 IW MR NI MU La Md Ie M9 IV IT GZ Is IJ MY HD Ht Nw HU Mn Ir Ms IB LZ Hs LU Ml Ii HA HZ MQ Lw TC:FuncData}
  {rR:Nat}{pU pN pY rc pP pV pQ pO pZ re pJ:Tok}
  {D_LINES:Addr}{tp:Nat}
  {rZ o9 py pF pW:Tok}
  {Y_YES:Addr}{wN:Nat}{tT:Tok}
  (Pp:W.nsIn K mainGlobals "Table" = some (some (.ref C_Table)))
  (Pe:W.nsIn K mainGlobals "Shorts" = some (some (.ref C_Shorts)))
  (v67:W.nsIn K mainGlobals "World" = some (some (.ref C_World)))
  (OK:W.nsIn K mainGlobals "TimeError" = some (some (.ref C_TimeError)))
  (Sl:W.nsIn K mainGlobals "BadWorld" = some (some (.ref C_BadWorld)))
  (O4:W.nsIn K mainGlobals "BadSentence" = some (some (.ref C_BadSentence)))
  (e0:Fx K "is_whole" zF f0 d0)
  (e1:Fx K "is_name" Uq f1 d1)
  (e2:Fx K "is_room" yT f2 d2)
  (e3:Fx K "are_names" W8 f3 d3)
  (e4:Fx K "are_rooms" V2 f4 d4)
  (e5:Fx K "last_ones" V1 f5 d5)
  (e6:Fx K "is_formed" YF f6 d6)
  (e7:Fx K "inner_of" WK f7 d7)
  (e8:Fx K "inner_ahead" YK f8 d8)
  (e9:Fx K "core_of" Vv f9 d9)
  (Pw:Fx K "core_with" ZT HF uj)
  (O0:Fx K "and_of" Up HI wp)
  (wR:Fx K "or_of" qO Ad AW)
  (AH:Fx K "within_of" Vd Hy Bl)
  (P6:Fx K "row_with" UX GX AK)
  (FG:Mx K C_Table "__init__" "Table.__init__" UJ Li DG)
  (Ob:Mx K C_Table "number_of" "Table.number_of" YQ Iw Ef)
  (Os:Mx K C_Table "taken_in" "Table.taken_in" Xn Ma LW)
  (Ik:Mx K C_Table "inner_numbers" "Table.inner_numbers" ZE Iz Lu)
  (PY:Fx K "below" k3 HW MN)
  (OY:Fx K "parts_of" U6 IY Ld)
  (P5:Fx K "shorter" Wi Ih LH)
  (GT:Mx K C_Shorts "__init__" "Shorts.__init__" X6 IR Hn)
  (C7:Mx K C_Shorts "both_of" "Shorts.both_of" YJ Nq L6)
  (RI:Mx K C_Shorts "short_of" "Shorts.short_of" ZP Mu Mf)
  (RB:Mx K C_Shorts "joined" "Shorts.joined" Yd Hq Hi)
  (TJ:Mx K C_Shorts "is_double" "Shorts.is_double" Y3 Iq Nh)
  (Rv:Mx K C_Shorts "word_of" "Shorts.word_of" WM IX LO)
  (Rx:Mx K C_Shorts "made" "Shorts.made" Xk Im Mt)
  (TZ:Fx K "read" Zaa Hf Mw)
  (OA:Fx K "read_along" Uy IS Hr)
  (Tj:Fx K "ground_of" W7 MW Hk)
  (N5:Fx K "told_sets" VW Mc IN)
  (NZ:Fx K "ground_rows" Yo Ig L7)
  (Sy:Fx K "room_truths" Yz HE L8)
  (SX:Fx K "read_rows" Yk Nv IW)
  (OF:Fx K "trimmed" qP IF MR)
  (RN:Fx K "stretched" Vb LA NI)
  (NR:Fx K "stretched_both" XX Ll MU)
  (TH:Fx K "not_line" UZ GC La)
  (S9:Fx K "and_line" UG FB Md)
  (Ro:Fx K "next_line" qB E6 Ie)
  (e42:Fx K "until_line" Xb EZ M9)
  (PN:Fx K "before_line" V6 FT IV)
  (Tb:Fx K "since_line" XU F9 IT)
  (FF:Mx K C_World "__init__" "World.__init__" Xd L5 GZ)
  (SD:Mx K C_World "many" "World.many" UR M3 Is)
  (e47:Mx K C_World "signs_of" "World.signs_of" WI ND IJ)
  (Sz:Mx K C_World "ways_on" "World.ways_on" Vi LV MY)
  (TN:Mx K C_World "begins" "World.begins" VE LR HD)
  (SB:Mx K C_World "fair_signs" "World.fair_signs" Wc HS Ht)
  (e51:Fx K "makes_world" YA M6 Nw)
  (Td:Fx K "are_some_rooms" XR Ib HU)
  (Rg:Fx K "_law_cell_at" VI Nr Mn)
  (e54:Fx K "_law_stream" Yc Me Ir)
  (TV:Fx K "_law_some" Wm Lp Ms)
  (Tp:Fx K "_law_lists" Z3 Hm IB)
  (O9:Fx K "_law_made" Wf Nz LZ)
  (Re:Fx K "_law_leaf" qr M4 Hs)
  (Sx:Fx K "_law_row" WP G9 LU)
  (e60:Fx K "_law_step" Xe Nb Ml)
  (e61:Fx K "_law_size" V3 ME Ii)
  (PH:Fx K "_law_deep" V0 NM HA)
  (PX:Fx K "_law_sentences" Yf GW HZ)
  (Rp:Fx K "_law_run" YC HB MQ)
  (Sg:Fx K "_law_sets" Xr Hd Lw)
  (Fh:Fx K "law" Va N7 TC)
  (Tc:W.plainGet K C_Table Str.empty=true)
  (OV:W.hasDictIn K C_Table=true)
  (OJ:W.plainOver K C_Table=true)
  (N8:W.findIn K (.ref C_Table) "__setattr__" = some (some (.builtin "object.__setattr__")))
  (v72:W.makesIn K C_Table=true)
  (v73:W.keepIn K (.ref C_Table)=true)
  (Of:W.findIn K (.ref C_Table) "parts" = some none)
  (RH:W.findIn K (.ref C_Table) "rows" = some none)
  (v4:W.findIn K (.ref C_Table) "numbers" = some none)
  (Oa:W.plainGet K C_Shorts Str.empty=true)
  (Pi:W.hasDictIn K C_Shorts=true)
  (P9:W.plainOver K C_Shorts=true)
  (Pb:W.findIn K (.ref C_Shorts) "__setattr__" = some (some (.builtin "object.__setattr__")))
  (v57:W.makesIn K C_Shorts=true)
  (R3:W.keepIn K (.ref C_Shorts)=true)
  (Th:W.findIn K (.ref C_Shorts) "table" = some none)
  (RJ:W.findIn K (.ref C_Shorts) "yes" = some none)
  (PJ:W.findIn K (.ref C_Shorts) "no" = some none)
  (P2:W.plainGet K C_World Str.empty=true)
  (ON:W.hasDictIn K C_World=true)
  (Rq:W.plainOver K C_World=true)
  (OM:W.findIn K (.ref C_World) "__setattr__" = some (some (.builtin "object.__setattr__")))
  (R1:W.makesIn K C_World=true)
  (R8:W.keepIn K (.ref C_World)=true)
  (v1:W.findIn K (.ref C_World) "room_signs" = some none)
  (v3:W.findIn K (.ref C_World) "room_ways" = some none)
  (v0:W.findIn K (.ref C_World) "start_rooms" = some none)
  (v2:W.findIn K (.ref C_World) "fair_names" = some none)
  (v22:W.nsIn K mainGlobals "ValueError" = some none)
  (PF:W.nsIn K mainGlobals "all" = some none)
  (NQ:W.nsIn K mainGlobals "reversed" = some none)
  (RO:W.nsIn K mainGlobals "range" = some none)
  (Oo:W.nsIn K mainGlobals "tuple" = some none)
  (OX:W.nsIn K mainGlobals "len" = some none)
  (TQ:W.nsIn K mainGlobals "list" = some none)
  (v23:W.nsIn K mainGlobals "isinstance" = some none)
  (Ru:W.nsIn K mainGlobals "int" = some none)
  (S4:W.nsIn K mainGlobals "set" = some none)
  (T5:W.nsIn K mainGlobals "max" = some none)
  (O2:W.nsIn K mainGlobals "zip" = some none)
  (OD:W.nsIn K mainGlobals "bool" = some none)
  (Oh:W.nsIn K mainGlobals "str" = some none)
  (O1:W.nsIn K mainGlobals "sorted" = some none)
  (GG:W.nsIn K mainGlobals "sum" = some none)
  (O5:W.nsIn K mainGlobals "LETTERS" = some (some (.str "abcdefghijklmnopqrstuvwxyz" rZ)))
  (Se:W.nsIn K mainGlobals "MOST_LETTERS" = some (some (.int 8 o9)))
  (v18:W.nsIn K mainGlobals "MOST_WITHIN" = some (some (.int 5 py)))
  (R6:W.nsIn K mainGlobals "MOST_ROOMS" = some (some (.int 20 pF)))
  (OH:W.nsIn K mainGlobals "MOST_FAIR" = some (some (.int 3 pW)))
  (RT:W.nsIn K mainGlobals "LENGTHS" = some (some (.ref D_LENGTHS)))
  (v49:K.lookup D_LENGTHS=some ⟨.type "dict",none,.dict px rR,#[]⟩)
  (v50:W.KeysLit w.params px.toList)
  (PD:W.nsIn K D_LENGTHS "all" = some (some (.int 2 pU)))
  (TW:W.nsIn K D_LENGTHS "some" = some (some (.int 2 pN)))
  (v38:W.nsIn K D_LENGTHS "not" = some (some (.int 2 pY)))
  (TU:W.nsIn K D_LENGTHS "next" = some (some (.int 2 rc)))
  (OU:W.nsIn K D_LENGTHS "always" = some (some (.int 2 pP)))
  (Pf:W.nsIn K D_LENGTHS "ever" = some (some (.int 2 pV)))
  (TX:W.nsIn K D_LENGTHS "before" = some (some (.int 2 pQ)))
  (Oi:W.nsIn K D_LENGTHS "once" = some (some (.int 2 pO)))
  (Tz:W.nsIn K D_LENGTHS "sofar" = some (some (.int 2 pZ)))
  (OS:W.nsIn K D_LENGTHS "until" = some (some (.int 3 re)))
  (SE:W.nsIn K D_LENGTHS "since" = some (some (.int 3 pJ)))
  (Pa:(D_LENGTHS==sysModules)=false)
  (Oc:W.nsIn K mainGlobals "LINES" = some (some (.ref D_LINES)))
  (T3:K.lookup D_LINES=some ⟨.type "dict",none,.dict rG tp,#[]⟩)
  (v83:W.KeysLit w.params rG.toList)
  (OL:W.nsIn K D_LINES "not" = some (some (.ref GC)))
  (Si:W.nsIn K D_LINES "and" = some (some (.ref FB)))
  (v62:W.nsIn K D_LINES "next" = some (some (.ref E6)))
  (RQ:W.nsIn K D_LINES "until" = some (some (.ref EZ)))
  (Sh:W.nsIn K D_LINES "before" = some (some (.ref FT)))
  (S8:W.nsIn K D_LINES "since" = some (some (.ref F9)))
  (Sc:(D_LINES==sysModules)=false)
  (RM:W.nsIn K mainGlobals "YES" = some (some (.ref Y_YES)))
  (Tn:K.lookup Y_YES=some ⟨.type "tuple",Ay,.seq #[.str "yes" tT] wN,wO⟩)
  (v5:W.nsIn K mainGlobals "STEADY_WORDS" = some (some (.ref Y_STEADY_WORDS)))
  (v6:K.lookup Y_STEADY_WORDS=some ⟨.type "tuple",o8,.seq #[.str "next" o4,.str "always" oT,.str "ever" oY,.str "until" oV,.str "within" oZ,.str "once" o3,.str "sofar" oW,.str "since" oX] pd,o7⟩)
  (N3:W.excIn K C_TimeError [.type "ValueError",.type "Exception",.type "BaseException",.type "object"] "ValueError.__new__" = true)
  (Pu:W.excIn K C_BadWorld [.type "ValueError",.type "Exception",.type "BaseException",.type "object"] "ValueError.__new__" = true)
  (PR:W.excIn K C_BadSentence [.type "ValueError",.type "Exception",.type "BaseException",.type "object"] "ValueError.__new__" = true)
  (MT:W.specialIn K (.builtin "object.__class__") "__get__" = some (some (.builtin "getset_descriptor.__get__")))
  (Nj:W.takesIn K (.builtin "object.__class__")=some true)
  (Pc:W.findIn K (.ref C_BadWorld) "__getattribute__" = some (some (.builtin "BaseException.__getattribute__")))
  (v28:W.findIn K (.ref C_BadWorld) "__getattr__" = some none)
  (OC:W.mroIn K C_BadWorld (.type "object")=some true)
  (Oj:W.mroIn K C_BadWorld (.type "BaseException")=some true)
  (v31:W.findIn K (.ref C_BadWorld) "__class__" = some (some (.builtin "object.__class__")))
  (RV:W.hasDictIn K C_BadWorld=true)
  (v7:W.findIn K (.ref C_BadSentence) "__getattribute__" = some (some (.builtin "BaseException.__getattribute__")))
  (v8:W.findIn K (.ref C_BadSentence) "__getattr__" = some none)
  (v9:W.mroIn K C_BadSentence (.type "object")=some true)
  (v10:W.mroIn K C_BadSentence (.type "BaseException")=some true)
  (N1:W.findIn K (.ref C_BadSentence) "__class__" = some (some (.builtin "object.__class__")))
  (Tw:W.hasDictIn K C_BadSentence=true)
  (N6:W.nsIn K D_LENGTHS "signs" = some none)
  (P3:W.nsIn K D_LENGTHS "Next" = some none) :
  ∃fd:FuncData,(∀(s:Shared) (v:Value),BindsTo s fd ⟨[v],[]⟩ [("_law_script",v)])/\∀base:Heap,K.In base->base.Ns mainGlobals mg->Uo l.prog w K mg base CX0 23 fa fd ["_law_script"] (spL K):=by
 have e:=NY.symm.trans (hV X G Fh.a);cases e;obtain⟨_,_,_,_,_,_,_,_,_,rfl,_⟩:=Fh.f.ex;have T:Txt K mg ⟨f0,f1,f2,f3,f4,f5,f6,f7,f8,f9,HF,HI,Ad,Hy,GX,Li,Iw,Ma,Iz,HW,IY,Ih,IR,Nq,Mu,Hq,Iq,IX,Im,Hf,IS,MW,Mc,Ig,HE,Nv,IF,LA,Ll,GC,FB,E6,EZ,FT,F9,L5,M3,ND,LV,LR,HS,M6,Ib,Nr,Me,Lp,Hm,Nz,M4,G9,Nb,ME,NM,GW,HB,Hd,fa,d0,d1,d2,d3,d4,d5,d6,d7,d8,d9,uj,wp,AW,Bl,AK,DG,Ef,LW,Lu,MN,Ld,LH,Hn,L6,Mf,Hi,Nh,LO,Mt,Mw,Hr,Hk,IN,L7,L8,IW,MR,NI,MU,La,Md,Ie,M9,IV,IT,GZ,Is,IJ,MY,HD,Ht,Nw,HU,Mn,Ir,Ms,IB,LZ,Hs,LU,Ml,Ii,HA,HZ,MQ,Lw,_,C_TimeError,C_BadWorld,C_BadSentence,C_Table,C_Shorts,C_World,D_LENGTHS,D_LINES,Y_YES,Y_STEADY_WORDS,w.params⟩:={
  cJ:=hV X G RM,
  y_YES:=fun H=>.inr ⟨_,_,_,Tn,rfl,rfl,(by rw[fJ];simp),.cons ⟨_,rfl⟩ (.nil)⟩,
  bJ:=hV X G v5,
  y_STEADY_WORDS:=fun H=>.inr ⟨_,_,_,v6,rfl,rfl,(by rw[fJ];simp),.cons ⟨_,rfl⟩ (.cons ⟨_,rfl⟩ (.cons ⟨_,rfl⟩ (.cons ⟨_,rfl⟩ (.cons ⟨_,rfl⟩ (.cons ⟨_,rfl⟩ (.cons ⟨_,rfl⟩ (.cons ⟨_,rfl⟩ (.nil))))))))⟩,
  cE:=hV X G RT,
  br:=⟨⟨_,_,v49,v50⟩,fun p hp=>by
   simp only[fU,gN,gO] at hp;rcases hp with rfl|rfl|rfl|rfl|rfl|rfl|rfl|rfl|rfl|rfl|rfl
   ·exact⟨_,PD⟩
   ·exact⟨_,TW⟩
   ·exact⟨_,v38⟩
   ·exact⟨_,TU⟩
   ·exact⟨_,OU⟩
   ·exact⟨_,Pf⟩
   ·exact⟨_,TX⟩
   ·exact⟨_,Oi⟩
   ·exact⟨_,Tz⟩
   ·exact⟨_,OS⟩
   ·exact⟨_,SE⟩,Pa⟩,
  cZ:=hV X G Oc,
  c8:=⟨⟨_,_,T3,v83⟩,fun p hp=>by
   simp only[fU,gN,gO] at hp;rcases hp with rfl|rfl|rfl|rfl|rfl|rfl
   ·exact OL
   ·exact Si
   ·exact v62
   ·exact RQ
   ·exact Sh
   ·exact S8,Sc⟩,
  bF:=e0.g X G,
  bW:=e1.g X G,
  cy:=e2.g X G,
  bt:=e3.g X G,
  bK:=e4.g X G,
  bg:=e5.g X G,
  bL:=e6.g X G,
  bf:=e7.g X G,
  aT:=e8.g X G,
  bX:=e9.g X G,
  bM:=Pw.g X G,
  ck:=O0.g X G,
  cG:=wR.g X G,
  bN:=AH.g X G,
  bo:=P6.g X G,
  aY:=FG.g,
  ae:=Ob.g,
  ah:=Os.g,
  az:=Ik.g,
  cO:=PY.g X G,
  b9:=OY.g X G,
  cA:=P5.g X G,
  bu:=GT.g,
  aN:=C7.g,
  aH:=RI.g,
  aB:=RB.g,
  al:=TJ.g,
  aj:=Rv.g,
  bb:=Rx.g,
  cR:=TZ.g X G,
  bC:=OA.g X G,
  bO:=Tj.g X G,
  bP:=N5.g X G,
  bv:=NZ.g X G,
  bx:=Sy.g X G,
  bQ:=SX.g X G,
  cB:=OF.g X G,
  aW:=RN.g X G,
  aF:=NR.g X G,
  bG:=TH.g X G,
  bH:=S9.g X G,
  bz:=Ro.g X G,
  bj:=e42.g X G,
  bc:=PN.g X G,
  bm:=Tb.g X G,
  bD:=FF.g,
  aC:=SD.g,
  aO:=e47.g,
  cC:=Sz.g,
  cF:=TN.g,
  bY:=SB.g,
  bA:=e51.g X G,
  aQ:=Td.g X G,
  aM:=Rg.g X G,
  aJ:=e54.g X G,
  bB:=TV.g X G,
  bE:=Tp.g X G,
  bR:=O9.g X G,
  bS:=Re.g X G,
  ce:=Sx.g X G,
  bT:=e60.g X G,
  aa:=e61.g X G,
  aG:=PH.g X G,
  a8:=PX.g X G,
  cf:=Rp.g X G,
  bU:=Sg.g X G,
  di:=Fh.g X G,
  cL:=ib X G v22,
  cU:=ib X G PF,
  bq:=ib X G NQ,
  aX:=ib X G RO,
  aD:=ib X G Oo,
  av:=ib X G OX,
  a9:=ib X G TQ,
  ak:=ib X G v23,
  db:=ib X G Ru,
  de:=ib X G S4,
  cY:=ib X G T5,
  dj:=ib X G O2,
  df:=ib X G OD,
  dg:=ib X G Oh,
  cp:=ib X G O1,
  dh:=ib X G GG,
  cM:=⟨_,hV X G O5,⟨_,rfl⟩⟩,
  bI:=⟨_,hV X G Se,⟨_,rfl⟩⟩,
  bZ:=⟨_,hV X G v18,⟨_,rfl⟩⟩,
  cg:=⟨_,hV X G R6,⟨_,rfl⟩⟩,
  cD:=⟨_,hV X G OH,⟨_,rfl⟩⟩,
  ai:=⟨Tc,OV,OJ,N8⟩,
  cK:=hV X G Pp,
  cu:=⟨v72,FG.a,FG.i,v73⟩,
  aA:=Of,
  ao:=RH,
  ay:=v4,
  ab:=⟨Oa,Pi,P9,Pb⟩,
  cS:=hV X G Pe,
  cN:=⟨v57,GT.a,GT.i,R3⟩,
  ag:=Th,
  aU:=RJ,
  aZ:=PJ,
  aV:=⟨P2,ON,Rq,OM⟩,
  c9:=hV X G v67,
  cT:=⟨R1,FF.a,FF.i,R8⟩,
  aE:=v1,
  bn:=v3,
  ba:=v0,
  bh:=v2,
  cP:=hV X G OK,
  cQ:=N3,
  cW:=hV X G Sl,
  cX:=Pu,
  cH:=hV X G O4,
  cI:=PR,
  k_BadWorld:=⟨Pc,v28,OC,Oj,v31,MT,Nj,RV⟩,
  k_BadSentence:=⟨v7,v8,v9,v10,N1,MT,Nj,Tw⟩,
  nk_signs:=N6,
  nk_Next:=P3 }
 refine⟨_,?_,fun base _ _=>Zgv T rfl⟩;exact fun s v=>.of_eq rfl
theorem walk{d:DefRec}{K:Params->W.Frag}(hn:l.most=some 63)(C3:d.params.defaults=[])
  (hY:∀(w:World) (h:Heap),YP w h->(K w.params).In h)
  (F:∀(w:World) (mg:Str->Option Value) (fa:Addr) (h:Heap),(K w.params).In h->h.Ns mainGlobals mg->mg d.name=some (.ref fa) -> ∃fd:FuncData,(∀(s:Shared) (u:Value),BindsTo s fd ⟨[u],[]⟩ [("_law_script",u)])/\∀base:Heap,(K w.params).In base->base.Ns mainGlobals mg->Uo l.prog w (K w.params) mg base CX0 23 fa fd ["_law_script"] (spL (K w.params))) :
  W.WalkO q si XP YP l.row.toRowW d [] (fun f vs=>PySem.call f vs):=
 L2.walk_of (n:=63) (k:=23) (x := "_law_script") (CX:=fun _=>CX0) (sp:=fun w=>spL (K w.params)) hn (by left) C3 ⟨rfl,by left,by left⟩ hY F (fun _ _ a ns hl _ hS=>⟨a,ns,rfl,hS,hl,fun _=>rfl⟩) fun _ _ _ _ _ z=>z
end KK
open PySem PySem.W PyProof.Rows
namespace PySem.W.Fast
def tw8264363938094100831:=0
def tw7810380622076409428:=0
def tw11288771319064303478:=0
def tw16040742633627011396:=0
def tw13134773080504164057:=0
def tw6375008359816147751:=0
def tw17473635504515604734:=0
def tw369497804006284204:=0
def tw1613796654109095298:=0
def tw15933376735562537742:=0
def tw16683870917367865768:=0
def tw17551588550962829931:=0
def tw6887910467323348268:=0
def tw7146440197351971619:=0
def tw15062838006577164478:=0
def tw182368157874077666:=0
def tw7209377095416904770:=0
def tw10506344718643162959:=0
def tw16128036257680731286:=0
def tw8189831485067654896:=0
def tw5349910531891256115:=0
def tw9804147392371452949:=0
def tw13972534773811831401:=0
def tw17228940290388474886:=0
def tw9738221346275069677:=0
def tw17034442800516463803:=0
def tw3379462434547125963:=0
def tw1804394272692165320:=0
def tw16447643701323155492:=0
def tw12781005356262063027:=0
def tw9194836793315082206:=0
def tw14042891870514994952:=0
def tw4530379571847465621:=0
def tw7464230204974728094:=0
def tw8918148960629224446:=0
def tw2525271947949306479:=0
def tw11502210055685232703:=0
def tw1715937554177389898:=0
def tw5834834894095519069:=0
def tw16785616274929932538:=0
def tw7289568390282987029:=0
def tw6158893106938651228:=0
def tw13716909202834722083:=0
def tw9832665548125692114:=0
def tw16547215889445752823:=0
def tw1421944765913272604:=0
def tw5478778329860767360:=0
def tw18017712662240422980:=0
def tw13165891937545825838:=0
def tw14065225414485085897:=0
def tw14340394953717897690:=0
def tw14579466952876416536:=0
def tw7869529953119757502:=0
def tw1565183093409660719:=0
def tw8434585351332480733:=0
def tw14861649830487751448:=0
def tw4376551188467597013:=0
def tw4672378308299275316:=0
def tw13030401272293702814:=0
def tw7606900356332697316:=0
def tw5984041433203364144:=0
def tw12679329579828086777:=0
def tw7812749440697790660:=0
def tw10088636686607345978:=0
def tw3506746297660864195:=0
def tw8751741124068940828:=0
def tw4273754127064575945:=0
def tw14473358504629352063:=0
def tw6587088161734936843:=0
def tw11391574156277410694:=0
def tw2491711684906914625:=0
def tw4190413483922772996:=0
def tw8276308022941713145:=0
def tw9077237325873577097:=0
def tw12307743499517538894:=0
def tw13594500455803644581:=0
def tw5846431026058519208:=0
def tw7583789370305625022:=0
def tw17940234254232320655:=0
def tw1615344070059886609:=0
def tw3289665761555656015:=0
def tw5040069032038333133:=0
def tw7252724163909702477:=0
def tw15107040014447034144:=0
def tw12833684270829861604:=0
def tw9566474051971592350:=0
def tw3203475272868066083:=0
def tw2489633603942386896:=0
def tw14579155313357929809:=0
def tw11310895236313023452:=0
def tw6892502094764158057:=0
def tw15551446950753441364:=0
def tw16438497710018021697:=0
def tw17808109457909751119:=0
def tw426811859281883336:=0
def tw15501936931150801459:=0
def tw4460341213456872253:=0
def tw1259493020138308557:=0
def tw1189645218181528999:=0
def tw6879789867528746950:=0
def tw3953857407375304789:=0
def tw13173551451393895278:=0
def tw6033153055485687260:=0
def tw17268843622454713646:=0
def tw12380880582946313514:=0
def tw14724708120355219298:=0
def tw15637465062097105399:=0
def tw8164117896435743410:=0
def tw2637592422834834380:=0
def tw3760691693527360960:=0
def tw11632555769301063520:=0
def tw8976908160131559611:=0
def tw7795716637438716976:=0
def tw5135758744741160425:=0
def tw2373299055361494972:=0
def tw8513509968868611072:=0
def tw5249583741544274447:=0
def tw11520672772046626034:=0
def tw2078885358930285670:=0
def tw9554203592560249521:=0
def tw8077406931657881872:=0
def tw1097240989197560042:=0
def tw17195760519206906643:=0
def tw2586672762304618683:=0
def tw16201175096329938797:=0
def tw6848371423886194773:=0
def tw2661653036525287871:=0
def tw2309803137661670143:=0
def tw1937005460962217269:=0
def tw5920690121599105960:=0
def tw5327107024952237410:=0
def tw11643395426493193996:=0
def tw10723015756367558981:=0
def tw8933561288910483217:=0
def tw1491157054844533129:=0
def tw1912051114871552480:=0
def tw4281995262805983762:=0
def tw8334915746180347835:=0
def tw5604096786617433145:=0
def tw18148554833912178772:=0
def tw8926732229625807298:=0
def tw10058394723856012371:=0
def tw732229386758050450:=0
def tw3371004424448527730:=0
def tw13013246866328945300:=0
def tw16901371498826654614:=0
def tw15074498954013474619:=0
def tw13423635662248565897:=0
def tw17218762964746542696:=0
def tw15240784325555933070:=0
end PySem.W.Fast
set_option maxRecDepth 100000 in
set_option maxHeartbeats 0 in
theorem PySem.Challenge.cw_timecourt_k77_whole_shorter_reads_alike_holds : PySem.Challenge.rw_timecourt_k77_whole_shorter_reads_alike.Holds := by
 w_on; o_law; k_head; (case hw=>w_witness2)
 k_fill
 refine KK.walk (l := PySem.Challenge.rw_timecourt_k77_whole_shorter_reads_alike) rfl rfl (fun w h Y => PySem.W.kIn_of Y) ?F
 case F =>
  intro w mg fa h KX G hmg
  have hmg2 : mg "law" = some (.ref fa) := hmg
  clear hmg
  refine' KK.all_mk KX G hmg2 ?v66 ?v52 ?v67 ?v19 ?v33 ?v13 ?e0 ?e1 ?e2 ?e3 ?e4 ?e5 ?e6 ?e7 ?e8 ?e9 ?e10 ?e11 ?e12 ?e13 ?e14 ?e15 ?e16 ?e17 ?e18 ?e19 ?e20 ?e21 ?e22 ?e23 ?e24 ?e25 ?e26 ?e27 ?e28 ?e29 ?e30 ?e31 ?e32 ?e33 ?e34 ?e35 ?e36 ?e37 ?e38 ?e39 ?e40 ?e41 ?e42 ?e43 ?e44 ?e45 ?e46 ?e47 ?e48 ?e49 ?e50 ?e51 ?e52 ?e53 ?e54 ?e55 ?e56 ?e57 ?e58 ?e59 ?e60 ?e61 ?e62 ?e63 ?e64 ?e65 ?e66 ?v68 ?v69 ?v70 ?v71 ?v72 ?v73 ?v17 ?v20 ?v4 ?v53 ?v54 ?v55 ?v56 ?v57 ?v58 ?v14 ?v21 ?v34 ?v74 ?v75 ?v76 ?v77 ?v78 ?v79 ?v1 ?v3 ?v0 ?v2 ?v22 ?v93 ?v47 ?v86 ?v87 ?v94 ?v89 ?v23 ?v95 ?v96 ?v97 ?v98 ?v90 ?v99 ?v80 ?v100 ?v59 ?v15 ?v18 ?v24 ?v35 ?v48 ?v49 ?v50 ?v36 ?v37 ?v38 ?v39 ?v40 ?v41 ?v42 ?v43 ?v44 ?v45 ?v25 ?v51 ?v81 ?v82 ?v83 ?v60 ?v61 ?v62 ?v63 ?v64 ?v65 ?v84 ?v91 ?v92 ?v5 ?v6 ?v26 ?v46 ?v16 ?xgt ?xtk ?v27 ?v28 ?v29 ?v30 ?v31 ?v32 ?v7 ?v8 ?v9 ?v10 ?v11 ?v12 ?v85 ?v88
  (case v66|v52|v67|v19|v33|v13=>k_is)
  (case e0|e1|e2|e3|e4|e5|e6|e7|e8|e9|e10|e11|e12|e13|e14|e19|e20|e21|e29|e30|e31|e32|e33|e34|e35|e36|e37|e38|e39|e40|e41|e42|e43|e44|e51|e52|e53|e54|e55|e56|e57|e58|e59|e60|e61|e62|e63|e64|e65|e66=>exact KK.Fx.m (by k_is) (by k_is) (by k_is) (by k_is))
  (case e15|e16|e17|e18|e22|e23|e24|e25|e26|e27|e28|e45|e46|e47|e48|e49|e50=>exact KK.Mx.m (by k_is) (by k_is) (by k_is) (by k_is) (by k_is))
  (case v68|v69|v70|v71|v72|v73|v17|v20|v4|v53|v54|v55|v56|v57|v58|v14|v21|v34|v74|v75|v76|v77|v78|v79|v1|v3|v0|v2|v22|v93|v47|v86|v87|v94|v89|v23|v95|v96|v97|v98=>k_is)
  (case v90|v99|v80|v100|v59|v15|v18|v24|v35|v48|v49=>k_is)
  (case v50=>exact ⟨⟨_,_,rfl,rfl⟩,⟨_,_,rfl,rfl⟩,⟨_,_,rfl,rfl⟩,⟨_,_,rfl,rfl⟩,⟨_,_,rfl,rfl⟩,⟨_,_,rfl,rfl⟩,⟨_,_,rfl,rfl⟩,⟨_,_,rfl,rfl⟩,⟨_,_,rfl,rfl⟩,⟨_,_,rfl,rfl⟩,⟨_,_,rfl,rfl⟩,trivial⟩)
  (case v36|v37|v38|v39|v40|v41|v42|v43|v44|v45|v25=>k_is)
  (case v51=>rfl)
  (case v81|v82=>k_is)
  (case v83=>exact ⟨⟨_,_,rfl,rfl⟩,⟨_,_,rfl,rfl⟩,⟨_,_,rfl,rfl⟩,⟨_,_,rfl,rfl⟩,⟨_,_,rfl,rfl⟩,⟨_,_,rfl,rfl⟩,trivial⟩)
  (case v60|v61|v62|v63|v64|v65=>k_is)
  (case v84=>rfl)
  (case v91|v92|v5|v6=>k_is)
  (case v26|v46|v16=>k_exc)
  (case xgt|xtk|v27|v28|v29|v30|v31|v32|v7|v8|v9|v10|v11|v12|v85|v88=>k_is)
