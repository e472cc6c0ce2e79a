import PyProof.Rows.All
import Wide.All
import OpenK.AllK
import Wide.FinOn
import Lean
import PyProof.EqAt
import PyProof.EqKinds
import PyProof.TupleCall
import KE.KRevIter
import KE.KDictList
import KE.KItemsList
import PySem.Challenge.RW_timecourt_k23_whole_words_unfold
set_option linter.all false
open Sum renaming inr->ζ,inl->ι
open Prod renaming fst->ε,snd->η
open PySem renaming wpAny_bind->dZ,wpAny_pure->eh,sizeLine_eq->eJ,wpAny_holding->fU,wpAny_call_entry->fW,wpAny_newObj_type->fX,wpAny_field->gu,wpAny_truthy_bool->gC,mem_of_lookup->gG,wpAny_setState_of->gK,wpAny_Call_Name_kw->gN,codeAny_builtin->gO,codeAny_mono->hX,wpAny_callSpecial?_slot->ia,plainId_quiet->ig,wpAny_mono->iu,wpAny_updateSeq->iz,wpAny_seqItems->iA,wpAny_rule->iB,wpAny_setField->iE,wpAny_isInstance->iF,wpAny_passesOwn->iL,wpAny_specialOf->iU,wpAny_attempt->i0,wpAny_of_eq->lu,wpAny_standAt->lA,typeLookup_type->lM,builtinLookup_eq_fast->lO,wpAny_askSetting->lS,wpAny_fieldsOf->lT,wpAny_pyIter_list->mj,wpAny_pyIter_slot->mI
open Nat renaming add_assoc->Μ,succ_mul->Τ,lt_or_ge->Χ,le_refl->eE,ne_of_lt->eQ,le_trans->eW,zero_le->fu,lt_of_lt_of_le->fF,ne_of_gt->fM,le_of_lt->fV,lt_of_le_of_lt->gk,lt_irrefl->gS,sub_self->hJ,le_succ->hZ,lt_succ_of_lt->ii,lt_succ_self->iw,le_add_right->iG,mul_add->iI,pow_le_pow_right->iJ,min_eq_left->iT,zero_add->iZ,mul_le_mul_right->lJ,mul_le_mul_left->l5,pow_succ->mf,one_le_pow->mh,min_le_right->mo,pos_of_ne_zero->mH
open List renaming range->γ,Nodup->δ,lookup->θ,length->μ,dropLast_concat_getLast->ν,flatten_append->ξ,filter_eq_self->ο,nodup_iff_pairwise_ne->ρ,length_eraseIdx_of_lt->υ,filter_append->χ,exists_cons_of_ne_nil->ψ,getElem?_zip_eq_some->ω,getElem_append_right->Α,getElem?_eq_none_iff->Β,take_sublist->Δ,take_add_one->Ε,pairwise_map->Ζ,length_erase_of_mem->Θ,getElem_append_left->Ι,map_drop->Κ,pairwise_mergeSort->Ν,getLast_eq_getElem->Ξ,getElem?_set_self->Ο,range_succ_eq_map->Ρ,find?_cons_of_pos->Φ,drop_eq_nil_of_le->Ψ,filter_nil->Ω,length_map->eG,getElem?_eq_getElem->eI,length_append->eK,map_cons->eM,getElem?_map->eO,mem_cons_of_mem->eT,mem_cons->eU,mem_map->eV,getElem?_eq_some_iff->eY,mem_singleton->eZ,size_toArray->fe,length_take->fh,mem_append->fj,map_append->fo,map_nil->fq,getElem_mem->fv,mem_of_getElem?->fz,mem_append_right->fC,lookup_cons->fD,length_cons->fG,length_range->fI,getElem?_append_left->fK,map_map->fL,getElem_of_mem->fO,getElem?_append_right->fS,mem_append_left->fT,length_singleton->fY,all_eq_true->fZ,append_nil->gp,length_drop->gv,not_mem_nil->gz,getElem_map->gB,nodup_cons->gF,sum_cons->gI,mem_range->gM,getD_eq_getElem?_getD->gQ,mem_cons_self->gU,append_assoc->gY,length_eq_zero_iff->g6,map_take->hU,forIn_cons->ic,length_pos_iff->ij,nil_append->ik,sum_nil->im,getElem?_eq_none->io,take_of_length_le->iy,find?_cons->iC,mem_flatten->iD,length_zip->iH,of_mem_zip->iN,all_cons->iO,all_map->iR,mem_map_of_mem->iW,pairwise_iff_getElem->iY,map_id->i3,mem_filter->i5,getElem_inj->i6,reverse_cons->i8,take_length->i9,nodup_append->lc,map_congr_left->lg,length_reverse->lh,cons_append->lv,any_cons->lG,any_eq_true->lH,getElem_take->lK,getElem?_drop->lL,eq_nil_of_length_eq_zero->lX,forIn_nil->lZ,getElem_zip->l3,ext_getElem?->l4,getElem?_range->l6,take_succ->l7,filterMap_cons->mi,getElem?_take_of_lt->mn,filter_cons_of_pos->mq,filter_cons_of_neg->mr,countP_cons->mD,take_succ_eq_append_getElem->mJ,isEmpty_iff->mM,drop_eq_getElem_cons->mN,length_dropLast->mQ,getElem?_reverse->mS,find?_cons_of_neg->mV,length_pos_of_mem->mW,mem_iff_getElem?->mY
open PySem.Heap renaming get?_push_of_some->eN,lt_size->eP,get?_push_size->fg,get?_update_other->gH,get?_update_self->gJ,size_push->hV,size_update->lV
open Ne renaming symm->eX
open Option.some renaming inj->fc
open Bool renaming true_or->Υ,false_ne_true->fB,and_eq_true->fH,false_eq_true->fJ,eq_iff_iff->gy,false_and->gW,not_true->g7,true_and->ip,or_eq_true->iQ,false_or->iX,and_false->lp,not_eq_true'->mw
open Int renaming toNat_natCast->fN,emod_nonneg->l9,emod_lt_of_pos->me,eq_ofNat_of_zero_le->mR
open PySem.PassesOwn renaming never->fP
open PySem.F renaming plainAttrs_list->fR,called_set->gb,slot_list_append->ge,type_list_append->gf,plain_extend_loop->lB,slot_zip_next->mK,slot_dict_get->mU,slot_dict_keyiterator_next->mX
open PySem.W renaming mg_none_of->gi,mg_of->gm,kia_one->gE,callWith_K->lF,methodCall_KW->mO
open Array renaming getD_eq_getD_getElem?->π,length_toList->gn,getElem?_toList->ib,getElem?_eq_getElem->lI,getElem?_eq_none->lQ,forIn_toList->lY,toList_push->mE,mem_of_getElem?->mL
open List.cons renaming inj->gX
open Option renaming isSome_map->Η,map_eq_some_iff->gZ,isSome_iff_exists->ml,map_some->mC
open PySem.Obj renaming data_mapFields->g9,isFreed_of_fields->lU,cls_mapFields->mG
open PySem.Around renaming under_plainId->ie,in1_units->ly
open Sum.inr renaming inj->ir
open Sum.inl renaming inj->iK
open PyProof.Rows.F renaming plain_set_update_loop->iP,entry_set_update_loop->mv
open PySem.Paired renaming length->i4
open PyProof.Rows renaming callWith_type1->i7,slot_tuple_getitem->mP
open PySem.Heap.SameBut renaming update->lW
open PyProof.Rows.Boot renaming «list»->m8,«tuple»->m9,«len»->ng,«isinstance»->nh,«all»->ni,«set»->nj,«sorted»->nk
def fb:=@congrArg
def ft:=@if_false
def fA:=@of_decide_eq_true
def fE:=@decide_eq_false
def fQ:=@decide_eq_true
def gj:=@if_true
def gA:=@or_false
def iq:=@beq_eq_false_iff_ne
def iM:=@beq_iff_eq
def iS:=@decide_eq_true_iff
def lj:=@decide_eq_decide
def lD:=@of_decide_eq_false
def lE:=@getElem?_pos
def my:=@decide_eq_false_iff_not
def mB:=@decide_eq_true_eq
def nn:=@if_neg
def nt:=@if_pos
def nu:=@absurd
set_option Elab.async false
set_option linter.all false
set_option maxRecDepth 100000
variable{K:_root_.PySem.W.Frag}{mg mA:PySem.Str->Option PySem.Value}{P prog q:PySem.Program}{w:PySem.World}{base h h' h1:PySem.Heap}{Q E QV Q₁:PySem.Value->PySem.Shared->Prop}{n i j t' ep nF slot:Nat}{cQ ut:List (PySem.Addr×PySem.Obj)}{a D C p S I dx sl it tc i1 i2 l1 l2:PySem.Addr}{s s':PySem.Shared}{α κ:Type}{gT nU pV p2:PySem.Pos}{A:PySem.Around}{u vl acc cd:PySem.Value}{f:Nat->Bool}{e tg iter rZ:PySem.Expr}{us its uX:List PySem.Value}{is rS:List Nat}{XP:(PySem.Str->Option PySem.Value)->PySem.Heap->Prop}{fd:PySem.FuncData}{es:Array (Int×PySem.Value)}{ns ring way:List Int}{ss N rg:List PySem.Str}{env:PySem.Env}{scope sc:PySem.Scope}{items ys:Array PySem.Value}{oh oM:List PySem.Expr}{z qual:PySem.Str}{L zs:List Bool}{R:PySem.Result->PySem.Shared->Prop}{fp ch:List PySem.Addr}{YP:PySem.World->PySem.Heap->Prop}{pl:PySem.Sem Bool}{kw:List (PySem.Str×PySem.Value)}{use:Option (PySem.Value->PySem.Sem Unit)}{Pm:PySem.Params}{l:_root_.PySem.W.OpenLaw}{SI:PySem.Heap->List PySem.Value->Prop}{osl wA:Array (Option PySem.Value)}{M:PySem.Model}{T:String}{body:List PySem.Stmt}{outer:List PySem.Env}{op:PySem.CmpOp}{rm:Nat->Int}{g':Array PySem.GenState}{tk:PySem.Tok}{B neg:Bool}{nZ:Nat->Nat}{lo hi:Option Int}{oN pI:Array PySem.DictEntry}{sg:List (PySem.Addr×List PySem.Str)}{wy:List (PySem.Addr×List Int)}{bd:PySem.Addr->PySem.Env->PySem.Sem Unit}{Q':α->PySem.Shared->Prop}{d':PySem.Drawn}{cl:List (PySem.Str×PySem.Addr)}{wC an od:Option PySem.Addr}{ob oa:PySem.Obj}{params:PySem.Arguments}{args:List _root_.PySem.W.WData}{oi:Array Nat}
local macro_rules|`(tactic|lia)=>`(tactic|omega)
local macro_rules|`(tactic|left)=>`(tactic|decide +kernel)
set_option hygiene false
local macro_rules|`(21)=>`((by lia))
local macro_rules|`(31)=>`(wpAny (model X.prog X.w))
local macro_rules|`(47)=>`((by simp))
local macro_rules|`(48)=>`((by left))
local macro_rules|`(49)=>`(Inv X cQ σ)
local macro_rules|`(50)=>`(List Str)
local macro_rules|`(54)=>`((Zk (K:=K) rfl))
local macro_rules|`(65)=>`(wpAny (model prog w) A)
local macro_rules|`(66)=>`(Okd P w K mg base a)
local macro_rules|`(67)=>`(List Tr)
local macro_rules|`(68)=>`((Zn (Zw (K:=K) rfl) rfl T.az ng (@Za _ _ _ _ _ (pv 0) Zb rfl)))
local macro_rules|`(69)=>`(fun cR A outer s H E hr=>?_)
local macro_rules|`(70)=>`(Shared->Prop)
local macro_rules|`(71)=>`(List Value)
local macro_rules|`(72)=>`(Zj (j:=0) rfl)
local macro_rules|`(73)=>`(fun cR A outer s H vs Q E hr h=>?_)
local macro_rules|`(74)=>`(List (Addr×Obj))
local macro_rules|`(75)=>`((YF (Xc hr) (pv 0) (@Za _ _ _ _ _ Zl Zb rfl)))
local macro_rules|`(76)=>`((s.heap.objs.size+1))
local macro_rules|`(77)=>`((V.str.inj z))
local macro_rules|`(78)=>`(List (Str×V))
local macro_rules|`(79)=>`(wpAny _ _)
local macro_rules|`(80)=>`({ s with heap:=h' })
local macro_rules|`(81)=>`(Option Value)
local macro_rules|`(82)=>`(List Int)
local macro_rules|`(83)=>`((YR X Nc scope cl C s H fp))
local macro_rules|`(84)=>`((st.length-q.ks.length))
local macro_rules|`(85)=>`((w.params.followText "set-order"))
local macro_rules|`(86)=>`({ s with heap:=h',toks:=tk })
set_option hygiene true
namespace L2
open PySem PySem.Spec PyProof.Rows
abbrev Key:=Sum Int Str
def Ve:Key->Value->Bool
 |.inl k,v=>Value.isInt k v
 |.inr x,v=>Value.isStrOf x v
def QI(w:World):Key->Int
 |.inl k=>hashInt k
 |.inr x=>hashStr w x
def ZZ:∀{k:Key}{v:Value},Ve k v=true->(∃i t,k=ι i/\v=Value.int i t)\/(∃x t,k=ζ x/\v=Value.str x t)
 |.inl i,v,h=>by
  obtain⟨t,e⟩:=Value.isInt_shape (k:=i) (v:=v) h;exact .inl ⟨i,t,rfl,e⟩
 |.inr x,v,h=>by
  obtain⟨t,e⟩:=Value.isStrOf_shape (x:=x) (v:=v) h;exact .inr ⟨x,t,rfl,e⟩
def VU(i:Int)(t:Tok):Ve (.inl i) (.int i t)=true:=by simp[Ve,Value.isInt]
def zT(x:Str)(t:Tok):Ve (.inr x) (.str x t)=true:=by simp[Ve,Value.isStrOf]
def Zf1(a b:Int):decide ((ι a:Key)=ι b)=(a==b):=by
 by_cases e:a=b
 ·subst e;simp
 ·have h:¬(ι a:Key)=ι b:=fun q=>e (iK q);rw[fE h];exact(iq.mpr e).symm
def Zgx(a b:Str):decide ((ζ a:Key)=ζ b)=decide (a=b):=by
 by_cases e:a=b
 ·subst e;simp
 ·have h:¬(ζ a:Key)=ζ b:=fun q=>e (ir q);rw[fE h,fE e]
def Zf7(a:Int)(b:Str):decide ((ι a:Key)=ζ b)=false:=fE (fun q=>nomatch q)
def ZgK(a:Str)(b:Int):decide ((ζ a:Key)=ι b)=false:=fE (fun q=>nomatch q)
def Zv(prog:Program)(w:World):PySem.KeyKind prog w Key where
 is:=Ve
 hash:=QI w
 inj:=fun v a b ha hb=>by
  rcases ZZ ha with⟨i,t,rfl,rfl⟩|⟨x,t,rfl,rfl⟩
  ·rcases ZZ hb with⟨j,u,rfl,e⟩|⟨y,u,rfl,e⟩
   ·injection e with e1 _;rw[e1]
   ·exact nomatch e
  ·rcases ZZ hb with⟨j,u,rfl,e⟩|⟨y,u,rfl,e⟩
   ·exact nomatch e
   ·injection e with e1 _;rw[e1]
 byValue:=fun k v h=>by
  rcases ZZ h with⟨i,t,rfl,rfl⟩|⟨x,t,rfl,rfl⟩<;>rfl
 pyHash:=fun hv h=>by
  rcases ZZ hv with⟨i,t,rfl,rfl⟩|⟨x,t,rfl,rfl⟩
  ·exact wpAny_pyHash_int h
  ·exact wpAny_pyHash_str h
 eqBool:=fun hu hv h=>by
  rcases ZZ hu with⟨i,t,rfl,rfl⟩|⟨x,t,rfl,rfl⟩
  ·rcases ZZ hv with⟨j,u,rfl,rfl⟩|⟨y,u,rfl,rfl⟩
   ·rw[Zf1] at h;exact wpAny_eqBool_int h
   ·rw[Zf7] at h;exact SeqAt.EqAt.int_str i t y u _ _ _ _ h
  ·rcases ZZ hv with⟨j,u,rfl,rfl⟩|⟨y,u,rfl,rfl⟩
   ·rw[ZgK] at h;exact SeqAt.EqAt.str_int x t j u _ _ _ _ h
   ·rw[Zgx] at h;exact wpAny_eqBool_str h
 «strs» := fun k x t v h=>by
  rcases ZZ h with⟨i,u,rfl,e⟩|⟨y,u,rfl,e⟩
  ·exact nomatch e
  ·injection e with e1 _;subst e1;cases v<;>rfl
def J7(prog:Program)(w:World)(i:Int)(t:Tok):(Zv prog w).is (.inl i) (.int i t)=true:=VU i t
def Km(prog:Program)(w:World)(x:Str)(t:Tok):(Zv prog w).is (.inr x) (.str x t)=true:=zT x t
end L2
variable{xs:List (List L2.Key×PySem.Addr×PySem.Value)}
namespace L2
open PySem PySem.Spec PyProof.Rows
inductive V where
 |non|bl (b:Bool)|int (i:Int)|str (x:Str)|byt (b:Array UInt8)|flt (b:UInt64)|ref (a:Addr)|ty (n:String)
 deriving DecidableEq
def ZL:V->Value->Prop
 |.non,u=>u=Value.none
 |.bl b,u=>u=Value.bool b
 |.int i,u=>∃t,u=Value.int i t
 |.str x,u=>∃t,u=Value.str x t
 |.byt b,u=>∃t,u=Value.bytes b t
 |.flt b,u=>∃t,u=Value.float b t
 |.ref a,u=>u=Value.ref a
 |.ty n,u=>u=Value.type n
abbrev ZE:List V->71->Prop:=Paired ZL
def ZE.length{xs:List V}{us:71}(r:ZE xs us):xs.length=us.length:=i4 r
def ZE.get:∀{xs:List V}{us:71}{i:Nat}{x:V},ZE xs us->xs[i]?=some x->∃u,us[i]?=some u/\ZL x u
 |_,_,_,_,.nil,e=>by simp at e
 |_,_,0,_,.cons r _,e=>by simp at e;subst e;exact⟨_,rfl,r⟩
 |_,_,i+1,x,.cons _ t,e=>by
  obtain⟨u,h1,h2⟩:=ZE.get (i:=i) (x:=x) t (by simpa using e);exact⟨u,by simpa using h1,h2⟩
def ZE.set{x:V}{u:Value}(r:ZL x u):∀{xs:List V}{us:71} (i:Nat),ZE xs us->ZE (xs.set i x) (us.set i u)
 |_,_,_,.nil=>.nil
 |_,_,0,.cons _ t=>.cons r t
 |_,_,i+1,.cons q t=>.cons q (ZE.set r i t)
def ZE.append:∀{xs ys:List V}{us ws:71},ZE xs us->ZE ys ws->ZE (xs++ys) (us++ws)
 |_,_,_,_,.nil,s=>s
 |_,_,_,_,.cons r t,s=>.cons r (ZE.append t s)
def ZE.take:∀{xs:List V}{us:71} (n:Nat),ZE xs us->ZE (xs.take n) (us.take n)
 |_,_,0,_=>.nil
 |_,_,_+1,.nil=>.nil
 |_,_,n+1,.cons r t=>.cons r (ZE.take n t)
def ZE.drop:∀{xs:List V}{us:71} (n:Nat),ZE xs us->ZE (xs.drop n) (us.drop n)
 |_,_,0,r=>r
 |_,_,_+1,.nil=>.nil
 |_,_,n+1,.cons _ t=>ZE.drop n t
def V6:Option V->81->Prop
 |some v,some u=>ZL v u
 |none,none=>True
 |_,_=>False
def KV:List (κ×V)->List (κ×Value)->Prop:=Paired fun(p:κ×V) (q:κ×Value)=>p.1=q.1/\ZL p.2 q.2
def kV:Key->V
 |.inl i=>.int i
 |.inr x=>.str x
inductive HO where
 |lst (xs:List V)
 |tup (xs:List V)
 |dK (kvs:List (Key×V))|dT (kvs:List (List Key×V))
 |set (S:Int->Bool) (n:Nat)
 |ins (C dx:Addr) (fs:78)
 |own (x:Addr)
 |xd (fs:78)
 |met (f x:Addr)
 |rng (lo hi:Int)
 |frz (o:Obj) (u:HO)
 |tbl (ps:Array Value)
 |ext (φ:Heap->Prop)
abbrev Hp:=Addr->Option HO
def upd(H:Hp)(a:Addr)(o:HO):Hp:=fun b=>if b=a then some o else H b
def Zc{H:Hp}{o:HO}:upd H a o a=some o:=by unfold upd;rw[nt rfl]
def Zo{H:Hp}{b:Addr}{o:HO}(h:b≠a):upd H a o b=H b:=by unfold upd;rw[nn h]
def VD{H:Hp}{b:Addr}{o u:HO}(h:H a=some o)(h':H b=some u)(d:o≠u):a≠b:=by
 intro e;subst e;rw[h] at h';exact d (fc h')
def ZC{H:Hp}{b:Addr}{o:HO}(h:H a=some o)(h':H b=none):a≠b:=by
 intro e;subst e;rw[h] at h';cases h'
section
variable(P:Program)(w:World)
def Yp(H:Hp)(h:Heap)(a:Addr):HO->Prop
 |.lst xs=>xs.length<=sizeLine/\∃(its:71) (n:Nat),ZE xs its/\h.get? a=some { cls:=.type "list",data:=.seq its.toArray n }
 |.tup xs=>xs.length<=sizeLine/\∃its:71,ZE xs its/\IsTup h a its.toArray
 |.dK kvs=>kvs.length<=sizeLine/\(a==sysModules)=false/\∃vs,KV kvs vs/\h.DictOf (Zv P w) a vs
 |.dT kvs=>kvs.length<=sizeLine/\(a==sysModules)=false/\∃xs:List (List Key×Addr×Value),
   Paired (fun(p:List Key×V) (q:List Key×Addr×Value)=>p.1=q.1/\H q.2.1=some (.tup (p.1.map kV))/\ZL p.2 q.2.2) kvs xs /\
   ∃o es ep,h.get? a=some o/\o.ExactDict/\o.data=.dict es ep/\es.toList=xs.map (entryOfKey (tupleKind (Zv P w)))/\(xs.map (·.1)).Nodup
 |.set S n=>h.SetOf (intKind P w) a S n
 |.ins C dx fs=>H dx=some (.own a)/\fs.length<=1000/\dx≠a/\h.get? a=some (W.instObj C dx) /\
   ∃mA,h.Ns1 dx mA/\(∀f,V6 (fs.lookup f) (mA f))/\PySem.Within mA (fs.map (·.1))
 |.own _=>∃o,h.get? a=some o
 |.xd fs=>∃mA,h.Ns1 a mA/\∀f,V6 (fs.lookup f) (mA f)
 |.rng lo hi=>∃t u v,h.get? a=some { cls:=.type "range",data:=.fields #[.int lo t,.int hi u,.int 1 v] }
 |.frz o u=>h.get? a=some o/\Yp H h a u
 |.tbl ps=>h.get? a=some { cls:=.none,data:=.fields ps }
 |.met f x=>h.get? a=some (W.methodObj (.ref f) (.ref x))
 |.ext φ=>φ h/\(∃o,h.get? a=some o)/\∀h1 h2:Heap,φ h1->(∀o,h1.get? a=some o->h2.get? a=some o)->φ h2
def HOk(H:Hp)(h:Heap):Prop:=∀a o,H a=some o->Yp P w H h a o
end
section
variable{P:Program}{w:World}{H H':Hp}{h h':Heap}{a:Addr}{o:HO}
theorem Yp.lt(x:Yp P w H h a o):a<h.objs.size:=by
 cases o with
 |lst xs=>obtain⟨_,_,_,_,e⟩:=x;exact eP e
 |tup xs=>obtain⟨_,_,_,p⟩:=x;exact p.lt
 |dK kvs=>obtain⟨_,_,_,_,o,_,_,e,_⟩:=x;exact eP e
 |dT kvs=>obtain⟨_,_,_,_,o,_,_,e,_⟩:=x;exact eP e
 |set S n=>obtain⟨o,_,_,_,e,_⟩:=x;exact eP e
 |ins C dx fs=>obtain⟨_,_,_,e,_⟩:=x;exact eP e
 |own y=>obtain⟨_,e⟩:=x;exact eP e
 |xd fs=>obtain⟨_,⟨_,_,_,e,_⟩,_⟩:=x;exact eP e
 |rng lo hi=>obtain⟨_,_,_,e⟩:=x;exact eP e
 |frz ob u=>obtain⟨e,_⟩:=x;exact eP e
 |tbl ps=>exact eP (show h.get? a=some _ from x)
 |met f y=>exact eP (show h.get? a=some _ from x)
 |ext φ=>obtain⟨_,⟨_,e⟩,_⟩:=x;exact eP e
theorem Paired.mapP{α β:Type}{F G:α->β->Prop}:∀{l₁:List α}{l₂:List β},Paired F l₁ l₂->(∀a b,F a b->G a b)->Paired G l₁ l₂
 |_,_,.nil,_=>.nil
 |_,_,.cons r t,f=>.cons (f _ _ r) (Paired.mapP t f)
theorem Yp.stay(x:Yp P w H h a o)(k:∀b u,(b=a\/H b=some (.own a))->h.get? b=some u->h'.get? b=some u)
  (ho:∀b,H b=some (.own a)->H' b=some (.own a)) (ht:∀b xs,H b=some (.tup xs)->H' b=some (.tup xs)):Yp P w H' h' a o:=by
 induction o with
 |lst xs=>obtain⟨z,its,n,r,e⟩:=x;exact⟨z,its,n,r,k _ _ (.inl rfl) e⟩
 |tup xs=>obtain⟨z,its,r,ob,e,c⟩:=x;exact⟨z,its,r,ob,k _ _ (.inl rfl) e,c⟩
 |dK kvs=>obtain⟨z,y,vs,r,ob,es,ep,e,c⟩:=x;exact⟨z,y,vs,r,ob,es,ep,k _ _ (.inl rfl) e,c⟩
 |dT kvs=>
  obtain⟨z,y,xs,r,ob,es,ep,e,c⟩:=x;exact⟨z,y,xs,Paired.mapP r fun p q z=>⟨z.1,ht _ _ z.2.1,z.2.2⟩,ob,es,ep,k _ _ (.inl rfl) e,c⟩
 |set S n=>obtain⟨ob,es,ep,t,e,c⟩:=x;exact⟨ob,es,ep,t,k _ _ (.inl rfl) e,c⟩
 |ins C dx fs=>
  obtain⟨d,z,ne,e,mA,⟨od,es,ep,e2,c⟩,r⟩:=x;exact⟨ho _ d,z,ne,k _ _ (.inl rfl) e,mA,⟨od,es,ep,k _ _ (.inr d) e2,c⟩,r⟩
 |own y=>obtain⟨ob,e⟩:=x;exact⟨ob,k _ _ (.inl rfl) e⟩
 |xd fs=>obtain⟨mA,⟨od,es,ep,e,c⟩,r⟩:=x;exact⟨mA,⟨od,es,ep,k _ _ (.inl rfl) e,c⟩,r⟩
 |rng lo hi=>obtain⟨t,u,v,e⟩:=x;exact⟨t,u,v,k _ _ (.inl rfl) e⟩
 |frz ob u ih=>obtain⟨e,q⟩:=x;exact⟨k _ _ (.inl rfl) e,ih q⟩
 |tbl ps=>
  have e:h.get? a=some { cls:=.none,data:=.fields ps }:=x
  show h'.get? a=some { cls:=.none,data:=.fields ps }
  exact k a _ (.inl rfl) e
 |met f y=>
  have e:h.get? a=some (W.methodObj (.ref f) (.ref y)):=x
  show h'.get? a=some (W.methodObj (.ref f) (.ref y))
  exact k a _ (.inl rfl) e
 |ext φ=>obtain⟨p,⟨o,e⟩,st⟩:=x;exact⟨st _ _ p fun o q=>k _ _ (.inl rfl) q,⟨o,k _ _ (.inl rfl) e⟩,st⟩
theorem HOk.lt(x:HOk P w H h)(e:H a=some o):a<h.objs.size:=(x a o e).lt
theorem HOk.fresh(x:HOk P w H h)(e:h.objs.size<=a):H a=none:=by
 cases q:H a with
 |none=>rfl
 |some u=>exact nu (fF (x.lt q) e) (gS _)
theorem HOk.kept(x:HOk P w H h)(k:∀b u,h.get? b=some u->h'.get? b=some u):HOk P w H h':=fun a o e=>
 (x a o e).stay (fun b u _ q=>k b u q) (fun _ q=>q) fun _ _ q=>q
theorem HOk.laid(x:HOk P w H h)(k:∀b u,h.get? b=some u->h'.get? b=some u)(hp:h.objs.size<=a)(rJ:Yp P w (upd H a o) h' a o):HOk P w (upd H a o) h':=fun b u e=>by
 have hn:=x.fresh hp
 by_cases hb:b=a
 ·subst hb;rw[Zc] at e;cases e;exact rJ
 ·rw[Zo hb] at e;exact(x b u e).stay (fun c v _ q=>k c v q) (fun c q=>by rw[Zo (ZC q hn)];exact q) fun c xs q=>by rw[Zo (ZC q hn)];exact q
end
def Rd(H:Hp)(a:Addr)(u:HO):Prop:=H a=some u\/∃o,H a=some (.frz o u)
def Rd.ok{H:Hp}{u:HO}(r:Rd H a u)(x:HOk P w H h):Yp P w H h a u:=by
 rcases r with r|⟨o,r⟩
 ·exact x a u r
 ·obtain⟨_,q⟩:=x a _ r;exact q
def Mut:Option HO->Prop
 |some (.lst _)=>True
 |some (.dK _)=>True
 |some (.dT _)=>True
 |some (.set _ _)=>True
 |some (.ins _ _ _)=>True
 |some (.ext _)=>True
 |_=>False
section
variable{H:Hp}{x e:Addr}{o':HO}
theorem HOk.write(ok:HOk P w H h)(mu:Mut (H x))(he:e=x\/H e=some (.own x))(k:∀b u,b≠e->h.get? b=some u->h'.get? b=some u)(Ak:∃u,h'.get? e=some u)
  (rJ:Yp P w (upd H x o') h' x o'):HOk P w (upd H x o') h':=fun b u q=>by
 have BE:∀c y,H c=some (.own y)->c≠x:=fun c y r z=>by subst z;rw[r] at mu;exact mu
 have FH:∀c xs,H c=some (.tup xs)->c≠x:=fun c xs r z=>by subst z;rw[r] at mu;exact mu
 by_cases hb:b=x
 ·subst hb;rw[Zc] at q;cases q;exact rJ
 ·rw[Zo hb] at q
  by_cases hbe:b=e
  ·have q':H b=some (.own x):=by
    rcases he with z|z
    ·exact nu (hbe.trans z) hb
    ·rw[hbe];exact z
   rw[q] at q';cases q';obtain⟨v,hv⟩:=Ak;exact⟨v,by rw[hbe];exact hv⟩
  ·refine(ok b u q).stay (fun c v hc r=>k c v ?_ r) (fun c r=>by rw[Zo (BE c b r)];exact r) fun c xs r=>by rw[Zo (FH c xs r)];exact r
   rcases hc with rfl|hc
   ·exact hbe
   ·rintro rfl;rcases he with z|z
    ·exact BE c b hc z
    ·rw[hc] at z;cases z;exact hb rfl
end
structure Un(fs ex:List Addr)(H H':Hp)(h h':Heap):Prop where
 keep:∀b o,h.get? b=some o->H b=none->b∉fs->b∉ex->h'.get? b=some o
 slot:∀b o,h.get? b=some o->H b=none->b∈fs->b∉ex->∃sl,h'.get? b=some { o with slots:=sl }
 free:∀b o,h.get? b=some o->H b=none->b∉ex->H' b=none
 there:∀b o,h.get? b=some o->b∉ex->∃o',h'.get? b=some o'
 tups:∀b xs,H b=some (.tup xs)->H' b=some (.tup xs)
 frzs:∀b o u,H b=some (.frz o u)->H' b=some (.frz o u)
 tbls:∀b ps,H b=some (.tbl ps)->∃more,H' b=some (.tbl (ps++more))
section
variable{fs wV ex rF:List Addr}{H H1 H2:Hp}{h2:Heap}{x e:Addr}{o:HO}
theorem Un.any(u:Un fs ex H H1 h h1){b:Addr}(q:h.get? b=some ob)(n:H b=none)(hx:b∉ex):∃sl,h1.get? b=some { ob with slots:=sl }:=by
 by_cases hb:b∈fs
 ·exact u.slot b ob q n hb hx
 ·exact⟨ob.slots,u.keep b ob q n hb hx⟩
theorem Un.kept(k:∀b u,h.get? b=some u->h'.get? b=some u):Un fs ex H H h h':=
 ⟨fun b ob q _ _ _=>k b ob q,fun b ob q _ _ _=>⟨ob.slots,k b ob q⟩,fun _ _ _ n _=>n,fun b ob q _=>⟨ob,k b ob q⟩,fun _ _ q=>q,fun _ _ _ q=>q,fun _ ps q=>⟨#[],by rw[q];simp⟩⟩
theorem Un.refl:Un fs ex H H h h:=Un.kept fun _ _ q=>q
theorem Un.laid(k:∀b u,h.get? b=some u->h'.get? b=some u)(hp:h.objs.size<=a)(hn:H a=none):Un fs ex H (upd H a o) h h' where
 keep:=fun b u q _ _ _=>k b u q
 slot:=fun b u q _ _ _=>⟨u.slots,k b u q⟩
 free:=fun b u q n _=>by rw[Zo (eQ (fF (eP q) hp))];exact n
 there:=fun b u q _=>⟨u,k b u q⟩
 tups:=fun b xs q=>by rw[Zo (ZC q hn)];exact q
 frzs:=fun b u xs q=>by rw[Zo (ZC q hn)];exact q
 tbls:=fun b ps q=>⟨#[],by rw[Zo (ZC q hn),q];simp⟩
theorem Un.write(mu:Mut (H x))(he:e=x\/H e=some (.own x))(k:∀b u,b≠e->h.get? b=some u->h'.get? b=some u)(Ak:∃u,h'.get? e=some u):Un fs ex H (upd H x o) h h':=by
 have hx:∀b,H b=none->b≠x:=fun b n z=>by subst z;rw[n] at mu;exact mu
 have hb:∀b,H b=none->b≠e:=fun b n z=>by
  subst z;rcases he with r|r
  ·exact hx b n r
  ·rw[n] at r;cases r
 have hm:∀b u,H b=some u->¬Mut (some u)->b≠x:=fun b u q nm z=>by subst z;rw[q] at mu;exact nm mu
 refine⟨fun b u q n _ _=>k b u (hb b n) q,fun b u q n _ _=>⟨u.slots,k b u (hb b n) q⟩,fun b u q n _=>by rw[Zo (hx b n)];exact n,fun b u q _=>?_,
  fun b xs q=>by rw[Zo (hm b _ q fun z=>z)];exact q,fun b u xs q=>by rw[Zo (hm b _ q fun z=>z)];exact q,fun b ps q=>⟨#[],by rw[Zo (hm b _ q fun z=>z),q];simp⟩⟩
 by_cases hbe:b=e
 ·subst hbe;exact Ak
 ·exact⟨u,k b u hbe q⟩
end
def trk(h:Heap)(H:Hp):List Addr:=(γ h.objs.size).filter fun a=>(H a).isSome
def vV(h:Heap)(H:Hp):Heap:=W.hideAll h (trk h H)
def ZbO(h:Heap)(H:Hp):(vV h H).objs.size=h.objs.size:=W.hideAll_size _ _
def ZcD{H:Hp}{b:Addr}{o:Obj}(e:h.get? b=some o)(n:H b=none):(vV h H).get? b=some o:=
 W.hideAll_get _ e fun hm=>by
  have q:(H b).isSome=true:=(i5.mp hm).2;rw[n] at q;simp at q
def ZeF{H:Hp}{b:Addr}{o:Obj}(e:(vV h H).get? b=some o):h.get? b=some o/\H b=none:=by
 have e':h.get? b=some o:=W.of_hideAll (trk h H) e;refine⟨e',?_⟩;cases q:H b with
 |none=>rfl
 |some x=>
  have hm:b∈trk h H:=i5.mpr ⟨gM.mpr (eP e'),by simp[q]⟩;have z:(vV h H).get? b=none:=W.hideAll_none (trk h H) hm;rw[z] at e;cases e
def Zeu(g h:Heap)(L:Addr):74:=(γ h.objs.size).filterMap fun a=>if a=L\/(g.get? a).isSome=true then none else(h.get? a).map fun o=>(a,o)
def XB(g h:Heap)(L d:Addr):74:=(Zeu g h L).filter fun p=>decide (p.1≠d)
end L2
variable{H H' H0 H1 G G' H2:L2.Hp}{o:L2.HO}{kvs kv:List (L2.Key×L2.V)}{v y v1 v2:L2.V}{vs:List L2.V}{r:L2.Hp->L2.V->α->Prop}
namespace L2
open PySem PySem.Spec PyProof.Rows
structure Mod(K:W.Frag)(mg:Str->81)(base:Heap):Prop where
 kin:K.In base
 glob:base.Ns mainGlobals mg
 blt:∃mb,base.Ns builtinsNs mb/\∀x:Str,x ≠ "__name__" -> mb x=bootBuiltins x
 nolimit:base.NoLimit
structure Cx where
 prog:Program
 w:World
 K:W.Frag
 mg:Str->81
 base:Heap
 A:Around
 N:50
 s₀:Shared
 H₀:Hp
 env:Env
 outer:List Env
 stack:List Env
 ex:List Addr
 fn:Str->Bool
 calm:Bool
 pn:74
 xe:Value->70
def frs(l:List Env):List Addr:=l.filterMap (·.frame)
abbrev Cx.fs(X:Cx):List Addr:=frs X.outer
def Vis(sc:Scope)(x:Str):Prop:=sc.names.lookup x=some .local\/sc.names.lookup x=some .cell\/sc.names.lookup x=some .free
def Loc(sc:Scope)(x:Str):Prop:=sc.names.lookup x=some .local\/sc.names.lookup x=some .cell
def Look(env:Env)(h:Heap)(m:Str->81)(x:Str)(u:Value):Prop:=
 (env.kindOf x=some .local/\m x=some u)\/((env.kindOf x=some .cell\/env.kindOf x=some .free)/\∃c,env.cells.lookup x=some c/\h.IsCell c (some u))
structure Cx.Ok(X:Cx):Prop where
 mod:Mod X.K X.mg X.base
 kind:X.env.scope.kind=.function
 glob:X.env.globals=mainGlobals
 blt:X.env.builtins=builtinsNs
 above:X.s₀.heap.objs.size<=X.env.locals
 inj:∀x y c,X.env.cells.lookup x=some c->X.env.cells.lookup y=some c->x=y
 has:∀x,(X.env.kindOf x=some .cell\/X.env.kindOf x=some .free)->∃c,X.env.cells.lookup x=some c
 cab:∀x c,X.fn x=true->X.env.cells.lookup x=some c->X.s₀.heap.objs.size<=c
 hd:X.calm=true->X.A.handled=none
 frames:X.A.frames=some X.stack
 stk:X.stack=X.outer\/(X.stack=X.env::X.outer/\X.env.frame=some X.env.locals)
 exf:∀b∈X.ex,b≠X.env.locals/\∀x c,X.env.cells.lookup x=some c->c≠b
 bs:∀b o,X.base.get? b=some o->X.s₀.heap.get? b=some o/\X.H₀ b=none
 bsz:X.base.objs.size<=X.s₀.heap.objs.size
 noex:∀b o,X.base.get? b=some o->b∉X.ex
 exfs:∀b∈X.ex,b∉X.fs
 funs:X.s₀.heap.FunFrames X.base X.outer
 frf:∀b∈X.fs,X.H₀ b=none
structure Inv(X:Cx)(cQ:74)(σ:List (Option V))(H:Hp)(s:Shared):Prop where
 ok:X.Ok
 os:s.os=X.s₀.os
 bare:AllBare s.gens
 base:Un X.fs X.ex X.H₀ H X.s₀.heap s.heap
 loc:∃m,s.heap.Ns X.env.locals m/\∀(i:Nat) (x:Str) (v:V),X.N[i]?=some x->σ[i]?=some (some v)->Vis X.env.scope x->∃u,ZL v u/\Look X.env s.heap m x u
 cell:∀x c,X.env.cells.lookup x=some c->∃v,s.heap.IsCell c v
 free:H X.env.locals=none
 freeC:∀x c,X.env.cells.lookup x=some c->H c=none
 pin:∀p∈X.pn++cQ,s.heap.get? p.1=some p.2/\H p.1=none/\p.1≠X.env.locals/\p.1∉X.fs/\∀v,p.2.data≠.cell v
 hok:HOk X.prog X.w H s.heap
 len:σ.length=X.N.length
section
variable{X:Cx}{σ:List (Option V)}
theorem Cx.Ok.nofr(ok:X.Ok){b:Addr}{o:Obj}(e:X.base.get? b=some o):b∉X.fs:=fun hb=>by
 have:=(ok.funs.mem hb).1;rw[e] at this;cases this
theorem Inv.bs(I:49 H s):∀b o,X.base.get? b=some o->s.heap.get? b=some o/\H b=none:=fun b o e=>
 ⟨I.base.keep b o (I.ok.bs b o e).1 (I.ok.bs b o e).2 (I.ok.nofr e) (I.ok.noex b o e),I.base.free b o (I.ok.bs b o e).1 (I.ok.bs b o e).2 (I.ok.noex b o e)⟩
theorem Inv.bk(I:49 H s):∀b o,X.base.get? b=some o->s.heap.get? b=some o:=fun b o e=>(I.bs b o e).1
theorem Inv.mod(I:49 H s):Mod X.K X.mg X.base:=I.ok.mod
theorem Inv.kIn(I:49 H s):X.K.In s.heap:=I.ok.mod.kin.keeps I.bk
theorem Inv.fr(I:49 H s):∃m,Fr X.base X.env.locals s.heap m:=
 let ⟨m,hn,_⟩:=I.loc
 ⟨m,hn,I.bk,eW I.ok.bsz I.ok.above⟩
theorem Inv.lt(I:49 H s):X.env.locals<s.heap.objs.size:=let ⟨_,hn,_⟩:=I.loc;hn.lt
theorem Inv.sz(I:49 H s):X.s₀.heap.objs.size<=s.heap.objs.size:=eW I.ok.above (fV I.lt)
theorem Inv.nofs(I:49 H s)(h:s.heap.objs.size<=a):a∉X.fs:=fun hb=>by
 obtain⟨_,o,ho,_⟩:=I.ok.funs.mem hb;exact nu (fF (eP ho) (eW I.sz h)) (gS _)
theorem Inv.cne(I:49 H s):∀x c,X.env.cells.lookup x=some c->c≠X.env.locals:=fun x c e z=>by
 obtain⟨v,o,ho,hd⟩:=I.cell x c e;obtain⟨m,⟨o',es,ep,pL,rO,_⟩,_⟩:=I.loc;rw[z,pL] at ho;cases ho;rw[rO] at hd;cases hd
theorem Inv.funs(I:49 H s):s.heap.FunFrames X.base X.outer:=by
 have all:∀(l:List Env),(∀b∈frs l,b∈X.fs)->X.s₀.heap.FunFrames X.base l->s.heap.FunFrames X.base l:=by
  intro l
  induction l with
  |nil=>intro _ _;trivial
  |cons env r ih=>
   intro hs hl;obtain⟨hk,⟨L,o,hf,hn,ho,hd⟩,hr⟩:=hl;have hL:L∈X.fs:=hs L (by unfold frs;rw[mi,hf];exact gU);obtain⟨sl,e⟩:=I.base.slot L o ho (I.ok.frf L hL) hL fun z=>I.ok.exfs L z hL;exact⟨hk,⟨L,_,hf,hn,e,hd⟩,ih (fun b hb=>hs b (by unfold frs;rw[mi,hf];exact eT _ hb)) hr⟩
 exact all X.outer (fun _ hb=>hb) I.ok.funs
theorem Inv.stack(I:49 H s):s.heap.FunFrames X.base X.stack:=by
 rcases I.ok.stk with e|⟨e,hf⟩
 ·rw[e];exact I.funs
 ·rw[e];obtain⟨m,hn,_⟩:=I.loc;refine .cons (by rw[I.ok.kind];decide) hf hn ?_ I.funs;exact Heap.get?_none_of_le (eW I.ok.bsz I.ok.above)
theorem Inv.stkSub(I:49 H s):∀b∈frs X.stack,b∈X.env.locals::X.fs:=fun b hb=>by
 rcases I.ok.stk with e|⟨e,hf⟩
 ·rw[e] at hb;exact eT _ hb
 ·rw[e] at hb;unfold frs at hb;rw[mi,hf] at hb;exact hb
theorem Inv.stkFree(I:49 H s):∀b∈frs X.stack,H b=none:=fun b hb=>by
 rcases eU.mp (I.stkSub b hb) with e|hb
 ·rw[e];exact I.free
 ·obtain⟨_,o,ho,_⟩:=I.ok.funs.mem hb;exact I.base.free b o ho (I.ok.frf b hb) fun z=>I.ok.exfs b z hb
theorem Inv.step(I:49 H s)
  (pR:∀b∈ch,(b∈X.ex\/X.s₀.heap.objs.size<=b)/\b≠X.env.locals/\(∀x c,X.env.cells.lookup x=some c->c≠b)/\∀p∈X.pn++cQ,p.1≠b)
  (keep:∀b o,b≠X.env.locals->b∉X.fs->b∉ch->s.heap.get? b=some o->H b=none->h'.get? b=some o)
  (slot:∀b o,b≠X.env.locals->b∈X.fs->b∉ch->s.heap.get? b=some o->H b=none->∃sl,h'.get? b=some { o with slots:=sl }) (free:∀b o,b∉ch->s.heap.get? b=some o->H b=none->H' b=none)
  (there:∀b o,b∉ch->s.heap.get? b=some o->∃o',h'.get? b=some o')
  (tups:∀b xs,H b=some (.tup xs)->H' b=some (.tup xs)) (frzs:∀b o u,H b=some (.frz o u)->H' b=some (.frz o u)) (tbls:∀b ps,H b=some (.tbl ps)->∃more,H' b=some (.tbl (ps++more)))
  (ns:∀m,s.heap.Ns X.env.locals m->h'.Ns X.env.locals m) (hok:HOk X.prog X.w H' h') (hg:AllBare g') :
  49 H' { s with heap:=h',gens:=g',drawn:=d',toks:=t' }:=by
 have MG:∀b o,X.s₀.heap.get? b=some o->b≠X.env.locals:=fun b o e=>eQ (fF (eP e) I.ok.above);have CY:∀b o,X.s₀.heap.get? b=some o->b∉X.ex->b∉ch:=fun b o e hx hb=>by
  rcases(pR b hb).1 with z|z
  ·exact hx z
  ·exact nu (fF (eP e) z) (gS _)
 have ui:∀x c,X.env.cells.lookup x=some c->∀v,s.heap.IsCell c v->h'.IsCell c v:=fun x c e v ⟨o,ho,hd⟩=>by
  have uu:c∉ch:=fun z=>(pR c z).2.2.1 x c e rfl
  by_cases hc:c∈X.fs
  ·obtain⟨sl,q⟩:=slot c o (I.cne x c e) hc uu ho (I.freeC x c e);exact⟨_,q,hd⟩
  ·exact⟨o,keep c o (I.cne x c e) hc uu ho (I.freeC x c e),hd⟩
 refine⟨I.ok,I.os,hg,⟨fun b o e n hb hx=>?_,fun b o e n hb hx=>?_,fun b o e n hx=>?_,fun b o e hx=>?_,fun b xs e=>tups b xs (I.base.tups b xs e),fun b o xs e=>frzs b o xs (I.base.frzs b o xs e),fun b ps e=>?_⟩,?_,fun x c e=>?_,?_,fun x c e=>?_,fun p hp=>?_,hok,I.len⟩
 ·exact keep b o (MG b o e) hb (CY b o e hx) (I.base.keep b o e n hb hx) (I.base.free b o e n hx)
 ·obtain⟨sl,e1⟩:=I.base.slot b o e n hb hx;obtain⟨pE,e2⟩:=slot b _ (MG b o e) hb (CY b o e hx) e1 (I.base.free b o e n hx);exact⟨pE,e2⟩
 ·obtain⟨o',e1⟩:=I.base.there b o e hx;exact free b o' (CY b o e hx) e1 (I.base.free b o e n hx)
 ·obtain⟨o',e1⟩:=I.base.there b o e hx;exact there b o' (CY b o e hx) e1
 ·obtain⟨m1,e1⟩:=I.base.tbls b ps e;obtain⟨m2,e2⟩:=tbls b _ e1;exact⟨m1++m2,by rw[e2,Array.append_assoc]⟩
 ·obtain⟨m,hn,hl⟩:=I.loc;refine⟨m,ns m hn,fun i x v e1 e2 e3=>?_⟩;obtain⟨u,r,l⟩:=hl i x v e1 e2 e3;refine⟨u,r,?_⟩;rcases l with l|⟨k,c,e,z⟩
  ·exact .inl l
  ·exact .inr ⟨k,c,e,ui x c e _ z⟩
 ·obtain⟨v,z⟩:=I.cell x c e;exact⟨v,ui x c e v z⟩
 ·obtain⟨m,⟨o,_,_,ho,_⟩,_⟩:=I.loc;exact free _ o (fun z=>(pR _ z).2.1 rfl) ho I.free
 ·obtain⟨v,o,ho,hd⟩:=I.cell x c e;exact free c o (fun z=>(pR c z).2.2.1 x c e rfl) ho (I.freeC x c e)
 ·obtain⟨e,n,ne,nf,d⟩:=I.pin p hp;have uu:p.1∉ch:=fun z=>(pR p.1 z).2.2.2 p hp rfl;exact⟨keep p.1 p.2 ne nf uu e n,free p.1 p.2 uu e n,ne,nf,d⟩
theorem Inv.un(I:49 H s)(u:Un X.fs [] H H' s.heap h')(hok:HOk X.prog X.w H' h'):49 H' { s with heap:=h',toks:=t' }:=by
 obtain⟨m,⟨o,es,ep,ho,r⟩,_⟩:=id I.loc;obtain⟨sl,hL⟩:=u.any ho I.free 47;exact I.step (g':=s.gens) (d':=s.drawn) (ch:=[]) (fun _ z=>nomatch z) (fun b o _ hb _ e n=>u.keep b o e n hb 47) (fun b o _ hb _ e n=>u.slot b o e n hb 47) (fun b o _ e n=>u.free b o e n 47) (fun b o _ e=>u.there b o e 47) u.tups u.frzs u.tbls (fun m' hm=>by
  obtain⟨o',es',Cv,pL,r'⟩:=hm;rw[ho] at pL;cases pL;exact⟨_,es',Cv,hL,r'⟩) hok I.bare
theorem Inv.call(I:49 H s)(u:Un (frs X.stack) ch H H' s.heap h')(hok:HOk X.prog X.w H' h')(hg:AllBare g')
  (pR:∀b∈ch,(b∈X.ex\/X.s₀.heap.objs.size<=b)/\b≠X.env.locals/\(∀x c,X.env.cells.lookup x=some c->c≠b)/\∀p∈X.pn++cQ,p.1≠b) :
  49 H' { s with heap:=h',gens:=g',drawn:=d',toks:=t' }:=by
 obtain⟨m,⟨o,es,ep,ho,r⟩,_⟩:=id I.loc;obtain⟨sl,hL⟩:=u.any ho I.free fun z=>(pR _ z).2.1 rfl;exact I.step (ch:=ch) pR (fun b o hL hb hc e n=>u.keep b o e n (fun z=>(eU.mp (I.stkSub b z)).elim hL hb) hc) (fun b o _ _ hc e n=>u.any e n hc) (fun b o hc e n=>u.free b o e n hc) (fun b o hc e=>u.there b o e hc) u.tups u.frzs u.tbls (fun m' hm=>by
  obtain⟨o',es',Cv,pL,r'⟩:=hm;rw[ho] at pL;cases pL;exact⟨_,es',Cv,hL,r'⟩) hok hg
theorem Inv.turned(I:49 H s)(k:∀b o,b≠it->s.heap.get? b=some o->h'.get? b=some o)(hn:H it=none)(hL:it≠X.env.locals)
  (h1:it∈X.ex\/X.s₀.heap.objs.size<=it) (h2:∀x c,X.env.cells.lookup x=some c->c≠it) (h3:∀p∈X.pn++cQ,p.1≠it):49 H { s with heap:=h',toks:=t' }:=by
 have Is:∀b u,H b=some u->b≠it:=fun b u e z=>by rw[z,hn] at e;cases e
 refine I.step (g':=s.gens) (d':=s.drawn) (ch:=[it]) (fun b hb=>?_) (fun b o _ _ hc e _=>k b o (fun z=>hc (by simp[z])) e) (fun b o _ _ hc e _=>⟨o.slots,k b o (fun z=>hc (by simp[z])) e⟩) (fun _ _ _ _ n=>n)
  (fun b o hc e=>⟨o,k b o (fun z=>hc (by simp[z])) e⟩) (fun _ _ e=>e) (fun _ _ _ e=>e) (fun b ps e=>⟨#[],by rw[e];simp⟩) (fun m hm=>?_) (fun b u e=>?_) I.bare
 ·have e:b=it:=by simpa using hb
  subst e;exact⟨h1,hL,h2,h3⟩
 ·obtain⟨o,es,ep,ho,r⟩:=hm;exact⟨o,es,ep,k _ o (eX hL) ho,r⟩
 ·refine(I.hok b u e).stay (fun c v hc q=>k c v ?_ q) (fun _ q=>q) fun _ _ q=>q;rcases hc with z|z
  ·rw[z];exact Is b u e
  ·exact Is c _ z
theorem Inv.tok(I:49 H s)(t:Nat):49 H { s with toks:=t }:=I.un (h':=s.heap) (t':=t) Un.refl I.hok
theorem Inv.kept{t':Nat}(I:49 H s)(k:∀b u,s.heap.get? b=some u->h'.get? b=some u):49 H { s with heap:=h',toks:=t' }:=I.un (Un.kept k) (I.hok.kept k)
theorem Inv.laid{a:Addr}{o:HO}{t':Nat}(I:49 H s)(k:∀b u,s.heap.get? b=some u->h'.get? b=some u)(hp:s.heap.objs.size<=a)(rJ:Yp X.prog X.w (upd H a o) h' a o) :
  49 (upd H a o) { s with heap:=h',toks:=t' }:=I.un (Un.laid k hp (I.hok.fresh hp)) (I.hok.laid k hp rJ)
theorem Inv.write{x e:Addr}{o:HO}{t':Nat}(I:49 H s)(mu:Mut (H x))(he:e=x\/H e=some (.own x))(k:∀b u,b≠e->s.heap.get? b=some u->h'.get? b=some u)(Ak:∃u,h'.get? e=some u)
  (rJ:Yp X.prog X.w (upd H x o) h' x o):49 (upd H x o) { s with heap:=h',toks:=t' }:=I.un (Un.write mu he k Ak) (I.hok.write mu he k Ak rJ)
theorem Inv.pins_of(I:49 H s)(h:∀p∈ut,s.heap.get? p.1=some p.2/\H p.1=none/\p.1≠X.env.locals/\p.1∉X.fs/\∀v,p.2.data≠.cell v):Inv X ut σ H s:=
 ⟨I.ok,I.os,I.bare,I.base,I.loc,I.cell,I.free,I.freeC,fun p hp=>(fj.mp hp).elim (fun z=>I.pin p (fT _ z)) (h p),I.hok,I.len⟩
theorem JJ(hN:N.Nodup){x:Str}(a:N[i]?=some x)(b:N[j]?=some x):i=j:=by
 obtain⟨h1,e1⟩:=eY.mp a;obtain⟨h2,e2⟩:=eY.mp b;exact(i6 hN).mp (e1.trans e2.symm)
theorem jX{x:Str}{Q:Unit->70}(I:49 H s)(hN:X.N.Nodup)(hi:X.N[i]?=some x)(hx:Loc X.env.scope x)(r:ZL v u)
  (h:∀s',Inv X cQ (σ.set i (some v)) H s'->(∃a,Heap.SameBut a s.heap s'.heap/\(a=X.env.locals\/X.env.cells.lookup x=some a))->Q () s') (hf:X.fn x=true\/X.env.scope.names.lookup x=some .local:=by first|exact .inl rfl|exact .inr rfl|assumption):wpAny M A (storeName X.env x u) Q E s:=by
 obtain⟨m,hn,hl⟩:=id I.loc;have EY:(X.env.scope.kind==.class||(X.env.scope.kind==.module&&X.env.locals != X.env.globals))=false:=by rw[I.ok.kind];rfl
 have Mp:i<σ.length:=by rw[I.len];exact(eY.mp hi).1
 have cne:=I.cne;have ri:∀{a:Addr}{h':Heap},(∃o,s.heap.get? a=some o/\H a=none)->Heap.SameBut a s.heap h'->HOk X.prog X.w H h':=fun {a h'} ha hs b ob e=>by
  obtain⟨_,_,nV⟩:=ha;refine(I.hok b ob e).stay (fun c w' hc q=>(hs.2 c ?_).trans q) (fun _ q=>q) fun _ _ q=>q;rintro rfl;rcases hc with rfl|hc
  ·rw[nV] at e;cases e
  ·rw[nV] at hc;cases hc
 rcases hx with hk|hk
 ·refine wpAny_storeName_local hk hn (fun h' Dt hs=>?_) EY;obtain⟨oL,_,_,AL,_⟩:=id hn;refine h _ ⟨I.ok,I.os,I.bare,⟨fun b o e n hb hx=>?_,fun b o e n hb hx=>?_,I.base.free,fun b o e hx=>?_,I.base.tups,I.base.frzs,I.base.tbls⟩,⟨_,Dt,fun j y v' e1 e2 e3=>?_⟩,fun y c e=>?_,I.free,I.freeC,fun p hp=>?_,ri ⟨oL,AL,I.free⟩ hs,by simpa using I.len⟩ ⟨_,hs,.inl rfl⟩
  ·exact(hs.2 b (eQ (fF (eP e) I.ok.above))).trans (I.base.keep b o e n hb hx)
  ·obtain⟨sl,e1⟩:=I.base.slot b o e n hb hx;exact⟨sl,(hs.2 b (eQ (fF (eP e) I.ok.above))).trans e1⟩
  ·obtain⟨o',e1⟩:=I.base.there b o e hx;exact⟨o',(hs.2 b (eQ (fF (eP e) I.ok.above))).trans e1⟩
  ·by_cases hj:j=i
   ·subst hj;rw[hi] at e1;cases e1;rw[Ο Mp] at e2;cases e2;exact⟨u,r,.inl ⟨hk,by simp⟩⟩
   ·rw[List.getElem?_set_ne (eX hj)] at e2;obtain⟨u',r',q⟩:=hl j y v' e1 e2 e3;refine⟨u',r',?_⟩;rcases q with⟨k,e⟩|⟨k,c,e,z⟩
    ·refine .inl ⟨k,?_⟩;have:y≠x:=fun e=>hj (JJ hN e1 (e▸hi));simp[this,e]
    ·exact .inr ⟨k,c,e,z.sameBut hs (cne y c e)⟩
  ·obtain⟨w',z⟩:=I.cell y c e;exact⟨w',z.sameBut hs (cne y c e)⟩
  ·obtain⟨e,n,ne,nf,d⟩:=I.pin p hp;exact⟨(hs.2 p.1 ne).trans e,n,ne,nf,d⟩
 ·have wt:X.fn x=true:=by
   rcases hf with z|z
   ·exact z
   ·rw[z] at hk;cases hk
  obtain⟨c,hc⟩:=I.ok.has x (.inl hk);obtain⟨w',z⟩:=I.cell x c hc;refine wpAny_storeName_cell I.ok.kind hk hc z (fun h' Ad hs=>?_);obtain⟨oc,rG,FD⟩:=id z;refine h 80 ⟨I.ok,I.os,I.bare,⟨fun b o e n hb hx=>?_,fun b o e n hb hx=>?_,I.base.free,fun b o e hx=>?_,I.base.tups,I.base.frzs,I.base.tbls⟩,⟨m,hn.sameBut hs (eX (cne x c hc)),fun j y v' e1 e2 e3=>?_⟩,fun y c' e=>?_,I.free,I.freeC,fun p hp=>?_,ri ⟨oc,rG,I.freeC x c hc⟩ hs,by simpa using I.len⟩ ⟨c,hs,.inr hc⟩
  ·exact(hs.2 b (eQ (fF (eP e) (I.ok.cab x c wt hc)))).trans (I.base.keep b o e n hb hx)
  ·obtain⟨sl,e1⟩:=I.base.slot b o e n hb hx;exact⟨sl,(hs.2 b (eQ (fF (eP e) (I.ok.cab x c wt hc)))).trans e1⟩
  ·obtain⟨o',e1⟩:=I.base.there b o e hx;exact⟨o',(hs.2 b (eQ (fF (eP e) (I.ok.cab x c wt hc)))).trans e1⟩
  ·by_cases hj:j=i
   ·subst hj;rw[hi] at e1;cases e1;rw[Ο Mp] at e2;cases e2;exact⟨u,r,.inr ⟨.inl hk,c,hc,Ad⟩⟩
   ·rw[List.getElem?_set_ne (eX hj)] at e2;obtain⟨u',r',q⟩:=hl j y v' e1 e2 e3;refine⟨u',r',?_⟩;rcases q with q|⟨k,c',e,z'⟩
    ·exact .inl q
    ·refine .inr ⟨k,c',e,z'.sameBut hs ?_⟩;rintro rfl;exact hj (JJ hN e1 (I.ok.inj _ _ _ e hc▸hi))
  ·by_cases wK:c'=c
   ·subst wK;exact⟨_,Ad⟩
   ·obtain⟨w2,z2⟩:=I.cell y c' e;exact⟨w2,z2.sameBut hs wK⟩
  ·obtain⟨e,n,ne,nf,d⟩:=I.pin p hp;refine⟨(hs.2 p.1 ?_).trans e,n,ne,nf,d⟩;intro q;rw[q,rG] at e;have q':oc=p.2:=fc e;exact d w' (by rw[<- q'];exact FD)
theorem zI{x:Str}{Q:Unit->70}(I:49 H s)(hN:X.N.Nodup)(hi:X.N[i]?=some x)(hx:Loc X.env.scope x)(r:ZL v u)
  (h:∀s',Inv X cQ (σ.set i (some v)) H s'->Q () s') (hf:X.fn x=true\/X.env.scope.names.lookup x=some .local:=by first|exact .inl rfl|exact .inr rfl|assumption):wpAny M A (storeName X.env x u) Q E s:=
 jX I hN hi hx r (fun s' I' _=>h s' I') hf
theorem Inv.call'(I:49 H s)(ho:s'.os=s.os)(u:Un (frs X.stack) ch H H' s.heap s'.heap)(hok:HOk X.prog X.w H' s'.heap)(hg:AllBare s'.gens)
  (pR:∀b∈ch,(b∈X.ex\/X.s₀.heap.objs.size<=b)/\b≠X.env.locals/\(∀x c,X.env.cells.lookup x=some c->c≠b)/\∀p∈X.pn++cQ,p.1≠b):49 H' s':=by
 obtain⟨h',g',d',t',o'⟩:=s';have e:o'=s.os:=ho;subst e;exact I.call (g':=g') (t':=t') (d':=d') u hok hg pR
end
abbrev XK:=Value->Option Addr->Hp->Prop
abbrev St:=List (Option V)
abbrev VK:=V->Hp->Prop
abbrev TE:=St->Hp->VK->Prop
abbrev TT:=St->Hp->(Bool->Hp->Prop)->Prop
abbrev TA:=St->Hp->(List V->Hp->Prop)->Prop
structure vw where
 nx:St->Hp->Prop
 rt:VK
 bk:St->Hp->Prop:=fun _ _=>False
 ct:St->Hp->Prop:=fun _ _=>False
abbrev TS:=vw->St->Hp->Prop
inductive ZhE(X:Cx)(cQ:74)(σ:St)(Q:VK)(u:Value)(s':Shared):Prop
 |mk (v:V) (H':Hp) (h0:49 H' s') (h1:ZL v u) (h2:Q v H'):ZhE X cQ σ Q u s'
def EP(X:Cx)(cQ:74)(σ:St)(Q:VK)(u:Value)(s':Shared):Prop:=ZhE X cQ σ Q u s'
inductive ZgV(X:Cx)(cQ:74)(σ:St)(Q:Bool->Hp->Prop)(b:Bool)(s':Shared):Prop
 |mk (H':Hp) (h0:49 H' s') (h1:Q b H'):ZgV X cQ σ Q b s'
def TP(X:Cx)(cQ:74)(σ:St)(Q:Bool->Hp->Prop)(b:Bool)(s':Shared):Prop:=ZgV X cQ σ Q b s'
inductive Zhj(X:Cx)(cQ:74)(σ:St)(Q:List V->Hp->Prop)(us:71)(s':Shared):Prop
 |mk (vs:List V) (H':Hp) (h0:49 H' s') (h1:ZE vs us) (h2:Q vs H'):Zhj X cQ σ Q us s'
def AP(X:Cx)(cQ:74)(σ:St)(Q:List V->Hp->Prop)(us:71)(s':Shared):Prop:=Zhj X cQ σ Q us s'
def SP(X:Cx)(cQ:74)(D:vw)(f:Flow)(s':Shared):Prop:=
 match f with
 |.next=>∃σ' H',Inv X cQ σ' H' s'/\D.nx σ' H'
 |.brk=>∃σ' H',Inv X cQ σ' H' s'/\D.bk σ' H'
 |.cont=>∃σ' H',Inv X cQ σ' H' s'/\D.ct σ' H'
 |.ret u=>∃v σ' H',Inv X cQ σ' H' s'/\ZL v u/\D.rt v H'
def PE(X:Cx)(e:Expr)(t:TE):Prop:=
 ∀(cQ:74) (s:Shared) (σ:St) (H:Hp) (Q:VK),49 H s->t σ H Q->31 X.A (eval e X.env) (EP X cQ σ Q) X.xe s
def PT(X:Cx)(e:Expr)(t:TT):Prop:=
 ∀(cQ:74) (s:Shared) (σ:St) (H:Hp) (Q:Bool->Hp->Prop),49 H s->t σ H Q->31 X.A (isTrue e X.env (eval e X.env)) (TP X cQ σ Q) X.xe s
def PW(X:Cx)(e:Expr)(t:TT):Prop:=
 ∀(nW:Sem Value) (cQ:74) (s:Shared) (σ:St) (H:Hp) (Q:Bool->Hp->Prop),49 H s->t σ H Q->31 X.A (isTrue e X.env nW) (TP X cQ σ Q) X.xe s
def PW.pt{X:Cx}{t:TT}(h:PW X e t):PT X e t:=h _
def PA(X:Cx)(es:List Expr)(t:TA):Prop:=
 ∀(gT:Pos) (cQ:74) (s:Shared) (σ:St) (H:Hp) (Q:List V->Hp->Prop),49 H s->t σ H Q->31 X.A (spliced (backTo gT (starEach es X.env))) (AP X cQ σ Q) X.xe s
def PS(X:Cx)(st:Stmt)(t:TS):Prop:=
 ∀(cQ:74) (s:Shared) (σ:St) (H:Hp) (D:vw),49 H s->t D σ H->31 X.A (exec st X.env) (SP X cQ D) X.xe s
def PSs(X:Cx)(st:List Stmt)(t:TS):Prop:=
 ∀(cQ:74) (s:Shared) (σ:St) (H:Hp) (D:vw),49 H s->t D σ H->31 X.A (execs st X.env) (SP X cQ D) X.xe s
def thn{t:Sem α}{Q:α->70}(h:wpAny M A t Q E s)(hQ:∀a s,Q a s->Q' a s):wpAny M A t Q' E s:=iu h hQ fun _ _ x=>x
end L2
variable{σ τ:L2.St}{te tl tv:L2.TE}{X:L2.Cx}{tt:L2.TT}{uy:List (L2.TE×L2.TE)}{tb:L2.TS}{ta:L2.TA}
namespace L2
open PySem PySem.Spec PyProof.Rows
section
variable{X:Cx}
theorem bin{a b:Expr}{ta tb:TE}(ha:PE X a ta)(hb:PE X b tb){R:V->V->Hp->Prop}(I:49 H s)(h:ta σ H fun x H1=>tb σ H1 fun y H2=>R x y H2)
  {Q:α->70}{f:Value->Value->Sem α}
  (hf:∀v u s2 x y H2,49 H2 s2->ZL x v->ZL y u->R x y H2->31 X.A (f v u) Q X.xe s2) :
  31 X.A (eval a X.env) (fun v s₁=>31 X.A (eval b X.env) (fun u s₂=>31 X.A (f v u) Q X.xe s₂) X.xe s₁) X.xe s:=by
 refine thn (ha cQ s σ H _ I h) fun v s1 ⟨x,H1,I1,r1,q1⟩=>?_;refine thn (hb cQ s1 σ H1 _ I1 q1) fun u s2 ⟨y,H2,I2,r2,q2⟩=>?_;exact hf v u s2 x y H2 I2 r1 r2 q2
inductive Zhq(i:Nat)(σ:St)(H:Hp)(Q:VK):Prop
 |mk (v:V) (h:σ[i]?=some (some v)) (k:Q v H):Zhq i σ H Q
def kc(i:Nat):TE:=fun σ H Q=>Zhq i σ H Q
def tC(v:V):TE:=fun _ H Q=>Q v H
theorem Zgv{x:Str}(hN:X.N[i]?=some x)(hv:Vis X.env.scope x)(hd:(x==("__debug__" : Str))=false:=by left)(pQ:(x==("__classdict__" : Str))=false:=by left):PE X (.Name x gT) (kc i):=by
 intro cQ s σ H Q I h;obtain⟨v,e,h⟩:=h;obtain⟨m,hn,hl⟩:=I.loc;obtain⟨u,r,l⟩:=hl i x v hN e hv;have nE:EP X cQ σ Q u s:=⟨v,H,I,r,h⟩;rcases l with⟨hk,hm⟩|⟨hk,c,hc,nX⟩
 ·exact wpAny_Name (wpAny_loadName_local I.ok.kind hk hn hm nE) hd
 ·rcases hk with hk|hk
  ·exact wpAny_Name (wpAny_loadName_cell I.ok.kind hk hc nX nE) hd
  ·exact wpAny_Name (wpAny_loadName_free I.ok.kind hk hc nX nE pQ) hd
theorem Zi{i j gT}:PE X (.Constant (.int i) j gT) (tC (.int i)):=fun _ _ _ H _ I h=>wpAny_Constant_int ⟨.int i,H,I.tok _,⟨_,rfl⟩,h⟩
theorem YL{b j gT}:PE X (.Constant (.bool b) j gT) (tC (.bl b)):=fun _ _ _ H _ I h=>Constant_bool ⟨.bl b,H,I,rfl,h⟩
theorem Zl{x j gT}:PE X (.Constant (.str x) j gT) (tC (.str x)):=fun _ _ _ H _ I h=>Calls.Constant_str ⟨.str x,H,I.tok _,⟨_,rfl⟩,h⟩
def Gl(X:Cx)(x:Str):Prop:=X.env.kindOf x=some .globalImplicit
theorem qW{x:Str}(I:49 H s)(hg:Gl X x)(hm:X.mg x=some u)(h:Q u s)
  (hd:(x==("__debug__" : Str))=false:=by left):31 X.A (eval (.Name x gT) X.env) Q E s:=
 Calls.Name_function_global I.ok.kind hg (Calls.loadGlobal_global (by rw[I.ok.glob];exact I.mod.glob.keeps I.bk) hm h) hd
theorem Ue{x:Str}(I:49 H s)(hg:Gl X x)(hm:X.mg x=none)(hv:bootBuiltins x=some u)(h:Q u s)
  (hn:x ≠ "__name__" := by left) (hd:(x==("__debug__" : Str))=false:=by left):31 X.A (eval (.Name x gT) X.env) Q E s:=by
 obtain⟨mb,h1,h2⟩:=I.mod.blt;exact Calls.Name_function_global I.ok.kind hg (Calls.loadGlobal_builtin (by rw[I.ok.glob];exact I.mod.glob.keeps I.bk) hm (by rw[I.ok.blt];exact h1.keeps I.bk) ((h2 x hn).trans hv) h) hd
theorem ZeM{x:Str}(hg:Gl X x)(hm:X.mg x=some u)(r:ZL v u)(hd:(x==("__debug__" : Str))=false:=by left):PE X (.Name x gT) (tC v):=
 fun _ _ _ H _ I h=>qW I hg hm ⟨v,H,I,r,h⟩ hd
theorem Wm{x:Str}(hg:Gl X x)(hm:X.mg x=none)(hv:bootBuiltins x=some u)(r:ZL v u)(hn:x ≠ "__name__" := by left)(hd:(x==("__debug__" : Str))=false:=by left):PE X (.Name x gT) (tC v):=
 fun _ _ _ H _ I h=>Ue I hg hm hv ⟨v,H,I,r,h⟩ hn hd
variable{a b:Expr}{ta tb:TE}{gT:Pos}
def PC(X:Cx)(op:CmpOp)(a b:Expr)(t:TE):Prop:=
 ∀(cQ:74) (s:Shared) (σ:St) (H:Hp) (Q:VK),49 H s->t σ H Q ->
  31 X.A (eval a X.env) (fun v s₁=>31 X.A (eval b X.env) (fun u s₂=>31 X.A (compareOp op v u) (EP X cQ σ Q) X.xe s₂) X.xe s₁) X.xe s
theorem Zcy(b:Expr)(h:op≠.In)(h2:op≠.NotIn):behindInMarks op b=false:=by
 have e1:(op==CmpOp.In)=false:=by cases op<;>first|rfl|exact nu rfl h
 have e2:(op==CmpOp.NotIn)=false:=by cases op<;>first|rfl|exact nu rfl h2
 cases b<;>simp[behindInMarks,e1,e2]
inductive Zb3(x:V)(H:Hp)(Q:Bool->Hp->Prop):Prop
 |mk (c:Bool) (h:x=.bl c) (k:Q c H):Zb3 x H Q
def tB(t:TE):TT:=fun σ H Q=>t σ H fun x H1=>Zb3 x H1 Q
theorem Zge{t:TE}(h:PC X op a b t)(h1:behindInMarks op b=false:=by first|exact Zcy _ 48 48|rfl):PT X (.Compare a [op] [b] gT) (tB t):=by
 intro cQ s σ H Q I hw;refine wpAny_isTrue_Compare1 (thn (h cQ s σ H _ I hw) fun v s1 h1=>thn h1 fun u s2 h2=>thn h2 fun c s3 ⟨x,H1,I1,r1,q1⟩=>?_) h1;obtain⟨d,rfl,q⟩:=q1;cases r1;exact gC ⟨H1,I1,q⟩
theorem XR{t:TE}(h:PE X e t)(he:∀nW,isTrue e X.env nW=(do let v <- nW;standAt e.pos;holding [v] (truthy v)):=by intro _;rfl):PT X e (tB t):=by
 intro cQ s σ H Q I hw;refine isTrue_plain (thn (h cQ s σ H _ I hw) fun v s1 ⟨x,H1,I1,r1,q1⟩=>?_) (he _);obtain⟨d,rfl,q⟩:=q1;cases r1;exact gC ⟨H1,I1,q⟩
variable{tA BI:TT}{XB:List Expr}
def Zbm(t u:TT):TT:=fun σ H Q=>t σ H fun c H1=>if c=true then u σ H1 Q else Q false H1
def tOr(t u:TT):TT:=fun σ H Q=>t σ H fun c H1=>if c=true then Q true H1 else u σ H1 Q
def tNot(t:TT):TT:=fun σ H Q=>t σ H fun c H1=>Q (!c) H1
theorem yK(ha:PT X a tA):PW X (.BoolOp .And [a] gT) tA:=by
 intro wh cQ s σ H Q I h;refine isTrue_and (thn (ha cQ s σ H Q I h) fun c s1 e=>?_);cases c with
 |true=>exact isTrue_and_nil e
 |false=>exact e
theorem Vk(ha:PT X a tA):PW X (.BoolOp .Or [a] gT) tA:=by
 intro wh cQ s σ H Q I h;refine isTrue_or (thn (ha cQ s σ H Q I h) fun c s1 e=>?_);cases c with
 |false=>exact isTrue_or_nil e
 |true=>exact e
theorem kf(ha:PT X a tA)(hb:PW X (.BoolOp .And (b::XB) gT) BI):PW X (.BoolOp .And (a::b::XB) gT) (Zbm tA BI):=by
 intro wh cQ s σ H Q I h;refine isTrue_and (thn (ha cQ s σ H _ I h) fun c s1 ⟨H1,I1,q1⟩=>?_);cases c with
 |true=>exact hb wh cQ s1 σ H1 Q I1 q1
 |false=>exact⟨H1,I1,q1⟩
theorem UD(ha:PT X a tA)(hb:PW X (.BoolOp .Or (b::XB) gT) BI):PW X (.BoolOp .Or (a::b::XB) gT) (tOr tA BI):=by
 intro wh cQ s σ H Q I h;refine isTrue_or (thn (ha cQ s σ H _ I h) fun c s1 ⟨H1,I1,q1⟩=>?_);cases c with
 |true=>exact⟨H1,I1,q1⟩
 |false=>exact hb wh cQ s1 σ H1 Q I1 q1
theorem Xj(ha:PT X a tA):PT X (.UnaryOp .Not a gT) (tNot tA):=by
 intro cQ s σ H Q I h;exact isTrue_not (thn (ha cQ s σ H (fun c H1=>Q (!c) H1) I h) fun c s1 ⟨H1,I1,q1⟩=>⟨H1,I1,q1⟩)
def ZcE(ta tb:TE):TE:=fun σ H Q=>ta σ H fun x H1=>∃c,x=.bl c/\if c=true then tb σ H1 Q else Q (.bl false) H1
def Zhy(ta tb:TE):TE:=fun σ H Q=>ta σ H fun x H1=>∃c,x=.bl c/\if c=true then Q (.bl true) H1 else tb σ H1 Q
def Zhm(ta:TE):TE:=fun σ H Q=>ta σ H fun x H1=>∃c,x=.bl c/\Q (.bl (!c)) H1
theorem YN{op}{t:TE}(h:PE X a t):PE X (.BoolOp op [a] gT) t:=fun cQ s σ H Q I hw=>BoolOp_one (h cQ s σ H Q I hw)
theorem Y9(ha:PE X a ta)(hb:PE X (.BoolOp .And (b::XB) gT) tb):PE X (.BoolOp .And (a::b::XB) gT) (ZcE ta tb):=by
 intro cQ s σ H Q I h;refine BoolOp_and (thn (ha cQ s σ H _ I h) fun v s1 ⟨x,H1,I1,r1,q1⟩=>?_);obtain⟨c,rfl,q1⟩:=q1;cases r1;refine gC ?_;cases c with
 |true=>exact hb cQ s1 σ H1 Q I1 q1
 |false=>exact⟨.bl false,H1,I1,rfl,q1⟩
theorem jA(ha:PE X a ta)(hb:PE X (.BoolOp .Or (b::XB) gT) tb):PE X (.BoolOp .Or (a::b::XB) gT) (Zhy ta tb):=by
 intro cQ s σ H Q I h;refine BoolOp_or (thn (ha cQ s σ H _ I h) fun v s1 ⟨x,H1,I1,r1,q1⟩=>?_);obtain⟨c,rfl,q1⟩:=q1;cases r1;refine gC ?_;cases c with
 |false=>exact hb cQ s1 σ H1 Q I1 q1
 |true=>exact⟨.bl true,H1,I1,rfl,q1⟩
theorem Zc9(ha:PE X a ta):PE X (.UnaryOp .Not a gT) (Zhm ta):=by
 intro cQ s σ H Q I h;refine UnaryOp_ (thn (ha cQ s σ H _ I h) fun v s1 ⟨x,H1,I1,r1,q1⟩=>?_);obtain⟨c,rfl,q1⟩:=q1;cases r1;exact not_of (gC ⟨.bl (!c),H1,I1,rfl,q1⟩)
def tIf(t:TT)(ta tb:TE):TE:=fun σ H Q=>t σ H fun c H1=>if c=true then ta σ H1 Q else tb σ H1 Q
theorem Kg{c:Expr}(hc:PT X c tA)(ha:PE X a ta)(hb:PE X b tb):PE X (.IfExp c a b gT) (tIf tA ta tb):=by
 intro cQ s σ H Q I h;refine wpAny_IfExp (thn (hc cQ s σ H _ I h) fun d s1 ⟨H1,I1,q1⟩=>?_);cases d with
 |true=>exact ha cQ s1 σ H1 Q I1 q1
 |false=>exact hb cQ s1 σ H1 Q I1 q1
end
def SqL(K:W.Frag)(H:Hp)(a:Addr)(xs:List V):Prop:=
 Rd H a (.lst xs) \/
  ∃(o:Obj) (its:Array Value) (n:Nat),K.lookup a=some o/\o.cls=.type "list" /\ o.dict=none/\o.data=.seq its n/\its.size<=sizeLine/\ZE xs its.toList
def SqT(K:W.Frag)(H:Hp)(a:Addr)(xs:List V):Prop:=
 Rd H a (.tup xs) \/
  ∃(o:Obj) (its:Array Value) (n:Nat),K.lookup a=some o/\o.cls=.type "tuple" /\ o.data=.seq its n/\its.size<=sizeLine/\ZE xs its.toList
def absV:Value->Option V
 |.none=>some .non
 |.bool b=>some (.bl b)
 |.int i _=>some (.int i)
 |.str x _=>some (.str x)
 |.bytes b _=>some (.byt b)
 |.float b _=>some (.flt b)
 |.ref a=>some (.ref a)
 |.type n=>some (.ty n)
 |_=>none
def ZL.abs{x:V}(r:ZL x u):absV u=some x:=by
 cases x with
 |non=>cases r;rfl
 |bl _=>cases r;rfl
 |int _=>obtain⟨t,rfl⟩:=r;rfl
 |str _=>obtain⟨t,rfl⟩:=r;rfl
 |byt _=>obtain⟨t,rfl⟩:=r;rfl
 |flt _=>obtain⟨t,rfl⟩:=r;rfl
 |ref _=>cases r;rfl
 |ty _=>cases r;rfl
def ZL.inj{x y:V}{u:Value}(r:ZL x u)(q:ZL y u):x=y:=fc (r.abs.symm.trans q.abs)
def ZE.inj:∀{xs ys:List V}{us:71},ZE xs us->ZE ys us->xs=ys
 |_,_,_,.nil,.nil=>rfl
 |_,_,_,.cons r t,.cons r' t'=>by rw[r.inj r',ZE.inj t t']
section
variable{xs ys:List V}
theorem SqL.of(h:H a=some (.lst xs)):SqL K H a xs:=.inl (.inl h)
def mZ:=@SqL.of
theorem SqT.of(h:H a=some (.tup xs)):SqT K H a xs:=.inl (.inl h)
def m6:=@SqT.of
theorem Inv.list(I:49 H s)(h:SqL X.K H a xs):∃its:71,ZE xs its/\PlainL s.heap a its.toArray/\xs.length<=sizeLine:=by
 rcases h with h|⟨o,its,n,hk,hc,hd,hs,hz,r⟩
 ·obtain⟨z,its,n,r,e⟩:=h.ok I.hok;exact⟨its,r,⟨_,n,e,rfl,rfl,rfl⟩,z⟩
 ·refine⟨its.toList,r,⟨o,n,I.kIn a o hk,hc,hd,by simpa using hs⟩,?_⟩;have e:=r.length;simp only[gn] at e;lia
theorem Inv.tuple(I:49 H s)(h:SqT X.K H a xs):∃its:71,ZE xs its/\IsTup s.heap a its.toArray/\xs.length<=sizeLine:=by
 rcases h with h|⟨o,its,n,hk,hc,hs,hz,r⟩
 ·obtain⟨z,its,r,p⟩:=h.ok I.hok;exact⟨its,r,p,z⟩
 ·refine⟨its.toList,r,⟨o,I.kIn a o hk,hc,n,by simpa using hs⟩,?_⟩;have e:=r.length;simp only[gn] at e;lia
theorem Inv.list_inj(I:49 H s)(h:SqL X.K H a xs)(h':SqL X.K H a ys):xs=ys:=by
 obtain⟨its,r,⟨o,n,e,_,_,d⟩,_⟩:=I.list h;obtain⟨its',r',⟨o',n',e',_,_,d'⟩,_⟩:=I.list h';rw[e] at e';cases e';rw[d] at d';injection d' with d1 _;have:its=its':=by simpa using fb Array.toList d1
 subst this;exact r.inj r'
theorem Inv.tuple_inj(I:49 H s)(h:SqT X.K H a xs)(h':SqT X.K H a ys):xs=ys:=by
 obtain⟨its,r,⟨o,e,_,n,d⟩,_⟩:=I.tuple h;obtain⟨its',r',⟨o',e',_,n',d'⟩,_⟩:=I.tuple h';rw[e] at e';cases e';rw[d] at d';injection d' with d1 _;have:its=its':=by simpa using fb Array.toList d1
 subst this;exact r.inj r'
end
abbrev Cx.wish(X:Cx)(E:Value->70):Cx:={ X with xe:=E }
abbrev Cx.nox(X:Cx):Cx:=X.wish fun _ _=>False
def Cx.Ok.wish{X:Cx}(ok:X.Ok)(E:Value->70):(X.wish E).Ok:=
 ⟨ok.mod,ok.kind,ok.glob,ok.blt,ok.above,ok.inj,ok.has,ok.cab,ok.hd,ok.frames,ok.stk,ok.exf,ok.bs,ok.bsz,ok.noex,ok.exfs,ok.funs,ok.frf⟩
def Cx.Ok.unwish(ok:(X.wish E).Ok):X.Ok:=
 ⟨ok.mod,ok.kind,ok.glob,ok.blt,ok.above,ok.inj,ok.has,ok.cab,ok.hd,ok.frames,ok.stk,ok.exf,ok.bs,ok.bsz,ok.noex,ok.exfs,ok.funs,ok.frf⟩
def Inv.wish(I:49 H s)(E:Value->70):Inv (X.wish E) cQ σ H s:=⟨I.ok.wish E,I.os,I.bare,I.base,I.loc,I.cell,I.free,I.freeC,I.pin,I.hok,I.len⟩
def Inv.unwish(I:Inv (X.wish E) cQ σ H s):49 H s:=⟨I.ok.unwish,I.os,I.bare,I.base,I.loc,I.cell,I.free,I.freeC,I.pin,I.hok,I.len⟩
def SP.unwish{D:vw}{f:Flow}{s':Shared}(h:SP (X.wish E) cQ D f s'):SP X cQ D f s':=by
 cases f with
 |next=>obtain⟨σ',H',I,q⟩:=h;exact⟨σ',H',I.unwish,q⟩
 |brk=>obtain⟨σ',H',I,q⟩:=h;exact⟨σ',H',I.unwish,q⟩
 |cont=>obtain⟨σ',H',I,q⟩:=h;exact⟨σ',H',I.unwish,q⟩
 |ret u=>obtain⟨v,σ',H',I,r,q⟩:=h;exact⟨v,σ',H',I.unwish,r,q⟩
def PSs.nox{st:List Stmt}{t:TS}(h:PSs X.nox st t):PSs X st t:=fun cQ s σ H D I hw=>
 iu (h cQ s σ H D (I.wish _) hw) (fun _ _ q=>q.unwish) fun _ _ z=>False.elim z
section
variable{X:Cx}{st:Stmt}{XB:List Stmt}{t u:TS}{e:Expr}{te:TE}{gT:Pos}
def Zal:TS:=fun D σ H=>D.nx σ H
def xZ(t u:TS):TS:=fun D σ H=>t { D with nx:=u D } σ H
theorem Zx:PSs X [] Zal:=fun _ _ σ H _ I h=>wpAny_execs_nil ⟨σ,H,I,h⟩
theorem Zd(h1:PS X st t)(h2:PSs X XB u):PSs X (st::XB) (xZ t u):=by
 intro cQ s σ H D I h;refine wpAny_execs_cons (thn (h1 cQ s σ H { D with nx:=u D } I h) fun f s1 q=>?_);cases f with
 |next=>
  obtain⟨σ',H',I',q⟩:=q;exact h2 cQ s1 σ' H' D I' q
 |ret v=>exact q
 |brk=>exact q
 |cont=>exact q
theorem Zg(h1:PS X st t):PSs X [st] t:=by
 intro cQ s σ H D I h;refine wpAny_execs_cons (thn (h1 cQ s σ H D I h) fun f s1 q=>?_);cases f with
 |next=>exact wpAny_execs_nil q
 |ret v=>exact q
 |brk=>exact q
 |cont=>exact q
theorem Inv.quiet(I:49 H s):interactive X.env=false:=by simp[interactive,I.ok.kind]
def ZhA(te:TE):TS:=fun D σ H=>te σ H fun _ H1=>D.nx σ H1
theorem YG(he:PE X e te)(hs:swapsWith e none gT.line X.env=pure false:=by rfl):PS X (.Expr e gT) (ZhA te):=by
 intro cQ s σ H D I h;exact wpAny_Expr_any (thn (he cQ s σ H _ I h) fun v s1 ⟨x,H1,I1,r1,q1⟩=>⟨σ,H1,I1,q1⟩) I.quiet hs
def tRet(te:TE):TS:=fun D σ H=>te σ H D.rt
theorem Zm(he:PE X e te):PS X (.Return (some e) gT) (tRet te):=by
 intro cQ s σ H D I h;exact wpAny_Return_some (thn (he cQ s σ H _ I h) fun v s1 ⟨x,H1,I1,r1,q1⟩=>⟨x,σ,H1,I1,r1,q1⟩)
def k4(c:TT)(t u:TS):TS:=fun D σ H=>c σ H fun b H1=>if b=true then t D σ H1 else u D σ H1
theorem ZQ{c:Expr}{a b:List Stmt}{tc:TT}(hc:PT X c tc)(ha:PSs X a t)(hb:PSs X b u):PS X (.If c a b gT) (k4 tc t u):=by
 intro cQ s σ H D I h;refine wpAny_If (thn (hc cQ s σ H _ I h) fun d s1 ⟨H1,I1,q1⟩=>?_);cases d with
 |true=>exact ha cQ s1 σ H1 D I1 q1
 |false=>exact hb cQ s1 σ H1 D I1 q1
def ZfO:TS:=fun _ _ _=>False
theorem Ky:PS X st ZfO:=fun _ _ _ _ _ _ h=>h.elim
end
abbrev TG:=V->St->Hp->(St->Hp->Prop)->Prop
abbrev TGs:=List V->St->Hp->(St->Hp->Prop)->Prop
def PG(X:Cx)(wp:Expr)(t:TG):Prop:=
 ∀(cQ:74) (s:Shared) (σ:St) (H:Hp) (v:V) (u:Value) (Q:St->Hp->Prop),49 H s->ZL v u->t v σ H Q ->
  31 X.A (assign wp X.env u) (fun _ s'=>∃σ' H',Inv X cQ σ' H' s'/\Q σ' H') X.xe s
def PGs(X:Cx)(ts:List Expr)(t:TGs):Prop:=
 ∀(cQ:74) (s:Shared) (σ:St) (H:Hp) (vs:List V) (us:71) (Q:St->Hp->Prop),49 H s->ZE vs us->t vs σ H Q ->
  31 X.A (assignInOrder ((assignEach ts X.env).map (·.2)) us) (fun _ s'=>∃σ' H',Inv X cQ σ' H' s'/\Q σ' H') X.xe s
abbrev TIp:=V->V->Hp->VK->Prop
def PIp(X:Cx)(op:Operator)(t:TIp):Prop:=
 ∀(cQ:74) (s:Shared) (σ:St) (H:Hp) (x y:V) (v u:Value) (Q:VK),49 H s->ZL x v->ZL y u->t x y H Q ->
  31 X.A (inplaceOp op v u) (EP X cQ σ Q) X.xe s
section
variable{X:Cx}{gT:Pos}
def WA(i:Nat):TG:=fun v σ H Q=>Q (σ.set i (some v)) H
theorem Zz{x:Str}(hN:X.N.Nodup)(hi:X.N[i]?=some x)(hx:Loc X.env.scope x)(hf:X.fn x=true\/X.env.scope.names.lookup x=some .local:=by first|exact .inl rfl|exact .inr rfl|assumption):PG X (.Name x gT) (WA i):=by
 intro cQ s σ H v u Q I r h;exact wpAny_assign_Name (zI I hN hi hx r (fun s' I'=>⟨_,H,I',h⟩) hf)
def gNil:TGs:=fun vs σ H Q=>vs=[]/\Q σ H
def Zg5(t:TG)(u:TGs):TGs:=fun vs σ H Q=>∃v r,vs=v::r/\t v σ H fun σ' H'=>u r σ' H' Q
theorem qa:PGs X [] gNil:=by
 intro cQ s σ H vs us Q I r h;obtain⟨e,h⟩:=h;subst e;cases r;exact assignInOrder_nil ⟨σ,H,I,h⟩
theorem Xe{es:List Expr}{t:TG}{u:TGs}(h1:PG X e t)(h2:PGs X es u)
  (hs:(assignEach (e::es) X.env).map (·.2)=assign e X.env::(assignEach es X.env).map (·.2):=by rfl):PGs X (e::es) (Zg5 t u):=by
 intro cQ s σ H vs us Q I r h;obtain⟨v,vr,e1,h⟩:=h;subst e1;cases r with
 |cons r rr=>
  rw[hs];refine assignInOrder_cons (thn (h1 cQ s σ H _ _ _ I r h) fun _ s1 ⟨σ1,H1,I1,q1⟩=>?_);exact h2 cQ s1 σ1 H1 _ _ Q I1 rr q1
def Zhw(K:W.Frag)(n:Nat)(t:TGs):TG:=fun v σ H Q=>∃a xs,v=.ref a/\SqT K H a xs/\xs.length=n/\t xs σ H Q
theorem Zgz{es:List Expr}{k:Nat}{t:TGs}(hc:X.calm=true)(h:PGs X es t)
  (hn:(assignEach es X.env).length=n:=by rfl) (nB:(assignEach es X.env).findIdx? (·.1)=none:=by rfl):PG X (.Tuple es k gT) (Zhw X.K n t):=by
 intro cQ s σ H v u Q I r hw;obtain⟨a,xs,e1,hq,hl,hw⟩:=hw;subst e1;cases r;obtain⟨its,rv,ht,hz⟩:=I.tuple hq;refine assign_Tuple_tuple (I.ok.hd hc) ht (by simp[hn,<- hl,rv.length]) nB fun h' hx=>?_;have I1:49 H 80:=I.kept (t':=s.toks) fun b o e=>hx b o (eQ (eP e)) e;exact h cQ _ σ H xs _ Q I1 (by simpa using rv) hw
def Zeh(te:TE)(g:TG):TS:=fun D σ H=>te σ H fun x H1=>g x σ H1 D.nx
theorem Zgo{g:TG}(he:PE X e te)(hg:PG X tg g)(hs:swapsWithSole [tg] e gT.line X.env=pure false:=by rfl)(hw:swappedStores [tg] e X.env=pure none:=by rfl)
  (h1:(assignEach [tg] X.env).map (·.2)=[assign tg X.env]:=by rfl):PS X (.Assign [tg] e gT) (Zeh te g):=by
 intro cQ s σ H D I h;refine wpAny_Assign_stores (thn (he cQ s σ H _ I h) fun v s1 ⟨x,H1,I1,r1,q1⟩=>?_) hs hw;rw[h1];exact thn (hg cQ s1 σ H1 x v _ I1 r1 q1) fun _ s2 q=>q
theorem Zu{i:Nat}{x:Str}{e:Expr}{te:TE}{nU:Pos}(hN:X.N.Nodup)(hi:X.N[i]?=some x)(hx:Loc X.env.scope x)(he:PE X e te)(hs:swapsWith e (some (.Name x nU)) gT.line X.env=pure false:=by rfl)(hf:X.fn x=true\/X.env.scope.names.lookup x=some .local:=by first|exact .inl rfl|exact .inr rfl|assumption) :
  PS X (.Assign [.Name x nU] e gT) (Zeh te (WA i)):=by
 intro cQ s σ H D I h;refine wpAny_Assign_Name (thn (he cQ s σ H _ I h) fun v s1 ⟨y,H1,I1,r1,q1⟩=>?_) hs;exact zI I1 hN hi hx r1 (fun s2 I2=>⟨_,H1,I2,q1⟩) hf
def tAug(i:Nat)(te:TE)(ti:TIp):TS:=fun D σ H=>∃x,σ[i]?=some (some x)/\te σ H fun y H1=>ti x y H1 fun z H2=>D.nx (σ.set i (some z)) H2
theorem ZfG{x:Str}{op:Operator}{ti:TIp}(hN:X.N.Nodup)(hi:X.N[i]?=some x)(hx:Loc X.env.scope x)(he:PE X e te)(ho:PIp X op ti)(hf:X.fn x=true\/X.env.scope.names.lookup x=some .local:=by first|exact .inl rfl|exact .inr rfl|assumption) :
  PS X (.AugAssign (.Name x nU) op e gT) (tAug i te ti):=by
 intro cQ s σ H D I h;obtain⟨v,e1,h⟩:=h;obtain⟨m,hn,hl⟩:=I.loc;have TF:Vis X.env.scope x:=by rcases hx with k|k;exact .inl k;exact .inr (.inl k)
 obtain⟨u,r,l⟩:=hl i x v hi e1 TF;refine wpAny_AugAssign_Name ?_;have go:31 X.A (eval e X.env) (fun w s₂=>31 X.A (inplaceOp op u w) (fun r s₃=>31 X.A (storeName X.env x r) (fun _=>SP X cQ D .next) X.xe s₃) X.xe s₂) X.xe s:=by
  refine thn (he cQ s σ H _ I h) fun w s1 ⟨y,H1,I1,r1,q1⟩=>?_;refine thn (ho cQ s1 σ H1 v y u w _ I1 r r1 q1) fun z s2 ⟨zv,H2,I2,r2,q2⟩=>?_;exact zI I2 hN hi hx r2 (fun s3 I3=>⟨_,H2,I3,q2⟩) hf
 rcases l with⟨hk,hm⟩|⟨hk,c,hc,nX⟩
 ·exact wpAny_loadName_local I.ok.kind hk hn hm go
 ·rcases hk with hk|hk
  ·exact wpAny_loadName_cell I.ok.kind hk hc nX go
  ·rcases hx with k|k
   ·have:X.env.scope.names.lookup x=some .free:=hk;rw[k] at this;cases this
   ·have:X.env.scope.names.lookup x=some .free:=hk;rw[k] at this;cases this
def ipI(f:Int->Int->Int):TIp:=fun x y H Q=>∃i j,x=.int i/\y=.int j/\Q (.int (f i j)) H
theorem Zgq:PIp X .Sub (ipI fun i j=>i-j):=by
 intro cQ s σ H x y v u Q I r1 r2 h;obtain⟨i,j,e1,e2,q⟩:=h;subst e1;subst e2;obtain⟨t,rfl⟩:=r1;obtain⟨t',rfl⟩:=r2;exact isub_int ⟨.int _,H,I.tok _,⟨_,rfl⟩,q⟩
end
def ZgP(c:TT)(tb:TS):TS:=fun D σ H=>∃W:Nat->St->Hp->Prop,(∃m,W m σ H)/\∀m σ H,W m σ H ->
 c σ H fun b H1=>if b=true then ∃N:St->Hp->Prop,(∀σ' H',N σ' H'->∃m',m'<m/\W m' σ' H')/\tb { D with nx:=N,ct:=N,bk:=D.nx } σ H1 else D.nx σ H1
def zk{c:Expr}{tc:TT}(hp:PassesOwn (model X.prog X.w) X.A X.env X.xe)(hc:PT X c tc)(hb:PSs X body tb):PS X (.While c body [] gT) (ZgP tc tb):=by
 intro cQ s σ H D I h;obtain⟨W,⟨m0,w0⟩,se⟩:=h;refine wpAny_While (codeAny_whileLoop (fun n s'=>∃σ' H',Inv X cQ σ' H' s'/\W n σ' H') ?_ m0 ⟨σ,H,I,w0⟩);rintro n s1 ⟨σ1,H1,I1,w1⟩;refine iL hp (thn (hc cQ s1 σ1 H1 _ I1 (se n σ1 H1 w1)) fun b s2 ⟨H2,I2,q2⟩=>?_);cases b with
 |true=>
  obtain⟨N,hN,q2⟩:=q2;rw[nt rfl];refine iL hp (thn (hb cQ s2 σ1 H2 _ I2 q2) fun f s3 q3=>?_);cases f with
  |next=>
   obtain⟨σ3,H3,I3,n3⟩:=q3;obtain⟨m',hm,w3⟩:=hN σ3 H3 n3;exact⟨m',hm,σ3,H3,I3,w3⟩
  |cont=>
   obtain⟨σ3,H3,I3,n3⟩:=q3;obtain⟨m',hm,w3⟩:=hN σ3 H3 n3;exact⟨m',hm,σ3,H3,I3,w3⟩
  |brk=>exact q3
  |ret v=>exact q3
 |false=>
  rw[nn fB];exact wpAny_execs_nil ⟨σ1,H2,I2,q2⟩
structure It where
 go:Nat->Hp->Prop
 yld:Nat->Hp->V->Hp->Prop
 stop:Nat->Hp->Prop
def qd(X:Cx)(cQ:74)(H:Hp)(b:Addr):Prop:=
 H b=none/\b≠X.env.locals/\b∉X.fs/\(b∈X.ex\/X.s₀.heap.objs.size<=b)/\(∀x c,X.env.cells.lookup x=some c->c≠b)/\∀p∈X.pn++cQ,p.1≠b
def Inv.fpOk{b:Addr}(I:49 H s)(hb:s.heap.objs.size<=b)(hn:H' b=none):qd X cQ H' b:=by
 refine⟨hn,fM (fF I.lt hb),I.nofs hb,.inr (eW I.sz hb),fun x c e z=>?_,fun p hp z=>?_⟩
 ·obtain⟨v,q⟩:=I.cell x c e;exact nu (fF q.lt (by rw[z];exact hb)) (gS _)
 ·exact nu (fF (eP (I.pin p hp).1) (by rw[z];exact hb)) (gS _)
structure J9(P:Program)(w:World)(K:W.Frag)(tg:Expr)(J:It)(fp:List Addr)(it:Addr)(tn:Nat->Heap->Prop):Prop where
 mem:it∈fp
 obj:∀i h,tn i h->∀b∈fp,∃o,h.get? b=some o/\∀v,o.data≠.cell v
 keep:∀i h h',tn i h->(∀b∈fp,∀o,h.get? b=some o->h'.get? b=some o)->tn i h'
 item:∀(X:Cx),X.prog=P->X.w=w->X.K=K->X.calm=true->∀(i:Nat) (cQ:74) (s:Shared) (σ:St) (H:Hp) (E:Value->70),49 H s->(∀b∈fp,qd X cQ H b)->tn i s.heap->J.go i H ->
  wpAny (model P w) X.A (pyNext (.ref it)) (fun r s1=>∃u,r=some u /\ wpAny (model P w) X.A (letOwnedTupleGo tg (.ref it) u) (fun _ s2=>∃x H',49 H' s2/\ZL x u/\J.yld i H x H'/\tn (i+1) s2.heap/\∀b∈fp,H' b=none) E s1) E s
 done:∀(X:Cx),X.prog=P->X.w=w->X.K=K->X.calm=true->∀(i:Nat) (cQ:74) (s:Shared) (σ:St) (H:Hp) (E:Value->70),49 H s->(∀b∈fp,qd X cQ H b)->tn i s.heap->J.stop i H ->
  wpAny (model P w) X.A (pyNext (.ref it)) (fun r s1=>r=none/\49 H s1) E s
 self:∀(A:Around) (i:Nat) (s:Shared) (Q:Value->70) (E:Value->70),tn i s.heap->Q (.ref it) s->wpAny (model P w) A (pyIter (.ref it)) Q E s
abbrev TI:=St->Hp->(It->Hp->Prop)->Prop
def PIE(X:Cx)(cQ:74)(σ:St)(tg:Expr)(R:It->Hp->Prop)(FI:Value)(s2:Shared):Prop:=
 ∃(it:Addr) (fp:List Addr) (tn:Nat->Heap->Prop) (J:It) (H':Hp),FI=.ref it/\49 H' s2/\J9 X.prog X.w X.K tg J fp it tn/\tn 0 s2.heap/\(∀b∈fp,qd X cQ H' b)/\R J H'
def PI(X:Cx)(tg iter:Expr)(wi:TI):Prop:=
 ∀(cQ:74) (s:Shared) (σ:St) (H:Hp) (R:It->Hp->Prop),49 H s->wi σ H R ->
  31 X.A (eval iter X.env) (fun v s1=>31 X.A (pyIter v) (PIE X cQ σ tg R) X.xe s1) X.xe s
def ja{o:Obj}{n:String}{vs:Array Value}{Q:Unit->70}(ho:s.heap.get? it=some o)(hc:o.cls=.type n)(hd:o.data=.fields vs)
    (hn:["enumerate","zip","dict_itemiterator","dict_reverseitemiterator","odict_iterator","itertools.zip_longest","itertools.pairwise"].contains n=false) (hQ:Q () s):wpAny M A (letOwnedTupleGo tg (.ref it) u) Q E s:=by
  unfold letOwnedTupleGo;cases tg<;>first
    |exact eh hQ
    | (cases u<;>first
        |exact eh hQ
        | (refine dZ (wpAny_load ho ?_)
           rw[hc,hd]
           show wpAny M A (if(["enumerate","zip","dict_itemiterator","dict_reverseitemiterator","odict_iterator","itertools.zip_longest","itertools.pairwise"].contains n&&vs[0]?==some (rawInt _))=true then _ else _) Q E s
           rw[nn (by intro h;rw[hn,gW] at h;cases h)];exact eh hQ))
def Itl(K:W.Frag)(a:Addr):It:=
 ⟨fun i H=>∃xs x,SqL K H a xs/\xs[i]?=some x,fun i H x H'=>H'=H/\∀xs,SqL K H a xs->xs[i]?=some x,fun i H=>∃xs,SqL K H a xs/\xs.length<=i⟩
def Itt(K:W.Frag)(a:Addr):It:=
 ⟨fun i H=>∃xs x,SqT K H a xs/\xs[i]?=some x,fun i H x H'=>H'=H/\∀xs,SqT K H a xs->xs[i]?=some x,fun i H=>∃xs,SqT K H a xs/\xs.length<=i⟩
def Itr(lo:Int)(n:Nat):It:=⟨fun i _=>i<n,fun i H x H'=>H'=H/\x=.int (lo+i),fun i _=>n<=i⟩
def Zbp(a it:Addr):J9 P w K tg (Itl K a) [it] it (fun i h=>h.IsListIter it a i) where
 mem:=by simp
 obj:=fun i h st b hb=>by
  have e:b=it:=by simpa using hb
  subst e;obtain⟨o,e,c,d⟩:=st;exact⟨o,e,fun v z=>by rw[d] at z;cases z⟩
 keep:=fun i h h' st k=>st.at fun o e=>k it 47 o e
 item:=by
  intro X hP hw hK hc i cQ s σ H E I hf st hg;subst hP hw hK;obtain⟨xs,x,hq,hx⟩:=hg;obtain⟨its,rv,p,hz⟩:=I.list hq;obtain⟨u,hu,ru⟩:=rv.get hx;obtain⟨f0,f1,f2,f3,f4,f5⟩:=hf it 47;refine wpAny_pyNext_list_item st p.isList (x:=u) (by simpa using hu) fun h' oV sb=>?_;have I1:49 H 80:=I.turned (t':=s.toks) (fun b o hb e=>(sb.2 b hb).trans e) f0 f1 f3 f4 f5;obtain⟨o,e,c,d⟩:=id oV;exact⟨u,rfl,ja (s:=80) e c d 48 ⟨x,H,I1,ru,⟨rfl,fun ys hy=>by rw[I.list_inj hy hq];exact hx⟩,oV,fun b hb=>(hf b hb).1⟩⟩
 done:=by
  intro X hP hw hK hc i cQ s σ H E I hf st hg;subst hP hw hK;obtain⟨xs,hq,hx⟩:=hg;obtain⟨its,rv,p,hz⟩:=I.list hq;obtain⟨f0,f1,f2,f3,f4,f5⟩:=hf it 47;have hl:=rv.length;exact wpAny_pyNext_list_end (I.ok.hd hc) st p.isList (by simp;lia) fun h' eb=>⟨rfl,I.turned (t':=s.toks) (fun b o hb e=>eb b o hb e) f0 f1 f3 f4 f5⟩
 self:=fun _ _ _ _ _ st h=>wpAny_pyIter_listiter st h
def K8(a it:Addr):J9 P w K tg (Itt K a) [it] it (fun i h=>h.IsTupleIter it a i) where
 mem:=by simp
 obj:=fun i h st b hb=>by
  have e:b=it:=by simpa using hb
  subst e;obtain⟨o,e,c,d⟩:=st;exact⟨o,e,fun v z=>by rw[d] at z;cases z⟩
 keep:=fun i h h' st k=>st.at fun o e=>k it 47 o e
 item:=by
  intro X hP hw hK hc i cQ s σ H E I hf st hg;subst hP hw hK;obtain⟨xs,x,hq,hx⟩:=hg;obtain⟨its,rv,p,hz⟩:=I.tuple hq;obtain⟨u,hu,ru⟩:=rv.get hx;obtain⟨f0,f1,f2,f3,f4,f5⟩:=hf it 47;refine wpAny_pyNext_tuple_item st (show s.heap.IsTuple a its.toArray from p) (x:=u) (by simpa using hu) fun h' oV sb=>?_;have I1:49 H 80:=I.turned (t':=s.toks) (fun b o hb e=>(sb.2 b hb).trans e) f0 f1 f3 f4 f5;obtain⟨o,e,c,d⟩:=id oV;exact⟨u,rfl,ja (s:=80) e c d 48 ⟨x,H,I1,ru,⟨rfl,fun ys hy=>by rw[I.tuple_inj hy hq];exact hx⟩,oV,fun b hb=>(hf b hb).1⟩⟩
 done:=by
  intro X hP hw hK hc i cQ s σ H E I hf st hg;subst hP hw hK;obtain⟨xs,hq,hx⟩:=hg;obtain⟨its,rv,p,hz⟩:=I.tuple hq;obtain⟨f0,f1,f2,f3,f4,f5⟩:=hf it 47;have hl:=rv.length;exact wpAny_pyNext_tuple_end (I.ok.hd hc) st (show s.heap.IsTuple a its.toArray from p) (by simp;lia) fun h' eb=>⟨rfl,I.turned (t':=s.toks) (fun b o hb e=>eb b o hb e) f0 f1 f3 f4 f5⟩
 self:=fun _ _ _ _ _ st h=>wpAny_pyIter_tupleiter st h
def K6(it:Addr)(lo:Int)(n:Nat):J9 P w K tg (Itr lo n) [it] it (fun i h=>IsRangeIter h it (lo+(i:Nat)*1) ((n:Int)-(i:Nat)) 1) where
 mem:=by simp
 obj:=fun i h st b hb=>by
  have e:b=it:=by simpa using hb
  subst e;exact⟨_,st,fun v z=>by
   have z':Data.fields _=Data.cell v:=z;cases z'⟩
 keep:=fun i h h' st k=>k it 47 _ st
 item:=by
  intro X hP hw hK hc i cQ s σ H E I hf st hg;subst hP hw hK;obtain⟨f0,f1,f2,f3,f4,f5⟩:=hf it 47;have W:=Walks.range (prog:=X.prog) (w:=X.w) (I.ok.hd hc) it lo 1 n;refine W.item i s _ _ hg st fun v h' tk hv oV kk=>?_;obtain⟨t,rfl⟩:=hv;have I1:49 H 86:=I.turned (fun b o hb e=>kk b o (by simpa using hb) e) f0 f1 f3 f4 f5;refine⟨_,rfl,ja (s:=86) (n := "range_iterator") oV rfl rfl 48 ⟨.int (lo+i),H,I1,⟨t,?_⟩,⟨rfl,rfl⟩,oV,fun b hb=>(hf b hb).1⟩⟩;rw[Int.mul_one]
 done:=by
  intro X hP hw hK hc i cQ s σ H E I hf st hg;subst hP hw hK;obtain⟨f0,f1,f2,f3,f4,f5⟩:=hf it 47;exact wpAny_pyNext_range_end (I.ok.hd hc) st (by have:n<=i:=hg;lia) fun h' eb=>⟨rfl,I.turned (t':=s.toks) (fun b o hb e=>eb b o hb e) f0 f1 f3 f4 f5⟩
 self:=fun _ _ _ _ _ st h=>wpAny_pyIter_rangeiter st h
end L2
variable{wi:L2.TI}{J:L2.It}
namespace L2
open PySem PySem.Spec PyProof.Rows
inductive Zhe(K:W.Frag)(x:V)(H:Hp)(R:It->Hp->Prop):Prop
 |mk (a:Addr) (h:x=.ref a) (h2:∃xs,SqL K H a xs) (k:R (Itl K a) H):Zhe K x H R
def Zfx(K:W.Frag)(tl:TE):TI:=fun σ H R=>tl σ H fun x H1=>Zhe K x H1 R
def Zg0(K:W.Frag)(tl:TE):TI:=fun σ H R=>tl σ H fun x H1=>∃a,x=.ref a/\(∃xs,SqT K H1 a xs)/\R (Itt K a) H1
def Ze0{l:Expr}(hl:PE X l tl):PI X tg l (Zfx X.K tl):=by
 intro cQ s σ H R I h;refine thn (hl cQ s σ H _ I h) fun v s1 ⟨x,H1,I1,r1,q1⟩=>?_;obtain⟨a,e,⟨xs,hq⟩,q⟩:=q1;subst e;cases r1;obtain⟨its,rv,p,hz⟩:=I1.list hq;refine mj p.isList ?_;refine⟨s1.heap.objs.size,[s1.heap.objs.size],_,_,H1,rfl,I1.kept (t':=s1.toks) fun b o e=>eN _ e,Zbp a _,⟨_,fg _ rfl,rfl,rfl⟩,fun b hb=>?_,q⟩;have e:b=s1.heap.objs.size:=by simpa using hb
 subst e;exact I1.fpOk (eE _) (I1.hok.fresh (eE _))
def Zf0{l:Expr}(hl:PE X l tl):PI X tg l (Zg0 X.K tl):=by
 intro cQ s σ H R I h;refine thn (hl cQ s σ H _ I h) fun v s1 ⟨x,H1,I1,r1,q1⟩=>?_;obtain⟨a,e,⟨xs,hq⟩,q⟩:=q1;subst e;cases r1;obtain⟨its,rv,p,hz⟩:=I1.tuple hq;refine wpAny_pyIter_tuple (show s1.heap.IsTuple a its.toArray from p) ?_;refine⟨s1.heap.objs.size,[s1.heap.objs.size],_,_,H1,rfl,I1.kept (t':=s1.toks) fun b o e=>eN _ e,K8 a _,⟨_,fg _ rfl,rfl,rfl⟩,fun b hb=>?_,q⟩;have e:b=s1.heap.objs.size:=by simpa using hb
 subst e;exact I1.fpOk (eE _) (I1.hok.fresh (eE _))
def Kz{R:It->Hp->Prop}{lo hi:Int}{t u v:Tok}{tk:Nat}(I:49 H s)(h1:-(2 ^ 62)<=lo)(h2:lo<2 ^ 62)(h3:-(2 ^ 62)<=hi)(h4:hi<2 ^ 62)
  (q:R (Itr lo (hi-lo).toNat) H):31 X.A (pyIter (.ref s.heap.objs.size)) (PIE X cQ σ tg R) E { s with heap:=s.heap.push { cls:=.type "range",data:=.fields #[.int lo t,.int hi u,.int 1 v] },toks:=tk }:=by
 refine wpAny_pyIter_range (IsRange.new ..) (small_one h1 h2 h3 h4) ?_;have I1:49 H { s with heap:=s.heap.push { cls:=.type "range",data:=.fields #[.int lo t,.int hi u,.int 1 v] },toks:=tk }:=I.kept fun b o e=>eN _ e;refine⟨(s.heap.push { cls:=.type "range",data:=.fields #[.int lo t,.int hi u,.int 1 v] }).objs.size,[(s.heap.push { cls:=.type "range",data:=.fields #[.int lo t,.int hi u,.int 1 v] }).objs.size],_,_,H,rfl,I1.kept (t':=tk) fun b o e=>eN _ e,K6 _ lo (hi-lo).toNat,?_,fun b hb=>?_,q⟩
 ·have e1:lo+((0:Nat):Int)*1=lo:=by simp
  have e2:(((hi-lo).toNat:Nat):Int)-((0:Nat):Int)=Builtin.Range.rangeSize lo hi 1:=by rw[rangeSize_one];split<;>lia
  show IsRangeIter _ _ (lo+((0:Nat):Int)*1) ((((hi-lo).toNat:Nat):Int)-((0:Nat):Int)) 1
  rw[e1,e2];exact fg _ rfl
 ·have e:b=(s.heap.push { cls:=.type "range",data:=.fields #[.int lo t,.int hi u,.int 1 v] }).objs.size:=by simpa using hb
  subst e;exact I1.fpOk (eE _) (I1.hok.fresh (eE _))
def Zhz(ta:TA):TI:=fun σ H R=>ta σ H fun vs H1=>∃j:Int,vs=[.int j]/\-(2 ^ 62)<=j/\j<2 ^ 62/\R (Itr 0 j.toNat) H1
def Zg3(ta:TA):TI:=fun σ H R=>ta σ H fun vs H1=>∃i j:Int,vs=[.int i,.int j]/\(-(2 ^ 62)<=i/\i<2 ^ 62/\-(2 ^ 62)<=j/\j<2 ^ 62)/\R (Itr i (j-i).toNat) H1
def Xf{a:Expr}{p:Pos}(hg:Gl X "range")(hm:X.mg "range" = none)(ha:PA X [a] ta)(hs:starEach [a] X.env=[(false,eval a X.env)]:=by rfl):PI X tg (.Call (.Name "range" p) [a] [] gT) (Zhz ta):=by
 intro cQ s σ H R I h;refine Call_ (Ue I hg hm boot_range (i7 (thn (ha gT cQ s σ H _ I h) fun us s1 ⟨vs,H1,I1,r1,q1⟩=>?_) hs rfl));obtain⟨j,e,q1,q2,q⟩:=q1;subst e;cases r1 with
 |cons r rr=>
  cases rr;obtain⟨t,rfl⟩:=r;exact call_range_1 (Kz I1 21 21 q1 q2 (by simpa using q))
def jP{a b:Expr}{p:Pos}(hg:Gl X "range")(hm:X.mg "range" = none)(ha:PA X [a,b] ta)(hs:starEach [a,b] X.env=[(false,eval a X.env),(false,eval b X.env)]:=by rfl)(rh:starEach [b] X.env=[(false,eval b X.env)]:=by rfl) :
  PI X tg (.Call (.Name "range" p) [a,b] [] gT) (Zg3 ta):=by
 intro cQ s σ H R I h;refine Call_ (Ue I hg hm boot_range (i7 (thn (ha gT cQ s σ H _ I h) fun us s1 ⟨vs,H1,I1,r1,q1⟩=>?_) (by rw[hs,rh]) (by rw[rh];rfl)));obtain⟨i,j,e,⟨q1,q2,q3,q4⟩,q⟩:=q1;subst e;cases r1 with
 |cons r rr=>
  cases rr with
  |cons r' rr=>
   cases rr;obtain⟨t,rfl⟩:=r;obtain⟨t',rfl⟩:=r';exact call_range_2 (Kz I1 q1 q2 q3 q4 q)
def tFor(wi:TI)(g:TG)(tb:TS):TS:=fun D σ H=>wi σ H fun J H1=>∃W:Nat->Nat->St->Hp->Prop,(∃m,W 0 m σ H1)/\∀i m σ H,W i m σ H ->
 (J.stop i H/\D.nx σ H)\/(J.go i H/\∃N:St->Hp->Prop,(∀σ' H',N σ' H'->∃m',m'<m/\W (i+1) m' σ' H')/\∀x H',J.yld i H x H'->g x σ H' fun σ2 H2=>tb { D with nx:=N,ct:=N,bk:=D.nx } σ2 H2)
def xw(fp:List Addr)(h:Heap):74:=fp.filterMap fun b=>(h.get? b).map fun o=>(b,o)
def Uz{b:Addr}{o:Obj}(hb:b∈fp)(e:h.get? b=some o):(b,o)∈xw fp h:=List.mem_filterMap.mpr ⟨b,hb,by rw[e];rfl⟩
def Za0{p:Addr×Obj}(hp:p∈xw fp h):p.1∈fp/\h.get? p.1=some p.2:=by
 obtain⟨b,hb,e⟩:=List.mem_filterMap.mp hp;cases q:h.get? b with
 |none=>rw[q] at e;cases e
 |some o=>
  rw[q] at e;have e':(b,o)=p:=fc e;subst e';exact⟨hb,q⟩
def Inv.pinned(I:49 H s)(hf:∀b∈fp,qd X cQ H b)(ho:∀b∈fp,∃o,s.heap.get? b=some o/\∀v,o.data≠.cell v):Inv X (cQ++xw fp s.heap) σ H s:=
 I.pins_of fun p hp=>(fj.mp hp).elim (fun z=>I.pin p (fC _ z)) fun z=>by
  obtain⟨hb,e⟩:=Za0 z;obtain⟨f0,f1,f2,_⟩:=hf p.1 hb;obtain⟨o,e',d⟩:=ho p.1 hb;rw[e] at e';cases e';exact⟨e,f0,f1,f2,d⟩
def Inv.unpinned{pl:74}(I:Inv X (cQ++pl) σ H s):49 H s:=I.pins_of fun p hp=>I.pin p (fC _ (fT _ hp))
def Xv{g:TG}(hp:PassesOwn (model X.prog X.w) X.A X.env X.xe)(hc:X.calm=true)(hi:PI X tg iter wi)(hg:PG X tg g)(hb:PSs X body tb)
  (hs:∀x,foldedSetIterable iter X.env x=pure x:=by intro _;rfl):PS X (.For tg iter body [] gT) (tFor wi g tb):=by
 intro cQ s σ H D I h;refine wpAny_For (thn (hi cQ s σ H _ I h) fun v s1 h1=>thn h1 fun FI s2 h2=>?_) hs;obtain⟨it,fp,tn,J,H2,e,I2,T,oE,f2,W,⟨m0,w0⟩,se⟩:=h2;subst e;have rc:∀{H':Hp},(∀b∈fp,H' b=none)->∀b∈fp,qd X cQ H' b:=fun hn b hb=>⟨hn b hb,(f2 b hb).2⟩;refine codeAny_forLoop_any (fun n s'=>∃i σ' H',Inv X cQ σ' H' s'/\tn i s'.heap/\(∀b∈fp,H' b=none)/\W i n σ' H') ?_ m0 ⟨0,σ,H2,I2,oE,fun b hb=>(f2 b hb).1,w0⟩;rintro n s3 ⟨i,σ3,H3,I3,pO,Iz,w3⟩;rcases se i n σ3 H3 w3 with⟨stop,qn⟩|⟨go,N,hN,step⟩
 ·refine iL hp (thn (T.done X rfl rfl rfl hc i cQ s3 σ3 H3 X.xe I3 (rc Iz) pO stop) fun r s4 ⟨hr,I4⟩=>?_);subst hr;exact wpAny_execs_nil ⟨σ3,H3,I4,qn⟩
 ·refine iL hp (thn (T.item X rfl rfl rfl hc i cQ s3 σ3 H3 X.xe I3 (rc Iz) pO go) fun r s4 ⟨u,hr,h4⟩=>?_);subst hr;refine iL hp (thn h4 fun _ s5 ⟨x,H5,I5,r5,y5,rE,Dd⟩=>?_);have M6:=I5.pinned (rc Dd) (T.obj _ _ rE);refine iL hp (thn (hg _ s5 σ3 H5 x u _ M6 r5 (step x H5 y5)) fun _ s6 ⟨σ6,H6,I6,q6⟩=>?_);refine iL hp (thn (hb _ s6 σ6 H6 _ I6 q6) fun f s7 q7=>?_);have again:∀{σ7:St}{H7:Hp},Inv X (cQ++xw fp s5.heap) σ7 H7 s7->N σ7 H7->∃m,m<n/\∃i σ' H',Inv X cQ σ' H' s7/\tn i s7.heap/\(∀b∈fp,H' b=none)/\W i m σ' H':=fun {σ7 H7} I7 n7=>by
   obtain⟨m',hm,w7⟩:=hN σ7 H7 n7;refine⟨m',hm,i+1,σ7,H7,I7.unpinned,T.keep _ _ _ rE fun b hb o e=>(I7.pin (b,o) (fC _ (fC _ (Uz hb e)))).1,fun b hb=>?_,w7⟩;obtain⟨o,e,d⟩:=T.obj _ _ rE b hb;exact(I7.pin (b,o) (fC _ (fC _ (Uz hb e)))).2.1
  cases f with
  |next=>obtain⟨σ7,H7,I7,n7⟩:=q7;exact again I7 n7
  |cont=>obtain⟨σ7,H7,I7,n7⟩:=q7;exact again I7 n7
  |brk=>obtain⟨σ7,H7,I7,q7⟩:=q7;exact⟨σ7,H7,I7.unpinned,q7⟩
  |ret v=>obtain⟨x7,σ7,H7,I7,r7,q7⟩:=q7;exact⟨x7,σ7,H7,I7.unpinned,r7,q7⟩
def qY{xs:List V}{g:TG}{D:vw}(Pv:Nat->St->Hp->Prop)(h0:Pv 0 σ H)(hl:∀i σ H,i<=xs.length->Pv i σ H->SqL K H a xs)
  (hs:∀i x σ H,xs[i]?=some x->Pv i σ H->g x σ H fun σ2 H2=>tb { D with nx:=Pv (i+1),ct:=Pv (i+1),bk:=D.nx } σ2 H2) (hd:∀σ H,Pv xs.length σ H->D.nx σ H) :
  ∃W:Nat->Nat->St->Hp->Prop,(∃m,W 0 m σ H)/\∀i m σ H,W i m σ H ->
   ((Itl K a).stop i H/\D.nx σ H)\/((Itl K a).go i H/\∃N:St->Hp->Prop,(∀σ' H',N σ' H'->∃m',m'<m/\W (i+1) m' σ' H')/\∀x H',(Itl K a).yld i H x H'->g x σ H' fun σ2 H2=>tb { D with nx:=N,ct:=N,bk:=D.nx } σ2 H2):=by
 refine⟨fun i m σ H=>m=xs.length-i/\i<=xs.length/\Pv i σ H,⟨xs.length,by simp,fu _,h0⟩,?_⟩;rintro i m σ H ⟨rfl,hi,p⟩;have q:=hl i σ H hi p
 by_cases nH:i<xs.length
 ·refine .inr ⟨⟨xs,xs[i],q,by simp[nH]⟩,Pv (i+1),fun σ' H' p'=>⟨xs.length-(i+1),by lia,rfl,nH,p'⟩,fun x H' y=>?_⟩;obtain⟨e,y⟩:=y;subst e;exact hs i x σ _ (y xs q) p
 ·have e:i=xs.length:=by lia
  subst e;exact .inl ⟨⟨xs,q,eE _⟩,hd σ H p⟩
def Za2{lo:Int}{g:TG}{D:vw}(Pv:Nat->St->Hp->Prop)(h0:Pv 0 σ H)
  (hs:∀i σ H,i<n->Pv i σ H->g (.int (lo+i)) σ H fun σ2 H2=>tb { D with nx:=Pv (i+1),ct:=Pv (i+1),bk:=D.nx } σ2 H2) (hd:∀σ H,Pv n σ H->D.nx σ H) :
  ∃W:Nat->Nat->St->Hp->Prop,(∃m,W 0 m σ H)/\∀i m σ H,W i m σ H ->
   ((Itr lo n).stop i H/\D.nx σ H)\/((Itr lo n).go i H/\∃N:St->Hp->Prop,(∀σ' H',N σ' H'->∃m',m'<m/\W (i+1) m' σ' H')/\∀x H',(Itr lo n).yld i H x H'->g x σ H' fun σ2 H2=>tb { D with nx:=N,ct:=N,bk:=D.nx } σ2 H2):=by
 refine⟨fun i m σ H=>m=n-i/\i<=n/\Pv i σ H,⟨n,by simp,fu _,h0⟩,?_⟩;rintro i m σ H ⟨rfl,hi,p⟩
 by_cases nH:i<n
 ·refine .inr ⟨nH,Pv (i+1),fun σ' H' p'=>⟨n-(i+1),by lia,rfl,nH,p'⟩,fun x H' y=>?_⟩;obtain⟨e,y⟩:=y;subst e y;exact hs i σ _ nH p
 ·have e:i=n:=by lia
  subst e;exact .inl ⟨eE _,hd σ H p⟩
abbrev R2:=V->V->Hp->VK->Prop
def OpR(X:Cx)(f:Value->Value->Sem Value)(r:R2):Prop:=
 ∀(cQ:74) (s:Shared) (σ:St) (H:Hp) (x y:V) (v u:Value) (Q:VK),49 H s->ZL x v->ZL y u->r x y H Q ->
  31 X.A (f v u) (EP X cQ σ Q) X.xe s
def UnR(X:Cx)(f:Value->Sem Value)(r:V->Hp->VK->Prop):Prop:=
 ∀(cQ:74) (s:Shared) (σ:St) (H:Hp) (x:V) (v:Value) (Q:VK),49 H s->ZL x v->r x H Q ->
  31 X.A (f v) (EP X cQ σ Q) X.xe s
def Yt(X:Cx)(f:Value)(r:List V->Hp->VK->Prop):Prop:=
 ∀(cQ:74) (s:Shared) (σ:St) (H:Hp) (xs:List V) (us:71) (Q:VK),49 H s->ZE xs us->r xs H Q ->
  31 X.A (call f us) (EP X cQ σ Q) X.xe s
def TruR(X:Cx)(r:V->Hp->(Bool->Hp->Prop)->Prop):Prop:=
 ∀(cQ:74) (s:Shared) (σ:St) (H:Hp) (x:V) (v:Value) (Q:Bool->Hp->Prop),49 H s->ZL x v->r x H Q ->
  31 X.A (truthy v) (TP X cQ σ Q) X.xe s
def tOp(r:R2)(ta tb:TE):TE:=fun σ H Q=>ta σ H fun x H1=>tb σ H1 fun y H2=>r x y H2 Q
def tUn(r:V->Hp->VK->Prop)(ta:TE):TE:=fun σ H Q=>ta σ H fun x H1=>r x H1 Q
inductive Zhi(C:Int->Int->Prop)(g:Int->Int->V)(x:V)(y:V)(H:Hp)(Q:VK):Prop
 |mk (i:_) (j:_) (h0:x=.int i) (h1:y=.int j) (h2:C i j) (h3:Q (g i j) H):Zhi C g x y H Q
def rI(C:Int->Int->Prop)(g:Int->Int->V):R2:=fun x y H Q=>Zhi C g x y H Q
inductive Zff(g:Int->Int->V)(x:V)(y:V)(H:Hp)(Q:VK):Prop
 |mk (i:_) (j:_) (h0:x=.int i) (h1:y=.int j) (h2:Q (g i j) H):Zff g x y H Q
def rI0(g:Int->Int->V):R2:=fun x y H Q=>Zff g x y H Q
inductive ZhS(g:Int->V)(x:V)(H:Hp)(Q:VK):Prop
 |mk (i:_) (h0:x=.int i) (h1:Q (g i) H):ZhS g x H Q
def rU(g:Int->V):V->Hp->VK->Prop:=fun x H Q=>ZhS g x H Q
section
variable{X:Cx}{a b c:Expr}{ta tb tc:TE}{gT:Pos}
theorem ZgS(ha:PE X a ta)(hb:PE X b tb){R:V->V->Hp->Prop}(I:49 H s)
  (h:ta σ H fun x H1=>tb σ H1 fun y H2=>R x y H2) {f:Value->Value->Sem Value}
  (hf:∀v u s2 x y H2,49 H2 s2->ZL x v->ZL y u->R x y H2->31 X.A (f v u) Q X.xe s2) :
  31 X.A (eval a X.env) (fun v s₁=>31 X.A (eval b X.env) (fun u s₂=>31 X.A (f v u) Q X.xe s₂) X.xe s₁) X.xe s:=by
 refine thn (ha cQ s σ H _ I h) fun v s1 ⟨x,H1,I1,r1,q1⟩=>?_;refine thn (hb cQ s1 σ H1 _ I1 q1) fun u s2 ⟨y,H2,I2,r2,q2⟩=>?_;exact hf v u s2 x y H2 I2 r1 r2 q2
theorem ZO{op:Operator}{r:R2}(ho:OpR X (binaryOp op) r)(ha:PE X a ta)(hb:PE X b tb):PE X (.BinOp a op b gT) (tOp r ta tb):=by
 intro cQ s σ H Q I h;exact wpAny_BinOp (ZgS ha hb I h fun v u s2 x y H2 I2 rx ry q=>ho cQ s2 σ H2 x y v u Q I2 rx ry q)
theorem UG{op:UnaryOp}{r:V->Hp->VK->Prop}(ho:UnR X (unaryOp op) r)(ha:PE X a ta):PE X (.UnaryOp op a gT) (tUn r ta):=by
 intro cQ s σ H Q I h;exact UnaryOp_ (thn (ha cQ s σ H _ I h) fun v s1 ⟨x,H1,I1,r1,q1⟩=>ho cQ s1 σ H1 x v Q I1 r1 q1)
theorem opI{f:Value->Value->Sem Value}{C:Int->Int->Prop}{g:Int->Int->Int}
  (rule:∀(i j:Int) (t u:Tok) (s:Shared) (Q:Value->70) (E:Value->70),C i j->Q (.int (g i j) s.toks) { s with toks:=s.toks+1 }->31 X.A (f (.int i t) (.int j u)) Q E s) :
  OpR X f (rI C fun i j=>.int (g i j)):=by
 intro cQ s σ H x y v u Q I rx ry h;obtain⟨i,j,rfl,rfl,hc,q⟩:=h;obtain⟨t,rfl⟩:=rx;obtain⟨t',rfl⟩:=ry;exact rule i j t t' s _ _ hc ⟨.int (g i j),H,I.tok _,⟨_,rfl⟩,q⟩
theorem Zhf{f:Value->Value->Sem Value}{g:Int->Int->Int}
  (rule:∀(i j:Int) (t u:Tok) (s:Shared) (Q:Value->70) (E:Value->70),Q (.int (g i j) s.toks) { s with toks:=s.toks+1 }->31 X.A (f (.int i t) (.int j u)) Q E s) :
  OpR X f (rI0 fun i j=>.int (g i j)):=by
 intro cQ s σ H x y v u Q I rx ry h;obtain⟨i,j,rfl,rfl,q⟩:=h;obtain⟨t,rfl⟩:=rx;obtain⟨t',rfl⟩:=ry;exact rule i j t t' s _ _ ⟨.int (g i j),H,I.tok _,⟨_,rfl⟩,q⟩
theorem Zf3{f:Value->Value->Sem Value}{g:Int->Int->Bool}
  (rule:∀(i j:Int) (t u:Tok) (s:Shared) (Q:Value->70) (E:Value->70),Q (.bool (g i j)) s->31 X.A (f (.int i t) (.int j u)) Q E s) :
  OpR X f (rI0 fun i j=>.bl (g i j)):=by
 intro cQ s σ H x y v u Q I rx ry h;obtain⟨i,j,rfl,rfl,q⟩:=h;obtain⟨t,rfl⟩:=rx;obtain⟨t',rfl⟩:=ry;exact rule i j t t' s _ _ ⟨.bl (g i j),H,I,rfl,q⟩
def CDiv(i j:Int):Prop:=0<j/\j<1073741824
def CPow(i j:Int):Prop:=0<=j/\j<=1000000/\i.natAbs<2 ^ 64
def ZgH(i j:Int):Prop:=(-(2 ^ 64)<i/\i<2 ^ 64)\/(-(2 ^ 64)<j/\j<2 ^ 64)
theorem ZgH.ok{i j:Int}(h:ZgH i j):IntMulOk i j:=by
 rcases h with⟨h1,h2⟩|⟨h1,h2⟩
 ·exact .of_left (intBits_le_64 h1 h2)
 ·exact .of_right (intBits_le_64 h1 h2)
theorem YY:OpR X (binaryOp .Add) (rI0 fun i j=>.int (i+j)):=Zhf fun _ _ _ _ _ _ _ q=>add_int q
theorem VH:OpR X (binaryOp .Sub) (rI0 fun i j=>.int (i-j)):=Zhf fun _ _ _ _ _ _ _ q=>sub_int q
theorem zZ:OpR X (binaryOp .Mult) (rI ZgH fun i j=>.int (i*j)):=opI fun _ _ _ _ _ _ _ hc q=>mul_int q hc.ok
theorem yM:OpR X (binaryOp .FloorDiv) (rI CDiv fun i j=>.int (i/j)):=opI fun i j _ _ _ _ _ hc q=>by
 have h1:(0:Int)<j:=hc.1;have h2:j<1073741824:=hc.2;exact floordiv_int 21 (by rw[Int.fdiv_eq_ediv_of_nonneg i 21];exact q) (.inl (PyProof.noPylong_small 21))
theorem UK:OpR X (binaryOp .Mod) (rI (fun _ j=>0<j) fun i j=>.int (i%j)):=opI fun i j _ _ _ _ _ hc q=>by
 have h1:(0:Int)<j:=hc;exact mod_int' 21 (by rw[Int.fmod_eq_emod_of_nonneg i 21];exact q)
theorem Zgm:OpR X (binaryOp .Pow) (rI CPow fun i j=>.int (i ^ j.toNat)):=opI fun _ _ _ _ _ _ _ hc q=>pow_int_small hc.1 hc.2.1 hc.2.2 q
theorem unI{f:Value->Sem Value}{g:Int->Int}
  (rule:∀(i:Int) (t:Tok) (s:Shared) (Q:Value->70) (E:Value->70),Q (.int (g i) s.toks) { s with toks:=s.toks+1 }->31 X.A (f (.int i t)) Q E s) :
  UnR X f (rU fun i=>.int (g i)):=by
 intro cQ s σ H x v Q I rx h;obtain⟨i,rfl,q⟩:=h;obtain⟨t,rfl⟩:=rx;exact rule i t s _ _ ⟨.int (g i),H,I.tok _,⟨_,rfl⟩,q⟩
theorem Vi:UnR X (unaryOp .USub) (rU fun i=>.int (-i)):=unI fun _ _ _ _ _ q=>neg_int q
end
def Zhp:V->V->Bool
 |.non,.non=>true|.non,.int _=>true|.int _,.non=>true|.non,.bl _=>true|.bl _,.non=>true|.non,.str _=>true|.str _,.non=>true
 |.int _,.int _=>true|.bl _,.bl _=>true|.str _,.str _=>true|.byt _,.byt _=>true
 |.int _,.str _=>true|.str _,.int _=>true|.bl _,.str _=>true|.str _,.bl _=>true
 |_,_=>false
inductive Zfq(x y:V)(H:Hp)(Q:VK):Prop
 |mk (h:Zhp x y=true) (k:Q (.bl (decide (x=y))) H):Zfq x y H Q
inductive Zfz(x y:V)(H:Hp)(Q:VK):Prop
 |mk (h:Zhp x y=true) (k:Q (.bl (!decide (x=y))) H):Zfz x y H Q
def rEq:R2:=fun x y H Q=>Zfq x y H Q
def rNe:R2:=fun x y H Q=>Zfz x y H Q
def QZ{i j:Int}:decide (V.int i=V.int j)=(i==j):=by
 rw[gy];simp
def Zb7{i j:Bool}:decide (V.bl i=V.bl j)=(i==j):=by
 rw[gy];simp
def Q8{i j:Str}:decide (V.str i=V.str j)=(i==j):=by
 rw[gy];simp
def Zac{i j:Array UInt8}:decide (V.byt i=V.byt j)=(i.toList==j.toList):=by
 rw[gy];cases i;cases j;simp
section
variable{X:Cx}{a b c:Expr}{ta tb tc:TE}{gT:Pos}
theorem Z8{Q:VK}{k k':Bool}(I:49 H s)(q:Q (.bl k) H)(e:k=k'):EP X cQ σ Q (.bool k') s:=by
 subst e;exact⟨.bl k,H,I,rfl,q⟩
theorem YA:OpR X (compareOp .Eq) rEq:=by
 intro cQ s σ H x y v u Q I rx ry h;obtain⟨hs,q⟩:=h;cases x with
 |non=>
  cases rx;cases y with
  |non=>cases ry;exact PySem.EqNone.eq_none_none (Z8 I q 47)
  |bl j=>cases ry;exact PySem.EqNone.eq_none_bool (Z8 I q 47)
  |int j=>obtain⟨t',rfl⟩:=ry;exact PySem.EqNone.eq_none_int (Z8 I q 47)
  |str j=>obtain⟨t',rfl⟩:=ry;exact PySem.EqNone.eq_none_str (Z8 I q 47)
  |_=>exact nu (show false=true from hs) fB
 |bl i=>
  cases rx;cases y with
  |non=>cases ry;exact PySem.EqNone.eq_bool_none (Z8 I q 47)
  |bl j=>cases ry;exact eq_bool (Z8 I q Zb7)
  |str j=>obtain⟨t',rfl⟩:=ry;exact PySem.EqMixed.eq_bool_str (Z8 I q 47)
  |_=>exact nu (show false=true from hs) fB
 |int i=>
  obtain⟨t,rfl⟩:=rx;cases y with
  |non=>cases ry;exact PySem.EqNone.eq_int_none (Z8 I q 47)
  |int j=>obtain⟨t',rfl⟩:=ry;exact eq_int (Z8 I q QZ)
  |str j=>obtain⟨t',rfl⟩:=ry;exact PySem.EqMixed.eq_int_str (Z8 I q 47)
  |_=>exact nu (show false=true from hs) fB
 |str i=>
  obtain⟨t,rfl⟩:=rx;cases y with
  |non=>cases ry;exact PySem.EqNone.eq_str_none (Z8 I q 47)
  |bl j=>cases ry;exact PySem.EqMixed.eq_str_bool (Z8 I q 47)
  |int j=>obtain⟨t',rfl⟩:=ry;exact PySem.EqMixed.eq_str_int (Z8 I q 47)
  |str j=>obtain⟨t',rfl⟩:=ry;exact eq_str (Z8 I q Q8)
  |_=>exact nu (show false=true from hs) fB
 |byt i=>
  obtain⟨t,rfl⟩:=rx;cases y with
  |byt j=>obtain⟨t',rfl⟩:=ry;exact W.eq_bytes (Z8 I q Zac)
  |_=>exact nu (show false=true from hs) fB
 |_=>cases y<;>exact nu (show false=true from hs) fB
theorem VZ:OpR X (compareOp .NotEq) rNe:=by
 intro cQ s σ H x y v u Q I rx ry h;obtain⟨hs,q⟩:=h;cases x with
 |non=>
  cases rx;cases y with
  |non=>cases ry;exact PySem.EqNone.ne_none_none (Z8 I q 47)
  |bl j=>cases ry;exact PySem.EqNone.ne_none_bool (Z8 I q 47)
  |int j=>obtain⟨t',rfl⟩:=ry;exact PySem.EqNone.ne_none_int (Z8 I q 47)
  |str j=>obtain⟨t',rfl⟩:=ry;exact PySem.EqNone.ne_none_str (Z8 I q 47)
  |_=>exact nu (show false=true from hs) fB
 |bl i=>
  cases rx;cases y with
  |non=>cases ry;exact PySem.EqNone.ne_bool_none (Z8 I q 47)
  |bl j=>cases ry;exact ne_bool (Z8 I q (fb not Zb7))
  |str j=>obtain⟨t',rfl⟩:=ry;exact PySem.EqMixed.ne_bool_str (Z8 I q 47)
  |_=>exact nu (show false=true from hs) fB
 |int i=>
  obtain⟨t,rfl⟩:=rx;cases y with
  |non=>cases ry;exact PySem.EqNone.ne_int_none (Z8 I q 47)
  |int j=>obtain⟨t',rfl⟩:=ry;exact ne_int (Z8 I q (fb not QZ))
  |str j=>obtain⟨t',rfl⟩:=ry;exact PySem.EqMixed.ne_int_str (Z8 I q 47)
  |_=>exact nu (show false=true from hs) fB
 |str i=>
  obtain⟨t,rfl⟩:=rx;cases y with
  |non=>cases ry;exact PySem.EqNone.ne_str_none (Z8 I q 47)
  |bl j=>cases ry;exact PySem.EqMixed.ne_str_bool (Z8 I q 47)
  |int j=>obtain⟨t',rfl⟩:=ry;exact PySem.EqMixed.ne_str_int (Z8 I q 47)
  |str j=>obtain⟨t',rfl⟩:=ry;exact ne_str (Z8 I q (fb not Q8))
  |_=>exact nu (show false=true from hs) fB
 |byt i=>
  obtain⟨t,rfl⟩:=rx;cases y with
  |byt j=>obtain⟨t',rfl⟩:=ry;exact W.ne_bytes (Z8 I q (fb not Zac))
  |_=>exact nu (show false=true from hs) fB
 |_=>cases y<;>exact nu (show false=true from hs) fB
theorem xJ:OpR X (compareOp .Lt) (rI0 fun i j=>.bl (decide (i<j))):=Zf3 fun _ _ _ _ _ _ _ q=>lt_int q
theorem yz:OpR X (compareOp .LtE) (rI0 fun i j=>.bl (decide (i<=j))):=Zf3 fun _ _ _ _ _ _ _ q=>le_int q
theorem Zar:OpR X (compareOp .Gt) (rI0 fun i j=>.bl (decide (j<i))):=Zf3 fun _ _ _ _ _ _ _ q=>gt_int q
theorem ZaJ:OpR X (compareOp .In) (fun x y H Q=>∃i j,x=.str i/\y=.str j/\Q (.bl (!(Builtin.Str.occurrences j i 0 j.length 1).isEmpty)) H):=by
 intro cQ s σ H x y v u Q I rx ry h;obtain⟨i,j,rfl,rfl,q⟩:=h;obtain⟨t,rfl⟩:=rx;obtain⟨t',rfl⟩:=ry;exact in_str (Z8 I q rfl)
theorem ZB(b:Expr)(h:op≠.In:=by left)(h2:op≠.NotIn:=by left):behindInMarks op b=false:=by
 have e1:(op==CmpOp.In)=false:=by cases op<;>first|rfl|exact nu rfl h
 have e2:(op==CmpOp.NotIn)=false:=by cases op<;>first|rfl|exact nu rfl h2
 cases b<;>simp[behindInMarks,e1,e2]
theorem Yy{op:CmpOp}{r:R2}(ho:OpR X (compareOp op) r)(ha:PE X a ta)(hb:PE X b tb)(hm:behindInMarks op b=false):PE X (.Compare a [op] [b] gT) (tOp r ta tb):=by
 intro cQ s σ H Q I h;exact wpAny_Compare1 (ZgS ha hb I h fun v u s2 x y H2 I2 rx ry q=>ho cQ s2 σ H2 x y v u Q I2 rx ry q) hm
def Jp(t:TE):TT:=fun σ H Q=>t σ H fun x H'=>Zb3 x H' Q
theorem Zt{op:CmpOp}{r:R2}(ho:OpR X (compareOp op) r)(ha:PE X a ta)(hb:PE X b tb)(hm:behindInMarks op b=false):PT X (.Compare a [op] [b] gT) (Jp (tOp r ta tb)):=by
 intro cQ s σ H Q I h;refine wpAny_isTrue_Compare1 (thn (ha cQ s σ H _ I h) fun v s1 ⟨x,H1,I1,r1,q1⟩=>thn (hb cQ s1 σ H1 _ I1 q1) fun u s2 ⟨y,H2,I2,r2,q2⟩=> thn (ho cQ s2 σ H2 x y v u _ I2 r1 r2 q2) fun c s3 ⟨z,H3,I3,r3,k,e,q3⟩=>?_) hm
 subst e;cases r3;exact gC ⟨H3,I3,q3⟩
def Zdy(r r':R2)(ta tb tc:TE):TE:=fun σ H Q=>ta σ H fun x H1=>tb σ H1 fun y H2=>r x y H2 fun z H3=>∃k,z=.bl k /\
 (if k=true then tc σ H3 fun w' H4=>r' y w' H4 Q else Q (.bl false) H3)
theorem J0{wB:CmpOp}{r r':R2}(ho:OpR X (compareOp op) r)(pL:OpR X (compareOp wB) r')(ha:PE X a ta)(hb:PE X b tb)(hc:PE X c tc)
  (hm:lastMarks [op,wB] [b,c]=false:=by with_unfolding_all rfl):PE X (.Compare a [op,wB] [b,c] gT) (Zdy r r' ta tb tc):=by
 intro cQ s σ H Q I h;refine Compare_chain (thn (ha cQ s σ H _ I h) fun v s1 ⟨x,H1,I1,r1,q1⟩=>chain_link (thn (hb cQ s1 σ H1 _ I1 q1) fun u s2 ⟨y,H2,I2,r2,q2⟩=> thn (ho cQ s2 σ H2 x y v u _ I2 r1 r2 q2) fun d s3 ⟨z,H3,I3,r3,k,e,q3⟩=>?_)) hm
 subst e;cases r3;refine gC ?_;cases k with
 |false=>exact ite_ff ⟨.bl false,H3,I3,rfl,q3⟩
 |true=>exact ite_tt (chain_last (thn (hc cQ s3 σ H3 _ I3 q3) fun w' s4 ⟨z',H4,I4,r4,q4⟩=>pL cQ s4 σ H4 y z' u w' Q I4 r2 r4 q4))
theorem JF{wB:CmpOp}{r r':R2}(ho:OpR X (compareOp op) r)(pL:OpR X (compareOp wB) r')(ha:PE X a ta)(hb:PE X b tb)(hc:PE X c tc)
  (hm:lastMarks [op,wB] [b,c]=false:=by with_unfolding_all rfl):PT X (.Compare a [op,wB] [b,c] gT) (Jp (Zdy r r' ta tb tc)):=by
 intro cQ s σ H Q I h;refine isTrue_chain (thn (ha cQ s σ H _ I h) fun v s1 ⟨x,H1,I1,r1,q1⟩=>test_link (thn (hb cQ s1 σ H1 _ I1 q1) fun u s2 ⟨y,H2,I2,r2,q2⟩=> thn (ho cQ s2 σ H2 x y v u _ I2 r1 r2 q2) fun d s3 ⟨z,H3,I3,r3,k,e,q3⟩=>?_)) hm
 subst e;cases r3;refine gC ?_;cases k with
 |false=>
  obtain⟨k',e',q'⟩:=q3;cases e';exact ite_ff ⟨H3,I3,q'⟩
 |true=>
  refine ite_tt (test_last (thn (hc cQ s3 σ H3 _ I3 q3) fun w' s4 ⟨z',H4,I4,r4,q4⟩=>thn (pL cQ s4 σ H4 y z' u w' _ I4 r2 r4 q4) fun d' s5 ⟨z2,H5,I5,r5,k2,e2,q5⟩=>?_));subst e2;cases r5;exact gC ⟨H5,I5,q5⟩
def ZgL(K:W.Frag)(x:V)(H:Hp)(k:Bool):Prop:=
 match x with
 |.non=>k=false
 |.bl b=>k=b
 |.int i=>k=(i != 0)
 |.str y=>y.length<=sizeLine/\k=((y.length:Int) != 0)
 |.byt y=>y.size<=sizeLine/\k=((y.size:Int) != 0)
 |.ref p=>(∃xs,SqL K H p xs/\k = !xs.isEmpty)\/(∃xs,SqT K H p xs/\k = !xs.isEmpty)\/∃kvs,H p=some (.dK kvs)/\k = !kvs.isEmpty
 |_=>False
theorem QC{kvs:List (κ×V)}{vs:List (κ×Value)}(r:KV kvs vs):(!vs.isEmpty) = !kvs.isEmpty:=by
 cases r<;>rfl
theorem xu{xs:List V}(r:ZE xs its):(!its.toArray.isEmpty) = !xs.isEmpty:=by
 cases r<;>simp
theorem yZ:(sizeLine:Nat)<2 ^ 63:=by rw[eJ];decide
theorem ZfK:TruR X (fun x H Q=>∃k,ZgL X.K x H k/\Q k H):=by
 intro cQ s σ H x v Q I rx h;obtain⟨k,e,q⟩:=h;have hl:=yZ;have hs:sizeLine=16777216:=eJ;cases x with
 |non=>
  cases rx;have e':k=false:=e;subst e';exact truthy_none ⟨H,I,q⟩
 |bl b=>
  cases rx;have e':k=b:=e;subst e';exact gC ⟨H,I,q⟩
 |int i=>
  obtain⟨t,rfl⟩:=rx;have e':k=(i != 0):=e;subst e';exact PySem.P.truthy_int ⟨H,I,q⟩
 |str y=>
  obtain⟨t,rfl⟩:=rx;obtain⟨hy,e'⟩:y.length<=sizeLine/\k=((y.length:Int) != 0):=e;subst e';exact PySem.P.truthy_str 21 ⟨H,I.tok _,q⟩
 |byt y=>
  obtain⟨t,rfl⟩:=rx;obtain⟨hy,e'⟩:y.size<=sizeLine/\k=((y.size:Int) != 0):=e;subst e';exact W.truthy_bytes 21 ⟨H,I.tok _,q⟩
 |ref p=>
  cases rx;have e':(∃xs,SqL X.K H p xs/\k = !xs.isEmpty)\/(∃xs,SqT X.K H p xs/\k = !xs.isEmpty)\/∃kvs,H p=some (.dK kvs)/\k = !kvs.isEmpty:=e;rcases e' with⟨xs,hx,e'⟩|⟨xs,hx,e'⟩|⟨kvs,hx,e'⟩
  ·subst e';obtain⟨its,r,pl,hz⟩:=I.list hx;have nv:=r.length;exact wpAny_truthy_list pl.isList (by simp only[fe];lia) ⟨H,I.tok _,by rw[xu r];exact q⟩
  ·subst e';obtain⟨its,r,pl,hz⟩:=I.tuple hx;have nv:=r.length;exact truthy_tuple pl (by simp only[fe];lia) ⟨H,I.tok _,by rw[xu r];exact q⟩
  ·subst e';obtain⟨hz,hS,vs,r,m⟩:kvs.length<=sizeLine/\(p==sysModules)=false/\∃vs,KV kvs vs/\s.heap.DictOf (Zv X.prog X.w) p vs:=I.hok p _ hx;have nv:kvs.length=vs.length:=i4 r;exact wpAny_truthy_dict hS m 21 ⟨H,I.tok _,by rw[QC r];exact q⟩
 |_=>exact(show False from e).elim
theorem ZcY(ha:PE X a ta)(he:∀nW,isTrue a X.env nW=(do let v <- nW;standAt a.pos;holding [v] (truthy v))) :
  PT X a (fun σ H Q=>ta σ H fun x H'=>∃k,ZgL X.K x H' k/\Q k H'):=by
 intro cQ s σ H Q I h;exact isTrue_plain (thn (ha cQ s σ H _ I h) fun v s1 ⟨x,H1,I1,r1,q1⟩=>ZfK cQ s1 σ H1 x v Q I1 r1 q1) (he _)
theorem VN{x:V}(r:ZE [x] us):∃u,us=[u]/\ZL x u:=by
 cases r with
 |cons r1 r2=>cases r2;exact⟨_,rfl,r1⟩
theorem jU{x:V}(r:ZE [x,y] us):∃u w',us=[u,w']/\ZL x u/\ZL y w':=by
 cases r with
 |cons r1 r2=>
  cases r2 with
  |cons r3 r4=>cases r4;exact⟨_,_,rfl,r1,r3⟩
theorem jQ(hc:X.calm=true):Yt X (.builtin "max") (fun xs H Q=>∃i j,xs=[.int i,.int j]/\Q (.int (if j>i then j else i)) H):=by
 intro cQ s σ H xs us Q I r h;obtain⟨i,j,rfl,q⟩:=h;obtain⟨u,w',rfl,⟨t,rfl⟩,⟨t',rfl⟩⟩:=jU r;refine max_two_ints (I.ok.hd hc) fun h' tk k=>⟨_,H,I.kept k,?_,q⟩
 by_cases hj:j>i
 ·rw[nt hj,nt hj];exact⟨_,rfl⟩
 ·rw[nn hj,nn hj];exact⟨_,rfl⟩
theorem Zbh(hc:X.calm=true):Yt X (.builtin "min") (fun xs H Q=>∃i j,xs=[.int i,.int j]/\Q (.int (if j<i then j else i)) H):=by
 intro cQ s σ H xs us Q I r h;obtain⟨i,j,rfl,q⟩:=h;obtain⟨u,w',rfl,⟨t,rfl⟩,⟨t',rfl⟩⟩:=jU r;refine min_two_ints (I.ok.hd hc) fun h' tk k=>⟨_,H,I.kept k,?_,q⟩
 by_cases hj:j<i
 ·rw[nt hj,nt hj];exact⟨_,rfl⟩
 ·rw[nn hj,nn hj];exact⟨_,rfl⟩
end
structure KR(h:Heap)(x dx C:Addr)(mA:Str->81):Prop where
 obj:h.get? x=some (W.instObj C dx)
 ns:h.Ns1 dx mA
 ne:dx≠x
def ZbC(n:h.Ns1 dx mA):∃od,h.get? dx=some od/\∀name,W.lookIn name od=some (mA name):=by
 obtain⟨o,es,ep,ho,hd,hk,_,hm⟩:=n;refine⟨o,ho,fun name=>?_⟩;have e:=hm name;unfold nsFind findBy at e;rw[<- Array.find?_toList] at e;unfold W.lookIn;rw[hd];dsimp only
 split
 ·rename_i y q
  rw[q] at e;exact fb some e
 ·rename_i q
  rw[q] at e;have a:es.toList.any (·.refKey)=false:=by
   rw[List.any_eq_false];intro y hy;obtain⟨z,t,rL⟩:=hk y (Array.mem_toList_iff.mp hy);simp[DictEntry.refKey,rL]
  have a':¬es.toList.any (·.refKey)=true:=by rw[a];exact fB
  rw[nn a'];exact fb some e
def KR.look{x:Addr}(I:KR h x dx C mA):∃od,W.InstAt h x (W.instObj C dx) C (some od)/\∀name,W.lookIn name od=some (mA name):=
 let ⟨od,ho,hl⟩:=ZbC I.ns
 ⟨od,⟨I.obj,rfl,rfl,ho⟩,hl⟩
section
variable{x f:Addr}{name:Str}{v:Value}
theorem Zee{FO:Bool}(X:K.In s.heap)(I:KR s.heap x dx C mA)(hg:W.plainGet K C name=true)(hh:W.hasDictIn K C=true)
  (ha:W.findIn K (.ref C) name=some none) (hv:mA name=some v) (Nt:W.handedIn v=true) (h:Q v { s with toks:=s.toks+1 }) :
  65 (getAttr (.ref x) name FO) Q E s:=by
 obtain⟨od,J,hl⟩:=I.look;exact W.get_value X J (W.plainGet_of hg).1 (W.findObj_own hh ha rfl (by rw[hl,hv])) Nt h
theorem Zdi{Q:Value×71->70}(X:K.In s.heap)(I:KR s.heap x dx C mA)(hg:W.plainGet K C name=true)
  (hf:W.findIn K (.ref C) name=some (some (.ref f))) (ht:W.isFn K (.ref f)=true) (hv:mA name=none) (h:Q (.ref f,[.ref x]) s) :
  65 (getMethod (.ref x) name pl) Q E s:=by
 obtain⟨od,J,hl⟩:=I.look;exact W.method_fn X J (W.plainGet_of hg).1 (W.plainGet_of hg).2 hf (iM.mp ht) (by show(W.lookIn name od).map (·.isSome)=some false;rw[hl,hv];rfl) h
theorem Ze6{ns:50}{Q:Unit->70}(X:K.In s.heap)(I:KR s.heap x dx C mA)
  (hs:W.findIn K (.ref C) "__setattr__" = some (some (.builtin "object.__setattr__"))) (hp:W.plainOver K C=true) (ht:W.takerIn K C name=some none) (hh:W.hasDictIn K C=true)
  (hw:PySem.Within mA ns) (hsz:ns.length<=sizeLine)
  (h:∀h',KR h' x dx C (fun y=>if y=name then some v else mA y)->Heap.SameBut dx s.heap h'->Q () { s with heap:=h',toks:=s.toks+2 }) :
  65 (setAttr (.ref x) name v) Q E s:=by
 obtain⟨od,J,hl⟩:=I.look;refine W.set_plain X J hs (W.osa_open (s:={ s with toks:=s.toks+1 }) (r:=none) X J hp ht fun b=>?_);obtain⟨cd,hc,rO⟩:=W.any_some hh;have hx:s.heap.get? x=some ⟨.ref C,some dx,.plain,#[]⟩:=I.obj;refine dZ (eh (dZ (dZ (wpAny_loadPart hx (dZ (W.Looks.here (s:={ s with toks:=s.toks+1 }) (W.looks_clsIn X hc) ?_))))));rw[rO];refine eh (a:=some dx) (dZ (eh (dZ ?_)));refine wpAny_nsSet1 (s:={ s with toks:=s.toks+1 }) I.ns fun h' CI rh=>?_;obtain⟨oD,esD,epD,On,Ps,S9⟩:=CI.count (PySem.Within.cons name v hw);refine dZ (wpAny_lookBehind On (by rw[Ps];exact pastItsLine_dict (eW S9 (by rw[fG];lia))) ?_);exact eh (h _ ⟨(rh.2 _ (eX I.ne)).trans I.obj,CI,I.ne⟩ rh)
theorem Zcx{vs:71}(X:K.In s.heap)(hm:W.makesIn K C=true)
  (hi:W.findIn K (.ref C) "__init__" = some (some (.ref f))) (hf:W.typeIn K (.ref f)=some (.type "function"))
  (h:codeAny (model prog w) (A.under (.builtin "type.__call__" ⟨.ref C::vs,kw⟩)) (.call (.ref f) ⟨.ref 76::vs,kw⟩) (W.InitBack 76 R) { s with heap:=(s.heap.push W.emptyDict).push (W.instObj C s.heap.objs.size) }) :
  codeAny (model prog w) A (.call (.ref C) ⟨vs,kw⟩) R s:=by
 obtain⟨hh,g,d,t,os⟩:=s;exact W.make_core (W.makes_of X hm) (W.looks_findIn X hi) (fun self=>W.bind_fn X self hf) (.inl rfl) h
end
def Yu(f:Str)(v:V):78->78
 |[]=>[(f,v)]
 | (g,x)::r=>if g=f then(g,v)::r else(g,x)::Yu f v r
def ym(f g:Str)(v:V):∀fs:78,(Yu f v fs).lookup g=if g=f then some v else fs.lookup g
 |[]=>by
  show θ g [(f,v)]=_
  by_cases h:g=f
  ·have hb:(g==f)=true:=iM.mpr h;simp only[θ,hb,nt h]
  ·have hb:(g==f)=false:=iq.mpr h;simp only[θ,hb,nn h]
 | (k,x)::r=>by
  have ih:=ym f g v r;rw[show Yu f v ((k,x)::r)=(if k=f then(k,v)::r else(k,x)::Yu f v r) from rfl]
  by_cases hk:k=f
  ·rw[nt hk]
   by_cases h:g=k
   ·have hb:(g==k)=true:=iM.mpr h;simp only[θ,hb,nt (h.trans hk)]
   ·have hb:(g==k)=false:=iq.mpr h;simp only[θ,hb,nn (fun e:g=f=>h (e.trans hk.symm))]
  ·rw[nn hk]
   by_cases h:g=k
   ·have hb:(g==k)=true:=iM.mpr h;simp only[θ,hb,nn (fun e:g=f=>hk (h.symm.trans e))]
   ·have hb:(g==k)=false:=iq.mpr h;simp only[θ,hb];exact ih
def ye(f:Str)(v:V):∀fs:78,f∈(Yu f v fs).map (·.1)/\∀g,g∈fs.map (·.1)->g∈(Yu f v fs).map (·.1)
 |[]=>⟨by simp[Yu],fun g h=>by simp at h⟩
 | (k,x)::r=>by
  obtain⟨i1,i2⟩:=ye f v r;rw[show Yu f v ((k,x)::r)=(if k=f then(k,v)::r else(k,x)::Yu f v r) from rfl]
  by_cases hk:k=f
  ·rw[nt hk];subst hk;exact⟨by simp,fun g h=>by simpa using h⟩
  ·rw[nn hk];refine⟨?_,fun g h=>?_⟩
   ·rw[eM];exact eT _ i1
   ·rw[eM] at h ⊢;rcases eU.mp h with e|e
    ·exact eU.mpr (.inl e)
    ·exact eT _ (i2 g e)
def yr(f:Str)(v:V):∀fs:78,(Yu f v fs).length<=fs.length+1
 |[]=>by simp[Yu]
 | (k,x)::r=>by
  have ih:=yr f v r;rw[show Yu f v ((k,x)::r)=(if k=f then(k,v)::r else(k,x)::Yu f v r) from rfl]
  by_cases hk:k=f
  ·rw[nt hk,fG,fG];lia
  ·rw[nn hk,fG,fG];lia
def V6.some_of{o:81}(r:V6 (some v) o):∃u,o=some u/\ZL v u:=by
 cases o with
 |none=>exact(show False from r).elim
 |some u=>exact⟨u,rfl,r⟩
def V6.none_of{o:81}(r:V6 none o):o=none:=by
 cases o with
 |none=>rfl
 |some u=>exact(show False from r).elim
def Za5(r:ZL v u):W.handedIn u=true:=by
 cases v with
 |non=>cases (show u=Value.none from r);rfl
 |bl b=>cases (show u=Value.bool b from r);rfl
 |int i=>obtain⟨t,e⟩:=(show ∃t,u=Value.int i t from r);cases e;rfl
 |str x=>obtain⟨t,e⟩:=(show ∃t,u=Value.str x t from r);cases e;rfl
 |byt b=>obtain⟨t,e⟩:=(show ∃t,u=Value.bytes b t from r);cases e;rfl
 |flt b=>obtain⟨t,e⟩:=(show ∃t,u=Value.float b t from r);cases e;rfl
 |ref a=>cases (show u=Value.ref a from r);rfl
 |ty n=>cases (show u=Value.type n from r);rfl
section
variable{fs wV:List (Str×V)}
theorem yS(hok:HOk P w H h)(e:H a=some (.ins C dx fs)):∃mA,KR h a dx C mA/\(∀f,V6 (fs.lookup f) (mA f))/\PySem.Within mA (fs.map (·.1))/\fs.length<=1000/\H dx=some (.own a):=by
 obtain⟨d,z,ne,ob,mA,n,r,q⟩:=(show Yp P w H h a (.ins C dx fs) from hok a _ e);exact⟨mA,⟨ob,n,ne⟩,r,q,z,d⟩
end
structure Cls(K:W.Frag)(C:Addr):Prop where
 pg:W.plainGet K C Str.empty=true
 hd:W.hasDictIn K C=true
 po:W.plainOver K C=true
 sa:W.findIn K (.ref C) "__setattr__" = some (some (.builtin "object.__setattr__"))
def Cls.get(c:Cls K C)(f:Str):W.plainGet K C f=true:=c.pg
def Wi(K:W.Frag)(C:Addr)(f:Str):Prop:=W.findIn K (.ref C) f=some none
def Wi.taker{f:Str}(n:Wi K C f):W.takerIn K C f=some none:=by
 unfold W.takerIn;rw[show W.findIn K (.ref C) f=some none from n];rfl
structure ZdU(K:W.Frag)(C:Addr)(m:Str)(f:Addr):Prop where
 at_:W.findIn K (.ref C) m=some (some (.ref f))
 fn:W.isFn K (.ref f)=true
 kp:W.keepIn K (.ref f)=true
section
variable{fs:List (Str×V)}{f:Str}
theorem QB{b:Bool}(I:49 H s)(e:H a=some (.ins C dx fs))(c:Cls X.K C)(n:Wi X.K C f)(l:fs.lookup f=some v)
  (h:∀u s',49 H s'->ZL v u->Q u s'):31 A (getAttr (.ref a) f b) Q E s:=by
 obtain⟨mA,O,r,_,_,_⟩:=yS I.hok e;obtain⟨u,hu,ru⟩:=V6.some_of (v:=v) (o:=mA f) (by rw[<- l];exact r f);exact Zee I.kIn O (c.get f) c.hd n hu (Za5 ru) (h u _ (I.tok _) ru)
theorem qK{m:Str}{g:Addr}{Q:Value×71->70}(I:49 H s)(e:H a=some (.ins C dx fs))(c:Cls X.K C)(k:ZdU X.K C m g)(l:fs.lookup m=none)
  (h:Q (.ref g,[.ref a]) s):31 A (getMethod (.ref a) m pl) Q E s:=by
 obtain⟨mA,O,r,_,_,_⟩:=yS I.hok e;have hn:mA m=none:=V6.none_of (by rw[<- l];exact r m);exact Zdi I.kIn O (c.get m) k.at_ k.fn hn h
theorem Qr{Q:Unit->70}(I:49 H s)(e:H a=some (.ins C dx fs))(c:Cls X.K C)(n:Wi X.K C f)(hl:fs.length<1000)(ry:ZL y u)
  (h:∀s',49 (upd H a (.ins C dx (Yu f y fs))) s'->Q () s'):31 A (setAttr (.ref a) f u) Q E s:=by
 obtain⟨mA,O,r,wi,_,ho⟩:=yS I.hok e;have hz:(fs.map (·.1)).length<=sizeLine:=by rw[eG,eJ];lia
 refine Ze6 I.kIn O c.sa c.po n.taker c.hd wi hz fun h' O' sb=>h _ ?_;have hd:∃o,h'.get? dx=some o:=let ⟨o,_,_,e',_⟩:=O'.ns; ⟨o,e'⟩
 refine I.write (x:=a) (e:=dx) (by rw[e];exact True.intro) (.inr ho) (fun b q hb z=>(sb.2 b hb).trans z) hd ?_;refine⟨by rw[Zo O.ne];exact ho,?_,O.ne,O'.obj,_,O'.ns,fun g=>?_,fun g hg=>?_⟩
 ·have:=yr f y fs;lia
 ·show V6 ((Yu f y fs).lookup g) (if g=f then some u else mA g)
  rw[ym]
  by_cases q:g=f
  ·rw[nt q,nt q];exact ry
  ·rw[nn q,nn q];exact r g
 ·by_cases q:g=f
  ·rw[q];exact(ye f y fs).1
  ·refine(ye f y fs).2 g (wi g fun z=>hg ?_)
   show(if g=f then some u else mA g)=none
   rw[nn q];exact z
theorem Inv.made(I:49 H s):49 (upd (upd H s.heap.objs.size (.own 76)) 76 (.ins C s.heap.objs.size []))
  { s with heap:=(s.heap.push W.emptyDict).push (W.instObj C s.heap.objs.size) }:=by
 have e1:(s.heap.push W.emptyDict).get? s.heap.objs.size=some W.emptyDict:=fg s.heap rfl;have e2:((s.heap.push W.emptyDict).push (W.instObj C s.heap.objs.size)).get? 76=some (W.instObj C s.heap.objs.size):=by
  have:=fg (s.heap.push W.emptyDict) (o:=W.instObj C s.heap.objs.size) rfl
  rwa [hV] at this
 have e3:(s.heap.push W.emptyDict).Ns s.heap.objs.size (fun _=>none):=⟨W.emptyDict,#[],_,e1,rfl,(fun e he=>nu he 47),fun _=>rfl⟩;have I1:=I.laid (a:=s.heap.objs.size) (o:=.own 76) (h':=s.heap.push W.emptyDict) (t':=s.toks) (fun b u q=>eN _ q) (eE _) ⟨_,e1⟩;refine I1.laid (a:=s.heap.objs.size+1) (o:=.ins C s.heap.objs.size []) (t':=s.toks) (fun b u q=>eN _ q) (Nat.le_of_eq (hV _ _)) ?_;have ne:s.heap.objs.size≠s.heap.objs.size+1:=eQ (iw _);refine⟨by rw[Zo ne,Zc],fu _,ne,e2,fun _=>none,(Heap.Ns1.of_empty e3).at fun o q=>eN _ q,fun _=>True.intro,fun y hy=>nu rfl hy⟩
theorem ZeH{f:Str}(hb:attributeBase e f env (eval e env)=eval e env)
  (h:65 (eval e env) (fun o s₁=>65 (getAttr o f true) Q E s₁) E s):65 (eval (.Attribute e f gT) env) Q E s:=
 Attribute_any_ h (by rw[arm_eval_Attribute,hb])
end
inductive Zg6(K:W.Frag)(f:Str)(x:V)(H:Hp)(Q:VK):Prop
 |mk (a C dx:Addr) (fs:78) (v:V) (h1:x=.ref a) (h2:H a=some (.ins C dx fs)) (h3:Cls K C) (h4:Wi K C f) (h5:fs.lookup f=some v) (k:Q v H):Zg6 K f x H Q
def ZhI(K:W.Frag)(ta:TE)(f:Str):TE:=fun σ H Q=>ta σ H fun x H1=>Zg6 K f x H1 Q
def sFld(K:W.Frag)(ta tv:TE)(f:Str):TS:=fun D σ H=>tv σ H fun y H1=>ta σ H1 fun x H2=>∃a C dx fs,x=.ref a/\H2 a=some (.ins C dx fs)/\Cls K C/\Wi K C f/\fs.length<1000 /\
 D.nx σ (upd H2 a (.ins C dx (Yu f y fs)))
section
variable{o nz:Expr}{f:Str}{BK:Pos}{ta:TE}
theorem ZfN(he:PE X e ta)(hb:attributeBase e f X.env (eval e X.env)=eval e X.env):PE X (.Attribute e f gT) (ZhI X.K ta f):=by
 intro cQ s σ H Q I h;refine ZeH hb (thn (he cQ s σ H _ I h) fun u s1 ⟨x,H1,I1,rx,a,C,dx,fs,v,ex,ea,c,n,l,q⟩=>?_);subst ex;obtain rfl:u=Value.ref a:=rx;exact QB I1 ea c n l fun u' s2 I2 ru=>⟨v,H1,I2,ru,q⟩
theorem qA(ha:PE X o ta)(hv:PE X nz tv)(hs:swapsWith nz (some (.Attribute o f nU)) gT.line X.env=pure false):PS X (.Assign [.Attribute o f nU] nz gT) (sFld X.K ta tv f):=by
 intro cQ s σ H D I h;refine plainObj_wpAny_Assign_Attribute (thn (hv cQ s σ H _ I h) fun u s1 ⟨y,H1,I1,ry,q⟩=>thn (ha cQ s1 σ H1 _ I1 q) fun ov s2 ⟨x,H2,I2,rx,a,C,dx,fs,ex,ea,c,n,l,q2⟩=>?_) hs;subst ex;obtain rfl:ov=Value.ref a:=rx;exact Qr I2 ea c n l ry fun s3 I3=>⟨σ,_,I3,q2⟩
theorem Zfc{m:Str}{apos:Pos}{args:List Expr}(he:PE X e te)(I:49 H s)
  (h:te σ H fun x H1=>∃a C dx fs g,x=.ref a/\H1 a=some (.ins C dx fs)/\Cls X.K C/\ZdU X.K C m g/\fs.lookup m=none /\ ∀s1,49 H1 s1->31 X.A (callWith gT (.ref g) [.ref a] (backTo gT (starEach args X.env)) (backToKw gT (keywordEach [] X.env))) Q X.xe s1)
  (ht:eval (.Call (.Attribute e m apos) args [] gT) X.env=(do
   let ov <- eval e X.env
   standAt apos.atName
   let (f,first) <- holding [ov] (getMethod ov m pl)
   callWith gT f first (backTo gT (starEach args X.env)) (backToKw gT (keywordEach [] X.env)))) :
  31 X.A (eval (.Call (.Attribute e m apos) args [] gT) X.env) Q X.xe s:=by
 refine mO (pl:=pl) (thn (he cQ s σ H _ I h) fun u s1 ⟨x,H1,I1,rx,a,C,dx,fs,g,ex,ea,c,k,l,q⟩=>?_) ht;subst ex;obtain rfl:u=Value.ref a:=rx;exact qK I1 ea c k l (q s1 I1)
end
section
variable{c:Value}{b:Bool}
inductive qf(K:W.Frag)(H:Hp):V->Value->Prop where
 |non:qf K H .non (.type "NoneType")
 |bl (x:Bool):qf K H (.bl x) (.type "bool")
 |int (i:Int):qf K H (.int i) (.type "int")
 |str (x:Str):qf K H (.str x) (.type "str")
 |flt (x:UInt64):qf K H (.flt x) (.type "float")
 |lst {a:Addr}{xs:List V} (e:H a=some (.lst xs)):qf K H (.ref a) (.type "list")
 |frz {a:Addr}{o:Obj}{xs:List V} (e:H a=some (.frz o (.lst xs))):qf K H (.ref a) (.type "list")
 |tup {a:Addr}{xs:List V} (e:H a=some (.tup xs)):qf K H (.ref a) (.type "tuple")
 |dK {a:Addr}{kvs:List (Key×V)} (e:H a=some (.dK kvs)):qf K H (.ref a) (.type "dict")
 |dT {a:Addr}{kvs:List (List Key×V)} (e:H a=some (.dT kvs)):qf K H (.ref a) (.type "dict")
 |ins {a C dx:Addr}{fs:78} (e:H a=some (.ins C dx fs)) (cl:Cls K C) (ha:W.findIn K (.ref C) "__class__" = some (some (.builtin "object.__class__")))
   (hn:W.specialIn K (.builtin "object.__class__") "__get__" = some (some (.builtin "getset_descriptor.__get__"))) (htk:W.takesIn K (.builtin "object.__class__")=some true)
   (hm:W.mroIn K C (.type "object")=some true):qf K H (.ref a) (.ref C)
theorem ju{x:V}{t:Value}(I:49 H s)(rx:ZL x u)(ty:qf X.K H x t)(e:W.kitOne X.K t c=some b)(h:∀tk,Q (.bool b) { s with toks:=tk }) :
  31 A (call (.builtin "isinstance") [u,c]) Q E s:=by
 cases ty with
 |non=>cases (show u=Value.none from rx);exact gE W.kitx_none I.kIn True.intro e (fun z=>nomatch z) h
 |bl y=>cases (show u=Value.bool y from rx);exact gE W.kitx_bool I.kIn True.intro e (fun z=>nomatch z) h
 |int i=>obtain⟨t,q⟩:=(show ∃t,u=Value.int i t from rx);cases q;exact gE W.kitx_int I.kIn True.intro e (fun z=>nomatch z) h
 |str y=>obtain⟨t,q⟩:=(show ∃t,u=Value.str y t from rx);cases q;exact gE W.kitx_str I.kIn True.intro e (fun z=>nomatch z) h
 |flt y=>obtain⟨t,q⟩:=(show ∃t,u=Value.float y t from rx);cases q;exact gE W.kitx_float I.kIn True.intro e (fun z=>nomatch z) h
 |@lst a xs ea=>
  cases (show u=Value.ref a from rx);obtain⟨_,_,n,_,h1⟩:=(show Yp X.prog X.w H s.heap a (.lst xs) from I.hok a _ ea);exact gE W.kitx_list I.kIn ⟨_,h1,rfl⟩ e (fun z=>nomatch z) h
 |@frz a ob xs ea=>
  cases (show u=Value.ref a from rx);obtain⟨_,_,_,n,_,h1⟩:=(show Yp X.prog X.w H s.heap a (.frz ob (.lst xs)) from I.hok a _ ea);exact gE W.kitx_list I.kIn ⟨_,h1,rfl⟩ e (fun z=>nomatch z) h
 |@tup a xs ea=>
  cases (show u=Value.ref a from rx);obtain⟨_,_,_,p⟩:=(show Yp X.prog X.w H s.heap a (.tup xs) from I.hok a _ ea);obtain⟨o,h1,h2,_⟩:=p;exact gE W.kitx_tuple I.kIn ⟨o,h1,h2⟩ e (fun z=>nomatch z) h
 |@dK a kvs ea=>
  cases (show u=Value.ref a from rx);obtain⟨_,_,vs,_,p⟩:=(show Yp X.prog X.w H s.heap a (.dK kvs) from I.hok a _ ea);obtain⟨o,es,ep,h1,h2,_⟩:=p;exact gE W.kitx_dict I.kIn ⟨o,h1,h2.1⟩ e (fun z=>nomatch z) h
 |@dT a kvs ea=>
  cases (show u=Value.ref a from rx);obtain⟨_,_,xs,_,o,es,ep,h1,h2,_⟩:=(show Yp X.prog X.w H s.heap a (.dT kvs) from I.hok a _ ea);exact gE W.kitx_dict I.kIn ⟨o,h1,h2.1⟩ e (fun z=>nomatch z) h
 |@ins a C dx fs ea cl ha hn htk hm=>
  cases (show u=Value.ref a from rx);obtain⟨mA,O,_⟩:=yS I.hok ea;obtain⟨od,J,_⟩:=O.look;exact gE (W.kitx_own (cl.get _) cl.hd ha hn htk hm) I.kIn J e (fun z=>nomatch z) h
end
structure YK(k:Nat)(A:Around):Prop where
 hd:A.handled=none
 dp:A.depth+3*k+5<recursionLimit
 un:A.units+16*k+200<cLine
def YK.mono{k:Nat}(r:YK k A)(h:j<=k):YK j A:=⟨r.hd,by have:=r.dp;lia,by have:=r.un;lia⟩
def YK.deeper{k:Nat}{A:Around}(r:YK (k+1) A)(env:Env):YK k (A.deeper env):=
 ⟨r.hd,by have:=r.dp;show A.depth+1+3*k+5<_;lia,by have:=r.un;show A.units+3+16*k+200<_;lia⟩
def K3:(A.under (.builtin "type.__call__" ⟨.ref C::us,kw⟩)).depth=A.depth+1:=by
 first|rfl|simp[Around.under,Code.weight,Code.isCreation,Code.isGuard,Code.isCaller,Code.frames,Code.isFrame,guardIds]
def QG:(A.under (.builtin "type.__call__" ⟨.ref C::us,kw⟩)).units=A.units+1:=by
 first|rfl|simp[Around.under,Code.cUnits,Code.frames,Code.isFrame]
def YK.make{k:Nat}(r:YK (k+1) A)(C:Addr)(us:71)(kw:List (Str×Value)):YK k (A.under (.builtin "type.__call__" ⟨.ref C::us,kw⟩)):=
 ⟨r.hd,by have:=r.dp;rw[K3];lia,by have:=r.un;rw[QG];lia⟩
def YK.depth{k:Nat}{A:Around}(r:YK k A):A.depth<recursionLimit:=by have:=r.dp;lia
def YK.units{k:Nat}{A:Around}(r:YK k A):A.units+64<cLine:=by have:=r.un;lia
def YK.units0{k:Nat}(r:YK k A):A.units<cLine:=by have:=r.un;lia
def kE:TA:=fun _ H Q=>Q [] H
def xC(ta:TE)(tr:TA):TA:=fun σ H Q=>ta σ H fun x H1=>tr σ H1 fun xs H2=>Q (x::xs) H2
section
variable{X:Cx}{e:Expr}{es:List Expr}{te:TE}{t:TA}{gT:Pos}
theorem Zb:PA X [] kE:=fun _ _ _ _ H Q I h=>Calls.spliced_nil ⟨[],H,I,.nil,h⟩
theorem Za(ha:PE X e te)(hr:PA X es t)(hs:starEach (e::es) X.env=(false,eval e X.env)::starEach es X.env:=by rfl):PA X (e::es) (xC te t):=by
 intro gT cQ s σ H Q I h;rw[hs]
 show 79 (spliced ((false,eval e X.env)::backTo gT (starEach es X.env))) _ _ s
 refine Calls.spliced_cons (thn (ha cQ s σ H _ I h) fun u s1 ⟨x,H1,I1,r1,q1⟩=>?_);exact thn (hr gT cQ s1 σ H1 _ I1 q1) fun us s2 ⟨xs,H2,I2,r2,q2⟩=>⟨x::xs,H2,I2,.cons r1 r2,q2⟩
inductive Zgn(xs:List V)(o:HO)(H:Hp)(Q:VK):Prop
 |mk (z:xs.length<=sizeLine) (k:∀p,H p=none->Q (.ref p) (upd H p o)):Zgn xs o H Q
def tTup(t:TA):TE:=fun σ H Q=>t σ H fun xs H1=>Zgn xs (.tup xs) H1 Q
def Zhg(t:TA):TE:=fun σ H Q=>t σ H fun xs H1=>Zgn xs (.lst xs) H1 Q
theorem ZI{x1}(h:PA X es t):PE X (.Tuple es x1 gT) (tTup t):=by
 intro cQ s σ H Q I hq;refine wpAny_Tuple_spliced (thn (h gT cQ s σ H _ I hq) fun us s1 ⟨xs,H1,I1,r,z,q⟩=>⟨by rw[<- r.length];exact z,?_⟩);have hf:H1 s1.heap.objs.size=none:=I1.hok.fresh (eE _);refine⟨.ref s1.heap.objs.size,upd H1 s1.heap.objs.size (.tup xs),I1.laid (t':=s1.toks) (fun b u e=>eN _ e) (eE _) ?_,rfl,q _ hf⟩;exact⟨z,us,r,⟨_,fg _ rfl,rfl,_,rfl⟩⟩
theorem Yd(h:PA X es t):PE X (.List es gT) (Zhg t):=by
 intro cQ s σ H Q I hq;refine wpAny_List_spliced (thn (h gT cQ s σ H _ I hq) fun us s1 ⟨xs,H1,I1,r,z,q⟩=>⟨by rw[<- r.length];exact z,?_⟩);have hf:H1 s1.heap.objs.size=none:=I1.hok.fresh (eE _);refine⟨.ref s1.heap.objs.size,upd H1 s1.heap.objs.size (.lst xs),I1.laid (t':=s1.toks) (fun b u e=>eN _ e) (eE _) ?_,rfl,q _ hf⟩;exact⟨z,us,0,r,fg _ rfl⟩
end
abbrev Sp:=List V->Hp->VK->XK->Prop
abbrev CXT:=List Env->Hp->Shared->XK->Value->70
structure kN(P:Program)(w:World)(K:W.Frag)(mg:Str->81)(base:Heap)(A:Around)(outer:List Env)(s:Shared)(H:Hp):Prop where
 frames:A.frames=some outer
 mod:Mod K mg base
 bs:∀b o,base.get? b=some o->s.heap.get? b=some o/\H b=none
 bsz:base.objs.size<=s.heap.objs.size
 funs:s.heap.FunFrames base outer
 frf:∀b∈frs outer,H b=none
 hok:HOk P w H s.heap
 bare:AllBare s.gens
def CE(outer:List Env)(P:Program)(w:World)(H:Hp)(s:Shared)(Q:VK)(u:Value)(s':Shared):Prop:=
 ∃v H',s'.os=s.os/\AllBare s'.gens/\Un (frs outer) [] H H' s.heap s'.heap/\HOk P w H' s'.heap/\ZL v u/\Q v H'
def CR(CX:CXT)(outer:List Env)(P:Program)(w:World)(H:Hp)(s:Shared)(Q:VK)(E:XK)(r:Result)(s':Shared):Prop:=
 match r with
 |.ok (.ret u)=>CE outer P w H s Q u s'
 |.ok _=>False
 |.error e=>CX outer H s E e s'
structure WK(P:Program)(w:World)(K:W.Frag)(mg:Str->81)(base:Heap)(CX:CXT)(k:Nat)(f:Addr)(fd:FuncData)(ps:50)(sp:Sp):Prop where
 len:∀vs H Q E,sp vs H Q E->vs.length=ps.length
 run:∀(A:Around) (outer:List Env) (s:Shared) (H:Hp) (args:Args) (us:71) (vs:List V) (Q:VK) (E:XK),YK k A->kN P w K mg base A outer s H->BindsTo s fd args (ps.zip us)->ZE vs us->sp vs H Q E ->
  codeAny (model P w) A (.call (.ref f) args) (CR CX outer P w H s Q E) s
def kN.make(e:kN P w K mg base A outer s H)(C:Addr)(us:71)(kw:List (Str×Value)) :
  kN P w K mg base (A.under (.builtin "type.__call__" ⟨.ref C::us,kw⟩)) outer s H:=⟨by first|exact e.frames|(simpa[Around.under,Code.envs,Code.isFrame,pushEnvs] using e.frames),e.mod,e.bs,e.bsz,e.funs,e.frf,e.hok,e.bare⟩
def Inv.env0(I:49 H s):kN X.prog X.w X.K X.mg X.base X.A X.stack s H:=
 ⟨I.ok.frames,I.ok.mod,I.bs,eW I.ok.bsz I.sz,I.stack,I.stkFree,I.hok,I.bare⟩
def Inv.after{Q:VK}(I:49 H s)(h:CE X.stack X.prog X.w H s Q u s'):EP X cQ σ Q u s':=by
 obtain⟨v,H',os,bare,un,hok,r,q⟩:=h;obtain⟨hh,g,d,t,Tj⟩:=s';obtain rfl:Tj=s.os:=os;exact⟨v,H',I.call (h':=hh) (g':=g) (d':=d) (t':=t) (ch:=[]) un hok bare (fun b z=>nu z 47),r,q⟩
def Zb1(sp:Sp)(oC:List V)(E:XK)(t:TA):TE:=fun σ H Q=>t σ H fun vs H1=>sp (vs++oC) H1 Q E
inductive Zfg(C:Addr)(m:Str)(x:V)(H:Hp)(B:Prop):Prop
 |mk (a dx:Addr) (fs:78) (h1:x=.ref a) (h2:H a=some (.ins C dx fs)) (h3:fs.lookup m=none) (k:B):Zfg C m x H B
def Zfe(C:Addr)(m:Str)(sp:Sp)(oC:List V)(E:XK)(ta:TE)(t:TA):TE:=fun σ H Q=>ta σ H fun x H1=>Zfg C m x H1 (t σ H1 fun vs H2=>sp (x::(vs++oC)) H2 Q E)
def Zfi(C:Addr)(sp:Sp)(oC:List V)(E:XK)(t:TA):TE:=fun σ H Q=>t σ H fun vs H1=>∀x dx,H1 x=none->H1 dx=none->dx≠x ->
 sp (.ref x::(vs++oC)) (upd (upd H1 dx (.own x)) x (.ins C dx [])) (fun v H2=>v=.non/\Q (.ref x) H2) E
def Vd(K:W.Frag)(fd:FuncData)(ps:50)(ds:71):Prop:=
 ∀(s:Shared) (us:71),K.In s.heap->(us++ds).length=ps.length->BindsTo s fd ⟨us,[]⟩ (ps.zip (us++ds))
def Vd.all{ps:50}(h:∀us:71,us.length=ps.length->bindArgs fd ⟨us,[]⟩=pure (ps.zip us)):Vd K fd ps []:=fun s us _ hl=>by
 rw[gp] at hl ⊢;exact .of_eq (h us hl)
def Ur(CX:CXT)(X:Cx)(E:XK):Prop:=∀(cQ:74) (σ:St) (H:Hp) (s:Shared) (e:Value) (s':Shared),49 H s->CX X.stack H s E e s'->X.xe e s'
section
variable{CX:CXT}{k:Nat}{f:Addr}{ps:List Str}{sp:Sp}{oC:List V}{ds:List Value}{E:XK}{x m:Str}{p apos:Pos}{o:Expr}{es:List Expr}{ta:TE}{t:TA}
theorem xN{Q:VK}(F:WK X.prog X.w X.K X.mg X.base CX k f fd ps sp)(hr:YK k X.A)(hb:Vd X.K fd ps ds)(hd:ZE oC ds)(hx:Ur CX X E)
  (I:49 H s) (r:ZE vs us) (h:sp (vs++oC) H Q E):31 X.A (call (.ref f) us) (EP X cQ σ Q) X.xe s:=by
 have r2:ZE (vs++oC) (us++ds):=r.append hd;have hl:(us++ds).length=ps.length:=by rw[<- r2.length];exact F.len _ _ _ _ h
 refine wpAny_call (hX (F.run X.A X.stack s H ⟨us,[]⟩ (us++ds) (vs++oC) Q E hr I.env0 (hb s us I.kIn hl) r2 h) fun r s' hq=>?_);cases r with
 |error e=>exact hx cQ σ H s e s' I hq
 |ok fl=>
  cases fl with
  |ret u=>exact I.after hq
  |next=>exact False.elim hq
  |brk=>exact False.elim hq
  |cont=>exact False.elim hq
theorem WN(F:WK X.prog X.w X.K X.mg X.base CX k f fd ps sp)(hr:YK k X.A)(hg:Gl X x)(hm:X.mg x=some (.ref f))(hk:W.keepIn X.K (.ref f)=true)(hb:Vd X.K fd ps ds)(hd:ZE oC ds)(hx:Ur CX X E)
  (ha:PA X (e::es) t) (pB:(x==("__debug__" : Str))=false:=by left) (he:starEach (e::es) X.env=(false,eval e X.env)::starEach es X.env:=by rfl) (oG:(backTo gT (starEach es X.env)).any (·.1)=false:=by rfl) :
  PE X (.Call (.Name x p) (e::es) [] gT) (Zb1 sp oC E t):=by
 intro cQ s σ H Q I h;refine gN (qW I hg hm ?_ pB);refine lF (h₀:=X.base) I.ok.mod.kin hk (thn (ha gT cQ s σ H _ I h) fun us s1 ⟨vs,H1,I1,r,q⟩=>⟨I1.kIn,?_⟩) he oG;exact xN F hr hb hd hx I1 r q
theorem U2(he:PE X o ta)(c:Cls X.K C)(hm:ZdU X.K C m f)(F:WK X.prog X.w X.K X.mg X.base CX k f fd ps sp)(hr:YK k X.A)(hb:Vd X.K fd ps ds)(hd:ZE oC ds)(hx:Ur CX X E)(ha:PA X (e::es) t)
  (nB:starEach (e::es) X.env=(false,eval e X.env)::starEach es X.env:=by rfl) (oG:(backTo gT (starEach es X.env)).any (·.1)=false:=by rfl)
  (ht:eval (.Call (.Attribute o m apos) (e::es) [] gT) X.env=(do
   let ov <- eval o X.env
   standAt apos.atName
   let (f,first) <- holding [ov] (getMethod ov m pl)
   callWith gT f first (backTo gT (starEach (e::es) X.env)) (backToKw gT (keywordEach [] X.env))):=by rfl) :
  PE X (.Call (.Attribute o m apos) (e::es) [] gT) (Zfe C m sp oC E ta t):=by
 intro cQ s σ H Q I h;refine mO (pl:=pl) (thn (he cQ s σ H _ I h) fun u s1 ⟨x,H1,I1,rx,a,dx,fs,ex,ea,l,q⟩=>?_) ht;subst ex;obtain rfl:u=Value.ref a:=rx;refine qK I1 ea c hm l ?_;refine lF (first:=[.ref a]) (h₀:=X.base) I.ok.mod.kin hm.kp (thn (ha gT cQ s1 σ H1 _ I1 q) fun us s2 ⟨vs,H2,I2,r,q2⟩=>⟨I2.kIn,?_⟩) nB oG;exact xN (us:=.ref a::us) (vs:=.ref a::vs) F hr hb hd hx I2 (.cons rfl r) q2
theorem zt(he:PE X o ta)(c:Cls X.K C)(hm:ZdU X.K C m f)(F:WK X.prog X.w X.K X.mg X.base CX k f fd ps sp)(hr:YK k X.A)(hb:Vd X.K fd ps ds)(hd:ZE oC ds)(hx:Ur CX X E)
  (ht:eval (.Call (.Attribute o m apos) [] [] gT) X.env=(do
   let ov <- eval o X.env
   standAt apos.atName
   let (f,first) <- holding [ov] (getMethod ov m pl)
   callWith gT f first (backTo gT (starEach [] X.env)) (backToKw gT (keywordEach [] X.env))):=by rfl) :
  PE X (.Call (.Attribute o m apos) [] [] gT) (Zfe C m sp oC E ta kE):=by
 intro cQ s σ H Q I h;refine mO (pl:=pl) (thn (he cQ s σ H _ I h) fun u s1 ⟨x,H1,I1,rx,a,dx,fs,ex,ea,l,q⟩=>?_) ht;subst ex;obtain rfl:u=Value.ref a:=rx;refine qK I1 ea c hm l ?_;exact W.callWith_K0 (first:=[.ref a]) I1.kIn hm.kp (xN (us:=[.ref a]) (vs:=[.ref a]) F hr hb hd hx I1 (.cons rfl .nil) q)
structure Mk(K:W.Frag)(C f:Addr):Prop where
 makes:W.makesIn K C=true
 init:W.findIn K (.ref C) "__init__" = some (some (.ref f))
 fn:W.isFn K (.ref f)=true
 kp:W.keepIn K (.ref C)=true
theorem KB{Q:VK}(M:Mk X.K C f)(F:WK X.prog X.w X.K X.mg X.base CX k f fd ps sp)(hr:YK (k+1) X.A)(hb:Vd X.K fd ps ds)(hd:ZE oC ds)
  (hx:Ur CX X E) (I:49 H s) (r:ZE vs us)
  (h:∀x dx,H x=none->H dx=none->dx≠x->sp (.ref x::(vs++oC)) (upd (upd H dx (.own x)) x (.ins C dx [])) (fun v H2=>v=.non/\Q (.ref x) H2) E) :
  31 X.A (call (.ref C) us) (EP X cQ σ Q) X.xe s:=by
 have hq:=h 76 s.heap.objs.size (I.hok.fresh (hZ _)) (I.hok.fresh (eE _)) (eQ (iw _));have I2:=Inv.made (C:=C) I;have r2:ZE (V.ref 76::(vs++oC)) (Value.ref 76::(us++ds)):=.cons rfl (r.append hd);have hl:(Value.ref 76::us++ds).length=ps.length:=by
  have e:=r2.length;rw[F.len _ _ _ _ hq] at e;exact e.symm
 refine wpAny_call (Zcx (f:=f) I.kIn M.makes M.init (iM.mp M.fn) (hX (F.run _ X.stack _ _ ⟨Value.ref 76::us,[]⟩ (Value.ref 76::(us++ds)) _ _ E (hr.make C us []) (I2.env0.make C us []) (hb _ (Value.ref 76::us) I2.kIn hl) r2 hq) fun r s' Be=>?_))
 cases r with
 |error e=>exact hx cQ σ _ _ e s' I2 Be
 |ok fl=>
  cases fl with
  |ret u=>
   obtain⟨v,H',I3,rv,ev,q3⟩:=I2.after Be;subst ev;exact⟨rv,⟨V.ref 76,H',I3,rfl,q3⟩⟩
  |next=>exact False.elim Be
  |brk=>exact False.elim Be
  |cont=>exact False.elim Be
theorem Zed(M:Mk X.K C f)(F:WK X.prog X.w X.K X.mg X.base CX k f fd ps sp)(hr:YK (k+1) X.A)(hg:Gl X x)(hm:X.mg x=some (.ref C))(hb:Vd X.K fd ps ds)(hd:ZE oC ds)(hx:Ur CX X E)
  (ha:PA X (e::es) t) (pB:(x==("__debug__" : Str))=false:=by left) (he:starEach (e::es) X.env=(false,eval e X.env)::starEach es X.env:=by rfl) (oG:(backTo gT (starEach es X.env)).any (·.1)=false:=by rfl) :
  PE X (.Call (.Name x p) (e::es) [] gT) (Zfi C sp oC E t):=by
 intro cQ s σ H Q I h;refine gN (qW I hg hm ?_ pB);refine lF (h₀:=X.base) I.ok.mod.kin M.kp (thn (ha gT cQ s σ H _ I h) fun us s1 ⟨vs,H1,I1,r,q⟩=>⟨I1.kIn,?_⟩) he oG;exact KB M F hr hb hd hx I1 r q
theorem Zca(M:Mk X.K C f)(F:WK X.prog X.w X.K X.mg X.base CX k f fd ps sp)(hr:YK (k+1) X.A)(hg:Gl X x)(hm:X.mg x=some (.ref C))(hb:Vd X.K fd ps ds)(hd:ZE oC ds)(hx:Ur CX X E)
  (pB:(x==("__debug__" : Str))=false:=by left):PE X (.Call (.Name x p) [] [] gT) (Zfi C sp oC E kE):=by
 intro cQ s σ H Q I h;refine gN (qW I hg hm ?_ pB);exact W.callWith_K0 I.kIn M.kp (KB (us:=[]) M F hr hb hd hx I .nil h)
end
section
variable{CX:CXT}{k:Nat}{f:Addr}{ps ks:List Str}{sp:Sp}{E:XK}{x m:Str}{p apos Ft:Pos}{o:Expr}{es:List Expr}{Pu:List Keyword}{ta:TE}{t tk:TA}{nm:Option Str}
variable{g:List Value->List Value->List Value}{gV:List V->List V->List V}
end
structure Zs(N P:50)(sc:Scope):Prop where
 kind:sc.kind=.function
 co:sc.isCoroutine=false
 gen:sc.isGenerator=false
 nd:N.Nodup
 pre:N.take P.length=P
 par:∀x∈P,sc.names.lookup x=some .local\/sc.names.lookup x=some .cell
 nofree:∀y∈sc.names,y.2≠.free
def vY{kindOf:Str->Option NameKind}{x:Str}:∀{binds:List (Str×Value)}{m:Str->81},(∀v,(x,v)∉binds)->bindL kindOf binds m x=m x
 |[],_,_=>rfl
 | (n,v)::r,m,h=>by
  unfold bindL;rw[vY fun w hw=>h w (eT _ hw)]
  split
  ·have:x≠n:=by rintro rfl;exact h v gU
   simp[this]
  ·rfl
def jd{kindOf:Str->Option NameKind}{x:Str}:∀{binds:List (Str×Value)}{m:Str->81},(∀v,(x,v)∉binds)->bindC kindOf binds m x=m x
 |[],_,_=>rfl
 | (n,v)::r,m,h=>by
  unfold bindC;rw[jd fun w hw=>h w (eT _ hw)]
  split
  ·rfl
  ·have:x≠n:=by rintro rfl;exact h v gU
   simp[this]
def jn{kindOf:Str->Option NameKind}{x:Str}{v:Value}:∀{P:50}{vs:71}{i:Nat}{m:Str->81},P.Nodup->P[i]?=some x->vs[i]?=some v->kindOf x=some .local ->
  bindL kindOf (P.zip vs) m x=some v
 |[],_,_,_,_,h,_,_=>by simp at h
 |_::_,[],_,_,_,_,h,_=>by simp at h
 |p::P,w::vs,0,m,nd,h1,h2,hk=>by
  simp at h1 h2;subst h1;subst h2
  show bindL kindOf ((p,w)::P.zip vs) m p=_
  unfold bindL;rw[vY fun v hv=>(gF.mp nd).1 (iN hv).1,nt hk];simp
 |p::P,w::vs,i+1,m,nd,h1,h2,hk=>by
  show bindL kindOf ((p,w)::P.zip vs) m x=_
  unfold bindL;exact jn (i:=i) (gF.mp nd).2 (by simpa using h1) (by simpa using h2) hk
def jo{kindOf:Str->Option NameKind}{x:Str}{v:Value}:∀{P:50}{vs:71}{i:Nat}{m:Str->81},P.Nodup->P[i]?=some x->vs[i]?=some v->kindOf x≠some .local ->
  bindC kindOf (P.zip vs) m x=some v
 |[],_,_,_,_,h,_,_=>by simp at h
 |_::_,[],_,_,_,_,h,_=>by simp at h
 |p::P,w::vs,0,m,nd,h1,h2,hk=>by
  simp at h1 h2;subst h1;subst h2
  show bindC kindOf ((p,w)::P.zip vs) m p=_
  unfold bindC;rw[jd fun v hv=>(gF.mp nd).1 (iN hv).1,nn hk];simp
 |p::P,w::vs,i+1,m,nd,h1,h2,hk=>by
  show bindC kindOf ((p,w)::P.zip vs) m x=_
  unfold bindC;exact jo (i:=i) (gF.mp nd).2 (by simpa using h1) (by simpa using h2) hk
def UI(N:50)(vs:List V):St:=vs.map some++List.replicate (N.length-vs.length) none
def jZ(CX:CXT)(P:Program)(w:World)(K:W.Frag)(mg:Str->81)(base:Heap)(N:50)(qual:Str)(scope:Scope)(f:Addr)(cd:Value)(A:Around)(outer:List Env)(s:Shared)(H:Hp)(E:XK):Cx where
 prog:=P
 w:=w
 K:=K
 mg:=mg
 base:=base
 A:=A.deeper (envOfC qual scope s.heap.objs.size f cd)
 N:=N
 s₀:=s
 H₀:=H
 env:=envOfC qual scope s.heap.objs.size f cd
 outer:=outer
 stack:=envOfC qual scope s.heap.objs.size f cd::outer
 ex:=[]
 calm:=true
 fn:=fun _=>true
 pn:=[]
 xe:=fun e s'=>wpAny (model P w) (A.deeper (envOfC qual scope s.heap.objs.size f cd)) (leaving (envOfC qual scope s.heap.objs.size f cd) e) (fun _ BC=>CX outer H s E e BC) (fun e' BC=>CX outer H s E e' BC) s'
def Kk{x:Str}(h:sc.names.lookup x=some .cell):∃c,(cellsFrom n sc.names []).lookup x=some c:=by
 have q:=W.cellsFrom_some sc.names n [] (.inl h);exact ml.mp q
def Zbl{CX:CXT}{ps:50}{f:Addr}{s1:Shared}{E:XK}
  (S:Zs N ps scope) (hd:A.handled=none) (e0:kN P w K mg base A outer s H) (hl:vs.length=ps.length) (r:ZE vs us)
  (x:InCallC s s.heap.objs.size (bindL (envOfC qual scope s.heap.objs.size f cd).kindOf (ps.zip us) fun _=>none) (cellsFrom 76 scope.names []) (bindC (envOfC qual scope s.heap.objs.size f cd).kindOf (ps.zip us) fun _=>none) s1) :
  Inv (jZ CX P w K mg base N qual scope f cd A outer s H E) [] (UI N vs) H s1:=by
 have oG:ps.length<=N.length:=by have:=fb μ S.pre;rw[fh] at this;lia
 obtain⟨h1,tk,rfl,hk⟩:=x.done;have t5:∀b:Addr,b∉(jZ CX P w K mg base N qual scope f cd A outer s H E).ex:=fun b z=>nu (show b∈([]:List Addr) from z) 47;refine⟨⟨e0.mod,S.kind,rfl,rfl,eE _,fun y z c h1 h2=>?_,fun y hy=>?_,fun y c _ h=>?_,fun _=>hd,Around.frames_deeper e0.frames,.inr ⟨rfl,rfl⟩,fun b z=>nu z (t5 b),e0.bs,e0.bsz,fun b _ _=>t5 b,fun b z=>nu z (t5 b),e0.funs,e0.frf⟩,rfl,e0.bare,Un.kept hk,⟨_,x.toInCall.ns,fun i y v h1 h2 h3=>?_⟩,fun y c h=>⟨_,x.cell y c h⟩,e0.hok.fresh (eE _),fun y c h=>?_,fun p hp=>nu (show p∈([]:74) from hp) 47,e0.hok.kept hk,?_⟩
 ·exact name_of_addr x.apart (gG h1) (gG h2)
 ·have hy:scope.names.lookup y=some .cell\/scope.names.lookup y=some .free:=hy;rcases hy with hy|hy
  ·exact Kk hy
  ·exact nu rfl (S.nofree _ (gG hy))
 ·exact fV (x.above y c (gG h))
 ·have hi:i<vs.length:=by
   unfold UI at h2
   by_cases hi:i<vs.length
   ·exact hi
   ·rw[fS (by simpa using hi)] at h2;rw[List.getElem?_replicate] at h2
    split at h2<;>cases h2
  have ha:vs[i]?=some v:=by
   unfold UI at h2;rw[fK (by simpa using hi),eO] at h2;cases e:vs[i]? with
   |none=>rw[e] at h2;cases h2
   |some a=>rw[e] at h2;cases h2;rfl
  obtain⟨u,hu,rv⟩:=r.get ha;have hp:ps[i]?=some y:=by
   rw[<- S.pre,mn 21];exact h1
  have Hl:ps.Nodup:=by rw[<- S.pre];exact S.nd.sublist (Δ _ _)
  refine⟨u,rv,?_⟩;rcases S.par y (fz hp) with k|k
  ·exact .inl ⟨k,jn Hl hp hu k⟩
  ·obtain⟨c,e⟩:=Kk (n:=s.heap.objs.size+1) k;refine .inr ⟨.inl k,c,e,?_⟩;have q:=x.cell y c e;rw[jo Hl hp hu (by show scope.names.lookup y≠_;rw[k];decide)] at q;exact q
 ·exact e0.hok.fresh (fV (x.above y c (gG h)))
 ·unfold UI
  show _=N.length
  rw[eK,eG,List.length_replicate];lia
def Zfu{CX:CXT}{k:Nat}{f:Addr}{name:Str}{dV kV doc pm cR ct oc:Value}
  {ps:50}{sp:Sp} (lk:K.lookup f=some ⟨oc,od,.func (W.fnOf name qual params body scope dV kV doc pm an cR ct),osl⟩) (pQ:W.codeIn K cR qual=true) (S:Zs N ps scope)
  (len:∀vs H Q E,sp vs H Q E->vs.length=ps.length)
  (nQ:∀(A:Around) (outer:List Env) (s:Shared) (H:Hp) (vs:List V) (Q:VK) (E:XK),YK k (A.deeper (envOfC qual scope s.heap.objs.size f cR))->sp vs H Q E -> ∃t,PSs (jZ CX P w K mg base N qual scope f cR A outer s H E) body t/\t { nx:=fun _ H'=>Q .non H',rt:=Q } (UI N vs) H) :
  WK P w K mg base CX (k+1) f (W.fnOf name qual params body scope dV kV doc pm an cR ct) ps sp:=by
 refine⟨len,fun A outer s H args us vs Q E hr e0 hb r rK=>?_⟩;have hl:=len _ _ _ _ rK;have KX:K.In s.heap:=e0.mod.kin.keeps fun b o e=>(e0.bs b o e).1;have DC:s.heap.NoLimit:=e0.mod.nolimit.keeps fun b o e=>(e0.bs b o e).1;have Bx:∀y∈ps.zip us,scope.names.lookup y.1=some .local\/(scope.names.lookup y.1=some .cell/\((cellsFrom 76 scope.names []).lookup y.1).isSome=true):=fun⟨n,v⟩ hy=>by
  rcases S.par n (iN hy).1 with q|q
  ·exact .inl q
  ·exact .inr ⟨q,W.cellsFrom_some _ _ _ (.inl q)⟩
 refine codeAny_call_function hr.depth (KX _ _ lk) rfl S.co S.gen rfl (W.codeRec_of KX pQ) (hb _ _ _ _ ?_);refine wpAny_newFunctionEnv_cells S.kind Bx fun env he s1 x=>?_;subst he;refine⟨DC.keeps x.toInCall.keep,codeAny_func ?_⟩;obtain⟨t,ht,hq⟩:=nQ A outer s H vs Q E (hr.deeper _) rK;have I:Inv (jZ CX P w K mg base N qual scope f cR A outer s H E) [] (UI N vs) H s1:=Zbl S hr.hd e0 hl r x;refine iu (ht [] s1 (UI N vs) H _ I hq) (fun fl s' hs=>?_) fun e s' hs=>hs;have nE:∀{σ':St}{H':Hp}{v:V}{u:Value},Inv (jZ CX P w K mg base N qual scope f cR A outer s H E) [] σ' H' s'->ZL v u->Q v H'->CE outer P w H s Q u s':=
  fun {σ' H' v u} J rv q=>⟨v,H',J.os,J.bare,J.base,J.hok,rv,q⟩
 cases fl with
 |ret u=>
  obtain⟨v,σ',H',J,rv,q⟩:=hs;exact nE J rv q
 |next=>
  obtain⟨σ',H',J,q⟩:=hs;exact nE (v:=V.non) (u:=Value.none) J rfl q
 |brk=>
  obtain⟨_,_,_,q⟩:=hs;exact False.elim q
 |cont=>
  obtain⟨_,_,_,q⟩:=hs;exact False.elim q
end L2
variable{sp:L2.Sp}{Fam:PySem.Addr->L2.Sp->Prop}{CX:L2.CXT}
namespace L2
open PySem PySem.Spec PyProof.Rows
section
variable{x:Str}{p:Pos}{es:List Expr}{t:TA}{id:String}{r:List V->Hp->VK->Prop}
def tCB(r:List V->Hp->VK->Prop)(t:TA):TE:=fun σ H Q=>t σ H fun vs H1=>r vs H1 Q
theorem Zn(hc:Yt X (.builtin id) r)(hg:Gl X x)(hm:X.mg x=none)(hv:bootBuiltins x=some (.builtin id))(ha:PA X (e::es) t)(hn:x ≠ "__name__" := by left)(pB:(x==("__debug__" : Str))=false:=by left)
  (he:starEach (e::es) X.env=(false,eval e X.env)::starEach es X.env:=by rfl) (oG:(backTo gT (starEach es X.env)).any (·.1)=false:=by rfl):PE X (.Call (.Name x p) (e::es) [] gT) (tCB r t):=by
 intro cQ s σ H Q I h;refine gN (Ue I hg hm hv ?_ hn pB);exact PyProof.Rows.callWith_builtin1 (thn (ha gT cQ s σ H _ I h) fun us s1 ⟨vs,H1,I1,r1,q1⟩=>hc cQ s1 σ H1 vs us Q I1 r1 q1) he oG
theorem Z2(hc:Yt X (.type T) r)(hg:Gl X x)(hm:X.mg x=none)(hv:bootBuiltins x=some (.type T))(ha:PA X (e::es) t)(hn:x ≠ "__name__" := by left)(pB:(x==("__debug__" : Str))=false:=by left)
  (he:starEach (e::es) X.env=(false,eval e X.env)::starEach es X.env:=by rfl) (oG:(backTo gT (starEach es X.env)).any (·.1)=false:=by rfl):PE X (.Call (.Name x p) (e::es) [] gT) (tCB r t):=by
 intro cQ s σ H Q I h;refine gN (Ue I hg hm hv ?_ hn pB);exact i7 (thn (ha gT cQ s σ H _ I h) fun us s1 ⟨vs,H1,I1,r1,q1⟩=>hc cQ s1 σ H1 vs us Q I1 r1 q1) he oG
theorem Qf(hc:Yt X (.type T) r)(hg:Gl X x)(hm:X.mg x=none)(hv:bootBuiltins x=some (.type T))(hn:x ≠ "__name__" := by left)(pB:(x==("__debug__" : Str))=false:=by left) :
  PE X (.Call (.Name x p) [] [] gT) (tCB r kE):=by
 intro cQ s σ H Q I h;refine gN (Ue I hg hm hv ?_ hn pB);exact PyProof.Rows.callWith_type0 (hc cQ s σ H [] [] Q I .nil h)
end
end L2
namespace HT
open PySem PyProof.Rows
section
open PySem.SeqAt
open PySem.AutoSeq1 (wpAny_loadPart')
open PySem.MeetsSeq PySem.MeetsSeq2 PySem.MeetsSeq3
end
def cat_tup{t b:Addr}{vs ws:71}(ht:IsTup s.heap t vs.toArray)(hb:IsTup s.heap b ws.toArray)(hv:vs≠[])
  (h1:ws=[]->Q (.ref t) s) (h2:ws≠[]->Q (.ref s.heap.objs.size) { s with heap:=s.heap.push { cls:=.type "tuple",data:=.seq (vs++ws).toArray } })
  (hsz:vs.length+ws.length<=sizeLine):65 (binaryOp .Add (.ref t) (.ref b)) Q E s:=by
 obtain⟨⟨cls,dd,data,sl⟩,ho,hc,n,hd⟩:=id ht;obtain⟨⟨PQ,HB,data2,HK⟩,oB,sk,n2,sA⟩:=id hb;simp only at hc hd sk sA;subst hc hd sk sA;have e:vs.toArray++ws.toArray=(vs++ws).toArray:=by simp
 by_cases hw:ws=[]
 ·exact concat_meets ⟨_,ho,rfl⟩ ⟨_,oB,rfl⟩ noFill_tuple_add seq_tuple_add PySem.F.slot_tuple_add PySem.F.entry_tuple_add (PySem.F.args_tuple_add_2 _ _)
   (tuple_addW1 t b vs.toArray ws.toArray n n2 dd HB sl HK (by simpa using hv) (by simp[hw])) ⟨ho,oB,h1 hw⟩
 ·refine concat_meets ⟨_,ho,rfl⟩ ⟨_,oB,rfl⟩ noFill_tuple_add seq_tuple_add PySem.F.slot_tuple_add PySem.F.entry_tuple_add (PySem.F.args_tuple_add_2 _ _)
   (tuple_addW2 t b vs.toArray ws.toArray n n2 dd HB sl HK (by simpa using hv) (by simpa using hw) (by rw[fe,fe];exact hsz)) ⟨ho,oB,?_⟩
  rw[e];exact h2 hw
def sIx(n d:Nat):Option Int->Nat
 |none=>d
 |some v=>if v<0 then(v+(n:Int)).toNat else min v.toNat n
def sIx_none(n d:Nat):sIx n d none=d:=rfl
def sIx_nat(n d k:Nat):sIx n d (some (k:Int))=min k n:=by
 show(if(k:Int)<0 then((k:Int)+(n:Int)).toNat else min (k:Int).toNat n)=min k n
 rw[nn 21,fN]
def ZfD(n d:Nat)(hd:d<=n)(o:Option Int):sIx n d o<=n:=by
 cases o with
 |none=>exact hd
 |some v=>
  show(if v<0 then(v+(n:Int)).toNat else min v.toNat n)<=n
  by_cases hv:v<0
  ·rw[nt hv];lia
  ·rw[nn hv];exact mo _ _
def Zam(v:Int)(n d:Nat):(if v<0 then max (v+(n:Int)) 0 else min v (n:Int))=((sIx n d (some v):Nat):Int):=by
 show(if v<0 then max (v+(n:Int)) 0 else min v (n:Int))=(((if v<0 then(v+(n:Int)).toNat else min v.toNat n):Nat):Int)
 by_cases hv:v<0
 ·simp only[nt hv];lia
 ·simp only[nn hv];lia
def QF(lo hi:Option Int)(n:Nat):Builtin.Slice.sliceAdjust lo hi 1 (n:Int)=(((sIx n 0 lo:Nat):Int),((sIx n n hi:Nat):Int)):=by
 have h1:¬((1:Int)<0):=by lia
 unfold Builtin.Slice.sliceAdjust;simp only[h1,ft];refine Prod.ext ?_ ?_
 ·cases lo with
  |none=>rfl
  |some v=>exact Zam v n 0
 ·cases hi with
  |none=>rfl
  |some v=>exact Zam v n n
def Qe(i j:Nat):Builtin.Slice.slicePlaces (i:Int) (j:Int) 1=j-i:=by
 unfold Builtin.Slice.slicePlaces;have h1:(1:Int)>0:=by lia
 simp only[h1,gj,Int.ediv_one]
 split<;>lia
def vm{v:Value}{o:Option Int}{Q:Option Int->70}(p:IsPart v o)(h:Q o s):65 (Builtin.Slice.slicePartIndex v) Q E s:=by
 cases p with
 |none=>exact slicePart_none h
 |int i t=>exact slicePart_int h
def zP{vu:Value}{Q:Int×Int×Nat->70}(hs:s.heap.IsSliceOf sl vl vu .none)(pl:IsPart vl lo)(pu:IsPart vu hi)
  (h:Q (((sIx n 0 lo:Nat):Int),1,sIx n n hi-sIx n 0 lo) s):65 (Builtin.Slice.sliceApplied (.ref sl) (pure (n:Int))) Q E s:=by
 obtain⟨os,oO,sZ,pG⟩:=id hs;unfold Builtin.Slice.sliceApplied Builtin.Slice.sliceFields;refine dZ (dZ (gu oO pG (x:=vl) rfl (dZ (gu oO pG (x:=vu) rfl (dZ (gu oO pG (x:=.none) rfl (eh ?_)))))));refine dZ (slicePart_none ?_)
 show 79 (if((1:Int)==0)=true then _ else _) _ _ s
 rw[nn 48];refine dZ (vm pl (dZ (vm pu (dZ (eh ?_)))))
 show 79 (match Builtin.Slice.sliceAdjust lo hi 1 (n:Int) with|(lo,hi)=>pure (lo,(1:Int),Builtin.Slice.slicePlaces lo hi 1)) _ _ s
 rw[QF lo hi n]
 show 79 (pure (((sIx n 0 lo:Nat):Int),(1:Int),Builtin.Slice.slicePlaces ((sIx n 0 lo:Nat):Int) ((sIx n n hi:Nat):Int) 1)) _ _ s
 rw[Qe];exact eh h
def ZdV(xs:Array Value)(i k:Nat):((γ k).filterMap fun(m:Nat)=>xs[((i:Int)+(m:Int)*1).toNat]?).toArray=((xs.toList.drop i).take k).toArray:=by
 have e:(fun(m:Nat)=>xs[((i:Int)+(m:Int)*1).toNat]?)=fun m=>xs[i+m]?:=by
  funext m
  have:((i:Int)+(m:Int)*1).toNat=i+m:=by lia
  rw[this]
 rw[e];have:=pick_run xs i k;rw[List.filterMap_map] at this;have e2:((fun x=>xs[x]?)∘fun x=>i+x)=fun m=>xs[i+m]?:=rfl;rw[e2] at this;rw[this]
def getItem_tuple_cut{t:Addr}{vu:Value}(ht:IsTup s.heap t items)(hs:s.heap.IsSliceOf sl vl vu .none)(pl:IsPart vl lo)(pu:IsPart vu hi)
  (hw:¬(sIx items.size 0 lo=0/\sIx items.size items.size hi=items.size))
  (h:Q (.ref s.heap.objs.size) { s with heap:=s.heap.push { cls:=.type "tuple",data:=.seq ((items.toList.drop (sIx items.size 0 lo)).take (sIx items.size items.size hi-sIx items.size 0 lo)).toArray } })
  (hsz:items.size<=sizeLine):65 (getItem (.ref t) (.ref sl)) Q E s:=by
 have rp:sizeOk (.seq ((items.toList.drop (sIx items.size 0 lo)).take (sIx items.size items.size hi-sIx items.size 0 lo)).toArray):=by
  show((items.toList.drop (sIx items.size 0 lo)).take (sIx items.size items.size hi-sIx items.size 0 lo)).toArray.size<=sizeLine
  rw[fe,fh,gv,gn];lia
 have hj:sIx items.size items.size hi<=items.size:=ZfD _ _ (eE _) hi;obtain⟨os,oO,sZ,pG⟩:=id hs;have Cq:s.TypeIs (.ref sl) "slice" := ⟨os,oO,sZ⟩;unfold getItem
 try with_reducible refine fU ?_
 first|refine dZ (eh ?_)|skip
 refine dZ (wpAny_sequenceKey ht.typeIs 48 ?_);refine dZ (ia (name:=Str.ofString "__getitem__") ht.typeIs mP (fW mP ht.typeIs entry_tuple_getitem ?_ (args_tuple_getitem _ _)))
 show 79 (Builtin.Tuple.tupleItemsOf (.ref t) >>= _) _ _ s
 refine dZ (tupleItemsOf_ ht ?_);refine dZ (wpAny_typeOf Cq ?_);rw[nt 48];refine dZ (zP hs pl pu ?_);have DU:¬((((sIx items.size 0 lo:Nat):Int)==0&&(1:Int)==1&&(sIx items.size items.size hi-sIx items.size 0 lo)==items.size)=true):=by
  intro q;rw[fH,fH] at q;have q1:((sIx items.size 0 lo:Nat):Int)=0:=eq_of_beq q.1.1;have q2:sIx items.size items.size hi-sIx items.size 0 lo=items.size:=eq_of_beq q.2;exact hw ⟨by lia,by lia⟩
 show 79 (if(((sIx items.size 0 lo:Nat):Int)==0&&(1:Int)==1&&(sIx items.size items.size hi-sIx items.size 0 lo)==items.size)=true then _ else _) _ _ s
 rw[nn DU,ZdV]
 first
  |exact dZ (m:=Builtin.Tuple.tupleExact _) (fX (eh ⟨_,rfl,eh h⟩) rp)
  |exact dZ (m:=Builtin.Tuple.tupleExact _) (fX (dZ (eh (eh ⟨_,rfl,eh h⟩))) rp)
  |exact dZ (dZ (m:=Builtin.Tuple.tupleExact _) (fX (eh (eh ⟨_,rfl,eh h⟩)) rp))
  |exact dZ (dZ (m:=Builtin.Tuple.tupleExact _) (fX (eh ⟨_,rfl,eh h⟩) rp))
end HT
namespace L2
open PySem PySem.Spec PyProof.Rows
abbrev TO:=St->Hp->(Option Int->Hp->Prop)->Prop
def PO(X:Cx)(e:Option Expr)(t:TO):Prop:=
 ∀(cQ:74) (s:Shared) (σ:St) (H:Hp) (Q:Option Int->Hp->Prop),49 H s->t σ H Q ->
  31 X.A (evalPart e X.env) (fun u s'=>∃o H',49 H' s'/\IsPart u o/\Q o H') X.xe s
def Zah:TO:=fun _ H Q=>Q none H
inductive Zfw(x:V)(H:Hp)(Q:Option Int->Hp->Prop):Prop
 |mk (i:Int) (h:x=.int i) (k:Q (some i) H):Zfw x H Q
def Zfs(t:TE):TO:=fun σ H Q=>t σ H fun x H1=>Zfw x H1 Q
def KJ:∀{us:71},ZE (ns.map V.int) us->IntsAre us ns:=by
 induction ns with
 |nil=>intro us r;rw[fq] at r;cases r;exact .nil
 |cons n ns ih=>
  intro us r;rw[eM] at r;cases r with
  |cons r1 r2=>
   obtain⟨t,e⟩:=r1;subst e;exact .cons n t (ih r2)
section
variable{lo hi:Option Expr}{tl th:TO}
theorem YH:PO X none Zah:=by
 intro cQ s σ H Q I h;rw[evalPart_none];exact eh ⟨none,H,I,.none,h⟩
theorem ZS(h:PE X e te):PO X (some e) (Zfs te):=by
 intro cQ s σ H Q I hw;rw[evalPart_some];refine thn (h cQ s σ H _ I hw) fun u s1 ⟨x,H1,I1,r1,q1⟩=>?_;obtain⟨i,rfl,q⟩:=q1;obtain⟨t,rfl⟩:=r1;exact⟨some i,H1,I1,.int i t,q⟩
def SlR(X:Cx)(r:V->Option Int->Option Int->Hp->VK->Prop):Prop:=
 ∀(cQ:74) (s:Shared) (σ:St) (H:Hp) (x:V) (v vl vu:Value) (lo hi:Option Int) (sl:Addr) (Q:VK),49 H s->ZL x v->s.heap.IsSliceOf sl vl vu .none->IsPart vl lo->IsPart vu hi->r x lo hi H Q ->
  ∃T id,typeLookup (.type T) "__getitem__" = pure (some (.builtin id))/\s.TypeIs v T/\31 X.A (getItem v (.ref sl)) (EP X cQ σ Q) X.xe s
def tSl(r:V->Option Int->Option Int->Hp->VK->Prop)(te:TE)(tl th:TO):TE:=fun σ H Q=>te σ H fun x H1=>tl σ H1 fun l H2=>th σ H2 fun u H3=>r x l u H3 Q
theorem ZW{r:V->Option Int->Option Int->Hp->VK->Prop}(hr:SlR X r)(he:PE X e te)(hl:PO X lo tl)(hu:PO X hi th):PE X (.Subscript e (.Slice lo hi none p2) gT) (tSl r te tl th):=by
 intro cQ s σ H Q I h;refine Subscript_ (thn (he cQ s σ H _ I h) fun v s1 ⟨x,H1,I1,r1,q1⟩=>?_);refine wpAny_Slice (thn (hl cQ s1 σ H1 _ I1 q1) fun vl s2 ⟨l,H2,I2,pl,q2⟩=>thn (hu cQ s2 σ H2 _ I2 q2) fun vu s3 ⟨u,H3,I3,pu,q3⟩=>?_);rw[evalPart_none];refine eh ?_;have I4:49 H3 { s3 with heap:=s3.heap.push { cls:=.type "slice",data:=.fields #[vl,vu,.none] } }:=I3.kept (t':=s3.toks) fun b ob q=>eN _ q;obtain⟨T,id,hT,ht,hg⟩:=hr cQ { s3 with heap:=s3.heap.push { cls:=.type "slice",data:=.fields #[vl,vu,.none] } } σ H3 x v vl vu l u s3.heap.objs.size Q I4 r1 (Heap.IsSliceOf.new ..) pl pu q3
 show 31 X.A (subscriptTail e (.Slice lo hi none p2) v (.ref s3.heap.objs.size)) (EP X cQ σ Q) X.xe { s3 with heap:=s3.heap.push { cls:=.type "slice",data:=.fields #[vl,vu,.none] } }
 exact tail_any (ops:=[.ref s3.heap.objs.size,v]) ht hT hg (by with_unfolding_all rfl)
def X9(xs:List V)(lo hi:Option Int):List V:=(xs.drop (HT.sIx xs.length 0 lo)).take (HT.sIx xs.length xs.length hi-HT.sIx xs.length 0 lo)
theorem yA(xs:List V)(lo hi:Option Int):(X9 xs lo hi).length<=xs.length:=by
 unfold X9;rw[fh,gv];lia
inductive ZcW(K:W.Frag)(x:V)(lo:Option Int)(hi:Option Int)(H:Hp)(Q:VK):Prop
 |mk (a:_) (xs:_) (h0:x=.ref a) (h1:SqT K H a xs) (h2:¬(HT.sIx xs.length 0 lo=0/\HT.sIx xs.length xs.length hi=xs.length)) (h3:∀p,H p=none->Q (.ref p) (upd H p (.tup (X9 xs lo hi)))):ZcW K x lo hi H Q
def Zhc(K:W.Frag):V->Option Int->Option Int->Hp->VK->Prop:=fun x lo hi H Q=>ZcW K x lo hi H Q
theorem ZgG:SlR X (Zhc X.K):=by
 intro cQ s σ H x v vl vu lo hi sl Q I rx hs pl pu h;obtain⟨a,xs,rfl,hx,hw,q⟩:=h;cases rx;obtain⟨its,r,ht,hz⟩:=I.tuple hx;have nv:its.toArray.size=xs.length:=by rw[fe];exact r.length.symm
 refine⟨"tuple",_,mP.lookup,ht.typeIs,?_⟩;refine HT.getItem_tuple_cut ht hs pl pu (by rw[nv];exact hw) ?_ (by rw[nv];exact hz);rw[nv];refine⟨.ref s.heap.objs.size,_,I.laid (t':=s.toks) (o:=.tup (X9 xs lo hi)) (fun b ob q=>eN _ q) (eE _) ?_,rfl,q _ (I.hok.fresh (eE _))⟩;exact⟨eW (yA xs lo hi) hz,_,(r.drop (HT.sIx xs.length 0 lo)).take (HT.sIx xs.length xs.length hi-HT.sIx xs.length 0 lo),IsTup.new _ _⟩
inductive Q1(K:W.Frag)(x:V)(y:V)(H:Hp)(Q:VK):Prop
 |mk (a:_) (b:_) (xs:_) (ys:_) (h0:x=.ref a) (h1:y=.ref b) (h2:SqT K H a xs) (h3:SqT K H b ys) (h4:xs≠[]) (h5:xs.length+ys.length<=sizeLine) (h6:(ys=[]->Q (.ref a) H)) (h7:(ys≠[]->∀p,H p=none->Q (.ref p) (upd H p (.tup (xs++ys))))):Q1 K x y H Q
def Zft(K:W.Frag):R2:=fun x y H Q=>Q1 K x y H Q
theorem ZE.nil_iff{xs:List V}(r:ZE xs us):us=[]↔xs=[]:=by
 cases r with
 |nil=>simp
 |cons _ _=>simp
theorem ZeL:OpR X (binaryOp .Add) (Zft X.K):=by
 intro cQ s σ H x y v u Q I rx ry h;obtain⟨a,b,xs,ys,rfl,rfl,ha,hb,hx,hz,q1,q2⟩:=h;cases rx;cases ry;obtain⟨its,r1,p1,_⟩:=I.tuple ha;obtain⟨oA,r2,p2,_⟩:=I.tuple hb;refine HT.cat_tup p1 p2 (fun z=>hx (r1.nil_iff.mp z)) (fun z=>⟨.ref a,H,I,rfl,q1 (r2.nil_iff.mp z)⟩) (fun z=>?_) (by rw[<- r1.length,<- r2.length];exact hz);refine⟨.ref s.heap.objs.size,_,I.laid (t':=s.toks) (o:=.tup (xs++ys)) (fun b ob q=>eN _ q) (eE _) ?_,rfl,q2 (fun w=>z (r2.nil_iff.mpr w)) _ (I.hok.fresh (eE _))⟩;exact⟨by rw[eK];exact hz,_,r1.append r2,IsTup.new _ _⟩
end
def ixN(n:Nat)(i:Int):Option Nat:=if 0<=i then(if i<n then some i.toNat else none) else if -(n:Int)<=i then some (i+n).toNat else none
def atI(xs:List α)(i:Int):Option α:=(ixN xs.length i).bind fun j=>xs[j]?
def Zes{i:Int}(h:ixN n i=some j):seqIndex? i n=some j/\j<n/\-(n:Int)<=i/\i<n:=by
 unfold ixN at h
 by_cases h0:0<=i
 ·rw[nt h0] at h
  by_cases h1:i<n
  ·rw[nt h1] at h;have e:i.toNat=j:=fc h;exact⟨by rw[seqIndex_of h0 h1,e],by lia,by lia,h1⟩
  ·rw[nn h1] at h;cases h
 ·rw[nn h0] at h
  by_cases h1:-(n:Int)<=i
  ·rw[nt h1] at h;have e:(i+n).toNat=j:=fc h;exact⟨by rw[seqIndex_neg 21 h1,e],by lia,h1,by lia⟩
  ·rw[nn h1] at h;cases h
def ZaA{xs:List α}{i:Int}{v:α}(h:atI xs i=some v):∃j,seqIndex? i xs.length=some j/\xs[j]?=some v/\j<xs.length/\-(xs.length:Int)<=i/\i<xs.length:=by
 unfold atI at h;cases e:ixN xs.length i with
 |none=>rw[e] at h;cases h
 |some j=>
  rw[e] at h;obtain⟨h1,h2,h3,h4⟩:=Zes e;exact⟨j,h1,h,h2,h3,h4⟩
def Zj{xs:List α}{v:α}(h:xs[j]?=some v):atI xs (j:Int)=some v:=by
 have hj:j<xs.length:=(eY.mp h).1;have e:ixN xs.length (j:Int)=some j:=by
  unfold ixN;rw[nt 21,nt 21];simp
 unfold atI;rw[e];exact h
def qV(xs:List α)(v:α):atI (xs++[v]) (-1)=some v:=by
 have hl:(xs++[v]).length=xs.length+1:=by simp
 have e:ixN (xs++[v]).length (-1)=some xs.length:=by
  unfold ixN;rw[hl,nn 48,nt 21]
  congr 1
  lia
 unfold atI;rw[e]
 show(xs++[v])[xs.length]?=some v
 simp
def Zej(b:Expr):Prop:=∀o i,subscripted b false o i=operate [o,i] (getItem o i)
def IxR(X:Cx)(r:R2):Prop:=
 ∀(nz nO:Expr) (cQ:74) (s:Shared) (σ:St) (H:Hp) (x y:V) (v u:Value) (Q:VK),49 H s->ZL x v->ZL y u->r x y H Q ->
  subscripted nO false v u=operate [v,u] (getItem v u)->31 X.A (subscriptTail nz nO v u) (EP X cQ σ Q) X.xe s
def MtR(X:Cx)(id:String)(r:V->List V->Hp->VK->Prop):Prop:=
 ∀(cQ:74) (s:Shared) (σ:St) (H:Hp) (x:V) (xs:List V) (v:Value) (us:71) (Q:VK),49 H s->ZL x v->ZE xs us->r x xs H Q ->
  31 X.A (call (.builtin id) (v::us)) (EP X cQ σ Q) X.xe s
section
variable{X:Cx}{a b:Expr}{ta tb:TE}{gT:Pos}
theorem Zq{r:R2}(hr:IxR X r)(ha:PE X a ta)(hb:PE X b tb)(hs:Zej b):PE X (.Subscript a b gT) (tOp r ta tb):=by
 intro cQ s σ H Q I h;exact Subscript_ (ZgS ha hb I h fun v u s2 x y H2 I2 rx ry q=>hr a b cQ s2 σ H2 x y v u Q I2 rx ry q (hs _ _))
inductive Zcr(K:W.Frag)(x:V)(y:V)(H:Hp)(Q:VK):Prop
 |mk (p:_) (xs:_) (i:_) (v:_) (h0:x=.ref p) (h1:y=.int i) (h2:SqL K H p xs) (h3:atI xs i=some v) (h4:Q v H):Zcr K x y H Q
def Zef(K:W.Frag):R2:=fun x y H Q=>Zcr K x y H Q
inductive ZdE(K:W.Frag)(x:V)(y:V)(H:Hp)(Q:VK):Prop
 |mk (p:_) (xs:_) (i:_) (v:_) (h0:x=.ref p) (h1:y=.int i) (h2:SqT K H p xs) (h3:atI xs i=some v) (h4:Q v H):ZdE K x y H Q
def ZhT(K:W.Frag):R2:=fun x y H Q=>ZdE K x y H Q
theorem Zd4:IxR X (Zef X.K):=by
 intro nz nO cQ s σ H x y v u Q I rx ry h hs;obtain⟨p,xs,i,z,rfl,rfl,hq,he,q⟩:=h;cases rx;obtain⟨t,rfl⟩:=ry;obtain⟨its,r,pl,hz⟩:=I.list hq;obtain⟨j,h1,h2,h3,h4,h5⟩:=ZaA he;obtain⟨w,ew,pS⟩:=r.get h2;have hl:=r.length;have hn:=yZ;have nE:EP X cQ σ Q w s:=⟨z,H,I,pS,q⟩
 by_cases h0:0<=i
 ·have hj:i.toNat=j:=by
   rw[seqIndex_of h0 h5] at h1;exact fc h1
  exact item_listR pl.isList h0 21 (by rw[hj];simpa using ew) nE hs
 ·have hj:(i+(its.toArray.size:Int)).toNat=j:=by
   rw[seqIndex_neg 21 h4] at h1;rw[fe,<- hl];exact fc h1
  exact subscriptTail_builtinR (x:=w) pl.isList.typeIs slot_list_getitem.lookup
   (wpAny_getItem_list_neg (Q:=fun r s'=>r=w/\EP X cQ σ Q r s') pl.isList 21 (by rw[fe]<;>lia) 21 (by rw[hj];simpa using ew) ⟨rfl,nE⟩) hs
theorem ZfV:IxR X (ZhT X.K):=by
 intro nz nO cQ s σ H x y v u Q I rx ry h hs;obtain⟨p,xs,i,z,rfl,rfl,hq,he,q⟩:=h;cases rx;obtain⟨t,rfl⟩:=ry;obtain⟨its,r,pl,hz⟩:=I.tuple hq;obtain⟨j,h1,h2,h3,h4,h5⟩:=ZaA he;obtain⟨w,ew,pS⟩:=r.get h2;have hl:=r.length;have hn:=yZ;have nE:EP X cQ σ Q w s:=⟨z,H,I,pS,q⟩;exact subscriptTail_builtinR (x:=w) pl.typeIs slot_tuple_getitem.lookup
  (getItem_tuple (j:=j) (Q:=fun r s'=>r=w/\EP X cQ σ Q r s') pl 21 21 (by rw[fe,<- hl];exact h1) (by simpa using ew) ⟨rfl,nE⟩) hs
theorem kU(lo hi:Option Int)(n:Nat):(sliceBounds lo hi none n).1=((HT.sIx n 0 lo:Nat):Int)/\(sliceBounds lo hi none n).2.1=((HT.sIx n n hi:Nat):Int)/\(sliceBounds lo hi none n).2.2=1:=by
 refine⟨?_,?_,rfl⟩
 ·cases lo with
  |none=>simp[sliceBounds,HT.sIx]
  |some i=>
   simp only[sliceBounds,HT.sIx,Option.getD_none,show(1:Int)>0 by left,gj]
   by_cases h:i<0
   ·simp only[h,gj]<;>lia
   ·simp only[h,ft]<;>lia
 ·cases hi with
  |none=>simp[sliceBounds,HT.sIx]
  |some i=>
   simp only[sliceBounds,HT.sIx,Option.getD_none,show(1:Int)>0 by left,gj]
   by_cases h:i<0
   ·simp only[h,gj]<;>lia
   ·simp only[h,ft]<;>lia
theorem vX(its:71)(lo hi:Option Int):slicePick its.toArray lo hi none=((its.drop (HT.sIx its.length 0 lo)).take (HT.sIx its.length its.length hi-HT.sIx its.length 0 lo)).toArray:=by
 obtain⟨h1,h2,h3⟩:=kU lo hi its.toArray.size;unfold slicePick;rw[h1,h2,h3];simp only[sliceRange_one,pick_run,fe]<;>rfl
inductive ZcQ(K:W.Frag)(x:V)(lo:Option Int)(hi:Option Int)(H:Hp)(Q:VK):Prop
 |mk (a:_) (xs:_) (h0:x=.ref a) (h1:SqL K H a xs) (h2:∀p,H p=none->Q (.ref p) (upd H p (.lst (X9 xs lo hi)))):ZcQ K x lo hi H Q
def ZfM(K:W.Frag):V->Option Int->Option Int->Hp->VK->Prop:=fun x lo hi H Q=>ZcQ K x lo hi H Q
theorem Ze7:SlR X (ZfM X.K):=by
 intro cQ s σ H x v vl vu lo hi sl Q I rx hs pl pu h;obtain⟨a,xs,rfl,hx,q⟩:=h;cases rx;obtain⟨its,r,ht,hz⟩:=I.list hx;have nv:=r.length;refine⟨"list",_,slot_list_getitem.lookup,ht.isList.typeIs,?_⟩;refine wpAny_getItem_list_slice ht.isList hs pl pu .none 47 ?_ (by rw[fe]<;>lia);rw[vX,<- nv];refine⟨.ref s.heap.objs.size,_,I.laid (t':=s.toks) (o:=.lst (X9 xs lo hi)) (fun b ob q=>eN _ q) (eE _) ?_,rfl,q _ (I.hok.fresh (eE _))⟩;exact⟨eW (yA xs lo hi) hz,_,0,(r.drop (HT.sIx xs.length 0 lo)).take (HT.sIx xs.length xs.length hi-HT.sIx xs.length 0 lo),fg _ rfl⟩
def qp:V->Bool
 |.non=>true
 |.bl _=>true
 |.int _=>true
 |.str _=>true
 |_=>false
def eqV:V->V->Bool
 |.non,.non=>true
 |.bl a,.bl b=>a==b
 |.bl a,.int b=>(if a then 1 else 0)==b
 |.int a,.bl b=>a==(if b then 1 else 0)
 |.int a,.int b=>a==b
 |.str a,.str b=>a==b
 |_,_=>false
theorem ZgJ{x:V}{v:Value}(ry:ZL y u)(rx:ZL x v)(fy:qp y=true)(fx:qp x=true):SeqAt.EqAt A s u v (eqV y x):=by
 cases y with
 |non=>
  cases ry;cases x with
  |non=>cases rx;exact SeqAt.EqAt.same _
  |bl b=>cases rx;exact SeqAt.EqAt.none_bool b
  |int b=>obtain⟨t,rfl⟩:=rx;exact SeqAt.EqAt.none_int b t
  |str b=>obtain⟨t,rfl⟩:=rx;exact SeqAt.EqAt.none_str b t
  |_=>exact nu (show false=true from fx) fB
 |bl a=>
  cases ry;cases x with
  |non=>cases rx;exact SeqAt.EqAt.bool_none a
  |bl b=>cases rx;exact SeqAt.EqAt.bool_bool a b
  |int b=>obtain⟨t,rfl⟩:=rx;exact SeqAt.EqAt.bool_int a b t
  |str b=>obtain⟨t,rfl⟩:=rx;exact SeqAt.EqAt.bool_str a b t
  |_=>exact nu (show false=true from fx) fB
 |int a=>
  obtain⟨t',rfl⟩:=ry;cases x with
  |non=>cases rx;exact SeqAt.EqAt.int_none a t'
  |bl b=>cases rx;exact SeqAt.EqAt.int_bool a t' b
  |int b=>obtain⟨t,rfl⟩:=rx;exact SeqAt.EqAt.int_int a t' b t
  |str b=>obtain⟨t,rfl⟩:=rx;exact SeqAt.EqAt.int_str a t' b t
  |_=>exact nu (show false=true from fx) fB
 |str a=>
  obtain⟨t',rfl⟩:=ry;cases x with
  |non=>cases rx;exact SeqAt.EqAt.str_none a t'
  |bl b=>cases rx;exact SeqAt.EqAt.str_bool a t' b
  |int b=>obtain⟨t,rfl⟩:=rx;exact SeqAt.EqAt.str_int a t' b t
  |str b=>obtain⟨t,rfl⟩:=rx;exact SeqAt.EqAt.str_str a t' b t
  |_=>exact nu (show false=true from fx) fB
 |_=>exact nu (show false=true from fy) fB
def eqU(x:V)(u:Value):Bool:=match u with
 |.none=>eqV .non x
 |.bool b=>eqV (.bl b) x
 |.int i _=>eqV (.int i) x
 |.str z _=>eqV (.str z) x
 |_=>false
theorem Zb5{x:V}(r:ZL y u)(f:qp y=true):eqU x u=eqV y x:=by
 cases y with
 |non=>cases r;rfl
 |bl b=>cases r;rfl
 |int i=>obtain⟨t,rfl⟩:=r;rfl
 |str z=>obtain⟨t,rfl⟩:=r;rfl
 |_=>exact nu (show false=true from f) fB
theorem zF{x:V}:∀{xs:List V}{us:71},ZE xs us->xs.all qp=true->us.any (eqU x)=xs.any fun y=>eqV y x
 |_,_,.nil,_=>rfl
 |y::xs,u::us,.cons r t,f=>by
  rw[iO,fH] at f;rw[lG,lG,Zb5 r f.1,zF t f.2]
theorem UN{A:Around}{s:Shared}{x:V}{v:Value}(rx:ZL x v)(fx:qp x=true):∀{xs:List V}{us:71},ZE xs us->xs.all qp=true->∀u∈us,SeqAt.EqAt A s u v (eqU x u)
 |_,_,.nil,_=>fun u hu=>by cases hu
 |y::xs,u::us,.cons r t,f=>fun u' hu=>by
  rw[iO,fH] at f;rcases eU.mp hu with rfl|hu
  ·rw[Zb5 r f.1];exact ZgJ r rx f.1 fx
  ·exact UN rx fx t f.2 u' hu
def inV(x:V)(xs:List V):Bool:=xs.any fun y=>eqV y x
inductive Zfd(K:W.Frag)(neg:Bool)(x:V)(y:V)(H:Hp)(Q:VK):Prop
 |mk (p:_) (xs:_) (h0:y=.ref p) (h1:(SqL K H p xs\/SqT K H p xs)) (h2:qp x=true) (h3:xs.all qp=true) (h4:Q (.bl (if neg then !inV x xs else inV x xs)) H):Zfd K neg x y H Q
def rIn(K:W.Frag)(neg:Bool):R2:=fun x y H Q=>Zfd K neg x y H Q
theorem Zby:OpR X (compareOp .In) (rIn X.K false):=by
 intro cQ s σ H x y v u Q I rx ry h;obtain⟨p,xs,rfl,hq,fx,fs,q⟩:=h;cases ry;rcases hq with hq|hq
 ·obtain⟨its,r,pl,hz⟩:=I.list hq;refine SeqAt.in_listAt (eqU x) pl.isList (fun w hw=>UN rx fx r fs w (by simpa using hw)) ⟨.bl _,H,I,rfl,?_⟩;rw[show its.toArray.any (eqU x)=its.any (eqU x) by simp,zF r fs];exact q
 ·obtain⟨its,r,pl,hz⟩:=I.tuple hq;refine SeqAt.in_tupleAt (eqU x) pl (fun w hw=>UN rx fx r fs w (by simpa using hw)) ⟨.bl _,H,I,rfl,?_⟩;rw[show its.toArray.any (eqU x)=its.any (eqU x) by simp,zF r fs];exact q
theorem k9:OpR X (compareOp .NotIn) (rIn X.K true):=by
 intro cQ s σ H x y v u Q I rx ry h;obtain⟨p,xs,rfl,hq,fx,fs,q⟩:=h;cases ry;rcases hq with hq|hq
 ·obtain⟨its,r,pl,hz⟩:=I.list hq;refine SeqAt.notIn_listAt (eqU x) pl.isList (fun w hw=>UN rx fx r fs w (by simpa using hw)) ⟨.bl _,H,I,rfl,?_⟩;rw[show its.toArray.any (eqU x)=its.any (eqU x) by simp,zF r fs];exact q
 ·obtain⟨its,r,pl,hz⟩:=I.tuple hq;refine SeqAt.notIn_tupleAt (eqU x) pl (fun w hw=>UN rx fx r fs w (by simpa using hw)) ⟨.bl _,H,I,rfl,?_⟩;rw[show its.toArray.any (eqU x)=its.any (eqU x) by simp,zF r fs];exact q
theorem kg:Yt X (.builtin "len") (fun xs H Q=>∃p ys,xs=[.ref p]/\(SqL X.K H p ys\/SqT X.K H p ys)/\Q (.int ys.length) H):=by
 intro cQ s σ H xs us Q I r h;obtain⟨p,ys,rfl,hq,q⟩:=h;obtain⟨u,rfl,rx⟩:=VN r;cases rx;have hn:=yZ;rcases hq with hq|hq
 ·obtain⟨its,r',pl,hz⟩:=I.list hq;have nv:=r'.length;exact Calls.call_len_list pl.isList (by simp only[fe]<;>lia) ⟨.int ys.length,H,I.tok _,⟨s.toks+1,by rw[fe,nv]⟩,q⟩
 ·obtain⟨its,r',pl,hz⟩:=I.tuple hq;have nv:=r'.length;exact len_tuple pl (by simp only[fe]<;>lia) ⟨.int ys.length,H,I.tok _,⟨s.toks+1,by rw[fe,nv]⟩,q⟩
theorem kH:Yt X (.builtin "len") (fun xs H Q=>∃z,xs=[.str z]/\z.length<=sizeLine/\Q (.int z.length) H):=by
 intro cQ s σ H xs us Q I r h;obtain⟨z,rfl,hz,q⟩:=h;obtain⟨u,rfl,t,rfl⟩:=VN r;have hn:=yZ;exact len_str 21 ⟨.int z.length,H,I.tok _,⟨_,rfl⟩,q⟩
theorem Yt.or{f:Value}{r r':List V->Hp->VK->Prop}(h:Yt X f r)(h':Yt X f r'):Yt X f (fun xs H Q=>r xs H Q\/r' xs H Q):=by
 intro cQ s σ H xs us Q I rs q;rcases q with q|q
 ·exact h cQ s σ H xs us Q I rs q
 ·exact h' cQ s σ H xs us Q I rs q
theorem j7:Yt X (.type "list") (fun xs H Q=>∃p ys,xs=[.ref p]/\(SqL X.K H p ys\/SqT X.K H p ys)/\∀l,H l=none->Q (.ref l) (upd H l (.lst ys))):=by
 intro cQ s σ H xs us Q I r h;obtain⟨p,ys,rfl,hq,q⟩:=h;obtain⟨u,rfl,rx⟩:=VN r;cases rx;have nE:∀(its:71),ZE ys its->ys.length<=sizeLine->∀(h':Heap) (c':Nat),(∀b o',s.heap.get? b=some o'->h'.get? b=some o') ->
   h'.get? s.heap.objs.size=some { cls:=.type "list",dict:=none,data:=.seq its.toArray c',slots:=#[] }->EP X cQ σ Q (.ref s.heap.objs.size) 80:=fun its r' hz h' c' kp e=>
  ⟨.ref s.heap.objs.size,_,I.laid (t':=s.toks) kp (eE _) (show Yp X.prog X.w _ h' _ (.lst ys) from⟨hz,its,c',r',e⟩),rfl,q _ (I.hok.fresh (eE _))⟩
 rcases hq with hq|hq
 ·obtain⟨its,r',pl,hz⟩:=I.list hq;have nv:=r'.length;obtain⟨o,ho,hc,n,hd⟩:=pl.isList;exact call_list_seq p (.inl rfl) ho hc hd (fun h' c' kp e=>nE its r' hz h' c' kp e) (by simp only[fe]<;>lia)
 ·obtain⟨its,r',pl,hz⟩:=I.tuple hq;have nv:=r'.length;obtain⟨o,ho,hc,n,hd⟩:=pl;exact call_list_seq p (.inr rfl) ho hc hd (fun h' c' kp e=>nE its r' hz h' c' kp e) (by simp only[fe]<;>lia)
theorem vD:Yt X (.type "tuple") (fun xs H Q=>∃p ys,xs=[.ref p]/\((SqL X.K H p ys/\∀l,H l=none->Q (.ref l) (upd H l (.tup ys)))\/(SqT X.K H p ys/\Q (.ref p) H))):=by
 intro cQ s σ H xs us Q I r h;obtain⟨p,ys,rfl,h⟩:=h;obtain⟨u,rfl,rx⟩:=VN r;cases rx;rcases h with⟨hq,q⟩|⟨hq,q⟩
 ·obtain⟨its,r',pl,hz⟩:=I.list hq;have nv:=r'.length;refine call_tuple_list pl.isList (fun h' kp=>?_) (by simp only[fe]<;>lia);have I1:49 H 80:=I.kept (t':=s.toks) kp;have I2:49 (upd H h'.objs.size (.tup ys)) { s with heap:=h'.push { cls:=.type "tuple",data:=.seq its.toArray } }:=
   I1.laid (t':=s.toks) (fun b o e=>eN _ e) (eE _) (show Yp X.prog X.w _ _ _ (.tup ys) from⟨hz,its,r',IsTup.new _ _⟩)
  exact⟨.ref h'.objs.size,_,I2,rfl,q _ (I1.hok.fresh (eE _))⟩
 ·obtain⟨its,r',pl,hz⟩:=I.tuple hq;exact call_tuple_same pl ⟨.ref p,H,I,rfl,q⟩
def tyV(K:W.Frag)(T:String)(x:V)(H:Hp):Prop:=match x with
 |.str _=>T = "str"
 |.int _=>T = "int"
 |.ref p=>(T = "list" /\ ∃xs,SqL K H p xs)\/(T = "tuple" /\ ∃o,K.lookup p=some o/\o.cls=.type "tuple" /\ o.dict=none) \/
   (T = "dict" /\ ((∃kvs,H p=some (.dK kvs))\/∃kvs,H p=some (.dT kvs)))\/(T = "set" /\ ∃S n,H p=some (.set S n))
 |_=>False
theorem ZdQ{x:V}{v:Value}(I:49 H s)(r:ZL x v)(ty:tyV X.K T x H) :
  s.TypeIs v T/\∀a,v=.ref a->∃ob,s.heap.get? a=some ob/\ob.dict=none:=by
 cases x with
 |str z=>
  obtain⟨t,rfl⟩:=r;cases (show T = "str" from ty);exact⟨typeIs_str s z t,fun _ e=>nomatch e⟩
 |int i=>
  obtain⟨t,rfl⟩:=r;cases (show T = "int" from ty);exact⟨typeIs_int s i t,fun _ e=>nomatch e⟩
 |ref p=>
  cases r;rcases ty with⟨rfl,xs,hq⟩|⟨rfl,o,hk,hc,hd⟩|⟨rfl,hk⟩|⟨rfl,S,n,hk⟩
  ·obtain⟨its,_,pl,_⟩:=I.list hq;refine⟨pl.isList.typeIs,fun a e=>?_⟩;cases e;obtain⟨o,n,e,c,hd,_⟩:=pl;exact⟨o,e,hd⟩
  ·refine⟨⟨o,I.kIn p o hk,hc⟩,fun a e=>?_⟩;cases e;exact⟨o,I.kIn _ o hk,hd⟩
  ·have z:∃o,s.heap.get? p=some o/\o.ExactDict:=by
    rcases hk with⟨kvs,hk⟩|⟨kvs,hk⟩
    ·obtain⟨_,_,_,_,o,_,_,e,ex,_⟩:=I.hok p _ hk;exact⟨o,e,ex⟩
    ·obtain⟨_,_,_,_,o,_,_,e,ex,_⟩:=I.hok p _ hk;exact⟨o,e,ex⟩
   obtain⟨o,e,ex⟩:=z;refine⟨⟨o,e,ex.1⟩,fun a e2=>?_⟩;cases e2;exact⟨o,e,ex.2.1⟩
  ·obtain⟨o,_,_,_,e,ex,_⟩:=I.hok p _ hk;refine⟨⟨o,e,ex.1⟩,fun a e2=>?_⟩;cases e2;exact⟨o,e,ex.2.1⟩
 |_=>exact False.elim ty
def tBM0(K:W.Frag)(T:String)(r:V->List V->Hp->VK->Prop)(to:TE):TE:=fun σ H Q=>to σ H fun x H1=>tyV K T x H1/\r x [] H1 Q
def tBM(K:W.Frag)(T:String)(r:V->List V->Hp->VK->Prop)(to:TE)(t:TA):TE:=fun σ H Q=>to σ H fun x H1=>tyV K T x H1/\t σ H1 fun xs H2=>r x xs H2 Q
variable{o:Expr}{es:List Expr}{to:TE}{t:TA}{name:Str}{apos cpos:Pos}{id:String}{r:V->List V->Hp->VK->Prop}
theorem ZdC(pa:PlainAttrs T)(slot:Slot T name id)(Ba:typeOf (.builtin id)=pure (.type "method_descriptor"))(hm:MtR X id r)(ho:PE X o to)
  (sC:attributeBase o name X.env (eval o X.env)=eval o X.env:=by rfl) (sO:(apos.endLine==cpos.line)=true:=by rfl):PE X (.Call (.Attribute o name apos) [] [] cpos) (tBM0 X.K T r to):=by
 intro cQ s σ H Q I h;refine wpAny_Call_method0_late sC sO (thn (ho cQ s σ H _ I h) fun v s1 ⟨x,H1,I1,r1,ty,q1⟩=>?_);obtain⟨h1,h2⟩:=ZdQ I1 r1 ty;exact⟨T,id,pa,slot,Ba,h1,h2,Calls.callWith_builtin rfl (PySem.evalArgs_none (hm cQ s1 σ H1 x [] v [] Q I1 r1 .nil q1))⟩
theorem Wc(pa:PlainAttrs T)(slot:Slot T name id)(Ba:typeOf (.builtin id)=pure (.type "method_descriptor"))(hm:MtR X id r)(ho:PE X o to)(ha:PA X (e::es) t)
  (sC:attributeBase o name X.env (eval o X.env)=eval o X.env:=by rfl)
  (oq:((backTo cpos (starEach (e::es) X.env)).all (fun x=>!x.1)&&(backToKw cpos (keywordEach [] X.env)).all (fun x=>x.1.isSome) && decide ((e::es).length+([]:List Keyword).length+(if([]:List Keyword).isEmpty then 0 else 1)<30))=true:=by rfl)
  (sO:(apos.endLine==cpos.line)=true:=by rfl) (hs:starEach (e::es) X.env=(false,eval e X.env)::starEach es X.env:=by rfl) (wr:(backTo cpos (starEach es X.env)).any (·.1)=false:=by rfl) :
  PE X (.Call (.Attribute o name apos) (e::es) [] cpos) (tBM X.K T r to t):=by
 intro cQ s σ H Q I h;refine wpAny_Call_method_late sC oq sO rfl (thn (ho cQ s σ H _ I h) fun v s1 ⟨x,H1,I1,r1,ty,q1⟩=>?_);obtain⟨h1,h2⟩:=ZdQ I1 r1 ty;refine⟨T,id,pa,slot,Ba,h1,h2,?_⟩;have hA:=ha cpos cQ s1 σ H1 _ I1 q1;rw[hs] at hA ⊢;refine Calls.callWith_builtin (by show(false||(backTo cpos (starEach es X.env)).any (·.1))=false;rw[wr]<;>rfl) (Calls.evalArgs_plain ?_);exact thn hA fun us s2 ⟨vs,H2,I2,r2,q2⟩=>hm cQ s2 σ H2 x vs v us Q I2 r1 r2 q2
end
def MtM(X:Cx)(id:String)(r:V->List V->Hp->VK->Prop):Prop:=
 ∀(cQ:74) (s:Shared) (σ:St) (H:Hp) (x:V) (xs:List V) (v:Value) (us:71) (Q:VK),49 H s->ZL x v->ZE xs us->r x xs H Q ->
  31 X.A (call (.builtin id) (v::us)) (EP X cQ σ Q) X.xe s
def ZE.one:∀{x:V}{us:71},ZE [x] us->∃u,us=[u]/\ZL x u
 |_,_,.cons r .nil=>⟨_,rfl,r⟩
def ZE.zero:∀{us:71},ZE [] us->us=[]
 |_,.nil=>rfl
def ZE.dropLast{xs:List V}{us:71}(h:ZE xs us):ZE xs.dropLast us.dropLast:=by
 induction h with
 |nil=>exact .nil
 |cons r t ih=>
  cases t with
  |nil=>exact .nil
  |cons q t'=>exact .cons r ih
def ZE.reverse{xs:List V}{us:71}(h:ZE xs us):ZE xs.reverse us.reverse:=by
 induction h with
 |nil=>exact .nil
 |cons r t ih=>rw[i8,i8];exact ZE.append ih (.cons r .nil)
def KD(l:List α):l.eraseIdx (l.length-1)=l.dropLast:=by
 induction l with
 |nil=>rfl
 |cons a r ih=>
  cases r with
  |nil=>rfl
  |cons b r=>
   have e:(a::b::r).length-1=((b::r).length-1)+1:=by
    have h1:(a::b::r).length=r.length+2:=rfl;have h2:(b::r).length=r.length+1:=rfl;lia
   rw[e,List.eraseIdx_cons_succ,ih]
   all_goals rfl
section
variable{l b:Addr}{xs ys zs:List V}
theorem Inv.lset{its':71}{f:Array Value->Array Value}(I:49 H s)(hH:H l=some (.lst xs))
  (e:s.heap.get? l=some { cls:=.type "list",data:=.seq its.toArray n }) (hf:f its.toArray=its'.toArray) (hv:ZE ys its') (hz:ys.length<=sizeLine) :
  49 (upd H l (.lst ys)) { s with heap:=s.heap.update l (Obj.mapSeq f),toks:=t' }:=by
 have q:=PySem.IsL.update e f;rw[hf] at q;refine I.write (x:=l) (e:=l) (by rw[hH];exact trivial) (.inl rfl) (fun b' u hb hu=>(gH s.heap (Obj.mapSeq f) (eX hb)).trans hu) ⟨_,q⟩ ?_;exact⟨hz,its',_,hv,q⟩
theorem Inv.lnew(I:49 H s)(hv:ZE ys its)(hz:ys.length<=sizeLine) :
  49 (upd H s.heap.objs.size (.lst ys)) { s with heap:=s.heap.push { cls:=.type "list",data:=.seq its.toArray },toks:=t' }:=
 I.laid (fun _ _ q=>eN _ q) (eE _) ⟨hz,its,0,hv,fg _ rfl⟩
theorem Inv.fresh(I:49 H s):H s.heap.objs.size=none:=I.hok.fresh (eE _)
theorem Inv.lstM(I:49 H s)(hH:H l=some (.lst xs)):xs.length<=sizeLine/\∃(its:71) (n:Nat),ZE xs its/\xs.length=its.length/\s.heap.get? l=some { cls:=.type "list",data:=.seq its.toArray n }:=by
 obtain⟨z,its,n,r,e⟩:=I.hok l _ hH;exact⟨z,its,n,r,r.length,e⟩
theorem Zdl(h:n<=sizeLine):Builtin.List.listTooLong n=false:=by
 unfold Builtin.List.listTooLong;exact fE 21
end
inductive WT(x:V)(vs:List V)(H:Hp)(Q:VK):Prop
 |mk (l:_) (xs:_) (y:_) (h0:x=.ref l) (h1:vs=[y]) (h2:H l=some (.lst xs)) (h3:xs.length<sizeLine) (h4:Q .non (upd H l (.lst (xs++[y])))):WT x vs H Q
def Zd5:V->List V->Hp->VK->Prop:=fun x vs H Q=>WT x vs H Q
def Z9:MtM X "list.append" Zd5:=by
 intro cQ s σ H x vs v us Q I rx rv h;obtain⟨l,xs,y,rfl,rfl,hH,hz,q⟩:=h;cases rx;obtain⟨u,rfl,ru⟩:=rv.one;obtain⟨z,its,n,r,hl,e⟩:=I.lstM hH;refine call_meets F.slot_list_append ⟨_,e,rfl⟩ F.entry_list_append (F.args_list_append_2 _ _) (PySem.list_append l its.toArray n u (by rw[fe];lia)) ⟨e,?_⟩;refine⟨.non,_,I.lset (its':=its++[u]) hH e 47 (r.append (.cons ru .nil)) ?_,rfl,q⟩;rw[eK,fY];lia
inductive Zc3(x:V)(vs:List V)(H:Hp)(Q:VK):Prop
 |mk (l:_) (xs:_) (y:_) (h0:x=.ref l) (h1:vs=[]) (h2:H l=some (.lst xs)) (h3:xs[xs.length-1]?=some y) (h4:Q y (upd H l (.lst xs.dropLast))):Zc3 x vs H Q
def rPop:V->List V->Hp->VK->Prop:=fun x vs H Q=>Zc3 x vs H Q
def ZdO:MtM X "list.pop" rPop:=by
 intro cQ s σ H x vs v us Q I rx rv h;obtain⟨l,xs,y,rfl,rfl,hH,hy,q⟩:=h;cases rx;have tL:=rv.zero;subst tL;obtain⟨z,its,n,r,hl,e⟩:=I.lstM hH;obtain⟨u,hu,ru⟩:=r.get hy;have M5:its.toArray[its.toArray.size-1]?=some u:=by
  show its.toArray[its.length-1]?=some u
  rw[<- ib,<- hl];exact hu
 refine call_meets F.slot_list_pop ⟨_,e,rfl⟩ F.entry_list_pop (F.args_list_pop_1 _) (MeetsSeq.list_pop_last l its.toArray n u M5 (by rw[fe];lia)) ⟨e,?_⟩;refine⟨y,_,I.lset (its':=its.dropLast) hH e ?_ r.dropLast ?_,ru,q⟩
 ·show its.toArray.eraseIdxIfInBounds (its.toArray.size-1)=its.dropLast.toArray
  rw[fe,List.eraseIdxIfInBounds_toArray,KD]
 ·rw[mQ];lia
inductive ZcI(x:V)(y:V)(H:Hp)(Q:VK):Prop
 |mk (l:_) (b:_) (xs:_) (zs:_) (h0:x=.ref l) (h1:y=.ref b) (h2:H l=some (.lst xs)) (h3:H b=some (.lst zs)) (h4:xs.length+zs.length<=sizeLine) (h5:∀p,H p=none->Q (.ref p) (upd H p (.lst (xs++zs)))):ZcI x y H Q
def rCat:R2:=fun x y H Q=>ZcI x y H Q
def Zb6:OpR X (binaryOp .Add) rCat:=by
 intro cQ s σ H x y v u Q I rx ry h;obtain⟨l,b,xs,zs,rfl,rfl,hH,hB,hz,q⟩:=h;cases rx;cases ry;obtain⟨z,its,n,r,hl,e⟩:=I.lstM hH;obtain⟨z2,oA,n2,r2,rN,e2⟩:=I.lstM hB;refine PySem.P.add_list e e2 ?_ (by rw[fe,fe];lia);have ea:its.toArray++oA.toArray=(its++oA).toArray:=by simp
 rw[ea];exact⟨.ref _,_,I.lnew (t':=s.toks) (r.append r2) (by rw[eK];lia),rfl,q _ I.fresh⟩
end L2
namespace Att
open PySem PySem.W PySem.Calls PyProof.Rows
def yE{P:Params}:∀(ns:82) (vs:71),WellAll P h vs (ns.map WData.int)->IntsAre vs ns:=by
 intro ns
 induction ns with
 |nil=>
  intro vs w;rw[fq] at w;cases w;exact .nil
 |cons n ns ih=>
  intro vs w;rw[eM] at w;cases w with
  |cons a b=>
   cases a;exact .cons _ _ (ih _ b)
def ZbB{l:OpenLaw}(hn:l.most=some n){P:Params}
  (tT:l.row.toRowW.claim.pre args=true) (ub:WellAll P h uX args) :
  ∃a vs ns,uX=[Value.ref a]/\args=[WData.list (ns.map WData.int)]/\h.get? a=some { cls:=.type "list",data:=.seq vs.toArray }/\IntsAre vs ns/\ns.length<=n:=by
 have EA:WShape.hasAll [] args [.list .int]=true:=(pre_splitW tT).1;have hc:l.pre.holds [] { args:=args }=true:=(pre_splitW tT).2;obtain⟨d,r,rfl,h1,h2⟩:=hasAllW_cons EA;obtain rfl:=hasAllW_nil h2;obtain⟨xs,rfl,h3⟩:=hasW_list h1;obtain⟨ns,rfl⟩:=items_int h3;have nv:ns.length<=n:=by
  unfold OpenLaw.pre at hc;have h4:(WTm.not (.lt (.lit (.int (n:Int))) (.len (.arg 0)))).holds [] { args:=[.list (ns.map .int)] }=true:=by
   have h4:=(holds_andW hc).1;rw[hn] at h4;exact h4
  have h5:=condW_of h4 (w_not (w_lt w_lit (w_len_list (w_arg rfl))));rw[eG] at h5;refine Nat.le_of_not_lt fun q=>?_;have q':(n:Int)<((ns.length:Nat):Int):=by lia
  first
   | (rw[fQ q'] at h5;exact nu h5 48)
   | (simp at h5;lia)
 cases ub with
 |cons w1 w2=>
  cases w2;cases w1 with
  |list ho nJ=>exact⟨_,_,ns,rfl,rfl,ho,yE ns _ nJ,nv⟩
def Zbo(l:OpenLaw)(args:List WData):l.row.toRowW.claim.post args (.bool true) args=true:=
 postW_of (r:=l.row.toRowW) (X:=(true==true))
  (show WShape.has [] (.bool true) .bool=true by first|rfl|decide|simp[WShape.has,WShape.arms,WShape.armsAll])
  (show(WTm.eq .res (.lit (.bool true))).value [] { args:=args,res:=some (.bool true),after:=args }=some (.bool (true==true)) from w_eq_bool (w_res rfl) w_lit) rfl
def attach_call{l:OpenLaw}{d:DefRec}
  (hn:l.most=some n) (Bu:d.params.defaults=[])
  (call:∀(w:World) (s₀ s₁:Shared) (mg mb:Str->81) (fa:Addr) (o:Obj) (pm cd doc:Value) (a:Addr) (vs:71) (ns:82),Ground q rg [] XP w s₀ mg mb s₁.heap->YP w s₁.heap -> s₁.heap.get? fa=some o->o.data=.func (docDef d.name d.params d.body d.scope pm cd doc)->s₁.heap.CodeRec cd d.name->mg d.name=some (.ref fa) -> s₁.heap.get? a=some { cls:=.type "list",data:=.seq vs.toArray }->IntsAre vs ns->ns.length<=n->s₁.gens=#[] -> codeAny (model l.prog w) callerA (.call (.ref fa) ⟨[.ref a],[]⟩) (fun r s'=>r=.ok (.ret (.bool true))/\OldK s₁.heap s'.heap/\s'.os=s₁.os/\AllBare s'.gens) s₁) :
  WalkO q rg XP YP l.row.toRowW d [] (fun f vs=>PySem.call f vs):=by
 intro w s₀ s₁ mg mb G Y fa o pm cd doc dV kV ho hd pQ hD Eb hg args uX as tT SY hrd ub hlo;obtain rfl:dV=.none:=Dflts.none hD Bu;obtain rfl:kV=.none:=Dflts.noKw hD;obtain⟨a,vs,ns,rfl,rfl,uU,r6,nv⟩:=ZbB hn tT ub;refine enter_call (hX (call w s₀ s₁ mg mb fa o pm cd doc a vs ns G Y ho (fd_plain hd) pQ Eb uU r6 nv hg) fun r s' hq=>?_);obtain⟨rfl,h2,h3,h4⟩:=hq;exact⟨.inl ⟨.bool true,.bool true,[],rfl,fun _=>rfl,.bool true,Zbo l _,fun _=>⟨List.Pairwise.nil,fun _ hm=>(nomatch hm)⟩⟩,h2,h3,h4⟩
section
variable{K:Frag}
def ZhU(h:Heap)(L d:Addr):74:=(γ h.objs.size).filterMap fun a=>if a=L\/a=d then none else(h.get? a).map fun o=>(a,o)
end
end Att
namespace L2
open PySem PySem.Spec PyProof.Rows
def jC:∀{vs:71}{ns:82},IntsAre vs ns->ZE (ns.map V.int) vs
 |_,_,.nil=>.nil
 |_,_,.cons n t h=>.cons ⟨t,rfl⟩ (jC h)
def Wn(s:Stmt)(j:Nat):Stmt:=match s with
 |.ClassDef _ _ _ body _ _ _ _ _ _ _=>body.getD j (.Pass ⟨0,0,0,0⟩)
 |_=>.Pass ⟨0,0,0,0⟩
def XO(s:Stmt):Arguments:=match s with
 |.FunctionDef _ a _ _ _ _ _ _ _ _=>a
 |_=>{ posonlyargs:=[],args:=[],vararg:=none,kwonlyargs:=[],kw_defaults:=[],kwarg:=none,defaults:=[] }
def YI(s:Stmt):List Stmt:=match s with
 |.FunctionDef _ _ b _ _ _ _ _ _ _=>b
 |_=>[]
def Zh(s:Stmt):Scope:=match s with
 |.FunctionDef _ _ _ _ _ _ sc _ _ _=>sc
 |_=>{ kind:=.function,names:=[],isGenerator:=false,isCoroutine:=false }
abbrev CX0:CXT:=fun _ _ _ _ _ _=>False
abbrev E0:XK:=fun _ _ _=>False
def Xs:Ur CX0 X E0:=fun _ _ _ _ _ _ _ h=>h.elim
structure Fun(K:W.Frag)(x qual:Str)(st:Stmt)(f:Addr)(fd:FuncData):Prop where
 ex:∃(oc:Value) (od:Option Addr) (kV doc pm:Value) (an:Option Addr) (cR ct:Value) (osl:Array (81)),
  fd=W.fnOf x qual (XO st) (YI st) (Zh st) .none kV doc pm an cR ct/\K.lookup f=some ⟨oc,od,.func fd,osl⟩/\W.codeIn K cR qual=true
 kp:W.keepIn K (.ref f)=true
def Fun.ok{x:Str}{st:Stmt}{f:Addr}{ps:50}{k:Nat}(F:Fun K x qual st f fd)(S:Zs N ps (Zh st))(len:∀vs H Q E,sp vs H Q E->vs.length=ps.length)
  (nQ:∀(cR:Value) (A:Around) (outer:List Env) (s:Shared) (H:Hp) (vs:List V) (Q:VK) (E:XK),YK k (A.deeper (envOfC qual (Zh st) s.heap.objs.size f cR))->sp vs H Q E -> ∃t,PSs (jZ CX0 P w K mg base N qual (Zh st) f cR A outer s H E).nox (YI st) t/\t { nx:=fun _ H'=>Q .non H',rt:=Q } (UI N vs) H):WK P w K mg base CX0 (k+1) f fd ps sp:=by
 obtain⟨oc,od,kV,doc,pm,an,cR,ct,osl,rfl,lk,pQ⟩:=F.ex;refine Zfu lk pQ S len fun A outer s H vs Q E hr rK=>?_;obtain⟨t,h,q⟩:=nQ cR A outer s H vs Q E hr rK;exact⟨t,h.nox,q⟩
def Fun.binds{x:Str}{st:Stmt}{f:Addr}{ps:50}(F:Fun K x qual st f fd)
  (h:∀(kV doc pm:Value) (an:Option Addr) (cR ct:Value) (us:71),us.length=ps.length->bindArgs (W.fnOf x qual (XO st) (YI st) (Zh st) .none kV doc pm an cR ct) ⟨us,[]⟩=pure (ps.zip us)):Vd K fd ps []:=by
 obtain⟨oc,od,kV,doc,pm,an,cR,ct,osl,rfl,lk,pQ⟩:=F.ex;exact .all (h kV doc pm an cR ct)
def Zdz{x:Str}{st:Stmt}{f:Addr}{oc:Value}{kV doc pm cR ct:Value}(l:K.lookup f=some ⟨oc,od,.func (W.fnOf x qual (XO st) (YI st) (Zh st) .none kV doc pm an cR ct),osl⟩)
  (c:W.codeIn K cR qual=true) (k:W.keepIn K (.ref f)=true):Fun K x qual st f (W.fnOf x qual (XO st) (YI st) (Zh st) .none kV doc pm an cR ct):=⟨⟨oc,od,kV,doc,pm,an,cR,ct,osl,rfl,l,c⟩,k⟩
def VT{k:Nat}(hr:YK k A):A.units+1<cLine:=gk (Nat.add_le_add_left (by left:1<=64) _) hr.units
def pv(i:Nat){x:Str}(hN:X.N[i]?=some x:=by rfl)(hv:Vis X.env.scope x:=by first|exact Or.inl rfl|exact Or.inr (.inl rfl)|exact Or.inr (.inr rfl))(hd:(x==("__debug__" : Str))=false:=by left)
  (pQ:(x==("__classdict__" : Str))=false:=by left):PE X (.Name x gT) (kc i):=Zgv hN hv hd pQ
def Z4{A B:Prop}(h:B):if false=true then A else B:=by
 rw[nn fB];exact h
def YD{A B:Prop}(h:A):if true=true then A else B:=by
 rw[nt rfl];exact h
def Vo{c A B:Prop}[Decidable c](h1:c->A)(h2:¬c->B):if c then A else B:=by
 by_cases h:c
 ·rw[nt h];exact h1 h
 ·rw[nn h];exact h2 h
def Zf(H H':Hp):Prop:=∀b o,H b=some o->H' b=some o
def Zf.refl(H:Hp):Zf H H:=fun _ _ h=>h
def Zf.trans(a:Zf H H1)(b:Zf H1 H2):Zf H H2:=fun c o h=>b c o (a c o h)
def Zf.free(e:Zf H H'){l:Addr}(h:H' l=Option.none):H l=Option.none:=by
 cases q:H l with
 |none=>rfl
 |some o=>
  rw[e l o q] at h;cases h
def Zf.seq{xs:List V}(e:Zf H H')(h:SqL K H a xs):SqL K H' a xs:=by
 rcases h with(h|⟨o,h⟩)|h
 ·exact .inl (.inl (e _ _ h))
 ·exact .inl (.inr ⟨o,e _ _ h⟩)
 ·exact .inr h
end L2
set_option maxHeartbeats 8000000
namespace L3
open PySem PySem.Spec PyProof.Rows L2
abbrev St:=L2.St
def sub(ix:List (Option Nat))(σ:St):St:=ix.map fun o=>o.bind fun j=>(σ[j]?).join
def JI{t:Sem α}{Q:α->70}(h:wpAny M A t Q (fun _ _=>False) s)(hQ:∀a s,Q a s->Q' a s):wpAny M A t Q' E s:=
 iu h hQ fun _ _ z=>z.elim
def PTs(X:Cx)(oh:List Expr)(t:TT):Prop:=
 ∀(cQ:74) (s:Shared) (σ:St) (H:Hp) (Q:Bool->Hp->Prop),49 H s->t σ H Q ->
  31 X.A (forIn oh true fun c r=>if r=true then do let ok <- isTrue c X.env (eval c X.env);pure (ForInStep.yield ok) else pure (ForInStep.yield r)) (TP X cQ σ Q) X.xe s
def jt:TT:=fun _ H Q=>Q true H
def YV:PTs X [] jt:=fun _ _ _ H _ I h=>wpAny_tests_nil ⟨H,I,h⟩
def zx{c:Expr}{t:TT}(h:PT X c t):PTs X [c] t:=fun cQ s σ H Q I q=>wpAny_tests_one (h cQ s σ H Q I q)
def X1(scope:Scope)(env:Env):List (Str×Addr):=(scope.names.filter fun y=>y.2==.free).reverse.map fun y=>(y.1,(env.cells.lookup y.1).getD 0)
def Zbb:∀(ns:List (Str×NameKind)) (acc:List (Str×Addr)),(∀y∈ns,y.2=.free->(env.cells.lookup y.1).isSome=true) ->
  (forIn ns acc fun(x:Str×NameKind) (r:List (Str×Addr))=>if x.2==.free then do let a <- cellOf env x.1;pure (ForInStep.yield ((x.1,a)::r)) else pure (ForInStep.yield r):Sem (List (Str×Addr))) =
   pure ((ns.filter fun y=>y.2==.free).reverse.map (fun y=>(y.1,(env.cells.lookup y.1).getD 0))++acc):=by
 intro ns
 induction ns with
 |nil=>intro acc _;rfl
 |cons y r ih=>
  intro acc h;have hr:∀z∈r,z.2=.free->(env.cells.lookup z.1).isSome=true:=fun z hz=>h z (eT _ hz);rw[ic]
  by_cases hf:(y.2==NameKind.free)=true
  ·have hs:=h y gU (by simpa using hf);obtain⟨c,hc⟩:=ml.mp hs;have e1:cellOf env y.1=pure c:=by unfold cellOf;rw[hc]
   rw[nt hf,e1,pure_bind,pure_bind];refine(ih _ hr).trans ?_;rw[mq (by simpa using hf),i8,fo];simp[hc]
  ·rw[nn hf,pure_bind];refine(ih _ hr).trans ?_;rw[mr (by simpa using hf)]
def ZeV(h:∀y∈scope.names,y.2=.free->(env.cells.lookup y.1).isSome=true):closureFor scope env=pure (X1 scope env):=by
 have e:=Zbb (env:=env) scope.names [] h;rw[gp] at e;unfold closureFor;rw[show X1 scope env=(scope.names.filter fun y=>y.2==.free).reverse.map (fun y=>(y.1,(env.cells.lookup y.1).getD 0)) from rfl];rw[<- pure_bind (m:=Sem) ((scope.names.filter fun y=>y.2==.free).reverse.map (fun y=>(y.1,(env.cells.lookup y.1).getD 0))) pure,<- e]
def Us{β:Type}(f:Str->β):∀(l:List (Str×NameKind)) (x:Str),(l.map fun y=>(y.1,f y.1)).lookup x=if x∈l.map (·.1) then some (f x) else none
 |[],x=>by simp
 |y::r,x=>by
  rw[eM,fD,Us f r x]
  by_cases e:x=y.1
  ·subst e;simp
  ·have hb:(x==y.1)=false:=by simpa using e
   rw[hb]
   by_cases hm:x∈r.map (·.1)
   ·rw[nt hm,nt (by rw[eM];exact eT _ hm)]
   ·rw[nn hm,nn (by rw[eM];intro z;rcases eU.mp z with z|z;exact e z;exact hm z)]
def Wh{x:Str}{c:Addr}(h:∀y∈scope.names,y.2=.free->(env.cells.lookup y.1).isSome=true)(e:(X1 scope env).lookup x=some c):env.cells.lookup x=some c:=by
 unfold X1 at e;rw[Us (fun z=>(env.cells.lookup z).getD 0)] at e
 split at e
 ·rename_i hx
  obtain⟨y,hy,rfl⟩:=eV.mp hx;obtain⟨h1,h2⟩:=i5.mp (List.mem_reverse.mp hy);obtain⟨d,hd⟩:=ml.mp (h y h1 (by simpa using h2));have e':=fc e;rw[hd] at e' ⊢;exact fb some e'
 ·cases e
def xk{x:Str}(hx:(x,NameKind.free)∈scope.names):∃c,(X1 scope env).lookup x=some c:=by
 unfold X1;rw[Us (fun z=>(env.cells.lookup z).getD 0),nt]
 ·exact⟨_,rfl⟩
 ·exact eV.mpr ⟨(x,.free),List.mem_reverse.mpr (i5.mpr ⟨hx,by simp⟩),rfl⟩
def zG{env:Env}:∀{names:List (Str×NameKind)}{x:Str}{k:NameKind},
  (names.map fun(n,k)=>if(k==NameKind.free&&env.scope.kind==.function&&env.kindOf n==some .cell) then(n,NameKind.cell) else(n,k)).lookup x=some k ->
   names.lookup x=some k\/(k=.cell/\names.lookup x=some .free)
 |[],_,_,h=>by simp at h
 | (n,k0)::r,x,k,h=>by
  rw[eM] at h;dsimp only at h;cases hx:x==n with
  |true=>
   by_cases hc:(k0==NameKind.free&&env.scope.kind==.function&&env.kindOf n==some .cell)=true
   ·rw[nt hc] at h;simp only[fD,hx] at h ⊢;have:k0=.free:=by
     have h1:=(fH _ _▸((fH _ _▸hc).1)).1;simpa using h1
    exact .inr ⟨(fc h).symm,by rw[this]⟩
   ·rw[nn hc] at h;simp only[fD,hx] at h ⊢;exact .inl h
  |false=>
   have h':(r.map fun(n,k)=>if(k==NameKind.free&&env.scope.kind==.function&&env.kindOf n==some .cell) then(n,NameKind.cell) else(n,k)).lookup x=some k:=by
    by_cases hc:(k0==NameKind.free&&env.scope.kind==.function&&env.kindOf n==some .cell)=true
    ·rw[nt hc] at h;simpa only[fD,hx] using h
    ·rw[nn hc] at h;simpa only[fD,hx] using h
   simp only[fD,hx];exact zG h'
def zh{env:Env}:∀{names:List (Str×NameKind)}{x:Str},names.lookup x=some .free ->
  (names.map fun(n,k)=>if(k==NameKind.free&&env.scope.kind==.function&&env.kindOf n==some .cell) then(n,NameKind.cell) else(n,k)).lookup x=some .cell \/
  (names.map fun(n,k)=>if(k==NameKind.free&&env.scope.kind==.function&&env.kindOf n==some .cell) then(n,NameKind.cell) else(n,k)).lookup x=some .free
 |[],_,h=>by simp at h
 | (n,k0)::r,x,h=>by
  rw[eM];dsimp only;cases hx:x==n with
  |true=>
   simp only[fD,hx] at h;have e:k0=.free:=fc h
   by_cases hc:(k0==NameKind.free&&env.scope.kind==.function&&env.kindOf n==some .cell)=true
   ·rw[nt hc];exact .inl (by simp only[fD,hx])
   ·rw[nn hc];exact .inr (by simp only[fD,hx];rw[e])
  |false=>
   simp only[fD,hx] at h;have ih:=zh (env:=env) h
   by_cases hc:(k0==NameKind.free&&env.scope.kind==.function&&env.kindOf n==some .cell)=true
   ·rw[nt hc];simpa only[fD,hx] using ih
   ·rw[nn hc];simpa only[fD,hx] using ih
structure ZX(sc:Scope)(N Nc:50)(ix:List (Option Nat))(scope:Scope):Prop where
 kind:scope.kind=.function
 nocell:∀y∈scope.names,y.2≠.cell
 names:∀y∈scope.names,y.2=.local->scope.names.lookup y.1=some .local
 free:∀y∈scope.names,y.2=.free->sc.names.lookup y.1=some .cell\/sc.names.lookup y.1=some .free
 len:ix.length=Nc.length
 chk:((ix.zip Nc).all fun p=>match p.1 with|none=>true|some j=>N[j]?==some p.2&&scope.names.lookup p.2==some .free)=true
def ZX.at_{Nc:50}{ix:List (Option Nat)}(o:ZX sc N Nc ix scope){x:Str}(h1:ix[i]?=some (some j))(h2:Nc[i]?=some x):N[j]?=some x/\scope.names.lookup x=some .free:=by
 have hm:(some j,x)∈ix.zip Nc:=by
  refine fz (i:=i) ?_;rw[ω];exact⟨h1,h2⟩
 have q:=fZ.mp o.chk _ hm;have q':=fH _ _▸q;exact⟨by simpa using q'.1,by simpa using q'.2⟩
def YR(X:Cx)(Nc:50)(scope:Scope)(cl:List (Str×Addr))(C:Addr)(s:Shared)(H:Hp)(fp:List Addr):Cx where
 prog:=X.prog
 w:=X.w
 K:=X.K
 mg:=X.mg
 base:=X.base
 A:=X.A
 N:=Nc
 s₀:=s
 H₀:=H
 env:=compEnvC scope cl C X.env
 outer:=X.stack
 stack:=X.stack
 ex:=fp
 fn:=fun x=>(cl.lookup x).isNone
 calm:=X.calm
 pn:=X.pn
 xe:=fun _ _=>False
section
variable{Nc:List Str}{ix:List (Option Nat)}
theorem ya(I:49 H s)(ok:ZX X.env.scope X.N Nc ix scope):∀y∈scope.names,y.2=.free->(X.env.cells.lookup y.1).isSome=true:=fun y hy hf=>by
 obtain⟨c,hc⟩:=I.ok.has y.1 (ok.free y hy hf);rw[hc];rfl
theorem KO(I:49 H s)(ok:ZX X.env.scope X.N Nc ix scope)(hf:∀b∈fp,qd X cQ H b)(EJ:∀b∈fp,∃o,s.heap.get? b=some o)
  {m:Str->81} (hn:h1.Ns s.heap.objs.size m) (hk:∀b o,s.heap.get? b=some o->h1.get? b=some o) :
  Inv (YR X Nc scope (X1 scope X.env) s.heap.objs.size s H fp) cQ (sub ix σ) H { s with heap:=h1,toks:=t' }:=by
 have ac:=ya I ok;have sU:∀{b:Addr}{o:Obj},s.heap.get? b=some o->b≠s.heap.objs.size:=fun e=>eQ (eP e);refine⟨⟨I.ok.mod,?_,I.ok.glob,I.ok.blt,eE _,?_,?_,?_,I.ok.hd,I.ok.frames,.inl rfl,?_,I.bs,eW I.ok.bsz I.sz,?_,?_,I.stack,I.stkFree⟩,rfl,I.bare,Un.kept hk,⟨m,hn,?_⟩,?_,?_,?_,?_,I.hok.kept hk,?_⟩
 ·exact ok.kind
 ·intro x y c e1 e2;exact I.ok.inj x y c (Wh ac e1) (Wh ac e2)
 ·intro x hx;have sV:∀k,(relabel scope X.env).names.lookup x=some k->(k=.cell\/k=.free)->∃c,(X1 scope X.env).lookup x=some c:=fun k e PF=>by
   rcases zG e with q|⟨_,q⟩
   ·rcases PF with rfl|rfl
    ·exact nu rfl (ok.nocell _ (gG q))
    ·exact xk (gG q)
   ·exact xk (gG q)
  rcases hx with e|e
  ·exact sV _ e (.inl rfl)
  ·exact sV _ e (.inr rfl)
 ·intro x c wt e;have e':(X1 scope X.env).lookup x=some c:=e;have AY:((X1 scope X.env).lookup x).isNone=true:=wt;rw[e'] at AY;cases AY
 ·intro b hb;obtain⟨o,e⟩:=EJ b hb;obtain⟨f0,f1,f2,f3,f4,f5⟩:=hf b hb;exact⟨sU e,fun x c q=>f4 x c (Wh ac q)⟩
 ·intro b o e hb;obtain⟨f0,f1,f2,f3,f4,f5⟩:=hf b hb;rcases f3 with z|z
  ·exact I.ok.noex b o e z
  ·exact nu (fF (fF (eP e) I.ok.bsz) z) (gS _)
 ·intro b hb hz;obtain⟨f0,f1,f2,f3,f4,f5⟩:=hf b hb;rcases eU.mp (I.stkSub b hz) with z|z
  ·exact f1 z
  ·exact f2 z
 ·intro i x v e1 e2 e3;have e1:Nc[i]?=some x:=e1;unfold sub at e2;rw[eO] at e2;cases hi:ix[i]? with
  |none=>rw[hi] at e2;cases e2
  |some o=>
   cases o with
   |none=>rw[hi] at e2;cases e2
   |some j=>
    obtain⟨hN,nV⟩:=ok.at_ hi e1;have e4:σ[j]?=some (some v):=by
     rw[hi] at e2;have AS:some ((σ[j]?).join)=some (some v):=e2;have e5:=fc AS;cases hj:σ[j]? with
     |none=>rw[hj] at e5;cases e5
     |some z=>rw[hj] at e5;exact fb some e5
    have EF:Vis X.env.scope x:=by
     rcases ok.free (x,.free) (gG nV) rfl with q|q
     ·exact .inr (.inl q)
     ·exact .inr (.inr q)
    obtain⟨m0,Ev,hl⟩:=I.loc;obtain⟨u,r,lk⟩:=hl j x v hN e4 EF;refine⟨u,r,.inr ⟨zh nV,?_⟩⟩;rcases lk with⟨q,_⟩|⟨_,c,hc,z⟩
    ·rcases ok.free (x,.free) (gG nV) rfl with q2|q2
     ·exact nu (q.symm.trans q2) 48
     ·exact nu (q.symm.trans q2) 48
    ·obtain⟨d,hd⟩:=xk (env:=X.env) (gG nV);have:=Wh ac hd;rw[hc] at this;cases this;obtain⟨oc,e5,e6⟩:=z;exact⟨c,hd,oc,hk c oc e5,e6⟩
 ·intro x c e;obtain⟨v,oc,e5,e6⟩:=I.cell x c (Wh ac e);exact⟨v,oc,hk c oc e5,e6⟩
 ·exact I.hok.fresh (eE _)
 ·intro x c e;exact I.freeC x c (Wh ac e)
 ·intro p hp;obtain⟨e,n,ne,nf,d⟩:=I.pin p hp;refine⟨hk _ _ e,n,sU e,fun z=>?_,d⟩;rcases eU.mp (I.stkSub p.1 z) with q|q
  ·exact ne q
  ·exact nf q
 ·unfold sub;rw[eG];exact ok.len
theorem ZdX{σ':St}(I:49 H s)(hf:∀b∈fp,qd X cQ H b)(hC:s.heap.get? C=none)
  (J:Inv 83 cQ σ' H' s') (sb:Heap.SameBut C s'.heap h'):49 H' { s' with heap:=h' }:=by
 have u:Un (frs X.stack) fp H H' s.heap s'.heap:=J.base;have LO:H' C=none:=J.free;have AX:∀{b:Addr}{o:Obj},s.heap.get? b=some o->b≠C:=fun e z=>by rw[z,hC] at e;cases e
 refine I.call' (s':={ s' with heap:=h' }) (ch:=fp) J.os ⟨fun b o e n h1 h2=>?_,fun b o e n h1 h2=>?_,u.free,fun b o e h2=>?_,u.tups,u.frzs,u.tbls⟩ ?_ J.bare fun b hb=>?_
 ·exact(sb.2 b (AX e)).trans (u.keep b o e n h1 h2)
 ·obtain⟨sl,q⟩:=u.slot b o e n h1 h2;exact⟨sl,(sb.2 b (AX e)).trans q⟩
 ·obtain⟨o',q⟩:=u.there b o e h2;exact⟨o',(sb.2 b (AX e)).trans q⟩
 ·intro b o e;refine(J.hok b o e).stay (fun c v hc q=>(sb.2 c ?_).trans q) (fun _ q=>q) fun _ _ q=>q;rintro rfl;rcases hc with z|z
  ·rw[<- z,LO] at e;cases e
  ·rw[LO] at z;cases z
 ·obtain⟨f0,f1,f2,f3,f4,f5⟩:=hf b hb;exact⟨f3,f1,f4,f5⟩
end
def qF(k:Key)(l:List Key):Bool:=l.any fun x=>decide (x=k)
def Kh{k:Key}{l:List Key}:qF k l=true↔k∈l:=by
 unfold qF;rw[lH];constructor
 ·rintro⟨x,hx,e⟩;have:=fA e;subst this;exact hx
 ·intro h;exact⟨k,h,by simp⟩
def Zbu(k' k:Key)(l:List Key):(qF k' l||decide (k'=k))=qF k' (l++[k]):=by
 unfold qF;rw[List.any_append]
 by_cases e:k'=k
 ·subst e;simp
 ·have e':¬k=k':=fun z=>e z.symm;simp[e,e']
def ZdM{k:Key}{l:List Key}(h:¬k∈l):qF k l=false:=by
 cases e:qF k l with
 |false=>rfl
 |true=>exact nu (Kh.mp e) h
def Qo{k:Key}{v:Value}(h:Ve k v=true):v.scannable=true:=by
 rcases ZZ h with⟨i,t,rfl,rfl⟩|⟨x,t,rfl,rfl⟩<;>rfl
def zB{S S':Key->Bool}{n':Nat}(x:h.SetOf (Zv prog w) a S n)(e:∀k,S k=S' k)(en:n=n'):h.SetOf (Zv prog w) a S' n':=by
 have:S=S':=funext e;subst this;subst en;exact x
def qz{S:Key->Bool}(x:h.SetOf (Zv prog w) a S n)(k:∀o,h.get? a=some o->h'.get? a=some o):h'.SetOf (Zv prog w) a S n:=by
 obtain⟨o,es,ep,t,ho,r⟩:=x;exact⟨o,es,ep,t,k o ho,r⟩
def Zc7{ax:Addr}{ks:List Key}(hh:A.handled=none)(nM:ax≠I)(uz:S≠I)(Ag:S≠ax)
  (hv:∀(i:Nat) v,items[i]?=some v->∃k,ks[i]?=some k/\Ve k v=true) (hl:ks.length=items.size) (hb:items.size+1<scanBound) :
  ∀(c i:Nat) (s:Shared) (n:Nat),items.size-i=c->i<=items.size->s.heap.IsListIter I ax i/\s.heap.IsList ax items ->
   s.heap.SetOf (Zv prog w) S (fun k=>qF k (ks.take i)) n->n<=i->(n=i↔(ks.take i).Nodup) ->
   (∀(h':Heap) (tk n':Nat),h'.SetOf (Zv prog w) S (fun k=>qF k ks) n'->n'<=ks.length->(n'=ks.length↔ks.Nodup)->(∀b o,b≠S->b≠I->s.heap.get? b=some o->h'.get? b=some o) -> R (.ok (.ret .none)) 86) ->
   codeAny (model prog w) A (.builtin "set.update.loop" ⟨[.ref S,.ref I],[]⟩) R s:=by
 have W:=Walks.list (prog:=prog) (w:=w) (A:=A.in1) (by simpa using hh) I ax nM items;intro c
 induction c with
 |zero=>
  intro i s n hc hi st hS hn sY hR;have e:i=items.size:=by lia
  subst e;refine gO mv ?_;rw[ie iP _]
  show wpAny _ A.in1 (pyNext (.ref I) >>= _) _ _ s
  refine dZ (W.done s _ _ st fun h' tk hk=>?_)
  show wpAny _ A.in1 (ret Value.none) _ _ _
  have et:ks.take items.size=ks:=by rw[<- hl];exact i9
  rw[et] at sY;refine eh (hR h' tk n (zB (qz hS fun o z=>hk S o (by simpa using uz) z) (fun k=>by rw[et]) rfl) 21 (by rw[hl];exact sY) fun b o _ rQ z=>hk b o (by simpa using rQ) z)
 |succ c ih=>
  intro i s n hc hi st hS hn sY hR;have nH:i<items.size:=by lia
  refine gO mv ?_;rw[ie iP _]
  show wpAny _ A.in1 (pyNext (.ref I) >>= _) _ _ s
  refine dZ (W.item i s _ _ nH st fun v h1 tk hP oQ hk=>?_);obtain⟨k,BS,FT⟩:=hv i v hP;have DI:h1.SetOf (Zv prog w) S (fun k=>qF k (ks.take i)) n:=qz hS fun o z=>hk S o (by simpa using uz) z
  show wpAny _ A.in1 (holding [v] (setAdd S v) >>= _) _ _ { s with heap:=h1,toks:=tk }
  refine dZ (fU ?_);unfold setAdd;refine fU (dZ ((Zv prog w).pyHash (k:=k) FT ?_));refine wpAny_setAddHashed_of (knd:=Zv prog w) (s:={ s with heap:=h1,toks:=tk+1 }) FT (Qo FT) DI 21 fun h2 tE uM=>?_;have Nu:i<ks.length:=by lia
  have ek:ks[i]=k:=by
   have:=eI Nu;rw[BS] at this;exact(fc this).symm
  have et:ks.take (i+1)=ks.take i++[k]:=by rw[Ε,BS];rfl
  have e1:∀k',(qF k' (ks.take i)||decide (k'=k))=qF k' (ks.take (i+1)):=fun k'=>by rw[et];exact Zbu _ _ _
  by_cases pN:k∈ks.take i
  ·have DP:=zB (n':=n) uM e1 (by rw[nt (Kh.mpr pN)]);refine eh ⟨ig iP _,ih (i+1) _ n 21 nH (W.frame _ _ _ oQ fun b hb o z=>?_) DP 21 ?_ fun h' tZ n' a1 a2 a3 a4=>?_⟩
   ·rw[tE.2 b (fun q=>by subst q;simp at hb;exact hb.elim uz Ag)];exact z
   ·constructor
    ·intro q;lia
    ·intro q;rw[et] at q;exact nu pN (fun z=>(lc.mp q).2.2 _ z _ 47 rfl)
   ·exact hR h' tZ n' a1 a2 a3 fun b o uc rQ z=>a4 b o uc rQ (by rw[tE.2 b uc];exact hk b o (by simpa using rQ) z)
  ·have DP:=zB (n':=n+1) uM e1 (by rw[ZdM pN];rfl);refine eh ⟨ig iP _,ih (i+1) _ (n+1) 21 nH (W.frame _ _ _ oQ fun b hb o z=>?_) DP 21 ?_ fun h' tZ n' a1 a2 a3 a4=>?_⟩
   ·rw[tE.2 b (fun q=>by subst q;simp at hb;exact hb.elim uz Ag)];exact z
   ·rw[et];constructor
    ·intro q;exact lc.mpr ⟨sY.mp 21,by simp,fun a ha b hb q2=>by rw[eZ.mp hb] at q2;subst q2;exact pN ha⟩
    ·intro q;have:=sY.mpr (lc.mp q).1;lia
   ·exact hR h' tZ n' a1 a2 a3 fun b o uc rQ z=>a4 b o uc rQ (by rw[tE.2 b uc];exact hk b o (by simpa using rQ) z)
set_option maxHeartbeats 8000000 in
def vL{l:Addr}{ks:List Key}(hh:A.handled=none)(hl:s.heap.IsList l items)
  (hv:∀(i:Nat) v,items[i]?=some v->∃k,ks[i]?=some k/\Ve k v=true) (hz:ks.length=items.size) (hb:items.size+1<scanBound)
  (h:∀(h':Heap) (tk n:Nat),h'.SetOf (Zv prog w) s.heap.objs.size (fun k=>qF k ks) n->n<=ks.length->(n=ks.length↔ks.Nodup)->(∀b o,s.heap.get? b=some o->h'.get? b=some o)->Q (.ref s.heap.objs.size) 86) :
  65 (call (.type "set") [.ref l]) Q E s:=by
 have BY:=gb.made;have pW:=gb.sub;obtain⟨c,tl,Fq⟩:=gb.mro;refine wpAny_call (codeAny_of_tree (eh ⟨Code.quiet_builtin _ 48,gO PySem.F.entry_type_call ?_⟩));rw[Around.under_plain (weight_type_call_type "set" [.ref l] []) rfl];have g1:=gb.notType;have g2:=gb.canCreate;have g3:=PySem.F.typeCall_set_1 (.ref l)
 repeat (any_goals (first|assumption|wp_step))
 refine hX (code_set_new_1 (.ref l) (E:=E) (Q₁:=fun obj t=>∃oR:Bool,obj=.ref s.heap.objs.size/\t={ s with heap:=s.heap.push { cls:=.type "set",dict:=none,data:=.set #[] 0 (.fresh 0 0 oR) } }) fun oR=>⟨oR,rfl,rfl⟩) fun r t hr=>?_;cases r with
 |error e=>exact hr
 |ok fl=>
  cases fl with
  |ret obj=>
   obtain⟨oR,rfl,rfl⟩:=hr;have hS:(s.heap.push { cls:=.type "set",dict:=none,data:=.set #[] 0 (.fresh 0 0 oR) }).get? s.heap.objs.size=some { cls:=.type "set",dict:=none,data:=.set #[] 0 (.fresh 0 0 oR) }:=fg _ rfl;have hT:Shared.TypeIs { s with heap:=s.heap.push { cls:=.type "set",dict:=none,data:=.set #[] 0 (.fresh 0 0 oR) } } (.ref s.heap.objs.size) "set" := ⟨_,hS,rfl⟩;have NK:=gb.init.lookup;have RX:=gb.init.bind (.ref s.heap.objs.size)
   repeat (any_goals (first|assumption|wp_step))
   refine hX (codeAny_call_builtin (R:=wants (fun r u=>r=.none/\∃h' tk n,u=86/\h'.SetOf (Zv prog w) s.heap.objs.size (fun k=>qF k ks) n/\n<=ks.length/\(n=ks.length↔ks.Nodup) /\ (∀b o,s.heap.get? b=some o->h'.get? b=some o)) E) gb.init.plain PySem.F.entry_set_init (check_set_init_1 hT ?_)) fun r2 u pz=>?_
   ·obtain⟨ol,AC,pA,nl,AM⟩:=hl;obtain⟨Ep,sQ,BW,pY⟩:=ol;simp only at pA AM;subst pA;subst AM;have uP:(s.heap.push { cls:=.type "set",dict:=none,data:=.set #[] 0 (.fresh 0 0 oR) }).get? l=some { cls:=.type "list",dict:=sQ,data:=.seq items nl,slots:=pY }:=eN _ AC;have Fi:=PySem.F.sub_list_set;have DS:=PySem.F.sub_list_frozenset;have nM:(Value.type "list" == Value.type "dict")=false:=by left
    have pJ:(s.heap.push { cls:=.type "set",dict:=none,data:=.set #[] 0 (.fresh 0 0 oR) }).IsList l items:=⟨_,uP,rfl,nl,rfl⟩;unfold Builtin.«set.__init__» noKeywords Builtin.Frozenset.updateFrom;generalize hPI:pyIter=PI
    wp_walk
    subst hPI;refine mj pJ ?_;refine dZ (wpAny_runValue ?_);have Bi:l<s.heap.objs.size:=eP AC;have z1:(s.heap.push { cls:=.type "set",dict:=none,data:=.set #[] 0 (.fresh 0 0 oR) }).objs.size=s.heap.objs.size+1:=hV _ _;refine Zc7 (ks:=ks) (items:=items) (ax:=l) (by simpa using hh) (by rw[z1];exact eQ (ii Bi)) (by rw[z1];exact eQ (iw _)) (fM Bi) hv hz hb (items.size-0) 0 _ 0 21 (fu _)
     ⟨⟨_,fg _ rfl,rfl,rfl⟩,(pJ.push _)⟩ ?hS0 (eE _) 47 ?hR
    case hS0=>
     refine zB (qz (h:=s.heap.push { cls:=.type "set",dict:=none,data:=.set #[] 0 (.fresh 0 0 oR) }) ?_ fun o z=>eN _ z) (S:=fun _=>false) (fun k=>rfl) rfl;exact⟨_,#[],0,_,hS,⟨rfl,rfl,rfl⟩,rfl,(fun e he=>by simp at he),(fun k=>by simp[qF]),(by unfold scanBound;decide),rfl,rfl⟩
    case hR=>
     intro h' tk n a1 a2 a3 a4
     show 79 _ _ _ _
     refine eh ?_
     show 79 (ret Value.none) _ _ _
     refine eh ⟨rfl,h',tk,n,rfl,a1,a2,a3,fun b o z=>?_⟩;have nH:=eP z;exact a4 b o (eQ nH) (by rw[z1];exact eQ (ii nH)) (eN _ (eN _ z))
   ·cases r2 with
    |error e=>exact pz
    |ok fl2=>
     cases fl2 with
     |ret r=>
      obtain⟨rfl,h',tk,n,rfl,a1,a2,a3,a4⟩:=pz
      repeat (any_goals (first|assumption|wp_step))
      exact h _ _ n a1 a2 a3 a4
     |_=>exact pz.elim
  |_=>exact hr.elim
def Za8(a:Addr)(n:Nat):HO:=.ext fun h=>∃o es ep t,h.get? a=some o/\o.ExactSet/\o.data=.set es ep t/\t.fits es.size=true/\es.size=n
section
variable{X:Cx}
theorem jx:∀{ks:List Key}{us:71},ZE (ks.map kV) us->∀(i:Nat) v,us[i]?=some v->∃k,ks[i]?=some k/\Ve k v=true
 |[],_,.nil,i,v,h=>by simp at h
 |k::r,_,.cons a b,0,v,h=>by
  simp at h;subst h;refine⟨k,rfl,?_⟩;cases k with
  |inl n=>obtain⟨t,rfl⟩:=a;exact VU n t
  |inr x=>obtain⟨t,rfl⟩:=a;exact zT x t
 |k::r,_,.cons a b,i+1,v,h=>by
  obtain⟨k',e,q⟩:=jx b i v (by simpa using h);exact⟨k',by simpa using e,q⟩
theorem Zcf(hc:X.calm=true):Yt X (.type "set") (fun xs H Q=>∃(p:Addr) (ks:List Key),xs=[.ref p]/\SqL X.K H p (ks.map kV)/\ks.length<4000/\∀n a,n<=ks.length->(n=ks.length↔ks.Nodup)->H a=none->Q (.ref a) (upd H a (Za8 a n))):=by
 intro cQ s σ H xs us Q I r h;obtain⟨p,ks,rfl,hq,hl,q⟩:=h;obtain⟨u,rfl,ru⟩:=VN r;obtain rfl:u=Value.ref p:=ru;obtain⟨its,rv,pl,hz⟩:=I.list hq;have el:=rv.length;rw[eG] at el;refine vL (I.ok.hd hc) pl.isList (fun i v e=>jx rv i v (by simpa using e)) (by simpa using el) (by unfold scanBound;simp;lia) fun h' tk n a1 a2 a3 a4=>?_;refine⟨.ref s.heap.objs.size,_,I.laid a4 (eE _) ?_,rfl,q n _ a2 a3 (I.hok.fresh (eE _))⟩;obtain⟨o,es,ep,t,ho,e1,e2,e3,e4,e5,e6,e7⟩:=a1;refine⟨⟨o,es,ep,t,ho,e1,e2,e6,e7⟩,⟨o,ho⟩,?_⟩;rintro h1 h2 ⟨o1,ou,Rm,t1,b1,b2⟩ k;exact⟨o1,ou,Rm,t1,k _ b1,b2⟩
theorem Zbf:Yt X (.builtin "len") (fun xs H Q=>∃a n,xs=[.ref a]/\H a=some (Za8 a n)/\n<4000/\Q (.int n) H):=by
 intro cQ s σ H xs us Q I r h;obtain⟨a,n,rfl,ha,hn,q⟩:=h;obtain⟨u,rfl,ru⟩:=VN r;obtain rfl:u=Value.ref a:=ru;obtain⟨⟨o,es,ep,t,e1,e2,e3,e4,e5⟩,_⟩:=I.hok a _ ha;refine call_len_set e1 e2 e3 e4 21 ?_;exact⟨.int n,H,I.tok _,⟨_,by rw[e5]⟩,q⟩
end
def YM(ns:82):82:=ns.mergeSort fun a b=>decide (a<=b)
def UA(ns:82):(YM ns).Perm ns:=List.mergeSort_perm _ _
def ZcZ(ns:82):(YM ns).Pairwise (·<=·):=by
 have h:=Ν (le:=fun a b:Int=>decide (a<=b)) (fun a b c h1 h2=>by simp at *; lia) (fun a b=>by simp;lia) ns;exact h.imp fun h=>by simpa using h
def Zck{ms:82}(hp:ms.Perm ns)(hs:ms.Pairwise (·<=·)):ms=YM ns:=
 W.ksm_same (hp.trans (UA ns).symm) hs (ZcZ ns)
def leS(a b:Str):Bool:=!decide (b.cps.toList<a.cps.toList)
def jz(a b c:Str)(h1:leS a b=true)(h2:leS b c=true):leS a c=true:=by
 unfold leS at *;simp only[mw,my,List.not_lt] at *;exact List.le_trans h1 h2
def ZbP(a b:Str):(leS a b||leS b a)=true:=by
 unfold leS;simp only[iQ,mw,my,List.not_lt];exact List.le_total _ _
def ZdA{a b:Str}(h1:leS a b=true)(h2:leS b a=true):a=b:=by
 unfold leS at *;simp only[mw,my,List.not_lt] at *;have e:=List.le_antisymm h1 h2;cases a;cases b;simp only[Str.mk.injEq];exact Array.toList_inj.mp e
def W7(ss:50):50:=ss.mergeSort leS
def qM(ss:50):(W7 ss).Perm ss:=List.mergeSort_perm _ _
def ZcG(ss:50):(W7 ss).Pairwise (fun a b=>leS a b=true):=Ν (le:=leS) jz ZbP ss
def ZcN{ts:50}(hp:ts.Perm ss)(hs:ts.Pairwise fun a b=>leS a b=true):ts=W7 ss:=
 (hp.trans (qM ss).symm).eq_of_pairwise (fun x y _ _ h1 h2=>ZdA h1 h2) hs (ZcG ss)
def jg:∀(l:50) (p:Str),risingS p l=true->(∀y∈l,leS p y=true)/\l.Pairwise fun a b=>leS a b=true
 |[],_,_=>⟨fun _ h=>(nomatch h),.nil⟩
 |x::r,p,h=>by
  have h':(!ltCps x.cps.toList p.cps.toList&&risingS x r)=true:=h;rw[fH] at h';have hx:leS p x=true:=by
   have:=h'.1;rw[ltCps_eq] at this;exact this
  obtain⟨a,b⟩:=jg r x h'.2;refine⟨fun y hy=>?_,.cons (fun y hy=>a y hy) b⟩;rcases eU.mp hy with rfl|hy
  ·exact hx
  ·exact jz _ _ _ hx (a y hy)
def KG{l:50}(h:sortedS l=true):l.Pairwise fun a b=>leS a b=true:=by
 cases l with
 |nil=>exact .nil
 |cons x r=>
  obtain⟨a,b⟩:=jg r x h;exact .cons a b
def yU:∀{ss:50}{us:71},ZE (ss.map V.str) us->StrsAre us ss
 |[],_,.nil=>.nil
 |x::r,_,.cons a b=>by
  obtain⟨t,rfl⟩:=a;exact .cons x t (yU b)
def jR:∀{ss:50}{us:71},StrsAre us ss->ZE (ss.map V.str) us
 |_,_,.nil=>.nil
 |_,_,.cons y t r=>.cons ⟨t,rfl⟩ (jR r)
def xt:∀{ns:82}{us:71},IntsAre us ns->ZE (ns.map V.int) us
 |_,_,.nil=>.nil
 |_,_,.cons n t r=>.cons ⟨t,rfl⟩ (xt r)
def va:∀{bs:List Bool}{us:71},ZE (bs.map V.bl) us->∀(i:Nat) v,us[i]?=some v->∃b,bs[i]?=some b/\v=.bool b
 |[],_,.nil,i,v,h=>by simp at h
 |b::r,_,.cons a c,0,v,h=>by simp at h;subst h;exact⟨b,rfl,a⟩
 |b::r,_,.cons a c,i+1,v,h=>by
  obtain⟨b',e,q⟩:=va c i v (by simpa using h);exact⟨b',by simpa using e,q⟩
def kQ:Yt X (.builtin "sorted") (fun xs H Q=>∃(p:Addr) (ns:82),xs=[.ref p]/\SqL X.K H p (ns.map V.int)/\ns.length<64/\∀l,H l=none->Q (.ref l) (upd H l (.lst ((YM ns).map V.int)))):=by
 intro cQ s σ H xs us Q I r h;obtain⟨p,ns,rfl,hq,hl,q⟩:=h;obtain⟨u,rfl,ru⟩:=VN r;obtain rfl:u=Value.ref p:=ru;obtain⟨its,rv,pl,hz⟩:=I.list hq;have el:=rv.length;rw[eG] at el;refine sorted_ints pl.isList (KJ rv) 21 fun out ms a1 a2 a3=>?_;obtain rfl:=Zck a2 a3;obtain⟨e,he⟩:=sortedAll_at s.heap its out;have nv:((YM ns).map V.int).length<=sizeLine:=by rw[eG,(UA ns).length_eq,<- eG (f:=V.int)];exact hz
 have ne:H 76=none:=I.hok.fresh (hZ _);exact⟨.ref 76,_,I.laid (o:=.lst ((YM ns).map V.int)) (t':=s.toks) (fun b o z=>sortedAll_old z) (hZ _) ⟨nv,out.toList,e,xt a1,by simpa using he⟩,rfl,q _ ne⟩
def kF:Yt X (.builtin "sorted") (fun xs H Q=>∃(p:Addr) (ss:50),xs=[.ref p]/\SqL X.K H p (ss.map V.str)/\ss.length<64/\∀l,H l=none->Q (.ref l) (upd H l (.lst ((W7 ss).map V.str)))):=by
 intro cQ s σ H xs us Q I r h;obtain⟨p,ns,rfl,hq,hl,q⟩:=h;obtain⟨u,rfl,ru⟩:=VN r;obtain rfl:u=Value.ref p:=ru;obtain⟨its,rv,pl,hz⟩:=I.list hq;have el:=rv.length;rw[eG] at el;refine sorted_strs pl.isList (yU rv) 21 fun out ms a1 a2 a3=>?_;obtain rfl:=ZcN a2 (KG a3);obtain⟨e,he⟩:=sortedAll_at s.heap its out;have nv:((W7 ns).map V.str).length<=sizeLine:=by rw[eG,(qM ns).length_eq,<- eG (f:=V.str)];exact hz
 have ne:H 76=none:=I.hok.fresh (hZ _);exact⟨.ref 76,_,I.laid (o:=.lst ((W7 ns).map V.str)) (t':=s.toks) (fun b o z=>sortedAll_old z) (hZ _) ⟨nv,out.toList,e,jR a1,by simpa using he⟩,rfl,q _ ne⟩
def Zak(K:W.Frag):List V->Hp->VK->Prop:=fun xs H Q=>(∃(p:Addr) (ss:50),xs=[.ref p]/\SqL K H p (ss.map V.str)/\ss.length<64/\∀l,H l=none->Q (.ref l) (upd H l (.lst ((W7 ss).map V.str))))\/(∃(p:Addr) (ns:82),xs=[.ref p]/\SqL K H p (ns.map V.int)/\ns.length<64/\∀l,H l=none->Q (.ref l) (upd H l (.lst ((YM ns).map V.int))))
def Jt:Yt X (.builtin "sorted") (Zak X.K):=kF.or kQ
def Zbz{bs:List Bool}:((γ bs.length).all fun i=>(bs[i]?).getD true)=bs.all id:=by
 induction bs with
 |nil=>rfl
 |cons b r ih=>
  rw[fG,Ρ,iO,iR,iO,<- ih];rfl
def ZdJ(hc:X.calm=true):Yt X (.builtin "all") (fun xs H Q=>∃(p:Addr) (bs:List Bool),xs=[.ref p]/\SqL X.K H p (bs.map V.bl)/\Q (.bl (bs.all id)) H):=by
 intro cQ s σ H xs us Q I r h;obtain⟨p,bs,rfl,hq,q⟩:=h;obtain⟨u,rfl,ru⟩:=VN r;obtain rfl:u=Value.ref p:=ru;obtain⟨its,rv,pl,hz⟩:=I.list hq;have el:=rv.length;rw[eG] at el;have nH:p<s.heap.objs.size:=by obtain⟨_,e,_⟩:=pl.isList;exact eP e
 refine call_all_walk (mj pl.isList ?_);refine⟨s.heap.objs.size,[s.heap.objs.size,p],[s.heap.objs.size],its.toArray.size,_,_,fun i=>(bs[i]?).getD true,rfl,Walks.list (A:=X.A.in1) (by simpa using I.ok.hd hc) _ p (eQ nH) its.toArray,⟨⟨_,fg _ rfl,rfl,rfl⟩,pl.isList.push _⟩,fun i v s' Q' E' hP hQ=>?_,fun h' tk hk=>?_⟩
 ·obtain⟨b,e,rfl⟩:=va rv i v (by simpa using hP);simp only[e,Option.getD_some] at hQ;exact gC hQ
 ·rw[fe,<- el,Zbz];exact⟨.bl _,H,I.kept fun b o e=>hk b o (by simpa using eQ (eP e)) (eN _ e),rfl,q⟩
def KN(n:Int):82:=(γ n.toNat).map fun(k:Nat)=>(k:Int)
def KF{lo:Int}(h:ItemsOf (fun i v=>∃t,v=.int (lo+i*1) t) its.toArray n):ZE ((γ n).map fun(k:Nat)=>V.int (lo+(k:Int))) its:=by
 obtain⟨h1,h2⟩:=h;rw[fe] at h1
 induction its generalizing n lo with
 |nil=>simp at h1;subst h1;exact .nil
 |cons u r ih=>
  cases n with
  |zero=>simp at h1
  |succ n=>
   rw[Ρ,eM,fL];obtain⟨t,e⟩:=h2 0 u 47;refine .cons ⟨t,by rw[e];simp⟩ ?_;have:=ih (n:=n) (lo:=lo+1) (by simpa using h1) (fun j v hj=>by
    obtain⟨t,e⟩:=h2 (j+1) v (by simpa using hj);exact⟨t,by rw[e];congr 1;push_cast;lia⟩)
   refine(show ZE _ r from ?_);have e2:(γ n).map (fun(k:Nat)=>V.int (lo+1+(k:Int)))=(γ n).map ((fun(k:Nat)=>V.int (lo+(k:Int)))∘Nat.succ):=by
    apply lg;intro k _;simp only[Function.comp]
    congr 1
    push_cast
    lia
   rw[<- e2];exact this
def vK(hc:X.calm=true):Yt X (.type "list") (fun xs H Q=>∃(p:Addr) (j:Int),xs=[.ref p]/\H p=some (.rng 0 j)/\0<=j/\j<=1000000/\∀l,H l=none->Q (.ref l) (upd H l (.lst ((KN j).map V.int)))):=by
 intro cQ s σ H xs us Q I r h;obtain⟨p,j,rfl,hp,h0,h1,q⟩:=h;obtain⟨u,rfl,ru⟩:=VN r;obtain rfl:u=Value.ref p:=ru;obtain⟨t,u,v,e⟩:=I.hok p _ hp;refine call_list_range (a:=0) (b:=j) (c:=1) (n:=j.toNat) (I.ok.hd hc) e (small_one 21 21 21 21) (by rw[rangeSize_one];split<;>lia) 21 fun h' tk acc c' hk he hi=>?_;have hv:ZE ((KN j).map V.int) acc.toList:=by
  have:=KF (its:=acc.toList) (n:=j.toNat) (lo:=0) (by simpa using hi);unfold KN;rw[fL];have e2:(γ j.toNat).map (fun(k:Nat)=>V.int (0+(k:Int)))=(γ j.toNat).map (V.int∘fun(k:Nat)=>(k:Int)):=by
   apply lg;intro k _;simp
  rw[<- e2];exact this
 have hz:((KN j).map V.int).length<=sizeLine:=by unfold KN;rw[eG,eG,fI,eJ];lia
 exact⟨.ref s.heap.objs.size,_,I.laid (o:=.lst ((KN j).map V.int)) hk (eE _) ⟨hz,acc.toList,c',hv,by simpa using he⟩,rfl,q _ (I.hok.fresh (eE _))⟩
def ZhP(K:W.Frag)(te:TE)(ts:TO):TE:=fun σ H Q=>te σ H fun x H1=>ts σ H1 fun k H2=>∃a xs,x=.ref a/\k=some (-1)/\SqL K H2 a xs/\∀p,H2 p=none->Q (.ref p) (upd H2 p (.lst xs.reverse))
def ZgB{st:Expr}{ts:TO}(he:PE X e te)(hs:PO X (some st) ts):PE X (.Subscript e (.Slice none none (some st) p2) gT) (ZhP X.K te ts):=by
 intro cQ s σ H Q I h;refine Subscript_ (thn (he cQ s σ H _ I h) fun v s1 ⟨x,H1,I1,r1,q1⟩=>?_);refine wpAny_Slice ?_;rw[evalPart_none];refine eh (eh (thn (hs cQ s1 σ H1 _ I1 q1) fun vk s3 ⟨k,H3,I3,pk,q3⟩=>?_));obtain⟨a,xs,rfl,rfl,hq,q⟩:=q3;obtain rfl:v=Value.ref a:=r1;obtain⟨its,r,ht,hz⟩:=I3.list hq;have nv:=r.length;have I4:49 H3 { s3 with heap:=s3.heap.push { cls:=.type "slice",data:=.fields #[.none,.none,vk] } }:=I3.kept (t':=s3.toks) fun b ob q=>eN _ q;obtain⟨Ec,r4,uA,hz4⟩:=I4.list hq;have GY:=r4.length
 show 31 X.A (subscriptTail e (.Slice none none (some st) p2) (.ref a) (.ref s3.heap.objs.size)) (EP X cQ σ Q) X.xe { s3 with heap:=s3.heap.push { cls:=.type "slice",data:=.fields #[.none,.none,vk] } }
 refine tail_any (ops:=[.ref a,.ref s3.heap.objs.size]) uA.isList.typeIs slot_list_getitem.lookup ?_ (by with_unfolding_all rfl);refine wpAny_getItem_list_slice uA.isList (Heap.IsSliceOf.new ..) .none .none pk 47 ?_ (by rw[fe]<;>lia);rw[W.krv_pick];refine⟨.ref _,_,I4.laid (t':=s3.toks) (o:=.lst xs.reverse) (fun b ob q=>eN _ q) (eE _) ?_,rfl,q _ (I4.hok.fresh (eE _))⟩;exact⟨by rw[lh];exact hz,Ec.reverse,0,r4.reverse,fg _ rfl⟩
mutual
inductive Dp(K:W.Frag)(H:Hp):V->PyData->Prop
 |non:Dp K H .non .none
 |bl (b:_):Dp K H (.bl b) (.bool b)
 |int (i:_):Dp K H (.int i) (.int i)
 |str (x:_):Dp K H (.str x) (.str x)
 |lst {a xs ds}:SqL K H a xs->qk K H xs ds->Dp K H (.ref a) (.list ds)
 |tup {a xs ds}:SqT K H a xs->qk K H xs ds->Dp K H (.ref a) (.tuple ds)
inductive qk(K:W.Frag)(H:Hp):List V->List PyData->Prop
 |nil:qk K H [] []
 |cons {v d vs ds}:Dp K H v d->qk K H vs ds->qk K H (v::vs) (d::ds)
end
mutual
theorem Dp.reads(I:49 H s):∀{v:V}{d:PyData}{u:Value},Dp X.K H v d->ZL v u->∃as,Reads s.heap u d as
 |_,_,u,.non,r=>by cases (show u=Value.none from r);exact⟨_,.none⟩
 |_,_,u,.bl b,r=>by cases (show u=Value.bool b from r);exact⟨_,.bool b⟩
 |_,_,u,.int i,r=>by obtain⟨t,e⟩:=(show ∃t,u=Value.int i t from r);cases e;exact⟨_,.int i t⟩
 |_,_,u,.str x,r=>by obtain⟨t,e⟩:=(show ∃t,u=Value.str x t from r);cases e;exact⟨_,.str x t⟩
 |_,_,u,.lst (a:=a) h hs,r=>by
  cases (show u=Value.ref a from r);obtain⟨its,rv,pl,_⟩:=I.list h;obtain⟨o,ho,hc,n,hd⟩:=pl.isList;obtain⟨as,q⟩:=qk.reads I hs rv;exact⟨_,.list ho hc hd (by simpa using q)⟩
 |_,_,u,.tup (a:=a) h hs,r=>by
  cases (show u=Value.ref a from r);obtain⟨its,rv,⟨o,ho,hc,n,hd⟩,_⟩:=I.tuple h;obtain⟨as,q⟩:=qk.reads I hs rv;exact⟨_,.tuple ho hc hd (by simpa using q)⟩
theorem qk.reads(I:49 H s):∀{vs:List V}{ds:List PyData}{us:71},qk X.K H vs ds->ZE vs us->∃as,ReadsAll s.heap us ds as
 |_,_,_,.nil,.nil=>⟨_,.nil⟩
 |_,_,_,.cons h hs,.cons r rs=>by
  obtain⟨as,a⟩:=h.reads I r;obtain⟨bs,b⟩:=hs.reads I rs;exact⟨_,.cons a b⟩
end
inductive ZdW(K:W.Frag)(neg:Bool)(x:V)(y:V)(H:Hp)(Q:VK):Prop
 |mk (d:_) (e:_) (h0:Dp K H x d) (h1:Dp K H y e) (h2:d.canLay0=true) (h3:e.canLay0=true) (h4:d.depth<=60) (h5:Q (.bl (if neg then !PyData.eqv d e else PyData.eqv d e)) H):ZdW K neg x y H Q
def Zeq(K:W.Frag)(neg:Bool):R2:=fun x y H Q=>ZdW K neg x y H Q
theorem ZfZ(hu:X.A.units+64<cLine):OpR X (compareOp .NotEq) (Zeq X.K true):=by
 intro cQ s σ H x y u v Q I rx ry h;obtain⟨d,e,hx,hy,c1,c2,dp,q⟩:=h;obtain⟨as,a⟩:=hx.reads I rx;obtain⟨bs,b⟩:=hy.reads I ry;exact SeqAt.compareNe_reads a b c1 c2 21 ⟨.bl _,H,I,rfl,q⟩
inductive ZcH(K:W.Frag)(T:String)(xs:List V)(H:Hp)(Q:VK):Prop
 |mk (x:_) (t:_) (b:_) (h0:xs=[x,.ty T]) (h1:qf K H x t) (h2:W.kitOne K t (.type T)=some b) (h3:Q (.bl b) H):ZcH K T xs H Q
def ZgE(K:W.Frag)(T:String):List V->Hp->VK->Prop:=fun xs H Q=>ZcH K T xs H Q
theorem Zc6(T:String):Yt X (.builtin "isinstance") (ZgE X.K T):=by
 intro cQ s σ H xs us Q I r h;obtain⟨x,t,b,rfl,ht,hk,q⟩:=h;obtain⟨u,v,rfl,ru,rv⟩:=jU r;obtain rfl:v=Value.type T:=rv;exact ju I ru ht hk fun tk=>⟨.bl b,H,I.tok _,rfl,q⟩
example (K:W.Frag):W.kitOne K (.type "int") (.type "list")=some false:=by rfl
example (K:W.Frag):W.kitOne K (.type "bool") (.type "int")=some true:=by rfl
def New(H H':Hp):Hp:=fun b=>if(H b).isSome=true then none else H' b
def hide(D:Addr)(H:Hp):Hp:=fun b=>if b=D then none else H b
theorem New.of{b:Addr}(h:New H H' b=some o):H b=none/\H' b=some o:=by
 unfold New at h
 split at h
 ·cases h
 ·rename_i q
  refine⟨?_,h⟩;cases e:H b with
  |none=>rfl
  |some u=>rw[e] at q;exact nu rfl q
theorem New.mk{b:Addr}(h:H b=none)(h':H' b=some o):New H H' b=some o:=by
 unfold New;rw[h];exact h'
theorem Ze(h:H p=none):Zf H (upd H p o):=fun b u e=>by rw[Zo (ZC e h)];exact e
theorem Vf:Zf (hide D H) H:=fun b o h=>by
 unfold hide at h
 split at h
 ·cases h
 ·exact h
theorem jH{b:Addr}(h:hide D H b=some o):b≠D/\H b=some o:=by
 unfold hide at h
 split at h
 ·cases h
 ·rename_i q;exact⟨q,h⟩
theorem Wl{b:Addr}(n:b≠D)(h:H b=some o):hide D H b=some o:=by
 unfold hide;rw[nn n];exact h
def Zr(D:Addr)(H H':Hp):Prop:=∀b o,b≠D->H b=some o->H' b=some o
theorem Zf.x(h:Zf H H'):Zr D H H':=fun b o _ e=>h b o e
theorem Zr.refl(H:Hp):Zr D H H:=fun _ _ _ e=>e
theorem Zr.trans(a:Zr D H H1)(b:Zr D H1 H2):Zr D H H2:=fun c o n e=>b c o n (a c o n e)
theorem Zr.upd{D:Addr}{H H':Hp}{o:HO}(a:Zr D H H'):Zr D H (upd H' D o):=fun c u n e=>by rw[Zo n];exact a c u n e
theorem Zr.same(a:Zr D H H')(h:H D=none):Zf H H':=fun c u e=>a c u (ZC e h) e
theorem Zf.seqT{xs:List V}(e:Zf H H')(h:SqT K H a xs):SqT K H' a xs:=by
 rcases h with(h|⟨o,h⟩)|h
 ·exact .inl (.inl (e _ _ h))
 ·exact .inl (.inr ⟨o,e _ _ h⟩)
 ·exact .inr h
def Zg2(K:W.Frag):List V->Hp->VK->Prop:=fun xs H Q=>(∃p ys,xs=[.ref p]/\(SqL K H p ys\/SqT K H p ys)/\Q (.int ys.length) H)\/((∃z,xs=[.str z]/\z.length<=sizeLine/\Q (.int z.length) H)\/∃a n,xs=[.ref a]/\H a=some (Za8 a n)/\n<4000/\Q (.int n) H)
theorem ZaE:Yt X (.builtin "len") (Zg2 X.K):=kg.or (kH.or Zbf)
def ZcR(K:W.Frag):List V->Hp->VK->Prop:=fun xs H Q=>(∃p ys,xs=[.ref p]/\(SqL K H p ys\/SqT K H p ys)/\∀l,H l=none->Q (.ref l) (upd H l (.lst ys)))\/(∃(p:Addr) (j:Int),xs=[.ref p]/\H p=some (.rng 0 j)/\0<=j/\j<=1000000/\∀l,H l=none->Q (.ref l) (upd H l (.lst ((KN j).map V.int))))
theorem Qi(hc:X.calm=true):Yt X (.type "list") (ZcR X.K):=j7.or (vK hc)
theorem Vx{x:Str}(hg:Gl X x)(h:∃u,X.mg x=some u/\ZL v u)(hd:(x==("__debug__" : Str))=false:=by left):PE X (.Name x gT) (tC v):=by
 obtain⟨u,hm,r⟩:=h;exact ZeM hg hm r hd
def Yc(sc:Scope)(N Nc:50)(ix:List (Option Nat))(scope:Scope):Bool:=
 decide (scope.kind=.function)&&scope.names.all (fun y=>decide (y.2≠.cell))&&scope.names.all (fun y=>decide (y.2=.local->scope.names.lookup y.1=some .local)) &&
 scope.names.all (fun y=>decide (y.2=.free->sc.names.lookup y.1=some .cell\/sc.names.lookup y.1=some .free))&&decide (ix.length=Nc.length) &&
 (ix.zip Nc).all fun p=>match p.1 with|none=>true|some j=>N[j]?==some p.2&&scope.names.lookup p.2==some .free
theorem ZX.of{Nc:50}{ix:List (Option Nat)}(h:Yc sc N Nc ix scope=true):ZX sc N Nc ix scope:=by
 unfold Yc at h;simp only[fH] at h;obtain⟨⟨⟨⟨⟨h1,h2⟩,h3⟩,h4⟩,h5⟩,h6⟩:=h;exact⟨fA h1,fun y hy=>fA (fZ.mp h2 y hy),fun y hy=>fA (fZ.mp h3 y hy),fun y hy=>fA (fZ.mp h4 y hy),fA h5,h6⟩
def Its(x:Str):It:=⟨fun i _=>i<x.cps.size,fun i H v H'=>H'=H/\∃c,x.cps[i]?=some c/\v=.str ⟨#[c]⟩,fun i _=>x.cps.size<=i⟩
theorem Zdb{x:Str}{t:Tok}{ty:String}
  (Ba:["enumerate","zip","dict_itemiterator","dict_reverseitemiterator","odict_iterator","itertools.zip_longest","itertools.pairwise"].contains ty=false)
  (W:∀A':Around,A'.handled=none->Walks P w A' it [it] [it] x.cps.size (SignAt x) (fun i h=>h.IsStrIter it ty x t i))
  (self:∀(A:Around) (i:Nat) (s:Shared) (Q:Value->70) (E:Value->70),s.heap.IsStrIter it ty x t i->Q (.ref it) s->wpAny (model P w) A (pyIter (.ref it)) Q E s) :
  J9 P w K tg (Its x) [it] it (fun i h=>i<=x.cps.size/\h.IsStrIter it ty x t i) where
 mem:=by simp
 obj:=fun i h st b hb=>by
  have e:b=it:=by simpa using hb
  subst e;obtain⟨_,o,e,c,d⟩:=st;exact⟨o,e,fun v z=>by rw[d] at z;cases z⟩
 keep:=fun i h h' st k=>by
  obtain⟨l,o,e,c,d⟩:=st;exact⟨l,o,k it 47 o e,c,d⟩
 item:=by
  intro X hP hw hK hc i cQ s σ H E I hf st hg;subst hP hw hK;obtain⟨f0,f1,f2,f3,f4,f5⟩:=hf it 47;refine(W X.A (I.ok.hd hc)).item i s _ _ hg st.2 fun v h' tk hv oV kk=>?_;obtain⟨c,u,Pp,rfl⟩:=hv;have I1:L2.Inv X cQ σ H 86:=I.turned (fun b o hb e=>kk b o (by simpa using hb) e) f0 f1 f3 f4 f5;obtain⟨o,e,oc,od⟩:=id oV;exact⟨_,rfl,ja (s:=86) e oc od Ba ⟨.str ⟨#[c]⟩,H,I1,⟨u,rfl⟩,⟨rfl,c,Pp,rfl⟩,⟨hg,oV⟩,fun b hb=>(hf b hb).1⟩⟩
 done:=by
  intro X hP hw hK hc i cQ s σ H E I hf st hg;subst hP hw hK;obtain⟨f0,f1,f2,f3,f4,f5⟩:=hf it 47;have e:i=x.cps.size:=Nat.le_antisymm st.1 hg;subst e;exact(W X.A (I.ok.hd hc)).done s _ _ st.2 fun h' tk kk=>⟨rfl,I.turned (fun b o hb e=>kk b o (by simpa using hb) e) f0 f1 f3 f4 f5⟩
 self:=fun A i s Q E st h=>self A i s Q E st.2 h
def iStr(tl:TE):TI:=fun σ H R=>tl σ H fun v H1=>∃x,v=.str x/\R (Its x) H1
theorem ZfU{l:Expr}(hl:PE X l tl):PI X tg l (iStr tl):=by
 intro cQ s σ H R I h;refine thn (hl cQ s σ H _ I h) fun v s1 ⟨y,H1,I1,r1,x,e,q⟩=>?_;subst e;obtain⟨t,rfl⟩:=(show ∃t,v=Value.str x t from r1);have nE:∀(ty:String),["enumerate","zip","dict_itemiterator","dict_reverseitemiterator","odict_iterator","itertools.zip_longest","itertools.pairwise"].contains ty=false ->
   (∀A':Around,A'.handled=none->Walks X.prog X.w A' s1.heap.objs.size [s1.heap.objs.size] [s1.heap.objs.size] x.cps.size (SignAt x) (fun i h=>h.IsStrIter s1.heap.objs.size ty x t i)) ->
   (∀(A:Around) (i:Nat) (s:Shared) (Q:Value->70) (E:Value->70),s.heap.IsStrIter s1.heap.objs.size ty x t i->Q (.ref s1.heap.objs.size) s->31 A (pyIter (.ref s1.heap.objs.size)) Q E s) ->
   PIE X cQ σ tg R (.ref s1.heap.objs.size) { s1 with heap:=s1.heap.push { cls:=.type ty,data:=.fields #[.str x t,.int 0 0] } }:=fun ty h1 h2 h3=>by
  refine⟨s1.heap.objs.size,[s1.heap.objs.size],_,_,H1,rfl,I1.kept (t':=s1.toks) fun b o e=>eN _ e,Zdb h1 h2 h3,⟨fu _,_,fg _ rfl,rfl,rfl⟩,fun b hb=>?_,q⟩;have e:b=s1.heap.objs.size:=by simpa using hb
  subst e;exact I1.fpOk (eE _) (I1.hok.fresh (eE _))
 cases ha:x.cps.all (·<128)
 ·exact wpAny_pyIter_wide ha (nE "str_iterator" 48 (fun A' hA=>Walks.strWide hA _ x t) fun _ _ _ _ _ st h=>wpAny_pyIter_striter_wide st h)
 ·exact wpAny_pyIter_ascii ha (nE "str_ascii_iterator" 48 (fun A' hA=>Walks.strAscii hA _ x t) fun _ _ _ _ _ st h=>wpAny_pyIter_striter_ascii st h)
theorem Zw(hK:X.K=K):Yt X (.builtin "len") (Zg2 K):=by subst hK;exact ZaE
theorem Uo(hK:X.K=K):Yt X (.builtin "sorted") (Zak K):=by subst hK;exact Jt
def rAll(K:W.Frag):List V->Hp->VK->Prop:=fun xs H Q=>∃(p:Addr) (bs:List Bool),xs=[.ref p]/\SqL K H p (bs.map V.bl)/\Q (.bl (bs.all id)) H
theorem V3(hK:X.K=K)(hc:X.calm=true):Yt X (.builtin "all") (rAll K):=by subst hK;exact ZdJ hc
theorem qP(hK:X.K=K)(hc:X.calm=true):Yt X (.type "list") (ZcR K):=by subst hK;exact Qi hc
def Zez(K:W.Frag):List V->Hp->VK->Prop:=fun xs H Q=>∃p ys,xs=[.ref p]/\((SqL K H p ys/\∀l,H l=none->Q (.ref l) (upd H l (.tup ys)))\/(SqT K H p ys/\Q (.ref p) H))
theorem Yj(hK:X.K=K):Yt X (.type "tuple") (Zez K):=by subst hK;exact vD
def Zht(K:W.Frag):List V->Hp->VK->Prop:=fun xs H Q=>∃(p:Addr) (ks:List Key),xs=[.ref p]/\SqL K H p (ks.map kV)/\ks.length<4000/\∀n a,n<=ks.length->(n=ks.length↔ks.Nodup)->H a=none->Q (.ref a) (upd H a (Za8 a n))
theorem jK(hK:X.K=K)(hc:X.calm=true):Yt X (.type "set") (Zht K):=by subst hK;exact Zcf hc
theorem XU(hK:X.K=K)(T:String):Yt X (.builtin "isinstance") (ZgE K T):=by subst hK;exact Zc6 T
theorem Zk(hK:X.K=K):IxR X (Zef K):=by subst hK;exact Zd4
theorem ZU(hK:X.K=K):IxR X (ZhT K):=by subst hK;exact ZfV
theorem YB(hK:X.K=K):SlR X (ZfM K):=by subst hK;exact Ze7
theorem WZ(hK:X.K=K):OpR X (compareOp .In) (rIn K false):=by subst hK;exact Zby
theorem U0(hK:X.K=K):OpR X (compareOp .NotIn) (rIn K true):=by subst hK;exact k9
theorem Ze4(hK:X.K=K)(hu:X.A.units+64<cLine):OpR X (compareOp .NotEq) (Zeq K true):=by subst hK;exact ZfZ hu
theorem Yn{l:Expr}(hK:X.K=K)(hl:PE X l tl):PI X tg l (Zfx K tl):=by subst hK;exact Ze0 hl
theorem U6{es:List Expr}{k:Nat}{t:TGs}(hK:X.K=K)(hc:X.calm=true)(h:PGs X es t)
  (hn:(assignEach es X.env).length=n:=by rfl) (nB:(assignEach es X.env).findIdx? (·.1)=none:=by rfl):PG X (.Tuple es k gT) (Zhw K n t):=by subst hK;exact Zgz hc h hn nB
theorem X0{f:Str}{ta:TE}(hK:X.K=K)(he:PE X e ta)(hb:attributeBase e f X.env (eval e X.env)=eval e X.env):PE X (.Attribute e f gT) (ZhI K ta f):=by subst hK;exact ZfN he hb
theorem QS{st:Expr}{ts:TO}(hK:X.K=K)(he:PE X e te)(hs:PO X (some st) ts):PE X (.Subscript e (.Slice none none (some st) p2) gT) (ZhP K te ts):=by subst hK;exact ZgB he hs
inductive Kd(H:Hp):V->Prop
 |non:Kd H .non
 |bl (b:Bool):Kd H (.bl b)
 |int (i:Int):Kd H (.int i)
 |str (z:Str) (hz:z.length<=1000):Kd H (.str z)
 |lst {a:Addr}{xs:List V} (e:H a=some (.lst xs)):Kd H (.ref a)
 |tup {a:Addr}{xs:List V} (e:H a=some (.tup xs)):Kd H (.ref a)
 |dK {a:Addr}{kvs:List (Key×V)} (e:H a=some (.dK kvs)):Kd H (.ref a)
theorem Kd.mono{x:V}(s:Zf H H')(h:Kd H x):Kd H' x:=by
 cases h with
 |non=>exact .non
 |bl b=>exact .bl b
 |int i=>exact .int i
 |str z hz=>exact .str z hz
 |lst e=>exact .lst (s _ _ e)
 |tup e=>exact .tup (s _ _ e)
 |dK e=>exact .dK (s _ _ e)
def XG(H:Hp)(T:String):V->Bool
 |.bl _=>T == "bool" || T == "int"
 |.int _=>T == "int"
 |.str _=>T == "str"
 |.ref a=>match H a with
  |some (.lst _)=>T == "list"
  |some (.tup _)=>T == "tuple"
  |some (.dK _)=>T == "dict"
  |_=>false
 |_=>false
theorem ZfE{x:V}{Q:VK}(hT:T = "int" \/ T = "bool" \/ T = "str" \/ T = "list" \/ T = "tuple")(h:Kd H x)(q:Q (.bl (XG H T x)) H):ZgE K T [x,.ty T] H Q:=by
 rcases hT with rfl|rfl|rfl|rfl|rfl
 all_goals
  cases h with
  |non=>exact⟨_,_,_,rfl,.non,rfl,q⟩
  |bl b=>exact⟨_,_,_,rfl,.bl b,rfl,q⟩
  |int i=>exact⟨_,_,_,rfl,.int i,rfl,q⟩
  |str z hz=>exact⟨_,_,_,rfl,.str z,rfl,q⟩
  |lst e=>first|exact⟨_,_,false,rfl,.lst e,rfl,by simpa[XG,e] using q⟩|exact⟨_,_,true,rfl,.lst e,rfl,by simpa[XG,e] using q⟩
  |tup e=>first|exact⟨_,_,false,rfl,.tup e,rfl,by simpa[XG,e] using q⟩|exact⟨_,_,true,rfl,.tup e,rfl,by simpa[XG,e] using q⟩
  |dK e=>first|exact⟨_,_,false,rfl,.dK e,rfl,by simpa[XG,e] using q⟩|exact⟨_,_,true,rfl,.dK e,rfl,by simpa[XG,e] using q⟩
def xy(c:Nat):Bool:=decide (97<=c/\c<=122)
def Xk(z:Str):Bool:=decide (1<=z.length)&&decide (z.length<=8)&&z.cps.toList.all xy
def Xa:V->Bool
 |.str z=>Xk z
 |_=>false
def kP:V->Bool
 |.int _=>true
 |_=>false
def YZ(n:Int):V->Bool
 |.int i=>decide (0<=i)&&decide (i<n)
 |_=>false
def XZ(H:Hp):V->Option (List V)
 |.ref a=>match H a with
  |some (.lst xs)=>some xs
  |_=>none
 |_=>none
theorem Y1{xs:List V}(h:H a=some (.lst xs)):XZ H (.ref a)=some xs:=by simp[XZ,h]
theorem qI{x:V}(s:Zf H H')(k:Kd H x):XZ H' x=XZ H x:=by
 cases k with
 |non=>rfl
 |bl b=>rfl
 |int i=>rfl
 |str z hz=>rfl
 |lst e=>rw[Y1 e,Y1 (s _ _ e)]
 |tup e=>simp[XZ,e,s _ _ e]
 |dK e=>simp[XZ,e,s _ _ e]
def Yb(H:Hp)(x:V):Bool:=match XZ H x with
 |some xs=>xs.all Xa&&decide xs.Nodup
 |none=>false
def X3(H:Hp)(n:Int)(x:V):Bool:=match XZ H x with
 |some xs=>xs.all (YZ n)
 |none=>false
def ZT(H:Hp)(n:Int)(x:V):Bool:=match XZ H x with
 |some xs=>xs.all (YZ n)&&!xs.isEmpty&&decide xs.Nodup
 |none=>false
def KdL(H:Hp)(x:V):Prop:=Kd H x/\∀xs,XZ H x=some xs->xs.length<=1000/\∀y∈xs,Kd H y
def ZdZ(H:Hp)(x:V):Prop:=Kd H x/\∀xs,XZ H x=some xs->xs.length<=1000/\∀y∈xs,KdL H y
theorem KdL.mono{H H':Hp}{x:V}(s:Zf H H')(h:KdL H x):KdL H' x:=
 ⟨h.1.mono s,fun xs e=>by
  rw[qI s h.1] at e;exact⟨(h.2 xs e).1,fun y hy=>((h.2 xs e).2 y hy).mono s⟩⟩
theorem qt{x:V}(s:Zf H H')(k:Kd H x):Yb H' x=Yb H x:=by unfold Yb;rw[qI s k]
theorem UH{x:V}{n:Int}(s:Zf H H')(k:Kd H x):ZT H' n x=ZT H n x:=by unfold ZT;rw[qI s k]
def ZeA:Option (List V)->Bool
 |some fs=>decide (fs.length<=3)
 |none=>false
def UB(H:Hp)(s w st f:V):Bool:=match XZ H s,XZ H w with
 |some ss,some ws=>decide (1<=ss.length)&&decide (ss.length<=20)&&decide (ws.length=ss.length)&&ss.all (Yb H)&&ws.all (ZT H ss.length)&&(ZT H ss.length st&&(Yb H f&&ZeA (XZ H f)))
 |_,_=>false
theorem Zfl{a b:Key}:kV a≠kV b↔a≠b:=by
 constructor
 ·intro h e;exact h (by rw[e])
 ·intro h e;apply h;cases a<;>cases b<;>simp[kV] at e<;>simp[e]
theorem ZdF(ks:List Key):(ks.map kV).Nodup↔ks.Nodup:=by
 unfold δ;rw[Ζ];exact⟨fun h=>h.imp fun q=>Zfl.mp q,fun h=>h.imp fun q=>Zfl.mpr q⟩
theorem xc:∀{xs:List V},xs.all Xa=true->∃ks:List Key,xs=ks.map kV
 |[],_=>⟨[],rfl⟩
 |x::r,h=>by
  rw[iO,fH] at h;obtain⟨ks,rfl⟩:=xc h.2;cases x with
  |str z=>exact⟨.inr z::ks,rfl⟩
  |_=>exact nu h.1 (by simp[Xa])
theorem yV{n:Int}:∀{xs:List V},xs.all (YZ n)=true->∃ks:List Key,xs=ks.map kV
 |[],_=>⟨[],rfl⟩
 |x::r,h=>by
  rw[iO,fH] at h;obtain⟨ks,rfl⟩:=yV h.2;cases x with
  |int z=>exact⟨.inl z::ks,rfl⟩
  |_=>exact nu h.1 (by simp[YZ])
theorem Q5{m:Nat}{ks:List Key}(hm:m=(ks.map kV).length)(h:n=ks.length↔ks.Nodup):decide (V.int (n:Nat)=V.int (m:Nat))=decide (ks.map kV).Nodup:=by
 have e:(V.int (n:Nat)=V.int (m:Nat))↔(ks.map kV).Nodup:=by
  rw[ZdF,<- h];constructor
  ·intro q;have q':((n:Nat):Int)=((m:Nat):Int):=V.int.inj q;rw[eG] at hm;lia
  ·intro q;rw[eG] at hm;rw[q,hm]
 exact lj.mpr e
theorem Vb{α:Type}{f:α->Bool}:∀{xs:List α}{ys:List V},ys.length=xs.length->(∀(i:Nat) v x,ys[i]?=some v->xs[i]?=some x->v=.bl (f x))->ys=(xs.map f).map V.bl
 |[],ys,hl,_=>by simp at hl;subst hl;rfl
 |x::r,[],hl,_=>by simp at hl
 |x::r,y::ys,hl,h=>by
  have e:=h 0 y x rfl rfl;subst e;rw[eM,eM,Vb (xs:=r) (ys:=ys) (f:=f) (by simpa using hl) fun i v z h1 h2=>h (i+1) v z (by simpa using h1) (by simpa using h2)]
theorem xq(f:α->Bool)(xs:List α):(xs.map f).all id=xs.all f:=by
 rw[iR];rfl
theorem JA(c:Nat):decide (c∈("abcdefghijklmnopqrstuvwxyz" : Str).cps.toList)=xy c:=by
 have e:("abcdefghijklmnopqrstuvwxyz" : Str).cps.toList=(γ 26).map (·+97):=by left
 rw[e];unfold xy;refine lj.mpr ?_;rw[eV];constructor
 ·rintro⟨k,hk,rfl⟩;have:=gM.mp hk;lia
 ·rintro⟨h1,h2⟩;exact⟨c-97,gM.mpr 21,by lia⟩
theorem WJ(K:W.Frag){x:V}{b:Bool}(hT:T = "int" \/ T = "bool" \/ T = "str" \/ T = "list" \/ T = "tuple")(h:Kd H x)(hb:XG H T x=b):∃t,qf K H x t/\W.kitOne K t (.type T)=some b:=by
 obtain⟨y,t,c,e,h1,h2,q⟩:=ZfE (K:=K) (Q:=fun v _=>v=.bl b) hT h (by rw[hb]);have e1:x=y:=(gX e).1;have e2:c=b:=V.bl.inj q;subst e1;subst e2;exact⟨t,h1,h2⟩
theorem Zf9{x:V}(h:Kd H x):(XG H "str" x=true/\∃z,x=.str z/\z.length<=1000)\/(XG H "str" x=false/\Xa x=false):=by
 cases h with
 |str z hz=>exact .inl ⟨rfl,z,rfl,hz⟩
 |non=>exact .inr ⟨rfl,rfl⟩
 |bl b=>exact .inr ⟨rfl,rfl⟩
 |int i=>exact .inr ⟨rfl,rfl⟩
 |lst e=>exact .inr ⟨by simp[XG,e],rfl⟩
 |tup e=>exact .inr ⟨by simp[XG,e],rfl⟩
 |dK e=>exact .inr ⟨by simp[XG,e],rfl⟩
theorem qc{x:V}(h:Kd H x):(XG H "list" x=true/\∃a xs,x=.ref a/\H a=some (.lst xs)/\XZ H x=some xs)\/(XG H "list" x=false/\XZ H x=none):=by
 cases h with
 |str z hz=>exact .inr ⟨rfl,rfl⟩
 |non=>exact .inr ⟨rfl,rfl⟩
 |bl b=>exact .inr ⟨rfl,rfl⟩
 |int i=>exact .inr ⟨rfl,rfl⟩
 |lst e=>exact .inl ⟨by simp[XG,e],_,_,rfl,e,Y1 e⟩
 |tup e=>exact .inr ⟨by simp[XG,e],by simp[XZ,e]⟩
 |dK e=>exact .inr ⟨by simp[XG,e],by simp[XZ,e]⟩
def LS(H:Hp)(v:V)(ss:50):Prop:=∃a,v=.ref a/\H a=some (.lst (ss.map V.str))
def LI(H:Hp)(v:V)(ns:82):Prop:=∃a,v=.ref a/\H a=some (.lst (ns.map V.int))
def TS(H:Hp)(v:V)(ss:50):Prop:=∃a,v=.ref a/\H a=some (.tup (ss.map V.str))
def TIn(H:Hp)(v:V)(ns:82):Prop:=∃a,v=.ref a/\H a=some (.tup (ns.map V.int))
def LL(r:Hp->V->α->Prop)(H:Hp)(v:V)(xs:List α):Prop:=∃a vs,v=.ref a/\H a=some (.lst vs)/\vs.length=xs.length/\∀(i:Nat) v x,vs[i]?=some v->xs[i]?=some x->r H v x
def LT(r:Hp->V->α->Prop)(H:Hp)(v:V)(xs:List α):Prop:=∃a vs,v=.ref a/\H a=some (.tup vs)/\vs.length=xs.length/\∀(i:Nat) v x,vs[i]?=some v->xs[i]?=some x->r H v x
def Mon(r:Hp->V->α->Prop):Prop:=∀H H' v x,Zf H H'->r H v x->r H' v x
theorem LS.mono:Mon LS:=fun _ _ _ _ s ⟨a,e,h⟩=>⟨a,e,s _ _ h⟩
theorem LI.mono:Mon LI:=fun _ _ _ _ s ⟨a,e,h⟩=>⟨a,e,s _ _ h⟩
theorem TS.mono:Mon TS:=fun _ _ _ _ s ⟨a,e,h⟩=>⟨a,e,s _ _ h⟩
theorem TIn.mono:Mon TIn:=fun _ _ _ _ s ⟨a,e,h⟩=>⟨a,e,s _ _ h⟩
theorem LL.mono(m:Mon r):Mon (LL r):=fun _ _ _ _ s ⟨a,vs,e,h,l,q⟩=>⟨a,vs,e,s _ _ h,l,fun i v x h1 h2=>m _ _ _ _ s (q i v x h1 h2)⟩
theorem LT.mono(m:Mon r):Mon (LT r):=fun _ _ _ _ s ⟨a,vs,e,h,l,q⟩=>⟨a,vs,e,s _ _ h,l,fun i v x h1 h2=>m _ _ _ _ s (q i v x h1 h2)⟩
theorem Zr.hide{p:Addr}{H H':Hp}(s:Zr p H H'):Zf (hide p H) (hide p H'):=fun b o h=>
 let ⟨n,e⟩:=jH h
 Wl n (s b o n e)
structure WD where
 signs:List (50)
 ways:List (82)
 starts:82
 fair:50
structure WH(H:Hp)(s w st f:V)(d:WD):Prop where
 s:LL LS H s d.signs
 w:LL LI H w d.ways
 st:LI H st d.starts
 f:LS H f d.fair
theorem WH.mono{H H':Hp}{s w st f:V}{d:WD}(e:Zf H H')(h:WH H s w st f d):WH H' s w st f d:=
 ⟨LL.mono LS.mono _ _ _ _ e h.s,LL.mono LI.mono _ _ _ _ e h.w,LI.mono _ _ _ _ e h.st,LS.mono _ _ _ _ e h.f⟩
structure ZbN(d:WD):Prop where
 n1:1<=d.signs.length
 n20:d.signs.length<=20
 wl:d.ways.length=d.signs.length
 sn:∀ss∈d.signs,ss.Nodup/\(∀x∈ss,Xk x=true)/\ss.length<=30
 wn:∀ns∈d.ways,ns.Nodup/\ns≠[]/\(∀x∈ns,0<=x/\x<d.signs.length)/\ns.length<=20
 stn:d.starts.Nodup/\d.starts≠[]/\(∀x∈d.starts,0<=x/\x<d.signs.length)/\d.starts.length<=20
 fn:d.fair.Nodup/\(∀x∈d.fair,Xk x=true)/\d.fair.length<=3
theorem jI{β:Type}{f:α->β}(hf:∀a b,f a=f b->a=b){l:List α}(h:l.Nodup):(l.map f).Nodup:=by
 unfold δ at *;rw[Ζ];exact h.imp fun q e=>q (hf _ _ e)
theorem ZeX(a b:Str)(h:V.str a=V.str b):a=b:=V.str.inj h
theorem Zec(a b:Int)(h:V.int a=V.int b):a=b:=V.int.inj h
theorem xo(h:Xk z=true):z.length<=8:=by
 unfold Xk at h;simp only[fH,mB] at h;exact h.1.2
theorem LS.kd(h:LS H v ss)(hl:ss.length<=1000)(hn:∀x∈ss,Xk x=true):KdL H v:=by
 obtain⟨a,rfl,e⟩:=h;refine⟨.lst e,fun xs q=>?_⟩;rw[Y1 e] at q;cases q;refine⟨by rw[eG];exact hl,fun y hy=>?_⟩;obtain⟨z,hz,rfl⟩:=eV.mp hy;exact .str z (eW (xo (hn z hz)) 48)
theorem LI.kd(h:LI H v ns)(hl:ns.length<=1000):KdL H v:=by
 obtain⟨a,rfl,e⟩:=h;refine⟨.lst e,fun xs q=>?_⟩;rw[Y1 e] at q;cases q;refine⟨by rw[eG];exact hl,fun y hy=>?_⟩;obtain⟨z,hz,rfl⟩:=eV.mp hy;exact .int z
theorem LS.names(h:LS H v ss)(nd:ss.Nodup)(hn:∀x∈ss,Xk x=true):Yb H v=true:=by
 obtain⟨a,rfl,e⟩:=h;unfold Yb;rw[Y1 e];simp only[fH,mB];refine⟨fZ.mpr fun y hy=>?_,jI ZeX nd⟩;obtain⟨z,hz,rfl⟩:=eV.mp hy;exact hn z hz
theorem LI.rooms(h:LI H v ns)(nd:ns.Nodup)(ne:ns≠[])(hn:∀x∈ns,0<=x/\x<(n:Int)):ZT H n v=true:=by
 obtain⟨a,rfl,e⟩:=h;unfold ZT;rw[Y1 e];simp only[fH,mB];refine⟨⟨fZ.mpr fun y hy=>?_,?_⟩,jI Zec nd⟩
 ·obtain⟨z,hz,rfl⟩:=eV.mp hy;have:=hn z hz;simp[YZ,this.1,this.2]
 ·cases ns with
  |nil=>exact nu rfl ne
  |cons y r=>rfl
theorem LL.kd{xs:List α}(h:LL r H v xs)(hl:xs.length<=1000)(q:∀v x,r H v x->x∈xs->KdL H v):ZdZ H v:=by
 obtain⟨a,vs,rfl,e,l,k⟩:=h;refine⟨.lst e,fun ys z=>?_⟩;rw[Y1 e] at z;cases z;refine⟨by lia,fun y hy=>?_⟩;obtain⟨i,hi,rfl⟩:=fO hy;have hx:i<xs.length:=by lia
 exact q _ xs[i] (k i _ _ (eI hi) (eI hx)) (fv hx)
theorem LL.all{α:Type}{r:Hp->V->α->Prop}{H:Hp}{vs:List V}{xs:List α}{p:V->Bool}(l:vs.length=xs.length)(k:∀(i:Nat) v x,vs[i]?=some v->xs[i]?=some x->r H v x)(q:∀v x,r H v x->x∈xs->p v=true):vs.all p=true:=by
 refine fZ.mpr fun y hy=>?_;obtain⟨i,hi,rfl⟩:=fO hy;have hx:i<xs.length:=by lia
 exact q _ xs[i] (k i _ _ (eI hi) (eI hx)) (fv hx)
theorem WH.kd{H:Hp}{s w st f:V}{d:WD}(h:WH H s w st f d)(g:ZbN d):ZdZ H s/\ZdZ H w/\KdL H st/\KdL H f:=by
 refine⟨h.s.kd (by have:=g.n20;lia) fun v x r m=>?_,h.w.kd (by have:=g.n20;have:=g.wl;lia) fun v x r m=>?_,h.st.kd (by have:=g.stn.2.2.2;lia),h.f.kd (by have:=g.fn.2.2;lia) g.fn.2.1⟩
 ·have:=g.sn x m;exact r.kd 21 this.2.1
 ·have:=g.wn x m;exact r.kd 21
theorem WH.makes{s w st f:V}{d:WD}(h:WH H s w st f d)(g:ZbN d):UB H s w st f=true:=by
 have nB:=h.st.rooms (n:=d.signs.length) g.stn.1 g.stn.2.1 g.stn.2.2.1;have hf:=h.f.names g.fn.1 g.fn.2.1;obtain⟨a,vs,rfl,e,l,k⟩:=h.s;obtain⟨b,ws,rfl,e2,l2,k2⟩:=h.w;obtain⟨c,rfl,e3⟩:=h.f;unfold UB;rw[Y1 e,Y1 e2,Y1 e3];dsimp only;rw[l];have h1:vs.all (Yb H)=true:=LL.all l k fun v x r m=>r.names (g.sn x m).1 (g.sn x m).2.1;have h2:ws.all (ZT H d.signs.length)=true:=LL.all l2 k2 fun v x r m=>r.rooms (g.wn x m).1 (g.wn x m).2.1 (g.wn x m).2.2.1;have:=g.n1;have:=g.n20;have:=g.wl;have:=g.fn.2.2;simp only[ZeA,fH,mB,eG];refine⟨⟨⟨⟨⟨by lia,by lia⟩,by lia⟩,h1⟩,h2⟩,nB,hf,by lia⟩
def wfs(t1 t2 t3 t4:V):78:=[("room_signs",t1),("room_ways",t2),("start_rooms",t3),("fair_names",t4)]
theorem n12:¬(("room_signs" : Str) = "room_ways"):=by left
theorem n13:¬(("room_signs" : Str) = "start_rooms"):=by left
theorem n14:¬(("room_signs" : Str) = "fair_names"):=by left
theorem n23:¬(("room_ways" : Str) = "start_rooms"):=by left
theorem n24:¬(("room_ways" : Str) = "fair_names"):=by left
theorem n34:¬(("start_rooms" : Str) = "fair_names"):=by left
theorem put1(t1:V):Yu "room_signs" t1 []=([("room_signs",t1)]:78):=rfl
theorem put2(t1 t2:V):Yu "room_ways" t2 ([("room_signs",t1)]:78)=([("room_signs",t1),("room_ways",t2)]:78):=by simp only[Yu,nn n12]
theorem put3(t1 t2 t3:V):Yu "start_rooms" t3 ([("room_signs",t1),("room_ways",t2)]:78)=([("room_signs",t1),("room_ways",t2),("start_rooms",t3)]:78):=by simp only[Yu,nn n13,nn n23]
theorem put4(t1 t2 t3 t4:V):Yu "fair_names" t4 ([("room_signs",t1),("room_ways",t2),("start_rooms",t3)]:78)=wfs t1 t2 t3 t4:=by simp only[Yu,nn n14,nn n24,nn n34,wfs]
structure Z5(C:Addr)(H:Hp)(p:Addr)(d:WD):Prop where
 ex:∃dx t1 t2 t3 t4,H p=some (.ins C dx (wfs t1 t2 t3 t4))/\LT TS H t1 (d.signs.map W7)/\LT TIn H t2 (d.ways.map YM)/\TIn H t3 (YM d.starts)/\TS H t4 d.fair
theorem Z5.mono{C:Addr}{H H':Hp}{p:Addr}{d:WD}(s:Zf H H')(h:Z5 C H p d):Z5 C H' p d:=by
 obtain⟨dx,t1,t2,t3,t4,e,h1,h2,h3,h4⟩:=h.ex;exact⟨dx,t1,t2,t3,t4,s _ _ e,LT.mono TS.mono _ _ _ _ s h1,LT.mono TIn.mono _ _ _ _ s h2,TIn.mono _ _ _ _ s h3,TS.mono _ _ _ _ s h4⟩
theorem ZdY{a b:Str}(h:¬a=b):(a==b)=false:=by simpa using h
theorem JD(t1 t2 t3 t4:V):(wfs t1 t2 t3 t4).lookup ("room_signs" : Str)=some t1:=by simp[wfs,fD]
theorem Zel(t1 t2 t3 t4:V):(wfs t1 t2 t3 t4).lookup ("room_ways" : Str)=some t2:=by simp[wfs,fD,ZdY (fun e=>n12 e.symm)]
theorem Zhk(t1 t2 t3 t4:V){m:Str}(h1:¬m = "room_signs")(h2:¬m = "room_ways")(h3:¬m = "start_rooms")(h4:¬m = "fair_names"):(wfs t1 t2 t3 t4).lookup m=none:=by simp[wfs,fD,ZdY h1,ZdY h2,ZdY h3,ZdY h4]
theorem New.hidden(h:H p=some o):Zf (New H H') (hide p H'):=fun b u e=>
 let ⟨h1,h2⟩:=New.of e
 Wl (fun z=>by subst z;rw[h] at h1;cases h1) h2
theorem LS.hid{fs:78}(hp:H p=some (.ins C dx fs))(h:LS H v ss):LS (hide p H) v ss:=by
 obtain⟨a,rfl,e⟩:=h;exact⟨a,rfl,Wl (VD e hp (by intro z;cases z)) e⟩
theorem LI.hid{fs:78}{ss:82}(hp:H p=some (.ins C dx fs))(h:LI H v ss):LI (hide p H) v ss:=by
 obtain⟨a,rfl,e⟩:=h;exact⟨a,rfl,Wl (VD e hp (by intro z;cases z)) e⟩
theorem LL.hid{fs:78}{xs:List α}(hp:H p=some (.ins C dx fs))(m:∀v x,r H v x->r (hide p H) v x)(h:LL r H v xs):LL r (hide p H) v xs:=by
 obtain⟨a,vs,rfl,e,l,q⟩:=h;exact⟨a,vs,rfl,Wl (VD e hp (by intro z;cases z)) e,l,fun i v x h1 h2=>m _ _ (q i v x h1 h2)⟩
theorem WH.hid{H:Hp}{p C dx:Addr}{fs:78}{s w st f:V}{d:WD}(hp:H p=some (.ins C dx fs))(h:WH H s w st f d):WH (hide p H) s w st f d:=
 ⟨h.s.hid hp fun _ _ r=>r.hid hp,h.w.hid hp fun _ _ r=>r.hid hp,h.st.hid hp,h.f.hid hp⟩
theorem jE{β:Type}{r:Hp->V->β->Prop}{f:α->β}{ys:List V}{xs:List α}(h:H a=some (.tup ys))(l:ys.length=xs.length)(q:∀(i:Nat) v,ys[i]?=some v->∀x,xs[i]?=some x->r H v (f x)):LT r H (.ref a) (xs.map f):=by
 refine⟨a,ys,rfl,h,by rw[eG,l],fun i v x h1 h2=>?_⟩;rw[eO] at h2;cases e:xs[i]? with
 |none=>rw[e] at h2;cases h2
 |some y=>
  rw[e] at h2;cases h2;exact q i v h1 y e
end L3
variable{d:L3.WD}
namespace L3
open PySem PySem.Spec L2
def dI(ns:82):PyData:=.list (ns.map PyData.int)
def dS(ss:50):PyData:=.list (ss.map PyData.str)
def ZeR(n:Nat)(d:PyData):Prop:=d.canLay0=true/\d.depth<=n
theorem Zei{f:α->PyData}{xs:List α}(h:∀x∈xs,ZeR n (f x)):PyData.canLayAll0 (xs.map f)=true/\PyData.depthAll (xs.map f)<=n:=by
 induction xs with
 |nil=>exact⟨by simp[PyData.canLayAll0],by simp[PyData.depthAll]⟩
 |cons x r ih=>
  obtain⟨a,b⟩:=ih fun y hy=>h y (eT _ hy);obtain⟨c,d⟩:=h x gU;rw[eM];exact⟨by rw[PyData.canLayAll0,c,a];rfl,by rw[PyData.depthAll];exact Nat.max_le.mpr ⟨d,b⟩⟩
theorem ZhH{f:α->PyData}{xs:List α}(h:∀x∈xs,ZeR n (f x)):ZeR (n+1) (.list (xs.map f)):=by
 obtain⟨a,b⟩:=Zei h;exact⟨by rw[PyData.canLay0];exact a,by rw[PyData.depth];lia⟩
theorem Zfn(ns:82):ZeR 1 (dI ns):=ZhH fun x _=>⟨by simp[PyData.canLay0],by simp[PyData.depth]⟩
theorem KH(h:Xk z=true):PyData.strOk z=true:=by
 unfold Xk at h;rw[fH] at h;have h2:=fZ.mp h.2;unfold PyData.strOk;rw[Array.all_eq_true_iff_forall_mem];intro x hx;have:=h2 x (Array.mem_toList_iff.mpr hx);unfold xy at this;have:=fA this;exact fQ 21
section
variable{K:W.Frag}{H:Hp}
theorem jO{α:Type}{g:α->V}{f:α->PyData}(h:∀x,Dp K H (g x) (f x)):∀xs:List α,qk K H (xs.map g) (xs.map f)
 |[]=>.nil
 |x::r=>.cons (h x) (jO h r)
theorem LI.dp(h:LI H v ns):Dp K H v (dI ns):=by
 obtain⟨a,rfl,e⟩:=h;exact .lst (mZ e) (jO (fun x=>.int x) ns)
end
theorem Zr.updN(s:Zr p H H')(h:H D=none):Zr p H (L2.upd H' D o):=fun b u n e=>by
 rw[Zo (ZC e h)];exact s b u n e
theorem Zr.free(s:Zr p H H')(np:D≠p)(h:H' D=none):H D=none:=by
 cases e:H D with
 |none=>rfl
 |some o=>rw[s D o np e] at h;cases h
theorem Jb:inV (.str z) (ss.map V.str)=true↔z∈ss:=by
 unfold inV;rw[List.any_map,lH];constructor
 ·rintro⟨y,hy,e⟩;have e':(y==z)=true:=e;rw[iM] at e';exact e'▸hy
 ·intro hz;exact⟨z,hz,by show(z==z)=true;simp⟩
theorem Zbd(ss:50):(ss.map V.str).all qp=true:=by
 rw[iR];exact fZ.mpr fun _ _=>rfl
theorem X8{F:Addr}{o':HO}(h:H p=some o)(n:p≠F):upd H F o' p=some o:=by rw[Zo n];exact h
theorem Zdq(h:H p=some o)(n:H D=none):p≠D:=fun e=>by rw[e,n] at h;cases h
theorem Z5.at(h:Z5 C H p d){m:Str}(h1:¬m = "room_signs")(h2:¬m = "room_ways")(h3:¬m = "start_rooms")(h4:¬m = "fair_names"):∃dx fs,H p=some (.ins C dx fs)/\fs.lookup m=none:=by
 obtain⟨dx,t1,t2,t3,t4,e,_⟩:=h.ex;exact⟨dx,_,e,Zhk _ _ _ _ h1 h2 h3 h4⟩
theorem Zav(h:Z5 C H p d):∃dx fs,H p=some (.ins C dx fs)/\fs.lookup ("many" : Str)=none:=h.at 48 48 48 48
theorem JB(h:Z5 C H p d):∃dx fs,H p=some (.ins C dx fs)/\fs.lookup ("signs_of" : Str)=none:=h.at 48 48 48 48
theorem QA(h:Z5 C H p d):∃dx fs,H p=some (.ins C dx fs)/\fs.lookup ("ways_on" : Str)=none:=h.at 48 48 48 48
theorem Z5.keep(k:∀b o,(∀xs,o≠.lst xs)->H b=some o->H' b=some o)(h:Z5 C H p d):Z5 C H' p d:=by
 have kt:∀b xs,H b=some (.tup xs)->H' b=some (.tup xs):=fun b xs e=>k b _ (fun _ z=>by cases z) e;have ks:∀v x,TS H v x->TS H' v x:=fun v x ⟨a,e,h⟩=>⟨a,e,kt _ _ h⟩;have ki:∀v x,TIn H v x->TIn H' v x:=fun v x ⟨a,e,h⟩=>⟨a,e,kt _ _ h⟩;obtain⟨dx,t1,t2,t3,t4,e,⟨a1,w1,f1,g1,l1,q1⟩,⟨a2,w2,f2,g2,l2,q2⟩,h3,h4⟩:=h.ex;exact⟨dx,t1,t2,t3,t4,k _ _ (fun _ z=>by cases z) e,⟨a1,w1,f1,kt _ _ g1,l1,fun i v x r1 r2=>ks _ _ (q1 i v x r1 r2)⟩,⟨a2,w2,f2,kt _ _ g2,l2,fun i v x r1 r2=>ki _ _ (q2 i v x r1 r2)⟩,ki _ _ h3,ks _ _ h4⟩
open PyProof.Rows
theorem neA{a b:Nat}(h:a<b\/b<a):(a:Addr)≠b:=fun e=>by subst e;lia
theorem ZcA(I l1 l2:Nat)(h1:l1<I)(h2:l2<I):ZipApart (I+4) (I+2) (I+3) I (I+1) l1 l2:=by
 constructor<;>(refine neA ?_;lia)
theorem ZE.take{xs:List V}{us:71}(h:ZE xs us)(k:Nat):ZE (xs.take k) (us.take k):=by
 induction k generalizing xs us with
 |zero=>exact .nil
 |succ k ih=>
  cases h with
  |nil=>exact .nil
  |cons r t=>exact .cons r (ih t)
theorem ZE.drop{xs:List V}{us:71}(h:ZE xs us)(k:Nat):ZE (xs.drop k) (us.drop k):=by
 induction k generalizing xs us with
 |zero=>exact h
 |succ k ih=>
  cases h with
  |nil=>exact .nil
  |cons r t=>exact ih t
theorem ZE.set{xs:List V}{us:71}{y:V}{u:Value}(h:ZE xs us)(ry:ZL y u)(k:Nat):ZE (xs.set k y) (us.set k u):=by
 induction k generalizing xs us with
 |zero=>
  cases h with
  |nil=>exact .nil
  |cons r t=>exact .cons ry t
 |succ k ih=>
  cases h with
  |nil=>exact .nil
  |cons r t=>exact .cons r (ih t)
theorem Inv.big(I:L2.Inv X cQ σ H s):sysModules<s.heap.objs.size:=by
 have h:mainGlobals<s.heap.objs.size:=(I.mod.glob.keeps I.bk).lt;exact Nat.lt_trans 48 h
theorem UP(h:Heap)(hb:sysModules<h.objs.size):Yp P w H (h.push { cls:=.type "dict",data:=.dict #[] }) h.objs.size (.dK []):=
 ⟨fu _,iq.mpr (eX (eQ hb)),[],.nil,Heap.DictOf.new h⟩
def tDNewK:TE:=fun _ H Q=>∀p,H p=none->Q (.ref p) (upd H p (.dK []))
theorem pe_dnewK:PE X (.Dict [] [] gT) tDNewK:=fun cQ s σ H Q I h=>
 wpAny_Dict_empty ⟨.ref s.heap.objs.size,_,I.laid (a:=s.heap.objs.size) (o:=.dK []) (t':=s.toks) (fun _ _ q=>eN _ q) (eE _) (UP s.heap (Inv.big I)),rfl,h _ (I.hok.fresh (eE _))⟩
theorem yD{l:Addr}{k:Int}{t:Tok}{v:Value}{Q:Unit->70}(e:s.heap.get? l=some { cls:=.type "list",data:=.seq items n })
  (h0:0<=k) (Ca:k<2 ^ 63) (hn:k<items.size) (hQ:Q () { s with heap:=s.heap.update l (Obj.mapSeq (·.setIfInBounds k.toNat v)) }) :
  65 (setItem (.ref l) (.int k t) v) Q E s:=by
 have hl:s.heap.IsList l items:=⟨_,e,rfl,n,rfl⟩;obtain⟨o,ho,hc,ne,hd⟩:=id hl;have eo:o={ cls:=.type "list",data:=.seq items n }:=fc (ho.symm.trans e);unfold setItem
 try with_reducible refine fU ?_
 first|refine dZ (eh ?_)|skip
 refine dZ (wpAny_sequenceKey hl.typeIs 48 ?_);refine dZ (ia (name:=Str.ofString "__setitem__") hl.typeIs slot_list_setitem (fW slot_list_setitem hl.typeIs entry_list_setitem ?_ (args_list_setitem _ _ _)))
 show 79 (Builtin.List.listSubscript? (.int k t) >>= _) _ _ s
 refine dZ (wpAny_listSubscript_int (fitsIndex_of h0 Ca) ?_);clear Ca;obtain⟨j,rfl⟩:=mR h0;have hj:j<items.size:=by lia
 have rf:items[j]?=some items[j]:=lI hj
 show 79 ((seqItemAt l j >>= fun r=>pure (r.map (j,·))) >>= _) _ _ s
 refine dZ (dZ (wpAny_seqItemAt ho hd (eh ?_)));rw[rf]
 show 79 (setSeqItemAt l j v >>= _) _ _ s
 refine dZ (wpAny_setSeqItemAt ho hd ?_)
 first
  |exact dZ (eh (eh ⟨.none,rfl,eh hQ⟩))
  |exact eh ⟨.none,rfl,eh hQ⟩
def ZgU(tv to ti:TE):L2.TS:=fun D σ H=>tv σ H fun y H1=>to σ H1 fun x H2=>ti σ H2 fun k H3=>∃l xs j,x=.ref l/\k=.int (j:Nat)/\H3 l=some (.lst xs)/\j<xs.length/\D.nx σ (upd H3 l (.lst (xs.set j y)))
theorem Zao{o i:Expr}{to ti:TE}(hv:PE X e tv)(ho:PE X o to)(hi:PE X i ti)(hs:swapsWith e (some (.Subscript o i nU)) gT.line X.env=pure false:=by rfl):PS X (.Assign [.Subscript o i nU] e gT) (ZgU tv to ti):=by
 intro cQ s σ H D I h;refine wpAny_Assign_Subscript (thn (hv cQ s σ H _ I h) fun v s1 ⟨y,H1,I1,r1,q1⟩=>thn (ho cQ s1 σ H1 _ I1 q1) fun ov s2 ⟨x,H2,I2,r2,q2⟩=>thn (hi cQ s2 σ H2 _ I2 q2) fun iv s3 ⟨k,H3,I3,r3,q3⟩=>?_) hs;obtain⟨l,xs,j,rfl,rfl,hH,hj,q⟩:=q3;cases r2;obtain⟨t,rfl⟩:=(show ∃t,iv=Value.int (j:Nat) t from r3);obtain⟨z,its,n,r,hl,e⟩:=I3.lstM hH;refine yD e (Int.natCast_nonneg j) (by rw[eJ] at z;lia) (by rw[fe];lia) ?_;refine⟨σ,_,I3.lset (its':=its.set j v) (t':=s3.toks) hH e 47 (ZE.set r r1 j) (by rw[List.length_set];exact z),q⟩
theorem WU{a:Expr}{ta:TE}(hK:X.K=K)(ha:PE X a ta)(he:∀nW,isTrue a X.env nW=(do let v <- nW;standAt a.pos;holding [v] (truthy v))) :
  PT X a (fun σ H Q=>ta σ H fun x H'=>∃k,ZgL K x H' k/\Q k H'):=by subst hK;exact ZcY ha he
theorem XQ{g:TG}{tb:L2.TS}{D:vw}(Pv:Nat->St->Hp->Prop)(h0:Pv 0 σ H)(wd:∀i σ H,i<n->Pv i σ H->J.go i H)(nB:∀σ H,Pv n σ H->J.stop n H)
  (hs:∀i x σ H H2,i<n->Pv i σ H->J.yld i H x H2->g x σ H2 fun σ2 H3=>tb { D with nx:=Pv (i+1),ct:=Pv (i+1),bk:=D.nx } σ2 H3) (hd:∀σ H,Pv n σ H->D.nx σ H) :
  ∃W:Nat->Nat->St->Hp->Prop,(∃m,W 0 m σ H)/\∀i m σ H,W i m σ H ->
   (J.stop i H/\D.nx σ H)\/(J.go i H/\∃N:St->Hp->Prop,(∀σ' H',N σ' H'->∃m',m'<m/\W (i+1) m' σ' H')/\∀x H',J.yld i H x H'->g x σ H' fun σ2 H2=>tb { D with nx:=N,ct:=N,bk:=D.nx } σ2 H2):=by
 refine⟨fun i m σ H=>m=n-i/\i<=n/\Pv i σ H,⟨n,by simp,fu _,h0⟩,?_⟩;rintro i m σ H ⟨rfl,hi,p⟩
 by_cases nH:i<n
 ·exact .inr ⟨wd i σ H nH p,Pv (i+1),fun σ' H' p'=>⟨n-(i+1),by lia,rfl,nH,p'⟩,fun x H' y=>hs i x σ H H' nH p y⟩
 ·have e:i=n:=by lia
  subst e;exact .inl ⟨nB σ H p,hd σ H p⟩
def KL(d:WD)(r:Int):50:=(d.signs[r.toNat]?).getD []
theorem Zae{z:Int}{ss:82}:inV (.int z) (ss.map V.int)=decide (z∈ss):=by
 rw[gy,iS];unfold inV;rw[List.any_map,lH];constructor
 ·rintro⟨y,hy,e⟩;have e':(y==z)=true:=e;rw[iM] at e';exact e'▸hy
 ·intro hz;exact⟨z,hz,by show(z==z)=true;simp⟩
theorem jj(ss:82):(ss.map V.int).all qp=true:=by
 rw[iR];exact fZ.mpr fun _ _=>rfl
theorem ZhL{xs:82}(h:i<xs.length):(xs.map V.int)[i]?=some (.int (xs.getD i 0)):=by
 simp[List.getD,h]
theorem WX(xs:List V)(k:Nat)(h:k<=xs.length):X9 xs (some (k:Int)) none=xs.drop k:=by
 unfold X9;rw[HT.sIx_nat,HT.sIx_none,iT h];exact iy (by rw[gv];lia)
theorem yT(xs:List V)(k:Nat)(h:k<=xs.length):X9 xs none (some (k:Int))=xs.take k:=by
 unfold X9;rw[HT.sIx_nat,HT.sIx_none,iT h];simp
theorem Zbx(s:Zf H H')(h:Kd H v):XG H' T v=XG H T v:=by
 cases h with
 |non=>rfl
 |bl b=>rfl
 |int i=>rfl
 |str z hz=>rfl
 |lst e=>simp only[XG,e,s _ _ e]
 |tup e=>simp only[XG,e,s _ _ e]
 |dK e=>simp only[XG,e,s _ _ e]
theorem Z5.x{C:Addr}{H H':Hp}{p w:Addr}{zs:List V}{d:WD}(hp:H p=some (.lst zs))(x:Zr p H H')(h:Z5 C H w d):Z5 C H' w d:=
 h.keep fun b o ho hb=>x b o (fun e=>by subst e;rw[hp] at hb;cases hb;exact ho _ rfl) hb
theorem ZeB{b:Addr}{Q:VK}(h1:H a=some (.lst (ns.map V.int)))(h2:H b=some (.lst []))(q:∀c:Bool,(c=true↔ns≠[])->Q (.bl c) H):Zeq K true (.ref a) (.ref b) H Q:=by
 refine⟨dI ns,.list [],LI.dp ⟨a,rfl,h1⟩,.lst (mZ h2) .nil,(Zfn ns).1,by simp[PyData.canLay0,PyData.canLayAll0],eW (Zfn ns).2 48,?_⟩;refine q _ ?_;cases ns with
 |nil=>simp[dI,PyData.eqv,PyData.eqvAll]
 |cons x r=>simp[dI,PyData.eqv,PyData.eqvAll]
def free(c:Nat)(z:Str):Prop:=c∉z.cps.toList
def dT(d:WD):PyData:=.list (d.signs.map dS++d.ways.map dI++[dI d.starts,dS d.fair])
theorem ZdB{xs:List α}{k:Nat}(h1:1<=k)(h2:k<=xs.length):atI xs (-(k:Int))=xs[xs.length-k]?:=by
 have e:ixN xs.length (-(k:Int))=some (xs.length-k):=by
  unfold ixN;rw[nn 21,nt 21]
  congr 1
  lia
 unfold atI;rw[e];rfl
open PySem.Calls PySem.W Builtin Builtin.ObjectAttr Builtin.Getset_descriptor
section
variable{w:PySem.World}{g:Array GenState}{d:Drawn}{t:Nat}{os:OsState}{K:Frag}
structure ZhB(K:Frag)(C:Addr):Prop where
 ga:findIn K (.ref C) "__getattribute__" = some (some (.builtin "BaseException.__getattribute__"))
 gh:findIn K (.ref C) "__getattr__" = some none
 ob:mroIn K C (.type "object")=some true
 be:mroIn K C (.type "BaseException")=some true
 cl:findIn K (.ref C) "__class__" = some (some (.builtin "object.__class__"))
 gt:specialIn K (.builtin "object.__class__") "__get__" = some (some (.builtin "getset_descriptor.__get__"))
 tk:takesIn K (.builtin "object.__class__")=some true
 hd:hasDictIn K C=true
end
section
variable{es:List Expr}{t:TA}
end
def ZfC:Expr->Bool
 |.Starred _ _=>true
 |_=>false
theorem Zgt{es:List Expr}(h:ZfC e=false):starEach (e::es) env=(false,eval e env)::starEach es env:=by
 cases e<;>first|rfl|cases h
theorem ZA{X:Cx}{e:Expr}{es:List Expr}{te:TE}{t:TA}(ha:PE X e te)(hr:PA X es t)(h:ZfC e=false:=by rfl):PA X (e::es) (xC te t):=Za ha hr (Zgt h)
theorem ZeJ(l:Addr)(items:Array Value)(n:Nat)(b:Addr)(oK:Array Value)(n2:Nat)(dd:Option Addr)(sl:Array (81))(hs0:¬(!items.isEmpty&&Builtin.List.listTooLong (items.size+oK.size))=true)(Tz:items.size<=sizeLine)(rh:items.size+oK.size<=sizeLine+1) :
  Meets (Builtin.«list.extend» ⟨[.ref l,.ref b],[]⟩) (fun _ R s=>s.heap.get? l=some { cls:=.type "list",dict:=none,data:=.seq items n,slots:=#[] }/\s.heap.get? b=some { cls:=.type "tuple",dict:=dd,data:=.seq oK n2,slots:=sl }/\R (.ok (.ret Value.none)) { s with heap:=s.heap.update l (Obj.mapSeq fun x=>x++oK),toks:=s.toks }):=
 .of_wp fun prog w A R s h=>by
  obtain⟨hp,g,d,tk,os⟩:=s;obtain⟨hl,hb,h⟩:=h;have f1:=AutoSeq1.idx_int;have f2:=AutoSeq1.sub_tuple_tuple;have f3:=AutoSeq1.sub_list_list;have f4:=AutoSeq1.sub_tuple_list;have f5:=AutoSeq1.sub_list_tuple;have Bl:(items++oK).size<=sizeLine+1:=by rw[Array.size_append];exact rh
  wp_walk using(iz hl rfl (hz:=Tz) (_hz':=Bl)),wpAny_loadPart' hl,wpAny_loadPart' hb;exact⟨_,rfl,h⟩
inductive xV(K:W.Frag)(x:V)(vs:List V)(H:Hp)(Q:VK):Prop
 |mk (l:_) (b:_) (xs:_) (zs:_) (h0:x=.ref l) (h1:vs=[.ref b]) (h2:H l=some (.lst xs)) (h3:SqT K H b zs) (h4:xs.length+zs.length<=sizeLine) (h5:Q .non (upd H l (.lst (xs++zs)))):xV K x vs H Q
def Zdv(K:W.Frag):V->List V->Hp->VK->Prop:=fun x vs H Q=>xV K x vs H Q
theorem KS(hK:X.K=K):MtM X "list.extend" (Zdv K):=by
 subst hK;intro cQ s σ H x vs v us Q I rx rv h;obtain⟨l,b,xs,zs,rfl,rfl,hH,hB,hz,q⟩:=h;cases rx;obtain⟨u,rfl,ru⟩:=rv.one;cases ru;obtain⟨z,its,n,r,hl,e⟩:=I.lstM hH;obtain⟨oA,r2,⟨o,e2,hc,n2,hd⟩,z2⟩:=I.tuple hB;obtain⟨c,dd,da,sl⟩:=o;have Ad:c=.type "tuple" := hc;have rO:da=.seq oA.toArray n2:=hd;subst Ad rO;have rN:=r2.length;have hsz:its.toArray.size+oA.toArray.size<=sizeLine:=by rw[fe,fe];lia
 have A5:¬(!its.toArray.isEmpty&&Builtin.List.listTooLong (its.toArray.size+oA.toArray.size))=true:=by
  rw[Zdl hsz,lp];exact fB
 refine call_meets F.slot_list_extend ⟨_,e,rfl⟩ F.entry_list_extend (F.args_list_extend_2 _ _)
  (ZeJ l its.toArray n b oA.toArray n2 dd sl A5 (by rw[fe];lia) 21) ⟨e,e2,?_⟩
 refine⟨.non,_,I.lset (its':=its++oA) hH e 47 (r.append r2) ?_,rfl,q⟩;rw[eK];lia
theorem kX{sel:Nat->Bool}:∀(xs:71) (n k:Nat),(∀i,n<=i->i<n+xs.length->sel i=decide (n+k<=i))->((xs.zipIdx n).filterMap fun(x,i)=>if sel i=true then none else some x)=xs.take k
 |[],n,k,_=>by simp
 |x::r,n,k,h=>by
  have h0:=h n (eE _) 47;rw[List.zipIdx_cons,mi];cases k with
  |zero=>
   have e:sel n=true:=by rw[h0];simp
   simp only[e,gj];have:=kX (sel:=sel) r (n+1) 0 fun i h1 h2=>by rw[h i 21 (by simp;lia)];exact lj.mpr ⟨fun _=>by lia,fun _=>by lia⟩
   simpa using this
  |succ k=>
   have e:sel n=false:=by rw[h0];exact fE 21
   simp only[e,fJ,ft];rw[List.take_succ_cons,kX (sel:=sel) r (n+1) k fun i h1 h2=>by rw[h i 21 (by simp;lia)];exact lj.mpr ⟨fun _=>by lia,fun _=>by lia⟩]
theorem Zc4{l:Addr}{k:Nat}{Q:Unit->70}(ho:s.heap.get? l=some { cls:=.type "list",data:=.seq items n })(hs:s.heap.IsSliceOf sl vl .none .none)(pl:IsPart vl (some (k:Int)))(hk:k<=items.size)(hsz:items.size<=sizeLine)
  (h:∀f:Array Value->Array Value,f items=(items.toList.take k).toArray->Q () { s with heap:=s.heap.update l (Obj.mapSeq f) }):65 (delItem (.ref l) (.ref sl)) Q E s:=by
 have hT:s.TypeIs (.ref l) "list" := ⟨_,ho,rfl⟩;obtain⟨os,oO,sZ,pG⟩:=id hs;have Cq:s.TypeIs (.ref sl) "slice" := ⟨os,oO,sZ⟩;refine wpAny_delItem_slot hT 48 F.slot_list_delitem (fW F.slot_list_delitem hT F.entry_list_delitem ?_ (F.args_list_delitem_2 _ _))
 show 79 (Builtin.List.listSubscript? (.ref sl) >>= _) _ _ s
 refine dZ ?_;unfold Builtin.List.listSubscript?;refine dZ (iU Cq slice_no_index ?_);simp only[Option.isNone_none,gj];refine eh ?_
 show 79 (typeOf (.ref sl) >>= _) _ _ s
 refine dZ (wpAny_typeOf Cq ?_);rw[nn 48];rw[listSliceParts_eq];refine dZ (dZ (gu oO pG (x:=.none) rfl (dZ (wpAny_listPart .none ?_))));rw[nn (show ¬((rawPart none==rawInt 0)=true) from fB)];refine dZ (gu oO pG (x:=vl) rfl (dZ (wpAny_listPart pl ?_)));refine dZ (gu oO pG (x:=.none) rfl (dZ (wpAny_listPart .none (eh ?_))));refine dZ (m:=Builtin.List.listItems (.ref l)) ?_;unfold Builtin.List.listItems;refine dZ (iA ho rfl (eh ?_));have eb:sliceIndices (rawPart (some (k:Int))) (rawPart none) (rawPart none) items.size=pure ((k:Int),(items.size:Int),(1:Int)):=by
  rw[sliceIndices_raw _ _ _ _ 47];have e1:(sliceBounds (some (k:Int)) none none items.size)=((k:Int),(items.size:Int),(1:Int)):=by
   unfold sliceBounds;simp;lia
  rw[e1]
 refine dZ (lu eb ?_);refine dZ (iB (dZ ?_))
 show 79 (updateSeq l _) _ _ s
 have hf:=kX (sel:=fun i=>if(1:Int)>0 then decide ((k:Int)<=i)&&decide ((i:Int)<(items.size:Int))&&((i:Int)-k)%1==0 else decide ((items.size:Int)<i)&&decide ((i:Int)<=k)&&((k:Int)-i)%(-1)==0) items.toList 0 k fun i h1 h2=>by
  have Iq:i<items.size:=by simpa using h2
  simp only[show(1:Int)>0 by left,gj];rw[Int.emod_one];simp;lia
 have HP:=fb List.toArray hf;refine iz ho rfl ?_ hsz ?_
 ·exact dZ (wpAny_letGo (eh ⟨_,rfl,h _ HP⟩))
 ·refine eW (Nat.le_of_eq (fb Array.size HP)) ?_;rw[fe,fh];lia
def Zcu(te:TE)(tl:TE):L2.TS:=fun D σ H=>te σ H fun x H1=>tl σ H1 fun y H2=>∃l xs k,x=.ref l/\y=.int ((k:Nat):Int)/\H2 l=some (.lst xs)/\k<=xs.length/\D.nx σ (upd H2 l (.lst (xs.take k)))
theorem Ql{o lo:Expr}{p3:Pos}(ho:PE X o te)(hl:PE X lo tl):PS X (.Delete [.Subscript o (.Slice (some lo) none none p2) p3] gT) (Zcu te tl):=by
 intro cQ s σ H D I h;refine wpAny_Delete (wpAny_deleteEach_cons (wpAny_delete_Subscript (thn (ho cQ s σ H _ I h) fun u s1 ⟨x,H1,I1,rx,q1⟩=>?_)));refine wpAny_Slice ?_;rw[evalPart_some];refine thn (hl cQ s1 σ H1 _ I1 q1) fun vl s2 ⟨y,H2,I2,ry,l,xs,k,ex,ey,hH,hk,q⟩=>?_;subst ex ey;obtain rfl:u=Value.ref l:=rx;obtain⟨t,rfl⟩:=(show ∃t,vl=Value.int ((k:Nat):Int) t from ry);rw[evalPart_none];refine eh (eh ?_);have I3:49 H2 { s2 with heap:=s2.heap.push { cls:=.type "slice",data:=.fields #[.int ((k:Nat):Int) t,.none,.none] } }:=I2.kept (t':=s2.toks) fun b ob q=>eN _ q;obtain⟨z,its,n,r,nv,e⟩:=I3.lstM hH;refine Zc4 e (Heap.IsSliceOf.new ..) (.int _ t) (by rw[fe];lia) (by rw[fe];lia) fun f hf=>wpAny_deleteEach_nil ?_;refine⟨σ,_,I3.lset (its':=its.take k) (t':=s2.toks) hH e ?_ (r.take k) (by rw[fh];lia),q⟩;simpa using hf
structure Zgk(K:W.Frag)(P:Params)(D:Addr)(kvs:List (Str×Int)):Prop where
 ex:∃(es:Array DictEntry) (n:Nat),K.lookup D=some ⟨.type "dict",none,.dict es n,#[]⟩/\W.KeysLit P es.toList
 at_:∀p∈kvs,∃t,W.nsIn K D p.1=some (some (.int p.2 t))
 lo:(D==sysModules)=false
inductive Zdu(K:W.Frag)(P:Params)(x:V)(y:V)(H:Hp)(Q:VK):Prop
 |mk (D:_) (z:_) (kvs:_) (i:_) (h0:x=.ref D) (h1:y=.str z) (h2:Zgk K P D kvs) (h3:(z,i)∈kvs) (h4:Q (.int i) H):Zdu K P x y H Q
def rIxD(K:W.Frag)(P:Params):R2:=fun x y H Q=>Zdu K P x y H Q
section
variable{P:Params}
theorem Zf6(hK:X.K=K)(hw:X.w.params=P):IxR X (rIxD K P):=by
 subst hK hw;intro nz nO cQ s σ H x y v u Q I rx ry h hs;obtain⟨D,z,kvs,i,rfl,rfl,d,hm,q⟩:=h;obtain⟨t,rfl⟩:=(show ∃t,u=Value.str z t from ry);obtain rfl:v=Value.ref D:=rx;obtain⟨m,F⟩:=I.fr;obtain⟨es,n,lk,hk⟩:=d.ex;obtain⟨t2,ea⟩:=d.at_ _ hm;exact W.topItem_K F I.mod.kin lk hk ea ⟨.int i,H,I.tok _,⟨t2,rfl⟩,q⟩ hs
end
inductive Lb where
 |yes
 |sign (s:Str)
 |op (w:Str)
 |wit (m:Int)
 |many (w:Str)
inductive Tr where
 |node (c:Lb) (ks:67)
def Tr.lb:Tr->Lb
 |.node c _=>c
def Tr.ks:Tr->67
 |.node _ ks=>ks
theorem Tr.eta(t:Tr):t=.node t.lb t.ks:=by cases t;rfl
def W1:50:=["all","some","not","next","always","ever","before","once","sofar"]
def W2:50:=["until","since"]
def YO:Lb->Nat->Prop
 |.yes,n=>n=0
 |.sign s,n=>n=0/\Xk s=true
 |.op w,n=>(w∈W1/\n=1)\/(w∈W2/\n=2)
 |.wit m,n=>(0<=m/\m<=5)/\n=2
 |.many w,n=>(w = "and" \/ w = "or")/\n<=8
def ZP:Lb->Str
 |.yes => "yes"
 |.sign _ => "sign"
 |.op w=>w
 |.wit _ => "within"
 |.many w=>w
def qm(K:W.Frag)(H:Hp)(a:Addr)(vs:List V):Lb->Prop
 |.yes=>vs=[]/\SqT K H a [.str "yes"]
 |.sign s=>vs=[]/\SqT K H a [.str "sign",.str s]
 |.op w=>SqT K H a (.str w::vs)
 |.wit m=>SqT K H a (.str "within" :: .int m::vs)
 |.many w=>∃b,SqT K H a [.str w,.ref b]/\SqT K H b vs
def At(K:W.Frag):Nat->Hp->V->Tr->Prop
 |0,_,_,_=>False
 |n+1,H,v,t=>∃a vs,v=.ref a/\qm K H a vs t.lb/\YO t.lb t.ks.length/\vs.length=t.ks.length/\∀(i:Nat) u k,vs[i]?=some u->t.ks[i]?=some k->At K n H u k
def Yw(H H':Hp):Prop:=∀(K:W.Frag) b xs,SqT K H b xs->SqT K H' b xs
theorem Zf.tup{H H':Hp}(s:Zf H H'):Yw H H':=fun K b xs e=>Zf.seqT s e
def m5:=@Zf.tup
theorem Zr.tup{p:Addr}{H H':Hp}{xs:List V}(s:Zr p H H')(hp:H p=some (.lst xs)):Yw H H':=fun K b ys h=>by
 rcases h with(h|⟨o,h⟩)|h
 ·exact .inl (.inl (s _ _ (VD h hp (by intro z;cases z)) h))
 ·exact .inl (.inr ⟨o,s _ _ (VD h hp (by intro z;cases z)) h⟩)
 ·exact .inr h
theorem Yw.trans(a:Yw H H1)(b:Yw H1 H2):Yw H H2:=fun K c xs e=>b _ _ _ (a _ _ _ e)
variable{K:W.Frag}
theorem qm.mono(s:Yw H H'){c:Lb}(h:qm K H a vs c):qm K H' a vs c:=by
 cases c with
 |yes=>exact⟨h.1,s _ _ _ h.2⟩
 |sign z=>exact⟨h.1,s _ _ _ h.2⟩
 |op w=>exact s _ _ _ h
 |wit m=>exact s _ _ _ h
 |many w=>obtain⟨b,h1,h2⟩:=h;exact⟨b,s _ _ _ h1,s _ _ _ h2⟩
theorem At.mono{H H':Hp}(s:Yw H H'):∀{n:Nat}{v:V}{t:Tr},At K n H v t->At K n H' v t
 |0,_,_,h=>h
 |n+1,v,t,⟨a,vs,e,sh,ok,l,q⟩=>⟨a,vs,e,sh.mono s,ok,l,fun i u k h1 h2=>At.mono s (q i u k h1 h2)⟩
theorem At.up{H:Hp}:∀{n:Nat}{v:V}{t:Tr},At K n H v t->At K (n+1) H v t
 |0,_,_,h=>h.elim
 |n+1,v,t,⟨a,vs,e,sh,ok,l,q⟩=>⟨a,vs,e,sh,ok,l,fun i u k h1 h2=>At.up (q i u k h1 h2)⟩
theorem At.le{m:Nat}{t:Tr}(h:At K n H v t)(hm:n<=m):At K m H v t:=by
 induction hm with
 |refl=>exact h
 |step _ ih=>exact ih.up
def AtL(K:W.Frag)(n:Nat)(H:Hp)(vs:List V)(ts:67):Prop:=vs.length=ts.length/\∀(i:Nat) u k,vs[i]?=some u->ts[i]?=some k->At K n H u k
theorem AtL.mono{n:Nat}{H H':Hp}{vs:List V}{ts:67}(s:Yw H H')(h:AtL K n H vs ts):AtL K n H' vs ts:=⟨h.1,fun i u k h1 h2=>(h.2 i u k h1 h2).mono s⟩
theorem AtL.le{n m:Nat}{H:Hp}{vs:List V}{ts:67}(h:AtL K n H vs ts)(hm:n<=m):AtL K m H vs ts:=⟨h.1,fun i u k h1 h2=>(h.2 i u k h1 h2).le hm⟩
theorem AtL.nil:AtL K n H [] []:=⟨rfl,fun i u k h=>by simp at h⟩
theorem AtL.one{t:Tr}(h:At K n H v t):AtL K n H [v] [t]:=⟨rfl,fun i u k h1 h2=>by
 cases i with
 |zero=>cases h1;cases h2;exact h
 |succ i=>simp at h1⟩
theorem AtL.app{us:List V}{ts rs:67}(h:AtL K n H vs ts)(g:AtL K n H us rs):AtL K n H (vs++us) (ts++rs):=by
 refine⟨by rw[eK,eK,h.1,g.1],fun i u k h1 h2=>?_⟩
 by_cases hi:i<vs.length
 ·rw[fK hi] at h1;rw[fK (by rw[<- h.1];exact hi)] at h2;exact h.2 i u k h1 h2
 ·rw[fS 21] at h1;rw[fS (by rw[<- h.1];lia),<- h.1] at h2;exact g.2 _ u k h1 h2
theorem AtL.rev{ts:67}(h:AtL K n H vs ts):AtL K n H vs.reverse ts.reverse:=by
 refine⟨by rw[lh,lh,h.1],fun i u k h1 h2=>?_⟩;have hi:=(eY.mp h1).1;rw[lh] at hi;rw[mS hi] at h1;rw[mS (by rw[<- h.1];exact hi),<- h.1] at h2;exact h.2 _ u k h1 h2
theorem AtL.last{ts:67}(h:AtL K n H vs ts)(nM:vs≠[]):∃us u rs r,vs=us++[u]/\ts=rs++[r]/\AtL K n H us rs/\At K n H u r:=by
 have hl:=ij.mpr nM;have ht:ts≠[]:=fun e=>by rw[e] at h;have:=h.1;simp at this;exact nM this
 have e1:=ν nM;have e2:=ν ht;have pJ:vs.dropLast.length=ts.dropLast.length:=by rw[mQ,mQ,h.1]
 refine⟨vs.dropLast,vs.getLast nM,ts.dropLast,ts.getLast ht,e1.symm,e2.symm,⟨pJ,fun i u k h1 h2=>?_⟩,?_⟩
 ·have hi:=(eY.mp h1).1;refine h.2 i u k ?_ ?_
  ·rw[<- e1,fK hi];exact h1
  ·rw[<- e2,fK (by rw[<- pJ];exact hi)];exact h2
 ·refine h.2 (vs.length-1) _ _ ?_ ?_
  ·rw[Ξ];exact eI _
  ·rw[Ξ,h.1];exact eI _
mutual
def Ym:Tr->Bool
 |.node c ks=>match c with
  |.yes=>true
  |.sign _=>true
  |.op w=>if w = "all" \/ w = "some" then true else if w = "not" then vj ks else false
  |.wit _=>false
  |.many _=>vj ks
def vj:67->Bool
 |[]=>true
 |t::r=>Ym t&&vj r
end
theorem jF:∀ks:67,vj ks=ks.all Ym
 |[]=>by rw[vj];rfl
 |t::r=>by rw[vj,jF r,iO]
def Zai(c:Lb)(bs:List Bool):Bool:=match c with
 |.yes=>true
 |.sign _=>true
 |.op w=>if w = "all" \/ w = "some" then true else if w = "not" then bs.all id else false
 |.wit _=>false
 |.many _=>bs.all id
theorem US(c:Lb)(ks:67):Ym (.node c ks)=Zai c (ks.map Ym):=by
 have e:(ks.map Ym).all id=vj ks:=by rw[jF,iR];rfl
 cases c<;>simp only[Ym,Zai,e]
mutual
def post:Tr->67
 |.node c ks=>Ya ks++[.node c ks]
def Ya:67->67
 |[]=>[]
 |t::r=>post t++Ya r
end
theorem Ui(t:Tr):post t=Ya t.ks++[t]:=by cases t;rw[post];rfl
theorem VR:∀(a b:67),Ya (a++b)=Ya a++Ya b
 |[],b=>by rw[ik,Ya,ik]
 |t::r,b=>by rw[lv,Ya,VR r b,Ya,gY]
theorem XX(t:Tr):Ya [t]=post t:=by rw[Ya,Ya,gp]
theorem ZaK(ws:67)(w:Tr):(Ya (ws++[w])).reverse=w::(Ya (ws++w.ks)).reverse:=by
 rw[VR,VR,XX,Ui w];simp
mutual
def YJ{α:Type}(F:Lb->List α->α):Tr->α
 |.node c ks=>F c (Zcv F ks)
def Zcv{α:Type}(F:Lb->List α->α):67->List α
 |[]=>[]
 |t::r=>YJ F t::Zcv F r
end
theorem Kt{α:Type}(F:Lb->List α->α):∀ks:67,Zcv F ks=ks.map (YJ F)
 |[]=>by rw[Zcv];rfl
 |t::r=>by rw[Zcv,Kt F r];rfl
theorem Wo(F:Lb->List α->α)(t:Tr):YJ F t=F t.lb (t.ks.map (YJ F)):=by
 cases t with
 |node c ks=>rw[YJ,Kt];rfl
section
variable{α:Type}{F:Lb->List α->α}
def VA(F:Lb->List α->α)(st:List α)(t:Tr):List α:=st.take (st.length-t.ks.length)++[F t.lb (st.drop (st.length-t.ks.length))]
def yq(F:Lb->List α->α):List α->67->Prop
 |_,[]=>True
 |st,t::r=>(t.ks.length<=st.length/\st.drop (st.length-t.ks.length)=t.ks.map (YJ F))/\yq F (VA F st t) r
def xz(F:Lb->List α->α):List α->67->List α
 |st,[]=>st
 |st,t::r=>xz F (VA F st t) r
theorem ZaF(st:List α)(t:Tr):VA F (st++t.ks.map (YJ F)) t=st++[YJ F t]:=by
 unfold VA;have e:(st++t.ks.map (YJ F)).length-t.ks.length=st.length:=by rw[eK,eG];lia
 rw[e,List.take_left,List.drop_left,<- Wo F t]
mutual
theorem J8:∀(t:Tr) (st:List α) (r:67),(yq F (st++[YJ F t]) r->yq F st (post t++r))/\xz F st (post t++r)=xz F (st++[YJ F t]) r
 |.node c ks,st,r=>by
  obtain⟨h1,h2⟩:=vZ ks st (.node c ks::r);have e':VA F (st++ks.map (YJ F)) (.node c ks)=st++[YJ F (.node c ks)]:=ZaF st (.node c ks);rw[post,gY,List.singleton_append];refine⟨fun h=>h1 ⟨⟨?_,?_⟩,?_⟩,?_⟩
  ·show ks.length<=_
   rw[eK,eG];lia
  ·show(st++ks.map (YJ F)).drop ((st++ks.map (YJ F)).length-ks.length)=ks.map (YJ F)
   have e:(st++ks.map (YJ F)).length-ks.length=st.length:=by rw[eK,eG];lia
   rw[e,List.drop_left]
  ·rw[e'];exact h
  ·rw[h2,xz,e']
theorem vZ:∀(ks:67) (st:List α) (r:67),(yq F (st++ks.map (YJ F)) r->yq F st (Ya ks++r))/\xz F st (Ya ks++r)=xz F (st++ks.map (YJ F)) r
 |[],st,r=>by
  rw[Ya,ik,fq,gp];exact⟨id,rfl⟩
 |t::ks,st,r=>by
  obtain⟨h1,h2⟩:=J8 t st (Ya ks++r);obtain⟨h3,h4⟩:=vZ ks (st++[YJ F t]) r;rw[Ya,gY,eM];have e:st++YJ F t::ks.map (YJ F)=st++[YJ F t]++ks.map (YJ F):=by simp
  rw[e];exact⟨fun h=>h1 (h3 h),by rw[h2,h4]⟩
end
theorem QX(t:Tr):yq F [] (post t)/\xz F [] (post t)=[YJ F t]:=by
 obtain⟨h1,h2⟩:=J8 (F:=F) t [] [];rw[gp] at h1 h2;exact⟨h1 trivial,h2⟩
end
mutual
theorem vd:∀(t:Tr),t∈post t
 |.node c ks=>by rw[post];simp
end
theorem XH{p A B:Prop}[Decidable p](h:p)(a:A):if decide p=true then A else B:=by rw[nt (fQ h)];exact a
theorem Z7{p A B:Prop}[Decidable p](h:¬p)(b:B):if decide p=true then A else B:=by rw[nn (by simpa using h)];exact b
theorem qD{p:Prop}[Decidable p]{Q:VK}(h:p)(q:Q (.bl true) H):Q (.bl (decide p)) H:=by rw[fQ h];exact q
theorem Uw(hK:X.K=K):SlR X (Zhc K):=by subst hK;exact ZgG
theorem qr{w:Str}{A B:Prop}(h:w∈ss)(a:A):if inV (.str w) (ss.map V.str)=true then A else B:=by rw[nt (Jb.mpr h)];exact a
theorem Xo{w:Str}{A B:Prop}(h:w∉ss)(b:B):if inV (.str w) (ss.map V.str)=true then A else B:=by rw[nn (fun e=>h (Jb.mp e))];exact b
def LK:List (Str×Int):=[("all",2),("some",2),("not",2),("next",2),("always",2),("ever",2),("before",2),("once",2),("sofar",2),("until",3),("since",3)]
theorem yX:∀w∈W1++W2,w ≠ "yes" /\ w ≠ "sign" /\ w∉(["and","or"]:50)/\w ≠ "within" /\ w∉(["yes","sign"]:50):=by left
theorem Vl:∀w∈(["and","or"]:50),w ≠ "yes" /\ w ≠ "sign" /\ w ≠ "within" /\ w∉(["yes","sign"]:50)/\w∉(["yes","sign","all","some"]:50)/\w∈(["not","and","or"]:50):=by left
theorem lk1:∀w∈W1,(w,(2:Int))∈LK:=by left
theorem lk2:∀w∈W2,(w,(3:Int))∈LK:=by left
theorem Vj(z:Str):∃t,qf K H (.str z) t/\W.kitOne K t (.type "str")=some true:=⟨_,.str _,rfl⟩
theorem qm.tup{H:Hp}{a:Addr}{vs:List V}{c:Lb}(h:qm K H a vs c):∃xs,SqT K H a (.str (ZP c)::xs):=by
 cases c with
 |yes=>exact⟨[],h.2⟩
 |sign s=>exact⟨[.str s],h.2⟩
 |op w=>exact⟨vs,h⟩
 |wit m=>exact⟨.int m::vs,h⟩
 |many w=>obtain⟨b,h1,_⟩:=h;exact⟨[.ref b],h1⟩
inductive Zdd(K:W.Frag)(xs:List V)(H:Hp)(Q:VK):Prop
 |mk (x:_) (h0:xs=[x,.ty "tuple"]) (h1:((∃a ys,x=.ref a/\SqT K H a ys/\Q (.bl true) H)\/∃t,qf K H x t/\W.kitOne K t (.type "tuple")=some false/\Q (.bl false) H)):Zdd K xs H Q
def rIsT(K:W.Frag):List V->Hp->VK->Prop:=fun xs H Q=>Zdd K xs H Q
theorem Jy(hK:X.K=K):Yt X (.builtin "isinstance") (rIsT K):=by
 subst hK;intro cQ s σ H xs us Q I r h;obtain⟨x,rfl,h⟩:=h;obtain⟨u,v,rfl,ru,rv⟩:=jU r;obtain rfl:v=Value.type "tuple" := rv;rcases h with⟨a,ys,rfl,hq,q⟩|⟨t,ht,hk,q⟩
 ·obtain rfl:u=Value.ref a:=ru;obtain⟨its,r,⟨o,h1,h2,h3⟩,hz⟩:=I.tuple hq;exact gE (b:=true) W.kitx_tuple I.kIn ⟨o,h1,h2⟩ rfl (fun z=>nomatch z) fun tk=>⟨.bl true,H,I.tok _,rfl,q⟩
 ·exact ju I ru ht hk fun tk=>⟨.bl false,H,I.tok _,rfl,q⟩
end L3
variable{c:L3.Lb}{ps cs ts:List L3.Tr}{st:L3.Tr->List Int}
namespace L3
open PySem PySem.Spec PyProof.Rows L2
def Itv(K:W.Frag)(a:Addr)(n:Nat):It:=
 ⟨fun i H=>i<n/\∃xs,SqL K H a xs/\xs.length=n,fun i H x H'=>H'=H/\∀xs,SqL K H a xs->xs[n-1-i]?=some x,fun i _=>n<=i⟩
theorem ZdI(a it:Addr)(n:Nat):J9 P w K tg (Itv K a n) [it] it (fun i h=>i<=n/\h.IsRevIter it a ((n:Int)-1-(i:Int))) where
 mem:=by simp
 obj:=fun i h st b hb=>by
  have e:b=it:=by simpa using hb
  subst e;obtain⟨_,o,e,c,d⟩:=st;exact⟨o,e,fun v z=>by rw[d] at z;cases z⟩
 keep:=fun i h h' st k=>⟨st.1,st.2.at fun o e=>k it 47 o e⟩
 item:=by
  intro X hP hw hK hc i cQ s σ H E I hf st hg;subst hP hw hK;obtain⟨hi,xs,hq,hn⟩:=hg;obtain⟨its,rv,p,hz⟩:=I.list hq;have hx:xs[n-1-i]?=some (xs[n-1-i]' 21):=eI 21;obtain⟨u,hu,ru⟩:=rv.get hx;obtain⟨f0,f1,f2,f3,f4,f5⟩:=hf it 47;have e:(n:Int)-1-(i:Int)=((n-1-i:Nat):Int):=by lia
  have oE:=st.2;rw[e] at oE;refine wpAny_pyNext_rev_item oE p.isList (x:=u) (by simpa using hu) fun h' oV sb=>?_;have I1:49 H 80:=I.turned (t':=s.toks) (fun b o hb e=>(sb.2 b hb).trans e) f0 f1 f3 f4 f5;have e2:((n-1-i:Nat):Int)-1=(n:Int)-1-((i+1:Nat):Int):=by lia
  rw[e2] at oV;obtain⟨o,e,c,d⟩:=id oV;exact⟨u,rfl,ja (s:=80) e c d 48 ⟨_,H,I1,ru,⟨rfl,fun ys hy=>by rw[I.list_inj hy hq];exact hx⟩,⟨hi,oV⟩,fun b hb=>(hf b hb).1⟩⟩
 done:=by
  intro X hP hw hK hc i cQ s σ H E I hf st hg;subst hP hw hK;have hn:n<=i:=hg;obtain⟨f0,f1,f2,f3,f4,f5⟩:=hf it 47;have e:(n:Int)-1-(i:Int)=-1:=by have:=st.1;lia
  have oE:=st.2;rw[e] at oE;exact wpAny_pyNext_rev_end (I.ok.hd hc) oE fun h' eb=>⟨rfl,I.turned (t':=s.toks) (fun b o hb e=>eb b o hb e) f0 f1 f3 f4 f5⟩
 self:=fun _ _ _ _ _ st h=>wpAny_pyIter_revIter st.2 h
def iRev(K:W.Frag)(ta:TA):TI:=fun σ H R=>ta σ H fun vs H1=>∃a xs,vs=[.ref a]/\SqL K H1 a xs/\R (Itv K a xs.length) H1
theorem yQ{a:Expr}{p:Pos}(hK:X.K=K)(hg:Gl X "reversed")(hm:X.mg "reversed" = none)(ha:PA X [a] ta)(hs:starEach [a] X.env=[(false,eval a X.env)]:=by rfl) :
  PI X tg (.Call (.Name "reversed" p) [a] [] gT) (iRev K ta):=by
 subst hK;intro cQ s σ H R I h;refine Call_ (Ue I hg hm PyProof.Rows.boot_reversed (i7 (thn (ha gT cQ s σ H _ I h) fun us s1 ⟨vs,H1,I1,r1,q1⟩=>?_) hs rfl));obtain⟨l,xs,rfl,hq,q⟩:=q1;obtain⟨u,rfl,ru⟩:=VN r1;obtain rfl:u=Value.ref l:=ru;obtain⟨its,rv,pl,hz⟩:=I1.list hq;have hl:=rv.length;refine call_reversed_list pl.isList ?_;have st:(s1.heap.push (revObj l ((its.toArray.size:Int)-1))).IsRevIter s1.heap.objs.size l ((xs.length:Int)-1-((0:Nat):Int)):=⟨_,fg _ rfl,rfl,by
  show Data.fields #[Value.ref l,rawInt ((its.toArray.size:Int)-1)]=_
  have e:(its.toArray.size:Int)-1=(xs.length:Int)-1-((0:Nat):Int):=by rw[fe];lia
  rw[e]⟩
 refine wpAny_pyIter_revIter st ?_;refine⟨s1.heap.objs.size,[s1.heap.objs.size],_,_,H1,rfl,I1.kept (t':=s1.toks) fun b o e=>eN _ e,ZdI l _ xs.length,⟨fu _,st⟩,fun b hb=>?_,q⟩;have e:b=s1.heap.objs.size:=by simpa using hb
 subst e;exact I1.fpOk (eE _) (I1.hok.fresh (eE _))
theorem yY(hK:X.K=K):OpR X (binaryOp .Add) (Zft K):=by subst hK;exact ZeL
abbrev ZR:Tr:=.node .yes []
abbrev Yh(t:Tr):Tr:=.node (.op "not") [t]
abbrev qT(t:Tr):Tr:=.node (.op "next") [t]
abbrev ZaB(t:Tr):Tr:=.node (.op "some") [t]
abbrev Vp(a b:Tr):Tr:=.node (.many "and") [a,b]
abbrev ZhG(a b:Tr):Tr:=.node (.op "until") [a,b]
abbrev ZgW(a b:Tr):Tr:=.node (.op "since") [a,b]
def Wa:67->Tr
 |[]=>ZR
 |[x]=>x
 |x::y::r=>Vp x (Wa (y::r))
def orT:67->Tr
 |[]=>Yh ZR
 |[x]=>x
 |x::y::r=>Yh (Vp (Yh x) (Yh (orT (y::r))))
def Z0:Nat->Tr->Tr->Tr
 |0,_,s=>s
 |n+1,f,s=>Yh (Vp (Yh s) (Yh (Vp f (qT (Z0 n f s)))))
def Yr(c:Lb)(cs:67):Tr:=match c with
 |.yes=>ZR
 |.sign s=>.node (.sign s) []
 |.many w=>if w = "and" then Wa cs else orT cs
 |.wit m=>Z0 m.toNat (cs.getD 0 ZR) (cs.getD 1 ZR)
 |.op w=>if w = "all" then Yh (ZaB (Yh (cs.getD 0 ZR))) else if w = "ever" then ZhG ZR (cs.getD 0 ZR) else if w = "always" then Yh (ZhG ZR (Yh (cs.getD 0 ZR)))
  else if w = "once" then ZgW ZR (cs.getD 0 ZR) else if w = "sofar" then Yh (ZgW ZR (Yh (cs.getD 0 ZR))) else .node (.op w) cs
def ZH:Tr->Tr:=YJ Yr
theorem Wz(t:Tr):ZH t=Yr t.lb (t.ks.map ZH):=Wo Yr t
def mx(l:List Nat):Nat:=l.foldr max 0
theorem jG{l:List Nat}{m:Nat}:mx l<=m↔∀x∈l,x<=m:=by
 induction l with
 |nil=>simp[mx]
 |cons a r ih=>
  have e:mx (a::r)=max a (mx r):=rfl;rw[e,Nat.max_le,ih];simp
def hgt:Tr->Nat:=YJ fun _ hs=>mx hs+1
theorem k3(t:Tr):hgt t=mx (t.ks.map hgt)+1:=Wo _ t
def dpt:Tr->Nat:=YJ fun c ds=>match c with|.many _=>mx ds+2|_=>mx ds+1
theorem Zgd(t:Tr):dpt t=match t.lb with|.many _=>mx (t.ks.map dpt)+2|_=>mx (t.ks.map dpt)+1:=Wo _ t
def psz(t:Tr):Nat:=(post t).length
theorem Qa(t:Tr):psz t=(t.ks.map psz).sum+1:=by
 have sV:∀ks:67,(Ya ks).length=(ks.map psz).sum:=by
  intro ks
  induction ks with
  |nil=>rfl
  |cons a r ih=>rw[Ya,eK,ih,eM,gI];rfl
 unfold psz;rw[Ui t,eK,sV];rfl
theorem WL(t:Tr):1<=psz t:=by rw[Qa];lia
theorem Zaa(t:Tr):1<=hgt t:=by rw[k3];lia
theorem At.hgt_le{K:W.Frag}{H:Hp}:∀{n:Nat}{v:V}{t:Tr},At K n H v t->hgt t<=n
 |0,_,_,h=>h.elim
 |n+1,v,t,⟨a,vs,e,sh,ok,l,q⟩=>by
  rw[k3];have:mx (t.ks.map hgt)<=n:=jG.mpr fun x hx=>by
   obtain⟨k,hk,rfl⟩:=eV.mp hx;obtain⟨i,hi,rfl⟩:=fO hk;exact At.hgt_le (q i _ _ (eI 21) (eI hi))
  lia
theorem ZeG{t k:Tr}(h:k∈t.ks):hgt k+1<=hgt t:=by
 rw[k3 t];have:=(jG (m:=mx (t.ks.map hgt))).mp (eE _) (hgt k) (iW h);lia
theorem At.fit{K:W.Frag}{H:Hp}:∀{n m:Nat}{v:V}{t:Tr},At K n H v t->hgt t<=m->At K m H v t
 |0,_,_,_,h,_=>h.elim
 |n+1,0,v,t,h,hm=>by have:=Zaa t;lia
 |n+1,m+1,v,t,⟨a,vs,e,sh,ok,l,q⟩,hm=>⟨a,vs,e,sh,ok,l,fun i u k h1 h2=>At.fit (q i u k h1 h2) (by have:=ZeG (fz h2);lia)⟩
theorem X5{P:Tr->Prop}(h:∀c∈cs,P c)(hy:P ZR):P (cs.getD i ZR):=by
 cases e:cs[i]? with
 |none=>rw[gQ,e];exact hy
 |some x=>rw[gQ,e];exact h x (fz e)
theorem Xd(c:Lb)(ks:67):hgt (.node c ks)=mx (ks.map hgt)+1:=k3 _
theorem Xu(c:Lb)(ks:67):psz (.node c ks)=(ks.map psz).sum+1:=Qa _
theorem Xw(c:Lb)(ks:67):dpt (.node c ks)=match c with|.many _=>mx (ks.map dpt)+2|_=>mx (ks.map dpt)+1:=Zgd _
theorem mx1(a:Nat):mx [a]=a:=by simp[mx]
theorem mx2(a b:Nat):mx [a,b]=max a b:=by simp[mx]
theorem Zcs{m:Nat}(ok:YO c cs.length)(h:∀k∈cs,hgt k<=m)(hm:1<=m):hgt (Yr c cs)<=m+27:=by
 have y:hgt ZR=1:=rfl;have g0:hgt (cs.getD 0 ZR)<=m:=X5 (P:=fun k=>hgt k<=m) h (by rw[y];exact hm);have g1:hgt (cs.getD 1 ZR)<=m:=X5 (P:=fun k=>hgt k<=m) h (by rw[y];exact hm);have ha:∀cs:67,(∀k∈cs,hgt k<=m)->hgt (Wa cs)<=m+cs.length:=by
  intro cs
  induction cs with
  |nil=>intro _;show hgt ZR<=_;rw[y];lia
  |cons x r ih=>
   intro h;cases r with
   |nil=>have:=h x 47;show hgt x<=_;lia
   |cons z r=>
    have i2:=ih fun k hk=>h k (eT _ hk);have:=h x 47
    show hgt (Vp x (Wa (z::r)))<=_
    rw[Xd,eM,eM,fq,mx2];simp only[fG] at i2 ⊢;lia
 have ho:∀cs:67,(∀k∈cs,hgt k<=m)->hgt (orT cs)<=m+3*cs.length+1:=by
  intro cs
  induction cs with
  |nil=>intro _;show hgt (Yh ZR)<=_;rw[Xd,eM,fq,mx1,y];lia
  |cons x r ih=>
   intro h;cases r with
   |nil=>have:=h x 47;show hgt x<=_;lia
   |cons z r=>
    have i2:=ih fun k hk=>h k (eT _ hk);have:=h x 47
    show hgt (Yh (Vp (Yh x) (Yh (orT (z::r)))))<=_
    simp only[Xd,eM,fq,mx1,mx2];simp only[fG] at i2 ⊢;lia
 have hw:∀n f s,hgt f<=m->hgt s<=m->hgt (Z0 n f s)<=m+5*n:=by
  intro n f s hf hs
  induction n with
  |zero=>show hgt s<=_;lia
  |succ n ih=>
   show hgt (Yh (Vp (Yh s) (Yh (Vp f (qT (Z0 n f s))))))<=_
   simp only[Xd,eM,fq,mx1,mx2];lia
 cases c with
 |yes=>show hgt ZR<=_;rw[y];lia
 |sign z=>show hgt (.node (.sign z) [])<=_;rw[Xd];simp[mx]
 |many w=>
  show hgt (if w = "and" then Wa cs else orT cs)<=_
  have:=ok.2
  split
  ·have:=ha cs h;lia
  ·have:=ho cs h;lia
 |wit k=>
  have:=hw k.toNat _ _ g0 g1;have:=ok.1
  show hgt (Z0 k.toNat _ _)<=_
  lia
 |op w=>
  have oH:hgt (.node (.op w) cs)<=m+27:=by
   rw[Xd];have:mx (cs.map hgt)<=m:=jG.mpr fun x hx=>by obtain⟨k,hk,rfl⟩:=eV.mp hx;exact h k hk
   lia
  unfold Yr;dsimp only
  split
  ·simp only[Xd,eM,fq,mx1];lia
  split
  ·simp only[Xd,eM,fq,mx1,mx2,y];lia
  split
  ·simp only[Xd,eM,fq,mx1,mx2,y];lia
  split
  ·simp only[Xd,eM,fq,mx1,mx2,y];lia
  split
  ·simp only[Xd,eM,fq,mx1,mx2,y];lia
  ·exact oH
theorem ZcO{m:Nat}(ok:YO c cs.length)(h:∀k∈cs,dpt k<=m)(hm:1<=m):dpt (Yr c cs)<=m+35:=by
 have y:dpt ZR=1:=rfl;have g0:dpt (cs.getD 0 ZR)<=m:=X5 (P:=fun k=>dpt k<=m) h (by rw[y];exact hm);have g1:dpt (cs.getD 1 ZR)<=m:=X5 (P:=fun k=>dpt k<=m) h (by rw[y];exact hm);have ha:∀cs:67,(∀k∈cs,dpt k<=m)->dpt (Wa cs)<=m+2*cs.length:=by
  intro cs
  induction cs with
  |nil=>intro _;show dpt ZR<=_;rw[y];lia
  |cons x r ih=>
   intro h;cases r with
   |nil=>have:=h x 47;show dpt x<=_;lia
   |cons z r=>
    have i2:=ih fun k hk=>h k (eT _ hk);have:=h x 47
    show dpt (Vp x (Wa (z::r)))<=_
    simp only[Xw,eM,fq,mx2];simp only[fG] at i2 ⊢;lia
 have ho:∀cs:67,(∀k∈cs,dpt k<=m)->dpt (orT cs)<=m+4*cs.length+1:=by
  intro cs
  induction cs with
  |nil=>intro _;show dpt (Yh ZR)<=_;simp only[Xw,eM,fq,mx1,y];lia
  |cons x r ih=>
   intro h;cases r with
   |nil=>have:=h x 47;show dpt x<=_;lia
   |cons z r=>
    have i2:=ih fun k hk=>h k (eT _ hk);have:=h x 47
    show dpt (Yh (Vp (Yh x) (Yh (orT (z::r)))))<=_
    simp only[Xw,eM,fq,mx1,mx2];simp only[fG] at i2 ⊢;lia
 have hw:∀n f s,dpt f<=m->dpt s<=m->dpt (Z0 n f s)<=m+7*n:=by
  intro n f s hf hs
  induction n with
  |zero=>show dpt s<=_;lia
  |succ n ih=>
   show dpt (Yh (Vp (Yh s) (Yh (Vp f (qT (Z0 n f s))))))<=_
   simp only[Xw,eM,fq,mx1,mx2];lia
 cases c with
 |yes=>show dpt ZR<=_;rw[y];lia
 |sign z=>show dpt (.node (.sign z) [])<=_;simp[Xw,mx]
 |many w=>
  show dpt (if w = "and" then Wa cs else orT cs)<=_
  have:=ok.2
  split
  ·have:=ha cs h;lia
  ·have:=ho cs h;lia
 |wit k=>
  have:=hw k.toNat _ _ g0 g1;have:=ok.1
  show dpt (Z0 k.toNat _ _)<=_
  lia
 |op w=>
  have oH:dpt (.node (.op w) cs)<=m+35:=by
   simp only[Xw];have:mx (cs.map dpt)<=m:=jG.mpr fun x hx=>by obtain⟨k,hk,rfl⟩:=eV.mp hx;exact h k hk
   lia
  unfold Yr;dsimp only
  split
  ·simp only[Xw,eM,fq,mx1];lia
  split
  ·simp only[Xw,eM,fq,mx1,mx2,y];lia
  split
  ·simp only[Xw,eM,fq,mx1,mx2,y];lia
  split
  ·simp only[Xw,eM,fq,mx1,mx2,y];lia
  split
  ·simp only[Xw,eM,fq,mx1,mx2,y];lia
  ·exact oH
theorem ZdK{m:Nat}(ok:YO c cs.length)(h:∀k∈cs,psz k<=m)(hm:1<=m):psz (Yr c cs)<=11*m+35:=by
 have y:psz ZR=1:=rfl;have g0:psz (cs.getD 0 ZR)<=m:=X5 (P:=fun k=>psz k<=m) h (by rw[y];exact hm);have g1:psz (cs.getD 1 ZR)<=m:=X5 (P:=fun k=>psz k<=m) h (by rw[y];exact hm);have ha:∀cs:67,(∀k∈cs,psz k<=m)->psz (Wa cs)<=cs.length*m+cs.length+1:=by
  intro cs
  induction cs with
  |nil=>intro _;show psz ZR<=_;rw[y];lia
  |cons x r ih=>
   intro h;cases r with
   |nil=>have:=h x 47;show psz x<=_;simp;lia
   |cons z r=>
    have i2:=ih fun k hk=>h k (eT _ hk);have:=h x 47
    show psz (Vp x (Wa (z::r)))<=_
    simp only[Xu,eM,fq,gI,im];simp only[fG,Τ] at i2 ⊢;lia
 have ho:∀cs:67,(∀k∈cs,psz k<=m)->psz (orT cs)<=cs.length*m+4*cs.length+2:=by
  intro cs
  induction cs with
  |nil=>intro _;show psz (Yh ZR)<=_;simp only[Xu,eM,fq,gI,im];lia
  |cons x r ih=>
   intro h;cases r with
   |nil=>have:=h x 47;show psz x<=_;simp;lia
   |cons z r=>
    have i2:=ih fun k hk=>h k (eT _ hk);have:=h x 47
    show psz (Yh (Vp (Yh x) (Yh (orT (z::r)))))<=_
    simp only[Xu,eM,fq,gI,im];simp only[fG,Τ] at i2 ⊢;lia
 have hw:∀n f s,psz f<=m->psz s<=m->psz (Z0 n f s)<=m+n*(2*m+7):=by
  intro n f s hf hs
  induction n with
  |zero=>show psz s<=_;lia
  |succ n ih=>
   show psz (Yh (Vp (Yh s) (Yh (Vp f (qT (Z0 n f s))))))<=_
   simp only[Xu,eM,fq,gI,im];rw[Τ];lia
 cases c with
 |yes=>show psz ZR<=_;rw[y];lia
 |sign z=>show psz (.node (.sign z) [])<=_;simp[Xu]
 |many w=>
  show psz (if w = "and" then Wa cs else orT cs)<=_
  have h8:cs.length<=8:=ok.2;have h8m:cs.length*m<=8*m:=lJ _ h8
  split
  ·have:=ha cs h;lia
  ·have:=ho cs h;lia
 |wit k=>
  have:=hw k.toNat _ _ g0 g1;have h5:k.toNat<=5:=by have:=ok.1;lia
  have h5m:k.toNat*(2*m+7)<=5*(2*m+7):=lJ _ h5
  show psz (Z0 k.toNat _ _)<=_
  lia
 |op w=>
  have oH:psz (.node (.op w) cs)<=11*m+35:=by
   rw[Xu];have hl:cs.length=1\/cs.length=2:=by rcases ok with o|o;exact .inl o.2;exact .inr o.2
   match cs,hl,h with
   |[a],_,h=>have:=h a 47;simp;lia
   |[a,b],_,h=>have:=h a 47;have:=h b 47;simp;lia
  unfold Yr;dsimp only
  split
  ·simp only[Xu,eM,fq,gI,im];lia
  split
  ·simp only[Xu,eM,fq,gI,im];lia
  split
  ·simp only[Xu,eM,fq,gI,im];lia
  split
  ·simp only[Xu,eM,fq,gI,im];lia
  split
  ·simp only[Xu,eM,fq,gI,im];lia
  ·exact oH
def W6:50:=["not","next","until","before","since","some"]
def yF(c:Lb)(bs:List Bool):Bool:=bs.all id&&match c with
 |.yes=>bs.isEmpty
 |.sign _=>bs.isEmpty
 |.op w=>decide (w∈W6)
 |.wit _=>false
 |.many w=>decide (w = "and")&&decide (bs.length=2)
def isC:Tr->Bool:=YJ yF
theorem ZdL(t:Tr):isC t=yF t.lb (t.ks.map isC):=Wo yF t
theorem Vm(c:Lb)(ks:67):isC (.node c ks)=yF c (ks.map isC):=ZdL _
theorem Kf{t:Tr}(h:isC t=true):∀k∈t.ks,isC k=true:=by
 rw[ZdL] at h;unfold yF at h;rw[fH] at h;intro k hk;have:=fZ.mp h.1 (isC k) (iW hk);exact this
theorem ZgO:∀w∈W1++W2,w ≠ "all" -> w ≠ "ever" -> w ≠ "always" -> w ≠ "once" -> w ≠ "sofar" -> w∈W6:=by left
theorem Zch(ok:YO c cs.length)(h:∀k∈cs,isC k=true):isC (Yr c cs)=true:=by
 have y:isC ZR=true:=rfl;have n1:∀{w:Str}{a:Tr},w∈W6->isC a=true->isC (.node (.op w) [a])=true:=fun {w a} hw ha=>by
  rw[Vm];simp[yF,ha,hw]
 have n2:∀{w:Str}{a b:Tr},w∈W6->isC a=true->isC b=true->isC (.node (.op w) [a,b])=true:=fun {w a b} hw ha hb=>by
  rw[Vm];simp[yF,ha,hb,hw]
 have na:∀{a b:Tr},isC a=true->isC b=true->isC (Vp a b)=true:=fun {a b} ha hb=>by
  rw[Vm];simp[yF,ha,hb]
 have wn:("not" : Str)∈W6:=by left
 have g0:isC (cs.getD 0 ZR)=true:=X5 (P:=fun k=>isC k=true) h y;have g1:isC (cs.getD 1 ZR)=true:=X5 (P:=fun k=>isC k=true) h y;have ha:∀cs:67,(∀k∈cs,isC k=true)->isC (Wa cs)=true:=by
  intro cs
  induction cs with
  |nil=>intro _;exact y
  |cons x r ih=>
   intro h;cases r with
   |nil=>exact h x 47
   |cons z r=>exact na (h x 47) (ih fun k hk=>h k (eT _ hk))
 have ho:∀cs:67,(∀k∈cs,isC k=true)->isC (orT cs)=true:=by
  intro cs
  induction cs with
  |nil=>intro _;exact n1 wn y
  |cons x r ih=>
   intro h;cases r with
   |nil=>exact h x 47
   |cons z r=>exact n1 wn (na (n1 wn (h x 47)) (n1 wn (ih fun k hk=>h k (eT _ hk))))
 have hw:∀n f s,isC f=true->isC s=true->isC (Z0 n f s)=true:=by
  intro n f s hf hs
  induction n with
  |zero=>exact hs
  |succ n ih=>exact n1 wn (na (n1 wn hs) (n1 wn (na hf (n1 48 ih))))
 cases c with
 |yes=>exact y
 |sign z=>rfl
 |many w=>
  show isC (if w = "and" then Wa cs else orT cs)=true
  split
  ·exact ha cs h
  ·exact ho cs h
 |wit k=>exact hw _ _ _ g0 g1
 |op w=>
  unfold Yr;dsimp only
  split
  ·exact n1 wn (n1 48 (n1 wn g0))
  rename_i h1
  split
  ·exact n2 48 y g0
  rename_i h2
  split
  ·exact n1 wn (n2 48 y (n1 wn g0))
  rename_i h3
  split
  ·exact n2 48 y g0
  rename_i h4
  split
  ·exact n1 wn (n2 48 y (n1 wn g0))
  rename_i h5
  have FA:w∈W6:=ZgO w (by rcases ok with o|o;exact fT _ o.1;exact fC _ o.1) h1 h2 h3 h4 h5;rw[Vm];unfold yF;rw[fH];refine⟨fZ.mpr fun b hb=>?_,fQ FA⟩;obtain⟨k,hk,rfl⟩:=eV.mp hb;exact h k hk
theorem Zbj{ks:67}(hr:Zai c (ks.map Ym)=true)(h:∀k∈ks,Ym k=true->Ym (ZH k)=true):Ym (Yr c (ks.map ZH))=true:=by
 have r1:∀w a,Ym (.node (.op w) [a])=Zai (.op w) [Ym a]:=fun w a=>US _ _;have ra:∀a b,Ym a=true->Ym b=true->Ym (Vp a b)=true:=fun a b ha hb=>by
  rw[US]
  show([a,b].map Ym).all id=true
  simp[ha,hb]
 have rn:∀a,Ym a=true->Ym (Yh a)=true:=fun a ha=>by
  rw[r1]
  show(if("not" : Str) = "all" \/ ("not" : Str) = "some" then true else if("not" : Str) = "not" then[Ym a].all id else false)=true
  rw[nn 48,nt rfl];simp[ha]
 have rs:∀a,Ym (ZaB a)=true:=fun a=>by
  rw[r1]
  show(if("some" : Str) = "all" \/ ("some" : Str) = "some" then true else if("some" : Str) = "not" then[Ym a].all id else false)=true
  rw[nt (.inr rfl)]
 have ha:∀cs:67,(∀k∈cs,Ym k=true)->Ym (Wa cs)=true:=by
  intro cs
  induction cs with
  |nil=>intro _;rfl
  |cons x r ih=>
   intro h;cases r with
   |nil=>exact h x 47
   |cons z r=>exact ra _ _ (h x 47) (ih fun k hk=>h k (eT _ hk))
 have ho:∀cs:67,(∀k∈cs,Ym k=true)->Ym (orT cs)=true:=by
  intro cs
  induction cs with
  |nil=>intro _;exact rn _ rfl
  |cons x r ih=>
   intro h;cases r with
   |nil=>exact h x 47
   |cons z r=>exact rn _ (ra _ _ (rn _ (h x 47)) (rn _ (ih fun k hk=>h k (eT _ hk))))
 have all:(ks.map Ym).all id=true->∀k∈ks.map ZH,Ym k=true:=fun nJ k hk=>by
  obtain⟨q,hq,rfl⟩:=eV.mp hk;exact h q hq (fZ.mp nJ (Ym q) (iW hq))
 cases c with
 |yes=>rfl
 |sign z=>rfl
 |wit m=>cases hr
 |many w=>
  have tU:(ks.map Ym).all id=true:=hr
  show Ym (if w = "and" then _ else _)=true
  split
  ·exact ha _ (all tU)
  ·exact ho _ (all tU)
 |op w=>
  have tU:(if w = "all" \/ w = "some" then true else if w = "not" then(ks.map Ym).all id else false)=true:=hr
  by_cases h1:w = "all"
  ·subst h1;exact rn _ (rs _)
  by_cases h2:w = "some"
  ·subst h2
   show Ym (.node (.op "some") _)=true
   rw[US]
   show(if("some" : Str) = "all" \/ ("some" : Str) = "some" then true else if("some" : Str) = "not" then((ks.map ZH).map Ym).all id else false)=true
   rw[nt (.inr rfl)]
  rw[nn (fun z=>by rcases z with z|z;exact h1 z;exact h2 z)] at tU
  by_cases h3:w = "not"
  ·subst h3;rw[nt rfl] at tU
   show Ym (.node (.op "not") _)=true
   rw[US]
   show(if("not" : Str) = "all" \/ ("not" : Str) = "some" then true else if("not" : Str) = "not" then((ks.map ZH).map Ym).all id else false)=true
   rw[nn 48,nt rfl];refine fZ.mpr fun b hb=>?_;obtain⟨k,hk,rfl⟩:=eV.mp hb;exact all tU k hk
  ·rw[nn h3] at tU;cases tU
def OkN:Nat->Tr->Prop
 |0,_=>False
 |n+1,t=>YO t.lb t.ks.length/\∀k∈t.ks,OkN n k
theorem At.ok{K:W.Frag}{H:Hp}:∀{n:Nat}{v:V}{t:Tr},At K n H v t->OkN n t
 |0,_,_,h=>h
 |n+1,v,t,⟨a,vs,e,sh,ok,l,q⟩=>⟨ok,fun k hk=>by
  obtain⟨i,hi,rfl⟩:=fO hk;exact At.ok (q i _ _ (eI 21) (eI hi))⟩
def Bz:Nat->Nat
 |0=>1
 |n+1=>11*Bz n+35
theorem ZfI:∀n,1<=Bz n
 |0=>eE _
 |n+1=>by show 1<=11*Bz n+35;lia
theorem UL:∀(n:Nat) (t:Tr),OkN n t->hgt (ZH t)<=28*n/\dpt (ZH t)<=36*n/\psz (ZH t)<=Bz n/\isC (ZH t)=true/\(Ym t=true->Ym (ZH t)=true)
 |0,_,h=>h.elim
 |n+1,t,⟨ok,h⟩=>by
  have ih:=fun k hk=>UL n k (h k hk);have w9:YO t.lb (t.ks.map ZH).length:=by rw[eG];exact ok
  have S7:∀k∈t.ks.map ZH,hgt k<=max 1 (28*n):=fun k hk=>by obtain⟨q,hq,rfl⟩:=eV.mp hk;have:=(ih q hq).1;lia
  have OP:∀k∈t.ks.map ZH,dpt k<=max 1 (36*n):=fun k hk=>by obtain⟨q,hq,rfl⟩:=eV.mp hk;have:=(ih q hq).2.1;lia
  have SR:∀k∈t.ks.map ZH,psz k<=Bz n:=fun k hk=>by obtain⟨q,hq,rfl⟩:=eV.mp hk;exact(ih q hq).2.2.1
  have Sw:∀k∈t.ks.map ZH,isC k=true:=fun k hk=>by obtain⟨q,hq,rfl⟩:=eV.mp hk;exact(ih q hq).2.2.2.1
  rw[Wz];have a1:=Zcs w9 S7 21;have a2:=ZcO w9 OP 21;have a3:=ZdK w9 SR (ZfI n);refine⟨by lia,by lia,a3,Zch w9 Sw,fun hr=>Zbj ?_ fun k hk=>(ih k hk).2.2.2.2⟩;rw[<- US];rw[<- Tr.eta];exact hr
theorem V8(c:Lb)(ks:67):(post (.node c ks)).length=(Ya ks).length+1:=by rw[post,eK];rfl
theorem UT{t:Addr}(e:SqT K H t [.str "yes"]):At K (n+1) H (.ref t) (.node .yes []):=⟨t,[],rfl,⟨rfl,e⟩,rfl,rfl,fun i u k h=>by simp at h⟩
theorem Zaj{t:Addr}(e:SqT K H t [.str "sign",.str z])(hz:Xk z=true):At K (n+1) H (.ref t) (.node (.sign z) []):=⟨t,[],rfl,⟨rfl,e⟩,⟨rfl,hz⟩,rfl,fun i u k h=>by simp at h⟩
theorem X2{t:Addr}{w:Str}{u:V}{k:Tr}(e:SqT K H t [.str w,u])(hw:w∈W1)(h:At K n H u k):At K (n+1) H (.ref t) (.node (.op w) [k]):=⟨t,[u],rfl,e,.inl ⟨hw,rfl⟩,rfl,(AtL.one h).2⟩
theorem yd{t:Addr}{w:Str}{u:V}{k r:Tr}(e:SqT K H t [.str w,u,v])(hw:w∈W2)(h:At K n H u k)(g:At K n H v r):At K (n+1) H (.ref t) (.node (.op w) [k,r]):=⟨t,[u,v],rfl,e,.inr ⟨hw,rfl⟩,rfl,((AtL.one h).app (AtL.one g)).2⟩
theorem ZcL{t:Addr}{m:Int}{u:V}{k r:Tr}(e:SqT K H t [.str "within",.int m,u,v])(hm:0<=m/\m<=5)(h:At K n H u k)(g:At K n H v r):At K (n+1) H (.ref t) (.node (.wit m) [k,r]):=⟨t,[u,v],rfl,e,⟨hm,rfl⟩,rfl,((AtL.one h).app (AtL.one g)).2⟩
theorem xO{t b:Addr}{w:Str}{us:List V}{ks:67}(e:SqT K H t [.str w,.ref b])(eb:SqT K H b us)(h:AtL K n H us ks)(hw:w = "and" \/ w = "or")(hk:ks.length<=8):At K (n+1) H (.ref t) (.node (.many w) ks):=⟨t,us,rfl,⟨b,e,eb⟩,⟨hw,hk⟩,h.1,h.2⟩
theorem JR(xs:List V)(h:0<xs.length):X9 xs none (some (-1))=xs.take (xs.length-1):=by
 unfold X9;have e1:HT.sIx xs.length 0 none=0:=rfl;have e2:HT.sIx xs.length xs.length (some (-1))=xs.length-1:=by unfold HT.sIx;simp;lia
 rw[e1,e2];simp
theorem ZaG{x:Tr}{l:67}(h:l≠[]):Wa (x::l)=Vp x (Wa l):=by
 cases l with
 |nil=>exact nu rfl h
 |cons y r=>rfl
theorem ZcM{x:Tr}{l:67}(h:l≠[]):orT (x::l)=Yh (Vp (Yh x) (Yh (orT l))):=by
 cases l with
 |nil=>exact nu rfl h
 |cons y r=>rfl
theorem QO{m:Nat}{f s:Tr}(hf:hgt f<=m)(hs:hgt s<=m):∀n,hgt (Z0 n f s)<=m+5*n:=by
 intro n
 induction n with
 |zero=>show hgt s<=_;lia
 |succ n ih=>
  show hgt (Yh (Vp (Yh s) (Yh (Vp f (qT (Z0 n f s))))))<=_
  simp only[Xd,eM,fq,mx1,mx2];lia
theorem AtL.two{u:V}{a b:Tr}(h:At K n H u a)(g:At K n H v b):AtL K n H [u,v] [a,b]:=(AtL.one h).app (AtL.one g)
theorem qV{xs:List V}{u:V}:atI (xs++[u]) (-1)=some u:=by
 have:=ZdB (xs:=xs++[u]) (k:=1) 48 47;simpa using this
abbrev NW:50:=["yes","sign","and","or","within"]
inductive Fm(K:W.Frag)(H:Hp):V->Prop
 |noT {v:V}:Kd H v->XG H "tuple" v=false->Fm K H v
 |emp {a:Addr}:SqT K H a []->Fm K H (.ref a)
 |noS {a:Addr}{x:V}{xs:List V}:SqT K H a (x::xs)->Kd H x->XG H "str" x=false->Fm K H (.ref a)
 |yes {a:Addr}{xs:List V}:SqT K H a (.str "yes" :: xs)->xs.length≠0->Fm K H (.ref a)
 |sgnL {a:Addr}{xs:List V}:SqT K H a (.str "sign" :: xs)->xs.length≠1->Fm K H (.ref a)
 |sgn {a:Addr}{x:V}:SqT K H a [.str "sign",x]->Kd H x->Xa x=false->Fm K H (.ref a)
 |manyL {a:Addr}{w:Str}{xs:List V}:w∈(["and","or"]:50)->SqT K H a (.str w::xs)->xs.length≠1->Fm K H (.ref a)
 |manyN {a:Addr}{w:Str}{x:V}:w∈(["and","or"]:50)->SqT K H a [.str w,x]->Kd H x->XG H "tuple" x=false->Fm K H (.ref a)
 |witL {a:Addr}{xs:List V}:SqT K H a (.str "within" :: xs)->xs.length≠3->Fm K H (.ref a)
 |witN {a:Addr}{x y z:V}:SqT K H a [.str "within",x,y,z]->Kd H x->kP x=false->Fm K H (.ref a)
 |witM {a:Addr}{m:Int}{y z:V}:SqT K H a [.str "within",.int m,y,z]->¬(0<=m/\m<=5)->Fm K H (.ref a)
 |word {a:Addr}{w:Str}{xs:List V}:SqT K H a (.str w::xs)->w∈(["signs","Next"]:50)->Fm K H (.ref a)
 |lens {a:Addr}{w:Str}{i:Int}{xs:List V}:SqT K H a (.str w::xs)->w∉NW->(w,i)∈LK->((xs.length+1:Nat):Int)≠i->Fm K H (.ref a)
inductive Bt where
 |lf
 |nd (c:Lb) (ks:List Bt)
mutual
def bsz:Bt->Nat
 |.lf=>1
 |.nd _ ks=>ZhF ks+1
def ZhF:List Bt->Nat
 |[]=>0
 |b::r=>bsz b+ZhF r
end
def Zdh:Lb->Nat->Prop
 |.yes,n=>YO .yes n
 |.sign s,n=>YO (.sign s) n
 |.op w,n=>YO (.op w) n
 |.wit m,n=>YO (.wit m) n
 |.many w,n=>(w = "and" \/ w = "or")/\n<=1000
theorem YO.b(h:YO c n):Zdh c n:=by
 cases c with
 |many w=>exact⟨h.1,eW h.2 48⟩
 |yes=>exact h
 |sign s=>exact h
 |op w=>exact h
 |wit m=>exact h
def FmT(K:W.Frag)(H:Hp)(v:V):Prop:=∃a us c,v=.ref a/\qm K H a us c/\Zdh c us.length
theorem At.fmT{t:Tr}(h:At K n H v t):FmT K H v:=by
 cases n with
 |zero=>exact h.elim
 |succ n=>
  obtain⟨a,vs,e,sh,ok,l,_⟩:=h;exact⟨a,vs,t.lb,e,sh,by rw[l];exact ok.b⟩
inductive Q3(K:W.Frag)(P:Params)(x:V)(y:V)(H:Hp)(Q:VK):Prop
 |mk (z:_) (D:_) (kvs:_) (b:_) (h0:x=.str z) (h1:y=.ref D) (h2:Zgk K P D kvs) (h3:((b=true/\∃i,(z,i)∈kvs)\/(b=false/\W.nsIn K D z=some none))) (h4:Q (.bl b) H):Q3 K P x y H Q
def ZhD(K:W.Frag)(P:Params):R2:=fun x y H Q=>Q3 K P x y H Q
theorem Ze3{P:Params}(hK:X.K=K)(hw:X.w.params=P):OpR X (compareOp .In) (ZhD K P):=by
 subst hK hw;intro cQ s σ H x y v u Q I rx ry h;obtain⟨z,D,kvs,b,rfl,rfl,d,hb,q⟩:=h;obtain⟨t,rfl⟩:=(show ∃t,v=Value.str z t from rx);obtain rfl:u=Value.ref D:=ry;obtain⟨m,F⟩:=I.fr;obtain⟨es,n,lk,hk⟩:=d.ex;rcases hb with⟨rfl,i,hm⟩|⟨rfl,ea⟩
 ·obtain⟨t2,ea⟩:=d.at_ _ hm;exact W.topIn_K F I.mod.kin lk hk ea d.lo ⟨.bl true,H,I.tok _,rfl,q⟩
 ·exact W.topIn_K F I.mod.kin lk hk ea d.lo ⟨.bl false,H,I.tok _,rfl,q⟩
theorem qN{p:Prop}[Decidable p]{Q:VK}(h:¬p)(q:Q (.bl false) H):Q (.bl (decide p)) H:=by rw[fE h];exact q
end L3
namespace L2
open PySem PySem.Spec PyProof.Rows
section
variable(P:Program)(w:World)
end
section
variable{x e:Addr}{o':HO}
end
section
variable{fs wV ex rF:List Addr}{h2:Heap}{x e:Addr}
end
section
variable{σ:List (Option V)}
end
section
variable{a b:Expr}{ta tb:TE}
variable{tA BI:TT}{XB:List Expr}
end
section
variable{xs ys:List V}
end
section
variable{st:Stmt}{XB:List Stmt}{t u:TS}
end
section
variable{a b c:Expr}{ta tb tc:TE}
end
section
variable{a b c:Expr}{ta tb tc:TE}
end
section
variable{x f:Addr}{name:Str}{v:Value}
end
section
variable{fs wV:List (Str×V)}
end
section
variable{fs:List (Str×V)}{f:Str}
end
section
variable{o nz:Expr}{f:Str}{BK:Pos}{ta:TE}
end
section
variable{c:Value}{b:Bool}
end
section
variable{es:List Expr}{t:TA}
end
section
variable{k:Nat}{f:Addr}{ps:List Str}{oC:List V}{ds:List Value}{E:XK}{x m:Str}{p apos:Pos}{o:Expr}{es:List Expr}{ta:TE}{t:TA}
end
section
variable{k:Nat}{f:Addr}{ps ks:List Str}{E:XK}{x m:Str}{p apos Ft:Pos}{o:Expr}{es:List Expr}{Pu:List Keyword}{ta:TE}{t tk:TA}{nm:Option Str}
variable{g:List Value->List Value->List Value}{gV:List V->List V->List V}
end
section
variable{x:Str}{p:Pos}{es:List Expr}{t:TA}{id:String}{r:List V->Hp->VK->Prop}
end
section
variable{κ:Type}[DecidableEq κ]
def Yx(kvs:List (κ×V))(k:κ):Option V:=(kvs.find? fun kv=>decide (kv.1=k)).map (·.2)
def Xr(kvs:List (κ×V))(k:κ)(v:V):List (κ×V):=
 if(kvs.any fun kv=>decide (kv.1=k))=true then kvs.map (fun kv=>if kv.1=k then(kv.1,v) else kv) else kvs++[(k,v)]
theorem Y2{p:κ×V}{r:List (κ×V)}{k:κ}(e:p.1=k):Yx (p::r) k=some p.2:=by simp[Yx,iC,e]
theorem Y0{p:κ×V}{r:List (κ×V)}{k:κ}(e:¬p.1=k):Yx (p::r) k=Yx r k:=by simp[Yx,iC,e]
theorem V7(k:κ):∀kvs:List (κ×V),(kvs.any fun kv=>decide (kv.1=k))=(Yx kvs k).isSome
 |[]=>rfl
 |p::r=>by
  rw[lG]
  by_cases e:p.1=k
  ·simp only[Y2 e,fQ e,Υ,Option.isSome_some]
  ·rw[Y0 e,fE e,iX];exact V7 k r
theorem JP(k j:κ)(y:V):∀kvs:List (κ×V),Yx (kvs.map fun kv=>if kv.1=k then(kv.1,y) else kv) j=(Yx kvs j).map fun x=>if j=k then y else x
 |[]=>rfl
 |p::r=>by
  have ih:=JP k j y r;rw[eM]
  by_cases h:p.1=k
  ·rw[nt h]
   by_cases e:p.1=j
   ·rw[Y2 (p:=(p.1,y)) e,Y2 e,mC,nt (e.symm.trans h)]
   ·rw[Y0 (p:=(p.1,y)) e,Y0 e,ih]
  ·rw[nn h]
   by_cases e:p.1=j
   ·rw[Y2 (p:=p) e,Y2 e,mC,nn (fun z=>h (e.trans z))]
   ·rw[Y0 (p:=p) e,Y0 e,ih]
theorem jy(k j:κ)(y:V):∀kvs:List (κ×V),Yx kvs k=none->Yx (kvs++[(k,y)]) j=if j=k then some y else Yx kvs j
 |[],_=>by
  by_cases e:k=j
  ·rw[nt e.symm];exact Y2 (p:=(k,y)) e
  ·rw[nn (fun z=>e z.symm)];exact Y0 (p:=(k,y)) e
 |p::r,hn=>by
  rw[lv];have hk:¬p.1=k:=fun z=>by rw[Y2 z] at hn;cases hn
  rw[Y0 hk] at hn;have ih:=jy k j y r hn
  by_cases e:p.1=j
  ·rw[Y2 e,Y2 e,nn (fun z=>hk (e.trans z))]
  ·rw[Y0 e,Y0 e,ih]
theorem JG(kvs:List (κ×V))(k j:κ)(y:V):Yx (Xr kvs k y) j=if j=k then some y else Yx kvs j:=by
 unfold Xr
 by_cases a:(kvs.any fun kv=>decide (kv.1=k))=true
 ·rw[nt a,JP];rw[V7] at a
  by_cases e:j=k
  ·obtain⟨x,hx⟩:=ml.mp a;rw[nt e,e,hx,mC,nt rfl]
  ·rw[nn e];cases Yx kvs j with
   |none=>rfl
   |some x=>rw[mC,nn e]
 ·rw[nn a];refine jy k j y kvs ?_;rw[V7] at a;cases q:Yx kvs k with
  |none=>rfl
  |some x=>rw[q] at a;exact(a rfl).elim
theorem Xp(kvs:List (κ×V))(k:κ)(v:V):(Xr kvs k v).length<=kvs.length+1:=by
 unfold Xr
 split
 ·rw[eG];lia
 ·rw[eK,fG,List.length_nil];lia
theorem ZcB{kvs:List (κ×V)}{k:κ}(v:V)(h:Yx kvs k=none):Xr kvs k v=kvs++[(k,v)]:=by
 unfold Xr;rw[V7,h];exact nn 48
theorem V6.isSome_eq{o:Option V}{u:81}(r:V6 o u):o.isSome=u.isSome:=by
 cases o with
 |none=>cases u with
  |none=>rfl
  |some _=>exact(show False from r).elim
 |some _=>cases u with
  |none=>exact(show False from r).elim
  |some _=>rfl
theorem V6.getD{o:Option V}{u:81}{d:V}{d':Value}(r:V6 o u)(rd:ZL d d'):ZL (o.getD d) (u.getD d'):=by
 cases o with
 |none=>cases u with
  |none=>exact rd
  |some _=>exact(show False from r).elim
 |some _=>cases u with
  |none=>exact(show False from r).elim
  |some _=>exact r
theorem KV.val{kvs:List (κ×V)}{vs:List (κ×Value)}(r:KV kvs vs)(k:κ):V6 (Yx kvs k) (valueAt vs k):=by
 unfold KV at r
 induction r with
 |nil=>exact True.intro
 |@cons p q ps qs h t ih=>
  obtain⟨h1,h2⟩:=h
  by_cases e:p.1=k
  ·have e':q.1=k:=h1.symm.trans e;have b:valueAt (q::qs) k=some q.2:=by simp[valueAt,iC,e']
   rw[Y2 e,b];exact h2
  ·have e':¬q.1=k:=fun z=>e (h1.trans z);have b:valueAt (q::qs) k=valueAt qs k:=by simp[valueAt,iC,e']
   rw[Y0 e,b];exact ih
theorem KV.any{kvs:List (κ×V)}{vs:List (κ×Value)}(r:KV kvs vs)(k:κ):(kvs.any fun kv=>decide (kv.1=k))=vs.any fun kv=>decide (kv.1=k):=by
 unfold KV at r
 induction r with
 |nil=>rfl
 |cons h t ih=>rw[lG,lG,ih,h.1]
theorem KV.repl{kvs:List (κ×V)}{vs:List (κ×Value)}(r:KV kvs vs)(k:κ)(ry:ZL y u) :
  KV (kvs.map fun kv=>if kv.1=k then(kv.1,y) else kv) (vs.map fun kv=>if kv.1=k then(kv.1,u) else kv):=by
 unfold KV at r ⊢
 induction r with
 |nil=>exact .nil
 |@cons p q ps qs h t ih=>
  rw[eM,eM];refine .cons ?_ ih;obtain⟨h1,h2⟩:=h
  by_cases e:p.1=k
  ·rw[nt e,nt (h1.symm.trans e)];exact⟨h1,ry⟩
  ·rw[nn e,nn (fun z=>e (h1.trans z))];exact⟨h1,h2⟩
theorem KV.put{kvs:List (κ×V)}{vs:List (κ×Value)}(r:KV kvs vs)(k:κ)(ry:ZL y u):KV (Xr kvs k y) (stored vs k u):=by
 unfold Xr stored;rw[r.any k]
 by_cases e:(vs.any fun kv=>decide (kv.1=k))=true
 ·rw[nt e,nt e];exact r.repl k ry
 ·rw[nn e,nn e];exact Paired.snoc r ⟨rfl,ry⟩
theorem KV.keys{kvs:List (κ×V)}{vs:List (κ×Value)}(r:KV kvs vs):kvs.map (·.1)=vs.map (·.1):=by
 unfold KV at r
 induction r with
 |nil=>rfl
 |cons h t ih=>rw[eM,eM,ih,h.1]
theorem KV.length{kvs:List (κ×V)}{vs:List (κ×Value)}(r:KV kvs vs):kvs.length=vs.length:=i4 r
end
theorem jB{k:Key}(r:ZL (kV k) u):(Zv P w).is k u=true:=by
 cases k with
 |inl i=>obtain⟨t,e⟩:=(show ∃t,u=Value.int i t from r);subst e;exact J7 P w i t
 |inr x=>obtain⟨t,e⟩:=(show ∃t,u=Value.str x t from r);subst e;exact Km P w x t
theorem zV{P:Program}{w:World}:∀{ks:List Key}{us:71},ZE (ks.map kV) us->ItemsAre (Zv P w) ks us
 |[],_,r=>by rw[fq] at r;cases r;exact .nil
 |k::ks,_,r=>by
  rw[eM] at r;cases r with
  |cons h t=>exact .cons (jB h) (zV t)
abbrev KT(H:Hp):List (List Key×V)->List (List Key×Addr×Value)->Prop:=Paired fun p q=>p.1=q.1/\H q.2.1=some (.tup (p.1.map kV))/\ZL p.2 q.2.2
theorem KT.val{kvs:List (List Key×V)}(r:KT H kvs xs)(k:List Key):V6 (Yx kvs k) ((atKey xs k).map (·.2)):=by
 induction r with
 |nil=>exact True.intro
 |@cons p q ps qs h t ih=>
  obtain⟨h1,_,h2⟩:=h
  by_cases e:p.1=k
  ·have e':q.1=k:=h1.symm.trans e;have b:atKey (q::qs) k=some q.2:=by simp[atKey,iC,e']
   rw[Y2 e,b];exact h2
  ·have e':¬q.1=k:=fun z=>e (h1.trans z);have b:atKey (q::qs) k=atKey qs k:=by simp[atKey,iC,e']
   rw[Y0 e,b];exact ih
theorem KT.repl{kvs:List (List Key×V)}(r:KT H kvs xs)(k:List Key)(ry:ZL y u) :
  KT H (kvs.map fun kv=>if kv.1=k then(kv.1,y) else kv) (xs.map (putAt k u)):=by
 induction r with
 |nil=>exact .nil
 |@cons p q ps qs h t ih=>
  rw[eM,eM];refine .cons ?_ ih;obtain⟨h1,h2,h3⟩:=h;unfold putAt
  by_cases e:p.1=k
  ·rw[nt e,nt (h1.symm.trans e)];exact⟨h1,h2,ry⟩
  ·rw[nn e,nn (fun z=>e (h1.trans z))];exact⟨h1,h2,h3⟩
theorem KT.put{kvs:List (List Key×V)}(r:KT H kvs xs)(k:List Key){b:Addr}(hb:H b=some (.tup (k.map kV)))(ry:ZL y u) :
  KT H (Xr kvs k y) (storedH xs k b u):=by
 have e:(kvs.any fun kv=>decide (kv.1=k))=(atKey xs k).isSome:=by
  rw[V7,(r.val k).isSome_eq,Η]
 unfold Xr storedH;rw[e]
 by_cases q:(atKey xs k).isSome=true
 ·rw[nt q,nt q];exact r.repl k ry
 ·rw[nn q,nn q];exact Paired.snoc r ⟨rfl,hb,ry⟩
theorem KT.keeps{kvs:List (List Key×V)}(r:KT H kvs xs)(ht:∀b ys,H b=some (.tup ys)->H' b=some (.tup ys)):KT H' kvs xs:=
 Paired.mapP r fun _ _ z=>⟨z.1,ht _ _ z.2.1,z.2.2⟩
theorem Zfp{u:HO}(ok:HOk P w H h)(e:Rd H a u):Yp P w H h a u:=e.ok ok
theorem JN(ok:HOk P w H h)(e:Rd H a (.dK kvs)):kvs.length<=sizeLine/\(a==sysModules)=false/\∃vs,KV kvs vs/\h.DictOf (Zv P w) a vs:=
 show Yp P w H h a (.dK kvs) from Zfp ok e
theorem Zc2(ok:HOk P w H h)(e:H a=some (.dK kvs)):kvs.length<=sizeLine/\(a==sysModules)=false/\∃vs,KV kvs vs/\h.DictOf (Zv P w) a vs:=JN ok (.inl e)
theorem xg{ks:List Key}(ok:HOk P w H h)(e:H a=some (.tup (ks.map kV))):(tupleKind (Zv P w)).is h ks a:=by
 obtain⟨_,its,r,o,h1,h2,n,h3⟩:=(show Yp P w H h a (.tup (ks.map kV)) from ok a _ e);exact⟨o,its.toArray,n,h1,h2,h3,by simpa using zV r⟩
theorem JX{kvs:List (List Key×V)}(ok:HOk P w H h)(e:Rd H a (.dT kvs)):kvs.length<=sizeLine/\(a==sysModules)=false /\
  ∃xs,KT H kvs xs/\h.DictOfH (tupleKind (Zv P w)) a xs:=by
 obtain⟨z,y,xs,r,o,es,ep,h1,h2,h3,h4,h5⟩:=(show Yp P w H h a (.dT kvs) from Zfp ok e);refine⟨z,y,xs,r,o,es,ep,h1,h2,h3,h4,fun x hx=>?_,h5⟩;have all:∀{l:List (List Key×V)}{m:List (List Key×Addr×Value)},KT H l m->∀x∈m,(tupleKind (Zv P w)).is h x.1 x.2.1:=by
  intro l m q
  induction q with
  |nil=>intro x hx;exact nomatch hx
  |@cons p q ps qs hq t ih=>
   intro x hx;rcases eU.mp hx with e|hx
   ·subst e;exact xg ok (by rw[<- hq.1];exact hq.2.1)
   ·exact ih x hx
 exact all r x hx
theorem Zfo{kvs:List (List Key×V)}(ok:HOk P w H h)(e:H a=some (.dT kvs)):kvs.length<=sizeLine/\(a==sysModules)=false /\
  ∃xs,KT H kvs xs/\h.DictOfH (tupleKind (Zv P w)) a xs:=JX ok (.inl e)
def zi(H:Hp)(a:Addr)(y:V)(r:Option V):Prop:=
 (∃kvs k,Rd H a (.dK kvs)/\y=kV k/\r=Yx kvs k)\/∃kvs k b,Rd H a (.dT kvs)/\y=.ref b/\H b=some (.tup (k.map kV))/\r=Yx kvs k
def yC(H:Hp)(a:Addr)(y v:V)(H':Hp):Prop:=
 (∃kvs k,H a=some (.dK kvs)/\y=kV k/\kvs.length<sizeLine/\H'=upd H a (.dK (Xr kvs k v))) \/
 ∃kvs k b,H a=some (.dT kvs)/\y=.ref b/\H b=some (.tup (k.map kV))/\kvs.length<sizeLine/\H'=upd H a (.dT (Xr kvs k v))
theorem zi.k{H:Hp}{a:Addr}{kvs:List (Key×V)}{k:Key}(e:H a=some (.dK kvs)):zi H a (kV k) (Yx kvs k):=.inl ⟨kvs,k,.inl e,rfl,rfl⟩
theorem yC.k{H:Hp}{a:Addr}{kvs:List (Key×V)}{k:Key}{v:V}(e:H a=some (.dK kvs))(hl:kvs.length<sizeLine):yC H a (kV k) v (upd H a (.dK (Xr kvs k v))):=.inl ⟨kvs,k,e,rfl,hl,rfl⟩
section
variable{r:Value}{o:Option V}
theorem Inv.big(I:49 H s):sysModules<s.heap.objs.size:=by
 have h:mainGlobals<s.heap.objs.size:=(I.mod.glob.keeps I.bk).lt;exact Nat.lt_trans 48 h
theorem Zbi(hu:A.units+1<cLine)(I:49 H s)(g:zi H a y (some v))(ry:ZL y u)(h:∀w' s',49 H s'->ZL v w'->Q w' s') :
  31 A (getItem (.ref a) u) Q E s:=by
 rcases g with⟨kvs,k,e,ey,l⟩|⟨kvs,k,b,e,ey,eb,l⟩
 ·subst ey;obtain⟨z,hd,vs,nI,dd⟩:=JN I.hok e;obtain⟨w',hw,pS⟩:=V6.some_of (v:=v) (o:=valueAt vs k) (by rw[l];exact nI.val k);exact wpAny_getItem_of (jB ry) dd.mapOf hw (h w' _ (I.tok _) pS)
 ·subst ey;cases (show u=Value.ref b from ry);obtain⟨z,hd,xs,nI,dd⟩:=JX I.hok e;obtain⟨w',hw,pS⟩:=V6.some_of (v:=v) (o:=(atKey xs k).map (·.2)) (by rw[l];exact nI.val k);obtain⟨p,hp,rP⟩:=gZ.mp hw;refine wpAny_getItem_heap (tupleKind_room_in1 hu) (xg I.hok eb) dd hp ?_;rw[rP];exact h w' _ (I.tok _) pS
theorem VC{ob:HO}(I:49 H s)(mu:Mut (H a))(hs:Heap.SameBut a s.heap h')(he:∃q,h'.get? a=some q)(rJ:Yp X.prog X.w (upd H a ob) h' a ob) :
  49 (upd H a ob) { s with heap:=h',toks:=t' }:=
 I.write (x:=a) (e:=a) mu (.inl rfl) (fun b q hb z=>(hs.2 b hb).trans z) he rJ
theorem Qq{vs:List (Key×Value)}(z:kvs.length<=sizeLine)(hd:(a==sysModules)=false)(nI:KV kvs vs)(dd:h'.DictOf (Zv P w) a vs) :
  Yp P w H' h' a (.dK kvs):=⟨z,hd,vs,nI,dd⟩
theorem Za1{Q:Unit->70}(hu:A.units+1<cLine)(I:49 H s)(g:yC H a y v H')(ry:ZL y u)(rv:ZL v r)(h:∀s',49 H' s'->Q () s') :
  31 A (setItem (.ref a) u r) Q E s:=by
 rcases g with⟨kvs,k,e,ey,l,eH⟩|⟨kvs,k,b,e,ey,eb,l,eH⟩
 ·subst ey eH;obtain⟨z,hd,vs,nI,dd⟩:=Zc2 I.hok e;have hz:vs.length<=sizeLine:=by rw[<- nI.length];exact z
  have hl:(Xr kvs k v).length<=sizeLine:=by have:=Xp kvs k v;lia
  refine wpAny_setItem_pairs (hsz:=hz) (jB ry) dd fun h' pU hs=>h _ ?_;have he:∃q,h'.get? a=some q:=let ⟨q,_,_,hq,_⟩:=pU; ⟨q,hq⟩
  exact VC I (by rw[e];exact True.intro) hs he (Qq hl hd (nI.put k rv) pU)
 ·subst ey eH;cases (show u=Value.ref b from ry);obtain⟨z,hd,xs,nI,dd⟩:=Zfo I.hok e;have hz:xs.length<=sizeLine:=by rw[<- i4 nI];exact z
  have hl:(Xr kvs k v).length<=sizeLine:=by have:=Xp kvs k v;lia
  refine wpAny_setItem_heap (hsz:=hz) (tupleKind_room_in1 hu) (xg I.hok eb) dd fun h' pU hs=>h _ ?_;obtain⟨q,es,ep,hq,h2,h3,h4,_,h5⟩:=pU;refine VC I (by rw[e];exact True.intro) hs ⟨q,hq⟩ ⟨hl,hd,_,(nI.put k eb rv).keeps fun c ys ec=>?_,q,es,ep,hq,h2,h3,h4,h5⟩;rw[Zo (VD ec e (fun z=>nomatch z))];exact ec
end
section
variable{k:Key}
end
def Zf8(i:Expr):Prop:=∀ov iv,subscripted i false ov iv=operate [ov,iv] (getItem ov iv)
theorem Zaz{nz nO:Expr}{id:String}
  (hl:typeLookup (.type T) "__getitem__" = pure (some (.builtin id))) (hs:Zf8 nO)
  (h:65 (eval nz env) (fun o s₁=>65 (eval nO env) (fun i s₂=>s₂.TypeIs o T/\65 (getItem o i) Q E s₂) E s₁) E s) :
  65 (eval (.Subscript nz nO gT) env) Q E s:=by
 refine Subscript_ (iu h (fun o s₁ h₁=>iu h₁ (fun i s₂ h₂=>?_) fun _ _ x=>x) fun _ _ x=>x);obtain⟨hT,h₂⟩:=h₂;unfold subscriptTail;refine dZ ?_;rw[getitemInPython_of_ne hT.not_modules];refine dZ (iU hT hl ?_);have nE:65 (subscripted nO false o i) (fun r s₃=>65 (letTemporaryGo nz o r >>= fun _=>pure r) Q E s₃) E s₂:=by
  rw[hs o i];exact wpAny_operating (iu h₂ (fun r s₃ h₃=>dZ (wpAny_letTemporaryGo (eh h₃))) fun _ _ x=>x)
 first
  |exact eh (dZ nE)
  |exact dZ (eh (dZ nE))
  |exact dZ nE
theorem Js{o:Option V}(I:49 H s)(g:zi H a y o):s.TypeIs (.ref a) "dict" := by
 rcases g with⟨kvs,k,e,_,_⟩|⟨kvs,k,b,e,_,_,_⟩
 ·obtain⟨_,_,vs,_,dd⟩:=JN I.hok e;exact dd.typeIs
 ·obtain⟨_,_,xs,_,dd⟩:=JX I.hok e;exact dd.typeIs
def Zhx(td ty:TE):TE:=fun σ H Q=>td σ H fun x H1=>ty σ H1 fun y H2=>∃a v,x=.ref a/\zi H2 a y (some v)/\Q v H2
def Zfv(td ty tv:TE):TS:=fun D σ H=>tv σ H fun v H1=>td σ H1 fun x H2=>ty σ H2 fun y H3=>∃a H4,x=.ref a/\yC H3 a y v H4/\D.nx σ H4
section
variable{o i nz:Expr}{BK:Pos}{td ty:TE}
theorem Ul(hu:X.A.units+1<cLine)(ho:PE X o td)(hi:PE X i ty)(hs:Zf8 i):PE X (.Subscript o i gT) (Zhx td ty):=by
 intro cQ s σ H Q I h;refine Zaz PySem.F.slot_dict_getitem.lookup hs (thn (ho cQ s σ H _ I h) fun u s1 ⟨x,H1,I1,rx,q1⟩=>thn (hi cQ s1 σ H1 _ I1 q1) fun iv s2 ⟨y,H2,I2,ry,a,v,ex,g,q2⟩=>?_);subst ex;obtain rfl:u=Value.ref a:=rx;exact⟨Js I2 g,Zbi hu I2 g ry fun w' s3 I3 pS=>⟨v,H2,I3,pS,q2⟩⟩
theorem zM(hu:X.A.units+1<cLine)(ho:PE X o td)(hi:PE X i ty)(hv:PE X nz tv)(hs:swapsWith nz (some (.Subscript o i nU)) gT.line X.env=pure false) :
  PS X (.Assign [.Subscript o i nU] nz gT) (Zfv td ty tv):=by
 intro cQ s σ H D I h;refine wpAny_Assign_Subscript (thn (hv cQ s σ H _ I h) fun r s1 ⟨v,H1,I1,rv,q1⟩=>thn (ho cQ s1 σ H1 _ I1 q1) fun u s2 ⟨x,H2,I2,rx,q2⟩=>thn (hi cQ s2 σ H2 _ I2 q2) fun iv s3 ⟨y,H3,I3,ry,a,H4,ex,g,q3⟩=>?_) hs;subst ex;obtain rfl:u=Value.ref a:=rx;exact Za1 hu I3 g ry rv fun s4 I4=>⟨σ,H4,I4,q3⟩
end
theorem UP(h:Heap)(hb:sysModules<h.objs.size):Yp P w H (h.push { cls:=.type "dict",data:=.dict #[] }) h.objs.size (.dK []):=
 ⟨fu _,iq.mpr (eX (eQ hb)),[],.nil,Heap.DictOf.new h⟩
theorem ZbU(h:Heap)(hb:sysModules<h.objs.size):Yp P w H (h.push { cls:=.type "dict",data:=.dict #[] }) h.objs.size (.dT []):=
 ⟨fu _,iq.mpr (eX (eQ hb)),[],.nil,_,#[],0,fg _ rfl,⟨rfl,rfl,rfl⟩,rfl,rfl,List.nodup_nil⟩
def tDNewK:TE:=fun _ H Q=>∀p,H p=none->Q (.ref p) (upd H p (.dK []))
theorem pe_dnewK:PE X (.Dict [] [] gT) tDNewK:=fun cQ s σ H Q I h=>
 wpAny_Dict_empty ⟨.ref s.heap.objs.size,_,I.laid (a:=s.heap.objs.size) (o:=.dK []) (t':=s.toks) (fun _ _ q=>eN _ q) (eE _) (UP s.heap I.big),rfl,h _ (I.hok.fresh (eE _))⟩
def KQ:List (TE×TE)->St->Hp->(List (V×V)->Hp->Prop)->Prop
 |[],_,H,Q=>Q [] H
 | (tk,tv)::r,σ,H,Q=>tk σ H fun x H1=>tv σ H1 fun y H2=>KQ r σ H2 fun ps H3=>Q ((x,y)::ps) H3
abbrev VV:List (V×V)->List (Value×Value)->Prop:=Paired fun p q=>ZL p.1 q.1/\ZL p.2 q.2
def PPs(X:Cx)(gT:Pos)(keys:List (Option Expr))(oM:List Expr)(uy:List (TE×TE)):Prop:=
 ∀(cQ:74) (s:Shared) (σ:St) (H:Hp) (Q:List (V×V)->Hp->Prop),49 H s->KQ uy σ H Q ->
  31 X.A (evalPairs (pairTrees keys oM X.env gT)) (fun vs s'=>∃ps H',49 H' s'/\VV ps vs/\Q ps H') X.xe s
theorem Zea:PPs X gT [] [] []:=fun cQ s σ H Q I h=>pairTrees_nil_walk ⟨[],H,I,.nil,h⟩
theorem zd{k v:Expr}{ks:List (Option Expr)}{vs:List Expr}{tk:TE}(hk:PE X k tk)(hv:PE X v tv)(hr:PPs X gT ks vs uy) :
  PPs X gT (some k::ks) (v::vs) ((tk,tv)::uy):=fun cQ s σ H Q I h=>
 pairTrees_cons_walk (thn (hk cQ s σ H _ I h) fun u s1 ⟨x,H1,I1,rx,q1⟩=>thn (hv cQ s1 σ H1 _ I1 q1) fun w2 s2 ⟨y,H2,I2,ry,q2⟩=> thn (hr cQ s2 σ H2 _ I2 q2) fun ws s3 ⟨ps,H3,I3,nI,q3⟩=>⟨(x,y)::ps,H3,I3,.cons ⟨rx,ry⟩ nI,q3⟩)
def qH(kvs more:List (Key×V)):List (Key×V):=more.foldl (fun acc kv=>Xr acc kv.1 kv.2) kvs
theorem KV.merge:∀{more:List (Key×V)}{rs:List (Key×Value)}{kvs:List (Key×V)}{vs:List (Key×Value)},KV more rs->KV kvs vs->KV (qH kvs more) (merged vs rs):=by
 intro more rs kvs vs r;unfold KV at r
 induction r generalizing kvs vs with
 |nil=>intro q;exact q
 |@cons p q ps qs h t ih=>
  intro r0;have e:KV (Xr kvs p.1 p.2) (stored vs q.1 q.2):=by
   have:=r0.put p.1 h.2;rw[<- h.1];exact this
  exact ih e
theorem qu:∀(more kvs:List (Key×V)),(qH kvs more).length<=kvs.length+more.length
 |[],kvs=>by show kvs.length<=kvs.length+0;lia
 |p::r,kvs=>by
  have h1:=qu r (Xr kvs p.1 p.2);have h2:=Xp kvs p.1 p.2
  show(qH (Xr kvs p.1 p.2) r).length<=_
  rw[fG];lia
theorem xf{P:Program}{w:World}:∀{kvs:List (Key×V)}{ws:List (Value×Value)},VV (kvs.map fun kv=>(kV kv.1,kv.2)) ws->∃rs,Carries (Zv P w) ws rs/\KV kvs rs
 |[],_,r=>by rw[fq] at r;cases r;exact⟨[],True.intro,.nil⟩
 |p::kvs,_,r=>by
  rw[eM] at r;cases r with
  |@cons a b as bs h t=>
   obtain⟨rs,c,q⟩:=xf (P:=P) (w:=w) t;obtain⟨b1,b2⟩:=b;exact⟨(p.1,b2)::rs,⟨jB h.1,rfl,c⟩,.cons ⟨rfl,h.2⟩ q⟩
def Zg9(uy:List (TE×TE)):TE:=fun σ H Q=>∀p,H p=none->KQ uy σ (upd H p (.dK [])) fun ps H2=>H2 p=some (.dK [])/\∃kvs:List (Key×V),ps=kvs.map (fun kv=>(kV kv.1,kv.2))/\kvs.length<=15/\Q (.ref p) (upd H2 p (.dK (qH [] kvs)))
theorem Zd2{keys:List (Option Expr)}(h:PPs X gT keys oM uy)(nJ:keys.all (·.isSome)=true)(hl:keys.length=oM.length)(h0:keys≠[])
  (Oo:keys.length<=15):PE X (.Dict keys oM gT) (Zg9 uy):=by
 intro cQ s σ H Q I q;have hn:=I.hok.fresh (eE s.heap.objs.size);have I1:=I.laid (a:=s.heap.objs.size) (o:=.dK []) (h':=s.heap.push { cls:=.type "dict",data:=.dict #[] }) (t':=s.toks) (fun _ _ q=>eN _ q) (eE _) (UP s.heap I.big);refine wpAny_Dict_walk (knd:=Zv X.prog X.w) nJ hl h0 Oo (thn (h cQ _ σ _ _ I1 (q _ hn)) fun ws s2 ⟨ps,H2,I2,nI,e,kvs,ep,lk,q2⟩=>?_);subst ep;obtain⟨rs,c,rk⟩:=xf (P:=X.prog) (w:=X.w) nI;obtain⟨z,hd,vs0,r0,dd⟩:=Zc2 I2.hok e;cases r0;refine⟨rs,c,dd,fun h' pU hs=>⟨.ref s.heap.objs.size,_,?_,rfl,q2⟩⟩;have hz:(qH [] kvs).length<=sizeLine:=by
  have h1:=qu kvs [];rw[List.length_nil] at h1;rw[eJ];lia
 have he:∃q,h'.get? s.heap.objs.size=some q:=let ⟨q,_,_,hq,_⟩:=pU; ⟨q,hq⟩
 exact VC I2 (by rw[e];exact True.intro) hs he (Qq hz hd (rk.merge .nil) pU)
structure M1(X:Cx)(o:Expr)(m:Str)(apos:Pos)(e:Expr)(cpos:Pos):Prop where
 base:attributeBase o m X.env (eval o X.env)=eval o X.env
 few:((backTo cpos (starEach [e] X.env)).all (fun x=>!x.1)&&(backToKw cpos (keywordEach [] X.env)).all (fun x=>x.1.isSome) && decide (([e]:List Expr).length+([]:List Keyword).length+(if([]:List Keyword).isEmpty then 0 else 1)<30))=true
 line:(apos.endLine==cpos.line)=true
 trees:backTo cpos (starEach [e] X.env)=[(false,eval e X.env)]
def IsD(H:Hp)(a:Addr):Prop:=(∃kvs,Rd H a (.dK kvs))\/∃kvs,Rd H a (.dT kvs)
theorem ZfJ(I:49 H s)(d:IsD H a) :
  s.TypeIs (.ref a) "dict" /\ (∀b,Value.ref a=.ref b->∃ob,s.heap.get? b=some ob/\ob.dict=none)/\(a==sysModules)=false:=by
 rcases d with⟨kvs,e⟩|⟨kvs,e⟩
 ·obtain⟨_,hd,vs,_,dd⟩:=JN I.hok e;refine⟨dd.typeIs,fun b q=>?_,hd⟩;cases q;obtain⟨ob,_,_,h1,h2,_⟩:=dd;exact⟨ob,h1,h2.2.1⟩
 ·obtain⟨_,hd,xs,_,dd⟩:=JX I.hok e;refine⟨dd.typeIs,fun b q=>?_,hd⟩;cases q;obtain⟨ob,_,_,h1,h2,_⟩:=dd;exact⟨ob,h1,h2.2.1⟩
section
variable{d:V}{r:Value}{o:Option V}
theorem Zgy(hu:A.units+1<cLine)(I:49 H s)(g:zi H a y o)(ry:ZL y u)(h:∀w' s',49 H s'->ZL (o.getD .non) w'->Q w' s') :
  31 A (call (.builtin "dict.get") [.ref a,u]) Q E s:=by
 rcases g with⟨kvs,k,e,ey,l⟩|⟨kvs,k,b,e,ey,eb,l⟩
 ·subst ey;obtain⟨z,hd,vs,nI,dd⟩:=JN I.hok e;refine call_meetsIn mU dd.typeIs PySem.F.entry_dict_get (PySem.F.args_dict_get_2 _ _) (meets_dict_get (Zv X.prog X.w) a (jB ry) hd) ⟨_,dd.mapOf,h _ _ (I.tok _) ?_⟩;rw[l];exact(nI.val k).getD rfl
 ·subst ey;cases (show u=Value.ref b from ry);obtain⟨z,hd,xs,nI,dd⟩:=JX I.hok e;refine call_meetsIn mU dd.typeIs PySem.F.entry_dict_get (PySem.F.args_dict_get_2 _ _) (meetsH_dict_get (tupleKind (Zv X.prog X.w)) a b hd) ⟨tupleKind_room_in1 hu,k,xs,xg I.hok eb,dd,h _ _ (I.tok _) ?_⟩;rw[l];exact(nI.val k).getD rfl
end
def Zf2(td ty:TE):TE:=fun σ H Q=>td σ H fun x H1=>∃a,x=.ref a/\IsD H1 a/\ty σ H1 fun y H2=>∃o,zi H2 a y o/\Q (o.getD .non) H2
section
variable{o f:Expr}{apos cpos:Pos}{td ty tx:TE}
theorem ZcT(hu:X.A.units+1<cLine)(ho:PE X o td)(he:PE X e ty)(m:M1 X o "get" apos e cpos):PE X (.Call (.Attribute o "get" apos) [e] [] cpos) (Zf2 td ty):=by
 intro cQ s σ H Q I h;refine wpAny_Call_method m.base m.few m.line PySem.F.plainAttrs_dict mU PySem.F.type_dict_get (thn (ho cQ s σ H _ I h) fun u s1 ⟨x,H1,I1,rx,a,ex,d,q1⟩=>?_);subst ex;obtain rfl:u=Value.ref a:=rx;obtain⟨t1,t2,_⟩:=ZfJ I1 d;refine⟨t1,t2,?_⟩;rw[m.trees];refine Calls.callWith_builtin rfl (Calls.evalArgs_plain (Calls.spliced_cons (thn (he cQ s1 σ H1 _ I1 q1) fun iv s2 ⟨y,H2,I2,ry,ov,g,q2⟩=>Calls.spliced_nil ?_)));exact Zgy hu I2 g ry fun w' s3 I3 pS=>⟨_,H2,I3,pS,q2⟩
end
end L2
namespace Att
open PySem PySem.W PySem.Calls PyProof.Rows
section
variable{K:Frag}
end
end Att
namespace L2
open PySem PySem.Spec PyProof.Rows
section
variable[DecidableEq κ]
theorem Zd7{kvs:List (κ×V)}{k:κ}(h:Yx kvs k=some v):k∈kvs.map (·.1):=by
 have q:(kvs.any fun kv=>decide (kv.1=k))=true:=by
  rw[V7,h]
  all_goals rfl
 obtain⟨p,hp,e⟩:=lH.mp q;exact eV.mpr ⟨p,hp,fA e⟩
end
end L2
namespace L3
open PySem PySem.Spec PyProof.Rows L2
def Zhl:List V->Hp->VK->Prop:=fun xs H Q=>xs=[]/\∀a,H a=none->Q (.ref a) (upd H a (.set (fun _=>false) 0))
theorem ZaT:Yt X (.type "set") Zhl:=by
 intro cQ s σ H xs us Q I r h;obtain⟨rfl,q⟩:=h;have hu:us=[]:=by cases r;rfl
 subst hu;refine call_set_0 fun oR=>⟨.ref s.heap.objs.size,_,I.laid (t':=s.toks) (o:=.set (fun _=>false) 0) (fun b ob q=>eN _ q) (eE _) ?_,rfl,q _ (I.hok.fresh (eE _))⟩;exact(setObjOf_fresh (knd:=intKind X.prog X.w) oR).setOf (fg _ rfl) 48
def Zet:V->List V->Hp->VK->Prop:=fun x vs H Q=>∃a S n k,x=.ref a/\vs=[.int k]/\H a=some (.set S n)/\n+1<4096/\Q .non (upd H a (.set (fun j=>S j||decide (j=k)) (if S k then n else n+1)))
theorem ZaN:MtM X "set.add" Zet:=by
 intro cQ s σ H x vs v us Q I rx rv h;obtain⟨a,S,n,k,rfl,rfl,ha,hn,q⟩:=h;cases rx;obtain⟨u,rfl,ru⟩:=rv.one;obtain⟨t,rfl⟩:=(show ∃t,u=Value.int k t from ru);have hS:s.heap.SetOf (intKind X.prog X.w) a S n:=I.hok a _ ha;refine call_set_add (knd:=intKind X.prog X.w) (k:=k) (by show Value.isInt k (.int k t)=true;simp[Value.isInt]) rfl hS hn fun h' sb rT=>⟨.non,_,VC (ob:=.set (fun j=>S j||decide (j=k)) (if S k then n else n+1)) I (by rw[ha];exact True.intro) sb ?_ rT,rfl,q⟩;obtain⟨o,_,_,_,e,_⟩:=rT;exact⟨o,e⟩
def rInS(neg:Bool):R2:=fun x y H Q=>∃k a S n,x=.int k/\y=.ref a/\H a=some (.set S n)/\Q (.bl (if neg then !S k else S k)) H
theorem Zbs:OpR X (compareOp .NotIn) (rInS true):=by
 intro cQ s σ H x y v u Q I rx ry h;obtain⟨k,a,S,n,rfl,rfl,ha,q⟩:=h;obtain⟨t,rfl⟩:=(show ∃t,v=Value.int k t from rx);obtain rfl:u=Value.ref a:=ry;have hS:s.heap.SetOf (intKind X.prog X.w) a S n:=I.hok a _ ha;exact wpAny_notInSet_of (knd:=intKind X.prog X.w) (k:=k) (by show Value.isInt k (.int k t)=true;simp[Value.isInt]) rfl hS ⟨.bl _,H,I.tok _,rfl,q⟩
section
open Classical
noncomputable def UF(A:67)(t:Tr):67:=if t∈A then A else A++[t]
noncomputable def Zp(A L:67):67:=L.foldl UF A
theorem vy(A:67):Zp A []=A:=rfl
theorem Ws(A:67)(x:Tr)(L:67):Zp A (x::L)=Zp (UF A x) L:=rfl
theorem YX(A L M:67):Zp A (L++M)=Zp (Zp A L) M:=List.foldl_append
theorem yO{A:67}{t:Tr}(h:t∈A):UF A t=A:=nt h
theorem zg{A:67}{t:Tr}(h:t∉A):UF A t=A++[t]:=nn h
theorem xY{A:67}{t x:Tr}:x∈UF A t↔x∈A\/x=t:=by
 unfold UF
 split
 ·rename_i h
  exact⟨.inl,fun z=>z.elim id fun e=>by rw[e];exact h⟩
 ·simp
theorem Yi:∀{L A:67}{x:Tr},x∈Zp A L↔x∈A\/x∈L
 |[],A,x=>by simp[vy]
 |t::r,A,x=>by rw[Ws,Yi,xY,eU,or_assoc]
theorem ve{A:67}{t:Tr}(h:A.Nodup):(UF A t).Nodup:=by
 unfold UF
 split
 ·exact h
 ·rename_i n
  rw[lc];exact⟨h,by simp,fun a ha b hb e=>n (by rw[eZ.mp hb] at e;rw[<- e];exact ha)⟩
theorem WO:∀{L A:67},A.Nodup->(Zp A L).Nodup
 |[],_,h=>h
 |t::r,A,h=>by rw[Ws];exact WO (ve h)
theorem W4:∀{L A:67},(∀x∈L,x∈A)->Zp A L=A
 |[],_,_=>rfl
 |t::r,A,h=>by
  rw[Ws,yO (h t 47)];exact W4 fun x hx=>h x (eT _ hx)
theorem Ku(A:67)(t:Tr):∃B,UF A t=A++B:=by
 unfold UF
 split
 ·exact⟨[],by simp⟩
 ·exact⟨[t],rfl⟩
theorem Wf:∀(L A:67),∃B,Zp A L=A++B
 |[],A=>⟨[],by simp[vy]⟩
 |t::r,A=>by
  obtain⟨B,e⟩:=Ku A t;obtain⟨C,e2⟩:=Wf r (UF A t);exact⟨B++C,by rw[Ws,e2,e,gY]⟩
end
def YQ(t:Tr):67:=match t.lb with
 |.op w=>if w = "some" then[] else t.ks
 |_=>t.ks
mutual
def ZF:Tr->67
 |.node c ks=>(match c with|.op w=>if w = "some" then[] else Vh ks|_=>Vh ks)++[.node c ks]
def Vh:67->67
 |[]=>[]
 |t::r=>ZF t++Vh r
end
theorem XW:∀ks:67,Vh ks=(ks.map ZF).flatten
 |[]=>by rw[Vh];rfl
 |t::r=>by rw[Vh,XW r];rfl
theorem Wt(t:Tr):ZF t=(( YQ t).map ZF).flatten++[t]:=by
 cases t with
 |node c ks=>
  cases c with
  |op w=>
   have e:ZF (.node (.op w) ks)=(if w = "some" then[] else Vh ks)++[.node (.op w) ks]:=by rw[ZF]
   rw[e]
   show _=((if w = "some" then[] else ks).map ZF).flatten++_
   split
   ·rfl
   ·rw[XW]
  |yes=>rw[show ZF (.node .yes ks)=Vh ks++[.node .yes ks] from(by rw[ZF];intro w z;cases z),XW];rfl
  |sign z=>rw[show ZF (.node (.sign z) ks)=Vh ks++[.node (.sign z) ks] from(by rw[ZF];intro w z;cases z),XW];rfl
  |wit m=>rw[show ZF (.node (.wit m) ks)=Vh ks++[.node (.wit m) ks] from(by rw[ZF];intro w z;cases z),XW];rfl
  |many w=>rw[show ZF (.node (.many w) ks)=Vh ks++[.node (.many w) ks] from(by rw[ZF];intro w z;cases z),XW];rfl
theorem Xi{t k:Tr}(h:k∈YQ t):k∈t.ks:=by
 unfold YQ at h
 split at h
 ·split at h
  ·cases h
  ·exact h
 ·exact h
theorem XN{t k:Tr}(h:k∈t.ks):psz k<psz t:=by
 rw[Qa t];have:∀(l:List Nat) (n:Nat),n∈l->n<=l.sum:=by
  intro l
  induction l with
  |nil=>intro n h;cases h
  |cons a r ih=>
   intro n h;rw[gI];rcases eU.mp h with rfl|h
   ·lia
   ·have:=ih n h;lia
 have:=this _ _ (iW (f:=psz) h);lia
theorem xI(t:Tr):t∈ZF t:=by rw[Wt];simp
theorem UX{t x:Tr}(h:x∈ZF t):x=t\/∃k∈YQ t,x∈ZF k:=by
 rw[Wt,fj] at h;rcases h with h|h
 ·obtain⟨l,hl,hx⟩:=iD.mp h;obtain⟨k,hk,rfl⟩:=eV.mp hl;exact .inr ⟨k,hk,hx⟩
 ·exact .inl (eZ.mp h)
theorem ZaH{t k x:Tr}(h:k∈YQ t)(hx:x∈ZF k):x∈ZF t:=by
 rw[Wt,fj];exact .inl (iD.mpr ⟨_,iW h,hx⟩)
theorem jr:∀(n:Nat) {t x:Tr},psz t<=n->x∈ZF t->psz x<=psz t
 |0,t,x,h,_=>by have:=WL t;lia
 |n+1,t,x,h,hx=>by
  rcases UX hx with rfl|⟨k,hk,uD⟩
  ·exact eE _
  ·have h1:=XN (Xi hk);have h2:=jr n 21 uD;lia
theorem yo:∀(n:Nat) {t x y:Tr},psz t<=n->x∈ZF t->y∈ZF x->y∈ZF t
 |0,t,x,y,h,_,_=>by have:=WL t;lia
 |n+1,t,x,y,h,hx,hy=>by
  rcases UX hx with rfl|⟨k,hk,uD⟩
  ·exact hy
  ·have h1:=XN (Xi hk);exact ZaH hk (yo n 21 uD hy)
noncomputable def xv:67->67->67
 |[],F=>F
 |t::w,F=>xv w (Zp F (ZF t))
def U1(F:67):Prop:=∀x∈F,∀y∈ZF x,y∈F
theorem Qw:U1 []:=fun x h=>by cases h
theorem Ze8{F:67}{t:Tr}(hc:U1 F)(hk:∀k∈YQ t,k∈F)(ht:t∉F):Zp F (ZF t)=F++[t]/\U1 (F++[t]):=by
 have hs:∀x∈((YQ t).map ZF).flatten,x∈F:=fun x hx=>by
  obtain⟨l,hl,wH⟩:=iD.mp hx;obtain⟨k,uE,rfl⟩:=eV.mp hl;exact hc k (hk k uE) x wH
 refine⟨?_,fun x hx y hy=>?_⟩
 ·rw[Wt,YX,W4 hs];exact zg ht
 ·rcases fj.mp hx with hx|hx
  ·exact fT _ (hc x hx y hy)
  ·rw[eZ.mp hx,Wt,fj] at hy;rcases hy with hy|hy
   ·exact fT _ (hs y hy)
   ·exact fC _ hy
theorem ZdR{F:67}{t k:Tr}{a b:67}(hc:U1 F)(hb:YQ t=a++k::b)(ha:∀x∈a,x∈F):Zp (Zp F (ZF k)) (ZF t)=Zp F (ZF t)/\U1 (Zp F (ZF k)):=by
 have hs:∀x∈(a.map ZF).flatten,x∈F:=fun x hx=>by
  obtain⟨l,hl,wH⟩:=iD.mp hx;obtain⟨j,hj,rfl⟩:=eV.mp hl;exact hc j (ha j hj) x wH
 have e:ZF t=(a.map ZF).flatten++(ZF k++((b.map ZF).flatten++[t])):=by
  rw[Wt,hb,fo,ξ,eM,List.flatten_cons];simp
 refine⟨?_,fun x hx y hy=>?_⟩
 ·rw[e,YX,YX (Zp (Zp F (ZF k)) _),YX F,YX (Zp F (a.map ZF).flatten)];rw[W4 hs,W4 (A:=Zp F (ZF k)) fun x hx=>Yi.mpr (.inl (hs x hx)),W4 (A:=Zp F (ZF k)) fun x hx=>Yi.mpr (.inr hx)]
 ·rcases Yi.mp hx with hx|hx
  ·exact Yi.mpr (.inl (hc x hx y hy))
  ·exact Yi.mpr (.inr (yo _ (eE _) hx hy))
theorem xR:∀(w F:67),∃B,xv w F=F++B
 |[],F=>⟨[],by simp[xv]⟩
 |t::w,F=>by
  obtain⟨B,e⟩:=Wf (ZF t) F;obtain⟨C,e2⟩:=xR w (Zp F (ZF t));exact⟨B++C,by rw[xv,e2,e,gY]⟩
def yj:67->Prop
 |[]=>True
 |[_]=>True
 |t::s::r=>t∈YQ s/\yj (s::r)
theorem jb:∀{t:Tr}{w:67},yj (t::w)->∀s∈w,psz t<psz s
 |t,[],_,s,h=>by cases h
 |t,a::r,⟨h1,h2⟩,s,h=>by
  have h3:=XN (Xi h1);rcases eU.mp h with rfl|h
  ·exact h3
  ·have:=jb h2 s h;lia
theorem ji:∀{w:67}{m:Nat},yj w->(∀s∈w,psz s<=m)->w.length<=m
 |[],_,_,_=>by simp
 |[t],m,_,h=>by have:=h t 47;have:=WL t;simp;lia
 |t::s::r,m,⟨h1,h2⟩,h=>by
  have h3:=XN (Xi h1);have:∀{w:67}{t:Tr},yj (t::w)->∀m,(∀s∈(t::w),psz s<=m)->w.length+psz t<=m:=by
   intro w
   induction w with
   |nil=>intro t _ m hm;have:=hm t 47;simp;lia
   |cons a r ih=>
    intro t hc m hm;have h4:=XN (Xi hc.1);have:=ih hc.2 m fun s hs=>hm s (eT _ hs);rw[fG];lia
  have:=this (w:=s::r) (t:=t) ⟨h1,h2⟩ m h;have:=WL t;simp at *;lia
def nK(is:List Nat):List Key:=is.map fun(i:Nat)=>(ι ((i:Nat):Int):Key)
def Xm:Lb->List Nat->List Key
 |.yes,_=>[.inr "yes"]
 |.sign z,_=>[.inr "sign",.inr z]
 |.wit m,is=>.inr "within" :: .inl m::nK is
 |.op w,is=>.inr w::nK is
 |.many w,is=>.inr w::nK is
def Zfk(ps:67)(t:Tr)(ks:List Key):Prop:=∃is:List Nat,is.length=t.ks.length/\(∀(j:Nat) k i,t.ks[j]?=some k->is[j]?=some i->ps[i]?=some k)/\ks=Xm t.lb is
theorem Je:∀{a b:List Nat},nK a=nK b->a=b
 |[],[],_=>rfl
 |[],y::b,h=>by simp[nK] at h
 |x::a,[],h=>by simp[nK] at h
 |x::a,y::b,h=>by
  have h1:(ι (x:Int):Key)=ι (y:Int):=(gX h).1;have h2:nK a=nK b:=(gX h).2;have e:(x:Int)=y:=iK h1;rw[Je h2,show x=y by lia]
theorem VE:∀w∈W1++W2,w ≠ "yes" /\ w ≠ "sign" /\ w ≠ "within" /\ w ≠ "and" /\ w ≠ "or" := by left
theorem zK{w:Str}(h:YO (.op w) n):w∈W1++W2:=by
 rcases h with⟨h,_⟩|⟨h,_⟩
 ·exact fT _ h
 ·exact fC _ h
theorem xK:∃r,Xm c is=.inr (ZP c)::r:=by
 cases c<;>exact⟨_,rfl⟩
theorem ZeP{c':Lb}(h1:YO c is.length)(h2:YO c' rS.length)(h:Xm c is=Xm c' rS):c=c'/\is=rS:=by
 obtain⟨r,e⟩:=xK (c:=c) (is:=is);obtain⟨r',e'⟩:=xK (c:=c') (is:=rS);have hw:ZP c=ZP c':=by
  rw[e,e'] at h;exact ir (gX h).1
 clear e e' r r';have ny:¬(("sign" : Str) = "yes")/\¬(("within" : Str) = "yes")/\¬(("within" : Str) = "sign")/\¬(("and" : Str) = "yes")/\¬(("or" : Str) = "yes")/\¬(("and" : Str) = "sign")/\¬(("or" : Str) = "sign")/\¬(("and" : Str) = "within")/\¬(("or" : Str) = "within"):=by left
 obtain⟨n1,n2,n3,n4,n5,n6,n7,n8,n9⟩:=ny;have z0:∀{l:List Nat},l.length=0->l=[]:=fun h=>g6.mp h;cases c with
 |yes=>
  cases c' with
  |yes=>exact⟨rfl,(z0 h1).trans (z0 h2).symm⟩
  |sign z=>exact nu hw.symm n1
  |wit m=>exact nu hw.symm n2
  |op w=>exact nu hw.symm (VE w (zK h2)).1
  |many w=>rcases h2.1 with rfl|rfl;exact nu hw.symm n4;exact nu hw.symm n5
 |sign z=>
  cases c' with
  |yes=>exact nu hw n1
  |sign z'=>
   have e:z=z':=ir (gX (gX h).2).1;exact⟨by rw[e],(z0 h1.1).trans (z0 h2.1).symm⟩
  |wit m=>exact nu hw.symm n3
  |op w=>exact nu hw.symm (VE w (zK h2)).2.1
  |many w=>rcases h2.1 with rfl|rfl;exact nu hw.symm n6;exact nu hw.symm n7
 |wit m=>
  cases c' with
  |yes=>exact nu hw n2
  |sign z=>exact nu hw n3
  |wit m'=>
   have e:=(gX (gX h).2);exact⟨by rw[iK e.1],Je e.2⟩
  |op w=>exact nu hw.symm (VE w (zK h2)).2.2.1
  |many w=>rcases h2.1 with rfl|rfl;exact nu hw.symm n8;exact nu hw.symm n9
 |op w=>
  have wa:=VE w (zK h1);cases c' with
  |yes=>exact nu hw wa.1
  |sign z=>exact nu hw wa.2.1
  |wit m=>exact nu hw wa.2.2.1
  |op w'=>exact⟨by rw[show w=w' from hw],Je (gX h).2⟩
  |many w'=>rcases h2.1 with rfl|rfl;exact nu hw wa.2.2.2.1;exact nu hw wa.2.2.2.2
 |many w=>
  cases c' with
  |yes=>rcases h1.1 with rfl|rfl;exact nu hw n4;exact nu hw n5
  |sign z=>rcases h1.1 with rfl|rfl;exact nu hw n6;exact nu hw n7
  |wit m=>rcases h1.1 with rfl|rfl;exact nu hw n8;exact nu hw n9
  |op w'=>rcases h1.1 with rfl|rfl;exact nu hw.symm (VE w' (zK h2)).2.2.2.1;exact nu hw.symm (VE w' (zK h2)).2.2.2.2
  |many w'=>exact⟨by rw[show w=w' from hw],Je (gX h).2⟩
theorem jp(nd:ps.Nodup){t:Tr}(h1:ps[i]?=some t)(h2:ps[j]?=some t):i=j:=by
 obtain⟨a,e1⟩:=eY.mp h1;obtain⟨b,e2⟩:=eY.mp h2;have pw:=iY.mp (ρ.mp nd);rcases Nat.lt_trichotomy i j with h|h|h
 ·exact nu (e1.trans e2.symm) (pw i j a b h)
 ·exact h
 ·exact nu (e2.trans e1.symm) (pw j i b a h)
def ZeU:Nat->List (List Key)->List (List Key×V)
 |_,[]=>[]
 |n,k::r=>(k,.int (n:Int))::ZeU (n+1) r
theorem Uy:∀{n:Nat}{l:List (List Key)}{k:List Key}{i:Nat},l.Nodup->l[i]?=some k->Yx (ZeU n l) k=some (.int ((n+i:Nat):Int))
 |n,[],k,i,_,h=>by simp at h
 |n,a::r,k,0,_,h=>by
  have e:a=k:=by simpa using h
  unfold Yx;rw[ZeU,Φ (by simpa using e)];rfl
 |n,a::r,k,i+1,nd,h=>by
  have hm:r[i]?=some k:=by simpa using h
  have ha:a≠k:=fun e=>(gF.mp nd).1 (by rw[e];exact fz hm);have ih:=Uy (n:=n+1) (l:=r) (k:=k) (gF.mp nd).2 hm;unfold Yx at ih ⊢;rw[ZeU,mV (by simpa using ha),show n+(i+1)=n+1+i by lia];exact ih
def Vt(P R D:Addr)(H H':Hp):Prop:=∀b o,b≠P->b≠R->b≠D->H b=some o->H' b=some o
theorem Vt.refl{P R:Addr}:Vt P R D H H:=fun b o _ _ _ e=>e
theorem Zf.b{P R D:Addr}{H H':Hp}(s:Zf H H'):Vt P R D H H':=fun b o _ _ _ e=>s _ _ e
theorem ZhK(v:V):Yu "parts" v []=([("parts",v)]:78):=by
 simp[Yu]
open Classical in
theorem yb:∀{l₁ l₂:67},l₁.Nodup->(∀x∈l₁,x∈l₂)->l₁.length<=l₂.length
 |[],_,_,_=>by simp
 |x::r,l₂,nd,h=>by
  obtain⟨h1,h2⟩:=gF.mp nd;have hx:=h x 47;have:=yb (l₂:=l₂.erase x) h2 fun y hy=>(List.mem_erase_of_ne (fun e=>h1 (by rw[<- e];exact hy))).mpr (h y (eT _ hy));rw[Θ hx] at this;have:=mW hx;rw[fG];lia
theorem Wk:∀{ks:67}{s:Tr},s∈Ya ks↔∃k∈ks,s∈post k
 |[],s=>by rw[Ya];simp
 |t::r,s=>by rw[Ya,fj,Wk];simp
def Cov(S:Tr->Prop)(x:Tr)(n:Nat):Prop:=∃N:67,N.length<=n/\∀y∈post x,y∈N\/S y
theorem Zcn{S:Tr->Prop}{x:Tr}(h:∀y∈post x,S y):Cov S x 0:=⟨[],eE _,fun y hy=>.inr (h y hy)⟩
theorem Cov.le{S:Tr->Prop}{x:Tr}{m:Nat}(h:Cov S x n)(hm:n<=m):Cov S x m:=let ⟨N,h1,h2⟩:=h; ⟨N,eW h1 hm,h2⟩
theorem WI{S:Tr->Prop}{a:Tr}(h:Cov S a n):Cov S (.node c [a]) (n+1):=by
 obtain⟨N,h1,h2⟩:=h;refine⟨.node c [a]::N,by simp;lia,fun y hy=>?_⟩;rw[post,fj,Wk] at hy;rcases hy with⟨k,hk,hy⟩|hy
 ·rw[eZ.mp hk] at hy;rcases h2 y hy with h|h
  ·exact .inl (eT _ h)
  ·exact .inr h
 ·rw[eZ.mp hy];exact .inl 47
theorem qX{S:Tr->Prop}{a b:Tr}{m:Nat}(h:Cov S a n)(g:Cov S b m):Cov S (.node c [a,b]) (n+m+1):=by
 obtain⟨N,h1,h2⟩:=h;obtain⟨M,g1,g2⟩:=g;refine⟨.node c [a,b]::(N++M),by simp;lia,fun y hy=>?_⟩;rw[post,fj,Wk] at hy;rcases hy with⟨k,hk,hy⟩|hy
 ·simp only[eU,gz,gA] at hk;rcases hk with rfl|rfl
  ·rcases h2 y hy with h|h
   ·exact .inl (eT _ (fT _ h))
   ·exact .inr h
  ·rcases g2 y hy with h|h
   ·exact .inl (eT _ (fC _ h))
   ·exact .inr h
 ·rw[eZ.mp hy];exact .inl 47
theorem ZbR(ok:YO c cs.length)(hc:∀z,c≠.sign z):Cov (fun y=>y=ZR\/∃k∈cs,y∈post k) (Yr c cs) 36:=by
 generalize hS:(fun y=>y=ZR\/∃k∈cs,y∈post k)=S;have y0:Cov S ZR 0:=Zcn fun y hy=>by
  rw[post,Ya,ik] at hy;rw[<- hS];exact .inl (eZ.mp hy)
 have k0:∀k∈cs,Cov S k 0:=fun k hk=>Zcn fun y hy=>by rw[<- hS];exact .inr ⟨k,hk,hy⟩
 have g:∀i,Cov S (cs.getD i ZR) 0:=fun i=>X5 (P:=fun k=>Cov S k 0) k0 y0;have ha:∀ds:67,(∀k∈ds,Cov S k 0)->Cov S (Wa ds) ds.length:=by
  intro ds
  induction ds with
  |nil=>intro _;exact y0
  |cons x r ih=>
   intro h;cases r with
   |nil=>exact(h x 47).le (fu _)
   |cons z r=>
    have i2:=ih fun k hk=>h k (eT _ hk);exact(qX (h x 47) i2).le 47
 have ho:∀ds:67,(∀k∈ds,Cov S k 0)->Cov S (orT ds) (4*ds.length+1):=by
  intro ds
  induction ds with
  |nil=>intro _;exact WI y0
  |cons x r ih=>
   intro h;cases r with
   |nil=>exact(h x 47).le (fu _)
   |cons z r=>
    have i2:=ih fun k hk=>h k (eT _ hk);exact(WI (qX (WI (h x 47)) (WI i2))).le (by simp;lia)
 have hw:∀n f s,Cov S f 0->Cov S s 0->Cov S (Z0 n f s) (6*n):=by
  intro n f s hf hs
  induction n with
  |zero=>exact hs
  |succ n ih=>exact(WI (qX (WI hs) (WI (qX hf (WI ih))))).le 21
 cases c with
 |yes=>exact y0.le (fu _)
 |sign z=>exact nu rfl (hc z)
 |many w=>
  show Cov S (if w = "and" then Wa cs else orT cs) 36
  have h8:cs.length<=8:=ok.2
  split
  ·exact(ha cs k0).le 21
  ·exact(ho cs k0).le 21
 |wit k=>
  have h5:k.toNat<=5:=by have:=ok.1;lia
  exact(hw k.toNat _ _ (g 0) (g 1)).le 21
 |op w=>
  have oH:Cov S (.node (.op w) cs) 36:=by
   have hl:cs.length=1\/cs.length=2:=by rcases ok with o|o;exact .inl o.2;exact .inr o.2
   match cs,hl,k0 with
   |[a],_,h=>exact(WI (h a 47)).le 48
   |[a,b],_,h=>exact(qX (h a 47) (h b 47)).le 48
  unfold Yr;dsimp only
  split
  ·exact(WI (WI (WI (g 0)))).le 48
  split
  ·exact(qX y0 (g 0)).le 48
  split
  ·exact(WI (qX y0 (WI (g 0)))).le 48
  split
  ·exact(qX y0 (g 0)).le 48
  split
  ·exact(WI (qX y0 (WI (g 0)))).le 48
  ·exact oH
def wgt:Tr->Nat:=YJ fun c ws=>match c with
 |.yes=>1
 |.sign _=>1
 |_=>ws.sum+36
theorem ZfL(t:Tr):wgt t=match t.lb with|.yes=>1|.sign _=>1|_=>(t.ks.map wgt).sum+36:=Wo _ t
theorem Jc{ks:67}(h:c≠.yes)(hs:∀z,c≠.sign z):wgt (.node c ks)=(ks.map wgt).sum+36:=by
 rw[ZfL]
 show(match c with|.yes=>1|.sign _=>1|_=>(ks.map wgt).sum+36)=_
 cases c with
 |yes=>exact nu rfl h
 |sign z=>exact nu rfl (hs z)
 |op w=>rfl
 |wit m=>rfl
 |many w=>rfl
theorem Zaf:∀{n:Nat}{t:Tr},OkN n t->∃C:67,C.length<=wgt t/\∀y∈post (ZH t),y∈C\/y=ZR
 |0,_,h=>h.elim
 |n+1,t,⟨ok,hk⟩=>by
  obtain⟨c,ks⟩:=t;have w9:YO c ks.length:=ok
  by_cases hy:c=.yes
  ·subst hy;refine⟨[],fu _,fun y h=>.inr ?_⟩;rw[Wz] at h;have h':y∈post ZR:=h;rw[post,Ya,ik] at h';exact eZ.mp h'
  ·by_cases hs:∃z,c=.sign z
   ·obtain⟨z,rfl⟩:=hs;refine⟨[.node (.sign z) []],eE _,fun y h=>.inl ?_⟩;rw[Wz] at h;have h':y∈post (.node (.sign z) []):=h;rw[post,Ya,ik] at h';exact h'
   ·have wk:∀z,c≠.sign z:=fun z e=>hs ⟨z,e⟩;have ER:∀(js:67),(∀k∈js,OkN n k)->∃C:67,C.length<=(js.map wgt).sum/\∀k∈js,∀y∈post (ZH k),y∈C\/y=ZR:=by
     intro js
     induction js with
     |nil=>intro _;exact⟨[],eE _,fun k h=>by cases h⟩
     |cons a r ih=>
      intro h;obtain⟨C1,l1,q1⟩:=Zaf (h a 47);obtain⟨C2,l2,q2⟩:=ih fun k hk=>h k (eT _ hk);refine⟨C1++C2,by rw[eK,eM,gI];lia,fun k hk y hy=>?_⟩;rcases eU.mp hk with rfl|hk
      ·rcases q1 y hy with h|h
       ·exact .inl (fT _ h)
       ·exact .inr h
      ·rcases q2 k hk y hy with h|h
       ·exact .inl (fC _ h)
       ·exact .inr h
    obtain⟨C,lC,qC⟩:=ER ks hk;obtain⟨N,lN,qN⟩:=ZbR (c:=c) (cs:=ks.map ZH) (by rw[eG];exact w9) wk;refine⟨N++C,by rw[Jc hy wk,eK];lia,fun y h=>?_⟩;rw[Wz] at h;rcases qN y h with h|h|⟨k',FQ,h⟩
    ·exact .inl (fT _ h)
    ·exact .inr h
    ·obtain⟨k,uE,rfl⟩:=eV.mp FQ;rcases qC k uE y h with h|h
     ·exact .inl (fC _ h)
     ·exact .inr h
theorem ZaS{t:Tr}(h:OkN n t):(Zp [] (post (ZH t))).length<=wgt t+1:=by
 obtain⟨C,l,q⟩:=Zaf h;have:=yb (l₂:=ZR::C) (WO (L:=post (ZH t)) (A:=[]) 47) fun x hx=>by
  rcases Yi.mp hx with hx|hx
  ·cases hx
  ·rcases q x hx with h|h
   ·exact eT _ h
   ·rw[h];simp
 rw[fG] at this;lia
theorem U9:∀(n:Nat) {t x:Tr},psz t<=n->x∈ZF t->x∈post t
 |0,t,x,h,_=>by have:=WL t;lia
 |n+1,t,x,h,hx=>by
  rcases UX hx with rfl|⟨k,hk,uD⟩
  ·exact vd _
  ·rw[Ui,fj,Wk];exact .inl ⟨k,Xi hk,U9 n (by have:=XN (Xi hk);lia) uD⟩
theorem vg(t:Tr):(Zp [] (ZF t)).length<=(Zp [] (post t)).length:=by
 refine yb (WO 47) fun y hy=>?_;rcases Yi.mp hy with hy|hy
 ·cases hy
 ·exact Yi.mpr (.inr (U9 _ (eE _) hy))
theorem AtL.oks(h:AtL K n H vs ts):∀t∈ts,YO t.lb t.ks.length:=fun t ht=>by
 obtain⟨i,hi,e⟩:=fO ht;have hv:i<vs.length:=by rw[h.1];exact hi
 have:=h.2 i _ t (eI hv) (by rw[<- e];exact eI hi);cases n with
 |zero=>exact this.elim
 |succ n=>obtain⟨_,_,_,_,ok,_⟩:=this;exact ok
structure Zg8(K:W.Frag)(P:Params)(D:Addr)(kvs:List (Str×Addr)):Prop where
 ex:∃(es:Array DictEntry) (n:Nat),K.lookup D=some ⟨.type "dict",none,.dict es n,#[]⟩/\W.KeysLit P es.toList
 at_:∀p∈kvs,W.nsIn K D p.1=some (some (.ref p.2))
 lo:(D==sysModules)=false
inductive Zb9(K:W.Frag)(P:Params)(x:V)(y:V)(H:Hp)(Q:VK):Prop
 |mk (D:Addr) (z:Str) (kvs:List (Str×Addr)) (f:Addr) (h0:x=.ref D) (h1:y=.str z) (h2:Zg8 K P D kvs) (h3:(z,f)∈kvs) (h4:Q (.ref f) H):Zb9 K P x y H Q
def rIxF(K:W.Frag)(P:Params):R2:=fun x y H Q=>Zb9 K P x y H Q
section
variable{P:Params}
theorem ZeS(hK:X.K=K)(hw:X.w.params=P):IxR X (rIxF K P):=by
 subst hK hw;intro nz nO cQ s σ H x y v u Q I rx ry h hs;obtain⟨D,z,kvs,f,rfl,rfl,d,hm,q⟩:=h;obtain⟨t,rfl⟩:=(show ∃t,u=Value.str z t from ry);obtain rfl:v=Value.ref D:=rx;obtain⟨m,F⟩:=I.fr;obtain⟨es,n,lk,hk⟩:=d.ex;exact W.topItem_K F I.mod.kin lk hk (d.at_ _ hm) ⟨.ref f,H,I.tok _,rfl,q⟩ hs
def Zfy(X:Cx)(Fam:Addr->Sp->Prop):Prop:=∀f sp,Fam f sp->∃fd ps k,WK X.prog X.w X.K X.mg X.base CX0 k f fd ps sp/\YK k X.A/\W.keepIn X.K (.ref f)=true/\Vd X.K fd ps []
inductive Zdm(Fam:Addr->Sp->Prop)(i:Nat)(σ:L2.St)(H:Hp)(B:Sp->Prop):Prop
 |mk (f:Addr) (sp:Sp) (h0:σ[i]?=some (some (.ref f))) (h1:Fam f sp) (h2:B sp):Zdm Fam i σ H B
def Zgh(Fam:Addr->Sp->Prop)(i:Nat)(t:TA):TE:=fun σ H Q=>Zdm Fam i σ H fun sp=>t σ H fun vs H1=>sp vs H1 Q E0
theorem Zdj{x:Str}{p:Pos}{es:List Expr}{t:TA}(F:Zfy X Fam)(hx:Ur CX0 X E0)(hv:PE X (.Name x p) (kc i))(ha:PA X (e::es) t)
  (he:starEach (e::es) X.env=(false,eval e X.env)::starEach es X.env:=by rfl) (oG:(backTo gT (starEach es X.env)).any (·.1)=false:=by rfl) :
  PE X (.Call (.Name x p) (e::es) [] gT) (Zgh Fam i t):=by
 intro cQ s σ H Q I h;obtain⟨f,sp,ei,fm,h⟩:=h;obtain⟨fd,ps,k,Fo,hr,hk,hb⟩:=F f sp fm;refine gN (thn (hv cQ s σ H (fun v H1=>v=.ref f/\H1=H) I ⟨_,ei,rfl,rfl⟩) fun u s1 ⟨v,H1,I1,r,q1,q2⟩=>?_);subst q1;subst q2;obtain rfl:u=Value.ref f:=r;refine lF (h₀:=X.base) I1.ok.mod.kin hk (thn (ha gT cQ s1 σ H1 _ I1 h) fun us s2 ⟨vs,H2,I2,r2,q⟩=>⟨I2.kIn,?_⟩) he oG;exact xN Fo hr hb .nil hx I2 r2 (by rw[gp];exact q)
end
structure ZK(p:Nat)(L:List Bool)(f:Nat->Bool):Prop where
 p1:1<=p
 le:p<=L.length
 at_:∀k,(h:k<L.length)->L[k]=f k
 more:∀k,L.length<=k->f k=f (k-p)
theorem ZK.get{p:Nat}(t:ZK p L f){k:Nat}(h:k<L.length):L[k]?=some (f k):=by rw[eI h,t.at_ k h]
theorem ZK.cut{p:Nat}{e:Nat}(t:ZK p (L.take (e+1)) f)(he:e<L.length)(hp:p<=e)(h:L[e]=L[e-p]' 21):ZK p (L.take e) f:=by
 have p1:=t.p1;have l1:(L.take (e+1)).length=e+1:=by rw[fh];lia
 have l0:(L.take e).length=e:=by rw[fh];lia
 have rq:∀k,(hk:k<e+1)->L[k]' 21=f k:=fun k hk=>by
  have:=t.at_ k 21;rw[lK] at this;exact this
 refine⟨t.p1,by lia,fun k hk=>?_,fun k hk=>?_⟩
 ·rw[lK];exact rq k 21
 ·rw[l0] at hk
  by_cases c:k=e
  ·subst c;rw[<- rq k 21,<- rq (k-p) 21];exact h
  ·exact t.more k 21
theorem ZK.grow{p:Nat}(t:ZK p L f){b:Bool}(h:L[L.length-p]?=some b):ZK p (L++[b]) f:=by
 have p1:=t.p1;have le:=t.le;have eb:b=f L.length:=by
  rw[t.more L.length (eE _)];have hl:L.length-p<L.length:=by lia
  rw[eI hl] at h;rw[<- t.at_ _ hl];exact(fc h).symm
 refine⟨p1,by rw[eK];lia,fun k hk=>?_,fun k hk=>t.more k (by rw[eK] at hk;lia)⟩;rw[eK,fY] at hk
 by_cases c:k<L.length
 ·rw[Ι c];exact t.at_ k c
 ·have:k=L.length:=by lia
  subst this;rw[Α (eE _)];simpa using eb
theorem ZK.of{p m:Nat}(p1:1<=p)(hl:L.length=m)(le:p<=m)(at_:∀k,k<m->L[k]?=some (f k))(more:∀k,m<=k->f k=f (k-p)):ZK p L f:=by
 subst hl;exact⟨p1,le,fun k h=>by have:=at_ k h;rw[eI h] at this;exact fc this,more⟩
theorem ZK.not{p:Nat}{L:List Bool}{f:Nat->Bool}(t:ZK p L f):ZK p (L.map Bool.not) (fun k=>!f k):=
 .of t.p1 (eG _) t.le (fun k h=>by rw[eO,t.get h];rfl) (fun k h=>by rw[t.more k h])
theorem ZK.next{p:Nat}(t:ZK p L f)(hn:L.length=n+1)(hp:p<=n)(hm:∀k,n<=k->f k=f (k-p)):ZK p (L.drop 1) (fun k=>f (k+1)):=by
 refine .of t.p1 (m:=n) (by rw[gv];lia) hp (fun k h=>?_) (fun k h=>?_)
 ·rw[lL,Nat.add_comm,t.get 21]
 ·have:=t.p1
  show f (k+1)=f (k-p+1)
  rw[hm (k+1) 21]
  congr 1
  lia
def JO(f:Nat->Bool):Nat->Bool
 |0=>false
 |k+1=>f k
theorem ZK.before{p:Nat}(t:ZK p L f):ZK p (false::L) (JO f):=by
 refine .of t.p1 (m:=L.length+1) rfl (by have:=t.le;lia) (fun k h=>?_) (fun k h=>?_)
 ·cases k with
  |zero=>rfl
  |succ n=>rw[List.getElem?_cons_succ,t.get 21];rfl
 ·have:=t.p1;have:=t.le;cases k with
  |zero=>lia
  |succ n=>
   have e:n+1-p=(n-p)+1:=by lia
   rw[e];exact t.more n 21
def Y7(f s:Nat->Bool):Nat->Bool
 |0=>s 0
 |k+1=>s (k+1)||(f (k+1)&&Y7 f s k)
theorem yi{f s:Nat->Bool}{m:Nat}:∀q,∃a b:Bool,(∀c,(∀j,j<q->s (m+j+1)=s (c+j+1)/\f (m+j+1)=f (c+j+1))->Y7 f s (c+q)=(a||(b&&Y7 f s c)))
 |0=>⟨false,true,fun c _=>by simp⟩
 |q+1=>by
  obtain⟨a,b,h⟩:=yi (f:=f) (s:=s) (m:=m) q;refine⟨s (m+q+1)||(f (m+q+1)&&a),f (m+q+1)&&b,fun c hc=>?_⟩;have h1:=h c fun j hj=>hc j 21;obtain⟨e1,e2⟩:=hc q 21
  show(s (c+q+1)||(f (c+q+1)&&Y7 f s (c+q)))=_
  rw[h1,<- e1,<- e2];cases s (m+q+1)<;>cases f (m+q+1)<;>cases a<;>cases b<;>cases Y7 f s c<;>rfl
theorem jv{s:Nat->Bool}{p m:Nat}(p1:1<=p)(hp:p<=m)(hf:∀k,m<=k->f k=f (k-p))(hs:∀k,m<=k->s k=s (k-p)):∀k,m+p<=k+1->Y7 f s k=Y7 f s (k-p):=by
 have base:Y7 f s (m+p-1)=Y7 f s (m-1):=by
  by_cases c:m=p
  ·-- the ring begins at once
   obtain⟨q,rfl⟩:∃q,p=q+1:=⟨p-1,by lia⟩;subst c;obtain⟨a,b,h⟩:=yi (f:=f) (s:=s) (m:=0) q;have h0:=h 0 fun j hj=>⟨rfl,rfl⟩;have h1:=h (q+1) fun j hj=>⟨by rw[hs (q+1+j+1) 21];congr 1;lia,by rw[hf (q+1+j+1) 21];congr 1;lia⟩;have z:Y7 f s (q+1)=(s 0||(f 0&&Y7 f s q)):=by
    show(s (q+1)||(f (q+1)&&Y7 f s q))=_
    rw[hs (q+1) 21,hf (q+1) 21];simp
   have z0:Y7 f s 0=s 0:=rfl;have e1:q+1+(q+1)-1=q+1+q:=by lia
   have e2:q+1-1=0+q:=by lia
   rw[e1,e2,h1,h0,z,z0];have RQ:Y7 f s q=(a||(b&&s 0)):=by have hh:=h0;rw[iZ,z0] at hh;exact hh
   rw[RQ];cases a<;>cases b<;>cases s 0<;>cases f 0<;>rfl
  ·obtain⟨n,rfl⟩:∃n,m=p+(n+1):=⟨m-p-1,by lia⟩;obtain⟨a,b,h⟩:=yi (f:=f) (s:=s) (m:=n) p;have h0:=h n fun j hj=>⟨rfl,rfl⟩;have h1:=h (n+p) fun j hj=>⟨by rw[hs (n+p+j+1) 21];congr 1;lia,by rw[hf (n+p+j+1) 21];congr 1;lia⟩;have e1:p+(n+1)+p-1=n+p+p:=by lia
   have e2:p+(n+1)-1=n+p:=by lia
   rw[e1,e2,h1,h0];cases a<;>cases b<;>cases Y7 f s n<;>rfl
 intro k hk
 induction k with
 |zero=>
  have:m=1/\p=0\/m=0/\p=1\/m=0/\p=0:=by lia
  lia
 |succ n ih=>
  by_cases c:n+1=m+p-1
  ·rw[c,base];congr 1;lia
  ·have h1:=ih 21;have e:n+1-p=(n-p)+1:=by lia
   rw[e]
   show(s (n+1)||(f (n+1)&&Y7 f s n))=(s (n-p+1)||(f (n-p+1)&&Y7 f s (n-p)))
   rw[h1,hs (n+1) 21,hf (n+1) 21,e]
open Classical in
noncomputable def Y5(f s:Nat->Bool)(k:Nat):Bool:=decide (∃j,s (k+j)=true/\∀i,i<j->f (k+i)=true)
open Classical in
theorem xr(f s:Nat->Bool)(k:Nat):Y5 f s k=(s k||(f k&&Y5 f s (k+1))):=by
 unfold Y5;rw[gy,iS];rw[iQ,fH,iS];constructor
 ·rintro⟨j,h1,h2⟩;cases j with
  |zero=>exact .inl h1
  |succ n=>
   refine .inr ⟨h2 0 21,n,?_,fun i hi=>?_⟩
   ·have:k+1+n=k+(n+1):=by lia
    rw[this];exact h1
   ·have:=h2 (i+1) 21;have e:k+1+i=k+(i+1):=by lia
    rw[e];exact this
 ·rintro(h|⟨h0,j,h1,h2⟩)
  ·exact⟨0,h,fun i hi=>by lia⟩
  ·refine⟨j+1,?_,fun i hi=>?_⟩
   ·have:k+(j+1)=k+1+j:=by lia
    rw[this];exact h1
   ·cases i with
    |zero=>exact h0
    |succ n=>
     have e:k+(n+1)=k+1+n:=by lia
     rw[e];exact h2 n 21
theorem jT{s g t:Nat->Bool}{k l:Nat}(hf:∀i,f (k+i)=g (l+i))(hs:∀i,s (k+i)=t (l+i)):Y5 f s k=Y5 g t l:=by
 have h:(∃j,s (k+j)=true/\∀i,i<j->f (k+i)=true)↔(∃j,t (l+j)=true/\∀i,i<j->g (l+i)=true):=
  ⟨fun⟨j,h1,h2⟩=>⟨j,hs j▸h1,fun i hi=>hf i▸h2 i hi⟩,fun⟨j,h1,h2⟩=>⟨j,(hs j).symm▸h1,fun i hi=>(hf i).symm▸h2 i hi⟩⟩
 unfold Y5;exact lj.mpr h
def qh(f s:Nat->Bool)(h:Bool)(k:Nat):Nat->Bool
 |0=>h
 |q+1=>s k||(f k&&qh f s h (k+1) q)
theorem Zcj(f s:Nat->Bool):∀q k,qh f s (Y5 f s (k+q)) k q=Y5 f s k
 |0,k=>rfl
 |q+1,k=>by
  show(s k||(f k&&qh f s (Y5 f s (k+(q+1))) (k+1) q))=_
  have:k+(q+1)=k+1+q:=by lia
  rw[this,Zcj f s q (k+1),<- xr]
theorem xm{f s:Nat->Bool}:∀q k,qh f s false k q=true↔∃j,j<q/\s (k+j)=true/\∀i,i<j->f (k+i)=true
 |0,k=>⟨fun h=>(fB h).elim,fun⟨j,hj,_⟩=>by lia⟩
 |q+1,k=>by
  show(s k||(f k&&qh f s false (k+1) q))=true↔_
  rw[iQ,fH,xm q (k+1)];constructor
  ·rintro(h|⟨h0,j,hj,h1,h2⟩)
   ·exact⟨0,by lia,h,fun i hi=>by lia⟩
   ·refine⟨j+1,by lia,?_,fun i hi=>?_⟩
    ·have:k+(j+1)=k+1+j:=by lia
     rw[this];exact h1
    ·cases i with
     |zero=>exact h0
     |succ n=>
      have e:k+(n+1)=k+1+n:=by lia
      rw[e];exact h2 n 21
  ·rintro⟨j,hj,h1,h2⟩;cases j with
   |zero=>exact .inl h1
   |succ n=>
    refine .inr ⟨h2 0 21,n,by lia,?_,fun i hi=>?_⟩
    ·have:k+1+n=k+(n+1):=by lia
     rw[this];exact h1
    ·have:=h2 (i+1) 21;have e:k+1+i=k+(i+1):=by lia
     rw[e];exact this
open Classical in
theorem Za7{s:Nat->Bool}{p m:Nat}(p1:1<=p)(hp:p<=m)(hf:∀k,m<=k->f k=f (k-p))(hs:∀k,m<=k->s k=s (k-p)):qh f s false (m-p) p=Y5 f s m:=by
 rw[gy,xm];have sh:Y5 f s m=Y5 f s (m-p):=jT (fun i=>by rw[hf (m+i) 21];congr 1;lia) (fun i=>by rw[hs (m+i) 21];congr 1;lia);rw[sh];unfold Y5;rw[iS];constructor
 ·rintro⟨j,_,h1,h2⟩;exact⟨j,h1,h2⟩
 ·rintro⟨j,h1,h2⟩;have:∃j,(s (m-p+j)=true/\∀i,i<j->f (m-p+i)=true)/\j<p:=by
   induction j using Nat.strongRecOn with
   |_ j ih=>
    by_cases c:j<p
    ·exact⟨j,⟨h1,h2⟩,c⟩
    ·refine ih (j-p) 21 ?_ fun i hi=>h2 i 21;rw[hs (m-p+j) 21] at h1;have e:m-p+j-p=m-p+(j-p):=by lia
     rw[e] at h1;exact h1
  obtain⟨j,⟨h1,h2⟩,hj⟩:=this;exact⟨j,hj,h1,h2⟩
theorem jq{s:Nat->Bool}{p m:Nat}(hp:p<=m)(hf:∀k,m<=k->f k=f (k-p))(hs:∀k,m<=k->s k=s (k-p)):∀k,m<=k->Y5 f s k=Y5 f s (k-p):=fun k hk=>
 jT (fun i=>by rw[hf (k+i) 21];congr 1;lia) (fun i=>by rw[hs (k+i) 21];congr 1;lia)
open PySem.SetTable
section
variable{t:SetTable}{hashAt:Nat->Int}{h:Int}
end
theorem xi:∀{l₁ l₂:List Nat},l₁.Nodup->(∀x∈l₁,x∈l₂)->l₁.length<=l₂.length
 |[],_,_,_=>by simp
 |x::r,l₂,nd,h=>by
  obtain⟨h1,h2⟩:=gF.mp nd;have hx:=h x 47;have:=xi (l₂:=l₂.erase x) h2 fun y hy=>(List.mem_erase_of_ne (fun e=>h1 (by rw[<- e];exact hy))).mpr (h y (eT _ hy));rw[Θ hx] at this;have:=mW hx;rw[fG];lia
section
variable{x:Value}{h:Int}{Q:Bool->Shared->Prop}
theorem jJ{hp:Heap}{o:Obj}{es':Array (Int×Value)}{t t':SetTable}(ho:hp.get? a=some o)(hd:o.data=.set es ep t) :
  (hp.update a (Obj.putSet es' t')).get? a=some { o with data:=.set es' (ep+1) t' }:=by
 have:=gJ (Obj.putSet es' t') ho (by rw[putSet_of es' t' hd];rfl);rw[putSet_of es' t' hd] at this;exact this
end
theorem ZN:Slot "set_iterator" "__next__" "set_iterator.__next__" :=
 .of (owner := "set_iterator") (n := "__next__") (by rw[lM,lO];kernel_rfl) 48 48 48
  (by first|exact .inl 48|exact .inr 48) (by rw[isSubtype_type];kernel_rfl)
theorem XM:Slot "set_iterator" "__iter__" "set_iterator.__iter__" :=
 .of (owner := "set_iterator") (n := "__iter__") (by rw[lM,lO];kernel_rfl) 48 48 48
  (by first|exact .inl 48|exact .inr 48) (by rw[isSubtype_type];kernel_rfl)
theorem XC:entryFor table "set_iterator.__next__" = some Builtin.«set_iterator.__next__» := entryFor_of_tree (by kernel_rfl)
theorem V9:entryFor table "set_iterator.__iter__" = some Builtin.«dict_keyiterator.__iter__» :=
 entryFor_alias (id' := "dict_keyiterator.__iter__") (by kernel_rfl) rfl 48 (by kernel_rfl)
theorem yk:Manifest.owners.lookup (String.ofList ['r','o','t','a','r','e','t','i','_','t','e','s'].reverse)=some Manifest.sig_set_iterator:=by kernel_rfl
theorem XL(a:Value):argsOk "set_iterator.__next__" ⟨[a],[]⟩:=by
 unfold argsOk;rw[signature?_of (id := "set_iterator.__next__") (n:=['_','_','t','x','e','n','_','_']) (o:=['r','o','t','a','r','e','t','i','_','t','e','s']) (by kernel_rfl) yk];kernel_rfl
theorem UC(a:Value):argsOk "set_iterator.__iter__" ⟨[a],[]⟩:=by
 unfold argsOk;rw[signature?_of (id := "set_iterator.__iter__") (n:=['_','_','r','e','t','i','_','_']) (o:=['r','o','t','a','r','e','t','i','_','t','e','s']) (by kernel_rfl) yk];kernel_rfl
theorem xH:entryFor table "set.__iter__" = some Builtin.«frozenset.__iter__» :=
 entryFor_alias (id' := "frozenset.__iter__") (by kernel_rfl) rfl 48 (by kernel_rfl)
theorem kD:typeLookup (.type "set") "__len__" = pure (some (.builtin "set.__len__")):=by rw[lM,lO];kernel_rfl
open SetTable in
theorem yx{xs:Array Nat}:∀(f hi:Nat),below.go xs 0 f 0 hi=0
 |0,hi=>rfl
 |f+1,hi=>by
  unfold below.go
  split
  ·simp only;rw[nn 21];exact yx f _
  ·rfl
open SetTable in
theorem UY{xs:Array Nat}{j:Nat}:∀(f lo hi:Nat),lo<=hi->hi-lo<=f->hi<=xs.size->(hi<xs.size->j<=xs.getD hi j)->below.go xs j f lo hi<xs.size->j<=xs.getD (below.go xs j f lo hi) j
 |0,lo,hi,h1,h2,h3,h4,h5=>by
  have e:lo=hi:=by lia
  subst e;exact h4 h5
 |f+1,lo,hi,h1,h2,h3,h4,h5=>by
  unfold below.go at h5 ⊢
  by_cases hl:lo<hi
  ·rw[nt hl] at h5 ⊢;simp only at h5 ⊢
   by_cases hx:xs.getD ((lo+hi)/2) j<j
   ·rw[nt hx] at h5 ⊢;exact UY f _ hi 21 21 h3 h4 h5
   ·rw[nn hx] at h5 ⊢;exact UY f lo _ 21 21 21 (fun _=>by lia) h5
  ·rw[nn hl] at h5 ⊢;have e:lo=hi:=by lia
   subst e;exact h4 h5
theorem JC{xs:Array Nat}{v:Nat}(hi:SetTable.below xs j=i)(hv:xs[i]?=some v):j<=v:=by
 have nH:i<xs.size:=by
  rcases Χ i xs.size with h|h
  ·exact h
  ·rw[lQ h] at hv;cases hv
 have:=UY (xs:=xs) (j:=j) xs.size 0 xs.size (fu _) 21 (eE _) (fun h=>nu h (gS _)) (by show SetTable.below xs j<_;rw[hi];exact nH);have e:SetTable.below.go xs j xs.size 0 xs.size=i:=hi;rw[e,π,hv] at this;exact this
theorem Zcg{l:List Nat}{a:Nat}(hj:j∈l)(ha:a<=j):l.countP (fun x=>decide (j+1<=x))<l.countP (fun x=>decide (a<=x)):=by
 have mono:∀l:List Nat,l.countP (fun x=>decide (j+1<=x))<=l.countP (fun x=>decide (a<=x)):=fun l=>
  List.countP_mono_left fun x _ h=>by simp at *; lia
 induction l with
 |nil=>cases hj
 |cons x r ih=>
  have m:=mono r;rcases eU.mp hj with e|h
  ·subst e;rw[mD,mD,nn 47,nt (by simpa using ha)];lia
  ·have:=ih h;rw[mD,mD]
   by_cases c:j+1<=x
   ·rw[nt (by simpa using c),nt (by simp;lia)];lia
   ·rw[nn (by simpa using c)];lia
theorem QE{nxt:Nat->Nat->Option (Value×Nat)}{m:Nat->Nat->Nat}(h:∀sl g x pE,nxt sl g=some (x,pE)->m pE (g+1)<m sl g) :
  ∀k sl g,m sl g<=k->∃(seq:71) (nZ:Nat->Nat),nZ 0=sl/\(∀i x,seq[i]?=some x->nxt (nZ i) (g+i)=some (x,nZ (i+1)))/\nxt (nZ seq.length) (g+seq.length)=none/\seq.length<=m sl g
 |k,sl,g,hk=>by
  cases e:nxt sl g with
  |none=>exact⟨[],fun _=>sl,rfl,fun i x hx=>by simp at hx,e,fu _⟩
  |some p=>
   obtain⟨x,pE⟩:=p;have nH:=h sl g x pE e;cases k with
   |zero=>lia
   |succ k=>
    obtain⟨seq,nZ,h0,h1,h2,h3⟩:=QE h k pE (g+1) 21;refine⟨x::seq,fun i=>match i with|0=>sl|i+1=>nZ i,rfl,?_,?_,by rw[fG];lia⟩
    ·intro i y hy;cases i with
     |zero=>simp at hy;subst hy;show nxt sl (g+0)=some (x,nZ 0);rw[h0];exact e
     |succ i=>
      have:=h1 i y (by simpa using hy)
      show nxt (nZ i) (g+(i+1))=_
      rw[show g+(i+1)=g+1+i by lia];exact this
    ·show nxt (nZ seq.length) (g+(seq.length+1))=none
     rw[show g+(seq.length+1)=g+1+seq.length by lia];exact h2
theorem Zad{α:Type}{next:Nat->Nat}{xs:List α}:∀(f k:Nat) (LF:List α) (out:Array α),(∀x∈LF,x∈xs)->(∀x∈out.toList,x∈xs) ->
  (∀x∈(pickOrder.go next f k LF out).toList,x∈xs)/\(pickOrder.go next f k LF out).size<=out.size+f/\out.size<=(pickOrder.go next f k LF out).size/\(0<f->LF≠[]->out.size<(pickOrder.go next f k LF out).size)
 |0,k,LF,out,_,ho=>by unfold pickOrder.go;exact⟨ho,by lia,eE _,fun h=>nu h (gS _)⟩
 |f+1,k,LF,out,hl,ho=>by
  unfold pickOrder.go;cases e:LF[next k%LF.length]? with
  |none=>
   refine⟨ho,by simp only;lia,eE _,fun _ nM=>?_⟩;have:0<LF.length:=ij.mpr nM;have:=Β.mp e;have:=Nat.mod_lt (next k) (by lia:LF.length>0);lia
  |some x=>
   have hx:x∈LF:=fz e;obtain⟨a,b,c,_⟩:=Zad (next:=next) f (k+1) (LF.eraseIdx (next k%LF.length)) (out.push x) (fun y hy=>hl y (List.mem_of_mem_eraseIdx hy)) (fun y hy=>by
    rw[mE] at hy;rcases fj.mp hy with h|h
    ·exact ho y h
    ·rw[eZ] at h;subst h;exact hl _ hx)
   rw[Array.size_push] at b c;refine⟨a,?_,?_,fun _ _=>?_⟩<;>(show _;simp only;lia)
theorem kI{next:Nat->Nat}(xs:Array α):(∀x∈(pickOrder next xs).toList,x∈xs.toList)/\(pickOrder next xs).size<=xs.size/\(0<xs.size->0<(pickOrder next xs).size):=by
 obtain⟨a,b,c,d⟩:=Zad (next:=next) (xs:=xs.toList) xs.size 0 xs.toList #[] (fun _ h=>h) (fun _ h=>by simp at h);have e0:pickOrder.go next xs.size 0 xs.toList #[]=pickOrder next xs:=rfl;rw[e0] at a b c d;refine⟨a,by simpa using b,fun h=>?_⟩;have:=d h (fun e=>by
  have:xs.toList.length=0:=by rw[e];rfl
  rw[gn] at this;lia)
 simpa using this
def We(h:Heap)(a:Addr)(es:Array (Int×Value))(ep:Nat)(t:SetTable):Prop:=∃o,h.get? a=some o/\o.ExactSet/\o.data=.set es ep t
def V4(h:Heap)(I a:Addr)(first:Value)(i:Nat)(n ep:Nat):Prop:=∃o t1 t2 t3,h.get? I=some o/\o.cls=.type "set_iterator" /\ o.data=.fields #[first,.int i t1,.ref a,.int n t2,.int ep t3]
theorem V4.typeIs{f:Value}(x:V4 s.heap I a f i n ep):s.TypeIs (.ref I) "set_iterator" := let ⟨o,_,_,_,ho,hc,_⟩:=x; ⟨o,ho,hc⟩
theorem V4.at{f:Value}(x:V4 h I a f i n ep)(e:∀o,h.get? I=some o->h'.get? I=some o):V4 h' I a f i n ep:=let ⟨o,t1,t2,t3,ho,r⟩:=x; ⟨o,t1,t2,t3,e _ ho,r⟩
theorem We.at{es ep t}(x:We h a es ep t)(e:∀o,h.get? a=some o->h'.get? a=some o):We h' a es ep t:=let ⟨o,ho,r⟩:=x; ⟨o,e _ ho,r⟩
theorem We.typeIs{es ep t}(x:We s.heap a es ep t):s.TypeIs (.ref a) "set" := let ⟨o,ho,hc,_⟩:=x; ⟨o,ho,hc.1⟩
def Wu(wf:Bool)(D3 es:Array (Int×Value))(oi:Array Nat)(slot given:Nat):Option (Value×Nat):=
 if wf=true then(D3[given]?).map fun e=>(e.2,slot) else
  match es[SetTable.below oi slot]?,oi[SetTable.below oi slot]? with
  |some (_,x),some j=>some (x,j+1)
  |_,_=>none
theorem xa{es ep t}{given:Nat}{Q:Option (Value×Nat)->70}(hS:We s.heap a es ep t)(hf:t.fits es.size=true)
  (hw:w.params.followText "set-order" = false->t.led=true/\(t.plain=true\/es.size<=1)) (h:Q (Wu 85 (pickOrder (w.params.setOrder a ep) es) es t.place slot given) s) :
  65 (setNext a slot given ep) Q E s:=by
 obtain⟨o,ho,_,hd⟩:=hS;unfold setNext;refine dZ (gK ho hd hf ?_);dsimp only;have Mr:∀{Q:Bool->70},Q 85 s->65 setsByText Q E s:=fun {Q} hq=>by
  unfold setsByText;exact dZ (lS (eh hq))
 refine dZ (Mr ?_);cases e:w.params.followText "set-order"
 ·simp only[fJ,ft];obtain⟨h1,h2⟩:=hw e;rw[e] at h
  show 79 (if(!t.plain&&decide (es.size>1))=true then _ else(do (if(!t.led&&!es.isEmpty)=true then unsupported "set:maker-not-led" else pure PUnit.unit);pure _)) Q E s
  have c:(!t.plain&&decide (es.size>1))=false:=by
   rcases h2 with h2|h2
   ·rw[h2];rfl
   ·rw[fE 21];simp
  rw[c,h1];simp only[fJ,ft,g7,gW];refine dZ (eh (eh ?_));exact h
 ·simp only[gj];rw[e] at h;simp only[bne_self_eq_false,fJ,ft];unfold setWalk;refine dZ (dZ (gK ho hd hf ?_));dsimp only;refine dZ (Mr ?_);rw[e];simp only[gj];refine dZ (lS (eh (eh ?_)));exact h
theorem Zbr{es ep t}{x:Value}{pE:Nat}{Q:81->70}(nG:V4 s.heap I a (.int slot tk) i es.size ep)(hS:We s.heap a es ep t)(hf:t.fits es.size=true)
  (hw:w.params.followText "set-order" = false->t.led=true/\(t.plain=true\/es.size<=1)) (hx:Wu 85 (pickOrder (w.params.setOrder a ep) es) es t.place slot i=some (x,pE))
  (hQ:∀h' tZ,V4 h' I a (.int pE tZ) (i+1) es.size ep->Heap.SameBut I s.heap h'->Q (some x) 80):65 (pyNext (.ref I)) Q E s:=by
 obtain⟨o,t1,t2,t3,ho,hc,hd⟩:=id nG;obtain⟨os,oO,sZ,pG⟩:=id hS;unfold pyNext;refine dZ (i0 (ia (name:=Str.ofString "__next__") nG.typeIs ZN (fW ZN nG.typeIs XC ?_ (XL _))))
 show 79 (fieldsOf (.ref I) >>= _) _ _ s
 refine dZ (lT ho hd ?_);dsimp only;refine dZ ?_;unfold setEntries;refine dZ (gK oO pG hf (eh ?_));dsimp only;rw[nn 47];refine dZ (xa hS hf hw ?_);have e1:((slot:Int)).toNat=slot:=fN _;have e2:((i:Int)).toNat=i:=fN _;have e3:((ep:Int)).toNat=ep:=fN _;rw[e1,e2,e3,hx];dsimp only;refine dZ (iE ho hd 47 ?_);have nN:=gJ (Obj.mapFields (·.setIfInBounds 0 (rawInt (pE:Int)))) ho (lU (g9 hd _));have Bw:=g9 hd (·.setIfInBounds 0 (rawInt (pE:Int)));refine dZ (iE nN Bw 47 ?_);have oB:=gJ (Obj.mapFields (·.setIfInBounds 1 (rawInt ((i:Int)+1)))) nN (lU (g9 Bw _));have sA:=g9 Bw (·.setIfInBounds 1 (rawInt ((i:Int)+1)));refine eh ⟨_,rfl,eh (hQ _ 0 ⟨_,0,t2,t3,oB,((mG ..).trans (mG ..)).trans hc,by rw[sA];simp[rawInt]⟩ ?_)⟩;exact⟨(lV _ _ _).trans (lV _ _ _),fun b hb=>(gH _ _ (eX hb)).trans (gH _ _ (eX hb))⟩
theorem Zdt{es ep t}{Q:81->70}(hh:A.handled=none)(nG:V4 s.heap I a (.int slot tk) i es.size ep)(hS:We s.heap a es ep t)(hf:t.fits es.size=true)
  (hw:w.params.followText "set-order" = false->t.led=true/\(t.plain=true\/es.size<=1)) (hx:Wu 85 (pickOrder (w.params.setOrder a ep) es) es t.place slot i=none)
  (hQ:∀h',Heap.ExtBut I s.heap h'->Q none 80):65 (pyNext (.ref I)) Q E s:=by
 obtain⟨o,t1,t2,t3,ho,hc,hd⟩:=id nG;obtain⟨os,oO,sZ,pG⟩:=id hS;unfold pyNext;refine dZ (i0 (ia (name:=Str.ofString "__next__") nG.typeIs ZN (fW ZN nG.typeIs XC ?_ (XL _))))
 show 79 (fieldsOf (.ref I) >>= _) _ _ s
 refine dZ (lT ho hd ?_);dsimp only;refine dZ ?_;unfold setEntries;refine dZ (gK oO pG hf (eh ?_));dsimp only;rw[nn 47];refine dZ (xa hS hf hw ?_);have e1:((slot:Int)).toNat=slot:=fN _;have e2:((i:Int)).toNat=i:=fN _;have e3:((ep:Int)).toNat=ep:=fN _;rw[e1,e2,e3,hx];dsimp only;refine dZ (iE ho hd 47 ?_);refine dZ ?_;simp only[newExc,newTuple];refine dZ (fX ?_ (by size_fits));refine dZ (m:=firstArgMember _ _) (lu (a:=Value.none) (by first|rfl|(simp only[firstArgMember];rfl)) ?_);refine fX ?_ (by size_fits);simp only[raiseNew];refine dZ (wpAny_handled ?_);rw[show A.in1.handled=none from hh];refine dZ (eh (wpAny_throw ?_));refine dZ (iF (T := "StopIteration") (b:=true) ⟨_,fg _ rfl,rfl⟩ isSubtype_stop ?_);exact eh (hQ _ (((lW ..).extBut.push _).push _))
def kS(h:Heap)(T:Addr)(ps:List Nat):Prop:=∃o n,h.get? T=some o/\o.data=.seq ((ps.map fun(i:Nat)=>rawInt (i:Int)).toArray) n/\o.cls=.type "tuple"
theorem QH{T:Addr}{p:Nat}{es ep t}{ps:List Nat}{e:Int×Value}{Q:81->70}(nG:V4 s.heap I a (.ref T) i es.size ep)(hS:We s.heap a es ep t)(hf:t.fits es.size=true)
  (hT:kS s.heap T ps) (hp:ps[i]?=some p) (he:es[p]?=some e)
  (hQ:∀h',V4 h' I a (.ref T) (i+1) es.size ep->Heap.SameBut I s.heap h'->Q (some e.2) 80):65 (pyNext (.ref I)) Q E s:=by
 obtain⟨o,t1,t2,t3,ho,hc,hd⟩:=id nG;obtain⟨os,oO,sZ,pG⟩:=id hS;obtain⟨oT,nT,El,FB,_⟩:=hT;unfold pyNext;refine dZ (i0 (ia (name:=Str.ofString "__next__") nG.typeIs ZN (fW ZN nG.typeIs XC ?_ (XL _))))
 show 79 (fieldsOf (.ref I) >>= _) _ _ s
 refine dZ (lT ho hd ?_);dsimp only;refine dZ ?_;unfold setEntries;refine dZ (gK oO pG hf (eh ?_));dsimp only;rw[nn 47];refine dZ (iA El FB ?_);dsimp only;have e2:((i:Int)).toNat=i:=fN _;have Ej:((ps.map fun(i:Nat)=>rawInt (i:Int)).toArray)[i]?=some (rawInt (p:Int)):=by simp[hp]
 rw[e2,Ej]
 show 79 (setNextDrawn a ((p:Int)).toNat ((ep:Int)).toNat >>= _) _ _ s
 rw[fN,fN];refine dZ ?_;unfold setNextDrawn;refine dZ (gK oO pG hf ?_);dsimp only;simp only[bne_self_eq_false,fJ,ft,he];refine eh ?_;refine dZ (iE ho hd 47 ?_);have oB:=gJ (Obj.mapFields (·.setIfInBounds 1 (rawInt ((i:Int)+1)))) ho (lU (g9 hd _));have sA:=g9 hd (·.setIfInBounds 1 (rawInt ((i:Int)+1)));refine eh ⟨_,rfl,eh (hQ _ ⟨_,0,t2,t3,oB,(mG ..).trans hc,by rw[sA];simp[rawInt]⟩ ?_)⟩;exact⟨(lV _ _ _),fun b hb=>(gH _ _ (eX hb))⟩
theorem ZaV{T:Addr}{es ep t}{ps:List Nat}{Q:81->70}(hh:A.handled=none)(nG:V4 s.heap I a (.ref T) i es.size ep)(hS:We s.heap a es ep t)(hf:t.fits es.size=true)
  (hT:kS s.heap T ps) (hp:ps[i]?=none)
  (hQ:∀h',Heap.ExtBut I s.heap h'->Q none 80):65 (pyNext (.ref I)) Q E s:=by
 obtain⟨o,t1,t2,t3,ho,hc,hd⟩:=id nG;obtain⟨os,oO,sZ,pG⟩:=id hS;obtain⟨oT,nT,El,FB,_⟩:=hT;unfold pyNext;refine dZ (i0 (ia (name:=Str.ofString "__next__") nG.typeIs ZN (fW ZN nG.typeIs XC ?_ (XL _))))
 show 79 (fieldsOf (.ref I) >>= _) _ _ s
 refine dZ (lT ho hd ?_);dsimp only;refine dZ ?_;unfold setEntries;refine dZ (gK oO pG hf (eh ?_));dsimp only;rw[nn 47];refine dZ (iA El FB ?_);dsimp only;have e2:((i:Int)).toNat=i:=fN _;have Ej:((ps.map fun(i:Nat)=>rawInt (i:Int)).toArray)[i]?=none:=by simpa using hp
 rw[e2,Ej];dsimp only;refine dZ (iE ho hd 47 ?_);have nN:=gJ (Obj.mapFields (·.setIfInBounds 0 (rawInt 0))) ho (lU (g9 hd _));have Bw:=g9 hd (·.setIfInBounds 0 (rawInt 0));refine dZ (iE nN Bw 47 ?_);refine dZ ?_;simp only[newExc,newTuple];refine dZ (fX ?_ (by size_fits));refine dZ (m:=firstArgMember _ _) (lu (a:=Value.none) (by first|rfl|(simp only[firstArgMember];rfl)) ?_);refine fX ?_ (by size_fits);simp only[raiseNew];refine dZ (wpAny_handled ?_);rw[show A.in1.handled=none from hh];refine dZ (eh (wpAny_throw ?_));refine dZ (iF (T := "StopIteration") (b:=true) ⟨_,fg _ rfl,rfl⟩ isSubtype_stop ?_);have sb:Heap.SameBut I s.heap ((s.heap.update I (Obj.mapFields (·.setIfInBounds 0 (rawInt 0)))).update I (Obj.mapFields (·.setIfInBounds 2 .none))):=
  ⟨(lV _ _ _).trans (lV _ _ _),fun b hb=>(gH _ _ (eX hb)).trans (gH _ _ (eX hb))⟩
 exact eh (hQ _ ((sb.extBut.push _).push _))
theorem QD{O0:Source}{Q:Nat->70}(hn:n≠0)(h:∀i dr,i<n->Q i { s with drawn:=dr }):65 (choose O0 n) Q E s:=
 fun Γ p _=>⟨hn,h _ _ (Nat.mod_lt _ (mH hn))⟩
theorem QL(hh:A.handled=none)(nM:a≠I){t:SetTable}(hf:t.fits es.size=true)
  (hw:w.params.followText "set-order" = false->t.led=true/\(t.plain=true\/es.size<=1)) {seq:71}
  (h1:∀i x,seq[i]?=some x->Wu 85 (pickOrder (w.params.setOrder a ep) es) es t.place (nZ i) i=some (x,nZ (i+1)))
  (h2:Wu 85 (pickOrder (w.params.setOrder a ep) es) es t.place (nZ seq.length) seq.length=none) :
  Walks prog w A I [I,a] [I] seq.length (fun i v=>seq[i]?=some v) (fun i h=>(∃tk,V4 h I a (.int (nZ i) tk) i es.size ep)/\We h a es ep t) where
 sub:=fun b hb=>by simp at hb;simp[hb]
 frame:=fun i h h' st hk=>⟨let ⟨tk,x⟩:=st.1; ⟨tk,x.at fun o e=>hk I 47 o e⟩,st.2.at fun o e=>hk a 47 o e⟩
 item:=fun i s Q E hi st hQ=>by
  obtain⟨⟨tk,nG⟩,hS⟩:=st;have e:seq[i]?=some seq[i]:=eI hi;refine Zbr nG hS hf hw (h1 i _ e) fun h' tZ uS sb=>?_;exact hQ _ h' s.toks e ⟨⟨tZ,uS⟩,hS.at fun o z=>by rw[sb.2 a nM];exact z⟩ fun b o hb z=>by rw[sb.2 b (fun h=>hb (by simp[h]))];exact z
 done:=fun s Q E st hQ=>by
  obtain⟨⟨tk,nG⟩,hS⟩:=st;exact Zdt hh nG hS hf hw h2 fun h' x=>hQ h' s.toks fun b o hb z=>x b o (fun h=>hb (by simp[h])) z
 self:=fun i s Q E st hQ=>by
  obtain⟨⟨tk,nG⟩,hS⟩:=st;refine mI nG.typeIs XM (fW XM nG.typeIs V9 ?_ (UC _))
  show 79 (ret (.ref I)) _ _ s
  exact eh ⟨_,rfl, "set_iterator",_,nG.typeIs,ZN.lookup,hQ⟩
theorem Qu(hh:A.handled=none){T:Addr}(nM:a≠I)(Po:T≠I){t:SetTable}(hf:t.fits es.size=true){ps:List Nat}{seq:71}(hl:seq.length=ps.length)
  (h1:∀(i:Nat) x,seq[i]?=some x->∃p e,ps[i]?=some p/\es[p]?=some e/\x=e.2) :
  Walks prog w A I [I,a,T] [I] seq.length (fun i v=>seq[i]?=some v) (fun i h=>V4 h I a (.ref T) i es.size ep/\We h a es ep t/\kS h T ps) where
 sub:=fun b hb=>by simp at hb;simp[hb]
 frame:=fun i h h' st hk=>⟨st.1.at fun o e=>hk I 47 o e,st.2.1.at fun o e=>hk a 47 o e,let ⟨o,n,e,r⟩:=st.2.2; ⟨o,n,hk T 47 o e,r⟩⟩
 item:=fun i s Q E hi st hQ=>by
  obtain⟨nG,hS,hT⟩:=st;have e:seq[i]?=some seq[i]:=eI hi;obtain⟨p,en,e1,e2,e3⟩:=h1 i _ e;refine QH nG hS hf hT e1 e2 fun h' uS sb=>?_;rw[<- e3];refine hQ _ h' s.toks e ⟨uS,hS.at fun o z=>by rw[sb.2 a nM];exact z,let ⟨o,n,z,r⟩:=hT; ⟨o,n,by rw[sb.2 T Po];exact z,r⟩⟩ fun b o hb z=>by rw[sb.2 b (fun h=>hb (by simp[h]))];exact z
 done:=fun s Q E st hQ=>by
  obtain⟨nG,hS,hT⟩:=st;exact ZaV hh nG hS hf hT (Β.mpr 21) fun h' x=>hQ h' s.toks fun b o hb z=>x b o (fun h=>hb (by simp[h])) z
 self:=fun i s Q E st hQ=>by
  obtain⟨nG,hS,hT⟩:=st;refine mI nG.typeIs XM (fW XM nG.typeIs V9 ?_ (UC _))
  show 79 (ret (.ref I)) _ _ s
  exact eh ⟨_,rfl, "set_iterator",_,nG.typeIs,ZN.lookup,hQ⟩
theorem yu{b:Addr}(hb:h.objs.size<=b):h.get? b=none:=by
 cases e:h.get? b with
 |none=>rfl
 |some o=>exact nu (eP e) (Nat.not_lt.mpr hb)
theorem QK(t:SetTable)(es:Array (Int×Value))(h:Int)(x:Value):(layNew t es h x).2.1.led=t.led:=by
 unfold layNew
 split
 ·dsimp only;unfold SetTable.orStandIn
  split<;>rfl
 ·rfl
theorem j5(t:SetTable)(es:Array (Int×Value))(n:Nat):(relayAll t es n).2.1.led=t.led:=by
 unfold relayAll
 split
 ·rename_i t' HH he
  dsimp only
  split
  ·unfold SetTable.relaid SetTable.laid at he;cases hc:SetTable.layClean (SetTable.sizeAbove n-1) (es.map (·.1)) with
   |none=>rw[hc] at he;cases he
   |some ow=>rw[hc] at he;cases he;rfl
  ·rfl
 ·rfl
section
variable{h0:Heap}
theorem ZaX{ax:Addr}{items:71}(hh:A.handled=none)(nM:ax≠I)(uz:S≠I)(Ag:S≠ax)(NZ:h0.get? S=none)(RI:h0.get? I=none)
  (nY:∀{h h' vs},SI h vs->(∀o,h.get? S=some o->h'.get? S=some o)->SI h' vs)
  (ww:∀(s:Shared) (i:Nat) (v:Value),items[i]?=some v->(∀b o,h0.get? b=some o->s.heap.get? b=some o)->SI s.heap (items.take i) -> ∀(E:Value->70) (Q:Bool->70),(∀h' tk b,Heap.SameBut S s.heap h'->SI h' (items.take i++[v])->Q b 86)->wpAny (model prog w) A.in1 (setAdd S v) Q E s) :
  ∀(c i:Nat) (s:Shared),items.length-i=c->i<=items.length->s.heap.IsListIter I ax i/\s.heap.IsList ax items.toArray->(∀b o,h0.get? b=some o->s.heap.get? b=some o) ->
   SI s.heap (items.take i) ->
   (∀(h':Heap) (tk:Nat),SI h' items->(∀b o,b≠S->b≠I->s.heap.get? b=some o->h'.get? b=some o)->R (.ok (.ret .none)) 86) ->
   codeAny (model prog w) A (.builtin "set.update.loop" ⟨[.ref S,.ref I],[]⟩) R s:=by
 have W:=Walks.list (prog:=prog) (w:=w) (A:=A.in1) (by simpa using hh) I ax nM items.toArray;have zs:items.toArray.size=items.length:=by simp
 intro c
 induction c with
 |zero=>
  intro i s hc hi st hg hS hR;have e:i=items.toArray.size:=by lia
  subst e;refine gO mv ?_;rw[ie iP _]
  show wpAny _ A.in1 (pyNext (.ref I) >>= _) _ _ s
  refine dZ (W.done s _ _ st fun h' tk hk=>?_)
  show wpAny _ A.in1 (ret Value.none) _ _ _
  have et:items.take items.toArray.size=items:=by rw[zs];exact i9
  rw[et] at hS;exact eh (hR h' tk (nY hS fun o z=>hk S o (by simpa using uz) z) fun b o _ rQ z=>hk b o (by simpa using rQ) z)
 |succ c ih=>
  intro i s hc hi st hg hS hR;have nH:i<items.toArray.size:=by lia
  refine gO mv ?_;rw[ie iP _]
  show wpAny _ A.in1 (pyNext (.ref I) >>= _) _ _ s
  refine dZ (W.item i s _ _ nH st fun v h1 tk hP oQ hk=>?_);have CN:items[i]?=some v:=by simpa using hP
  have DI:SI h1 (items.take i):=nY hS fun o z=>hk S o (by simpa using uz) z;have Hj:∀b o,h0.get? b=some o->h1.get? b=some o:=fun b o z=>hk b o (by simp;rintro rfl;rw[RI] at z;cases z) (hg b o z)
  show wpAny _ A.in1 (holding [v] (setAdd S v) >>= _) _ _ { s with heap:=h1,toks:=tk }
  refine dZ (fU ?_);refine ww { s with heap:=h1,toks:=tk } i v CN Hj DI _ _ fun h2 tk2 bb tE uM=>?_;have et:items.take (i+1)=items.take i++[v]:=by rw[Ε,CN];rfl
  rw[<- et] at uM;refine eh ⟨ig iP _,ih (i+1) _ 21 21 (W.frame _ _ _ oQ fun b hb o z=>?_) (fun b o z=>?_) uM fun h' Dv a1 a4=>?_⟩
  ·rw[tE.2 b (fun q=>by subst q;simp at hb;exact hb.elim uz Ag)];exact z
  ·show h2.get? b=some o
   rw[tE.2 b (by rintro rfl;rw[NZ] at z;cases z)];exact Hj b o z
  ·exact hR h' Dv a1 fun b o uc rQ z=>a4 b o uc rQ (by show h2.get? b=some o;rw[tE.2 b uc];exact hk b o (by simpa using rQ) z)
theorem vP(a:Value)
  (h:Q₁ (.ref s.heap.objs.size) { s with heap:=s.heap.push { cls:=.type "set",dict:=none,data:=.set #[] 0 (.fresh 0 0 (!w.params.followText "set-order")) } }) :
  codeAny (model prog w) A (.call (.builtin "set.__new__") ⟨[.type "set",a],[]⟩) (wants Q₁ E) s:=by
 refine codeAny_of_tree ?_
 show wpAny _ A.in1 (do checkBuiltinCall "set.__new__" ⟨[.type "set",a],[]⟩;again (.builtin "set.__new__" ⟨[.type "set",a],[]⟩)) _ _ s
 refine dZ (lu (PySem.F.newCall_set_1 a) (eh ⟨ig PySem.F.plain_set_new _,gO PySem.F.entry_set_new ?_⟩));rw[ie PySem.F.plain_set_new _];unfold Builtin.«set.__new__» Builtin.Frozenset.newClass;have pW:=sub_set_self;obtain⟨hp,g,d,tk,os⟩:=s;dsimp only
 wp_walk
 refine lS (eh ?_);dsimp only;simp only[newObj];refine dZ (wpAny_alloc (eh ?_));exact eh h
end
theorem Zba{l:Addr}{items:71}(hh:A.handled=none)(hl:s.heap.IsList l items.toArray)
  (nY:∀{h h' vs},SI h vs->(∀o,h.get? s.heap.objs.size=some o->h'.get? s.heap.objs.size=some o)->SI h' vs)
  (Aw:SI (s.heap.push { cls:=.type "set",dict:=none,data:=.set #[] 0 (.fresh 0 0 (!w.params.followText "set-order")) }) [])
  (ww:∀(A':Around) (s':Shared) (i:Nat) (v:Value),A'.units<=A.units+5->items[i]?=some v->(∀b o,s.heap.get? b=some o->s'.heap.get? b=some o)->SI s'.heap (items.take i) -> ∀(E:Value->70) (Q:Bool->70),(∀h' tk b,Heap.SameBut s.heap.objs.size s'.heap h'->SI h' (items.take i++[v])->Q b { s' with heap:=h',toks:=tk })->wpAny (model prog w) A' (setAdd s.heap.objs.size v) Q E s')
  (h:∀(h':Heap) (tk:Nat),SI h' items->(∀b o,s.heap.get? b=some o->h'.get? b=some o)->Q (.ref s.heap.objs.size) 86) :
  65 (call (.type "set") [.ref l]) Q E s:=by
 have BY:=gb.made;have pW:=gb.sub;obtain⟨c,tl,Fq⟩:=gb.mro;refine wpAny_call (codeAny_of_tree (eh ⟨Code.quiet_builtin _ 48,gO PySem.F.entry_type_call ?_⟩));rw[Around.under_plain (weight_type_call_type "set" [.ref l] []) rfl];have g1:=gb.notType;have g2:=gb.canCreate;have g3:=PySem.F.typeCall_set_1 (.ref l)
 repeat (any_goals (first|assumption|wp_step))
 generalize pi:(!w.params.followText "set-order")=oR at Aw;refine hX (vP (.ref l) (E:=E) (Q₁:=fun obj t=>obj=.ref s.heap.objs.size/\t={ s with heap:=s.heap.push { cls:=.type "set",dict:=none,data:=.set #[] 0 (.fresh 0 0 oR) } }) ⟨rfl,by rw[pi]⟩) fun r t hr=>?_;cases r with
 |error e=>exact hr
 |ok fl=>
  cases fl with
  |ret obj=>
   obtain⟨rfl,rfl⟩:=hr;have hS:(s.heap.push { cls:=.type "set",dict:=none,data:=.set #[] 0 (.fresh 0 0 oR) }).get? s.heap.objs.size=some { cls:=.type "set",dict:=none,data:=.set #[] 0 (.fresh 0 0 oR) }:=fg _ rfl;have hT:Shared.TypeIs { s with heap:=s.heap.push { cls:=.type "set",dict:=none,data:=.set #[] 0 (.fresh 0 0 oR) } } (.ref s.heap.objs.size) "set" := ⟨_,hS,rfl⟩;have NK:=gb.init.lookup;have RX:=gb.init.bind (.ref s.heap.objs.size)
   repeat (any_goals (first|assumption|wp_step))
   refine hX (codeAny_call_builtin (R:=wants (fun r u=>r=.none/\∃h' tk,u=86/\SI h' items /\ (∀b o,s.heap.get? b=some o->h'.get? b=some o)) E) gb.init.plain PySem.F.entry_set_init (check_set_init_1 hT ?_)) fun r2 u pz=>?_
   ·obtain⟨ol,AC,pA,nl,AM⟩:=hl;obtain⟨Ep,sQ,BW,pY⟩:=ol;simp only at pA AM;subst pA;subst AM;have uP:(s.heap.push { cls:=.type "set",dict:=none,data:=.set #[] 0 (.fresh 0 0 oR) }).get? l=some { cls:=.type "list",dict:=sQ,data:=.seq items.toArray nl,slots:=pY }:=eN _ AC;have Fi:=PySem.F.sub_list_set;have DS:=PySem.F.sub_list_frozenset;have nM:(Value.type "list" == Value.type "dict")=false:=by left
    have pJ:(s.heap.push { cls:=.type "set",dict:=none,data:=.set #[] 0 (.fresh 0 0 oR) }).IsList l items.toArray:=⟨_,uP,rfl,nl,rfl⟩;unfold Builtin.«set.__init__» noKeywords Builtin.Frozenset.updateFrom;generalize hPI:pyIter=PI
    wp_walk
    subst hPI;refine mj pJ ?_;refine dZ (wpAny_runValue ?_);have Bi:l<s.heap.objs.size:=eP AC;have z1:(s.heap.push { cls:=.type "set",dict:=none,data:=.set #[] 0 (.fresh 0 0 oR) }).objs.size=s.heap.objs.size+1:=hV _ _;refine ZaX (h0:=s.heap) (SI:=SI) (items:=items) (ax:=l) (by simpa using hh) (by rw[z1];exact eQ (ii Bi)) (by rw[z1];exact eQ (iw _)) (fM Bi)
     (yu (eE _)) (yu (by rw[z1];exact hZ _)) nY (fun s' i v hv hg hS E Q hQ=>ww _ s' i v ?hu hv hg hS E Q hQ) (items.length-0) 0 _ 21 (fu _)
     ⟨⟨_,fg _ rfl,rfl,rfl⟩,(pJ.push _)⟩ (fun b o z=>eN _ (eN _ z)) ?hS0 ?hR
    case hu=>simp only[ly];lia
    case hS0=>exact nY Aw fun o z=>eN _ z
    case hR=>
     intro h' tk a1 a4
     show 79 _ _ _ _
     refine eh ?_
     show 79 (ret Value.none) _ _ _
     refine eh ⟨rfl,h',tk,rfl,a1,fun b o z=>?_⟩;have nH:=eP z;exact a4 b o (eQ nH) (by rw[z1];exact eQ (ii nH)) (eN _ (eN _ z))
   ·cases r2 with
    |error e=>exact pz
    |ok fl2=>
     cases fl2 with
     |ret r=>
      obtain⟨rfl,h',tk,rfl,a1,a4⟩:=pz
      repeat (any_goals (first|assumption|wp_step))
      exact h _ _ a1 a4
     |_=>exact pz.elim
  |_=>exact hr.elim
section
variable{prog:Program}{w:World}{A:Around}{E:Value->Shared->Prop}{s:Shared}
theorem qJ{α:Type}:∀{l:List α}{i:Nat} (h:i<l.length),l.Perm (l[i]::l.eraseIdx i)
 |x::r,0,_=>.refl _
 |x::r,i+1,h=>by
  have hi:i<r.length:=by simpa using h
  have ih:=qJ hi
  show(x::r).Perm (r[i]::x::r.eraseIdx i)
  exact(ih.cons x).trans (.swap _ _ _)
theorem xj(n:Nat):∀(xs:List α) {s:Shared}{Q:List α->70},xs.length=n->(∀ys dr,ys.Perm xs->Q ys { s with drawn:=dr })->65 (drawOrder n xs) Q E s:=by
 induction n with
 |zero=>
  intro xs s Q hl h;have:xs=[]:=lX hl;subst this;unfold drawOrder;exact eh (h [] s.drawn (.refl _))
 |succ n ih=>
  intro xs s Q hl h;cases xs with
  |nil=>simp at hl
  |cons x r=>
   show 79 (choose .order (x::r).length >>= _) _ _ s
   refine dZ (QD 47 fun i dr hi=>?_);have e:(x::r)[i]?=some (x::r)[i]:=eI hi;rw[e];dsimp only;refine dZ (ih ((x::r).eraseIdx i) (by rw[υ hi];lia) fun ys So hp=>?_);exact eh (h (_::ys) So ((hp.cons _).trans (qJ hi).symm))
theorem zL{α:Type}{next:Nat->Nat}:∀(f k:Nat) (LF:List α) (out:Array α),LF.length=f->(pickOrder.go next f k LF out).toList.Perm (out.toList++LF)
 |0,k,LF,out,h=>by
  have:LF=[]:=lX h;subst this;unfold pickOrder.go;rw[gp]
 |f+1,k,LF,out,h=>by
  have hi:next k%LF.length<LF.length:=Nat.mod_lt _ 21;unfold pickOrder.go;rw[eI hi];dsimp only;have ih:=zL (next:=next) f (k+1) (LF.eraseIdx (next k%LF.length)) (out.push LF[next k%LF.length]) (by rw[υ hi];lia);refine ih.trans ?_;rw[mE,gY];exact List.Perm.append_left _ (qJ hi).symm
theorem ZaZ{next:Nat->Nat}(xs:Array α):(pickOrder next xs).toList.Perm xs.toList:=by
 have:=zL (next:=next) xs.size 0 xs.toList #[] (gn ..)
 show(pickOrder.go next xs.size 0 xs.toList #[]).toList.Perm _
 simpa using this
end
theorem ZfQ{σ:L2.St}(I:L2.Inv X cQ σ H s)(d:Drawn):L2.Inv X cQ σ H { s with drawn:=d }:=
 ⟨I.ok,I.os,I.bare,I.base,I.loc,I.cell,I.free,I.freeC,I.pin,I.hok,I.len⟩
theorem Yl(h:H a=none):∃H1,upd H a o=H1/\Zf H H1/\H1 a=some o:=⟨_,rfl,Ze h,Zc⟩
def qw(h:Heap)(d:Addr)(es:Array DictEntry)(ep:Nat):Prop:=∃o,h.get? d=some o/\o.ExactDict/\o.data=.dict es ep
section
variable{d:Addr}{es:Array DictEntry}
theorem qw.ty(m:qw s.heap d es ep):s.TypeIs (.ref d) "dict" := let ⟨o,h1,h2,_⟩:=m; ⟨o,h1,h2.1⟩
theorem Zbg(hd:(d==sysModules)=false)(m:qw s.heap d es ep)
  (q:Q (.ref s.heap.objs.size) { s with heap:=s.heap.push { cls:=.type "dict_keyiterator",data:=.fields #[.ref d,.int 0 0,.int es.size 0,.int ep 0] } }) :
  65 (pyIter (.ref d)) Q E s:=by
 obtain⟨o,ho,hc,B1⟩:=id m;refine mI m.ty F.slot_dict_iter (fW F.slot_dict_iter m.ty F.entry_dict_iter ?_ (F.args_dict_iter_1 _));unfold Builtin.«dict.__iter__» Builtin.Dict.dictSlotNone Builtin.Dict.showsAll;refine dZ (dZ (wpAny_notOrdered_dict m.ty (eh ?_)));refine dZ (m:=Builtin.Dict.addrOf _) (lu (a:=d) rfl ?_);rw[nn (by rw[hd];exact fB)];refine dZ (eh (dZ (wpAny_dictEntries ho B1 (dZ (wpAny_dictEpoch ho B1 ?_)))));exact dZ (fX (eh ⟨_,rfl, "dict_keyiterator",_,⟨_,fg _ rfl,rfl⟩,mX.lookup,by simpa[rawInt] using q⟩))
theorem jk{Q:81->70}(nG:s.heap.IsKeyIter it d i es.size ep)(m:qw s.heap d es ep)
  (q1:∀hi:i<es.size,∀h',h'.IsKeyIter it d (i+1) es.size ep->Heap.SameBut it s.heap h'->Q (some es[i].key) 80)
  (q2:es.size<=i->A.handled=none/\∀h',Heap.ExtBut it s.heap h'->Q none 80):65 (pyNext (.ref it)) Q E s:=by
 have ty:=nG.typeIs;obtain⟨o,ho,hc,hd⟩:=id nG;obtain⟨od,sL,_,Gf⟩:=m;have nm:∀{A':Around}{Q':String->70} {E'},Q' "dict_keyiterator" s->wpAny (model prog w) A' (typeNameOfWhole (.ref it)) Q' E' s:=fun h=>wpAny_typeNameOfWhole_keyiter ty h;unfold pyNext;refine dZ (i0 (ia (name:=Str.ofString "__next__") ty mX (fW mX ty F.entry_dict_keyiterator_next ?_ (F.args_dict_keyiterator_next_1 _))));refine dZ (eh (dZ (dZ (dZ (nm (eh (dZ (lT ho hd ?_))))))));rw[show Builtin.Dict_items.ownsTuple "dict_keyiterator" = false by left];simp only[fJ,ft]
 change 79 (if(Value.ref d==Value.none)=true then _ else _) _ _ s
 rw[nn (show ¬((Value.ref d==Value.none)=true) from nofun)];refine dZ (eh (dZ (wpAny_dictEntries sL Gf ?_)));rw[nn 47];refine dZ (eh (dZ (wpAny_dictEpoch sL Gf ?_)));rw[nn 47];refine eh ?_;have n0:¬((i:Int)<0):=by lia
 rcases Χ i es.size with hi|hi
 ·simp only[n0,ft,fN,lI hi];refine dZ (dZ (nm (eh (dZ (wpAny_isOneOf_keyiter ty ?_)))));refine dZ (m:=setField (.ref it) 1 (rawInt ((i:Int)+1))) (iE ho hd 47 ?_);have st:(s.heap.update it (Obj.mapFields (·.setIfInBounds 1 (rawInt ((i:Int)+1))))).IsKeyIter it d (i+1) es.size ep:=
   ⟨_,gJ _ ho (lU (g9 hd _)),(mG ..).trans hc,by rw[g9 hd];simp[rawInt]⟩
  have q:=q1 hi _ st (lW ..);generalize s.heap.update it (Obj.mapFields (·.setIfInBounds 1 (rawInt ((i:Int)+1))))=h' at st q ⊢;exact dZ (fU (dZ (wpAny_isOneOf_keyiter (s:=80) st.typeIs (eh (eh ⟨_,rfl,eh q⟩)))))
 ·obtain⟨hh,q⟩:=q2 hi;simp only[n0,ft,fN,lQ hi];refine dZ (dZ (nm (eh ?_)));refine dZ (m:=setField (.ref it) 0 .none) (iE ho hd 47 ?_);refine dZ (m:=newExc (.type "StopIteration") []) ?_;simp only[newExc,newTuple];refine dZ (fX (dZ (m:=firstArgMember _ _) (lu (a:=Value.none) rfl (fX ?_ (by size_fits)))) (by size_fits));unfold raiseNew;refine dZ (wpAny_handled ?_);rw[show A.in1.handled=none from hh];refine dZ (eh (wpAny_throw ?_));exact dZ (iF (T := "StopIteration") (b:=true) ⟨_,fg _ rfl,rfl⟩ isSubtype_stop (eh (q _ (((lW ..).extBut.push _).push _))))
theorem ZbL{Q:81->70}(nG:s.heap.IsKeyIter it d i es.size ep)(m:qw s.heap d es ep)(hi:i<es.size)
  (q:∀h',h'.IsKeyIter it d (i+1) es.size ep->Heap.SameBut it s.heap h'->Q (some es[i].key) 80) :
  65 (pyNext (.ref it)) Q E s:=jk nG m (fun _=>q) fun h=>nu hi 21
theorem ZbD{Q:81->70}(hh:A.handled=none)(hi:es.size<=i)(nG:s.heap.IsKeyIter it d i es.size ep)(m:qw s.heap d es ep)
  (q:∀h',Heap.ExtBut it s.heap h'->Q none 80):65 (pyNext (.ref it)) Q E s:=jk nG m (fun h=>nu hi 21) fun _=>⟨hh,q⟩
end
open PySem.W
section
variable{K1 K2:Type}[DecidableEq K1][DecidableEq K2](k1:KeyKind prog w K1)(k2:KeyKind prog w K2)
def qL(h:Heap)(x:K1×List K2)(a:Addr):Prop:=∃o v b n,h.get? a=some o/\o.cls=.type "tuple" /\ o.data=.seq #[v,.ref b] n/\k1.is x.1 v=true/\IsTupleKey k2 h x.2 b
variable{k1 k2}
theorem qL.typeIs{x:K1×List K2}(y:qL k1 k2 s.heap x a):s.TypeIs (.ref a) "tuple" := let ⟨o,_,_,_,ho,hc,_⟩:=y; ⟨o,ho,hc⟩
theorem qL.inj{h:Heap}{a:Addr}{x y:K1×List K2}(hx:qL k1 k2 h x a)(hy:qL k1 k2 h y a):x=y:=by
 obtain⟨o,v,b,n,ho,_,hd,h1,h2⟩:=hx;obtain⟨o',v',b',n',pL,_,rO,Na,Iq⟩:=hy;obtain rfl:o=o':=fc (ho.symm.trans pL);rw[hd] at rO;injection rO with e _;injection e with e;injection e with e1 e2;injection e2 with e2 _;injection e2 with e2;subst e1;subst e2;exact Prod.ext (k1.inj _ _ _ h1 Na) (h2.inj Iq)
theorem qL.keeps{h h':Heap}{x:K1×List K2}{a d:Addr}{o:Obj}{es ep}(y:qL k1 k2 h x a)(ho:h.get? d=some o)(hd:o.data=.dict es ep)(hs:Heap.SameBut d h h'):qL k1 k2 h' x a:=by
 obtain⟨o',v,b,n,pL,hc,rO,h1,h2⟩:=y;have nM:a≠d:=by
  rintro rfl;obtain rfl:o'=o:=fc (pL.symm.trans ho);rw[hd] at rO;exact nomatch rO
 exact⟨o',v,b,n,(hs.2 a nM).trans pL,hc,rO,h1,h2.keeps ho hd hs⟩
def Zdk(k1:KeyKind prog w K1)(k2:KeyKind prog w K2)(x:K1×List K2):Int:=reduceHash (Builtin.Tuple.tupleHashOf [k1.hash x.1,tupleKeyHash k2 x.2])
theorem ZaR{x:K1×List K2}{Q:Int->70}(hu:A.units+1<cLine)(hk:qL k1 k2 s.heap x a)(h:Q (Zdk k1 k2 x) { s with toks:=s.toks+(x.2.length+3) }) :
  65 (pyHash (.ref a)) Q E s:=by
 have hT:=hk.typeIs;obtain⟨o,v,b,n,ho,_,hd,h1,h2⟩:=hk;refine pyHash_slot (T := "tuple") hT F.slot_tuple_hash F.entry_tuple_hash (F.args_tuple_hash_1 _) (beq_builtin_none _) (.inr 21) ?_
 show 79 (Builtin.Tuple.tupleItemsOf (.ref a) >>= _) _ _ s
 refine dZ (wpAny_tupleItemsOf ho hd ?_);refine dZ ?_;rw[<- lY]
 show 79 (forIn [v,Value.ref b] _ _) _ _ s
 rw[ic];refine dZ (dZ (k1.pyHash h1 ?_))
 first
  |refine eh ?_
  |refine dZ (eh (eh ?_))
 show 79 (forIn [Value.ref b] _ _) _ _ _
 rw[ic];refine dZ (dZ (wpAny_pyHash_tuple (knd:=k2) (ks:=x.2) (by simp only[ly];lia) h2 ?_))
 first
  |refine eh ?_
  |refine dZ (eh (eh ?_))
 show 79 (forIn ([]:71) _ _) _ _ _
 rw[lZ];refine eh ?_
 show 79 (retInt (Builtin.Tuple.tupleHashOf [k1.hash x.1,tupleKeyHash k2 x.2])) _ _ _
 refine dZ (wpAny_mkInt (eh ⟨_,_,rfl,?_⟩));have e:s.toks+(x.2.length+3)=s.toks+1+(x.2.length+1)+1:=by lia
 rw[e] at h;exact h
theorem KZ{x y:K1×List K2}{b:Addr}{P:Fin->70}(hu:A.units<cLine)(hx:qL k1 k2 s.heap x a)(hy:qL k1 k2 s.heap y b)(h:P (.done (.ret (.bool (decide (x=y))))) s) :
  65 (Builtin.«tuple.__eq__» ⟨[.ref a,.ref b],[]⟩) P E s:=by
 have OJ:=hy.typeIs;obtain⟨oa,u,p,na,OO,_,N7,EQ,DA⟩:=hx;obtain⟨ob,v,q,nb,EJ,_,pB,tz,pK⟩:=hy;have hd:decide (x=y)=(decide (x.1=y.1)&&decide (x.2=y.2)):=by
  obtain⟨x1,x2⟩:=x;obtain⟨y1,y2⟩:=y
  by_cases e1:x1=y1<;>by_cases e2:x2=y2<;>simp[e1,e2]
 show 79 (isInstance (.ref b) (.type "tuple") >>= _) _ _ s
 refine dZ (iF OJ isSubtype_tuple_tuple ?_);simp only[g7,fJ,ft];refine dZ (wpAny_tupleItemsOf OO N7 ?_);refine dZ (wpAny_tupleItemsOf EJ pB ?_);refine dZ ?_
 show 79 (forIn [(u,v),(Value.ref p,Value.ref q)] _ _) _ _ s
 rw[ic];refine dZ (dZ (k1.eqBool (a:=x.1) (b:=y.1) EQ tz ?_))
 by_cases e1:x.1=y.1
 ·rw[fQ e1];simp only[g7,fJ,ft];refine eh ?_
  show 79 (forIn [(Value.ref p,Value.ref q)] _ _) _ _ s
  rw[ic];refine dZ (dZ (wpAny_eqBool_tuple (knd:=k2) hu DA pK ?_))
  by_cases e2:x.2=y.2
  ·rw[fQ e2];simp only[g7,fJ,ft];refine eh ?_
   show 79 (forIn ([]:List (Value×Value)) _ _) _ _ s
   rw[lZ];refine eh (eh ?_);rw[hd,fQ e1,fQ e2] at h;exact h
  ·rw[fE e2];simp only[Bool.not_false,gj];rw[hd,fE e2,lp] at h;exact dZ (eh (eh (eh (eh h))))
 ·rw[fE e1];simp only[Bool.not_false,gj];rw[hd,fE e1,gW] at h;exact dZ (eh (eh (eh (eh h))))
theorem ZaY{x y:K1×List K2}{b:Addr}{Q:Bool->70}(hu:A.units+1<cLine)(hx:qL k1 k2 s.heap x a)(hy:qL k1 k2 s.heap y b)(h:Q (decide (x=y)) s) :
  65 (eqBool (.ref a) (.ref b)) Q E s:=by
 unfold eqBool
 try with_reducible refine fU ?_
 show 79 (if(Value.ref a==Value.ref b)=true then _ else _) Q E s
 by_cases Ai:(Value.ref a==Value.ref b)=true
 ·rw[nt Ai];have e:a=b:=by have:=eq_of_beq Ai;injection this
  subst e;obtain rfl:=hx.inj hy;exact dZ (iB (eh (by simpa using h)))
 ·rw[nn Ai];exact dZ (wpAny_richCompare_same_room (op:=.Eq) hx.typeIs hy.typeIs F.slot_tuple_eq (fW F.slot_tuple_eq hx.typeIs F.entry_tuple_eq (KZ (by simp only[ly];lia) hx hy ⟨_,rfl,(fun e=>nomatch e),gC h⟩) (F.args_tuple_eq_2 _ _)) 21)
theorem kM{ks:List K2}{Q:Bool->70}(n:Nat)(hk:IsTupleKey k2 s.heap ks a)(h:Q true s):65 (eqIsQuiet (n+1) (.ref a)) Q E s:=by
 have hT:=hk.typeIs;obtain⟨o,items,n,ho,_,hd,hi⟩:=hk;unfold eqIsQuiet;refine dZ (iU hT F.slot_tuple_eq.lookup ?_)
 show 79 (isInstance (.ref a) (.type "tuple") >>= _) _ _ s
 refine dZ (iF hT isSubtype_tuple_tuple ?_);simp only[g7,fJ,ft];refine dZ (iA ho hd ?_);refine dZ ?_
 show 79 (forIn items _ _) _ _ s
 rw[<- lY];refine wpAny_forIn_list _ (fun XB r s'=>r.1=none/\s'=s/\∀v∈XB,carriedByValue v=true) _ ?_ ?_ _ _ ⟨rfl,rfl,hi.byValue⟩
 ·rintro v XB r s' ⟨hr,rfl,nJ⟩;rw[eqIsQuiet_byValue _ (nJ v gU)];refine dZ (eh ?_);simp only[g7,fJ,ft];exact eh ⟨rfl,rfl,fun u R4=>nJ u (eT _ R4)⟩
 ·rintro⟨r1,r2⟩ s' ⟨hr,rfl,_⟩;simp only at hr;subst hr;exact eh h
theorem Zb0{x:K1×List K2}{Q:Bool->70}(hk:qL k1 k2 s.heap x a)(h:Q true s):65 (eqIsQuiet 8 (.ref a)) Q E s:=by
 have hT:=hk.typeIs;obtain⟨o,v,b,n,ho,_,hd,h1,h2⟩:=hk;unfold eqIsQuiet;refine dZ (iU hT F.slot_tuple_eq.lookup ?_)
 show 79 (isInstance (.ref a) (.type "tuple") >>= _) _ _ s
 refine dZ (iF hT isSubtype_tuple_tuple ?_);simp only[g7,fJ,ft];refine dZ (iA ho hd ?_);refine dZ ?_;rw[<- lY]
 show 79 (forIn [v,Value.ref b] _ _) _ _ s
 rw[ic,eqIsQuiet_byValue _ (k1.byValue _ _ h1)];refine dZ (dZ (eh ?_));simp only[g7,fJ,ft];refine eh ?_
 show 79 (forIn [Value.ref b] _ _) _ _ s
 rw[ic];refine dZ (dZ (kM 6 h2 ?_));simp only[g7,fJ,ft];refine eh ?_
 show 79 (forIn ([]:71) _ _) _ _ s
 rw[lZ];exact eh (eh h)
end
abbrev TEm:=St->Hp->(St->Hp->Prop)->Prop
def PEm(X:Cx)(em:Sem Unit)(t:TEm):Prop:=
 ∀(cQ:74) (s:Shared) (σ:St) (H:Hp) (Q:St->Hp->Prop),L2.Inv X cQ σ H s->t σ H Q->31 X.A em (fun _ s'=>∃σ' H',L2.Inv X cQ σ' H' s'/\Q σ' H') X.xe s
def Zan(J:It)(g:TG)(tt:TT)(em:TEm)(σ0:St)(H1:Hp)(Q:St->Hp->Prop):Prop:=
 ∃W:Nat->Nat->St->Hp->Prop,(∃m,W 0 m σ0 H1)/\∀i m σ' H',W i m σ' H'->(J.stop i H'/\Q σ' H') \/
  (J.go i H'/\∃N:St->Hp->Prop,(∀σ2 H5,N σ2 H5->∃m',m'<m/\W (i+1) m' σ2 H5)/\∀x H2,J.yld i H' x H2->g x σ' H2 fun σ2 H3=>tt σ2 H3 fun c H4=>if c=true then em σ2 H4 N else N σ2 H4)
def Qk(p:Pos)(tg:Expr)(oh:List Expr)(it:Value)(env:Env)(body:Sem Unit)(c:Code):Sem Fin:=do
 standAt p
 match <- pyNext it with
 |none=>pure (.done .next)
 |some v=>
  letOwnedTupleGo tg it v
  assign tg env v
  let mut ok:=true
  for c in oh do
   if ok then ok <- isTrue c env (eval c env)
  if ok then body
  again c
theorem Zc8{d:Nat}{it:Value}(h:(Code.compLoop e d it acc env).isFrame=false) :
  (model prog w).den (.compLoop e d it acc env)=(compTurn e d it acc env).onRaise (fun x=>do noteFrame x env;theTreesLotGoes x):=by
 show(if(Code.compLoop e d it acc env).isFrame then(compTurn e d it acc env).onRaise (leaving env) else(compTurn e d it acc env).onRaise (fun x=>do noteFrame x env;theTreesLotGoes x))=_
 rw[h];rfl
theorem ZbJ{d:Nat}{it:Value}(h:(Code.compStart e d it acc env).isFrame=false) :
  (model prog w).den (.compStart e d it acc env)=(compStart e d it acc env).onRaise (fun x=>do noteFrame x env;standAt theWindowsPlace):=by
 show(if(Code.compStart e d it acc env).isFrame then(compStart e d it acc env).onRaise (leaving env) else(compStart e d it acc env).onRaise (fun x=>do noteFrame x env;standAt theWindowsPlace))=_
 rw[h];rfl
theorem Zbc{d:Nat}{it:Value}(cl:(clausesOf e)[d]?=some ⟨tg,iter,oh,0⟩)(hf:(Code.compStart e d it acc env).isFrame=false)
  (h0:codeAny (model prog w) A (.compLoop e d it acc env) R s)
  (h:65 (pyIter it) (fun AE s'=>codeAny (model prog w) A (.compLoop e d AE acc env) R s') (fun _ _=>False) s) (hu:A.under (.compStart e d it acc env)=A:=by rfl) (hq:∀AE,(Code.compLoop e d AE acc env).quiet=true:=by intro _;rfl) :
  codeAny (model prog w) A (.compStart e d it acc env) R s:=by
 refine codeAny_of_tree ?_;rw[ZbJ hf,hu];refine wpAny_notedAt ?_;unfold compStart;rw[cl]
 show wpAny _ A (ask >>= _) _ _ s
 refine dZ (lS (wpAny_ite ?_))
 split
 ·first
   |exact dZ (eh (eh (And.intro (hq _) h0)))
   |exact eh (And.intro (hq _) h0)
 ·first
   |exact dZ (iB (dZ (lA (dZ (JI h fun AE s' h'=>eh (And.intro (hq _) h'))))))
   | (refine dZ (iB ?_);show 79 (standAt iter.pos >>= _) _ _ s;exact dZ (lA (dZ (JI h fun AE s' h'=>eh (And.intro (hq _) h')))))
section
variable{Y:Cx}{σ0:St}{tn:Nat->Heap->Prop}{g:TG}{em:TEm}{p:Pos}{body:Sem Unit}{d:Nat}{Q:St->Hp->Prop}
theorem Zer(hf:(Code.compLoop e d (.ref it) acc Y.env).isFrame=false)(ht:compTurn e d (.ref it) acc Y.env=Qk p tg oh (.ref it) Y.env body (.compLoop e d (.ref it) acc Y.env))
  (T:J9 Y.prog Y.w Y.K tg J fp it tn) (I:L2.Inv Y cQ σ0 H1 s) (st:tn 0 s.heap) (EK:∀b∈fp,qd Y cQ H1 b) (hc:Y.calm=true) (hx:Y.xe=fun _ _=>False)
  (hg:PG Y tg g) (hT:PTs Y oh tt) (he:PEm Y body em) (h:Zan J g tt em σ0 H1 Q) (hR:∀σ' H' s',L2.Inv Y cQ σ' H' s'->Q σ' H'->R (.ok .next) s')
  (hu:Y.A.under (.compLoop e d (.ref it) acc Y.env)=Y.A:=by rfl) (hq:(Code.compLoop e d (.ref it) acc Y.env).quiet=true:=by rfl) :
  codeAny (model Y.prog Y.w) Y.A (.compLoop e d (.ref it) acc Y.env) R s:=by
 obtain⟨W,⟨m0,w0⟩,se⟩:=h;have rc:∀{H':Hp},(∀b∈fp,H' b=none)->∀b∈fp,qd Y cQ H' b:=fun {H'} hn b hb=>by
  obtain⟨f0,fr⟩:=EK b hb;exact⟨hn b hb,fr⟩
 unfold PG at hg;unfold PTs at hT;unfold PEm at he;rw[hx] at hg hT he;refine codeAny_loop hq (fun n s'=>∃i σ' H',L2.Inv Y cQ σ' H' s'/\tn i s'.heap/\(∀b∈fp,H' b=none)/\W i n σ' H') ?_ m0 ⟨0,σ0,H1,I,st,fun b hb=>(EK b hb).1,w0⟩;rintro n s5 ⟨i,σ5,H5,I5,rE,Dd,w5⟩;rw[Zc8 hf,hu,ht];refine wpAny_noted ?_;unfold Qk;have TI:=T.item Y rfl rfl rfl hc i cQ s5 σ5 H5 (fun _ _=>False) I5 (rc Dd) rE;have TD:=T.done Y rfl rfl rfl hc i cQ s5 σ5 H5 (fun _ _=>False) I5 (rc Dd) rE;rcases se i n σ5 H5 w5 with⟨stop,qn⟩|⟨go,N,hN,step⟩
 ·refine dZ (lA (dZ (JI (TD stop) fun r s6 ⟨hr,I6⟩=>?_)));subst hr;exact eh (hR _ _ _ I6 qn)
 ·refine dZ (lA (dZ (JI (TI go) fun r s6 ⟨u,hr,h6⟩=>?_)));subst hr;refine dZ (JI h6 fun _ s7 ⟨x,H7,I7,r7,y7,uG,Oi⟩=>?_);have SV:=I7.pinned (rc Oi) (T.obj _ _ uG);refine dZ (JI (hg _ s7 σ5 H7 x u _ SV r7 (step x H7 y7)) fun _ s8 ⟨σ8,H8,I8,q8⟩=>?_);refine dZ (JI (hT _ s8 σ8 H8 _ I8 q8) fun c s9 ⟨H9,I9,q9⟩=>?_);have Al:∀{σa:St}{Ha:Hp}{sa:Shared},L2.Inv Y (cQ++xw fp s7.heap) σa Ha sa->(∃m',m'<n/\W (i+1) m' σa Ha)->∃m,m<n/\∃i σ' H',L2.Inv Y cQ σ' H' sa/\tn i sa.heap/\(∀b∈fp,H' b=none)/\W i m σ' H':=fun {σa Ha sa} Ia ⟨m',hm,wa⟩=>by
   refine⟨m',hm,i+1,σa,Ha,Ia.unpinned,T.keep _ _ _ uG fun b hb o e=>(Ia.pin (b,o) (fC _ (fC _ (Uz hb e)))).1,fun b hb=>?_,wa⟩;obtain⟨o,e,d⟩:=T.obj _ _ uG b hb;exact(Ia.pin (b,o) (fC _ (fC _ (Uz hb e)))).2.1
  cases c with
  |false=>exact eh ⟨rfl,Al I9 (hN _ _ (by simpa using q9))⟩
  |true=>
   rw[nt rfl] at q9;exact dZ (JI (he _ s9 σ8 H9 _ I9 q9) fun _ Eh ⟨σ10,Dr,OS,EH⟩=>eh ⟨rfl,Al OS (hN _ _ EH)⟩)
end
def ZdP(wi:TI)(ix:List (Option Nat))(o0:Addr->HO)(g:TG)(tt:TT)(em:Addr->TEm):TE:=fun σ H Q=>wi σ H fun J H1=>∀D,H1 D=none->Zan J g tt (em D) (sub ix σ) (upd H1 D (o0 D)) (fun _ H'=>Q (.ref D) H')
section
variable{Nc:List Str}{ix:List (Option Nat)}
theorem jh{XB:List Comprehension}{nA:Sem Value}{o0:Addr->HO}{g:TG}{em:Addr->TEm}{Q:VK}
  (I:L2.Inv X cQ σ H s) (h:ZdP wi ix o0 g tt em σ H Q)
  (nE:∀(D C:Addr) (H':Hp) (s':Shared) (m:Str->81),L2.Inv X cQ σ H' s'->qd X cQ H' C->s'.heap.Ns C m->Q (.ref D) H'->compPost (model X.prog X.w) X.A X.xe use QV (.ref D) C (.ok .next) s')
  (pA:clausesOf e=⟨tg,iter,oh,0⟩::XB) (Ae:∀it acc env,(Code.compLoop e 0 it acc env).isFrame=false/\(Code.compStart e 0 it acc env).isFrame=false)
  (Nm:∀it D env,compTurn e 0 it (.ref D) env=Qk iter.pos tg oh it env (bd D env) (.compLoop e 0 it (.ref D) env))
  (IW:∀(A:Around) it acc env,A.under (.compLoop e 0 it acc env)=A/\A.under (.compStart e 0 it acc env)=A) (LA:∀it acc env,(Code.compLoop e 0 it acc env).quiet=true)
  (NH:∀(A:Around) (E:Value->70) (Q:Value->70) (s:Shared),Q (.ref s.heap.objs.size) { s with heap:=s.heap.push ob }->31 A nA Q E s)
  (oG:∀s2:Shared,∀H1,L2.Inv X cQ σ H1 s2->L2.Inv X cQ σ (upd H1 s2.heap.objs.size (o0 s2.heap.objs.size)) { s2 with heap:=s2.heap.push ob })
  (ok:ZX X.env.scope X.N Nc ix scope) (hc:X.calm=true) (hi:PI X tg iter wi)
  (hg:∀cl C s H fp,PG 83 tg g) (ht:∀cl C s H fp,PTs 83 oh tt) (he:∀cl C s H fp D,PEm 83 (bd D (compEnvC scope cl C X.env)) (em D))
  (hs:∀x,foldedSetIterable iter X.env x=pure x:=by intro _;rfl):31 X.A (comprehension e scope X.env pV nA false (eval iter X.env) use) QV X.xe s:=by
 refine wpAny_comprehension_free (use:=use) (cl:=X1 scope X.env) pA hs (ZeV (ya I ok)) ok.kind ok.names (thn (hi cQ s σ H _ I h) fun v s1 q1=>thn q1 fun FI s2 q2=>?_);obtain⟨it,fp,tn,J,H1,e1,I2,T,oE,f2,q⟩:=q2;subst e1;have hD:H1 s2.heap.objs.size=none:=I2.hok.fresh (eE _);have lw:=q _ hD;refine NH _ _ _ _ ?_;have I3:=oG s2 H1 I2;have FS:=T.obj 0 _ oE;have f3:∀b∈fp,qd X cQ (upd H1 s2.heap.objs.size (o0 s2.heap.objs.size)) b:=fun b hb=>by
  obtain⟨o,e,_⟩:=FS b hb;obtain⟨f0,fr⟩:=f2 b hb;exact⟨by rw[Zo (eQ (eP e))];exact f0,fr⟩
 have pO:tn 0 (s2.heap.push ob):=T.keep 0 _ _ oE fun b _ o e=>eN _ e;generalize Cz:({ s2 with heap:=s2.heap.push ob }:Shared)=s3 at I3 ⊢;have sd:tn 0 s3.heap:=by rw[<- Cz];exact pO
 refine wpAny_newFunctionEnv ok.nocell (by intro y hy;simp at hy) (fun h1 CW tE=>?_) ok.kind;have k1:∀b o,s3.heap.get? b=some o->h1.get? b=some o:=fun b o e=>(tE.2 b (eQ (eP e))).trans (eN _ e);have Bn:∀b∈fp,∃o,s3.heap.get? b=some o:=fun b hb=>let ⟨o,e,_⟩:=T.obj 0 _ sd b hb; ⟨o,e⟩
 have I4:L2.Inv (YR X Nc scope (X1 scope X.env) s3.heap.objs.size s3 (upd H1 s2.heap.objs.size (o0 s2.heap.objs.size)) fp) cQ (sub ix σ) (upd H1 s2.heap.objs.size (o0 s2.heap.objs.size)) { s3 with heap:=h1,toks:=s3.toks+([]:List (Str×Value)).length }:=
  KO I3 ok f3 Bn CW k1
 have rM:tn 0 h1:=T.keep 0 _ _ sd fun b _ o e=>k1 b o e;have hC:s3.heap.get? s3.heap.objs.size=none:=Heap.get?_none_of_le (eE _);have f4:∀b∈fp,qd (YR X Nc scope (X1 scope X.env) s3.heap.objs.size s3 (upd H1 s2.heap.objs.size (o0 s2.heap.objs.size)) fp) cQ (upd H1 s2.heap.objs.size (o0 s2.heap.objs.size)) b:=fun b hb=>by
  obtain⟨o,e⟩:=Bn b hb;obtain⟨f0,f1,ff,f3',f4,f5⟩:=f3 b hb;have NO:b∉frs X.stack:=fun z=>by
   rcases eU.mp (I3.stkSub b z) with z|z
   ·exact f1 z
   ·exact ff z
  exact⟨f0,eQ (eP e),NO,.inl hb,fun x c q=>f4 x c (Wh (ya I3 ok) q),f5⟩
 have Bo:=Zer (Y:=YR X Nc scope (X1 scope X.env) s3.heap.objs.size s3 (upd H1 s2.heap.objs.size (o0 s2.heap.objs.size)) fp) (e:=e) (d:=0) (acc:=.ref s2.heap.objs.size) (p:=iter.pos) (R:=compPost (model X.prog X.w) X.A X.xe use QV (.ref s2.heap.objs.size) s3.heap.objs.size)
  (Ae _ _ _).1 (Nm _ _ _) T I4 rM f4 hc rfl (hg _ _ _ _ _) (ht _ _ _ _ _) (he _ _ _ _ _ _) lw (fun σ' H' s' J' qq=>by
   obtain⟨m',Dt,_⟩:=id J'.loc;have AX:H' s3.heap.objs.size=none:=J'.free;exact nE _ _ H' s' m' (ZdX (h':=s'.heap) I3 f3 hC J' (.refl ..)) (I3.fpOk (eE _) AX) Dt qq) (IW _ _ _ _).1 (LA _ _ _)
 exact Zbc (by rw[pA];rfl) (Ae _ _ _).2 Bo (T.self X.A 0 _ _ _ rM Bo) (IW _ _ _ _).2 (fun _=>LA _ _ _)
end
theorem Jq{g:TG}{em:TEm}{σ0:St}{Q:St->Hp->Prop}(Pv:Nat->St->Hp->Prop)(h0:Pv 0 σ0 H0)
  (wd:∀i σ H,i<n->Pv i σ H->J.go i H) (nB:∀σ H,Pv n σ H->J.stop n H)
  (hs:∀i x σ H H2,i<n->Pv i σ H->J.yld i H x H2->∀(N:St->Hp->Prop),(∀σ2 H4,Pv (i+1) σ2 H4->N σ2 H4) -> g x σ H2 fun σ2 H3=>tt σ2 H3 fun c H4=>if c=true then em σ2 H4 N else N σ2 H4)
  (hd:∀σ H,Pv n σ H->Q σ H):Zan J g tt em σ0 H0 Q:=by
 refine⟨fun i m σ H=>m=n-i/\i<=n/\Pv i σ H,⟨n,by simp,fu _,h0⟩,?_⟩;rintro i m σ H ⟨rfl,hi,p⟩
 by_cases nH:i<n
 ·refine .inr ⟨wd i σ H nH p,fun σ2 H4=>Pv (i+1) σ2 H4,fun σ2 H4 q=>⟨n-(i+1),by lia,rfl,nH,q⟩,fun x H2 y=>hs i x σ H H2 nH p y _ fun σ2 H4 q=>q⟩
 ·have:i=n:=by lia
  subst this;exact .inl ⟨nB σ H p,hd σ H p⟩
def emL(te:TE)(D:Addr):TEm:=fun σ H Q=>te σ H fun v H5=>∃xs,H5 D=some (.lst xs)/\xs.length<sizeLine/\Q σ (upd H5 D (.lst (xs++[v])))
theorem Zcp{Y:Cx}(h:PE Y rZ te):PEm Y (do let _ <- call (.builtin "list.append") [.ref D,<- eval rZ Y.env]) (emL te D):=by
 intro cQ s σ H Q I q;refine dZ (thn (h cQ s σ H _ I q) fun z s1 ⟨v,H1,I1,r1,xs,hx,hz,q1⟩=>?_);have ap:=Z9 (X:=Y) cQ s1 σ H1 (.ref D) [v] (.ref D) [z] (fun _ Hb=>Q σ Hb) I1 rfl (.cons r1 .nil) ⟨_,xs,v,rfl,rfl,hx,hz,q1⟩;exact dZ (thn ap fun _ s11 ⟨_,GV,Sx,_,Rr⟩=>eh ⟨σ,GV,Sx,Rr⟩)
def emD(tk tv:TE)(D:Addr):TEm:=fun σ H Q=>tk σ H fun y H5=>tv σ H5 fun v H6=>∃H7,yC H6 D y v H7/\Q σ H7
section
variable{σ:L2.St}{r:Value}
theorem Zha{Q:Unit->70}(hu:A.units<cLine)(I:L2.Inv X cQ σ H s)(g:yC H a y v H')(ry:ZL y u)(rv:ZL v r)(h:∀s',L2.Inv X cQ σ H' s'->Q () s') :
  31 A (dictSet a u r) Q E s:=by
 rcases g with⟨kvs,k,e,ey,l,eH⟩|⟨kvs,k,b,e,ey,eb,l,eH⟩
 ·subst ey eH;obtain⟨z,hd,vs,nI,dd⟩:=Zc2 I.hok e;have hz:vs.length<=sizeLine:=by rw[<- nI.length];exact z
  have hl:(Xr kvs k v).length<=sizeLine:=by have:=Xp kvs k v;lia
  refine wpAny_dictSet_pairs (hsz:=hz) (jB ry) dd fun h' pU hs=>h _ ?_;have he:∃q,h'.get? a=some q:=let ⟨q,_,_,hq,_⟩:=pU; ⟨q,hq⟩
  exact VC I (by rw[e];exact True.intro) hs he (Qq hl hd (nI.put k rv) pU)
 ·subst ey eH;cases (show u=Value.ref b from ry);obtain⟨z,hd,xs,nI,dd⟩:=Zfo I.hok e;have hz:xs.length<=sizeLine:=by rw[<- i4 nI];exact z
  have hl:(Xr kvs k v).length<=sizeLine:=by have:=Xp kvs k v;lia
  refine wpAny_dictSet_heap (hsz:=hz) hu (xg I.hok eb) dd fun h' pU hs=>h _ ?_;obtain⟨q,es,ep,hq,h2,h3,h4,_,h5⟩:=pU;refine VC I (by rw[e];exact True.intro) hs ⟨q,hq⟩ ⟨hl,hd,_,(nI.put k eb rv).keeps fun c ys ec=>?_,q,es,ep,hq,h2,h3,h4,h5⟩;rw[Zo (VD ec e (fun z=>nomatch z))];exact ec
end
theorem Zcz{Y:Cx}{kx vx:Expr}{tk:TE}(hu:Y.A.units<cLine)(hk:PE Y kx tk)(hv:PE Y vx tv):PEm Y (do
   let kv <- eval kx Y.env
   let vv <- holding [kv] (eval vx Y.env)
   standAt { kx.pos with endLine:=vx.pos.endLine,endCol:=vx.pos.endCol }
   holding [kv,vv] (dictSet D kv vv)) (emD tk tv D):=by
 intro cQ s σ H Q I q;refine dZ (thn (hk cQ s σ H _ I q) fun z s1 ⟨y,H1,I1,r1,q1⟩=>?_);refine dZ (fU (thn (hv cQ s1 σ H1 _ I1 q1) fun z2 s2 ⟨v,H2,I2,r2,H3,hp,q2⟩=>?_));exact dZ (lA (fU (Zha hu I2 hp r1 r2 fun s' I'=>⟨σ,H3,I',q2⟩)))
section
variable{Nc:List Str}{ix:List (Option Nat)}
theorem ZbE{s2:Shared}(I2:L2.Inv X cQ σ H1 s2):L2.Inv X cQ σ (upd H1 s2.heap.objs.size (.lst [])) { s2 with heap:=s2.heap.push { cls:=.type "list",data:=.seq ([]:71).toArray } }:=
 I2.laid (t':=s2.toks) (fun b u e=>eN _ e) (eE _) ⟨fu _,[],0,.nil,fg _ rfl⟩
theorem Qp{x:Str}{D:vw}{L:Addr}{m:Str->81}(hN:X.N.Nodup)(hi:X.N[i]?=some x)(hx:X.env.kindOf x=some .local)(I':L2.Inv X cQ σ H' s')(f:qd X cQ H' C)(hn:s'.heap.Ns C m)(qq:D.nx (σ.set i (some (.ref L))) H') :
  compPost (model X.prog X.w) X.A X.xe (some (assign (.Name x nU) X.env)) (fun _ s'=>SP X cQ D .next s') (.ref L) C (.ok .next) s':=by
 obtain⟨f0,f1,f2,f3,f4,f5⟩:=f;refine wpAny_assign_Name (jX (v:=.ref L) I' hN hi (.inl hx) rfl (fun s2 I2 ⟨a,sb,ha⟩=>?_) (.inr hx));have Th:C≠a:=by
  rintro rfl;rcases ha with z|z
  ·exact f1 z
  ·exact f4 _ _ z rfl
 exact⟨m,hn.sameBut sb Th,fun h' NU=>⟨_,H',I2.turned (t':=s2.toks) (fun b o hb e=>(NU.2 b hb).trans e) f0 f1 f3 f4 f5,qq⟩⟩
theorem ZaP{kx vx:Expr}{g:TG}{tk:TE}{o0:HO}(h0:o0=.dK []\/o0=.dT [])(ok:ZX X.env.scope X.N Nc ix scope)(hu:X.A.units<cLine)(hc:X.calm=true)(hi:PI X tg iter wi)
  (hg:∀cl C s H fp,PG 83 tg g) (ht:∀cl C s H fp,PTs 83 oh tt)
  (hk:∀cl C s H fp,PE 83 kx tk) (hv:∀cl C s H fp,PE 83 vx tv)
  (hs:∀x,foldedSetIterable iter X.env x=pure x:=by intro _;rfl):PE X (.DictComp kx vx [⟨tg,iter,oh,0⟩] scope gT) (ZdP wi ix (fun _=>o0) g tt (fun D=>emD tk tv D)):=by
 intro cQ s σ H Q I h;rw[arm_eval_DictComp];refine jh (e:=.DictComp kx vx [⟨tg,iter,oh,0⟩] scope gT) (use:=none) (QV:=EP X cQ σ Q) (ob:={ cls:=.type "dict",data:=.dict #[] }) (bd:=fun D env=>do
   let kv <- eval kx env
   let vv <- holding [kv] (eval vx env)
   standAt { kx.pos with endLine:=vx.pos.endLine,endCol:=vx.pos.endCol }
   holding [kv,vv] (dictSet D kv vv)) I h (fun D C H' s' m I' f hn qq=>?_) rfl (fun _ _ _=>⟨rfl,rfl⟩) (fun _ _ _=>rfl) (fun _ _ _ _=>⟨rfl,rfl⟩) (fun _ _ _=>rfl)
  (fun _ _ _ _ q=>fX q) (fun s2 H1 I2=>?_) ok hc hi hg ht (fun cl C s H fp D=>Zcz (Y:=YR X Nc scope cl C s H fp) hu (hk cl C s H fp) (hv cl C s H fp)) hs
 ·obtain⟨f0,f1,f2,f3,f4,f5⟩:=f;exact⟨m,hn,fun h' sb=>⟨.ref D,H',I'.turned (t':=s'.toks) (fun b o hb e=>(sb.2 b hb).trans e) f0 f1 f3 f4 f5,rfl,qq⟩⟩
 ·rcases h0 with rfl|rfl
  ·exact I2.laid (t':=s2.toks) (fun b u e=>eN _ e) (eE _) (UP s2.heap I2.big)
  ·exact I2.laid (t':=s2.toks) (fun b u e=>eN _ e) (eE _) (ZbU s2.heap I2.big)
end
def zz(J:It)(D:Addr)(g:TG)(tt:TT)(te:TE)(σ0:St)(H1:Hp)(Q:VK):Prop:=Zan J g tt (emL te D) σ0 (upd H1 D (.lst [])) (fun _ H'=>Q (.ref D) H')
def Qn(wi:TI)(ix:List (Option Nat))(g:TG)(tt:TT)(te:TE):TE:=fun σ H Q=>wi σ H fun J H1=>∀D,H1 D=none->zz J D g tt te (sub ix σ) H1 Q
section
variable{Nc:List Str}{ix:List (Option Nat)}
theorem jD{g:TG}{Q:VK}(I:L2.Inv X cQ σ H s)(h:Qn wi ix g tt te σ H Q)
  (nE:∀(D C:Addr) (H':Hp) (s':Shared) (m:Str->81),L2.Inv X cQ σ H' s'->qd X cQ H' C->s'.heap.Ns C m->Q (.ref D) H'->compPost (model X.prog X.w) X.A X.xe use QV (.ref D) C (.ok .next) s')
  (ok:ZX X.env.scope X.N Nc ix scope) (hc:X.calm=true) (hi:PI X tg iter wi)
  (hg:∀cl C s H fp,PG 83 tg g) (ht:∀cl C s H fp,PTs 83 oh tt) (he:∀cl C s H fp,PE 83 rZ te)
  (hs:∀x,foldedSetIterable iter X.env x=pure x):31 X.A (comprehension (.ListComp rZ [⟨tg,iter,oh,0⟩] scope gT) scope X.env pV (newList []) false (eval iter X.env) use) QV X.xe s:=
 jh (em:=fun D=>emL te D) (o0:=fun _=>.lst []) (ob:={ cls:=.type "list",data:=.seq ([]:71).toArray }) (bd:=fun D env=>do let _ <- call (.builtin "list.append") [.ref D,<- eval rZ env]) I h nE rfl (fun _ _ _=>⟨rfl,rfl⟩) (fun _ _ _=>rfl) (fun _ _ _ _=>⟨rfl,rfl⟩) (fun _ _ _=>rfl)
  (fun _ _ _ _ q=>fX q) (fun _ _ I2=>ZbE I2) ok hc hi hg ht (fun cl C s H fp D=>Zcp (he cl C s H fp)) hs
theorem YC{g:TG}(ok:ZX X.env.scope X.N Nc ix scope)(hc:X.calm=true)(hi:PI X tg iter wi)
  (hg:∀cl C s H fp,PG 83 tg g) (ht:∀cl C s H fp,PTs 83 oh tt) (he:∀cl C s H fp,PE 83 rZ te)
  (hs:∀x,foldedSetIterable iter X.env x=pure x:=by intro _;rfl):PE X (.ListComp rZ [⟨tg,iter,oh,0⟩] scope gT) (Qn wi ix g tt te):=by
 intro cQ s σ H Q I h;rw[eval_ListComp];refine jD (use:=none) I h (fun D C H' s' m I' f hn qq=>?_) ok hc hi hg ht he hs;obtain⟨f0,f1,f2,f3,f4,f5⟩:=f;exact⟨m,hn,fun h' sb=>⟨.ref D,H',I'.turned (t':=s'.toks) (fun b o hb e=>(sb.2 b hb).trans e) f0 f1 f3 f4 f5,rfl,qq⟩⟩
theorem XV{x:Str}{Ao:Pos}{g:TG}(hN:X.N.Nodup)(hi:X.N[i]?=some x)(hx:X.env.kindOf x=some .local)
  (ok:ZX X.env.scope X.N Nc ix scope) (hc:X.calm=true) (nG:PI X tg iter wi)
  (hg:∀cl C s H fp,PG 83 tg g) (ht:∀cl C s H fp,PTs 83 oh tt) (he:∀cl C s H fp,PE 83 rZ te)
  (S1:swapsWith (.ListComp rZ [⟨tg,iter,oh,0⟩] scope gT) (some (.Name x nU)) Ao.line X.env=pure true:=by rfl)
  (hs:∀x,foldedSetIterable iter X.env x=pure x:=by intro _;rfl):PS X (.Assign [.Name x nU] (.ListComp rZ [⟨tg,iter,oh,0⟩] scope gT) Ao) (Zeh (Qn wi ix g tt te) (WA i)):=by
 intro cQ s σ H D I h;rw[exec_Assign_Name_used _ _ _ _ S1];refine dZ (lA (dZ ?_))
 show wpAny _ X.A (do let _ <- comprehension (.ListComp rZ [⟨tg,iter,oh,0⟩] scope gT) scope X.env _ (newList []) false (eval iter X.env) (some (assign (.Name x nU) X.env))) _ _ s
 refine dZ (thn (jD (use:=some (assign (.Name x nU) X.env)) (QV:=fun _ s'=>SP X cQ D .next s') I h (fun L C H' s' m I' f hn qq=>?_) ok hc nG hg ht he hs) fun _ s' q=>eh (eh q));exact Qp hN hi hx I' f hn qq
end
theorem Xx{g:TG}{σ0:St}{Q:VK}(Pv:Nat->St->Hp->Prop)(h0:Pv 0 σ0 (upd H0 D (.lst [])))
  (wd:∀i σ H,i<n->Pv i σ H->J.go i H) (nB:∀σ H,Pv n σ H->J.stop n H)
  (hs:∀i x σ H H2,i<n->Pv i σ H->J.yld i H x H2->∀(N:V->St->Hp->Prop) (N0:St->Hp->Prop),(∀v σ2 H5 ys,H5 D=some (.lst ys)->ys.length<sizeLine->Pv (i+1) σ2 (upd H5 D (.lst (ys++[v])))->N v σ2 H5)->(∀σ2 H4,Pv (i+1) σ2 H4->N0 σ2 H4) -> g x σ H2 fun σ2 H3=>tt σ2 H3 fun c H4=>if c=true then te σ2 H4 fun v H5=>N v σ2 H5 else N0 σ2 H4)
  (hd:∀σ H,Pv n σ H->Q (.ref D) H):zz J D g tt te σ0 H0 Q:=by
 refine Jq (n:=n) Pv h0 wd nB (fun i x σ H H2 hi p y N hN=>?_) hd;exact hs i x σ H H2 hi p y (fun v σ2 H5=>∃ys,H5 D=some (.lst ys)/\ys.length<sizeLine/\N σ2 (upd H5 D (.lst (ys++[v])))) N (fun v σ2 H5 ys a b c=>⟨ys,a,b,hN _ _ c⟩) hN
theorem WR{xs:List V}{Q:VK}(hD:H0 D=none)(hq:SqL K H0 a xs)(hz:xs.length<=sizeLine)(R:Nat->V->Hp->Prop)(mono:∀i v H H',Zf H H'->R i v H->R i v H')
  (step:∀i x H (N:V->Hp->Prop),xs[i]?=some x->Zf H0 H->(∀v H4,Zf H H4->R i v (New H H4)->N v H4)->te (some x::τ) H N)
  (nE:∀H' ys,H' D=some (.lst ys)->Zf H0 H'->ys.length=xs.length->(∀i v,ys[i]?=some v->R i v (New H0 H'))->Q (.ref D) H') :
  zz (Itl K a) D (WA 0) jt te (none::τ) H0 Q:=by
 refine Xx (n:=xs.length) (fun i σ H=>∃z ys,σ=z::τ/\H D=some (.lst ys)/\ys.length=i/\Zf H0 H/\∀j v,ys[j]?=some v->R j v (hide D (New H0 H))) ?_ ?_ ?_ ?_ ?_
 ·exact⟨none,[],rfl,Zc,rfl,Ze hD,fun j v e=>by simp at e⟩
 ·rintro i σ H hi ⟨z,ys,rfl,_,_,s,_⟩;exact⟨xs,xs[i],s.seq hq,by simp[hi]⟩
 ·rintro σ H ⟨z,ys,rfl,_,_,s,_⟩;exact⟨xs,s.seq hq,eE _⟩
 ·rintro i x σ H H2 hi ⟨z,ys,rfl,hy,hl,s,r⟩ ⟨rfl,hx⟩ N N0 hN rC
  show te (some x::τ) H2 _
  refine step i x H2 _ (hx xs (s.seq hq)) s fun v H4 s4 r4=>?_;refine hN v _ H4 ys (s4 _ _ hy) 21 ⟨some x,ys++[v],rfl,Zc,by rw[eK,fY,hl],?_,?_⟩
  ·exact(Zr.upd (Zf.x (s.trans s4))).same hD
  ·intro j w e
   by_cases hj:j<ys.length
   ·rw[fK hj] at e;refine mono j w _ _ ?_ (r j w e);intro b o hb;obtain⟨nb,hb⟩:=jH hb;obtain⟨h1,h2⟩:=New.of hb;exact Wl nb (New.mk h1 (by rw[Zo nb];exact s4 _ _ h2))
   ·have ej:j=ys.length:=by
     have:=(eY.mp e).1;rw[eK,fY] at this;lia
    subst ej;simp at e;subst e;rw[hl];refine mono i v _ _ ?_ r4;intro b o hb;obtain⟨h1,h2⟩:=New.of hb;have nb:b≠D:=fun z=>by subst z;rw[hy] at h1;cases h1
    exact Wl nb (New.mk (s.free h1) (by rw[Zo nb];exact h2))
 ·rintro σ H ⟨z,ys,rfl,hy,hl,s,r⟩;exact nE H ys hy s hl fun i v e=>mono i v _ _ Vf (r i v e)
theorem UV{N:V->Hp->Prop}{N0:Hp->Prop}(h:te σ H N):jt σ H fun c H4=>if c=true then te σ H4 N else N0 H4:=by
 show(if true=true then te σ H N else N0 H)
 rw[nt rfl];exact h
theorem qS{Q:VK}(l:List α)(φ:α->V)(p:α->Bool)(f:α->V)(hD:H0 D=none)(hz:l.length<=sizeLine)
  (wd:∀i H,i<l.length->Zf H0 H->J.go i H) (nB:∀H,Zf H0 H->J.stop l.length H) (hy:∀i x H H2 (h:i<l.length),Zf H0 H->J.yld i H x H2->H2=H/\x=φ l[i])
  (step:∀x∈l,∀H (N:V->Hp->Prop) (N0:Hp->Prop),Zf H0 H->(∀H4,Zf H H4->p x=true->N (f x) H4)->(∀H4,Zf H H4->p x=false->N0 H4)->tt (some (φ x)::τ) H fun c H4=>if c=true then te (some (φ x)::τ) H4 N else N0 H4)
  (nE:∀H',H' D=some (.lst ((l.filter p).map f))->Zf H0 H'->Q (.ref D) H'):zz J D (WA 0) tt te (none::τ) H0 Q:=by
 refine Xx (n:=l.length) (fun i σ H=>∃z,σ=z::τ/\H D=some (.lst (((l.take i).filter p).map f))/\Zf H0 H) ?_ ?_ ?_ ?_ ?_
 ·exact⟨none,rfl,Zc,Ze hD⟩
 ·rintro i σ H hi ⟨z,rfl,_,s⟩;exact wd i H hi s
 ·rintro σ H ⟨z,rfl,_,s⟩;exact nB H s
 ·rintro i x σ H H2 hi ⟨z,rfl,hd,s⟩ sX N N0 hN rC;obtain⟨rfl,rfl⟩:=hy i x H H2 hi s sX;have tk:(l.take (i+1)).filter p=(l.take i).filter p++[l[i]].filter p:=by rw[mJ hi,χ]
  have le:(((l.take i).filter p).map f).length<sizeLine:=by
   rw[eG];have:=List.length_filter_le p (l.take i);rw[fh] at this;lia
  refine step _ (fv hi) H2 (fun v H5=>N v (some (φ l[i])::τ) H5) (fun H4=>N0 (some (φ l[i])::τ) H4) s (fun H4 s4 hp=>?_) (fun H4 s4 hp=>?_)
  ·refine hN _ _ H4 _ (s4 _ _ hd) le ⟨_,rfl,?_,(Zr.upd (Zf.x (s.trans s4))).same hD⟩;rw[Zc,tk,mq hp,fo];rfl
  ·refine rC _ H4 ⟨_,rfl,?_,s.trans s4⟩;rw[s4 _ _ hd,tk,mr (by rw[hp];exact fB),Ω,gp]
 ·rintro σ H ⟨z,rfl,hd,s⟩;rw[i9] at hd;exact nE H hd s
theorem Zbe{Q:VK}(l:List α)(φ:α->V)(p:α->Bool)(f:α->V)(hD:H0 D=none)(hq:SqL K H0 a (l.map φ))(hz:l.length<=sizeLine)
  (step:∀x∈l,∀H (N:V->Hp->Prop) (N0:Hp->Prop),Zf H0 H->(∀H4,Zf H H4->p x=true->N (f x) H4)->(∀H4,Zf H H4->p x=false->N0 H4)->tt (some (φ x)::τ) H fun c H4=>if c=true then te (some (φ x)::τ) H4 N else N0 H4)
  (nE:∀H',H' D=some (.lst ((l.filter p).map f))->Zf H0 H'->Q (.ref D) H'):zz (Itl K a) D (WA 0) tt te (none::τ) H0 Q:=by
 refine qS l φ p f hD hz (fun i H hi s=>⟨_,φ l[i],s.seq hq,by rw[eO,eI hi];rfl⟩) (fun H s=>⟨_,s.seq hq,by rw[eG];exact eE _⟩) (fun i x H H2 hi s sX=>?_) step nE;obtain⟨rfl,hx⟩:=sX;have e:=hx _ (s.seq hq);rw[eO,eI hi] at e;exact⟨rfl,(fc e).symm⟩
theorem ZbG{Q:VK}(p:Nat->Bool)(f:Nat->V)(hD:H0 D=none)(hz:n<=sizeLine)
  (step:∀k,k<n->∀H (N:V->Hp->Prop) (N0:Hp->Prop),Zf H0 H->(∀H4,Zf H H4->p k=true->N (f k) H4)->(∀H4,Zf H H4->p k=false->N0 H4)->tt (some (.int (k:Nat))::τ) H fun c H4=>if c=true then te (some (.int (k:Nat))::τ) H4 N else N0 H4)
  (nE:∀H',H' D=some (.lst (((γ n).filter p).map f))->Zf H0 H'->Q (.ref D) H'):zz (Itr 0 n) D (WA 0) tt te (none::τ) H0 Q:=by
 refine qS (γ n) (fun k=>.int (k:Nat)) p f hD (by rw[fI];exact hz) (fun i H hi _=>by rw[fI] at hi;exact hi) (fun H _=>by rw[fI];exact eE _) (fun i x H H2 hi s sX=>?_) (fun x hx=>step x (gM.mp hx)) nE;obtain⟨rfl,rfl⟩:=sX;refine⟨rfl,?_⟩;rw[List.getElem_range,Int.zero_add]
theorem vi{Q:VK}(l:List α)(φ:α->V)(f:α->V)(hD:H0 D=none)(hq:SqL K H0 a (l.map φ))(hz:l.length<=sizeLine)
  (step:∀x∈l,∀H (N:V->Hp->Prop),Zf H0 H->(∀H4,Zf H H4->N (f x) H4)->te (some (φ x)::τ) H N)
  (nE:∀H',H' D=some (.lst (l.map f))->Zf H0 H'->Q (.ref D) H'):zz (Itl K a) D (WA 0) jt te (none::τ) H0 Q:=by
 refine Zbe l φ (fun _=>true) f hD hq hz (fun x hx H N N0 s h1 _=>?_) (fun H' h s=>nE H' (by rw[h,ο.mpr (fun _ _=>rfl)]) s);exact UV (step x hx H N s fun H4 s4=>h1 H4 s4 rfl)
theorem qy{Q:VK}(f:Nat->V)(hD:H0 D=none)(hz:n<=sizeLine)
  (step:∀k,k<n->∀H (N:V->Hp->Prop),Zf H0 H->(∀H4,Zf H H4->N (f k) H4)->te (some (.int (k:Nat))::τ) H N)
  (nE:∀H',H' D=some (.lst ((γ n).map f))->Zf H0 H'->Q (.ref D) H'):zz (Itr 0 n) D (WA 0) jt te (none::τ) H0 Q:=by
 refine ZbG (fun _=>true) f hD hz (fun x hx H N N0 s h1 _=>?_) (fun H' h s=>nE H' (by rw[h,ο.mpr (fun _ _=>rfl)]) s);exact UV (step x hx H N s fun H4 s4=>h1 H4 s4 rfl)
def Vg(S W:Addr)(G G':Hp):Prop:=∀b o,b≠S->b≠W->G b=some o->G' b=some o
theorem Vg.trans{W:Addr}{G1 G2:Hp}(a:Vg S W G G1)(b:Vg S W G1 G2):Vg S W G G2:=fun c o n m e=>b c o n m (a c o n m e)
theorem Zf.two{W:Addr}(h:Zf G G'):Vg S W G G':=fun b o _ _ e=>h b o e
theorem Vg.upd1{W:Addr}(h:Vg S W G G'):Vg S W G (upd G' S o):=fun b u n m e=>by rw[Zo n];exact h b u n m e
theorem Vg.upd2{W:Addr}(h:Vg S W G G'):Vg S W G (upd G' W o):=fun b u n m e=>by rw[Zo m];exact h b u n m e
theorem U7(xs:List V)(k:Nat):X9 xs none (some (k:Int))=xs.take k:=by
 by_cases h:k<=xs.length
 ·exact yT xs k h
 ·unfold X9;rw[HT.sIx_nat,HT.sIx_none,Nat.min_eq_right 21,iy (by lia:xs.length<=k)];simp
theorem jY{l:82}{M:Nat}(nd:l.Nodup)(h:∀y∈l,0<=y/\y<(M:Nat)):l.length<=M:=by
 have h1:(l.map Int.toNat).Nodup:=by
  unfold δ;rw[Ζ];refine List.Pairwise.imp_of_mem (fun {a b} ha hb n e=>n ?_) nd;have:=h a ha;have:=h b hb;lia
 have h2:=xi (l₂:=γ M) h1 fun x hx=>by
  obtain⟨y,hy,rfl⟩:=eV.mp hx;have:=h y hy;exact gM.mpr 21
 rw[eG,fI] at h2;exact h2
abbrev K0(h:Heap)(z TI TO a:Addr)(f:Bool):Prop:=h.get? z=some { cls:=.type "zip",dict:=none,data:=.fields #[rawInt a,.bool f,.bool false,.ref TI,.ref TO],slots:=#[] }
theorem Za6{z TI TO:Addr}{f:Bool}{k1 k2:Nat}{xs:Array Value}{x y:Value}{Q:81->70}(D:ZipApart z TI TO i1 i2 l1 l2)(hz:K0 s.heap z TI TO a f)(ha:s.heap.get? a=some oa)(ug:a≠z)
  (Br:IsPair s.heap TI (.ref i1) (.ref i2)) (h1:s.heap.IsListIter i1 l1 k1) (h2:s.heap.IsListIter i2 l2 k2) (pJ:s.heap.IsList l1 xs) (rN:s.heap.IsList l2 ys) (hx:xs[k1]?=some x) (hy:ys[k2]?=some y)
  (hQ:∀h',K0 h' z TI TO a true->h'.IsListIter i1 l1 (k1+1)->h'.IsListIter i2 l2 (k2+1)->IsPair h' s.heap.objs.size x y->h'.objs.size=s.heap.objs.size+1->(∀c o,c≠z->c≠i1->c≠i2->s.heap.get? c=some o->h'.get? c=some o)->Q (some (.ref s.heap.objs.size)) 80) :
  wpAny (model P w) A (pyNext (.ref z)) Q E s:=by
 have ty:s.TypeIs (.ref z) "zip" := ⟨_,hz,rfl⟩;unfold pyNext;refine dZ (i0 (ia (name:=Str.ofString "__next__") ty mK (fW mK ty PySem.F.entry_zip_next ?_ (PySem.F.args_zip_next_1 _))))
 show 79 (field (.ref z) 2 >>= _) _ _ _
 refine dZ (gu hz rfl (x:=Value.bool false) rfl ?_)
 show 79 (field (.ref z) 3 >>= _) _ _ _
 refine dZ (gu hz rfl (x:=Value.ref TI) rfl ?_);refine dZ (iA Br rfl ?_)
 show 79 (Builtin.SmallTypes.ownedTupleIsFree (.ref z) >>= _) _ _ _
 refine dZ (thn (Q:=fun b s1=>b=false/\∃hp,s1={ s with heap:=hp }/\K0 hp z TI TO a true/\Heap.SameBut z s.heap hp) ?_ fun b s1 hb=>?_)
 ·unfold Builtin.SmallTypes.ownedTupleIsFree;refine dZ (gu hz rfl (x:=rawInt a) rfl ?_)
  show 79 (loadIfAlive ((a:Int).toNat) >>= _) _ _ _
  rw[fN];refine dZ (W.kdx_alive ha ?_);simp only[Option.isNone_some,fJ,ft];refine dZ (gu hz rfl (x:=Value.bool f) rfl ?_);cases f with
  |true=>
   rw[nn (show ¬((Value.bool true != Value.bool true)=true) from fun q=>Bool.noConfusion q)];exact eh ⟨rfl,_,rfl,hz,Heap.SameBut.refl _ _⟩
  |false=>
   rw[nt (show(Value.bool false != Value.bool true)=true from rfl)];exact dZ (wpAny_setField_rec hz 47 fun h₃ DL EE=>eh ⟨rfl,h₃,rfl,DL,EE⟩)
 obtain⟨rfl,hp,rfl,Bl,sb⟩:=hb;simp only[fJ,ft];rw[<- lY];simp only[ic,lZ];refine dZ (dZ (dZ (fU ?_)))
 show 79 (Builtin.SmallTypes.nextOf (.ref i1) >>= _) _ _ _
 refine dZ (wpAny_nextOf_list_item (h1.extBut sb.extBut D.i1z) (pJ.extBut sb.extBut D.l1z) hx fun g₂ j1 t₂=>eh (eh ?_));refine dZ (dZ (fU ?_))
 show 79 (Builtin.SmallTypes.nextOf (.ref i2) >>= _) _ _ _
 refine dZ (wpAny_nextOf_list_item ((h2.extBut sb.extBut D.i2z).extBut t₂.extBut D.i12.symm) ((rN.extBut sb.extBut D.l2z).extBut t₂.extBut D.l2i1) hy fun g₃ j2 t₃=>eh (eh (eh ?_)));refine dZ (wpAny_newTuple (hsz:=by show 2<=sizeLine;decide) ?_);have sz:g₃.objs.size=s.heap.objs.size:=by rw[t₃.1,t₂.1,sb.1]
 have z3:K0 g₃ z TI TO a true:=t₃.extBut _ _ D.i2z.symm (t₂.extBut _ _ D.i1z.symm Bl);refine eh ⟨_,rfl,eh ?_⟩
 show Q (some (.ref g₃.objs.size)) _
 have Tq:g₃.IsListIter i1 l1 (k1+1):=j1.extBut t₃.extBut D.i12;rw[sz];refine hQ _ (eN _ z3) (Tq.at fun o e=>eN _ e) (j2.at fun o e=>eN _ e) ?_ ?_ fun c o n1 n2 n3 e=>eN _ (t₃.extBut _ _ n3 (t₂.extBut _ _ n2 (sb.extBut _ _ n1 e)))
 ·rw[<- sz];exact fg _ rfl
 ·rw[hV,sz]
theorem Zci{z TI TO:Addr}{f:Bool}{k1:Nat}{xs:Array Value}{Q:81->70}(hh:A.handled=none)(D:ZipApart z TI TO i1 i2 l1 l2)(hz:K0 s.heap z TI TO a f)(ha:s.heap.get? a=some oa)
  (Br:IsPair s.heap TI (.ref i1) (.ref i2)) (h1:s.heap.IsListIter i1 l1 k1) (pJ:s.heap.IsList l1 xs) (hx:xs[k1]?=none)
  (hQ:∀h',(∀c o,c≠z->c≠i1->s.heap.get? c=some o->h'.get? c=some o)->Q none 80):wpAny (model P w) A (pyNext (.ref z)) Q E s:=by
 have ty:s.TypeIs (.ref z) "zip" := ⟨_,hz,rfl⟩;unfold pyNext;refine dZ (i0 (ia (name:=Str.ofString "__next__") ty mK (fW mK ty PySem.F.entry_zip_next ?_ (PySem.F.args_zip_next_1 _))))
 show 79 (field (.ref z) 2 >>= _) _ _ _
 refine dZ (gu hz rfl (x:=Value.bool false) rfl ?_)
 show 79 (field (.ref z) 3 >>= _) _ _ _
 refine dZ (gu hz rfl (x:=Value.ref TI) rfl ?_);refine dZ (iA Br rfl ?_)
 show 79 (Builtin.SmallTypes.ownedTupleIsFree (.ref z) >>= _) _ _ _
 refine dZ (thn (Q:=fun b s1=>b=false/\∃hp,s1={ s with heap:=hp }/\K0 hp z TI TO a true/\Heap.SameBut z s.heap hp) ?_ fun b s1 hb=>?_)
 ·unfold Builtin.SmallTypes.ownedTupleIsFree;refine dZ (gu hz rfl (x:=rawInt a) rfl ?_)
  show 79 (loadIfAlive ((a:Int).toNat) >>= _) _ _ _
  rw[fN];refine dZ (W.kdx_alive ha ?_);simp only[Option.isNone_some,fJ,ft];refine dZ (gu hz rfl (x:=Value.bool f) rfl ?_);cases f with
  |true=>
   rw[nn (show ¬((Value.bool true != Value.bool true)=true) from fun q=>Bool.noConfusion q)];exact eh ⟨rfl,_,rfl,hz,Heap.SameBut.refl _ _⟩
  |false=>
   rw[nt (show(Value.bool false != Value.bool true)=true from rfl)];exact dZ (wpAny_setField_rec hz 47 fun h₃ DL EE=>eh ⟨rfl,h₃,rfl,DL,EE⟩)
 obtain⟨rfl,hp,rfl,Bl,sb⟩:=hb;simp only[fJ,ft];rw[<- lY];simp only[ic,lZ];refine dZ (dZ (dZ (fU ?_)))
 show 79 (Builtin.SmallTypes.nextOf (.ref i1) >>= _) _ _ _
 refine dZ (wpAny_nextOf_list_end hh (h1.extBut sb.extBut D.i1z) (pJ.extBut sb.extBut D.l1z) hx fun g₂ ee t₂ he=>?_);obtain⟨oe,SD,NQ⟩:=he;refine dZ (iF (T := "StopIteration") (b:=true) ⟨oe,SD,NQ⟩ isSubtype_stop (eh (hQ _ fun c o n1 n2 e=>?_)));exact t₂ _ _ n2 (sb.extBut _ _ n1 e)
structure ZSt(h:Heap)(z TI TO i1 i2 l1 l2 S:Addr)(xs ys:Array Value)(i:Nat):Prop where
 z:(i=0/\IsZip h z TI TO .none/\∃u v,IsPair h TO u v)\/∃a f oa,K0 h z TI TO a f/\h.get? a=some oa/\a≠z/\a≠i1/\a≠i2/\a≠S
 ti:IsPair h TI (.ref i1) (.ref i2)
 i1:h.IsListIter i1 l1 i
 i2:h.IsListIter i2 l2 i
 l1:h.IsList l1 xs
 l2:h.IsList l2 ys
structure Ze5(z TI TO i1 i2 l1 l2 S:Addr):Prop where
 z:z≠S
 ti:TI≠S
 to:TO≠S
 i1:i1≠S
 i2:i2≠S
 l1:l1≠S
 l2:l2≠S
theorem ZSt.keep{z TI TO:Addr}{xs:Array Value}(x:ZSt h z TI TO i1 i2 l1 l2 S xs ys i)(nF:Ze5 z TI TO i1 i2 l1 l2 S)(hk:∀b o,b≠S->h.get? b=some o->h'.get? b=some o):ZSt h' z TI TO i1 i2 l1 l2 S xs ys i:=by
 refine⟨?_,hk _ _ nF.ti x.ti,x.i1.at fun o e=>hk _ _ nF.i1 e,x.i2.at fun o e=>hk _ _ nF.i2 e,x.l1.at fun o e=>hk _ _ nF.l1 e,x.l2.at fun o e=>hk _ _ nF.l2 e⟩;rcases x.z with⟨e,q,u,v,p⟩|⟨a,f,oa,q,ha,n1,n2,n3,n4⟩
 ·exact .inl ⟨e,hk _ _ nF.z q,u,v,hk _ _ nF.to p⟩
 ·exact .inr ⟨a,f,oa,hk _ _ nF.z q,hk _ _ n4 ha,n1,n2,n3,n4⟩
theorem ZSt.item{z TI TO:Addr}{xs:Array Value}{x y:Value}{Q:81->70}(D:ZipApart z TI TO i1 i2 l1 l2)(st:ZSt s.heap z TI TO i1 i2 l1 l2 S xs ys i)(hS:S<s.heap.objs.size)(lt:z<s.heap.objs.size/\i1<s.heap.objs.size/\i2<s.heap.objs.size)(hx:xs[i]?=some x)(hy:ys[i]?=some y)
  (hQ:∀h',ZSt h' z TI TO i1 i2 l1 l2 S xs ys (i+1)->IsPair h' s.heap.objs.size x y->h'.objs.size=s.heap.objs.size+1->(∀c o,c≠z->c≠TO->c≠i1->c≠i2->s.heap.get? c=some o->h'.get? c=some o)->Q (some (.ref s.heap.objs.size)) 80):wpAny (model P w) A (pyNext (.ref z)) Q E s:=by
 rcases st.z with⟨rfl,q,u,v,p⟩|⟨a,f,oa,q,ha,n1,n2,n3,n4⟩
 ·refine wpAny_pyNext_zip_item D q st.ti p st.i1 st.i2 st.l1 st.l2 hx hy fun h' b1 b2 b3 b4 b5 b6 b7=>hQ h' ⟨.inr ⟨_,false,_,b1,b5,fM lt.1,fM lt.2.1,fM lt.2.2,fM hS⟩,b7 _ _ D.TIz D.TITO D.TIi1 D.TIi2 st.ti,b3,b4,st.l1.at fun o e=>b7 _ _ D.l1z D.l1TO D.l1i1 D.l1i2 e,st.l2.at fun o e=>b7 _ _ D.l2z D.l2TO D.l2i1 D.l2i2 e⟩ b5 b6 b7
 ·refine Za6 D q ha n1 st.ti st.i1 st.i2 st.l1 st.l2 hx hy fun h' b1 b3 b4 b5 b6 b7=>hQ h' ⟨.inr ⟨a,true,oa,b1,b7 _ _ n1 n2 n3 ha,n1,n2,n3,n4⟩,b7 _ _ D.TIz D.TIi1 D.TIi2 st.ti,b3,b4,st.l1.at fun o e=>b7 _ _ D.l1z D.l1i1 D.l1i2 e,st.l2.at fun o e=>b7 _ _ D.l2z D.l2i1 D.l2i2 e⟩ b5 b6 fun c o m1 _ m3 m4 e=>b7 c o m1 m3 m4 e
theorem ZSt.stop{z TI TO:Addr}{xs:Array Value}{Q:81->70}(hh:A.handled=none)(D:ZipApart z TI TO i1 i2 l1 l2)(st:ZSt s.heap z TI TO i1 i2 l1 l2 S xs ys i)(hx:xs[i]?=none)
  (hQ:∀h',(∀c o,c≠z->c≠TO->c≠i1->c≠i2->s.heap.get? c=some o->h'.get? c=some o)->Q none 80):wpAny (model P w) A (pyNext (.ref z)) Q E s:=by
 rcases st.z with⟨rfl,q,u,v,p⟩|⟨a,f,oa,q,ha,n1,n2,n3,n4⟩
 ·exact wpAny_pyNext_zip_end hh D q st.ti p st.i1 st.i2 st.l1 st.l2 (.inl hx) fun h' b=>hQ h' b
 ·exact Zci hh D q ha st.ti st.i1 st.l1 hx fun h' b=>hQ h' fun c o m1 _ m3 _ e=>b c o m1 m3 e
theorem Qy:typeLookup (.type "zip") "__len__" = pure none:=by
 rw[lM,lO]
 kernel_rfl
theorem JS:typeLookup (.type "zip") "__length_hint__" = pure none:=by
 rw[lM,lO]
 kernel_rfl
theorem Zdp{r:Addr}(ty:s.TypeIs (.ref r) "zip"){Q:Bool->70}(h:Q true s):wpAny (model P w) A (Builtin.List.listLengthHint (.ref r)) Q E s:=by
 unfold Builtin.List.listLengthHint;refine dZ (iU ty Qy ?_);refine wpAny_ite_split (fun q=>nu q 48) fun _=>?_;refine wpAny_ite_split (fun q=>nu q 48) fun _=>?_;exact dZ (iU ty JS (eh h))
def ZG(h:Heap)(lo:Addr)(xs ys:Array Value)(as:List Addr):Prop:=as.Pairwise (·<·)/\(∀a∈as,lo<a)/\∀(j:Nat) a,as[j]?=some a->∃x y,xs[j]?=some x/\ys[j]?=some y/\IsPair h a x y
theorem Zd0{z TI TO:Addr}{xs:Array Value}(hh:A.handled=none)(D:ZipApart z TI TO i1 i2 l1 l2)(nF:Ze5 z TI TO i1 i2 l1 l2 S)(lo:z<=S/\TI<=S/\TO<=S/\i1<=S/\i2<=S)(hl:ys.size=xs.size)(hn:xs.size<=sizeLine)(res:Value){h₁:Heap}
  (hR:∀h' tk acc c as,(∀b o,b≠S->b≠z->b≠TO->b≠i1->b≠i2->h₁.get? b=some o->h'.get? b=some o)->h'.get? S=some { cls:=.type "list",dict:=none,data:=.seq acc c,slots:=#[] }->as.length=xs.size->ZG h' S xs ys as->acc.toList=as.map Value.ref->R (.ok (.ret res)) 86) :
  ∀(k i:Nat) (h:Heap) (tk c:Nat) (acc:Array Value) (as:List Addr),xs.size-i=k->i<=xs.size->ZSt h z TI TO i1 i2 l1 l2 S xs ys i->(∀b o,b≠S->b≠z->b≠TO->b≠i1->b≠i2->h₁.get? b=some o->h.get? b=some o) ->
   h.get? S=some { cls:=.type "list",dict:=none,data:=.seq acc c,slots:=#[] }->acc.toList=as.map Value.ref->as.length=i->ZG h S xs ys as ->
   codeAny (model P w) A (.builtin "list.extend.loop" ⟨[.ref S,.ref z,res],[]⟩) R { s with heap:=h,toks:=tk }:=by
 intro k
 induction k with
 |zero=>
  intro i h tk c acc as hk hi st kp hS oI C9 hG;refine gO PySem.F.entry_extend_loop ?_;rw[ie lB _]
  show wpAny _ A.in1 (pyNext (.ref z) >>= _) _ _ _
  refine dZ (ZSt.stop (s:={ s with heap:=h,toks:=tk }) (A:=A.in1) hh D st (lQ 21) fun h' he=>eh (hR h' tk acc c as (fun b o m0 m1 m2 m3 m4 e=>he b o m1 m2 m3 m4 (kp b o m0 m1 m2 m3 m4 e)) (he S _ nF.z.symm nF.to.symm nF.i1.symm nF.i2.symm hS) 21 ⟨hG.1,hG.2.1,fun j a hj=>?_⟩ oI));obtain⟨x,y,q1,q2,q3⟩:=hG.2.2 j a hj;have:=hG.2.1 a (fz hj);exact⟨x,y,q1,q2,he a _ (fM (gk lo.1 this)) (fM (gk lo.2.2.1 this)) (fM (gk lo.2.2.2.1 this)) (fM (gk lo.2.2.2.2 this)) q3⟩
 |succ k ih=>
  intro i h tk c acc as hk hi st kp hS oI C9 hG;have lt:i<xs.size:=by lia
  have hx:xs[i]?=some xs[i]:=lI lt;have hy:ys[i]?=some (ys[i]' 21):=lI 21;have wI:S<h.objs.size:=eP hS;have IP:acc.size=i:=by rw[<- gn,oI,eG,C9]
  have lz:z<h.objs.size/\i1<h.objs.size/\i2<h.objs.size:=⟨gk lo.1 wI,gk lo.2.2.2.1 wI,gk lo.2.2.2.2 wI⟩;refine gO PySem.F.entry_extend_loop ?_;rw[ie lB _]
  show wpAny _ A.in1 (pyNext (.ref z) >>= _) _ _ _
  refine dZ (ZSt.item (s:={ s with heap:=h,toks:=tk }) D st wI lz hx hy fun h' oV ht hz kk=>?_);dsimp only at ht hz kk ⊢;have rT:=kk S _ nF.z.symm nF.to.symm nF.i1.symm nF.i2.symm hS;have up:∀b o,b≠S->h'.get? b=some o->(h'.update S (Obj.mapSeq (·.push (Value.ref h.objs.size)))).get? b=some o:=fun b o m e=>(gH _ _ (eX m)).trans e
  show wpAny _ A.in1 (updateSeq S (·.push (Value.ref h.objs.size)) >>= _) _ _ _
  refine dZ (iz rT rfl (eh ⟨ig lB _,ih (i+1) _ tk _ (acc.push (Value.ref h.objs.size)) (as++[h.objs.size]) 21 lt (oV.keep nF up) (fun b o m0 m1 m2 m3 m4 e=>up b o m0 (kk b o m1 m2 m3 m4 (kp b o m0 m1 m2 m3 m4 e))) (gJ _ rT rfl) (by rw[mE,oI,fo];rfl) (by rw[eK,C9];rfl) ⟨?_,?_,?_⟩⟩) (by rw[IP];lia) (by show(acc.push (Value.ref h.objs.size)).size<=sizeLine+1;rw[Array.size_push,IP];lia))
  ·refine List.pairwise_append.mpr ⟨hG.1,List.pairwise_singleton _ _,fun a ha b hb=>?_⟩;rw[eZ.mp hb];obtain⟨j,hj⟩:=mY.mp ha;obtain⟨_,_,_,_,q⟩:=hG.2.2 j a hj;exact eP q
  ·intro a ha;rcases fj.mp ha with ha|ha
   ·exact hG.2.1 a ha
   ·rw[eZ.mp ha];exact wI
  ·intro j b hj
   by_cases c1:j<as.length
   ·rw[fK c1] at hj;obtain⟨x,y,q1,q2,q3⟩:=hG.2.2 j b hj;have hb:=hG.2.1 b (fz hj);exact⟨x,y,q1,q2,up b _ (fM hb) (kk b _ (fM (gk lo.1 hb)) (fM (gk lo.2.2.1 hb)) (fM (gk lo.2.2.2.1 hb)) (fM (gk lo.2.2.2.2 hb)) q3)⟩
   ·have OG:=(eY.mp hj).1;rw[eK,fY] at OG;have ej:j=i:=by lia
    subst ej;rw[fS 21,C9,hJ] at hj;cases hj;exact⟨_,_,hx,hy,up _ _ (fM wI) ht⟩
section
variable{z TI TO:Addr}{xs:Array Value}
theorem ZbM(hh:A.handled=none)(D:ZipApart z TI TO i1 i2 l1 l2)(nF:Ze5 z TI TO i1 i2 l1 l2 S)(lo:z<=S/\TI<=S/\TO<=S/\i1<=S/\i2<=S)(hl:ys.size=xs.size)(hn:xs.size<=sizeLine)(hz:IsZip s.heap z TI TO .none)(st:ZSt s.heap z TI TO i1 i2 l1 l2 S xs ys 0)(res:Value)(c₀:Nat)(hS:s.heap.get? S=some { cls:=.type "list",data:=.seq #[] c₀ })
  (hR:∀h' tk acc c as,(∀b o,b≠S->b≠z->b≠TO->b≠i1->b≠i2->s.heap.get? b=some o->h'.get? b=some o)->h'.get? S=some { cls:=.type "list",dict:=none,data:=.seq acc c,slots:=#[] }->as.length=xs.size->ZG h' S xs ys as->acc.toList=as.map Value.ref->R (.ok (.ret res)) 86) :
  wpAny (model P w) A.in1 (Builtin.List.listExtendWith (.ref S) (.ref z) res) (fun nE s'=>match nE with|.done f=>R (.ok f) s'|.again c'=>c'.quiet=true/\codeAny (model P w) A c' R s') (fun e s'=>R (.error e) s') s:=by
 have run:∀(h:Heap) (c₁ tk:Nat),(∀b o,b≠S->s.heap.get? b=some o->h.get? b=some o)->h.get? S=some { cls:=.type "list",data:=.seq #[] c₁ }->codeAny (model P w) A (.builtin "list.extend.loop" ⟨[.ref S,.ref z,res],[]⟩) R { s with heap:=h,toks:=tk }:=fun h c₁ tk kp CQ=>
  Zd0 (s:=s) (h₁:=s.heap) hh D nF lo hl hn res hR xs.size 0 h tk c₁ #[] [] (Nat.sub_zero _) (fu _) (st.keep nF kp) (fun b o m0 _ _ _ _ e=>kp b o m0 e) CQ rfl rfl ⟨List.Pairwise.nil,(fun _ ha=>nomatch ha),(fun j a hj=>by simp at hj)⟩
 unfold Builtin.List.listExtendWith;refine dZ (wpAny_typeOf (T := "zip") ⟨_,hz,rfl⟩ ?_);have q1:Builtin.List.listSameRef (.ref S) (.ref z)=false:=by simp[Builtin.List.listSameRef,nF.z.symm]
 have q2:(Value.type "zip" == Value.type "list")=false:=by left
 have q3:(Value.type "zip" == Value.type "tuple")=false:=by left
 simp only[q1,q2,q3,Bool.or_false,fJ,ft];refine dZ (wpAny_pyIter_zip hz ?_);refine dZ (fU (Zdp ⟨_,hz,rfl⟩ ?_));refine wpAny_ite_split (fun _=>?_) (fun _=>eh ⟨ig lB _,run _ c₀ _ (fun b o _ e=>e) hS⟩);refine dZ (iB (dZ ?_))
 show 79 (updateSeq S (·.push .none) >>= fun _=>updateSeq S (·.pop)) _ _ s
 refine dZ (iz hS rfl ?_);have e2:=gJ (Obj.mapSeq (·.push Value.none)) hS rfl;refine iz (hz:=by seq_fits) e2 rfl (eh ⟨ig lB _,run _ _ _ (fun b o m e=>?_) (gJ (Obj.mapSeq (·.pop)) e2 rfl)⟩);exact(gH _ _ (eX m)).trans ((gH _ _ (eX m)).trans e)
theorem Zex(hh:A.handled=none)(D:ZipApart z TI TO i1 i2 l1 l2)(lt:z<s.heap.objs.size/\TI<s.heap.objs.size/\TO<s.heap.objs.size/\i1<s.heap.objs.size/\i2<s.heap.objs.size/\l1<s.heap.objs.size/\l2<s.heap.objs.size)(hl:ys.size=xs.size)(hn:xs.size<=sizeLine)
  (hz:IsZip s.heap z TI TO .none) (Br:IsPair s.heap TI (.ref i1) (.ref i2)) {v:Value} (PJ:IsPair s.heap TO u v) (h1:s.heap.IsListIter i1 l1 0) (h2:s.heap.IsListIter i2 l2 0) (pJ:s.heap.IsList l1 xs) (rN:s.heap.IsList l2 ys)
  (hQ:∀h' tk acc c as,(∀b o,b≠z->b≠TO->b≠i1->b≠i2->s.heap.get? b=some o->h'.get? b=some o)->h'.get? s.heap.objs.size=some { cls:=.type "list",dict:=none,data:=.seq acc c,slots:=#[] }->as.length=xs.size->ZG h' s.heap.objs.size xs ys as->acc.toList=as.map Value.ref->Q (.ref s.heap.objs.size) 86) :
  wpAny (model P w) A (call (.type "list") [.ref z]) Q E s:=by
 refine callType_codes (Q₁:=fun obj s₁=>obj=.ref s.heap.objs.size/\s₁={ s with heap:=s.heap.push { cls:=.type "list",data:=.seq #[] } }) PySem.F.called_list (PySem.F.typeCall_list_1 _) PySem.F.entry_list_init (code_list_new _ ⟨rfl,rfl⟩) fun obj s₁ q₁=>?_;obtain⟨rfl,rfl⟩:=q₁;obtain⟨a1,a2,a3,a4,a5,a6,a7⟩:=lt;have hS:(s.heap.push { cls:=.type "list",data:=.seq #[] }).get? s.heap.objs.size=some { cls:=.type "list",data:=.seq #[] }:=fg _ rfl;have nF:Ze5 z TI TO i1 i2 l1 l2 s.heap.objs.size:=⟨eQ a1,eQ a2,eQ a3,eQ a4,eQ a5,eQ a6,eQ a7⟩;have RJ:ZSt s.heap z TI TO i1 i2 l1 l2 s.heap.objs.size xs ys 0:=⟨.inl ⟨rfl,hz,u,v,PJ⟩,Br,h1,h2,pJ,rN⟩;refine⟨⟨_,hS,rfl⟩,PySem.F.args_list_init_2 _ _,?_⟩
 show 79 (do let sU <- Builtin.List.listItems (.ref s.heap.objs.size);Builtin.List.listUpdate (.ref s.heap.objs.size) (fun _=>#[]);letGo sU.toList.reverse;Builtin.List.listExtendWith (.ref s.heap.objs.size) (.ref z) .none) _ _ _
 refine dZ ?_;unfold Builtin.List.listItems;refine dZ (iA hS rfl (eh ?_))
 show 79 (updateSeq s.heap.objs.size (fun _=>#[]) >>= fun _=>letGo (#[]:Array Value).toList.reverse >>= fun _=>Builtin.List.listExtendWith (.ref s.heap.objs.size) (.ref z) .none) _ _ _
 refine dZ (iz hS rfl ?_);have e2:=gJ (Obj.mapSeq (fun _=>(#[]:Array Value))) hS rfl;have kp:∀b o,b≠s.heap.objs.size->s.heap.get? b=some o->((s.heap.push { cls:=.type "list",data:=.seq #[] }).update s.heap.objs.size (Obj.mapSeq (fun _=>(#[]:Array Value)))).get? b=some o:=fun b o m e=>(gH _ _ (eX m)).trans (eN _ e);refine dZ (wpAny_letGo (ZbM (A:=A.in1) hh D nF ⟨fV a1,fV a2,fV a3,fV a4,fV a5⟩ hl hn (kp _ _ nF.z hz) (RJ.keep nF kp) .none _ e2 fun h' tk acc c as hk rT ha hG oI=>⟨rfl,hQ h' tk acc c as (fun b o m1 m2 m3 m4 e=>?_) rT ha hG oI⟩));have lb:=eQ (eP e);exact hk b o lb m1 m2 m3 m4 (kp b o lb e)
end
def xQ(H N:Hp):Hp:=fun b=>if(N b).isSome=true then N b else H b
theorem yW{N:Hp}{b:Addr}(h:N b=some o):xQ H N b=some o:=by unfold xQ;rw[h];rfl
theorem zf{N:Hp}{b:Addr}(h:N b=none):xQ H N b=H b:=by unfold xQ;rw[h];rfl
section
variable{σ:L3.St}{N:Hp}
theorem Inv.turnedLaids(I:L2.Inv X cQ σ H s)(k:∀b u,b∉ch->s.heap.get? b=some u->h'.get? b=some u)(hf:∀b∈ch,qd X cQ H b)(hN:∀b o,N b=some o->s.heap.objs.size<=b)
  (rJ:∀b o,N b=some o->Yp X.prog X.w (xQ H N) h' b o):L2.Inv X cQ σ (xQ H N) { s with heap:=h',toks:=t' }:=by
 have fr:∀{b:Addr}{u:HO},H b=some u->xQ H N b=some u:=fun {b u} e=>by
  rw[zf];exact e;cases q:N b with
  |none=>rfl
  |some o=>rw[I.hok.fresh (hN b o q)] at e;cases e
 have sU:∀{b:Addr}{u:Obj},s.heap.get? b=some u->N b=none:=fun {b u} e=>by
  cases q:N b with
  |none=>rfl
  |some o=>exact nu (fF (eP e) (hN b o q)) (gS _)
 refine I.step (g':=s.gens) (d':=s.drawn) (ch:=ch) (fun b hb=>?_) (fun b u _ _ hc e _=>k b u hc e) (fun b u _ _ hc e _=>⟨u.slots,k b u hc e⟩) (fun b u _ e n=>by rw[zf (sU e)];exact n) (fun b u hc e=>⟨u,k b u hc e⟩) (fun b xs e=>fr e) (fun b u xs e=>fr e) (fun b ps e=>⟨#[],by rw[fr e];simp⟩) (fun m hm=>?_) (fun b u e=>?_) I.bare
 ·obtain⟨f0,f1,f2,f3,f4,f5⟩:=hf b hb;exact⟨f3,f1,f4,f5⟩
 ·obtain⟨ob,es,ep,ho,r⟩:=hm;exact⟨ob,es,ep,k _ ob (fun z=>(hf _ z).2.1 rfl) ho,r⟩
 ·cases q:N b with
  |some o=>
   rw[yW q] at e;cases e;exact rJ b _ q
  |none=>
   rw[zf q] at e;have uu:∀c v,H c=some v->c∉ch:=fun c v q z=>by rw[(hf c z).1] at q;cases q
   refine(I.hok b u e).stay (fun c v hc q=>k c v ?_ q) (fun c q=>fr q) fun c xs q=>fr q;rcases hc with rfl|hc
   ·exact uu _ _ e
   ·exact uu _ _ hc
end
theorem Kj{α:Type}:∀{as:List Addr}{l:List α}{a:Addr}{q:α},as.Nodup->(a,q)∈as.zip l->(as.zip l).lookup a=some q
 |[],_,_,_,_,h=>by simp at h
 |_::_,[],_,_,_,h=>by simp at h
 |b::as,x::l,a,q,nd,h=>by
  rw[gF] at nd;rw[List.zip_cons_cons,eU] at h;rw[List.zip_cons_cons,fD];rcases h with h|h
  ·cases h;simp
  ·have ma:a∈as:=(iN h).1;have ne:¬a=b:=fun e=>nd.1 (e▸ma);have:(a==b)=false:=by simpa using ne
   rw[this];exact Kj nd.2 h
theorem Jv{α:Type}:∀{l:List (Addr×α)}{a:Addr}{q:α},l.lookup a=some q->(a,q)∈l
 |[],_,_,h=>by cases h
 | (b,x)::l,a,q,h=>by
  rw[fD] at h
  by_cases e:a=b
  ·subst e;simp at h;rw[h];exact gU
  ·have:(a==b)=false:=by simpa using e
   rw[this] at h;exact eT _ (Jv h)
theorem jV:∀as:List Addr,ZE (as.map V.ref) (as.map Value.ref)
 |[]=>.nil
 |a::r=>.cons rfl (jV r)
inductive LZR(K:W.Frag)(vs:List V)(H:Hp)(Q:VK):Prop
 |mk (a b:Addr) (xs ys:List V) (h0:vs=[.ref a,.ref b]) (h1:SqL K H a xs) (h2:SqL K H b ys) (h3:ys.length=xs.length)
   (h4:∀H' L (zs:List (V×(V×V))),Zf H H'->H L=none->H' L=some (.lst (zs.map ε))->zs.map η=xs.zip ys->(∀x∈zs,∃q,x.1=.ref q/\H' q=some (.tup [x.2.1,x.2.2]))->Q (.ref L) H'):LZR K vs H Q
def ZbZ(K:W.Frag)(ta:TA):TE:=fun σ H Q=>ta σ H fun vs H1=>LZR K vs H1 Q
theorem QM{a b:Expr}{p:Pos}(hK:X.K=K)(hc:X.calm=true)(hg:Gl X "list")(hm:X.mg "list" = none)(Rh:Gl X "zip")(CP:X.mg "zip" = none)(ha:PA X [a,b] ta)
  (hs:starEach [a,b] X.env=[(false,eval a X.env),(false,eval b X.env)]:=by rfl) (rh:starEach [b] X.env=[(false,eval b X.env)]:=by rfl) (Cz:starEach [.Call (.Name "zip" p2) [a,b] [] pV] X.env=[(false,eval (.Call (.Name "zip" p2) [a,b] [] pV) X.env)]:=by rfl) :
  PE X (.Call (.Name "list" p) [.Call (.Name "zip" p2) [a,b] [] pV] [] gT) (ZbZ K ta):=by
 subst hK;intro cQ s σ H Q I h;refine gN (Ue I hg hm m8 ?_);refine i7 ?_ (by rw[Cz];rfl) rfl;rw[Cz]
 show 79 (spliced ((false,eval (.Call (.Name "zip" p2) [a,b] [] pV) X.env)::backTo gT (starEach [] X.env))) _ _ s
 refine Calls.spliced_cons (gN (Ue I Rh CP PyProof.Rows.boot_zip (i7 (thn (ha pV cQ s σ H _ I h) fun us s1 ⟨vs,H1,I1,r1,q1⟩=>?_) (by rw[hs,rh]) (by rw[rh];rfl))));obtain⟨l1,l2,xs,ys,rfl,Ea,oj,hl,q⟩:=q1;obtain⟨u,v,rfl,ru,rv⟩:=jU r1;obtain rfl:u=Value.ref l1:=ru;obtain rfl:v=Value.ref l2:=rv;obtain⟨Bj,Aj,p1,GK⟩:=I1.list Ea;obtain⟨oA,Ie,Fh,Sd⟩:=I1.list oj;have Lv:l1<s1.heap.objs.size:=by obtain⟨_,e,_⟩:=p1.isList;exact eP e
 have My:l2<s1.heap.objs.size:=by obtain⟨_,e,_⟩:=Fh.isList;exact eP e
 refine call_zip_2 p1.isList Fh.isList fun h' a1 a2 a3 a4 a5 a6 a7=>?_;refine Calls.spliced_nil (Zex (s:={ s1 with heap:=h' }) (xs:=Bj.toArray) (ys:=oA.toArray) (I1.ok.hd hc) (ZcA _ _ _ Lv My) ⟨?_,?_,?_,?_,?_,?_,?_⟩ ?_ ?_ a1 a2 a3 a4 a5 (p1.isList.at fun o e=>a7 _ _ e) (Fh.isList.at fun o e=>a7 _ _ e) fun g tk acc c as kp gL la hG oI=>?_)
 iterate 5 (show _<h'.objs.size;rw[a6];first|exact Nat.lt_add_of_pos_right 48|exact Nat.add_lt_add_left 48 _)
 ·show l1<h'.objs.size;rw[a6];exact fF Lv (iG _ _)
 ·show l2<h'.objs.size;rw[a6];exact fF My (iG _ _)
 ·rw[fe,fe,<- Aj.length,<- Ie.length];exact hl
 ·rw[fe,<- Aj.length];exact GK
 have Pf:∀b o,s1.heap.get? b=some o->g.get? b=some o:=fun b o e=>by
  have lb:=eP e;exact kp b o (eQ (fF lb (iG _ _))) (eQ (fF lb (iG _ _))) (eQ lb) (eQ (fF lb (iG _ _))) (a7 b o e)
 have Sa:as.length=xs.length:=by rw[la,fe,Aj.length]
 have nd:as.Nodup:=hG.1.imp fun {x y} q=>eQ q;have lo:∀x∈as,h'.objs.size<x:=hG.2.1;have zl:(xs.zip ys).length=as.length:=by rw[iH];lia
 generalize hNd:(fun b=>if b=h'.objs.size then some (HO.lst (as.map V.ref)) else((as.zip (xs.zip ys)).lookup b).map fun q=>HO.tup [q.1,q.2]:Hp)=N;have Nl:N h'.objs.size=some (.lst (as.map V.ref)):=by rw[<- hNd];exact nt rfl
 have Np:∀x q,(x,q)∈as.zip (xs.zip ys)->N x=some (.tup [q.1,q.2]):=fun x q m=>by
  rw[<- hNd];have lx:=lo x (iN m).1
  show(if x=h'.objs.size then _ else _)=_
  rw[nn (fM lx),Kj nd m];rfl
 have Nc:∀b o,N b=some o->(b=h'.objs.size/\o=.lst (as.map V.ref))\/∃q,(b,q)∈as.zip (xs.zip ys)/\o=.tup [q.1,q.2]:=fun b o e=>by
  rw[<- hNd] at e
  change (if b=h'.objs.size then _ else _)=_ at e
  by_cases cb:b=h'.objs.size
  ·rw[nt cb] at e;exact .inl ⟨cb,(fc e).symm⟩
  ·rw[nn cb] at e;cases ql:(as.zip (xs.zip ys)).lookup b with
   |none=>rw[ql] at e;cases e
   |some q=>
    rw[ql] at e;exact .inr ⟨q,Jv ql,(fc e).symm⟩
 clear hNd;have Cd:s1.heap.objs.size<=h'.objs.size:=by rw[a6];exact iG _ _
 have Eo:L2.Inv X cQ σ (xQ H1 N) { s1 with heap:=g,toks:=tk }:=by
  refine Inv.turnedLaids (ch:=[]) I1 (fun b u _ e=>Pf b u e) (fun b hb=>by cases hb) (fun b o e=>?_) (fun b o e=>?_)
  ·rcases Nc b o e with⟨rfl,_⟩|⟨q,m,_⟩
   ·exact Cd
   ·exact eW Cd (fV (lo b (iN m).1))
  ·rcases Nc b o e with⟨rfl,rfl⟩|⟨q,m,rfl⟩
   ·refine⟨by rw[eG,Sa,Aj.length];rw[<- Aj.length];exact GK,as.map Value.ref,c,?_,?_⟩
    ·exact jV as
    ·rw[<- oI,Array.toArray_toList];exact gL
   ·obtain⟨j,hj,ej⟩:=fO m;rw[iH] at hj;rw[l3,l3] at ej;have eb:as[j]' 21=b:=fb ε ej;have eq:(xs[j]' 21,ys[j]' 21)=q:=fb η ej;obtain⟨x,y,g1,g2,g3⟩:=hG.2.2 j b (by rw[<- eb];exact eI _);obtain⟨u1,EQ,Te⟩:=Aj.get (eI (show j<xs.length by lia));obtain⟨u2,DA,RD⟩:=Ie.get (eI (show j<ys.length by lia));have e1:x=u1:=by
     have:Bj[j]?=some x:=by simpa using g1
     rw[EQ] at this;exact(fc this).symm
    have e2:y=u2:=by
     have:oA[j]?=some y:=by simpa using g2
     rw[DA] at this;exact(fc this).symm
    subst e1;subst e2;rw[<- eq];exact⟨by show 2<=sizeLine;decide,[x,y],.cons Te (.cons RD .nil),⟨_,g3,rfl,_,rfl⟩⟩
 have sm:Zf H1 (xQ H1 N):=fun b o e=>by
  rw[zf];exact e;cases qn:N b with
  |none=>rfl
  |some o'=>
   have:s1.heap.objs.size<=b:=by
    rcases Nc b o' qn with⟨rfl,_⟩|⟨q,m,_⟩
    ·exact Cd
    ·exact eW Cd (fV (lo b (iN m).1))
   rw[I1.hok.fresh this] at e;cases e
 refine⟨.ref h'.objs.size,xQ H1 N,Eo,rfl,q (xQ H1 N) h'.objs.size ((as.map V.ref).zip (xs.zip ys)) sm (I1.hok.fresh Cd) ?_ ?_ fun x hx=>?_⟩
 ·rw[yW Nl,List.map_fst_zip (by rw[eG];lia)]
 ·rw[List.map_snd_zip (by rw[eG];lia)]
 ·obtain⟨j,hj,ej⟩:=fO hx;rw[iH,eG] at hj;rw[l3,gB] at ej;have e1:V.ref (as[j]' 21)=x.1:=fb ε ej;have e2:(xs.zip ys)[j]' 21=x.2:=fb η ej;refine⟨as[j]' 21,e1.symm,yW (Np _ _ ?_)⟩;have:(as[j]' 21,(xs.zip ys)[j]' 21)∈as.zip (xs.zip ys):=by
   have:=fv (l:=as.zip (xs.zip ys)) (n:=j) (by rw[iH];lia);rw[l3] at this;exact this
  rw[e2] at this;exact this
def nNo:Tr:=Yh ZR
section
open Classical
def wdT(t:Tr):Str:=ZP t.lb
def quL(c:Lb):Prop:=ZP c = "all" \/ ZP c = "some"
theorem quN{w:Str}(h:w∉(["all","some"]:50))(c:Lb)(e:ZP c=w):¬quL c:=by
 subst e;rintro(z|z)<;>exact h (by rw[z];left)
end
section
open Classical
theorem qop{w:Str}(h:w∉(["all","some"]:50)):¬quL (.op w):=quN h _ rfl
theorem qmy{w:Str}(h:w∉(["all","some"]:50)):¬quL (.many w):=quN h _ rfl
theorem VZ{w:Str}{x y:Tr}(h1:w ≠ "yes")(h2:w ≠ "not"):Tr.node (.op w) [x]≠ZR/\Tr.node (.op w) [x]≠nNo:=⟨fun z=>h1 (fb wdT z),fun z=>h2 (fb wdT z)⟩
end
abbrev RK:=Sum (List Key) Str
def VP:Key->PyData
 |.inl i=>.int i
 |.inr x=>.str x
def kO(ks:List Key):Prop:=∀x,ζ x∈ks->PyData.strOk x=true
def rkD:RK->PyData
 |.inl ks=>.tuple (ks.map VP)
 |.inr z=>.tuple [.str z,.tuple []]
section
variable{prog:Program}{w:World}
def KI(prog:Program)(w:World)(h:Heap):RK->Addr->Prop
 |.inl ks,a=>IsTupleKey (Zv prog w) h ks a/\kO ks
 |.inr z,a=>qL (Zv prog w) (Zv prog w) h ((ζ z:Key),[]) a/\PyData.strOk z=true
theorem jL{k:Key}{v:Value}(e:Ve k v=true):∃as,Reads h v (VP k) as:=by
 rcases ZZ e with⟨i,t,rfl,rfl⟩|⟨x,t,rfl,rfl⟩
 ·exact⟨_,.int i t⟩
 ·exact⟨_,.str x t⟩
theorem UR{h:Heap}:∀{ks:List Key}{vs:71},ItemsAre (Zv prog w) ks vs->∃as,ReadsAll h vs (ks.map VP) as
 |_,_,.nil=>⟨_,.nil⟩
 |_,_,.cons e r=>by
  obtain⟨as,a⟩:=jL (h:=h) e;obtain⟨bs,b⟩:=UR (h:=h) r;exact⟨_,.cons a b⟩
theorem zc{x:RK}(i:KI prog w h x a):∃as,Reads h (.ref a) (rkD x) as:=by
 cases x with
 |inl ks=>
  obtain⟨⟨o,items,n,ho,hc,hd,hi⟩,_⟩:=i;obtain⟨as,q⟩:=UR (h:=h) hi;exact⟨_,.tuple ho hc hd q⟩
 |inr z=>
  obtain⟨⟨o,v,b,n,ho,hc,hd,h1,o2,items,n2,oB,sk,sA,tj⟩,_⟩:=i;obtain⟨as,q⟩:=UR (h:=h) tj;obtain⟨bs,q1⟩:=jL (h:=h) (show Ve (ζ z) v=true from h1);exact⟨_,.tuple ho hc hd (.cons q1 (.cons (.tuple oB sk sA q) .nil))⟩
theorem VW:∀{ks:List Key},kO ks->PyData.canLayAll0 (ks.map VP)=true/\PyData.depthAll (ks.map VP)<=0
 |[],_=>⟨rfl,eE _⟩
 |.inl i::r,h=>by
  obtain⟨a,b⟩:=VW (ks:=r) fun x hx=>h x (eT _ hx);exact⟨by simp[VP,PyData.canLayAll0,PyData.canLay0,a],by simp[VP,PyData.depthAll,PyData.depth] at b ⊢; exact b⟩
 |.inr x::r,h=>by
  obtain⟨a,b⟩:=VW (ks:=r) fun x hx=>h x (eT _ hx);exact⟨by simp[VP,PyData.canLayAll0,PyData.canLay0,a,h x 47],by simp[VP,PyData.depthAll,PyData.depth] at b ⊢; exact b⟩
theorem Jk{x:RK}(i:KI prog w h x a):(rkD x).canLay0=true:=by
 cases x with
 |inl ks=>simp[rkD,PyData.canLay0,(VW i.2).1]
 |inr z=>simp[rkD,PyData.canLay0,PyData.canLayAll0,i.2]
theorem JE(k:Key)(ds:List PyData):PyData.eqv (VP k) (.tuple ds)=false/\PyData.eqv (.tuple ds) (VP k)=false:=by
 cases k<;>simp[VP,PyData.eqv]
theorem Kw(ks:List Key)(z:Str):PyData.eqv (rkD (.inl ks)) (rkD (.inr z))=false/\PyData.eqv (rkD (.inr z)) (rkD (.inl ks))=false:=by
 match ks with
 |[]=>simp[rkD,PyData.eqv,PyData.eqvAll]
 |[k]=>
  have e1:PyData.eqvAll [] [PyData.tuple []]=false:=by simp[PyData.eqvAll]
  have e2:PyData.eqvAll [PyData.tuple []] []=false:=by simp[PyData.eqvAll]
  constructor
  ·show PyData.eqv (.tuple [VP k]) (.tuple [.str z,.tuple []])=false
   rw[PyData.eqv,PyData.eqvAll,e1,lp]
  ·show PyData.eqv (.tuple [.str z,.tuple []]) (.tuple [VP k])=false
   rw[PyData.eqv,PyData.eqvAll,e2,lp]
 |k::k2::r=>
  constructor
  ·show PyData.eqv (.tuple (VP k::VP k2::r.map VP)) (.tuple [.str z,.tuple []])=false
   rw[PyData.eqv,PyData.eqvAll,PyData.eqvAll,(JE k2 []).1,gW,lp]
  ·show PyData.eqv (.tuple [.str z,.tuple []]) (.tuple (VP k::VP k2::r.map VP))=false
   rw[PyData.eqv,PyData.eqvAll,PyData.eqvAll,(JE k2 []).2,gW,lp]
theorem Zgi{x y:RK}(hx:KI prog w h x a)(hy:KI prog w h y a):x=y:=by
 have ux:∀{ks:List Key}{z:Str},KI prog w h (.inl ks) a->KI prog w h (.inr z) a->False:=fun {ks z} p q=>by
  obtain⟨⟨o,items,n,ho,hc,hd,hi⟩,_⟩:=p;obtain⟨⟨o2,v,b,n2,oB,sk,sA,_⟩,_⟩:=q;rw[ho] at oB;cases oB;rw[hd] at sA;cases sA;cases hi with
  |cons e r=>
   cases r with
   |@cons k2 v2 ks2 vs2 e2 r2=>
    rcases ZZ (show Ve k2 (Value.ref b)=true from e2) with⟨_,_,_,z⟩|⟨_,_,_,z⟩<;>cases z
 cases x with
 |inl ks=>
  cases y with
  |inl ls=>rw[hx.1.inj hy.1]
  |inr z=>exact(ux hx hy).elim
 |inr z=>
  cases y with
  |inl ls=>exact(ux hy hx).elim
  |inr z'=>
   have:=hx.1.inj hy.1;have e:(ζ z:Key)=ζ z':=fb ε this;rw[ir e]
def K5(prog:Program)(w:World):RK->Int
 |.inl ks=>tupleKeyHash (Zv prog w) ks
 |.inr z=>Zdk (Zv prog w) (Zv prog w) ((ζ z:Key),[])
def Uq(prog:Program)(w:World):HeapKind prog w RK where
 is:=KI prog w
 hash:=K5 prog w
 draws:=fun x=>match x with|.inl ks=>ks.length+1|.inr _=>3
 room:=fun A=>A.units+3<cLine
 inj:=fun hx hy=>Zgi hx hy
 keeps:=fun {h h' k a d o es ep} x ho hd hs=>by
  cases k with
  |inl ks=>exact⟨x.1.keeps ho hd hs,x.2⟩
  |inr z=>exact⟨x.1.keeps ho hd hs,x.2⟩
 pyHash:=fun {A E s k a Q} hu hk h=>by
  cases k with
  |inl ks=>exact wpAny_pyHash_tuple 21 hk.1 h
  |inr z=>exact ZaR 21 hk.1 h
 eqBool:=fun {A E s x y a b Q} hu hx hy h=>by
  cases x with
  |inl ks=>
   cases y with
   |inl ls=>
    refine wpAny_eqBool_tuple 21 hx.1 hy.1 ?_;have e:decide ((ι ks:RK)=ι ls)=decide (ks=ls):=by
     by_cases q:ks=ls
     ·subst q;simp
     ·rw[fE q,fE fun z=>q (iK z)]
    rw[e] at h;exact h
   |inr z=>
    obtain⟨as,r1⟩:=zc hx;obtain⟨bs,r2⟩:=zc hy;refine SeqAt.eqBoolOverData prog w A E s _ _ _ _ as bs Q r1 r2 (Jk hx) (Jk hy) ?_ ?_
    ·have:(rkD (.inl ks)).depth<=1:=by have:=(VW hx.2).2;simp only[rkD,PyData.depth];lia
     have:=Nat.min_le_left (rkD (.inl ks)).depth (rkD (.inr z)).depth;lia
    ·rw[(Kw ks z).1];rw[fE 47] at h;exact h
  |inr z=>
   cases y with
   |inl ls=>
    obtain⟨as,r1⟩:=zc hx;obtain⟨bs,r2⟩:=zc hy;refine SeqAt.eqBoolOverData prog w A E s _ _ _ _ as bs Q r1 r2 (Jk hx) (Jk hy) ?_ ?_
    ·have:(rkD (.inl ls)).depth<=1:=by have:=(VW hy.2).2;simp only[rkD,PyData.depth];lia
     have:=mo (rkD (.inr z)).depth (rkD (.inl ls)).depth;lia
    ·rw[(Kw ls z).2];rw[fE 47] at h;exact h
   |inr z'=>
    refine ZaY 21 hx.1 hy.1 ?_;have e:decide ((ζ z:RK)=ζ z')=decide ((((ζ z:Key),[]):Key×List Key)=((ζ z':Key),[])):=by
     by_cases q:z=z'
     ·subst q;simp
     ·rw[fE fun e=>q (ir e),fE fun e=>q (ir (fb ε e))]
    rw[e] at h;exact h
 quiet:=fun {A E s k a Q} hk h=>by
  cases k with
  |inl ks=>exact wpAny_eqIsQuiet_tuple hk.1 h
  |inr z=>exact Zb0 hk.1 h
end
abbrev YE:=List (RK×Addr×V)
abbrev YPr:YE->List (RK×Addr×Value)->Prop:=Paired fun p q=>p.1=q.1/\p.2.1=q.2.1/\ZL p.2.2 q.2.2
def Zg1(Pm:Params)(a:Addr)(es:YE)(h:Heap):Prop:=es.length<=sizeLine/\(a==sysModules)=false/\∃(P:Program) (w:World) (xs:List (RK×Addr×Value)),w.params=Pm/\YPr es xs /\
 ∃o fs ep,h.get? a=some o/\o.ExactDict/\o.data=.dict fs ep/\fs.toList=xs.map (entryOfKey (Uq P w))/\(xs.map (·.1)).Nodup
def DyO(Pm:Params)(a:Addr)(es:YE):HO:=.ext (Zg1 Pm a es)
theorem Zfb{es:YE}(x:Zg1 Pm a es h):Yp P w H h a (DyO Pm a es):=by
 refine⟨x,?_,?_⟩
 ·obtain⟨_,_,_,_,_,_,_,o,_,_,e,_⟩:=x;exact⟨o,e⟩
 ·rintro h1 h2 ⟨z,y,P',w',xs,hp,r,o,fs,ep,e,c⟩ k;exact⟨z,y,P',w',xs,hp,r,o,fs,ep,k _ e,c⟩
theorem Kb{P':Program}{w':World}(h:w.params=w'.params):entryOfKey (Uq P w)=entryOfKey (Uq P' w'):=by
 have hk:QI w=QI w':=by
  funext k
  cases k with
  |inl i=>rfl
  |inr x=>show hashStr w x=hashStr w' x;unfold hashStr;rw[h]
 have ht:∀ks:List Key,tupleKeyHash (Zv P w) ks=tupleKeyHash (Zv P' w') ks:=fun ks=>by
  unfold tupleKeyHash
  show reduceHash (Builtin.Tuple.tupleHashOf (ks.map (QI w)))=reduceHash (Builtin.Tuple.tupleHashOf (ks.map (QI w')))
  rw[hk]
 funext x
 unfold entryOfKey
 congr 1
 show K5 P w x.1=K5 P' w' x.1
 cases x.1 with
 |inl ks=>exact ht ks
 |inr z=>
  show reduceHash (Builtin.Tuple.tupleHashOf [QI w (ζ z),tupleKeyHash (Zv P w) []])=reduceHash (Builtin.Tuple.tupleHashOf [QI w' (ζ z),tupleKeyHash (Zv P' w') []])
  rw[hk,ht]
def Wv(K:W.Frag)(H:Hp)(b:Addr):RK->Prop
 |.inl ks=>SqT K H b (ks.map kV)/\kO ks
 |.inr z=>(∃e,SqT K H b [.str z,.ref e]/\SqT K H e [])/\PyData.strOk z=true
theorem Wv.mono{b:Addr}{x:RK}(s:Yw H H')(h:Wv K H b x):Wv K H' b x:=by
 cases x with
 |inl ks=>exact⟨s _ _ _ h.1,h.2⟩
 |inr z=>obtain⟨⟨e,h1,h2⟩,h3⟩:=h;exact⟨⟨e,s _ _ _ h1,s _ _ _ h2⟩,h3⟩
def ZaQ(es:YE)(k:RK):Option V:=Yx (es.map fun e=>(e.1,e.2.2)) k
theorem YPr.val{es:YE}{xs:List (RK×Addr×Value)}(r:YPr es xs)(k:RK):V6 (ZaQ es k) ((atKey xs k).map (·.2)):=by
 induction r with
 |nil=>exact True.intro
 |@cons p q ps qs h t ih=>
  obtain⟨h1,_,h2⟩:=h;unfold ZaQ at ih ⊢;rw[eM]
  by_cases e:p.1=k
  ·have e':q.1=k:=h1.symm.trans e;have b:atKey (q::qs) k=some q.2:=by simp[atKey,iC,e']
   rw[Y2 e,b];exact h2
  ·have e':¬q.1=k:=fun z=>e (h1.trans z);have b:atKey (q::qs) k=atKey qs k:=by simp[atKey,iC,e']
   rw[Y0 e,b];exact ih
def ZeZ(K:W.Frag)(Pm:Params)(H:Hp)(a:Addr)(y:V)(r:Option V):Prop:=∃es k b,H a=some (DyO Pm a es)/\y=.ref b/\Wv K H b k/\(∀e∈es,Wv K H e.2.1 e.1)/\r=ZaQ es k
def Zg4(K:W.Frag)(Pm:Params)(H:Hp)(a:Addr)(y v:V)(H':Hp):Prop:=∃es k b,H a=some (DyO Pm a es)/\y=.ref b/\Wv K H b k/\(∀e∈es,Wv K H e.2.1 e.1)/\ZaQ es k=none/\es.length<sizeLine/\H'=upd H a (DyO Pm a (es++[(k,b,v)]))
section
variable{σ:L3.St}{r:Value}{o:Option V}
theorem yL{x:RK}{b:Addr}(I:L2.Inv X cQ σ H s)(e:Wv X.K H b x):(Uq X.prog X.w).is s.heap x b:=by
 have tk:∀{ks:List Key}{b:Addr},SqT X.K H b (ks.map kV)->IsTupleKey (Zv X.prog X.w) s.heap ks b:=fun {ks b} e=>by
  obtain⟨its,r,t,_⟩:=I.tuple e;obtain⟨o,h1,h2,n,h3⟩:=t;exact⟨o,its.toArray,n,h1,h2,h3,by simpa using zV r⟩
 cases x with
 |inl ks=>exact⟨tk e.1,e.2⟩
 |inr z=>
  obtain⟨⟨e1,h1,h2⟩,h3⟩:=e;obtain⟨its,r,t,_⟩:=I.tuple h1;obtain⟨o,q1,q2,n,q3⟩:=t;obtain⟨u,v,rfl,ru,rv⟩:=jU r;obtain rfl:v=Value.ref e1:=rv;obtain⟨tZ,rfl⟩:∃t,u=Value.str z t:=ru;exact⟨⟨o,_,e1,n,q1,q2,q3,zT z tZ,tk (ks:=[]) h2⟩,h3⟩
theorem Zdr{es:YE}(hw:X.w.params=Pm)(I:L2.Inv X cQ σ H s)(e:H a=some (DyO Pm a es))(hk:∀e∈es,Wv X.K H e.2.1 e.1):es.length<=sizeLine/\(a==sysModules)=false/\∃xs,YPr es xs/\s.heap.DictOfH (Uq X.prog X.w) a xs:=by
 obtain⟨⟨z,y,P,w,xs,hp,r,o,fs,ep,h1,h2,h3,h4,h5⟩,_⟩:=I.hok a _ e;refine⟨z,y,xs,r,o,fs,ep,h1,h2,h3,?_,fun x hx=>?_,h5⟩
 ·rw[h4,Kb (P':=X.prog) (w':=X.w) (hp.trans hw.symm)]
 ·have all:∀{l:YE}{m:List (RK×Addr×Value)},YPr l m->(∀e∈l,Wv X.K H e.2.1 e.1)->∀x∈m,(Uq X.prog X.w).is s.heap x.1 x.2.1:=by
   intro l m q
   induction q with
   |nil=>intro _ x hx;exact nomatch hx
   |@cons p q ps qs hq t ih=>
    intro hk x hx;rcases eU.mp hx with e|hx
    ·subst e;have:=hk p 47;rw[hq.1,hq.2.1] at this;exact yL I this
    ·exact ih (fun e he=>hk e (eT _ he)) x hx
  exact all r hk x hx
theorem ZaU(hw:X.w.params=Pm)(hu:A.units+4<cLine)(I:L2.Inv X cQ σ H s)(g:ZeZ X.K Pm H a y (some v))(ry:ZL y u)(h:∀w' s',L2.Inv X cQ σ H s'->ZL v w'->Q w' s') :
  31 A (getItem (.ref a) u) Q E s:=by
 obtain⟨es,k,b,e,rfl,eb,hk,l⟩:=g;cases (show u=Value.ref b from ry);obtain⟨z,hd,xs,nI,dd⟩:=Zdr hw I e hk;obtain⟨w',Ra,pS⟩:=V6.some_of (v:=v) (o:=(atKey xs k).map (·.2)) (by rw[l];exact nI.val k);obtain⟨p,hp,rP⟩:=gZ.mp Ra;refine wpAny_getItem_heap ((by simpa[Uq,ly] using(show A.units+1+3<cLine by lia))) (yL I eb) dd hp ?_;rw[rP];exact h w' _ (I.tok _) pS
theorem Zd1(hw:X.w.params=Pm)(hu:A.units+4<cLine)(I:L2.Inv X cQ σ H s)(g:ZeZ X.K Pm H a y o)(ry:ZL y u)(h:∀s',L2.Inv X cQ σ H s'->Q (.bool (!o.isSome)) s') :
  31 A (compareOp .NotIn u (.ref a)) Q E s:=by
 obtain⟨es,k,b,e,rfl,eb,hk,l⟩:=g;cases (show u=Value.ref b from ry);obtain⟨z,hd,xs,nI,dd⟩:=Zdr hw I e hk;refine wpAny_notIn_heap ((by simpa[Uq,ly] using(show A.units+1+3<cLine by lia))) (yL I eb) hd dd ?_;have q:=(nI.val k).isSome_eq;rw[Η] at q;rw[<- q,<- l];exact h _ (I.tok _)
theorem ZaI{Q:Unit->70}(hw:X.w.params=Pm)(hu:A.units+4<cLine)(I:L2.Inv X cQ σ H s)(g:Zg4 X.K Pm H a y v H')(ry:ZL y u)(rv:ZL v r)(h:∀s',L2.Inv X cQ σ H' s'->Q () s') :
  31 A (setItem (.ref a) u r) Q E s:=by
 obtain⟨es,k,b,e,rfl,eb,hk,hn,hl,rfl⟩:=g;cases (show u=Value.ref b from ry);obtain⟨z,hd,xs,nI,dd⟩:=Zdr hw I e hk;have hz:xs.length<=sizeLine:=by rw[<- i4 nI];exact z
 have sw:atKey xs k=none:=by
  have q:=(nI.val k).isSome_eq;rw[hn,Η] at q;cases hh:atKey xs k with
  |none=>rfl
  |some p=>rw[hh] at q;cases q
 refine wpAny_setItem_heap (hsz:=hz) ((by simpa[Uq,ly] using(show A.units+1+3<cLine by lia))) (yL I eb) dd fun h' pU hs=>h _ ?_;rw[storedH_new sw] at pU;obtain⟨q,fs,ep,hq,h2,h3,h4,_,h5⟩:=pU;refine VC (ob:=DyO Pm a (es++[(k,b,v)])) I (by rw[e];exact True.intro) hs ⟨q,hq⟩ (Zfb ⟨by rw[eK,fY];lia,hd,X.prog,X.w,_,hw,Paired.snoc nI ⟨rfl,rfl,rv⟩,q,fs,ep,hq,h2,h3,h4,h5⟩)
end
def Zhv(K:W.Frag)(Pm:Params)(td ty:TE):TE:=fun σ H Q=>td σ H fun x H1=>ty σ H1 fun y H2=>∃a v,x=.ref a/\ZeZ K Pm H2 a y (some v)/\Q v H2
def ZeN(K:W.Frag)(Pm:Params)(ty td:TE):TE:=fun σ H Q=>ty σ H fun y H1=>td σ H1 fun x H2=>∃a o,x=.ref a/\ZeZ K Pm H2 a y o/\Q (.bl (!o.isSome)) H2
def ZhM(K:W.Frag)(Pm:Params)(td ty tv:TE):L2.TS:=fun D σ H=>tv σ H fun v H1=>td σ H1 fun x H2=>ty σ H2 fun y H3=>∃a H4,x=.ref a/\Zg4 K Pm H3 a y v H4/\D.nx σ H4
def Zho(Pm:Params):TE:=fun _ H Q=>∀p,H p=none->Q (.ref p) (upd H p (DyO Pm p []))
section
variable{o i nz:Expr}{td ty:TE}
theorem Zgs{σ:L3.St}{es:YE}(I:L2.Inv X cQ σ H s)(e:H a=some (DyO Pm a es)):s.TypeIs (.ref a) "dict" := by
 obtain⟨⟨_,_,_,_,_,_,_,o,_,_,h1,h2,_⟩,_⟩:=I.hok a _ e;exact⟨o,h1,h2.1⟩
theorem Zd6(hK:X.K=K)(hw:X.w.params=Pm)(hu:X.A.units+4<cLine)(ho:PE X o td)(hi:PE X i ty)(hs:Zf8 i):PE X (.Subscript o i gT) (Zhv K Pm td ty):=by
 subst hK;intro cQ s σ H Q I h;refine Zaz PySem.F.slot_dict_getitem.lookup hs (thn (ho cQ s σ H _ I h) fun u s1 ⟨x,H1,I1,rx,q1⟩=>thn (hi cQ s1 σ H1 _ I1 q1) fun iv s2 ⟨y,H2,I2,ry,a,v,ex,g,q2⟩=>?_);subst ex;obtain rfl:u=Value.ref a:=rx;obtain⟨es,_,_,e,_⟩:=id g;exact⟨Zgs I2 e,ZaU hw hu I2 g ry fun w' s3 I3 pS=>⟨v,H2,I3,pS,q2⟩⟩
theorem ZbF(hK:X.K=K)(hw:X.w.params=Pm)(hu:X.A.units+4<cLine)(hi:PE X i ty)(ho:PE X o td):PC X .NotIn i o (ZeN K Pm ty td):=by
 subst hK;intro cQ s σ H Q I h;refine thn (hi cQ s σ H _ I h) fun iv s1 ⟨y,H1,I1,ry,q1⟩=>thn (ho cQ s1 σ H1 _ I1 q1) fun u s2 ⟨x,H2,I2,rx,a,ov,ex,g,q2⟩=>?_;subst ex;obtain rfl:u=Value.ref a:=rx;exact Zd1 hw hu I2 g ry fun s3 I3=>⟨.bl (!ov.isSome),H2,I3,rfl,q2⟩
theorem Zd8(hK:X.K=K)(hw:X.w.params=Pm)(hu:X.A.units+4<cLine)(ho:PE X o td)(hi:PE X i ty)(hv:PE X nz tv)(hs:swapsWith nz (some (.Subscript o i nU)) gT.line X.env=pure false) :
  PS X (.Assign [.Subscript o i nU] nz gT) (ZhM K Pm td ty tv):=by
 subst hK;intro cQ s σ H D I h;refine wpAny_Assign_Subscript (thn (hv cQ s σ H _ I h) fun r s1 ⟨v,H1,I1,rv,q1⟩=>thn (ho cQ s1 σ H1 _ I1 q1) fun u s2 ⟨x,H2,I2,rx,q2⟩=>thn (hi cQ s2 σ H2 _ I2 q2) fun iv s3 ⟨y,H3,I3,ry,a,H4,ex,g,q3⟩=>?_) hs;subst ex;obtain rfl:u=Value.ref a:=rx;exact ZaI hw hu I3 g ry rv fun s4 I4=>⟨σ,H4,I4,q3⟩
theorem ZeT(hw:X.w.params=Pm):PE X (.Dict [] [] gT) (Zho Pm):=fun cQ s σ H Q I h=>
 wpAny_Dict_empty ⟨.ref s.heap.objs.size,_,I.laid (a:=s.heap.objs.size) (o:=DyO Pm s.heap.objs.size []) (t':=s.toks) (fun _ _ q=>eN _ q) (eE _) (Zfb ⟨fu _,iq.mpr (eX (eQ (Inv.big I))),X.prog,X.w,[],hw,.nil,_,#[],0,fg _ rfl,⟨rfl,rfl,rfl⟩,rfl,rfl,List.nodup_nil⟩),rfl,h _ (I.hok.fresh (eE _))⟩
end
def vG:Lb->List Nat->RK
 |.many w,[]=>.inr w
 |c,is=>.inl (Xm c is)
theorem Va(c:Lb)(is:List Nat):(∃w,c=.many w/\is=[]/\vG c is=.inr w)\/(vG c is=.inl (Xm c is)/\∀w,c=.many w->is≠[]):=by
 cases c with
 |many w=>
  cases is with
  |nil=>exact .inl ⟨w,rfl,rfl,rfl⟩
  |cons i r=>exact .inr ⟨rfl,fun _ _ z=>by cases z⟩
 |yes=>exact .inr ⟨rfl,fun _ z=>by cases z⟩
 |sign z=>exact .inr ⟨rfl,fun _ z=>by cases z⟩
 |wit m=>exact .inr ⟨rfl,fun _ z=>by cases z⟩
 |op w=>exact .inr ⟨rfl,fun _ z=>by cases z⟩
theorem Ze1{c':Lb}(h1:YO c is.length)(h2:YO c' rS.length)(h:vG c is=vG c' rS):c=c'/\is=rS:=by
 rcases Va c is with⟨w,rfl,rfl,e⟩|⟨e,n⟩
 ·rcases Va c' rS with⟨w',rfl,rfl,e'⟩|⟨e',n'⟩
  ·rw[e,e'] at h;rw[ir h];exact⟨rfl,rfl⟩
  ·rw[e,e'] at h;cases h
 ·rcases Va c' rS with⟨w',rfl,rfl,e'⟩|⟨e',n'⟩
  ·rw[e,e'] at h;cases h
  ·rw[e,e'] at h;exact ZeP h1 h2 (iK h)
def WB(ps:67)(t:Tr)(x:RK):Prop:=∃is:List Nat,is.length=t.ks.length/\(∀(j:Nat) k i,t.ks[j]?=some k->is[j]?=some i->ps[i]?=some k)/\x=vG t.lb is
theorem WB.more{t x:Tr}{ks:RK}(h:WB ps t ks):WB (ps++[x]) t ks:=by
 obtain⟨is,h1,h2,h3⟩:=h;refine⟨is,h1,fun j k i e1 e2=>?_,h3⟩;have:=h2 j k i e1 e2;rw[fK (eY.mp this).1];exact this
theorem JK{t s:Tr}{ks:RK}(o1:YO t.lb t.ks.length)(o2:YO s.lb s.ks.length)(h:WB ps t ks)(g:WB ps s ks):t=s:=by
 obtain⟨is,h1,h2,h3⟩:=h;obtain⟨js,g1,g2,g3⟩:=g;obtain⟨e1,e2⟩:=Ze1 (by rw[h1];exact o1) (by rw[g1];exact o2) (h3.symm.trans g3);subst e2;rw[Tr.eta t,Tr.eta s,e1]
 congr 1
 apply l4;intro j;have hl:t.ks.length=s.ks.length:=h1.symm.trans g1
 by_cases hj:j<t.ks.length
 ·have GI:j<is.length:=by rw[h1];exact hj
  have a:=h2 j _ _ (eI hj) (eI GI);have b:=g2 j _ _ (eI (by rw[<- hl];exact hj)) (eI GI);rw[eI hj,eI (by rw[<- hl];exact hj)];exact a.symm.trans b
 ·rw[io 21,io 21]
theorem ZdS(nd:ps.Nodup){t:Tr}{ks js:RK}(h:WB ps t ks)(g:WB ps t js):ks=js:=by
 obtain⟨is,h1,h2,h3⟩:=h;obtain⟨rS,g1,g2,g3⟩:=g;have e:is=rS:=by
  apply l4;intro j
  by_cases hj:j<t.ks.length
  ·rw[eI (show j<is.length by lia),eI (show j<rS.length by lia)]
   congr 1
   exact jp nd (h2 j _ _ (eI hj) (eI 21)) (g2 j _ _ (eI hj) (eI 21))
  ·rw[io 21,io 21]
 rw[h3,g3,e]
def kA:Nat->List RK->List (RK×V)
 |_,[]=>[]
 |n,k::r=>(k,.int (n:Int))::kA (n+1) r
theorem QW:∀{n:Nat}{l:List RK}{k:RK},k∉l->Yx (kA n l) k=none
 |n,[],k,_=>rfl
 |n,a::r,k,h=>by
  have ha:a≠k:=fun e=>h (by rw[e];simp);have ih:=QW (n:=n+1) (l:=r) (k:=k) fun z=>h (eT _ z);unfold Yx at ih ⊢;rw[kA,mV (by simpa using ha)];exact ih
theorem Jg:∀{n:Nat}{l:List RK}{k:RK}{i:Nat},l.Nodup->l[i]?=some k->Yx (kA n l) k=some (.int ((n+i:Nat):Int))
 |n,[],k,i,_,h=>by simp at h
 |n,a::r,k,0,_,h=>by
  have e:a=k:=by simpa using h
  unfold Yx;rw[kA,Φ (by simpa using e)];rfl
 |n,a::r,k,i+1,nd,h=>by
  have hm:r[i]?=some k:=by simpa using h
  have ha:a≠k:=fun e=>(gF.mp nd).1 (by rw[e];exact fz hm);have ih:=Jg (n:=n+1) (l:=r) (k:=k) (gF.mp nd).2 hm;unfold Yx at ih ⊢;rw[kA,mV (by simpa using ha),show n+(i+1)=n+1+i by lia];exact ih
theorem Qb{rks:List RK}(nd:ps.Nodup)(hl:rks.length=ps.length)(ok:∀t∈ps,YO t.lb t.ks.length)(hr:∀(i:Nat) t ks,ps[i]?=some t->rks[i]?=some ks->WB ps t ks) :
  rks.Nodup/\∀{t:Tr}{ks:RK},YO t.lb t.ks.length->WB ps t ks->(∀i:Nat,ps[i]?=some t->rks[i]?=some ks)/\(t∉ps->ks∉rks):=by
 have same:∀(i j:Nat) ks,rks[i]?=some ks->rks[j]?=some ks->i=j:=fun i j ks h1 h2=>by
  have hi:=(eY.mp h1).1;have hj:=(eY.mp h2).1;have e1:ps[i]?=some ps[i]:=eI 21;have e2:ps[j]?=some ps[j]:=eI 21;have e:=JK (ok _ (fv _)) (ok _ (fv _)) (hr i _ _ e1 h1) (hr j _ _ e2 h2);rw[<- e] at e2;exact jp nd e1 e2
 refine⟨?_,fun {t ks} o1 h=>⟨fun i hi=>?_,fun hn hm=>?_⟩⟩
 ·rw[ρ,iY];intro i j hi hj wL e;have:=same i j rks[i] (eI hi) (by rw[e];exact eI hj);lia
 ·have tj:=(eY.mp hi).1;have e1:rks[i]?=some rks[i]:=eI 21;rw[ZdS nd h (hr i t _ hi e1)];exact e1
 ·obtain⟨i,hi,e⟩:=fO hm;have e1:ps[i]?=some ps[i]:=eI 21;have:=JK o1 (ok _ (fv _)) h (hr i _ _ e1 (by rw[<- e];exact eI hi));exact hn (by rw[this];exact fv _)
def Vr:Nat->List (RK×Addr)->YE
 |_,[]=>[]
 |n,e::r=>(e.1,e.2,.int (n:Int))::Vr (n+1) r
theorem J5:∀(n:Nat) (l:List (RK×Addr)),(Vr n l).length=l.length
 |_,[]=>rfl
 |n,k::r=>by rw[Vr,fG,J5,fG]
theorem je:∀(n:Nat) (l:List (RK×Addr)) (e:RK×Addr),Vr n (l++[e])=Vr n l++[(e.1,e.2,.int ((n+l.length:Nat):Int))]
 |n,[],e=>rfl
 |n,a::r,e=>by rw[lv,Vr,je (n+1) r e,Vr,fG,lv,show n+1+r.length=n+(r.length+1) by lia]
theorem ZbS:∀(n:Nat) (l:List (RK×Addr)),(Vr n l).map (fun e=>(e.1,e.2.2))=kA n (l.map (·.1))
 |_,[]=>rfl
 |n,e::r=>by rw[Vr,eM,ZbS,eM,kA]
theorem kR(rows:List (RK×Addr))(k:RK):ZaQ (Vr 0 rows) k=Yx (kA 0 (rows.map (·.1))) k:=by unfold ZaQ;rw[ZbS]
theorem vc:∀{n:Nat}{l:List (RK×Addr)}{e:RK×Addr×V},e∈Vr n l->(e.1,e.2.1)∈l
 |_,[],e,h=>by cases h
 |n,a::r,e,h=>by
  rw[Vr] at h;rcases eU.mp h with rfl|h
  ·simp
  ·exact eT _ (vc h)
structure TbY(K:W.Frag)(Pm:Params)(C:Addr)(H:Hp)(r P R D:Addr)(ps:67):Prop where
 obj:∃dx,H r=some (.ins C dx [("parts",.ref P),("rows",.ref R),("numbers",.ref D)])
 pl:∃n pv,H P=some (.lst pv)/\AtL K n H pv ps
 rl:∃rows:List (RK×Addr),H R=some (.lst (rows.map fun e=>.ref e.2))/\rows.length=ps.length/\(∀e∈rows,Wv K H e.2 e.1)/\(∀(i:Nat) t e,ps[i]?=some t->rows[i]?=some e->WB ps t e.1)/\H D=some (DyO Pm D (Vr 0 rows))
 nd:ps.Nodup
 pr:P≠R
theorem Vt.tY{P R:Addr}{pv rv:List V}{es:YE}(s:Vt P R D H H')(h1:H P=some (.lst pv))(h2:H R=some (.lst rv))(h3:H D=some (DyO Pm D es)):Yw H H':=fun K b xs h=>by
 have n:∀{o:HO},H b=some o->(∀ys,o≠.lst ys)->(∀φ,o≠.ext φ)->H' b=some o:=fun e q1 q2=>s _ _ (fun z=>by rw[z,h1] at e;cases e;exact q1 _ rfl) (fun z=>by rw[z,h2] at e;cases e;exact q1 _ rfl) (fun z=>by rw[z,h3] at e;cases e;exact q2 _ rfl) e;rcases h with(h|⟨o,h⟩)|h
 ·exact .inl (.inl (n h (fun _ z=>by cases z) (fun _ z=>by cases z)))
 ·exact .inl (.inr ⟨o,n h (fun _ z=>by cases z) (fun _ z=>by cases z)⟩)
 ·exact .inr h
theorem TbY.t{r P R:Addr}(h:TbY K Pm C H r P R D ps)(s:Vt P R D H H'):Yw H H':=by
 obtain⟨n,pv,h1,_⟩:=h.pl;obtain⟨rows,h2,_,_,_,h3⟩:=h.rl;exact s.tY h1 h2 h3
theorem TbY.mono{C:Addr}{H H':Hp}{r P R D:Addr}{ps:67}(s:Zf H H')(h:TbY K Pm C H r P R D ps):TbY K Pm C H' r P R D ps:=by
 obtain⟨⟨dx,h0⟩,⟨n,pv,h1,h2⟩,⟨rows,g1,g2,g3,g4,g5⟩,nd,pr⟩:=h;exact⟨⟨dx,s _ _ h0⟩,⟨n,pv,s _ _ h1,h2.mono (m5 s)⟩,⟨rows,s _ _ g1,g2,fun e he=>(g3 e he).mono (m5 s),g4,s _ _ g5⟩,nd,pr⟩
theorem TbY.monoX{r P R F:Addr}{xs:List V}(s:Zr F H H')(hF:H F=some (.lst xs))(n1:P≠F)(n2:R≠F)(h:TbY K Pm C H r P R D ps):TbY K Pm C H' r P R D ps:=by
 obtain⟨⟨dx,h0⟩,⟨n,pv,h1,h2⟩,⟨rows,g1,g2,g3,g4,g5⟩,nd,pr⟩:=h;have u:Yw H H':=Zr.tup s hF;exact⟨⟨dx,s _ _ (VD h0 hF (by intro z;cases z)) h0⟩,⟨n,pv,s _ _ n1 h1,h2.mono u⟩,⟨rows,s _ _ n2 g1,g2,fun e he=>(g3 e he).mono u,g4,s _ _ (VD g5 hF (by intro z;cases z)) g5⟩,nd,pr⟩
theorem YK.units4{k:Nat}(r:YK k A):A.units+4<cLine:=by have:=r.un;lia
theorem k5{xs:List α}{p:Nat}(p1:1<=p)(hp:p<=xs.length):atI xs (-(p:Int))=some (xs[xs.length-p]' 21):=by
 unfold atI ixN;rw[nn 21,nt 21]
 show xs[_]?=_
 have e:(-(p:Int)+(xs.length:Nat)).toNat=xs.length-p:=by lia
 rw[e];exact eI 21
theorem ZcS(xs:List V){p:Nat}(p1:1<=p)(hp:p<=xs.length):X9 xs (some (-(p:Int))) none=xs.drop (xs.length-p):=by
 unfold X9;have e:HT.sIx xs.length 0 (some (-(p:Int)))=xs.length-p:=by
  show(if(-(p:Int))<0 then(-(p:Int)+(xs.length:Nat)).toNat else min (-(p:Int)).toNat xs.length)=_
  rw[nt 21];lia
 rw[e,HT.sIx_none];exact iy (by rw[gv];lia)
theorem xh{Q:VK}(l:List α)(φ:α->V)(f:α->V)(hD:H0 D=none)(hq:SqT K H0 a (l.map φ))(hz:l.length<=sizeLine)
  (step:∀x∈l,∀H (N:V->Hp->Prop),Zf H0 H->(∀H4,Zf H H4->N (f x) H4)->te (some (φ x)::τ) H N)
  (nE:∀H',H' D=some (.lst (l.map f))->Zf H0 H'->Q (.ref D) H'):zz (Itt K a) D (WA 0) jt te (none::τ) H0 Q:=by
 refine qS l φ (fun _=>true) f hD hz (fun i H hi s=>⟨_,φ l[i],Zf.seqT s hq,by rw[eO,eI hi];rfl⟩) (fun H s=>⟨_,Zf.seqT s hq,by rw[eG];exact eE _⟩) (fun i x H H2 hi s sX=>?_) (fun x hx H N N0 s h1 _=>UV (step x hx H N s fun H4 s4=>h1 H4 s4 rfl)) (fun H' h s=>nE H' (by rw[h,ο.mpr (fun _ _=>rfl)]) s);obtain⟨rfl,hx⟩:=sX;have e:=hx _ (Zf.seqT s hq);rw[eO,eI hi] at e;exact⟨rfl,(fc e).symm⟩
def Ord(F:67):Prop:=∀(j:Nat) t,F[j]?=some t->∀k∈YQ t,∃i:Nat,i<j/\F[i]?=some k
theorem Ord.add{F:67}{t:Tr}(h:Ord F)(hk:∀k∈YQ t,k∈F):Ord (UF F t):=by
 by_cases c:t∈F
 ·rw[yO c];exact h
 ·rw[zg c];intro j u e k hu
  by_cases cj:j<F.length
  ·rw[fK cj] at e;obtain⟨i,hi,ei⟩:=h j u e k hu;exact⟨i,hi,by rw[fK 21];exact ei⟩
  ·have hj:=(eY.mp e).1;rw[eK,fY] at hj;rw[fS 21,show j-F.length=0 by lia] at e;cases e;obtain⟨i,hi,ei⟩:=fO (hk k hu);exact⟨i,by lia,by rw[fK hi,eI hi,ei]⟩
def PB(F:67):67->Prop
 |[]=>True
 |t::r=>(∀k∈YQ t,k∈F)/\PB (F++[t]) r
theorem PB.more{F G:67}(s:∀x∈F,x∈G):∀{L:67},PB F L->PB G L
 |[],_=>trivial
 |t::r,h=>⟨fun k hk=>s k (h.1 k hk),PB.more (F:=F++[t]) (G:=G++[t]) (fun x hx=>by
   rcases fj.mp hx with q|q
   ·exact fj.mpr (.inl (s x q))
   ·exact fj.mpr (.inr q)) h.2⟩
theorem PB.app:∀{L M F:67},PB F L->PB (F++L) M->PB F (L++M)
 |[],M,F,_,h=>by rw[gp] at h;exact h
 |t::r,M,F,h,g=>⟨h.1,PB.app h.2 (by rw[gY];exact g)⟩
theorem PB.flat:∀{Ls:List (67)}{F:67},(∀L∈Ls,PB [] L)->PB F Ls.flatten
 |[],F,_=>trivial
 |L::r,F,h=>by
  rw[List.flatten_cons];exact PB.app ((h L gU).more fun x hx=>by cases hx) (PB.flat fun M hM=>h M (eT _ hM))
theorem KA:∀(n:Nat) (t:Tr),psz t<=n->PB [] (ZF t)
 |0,t,h=>by have:=WL t;lia
 |n+1,t,h=>by
  rw[Wt];refine PB.app (PB.flat fun L hL=>?_) ⟨fun k hk=>?_,trivial⟩
  ·obtain⟨k,hk,rfl⟩:=eV.mp hL;exact KA n k (by have:=XN (Xi hk);lia)
  ·rw[ik];exact iD.mpr ⟨ZF k,eV.mpr ⟨k,hk,rfl⟩,xI k⟩
theorem Zau:∀{L F A:67},PB F L->(∀x∈F,x∈A)->Ord A->Ord (Zp A L)
 |[],F,A,_,_,o=>o
 |t::r,F,A,h,s,o=>by
  rw[Ws];refine Zau h.2 (fun x hx=>?_) (o.add fun k hk=>s k (h.1 k hk));rcases fj.mp hx with q|q
  ·exact xY.mpr (.inl (s x q))
  ·exact xY.mpr (.inr (eZ.mp q))
theorem Zdx(t:Tr):Ord (Zp [] (ZF t)):=Zau (KA _ t (eE _)) (fun x hx=>by cases hx) fun j u h=>by simp at h
theorem Zbv(t:Tr):∃ts,Zp [] (ZF t)=ts++[t]:=by
 have e:ZF t=((YQ t).map ZF).flatten++[t]:=Wt t;rw[e,YX]
 show ∃ts,UF (Zp [] ((YQ t).map ZF).flatten) t=ts++[t]
 refine⟨_,zg fun m=>?_⟩;rcases Yi.mp m with q|q
 ·cases q
 ·obtain⟨L,hL,hq⟩:=iD.mp q;obtain⟨k,hk,rfl⟩:=eV.mp hL;have h1:=jr _ (eE _) hq;have h2:=XN (Xi hk);lia
def XY(way ring:82)(k:Nat):Int:=if k<way.length then way.getD k 0 else ring.getD ((k-way.length)%ring.length) 0
theorem Zd9{k:Nat}(h:k<(way++ring).length):(way++ring)[k]=XY way ring k:=by
 rw[eK] at h;unfold XY
 by_cases c:k<way.length
 ·rw[nt c,Ι c,gQ,eI c];rfl
 ·rw[nn c,Α 21,Nat.mod_eq_of_lt 21,gQ,eI 21];rfl
theorem jW(hr:ring≠[]){k:Nat}(h:(way++ring).length<=k):XY way ring k=XY way ring (k-ring.length):=by
 rw[eK] at h;have l0:0<ring.length:=mH fun e=>hr (lX e);unfold XY;rw[nn 21,nn 21]
 congr 1
 have e:k-way.length=(k-ring.length-way.length)+ring.length:=by lia
 rw[e,Nat.add_mod_right]
def Vq(t:Tr):Bool:=match t.lb with
 |.yes=>true
 |.sign _=>true
 |.op w=>decide (w = "some")
 |_=>false
noncomputable def Xt(d:WD)(st:Tr->82)(t:Tr)(r:Int):Bool:=match t.lb with
 |.yes=>true
 |.sign z=>decide (z∈KL d r)
 |_=>decide (r∈st t)
noncomputable def qg(at_:Nat->Bool)(c:Lb)(gs:List (Nat->Bool)):Nat->Bool:=
 let g:=gs.getD 0 (fun _=>false)
 let h:=gs.getD 1 (fun _=>false)
 match c with
 |.yes=>at_
 |.sign _=>at_
 |.op w=>if w = "some" then at_ else if w = "not" then(fun k=>!g k) else if w = "next" then(fun k=>g (k+1)) else if w = "before" then JO g else if w = "until" then Y5 g h else Y7 g h
 |_=>fun k=>g k&&h k
noncomputable def Jr(d:WD)(st:Tr->82)(rm:Nat->Int)(c:Lb)(ps:List (Tr×(Nat->Bool))):Tr×(Nat->Bool):=(.node c (ps.map ε),qg (fun k=>Xt d st (.node c (ps.map ε)) (rm k)) c (ps.map η))
noncomputable def Z1(d:WD)(st:Tr->82)(rm:Nat->Int)(t:Tr):Nat->Bool:=(YJ (Jr d st rm) t).2
theorem Ju(d:WD)(st:Tr->82)(rm:Nat->Int):∀(n:Nat) (t:Tr),psz t<=n->(YJ (Jr d st rm) t).1=t
 |0,t,h=>by have:=WL t;lia
 |n+1,t,h=>by
  rw[Wo]
  show Tr.node t.lb _=t
  have e:(t.ks.map (YJ (Jr d st rm))).map ε=t.ks:=by
   rw[fL];have:t.ks.map (ε∘YJ (Jr d st rm))=t.ks.map id:=lg fun k hk=>Ju d st rm n k (by have:=XN hk;lia);rw[this,i3]
  rw[e];exact(Tr.eta t).symm
theorem Ut(d:WD)(st:Tr->82)(rm:Nat->Int)(t:Tr):Z1 d st rm t=qg (fun k=>Xt d st t (rm k)) t.lb (t.ks.map (Z1 d st rm)):=by
 unfold Z1;rw[Wo]
 show qg (fun k=>Xt d st (.node t.lb ((t.ks.map (YJ (Jr d st rm))).map ε)) (rm k)) t.lb ((t.ks.map (YJ (Jr d st rm))).map η)=_
 have e:(t.ks.map (YJ (Jr d st rm))).map ε=t.ks:=by
  rw[fL];have:t.ks.map (ε∘YJ (Jr d st rm))=t.ks.map id:=lg fun k hk=>Ju d st rm _ k (eE _);rw[this,i3]
 rw[e,<- Tr.eta t,fL];rfl
theorem yP{t:Tr}(h:Vq t=true):Z1 d st rm t=fun k=>Xt d st t (rm k):=by
 rw[Ut];unfold Vq at h;cases e:t.lb with
 |yes=>rfl
 |sign z=>rfl
 |op w=>
  rw[e] at h;unfold qg;exact nt (fA h)
 |wit m=>rw[e] at h;cases h
 |many w=>rw[e] at h;cases h
theorem Zax{ks:67}(h:ks.length=1):∃a,ks=[a]:=by
 cases ks with
 |nil=>cases h
 |cons a r=>cases r with
  |nil=>exact⟨a,rfl⟩
  |cons b s=>simp at h
theorem xS{ks:67}(h:ks.length=2):∃a b,ks=[a,b]:=by
 cases ks with
 |nil=>cases h
 |cons a r=>cases r with
  |nil=>simp at h
  |cons b s=>cases s with
   |nil=>exact⟨a,b,rfl⟩
   |cons c u=>simp at h
theorem ZfP:∀w∈W6,w ≠ "some" -> w∈W1->w = "not" \/ w = "next" \/ w = "before" := by left
theorem ZfF:∀w∈W6,w ≠ "some" -> w∈W2->w = "until" \/ w = "since" := by left
theorem W8{t:Tr}(hc:isC t=true)(ok:YO t.lb t.ks.length)(h:Vq t=false) :
  (∃w a,t=.node (.op w) [a]/\(w = "not" \/ w = "next" \/ w = "before"))\/(∃w a b,t=.node (.op w) [a,b]/\(w = "until" \/ w = "since"))\/∃a b,t=.node (.many "and") [a,b]:=by
 obtain⟨c,ks⟩:=t;rw[Vm] at hc;unfold yF at hc;rw[fH] at hc;obtain⟨_,hc⟩:=hc;unfold Vq at h;cases c with
 |yes=>cases h
 |sign z=>cases h
 |op w=>
  have w6:=fA hc;have ns:w ≠ "some" := lD h;rcases ok with⟨ok,l⟩|⟨ok,l⟩
  ·obtain⟨a,rfl⟩:=Zax l;exact .inl ⟨w,a,rfl,ZfP w w6 ns ok⟩
  ·obtain⟨a,b,rfl⟩:=xS l;exact .inr (.inl ⟨w,a,b,rfl,ZfF w w6 ns ok⟩)
 |wit m=>cases hc
 |many w=>
  change (decide (w = "and")&&decide ((ks.map isC).length=2))=true at hc
  rw[fH] at hc;have e1:=fA hc.1;have e2:=fA hc.2;rw[eG] at e2;obtain⟨a,b,rfl⟩:=xS e2;subst e1;exact .inr (.inr ⟨a,b,rfl⟩)
theorem UW(at_:Nat->Bool)(w:Str)(gs:List (Nat->Bool)):qg at_ (.op w) gs=if w = "some" then at_ else if w = "not" then(fun k=>!gs.getD 0 (fun _=>false) k) else if w = "next" then(fun k=>gs.getD 0 (fun _=>false) (k+1)) else if w = "before" then JO (gs.getD 0 fun _=>false) else if w = "until" then Y5 (gs.getD 0 fun _=>false) (gs.getD 1 fun _=>false) else Y7 (gs.getD 0 fun _=>false) (gs.getD 1 fun _=>false):=rfl
theorem Xn(a:Tr):Z1 d st rm (.node (.op "not") [a])=fun k=>!Z1 d st rm a k:=by
 rw[Ut]
 show qg _ (.op _) _=_
 rw[UW];rw[nn 48,nt rfl];rfl
theorem zq(a:Tr):Z1 d st rm (.node (.op "next") [a])=fun k=>Z1 d st rm a (k+1):=by
 rw[Ut]
 show qg _ (.op _) _=_
 rw[UW];rw[nn 48,nn 48,nt rfl];rfl
theorem qB(a:Tr):Z1 d st rm (.node (.op "before") [a])=JO (Z1 d st rm a):=by
 rw[Ut]
 show qg _ (.op _) _=_
 rw[UW];rw[nn 48,nn 48,nn 48,nt rfl];rfl
theorem V5(a b:Tr):Z1 d st rm (.node (.op "until") [a,b])=Y5 (Z1 d st rm a) (Z1 d st rm b):=by
 rw[Ut]
 show qg _ (.op _) _=_
 rw[UW];rw[nn 48,nn 48,nn 48,nn 48,nt rfl];rfl
theorem V2(a b:Tr):Z1 d st rm (.node (.op "since") [a,b])=Y7 (Z1 d st rm a) (Z1 d st rm b):=by
 rw[Ut]
 show qg _ (.op _) _=_
 rw[UW];rw[nn 48,nn 48,nn 48,nn 48,nn 48];rfl
theorem U4(a b:Tr):Z1 d st rm (.node (.many "and") [a,b])=fun k=>Z1 d st rm a k&&Z1 d st rm b k:=by
 rw[Ut];rfl
theorem Qv{t:Tr}(h:Vq t=true)(hr:ring≠[]):ZK ring.length ((way++ring).map (Xt d st t)) (Z1 d st (XY way ring) t):=by
 have l0:0<ring.length:=mH fun e=>hr (lX e);rw[yP h];refine .of l0 (eG _) (by rw[eK];lia) (fun k hk=>?_) (fun k hk=>by rw[jW hr hk]);rw[eO,eI hk,Zd9 hk];rfl
section
open Classical
def Jd:Nat->(Nat->Bool)->(Nat->Bool)->Nat->Bool
 |0,_,s=>s
 |n+1,f,s=>fun k=>s k||(f k&&Jd n f s (k+1))
def tt1:Nat->Bool:=fun _=>true
noncomputable def mF(at_:Nat->Bool)(c:Lb)(gs:List (Nat->Bool)):Nat->Bool:=
 let g:=gs.getD 0 tt1
 let h:=gs.getD 1 tt1
 match c with
 |.yes=>tt1
 |.sign _=>at_
 |.many w=>if w = "and" then fun k=>gs.all (· k) else fun k=>gs.any (· k)
 |.wit n=>Jd n.toNat g h
 |.op w=>if w = "ever" then Y5 tt1 g else if w = "always" then(fun k=>!Y5 tt1 (fun j=>!g j) k) else if w = "once" then Y7 tt1 g else if w = "sofar" then(fun k=>!Y7 tt1 (fun j=>!g j) k)
  else if w = "not" then(fun k=>!g k) else if w = "next" then(fun k=>g (k+1)) else if w = "before" then JO g else if w = "until" then Y5 g h else Y7 g h
section
variable{d:WD}{st:Tr->List Int}{rm:Nat->Int}
theorem yl:Z1 d st rm ZR=tt1:=by
 rw[yP (t:=ZR) rfl];rfl
theorem Zfj:∀l:67,Z1 d st rm (Wa l)=fun k=>(l.map (Z1 d st rm)).all (· k)
 |[]=>by show Z1 d st rm ZR=_;rw[yl];rfl
 |[x]=>by show Z1 d st rm x=_;funext k;simp
 |x::y::r=>by
  show Z1 d st rm (.node (.many "and") [x,Wa (y::r)])=_
  rw[U4,Zfj (y::r)]
  funext k
  simp
theorem ZgY:∀l:67,Z1 d st rm (orT l)=fun k=>(l.map (Z1 d st rm)).any (· k)
 |[]=>by
  show Z1 d st rm (.node (.op "not") [ZR])=_
  rw[Xn,yl];rfl
 |[x]=>by show Z1 d st rm x=_;funext k;simp
 |x::y::r=>by
  show Z1 d st rm (.node (.op "not") [.node (.many "and") [.node (.op "not") [x],.node (.op "not") [orT (y::r)]]])=_
  rw[Xn,U4,Xn,Xn,ZgY (y::r)]
  funext k
  simp
theorem Kp(f s:Tr):∀n,Z1 d st rm (Z0 n f s)=Jd n (Z1 d st rm f) (Z1 d st rm s)
 |0=>rfl
 |n+1=>by
  show Z1 d st rm (.node (.op "not") [.node (.many "and") [.node (.op "not") [s],.node (.op "not") [.node (.many "and") [f,.node (.op "next") [Z0 n f s]]]]])=_
  rw[Xn,U4,Xn,Xn,U4,zq,Kp f s n]
  funext k
  simp[Jd]
noncomputable def mT(d:WD)(st:Tr->82)(rm:Nat->Int)(t:Tr):Nat->Bool:=Z1 d st rm (ZH t)
theorem Zaw(ks:67)(i:Nat):Z1 d st rm ((ks.map ZH).getD i ZR)=(ks.map (mT d st rm)).getD i tt1:=by
 rw[gQ,gQ,eO,eO];cases ks[i]? with
 |none=>exact yl
 |some x=>rfl
theorem xl{ks:67}(ok:YO c ks.length)(q:¬quL c):mT d st rm (.node c ks)=mF (fun k=>Xt d st (.node c []) (rm k)) c (ks.map (mT d st rm)):=by
 unfold mT;rw[Wz]
 show Z1 d st rm (Yr c (ks.map ZH))=_
 cases c with
 |yes=>exact yl
 |sign z=>exact yP (t:=.node (.sign z) []) rfl
 |many w=>
  unfold Yr mF;dsimp only
  split
  ·rw[Zfj,fL];rfl
  ·rw[ZgY,fL];rfl
 |wit n=>
  unfold Yr mF;dsimp only;rw[Kp,Zaw,Zaw];rfl
 |op w=>
  have h1:w ≠ "all" := fun z=>q (.inl (by rw[z];rfl));have h2:w ≠ "some" := fun z=>q (.inr (by rw[z];rfl));have g0:=Zaw (d:=d) (st:=st) (rm:=rm) ks 0;have g1:=Zaw (d:=d) (st:=st) (rm:=rm) ks 1;unfold Yr mF;dsimp only;rw[nn h1];generalize he:(ks.map (mT d st rm))=gs at g0 g1;have RM:ks.map (fun t=>Z1 d st rm (ZH t))=gs:=he;rw[RM]
  by_cases c1:w = "ever"
  ·rw[nt c1,nt c1]
   show Z1 d st rm (.node (.op "until") [ZR,_])=_
   rw[V5,yl,g0]
  rw[nn c1,nn c1]
  by_cases c2:w = "always"
  ·rw[nt c2,nt c2]
   show Z1 d st rm (.node (.op "not") [.node (.op "until") [ZR,.node (.op "not") [_]]])=_
   rw[Xn,V5,yl,Xn,g0]
  rw[nn c2,nn c2]
  by_cases c3:w = "once"
  ·rw[nt c3,nt c3]
   show Z1 d st rm (.node (.op "since") [ZR,_])=_
   rw[V2,yl,g0]
  rw[nn c3,nn c3]
  by_cases c4:w = "sofar"
  ·rw[nt c4,nt c4]
   show Z1 d st rm (.node (.op "not") [.node (.op "since") [ZR,.node (.op "not") [_]]])=_
   rw[Xn,V2,yl,Xn,g0]
  rw[nn c4,nn c4];rcases ok with⟨hw,hl⟩|⟨hw,hl⟩
  ·obtain⟨x,rfl⟩:=Zax hl;have e0:gs.getD 0 tt1=Z1 d st rm (ZH x):=by rw[<- g0];rfl
   rw[e0];simp only[W1,eU,gz,gA] at hw;rcases hw with rfl|rfl|rfl|rfl|rfl|rfl|rfl|rfl|rfl<;>first|exact nu rfl h1|exact nu rfl h2|exact nu rfl c1|exact nu rfl c2|exact nu rfl c3|exact nu rfl c4|(show Z1 d st rm (.node (.op _) [ZH x])=_;first|(rw[Xn,nt rfl])|(rw[zq,nn 48,nt rfl])|(rw[qB,nn 48,nn 48,nt rfl]))
  ·obtain⟨x,y,rfl⟩:=xS hl;have e0:gs.getD 0 tt1=Z1 d st rm (ZH x):=by rw[<- g0];rfl
   have e1:gs.getD 1 tt1=Z1 d st rm (ZH y):=by rw[<- g1];rfl
   rw[e0,e1];simp only[W2,eU,gz,gA] at hw;rcases hw with rfl|rfl<;>(show Z1 d st rm (.node (.op _) [ZH x,ZH y])=_)<;>rw[nn 48,nn 48,nn 48]
   ·rw[V5,nt rfl]
   ·rw[V2,nn 48]
theorem ZbT{w:Str}{x:Tr}(h:w∈W1):YO (.op w) [x].length:=Or.inl ⟨h,rfl⟩
theorem Zga{w:Str}{x y:Tr}(h:w∈W2):YO (.op w) [x,y].length:=Or.inr ⟨h,rfl⟩
theorem ZfR{w:Str}{ks:67}(h:w = "and" \/ w = "or")(l:ks.length<=8):YO (.many w) ks.length:=And.intro h l
theorem Zg7(x:Tr):mT d st rm (Yh x)=fun k=>!mT d st rm x k:=by
 show mT d st rm (.node (.op "not") [x])=_
 rw[xl (ZbT 48) (qop 48)];unfold mF;dsimp only;rw[nn 48,nn 48,nn 48,nn 48,nt rfl];rfl
theorem Zct{w:Str}{ks:67}(hw:w = "and" \/ w = "or")(l8:ks.length<=8)(k:Nat):mT d st rm (.node (.many w) ks) k=if w = "and" then(ks.map (mT d st rm)).all (· k) else(ks.map (mT d st rm)).any (· k):=by
 rw[xl (ZfR hw l8) (qmy (by rcases hw with rfl|rfl<;>left))];unfold mF;dsimp only
 split<;>rfl
end
end
theorem ZcP{t:Tr}(hc:isC t=true)(hl:is.length=t.ks.length):vG t.lb is=.inl (Xm t.lb is):=by
 rcases Va t.lb is with⟨w,e,e0,_⟩|⟨e,_⟩
 ·exfalso
  obtain⟨c,ks⟩:=t;have ec:c=.many w:=e;subst ec;have hk:ks=[]:=g6.mp (by rw[<- (show is.length=ks.length from hl),e0];rfl);subst hk;rw[Vm] at hc;simp[yF] at hc
 ·exact e
theorem TbY.rk{r P R:Addr}(h:TbY K Pm C H r P R D ps)(hc:∀s∈ps,isC s=true) :
  ∃rows:List (List Key×Addr),H R=some (.lst (rows.map fun e=>.ref e.2))/\rows.length=ps.length/\(∀e∈rows,SqT K H e.2 (e.1.map kV))/\(∀(i:Nat) t e,ps[i]?=some t->rows[i]?=some e->Zfk ps t e.1)/\∃es,H D=some (DyO Pm D es):=by
 obtain⟨rows,g1,g2,g3,g4,g5⟩:=h.rl
 let un:RK->List Key:=fun x=>match x with|.inl k=>k|.inr _=>[]
 have sV:∀(i:Nat) e,rows[i]?=some e->∃t,ps[i]?=some t/\e.1=.inl (un e.1)/\Zfk ps t (un e.1):=fun i e he=>by
  have hi:=(eY.mp he).1;have ht:ps[i]?=some (ps[i]' 21):=eI 21;obtain⟨is,l,q,x⟩:=g4 i _ e ht he;rw[ZcP (hc _ (fz ht)) l] at x;exact⟨_,ht,by rw[x],is,l,q,by rw[x]⟩
 refine⟨rows.map fun e=>(un e.1,e.2),by rw[g1,fL];rfl,by rw[eG];exact g2,fun e he=>?_,fun i t e h1 h2=>?_,_,g5⟩
 ·obtain⟨y,hy,rfl⟩:=eV.mp he;obtain⟨i,hi⟩:=mY.mp hy;obtain⟨_,_,e1,_⟩:=sV i y hi;have:=g3 y hy;rw[e1] at this;exact this.1
 ·rw[eO] at h2;obtain⟨y,hy,rfl⟩:=gZ.mp h2;obtain⟨t',LD,_,hr⟩:=sV i y hy;rw[h1] at LD;rw[fc LD];exact hr
def WM:Value->Int
 |.int x _=>x
 |_=>0
def Jl(prog:Program)(w:World)(B:Bool)(h:Heap)(a:Addr)(ss:82):Prop:=
 ∃o es ep t,h.get? a=some o/\o.ExactSet/\o.data=.set es ep t/\t.fits es.size=true/\ElemsOf (Zv prog w) es.toList/\(B=false->t.led=true) /\
  (∀e∈es.toList,∃x k,e.2=.int x k)/\(es.toList.map fun e=>WM e.2).Nodup/\(∀x,x∈(es.toList.map fun e=>WM e.2)↔x∈ss)/\es.size<=ss.length
theorem Jl.keep{ss:82}(x:Jl prog w B h a ss)(k:∀o,h.get? a=some o->h'.get? a=some o):Jl prog w B h' a ss:=by
 obtain⟨o,es,ep,t,ho,r⟩:=x;exact⟨o,es,ep,t,k o ho,r⟩
theorem QY{ss:82}{x:Int}{Q:Bool->70}(hS:Jl prog w B s.heap a ss)(ro:ss.length+1<scanBound)
  (h:∀h' b,Heap.SameBut a s.heap h'->Jl prog w B h' a (ss++[x])->Q b 80) :
  65 (setAddHashed a (.int x tk) ((Zv prog w).hash (.inl x))) Q E s:=by
 have rL:(Zv prog w).is (.inl x) (.int x tk)=true:=VU x tk;have Fk:(Value.int x tk).scannable=true:=rfl;obtain⟨o,es,ep,t,ho,hex,hd,hf,CH,hL,nB,sY,pN,HY⟩:=hS;have hb:es.size<scanBound:=by lia
 have HE:∀e∈es.toList,((Zv prog w).is (.inl x) e.2=true↔WM e.2=x):=fun e m=>by
  obtain⟨y,k,ey⟩:=nB e m;rw[ey];constructor
  ·intro q;have q2:Ve (.inl x) (.int y k)=true:=q;rcases ZZ q2 with⟨i,t',e1,e2⟩|⟨z,t',e1,e2⟩
   ·cases e1;cases e2;rfl
   ·cases e1
  ·intro q;have q':y=x:=q;subst q';exact VU y k
 unfold setAddHashed setAddHashedIn;refine fU (dZ (gK ho hd hf ?_));dsimp only;rw[byScan_of Fk hb CH];simp only[↓reduceIte];unfold setAddByScan;refine dZ ?_;refine dZ (iB ?_);refine dZ (wpAny_setScan_of rL ho hd hf CH ?_);cases hr:List.findIdx? (fun e=>(Zv prog w).is (.inl x) e.2) es.toList with
 |some j=>
  dsimp only;obtain⟨hj,OV,_⟩:=List.findIdx?_eq_some_iff_getElem.mp hr;refine eh (eh ?_);have e:s={ s with heap:=s.heap }:=by cases s;rfl
  rw[e];have hm:x∈ss:=(pN x).mp (eV.mpr ⟨es.toList[j],fv hj,(HE _ (fv hj)).mp OV⟩);refine h s.heap false (Heap.SameBut.refl a s.heap) ⟨o,es,ep,t,ho,hex,hd,hf,CH,hL,nB,sY,fun y=>?_,by rw[eK];lia⟩;rw[pN y,fj,eZ];exact⟨.inl,fun q=>q.elim id fun q=>q▸hm⟩
 |none=>
  dsimp only;have sw:∀e∈es.toList,WM e.2≠x:=fun e m q=>by
   have:=List.findIdx?_eq_none_iff.mp hr e m;rw[(HE e m).mpr q] at this;cases this
  have Ip:∀(b:Bool) {s₁:Shared}{Q':Unit->70},Q' () s₁->65 (match b with|true=>rule "set.scan.the-table-gave-way" |false=>pure ()) Q' E s₁:=
   fun b s₁ Q' hq=>by cases b<;>first|exact eh hq|exact iB hq
  have oY:=layNew_perm t es ((Zv prog w).hash (.inl x)) (.int x tk);have pD:=layNew_fits t es ((Zv prog w).hash (.inl x)) (.int x tk);have pi:=QK t es ((Zv prog w).hash (.inl x)) (.int x tk);generalize hLn:layNew t es ((Zv prog w).hash (.inl x)) (.int x tk)=L at oY pD pi ⊢;obtain⟨ou,t1,sr,R8⟩:=L;dsimp only at oY pD pi ⊢;rw[mE] at oY;have Bh:ElemsOf (Zv prog w) ou.toList:=(CH.push rL Fk).perm oY;have Bb:ou.size=es.size+1:=by rw[<- gn,oY.length_eq,eK,gn];rfl
  have Cj:∀(rD:Array (Int×Value)),rD.toList.Perm ou.toList->(∀e∈rD.toList,∃x k,e.2=.int x k)/\(rD.toList.map fun e=>WM e.2).Nodup/\(∀y,y∈(rD.toList.map fun e=>WM e.2)↔y∈ss++[x]):=fun rD hp=>by
   have rP:=hp.trans oY;have hm:=rP.map fun e=>WM e.2;rw[fo] at hm;refine⟨fun e m=>?_,hm.nodup_iff.mpr (lc.mpr ⟨sY,by simp,fun u hu v hv=>?_⟩),fun y=>?_⟩
   ·rcases fj.mp (rP.mem_iff.mp m) with m|m
    ·exact nB e m
    ·rw[eZ] at m;subst m;exact⟨x,tk,rfl⟩
   ·obtain⟨e,m,rfl⟩:=eV.mp hu;have:v=x:=by simpa[WM] using hv
    rw[this];exact sw e m
   ·rw[hm.mem_iff,fj,fj,pN y];simp[WM]
  refine dZ (Ip _ ?_);have XB:∀t2:SetTable,t2.fits ou.size=true->t2.led=t.led->65 (do
    storeSet a ou t2
    if(!sr&&t2.tooFull)=true then do
      (match (relayAll t2 ou (SetTable.grown ou.size)).2.2 with|true=>rule "set.scan.the-table-gave-way" |false=>pure ())
      storeSet a (relayAll t2 ou (SetTable.grown ou.size)).1 (relayAll t2 ou (SetTable.grown ou.size)).2.1
      pure (some true)
     else pure (some true)) (fun O7 s'=>65 (match O7 with|some added=>pure added|none=>setAddHashedIn a (.int x tk) ((Zv prog w).hash (.inl x)) 99999) Q E s') E s:=by
   intro t2 f2 l2;refine dZ (wpAny_storeSet_of ho hd ?_ (by rw[eJ];have:scanBound=4096:=rfl;lia));have hg:=jJ (es':=ou) (t':=t2) ho hd;have sb:=lW s.heap a (Obj.putSet ou t2)
   split
   ·have hp:=relayAll_perm t2 ou (SetTable.grown ou.size);have Ae:=relayAll_fits t2 ou (SetTable.grown ou.size);have EN:=j5 t2 ou (SetTable.grown ou.size);generalize hRl:relayAll t2 ou (SetTable.grown ou.size)=Rl at hp Ae EN ⊢;obtain⟨rD,t3,L8⟩:=Rl;dsimp only at hp Ae EN ⊢;have hsz:rD.size=ou.size:=by rw[<- gn,hp.length_eq,gn]
    refine dZ (Ip _ ?_);refine dZ (wpAny_storeSet_of hg rfl ?_ (by rw[eJ];have:scanBound=4096:=rfl;lia));have O5:=jJ (es':=rD) (t':=t3) hg rfl;obtain⟨g1,g2,g3⟩:=Cj rD hp;exact eh (eh (h _ true (sb.trans (lW _ a _)) ⟨_,rD,_,t3,O5,hex,rfl,Ae,Bh.perm hp,(fun z=>by rw[EN,l2];exact hL z),g1,g2,g3,by rw[hsz,Bb,eK];simp;lia⟩))
   ·obtain⟨g1,g2,g3⟩:=Cj ou (.refl _);exact eh (eh (h _ true sb ⟨_,ou,_,t2,hg,hex,rfl,f2,Bh,(fun z=>by rw[l2];exact hL z),g1,g2,g3,by rw[Bb,eK];simp;lia⟩))
  split
  ·refine dZ ?_;rw[hashByValue_scannable 8 Fk];refine eh ?_
   split
   ·exact XB t1 pD pi
   ·exact XB _ (SetTable.fits_plain_off pD) pi
  ·refine dZ (eh ?_);simp only[↓reduceIte];exact XB t1 pD pi
theorem ZaM{l:Addr}{ss:82}{items:71}(hh:A.handled=none)(hl:s.heap.IsList l items.toArray)(hv:ZE (ss.map V.int) items)(hb:ss.length<1000)
  (h:∀(h':Heap) (tk:Nat),Jl prog w 85 h' s.heap.objs.size ss->(∀b o,s.heap.get? b=some o->h'.get? b=some o)->Q (.ref s.heap.objs.size) 86) :
  65 (call (.type "set") [.ref l]) Q E s:=by
 have len:items.length=ss.length:=by rw[<- hv.length,eG]
 have AW:items.map WM=ss:=by
  clear h hb len hl
  induction ss generalizing items with
  |nil=>cases hv;rfl
  |cons y r ih=>
   cases hv with
   |cons h1 h2=>
    obtain⟨t,rfl⟩:=h1;rw[eM,ih h2];rfl
 have FR:∀v∈items,∃x k,v=.int x k:=by
  clear h hb len hl AW
  induction ss generalizing items with
  |nil=>cases hv;intro v h;cases h
  |cons y r ih=>
   cases hv with
   |cons h1 h2=>
    obtain⟨t,rfl⟩:=h1;intro v hm;rcases eU.mp hm with rfl|hm
    ·exact⟨_,_,rfl⟩
    ·exact ih h2 v hm
 refine Zba (SI:=fun h vs=>Jl prog w 85 h s.heap.objs.size (vs.map WM)) hh hl (fun x k=>x.keep k) ?_ ?_ fun h' tk a b=>h h' tk (by rw[AW] at a;exact a) b
 ·exact⟨_,#[],0,_,fg _ rfl,⟨rfl,rfl,rfl⟩,rfl,by rfl,(fun e he=>by simp at he),(fun z=>by show(!_)=true;rw[z];rfl),(fun e he=>by simp at he),by simp,fun x=>by simp,fu _⟩
 ·intro A' s' i v hA CN hg hS E Q hQ;obtain⟨x,k,rfl⟩:=FR v (fz CN);unfold setAdd;refine fU (dZ ((Zv prog w).pyHash (k:=.inl x) (VU x k) ?_));refine QY (s:={ s' with toks:=s'.toks+1 }) (ss:=(items.take i).map WM) hS (by rw[eG,fh];have:scanBound=4096:=rfl;lia) fun h' b sb rT=>hQ h' _ b sb ?_;rw[fo];exact rT
theorem Zbw{pk:Nat->Nat}{seq:71}
  (b1:∀(i:Nat) x,seq[i]?=some x->Wu B (pickOrder pk es) es oi (nZ i) (0+i)=some (x,nZ (i+1))) :
  ∀f:Value->Int,(es.toList.map fun e=>f e.2).Nodup->(seq.map f).Nodup:=by
 intro f hn;cases B with
 |true=>
  have hp:((pickOrder pk es).toList.map fun e=>f e.2).Nodup:=((ZaZ (next:=pk) es).map _).nodup_iff.mpr hn;unfold δ;rw[iY];intro i j hi hj wL;rw[eG] at hi hj;have hx:∀(i:Nat) (h:i<seq.length),((pickOrder pk es).toList.map fun e=>f e.2)[i]?=some (f seq[i]):=fun i h=>by
   have:=b1 i seq[i] (eI h);unfold Wu at this;simp only[gj] at this;obtain⟨e,e1,e2⟩:=gZ.mp this;rw[iZ] at e1;rw[eO,ib,e1];have:e.2=seq[i]:=fb ε e2;rw[<- this];rfl
  rw[gB,gB];intro e;have h1:=hx i hi;have h2:=hx j hj;rw[<- e] at h2;obtain⟨l1,g1⟩:=eY.mp h1;obtain⟨l2,g2⟩:=eY.mp h2;have:=(i6 hp).mp (g1.trans g2.symm);lia
 |false=>
  have st:∀(i:Nat) (h:i<seq.length),∃k p:Nat,(∃e,es[k]?=some e/\e.2=seq[i])/\oi[k]?=some p/\nZ i<=p/\nZ (i+1)=p+1:=fun i h=>by
   have:=b1 i seq[i] (eI h);unfold Wu at this;simp only[fJ,ft] at this
   split at this
   ·rename_i u x j h1 h2
    have g:=fc this;have gx:x=seq[i]:=fb ε g;have gs:j+1=nZ (i+1):=fb η g;exact⟨_,j,⟨_,h1,gx⟩,h2,JC rfl h2,gs.symm⟩
   ·cases this
  have up:∀(d i:Nat),i+d<=seq.length->nZ i<=nZ (i+d):=fun d=>by
   induction d with
   |zero=>exact fun i _=>eE _
   |succ d ih=>
    intro i h;obtain⟨k,p,_,_,h3,h4⟩:=st (i+d) 21;have:=ih i 21;have e:i+(d+1)=i+d+1:=by lia
    rw[e,h4];lia
  unfold δ;rw[iY];intro i j hi hj wL;rw[eG] at hi hj;rw[gB,gB];obtain⟨k1,p1,⟨e1,a1,c1⟩,a2,a3,a4⟩:=st i hi;obtain⟨k2,p2,⟨e2,d1,c2⟩,d2,d3,d4⟩:=st j hj;have hu:=up (j-(i+1)) (i+1) 21;have ej:i+1+(j-(i+1))=j:=by lia
  rw[ej,a4] at hu;intro e;have hk:k1≠k2:=fun z=>by rw[z,d2] at a2;cases a2;lia
  have q1:(es.toList.map fun e=>f e.2)[k1]?=some (f seq[i]):=by rw[eO,ib,a1,<- c1];rfl
  have q2:(es.toList.map fun e=>f e.2)[k2]?=some (f seq[j]):=by rw[eO,ib,d1,<- c2];rfl
  rw[<- e] at q2;obtain⟨l1,g1⟩:=eY.mp q1;obtain⟨l2,g2⟩:=eY.mp q2;exact hk ((i6 hn).mp (g1.trans g2.symm))
theorem Qc{seq:71}{ys:List Nat}(nd:ys.Nodup)(q1:seq.length=ys.length)(q2:∀(i:Nat) x,seq[i]?=some x->∃p e,ys[i]?=some p/\es[p]?=some e/\x=e.2) :
  ∀f:Value->Int,(es.toList.map fun e=>f e.2).Nodup->(seq.map f).Nodup:=by
 intro f hn;unfold δ;rw[iY];intro i j hi hj wL;rw[eG] at hi hj;rw[gB,gB];obtain⟨p1,e1,a1,c1,f1⟩:=q2 i _ (eI hi);obtain⟨p2,e2,a2,c2,f2⟩:=q2 j _ (eI hj);intro e;have r1:(es.toList.map fun e=>f e.2)[p1]?=some (f seq[i]):=by rw[eO,ib,c1,f1];rfl
 have r2:(es.toList.map fun e=>f e.2)[p2]?=some (f seq[j]):=by rw[eO,ib,c2,f2];rfl
 rw[<- e] at r2;obtain⟨l1,g1⟩:=eY.mp r1;obtain⟨l2,g2⟩:=eY.mp r2;have hp:=(i6 hn).mp (g1.trans g2.symm);rw[<- hp] at a2;obtain⟨m1,k1⟩:=eY.mp a1;obtain⟨m2,k2⟩:=eY.mp a2;have:=(i6 nd).mp (k1.trans k2.symm);lia
def ZdN(prog:Program)(w:World)(A:Around)(es:Array (Int×Value))(z:Nat)(a I:Addr)(h:Heap):Prop:=
 ∃(fp:List Addr) (seq:71) (St:Nat->Heap->Prop),Walks prog w A I fp [I] seq.length (fun i v=>seq[i]?=some v) St/\St 0 h/\(∀b∈fp,b<h.objs.size)/\(∀b∈fp,b=a\/z<=b)/\I∈fp/\(∀v∈seq,∃e∈es.toList,v=e.2)/\seq.length<=es.size/\(0<es.size->0<seq.length)/\∀f:Value->Int,(es.toList.map fun e=>f e.2).Nodup->(seq.map f).Nodup
theorem Za3{A':Around}{es ep t}(hh:A'.handled=none)(hS:We s.heap a es ep t)(hf:t.fits es.size=true)(pi:w.params.followText "set-order" = false->t.led=true)(hz:es.size<=1000)
  (hQ:∀I h' dr,s.heap.objs.size<=I->(∀b o,s.heap.get? b=some o->h'.get? b=some o)->ZdN prog w A' es s.heap.objs.size a I h'->Q (.ref I) { s with heap:=h',drawn:=dr }):65 (pyIter (.ref a)) Q E s:=by
 obtain⟨o,ho,hc,hd⟩:=id hS;have ug:a<s.heap.objs.size:=eP ho;refine mI hS.typeIs F.slot_set_iter (fW F.slot_set_iter hS.typeIs xH ?_ (F.args_set_iter_1 _))
 show 79 (Builtin.Frozenset.sizeOf a >>= _) _ _ s
 refine dZ ?_;unfold Builtin.Frozenset.sizeOf setEntries;refine dZ (dZ (gK ho hd hf (eh (eh ?_))));dsimp only;refine dZ ?_;unfold setDrawn;refine dZ (gK ho hd hf ?_);dsimp only;refine dZ ?_;unfold setsByText;refine dZ (lS (eh ?_))
 show 79 (pure (!w.params.followText "set-order" && (!t.plain&&decide (es.size>1)))) _ _ s
 refine eh ?_;have Lp:=hf;have oG:t.place.size=es.size:=by
  unfold SetTable.fits at hf;rw[fH] at hf;simpa using hf.1
 cases hdr:(!w.params.followText "set-order" && (!t.plain&&decide (es.size>1)))
 ·simp only[fJ,ft];refine dZ (eh ?_);refine dZ ?_;unfold setEpoch;refine dZ (gK ho hd hf (eh ?_));dsimp only;refine dZ (fX ?_);refine eh ⟨_,rfl, "set_iterator",_,⟨_,fg _ rfl,rfl⟩,ZN.lookup,?_⟩;have hw:w.params.followText "set-order" = false->t.led=true/\(t.plain=true\/es.size<=1):=fun e=>by
   refine⟨pi e,?_⟩;rw[e] at hdr;simp only[Bool.not_false,ip,Bool.and_eq_false_iff,Bool.not_eq_false',my] at hdr;rcases hdr with h|h
   ·exact .inl h
   ·exact .inr 21
  have AT:∃(seq:71) (nZ:Nat->Nat),nZ 0=0/\(∀i x,seq[i]?=some x->Wu 85 (pickOrder (w.params.setOrder a ep) es) es t.place (nZ i) (0+i)=some (x,nZ (i+1))) /\
    Wu 85 (pickOrder (w.params.setOrder a ep) es) es t.place (nZ seq.length) (0+seq.length)=none/\seq.length<=es.size:=by
   obtain⟨p1,p2,p3⟩:=kI (next:=w.params.setOrder a ep) es;cases hT:w.params.followText "set-order"
   ·obtain⟨seq,nZ,a1,a2,a3,a4⟩:=QE (nxt:=Wu false (pickOrder (w.params.setOrder a ep) es) es t.place) (m:=fun sl _=>t.place.toList.countP (fun x=>decide (sl<=x))) (fun sl g x pE he=>by
     unfold Wu at he;simp only[fJ,ft] at he
     split at he
     ·rename_i j _ hj
      cases he;refine Zcg ?_ (JC rfl hj);have:=mL hj;simpa using this
     ·cases he) _ 0 0 (eE _)
    refine⟨seq,nZ,a1,a2,a3,eW a4 (eW List.countP_le_length ?_)⟩;rw[gn];lia
   ·obtain⟨seq,nZ,a1,a2,a3,a4⟩:=QE (nxt:=Wu true (pickOrder (w.params.setOrder a ep) es) es t.place) (m:=fun _ g=>(pickOrder (w.params.setOrder a ep) es).size-g) (fun sl g x pE he=>by
     unfold Wu at he;simp only[gj] at he;obtain⟨e,Dh,MT⟩:=gZ.mp he;have:g<(pickOrder (w.params.setOrder a ep) es).size:=by
      rcases Χ g (pickOrder (w.params.setOrder a ep) es).size with h|h
      ·exact h
      ·rw[lQ h] at Dh;cases Dh
     show _-(g+1)<_-g
     lia) _ 0 0 (eE _)
    exact⟨seq,nZ,a1,a2,a3,by lia⟩
  obtain⟨seq,nZ,b0,b1,b2,b3⟩:=AT;have once:=Zbw (fun i x hx=>b1 i x hx);have mem:∀sl g x pE,Wu 85 (pickOrder (w.params.setOrder a ep) es) es t.place sl g=some (x,pE)->∃e∈es.toList,x=e.2:=fun sl g x pE he=>by
   unfold Wu at he
   split at he
   ·obtain⟨e,Dh,MT⟩:=gZ.mp he;cases MT;refine⟨e,(kI (next:=w.params.setOrder a ep) es).1 e ?_,rfl⟩;have:=mL Dh;simpa using this
   ·split at he
    ·rename_i h1 h2
     cases he;have:=mL h1;exact⟨_,by simpa using this,rfl⟩
    ·cases he
  refine hQ _ _ s.drawn (eE _) (fun b o z=>eN _ z) ⟨_,seq,_,QL (prog:=prog) (A:=A') hh (eQ ug) hf hw (fun i x hx=>by have:=b1 i x hx;rwa [iZ] at this) (by rw[iZ] at b2;exact b2),⟨⟨0,?_⟩,?_⟩,?_,?_,by simp,?_,b3,?_,once⟩
  ·rw[b0];exact⟨_,0,0,0,fg _ rfl,rfl,rfl⟩
  ·exact⟨o,eN _ ho,hc,hd⟩
  ·intro b hb;rw[hV];simp only[eU,gz,gA] at hb;rcases hb with h|h
   ·rw[h];exact iw _
   ·rw[h];exact ii ug
  ·intro b hb;simp only[eU,gz,gA] at hb;rcases hb with h|h
   ·exact .inr (by rw[h];exact eE _)
   ·exact .inl h
  ·intro v hv;obtain⟨i,hi,e⟩:=fO hv;have:=b1 i v (by rw[eI hi,e]);exact mem _ _ _ _ this
  ·intro rA;rcases Nat.eq_zero_or_pos seq.length with h0|h0
   ·rw[h0,b0] at b2
    exfalso
    unfold Wu at b2
    split at b2
    ·have:=(kI (next:=w.params.setOrder a ep) es).2.2 rA;rw[Option.map_eq_none_iff,Array.getElem?_eq_none_iff] at b2;lia
    ·have hb:SetTable.below t.place 0=0:=yx _ _;rw[hb,lE es 0 rA,lE t.place 0 21] at b2;cases b2
   ·exact h0
 ·simp only[gj];refine dZ (xj es.size (γ es.size) 47 fun ys dr sS=>?_);have y1:∀y∈ys,y∈γ es.size:=fun y hy=>sS.mem_iff.mp hy;have y2:ys.length<=es.size:=by rw[sS.length_eq,fI];exact eE _
  have y3:0<es.size->γ es.size≠[]->0<ys.length:=fun h _=>by rw[sS.length_eq,fI];exact h
  have y5:ys.Nodup:=sS.nodup_iff.mpr List.nodup_range;refine dZ (wpAny_newTuple (items:=ys.map fun(i:Nat)=>rawInt (i:Int)) ?_ (by rw[eG,eJ];lia));refine dZ ?_;unfold setEpoch;have nN:(s.heap.push { cls:=.type "tuple",data:=.seq (ys.map fun(i:Nat)=>rawInt (i:Int)).toArray }).get? a=some o:=eN _ ho;refine dZ (gK (s:={ s with drawn:=dr,heap:=_ }) nN hd hf (eh ?_));dsimp only;refine dZ (fX ?_);refine eh ⟨_,rfl, "set_iterator",_,⟨_,fg _ rfl,rfl⟩,ZN.lookup,?_⟩;have y4:∀y∈ys,y<es.size:=fun y hy=>gM.mp (y1 y hy);have ex:∃seq:71,seq.length=ys.length/\∀(i:Nat) x,seq[i]?=some x->∃p e,ys[i]?=some p/\es[p]?=some e/\x=e.2:=by
   refine⟨ys.map fun p=>(es.getD p (0,.none)).2,by simp,fun i x hx=>?_⟩;rw[eO] at hx;obtain⟨p,e1,e2⟩:=gZ.mp hx;have hp:=y4 p (fz e1);refine⟨p,es[p],e1,lE es p hp,?_⟩;rw[<- e2,π,lE es p hp];rfl
  obtain⟨seq,q1,q2⟩:=ex;have z1:(s.heap.push { cls:=.type "tuple",data:=.seq (ys.map fun(i:Nat)=>rawInt (i:Int)).toArray }).objs.size=s.heap.objs.size+1:=hV _ _;refine hQ _ _ dr (by rw[z1];exact hZ _) (fun b o z=>eN _ (eN _ z)) ⟨_,seq,_,Qu (prog:=prog) (A:=A') (T:=s.heap.objs.size) (ps:=ys) (ep:=ep) hh (by rw[z1];exact eQ (ii ug)) (by rw[z1];exact eQ (iw _)) hf q1 q2,⟨?_,?_,?_⟩,?_,?_,by simp,?_,by lia,?_,Qc y5 q1 q2⟩
  ·exact⟨_,0,0,0,fg _ rfl,rfl,rfl⟩
  ·exact⟨o,eN _ nN,hc,hd⟩
  ·exact⟨_,_,eN _ (fg _ rfl),rfl,rfl⟩
  ·intro b hb;rw[hV,z1];simp only[eU,gz,gA] at hb;rcases hb with h|h|h
   ·rw[h,z1];exact iw _
   ·rw[h];exact ii (ii ug)
   ·rw[h];exact ii (iw _)
  ·intro b hb;simp only[eU,gz,gA] at hb;rcases hb with h|h|h
   ·exact .inr (by rw[h,z1];exact hZ _)
   ·exact .inl h
   ·exact .inr (by rw[h];exact eE _)
  ·intro v hv;obtain⟨i,hi,e⟩:=fO hv;obtain⟨p,en,_,e2,e3⟩:=q2 i v (by rw[eI hi,e]);have:=mL e2;exact⟨en,by simpa using this,e3⟩
  ·intro rA;rw[q1];exact y3 rA (fun e=>by
    have:(γ es.size).length=0:=by rw[e];rfl
    rw[fI] at this;lia)
def Kr(B:Bool)(h:Heap)(a:Addr)(ss:82):Prop:=
 ∃es ep t,We h a es ep t/\t.fits es.size=true/\(B=false->t.led=true) /\
  (∀e∈es.toList,∃x k,e.2=.int x k)/\(es.toList.map fun e=>WM e.2).Nodup/\(∀x,x∈(es.toList.map fun e=>WM e.2)↔x∈ss)/\es.size<=ss.length
theorem Jl.toL{ss:82}(x:Jl prog w B h a ss):Kr B h a ss:=by
 obtain⟨o,es,ep,t,ho,hc,hd,hf,_,r⟩:=x;exact⟨es,ep,t,⟨o,ho,hc,hd⟩,hf,r⟩
section
variable{prog:Program}{w:World}{A:Around}{E:Value->Shared->Prop}{s:Shared}
theorem k6{vs:82}{Q:71->70}(hh:A.handled=none)(hS:Kr 85 s.heap a vs)(hz:vs.length<=1000)
  (hQ:∀(seq:71) (h':Heap) dr tk,(∀v∈seq,∃i t,v=.int i t/\i∈vs)->(seq.map WM).Nodup->seq.length<=vs.length->(vs≠[]->0<seq.length)->s.heap.objs.size<=h'.objs.size->(∀b o,s.heap.get? b=some o->h'.get? b=some o)->Q seq { s with heap:=h',drawn:=dr,toks:=tk }) :
  65 (collect (.ref a)) Q E s:=by
 obtain⟨es,ep,t,hA,hf,hL,CK,sY,pN,HY⟩:=hS;unfold collect;refine dZ (wpAny_runValue (gO PySem.F.entry_proto_collect ?_));rw[ie PySem.F.plain_proto_collect _]
 show wpAny _ A.in1 (newList [] >>= fun l=>again (.builtin "list.__iadd__" ⟨[l,.ref a],[]⟩)) _ _ s
 refine dZ (fX ?_);refine eh ⟨ig PySem.F.plain_list_iadd _,gO PySem.F.entry_list_iadd ?_⟩;rw[ie PySem.F.plain_list_iadd _];have ug:a<s.heap.objs.size:=by obtain⟨o,ho,_⟩:=hA;exact eP ho
 have Am:We (s.heap.push { cls:=.type "list",data:=.seq ([]:71).toArray }) a es ep t:=hA.at fun o z=>eN _ z
 show wpAny _ A.in1 (Builtin.List.listExtendWith (.ref s.heap.objs.size) (.ref a) (.ref s.heap.objs.size)) _ _ _
 unfold Builtin.List.listExtendWith;have hT:=We.typeIs (s:={ s with heap:=s.heap.push { cls:=.type "list",data:=.seq ([]:71).toArray } }) Am;refine dZ (wpAny_typeOf hT ?_);have h1:Builtin.List.listSameRef (.ref s.heap.objs.size) (.ref a)=false:=by simp[Builtin.List.listSameRef,fM ug]
 have h2:(Value.type "set" == Value.type "list")=false:=by left
 have h3:(Value.type "set" == Value.type "tuple")=false:=by left
 simp only[h1,h2,h3,Bool.or_false,fJ,ft];have z1:(s.heap.push { cls:=.type "list",data:=.seq ([]:71).toArray }).objs.size=s.heap.objs.size+1:=hV _ _;refine dZ (Za3 (A':=A.in1) (by simpa using hh) Am hf hL 21 fun I h1 dr hI wU hW=>?_);rw[z1] at hI;obtain⟨fp,seq,St,W,nB,EK,Dx,hIf,m1,m2,m3,m4⟩:=hW;have FZ:We h1 a es ep t:=Am.at fun o z=>wU _ o z;refine dZ (fU ?_);unfold Builtin.List.listLengthHint;have Dz:=We.typeIs (s:={ s with heap:=h1,drawn:=dr }) FZ;refine dZ (iU Dz kD ?_);have sp:splitId "set.__len__" = some ("set","__len__"):=by left
 dsimp only;rw[sp];dsimp only;refine dZ (iF Dz sub_set_self ?_);simp only[g7,fJ,ft]
 show 79 (if true=true then _ else _) _ _ _
 rw[nt rfl];refine dZ (wpAny_typeOf Dz ?_);dsimp only;refine eh ?_
 show wpAny _ A.in1 (if(false||true)=true then _ else _) _ _ _
 rw[nt (show(false||true)=true from rfl)];refine dZ (iB ?_);have L9:s.heap.objs.size∉fp:=fun hm=>by
  rcases Dx _ hm with e|e
  ·exact nu e (fM ug)
  ·rw[z1] at e;lia
 have CQ:h1.get? s.heap.objs.size=some { cls:=.type "list",data:=.seq ([]:71).toArray }:=wU _ _ (fg _ rfl);refine dZ ?_
 show wpAny _ A.in1 (updateSeq s.heap.objs.size (·.push .none) >>= fun _=>updateSeq s.heap.objs.size (·.pop)) _ _ _
 refine dZ (iz CQ rfl ?_);have Hc:=gJ (Obj.mapSeq (·.push Value.none)) CQ rfl;refine iz Hc rfl ?_;have M4:=gJ (Obj.mapSeq (·.pop)) Hc rfl;have Gm:∀b o,b≠s.heap.objs.size->h1.get? b=some o->((h1.update s.heap.objs.size (Obj.mapSeq (·.push Value.none))).update s.heap.objs.size (Obj.mapSeq (·.pop))).get? b=some o:=
  fun b o hb e=>(gH _ _ (eX hb)).trans ((gH _ _ (eX hb)).trans e)
 refine eh ⟨ig lB _,codeAny_extend_loopS W.toS (by rw[eJ];lia) _ L9 _ seq.length 0 _ _ _ rfl (fu _) (W.frame 0 _ _ nB fun b hb o e=>Gm b o (fun h=>L9 (h▸hb)) e) M4 (ItemsOf.nil _) fun s' tN c' hm rT oI=>?_⟩
 show wpAny _ A (load s.heap.objs.size >>= _) _ _ s'
 refine dZ (wpAny_load rT ?_);have e1:tN.toList=seq:=by
  apply l4;intro i;rw[ib];rcases Χ i tN.size with h|h
  ·have:=oI.2 i _ (lE tN i h);rw[lE tN i h];exact this.symm
  ·rw[lQ h,io (by rw[oI.1] at h;exact h)]
 refine eh ?_;rw[e1];obtain⟨Io,gg,dd,tt,oo⟩:=s';obtain⟨q1,q2,q3,q4,q5⟩:=hm;dsimp only at q1 q2 q3 q4 q5;subst q2;subst q3;subst q4;have keep:∀b o,s.heap.get? b=some o->Io.get? b=some o:=fun b o z=>by
  have nH:=eP z;refine q1 b o (by simp only[eU,gz,gA];rintro(h|h);exact nu nH (by rw[h];exact gS _);exact nu nH (by rw[h];exact Nat.not_lt.mpr (Nat.le_of_succ_le hI))) (Gm b o (eQ nH) (wU b o (eN _ z)))
 refine hQ seq Io _ tt (fun v m=>?_) (m4 WM sY) 21 (fun z=>m3 ?_) ?_ keep
 ·obtain⟨e,h1,h2⟩:=m1 v m;obtain⟨i,t',e3⟩:=CK e h1;exact⟨i,t',by rw[h2,e3],(pN i).mp (eV.mpr ⟨e,h1,by rw[e3];rfl⟩)⟩
 ·obtain⟨x,r,ev⟩:=ψ z;obtain⟨e,h1,_⟩:=eV.mp ((pN x).mpr (by rw[ev];simp));rw[<- gn];exact mW h1
 exact fV (eP rT)
theorem Zfm:∀{l:71},(∀v∈l,∃i t,v=.int i t)->IntsAre l (l.map WM)
 |[],_=>.nil
 |v::r,h=>by
  obtain⟨i,t,rfl⟩:=h v 47;exact .cons i t (Zfm fun u m=>h u (eT _ m))
theorem Zfa:∀{l:71}{ns:82},IntsAre l ns->l.map WM=ns/\∀v∈l,∃t,v=.int (WM v) t
 |_,_,.nil=>⟨rfl,nofun⟩
 |_,_,.cons n t h=>by
  obtain⟨h1,h2⟩:=Zfa h;refine⟨by rw[eM,h1];rfl,fun v m=>?_⟩;rcases eU.mp m with rfl|m
  ·exact⟨t,rfl⟩
  ·exact h2 v m
theorem Qt{vs:82}(hh:A.handled=none)(hS:Kr 85 s.heap a vs)(h64:vs.length<64)
  (h:∀(out:71) (L n:Nat) (h':Heap) dr tk,(∀v∈out,∃i t,v=.int i t/\i∈vs)->(out.map WM).Nodup->out.length<=vs.length->(vs≠[]->0<out.length)->s.heap.objs.size<=L->(∀b o,s.heap.get? b=some o->h'.get? b=some o) -> h'.get? L=some { cls:=.type "list",data:=.seq out.toArray n }->Q (.ref L) { s with heap:=h',drawn:=dr,toks:=tk }) :
  65 (call (.builtin "sorted") [.ref a]) Q E s:=by
 refine Calls.call_function_entry kind_sorted plain_sorted entry_sorted (args_sorted1 _) ?_;unfold Builtin.«sorted»;refine dZ (m:=checkCount "sorted" 1 1 _) (eh ?_);refine dZ (k6 (by simpa using hh) hS 21 fun seq h1 dr tk m1 m0 m2 m3 hz k1=>?_);refine dZ (wpAny_newList ?_ (by rw[eJ];lia));have AL:(h1.push (seqObj "list" seq.toArray 0)).get? h1.objs.size=some (seqObj "list" seq.toArray 0):=fg _ rfl;have k2:∀b o,s.heap.get? b=some o->b≠h1.objs.size/\(h1.push (seqObj "list" seq.toArray 0)).get? b=some o:=fun b o z=>by
  have:=k1 b o z;exact⟨eQ (eP this),eN _ this⟩
 show 79 _ _ _ { s with heap:=h1.push (seqObj "list" seq.toArray 0),drawn:=dr,toks:=tk }
 refine dZ (fU (fW slot_list_sort ⟨_,AL,rfl⟩ entry_list_sort (list_sort_tree AL (Zfm fun v m=>let ⟨i,t,e,_⟩:=m1 v m; ⟨i,t,e⟩) 21 fun ot ns' i2 pm _=>⟨_,rfl,?_⟩) (args_list_sort _)))
 ·obtain⟨e1,e2⟩:=Zfa i2;rw[<- e1] at pm;have pl:=pm.length_eq;rw[eG,eG] at pl;obtain⟨e,he⟩:=sortedHeap_at (out:=ot) AL;refine eh ⟨_,rfl,h ot.toList h1.objs.size e _ dr tk (fun v m=>?_) (pm.nodup_iff.mpr m0) (by rw[pl];exact m2) (fun z=>by rw[pl];exact m3 z) hz (fun b o z=>?_) he⟩
  ·obtain⟨t,ht⟩:=e2 v m;obtain⟨u,hu,eu⟩:=eV.mp (pm.mem_iff.mp (iW m));obtain⟨i,t',e',hi⟩:=m1 u hu;refine⟨_,t,ht,?_⟩;rw[<- eu,e'];exact hi
  obtain⟨n1,z1⟩:=k2 b o z
  show(sortedHeap _ _ _ _).get? b=some o
  rw[sortedHeap_old n1 (eP z1)];exact z1
end
def SzO(Pm:Params)(a:Addr)(ss:82):HO:=.ext fun h=>Kr (Pm.followText "set-order") h a ss
theorem ZgT{ss:82}(x:Kr (Pm.followText "set-order") h a ss):Yp P w H h a (SzO Pm a ss):=by
 refine⟨x,?_,?_⟩
 ·obtain⟨_,_,_,⟨o,e,_⟩,_⟩:=x;exact⟨o,e⟩
 ·rintro h1 h2 ⟨es,ep,t,hA,c⟩ k;exact⟨es,ep,t,hA.at fun o z=>k o z,c⟩
def ZhJ(K:W.Frag)(Pm:Params):List V->Hp->VK->Prop:=fun xs H Q=>∃p ss,xs=[.ref p]/\SqL K H p (ss.map V.int)/\ss.length<1000/\∀l,H l=none->Q (.ref l) (upd H l (SzO Pm l ss))
def Zgp(Pm:Params):List V->Hp->VK->Prop:=fun xs H Q=>∃p ss,xs=[.ref p]/\H p=some (SzO Pm p ss)/\ss.length<64/\∀l us,H l=none->us.Nodup->(∀x∈us,x∈ss)->us.length<=ss.length->(ss≠[]->us≠[])->Q (.ref l) (upd H l (.lst (us.map V.int)))
theorem jf:∀{out:71},(∀v∈out,∃i t,v=.int i t)->ZE ((out.map WM).map V.int) out
 |[],_=>.nil
 |v::r,h=>by
  obtain⟨i,t,rfl⟩:=h v 47;exact .cons ⟨t,rfl⟩ (jf fun u m=>h u (eT _ m))
theorem Zbn(hK:X.K=K)(hw:X.w.params=Pm)(hc:X.calm=true):Yt X (.type "set") (ZhJ K Pm):=by
 subst hK;intro cQ s σ H xs us Q I r h;obtain⟨p,ss,rfl,hq,hl,q⟩:=h;obtain⟨u,rfl,ru⟩:=VN r;obtain rfl:u=Value.ref p:=ru;obtain⟨its,rv,pl,hz⟩:=I.list hq;refine ZaM (I.ok.hd hc) pl.isList rv hl fun h' tk hS k=>?_;exact⟨.ref s.heap.objs.size,_,I.laid (o:=SzO Pm s.heap.objs.size ss) k (eE _) (ZgT (by rw[<- hw];exact hS.toL)),rfl,q _ (I.hok.fresh (eE _))⟩
theorem KY(hw:X.w.params=Pm)(hc:X.calm=true):Yt X (.builtin "sorted") (Zgp Pm):=by
 intro cQ s σ H xs us Q I r h;obtain⟨p,ss,rfl,hq,hl,q⟩:=h;obtain⟨u,rfl,ru⟩:=VN r;obtain rfl:u=Value.ref p:=ru;obtain⟨hS,_⟩:=I.hok p _ hq;refine Qt (I.ok.hd hc) (by rw[hw];exact hS) hl fun out L n h' dr tk g1 g2 g3 g4 hL k hg=>?_;have lo:(out.map WM).length=out.length:=eG ..;refine⟨.ref L,_,ZfQ (I.laid (o:=.lst ((out.map WM).map V.int)) k hL ⟨by rw[eG,eJ];lia,out,n,jf fun v m=>(let ⟨i,t,e,_⟩:=g1 v m; ⟨i,t,e⟩),hg⟩) dr,rfl,q L (out.map WM) (I.hok.fresh hL) g2 (fun x hx=>?_) 21 (fun z e=>?_)⟩
 ·obtain⟨v,m,rfl⟩:=eV.mp hx;obtain⟨i,t,rfl,hi⟩:=g1 v m;exact hi
 ·have:=g4 z;rw[<- lo,e] at this;exact nu this 47
end L3
namespace L2
open PySem PySem.Spec PyProof.Rows
def ZbY(TP:Addr)(H:Hp):Prop:=H TP=some (.tbl #[])/\∀b,b≠TP->H b=none\/∃o xs,H b=some (.frz o (.lst xs))
theorem Zbk{mb:Str->81}{k:Nat}{fa:Addr}{x:Str}{s₁:Shared}{vs:71}{TP:Addr}
  (KX:K.In s₁.heap) (CW:s₁.heap.Ns mainGlobals mg) (hb:s₁.heap.Ns builtinsNs mb) (Sl:∀x:Str,x ≠ "__name__" -> mb x=bootBuiltins x) (Ex:s₁.heap.NoLimit) (hg:s₁.gens=#[])
  (hC:W.CodeHd s₁.heap tc TP) (hT:s₁.heap.get? TP=some (W.tabObj #[])) (AJ:K.lookup TP=none)
  (ha:s₁.heap.get? a=some { cls:=.type "list",data:=.seq vs.toArray }) (hi:IntsAre vs ns) (hl:ns.length<=sizeLine) (hr:YK k callerA)
  (E3:s₁.heap.BuiltinsAt mg TP) (F:∀base:Heap,K.In base->base.Ns mainGlobals mg->base.BuiltinsAt mg TP->WK P w K mg base CX k fa fd [x] sp) (AV:∀(s:Shared) (u:Value),BindsTo s fd ⟨[u],[]⟩ [(x,u)])
  (rK:∀H:Hp,ZbY TP H->SqL K H a (ns.map V.int)->sp [.ref a] H (fun v _=>v=.bl true) fun _ _ _=>False)
  (EW:∀H e s',CX [] H s₁ (fun _ _ _=>False) e s'->False) :
  codeAny (model P w) callerA (.call (.ref fa) ⟨[.ref a],[]⟩) (fun r s'=>r=.ok (.ret (.bool true))/\OldK s₁.heap s'.heap/\s'.os=s₁.os/\AllBare s'.gens) s₁:=by
 have rv:=jC hi;have EM:=hi.length;have LU:a≠TP:=fun q=>by rw[q,hT] at ha;cases ha
 have core:∀H:Hp,ZbY TP H->SqL K H a (ns.map V.int)->HOk P w H s₁.heap->(∀b,H b≠none->b=a\/b=TP)->(H a≠none->K.lookup a=none) ->
   codeAny (model P w) callerA (.call (.ref fa) ⟨[.ref a],[]⟩) (fun r s'=>r=.ok (.ret (.bool true))/\OldK s₁.heap s'.heap/\s'.os=s₁.os/\AllBare s'.gens) s₁:=by
  intro H hO hS hok hA hK;have o6:∀{b:Addr}{o:Obj},s₁.heap.get? b=some o->H b=none->(vV s₁.heap H).get? b=some o:=fun e n=>ZcD e n;have t5:∀{b:Addr}{o:Obj}{es:Array DictEntry}{ep:Nat},s₁.heap.get? b=some o->o.data=.dict es ep->H b=none:=fun {b o es ep} e d=>by
   cases q:H b with
   |none=>rfl
   |some u=>
    rcases hA b (by rw[q];simp) with e'|e'
    ·subst e';rw[ha] at e;cases e;have d':Data.seq vs.toArray _=Data.dict es ep:=d;cases d'
    ·subst e';rw[hT] at e;cases e;have d':Data.fields #[]=Data.dict es ep:=d;cases d'
  have Dl:∀{b:Addr}{m:Str->81},s₁.heap.Ns b m->(vV s₁.heap H).Ns b m:=fun {b m} ⟨o,es,ep,e,d,r⟩=>⟨o,es,ep,o6 e (t5 e d),d,r⟩;have IF:K.In (vV s₁.heap H):=fun b o e=>o6 (KX b o e) (by
   cases q:H b with
   |none=>rfl
   |some u=>
    rcases hA b (by rw[q];simp) with e'|e'
    ·subst e';rw[hK (by rw[q];simp)] at e;cases e
    ·subst e';rw[AJ] at e;cases e)
  have hM:Mod K mg (vV s₁.heap H):=⟨IF,Dl CW,⟨mb,Dl hb,Sl⟩,let ⟨mc,h1,h2⟩:=Ex; ⟨mc,Dl h1,h2⟩⟩;have e0:kN P w K mg (vV s₁.heap H) callerA [] s₁ H:=⟨rfl,hM,fun b o e=>ZeF e,Nat.le_of_eq (ZbO _ _),trivial,fun b hb=>nu (show b∈([]:List Addr) from hb) 47,hok,.of_eq hg⟩;have B6:(vV s₁.heap H).BuiltinsAt mg TP:=by
   obtain⟨bm,ob,b1,b2,b3,b4,b5,b6,b7,b8⟩:=E3;refine⟨bm,ob,b1,b2,b3,b4,o6 b5 ?_,b6,b7,b8⟩;cases q:H bm with
   |none=>rfl
   |some u=>
    rcases hA bm (by rw[q];simp) with e'|e'
    ·rw[e',ha] at b5;cases b5;have z:Value.type "list" = Value.type "module" := b6;injection z with z;exact nu z 48
    ·exact nu e' b4
  refine hX ((F _ IF (Dl CW) B6).run callerA [] s₁ H ⟨[.ref a],[]⟩ [.ref a] [.ref a] _ _ hr e0 (AV s₁ (.ref a)) (.cons rfl .nil) (rK H hO hS)) fun r s' h=>?_;cases r with
  |error e=>exact(EW H e s' h).elim
  |ok fl=>
   cases fl with
   |next=>exact False.elim h
   |brk=>exact False.elim h
   |cont=>exact False.elim h
   |ret u=>
    obtain⟨v,H',os,bare,un,A0,r',q⟩:=h;have q':v=.bl true:=q;subst q';obtain rfl:u=Value.bool true:=r';obtain⟨more,tb⟩:=un.tbls TP _ hO.1;have uf:s'.heap.get? TP=some (W.tabObj (#[]++more)):=A0 TP _ tb;have keep:∀b o,b≠TP->s₁.heap.get? b=some o->s'.heap.get? b=some o:=fun b o rj e=>by
     cases q:H b with
     |none=>exact un.keep b o e q (by intro z;exact nu (show b∈([]:List Addr) from z) 47) 47
     |some u=>
      rcases hO.2 b rj with z|⟨ob,xs,z⟩
      ·rw[q] at z;cases z
      ·have z2:=un.frzs b ob _ z;obtain⟨e1,_⟩:=hok b _ z;obtain⟨e2,_⟩:=A0 b _ z2;rw[e] at e1;cases e1;exact e2
    refine⟨rfl,⟨fun b o e=>?_,fun b o e=>?_⟩,os,bare⟩
    ·by_cases rj:b=TP
     ·subst rj;rw[hT] at e;cases e;exact .inr (.inl ⟨(hC.tab hT).isCodeTable,rfl,#[],more,rfl,uf⟩)
     ·exact .inl (keep b o rj e)
    ·by_cases rj:b=TP
     ·exact⟨_,rj▸uf⟩
     ·exact⟨o,keep b o rj e⟩
 have uw:∀H:Hp,Yp P w H s₁.heap TP (.tbl #[]):=fun _=>hT;cases hk:K.lookup a with
 |some o=>
  have e:=KX a o hk;rw[ha] at e;cases e;refine core (fun b=>if b=TP then some (.tbl #[]) else none) ⟨nt rfl,fun b n=>.inl (nn n)⟩ (.inr ⟨_,vs.toArray,_,hk,rfl,rfl,rfl,by rw[fe,EM];exact hl,by simpa using rv⟩) (fun b u z=>?_) (fun b z=>?_) fun z=>nu (nn LU) z
  ·by_cases hb:b=TP
   ·have z':=(nt hb).symm.trans z;cases z';subst hb;exact uw _
   ·have z':=(nn hb).symm.trans z;cases z'
  ·by_cases hb:b=TP
   ·exact .inr hb
   ·exact nu (nn hb) z
 |none=>
  refine core (fun b=>if b=TP then some (.tbl #[]) else if b=a then some (.frz { cls:=.type "list",data:=.seq vs.toArray } (.lst (ns.map V.int))) else none) ⟨nt rfl,fun b n=>?_⟩
   (.inl (.inr ⟨{ cls:=.type "list",data:=.seq vs.toArray },(nn LU).trans (nt rfl)⟩)) (fun b u z=>?_) (fun b z=>?_) fun _=>hk
  ·by_cases hb:b=a
   ·exact .inr ⟨_,_,(nn n).trans (nt hb)⟩
   ·exact .inl ((nn n).trans (nn hb))
  ·by_cases rj:b=TP
   ·have z':=(nt rj).symm.trans z;cases z';subst rj;exact uw _
   ·have z1:=(nn rj).symm.trans z
    by_cases hb:b=a
    ·have z':=(nt hb).symm.trans z1;cases z';subst hb;exact⟨ha,by rw[eG];exact hl,vs,_,rv,ha⟩
    ·have z':=(nn hb).symm.trans z1;cases z'
  ·by_cases rj:b=TP
   ·exact .inr rj
   ·by_cases hb:b=a
    ·exact .inl hb
    ·exact nu ((nn rj).trans (nn hb)) z
theorem walk_ofT{k:Nat}{d:DefRec}{K:Params->W.Frag}{CX:World->CXT}{sp:World->Sp}{x:Str}{TP:Addr}
  (hn:l.most=some n) (CI:n<=sizeLine) (Bu:d.params.defaults=[]) (hr:YK k callerA)
  (hY:∀(w:World) (h:Heap),YP w h->(K w.params).In h) (C5:∀(w:World) (h:Heap),YP w h->h.get? TP=some (W.tabObj #[]))
  (hC:∀w:World,W.codeHdIn (K w.params) tc TP=true) (AJ:∀w:World,(K w.params).lookup TP=none)
  (F:∀(w:World) (mg:Str->81) (fa:Addr) (h:Heap),(K w.params).In h->h.Ns mainGlobals mg->mg d.name=some (.ref fa) -> ∃fd:FuncData,(∀(s:Shared) (u:Value),BindsTo s fd ⟨[u],[]⟩ [(x,u)]) /\ ∀base:Heap,(K w.params).In base->base.Ns mainGlobals mg->base.BuiltinsAt mg TP->WK l.prog w (K w.params) mg base (CX w) k fa fd [x] (sp w))
  (rK:∀(w:World) (H:Hp) (a:Addr) (ns:82),ns.length<=n->ZbY TP H->SqL (K w.params) H a (ns.map V.int)->sp w [.ref a] H (fun v _=>v=.bl true) fun _ _ _=>False)
  (EW:∀(w:World) (H:Hp) (s:Shared) (e:Value) (s':Shared),CX w [] H s (fun _ _ _=>False) e s'->False) :
  W.WalkO q rg XP YP l.row.toRowW d [] (fun f vs=>PySem.call f vs):=by
 refine Att.attach_call hn Bu fun w s₀ s₁ mg mb fa o pm cd doc a vs ns G Y ho hd pQ Eb uU r6 nv hg=>?_;have KX:=hY w _ Y;obtain⟨fd,hb,hF⟩:=F w mg fa _ KX G.T.g Eb;have hT:=C5 w _ Y;obtain⟨bm,ob,b1,b2,b3,b4,b5,b6⟩:=G.T.bmain;have E3:s₁.heap.BuiltinsAt mg TP:=by
  refine⟨bm,ob,b1,b2,fun q=>?_,fun q=>?_,b3,b4,b5,b6⟩
  ·obtain⟨o,es,ep,e,hd,_⟩:=G.T.g;rw[q,e] at b3;cases b3;rw[hd] at b6;cases b6
  ·rw[q,hT] at b3;cases b3;cases b4
 exact Zbk KX G.T.g G.T.b G.T.builtins G.T.nolimit hg (W.codeHd_of_K KX (hC w)) (C5 w _ Y) (AJ w) uU r6 (eW nv CI) hr E3 hF hb (fun H hO hS=>rK w H a ns nv hO hS) fun H e s'=>EW w H s₁ e s'
def FnF(f:Addr)(o:Obj):HO:=.ext fun h=>h.get? f=some o
def j6(c:Addr)(qual:Str):HO:=.ext fun h=>h.CodeRec (.ref c) qual
def tDef(TP:Addr)(i:Nat)(qual:Str)(mk:Value->Addr->Value->Obj):TS:=fun D σ H=>H TP=some (.tbl #[]) /\
 ∀(f c:Addr) (doc ctv:Value) (ps:Array Value),H f=none->H c=none->f≠c->D.nx (σ.set i (some (.ref f))) (upd (upd (upd H TP (.tbl ps)) c (j6 c qual)) f (FnF f (mk doc c ctv)))
section
variable{name:Str}{fsc:Scope}{TP:Addr}{clos:List (Str×Addr)}
theorem Zgl(B6:X.base.BuiltinsAt X.mg TP)(A7:X.env.code=.ref tc)(hC:W.codeHdIn X.K tc TP=true)(pA:closureFor fsc X.env=pure clos)(hq:qualnameIn X.env name name=qual)
  (Mb:params.defaults=[]) (wz:params.kw_defaults=[]) (OF:annTrees params none X.env=[])
  (hN:X.N.Nodup) (hi:X.N[i]?=some name) (hx:Loc X.env.scope name) (hf:X.fn name=true\/X.env.scope.names.lookup name=some .local:=by first|exact .inl rfl|exact .inr rfl|assumption) :
  PS X (.FunctionDef name params body [] none [] fsc none name gT) (tDef TP i qual fun doc c ctv=>W.fnMade name qual params body fsc clos doc ((X.mg "__name__").getD .none) c ctv):=by
 intro cQ s σ H D I h;obtain⟨hH,h⟩:=h;have hP:s.heap.get? TP=some (W.tabObj #[]):=I.hok TP _ hH;have kb:∀b o,X.base.get? b=some o->s.heap.get? b=some o:=fun b o e=>(I.bs b o e).1;have C:W.CodeHd s.heap tc TP:=W.codeHd_of_K I.kIn hC;obtain⟨bm,ob,b1,b2,b3,b4,b5,b6,b7,b8⟩:=B6;have IJ:s.heap.Ns mainGlobals X.mg:=I.ok.mod.glob.keeps kb;have Rf:mainGlobals≠TP:=fun q=>by
  obtain⟨o,es,ep,e,hd,_⟩:=IJ;rw[q,hP] at e;cases e;cases hd
 refine W.nestDef_K Mb wz OF ?_;rw[hq];refine W.makeFunction_K (mg:=X.mg) pA I.ok.glob IJ A7 C hP trivial rfl Rf ⟨bm,ob,b1,b2,b3,b4,kb _ _ b5,b6,b7,b8⟩ fun c ctv doc h' tk hE CV nH FJ Hy=>?_;have nf:H h'.objs.size=none:=I.hok.fresh (fV (gk CV nH));have nc:H c=none:=I.hok.fresh CV;have Rt:h'.objs.size≠c:=fM nH;have Re:TP≠h'.objs.size:=fun q=>by rw[q,nf] at hH;cases hH
 have M3:TP≠c:=fun q=>by rw[q,nc] at hH;cases hH
 have keep:∀(o':Obj) b o,b≠TP->s.heap.get? b=some o->(h'.push o').get? b=some o:=fun o' b o n e=>eN _ (hE b o n e);have oX:∀{u1 u2 u3:HO}{b:Addr},b≠TP->b≠c->b≠h'.objs.size->upd (upd (upd H TP u1) c u2) h'.objs.size u3 b=H b:=fun n1 n2 n3=>by rw[Zo n3,Zo n2,Zo n1]
 have nC:∀{b:Addr}{u:HO},H b=some u->b≠c/\b≠h'.objs.size:=fun e=>⟨ZC e nc,ZC e nf⟩;refine zI (I.un (t':=tk) (H':=upd (upd (upd H TP (.tbl (#[]++#[rawInt gT.line,rawInt gT.col,.ref c]))) c (j6 c qual)) h'.objs.size (FnF h'.objs.size _)) ?U ?O) hN hi hx (show ZL (.ref h'.objs.size) _ from rfl) (fun s2 I2=>⟨_,_,I2,h _ c doc ctv _ nf nc Rt⟩) hf
 case U=>
  refine⟨fun b o e n _ _=>keep _ b o (fun q=>by rw[q,hH] at n;cases n) e,fun b o e n _ _=>⟨o.slots,keep _ b o (fun q=>by rw[q,hH] at n;cases n) e⟩,fun b o e n _=>?_,fun b o e _=>?_,fun b xs e=>?_,fun b o u e=>?_,fun b ps e=>?_⟩
  ·rw[oX (fun q=>by rw[q,hH] at n;cases n) (eQ (fF (eP e) CV)) (eQ (Nat.lt_trans (fF (eP e) CV) nH))];exact n
  ·by_cases q:b=TP
   ·exact⟨_,eN _ (q▸Hy)⟩
   ·exact⟨o,keep _ b o q e⟩
  ·rw[oX (fun q=>by rw[q,hH] at e;cases e) (nC e).1 (nC e).2];exact e
  ·rw[oX (fun q=>by rw[q,hH] at e;cases e) (nC e).1 (nC e).2];exact e
  ·by_cases q:b=TP
   ·subst q;rw[hH] at e;cases e;exact⟨_,by rw[Zo Re,Zo M3,Zc]⟩
   ·exact⟨#[],by rw[oX q (nC e).1 (nC e).2,e];simp⟩
 case O=>
  intro b u e
  by_cases n3:b=h'.objs.size
  ·subst n3;rw[Zc] at e;cases e;exact⟨fg _ rfl,⟨_,fg _ rfl⟩,fun h1 h2 q k=>k _ q⟩
  ·rw[Zo n3] at e
   by_cases n2:b=c
   ·subst n2;rw[Zc] at e;cases e;obtain⟨c2,oc,vs,t,e2,rG,r⟩:=FJ;cases e2;refine⟨⟨_,oc,vs,t,rfl,eN _ rG,r⟩,⟨_,eN _ rG⟩,fun h1 h2 q k=>?_⟩;obtain⟨c3,o3,v3,t3,e3,h3,r3⟩:=q;cases e3;exact⟨_,o3,v3,t3,rfl,k _ h3,r3⟩
   ·rw[Zo n2] at e
    by_cases n1:b=TP
    ·subst n1;rw[Zc] at e;cases e;exact eN _ Hy
    ·rw[Zo n1] at e;have sy:∀d y,H d=some (.own y)->d≠TP:=fun d y q z=>by rw[z,hH] at q;cases q
     refine(I.hok b u e).stay (fun d o hd q=>keep _ d o (hd.elim (fun z=>z▸n1) (sy d b)) q) (fun d q=>?_) fun d xs q=>?_
     ·rw[oX (sy d b q) (nC q).1 (nC q).2];exact q
     ·rw[oX (fun z=>by rw[z,hH] at q;cases q) (nC q).1 (nC q).2];exact q
end
def Y3(c:Addr)(oc:Obj):HO:=.ext fun h=>h.get? c=some oc
def drop(H:Hp)(c:Addr):Hp:=fun b=>if b=c then none else H b
theorem WW{c:Addr}:drop H c c=none:=nt rfl
theorem YW{b c:Addr}(h:b≠c):drop H c b=H b:=nn h
theorem Zb8{c:Addr}(h:H c=some o):upd (drop H c) c o=H:=by
 funext b
 by_cases e:b=c
 ·rw[e,Zc,h]
 ·rw[Zo e,YW e]
section
variable{c:Addr}{oc:Obj}{fs:List Addr}
theorem ZfW(e:h.get? c=some oc):Yp P w H h c (Y3 c oc):=⟨e,⟨_,e⟩,fun _ _ q k=>k _ q⟩
theorem Y3.get(x:HOk P w H h)(e:H c=some (Y3 c oc)):h.get? c=some oc:=(x c _ e).1
theorem HOk.cellIn(x:HOk P w H h)(n:H c=none)(e:h.get? c=some oc):HOk P w (upd H c (Y3 c oc)) h:=fun b u q=>by
 by_cases hb:b=c
 ·subst hb;rw[Zc] at q;cases q;exact ZfW e
 ·rw[Zo hb] at q;exact(x b u q).stay (fun _ _ _ q=>q) (fun d q=>by rw[Zo (ZC q n)];exact q) fun d xs q=>by rw[Zo (ZC q n)];exact q
theorem HOk.cellOut(x:HOk P w H h)(e:H c=some (Y3 c oc)):HOk P w (drop H c) h:=fun b u q=>by
 have hb:b≠c:=fun z=>by rw[z,WW] at q;cases q
 rw[YW hb] at q;have ne:∀{d:Addr}{o:HO},H d=some o->o≠Y3 c oc->d≠c:=fun q n z=>by rw[z,e] at q;cases q;exact n rfl
 exact(x b u q).stay (fun _ _ _ q=>q) (fun d q=>by rw[YW (ne q (fun z=>by cases z))];exact q) fun d xs q=>by rw[YW (ne q (fun z=>by cases z))];exact q
theorem Un.cellOut(u:Un fs [] (upd H c (Y3 c oc)) H' h h')(n:H c=none)(e:h.get? c=some oc)(e':h'.get? c=some oc):Un fs [] H (drop H' c) h h':=by
 have up:∀{b:Addr}{o:HO},H b=some o->b≠c:=fun q=>ZC q n;refine⟨fun b o q m hb hx=>?_,fun b o q m hb hx=>?_,fun b o q m hx=>?_,u.there,fun b xs q=>?_,fun b o v q=>?_,fun b ps q=>?_⟩
 ·by_cases hc:b=c
  ·rw[hc] at q ⊢; rw[e] at q;cases q;exact e'
  ·exact u.keep b o q (by rw[Zo hc];exact m) hb hx
 ·by_cases hc:b=c
  ·rw[hc] at q ⊢; rw[e] at q;cases q;exact⟨oc.slots,e'⟩
  ·exact u.slot b o q (by rw[Zo hc];exact m) hb hx
 ·by_cases hc:b=c
  ·rw[hc];exact WW
  ·rw[YW hc];exact u.free b o q (by rw[Zo hc];exact m) hx
 ·rw[YW (up q)];exact u.tups b xs (by rw[Zo (up q)];exact q)
 ·rw[YW (up q)];exact u.frzs b o v (by rw[Zo (up q)];exact q)
 ·rw[YW (up q)];exact u.tbls b ps (by rw[Zo (up q)];exact q)
theorem Un.cellIn(u:Un fs [] (drop H c) H' h h')(e:H c=some (Y3 c oc)):Un fs [] H (upd H' c (Y3 c oc)) h h':=by
 have up:∀{b:Addr}{o:HO},H b=some o->o≠Y3 c oc->b≠c:=fun q m z=>by rw[z,e] at q;cases q;exact m rfl
 have no:∀{b:Addr},H b=none->b≠c:=fun q z=>by rw[z,e] at q;cases q
 refine⟨fun b o q m hb hx=>u.keep b o q (by rw[YW (no m)];exact m) hb hx,fun b o q m hb hx=>u.slot b o q (by rw[YW (no m)];exact m) hb hx,fun b o q m hx=>by rw[Zo (no m)];exact u.free b o q (by rw[YW (no m)];exact m) hx,u.there,fun b xs q=>?_,fun b o v q=>?_,fun b ps q=>?_⟩
 ·have z:=up q (fun z=>by cases z);rw[Zo z];exact u.tups b xs (by rw[YW z];exact q)
 ·have z:=up q (fun z=>by cases z);rw[Zo z];exact u.frzs b o v (by rw[YW z];exact q)
 ·have z:=up q (fun z=>by cases z);rw[Zo z];exact u.tbls b ps (by rw[YW z];exact q)
end
def ZgI(sp:Sp)(j:Nat)(c:Addr)(t:TA):TE:=fun σ H Q=>∃r,σ[j]?=some (some (.ref r)) /\
 t σ H fun vs H1=>H1 c=none->∀oc:Obj,oc.data=.cell (some (.ref r))->sp vs (upd H1 c (Y3 c oc)) (fun v H2=>H2 c=some (Y3 c oc)/\Q v (drop H2 c)) E0
section
variable{k:Nat}{f c:Addr}{ps:List Str}{x y:Str}{p:Pos}{es:List Expr}{t:TA}
theorem JY(F:WK X.prog X.w X.K X.mg X.base CX0 k f fd ps sp)(hr:YK k X.A)(hg:Gl X x)(hm:X.mg x=some (.ref f))(hk:W.keepIn X.K (.ref f)=true)(hb:Vd X.K fd ps [])
  (hj:X.N[j]?=some y) (hy:X.env.kindOf y=some .cell) (SU:X.env.scope.names.lookup y=some .cell) (hc:X.env.cells.lookup y=some c) (wt:X.fn y=true)
  (ha:PA X (e::es) t) (pB:(x==("__debug__" : Str))=false:=by left) (he:starEach (e::es) X.env=(false,eval e X.env)::starEach es X.env:=by rfl) (oG:(backTo gT (starEach es X.env)).any (·.1)=false:=by rfl) :
  PE X (.Call (.Name x p) (e::es) [] gT) (ZgI sp j c t):=by
 intro cQ s σ H Q I h;obtain⟨r,ej,h⟩:=h;refine gN (qW I hg hm ?_ pB);refine lF (h₀:=X.base) I.ok.mod.kin hk (thn (ha gT cQ s σ H _ I h) fun us s1 ⟨vs,H1,I1,rv,q⟩=>⟨I1.kIn,?_⟩) he oG;have n1:H1 c=none:=I1.freeC y c hc;obtain⟨oc,rG,sL⟩:∃oc:Obj,s1.heap.get? c=some oc/\oc.data=.cell (some (.ref r)):=by
  obtain⟨m,_,hl⟩:=I1.loc;obtain⟨u,ru,lk⟩:=hl j y _ hj ej (.inr (.inl SU));obtain rfl:u=Value.ref r:=ru;rcases lk with⟨z,_⟩|⟨_,c',e1,z⟩
  ·rw[hy] at z;cases z
  ·rw[hc] at e1;cases e1;exact z
 have q:=q n1 oc sL;have Ai:X.s₀.heap.objs.size<=c:=I1.ok.cab y c wt hc;have Eg:∀b o,X.base.get? b=some o->b≠c:=fun b o e=>eQ (fF (eP e) (eW I1.ok.bsz Ai));have e0:kN X.prog X.w X.K X.mg X.base X.A X.stack s1 (upd H1 c (Y3 c oc)):=by
  have g:=I1.env0;refine⟨g.frames,g.mod,fun b o e=>⟨(g.bs b o e).1,by rw[Zo (Eg b o e)];exact(g.bs b o e).2⟩,g.bsz,g.funs,fun b hb=>?_,g.hok.cellIn n1 rG,g.bare⟩;have Pi:b≠c:=by
   rcases eU.mp (I1.stkSub b hb) with z|z
   ·rw[z];exact fun z=>I1.cne y c hc z.symm
   ·obtain⟨_,o,ho,_⟩:=I1.ok.funs.mem z;exact eQ (fF (eP ho) Ai)
  rw[Zo Pi];exact g.frf b hb
 have hl:us.length=ps.length:=by rw[<- rv.length];exact F.len _ _ _ _ q
 have LP:=hb s1 us I1.kIn (by rw[gp];exact hl);rw[gp] at LP;refine wpAny_call (hX (F.run X.A X.stack s1 _ ⟨us,[]⟩ us vs _ E0 hr e0 LP rv q) fun r s' hq=>?_);cases r with
 |error e=>exact False.elim hq
 |ok fl=>
  cases fl with
  |ret u=>
   obtain⟨v,H',os,bare,un,hok,r',q1,q2⟩:=hq;exact I1.after ⟨v,drop H' c,os,bare,un.cellOut n1 rG (Y3.get hok q1),hok.cellOut q1,r',q2⟩
  |next=>exact False.elim hq
  |brk=>exact False.elim hq
  |cont=>exact False.elim hq
end
def Kv(P:Program)(w:World)(K:W.Frag)(mg:Str->81)(base:Heap)(x y:Str)(c0:Addr)(qual:Str)(scope:Scope)(f:Addr)(cd:Value)(A:Around)(outer:List Env)(s:Shared)(H:Hp)(E:XK):Cx where
 prog:=P
 w:=w
 K:=K
 mg:=mg
 base:=base
 A:=A.deeper (W.envX qual scope s.heap.objs.size f cd [(y,c0)])
 N:=[x,y]
 s₀:=s
 H₀:=drop H c0
 env:=W.envX qual scope s.heap.objs.size f cd [(y,c0)]
 outer:=outer
 stack:=W.envX qual scope s.heap.objs.size f cd [(y,c0)]::outer
 ex:=[]
 calm:=true
 fn:=fun _=>false
 pn:=[]
 xe:=fun e s'=>wpAny (model P w) (A.deeper (W.envX qual scope s.heap.objs.size f cd [(y,c0)])) (leaving (W.envX qual scope s.heap.objs.size f cd [(y,c0)]) e) (fun _ BC=>False) (fun e' BC=>False) s'
section
variable{k:Nat}{f c0 cc r:Addr}{name:Str}{doc pm ctv:Value}{x y:Str}{oc:Obj}
theorem Qd{E:XK}
  (hk:scope.kind=.function) (hx:scope.names.lookup x=some .local) (hy:scope.names.lookup y=some .free) (GD:x≠y) (nV:∀z,scope.names.lookup z=some .free->z=y) (tM:∀z∈scope.names,z.2≠.cell)
  (sL:oc.data=.cell (some (.ref r))) (hd:A.handled=none) (e0:kN P w K mg base A outer s H) (e:H c0=some (Y3 c0 oc)) (rv:ZL v u)
  (ns:h1.Ns s.heap.objs.size (fun z=>[(x,u)].reverse.lookup z)) (keep:∀b o,s.heap.get? b=some o->h1.get? b=some o) :
  Inv (Kv P w K mg base x y c0 qual scope f cd A outer s H E) [] [some v,some (.ref r)] (drop H c0) { s with heap:=h1,toks:=tk }:=by
 have t5:∀b:Addr,b∉(Kv P w K mg base x y c0 qual scope f cd A outer s H E).ex:=fun b z=>nu (show b∈([]:List Addr) from z) 47;have dn:∀{b:Addr},H b=none->drop H c0 b=none:=fun {b} n=>by
  by_cases q:b=c0
  ·rw[q];exact WW
  ·rw[YW q];exact n
 have nX:=Y3.get e0.hok e;have lk:∀{z:Str}{c:Addr},([(y,c0)]:List (Str×Addr)).lookup z=some c->c=c0/\z=y:=fun {z c} q=>by
  rw[fD] at q;cases b:z==y with
  |true=>rw[b] at q;cases q;exact⟨rfl,eq_of_beq b⟩
  |false=>rw[b] at q;cases q
 have Ik:([(y,c0)]:List (Str×Addr)).lookup y=some c0:=by rw[fD,beq_self_eq_true]
 refine⟨⟨e0.mod,hk,rfl,rfl,eE _,fun a b c h1 h2=>(lk h1).2.trans (lk h2).2.symm,fun z hz=>?_,fun z c h _=>(by cases h),fun _=>hd,Around.frames_deeper e0.frames,.inr ⟨rfl,rfl⟩,fun b z=>nu z (t5 b),fun b o q=>⟨(e0.bs b o q).1,dn (e0.bs b o q).2⟩,e0.bsz,fun b _ _=>t5 b,fun b z=>nu z (t5 b),e0.funs,fun b hb=>dn (e0.frf b hb)⟩,rfl,e0.bare,Un.kept keep,⟨_,ns,fun i z v' h1 h2 _=>?_⟩,fun z c h=>?_,dn (e0.hok.fresh (eE _)),fun z c h=>?_,fun p hp=>nu (show p∈([]:74) from hp) 47,(e0.hok.cellOut e).kept keep,rfl⟩
 ·have hz:scope.names.lookup z=some .cell\/scope.names.lookup z=some .free:=hz;rcases hz with hz|hz
  ·exact nu rfl (tM _ (gG hz))
  ·exact⟨c0,by rw[nV z hz];exact Ik⟩
 ·match i,h1,h2 with
  |0,h1,h2=>
   cases h1;cases h2;exact⟨u,rv,.inl ⟨hx,by simp[fD]⟩⟩
  |1,h1,h2=>
   cases h1;cases h2;exact⟨.ref r,rfl,.inr ⟨.inr hy,c0,Ik,oc,keep _ _ nX,sL⟩⟩
  |j+2,h1,h2=>cases h2
 ·obtain⟨rfl,rfl⟩:=lk h;exact⟨_,oc,keep _ _ nX,sL⟩
 ·obtain⟨rfl,rfl⟩:=lk h;exact WW
theorem ZgA(hk:scope.kind=.function)(NC:scope.isCoroutine=false)(Fv:scope.isGenerator=false)(hx:scope.names.lookup x=some .local)(hy:scope.names.lookup y=some .free)(GD:x≠y)
  (nV:∀z,scope.names.lookup z=some .free->z=y) (tM:∀z∈scope.names,z.2≠.cell) (sL:oc.data=.cell (some (.ref r)))
  (rK:∀vs H Q E,sp vs H Q E->vs.length=1/\H f=some (FnF f (W.fnMade name qual params body scope [(y,c0)] doc pm cc ctv))/\H cc=some (j6 cc qual)/\H c0=some (Y3 c0 oc))
  (nQ:∀(A:Around) (outer:List Env) (s:Shared) (H:Hp) (v:V) (Q:VK) (E:XK),YK k (A.deeper (W.envX qual scope s.heap.objs.size f (.ref cc) [(y,c0)]))->sp [v] H Q E -> ∃t,PSs (Kv P w K mg base x y c0 qual scope f (.ref cc) A outer s H E) body t /\ t { nx:=fun _ H'=>Q .non (upd H' c0 (Y3 c0 oc)),rt:=fun u H'=>Q u (upd H' c0 (Y3 c0 oc)) } [some v,some (.ref r)] (drop H c0)) :
  WK P w K mg base CX0 (k+1) f (W.fnX name qual params body scope [(y,c0)] .none .none doc pm none (.ref cc) ctv) [x] sp:=by
 refine⟨fun vs H Q E q=>(rK vs H Q E q).1,fun A outer s H args us vs Q E hr e0 hb rv hs=>?_⟩;obtain⟨hl,h1,h2,h3⟩:=rK _ _ _ _ hs;obtain⟨v,rfl⟩:∃v,vs=[v]:=by
  match vs,hl with
  |[v],_=>exact⟨v,rfl⟩
 obtain⟨u,rfl,ru⟩:∃u,us=[u]/\ZL v u:=by
  cases rv with
  |cons a b=>cases b;exact⟨_,rfl,a⟩
 have DC:s.heap.NoLimit:=e0.mod.nolimit.keeps fun b o e=>(e0.bs b o e).1;have nX:=Y3.get e0.hok h3;refine codeAny_call_def (body:=body) (binds:=[(x,u)]) hr.depth (e0.hok f _ h1).1 rfl DC (e0.hok cc _ h2).1 rfl hb tM (fun z hz=>?_) (fun h0 ns keep=>?_) NC Fv hk
 ·rw[eZ.mp hz];exact hx
 obtain⟨t,ht,hq⟩:=nQ A outer s H v Q E (hr.deeper _) hs;have I:Inv (Kv P w K mg base x y c0 qual scope f (.ref cc) A outer s H E) [] [some v,some (.ref r)] (drop H c0) { s with heap:=h0,toks:=s.toks+[(x,u)].length }:=Qd hk hx hy GD nV tM sL hr.hd e0 h3 ru ns keep;refine iu (ht [] _ _ _ _ I hq) (fun fl s' hs=>?_) fun e s' hs=>hs;have nE:∀{σ':St}{H':Hp}{v:V}{u:Value},Inv (Kv P w K mg base x y c0 qual scope f (.ref cc) A outer s H E) [] σ' H' s'->ZL v u->Q v (upd H' c0 (Y3 c0 oc))->CE outer P w H s Q u s':=
  fun {σ' H' v u} J rv q=>by
   have un:Un (frs outer) [] (drop H c0) H' s.heap s'.heap:=J.base;have n0:c0∉frs outer:=fun z=>by
    have z:=e0.frf c0 z;rw[h3] at z;cases z
   have hc:s'.heap.get? c0=some oc:=un.keep c0 oc nX WW n0 47;exact⟨v,_,J.os,J.bare,un.cellIn h3,J.hok.cellIn (un.free c0 oc nX WW 47) hc,rv,q⟩
 cases fl with
 |ret u=>
  obtain⟨v,σ',H',J,rv,q⟩:=hs;exact nE J rv q
 |next=>
  obtain⟨σ',H',J,q⟩:=hs;exact nE (v:=V.non) (u:=Value.none) J rfl q
 |brk=>exact False.elim (by obtain⟨σ',H',J,q⟩:=hs;exact q)
 |cont=>exact False.elim (by obtain⟨σ',H',J,q⟩:=hs;exact q)
end
end L2
namespace L3
open PySem PySem.Spec PyProof.Rows L2
def Q7(H:Hp)(f:Addr):Prop:=∃(oc:Value) (od:Option Addr) (fd:FuncData) (sl:Array (81)),H f=some (FnF f ⟨oc,od,.func fd,sl⟩)
theorem Q7.at_{f:Addr}(x:Q7 H f)(ok:HOk P w H h):W.FnAt f h:=
 let ⟨oc,od,fd,sl,e⟩:=x; ⟨oc,od,fd,sl,(ok f _ e).1⟩
def Zhn(X:Cx)(Fam:Addr->Sp->Prop):Prop:=∀f sp,Fam f sp->∃fd ps k,WK X.prog X.w X.K X.mg X.base CX0 k f fd ps sp/\YK k X.A/\Vd X.K fd ps []/\∀vs H Q E,sp vs H Q E->Q7 H f
inductive ZcX(Fam:Addr->Sp->Prop)(i:Nat)(σ:L2.St)(H:Hp)(B:Sp->Prop):Prop
 |mk (f:Addr) (sp:Sp) (h0:σ[i]?=some (some (.ref f))) (h1:Fam f sp) (h2:Q7 H f) (h3:B sp):ZcX Fam i σ H B
def Qg(Fam:Addr->Sp->Prop)(i:Nat)(t:TA):TE:=fun σ H Q=>ZcX Fam i σ H fun sp=>t σ H fun vs H1=>sp vs H1 Q E0
theorem YF{x:Str}{p:Pos}{es:List Expr}{t:TA}(F:Zhn X Fam)(hv:PE X (.Name x p) (kc i))(ha:PA X (e::es) t)
  (he:starEach (e::es) X.env=(false,eval e X.env)::starEach es X.env:=by rfl) (oG:(backTo gT (starEach es X.env)).any (·.1)=false:=by rfl) :
  PE X (.Call (.Name x p) (e::es) [] gT) (Qg Fam i t):=by
 intro cQ s σ H Q I h;obtain⟨f,sp,ei,fm,fi,h⟩:=h;obtain⟨fd,ps,k,Fo,hr,hb,hf⟩:=F f sp fm;refine gN (thn (hv cQ s σ H (fun v H1=>v=.ref f/\H1=H) I ⟨_,ei,rfl,rfl⟩) fun u s1 ⟨v,H1,I1,r,q1,q2⟩=>?_);subst q1;subst q2;obtain rfl:u=Value.ref f:=r;refine W.callWith_F (fi.at_ I1.hok) (thn (ha gT cQ s1 σ H1 _ I1 h) fun us s2 ⟨vs,H2,I2,r2,q⟩=>⟨(hf _ _ _ _ q).at_ I2.hok,?_⟩) he oG;exact xN Fo hr hb .nil Xs I2 r2 (by rw[gp];exact q)
end L3
namespace L2
open PySem PySem.Spec PyProof.Rows
theorem Fun.okT{x:Str}{st:Stmt}{f:Addr}{ps:50}{k:Nat}(F:Fun K x qual st f fd)(S:Zs N ps (Zh st))(hc:fd.code=.ref tc)(len:∀vs H Q E,sp vs H Q E->vs.length=ps.length)
  (nQ:∀(A:Around) (outer:List Env) (s:Shared) (H:Hp) (vs:List V) (Q:VK) (E:XK),YK k (A.deeper (envOfC qual (Zh st) s.heap.objs.size f (.ref tc)))->sp vs H Q E -> ∃t,PSs (jZ CX0 P w K mg base N qual (Zh st) f (.ref tc) A outer s H E).nox (YI st) t/\t { nx:=fun _ H'=>Q .non H',rt:=Q } (UI N vs) H):WK P w K mg base CX0 (k+1) f fd ps sp:=by
 obtain⟨oc,od,kV,doc,pm,an,cR,ct,osl,rfl,lk,pQ⟩:=F.ex;obtain rfl:cR=.ref tc:=hc;refine Zfu lk pQ S len fun A outer s H vs Q E hr rK=>?_;obtain⟨t,h,q⟩:=nQ A outer s H vs Q E hr rK;exact⟨t,h.nox,q⟩
end L2
namespace L3
open PySem PySem.Spec PyProof.Rows L2
theorem ZaO{k:Key}(h:Ve k u=true):ZL (kV k) u:=by
 rcases ZZ h with⟨i,t,rfl,rfl⟩|⟨x,t,rfl,rfl⟩
 ·exact⟨t,rfl⟩
 ·exact⟨t,rfl⟩
theorem jS{fs:List DictEntry}{vs:List (Key×Value)}(p:Pairs (Zv P w) fs vs):fs.length=vs.length/\∀{i:Nat}{e:DictEntry},fs[i]?=some e->∃q,vs[i]?=some q/\ZL (kV q.1) e.key:=by
 induction p with
 |nil=>exact⟨rfl,fun h=>by simp at h⟩
 |cons h1 h2 t ih=>
  refine⟨by simp[ih.1],fun {i e} h=>?_⟩;cases i with
  |zero=>simp at h;subst h;exact⟨_,rfl,ZaO h1⟩
  |succ j=>obtain⟨q,a,b⟩:=ih.2 (i:=j) (by simpa using h);exact⟨q,by simpa using a,b⟩
theorem ZgD{vs:List (Key×Value)}(r:KV kvs vs){q:Key×Value}(h:vs[i]?=some q):∃p,kvs[i]?=some p/\p.1=q.1:=by
 have e:=r.keys;have:(vs.map (·.1))[i]?=some q.1:=by rw[eO,h];rfl
 rw[<- e,eO] at this;cases c:kvs[i]? with
 |none=>rw[c] at this;cases this
 |some p=>rw[c] at this;exact⟨p,rfl,fc this⟩
def ItK(a:Addr)(o:Obj)(kvs:List (Key×V)):It:=
 ⟨fun i H=>H a=some (.frz o (.dK kvs))/\i<kvs.length,fun i H x H'=>H'=H/\∃e,kvs[i]?=some e/\x=kV e.1,fun i H=>H a=some (.frz o (.dK kvs))/\kvs.length<=i⟩
def EpO(o:Obj)(n ep:Nat):Prop:=∃fs:Array DictEntry,o.data=.dict fs ep/\fs.size=n
theorem QU{σ:L3.St}{o:Obj}(I:L2.Inv X cQ σ H s)(g:H a=some (.frz o (.dK kvs)))(e:EpO o kvs.length ep) :
  ∃fs:Array DictEntry,qw s.heap a fs ep/\fs.size=kvs.length/\∀{i:Nat} (hi:i<fs.size),∃p,kvs[i]?=some p/\ZL (kV p.1) fs[i].key:=by
 obtain⟨h1,z,y,vs,nI,o',fs,Cv,h2,h3,h4,h5,h6,h7⟩:=(show Yp X.prog X.w H s.heap a (.frz o (.dK kvs)) from I.hok a _ g);rw[h1] at h2;cases h2;obtain⟨wV,d',n'⟩:=e;rw[h4] at d';cases d';obtain⟨el,row⟩:=jS h6;refine⟨fs,⟨o,h1,h3,h4⟩,n',fun {i} hi=>?_⟩;obtain⟨q,hq,r⟩:=row (i:=i) (e:=fs[i]) (by rw[ib,lI hi]);obtain⟨p,hp,e⟩:=ZgD nI hq;exact⟨p,hp,by rw[e];exact r⟩
theorem Zd3(a it:Addr)(o:Obj)(kvs:List (Key×V))(ep:Nat)(he:EpO o kvs.length ep):J9 P w K tg (ItK a o kvs) [it] it (fun i h=>h.IsKeyIter it a i kvs.length ep) where
 mem:=by simp
 obj:=fun i h st b hb=>by
  have e:b=it:=by simpa using hb
  subst e;obtain⟨o,e,c,d⟩:=st;exact⟨o,e,fun v z=>by rw[d] at z;cases z⟩
 keep:=fun i h h' st k=>st.at fun o e=>k it 47 o e
 item:=by
  intro X hP hw hK hc i cQ s σ H E I hf st hg;subst hP hw hK;obtain⟨g,hi⟩:=hg;obtain⟨fs,m,ef,row⟩:=QU I g he;obtain⟨f0,f1,f2,f3,f4,f5⟩:=hf it 47;have Ab:i<fs.size:=by lia
  obtain⟨p,hp,rx⟩:=row Ab;rw[<- ef] at st;refine ZbL st m Ab fun h' oV sb=>?_;rw[ef] at oV;have I1:49 H 80:=I.turned (t':=s.toks) (fun b o hb e=>(sb.2 b hb).trans e) f0 f1 f3 f4 f5;obtain⟨o',e,c,d⟩:=id oV;exact⟨_,rfl,ja (s:=80) e c d 48 ⟨kV p.1,H,I1,rx,⟨rfl,p,hp,rfl⟩,oV,fun b hb=>(hf b hb).1⟩⟩
 done:=by
  intro X hP hw hK hc i cQ s σ H E I hf st hg;subst hP hw hK;obtain⟨g,hi⟩:=hg;obtain⟨fs,m,ef,row⟩:=QU I g he;obtain⟨f0,f1,f2,f3,f4,f5⟩:=hf it 47;rw[<- ef] at st;exact ZbD (I.ok.hd hc) 21 st m fun h' eb=>⟨rfl,I.turned (t':=s.toks) (fun b o hb e=>eb b o hb e) f0 f1 f3 f4 f5⟩
 self:=fun _ _ _ _ _ st h=>wpAny_pyIter_keyiter st h
def iDk(td:TE):TI:=fun σ H R=>td σ H fun x H1=>∃a kvs,x=.ref a/\H1 a=some (.dK kvs)/\∀o,R (ItK a o kvs) (upd H1 a (.frz o (.dK kvs)))
theorem Zhb{l:Expr}{td:TE}(hl:PE X l td):PI X tg l (iDk td):=by
 intro cQ s σ H R I h;refine thn (hl cQ s σ H _ I h) fun v s1 ⟨x,H1,I1,r1,q1⟩=>?_;obtain⟨a,kvs,e,g,q⟩:=q1;subst e;cases r1;obtain⟨z,y,vs,nI,o,fs,ep,h2,h3,h4,h5,h6,h7⟩:=(show Yp X.prog X.w H1 s1.heap a (.dK kvs) from I1.hok a _ g);have ef:fs.size=kvs.length:=by rw[<- gn,(jS h6).1,nI.length]
 have I2:49 (upd H1 a (.frz o (.dK kvs))) s1:=VC (h':=s1.heap) (t':=s1.toks) I1 (by rw[g];exact True.intro) (.refl ..) ⟨o,h2⟩ ⟨h2,z,y,vs,nI,o,fs,ep,h2,h3,h4,h5,h6,h7⟩;refine Zbg y ⟨o,h2,h3,h4⟩ ?_;refine⟨s1.heap.objs.size,[s1.heap.objs.size],_,_,_,rfl,I2.kept (t':=s1.toks) fun b o e=>eN _ e,Zd3 a _ o kvs ep ⟨fs,h4,ef⟩,⟨_,fg _ rfl,rfl,by rw[ef];rfl⟩,fun b hb=>?_,q o⟩;have e:b=s1.heap.objs.size:=by simpa using hb
 subst e;exact I2.fpOk (eE _) (I2.hok.fresh (eE _))
def ZhC:50:=["next","until","before","since"]
def ze(c:Lb):Bool:=match c with
 |.op w=>decide (w∈ZhC)
 |_=>false
def Yv:Tr->Nat:=YJ fun c ds=>if Vq (.node c []) then 0 else mx ds+(if ze c then 1 else 0)
theorem yR(t:Tr):Yv t=if Vq t then 0 else mx (t.ks.map Yv)+(if ze t.lb then 1 else 0):=by
 have h:=Wo (fun c ds=>if Vq (.node c []) then 0 else mx ds+(if ze c then 1 else 0)) t;have e:Vq (.node t.lb [])=Vq t:=rfl;rw[e] at h;exact h
theorem Zay{t x:Tr}(h:Vq t=false)(hx:x∈t.ks):Yv x+(if ze t.lb then 1 else 0)<=Yv t:=by
 rw[yR t,h];have:=jG.mp (eE (mx (t.ks.map Yv))) _ (eV.mpr ⟨x,hx,rfl⟩);simp;lia
theorem Zgw{t:Tr}(h:Vq t=true)(hr:ring≠[]):∀k,way.length+ring.length<=k->Z1 d st (XY way ring) t k=Z1 d st (XY way ring) t (k-ring.length):=fun k hk=>by
 rw[yP h]
 show Xt d st t _=Xt d st t _
 rw[jW hr (by rw[eK];exact hk)]
theorem Zas{d:WD}{st:Tr->82}{way ring:82}(hr:ring≠[]):∀(n:Nat) (t:Tr),OkN n t->isC t=true->∀k,way.length+ring.length*(1+Yv t)<=k->Z1 d st (XY way ring) t k=Z1 d st (XY way ring) t (k-ring.length)
 |0,_,h,_=>h.elim
 |n+1,t,ok,hc=>by
  have p1:1<=ring.length:=ij.mpr hr;intro k hk
  by_cases c:Vq t=true
  ·refine Zgw c hr k ?_;have:ring.length*1<=ring.length*(1+Yv t):=l5 _ 21;lia
  ·have cf:Vq t=false:=by simpa using c
   have rV:∀x∈t.ks,∀k,way.length+ring.length*(1+Yv x)<=k->Z1 d st (XY way ring) x k=Z1 d st (XY way ring) x (k-ring.length):=fun x hx=>Zas hr n x (ok.2 x hx) (Kf hc x hx);have md:∀x∈t.ks,ring.length*(1+Yv x)+ring.length*(if ze t.lb then 1 else 0)<=ring.length*(1+Yv t):=fun x hx=>by
    rw[<- iI];exact l5 _ (by have:=Zay cf hx;lia)
   rcases W8 hc ok.1 cf with⟨o,a,rfl,h3⟩|⟨o,a,b,rfl,h2⟩|⟨a,b,rfl⟩
   ·have ka:=rV a (by simp[Tr.ks]);have ma:=md a (by simp[Tr.ks]);rcases h3 with rfl|rfl|rfl
    ·rw[Xn];show(!_)=(!_);rw[ka k 21]
    ·have e:(if ze (Tr.node (.op "next") [a]).lb then 1 else 0)=1:=nt (show ze (.op "next")=true by left);rw[e,Nat.mul_one] at ma;rw[zq]
     show Z1 _ _ _ a (k+1)=Z1 _ _ _ a (k-ring.length+1)
     rw[ka (k+1) 21,show k+1-ring.length=k-ring.length+1 by lia]
    ·have e:(if ze (Tr.node (.op "before") [a]).lb then 1 else 0)=1:=nt (show ze (.op "before")=true by left);rw[e,Nat.mul_one] at ma;rw[qB];have pa:ring.length*1<=ring.length*(1+Yv a):=l5 _ 21;obtain⟨j,rfl⟩:∃j,k=j+1:=⟨k-1,by lia⟩;have h1:=ka j 21;rw[show j+1-ring.length=(j-ring.length)+1 by lia];exact h1
   ·have ka:=rV a (by simp[Tr.ks]);have kb:=rV b (by simp[Tr.ks]);have ma:=md a (by simp[Tr.ks]);have mb:=md b (by simp[Tr.ks]);rcases h2 with rfl|rfl
    ·rw[V5];exact jq (m:=way.length+ring.length*(1+Yv (.node (.op "until") [a,b]))) (by
      have:ring.length*1<=ring.length*(1+Yv (.node (.op "until") [a,b])):=l5 _ 21;lia) (fun k hk=>ka k 21) (fun k hk=>kb k 21) k hk
    ·have e:(if ze (Tr.node (.op "since") [a,b]).lb then 1 else 0)=1:=nt (show ze (.op "since")=true by left);rw[e] at ma mb;rw[V2];refine jv (m:=way.length+ring.length*(Yv (.node (.op "since") [a,b]))) p1 ?_ (fun k hk=>ka k (by rw[iI] at ma;rw[iI];rw[iI] at ma;lia)) (fun k hk=>kb k (by rw[iI] at mb;rw[iI];rw[iI] at mb;lia)) k ?_
     ·have:=Zay (t:=.node (.op "since") [a,b]) cf (x:=a) (by simp[Tr.ks]);rw[e] at this;have:ring.length*1<=ring.length*(Yv (.node (.op "since") [a,b])):=l5 _ 21;lia
     ·rw[iI] at hk;lia
   ·have ka:=rV a (by simp[Tr.ks]);have kb:=rV b (by simp[Tr.ks]);have ma:=md a (by simp[Tr.ks]);have mb:=md b (by simp[Tr.ks]);rw[U4];show(_&&_)=(_&&_);rw[ka k 21,kb k 21]
def NoL(c:Lb):Prop:=c≠.op "some"
def NoS(t:Tr):Prop:=∀x∈post t,NoL x.lb
theorem NoS.node{c:Lb}{ks:67}(h:NoL c)(hk:∀k∈ks,NoS k):NoS (.node c ks):=fun x hx=>by
 rw[post] at hx;rcases fj.mp hx with hx|hx
 ·obtain⟨k,m,hx⟩:=Wk.mp hx;exact hk k m x hx
 ·rw[eZ] at hx;subst hx;exact h
theorem ZgZ:∀w∈(["not","next","before","until","since"]:50),w ≠ "some" := by left
theorem yc{w:Str}(h:w∈(["not","next","before","until","since"]:50)):NoL (.op w):=fun z=>ZgZ w h (Lb.op.inj z)
theorem zD(w:Str):NoL (.many w):=nofun
theorem VB:NoS ZR:=NoS.node nofun (fun k hk=>by cases hk)
theorem ZhO{a:Tr}(h:NoL c)(ha:NoS a):NoS (.node c [a]):=NoS.node h fun k hk=>by rw[eZ] at hk;subst hk;exact ha
theorem JV{a b:Tr}(h:NoL c)(ha:NoS a)(hb:NoS b):NoS (.node c [a,b]):=NoS.node h fun k hk=>by
 rcases eU.mp hk with rfl|hk
 ·exact ha
 ·rw[eZ] at hk;subst hk;exact hb
theorem X6{a:Tr}(h:NoS a):NoS (Yh a):=ZhO (yc 48) h
theorem Jo:∀{l:67},(∀k∈l,NoS k)->NoS (Wa l)
 |[],_=>VB
 |[x],h=>h x 47
 |x::y::r,h=>JV (zD _) (h x 47) (Jo fun k hk=>h k (eT _ hk))
theorem Zag:∀{l:67},(∀k∈l,NoS k)->NoS (orT l)
 |[],_=>X6 VB
 |[x],h=>h x 47
 |x::y::r,h=>X6 (JV (zD _) (X6 (h x 47)) (X6 (Zag fun k hk=>h k (eT _ hk))))
theorem Zaq{f s:Tr}(hf:NoS f)(hs:NoS s):∀n,NoS (Z0 n f s)
 |0=>hs
 |n+1=>X6 (JV (zD _) (X6 hs) (X6 (JV (zD _) hf (ZhO (yc 48) (Zaq hf hs n)))))
theorem ZbH(h1:c≠.op "some")(h2:c≠.op "all")(hk:∀k∈cs,NoS k):NoS (Yr c cs):=by
 have g:∀i,NoS (cs.getD i ZR):=fun i=>by
  rw[gQ];cases e:cs[i]? with
  |none=>exact VB
  |some x=>exact hk x (fz e)
 unfold Yr;cases c with
 |yes=>exact VB
 |sign s=>exact NoS.node nofun (fun k hk=>by cases hk)
 |many w=>
  show NoS (if w = "and" then Wa cs else orT cs)
  split
  ·exact Jo hk
  ·exact Zag hk
 |wit m=>exact Zaq (g 0) (g 1) _
 |op w=>
  dsimp only
  split
  ·rename_i e;exact nu (fb Lb.op e) h2
  split
  ·exact JV (yc 48) VB (g 0)
  split
  ·exact X6 (JV (yc 48) VB (X6 (g 0)))
  split
  ·exact JV (yc 48) VB (g 0)
  split
  ·exact X6 (JV (yc 48) VB (X6 (g 0)))
  exact NoS.node h1 hk
theorem Kc:∀(n:Nat) (t:Tr),OkN n t->(∀s∈post t,s.lb≠.op "some" /\ s.lb≠.op "all")->NoS (ZH t)
 |0,t,h,_=>h.elim
 |n+1,t,ok,fw=>by
  rw[Wz];refine ZbH (fw t (vd t)).1 (fw t (vd t)).2 fun k hk=>?_;obtain⟨q,hq,rfl⟩:=eV.mp hk;exact Kc n q (ok.2 q hq) fun y hy=>fw y (by rw[Ui];exact fT _ (Wk.mpr ⟨q,hq,hy⟩))
theorem Zc1{ks:67}{m:Nat}(h:∀k∈ks,Yv k<=m):Yv (.node c ks)<=m+(if ze c then 1 else 0):=by
 rw[yR];have e:mx (ks.map Yv)<=m:=jG.mpr fun x hx=>by obtain⟨k,hk,rfl⟩:=eV.mp hx;exact h k hk
 split
 ·exact fu _
 ·exact Nat.add_le_add_right e _
theorem xT{ks:67}{m:Nat}(hc:ze c=false)(h:∀k∈ks,Yv k<=m):Yv (.node c ks)<=m:=by
 have:=Zc1 (c:=c) h;rw[hc] at this;exact this
theorem U5{ks:67}{m:Nat}(h:∀k∈ks,Yv k<=m):Yv (.node c ks)<=m+1:=by
 have:=Zc1 (c:=c) h;split at this<;>lia
theorem Zdo{a:Tr}{m:Nat}(h:Yv a<=m):∀k∈[a],Yv k<=m:=fun k hk=>by rw[eZ] at hk;subst hk;exact h
theorem UU{a b:Tr}{m:Nat}(h:Yv a<=m)(h':Yv b<=m):∀k∈[a,b],Yv k<=m:=fun k hk=>by
 rcases eU.mp hk with rfl|hk
 ·exact h
 ·rw[eZ] at hk;subst hk;exact h'
theorem ZgQ:ze (.op "not")=false:=by left
theorem Zcq{t:Tr}(h:Vq t=true){m:Nat}:Yv t<=m:=by rw[yR,h];exact fu _
theorem Vs{m:Nat}:Yv ZR<=m:=Zcq rfl
theorem XJ{a:Tr}{m:Nat}(h:Yv a<=m):Yv (Yh a)<=m:=xT ZgQ (Zdo h)
theorem Jx{m:Nat}:∀{l:67},(∀k∈l,Yv k<=m)->Yv (Wa l)<=m
 |[],_=>Vs
 |[x],h=>h x 47
 |x::y::r,h=>xT rfl (UU (h x 47) (Jx fun k hk=>h k (eT _ hk)))
theorem Q0{m:Nat}:∀{l:67},(∀k∈l,Yv k<=m)->Yv (orT l)<=m
 |[],_=>XJ Vs
 |[x],h=>h x 47
 |x::y::r,h=>XJ (xT rfl (UU (XJ (h x 47)) (XJ (Q0 fun k hk=>h k (eT _ hk)))))
theorem Zat{f s:Tr}{m:Nat}(hf:Yv f<=m)(hs:Yv s<=m):∀n,Yv (Z0 n f s)<=m+n
 |0=>hs
 |n+1=>XJ (xT rfl (UU (XJ 21) (XJ (xT rfl (UU 21 (U5 (m:=m+n) (Zdo (Zat hf hs n))))))))
def lkW:Lb->Nat
 |.wit n=>n.toNat
 |.op _=>1
 |_=>0
theorem ZbI{m:Nat}(hk:∀k∈cs,Yv k<=m):Yv (Yr c cs)<=m+lkW c:=by
 have g:∀i,Yv (cs.getD i ZR)<=m:=fun i=>by
  rw[gQ];cases e:cs[i]? with
  |none=>exact Vs
  |some x=>exact hk x (fz e)
 unfold Yr;cases c with
 |yes=>exact Vs
 |sign s=>rw[yR];exact fu _
 |many w=>
  show Yv (if w = "and" then Wa cs else orT cs)<=m
  split
  ·exact Jx hk
  ·exact Q0 hk
 |wit k=>exact Zat (g 0) (g 1) _
 |op w=>
  show Yv _<=m+1
  dsimp only
  split
  ·exact XJ (m:=m+1) (Zcq rfl)
  split
  ·exact U5 (UU Vs (g 0))
  split
  ·exact XJ (U5 (UU Vs (XJ (g 0))))
  split
  ·exact U5 (UU Vs (g 0))
  split
  ·exact XJ (U5 (UU Vs (XJ (g 0))))
  exact U5 hk
theorem VY{ks:67}{m:Nat}(h:∀k∈ks,Yv (ZH k)<=m):Yv (ZH (.node c ks))<=m+lkW c:=by
 rw[Wz];exact ZbI fun k hk=>by obtain⟨q,hq,rfl⟩:=eV.mp hk;exact h q hq
theorem KU{F:Nat->Bool}{m p k:Nat}(p1:1<=p)(hF:∀i,m<=i->F i=F (i-p))(km:k<=m):∀(n i:Nat),i<=n->k+p<=i\/k<=i->F i=true->∃i',k<=i'/\i'<m+p/\F i'=true
 |0,i,h,hk,hi=>⟨i,by lia,by lia,hi⟩
 |n+1,i,h,hk,hi=>by
  by_cases c:i<m+p
  ·exact⟨i,by lia,c,hi⟩
  ·exact KU p1 hF km n (i-p) 21 21 (by rw[<- hF i 21];exact hi)
section
open Classical
theorem K7(f:Nat->Bool):∀k,Y7 tt1 f k=true↔∃i,i<=k/\f i=true
 |0=>⟨fun h=>⟨0,eE _,h⟩,fun⟨i,h1,h2⟩=>by have e:i=0:=21;subst e;exact h2⟩
 |k+1=>by
  show(f (k+1)||(tt1 (k+1)&&Y7 tt1 f k))=true↔_
  rw[show tt1 (k+1)=true from rfl,ip,iQ,K7 f k];constructor
  ·rintro(h|⟨i,h1,h2⟩)
   ·exact⟨k+1,eE _,h⟩
   ·exact⟨i,by lia,h2⟩
  ·rintro⟨i,h1,h2⟩
   by_cases c:i=k+1
   ·subst c;exact .inl h2
   ·exact .inr ⟨i,by lia,h2⟩
theorem Zdc(f:Nat->Bool)(k:Nat):Y5 tt1 f k=true↔∃i,k<=i/\f i=true:=by
 unfold Y5;rw[iS];constructor
 ·rintro⟨j,h,_⟩;exact⟨k+j,by lia,h⟩
 ·rintro⟨i,h1,h2⟩;exact⟨i-k,by rw[show k+(i-k)=i by lia];exact h2,fun _ _=>rfl⟩
theorem ZcJ{g:Nat->Bool}{k:Nat}(h:Y5 f g k=true):∃i,k<=i/\g i=true:=by
 obtain⟨j,h,_⟩:=fA h;exact⟨k+j,by lia,h⟩
theorem Q6(f g:Nat->Bool):∀n k,Jd n f g k=true↔∃j,k<=j/\j<=k+n/\g j=true/\∀i,k<=i->i<j->f i=true
 |0,k=>⟨fun h=>⟨k,by lia,by lia,h,fun i _ _=>by lia⟩,fun⟨j,h1,h2,h3,_⟩=>by have e:j=k:=21;subst e;exact h3⟩
 |n+1,k=>by
  show(g k||(f k&&Jd n f g (k+1)))=true↔_
  rw[iQ,fH,Q6 f g n (k+1)];constructor
  ·rintro(h|⟨h0,j,h1,h2,h3,h4⟩)
   ·exact⟨k,by lia,by lia,h,fun i _ _=>by lia⟩
   ·refine⟨j,by lia,by lia,h3,fun i a b=>?_⟩
    by_cases c:i=k
    ·subst c;exact h0
    ·exact h4 i 21 b
  ·rintro⟨j,h1,h2,h3,h4⟩
   by_cases c:j=k
   ·subst c;exact .inl h3
   ·exact .inr ⟨h4 k 21 21,j,by lia,by lia,h3,fun i a b=>h4 i 21 b⟩
end
theorem jN{w:Str}(hw:w∈W1)(hq:w∉(["all","some"]:50))(x:Tr):mT d st rm (.node (.op w) [x])=mF (fun k=>Xt d st (.node (.op w) []) (rm k)) (.op w) [mT d st rm x]:=xl (ZbT hw) (qop hq)
theorem Ze9{w:Str}(hw:w∈W2)(hq:w∉(["all","some"]:50))(x y:Tr):mT d st rm (.node (.op w) [x,y])=mF (fun k=>Xt d st (.node (.op w) []) (rm k)) (.op w) [mT d st rm x,mT d st rm y]:=xl (Zga hw) (qop hq)
theorem Zeo(x:Tr):mT d st rm (.node (.op "ever") [x])=Y5 tt1 (mT d st rm x):=by
 rw[jN 48 48];unfold mF;dsimp only;(first|rfl|(rw[nt rfl];rfl)|(rw[nn 48];first|rfl|(rw[nt rfl];rfl)|(rw[nn 48];first|rfl|(rw[nt rfl];rfl)|(rw[nn 48];first|rfl|(rw[nt rfl];rfl)|(rw[nn 48];first|(rw[nt rfl];rfl)|(rw[nn 48];first|(rw[nt rfl];rfl)|(rw[nn 48];first|(rw[nt rfl];rfl)|(rw[nn 48];first|(rw[nt rfl];rfl)|(rw[nn 48];rfl)))))))))
theorem ZaD(x:Tr):mT d st rm (.node (.op "always") [x])=fun k=>!Y5 tt1 (fun j=>!mT d st rm x j) k:=by
 rw[jN 48 48];unfold mF;dsimp only;(first|rfl|(rw[nt rfl];rfl)|(rw[nn 48];first|rfl|(rw[nt rfl];rfl)|(rw[nn 48];first|rfl|(rw[nt rfl];rfl)|(rw[nn 48];first|rfl|(rw[nt rfl];rfl)|(rw[nn 48];first|(rw[nt rfl];rfl)|(rw[nn 48];first|(rw[nt rfl];rfl)|(rw[nn 48];first|(rw[nt rfl];rfl)|(rw[nn 48];first|(rw[nt rfl];rfl)|(rw[nn 48];rfl)))))))))
theorem ZeE(x:Tr):mT d st rm (.node (.op "once") [x])=Y7 tt1 (mT d st rm x):=by
 rw[jN 48 48];unfold mF;dsimp only;(first|rfl|(rw[nt rfl];rfl)|(rw[nn 48];first|rfl|(rw[nt rfl];rfl)|(rw[nn 48];first|rfl|(rw[nt rfl];rfl)|(rw[nn 48];first|rfl|(rw[nt rfl];rfl)|(rw[nn 48];first|(rw[nt rfl];rfl)|(rw[nn 48];first|(rw[nt rfl];rfl)|(rw[nn 48];first|(rw[nt rfl];rfl)|(rw[nn 48];first|(rw[nt rfl];rfl)|(rw[nn 48];rfl)))))))))
theorem ZcU(x:Tr):mT d st rm (.node (.op "sofar") [x])=fun k=>!Y7 tt1 (fun j=>!mT d st rm x j) k:=by
 rw[jN 48 48];unfold mF;dsimp only;(first|rfl|(rw[nt rfl];rfl)|(rw[nn 48];first|rfl|(rw[nt rfl];rfl)|(rw[nn 48];first|rfl|(rw[nt rfl];rfl)|(rw[nn 48];first|rfl|(rw[nt rfl];rfl)|(rw[nn 48];first|(rw[nt rfl];rfl)|(rw[nn 48];first|(rw[nt rfl];rfl)|(rw[nn 48];first|(rw[nt rfl];rfl)|(rw[nn 48];first|(rw[nt rfl];rfl)|(rw[nn 48];rfl)))))))))
theorem Zeg(x:Tr):mT d st rm (.node (.op "next") [x])=fun k=>mT d st rm x (k+1):=by
 rw[jN 48 48];unfold mF;dsimp only;(first|rfl|(rw[nt rfl];rfl)|(rw[nn 48];first|rfl|(rw[nt rfl];rfl)|(rw[nn 48];first|rfl|(rw[nt rfl];rfl)|(rw[nn 48];first|rfl|(rw[nt rfl];rfl)|(rw[nn 48];first|(rw[nt rfl];rfl)|(rw[nn 48];first|(rw[nt rfl];rfl)|(rw[nn 48];first|(rw[nt rfl];rfl)|(rw[nn 48];first|(rw[nt rfl];rfl)|(rw[nn 48];rfl)))))))))
theorem Zbt(x:Tr):mT d st rm (.node (.op "before") [x])=JO (mT d st rm x):=by
 rw[jN 48 48];unfold mF;dsimp only;(first|rfl|(rw[nt rfl];rfl)|(rw[nn 48];first|rfl|(rw[nt rfl];rfl)|(rw[nn 48];first|rfl|(rw[nt rfl];rfl)|(rw[nn 48];first|rfl|(rw[nt rfl];rfl)|(rw[nn 48];first|(rw[nt rfl];rfl)|(rw[nn 48];first|(rw[nt rfl];rfl)|(rw[nn 48];first|(rw[nt rfl];rfl)|(rw[nn 48];first|(rw[nt rfl];rfl)|(rw[nn 48];rfl)))))))))
theorem Jw(x y:Tr):mT d st rm (.node (.op "until") [x,y])=Y5 (mT d st rm x) (mT d st rm y):=by
 rw[Ze9 48 48];unfold mF;dsimp only;(first|rfl|(rw[nt rfl];rfl)|(rw[nn 48];first|rfl|(rw[nt rfl];rfl)|(rw[nn 48];first|rfl|(rw[nt rfl];rfl)|(rw[nn 48];first|rfl|(rw[nt rfl];rfl)|(rw[nn 48];first|(rw[nt rfl];rfl)|(rw[nn 48];first|(rw[nt rfl];rfl)|(rw[nn 48];first|(rw[nt rfl];rfl)|(rw[nn 48];first|(rw[nt rfl];rfl)|(rw[nn 48];rfl)))))))))
theorem Zdw(x y:Tr):mT d st rm (.node (.op "since") [x,y])=Y7 (mT d st rm x) (mT d st rm y):=by
 rw[Ze9 48 48];unfold mF;dsimp only;(first|rfl|(rw[nt rfl];rfl)|(rw[nn 48];first|rfl|(rw[nt rfl];rfl)|(rw[nn 48];first|rfl|(rw[nt rfl];rfl)|(rw[nn 48];first|rfl|(rw[nt rfl];rfl)|(rw[nn 48];first|(rw[nt rfl];rfl)|(rw[nn 48];first|(rw[nt rfl];rfl)|(rw[nn 48];first|(rw[nt rfl];rfl)|(rw[nn 48];first|(rw[nt rfl];rfl)|(rw[nn 48];rfl)))))))))
theorem Zgb(x y:Tr):mT d st rm (.node (.many "and") [x,y])=fun k=>mT d st rm x k&&mT d st rm y k:=by
 funext k;rw[Zct (ks:=[x,y]) (.inl rfl) 47,nt rfl];simp
theorem Zhu(x y:Tr):mT d st rm (.node (.many "or") [x,y])=fun k=>mT d st rm x k||mT d st rm y k:=by
 funext k;rw[Zct (ks:=[x,y]) (.inr rfl) 47,nn 48];simp
theorem Zgf{m:Int}(hm:YO (.wit m) 2)(x y:Tr):mT d st rm (.node (.wit m) [x,y])=Jd m.toNat (mT d st rm x) (mT d st rm y):=by
 rw[xl hm (quN (w := "within") 48 _ rfl)];rfl
def Gv(t:TE)(σ:L2.St)(H:Hp)(v:V):Prop:=∀H1,Zf H H1->∀Q:VK,(∀H2,Zf H1 H2->Q v H2)->t σ H1 Q
def Gt(t:TT)(σ:L2.St)(H:Hp)(b:Bool):Prop:=∀H1,Zf H H1->∀Q:Bool->Hp->Prop,(∀H2,Zf H1 H2->Q b H2)->t σ H1 Q
def Go(t:TO)(σ:L2.St)(H:Hp)(x:Option Int):Prop:=∀H1,Zf H H1->∀Q:Option Int->Hp->Prop,(∀H2,Zf H1 H2->Q x H2)->t σ H1 Q
section
variable{σ:L2.St}{ta tb t:TE}{x y b:Bool}{i j:Int}{m k:Nat}{F:Nat->Bool}{l:Addr}
theorem Gv.of(h:∀H1,Zf H H1->∀Q:VK,Q v H1->t σ H1 Q):Gv t σ H v:=fun H1 s Q q=>h H1 s Q (q H1 (.refl _))
theorem Gv.var(e:σ[n]?=some (some v)):Gv (kc n) σ H v:=.of fun _ _ _ q=>⟨_,e,q⟩
def m7:=@Gv.var
theorem Gv.con:Gv (tC v) σ H v:=.of fun _ _ _ q=>q
theorem Gv.add{g:Int->Int->V}(ha:Gv ta σ H (.int i))(hb:Gv tb σ H (.int j)):Gv (tOp (rI0 g) ta tb) σ H (g i j):=fun H1 s Q q=>ha H1 s _ fun H2 s2=>hb H2 (s.trans s2) _ fun H3 s3=>⟨_,_,rfl,rfl,q H3 (s2.trans s3)⟩
theorem Gv.andV(ha:Gv ta σ H (.bl x))(hb:x=true->Gv tb σ H (.bl y)):Gv (ZcE ta tb) σ H (.bl (x&&y)):=fun H1 s Q q=>ha H1 s _ fun H2 s2=>⟨_,rfl,by
 cases x with
 |true=>exact hb rfl H2 (s.trans s2) _ fun H3 s3=>q H3 (s2.trans s3)
 |false=>exact q H2 s2⟩
theorem Gv.orV(ha:Gv ta σ H (.bl x))(hb:x=false->Gv tb σ H (.bl y)):Gv (Zhy ta tb) σ H (.bl (x||y)):=fun H1 s Q q=>ha H1 s _ fun H2 s2=>⟨_,rfl,by
 cases x with
 |true=>exact q H2 s2
 |false=>exact hb rfl H2 (s.trans s2) _ fun H3 s3=>q H3 (s2.trans s3)⟩
def blR(m:Nat)(F:Nat->Bool):List V:=((γ m).map F).map V.bl
theorem ZdH(h:k<m):atI (blR m F) ((k:Nat):Int)=some (.bl (F k)):=Zj (by simp[blR,h])
theorem Gv.ix(ha:Gv ta σ H (.ref l))(hl:H l=some (.lst (blR m F)))(hb:Gv tb σ H (.int i))(hi:i=(k:Nat))(hk:k<m):Gv (tOp (Zef K) ta tb) σ H (.bl (F k)):=fun H1 s Q q=>ha H1 s _ fun H2 s2=>hb H2 (s.trans s2) _ fun H3 s3=>by
 subst hi;exact⟨_,_,_,_,rfl,rfl,mZ (s3 _ _ (s2 _ _ (s _ _ hl))),ZdH hk,q H3 (s2.trans s3)⟩
theorem Go.no:Go Zah σ H none:=fun H1 s Q q=>q H1 (.refl _)
theorem Go.part(h:Gv t σ H (.int i)):Go (Zfs t) σ H (some i):=fun H1 s Q q=>h H1 s _ fun H2 s2=>⟨_,rfl,q H2 s2⟩
theorem Zda(b:Bool)(zs:List Bool):inV (.bl b) (zs.map V.bl)=zs.any (·==b):=by
 unfold inV;rw[List.any_map];rfl
theorem Gv.cut{tl th:TO}(ha:Gv ta σ H (.ref l))(hl:H l=some (.lst (blR m F)))(h1:Go tl σ H lo)(h2:Go th σ H hi)(hz:X9 (blR m F) lo hi=zs.map V.bl) :
  Gv (tOp (rIn K neg) (tC (.bl b)) (tSl (ZfM K) ta tl th)) σ H (.bl (if neg then !(zs.any (·==b)) else zs.any (·==b))):=fun H1 s Q q=>ha H1 s _ fun H2 s2=>h1 H2 (s.trans s2) _ fun H3 s3=>h2 H3 (s.trans (s2.trans s3)) _ fun H4 s4=>
 ⟨_,_,rfl,mZ (s4 _ _ (s3 _ _ (s2 _ _ (s _ _ hl)))),fun p hp=>⟨p,_,rfl,.inl (mZ Zc),rfl,by rw[hz,iR];exact fZ.mpr fun _ _=>rfl,by
  rw[hz,Zda];exact q _ (s2.trans (s3.trans (s4.trans (Ze hp))))⟩⟩
theorem Zdg{b:Bool}:zs.any (·==b)=true↔b∈zs:=by rw[lH];simp
theorem Ke(h:k<=m):(((γ m).map F).take k).any (·==b)=true↔∃i,i<k/\F i=b:=by
 rw[Zdg,<- hU,List.take_range,iT h,eV];exact⟨fun⟨i,h1,h2⟩=>⟨i,gM.mp h1,h2⟩,fun⟨i,h1,h2⟩=>⟨i,gM.mpr h1,h2⟩⟩
theorem yN(h:n<=m):((((γ m).map F).drop k).take (n-k)).any (·==b)=true↔∃i,k<=i/\i<n/\F i=b:=by
 rw[Zdg];constructor
 ·intro hb;obtain⟨j,hj,e⟩:=fO hb;rw[fh,gv,eG,fI] at hj;refine⟨k+j,by lia,by lia,?_⟩;rw[<- e];simp
 ·rintro⟨i,h1,h2,e⟩;refine List.mem_iff_getElem.mpr ⟨i-k,by rw[fh,gv,eG,fI];lia,?_⟩;simp[show k+(i-k)=i by lia,e]
theorem ZeC(h:k<=m):X9 (blR m F) none (some ((k:Nat):Int))=(((γ m).map F).take k).map V.bl:=by
 rw[yT _ _ (by simp[blR];exact h),blR,<- hU]
theorem xb(h1:k<=n)(h:n<=m):X9 (blR m F) (some ((k:Nat):Int)) (some ((n:Nat):Int))=((((γ m).map F).drop k).take (n-k)).map V.bl:=by
 have hl:(blR m F).length=m:=by simp[blR]
 unfold X9;rw[HT.sIx_nat,HT.sIx_nat,hl,iT h,iT 21,blR,<- Κ,<- hU]
theorem Gt.val(h:Gv t σ H (.bl x)):Gt (Jp t) σ H x:=fun H1 s Q q=>h H1 s _ fun H2 s2=>⟨_,rfl,q H2 s2⟩
theorem Gt.vB(h:Gv t σ H (.bl x)):Gt (tB t) σ H x:=fun H1 s Q q=>h H1 s _ fun H2 s2=>⟨_,rfl,q H2 s2⟩
theorem Gt.eq(ha:Gv ta σ H (.bl x))(hb:Gv tb σ H (.bl y))(h:x≠y):Gt (Jp (tOp rEq ta tb)) σ H false:=fun H1 s Q q=>ha H1 s _ fun H2 s2=>hb H2 (s.trans s2) _ fun H3 s3=>⟨rfl,_,rfl,by
 rw[fE (fun z=>h (V.bl.inj z))];exact q H3 (s2.trans s3)⟩
theorem Gt.ne(ha:Gv ta σ H (.bl x))(hb:Gv tb σ H (.bl y))(h:x=y):Gt (Jp (tOp rNe ta tb)) σ H false:=fun H1 s Q q=>ha H1 s _ fun H2 s2=>hb H2 (s.trans s2) _ fun H3 s3=>⟨rfl,_,rfl,by
 rw[fQ (fb V.bl h)];exact q H3 (s2.trans s3)⟩
theorem Gt.or{c d:TT}(ha:Gt c σ H false)(hb:Gt d σ H false):Gt (tOr c d) σ H false:=fun H1 s Q q=>ha H1 s _ fun H2 s2=>Z4 (hb H2 (s.trans s2) _ fun H3 s3=>q H3 (s2.trans s3))
theorem Gt.and{c d:TT}(ha:Gt c σ H x)(hb:x=true->Gt d σ H false):Gt (Zbm c d) σ H false:=fun H1 s Q q=>ha H1 s _ fun H2 s2=>by
 cases x with
 |true=>exact YD (hb rfl H2 (s.trans s2) _ fun H3 s3=>q H3 (s2.trans s3))
 |false=>exact Z4 (q H2 s2)
theorem Gt.cast(h:Gt tt σ H x)(e:x=y):Gt tt σ H y:=e▸h
theorem Gt.andB{c d:TT}(ha:Gt c σ H x)(hb:x=true->Gt d σ H y):Gt (Zbm c d) σ H (x&&y):=fun H1 s Q q=>ha H1 s _ fun H2 s2=>by
 cases x with
 |true=>exact YD (hb rfl H2 (s.trans s2) _ fun H3 s3=>q H3 (s2.trans s3))
 |false=>exact Z4 (q H2 s2)
theorem Gv.inL(ha:Gv ta σ H (.ref l))(hl:H l=some (.lst (zs.map V.bl))) :
  Gv (tOp (rIn K neg) (tC (.bl b)) ta) σ H (.bl (if neg then !(zs.any (·==b)) else zs.any (·==b))):=fun H1 s Q q=>ha H1 s _ fun H2 s2=>
 ⟨_,_,rfl,.inl (mZ (s2 _ _ (s _ _ hl))),rfl,by rw[iR];exact fZ.mpr fun _ _=>rfl,by rw[Zda];exact q _ s2⟩
theorem Gv.neNil(ha:Gv ta σ H (.ref l))(hl:H l=some (.lst (ns.map V.int)))(hx:x=true↔ns≠[]):Gv (tOp (Zeq K true) ta (Zhg kE)) σ H (.bl x):=fun H1 s Q q=>ha H1 s _ fun H2 s2=>
 ⟨by left,fun p hp=>ZeB (Ze hp _ _ (s2 _ _ (s _ _ hl))) Zc fun c hc=>by
  have:c=x:=by rw[gy];exact hc.trans hx.symm
  subst this;exact q _ (s2.trans (Ze hp))⟩
theorem Gt.seqN{c:TT}{A C:L2.TS}{D:vw}(h:Gt c σ H false)(s:Zf H H1)(q:∀H2,Zf H H2->C D σ H2):xZ (k4 c A Zal) C D σ H1:=h H1 s _ fun H2 s2=>Z4 (q H2 (s.trans s2))
theorem Gt.one{c:TT}{A B:L2.TS}{D:vw}(h:Gt c σ H false)(s:Zf H H1)(q:∀H2,Zf H H2->B D σ H2):k4 c A B D σ H1:=h H1 s _ fun H2 s2=>Z4 (q H2 (s.trans s2))
end
theorem sz0:0<=sizeLine:=by rw[eJ];decide
theorem sz1:1<=sizeLine:=by rw[eJ];decide
theorem sz2:2<=sizeLine:=by rw[eJ];decide
theorem sz3:3<=sizeLine:=by rw[eJ];decide
theorem sz4:4<=sizeLine:=by rw[eJ];decide
theorem sz7:7<=sizeLine:=by rw[eJ];decide
end L3
namespace L3
open PySem PySem.Spec L2
theorem pa_n1{X:Cx}{e:Expr}{te:TE}(ha:PE X e te)(hs:starEach [e] X.env=(false,eval e X.env)::starEach [] X.env):PA X [e] (xC te kE):=Za ha Zb hs
end L3
namespace KK
open PySem PySem.Spec L2 L3
abbrev qr0(a:Addr):Option V:=some (.ref a)
def top(i:Nat):Stmt:=PySem.Challenge.pw_timecourt_k23_whole_words_unfold.main.body.getD i (.Pass ⟨0,0,0,0⟩)
def cS:50:=["lines","size"]
def cT:50:=["thing"]
def cU:50:=["self"]
def cW:50:=["sentence"]
def cX:50:=["thing","many"]
def cY:50:=["cores"]
def cZ:50:=["sentence","inner"]
def c8:50:=["self","room"]
def c9:50:=["one","other"]
def db:50:=["some","rooms","table"]
def de:50:=["turns","first","second"]
def df:50:=["line","length","size"]
def dg:50:=["lines","size","more"]
def dh:50:=["things","many"]
def di:50:=["line","size"]
def dj:50:=["self","part","row"]
def dk:50:=["self","number"]
def dm:50:=["rows","run","many"]
def dq:50:=["world","row","rooms"]
def dt:50:=["self","core"]
def du:50:=["world","table","number","told"]
def dv:50:=["table","sets"]
def dy:50:=["_law_told","_law_one","_law_other","_law_many"]
def dz:50:=["_law_told","_law_one","_law_other","_law_many","_law_far","_law_count"]
def dA:50:=["_law_state_here","_law_base"]
def dB:50:=["signs","ways","starts","fair"]
def dC:50:=["self","signs","ways","starts","fair"]
def dD:50:=["_law_state_here"]
def dE:50:=["_law_state_here","_law_world_here"]
def dG:50:=["_law_script","_law_k"]
def dH:50:=["world","core","sets"]
def dJ:50:=["world","run","core","sets","many"]
def dM:50:=["_law_script"]
def dN:50:=["_law_j","_law_other","_law_one","_law_k"]
def dQ:50:=["_law_k","_law_state_here","_law_many"]
def dU:50:=["_law_name","_law_state_here"]
def dX:50:=["_law_k","_law_rooms","_law_end"]
def dY:50:=["_law_state_here","_law_deep"]
abbrev qG:=top 4
abbrev V1:=top 5
abbrev zQ:=top 6
abbrev Wr:=top 7
abbrev Vy:=top 8
abbrev Vv:=top 9
abbrev Yk:=top 17
abbrev Wj:=top 18
abbrev Yq:=top 19
abbrev WS:=top 22
abbrev ZM:=top 23
abbrev VO:=top 24
abbrev U3:=top 25
abbrev Ww:=top 26
abbrev Ug:=top 27
abbrev Uh:=Wn (top 28) 0
abbrev Ys:=Wn (top 28) 1
abbrev Y6:=Wn (top 28) 2
abbrev Zy:=Wn (top 28) 3
abbrev kZ:=top 29
abbrev zU:=top 30
abbrev Ud:=top 32
abbrev Wx:=top 33
abbrev Vw:=top 34
abbrev Z3:=top 35
abbrev Yg:=top 36
abbrev ZY:=top 37
abbrev qb:=top 38
abbrev Wy:=top 39
abbrev XF:=top 40
abbrev Ub:=top 41
abbrev Uk:=top 42
abbrev UO:=top 43
abbrev YU:=top 44
abbrev VI:=top 45
abbrev Xz:=top 46
abbrev YS:=Wn (top 51) 0
abbrev Ua:=Wn (top 51) 1
abbrev Wg:=Wn (top 51) 2
abbrev WG:=Wn (top 51) 3
abbrev W9:=Wn (top 51) 4
abbrev XS:=Wn (top 51) 5
abbrev Yf:=top 52
abbrev Xy:=top 53
abbrev W5:=top 55
abbrev Uf:=top 56
abbrev YT:=top 57
abbrev Z6:=top 58
abbrev Yo:=top 59
abbrev WF:=top 60
abbrev Y4:=top 61
abbrev XE:=top 62
abbrev Q4:=top 63
theorem cP{N P:50}{S:Scope}(a:S.kind=.function:=by rfl)(b:S.isCoroutine=false:=by rfl)(c:S.isGenerator=false:=by rfl)(d:N.take P.length=P:=by rfl)(e:N.Nodup/\(∀x∈P,S.names.lookup x=some .local\/S.names.lookup x=some .cell)/\∀y∈S.names,y.2≠.free:=by left):Zs N P S:=⟨a,b,c,e.1,d,e.2.1,e.2.2⟩
theorem JW:Zs ["thing"] cT (Zh qG):=cP
theorem Qh:Zs ["thing"] cT (Zh V1):=cP
theorem QJ:Zs ["thing","many"] cX (Zh zQ):=cP
theorem ko:Zs ["thing"] cT (Zh Wr):=cP
theorem kJ:Zs ["thing","many"] cX (Zh Vy):=cP
theorem Uv:Zs ["things","many","start","taken"] dh (Zh Vv):=cP
theorem zr:Zs ["thing","word"] cT (Zh Yk):=cP
theorem yy:Zs ["sentence","word"] cW (Zh Wj):=cP
theorem X7:Zs ["sentence","found","waiting","one"] cW (Zh Yq):=cP
theorem Uj:Zs ["sentence","found","one","inner"] cW (Zh WS):=cP
theorem zj:Zs ["sentence","inner","word"] cZ (Zh ZM):=cP
theorem U8:Zs ["cores","whole","core"] cY (Zh VO):=cP
theorem qZ:Zs ["cores","whole","core"] cY (Zh U3):=cP
theorem WQ:Zs ["turns","first","second","whole","turn"] de (Zh Ww):=cP
theorem yB:Zs ["sentence","inner","head"] cZ (Zh Ug):=cP
theorem vW:Zs ["self"] cU (Zh Uh):=cP
theorem Xb:Zs ["self","core","found","part","inner"] dt (Zh Ys):=cP
theorem zN:Zs ["self","part","row"] dj (Zh Y6):=cP
def Wd:50:=["self","number","found","seen","waiting","at","ahead"]
theorem ZV:Zs Wd dk (Zh Zy):=cP
theorem Zdf:Zs ["row"] ["row"] (Zh kZ):=cP
theorem Qm:Zs ["core"] ["core"] (Zh zU):=cP
theorem vE:Zs ["world","run","core","sets","many"] dJ (Zh Ud):=cP
theorem Uc:Zs ["world","core","sets","table","number"] dH (Zh Wx):=cP
theorem Jf:Zs ["table","sets"] dv (Zh Vw):=cP
def qi:50:=["world","table","number","told","places","rows","inner","row"]
theorem Xq:Zs qi du (Zh Z3):=cP
theorem xB:Zs ["world","row","rooms"] dq (Zh Yg):=cP
def UZ:50:=["rows","run","many","way","ring","size","lines","row","line","deed"]
theorem Yz:Zs UZ dm (Zh ZY):=cP
theorem qQ:Zs ["line","size","end"] di (Zh qb):=cP
theorem qU:Zs ["line","length","size","longer"] df (Zh Wy):=cP
theorem Vz:Zs ["lines","size","more","length"] dg (Zh XF):=cP
theorem JU:Zs ["lines","size"] cS (Zh Ub):=cP
theorem JT:Zs ["lines","size"] cS (Zh Uk):=cP
theorem k7:Zs ["lines","size"] cS (Zh UO):=cP
theorem Ye:Zs ["lines","size","pairs","later","first","second","line"] cS (Zh YU):=cP
theorem xW:Zs ["lines","size"] cS (Zh VI):=cP
theorem Xg:Zs ["lines","size","line","held","first","second"] cS (Zh Xz):=cP
def Uu:50:=["self","signs","ways","starts","fair"]
theorem vO:Zs Uu dC (Zh YS):=cP
theorem vH:Zs ["self"] cU (Zh Ua):=cP
theorem zC:Zs ["self","room"] c8 (Zh Wg):=cP
theorem yh:Zs ["self","room"] c8 (Zh WG):=cP
theorem ZbQ:Zs ["self"] cU (Zh W9):=cP
theorem KC:Zs ["self"] cU (Zh XS):=cP
def VJ:50:=["signs","ways","starts","fair","many"]
theorem UQ:Zs VJ dB (Zh Yf):=cP
theorem zy:Zs ["thing","many"] cX (Zh Xy):=cP
theorem yI:Zs ["_law_script","_law_k"] dG (Zh W5):=cP
theorem vC:Zs ["_law_cell"] ["_law_cell"] (Zh Uf):=cP
theorem Wp:Zs ["_law_state_here","_law_base","_law_found","_law_number"] dA (Zh YT):=cP
def Ux:50:=["_law_state_here","_law_many","_law_signs","_law_ways","_law_room","_law_on"]
theorem Xh:Zs Ux dD (Zh Z6):=cP
def qx:50:=["_law_state_here","_law_world_here","_law_rooms","_law_k","_law_on","_law_ends","_law_end","_law_begins","_law_begin"]
theorem Y8:Zs qx dE (Zh Yo):=cP
theorem XA:Zs ["_law_state_here","_law_deep","_law_fork","_law_one","_law_other"] dY (Zh WF):=cP
theorem XI:Zs ["_law_told","_law_one","_law_other","_law_many","_law_k"] dy (Zh Y4):=cP
def V0:50:=["_law_told","_law_one","_law_other","_law_many","_law_far","_law_count","_law_k","_law_rest","_law_near"]
theorem Xl:Zs V0 dz (Zh XE):=cP
theorem XT:Zs ["_law_script","_law_world_here","_law_run_here","_law_state_here","_law_first","_law_second","_law_count","_law_many","_law_far","_law_rows","_law_some","_law_word","_law_told"] dM (Zh Q4):=cP
inductive Cj2(p0 p1:Prop):Prop
 |mk (h0:p0) (h1:p1):Cj2 p0 p1
inductive Cj3(p0 p1 p2:Prop):Prop
 |mk (h0:p0) (h1:p1) (h2:p2):Cj3 p0 p1 p2
inductive Cj4(p0 p1 p2 p3:Prop):Prop
 |mk (h0:p0) (h1:p1) (h2:p2) (h3:p3):Cj4 p0 p1 p2 p3
inductive Cj5(p0 p1 p2 p3 p4:Prop):Prop
 |mk (h0:p0) (h1:p1) (h2:p2) (h3:p3) (h4:p4):Cj5 p0 p1 p2 p3 p4
inductive Cj6(p0 p1 p2 p3 p4 p5:Prop):Prop
 |mk (h0:p0) (h1:p1) (h2:p2) (h3:p3) (h4:p4) (h5:p5):Cj6 p0 p1 p2 p3 p4 p5
inductive Cj7(p0 p1 p2 p3 p4 p5 p6:Prop):Prop
 |mk (h0:p0) (h1:p1) (h2:p2) (h3:p3) (h4:p4) (h5:p5) (h6:p6):Cj7 p0 p1 p2 p3 p4 p5 p6
inductive Cj9(p0 p1 p2 p3 p4 p5 p6 p7 p8:Prop):Prop
 |mk (h0:p0) (h1:p1) (h2:p2) (h3:p3) (h4:p4) (h5:p5) (h6:p6) (h7:p7) (h8:p8):Cj9 p0 p1 p2 p3 p4 p5 p6 p7 p8
inductive Zhh(p0 p1 p2 p3 p4 p5 p6 p7 p8 p9:Prop):Prop
 |mk (h0:p0) (h1:p1) (h2:p2) (h3:p3) (h4:p4) (h5:p5) (h6:p6) (h7:p7) (h8:p8) (h9:p9):Zhh p0 p1 p2 p3 p4 p5 p6 p7 p8 p9
inductive ZeD(p0 p1 p2 p3 p4 p5 p6 p7 p8 p9 p10:Prop):Prop
 |mk (h0:p0) (h1:p1) (h2:p2) (h3:p3) (h4:p4) (h5:p5) (h6:p6) (h7:p7) (h8:p8) (h9:p9) (h10:p10):ZeD p0 p1 p2 p3 p4 p5 p6 p7 p8 p9 p10
inductive Ex1{u0:Type}(P:u0->Prop):Prop
 |mk (x0:u0) (h:P x0):Ex1 P
inductive Ex2{u0 u1:Type}(P:u0->u1->Prop):Prop
 |mk (x0:u0) (x1:u1) (h:P x0 x1):Ex2 P
inductive Ex3{u0 u1 u2:Type}(P:u0->u1->u2->Prop):Prop
 |mk (x0:u0) (x1:u1) (x2:u2) (h:P x0 x1 x2):Ex3 P
inductive Ex4{u0 u1 u2 u3:Type}(P:u0->u1->u2->u3->Prop):Prop
 |mk (x0:u0) (x1:u1) (x2:u2) (x3:u3) (h:P x0 x1 x2 x3):Ex4 P
inductive Ex5{u0 u1 u2 u3 u4:Type}(P:u0->u1->u2->u3->u4->Prop):Prop
 |mk (x0:u0) (x1:u1) (x2:u2) (x3:u3) (x4:u4) (h:P x0 x1 x2 x3 x4):Ex5 P
inductive Ex6{u0 u1 u2 u3 u4 u5:Type}(P:u0->u1->u2->u3->u4->u5->Prop):Prop
 |mk (x0:u0) (x1:u1) (x2:u2) (x3:u3) (x4:u4) (x5:u5) (h:P x0 x1 x2 x3 x4 x5):Ex6 P
inductive Ex7{u0 u1 u2 u3 u4 u5 u6:Type}(P:u0->u1->u2->u3->u4->u5->u6->Prop):Prop
 |mk (x0:u0) (x1:u1) (x2:u2) (x3:u3) (x4:u4) (x5:u5) (x6:u6) (h:P x0 x1 x2 x3 x4 x5 x6):Ex7 P
inductive Ex8{u0 u1 u2 u3 u4 u5 u6 u7:Type}(P:u0->u1->u2->u3->u4->u5->u6->u7->Prop):Prop
 |mk (x0:u0) (x1:u1) (x2:u2) (x3:u3) (x4:u4) (x5:u5) (x6:u6) (x7:u7) (h:P x0 x1 x2 x3 x4 x5 x6 x7):Ex8 P
inductive Ex9{u0 u1 u2 u3 u4 u5 u6 u7 u8:Type}(P:u0->u1->u2->u3->u4->u5->u6->u7->u8->Prop):Prop
 |mk (x0:u0) (x1:u1) (x2:u2) (x3:u3) (x4:u4) (x5:u5) (x6:u6) (x7:u7) (x8:u8) (h:P x0 x1 x2 x3 x4 x5 x6 x7 x8):Ex9 P
inductive ZeW{u0 u1 u2 u3 u4 u5 u6 u7 u8 u9:Type}(P:u0->u1->u2->u3->u4->u5->u6->u7->u8->u9->Prop):Prop
 |mk (x0:u0) (x1:u1) (x2:u2) (x3:u3) (x4:u4) (x5:u5) (x6:u6) (x7:u7) (x8:u8) (x9:u9) (h:P x0 x1 x2 x3 x4 x5 x6 x7 x8 x9):ZeW P
inductive Zhs{u0 u1 u2 u3 u4 u5 u6 u7 u8 u9 u10 u11:Type}(P:u0->u1->u2->u3->u4->u5->u6->u7->u8->u9->u10->u11->Prop):Prop
 |mk (x0:u0) (x1:u1) (x2:u2) (x3:u3) (x4:u4) (x5:u5) (x6:u6) (x7:u7) (x8:u8) (x9:u9) (x10:u10) (x11:u11) (h:P x0 x1 x2 x3 x4 x5 x6 x7 x8 x9 x10 x11):Zhs P
structure Fg(K:W.Frag)(mg:Str->81)(x:Str)(st:Stmt)(ps:50)(fa:Addr)(fd:FuncData):Prop where
 f:Fun K x x st fa fd
 n:Vd K fd ps []
 g:mg x=some (.ref fa)
structure Mg(K:W.Frag)(C:Addr)(x q:Str)(st:Stmt)(ps:50)(fa:Addr)(fd:FuncData):Prop where
 f:Fun K x q st fa fd
 n:Vd K fd ps []
 m:ZdU K C x fa
theorem okF{x:Str}{st:Stmt}{f:Addr}{ps:50}{k:Nat}(F:Fun K x qual st f fd)(S:Zs N ps (Zh st))
  (nQ:∀(cR:Value) (A:Around) (outer:List Env) (s:Shared) (H:Hp) (vs:List V) (Q:VK) (E:XK),YK k (A.deeper (PyProof.Rows.envOfC qual (Zh st) s.heap.objs.size f cR))->sp vs H Q E -> ∃t,PSs (jZ CX0 P w K mg base N qual (Zh st) f cR A outer s H E).nox (YI st) t/\t { nx:=fun _ H'=>Q .non H',rt:=Q } (UI N vs) H)
  (len:∀vs H Q E,sp vs H Q E->vs.length=ps.length:=by intro _ _ _ _ h;first|(cases h;rename_i h;cases h;subst_vars;rfl)|(cases h;subst_vars;rfl)|(repeat (first|(obtain⟨rfl,_⟩:=h;rfl)|obtain⟨_,h⟩:=h))):WK P w K mg base CX0 (k+1) f fd ps sp:=F.ok S len nQ
theorem rmL{k:Nat}(r:YK k A)(h:Nat.ble j k=true):YK j A:=r.mono (Nat.le_of_ble_eq_true h)
theorem ZD{k:Nat}{f:Addr}{ps:50}{x:Str}{st:Stmt}{p:Pos}{es:List Expr}{t:TA}(g:Fg X.K X.mg x st ps f fd)(F:WK X.prog X.w X.K X.mg X.base CX0 j f fd ps sp)(hr:YK k X.A)(le:Nat.ble j k=true)(hg:Gl X x)(ha:PA X (e::es) t)(pB:(x==("__debug__" : Str))=false:=by left)(he:starEach (e::es) X.env=(false,eval e X.env)::starEach es X.env:=by rfl)(oG:(backTo gT (starEach es X.env)).any (·.1)=false:=by rfl):PE X (.Call (.Name x p) (e::es) [] gT) (Zb1 sp [] E0 t):=WN F (rmL hr le) hg g.g g.f.kp g.n .nil Xs ha pB he oG
def blk:List Stmt->Nat->List Stmt
 |.For _ _ b _ _::_,0=>b
 |.For _ _ _ e _::_,_=>e
 |.While _ b _ _::_,0=>b
 |.While _ _ e _::_,_=>e
 |.If _ b _ _::_,0=>b
 |.If _ _ e _::_,_=>e
 |_,_=>[]
def pkL(ss:List Stmt):List Nat->List Stmt
 |[]=>ss
 |[n]=>ss.drop n
 |n::b::p=>pkL (blk (ss.drop n) b) p
abbrev Rdg(X:Cx)(s:Stmt)(p:List Nat):Type:={t:L2.TS // PSs X (pkL (YI s) p) t}
theorem okX{x:Str}{st:Stmt}{f:Addr}{ps:50}{k:Nat}(F:Fun K x qual st f fd)(S:Zs N ps (Zh st))
  (nQ:∀(cR:Value) (A:Around) (outer:List Env) (s:Shared) (H:Hp) (E:XK),YK k (A.deeper (PyProof.Rows.envOfC qual (Zh st) s.heap.objs.size f cR))->let X:=(jZ CX0 P w K mg base N qual (Zh st) f cR A outer s H E).nox
   ∀(vs:List V) (Q:VK),sp vs H Q E->∃t,PSs X (YI st) t/\t { nx:=fun _ H'=>Q .non H',rt:=Q } (UI N vs) H)
  (len:∀vs H Q E,sp vs H Q E->vs.length=ps.length:=by intro _ _ _ _ h;first|(cases h;rename_i h;cases h;subst_vars;rfl)|(cases h;subst_vars;rfl)|(repeat (first|(obtain⟨rfl,_⟩:=h;rfl)|obtain⟨_,h⟩:=h))):WK P w K mg base CX0 (k+1) f fd ps sp:=F.ok S len fun cR A outer s H vs Q E hr h=>nQ cR A outer s H E hr vs Q h
set_option genInjectivity false
structure Adr where
 (y0 y1 y2 y3 y4 y5 y6 y7 y8 y9 y10 y11 y12 y13 y14 y15 y16 y17 y18 y19 y20 y21 y22 y23 y24 y25 y26 y27 y28 y29 y30 y31 y32 y33 y34 y35 y36 y37 y38 y39 y40 y41 y42 y43 y44 y45 y46 y47 y48 y49 y50 y51 y52:Addr)
 (z0 z1 z2 z3 z4 z5 z6 z7 z8 z9 z10 z11 z12 z13 z14 z15 z16 z17 z18 z19 z20 z21 z22 z23 z24 z25 z26 z27 z28 z29 z30 z31 z32 z33 z34 z35 z36 z37 z38 z39 z40 z41 z42 z43 z44 z45 z46 z47 z48 z49 z50 z51 z52:FuncData)
 (C_TimeError C_BadWorld C_BadSentence C_Table C_World D_LENGTHS D_LINES Y_YES:Addr)
 (Pm:Params)
structure Txt(K:W.Frag)(mg:Str->81)(a:Adr):Prop where
 bw:Fg K mg "is_whole" qG cT a.y0 a.z0
 bJ:Fg K mg "is_name" V1 cT a.y1 a.z1
 bT:Fg K mg "is_room" zQ cX a.y2 a.z2
 bc:Fg K mg "are_names" Wr cT a.y3 a.z3
 bB:Fg K mg "are_rooms" Vy cX a.y4 a.z4
 bf:Fg K mg "last_ones" Vv dh a.y5 a.z5
 bC:Fg K mg "is_formed" Yk cT a.y6 a.z6
 a8:Fg K mg "inner_of" Wj cW a.y7 a.z7
 aJ:Fg K mg "inner_ahead" Yq cW a.y8 a.z8
 bq:Fg K mg "core_of" WS cW a.y9 a.z9
 bD:Fg K mg "core_with" ZM cZ a.y10 a.z10
 bS:Fg K mg "and_of" VO cY a.y11 a.z11
 bY:Fg K mg "or_of" U3 cY a.y12 a.z12
 bE:Fg K mg "within_of" Ww de a.y13 a.z13
 bP:Fg K mg "row_with" Ug cZ a.y14 a.z14
 br:Mg K a.C_Table "__init__" "Table.__init__" Uh cU a.y15 a.z15
 ai:Mg K a.C_Table "number_of" "Table.number_of" Ys dt a.y16 a.z16
 aE:Mg K a.C_Table "taken_in" "Table.taken_in" Y6 dj a.y17 a.z17
 ak:Mg K a.C_Table "inner_numbers" "Table.inner_numbers" Zy dk a.y18 a.z18
 ck:Fg K mg "below" kZ ["row"] a.y19 a.z19
 bK:Fg K mg "size_of" zU ["core"] a.y20 a.z20
 bt:Fg K mg "read_along" Ud dJ a.y21 a.z21
 bF:Fg K mg "ground_of" Wx dH a.y22 a.z22
 bG:Fg K mg "told_sets" Vw dv a.y23 a.z23
 bh:Fg K mg "ground_rows" Z3 du a.y24 a.z24
 bj:Fg K mg "room_truths" Yg dq a.y25 a.z25
 bH:Fg K mg "read_rows" ZY dm a.y26 a.z26
 bU:Fg K mg "trimmed" qb di a.y27 a.z27
 aO:Fg K mg "stretched" Wy df a.y28 a.z28
 aq:Fg K mg "stretched_both" XF dg a.y29 a.z29
 bx:Fg K mg "not_line" Ub cS a.y30 a.z30
 bz:Fg K mg "and_line" Uk cS a.y31 a.z31
 bn:Fg K mg "next_line" UO cS a.y32 a.z32
 aX:Fg K mg "until_line" YU cS a.y33 a.z33
 aV:Fg K mg "before_line" VI cS a.y34 a.z34
 aY:Fg K mg "since_line" Xz cS a.y35 a.z35
 bu:Mg K a.C_World "__init__" "World.__init__" YS dC a.y36 a.z36
 ah:Mg K a.C_World "many" "World.many" Ua cU a.y37 a.z37
 aF:Mg K a.C_World "signs_of" "World.signs_of" Wg c8 a.y38 a.z38
 aM:Mg K a.C_World "ways_on" "World.ways_on" WG c8 a.y39 a.z39
 bX:Mg K a.C_World "begins" "World.begins" W9 cU a.y40 a.z40
 bL:Mg K a.C_World "fair_signs" "World.fair_signs" XS cU a.y41 a.z41
 bo:Fg K mg "makes_world" Yf dB a.y42 a.z42
 aG:Fg K mg "are_some_rooms" Xy cX a.y43 a.z43
 aD:Fg K mg "_law_cell_at" W5 dG a.y44 a.z44
 aT:Fg K mg "_law_state" Uf ["_law_cell"] a.y45 a.z45
 aa:Fg K mg "_law_digit" YT dA a.y46 a.z46
 bv:Fg K mg "_law_world" Z6 dD a.y47 a.z47
 bQ:Fg K mg "_law_run" Yo dE a.y48 a.z48
 ab:Fg K mg "_law_sentence" WF dY a.y49 a.z49
 ae:Fg K mg "_law_neighbours_right" Y4 dy a.y50 a.z50
 ay:Fg K mg "_law_far_right" XE dz a.y51 a.z51
 cL:Fg K mg "law" Q4 dM a.y52 a.z52
 ce:mg "ValueError" = none
 cA:mg "all" = none
 a9:mg "reversed" = none
 aQ:mg "range" = none
 az:mg "len" = none
 aH:mg "tuple" = none
 bM:mg "list" = none
 cM:mg "min" = none
 ag:mg "isinstance" = none
 cN:mg "int" = none
 cD:mg "set" = none
 cJ:mg "max" = none
 cO:mg "zip" = none
 cI:mg "bool" = none
 cK:mg "str" = none
 bN:mg "sorted" = none
 cg:∃u,mg "LETTERS" = some u/\ZL (.str "abcdefghijklmnopqrstuvwxyz") u
 bA:∃u,mg "MOST_LETTERS" = some u/\ZL (.int 8) u
 bO:∃u,mg "MOST_WITHIN" = some u/\ZL (.int 5) u
 bR:∃u,mg "MOST_ROOMS" = some u/\ZL (.int 20) u
 bV:∃u,mg "MOST_FAIR" = some u/\ZL (.int 3) u
 cn:mg "TimeError" = some (.ref a.C_TimeError)
 cp:W.excIn K a.C_TimeError [.type "ValueError",.type "Exception",.type "BaseException",.type "object"] "ValueError.__new__" = true
 cB:mg "BadWorld" = some (.ref a.C_BadWorld)
 cC:W.excIn K a.C_BadWorld [.type "ValueError",.type "Exception",.type "BaseException",.type "object"] "ValueError.__new__" = true
 bZ:mg "BadSentence" = some (.ref a.C_BadSentence)
 b9:W.excIn K a.C_BadSentence [.type "ValueError",.type "Exception",.type "BaseException",.type "object"] "ValueError.__new__" = true
 k_BadWorld:ZhB K a.C_BadWorld
 k_BadSentence:ZhB K a.C_BadSentence
 nk_signs:W.nsIn K a.D_LENGTHS "signs" = some none
 nk_Next:W.nsIn K a.D_LENGTHS "Next" = some none
 cu:mg "YES" = some (.ref a.Y_YES)
 y_YES:∀H:Hp,SqT K H a.Y_YES [.str "yes"]
 bW:mg "LENGTHS" = some (.ref a.D_LENGTHS)
 ba:Zgk K a.Pm a.D_LENGTHS [("all",2),("some",2),("not",2),("next",2),("always",2),("ever",2),("before",2),("once",2),("sofar",2),("until",3),("since",3)]
 cE:mg "LINES" = some (.ref a.D_LINES)
 cF:Zg8 K a.Pm a.D_LINES [("not",a.y30),("and",a.y31),("next",a.y32),("until",a.y33),("before",a.y34),("since",a.y35)]
 am:Cls K a.C_Table
 cG:mg "Table" = some (.ref a.C_Table)
 cw:Mk K a.C_Table a.y15
 aZ:Wi K a.C_Table "parts"
 aC:Wi K a.C_Table "rows"
 aj:Wi K a.C_Table "numbers"
 aA:Cls K a.C_World
 cH:mg "World" = some (.ref a.C_World)
 cy:Mk K a.C_World a.y36
 ao:Wi K a.C_World "room_signs"
 aN:Wi K a.C_World "room_ways"
 aU:Wi K a.C_World "start_rooms"
 aW:Wi K a.C_World "fair_names"
abbrev Okd(P:Program)(w:World)(K:W.Frag)(mg:Str->81)(base:Heap)(a:Adr)(k:Nat)(f:Addr)(fd:FuncData)(ps:50)(sp:W.Frag->Adr->Sp):Prop:=∀(_:Txt K mg a) (_:w.params=a.Pm),WK P w K mg base CX0 k f fd ps (sp K a)
def ZdG(K:W.Frag)(a:Adr):Sp:=fun vs H Q _=>Ex4 fun(p:Addr) (us:List V) (cs:67) (n:Nat)=>Cj6 (vs=[.ref p]) (H p=some (.lst us)) (AtL K n H us cs) (cs.length<=8) (1<=n) (∀H' v,Zf H H'->At K (n+24) H' v (orT cs)->Q v H')
theorem Kn{a:Adr}:66 1 a.y12 a.z12 cY ZdG:=fun T hw=>by
 refine okX T.bY.f qZ 69;intro X
 let d1:Rdg X U3 [2,0,0]:=⟨_,(@Zg _ _ _ (@Zu _ _ (1) _ _ _ _ qZ.nd rfl (.inl rfl) (@ZI _ _ _ _ _ (@Za _ _ _ _ _ Zl (@Za _ _ _ _ _ (@ZI _ _ _ _ _ (@Za _ _ _ _ _ Zl (@Za _ _ _ _ _ (@ZI _ _ _ _ _ (@Za _ _ _ _ _ (@ZI _ _ _ _ _ (@Za _ _ _ _ _ Zl (@Za _ _ _ _ _ (pv 2) Zb rfl) rfl)) (@Za _ _ _ _ _ (@ZI _ _ _ _ _ (@Za _ _ _ _ _ Zl (@Za _ _ _ _ _ (pv 1) Zb rfl) rfl)) Zb rfl) rfl)) Zb rfl) rfl)) Zb rfl) rfl)) rfl (.inl rfl)))⟩
 let d2:Rdg X U3 [2]:=⟨_,(@Zd _ _ _ _ _ (Xv fP rfl (yQ (K:=K) rfl rfl T.a9 (@Za _ _ _ _ _ (ZW (YB (K:=K) rfl) (pv 0) YH (ZS (UG Vi Zi))) Zb rfl)) (Zz (i:=2) qZ.nd rfl (.inl rfl)) d1.2) (@Zg _ _ _ (@Zm _ _ _ _ (pv 1))))⟩
 let d3:Rdg X U3 [1]:=⟨_,(@Zd _ _ _ _ _ (@Zu _ _ (1) _ _ _ _ qZ.nd rfl (.inl rfl) (@Zq _ _ _ _ _ _ _ 54 (pv 0) (UG Vi Zi) (fun _ _=>rfl)) rfl (.inl rfl)) d2.2)⟩
 intro vs Q h;obtain⟨p,us,cs,n,rfl,hp,aL,h8,hn,k⟩:=h;refine⟨_,(@Zd _ _ _ _ _ (@ZQ _ _ _ _ _ _ _ _ (@Xj _ _ _ _ (WU (K:=K) rfl (pv 0) (fun _=>rfl))) (@Zg _ _ _ (@Zm _ _ _ _ (@ZI _ _ _ _ _ (@Za _ _ _ _ _ Zl (@Za _ _ _ _ _ (Vx (v:=.ref a.Y_YES) rfl ⟨_,T.cu,rfl⟩) Zb rfl) rfl)))) Zx) d3.2),?_⟩;have rb:=aL.1;refine⟨_,rfl,!us.isEmpty,.inl ⟨_,mZ hp,rfl⟩,?_⟩;cases tL:us.isEmpty with
 |true=>
  have e0:us=[]:=mM.mp tL;subst e0;have et:cs=[]:=g6.mp rb.symm;subst et;refine YD ⟨by rw[eJ];simp,fun t ht=>?_⟩;have s4:=Ze (o:=.tup [.str "not",.ref a.Y_YES]) ht;exact k _ _ s4 ((X2 (m6 Zc) 48 (UT (T.y_YES _):At K (0+1) _ _ ZR)).le 21)
 |false=>
  have nM:us≠[]:=fun e=>by rw[e] at tL;cases tL
  obtain⟨ws,u,ds,d,ew,ed,aw,au⟩:=aL.last nM;subst ew ed;have ub:=aw.1;refine Z4 ?_;refine⟨_,rfl,1,rfl,p,_,_,u,rfl,rfl,mZ hp,qV,?_⟩;refine⟨_,rfl,1,rfl,_,rfl,p,_,rfl,mZ hp,fun c hc=>?_⟩;rw[JR _ 47];have ec:(ws++[u]).take ((ws++[u]).length-1)=ws:=by simp
  rw[ec];have s1:=Ze (o:=.lst ws) hc;have e1:(upd H c (.lst ws)) c=some (.lst ws):=Zc;generalize upd H c (.lst ws)=H1 at s1 e1 ⊢;refine⟨c,ws,rfl,mZ e1,?_⟩
  let J1:Nat->L2.St->Hp->Prop:=fun i σ H'=>Ex2 fun(z:Option V) (v:V)=>Cj3 (σ=[qr0 p,some v,z]) (Zf H1 H') (At K (n+3*i) H' v (orT (ds.drop (ws.length-i)++[d])))
  refine XQ (J:=Itv K c ws.length) (n:=ws.length) J1 ?_ ?_ ?_ ?_ ?_
  ·refine⟨_,u,rfl,.refl _,?_⟩;rw[Nat.sub_zero,ub,List.drop_length,ik];exact(au.mono (m5 s1)).le 21
  ·rintro i σ H' hi ⟨z,v,rfl,s',_⟩;exact⟨hi,ws,mZ (s' _ _ e1),rfl⟩
  ·rintro σ H' _;exact eE _
  ·rintro i x σ H2 Ce hi ⟨z,v,rfl,s2,ox⟩ ⟨rfl,hx⟩;have e:=hx ws (mZ (s2 _ _ e1));have hj:ws.length-1-i<ds.length:=by lia
   have Ez:=(aw.2 _ _ _ e (eI hj)).mono (m5 (s1.trans s2));refine⟨_,rfl,by rw[eJ];simp,fun t1 pH=>?_⟩;have s3:=Ze (o:=.tup [.str "not",x]) pH;have e3:(upd Ce t1 (.tup [.str "not",x])) t1=some (.tup [.str "not",x]):=Zc;generalize upd Ce t1 (.tup [.str "not",x])=H3 at s3 e3 ⊢;refine⟨_,rfl,by rw[eJ];simp,fun t2 su=>?_⟩;have s4:=Ze (o:=.tup [.str "not",v]) su;have e4:(upd H3 t2 (.tup [.str "not",v])) t2=some (.tup [.str "not",v]):=Zc;generalize upd H3 t2 (.tup [.str "not",v])=H4 at s4 e4 ⊢;refine⟨by rw[eJ];simp,fun b hb=>?_⟩;have s5:=Ze (o:=.tup [.ref t1,.ref t2]) hb;have e5:(upd H4 b (.tup [.ref t1,.ref t2])) b=some (.tup [.ref t1,.ref t2]):=Zc;generalize upd H4 b (.tup [.ref t1,.ref t2])=H5 at s5 e5 ⊢;refine⟨by rw[eJ];simp,fun t3 r8=>?_⟩;have s6:=Ze (o:=.tup [.str "and",.ref b]) r8;have e6:(upd H5 t3 (.tup [.str "and",.ref b])) t3=some (.tup [.str "and",.ref b]):=Zc;generalize upd H5 t3 (.tup [.str "and",.ref b])=H6 at s6 e6 ⊢;refine⟨by rw[eJ];simp,fun t4 uA=>?_⟩;have s7:=Ze (o:=.tup [.str "not",.ref t3]) uA;have e7:(upd H6 t4 (.tup [.str "not",.ref t3])) t4=some (.tup [.str "not",.ref t3]):=Zc;generalize upd H6 t4 (.tup [.str "not",.ref t3])=H7 at s7 e7 ⊢;have CG:=s5.trans (s6.trans s7);refine⟨_,.ref t4,rfl,s2.trans (s3.trans (s4.trans CG)),?_⟩;have ed:ds.drop (ws.length-(i+1))=ds[ws.length-1-i]::ds.drop (ws.length-i):=by
    have Aa:ws.length-(i+1)=ws.length-1-i:=by lia
    have AS:ws.length-i=ws.length-1-i+1:=by lia
    rw[Aa,AS];exact mN hj
   rw[ed,lv,ZcM 47];have T7:=m5 (s3.trans (s4.trans CG));have wn:("not" : Str)∈W1:=by left
   have q1:At K (n+3*i+1) H7 (.ref t1) (Yh ds[ws.length-1-i]):=X2 (m6 ((s4.trans CG) _ _ e3)) wn ((Ez.le 21).mono T7);have q2:At K (n+3*i+1) H7 (.ref t2) (Yh _):=X2 (m6 (CG _ _ e4)) wn (ox.mono T7);exact X2 (m6 e7) wn (xO (m6 (s7 _ _ e6)) (m6 ((s6.trans s7) _ _ e5)) (AtL.two q1 q2) (.inl rfl) 47)
  rintro σ H2 ⟨z,v,rfl,s2,ox⟩;rw[hJ,List.drop_zero] at ox;simp at h8;exact⟨_,rfl,k _ v (s1.trans s2) (ox.le 21)⟩
def ZbK(K:W.Frag)(a:Adr):Sp:=fun vs H Q _=>Ex4 fun(p:Addr) (us:List V) (cs:67) (n:Nat)=>Cj6 (vs=[.ref p]) (H p=some (.lst us)) (AtL K n H us cs) (cs.length<=8) (1<=n) (∀H' v,Zf H H'->At K (n+8) H' v (Wa cs)->Q v H')
theorem jl{a:Adr}:66 1 a.y11 a.z11 cY ZbK:=fun T hw=>by
 refine okX T.bS.f U8 69;intro X
 let d1:Rdg X VO [2,0,0]:=⟨_,(@Zg _ _ _ (@Zu _ _ (1) _ _ _ _ U8.nd rfl (.inl rfl) (@ZI _ _ _ _ _ (@Za _ _ _ _ _ Zl (@Za _ _ _ _ _ (@ZI _ _ _ _ _ (@Za _ _ _ _ _ (pv 2) (@Za _ _ _ _ _ (pv 1) Zb rfl) rfl)) Zb rfl) rfl)) rfl (.inl rfl)))⟩
 let d2:Rdg X VO [2]:=⟨_,(@Zd _ _ _ _ _ (Xv fP rfl (yQ (K:=K) rfl rfl T.a9 (@Za _ _ _ _ _ (ZW (YB (K:=K) rfl) (pv 0) YH (ZS (UG Vi Zi))) Zb rfl)) (Zz (i:=2) U8.nd rfl (.inl rfl)) d1.2) (@Zg _ _ _ (@Zm _ _ _ _ (pv 1))))⟩
 let d3:Rdg X VO [1]:=⟨_,(@Zd _ _ _ _ _ (@Zu _ _ (1) _ _ _ _ U8.nd rfl (.inl rfl) (@Zq _ _ _ _ _ _ _ 54 (pv 0) (UG Vi Zi) (fun _ _=>rfl)) rfl (.inl rfl)) d2.2)⟩
 intro vs Q h;obtain⟨p,us,cs,n,rfl,hp,aL,h8,hn,k⟩:=h;refine⟨_,(@Zd _ _ _ _ _ (@ZQ _ _ _ _ _ _ _ _ (@Xj _ _ _ _ (WU (K:=K) rfl (pv 0) (fun _=>rfl))) (@Zg _ _ _ (@Zm _ _ _ _ (Vx (v:=.ref a.Y_YES) rfl ⟨_,T.cu,rfl⟩))) Zx) d3.2),?_⟩;have rb:=aL.1;refine⟨_,rfl,!us.isEmpty,.inl ⟨_,mZ hp,rfl⟩,?_⟩;cases tL:us.isEmpty with
 |true=>
  have e0:us=[]:=mM.mp tL;subst e0;have et:cs=[]:=g6.mp rb.symm;subst et;exact YD (k H _ (.refl _) ((UT (T.y_YES H):At K (0+1) H _ ZR).le 21))
 |false=>
  have nM:us≠[]:=fun e=>by rw[e] at tL;cases tL
  obtain⟨ws,u,ds,d,ew,ed,aw,au⟩:=aL.last nM;subst ew ed;have ub:=aw.1;refine Z4 ?_;refine⟨_,rfl,1,rfl,p,_,_,u,rfl,rfl,mZ hp,qV,?_⟩;refine⟨_,rfl,1,rfl,_,rfl,p,_,rfl,mZ hp,fun c hc=>?_⟩;rw[JR _ 47];have ec:(ws++[u]).take ((ws++[u]).length-1)=ws:=by simp
  rw[ec];have s1:=Ze (o:=.lst ws) hc;have e1:(upd H c (.lst ws)) c=some (.lst ws):=Zc;generalize upd H c (.lst ws)=H1 at s1 e1 ⊢;refine⟨c,ws,rfl,mZ e1,?_⟩
  let J1:Nat->L2.St->Hp->Prop:=fun i σ H'=>Ex2 fun(z:Option V) (v:V)=>Cj3 (σ=[qr0 p,some v,z]) (Zf H1 H') (At K (n+i) H' v (Wa (ds.drop (ws.length-i)++[d])))
  refine XQ (J:=Itv K c ws.length) (n:=ws.length) J1 ?_ ?_ ?_ ?_ ?_
  ·refine⟨_,u,rfl,.refl _,?_⟩;rw[Nat.sub_zero,ub,List.drop_length,ik];exact(au.mono (m5 s1)).le 21
  ·rintro i σ H' hi ⟨z,v,rfl,s',_⟩;exact⟨hi,ws,mZ (s' _ _ e1),rfl⟩
  ·rintro σ H' _;exact eE _
  ·rintro i x σ H2 Ce hi ⟨z,v,rfl,s2,ox⟩ ⟨rfl,hx⟩;have e:=hx ws (mZ (s2 _ _ e1));have hj:ws.length-1-i<ds.length:=by lia
   have Ez:=(aw.2 _ _ _ e (eI hj)).mono (m5 (s1.trans s2));refine⟨_,rfl,_,rfl,by rw[eJ];simp,fun b hb=>?_⟩;have s3:=Ze (o:=.tup [x,v]) hb;have e3:(upd Ce b (.tup [x,v])) b=some (.tup [x,v]):=Zc;generalize upd Ce b (.tup [x,v])=H3 at s3 e3 ⊢;refine⟨by rw[eJ];simp,fun t ht=>?_⟩;have s4:=Ze (o:=.tup [.str "and",.ref b]) ht;have e4:(upd H3 t (.tup [.str "and",.ref b])) t=some (.tup [.str "and",.ref b]):=Zc;generalize upd H3 t (.tup [.str "and",.ref b])=H4 at s4 e4 ⊢;refine⟨_,.ref t,rfl,s2.trans (s3.trans s4),?_⟩;have ed:ds.drop (ws.length-(i+1))=ds[ws.length-1-i]::ds.drop (ws.length-i):=by
    have Aa:ws.length-(i+1)=ws.length-1-i:=by lia
    have AS:ws.length-i=ws.length-1-i+1:=by lia
    rw[Aa,AS];exact mN hj
   rw[ed,lv,ZaG 47];have T4:=m5 (s3.trans s4);exact xO (m6 e4) (m6 (s4 _ _ e3)) (AtL.two ((Ez.le (show n<=n+i by lia)).mono T4) (ox.mono T4)) (.inl rfl) 47
  rintro σ H2 ⟨z,v,rfl,s2,ox⟩;rw[hJ,List.drop_zero] at ox;simp at h8;exact⟨_,rfl,k _ v (s1.trans s2) (ox.le 21)⟩
def kG(K:W.Frag)(a:Adr):Sp:=fun vs H Q _=>Ex6 fun(m:Int) (f s:V) (tf ts:Tr) (n:Nat)=>Cj5 (vs=[.int m,f,s]) ((0<=m/\m<=5)) (At K n H f tf) (At K n H s ts) (∀H' v,Zf H H'->At K (n+25) H' v (Z0 m.toNat tf ts)->Q v H')
theorem kC{a:Adr}:66 2 a.y13 a.z13 de kG:=fun T hw=>by
 refine okX T.bE.f WQ 69;intro X
 let d1:Rdg X Ww [1,0,0]:=⟨_,(@Zg _ _ _ (@Zu _ _ (3) _ _ _ _ WQ.nd rfl (.inl rfl) (ZD T.bY (Kn T hw) hr rfl rfl (@Za _ _ _ _ _ (@Yd _ _ _ _ (@Za _ _ _ _ _ (pv 2) (@Za _ _ _ _ _ (ZD T.bS (jl T hw) hr rfl rfl (@Za _ _ _ _ _ (@Yd _ _ _ _ (@Za _ _ _ _ _ (pv 1) (@Za _ _ _ _ _ (@ZI _ _ _ _ _ (@Za _ _ _ _ _ Zl (@Za _ _ _ _ _ (pv 3) Zb rfl) rfl)) Zb rfl) rfl)) Zb rfl)) Zb rfl) rfl)) Zb rfl)) rfl (.inl rfl)))⟩
 let d2:Rdg X Ww [1]:=⟨_,(@Zd _ _ _ _ _ (Xv fP rfl (Xf rfl T.aQ (@Za _ _ _ _ _ (pv 0) Zb rfl)) (Zz (i:=4) WQ.nd rfl (.inl rfl)) d1.2) (@Zg _ _ _ (@Zm _ _ _ _ (pv 3))))⟩
 intro vs Q h;obtain⟨m,f,s,tf,ts,n,rfl,hm,af,as,k⟩:=h;refine⟨_,(@Zd _ _ _ _ _ (@Zu _ _ (3) _ _ _ _ WQ.nd rfl (.inl rfl) (pv 2) rfl (.inl rfl)) d2.2),?_⟩;have hf:=af.hgt_le;have hs:=as.hgt_le;have hn:1<=n:=eW (Zaa ts) hs;refine⟨_,rfl,_,rfl,_,rfl,by lia,by lia,?_⟩
 let J1:Nat->L2.St->Hp->Prop:=fun i σ H'=>Ex2 fun(z:Option V) (v:V)=>Cj3 (σ=[some (.int m),some f,some s,some v,z]) (Zf H H') (At K (n+25) H' v (Z0 i tf ts))
 refine Za2 J1 ?_ ?_ ?_
 ·exact⟨_,s,rfl,.refl _,as.le 21⟩
 ·rintro i σ H1 hi ⟨z,v,rfl,s1,rq⟩;have Ab:i<m.toNat:=hi;have T1:=m5 s1;refine⟨_,rfl,_,rfl,_,rfl,by rw[eJ];simp,fun t ht=>?_⟩;have s2:=Ze (o:=.tup [.str "next",v]) ht;have e2:(upd H1 t (.tup [.str "next",v])) t=some (.tup [.str "next",v]):=Zc;generalize upd H1 t (.tup [.str "next",v])=H2 at s2 e2 ⊢;refine⟨by rw[eJ];simp,fun L hL=>?_⟩;have s3:=Ze (o:=.lst [f,.ref t]) hL;have e3:(upd H2 L (.lst [f,.ref t])) L=some (.lst [f,.ref t]):=Zc;generalize upd H2 L (.lst [f,.ref t])=H3 at s3 e3 ⊢;have Cy:=s1.trans (s2.trans s3);have q1:At K (n+26) H3 (.ref t) (qT (Z0 i tf ts)):=X2 (m6 (s3 _ _ e2)) 48 (rq.mono (m5 (s2.trans s3)));refine⟨L,_,[tf,qT (Z0 i tf ts)],n+26,rfl,e3,AtL.two ((af.le 21).mono (m5 Cy)) q1,by simp,by lia,fun H4 v4 s4 AK=>?_⟩;refine⟨by rw[eJ];simp,fun Cr AQ=>?_⟩;have s5:=Ze (o:=.lst [s,v4]) AQ;have e5:(upd H4 Cr (.lst [s,v4])) Cr=some (.lst [s,v4]):=Zc;generalize upd H4 Cr (.lst [s,v4])=H5 at s5 e5 ⊢;have Hr:=Cy.trans (s4.trans s5);refine⟨Cr,_,[ts,Wa [tf,qT (Z0 i tf ts)]],n+34,rfl,e5,AtL.two ((as.le 21).mono (m5 Hr)) (AK.mono (m5 s5)),by simp,by lia,fun H6 v6 s6 wq=>?_⟩;refine⟨_,v6,rfl,Hr.trans s6,?_⟩;have e6:orT [ts,Wa [tf,qT (Z0 i tf ts)]]=Z0 (i+1) tf ts:=rfl;rw[e6] at wq;refine wq.fit ?_;have:=QO hf hs (i+1);lia
 rintro σ H1 ⟨z,v,rfl,s1,rq⟩;exact⟨_,rfl,k _ v s1 rq⟩
def Jh(K:W.Frag)(a:Adr):Sp:=fun vs H Q _=>Ex8 fun(v:V) (c:Lb) (ks:67) (n:Nat) (p:Addr) (us:List V) (cs:67) (m:Nat)=>Cj7 (vs=[v,.ref p]) (At K n H v (.node c ks)) (H p=some (.lst us)) (AtL K m H us cs) (cs.length=ks.length) (1<=m) (∀H' v',Zf H H'->At K (m+27) H' v' (Yr c cs)->Q v' H')
theorem AtL.first{us:List V}(h:AtL K n H us cs)(hl:1<=cs.length):∃u ur c cr,us=u::ur/\cs=c::cr/\At K n H u c:=by
 have hu:=h.1
 match us,cs,h,hl,hu with
 |u::ur,c::cr,h,_,_=>exact⟨u,ur,c,cr,rfl,rfl,h.2 0 u c rfl rfl⟩
 |[],c::cr,h,_,hu=>simp at hu
theorem AtL.pair{us:List V}(h:AtL K n H us cs)(hl:cs.length=2):∃u v c d,us=[u,v]/\cs=[c,d]/\At K n H u c/\At K n H v d:=by
 have hu:=h.1
 match us,cs,h,hl,hu with
 |[u,v],[c,d],h,_,_=>exact⟨u,v,c,d,rfl,rfl,h.2 0 u c rfl rfl,h.2 1 v d rfl rfl⟩
 |[],[c,d],h,_,hu=>simp at hu
 |[u],[c,d],h,_,hu=>simp at hu
 |u::v::w::r,[c,d],h,_,hu=>simp at hu
theorem kL{a:Adr}:66 3 a.y10 a.z10 cZ Jh:=fun T hw=>by
 refine okX T.bD.f zj 69;intro X
 let d1:Rdg X ZM [4,0,0]:=⟨_,(@Zg _ _ _ (@Zm _ _ _ _ (@ZI _ _ _ _ _ (@Za _ _ _ _ _ Zl (@Za _ _ _ _ _ (@ZI _ _ _ _ _ (@Za _ _ _ _ _ Zl (@Za _ _ _ _ _ (@ZI _ _ _ _ _ (@Za _ _ _ _ _ Zl (@Za _ _ _ _ _ (@Zq _ _ _ _ _ _ _ 54 (pv 1) Zi (fun _ _=>rfl)) Zb rfl) rfl)) Zb rfl) rfl)) Zb rfl) rfl))))⟩
 let d2:Rdg X ZM [5,0,0]:=⟨_,(@Zg _ _ _ (@Zm _ _ _ _ (@ZI _ _ _ _ _ (@ZA _ _ _ _ _ Zl (@ZA _ _ _ _ _ (Vx (v:=.ref a.Y_YES) rfl ⟨_,T.cu,rfl⟩) (@ZA _ _ _ _ _ (@Zq _ _ _ _ _ _ _ 54 (pv 1) Zi (fun _ _=>rfl)) Zb rfl) rfl) rfl))))⟩
 let d3:Rdg X ZM [6,0,0]:=⟨_,(@Zg _ _ _ (@Zm _ _ _ _ (@ZI _ _ _ _ _ (@Za _ _ _ _ _ Zl (@Za _ _ _ _ _ (@ZI _ _ _ _ _ (@ZA _ _ _ _ _ Zl (@ZA _ _ _ _ _ (Vx (v:=.ref a.Y_YES) rfl ⟨_,T.cu,rfl⟩) (@ZA _ _ _ _ _ (@ZI _ _ _ _ _ (@Za _ _ _ _ _ Zl (@Za _ _ _ _ _ (@Zq _ _ _ _ _ _ _ 54 (pv 1) Zi (fun _ _=>rfl)) Zb rfl) rfl)) Zb rfl) rfl) rfl)) Zb rfl) rfl))))⟩
 let d4:Rdg X ZM [7,0,0]:=⟨_,(@Zg _ _ _ (@Zm _ _ _ _ (@ZI _ _ _ _ _ (@ZA _ _ _ _ _ Zl (@ZA _ _ _ _ _ (Vx (v:=.ref a.Y_YES) rfl ⟨_,T.cu,rfl⟩) (@ZA _ _ _ _ _ (@Zq _ _ _ _ _ _ _ 54 (pv 1) Zi (fun _ _=>rfl)) Zb rfl) rfl) rfl))))⟩
 let d5:Rdg X ZM [8,0,0]:=⟨_,(@Zg _ _ _ (@Zm _ _ _ _ (@ZI _ _ _ _ _ (@Za _ _ _ _ _ Zl (@Za _ _ _ _ _ (@ZI _ _ _ _ _ (@ZA _ _ _ _ _ Zl (@ZA _ _ _ _ _ (Vx (v:=.ref a.Y_YES) rfl ⟨_,T.cu,rfl⟩) (@ZA _ _ _ _ _ (@ZI _ _ _ _ _ (@Za _ _ _ _ _ Zl (@Za _ _ _ _ _ (@Zq _ _ _ _ _ _ _ 54 (pv 1) Zi (fun _ _=>rfl)) Zb rfl) rfl)) Zb rfl) rfl) rfl)) Zb rfl) rfl))))⟩
 let d6:Rdg X ZM [9,0,0]:=⟨_,(@Zg _ _ _ (@Zm _ _ _ _ (ZD T.bE (kC T hw) hr rfl rfl (@ZA _ _ _ _ _ (@Zq _ _ _ _ _ _ _ (ZU (K:=K) rfl) (pv 0) Zi (fun _ _=>rfl)) (@ZA _ _ _ _ _ (@Zq _ _ _ _ _ _ _ 54 (pv 1) Zi (fun _ _=>rfl)) (@ZA _ _ _ _ _ (@Zq _ _ _ _ _ _ _ 54 (pv 1) Zi (fun _ _=>rfl)) Zb rfl) rfl) rfl))))⟩
 let d7:Rdg X ZM [10]:=⟨_,(@Zg _ _ _ (@Zm _ _ _ _ (@ZO _ _ _ _ _ _ _ _ (yY (K:=K) rfl) (@ZI _ _ _ _ _ (@Za _ _ _ _ _ (pv 2) Zb rfl)) (Z2 (Yj (K:=K) rfl) rfl T.aH m9 (@Za _ _ _ _ _ (pv 1) Zb rfl)))))⟩
 let d8:Rdg X ZM [9]:=⟨_,(@Zd _ _ _ _ _ (@ZQ _ _ _ _ _ _ _ _ (@Zt _ _ _ _ _ _ _ _ YA (pv 2) Zl (ZB _)) d6.2 Zx) d7.2)⟩
 let d9:Rdg X ZM [8]:=⟨_,(@Zd _ _ _ _ _ (@ZQ _ _ _ _ _ _ _ _ (@Zt _ _ _ _ _ _ _ _ YA (pv 2) Zl (ZB _)) d5.2 Zx) d8.2)⟩
 let CC:Rdg X ZM [7]:=⟨_,(@Zd _ _ _ _ _ (@ZQ _ _ _ _ _ _ _ _ (@Zt _ _ _ _ _ _ _ _ YA (pv 2) Zl (ZB _)) d4.2 Zx) d9.2)⟩
 let Cn:Rdg X ZM [6]:=⟨_,(@Zd _ _ _ _ _ (@ZQ _ _ _ _ _ _ _ _ (@Zt _ _ _ _ _ _ _ _ YA (pv 2) Zl (ZB _)) d3.2 Zx) CC.2)⟩
 let CF:Rdg X ZM [5]:=⟨_,(@Zd _ _ _ _ _ (@ZQ _ _ _ _ _ _ _ _ (@Zt _ _ _ _ _ _ _ _ YA (pv 2) Zl (ZB _)) d2.2 Zx) Cn.2)⟩
 let C8:Rdg X ZM [4]:=⟨_,(@Zd _ _ _ _ _ (@ZQ _ _ _ _ _ _ _ _ (@Zt _ _ _ _ _ _ _ _ YA (pv 2) Zl (ZB _)) d1.2 Zx) CF.2)⟩
 let CD:Rdg X ZM [3]:=⟨_,(@Zd _ _ _ _ _ (@ZQ _ _ _ _ _ _ _ _ (@Zt _ _ _ _ _ _ _ _ YA (pv 2) Zl (ZB _)) (@Zg _ _ _ (@Zm _ _ _ _ (ZD T.bY (Kn T hw) hr rfl rfl (@Za _ _ _ _ _ (pv 1) Zb rfl)))) Zx) C8.2)⟩
 let Df:Rdg X ZM [2]:=⟨_,(@Zd _ _ _ _ _ (@ZQ _ _ _ _ _ _ _ _ (@Zt _ _ _ _ _ _ _ _ YA (pv 2) Zl (ZB _)) (@Zg _ _ _ (@Zm _ _ _ _ (ZD T.bS (jl T hw) hr rfl rfl (@Za _ _ _ _ _ (pv 1) Zb rfl)))) Zx) CD.2)⟩
 let CL:Rdg X ZM [1]:=⟨_,(@Zd _ _ _ _ _ (@ZQ _ _ _ _ _ _ _ _ (@Zt _ _ _ _ _ _ _ _ (WZ (K:=K) rfl) (pv 2) (@ZI _ _ _ _ _ (@Za _ _ _ _ _ Zl (@Za _ _ _ _ _ Zl Zb rfl) rfl)) (by with_unfolding_all rfl)) (@Zg _ _ _ (@Zm _ _ _ _ (pv 0))) Zx) Df.2)⟩
 intro vs Q h;obtain⟨v,c,ks,n,p,us,cs,m,rfl,om,hp,aL,pA,hm,k⟩:=h;refine⟨_,(@Zd _ _ _ _ _ (@Zu _ _ (2) _ _ _ _ zj.nd rfl (.inl rfl) (@Zq _ _ _ _ _ _ _ (ZU (K:=K) rfl) (pv 0) Zi (fun _ _=>rfl)) rfl (.inl rfl)) CL.2),?_⟩;cases n with
 |zero=>exact om.elim
 |succ n=>
  obtain⟨ad,us0,rfl,sh,ok,hl0,Tv⟩:=om;have rb:=aL.1;obtain⟨xs,e⟩:=sh.tup;refine⟨_,rfl,ad,_,_,_,rfl,rfl,e,72,?_⟩;refine⟨_,rfl,by rw[eJ];simp,fun q hq=>⟨q,_,rfl,.inr (m6 Zc),rfl,rfl,_,rfl,?_⟩⟩;have s1:=Ze (o:=.tup [.str "yes",.str "sign"]) hq;generalize upd H q (.tup [.str "yes",.str "sign"])=H1 at s1 ⊢;have uO:=sh.mono (m5 s1);have Ay:=aL.mono (m5 s1);have pX:=s1 _ _ hp;have wn:("not" : Str)∈W1:=by left
  clear e xs sh Tv
  revert uO ok
  cases c with
  |yes=>
   intro ok sh;exact qr (ss:=["yes","sign"]) (show("yes" : Str)∈(["yes","sign"]:50) by left) ⟨_,rfl,k _ _ s1 ((UT sh.2:At K (0+1) H1 _ ZR).le 21)⟩
  |sign z=>
   intro ok sh;exact qr (ss:=["yes","sign"]) (show("sign" : Str)∈(["yes","sign"]:50) by left) ⟨_,rfl,k _ _ s1 ((Zaj sh.2 ok.2:At K (0+1) H1 _ (.node (.sign z) [])).le 21)⟩
  |many w=>
   intro ok sh;have og:w∈(["and","or"]:50):=by rcases ok.1 with rfl|rfl<;>simp
   have IE:cs.length<=8:=by rw[pA];exact ok.2
   refine Xo (ss:=["yes","sign"]) (Vl w og).2.2.2.1 ?_;rcases ok.1 with rfl|rfl
   ·refine⟨_,rfl,rfl,_,rfl,XH rfl ?_⟩;exact⟨_,rfl,p,us,cs,m,rfl,pX,Ay,IE,hm,fun H2 v2 s2 ox=>k _ _ (s1.trans s2) (ox.le 21)⟩
   ·refine⟨_,rfl,rfl,_,rfl,Z7 (fun z=>(by left:¬(("or" : Str) = "and")) 77) ?_⟩;refine⟨_,rfl,rfl,_,rfl,XH rfl ?_⟩;exact⟨_,rfl,p,us,cs,m,rfl,pX,Ay,IE,hm,fun H2 v2 s2 ox=>k _ _ (s1.trans s2) (ox.le 21)⟩
  |wit j=>
   intro ok sh;refine Xo (ss:=["yes","sign"]) (show("within" : Str)∉(["yes","sign"]:50) by left) ?_;refine⟨_,rfl,rfl,_,rfl,Z7 (fun z=>(by left:¬(("within" : Str) = "and")) 77) ?_⟩;refine⟨_,rfl,rfl,_,rfl,Z7 (fun z=>(by left:¬(("within" : Str) = "or")) 77) ?_⟩;refine⟨_,rfl,rfl,_,rfl,Z7 (fun z=>(by left:¬(("within" : Str) = "all")) 77) ?_⟩;refine⟨_,rfl,rfl,_,rfl,Z7 (fun z=>(by left:¬(("within" : Str) = "ever")) 77) ?_⟩;refine⟨_,rfl,rfl,_,rfl,Z7 (fun z=>(by left:¬(("within" : Str) = "always")) 77) ?_⟩;refine⟨_,rfl,rfl,_,rfl,Z7 (fun z=>(by left:¬(("within" : Str) = "once")) 77) ?_⟩;refine⟨_,rfl,rfl,_,rfl,Z7 (fun z=>(by left:¬(("within" : Str) = "sofar")) 77) ?_⟩;refine⟨_,rfl,rfl,_,rfl,XH rfl ?_⟩;obtain⟨u0,u1,c0,c1,rfl,rfl,a0,a1⟩:=AtL.pair Ay (by rw[pA];exact ok.2);exact⟨_,rfl,ad,_,_,_,rfl,rfl,sh,Zj (j:=1) rfl,_,rfl,p,_,_,u0,rfl,rfl,mZ pX,72,_,rfl,p,_,_,u1,rfl,rfl,mZ pX,Zj (j:=1) rfl,j,u0,u1,c0,c1,m,rfl,ok.1,a0,a1,fun H2 v2 s2 ox=>k _ _ (s1.trans s2) (ox.le 21)⟩
  |op w=>
   intro ok sh;obtain⟨h1,h2,h3,h4,h5⟩:=yX w (by rcases ok with ok|ok;exact fT _ ok.1;exact fC _ ok.1);have nv:1<=cs.length:=by
    rw[pA];rcases ok with o|o
    ·have h0:ks.length=1:=o.2;lia
    ·have h0:ks.length=2:=o.2;lia
   have AI:cs.length<=2:=by
    rw[pA];rcases ok with o|o
    ·have h0:ks.length=1:=o.2;lia
    ·have h0:ks.length=2:=o.2;lia
   obtain⟨u0,ur,c0,cr,rfl,rfl,a0⟩:=AtL.first Ay nv;refine Xo (ss:=["yes","sign"]) h5 ?_;refine⟨_,rfl,rfl,_,rfl,Z7 (fun z=>h3 (by have ez:w = "and" := V.str.inj z;rw[ez];simp)) ?_⟩;refine⟨_,rfl,rfl,_,rfl,Z7 (fun z=>h3 (by have ez:w = "or" := V.str.inj z;rw[ez];simp)) ?_⟩
   by_cases n1:w = "all"
   ·subst n1;refine⟨_,rfl,rfl,_,rfl,XH rfl ?_⟩;refine⟨_,rfl,p,_,_,u0,rfl,rfl,mZ pX,72,by rw[eJ];simp,fun t1 pH=>?_⟩;have s2:=Ze (o:=.tup [.str "not",u0]) pH;have e2:(upd H1 t1 (.tup [.str "not",u0])) t1=some (.tup [.str "not",u0]):=Zc;generalize upd H1 t1 (.tup [.str "not",u0])=H2 at s2 e2 ⊢;refine⟨by rw[eJ];simp,fun t2 su=>?_⟩;have s3:=Ze (o:=.tup [.str "some",.ref t1]) su;have e3:(upd H2 t2 (.tup [.str "some",.ref t1])) t2=some (.tup [.str "some",.ref t1]):=Zc;generalize upd H2 t2 (.tup [.str "some",.ref t1])=H3 at s3 e3 ⊢;refine⟨by rw[eJ];simp,fun t3 r8=>?_⟩;have s4:=Ze (o:=.tup [.str "not",.ref t2]) r8;have e4:(upd H3 t3 (.tup [.str "not",.ref t2])) t3=some (.tup [.str "not",.ref t2]):=Zc;generalize upd H3 t3 (.tup [.str "not",.ref t2])=H4 at s4 e4 ⊢;have q1:At K (m+1) H4 (.ref t1) (Yh c0):=X2 (m6 ((s3.trans s4) _ _ e2)) wn (a0.mono (m5 (s2.trans (s3.trans s4))));have q2:At K (m+2) H4 (.ref t2) (ZaB (Yh c0)):=X2 (m6 (s4 _ _ e3)) 48 q1;exact k _ _ (s1.trans (s2.trans (s3.trans s4))) ((X2 (m6 e4) wn q2:At K (m+3) H4 _ (Yh (ZaB (Yh c0)))).le 21)
   refine⟨_,rfl,rfl,_,rfl,Z7 (fun z=>n1 77) ?_⟩
   by_cases n2:w = "ever"
   ·subst n2;refine⟨_,rfl,rfl,_,rfl,XH rfl ?_⟩;refine⟨_,rfl,p,_,_,u0,rfl,rfl,mZ pX,72,by rw[eJ];simp,fun t1 pH=>?_⟩;have s2:=Ze (o:=.tup [.str "until",.ref a.Y_YES,u0]) pH;have e2:(upd H1 t1 (.tup [.str "until",.ref a.Y_YES,u0])) t1=some (.tup [.str "until",.ref a.Y_YES,u0]):=Zc;generalize upd H1 t1 (.tup [.str "until",.ref a.Y_YES,u0])=H2 at s2 e2 ⊢;exact k _ _ (s1.trans s2) ((yd (m6 e2) 48 ((UT (T.y_YES _):At K (0+1) H2 _ ZR).le (show 1<=m from hm)) (a0.mono (m5 s2)):At K (m+1) H2 _ (.node (.op "until") [ZR,c0])).le 21)
   refine⟨_,rfl,rfl,_,rfl,Z7 (fun z=>n2 77) ?_⟩
   by_cases n3:w = "always"
   ·subst n3;refine⟨_,rfl,rfl,_,rfl,XH rfl ?_⟩;refine⟨_,rfl,p,_,_,u0,rfl,rfl,mZ pX,72,by rw[eJ];simp,fun t1 pH=>?_⟩;have s2:=Ze (o:=.tup [.str "not",u0]) pH;have e2:(upd H1 t1 (.tup [.str "not",u0])) t1=some (.tup [.str "not",u0]):=Zc;generalize upd H1 t1 (.tup [.str "not",u0])=H2 at s2 e2 ⊢;refine⟨by rw[eJ];simp,fun t2 su=>?_⟩;have s3:=Ze (o:=.tup [.str "until",.ref a.Y_YES,.ref t1]) su;have e3:(upd H2 t2 (.tup [.str "until",.ref a.Y_YES,.ref t1])) t2=some (.tup [.str "until",.ref a.Y_YES,.ref t1]):=Zc;generalize upd H2 t2 (.tup [.str "until",.ref a.Y_YES,.ref t1])=H3 at s3 e3 ⊢;refine⟨by rw[eJ];simp,fun t3 r8=>?_⟩;have s4:=Ze (o:=.tup [.str "not",.ref t2]) r8;have e4:(upd H3 t3 (.tup [.str "not",.ref t2])) t3=some (.tup [.str "not",.ref t2]):=Zc;generalize upd H3 t3 (.tup [.str "not",.ref t2])=H4 at s4 e4 ⊢;have q1:At K (m+1) H4 (.ref t1) (Yh c0):=X2 (m6 ((s3.trans s4) _ _ e2)) wn (a0.mono (m5 (s2.trans (s3.trans s4))));have q2:At K (m+2) H4 (.ref t2) (.node (.op "until") [ZR,Yh c0]):=yd (m6 (s4 _ _ e3)) 48 ((UT (T.y_YES _):At K (0+1) H4 _ ZR).le 21) q1;exact k _ _ (s1.trans (s2.trans (s3.trans s4))) ((X2 (m6 e4) wn q2:At K (m+3) H4 _ (Yh (.node (.op "until") [ZR,Yh c0]))).le 21)
   refine⟨_,rfl,rfl,_,rfl,Z7 (fun z=>n3 77) ?_⟩
   by_cases n4:w = "once"
   ·subst n4;refine⟨_,rfl,rfl,_,rfl,XH rfl ?_⟩;refine⟨_,rfl,p,_,_,u0,rfl,rfl,mZ pX,72,by rw[eJ];simp,fun t1 pH=>?_⟩;have s2:=Ze (o:=.tup [.str "since",.ref a.Y_YES,u0]) pH;have e2:(upd H1 t1 (.tup [.str "since",.ref a.Y_YES,u0])) t1=some (.tup [.str "since",.ref a.Y_YES,u0]):=Zc;generalize upd H1 t1 (.tup [.str "since",.ref a.Y_YES,u0])=H2 at s2 e2 ⊢;exact k _ _ (s1.trans s2) ((yd (m6 e2) 48 ((UT (T.y_YES _):At K (0+1) H2 _ ZR).le (show 1<=m from hm)) (a0.mono (m5 s2)):At K (m+1) H2 _ (.node (.op "since") [ZR,c0])).le 21)
   refine⟨_,rfl,rfl,_,rfl,Z7 (fun z=>n4 77) ?_⟩
   by_cases n5:w = "sofar"
   ·subst n5;refine⟨_,rfl,rfl,_,rfl,XH rfl ?_⟩;refine⟨_,rfl,p,_,_,u0,rfl,rfl,mZ pX,72,by rw[eJ];simp,fun t1 pH=>?_⟩;have s2:=Ze (o:=.tup [.str "not",u0]) pH;have e2:(upd H1 t1 (.tup [.str "not",u0])) t1=some (.tup [.str "not",u0]):=Zc;generalize upd H1 t1 (.tup [.str "not",u0])=H2 at s2 e2 ⊢;refine⟨by rw[eJ];simp,fun t2 su=>?_⟩;have s3:=Ze (o:=.tup [.str "since",.ref a.Y_YES,.ref t1]) su;have e3:(upd H2 t2 (.tup [.str "since",.ref a.Y_YES,.ref t1])) t2=some (.tup [.str "since",.ref a.Y_YES,.ref t1]):=Zc;generalize upd H2 t2 (.tup [.str "since",.ref a.Y_YES,.ref t1])=H3 at s3 e3 ⊢;refine⟨by rw[eJ];simp,fun t3 r8=>?_⟩;have s4:=Ze (o:=.tup [.str "not",.ref t2]) r8;have e4:(upd H3 t3 (.tup [.str "not",.ref t2])) t3=some (.tup [.str "not",.ref t2]):=Zc;generalize upd H3 t3 (.tup [.str "not",.ref t2])=H4 at s4 e4 ⊢;have q1:At K (m+1) H4 (.ref t1) (Yh c0):=X2 (m6 ((s3.trans s4) _ _ e2)) wn (a0.mono (m5 (s2.trans (s3.trans s4))));have q2:At K (m+2) H4 (.ref t2) (.node (.op "since") [ZR,Yh c0]):=yd (m6 (s4 _ _ e3)) 48 ((UT (T.y_YES _):At K (0+1) H4 _ ZR).le 21) q1;exact k _ _ (s1.trans (s2.trans (s3.trans s4))) ((X2 (m6 e4) wn q2:At K (m+3) H4 _ (Yh (.node (.op "since") [ZR,Yh c0]))).le 21)
   refine⟨_,rfl,rfl,_,rfl,Z7 (fun z=>n5 77) ?_⟩;refine⟨_,rfl,rfl,_,rfl,Z7 (fun z=>h4 77) ?_⟩;have hW:ZP (Tr.node (.op w) ks).lb=w:=rfl;rw[hW];refine⟨_,rfl,by rw[eJ];simp,fun t1 pH=>?_⟩;have s2:=Ze (o:=.tup [.str w]) pH;have e2:(upd H1 t1 (.tup [.str w])) t1=some (.tup [.str w]):=Zc;generalize upd H1 t1 (.tup [.str w])=H2 at s2 e2 ⊢;refine⟨_,rfl,p,_,rfl,.inl ⟨mZ (s2 _ _ pX),fun b hb=>?_⟩⟩;have s3:=Ze (o:=.tup (u0::ur)) hb;have e3:(upd H2 b (.tup (u0::ur))) b=some (.tup (u0::ur)):=Zc;generalize upd H2 b (.tup (u0::ur))=H3 at s3 e3 ⊢;refine⟨t1,b,_,_,rfl,rfl,m6 (s3 _ _ e2),m6 e3,by simp,by rw[eJ];simp at rb AI ⊢; lia,(fun z=>by cases z),fun _ r hr=>?_⟩;have s4:=Ze (o:=.tup ([.str w]++(u0::ur))) hr;have PD:=Ay.mono (m5 (s2.trans (s3.trans s4)));have ef:Yr (.op w) (c0::cr)=.node (.op w) (c0::cr):=by
    unfold Yr;dsimp only;rw[nn n1,nn n2,nn n3,nn n4,nn n5]
   refine k _ _ (s1.trans (s2.trans (s3.trans s4))) ?_;rw[ef];refine At.le (n:=m+1) ⟨r,u0::ur,rfl,m6 Zc,?_,rb,PD.2⟩ 21
   show YO (.op w) (c0::cr).length
   rw[pA];exact ok
def kq(K:W.Frag)(a:Adr):Sp:=fun vs H Q _=>Ex5 fun(l:Addr) (n p:Nat) (L:List Bool) (f:Nat->Bool)=>Cj6 (vs=[.ref l,.int (n:Nat),.int (p:Nat)]) (H l=some (.lst (L.map V.bl))) (ZK p L f) (L.length<=100000) (n<=100000) (∀H' q L',Zf H H'->H q=none->H' q=some (.lst (L'.map V.bl))->ZK p L' f->L'.length=max L.length n->Q (.ref q) H')
theorem WP{a:Adr}:66 1 a.y28 a.z28 df kq:=fun T hw=>by
 refine okX T.aO.f qU 69;intro X
 let d1:Rdg X Wy [1,0,0]:=⟨_,(@Zg _ _ _ (@YG _ _ _ _ (Wc fR ge gf Z9 (pv 3) (@Za _ _ _ _ _ (@Zq _ _ _ _ _ _ _ 54 (pv 3) (UG Vi (pv 2)) (fun _ _=>rfl)) Zb rfl)) rfl))⟩
 let d2:Rdg X Wy [1]:=⟨_,(@Zd _ _ _ _ _ (zk fP (@Zt _ _ _ _ _ _ _ _ xJ (Zn (Zw (K:=K) rfl) rfl T.az ng (@Za _ _ _ _ _ (pv 3) Zb rfl)) (pv 1) (ZB _)) d1.2) (@Zg _ _ _ (@Zm _ _ _ _ (pv 3))))⟩
 intro vs Q h;obtain⟨l,n,p,L,f,rfl,hl,tl,ll,ln,k⟩:=h;refine⟨_,(@Zd _ _ _ _ _ (@Zu _ _ (3) _ _ _ _ qU.nd rfl (.inl rfl) (Z2 (qP (K:=K) rfl rfl) rfl T.bM m8 (@Za _ _ _ _ _ (pv 0) Zb rfl)) rfl (.inl rfl)) d2.2),?_⟩;refine⟨_,rfl,.inl ⟨l,_,rfl,.inl (mZ hl),fun q hq=>?_⟩⟩;obtain⟨H1,qN,s1,e1⟩:=Yl (o:=.lst (L.map V.bl)) hq;rw[qN];refine⟨fun m σ G=>∃L':List Bool,σ=[qr0 l,some (.int (n:Nat)),some (.int (p:Nat)),qr0 q]/\Zf H G/\G q=some (.lst (L'.map V.bl))/\ZK p L' f/\L.length<=L'.length/\L'.length<=max L.length n/\m=n-L'.length,⟨n-L.length,L,rfl,s1,e1,tl,eE _,by lia,rfl⟩,?_⟩;rintro m σ G ⟨L',rfl,sG,gq,pM,l1,l2,rfl⟩;have p1:=pM.p1;have pl:=pM.le;refine⟨_,rfl,.inl ⟨q,_,rfl,.inl (mZ gq),_,rfl,_,_,rfl,rfl,_,rfl,Vo (fun c=>?_) (fun c=>?_)⟩⟩
 ·have c1:L'.length<n:=by have:=fA c;rw[eG] at this;lia
  refine⟨fun σ G=>∃uk:List Bool,σ=[qr0 l,some (.int (n:Nat)),some (.int (p:Nat)),qr0 q]/\Zf H G/\G q=some (.lst (uk.map V.bl))/\ZK p uk f/\uk.length=L'.length+1,?_,?_⟩
  ·rintro σ' G' ⟨uk,rfl,a1,a2,a3,a4⟩;exact⟨n-uk.length,by lia,uk,rfl,a1,a2,a3,by lia,by lia,rfl⟩
  have ea:atI (L'.map V.bl) (-(p:Int))=some (.bl (L'[L'.length-p]' 21)):=by
   rw[k5 p1 (by rw[eG];exact pl),gB];simp only[eG]
  refine⟨_,rfl,.inl ⟨rfl,_,mZ gq⟩,_,rfl,_,rfl,_,rfl,q,_,_,_,rfl,rfl,mZ gq,ea,q,_,_,rfl,rfl,gq,by rw[eG,eJ];lia,?_⟩;refine⟨L'++[L'[L'.length-p]' 21],rfl,(Zr.upd (Zf.x sG)).same hq,by rw[Zc,fo];rfl,pM.grow (eI _),by rw[eK];rfl⟩
 ·have c1:¬L'.length<n:=fun z=>c (fQ (by rw[eG];lia));exact⟨_,rfl,k _ q L' sG hq gq pM 21⟩
def BP(H:Hp)(z:List (V×(Bool×Bool))):Prop:=∀x∈z,∃q,x.1=.ref q/\H q=some (.tup [.bl x.2.1,.bl x.2.2])
def za(K:W.Frag)(a:Adr):Sp:=fun vs H Q _=>Ex9 fun(ls l1 l2:Addr) (p m:Nat) (L M:List Bool) (f g:Nat->Bool)=>Zhh (vs=[.ref ls,.int (p:Nat),.int (m:Nat)]) (H ls=some (.lst [.ref l1,.ref l2])) (H l1=some (.lst (L.map V.bl))) (H l2=some (.lst (M.map V.bl))) (ZK p L f) (ZK p M g) (L.length<=50000) (M.length<=50000) (m<=50000) (∀H' q (z:List (V×(Bool×Bool))) (L' M':List Bool),Zf H H'->H q=none->H' q=some (.lst (z.map ε))->BP H' z->z.map η=L'.zip M'->ZK p L' f->ZK p M' g->L'.length=max L.length M.length+m->M'.length=max L.length M.length+m->Q (.ref q) H')
theorem X4{a:Adr}:66 2 a.y29 a.z29 dg za:=fun T hw=>by
 refine okX T.aq.f Vz 69;intro X
 let d1:Rdg X XF [1]:=⟨_,(@Zg _ _ _ (@Zm _ _ _ _ (QM (K:=K) rfl rfl rfl T.bM rfl T.cO (@Za _ _ _ _ _ (ZD T.aO (WP T hw) hr rfl rfl (@ZA _ _ _ _ _ (@Zq _ _ _ _ _ _ _ 54 (pv 0) Zi (fun _ _=>rfl)) (@ZA _ _ _ _ _ (pv 3) (@ZA _ _ _ _ _ (pv 1) Zb rfl) rfl) rfl)) (@Za _ _ _ _ _ (ZD T.aO (WP T hw) hr rfl rfl (@ZA _ _ _ _ _ (@Zq _ _ _ _ _ _ _ 54 (pv 0) Zi (fun _ _=>rfl)) (@ZA _ _ _ _ _ (pv 3) (@ZA _ _ _ _ _ (pv 1) Zb rfl) rfl) rfl)) Zb rfl) rfl))))⟩
 intro vs Q h;obtain⟨ls,l1,l2,p,m,L,M,f,g,rfl,hs,h1,h2,tl,tm,b1,b2,b3,k⟩:=h;refine⟨_,(@Zd _ _ _ _ _ (@Zu _ _ (3) _ _ _ _ Vz.nd rfl (.inl rfl) (@ZO _ _ _ _ _ _ _ _ YY (Zn (jQ rfl) rfl T.cJ PyProof.Rows.Boot.«max» (@Za _ _ _ _ _ (Zn (Zw (K:=K) rfl) rfl T.az ng (@Za _ _ _ _ _ (@Zq _ _ _ _ _ _ _ 54 (pv 0) Zi (fun _ _=>rfl)) Zb rfl)) (@Za _ _ _ _ _ (Zn (Zw (K:=K) rfl) rfl T.az ng (@Za _ _ _ _ _ (@Zq _ _ _ _ _ _ _ 54 (pv 0) Zi (fun _ _=>rfl)) Zb rfl)) Zb rfl) rfl)) (pv 2)) rfl (.inl rfl)) d1.2),?_⟩;refine⟨_,rfl,ls,_,_,_,rfl,rfl,mZ hs,72,.inl ⟨l1,_,rfl,.inl (mZ h1),_,rfl,ls,_,_,_,rfl,rfl,mZ hs,Zj (j:=1) rfl,.inl ⟨l2,_,rfl,.inl (mZ h2),_,_,rfl,?_⟩⟩⟩;rw[eG,eG];have em:(if((M.length:Nat):Int)>((L.length:Nat):Int) then((M.length:Nat):Int) else((L.length:Nat):Int))=((max L.length M.length:Nat):Int):=by split<;>lia
 rw[em];have O2:((max L.length M.length:Nat):Int)+(m:Nat)=((max L.length M.length+m:Nat):Int):=by lia
 refine⟨_,rfl,_,_,rfl,rfl,?_⟩;rw[O2];refine⟨_,rfl,ls,_,_,_,rfl,rfl,mZ hs,72,_,rfl,_,rfl,l1,max L.length M.length+m,p,L,f,rfl,h1,tl,by lia,by lia,fun H1 q1 L' s1 EH e1 pM S5=>?_⟩;refine⟨_,rfl,ls,_,_,_,rfl,rfl,mZ (s1 _ _ hs),Zj (j:=1) rfl,_,rfl,_,rfl,l2,max L.length M.length+m,p,M,g,rfl,s1 _ _ h2,tm,by lia,by lia,fun H2 q2 M' s2 q20 e2 uo lm'=>?_⟩;refine⟨q1,q2,_,_,rfl,mZ (s2 _ _ e1),mZ e2,by rw[eG,eG];lia,fun H3 q3 zs s3 Oj e3 ez hz=>?_⟩;have lz:(L'.zip M').length=zs.length:=by
  have:=fb μ ez;rw[eG,iH,eG,eG] at this;rw[iH];lia
 have SL:zs.map η=(L'.zip M').map fun x=>(V.bl x.1,V.bl x.2):=by
  rw[ez,List.zip_map];rfl
 refine k H3 q3 ((zs.map ε).zip (L'.zip M')) L' M' (s1.trans (s2.trans s3)) ((s1.trans s2).free Oj) (by rw[e3,List.map_fst_zip (by rw[eG];lia)]) (fun x hx=>?_) (by rw[List.map_snd_zip (by rw[eG];lia)]) pM uo 21 21;obtain⟨j,hj,ej⟩:=fO hx;rw[iH,eG] at hj;rw[l3,gB] at ej;have Hi:j<zs.length:=by lia
 obtain⟨q,eq,gq⟩:=hz _ (fv Hi);have e1:zs[j].1=x.1:=fb ε ej;have e2:(L'.zip M')[j]' 21=x.2:=fb η ej;have e4:zs[j].2=(V.bl x.2.1,V.bl x.2.2):=by
  have:(zs.map η)[j]?=((L'.zip M').map fun x=>(V.bl x.1,V.bl x.2))[j]?:=by rw[SL]
  rw[eO,eO,eI Hi,eI (show j<(L'.zip M').length by lia),e2] at this;exact fc this
 refine⟨q,by rw[<- e1];exact eq,?_⟩;rw[e4] at gq;exact gq
theorem KM{z:List (V×(Bool×Bool))}{M:List Bool}{g:Nat->Bool}{p m:Nat}(ez:z.map η=L.zip M)(tl:ZK p L f)(tm:ZK p M g)(hl:L.length=m)(hm:M.length=m):z.length=m/\∀j,(h:j<z.length)->z[j].2=(f j,g j):=by
 have lz:z.length=m:=by
  have:=fb μ ez;rw[eG,iH] at this;lia
 refine⟨lz,fun j h=>?_⟩;have:(z.map η)[j]?=(L.zip M)[j]?:=by rw[ez]
 rw[eO,eI h,(ω (z:=(f j,g j))).mpr ⟨tl.get 21,tm.get 21⟩] at this;exact fc this
theorem ZK.rng{p m:Nat}(p1:1<=p)(le:p<=m)(more:∀k,m<=k->f k=f (k-p)):ZK p ((γ m).map f) f:=
 .of p1 (by rw[eG,fI]) le (fun k h=>by rw[eO,l6 h];rfl) more
theorem xM(f:Nat->α)(n:Nat):(γ (n+1)).map f=(γ n).map f++[f n]:=by rw[List.range_succ,fo];rfl
def yt(K:W.Frag)(a:Adr):Sp:=fun vs H Q _=>Ex8 fun(ls l1 l2:Addr) (p:Nat) (L M:List Bool) (f g:Nat->Bool)=>Cj9 (vs=[.ref ls,.int (p:Nat)]) (H ls=some (.lst [.ref l1,.ref l2])) (H l1=some (.lst (L.map V.bl))) (H l2=some (.lst (M.map V.bl))) (ZK p L f) (ZK p M g) (L.length<=50000) (M.length<=50000) (∀H' q (L':List Bool),Zf H H'->H' q=some (.lst (L'.map V.bl))->ZK p L' (fun k=>f k&&g k)->L'.length<=max L.length M.length->Q (.ref q) H')
theorem Kl{a:Adr}:66 3 a.y31 a.z31 cS yt:=fun T hw=>by
 refine okF T.bz.f JT 73;obtain⟨ls,l1,l2,p,L,M,f,g,rfl,hs,h1,h2,tl,tm,b1,b2,k⟩:=h;refine⟨_,(@Zg _ _ _ (@Zm _ _ _ _ (YC (Nc:=c9) (ix:=[none,none]) (ZX.of (by left:Yc (Zh Uk) ["lines","size"] _ _ _=true)) rfl (Yn (K:=K) rfl (ZD T.aq (X4 T hw) hr rfl rfl (@ZA _ _ _ _ _ (pv 0) (@ZA _ _ _ _ _ (pv 1) (@ZA _ _ _ _ _ Zi Zb rfl) rfl) rfl))) (fun _ _ _ _ _=>(U6 (K:=K) (n:=2) rfl rfl (Xe (Zz (i:=0) (show δ c9 by left) rfl (.inl rfl)) (Xe (Zz (i:=1) (show δ c9 by left) rfl (.inl rfl)) qa)))) (fun _ _ _ _ _=>YV) (fun _ _ _ _ _=>(Y9 (pv 0) (YN (pv 1))))))),?_⟩;refine⟨_,rfl,_,rfl,ls,l1,l2,p,0,L,M,f,g,rfl,hs,h1,h2,tl,tm,b1,b2,by left,fun H1 P z L' M' s1 P0 e1 bp ez pM uo ll lm=>⟨P,rfl,⟨_,mZ e1⟩,fun D hD=>?_⟩⟩;rw[Nat.add_zero] at ll lm;obtain⟨lz,hz⟩:=KM ez pM uo ll lm;have le:=pM.le
 let J1:Nat->L2.St->Hp->Prop:=fun i σ G=>Ex2 fun(y1 y2:Option V)=>Cj3 (σ=[y1,y2]) (Zf H1 G) (G D=some (.lst (((γ i).map fun k=>f k&&g k).map V.bl)))
 refine Xx (J:=Itl K P) (n:=z.length) J1 ?_ ?_ ?_ ?_ ?_
 ·exact⟨_,_,rfl,Ze hD,Zc⟩
 ·rintro i σ G hi ⟨y1,y2,rfl,sG,_⟩;exact⟨_,_,mZ (sG _ _ e1),by rw[eO,eI hi];rfl⟩
 ·rintro σ G ⟨y1,y2,rfl,sG,_⟩;exact⟨_,mZ (sG _ _ e1),by rw[eG];exact eE _⟩
 ·rintro i x σ G0 G hi ⟨y1,y2,rfl,sG,gD⟩ ⟨rfl,hx⟩ N N0 hN rC;have ex:=hx _ (mZ (sG _ _ e1));rw[eO,eI hi] at ex;have rF:x=z[i].1:=(fc ex).symm;subst rF;obtain⟨q,eq,gq⟩:=bp _ (fv hi);rw[hz i hi] at gq;rw[eq];refine⟨q,_,rfl,m6 (sG _ _ gq),rfl,_,_,rfl,_,_,rfl,rfl,?_⟩;refine UV (te:=ZcE (kc 0) (kc 1)) (σ:=[some (.bl (f i)),some (.bl (g i))]) (H:=G) (N:=fun v H5=>N v [some (.bl (f i)),some (.bl (g i))] H5) (N0:=fun H4=>N0 [some (.bl (f i)),some (.bl (g i))] H4) ?_;have go:N (.bl (f i&&g i)) [some (.bl (f i)),some (.bl (g i))] G:=by
   refine hN _ _ G _ gD (by rw[eG,eG,fI,eJ];lia) ⟨_,_,rfl,(Zr.upd (Zf.x sG)).same hD,?_⟩;rw[Zc,xM,fo];rfl
  refine⟨_,rfl,_,rfl,Vo (fun c=>⟨_,rfl,?_⟩) (fun c=>?_)⟩
  ·rw[c,ip] at go;rw[c];exact go
  ·have c':f i=false:=by simpa using c
   rw[c',gW] at go;rw[c'];exact go
 rintro σ G ⟨y1,y2,rfl,sG,gD⟩;rw[lz] at gD;exact k G D _ (s1.trans sG) gD (ZK.rng tl.p1 21 fun k hk=>by rw[pM.more k 21,uo.more k 21]) (by rw[eG,fI];exact eE _)
def JH(K:W.Frag)(a:Adr):Sp:=fun vs H Q _=>Ex4 fun(v:V) (ad:Addr) (us:List V) (c:Lb)=>Cj5 (vs=[v]) (v=.ref ad) (qm K H ad us c) (Zdh c us.length) (∀H' b,Zf H H'->SqT K H' b us->Q (.ref b) H')
theorem Zdn(x y:V)(vs:List V):X9 (x::y::vs) (some 2) none=vs:=by
 have:=WX (x::y::vs) 2 47;exact this
theorem Kq(x:V)(vs:List V):X9 (x::vs) (some 1) none=vs:=by
 have:=WX (x::vs) 1 47;exact this
theorem kT{k:Int}(h:0<k)(hn:(k:Int)<=n):¬(HT.sIx n 0 (some k)=0/\HT.sIx n n none=n):=by
 rintro⟨h1,_⟩;have h2:¬(k<0):=by lia
 unfold HT.sIx at h1;simp only[h2,ft] at h1;lia
theorem UJ{a:Adr}:66 1 a.y7 a.z7 cW JH:=fun T hw=>by
 refine okX T.a8.f yy 69;intro X
 let d1:Rdg X Wj [3]:=⟨_,(@Zd _ _ _ _ _ (@ZQ _ _ _ _ _ _ _ _ (@Zt _ _ _ _ _ _ _ _ YA (pv 1) Zl (ZB _)) (@Zg _ _ _ (@Zm _ _ _ _ (ZW (Uw (K:=K) rfl) (pv 0) (ZS Zi) YH))) Zx) (@Zg _ _ _ (@Zm _ _ _ _ (ZW (Uw (K:=K) rfl) (pv 0) (ZS Zi) YH))))⟩
 let d2:Rdg X Wj [2]:=⟨_,(@Zd _ _ _ _ _ (@ZQ _ _ _ _ _ _ _ _ (@Zt _ _ _ _ _ _ _ _ (WZ (K:=K) rfl) (pv 1) (@ZI _ _ _ _ _ (@Za _ _ _ _ _ Zl (@Za _ _ _ _ _ Zl Zb rfl) rfl)) (by with_unfolding_all rfl)) (@Zg _ _ _ (@Zm _ _ _ _ (@Zq _ _ _ _ _ _ _ (ZU (K:=K) rfl) (pv 0) Zi (fun _ _=>rfl)))) Zx) d1.2)⟩
 let d3:Rdg X Wj [1]:=⟨_,(@Zd _ _ _ _ _ (@ZQ _ _ _ _ _ _ _ _ (@Zt _ _ _ _ _ _ _ _ (WZ (K:=K) rfl) (pv 1) (@ZI _ _ _ _ _ (@Za _ _ _ _ _ Zl (@Za _ _ _ _ _ Zl Zb rfl) rfl)) (by with_unfolding_all rfl)) (@Zg _ _ _ (@Zm _ _ _ _ (@ZI _ _ _ _ _ Zb))) Zx) d2.2)⟩
 intro vs Q h;obtain⟨v,ad,us,c,rfl,rfl,sh,ok,k⟩:=h;refine⟨_,(@Zd _ _ _ _ _ (@Zu _ _ (1) _ _ _ _ yy.nd rfl (.inl rfl) (@Zq _ _ _ _ _ _ _ (ZU (K:=K) rfl) (pv 0) Zi (fun _ _=>rfl)) rfl (.inl rfl)) d3.2),?_⟩;obtain⟨xs,e⟩:=sh.tup;refine⟨_,rfl,ad,_,_,_,rfl,rfl,e,72,?_⟩;refine⟨_,rfl,by rw[eJ];simp,fun q oj=>⟨q,_,rfl,.inr (m6 Zc),rfl,rfl,_,rfl,?_⟩⟩;have s1:=Ze (o:=.tup [.str "yes",.str "sign"]) oj;generalize upd H q (.tup [.str "yes",.str "sign"])=H1 at s1 ⊢;have uO:=sh.mono (m5 s1);clear e xs sh
 revert uO ok
 cases c with
 |yes=>
  intro ok sh;refine qr (ss:=["yes","sign"]) 48 ⟨by rw[eJ];simp,fun r hr=>?_⟩;have h0:=sh.1;subst h0;exact k _ r (s1.trans (Ze hr)) (m6 Zc)
 |sign z=>
  intro ok sh;refine qr (ss:=["yes","sign"]) (show("sign" : Str)∈(["yes","sign"]:50) by left) ⟨by rw[eJ];simp,fun r hr=>?_⟩;have h0:=sh.1;subst h0;exact k _ r (s1.trans (Ze hr)) (m6 Zc)
 |op w=>
  intro ok sh;obtain⟨h1,h2,h3,h4,h5⟩:=yX w (by rcases ok with ok|ok;exact fT _ ok.1;exact fC _ ok.1);refine Xo (ss:=["yes","sign"]) h5 ?_;refine⟨_,rfl,by rw[eJ];simp,fun q3 BA=>⟨q3,_,rfl,.inr (m6 Zc),rfl,rfl,_,rfl,Xo (ss:=["and","or"]) h3 ?_⟩⟩;have s2:=Ze (o:=.tup [.str "and",.str "or"]) BA;generalize upd H1 q3 (.tup [.str "and",.str "or"])=H2 at s2 ⊢;refine⟨_,rfl,rfl,_,rfl,Z7 (fun z=>h4 77) ?_⟩;refine⟨_,rfl,_,rfl,ad,_,rfl,(m5 s2 K _ _ sh),kT 48 (by simp;lia),fun r hr=>?_⟩;rw[Kq];exact k _ r ((s1.trans s2).trans (Ze hr)) (m6 Zc)
 |wit m=>
  intro ok sh;refine Xo (ss:=["yes","sign"]) (show("within" : Str)∉(["yes","sign"]:50) by left) ?_;refine⟨_,rfl,by rw[eJ];simp,fun q3 BA=>⟨q3,_,rfl,.inr (m6 Zc),rfl,rfl,_,rfl,Xo (ss:=["and","or"]) (show("within" : Str)∉(["and","or"]:50) by left) ?_⟩⟩;have s2:=Ze (o:=.tup [.str "and",.str "or"]) BA;generalize upd H1 q3 (.tup [.str "and",.str "or"])=H2 at s2 ⊢;refine⟨_,rfl,rfl,_,rfl,XH rfl ?_⟩;refine⟨_,rfl,_,rfl,ad,_,rfl,(m5 s2 K _ _ sh),kT 48 (by simp;lia),fun r hr=>?_⟩;rw[Zdn];exact k _ r ((s1.trans s2).trans (Ze hr)) (m6 Zc)
 |many w=>
  intro ok sh;have og:w∈(["and","or"]:50):=by rcases ok.1 with rfl|rfl<;>simp
  obtain⟨h1,h2,h3,h4,_⟩:=Vl w og;obtain⟨b,uO,Fe⟩:=sh;refine Xo (ss:=["yes","sign"]) h4 ?_;refine⟨_,rfl,by rw[eJ];simp,fun q3 BA=>⟨q3,_,rfl,.inr (m6 Zc),rfl,rfl,_,rfl,qr (ss:=["and","or"]) og ?_⟩⟩;have s2:=Ze (o:=.tup [.str "and",.str "or"]) BA;generalize upd H1 q3 (.tup [.str "and",.str "or"])=H2 at s2 ⊢;exact⟨_,rfl,ad,_,_,_,rfl,rfl,(m5 s2 K _ _ uO),Zj (j:=1) rfl,k _ b (s1.trans s2) (m5 s2 K _ _ Fe)⟩
def JQ(K:W.Frag)(a:Adr):Sp:=fun vs H Q _=>Ex1 fun x=>Cj3 (vs=[x]) (Kd H x) (Q (.bl (kP x)) H)
theorem yw{a:Adr}:66 1 a.y0 a.z0 cT JQ:=fun T hw=>by
 refine okF T.bw.f JW 73;obtain⟨x,rfl,hk,k⟩:=h;refine⟨_,(@Zg _ _ _ (@Zm _ _ _ _ (Y9 (Zn (XU (K:=K) rfl "int") rfl T.ag nh (@Za _ _ _ _ _ (pv 0) (@Za _ _ _ _ _ (Wm (v:=.ty "int") rfl T.cN PyProof.Rows.Boot.«int» rfl) Zb rfl) rfl)) (YN (Zc9 (Zn (XU (K:=K) rfl "bool") rfl T.ag nh (@Za _ _ _ _ _ (pv 0) (@Za _ _ _ _ _ (Wm (v:=.ty "bool") rfl T.cI PyProof.Rows.Boot.«bool» rfl) Zb rfl) rfl))))))),?_⟩;cases hb:XG H "int" x with
 |false=>
  obtain⟨t,h1,h2⟩:=WJ K 47 hk hb;have e:kP x=false:=by cases hk<;>first|rfl|(simp[XG] at hb)
  rw[e] at k;exact⟨_,rfl,_,t,_,rfl,h1,h2,_,rfl,Z4 k⟩
 |true=>
  obtain⟨t,h1,h2⟩:=WJ K 47 hk hb;obtain⟨u,h3,h4⟩:=WJ K (T := "bool") 47 hk rfl;have e:kP x = !XG H "bool" x:=by
   cases hk with
   |lst e=>simp[XG,e] at hb
   |tup e=>simp[XG,e] at hb
   |dK e=>simp[XG,e] at hb
   |non=>simp[XG] at hb
   |str z hz=>simp[XG] at hb
   |bl b=>rfl
   |int i=>rfl
  rw[e] at k;exact⟨_,rfl,_,t,_,rfl,h1,h2,_,rfl,YD ⟨_,rfl,_,u,_,rfl,h3,h4,_,rfl,k⟩⟩
def K9(K:W.Frag)(a:Adr):Sp:=fun vs H Q _=>Ex1 fun x=>Cj3 (vs=[x]) (Kd H x) (∀H',Zf H H'->Q (.bl (Xa x)) H')
theorem vh{a:Adr}:66 1 a.y1 a.z1 cT K9:=fun T hw=>by
 refine okX T.bJ.f Qh 69;intro X
 let d1:Rdg X V1 [1]:=⟨_,(@Zg _ _ _ (@Zm _ _ _ _ (Zn (V3 (K:=K) rfl rfl) rfl T.cA ni (@Za _ _ _ _ _ (YC (Nc:=["letter"]) (ix:=[none]) (ZX.of (by left:Yc (Zh V1) ["thing"] _ _ _=true)) rfl (ZfU (pv 0)) (fun _ _ _ _ _=>(Zz (i:=0) (show δ (["letter"]:50) by left) rfl (.inl rfl))) (fun _ _ _ _ _=>YV) (fun _ _ _ _ _=>(@Yy _ _ _ _ _ _ _ _ ZaJ (pv 0) (Vx rfl T.cg) (by with_unfolding_all rfl)))) Zb rfl))))⟩
 intro vs Q h;obtain⟨x,rfl,hk,k⟩:=h;refine⟨_,(@Zd _ _ _ _ _ (@ZQ _ _ _ _ _ _ _ _ (PW.pt (UD (@Xj _ _ _ _ (XR (Zn (XU (K:=K) rfl "str") rfl T.ag nh (@Za _ _ _ _ _ (pv 0) (@Za _ _ _ _ _ (Wm (v:=.ty "str") rfl T.cK PyProof.Rows.Boot.«str» rfl) Zb rfl) rfl)))) (Vk (@Xj _ _ _ _ (JF yz yz Zi 68 (Vx rfl T.bA)))))) (@Zg _ _ _ (@Zm _ _ _ _ YL)) Zx) d1.2),?_⟩;rcases Zf9 hk with⟨hb,z,rfl,hz⟩|⟨hb,e⟩
 ·obtain⟨t,h1,h2⟩:=WJ K 47 hk hb;refine⟨_,rfl,_,t,_,rfl,h1,h2,_,rfl,Z4 ?_⟩;refine⟨_,rfl,.inr (.inl ⟨z,rfl,by rw[eJ];lia,_,_,rfl,rfl,_,rfl,?_⟩)⟩;have nE:decide (1<=(z.length:Int))=true->decide ((z.length:Int)<=8)=true->Xa (.str z)=z.cps.toList.all xy:=fun a b=>by
   have a':=fA a;have b':=fA b;have a2:1<=z.length:=by lia
   have b2:z.length<=8:=by lia
   simp[Xa,Xk,a2,b2]
  have IY:¬((1:Int)<=z.length/\(z.length:Int)<=8)->Xa (.str z)=false:=fun q=>by
   have:¬(1<=z.length/\z.length<=8):=by lia
   simp only[Xa,Xk]
   by_cases h1:1<=z.length
   ·have h2:¬z.length<=8:=fun h2=>this ⟨h1,h2⟩;simp[h1,h2]
   ·simp[h1]
  refine Vo (fun c1=>?_) (fun c1=>?_)
  ·refine⟨_,_,rfl,rfl,_,rfl,?_⟩;cases c2:decide ((z.length:Int)<=8) with
   |false=>
    refine YD ?_;have q:=k H (.refl H);rw[IY (fun q=>by have:=lD c2;lia)] at q;exact q
   |true=>
    refine Z4 ⟨_,rfl,z,rfl,fun D hD=>?_⟩;refine Xx (J:=Its z) (n:=z.cps.size) (fun i σ H'=>Zf H H'/\H' D=some (.lst ((z.cps.toList.take i).map fun c=>V.bl (xy c)))/\∃y,σ=[y]) ?_ (fun i σ H' hi _=>hi) (fun σ H' _=>eE _) ?_ ?_
    ·exact⟨Ze hD,Zc,_,rfl⟩
    ·rintro i x σ H' H2 hi ⟨sm,hl,y,rfl⟩ ⟨rfl,c,hc,rfl⟩ N N0 hN rC;refine⟨_,rfl,_,_,rfl,rfl,?_⟩;have el:=PySem.StrLaws.found_one ("abcdefghijklmnopqrstuvwxyz" : Str) c;refine hN _ _ _ _ hl (by rw[eG,fh,eJ];have:z.cps.size=z.length:=rfl;lia) ⟨(Zr.upd (Zf.x sm)).same hD,?_,_,rfl⟩;have Ad:z.cps.toList[i]?=some c:=by rw[ib];exact hc
     rw[Zc,Ε,Ad,fo];refine fb (fun b=>some (HO.lst (_++[V.bl b]))) ?_;rw[<- JA];exact el
    ·rintro σ H' ⟨sm,hl,y,rfl⟩;have et:z.cps.toList.take z.cps.size=z.cps.toList:=by rw[<- gn];exact i9
     rw[et] at hl;have q:=k H' sm;rw[nE c1 c2,<- xq] at q;exact⟨D,z.cps.toList.map xy,rfl,mZ (by rw[hl,fL];rfl),q⟩
  ·refine⟨_,rfl,YD ?_⟩;have q:=k H (.refl H);rw[IY (fun q=>c1 (fQ q.1))] at q;exact q
 ·obtain⟨t,h1,h2⟩:=WJ K 47 hk hb;have q:=k H (.refl H);rw[e] at q;exact⟨_,rfl,_,t,_,rfl,h1,h2,_,rfl,YD (YD q)⟩
def KP(K:W.Frag)(a:Adr):Sp:=fun vs H Q _=>Ex2 fun x n=>Cj3 (vs=[x,.int n]) (Kd H x) (Q (.bl (YZ n x)) H)
theorem Qz{a:Adr}:66 2 a.y2 a.z2 cX KP:=fun T hw=>by
 refine okF T.bT.f QJ 73;obtain⟨x,n,rfl,hk,k⟩:=h;refine⟨_,(@Zg _ _ _ (@Zm _ _ _ _ (Y9 (ZD T.bw (yw T hw) hr rfl rfl (@Za _ _ _ _ _ (pv 0) Zb rfl)) (YN (J0 yz xJ Zi (pv 0) (pv 1)))))),?_⟩;refine⟨_,rfl,x,rfl,hk,_,rfl,?_⟩;cases x with
 |int i=>
  refine YD ⟨_,rfl,_,_,rfl,rfl,_,rfl,?_⟩;cases c1:decide (0<=i) with
  |true=>
   refine YD ⟨_,rfl,_,_,rfl,rfl,?_⟩;have e:YZ n (.int i)=decide (i<n):=by simp only[YZ,c1,ip]
   rw[e] at k;exact k
  |false=>
   have e:YZ n (.int i)=false:=by simp only[YZ,c1,gW]
   rw[e] at k;exact Z4 k
 |_=>exact Z4 k
def j9(K:W.Frag)(a:Adr):Sp:=fun vs H Q _=>Ex2 fun(v:V) (b:Bool)=>Cj3 (vs=[v]) (((b=true/\FmT K H v)\/(b=false/\Fm K H v))) (∀H',Zf H H'->Q (.bl b) H')
theorem ZgX:∀w∈(["signs","Next"]:50),w ≠ "yes" /\ w ≠ "sign" /\ w∉(["and","or"]:50)/\w ≠ "within" := by left
theorem nwx{w:Str}(h:w∉NW):w ≠ "yes" /\ w ≠ "sign" /\ w∉(["and","or"]:50)/\w ≠ "within" := by
 refine⟨fun e=>h (by rw[e];simp),fun e=>h (by rw[e];simp),fun e=>h ?_,fun e=>h (by rw[e];simp)⟩;simp at e;rcases e with rfl|rfl<;>simp
theorem Jm{a:Adr}:66 2 a.y6 a.z6 cT j9:=fun T hw=>by
 refine okX T.bC.f zr 69;intro X
 let d1:Rdg X Yk [3,0,0]:=⟨_,(@Zg _ _ _ (@Zm _ _ _ _ (Y9 (@Yy _ _ _ _ _ _ _ _ YA 68 Zi (ZB _)) (YN (ZD T.bJ (vh T hw) hr rfl rfl (@Za _ _ _ _ _ (@Zq _ _ _ _ _ _ _ (ZU (K:=K) rfl) (pv 0) Zi (fun _ _=>rfl)) Zb rfl))))))⟩
 let d2:Rdg X Yk [4,0,0]:=⟨_,(@Zg _ _ _ (@Zm _ _ _ _ (Y9 (@Yy _ _ _ _ _ _ _ _ YA 68 Zi (ZB _)) (YN (Zn (Jy (K:=K) rfl) rfl T.ag nh (@Za _ _ _ _ _ (@Zq _ _ _ _ _ _ _ (ZU (K:=K) rfl) (pv 0) Zi (fun _ _=>rfl)) (@Za _ _ _ _ _ (Wm (v:=.ty "tuple") rfl T.aH m9 rfl) Zb rfl) rfl))))))⟩
 let d3:Rdg X Yk [5,0,0]:=⟨_,(@Zg _ _ _ (@Zm _ _ _ _ (Y9 (@Yy _ _ _ _ _ _ _ _ YA 68 Zi (ZB _)) (Y9 (ZD T.bw (yw T hw) hr rfl rfl (@Za _ _ _ _ _ (@Zq _ _ _ _ _ _ _ (ZU (K:=K) rfl) (pv 0) Zi (fun _ _=>rfl)) Zb rfl)) (YN (J0 yz yz Zi (@Zq _ _ _ _ _ _ _ (ZU (K:=K) rfl) (pv 0) Zi (fun _ _=>rfl)) (Vx rfl T.bO)))))))⟩
 let d4:Rdg X Yk [6]:=⟨_,(@Zg _ _ _ (@Zm _ _ _ _ (Y9 (@Yy _ _ _ _ _ _ _ _ (Ze3 (K:=K) (P:=a.Pm) rfl hw) (pv 1) (Vx (v:=.ref a.D_LENGTHS) rfl ⟨_,T.bW,rfl⟩) (by with_unfolding_all rfl)) (YN (@Yy _ _ _ _ _ _ _ _ YA 68 (@Zq _ _ _ _ _ _ _ (Zf6 (K:=K) (P:=a.Pm) rfl hw) (Vx (v:=.ref a.D_LENGTHS) rfl ⟨_,T.bW,rfl⟩) (pv 1) (fun _ _=>rfl)) (ZB _))))))⟩
 let d5:Rdg X Yk [5]:=⟨_,(@Zd _ _ _ _ _ (@ZQ _ _ _ _ _ _ _ _ (@Zt _ _ _ _ _ _ _ _ YA (pv 1) Zl (ZB _)) d3.2 Zx) d4.2)⟩
 let d6:Rdg X Yk [4]:=⟨_,(@Zd _ _ _ _ _ (@ZQ _ _ _ _ _ _ _ _ (@Zt _ _ _ _ _ _ _ _ (WZ (K:=K) rfl) (pv 1) (@ZI _ _ _ _ _ (@Za _ _ _ _ _ Zl (@Za _ _ _ _ _ Zl Zb rfl) rfl)) (by with_unfolding_all rfl)) d2.2 Zx) d5.2)⟩
 let d7:Rdg X Yk [3]:=⟨_,(@Zd _ _ _ _ _ (@ZQ _ _ _ _ _ _ _ _ (@Zt _ _ _ _ _ _ _ _ YA (pv 1) Zl (ZB _)) d1.2 Zx) d6.2)⟩
 let d8:Rdg X Yk [2]:=⟨_,(@Zd _ _ _ _ _ (@ZQ _ _ _ _ _ _ _ _ (@Zt _ _ _ _ _ _ _ _ YA (pv 1) Zl (ZB _)) (@Zg _ _ _ (@Zm _ _ _ _ (@Yy _ _ _ _ _ _ _ _ YA 68 Zi (ZB _)))) Zx) d7.2)⟩
 let d9:Rdg X Yk [1]:=⟨_,(@Zd _ _ _ _ _ (@Zu _ _ (1) _ _ _ _ zr.nd rfl (.inl rfl) (@Zq _ _ _ _ _ _ _ (ZU (K:=K) rfl) (pv 0) Zi (fun _ _=>rfl)) rfl (.inl rfl)) d8.2)⟩
 intro vs Q h;obtain⟨v,b,rfl,hb,k⟩:=h;refine⟨_,(@Zd _ _ _ _ _ (@ZQ _ _ _ _ _ _ _ _ (PW.pt (UD (@Xj _ _ _ _ (XR (Zn (Jy (K:=K) rfl) rfl T.ag nh (@Za _ _ _ _ _ (pv 0) (@Za _ _ _ _ _ (Wm (v:=.ty "tuple") rfl T.aH m9 rfl) Zb rfl) rfl)))) (UD (@Zt _ _ _ _ _ _ _ _ YA 68 Zi (ZB _)) (Vk (@Xj _ _ _ _ (XR (Zn (XU (K:=K) rfl "str") rfl T.ag nh (@Za _ _ _ _ _ (@Zq _ _ _ _ _ _ _ (ZU (K:=K) rfl) (pv 0) Zi (fun _ _=>rfl)) (@Za _ _ _ _ _ (Wm (v:=.ty "str") rfl T.cK PyProof.Rows.Boot.«str» rfl) Zb rfl) rfl)))))))) (@Zg _ _ _ (@Zm _ _ _ _ YL)) Zx) d9.2),?_⟩;rcases hb with⟨rfl,hT⟩|⟨rfl,hF⟩
 ·obtain⟨ad,us,c,rfl,sh,ok⟩:=hT;obtain⟨xs,e⟩:=sh.tup;obtain⟨oP,c3,c4⟩:=Vj (K:=K) (H:=H) (ZP c);refine⟨_,rfl,_,rfl,.inl ⟨ad,_,rfl,e,_,rfl,Z4 ?_⟩⟩;refine⟨_,rfl,.inl ⟨ad,_,rfl,.inr e,rfl,_,rfl,Z7 (fun z=>by have:=V.int.inj z;simp at this<;>lia) ?_⟩⟩;refine⟨_,rfl,ad,_,_,_,rfl,rfl,e,72,_,oP,_,rfl,c3,c4,_,rfl,Z4 ?_⟩;refine⟨_,rfl,ad,_,_,_,rfl,rfl,e,72,?_⟩;clear e c3 c4 oP xs
  revert sh ok
  cases c with
  |yes=>
   intro sh ok;refine⟨_,rfl,rfl,_,rfl,XH rfl ?_⟩;exact⟨_,rfl,.inl ⟨ad,_,rfl,.inr (sh.2),rfl,qD rfl (k _ (.refl _))⟩⟩
  |sign z=>
   intro sh ok;refine⟨_,rfl,rfl,_,rfl,Z7 (fun z=>(by left:¬(("sign" : Str) = "yes")) 77) ?_⟩;refine⟨_,rfl,rfl,_,rfl,XH rfl ?_⟩;refine⟨_,rfl,.inl ⟨ad,_,rfl,.inr (sh.2),rfl,_,rfl,XH rfl ?_⟩⟩;refine⟨_,rfl,ad,_,_,_,rfl,rfl,sh.2,Zj (j:=1) rfl,.str z,rfl,.str z (eW (xo ok.2) 48),fun H' s'=>?_⟩;have e:Xa (.str z)=true:=ok.2;rw[e];exact k H' s'
  |op w=>
   intro sh ok;obtain⟨h1,h2,h3,h4,_⟩:=yX w (by rcases ok with ok|ok;exact fT _ ok.1;exact fC _ ok.1);refine⟨_,rfl,rfl,_,rfl,Z7 (fun z=>h1 77) ?_⟩;refine⟨_,rfl,rfl,_,rfl,Z7 (fun z=>h2 77) ?_⟩;refine⟨_,rfl,by rw[eJ];simp,fun q oj=>⟨q,_,rfl,.inr (m6 Zc),rfl,rfl,_,rfl,Xo (ss:=["and","or"]) h3 ?_⟩⟩;have s1:=Ze (o:=.tup [.str "and",.str "or"]) oj;have e1:=m5 s1 K _ _ sh;generalize upd H q (.tup [.str "and",.str "or"])=H1 at s1 e1 ⊢;refine⟨_,rfl,rfl,_,rfl,Z7 (fun z=>h4 77) ?_⟩;obtain⟨i,hm,hi⟩:∃i:Int,(w,i)∈LK/\((us.length+1:Nat):Int)=i:=by
    rcases ok with⟨ok,o2⟩|⟨ok,o2⟩
    ·exact⟨2,lk1 w ok,by lia⟩
    ·exact⟨3,lk2 w ok,by lia⟩
   refine⟨_,rfl,w,_,_,true,rfl,rfl,T.ba,.inl ⟨rfl,i,hm⟩,_,rfl,YD ⟨_,rfl,.inl ⟨ad,_,rfl,.inr (e1),_,rfl,_,w,_,i,rfl,rfl,T.ba,hm,rfl,qD (fb V.int hi) (k _ s1)⟩⟩⟩
  |wit m=>
   intro sh ok;refine⟨_,rfl,rfl,_,rfl,Z7 (fun z=>(by left:¬(("within" : Str) = "yes")) 77) ?_⟩;refine⟨_,rfl,rfl,_,rfl,Z7 (fun z=>(by left:¬(("within" : Str) = "sign")) 77) ?_⟩;refine⟨_,rfl,by rw[eJ];simp,fun q oj=>⟨q,_,rfl,.inr (m6 Zc),rfl,rfl,_,rfl,Xo (ss:=["and","or"]) (show("within" : Str)∉(["and","or"]:50) by left) ?_⟩⟩;have s1:=Ze (o:=.tup [.str "and",.str "or"]) oj;have e1:=m5 s1 K _ _ sh;generalize upd H q (.tup [.str "and",.str "or"])=H1 at s1 e1 ⊢;refine⟨_,rfl,rfl,_,rfl,XH rfl ?_⟩;have hu:us.length=2:=ok.2;refine⟨_,rfl,.inl ⟨ad,_,rfl,.inr (e1),rfl,_,rfl,XH (fb V.int (by simp[hu])) ?_⟩⟩;refine⟨_,rfl,ad,_,_,_,rfl,rfl,e1,Zj (j:=1) rfl,.int m,rfl,.int m,_,rfl,YD ?_⟩;exact⟨_,rfl,ad,_,_,_,rfl,rfl,e1,Zj (j:=1) rfl,_,_,rfl,rfl,_,rfl,XH ok.1.1 ⟨_,_,rfl,rfl,qD ok.1.2 (k _ s1)⟩⟩
  |many w=>
   intro sh ok;obtain⟨b,uO,Fe⟩:=sh;have og:w∈(["and","or"]:50):=by rcases ok.1 with rfl|rfl<;>simp
   obtain⟨h1,h2,h3,_⟩:=Vl w og;refine⟨_,rfl,rfl,_,rfl,Z7 (fun z=>h1 77) ?_⟩;refine⟨_,rfl,rfl,_,rfl,Z7 (fun z=>h2 77) ?_⟩;refine⟨_,rfl,by rw[eJ];simp,fun q oj=>⟨q,_,rfl,.inr (m6 Zc),rfl,rfl,_,rfl,qr (ss:=["and","or"]) og ?_⟩⟩;have s1:=Ze (o:=.tup [.str "and",.str "or"]) oj;have e1:=m5 s1 K _ _ uO;have e2:=m5 s1 K _ _ Fe;generalize upd H q (.tup [.str "and",.str "or"])=H1 at s1 e1 e2 ⊢;exact⟨_,rfl,.inl ⟨ad,_,rfl,.inr (e1),rfl,_,rfl,XH rfl ⟨_,rfl,ad,_,_,_,rfl,rfl,e1,Zj (j:=1) rfl,_,rfl,.inl ⟨b,_,rfl,e2,k _ s1⟩⟩⟩⟩
 cases hF with
 |noT hk ht=>
  obtain⟨t,h1,h2⟩:=WJ K 47 hk ht;exact⟨_,rfl,_,rfl,.inr ⟨t,h1,h2,_,rfl,YD (k _ (.refl _))⟩⟩
 |@emp ad e=>
  refine⟨_,rfl,_,rfl,.inl ⟨ad,_,rfl,e,_,rfl,Z4 ?_⟩⟩;exact⟨_,rfl,.inl ⟨ad,_,rfl,.inr e,rfl,_,rfl,XH rfl (k _ (.refl _))⟩⟩
 |@noS ad x xs e hk ht=>
  obtain⟨t,h1,h2⟩:=WJ K 47 hk ht;refine⟨_,rfl,_,rfl,.inl ⟨ad,_,rfl,e,_,rfl,Z4 ?_⟩⟩;refine⟨_,rfl,.inl ⟨ad,_,rfl,.inr e,rfl,_,rfl,Z7 (fun z=>by have:=V.int.inj z;simp at this<;>lia) ?_⟩⟩;exact⟨_,rfl,ad,_,_,_,rfl,rfl,e,72,_,t,_,rfl,h1,h2,_,rfl,YD (k _ (.refl _))⟩
 |@yes ad xs e hl=>
  obtain⟨oP,c3,c4⟩:=Vj (K:=K) (H:=H) "yes";refine⟨_,rfl,_,rfl,.inl ⟨ad,_,rfl,e,_,rfl,Z4 ?_⟩⟩;refine⟨_,rfl,.inl ⟨ad,_,rfl,.inr e,rfl,_,rfl,Z7 (fun z=>by have:=V.int.inj z;simp at this<;>lia) ?_⟩⟩;refine⟨_,rfl,ad,_,_,_,rfl,rfl,e,72,_,oP,_,rfl,c3,c4,_,rfl,Z4 ?_⟩;refine⟨_,rfl,ad,_,_,_,rfl,rfl,e,72,?_⟩;refine⟨_,rfl,rfl,_,rfl,XH rfl ?_⟩;exact⟨_,rfl,.inl ⟨ad,_,rfl,.inr e,rfl,qN (fun z=>by have:=V.int.inj z;simp at this<;>lia) (k _ (.refl _))⟩⟩
 |@sgnL ad xs e hl=>
  obtain⟨oP,c3,c4⟩:=Vj (K:=K) (H:=H) "sign";refine⟨_,rfl,_,rfl,.inl ⟨ad,_,rfl,e,_,rfl,Z4 ?_⟩⟩;refine⟨_,rfl,.inl ⟨ad,_,rfl,.inr e,rfl,_,rfl,Z7 (fun z=>by have:=V.int.inj z;simp at this<;>lia) ?_⟩⟩;refine⟨_,rfl,ad,_,_,_,rfl,rfl,e,72,_,oP,_,rfl,c3,c4,_,rfl,Z4 ?_⟩;refine⟨_,rfl,ad,_,_,_,rfl,rfl,e,72,?_⟩;refine⟨_,rfl,rfl,_,rfl,Z7 (fun z=>(by left:¬(("sign" : Str) = "yes")) 77) ?_⟩;refine⟨_,rfl,rfl,_,rfl,XH rfl ?_⟩;exact⟨_,rfl,.inl ⟨ad,_,rfl,.inr e,rfl,_,rfl,Z7 (fun z=>by have:=V.int.inj z;simp at this<;>lia) (k _ (.refl _))⟩⟩
 |@sgn ad x e hk hx=>
  obtain⟨oP,c3,c4⟩:=Vj (K:=K) (H:=H) "sign";refine⟨_,rfl,_,rfl,.inl ⟨ad,_,rfl,e,_,rfl,Z4 ?_⟩⟩;refine⟨_,rfl,.inl ⟨ad,_,rfl,.inr e,rfl,_,rfl,Z7 (fun z=>by have:=V.int.inj z;simp at this<;>lia) ?_⟩⟩;refine⟨_,rfl,ad,_,_,_,rfl,rfl,e,72,_,oP,_,rfl,c3,c4,_,rfl,Z4 ?_⟩;refine⟨_,rfl,ad,_,_,_,rfl,rfl,e,72,?_⟩;refine⟨_,rfl,rfl,_,rfl,Z7 (fun z=>(by left:¬(("sign" : Str) = "yes")) 77) ?_⟩;refine⟨_,rfl,rfl,_,rfl,XH rfl ?_⟩;refine⟨_,rfl,.inl ⟨ad,_,rfl,.inr e,rfl,_,rfl,XH rfl ?_⟩⟩;refine⟨_,rfl,ad,_,_,_,rfl,rfl,e,Zj (j:=1) rfl,x,rfl,hk,fun H' s'=>?_⟩;rw[hx];exact k H' s'
 |@manyL ad w xs og e hl=>
  obtain⟨h1,h2,h3,_⟩:=Vl w og;obtain⟨oP,c3,c4⟩:=Vj (K:=K) (H:=H) w;refine⟨_,rfl,_,rfl,.inl ⟨ad,_,rfl,e,_,rfl,Z4 ?_⟩⟩;refine⟨_,rfl,.inl ⟨ad,_,rfl,.inr e,rfl,_,rfl,Z7 (fun z=>by have:=V.int.inj z;simp at this<;>lia) ?_⟩⟩;refine⟨_,rfl,ad,_,_,_,rfl,rfl,e,72,_,oP,_,rfl,c3,c4,_,rfl,Z4 ?_⟩;refine⟨_,rfl,ad,_,_,_,rfl,rfl,e,72,?_⟩;refine⟨_,rfl,rfl,_,rfl,Z7 (fun z=>h1 77) ?_⟩;refine⟨_,rfl,rfl,_,rfl,Z7 (fun z=>h2 77) ?_⟩;refine⟨_,rfl,by rw[eJ];simp,fun q oj=>⟨q,_,rfl,.inr (m6 Zc),rfl,rfl,_,rfl,qr (ss:=["and","or"]) og ?_⟩⟩;have s1:=Ze (o:=.tup [.str "and",.str "or"]) oj;have e1:=m5 s1 K _ _ e;generalize upd H q (.tup [.str "and",.str "or"])=H1 at s1 e1 ⊢;exact⟨_,rfl,.inl ⟨ad,_,rfl,.inr (e1),rfl,_,rfl,Z7 (fun z=>by have:=V.int.inj z;simp at this<;>lia) (k _ s1)⟩⟩
 |@manyN ad w x og e hk ht=>
  obtain⟨h1,h2,h3,_⟩:=Vl w og;obtain⟨oP,c3,c4⟩:=Vj (K:=K) (H:=H) w;refine⟨_,rfl,_,rfl,.inl ⟨ad,_,rfl,e,_,rfl,Z4 ?_⟩⟩;refine⟨_,rfl,.inl ⟨ad,_,rfl,.inr e,rfl,_,rfl,Z7 (fun z=>by have:=V.int.inj z;simp at this<;>lia) ?_⟩⟩;refine⟨_,rfl,ad,_,_,_,rfl,rfl,e,72,_,oP,_,rfl,c3,c4,_,rfl,Z4 ?_⟩;refine⟨_,rfl,ad,_,_,_,rfl,rfl,e,72,?_⟩;refine⟨_,rfl,rfl,_,rfl,Z7 (fun z=>h1 77) ?_⟩;refine⟨_,rfl,rfl,_,rfl,Z7 (fun z=>h2 77) ?_⟩;refine⟨_,rfl,by rw[eJ];simp,fun q oj=>⟨q,_,rfl,.inr (m6 Zc),rfl,rfl,_,rfl,qr (ss:=["and","or"]) og ?_⟩⟩;have s1:=Ze (o:=.tup [.str "and",.str "or"]) oj;have e1:=m5 s1 K _ _ e;generalize upd H q (.tup [.str "and",.str "or"])=H1 at s1 e1 ⊢;obtain⟨t,h5,h6⟩:=WJ K 47 (hk.mono s1) ((Zbx s1 hk).trans ht);exact⟨_,rfl,.inl ⟨ad,_,rfl,.inr (e1),rfl,_,rfl,XH rfl ⟨_,rfl,ad,_,_,_,rfl,rfl,e1,Zj (j:=1) rfl,_,rfl,.inr ⟨t,h5,h6,k _ s1⟩⟩⟩⟩
 |@witL ad xs e hl=>
  obtain⟨oP,c3,c4⟩:=Vj (K:=K) (H:=H) "within";refine⟨_,rfl,_,rfl,.inl ⟨ad,_,rfl,e,_,rfl,Z4 ?_⟩⟩;refine⟨_,rfl,.inl ⟨ad,_,rfl,.inr e,rfl,_,rfl,Z7 (fun z=>by have:=V.int.inj z;simp at this<;>lia) ?_⟩⟩;refine⟨_,rfl,ad,_,_,_,rfl,rfl,e,72,_,oP,_,rfl,c3,c4,_,rfl,Z4 ?_⟩;refine⟨_,rfl,ad,_,_,_,rfl,rfl,e,72,?_⟩;refine⟨_,rfl,rfl,_,rfl,Z7 (fun z=>(by left:¬(("within" : Str) = "yes")) 77) ?_⟩;refine⟨_,rfl,rfl,_,rfl,Z7 (fun z=>(by left:¬(("within" : Str) = "sign")) 77) ?_⟩;refine⟨_,rfl,by rw[eJ];simp,fun q oj=>⟨q,_,rfl,.inr (m6 Zc),rfl,rfl,_,rfl,Xo (ss:=["and","or"]) (show("within" : Str)∉(["and","or"]:50) by left) ?_⟩⟩;have s1:=Ze (o:=.tup [.str "and",.str "or"]) oj;have e1:=m5 s1 K _ _ e;generalize upd H q (.tup [.str "and",.str "or"])=H1 at s1 e1 ⊢;refine⟨_,rfl,rfl,_,rfl,XH rfl ?_⟩;exact⟨_,rfl,.inl ⟨ad,_,rfl,.inr (e1),rfl,_,rfl,Z7 (fun z=>by have:=V.int.inj z;simp at this<;>lia) (k _ s1)⟩⟩
 |@witN ad x y z e hk hx=>
  obtain⟨oP,c3,c4⟩:=Vj (K:=K) (H:=H) "within";refine⟨_,rfl,_,rfl,.inl ⟨ad,_,rfl,e,_,rfl,Z4 ?_⟩⟩;refine⟨_,rfl,.inl ⟨ad,_,rfl,.inr e,rfl,_,rfl,Z7 (fun z=>by have:=V.int.inj z;simp at this<;>lia) ?_⟩⟩;refine⟨_,rfl,ad,_,_,_,rfl,rfl,e,72,_,oP,_,rfl,c3,c4,_,rfl,Z4 ?_⟩;refine⟨_,rfl,ad,_,_,_,rfl,rfl,e,72,?_⟩;refine⟨_,rfl,rfl,_,rfl,Z7 (fun z=>(by left:¬(("within" : Str) = "yes")) 77) ?_⟩;refine⟨_,rfl,rfl,_,rfl,Z7 (fun z=>(by left:¬(("within" : Str) = "sign")) 77) ?_⟩;refine⟨_,rfl,by rw[eJ];simp,fun q oj=>⟨q,_,rfl,.inr (m6 Zc),rfl,rfl,_,rfl,Xo (ss:=["and","or"]) (show("within" : Str)∉(["and","or"]:50) by left) ?_⟩⟩;have s1:=Ze (o:=.tup [.str "and",.str "or"]) oj;have e1:=m5 s1 K _ _ e;generalize upd H q (.tup [.str "and",.str "or"])=H1 at s1 e1 ⊢;refine⟨_,rfl,rfl,_,rfl,XH rfl ?_⟩;refine⟨_,rfl,.inl ⟨ad,_,rfl,.inr (e1),rfl,_,rfl,XH rfl ?_⟩⟩;refine⟨_,rfl,ad,_,_,_,rfl,rfl,e1,Zj (j:=1) rfl,x,rfl,hk.mono s1,?_⟩;rw[hx];exact⟨_,rfl,Z4 (k _ s1)⟩
 |@witM ad m y z e hm=>
  obtain⟨oP,c3,c4⟩:=Vj (K:=K) (H:=H) "within";refine⟨_,rfl,_,rfl,.inl ⟨ad,_,rfl,e,_,rfl,Z4 ?_⟩⟩;refine⟨_,rfl,.inl ⟨ad,_,rfl,.inr e,rfl,_,rfl,Z7 (fun z=>by have:=V.int.inj z;simp at this<;>lia) ?_⟩⟩;refine⟨_,rfl,ad,_,_,_,rfl,rfl,e,72,_,oP,_,rfl,c3,c4,_,rfl,Z4 ?_⟩;refine⟨_,rfl,ad,_,_,_,rfl,rfl,e,72,?_⟩;refine⟨_,rfl,rfl,_,rfl,Z7 (fun z=>(by left:¬(("within" : Str) = "yes")) 77) ?_⟩;refine⟨_,rfl,rfl,_,rfl,Z7 (fun z=>(by left:¬(("within" : Str) = "sign")) 77) ?_⟩;refine⟨_,rfl,by rw[eJ];simp,fun q oj=>⟨q,_,rfl,.inr (m6 Zc),rfl,rfl,_,rfl,Xo (ss:=["and","or"]) (show("within" : Str)∉(["and","or"]:50) by left) ?_⟩⟩;have s1:=Ze (o:=.tup [.str "and",.str "or"]) oj;have e1:=m5 s1 K _ _ e;generalize upd H q (.tup [.str "and",.str "or"])=H1 at s1 e1 ⊢;refine⟨_,rfl,rfl,_,rfl,XH rfl ?_⟩;refine⟨_,rfl,.inl ⟨ad,_,rfl,.inr (e1),rfl,_,rfl,XH rfl ?_⟩⟩;refine⟨_,rfl,ad,_,_,_,rfl,rfl,e1,Zj (j:=1) rfl,.int m,rfl,.int m,_,rfl,YD ?_⟩;refine⟨_,rfl,ad,_,_,_,rfl,rfl,e1,Zj (j:=1) rfl,_,_,rfl,rfl,_,rfl,?_⟩
  by_cases h0:0<=m
  ·exact XH h0 ⟨_,_,rfl,rfl,qN (fun h5=>hm ⟨h0,h5⟩) (k _ s1)⟩
  ·exact Z7 h0 (k _ s1)
 |@word ad w xs e uW=>
  obtain⟨h1,h2,h3,h4⟩:=ZgX w uW;obtain⟨oP,c3,c4⟩:=Vj (K:=K) (H:=H) w;refine⟨_,rfl,_,rfl,.inl ⟨ad,_,rfl,e,_,rfl,Z4 ?_⟩⟩;refine⟨_,rfl,.inl ⟨ad,_,rfl,.inr e,rfl,_,rfl,Z7 (fun z=>by have:=V.int.inj z;simp at this<;>lia) ?_⟩⟩;refine⟨_,rfl,ad,_,_,_,rfl,rfl,e,72,_,oP,_,rfl,c3,c4,_,rfl,Z4 ?_⟩;refine⟨_,rfl,ad,_,_,_,rfl,rfl,e,72,?_⟩;refine⟨_,rfl,rfl,_,rfl,Z7 (fun z=>h1 77) ?_⟩;refine⟨_,rfl,rfl,_,rfl,Z7 (fun z=>h2 77) ?_⟩;refine⟨_,rfl,by rw[eJ];simp,fun q oj=>⟨q,_,rfl,.inr (m6 Zc),rfl,rfl,_,rfl,Xo (ss:=["and","or"]) h3 ?_⟩⟩;have s1:=Ze (o:=.tup [.str "and",.str "or"]) oj;have e1:=m5 s1 K _ _ e;generalize upd H q (.tup [.str "and",.str "or"])=H1 at s1 e1 ⊢;refine⟨_,rfl,rfl,_,rfl,Z7 (fun z=>h4 77) ?_⟩;have hn:W.nsIn K a.D_LENGTHS w=some none:=by
   simp at uW;rcases uW with rfl|rfl
   ·exact T.nk_signs
   ·exact T.nk_Next
  exact⟨_,rfl,w,_,_,false,rfl,rfl,T.ba,.inr ⟨rfl,hn⟩,_,rfl,Z4 (k _ s1)⟩
 |@lens ad w i xs e uW hm hi=>
  obtain⟨h1,h2,h3,h4⟩:=nwx uW;obtain⟨oP,c3,c4⟩:=Vj (K:=K) (H:=H) w;refine⟨_,rfl,_,rfl,.inl ⟨ad,_,rfl,e,_,rfl,Z4 ?_⟩⟩;refine⟨_,rfl,.inl ⟨ad,_,rfl,.inr e,rfl,_,rfl,Z7 (fun z=>by have:=V.int.inj z;simp at this<;>lia) ?_⟩⟩;refine⟨_,rfl,ad,_,_,_,rfl,rfl,e,72,_,oP,_,rfl,c3,c4,_,rfl,Z4 ?_⟩;refine⟨_,rfl,ad,_,_,_,rfl,rfl,e,72,?_⟩;refine⟨_,rfl,rfl,_,rfl,Z7 (fun z=>h1 77) ?_⟩;refine⟨_,rfl,rfl,_,rfl,Z7 (fun z=>h2 77) ?_⟩;refine⟨_,rfl,by rw[eJ];simp,fun q oj=>⟨q,_,rfl,.inr (m6 Zc),rfl,rfl,_,rfl,Xo (ss:=["and","or"]) h3 ?_⟩⟩;have s1:=Ze (o:=.tup [.str "and",.str "or"]) oj;have e1:=m5 s1 K _ _ e;generalize upd H q (.tup [.str "and",.str "or"])=H1 at s1 e1 ⊢;refine⟨_,rfl,rfl,_,rfl,Z7 (fun z=>h4 77) ?_⟩;exact⟨_,rfl,w,_,_,true,rfl,rfl,T.ba,.inl ⟨rfl,i,hm⟩,_,rfl,YD ⟨_,rfl,.inl ⟨ad,_,rfl,.inr (e1),_,rfl,_,w,_,i,rfl,rfl,T.ba,hm,rfl,qN (fun z=>hi (V.int.inj z)) (k _ s1)⟩⟩⟩
theorem yg:∀ts:67,ts.length<=(Ya ts).length
 |[]=>by simp[Ya]
 |t::r=>by
  have:=yg r;rw[Ya,eK,fG,Ui t,eK];simp;lia
def xE(K:W.Frag)(a:Adr):Sp:=fun vs H Q _=>Ex3 fun(v:V) (t:Tr) (n:Nat)=>Cj4 (vs=[v]) (At K n H v t) ((post t).length<=8000000) (∀H' l us,Zf H H'->H l=none->H' l=some (.lst us)->AtL K n H' us (post t)->Q (.ref l) H')
theorem Vn{a:Adr}:66 3 a.y8 a.z8 cW xE:=fun T hw=>by
 refine okX T.aJ.f X7 69;intro X
 let d1:Rdg X Yq [2,0,3]:=⟨_,(@Zg _ _ _ (@YG _ _ _ _ (Wc fR PySem.F.slot_list_extend PySem.F.type_list_extend (KS (K:=K) rfl) (pv 2) (@Za _ _ _ _ _ (ZD T.a8 (UJ T hw) hr rfl rfl (@Za _ _ _ _ _ (pv 3) Zb rfl)) Zb rfl)) rfl))⟩
 let d2:Rdg X Yq [2,0,2]:=⟨_,(@Zd _ _ _ _ _ (@YG _ _ _ _ (Wc fR ge gf Z9 (pv 1) (@Za _ _ _ _ _ (pv 3) Zb rfl)) rfl) d1.2)⟩
 let d3:Rdg X Yq [2,0,1]:=⟨_,(@Zd _ _ _ _ _ (@ZQ _ _ _ _ _ _ _ _ (@Xj _ _ _ _ (XR (ZD T.bC (Jm T hw) hr rfl rfl (@Za _ _ _ _ _ (pv 3) Zb rfl)))) (@Zg _ _ _ Ky) Zx) d2.2)⟩
 let d4:Rdg X Yq [2,0,0]:=⟨_,(@Zd _ _ _ _ _ (@Zu _ _ (3) _ _ _ _ X7.nd rfl (.inl rfl) (ZdC fR PySem.F.slot_list_pop PySem.F.type_list_pop ZdO (pv 2)) rfl (.inl rfl)) d3.2)⟩
 let d5:Rdg X Yq [2]:=⟨_,(@Zd _ _ _ _ _ (zk fP (WU (K:=K) rfl (pv 2) (fun _=>rfl)) d4.2) (@Zg _ _ _ (@Zm _ _ _ _ (QS (K:=K) rfl (pv 1) (ZS (UG Vi Zi))))))⟩
 let d6:Rdg X Yq [1]:=⟨_,(@Zd _ _ _ _ _ (@Zu _ _ (2) _ _ _ _ X7.nd rfl (.inl rfl) (@Yd _ _ _ _ (@Za _ _ _ _ _ (pv 0) Zb rfl)) rfl (.inl rfl)) d5.2)⟩
 intro vs Q h;obtain⟨v,t,n,rfl,om,hz,k⟩:=h;refine⟨_,(@Zd _ _ _ _ _ (@Zu _ _ (1) _ _ _ _ X7.nd rfl (.inl rfl) (@Yd _ _ _ _ Zb) rfl (.inl rfl)) d6.2),?_⟩;cases n with
 |zero=>exact om.elim
 |succ n=>
  refine⟨by left,fun F hF=>?_⟩;have s1:=Ze (o:=.lst []) hF;have e1:(upd H F (.lst [])) F=some (.lst []):=Zc;generalize upd H F (.lst [])=H1 at s1 e1 ⊢;refine⟨_,rfl,by rw[eJ];simp,fun W hW=>?_⟩;have s2:=Ze (o:=.lst [v]) hW;have e2:(upd H1 W (.lst [v])) W=some (.lst [v]):=Zc;have uL:F≠W:=Zdq e1 hW;have Aa:=s2 _ _ e1;generalize upd H1 W (.lst [v])=H2 at s2 e2 Aa ⊢;have Cc:H W=none:=s1.free hW;have ox:=om.mono (m5 (s1.trans s2));refine⟨fun m σ H'=>∃(z:Option V) (ws fs:List V) (tw tf:67),σ=[some v,qr0 F,qr0 W,z]/\Zf H H'/\H' F=some (.lst fs)/\H' W=some (.lst ws)/\AtL K (n+1) H' ws tw/\AtL K (n+1) H' fs tf/\tf++(Ya tw).reverse=(post t).reverse/\m=(Ya tw).length,⟨_,_,[v],[],[t],[],rfl,s1.trans s2,Aa,e2,AtL.one ox,AtL.nil,by rw[XX];rfl,rfl⟩,?_⟩;rintro m σ H3 ⟨z,ws,fs,tw,tf,rfl,s3,tD,tI,aw,af,he,rfl⟩;have nv:tf.length+(Ya tw).length=(post t).length:=by have:=fb μ he;simpa using this
  have ub:=yg tw;have Ds:=aw.1;have PN:=af.1;refine⟨_,rfl,!ws.isEmpty,?tru,?_⟩
  case tru=>exact .inl ⟨_,mZ tI,rfl⟩
  cases hws:ws.isEmpty with
  |true=>
   have e0:ws=[]:=mM.mp hws;subst e0;have et:tw=[]:=g6.mp Ds.symm;subst et;refine Z4 ?_;rw[Ya,List.reverse_nil,gp] at he;refine⟨_,rfl,_,rfl,_,rfl,F,_,rfl,rfl,mZ tD,fun p hp=>?_⟩;have ar:=af.rev;rw[he,List.reverse_reverse] at ar;exact k _ p _ (s3.trans (Ze hp)) (s3.free hp) Zc (ar.mono (m5 (Ze hp)))
  |false=>
   have nM:ws≠[]:=fun e=>by rw[e] at hws;cases hws
   obtain⟨us,u,rs,r,ew,Ph,GJ,au⟩:=aw.last nM;subst ew Ph;refine YD ?_;refine⟨fun σ H'=>∃(z:Option V) (ws fs:List V) (tw tf:67),σ=[some v,qr0 F,qr0 W,z]/\Zf H H'/\H' F=some (.lst fs)/\H' W=some (.lst ws)/\AtL K (n+1) H' ws tw/\AtL K (n+1) H' fs tf/\tf++(Ya tw).reverse=(post t).reverse/\(Ya tw).length<(Ya (rs++[r])).length,?_,?_⟩
   ·rintro σ' H' ⟨z',MY,wV,M7,To,rfl,a1,a2,a3,a4,a5,a6,a7⟩;exact⟨_,a7,z',MY,wV,M7,To,rfl,a1,a2,a3,a4,a5,a6,rfl⟩
   refine⟨_,rfl,.inl ⟨rfl,_,mZ tI⟩,W,_,u,rfl,rfl,tI,by simp,?_⟩;rw[List.dropLast_concat];have x4:Zr W H3 (upd H3 W (.lst us)):=(Zr.refl H3).upd;have t4:Yw H3 (upd H3 W (.lst us)):=Zr.tup x4 tI;have sJ:(upd H3 W (.lst us)) F=some (.lst fs):=X8 tD uL;have L6:(upd H3 W (.lst us)) W=some (.lst us):=Zc;have s4:Zf H (upd H3 W (.lst us)):=((Zf.x s3).upd).same Cc;generalize upd H3 W (.lst us)=H4 at x4 t4 sJ L6 s4 ⊢;have TB:=au.mono t4;refine⟨_,rfl,u,true,rfl,.inl ⟨rfl,TB.fmT⟩,fun H5 s5=>⟨_,rfl,Z4 ?_⟩⟩;have rR:=s5 _ _ sJ;have wO:=s5 _ _ L6;have II:=ZaK rs r;have tl:=fb μ II;simp at tl;refine⟨_,rfl,.inl ⟨rfl,_,mZ rR⟩,_,rfl,F,_,_,rfl,rfl,rR,by rw[eJ];lia,?_⟩;have x6:Zr F H5 (upd H5 F (.lst (fs++[u]))):=(Zr.refl H5).upd;have t6:Yw H5 (upd H5 F (.lst (fs++[u]))):=Zr.tup x6 rR;have BV:(upd H5 F (.lst (fs++[u]))) F=some (.lst (fs++[u])):=Zc;have w8:(upd H5 F (.lst (fs++[u]))) W=some (.lst us):=X8 wO (eX uL);have s6:Zf H (upd H5 F (.lst (fs++[u]))):=((Zf.x (s4.trans s5)).upd).same hF;generalize upd H5 F (.lst (fs++[u]))=H6 at x6 t6 BV w8 s6 ⊢;have AZ:Yw H3 H6:=t4.trans ((m5 s5).trans t6);obtain⟨As,tp,Cm,Cg,A9,wo,CJ⟩:=au.mono AZ;refine⟨_,rfl,.inl ⟨rfl,_,mZ w8⟩,_,rfl,u,As,tp,r.lb,rfl,Cm,Cg,by rw[wo];exact A9.b,fun H7 b s7 eb=>?_⟩;have aL:AtL K n H7 tp r.ks:=AtL.mono (m5 s7) ⟨wo,CJ⟩;have B7:=s7 _ _ w8;have Ew:=aL.1;have BQ:=yg (rs++r.ks);simp at BQ;have rb:=GJ.1;refine⟨W,b,_,_,rfl,rfl,B7,eb,by rw[eJ];lia,?_⟩;have x8:Zr W H7 (upd H7 W (.lst (us++tp))):=(Zr.refl H7).upd;have t8:Yw H7 (upd H7 W (.lst (us++tp))):=Zr.tup x8 B7;have Fs:Yw H3 (upd H7 W (.lst (us++tp))):=AZ.trans ((m5 s7).trans t8);refine⟨_,us++tp,fs++[u],rs++r.ks,tf++[r],rfl,((Zf.x (s6.trans s7)).upd).same Cc,X8 (s7 _ _ BV) uL,Zc,(GJ.mono Fs).app ((aL.le (hZ n)).mono t8),(af.mono Fs).app (AtL.one (au.mono Fs)),?_,?_⟩
   ·rw[II] at he;rw[gY];exact he
   ·lia
def j8(K:W.Frag)(a:Adr):Sp:=fun vs H Q _=>Ex3 fun(p:Addr) (xs:List V) (m:Nat)=>Cj4 (vs=[.ref p,.int (m:Nat)]) (H p=some (.lst xs)) (m<=xs.length) (∀H' l,Zr p H H'->H' p=some (.lst (xs.take (xs.length-m)))->H l=none->H' l=some (.lst (xs.drop (xs.length-m)))->Q (.ref l) H')
theorem zu{a:Adr}:66 1 a.y5 a.z5 dh j8:=fun T hw=>by
 refine okX T.bf.f Uv 69;intro X
 let d1:Rdg X Vv [1]:=⟨_,(@Zd _ _ _ _ _ (@Zu _ _ (3) _ _ _ _ Uv.nd rfl (.inl rfl) (ZW (YB (K:=K) rfl) (pv 0) (ZS (pv 2)) YH) rfl (.inl rfl)) (@Zd _ _ _ _ _ (Ql (pv 0) (pv 2)) (@Zg _ _ _ (@Zm _ _ _ _ (pv 3)))))⟩
 intro vs Q h;obtain⟨p,xs,m,rfl,hp,hm,k⟩:=h;refine⟨_,(@Zd _ _ _ _ _ (@Zu _ _ (2) _ _ _ _ Uv.nd rfl (.inl rfl) (@ZO _ _ _ _ _ _ _ _ VH 68 (pv 1)) rfl (.inl rfl)) d1.2),?_⟩;have e:(xs.length:Int)-(m:Int)=((xs.length-m:Nat):Int):=by lia
 refine⟨_,rfl,.inl ⟨p,_,rfl,.inl (mZ hp),_,rfl,_,_,rfl,rfl,?_⟩⟩;refine⟨_,rfl,_,rfl,((xs.length-m:Nat):Int),fb V.int e,p,xs,rfl,mZ hp,fun l hl=>?_⟩;rw[WX _ _ 21];have np:=Zdq hp hl;refine⟨_,rfl,_,rfl,p,xs,xs.length-m,rfl,fb V.int e,X8 hp np,by lia,?_⟩;refine⟨_,rfl,k _ l (Zf.x (Ze hl)).upd Zc hl ?_⟩;rw[Zo (eX np),Zc]
theorem AtL.take{K:W.Frag}{n:Nat}{H:Hp}{us:List V}{cs:67}(h:AtL K n H us cs)(m:Nat):AtL K n H (us.take m) (cs.take m):=by
 refine⟨by rw[fh,fh,h.1],fun i u k h1 h2=>?_⟩;rw[List.getElem?_take] at h1 h2
 split at h1
 ·rename_i hi
  rw[nt hi] at h2;exact h.2 i u k h1 h2
 ·cases h1
theorem AtL.drop{K:W.Frag}{n:Nat}{H:Hp}{us:List V}{cs:67}(h:AtL K n H us cs)(m:Nat):AtL K n H (us.drop m) (cs.drop m):=by
 refine⟨by rw[gv,gv,h.1],fun i u k h1 h2=>?_⟩;rw[lL] at h1 h2;exact h.2 _ u k h1 h2
def Qj(K:W.Frag)(a:Adr):Sp:=fun vs H Q _=>Ex3 fun(v:V) (t:Tr) (n:Nat)=>Cj4 (vs=[v]) (At K n H v t) ((post t).length<=8000000) (∀H' v',Zf H H'->At K (28*n) H' v' (ZH t)->Q v' H')
theorem qE{a:Adr}:66 4 a.y9 a.z9 cW Qj:=fun T hw=>by
 refine okX T.bq.f Uj 69;intro X
 let d1:Rdg X WS [1,0,1]:=⟨_,(@Zg _ _ _ (@YG _ _ _ _ (Wc fR ge gf Z9 (pv 1) (@Za _ _ _ _ _ (ZD T.bD (kL T hw) hr rfl rfl (@Za _ _ _ _ _ (pv 2) (@Za _ _ _ _ _ (pv 3) Zb rfl) rfl)) Zb rfl)) rfl))⟩
 let d2:Rdg X WS [1,0,0]:=⟨_,(@Zd _ _ _ _ _ (@Zu _ _ (3) _ _ _ _ Uj.nd rfl (.inl rfl) (ZD T.bf (zu T hw) hr rfl rfl (@Za _ _ _ _ _ (pv 1) (@Za _ _ _ _ _ (Zn (Zw (K:=K) rfl) rfl T.az ng (@Za _ _ _ _ _ (ZD T.a8 (UJ T hw) hr rfl rfl (@Za _ _ _ _ _ (pv 2) Zb rfl)) Zb rfl)) Zb rfl) rfl)) rfl (.inl rfl)) d1.2)⟩
 let d3:Rdg X WS [1]:=⟨_,(@Zd _ _ _ _ _ (Xv fP rfl (Yn (K:=K) rfl (ZD T.aJ (Vn T hw) hr rfl rfl (@Za _ _ _ _ _ (pv 0) Zb rfl))) (Zz (i:=2) Uj.nd rfl (.inl rfl)) d2.2) (@Zg _ _ _ (@Zm _ _ _ _ (@Zq _ _ _ _ _ _ _ 54 (pv 1) Zi (fun _ _=>rfl)))))⟩
 intro vs Q h;obtain⟨v,t,n,rfl,om,hz,k⟩:=h;refine⟨_,(@Zd _ _ _ _ _ (@Zu _ _ (1) _ _ _ _ Uj.nd rfl (.inl rfl) (@Yd _ _ _ _ Zb) rfl (.inl rfl)) d3.2),?_⟩;cases n with
 |zero=>exact om.elim
 |succ n=>
  refine⟨by left,fun F hF=>?_⟩;have s1:=Ze (o:=.lst []) hF;have e1:(upd H F (.lst [])) F=some (.lst []):=Zc;generalize upd H F (.lst [])=H1 at s1 e1 ⊢;refine⟨_,rfl,v,t,n+1,rfl,om.mono (m5 s1),hz,fun H2 L us s2 L0 eL aL=>⟨L,rfl,⟨_,mZ eL⟩,?_⟩⟩;have C0:L≠F:=fun e=>by rw[e,e1] at L0;cases L0
  have Dm:=s2 _ _ e1;obtain⟨wE,tJ⟩:=QX (F:=Yr) t;have rb:=aL.1
  let J1:Nat->L2.St->Hp->Prop:=fun i σ H'=>Ex4 fun(z1 z2:Option V) (uv:List V) (st:67)=>Cj7 (σ=[some v,qr0 F,z1,z2]) (Zr F H2 H') (H' F=some (.lst uv)) (AtL K (28*(n+1)) H' uv st) (yq Yr st ((post t).drop i)) (xz Yr st ((post t).drop i)=[ZH t]) (st.length<=i)
  refine qY (K:=K) (xs:=us) J1 ?_ ?_ ?_ ?_
  ·exact⟨_,_,[],[],rfl,.refl _,Dm,AtL.nil,wE,tJ,eE _⟩
  ·rintro i σ H' hi ⟨z1,z2,uv,st,rfl,x',_⟩;exact mZ (x' _ _ C0 eL)
  ·rintro i x σ H3 hx ⟨z1,z2,uv,st,rfl,x3,tD,aS,wc,oJ,nB⟩;have hi:i<us.length:=(eY.mp hx).1;have tj:i<(post t).length:=by lia
   have RN:Yw H2 H3:=Zr.tup x3 Dm;have wv:=(aL.2 i x _ hx (eI tj)).mono RN;rw[mN tj] at wc oJ;obtain⟨⟨Di,uq⟩,Bf⟩:=wc;have sP:xz Yr (VA Yr st (post t)[i]) ((post t).drop (i+1))=[ZH t]:=oJ;generalize (post t)[i]=r at wv Di uq Bf sP;have C6:=aS.1;obtain⟨As,ks,Cm,Cg,A9,wo,CJ⟩:=id wv;refine⟨_,rfl,_,rfl,x,As,ks,r.lb,rfl,Cm,Cg,by rw[wo];exact A9.b,fun H4 b s4 eb=>.inl ⟨b,_,rfl,.inr (eb),?_⟩⟩;have aK:AtL K n H4 ks r.ks:=AtL.mono (m5 s4) ⟨wo,CJ⟩;have Ew:=aK.1;have sJ:=s4 _ _ tD;refine⟨F,uv,ks.length,rfl,sJ,by rw[C6,Ew];exact Di,fun H5 l x5 rR l0 wX=>?_⟩;have NN:l≠F:=fun e=>by rw[e,sJ] at l0;cases l0
   have Tx:Yw H4 H5:=Zr.tup x5 sJ;have GO:Yw H3 H5:=(m5 s4).trans Tx;rw[C6,Ew] at rR wX;have Ck:=wv.mono GO;have GA:=aS.mono GO;have aI:=AtL.drop GA (st.length-r.ks.length);rw[uq] at aI;have ca:=UL _ r Ck.ok;have Iy:Yr r.lb (r.ks.map ZH)=ZH r:=(Wz r).symm;have Ei:At K (n+1) H5 x (.node r.lb r.ks):=by rw[<- Tr.eta];exact Ck
   refine⟨_,rfl,.inl ⟨rfl,_,mZ rR⟩,_,rfl,_,rfl,x,r.lb,r.ks,n+1,l,_,_,28*(n+1),rfl,Ei,wX,aI,eG _,by lia,fun H6 v6 s6 wq=>?_⟩;rw[show YJ Yr=ZH from rfl,Iy] at wq;have wq:=wq.fit ca.1;have BV:=s6 _ _ rR;refine⟨F,_,_,rfl,rfl,BV,by rw[fh,eJ];lia,?_⟩;have Ov:Zr F H3 H6:=(Zf.x s4).trans (x5.trans (Zf.x s6));have t6:Yw H6 (upd H6 F (.lst (uv.take (st.length-r.ks.length)++[v6]))):=Zr.tup ((Zr.refl H6).upd) BV;refine⟨_,_,uv.take (st.length-r.ks.length)++[v6],VA Yr st r,rfl,(x3.trans Ov).upd,Zc,?_,Bf,sP,?_⟩
   ·unfold VA;rw[uq,show YJ Yr=ZH from rfl,Iy];exact AtL.app (((AtL.take GA _).mono (m5 s6)).mono t6) (AtL.one (wq.mono t6))
   ·unfold VA;rw[eK,fh];simp;lia
  rintro σ H3 ⟨z1,z2,uv,st,rfl,x3,tD,aS,wc,oJ,nB⟩;rw[Ψ 21] at oJ;have DQ:st=[ZH t]:=oJ;subst DQ;obtain⟨u0,ur,c0,cr,rfl,ec,a0⟩:=AtL.first aS 47;cases ec;exact⟨_,rfl,F,_,_,_,rfl,rfl,mZ tD,72,k H3 _ (((Zf.x (s1.trans s2)).trans x3).same hF) a0⟩
def qv(K:W.Frag)(a:Adr):Sp:=fun vs H Q _=>Ex8 fun(ls l1 l2:Addr) (p:Nat) (L M:List Bool) (f g:Nat->Bool)=>Cj9 (vs=[.ref ls,.int (p:Nat)]) (H ls=some (.lst [.ref l1,.ref l2])) (H l1=some (.lst (L.map V.bl))) (H l2=some (.lst (M.map V.bl))) (ZK p L f) (ZK p M g) (L.length<=50000) (M.length<=50000) (∀H' q (L':List Bool),Zf H H'->H' q=some (.lst (L'.map V.bl))->ZK p L' (Y5 f g)->L'.length<=max L.length M.length->Q (.ref q) H')
theorem Za4(f g:Nat->Bool){m:Nat}(h:i<m):(g (m-1-i)||(f (m-1-i)&&qh f g false (m-i) i))=qh f g false (m-(i+1)) (i+1):=by
 have e1:m-(i+1)=m-1-i:=by lia
 rw[e1]
 show _=(g (m-1-i)||(f (m-1-i)&&qh f g false (m-1-i+1) i))
 have e2:m-1-i+1=m-i:=by lia
 rw[e2]
theorem Zde(f g:Nat->Bool){m:Nat}(h:i<m):(g (m-1-i)||(f (m-1-i)&&Y5 f g (m-i)))=Y5 f g (m-(i+1)):=by
 have e1:m-(i+1)=m-1-i:=by lia
 have e2:m-i=m-1-i+1:=by lia
 rw[e1,e2,<- xr]
theorem Zbq(f:Nat->Bool)(m:Nat):(((γ m).map fun i=>f (m-(i+1))).map V.bl).reverse=((γ m).map f).map V.bl:=by
 rw[<- List.map_reverse]
 congr 1
 apply l4;intro i
 by_cases hi:i<m
 ·rw[mS (by rw[eG,fI];exact hi),eO,eO,eG,fI,l6 21,l6 hi]
  show some (f (m-(m-1-i+1)))=some (f i)
  congr 2
  lia
 ·rw[io (by rw[lh,eG,fI];lia),io (by rw[eG,fI];lia)]
theorem vQ{a:Adr}:66 3 a.y33 a.z33 cS qv:=fun T hw=>by
 refine okX T.aX.f Ye 69;intro X
 let d1:Rdg X YU [4,0,0]:=⟨_,(@Zd _ _ _ _ _ (@Zu _ _ (3) _ _ _ _ Ye.nd rfl (.inl rfl) (jA (pv 5) (YN (Y9 (pv 4) (YN (pv 3))))) rfl (.inl rfl)) (@Zg _ _ _ (@YG _ _ _ _ (Wc fR ge gf Z9 (pv 6) (@Za _ _ _ _ _ (pv 3) Zb rfl)) rfl)))⟩
 let d2:Rdg X YU [4]:=⟨_,(@Zd _ _ _ _ _ (Xv fP rfl (yQ (K:=K) rfl rfl T.a9 (@Za _ _ _ _ _ (pv 2) Zb rfl)) (U6 (K:=K) (n:=2) rfl rfl (Xe (Zz (i:=4) Ye.nd rfl (.inl rfl)) (Xe (Zz (i:=5) Ye.nd rfl (.inl rfl)) qa))) d1.2) (@Zg _ _ _ (@Zm _ _ _ _ (QS (K:=K) rfl (pv 6) (ZS (UG Vi Zi))))))⟩
 let d3:Rdg X YU [3]:=⟨_,(@Zd _ _ _ _ _ (@Zu _ _ (6) _ _ _ _ Ye.nd rfl (.inl rfl) (@Yd _ _ _ _ Zb) rfl (.inl rfl)) d2.2)⟩
 let d4:Rdg X YU [2]:=⟨_,(@Zd _ _ _ _ _ (Xv fP rfl (yQ (K:=K) rfl rfl T.a9 (@Za _ _ _ _ _ (ZW (YB (K:=K) rfl) (pv 2) (ZS (UG Vi (pv 1))) YH) Zb rfl)) (U6 (K:=K) (n:=2) rfl rfl (Xe (Zz (i:=4) Ye.nd rfl (.inl rfl)) (Xe (Zz (i:=5) Ye.nd rfl (.inl rfl)) qa))) (@Zg _ _ _ (@Zu _ _ (3) _ _ _ _ Ye.nd rfl (.inl rfl) (jA (pv 5) (YN (Y9 (pv 4) (YN (pv 3))))) rfl (.inl rfl)))) d3.2)⟩
 let d5:Rdg X YU [1]:=⟨_,(@Zd _ _ _ _ _ (@Zu _ _ (3) _ _ _ _ Ye.nd rfl (.inl rfl) YL rfl (.inl rfl)) d4.2)⟩
 intro vs Q h;obtain⟨ls,l1,l2,p,L,M,f,g,rfl,hs,h1,h2,tl,tm,b1,b2,k⟩:=h;refine⟨_,(@Zd _ _ _ _ _ (@Zu _ _ (2) _ _ _ _ Ye.nd rfl (.inl rfl) (ZD T.aq (X4 T hw) hr rfl rfl (@ZA _ _ _ _ _ (pv 0) (@ZA _ _ _ _ _ (pv 1) (@ZA _ _ _ _ _ Zi Zb rfl) rfl) rfl)) rfl (.inl rfl)) d5.2),?_⟩;have p1:=tl.p1;have NL:=tl.le;refine⟨_,rfl,_,rfl,ls,l1,l2,p,0,L,M,f,g,rfl,hs,h1,h2,tl,tm,b1,b2,by left,fun H1 P z L' M' s1 P0 e1 bp ez pM uo ll lm=>?_⟩;rw[Nat.add_zero] at ll lm;obtain⟨lz,hz⟩:=KM ez pM uo ll lm;generalize hmm:max L.length M.length=m at ll lm lz k;have pm:p<=m:=by lia
 have hf:∀j,m<=j->f j=f (j-p):=fun j hj=>tl.more j 21;have hg:∀j,m<=j->g j=g (j-p):=fun j hj=>tm.more j 21;refine⟨_,rfl,_,rfl,_,rfl,_,rfl,P,_,rfl,mZ e1,fun R hR=>?_⟩;rw[ZcS _ p1 (by rw[eG];lia),eG,lz];obtain⟨H2,qN,s2,e2⟩:=Yl (o:=.lst ((z.map ε).drop (m-p))) hR;rw[qN];have lR:((z.map ε).drop (m-p)).length=p:=by rw[gv,eG];lia
 refine⟨R,_,rfl,mZ e2,?_⟩;rw[lR];have two:∀{n:Nat} (j:Nat),(hj:j<m)->∀{G:Hp},Zf H1 G->∃q,z[j]' 21=(.ref q,(f j,g j))/\G q=some (.tup [.bl (f j),.bl (g j)]):=fun {_} j hj {G} sG=>by
  obtain⟨q,eq,gq⟩:=bp _ (fv (show j<z.length by lia));rw[hz j 21] at gq;exact⟨q,Prod.ext eq (hz j 21),sG _ _ gq⟩
 let J1:Nat->L2.St->Hp->Prop:=fun i σ G=>∃z4 z5:Option V,σ=[qr0 ls,some (.int (p:Nat)),qr0 P,some (.bl (qh f g false (m-i) i)),z4,z5,none]/\Zf H2 G
 refine XQ (J:=Itv K R p) (n:=p) J1 ?_ ?_ (fun σ G _=>eE _) ?_ ?_
 ·exact⟨_,_,rfl,.refl _⟩
 ·rintro i σ G hi ⟨z4,z5,rfl,sG⟩;exact⟨hi,_,mZ (sG _ _ e2),lR⟩
 ·rintro i x σ G0 G hi ⟨z4,z5,rfl,sG⟩ ⟨rfl,hx⟩;have ex:=hx _ (mZ (sG _ _ e2));rw[lL,eO,show m-p+(p-1-i)=m-1-i by lia,eI (show m-1-i<z.length by lia)] at ex;obtain⟨q,eq,gq⟩:=two (n:=0) (m-1-i) 21 (s2.trans sG);rw[eq] at ex;have rF:x=.ref q:=(fc ex).symm;subst rF;refine⟨q,_,rfl,m6 gq,rfl,_,_,rfl,_,_,rfl,rfl,?_⟩;have nB:=Za4 f g (show i<m by lia);refine⟨_,rfl,_,rfl,Vo (fun c=>?_) (fun c=>⟨_,rfl,_,rfl,Vo (fun c2=>⟨_,rfl,?_⟩) (fun c2=>?_)⟩)⟩
  ·rw[c,Υ] at nB;exact⟨_,_,by rw[<- nB];rfl,sG⟩
  ·have c':g (m-1-i)=false:=by simpa using c
   rw[c',c2,iX,ip] at nB;exact⟨_,_,by rw[<- nB];rfl,sG⟩
  ·have c':g (m-1-i)=false:=by simpa using c
   have AF:f (m-1-i)=false:=by simpa using c2
   rw[c',AF,iX,gW] at nB;exact⟨_,_,by rw[<- nB];rfl,sG⟩
 rintro σ G ⟨z4,z5,rfl,sG⟩;rw[Za7 p1 pm hf hg];refine⟨by left,fun D hD=>?_⟩;obtain⟨G1,qN,t1,eD⟩:=Yl (o:=.lst []) hD;rw[qN];have s3:=s2.trans (sG.trans t1);have lP:(z.map ε).length=m:=by rw[eG];exact lz
 refine⟨_,rfl,P,_,rfl,mZ (s3 _ _ e1),?_⟩;rw[lP];have sI:P≠D:=fun e=>by rw[e] at e1;rw[(s2.trans sG) _ _ e1] at hD;cases hD
 let J2:Nat->L2.St->Hp->Prop:=fun i σ F=>∃z4 z5:Option V,σ=[qr0 ls,some (.int (p:Nat)),qr0 P,some (.bl (Y5 f g (m-i))),z4,z5,qr0 D]/\Zr D G1 F/\F D=some (.lst (((γ i).map fun j=>Y5 f g (m-(j+1))).map V.bl))
 refine XQ (J:=Itv K P m) (n:=m) J2 ?_ ?_ (fun σ G _=>eE _) ?_ ?_
 ·exact⟨_,_,rfl,.refl _,eD⟩
 ·rintro i σ F hi ⟨z4,z5,rfl,sF,_⟩;exact⟨hi,_,mZ (sF _ _ sI (s3 _ _ e1)),lP⟩
 ·rintro i x σ F0 F hi ⟨z4,z5,rfl,sF,gD⟩ ⟨rfl,hx⟩;have ex:=hx _ (mZ (sF _ _ sI (s3 _ _ e1)));rw[eO,eI (show m-1-i<z.length by lia)] at ex;obtain⟨q,eq,gq⟩:=two (n:=0) (m-1-i) 21 (.refl H1);rw[eq] at ex;have rF:x=.ref q:=(fc ex).symm;subst rF;have D6:q≠D:=fun e=>by rw[e] at gq;rw[(s2.trans sG) _ _ gq] at hD;cases hD
  refine⟨q,_,rfl,m6 (sF _ _ D6 (s3 _ _ gq)),rfl,_,_,rfl,_,_,rfl,rfl,?_⟩;have go:∀b:Bool,b=Y5 f g (m-(i+1))->WT (.ref D) [.bl b] F (fun _ F1=>∃z4 z5:Option V,[qr0 ls,some (.int (p:Nat)),qr0 P,some (.bl b),some (.bl (f (m-1-i))),some (.bl (g (m-1-i))),qr0 D]=[qr0 ls,some (.int (p:Nat)),qr0 P,some (.bl (Y5 f g (m-(i+1)))),z4,z5,qr0 D]/\Zr D G1 F1/\F1 D=some (.lst (((γ (i+1)).map fun j=>Y5 f g (m-(j+1))).map V.bl))):=fun b hb=>by
   subst hb;refine⟨D,_,_,rfl,rfl,gD,by rw[eG,eG,fI,eJ];lia,_,_,rfl,sF.upd,?_⟩;rw[Zc,xM,fo];rfl
  have nB:=Zde f g (show i<m by lia);refine⟨_,rfl,_,rfl,Vo (fun c=>?_) (fun c=>⟨_,rfl,_,rfl,Vo (fun c2=>⟨_,rfl,?_⟩) (fun c2=>?_)⟩)⟩
  ·rw[c,Υ] at nB;exact⟨_,rfl,.inl ⟨rfl,_,mZ gD⟩,_,rfl,go true nB⟩
  ·have c':g (m-1-i)=false:=by simpa using c
   rw[c',c2,iX,ip] at nB;exact⟨_,rfl,.inl ⟨rfl,_,mZ gD⟩,_,rfl,go _ nB⟩
  ·have c':g (m-1-i)=false:=by simpa using c
   have AF:f (m-1-i)=false:=by simpa using c2
   rw[c',AF,iX,gW] at nB;exact⟨_,rfl,.inl ⟨rfl,_,mZ gD⟩,_,rfl,go _ nB⟩
 rintro σ F ⟨z4,z5,rfl,sF,gD⟩;refine⟨_,rfl,_,rfl,_,rfl,D,_,rfl,rfl,mZ gD,fun q hq=>?_⟩;rw[Zbq];have Pd:Zf H F:=fun b o e=>sF _ _ (fun w=>by rw[w] at e;rw[(s1.trans (s2.trans sG)) _ _ e] at hD;cases hD) ((s1.trans s3) _ _ e);exact k _ q _ (Pd.trans (Ze hq)) Zc (ZK.rng p1 pm (jq pm hf hg)) (by rw[eG,fI];exact eE _)
def qj(K:W.Frag)(a:Adr):Sp:=fun vs H Q _=>Ex8 fun(ls l1 l2:Addr) (p:Nat) (L M:List Bool) (f g:Nat->Bool)=>Cj9 (vs=[.ref ls,.int (p:Nat)]) (H ls=some (.lst [.ref l1,.ref l2])) (H l1=some (.lst (L.map V.bl))) (H l2=some (.lst (M.map V.bl))) (ZK p L f) (ZK p M g) (L.length<=50000) (M.length<=50000) (∀H' q (L':List Bool),Zf H H'->H' q=some (.lst (L'.map V.bl))->ZK p L' (Y7 f g)->L'.length<=max L.length M.length+p->Q (.ref q) H')
def Zco(f g:Nat->Bool):Nat->Bool
 |0=>false
 |k+1=>Y7 f g k
theorem ZaL(f g:Nat->Bool)(k:Nat):(g k||(f k&&Zco f g k))=Y7 f g k:=by
 cases k with
 |zero=>show(g 0||(f 0&&false))=g 0;cases g 0<;>cases f 0<;>rfl
 |succ n=>rfl
theorem vJ{a:Adr}:66 3 a.y35 a.z35 cS qj:=fun T hw=>by
 refine okX T.aY.f Xg 69;intro X
 let d1:Rdg X Xz [2,0,0]:=⟨_,(@Zd _ _ _ _ _ (@Zu _ _ (3) _ _ _ _ Xg.nd rfl (.inl rfl) (jA (pv 5) (YN (Y9 (pv 4) (YN (pv 3))))) rfl (.inl rfl)) (@Zg _ _ _ (@YG _ _ _ _ (Wc fR ge gf Z9 (pv 2) (@Za _ _ _ _ _ (pv 3) Zb rfl)) rfl)))⟩
 let d2:Rdg X Xz [2]:=⟨_,(@Zd _ _ _ _ _ (Xv fP rfl (Yn (K:=K) rfl (ZD T.aq (X4 T hw) hr rfl rfl (@ZA _ _ _ _ _ (pv 0) (@ZA _ _ _ _ _ (pv 1) (@ZA _ _ _ _ _ (pv 1) Zb rfl) rfl) rfl))) (U6 (K:=K) (n:=2) rfl rfl (Xe (Zz (i:=4) Xg.nd rfl (.inl rfl)) (Xe (Zz (i:=5) Xg.nd rfl (.inl rfl)) qa))) d1.2) (@Zg _ _ _ (@Zm _ _ _ _ (pv 2))))⟩
 let d3:Rdg X Xz [1]:=⟨_,(@Zd _ _ _ _ _ (@Zu _ _ (3) _ _ _ _ Xg.nd rfl (.inl rfl) YL rfl (.inl rfl)) d2.2)⟩
 intro vs Q h;obtain⟨ls,l1,l2,p,L,M,f,g,rfl,hs,h1,h2,tl,tm,b1,b2,k⟩:=h;refine⟨_,(@Zd _ _ _ _ _ (@Zu _ _ (2) _ _ _ _ Xg.nd rfl (.inl rfl) (@Yd _ _ _ _ Zb) rfl (.inl rfl)) d3.2),?_⟩;have p1:=tl.p1;have NL:=tl.le;refine⟨by left,fun D hD=>?_⟩;obtain⟨H1,qN,s1,e1⟩:=Yl (o:=.lst []) hD;rw[qN];refine⟨_,rfl,_,rfl,_,rfl,ls,l1,l2,p,p,L,M,f,g,rfl,s1 _ _ hs,s1 _ _ h1,s1 _ _ h2,tl,tm,b1,b2,by lia,fun H2 P z L' M' s2 P0 e2 bp ez pM uo ll lm=>⟨P,rfl,⟨_,mZ e2⟩,?_⟩⟩;obtain⟨lz,hz⟩:=KM ez pM uo ll lm
 let J1:Nat->L2.St->Hp->Prop:=fun i σ G=>∃z4 z5:Option V,σ=[qr0 ls,some (.int (p:Nat)),qr0 D,some (.bl (Zco f g i)),z4,z5]/\Zr D H2 G/\G D=some (.lst (((γ i).map (Y7 f g)).map V.bl))
 refine XQ (J:=Itl K P) (n:=z.length) J1 ?_ ?_ ?_ ?_ ?_
 ·exact⟨_,_,rfl,.refl _,s2 _ _ e1⟩
 ·rintro i σ G hi ⟨z4,z5,rfl,sG,_⟩;have sI:P≠D:=fun e=>by rw[e,e1] at P0;cases P0
  exact⟨_,_,mZ (sG _ _ sI e2),by rw[eO,eI hi];rfl⟩
 ·rintro σ G ⟨z4,z5,rfl,sG,_⟩;have sI:P≠D:=fun e=>by rw[e,e1] at P0;cases P0
  exact⟨_,mZ (sG _ _ sI e2),by rw[eG];exact eE _⟩
 ·rintro i x σ G0 G hi ⟨z4,z5,rfl,sG,gD⟩ ⟨rfl,hx⟩;have sI:P≠D:=fun e=>by rw[e,e1] at P0;cases P0
  have ex:=hx _ (mZ (sG _ _ sI e2));rw[eO,eI hi] at ex;have rF:x=z[i].1:=(fc ex).symm;subst rF;obtain⟨q,eq,gq⟩:=bp _ (fv hi);rw[hz i hi] at gq;have gq:H2 q=some (.tup [.bl (f i),.bl (g i)]):=gq;rw[eq];have D6:q≠D:=fun e=>by rw[e,s2 _ _ e1] at gq;cases gq
  refine⟨q,_,rfl,m6 (sG _ _ D6 gq),rfl,_,_,rfl,_,_,rfl,rfl,?_⟩;have go:∀b:Bool,b=Y7 f g i->WT (.ref D) [.bl b] G (fun _ H1=>∃z4 z5:Option V,[qr0 ls,some (.int (p:Nat)),qr0 D,some (.bl b),some (.bl (f i)),some (.bl (g i))]=[qr0 ls,some (.int (p:Nat)),qr0 D,some (.bl (Zco f g (i+1))),z4,z5]/\Zr D H2 H1/\H1 D=some (.lst (((γ (i+1)).map (Y7 f g)).map V.bl))):=fun b hb=>by
   subst hb;refine⟨D,_,_,rfl,rfl,gD,by rw[eG,eG,fI,eJ];lia,_,_,rfl,sG.upd,?_⟩;rw[Zc,xM,fo];rfl
  have nB:=ZaL f g i;refine⟨_,rfl,_,rfl,Vo (fun c=>?_) (fun c=>⟨_,rfl,_,rfl,Vo (fun c2=>⟨_,rfl,?_⟩) (fun c2=>?_)⟩)⟩
  ·rw[c,Υ] at nB;exact⟨_,rfl,.inl ⟨rfl,_,mZ gD⟩,_,rfl,go true nB⟩
  ·have c':g i=false:=by simpa using c
   rw[c',c2,iX,ip] at nB;exact⟨_,rfl,.inl ⟨rfl,_,mZ gD⟩,_,rfl,go _ nB⟩
  ·have c':g i=false:=by simpa using c
   have AF:f i=false:=by simpa using c2
   rw[c',AF,iX,gW] at nB;exact⟨_,rfl,.inl ⟨rfl,_,mZ gD⟩,_,rfl,go _ nB⟩
 rintro σ G ⟨z4,z5,rfl,sG,gD⟩;rw[lz] at gD;have oz:∀b o,H b=some o->G b=some o:=fun b o e=>sG _ _ (fun z=>by rw[z,hD] at e;cases e) ((s1.trans s2) _ _ e);refine⟨_,rfl,k G D _ oz gD (ZK.rng p1 21 fun k hk=>?_) (by rw[eG,fI];exact eE _)⟩;exact jv (m:=max L.length M.length) p1 21 (fun j hj=>tl.more j 21) (fun j hj=>tm.more j 21) k 21
def yp(K:W.Frag)(a:Adr):Sp:=fun vs H Q _=>Ex5 fun(ls l1:Addr) (p:Nat) (L:List Bool) (f:Nat->Bool)=>Cj6 (vs=[.ref ls,.int (p:Nat)]) (H ls=some (.lst [.ref l1])) (H l1=some (.lst (L.map V.bl))) (ZK p L f) (L.length<=50000) (∀H' q (L':List Bool),Zf H H'->H' q=some (.lst (L'.map V.bl))->ZK p L' (fun k=>!f k)->L'.length<=L.length->Q (.ref q) H')
theorem Ka{a:Adr}:66 1 a.y30 a.z30 cS yp:=fun T hw=>by
 refine okF T.bx.f JU 73;obtain⟨ls,l1,p,L,f,rfl,hs,h1,tl,b1,k⟩:=h;refine⟨_,(@Zg _ _ _ (@Zm _ _ _ _ (YC (Nc:=["truth"]) (ix:=[none]) (ZX.of (by left:Yc (Zh Ub) ["lines","size"] _ _ _=true)) rfl (Yn (K:=K) rfl (@Zq _ _ _ _ _ _ _ 54 (pv 0) Zi (fun _ _=>rfl))) (fun _ _ _ _ _=>(Zz (i:=0) (show δ (["truth"]:50) by left) rfl (.inl rfl))) (fun _ _ _ _ _=>YV) (fun _ _ _ _ _=>(Zc9 (pv 0)))))),?_⟩;refine⟨_,rfl,ls,_,_,_,rfl,rfl,mZ hs,72,l1,rfl,⟨_,mZ h1⟩,fun D hD=>?_⟩;refine vi L V.bl (fun b=>.bl (!b)) hD (mZ h1) (by rw[eJ];lia) ?_ ?_
 ·intro b hb G N sG hN;exact⟨_,rfl,_,rfl,hN _ (.refl _)⟩
 intro H1 e1 s1;refine k H1 D (L.map Bool.not) s1 (by rw[e1,fL];rfl) tl.not (by rw[eG];exact eE _)
def zH(K:W.Frag)(a:Adr):Sp:=fun vs H Q _=>Ex5 fun(ls l1:Addr) (p:Nat) (L:List Bool) (f:Nat->Bool)=>Cj6 (vs=[.ref ls,.int (p:Nat)]) (H ls=some (.lst [.ref l1])) (H l1=some (.lst (L.map V.bl))) (ZK p L f) (L.length<=50000) (∀H' q (L':List Bool),Zf H H'->H' q=some (.lst (L'.map V.bl))->ZK p L' (fun k=>f (k+1))->L'.length<=L.length->Q (.ref q) H')
theorem Ji{a:Adr}:66 2 a.y32 a.z32 cS zH:=fun T hw=>by
 refine okF T.bn.f k7 73;obtain⟨ls,l1,p,L,f,rfl,hs,h1,tl,b1,k⟩:=h;refine⟨_,(@Zg _ _ _ (@Zm _ _ _ _ (ZW (YB (K:=K) rfl) (ZD T.aO (WP T hw) hr rfl rfl (@ZA _ _ _ _ _ (@Zq _ _ _ _ _ _ _ 54 (pv 0) Zi (fun _ _=>rfl)) (@ZA _ _ _ _ _ (@ZO _ _ _ _ _ _ _ _ YY (Zn (Zw (K:=K) rfl) rfl T.az ng (@Za _ _ _ _ _ (@Zq _ _ _ _ _ _ _ 54 (pv 0) Zi (fun _ _=>rfl)) Zb rfl)) Zi) (@ZA _ _ _ _ _ (pv 1) Zb rfl) rfl) rfl)) (ZS Zi) YH))),?_⟩;have em:((L.length:Nat):Int)+1=((L.length+1:Nat):Int):=by lia
 refine⟨_,rfl,ls,_,_,_,rfl,rfl,mZ hs,72,_,rfl,ls,_,_,_,rfl,rfl,mZ hs,72,.inl ⟨l1,_,rfl,.inl (mZ h1),_,_,rfl,rfl,_,rfl,l1,L.length+1,p,L,f,by rw[eG,em];rfl,h1,tl,by lia,by lia,fun H1 q1 L' s1 EH e1 pM S5=>?_⟩⟩;refine⟨1,rfl,q1,_,rfl,mZ e1,fun q hq=>?_⟩;have N9:L'.length=L.length+1:=by lia
 have ec:=WX (L'.map V.bl) 1 (by rw[eG];lia);rw[show((1:Nat):Int)=1 from rfl] at ec;rw[ec,<- Κ];exact k _ q (L'.drop 1) (s1.trans (Ze hq)) Zc (pM.next N9 tl.le tl.more) (by rw[gv];lia)
def UM(K:W.Frag)(a:Adr):Sp:=fun vs H Q _=>Ex5 fun(ls l1:Addr) (p:Nat) (L:List Bool) (f:Nat->Bool)=>Cj6 (vs=[.ref ls,.int (p:Nat)]) (H ls=some (.lst [.ref l1])) (H l1=some (.lst (L.map V.bl))) (ZK p L f) (L.length<=50000) (∀H' q (L':List Bool),Zf H H'->H' q=some (.lst (L'.map V.bl))->ZK p L' (JO f)->L'.length<=L.length+1->Q (.ref q) H')
theorem vq{a:Adr}:66 1 a.y34 a.z34 cS UM:=fun T hw=>by
 refine okF T.aV.f xW 73;obtain⟨ls,l1,p,L,f,rfl,hs,h1,tl,b1,k⟩:=h;refine⟨_,(@Zg _ _ _ (@Zm _ _ _ _ (@ZO _ _ _ _ _ _ _ _ Zb6 (@Yd _ _ _ _ (@Za _ _ _ _ _ YL Zb rfl)) (@Zq _ _ _ _ _ _ _ 54 (pv 0) Zi (fun _ _=>rfl))))),?_⟩;refine⟨sz1,fun D hD=>?_⟩;obtain⟨H1,qN,s1,e1⟩:=Yl (o:=.lst [.bl false]) hD;rw[qN];refine⟨_,rfl,ls,_,_,_,rfl,rfl,mZ (s1 _ _ hs),72,D,l1,_,_,rfl,rfl,e1,s1 _ _ h1,by rw[eG,eJ];show 1+L.length<=16777216;lia,fun q hq=>?_⟩;exact k _ q (false::L) (s1.trans (Ze hq)) Zc tl.before (eE _)
def vp(K:W.Frag)(a:Adr):Sp:=fun vs H Q _=>Ex4 fun(l:Addr) (p:Nat) (L:List Bool) (f:Nat->Bool)=>Cj5 (vs=[.ref l,.int (p:Nat)]) (H l=some (.lst (L.map V.bl))) (ZK p L f) (L.length<=1000000) (∀H' q L',Zf H H'->H q=none->H' q=some (.lst (L'.map V.bl))->ZK p L' f->L'.length<=L.length->Q (.ref q) H')
theorem QQ{a:Adr}:66 1 a.y27 a.z27 di vp:=fun T hw=>by
 refine okX T.bU.f qQ 69;intro X
 let d1:Rdg X qb [1]:=⟨_,(@Zd _ _ _ _ _ (zk fP (PW.pt (kf (@Zt _ _ _ _ _ _ _ _ Zar (pv 2) (pv 1) (ZB _)) (yK (@Zt _ _ _ _ _ _ _ _ YA (@Zq _ _ _ _ _ _ _ 54 (pv 0) (@ZO _ _ _ _ _ _ _ _ VH (pv 2) Zi) (fun _ _=>rfl)) (@Zq _ _ _ _ _ _ _ 54 (pv 0) (@ZO _ _ _ _ _ _ _ _ VH (@ZO _ _ _ _ _ _ _ _ VH (pv 2) Zi) (pv 1)) (fun _ _=>rfl)) (ZB _))))) (@Zg _ _ _ (ZfG (i:=2) qQ.nd rfl (.inl rfl) Zi Zgq))) (@Zg _ _ _ (@Zm _ _ _ _ (ZW (YB (K:=K) rfl) (pv 0) YH (ZS (pv 2))))))⟩
 intro vs Q h;obtain⟨l,p,L,f,rfl,hl,tl,ll,k⟩:=h;refine⟨_,(@Zd _ _ _ _ _ (@Zu _ _ (2) _ _ _ _ qQ.nd rfl (.inl rfl) 68 rfl (.inl rfl)) d1.2),?_⟩;refine⟨_,rfl,.inl ⟨l,_,rfl,.inl (mZ hl),?_⟩⟩;rw[eG];have p1:=tl.p1;have pl:=tl.le;refine⟨fun m σ G=>G=H/\∃e:Nat,σ=[qr0 l,some (.int (p:Nat)),some (.int (e:Nat))]/\e<=L.length/\ZK p (L.take e) f/\m=e,⟨L.length,rfl,L.length,rfl,eE _,by rw[i9];exact tl,rfl⟩,?_⟩;rintro m σ G ⟨rfl,e,rfl,le,te,rfl⟩;have pe:=te.le;rw[fh] at pe;have stop:∀q,G q=none->Q (.ref q) (upd G q (.lst (X9 (L.map V.bl) none (some (m:Int))))):=fun q hq=>by
  rw[U7,<- hU];exact k _ q _ (Ze hq) hq Zc te (by rw[fh];lia)
 refine⟨_,rfl,_,rfl,_,_,rfl,rfl,_,rfl,Vo (fun c=>?_) (fun c=>Z4 ?_)⟩
 ·have c1:p<m:=by have:=fA c;lia
  have i1:((m:Int)-1)=((m-1:Nat):Int):=by lia
  have i2:((m-1:Nat):Int)-(p:Int)=((m-1-p:Nat):Int):=by lia
  have g1:atI (L.map V.bl) ((m-1:Nat):Int)=some (.bl (L[m-1]' 21)):=Zj (by rw[eO,eI (show m-1<L.length by lia)];rfl);have g2:atI (L.map V.bl) ((m-1-p:Nat):Int)=some (.bl (L[m-1-p]' 21)):=Zj (by rw[eO,eI (show m-1-p<L.length by lia)];rfl);refine⟨_,rfl,_,rfl,_,_,rfl,rfl,l,_,_,_,rfl,rfl,mZ hl,by rw[i1];exact g1,_,rfl,_,rfl,_,_,rfl,rfl,_,rfl,_,_,rfl,rfl,l,_,_,_,rfl,rfl,mZ hl,by rw[i1,i2];exact g2,rfl,_,rfl,Vo (fun c2=>?_) (fun c2=>?_)⟩
  ·have c3:L[m-1]' 21=L[m-1-p]' 21:=V.bl.inj (fA c2);refine⟨fun σ F=>F=G/\σ=[qr0 l,some (.int (p:Nat)),some (.int ((m-1:Nat)))],?_,?_⟩
   ·rintro σ' G' ⟨hF,rfl⟩;refine⟨m-1,by lia,hF,m-1,rfl,by lia,?_,rfl⟩;obtain⟨n,rfl⟩:∃n,m=n+1:=⟨m-1,by lia⟩;exact ZK.cut te 21 21 c3
   ·refine⟨_,rfl,_,_,rfl,rfl,rfl,?_⟩
    show[some (V.ref l),some (V.int (p:Nat)),some (V.int ((m:Int)-1))]=_
    rw[i1]
  ·exact⟨_,rfl,_,rfl,_,rfl,l,_,rfl,mZ hl,stop⟩
 ·exact⟨_,rfl,_,rfl,_,rfl,l,_,rfl,mZ hl,stop⟩
def iV(is:List Nat):List V:=is.map fun(i:Nat)=>V.int ((i:Nat):Int)
theorem WE(is:List Nat):(iV is).length=is.length:=eG _
theorem Zap(is:List Nat):(nK is).map kV=iV is:=by unfold nK iV;rw[fL];rfl
theorem Ze2:∀w∈W1++W2++(["yes","sign","within","and","or"]:50),PyData.strOk w=true:=by left
theorem Jn(ok:YO c n):PyData.strOk (ZP c)=true:=by
 refine Ze2 _ ?_;cases c with
 |yes=>exact fC _ (show("yes" : Str)∈_ by left)
 |sign z=>exact fC _ (show("sign" : Str)∈_ by left)
 |wit m=>exact fC _ (show("within" : Str)∈_ by left)
 |op w=>exact fT _ (zK ok)
 |many w=>rcases ok.1 with rfl|rfl;exact fC _ (show("and" : Str)∈_ by left);exact fC _ (show("or" : Str)∈_ by left)
theorem QP(is:List Nat)(x:Str):(ζ x:Key)∉nK is:=fun h=>by
 unfold nK at h;obtain⟨i,_,e⟩:=eV.mp h;cases e
theorem JL(ok:YO c is.length):kO (Xm c is):=fun x hx=>by
 have hw:=Jn ok;cases c with
 |yes=>
  have:x = "yes" := by simpa[Xm] using hx
  rw[this];exact hw
 |sign z=>
  have:x = "sign" \/ x=z:=by simpa[Xm] using hx
  rcases this with rfl|rfl
  ·exact hw
  ·exact KH ok.2
 |wit m=>
  have:x = "within" \/ (ζ x:Key)∈nK is:=by simpa[Xm] using hx
  rcases this with rfl|h
  ·exact hw
  ·exact nu h (QP _ _)
 |op w=>
  have:x=w\/(ζ x:Key)∈nK is:=by simpa[Xm] using hx
  rcases this with rfl|h
  ·exact hw
  ·exact nu h (QP _ _)
 |many w=>
  have:x=w\/(ζ x:Key)∈nK is:=by simpa[Xm] using hx
  rcases this with rfl|h
  ·exact hw
  ·exact nu h (QP _ _)
theorem ZfS{b:Addr}(ok:YO c is.length)(hn:is≠[])(h:SqT K H b ((Xm c is).map kV)):Wv K H b (vG c is):=by
 rcases Va c is with⟨_,_,e,_⟩|⟨e,_⟩
 ·exact nu e hn
 ·rw[e];exact⟨h,JL ok⟩
theorem Zcd(sh:qm K H a vs c)(hl:vs.length=0)(ok:YO c 0):Wv K H a (vG c []):=by
 have hk:=JL (is:=[]) ok;cases c with
 |yes=>exact⟨sh.2,hk⟩
 |sign z=>exact⟨sh.2,hk⟩
 |wit m=>cases ok.2
 |op w=>rcases ok with⟨_,h⟩|⟨_,h⟩<;>cases h
 |many w=>
  obtain⟨b,h1,h2⟩:=sh;obtain rfl:=g6.mp hl;exact⟨⟨b,h1,h2⟩,Jn ok⟩
theorem Zen(sh:qm K H a vs c)(hl:vs.length=n)(ok:YO c n)(hn:0<n) :
  (∃m x xs,c=.wit m/\SqT K H a (.str "within" :: .int m::x::xs))\/(ZP c ≠ "within" /\ (∃x xs,SqT K H a (.str (ZP c)::x::xs))/\∀is,Xm c is=.inr (ZP c)::nK is):=by
 cases c with
 |yes=>have h:n=0:=ok;lia
 |sign z=>have h:n=0:=ok.1;lia
 |wit m=>
  cases vs with
  |nil=>simp at hl;lia
  |cons x xs=>exact .inl ⟨m,x,xs,rfl,sh⟩
 |op w=>
  cases vs with
  |nil=>simp at hl;lia
  |cons x xs=>exact .inr ⟨(VE w (zK ok)).2.2.1,⟨x,xs,sh⟩,fun _=>rfl⟩
 |many w=>
  obtain⟨b,h1,h2⟩:=sh;exact .inr ⟨by rcases ok.1 with rfl|rfl<;>left,⟨.ref b,[],h1⟩,fun _=>rfl⟩
theorem lb8(ok:YO c n):n<=8:=by
 cases c with
 |yes=>have h:n=0:=ok;lia
 |sign s=>have h:n=0:=ok.1;lia
 |op w=>rcases ok with o|o;have h:n=1:=o.2;lia;have h:n=2:=o.2;lia
 |wit m=>have h:n=2:=ok.2;lia
 |many w=>exact ok.2
theorem Q9{k:Nat}(h:k<n):¬(HT.sIx n 0 none=0/\HT.sIx n n (some (k:Int))=n):=by
 rintro⟨_,h1⟩;have h2:¬((k:Int)<0):=by lia
 unfold HT.sIx at h1;simp only[h2,ft] at h1;lia
def JZ(K:W.Frag)(a:Adr):Sp:=fun vs H Q _=>Ex5 fun(v:V) (t:Tr) (n:Nat) (l:Addr) (is:List Nat)=>Cj5 (vs=[v,.ref l]) (At K n H v t) (H l=some (.lst (iV is))) (is.length=t.ks.length) (∀H' b,Zf H H'->Wv K H' b (vG t.lb is)->Q (.ref b) H')
theorem Ks{a:Adr}:66 1 a.y14 a.z14 cZ JZ:=fun T hw=>by
 refine okX T.bP.f yB 69;intro X
 let d1:Rdg X Ug [1]:=⟨_,(@Zd _ _ _ _ _ (@Zu _ _ (2) _ _ _ _ yB.nd rfl (.inl rfl) (Kg (@Zt _ _ _ _ _ _ _ _ YA (@Zq _ _ _ _ _ _ _ (ZU (K:=K) rfl) (pv 0) Zi (fun _ _=>rfl)) Zl (ZB _)) (ZW (Uw (K:=K) rfl) (pv 0) YH (ZS Zi)) (ZW (Uw (K:=K) rfl) (pv 0) YH (ZS Zi))) rfl (.inl rfl)) (@Zg _ _ _ (@Zm _ _ _ _ (@ZO _ _ _ _ _ _ _ _ (yY (K:=K) rfl) (pv 2) (Z2 (Yj (K:=K) rfl) rfl T.aH m9 (@Za _ _ _ _ _ (pv 1) Zb rfl))))))⟩
 intro vs Q h;obtain⟨v,t,n,l,is,rfl,om,hl,uj,k⟩:=h;refine⟨_,(@Zd _ _ _ _ _ (@ZQ _ _ _ _ _ _ _ _ (@Xj _ _ _ _ (WU (K:=K) rfl (pv 1) (fun _=>rfl))) (@Zg _ _ _ (@Zm _ _ _ _ (pv 0))) Zx) d1.2),?_⟩;cases n with
 |zero=>exact om.elim
 |succ n=>
  obtain⟨ad,us,rfl,sh,ok,rb,hq⟩:=om;refine⟨_,rfl,!(iV is).isEmpty,.inl ⟨_,mZ hl,rfl⟩,?_⟩;cases his:(iV is).isEmpty with
  |true=>
   have e0:iV is=[]:=mM.mp his;have e1:is=[]:=g6.mp (by rw[<- WE,e0];rfl);subst e1;have z0:t.ks.length=0:=uj.symm;rw[z0] at ok rb;exact YD ⟨_,rfl,k H ad (fun _ _ e=>e) (Zcd sh rb ok)⟩
  |false=>
   have Ev:is≠[]:=fun e=>by rw[e] at his;cases his
   have rA:0<t.ks.length:=by rw[<- uj];exact ij.mpr Ev
   have Se:YO t.lb is.length:=by rw[uj];exact ok
   have h8:=lb8 ok;refine Z4 ?_;have nE:∀(q:Addr) (hd:List V) (H1:Hp),Zf H H1->H1 q=some (.tup hd)->hd≠[]->hd.length<=2->hd++iV is=(Xm t.lb is).map kV ->
     ∀b,H1 b=none->∀c,(upd H1 b (.tup (iV is))) c=none->Q (.ref c) (upd (upd H1 b (.tup (iV is))) c (.tup (hd++iV is))):=fun q hd H1 s1 e1 nM rN ek b hb c hc=>by
    refine k _ c ((s1.trans (Ze hb)).trans (Ze hc)) (ZfS Se Ev ?_);rw[<- ek];exact m6 Zc
   rcases Zen sh rb ok rA with⟨m,x,xs,ew,ea⟩|⟨hw,⟨x,xs,ea⟩,hk⟩
   ·refine⟨_,rfl,ad,_,_,_,rfl,rfl,ea,72,rfl,_,rfl,XH rfl ?_⟩;refine⟨_,rfl,_,rfl,ad,_,rfl,ea,Q9 (k:=2) 47,fun q hq=>?_⟩;have ec:X9 (V.str "within" :: .int m::x::xs) none (some 2)=[V.str "within",.int m]:=yT (V.str "within" :: .int m::x::xs) 2 47;rw[ec];have s1:=Ze (o:=.tup [V.str "within",.int m]) hq;have e1:(upd H q (.tup [V.str "within",.int m])) q=some (.tup [V.str "within",.int m]):=Zc;generalize upd H q (.tup [V.str "within",.int m])=H1 at s1 e1 ⊢;refine⟨_,rfl,_,rfl,l,_,rfl,.inl ⟨mZ (s1 _ _ hl),fun b hb=>?_⟩⟩;refine⟨q,b,_,_,rfl,rfl,m6 (Ze hb _ _ e1),m6 Zc,by simp,by rw[WE,eJ];simp;lia,fun z=>?_,fun _ c sk=>nE q _ H1 s1 e1 47 47 (by rw[ew];show _=V.str "within" :: V.int m::(nK is).map kV;rw[Zap];rfl) b hb c sk⟩;rw[z] at his;cases his
   ·refine⟨_,rfl,ad,_,_,_,rfl,rfl,ea,72,rfl,_,rfl,Z7 (fun z=>hw 77) ?_⟩;refine⟨_,rfl,_,rfl,ad,_,rfl,ea,Q9 (k:=1) 47,fun q hq=>?_⟩;have ec:X9 (V.str (ZP t.lb)::x::xs) none (some 1)=[V.str (ZP t.lb)]:=yT (V.str (ZP t.lb)::x::xs) 1 47;rw[ec];have s1:=Ze (o:=.tup [V.str (ZP t.lb)]) hq;have e1:(upd H q (.tup [V.str (ZP t.lb)])) q=some (.tup [V.str (ZP t.lb)]):=Zc;generalize upd H q (.tup [V.str (ZP t.lb)])=H1 at s1 e1 ⊢;refine⟨_,rfl,_,rfl,l,_,rfl,.inl ⟨mZ (s1 _ _ hl),fun b hb=>?_⟩⟩;refine⟨q,b,_,_,rfl,rfl,m6 (Ze hb _ _ e1),m6 Zc,by simp,by rw[WE,eJ];simp;lia,fun z=>?_,fun _ c sk=>nE q _ H1 s1 e1 47 47 (by rw[hk,eM,Zap];rfl) b hb c sk⟩;rw[z] at his;cases his
def yf(c:Lb)(is:List Nat):List Nat:=match c with
 |.op w=>if w = "some" then[] else is
 |_=>is
theorem ZcK(ok:YO c is.length)(nw:∀m,c≠.wit m):(ZP c∈(["yes","sign","some"]:50)/\yf c is=[])\/(ZP c∉(["yes","sign","some"]:50)/\(Xm c is).map kV=.str (ZP c)::iV is/\yf c is=is):=by
 cases c with
 |yes=>exact .inl ⟨by simp[ZP],g6.mp ok⟩
 |sign z=>exact .inl ⟨by simp[ZP],g6.mp ok.1⟩
 |wit m=>exact nu rfl (nw m)
 |op w=>
  by_cases h:w = "some"
  ·subst h;exact .inl ⟨by simp[ZP],by show(if("some" : Str) = "some" then[] else is)=[];rw[nt rfl]⟩
  ·have wa:=VE w (zK ok);refine .inr ⟨?_,by rw[<- Zap];rfl,nn h⟩;simp only[ZP,eU,gz,gA];exact fun z=>z.elim wa.1 fun z=>z.elim wa.2.1 h
 |many w=>
  refine .inr ⟨?_,by rw[<- Zap];rfl,rfl⟩;rcases ok.1 with rfl|rfl<;>left
def Zcb(K:W.Frag)(a:Adr):Sp:=fun vs H Q _=>Ex3 fun(b:Addr) (c:Lb) (is:List Nat)=>Cj5 (vs=[.ref b]) (SqT K H b ((Xm c is).map kV)) (YO c is.length) ((∀m,c≠.wit m)) (∀H' b',Zf H H'->SqT K H' b' (iV (yf c is))->Q (.ref b') H')
theorem Zcc{a:Adr}:66 1 a.y19 a.z19 ["row"] Zcb:=fun T hw=>by
 refine okF T.ck.f Zdf 73;obtain⟨b,c,is,rfl,hb,ok,nw,k⟩:=h;refine⟨_,(@Zg _ _ _ (@Zm _ _ _ _ (Kg (@Zt _ _ _ _ _ _ _ _ (WZ (K:=K) rfl) (@Zq _ _ _ _ _ _ _ (ZU (K:=K) rfl) (pv 0) Zi (fun _ _=>rfl)) (@ZI _ _ _ _ _ (@ZA _ _ _ _ _ Zl (@ZA _ _ _ _ _ Zl (@ZA _ _ _ _ _ Zl Zb rfl) rfl) rfl)) (by with_unfolding_all rfl)) (@ZI _ _ _ _ _ Zb) (ZW (Uw (K:=K) rfl) (pv 0) (ZS Zi) YH)))),?_⟩;obtain⟨r0,Nh⟩:=xK (c:=c) (is:=is);have N2:SqT K H b (.str (ZP c)::r0.map kV):=by rw[Nh] at hb;exact hb
 refine⟨_,rfl,b,_,_,_,rfl,rfl,N2,72,by rw[eJ];simp,fun q hq=>⟨q,_,rfl,.inr (m6 Zc),rfl,rfl,_,rfl,?_⟩⟩;have s1:=Ze (o:=.tup [.str "yes",.str "sign",.str "some"]) hq;generalize upd H q (.tup [.str "yes",.str "sign",.str "some"])=H1 at s1 ⊢;rcases ZcK ok nw with⟨h1,h2⟩|⟨h1,h2,h3⟩
 ·refine qr (ss:=["yes","sign","some"]) h1 ⟨by rw[eJ];simp,fun e he=>?_⟩;rw[h2] at k;exact k _ e (s1.trans (Ze he)) (m6 Zc)
 ·refine Xo (ss:=["yes","sign","some"]) h1 ?_;rw[h2] at hb;refine⟨_,rfl,_,rfl,b,_,rfl,(m5 s1 _ _ _ hb),kT 48 (by simp;lia),fun e he=>?_⟩;rw[Kq];rw[h3] at k;exact k _ e (s1.trans (Ze he)) (m6 Zc)
def zp(K:W.Frag)(a:Adr):Sp:=fun vs H Q _=>ZeW fun r P R D ps v t n b ks=>Cj7 (vs=[.ref r,v,.ref b]) (TbY K a.Pm a.C_Table H r P R D ps) (At K n H v t) (Wv K H b ks) (WB ps t ks) (ps.length<4000) (∀H' (i:Nat),Vt P R D H H'->TbY K a.Pm a.C_Table H' r P R D (UF ps t)->(UF ps t)[i]?=some t->Q (.int (i:Int)) H')
theorem ZgC{t:Tr}(h:At K n H v t):YO t.lb t.ks.length:=by
 cases n with
 |zero=>exact h.elim
 |succ n=>obtain⟨_,_,_,_,ok,_⟩:=h;exact ok
theorem lkP{v3:V}:([("parts",v1),("rows",v2),("numbers",v3)]:78).lookup ("parts" : Str)=some v1:=rfl
theorem lkR{v3:V}:([("parts",v1),("rows",v2),("numbers",v3)]:78).lookup ("rows" : Str)=some v2:=by
 have e:(("rows" : Str) == "parts")=false:=by left
 rw[fD,e];rfl
theorem lkD{v3:V}:([("parts",v1),("rows",v2),("numbers",v3)]:78).lookup ("numbers" : Str)=some v3:=by
 have e:(("numbers" : Str) == "parts")=false:=by left
 have e2:(("numbers" : Str) == "rows")=false:=by left
 rw[fD,e]
 show θ _ _=_
 rw[fD,e2];rfl
theorem zw{a:Adr}:66 1 a.y17 a.z17 dj zp:=fun T hw=>by
 refine okX T.aE.f zN 69;intro X
 let d1:Rdg X Y6 [0,0,1]:=⟨_,(@Zd _ _ _ _ _ (@YG _ _ _ _ (Wc fR ge gf Z9 (X0 (K:=K) rfl (pv 0) rfl) (@Za _ _ _ _ _ (pv 1) Zb rfl)) rfl) (@Zg _ _ _ (@YG _ _ _ _ (Wc fR ge gf Z9 (X0 (K:=K) rfl (pv 0) rfl) (@Za _ _ _ _ _ (pv 2) Zb rfl)) rfl)))⟩
 let d2:Rdg X Y6 [0,0,0]:=⟨_,(@Zd _ _ _ _ _ (Zd8 (K:=K) (Pm:=a.Pm) rfl hw (YK.units4 hr) (X0 (K:=K) rfl (pv 0) rfl) (pv 2) (Zn (Zw (K:=K) rfl) rfl T.az ng (@Za _ _ _ _ _ (X0 (K:=K) rfl (pv 0) rfl) Zb rfl)) rfl) d1.2)⟩
 intro vs Q h;obtain⟨r,P,R,D,ps,v,t,n,b,ks,rfl,tb,om,hb,oS,hsz,k⟩:=h;refine⟨_,(@Zd _ _ _ _ _ (@ZQ _ _ _ _ _ _ _ _ (Zge (ZbF (K:=K) (Pm:=a.Pm) rfl hw (YK.units4 hr) (pv 2) (X0 (K:=K) rfl (pv 0) rfl))) d2.2 Zx) (@Zg _ _ _ (@Zm _ _ _ _ (Zd6 (K:=K) (Pm:=a.Pm) rfl hw (YK.units4 hr) (X0 (K:=K) rfl (pv 0) rfl) (pv 2) (fun _ _=>rfl))))),?_⟩;obtain⟨⟨dx,ho⟩,⟨np,pv,hP,aP⟩,⟨rows,hR,rl,uJ,uY,hD⟩,nd,pr⟩:=id tb;have GG:(rows.map (·.1)).length=ps.length:=by rw[eG];exact rl
 obtain⟨knd,BZ⟩:=Qb (rks:=rows.map (·.1)) nd GG aP.oks fun i t ks h1 h2=>by
  rw[eO] at h2;obtain⟨e,he,rfl⟩:=gZ.mp h2;exact uY i t e h1 he
 obtain⟨kin,AN⟩:=BZ (ZgC om) oS;have rY:∀e∈Vr 0 rows,Wv K H e.2.1 e.1:=fun e he=>uJ _ (vc he);refine⟨_,rfl,_,rfl,r,_,dx,_,_,rfl,ho,T.am,T.aj,lkD,D,_,rfl,⟨_,ks,b,hD,rfl,hb,rY,rfl⟩,?_⟩;rw[kR]
 by_cases ht:t∈ps
 ·obtain⟨i,hi,e⟩:=fO ht;have Ab:ps[i]?=some t:=by rw[<- e];exact eI hi
  have hv:=Jg (n:=0) knd (kin i Ab);rw[iZ] at hv;rw[hv];refine⟨_,rfl,Z4 ?_⟩;exact⟨_,rfl,r,_,dx,_,_,rfl,ho,T.am,T.aj,lkD,_,rfl,D,_,rfl,⟨_,ks,b,hD,rfl,hb,rY,by rw[kR,hv]⟩,k H i .refl (by rw[yO ht];exact tb) (by rw[yO ht];exact Ab)⟩
 ·have hv:=QW (n:=0) (AN ht);rw[hv];refine⟨_,rfl,YD ?_⟩;have aR:=aP.1;refine⟨_,rfl,r,_,dx,_,_,rfl,ho,T.am,T.aC,lkR,.inl ⟨R,_,rfl,.inl (mZ hR),_,rfl,r,_,dx,_,_,rfl,ho,T.am,T.aj,lkD,_,rfl,D,_,rfl,⟨_,ks,b,hD,rfl,hb,rY,by rw[kR];exact hv,by rw[J5,eJ];lia,rfl⟩,?_⟩⟩;have ep:Vr 0 rows++[(ks,b,V.int (((rows.map fun e=>V.ref e.2).length:Nat):Int))]=Vr 0 (rows++[(ks,b)]):=by
   rw[je,eG,iZ]
  rw[ep];have sI:P≠D:=VD hP hD (by intro z;cases z);have Me:R≠D:=VD hR hD (by intro z;cases z);have Oa:r≠D:=VD ho hD (by intro z;cases z);have nN:(upd H D (DyO a.Pm D (Vr 0 (rows++[(ks,b)])))) r=_:=X8 ho Oa;have Dw:(upd H D (DyO a.Pm D (Vr 0 (rows++[(ks,b)])))) P=_:=X8 hP sI;have HL:(upd H D (DyO a.Pm D (Vr 0 (rows++[(ks,b)])))) R=_:=X8 hR Me;have Gu:(upd H D (DyO a.Pm D (Vr 0 (rows++[(ks,b)])))) D=_:=Zc;have s1:Vt P R D H (upd H D (DyO a.Pm D (Vr 0 (rows++[(ks,b)])))):=fun c o _ _ n3 e=>by rw[Zo n3];exact e
  generalize upd H D (DyO a.Pm D (Vr 0 (rows++[(ks,b)])))=H1 at nN Dw HL Gu s1 ⊢;refine⟨_,rfl,r,_,dx,_,_,rfl,nN,T.am,T.aZ,lkP,.inl ⟨rfl,_,mZ Dw⟩,_,rfl,P,_,_,rfl,rfl,Dw,by rw[eJ];lia,?_⟩;have Si:r≠P:=VD ho hP (by intro z;cases z);have oB:(upd H1 P (.lst (pv++[v]))) r=_:=X8 nN Si;have AD:(upd H1 P (.lst (pv++[v]))) P=_:=Zc;have wT:(upd H1 P (.lst (pv++[v]))) R=_:=X8 HL (eX pr);have oz:(upd H1 P (.lst (pv++[v]))) D=_:=X8 Gu (eX sI);have s2:Vt P R D H (upd H1 P (.lst (pv++[v]))):=fun c o n1 n2 n3 e=>by rw[Zo n1];exact s1 _ _ n1 n2 n3 e
  generalize upd H1 P (.lst (pv++[v]))=H2 at oB AD wT oz s2 ⊢;refine⟨_,rfl,r,_,dx,_,_,rfl,oB,T.am,T.aC,lkR,.inl ⟨rfl,_,mZ wT⟩,_,rfl,R,_,_,rfl,rfl,wT,by rw[eG,eJ];lia,?_⟩;have SX:r≠R:=VD ho hR (by intro z;cases z);have er:(rows.map fun e=>V.ref e.2)++[V.ref b]=(rows++[(ks,b)]).map fun e=>V.ref e.2:=by rw[fo];rfl
  rw[er];have tF:(upd H2 R (.lst ((rows++[(ks,b)]).map fun e=>V.ref e.2))) r=_:=X8 oB SX;have MN:(upd H2 R (.lst ((rows++[(ks,b)]).map fun e=>V.ref e.2))) P=_:=X8 AD pr;have HZ:(upd H2 R (.lst ((rows++[(ks,b)]).map fun e=>V.ref e.2))) R=_:=Zc;have Bq:(upd H2 R (.lst ((rows++[(ks,b)]).map fun e=>V.ref e.2))) D=_:=X8 oz (eX Me);have s3:Vt P R D H (upd H2 R (.lst ((rows++[(ks,b)]).map fun e=>V.ref e.2))):=fun c o n1 n2 n3 e=>by rw[Zo n2];exact s2 _ _ n1 n2 n3 e
  generalize upd H2 R (.lst ((rows++[(ks,b)]).map fun e=>V.ref e.2))=H3 at tF MN HZ Bq s3 ⊢;have u3:Yw H H3:=tb.t s3;have eA:UF ps t=ps++[t]:=zg ht;have Ng:((rows++[(ks,b)]).map (·.1)).Nodup:=by
   rw[fo,lc];exact⟨knd,by simp,fun x hx y hy e=>AN ht (by
    have:y=ks:=by simpa using hy
    rw[this] at e;rw[<- e];exact hx)⟩
  have SK:((rows++[(ks,b)]).map (·.1))[ps.length]?=some ks:=by rw[fo,<- GG,fS (eE _),hJ];rfl
  have pK:=Jg (n:=0) Ng SK;rw[iZ] at pK;have R9:(ps++[t])[ps.length]?=some t:=by rw[fS (eE _),hJ];rfl
  have BO:∀e∈rows++[(ks,b)],Wv K H3 e.2 e.1:=fun e he=>by
   rcases fj.mp he with he|he
   ·exact(uJ e he).mono u3
   ·rw[eZ.mp he];exact hb.mono u3
  refine⟨_,rfl,r,_,dx,_,_,rfl,tF,T.am,T.aj,lkD,_,rfl,D,V.int ((ps.length:Nat):Int),rfl,⟨_,ks,b,Bq,rfl,hb.mono u3,fun e he=>BO _ (vc he),by rw[kR];exact pK.symm⟩,k H3 ps.length s3 ?_ (by rw[eA];exact R9)⟩;rw[eA];have sU:∀{α:Type}{xs:List α}{y x:α}{i:Nat},(xs++[y])[i]?=some x->(i<xs.length/\xs[i]?=some x)\/(i=xs.length/\x=y):=fun {α xs y x i} h=>by
   by_cases hi:i<xs.length
   ·rw[fK hi] at h;exact .inl ⟨hi,h⟩
   ·have hj:=(eY.mp h).1;rw[eK,fY] at hj;have wL:i=xs.length:=by lia
    subst wL;rw[fS (eE _),hJ] at h;exact .inr ⟨rfl,by simpa using h.symm⟩
  refine⟨⟨dx,tF⟩,⟨max np n,pv++[v],MN,((aP.le (Nat.le_max_left _ _)).mono u3).app (AtL.one ((om.le (Nat.le_max_right _ _)).mono u3))⟩,⟨rows++[(ks,b)],HZ,by simp[rl],BO,fun i x e h1 h2=>?_,Bq⟩,?_,pr⟩
  ·rcases sU h1 with⟨l1,h1⟩|⟨l1,h1⟩
   ·rcases sU h2 with⟨l2,h2⟩|⟨l2,h2⟩
    ·exact(uY i x e h1 h2).more
    ·lia
   ·rcases sU h2 with⟨l2,h2⟩|⟨l2,h2⟩
    ·lia
    ·subst h1 h2;exact oS.more
  ·rw[<- eA];exact ve nd
theorem j4{l:Expr}(hK:X.K=K)(hl:PE X l tl):PI X tg l (Zg0 K tl):=by subst hK;exact Zf0 hl
def qe(ps:67)(is:List Nat)(ts:67):Prop:=is.length=ts.length/\∀(j:Nat) m s,is[j]?=some m->ts[j]?=some s->ps[m]?=some s
theorem VX{m:Nat}{s:Tr}:qe ps (m::is) (s::ts)↔ps[m]?=some s/\qe ps is ts:=by
 constructor
 ·rintro⟨h1,h2⟩;exact⟨h2 0 m s rfl rfl,by simpa using h1,fun j m' s' e1 e2=>h2 (j+1) m' s' (by simpa using e1) (by simpa using e2)⟩
 ·rintro⟨h0,h1,h2⟩;refine⟨by simp[h1],fun j m' s' e1 e2=>?_⟩;cases j with
  |zero=>
   have a:m=m':=by simpa using e1
   have b:s=s':=by simpa using e2
   rw[<- a,<- b];exact h0
  |succ j=>exact h2 j m' s' (by simpa using e1) (by simpa using e2)
theorem Zcm{js:List Nat}{rs:67}(h:qe ps is ts)(g:qe ps js rs):qe ps (is++js) (ts++rs):=by
 refine⟨by rw[eK,eK,h.1,g.1],fun i u k h1 h2=>?_⟩
 by_cases hi:i<is.length
 ·rw[fK hi] at h1;rw[fK (by rw[<- h.1];exact hi)] at h2;exact h.2 i u k h1 h2
 ·rw[fS 21] at h1;rw[fS (by rw[<- h.1];lia),<- h.1] at h2;exact g.2 _ u k h1 h2
theorem Ko{m:Nat}{s:Tr}(h:ps[m]?=some s):qe ps [m] [s]:=VX.mpr ⟨h,rfl,fun j a b e=>by simp at e⟩
theorem vo{ps:67}(nd:ps.Nodup):∀{fs:List Nat}{F:67},qe ps fs F->∀{m:Nat}{s:Tr},ps[m]?=some s->(m∈fs↔s∈F)
 |[],[],_,m,s,_=>by simp
 |[],_::_,h,_,_,_=>by have:=h.1;simp at this
 |_::_,[],h,_,_,_=>by have:=h.1;simp at this
 |a::fs,t::F,h,m,s,hm=>by
  obtain⟨h1,h2⟩:=VX.mp h;rw[eU,eU,vo nd h2 hm];constructor
  ·rintro(e|e)
   ·refine .inl ?_;rw[e,h1] at hm;exact(fc hm).symm
   ·exact .inr e
  ·rintro(e|e)
   ·refine .inl ?_;rw[e] at hm;exact jp nd hm h1
   ·exact .inr e
theorem Qs{t:Tr}(h:qe ps is t.ks):qe ps (yf t.lb is) (YQ t):=by
 unfold yf YQ;cases t.lb with
 |op w=>
  show qe ps (if w = "some" then[] else is) (if w = "some" then[] else t.ks)
  split
  ·exact⟨rfl,fun j m s e=>by simp at e⟩
  ·exact h
 |yes=>exact h
 |sign z=>exact h
 |wit m=>exact h
 |many w=>exact h
theorem xX{ps:67}(nd:ps.Nodup){fs:List Nat}{F:67}(hF:qe ps fs F):∀{bi:List Nat}{ks:67},qe ps bi ks ->
  (bi.filter (fun m=>!decide (m∈fs))=[]/\∀k∈ks,k∈F)\/∃a1 XB A k B,bi.filter (fun m=>!decide (m∈fs))=a1::XB/\ks=A++k::B/\(∀x∈A,x∈F)/\ps[a1]?=some k/\k∉F
 |[],[],_=>.inl ⟨rfl,fun k h=>by cases h⟩
 |[],_::_,h=>by have:=h.1;simp at this
 |_::_,[],h=>by have:=h.1;simp at this
 |m::bi,k::ks,h=>by
  obtain⟨h1,h2⟩:=VX.mp h;have hm:=vo nd hF h1
  by_cases hk:m∈fs
  ·have e:(m::bi).filter (fun m=>!decide (m∈fs))=bi.filter (fun m=>!decide (m∈fs)):=mr (by simp[hk]);rw[e];rcases xX nd hF h2 with⟨g1,g2⟩|⟨a1,XB,A,k',B,g1,g2,g3,g4,g5⟩
   ·exact .inl ⟨g1,fun x hx=>by rcases eU.mp hx with rfl|hx;exact hm.mp hk;exact g2 x hx⟩
   ·exact .inr ⟨a1,XB,k::A,k',B,g1,by rw[g2];rfl,fun x hx=>by rcases eU.mp hx with rfl|hx;exact hm.mp hk;exact g3 x hx,g4,g5⟩
  ·have e:(m::bi).filter (fun m=>!decide (m∈fs))=m::bi.filter (fun m=>!decide (m∈fs)):=mq (by simp[hk]);exact .inr ⟨m,_,[],k,ks,e,rfl,fun x hx=>(by cases hx),h1,fun z=>hk (hm.mpr z)⟩
theorem vf(a b:List Nat):iV (a++b)=iV a++iV b:=by unfold iV;rw[fo]
def INv(H:Hp)(r Fd Sn W:Addr)(i:Nat)(ps rX:67)(m:Nat)(σ:L3.St)(H':Hp):Prop:=∃(z1 z2:Option V) (ws fs:List Nat) (w F:67) (S:Int->Bool),σ=[qr0 r,some (.int (i:Int)),qr0 Fd,qr0 Sn,qr0 W,z1,z2]/\Zf H H'/\H' Fd=some (.lst (iV fs))/\H' Sn=some (.set S fs.length)/\H' W=some (.lst (iV ws.reverse))/\qe ps ws w/\qe ps fs F/\(∀q:Nat,S (q:Int)=true↔q∈fs)/\U1 F/\xv w F=rX/\yj w/\(∀s∈w,s∉F)/\(∀s∈w,psz s<=2000000)/\m=(rX.length-F.length)*2000001+(2000000-w.length)
def Up(K:W.Frag)(a:Adr):Sp:=fun vs H Q _=>Ex7 fun r P R D ps t (i:Nat)=>Cj7 (vs=[.ref r,.int (i:Int)]) (TbY K a.Pm a.C_Table H r P R D ps) (ps[i]?=some t) ((∀s∈ps,isC s=true)) (psz t<=2000000) ((Zp [] (ZF t)).length<4000) (∀H' L is,Zf H H'->H L=none->H' L=some (.lst (iV is))->qe ps is (Zp [] (ZF t))->Q (.ref L) H')
theorem Um{a:Adr}:66 2 a.y18 a.z18 dk Up:=fun T hw=>by
 refine okX T.ak.f ZV 69;intro X
 let d1:Rdg X Zy [3,0,2,0,0]:=⟨_,(@Zg _ _ _ (@YG _ _ _ _ (Wc fR ge gf Z9 (pv 4) (@Za _ _ _ _ _ (@Zq _ _ _ _ _ _ _ 54 (pv 6) Zi (fun _ _=>rfl)) Zb rfl)) rfl))⟩
 let d2:Rdg X Zy [3,0,2,1,0]:=⟨_,(@Zd _ _ _ _ _ (@YG _ _ _ _ (Wc fR ge gf Z9 (pv 2) (@Za _ _ _ _ _ (ZdC fR PySem.F.slot_list_pop PySem.F.type_list_pop ZdO (pv 4)) Zb rfl)) rfl) (@Zg _ _ _ (@YG _ _ _ _ (Wc PySem.F.plainAttrs_set PySem.F.slot_set_add PySem.F.type_set_add ZaN (pv 3) (@Za _ _ _ _ _ (pv 5) Zb rfl)) rfl)))⟩
 let d3:Rdg X Zy [3,0,2]:=⟨_,(@Zg _ _ _ (@ZQ _ _ _ _ _ _ _ _ (WU (K:=K) rfl (pv 6) (fun _=>rfl)) d1.2 d2.2))⟩
 let d4:Rdg X Zy [3,0,1]:=⟨_,(@Zd _ _ _ _ _ (XV (i:=6) ZV.nd rfl rfl (Nc:=["inner","seen"]) (ix:=[none,some 3]) (ZX.of (by left:Yc (Zh Zy) Wd _ _ _=true)) rfl (j4 (K:=K) rfl (ZD T.ck (Zcc T hw) hr rfl rfl (@Za _ _ _ _ _ (@Zq _ _ _ _ _ _ _ 54 (X0 (K:=K) rfl (pv 0) rfl) (pv 5) (fun _ _=>rfl)) Zb rfl))) (fun _ _ _ _ _=>(Zz (i:=0) (show δ (["inner","seen"]:50) by left) rfl (.inl rfl))) (fun _ _ _ _ _=>(zx (@Zt _ _ _ _ _ _ _ _ Zbs (pv 0) (pv 1) (by with_unfolding_all rfl)))) (fun _ _ _ _ _=>(pv 0))) d3.2)⟩
 let d5:Rdg X Zy [3,0,0]:=⟨_,(@Zd _ _ _ _ _ (@Zu _ _ (5) _ _ _ _ ZV.nd rfl (.inl rfl) (@Zq _ _ _ _ _ _ _ 54 (pv 4) (UG Vi Zi) (fun _ _=>rfl)) rfl (.inl rfl)) d4.2)⟩
 let d6:Rdg X Zy [3]:=⟨_,(@Zd _ _ _ _ _ (zk fP (WU (K:=K) rfl (pv 4) (fun _=>rfl)) d5.2) (@Zg _ _ _ (@Zm _ _ _ _ (pv 2))))⟩
 let d7:Rdg X Zy [2]:=⟨_,(@Zd _ _ _ _ _ (@Zu _ _ (4) _ _ _ _ ZV.nd rfl (.inl rfl) (@Yd _ _ _ _ (@Za _ _ _ _ _ (pv 1) Zb rfl)) rfl (.inl rfl)) d6.2)⟩
 let d8:Rdg X Zy [1]:=⟨_,(@Zd _ _ _ _ _ (@Zu _ _ (3) _ _ _ _ ZV.nd rfl (.inr rfl) (Qf ZaT rfl T.cD nj) rfl (.inl rfl)) d7.2)⟩
 intro vs Q h;obtain⟨r,P,R,D,ps,t,i,rfl,tb,hi,hc,hz,oq,k⟩:=h;refine⟨_,(@Zd _ _ _ _ _ (@Zu _ _ (2) _ _ _ _ ZV.nd rfl (.inl rfl) (@Yd _ _ _ _ Zb) rfl (.inl rfl)) d8.2),?_⟩;refine⟨by left,fun Fd E9=>?_⟩;have s1:=Ze (o:=.lst []) E9;have e1:(upd H Fd (.lst [])) Fd=some (.lst (iV [])):=Zc;generalize upd H Fd (.lst [])=H1 at s1 e1 ⊢;refine⟨rfl,fun Sn B3=>?_⟩;have s2:=Ze (o:=.set (fun _=>false) 0) B3;have e2:(upd H1 Sn (.set (fun _=>false) 0)) Sn=some (.set (fun _=>false) 0):=Zc;have uB:=s2 _ _ e1;have EO:=s1.free B3;generalize upd H1 Sn (.set (fun _=>false) 0)=H2 at s2 e2 uB ⊢;refine⟨_,rfl,by rw[eJ];simp,fun W hW=>?_⟩;have s3:=Ze (o:=.lst [.int (i:Int)]) hW;have e3:(upd H2 W (.lst [.int (i:Int)])) W=some (.lst (iV [i].reverse)):=Zc;have Au:=s3 _ _ uB;have Cb:=s3 _ _ e2;have Cc:=(s1.trans s2).free hW;have uL:Fd≠W:=fun e=>by rw[e] at uB;rw[uB] at hW;cases hW
 have FP:Sn≠W:=fun e=>by rw[e] at e2;rw[e2] at hW;cases hW
 have Ih:Fd≠Sn:=fun e=>by rw[e] at e1;rw[e1] at B3;cases B3
 generalize upd H2 W (.lst [.int (i:Int)])=H3 at s3 e3 Au Cb ⊢;have A8:=s1.trans (s2.trans s3);clear s1 e1 s2 e2 uB s3 B3 hW;have nd:=tb.nd;generalize htgt:Zp [] (ZF t)=rX at k oq;refine⟨INv H r Fd Sn W i ps rX,⟨_,none,none,[i],[],[t],[],fun _=>false,rfl,A8,Au,Cb,e3,Ko hi,⟨rfl,fun j m s e=>by simp at e⟩,fun q=>by simp,Qw,htgt,trivial,fun s _ z=>(by cases z),fun s hs=>by rw[eZ.mp hs];exact hz,rfl⟩,?_⟩;clear Au Cb e3 A8 H3;rintro m σ H3 ⟨z1,z2,ws,fs,w,F,S,rfl,s3,BH,FN,tI,nw,nf,hS,cl,pC,pR,tW,Bm,rfl⟩;refine⟨_,rfl,!(iV ws.reverse).isEmpty,.inl ⟨_,mZ tI,rfl⟩,?_⟩;cases ws with
 |nil=>
  have ew:w=[]:=g6.mp nw.1.symm;subst ew;refine Z4 ?_;have eF:F=rX:=pC;rw[eF] at nf;exact⟨_,rfl,k H3 Fd fs s3 E9 BH nf⟩
 |cons a0 ws=>
  cases w with
  |nil=>have:=nw.1;simp at this
  |cons t0 w=>
   obtain⟨Bv,Hf⟩:=VX.mp nw;have Fz:iV (a0::ws).reverse=iV ws.reverse++[.int (a0:Int)]:=by rw[i8,vf];rfl
   rw[Fz] at tI ⊢;have Nj:(iV ws.reverse++[V.int (a0:Int)]).isEmpty=false:=by simp
   rw[Nj];refine YD ⟨fun σ' H'=>∃m',m'<(rX.length-F.length)*2000001+(2000000-(t0::w).length)/\INv H r Fd Sn W i ps rX m' σ' H',fun _ _ z=>z,?_⟩;refine⟨_,rfl,_,rfl,W,_,_,.int (a0:Int),rfl,rfl,mZ tI,qV,?_⟩;have sR:=tb.mono s3;obtain⟨dx,ho⟩:=sR.obj;obtain⟨np,pv,hP,aP⟩:=sR.pl;obtain⟨rows,hR,rl,uJ,uY,hD⟩:=sR.rk hc;have ha0:a0<ps.length:=(eY.mp Bv).1;have wR:rows[a0]?=some rows[a0]:=eI 21;have hb:=uJ _ (fv (show a0<rows.length by lia));obtain⟨DX,Im,Pq,Sh⟩:=uY a0 t0 _ Bv wR;have wP:(rows.map fun e=>V.ref e.2)[a0]?=some (V.ref rows[a0].2):=by rw[eO,wR];rfl
   generalize rows[a0].2=b at hb wP;have IQ:t0∈ps:=fz Bv;have wE:=aP.oks t0 IQ;have DJ:∀m,t0.lb≠.wit m:=fun m e=>by
    have h1:=hc t0 IQ;rw[Tr.eta t0,Vm,e] at h1;unfold yF at h1;simp at h1
   rw[Sh] at hb;have n0:qe ps DX t0.ks:=⟨Im,fun j m s e1 e2=>Pq j s m e2 e1⟩;have nb:=Qs n0;refine⟨_,rfl,r,_,dx,_,_,rfl,ho,T.am,T.aC,lkR,_,rfl,R,_,_,_,rfl,rfl,mZ hR,Zj wP,b,t0.lb,DX,rfl,hb,by rw[Im];exact wE,DJ,fun H4 b' s4 AG=>⟨b',rfl,⟨_,AG⟩,fun Dc tu=>?_⟩⟩;generalize yf t0.lb DX=bi at nb AG;have Hk:bi.length<=8:=by
    have h1:=nb.1;have h2:(YQ t0).length<=t0.ks.length:=by
     unfold YQ
     split
     ·split
      ·simp
      ·exact eE _
     ·exact eE _
    have:=lb8 wE;lia
   have Pn:=s3.trans s4;have BG:=s4 _ _ FN;refine Xx (n:=bi.length) (fun j σ' H'=>∃z,σ'=[z,qr0 Sn]/\H' Dc=some (.lst (iV ((bi.take j).filter (fun m=>!decide (m∈fs)))))/\Zf H4 H') ?_ ?_ ?_ ?_ ?_
   ·exact⟨none,rfl,Zc,Ze tu⟩
   ·rintro j σ' H' hj ⟨z,rfl,_,sj⟩;exact⟨iV bi,(iV bi)[j]'(by rw[WE];exact hj),Zf.seqT sj AG,eI (by rw[WE];exact hj)⟩
   ·rintro σ' H' ⟨z,rfl,_,sj⟩;exact⟨_,Zf.seqT sj AG,by rw[WE];exact eE _⟩
   ·rintro j x σ' H' H5 hj ⟨z,rfl,Lx,sj⟩ ⟨rfl,hx⟩ N N0 hN rC;have AA:=hx _ (Zf.seqT sj AG);have Gx:bi[j]?=some bi[j]:=eI hj;have ex:x=V.int ((bi[j]:Nat):Int):=by
     unfold iV at AA;rw[eO,Gx] at AA;exact(fc AA).symm
    subst ex;have uF:(bi.take (j+1))=bi.take j++[bi[j]]:=by rw[l7,Gx];rfl
    refine⟨_,rfl,_,rfl,_,Sn,S,_,rfl,rfl,sj _ _ BG,_,rfl,?_⟩
    by_cases hm:bi[j]∈fs
    ·have FF:S ((bi[j]:Nat):Int)=true:=(hS _).mpr hm;rw[FF];refine Z4 (rC _ _ ⟨_,rfl,?_,sj⟩);rw[uF,χ,mr (by simp[hm]),Ω,gp];exact Lx
    ·have FF:S ((bi[j]:Nat):Int)=false:=by
      cases h:S ((bi[j]:Nat):Int) with
      |false=>rfl
      |true=>exact nu ((hS _).mp h) hm
     rw[FF];refine YD ⟨_,rfl,hN _ _ _ _ Lx ?_ ⟨_,rfl,?_,?_⟩⟩
     ·rw[WE,eJ];have:=List.length_filter_le (fun m=>!decide (m∈fs)) (bi.take j);rw[fh] at this;lia
     ·rw[Zc,uF,χ,mq (by simp[hm]),Ω,vf];rfl
     ·exact((Zf.x sj).upd).same tu
   rintro σ' H5 ⟨z,rfl,C3,s5⟩;rw[iy (eE _)] at C3;have HD:=Pn.trans s5;have wO:=s5 _ _ (s4 _ _ tI);have wx:=s5 _ _ (s4 _ _ BH);have By:=s5 _ _ BG;have Pk:=ji pR Bm;have Hn:=xR (t0::w) F;rw[pC] at Hn;obtain⟨Bt,Oc⟩:=Hn;have hFl:F.length<=rX.length:=by rw[Oc,eK];lia
   have hfl:=nf.1;refine⟨_,rfl,!(iV (bi.filter fun m=>!decide (m∈fs))).isEmpty,.inl ⟨_,mZ C3,rfl⟩,?_⟩;rcases xX nd nf nb with⟨g1,g2⟩|⟨a1,XB,A,kk,B,g1,g2,g3,g4,g5⟩
   ·rw[g1];refine Z4 ?_;obtain⟨p1,p2⟩:=Ze8 cl g2 (tW t0 47);refine⟨_,rfl,.inl ⟨rfl,_,mZ wx⟩,_,rfl,.inl ⟨rfl,_,mZ wO⟩,W,_,.int (a0:Int),rfl,rfl,wO,by rw[eK,fY,Nat.add_sub_cancel,fS (eE _),hJ];rfl,?_⟩;rw[List.dropLast_concat];have Ap:(upd H5 W (.lst (iV ws.reverse))) Fd=some (.lst (iV fs)):=X8 wx uL;have Bc:(upd H5 W (.lst (iV ws.reverse))) Sn=some (.set S fs.length):=X8 By FP;have w8:(upd H5 W (.lst (iV ws.reverse))) W=some (.lst (iV ws.reverse)):=Zc;have Lz:Zf H (upd H5 W (.lst (iV ws.reverse))):=((Zf.x HD).upd).same Cc;generalize upd H5 W (.lst (iV ws.reverse))=H6 at Ap Bc w8 Lz ⊢;refine⟨Fd,_,_,rfl,rfl,Ap,by rw[WE,eJ];lia,?_⟩;have Ar:(upd H6 Fd (.lst (iV fs++[.int (a0:Int)]))) Fd=some (.lst (iV (fs++[a0]))):=by rw[Zc,vf];rfl
    have we:(upd H6 Fd (.lst (iV fs++[.int (a0:Int)]))) Sn=some (.set S fs.length):=X8 Bc (eX Ih);have B7:(upd H6 Fd (.lst (iV fs++[.int (a0:Int)]))) W=some (.lst (iV ws.reverse)):=X8 w8 (eX uL);have LR:Zf H (upd H6 Fd (.lst (iV fs++[.int (a0:Int)]))):=((Zf.x Lz).upd).same E9;generalize upd H6 Fd (.lst (iV fs++[.int (a0:Int)]))=H7 at Ar we B7 LR ⊢;refine⟨_,rfl,.inr (.inr (.inr ⟨rfl,_,_,we⟩)),_,rfl,Sn,S,fs.length,(a0:Int),rfl,rfl,we,by lia,?_⟩;have Ag:S (a0:Int)=false:=by
     cases h:S (a0:Int) with
     |false=>rfl
     |true=>exact nu ((vo nd nf Bv).mp ((hS a0).mp h)) (tW t0 47)
    rw[Ag];have O4:(F++[t0]).length<=rX.length:=by
     have sk:xv w (F++[t0])=rX:=by rw[<- p1];exact pC
     obtain⟨B2,e2⟩:=xR w (F++[t0]);rw[sk] at e2;rw[e2];simp
    have lF2:(F++[t0]).length=F.length+1:=by rw[eK,fY]
    refine⟨_,?_,_,_,ws,fs++[a0],w,F++[t0],fun j=>S j||decide (j=(a0:Int)),rfl,((Zf.x LR).upd).same EO,X8 Ar Ih,?_,X8 B7 (eX FP),Hf,Zcm nf (Ko Bv),?_,p2,by rw[<- p1];exact pC,?_,?_,fun s hs=>Bm s (eT _ hs),rfl⟩
    ·rw[fG] at Pk ⊢;lia
    ·rw[Zc,eK,fY];rfl
    ·intro q;rw[fj,eZ,iQ,hS,iS];constructor
     ·rintro(h|h)
      ·exact .inl h
      ·exact .inr 21
     ·rintro(h|h)
      ·exact .inl h
      ·exact .inr 21
    ·cases w with
     |nil=>trivial
     |cons s r=>exact pR.2
    ·intro s hs z;rcases fj.mp z with z|z
     ·exact tW s (eT _ hs) z
     ·have:=jb pR s hs;rw[eZ.mp z] at this;lia
   ·rw[g1];refine YD ?_;rw[g1] at C3;obtain⟨p1,p2⟩:=ZdR cl g2 g3;have kb:kk∈YQ t0:=by rw[g2];simp
    have BD:yj (kk::t0::w):=⟨kb,pR⟩;have Cf:∀s∈kk::t0::w,psz s<=2000000:=fun s hs=>by
     rcases eU.mp hs with rfl|hs
     ·have:=XN (Xi kb);have:=Bm t0 47;lia
     ·exact Bm s hs
    have B4:=ji BD Cf;refine⟨_,rfl,.inl ⟨rfl,_,mZ wO⟩,_,rfl,Dc,_,_,.int (a1:Int),rfl,rfl,mZ C3,72,W,_,_,rfl,rfl,wO,by rw[eK,WE,lh,fY,eJ];have:=Hf.1;simp at B4;lia,?_⟩;refine⟨_,?_,_,_,a1::a0::ws,fs,kk::t0::w,F,S,rfl,((Zf.x HD).upd).same Cc,X8 wx uL,X8 By FP,?_,VX.mpr ⟨g4,nw⟩,nf,hS,cl,?_,BD,?_,Cf,rfl⟩
    ·simp only[fG] at B4 ⊢;lia
    ·rw[Zc,i8,vf,i8,vf];rfl
    ·show xv w (Zp (Zp F (ZF kk)) (ZF t0))=rX
     rw[p1];exact pC
    ·intro s hs;rcases eU.mp hs with rfl|hs
     ·exact g5
     ·exact tW s hs
theorem Zfr(h:YO c n):n<=8:=by
 cases c with
 |yes=>have:n=0:=h;lia
 |sign z=>have:=h.1;lia
 |op w=>rcases h with h|h<;>lia
 |wit m=>have:=h.2;lia
 |many w=>exact h.2
def ZhR(K:W.Frag)(a:Adr):Addr->Sp->Prop:=fun f sp=>(f=a.y30/\sp=yp K a)\/(f=a.y31/\sp=yt K a)\/(f=a.y32/\sp=zH K a)\/(f=a.y33/\sp=qv K a)\/(f=a.y34/\sp=UM K a)\/(f=a.y35/\sp=qj K a)
def yG(K:W.Frag)(H:Hp)(d:WD)(st:Tr->82)(ts:67)(j:Nat)(v:V)(t:Tr):Prop:=
 if Vq t=true then ∃(b tb:Addr),v=.ref b/\SqT K H b [.str "at",.ref tb]/\SqT K H tb (((γ d.signs.length).map fun r:Nat=>Xt d st t (r:Nat)).map V.bl)
 else ∃(b:Addr) (is:List Nat),v=.ref b/\SqT K H b (.str (ZP t.lb)::is.map fun i:Nat=>V.int (i:Nat))/\is.length=t.ks.length/\∀(i:Nat) k m,t.ks[i]?=some k->is[i]?=some m->m<j/\ts[m]?=some k
theorem yG.mono{t:Tr}(s:Yw H H')(h:yG K H d st ts j v t):yG K H' d st ts j v t:=by
 unfold yG at h ⊢
 by_cases c:Vq t=true
 ·rw[nt c] at h ⊢;obtain⟨b,tb,e,g1,g2⟩:=h;exact⟨b,tb,e,s _ _ _ g1,s _ _ _ g2⟩
 ·rw[nn c] at h ⊢;obtain⟨b,is,e,g1,g2⟩:=h;exact⟨b,is,e,s _ _ _ g1,g2⟩
structure ZfT(K:W.Frag)(H:Hp)(d:WD)(st:Tr->82)(ts:67)(rv:List V):Prop where
 len:rv.length=ts.length
 row:∀(j:Nat) v t,rv[j]?=some v->ts[j]?=some t->yG K H d st ts j v t
 c:∀t∈ts,isC t=true/\YO t.lb t.ks.length
def Zab(H:Hp)(d:WD)(st:Tr->82)(rm:Nat->Int)(p n0:Nat)(ts:67)(vs:List V):Prop:=vs.length<=ts.length/\∀(j:Nat) v t,vs[j]?=some v->ts[j]?=some t->∃l L,v=.ref l/\H l=some (.lst (L.map V.bl))/\ZK p L (Z1 d st rm t)/\L.length<=n0+(j+1)*(p+1)
structure vn(H:Hp)(rn:Addr)(n:Nat)(way ring:82):Prop where
 ex:∃W G,H rn=some (.tup [.ref W,.ref G])/\H W=some (.lst (way.map V.int))/\H G=some (.lst (ring.map V.int))
 ne:ring≠[]
 b:∀x∈way++ring,0<=x/\x<(n:Nat)
theorem vn.mono{rn:Addr}(s:Zf H H')(h:vn H rn n way ring):vn H' rn n way ring:=by
 obtain⟨W,G,h1,h2,h3⟩:=h.ex;exact⟨⟨W,G,s _ _ h1,s _ _ h2,s _ _ h3⟩,h.ne,h.b⟩
def Jj(K:W.Frag)(a:Adr):Sp:=fun vs H Q _=>ZeW fun(R rn:Addr) (m:Nat) (rv:List V) (ts:67) (t:Tr) (d:WD) (st:Tr->82) (way ring:82)=>Cj7 (vs=[.ref R,.ref rn,.int (m:Nat)]) (H R=some (.lst rv)) (ZfT K H d st (ts++[t]) rv) (vn H rn d.signs.length way ring) (m<=50000) ((way++ring).length+(ts.length+1)*(ring.length+1)<=50000) (∀H' q,Zf H H'->H q=none->H' q=some (.lst (((γ m).map (Z1 d st (XY way ring) t)).map V.bl))->Q (.ref q) H')
theorem kh{a:Adr}:66 4 a.y26 a.z26 dm Jj:=fun T hw=>by
 refine okX T.bH.f Yz 69;intro X
 let d1:Rdg X ZY [3,0,0,0,0]:=⟨_,(@Zg _ _ _ (XV (i:=8) Yz.nd rfl rfl (Nc:=["room","row"]) (ix:=[none,some 7]) (ZX.of (by left:Yc (Zh ZY) UZ _ _ _=true)) rfl (Yn (K:=K) rfl (@ZO _ _ _ _ _ _ _ _ Zb6 (pv 3) (pv 4))) (fun _ _ _ _ _=>(Zz (i:=0) (show δ (["room","row"]:50) by left) rfl (.inl rfl))) (fun _ _ _ _ _=>YV) (fun _ _ _ _ _=>(@Zq _ _ _ _ _ _ _ (ZU (K:=K) rfl) (@Zq _ _ _ _ _ _ _ (ZU (K:=K) rfl) (pv 1) Zi (fun _ _=>rfl)) (pv 0) (fun _ _=>rfl)))))⟩
 let d2:Rdg X ZY [3,0,0,1,1]:=⟨_,(@Zg _ _ _ (@Zu _ _ (8) _ _ _ _ Yz.nd rfl (.inl rfl) (Zdj (show Zfy _ (ZhR K a) from fun f sp h=>by rcases h with⟨rfl,rfl⟩|⟨rfl,rfl⟩|⟨rfl,rfl⟩|⟨rfl,rfl⟩|⟨rfl,rfl⟩|⟨rfl,rfl⟩;exact⟨_,_,_,(Ka T hw),hr.mono 48,T.bx.f.kp,T.bx.n⟩;exact⟨_,_,_,(Kl T hw),hr.mono 48,T.bz.f.kp,T.bz.n⟩;exact⟨_,_,_,(Ji T hw),hr.mono 48,T.bn.f.kp,T.bn.n⟩;exact⟨_,_,_,(vQ T hw),hr.mono 48,T.aX.f.kp,T.aX.n⟩;exact⟨_,_,_,(vq T hw),hr.mono 48,T.aV.f.kp,T.aV.n⟩;exact⟨_,_,_,(vJ T hw),hr.mono 48,T.aY.f.kp,T.aY.n⟩) Xs (pv 9) (@Za _ _ _ _ _ (YC (Nc:=["place","lines"]) (ix:=[none,some 6]) (ZX.of (by left:Yc (Zh ZY) UZ _ _ _=true)) rfl (j4 (K:=K) rfl (ZW (Uw (K:=K) rfl) (pv 7) (ZS Zi) YH)) (fun _ _ _ _ _=>(Zz (i:=0) (show δ (["place","lines"]:50) by left) rfl (.inl rfl))) (fun _ _ _ _ _=>YV) (fun _ _ _ _ _=>(@Zq _ _ _ _ _ _ _ 54 (pv 1) (pv 0) (fun _ _=>rfl)))) (@Za _ _ _ _ _ (pv 5) Zb rfl) rfl)) rfl (.inl rfl)))⟩
 let d3:Rdg X ZY [3,0,0,1,0]:=⟨_,(@Zd _ _ _ _ _ (@Zu _ _ (9) _ _ _ _ Yz.nd rfl (.inl rfl) (@Zq _ _ _ _ _ _ _ (ZeS (K:=K) (P:=a.Pm) rfl hw) (Vx (v:=.ref a.D_LINES) rfl ⟨_,T.cE,rfl⟩) (@Zq _ _ _ _ _ _ _ (ZU (K:=K) rfl) (pv 7) Zi (fun _ _=>rfl)) (fun _ _=>rfl)) rfl (.inl rfl)) d2.2)⟩
 let d4:Rdg X ZY [3,0,1]:=⟨_,(@Zg _ _ _ (@YG _ _ _ _ (Wc fR ge gf Z9 (pv 6) (@Za _ _ _ _ _ (ZD T.bU (QQ T hw) hr rfl rfl (@Za _ _ _ _ _ (pv 8) (@Za _ _ _ _ _ (pv 5) Zb rfl) rfl)) Zb rfl)) rfl))⟩
 let d5:Rdg X ZY [3,0,0]:=⟨_,(@Zd _ _ _ _ _ (@ZQ _ _ _ _ _ _ _ _ (@Zt _ _ _ _ _ _ _ _ YA (@Zq _ _ _ _ _ _ _ (ZU (K:=K) rfl) (pv 7) Zi (fun _ _=>rfl)) Zl (ZB _)) d1.2 d3.2) d4.2)⟩
 let d6:Rdg X ZY [4]:=⟨_,(@Zg _ _ _ (@Zm _ _ _ _ (ZW (YB (K:=K) rfl) (ZD T.aO (WP T hw) hr rfl rfl (@ZA _ _ _ _ _ (@Zq _ _ _ _ _ _ _ 54 (pv 6) (UG Vi Zi) (fun _ _=>rfl)) (@ZA _ _ _ _ _ (pv 2) (@ZA _ _ _ _ _ (pv 5) Zb rfl) rfl) rfl)) YH (ZS (pv 2)))))⟩
 let d7:Rdg X ZY [3]:=⟨_,(@Zd _ _ _ _ _ (Xv fP rfl (Yn (K:=K) rfl (pv 0)) (Zz (i:=7) Yz.nd rfl (.inr rfl)) d5.2) d6.2)⟩
 let d8:Rdg X ZY [2]:=⟨_,(@Zd _ _ _ _ _ (@Zu _ _ (6) _ _ _ _ Yz.nd rfl (.inr rfl) (@Yd _ _ _ _ Zb) rfl (.inl rfl)) d7.2)⟩
 let d9:Rdg X ZY [1]:=⟨_,(@Zd _ _ _ _ _ (@Zu _ _ (5) _ _ _ _ Yz.nd rfl (.inl rfl) (Zn (Zw (K:=K) rfl) rfl T.az ng (@Za _ _ _ _ _ (pv 4) Zb rfl)) rfl (.inl rfl)) d8.2)⟩
 intro vs Q h;obtain⟨R,rn,m,rv,ts,t,d,st,way,ring,rfl,hR,gr,ru,hm,Ax,k⟩:=h;refine⟨_,(@Zd _ _ _ _ _ (Zgo (pv 1) (U6 (K:=K) (n:=2) rfl rfl (Xe (Zz (i:=3) Yz.nd rfl (.inl rfl)) (Xe (Zz (i:=4) Yz.nd rfl (.inl rfl)) qa)))) d9.2),?_⟩;obtain⟨W,G,tH,hW,hG⟩:=ru.ex;have l0:0<ring.length:=mH fun e=>ru.ne (lX e);generalize hp:ring.length=p at l0 Ax;have lts:(ts++[t]).length=ts.length+1:=by rw[eK];rfl
 have lrv:=gr.len;refine⟨_,rfl,rn,_,rfl,m6 tH,rfl,_,_,rfl,_,_,rfl,rfl,?_⟩;refine⟨_,rfl,.inl ⟨G,_,rfl,.inl (mZ hG),?_⟩⟩;rw[eG,hp];refine⟨by left,fun LN Gc=>?_⟩;obtain⟨H1,qN,s1,e1⟩:=Yl (o:=.lst []) Gc;rw[qN];refine⟨_,rfl,R,rfl,⟨_,mZ (s1 _ _ hR)⟩,?_⟩;have keep:∀{F:Hp},Zr LN H1 F->Zf H F:=fun {F} sF b o e=>sF _ _ (fun z=>by rw[z,Gc] at e;cases e) (s1 _ _ e);refine XQ (J:=Itl K R) (n:=rv.length) (fun j σ F=>∃(z6 z7 z8:Option V) (vs:List V),σ=[qr0 R,qr0 rn,some (.int (m:Nat)),qr0 W,qr0 G,some (.int (p:Nat)),qr0 LN,z6,z7,z8]/\Zr LN H1 F/\F LN=some (.lst vs)/\vs.length=j/\(∀v∈vs,v≠.ref LN)/\Zab F d st (XY way ring) p (way++ring).length (ts++[t]) vs) ?_ ?_ ?_ ?_ ?_
 ·exact⟨_,_,_,[],rfl,.refl _,e1,rfl,(fun v hv=>by cases hv),fu _,fun j v t h=>by simp at h⟩
 ·rintro j σ F hj ⟨z6,z7,z8,vs,rfl,sF,_⟩;exact⟨_,_,mZ (keep sF _ _ hR),eI hj⟩
 ·rintro σ F ⟨z6,z7,z8,vs,rfl,sF,_⟩;exact⟨_,mZ (keep sF _ _ hR),eE _⟩
 ·rintro j x σ F0 F hj ⟨z6,z7,z8,vs,rfl,sF,uN,Av,nb,la⟩ ⟨rfl,hx⟩;have ex:=hx _ (mZ (keep sF _ _ hR));have L5:j<(ts++[t]).length:=by lia
  have ht:=eI L5;have row:=(gr.row j x _ ex ht).mono (m5 (keep sF));obtain⟨hc,ok⟩:=gr.c _ (fv L5);generalize (ts++[t])[j]=u at ht row hc ok;have hjm:(j+1)*(p+1)<=(ts.length+1)*(p+1):=lJ _ 21;have XB:∀(E':Hp) (z9:Option V) (l:Addr) (L:List Bool),Zf F E'->E' l=some (.lst (L.map V.bl))->ZK p L (Z1 d st (XY way ring) u)->L.length<=(way++ring).length+(j+1)*(p+1)->vp K a [.ref l,.int (p:Nat)] E' (fun v H2=>WT (.ref LN) [v] H2 (fun _ H3=>∃(z6 z7 z8:Option V) (vs:List V),[qr0 R,qr0 rn,some (.int (m:Nat)),qr0 W,qr0 G,some (.int (p:Nat)),qr0 LN,some x,qr0 l,z9]=[qr0 R,qr0 rn,some (.int (m:Nat)),qr0 W,qr0 G,some (.int (p:Nat)),qr0 LN,z6,z7,z8]/\Zr LN H1 H3/\H3 LN=some (.lst vs)/\vs.length=j+1/\(∀v∈vs,v≠.ref LN)/\Zab H3 d st (XY way ring) p (way++ring).length (ts++[t]) vs)) (fun _ _ _=>False):=fun E' z9 l L sE el tl ll=>by
   refine⟨l,p,L,_,rfl,el,tl,by lia,fun H2 q L' s2 q0 eq tq lq=>?_⟩;have D5:=(sE.trans s2) _ _ uN;have nq:q≠LN:=fun e=>by rw[e,sE _ _ uN] at q0;cases q0
   refine⟨LN,_,_,rfl,rfl,D5,by rw[Av,eJ];have:j+1<=(j+1)*(p+1):=Nat.le_mul_of_pos_right _ (Nat.succ_pos _);lia,_,_,_,vs++[.ref q],rfl,?_,Zc,by rw[eK,Av];rfl,fun v hv=>?_,?_,fun i v w e1 e2=>?_⟩
   ·exact(sF.trans (Zf.x (sE.trans s2))).upd
   ·rcases fj.mp hv with h|h
    ·exact nb v h
    ·rw[eZ.mp h];exact fun e=>nq (V.ref.inj e)
   ·rw[eK,Av];show j+1<=_;lia
   ·by_cases ci:i<vs.length
    ·rw[fK ci] at e1;obtain⟨l',uk,ev,gl,r⟩:=la.2 i v w e1 e2;have nl:l'≠LN:=fun e=>nb v (fz e1) (by rw[ev,e]);exact⟨l',uk,ev,by rw[Zo nl];exact(sE.trans s2) _ _ gl,r⟩
    ·have hi:=(eY.mp e1).1;rw[eK,fY] at hi;have ei:i=j:=by lia
     subst ei;rw[fS 21,Av,hJ] at e1;cases e1;rw[ht] at e2;cases e2;exact⟨q,L',rfl,by rw[Zo nq];exact eq,tq,by lia⟩
  unfold yG at row
  by_cases cat:Vq u=true
  ·rw[nt cat] at row;obtain⟨b,tb,rfl,g1,g2⟩:=row;refine⟨_,rfl,b,_,_,_,rfl,rfl,g1,72,rfl,_,rfl,XH rfl ?_⟩;refine⟨_,rfl,_,rfl,W,G,_,_,rfl,rfl,keep sF _ _ hW,keep sF _ _ hG,by rw[eG,eG,eJ];rw[eK] at Ax;lia,fun C hC=>?_⟩;rw[<- fo];obtain⟨F1,qN,t1,eC⟩:=Yl (o:=.lst ((way++ring).map V.int)) hC;rw[qN];refine⟨C,rfl,⟨_,mZ eC⟩,fun D hD=>?_⟩;refine vi (way++ring) V.int (fun r=>.bl (Xt d st u r)) hD (mZ eC) (by rw[eJ];lia) ?_ ?_
   ·intro r R5 F2 N CU hN;obtain⟨r0,r1⟩:=ru.b r R5;obtain⟨i,rfl⟩:=mR r0;have hi:i<d.signs.length:=by lia
    refine⟨_,rfl,b,_,_,_,rfl,rfl,m5 (t1.trans CU) _ _ _ g1,Zj (j:=1) rfl,_,rfl,tb,_,_,_,rfl,rfl,m5 (t1.trans CU) _ _ _ g2,Zj (by rw[eO,eO,l6 hi];rfl),hN _ (.refl _)⟩
   intro F2 eD t2;refine⟨_,rfl,.inl ⟨rfl,_,mZ ((t1.trans t2) _ _ uN)⟩,_,rfl,_,rfl,XB F2 _ D ((way++ring).map (Xt d st u)) (t1.trans t2) (by rw[eD,fL];rfl) (by rw[<- hp];exact Qv cat ru.ne) (by rw[eG];exact iG _ _)⟩
  ·rw[nn cat] at row;obtain⟨b,is,rfl,g1,il,hk⟩:=row;have sM:Vq u=false:=by simpa using cat
   have DH:ZP u.lb ≠ "at" := by
    rcases W8 hc ok sM with⟨w,a1,rfl,h|h|h⟩|⟨w,a1,a2,rfl,h|h⟩|⟨a1,a2,rfl⟩
    ·rw[h];exact(by left:¬(("not" : Str) = "at"))
    ·rw[h];exact(by left:¬(("next" : Str) = "at"))
    ·rw[h];exact(by left:¬(("before" : Str) = "at"))
    ·rw[h];exact(by left:¬(("until" : Str) = "at"))
    ·rw[h];exact(by left:¬(("since" : Str) = "at"))
    ·exact(by left:¬(("and" : Str) = "at"))
   refine⟨_,rfl,b,_,_,_,rfl,rfl,g1,72,rfl,_,rfl,Z7 (fun z=>DH 77) ?_⟩;have rV:∀(i mm:Nat) (kd:Tr),u.ks[i]?=some kd->is[i]?=some mm->∃l L,vs[mm]?=some (.ref l)/\F l=some (.lst (L.map V.bl))/\ZK p L (Z1 d st (XY way ring) kd)/\L.length<=(way++ring).length+j*(p+1):=fun i mm kd e1 e2=>by
    obtain⟨h1,h2⟩:=hk i kd mm e1 e2;have hv:vs[mm]?=some vs[mm]:=eI 21;obtain⟨l,L,ev,gl,tl,ll⟩:=la.2 mm _ kd hv h2;have:(mm+1)*(p+1)<=j*(p+1):=lJ _ h1;exact⟨l,L,by rw[hv,ev],gl,tl,by lia⟩
   have jm:(j+1)*(p+1)=j*(p+1)+(p+1):=Τ _ _;have one:∀{q:Nat->Bool},q=Z1 d st (XY way ring) u->∀{L:List Bool},ZK p L q->ZK p L (Z1 d st (XY way ring) u):=fun e _ h=>e▸h;obtain⟨f,sp,mem,Sj,Fb⟩:∃f sp,(ZP u.lb,f)∈([("not",a.y30),("and",a.y31),("next",a.y32),("until",a.y33),("before",a.y34),("since",a.y35)]:List (Str×Addr))/\ZhR K a f sp/\∀(F2:Hp) (D:Addr) (Q':VK),Zf F F2->F2 D=some (.lst (is.map fun i=>(vs[i]?).getD .non))->(∀H3 l L,Zf F2 H3->H3 l=some (.lst (L.map V.bl))->ZK p L (Z1 d st (XY way ring) u)->L.length<=(way++ring).length+(j+1)*(p+1)->Q' (.ref l) H3)->sp [.ref D,.int (p:Nat)] F2 Q' E0:=by
    rcases W8 hc ok sM with⟨w,a1,rfl,h⟩|⟨w,a1,a2,rfl,h⟩|⟨a1,a2,rfl⟩
    ·obtain⟨m1,rfl⟩:∃m1,is=[m1]:=by
      cases is with
      |nil=>cases il
      |cons x r=>cases r with
       |nil=>exact⟨x,rfl⟩
       |cons y s=>simp[Tr.ks] at il
     obtain⟨l1,L1,tz,ud,t9,Lo⟩:=rV 0 m1 a1 rfl rfl;have em:([m1].map fun i=>(vs[i]?).getD .non)=[V.ref l1]:=by simp[tz]
     rw[em];rcases h with rfl|rfl|rfl
     ·refine⟨a.y30,_,by simp[ZP,Tr.lb],.inl ⟨rfl,rfl⟩,fun F2 D Q' s2 eD q=>?_⟩;exact⟨D,l1,p,L1,_,rfl,eD,s2 _ _ ud,t9,by lia,fun H3 l L s3 el tl ll=>q H3 l L s3 el (one (Xn a1).symm tl) 21⟩
     ·refine⟨a.y32,_,by simp[ZP,Tr.lb],.inr (.inr (.inl ⟨rfl,rfl⟩)),fun F2 D Q' s2 eD q=>?_⟩;exact⟨D,l1,p,L1,_,rfl,eD,s2 _ _ ud,t9,by lia,fun H3 l L s3 el tl ll=>q H3 l L s3 el (one (zq a1).symm tl) 21⟩
     ·refine⟨a.y34,_,by simp[ZP,Tr.lb],.inr (.inr (.inr (.inr (.inl ⟨rfl,rfl⟩)))),fun F2 D Q' s2 eD q=>?_⟩;exact⟨D,l1,p,L1,_,rfl,eD,s2 _ _ ud,t9,by lia,fun H3 l L s3 el tl ll=>q H3 l L s3 el (one (qB a1).symm tl) 21⟩
    ·obtain⟨m1,m2,rfl⟩:∃m1 m2,is=[m1,m2]:=by
      cases is with
      |nil=>cases il
      |cons x r=>cases r with
       |nil=>simp[Tr.ks] at il
       |cons y s=>cases s with
        |nil=>exact⟨x,y,rfl⟩
        |cons z w=>simp[Tr.ks] at il
     obtain⟨l1,L1,tz,ud,t9,Lo⟩:=rV 0 m1 a1 rfl rfl;obtain⟨l2,L2,pK,Dg,Da,R7⟩:=rV 1 m2 a2 rfl rfl;have em:([m1,m2].map fun i=>(vs[i]?).getD .non)=[V.ref l1,V.ref l2]:=by simp[tz,pK]
     rw[em];rcases h with rfl|rfl
     ·refine⟨a.y33,_,by simp[ZP,Tr.lb],.inr (.inr (.inr (.inl ⟨rfl,rfl⟩))),fun F2 D Q' s2 eD q=>?_⟩;exact⟨D,l1,l2,p,L1,L2,_,_,rfl,eD,s2 _ _ ud,s2 _ _ Dg,t9,Da,by lia,by lia,fun H3 l L s3 el tl ll=>q H3 l L s3 el (one (V5 a1 a2).symm tl) 21⟩
     ·refine⟨a.y35,_,by simp[ZP,Tr.lb],.inr (.inr (.inr (.inr (.inr ⟨rfl,rfl⟩)))),fun F2 D Q' s2 eD q=>?_⟩;exact⟨D,l1,l2,p,L1,L2,_,_,rfl,eD,s2 _ _ ud,s2 _ _ Dg,t9,Da,by lia,by lia,fun H3 l L s3 el tl ll=>q H3 l L s3 el (one (V2 a1 a2).symm tl) 21⟩
    ·obtain⟨m1,m2,rfl⟩:∃m1 m2,is=[m1,m2]:=by
      cases is with
      |nil=>cases il
      |cons x r=>cases r with
       |nil=>simp[Tr.ks] at il
       |cons y s=>cases s with
        |nil=>exact⟨x,y,rfl⟩
        |cons z w=>simp[Tr.ks] at il
     obtain⟨l1,L1,tz,ud,t9,Lo⟩:=rV 0 m1 a1 rfl rfl;obtain⟨l2,L2,pK,Dg,Da,R7⟩:=rV 1 m2 a2 rfl rfl;have em:([m1,m2].map fun i=>(vs[i]?).getD .non)=[V.ref l1,V.ref l2]:=by simp[tz,pK]
     rw[em];refine⟨a.y31,_,by simp[ZP,Tr.lb],.inr (.inl ⟨rfl,rfl⟩),fun F2 D Q' s2 eD q=>?_⟩;exact⟨D,l1,l2,p,L1,L2,_,_,rfl,eD,s2 _ _ ud,s2 _ _ Dg,t9,Da,by lia,by lia,fun H3 l L s3 el tl ll=>q H3 l L s3 el (one (U4 a1 a2).symm tl) 21⟩
   refine⟨_,rfl,b,_,_,_,rfl,rfl,g1,72,a.D_LINES,_,_,f,rfl,rfl,T.cF,mem,?_⟩;refine⟨f,sp,rfl,Sj,_,rfl,1,rfl,b,_,rfl,g1,?_,fun c F9=>?_⟩
   ·intro⟨z1,_⟩;have:HT.sIx (V.str (ZP u.lb)::is.map fun i:Nat=>V.int (i:Nat)).length 0 (some ((1:Nat):Int))=0:=z1;rw[HT.sIx_nat] at this;simp at this
   have ec:=WX (V.str (ZP u.lb)::is.map fun i:Nat=>V.int (i:Nat)) 1 47;rw[show((1:Nat):Int)=1 from rfl] at ec;rw[ec];obtain⟨F1,qN,t1,AO⟩:=Yl (o:=.tup (is.map fun i:Nat=>V.int (i:Nat))) F9
   change upd F c (.tup ((V.str (ZP u.lb)::is.map fun i:Nat=>V.int (i:Nat)).drop 1))=F1 at qN
   rw[qN];refine⟨c,rfl,⟨_,m6 AO⟩,fun D hD=>?_⟩;refine xh is (fun i:Nat=>V.int (i:Nat)) (fun i=>(vs[i]?).getD .non) hD (m6 AO) (by rw[il,eJ];have:=Zfr ok;lia) ?_ ?_
   ·intro i hi F2 N CU hN;obtain⟨e0,NM,MZ⟩:=fO hi;have h1:u.ks[e0]?=some (u.ks[e0]' 21):=eI 21;obtain⟨lt,_⟩:=hk e0 _ i h1 (by rw[eI NM,MZ]);have hv:vs[i]?=some vs[i]:=eI 21;have:=hN F2 (.refl _);rw[hv] at this;exact⟨_,rfl,_,rfl,LN,_,_,_,rfl,rfl,mZ ((t1.trans CU) _ _ uN),Zj hv,this⟩
   intro F2 eD t2;refine⟨_,rfl,Fb F2 D _ (t1.trans t2) eD fun H3 l L s3 el tl ll=>?_⟩;have A8:=t1.trans (t2.trans s3);exact⟨_,rfl,.inl ⟨rfl,_,mZ (A8 _ _ uN)⟩,_,rfl,_,rfl,XB H3 _ l L A8 el tl ll⟩
 rintro σ F ⟨z6,z7,z8,vs,rfl,sF,uN,Av,nb,la⟩;have lv1:vs.length=ts.length+1:=by lia
 have hv:vs[ts.length]?=some (vs[ts.length]' 21):=eI 21;obtain⟨l,L,ev,gl,tl,ll⟩:=la.2 ts.length _ t hv (by rw[fS (eE _),hJ];rfl);have ea:atI vs (-1)=some (.ref l):=by
  have:=k5 (xs:=vs) (p:=1) (eE _) 21;rw[show(-((1:Nat):Int))=-1 from rfl] at this;rw[this];have e2:vs[vs.length-1]' 21=vs[ts.length]' 21:=by congr 1;lia
  rw[e2,ev]
 refine⟨_,rfl,_,rfl,LN,_,_,_,rfl,rfl,mZ uN,ea,_,rfl,_,rfl,l,m,p,L,_,rfl,gl,tl,by lia,by lia,fun H2 q L' s2 q0 eq tq lq=>?_⟩;refine⟨_,rfl,_,rfl,q,_,rfl,mZ eq,fun q2 oj=>?_⟩;rw[U7,<- hU];have et:L'.take m=(γ m).map (Z1 d st (XY way ring) t):=by
  apply l4;intro i
  by_cases hi:i<m
  ·rw[mn hi,tq.get 21,eO,l6 hi];rfl
  ·rw[io (by rw[fh];lia),io (by rw[eG,fI];lia)]
 rw[et];have sH:=(keep sF).trans (s2.trans (Ze (o:=.lst (((γ m).map (Z1 d st (XY way ring) t)).map V.bl)) oj));exact k _ q2 sH (((keep sF).trans s2).free oj) Zc
def vA(K:W.Frag)(a:Adr):Sp:=fun vs H Q _=>Ex2 fun p d=>Cj3 (vs=[.ref p]) (Z5 a.C_World H p d) (Q (.int d.signs.length) H)
theorem Wq{a:Adr}:66 1 a.y37 a.z37 cU vA:=fun T hw=>by
 refine okF T.ah.f vH 73;obtain⟨p,d,rfl,hw,k⟩:=h;refine⟨_,(@Zg _ _ _ (@Zm _ _ _ _ (Zn (Zw (K:=K) rfl) rfl T.az ng (@Za _ _ _ _ _ (X0 (K:=K) rfl (pv 0) rfl) Zb rfl)))),?_⟩;obtain⟨dx,t1,t2,t3,t4,e,⟨b,vs,rfl,g,l,q⟩,_⟩:=hw.ex;refine⟨_,rfl,p,_,dx,_,_,rfl,e,T.aA,T.ao,JD _ _ _ _,.inl ⟨b,vs,rfl,.inr (m6 g),?_⟩⟩;rw[l,eG];exact k
def qR(K:W.Frag)(a:Adr):Sp:=fun vs H Q _=>Ex4 fun p d i ss=>Cj4 (vs=[.ref p,.int (i:Nat)]) (Z5 a.C_World H p d) (d.signs[i]?=some ss) (∀l,H l=none->Q (.ref l) (upd H l (.lst ((W7 ss).map V.str))))
theorem zJ{a:Adr}:66 1 a.y38 a.z38 c8 qR:=fun T hw=>by
 refine okF T.aF.f zC 73;obtain⟨p,d,i,ss,rfl,hw,hs,k⟩:=h;refine⟨_,(@Zg _ _ _ (@Zm _ _ _ _ (Z2 (qP (K:=K) rfl rfl) rfl T.bM m8 (@Za _ _ _ _ _ (@Zq _ _ _ _ _ _ _ (ZU (K:=K) rfl) (X0 (K:=K) rfl (pv 0) rfl) (pv 1) (fun _ _=>rfl)) Zb rfl)))),?_⟩;obtain⟨dx,t1,t2,t3,t4,e,⟨b,vs,rfl,g,l,q⟩,_⟩:=hw.ex;have hi:i<vs.length:=by
  rw[l,eG];exact(eY.mp hs).1
 obtain⟨c,ec,gc⟩:=q i _ (W7 ss) (eI hi) (by rw[eO,hs];rfl);refine⟨_,rfl,p,_,dx,_,_,rfl,e,T.aA,T.ao,JD _ _ _ _,_,rfl,b,vs,_,_,rfl,rfl,m6 g,Zj (eI hi),?_⟩;rw[ec];exact .inl ⟨c,_,rfl,.inr (m6 gc),k⟩
def zS(K:W.Frag)(a:Adr):Sp:=fun vs H Q _=>Ex4 fun p d i ss=>Cj4 (vs=[.ref p,.int (i:Nat)]) (Z5 a.C_World H p d) (d.ways[i]?=some ss) (∀l,H l=none->Q (.ref l) (upd H l (.lst ((YM ss).map V.int))))
theorem zO{a:Adr}:66 1 a.y39 a.z39 c8 zS:=fun T hw=>by
 refine okF T.aM.f yh 73;obtain⟨p,d,i,ss,rfl,hw,hs,k⟩:=h;refine⟨_,(@Zg _ _ _ (@Zm _ _ _ _ (Z2 (qP (K:=K) rfl rfl) rfl T.bM m8 (@Za _ _ _ _ _ (@Zq _ _ _ _ _ _ _ (ZU (K:=K) rfl) (X0 (K:=K) rfl (pv 0) rfl) (pv 1) (fun _ _=>rfl)) Zb rfl)))),?_⟩;obtain⟨dx,t1,t2,t3,t4,e,_,⟨b,vs,rfl,g,l,q⟩,_⟩:=hw.ex;have hi:i<vs.length:=by
  rw[l,eG];exact(eY.mp hs).1
 obtain⟨c,ec,gc⟩:=q i _ (YM ss) (eI hi) (by rw[eO,hs];rfl);refine⟨_,rfl,p,_,dx,_,_,rfl,e,T.aA,T.aN,Zel _ _ _ _,_,rfl,b,vs,_,_,rfl,rfl,m6 g,Zj (eI hi),?_⟩;rw[ec];exact .inl ⟨c,_,rfl,.inr (m6 gc),k⟩
def ZaC(K:W.Frag)(H:Hp)(st:Tr->82)(t:Tr)(b:Addr)(rv:V):Prop:=(t.lb=.yes/\SqT K H b [.str "yes"])\/(∃z,t.lb=.sign z/\SqT K H b [.str "sign",.str z])\/(t.lb=.op "some" /\ (∃x,SqT K H b [.str "some",x])/\∃l,rv=.ref l/\H l=some (.lst ((st t).map V.int))/\(st t).length<=1000)
def xn(K:W.Frag)(a:Adr):Sp:=fun vs H Q _=>Ex6 fun(w b:Addr) (rv:V) (d:WD) (st:Tr->82) (t:Tr)=>Cj5 (vs=[.ref w,.ref b,rv]) (Z5 a.C_World H w d) (d.signs.length<=20) (ZaC K H st t b rv) (∀H' tb,Zf H H'->H' tb=some (.tup (((γ d.signs.length).map fun r:Nat=>Xt d st t (r:Nat)).map V.bl))->Q (.ref tb) H')
theorem ZcF:inV (.str z) ((W7 ss).map V.str)=decide (z∈ss):=by
 rw[gy,Jb,iS];exact(qM ss).mem_iff
theorem xU{a:Adr}:66 2 a.y25 a.z25 dq xn:=fun T hw=>by
 refine okX T.bj.f xB 69;intro X
 let d1:Rdg X Yg [0,0,0]:=⟨_,(@Zg _ _ _ (@Zm _ _ _ _ (Z2 (Yj (K:=K) rfl) rfl T.aH m9 (@Za _ _ _ _ _ (YC (Nc:=["room"]) (ix:=[none]) (ZX.of (by left:Yc (Zh Yg) ["world","row","rooms"] _ _ _=true)) rfl (Xf rfl T.aQ (@Za _ _ _ _ _ (zt (pv 0) T.aA T.ah.m (Wq T hw) (rmL hr rfl) T.ah.n .nil Xs) Zb rfl)) (fun _ _ _ _ _=>(Zz (i:=0) (show δ (["room"]:50) by left) rfl (.inl rfl))) (fun _ _ _ _ _=>YV) (fun _ _ _ _ _=>YL)) Zb rfl))))⟩
 let d2:Rdg X Yg [1,0,0]:=⟨_,(@Zg _ _ _ (@Zm _ _ _ _ (Z2 (Yj (K:=K) rfl) rfl T.aH m9 (@Za _ _ _ _ _ (YC (Nc:=["room","row","world"]) (ix:=[none,some 1,some 0]) (ZX.of (by left:Yc (Zh Yg) ["world","row","rooms"] _ _ _=true)) rfl (Xf rfl T.aQ (@Za _ _ _ _ _ (zt (pv 0) T.aA T.ah.m (Wq T hw) (rmL hr rfl) T.ah.n .nil Xs) Zb rfl)) (fun _ _ _ _ _=>(Zz (i:=0) (show δ (["room","row","world"]:50) by left) rfl (.inl rfl))) (fun _ _ _ _ _=>YV) (fun _ _ _ _ _=>(@Yy _ _ _ _ _ _ _ _ (WZ (K:=K) rfl) (@Zq _ _ _ _ _ _ _ (ZU (K:=K) rfl) (pv 1) Zi (fun _ _=>rfl)) (U2 (pv 2) T.aA T.aF.m (zJ T hw) (rmL hr rfl) T.aF.n .nil Xs (@Za _ _ _ _ _ (pv 0) Zb rfl)) (by with_unfolding_all rfl)))) Zb rfl))))⟩
 let d3:Rdg X Yg [2]:=⟨_,(@Zg _ _ _ (@Zm _ _ _ _ (Z2 (Yj (K:=K) rfl) rfl T.aH m9 (@Za _ _ _ _ _ (YC (Nc:=["room","rooms"]) (ix:=[none,some 2]) (ZX.of (by left:Yc (Zh Yg) ["world","row","rooms"] _ _ _=true)) rfl (Xf rfl T.aQ (@Za _ _ _ _ _ (zt (pv 0) T.aA T.ah.m (Wq T hw) (rmL hr rfl) T.ah.n .nil Xs) Zb rfl)) (fun _ _ _ _ _=>(Zz (i:=0) (show δ (["room","rooms"]:50) by left) rfl (.inl rfl))) (fun _ _ _ _ _=>YV) (fun _ _ _ _ _=>(@Yy _ _ _ _ _ _ _ _ (WZ (K:=K) rfl) (pv 0) (pv 1) (by with_unfolding_all rfl)))) Zb rfl))))⟩
 let d4:Rdg X Yg [1]:=⟨_,(@Zd _ _ _ _ _ (@ZQ _ _ _ _ _ _ _ _ (@Zt _ _ _ _ _ _ _ _ YA (@Zq _ _ _ _ _ _ _ (ZU (K:=K) rfl) (pv 1) Zi (fun _ _=>rfl)) Zl (ZB _)) d2.2 Zx) d3.2)⟩
 intro vs Q h;obtain⟨w,b,rv,d,st,t,rfl,og,n20,ar,k⟩:=h;refine⟨_,(@Zd _ _ _ _ _ (@ZQ _ _ _ _ _ _ _ _ (@Zt _ _ _ _ _ _ _ _ YA (@Zq _ _ _ _ _ _ _ (ZU (K:=K) rfl) (pv 1) Zi (fun _ _=>rfl)) Zl (ZB _)) d1.2 Zx) d4.2),?_⟩;obtain⟨dx,fs,ho,wz⟩:=Zav og;rcases ar with⟨el,g⟩|⟨z,el,g⟩|⟨el,⟨x,g⟩,l,rfl,hl,ll⟩
 ·refine⟨_,rfl,b,_,_,_,rfl,rfl,g,72,rfl,_,rfl,XH rfl ?_⟩;refine⟨_,rfl,w,dx,fs,rfl,ho,wz,w,d,rfl,og,_,rfl,by lia,by lia,?_⟩;rw[fN];intro D hD;refine qy (fun r=>.bl (Xt d st t (r:Nat))) hD (by rw[eJ];lia) (fun r pz G N sG hN=>?_) fun H1 e1 s1=>?_
  ·have:Xt d st t (r:Nat)=true:=by unfold Xt;rw[el]
   have q:=hN G (.refl _);rw[this] at q;exact q
  ·exact⟨D,_,rfl,.inl ⟨mZ e1,fun tb ht=>k _ tb (s1.trans (Ze ht)) (by rw[Zc,fL];rfl)⟩⟩
 ·refine⟨_,rfl,b,_,_,_,rfl,rfl,g,72,rfl,_,rfl,Z7 (fun q=>(by left:¬(("sign" : Str) = "yes")) (V.str.inj q)) ?_⟩;refine⟨_,rfl,b,_,_,_,rfl,rfl,g,72,rfl,_,rfl,XH rfl ?_⟩;refine⟨_,rfl,w,dx,fs,rfl,ho,wz,w,d,rfl,og,_,rfl,by lia,by lia,?_⟩;rw[fN];intro D hD;refine qy (fun r=>.bl (Xt d st t (r:Nat))) hD (by rw[eJ];lia) (fun r pz G N sG hN=>?_) fun H1 e1 s1=>?_
  ·obtain⟨B5,FX,oB,uE⟩:=JB (og.mono sG);refine⟨_,rfl,b,_,_,_,rfl,rfl,m5 sG _ _ _ g,Zj (j:=1) rfl,_,rfl,w,B5,FX,rfl,oB,uE,_,rfl,w,d,r,d.signs[r],rfl,og.mono sG,eI pz,fun q hq=>?_⟩;refine⟨q,_,rfl,.inl (mZ Zc),rfl,Zbd _,?_⟩;have:Xt d st t (r:Nat)=inV (.str z) ((W7 d.signs[r]).map V.str):=by
    unfold Xt;rw[el,ZcF]
    show decide (z∈KL d (r:Nat))=_
    unfold KL;rw[fN,eI pz];rfl
   have qq:=hN _ (Ze (o:=.lst ((W7 d.signs[r]).map V.str)) hq);rw[this] at qq;exact qq
  ·exact⟨D,_,rfl,.inl ⟨mZ e1,fun tb ht=>k _ tb (s1.trans (Ze ht)) (by rw[Zc,fL];rfl)⟩⟩
 ·refine⟨_,rfl,b,_,_,_,rfl,rfl,g,72,rfl,_,rfl,Z7 (fun q=>(by left:¬(("some" : Str) = "yes")) (V.str.inj q)) ?_⟩;refine⟨_,rfl,b,_,_,_,rfl,rfl,g,72,rfl,_,rfl,Z7 (fun q=>(by left:¬(("some" : Str) = "sign")) (V.str.inj q)) ?_⟩;refine⟨_,rfl,w,dx,fs,rfl,ho,wz,w,d,rfl,og,_,rfl,by lia,by lia,?_⟩;rw[fN];intro D hD;refine qy (fun r=>.bl (Xt d st t (r:Nat))) hD (by rw[eJ];lia) (fun r pz G N sG hN=>?_) fun H1 e1 s1=>?_
  ·refine⟨_,rfl,_,rfl,l,_,rfl,.inl (mZ (sG _ _ hl)),rfl,jj _,?_⟩;have:Xt d st t (r:Nat)=inV (.int (r:Nat)) ((st t).map V.int):=by
    unfold Xt;rw[el,Zae]
   have qq:=hN G (.refl _);rw[this] at qq;exact qq
  ·exact⟨D,_,rfl,.inl ⟨mZ e1,fun tb ht=>k _ tb (s1.trans (Ze ht)) (by rw[Zc,fL];rfl)⟩⟩
theorem zR:∀(n:Nat) (t:Tr),psz t<=n->YJ Tr.node t=t
 |0,t,h=>by have:=WL t;lia
 |n+1,t,h=>by
  rw[Wo];have e:t.ks.map (YJ Tr.node)=t.ks:=by
   have:t.ks.map (YJ Tr.node)=t.ks.map id:=lg fun k hk=>zR n k (by have:=XN hk;lia);rw[this,i3]
  rw[e];exact(Tr.eta t).symm
theorem zX:∀{ks:67}{s:Tr},s∈Ya ks->∃k∈ks,s∈post k
 |[],s,h=>by rw[Ya] at h;cases h
 |t::r,s,h=>by
  rw[Ya,fj] at h;rcases h with h|h
  ·exact⟨t,by simp,h⟩
  ·obtain⟨k,hk,hs⟩:=zX h;exact⟨k,eT _ hk,hs⟩
theorem lkN{v3:V}{m:Str}(h1:(m==("parts" : Str))=false)(h2:(m==("rows" : Str))=false)(h3:(m==("numbers" : Str))=false):([("parts",v1),("rows",v2),("numbers",v3)]:78).lookup m=none:=by
 rw[fD,h1]
 show θ _ _=_
 rw[fD,h2]
 show θ _ _=_
 rw[fD,h3];rfl
theorem Ki{ps0 L:67}{x:Tr}(h:L[i]?=some x):Zp ps0 (L.take (i+1))=UF (Zp ps0 (L.take i)) x:=by
 rw[l7,h,YX];rfl
theorem Zcw{x s:Tr}{m:Nat}(h:ps[m]?=some s):(UF ps x)[m]?=some s:=by
 obtain⟨B,e⟩:=Ku ps x;rw[e,fK (eY.mp h).1];exact h
def qO(K:W.Frag)(a:Adr):Sp:=fun vs H Q _=>Ex8 fun r P R D ps0 v t n=>Cj6 (vs=[.ref r,v]) (TbY K a.Pm a.C_Table H r P R D ps0) (At K n H v t) (psz t<=8000000) ((Zp ps0 (post t)).length<4000) (∀H' (i:Nat),Vt P R D H H'->TbY K a.Pm a.C_Table H' r P R D (Zp ps0 (post t))->(Zp ps0 (post t))[i]?=some t->Q (.int (i:Int)) H')
theorem W0{a:Adr}:66 4 a.y16 a.z16 dt qO:=fun T hw=>by
 refine okX T.ai.f Xb 69;intro X
 let d1:Rdg X Ys [1,0,1]:=⟨_,(@Zg _ _ _ (@YG _ _ _ _ (Wc fR ge gf Z9 (pv 2) (@Za _ _ _ _ _ (U2 (pv 0) T.am T.aE.m (zw T hw) (rmL hr rfl) T.aE.n .nil Xs (@Za _ _ _ _ _ (pv 3) (@Za _ _ _ _ _ (ZD T.bP (Ks T hw) hr rfl rfl (@Za _ _ _ _ _ (pv 3) (@Za _ _ _ _ _ (pv 4) Zb rfl) rfl)) Zb rfl) rfl)) Zb rfl)) rfl))⟩
 let d2:Rdg X Ys [1,0,0]:=⟨_,(@Zd _ _ _ _ _ (@Zu _ _ (4) _ _ _ _ Xb.nd rfl (.inl rfl) (ZD T.bf (zu T hw) hr rfl rfl (@Za _ _ _ _ _ (pv 2) (@Za _ _ _ _ _ (Zn (Zw (K:=K) rfl) rfl T.az ng (@Za _ _ _ _ _ (ZD T.a8 (UJ T hw) hr rfl rfl (@Za _ _ _ _ _ (pv 3) Zb rfl)) Zb rfl)) Zb rfl) rfl)) rfl (.inl rfl)) d1.2)⟩
 let d3:Rdg X Ys [1]:=⟨_,(@Zd _ _ _ _ _ (Xv fP rfl (Yn (K:=K) rfl (ZD T.aJ (Vn T hw) hr rfl rfl (@Za _ _ _ _ _ (pv 1) Zb rfl))) (Zz (i:=3) Xb.nd rfl (.inl rfl)) d2.2) (@Zg _ _ _ (@Zm _ _ _ _ (@Zq _ _ _ _ _ _ _ 54 (pv 2) Zi (fun _ _=>rfl)))))⟩
 intro vs Q h;obtain⟨r,P,R,D,ps0,v,t,n,rfl,tb,om,hz,oq,k⟩:=h;refine⟨_,(@Zd _ _ _ _ _ (@Zu _ _ (2) _ _ _ _ Xb.nd rfl (.inl rfl) (@Yd _ _ _ _ Zb) rfl (.inl rfl)) d3.2),?_⟩;cases n with
 |zero=>exact om.elim
 |succ n=>
  refine⟨by left,fun F hF=>?_⟩;have s1:=Ze (o:=.lst []) hF;have e1:(upd H F (.lst [])) F=some (.lst []):=Zc;generalize upd H F (.lst [])=H1 at s1 e1 ⊢;have Bl:(post t).length<=8000000:=hz;refine⟨_,rfl,v,t,n+1,rfl,om.mono (m5 s1),by lia,fun H2 L us s2 L0 eL aL=>⟨L,rfl,⟨_,mZ eL⟩,?_⟩⟩;have C0:L≠F:=fun e=>by rw[e,e1] at L0;cases L0
  have Dm:=s2 _ _ e1;obtain⟨wE,tJ⟩:=QX (F:=Tr.node) t;rw[zR _ t (eE _)] at tJ;have rb:=aL.1;obtain⟨n0,EV,uC,_⟩:=tb.pl;obtain⟨Gs,uI,_,_,_,uT⟩:=tb.rl;have ET:P≠F:=ZC uC hF;have Eu:R≠F:=ZC uI hF;have PM:D≠F:=ZC uT hF;have EU:∀c o,H c=some o->c≠L:=fun c o e z=>by rw[z] at e;rw[s1 _ _ e] at L0;cases L0
  have Tn:=EU _ _ uC;have NP:=EU _ _ uI;have PV:=EU _ _ uT;have Ac:=(tb.mono s1).mono s2
  let J1:Nat->L2.St->Hp->Prop:=fun i σ H'=>Ex4 fun(z1 z2:Option V) (is:List Nat) (st:67)=>ZeD (σ=[qr0 r,some v,qr0 F,z1,z2]) (Vt P R D H H') (H' L=some (.lst us)) (AtL K (n+1) H' us (post t)) (TbY K a.Pm a.C_Table H' r P R D (Zp ps0 ((post t).take i))) (H' F=some (.lst (iV is))) (is.length=st.length) ((∀(j:Nat) s m,st[j]?=some s->is[j]?=some m->(Zp ps0 ((post t).take i))[m]?=some s)) (yq Tr.node st ((post t).drop i)) (xz Tr.node st ((post t).drop i)=[t]) (st.length<=i)
  refine qY (K:=K) (xs:=us) J1 ?_ ?_ ?_ ?_
  ·exact⟨_,_,[],[],rfl,Zf.b (s1.trans s2),eL,aL,Ac,Dm,rfl,fun j s m h=>by simp at h,wE,tJ,eE _⟩
  ·rintro i σ H' hi ⟨z1,z2,is,st,rfl,_,Tc,_⟩;exact mZ Tc
  ·rintro i x σ H3 hx ⟨z1,z2,is,st,rfl,b3,Cw,FE,sR,tD,uj,rH,wc,oJ,nB⟩;have hi:i<us.length:=(eY.mp hx).1;have tj:i<(post t).length:=by lia
   have wM:(post t)[i]?=some (post t)[i]:=eI tj;have wv:=FE.2 i x _ hx wM;have uF:=Ki (ps0:=ps0) wM;have oG:(Zp ps0 ((post t).take i)).length<4000:=by
    have e1:Zp ps0 (post t)=Zp (Zp ps0 ((post t).take i)) ((post t).drop i):=by rw[<- YX,List.take_append_drop]
    obtain⟨B,e2⟩:=Wf ((post t).drop i) (Zp ps0 ((post t).take i));rw[e1,e2,eK] at oq;lia
   rw[mN tj] at wc oJ;obtain⟨⟨Di,uq⟩,Bf⟩:=wc;have sP:xz Tr.node (VA Tr.node st (post t)[i]) ((post t).drop (i+1))=[t]:=oJ;have B0:(post t)[i].ks.map (YJ Tr.node)=(post t)[i].ks:=by
    have:(post t)[i].ks.map (YJ Tr.node)=(post t)[i].ks.map id:=lg fun k hk=>zR _ k (eE _);rw[this,i3]
   rw[B0] at uq;generalize (post t)[i]=q at wv Di uq Bf sP uF wM B0;generalize Bm:Zp ps0 ((post t).take i)=ps at sR rH uF oG;obtain⟨As,tp,Cm,Cg,A9,wo,CJ⟩:=id wv;refine⟨_,rfl,_,rfl,x,As,tp,q.lb,rfl,Cm,Cg,by rw[wo];exact A9.b,fun H4 b s4 eb=>.inl ⟨b,_,rfl,.inr eb,?_⟩⟩;have sJ:=s4 _ _ tD;have S2:=WE is;refine⟨F,iV is,tp.length,rfl,sJ,by rw[S2];lia,fun H5 l x5 rR l0 wX=>?_⟩;have NN:l≠F:=fun e=>by rw[e,sJ] at l0;cases l0
   have RR:Yw H4 H5:=Zr.tup x5 sJ;have CO:Yw H3 H5:=(m5 s4).trans RR;have Fn:TbY K a.Pm a.C_Table H5 r P R D ps:=(sR.mono s4).monoX x5 sJ ET Eu;rw[show(iV is).length-tp.length=st.length-q.ks.length by lia] at rR wX;have ed:(iV is).drop 84=iV (is.drop 84):=by unfold iV;rw[Κ]
   have ek:(iV is).take 84=iV (is.take 84):=by unfold iV;rw[hU]
   rw[ed] at wX;rw[ek] at rR;have Ck:=wv.mono CO;obtain⟨Og,OA⟩:=Fn.obj;have BU:(is.drop 84).length=q.ks.length:=by rw[gv];lia
   have oS:WB ps q (vG q.lb (is.drop 84)):=by
    refine⟨_,BU,fun j kk m h1 h2=>?_,rfl⟩;rw[<- uq,lL] at h1;rw[lL] at h2;exact rH _ _ _ h1 h2
   refine⟨_,rfl,.inl ⟨rfl,_,mZ rR⟩,_,rfl,r,Og,_,rfl,OA,lkN 48 48 48,_,rfl,_,rfl,_,rfl,x,q,n+1,l,_,rfl,Ck,wX,BU,fun H6 b6 s6 e6=>⟨r,P,R,D,ps,x,q,n+1,b6,_,rfl,Fn.mono s6,Ck.mono (m5 s6),e6,oS,by lia,fun H7 m b7 RO hm=>?_⟩⟩;have ED:=b7 _ _ (eX ET) (eX Eu) (eX PM) (s6 _ _ rR);refine⟨F,_,_,rfl,rfl,ED,by rw[WE,fh,eJ];lia,?_⟩;have x8:Zr F H7 (upd H7 F (.lst (iV (is.take 84)++[.int (m:Int)]))):=(Zr.refl H7).upd;have u8:Yw H7 (upd H7 F (.lst (iV (is.take 84)++[.int (m:Int)]))):=Zr.tup x8 ED;have DN:=RO.monoX x8 ED ET Eu;have e8:(upd H7 F (.lst (iV (is.take 84)++[.int (m:Int)]))) F=some (.lst (iV (is.take 84++[m]))):=by
    rw[Zc];unfold iV;rw[fo];rfl
   have b8:Vt P R D H (upd H7 F (.lst (iV (is.take 84)++[.int (m:Int)]))):=fun c o n1 n2 n3 e=>by
    have nc:c≠F:=ZC e hF;rw[Zo nc];exact b7 _ _ n1 n2 n3 (s6 _ _ (x5 _ _ nc (s4 _ _ (b3 _ _ n1 n2 n3 e))))
   have Ic:(upd H7 F (.lst (iV (is.take 84)++[.int (m:Int)]))) L=some (.lst us):=X8 (b7 _ _ (eX Tn) (eX NP) (eX PV) (s6 _ _ (x5 _ _ C0 (s4 _ _ Cw)))) C0;have MC:Yw H3 (upd H7 F (.lst (iV (is.take 84)++[.int (m:Int)]))):=(CO.trans (m5 s6)).trans (((Fn.mono s6).t b7).trans u8);generalize upd H7 F (.lst (iV (is.take 84)++[.int (m:Int)]))=H8 at x8 u8 DN e8 b8 Ic MC ⊢;rw[<- uF] at DN hm;refine⟨_,_,is.take 84++[m],VA Tr.node st q,rfl,b8,Ic,FE.mono MC,DN,e8,?_,?_,Bf,sP,?_⟩
   ·unfold VA;rw[eK,eK,fh,fh,uj];rfl
   ·intro j s m' h1 h2;unfold VA at h1;have BQ:(st.take 84).length=(is.take 84).length:=by rw[fh,fh,uj]
    by_cases hj:j<(is.take 84).length
    ·rw[fK (by rw[BQ];exact hj)] at h1;rw[fK hj] at h2;have RB:j<st.length-q.ks.length:=by rw[fh] at hj;lia
     rw[mn RB] at h1 h2;rw[uF];exact Zcw (rH j s m' h1 h2)
    ·rw[fS (by rw[BQ];lia),BQ] at h1;rw[fS 21] at h2;have Of:j-(is.take 84).length=0:=by
      have:=(eY.mp h2).1;rw[fY] at this;lia
     rw[Of] at h1 h2;have e1:m=m':=by simpa using h2
     have e2:Tr.node q.lb (st.drop 84)=s:=by simpa using h1
     rw[uq,<- Tr.eta] at e2;rw[<- e1,<- e2];exact hm
   ·unfold VA;rw[eK,fh];simp;lia
  rintro σ H3 ⟨z1,z2,is,st,rfl,b3,Cw,FE,sR,tD,uj,rH,wc,oJ,nB⟩;rw[rb,Ψ (eE _)] at oJ;rw[rb,iy (eE _)] at sR rH;have DQ:st=[t]:=oJ;subst DQ;obtain⟨m,rfl⟩:∃m,is=[m]:=by
   match is,uj with
   |[m],_=>exact⟨m,rfl⟩
  exact⟨_,rfl,F,_,_,_,rfl,rfl,mZ tD,72,k H3 m b3 sR (rH 0 t m rfl rfl)⟩
theorem JM(h1:H S=some (.dK kv)):Yw H (upd H S o):=fun K b ys h=>by
 rcases h with(h|⟨o',h⟩)|h
 ·exact .inl (.inl (by rw[Zo (fun z=>by rw[z,h1] at h;cases h)];exact h))
 ·exact .inl (.inr ⟨o',by rw[Zo (fun z=>by rw[z,h1] at h;cases h)];exact h⟩)
 ·exact .inr h
theorem J4{xs:List V}(h1:H S=some (.lst xs)):Yw H (upd H S o):=fun K b ys h=>by
 rcases h with(h|⟨o',h⟩)|h
 ·exact .inl (.inl (by rw[Zo (fun z=>by rw[z,h1] at h;cases h)];exact h))
 ·exact .inl (.inr ⟨o',by rw[Zo (fun z=>by rw[z,h1] at h;cases h)];exact h⟩)
 ·exact .inr h
def ZgN(H:Hp)(st:Tr->82)(ps ts:67)(kv:List (Key×V)):Prop:=∀(m:Nat) t,ps[m]?=some t->t∈ts->t.lb=.op "some" -> ∃l,Yx kv (.inl (m:Int))=some (.ref l)/\H l=some (.lst ((st t).map V.int))/\(st t).length<=1000
def vt(K:W.Frag)(a:Adr):Sp:=fun vs H Q _=>Zhs fun(w r P R D tl:Addr) (i:Nat) (ps:67) (t:Tr) (d:WD) (st:Tr->82) (kv:List (Key×V))=>ZeD (vs=[.ref w,.ref r,.int (i:Nat),.ref tl]) (Z5 a.C_World H w d) (d.signs.length<=20) (TbY K a.Pm a.C_Table H r P R D ps) (ps[i]?=some t) ((∀s∈ps,isC s=true)) (psz t<=2000000) ((Zp [] (ZF t)).length<4000) (H tl=some (.dK kv)) (ZgN H st ps (Zp [] (ZF t)) kv) (∀H' q rv,Zf H H'->H q=none->H' q=some (.lst rv)->ZfT K H' d st (Zp [] (ZF t)) rv->Q (.ref q) H')
theorem xp{a:Adr}:66 3 a.y24 a.z24 du vt:=fun T hw=>by
 refine okX T.bh.f Xq 69;intro X
 let d1:Rdg X Z3 [2,0,2,0,0]:=⟨_,(@Zg _ _ _ (@YG _ _ _ _ (Wc fR ge gf Z9 (pv 5) (@Za _ _ _ _ _ (@ZI _ _ _ _ _ (@Za _ _ _ _ _ Zl (@Za _ _ _ _ _ (ZD T.bj (xU T hw) hr rfl rfl (@ZA _ _ _ _ _ (pv 0) (@ZA _ _ _ _ _ (pv 7) (@ZA _ _ _ _ _ (ZcT (VT hr) (pv 3) (pv 6) ⟨rfl,rfl,rfl,rfl⟩) Zb rfl) rfl) rfl)) Zb rfl) rfl)) Zb rfl)) rfl))⟩
 let d2:Rdg X Z3 [2,0,2,1,0]:=⟨_,(@Zg _ _ _ (@YG _ _ _ _ (Wc fR ge gf Z9 (pv 5) (@Za _ _ _ _ _ (@ZO _ _ _ _ _ _ _ _ (yY (K:=K) rfl) (@ZI _ _ _ _ _ (@Za _ _ _ _ _ (@Zq _ _ _ _ _ _ _ (ZU (K:=K) rfl) (pv 7) Zi (fun _ _=>rfl)) Zb rfl)) (Z2 (Yj (K:=K) rfl) rfl T.aH m9 (@Za _ _ _ _ _ (YC (Nc:=["part","places"]) (ix:=[none,some 4]) (ZX.of (by left:Yc (Zh Z3) qi _ _ _=true)) rfl (j4 (K:=K) rfl (ZW (Uw (K:=K) rfl) (pv 7) (ZS Zi) YH)) (fun _ _ _ _ _=>(Zz (i:=0) (show δ (["part","places"]:50) by left) rfl (.inl rfl))) (fun _ _ _ _ _=>YV) (fun _ _ _ _ _=>(Ul (VT hr) (pv 1) (pv 0) (fun _ _=>rfl)))) Zb rfl))) Zb rfl)) rfl))⟩
 let d3:Rdg X Z3 [2,0,2]:=⟨_,(@Zg _ _ _ (@ZQ _ _ _ _ _ _ _ _ (@Zt _ _ _ _ _ _ _ _ (WZ (K:=K) rfl) (@Zq _ _ _ _ _ _ _ (ZU (K:=K) rfl) (pv 7) Zi (fun _ _=>rfl)) (@ZI _ _ _ _ _ (@ZA _ _ _ _ _ Zl (@ZA _ _ _ _ _ Zl (@ZA _ _ _ _ _ Zl Zb rfl) rfl) rfl)) (by with_unfolding_all rfl)) d1.2 d2.2))⟩
 let d4:Rdg X Z3 [2,0,1]:=⟨_,(@Zd _ _ _ _ _ (zM (VT hr) (pv 4) (pv 6) (Zn (Zw (K:=K) rfl) rfl T.az ng (@Za _ _ _ _ _ (pv 5) Zb rfl)) rfl) d3.2)⟩
 let d5:Rdg X Z3 [2,0,0]:=⟨_,(@Zd _ _ _ _ _ (@Zu _ _ (7) _ _ _ _ Xq.nd rfl (.inl rfl) (@Zq _ _ _ _ _ _ _ 54 (X0 (K:=K) rfl (pv 1) rfl) (pv 6) (fun _ _=>rfl)) rfl (.inl rfl)) d4.2)⟩
 let d6:Rdg X Z3 [2]:=⟨_,(@Zd _ _ _ _ _ (Xv fP rfl (Yn (K:=K) rfl (U2 (pv 1) T.am T.ak.m (Um T hw) (rmL hr rfl) T.ak.n .nil Xs (@Za _ _ _ _ _ (pv 2) Zb rfl))) (Zz (i:=6) Xq.nd rfl (.inl rfl)) d5.2) (@Zg _ _ _ (@Zm _ _ _ _ (pv 5))))⟩
 let d7:Rdg X Z3 [1]:=⟨_,(@Zd _ _ _ _ _ (@Zu _ _ (5) _ _ _ _ Xq.nd rfl (.inl rfl) (@Yd _ _ _ _ Zb) rfl (.inl rfl)) d6.2)⟩
 intro vs Q h;obtain⟨w,r,P,R,D,tl,i,ps,t,d,st,kv,rfl,og,n20,tb,hi,hc,hz,oq,LB,AB,k⟩:=h;refine⟨_,(@Zd _ _ _ _ _ (@Zu _ _ (4) _ _ _ _ Xq.nd rfl (.inr rfl) L3.pe_dnewK rfl (.inl rfl)) d7.2),?_⟩;generalize hts:Zp [] (ZF t)=ts at oq AB k;have ord:Ord ts:=by rw[<- hts];exact Zdx t
 have O6:ts.Nodup:=by rw[<- hts];exact WO 47
 refine fun PL Mj=>?_;obtain⟨H1,qN,s1,CA⟩:=Yl (o:=.dK []) Mj;rw[qN];refine⟨by left,fun RW wN=>?_⟩;obtain⟨H2,qN,s2,Ll⟩:=Yl (o:=.lst []) wN;rw[qN];have Hw:=s1.trans s2;have Ac:=tb.mono Hw;obtain⟨dx,ho⟩:=Ac.obj;have GE:PL≠RW:=fun e=>by rw[e] at CA;rw[CA] at wN;cases wN
 refine⟨_,rfl,r,dx,_,rfl,ho,lkN 48 48 48,_,rfl,r,P,R,D,ps,t,i,rfl,Ac,hi,hc,hz,by rw[hts];exact oq,fun H3 L is s3 L0 hL pT=>⟨L,rfl,⟨_,mZ hL⟩,?_⟩⟩;rw[hts] at pT;have Cy:=Hw.trans s3;have DR:=(s2.trans s3) _ _ CA;have DK:=s3 _ _ Ll;have FC:L≠PL:=fun e=>by rw[e,s2 _ _ CA] at L0;cases L0
 have EB:L≠RW:=fun e=>by rw[e,Ll] at L0;cases L0
 have iv:(iV is).length=is.length:=WE is;have lis:=pT.1;have keep:∀{G:Hp},Vg PL RW H3 G->Zf H G:=fun {G} sG b o e=>sG _ _ (fun z=>by rw[z,Mj] at e;cases e) (fun z=>by rw[z] at e;rw[s1 _ _ e] at wN;cases wN) (Cy _ _ e);refine XQ (J:=Itl K L) (n:=ts.length) (fun j σ G=>∃(z6 z7:Option V) (kp:List (Key×V)) (rv:List V),σ=[qr0 w,qr0 r,some (.int (i:Nat)),qr0 tl,qr0 PL,qr0 RW,z6,z7]/\Vg PL RW H3 G/\G PL=some (.dK kp)/\kp.length<=j/\(∀(x m:Nat),x<j->is[x]?=some m->Yx kp (.inl (m:Int))=some (.int (x:Nat)))/\G RW=some (.lst rv)/\rv.length=j/\∀(x:Nat) v u,rv[x]?=some v->ts[x]?=some u->yG K G d st ts x v u) ?_ ?_ ?_ ?_ ?_
 ·exact⟨_,_,[],[],rfl,(fun b o _ _ e=>e),DR,eE _,(fun x m h=>nu h (Nat.not_lt_zero x)),DK,rfl,fun x v u h=>by simp at h⟩
 ·rintro j σ G hj ⟨z6,z7,kp,rv,rfl,sG,_⟩;exact⟨_,_,mZ (sG _ _ FC EB hL),eI (by rw[iv];lia)⟩
 ·rintro σ G ⟨z6,z7,kp,rv,rfl,sG,_⟩;exact⟨_,mZ (sG _ _ FC EB hL),by rw[iv];lia⟩
 ·rintro j x σ G0 G hj ⟨z6,z7,kp,rv,rfl,sG,gP,lk,pl,gR,lr,gr⟩ ⟨rfl,hx⟩;have ex:=hx _ (mZ (sG _ _ FC EB hL));unfold iV at ex;rw[eO] at ex;have hm:is[j]?=some (is[j]' 21):=eI 21;generalize (is[j]' 21)=m at hm;rw[hm] at ex;have rF:x=.int (m:Int):=(fc ex).symm;subst rF;have hu:ts[j]?=some ts[j]:=eI hj;have BJ:ts[j]∈ts:=fv hj;generalize hue:ts[j]=u at hu BJ;have sS:=pT.2 j m u hm hu;have wZ:=tb.mono (keep sG);obtain⟨B5,oB⟩:=wZ.obj;obtain⟨np,EV,AD,aP⟩:=wZ.pl;obtain⟨rows,wT,rl,uJ,uY,oz⟩:=wZ.rk hc;have hml:m<ps.length:=(eY.mp sS).1;have wR:rows[m]?=some (rows[m]' 21):=eI 21;have hb:=uJ _ (fv (show m<rows.length by lia));obtain⟨kn,kl,kin,Du⟩:=uY m u _ sS wR;rw[Du] at hb;have wP:(rows.map fun e=>V.ref e.2)[m]?=some (V.ref (rows[m]' 21).2):=by rw[eO,wR];rfl
  generalize (rows[m]' 21).2=b at hb wP;have IH:=hc u (fz sS);have Ch:=aP.oks u (fz sS);refine⟨_,rfl,r,_,B5,_,_,rfl,oB,T.am,T.aC,lkR,_,rfl,R,_,_,_,rfl,rfl,mZ wT,Zj wP,?_⟩;refine⟨_,rfl,.inl ⟨RW,_,rfl,.inl (mZ gR),_,rfl,_,rfl,PL,_,rfl,yC.k (k:=.inl (m:Int)) gP (by rw[eJ];lia),?_⟩⟩;rw[lr];have tP:=JM (o:=.dK (Xr kp (.inl (m:Int)) (.int (j:Nat)))) gP;have Fy:Vg PL RW H3 (upd G PL (.dK (Xr kp (.inl (m:Int)) (.int (j:Nat))))):=sG.upd1;have CT:(upd G PL (.dK (Xr kp (.inl (m:Int)) (.int (j:Nat))))) PL=some (.dK (Xr kp (.inl (m:Int)) (.int (j:Nat)))):=Zc;have um:(upd G PL (.dK (Xr kp (.inl (m:Int)) (.int (j:Nat))))) RW=some (.lst rv):=by rw[Zo (eX GE)];exact gR
  have lk2:(Xr kp (.inl (m:Int)) (.int (j:Nat))).length<=j+1:=eW (Xp _ _ _) 21;have MX:∀x,x<j->is[x]?≠some m:=fun x AA e=>by
   have h1:=pT.2 x m (ts[x]' 21) e (eI 21);rw[sS] at h1;have h2:=fc h1;rw[<- hue] at h2;have:=(i6 O6).mp h2;lia
  have De:∀(x q:Nat),x<j+1->is[x]?=some q->Yx (Xr kp (.inl (m:Int)) (.int (j:Nat))) (.inl (q:Int))=some (.int (x:Nat)):=fun x q AA e=>by
   rw[JG]
   by_cases cx:x=j
   ·subst cx;rw[hm] at e;cases e;rw[nt rfl]
   ·have wH:x<j:=by lia
    rw[nn (fun z=>MX x wH (by
     have:(q:Int)=(m:Int):=iK z;rw[e];congr 1;lia))]
    exact pl x q wH e
  have Hv:∀(x:Nat) v u,rv[x]?=some v->ts[x]?=some u->yG K (upd G PL (.dK (Xr kp (.inl (m:Int)) (.int (j:Nat))))) d st ts x v u:=fun x v u h1 h2=>(gr x v u h1 h2).mono tP;have pF:=tP _ _ _ hb;generalize upd G PL (.dK (Xr kp (.inl (m:Int)) (.int (j:Nat))))=G2 at Fy CT um Hv pF ⊢;generalize Xr kp (.inl (m:Int)) (.int (j:Nat))=AR at CT lk2 De;clear tP gr pl lk gP gR sG AD aP wT uJ uY oz wP wR oB wZ;have XB:∀(G3:Hp) (q:V),Zf G2 G3->yG K G3 d st ts j q u->∀z6 z7,WT (.ref RW) [q] G3 (fun _ G4=>∃(y6 y7:Option V) (kp:List (Key×V)) (rv:List V),[qr0 w,qr0 r,some (.int (i:Nat)),qr0 tl,qr0 PL,qr0 RW,z6,z7]=[qr0 w,qr0 r,some (.int (i:Nat)),qr0 tl,qr0 PL,qr0 RW,y6,y7]/\Vg PL RW H3 G4/\G4 PL=some (.dK kp)/\kp.length<=j+1/\(∀(x m:Nat),x<j+1->is[x]?=some m->Yx kp (.inl (m:Int))=some (.int (x:Nat)))/\G4 RW=some (.lst rv)/\rv.length=j+1/\∀(x:Nat) v u,rv[x]?=some v->ts[x]?=some u->yG K G4 d st ts x v u):=fun G3 q sN gq z6 z7=>by
   have DZ:=sN _ _ um;refine⟨RW,_,_,rfl,rfl,DZ,by rw[lr,eJ];lia,_,_,AR,rv++[q],rfl,(Fy.trans (Zf.two sN)).upd2,by rw[Zo GE];exact sN _ _ CT,lk2,De,Zc,by rw[eK,lr];rfl,fun x v u' h1 h2=>?_⟩
   by_cases cx:x<rv.length
   ·rw[fK cx] at h1;exact(Hv x v u' h1 h2).mono ((m5 sN).trans (J4 DZ))
   ·have RZ:=(eY.mp h1).1;rw[eK,fY] at RZ;have NX:x=j:=by lia
    subst NX;rw[fS 21,lr,hJ] at h1;cases h1;rw[hu] at h2;cases h2;exact gq.mono (J4 DZ)
  have nY:=keep Fy
  by_cases cat:Vq u=true
  ·-- an atom
   have DT:∃xs,SqT K G2 b (.str (ZP u.lb)::xs)/\ZP u.lb∈(["yes","sign","some"]:50)/\∀G3,Zf G2 G3->ZaC K G3 st u b ((Yx kv (.inl (m:Int))).getD .non):=by
    unfold Vq at cat;cases el:u.lb with
    |yes=>
     rw[el] at pF;exact⟨[],pF,by simp[ZP],fun G3 sN=>.inl ⟨el,m5 sN _ _ _ pF⟩⟩
    |sign z=>
     rw[el] at pF;exact⟨[.str z],pF,by simp[ZP],fun G3 sN=>.inr (.inl ⟨z,el,m5 sN _ _ _ pF⟩)⟩
    |op w'=>
     rw[el] at cat pF;have ew:=fA cat;subst ew;obtain⟨l,hv,hl,ll⟩:=AB m u sS BJ el;rw[hv];have k1:kn.length=1:=by
      rw[kl];rw[el] at Ch;rcases Ch with⟨_,h⟩|⟨h,_⟩
      ·exact h
      ·exact nu h 48
     obtain⟨m1,rfl⟩:∃m1,kn=[m1]:=by
      cases kn with
      |nil=>cases k1
      |cons x r=>cases r with
       |nil=>exact⟨x,rfl⟩
       |cons y s=>simp at k1
     exact⟨_,pF,by simp[ZP],fun G3 sN=>.inr (.inr ⟨el,⟨_,m5 sN _ _ _ pF⟩,l,rfl,(nY.trans sN) _ _ hl,ll⟩)⟩
    |wit m=>rw[el] at cat;cases cat
    |many w=>rw[el] at cat;cases cat
   obtain⟨xs,oS,pN,Rp⟩:=DT;refine⟨_,rfl,b,_,_,_,rfl,rfl,oS,72,sz3,fun q hq=>?_⟩;obtain⟨G3,qN,u3,e3⟩:=Yl (o:=.tup [.str "yes",.str "sign",.str "some"]) hq;rw[qN];refine⟨q,_,rfl,.inr (m6 e3),rfl,rfl,_,rfl,qr (ss:=["yes","sign","some"]) pN ?_⟩;refine⟨_,rfl,.inl ⟨rfl,_,mZ (u3 _ _ um)⟩,_,rfl,_,rfl,_,rfl,tl,rfl,?_,_,rfl,_,zi.k (k:=.inl (m:Int)) ((nY.trans u3) _ _ LB),w,b,_,d,st,u,rfl,og.mono (nY.trans u3),n20,Rp G3 u3,fun G4 Le u4 e4=>?_⟩
   ·exact .inl ⟨_,.inl ((nY.trans u3) _ _ LB)⟩
   refine⟨sz2,fun q2 oj=>?_⟩;obtain⟨G5,qN,u5,e5⟩:=Yl (o:=.tup [.str "at",.ref Le]) oj;rw[qN];refine XB G5 (.ref q2) (u3.trans (u4.trans u5)) ?_ _ _;unfold yG;rw[nt cat];exact⟨q2,Le,rfl,m6 e5,m6 (u5 _ _ e4)⟩
  ·-- no atom
   have sM:Vq u=false:=by simpa using cat
   have Hk:YQ u=u.ks:=by
    rcases W8 IH Ch sM with⟨w',a1,rfl,h⟩|⟨w',a1,a2,rfl,h⟩|⟨a1,a2,rfl⟩
    ·unfold YQ
     show(if w' = "some" then[] else _)=_
     rw[nn (by rcases h with rfl|rfl|rfl<;>left)]
    ·unfold YQ
     show(if w' = "some" then[] else _)=_
     rw[nn (by rcases h with rfl|rfl<;>left)]
    ·rfl
   have rL:SqT K G2 b (.str (ZP u.lb)::kn.map fun i:Nat=>V.int (i:Nat))/\ZP u.lb∉(["yes","sign","some"]:50)/\kn≠[]:=by
    rcases W8 IH Ch sM with⟨w',a1,rfl,h⟩|⟨w',a1,a2,rfl,h⟩|⟨a1,a2,rfl⟩
    ·refine⟨?_,by(show w'∉(["yes","sign","some"]:50));(rcases h with rfl|rfl|rfl<;>left),fun e=>by rw[e] at kl;cases kl⟩;have e:(Xm (.op w') kn).map kV=.str w'::kn.map fun i:Nat=>V.int (i:Nat):=by show V.str w'::(nK kn).map kV=_;unfold nK;rw[fL];rfl
     have ue:SqT K G2 b ((Xm (.op w') kn).map kV):=pF;rw[e] at ue;exact ue
    ·refine⟨?_,by(show w'∉(["yes","sign","some"]:50));(rcases h with rfl|rfl<;>left),fun e=>by rw[e] at kl;cases kl⟩;have e:(Xm (.op w') kn).map kV=.str w'::kn.map fun i:Nat=>V.int (i:Nat):=by show V.str w'::(nK kn).map kV=_;unfold nK;rw[fL];rfl
     have ue:SqT K G2 b ((Xm (.op w') kn).map kV):=pF;rw[e] at ue;exact ue
    ·refine⟨?_,by(show("and" : Str)∉(["yes","sign","some"]:50));left,fun e=>by rw[e] at kl;cases kl⟩;have e:(Xm (.many "and") kn).map kV=.str "and" :: kn.map fun i:Nat=>V.int (i:Nat):=by show V.str "and" :: (nK kn).map kV=_;unfold nK;rw[fL];rfl
     have ue:SqT K G2 b ((Xm (.many "and") kn).map kV):=pF;rw[e] at ue;exact ue
   obtain⟨oS,pN,DG⟩:=rL;have k8:=Zfr Ch;have oi:∀(x:Nat) kd q,u.ks[x]?=some kd->kn[x]?=some q->∃y:Nat,y<j/\ts[y]?=some kd/\is[y]?=some q:=fun x kd q h1 h2=>by
    have hq:=kin x kd q h1 h2;obtain⟨y,hy,ey⟩:=ord j u hu kd (by rw[Hk];exact fz h1);have B9:is[y]?=some (is[y]' 21):=eI 21;have:=pT.2 y _ kd B9 ey;exact⟨y,hy,ey,by rw[B9,jp tb.nd this hq]⟩
   refine⟨_,rfl,b,_,_,_,rfl,rfl,oS,72,sz3,fun q hq=>?_⟩;obtain⟨G3,qN,u3,e3⟩:=Yl (o:=.tup [.str "yes",.str "sign",.str "some"]) hq;rw[qN];refine⟨q,_,rfl,.inr (m6 e3),rfl,rfl,_,rfl,Xo (ss:=["yes","sign","some"]) pN ?_⟩;refine⟨_,rfl,.inl ⟨rfl,_,mZ (u3 _ _ um)⟩,_,rfl,b,_,_,_,rfl,rfl,m5 u3 _ _ _ oS,72,sz1,fun q1 Ea=>?_⟩;obtain⟨G4,qN,u4,e4⟩:=Yl (o:=.tup [.str (ZP u.lb)]) Ea;rw[qN];have EL:=u3.trans u4;refine⟨_,rfl,1,rfl,b,_,rfl,m5 EL _ _ _ oS,?_,fun c F9=>?_⟩
   ·intro⟨z1,_⟩;have:HT.sIx (V.str (ZP u.lb)::kn.map fun i:Nat=>V.int (i:Nat)).length 0 (some ((1:Nat):Int))=0:=z1;rw[HT.sIx_nat] at this;simp at this
   have ec:=WX (V.str (ZP u.lb)::kn.map fun i:Nat=>V.int (i:Nat)) 1 47;rw[show((1:Nat):Int)=1 from rfl] at ec;rw[ec];obtain⟨G5,qN,u5,e5⟩:=Yl (o:=.tup (kn.map fun i:Nat=>V.int (i:Nat))) F9
   change upd G4 c (.tup ((V.str (ZP u.lb)::kn.map fun i:Nat=>V.int (i:Nat)).drop 1))=G5 at qN
   rw[qN];have CO:=EL.trans u5;refine⟨c,rfl,⟨_,m6 e5⟩,fun Dc tu=>?_⟩;have Bp:∀q∈kn,∃y:Nat,y<j/\is[y]?=some q:=fun q DM=>by
    obtain⟨x,hx,e⟩:=fO DM;obtain⟨y,h1,_,h3⟩:=oi x _ q (eI (show x<u.ks.length by lia)) (by rw[eI hx,e]);exact⟨y,h1,h3⟩
   refine xh kn (fun i:Nat=>V.int (i:Nat)) (fun q:Nat=>(Yx AR (.inl (q:Int))).getD .non) tu (m6 e5) (by rw[kl,eJ];lia) ?_ ?_
   ·intro q DM F N sF hN;obtain⟨y,hy,ey⟩:=Bp q DM;have hv:=De y q 21 ey;have hn:=hN F (.refl _);rw[hv] at hn;refine⟨_,rfl,_,rfl,PL,_,rfl,?_,hn⟩;have hg:=zi.k (k:=.inl (q:Int)) ((CO.trans sF) _ _ CT);rw[hv] at hg
    first|exact hg|(rw[hv];exact hg)
   intro G6 eD u6;refine⟨Dc,_,rfl,.inl ⟨mZ eD,fun tt SE=>?_⟩⟩;obtain⟨G7,qN,u7,e7⟩:=Yl (o:=.tup (kn.map fun q:Nat=>(Yx AR (.inl (q:Int))).getD .non)) SE;rw[qN];have LV:=u5.trans (u6.trans u7);refine⟨q1,tt,_,_,rfl,rfl,m6 (LV _ _ e4),m6 e7,by simp,by rw[eG,kl,eJ];show 1+u.ks.length<=16777216;lia,(fun h=>nu (List.map_eq_nil_iff.mp h) DG),fun _ q9 Ti=>?_⟩;obtain⟨G8,qN,u8,e8⟩:=Yl (o:=.tup ([.str (ZP u.lb)]++kn.map fun q:Nat=>(Yx AR (.inl (q:Int))).getD .non)) Ti;rw[qN];refine XB G8 (.ref q9) (EL.trans (LV.trans u8)) ?_ _ _;unfold yG;rw[nn cat];have Bs:∀l:List Nat,(∀q∈l,∃y:Nat,y<j/\is[y]?=some q)->∃js:List Nat,js.length=l.length/\(l.map fun q:Nat=>(Yx AR (.inl (q:Int))).getD .non)=js.map (fun y:Nat=>V.int (y:Nat))/\∀(x:Nat) y q,js[x]?=some y->l[x]?=some q->y<j/\is[y]?=some q:=by
    intro l
    induction l with
    |nil=>exact fun _=>⟨[],rfl,rfl,fun x y q h=>by simp at h⟩
    |cons q l ih=>
     intro h;obtain⟨y,hy,ey⟩:=h q gU;obtain⟨js,j1,j2,j3⟩:=ih fun q hq=>h q (eT _ hq);refine⟨y::js,by simp[j1],by rw[eM,eM,j2,De y q 21 ey];rfl,fun x y' q' h1 h2=>?_⟩;cases x with
     |zero=>cases h1;cases h2;exact⟨hy,ey⟩
     |succ x=>exact j3 x y' q' h1 h2
   obtain⟨js,j1,j2,j3⟩:=Bs kn Bp;rw[j2] at e8;refine⟨q9,js,rfl,m6 e8,by lia,fun x kd y h1 h2=>?_⟩;have uD:x<kn.length:=by have:=(eY.mp h1).1;lia
   have DY:kn[x]?=some kn[x]:=eI uD;obtain⟨hy,ey⟩:=j3 x y _ h2 DY;obtain⟨y2,B9,et,ei2⟩:=oi x kd _ h1 DY;have h3:=pT.2 y _ (ts[y]' 21) ey (eI 21);have h4:=kin x kd _ h1 DY;rw[h4] at h3;refine⟨hy,?_⟩;rw[eI (show y<ts.length by lia)];exact h3.symm
 rintro σ G ⟨z6,z7,kp,rv,rfl,sG,gP,lk,pl,gR,lr,gr⟩;refine⟨_,rfl,k G RW rv (keep sG) (s1.free wN) gR ⟨lr,gr,fun u Ry=>?_⟩⟩;obtain⟨x,hx,e⟩:=fO Ry;have hm:is[x]?=some (is[x]' 21):=eI 21;have hp:=pT.2 x _ u hm (by rw[eI hx,e]);have wZ:=tb.mono (keep sG);obtain⟨np,EV,AD,aP⟩:=wZ.pl;exact⟨hc u (fz hp),aP.oks u (fz hp)⟩
def ZbW(K:W.Frag)(H:Hp)(sl:Addr)(st:Tr->82)(ss:67):Prop:=∃xs:List V,H sl=some (.lst xs)/\xs.length=ss.length/\∀(i:Nat) v t,xs[i]?=some v->ss[i]?=some t->∃(b l:Addr) (e:V) (n:Nat),v=.ref b/\SqT K H b [e,.ref l]/\At K n H e t/\H l=some (.lst ((st t).map V.int))
theorem TbY.updD{r P R F:Addr}(hF:H F=some (.dK kv))(h:TbY K Pm C H r P R D ps):TbY K Pm C (upd H F o) r P R D ps:=by
 obtain⟨⟨dx,h0⟩,⟨n,pv,h1,h2⟩,⟨rows,g1,g2,g3,g4,g5⟩,nd,pr⟩:=h;have u:Yw H (upd H F o):=JM hF;have ke:∀{b:Addr}{o':HO},H b=some o'->o'≠.dK kv->upd H F o b=some o':=fun {b o'} e n=>by rw[Zo (fun z=>by rw[z,hF] at e;exact n (fc e).symm)];exact e
 exact⟨⟨dx,ke h0 (by intro z;cases z)⟩,⟨n,pv,ke h1 (by intro z;cases z),h2.mono u⟩,⟨rows,ke g1 (by intro z;cases z),g2,fun e he=>(g3 e he).mono u,g4,ke g5 (by intro z;cases z)⟩,nd,pr⟩
noncomputable def tkI(ps ss:67)(i:Nat):67:=Zp ps ((ss.take i).map post).flatten
theorem Zc5{ss:67}{t:Tr}(h:ss[i]?=some t):tkI ps ss (i+1)=Zp (tkI ps ss i) (post t):=by
 unfold tkI;rw[l7,h]
 show Zp ps ((ss.take i++[t]).map post).flatten=_
 rw[fo,ξ,YX]
 show Zp _ ([post t].flatten)=_
 rw[List.flatten_singleton]
theorem ZfH(ps ss:67)(i:Nat):(tkI ps ss i).length<=(Zp ps (ss.map post).flatten).length:=by
 unfold tkI;have e:(ss.map post).flatten=((ss.take i).map post).flatten++((ss.drop i).map post).flatten:=by rw[<- ξ,<- fo,List.take_append_drop]
 rw[e,YX];obtain⟨B,h⟩:=Wf ((ss.drop i).map post).flatten (Zp ps ((ss.take i).map post).flatten);rw[h,eK];lia
theorem Za9(t:Tr):t∈post t:=U9 _ (eE _) (xI t)
theorem ZeO{ss:67}{x:Nat}{t:Tr}(h:x<i)(hx:ss[x]?=some t):t∈tkI ps ss i:=by
 unfold tkI;rw[Yi];refine .inr (iD.mpr ⟨post t,iW ?_,Za9 t⟩);exact mY.mpr ⟨x,by rw[mn h];exact hx⟩
def kr(K:W.Frag)(a:Adr):Sp:=fun vs H Q _=>Ex9 fun(r P R D sl:Addr) (ps:67) (st:Tr->82) (ss:67) (H0:Hp)=>ZeD (vs=[.ref r,.ref sl]) (TbY K a.Pm a.C_Table H r P R D ps) ((Zp ps (ss.map post).flatten).length<4000) (Zf H0 H) (H0 P=none) (H0 R=none) (H0 D=none) (ZbW K H0 sl st ss) (ss.length<4000) ((∀t∈ss,isC t=true/\psz t<=2000000)) (∀H' Dc kv,Zf H0 H'->TbY K a.Pm a.C_Table H' r P R D (Zp ps (ss.map post).flatten)->H' Dc=some (.dK kv)->(∀t∈ss,∀m:Nat,(Zp ps (ss.map post).flatten)[m]?=some t->∃l,Yx kv (.inl (m:Int))=some (.ref l)/\H' l=some (.lst ((st t).map V.int)))->Q (.ref Dc) H')
theorem j0{a:Adr}:66 5 a.y23 a.z23 dv kr:=fun T hw=>by
 refine okF T.bG.f Jf 73;obtain⟨r,P,R,D,sl,ps,st,ss,H0,rfl,tb,pl,s0,uC,uI,uT,⟨xs,Db,lx,om⟩,Fp,rB,k⟩:=h;refine⟨_,(@Zg _ _ _ (@Zm _ _ _ _ (ZaP (o0:=.dK []) (.inl rfl) (Nc:=db) (ix:=[none,none,some 0]) (ZX.of (by left:Yc (Zh Vw) ["table","sets"] _ _ _=true)) (YK.units0 hr) rfl (Yn (K:=K) rfl (pv 1)) (fun _ _ _ _ _=>(U6 (K:=K) (n:=2) rfl rfl (Xe (Zz (i:=0) (show δ db by left) rfl (.inl rfl)) (Xe (Zz (i:=1) (show δ db by left) rfl (.inl rfl)) qa)))) (fun _ _ _ _ _=>YV) (fun _ _ _ _ _=>(U2 (pv 2) T.am T.ai.m (W0 T hw) (rmL hr rfl) T.ai.n .nil Xs (@Za _ _ _ _ _ (pv 0) Zb rfl))) (fun _ _ _ _ _=>(pv 1))))),?_⟩;refine⟨_,rfl,sl,rfl,⟨_,mZ (s0 _ _ Db)⟩,fun Dc tu=>?_⟩;have sB:∀{G G':Hp},Zf H0 G->Vt P R D G G'->Zf H0 G':=fun {G G'} s sb b o e=>sb _ _ (fun z=>by rw[z,uC] at e;cases e) (fun z=>by rw[z,uI] at e;cases e) (fun z=>by rw[z,uT] at e;cases e) (s _ _ e);have D1:H0 Dc=none:=s0.free tu;have SQ:=tb.mono (Ze (o:=.dK []) tu)
 let J1:Nat->L2.St->Hp->Prop:=fun i σ G=>Ex3 fun(y1 y2:Option V) (kv:List (Key×V))=>Cj6 (σ=[y1,y2,qr0 r]) (Zf H0 G) (TbY K a.Pm a.C_Table G r P R D (tkI ps ss i)) (G Dc=some (.dK kv)) (kv.length<=i) (∀(x m:Nat) t,x<i->ss[x]?=some t->(tkI ps ss i)[m]?=some t->∃l,Yx kv (.inl (m:Int))=some (.ref l)/\H0 l=some (.lst ((st t).map V.int)))
 refine Jq (J:=Itl K sl) (n:=ss.length) J1 ?_ ?_ ?_ ?_ ?_
 ·exact⟨_,_,[],rfl,s0.trans (Ze tu),SQ,Zc,eE _,fun x m t h=>nu h (Nat.not_lt_zero x)⟩
 ·rintro i σ G hi ⟨y1,y2,kv,rfl,sG,_⟩;exact⟨_,_,mZ (sG _ _ Db),eI 21⟩
 ·rintro σ G ⟨y1,y2,kv,rfl,sG,_⟩;exact⟨_,mZ (sG _ _ Db),by lia⟩
 ·rintro i x σ G0 G hi ⟨y1,y2,kv,rfl,sG,tG,gD,lk,hv⟩ ⟨rfl,hx⟩ N hN;have ex:=hx _ (mZ (sG _ _ Db));have hu:ss[i]?=some ss[i]:=eI hi;have hm:=fv hi;generalize ss[i]=t at hu hm;obtain⟨b,l,e,n,ev,hb,he,hl⟩:=om i x t ex hu;subst ev;obtain⟨hc,hz⟩:=rB t hm;refine⟨b,_,rfl,m5 sG _ _ _ hb,rfl,_,_,rfl,_,_,rfl,rfl,?_⟩;obtain⟨dx,ho⟩:=tG.obj;have ea:=Zc5 (ps:=ps) hu;refine⟨_,rfl,r,dx,_,rfl,ho,lkN 48 48 48,_,rfl,r,P,R,D,tkI ps ss i,e,t,n,rfl,tG,he.mono (m5 sG),eW hz 48,by rw[<- ea];exact gk (ZfH ps ss _) pl,fun G1 m s1 t1 DF=>?_⟩;rw[<- ea] at t1 DF;have Hs:G1 Dc=some (.dK kv):=by
   obtain⟨np,EV,h1,_⟩:=tG.pl;obtain⟨rows,h2,_,_,_,h3⟩:=tG.rl;exact s1 _ _ (fun z=>by rw[z,h1] at gD;cases gD) (fun z=>by rw[z,h2] at gD;cases gD) (fun z=>by rw[z,h3] at gD;cases gD) gD
  have Pt:=sB sG s1;refine⟨_,rfl,_,yC.k (k:=.inl (m:Int)) Hs (by rw[eJ];lia),hN _ _ ⟨_,_,_,rfl,fun b' o' e'=>?_,TbY.updD Hs t1,Zc,eW (Xp _ _ _) 21,fun x' m' t' rf wk Cp=>?_⟩⟩
  ·rw[Zo (fun z=>by rw[z,D1] at e';cases e')];exact Pt _ _ e'
  ·rw[JG]
   by_cases cm:m'=m
   ·subst cm;rw[nt rfl];rw[DF] at Cp;cases Cp;exact⟨l,rfl,hl⟩
   ·rw[nn (fun z=>cm (by have:(m':Int)=(m:Int):=iK z;lia))];have go:x'<i->∃l,Yx kv (.inl (m':Int))=some (.ref l)/\H0 l=some (.lst ((st t').map V.int)):=fun wM=>by
     obtain⟨m2,CP,e2⟩:=fO (ZeO (ps:=ps) wM wk);have e3:(tkI ps ss i)[m2]?=some t':=by rw[eI CP,e2]
     obtain⟨B,eB⟩:=Wf (post t) (tkI ps ss i);have e4:(tkI ps ss (i+1))[m2]?=some t':=by rw[ea,eB,fK CP];exact e3
     obtain rfl:=jp t1.nd Cp e4;exact hv x' _ t' wM wk e3
    apply go;have:x'≠i:=fun z=>by
     rw[z,hu] at wk;cases wk;exact cm (jp t1.nd Cp DF)
    lia
 rintro σ G ⟨y1,y2,kv,rfl,sG,tG,gD,lk,hv⟩;have et:tkI ps ss ss.length=Zp ps (ss.map post).flatten:=by unfold tkI;rw[i9]
 rw[et] at tG hv;refine k G Dc kv sG tG gD fun t ht m hp=>?_;obtain⟨x,hx,e⟩:=fO ht;obtain⟨l,h1,h2⟩:=hv x m t hx (by rw[eI hx,e]) hp;exact⟨l,h1,sG _ _ h2⟩
def Wb(H:Hp)(s:Addr)(n:Nat):Prop:=∃(x y:Int) (z:Nat),H s=some (.lst [.int x,.int y,.int (z:Nat)])/\0<=x/\0<=y/\y<2147483647/\z<=n
theorem Wb.mono{s:Addr}(h:Zf H H')(k:Wb H s n):Wb H' s n:=by
 obtain⟨x,y,z,e,r⟩:=k;exact⟨x,y,z,h _ _ e,r⟩
theorem Wb.lst{H:Hp}{s:Addr}{n:Nat}(k:Wb H s n):∃xs,H s=some (.lst xs):=by
 obtain⟨x,y,z,e,r⟩:=k;exact⟨_,e⟩
theorem Wb.le{s:Addr}{m:Nat}(k:Wb H s n)(h:n<=m):Wb H s m:=by
 obtain⟨x,y,z,e,r1,r2,r3,r4⟩:=k;exact⟨x,y,z,e,r1,r2,r3,eW r4 h⟩
theorem Wb.updN{s:Addr}(h:D≠s)(k:Wb H s n):Wb (upd H D o) s n:=by
 obtain⟨x,y,z,e,r⟩:=k;exact⟨x,y,z,by rw[Zo (eX h)];exact e,r⟩
def vU(K:W.Frag)(a:Adr):Sp:=fun vs H Q _=>Ex1 fun(c:Int)=>Cj2 (vs=[.int c]) (∀H' s,Zf H H'->H s=none->Wb H' s 0->Q (.ref s) H')
theorem VG{a:Adr}:66 1 a.y45 a.z45 ["_law_cell"] vU:=fun T hw=>by
 refine okF T.aT.f vC 73;obtain⟨c,rfl,k⟩:=h;refine⟨_,(@Zg _ _ _ (@Zm _ _ _ _ (@Yd _ _ _ _ (@ZA _ _ _ _ _ (Zn (jQ rfl) rfl T.cJ PyProof.Rows.Boot.«max» (@Za _ _ _ _ _ Zi (@Za _ _ _ _ _ (@ZO _ _ _ _ _ _ _ _ VH (pv 0) (@ZO _ _ _ _ _ _ _ _ Zgm Zi Zi)) Zb rfl) rfl)) (@ZA _ _ _ _ _ (@ZO _ _ _ _ _ _ _ _ UK (pv 0) Zi) (@ZA _ _ _ _ _ Zi Zb rfl) rfl) rfl)))),?_⟩;refine⟨_,rfl,_,_,rfl,rfl,⟨by left,by left,by left⟩,_,_,rfl,rfl,_,_,rfl,_,rfl,_,_,rfl,rfl,by left,sz3,fun l hl=>?_⟩;obtain⟨H1,qN,s1,e1⟩:=Yl (o:=.lst [.int (if c-10 ^ (6:Int).toNat>0 then c-10 ^ (6:Int).toNat else 0),.int (c%2147483647),.int 0]) hl;rw[qN];have y0:=l9 c (show(2147483647:Int)≠0 by left);have y1:=me c (show(0:Int)<2147483647 by left);exact k H1 l s1 hl ⟨_,_,0,e1,by split<;>lia,y0,y1,eE _⟩
abbrev VM:=(YI Q4).getD 14 (.Pass ⟨0,0,0,0⟩)
def zY(c0 cc:Addr)(doc pm ctv:Value):Obj:=W.fnMade "_law_told" "law.<locals>._law_told" (XO VM) (YI VM) (Zh VM) [("_law_rows",c0)] doc pm cc ctv
def Zev(f c0 cc r:Addr)(doc pm ctv:Value)(oc:Obj):Sp:=fun vs H Q _=>Ex3 fun(z:Str) (kvs:List (Key×V)) (v:V)=>Cj7 (vs=[.str z]) (H f=some (FnF f (zY c0 cc doc pm ctv))) (H cc=some (j6 cc "law.<locals>._law_told")) (H c0=some (Y3 c0 oc)) (H r=some (.dK kvs)) (Yx kvs (.inr z)=some v) (Q v H)
def Zgc(f:Addr)(sp:Sp):Prop:=∃c0 cc r doc pm ctv oc,oc.data=.cell (some (.ref r))/\sp=Zev f c0 cc r doc pm ctv oc
theorem vb:(Zh VM).names=([(("_law_word" : Str),NameKind.local),(("_law_rows" : Str),NameKind.free)]:List (Str×NameKind)):=by left
theorem Xc{k:Nat}(hr:YK (k+1) X.A):Zhn X Zgc:=by
 rintro f sp ⟨c0,cc,r,doc,pm,ctv,oc,sL,rfl⟩;refine⟨_,["_law_word"],1,ZgA (k:=0) (name := "_law_told") (qual := "law.<locals>._law_told") (params:=XO VM) (body:=YI VM) (scope:=Zh VM) (doc:=doc) (pm:=pm) (cc:=cc) (ctv:=ctv) (c0:=c0) (x := "_law_word") (y := "_law_rows") rfl rfl rfl rfl rfl 48 (fun z hz=>?_) (fun z hz=>?_) sL (fun vs H Q E h=>?_) (fun A outer s H v Q E hr hs=>?_),hr.mono 21,.all ?_,fun vs H Q E h=>?_⟩
 ·rw[vb] at hz;simp only[fD,List.lookup_nil] at hz
  split at hz
  ·cases hz
  ·split at hz
   ·rename_i e;exact eq_of_beq e
   ·cases hz
 ·rw[vb] at hz;simp only[eU,gz,gA] at hz;rcases hz with rfl|rfl<;>nofun
 ·obtain⟨z,kvs,v,rfl,h1,h2,h3,_⟩:=h;exact⟨rfl,h1,h2,h3⟩
 ·obtain⟨z,kvs,v',e,h1,h2,h3,h4,hv,q⟩:=hs;cases e;refine⟨_,Zg (Zm (Ul (VT hr) (pv 1) (pv 0) (fun _ _=>rfl))),?_⟩;refine⟨_,rfl,_,rfl,r,v',rfl,?_,?_⟩
  ·have n:r≠c0:=fun z=>by rw[z,h3] at h4;cases h4
   have:=zi.k (H:=drop H c0) (a:=r) (k:=.inr z) ((YW n).trans h4);rw[hv] at this;exact this
  ·show Q v' (upd (drop H c0) c0 (Y3 c0 oc))
   rw[Zb8 h3];exact q
 ·exact fun us hl=>match us,hl with|[_],_=>rfl
 ·obtain⟨z,kvs,v,rfl,h1,_⟩:=h;exact⟨_,_,_,_,h1⟩
def Tl(H:Hp)(f:Addr)(z:Str)(m:Nat)(F:Nat->Bool):Prop:=∃c0 cc r doc pm ctv oc kvs l,oc.data=.cell (some (.ref r))/\H f=some (FnF f (zY c0 cc doc pm ctv))/\H cc=some (j6 cc "law.<locals>._law_told")/\H c0=some (Y3 c0 oc)/\H r=some (.dK kvs)/\Yx kvs (.inr z)=some (.ref l)/\H l=some (.lst (((γ m).map F).map V.bl))
theorem Tl.mono{f:Addr}{m:Nat}{F:Nat->Bool}(s:Zf H H')(h:Tl H f z m F):Tl H' f z m F:=
 let ⟨c0,cc,r,doc,pm,ctv,oc,kvs,l,a,b,c,d,e,g,i⟩:=h
 ⟨c0,cc,r,doc,pm,ctv,oc,kvs,l,a,s _ _ b,s _ _ c,s _ _ d,s _ _ e,g,s _ _ i⟩
theorem Tl.ask{f:Addr}{m:Nat}{F:Nat->Bool}{σ:L2.St}{Q:VK}(t:Tl H f z m F)(h:σ[i]?=some (some (.ref f)))(q:∀l,H l=some (.lst (((γ m).map F).map V.bl))->Q (.ref l) H):Qg Zgc i (xC (tC (.str z)) kE) σ H Q:=by
 obtain⟨c0,cc,r,doc,pm,ctv,oc,kvs,l,a,b,c,d,e,g,k⟩:=t;exact⟨f,_,h,⟨c0,cc,r,doc,pm,ctv,oc,a,rfl⟩,⟨_,_,_,_,b⟩,z,kvs,.ref l,rfl,b,c,d,e,g,q l k⟩
theorem Gv.ask{K:W.Frag}{σ:L2.St}{H:Hp}{t:TE}{f:Addr}{z:Str}{m k i:Nat}{x:Int}{F:Nat->Bool}(T:Tl H f z m F)(e:σ[i]?=some (some (.ref f)))(hb:Gv t σ H (.int x))(hx:x=(k:Nat))(hk:k<m):Gv (tOp (Zef K) (Qg Zgc i (xC (tC (.str z)) kE)) t) σ H (.bl (F k)):=fun H1 s Q q=>Tl.ask (T.mono s) e fun l hl=>hb H1 s _ fun H2 s2=>by
 subst hx;exact⟨_,_,_,_,rfl,rfl,mZ (s2 _ _ hl),ZdH hk,q H2 s2⟩
theorem Q2(h:n<=100000):(-2 ^ 62:Int)<=(n:Nat)/\((n:Nat):Int)<2 ^ 62:=by
 have h1:(-2 ^ 62:Int)<=0:=by left
 have h2:(100000:Int)<2 ^ 62:=by left
 lia
structure Zb2(H:Hp)(f:Addr)(m:Nat)(F G:Nat->Bool):Prop where
 no:Tl H f "not" m fun k=>!F k
 nx:Tl H f "next" m fun k=>F (k+1)
 be:Tl H f "before" m (JO F)
 un:Tl H f "until" m (Y5 F G)
 si:Tl H f "since" m (Y7 F G)
 an:Tl H f "and" m fun k=>F k&&G k
 or:Tl H f "or" m fun k=>F k||G k
 on:Tl H f "once" m (Y7 tt1 F)
 so:Tl H f "sofar" m fun k=>!Y7 tt1 (fun j=>!F j) k
theorem Zb2.mono{H H':Hp}{f:Addr}{m:Nat}{F G:Nat->Bool}(s:Zf H H')(h:Zb2 H f m F G):Zb2 H' f m F G:=
 ⟨h.no.mono s,h.nx.mono s,h.be.mono s,h.un.mono s,h.si.mono s,h.an.mono s,h.or.mono s,h.on.mono s,h.so.mono s⟩
theorem Zey{m:Nat}{F:Nat->Bool}(h:j+1<=m):Y7 tt1 F j=(((γ m).map F).take (j+1)).any (·==true):=by
 rw[gy,K7,Ke h];exact exists_congr fun i=>and_congr_left fun _=>Nat.lt_succ_iff.symm
theorem ZbV{m:Nat}{F:Nat->Bool}(h:j+1<=m):Y7 tt1 (fun i=>!F i) j=(((γ m).map F).take (j+1)).any (·==false):=by
 rw[gy,K7,Ke h];refine exists_congr fun i=>and_congr Nat.lt_succ_iff.symm ?_;cases F i<;>simp
def VF(K:W.Frag)(a:Adr):Sp:=fun vs H Q _=>Ex7 fun(f o1 o2:Addr) (n m:Nat) (F G:Nat->Bool)=>Cj7 (vs=[.ref f,.ref o1,.ref o2,.int (n:Nat)]) (n<m) (m<=1000) (Zb2 H f m F G) (H o1=some (.lst (((γ m).map F).map V.bl))) (H o2=some (.lst (((γ m).map G).map V.bl))) (∀H',Zf H H'->Q (.bl true) H')
theorem VL{a:Adr}:66 4 a.y50 a.z50 dy VF:=fun T hw=>by
 refine okF T.ae.f XI 73;obtain⟨f,o1,o2,n,m,F,G,rfl,nm,hm,nr,h1,h2,k⟩:=h;refine⟨_,(@Zd _ _ _ _ _ (Xv fP rfl (Xf rfl T.aQ (@Za _ _ _ _ _ (pv 3) Zb rfl)) (Zz (i:=4) XI.nd rfl (.inl rfl)) (@Zd _ _ _ _ _ (@ZQ _ _ _ _ _ _ _ _ (PW.pt (UD (@Zt _ _ _ _ _ _ _ _ YA (@Zq _ _ _ _ _ _ _ 54 75 (pv 4) (fun _ _=>rfl)) (@Zq _ _ _ _ _ _ _ 54 (pv 1) (pv 4) (fun _ _=>rfl)) (ZB _)) (Vk (@Zt _ _ _ _ _ _ _ _ VZ (@Zq _ _ _ _ _ _ _ 54 75 (pv 4) (fun _ _=>rfl)) (@Zq _ _ _ _ _ _ _ 54 (pv 1) (@ZO _ _ _ _ _ _ _ _ YY (pv 4) Zi) (fun _ _=>rfl)) (ZB _))))) (@Zg _ _ _ (@Zm _ _ _ _ YL)) Zx) (@Zd _ _ _ _ _ (@ZQ _ _ _ _ _ _ _ _ (@Zt _ _ _ _ _ _ _ _ VZ (@Zq _ _ _ _ _ _ _ 54 75 (pv 4) (fun _ _=>rfl)) (Y9 (@Yy _ _ _ _ _ _ _ _ Zar (pv 4) Zi (ZB _)) (YN (@Zq _ _ _ _ _ _ _ 54 (pv 1) (@ZO _ _ _ _ _ _ _ _ VH (pv 4) Zi) (fun _ _=>rfl)))) (ZB _)) (@Zg _ _ _ (@Zm _ _ _ _ YL)) Zx) (@Zd _ _ _ _ _ (@ZQ _ _ _ _ _ _ _ _ (@Zt _ _ _ _ _ _ _ _ VZ (@Zq _ _ _ _ _ _ _ 54 75 (pv 4) (fun _ _=>rfl)) (jA (@Zq _ _ _ _ _ _ _ 54 (pv 2) (pv 4) (fun _ _=>rfl)) (YN (Y9 (@Zq _ _ _ _ _ _ _ 54 (pv 1) (pv 4) (fun _ _=>rfl)) (YN (@Zq _ _ _ _ _ _ _ 54 75 (@ZO _ _ _ _ _ _ _ _ YY (pv 4) Zi) (fun _ _=>rfl)))))) (ZB _)) (@Zg _ _ _ (@Zm _ _ _ _ YL)) Zx) (@Zd _ _ _ _ _ (@ZQ _ _ _ _ _ _ _ _ (@Zt _ _ _ _ _ _ _ _ VZ (@Zq _ _ _ _ _ _ _ 54 75 (pv 4) (fun _ _=>rfl)) (jA (@Zq _ _ _ _ _ _ _ 54 (pv 2) (pv 4) (fun _ _=>rfl)) (YN (Y9 (@Zq _ _ _ _ _ _ _ 54 (pv 1) (pv 4) (fun _ _=>rfl)) (Y9 (@Yy _ _ _ _ _ _ _ _ Zar (pv 4) Zi (ZB _)) (YN (@Zq _ _ _ _ _ _ _ 54 75 (@ZO _ _ _ _ _ _ _ _ VH (pv 4) Zi) (fun _ _=>rfl))))))) (ZB _)) (@Zg _ _ _ (@Zm _ _ _ _ YL)) Zx) (@Zd _ _ _ _ _ (@ZQ _ _ _ _ _ _ _ _ (PW.pt (UD (@Zt _ _ _ _ _ _ _ _ VZ (@Zq _ _ _ _ _ _ _ 54 75 (pv 4) (fun _ _=>rfl)) (Y9 (@Zq _ _ _ _ _ _ _ 54 (pv 1) (pv 4) (fun _ _=>rfl)) (YN (@Zq _ _ _ _ _ _ _ 54 (pv 2) (pv 4) (fun _ _=>rfl)))) (ZB _)) (Vk (@Zt _ _ _ _ _ _ _ _ VZ (@Zq _ _ _ _ _ _ _ 54 75 (pv 4) (fun _ _=>rfl)) (jA (@Zq _ _ _ _ _ _ _ 54 (pv 1) (pv 4) (fun _ _=>rfl)) (YN (@Zq _ _ _ _ _ _ _ 54 (pv 2) (pv 4) (fun _ _=>rfl)))) (ZB _))))) (@Zg _ _ _ (@Zm _ _ _ _ YL)) Zx) (@Zg _ _ _ (@ZQ _ _ _ _ _ _ _ _ (PW.pt (UD (@Zt _ _ _ _ _ _ _ _ VZ (@Zq _ _ _ _ _ _ _ 54 75 (pv 4) (fun _ _=>rfl)) (@Yy _ _ _ _ _ _ _ _ (WZ (K:=K) rfl) YL (ZW (YB (K:=K) rfl) (pv 1) YH (ZS (@ZO _ _ _ _ _ _ _ _ YY (pv 4) Zi))) (by with_unfolding_all rfl)) (ZB _)) (Vk (@Zt _ _ _ _ _ _ _ _ VZ (@Zq _ _ _ _ _ _ _ 54 75 (pv 4) (fun _ _=>rfl)) (@Yy _ _ _ _ _ _ _ _ (U0 (K:=K) rfl) YL (ZW (YB (K:=K) rfl) (pv 1) YH (ZS (@ZO _ _ _ _ _ _ _ _ YY (pv 4) Zi))) (by with_unfolding_all rfl)) (ZB _))))) (@Zg _ _ _ (@Zm _ _ _ _ YL)) Zx)))))))) (@Zg _ _ _ (@Zm _ _ _ _ YL))),?_⟩;refine⟨_,rfl,_,rfl,(Q2 21).1,(Q2 21).2,?_⟩;refine XQ (J:=Itr 0 n) (n:=n) (fun i σ G=>Ex1 fun(z4:Option V)=>Cj2 (σ=[qr0 f,qr0 o1,qr0 o2,some (.int (n:Nat)),z4]) (Zf H G)) ?_ (fun _ _ _ h _=>h) (fun _ _ _=>eE _) ?_ ?_
 ·exact⟨_,rfl,.refl _⟩
 ·rintro j x σ G0 G hj ⟨z4,rfl,sG⟩ ⟨rfl,rfl⟩;have nr:=nr.mono sG;have h1:G o1=some (.lst (blR m F)):=sG _ _ h1;have h2:G o2=some (.lst (blR m _)):=sG _ _ h2;have kx:(0+(j:Nat):Int)=((j:Nat):Int):=by lia
  have C4:(0+(j:Nat)+1:Int)=((j+1:Nat):Int):=by lia
  have hk:j<m:=by lia
  have wU:j+1<m:=by lia
  dsimp only[WA]
  show xZ _ _ _ [qr0 f,qr0 o1,qr0 o2,some (.int (n:Nat)),some (.int (0+(j:Nat)))] G
  refine Gt.seqN (Gt.or (Gt.eq (Gv.ask nr.no rfl (m7 rfl) kx hk) (Gv.ix (m7 rfl) h1 (m7 rfl) kx hk) (by cases F j<;>decide)) (Gt.ne (Gv.ask nr.nx rfl (m7 rfl) kx hk) (Gv.ix (m7 rfl) h1 (Gv.add (m7 rfl) Gv.con) C4 wU) rfl)) (.refl _) fun F1 s1=>?_;refine Gt.seqN (Gt.ne (Gv.ask nr.be rfl (m7 rfl) kx hk) (Gv.andV (Gv.add (m7 rfl) Gv.con) fun z=>Gv.ix (m7 rfl) h1 (Gv.add (m7 rfl) Gv.con) (k:=j-1) (by have:=fA z;lia) 21) ?_) s1 fun F2 s2=>?_
  ·cases j with
   |zero=>rfl
   |succ i=>rw[fQ 21,ip];rfl
  refine Gt.seqN (Gt.ne (Gv.ask nr.un rfl (m7 rfl) kx hk) (Gv.orV (Gv.ix (m7 rfl) h2 (m7 rfl) kx hk) fun _=>Gv.andV (Gv.ix (m7 rfl) h1 (m7 rfl) kx hk) fun _=>Gv.ask nr.un rfl (Gv.add (m7 rfl) Gv.con) C4 wU) (xr _ _ _)) s2 fun F3 s3=>?_;refine Gt.seqN (Gt.ne (Gv.ask nr.si rfl (m7 rfl) kx hk) (Gv.orV (Gv.ix (m7 rfl) h2 (m7 rfl) kx hk) fun _=>Gv.andV (Gv.ix (m7 rfl) h1 (m7 rfl) kx hk) fun _=>Gv.andV (Gv.add (m7 rfl) Gv.con) fun z=>Gv.ask nr.si rfl (Gv.add (m7 rfl) Gv.con) (k:=j-1) (by have:=fA z;lia) 21) ?_) s3 fun F4 s4=>?_
  ·cases j with
   |zero=>show _=(_||(_&&(_&&_)));rw[fE 21];simp[Y7]
   |succ i=>rw[fQ 21,ip];rfl
  refine Gt.seqN (Gt.or (Gt.ne (Gv.ask nr.an rfl (m7 rfl) kx hk) (Gv.andV (Gv.ix (m7 rfl) h1 (m7 rfl) kx hk) fun _=>Gv.ix (m7 rfl) h2 (m7 rfl) kx hk) rfl) (Gt.ne (Gv.ask nr.or rfl (m7 rfl) kx hk) (Gv.orV (Gv.ix (m7 rfl) h1 (m7 rfl) kx hk) fun _=>Gv.ix (m7 rfl) h2 (m7 rfl) kx hk) rfl)) s4 fun F5 s5=>?_;have hz:X9 (blR m F) none (some (0+(j:Nat)+1:Int))=(((γ m).map F).take (j+1)).map V.bl:=by rw[C4];exact ZeC 21
  refine Gt.one (Gt.or (Gt.ne (Gv.ask nr.on rfl (m7 rfl) kx hk) (Gv.cut (m7 rfl) h1 Go.no (Go.part (Gv.add (m7 rfl) Gv.con)) hz) ?_) (Gt.ne (Gv.ask nr.so rfl (m7 rfl) kx hk) (Gv.cut (m7 rfl) h1 Go.no (Go.part (Gv.add (m7 rfl) Gv.con)) hz) ?_)) s5 fun F6 s6=>?_
  ·exact Zey 21
  ·exact fb not (ZbV 21)
  exact⟨_,rfl,sG.trans s6⟩
 rintro σ G ⟨z4,rfl,sG⟩;exact k _ sG
structure Far(H:Hp)(f:Addr)(m c:Nat)(F G:Nat->Bool):Prop where
 ev:Tl H f "ever" m (Y5 tt1 F)
 al:Tl H f "always" m fun k=>!Y5 tt1 (fun j=>!F j) k
 un:Tl H f "until" m (Y5 F G)
 wi:Tl H f "within" m (Jd c F G)
theorem Far.mono{H H':Hp}{f:Addr}{m c:Nat}{F G:Nat->Bool}(s:Zf H H')(h:Far H f m c F G):Far H' f m c F G:=
 ⟨h.ev.mono s,h.al.mono s,h.un.mono s,h.wi.mono s⟩
def Zgu(n m:Nat)(F:Nat->Bool):Prop:=∀(b:Bool) (k i:Nat),k<n->k<=i->F i=b->∃i',k<=i'/\i'<m/\F i'=b
theorem ZeK{m:Nat}{F:Nat->Bool}(h:∀i,j<=i->F i=true->∃i',j<=i'/\i'<m/\F i'=true):Y5 tt1 F j=((((γ m).map F).drop j).take (m-j)).any (·==true):=by
 rw[gy,Zdc,yN (eE m)];exact⟨fun⟨i,h1,h2⟩=>h i h1 h2,fun⟨i,h1,_,h2⟩=>⟨i,h1,h2⟩⟩
theorem ZbA{m:Nat}{F:Nat->Bool}(h:∀i,j<=i->F i=false->∃i',j<=i'/\i'<m/\F i'=false):Y5 tt1 (fun i=>!F i) j=((((γ m).map F).drop j).take (m-j)).any (·==false):=by
 rw[gy,Zdc,yN (eE m)];exact⟨fun⟨i,h1,h2⟩=>h i h1 (by simpa using h2),fun⟨i,h1,_,h2⟩=>⟨i,h1,by simpa using h2⟩⟩
def yn(m j:Nat)(F G:Nat->Bool)(i:Nat):Bool:=G (j+i)&&!((((γ m).map F).drop j).take (j+i-j)).any (·==false)
theorem Zc0{m c:Nat}{F G:Nat->Bool}(h:j+c<m):Jd c F G j=true↔(((γ (c+1)).filter (yn m j F G)).map fun i=>((j+i:Nat):Int))≠[]:=by
 rw[Q6];have sV:∀i,i<c+1->(yn m j F G i=true↔G (j+i)=true/\∀q,j<=q->q<j+i->F q=true):=fun i hi=>by
  unfold yn;rw[fH,mw,<- Bool.not_eq_true,yN (n:=j+i) 21];refine and_congr_right fun _=>⟨fun z q h1 h2=>?_,fun z ⟨q,h1,h2,h3⟩=>by rw[z q h1 h2] at h3;cases h3⟩;cases e:F q with
  |true=>rfl
  |false=>exact nu ⟨q,h1,h2,e⟩ z
 constructor
 ·rintro⟨i,h1,h2,h3,h4⟩ z;have hm:i-j∈(γ (c+1)).filter (yn m j F G):=i5.mpr ⟨gM.mpr 21,(sV _ 21).mpr ⟨by rw[show j+(i-j)=i by lia];exact h3,fun q a b=>h4 q a 21⟩⟩;rw[List.map_eq_nil_iff] at z;rw[z] at hm;cases hm
 ·intro z;obtain⟨i,r,e⟩:=ψ (fun y=>z (by rw[y];rfl):(γ (c+1)).filter (yn m j F G)≠[]);have hm:i∈(γ (c+1)).filter (yn m j F G):=by rw[e];exact gU ..
  obtain⟨h1,h2⟩:=i5.mp hm;have h1:=gM.mp h1;obtain⟨h3,h4⟩:=(sV i h1).mp h2;exact⟨j+i,by lia,by lia,h3,h4⟩
def zA(K:W.Frag)(a:Adr):Sp:=fun vs H Q _=>Ex8 fun(f o1 o2:Addr) (n m c:Nat) (F G:Nat->Bool)=>Cj9 (vs=[.ref f,.ref o1,.ref o2,.int (n:Nat),.int (m:Nat),.int (c:Nat)]) (n+c<=m) (m<=1000) (Zgu n m F) (Zgu n m G) (Far H f m c F G) (H o1=some (.lst (((γ m).map F).map V.bl))) (H o2=some (.lst (((γ m).map G).map V.bl))) (∀H',Zf H H'->Q (.bl true) H')
theorem zb{a:Adr}:66 4 a.y51 a.z51 dz zA:=fun T hw=>by
 refine okF T.ay.f Xl 73;obtain⟨f,o1,o2,n,m,c,F,G,rfl,nm,hm,sF,sG,nr,h1,h2,k⟩:=h;refine⟨_,(@Zd _ _ _ _ _ (Xv fP rfl (Xf rfl T.aQ (@Za _ _ _ _ _ (pv 3) Zb rfl)) (Zz (i:=6) Xl.nd rfl (.inr rfl)) (@Zd _ _ _ _ _ (@Zu _ _ (7) _ _ _ _ Xl.nd rfl (.inl rfl) (ZW (YB (K:=K) rfl) (pv 1) (ZS (pv 6)) (ZS (pv 4))) rfl (.inl rfl)) (@Zd _ _ _ _ _ (@ZQ _ _ _ _ _ _ _ _ (PW.pt (UD (@Zt _ _ _ _ _ _ _ _ VZ (@Zq _ _ _ _ _ _ _ 54 75 (pv 6) (fun _ _=>rfl)) (@Yy _ _ _ _ _ _ _ _ (WZ (K:=K) rfl) YL (pv 7) (by with_unfolding_all rfl)) (ZB _)) (Vk (@Zt _ _ _ _ _ _ _ _ VZ (@Zq _ _ _ _ _ _ _ 54 75 (pv 6) (fun _ _=>rfl)) (@Yy _ _ _ _ _ _ _ _ (U0 (K:=K) rfl) YL (pv 7) (by with_unfolding_all rfl)) (ZB _))))) (@Zg _ _ _ (@Zm _ _ _ _ YL)) Zx) (@Zd _ _ _ _ _ (@ZQ _ _ _ _ _ _ _ _ (PW.pt (kf (XR (@Zq _ _ _ _ _ _ _ 54 75 (pv 6) (fun _ _=>rfl))) (yK (@Zt _ _ _ _ _ _ _ _ (U0 (K:=K) rfl) YL (ZW (YB (K:=K) rfl) (pv 2) (ZS (pv 6)) (ZS (pv 4))) (by with_unfolding_all rfl))))) (@Zg _ _ _ (@Zm _ _ _ _ YL)) Zx) (@Zd _ _ _ _ _ (XV (i:=8) Xl.nd rfl rfl (Nc:=dN) (ix:=[none,some 2,some 1,some 6]) (ZX.of (by left:Yc (Zh XE) V0 _ _ _=true)) rfl (jP rfl T.aQ (@Za _ _ _ _ _ (pv 6) (@Za _ _ _ _ _ (@ZO _ _ _ _ _ _ _ _ YY (@ZO _ _ _ _ _ _ _ _ YY (pv 6) (pv 5)) Zi) Zb rfl) rfl)) (fun _ _ _ _ _=>(Zz (i:=0) (show δ dN by left) rfl (.inl rfl))) (fun _ _ _ _ _=>(zx (PW.pt (kf (XR (@Zq _ _ _ _ _ _ _ 54 (pv 1) (pv 0) (fun _ _=>rfl))) (yK (@Zt _ _ _ _ _ _ _ _ (U0 (K:=K) rfl) YL (ZW (YB (K:=K) rfl) (pv 2) (ZS (pv 3)) (ZS (pv 0))) (by with_unfolding_all rfl))))))) (fun _ _ _ _ _=>(pv 0))) (@Zg _ _ _ (@ZQ _ _ _ _ _ _ _ _ (@Zt _ _ _ _ _ _ _ _ VZ (@Zq _ _ _ _ _ _ _ 54 75 (pv 6) (fun _ _=>rfl)) (@Yy _ _ _ _ _ _ _ _ (Ze4 (K:=K) rfl (YK.units hr)) (pv 8) (@Yd _ _ _ _ Zb) (ZB _)) (ZB _)) (@Zg _ _ _ (@Zm _ _ _ _ YL)) Zx))))))) (@Zg _ _ _ (@Zm _ _ _ _ YL))),?_⟩;refine⟨_,rfl,_,rfl,(Q2 21).1,(Q2 21).2,?_⟩;refine XQ (J:=Itr 0 n) (n:=n) (fun i σ W=>Ex3 fun(z6 z7 z8:Option V)=>Cj2 (σ=[qr0 f,qr0 o1,qr0 o2,some (.int (n:Nat)),some (.int (m:Nat)),some (.int (c:Nat)),z6,z7,z8]) (Zf H W)) ?_ (fun _ _ _ h _=>h) (fun _ _ _=>eE _) ?_ ?_
 ·exact⟨_,_,_,rfl,.refl _⟩
 ·rintro j x σ G0 W hj ⟨z6,z7,z8,rfl,sW⟩ ⟨rfl,rfl⟩;have nr:=nr.mono sW;have h1:W o1=some (.lst (blR m F)):=sW _ _ h1;have h2:W o2=some (.lst (blR m _)):=sW _ _ h2;have kx:(0+(j:Nat):Int)=((j:Nat):Int):=by lia
  have C4:(0+(j:Nat)+1:Int)=((j+1:Nat):Int):=by lia
  have hk:j<m:=by lia
  have jc:j+c<m:=by lia
  refine⟨_,rfl,_,rfl,_,rfl,_,rfl,_,rfl,o1,_,rfl,mZ h1,fun R hR=>?_⟩;rw[kx,xb (fV hk) (eE m)];obtain⟨W1,qN,u1,eR⟩:=Yl (o:=.lst ((((γ m).map F).drop j).take (m-j) |>.map V.bl)) hR;rw[qN];have nr:=nr.mono u1;have h1:=u1 _ _ h1;have h2:=u1 _ _ h2;dsimp only[WA]
  show xZ _ _ _ [qr0 f,qr0 o1,qr0 o2,some (.int (n:Nat)),some (.int (m:Nat)),some (.int (c:Nat)),some (.int (j:Nat)),qr0 R,z8] W1
  have sf:=sF true j;have Ly:=sF false j;have sg:=sG true j;refine Gt.seqN (Gt.or (Gt.ne (Gv.ask nr.ev rfl (m7 rfl) rfl hk) (Gv.inL (m7 rfl) eR) (ZeK fun i h e=>sf i hj h e)) (Gt.ne (Gv.ask nr.al rfl (m7 rfl) rfl hk) (Gv.inL (m7 rfl) eR) (fb not (ZbA fun i h e=>Ly i hj h e)))) (.refl _) fun F1 s1=>?_;refine Gt.seqN (Gt.and (Gt.vB (Gv.ask nr.un rfl (m7 rfl) rfl hk)) fun z=>Gt.cast (Gt.val (Gv.cut (m7 rfl) h2 (Go.part (m7 rfl)) (Go.part (m7 rfl)) (xb (fV hk) (eE m)))) ?_) s1 fun F2 s2=>?_
  ·obtain⟨i,h3,h4⟩:=ZcJ z;have:=(yN (k:=j) (b:=true) (F:=G) (eE m)).mpr (sg i hj h3 h4)
   show(!_)=false
   rw[this];rfl
  have h1:=s2 _ _ h1;have h2:=s2 _ _ h2;have nr:=nr.mono s2;clear sf Ly sg;have en:((j:Nat):Int)+(c:Nat)+1-(j:Nat)=((c+1:Nat):Int):=by lia
  refine⟨_,rfl,_,rfl,_,rfl,_,_,rfl,rfl,_,_,rfl,rfl,_,_,rfl,⟨by lia,by lia,by lia,by lia⟩,fun D hD=>?_⟩;rw[en,fN];refine qS (γ (c+1)) (fun i=>.int ((j+i:Nat):Int)) (yn m j F G) (fun i=>.int ((j+i:Nat):Int)) hD (by rw[fI,eJ];lia) (fun i _ hi _=>by rw[fI] at hi;exact hi) (fun _ _=>by rw[fI];exact eE _) (fun i x H3 H4 hi _ hy=>?_) (fun i hi F3 N N0 s3 y1 y0=>?_) (fun F5 e5 s5=>?_)
  ·obtain⟨rfl,rfl⟩:=hy;exact⟨rfl,by rw[List.getElem_range];rfl⟩
  ·have hi:=gM.mp hi;have kj:j+i<m:=by lia
   refine Gt.andB (Gt.vB (Gv.ix (k:=j+i) (m7 (n:=1) rfl) h2 (m7 (n:=0) rfl) rfl kj)) (fun _=>Gt.val (Gv.cut (m7 (n:=2) rfl) h1 (Go.part (m7 (n:=3) rfl)) (Go.part (m7 (n:=0) rfl)) (xb (iG j i) (fV kj)))) F3 s3 _ fun F4 s4=>?_;exact Vo (fun e=>⟨_,rfl,y1 F4 s4 e⟩) (fun e=>y0 F4 s4 (Bool.eq_false_iff.mpr e))
  have e6:F5 D=some (.lst ((((γ (c+1)).filter (yn m j F G)).map fun i=>((j+i:Nat):Int)).map V.int)):=by rw[fL];exact e5
  dsimp only[WA]
  show k4 _ _ _ _ [qr0 f,qr0 o1,qr0 o2,some (.int (n:Nat)),some (.int (m:Nat)),some (.int (c:Nat)),some (.int (j:Nat)),qr0 R,qr0 D] F5
  refine Gt.one (Gt.ne (Gv.ask (nr.wi.mono s5) rfl (m7 rfl) rfl hk) (Gv.neNil (m7 rfl) e6 (Zc0 jc)) rfl) (.refl _) fun F6 s6=>?_;exact⟨_,_,_,rfl,sW.trans (u1.trans (s2.trans (s5.trans s6)))⟩
 rintro σ W ⟨z6,z7,z8,rfl,sW⟩;exact k _ sW
def qo(K:W.Frag)(a:Adr):Sp:=fun vs H Q _=>Ex3 fun(s:Addr) (b n:Nat)=>Cj6 (vs=[.ref s,.int (b:Nat)]) (Wb H s n) (n<100000) (0<b) (b<=1000) (∀H' (r:Nat),Zr s H H'->Wb H' s (n+1)->r<b->Q (.int (r:Nat)) H')
theorem ZJ{a:Adr}:66 1 a.y46 a.z46 dA qo:=fun T hw=>by
 refine okX T.aa.f Wp 69;intro X
 let d1:Rdg X YT [0,0,0]:=⟨_,(@Zd _ _ _ _ _ (@Zu _ _ (2) _ _ _ _ Wp.nd rfl (.inl rfl) (@ZO _ _ _ _ _ _ _ _ UK (@Zq _ _ _ _ _ _ _ 54 (pv 0) Zi (fun _ _=>rfl)) (pv 1)) rfl (.inl rfl)) (@Zd _ _ _ _ _ (Zao (@ZO _ _ _ _ _ _ _ _ yM (@Zq _ _ _ _ _ _ _ 54 (pv 0) Zi (fun _ _=>rfl)) (pv 1)) (pv 0) Zi) (@Zg _ _ _ (@Zm _ _ _ _ (pv 2)))))⟩
 let d2:Rdg X YT [4]:=⟨_,(@Zg _ _ _ (@Zm _ _ _ _ (@ZO _ _ _ _ _ _ _ _ UK (@ZO _ _ _ _ _ _ _ _ UK (@ZO _ _ _ _ _ _ _ _ zZ (pv 3) (@ZO _ _ _ _ _ _ _ _ YY (@ZO _ _ _ _ _ _ _ _ yM (pv 3) Zi) Zi)) Zi) (pv 1))))⟩
 let d3:Rdg X YT [3]:=⟨_,(@Zd _ _ _ _ _ (@Zu _ _ (3) _ _ _ _ Wp.nd rfl (.inl rfl) (@ZO _ _ _ _ _ _ _ _ UK (@ZO _ _ _ _ _ _ _ _ zZ (pv 3) (@ZO _ _ _ _ _ _ _ _ YY (@ZO _ _ _ _ _ _ _ _ yM (pv 3) Zi) Zi)) Zi) rfl (.inl rfl)) d2.2)⟩
 let d4:Rdg X YT [2]:=⟨_,(@Zd _ _ _ _ _ (@Zu _ _ (3) _ _ _ _ Wp.nd rfl (.inl rfl) (@ZO _ _ _ _ _ _ _ _ UK (@ZO _ _ _ _ _ _ _ _ zZ (@ZO _ _ _ _ _ _ _ _ YY (@ZO _ _ _ _ _ _ _ _ YY (@Zq _ _ _ _ _ _ _ 54 (pv 0) Zi (fun _ _=>rfl)) (@ZO _ _ _ _ _ _ _ _ zZ Zi (@Zq _ _ _ _ _ _ _ 54 (pv 0) Zi (fun _ _=>rfl)))) Zi) Zi) Zi) rfl (.inl rfl)) d3.2)⟩
 let d5:Rdg X YT [1]:=⟨_,(@Zd _ _ _ _ _ (Zao (@ZO _ _ _ _ _ _ _ _ YY (@Zq _ _ _ _ _ _ _ 54 (pv 0) Zi (fun _ _=>rfl)) Zi) (pv 0) Zi) d4.2)⟩
 intro vs Q h;obtain⟨s,b,n,rfl,⟨x,y,z,hs,x0,y0,y1,zn⟩,nb,b0,b1,k⟩:=h;refine⟨_,(@Zd _ _ _ _ _ (@ZQ _ _ _ _ _ _ _ _ (@Zt _ _ _ _ _ _ _ _ Zar (@Zq _ _ _ _ _ _ _ 54 (pv 0) Zi (fun _ _=>rfl)) Zi (ZB _)) d1.2 Zx) d5.2),?_⟩;have bI:(0:Int)<(b:Nat):=by lia
 refine⟨_,rfl,s,_,_,_,rfl,rfl,mZ hs,72,_,_,rfl,rfl,_,rfl,Vo (fun c=>?_) (fun c=>?_)⟩
 ·have x1:0<x:=fA c;refine⟨_,rfl,s,_,_,_,rfl,rfl,mZ hs,72,_,rfl,_,_,rfl,rfl,bI,?_⟩;refine⟨_,rfl,s,_,_,_,rfl,rfl,mZ hs,72,_,rfl,_,_,rfl,rfl,⟨bI,by lia⟩,_,rfl,s,_,0,rfl,rfl,hs,by simp,_,rfl,?_⟩;have m0:=l9 x (show((b:Nat):Int)≠0 by lia);have m1:=me x bI;have e:x%(b:Nat)=((x%(b:Nat)).toNat:Int):=by lia
  rw[e];exact k _ _ (Zr.upd (Zf.x (.refl _))) ⟨x/(b:Nat),y,z,Zc,Int.ediv_nonneg x0 21,y0,y1,by lia⟩ 21
 ·refine⟨_,rfl,s,_,_,_,rfl,rfl,mZ hs,Zj (j:=2) rfl,_,_,rfl,rfl,_,rfl,s,_,2,rfl,rfl,hs,by simp,?_⟩;have e2:((z:Nat):Int)+1=((z+1:Nat):Int):=by lia
  rw[e2];obtain⟨H1,qN⟩:∃H1,upd H s (.lst ([V.int x,.int y,.int (z:Nat)].set 2 (.int ((z+1:Nat):Int))))=H1:=⟨_,rfl⟩;have sx:Zr s H H1:=by rw[<- qN];exact Zr.upd (Zf.x (.refl _))
  have h1:H1 s=some (.lst [.int x,.int y,.int ((z+1:Nat):Int)]):=by rw[<- qN];exact Zc
  rw[qN];refine⟨_,rfl,s,_,_,_,rfl,rfl,mZ h1,Zj (j:=1) rfl,_,rfl,s,_,_,_,rfl,rfl,mZ h1,Zj (j:=2) rfl,_,_,rfl,rfl,.inl ⟨by left,by left⟩,_,_,rfl,rfl,_,_,rfl,rfl,_,_,rfl,rfl,.inr ⟨by left,by left⟩,_,_,rfl,rfl,by left,?_⟩;have a0:=l9 ((y+7919*((z+1:Nat):Int)+1)*48271) (show(2147483647:Int)≠0 by left);have a1:=me ((y+7919*((z+1:Nat):Int)+1)*48271) (show(0:Int)<2147483647 by left);generalize (y+7919*((z+1:Nat):Int)+1)*48271%2147483647=u at a0 a1 ⊢;refine⟨_,rfl,_,rfl,_,_,rfl,rfl,⟨by left,by left⟩,_,_,rfl,rfl,_,_,rfl,rfl,.inl ⟨by lia,by lia⟩,_,_,rfl,rfl,by left,?_⟩;have MW:=l9 (u*(u/1009+69621)) (show(2147483647:Int)≠0 by left);have O9:=me (u*(u/1009+69621)) (show(0:Int)<2147483647 by left);generalize u*(u/1009+69621)%2147483647=v at MW O9 ⊢;refine⟨_,rfl,_,rfl,_,_,rfl,rfl,⟨by left,by left⟩,_,_,rfl,rfl,_,_,rfl,rfl,.inl ⟨by lia,by lia⟩,_,_,rfl,rfl,by left,_,rfl,_,_,rfl,rfl,bI,?_⟩;generalize v*(v/2003+40692)%2147483399=u2;have m0:=l9 u2 (show((b:Nat):Int)≠0 by lia);have m1:=me u2 bI;have e:u2%(b:Nat)=((u2%(b:Nat)).toNat:Int):=by lia
  rw[e];exact k _ _ sx ⟨x,y,z+1,h1,x0,y0,y1,by lia⟩ 21
def kK(K:W.Frag)(a:Adr):Sp:=fun vs H Q _=>Ex1 fun x=>Cj3 (vs=[x]) (KdL H x) (∀H',Zf H H'->Q (.bl (Yb H x)) H')
theorem zE{a:Adr}:66 2 a.y3 a.z3 cT kK:=fun T hw=>by
 refine okX T.bc.f ko 69;intro X
 let d1:Rdg X Wr [1]:=⟨_,(@Zg _ _ _ (@Zm _ _ _ _ (@Yy _ _ _ _ _ _ _ _ YA (Zn (Zw (K:=K) rfl) rfl T.az ng (@Za _ _ _ _ _ (Z2 (jK (K:=K) rfl rfl) rfl T.cD nj (@Za _ _ _ _ _ (pv 0) Zb rfl)) Zb rfl)) 68 (ZB _))))⟩
 intro vs Q h;obtain⟨x,rfl,hk,k⟩:=h;refine⟨_,(@Zd _ _ _ _ _ (@ZQ _ _ _ _ _ _ _ _ (PW.pt (UD (@Xj _ _ _ _ (XR (Zn (XU (K:=K) rfl "list") rfl T.ag nh (@Za _ _ _ _ _ (pv 0) (@Za _ _ _ _ _ (Wm (v:=.ty "list") rfl T.bM m8 rfl) Zb rfl) rfl)))) (Vk (@Xj _ _ _ _ (XR (Zn (V3 (K:=K) rfl rfl) rfl T.cA ni (@Za _ _ _ _ _ (YC (Nc:=["name"]) (ix:=[none]) (ZX.of (by left:Yc (Zh Wr) ["thing"] _ _ _=true)) rfl (Yn (K:=K) rfl (pv 0)) (fun _ _ _ _ _=>(Zz (i:=0) (show δ (["name"]:50) by left) rfl (.inl rfl))) (fun _ _ _ _ _=>YV) (fun _ _ _ _ _=>(ZD T.bJ (vh T hw) hr rfl rfl (@Za _ _ _ _ _ (pv 0) Zb rfl)))) Zb rfl))))))) (@Zg _ _ _ (@Zm _ _ _ _ YL)) Zx) d1.2),?_⟩;rcases qc hk.1 with⟨hb,p,xs,rfl,hp,hl⟩|⟨hb,e⟩
 ·obtain⟨t,h1,h2⟩:=WJ K 47 hk.1 hb;obtain⟨hz,hy⟩:=hk.2 xs hl;have hS:xs.length<=sizeLine:=by rw[eJ];lia
  have ev:Yb H (.ref p)=(xs.all Xa&&decide xs.Nodup):=by unfold Yb;rw[hl]
  rw[ev] at k;refine⟨_,rfl,_,t,_,rfl,h1,h2,_,rfl,Z4 ?_⟩;refine⟨_,rfl,p,rfl,⟨xs,mZ hp⟩,fun D hD=>?_⟩;refine WR (K:=K) hD (mZ hp) hS (fun i v _=>∀x,xs[i]?=some x->v=.bl (Xa x)) (fun _ _ _ _ _ q=>q) ?_ ?_
  ·intro i x H2 N hx sm hN;refine⟨_,rfl,x,rfl,(hy x (fz hx)).mono sm,fun H3 s3=>hN _ _ s3 fun x' rf=>?_⟩;rw[hx] at rf;cases rf;rfl
  ·intro H2 ys oz sm nv hr;have ey:=Vb (f:=Xa) nv fun i v x h1 h2=>hr i v h1 x h2;refine⟨D,_,rfl,mZ (by rw[oz,ey]),_,rfl,?_⟩;rw[xq];cases nJ:xs.all Xa with
   |false=>
    rw[nJ] at k;exact YD (k H2 sm)
   |true=>
    rw[nJ] at k;obtain⟨ks,rfl⟩:=xc nJ;rw[eG] at hz;refine Z4 ⟨_,rfl,p,ks,rfl,mZ (sm _ _ hp),by lia,fun n c a1 a2 hc=>?_⟩;have s3:Zf H (upd H2 c (Za8 c n)):=sm.trans (Ze hc);refine .inr (.inr ⟨c,n,rfl,Zc,by lia,_,rfl,.inl ⟨p,_,rfl,.inl (mZ (s3 _ _ hp)),rfl,?_⟩⟩);rw[Q5 rfl a2];exact k _ s3
 ·obtain⟨t,h1,h2⟩:=WJ K 47 hk.1 hb;have q:=k H (.refl H);have e2:Yb H x=false:=by unfold Yb;rw[e]
  rw[e2] at q;exact⟨_,rfl,_,t,_,rfl,h1,h2,_,rfl,YD (YD q)⟩
def kB(K:W.Frag)(a:Adr):Sp:=fun vs H Q _=>Ex2 fun x n=>Cj3 (vs=[x,.int n]) (KdL H x) (∀H',Zf H H'->Q (.bl (X3 H n x)) H')
theorem Ja{a:Adr}:66 3 a.y4 a.z4 cX kB:=fun T hw=>by
 refine okF T.bB.f kJ 73;obtain⟨x,n,rfl,hk,k⟩:=h;refine⟨_,(@Zg _ _ _ (@Zm _ _ _ _ (Y9 (Zn (XU (K:=K) rfl "list") rfl T.ag nh (@Za _ _ _ _ _ (pv 0) (@Za _ _ _ _ _ (Wm (v:=.ty "list") rfl T.bM m8 rfl) Zb rfl) rfl)) (YN (Zn (V3 (K:=K) rfl rfl) rfl T.cA ni (@Za _ _ _ _ _ (YC (Nc:=["room","many"]) (ix:=[none,some 1]) (ZX.of (by left:Yc (Zh Vy) ["thing","many"] _ _ _=true)) rfl (Yn (K:=K) rfl (pv 0)) (fun _ _ _ _ _=>(Zz (i:=0) (show δ (["room","many"]:50) by left) rfl (.inl rfl))) (fun _ _ _ _ _=>YV) (fun _ _ _ _ _=>(ZD T.bT (Qz T hw) hr rfl rfl (@Za _ _ _ _ _ (pv 0) (@Za _ _ _ _ _ (pv 1) Zb rfl) rfl)))) Zb rfl)))))),?_⟩;rcases qc hk.1 with⟨hb,p,xs,rfl,hp,hl⟩|⟨hb,e⟩
 ·obtain⟨t,h1,h2⟩:=WJ K 47 hk.1 hb;obtain⟨hz,hy⟩:=hk.2 xs hl;have hS:xs.length<=sizeLine:=by rw[eJ];lia
  have ev:X3 H n (.ref p)=xs.all (YZ n):=by unfold X3;rw[hl]
  rw[ev] at k;refine⟨_,rfl,_,t,_,rfl,h1,h2,_,rfl,YD ?_⟩;refine⟨_,rfl,p,rfl,⟨xs,mZ hp⟩,fun D hD=>?_⟩;refine WR (K:=K) hD (mZ hp) hS (fun i v _=>∀x,xs[i]?=some x->v=.bl (YZ n x)) (fun _ _ _ _ _ q=>q) ?_ ?_
  ·intro i x H2 N hx sm hN;refine⟨_,rfl,_,rfl,x,n,rfl,(hy x (fz hx)).mono sm,hN _ _ (.refl _) fun x' rf=>?_⟩;rw[hx] at rf;cases rf;rfl
  ·intro H2 ys oz sm nv hr;have ey:=Vb (f:=YZ n) nv fun i v x h1 h2=>hr i v h1 x h2;refine⟨D,_,rfl,mZ (by rw[oz,ey]),?_⟩;rw[xq];exact k H2 sm
 ·obtain⟨t,h1,h2⟩:=WJ K 47 hk.1 hb;have q:=k H (.refl H);have e2:X3 H n x=false:=by unfold X3;rw[e]
  rw[e2] at q;exact⟨_,rfl,_,t,_,rfl,h1,h2,_,rfl,Z4 q⟩
def zm(K:W.Frag)(a:Adr):Sp:=fun vs H Q _=>Ex2 fun x n=>Cj3 (vs=[x,.int n]) (KdL H x) (∀H',Zf H H'->Q (.bl (ZT H n x)) H')
theorem Vu{a:Adr}:66 4 a.y43 a.z43 cX zm:=fun T hw=>by
 refine okX T.aG.f zy 69;intro X
 let d1:Rdg X Xy [1]:=⟨_,(@Zg _ _ _ (@Zm _ _ _ _ (@Yy _ _ _ _ _ _ _ _ YA (Zn (Zw (K:=K) rfl) rfl T.az ng (@Za _ _ _ _ _ (Z2 (jK (K:=K) rfl rfl) rfl T.cD nj (@Za _ _ _ _ _ (pv 0) Zb rfl)) Zb rfl)) 68 (ZB _))))⟩
 intro vs Q h;obtain⟨x,n,rfl,hk,k⟩:=h;refine⟨_,(@Zd _ _ _ _ _ (@ZQ _ _ _ _ _ _ _ _ (PW.pt (UD (@Xj _ _ _ _ (XR (ZD T.bB (Ja T hw) hr rfl rfl (@Za _ _ _ _ _ (pv 0) (@Za _ _ _ _ _ (pv 1) Zb rfl) rfl)))) (Vk (@Zt _ _ _ _ _ _ _ _ YA 68 Zi (ZB _))))) (@Zg _ _ _ (@Zm _ _ _ _ YL)) Zx) d1.2),?_⟩;refine⟨_,rfl,_,rfl,x,n,rfl,hk,fun H1 s1=>⟨_,rfl,?_⟩⟩;rcases qc hk.1 with⟨hb,p,xs,rfl,hp,hl⟩|⟨hb,e⟩
 ·obtain⟨hz,hy⟩:=hk.2 xs hl;have ev:X3 H n (.ref p)=xs.all (YZ n):=by unfold X3;rw[hl]
  have ew:ZT H n (.ref p)=(xs.all (YZ n)&&!xs.isEmpty&&decide xs.Nodup):=by unfold ZT;rw[hl]
  rw[ew] at k;rw[ev];cases nJ:xs.all (YZ n) with
  |false=>
   rw[nJ] at k;exact YD (YD (k H1 s1))
  |true=>
   rw[nJ] at k;refine Z4 ⟨_,rfl,.inl ⟨p,xs,rfl,.inl (mZ (s1 _ _ hp)),rfl,_,rfl,?_⟩⟩;cases xs with
   |nil=>
    exact YD (k H1 s1)
   |cons y r=>
    have e0:decide (V.int (((y::r).length:Nat):Int)=V.int 0)=false:=by
     refine fE fun q=>?_;have q':=V.int.inj q;rw[fG] at q';lia
    rw[e0];obtain⟨ks,Ln⟩:=yV nJ;rw[Ln] at hp k hz;rw[eG] at hz;refine Z4 ⟨_,rfl,p,ks,rfl,mZ (s1 _ _ hp),by lia,fun m c a1 a2 hc=>?_⟩;have s3:Zf H (upd H1 c (Za8 c m)):=s1.trans (Ze hc);refine .inr (.inr ⟨c,m,rfl,Zc,by lia,_,rfl,.inl ⟨p,_,rfl,.inl (mZ (s3 _ _ hp)),rfl,?_⟩⟩);rw[Q5 rfl a2];have q:=k _ s3;have ne:(!(ks.map kV).isEmpty)=true:=by rw[<- Ln];rfl
    rw[ne] at q;exact q
 ·have ev:X3 H n x=false:=by unfold X3;rw[e]
  have ew:ZT H n x=false:=by unfold ZT;rw[e]
  rw[ew] at k;rw[ev];exact YD (YD (k H1 s1))
def xP(K:W.Frag)(a:Adr):Sp:=fun vs H Q _=>Ex4 fun x y z u=>Cj6 (vs=[x,y,z,u]) (ZdZ H x) (ZdZ H y) (KdL H z) (KdL H u) (∀H',Zf H H'->Q (.bl (UB H x y z u)) H')
theorem xx{a:Adr}:66 5 a.y42 a.z42 dB xP:=fun T hw=>by
 refine okX T.bo.f UQ 69;intro X
 let d1:Rdg X Yf [5]:=⟨_,(@Zg _ _ _ (@Zm _ _ _ _ (Y9 (ZD T.aG (Vu T hw) hr rfl rfl (@Za _ _ _ _ _ (pv 2) (@Za _ _ _ _ _ (pv 4) Zb rfl) rfl)) (Y9 (ZD T.bc (zE T hw) hr rfl rfl (@Za _ _ _ _ _ (pv 3) Zb rfl)) (YN (@Yy _ _ _ _ _ _ _ _ yz (Zn (Zw (K:=K) rfl) rfl T.az ng (@Za _ _ _ _ _ (pv 3) Zb rfl)) (Vx rfl T.bV) (ZB _)))))))⟩
 let d2:Rdg X Yf [4]:=⟨_,(@Zd _ _ _ _ _ (@ZQ _ _ _ _ _ _ _ _ (@Xj _ _ _ _ (XR (Zn (V3 (K:=K) rfl rfl) rfl T.cA ni (@Za _ _ _ _ _ (YC (Nc:=["rooms","many"]) (ix:=[none,some 4]) (ZX.of (by left:Yc (Zh Yf) VJ _ _ _=true)) rfl (Yn (K:=K) rfl (pv 1)) (fun _ _ _ _ _=>(Zz (i:=0) (show δ (["rooms","many"]:50) by left) rfl (.inl rfl))) (fun _ _ _ _ _=>YV) (fun _ _ _ _ _=>(ZD T.aG (Vu T hw) hr rfl rfl (@Za _ _ _ _ _ (pv 0) (@Za _ _ _ _ _ (pv 1) Zb rfl) rfl)))) Zb rfl)))) (@Zg _ _ _ (@Zm _ _ _ _ YL)) Zx) d1.2)⟩
 let d3:Rdg X Yf [3]:=⟨_,(@Zd _ _ _ _ _ (@ZQ _ _ _ _ _ _ _ _ (@Xj _ _ _ _ (XR (Zn (V3 (K:=K) rfl rfl) rfl T.cA ni (@Za _ _ _ _ _ (YC (Nc:=["names"]) (ix:=[none]) (ZX.of (by left:Yc (Zh Yf) VJ _ _ _=true)) rfl (Yn (K:=K) rfl (pv 0)) (fun _ _ _ _ _=>(Zz (i:=0) (show δ (["names"]:50) by left) rfl (.inl rfl))) (fun _ _ _ _ _=>YV) (fun _ _ _ _ _=>(ZD T.bc (zE T hw) hr rfl rfl (@Za _ _ _ _ _ (pv 0) Zb rfl)))) Zb rfl)))) (@Zg _ _ _ (@Zm _ _ _ _ YL)) Zx) d2.2)⟩
 let d4:Rdg X Yf [2]:=⟨_,(@Zd _ _ _ _ _ (@ZQ _ _ _ _ _ _ _ _ (PW.pt (UD (@Xj _ _ _ _ (JF yz yz Zi (pv 4) (Vx rfl T.bR))) (Vk (@Zt _ _ _ _ _ _ _ _ VZ (Zn (Zw (K:=K) rfl) rfl T.az ng (@Za _ _ _ _ _ (pv 1) Zb rfl)) (pv 4) (ZB _))))) (@Zg _ _ _ (@Zm _ _ _ _ YL)) Zx) d3.2)⟩
 let d5:Rdg X Yf [1]:=⟨_,(@Zd _ _ _ _ _ (@Zu _ _ (4) _ _ _ _ UQ.nd rfl (.inr rfl) 68 rfl (.inl rfl)) d4.2)⟩
 intro vs Q h;obtain⟨x,y,z,u,rfl,kx,ky,kz,ku,k⟩:=h;refine⟨_,(@Zd _ _ _ _ _ (@ZQ _ _ _ _ _ _ _ _ (PW.pt (UD (@Xj _ _ _ _ (XR (Zn (XU (K:=K) rfl "list") rfl T.ag nh (@Za _ _ _ _ _ (pv 0) (@Za _ _ _ _ _ (Wm (v:=.ty "list") rfl T.bM m8 rfl) Zb rfl) rfl)))) (Vk (@Xj _ _ _ _ (XR (Zn (XU (K:=K) rfl "list") rfl T.ag nh (@Za _ _ _ _ _ (pv 1) (@Za _ _ _ _ _ (Wm (v:=.ty "list") rfl T.bM m8 rfl) Zb rfl) rfl))))))) (@Zg _ _ _ (@Zm _ _ _ _ YL)) Zx) d5.2),?_⟩;rcases qc kx.1 with⟨hb,p,xs,rfl,hp,hl⟩|⟨hb,e⟩
 case inr=>
  obtain⟨t,h1,h2⟩:=WJ K 47 kx.1 hb;have q:=k H (.refl H);have e2:UB H x y z u=false:=by unfold UB;rw[e]
  rw[e2] at q;exact⟨_,rfl,_,t,_,rfl,h1,h2,_,rfl,YD (YD q)⟩
 obtain⟨t,h1,h2⟩:=WJ K 47 kx.1 hb;refine⟨_,rfl,_,t,_,rfl,h1,h2,_,rfl,Z4 ?_⟩;rcases qc ky.1 with⟨pF,p2,ys,rfl,rP,rN⟩|⟨pF,e⟩
 case inr=>
  obtain⟨t,h1,h2⟩:=WJ K 47 ky.1 pF;have q:=k H (.refl H);have e2:UB H (.ref p) y z u=false:=by unfold UB;rw[hl,e]
  rw[e2] at q;exact⟨_,rfl,_,t,_,rfl,h1,h2,_,rfl,YD q⟩
 obtain⟨t2,h3,h4⟩:=WJ K 47 ky.1 pF;refine⟨_,rfl,_,t2,_,rfl,h3,h4,_,rfl,Z4 ?_⟩;obtain⟨hz,hy⟩:=kx.2 xs hl;obtain⟨Sd,B9⟩:=ky.2 ys rN;have hS:xs.length<=sizeLine:=by rw[eJ];lia
 have uM:ys.length<=sizeLine:=by rw[eJ];lia
 have ev:UB H (.ref p) (.ref p2) z u=(decide (1<=xs.length)&&decide (xs.length<=20)&&decide (ys.length=xs.length)&&xs.all (Yb H)&&ys.all (ZT H xs.length)&&(ZT H xs.length z&&(Yb H u&&ZeA (XZ H u)))):=by unfold UB;rw[hl,rN]
 rw[ev] at k;refine⟨_,rfl,.inl ⟨p,xs,rfl,.inl (mZ hp),?_⟩⟩;refine⟨_,rfl,_,_,rfl,rfl,_,rfl,?_⟩;cases c1:decide ((1:Int)<=xs.length) with
 |false=>
  have e1:decide (1<=xs.length)=false:=fE fun q=>nu (lD c1) 21;rw[e1] at k;exact Z4 ⟨_,rfl,YD (YD (k H (.refl H)))⟩
 |true=>
 have e1:decide (1<=xs.length)=true:=fQ (by have:=fA c1;lia);rw[e1] at k;refine YD ⟨_,_,rfl,rfl,_,rfl,?_⟩;cases c2:decide ((xs.length:Int)<=20) with
 |false=>
  have e2:decide (xs.length<=20)=false:=fE fun q=>nu (lD c2) 21;rw[e2] at k;exact YD (YD (k H (.refl H)))
 |true=>
 have e2:decide (xs.length<=20)=true:=fQ (by have:=fA c2;lia);rw[e2] at k;refine Z4 ⟨_,rfl,.inl ⟨p2,ys,rfl,.inl (mZ rP),_,rfl,rfl,_,rfl,?_⟩⟩;cases c3:decide (V.int (ys.length:Int)=V.int (xs.length:Int)) with
 |false=>
  have e3:decide (ys.length=xs.length)=false:=fE fun q=>nu (lD c3) (by rw[q];simp);rw[e3] at k;exact YD (k H (.refl H))
 |true=>
 have e3:decide (ys.length=xs.length)=true:=fQ (by have:=V.int.inj (fA c3);lia);rw[e3] at k;refine Z4 ⟨_,rfl,p,rfl,⟨xs,mZ hp⟩,fun D hD=>?_⟩;refine WR (K:=K) hD (mZ hp) hS (fun i v _=>∀x,xs[i]?=some x->v=.bl (Yb H x)) (fun _ _ _ _ _ q=>q) ?_ ?_
 ·intro i x H2 N hx sm hN;have hk:=hy x (fz hx);refine⟨_,rfl,x,rfl,hk.mono sm,fun H3 s3=>hN _ _ s3 fun x' rf=>?_⟩;rw[hx] at rf;cases rf;rw[qt sm hk.1]
 intro H2 zs oz sm nv hr;have ey:=Vb (f:=Yb H) nv fun i v x h1 h2=>hr i v h1 x h2;refine⟨D,_,rfl,mZ (by rw[oz,ey]),_,rfl,?_⟩;rw[xq];cases c4:xs.all (Yb H) with
 |false=>
  rw[c4] at k;exact YD (k H2 sm)
 |true=>
 rw[c4] at k;refine Z4 ⟨_,rfl,p2,rfl,⟨ys,mZ (sm _ _ rP)⟩,fun D' Tb=>?_⟩;refine WR (K:=K) Tb (mZ (sm _ _ rP)) uM (fun i v _=>∀x,ys[i]?=some x->v=.bl (ZT H xs.length x)) (fun _ _ _ _ _ q=>q) ?_ ?_
 ·intro i x H3 N hx DB hN;have hk:=B9 x (fz hx);have s3:=sm.trans DB;refine⟨_,rfl,_,rfl,x,_,rfl,hk.mono s3,fun H4 s4=>hN _ _ s4 fun x' rf=>?_⟩;rw[hx] at rf;cases rf;rw[UH s3 hk.1]
 intro H3 zs3 Bq DB B8 Fu;have s3:=sm.trans DB;have PY:=Vb (f:=ZT H xs.length) B8 fun i v x h1 h2=>Fu i v h1 x h2;refine⟨D',_,rfl,mZ (by rw[Bq,PY]),_,rfl,?_⟩;rw[xq];cases c5:ys.all (ZT H xs.length) with
 |false=>
  rw[c5] at k;exact YD (k H3 s3)
 |true=>
 rw[c5] at k;refine Z4 ⟨_,rfl,_,rfl,z,_,rfl,kz.mono s3,fun H4 s4=>⟨_,rfl,?_⟩⟩;rw[UH s3 kz.1];have s5:=s3.trans s4;cases c6:ZT H xs.length z with
 |false=>
  rw[c6] at k;exact Z4 (k H4 s5)
 |true=>
 rw[c6] at k;refine YD ⟨_,rfl,u,rfl,ku.mono s5,fun H5 s6=>⟨_,rfl,?_⟩⟩;rw[qt s5 ku.1];have s7:=s5.trans s6;cases c7:Yb H u with
 |false=>
  rw[c7] at k;exact Z4 (k H5 s7)
 |true=>
 rw[c7] at k;rcases qc ku.1 with⟨_,p4,fs,rfl,Em,P4⟩|⟨_,e⟩
 ·rw[P4] at k;refine YD ⟨_,rfl,.inl ⟨p4,fs,rfl,.inl (mZ (s7 _ _ Em)),_,_,rfl,rfl,?_⟩⟩;have q:=k H5 s7;have e8:decide (fs.length<=3)=decide ((fs.length:Int)<=3):=lj.mpr 21;simp only[ZeA] at q;rw[e8] at q;exact q
 ·unfold Yb at c7;rw[e] at c7;cases c7
def vI(K:W.Frag)(a:Adr):Sp:=fun vs H Q _=>Ex7 fun p dx x y z u d=>Cj5 (vs=[.ref p,x,y,z,u]) (H p=some (.ins a.C_World dx [])) (WH H x y z u d) (ZbN d) (∀H',Zr p H H'->Z5 a.C_World H' p d->Q .non H')
theorem vS{a:Adr}:66 6 a.y36 a.z36 dC vI:=fun T hw=>by
 refine okX T.bu.f vO 69;intro X
 let d1:Rdg X YS [3]:=⟨_,(@Zd _ _ _ _ _ (qA (pv 0) (Z2 (Yj (K:=K) rfl) rfl T.aH m9 (@Za _ _ _ _ _ (Zn (Uo (K:=K) rfl) rfl T.bN nk (@Za _ _ _ _ _ (pv 3) Zb rfl)) Zb rfl)) rfl) (@Zg _ _ _ (qA (pv 0) (Z2 (Yj (K:=K) rfl) rfl T.aH m9 (@Za _ _ _ _ _ (pv 4) Zb rfl)) rfl)))⟩
 let d2:Rdg X YS [2]:=⟨_,(@Zd _ _ _ _ _ (qA (pv 0) (Z2 (Yj (K:=K) rfl) rfl T.aH m9 (@Za _ _ _ _ _ (YC (Nc:=["rooms"]) (ix:=[none]) (ZX.of (by left:Yc (Zh YS) Uu _ _ _=true)) rfl (Yn (K:=K) rfl (pv 2)) (fun _ _ _ _ _=>(Zz (i:=0) (show δ (["rooms"]:50) by left) rfl (.inl rfl))) (fun _ _ _ _ _=>YV) (fun _ _ _ _ _=>(Z2 (Yj (K:=K) rfl) rfl T.aH m9 (@Za _ _ _ _ _ (Zn (Uo (K:=K) rfl) rfl T.bN nk (@Za _ _ _ _ _ (pv 0) Zb rfl)) Zb rfl)))) Zb rfl)) rfl) d1.2)⟩
 let d3:Rdg X YS [1]:=⟨_,(@Zd _ _ _ _ _ (qA (pv 0) (Z2 (Yj (K:=K) rfl) rfl T.aH m9 (@Za _ _ _ _ _ (YC (Nc:=["names"]) (ix:=[none]) (ZX.of (by left:Yc (Zh YS) Uu _ _ _=true)) rfl (Yn (K:=K) rfl (pv 1)) (fun _ _ _ _ _=>(Zz (i:=0) (show δ (["names"]:50) by left) rfl (.inl rfl))) (fun _ _ _ _ _=>YV) (fun _ _ _ _ _=>(Z2 (Yj (K:=K) rfl) rfl T.aH m9 (@Za _ _ _ _ _ (Zn (Uo (K:=K) rfl) rfl T.bN nk (@Za _ _ _ _ _ (pv 0) Zb rfl)) Zb rfl)))) Zb rfl)) rfl) d2.2)⟩
 intro vs Q h;obtain⟨p,dx,x,y,z,u,d,rfl,hp,pp,gd,k⟩:=h;refine⟨_,(@Zd _ _ _ _ _ (@ZQ _ _ _ _ _ _ _ _ (@Xj _ _ _ _ (XR (ZD T.bo (xx T hw) hr rfl rfl (@ZA _ _ _ _ _ (pv 1) (@ZA _ _ _ _ _ (pv 2) (@ZA _ _ _ _ _ (pv 3) (@ZA _ _ _ _ _ (pv 4) Zb rfl) rfl) rfl) rfl)))) (@Zg _ _ _ Ky) Zx) d3.2),?_⟩;obtain⟨kx,ky,kz,ku⟩:=pp.kd gd;have hm:=pp.makes gd;refine⟨_,rfl,_,rfl,_,rfl,_,rfl,x,y,z,u,rfl,kx,ky,kz,ku,fun H1 s1=>⟨_,rfl,?_⟩⟩;rw[hm];refine Z4 ?_;have p1:=pp.mono s1;have pX:=s1 _ _ hp;have ph:=p1.hid pX;have:=gd.n20;have:=gd.wl;obtain⟨b1,v1,e1,g1,l1,q1⟩:=p1.s;subst e1;refine⟨_,rfl,b1,rfl,⟨v1,mZ g1⟩,fun D hD=>?_⟩;refine WR (K:=K) hD (mZ g1) (by rw[eJ];lia) (fun i v G=>∀ss,d.signs[i]?=some ss->TS G v (W7 ss)) (fun i v _ _ sm q ss e=>TS.mono _ _ _ _ sm (q ss e)) ?_ ?_
 ·intro i w H2 N hx sm hN;have hi:i<d.signs.length:=by rw[<- l1];exact(eY.mp hx).1
  obtain⟨c,rfl,ec⟩:=q1 i w _ hx (eI hi);have hg:=gd.sn _ (fv hi);refine⟨_,rfl,.inl ⟨c,_,rfl,mZ (sm _ _ ec),by lia,fun l hl=>⟨l,_,rfl,.inl ⟨mZ Zc,fun t ht=>?_⟩⟩⟩⟩;refine hN _ _ ((Ze hl).trans (Ze ht)) fun ss rB=>⟨t,rfl,New.mk ((Ze hl).free ht) ?_⟩;rw[eI hi] at rB;cases rB;rw[Zc]
 intro H2 w1 oz s2 PH r1;refine⟨D,w1,rfl,.inl ⟨mZ oz,fun t1 pH=>?_⟩⟩;have oQ:=Ze (o:=.tup w1) pH;have rP:=oQ _ _ (s2 _ _ pX);refine⟨_,rfl,p,_,dx,[],rfl,rP,T.aA,T.ao,by left,?_⟩;have x2:Zr p H1 (upd (upd H2 t1 (.tup w1)) p (.ins a.C_World dx (Yu "room_signs" (.ref t1) []))):=(Zf.x (s2.trans oQ)).upd;have Hg:t1≠p:=fun z=>by subst z;rw[s2 _ _ pX] at pH;cases pH
 have W1:LT TS (hide p (upd (upd H2 t1 (.tup w1)) p (.ins a.C_World dx (Yu "room_signs" (.ref t1) [])))) (.ref t1) (d.signs.map W7):=by
  refine jE (xs:=d.signs) (Wl Hg (by rw[Zo Hg,Zc])) (PH.trans l1) fun i v hv ss rB=>?_;refine TS.mono _ _ _ _ ?_ (r1 i v hv ss rB);exact(New.hidden pX).trans (Zr.hide ((Zf.x oQ).upd))
 have BX:(upd (upd H2 t1 (.tup w1)) p (.ins a.C_World dx (Yu "room_signs" (.ref t1) []))) p=some (.ins a.C_World dx (Yu "room_signs" (.ref t1) [])):=Zc;rw[put1] at x2 W1 BX ⊢;generalize upd (upd H2 t1 (.tup w1)) p (.ins a.C_World dx ([("room_signs",V.ref t1)]:78))=H3 at x2 W1 BX ⊢;have p3:=(ph.mono x2.hide).mono Vf;obtain⟨b2,v2,e2,g2,l2,q2⟩:=p3.w;subst e2;refine⟨_,rfl,b2,rfl,⟨v2,mZ g2⟩,fun D2 Nw=>?_⟩;refine WR (K:=K) Nw (mZ g2) (by rw[eJ];lia) (fun i v G=>∀ss,d.ways[i]?=some ss->TIn G v (YM ss)) (fun i v _ _ sm q ss e=>TIn.mono _ _ _ _ sm (q ss e)) ?_ ?_
 ·intro i w H4 N hx sm hN;have hi:i<d.ways.length:=by rw[<- l2];exact(eY.mp hx).1
  obtain⟨c,rfl,ec⟩:=q2 i w _ hx (eI hi);have hg:=gd.wn _ (fv hi);refine⟨_,rfl,.inr ⟨c,_,rfl,mZ (sm _ _ ec),by lia,fun l hl=>⟨l,_,rfl,.inl ⟨mZ Zc,fun t ht=>?_⟩⟩⟩⟩;refine hN _ _ ((Ze hl).trans (Ze ht)) fun ss rB=>⟨t,rfl,New.mk ((Ze hl).free ht) ?_⟩;rw[eI hi] at rB;cases rB;rw[Zc]
 intro H4 w2 PR s4 P8 r2;refine⟨D2,w2,rfl,.inl ⟨mZ PR,fun t2 su=>?_⟩⟩;have oE:=Ze (o:=.tup w2) su;have Em:=oE _ _ (s4 _ _ BX);refine⟨_,rfl,p,_,dx,_,rfl,Em,T.aA,T.aN,by simp,?_⟩;have x4:Zr p H3 (upd (upd H4 t2 (.tup w2)) p (.ins a.C_World dx (Yu "room_ways" (.ref t2) ([("room_signs",V.ref t1)]:78)))):=(Zf.x (s4.trans oE)).upd;have Ma:t2≠p:=fun z=>by subst z;rw[s4 _ _ BX] at su;cases su
 have W2:LT TIn (hide p (upd (upd H4 t2 (.tup w2)) p (.ins a.C_World dx (Yu "room_ways" (.ref t2) ([("room_signs",V.ref t1)]:78))))) (.ref t2) (d.ways.map YM):=by
  refine jE (xs:=d.ways) (Wl Ma (by rw[Zo Ma,Zc])) (P8.trans l2) fun i v hv ss rB=>?_;refine TIn.mono _ _ _ _ ?_ (r2 i v hv ss rB);exact(New.hidden BX).trans (Zr.hide ((Zf.x oE).upd))
 have CB:(upd (upd H4 t2 (.tup w2)) p (.ins a.C_World dx (Yu "room_ways" (.ref t2) ([("room_signs",V.ref t1)]:78)))) p=some (.ins a.C_World dx (Yu "room_ways" (.ref t2) ([("room_signs",V.ref t1)]:78))):=Zc;have W1:=LT.mono TS.mono _ _ _ _ x4.hide W1;rw[put2] at x4 W1 W2 CB ⊢;generalize upd (upd H4 t2 (.tup w2)) p (.ins a.C_World dx ([("room_signs",V.ref t1),("room_ways",V.ref t2)]:78))=H5 at x4 W1 W2 CB ⊢;have x5:=x2.trans x4;have p5:=(ph.mono x5.hide).mono Vf;obtain⟨b3,e3,g3⟩:=p5.st;subst e3;have nB:=gd.stn.2.2.2;refine⟨_,rfl,.inr ⟨b3,_,rfl,mZ g3,by lia,fun l hl=>⟨l,_,rfl,.inl ⟨mZ Zc,fun t3 r8=>?_⟩⟩⟩⟩;have pO:=(Ze (o:=.lst ((YM d.starts).map V.int)) hl).trans (Ze (o:=.tup ((YM d.starts).map V.int)) r8);have RA:=pO _ _ CB;refine⟨_,rfl,p,_,dx,_,rfl,RA,T.aA,T.aU,by simp,?_⟩;have Gp:t3≠p:=fun z=>by subst z;rw[Ze hl _ _ CB] at r8;cases r8
 have x6:Zr p H5 (upd (upd (upd H5 l (.lst ((YM d.starts).map V.int))) t3 (.tup ((YM d.starts).map V.int))) p (.ins a.C_World dx (Yu "start_rooms" (.ref t3) ([("room_signs",V.ref t1),("room_ways",V.ref t2)]:78)))):=(Zf.x pO).upd;have Cs:(upd (upd (upd H5 l (.lst ((YM d.starts).map V.int))) t3 (.tup ((YM d.starts).map V.int))) p (.ins a.C_World dx (Yu "start_rooms" (.ref t3) ([("room_signs",V.ref t1),("room_ways",V.ref t2)]:78)))) p=some (.ins a.C_World dx (Yu "start_rooms" (.ref t3) ([("room_signs",V.ref t1),("room_ways",V.ref t2)]:78))):=Zc;have W3:TIn (hide p (upd (upd (upd H5 l (.lst ((YM d.starts).map V.int))) t3 (.tup ((YM d.starts).map V.int))) p (.ins a.C_World dx (Yu "start_rooms" (.ref t3) ([("room_signs",V.ref t1),("room_ways",V.ref t2)]:78))))) (.ref t3) (YM d.starts):=⟨t3,rfl,Wl Gp (by rw[Zo Gp,Zc])⟩;have W1:=LT.mono TS.mono _ _ _ _ x6.hide W1;have W2:=LT.mono TIn.mono _ _ _ _ x6.hide W2;rw[put3] at x6 W1 W2 W3 Cs ⊢;generalize upd (upd (upd H5 l (.lst ((YM d.starts).map V.int))) t3 (.tup ((YM d.starts).map V.int))) p (.ins a.C_World dx ([("room_signs",V.ref t1),("room_ways",V.ref t2),("start_rooms",V.ref t3)]:78))=H7 at x6 W1 W2 W3 Cs ⊢;have x7:=x5.trans x6;have p7:=(ph.mono x7.hide).mono Vf;obtain⟨b4,e4,g4⟩:=p7.f;subst e4;refine⟨_,rfl,b4,_,rfl,.inl ⟨mZ g4,fun t4 uA=>?_⟩⟩;have rM:=Ze (o:=.tup (d.fair.map V.str)) uA;have R3:=rM _ _ Cs;refine⟨_,rfl,p,_,dx,_,rfl,R3,T.aA,T.aW,by simp,?_⟩;have Nk:t4≠p:=fun z=>by subst z;rw[Cs] at uA;cases uA
 have x8:Zr p H7 (upd (upd H7 t4 (.tup (d.fair.map V.str))) p (.ins a.C_World dx (Yu "fair_names" (.ref t4) ([("room_signs",V.ref t1),("room_ways",V.ref t2),("start_rooms",V.ref t3)]:78)))):=(Zf.x rM).upd;refine k _ ((Zf.x s1).trans (x7.trans x8)) ⟨dx,.ref t1,.ref t2,.ref t3,.ref t4,by rw[Zc,put4],?_,?_,?_,?_⟩
 ·exact LT.mono TS.mono _ _ _ _ (x8.hide.trans Vf) W1
 ·exact LT.mono TIn.mono _ _ _ _ (x8.hide.trans Vf) W2
 ·exact TIn.mono _ _ _ _ (x8.hide.trans Vf) W3
 ·exact⟨t4,rfl,by rw[Zo Nk,Zc]⟩
def nm3:50:=["p","qq","rab"]
theorem ZcC:∀x∈nm3,Xk x=true:=by left
theorem Zf5:nm3.Nodup:=by left
structure Mk(H0 G:Hp)(SG WY:Addr)(many i:Nat)(sg:List (Addr×50))(wy:List (Addr×82)):Prop where
 hs:G SG=some (.lst (sg.map fun e=>V.ref e.1))
 hw:G WY=some (.lst (wy.map fun e=>V.ref e.1))
 ls:sg.length=i
 lw:wy.length=i
 es:∀e∈sg,H0 e.1=none/\G e.1=some (.lst (e.2.map V.str))/\e.2.Nodup/\(∀x∈e.2,x∈nm3)/\e.2.length<=3
 ew:∀e∈wy,H0 e.1=none/\G e.1=some (.lst (e.2.map V.int))/\e.2.Nodup/\e.2≠[]/\(∀x∈e.2,0<=x/\x<(many:Nat))/\e.2.length<=3
theorem Mk.step{SG WY s:Addr}{many:Nat}(m:Mk H0 G SG WY many i sg wy)(n1:SG≠s)(n2:WY≠s)(h0:H0 s=some o)(x:Zr s G G'):Mk H0 G' SG WY many i sg wy:=
 ⟨x _ _ n1 m.hs,x _ _ n2 m.hw,m.ls,m.lw,fun e h=>(let ⟨a,b,c⟩:=m.es e h; ⟨a,x _ _ (fun z=>by rw[z,h0] at a;cases a) b,c⟩),fun e h=>(let ⟨a,b,c⟩:=m.ew e h; ⟨a,x _ _ (fun z=>by rw[z,h0] at a;cases a) b,c⟩)⟩
def vN(K:W.Frag)(a:Adr):Sp:=fun vs H Q _=>Ex2 fun(s:Addr) (n:Nat)=>Cj4 (vs=[.ref s]) (Wb H s n) (n<1000) (∀H' w d,Zr s H H'->Z5 a.C_World H' w d->ZbN d->d.signs.length<=6->Q (.ref w) H')
theorem vR{a:Adr}:66 8 a.y47 a.z47 dD vN:=fun T hw=>by
 refine okX T.bv.f Xh 69;intro X
 let d1:Rdg X Z6 [3,0,2]:=⟨_,(@Zg _ _ _ (@YG _ _ _ _ (Wc fR ge gf Z9 (pv 3) (@Za _ _ _ _ _ (Zn (KY hw rfl) rfl T.bN nk (@Za _ _ _ _ _ (Z2 (Zbn (K:=K) rfl hw rfl) rfl T.cD nj (@Za _ _ _ _ _ (pv 5) Zb rfl)) Zb rfl)) Zb rfl)) rfl))⟩
 let d2:Rdg X Z6 [3,0,1]:=⟨_,(@Zd _ _ _ _ _ (XV (i:=5) Xh.nd rfl rfl (Nc:=dQ) (ix:=[none,some 0,some 1]) (ZX.of (by left:Yc (Zh Z6) Ux _ _ _=true)) rfl (Xf rfl T.aQ (@Za _ _ _ _ _ (@ZO _ _ _ _ _ _ _ _ YY Zi (ZD T.aa (ZJ T hw) hr rfl rfl (@Za _ _ _ _ _ (pv 0) (@Za _ _ _ _ _ Zi Zb rfl) rfl))) Zb rfl)) (fun _ _ _ _ _=>(Zz (i:=0) (show δ dQ by left) rfl (.inl rfl))) (fun _ _ _ _ _=>YV) (fun _ _ _ _ _=>(ZD T.aa (ZJ T hw) hr rfl rfl (@Za _ _ _ _ _ (pv 1) (@Za _ _ _ _ _ (pv 2) Zb rfl) rfl)))) d1.2)⟩
 let d3:Rdg X Z6 [3,0,0]:=⟨_,(@Zd _ _ _ _ _ (@YG _ _ _ _ (Wc fR ge gf Z9 (pv 2) (@Za _ _ _ _ _ (YC (Nc:=dU) (ix:=[none,some 0]) (ZX.of (by left:Yc (Zh Z6) Ux _ _ _=true)) rfl (Yn (K:=K) rfl (@Yd _ _ _ _ (@ZA _ _ _ _ _ Zl (@ZA _ _ _ _ _ Zl (@ZA _ _ _ _ _ Zl Zb rfl) rfl) rfl))) (fun _ _ _ _ _=>(Zz (i:=0) (show δ dU by left) rfl (.inl rfl))) (fun _ _ _ _ _=>(zx (@Zt _ _ _ _ _ _ _ _ YA (ZD T.aa (ZJ T hw) hr rfl rfl (@Za _ _ _ _ _ (pv 1) (@Za _ _ _ _ _ Zi Zb rfl) rfl)) Zi (ZB _)))) (fun _ _ _ _ _=>(pv 0))) Zb rfl)) rfl) d2.2)⟩
 let d4:Rdg X Z6 [4]:=⟨_,(@Zg _ _ _ (@Zm _ _ _ _ (Zed T.cy (vS T hw) (rmL hr rfl) rfl T.cH T.bu.n .nil Xs (@ZA _ _ _ _ _ (pv 2) (@ZA _ _ _ _ _ (pv 3) (@ZA _ _ _ _ _ (@Yd _ _ _ _ (@Za _ _ _ _ _ Zi Zb rfl)) (@ZA _ _ _ _ _ (@Yd _ _ _ _ Zb) Zb rfl) rfl) rfl) rfl))))⟩
 let d5:Rdg X Z6 [3]:=⟨_,(@Zd _ _ _ _ _ (Xv fP rfl (Xf rfl T.aQ (@Za _ _ _ _ _ (pv 1) Zb rfl)) (Zz (i:=4) Xh.nd rfl (.inl rfl)) d3.2) d4.2)⟩
 let d6:Rdg X Z6 [2]:=⟨_,(@Zd _ _ _ _ _ (@Zu _ _ (3) _ _ _ _ Xh.nd rfl (.inl rfl) (@Yd _ _ _ _ Zb) rfl (.inl rfl)) d5.2)⟩
 let d7:Rdg X Z6 [1]:=⟨_,(@Zd _ _ _ _ _ (@Zu _ _ (2) _ _ _ _ Xh.nd rfl (.inl rfl) (@Yd _ _ _ _ Zb) rfl (.inl rfl)) d6.2)⟩
 intro vs Q h;obtain⟨s,n,rfl,nB,hn,k⟩:=h;refine⟨_,(@Zd _ _ _ _ _ (@Zu _ _ (1) _ _ _ _ Xh.nd rfl (.inr rfl) (@ZO _ _ _ _ _ _ _ _ YY Zi (ZD T.aa (ZJ T hw) hr rfl rfl (@Za _ _ _ _ _ (pv 0) (@Za _ _ _ _ _ Zi Zb rfl) rfl))) rfl (.inl rfl)) d7.2),?_⟩;obtain⟨os,oO⟩:=nB.lst;refine⟨_,rfl,s,6,n,rfl,nB,by lia,by left,by left,fun H1 r x1 oQ hr=>⟨_,_,rfl,rfl,by left,fun SG Bg=>?_⟩⟩;have em:(1:Int)+(r:Nat)=((r+1:Nat):Int):=by lia
 rw[em];generalize t7:r+1=many;obtain⟨H2,qN,s2,FY⟩:=Yl (o:=.lst []) Bg;rw[qN];refine⟨by left,fun WY uK=>?_⟩;obtain⟨H3,qN,s3,Ga⟩:=Yl (o:=.lst []) uK;rw[qN];have x3:Zr s H H3:=x1.trans (Zf.x (s2.trans s3));have pO:=oQ.mono (s2.trans s3);obtain⟨o3,tF⟩:=pO.lst;have Bk:=s3 _ _ FY;have n1:SG≠s:=fun z=>by
  obtain⟨o1,nN⟩:=oQ.lst;rw[z,nN] at Bg;cases Bg
 have n2:WY≠s:=fun z=>by
  obtain⟨o1,nN⟩:=(oQ.mono s2).lst;rw[z,nN] at uK;cases uK
 have n3:SG≠WY:=fun z=>by rw[z] at FY;rw[FY] at uK;cases uK
 have DE:H SG=none:=by
  cases e:H SG with
  |none=>rfl
  |some o=>rw[x1 _ _ n1 e] at Bg;cases Bg
 have DV:H WY=none:=by
  cases e:H WY with
  |none=>rfl
  |some o=>rw[s2 _ _ (x1 _ _ n2 e)] at uK;cases uK
 refine⟨_,rfl,_,rfl,by lia,by lia,?_⟩
 let J1:Nat->L2.St->Hp->Prop:=fun i σ G=>Ex4 fun(z4 z5:Option V) (sg:List (Addr×50)) (wy:List (Addr×82))=>Cj5 (σ=[qr0 s,some (.int (many:Nat)),qr0 SG,qr0 WY,z4,z5]) (Zr s H G) (Wb G s (n+1+10*i)) (Mk H3 G SG WY many i sg wy) (∀b o,b≠s->b≠SG->b≠WY->H3 b=some o->G b=some o)
 refine XQ (J:=Itr 0 many) (n:=many) J1 ?_ (fun i σ H' hi _=>hi) (fun σ H' _=>eE _) ?_ ?_
 ·exact⟨_,_,[],[],rfl,x3,(by rw[Nat.mul_zero,Nat.add_zero];exact pO),⟨Bk,Ga,rfl,rfl,(fun e h=>by cases h),(fun e h=>by cases h)⟩,fun b o _ _ _ e=>e⟩
 ·rintro i x σ G0 G hi ⟨z4,z5,sg,wy,rfl,xG,tK,mk,kp⟩ ⟨rfl,rfl⟩;refine⟨_,rfl,.inl ⟨rfl,_,mZ mk.hs⟩,sz3,fun q hq=>?_⟩;obtain⟨G1,qN,u1,eq⟩:=Yl (o:=.lst [.str "p",.str "qq",.str "rab"]) hq;rw[qN];refine⟨q,rfl,⟨_,mZ eq⟩,fun D hD=>?_⟩;have nq:q≠s:=fun z=>by obtain⟨o1,nN⟩:=tK.lst;rw[z,nN] at hq;cases hq
  have sv:=tK.mono u1;have nD:D≠s:=fun z=>by obtain⟨o1,nN⟩:=sv.lst;rw[z,nN] at hD;cases hD
  refine Xx (J:=Itl K q) (n:=3) (fun j σ F=>∃(y:Option V) (ss:50),σ=[y,qr0 s]/\Zr s G1 F/\Wb F s (n+1+10*i+j)/\F D=some (.lst (ss.map V.str))/\ss.Sublist (nm3.take j)) ?_ ?_ ?_ ?_ ?_
  ·exact⟨_,[],rfl,Zf.x (Ze hD),sv.mono (Ze hD),Zc,List.nil_sublist _⟩
  ·rintro j σ F hj ⟨y,ss,rfl,xF,_⟩;exact⟨_,_,mZ (xF _ _ nq eq),eI (by exact hj)⟩
  ·rintro σ F ⟨y,ss,rfl,xF,_⟩;exact⟨_,mZ (xF _ _ nq eq),eE _⟩
  ·rintro j x σ F0 F hj ⟨y,ss,rfl,xF,wW,eD,sub⟩ ⟨rfl,hx⟩ N N0 hN rC;have ex:=hx _ (mZ (xF _ _ nq eq));have rF:x=.str nm3[j]:=by
    rcases(show j=0\/j=1\/j=2 by lia) with rfl|rfl|rfl<;>cases ex<;>rfl
   subst rF;refine⟨_,rfl,s,2,_,rfl,wW,by lia,by left,by left,fun F1 r' y1 HX tU=>⟨rfl,_,rfl,Vo (fun c=>⟨_,rfl,?_⟩) (fun c=>?_)⟩⟩
   ·have l1:ss.length<=3:=eW sub.length_le (by rw[fh];exact mo _ _);refine hN _ _ F1 _ (y1 _ _ nD eD) (by rw[eG,eJ];lia) ⟨_,ss++[nm3[j]],rfl,(xF.trans y1).updN hD,Wb.updN nD (by rw[<- Μ];exact HX),by rw[Zc,fo];rfl,?_⟩
    ·rw[l7,eI hj];exact sub.append (List.Sublist.refl _)
   ·refine rC _ _ ⟨_,ss,rfl,xF.trans y1,by rw[<- Μ];exact HX,y1 _ _ nD eD,?_⟩;rw[l7];exact sub.trans (List.sublist_append_left _ _)
  rintro σ F ⟨y,ss,rfl,xF,wW,eD,sub⟩;have wJ:=mk.step n1 n2 tF ((Zf.x u1).trans xF);have Mu:∀b o,b≠s->b≠SG->b≠WY->H3 b=some o->F b=some o:=fun b o a1 a2 a3 e=>xF _ _ a1 (u1 _ _ (kp b o a1 a2 a3 e));have Dy:D≠SG:=fun z=>by rw[z,u1 _ _ mk.hs] at hD;cases hD
  have MA:D≠WY:=fun z=>by rw[z,u1 _ _ mk.hw] at hD;cases hD
  have D0:H3 D=none:=by
   cases e:H3 D with
   |none=>rfl
   |some o=>rw[u1 _ _ (kp D o nD Dy MA e)] at hD;cases hD
  have IN:Zr s H F:=xG.trans ((Zf.x u1).trans xF);have Fp:ss.length<=3:=eW sub.length_le (by rw[fh];exact mo _ _);refine⟨SG,_,_,rfl,rfl,wJ.hs,by rw[eG,wJ.ls,eJ];lia,?_⟩;obtain⟨F2,qN⟩:∃F2,upd F SG (.lst ((sg.map fun e=>V.ref e.1)++[.ref D]))=F2:=⟨_,rfl⟩;have Es:Zr s H F2:=by rw[<- qN];exact IN.updN DE
  have FV:Wb F2 s (n+1+10*i+3):=by rw[<- qN];exact Wb.updN n1 wW
  have rh:F2 SG=some (.lst ((sg++[(D,ss)]).map fun e=>V.ref e.1)):=by rw[<- qN,Zc,fo];rfl
  have wQ:∀b o,b≠SG->F b=some o->F2 b=some o:=fun b o n e=>by rw[<- qN,Zo n];exact e
  have A6:∀b o,b≠s->b≠SG->b≠WY->H3 b=some o->F2 b=some o:=fun b o a1 a2 a3 e=>wQ _ _ a2 (Mu b o a1 a2 a3 e);have EZ:F2 WY=some (.lst (wy.map fun e=>V.ref e.1)):=wQ _ _ (eX n3) wJ.hw;have Ge:∀{b:Addr},H3 b=none->b≠SG:=fun h z=>by rw[z,Bk] at h;cases h
  have Ms:∀{b:Addr},H3 b=none->b≠WY:=fun h z=>by rw[z,Ga] at h;cases h
  have nS:∀{b:Addr},H3 b=none->b≠s:=fun h z=>by rw[z,tF] at h;cases h
  have rD:∀e∈sg++[(D,ss)],H3 e.1=none/\F2 e.1=some (.lst (e.2.map V.str))/\e.2.Nodup/\(∀x∈e.2,x∈nm3)/\e.2.length<=3:=fun e he=>by
   rcases fj.mp he with he|he
   ·obtain⟨a1,a2,a3⟩:=wJ.es e he;exact⟨a1,wQ _ _ (Ge a1) a2,a3⟩
   ·rw[eZ] at he;subst he;exact⟨D0,wQ _ _ Dy eD,sub.nodup ((Δ _ _).nodup Zf5),fun x hx=>(Δ _ _).subset (sub.subset hx),Fp⟩
  have Nz:∀e∈wy,H3 e.1=none/\F2 e.1=some (.lst (e.2.map V.int))/\e.2.Nodup/\e.2≠[]/\(∀x∈e.2,0<=x/\x<(many:Nat))/\e.2.length<=3:=fun e he=>by
   obtain⟨a1,a2,a3⟩:=wJ.ew e he;exact⟨a1,wQ _ _ (Ge a1) a2,a3⟩
  rw[qN];have MO:(sg++[(D,ss)]).length=i+1:=by rw[eK,mk.ls];rfl
  have Gw:=mk.lw;generalize sg++[(D,ss)]=Ot at rh rD MO;clear qN wQ Mu Dy MA D0 wJ Fp xF IN wW eD sub sv mk;refine⟨_,rfl,s,3,_,rfl,FV,by lia,by left,by left,fun F3 r3 y3 sd Fu=>⟨_,_,rfl,rfl,_,rfl,by lia,by lia,fun D2 oz=>?_⟩⟩;have e3:((1:Int)+(r3:Nat)).toNat=r3+1:=by lia
  rw[e3];have Do:D2≠s:=fun z=>by obtain⟨o1,nN⟩:=sd.lst;rw[z,nN] at oz;cases oz
  refine Xx (J:=Itr 0 (r3+1)) (n:=r3+1) (fun j σ F=>∃(y:Option V) (ns:82),σ=[y,qr0 s,some (.int (many:Nat))]/\Zr s F3 F/\Wb F s (n+1+10*i+4+j)/\F D2=some (.lst (ns.map V.int))/\ns.length=j/\∀x∈ns,0<=x/\x<(many:Nat)) ?_ (fun _ _ _ h _=>h) (fun _ _ _=>eE _) ?_ ?_
  ·exact⟨_,[],rfl,Zf.x (Ze oz),sd.mono (Ze oz),Zc,rfl,fun x h=>by cases h⟩
  ·rintro j x σ F0 F4 hj ⟨y,ns,rfl,Aq,tV,Ed,ln,hb⟩ ⟨rfl,rfl⟩ N N0 hN rC;refine UV (te:=Zb1 (qo K a) [] E0 (xC (kc 1) (xC (kc 2) kE))) (σ:=[some (.int (0+(j:Nat))),qr0 s,some (.int (many:Nat))]) (H:=F4) (N:=fun v H5=>N v [some (.int (0+(j:Nat))),qr0 s,some (.int (many:Nat))] H5) (N0:=fun H4=>N0 [some (.int (0+(j:Nat))),qr0 s,some (.int (many:Nat))] H4) ?_;refine⟨_,rfl,_,rfl,s,many,_,rfl,tV,by lia,by lia,by lia,fun F5 v y5 rE hv=>?_⟩;refine hN _ _ F5 _ (y5 _ _ Do Ed) (by rw[eG,ln,eJ];lia) ⟨_,ns++[(v:Int)],rfl,(Aq.trans y5).updN oz,Wb.updN Do (by rw[<- Μ];exact rE),by rw[Zc,fo];rfl,by rw[eK,ln];rfl,fun x hx=>?_⟩;rcases fj.mp hx with hx|hx
   ·exact hb x hx
   ·rw[eZ] at hx;subst hx;lia
  rintro σ F4 ⟨y,ns,rfl,Aq,tV,Ed,ln,hb⟩;have AH:Zr s F2 F4:=y3.trans Aq;refine⟨_,rfl,.inl ⟨rfl,_,mZ (AH _ _ n2 EZ)⟩,_,rfl,D2,ns,rfl,mZ Ed,by lia,fun S hS=>?_⟩;obtain⟨F5,qN,u5,eS⟩:=Yl (o:=SzO a.Pm S ns) hS;rw[qN];refine⟨S,ns,rfl,eS,by lia,fun L us hL nd pW HY nM=>?_⟩;obtain⟨F6,qN,u6,eL⟩:=Yl (o:=.lst (us.map V.int)) hL;rw[qN];have wY:Zr s F2 F6:=AH.trans (Zf.x (u5.trans u6));have Dq:=tV.mono (u5.trans u6);have FA:=wY _ _ n2 EZ;have nL:L≠s:=fun z=>by obtain⟨o1,nN⟩:=(tV.mono u5).lst;rw[z,nN] at hL;cases hL
  have uQ:L≠SG:=fun z=>by rw[z,u5 _ _ (AH _ _ n1 rh)] at hL;cases hL
  have LG:L≠WY:=fun z=>by rw[z,u5 _ _ (AH _ _ n2 EZ)] at hL;cases hL
  have L0:H3 L=none:=by
   cases e:H3 L with
   |none=>rfl
   |some o=>rw[u5 _ _ (AH _ _ nL (A6 L o nL uQ LG e))] at hL;cases hL
  refine⟨WY,_,_,rfl,rfl,FA,by rw[eG,Gw,eJ];lia,?_⟩;refine⟨_,_,Ot,wy++[(L,us)],rfl,(Es.trans wY).updN DV,Wb.updN n2 (Dq.le 21),⟨by rw[Zo n3];exact wY _ _ n1 rh,by rw[Zc,fo];rfl,MO,by rw[eK,Gw];rfl,fun e he=>?_,fun e he=>?_⟩,fun b o a1 a2 a3 e=>by rw[Zo a3];exact wY _ _ a1 (A6 b o a1 a2 a3 e)⟩
  ·obtain⟨a1,a2,a3⟩:=rD e he;exact⟨a1,by rw[Zo (Ms a1)];exact wY _ _ (nS a1) a2,a3⟩
  ·rcases fj.mp he with he|he
   ·obtain⟨a1,a2,a3⟩:=Nz e he;exact⟨a1,by rw[Zo (Ms a1)];exact wY _ _ (nS a1) a2,a3⟩
   ·rw[eZ] at he;subst he;refine⟨L0,by rw[Zo LG];exact eL,nd,nM (fun z=>by rw[z] at ln;cases ln),fun x hx=>hb x (pW x hx),by show us.length<=3;lia⟩
 rintro σ G ⟨z4,z5,sg,wy,rfl,xG,tK,mk,kp⟩;refine⟨_,rfl,_,rfl,sz1,fun L3 Cw=>?_⟩;obtain⟨G1,qN,u1,e3⟩:=Yl (o:=.lst [.int 0]) Cw;rw[qN];refine⟨by left,fun L4 Ts=>?_⟩;obtain⟨G2,qN,u2,e4⟩:=Yl (o:=.lst []) Ts;rw[qN];have wD:=u1.trans u2;intro o dw no Su rJ;have sm:Zf G2 (upd (upd G2 dw (.own o)) o (.ins a.C_World dw [])):=(Ze Su).trans (Ze (by rw[Zo (eX rJ)];exact no));have ul:=mk.step n1 n2 tF (Zf.x wD);have pp:WH G2 (.ref SG) (.ref WY) (.ref L3) (.ref L4) ⟨sg.map η,wy.map η,[0],[]⟩:=by
  refine⟨⟨SG,_,rfl,ul.hs,by rw[eG,eG],fun i v x h1 h2=>?_⟩,⟨WY,_,rfl,ul.hw,by rw[eG,eG],fun i v x h1 h2=>?_⟩,⟨L3,rfl,u2 _ _ e3⟩,⟨L4,rfl,e4⟩⟩
  ·rw[eO] at h1 h2;obtain⟨e,g1,rfl⟩:=gZ.mp h1;rw[g1] at h2;cases h2;exact⟨_,rfl,(ul.es e (fz g1)).2.1⟩
  ·rw[eO] at h1 h2;obtain⟨e,g1,rfl⟩:=gZ.mp h1;rw[g1] at h2;cases h2;exact⟨_,rfl,(ul.ew e (fz g1)).2.1⟩
 have ld:(sg.map η).length=many:=by rw[eG,ul.ls]
 have gd:ZbN ⟨sg.map η,wy.map η,[0],[]⟩:=by
  refine⟨by rw[ld];lia,by rw[ld];lia,by rw[ld,eG,ul.lw],fun ss hs=>?_,fun ns hs=>?_,⟨(by left:[(0:Int)].Nodup),(by left:[(0:Int)]≠[]),fun x hx=>?_,(by left:[(0:Int)].length<=20)⟩,⟨List.nodup_nil,(fun x hx=>by cases hx),fu _⟩⟩
  ·obtain⟨e,he,rfl⟩:=eV.mp hs;obtain⟨_,_,a3,a4,a5⟩:=ul.es e he;exact⟨a3,fun x hx=>ZcC x (a4 x hx),by lia⟩
  ·obtain⟨e,he,rfl⟩:=eV.mp hs;obtain⟨_,_,a3,a4,a5,a6⟩:=ul.ew e he;exact⟨a3,a4,fun x hx=>by rw[ld];exact a5 x hx,by lia⟩
  ·rw[eZ] at hx;subst hx;rw[ld];lia
 exact⟨o,dw,_,_,_,_,_,rfl,Zc,pp.mono sm,gd,fun H5 x5 wa=>⟨rfl,k _ o _ (fun b u nb e=>x5 b u (ZC (wD _ _ (xG _ _ nb e)) no) (sm b u (wD _ _ (xG _ _ nb e)))) wa gd (by rw[ld];lia)⟩⟩
theorem ZdT(h:c=.yes\/∃z,c=.sign z):wgt (.node c [])=1:=by
 rcases h with rfl|⟨z,rfl⟩<;>rfl
theorem Zeb(w:Str)(ks:67):wgt (.node (.op w) ks)=(ks.map wgt).sum+36:=Jc (by intro z;cases z) (by intro y z;cases z)
theorem ZfB(m:Int)(ks:67):wgt (.node (.wit m) ks)=(ks.map wgt).sum+36:=Jc (by intro z;cases z) (by intro y z;cases z)
theorem KW(w:Str)(ks:67):wgt (.node (.many w) ks)=(ks.map wgt).sum+36:=Jc (by intro z;cases z) (by intro y z;cases z)
def jw:50:=["not","next","always","ever","before","once","sofar"]
def NoQ(t:Tr):Prop:=∀s∈post t,s.lb≠.op "some" /\ s.lb≠.op "all"
theorem NoQ.node{c:Lb}{ks:67}(hc:c≠.op "some" /\ c≠.op "all")(hk:∀k∈ks,NoQ k):NoQ (.node c ks):=fun s hs=>by
 rw[Ui,fj] at hs;rcases hs with hs|hs
 ·obtain⟨k,FQ,hs⟩:=zX hs;exact hk k FQ s hs
 ·rw[eZ.mp hs];exact hc
theorem Zb4(h:i<7):∃w,atI (jw.map V.str) (i:Int)=some (.str w)/\w∈W1/\(Lb.op w≠.op "some" /\ Lb.op w≠.op "all"):=by
 have e:(jw.map V.str)[i]?=some (.str jw[i]):=by rw[eO,eI h];rfl
 have:∀w∈jw,w∈W1/\w ≠ "some" /\ w ≠ "all" := by left
 obtain⟨a,b,c⟩:=this _ (fv h);exact⟨jw[i],Zj e,a,fun z=>b (Lb.op.inj z),fun z=>c (Lb.op.inj z)⟩
theorem ZdD(h:i<3):∃z,atI (nm3.map V.str) (i:Int)=some (.str z)/\z∈nm3:=
 ⟨nm3[i],Zj (by rw[eO,eI h];rfl),fv h⟩
theorem ZcV{t u:TT}{σ:L2.St}{b c:Bool}(ht:∀Q:Bool->Hp->Prop,Q b H->t σ H Q)(hu:∀Q:Bool->Hp->Prop,Q c H->u σ H Q)(Q:Bool->Hp->Prop)(q:Q (b&&c) H):Zbm t u σ H Q:=by
 refine ht _ ?_;cases b with
 |true=>exact YD (hu _ q)
 |false=>exact Z4 q
theorem Zek{t u:TT}{σ:L2.St}{b c:Bool}(ht:∀Q:Bool->Hp->Prop,Q b H->t σ H Q)(hu:∀Q:Bool->Hp->Prop,Q c H->u σ H Q)(Q:Bool->Hp->Prop)(q:Q (b||c) H):tOr t u σ H Q:=by
 refine ht _ ?_;cases b with
 |true=>exact YD q
 |false=>exact Z4 (hu _ q)
theorem ZfX{t u:TT}{A B C:L2.TS}{D}{σ:L2.St}{b c:Bool}(ht:∀Q:Bool->Hp->Prop,Q b H->t σ H Q)(hu:∀Q:Bool->Hp->Prop,Q c H->u σ H Q)(q:if(b||c)=true then A { D with nx:=C D } σ H else B { D with nx:=C D } σ H):xZ (k4 (tOr t u) A B) C D σ H:=Zek ht hu _ q
theorem Zem{t u:TT}{A B C:L2.TS}{D}{σ:L2.St}{b c:Bool}(ht:∀Q:Bool->Hp->Prop,Q b H->t σ H Q)(hu:∀Q:Bool->Hp->Prop,Q c H->u σ H Q)(q:if(b&&c)=true then A { D with nx:=C D } σ H else B { D with nx:=C D } σ H):xZ (k4 (Zbm t u) A B) C D σ H:=ZcV ht hu _ q
def VQ(n:Nat)(K:W.Frag)(a:Adr):Sp:=fun vs H Q _=>Ex3 fun(s:Addr) (m d:Nat)=>Cj6 (vs=[.ref s,.int (d:Nat)]) (d<n) (d<=3) (Wb H s m) (m+5 ^ (d+1)<=5000) (∀H' v t,Zr s H H'->Wb H' s (m+5 ^ (d+1))->At K (d+1) H' v t->wgt t+36<=37*2 ^ d->(post t).length<=3 ^ (d+1)->NoQ t->Yv (ZH t)<=3*d->Q v H')
theorem VS{a:Adr}{Q:VK}{E:XK}(h:VQ 0 K a vs H Q E):False:=by
 obtain⟨_,_,d,_,hm,_⟩:=h;lia
theorem zW{a:Adr}(T:Txt K mg a)(hw:w.params=a.Pm):∀n:Nat,WK P w K mg base CX0 (2+n) a.y49 a.z49 ["_law_state_here","_law_deep"] (VQ n K a):=by
 intro n
 induction n with
 |zero=>exact⟨fun _ _ _ _ h=>(VS h).elim,fun _ _ _ _ _ _ _ _ _ _ _ _ _ h=>(VS h).elim⟩
 |succ n aB=>
  refine T.ab.f.ok XA (fun vs H Q E h=>?_) (73)
  ·obtain⟨s,m,d,rfl,_⟩:=h;rfl
  ·obtain⟨s,m,d,rfl,hd,d3,nB,hm,k⟩:=h;refine⟨_,(@Zd _ _ _ _ _ (@Zu _ _ (2) _ _ _ _ XA.nd rfl (.inl rfl) (WN (ZJ T hw) (hr.mono (show _<=2+n by lia)) rfl T.aa.g T.aa.f.kp T.aa.n .nil Xs (@Za _ _ _ _ _ (pv 0) (@Za _ _ _ _ _ Zi Zb rfl) rfl)) rfl (.inl rfl)) (@Zd _ _ _ _ _ (@ZQ _ _ _ _ _ _ _ _ (PW.pt (UD (@Zt _ _ _ _ _ _ _ _ YA (pv 1) Zi (ZB _)) (Vk (@Zt _ _ _ _ _ _ _ _ xJ (pv 2) Zi (ZB _))))) (@Zd _ _ _ _ _ (@ZQ _ _ _ _ _ _ _ _ (@Zt _ _ _ _ _ _ _ _ YA (WN (ZJ T hw) (hr.mono (show _<=2+n by lia)) rfl T.aa.g T.aa.f.kp T.aa.n .nil Xs (@Za _ _ _ _ _ (pv 0) (@Za _ _ _ _ _ Zi Zb rfl) rfl)) Zi (ZB _)) (@Zg _ _ _ (@Zm _ _ _ _ (@ZI _ _ _ _ _ (@Za _ _ _ _ _ Zl Zb rfl)))) Zx) (@Zg _ _ _ (@Zm _ _ _ _ (@ZI _ _ _ _ _ (@Za _ _ _ _ _ Zl (@Za _ _ _ _ _ (@Zq _ _ _ _ _ _ _ 54 (@Yd _ _ _ _ (@ZA _ _ _ _ _ Zl (@ZA _ _ _ _ _ Zl (@ZA _ _ _ _ _ Zl Zb rfl) rfl) rfl)) (WN (ZJ T hw) (hr.mono (show _<=2+n by lia)) rfl T.aa.g T.aa.f.kp T.aa.n .nil Xs (@Za _ _ _ _ _ (pv 0) (@Za _ _ _ _ _ Zi Zb rfl) rfl)) (fun _ _=>rfl)) Zb rfl) rfl))))) Zx) (@Zd _ _ _ _ _ (@Zu _ _ (3) _ _ _ _ XA.nd rfl (.inl rfl) (WN aB hr rfl T.ab.g T.ab.f.kp T.ab.n .nil Xs (@Za _ _ _ _ _ (pv 0) (@Za _ _ _ _ _ (@ZO _ _ _ _ _ _ _ _ VH (pv 1) Zi) Zb rfl) rfl)) rfl (.inl rfl)) (@Zd _ _ _ _ _ (@ZQ _ _ _ _ _ _ _ _ (@Zt _ _ _ _ _ _ _ _ xJ (pv 2) Zi (ZB _)) (@Zg _ _ _ (@Zm _ _ _ _ (@ZI _ _ _ _ _ (@Za _ _ _ _ _ (@Zq _ _ _ _ _ _ _ 54 (@Yd _ _ _ _ (@ZA _ _ _ _ _ Zl (@ZA _ _ _ _ _ Zl (@ZA _ _ _ _ _ Zl (@ZA _ _ _ _ _ Zl (@ZA _ _ _ _ _ Zl (@ZA _ _ _ _ _ Zl (@ZA _ _ _ _ _ Zl Zb rfl) rfl) rfl) rfl) rfl) rfl) rfl)) (@ZO _ _ _ _ _ _ _ _ VH (pv 2) Zi) (fun _ _=>rfl)) (@Za _ _ _ _ _ (pv 3) Zb rfl) rfl)))) Zx) (@Zd _ _ _ _ _ (@Zu _ _ (4) _ _ _ _ XA.nd rfl (.inl rfl) (WN aB hr rfl T.ab.g T.ab.f.kp T.ab.n .nil Xs (@Za _ _ _ _ _ (pv 0) (@Za _ _ _ _ _ (@ZO _ _ _ _ _ _ _ _ VH (pv 1) Zi) Zb rfl) rfl)) rfl (.inl rfl)) (@Zd _ _ _ _ _ (@ZQ _ _ _ _ _ _ _ _ (@Zt _ _ _ _ _ _ _ _ xJ (pv 2) Zi (ZB _)) (@Zg _ _ _ (@Zm _ _ _ _ (@ZI _ _ _ _ _ (@Za _ _ _ _ _ (@Zq _ _ _ _ _ _ _ 54 (@Yd _ _ _ _ (@Za _ _ _ _ _ Zl (@Za _ _ _ _ _ Zl Zb rfl) rfl)) (@ZO _ _ _ _ _ _ _ _ UK (pv 2) Zi) (fun _ _=>rfl)) (@Za _ _ _ _ _ (@ZI _ _ _ _ _ (@Za _ _ _ _ _ (pv 3) (@Za _ _ _ _ _ (pv 4) Zb rfl) rfl)) Zb rfl) rfl)))) Zx) (@Zd _ _ _ _ _ (@ZQ _ _ _ _ _ _ _ _ (PW.pt (kf (@Zt _ _ _ _ _ _ _ _ xJ (pv 2) Zi (ZB _)) (yK (@Zt _ _ _ _ _ _ _ _ YA (pv 1) Zi (ZB _))))) (@Zg _ _ _ (@Zm _ _ _ _ (@ZI _ _ _ _ _ (@ZA _ _ _ _ _ Zl (@ZA _ _ _ _ _ (WN (ZJ T hw) (hr.mono (show _<=2+n by lia)) rfl T.aa.g T.aa.f.kp T.aa.n .nil Xs (@Za _ _ _ _ _ (pv 0) (@Za _ _ _ _ _ Zi Zb rfl) rfl)) (@ZA _ _ _ _ _ (pv 3) (@ZA _ _ _ _ _ (pv 4) Zb rfl) rfl) rfl) rfl)))) Zx) (@Zg _ _ _ (@Zm _ _ _ _ (@ZI _ _ _ _ _ (@ZA _ _ _ _ _ (@Zq _ _ _ _ _ _ _ 54 (@Yd _ _ _ _ (@Za _ _ _ _ _ Zl (@Za _ _ _ _ _ Zl Zb rfl) rfl)) (@ZO _ _ _ _ _ _ _ _ UK (pv 2) Zi) (fun _ _=>rfl)) (@ZA _ _ _ _ _ (pv 3) (@ZA _ _ _ _ _ (pv 4) Zb rfl) rfl) rfl))))))))))),?_⟩;have p5:5<=5 ^ (d+1):=by rw[mf];have:=mh d 5 48;lia
   refine⟨_,rfl,s,18,m,rfl,nB,by lia,by left,by left,fun H1 fk x1 oQ hfk=>?_⟩;dsimp only[WA,Zal]
   show xZ (k4 (tOr _ _) _ _) _ _ [qr0 s,some (.int (d:Nat)),some (.int (fk:Nat)),none,none] H1
   refine ZfX (b:=decide (V.int (d:Nat)=V.int 0)) (c:=decide (((fk:Nat):Int)<3)) ?_ ?_ ?_
   ·exact fun Q q=>⟨_,rfl,rfl,_,rfl,q⟩
   ·exact fun Q q=>⟨_,rfl,_,_,rfl,rfl,_,rfl,q⟩
   refine Vo (fun c=>?_) (fun c=>?_)
   ·-- a leaf
    have pw:1<=2 ^ d:=mh _ _ 48;have Lu:1<=3 ^ (d+1):=mh _ _ 48;refine⟨_,rfl,s,5,_,rfl,oQ,by lia,by left,by left,fun H2 r x2 oE hr=>⟨rfl,_,rfl,Vo (fun c=>?_) (fun c=>?_)⟩⟩
    ·refine⟨sz1,fun t ht=>?_⟩;obtain⟨H3,qN,u3,e3⟩:=Yl (o:=.tup [.str "yes"]) ht;rw[qN];exact k H3 _ (.node .yes []) ((x1.trans x2).trans (Zf.x u3)) ((oE.mono u3).le 21) (UT (m6 e3)) (by rw[ZdT (.inl rfl)];lia) (by rw[V8];exact Lu) (NoQ.node ⟨nofun,nofun⟩ fun k hk=>by cases hk) (eW (VY (m:=0) (c:=.yes) (ks:=[]) fun k hk=>by cases hk) (fu _))
    ·refine⟨sz3,fun L hL=>?_⟩;obtain⟨H3,qN,u3,e3⟩:=Yl (o:=.lst (nm3.map V.str)) hL;have An:upd H2 L (.lst [.str "p",.str "qq",.str "rab"])=H3:=qN;rw[An];clear qN An;have nL:L≠s:=fun z=>by obtain⟨o1,nN⟩:=oE.lst;rw[z,nN] at hL;cases hL
     refine⟨_,rfl,s,3,_,rfl,oE.mono u3,by lia,by left,by left,fun H4 v x4 rM hv=>?_⟩;obtain⟨z,hz,mz⟩:=ZdD hv;refine⟨L,_,_,.str z,rfl,rfl,mZ (x4 _ _ nL e3),hz,sz2,fun t ht=>?_⟩;obtain⟨H5,qN,u5,e5⟩:=Yl (o:=.tup [.str "sign",.str z]) ht;rw[qN];exact k H5 _ (.node (.sign z) []) ((x1.trans x2).trans ((Zf.x u3).trans (x4.trans (Zf.x u5)))) ((rM.mono u5).le 21) (Zaj (m6 e5) (ZcC z mz)) (by rw[ZdT (.inr ⟨_,rfl⟩)];lia) (by rw[V8];exact Lu) (NoQ.node ⟨nofun,nofun⟩ fun k hk=>by cases hk) (eW (VY (m:=0) (c:=.sign z) (ks:=[]) fun k hk=>by cases hk) (fu _))
   have hc:¬(d=0)/\¬(fk<3):=by
    refine⟨fun z=>c ?_,fun z=>c ?_⟩
    ·subst z;rfl
    ·rw[iQ];exact .inr (fQ 21)
   obtain⟨Mb,EG⟩:=hc;obtain⟨e,rfl⟩:∃e,d=e+1:=⟨d-1,by lia⟩;have q1:5 ^ (e+1+1)=5 ^ (e+1)*5:=mf ..;have q2:2 ^ (e+1)=2 ^ e*2:=mf ..;have q3:3 ^ (e+1+1)=3 ^ (e+1)*3:=mf ..;have q4:5<=5 ^ (e+1):=by rw[mf];have:=mh e 5 48;lia
   have q5:1<=3 ^ (e+1):=mh _ _ 48;have ed:((e+1:Nat):Int)-1=((e:Nat):Int):=by lia
   refine⟨_,rfl,_,rfl,_,_,rfl,rfl,s,m+1,e,by rw[ed];rfl,by lia,by lia,oQ,by lia,fun H2 v1 t1 x2 oE rq LJ Il GF CZ=>?_⟩;have Hq:Zr s H H2:=x1.trans x2;refine⟨_,rfl,_,_,rfl,rfl,_,rfl,Vo (fun c=>?_) (fun c=>?_)⟩
   ·-- one in it
    have c1:((fk:Nat):Int)<10:=fA c;refine⟨sz7,fun L hL=>?_⟩;obtain⟨H3,qN,u3,e3⟩:=Yl (o:=.lst (jw.map V.str)) hL;have An:upd H2 L (.lst [.str "not",.str "next",.str "always",.str "ever",.str "before",.str "once",.str "sofar"])=H3:=qN;rw[An];clear qN An;obtain⟨w,hw,uW,No⟩:=Zb4 (i:=fk-3) 21;have ef:((fk:Nat):Int)-3=((fk-3:Nat):Int):=by lia
    refine⟨_,rfl,_,_,rfl,rfl,L,_,_,.str w,rfl,rfl,mZ e3,by rw[ef];exact hw,_,rfl,sz2,fun t ht=>?_⟩;obtain⟨H4,qN,u4,e4⟩:=Yl (o:=.tup [.str w,v1]) ht;rw[qN];exact k H4 _ (.node (.op w) [t1]) (Hq.trans (Zf.x (u3.trans u4))) ((oE.mono (u3.trans u4)).le 21) (X2 (m6 e4) uW (rq.mono (m5 (u3.trans u4)))) (by rw[Zeb];simp;lia) (by rw[V8,XX];lia) (NoQ.node No fun k hk=>by rw[eZ] at hk;subst hk;exact GF) (eW (VY (m:=3*e) (c:=.op w) (ks:=[t1]) fun k hk=>by rw[eZ] at hk;subst hk;exact CZ) (by simp[lkW];lia))
   refine⟨_,rfl,_,rfl,_,_,rfl,rfl,s,m+1+5 ^ (e+1),e,by rw[ed];rfl,by lia,by lia,oE,by lia,fun H4 v2 t2 x4 rM ox Ix Mw PX DW=>?_⟩;have DD:=Hq.trans x4;obtain⟨o3,tF⟩:=oE.lst;have AK:=rq.mono (Zr.tup x4 tF);have s2:∀c:Lb,(post (.node c [t1,t2])).length<=3 ^ (e+1+1):=fun c=>by
    rw[V8,show[t1,t2]=[t1]++[t2] from rfl,VR,XX,XX,eK];lia
   have fw:∀c:Lb,(c≠.op "some" /\ c≠.op "all")->NoQ (.node c [t1,t2]):=fun c h=>NoQ.node h fun k hk=>by
    rcases eU.mp hk with rfl|hk
    ·exact GF
    ·rw[eZ] at hk;subst hk;exact PX
   have wj:∀k∈[t1,t2],Yv (ZH k)<=3*e:=fun k hk=>by
    rcases eU.mp hk with rfl|hk
    ·exact CZ
    ·rw[eZ] at hk;subst hk;exact DW
   have ws:([t1,t2].map wgt).sum=wgt t1+wgt t2:=by simp
   refine⟨_,rfl,_,_,rfl,rfl,_,rfl,Vo (fun c=>?_) (fun c=>?_)⟩
   ·-- and,or
    refine⟨sz2,fun L2 AQ=>?_⟩;obtain⟨H5,qN,u5,e5⟩:=Yl (o:=.lst [.str "and",.str "or"]) AQ;rw[qN];obtain⟨w,hw,Ek⟩:∃w:Str,atI [V.str "and",.str "or"] (((fk:Nat):Int)%2)=some (.str w)/\(w = "and" \/ w = "or"):=by
     rcases(show((fk:Nat):Int)%2=0\/((fk:Nat):Int)%2=1 by lia) with z|z
     ·rw[z];exact⟨_,rfl,.inl rfl⟩
     ·rw[z];exact⟨_,rfl,.inr rfl⟩
    refine⟨_,rfl,_,_,rfl,rfl,by left,L2,_,_,.str w,rfl,rfl,mZ e5,hw,_,rfl,_,rfl,sz2,fun b hb=>?_⟩;obtain⟨H6,qN,u6,e6⟩:=Yl (o:=.tup [v1,v2]) hb;rw[qN];refine⟨sz2,fun t ht=>?_⟩;obtain⟨H7,qN,u7,e7⟩:=Yl (o:=.tup [.str w,.ref b]) ht;rw[qN];have Dj:=u5.trans (u6.trans u7);have aL:AtL K (e+1) H7 [v1,v2] [t1,t2]:=(AtL.one (AK.mono (m5 Dj))).app (AtL.one (ox.mono (m5 Dj)));exact k H7 _ (.node (.many w) [t1,t2]) (DD.trans (Zf.x Dj)) ((rM.mono Dj).le 21) (xO (m6 e7) (m6 (u7 _ _ e6)) aL (by rcases Ek with rfl|rfl;exact .inl rfl;exact .inr rfl) (show 2<=8 by left)) (by rw[KW,ws];lia) (s2 _) (fw _ ⟨nofun,nofun⟩) (eW (VY (m:=3*e) (c:=(.many w)) (ks:=[t1,t2]) wj) (by simp[lkW];lia))
   dsimp only[WA,Zal]
   show xZ (k4 (Zbm _ _) _ _) _ _ [qr0 s,some (.int ((e+1:Nat):Int)),some (.int (fk:Nat)),some v1,some v2] H4
   refine Zem (b:=decide (((fk:Nat):Int)<14)) (c:=decide (V.int ((e+1:Nat):Int)=V.int 1)) ?_ ?_ ?_
   ·exact fun Q q=>⟨_,rfl,_,_,rfl,rfl,_,rfl,q⟩
   ·exact fun Q q=>⟨_,rfl,rfl,_,rfl,q⟩
   refine Vo (fun c=>?_) (fun c=>?_)
   ·-- within
    refine⟨_,rfl,s,4,_,rfl,rM,by lia,by left,by left,fun H5 r x5 rE hr=>⟨_,rfl,_,rfl,sz4,fun t ht=>?_⟩⟩;obtain⟨H6,qN,u6,e6⟩:=Yl (o:=.tup [.str "within",.int (r:Nat),v1,v2]) ht;rw[qN];obtain⟨o4,OC⟩:=rM.lst;have AZ:=(Zr.tup x5 OC).trans (m5 u6);exact k H6 _ (.node (.wit (r:Nat)) [t1,t2]) (DD.trans (x5.trans (Zf.x u6))) ((rE.mono u6).le 21) (ZcL (m6 e6) ⟨by lia,by lia⟩ (AK.mono AZ) (ox.mono AZ)) (by rw[ZfB,ws];lia) (s2 _) (fw _ ⟨nofun,nofun⟩) (eW (VY (m:=3*e) (c:=(.wit (r:Nat))) (ks:=[t1,t2]) wj) (by simp[lkW];lia))
   refine⟨sz2,fun L2 AQ=>?_⟩;obtain⟨H5,qN,u5,e5⟩:=Yl (o:=.lst [.str "until",.str "since"]) AQ;rw[qN];obtain⟨w,hw,Ek,Rs⟩:∃w:Str,atI [V.str "until",.str "since"] (((fk:Nat):Int)%2)=some (.str w)/\w∈W2/\(Lb.op w≠.op "some" /\ Lb.op w≠.op "all"):=by
    have hu:("until" : Str)∈W2/\("since" : Str)∈W2/\("until" : Str) ≠ "some" /\ ("until" : Str) ≠ "all" /\ ("since" : Str) ≠ "some" /\ ("since" : Str) ≠ "all" := by left
    obtain⟨h1,h2,h3,h4,h5,h6⟩:=hu;rcases(show((fk:Nat):Int)%2=0\/((fk:Nat):Int)%2=1 by lia) with z|z
    ·rw[z];exact⟨_,rfl,h1,fun z=>h3 (Lb.op.inj z),fun z=>h4 (Lb.op.inj z)⟩
    ·rw[z];exact⟨_,rfl,h2,fun z=>h5 (Lb.op.inj z),fun z=>h6 (Lb.op.inj z)⟩
   refine⟨_,rfl,_,_,rfl,rfl,by left,L2,_,_,.str w,rfl,rfl,mZ e5,hw,_,rfl,_,rfl,sz3,fun t ht=>?_⟩;obtain⟨H6,qN,u6,e6⟩:=Yl (o:=.tup [.str w,v1,v2]) ht;rw[qN];have Cu:=u5.trans u6;exact k H6 _ (.node (.op w) [t1,t2]) (DD.trans (Zf.x Cu)) ((rM.mono Cu).le 21) (yd (m6 e6) Ek (AK.mono (m5 Cu)) (ox.mono (m5 Cu))) (by rw[Zeb,ws];lia) (s2 _) (fw _ Rs) (eW (VY (m:=3*e) (c:=(.op w)) (ks:=[t1,t2]) wj) (by simp[lkW];lia))
theorem again{rs:82}{M:Nat}(h:∀x∈rs,0<=x/\x<(M:Nat))(l:M<rs.length):∃(k:Nat) (hk:k<rs.length),1<=k/\rs[k]∈rs.take k:=by
 apply Classical.byContradiction;intro DU;have nd:rs.Nodup:=by
  unfold δ;rw[iY];intro i j hi hj wL e;refine DU ⟨j,hj,by lia,?_⟩;rw[<- e];exact List.mem_iff_getElem.mpr ⟨i,by rw[fh];lia,lK⟩
 have:=jY nd h;lia
theorem ZaW(xs:List V)(h:i<=j)(hj:j<=xs.length):X9 xs (some (i:Int)) (some (j:Int))=(xs.drop i).take (j-i):=by
 unfold X9;rw[HT.sIx_nat,HT.sIx_nat,iT hj,iT 21]
def Jz(K:W.Frag)(a:Adr):Sp:=fun vs H Q _=>Ex4 fun(s w:Addr) (n:Nat) (d:WD)=>Cj7 (vs=[.ref s,.ref w]) (Wb H s n) (n<1000) (Z5 a.C_World H w d) (ZbN d) (d.signs.length<=6) (∀H' rn way ring,Zr s H H'->vn H' rn d.signs.length way ring->(way++ring).length<=11->Q (.ref rn) H')
theorem J6{a:Adr}:66 2 a.y48 a.z48 dE Jz:=fun T hw=>by
 refine okX T.bQ.f Y8 69;intro X
 let d1:Rdg X Yo [1,0,1]:=⟨_,(@Zg _ _ _ (@YG _ _ _ _ (Wc fR ge gf Z9 (pv 2) (@Za _ _ _ _ _ (@Zq _ _ _ _ _ _ _ 54 (pv 4) (ZD T.aa (ZJ T hw) hr rfl rfl (@Za _ _ _ _ _ (pv 0) (@Za _ _ _ _ _ (Zn (Zw (K:=K) rfl) rfl T.az ng (@Za _ _ _ _ _ (pv 4) Zb rfl)) Zb rfl) rfl)) (fun _ _=>rfl)) Zb rfl)) rfl))⟩
 let d2:Rdg X Yo [1,0,0]:=⟨_,(@Zd _ _ _ _ _ (@Zu _ _ (4) _ _ _ _ Y8.nd rfl (.inl rfl) (U2 (pv 1) T.aA T.aM.m (zO T hw) (rmL hr rfl) T.aM.n .nil Xs (@Za _ _ _ _ _ (@Zq _ _ _ _ _ _ _ 54 (pv 2) (UG Vi Zi) (fun _ _=>rfl)) Zb rfl)) rfl (.inl rfl)) d1.2)⟩
 let d3:Rdg X Yo [6]:=⟨_,(@Zg _ _ _ (@Zm _ _ _ _ (@ZI _ _ _ _ _ (@Za _ _ _ _ _ (ZW (YB (K:=K) rfl) (pv 2) YH (ZS (pv 8))) (@Za _ _ _ _ _ (ZW (YB (K:=K) rfl) (pv 2) (ZS (pv 8)) (ZS (pv 6))) Zb rfl) rfl))))⟩
 let d4:Rdg X Yo [5]:=⟨_,(@Zd _ _ _ _ _ (@Zu _ _ (8) _ _ _ _ Y8.nd rfl (.inl rfl) (@Zq _ _ _ _ _ _ _ 54 (pv 7) (ZD T.aa (ZJ T hw) hr rfl rfl (@Za _ _ _ _ _ (pv 0) (@Za _ _ _ _ _ (Zn (Zw (K:=K) rfl) rfl T.az ng (@Za _ _ _ _ _ (pv 7) Zb rfl)) Zb rfl) rfl)) (fun _ _=>rfl)) rfl (.inl rfl)) d3.2)⟩
 let d5:Rdg X Yo [4]:=⟨_,(@Zd _ _ _ _ _ (XV (i:=7) Y8.nd rfl rfl (Nc:=dX) (ix:=[none,some 2,some 6]) (ZX.of (by left:Yc (Zh Yo) qx _ _ _=true)) rfl (Xf rfl T.aQ (@Za _ _ _ _ _ (pv 6) Zb rfl)) (fun _ _ _ _ _=>(Zz (i:=0) (show δ dX by left) rfl (.inl rfl))) (fun _ _ _ _ _=>(zx (@Zt _ _ _ _ _ _ _ _ YA (@Zq _ _ _ _ _ _ _ 54 (pv 1) (pv 0) (fun _ _=>rfl)) (@Zq _ _ _ _ _ _ _ 54 (pv 1) (pv 2) (fun _ _=>rfl)) (ZB _)))) (fun _ _ _ _ _=>(pv 0))) d4.2)⟩
 let d6:Rdg X Yo [3]:=⟨_,(@Zd _ _ _ _ _ (@Zu _ _ (6) _ _ _ _ Y8.nd rfl (.inr rfl) (@Zq _ _ _ _ _ _ _ 54 (pv 5) (ZD T.aa (ZJ T hw) hr rfl rfl (@Za _ _ _ _ _ (pv 0) (@Za _ _ _ _ _ (Zn (Zw (K:=K) rfl) rfl T.az ng (@Za _ _ _ _ _ (pv 5) Zb rfl)) Zb rfl) rfl)) (fun _ _=>rfl)) rfl (.inl rfl)) d5.2)⟩
 let d7:Rdg X Yo [2]:=⟨_,(@Zd _ _ _ _ _ (XV (i:=5) Y8.nd rfl rfl (Nc:=["_law_k","_law_rooms"]) (ix:=[none,some 2]) (ZX.of (by left:Yc (Zh Yo) qx _ _ _=true)) rfl (jP rfl T.aQ (@Za _ _ _ _ _ Zi (@Za _ _ _ _ _ (Zn (Zw (K:=K) rfl) rfl T.az ng (@Za _ _ _ _ _ (pv 2) Zb rfl)) Zb rfl) rfl)) (fun _ _ _ _ _=>(Zz (i:=0) (show δ (["_law_k","_law_rooms"]:50) by left) rfl (.inl rfl))) (fun _ _ _ _ _=>(zx (@Zt _ _ _ _ _ _ _ _ (WZ (K:=K) rfl) (@Zq _ _ _ _ _ _ _ 54 (pv 1) (pv 0) (fun _ _=>rfl)) (ZW (YB (K:=K) rfl) (pv 1) YH (ZS (pv 0))) (by with_unfolding_all rfl)))) (fun _ _ _ _ _=>(pv 0))) d6.2)⟩
 let d8:Rdg X Yo [1]:=⟨_,(@Zd _ _ _ _ _ (Xv fP rfl (Xf rfl T.aQ (@Za _ _ _ _ _ (@ZO _ _ _ _ _ _ _ _ YY Zi (ZD T.aa (ZJ T hw) hr rfl rfl (@Za _ _ _ _ _ (pv 0) (@Za _ _ _ _ _ Zi Zb rfl) rfl))) Zb rfl)) (Zz (i:=3) Y8.nd rfl (.inl rfl)) d2.2) d7.2)⟩
 intro vs Q h;obtain⟨s,w,n,d,rfl,nB,hn,og,gd,n6,k⟩:=h;refine⟨_,(@Zd _ _ _ _ _ (@Zu _ _ (2) _ _ _ _ Y8.nd rfl (.inr rfl) (@Yd _ _ _ _ (@Za _ _ _ _ _ (ZD T.aa (ZJ T hw) hr rfl rfl (@Za _ _ _ _ _ (pv 0) (@Za _ _ _ _ _ (zt (pv 1) T.aA T.ah.m (Wq T hw) (rmL hr rfl) T.ah.n .nil Xs) Zb rfl) rfl)) Zb rfl)) rfl (.inl rfl)) d8.2),?_⟩;obtain⟨os,oO⟩:=nB.lst;obtain⟨dx,fs,ho,wz⟩:=Zav og;have n1:=gd.n1;refine⟨_,rfl,_,rfl,w,dx,fs,rfl,ho,wz,w,d,rfl,og,s,d.signs.length,n,rfl,nB,by lia,by lia,by lia,fun H1 r x1 oQ hr=>⟨sz1,fun R hR=>?_⟩⟩;obtain⟨H2,qN,s2,eR⟩:=Yl (o:=.lst [.int (r:Nat)]) hR;rw[qN];have oE:=oQ.mono s2;have x2:=x1.trans (Zf.x s2);have nR:R≠s:=fun z=>by obtain⟨o1,nN⟩:=oQ.lst;rw[z,nN] at hR;cases hR
 have R0:H R=none:=x1.free nR hR;refine⟨_,rfl,s,4,_,rfl,oE,by lia,by left,by left,fun H3 r2 x3 pO pz=>⟨_,_,rfl,rfl,_,rfl,by lia,by lia,?_⟩⟩;have e7:((7:Int)+(r2:Nat)).toNat=r2+7:=by lia
 rw[e7]
 let J1:Nat->L2.St->Hp->Prop:=fun i σ G=>Ex3 fun(z3 z4:Option V) (rs:82)=>Cj6 (σ=[qr0 s,qr0 w,qr0 R,z3,z4,none,none,none,none]) (Zr s H G) (Wb G s (n+2+i)) (G R=some (.lst (rs.map V.int))) (rs.length=i+1) (∀x∈rs,0<=x/\x<(d.signs.length:Nat))
 refine XQ (J:=Itr 0 (r2+7)) (n:=r2+7) J1 ?_ (fun _ _ _ h _=>h) (fun _ _ _=>eE _) ?_ ?_
 ·exact⟨_,_,[(r:Int)],rfl,x2.trans x3,pO,x3 _ _ nR eR,rfl,fun x hx=>by rw[eZ] at hx;subst hx;lia⟩
 ·rintro i x σ G0 G hi ⟨z3,z4,rs,rfl,xG,tK,gR,lr,hb⟩ ⟨rfl,rfl⟩;have wG:=Z5.x oO xG og;obtain⟨B5,FX,oB,uE⟩:=QA wG;have om:atI (rs.map V.int) (-1)=some (.int (rs[rs.length-1]' 21)):=by
   rw[show(-1:Int)=-((1:Nat):Int) from rfl,k5 (eE 1) (by rw[eG];lia),gB];simp only[eG]
  have hl:=hb _ (fv (show rs.length-1<rs.length by lia));generalize (rs[rs.length-1]' 21)=y at om hl;obtain⟨y,rfl⟩:=mR hl.1;have sX:y<d.ways.length:=by rw[gd.wl];lia
  have Lm:d.ways[y]?=some d.ways[y]:=eI sX;obtain⟨_,Gi,wb,wl⟩:=gd.wn _ (fv sX);generalize d.ways[y]=ws at Lm Gi wb wl;refine⟨_,rfl,w,B5,FX,rfl,oB,uE,_,rfl,_,rfl,R,_,_,_,rfl,rfl,mZ gR,om,w,d,y,ws,rfl,wG,Lm,fun L hL=>?_⟩;obtain⟨G1,qN,u1,eL⟩:=Yl (o:=.lst ((YM ws).map V.int)) hL;rw[qN];have sv:=tK.mono u1;have nL:L≠s:=fun z=>by obtain⟨o1,nN⟩:=tK.lst;rw[z,nN] at hL;cases hL
  have RH:(YM ws).length=ws.length:=(UA ws).length_eq;have Ff:0<ws.length:=ij.mpr Gi;refine⟨_,rfl,.inl ⟨rfl,_,mZ (u1 _ _ gR)⟩,_,rfl,_,rfl,_,rfl,.inl ⟨L,_,rfl,.inl (mZ eL),?_⟩⟩;rw[eG,RH];refine⟨s,ws.length,_,rfl,sv,by lia,Ff,by lia,fun G2 v y2 tR hv=>?_⟩;have CK:((YM ws).map V.int)[v]?=some (.int ((YM ws)[v]' 21)):=by rw[eO,eI 21];rfl
  have GB:=wb _ ((UA ws).mem_iff.mp (fv (show v<(YM ws).length by lia)));generalize ((YM ws)[v]' 21)=yv at CK GB;refine⟨L,_,_,_,rfl,rfl,mZ (y2 _ _ nL eL),Zj CK,R,_,_,rfl,rfl,y2 _ _ nR (u1 _ _ gR),by rw[eG,lr,eJ];lia,?_⟩;refine⟨_,_,rs++[yv],rfl,(xG.trans ((Zf.x u1).trans y2)).updN R0,Wb.updN nR (by rw[<- Μ];exact tR),by rw[Zc,fo];rfl,by rw[eK,lr];rfl,fun x hx=>?_⟩;rcases fj.mp hx with hx|hx
  ·exact hb x hx
  ·rw[eZ] at hx;subst hx;exact GB
 rintro σ G ⟨z3,z4,rs,rfl,xG,tK,gR,lr,hb⟩;refine⟨_,rfl,.inl ⟨R,_,rfl,.inl (mZ gR),?_⟩⟩;rw[eG,lr];refine⟨_,_,rfl,⟨by left,by left,by lia,by lia⟩,fun D hD=>?_⟩;have en:(((r2+7+1:Nat):Int)-1).toNat=r2+7:=by lia
 rw[en];have rk:∀(j:Nat),j<rs.length->atI (rs.map V.int) (j:Int)=some (.int (rs.getD j 0)):=fun j hj=>by
  refine Zj ?_;rw[eO,eI hj,gQ,eI hj];rfl
 refine Xx (J:=Itr 1 (r2+7)) (n:=r2+7) (fun j σ F=>∃(y:Option V) (ks:List Nat),σ=[y,qr0 R]/\Zf G F/\F D=some (.lst ((ks.map fun q:Nat=>(q:Int)).map V.int))/\ks.length<=j/\(∀q∈ks,1<=q/\q<rs.length/\rs.getD q 0∈rs.take q)/\∀q:Nat,1<=q->q<1+j->rs.getD q 0∈rs.take q->q∈ks) ?_ (fun _ _ _ h _=>h) (fun _ _ _=>eE _) ?_ ?_
 ·exact⟨_,[],rfl,Ze hD,Zc,eE _,(fun q h=>by cases h),fun q h1 h2=>by lia⟩
 ·rintro j x σ F0 F hj ⟨y,ks,rfl,sF,eD,lk,h1,h2⟩ ⟨rfl,rfl⟩ N N0 hN rC;have ej:(1:Int)+(j:Nat)=((1+j:Nat):Int):=by lia
  rw[ej];refine⟨_,rfl,_,rfl,R,_,_,_,rfl,rfl,mZ (sF _ _ gR),rk (1+j) 21,_,rfl,_,rfl,_,rfl,R,_,rfl,mZ (sF _ _ gR),fun c hc=>?_⟩;rw[U7,<- hU];obtain⟨F1,qN,u1,ec⟩:=Yl (o:=.lst ((rs.take (1+j)).map V.int)) hc;rw[qN];refine⟨c,_,rfl,.inl (mZ ec),rfl,jj _,?_⟩;rw[nn fB,Zae];refine⟨_,rfl,Vo (fun c=>⟨_,rfl,?_⟩) (fun c=>?_)⟩
  ·have hm:=fA c;refine hN _ _ F1 _ (u1 _ _ eD) (by rw[eG,eG,eJ];lia) ⟨_,ks++[1+j],rfl,(Zr.upd (Zf.x (sF.trans u1))).same hD,by rw[Zc,fo,fo];rfl,by rw[eK];show _+1<=_;lia,fun q hq=>?_,fun q a1 a2 a3=>?_⟩
   ·rcases fj.mp hq with hq|hq
    ·exact h1 q hq
    ·rw[eZ] at hq;subst hq;exact⟨by lia,by lia,hm⟩
   ·by_cases cq:q<1+j
    ·exact fT _ (h2 q a1 cq a3)
    ·have:q=1+j:=by lia
     subst this;exact fC _ 47
  ·have hm:=lD (Bool.eq_false_iff.mpr c);refine rC _ F1 ⟨_,ks,rfl,sF.trans u1,u1 _ _ eD,by lia,h1,fun q a1 a2 a3=>?_⟩
   by_cases cq:q<1+j
   ·exact h2 q a1 cq a3
   ·have:q=1+j:=by lia
    subst this;exact nu a3 hm
 rintro σ F ⟨y,ks,rfl,sF,eD,lk,h1,h2⟩;obtain⟨k0,D7,NT,SH⟩:=again hb 21;have DG:ks≠[]:=fun z=>by
  have:=h2 k0 NT 21 (by rw[gQ,eI D7];exact SH);rw[z] at this;cases this
 have Rc:0<ks.length:=ij.mpr DG;have wW:=tK.mono sF;have nD:D≠s:=fun z=>by obtain⟨o1,nN⟩:=tK.lst;rw[z,nN] at hD;cases hD
 refine⟨_,rfl,_,rfl,_,rfl,.inl ⟨D,_,rfl,.inl (mZ eD),?_⟩⟩;rw[eG,eG];refine⟨s,ks.length,_,rfl,wW,by lia,Rc,by lia,fun F2 v y2 tR hv=>?_⟩;have LH:((ks.map fun q:Nat=>(q:Int)).map V.int)[v]?=some (.int ((ks[v]'hv:Nat):Int)):=by rw[eO,eO,eI hv];rfl
 obtain⟨e1,e2,e3⟩:=h1 _ (fv hv);generalize (ks[v]'hv)=sD at LH e1 e2 e3;refine⟨D,_,_,_,rfl,rfl,mZ (y2 _ _ nD eD),Zj LH,?_⟩;have um:=y2 _ _ nR (sF _ _ gR);have RF:Zr s H F2:=xG.trans ((Zf.x sF).trans y2);refine⟨_,rfl,_,rfl,by lia,by lia,fun D2 oz=>?_⟩;rw[fN];refine Xx (J:=Itr 0 sD) (n:=sD) (fun j σ F=>∃(y:Option V) (ks:List Nat),σ=[y,qr0 R,some (.int (sD:Nat))]/\Zf F2 F/\F D2=some (.lst ((ks.map fun q:Nat=>(q:Int)).map V.int))/\ks.length<=j/\(∀q∈ks,q<sD/\rs.getD q 0=rs.getD sD 0)/\∀q:Nat,q<j->rs.getD q 0=rs.getD sD 0->q∈ks) ?_ (fun _ _ _ h _=>h) (fun _ _ _=>eE _) ?_ ?_
 ·exact⟨_,[],rfl,Ze oz,Zc,eE _,(fun q h=>by cases h),fun q h1 h2=>by lia⟩
 ·rintro j x σ F0 F3 hj ⟨y,ks,rfl,uh,BM,O3,h1,h2⟩ ⟨rfl,rfl⟩ N N0 hN rC;have ej:(0:Int)+(j:Nat)=((j:Nat):Int):=by lia
  rw[ej];refine⟨_,rfl,_,rfl,R,_,_,_,rfl,rfl,mZ (uh _ _ um),rk j 21,_,rfl,_,rfl,R,_,_,_,rfl,rfl,mZ (uh _ _ um),rk sD 21,?_⟩;refine⟨rfl,_,rfl,Vo (fun c=>⟨_,rfl,?_⟩) (fun c=>?_)⟩
  ·have hm:rs.getD j 0=rs.getD sD 0:=by have:=fA c;exact V.int.inj this
   refine hN _ _ F3 _ BM (by rw[eG,eG,eJ];lia) ⟨_,ks++[j],rfl,(Zr.upd (Zf.x uh)).same oz,by rw[Zc,fo,fo];rfl,by rw[eK];show _+1<=_;lia,fun q hq=>?_,fun q a2 a3=>?_⟩
   ·rcases fj.mp hq with hq|hq
    ·exact h1 q hq
    ·rw[eZ] at hq;subst hq;exact⟨hj,hm⟩
   ·by_cases cq:q<j
    ·exact fT _ (h2 q cq a3)
    ·have:q=j:=by lia
     subst this;exact fC _ 47
  ·have hm:¬rs.getD j 0=rs.getD sD 0:=fun e=>c (fQ (by rw[e]));refine rC _ _ ⟨_,ks,rfl,uh,BM,by lia,h1,fun q a2 a3=>?_⟩
   by_cases cq:q<j
   ·exact h2 q cq a3
   ·have:q=j:=by lia
    subst this;exact nu a3 hm
 rintro σ F3 ⟨y,bs,rfl,uh,BM,O3,g1,g2⟩;have bne:bs≠[]:=fun z=>by
  obtain⟨q,hq,e⟩:=fO e3;rw[fh] at hq;rw[lK] at e;have:=g2 q 21 (by rw[gQ,eI 21];exact e);rw[z] at this;cases this
 have S4:0<bs.length:=ij.mpr bne;have EI:=tR.mono uh;have Do:D2≠s:=fun z=>by obtain⟨o1,nN⟩:=tR.lst;rw[z,nN] at oz;cases oz
 refine⟨_,rfl,_,rfl,_,rfl,.inl ⟨D2,_,rfl,.inl (mZ BM),?_⟩⟩;rw[eG,eG];refine⟨s,bs.length,_,rfl,EI,by lia,S4,by lia,fun F4 v2 y4 rM pK=>?_⟩;have Ht:((bs.map fun q:Nat=>(q:Int)).map V.int)[v2]?=some (.int ((bs[v2]'pK:Nat):Int)):=by rw[eO,eO,eI pK];rfl
 obtain⟨b1,b2⟩:=g1 _ (fv pK);generalize (bs[v2]'pK)=bg at Ht b1 b2;refine⟨D2,_,_,_,rfl,rfl,mZ (y4 _ _ Do BM),Zj Ht,?_⟩;have HW:=y4 _ _ nR (uh _ _ um);have Aq:Zr s H F4:=RF.trans ((Zf.x uh).trans y4);refine⟨_,rfl,_,rfl,_,rfl,R,_,rfl,mZ HW,fun A1 Am=>?_⟩;rw[U7,<- hU];obtain⟨F5,qN,u5,OM⟩:=Yl (o:=.lst ((rs.take bg).map V.int)) Am;rw[qN];refine⟨_,rfl,_,rfl,_,rfl,_,rfl,_,rfl,R,_,rfl,mZ (u5 _ _ HW),fun A2 FZ=>?_⟩;rw[ZaW _ (fV b1) (by rw[eG];lia),<- Κ,<- hU];obtain⟨F6,qN,u6,TJ⟩:=Yl (o:=.lst (((rs.drop bg).take (sD-bg)).map V.int)) FZ;rw[qN];refine⟨sz2,fun rn tH=>?_⟩;obtain⟨F7,qN,u7,Ss⟩:=Yl (o:=.tup [.ref A1,.ref A2]) tH;rw[qN];refine k F7 rn (rs.take bg) ((rs.drop bg).take (sD-bg)) (Aq.trans (Zf.x (u5.trans (u6.trans u7)))) ⟨⟨A1,A2,Ss,(u6.trans u7) _ _ OM,u7 _ _ TJ⟩,fun z=>?_,fun x hx=>hb x ?_⟩ ?_
 ·have:=fb μ z;rw[fh,gv] at this;simp at this;lia
 ·rcases fj.mp hx with hx|hx
  ·exact List.mem_of_mem_take hx
  ·exact List.mem_of_mem_drop (List.mem_of_mem_take hx)
 ·rw[eK,fh,fh,gv];lia
def yH(K:W.Frag)(a:Adr):Sp:=fun vs H Q _=>Ex3 fun(p:Addr) (ns:82) (j:Nat)=>Cj3 (vs=[.ref p,.int (j:Nat)]) (SqL K H p (ns.map V.int)) (∀n:Int,Q (.int n) H)
theorem WC{a:Adr}:66 1 a.y44 a.z44 dG yH:=fun T hw=>by
 refine okF T.aD.f yI 73;obtain⟨p,ns,j,rfl,hq,k⟩:=h;refine⟨_,(@Zd _ _ _ _ _ (@ZQ _ _ _ _ _ _ _ _ (@Zt _ _ _ _ _ _ _ _ xJ (pv 1) 68 (ZB _)) (@Zg _ _ _ (@Zm _ _ _ _ (@Zq _ _ _ _ _ _ _ 54 (pv 0) (pv 1) (fun _ _=>rfl)))) Zx) (@Zg _ _ _ (@Zm _ _ _ _ Zi))),?_⟩;refine⟨_,rfl,_,rfl,.inl ⟨p,_,rfl,.inl hq,_,_,rfl,rfl,_,rfl,?_⟩⟩;refine Vo (fun c=>?_) (fun _=>k 0);have hj:j<ns.length:=by have:=fA c;rw[eG] at this;lia
 exact⟨_,rfl,_,rfl,p,_,_,_,rfl,rfl,hq,Zj (ZhL hj),k _⟩
theorem ZhN(v1 v2:V):Yu "rows" v2 ([("parts",v1)]:78)=([("parts",v1),("rows",v2)]:78):=by simp only[Yu,nn (by left:¬(("parts" : Str) = "rows"))]
theorem Zhr(v1 v2 v3:V):Yu "numbers" v3 ([("parts",v1),("rows",v2)]:78)=([("parts",v1),("rows",v2),("numbers",v3)]:78):=by simp only[Yu,nn (by left:¬(("parts" : Str) = "numbers")),nn (by left:¬(("rows" : Str) = "numbers"))]
def vT(K:W.Frag)(a:Adr):Sp:=fun vs H Q _=>Ex2 fun r dx=>Cj3 (vs=[.ref r]) (H r=some (.ins a.C_Table dx [])) (∀H' P R D,Zr r H H'->H P=none->H R=none->H D=none->r≠P->r≠R->r≠D->TbY K a.Pm a.C_Table H' r P R D []->Q .non H')
theorem vM{a:Adr}:66 1 a.y15 a.z15 cU vT:=fun T hw=>by
 refine okF T.br.f vW 73;obtain⟨r,dx,rfl,HN,k⟩:=h;refine⟨_,(@Zd _ _ _ _ _ (qA (pv 0) (@Yd _ _ _ _ Zb) rfl) (@Zd _ _ _ _ _ (qA (pv 0) (@Yd _ _ _ _ Zb) rfl) (@Zg _ _ _ (qA (pv 0) (ZeT (Pm:=a.Pm) hw) rfl)))),?_⟩;refine⟨by left,fun P hP=>⟨_,rfl,r,_,dx,[],rfl,Ze hP _ _ HN,T.am,T.aZ,by left,?_⟩⟩;have nP:P≠r:=fun z=>by rw[z,HN] at hP;cases hP
 have s1:=Ze (o:=.lst []) hP;have e1:(upd H P (.lst [])) P=some (.lst []):=Zc;generalize upd H P (.lst [])=H1 at s1 e1 ⊢;have x2:Zr r H (upd H1 r (.ins a.C_Table dx (Yu "parts" (.ref P) []))):=(Zf.x s1).upd;have pz:(upd H1 r (.ins a.C_Table dx (Yu "parts" (.ref P) []))) r=some (.ins a.C_Table dx [("parts",.ref P)]):=by rw[Zc,ZhK]
 have e2:(upd H1 r (.ins a.C_Table dx (Yu "parts" (.ref P) []))) P=some (.lst []):=X8 e1 nP;generalize upd H1 r (.ins a.C_Table dx (Yu "parts" (.ref P) []))=H2 at x2 pz e2 ⊢;refine⟨by left,fun R hR=>⟨_,rfl,r,_,dx,_,rfl,Ze hR _ _ pz,T.am,T.aC,by simp,?_⟩⟩;have nR:R≠r:=fun z=>by rw[z,pz] at hR;cases hR
 have Td:R≠P:=fun z=>by rw[z,e2] at hR;cases hR
 have s3:=Ze (o:=.lst []) hR;have e3:(upd H2 R (.lst [])) R=some (.lst []):=Zc;have Gh:=s3 _ _ e2;generalize upd H2 R (.lst [])=H3 at s3 e3 Gh ⊢;have x4:Zr r H (upd H3 r (.ins a.C_Table dx (Yu "rows" (.ref R) [("parts",.ref P)]))):=(x2.trans (Zf.x s3)).upd;have Fa:(upd H3 r (.ins a.C_Table dx (Yu "rows" (.ref R) [("parts",.ref P)]))) r=some (.ins a.C_Table dx [("parts",.ref P),("rows",.ref R)]):=by rw[Zc,ZhN]
 have Mt:(upd H3 r (.ins a.C_Table dx (Yu "rows" (.ref R) [("parts",.ref P)]))) P=some (.lst []):=X8 Gh nP;have ML:(upd H3 r (.ins a.C_Table dx (Yu "rows" (.ref R) [("parts",.ref P)]))) R=some (.lst []):=X8 e3 nR;generalize upd H3 r (.ins a.C_Table dx (Yu "rows" (.ref R) [("parts",.ref P)]))=H4 at x4 Fa Mt ML ⊢;refine fun D hD=>⟨_,rfl,r,_,dx,_,rfl,Ze hD _ _ Fa,T.am,T.aj,by simp,?_⟩;have nD:D≠r:=fun z=>by rw[z,Fa] at hD;cases hD
 have s5:=Ze (o:=DyO a.Pm D []) hD;have e5:(upd H4 D (DyO a.Pm D [])) D=some (DyO a.Pm D []):=Zc;have Gg:=s5 _ _ Mt;have Mf:=s5 _ _ ML;generalize upd H4 D (DyO a.Pm D [])=H5 at s5 e5 Gg Mf ⊢;refine k _ P R D ((x4.trans (Zf.x s5)).upd) hP (x2.free nR hR) (x4.free nD hD) (eX nP) (eX nR) (eX nD) ⟨⟨dx,by rw[Zc,Zhr]⟩,⟨1,[],X8 Gg nP,AtL.nil⟩,⟨[],X8 Mf nR,rfl,fun e h=>(by cases h),fun i t e h=>(by simp at h),X8 e5 nD⟩,by simp,eX Td⟩
theorem xA:∀(n:Nat) {t s:Tr},psz t<=n->isC t=true->s∈post t->isC s=true
 |0,t,s,h,_,_=>by have:=WL t;lia
 |n+1,t,s,h,hc,hs=>by
  rw[Ui,fj] at hs;rcases hs with hs|hs
  ·obtain⟨k,hk,hs⟩:=zX hs;exact xA n (by have:=XN hk;lia) (Kf hc k hk) hs
  ·rw[eZ.mp hs];exact hc
theorem QN{t:Tr}(hc:isC t=true):∀s∈Zp [] (post t),isC s=true:=fun s hs=>by
 rcases Yi.mp hs with h|h
 ·cases h
 ·exact xA _ (eE _) hc h
theorem Zds{x:Addr}{o':HO}(h1:H x=none)(h2:H dx=none):Zf H (upd (upd H dx o) x o'):=fun b u e=>by
 rw[Zo (ZC e h1),Zo (ZC e h2)];exact e
structure Qx(K:W.Frag)(H:Hp)(sl:Addr)(st:Tr->82)(t:Tr)(ss:67):Prop where
 at_:ZbW K H sl st ss
 few:ss.length<4000
 sub:∀s∈ss,isC s=true/\psz s<=2000000
 room:(Zp (Zp [] (post t)) (ss.map post).flatten).length<4000
 short:∀s∈ss,(st s).length<=1000
 all:∀s∈Zp [] (ZF t),s.lb=.op "some" -> s∈ss
def kY(K:W.Frag)(a:Adr):Sp:=fun vs H Q _=>Ex8 fun(w sl:Addr) (v:V) (n:Nat) (t:Tr) (d:WD) (st:Tr->82) (ss:67)=>Cj9 (vs=[.ref w,v,.ref sl]) (Z5 a.C_World H w d) (d.signs.length<=20) (At K n H v t) (isC t=true) (psz t<=2000000) ((Zp [] (post t)).length<4000) (Qx K H sl st t ss) (∀H' q rv,Zf H H'->H q=none->H' q=some (.lst rv)->ZfT K H' d st (Zp [] (ZF t)) rv->Q (.ref q) H')
theorem kW{a:Adr}:66 6 a.y22 a.z22 dH kY:=fun T hw=>by
 refine okX T.bF.f Uc 69;intro X
 let d1:Rdg X Wx [2]:=⟨_,(@Zg _ _ _ (@Zm _ _ _ _ (ZD T.bh (xp T hw) hr rfl rfl (@ZA _ _ _ _ _ (pv 0) (@ZA _ _ _ _ _ (pv 3) (@ZA _ _ _ _ _ (pv 4) (@ZA _ _ _ _ _ (ZD T.bG (j0 T hw) hr rfl rfl (@Za _ _ _ _ _ (pv 3) (@Za _ _ _ _ _ (pv 2) Zb rfl) rfl)) Zb rfl) rfl) rfl) rfl))))⟩
 let d2:Rdg X Wx [1]:=⟨_,(@Zd _ _ _ _ _ (@Zu _ _ (4) _ _ _ _ Uc.nd rfl (.inl rfl) (U2 (pv 3) T.am T.ai.m (W0 T hw) (rmL hr rfl) T.ai.n .nil Xs (@Za _ _ _ _ _ (pv 1) Zb rfl)) rfl (.inl rfl)) d1.2)⟩
 intro vs Q h;obtain⟨w,sl,v,n,t,d,st,ss,rfl,og,n20,om,hc,hz,oq,⟨hs,ls,pW,ro,EA,nJ⟩,k⟩:=h;refine⟨_,(@Zd _ _ _ _ _ (@Zu _ _ (3) _ _ _ _ Uc.nd rfl (.inl rfl) (Zca T.cw (vM T hw) (rmL hr rfl) rfl T.cG T.br.n .nil Xs) rfl (.inl rfl)) d2.2),?_⟩;have AU:(Zp [] (ZF t)).length<4000:=gk (vg t) oq;refine fun x dx nx Sz nex=>⟨x,dx,rfl,Zc,fun H1 P R D x1 hP hR hD nP nR nD Gq=>⟨rfl,?_⟩⟩;have s0:=Zds (o:=.own x) (o':=.ins a.C_Table dx []) nx Sz;have s1:Zf H H1:=fun b u e=>x1 _ _ (ZC e nx) (s0 _ _ e);have fr:∀{c:Addr},(upd (upd H dx (.own x)) x (.ins a.C_Table dx [])) c=none->H c=none:=fun h=>s0.free h;have uC:=fr hP;have uI:=fr hR;have uT:=fr hD;obtain⟨OD,nN⟩:=Gq.obj;refine⟨_,rfl,x,OD,_,rfl,nN,lkN 48 48 48,_,rfl,x,P,R,D,[],v,t,n,rfl,Gq,om.mono (m5 s1),eW hz 48,oq,fun H2 i b2 Ac hi=>?_⟩;have s2:Zf H H2:=fun b u e=>b2 _ _ (ZC e uC) (ZC e uI) (ZC e uT) (s1 _ _ e);refine⟨_,rfl,_,rfl,_,rfl,_,rfl,_,rfl,x,P,R,D,sl,_,st,ss,H,rfl,Ac,ro,s2,uC,uI,uT,hs,ls,pW,fun H3 Dc kv s3 sR tu hv=>?_⟩;have sZ:∀s∈Zp (Zp [] (post t)) (ss.map post).flatten,isC s=true:=fun s hs=>by
  rcases Yi.mp hs with h|h
  ·exact QN hc s h
  ·obtain⟨l,hl,hx⟩:=iD.mp h;obtain⟨u,hu,rfl⟩:=eV.mp hl;exact xA _ (eE _) (pW u hu).1 hx
 have tj:(Zp (Zp [] (post t)) (ss.map post).flatten)[i]?=some t:=by
  obtain⟨B,e⟩:=Wf (ss.map post).flatten (Zp [] (post t));rw[e,fK (eY.mp hi).1];exact hi
 refine⟨w,x,P,R,D,Dc,i,_,t,d,st,kv,rfl,og.mono s3,n20,sR,tj,sZ,hz,AU,tu,fun m s hp hm he=>?_,fun H4 q rv s4 q0 hq g=>k H4 q rv (s3.trans s4) (s3.free q0) hq g⟩;have h:=nJ s hm he;obtain⟨l,h1,h2⟩:=hv s h m hp;exact⟨l,h1,h2,EA s h⟩
structure Rd(K:W.Frag)(a:Adr)(H:Hp)(w rn sl:Addr)(v:V)(d:WD)(way ring:82)(t:Tr)(st:Tr->82):Prop where
 w:Z5 a.C_World H w d
 n20:d.signs.length<=20
 run:vn H rn d.signs.length way ring
 core:∃n,At K n H v t
 c:isC t=true
 sz:psz t<=2000000
 few:(Zp [] (post t)).length<4000
 sets:∃ss,Qx K H sl st t ss
 room:(way++ring).length+(Zp [] (post t)).length*(ring.length+1)<=50000
def vz(K:W.Frag)(a:Adr):Sp:=fun vs H Q _=>ZeW fun(w rn sl:Addr) (v:V) (m:Nat) (t:Tr) (d:WD) (st:Tr->82) (way ring:82)=>Cj4 (vs=[.ref w,.ref rn,v,.ref sl,.int (m:Nat)]) (Rd K a H w rn sl v d way ring t st) (m<=50000) (∀H' q,Zf H H'->H q=none->H' q=some (.lst (((γ m).map (Z1 d st (XY way ring) t)).map V.bl))->Q (.ref q) H')
theorem vF{a:Adr}:66 7 a.y21 a.z21 dJ vz:=fun T hw=>by
 refine okF T.bt.f vE 73;obtain⟨w,rn,sl,v,m,t,d,st,way,ring,rfl,⟨og,n20,EX,⟨n,om⟩,hc,hz,oq,⟨ss,rB⟩,ro⟩,hm,k⟩:=h;refine⟨_,(@Zg _ _ _ (@Zm _ _ _ _ (ZD T.bH (kh T hw) hr rfl rfl (@ZA _ _ _ _ _ (ZD T.bF (kW T hw) hr rfl rfl (@ZA _ _ _ _ _ (pv 0) (@ZA _ _ _ _ _ (pv 2) (@ZA _ _ _ _ _ (pv 3) Zb rfl) rfl) rfl)) (@ZA _ _ _ _ _ (pv 1) (@ZA _ _ _ _ _ (pv 4) Zb rfl) rfl) rfl)))),?_⟩;obtain⟨ts,NJ⟩:=Zbv t;have Ee:=vg t;refine⟨_,rfl,_,rfl,_,rfl,w,sl,v,n,t,d,st,ss,rfl,og,n20,om,hc,hz,oq,rB,fun H1 R rv s1 R0 hR g=>?_⟩;rw[NJ] at g Ee;rw[eK,fY] at Ee;refine⟨_,rfl,_,rfl,R,rn,m,rv,ts,t,d,st,way,ring,rfl,hR,g,EX.mono s1,hm,eW (Nat.add_le_add_left (lJ _ Ee) _) ro,fun H2 q s2 q0 hq=>k H2 q (s1.trans s2) (s1.free q0) hq⟩
def QR(K:W.Frag)(a:Adr):Sp:=fun vs H Q _=>Ex3 fun v t n=>Cj4 (vs=[v]) (At K n H v t) (psz t<=8000000) (∀H',Zf H H'->Q (.int ((psz t:Nat):Int)) H')
theorem xL{a:Adr}:66 4 a.y20 a.z20 ["core"] QR:=fun T hw=>by
 refine okF T.bK.f Qm 73;obtain⟨v,t,n,rfl,om,hz,k⟩:=h;refine⟨_,(@Zg _ _ _ (@Zm _ _ _ _ (Zn (Zw (K:=K) rfl) rfl T.az ng (@Za _ _ _ _ _ (ZD T.aJ (Vn T hw) hr rfl rfl (@Za _ _ _ _ _ (pv 0) Zb rfl)) Zb rfl)))),?_⟩;refine⟨_,rfl,v,t,n,rfl,om,hz,fun H1 L us s1 L0 hL aL=>.inl ⟨L,us,rfl,.inl (mZ hL),?_⟩⟩;rw[aL.1];exact k H1 s1
theorem WV{s:Addr}(u:Zf H H1)(h:H s=none)(x:Zr s H1 H2):Zf H H2:=fun b o e=>x _ _ (fun z=>by rw[z,h] at e;cases e) (u _ _ e)
theorem Zce{m:Nat}(h:m<=5):Bz m<=724726:=by
 rcases(show m=0\/m=1\/m=2\/m=3\/m=4\/m=5 by lia) with rfl|rfl|rfl|rfl|rfl|rfl<;>decide
abbrev PT:=List (Str×Tr)
structure Zfh(t:Tr):Prop where
 w:wgt t<=300
 l:(post t).length<=100
 q:NoQ t
structure Ent(P:V->Tr->Prop)(kvs:List (Key×V))(ps:PT):Prop where
 len:kvs.length=ps.length
 at_:∀(i:Nat) (z:Str) (t:Tr),ps[i]?=some (z,t)->∃v,kvs[i]?=some (.inr z,v)/\P v t
theorem Ent.mono{P P':V->Tr->Prop}{ps:PT}(s:∀v t,P v t->P' v t)(e:Ent P kvs ps):Ent P' kvs ps:=
 ⟨e.len,fun i z t h=>let ⟨v,h1,h2⟩:=e.at_ i z t h; ⟨v,h1,s _ _ h2⟩⟩
theorem Ent.nil{P:V->Tr->Prop}:Ent P [] []:=⟨rfl,fun i z t h=>by simp at h⟩
theorem Ent.keys{P:V->Tr->Prop}{ps:PT}(e:Ent P kvs ps):kvs.map (·.1)=(ps.map (·.1)).map (fun z=>(.inr z:Key)):=by
 refine List.ext_getElem (by simp[e.len]) fun i h1 h2=>?_;rw[eG] at h1;have h3:i<ps.length:=by rw[<- e.len];exact h1
 obtain⟨v,q,_⟩:=e.at_ i ps[i].1 ps[i].2 (by rw[eI h3]);rw[eI h1] at q;rw[gB,gB,gB,fc q]
theorem ZeQ{ns:50}(h:kvs.map (·.1)=ns.map ζ)(hz:z∉ns):Yx kvs (.inr z)=none:=by
 cases e:Yx kvs (.inr z) with
 |none=>rfl
 |some v=>
  have:=Zd7 e;rw[h] at this;obtain⟨y,hy,e⟩:=eV.mp this;exact nu (ir e▸hy) hz
theorem Ent.put{P:V->Tr->Prop}{ps:PT}{t:Tr}(e:Ent P kvs ps)(hz:z∉ps.map (·.1))(a:P v t):Ent P (Xr kvs (.inr z) v) (ps++[(z,t)]):=by
 rw[ZcB v (ZeQ e.keys hz)];refine⟨by simp[e.len],fun i z' t' h=>?_⟩
 by_cases c:i<ps.length
 ·rw[fK c] at h;obtain⟨v',h1,h2⟩:=e.at_ i z' t' h;exact⟨v',by rw[fK (by rw[e.len];exact c)];exact h1,h2⟩
 ·rw[fS 21] at h;have:i-ps.length=0:=by
   have:=(eY.mp h).1;simp at this;lia
  rw[this] at h;cases h;exact⟨v,by rw[fS (by rw[e.len];lia),e.len,this];rfl,a⟩
theorem Uy:∀{kvs:List (Key×V)}{i:Nat}{k:Key}{v:V},(kvs.map (·.1)).Nodup->kvs[i]?=some (k,v)->Yx kvs k=some v
 |[],i,k,v,_,h=>by simp at h
 |p::r,0,k,v,_,h=>by cases h;exact Y2 rfl
 |p::r,i+1,k,v,hn,h=>by
  rw[eM,gF] at hn;have h':r[i]?=some (k,v):=h;have nM:¬p.1=k:=fun z=>hn.1 (by rw[z];exact eV.mpr ⟨_,fz h',rfl⟩);rw[Y0 nM];exact Uy hn.2 h'
theorem XD(h:H S=some (.dK kv)):Yw H (upd H S o):=fun K b ys e=>by
 rcases e with(e|⟨q,e⟩)|e
 ·exact .inl (.inl (by rw[Zo (fun z=>by rw[z,h] at e;cases e)];exact e))
 ·exact .inl (.inr ⟨q,by rw[Zo (fun z=>by rw[z,h] at e;cases e)];exact e⟩)
 ·exact .inr e
theorem jM:Zr S H (upd H S o):=fun b u n e=>by rw[Zo n];exact e
def Vc:50:=["not","next","before","always","ever","once","sofar"]
def UE:50:=["until","since"]
def pt5(c:Nat)(x y:Tr):PT:=[("one",x),("other",y),("and",.node (.many "and") [x,y]),("or",.node (.many "or") [x,y]),("within",.node (.wit (c:Nat)) [x,y])]
def zo(c:Nat)(x y:Tr):PT:=pt5 c x y++Vc.map (fun w=>(w,.node (.op w) [x]))++UE.map (fun w=>(w,.node (.op w) [x,y]))
theorem xD:Vc.length=7:=rfl
theorem Zgr:∀i:Nat,(h:i<Vc.length)->Vc[i]∉(["one","other","and","or","within"]:50)++Vc.take i:=by
 intro i h;have:∀j:Fin 7,Vc[j.val]'(by rw[xD];exact j.isLt)∉(["one","other","and","or","within"]:50)++Vc.take j.val:=by left
 exact this ⟨i,h⟩
theorem Zgj:∀w∈Vc,w∈W1:=by left
theorem ZgR:∀i:Nat,(h:i<UE.length)->UE[i]∉(["one","other","and","or","within"]:50)++Vc++UE.take i:=by
 intro i h;have:∀j:Fin 2,UE[j.val]'j.isLt∉(["one","other","and","or","within"]:50)++Vc++UE.take j.val:=by left
 exact this ⟨i,h⟩
theorem Zgg:∀w∈UE,w∈W2:=by left
theorem ZbX(c:Lb)(x y:Tr):(post (.node c [x,y])).length=(post x).length+(post y).length+1:=by
 rw[V8,show[x,y]=[x]++[y] from rfl,VR,XX,XX,eK]
theorem Zcl:∀w∈Vc++UE,w ≠ "some" /\ w ≠ "all" := by left
theorem Zf4{c:Nat}{x y:Tr}(h1:wgt x<=112)(h2:wgt y<=38)(l1:(post x).length<=27)(l2:(post y).length<=9)(q1:NoQ x)(q2:NoQ y):∀p∈zo c x y,Zfh p.2:=by
 have ws:([x,y].map wgt).sum=wgt x+wgt y:=by simp
 have two:∀c:Lb,(c≠.op "some" /\ c≠.op "all")->wgt (.node c [x,y])=([x,y].map wgt).sum+36->Zfh (.node c [x,y]):=fun c hc hw=>⟨by lia,by rw[ZbX];lia,NoQ.node hc fun k hk=>by
  rcases eU.mp hk with rfl|hk
  ·exact q1
  ·rw[eZ] at hk;subst hk;exact q2⟩
 have nq:∀w∈Vc++UE,Lb.op w≠.op "some" /\ Lb.op w≠.op "all" := fun w hw=>⟨fun z=>(Zcl w hw).1 (Lb.op.inj z),fun z=>(Zcl w hw).2 (Lb.op.inj z)⟩;intro p hp;unfold zo at hp;rcases fj.mp hp with hp|hp
 ·rcases fj.mp hp with hp|hp
  ·simp only[pt5,eU,gz,gA] at hp;rcases hp with rfl|rfl|rfl|rfl|rfl
   ·exact⟨by show wgt x<=300;lia,by show(post x).length<=100;lia,q1⟩
   ·exact⟨by show wgt y<=300;lia,by show(post y).length<=100;lia,q2⟩
   ·exact two _ ⟨nofun,nofun⟩ (KW _ _)
   ·exact two _ ⟨nofun,nofun⟩ (KW _ _)
   ·exact two _ ⟨nofun,nofun⟩ (ZfB _ _)
  ·obtain⟨w,hw,rfl⟩:=eV.mp hp;refine⟨by show wgt (.node (.op w) [x])<=300;rw[Zeb];simp;lia,by show(post (.node (.op w) [x])).length<=100;rw[V8,XX];lia,NoQ.node (nq w (fT _ hw)) fun k hk=>by rw[eZ] at hk;subst hk;exact q1⟩
 ·obtain⟨w,hw,rfl⟩:=eV.mp hp;exact two _ (nq w (fC _ hw)) (Zeb _ _)
def ZhQ:50:=["one","other","and","or","within","not","next","before","always","ever","once","sofar","until","since"]
theorem Zew:ZhQ.Nodup:=by left
theorem yJ(c:Nat)(x y:Tr):(zo c x y).map (·.1)=ZhQ:=rfl
theorem Kx(c:Nat)(x y:Tr):(zo c x y).length=14:=rfl
theorem K4{l:50}(n:l.Nodup)(h:l[i]?=some z):z∉l.take i:=fun hm=>by
 obtain⟨j,hj,e⟩:=fO hm;rw[fh] at hj;obtain⟨hi,e2⟩:=eY.mp h;rw[lK] at e;have:=(iY.mp n) j i 21 hi 21;exact this (e.trans e2.symm)
theorem Zhd(h:H S=some (.dK kv))(x:Zr S H H'):Yw H H':=fun K b ys e=>by
 rcases e with(e|⟨q,e⟩)|e
 ·exact .inl (.inl (x _ _ (fun z=>by rw[z,h] at e;cases e) e))
 ·exact .inl (.inr ⟨q,x _ _ (fun z=>by rw[z,h] at e;cases e) e⟩)
 ·exact .inr e
def RwP(H:Hp)(m:Nat)(g:Tr->Nat->Bool)(v:V)(t:Tr):Prop:=∃l,v=.ref l/\H l=some (.lst (blR m (g t)))
theorem ZeY{t:Tr}(h:H sl=some (.lst []))(l:(Zp [] (post t)).length<4000)(n:NoS t):Qx K H sl st t []:=
 ⟨⟨[],h,rfl,fun i v t h=>by simp at h⟩,by left,(fun s hs=>by cases hs),l,(fun s hs=>by cases hs),fun s hs e=>by
  rcases Yi.mp hs with h|h
  ·cases h
  ·exact nu e (n s (U9 _ (eE _) h))⟩
theorem QT{t:Tr}{many:Nat}(nM:ring≠[])(ok:OkN n (ZH t))(hc:isC (ZH t)=true)(dp:Yv (ZH t)<=6)(hm:many=way.length+2*ring.length)(hf:nF=way.length+12*ring.length+7):Zgu many nF (mT d st (XY way ring) t):=by
 have p1:1<=ring.length:=ij.mpr nM;have GZ:∀k,way.length+8*ring.length<=k->mT d st (XY way ring) t k=mT d st (XY way ring) t (k-ring.length):=fun k hk=>Zas nM n (ZH t) ok hc k (by
  have:=Nat.mul_le_mul (eE ring.length) (show 1+Yv (ZH t)<=8 by lia);lia)
 intro b k i hk BS hb;cases b with
 |true=>
  obtain⟨i',h1,h2,h3⟩:=KU p1 GZ (show k<=way.length+8*ring.length by lia) i i (eE _) (.inr BS) hb;exact⟨i',h1,by lia,h3⟩
 |false=>
  obtain⟨i',h1,h2,h3⟩:=KU (F:=fun j=>!mT d st (XY way ring) t j) p1 (fun k hk=>fb not (GZ k hk)) (show k<=way.length+8*ring.length by lia) i i (eE _) (.inr BS) (by show(!_)=true;rw[hb];rfl);exact⟨i',h1,by lia,by simpa using h3⟩
theorem ZfA{f c0 cc r:Addr}{doc pm ctv:Value}{oc:Obj}{rk:List (Key×V)}{ps:PT}{g:Tr->Nat->Bool}(ho:oc.data=.cell (some (.ref r)))(h1:H f=some (FnF f (zY c0 cc doc pm ctv)))(h2:H cc=some (j6 cc "law.<locals>._law_told"))(h3:H c0=some (Y3 c0 oc))(h4:H r=some (.dK rk))
  (e:Ent (RwP H nF g) rk ps) (nd:(rk.map (·.1)).Nodup) {t:Tr}{F:Nat->Bool} (hi:ps[i]?=some (z,t)) (eg:g t=F):Tl H f z nF F:=by
 obtain⟨v,hv,l,rfl,hl⟩:=e.at_ i z t hi;subst eg;exact⟨c0,cc,r,doc,pm,ctv,oc,rk,l,ho,h1,h2,h3,h4,Uy nd hv,hl⟩
theorem ZeI{P:V->Tr->Prop}{rk:List (Key×V)}{c:Nat}{x y:Tr}(e:Ent P rk (zo c x y)):(rk.map (·.1)).Nodup:=by
 rw[e.keys,yJ];left
theorem Zep{f:Addr}{c:Nat}{x y:Tr}(tl:∀{i:Nat}{z:Str}{t:Tr}{F:Nat->Bool},(zo c x y)[i]?=some (z,t)->mT d st rm t=F->Tl H f z nF F):Zb2 H f nF (mT d st rm x) (mT d st rm y):=
 ⟨tl (i:=5) rfl (Zg7 x),tl (i:=6) rfl (Zeg x),tl (i:=7) rfl (Zbt x),tl (i:=12) rfl (Jw x y),tl (i:=13) rfl (Zdw x y),tl (i:=2) rfl (Zgb x y),tl (i:=3) rfl (Zhu x y),tl (i:=10) rfl (ZeE x),tl (i:=11) rfl (ZcU x)⟩
theorem ZgM{f:Addr}{c:Nat}{x y:Tr}(hc:c<=5)(tl:∀{i:Nat}{z:Str}{t:Tr}{F:Nat->Bool},(zo c x y)[i]?=some (z,t)->mT d st rm t=F->Tl H f z nF F):Far H f nF c (mT d st rm x) (mT d st rm y):=
 ⟨tl (i:=9) rfl (Zeo x),tl (i:=8) rfl (ZaD x),tl (i:=12) rfl (Jw x y),tl (i:=4) rfl (Zgf (show YO (.wit (c:Nat)) 2 from⟨⟨by lia,by lia⟩,rfl⟩) x y)⟩
def ZfY(TP:Addr)(K:W.Frag)(a:Adr):Sp:=fun vs H Q _=>∃(p:Addr) (ns:82),vs=[.ref p]/\SqL K H p (ns.map V.int)/\ns.length<=63/\H TP=some (.tbl #[])/\∀H',Q (.bl true) H'
theorem ZgF{a:Adr}(T:Txt K mg a)(hw:w.params=a.Pm){TP:Addr}(pQ:a.z52.code=.ref tc)(hC:W.codeHdIn K tc TP=true)(B6:base.BuiltinsAt mg TP):WK P w K mg base CX0 11 a.y52 a.z52 dM (ZfY TP K a):=by
 have aB:=zW (P:=P) (w:=w) (base:=base) T hw 8;refine T.cL.f.okT XT pQ (fun vs H Q E h=>?_) (fun A outer s H vs Q E hr h=>?_)
 ·obtain⟨_,_,rfl,_⟩:=h;rfl
 ·obtain⟨p,ns,rfl,hq,hz,hT,k⟩:=h;refine⟨_,(@Zd _ _ _ _ _ (@Zu _ _ (1) _ _ _ _ XT.nd rfl (.inl rfl) (ZD T.bv (vR T hw) hr rfl rfl (@Za _ _ _ _ _ (ZD T.aT (VG T hw) hr rfl rfl (@Za _ _ _ _ _ (ZD T.aD (WC T hw) hr rfl rfl (@Za _ _ _ _ _ (pv 0) (@Za _ _ _ _ _ Zi Zb rfl) rfl)) Zb rfl)) Zb rfl)) rfl (.inl rfl)) (@Zd _ _ _ _ _ (@Zu _ _ (2) _ _ _ _ XT.nd rfl (.inl rfl) (ZD T.bQ (J6 T hw) hr rfl rfl (@Za _ _ _ _ _ (ZD T.aT (VG T hw) hr rfl rfl (@Za _ _ _ _ _ (ZD T.aD (WC T hw) hr rfl rfl (@Za _ _ _ _ _ (pv 0) (@Za _ _ _ _ _ Zi Zb rfl) rfl)) Zb rfl)) (@Za _ _ _ _ _ (pv 1) Zb rfl) rfl)) rfl (.inl rfl)) (@Zd _ _ _ _ _ (@Zu _ _ (3) _ _ _ _ XT.nd rfl (.inl rfl) (ZD T.aT (VG T hw) hr rfl rfl (@Za _ _ _ _ _ (ZD T.aD (WC T hw) hr rfl rfl (@Za _ _ _ _ _ (pv 0) (@Za _ _ _ _ _ Zi Zb rfl) rfl)) Zb rfl)) rfl (.inl rfl)) (@Zd _ _ _ _ _ (@Zu _ _ (4) _ _ _ _ XT.nd rfl (.inl rfl) (WN aB (rmL hr rfl) rfl T.ab.g T.ab.f.kp T.ab.n .nil Xs (@Za _ _ _ _ _ (pv 3) (@Za _ _ _ _ _ (ZD T.aa (ZJ T hw) hr rfl rfl (@Za _ _ _ _ _ (pv 3) (@Za _ _ _ _ _ Zi Zb rfl) rfl)) Zb rfl) rfl)) rfl (.inl rfl)) (@Zd _ _ _ _ _ (@Zu _ _ (5) _ _ _ _ XT.nd rfl (.inl rfl) (WN aB (rmL hr rfl) rfl T.ab.g T.ab.f.kp T.ab.n .nil Xs (@Za _ _ _ _ _ (pv 3) (@Za _ _ _ _ _ (ZD T.aa (ZJ T hw) hr rfl rfl (@Za _ _ _ _ _ (pv 3) (@Za _ _ _ _ _ Zi Zb rfl) rfl)) Zb rfl) rfl)) rfl (.inl rfl)) (@Zd _ _ _ _ _ (@Zu _ _ (6) _ _ _ _ XT.nd rfl (.inl rfl) (Zn (Zbh rfl) rfl T.cM PyProof.Rows.Boot.«min» (@Za _ _ _ _ _ (ZD T.aa (ZJ T hw) hr rfl rfl (@Za _ _ _ _ _ (pv 3) (@Za _ _ _ _ _ Zi Zb rfl) rfl)) (@Za _ _ _ _ _ (@ZO _ _ _ _ _ _ _ _ yM Zi (@ZO _ _ _ _ _ _ _ _ YY (@ZO _ _ _ _ _ _ _ _ YY (ZD T.bK (xL T hw) hr rfl rfl (@Za _ _ _ _ _ (ZD T.bq (qE T hw) hr rfl rfl (@Za _ _ _ _ _ (pv 4) Zb rfl)) Zb rfl)) (ZD T.bK (xL T hw) hr rfl rfl (@Za _ _ _ _ _ (ZD T.bq (qE T hw) hr rfl rfl (@Za _ _ _ _ _ (pv 5) Zb rfl)) Zb rfl))) Zi)) Zb rfl) rfl)) rfl (.inl rfl)) (@Zd _ _ _ _ _ (@Zu _ _ (7) _ _ _ _ XT.nd rfl (.inl rfl) (@ZO _ _ _ _ _ _ _ _ YY (Zn (Zw (K:=K) rfl) rfl T.az ng (@Za _ _ _ _ _ (@Zq _ _ _ _ _ _ _ (ZU (K:=K) rfl) (pv 2) Zi (fun _ _=>rfl)) Zb rfl)) (@ZO _ _ _ _ _ _ _ _ zZ Zi (Zn (Zw (K:=K) rfl) rfl T.az ng (@Za _ _ _ _ _ (@Zq _ _ _ _ _ _ _ (ZU (K:=K) rfl) (pv 2) Zi (fun _ _=>rfl)) Zb rfl)))) rfl (.inl rfl)) (@Zd _ _ _ _ _ (@Zu _ _ (8) _ _ _ _ XT.nd rfl (.inl rfl) (@ZO _ _ _ _ _ _ _ _ YY (@ZO _ _ _ _ _ _ _ _ YY (Zn (Zw (K:=K) rfl) rfl T.az ng (@Za _ _ _ _ _ (@Zq _ _ _ _ _ _ _ (ZU (K:=K) rfl) (pv 2) Zi (fun _ _=>rfl)) Zb rfl)) (@ZO _ _ _ _ _ _ _ _ zZ Zi (Zn (Zw (K:=K) rfl) rfl T.az ng (@Za _ _ _ _ _ (@Zq _ _ _ _ _ _ _ (ZU (K:=K) rfl) (pv 2) Zi (fun _ _=>rfl)) Zb rfl)))) Zi) rfl (.inl rfl)) (@Zd _ _ _ _ _ (@Zu _ _ (9) _ _ _ _ XT.nd rfl (.inr rfl) L3.pe_dnewK rfl (.inl rfl)) (@Zd _ _ _ _ _ (@Zu _ _ (10) _ _ _ _ XT.nd rfl (.inl rfl) (Zd2 (zd Zl (pv 4) (zd Zl (pv 5) (zd Zl (@ZI _ _ _ _ _ (@Za _ _ _ _ _ Zl (@Za _ _ _ _ _ (@ZI _ _ _ _ _ (@Za _ _ _ _ _ (pv 4) (@Za _ _ _ _ _ (pv 5) Zb rfl) rfl)) Zb rfl) rfl)) (zd Zl (@ZI _ _ _ _ _ (@Za _ _ _ _ _ Zl (@Za _ _ _ _ _ (@ZI _ _ _ _ _ (@Za _ _ _ _ _ (pv 4) (@Za _ _ _ _ _ (pv 5) Zb rfl) rfl)) Zb rfl) rfl)) Zea)))) rfl rfl 47 48) rfl (.inl rfl)) (@Zd _ _ _ _ _ (zM (VT hr) (pv 10) Zl (@ZI _ _ _ _ _ (@ZA _ _ _ _ _ Zl (@ZA _ _ _ _ _ (pv 6) (@ZA _ _ _ _ _ (pv 4) (@ZA _ _ _ _ _ (pv 5) Zb rfl) rfl) rfl) rfl)) rfl) (@Zd _ _ _ _ _ (Xv fP rfl (Yn (K:=K) rfl (@Yd _ _ _ _ (@ZA _ _ _ _ _ Zl (@ZA _ _ _ _ _ Zl (@ZA _ _ _ _ _ Zl (@ZA _ _ _ _ _ Zl (@ZA _ _ _ _ _ Zl (@ZA _ _ _ _ _ Zl (@ZA _ _ _ _ _ Zl Zb rfl) rfl) rfl) rfl) rfl) rfl) rfl))) (Zz (i:=11) XT.nd rfl (.inl rfl)) (@Zg _ _ _ (zM (VT hr) (pv 10) (pv 11) (@ZI _ _ _ _ _ (@Za _ _ _ _ _ (pv 11) (@Za _ _ _ _ _ (pv 4) Zb rfl) rfl)) rfl))) (@Zd _ _ _ _ _ (Xv fP rfl (Yn (K:=K) rfl (@Yd _ _ _ _ (@Za _ _ _ _ _ Zl (@Za _ _ _ _ _ Zl Zb rfl) rfl))) (Zz (i:=11) XT.nd rfl (.inl rfl)) (@Zg _ _ _ (zM (VT hr) (pv 10) (pv 11) (@ZI _ _ _ _ _ (@ZA _ _ _ _ _ (pv 11) (@ZA _ _ _ _ _ (pv 4) (@ZA _ _ _ _ _ (pv 5) Zb rfl) rfl) rfl)) rfl))) (@Zd _ _ _ _ _ (Xv fP rfl (Zhb (pv 10)) (Zz (i:=11) XT.nd rfl (.inl rfl)) (@Zg _ _ _ (zM (VT hr) (pv 9) (pv 11) (ZD T.bt (vF T hw) hr rfl rfl (@ZA _ _ _ _ _ (pv 1) (@ZA _ _ _ _ _ (pv 2) (@ZA _ _ _ _ _ (ZD T.bq (qE T hw) hr rfl rfl (@Za _ _ _ _ _ (Ul (VT hr) (pv 10) (pv 11) (fun _ _=>rfl)) Zb rfl)) (@ZA _ _ _ _ _ (@Yd _ _ _ _ Zb) (@ZA _ _ _ _ _ (pv 8) Zb rfl) rfl) rfl) rfl) rfl)) rfl))) (@Zd _ _ _ _ _ (Zgl (name := "_law_told") (qual := "law.<locals>._law_told") (params:=XO VM) (body:=YI VM) (fsc:=Zh VM) (i:=12) (clos:=[("_law_rows",s.heap.objs.size+1)]) B6 rfl hC rfl rfl rfl rfl rfl XT.nd rfl (.inl rfl)) (@Zd _ _ _ _ _ (@ZQ _ _ _ _ _ _ _ _ (@Xj _ _ _ _ (XR (JY (j:=9) (VL T hw) (rmL hr rfl) rfl T.ae.g T.ae.f.kp T.ae.n rfl rfl rfl rfl rfl (@ZA _ _ _ _ _ (pv 12) (@ZA _ _ _ _ _ (Ul (VT hr) (pv 9) Zl (fun _ _=>rfl)) (@ZA _ _ _ _ _ (Ul (VT hr) (pv 9) Zl (fun _ _=>rfl)) (@ZA _ _ _ _ _ (pv 7) Zb rfl) rfl) rfl) rfl)))) (@Zg _ _ _ (@Zm _ _ _ _ YL)) Zx) (@Zg _ _ _ (@Zm _ _ _ _ (JY (j:=9) (zb T hw) (rmL hr rfl) rfl T.ay.g T.ay.f.kp T.ay.n rfl rfl rfl rfl rfl (@ZA _ _ _ _ _ (pv 12) (@ZA _ _ _ _ _ (Ul (VT hr) (pv 9) Zl (fun _ _=>rfl)) (@ZA _ _ _ _ _ (Ul (VT hr) (pv 9) Zl (fun _ _=>rfl)) (@ZA _ _ _ _ _ (pv 7) (@ZA _ _ _ _ _ (pv 8) (@ZA _ _ _ _ _ (pv 6) Zb rfl) rfl) rfl) rfl) rfl) rfl)))))))))))))))))))),?_⟩;refine⟨_,rfl,p,ns,0,rfl,hq,fun n0=>⟨n0,rfl,fun H1 Sq s1 Eh oQ=>⟨Sq,0,rfl,oQ,by left,fun H2 w d x2 w2 gd n6=>?_⟩⟩⟩;have u2:=WV s1 Eh x2;refine⟨_,rfl,p,ns,1,rfl,u2.seq hq,fun n1=>⟨n1,rfl,fun H3 s' s3 Hx pO=>⟨_,rfl,s',w,0,d,rfl,pO,by left,w2.mono s3,gd,n6,fun H4 rn way ring x4 r4 OW=>?_⟩⟩⟩;have Ef:=WV s3 Hx x4;have w4:=w2.mono Ef;have u4:=u2.trans Ef;have IA:=u4.seq hq;clear u2 Ef x2 x4 s1 Eh oQ s3 Hx pO w2 hq;refine⟨_,rfl,p,ns,2,rfl,IA,fun n2=>⟨n2,rfl,fun H5 t s5 t0 rE=>?_⟩⟩;refine⟨_,rfl,_,rfl,t,3,0,rfl,rE,by left,by left,by left,fun H6 r1 x6 Dq hr1=>⟨t,1,r1,rfl,by lia,by lia,Dq,?_,fun H7 v1 t1 x7 uG rq LJ Il O1 CZ=>?_⟩⟩
  ·have:=iJ (show 0<5 by left) (show r1+1<=3 by lia);lia
  have q5:=iJ (show 0<5 by left) (show r1+1<=3 by lia);refine⟨_,rfl,_,rfl,t,2,_,rfl,uG,by lia,by left,by left,fun H8 r2 x8 MI pz=>⟨t,_,r2,rfl,by lia,by lia,MI,?_,fun H9 v2 t2 x9 Fc ox Ix Mw SN DW=>?_⟩⟩
  ·have:=iJ (show 0<5 by left) (show r2+1<=2 by lia);lia
  have q6:=iJ (show 0<5 by left) (show r2+1<=2 by lia);refine⟨_,rfl,t,6,_,rfl,Fc,by lia,by left,by left,fun Dr r3 x10 Ey Fu=>?_⟩;have u10:Zf H4 Dr:=WV s5 t0 (x6.trans (x7.trans (x8.trans (x9.trans x10))));obtain⟨o7,Hu⟩:=uG.lst;obtain⟨o9,Mq⟩:=Fc.lst;have a1:At K 3 Dr v1 t1:=(rq.mono (Zr.tup (x8.trans (x9.trans x10)) Hu)).fit (eW rq.hgt_le 21);have a2:At K 3 Dr v2 t2:=(ox.mono (Zr.tup x10 Mq)).fit (eW ox.hgt_le 21);have p1:=iJ (show 0<2 by left) (show r1<=2 by lia);have p2:=iJ (show 0<2 by left) (show r2<=1 by lia);have p3:=iJ (show 0<3 by left) (show r1+1<=3 by lia);have p4:=iJ (show 0<3 by left) (show r2+1<=2 by lia);have g1:wgt t1<=112:=by lia
  have g2:wgt t2<=38:=by lia
  have l1:(post t1).length<=27:=by lia
  have l2:(post t2).length<=9:=by lia
  have e1:Yv (ZH t1)<=6:=by lia
  have e2:Yv (ZH t2)<=6:=by lia
  clear x6 x7 x8 x9 x10 rE Dq uG MI Fc Ey rq ox LJ Ix Il Mw CZ DW Hu Mq q5 q6 p1 p2 p3 p4;have c1:=UL _ _ a1.ok;have c2:=UL _ _ a2.ok;have z1:psz (ZH t1)<=724726:=eW c1.2.2.1 (Zce 48);have z2:psz (ZH t2)<=724726:=eW c2.2.2.1 (Zce 48);refine⟨_,rfl,v1,t1,3,rfl,a1,by lia,fun GV w1 u11 b1=>⟨w1,_,_,rfl,b1,by lia,fun H12 wD=>?_⟩⟩;refine⟨_,rfl,v2,t2,3,rfl,a2.mono (m5 (u11.trans wD)),by lia,fun H13 Rj Az b2=>⟨Rj,_,_,rfl,b2,by lia,fun ES wF=>⟨_,_,rfl,rfl,_,_,rfl,rfl,_,_,rfl,rfl,⟨by lia,by lia⟩,_,_,rfl,?_⟩⟩⟩;have RT:=b1.ok;have Ni:=b2.ok;have re:=u11.trans (wD.trans (Az.trans wF));have a1:=a1.mono (m5 re);have a2:=a2.mono (m5 re);have wF:=u10.trans re;have NE:=w4.mono wF;have D9:=r4.mono wF;have LY:=wF _ _ (u4 _ _ hT);obtain⟨c,hc,c5⟩:∃c:Nat,(if(400/(((psz (ZH t1):Nat):Int)+((psz (ZH t2):Nat):Int)+9):Int)<(r3:Nat) then(400/(((psz (ZH t1):Nat):Int)+((psz (ZH t2):Nat):Int)+9):Int) else(r3:Nat))=(c:Nat)/\c<=5:=by
   have h0:(0:Int)<=400/(((psz (ZH t1):Nat):Int)+((psz (ZH t2):Nat):Int)+9):=Int.ediv_nonneg 48 21;generalize (400/(((psz (ZH t1):Nat):Int)+((psz (ZH t2):Nat):Int)+9):Int)=y at h0
   split
   ·exact⟨y.toNat,by lia,by lia⟩
   ·exact⟨r3,rfl,by lia⟩
  rw[hc];have ND:=c1.2.2.2.1;have Sf:=c2.2.2.2.1;clear u10 u11 wD Az re wF b1 b2 c1 c2 z1 z2 w4 r4 s5 IA u4 hT hc;obtain⟨⟨W,GR,tH,hW,hG⟩,nM,hb⟩:=D9;have D9:vn ES rn d.signs.length way ring:=⟨⟨W,GR,tH,hW,hG⟩,nM,hb⟩;refine⟨_,rfl,rn,_,_,_,rfl,rfl,m6 tH,72,.inl ⟨W,_,rfl,.inl (mZ hW),?_⟩⟩;refine⟨_,rfl,rn,_,_,_,rfl,rfl,m6 tH,Zj (j:=1) rfl,.inl ⟨GR,_,rfl,.inl (mZ hG),?_⟩⟩;rw[eG,eG];refine⟨_,_,rfl,rfl,.inl ⟨by left,by left⟩,_,_,rfl,rfl,?_⟩;refine⟨_,rfl,rn,_,_,_,rfl,rfl,m6 tH,72,.inl ⟨W,_,rfl,.inl (mZ hW),?_⟩⟩;refine⟨_,rfl,rn,_,_,_,rfl,rfl,m6 tH,Zj (j:=1) rfl,.inl ⟨GR,_,rfl,.inl (mZ hG),?_⟩⟩;rw[eG,eG];refine⟨_,_,rfl,rfl,.inl ⟨by left,by left⟩,_,_,rfl,rfl,_,_,rfl,rfl,?_⟩;obtain⟨many,t7,em⟩:∃m:Nat,((way.length:Nat):Int)+2*((ring.length:Nat):Int)=((m:Nat):Int)/\m=way.length+2*ring.length:=⟨_,by lia,rfl⟩;obtain⟨nF,DO,GW⟩:∃m:Nat,((way.length:Nat):Int)+12*((ring.length:Nat):Int)+7=((m:Nat):Int)/\m=way.length+12*ring.length+7:=⟨_,by lia,rfl⟩;rw[t7,DO];have ON:=OW;rw[eK] at ON
  show xZ (Zeh L3.tDNewK (WA 9)) _ _ [qr0 p,qr0 w,qr0 rn,qr0 t,some v1,some v2,some (.int (c:Nat)),some (.int (many:Nat)),some (.int (nF:Nat)),none,none,none,none] ES
  refine fun R hR=>?_;obtain⟨D4,qN,y1,eR⟩:=Yl (o:=.dK []) hR;rw[qN];refine fun S hS=>?_;obtain⟨H16,qN,y2,eS⟩:=Yl (o:=.dK []) hS;rw[qN];refine⟨_,rfl,_,rfl,_,rfl,_,rfl,sz2,fun f1 MP=>?_⟩;obtain⟨H17,qN,y3,Ld⟩:=Yl (o:=.tup [v1,v2]) MP;rw[qN];refine⟨sz2,fun f2 MR=>?_⟩;obtain⟨H18,qN,y4,Mi⟩:=Yl (o:=.tup [.str "and",.ref f1]) MR;rw[qN];refine⟨_,rfl,_,rfl,sz2,fun f3 EG=>?_⟩;obtain⟨H19,qN,y5,Lw⟩:=Yl (o:=.tup [v1,v2]) EG;rw[qN];refine⟨sz2,fun f4 GC=>?_⟩;obtain⟨uZ,qN,y6,I0⟩:=Yl (o:=.tup [.str "or",.ref f3]) GC;rw[qN];have tO:=y3.trans (y4.trans (y5.trans y6));have sK:=tO _ _ eS;have y20:=y1.trans (y2.trans tO);have A1:=a1.mono (m5 y20);have A2:=a2.mono (m5 y20);have aL:AtL K 3 uZ [v1,v2] [t1,t2]:=(AtL.one A1).app (AtL.one A2);have A3:At K 4 uZ (.ref f2) (.node (.many "and") [t1,t2]):=xO (m6 (y6 _ _ (y5 _ _ Mi))) (m6 (y6 _ _ (y5 _ _ (y4 _ _ Ld)))) aL (.inl rfl) (show 2<=8 by left);have A4:At K 4 uZ (.ref f4) (.node (.many "or") [t1,t2]):=xO (m6 I0) (m6 (y6 _ _ Lw)) aL (.inr rfl) (show 2<=8 by left);have up:∀{H:Hp}{v:V}{t:Tr},At K 3 H v t->At K 4 H v t:=fun h=>h.fit (eW h.hgt_le 48);refine⟨sK,[(.inr "one",v1),(.inr "other",v2),(.inr "and",.ref f2),(.inr "or",.ref f4)],rfl,(show 4<=15 by left),?_⟩;have E4:Ent (At K 4 uZ) (qH [] [(.inr "one",v1),(.inr "other",v2),(.inr "and",.ref f2),(.inr "or",.ref f4)]) [("one",t1),("other",t2),("and",.node (.many "and") [t1,t2]),("or",.node (.many "or") [t1,t2])]:=
   (((Ent.nil.put (z := "one") 47 (up A1)).put (z := "other") (show("other" : Str)∉(["one"]:50) by left) (up A2)).put (z := "and") (show("and" : Str)∉(["one","other"]:50) by left) A3).put (z := "or") (show("or" : Str)∉(["one","other","and"]:50) by left) A4
  generalize qH [] [((ζ "one" : Key),v1),(.inr "other",v2),(.inr "and",.ref f2),(.inr "or",.ref f4)]=kvs at E4;have En:Zr S D4 (upd uZ S (.dK kvs)):=(Zf.x (y2.trans tO)).trans jM;have E4:=E4.mono fun v t h=>h.mono (XD (o:=.dK kvs) sK);have A1:=A1.mono (XD (o:=.dK kvs) sK);have A2:=A2.mono (XD (o:=.dK kvs) sK);have uR:(upd uZ S (.dK kvs)) S=some (.dK kvs):=Zc;generalize upd uZ S (.dK kvs)=Ri at En E4 A1 A2 uR;clear A3 A4 aL Ld Mi Lw I0 sK tO y20 y3 y4 y5 y6 MP MR EG GC a1 a2;dsimp only[WA]
  show xZ (Zfv _ _ _) _ _ [qr0 p,qr0 w,qr0 rn,qr0 t,some v1,some v2,some (.int (c:Nat)),some (.int (many:Nat)),some (.int (nF:Nat)),qr0 R,qr0 S,none,none] Ri
  refine⟨_,rfl,_,rfl,_,rfl,sz4,fun f5 Mo=>?_⟩;obtain⟨CS,qN,y7,HF⟩:=Yl (o:=.tup [.str "within",.int (c:Nat),v1,v2]) Mo;rw[qN];have A1:=A1.mono (m5 y7);have A2:=A2.mono (m5 y7);have sT:=y7 _ _ uR;refine⟨_,rfl,S,_,rfl,yC.k (k:=.inr "within") sT (by rw[E4.len,eJ];exact(by left:4<16777216)),?_⟩;have E5:Ent (At K 4 CS) (Xr kvs (.inr "within") (.ref f5)) (pt5 c t1 t2):=(E4.mono fun v t h=>h.mono (m5 y7)).put (z := "within") (show("within" : Str)∉(["one","other","and","or"]:50) by left) (ZcL (m6 HF) ⟨by lia,by lia⟩ A1 A2);generalize Xr kvs (.inr "within") (.ref f5)=kvs at E5;have Fj:Zr S D4 (upd CS S (.dK kvs)):=(En.trans (Zf.x y7)).trans jM;have E5:=E5.mono fun v t h=>h.mono (XD (o:=.dK kvs) sT);have A1:=A1.mono (XD (o:=.dK kvs) sT);have A2:=A2.mono (XD (o:=.dK kvs) sT);have tX:(upd CS S (.dK kvs)) S=some (.dK kvs):=Zc;generalize upd CS S (.dK kvs)=Ro at Fj E5 A1 A2 tX;clear E4 En uR sT y7 HF Mo;refine⟨sz7,fun L hL=>?_⟩;obtain⟨BB,qN,y8,eL⟩:=Yl (o:=.lst (Vc.map V.str)) hL;rw[show upd Ro L (.lst [.str "not",.str "next",.str "before",.str "always",.str "ever",.str "once",.str "sofar"])=BB from qN];have uQ:L≠S:=fun z=>by rw[z,tX] at hL;cases hL
  refine⟨L,rfl,⟨_,mZ eL⟩,?_⟩
  let J1:Nat->L2.St->Hp->Prop:=fun i σ F=>Ex2 fun(z:Option V) (kvs:List (Key×V))=>Cj6 (σ=[qr0 p,qr0 w,qr0 rn,qr0 t,some v1,some v2,some (.int (c:Nat)),some (.int (many:Nat)),some (.int (nF:Nat)),qr0 R,qr0 S,z,none]) (Zr S BB F) (F S=some (.dK kvs)) (Ent (At K 4 F) kvs (pt5 c t1 t2++(Vc.take i).map (fun w=>(w,.node (.op w) [t1])))) (At K 3 F v1 t1) (At K 3 F v2 t2)
  refine qY (K:=K) (xs:=Vc.map V.str) J1 ?_ ?_ ?_ ?_
  ·exact⟨_,kvs,rfl,.refl _,y8 _ _ tX,by simpa using E5.mono fun v t h=>h.mono (m5 y8),A1.mono (m5 y8),A2.mono (m5 y8)⟩
  ·rintro i σ F hi ⟨z,kvs,rfl,xF,_⟩;exact mZ (xF _ _ uQ eL)
  ·rintro i x σ F hx ⟨z,kvs,rfl,xF,eF,E,A1,A2⟩;have li:i<Vc.length:=by have:=(eY.mp hx).1;rw[eG] at this;exact this
   rw[eO,eI li] at hx;cases hx;refine⟨_,rfl,_,rfl,sz2,fun q hq=>?_⟩;obtain⟨F1,qN,u1,eq⟩:=Yl (o:=.tup [.str Vc[i],v1]) hq;rw[qN];have tS:=u1 _ _ eF;have E1:=E.mono fun v t h=>h.mono (m5 u1);have ln:(pt5 c t1 t2++(Vc.take i).map (fun w=>(w,Tr.node (.op w) [t1]))).length<=12:=by
    rw[eK,eG,fh,xD];show 5+_<=12;lia
   refine⟨_,rfl,_,rfl,S,_,rfl,yC.k (k:=.inr Vc[i]) tS (by rw[E1.len,eJ];lia),?_⟩;have E2:=E1.put (z:=Vc[i]) (v:=.ref q) (t:=.node (.op Vc[i]) [t1]) (by rw[fo,fL,show(ε∘fun w=>(w,Tr.node (.op w) [t1]))=id from rfl,i3];exact Zgr i li) (X2 (m6 eq) (Zgj _ (fv li)) (A1.mono (m5 u1)));refine⟨_,_,rfl,(xF.trans (Zf.x u1)).trans jM,Zc,?_,(A1.mono (m5 u1)).mono (XD tS),(A2.mono (m5 u1)).mono (XD tS)⟩;rw[mJ li,fo,<- gY];exact E2.mono fun v t h=>h.mono (XD tS)
  rw[eG];rintro σ Pb ⟨z,kvs,rfl,GT,wu,E6,A1,A2⟩;rw[iy (eE _)] at E6;have Lh:=(Fj.trans (Zf.x y8)).trans GT;clear GT uQ eL hL y8 Fj E5 tX;refine⟨sz2,fun L hL=>?_⟩;obtain⟨BB,qN,y8,eL⟩:=Yl (o:=.lst (UE.map V.str)) hL;rw[show upd Pb L (.lst [.str "until",.str "since"])=BB from qN];have uQ:L≠S:=fun z=>by rw[z,wu] at hL;cases hL
  refine⟨L,rfl,⟨_,mZ eL⟩,?_⟩
  let J2:Nat->L2.St->Hp->Prop:=fun i σ F=>Ex2 fun(z:Option V) (kvs:List (Key×V))=>Cj6 (σ=[qr0 p,qr0 w,qr0 rn,qr0 t,some v1,some v2,some (.int (c:Nat)),some (.int (many:Nat)),some (.int (nF:Nat)),qr0 R,qr0 S,z,none]) (Zr S BB F) (F S=some (.dK kvs)) (Ent (At K 4 F) kvs (pt5 c t1 t2++Vc.map (fun w=>(w,.node (.op w) [t1]))++(UE.take i).map (fun w=>(w,.node (.op w) [t1,t2])))) (At K 3 F v1 t1) (At K 3 F v2 t2)
  refine qY (K:=K) (xs:=UE.map V.str) J2 ?_ ?_ ?_ ?_
  ·exact⟨_,kvs,rfl,.refl _,y8 _ _ wu,by simpa using E6.mono fun v t h=>h.mono (m5 y8),A1.mono (m5 y8),A2.mono (m5 y8)⟩
  ·rintro i σ F hi ⟨z,kvs,rfl,xF,_⟩;exact mZ (xF _ _ uQ eL)
  ·rintro i x σ F hx ⟨z,kvs,rfl,xF,eF,E,A1,A2⟩;have li:i<UE.length:=by have:=(eY.mp hx).1;rw[eG] at this;exact this
   rw[eO,eI li] at hx;cases hx;refine⟨_,rfl,_,rfl,_,rfl,sz3,fun q hq=>?_⟩;obtain⟨F1,qN,u1,eq⟩:=Yl (o:=.tup [.str UE[i],v1,v2]) hq;rw[qN];have tS:=u1 _ _ eF;have E1:=E.mono fun v t h=>h.mono (m5 u1);have ln:(pt5 c t1 t2++Vc.map (fun w=>(w,Tr.node (.op w) [t1]))++(UE.take i).map (fun w=>(w,Tr.node (.op w) [t1,t2]))).length<=14:=by
    rw[eK,eK,eG,eG,fh,xD];show 5+7+min i 2<=14;lia
   refine⟨_,rfl,_,rfl,S,_,rfl,yC.k (k:=.inr UE[i]) tS (by rw[E1.len,eJ];lia),?_⟩;have E2:=E1.put (z:=UE[i]) (v:=.ref q) (t:=.node (.op UE[i]) [t1,t2]) (by rw[fo,fo,fL,fL,show(ε∘fun w=>(w,Tr.node (.op w) [t1]))=id from rfl,show(ε∘fun w=>(w,Tr.node (.op w) [t1,t2]))=id from rfl,i3,i3];exact ZgR i li) (yd (m6 eq) (Zgg _ (fv li)) (A1.mono (m5 u1)) (A2.mono (m5 u1)));refine⟨_,_,rfl,(xF.trans (Zf.x u1)).trans jM,Zc,?_,(A1.mono (m5 u1)).mono (XD tS),(A2.mono (m5 u1)).mono (XD tS)⟩;rw[mJ li,fo,<- gY];exact E2.mono fun v t h=>h.mono (XD tS)
  rw[eG];rintro σ C7 ⟨z,kvs,rfl,Ib,wg,E7,A1,A2⟩;rw[iy (eE _)] at E7;have E7:Ent (At K 4 C7) kvs (zo c t1 t2):=E7;have Mn:=(Lh.trans (Zf.x y8)).trans Ib;clear Ib uQ eL hL y8 Lh E6 wu A1 A2;have RS:R≠S:=fun z=>by rw[<- z,eR] at hS;cases hS
  refine⟨_,rfl,S,kvs,rfl,wg,fun o=>?_⟩;have Dk:Zr S D4 (upd C7 S (.frz o (.dK kvs))):=Mn.trans jM;have E8:=E7.mono fun v t h=>h.mono (XD (o:=.frz o (.dK kvs)) wg);have r9:(upd C7 S (.frz o (.dK kvs))) S=some (.frz o (.dK kvs)):=Zc;generalize upd C7 S (.frz o (.dK kvs))=HG at Dk E8 r9;clear E7 Mn wg;have wm:=Dk _ _ RS eR;have ua:Zf ES HG:=WV y1 (y1.free hS) Dk;have nd:(kvs.map (·.1)).Nodup:=by
   rw[E8.keys,yJ];left
  have BF:=Zf4 (c:=c) g1 g2 l1 l2 O1 SN
  let J3:Nat->L2.St->Hp->Prop:=fun i σ F=>Ex2 fun(z:Option V) (rk:List (Key×V))=>Cj4 (σ=[qr0 p,qr0 w,qr0 rn,qr0 t,some v1,some v2,some (.int (c:Nat)),some (.int (many:Nat)),some (.int (nF:Nat)),qr0 R,qr0 S,z,none]) (Zr R HG F) (F R=some (.dK rk)) (Ent (RwP F nF (mT d (fun _=>[]) (XY way ring))) rk ((zo c t1 t2).take i))
  refine XQ (J:=ItK S o kvs) (n:=kvs.length) J3 ?_ ?_ ?_ ?_ ?_
  ·exact⟨_,[],rfl,.refl _,wm,.nil⟩
  ·rintro i σ F hi ⟨z,rk,rfl,xF,_⟩;exact⟨xF _ _ RS.symm r9,hi⟩
  ·rintro σ F ⟨z,rk,rfl,xF,_⟩;exact⟨xF _ _ RS.symm r9,eE _⟩
  ·rintro i x σ F0 F hi ⟨z11,rk,rfl,xF,eF,Er⟩ ⟨rfl,e,he,rfl⟩;have li:i<(zo c t1 t2).length:=by rw[<- E8.len];exact hi
   obtain⟨⟨z,t'⟩,ht⟩:∃q,(zo c t1 t2)[i]?=some q:=⟨_,eI li⟩;obtain⟨v,hv,av⟩:=E8.at_ i z t' ht;rw[hv] at he;cases he;have sF:=WV ua hR xF;have Pc:=xF _ _ RS.symm r9;have CM:=av.mono (Zhd wm xF);obtain⟨gw,gl,gq⟩:=BF _ (fz ht);refine⟨_,rfl,_,rfl,_,rfl,_,rfl,S,v,rfl,.inl ⟨kvs,.inr z,.inr ⟨o,Pc⟩,rfl,(Uy nd hv).symm⟩,v,t',4,rfl,CM,by show(post t').length<=_;have:(post t').length<=100:=gl;lia,fun F1 cv u1 ac=>⟨sz0,fun sl C6=>?_⟩⟩;obtain⟨F2,qN,u2,SF⟩:=Yl (o:=.lst []) C6;rw[qN];have ca:=UL _ _ CM.ok;have cf:=ZaS CM.ok;have gw:wgt t'<=300:=gw;have s2:=sF.trans (u1.trans u2);refine⟨_,rfl,w,rn,sl,cv,nF,ZH t',d,fun _=>[],way,ring,rfl,⟨NE.mono s2,by lia,D9.mono s2,⟨_,ac.mono (m5 u2)⟩,ca.2.2.2.1,eW (eW ca.2.2.1 (Zce 48)) 48,by lia,⟨[],ZeY SF 21 (Kc _ _ CM.ok gq)⟩,?_⟩,by lia,fun F3 q u3 q0 hq=>?_⟩
   ·rw[eK];have:=Nat.mul_le_mul (show(Zp [] (post (ZH t'))).length<=301 by lia) (show ring.length+1<=12 by lia);lia
   have GS:=u3 _ _ (u2 _ _ (u1 _ _ eF));have lrk:rk.length<=14:=by rw[Er.len,fh,Kx];lia
   refine⟨_,rfl,_,rfl,R,_,rfl,yC.k (k:=.inr z) GS (by rw[eJ];lia),?_⟩;have Az:=u1.trans (u2.trans u3);have st:∀v t,RwP F nF (mT d (fun _=>[]) (XY way ring)) v t->RwP (upd F3 R (.dK (Xr rk (.inr z) (.ref q)))) nF (mT d (fun _=>[]) (XY way ring)) v t:=fun v t ⟨l,e,h⟩=>⟨l,e,by rw[Zo (fun y=>by rw[y,eF] at h;cases h)];exact Az _ _ h⟩;refine⟨_,_,rfl,(xF.trans (Zf.x Az)).trans jM,Zc,?_⟩;have e1:(zo c t1 t2)[i]=(z,t'):=fc ((eI li).symm.trans ht);rw[mJ li,e1];refine(Er.mono st).put ?_ ⟨q,rfl,?_⟩
   ·rw[hU,yJ];exact K4 Zew (by rw[<- yJ c t1 t2,eO,ht];rfl)
   ·rw[Zo (fun y=>by rw[y,GS] at hq;cases hq)];exact hq
  rw[E8.len,Kx];rintro σ Co ⟨z,rk,rfl,HM,uV,Er⟩;rw[show(zo c t1 t2).take 14=zo c t1 t2 from iy (eE _)] at Er;have HC:=WV ua hR HM;clear HM E8 r9 Dk BF nd wm;refine⟨HC _ _ LY,fun f cc doc ctv G9 hf wK Ow=>?_⟩;have Dn:=HC _ _ LY;have fTP:f≠TP:=fun z=>by rw[z,Dn] at hf;cases hf
  have cTP:cc≠TP:=fun z=>by rw[z,Dn] at wK;cases wK
  obtain⟨tQ,Ci⟩:∃H',upd (upd (upd Co TP (.tbl G9)) cc (j6 cc "law.<locals>._law_told")) f (FnF f (zY 76 cc doc ((mg "__name__").getD .none) ctv))=H':=⟨_,rfl⟩;have ef:tQ f=some (FnF f (zY 76 cc doc ((mg "__name__").getD .none) ctv)):=by rw[<- Ci,Zc]
  have AO:tQ cc=some (j6 cc "law.<locals>._law_told"):=by rw[<- Ci,Zo (eX Ow),Zc]
  have Ml:Zr TP Co tQ:=fun b u n e=>by rw[<- Ci,Zo (ZC e hf),Zo (ZC e wK),Zo n];exact e
  dsimp only
  show xZ (k4 _ _ _) _ _ [qr0 p,qr0 w,qr0 rn,qr0 t,some v1,some v2,some (.int (c:Nat)),some (.int (many:Nat)),some (.int (nF:Nat)),qr0 R,qr0 S,z,qr0 f] (upd (upd (upd Co TP (.tbl G9)) cc (j6 cc "law.<locals>._law_told")) f (FnF f (zY 76 cc doc ((mg "__name__").getD .none) ctv)))
  rw[Ci];clear Ci;have rz:=Ml _ _ (fun z=>by rw[z,Dn] at uV;cases uV) uV;have Er:=Er.mono fun v t (h:RwP Co _ _ v t)=>(let ⟨l,e,h⟩:=h; ⟨l,e,Ml _ _ (fun z=>by rw[z,Dn] at h;cases h) h⟩:RwP tQ _ _ v t);have Af:=ZeI Er;obtain⟨_,tz,lo1,rfl,pJ⟩:=Er.at_ 0 "one" t1 rfl;obtain⟨_,pK,wS,rfl,rN⟩:=Er.at_ 1 "other" t2 rfl;have EC:zi tQ R (.str "one") (some (.ref lo1)):=.inl ⟨rk,.inr "one",.inl rz,rfl,(Uy Af tz).symm⟩;have FW:zi tQ R (.str "other") (some (.ref wS)):=.inl ⟨rk,.inr "other",.inl rz,rfl,(Uy Af pK).symm⟩;have p1:1<=ring.length:=ij.mpr nM;refine⟨R,rfl,_,rfl,_,rfl,R,.ref lo1,rfl,EC,_,rfl,R,.ref wS,rfl,FW,_,rfl,fun hc oc rG=>?_⟩;obtain⟨Sg,qN,y30,ec⟩:=Yl (o:=Y3 76 oc) hc;rw[qN];have MJ:=Er.mono fun v t (h:RwP tQ _ _ v t)=>(let ⟨l,e,h⟩:=h; ⟨l,e,y30 _ _ h⟩:RwP Sg _ _ v t);refine⟨f,lo1,wS,many,nF,_,_,rfl,by lia,by lia,Zep (c:=c) (x:=t1) (y:=t2) fun hi eg=>ZfA rG (y30 _ _ ef) (y30 _ _ AO) ec (y30 _ _ rz) MJ Af hi eg,y30 _ _ pJ,y30 _ _ rN,fun IR y31=>⟨y31 _ _ ec,true,rfl,Z4 ?_⟩⟩;have y32:Zf tQ (drop IR 76):=fun b u e=>by rw[YW (ZC e hc)];exact y31 _ _ (y30 _ _ e)
  generalize drop IR 76=Ct at y32;clear y31 y30 ec MJ hc rG;have Rb:=Er.mono fun v t (h:RwP tQ _ _ v t)=>(let ⟨l,e,h⟩:=h; ⟨l,e,y32 _ _ h⟩:RwP Ct _ _ v t);have EC:zi Ct R (.str "one") (some (.ref lo1)):=.inl ⟨rk,.inr "one",.inl (y32 _ _ rz),rfl,(Uy Af tz).symm⟩;have FW:zi Ct R (.str "other") (some (.ref wS)):=.inl ⟨rk,.inr "other",.inl (y32 _ _ rz),rfl,(Uy Af pK).symm⟩;refine⟨R,rfl,_,rfl,_,rfl,R,.ref lo1,rfl,EC,_,rfl,R,.ref wS,rfl,FW,_,rfl,_,rfl,_,rfl,fun hc oc rG=>?_⟩;obtain⟨RU,qN,y33,ec⟩:=Yl (o:=Y3 76 oc) hc;rw[qN];have RV:=Rb.mono fun v t (h:RwP Ct _ _ v t)=>(let ⟨l,e,h⟩:=h; ⟨l,e,y33 _ _ h⟩:RwP RU _ _ v t);have y:=y32.trans y33;exact⟨f,lo1,wS,many,nF,c,_,_,rfl,by lia,by lia,QT nM RT ND e1 em GW,QT nM Ni Sf e2 em GW,ZgM (c:=c) (x:=t1) (y:=t2) c5 fun hi eg=>ZfA rG (y _ _ ef) (y _ _ AO) ec (y _ _ rz) RV Af hi eg,y _ _ pJ,y _ _ rN,fun H34 y34=>⟨y34 _ _ ec,k _⟩⟩
theorem ar1{P:List α->Prop}(h:∀a,P [a]):∀us:List α,us.length=1->P us
 |[a],_=>h a
theorem ar2{P:List α->Prop}(h:∀a b,P [a,b]):∀us:List α,us.length=2->P us
 |[a,b],_=>h a b
theorem ar3{P:List α->Prop}(h:∀a b c,P [a,b,c]):∀us:List α,us.length=3->P us
 |[a,b,c],_=>h a b c
theorem ar4{P:List α->Prop}(h:∀a b c d,P [a,b,c,d]):∀us:List α,us.length=4->P us
 |[a,b,c,d],_=>h a b c d
theorem ar5{P:List α->Prop}(h:∀a b c d e,P [a,b,c,d,e]):∀us:List α,us.length=5->P us
 |[a,b,c,d,e],_=>h a b c d e
theorem ar6{P:List α->Prop}(h:∀a b c d e f,P [a,b,c,d,e,f]):∀us:List α,us.length=6->P us
 |[a,b,c,d,e,f],_=>h a b c d e f
def Bd(x q:Str)(st:Stmt)(ps:50):Prop:=∀(kV doc pm:Value) (an:Option Addr) (cR ct:Value) (us:71),us.length=ps.length->bindArgs (W.fnOf x q (XO st) (YI st) (Zh st) .none kV doc pm an cR ct) ⟨us,[]⟩=pure (ps.zip us)
def spL(K:W.Frag):Sp:=fun vs H Q _=>∃(p:Addr) (ns:82),vs=[.ref p]/\SqL K H p (ns.map V.int)/\ns.length<=63/\H 425=some (.tbl #[])/\∀H',Q (.bl true) H'
structure Fx(K:W.Frag)(x:Str)(st:Stmt)(fa:Addr)(fd:FuncData):Prop where
 a:W.nsIn K mainGlobals x=some (some (.ref fa))
 f:Fun K x x st fa fd
structure Mx(K:W.Frag)(C:Addr)(x q:Str)(st:Stmt)(fa:Addr)(fd:FuncData):Prop where
 a:W.findIn K (.ref C) x=some (some (.ref fa))
 i:W.isFn K (.ref fa)=true
 f:Fun K x q st fa fd
section
variable{x q:Str}{st:Stmt}{f:Addr}{ps:List Str}{oc kV dc pm ct:Value}{sl:Array (Option Value)}
theorem Fx.m(a:W.nsIn K mainGlobals x=some (some (.ref f)))(l:K.lookup f=some ⟨oc,od,.func (W.fnOf x x (XO st) (YI st) (Zh st) .none kV dc pm an cd ct),sl⟩)(c:W.codeIn K cd x=true)(k:W.keepIn K (.ref f)=true):Fx K x st f (W.fnOf x x (XO st) (YI st) (Zh st) .none kV dc pm an cd ct):=⟨a,Zdz l c k⟩
theorem Mx.m(a:W.findIn K (.ref C) x=some (some (.ref f)))(i:W.isFn K (.ref f)=true)(l:K.lookup f=some ⟨oc,od,.func (W.fnOf x q (XO st) (YI st) (Zh st) .none kV dc pm an cd ct),sl⟩)(c:W.codeIn K cd q=true)(k:W.keepIn K (.ref f)=true):Mx K C x q st f (W.fnOf x q (XO st) (YI st) (Zh st) .none kV dc pm an cd ct):=⟨a,i,Zdz l c k⟩
theorem Fx.g(e:Fx K x st f fd)(X:K.In h)(G:h.Ns mainGlobals mg)(b:Bd x x st ps):Fg K mg x st ps f fd:=⟨e.f,e.f.binds b,gm X G e.a⟩
theorem Mx.g(e:Mx K C x q st f fd)(b:Bd x q st ps):Mg K C x q st ps f fd:=⟨e.f,e.f.binds b,⟨e.a,e.i,e.f.kp⟩⟩
end
theorem all_mk{fa:Addr}(X:K.In h)(G:h.Ns mainGlobals mg)(Dx:mg "law" = some (.ref fa))
  {f0 f1 f2 f3 f4 f5 f6 f7 f8 f9 He MQ IC GX HA HR Gz GU Ig Gn ID Lq GP LM HS Gk Gj Lg Lc LW FG FM Fl FL FU Et LZ LX Mh Lj IU HU Iv Hm MB Li LC HQ LQ Mm La Gy Sk:Addr}
  {C_Table C_World C_TimeError C_BadWorld C_BadSentence:Addr}
  {d0 d1 d2 d3 d4 d5 d6 d7 d8 d9 CC Cn CF C8 CD Df CL MS GQ Lf Md IZ IK Gb HJ IG Hh GH Mc MH Ho Hz Mv HI Lr Iw L7 IB MF ME GM Iu Ii Gr IV HV IX Hd IM MK Ir IT IS:FuncData}
  {D_LENGTHS:Addr}{pP:Nat}{pq px pf pc pb oZ o8 pj o5 pd oU:Tok}
  {D_LINES:Addr}{rW:Nat}
  {pZ oy oF oW py:Tok}
  {Y_YES:Addr}{uH:Nat}{sq:Tok}
  (O8:W.nsIn K mainGlobals "Table" = some (some (.ref C_Table)))
  (Py:W.nsIn K mainGlobals "World" = some (some (.ref C_World)))
  (S3:W.nsIn K mainGlobals "TimeError" = some (some (.ref C_TimeError)))
  (Oy:W.nsIn K mainGlobals "BadWorld" = some (some (.ref C_BadWorld)))
  (N5:W.nsIn K mainGlobals "BadSentence" = some (some (.ref C_BadSentence)))
  (e0:Fx K "is_whole" qG f0 d0)
  (e1:Fx K "is_name" V1 f1 d1)
  (e2:Fx K "is_room" zQ f2 d2)
  (e3:Fx K "are_names" Wr f3 d3)
  (e4:Fx K "are_rooms" Vy f4 d4)
  (e5:Fx K "last_ones" Vv f5 d5)
  (e6:Fx K "is_formed" Yk f6 d6)
  (e7:Fx K "inner_of" Wj f7 d7)
  (e8:Fx K "inner_ahead" Yq f8 d8)
  (e9:Fx K "core_of" WS f9 d9)
  (P6:Fx K "core_with" ZM He CC)
  (P9:Fx K "and_of" VO MQ Cn)
  (uB:Fx K "or_of" U3 IC CF)
  (Au:Fx K "within_of" Ww GX C8)
  (Tt:Fx K "row_with" Ug HA CD)
  (FK:Mx K C_Table "__init__" "Table.__init__" Uh HR Df)
  (Ox:Mx K C_Table "number_of" "Table.number_of" Ys Gz CL)
  (RG:Mx K C_Table "taken_in" "Table.taken_in" Y6 GU MS)
  (N3:Mx K C_Table "inner_numbers" "Table.inner_numbers" Zy Ig GQ)
  (Nn:Fx K "below" kZ Gn Lf)
  (OI:Fx K "size_of" zU ID Md)
  (S0:Fx K "read_along" Ud Lq IZ)
  (Oh:Fx K "ground_of" Wx GP IK)
  (Cb:Fx K "told_sets" Vw LM Gb)
  (Nb:Fx K "ground_rows" Z3 HS HJ)
  (OT:Fx K "room_truths" Yg Gk IG)
  (OL:Fx K "read_rows" ZY Gj Hh)
  (Nf:Fx K "trimmed" qb Lg GH)
  (RC:Fx K "stretched" Wy Lc Mc)
  (Tw:Fx K "stretched_both" XF LW MH)
  (OH:Fx K "not_line" Ub FG Ho)
  (Nr:Fx K "and_line" Uk FM Hz)
  (Tk:Fx K "next_line" UO Fl Mv)
  (NG:Fx K "until_line" YU FL HI)
  (Sy:Fx K "before_line" VI FU Lr)
  (PP:Fx K "since_line" Xz Et Iw)
  (F8:Mx K C_World "__init__" "World.__init__" YS LZ L7)
  (Tf:Mx K C_World "many" "World.many" Ua LX IB)
  (Rg:Mx K C_World "signs_of" "World.signs_of" Wg Mh MF)
  (Rn:Mx K C_World "ways_on" "World.ways_on" WG Lj ME)
  (Op:Mx K C_World "begins" "World.begins" W9 IU GM)
  (NA:Mx K C_World "fair_signs" "World.fair_signs" XS HU Iu)
  (SM:Fx K "makes_world" Yf Iv Ii)
  (OR:Fx K "are_some_rooms" Xy Hm Gr)
  (MU:Fx K "_law_cell_at" W5 MB IV)
  (RY:Fx K "_law_state" Uf Li HV)
  (Ou:Fx K "_law_digit" YT LC IX)
  (OB:Fx K "_law_world" Z6 HQ Hd)
  (Rv:Fx K "_law_run" Yo LQ IM)
  (Om:Fx K "_law_sentence" WF Mm MK)
  (Nq:Fx K "_law_neighbours_right" Y4 La Ir)
  (Pz:Fx K "_law_far_right" XE Gy IT)
  (D8:Fx K "law" Q4 Sk IS)
  (SB:W.plainGet K C_Table Str.empty=true)
  (Ol:W.hasDictIn K C_Table=true)
  (NB:W.plainOver K C_Table=true)
  (Rw:W.findIn K (.ref C_Table) "__setattr__" = some (some (.builtin "object.__setattr__")))
  (Nd:W.makesIn K C_Table=true)
  (S8:W.keepIn K (.ref C_Table)=true)
  (SJ:W.findIn K (.ref C_Table) "parts" = some none)
  (Rq:W.findIn K (.ref C_Table) "rows" = some none)
  (v4:W.findIn K (.ref C_Table) "numbers" = some none)
  (NI:W.plainGet K C_World Str.empty=true)
  (Nv:W.hasDictIn K C_World=true)
  (P7:W.plainOver K C_World=true)
  (Sm:W.findIn K (.ref C_World) "__setattr__" = some (some (.builtin "object.__setattr__")))
  (NS:W.makesIn K C_World=true)
  (Oq:W.keepIn K (.ref C_World)=true)
  (v1:W.findIn K (.ref C_World) "room_signs" = some none)
  (v3:W.findIn K (.ref C_World) "room_ways" = some none)
  (v0:W.findIn K (.ref C_World) "start_rooms" = some none)
  (v2:W.findIn K (.ref C_World) "fair_names" = some none)
  (R6:W.nsIn K mainGlobals "ValueError" = some none)
  (MV:W.nsIn K mainGlobals "all" = some none)
  (OY:W.nsIn K mainGlobals "reversed" = some none)
  (Ny:W.nsIn K mainGlobals "range" = some none)
  (S6:W.nsIn K mainGlobals "len" = some none)
  (TH:W.nsIn K mainGlobals "tuple" = some none)
  (SO:W.nsIn K mainGlobals "list" = some none)
  (Tg:W.nsIn K mainGlobals "min" = some none)
  (PU:W.nsIn K mainGlobals "isinstance" = some none)
  (SC:W.nsIn K mainGlobals "int" = some none)
  (N8:W.nsIn K mainGlobals "set" = some none)
  (SA:W.nsIn K mainGlobals "max" = some none)
  (Sc:W.nsIn K mainGlobals "zip" = some none)
  (M9:W.nsIn K mainGlobals "bool" = some none)
  (Pe:W.nsIn K mainGlobals "str" = some none)
  (Rx:W.nsIn K mainGlobals "sorted" = some none)
  (Pg:W.nsIn K mainGlobals "LETTERS" = some (some (.str "abcdefghijklmnopqrstuvwxyz" pZ)))
  (OZ:W.nsIn K mainGlobals "MOST_LETTERS" = some (some (.int 8 oy)))
  (N6:W.nsIn K mainGlobals "MOST_WITHIN" = some (some (.int 5 oF)))
  (OU:W.nsIn K mainGlobals "MOST_ROOMS" = some (some (.int 20 oW)))
  (Tu:W.nsIn K mainGlobals "MOST_FAIR" = some (some (.int 3 py)))
  (Od:W.nsIn K mainGlobals "LENGTHS" = some (some (.ref D_LENGTHS)))
  (Px:K.lookup D_LENGTHS=some ⟨.type "dict",none,.dict oN pP,#[]⟩)
  (TC:W.KeysLit w.params oN.toList)
  (SZ:W.nsIn K D_LENGTHS "all" = some (some (.int 2 pq)))
  (OQ:W.nsIn K D_LENGTHS "some" = some (some (.int 2 px)))
  (M8:W.nsIn K D_LENGTHS "not" = some (some (.int 2 pf)))
  (M0:W.nsIn K D_LENGTHS "next" = some (some (.int 2 pc)))
  (OK:W.nsIn K D_LENGTHS "always" = some (some (.int 2 pb)))
  (Rz:W.nsIn K D_LENGTHS "ever" = some (some (.int 2 oZ)))
  (RP:W.nsIn K D_LENGTHS "before" = some (some (.int 2 o8)))
  (Oe:W.nsIn K D_LENGTHS "once" = some (some (.int 2 pj)))
  (NR:W.nsIn K D_LENGTHS "sofar" = some (some (.int 2 o5)))
  (R1:W.nsIn K D_LENGTHS "until" = some (some (.int 3 pd)))
  (P5:W.nsIn K D_LENGTHS "since" = some (some (.int 3 oU)))
  (Ru:(D_LENGTHS==sysModules)=false)
  (Ob:W.nsIn K mainGlobals "LINES" = some (some (.ref D_LINES)))
  (Os:K.lookup D_LINES=some ⟨.type "dict",none,.dict pI rW,#[]⟩)
  (Oz:W.KeysLit w.params pI.toList)
  (Pw:W.nsIn K D_LINES "not" = some (some (.ref FG)))
  (Rk:W.nsIn K D_LINES "and" = some (some (.ref FM)))
  (Pa:W.nsIn K D_LINES "next" = some (some (.ref Fl)))
  (NV:W.nsIn K D_LINES "until" = some (some (.ref FL)))
  (P1:W.nsIn K D_LINES "before" = some (some (.ref FU)))
  (OX:W.nsIn K D_LINES "since" = some (some (.ref Et)))
  (Nx:(D_LINES==sysModules)=false)
  (N4:W.nsIn K mainGlobals "YES" = some (some (.ref Y_YES)))
  (N1:K.lookup Y_YES=some ⟨.type "tuple",wC,.seq #[.str "yes" sq] uH,wA⟩)
  (OE:W.excIn K C_TimeError [.type "ValueError",.type "Exception",.type "BaseException",.type "object"] "ValueError.__new__" = true)
  (Ta:W.excIn K C_BadWorld [.type "ValueError",.type "Exception",.type "BaseException",.type "object"] "ValueError.__new__" = true)
  (SS:W.excIn K C_BadSentence [.type "ValueError",.type "Exception",.type "BaseException",.type "object"] "ValueError.__new__" = true)
  (Mz:W.specialIn K (.builtin "object.__class__") "__get__" = some (some (.builtin "getset_descriptor.__get__")))
  (Ij:W.takesIn K (.builtin "object.__class__")=some true)
  (P3:W.findIn K (.ref C_BadWorld) "__getattribute__" = some (some (.builtin "BaseException.__getattribute__")))
  (NY:W.findIn K (.ref C_BadWorld) "__getattr__" = some none)
  (P2:W.mroIn K C_BadWorld (.type "object")=some true)
  (Sv:W.mroIn K C_BadWorld (.type "BaseException")=some true)
  (Pj:W.findIn K (.ref C_BadWorld) "__class__" = some (some (.builtin "object.__class__")))
  (Pr:W.hasDictIn K C_BadWorld=true)
  (v5:W.findIn K (.ref C_BadSentence) "__getattribute__" = some (some (.builtin "BaseException.__getattribute__")))
  (v6:W.findIn K (.ref C_BadSentence) "__getattr__" = some none)
  (v7:W.mroIn K C_BadSentence (.type "object")=some true)
  (v8:W.mroIn K C_BadSentence (.type "BaseException")=some true)
  (v9:W.findIn K (.ref C_BadSentence) "__class__" = some (some (.builtin "object.__class__")))
  (Sr:W.hasDictIn K C_BadSentence=true)
  (pA:IS.code=.ref 429)
  (Sb:W.codeHdIn K 429 425=true)
  (RE:W.nsIn K D_LENGTHS "signs" = some none)
  (Tp:W.nsIn K D_LENGTHS "Next" = some none) :
  ∃fd:FuncData,(∀(s:Shared) (v:Value),BindsTo s fd ⟨[v],[]⟩ [("_law_script",v)])/\∀base:Heap,K.In base->base.Ns mainGlobals mg->base.BuiltinsAt mg 425->WK l.prog w K mg base CX0 11 fa fd ["_law_script"] (spL K):=by
 have e:=Dx.symm.trans (gm X G D8.a);cases e;obtain⟨_,_,_,_,_,_,_,_,_,rfl,_⟩:=D8.f.ex;have T:Txt K mg ⟨f0,f1,f2,f3,f4,f5,f6,f7,f8,f9,He,MQ,IC,GX,HA,HR,Gz,GU,Ig,Gn,ID,Lq,GP,LM,HS,Gk,Gj,Lg,Lc,LW,FG,FM,Fl,FL,FU,Et,LZ,LX,Mh,Lj,IU,HU,Iv,Hm,MB,Li,LC,HQ,LQ,Mm,La,Gy,fa,d0,d1,d2,d3,d4,d5,d6,d7,d8,d9,CC,Cn,CF,C8,CD,Df,CL,MS,GQ,Lf,Md,IZ,IK,Gb,HJ,IG,Hh,GH,Mc,MH,Ho,Hz,Mv,HI,Lr,Iw,L7,IB,MF,ME,GM,Iu,Ii,Gr,IV,HV,IX,Hd,IM,MK,Ir,IT,_,C_TimeError,C_BadWorld,C_BadSentence,C_Table,C_World,D_LENGTHS,D_LINES,Y_YES,w.params⟩:={
  cu:=gm X G N4,
  y_YES:=fun H=>.inr ⟨_,_,_,N1,rfl,rfl,(by rw[eJ];simp),.cons ⟨_,rfl⟩ (.nil)⟩,
  bW:=gm X G Od,
  ba:=⟨⟨_,_,Px,TC⟩,fun p hp=>by
   simp only[eU,gz,gA] at hp;rcases hp with rfl|rfl|rfl|rfl|rfl|rfl|rfl|rfl|rfl|rfl|rfl
   ·exact⟨_,SZ⟩
   ·exact⟨_,OQ⟩
   ·exact⟨_,M8⟩
   ·exact⟨_,M0⟩
   ·exact⟨_,OK⟩
   ·exact⟨_,Rz⟩
   ·exact⟨_,RP⟩
   ·exact⟨_,Oe⟩
   ·exact⟨_,NR⟩
   ·exact⟨_,R1⟩
   ·exact⟨_,P5⟩,Ru⟩,
  cE:=gm X G Ob,
  cF:=⟨⟨_,_,Os,Oz⟩,fun p hp=>by
   simp only[eU,gz,gA] at hp;rcases hp with rfl|rfl|rfl|rfl|rfl|rfl
   ·exact Pw
   ·exact Rk
   ·exact Pa
   ·exact NV
   ·exact P1
   ·exact OX,Nx⟩,
  bw:=e0.g X G fun _ _ _ _ _ _=>ar1 fun _=>rfl,
  bJ:=e1.g X G fun _ _ _ _ _ _=>ar1 fun _=>rfl,
  bT:=e2.g X G fun _ _ _ _ _ _=>ar2 fun _ _=>rfl,
  bc:=e3.g X G fun _ _ _ _ _ _=>ar1 fun _=>rfl,
  bB:=e4.g X G fun _ _ _ _ _ _=>ar2 fun _ _=>rfl,
  bf:=e5.g X G fun _ _ _ _ _ _=>ar2 fun _ _=>rfl,
  bC:=e6.g X G fun _ _ _ _ _ _=>ar1 fun _=>rfl,
  a8:=e7.g X G fun _ _ _ _ _ _=>ar1 fun _=>rfl,
  aJ:=e8.g X G fun _ _ _ _ _ _=>ar1 fun _=>rfl,
  bq:=e9.g X G fun _ _ _ _ _ _=>ar1 fun _=>rfl,
  bD:=P6.g X G fun _ _ _ _ _ _=>ar2 fun _ _=>rfl,
  bS:=P9.g X G fun _ _ _ _ _ _=>ar1 fun _=>rfl,
  bY:=uB.g X G fun _ _ _ _ _ _=>ar1 fun _=>rfl,
  bE:=Au.g X G fun _ _ _ _ _ _=>ar3 fun _ _ _=>rfl,
  bP:=Tt.g X G fun _ _ _ _ _ _=>ar2 fun _ _=>rfl,
  br:=FK.g fun _ _ _ _ _ _=>ar1 fun _=>rfl,
  ai:=Ox.g fun _ _ _ _ _ _=>ar2 fun _ _=>rfl,
  aE:=RG.g fun _ _ _ _ _ _=>ar3 fun _ _ _=>rfl,
  ak:=N3.g fun _ _ _ _ _ _=>ar2 fun _ _=>rfl,
  ck:=Nn.g X G fun _ _ _ _ _ _=>ar1 fun _=>rfl,
  bK:=OI.g X G fun _ _ _ _ _ _=>ar1 fun _=>rfl,
  bt:=S0.g X G fun _ _ _ _ _ _=>ar5 fun _ _ _ _ _=>rfl,
  bF:=Oh.g X G fun _ _ _ _ _ _=>ar3 fun _ _ _=>rfl,
  bG:=Cb.g X G fun _ _ _ _ _ _=>ar2 fun _ _=>rfl,
  bh:=Nb.g X G fun _ _ _ _ _ _=>ar4 fun _ _ _ _=>rfl,
  bj:=OT.g X G fun _ _ _ _ _ _=>ar3 fun _ _ _=>rfl,
  bH:=OL.g X G fun _ _ _ _ _ _=>ar3 fun _ _ _=>rfl,
  bU:=Nf.g X G fun _ _ _ _ _ _=>ar2 fun _ _=>rfl,
  aO:=RC.g X G fun _ _ _ _ _ _=>ar3 fun _ _ _=>rfl,
  aq:=Tw.g X G fun _ _ _ _ _ _=>ar3 fun _ _ _=>rfl,
  bx:=OH.g X G fun _ _ _ _ _ _=>ar2 fun _ _=>rfl,
  bz:=Nr.g X G fun _ _ _ _ _ _=>ar2 fun _ _=>rfl,
  bn:=Tk.g X G fun _ _ _ _ _ _=>ar2 fun _ _=>rfl,
  aX:=NG.g X G fun _ _ _ _ _ _=>ar2 fun _ _=>rfl,
  aV:=Sy.g X G fun _ _ _ _ _ _=>ar2 fun _ _=>rfl,
  aY:=PP.g X G fun _ _ _ _ _ _=>ar2 fun _ _=>rfl,
  bu:=F8.g fun _ _ _ _ _ _=>ar5 fun _ _ _ _ _=>rfl,
  ah:=Tf.g fun _ _ _ _ _ _=>ar1 fun _=>rfl,
  aF:=Rg.g fun _ _ _ _ _ _=>ar2 fun _ _=>rfl,
  aM:=Rn.g fun _ _ _ _ _ _=>ar2 fun _ _=>rfl,
  bX:=Op.g fun _ _ _ _ _ _=>ar1 fun _=>rfl,
  bL:=NA.g fun _ _ _ _ _ _=>ar1 fun _=>rfl,
  bo:=SM.g X G fun _ _ _ _ _ _=>ar4 fun _ _ _ _=>rfl,
  aG:=OR.g X G fun _ _ _ _ _ _=>ar2 fun _ _=>rfl,
  aD:=MU.g X G fun _ _ _ _ _ _=>ar2 fun _ _=>rfl,
  aT:=RY.g X G fun _ _ _ _ _ _=>ar1 fun _=>rfl,
  aa:=Ou.g X G fun _ _ _ _ _ _=>ar2 fun _ _=>rfl,
  bv:=OB.g X G fun _ _ _ _ _ _=>ar1 fun _=>rfl,
  bQ:=Rv.g X G fun _ _ _ _ _ _=>ar2 fun _ _=>rfl,
  ab:=Om.g X G fun _ _ _ _ _ _=>ar2 fun _ _=>rfl,
  ae:=Nq.g X G fun _ _ _ _ _ _=>ar4 fun _ _ _ _=>rfl,
  ay:=Pz.g X G fun _ _ _ _ _ _=>ar6 fun _ _ _ _ _ _=>rfl,
  cL:=D8.g X G fun _ _ _ _ _ _=>ar1 fun _=>rfl,
  ce:=gi X G R6,
  cA:=gi X G MV,
  a9:=gi X G OY,
  aQ:=gi X G Ny,
  az:=gi X G S6,
  aH:=gi X G TH,
  bM:=gi X G SO,
  cM:=gi X G Tg,
  ag:=gi X G PU,
  cN:=gi X G SC,
  cD:=gi X G N8,
  cJ:=gi X G SA,
  cO:=gi X G Sc,
  cI:=gi X G M9,
  cK:=gi X G Pe,
  bN:=gi X G Rx,
  cg:=⟨_,gm X G Pg,⟨_,rfl⟩⟩,
  bA:=⟨_,gm X G OZ,⟨_,rfl⟩⟩,
  bO:=⟨_,gm X G N6,⟨_,rfl⟩⟩,
  bR:=⟨_,gm X G OU,⟨_,rfl⟩⟩,
  bV:=⟨_,gm X G Tu,⟨_,rfl⟩⟩,
  am:=⟨SB,Ol,NB,Rw⟩,
  cG:=gm X G O8,
  cw:=⟨Nd,FK.a,FK.i,S8⟩,
  aZ:=SJ,
  aC:=Rq,
  aj:=v4,
  aA:=⟨NI,Nv,P7,Sm⟩,
  cH:=gm X G Py,
  cy:=⟨NS,F8.a,F8.i,Oq⟩,
  ao:=v1,
  aN:=v3,
  aU:=v0,
  aW:=v2,
  cn:=gm X G S3,
  cp:=OE,
  cB:=gm X G Oy,
  cC:=Ta,
  bZ:=gm X G N5,
  b9:=SS,
  k_BadWorld:=⟨P3,NY,P2,Sv,Pj,Mz,Ij,Pr⟩,
  k_BadSentence:=⟨v5,v6,v7,v8,v9,Mz,Ij,Sr⟩,
  nk_signs:=RE,
  nk_Next:=Tp }
 refine⟨_,?_,fun base _ _ hb=>ZgF T rfl pA Sb hb⟩;exact fun s v=>.of_eq rfl
theorem walk{d:DefRec}{K:Params->W.Frag}(hn:l.most=some 63)(Bu:d.params.defaults=[])
  (hY:∀(w:World) (h:Heap),YP w h->(K w.params).In h) (C5:∀(w:World) (h:Heap),YP w h->h.get? 425=some (W.tabObj #[])) (hC:∀w:World,W.codeHdIn (K w.params) 429 425=true) (AJ:∀w:World,(K w.params).lookup 425=none)
  (F:∀(w:World) (mg:Str->81) (fa:Addr) (h:Heap),(K w.params).In h->h.Ns mainGlobals mg->mg d.name=some (.ref fa) -> ∃fd:FuncData,(∀(s:Shared) (u:Value),BindsTo s fd ⟨[u],[]⟩ [("_law_script",u)])/\∀base:Heap,(K w.params).In base->base.Ns mainGlobals mg->base.BuiltinsAt mg 425->WK l.prog w (K w.params) mg base CX0 11 fa fd ["_law_script"] (spL (K w.params))) :
  W.WalkO q rg XP YP l.row.toRowW d [] (fun f vs=>PySem.call f vs):=
 L2.walk_ofT (tc:=429) (TP:=425) (n:=63) (k:=11) (x := "_law_script") (CX:=fun _=>CX0) (sp:=fun w=>spL (K w.params)) hn 48 Bu ⟨rfl,by left,by left⟩ hY C5 hC AJ F (fun _ _ a ns hl hO hS=>⟨a,ns,rfl,hS,hl,hO.1,fun _=>rfl⟩) fun _ _ _ _ _ z=>z
end KK
open PySem PySem.W PyProof.Rows
namespace PySem.W.Fast
def tw17777016848179540544:=0
def tw5798767960011148950:=0
def tw12732283844233877515:=0
def tw6797525892855057211:=0
def tw10676065363290481265:=0
def tw5434706109064684699:=0
def tw10474819872026012358:=0
def tw4174886943262271531:=0
def tw9221508053570482729:=0
def tw4210511829428551290:=0
def tw11289733540751618417:=0
def tw9205100174180300260:=0
def tw16243825053558234796:=0
def tw11205035999324549498:=0
def tw5372045892784978:=0
def tw4235080322581128546:=0
def tw15344018595102224639:=0
def tw16708635924654625373:=0
def tw16417021572325976323:=0
def tw7039510989198832392:=0
def tw9830644998566161228:=0
def tw2812099809302523770:=0
def tw15628412304750793431:=0
def tw11889650263074137286:=0
def tw3760807185956327595:=0
def tw17493211828838312304:=0
def tw550554847697170239:=0
def tw8626594957787983096:=0
def tw5051802986698289231:=0
def tw4754393110874342743:=0
def tw16271230259111712582:=0
def tw1191758503033986497:=0
def tw6189963320055123010:=0
def tw14128932575814903665:=0
def tw13832916355991529974:=0
def tw12489009900096211289:=0
def tw2604377128775684780:=0
def tw1664535417535249867:=0
def tw6103171911864225941:=0
def tw4502720783108509083:=0
def tw2920405206628747292:=0
def tw4969845131046381211:=0
def tw232300157610411690:=0
def tw8250484040056850037:=0
def tw65454799651592532:=0
def tw16683112462040560701:=0
def tw2046416268683900131:=0
def tw6077908518368577079:=0
def tw6573697668394939083:=0
def tw9281308365979312578:=0
def tw18366265448656255152:=0
def tw6952011648754790802:=0
def tw67712756946713638:=0
def tw14478272974184332586:=0
def tw8411004928123120593:=0
def tw8887333921209318770:=0
def tw5103865674194254982:=0
def tw3842780679597129114:=0
def tw11935349253587164043:=0
def tw2339335301977877151:=0
def tw10913900671798232322:=0
def tw5367339078911435267:=0
def tw8394969680157429418:=0
def tw1521834977348639089:=0
def tw9070843277267579897:=0
def tw1656138592871851016:=0
def tw17096813367051955027:=0
def tw9668769938122269464:=0
def tw9761447131500118575:=0
def tw4010196547386262085:=0
def tw17675517512675860650:=0
def tw7110129934229634079:=0
def tw3568345016132119904:=0
def tw3527256661671772540:=0
def tw9936527810878057358:=0
def tw17270788889159219357:=0
def tw16122699719891265878:=0
def tw5639238616156327073:=0
def tw10074698490217452898:=0
def tw11467216278321963806:=0
def tw14930350124385573392:=0
def tw757722474335848822:=0
def tw195544920322369966:=0
def tw12042237322367242080:=0
def tw16750170722557194714:=0
def tw9989884382966172500:=0
def tw10756387244799803864:=0
def tw8496303212941028609:=0
def tw6867171778147001333:=0
def tw12850750631423685024:=0
def tw9951832721344274571:=0
def tw4120913354515726429:=0
def tw16522568610672259594:=0
def tw10329173750591963742:=0
def tw8690861005579377195:=0
def tw11873099685658880688:=0
def tw9070692307125958100:=0
def tw11202384360831606470:=0
def tw3359415900752919396:=0
def tw12369627721137355748:=0
def tw13171324626607703243:=0
def tw2269196368208444333:=0
def tw18263845203210248091:=0
def tw11268515221513855740:=0
def tw5546490680865291147:=0
def tw4010884055765297309:=0
def tw2462527475983802134:=0
def tw11159625546997074146:=0
def tw15570892248922342280:=0
def tw17508145837764870704:=0
def tw2888190605853216823:=0
def tw16250691266090900836:=0
def tw10838371785203630070:=0
def tw4723016876343199325:=0
def tw11776349891099043719:=0
def tw11480543941618533081:=0
def tw3950229426216867607:=0
def tw2173838650751291613:=0
def tw12818272269871029881:=0
def tw12771194079845475418:=0
def tw14797744806716374301:=0
def tw16806068359871889059:=0
def tw13097825691894622488:=0
def tw17894180457108015872:=0
def tw10545287176778146148:=0
def tw5941835102349191650:=0
def tw3940738802671048726:=0
def tw14504424557907842967:=0
def tw15549800355774064046:=0
def tw6898477600826821961:=0
def tw17213683485099488683:=0
def tw13715186328871193048:=0
def tw6956753345890370013:=0
def tw499031748266018207:=0
def tw7376009026051097539:=0
def tw7485154982710642880:=0
def tw13274481139732416647:=0
def tw5737852426784611826:=0
def tw634004392925499859:=0
def tw12731993510533822017:=0
def tw4062232035517497432:=0
def tw14494941399635868880:=0
def tw16953768917554198451:=0
def tw14070875144126491922:=0
def tw16520233865036808750:=0
def tw17319333577832525680:=0
def tw17011401063227767831:=0
def tw15256068626327656088:=0
def tw1497239189191074260:=0
def tw9200412488385103517:=0
def tw9823936278163823440:=0
def tw3104781811959347331:=0
def tw1976089578357252297:=0
def tw12946681658577188344:=0
def tw14929758260387867212:=0
def tw3903603721400699812:=0
def tw14779203462834573285:=0
def tw13388470882597117468:=0
def tw3267692458863811984:=0
def tw7243955162852954537:=0
def tw9243457719437491921:=0
def tw2688493835711453261:=0
def tw6122325560874003435:=0
def tw7650716675655993414:=0
def tw5270648343090291708:=0
def tw10910108719417360691:=0
def tw17201183806222786162:=0
def tw9256076692504052625:=0
def tw4602512179123015721:=0
def tw10576210878066560062:=0
def tw1990258056820117243:=0
def tw9399285147694413854:=0
def tw11350917662348359647:=0
def tw15716183807479622552:=0
def tw5551674846028809994:=0
def tw552991986527278928:=0
def tw12303514990156627677:=0
def tw3233065231678107572:=0
def tw4111091033346402200:=0
def tw2834561766596630920:=0
def tw7497124677521139575:=0
def tw7981883718605477107:=0
def tw2931207457179634541:=0
def tw3850279731103708945:=0
def tw4892259431012489201:=0
def tw17676532253975350010:=0
def tw11521347405070433691:=0
def tw4449608763234584732:=0
def tw13581564663682715614:=0
def tw127767898524119819:=0
def tw2362368469662548887:=0
def tw15820916386817312824:=0
def tw15915476642237287083:=0
def tw4399999871402714994:=0
def tw16142340824801256226:=0
def tw5936368171789650513:=0
def tw3554293459296702965:=0
def tw17043646985045998064:=0
def tw11595812525554215757:=0
def tw2570678395870347753:=0
def tw7833243687822933321:=0
def tw4207260970841958505:=0
def tw12605259592843059156:=0
def tw2333833967232370491:=0
def tw14826904965254288570:=0
def tw1735962964060581353:=0
def tw1752135744473269460:=0
def tw16930626394552538103:=0
def tw8783573834100893580:=0
def tw3211016446660935113:=0
def tw11506076158656685606:=0
def tw2858358527456288085:=0
def tw9743199974389610981:=0
def tw6920805952221410350:=0
def tw14224015495015100309:=0
def tw13474269187402192734:=0
def tw11281496532350391663:=0
def tw956462386578294923:=0
def tw7168221575148982164:=0
def tw5198202770916055000:=0
end PySem.W.Fast
set_option maxRecDepth 100000 in
set_option maxHeartbeats 0 in
theorem PySem.Challenge.cw_timecourt_k23_whole_words_unfold_holds : PySem.Challenge.rw_timecourt_k23_whole_words_unfold.Holds := by
 w_on; o_law; k_head; (case hw => w_witness2)
 k_fill
 refine KK.walk (l := PySem.Challenge.rw_timecourt_k23_whole_words_unfold) rfl rfl (fun w h Y => km_in_of Y) (fun w h Y => km_tabs_of Y _ (by first | exact .head _ | k_mem)) ?C ?KT ?F
 case C => intro w; kernel_rfl
 case KT => intro w; kernel_rfl
 case F =>
  intro w mg fa h KX G hmg
  have hmg2 : mg "law" = some (.ref fa) := hmg
  clear hmg
  refine' KK.all_mk KX G hmg2 ?v54 ?v55 ?v16 ?v29 ?v11 ?e0 ?e1 ?e2 ?e3 ?e4 ?e5 ?e6 ?e7 ?e8 ?e9 ?e10 ?e11 ?e12 ?e13 ?e14 ?e15 ?e16 ?e17 ?e18 ?e19 ?e20 ?e21 ?e22 ?e23 ?e24 ?e25 ?e26 ?e27 ?e28 ?e29 ?e30 ?e31 ?e32 ?e33 ?e34 ?e35 ?e36 ?e37 ?e38 ?e39 ?e40 ?e41 ?e42 ?e43 ?e44 ?e45 ?e46 ?e47 ?e48 ?e49 ?e50 ?e51 ?e52 ?v56 ?v57 ?v58 ?v59 ?v60 ?v61 ?v14 ?v17 ?v4 ?v62 ?v63 ?v64 ?v65 ?v66 ?v67 ?v1 ?v3 ?v0 ?v2 ?v18 ?v81 ?v42 ?v74 ?v82 ?v75 ?v77 ?v83 ?v19 ?v84 ?v85 ?v86 ?v87 ?v78 ?v88 ?v68 ?v47 ?v12 ?v15 ?v20 ?v30 ?v43 ?v44 ?v45 ?v31 ?v32 ?v33 ?v34 ?v35 ?v36 ?v37 ?v38 ?v39 ?v40 ?v21 ?v46 ?v69 ?v70 ?v71 ?v48 ?v49 ?v50 ?v51 ?v52 ?v53 ?v72 ?v79 ?v80 ?v22 ?v41 ?v13 ?xgt ?xtk ?v23 ?v24 ?v25 ?v26 ?v27 ?v28 ?v5 ?v6 ?v7 ?v8 ?v9 ?v10 ?hcl ?hCo ?v73 ?v76
  (case v54 | v55 | v16 | v29 | v11 => k_is)
  (case e0 | e1 | e2 | e3 | e4 | e5 | e6 | e7 | e8 | e9 | e10 | e11 | e12 | e13 | e14 => exact KK.Fx.m (by k_is) (by k_is) (by k_is) (by k_is))
  (case e15 | e16 | e17 | e18 => exact KK.Mx.m (by k_is) (by k_is) (by k_is) (by k_is) (by k_is))
  (case e19 | e20 | e21 | e22 | e23 | e24 | e25 | e26 | e27 | e28 | e29 | e30 | e31 | e32 | e33 | e34 | e35 => exact KK.Fx.m (by k_is) (by k_is) (by k_is) (by k_is))
  (case e36 | e37 | e38 | e39 | e40 | e41 => exact KK.Mx.m (by k_is) (by k_is) (by k_is) (by k_is) (by k_is))
  (case e42 | e43 | e44 | e45 | e46 | e47 | e48 | e49 | e50 | e51 | e52 => exact KK.Fx.m (by k_is) (by k_is) (by k_is) (by k_is))
  (case v56 | v57 | v58 | v59 | v60 | v61 | v14 | v17 | v4 | v62 | v63 | v64 | v65 | v66 | v67 | v1 | v3 | v0 | v2 | v18 | v81 | v42 | v74 | v82 | v75 | v77 | v83 | v19 | v84 | v85 | v86 | v87 | v78 | v88 | v68 | v47 | v12 | v15 | v20 | v30 => k_is)
  (case v43 | v44 => k_is)
  (case v45 => exact ⟨⟨_, _, rfl, rfl⟩, ⟨_, _, rfl, rfl⟩, ⟨_, _, rfl, rfl⟩, ⟨_, _, rfl, rfl⟩, ⟨_, _, rfl, rfl⟩, ⟨_, _, rfl, rfl⟩, ⟨_, _, rfl, rfl⟩, ⟨_, _, rfl, rfl⟩, ⟨_, _, rfl, rfl⟩, ⟨_, _, rfl, rfl⟩, ⟨_, _, rfl, rfl⟩, trivial⟩)
  (case v31 | v32 | v33 | v34 | v35 | v36 | v37 | v38 | v39 | v40 | v21 => k_is)
  (case v46 => rfl)
  (case v69 | v70 => k_is)
  (case v71 => exact ⟨⟨_, _, rfl, rfl⟩, ⟨_, _, rfl, rfl⟩, ⟨_, _, rfl, rfl⟩, ⟨_, _, rfl, rfl⟩, ⟨_, _, rfl, rfl⟩, ⟨_, _, rfl, rfl⟩, trivial⟩)
  (case v48 | v49 | v50 | v51 | v52 | v53 => k_is)
  (case v72 => rfl)
  (case v79 | v80 => k_is)
  (case v22 | v41 | v13 => k_exc)
  (case xgt | xtk | v23 | v24 | v25 | v26 | v27 | v28 | v5 | v6 | v7 | v8 | v9 | v10 => k_is)
  (case hcl => rfl)
  (case hCo => kernel_rfl)
  (case v73 | v76 => k_is)
