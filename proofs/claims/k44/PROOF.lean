import PyProof.Rows.All
import Wide.All
import OpenK.AllK
import Wide.FinOn
import Lean
import PyProof.EqAt
import PyProof.EqKinds
import PyProof.TupleCall
import KE.KDictList
import KE.KRevIter
import PyProof.DictValues
import PySem.Challenge.RW_timecourt_k44_whole_closed_has_no_full_l
set_option genSizeOf false
set_option bootstrap.genMatcherCode false
set_option compiler.extract_closed false
set_option linter.all false
open Sum renaming inl->υ,inr->χ
open Function renaming comp->ι
open PySem renaming wpAny_bind->cN,wpAny_pure->cO,sizeLine_eq->cQ,wpAny_holding->dh,wpAny_setState_of->dX,wpAny_call_entry->eE,wpAny_rule->eN,wpAny_newObj_type->eQ,wpAny_mono->ft,wpAny_isInstance->fH,wpAny_dictEntries->fP,wpAny_truthy_bool->fQ,wpAny_seqItems->fT,wpAny_forIn_list->gc,wpAny_specialOf->gf,wpAny_callSpecial?_slot->gh,codeAny_builtin->gi,wpAny_field->gj,wpAny_setField->gr,codeAny_mono->gw,mem_of_lookup->gy,wpAny_standAt->gz,wpAny_of_eq->gN,wpAny_attempt->gO,wpAny_storeSet_of->gZ,plainId_quiet->ip,wpAny_dictEpoch->iq,wpAny_passesOwn->iy,wpAny_tupleItemsOf->iC,wpAny_typeOf->iF,isSubtype_tuple_tuple->iQ,wpAny_askSetting->iS,wpAny_fieldsOf->iT,wpAny_pyIter_slot->iW,codeAny_of_tree->iX,wpAny_richCompare_same_room->lG,typeLookup_type->lJ,builtinLookup_eq_fast->lM,wpAny_handled->lN,isSubtype_stop->lO,wpAny_notOrdered_dict->lT,wpAny_setField_rec->md,wpAny_pyIter_list->mr,wpAny_Call_Name_kw->ms
open Nat renaming not_lt->Ω,le_refl->cP,ne_of_lt->c9,zero_le->dH,lt_or_ge->fe,le_trans->fh,lt_of_lt_of_le->fq,lt_succ_self->fR,lt_succ_of_lt->fS,ne_of_gt->fW,lt_irrefl->gn,zero_add->gW,not_lt_zero->hU,le_succ->ic,mod_lt->ig,le_of_lt->iL,sub_zero->iP,lt_trans->i0,le_add_right->mM,add_sub_cancel->mO
open List renaming range->γ,Nodup->δ,lookup->ε,length->ζ,replicate->η,findIdx_lt_length_of_exists->μ,eraseIdxIfInBounds_toArray->ν,eq_nil_of_length_eq_zero->ξ,take_append_of_le_length->ο,dropLast_concat_getLast->π,getElem?_range->ρ,mem_filterMap->ψ,length_eraseIdx_of_lt->Δ,exists_cons_of_ne_nil->Ε,getElem?_zip_eq_some->Ζ,filterMap_eq_nil_iff->Η,findIdx?_eq_none_iff->Θ,take_add_one->Ι,pairwise_map->Κ,mem_of_mem_eraseIdx->Ξ,filter_cons_of_pos->Ο,filter_cons_of_neg->Ρ,nodup_range->Τ,drop_length->Υ,getElem?_set_self->Φ,range_succ_eq_map->Χ,any_map->Ψ,getElem?_eq_getElem->cR,length_map->cS,mem_cons->cW,mem_of_getElem?->cY,length_append->cZ,mem_cons_of_mem->c7,mem_map->da,mem_append->db,mem_singleton->df,getElem?_eq_some_iff->dk,getElem?_map->dz,length_take->dB,mem_cons_self->dC,map_cons->dD,mem_append_left->dN,all_eq_true->dU,mem_range->dY,not_mem_nil->eH,size_toArray->eM,map_append->eO,mem_append_right->fb,length_cons->fc,take_length->fg,getElem_of_mem->fo,nodup_append->fy,take_succ->fz,mem_filter->fA,length_singleton->fB,any_eq_true->fD,map_map->fV,nodup_cons->fY,append_nil->gp,lookup_cons->gq,mem_of_mem_take->gA,length_range->gC,getElem_mem->gE,getD_eq_getElem?_getD->gH,mem_map_of_mem->gI,getElem?_append_left->gJ,length_drop->gL,forIn_cons->gM,append_assoc->gR,find?_cons_of_neg->gS,reverse_cons->gT,any_cons->gU,length_filter_le->hV,getElem?_eq_none_iff->im,find?_cons_of_pos->iu,take_append_drop->iw,mem_reverse->iB,length_pos_iff->iG,zip_cons_cons->iJ,filter_append->iK,of_mem_zip->iN,length_reverse->iO,ext_getElem?->iY,getElem_map->iZ,forIn_nil->i5,zip_nil_right->i7,drop_eq_getElem_cons->i8,filterMap_cons->i9,getElem_inj->lh,any_eq_false->lz,getElem?_append_right->lC,all_cons->lE,range_succ->lH,getElem?_eq_none->lP,getElem?_drop->lQ,map_congr_left->lV,length_eq_zero_iff->lW,nodup_nil->lZ,mem_flatten->mf,sublist_flatten_of_mem->mi,flatten_append->mm,length_replicate->my,mem_of_mem_drop->mz,mem_erase_of_ne->mD,find?_eq_none->mF,eq_of_mem_replicate->mH,countP_cons->mI,findIdx?_eq_some_iff_getElem->mJ,pairwise_iff_getElem->mL,pairwise_lt_range->mN,range'_succ->mP,append_inj'->mT,dropLast_concat->mU,length_dropLast->mW,length_erase_of_mem->mX,length_pos_of_mem->mY,take_of_length_le->nB,filter_eq_nil_iff->nC,mem_of_find?_eq_some->nD,replicate_succ'->nF
open PySem.Heap renaming lt_size->cT,get?_push_of_some->cU,get?_push_size->c8,size_push->fM,get?_update_self->fO,get?_update_other->fZ,size_update->gB,get?_push_ne->mB
open Bool renaming noConfusion->θ,and_true->Ν,false_eq_true->c6,and_eq_true->dg,not_true->dM,false_ne_true->dQ,false_and->gu,not_false->gP,true_and->g9,and_false->iA,eq_false_iff->iD,eq_iff_iff->ls,and_eq_false_iff->mZ
open Array renaming perm_iff_toList_perm->ω,size_map->Α,getElem?_eq_none_iff->Β,length_toList->dj,getElem?_toList->fj,getElem?_eq_none->gD,mem_of_getElem?->gY,getD_eq_getD_getElem?->ii,getElem?_eq_getElem->ir,forIn_toList->iE,toList_push->iR,mem_toList_iff->mV
open PyProof.Rows renaming wpS_bind->dJ,wpS_pure->fk,callWith_type1->iM
open PySem.PassesOwn renaming never->eJ
open Ne renaming symm->eY
open Option.some renaming inj->eZ
open Int renaming toNat_natCast->fu,emod_nonneg->ij,emod_lt_of_pos->ik,zero_add->mj
open Option renaming isSome_map->Μ,getD_some->fC,map_eq_some_iff->fE,isSome_iff_exists->fG,map_eq_none_iff->iI
open PySem.Heap.SameBut renaming update->fI,refl->io
open PySem.F renaming plainAttrs_list->fJ,called_set->fL,slot_list_append->gk,type_list_append->gm,slot_tuple_eq->ie,slot_bool_hash->i4,plain_list_iadd->mK,slot_tuple_iterator_next->mR,slot_zip_next->mS,entry_type_call->nh,slot_dict_keyiterator_next->nk,slot_dict_valueiterator_next->nE
open PySem.W renaming mg_none_of->fK,kia_one->fX
open PySem.Obj renaming data_mapFields->fU,isFreed_of_fields->iH,cls_mapFields->iU,data_mapDictKeys->mQ
open PySem.Paired renaming length->gt
open PySem.Around renaming under_plainId->gQ,in1_units->gX
open Int.ofNat renaming inj->i6
open List.Pairwise renaming sublist->mh
open Classical renaming byContradiction->mE
open PySem.SetTable renaming fits_plain_off->m8
open PyProof.Rows.F renaming plain_set_update_loop->m9
open PySem.Calls renaming call_function_entry->nj
open Std.Legacy.Range renaming forIn_eq_forIn_range'->nz
open PyProof.Rows.Boot renaming «len»->nN,«any»->nO,«isinstance»->nP,«tuple»->nQ,«all»->nU,«bool»->nV,«dict»->nW,«sorted»->nX,«set»->nY,«list»->nZ
def cX:=@if_false
def dq:=@if_true
def dt:=@congrArg
def dy:=@decide_eq_true
def dE:=@of_decide_eq_true
def dZ:=@decide_eq_false
def eI:=@or_false
def eX:=@getElem?_pos
def ia:=@beq_eq_false_iff_ne
def iz:=@beq_iff_eq
def lI:=@beq_self_eq_true
def mC:=@bne_self_eq_false
def n8:=@if_neg
def og:=@if_pos
def oh:=@absurd
set_option Elab.async false
set_option linter.all false
set_option maxRecDepth 100000
variable{K:_root_.PySem.W.Frag}{mg mA:PySem.Str->Option PySem.Value}{w:PySem.World}{Q E QV Q₁:PySem.Value->PySem.Shared->Prop}{P prog q:PySem.Program}{a b D l p C I it dx fa:PySem.Addr}{bJ AT:List (PySem.Addr×PySem.Obj)}{κ n ep j t' k1 mask nrem ep' slot:Nat}{base h h':PySem.Heap}{s s' s2:PySem.Shared}{Pm:PySem.Params}{vs us items ys oi Bb:List PySem.Value}{oj o7 Ak:PySem.Pos}{A A':PySem.Around}{oK rR pe:List PySem.Expr}{α:Type}{scope sc:PySem.Scope}{use:Option (PySem.Value->PySem.Sem Unit)}{tg e iter pD oz rO kx vx:PySem.Expr}{B:Bool}{S ch fp:List PySem.Addr}{env:PySem.Env}{f:PySem.Value->PySem.Value->PySem.Sem PySem.Value}{L:Nat->Option (Option Nat)}{XP:(PySem.Str->Option PySem.Value)->PySem.Heap->Prop}{t:PySem.SetTable}{R:PySem.Result->PySem.Shared->Prop}{owner:Array (Option Nat)}{fd:PySem.FuncData}{ss ns:List Int}{ps tp Nc:List PySem.Str}{op:PySem.CmpOp}{YP:PySem.World->PySem.Heap->Prop}{kw:List (PySem.Str×PySem.Value)}{ix:List (Option Nat)}{qual:PySem.Str}{SI:PySem.Heap->List PySem.Value->Prop}{pl:PySem.Sem Bool}{osl:Array (Option PySem.Value)}{oX:List PySem.Stmt}{oN next pk:Nat->Nat}{cl:List (PySem.Str×PySem.Addr)}{T:String}{g':Array PySem.GenState}{tk:PySem.Tok}{place:Array Nat}{acc:Array PySem.Value}{outer:List PySem.Env}{hs:Array Int}{bd:PySem.Addr->PySem.Env->PySem.Sem Unit}{Q':α->PySem.Shared->Prop}{nA:PySem.Sem PySem.Value}{gs:List PySem.Comprehension}{d':PySem.Drawn}{an od:Option PySem.Addr}{ob:PySem.Obj}{uz:PySem.Arguments}{args:List _root_.PySem.W.WData}{lo:Int}{oc:PySem.Value}
local macro_rules|`(tactic|lia)=>`(tactic|omega)
local macro_rules|`(tactic|left)=>`(tactic|decide +kernel)
set_option hygiene false
local macro_rules|`(34)=>`((by first|exact Or.inl rfl|exact Or.inr rfl))
local macro_rules|`(36)=>`(wpAny (model prog w) A)
local macro_rules|`(37)=>`(List ND)
local macro_rules|`(38)=>`(wpAny (model X.prog X.w) X.A)
local macro_rules|`(39)=>`((by simp))
local macro_rules|`(40)=>`((by lia))
local macro_rules|`(41)=>`(Shared->Prop)
local macro_rules|`(42)=>`(Zu X Nc scope cl C s H fp)
local macro_rules|`(43)=>`(Inv X bJ U H s)
local macro_rules|`(44)=>`(Zf N bs)
local macro_rules|`(45)=>`(List Value)
local macro_rules|`(46)=>`((w.params.followText "set-order"))
local macro_rules|`(47)=>`((∀b o,s.heap.get? b=some o->h'.get? b=some o))
local macro_rules|`(49)=>`({ s with heap:=h' })
local macro_rules|`(50)=>`(wpAny _ _)
local macro_rules|`(51)=>`(fun bK A outer s H E hr=>?_)
local macro_rules|`(52)=>`(some (DeO Pm a es ep))
local macro_rules|`(53)=>`(List (Addr×Obj))
local macro_rules|`(54)=>`(List Str)
local macro_rules|`(55)=>`(some (.lst (ou.map V.int)))
local macro_rules|`(56)=>`((Zp (K:=K) rfl))
local macro_rules|`(58)=>`(Okd P w K mg base a)
local macro_rules|`(59)=>`((pickOrder (w.params.setOrder a ep) es))
local macro_rules|`(61)=>`((by left))
local macro_rules|`(65)=>`(DeO a.Pm)
local macro_rules|`(66)=>`((SetTable.grown om.size))
local macro_rules|`(67)=>`(Option Value)
local macro_rules|`(68)=>`(Option Nat)
local macro_rules|`(69)=>`(Option V)
local macro_rules|`(70)=>`(List Int)
local macro_rules|`(71)=>`(List Bool)
local macro_rules|`(72)=>`(some (.ref net))
local macro_rules|`(73)=>`(List (Str×V))
local macro_rules|`(74)=>`({ s with heap:=h',toks:=tk })
local macro_rules|`(75)=>`((rkF ks d))
local macro_rules|`(76)=>`((upd H5 r (.ins a.C_Knots dx [("net",.ref net),("marks",.ref mk),("knots",.ref kn),("ranks",.ref D),("goals",.ref G)])))
local macro_rules|`(77)=>`(Zd H H')
local macro_rules|`(78)=>`((nM hr))
local macro_rules|`(79)=>`(some (.lst (ns.map V.int)))
local macro_rules|`(80)=>`(ZD X.env.scope X.N Nc ix scope)
local macro_rules|`(81)=>`(upd H1 s2.heap.objs.size)
local macro_rules|`(82)=>`((model X.prog X.w))
local macro_rules|`(83)=>`(rkF (44) d)
local macro_rules|`(84)=>`(((Zv prog w).hash (.inl x)))
local macro_rules|`(85)=>`((upd H5 r (.ins a.C_Knots dx [("net",.ref net),("marks",.ref mk),("knots",.ref kn),("ranks",.ref D)])))
local macro_rules|`(86)=>`((model prog w))
local macro_rules|`(87)=>`((s.heap.objs.size+1))
local macro_rules|`(88)=>`(Array (Int×Value))
local macro_rules|`(89)=>`(Inv X bJ U)
local macro_rules|`(91)=>`((ZQ (K:=K) rfl))
local macro_rules|`(92)=>`((Yn (K:=K) rfl (pv 0) rfl))
local macro_rules|`(93)=>`(some (.ref p))
local macro_rules|`(94)=>`((ZB hw 78 (Yn (K:=K) rfl (pv 2) rfl) (pv 0) (fun _ _=>rfl)))
local macro_rules|`(95)=>`(ZS (ZS (by have q:=k H (Zd.refl H);unfold Zw at q;exact q)))
local macro_rules|`(96)=>`(Nd κ H e.2.1 e.1)
local macro_rules|`(97)=>`((U=[some (.int c),some (.int m),some (.ref D),some (.int LF),some (.int pS)]))
local macro_rules|`(98)=>`(some (.ref b))
local macro_rules|`(99)=>`(some none)
local macro_rules|`(101)=>`((k0==NameKind.free&&env.scope.kind==.function&&env.kindOf n==some .cell))
local macro_rules|`(102)=>`((k==NameKind.free&&env.scope.kind==.function&&env.kindOf n==some .cell))
local macro_rules|`(103)=>`((65 St (ZI sU t tx (.int ((k0:Int)+1))) pY))
local macro_rules|`(104)=>`({ s with toks:=s.toks+1 })
local macro_rules|`(105)=>`(Yo scope X.env)
local macro_rules|`(106)=>`(NdL κ H vs ds)
local macro_rules|`(107)=>`((!w.params.followText "set-order" && (!t.plain&&decide (es.size>1))))
local macro_rules|`(108)=>`(List PyData)
local macro_rules|`(109)=>`((x==("__debug__" : Str)))
local macro_rules|`(110)=>`((Zg (Zs YI)))
local macro_rules|`(111)=>`((false,eval e X.env))
local macro_rules|`(112)=>`((H b=some (.lst bv)))
local macro_rules|`(113)=>`(fun bK A outer s H vs Q E hr h=>?_)
local macro_rules|`(114)=>`((seqObj "list" seq.toArray 0))
local macro_rules|`(115)=>`((Wi κ a.Pm H net es ep N nd))
local macro_rules|`(116)=>`((0+(i:Int)))
local macro_rules|`(117)=>`({ s with heap:=h',toks:=t' })
local macro_rules|`(118)=>`(("net",.ref net))
local macro_rules|`(119)=>`((ZY I q 39))
local macro_rules|`(120)=>`(V7 X.prog X.w X.K X.mg X.base CX k f fd ps sp)
local macro_rules|`(121)=>`(Option Int)
local macro_rules|`(122)=>`(some (.lst xs))
local macro_rules|`(123)=>`(some (.lst vs))
local macro_rules|`(124)=>`((I.ok.hd hc))
set_option hygiene true
namespace L2
open PySem PySem.Spec PyProof.Rows
abbrev Key:=Sum Int Str
def Vz:Key->Value->Bool
 |.inl k,v=>Value.isInt k v
 |.inr x,v=>Value.isStrOf x v
def keyH(w:World):Key->Int
 |.inl k=>hashInt k
 |.inr x=>hashStr w x
def ZM:∀{k:Key}{v:Value},Vz k v=true->(∃i t,k=υ i/\v=Value.int i t)\/(∃x t,k=χ x/\v=Value.str x t)
 |.inl i,v,h=>by
  obtain⟨t,e⟩:=Value.isInt_shape (k:=i) (v:=v) h;exact .inl ⟨i,t,rfl,e⟩
 |.inr x,v,h=>by
  obtain⟨t,e⟩:=Value.isStrOf_shape (x:=x) (v:=v) h;exact .inr ⟨x,t,rfl,e⟩
def Y2(i:Int)(t:Tok):Vz (.inl i) (.int i t)=true:=by simp[Vz,Value.isInt]
def qt(x:Str)(t:Tok):Vz (.inr x) (.str x t)=true:=by simp[Vz,Value.isStrOf]
def Zdz(a b:Int):decide ((υ a:Key)=υ b)=(a==b):=by
 by_cases e:a=b
 ·subst e;simp
 ·have h:¬(υ a:Key)=υ b:=fun q=>e (υ.inj q);rw[dZ h];exact(ia.mpr e).symm
def ZcM(a b:Str):decide ((χ a:Key)=χ b)=decide (a=b):=by
 by_cases e:a=b
 ·subst e;simp
 ·have h:¬(χ a:Key)=χ b:=fun q=>e (χ.inj q);rw[dZ h,dZ e]
def ZdF(a:Int)(b:Str):decide ((υ a:Key)=χ b)=false:=dZ (fun q=>nomatch q)
def Zc2(a:Str)(b:Int):decide ((χ a:Key)=υ b)=false:=dZ (fun q=>nomatch q)
def Zv(prog:Program)(w:World):PySem.KeyKind prog w Key where
 is:=Vz
 hash:=keyH w
 inj:=fun v a b ha hb=>by
  rcases ZM ha with⟨i,t,rfl,rfl⟩|⟨x,t,rfl,rfl⟩
  ·rcases ZM hb with⟨j,u,rfl,e⟩|⟨y,u,rfl,e⟩
   ·injection e with e1 _;rw[e1]
   ·exact nomatch e
  ·rcases ZM hb with⟨j,u,rfl,e⟩|⟨y,u,rfl,e⟩
   ·exact nomatch e
   ·injection e with e1 _;rw[e1]
 byValue:=fun k v h=>by
  rcases ZM h with⟨i,t,rfl,rfl⟩|⟨x,t,rfl,rfl⟩<;>rfl
 pyHash:=fun hv h=>by
  rcases ZM hv with⟨i,t,rfl,rfl⟩|⟨x,t,rfl,rfl⟩
  ·exact wpAny_pyHash_int h
  ·exact wpAny_pyHash_str h
 eqBool:=fun hu hv h=>by
  rcases ZM hu with⟨i,t,rfl,rfl⟩|⟨x,t,rfl,rfl⟩
  ·rcases ZM hv with⟨j,u,rfl,rfl⟩|⟨y,u,rfl,rfl⟩
   ·rw[Zdz] at h;exact wpAny_eqBool_int h
   ·rw[ZdF] at h;exact SeqAt.EqAt.int_str i t y u _ _ _ _ h
  ·rcases ZM hv with⟨j,u,rfl,rfl⟩|⟨y,u,rfl,rfl⟩
   ·rw[Zc2] at h;exact SeqAt.EqAt.str_int x t j u _ _ _ _ h
   ·rw[ZcM] at h;exact wpAny_eqBool_str h
 «strs» := fun k x t v h=>by
  rcases ZM h with⟨i,u,rfl,e⟩|⟨y,u,rfl,e⟩
  ·exact nomatch e
  ·injection e with e1 _;subst e1;cases v<;>rfl
def jZ(prog:Program)(w:World)(i:Int)(t:Tok):(Zv prog w).is (.inl i) (.int i t)=true:=Y2 i t
def kh(prog:Program)(w:World)(x:Str)(t:Tok):(Zv prog w).is (.inr x) (.str x t)=true:=qt x t
inductive V where
 |non|bl (b:Bool)|int (i:Int)|str (x:Str)|byt (b:Array UInt8)|flt (b:UInt64)|ref (a:Addr)|ty (n:String)
 deriving DecidableEq
def Z6:V->Value->Prop
 |.non,u=>u=Value.none
 |.bl b,u=>u=Value.bool b
 |.int i,u=>∃t,u=Value.int i t
 |.str x,u=>∃t,u=Value.str x t
 |.byt b,u=>∃t,u=Value.bytes b t
 |.flt b,u=>∃t,u=Value.float b t
 |.ref a,u=>u=Value.ref a
 |.ty n,u=>u=Value.type n
abbrev ZE:List V->45->Prop:=Paired Z6
def ZE.length{xs:List V}{us:45}(r:ZE xs us):xs.length=us.length:=gt r
def ZE.get:∀{xs:List V}{us:45}{i:Nat}{x:V},ZE xs us->xs[i]?=some x->∃u,us[i]?=some u/\Z6 x u
 |_,_,_,_,.nil,e=>by simp at e
 |_,_,0,_,.cons r _,e=>by simp at e;subst e;exact⟨_,rfl,r⟩
 |_,_,i+1,x,.cons _ t,e=>by
  obtain⟨u,h1,h2⟩:=ZE.get (i:=i) (x:=x) t (by simpa using e);exact⟨u,by simpa using h1,h2⟩
def ZE.set{x:V}{u:Value}(r:Z6 x u):∀{xs:List V}{us:45} (i:Nat),ZE xs us->ZE (xs.set i x) (us.set i u)
 |_,_,_,.nil=>.nil
 |_,_,0,.cons _ t=>.cons r t
 |_,_,i+1,.cons q t=>.cons q (ZE.set r i t)
def ZE.append:∀{xs ys:List V}{us ws:45},ZE xs us->ZE ys ws->ZE (xs++ys) (us++ws)
 |_,_,_,_,.nil,s=>s
 |_,_,_,_,.cons r t,s=>.cons r (ZE.append t s)
def ZE.take:∀{xs:List V}{us:45} (n:Nat),ZE xs us->ZE (xs.take n) (us.take n)
 |_,_,0,_=>.nil
 |_,_,_+1,.nil=>.nil
 |_,_,n+1,.cons r t=>.cons r (ZE.take n t)
def ZE.drop:∀{xs:List V}{us:45} (n:Nat),ZE xs us->ZE (xs.drop n) (us.drop n)
 |_,_,0,r=>r
 |_,_,_+1,.nil=>.nil
 |_,_,n+1,.cons _ t=>ZE.drop n t
def U3:69->67->Prop
 |some v,some u=>Z6 v u
 |none,none=>True
 |_,_=>False
def KV{κ:Type}:List (κ×V)->List (κ×Value)->Prop:=Paired fun(p:κ×V) (q:κ×Value)=>p.1=q.1/\Z6 p.2 q.2
def kV:Key->V
 |.inl i=>.int i
 |.inr x=>.str x
inductive HO where
 |lst (xs:List V)
 |tup (xs:List V)
 |dK (kvs:List (Key×V))|dT (kvs:List (List Key×V))
 |set (S:Int->Bool) (n:Nat)
 |ins (C dx:Addr) (fs:73)
 |own (x:Addr)
 |xd (fs:73)
 |met (f x:Addr)
 |rng (lo hi:Int)
 |frz (o:Obj) (u:HO)
 |tbl (ps:Array Value)
 |ext (φ:Heap->Prop)
abbrev Hp:=Addr->Option HO
def upd(H:Hp)(a:Addr)(o:HO):Hp:=fun b=>if b=a then some o else H b
def Zc{H:Hp}{o:HO}:upd H a o a=some o:=by unfold upd;rw[og rfl]
def upd_ne{H:Hp}{o:HO}(h:b≠a):upd H a o b=H b:=by unfold upd;rw[n8 h]
def Yf{H:Hp}{o:HO}(h:H a=some o)(h':H b=none):a≠b:=by
 intro e;subst e;rw[h] at h';cases h'
section
variable(P:Program)(w:World)
def Y9(H:Hp)(h:Heap)(a:Addr):HO->Prop
 |.lst xs=>xs.length<=sizeLine/\∃(oi:45) (n:Nat),ZE xs oi/\h.get? a=some { cls:=.type "list",data:=.seq oi.toArray n }
 |.tup xs=>xs.length<=sizeLine/\∃oi:45,ZE xs oi/\IsTup h a oi.toArray
 |.dK kvs=>kvs.length<=sizeLine/\(a==sysModules)=false/\∃vs,KV kvs vs/\h.DictOf (Zv P w) a vs
 |.dT kvs=>kvs.length<=sizeLine/\(a==sysModules)=false/\∃xs:List (List Key×Addr×Value),
   Paired (fun(p:List Key×V) (q:List Key×Addr×Value)=>p.1=q.1/\H q.2.1=some (.tup (p.1.map kV))/\Z6 p.2 q.2.2) kvs xs /\
   ∃o es ep,h.get? a=some o/\o.ExactDict/\o.data=.dict es ep/\es.toList=xs.map (entryOfKey (tupleKind (Zv P w)))/\(xs.map (·.1)).Nodup
 |.set S n=>h.SetOf (intKind P w) a S n
 |.ins C dx fs=>H dx=some (.own a)/\fs.length<=1000/\dx≠a/\h.get? a=some (W.instObj C dx) /\
   ∃mA,h.Ns1 dx mA/\(∀f,U3 (fs.lookup f) (mA f))/\PySem.Within mA (fs.map (·.1))
 |.own _=>∃o,h.get? a=some o
 |.xd fs=>∃mA,h.Ns1 a mA/\∀f,U3 (fs.lookup f) (mA f)
 |.rng lo hi=>∃t u v,h.get? a=some { cls:=.type "range",data:=.fields #[.int lo t,.int hi u,.int 1 v] }
 |.frz o u=>h.get? a=some o/\Y9 H h a u
 |.tbl ps=>h.get? a=some { cls:=.none,data:=.fields ps }
 |.met f x=>h.get? a=some (W.methodObj (.ref f) (.ref x))
 |.ext φ=>φ h/\(∃o,h.get? a=some o)/\∀h1 h2:Heap,φ h1->(∀o,h1.get? a=some o->h2.get? a=some o)->φ h2
def HOk(H:Hp)(h:Heap):Prop:=∀a o,H a=some o->Y9 P w H h a o
end
section
variable{P:Program}{w:World}{H H':Hp}{h h':Heap}{a:Addr}{o:HO}
theorem Y9.lt(x:Y9 P w H h a o):a<h.objs.size:=by
 cases o with
 |lst xs=>obtain⟨_,_,_,_,e⟩:=x;exact cT e
 |tup xs=>obtain⟨_,_,_,p⟩:=x;exact p.lt
 |dK kvs=>obtain⟨_,_,_,_,o,_,_,e,_⟩:=x;exact cT e
 |dT kvs=>obtain⟨_,_,_,_,o,_,_,e,_⟩:=x;exact cT e
 |set S n=>obtain⟨o,_,_,_,e,_⟩:=x;exact cT e
 |ins C dx fs=>obtain⟨_,_,_,e,_⟩:=x;exact cT e
 |own y=>obtain⟨_,e⟩:=x;exact cT e
 |xd fs=>obtain⟨_,⟨_,_,_,e,_⟩,_⟩:=x;exact cT e
 |rng lo hi=>obtain⟨_,_,_,e⟩:=x;exact cT e
 |frz ob u=>obtain⟨e,_⟩:=x;exact cT e
 |tbl ps=>exact cT (show h.get? a=some _ from x)
 |met f y=>exact cT (show h.get? a=some _ from x)
 |ext φ=>obtain⟨_,⟨_,e⟩,_⟩:=x;exact cT e
theorem Paired.mapP{α β:Type}{F G:α->β->Prop}:∀{l₁:List α}{l₂:List β},Paired F l₁ l₂->(∀a b,F a b->G a b)->Paired G l₁ l₂
 |_,_,.nil,_=>.nil
 |_,_,.cons r t,f=>.cons (f _ _ r) (Paired.mapP t f)
theorem Y9.stay(x:Y9 P w H h a o)(k:∀b u,(b=a\/H b=some (.own a))->h.get? b=some u->h'.get? b=some u)
  (ho:∀b,H b=some (.own a)->H' b=some (.own a)) (ht:∀b xs,H b=some (.tup xs)->H' b=some (.tup xs)):Y9 P w H' h' a o:=by
 induction o with
 |lst xs=>obtain⟨z,oi,n,r,e⟩:=x;exact⟨z,oi,n,r,k _ _ (.inl rfl) e⟩
 |tup xs=>obtain⟨z,oi,r,ob,e,c⟩:=x;exact⟨z,oi,r,ob,k _ _ (.inl rfl) e,c⟩
 |dK kvs=>obtain⟨z,y,vs,r,ob,es,ep,e,c⟩:=x;exact⟨z,y,vs,r,ob,es,ep,k _ _ (.inl rfl) e,c⟩
 |dT kvs=>
  obtain⟨z,y,xs,r,ob,es,ep,e,c⟩:=x;exact⟨z,y,xs,Paired.mapP r fun p q z=>⟨z.1,ht _ _ z.2.1,z.2.2⟩,ob,es,ep,k _ _ (.inl rfl) e,c⟩
 |set S n=>obtain⟨ob,es,ep,t,e,c⟩:=x;exact⟨ob,es,ep,t,k _ _ (.inl rfl) e,c⟩
 |ins C dx fs=>
  obtain⟨d,z,ne,e,mA,⟨od,es,ep,e2,c⟩,r⟩:=x;exact⟨ho _ d,z,ne,k _ _ (.inl rfl) e,mA,⟨od,es,ep,k _ _ (.inr d) e2,c⟩,r⟩
 |own y=>obtain⟨ob,e⟩:=x;exact⟨ob,k _ _ (.inl rfl) e⟩
 |xd fs=>obtain⟨mA,⟨od,es,ep,e,c⟩,r⟩:=x;exact⟨mA,⟨od,es,ep,k _ _ (.inl rfl) e,c⟩,r⟩
 |rng lo hi=>obtain⟨t,u,v,e⟩:=x;exact⟨t,u,v,k _ _ (.inl rfl) e⟩
 |frz ob u ih=>obtain⟨e,q⟩:=x;exact⟨k _ _ (.inl rfl) e,ih q⟩
 |tbl ps=>
  have e:h.get? a=some { cls:=.none,data:=.fields ps }:=x
  show h'.get? a=some { cls:=.none,data:=.fields ps }
  exact k a _ (.inl rfl) e
 |met f y=>
  have e:h.get? a=some (W.methodObj (.ref f) (.ref y)):=x
  show h'.get? a=some (W.methodObj (.ref f) (.ref y))
  exact k a _ (.inl rfl) e
 |ext φ=>obtain⟨p,⟨o,e⟩,st⟩:=x;exact⟨st _ _ p fun o q=>k _ _ (.inl rfl) q,⟨o,k _ _ (.inl rfl) e⟩,st⟩
theorem HOk.lt(x:HOk P w H h)(e:H a=some o):a<h.objs.size:=(x a o e).lt
theorem HOk.fresh(x:HOk P w H h)(e:h.objs.size<=a):H a=none:=by
 cases q:H a with
 |none=>rfl
 |some u=>exact oh (fq (x.lt q) e) (gn _)
theorem HOk.kept(x:HOk P w H h)(k:∀b u,h.get? b=some u->h'.get? b=some u):HOk P w H h':=fun a o e=>
 (x a o e).stay (fun b u _ q=>k b u q) (fun _ q=>q) fun _ _ q=>q
theorem HOk.laid(x:HOk P w H h)(k:∀b u,h.get? b=some u->h'.get? b=some u)(hp:h.objs.size<=a)(new:Y9 P w (upd H a o) h' a o):HOk P w (upd H a o) h':=fun b u e=>by
 have hn:=x.fresh hp
 by_cases hb:b=a
 ·subst hb;rw[Zc] at e;cases e;exact new
 ·rw[upd_ne hb] at e;exact(x b u e).stay (fun c v _ q=>k c v q) (fun c q=>by rw[upd_ne (Yf q hn)];exact q) fun c xs q=>by rw[upd_ne (Yf q hn)];exact q
end
def Rd(H:Hp)(a:Addr)(u:HO):Prop:=H a=some u\/∃o,H a=some (.frz o u)
def Rd.ok{H:Hp}{u:HO}(r:Rd H a u)(x:HOk P w H h):Y9 P w H h a u:=by
 rcases r with r|⟨o,r⟩
 ·exact x a u r
 ·obtain⟨_,q⟩:=x a _ r;exact q
def Mut:Option HO->Prop
 |some (.lst _)=>True
 |some (.dK _)=>True
 |some (.dT _)=>True
 |some (.set _ _)=>True
 |some (.ins _ _ _)=>True
 |some (.ext _)=>True
 |_=>False
section
variable{H:Hp}{x e:Addr}{o':HO}
theorem HOk.write(ok:HOk P w H h)(mu:Mut (H x))(he:e=x\/H e=some (.own x))(k:∀b u,b≠e->h.get? b=some u->h'.get? b=some u)(ua:∃u,h'.get? e=some u)
  (new:Y9 P w (upd H x o') h' x o'):HOk P w (upd H x o') h':=fun b u q=>by
 have Ez:∀c y,H c=some (.own y)->c≠x:=fun c y r z=>by subst z;rw[r] at mu;exact mu
 have Ij:∀c xs,H c=some (.tup xs)->c≠x:=fun c xs r z=>by subst z;rw[r] at mu;exact mu
 by_cases hb:b=x
 ·subst hb;rw[Zc] at q;cases q;exact new
 ·rw[upd_ne hb] at q
  by_cases hbe:b=e
  ·have q':H b=some (.own x):=by
    rcases he with z|z
    ·exact oh (hbe.trans z) hb
    ·rw[hbe];exact z
   rw[q] at q';cases q';obtain⟨v,hv⟩:=ua;exact⟨v,by rw[hbe];exact hv⟩
  ·refine(ok b u q).stay (fun c v hc r=>k c v ?_ r) (fun c r=>by rw[upd_ne (Ez c b r)];exact r) fun c xs r=>by rw[upd_ne (Ij c xs r)];exact r
   rcases hc with rfl|hc
   ·exact hbe
   ·rintro rfl;rcases he with z|z
    ·exact Ez c b hc z
    ·rw[hc] at z;cases z;exact hb rfl
end
structure Un(fs ex:List Addr)(H H':Hp)(h h':Heap):Prop where
 keep:∀b o,h.get? b=some o->H b=none->b∉fs->b∉ex->h'.get? b=some o
 slot:∀b o,h.get? b=some o->H b=none->b∈fs->b∉ex->∃sl,h'.get? b=some { o with slots:=sl }
 free:∀b o,h.get? b=some o->H b=none->b∉ex->H' b=none
 there:∀b o,h.get? b=some o->b∉ex->∃o',h'.get? b=some o'
 tups:∀b xs,H b=some (.tup xs)->H' b=some (.tup xs)
 frzs:∀b o u,H b=some (.frz o u)->H' b=some (.frz o u)
 tbls:∀b ps,H b=some (.tbl ps)->∃more,H' b=some (.tbl (ps++more))
section
variable{fs Hz ex Rx:List Addr}{H H1 H2:Hp}{h1 h2:Heap}{x e:Addr}{o:HO}
theorem Un.any(u:Un fs ex H H1 h h1)(q:h.get? b=some ob)(n:H b=none)(hx:b∉ex):∃sl,h1.get? b=some { ob with slots:=sl }:=by
 by_cases hb:b∈fs
 ·exact u.slot b ob q n hb hx
 ·exact⟨ob.slots,u.keep b ob q n hb hx⟩
theorem Un.kept(k:∀b u,h.get? b=some u->h'.get? b=some u):Un fs ex H H h h':=
 ⟨fun b ob q _ _ _=>k b ob q,fun b ob q _ _ _=>⟨ob.slots,k b ob q⟩,fun _ _ _ n _=>n,fun b ob q _=>⟨ob,k b ob q⟩,fun _ _ q=>q,fun _ _ _ q=>q,fun _ ps q=>⟨#[],by rw[q];simp⟩⟩
theorem Un.refl:Un fs ex H H h h:=Un.kept fun _ _ q=>q
theorem Un.laid(k:∀b u,h.get? b=some u->h'.get? b=some u)(hp:h.objs.size<=a)(hn:H a=none):Un fs ex H (upd H a o) h h' where
 keep:=fun b u q _ _ _=>k b u q
 slot:=fun b u q _ _ _=>⟨u.slots,k b u q⟩
 free:=fun b u q n _=>by rw[upd_ne (c9 (fq (cT q) hp))];exact n
 there:=fun b u q _=>⟨u,k b u q⟩
 tups:=fun b xs q=>by rw[upd_ne (Yf q hn)];exact q
 frzs:=fun b u xs q=>by rw[upd_ne (Yf q hn)];exact q
 tbls:=fun b ps q=>⟨#[],by rw[upd_ne (Yf q hn),q];simp⟩
theorem Un.write(mu:Mut (H x))(he:e=x\/H e=some (.own x))(k:∀b u,b≠e->h.get? b=some u->h'.get? b=some u)(ua:∃u,h'.get? e=some u):Un fs ex H (upd H x o) h h':=by
 have hx:∀b,H b=none->b≠x:=fun b n z=>by subst z;rw[n] at mu;exact mu
 have hb:∀b,H b=none->b≠e:=fun b n z=>by
  subst z;rcases he with r|r
  ·exact hx b n r
  ·rw[n] at r;cases r
 have hm:∀b u,H b=some u->¬Mut (some u)->b≠x:=fun b u q nm z=>by subst z;rw[q] at mu;exact nm mu
 refine⟨fun b u q n _ _=>k b u (hb b n) q,fun b u q n _ _=>⟨u.slots,k b u (hb b n) q⟩,fun b u q n _=>by rw[upd_ne (hx b n)];exact n,fun b u q _=>?_,
  fun b xs q=>by rw[upd_ne (hm b _ q fun z=>z)];exact q,fun b u xs q=>by rw[upd_ne (hm b _ q fun z=>z)];exact q,fun b ps q=>⟨#[],by rw[upd_ne (hm b _ q fun z=>z),q];simp⟩⟩
 by_cases hbe:b=e
 ·subst hbe;exact ua
 ·exact⟨u,k b u hbe q⟩
end
def trk(h:Heap)(H:Hp):List Addr:=(γ h.objs.size).filter fun a=>(H a).isSome
def jy(h:Heap)(H:Hp):Heap:=W.hideAll h (trk h H)
def K3(h:Heap)(H:Hp):(jy h H).objs.size=h.objs.size:=W.hideAll_size _ _
def Zbc{H:Hp}{o:Obj}(e:h.get? b=some o)(n:H b=none):(jy h H).get? b=some o:=
 W.hideAll_get _ e fun hm=>by
  have q:(H b).isSome=true:=(fA.mp hm).2;rw[n] at q;simp at q
def Zcn{H:Hp}{o:Obj}(e:(jy h H).get? b=some o):h.get? b=some o/\H b=none:=by
 have e':h.get? b=some o:=W.of_hideAll (trk h H) e;refine⟨e',?_⟩;cases q:H b with
 |none=>rfl
 |some x=>
  have hm:b∈trk h H:=fA.mpr ⟨dY.mpr (cT e'),by simp[q]⟩;have z:(jy h H).get? b=none:=W.hideAll_none (trk h H) hm;rw[z] at e;cases e
def Zcl(g h:Heap)(L:Addr):53:=(γ h.objs.size).filterMap fun a=>if a=L\/(g.get? a).isSome=true then none else(h.get? a).map fun o=>(a,o)
def ZG(g h:Heap)(L d:Addr):53:=(Zcl g h L).filter fun p=>decide (p.1≠d)
end L2
variable{H H' H1 H0:L2.Hp}{v:L2.V}{o:L2.HO}{xf:List (PySem.Str×PySem.Addr)->PySem.Addr->PySem.Shared->L2.Hp->List PySem.Addr->PySem.Value->PySem.Shared->Prop}{o0:PySem.Addr->L2.HO}
namespace L2
open PySem PySem.Spec PyProof.Rows
structure Mod(K:W.Frag)(mg:Str->67)(base:Heap):Prop where
 kin:K.In base
 glob:base.Ns mainGlobals mg
 blt:∃mb,base.Ns builtinsNs mb/\∀x:Str,x ≠ "__name__" -> mb x=bootBuiltins x
 nolimit:base.NoLimit
structure Cx where
 prog:Program
 w:World
 K:W.Frag
 mg:Str->67
 base:Heap
 A:Around
 N:54
 s₀:Shared
 H₀:Hp
 env:Env
 outer:List Env
 stack:List Env
 ex:List Addr
 fn:Str->Bool
 calm:Bool
 pn:53
 xe:Value->41
def frs(l:List Env):List Addr:=l.filterMap (·.frame)
abbrev Cx.fs(X:Cx):List Addr:=frs X.outer
def Vis(sc:Scope)(x:Str):Prop:=sc.names.lookup x=some .local\/sc.names.lookup x=some .cell\/sc.names.lookup x=some .free
def Loc(sc:Scope)(x:Str):Prop:=sc.names.lookup x=some .local\/sc.names.lookup x=some .cell
def Look(env:Env)(h:Heap)(m:Str->67)(x:Str)(u:Value):Prop:=
 (env.kindOf x=some .local/\m x=some u)\/((env.kindOf x=some .cell\/env.kindOf x=some .free)/\∃c,env.cells.lookup x=some c/\h.IsCell c (some u))
structure Cx.Ok(X:Cx):Prop where
 mod:Mod X.K X.mg X.base
 kind:X.env.scope.kind=.function
 glob:X.env.globals=mainGlobals
 blt:X.env.builtins=builtinsNs
 above:X.s₀.heap.objs.size<=X.env.locals
 inj:∀x y c,X.env.cells.lookup x=some c->X.env.cells.lookup y=some c->x=y
 has:∀x,(X.env.kindOf x=some .cell\/X.env.kindOf x=some .free)->∃c,X.env.cells.lookup x=some c
 cab:∀x c,X.fn x=true->X.env.cells.lookup x=some c->X.s₀.heap.objs.size<=c
 hd:X.calm=true->X.A.handled=none
 frames:X.A.frames=some X.stack
 stk:X.stack=X.outer\/(X.stack=X.env::X.outer/\X.env.frame=some X.env.locals)
 exf:∀b∈X.ex,b≠X.env.locals/\∀x c,X.env.cells.lookup x=some c->c≠b
 bs:∀b o,X.base.get? b=some o->X.s₀.heap.get? b=some o/\X.H₀ b=none
 bsz:X.base.objs.size<=X.s₀.heap.objs.size
 noex:∀b o,X.base.get? b=some o->b∉X.ex
 exfs:∀b∈X.ex,b∉X.fs
 funs:X.s₀.heap.FunFrames X.base X.outer
 frf:∀b∈X.fs,X.H₀ b=none
structure Inv(X:Cx)(bJ:53)(U:List (69))(H:Hp)(s:Shared):Prop where
 ok:X.Ok
 os:s.os=X.s₀.os
 bare:AllBare s.gens
 base:Un X.fs X.ex X.H₀ H X.s₀.heap s.heap
 loc:∃m,s.heap.Ns X.env.locals m/\∀(i:Nat) (x:Str) (v:V),X.N[i]?=some x->U[i]?=some (some v)->Vis X.env.scope x->∃u,Z6 v u/\Look X.env s.heap m x u
 cell:∀x c,X.env.cells.lookup x=some c->∃v,s.heap.IsCell c v
 free:H X.env.locals=none
 freeC:∀x c,X.env.cells.lookup x=some c->H c=none
 pin:∀p∈X.pn++bJ,s.heap.get? p.1=some p.2/\H p.1=none/\p.1≠X.env.locals/\p.1∉X.fs/\∀v,p.2.data≠.cell v
 hok:HOk X.prog X.w H s.heap
 len:U.length=X.N.length
section
variable{X:Cx}{U:List (Option V)}
theorem Cx.Ok.nofr(ok:X.Ok){o:Obj}(e:X.base.get? b=some o):b∉X.fs:=fun hb=>by
 have:=(ok.funs.mem hb).1;rw[e] at this;cases this
theorem Inv.bs(I:43):∀b o,X.base.get? b=some o->s.heap.get? b=some o/\H b=none:=fun b o e=>
 ⟨I.base.keep b o (I.ok.bs b o e).1 (I.ok.bs b o e).2 (I.ok.nofr e) (I.ok.noex b o e),I.base.free b o (I.ok.bs b o e).1 (I.ok.bs b o e).2 (I.ok.noex b o e)⟩
theorem Inv.bk(I:43):∀b o,X.base.get? b=some o->s.heap.get? b=some o:=fun b o e=>(I.bs b o e).1
theorem Inv.mod(I:43):Mod X.K X.mg X.base:=I.ok.mod
theorem Inv.kIn(I:43):X.K.In s.heap:=I.ok.mod.kin.keeps I.bk
theorem Inv.lt(I:43):X.env.locals<s.heap.objs.size:=let ⟨_,hn,_⟩:=I.loc;hn.lt
theorem Inv.sz(I:43):X.s₀.heap.objs.size<=s.heap.objs.size:=fh I.ok.above (iL I.lt)
theorem Inv.nofs(I:43)(h:s.heap.objs.size<=a):a∉X.fs:=fun hb=>by
 obtain⟨_,o,ho,_⟩:=I.ok.funs.mem hb;exact oh (fq (cT ho) (fh I.sz h)) (gn _)
theorem Inv.cne(I:43):∀x c,X.env.cells.lookup x=some c->c≠X.env.locals:=fun x c e z=>by
 obtain⟨v,o,ho,hd⟩:=I.cell x c e;obtain⟨m,⟨o',es,ep,sT,pF,_⟩,_⟩:=I.loc;rw[z,sT] at ho;cases ho;rw[pF] at hd;cases hd
theorem Inv.funs(I:43):s.heap.FunFrames X.base X.outer:=by
 have all:∀(l:List Env),(∀b∈frs l,b∈X.fs)->X.s₀.heap.FunFrames X.base l->s.heap.FunFrames X.base l:=by
  intro l
  induction l with
  |nil=>intro _ _;trivial
  |cons env r ih=>
   intro hs hl;obtain⟨hk,⟨L,o,hf,hn,ho,hd⟩,hr⟩:=hl;have hL:L∈X.fs:=hs L (by unfold frs;rw[i9,hf];exact dC);obtain⟨sl,e⟩:=I.base.slot L o ho (I.ok.frf L hL) hL fun z=>I.ok.exfs L z hL;exact⟨hk,⟨L,_,hf,hn,e,hd⟩,ih (fun b hb=>hs b (by unfold frs;rw[i9,hf];exact c7 _ hb)) hr⟩
 exact all X.outer (fun _ hb=>hb) I.ok.funs
theorem Inv.stack(I:43):s.heap.FunFrames X.base X.stack:=by
 rcases I.ok.stk with e|⟨e,hf⟩
 ·rw[e];exact I.funs
 ·rw[e];obtain⟨m,hn,_⟩:=I.loc;refine .cons (by rw[I.ok.kind];decide) hf hn ?_ I.funs;exact Heap.get?_none_of_le (fh I.ok.bsz I.ok.above)
theorem Inv.stkSub(I:43):∀b∈frs X.stack,b∈X.env.locals::X.fs:=fun b hb=>by
 rcases I.ok.stk with e|⟨e,hf⟩
 ·rw[e] at hb;exact c7 _ hb
 ·rw[e] at hb;unfold frs at hb;rw[i9,hf] at hb;exact hb
theorem Inv.stkFree(I:43):∀b∈frs X.stack,H b=none:=fun b hb=>by
 rcases cW.mp (I.stkSub b hb) with e|hb
 ·rw[e];exact I.free
 ·obtain⟨_,o,ho,_⟩:=I.ok.funs.mem hb;exact I.base.free b o ho (I.ok.frf b hb) fun z=>I.ok.exfs b z hb
theorem Inv.step(I:43)
  (wr:∀b∈ch,(b∈X.ex\/X.s₀.heap.objs.size<=b)/\b≠X.env.locals/\(∀x c,X.env.cells.lookup x=some c->c≠b)/\∀p∈X.pn++bJ,p.1≠b)
  (keep:∀b o,b≠X.env.locals->b∉X.fs->b∉ch->s.heap.get? b=some o->H b=none->h'.get? b=some o)
  (slot:∀b o,b≠X.env.locals->b∈X.fs->b∉ch->s.heap.get? b=some o->H b=none->∃sl,h'.get? b=some { o with slots:=sl }) (free:∀b o,b∉ch->s.heap.get? b=some o->H b=none->H' b=none)
  (there:∀b o,b∉ch->s.heap.get? b=some o->∃o',h'.get? b=some o')
  (tups:∀b xs,H b=some (.tup xs)->H' b=some (.tup xs)) (frzs:∀b o u,H b=some (.frz o u)->H' b=some (.frz o u)) (tbls:∀b ps,H b=some (.tbl ps)->∃more,H' b=some (.tbl (ps++more)))
  (ns:∀m,s.heap.Ns X.env.locals m->h'.Ns X.env.locals m) (hok:HOk X.prog X.w H' h') (hg:AllBare g') :
  89 H' { s with heap:=h',gens:=g',drawn:=d',toks:=t' }:=by
 have Lp:∀b o,X.s₀.heap.get? b=some o->b≠X.env.locals:=fun b o e=>c9 (fq (cT e) I.ok.above);have FY:∀b o,X.s₀.heap.get? b=some o->b∉X.ex->b∉ch:=fun b o e hx hb=>by
  rcases(wr b hb).1 with z|z
  ·exact hx z
  ·exact oh (fq (cT e) z) (gn _)
 have AJ:∀x c,X.env.cells.lookup x=some c->∀v,s.heap.IsCell c v->h'.IsCell c v:=fun x c e v ⟨o,ho,hd⟩=>by
  have t9:c∉ch:=fun z=>(wr c z).2.2.1 x c e rfl
  by_cases hc:c∈X.fs
  ·obtain⟨sl,q⟩:=slot c o (I.cne x c e) hc t9 ho (I.freeC x c e);exact⟨_,q,hd⟩
  ·exact⟨o,keep c o (I.cne x c e) hc t9 ho (I.freeC x c e),hd⟩
 refine⟨I.ok,I.os,hg,⟨fun b o e n hb hx=>?_,fun b o e n hb hx=>?_,fun b o e n hx=>?_,fun b o e hx=>?_,fun b xs e=>tups b xs (I.base.tups b xs e),fun b o xs e=>frzs b o xs (I.base.frzs b o xs e),fun b ps e=>?_⟩,?_,fun x c e=>?_,?_,fun x c e=>?_,fun p hp=>?_,hok,I.len⟩
 ·exact keep b o (Lp b o e) hb (FY b o e hx) (I.base.keep b o e n hb hx) (I.base.free b o e n hx)
 ·obtain⟨sl,e1⟩:=I.base.slot b o e n hb hx;obtain⟨pQ,e2⟩:=slot b _ (Lp b o e) hb (FY b o e hx) e1 (I.base.free b o e n hx);exact⟨pQ,e2⟩
 ·obtain⟨o',e1⟩:=I.base.there b o e hx;exact free b o' (FY b o e hx) e1 (I.base.free b o e n hx)
 ·obtain⟨o',e1⟩:=I.base.there b o e hx;exact there b o' (FY b o e hx) e1
 ·obtain⟨m1,e1⟩:=I.base.tbls b ps e;obtain⟨m2,e2⟩:=tbls b _ e1;exact⟨m1++m2,by rw[e2,Array.append_assoc]⟩
 ·obtain⟨m,hn,hl⟩:=I.loc;refine⟨m,ns m hn,fun i x v e1 e2 e3=>?_⟩;obtain⟨u,r,l⟩:=hl i x v e1 e2 e3;refine⟨u,r,?_⟩;rcases l with l|⟨k,c,e,z⟩
  ·exact .inl l
  ·exact .inr ⟨k,c,e,AJ x c e _ z⟩
 ·obtain⟨v,z⟩:=I.cell x c e;exact⟨v,AJ x c e v z⟩
 ·obtain⟨m,⟨o,_,_,ho,_⟩,_⟩:=I.loc;exact free _ o (fun z=>(wr _ z).2.1 rfl) ho I.free
 ·obtain⟨v,o,ho,hd⟩:=I.cell x c e;exact free c o (fun z=>(wr c z).2.2.1 x c e rfl) ho (I.freeC x c e)
 ·obtain⟨e,n,ne,nf,d⟩:=I.pin p hp;have t9:p.1∉ch:=fun z=>(wr p.1 z).2.2.2 p hp rfl;exact⟨keep p.1 p.2 ne nf t9 e n,free p.1 p.2 t9 e n,ne,nf,d⟩
theorem Inv.un(I:43)(u:Un X.fs [] H H' s.heap h')(hok:HOk X.prog X.w H' h'):89 H' 117:=by
 obtain⟨m,⟨o,es,ep,ho,r⟩,_⟩:=id I.loc;obtain⟨sl,hL⟩:=u.any ho I.free 39;exact I.step (g':=s.gens) (d':=s.drawn) (ch:=[]) (fun _ z=>nomatch z) (fun b o _ hb _ e n=>u.keep b o e n hb 39) (fun b o _ hb _ e n=>u.slot b o e n hb 39) (fun b o _ e n=>u.free b o e n 39) (fun b o _ e=>u.there b o e 39) u.tups u.frzs u.tbls (fun m' hm=>by
  obtain⟨o',es',ep',sT,r'⟩:=hm;rw[ho] at sT;cases sT;exact⟨_,es',ep',hL,r'⟩) hok I.bare
theorem Inv.call(I:43)(u:Un (frs X.stack) ch H H' s.heap h')(hok:HOk X.prog X.w H' h')(hg:AllBare g')
  (wr:∀b∈ch,(b∈X.ex\/X.s₀.heap.objs.size<=b)/\b≠X.env.locals/\(∀x c,X.env.cells.lookup x=some c->c≠b)/\∀p∈X.pn++bJ,p.1≠b) :
  89 H' { s with heap:=h',gens:=g',drawn:=d',toks:=t' }:=by
 obtain⟨m,⟨o,es,ep,ho,r⟩,_⟩:=id I.loc;obtain⟨sl,hL⟩:=u.any ho I.free fun z=>(wr _ z).2.1 rfl;exact I.step (ch:=ch) wr (fun b o hL hb hc e n=>u.keep b o e n (fun z=>(cW.mp (I.stkSub b z)).elim hL hb) hc) (fun b o _ _ hc e n=>u.any e n hc) (fun b o hc e n=>u.free b o e n hc) (fun b o hc e=>u.there b o e hc) u.tups u.frzs u.tbls (fun m' hm=>by
  obtain⟨o',es',ep',sT,r'⟩:=hm;rw[ho] at sT;cases sT;exact⟨_,es',ep',hL,r'⟩) hok hg
theorem Inv.turned(I:43)(k:∀b o,b≠it->s.heap.get? b=some o->h'.get? b=some o)(hn:H it=none)(hL:it≠X.env.locals)
  (h1:it∈X.ex\/X.s₀.heap.objs.size<=it) (h2:∀x c,X.env.cells.lookup x=some c->c≠it) (h3:∀p∈X.pn++bJ,p.1≠it):89 H 117:=by
 have Lx:∀b u,H b=some u->b≠it:=fun b u e z=>by rw[z,hn] at e;cases e
 refine I.step (g':=s.gens) (d':=s.drawn) (ch:=[it]) (fun b hb=>?_) (fun b o _ _ hc e _=>k b o (fun z=>hc (by simp[z])) e) (fun b o _ _ hc e _=>⟨o.slots,k b o (fun z=>hc (by simp[z])) e⟩) (fun _ _ _ _ n=>n)
  (fun b o hc e=>⟨o,k b o (fun z=>hc (by simp[z])) e⟩) (fun _ _ e=>e) (fun _ _ _ e=>e) (fun b ps e=>⟨#[],by rw[e];simp⟩) (fun m hm=>?_) (fun b u e=>?_) I.bare
 ·have e:b=it:=by simpa using hb
  subst e;exact⟨h1,hL,h2,h3⟩
 ·obtain⟨o,es,ep,ho,r⟩:=hm;exact⟨o,es,ep,k _ o (eY hL) ho,r⟩
 ·refine(I.hok b u e).stay (fun c v hc q=>k c v ?_ q) (fun _ q=>q) fun _ _ q=>q;rcases hc with z|z
  ·rw[z];exact Lx b u e
  ·exact Lx c _ z
theorem Inv.tok(I:43)(t:Nat):89 H { s with toks:=t }:=I.un (h':=s.heap) (t':=t) Un.refl I.hok
theorem Inv.kept{t':Nat}(I:43)(k:∀b u,s.heap.get? b=some u->h'.get? b=some u):89 H 117:=I.un (Un.kept k) (I.hok.kept k)
theorem Inv.laid{a:Addr}{o:HO}{t':Nat}(I:43)(k:∀b u,s.heap.get? b=some u->h'.get? b=some u)(hp:s.heap.objs.size<=a)(new:Y9 X.prog X.w (upd H a o) h' a o) :
  89 (upd H a o) 117:=I.un (Un.laid k hp (I.hok.fresh hp)) (I.hok.laid k hp new)
theorem Inv.write{x e:Addr}{o:HO}{t':Nat}(I:43)(mu:Mut (H x))(he:e=x\/H e=some (.own x))(k:∀b u,b≠e->s.heap.get? b=some u->h'.get? b=some u)(ua:∃u,h'.get? e=some u)
  (new:Y9 X.prog X.w (upd H x o) h' x o):89 (upd H x o) 117:=I.un (Un.write mu he k ua) (I.hok.write mu he k ua new)
theorem Inv.pins_of(I:43)(h:∀p∈AT,s.heap.get? p.1=some p.2/\H p.1=none/\p.1≠X.env.locals/\p.1∉X.fs/\∀v,p.2.data≠.cell v):Inv X AT U H s:=
 ⟨I.ok,I.os,I.bare,I.base,I.loc,I.cell,I.free,I.freeC,fun p hp=>(db.mp hp).elim (fun z=>I.pin p (dN _ z)) (h p),I.hok,I.len⟩
theorem jQ{N:54}(hN:N.Nodup){i:Nat}{x:Str}(a:N[i]?=some x)(b:N[j]?=some x):i=j:=by
 obtain⟨h1,e1⟩:=dk.mp a;obtain⟨h2,e2⟩:=dk.mp b;exact(lh hN).mp (e1.trans e2.symm)
theorem qj{M:Model}{i:Nat}{x:Str}{u:Value}{Q:Unit->41}(I:43)(hN:X.N.Nodup)(hi:X.N[i]?=some x)(hx:Loc X.env.scope x)(r:Z6 v u)
  (h:∀s',Inv X bJ (U.set i (some v)) H s'->(∃a,Heap.SameBut a s.heap s'.heap/\(a=X.env.locals\/X.env.cells.lookup x=some a))->Q () s') (hf:X.fn x=true\/X.env.scope.names.lookup x=some .local:=by first|exact .inl rfl|exact .inr rfl|assumption):wpAny M A (storeName X.env x u) Q E s:=by
 obtain⟨m,hn,hl⟩:=id I.loc;have GP:(X.env.scope.kind==.class||(X.env.scope.kind==.module&&X.env.locals != X.env.globals))=false:=by rw[I.ok.kind];rfl
 have Nw:i<U.length:=by rw[I.len];exact(dk.mp hi).1
 have cne:=I.cne;have tj:∀{a:Addr}{h':Heap},(∃o,s.heap.get? a=some o/\H a=none)->Heap.SameBut a s.heap h'->HOk X.prog X.w H h':=fun {a h'} ha hs b ob e=>by
  obtain⟨_,_,pM⟩:=ha;refine(I.hok b ob e).stay (fun c w' hc q=>(hs.2 c ?_).trans q) (fun _ q=>q) fun _ _ q=>q;rintro rfl;rcases hc with rfl|hc
  ·rw[pM] at e;cases e
  ·rw[pM] at hc;cases hc
 rcases hx with hk|hk
 ·refine wpAny_storeName_local hk hn (fun h' Dw hs=>?_) GP;obtain⟨oL,_,_,Am,_⟩:=id hn;refine h _ ⟨I.ok,I.os,I.bare,⟨fun b o e n hb hx=>?_,fun b o e n hb hx=>?_,I.base.free,fun b o e hx=>?_,I.base.tups,I.base.frzs,I.base.tbls⟩,⟨_,Dw,fun j y v' e1 e2 e3=>?_⟩,fun y c e=>?_,I.free,I.freeC,fun p hp=>?_,tj ⟨oL,Am,I.free⟩ hs,by simpa using I.len⟩ ⟨_,hs,.inl rfl⟩
  ·exact(hs.2 b (c9 (fq (cT e) I.ok.above))).trans (I.base.keep b o e n hb hx)
  ·obtain⟨sl,e1⟩:=I.base.slot b o e n hb hx;exact⟨sl,(hs.2 b (c9 (fq (cT e) I.ok.above))).trans e1⟩
  ·obtain⟨o',e1⟩:=I.base.there b o e hx;exact⟨o',(hs.2 b (c9 (fq (cT e) I.ok.above))).trans e1⟩
  ·by_cases hj:j=i
   ·subst hj;rw[hi] at e1;cases e1;rw[Φ Nw] at e2;cases e2;exact⟨u,r,.inl ⟨hk,by simp⟩⟩
   ·rw[List.getElem?_set_ne (eY hj)] at e2;obtain⟨u',r',q⟩:=hl j y v' e1 e2 e3;refine⟨u',r',?_⟩;rcases q with⟨k,e⟩|⟨k,c,e,z⟩
    ·refine .inl ⟨k,?_⟩;have:y≠x:=fun e=>hj (jQ hN e1 (e▸hi));simp[this,e]
    ·exact .inr ⟨k,c,e,z.sameBut hs (cne y c e)⟩
  ·obtain⟨w',z⟩:=I.cell y c e;exact⟨w',z.sameBut hs (cne y c e)⟩
  ·obtain⟨e,n,ne,nf,d⟩:=I.pin p hp;exact⟨(hs.2 p.1 ne).trans e,n,ne,nf,d⟩
 ·have EA:X.fn x=true:=by
   rcases hf with z|z
   ·exact z
   ·rw[z] at hk;cases hk
  obtain⟨c,hc⟩:=I.ok.has x (.inl hk);obtain⟨w',z⟩:=I.cell x c hc;refine wpAny_storeName_cell I.ok.kind hk hc z (fun h' MR hs=>?_);obtain⟨oc,Ls,Iq⟩:=id z;refine h 49 ⟨I.ok,I.os,I.bare,⟨fun b o e n hb hx=>?_,fun b o e n hb hx=>?_,I.base.free,fun b o e hx=>?_,I.base.tups,I.base.frzs,I.base.tbls⟩,⟨m,hn.sameBut hs (eY (cne x c hc)),fun j y v' e1 e2 e3=>?_⟩,fun y c' e=>?_,I.free,I.freeC,fun p hp=>?_,tj ⟨oc,Ls,I.freeC x c hc⟩ hs,by simpa using I.len⟩ ⟨c,hs,.inr hc⟩
  ·exact(hs.2 b (c9 (fq (cT e) (I.ok.cab x c EA hc)))).trans (I.base.keep b o e n hb hx)
  ·obtain⟨sl,e1⟩:=I.base.slot b o e n hb hx;exact⟨sl,(hs.2 b (c9 (fq (cT e) (I.ok.cab x c EA hc)))).trans e1⟩
  ·obtain⟨o',e1⟩:=I.base.there b o e hx;exact⟨o',(hs.2 b (c9 (fq (cT e) (I.ok.cab x c EA hc)))).trans e1⟩
  ·by_cases hj:j=i
   ·subst hj;rw[hi] at e1;cases e1;rw[Φ Nw] at e2;cases e2;exact⟨u,r,.inr ⟨.inl hk,c,hc,MR⟩⟩
   ·rw[List.getElem?_set_ne (eY hj)] at e2;obtain⟨u',r',q⟩:=hl j y v' e1 e2 e3;refine⟨u',r',?_⟩;rcases q with q|⟨k,c',e,z'⟩
    ·exact .inl q
    ·refine .inr ⟨k,c',e,z'.sameBut hs ?_⟩;rintro rfl;exact hj (jQ hN e1 (I.ok.inj _ _ _ e hc▸hi))
  ·by_cases hcc:c'=c
   ·subst hcc;exact⟨_,MR⟩
   ·obtain⟨w2,z2⟩:=I.cell y c' e;exact⟨w2,z2.sameBut hs hcc⟩
  ·obtain⟨e,n,ne,nf,d⟩:=I.pin p hp;refine⟨(hs.2 p.1 ?_).trans e,n,ne,nf,d⟩;intro q;rw[q,Ls] at e;have q':oc=p.2:=eZ e;exact d w' (by rw[<- q'];exact Iq)
theorem zW{M:Model}{i:Nat}{x:Str}{u:Value}{Q:Unit->41}(I:43)(hN:X.N.Nodup)(hi:X.N[i]?=some x)(hx:Loc X.env.scope x)(r:Z6 v u)
  (h:∀s',Inv X bJ (U.set i (some v)) H s'->Q () s') (hf:X.fn x=true\/X.env.scope.names.lookup x=some .local:=by first|exact .inl rfl|exact .inr rfl|assumption):wpAny M A (storeName X.env x u) Q E s:=
 qj I hN hi hx r (fun s' I' _=>h s' I') hf
theorem Inv.call'(I:43)(ho:s'.os=s.os)(u:Un (frs X.stack) ch H H' s.heap s'.heap)(hok:HOk X.prog X.w H' s'.heap)(hg:AllBare s'.gens)
  (wr:∀b∈ch,(b∈X.ex\/X.s₀.heap.objs.size<=b)/\b≠X.env.locals/\(∀x c,X.env.cells.lookup x=some c->c≠b)/\∀p∈X.pn++bJ,p.1≠b):89 H' s':=by
 obtain⟨h',g',d',t',o'⟩:=s';have e:o'=s.os:=ho;subst e;exact I.call (g':=g') (t':=t') (d':=d') u hok hg wr
end
abbrev XK:=Value->Option Addr->Hp->Prop
abbrev St:=List (69)
abbrev VK:=V->Hp->Prop
abbrev TE:=St->Hp->VK->Prop
abbrev TT:=St->Hp->(Bool->Hp->Prop)->Prop
abbrev TA:=St->Hp->(List V->Hp->Prop)->Prop
structure js where
 nx:St->Hp->Prop
 rt:VK
 bk:St->Hp->Prop:=fun _ _=>False
 ct:St->Hp->Prop:=fun _ _=>False
abbrev TS:=js->St->Hp->Prop
inductive Zeb(X:Cx)(bJ:53)(U:St)(Q:VK)(u:Value)(s':Shared):Prop
 |mk (v:V) (H':Hp) (h0:89 H' s') (h1:Z6 v u) (h2:Q v H'):Zeb X bJ U Q u s'
def EP(X:Cx)(bJ:53)(U:St)(Q:VK)(u:Value)(s':Shared):Prop:=Zeb X bJ U Q u s'
inductive Zer(X:Cx)(bJ:53)(U:St)(Q:Bool->Hp->Prop)(b:Bool)(s':Shared):Prop
 |mk (H':Hp) (h0:89 H' s') (h1:Q b H'):Zer X bJ U Q b s'
def TP(X:Cx)(bJ:53)(U:St)(Q:Bool->Hp->Prop)(b:Bool)(s':Shared):Prop:=Zer X bJ U Q b s'
inductive ZeO(X:Cx)(bJ:53)(U:St)(Q:List V->Hp->Prop)(us:45)(s':Shared):Prop
 |mk (vs:List V) (H':Hp) (h0:89 H' s') (h1:ZE vs us) (h2:Q vs H'):ZeO X bJ U Q us s'
def AP(X:Cx)(bJ:53)(U:St)(Q:List V->Hp->Prop)(us:45)(s':Shared):Prop:=ZeO X bJ U Q us s'
def SP(X:Cx)(bJ:53)(D:js)(f:Flow)(s':Shared):Prop:=
 match f with
 |.next=>∃σ' H',Inv X bJ σ' H' s'/\D.nx σ' H'
 |.brk=>∃σ' H',Inv X bJ σ' H' s'/\D.bk σ' H'
 |.cont=>∃σ' H',Inv X bJ σ' H' s'/\D.ct σ' H'
 |.ret u=>∃v σ' H',Inv X bJ σ' H' s'/\Z6 v u/\D.rt v H'
def PE(X:Cx)(e:Expr)(t:TE):Prop:=
 ∀(bJ:53) (s:Shared) (U:St) (H:Hp) (Q:VK),43->t U H Q->38 (eval e X.env) (EP X bJ U Q) X.xe s
def PT(X:Cx)(e:Expr)(t:TT):Prop:=
 ∀(bJ:53) (s:Shared) (U:St) (H:Hp) (Q:Bool->Hp->Prop),43->t U H Q->38 (isTrue e X.env (eval e X.env)) (TP X bJ U Q) X.xe s
def PW(X:Cx)(e:Expr)(t:TT):Prop:=
 ∀(pc:Sem Value) (bJ:53) (s:Shared) (U:St) (H:Hp) (Q:Bool->Hp->Prop),43->t U H Q->38 (isTrue e X.env pc) (TP X bJ U Q) X.xe s
def PW.pt{X:Cx}{t:TT}(h:PW X e t):PT X e t:=h _
def PA(X:Cx)(es:List Expr)(t:TA):Prop:=
 ∀(oj:Pos) (bJ:53) (s:Shared) (U:St) (H:Hp) (Q:List V->Hp->Prop),43->t U H Q->38 (spliced (backTo oj (starEach es X.env))) (AP X bJ U Q) X.xe s
def PS(X:Cx)(st:Stmt)(t:TS):Prop:=
 ∀(bJ:53) (s:Shared) (U:St) (H:Hp) (D:js),43->t D U H->38 (exec st X.env) (SP X bJ D) X.xe s
def PSs(X:Cx)(st:List Stmt)(t:TS):Prop:=
 ∀(bJ:53) (s:Shared) (U:St) (H:Hp) (D:js),43->t D U H->38 (execs st X.env) (SP X bJ D) X.xe s
def thn{t:Sem α}{Q:α->41}{M:Model}(h:wpAny M A t Q E s)(hQ:∀a s,Q a s->Q' a s):wpAny M A t Q' E s:=ft h hQ fun _ _ x=>x
end L2
variable{U σ0:L2.St}{X Y:L2.Cx}{te tv tl td:L2.TE}{tt CH tc:L2.TT}{ta:L2.TA}{r:L2.V->Option Int->Option Int->L2.Hp->L2.VK->Prop}{tb:L2.TS}{r':List L2.V->L2.Hp->L2.VK->Prop}
namespace L2
open PySem PySem.Spec PyProof.Rows
section
theorem bin{a b:Expr}{ta tb:TE}(ha:PE X a ta)(hb:PE X b tb){R:V->V->Hp->Prop}(I:43)(h:ta U H fun x H1=>tb U H1 fun y H2=>R x y H2)
  {Q:α->41}{f:Value->Value->Sem α}
  (hf:∀v u s2 x y H2,89 H2 s2->Z6 x v->Z6 y u->R x y H2->38 (f v u) Q X.xe s2) :
  38 (eval a X.env) (fun v s₁=>38 (eval b X.env) (fun u s₂=>38 (f v u) Q X.xe s₂) X.xe s₁) X.xe s:=by
 refine thn (ha bJ s U H _ I h) fun v s1 ⟨x,H1,I1,r1,q1⟩=>?_;refine thn (hb bJ s1 U H1 _ I1 q1) fun u s2 ⟨y,H2,I2,r2,q2⟩=>?_;exact hf v u s2 x y H2 I2 r1 r2 q2
inductive Zd9(i:Nat)(U:St)(H:Hp)(Q:VK):Prop
 |mk (v:V) (h:U[i]?=some (some v)) (k:Q v H):Zd9 i U H Q
def ja(i:Nat):TE:=fun U H Q=>Zd9 i U H Q
def tC(v:V):TE:=fun _ H Q=>Q v H
theorem Zdj{i:Nat}{x:Str}(hN:X.N[i]?=some x)(hv:Vis X.env.scope x)(hd:109=false:=by left)(tO:(x==("__classdict__" : Str))=false:=by left):PE X (.Name x oj) (ja i):=by
 intro bJ s U H Q I h;obtain⟨v,e,h⟩:=h;obtain⟨m,hn,hl⟩:=I.loc;obtain⟨u,r,l⟩:=hl i x v hN e hv;have fin:EP X bJ U Q u s:=⟨v,H,I,r,h⟩;rcases l with⟨hk,hm⟩|⟨hk,c,hc,sZ⟩
 ·exact wpAny_Name (wpAny_loadName_local I.ok.kind hk hn hm fin) hd
 ·rcases hk with hk|hk
  ·exact wpAny_Name (wpAny_loadName_cell I.ok.kind hk hc sZ fin) hd
  ·exact wpAny_Name (wpAny_loadName_free I.ok.kind hk hc sZ fin tO) hd
theorem Zi{i j oj}:PE X (.Constant (.int i) j oj) (tC (.int i)):=fun _ _ _ H _ I h=>wpAny_Constant_int ⟨.int i,H,I.tok _,⟨_,rfl⟩,h⟩
theorem YI{b j oj}:PE X (.Constant (.bool b) j oj) (tC (.bl b)):=fun _ _ _ H _ I h=>Constant_bool ⟨.bl b,H,I,rfl,h⟩
theorem Wf{j oj}:PE X (.Constant .none j oj) (tC .non):=fun _ _ _ H _ I h=>Constant_none ⟨.non,H,I,rfl,h⟩
theorem Uo{x j oj}:PE X (.Constant (.str x) j oj) (tC (.str x)):=fun _ _ _ H _ I h=>Calls.Constant_str ⟨.str x,H,I.tok _,⟨_,rfl⟩,h⟩
def Gl(X:Cx)(x:Str):Prop:=X.env.kindOf x=some .globalImplicit
theorem Kb{x:Str}{u:Value}(I:43)(hg:Gl X x)(hm:X.mg x=some u)(h:Q u s)
  (hd:109=false:=by left):38 (eval (.Name x oj) X.env) Q E s:=
 Calls.Name_function_global I.ok.kind hg (Calls.loadGlobal_global (by rw[I.ok.glob];exact I.mod.glob.keeps I.bk) hm h) hd
theorem VA{x:Str}{u:Value}(I:43)(hg:Gl X x)(hm:X.mg x=none)(hv:bootBuiltins x=some u)(h:Q u s)
  (hn:x ≠ "__name__" := by left) (hd:109=false:=by left):38 (eval (.Name x oj) X.env) Q E s:=by
 obtain⟨mb,h1,h2⟩:=I.mod.blt;exact Calls.Name_function_global I.ok.kind hg (Calls.loadGlobal_builtin (by rw[I.ok.glob];exact I.mod.glob.keeps I.bk) hm (by rw[I.ok.blt];exact h1.keeps I.bk) ((h2 x hn).trans hv) h) hd
theorem XL{x:Str}{u:Value}(hg:Gl X x)(hm:X.mg x=none)(hv:bootBuiltins x=some u)(r:Z6 v u)(hn:x ≠ "__name__" := by left)(hd:109=false:=by left):PE X (.Name x oj) (tC v):=
 fun _ _ _ H _ I h=>VA I hg hm hv ⟨v,H,I,r,h⟩ hn hd
variable{a b:Expr}{ta tb:TE}
def PC(X:Cx)(op:CmpOp)(a b:Expr)(t:TE):Prop:=
 ∀(bJ:53) (s:Shared) (U:St) (H:Hp) (Q:VK),43->t U H Q ->
  38 (eval a X.env) (fun v s₁=>38 (eval b X.env) (fun u s₂=>38 (compareOp op v u) (EP X bJ U Q) X.xe s₂) X.xe s₁) X.xe s
theorem kt(b:Expr)(h:op≠.In)(h2:op≠.NotIn):behindInMarks op b=false:=by
 have e1:(op==CmpOp.In)=false:=by cases op<;>first|rfl|exact oh rfl h
 have e2:(op==CmpOp.NotIn)=false:=by cases op<;>first|rfl|exact oh rfl h2
 cases b<;>simp[behindInMarks,e1,e2]
inductive ZaY(x:V)(H:Hp)(Q:Bool->Hp->Prop):Prop
 |mk (c:Bool) (h:x=.bl c) (k:Q c H):ZaY x H Q
def tB(t:TE):TT:=fun U H Q=>t U H fun x H1=>ZaY x H1 Q
theorem ZaO{t:TE}(h:PC X op a b t)(h1:behindInMarks op b=false:=by first|exact kt _ 61 61|rfl):PE X (.Compare a [op] [b] oj) t:=fun bJ s U H Q I hw=>wpAny_Compare1 (h bJ s U H Q I hw) h1
theorem WT{t:TE}(h:PC X op a b t)(h1:behindInMarks op b=false:=by first|exact kt _ 61 61|rfl):PT X (.Compare a [op] [b] oj) (tB t):=by
 intro bJ s U H Q I hw;refine wpAny_isTrue_Compare1 (thn (h bJ s U H _ I hw) fun v s1 h1=>thn h1 fun u s2 h2=>thn h2 fun c s3 ⟨x,H1,I1,r1,q1⟩=>?_) h1;obtain⟨d,rfl,q⟩:=q1;cases r1;exact fQ ⟨H1,I1,q⟩
theorem YB{t:TE}(h:PE X e t)(he:∀pc,isTrue e X.env pc=(do let v <- pc;standAt e.pos;holding [v] (truthy v)):=by intro _;rfl):PT X e (tB t):=by
 intro bJ s U H Q I hw;refine isTrue_plain (thn (h bJ s U H _ I hw) fun v s1 ⟨x,H1,I1,r1,q1⟩=>?_) (he _);obtain⟨d,rfl,q⟩:=q1;cases r1;exact fQ ⟨H1,I1,q⟩
variable{tA DR:TT}{ZG:List Expr}
def tAnd(t u:TT):TT:=fun U H Q=>t U H fun c H1=>if c=true then u U H1 Q else Q false H1
def tOr(t u:TT):TT:=fun U H Q=>t U H fun c H1=>if c=true then Q true H1 else u U H1 Q
def tNot(t:TT):TT:=fun U H Q=>t U H fun c H1=>Q (!c) H1
theorem WN(ha:PT X a tA):PW X (.BoolOp .And [a] oj) tA:=by
 intro wh bJ s U H Q I h;refine isTrue_and (thn (ha bJ s U H Q I h) fun c s1 e=>?_);cases c with
 |true=>exact isTrue_and_nil e
 |false=>exact e
theorem Vy(ha:PT X a tA):PW X (.BoolOp .Or [a] oj) tA:=by
 intro wh bJ s U H Q I h;refine isTrue_or (thn (ha bJ s U H Q I h) fun c s1 e=>?_);cases c with
 |false=>exact isTrue_or_nil e
 |true=>exact e
theorem VC(ha:PT X a tA)(hb:PW X (.BoolOp .And (b::ZG) oj) DR):PW X (.BoolOp .And (a::b::ZG) oj) (tAnd tA DR):=by
 intro wh bJ s U H Q I h;refine isTrue_and (thn (ha bJ s U H _ I h) fun c s1 ⟨H1,I1,q1⟩=>?_);cases c with
 |true=>exact hb wh bJ s1 U H1 Q I1 q1
 |false=>exact⟨H1,I1,q1⟩
theorem Ua(ha:PT X a tA)(hb:PW X (.BoolOp .Or (b::ZG) oj) DR):PW X (.BoolOp .Or (a::b::ZG) oj) (tOr tA DR):=by
 intro wh bJ s U H Q I h;refine isTrue_or (thn (ha bJ s U H _ I h) fun c s1 ⟨H1,I1,q1⟩=>?_);cases c with
 |true=>exact⟨H1,I1,q1⟩
 |false=>exact hb wh bJ s1 U H1 Q I1 q1
theorem Xh(ha:PT X a tA):PT X (.UnaryOp .Not a oj) (tNot tA):=by
 intro bJ s U H Q I h;exact isTrue_not (thn (ha bJ s U H (fun c H1=>Q (!c) H1) I h) fun c s1 ⟨H1,I1,q1⟩=>⟨H1,I1,q1⟩)
def ZeK(ta tb:TE):TE:=fun U H Q=>ta U H fun x H1=>∃c,x=.bl c/\if c=true then tb U H1 Q else Q (.bl false) H1
def Zev(ta:TE):TE:=fun U H Q=>ta U H fun x H1=>∃c,x=.bl c/\Q (.bl (!c)) H1
theorem Uu{op}{t:TE}(h:PE X a t):PE X (.BoolOp op [a] oj) t:=fun bJ s U H Q I hw=>BoolOp_one (h bJ s U H Q I hw)
theorem Vx(ha:PE X a ta)(hb:PE X (.BoolOp .And (b::ZG) oj) tb):PE X (.BoolOp .And (a::b::ZG) oj) (ZeK ta tb):=by
 intro bJ s U H Q I h;refine BoolOp_and (thn (ha bJ s U H _ I h) fun v s1 ⟨x,H1,I1,r1,q1⟩=>?_);obtain⟨c,rfl,q1⟩:=q1;cases r1;refine fQ ?_;cases c with
 |true=>exact hb bJ s1 U H1 Q I1 q1
 |false=>exact⟨.bl false,H1,I1,rfl,q1⟩
theorem ZaX(ha:PE X a ta):PE X (.UnaryOp .Not a oj) (Zev ta):=by
 intro bJ s U H Q I h;refine UnaryOp_ (thn (ha bJ s U H _ I h) fun v s1 ⟨x,H1,I1,r1,q1⟩=>?_);obtain⟨c,rfl,q1⟩:=q1;cases r1;exact not_of (fQ ⟨.bl (!c),H1,I1,rfl,q1⟩)
end
def SqL(K:W.Frag)(H:Hp)(a:Addr)(xs:List V):Prop:=
 Rd H a (.lst xs) \/
  ∃(o:Obj) (oi:Array Value) (n:Nat),K.lookup a=some o/\o.cls=.type "list" /\ o.dict=none/\o.data=.seq oi n/\oi.size<=sizeLine/\ZE xs oi.toList
def SqT(K:W.Frag)(H:Hp)(a:Addr)(xs:List V):Prop:=
 Rd H a (.tup xs) \/
  ∃(o:Obj) (oi:Array Value) (n:Nat),K.lookup a=some o/\o.cls=.type "tuple" /\ o.data=.seq oi n/\oi.size<=sizeLine/\ZE xs oi.toList
def absV:Value->69
 |.none=>some .non
 |.bool b=>some (.bl b)
 |.int i _=>some (.int i)
 |.str x _=>some (.str x)
 |.bytes b _=>some (.byt b)
 |.float b _=>some (.flt b)
 |.ref a=>some (.ref a)
 |.type n=>some (.ty n)
 |_=>none
def Z6.abs{x:V}{u:Value}(r:Z6 x u):absV u=some x:=by
 cases x with
 |non=>cases r;rfl
 |bl _=>cases r;rfl
 |int _=>obtain⟨t,rfl⟩:=r;rfl
 |str _=>obtain⟨t,rfl⟩:=r;rfl
 |byt _=>obtain⟨t,rfl⟩:=r;rfl
 |flt _=>obtain⟨t,rfl⟩:=r;rfl
 |ref _=>cases r;rfl
 |ty _=>cases r;rfl
def Z6.inj{x y:V}{u:Value}(r:Z6 x u)(q:Z6 y u):x=y:=eZ (r.abs.symm.trans q.abs)
def ZE.inj:∀{xs ys:List V}{us:45},ZE xs us->ZE ys us->xs=ys
 |_,_,_,.nil,.nil=>rfl
 |_,_,_,.cons r t,.cons r' t'=>by rw[r.inj r',ZE.inj t t']
section
variable{xs ys:List V}
theorem SqL.of(h:H a=122):SqL K H a xs:=.inl (.inl h)
def nH:=@SqL.of
theorem SqT.of(h:H a=some (.tup xs)):SqT K H a xs:=.inl (.inl h)
theorem Inv.list(I:43)(h:SqL X.K H a xs):∃oi:45,ZE xs oi/\PlainL s.heap a oi.toArray/\xs.length<=sizeLine:=by
 rcases h with h|⟨o,oi,n,hk,hc,hd,hs,hz,r⟩
 ·obtain⟨z,oi,n,r,e⟩:=h.ok I.hok;exact⟨oi,r,⟨_,n,e,rfl,rfl,rfl⟩,z⟩
 ·refine⟨oi.toList,r,⟨o,n,I.kIn a o hk,hc,hd,by simpa using hs⟩,?_⟩;have e:=r.length;simp only[dj] at e;lia
theorem Inv.tuple(I:43)(h:SqT X.K H a xs):∃oi:45,ZE xs oi/\IsTup s.heap a oi.toArray/\xs.length<=sizeLine:=by
 rcases h with h|⟨o,oi,n,hk,hc,hs,hz,r⟩
 ·obtain⟨z,oi,r,p⟩:=h.ok I.hok;exact⟨oi,r,p,z⟩
 ·refine⟨oi.toList,r,⟨o,I.kIn a o hk,hc,n,by simpa using hs⟩,?_⟩;have e:=r.length;simp only[dj] at e;lia
theorem Inv.list_inj(I:43)(h:SqL X.K H a xs)(h':SqL X.K H a ys):xs=ys:=by
 obtain⟨oi,r,⟨o,n,e,_,_,d⟩,_⟩:=I.list h;obtain⟨its',r',⟨o',n',e',_,_,d'⟩,_⟩:=I.list h';rw[e] at e';cases e';rw[d] at d';injection d' with d1 _;have:oi=its':=by simpa using dt Array.toList d1
 subst this;exact r.inj r'
theorem Inv.tuple_inj(I:43)(h:SqT X.K H a xs)(h':SqT X.K H a ys):xs=ys:=by
 obtain⟨oi,r,⟨o,e,_,n,d⟩,_⟩:=I.tuple h;obtain⟨its',r',⟨o',e',_,n',d'⟩,_⟩:=I.tuple h';rw[e] at e';cases e';rw[d] at d';injection d' with d1 _;have:oi=its':=by simpa using dt Array.toList d1
 subst this;exact r.inj r'
end
abbrev Cx.wish(X:Cx)(E:Value->41):Cx:={ X with xe:=E }
abbrev Cx.nox(X:Cx):Cx:=X.wish fun _ _=>False
def Cx.Ok.wish{X:Cx}(ok:X.Ok)(E:Value->41):(X.wish E).Ok:=
 ⟨ok.mod,ok.kind,ok.glob,ok.blt,ok.above,ok.inj,ok.has,ok.cab,ok.hd,ok.frames,ok.stk,ok.exf,ok.bs,ok.bsz,ok.noex,ok.exfs,ok.funs,ok.frf⟩
def Cx.Ok.unwish(ok:(X.wish E).Ok):X.Ok:=
 ⟨ok.mod,ok.kind,ok.glob,ok.blt,ok.above,ok.inj,ok.has,ok.cab,ok.hd,ok.frames,ok.stk,ok.exf,ok.bs,ok.bsz,ok.noex,ok.exfs,ok.funs,ok.frf⟩
def Inv.wish(I:43)(E:Value->41):Inv (X.wish E) bJ U H s:=⟨I.ok.wish E,I.os,I.bare,I.base,I.loc,I.cell,I.free,I.freeC,I.pin,I.hok,I.len⟩
def Inv.unwish(I:Inv (X.wish E) bJ U H s):43:=⟨I.ok.unwish,I.os,I.bare,I.base,I.loc,I.cell,I.free,I.freeC,I.pin,I.hok,I.len⟩
def SP.unwish{D:js}{f:Flow}{s':Shared}(h:SP (X.wish E) bJ D f s'):SP X bJ D f s':=by
 cases f with
 |next=>obtain⟨σ',H',I,q⟩:=h;exact⟨σ',H',I.unwish,q⟩
 |brk=>obtain⟨σ',H',I,q⟩:=h;exact⟨σ',H',I.unwish,q⟩
 |cont=>obtain⟨σ',H',I,q⟩:=h;exact⟨σ',H',I.unwish,q⟩
 |ret u=>obtain⟨v,σ',H',I,r,q⟩:=h;exact⟨v,σ',H',I.unwish,r,q⟩
def PSs.nox{st:List Stmt}{t:TS}(h:PSs X.nox st t):PSs X st t:=fun bJ s U H D I hw=>
 ft (h bJ s U H D (I.wish _) hw) (fun _ _ q=>q.unwish) fun _ _ z=>False.elim z
section
variable{X:Cx}{st:Stmt}{ZG:List Stmt}{t u:TS}{e:Expr}{te:TE}{oj:Pos}
def ZdL:TS:=fun D U H=>D.nx U H
def Zch(t u:TS):TS:=fun D U H=>t { D with nx:=u D } U H
theorem Zt:PSs X [] ZdL:=fun _ _ U H _ I h=>wpAny_execs_nil ⟨U,H,I,h⟩
theorem Zb(h1:PS X st t)(h2:PSs X ZG u):PSs X (st::ZG) (Zch t u):=by
 intro bJ s U H D I h;refine wpAny_execs_cons (thn (h1 bJ s U H { D with nx:=u D } I h) fun f s1 q=>?_);cases f with
 |next=>
  obtain⟨σ',H',I',q⟩:=q;exact h2 bJ s1 σ' H' D I' q
 |ret v=>exact q
 |brk=>exact q
 |cont=>exact q
theorem Zg(h1:PS X st t):PSs X [st] t:=by
 intro bJ s U H D I h;refine wpAny_execs_cons (thn (h1 bJ s U H D I h) fun f s1 q=>?_);cases f with
 |next=>exact wpAny_execs_nil q
 |ret v=>exact q
 |brk=>exact q
 |cont=>exact q
theorem Inv.quiet(I:43):interactive X.env=false:=by simp[interactive,I.ok.kind]
def ZeS(te:TE):TS:=fun D U H=>te U H fun _ H1=>D.nx U H1
theorem Y8(he:PE X e te)(hs:swapsWith e none oj.line X.env=pure false:=by rfl):PS X (.Expr e oj) (ZeS te):=by
 intro bJ s U H D I h;exact wpAny_Expr_any (thn (he bJ s U H _ I h) fun v s1 ⟨x,H1,I1,r1,q1⟩=>⟨U,H1,I1,q1⟩) I.quiet hs
def tRet(te:TE):TS:=fun D U H=>te U H D.rt
theorem Zs(he:PE X e te):PS X (.Return (some e) oj) (tRet te):=by
 intro bJ s U H D I h;exact wpAny_Return_some (thn (he bJ s U H _ I h) fun v s1 ⟨x,H1,I1,r1,q1⟩=>⟨x,U,H1,I1,r1,q1⟩)
def tIfS(c:TT)(t u:TS):TS:=fun D U H=>c U H fun b H1=>if b=true then t D U H1 else u D U H1
theorem ZZ{c:Expr}{a b:List Stmt}(hc:PT X c tc)(ha:PSs X a t)(hb:PSs X b u):PS X (.If c a b oj) (tIfS tc t u):=by
 intro bJ s U H D I h;refine wpAny_If (thn (hc bJ s U H _ I h) fun d s1 ⟨H1,I1,q1⟩=>?_);cases d with
 |true=>exact ha bJ s1 U H1 D I1 q1
 |false=>exact hb bJ s1 U H1 D I1 q1
end
abbrev TG:=V->St->Hp->(St->Hp->Prop)->Prop
abbrev TGs:=List V->St->Hp->(St->Hp->Prop)->Prop
def PG(X:Cx)(pA:Expr)(t:TG):Prop:=
 ∀(bJ:53) (s:Shared) (U:St) (H:Hp) (v:V) (u:Value) (Q:St->Hp->Prop),43->Z6 v u->t v U H Q ->
  38 (assign pA X.env u) (fun _ s'=>∃σ' H',Inv X bJ σ' H' s'/\Q σ' H') X.xe s
def PGs(X:Cx)(ts:List Expr)(t:TGs):Prop:=
 ∀(bJ:53) (s:Shared) (U:St) (H:Hp) (vs:List V) (us:45) (Q:St->Hp->Prop),43->ZE vs us->t vs U H Q ->
  38 (assignInOrder ((assignEach ts X.env).map (·.2)) us) (fun _ s'=>∃σ' H',Inv X bJ σ' H' s'/\Q σ' H') X.xe s
abbrev TIp:=V->V->Hp->VK->Prop
def PIp(X:Cx)(op:Operator)(t:TIp):Prop:=
 ∀(bJ:53) (s:Shared) (U:St) (H:Hp) (x y:V) (v u:Value) (Q:VK),43->Z6 x v->Z6 y u->t x y H Q ->
  38 (inplaceOp op v u) (EP X bJ U Q) X.xe s
section
variable{X:Cx}{oj:Pos}
def yd(i:Nat):TG:=fun v U H Q=>Q (U.set i (some v)) H
theorem Zk{i:Nat}{x:Str}(hN:X.N.Nodup)(hi:X.N[i]?=some x)(hx:Loc X.env.scope x)(hf:X.fn x=true\/X.env.scope.names.lookup x=some .local:=by first|exact .inl rfl|exact .inr rfl|assumption):PG X (.Name x oj) (yd i):=by
 intro bJ s U H v u Q I r h;exact wpAny_assign_Name (zW I hN hi hx r (fun s' I'=>⟨_,H,I',h⟩) hf)
def gNil:TGs:=fun vs U H Q=>vs=[]/\Q U H
def ZdS(t:TG)(u:TGs):TGs:=fun vs U H Q=>∃v r,vs=v::r/\t v U H fun σ' H'=>u r σ' H' Q
theorem WM:PGs X [] gNil:=by
 intro bJ s U H vs us Q I r h;obtain⟨e,h⟩:=h;subst e;cases r;exact assignInOrder_nil ⟨U,H,I,h⟩
theorem Yc{es:List Expr}{t:TG}{u:TGs}(h1:PG X e t)(h2:PGs X es u)
  (hs:(assignEach (e::es) X.env).map (·.2)=assign e X.env::(assignEach es X.env).map (·.2):=by rfl):PGs X (e::es) (ZdS t u):=by
 intro bJ s U H vs us Q I r h;obtain⟨v,vr,e1,h⟩:=h;subst e1;cases r with
 |cons r rr=>
  rw[hs];refine assignInOrder_cons (thn (h1 bJ s U H _ _ _ I r h) fun _ s1 ⟨σ1,H1,I1,q1⟩=>?_);exact h2 bJ s1 σ1 H1 _ _ Q I1 rr q1
def ZeH(K:W.Frag)(n:Nat)(t:TGs):TG:=fun v U H Q=>∃a xs,v=.ref a/\SqT K H a xs/\xs.length=n/\t xs U H Q
theorem ZdG{es:List Expr}{k:Nat}{t:TGs}(hc:X.calm=true)(h:PGs X es t)
  (hn:(assignEach es X.env).length=n:=by rfl) (o9:(assignEach es X.env).findIdx? (·.1)=none:=by rfl):PG X (.Tuple es k oj) (ZeH X.K n t):=by
 intro bJ s U H v u Q I r hw;obtain⟨a,xs,e1,hq,hl,hw⟩:=hw;subst e1;cases r;obtain⟨oi,rv,ht,hz⟩:=I.tuple hq;refine assign_Tuple_tuple 124 ht (by simp[hn,<- hl,rv.length]) o9 fun h' hx=>?_;have I1:89 H 49:=I.kept (t':=s.toks) fun b o e=>hx b o (c9 (cT e)) e;exact h bJ _ U H xs _ Q I1 (by simpa using rv) hw
def Zb2(te:TE)(g:TG):TS:=fun D U H=>te U H fun x H1=>g x U H1 D.nx
theorem jz{g:TG}(he:PE X e te)(hg:PG X tg g)(hs:swapsWithSole [tg] e oj.line X.env=pure false:=by rfl)(hw:swappedStores [tg] e X.env=pure none:=by rfl)
  (h1:(assignEach [tg] X.env).map (·.2)=[assign tg X.env]:=by rfl):PS X (.Assign [tg] e oj) (Zb2 te g):=by
 intro bJ s U H D I h;refine wpAny_Assign_stores (thn (he bJ s U H _ I h) fun v s1 ⟨x,H1,I1,r1,q1⟩=>?_) hs hw;rw[h1];exact thn (hg bJ s1 U H1 x v _ I1 r1 q1) fun _ s2 q=>q
theorem Zo{i:Nat}{x:Str}{e:Expr}{te:TE}{o7:Pos}(hN:X.N.Nodup)(hi:X.N[i]?=some x)(hx:Loc X.env.scope x)(he:PE X e te)(hs:swapsWith e (some (.Name x o7)) oj.line X.env=pure false:=by rfl)(hf:X.fn x=true\/X.env.scope.names.lookup x=some .local:=by first|exact .inl rfl|exact .inr rfl|assumption) :
  PS X (.Assign [.Name x o7] e oj) (Zb2 te (yd i)):=by
 intro bJ s U H D I h;refine wpAny_Assign_Name (thn (he bJ s U H _ I h) fun v s1 ⟨y,H1,I1,r1,q1⟩=>?_) hs;exact zW I1 hN hi hx r1 (fun s2 I2=>⟨_,H1,I2,q1⟩) hf
def tAug(i:Nat)(te:TE)(ti:TIp):TS:=fun D U H=>∃x,U[i]?=some (some x)/\te U H fun y H1=>ti x y H1 fun z H2=>D.nx (U.set i (some z)) H2
theorem Jr{i:Nat}{x:Str}{op:Operator}{ti:TIp}(hN:X.N.Nodup)(hi:X.N[i]?=some x)(hx:Loc X.env.scope x)(he:PE X e te)(ho:PIp X op ti)(hf:X.fn x=true\/X.env.scope.names.lookup x=some .local:=by first|exact .inl rfl|exact .inr rfl|assumption) :
  PS X (.AugAssign (.Name x o7) op e oj) (tAug i te ti):=by
 intro bJ s U H D I h;obtain⟨v,e1,h⟩:=h;obtain⟨m,hn,hl⟩:=I.loc;have Pb:Vis X.env.scope x:=by rcases hx with k|k;exact .inl k;exact .inr (.inl k)
 obtain⟨u,r,l⟩:=hl i x v hi e1 Pb;refine wpAny_AugAssign_Name ?_;have go:38 (eval e X.env) (fun w s₂=>38 (inplaceOp op u w) (fun r s₃=>38 (storeName X.env x r) (fun _=>SP X bJ D .next) X.xe s₃) X.xe s₂) X.xe s:=by
  refine thn (he bJ s U H _ I h) fun w s1 ⟨y,H1,I1,r1,q1⟩=>?_;refine thn (ho bJ s1 U H1 v y u w _ I1 r r1 q1) fun z s2 ⟨zv,H2,I2,r2,q2⟩=>?_;exact zW I2 hN hi hx r2 (fun s3 I3=>⟨_,H2,I3,q2⟩) hf
 rcases l with⟨hk,hm⟩|⟨hk,c,hc,sZ⟩
 ·exact wpAny_loadName_local I.ok.kind hk hn hm go
 ·rcases hk with hk|hk
  ·exact wpAny_loadName_cell I.ok.kind hk hc sZ go
  ·rcases hx with k|k
   ·have:X.env.scope.names.lookup x=some .free:=hk;rw[k] at this;cases this
   ·have:X.env.scope.names.lookup x=some .free:=hk;rw[k] at this;cases this
def ipI(f:Int->Int->Int):TIp:=fun x y H Q=>∃i j,x=.int i/\y=.int j/\Q (.int (f i j)) H
theorem k9:PIp X .Add (ipI fun i j=>i+j):=by
 intro bJ s U H x y v u Q I r1 r2 h;obtain⟨i,j,e1,e2,q⟩:=h;subst e1;subst e2;obtain⟨t,rfl⟩:=r1;obtain⟨t',rfl⟩:=r2;exact iadd_int ⟨.int _,H,I.tok _,⟨_,rfl⟩,q⟩
end
def Zdn(c:TT)(tb:TS):TS:=fun D U H=>∃W:Nat->St->Hp->Prop,(∃m,W m U H)/\∀m U H,W m U H ->
 c U H fun b H1=>if b=true then ∃N:St->Hp->Prop,(∀σ' H',N σ' H'->∃m',m'<m/\W m' σ' H')/\tb { D with nx:=N,ct:=N,bk:=D.nx } U H1 else D.nx U H1
def X7{c:Expr}(hp:PassesOwn 82 X.A X.env X.xe)(hc:PT X c tc)(hb:PSs X oX tb):PS X (.While c oX [] oj) (Zdn tc tb):=by
 intro bJ s U H D I h;obtain⟨W,⟨m0,w0⟩,rq⟩:=h;refine wpAny_While (codeAny_whileLoop (fun n s'=>∃σ' H',Inv X bJ σ' H' s'/\W n σ' H') ?_ m0 ⟨U,H,I,w0⟩);rintro n s1 ⟨σ1,H1,I1,w1⟩;refine iy hp (thn (hc bJ s1 σ1 H1 _ I1 (rq n σ1 H1 w1)) fun b s2 ⟨H2,I2,q2⟩=>?_);cases b with
 |true=>
  obtain⟨N,hN,q2⟩:=q2;rw[og rfl];refine iy hp (thn (hb bJ s2 σ1 H2 _ I2 q2) fun f s3 q3=>?_);cases f with
  |next=>
   obtain⟨σ3,H3,I3,n3⟩:=q3;obtain⟨m',hm,w3⟩:=hN σ3 H3 n3;exact⟨m',hm,σ3,H3,I3,w3⟩
  |cont=>
   obtain⟨σ3,H3,I3,n3⟩:=q3;obtain⟨m',hm,w3⟩:=hN σ3 H3 n3;exact⟨m',hm,σ3,H3,I3,w3⟩
  |brk=>exact q3
  |ret v=>exact q3
 |false=>
  rw[n8 dQ];exact wpAny_execs_nil ⟨σ1,H2,I2,q2⟩
structure It where
 go:Nat->Hp->Prop
 yld:Nat->Hp->V->Hp->Prop
 stop:Nat->Hp->Prop
def WH(X:Cx)(bJ:53)(H:Hp)(b:Addr):Prop:=
 H b=none/\b≠X.env.locals/\b∉X.fs/\(b∈X.ex\/X.s₀.heap.objs.size<=b)/\(∀x c,X.env.cells.lookup x=some c->c≠b)/\∀p∈X.pn++bJ,p.1≠b
def Inv.fpOk(I:43)(hb:s.heap.objs.size<=b)(hn:H' b=none):WH X bJ H' b:=by
 refine⟨hn,fW (fq I.lt hb),I.nofs hb,.inr (fh I.sz hb),fun x c e z=>?_,fun p hp z=>?_⟩
 ·obtain⟨v,q⟩:=I.cell x c e;exact oh (fq q.lt (by rw[z];exact hb)) (gn _)
 ·exact oh (fq (cT (I.pin p hp).1) (by rw[z];exact hb)) (gn _)
structure xC(P:Program)(w:World)(K:W.Frag)(tg:Expr)(J:It)(fp:List Addr)(it:Addr)(tn:Nat->Heap->Prop):Prop where
 mem:it∈fp
 obj:∀i h,tn i h->∀b∈fp,∃o,h.get? b=some o/\∀v,o.data≠.cell v
 keep:∀i h h',tn i h->(∀b∈fp,∀o,h.get? b=some o->h'.get? b=some o)->tn i h'
 item:∀(X:Cx),X.prog=P->X.w=w->X.K=K->X.calm=true->∀(i:Nat) (bJ:53) (s:Shared) (U:St) (H:Hp) (E:Value->41),43->(∀b∈fp,WH X bJ H b)->tn i s.heap->J.go i H ->
  wpAny (model P w) X.A (pyNext (.ref it)) (fun r s1=>∃u,r=some u /\ wpAny (model P w) X.A (letOwnedTupleGo tg (.ref it) u) (fun _ s2=>∃x H',89 H' s2/\Z6 x u/\J.yld i H x H'/\tn (i+1) s2.heap/\∀b∈fp,H' b=none) E s1) E s
 done:∀(X:Cx),X.prog=P->X.w=w->X.K=K->X.calm=true->∀(i:Nat) (bJ:53) (s:Shared) (U:St) (H:Hp) (E:Value->41),43->(∀b∈fp,WH X bJ H b)->tn i s.heap->J.stop i H ->
  wpAny (model P w) X.A (pyNext (.ref it)) (fun r s1=>r=none/\89 H s1) E s
 self:∀(A:Around) (i:Nat) (s:Shared) (Q:Value->41) (E:Value->41),tn i s.heap->Q (.ref it) s->wpAny (model P w) A (pyIter (.ref it)) Q E s
abbrev TI:=St->Hp->(It->Hp->Prop)->Prop
def PIE(X:Cx)(bJ:53)(U:St)(tg:Expr)(R:It->Hp->Prop)(DA:Value)(s2:Shared):Prop:=
 ∃(it:Addr) (fp:List Addr) (tn:Nat->Heap->Prop) (J:It) (H':Hp),DA=.ref it/\89 H' s2/\xC X.prog X.w X.K tg J fp it tn/\tn 0 s2.heap/\(∀b∈fp,WH X bJ H' b)/\R J H'
def PI(X:Cx)(tg iter:Expr)(wi:TI):Prop:=
 ∀(bJ:53) (s:Shared) (U:St) (H:Hp) (R:It->Hp->Prop),43->wi U H R ->
  38 (eval iter X.env) (fun v s1=>38 (pyIter v) (PIE X bJ U tg R) X.xe s1) X.xe s
def kO{M:Model}{u:Value}{o:Obj}{n:String}{vs:Array Value}{Q:Unit->41}(ho:s.heap.get? it=some o)(hc:o.cls=.type n)(hd:o.data=.fields vs)
    (hn:["enumerate","zip","dict_itemiterator","dict_reverseitemiterator","odict_iterator","itertools.zip_longest","itertools.pairwise"].contains n=false) (hQ:Q () s):wpAny M A (letOwnedTupleGo tg (.ref it) u) Q E s:=by
  unfold letOwnedTupleGo;cases tg<;>first
    |exact cO hQ
    | (cases u<;>first
        |exact cO hQ
        | (refine cN (wpAny_load ho ?_)
           rw[hc,hd]
           show wpAny M A (if(["enumerate","zip","dict_itemiterator","dict_reverseitemiterator","odict_iterator","itertools.zip_longest","itertools.pairwise"].contains n&&vs[0]?==some (rawInt _))=true then _ else _) Q E s
           rw[n8 (by intro h;rw[hn,gu] at h;cases h)];exact cO hQ))
def Itl(K:W.Frag)(a:Addr):It:=
 ⟨fun i H=>∃xs x,SqL K H a xs/\xs[i]?=some x,fun i H x H'=>H'=H/\∀xs,SqL K H a xs->xs[i]?=some x,fun i H=>∃xs,SqL K H a xs/\xs.length<=i⟩
def Itr(lo:Int)(n:Nat):It:=⟨fun i _=>i<n,fun i H x H'=>H'=H/\x=.int (lo+i),fun i _=>n<=i⟩
def QO(a it:Addr):xC P w K tg (Itl K a) [it] it (fun i h=>h.IsListIter it a i) where
 mem:=by simp
 obj:=fun i h st b hb=>by
  have e:b=it:=by simpa using hb
  subst e;obtain⟨o,e,c,d⟩:=st;exact⟨o,e,fun v z=>by rw[d] at z;cases z⟩
 keep:=fun i h h' st k=>st.at fun o e=>k it 39 o e
 item:=by
  intro X hP hw hK hc i bJ s U H E I hf st hg;subst hP hw hK;obtain⟨xs,x,hq,hx⟩:=hg;obtain⟨oi,rv,p,hz⟩:=I.list hq;obtain⟨u,hu,ru⟩:=rv.get hx;obtain⟨f0,f1,f2,f3,f4,f5⟩:=hf it 39;refine wpAny_pyNext_list_item st p.isList (x:=u) (by simpa using hu) fun h' ox sb=>?_;have I1:89 H 49:=I.turned (t':=s.toks) (fun b o hb e=>(sb.2 b hb).trans e) f0 f1 f3 f4 f5;obtain⟨o,e,c,d⟩:=id ox;exact⟨u,rfl,kO (s:=49) e c d 61 ⟨x,H,I1,ru,⟨rfl,fun ys hy=>by rw[I.list_inj hy hq];exact hx⟩,ox,fun b hb=>(hf b hb).1⟩⟩
 done:=by
  intro X hP hw hK hc i bJ s U H E I hf st hg;subst hP hw hK;obtain⟨xs,hq,hx⟩:=hg;obtain⟨oi,rv,p,hz⟩:=I.list hq;obtain⟨f0,f1,f2,f3,f4,f5⟩:=hf it 39;have hl:=rv.length;exact wpAny_pyNext_list_end 124 st p.isList (by simp;lia) fun h' eb=>⟨rfl,I.turned (t':=s.toks) (fun b o hb e=>eb b o hb e) f0 f1 f3 f4 f5⟩
 self:=fun _ _ _ _ _ st h=>wpAny_pyIter_listiter st h
def JS(it:Addr)(lo:Int)(n:Nat):xC P w K tg (Itr lo n) [it] it (fun i h=>IsRangeIter h it (lo+(i:Nat)*1) ((n:Int)-(i:Nat)) 1) where
 mem:=by simp
 obj:=fun i h st b hb=>by
  have e:b=it:=by simpa using hb
  subst e;exact⟨_,st,fun v z=>by
   have z':Data.fields _=Data.cell v:=z;cases z'⟩
 keep:=fun i h h' st k=>k it 39 _ st
 item:=by
  intro X hP hw hK hc i bJ s U H E I hf st hg;subst hP hw hK;obtain⟨f0,f1,f2,f3,f4,f5⟩:=hf it 39;have W:=Walks.range (prog:=X.prog) (w:=X.w) 124 it lo 1 n;refine W.item i s _ _ hg st fun v h' tk hv ox kk=>?_;obtain⟨t,rfl⟩:=hv;have I1:89 H 74:=I.turned (fun b o hb e=>kk b o (by simpa using hb) e) f0 f1 f3 f4 f5;refine⟨_,rfl,kO (s:=74) (n := "range_iterator") ox rfl rfl 61 ⟨.int (lo+i),H,I1,⟨t,?_⟩,⟨rfl,rfl⟩,ox,fun b hb=>(hf b hb).1⟩⟩;rw[Int.mul_one]
 done:=by
  intro X hP hw hK hc i bJ s U H E I hf st hg;subst hP hw hK;obtain⟨f0,f1,f2,f3,f4,f5⟩:=hf it 39;exact wpAny_pyNext_range_end 124 st (by have:n<=i:=hg;lia) fun h' eb=>⟨rfl,I.turned (t':=s.toks) (fun b o hb e=>eb b o hb e) f0 f1 f3 f4 f5⟩
 self:=fun _ _ _ _ _ st h=>wpAny_pyIter_rangeiter st h
end L2
variable{wi:L2.TI}{J:L2.It}{g2:L2.TG}
namespace L2
open PySem PySem.Spec PyProof.Rows
inductive ZdU(K:W.Frag)(x:V)(H:Hp)(R:It->Hp->Prop):Prop
 |mk (a:Addr) (h:x=.ref a) (h2:∃xs,SqL K H a xs) (k:R (Itl K a) H):ZdU K x H R
def ZcH(K:W.Frag)(tl:TE):TI:=fun U H R=>tl U H fun x H1=>ZdU K x H1 R
def Zbw{l:Expr}(hl:PE X l tl):PI X tg l (ZcH X.K tl):=by
 intro bJ s U H R I h;refine thn (hl bJ s U H _ I h) fun v s1 ⟨x,H1,I1,r1,q1⟩=>?_;obtain⟨a,e,⟨xs,hq⟩,q⟩:=q1;subst e;cases r1;obtain⟨oi,rv,p,hz⟩:=I1.list hq;refine mr p.isList ?_;refine⟨s1.heap.objs.size,[s1.heap.objs.size],_,_,H1,rfl,I1.kept (t':=s1.toks) fun b o e=>cU _ e,QO a _,⟨_,c8 _ rfl,rfl,rfl⟩,fun b hb=>?_,q⟩;have e:b=s1.heap.objs.size:=by simpa using hb
 subst e;exact I1.fpOk (cP _) (I1.hok.fresh (cP _))
def Q0{R:It->Hp->Prop}{hi:Int}{t u v:Tok}{tk:Nat}(I:43)(h1:-(2 ^ 62)<=lo)(h2:lo<2 ^ 62)(h3:-(2 ^ 62)<=hi)(h4:hi<2 ^ 62)
  (q:R (Itr lo (hi-lo).toNat) H):38 (pyIter (.ref s.heap.objs.size)) (PIE X bJ U tg R) E { s with heap:=s.heap.push { cls:=.type "range",data:=.fields #[.int lo t,.int hi u,.int 1 v] },toks:=tk }:=by
 refine wpAny_pyIter_range (IsRange.new ..) (small_one h1 h2 h3 h4) ?_;have I1:89 H { s with heap:=s.heap.push { cls:=.type "range",data:=.fields #[.int lo t,.int hi u,.int 1 v] },toks:=tk }:=I.kept fun b o e=>cU _ e;refine⟨(s.heap.push { cls:=.type "range",data:=.fields #[.int lo t,.int hi u,.int 1 v] }).objs.size,[(s.heap.push { cls:=.type "range",data:=.fields #[.int lo t,.int hi u,.int 1 v] }).objs.size],_,_,H,rfl,I1.kept (t':=tk) fun b o e=>cU _ e,JS _ lo (hi-lo).toNat,?_,fun b hb=>?_,q⟩
 ·have e1:lo+((0:Nat):Int)*1=lo:=by simp
  have e2:(((hi-lo).toNat:Nat):Int)-((0:Nat):Int)=Builtin.Range.rangeSize lo hi 1:=by rw[rangeSize_one];split<;>lia
  show IsRangeIter _ _ (lo+((0:Nat):Int)*1) ((((hi-lo).toNat:Nat):Int)-((0:Nat):Int)) 1
  rw[e1,e2];exact c8 _ rfl
 ·have e:b=(s.heap.push { cls:=.type "range",data:=.fields #[.int lo t,.int hi u,.int 1 v] }).objs.size:=by simpa using hb
  subst e;exact I1.fpOk (cP _) (I1.hok.fresh (cP _))
def ZeC(ta:TA):TI:=fun U H R=>ta U H fun vs H1=>∃j:Int,vs=[.int j]/\-(2 ^ 62)<=j/\j<2 ^ 62/\R (Itr 0 j.toNat) H1
def Xu{a:Expr}{p:Pos}(hg:Gl X "range")(hm:X.mg "range" = none)(ha:PA X [a] ta)(hs:starEach [a] X.env=[(false,eval a X.env)]:=by rfl):PI X tg (.Call (.Name "range" p) [a] [] oj) (ZeC ta):=by
 intro bJ s U H R I h;refine Call_ (VA I hg hm boot_range (iM (thn (ha oj bJ s U H _ I h) fun us s1 ⟨vs,H1,I1,r1,q1⟩=>?_) hs rfl));obtain⟨j,e,q1,q2,q⟩:=q1;subst e;cases r1 with
 |cons r rr=>
  cases rr;obtain⟨t,rfl⟩:=r;exact call_range_1 (Q0 I1 40 40 q1 q2 (by simpa using q))
def tFor(wi:TI)(g:TG)(tb:TS):TS:=fun D U H=>wi U H fun J H1=>∃W:Nat->Nat->St->Hp->Prop,(∃m,W 0 m U H1)/\∀i m U H,W i m U H ->
 (J.stop i H/\D.nx U H)\/(J.go i H/\∃N:St->Hp->Prop,(∀σ' H',N σ' H'->∃m',m'<m/\W (i+1) m' σ' H')/\∀x H',J.yld i H x H'->g x U H' fun σ2 H2=>tb { D with nx:=N,ct:=N,bk:=D.nx } σ2 H2)
def Ux(fp:List Addr)(h:Heap):53:=fp.filterMap fun b=>(h.get? b).map fun o=>(b,o)
def XW{o:Obj}(hb:b∈fp)(e:h.get? b=some o):(b,o)∈Ux fp h:=ψ.mpr ⟨b,hb,by rw[e];rfl⟩
def KW{p:Addr×Obj}(hp:p∈Ux fp h):p.1∈fp/\h.get? p.1=some p.2:=by
 obtain⟨b,hb,e⟩:=ψ.mp hp;cases q:h.get? b with
 |none=>rw[q] at e;cases e
 |some o=>
  rw[q] at e;have e':(b,o)=p:=eZ e;subst e';exact⟨hb,q⟩
def Inv.pinned(I:43)(hf:∀b∈fp,WH X bJ H b)(ho:∀b∈fp,∃o,s.heap.get? b=some o/\∀v,o.data≠.cell v):Inv X (bJ++Ux fp s.heap) U H s:=
 I.pins_of fun p hp=>(db.mp hp).elim (fun z=>I.pin p (fb _ z)) fun z=>by
  obtain⟨hb,e⟩:=KW z;obtain⟨f0,f1,f2,_⟩:=hf p.1 hb;obtain⟨o,e',d⟩:=ho p.1 hb;rw[e] at e';cases e';exact⟨e,f0,f1,f2,d⟩
def Inv.unpinned{pl:53}(I:Inv X (bJ++pl) U H s):43:=I.pins_of fun p hp=>I.pin p (fb _ (dN _ hp))
def YS{g:TG}(hp:PassesOwn 82 X.A X.env X.xe)(hc:X.calm=true)(hi:PI X tg iter wi)(hg:PG X tg g)(hb:PSs X oX tb)
  (hs:∀x,foldedSetIterable iter X.env x=pure x:=by intro _;rfl):PS X (.For tg iter oX [] oj) (tFor wi g tb):=by
 intro bJ s U H D I h;refine wpAny_For (thn (hi bJ s U H _ I h) fun v s1 h1=>thn h1 fun DA s2 h2=>?_) hs;obtain⟨it,fp,tn,J,H2,e,I2,T,rE,f2,W,⟨m0,w0⟩,rq⟩:=h2;subst e;have pP:∀{H':Hp},(∀b∈fp,H' b=none)->∀b∈fp,WH X bJ H' b:=fun hn b hb=>⟨hn b hb,(f2 b hb).2⟩;refine codeAny_forLoop_any (fun n s'=>∃i σ' H',Inv X bJ σ' H' s'/\tn i s'.heap/\(∀b∈fp,H' b=none)/\W i n σ' H') ?_ m0 ⟨0,U,H2,I2,rE,fun b hb=>(f2 b hb).1,w0⟩;rintro n s3 ⟨i,σ3,H3,I3,ui,Mw,w3⟩;rcases rq i n σ3 H3 w3 with⟨stop,qn⟩|⟨go,N,hN,step⟩
 ·refine iy hp (thn (T.done X rfl rfl rfl hc i bJ s3 σ3 H3 X.xe I3 (pP Mw) ui stop) fun r s4 ⟨hr,I4⟩=>?_);subst hr;exact wpAny_execs_nil ⟨σ3,H3,I4,qn⟩
 ·refine iy hp (thn (T.item X rfl rfl rfl hc i bJ s3 σ3 H3 X.xe I3 (pP Mw) ui go) fun r s4 ⟨u,hr,h4⟩=>?_);subst hr;refine iy hp (thn h4 fun _ s5 ⟨x,H5,I5,r5,y5,w6,Bu⟩=>?_);have Sg:=I5.pinned (pP Bu) (T.obj _ _ w6);refine iy hp (thn (hg _ s5 σ3 H5 x u _ Sg r5 (step x H5 y5)) fun _ s6 ⟨σ6,H6,I6,q6⟩=>?_);refine iy hp (thn (hb _ s6 σ6 H6 _ I6 q6) fun f s7 q7=>?_);have again:∀{σ7:St}{H7:Hp},Inv X (bJ++Ux fp s5.heap) σ7 H7 s7->N σ7 H7->∃m,m<n/\∃i σ' H',Inv X bJ σ' H' s7/\tn i s7.heap/\(∀b∈fp,H' b=none)/\W i m σ' H':=fun {σ7 H7} I7 n7=>by
   obtain⟨m',hm,w7⟩:=hN σ7 H7 n7;refine⟨m',hm,i+1,σ7,H7,I7.unpinned,T.keep _ _ _ w6 fun b hb o e=>(I7.pin (b,o) (fb _ (fb _ (XW hb e)))).1,fun b hb=>?_,w7⟩;obtain⟨o,e,d⟩:=T.obj _ _ w6 b hb;exact(I7.pin (b,o) (fb _ (fb _ (XW hb e)))).2.1
  cases f with
  |next=>obtain⟨σ7,H7,I7,n7⟩:=q7;exact again I7 n7
  |cont=>obtain⟨σ7,H7,I7,n7⟩:=q7;exact again I7 n7
  |brk=>obtain⟨σ7,H7,I7,q7⟩:=q7;exact⟨σ7,H7,I7.unpinned,q7⟩
  |ret v=>obtain⟨x7,σ7,H7,I7,r7,q7⟩:=q7;exact⟨x7,σ7,H7,I7.unpinned,r7,q7⟩
def Y0{xs:List V}{g:TG}{D:js}(Pv:Nat->St->Hp->Prop)(h0:Pv 0 U H)(hl:∀i U H,i<=xs.length->Pv i U H->SqL K H a xs)
  (hs:∀i x U H,xs[i]?=some x->Pv i U H->g x U H fun σ2 H2=>tb { D with nx:=Pv (i+1),ct:=Pv (i+1),bk:=D.nx } σ2 H2) (hd:∀U H,Pv xs.length U H->D.nx U H) :
  ∃W:Nat->Nat->St->Hp->Prop,(∃m,W 0 m U H)/\∀i m U H,W i m U H ->
   ((Itl K a).stop i H/\D.nx U H)\/((Itl K a).go i H/\∃N:St->Hp->Prop,(∀σ' H',N σ' H'->∃m',m'<m/\W (i+1) m' σ' H')/\∀x H',(Itl K a).yld i H x H'->g x U H' fun σ2 H2=>tb { D with nx:=N,ct:=N,bk:=D.nx } σ2 H2):=by
 refine⟨fun i m U H=>m=xs.length-i/\i<=xs.length/\Pv i U H,⟨xs.length,by simp,dH _,h0⟩,?_⟩;rintro i m U H ⟨rfl,hi,p⟩;have q:=hl i U H hi p
 by_cases oM:i<xs.length
 ·refine .inr ⟨⟨xs,xs[i],q,by simp[oM]⟩,Pv (i+1),fun σ' H' p'=>⟨xs.length-(i+1),by lia,rfl,oM,p'⟩,fun x H' y=>?_⟩;obtain⟨e,y⟩:=y;subst e;exact hs i x U _ (y xs q) p
 ·have e:i=xs.length:=by lia
  subst e;exact .inl ⟨⟨xs,q,cP _⟩,hd U H p⟩
def WY{g:TG}{D:js}(Pv:Nat->St->Hp->Prop)(h0:Pv 0 U H)
  (hs:∀i U H,i<n->Pv i U H->g (.int (lo+i)) U H fun σ2 H2=>tb { D with nx:=Pv (i+1),ct:=Pv (i+1),bk:=D.nx } σ2 H2) (hd:∀U H,Pv n U H->D.nx U H) :
  ∃W:Nat->Nat->St->Hp->Prop,(∃m,W 0 m U H)/\∀i m U H,W i m U H ->
   ((Itr lo n).stop i H/\D.nx U H)\/((Itr lo n).go i H/\∃N:St->Hp->Prop,(∀σ' H',N σ' H'->∃m',m'<m/\W (i+1) m' σ' H')/\∀x H',(Itr lo n).yld i H x H'->g x U H' fun σ2 H2=>tb { D with nx:=N,ct:=N,bk:=D.nx } σ2 H2):=by
 refine⟨fun i m U H=>m=n-i/\i<=n/\Pv i U H,⟨n,by simp,dH _,h0⟩,?_⟩;rintro i m U H ⟨rfl,hi,p⟩
 by_cases oM:i<n
 ·refine .inr ⟨oM,Pv (i+1),fun σ' H' p'=>⟨n-(i+1),by lia,rfl,oM,p'⟩,fun x H' y=>?_⟩;obtain⟨e,y⟩:=y;subst e y;exact hs i U _ oM p
 ·have e:i=n:=by lia
  subst e;exact .inl ⟨cP _,hd U H p⟩
abbrev R2:=V->V->Hp->VK->Prop
def OpR(X:Cx)(f:Value->Value->Sem Value)(r:R2):Prop:=
 ∀(bJ:53) (s:Shared) (U:St) (H:Hp) (x y:V) (v u:Value) (Q:VK),43->Z6 x v->Z6 y u->r x y H Q ->
  38 (f v u) (EP X bJ U Q) X.xe s
def UnR(X:Cx)(f:Value->Sem Value)(r:V->Hp->VK->Prop):Prop:=
 ∀(bJ:53) (s:Shared) (U:St) (H:Hp) (x:V) (v:Value) (Q:VK),43->Z6 x v->r x H Q ->
  38 (f v) (EP X bJ U Q) X.xe s
def Yy(X:Cx)(f:Value)(r:List V->Hp->VK->Prop):Prop:=
 ∀(bJ:53) (s:Shared) (U:St) (H:Hp) (xs:List V) (us:45) (Q:VK),43->ZE xs us->r xs H Q ->
  38 (call f us) (EP X bJ U Q) X.xe s
def TruR(X:Cx)(r:V->Hp->(Bool->Hp->Prop)->Prop):Prop:=
 ∀(bJ:53) (s:Shared) (U:St) (H:Hp) (x:V) (v:Value) (Q:Bool->Hp->Prop),43->Z6 x v->r x H Q ->
  38 (truthy v) (TP X bJ U Q) X.xe s
def tOp(r:R2)(ta tb:TE):TE:=fun U H Q=>ta U H fun x H1=>tb U H1 fun y H2=>r x y H2 Q
def tUn(r:V->Hp->VK->Prop)(ta:TE):TE:=fun U H Q=>ta U H fun x H1=>r x H1 Q
inductive Zeg(C:Int->Int->Prop)(g:Int->Int->V)(x:V)(y:V)(H:Hp)(Q:VK):Prop
 |mk (i:_) (j:_) (h0:x=.int i) (h1:y=.int j) (h2:C i j) (h3:Q (g i j) H):Zeg C g x y H Q
def rI(C:Int->Int->Prop)(g:Int->Int->V):R2:=fun x y H Q=>Zeg C g x y H Q
inductive ZcC(g:Int->Int->V)(x:V)(y:V)(H:Hp)(Q:VK):Prop
 |mk (i:_) (j:_) (h0:x=.int i) (h1:y=.int j) (h2:Q (g i j) H):ZcC g x y H Q
def rI0(g:Int->Int->V):R2:=fun x y H Q=>ZcC g x y H Q
inductive Zd6(g:Int->V)(x:V)(H:Hp)(Q:VK):Prop
 |mk (i:_) (h0:x=.int i) (h1:Q (g i) H):Zd6 g x H Q
def rU(g:Int->V):V->Hp->VK->Prop:=fun x H Q=>Zd6 g x H Q
section
variable{a b c:Expr}{ta tb tc:TE}
theorem Zc8(ha:PE X a ta)(hb:PE X b tb){R:V->V->Hp->Prop}(I:43)
  (h:ta U H fun x H1=>tb U H1 fun y H2=>R x y H2)
  (hf:∀v u s2 x y H2,89 H2 s2->Z6 x v->Z6 y u->R x y H2->38 (f v u) Q X.xe s2) :
  38 (eval a X.env) (fun v s₁=>38 (eval b X.env) (fun u s₂=>38 (f v u) Q X.xe s₂) X.xe s₁) X.xe s:=by
 refine thn (ha bJ s U H _ I h) fun v s1 ⟨x,H1,I1,r1,q1⟩=>?_;refine thn (hb bJ s1 U H1 _ I1 q1) fun u s2 ⟨y,H2,I2,r2,q2⟩=>?_;exact hf v u s2 x y H2 I2 r1 r2 q2
theorem Yd{op:Operator}{r:R2}(ho:OpR X (binaryOp op) r)(ha:PE X a ta)(hb:PE X b tb):PE X (.BinOp a op b oj) (tOp r ta tb):=by
 intro bJ s U H Q I h;exact wpAny_BinOp (Zc8 ha hb I h fun v u s2 x y H2 I2 rx ry q=>ho bJ s2 U H2 x y v u Q I2 rx ry q)
theorem XT{op:UnaryOp}{r:V->Hp->VK->Prop}(ho:UnR X (unaryOp op) r)(ha:PE X a ta):PE X (.UnaryOp op a oj) (tUn r ta):=by
 intro bJ s U H Q I h;exact UnaryOp_ (thn (ha bJ s U H _ I h) fun v s1 ⟨x,H1,I1,r1,q1⟩=>ho bJ s1 U H1 x v Q I1 r1 q1)
theorem opI{C:Int->Int->Prop}{g:Int->Int->Int}
  (rule:∀(i j:Int) (t u:Tok) (s:Shared) (Q:Value->41) (E:Value->41),C i j->Q (.int (g i j) s.toks) 104->38 (f (.int i t) (.int j u)) Q E s) :
  OpR X f (rI C fun i j=>.int (g i j)):=by
 intro bJ s U H x y v u Q I rx ry h;obtain⟨i,j,rfl,rfl,hc,q⟩:=h;obtain⟨t,rfl⟩:=rx;obtain⟨t',rfl⟩:=ry;exact rule i j t t' s _ _ hc ⟨.int (g i j),H,I.tok _,⟨_,rfl⟩,q⟩
theorem Zex{g:Int->Int->Int}
  (rule:∀(i j:Int) (t u:Tok) (s:Shared) (Q:Value->41) (E:Value->41),Q (.int (g i j) s.toks) 104->38 (f (.int i t) (.int j u)) Q E s) :
  OpR X f (rI0 fun i j=>.int (g i j)):=by
 intro bJ s U H x y v u Q I rx ry h;obtain⟨i,j,rfl,rfl,q⟩:=h;obtain⟨t,rfl⟩:=rx;obtain⟨t',rfl⟩:=ry;exact rule i j t t' s _ _ ⟨.int (g i j),H,I.tok _,⟨_,rfl⟩,q⟩
theorem ZbO{g:Int->Int->Bool}
  (rule:∀(i j:Int) (t u:Tok) (s:Shared) (Q:Value->41) (E:Value->41),Q (.bool (g i j)) s->38 (f (.int i t) (.int j u)) Q E s) :
  OpR X f (rI0 fun i j=>.bl (g i j)):=by
 intro bJ s U H x y v u Q I rx ry h;obtain⟨i,j,rfl,rfl,q⟩:=h;obtain⟨t,rfl⟩:=rx;obtain⟨t',rfl⟩:=ry;exact rule i j t t' s _ _ ⟨.bl (g i j),H,I,rfl,q⟩
def CDiv(i j:Int):Prop:=0<j/\j<1073741824
def CPow(i j:Int):Prop:=0<=j/\j<=1000000/\i.natAbs<2 ^ 64
def ZdI(i j:Int):Prop:=(-(2 ^ 64)<i/\i<2 ^ 64)\/(-(2 ^ 64)<j/\j<2 ^ 64)
theorem ZdI.ok{i j:Int}(h:ZdI i j):IntMulOk i j:=by
 rcases h with⟨h1,h2⟩|⟨h1,h2⟩
 ·exact .of_left (intBits_le_64 h1 h2)
 ·exact .of_right (intBits_le_64 h1 h2)
theorem yW:OpR X (binaryOp .Add) (rI0 fun i j=>.int (i+j)):=Zex fun _ _ _ _ _ _ _ q=>add_int q
theorem Zc1:OpR X (binaryOp .Sub) (rI0 fun i j=>.int (i-j)):=Zex fun _ _ _ _ _ _ _ q=>sub_int q
theorem Za0:OpR X (binaryOp .Mult) (rI ZdI fun i j=>.int (i*j)):=opI fun _ _ _ _ _ _ _ hc q=>mul_int q hc.ok
theorem WO:OpR X (binaryOp .FloorDiv) (rI CDiv fun i j=>.int (i/j)):=opI fun i j _ _ _ _ _ hc q=>by
 have h1:(0:Int)<j:=hc.1;have h2:j<1073741824:=hc.2;exact floordiv_int 40 (by rw[Int.fdiv_eq_ediv_of_nonneg i 40];exact q) (.inl (PyProof.noPylong_small 40))
theorem Wd:OpR X (binaryOp .Mod) (rI (fun _ j=>0<j) fun i j=>.int (i%j)):=opI fun i j _ _ _ _ _ hc q=>by
 have h1:(0:Int)<j:=hc;exact mod_int' 40 (by rw[Int.fmod_eq_emod_of_nonneg i 40];exact q)
theorem Q1:OpR X (binaryOp .Pow) (rI CPow fun i j=>.int (i ^ j.toNat)):=opI fun _ _ _ _ _ _ _ hc q=>pow_int_small hc.1 hc.2.1 hc.2.2 q
theorem unI{f:Value->Sem Value}{g:Int->Int}
  (rule:∀(i:Int) (t:Tok) (s:Shared) (Q:Value->41) (E:Value->41),Q (.int (g i) s.toks) 104->38 (f (.int i t)) Q E s) :
  UnR X f (rU fun i=>.int (g i)):=by
 intro bJ s U H x v Q I rx h;obtain⟨i,rfl,q⟩:=h;obtain⟨t,rfl⟩:=rx;exact rule i t s _ _ ⟨.int (g i),H,I.tok _,⟨_,rfl⟩,q⟩
theorem Y5:UnR X (unaryOp .USub) (rU fun i=>.int (-i)):=unI fun _ _ _ _ _ q=>neg_int q
end
def ZdQ:V->V->Bool
 |.non,.non=>true|.non,.int _=>true|.int _,.non=>true|.non,.bl _=>true|.bl _,.non=>true|.non,.str _=>true|.str _,.non=>true
 |.int _,.int _=>true|.bl _,.bl _=>true|.str _,.str _=>true|.byt _,.byt _=>true
 |.int _,.str _=>true|.str _,.int _=>true|.bl _,.str _=>true|.str _,.bl _=>true
 |_,_=>false
inductive Zcu(x y:V)(H:Hp)(Q:VK):Prop
 |mk (h:ZdQ x y=true) (k:Q (.bl (decide (x=y))) H):Zcu x y H Q
inductive ZcJ(x y:V)(H:Hp)(Q:VK):Prop
 |mk (h:ZdQ x y=true) (k:Q (.bl (!decide (x=y))) H):ZcJ x y H Q
def rEq:R2:=fun x y H Q=>Zcu x y H Q
def rNe:R2:=fun x y H Q=>ZcJ x y H Q
def KC{i j:Int}:decide (V.int i=V.int j)=(i==j):=by
 rw[ls];simp
def ZaG{i j:Bool}:decide (V.bl i=V.bl j)=(i==j):=by
 rw[ls];simp
def J3{i j:Str}:decide (V.str i=V.str j)=(i==j):=by
 rw[ls];simp
def KA{i j:Array UInt8}:decide (V.byt i=V.byt j)=(i.toList==j.toList):=by
 rw[ls];cases i;cases j;simp
section
variable{X:Cx}{a b c:Expr}{ta tb tc:TE}{oj:Pos}
theorem ZY{Q:VK}{k k':Bool}(I:43)(q:Q (.bl k) H)(e:k=k'):EP X bJ U Q (.bool k') s:=by
 subst e;exact⟨.bl k,H,I,rfl,q⟩
theorem W6:OpR X (compareOp .Eq) rEq:=by
 intro bJ s U H x y v u Q I rx ry h;obtain⟨hs,q⟩:=h;cases x with
 |non=>
  cases rx;cases y with
  |non=>cases ry;exact PySem.EqNone.eq_none_none 119
  |bl j=>cases ry;exact PySem.EqNone.eq_none_bool 119
  |int j=>obtain⟨t',rfl⟩:=ry;exact PySem.EqNone.eq_none_int 119
  |str j=>obtain⟨t',rfl⟩:=ry;exact PySem.EqNone.eq_none_str 119
  |_=>exact oh (show false=true from hs) dQ
 |bl i=>
  cases rx;cases y with
  |non=>cases ry;exact PySem.EqNone.eq_bool_none 119
  |bl j=>cases ry;exact eq_bool (ZY I q ZaG)
  |str j=>obtain⟨t',rfl⟩:=ry;exact PySem.EqMixed.eq_bool_str 119
  |_=>exact oh (show false=true from hs) dQ
 |int i=>
  obtain⟨t,rfl⟩:=rx;cases y with
  |non=>cases ry;exact PySem.EqNone.eq_int_none 119
  |int j=>obtain⟨t',rfl⟩:=ry;exact eq_int (ZY I q KC)
  |str j=>obtain⟨t',rfl⟩:=ry;exact PySem.EqMixed.eq_int_str 119
  |_=>exact oh (show false=true from hs) dQ
 |str i=>
  obtain⟨t,rfl⟩:=rx;cases y with
  |non=>cases ry;exact PySem.EqNone.eq_str_none 119
  |bl j=>cases ry;exact PySem.EqMixed.eq_str_bool 119
  |int j=>obtain⟨t',rfl⟩:=ry;exact PySem.EqMixed.eq_str_int 119
  |str j=>obtain⟨t',rfl⟩:=ry;exact eq_str (ZY I q J3)
  |_=>exact oh (show false=true from hs) dQ
 |byt i=>
  obtain⟨t,rfl⟩:=rx;cases y with
  |byt j=>obtain⟨t',rfl⟩:=ry;exact W.eq_bytes (ZY I q KA)
  |_=>exact oh (show false=true from hs) dQ
 |_=>cases y<;>exact oh (show false=true from hs) dQ
theorem JY:OpR X (compareOp .NotEq) rNe:=by
 intro bJ s U H x y v u Q I rx ry h;obtain⟨hs,q⟩:=h;cases x with
 |non=>
  cases rx;cases y with
  |non=>cases ry;exact PySem.EqNone.ne_none_none 119
  |bl j=>cases ry;exact PySem.EqNone.ne_none_bool 119
  |int j=>obtain⟨t',rfl⟩:=ry;exact PySem.EqNone.ne_none_int 119
  |str j=>obtain⟨t',rfl⟩:=ry;exact PySem.EqNone.ne_none_str 119
  |_=>exact oh (show false=true from hs) dQ
 |bl i=>
  cases rx;cases y with
  |non=>cases ry;exact PySem.EqNone.ne_bool_none 119
  |bl j=>cases ry;exact ne_bool (ZY I q (dt not ZaG))
  |str j=>obtain⟨t',rfl⟩:=ry;exact PySem.EqMixed.ne_bool_str 119
  |_=>exact oh (show false=true from hs) dQ
 |int i=>
  obtain⟨t,rfl⟩:=rx;cases y with
  |non=>cases ry;exact PySem.EqNone.ne_int_none 119
  |int j=>obtain⟨t',rfl⟩:=ry;exact ne_int (ZY I q (dt not KC))
  |str j=>obtain⟨t',rfl⟩:=ry;exact PySem.EqMixed.ne_int_str 119
  |_=>exact oh (show false=true from hs) dQ
 |str i=>
  obtain⟨t,rfl⟩:=rx;cases y with
  |non=>cases ry;exact PySem.EqNone.ne_str_none 119
  |bl j=>cases ry;exact PySem.EqMixed.ne_str_bool 119
  |int j=>obtain⟨t',rfl⟩:=ry;exact PySem.EqMixed.ne_str_int 119
  |str j=>obtain⟨t',rfl⟩:=ry;exact ne_str (ZY I q (dt not J3))
  |_=>exact oh (show false=true from hs) dQ
 |byt i=>
  obtain⟨t,rfl⟩:=rx;cases y with
  |byt j=>obtain⟨t',rfl⟩:=ry;exact W.ne_bytes (ZY I q (dt not KA))
  |_=>exact oh (show false=true from hs) dQ
 |_=>cases y<;>exact oh (show false=true from hs) dQ
theorem vO:OpR X (compareOp .Lt) (rI0 fun i j=>.bl (decide (i<j))):=ZbO fun _ _ _ _ _ _ _ q=>lt_int q
theorem ZeR:OpR X (compareOp .LtE) (rI0 fun i j=>.bl (decide (i<=j))):=ZbO fun _ _ _ _ _ _ _ q=>le_int q
theorem Kq:OpR X (compareOp .Gt) (rI0 fun i j=>.bl (decide (j<i))):=ZbO fun _ _ _ _ _ _ _ q=>gt_int q
theorem ZeA:OpR X (compareOp .GtE) (rI0 fun i j=>.bl (decide (j<=i))):=ZbO fun _ _ _ _ _ _ _ q=>ge_int q
theorem ZaF:OpR X (compareOp .Is) (fun x y H Q=>y=.non/\Q (.bl (decide (x=.non))) H):=by
 intro bJ s U H x y v u Q I rx ry h;obtain⟨rfl,q⟩:=h;cases ry;refine is_none_gen (ZY I q ?_);cases x<;>first
  | (cases rx;rfl)
  | (obtain⟨t,rfl⟩:=rx;rfl)
theorem zp:OpR X (compareOp .IsNot) (fun x y H Q=>y=.non/\Q (.bl (!decide (x=.non))) H):=by
 intro bJ s U H x y v u Q I rx ry h;obtain⟨rfl,q⟩:=h;cases ry;refine isnot_none_gen (ZY I q ?_);cases x<;>first
  | (cases rx;rfl)
  | (obtain⟨t,rfl⟩:=rx;rfl)
theorem ZK(b:Expr)(h:op≠.In:=by left)(h2:op≠.NotIn:=by left):behindInMarks op b=false:=by
 have e1:(op==CmpOp.In)=false:=by cases op<;>first|rfl|exact oh rfl h
 have e2:(op==CmpOp.NotIn)=false:=by cases op<;>first|rfl|exact oh rfl h2
 cases b<;>simp[behindInMarks,e1,e2]
theorem X1{r:R2}(ho:OpR X (compareOp op) r)(ha:PE X a ta)(hb:PE X b tb)(hm:behindInMarks op b=false):PE X (.Compare a [op] [b] oj) (tOp r ta tb):=by
 intro bJ s U H Q I h;exact wpAny_Compare1 (Zc8 ha hb I h fun v u s2 x y H2 I2 rx ry q=>ho bJ s2 U H2 x y v u Q I2 rx ry q) hm
def Zeq(t:TE):TT:=fun U H Q=>t U H fun x H'=>ZaY x H' Q
theorem Zy{r:R2}(ho:OpR X (compareOp op) r)(ha:PE X a ta)(hb:PE X b tb)(hm:behindInMarks op b=false):PT X (.Compare a [op] [b] oj) (Zeq (tOp r ta tb)):=by
 intro bJ s U H Q I h;refine wpAny_isTrue_Compare1 (thn (ha bJ s U H _ I h) fun v s1 ⟨x,H1,I1,r1,q1⟩=>thn (hb bJ s1 U H1 _ I1 q1) fun u s2 ⟨y,H2,I2,r2,q2⟩=> thn (ho bJ s2 U H2 x y v u _ I2 r1 r2 q2) fun c s3 ⟨z,H3,I3,r3,k,e,q3⟩=>?_) hm
 subst e;cases r3;exact fQ ⟨H3,I3,q3⟩
def Zdq(r r':R2)(ta tb tc:TE):TE:=fun U H Q=>ta U H fun x H1=>tb U H1 fun y H2=>r x y H2 fun z H3=>∃k,z=.bl k /\
 (if k=true then tc U H3 fun w' H4=>r' y w' H4 Q else Q (.bl false) H3)
theorem Za5{Hi:CmpOp}{r r':R2}(ho:OpR X (compareOp op) r)(sT:OpR X (compareOp Hi) r')(ha:PE X a ta)(hb:PE X b tb)(hc:PE X c tc)
  (hm:lastMarks [op,Hi] [b,c]=false:=by with_unfolding_all rfl):PE X (.Compare a [op,Hi] [b,c] oj) (Zdq r r' ta tb tc):=by
 intro bJ s U H Q I h;refine Compare_chain (thn (ha bJ s U H _ I h) fun v s1 ⟨x,H1,I1,r1,q1⟩=>chain_link (thn (hb bJ s1 U H1 _ I1 q1) fun u s2 ⟨y,H2,I2,r2,q2⟩=> thn (ho bJ s2 U H2 x y v u _ I2 r1 r2 q2) fun d s3 ⟨z,H3,I3,r3,k,e,q3⟩=>?_)) hm
 subst e;cases r3;refine fQ ?_;cases k with
 |false=>exact ite_ff ⟨.bl false,H3,I3,rfl,q3⟩
 |true=>exact ite_tt (chain_last (thn (hc bJ s3 U H3 _ I3 q3) fun w' s4 ⟨z',H4,I4,r4,q4⟩=>sT bJ s4 U H4 y z' u w' Q I4 r2 r4 q4))
def ZdJ(K:W.Frag)(x:V)(H:Hp)(k:Bool):Prop:=
 match x with
 |.non=>k=false
 |.bl b=>k=b
 |.int i=>k=(i != 0)
 |.str y=>y.length<=sizeLine/\k=((y.length:Int) != 0)
 |.byt y=>y.size<=sizeLine/\k=((y.size:Int) != 0)
 |.ref p=>(∃xs,SqL K H p xs/\k = !xs.isEmpty)\/(∃xs,SqT K H p xs/\k = !xs.isEmpty)\/∃kvs,H p=some (.dK kvs)/\k = !kvs.isEmpty
 |_=>False
theorem JT{κ:Type}{kvs:List (κ×V)}{vs:List (κ×Value)}(r:KV kvs vs):(!vs.isEmpty) = !kvs.isEmpty:=by
 cases r<;>rfl
theorem yE{xs:List V}(r:ZE xs oi):(!oi.toArray.isEmpty) = !xs.isEmpty:=by
 cases r<;>simp
theorem yV:(sizeLine:Nat)<2 ^ 63:=by rw[cQ];decide
theorem Zdt:TruR X (fun x H Q=>∃k,ZdJ X.K x H k/\Q k H):=by
 intro bJ s U H x v Q I rx h;obtain⟨k,e,q⟩:=h;have hl:=yV;have hs:sizeLine=16777216:=cQ;cases x with
 |non=>
  cases rx;have e':k=false:=e;subst e';exact truthy_none ⟨H,I,q⟩
 |bl b=>
  cases rx;have e':k=b:=e;subst e';exact fQ ⟨H,I,q⟩
 |int i=>
  obtain⟨t,rfl⟩:=rx;have e':k=(i != 0):=e;subst e';exact PySem.P.truthy_int ⟨H,I,q⟩
 |str y=>
  obtain⟨t,rfl⟩:=rx;obtain⟨hy,e'⟩:y.length<=sizeLine/\k=((y.length:Int) != 0):=e;subst e';exact PySem.P.truthy_str 40 ⟨H,I.tok _,q⟩
 |byt y=>
  obtain⟨t,rfl⟩:=rx;obtain⟨hy,e'⟩:y.size<=sizeLine/\k=((y.size:Int) != 0):=e;subst e';exact W.truthy_bytes 40 ⟨H,I.tok _,q⟩
 |ref p=>
  cases rx;have e':(∃xs,SqL X.K H p xs/\k = !xs.isEmpty)\/(∃xs,SqT X.K H p xs/\k = !xs.isEmpty)\/∃kvs,H p=some (.dK kvs)/\k = !kvs.isEmpty:=e;rcases e' with⟨xs,hx,e'⟩|⟨xs,hx,e'⟩|⟨kvs,hx,e'⟩
  ·subst e';obtain⟨oi,r,pl,hz⟩:=I.list hx;have oC:=r.length;exact wpAny_truthy_list pl.isList (by simp only[eM];lia) ⟨H,I.tok _,by rw[yE r];exact q⟩
  ·subst e';obtain⟨oi,r,pl,hz⟩:=I.tuple hx;have oC:=r.length;exact truthy_tuple pl (by simp only[eM];lia) ⟨H,I.tok _,by rw[yE r];exact q⟩
  ·subst e';obtain⟨hz,hS,vs,r,m⟩:kvs.length<=sizeLine/\(p==sysModules)=false/\∃vs,KV kvs vs/\s.heap.DictOf (Zv X.prog X.w) p vs:=I.hok p _ hx;have oC:kvs.length=vs.length:=gt r;exact wpAny_truthy_dict hS m 40 ⟨H,I.tok _,by rw[JT r];exact q⟩
 |_=>exact(show False from e).elim
theorem ZaP(ha:PE X a ta)(he:∀pc,isTrue a X.env pc=(do let v <- pc;standAt a.pos;holding [v] (truthy v))) :
  PT X a (fun U H Q=>ta U H fun x H'=>∃k,ZdJ X.K x H' k/\Q k H'):=by
 intro bJ s U H Q I h;exact isTrue_plain (thn (ha bJ s U H _ I h) fun v s1 ⟨x,H1,I1,r1,q1⟩=>Zdt bJ s1 U H1 x v Q I1 r1 q1) (he _)
theorem Jq:OpR X (binaryOp .Add) (fun x y H Q=>∃i j,x=.str i/\y=.str j/\i.length+j.length<=sizeLine/\Q (.str (i++j)) H):=by
 intro bJ s U H x y v u Q I rx ry h;obtain⟨i,j,rfl,rfl,hz,q⟩:=h;obtain⟨t,rfl⟩:=rx;obtain⟨t',rfl⟩:=ry;exact add_str (fun t' tk=>⟨.str (i++j),H,I.tok _,⟨_,rfl⟩,q⟩) hz
theorem XU{x:V}(r:ZE [x] us):∃u,us=[u]/\Z6 x u:=by
 cases r with
 |cons r1 r2=>cases r2;exact⟨_,rfl,r1⟩
theorem qU{x y:V}(r:ZE [x,y] us):∃u w',us=[u,w']/\Z6 x u/\Z6 y w':=by
 cases r with
 |cons r1 r2=>
  cases r2 with
  |cons r3 r4=>cases r4;exact⟨_,_,rfl,r1,r3⟩
theorem vZ(hc:X.calm=true):Yy X (.builtin "max") (fun xs H Q=>∃i j,xs=[.int i,.int j]/\Q (.int (if j>i then j else i)) H):=by
 intro bJ s U H xs us Q I r h;obtain⟨i,j,rfl,q⟩:=h;obtain⟨u,w',rfl,⟨t,rfl⟩,⟨t',rfl⟩⟩:=qU r;refine max_two_ints 124 fun h' tk k=>⟨_,H,I.kept k,?_,q⟩
 by_cases hj:j>i
 ·rw[og hj,og hj];exact⟨_,rfl⟩
 ·rw[n8 hj,n8 hj];exact⟨_,rfl⟩
theorem jo:Yy X (.type "str") (fun xs H Q=>∃i,xs=[.int i]/\i.natAbs.log2<1920/\Q (.str (toString i)) H):=by
 intro bJ s U H xs us Q I r h;obtain⟨i,rfl,hz,q⟩:=h;obtain⟨u,rfl,t,rfl⟩:=XU r;exact PySem.P.str_of_int hz ⟨.str _,H,I.tok _,⟨_,rfl⟩,q⟩
end
structure Jy(h:Heap)(x dx C:Addr)(mA:Str->67):Prop where
 obj:h.get? x=some (W.instObj C dx)
 ns:h.Ns1 dx mA
 ne:dx≠x
def Qt(n:h.Ns1 dx mA):∃od,h.get? dx=some od/\∀name,W.lookIn name od=some (mA name):=by
 obtain⟨o,es,ep,ho,hd,hk,_,hm⟩:=n;refine⟨o,ho,fun name=>?_⟩;have e:=hm name;unfold nsFind findBy at e;rw[<- Array.find?_toList] at e;unfold W.lookIn;rw[hd];dsimp only
 split
 ·rename_i y q
  rw[q] at e;exact dt some e
 ·rename_i q
  rw[q] at e;have a:es.toList.any (·.refKey)=false:=by
   rw[lz];intro y hy;obtain⟨z,t,pV⟩:=hk y (mV.mp hy);simp[DictEntry.refKey,pV]
  have a':¬es.toList.any (·.refKey)=true:=by rw[a];exact dQ
  rw[n8 a'];exact dt some e
def Jy.look{x:Addr}(I:Jy h x dx C mA):∃od,W.InstAt h x (W.instObj C dx) C (some od)/\∀name,W.lookIn name od=some (mA name):=
 let ⟨od,ho,hl⟩:=Qt I.ns
 ⟨od,⟨I.obj,rfl,rfl,ho⟩,hl⟩
section
variable{x f:Addr}{name:Str}{v:Value}
theorem ZbS{IW:Bool}(X:K.In s.heap)(I:Jy s.heap x dx C mA)(hg:W.plainGet K C name=true)(hh:W.hasDictIn K C=true)
  (ha:W.findIn K (.ref C) name=99) (hv:mA name=some v) (FD:W.handedIn v=true) (h:Q v 104) :
  36 (getAttr (.ref x) name IW) Q E s:=by
 obtain⟨od,J,hl⟩:=I.look;exact W.get_value X J (W.plainGet_of hg).1 (W.findObj_own hh ha rfl (by rw[hl,hv])) FD h
theorem Zar{Q:Value×45->41}(X:K.In s.heap)(I:Jy s.heap x dx C mA)(hg:W.plainGet K C name=true)
  (hf:W.findIn K (.ref C) name=some (some (.ref f))) (ht:W.isFn K (.ref f)=true) (hv:mA name=none) (h:Q (.ref f,[.ref x]) s) :
  36 (getMethod (.ref x) name pl) Q E s:=by
 obtain⟨od,J,hl⟩:=I.look;exact W.method_fn X J (W.plainGet_of hg).1 (W.plainGet_of hg).2 hf (iz.mp ht) (by show(W.lookIn name od).map (·.isSome)=some false;rw[hl,hv];rfl) h
theorem Zb7{ns:54}{Q:Unit->41}(X:K.In s.heap)(I:Jy s.heap x dx C mA)
  (hs:W.findIn K (.ref C) "__setattr__" = some (some (.builtin "object.__setattr__"))) (hp:W.plainOver K C=true) (ht:W.takerIn K C name=99) (hh:W.hasDictIn K C=true)
  (hw:PySem.Within mA ns) (pj:ns.length<=sizeLine)
  (h:∀h',Jy h' x dx C (fun y=>if y=name then some v else mA y)->Heap.SameBut dx s.heap h'->Q () { s with heap:=h',toks:=s.toks+2 }) :
  36 (setAttr (.ref x) name v) Q E s:=by
 obtain⟨od,J,hl⟩:=I.look;refine W.set_plain X J hs (W.osa_open (s:=104) (r:=none) X J hp ht fun b=>?_);obtain⟨cd,hc,pF⟩:=W.any_some hh;have hx:s.heap.get? x=some ⟨.ref C,some dx,.plain,#[]⟩:=I.obj;refine cN (cO (cN (cN (wpAny_loadPart hx (cN (W.Looks.here (s:=104) (W.looks_clsIn X hc) ?_))))));rw[pF];refine cO (a:=some dx) (cN (cO (cN ?_)));refine wpAny_nsSet1 (s:=104) I.ns fun h' BO sn=>?_;obtain⟨oD,Co,FP,hoD,P8,RB⟩:=BO.count (PySem.Within.cons name v hw);refine cN (wpAny_lookBehind hoD (by rw[P8];exact pastItsLine_dict (fh RB (by rw[fc];lia))) ?_);exact cO (h _ ⟨(sn.2 _ (eY I.ne)).trans I.obj,BO,I.ne⟩ sn)
theorem Zae(X:K.In s.heap)(hm:W.makesIn K C=true)
  (hi:W.findIn K (.ref C) "__init__" = some (some (.ref f))) (hf:W.typeIn K (.ref f)=some (.type "function"))
  (h:codeAny 86 (A.under (.builtin "type.__call__" ⟨.ref C::vs,kw⟩)) (.call (.ref f) ⟨.ref 87::vs,kw⟩) (W.InitBack 87 R) { s with heap:=(s.heap.push W.emptyDict).push (W.instObj C s.heap.objs.size) }) :
  codeAny 86 A (.call (.ref C) ⟨vs,kw⟩) R s:=by
 obtain⟨hh,g,d,t,os⟩:=s;exact W.make_core (W.makes_of X hm) (W.looks_findIn X hi) (fun self=>W.bind_fn X self hf) (.inl rfl) h
end
def X2(f:Str)(v:V):73->73
 |[]=>[(f,v)]
 | (g,x)::r=>if g=f then(g,v)::r else(g,x)::X2 f v r
def qH(f g:Str)(v:V):∀fs:73,(X2 f v fs).lookup g=if g=f then some v else fs.lookup g
 |[]=>by
  show ε g [(f,v)]=_
  by_cases h:g=f
  ·have hb:(g==f)=true:=iz.mpr h;simp only[ε,hb,og h]
  ·have hb:(g==f)=false:=ia.mpr h;simp only[ε,hb,n8 h]
 | (k,x)::r=>by
  have ih:=qH f g v r;rw[show X2 f v ((k,x)::r)=(if k=f then(k,v)::r else(k,x)::X2 f v r) from rfl]
  by_cases hk:k=f
  ·rw[og hk]
   by_cases h:g=k
   ·have hb:(g==k)=true:=iz.mpr h;simp only[ε,hb,og (h.trans hk)]
   ·have hb:(g==k)=false:=ia.mpr h;simp only[ε,hb,n8 (fun e:g=f=>h (e.trans hk.symm))]
  ·rw[n8 hk]
   by_cases h:g=k
   ·have hb:(g==k)=true:=iz.mpr h;simp only[ε,hb,n8 (fun e:g=f=>hk (h.symm.trans e))]
   ·have hb:(g==k)=false:=ia.mpr h;simp only[ε,hb];exact ih
def qb(f:Str)(v:V):∀fs:73,f∈(X2 f v fs).map (·.1)/\∀g,g∈fs.map (·.1)->g∈(X2 f v fs).map (·.1)
 |[]=>⟨by simp[X2],fun g h=>by simp at h⟩
 | (k,x)::r=>by
  obtain⟨i1,i2⟩:=qb f v r;rw[show X2 f v ((k,x)::r)=(if k=f then(k,v)::r else(k,x)::X2 f v r) from rfl]
  by_cases hk:k=f
  ·rw[og hk];subst hk;exact⟨by simp,fun g h=>by simpa using h⟩
  ·rw[n8 hk];refine⟨?_,fun g h=>?_⟩
   ·rw[dD];exact c7 _ i1
   ·rw[dD] at h ⊢;rcases cW.mp h with e|e
    ·exact cW.mpr (.inl e)
    ·exact c7 _ (i2 g e)
def qK(f:Str)(v:V):∀fs:73,(X2 f v fs).length<=fs.length+1
 |[]=>by simp[X2]
 | (k,x)::r=>by
  have ih:=qK f v r;rw[show X2 f v ((k,x)::r)=(if k=f then(k,v)::r else(k,x)::X2 f v r) from rfl]
  by_cases hk:k=f
  ·rw[og hk,fc,fc];lia
  ·rw[n8 hk,fc,fc];lia
def U3.some_of{o:67}(r:U3 (some v) o):∃u,o=some u/\Z6 v u:=by
 cases o with
 |none=>exact(show False from r).elim
 |some u=>exact⟨u,rfl,r⟩
def U3.none_of{o:67}(r:U3 none o):o=none:=by
 cases o with
 |none=>rfl
 |some u=>exact(show False from r).elim
def QT{u:Value}(r:Z6 v u):W.handedIn u=true:=by
 cases v with
 |non=>cases (show u=Value.none from r);rfl
 |bl b=>cases (show u=Value.bool b from r);rfl
 |int i=>obtain⟨t,e⟩:=(show ∃t,u=Value.int i t from r);cases e;rfl
 |str x=>obtain⟨t,e⟩:=(show ∃t,u=Value.str x t from r);cases e;rfl
 |byt b=>obtain⟨t,e⟩:=(show ∃t,u=Value.bytes b t from r);cases e;rfl
 |flt b=>obtain⟨t,e⟩:=(show ∃t,u=Value.float b t from r);cases e;rfl
 |ref a=>cases (show u=Value.ref a from r);rfl
 |ty n=>cases (show u=Value.type n from r);rfl
section
variable{fs Hz:List (Str×V)}
theorem zq(hok:HOk P w H h)(e:H a=some (.ins C dx fs)):∃mA,Jy h a dx C mA/\(∀f,U3 (fs.lookup f) (mA f))/\PySem.Within mA (fs.map (·.1))/\fs.length<=1000/\H dx=some (.own a):=by
 obtain⟨d,z,ne,ob,mA,n,r,q⟩:=(show Y9 P w H h a (.ins C dx fs) from hok a _ e);exact⟨mA,⟨ob,n,ne⟩,r,q,z,d⟩
end
structure Cls(K:W.Frag)(C:Addr):Prop where
 pg:W.plainGet K C Str.empty=true
 hd:W.hasDictIn K C=true
 po:W.plainOver K C=true
 sa:W.findIn K (.ref C) "__setattr__" = some (some (.builtin "object.__setattr__"))
def Cls.get(c:Cls K C)(f:Str):W.plainGet K C f=true:=c.pg
def Wx(K:W.Frag)(C:Addr)(f:Str):Prop:=W.findIn K (.ref C) f=99
def Wx.taker{f:Str}(n:Wx K C f):W.takerIn K C f=99:=by
 unfold W.takerIn;rw[show W.findIn K (.ref C) f=99 from n];rfl
structure ZbN(K:W.Frag)(C:Addr)(m:Str)(f:Addr):Prop where
 at_:W.findIn K (.ref C) m=some (some (.ref f))
 fn:W.isFn K (.ref f)=true
 kp:W.keepIn K (.ref f)=true
section
variable{fs:List (Str×V)}{f:Str}
theorem JP{b:Bool}(I:43)(e:H a=some (.ins C dx fs))(c:Cls X.K C)(n:Wx X.K C f)(l:fs.lookup f=some v)
  (h:∀u s',89 H s'->Z6 v u->Q u s'):wpAny 82 A (getAttr (.ref a) f b) Q E s:=by
 obtain⟨mA,O,r,_,_,_⟩:=zq I.hok e;obtain⟨u,hu,ru⟩:=U3.some_of (v:=v) (o:=mA f) (by rw[<- l];exact r f);exact ZbS I.kIn O (c.get f) c.hd n hu (QT ru) (h u _ (I.tok _) ru)
theorem yb{m:Str}{g:Addr}{Q:Value×45->41}(I:43)(e:H a=some (.ins C dx fs))(c:Cls X.K C)(k:ZbN X.K C m g)(l:fs.lookup m=none)
  (h:Q (.ref g,[.ref a]) s):wpAny 82 A (getMethod (.ref a) m pl) Q E s:=by
 obtain⟨mA,O,r,_,_,_⟩:=zq I.hok e;have hn:mA m=none:=U3.none_of (by rw[<- l];exact r m);exact Zar I.kIn O (c.get m) k.at_ k.fn hn h
theorem Jf{y:V}{u:Value}{Q:Unit->41}(I:43)(e:H a=some (.ins C dx fs))(c:Cls X.K C)(n:Wx X.K C f)(hl:fs.length<1000)(ry:Z6 y u)
  (h:∀s',89 (upd H a (.ins C dx (X2 f y fs))) s'->Q () s'):wpAny 82 A (setAttr (.ref a) f u) Q E s:=by
 obtain⟨mA,O,r,wi,_,ho⟩:=zq I.hok e;have hz:(fs.map (·.1)).length<=sizeLine:=by rw[cS,cQ];lia
 refine Zb7 I.kIn O c.sa c.po n.taker c.hd wi hz fun h' O' sb=>h _ ?_;have hd:∃o,h'.get? dx=some o:=let ⟨o,_,_,e',_⟩:=O'.ns; ⟨o,e'⟩
 refine I.write (x:=a) (e:=dx) (by rw[e];exact True.intro) (.inr ho) (fun b q hb z=>(sb.2 b hb).trans z) hd ?_;refine⟨by rw[upd_ne O.ne];exact ho,?_,O.ne,O'.obj,_,O'.ns,fun g=>?_,fun g hg=>?_⟩
 ·have:=qK f y fs;lia
 ·show U3 ((X2 f y fs).lookup g) (if g=f then some u else mA g)
  rw[qH]
  by_cases q:g=f
  ·rw[og q,og q];exact ry
  ·rw[n8 q,n8 q];exact r g
 ·by_cases q:g=f
  ·rw[q];exact(qb f y fs).1
  ·refine(qb f y fs).2 g (wi g fun z=>hg ?_)
   show(if g=f then some u else mA g)=none
   rw[n8 q];exact z
theorem Inv.made(I:43):89 (upd (upd H s.heap.objs.size (.own 87)) 87 (.ins C s.heap.objs.size []))
  { s with heap:=(s.heap.push W.emptyDict).push (W.instObj C s.heap.objs.size) }:=by
 have e1:(s.heap.push W.emptyDict).get? s.heap.objs.size=some W.emptyDict:=c8 s.heap rfl;have e2:((s.heap.push W.emptyDict).push (W.instObj C s.heap.objs.size)).get? 87=some (W.instObj C s.heap.objs.size):=by
  have:=c8 (s.heap.push W.emptyDict) (o:=W.instObj C s.heap.objs.size) rfl
  rwa [fM] at this
 have e3:(s.heap.push W.emptyDict).Ns s.heap.objs.size (fun _=>none):=⟨W.emptyDict,#[],_,e1,rfl,(fun e he=>oh he 39),fun _=>rfl⟩;have I1:=I.laid (a:=s.heap.objs.size) (o:=.own 87) (h':=s.heap.push W.emptyDict) (t':=s.toks) (fun b u q=>cU _ q) (cP _) ⟨_,e1⟩;refine I1.laid (a:=s.heap.objs.size+1) (o:=.ins C s.heap.objs.size []) (t':=s.toks) (fun b u q=>cU _ q) (Nat.le_of_eq (fM _ _)) ?_;have ne:s.heap.objs.size≠s.heap.objs.size+1:=c9 (fR _);refine⟨by rw[upd_ne ne,Zc],dH _,ne,e2,fun _=>none,(Heap.Ns1.of_empty e3).at fun o q=>cU _ q,fun _=>True.intro,fun y hy=>oh rfl hy⟩
theorem ZbJ{f:Str}(hb:attributeBase e f env (eval e env)=eval e env)
  (h:36 (eval e env) (fun o s₁=>36 (getAttr o f true) Q E s₁) E s):36 (eval (.Attribute e f oj) env) Q E s:=
 Attribute_any_ h (by rw[arm_eval_Attribute,hb])
end
inductive ZdM(K:W.Frag)(f:Str)(x:V)(H:Hp)(Q:VK):Prop
 |mk (a C dx:Addr) (fs:73) (v:V) (h1:x=.ref a) (h2:H a=some (.ins C dx fs)) (h3:Cls K C) (h4:Wx K C f) (h5:fs.lookup f=some v) (k:Q v H):ZdM K f x H Q
def ZdV(K:W.Frag)(ta:TE)(f:Str):TE:=fun U H Q=>ta U H fun x H1=>ZdM K f x H1 Q
def sFld(K:W.Frag)(ta tv:TE)(f:Str):TS:=fun D U H=>tv U H fun y H1=>ta U H1 fun x H2=>∃a C dx fs,x=.ref a/\H2 a=some (.ins C dx fs)/\Cls K C/\Wx K C f/\fs.length<1000 /\
 D.nx U (upd H2 a (.ins C dx (X2 f y fs)))
section
variable{o oB:Expr}{f:Str}{EJ:Pos}{ta:TE}
theorem Zdp(he:PE X e ta)(hb:attributeBase e f X.env (eval e X.env)=eval e X.env):PE X (.Attribute e f oj) (ZdV X.K ta f):=by
 intro bJ s U H Q I h;refine ZbJ hb (thn (he bJ s U H _ I h) fun u s1 ⟨x,H1,I1,rx,a,C,dx,fs,v,ex,ea,c,n,l,q⟩=>?_);subst ex;obtain rfl:u=Value.ref a:=rx;exact JP I1 ea c n l fun u' s2 I2 ru=>⟨v,H1,I2,ru,q⟩
theorem ya(ha:PE X o ta)(hv:PE X oB tv)(hs:swapsWith oB (some (.Attribute o f o7)) oj.line X.env=pure false):PS X (.Assign [.Attribute o f o7] oB oj) (sFld X.K ta tv f):=by
 intro bJ s U H D I h;refine plainObj_wpAny_Assign_Attribute (thn (hv bJ s U H _ I h) fun u s1 ⟨y,H1,I1,ry,q⟩=>thn (ha bJ s1 U H1 _ I1 q) fun ov s2 ⟨x,H2,I2,rx,a,C,dx,fs,ex,ea,c,n,l,q2⟩=>?_) hs;subst ex;obtain rfl:ov=Value.ref a:=rx;exact Jf I2 ea c n l ry fun s3 I3=>⟨U,_,I3,q2⟩
theorem Zcy{m:Str}{apos:Pos}{args:List Expr}(he:PE X e te)(I:43)
  (h:te U H fun x H1=>∃a C dx fs g,x=.ref a/\H1 a=some (.ins C dx fs)/\Cls X.K C/\ZbN X.K C m g/\fs.lookup m=none /\ ∀s1,89 H1 s1->38 (callWith oj (.ref g) [.ref a] (backTo oj (starEach args X.env)) (backToKw oj (keywordEach [] X.env))) Q X.xe s1)
  (ht:eval (.Call (.Attribute e m apos) args [] oj) X.env=(do
   let ov <- eval e X.env
   standAt apos.atName
   let (f,first) <- holding [ov] (getMethod ov m pl)
   callWith oj f first (backTo oj (starEach args X.env)) (backToKw oj (keywordEach [] X.env)))) :
  38 (eval (.Call (.Attribute e m apos) args [] oj) X.env) Q X.xe s:=by
 refine W.methodCall_KW (pl:=pl) (thn (he bJ s U H _ I h) fun u s1 ⟨x,H1,I1,rx,a,C,dx,fs,g,ex,ea,c,k,l,q⟩=>?_) ht;subst ex;obtain rfl:u=Value.ref a:=rx;exact yb I1 ea c k l (q s1 I1)
end
section
variable{c:Value}{b:Bool}
inductive Vl(K:W.Frag)(H:Hp):V->Value->Prop where
 |non:Vl K H .non (.type "NoneType")
 |bl (x:Bool):Vl K H (.bl x) (.type "bool")
 |int (i:Int):Vl K H (.int i) (.type "int")
 |str (x:Str):Vl K H (.str x) (.type "str")
 |flt (x:UInt64):Vl K H (.flt x) (.type "float")
 |lst {a:Addr}{xs:List V} (e:H a=122):Vl K H (.ref a) (.type "list")
 |frz {a:Addr}{o:Obj}{xs:List V} (e:H a=some (.frz o (.lst xs))):Vl K H (.ref a) (.type "list")
 |tup {a:Addr}{xs:List V} (e:H a=some (.tup xs)):Vl K H (.ref a) (.type "tuple")
 |dK {a:Addr}{kvs:List (Key×V)} (e:H a=some (.dK kvs)):Vl K H (.ref a) (.type "dict")
 |dT {a:Addr}{kvs:List (List Key×V)} (e:H a=some (.dT kvs)):Vl K H (.ref a) (.type "dict")
 |ins {a C dx:Addr}{fs:73} (e:H a=some (.ins C dx fs)) (cl:Cls K C) (ha:W.findIn K (.ref C) "__class__" = some (some (.builtin "object.__class__")))
   (hn:W.specialIn K (.builtin "object.__class__") "__get__" = some (some (.builtin "getset_descriptor.__get__"))) (htk:W.takesIn K (.builtin "object.__class__")=some true)
   (hm:W.mroIn K C (.type "object")=some true):Vl K H (.ref a) (.ref C)
theorem vX{x:V}{u t:Value}(I:43)(rx:Z6 x u)(ty:Vl X.K H x t)(e:W.kitOne X.K t c=some b)(h:∀tk,Q (.bool b) { s with toks:=tk }) :
  wpAny 82 A (call (.builtin "isinstance") [u,c]) Q E s:=by
 cases ty with
 |non=>cases (show u=Value.none from rx);exact fX W.kitx_none I.kIn True.intro e (fun z=>nomatch z) h
 |bl y=>cases (show u=Value.bool y from rx);exact fX W.kitx_bool I.kIn True.intro e (fun z=>nomatch z) h
 |int i=>obtain⟨t,q⟩:=(show ∃t,u=Value.int i t from rx);cases q;exact fX W.kitx_int I.kIn True.intro e (fun z=>nomatch z) h
 |str y=>obtain⟨t,q⟩:=(show ∃t,u=Value.str y t from rx);cases q;exact fX W.kitx_str I.kIn True.intro e (fun z=>nomatch z) h
 |flt y=>obtain⟨t,q⟩:=(show ∃t,u=Value.float y t from rx);cases q;exact fX W.kitx_float I.kIn True.intro e (fun z=>nomatch z) h
 |@lst a xs ea=>
  cases (show u=Value.ref a from rx);obtain⟨_,_,n,_,h1⟩:=(show Y9 X.prog X.w H s.heap a (.lst xs) from I.hok a _ ea);exact fX W.kitx_list I.kIn ⟨_,h1,rfl⟩ e (fun z=>nomatch z) h
 |@frz a ob xs ea=>
  cases (show u=Value.ref a from rx);obtain⟨_,_,_,n,_,h1⟩:=(show Y9 X.prog X.w H s.heap a (.frz ob (.lst xs)) from I.hok a _ ea);exact fX W.kitx_list I.kIn ⟨_,h1,rfl⟩ e (fun z=>nomatch z) h
 |@tup a xs ea=>
  cases (show u=Value.ref a from rx);obtain⟨_,_,_,p⟩:=(show Y9 X.prog X.w H s.heap a (.tup xs) from I.hok a _ ea);obtain⟨o,h1,h2,_⟩:=p;exact fX W.kitx_tuple I.kIn ⟨o,h1,h2⟩ e (fun z=>nomatch z) h
 |@dK a kvs ea=>
  cases (show u=Value.ref a from rx);obtain⟨_,_,vs,_,p⟩:=(show Y9 X.prog X.w H s.heap a (.dK kvs) from I.hok a _ ea);obtain⟨o,es,ep,h1,h2,_⟩:=p;exact fX W.kitx_dict I.kIn ⟨o,h1,h2.1⟩ e (fun z=>nomatch z) h
 |@dT a kvs ea=>
  cases (show u=Value.ref a from rx);obtain⟨_,_,xs,_,o,es,ep,h1,h2,_⟩:=(show Y9 X.prog X.w H s.heap a (.dT kvs) from I.hok a _ ea);exact fX W.kitx_dict I.kIn ⟨o,h1,h2.1⟩ e (fun z=>nomatch z) h
 |@ins a C dx fs ea cl ha hn htk hm=>
  cases (show u=Value.ref a from rx);obtain⟨mA,O,_⟩:=zq I.hok ea;obtain⟨od,J,_⟩:=O.look;exact fX (W.kitx_own (cl.get _) cl.hd ha hn htk hm) I.kIn J e (fun z=>nomatch z) h
end
structure Zq(k:Nat)(A:Around):Prop where
 hd:A.handled=none
 dp:A.depth+3*k+5<recursionLimit
 un:A.units+16*k+200<cLine
def Zq.mono{k:Nat}(r:Zq k A)(h:j<=k):Zq j A:=⟨r.hd,by have:=r.dp;lia,by have:=r.un;lia⟩
def Zq.deeper{k:Nat}{A:Around}(r:Zq (k+1) A)(env:Env):Zq k (A.deeper env):=
 ⟨r.hd,by have:=r.dp;show A.depth+1+3*k+5<_;lia,by have:=r.un;show A.units+3+16*k+200<_;lia⟩
def JU:(A.under (.builtin "type.__call__" ⟨.ref C::us,kw⟩)).depth=A.depth+1:=by
 first|rfl|simp[Around.under,Code.weight,Code.isCreation,Code.isGuard,Code.isCaller,Code.frames,Code.isFrame,guardIds]
def Jp:(A.under (.builtin "type.__call__" ⟨.ref C::us,kw⟩)).units=A.units+1:=by
 first|rfl|simp[Around.under,Code.cUnits,Code.frames,Code.isFrame]
def Zq.make{k:Nat}(r:Zq (k+1) A)(C:Addr)(us:45)(kw:List (Str×Value)):Zq k (A.under (.builtin "type.__call__" ⟨.ref C::us,kw⟩)):=
 ⟨r.hd,by have:=r.dp;rw[JU];lia,by have:=r.un;rw[Jp];lia⟩
def Zq.depth{k:Nat}{A:Around}(r:Zq k A):A.depth<recursionLimit:=by have:=r.dp;lia
def Zq.units{k:Nat}{A:Around}(r:Zq k A):A.units+64<cLine:=by have:=r.un;lia
def Zq.units0{k:Nat}(r:Zq k A):A.units<cLine:=by have:=r.un;lia
def jb:TA:=fun _ H Q=>Q [] H
def Wa(ta:TE)(tr:TA):TA:=fun U H Q=>ta U H fun x H1=>tr U H1 fun xs H2=>Q (x::xs) H2
section
variable{X:Cx}{e:Expr}{es:List Expr}{te:TE}{t:TA}{oj:Pos}
theorem Ze:PA X [] jb:=fun _ _ _ _ H Q I h=>Calls.spliced_nil ⟨[],H,I,.nil,h⟩
theorem Za(ha:PE X e te)(hr:PA X es t)(hs:starEach (e::es) X.env=111::starEach es X.env:=by rfl):PA X (e::es) (Wa te t):=by
 intro oj bJ s U H Q I h;rw[hs]
 show 50 (spliced (111::backTo oj (starEach es X.env))) _ _ s
 refine Calls.spliced_cons (thn (ha bJ s U H _ I h) fun u s1 ⟨x,H1,I1,r1,q1⟩=>?_);exact thn (hr oj bJ s1 U H1 _ I1 q1) fun us s2 ⟨xs,H2,I2,r2,q2⟩=>⟨x::xs,H2,I2,.cons r1 r2,q2⟩
inductive ZcY(xs:List V)(o:HO)(H:Hp)(Q:VK):Prop
 |mk (z:xs.length<=sizeLine) (k:∀p,H p=none->Q (.ref p) (upd H p o)):ZcY xs o H Q
def tTup(t:TA):TE:=fun U H Q=>t U H fun xs H1=>ZcY xs (.tup xs) H1 Q
def Zew(t:TA):TE:=fun U H Q=>t U H fun xs H1=>ZcY xs (.lst xs) H1 Q
theorem WA{x1}(h:PA X es t):PE X (.Tuple es x1 oj) (tTup t):=by
 intro bJ s U H Q I hq;refine wpAny_Tuple_spliced (thn (h oj bJ s U H _ I hq) fun us s1 ⟨xs,H1,I1,r,z,q⟩=>⟨by rw[<- r.length];exact z,?_⟩);have hf:H1 s1.heap.objs.size=none:=I1.hok.fresh (cP _);refine⟨.ref s1.heap.objs.size,upd H1 s1.heap.objs.size (.tup xs),I1.laid (t':=s1.toks) (fun b u e=>cU _ e) (cP _) ?_,rfl,q _ hf⟩;exact⟨z,us,r,⟨_,c8 _ rfl,rfl,_,rfl⟩⟩
theorem Yq(h:PA X es t):PE X (.List es oj) (Zew t):=by
 intro bJ s U H Q I hq;refine wpAny_List_spliced (thn (h oj bJ s U H _ I hq) fun us s1 ⟨xs,H1,I1,r,z,q⟩=>⟨by rw[<- r.length];exact z,?_⟩);have hf:H1 s1.heap.objs.size=none:=I1.hok.fresh (cP _);refine⟨.ref s1.heap.objs.size,upd H1 s1.heap.objs.size (.lst xs),I1.laid (t':=s1.toks) (fun b u e=>cU _ e) (cP _) ?_,rfl,q _ hf⟩;exact⟨z,us,0,r,c8 _ rfl⟩
end
abbrev Sp:=List V->Hp->VK->XK->Prop
abbrev CXT:=List Env->Hp->Shared->XK->Value->41
structure JG(P:Program)(w:World)(K:W.Frag)(mg:Str->67)(base:Heap)(A:Around)(outer:List Env)(s:Shared)(H:Hp):Prop where
 frames:A.frames=some outer
 mod:Mod K mg base
 bs:∀b o,base.get? b=some o->s.heap.get? b=some o/\H b=none
 bsz:base.objs.size<=s.heap.objs.size
 funs:s.heap.FunFrames base outer
 frf:∀b∈frs outer,H b=none
 hok:HOk P w H s.heap
 bare:AllBare s.gens
def CE(outer:List Env)(P:Program)(w:World)(H:Hp)(s:Shared)(Q:VK)(u:Value)(s':Shared):Prop:=
 ∃v H',s'.os=s.os/\AllBare s'.gens/\Un (frs outer) [] H H' s.heap s'.heap/\HOk P w H' s'.heap/\Z6 v u/\Q v H'
def CR(CX:CXT)(outer:List Env)(P:Program)(w:World)(H:Hp)(s:Shared)(Q:VK)(E:XK)(r:Result)(s':Shared):Prop:=
 match r with
 |.ok (.ret u)=>CE outer P w H s Q u s'
 |.ok _=>False
 |.error e=>CX outer H s E e s'
structure V7(P:Program)(w:World)(K:W.Frag)(mg:Str->67)(base:Heap)(CX:CXT)(k:Nat)(f:Addr)(fd:FuncData)(ps:54)(sp:Sp):Prop where
 len:∀vs H Q E,sp vs H Q E->vs.length=ps.length
 run:∀(A:Around) (outer:List Env) (s:Shared) (H:Hp) (args:Args) (us:45) (vs:List V) (Q:VK) (E:XK),Zq k A->JG P w K mg base A outer s H->BindsTo s fd args (ps.zip us)->ZE vs us->sp vs H Q E ->
  codeAny (model P w) A (.call (.ref f) args) (CR CX outer P w H s Q E) s
def JG.make(e:JG P w K mg base A outer s H)(C:Addr)(us:45)(kw:List (Str×Value)) :
  JG P w K mg base (A.under (.builtin "type.__call__" ⟨.ref C::us,kw⟩)) outer s H:=⟨by first|exact e.frames|(simpa[Around.under,Code.envs,Code.isFrame,pushEnvs] using e.frames),e.mod,e.bs,e.bsz,e.funs,e.frf,e.hok,e.bare⟩
def Inv.env0(I:43):JG X.prog X.w X.K X.mg X.base X.A X.stack s H:=
 ⟨I.ok.frames,I.ok.mod,I.bs,fh I.ok.bsz I.sz,I.stack,I.stkFree,I.hok,I.bare⟩
def Inv.after{Q:VK}{u:Value}(I:43)(h:CE X.stack X.prog X.w H s Q u s'):EP X bJ U Q u s':=by
 obtain⟨v,H',os,bare,un,hok,r,q⟩:=h;obtain⟨hh,g,d,t,OY⟩:=s';obtain rfl:OY=s.os:=os;exact⟨v,H',I.call (h':=hh) (g':=g) (d':=d) (t':=t) (ch:=[]) un hok bare (fun b z=>oh z 39),r,q⟩
def xU(sp:Sp)(pX:List V)(E:XK)(t:TA):TE:=fun U H Q=>t U H fun vs H1=>sp (vs++pX) H1 Q E
inductive ZcB(C:Addr)(m:Str)(x:V)(H:Hp)(B:Prop):Prop
 |mk (a dx:Addr) (fs:73) (h1:x=.ref a) (h2:H a=some (.ins C dx fs)) (h3:fs.lookup m=none) (k:B):ZcB C m x H B
def ZdO(C:Addr)(m:Str)(sp:Sp)(pX:List V)(E:XK)(ta:TE)(t:TA):TE:=fun U H Q=>ta U H fun x H1=>ZcB C m x H1 (t U H1 fun vs H2=>sp (x::(vs++pX)) H2 Q E)
def ZeD(C:Addr)(sp:Sp)(pX:List V)(E:XK)(t:TA):TE:=fun U H Q=>t U H fun vs H1=>∀x dx,H1 x=none->H1 dx=none->dx≠x ->
 sp (.ref x::(vs++pX)) (upd (upd H1 dx (.own x)) x (.ins C dx [])) (fun v H2=>v=.non/\Q (.ref x) H2) E
def Uc(K:W.Frag)(fd:FuncData)(ps:54)(ds:45):Prop:=
 ∀(s:Shared) (us:45),K.In s.heap->(us++ds).length=ps.length->BindsTo s fd ⟨us,[]⟩ (ps.zip (us++ds))
def Uc.all(h:∀us:45,us.length=ps.length->bindArgs fd ⟨us,[]⟩=pure (ps.zip us)):Uc K fd ps []:=fun s us _ hl=>by
 rw[gp] at hl ⊢;exact .of_eq (h us hl)
def qu(CX:CXT)(X:Cx)(E:XK):Prop:=∀(bJ:53) (U:St) (H:Hp) (s:Shared) (e:Value) (s':Shared),43->CX X.stack H s E e s'->X.xe e s'
section
variable{CX:CXT}{k:Nat}{f:Addr}{sp:Sp}{pX:List V}{ds:List Value}{E:XK}{x m:Str}{p apos:Pos}{o:Expr}{es:List Expr}{ta:TE}{t:TA}
theorem Zbd{Q:VK}{vs:List V}(F:120)(hr:Zq k X.A)(hb:Uc X.K fd ps ds)(hd:ZE pX ds)(hx:qu CX X E)
  (I:43) (r:ZE vs us) (h:sp (vs++pX) H Q E):38 (call (.ref f) us) (EP X bJ U Q) X.xe s:=by
 have r2:ZE (vs++pX) (us++ds):=r.append hd;have hl:(us++ds).length=ps.length:=by rw[<- r2.length];exact F.len _ _ _ _ h
 refine wpAny_call (gw (F.run X.A X.stack s H ⟨us,[]⟩ (us++ds) (vs++pX) Q E hr I.env0 (hb s us I.kIn hl) r2 h) fun r s' hq=>?_);cases r with
 |error e=>exact hx bJ U H s e s' I hq
 |ok fl=>
  cases fl with
  |ret u=>exact I.after hq
  |next=>exact False.elim hq
  |brk=>exact False.elim hq
  |cont=>exact False.elim hq
theorem zI(F:120)(hr:Zq k X.A)(hg:Gl X x)(hm:X.mg x=some (.ref f))(hk:W.keepIn X.K (.ref f)=true)(hb:Uc X.K fd ps ds)(hd:ZE pX ds)(hx:qu CX X E)
  (ha:PA X (e::es) t) (pI:109=false:=by left) (he:starEach (e::es) X.env=111::starEach es X.env:=by rfl) (pU:(backTo oj (starEach es X.env)).any (·.1)=false:=by rfl) :
  PE X (.Call (.Name x p) (e::es) [] oj) (xU sp pX E t):=by
 intro bJ s U H Q I h;refine ms (Kb I hg hm ?_ pI);refine W.callWith_K (h₀:=X.base) I.ok.mod.kin hk (thn (ha oj bJ s U H _ I h) fun us s1 ⟨vs,H1,I1,r,q⟩=>⟨I1.kIn,?_⟩) he pU;exact Zbd F hr hb hd hx I1 r q
theorem Vf(he:PE X o ta)(c:Cls X.K C)(hm:ZbN X.K C m f)(F:120)(hr:Zq k X.A)(hb:Uc X.K fd ps ds)(hd:ZE pX ds)(hx:qu CX X E)(ha:PA X (e::es) t)
  (o9:starEach (e::es) X.env=111::starEach es X.env:=by rfl) (pU:(backTo oj (starEach es X.env)).any (·.1)=false:=by rfl)
  (ht:eval (.Call (.Attribute o m apos) (e::es) [] oj) X.env=(do
   let ov <- eval o X.env
   standAt apos.atName
   let (f,first) <- holding [ov] (getMethod ov m pl)
   callWith oj f first (backTo oj (starEach (e::es) X.env)) (backToKw oj (keywordEach [] X.env))):=by rfl) :
  PE X (.Call (.Attribute o m apos) (e::es) [] oj) (ZdO C m sp pX E ta t):=by
 intro bJ s U H Q I h;refine W.methodCall_KW (pl:=pl) (thn (he bJ s U H _ I h) fun u s1 ⟨x,H1,I1,rx,a,dx,fs,ex,ea,l,q⟩=>?_) ht;subst ex;obtain rfl:u=Value.ref a:=rx;refine yb I1 ea c hm l ?_;refine W.callWith_K (first:=[.ref a]) (h₀:=X.base) I.ok.mod.kin hm.kp (thn (ha oj bJ s1 U H1 _ I1 q) fun us s2 ⟨vs,H2,I2,r,q2⟩=>⟨I2.kIn,?_⟩) o9 pU;exact Zbd (us:=.ref a::us) (vs:=.ref a::vs) F hr hb hd hx I2 (.cons rfl r) q2
structure Mk(K:W.Frag)(C f:Addr):Prop where
 makes:W.makesIn K C=true
 init:W.findIn K (.ref C) "__init__" = some (some (.ref f))
 fn:W.isFn K (.ref f)=true
 kp:W.keepIn K (.ref C)=true
theorem Zbj{Q:VK}{vs:List V}(M:Mk X.K C f)(F:120)(hr:Zq (k+1) X.A)(hb:Uc X.K fd ps ds)(hd:ZE pX ds)
  (hx:qu CX X E) (I:43) (r:ZE vs us)
  (h:∀x dx,H x=none->H dx=none->dx≠x->sp (.ref x::(vs++pX)) (upd (upd H dx (.own x)) x (.ins C dx [])) (fun v H2=>v=.non/\Q (.ref x) H2) E) :
  38 (call (.ref C) us) (EP X bJ U Q) X.xe s:=by
 have hq:=h 87 s.heap.objs.size (I.hok.fresh (ic _)) (I.hok.fresh (cP _)) (c9 (fR _));have I2:=Inv.made (C:=C) I;have r2:ZE (V.ref 87::(vs++pX)) (Value.ref 87::(us++ds)):=.cons rfl (r.append hd);have hl:(Value.ref 87::us++ds).length=ps.length:=by
  have e:=r2.length;rw[F.len _ _ _ _ hq] at e;exact e.symm
 refine wpAny_call (Zae (f:=f) I.kIn M.makes M.init (iz.mp M.fn) (gw (F.run _ X.stack _ _ ⟨Value.ref 87::us,[]⟩ (Value.ref 87::(us++ds)) _ _ E (hr.make C us []) (I2.env0.make C us []) (hb _ (Value.ref 87::us) I2.kIn hl) r2 hq) fun r s' Eh=>?_))
 cases r with
 |error e=>exact hx bJ U _ _ e s' I2 Eh
 |ok fl=>
  cases fl with
  |ret u=>
   obtain⟨v,H',I3,rv,ev,q3⟩:=I2.after Eh;subst ev;exact⟨rv,⟨V.ref 87,H',I3,rfl,q3⟩⟩
  |next=>exact False.elim Eh
  |brk=>exact False.elim Eh
  |cont=>exact False.elim Eh
theorem ZbY(M:Mk X.K C f)(F:120)(hr:Zq (k+1) X.A)(hg:Gl X x)(hm:X.mg x=some (.ref C))(hb:Uc X.K fd ps ds)(hd:ZE pX ds)(hx:qu CX X E)
  (ha:PA X (e::es) t) (pI:109=false:=by left) (he:starEach (e::es) X.env=111::starEach es X.env:=by rfl) (pU:(backTo oj (starEach es X.env)).any (·.1)=false:=by rfl) :
  PE X (.Call (.Name x p) (e::es) [] oj) (ZeD C sp pX E t):=by
 intro bJ s U H Q I h;refine ms (Kb I hg hm ?_ pI);refine W.callWith_K (h₀:=X.base) I.ok.mod.kin M.kp (thn (ha oj bJ s U H _ I h) fun us s1 ⟨vs,H1,I1,r,q⟩=>⟨I1.kIn,?_⟩) he pU;exact Zbj M F hr hb hd hx I1 r q
end
section
variable{CX:CXT}{k:Nat}{f:Addr}{ks:List Str}{sp:Sp}{E:XK}{x m:Str}{p apos ID:Pos}{o:Expr}{es:List Expr}{SH:List Keyword}{ta:TE}{t tk:TA}{nm:Option Str}
variable{g:List Value->List Value->List Value}{gV:List V->List V->List V}
end
structure Zz(N P:54)(sc:Scope):Prop where
 kind:sc.kind=.function
 co:sc.isCoroutine=false
 gen:sc.isGenerator=false
 nd:N.Nodup
 pre:N.take P.length=P
 par:∀x∈P,sc.names.lookup x=some .local\/sc.names.lookup x=some .cell
 nofree:∀y∈sc.names,y.2≠.free
def vQ{kindOf:Str->Option NameKind}{x:Str}:∀{binds:List (Str×Value)}{m:Str->67},(∀v,(x,v)∉binds)->bindL kindOf binds m x=m x
 |[],_,_=>rfl
 | (n,v)::r,m,h=>by
  unfold bindL;rw[vQ fun w hw=>h w (c7 _ hw)]
  split
  ·have:x≠n:=by rintro rfl;exact h v dC
   simp[this]
  ·rfl
def vK{kindOf:Str->Option NameKind}{x:Str}:∀{binds:List (Str×Value)}{m:Str->67},(∀v,(x,v)∉binds)->bindC kindOf binds m x=m x
 |[],_,_=>rfl
 | (n,v)::r,m,h=>by
  unfold bindC;rw[vK fun w hw=>h w (c7 _ hw)]
  split
  ·rfl
  ·have:x≠n:=by rintro rfl;exact h v dC
   simp[this]
def vE{kindOf:Str->Option NameKind}{x:Str}{v:Value}:∀{P:54}{vs:45}{i:Nat}{m:Str->67},P.Nodup->P[i]?=some x->vs[i]?=some v->kindOf x=some .local ->
  bindL kindOf (P.zip vs) m x=some v
 |[],_,_,_,_,h,_,_=>by simp at h
 |_::_,[],_,_,_,_,h,_=>by simp at h
 |p::P,w::vs,0,m,nd,h1,h2,hk=>by
  simp at h1 h2;subst h1;subst h2
  show bindL kindOf ((p,w)::P.zip vs) m p=_
  unfold bindL;rw[vQ fun v hv=>(fY.mp nd).1 (iN hv).1,og hk];simp
 |p::P,w::vs,i+1,m,nd,h1,h2,hk=>by
  show bindL kindOf ((p,w)::P.zip vs) m x=_
  unfold bindL;exact vE (i:=i) (fY.mp nd).2 (by simpa using h1) (by simpa using h2) hk
def vh{kindOf:Str->Option NameKind}{x:Str}{v:Value}:∀{P:54}{vs:45}{i:Nat}{m:Str->67},P.Nodup->P[i]?=some x->vs[i]?=some v->kindOf x≠some .local ->
  bindC kindOf (P.zip vs) m x=some v
 |[],_,_,_,_,h,_,_=>by simp at h
 |_::_,[],_,_,_,_,h,_=>by simp at h
 |p::P,w::vs,0,m,nd,h1,h2,hk=>by
  simp at h1 h2;subst h1;subst h2
  show bindC kindOf ((p,w)::P.zip vs) m p=_
  unfold bindC;rw[vK fun v hv=>(fY.mp nd).1 (iN hv).1,n8 hk];simp
 |p::P,w::vs,i+1,m,nd,h1,h2,hk=>by
  show bindC kindOf ((p,w)::P.zip vs) m x=_
  unfold bindC;exact vh (i:=i) (fY.mp nd).2 (by simpa using h1) (by simpa using h2) hk
def start(N:54)(vs:List V):St:=vs.map some++η (N.length-vs.length) none
def j3(CX:CXT)(P:Program)(w:World)(K:W.Frag)(mg:Str->67)(base:Heap)(N:54)(qual:Str)(scope:Scope)(f:Addr)(cd:Value)(A:Around)(outer:List Env)(s:Shared)(H:Hp)(E:XK):Cx where
 prog:=P
 w:=w
 K:=K
 mg:=mg
 base:=base
 A:=A.deeper (envOfC qual scope s.heap.objs.size f cd)
 N:=N
 s₀:=s
 H₀:=H
 env:=envOfC qual scope s.heap.objs.size f cd
 outer:=outer
 stack:=envOfC qual scope s.heap.objs.size f cd::outer
 ex:=[]
 calm:=true
 fn:=fun _=>true
 pn:=[]
 xe:=fun e s'=>wpAny (model P w) (A.deeper (envOfC qual scope s.heap.objs.size f cd)) (leaving (envOfC qual scope s.heap.objs.size f cd) e) (fun _ HL=>CX outer H s E e HL) (fun e' HL=>CX outer H s E e' HL) s'
def k4{x:Str}(h:sc.names.lookup x=some .cell):∃c,(cellsFrom n sc.names []).lookup x=some c:=by
 have q:=W.cellsFrom_some sc.names n [] (.inl h);exact fG.mp q
def QX{CX:CXT}{N:54}{f:Addr}{cd:Value}{s1:Shared}{E:XK}{vs:List V}
  (S:Zz N ps scope) (hd:A.handled=none) (e0:JG P w K mg base A outer s H) (hl:vs.length=ps.length) (r:ZE vs us)
  (x:InCallC s s.heap.objs.size (bindL (envOfC qual scope s.heap.objs.size f cd).kindOf (ps.zip us) fun _=>none) (cellsFrom 87 scope.names []) (bindC (envOfC qual scope s.heap.objs.size f cd).kindOf (ps.zip us) fun _=>none) s1) :
  Inv (j3 CX P w K mg base N qual scope f cd A outer s H E) [] (start N vs) H s1:=by
 have pU:ps.length<=N.length:=by have:=dt ζ S.pre;rw[dB] at this;lia
 obtain⟨h1,tk,rfl,hk⟩:=x.done;have CZ:∀b:Addr,b∉(j3 CX P w K mg base N qual scope f cd A outer s H E).ex:=fun b z=>oh (show b∈([]:List Addr) from z) 39;refine⟨⟨e0.mod,S.kind,rfl,rfl,cP _,fun y z c h1 h2=>?_,fun y hy=>?_,fun y c _ h=>?_,fun _=>hd,Around.frames_deeper e0.frames,.inr ⟨rfl,rfl⟩,fun b z=>oh z (CZ b),e0.bs,e0.bsz,fun b _ _=>CZ b,fun b z=>oh z (CZ b),e0.funs,e0.frf⟩,rfl,e0.bare,Un.kept hk,⟨_,x.toInCall.ns,fun i y v h1 h2 h3=>?_⟩,fun y c h=>⟨_,x.cell y c h⟩,e0.hok.fresh (cP _),fun y c h=>?_,fun p hp=>oh (show p∈([]:53) from hp) 39,e0.hok.kept hk,?_⟩
 ·exact name_of_addr x.apart (gy h1) (gy h2)
 ·have hy:scope.names.lookup y=some .cell\/scope.names.lookup y=some .free:=hy;rcases hy with hy|hy
  ·exact k4 hy
  ·exact oh rfl (S.nofree _ (gy hy))
 ·exact iL (x.above y c (gy h))
 ·have hi:i<vs.length:=by
   unfold start at h2
   by_cases hi:i<vs.length
   ·exact hi
   ·rw[lC (by simpa using hi)] at h2;rw[List.getElem?_replicate] at h2
    split at h2<;>cases h2
  have ha:vs[i]?=some v:=by
   unfold start at h2;rw[gJ (by simpa using hi),dz] at h2;cases e:vs[i]? with
   |none=>rw[e] at h2;cases h2
   |some a=>rw[e] at h2;cases h2;rfl
  obtain⟨u,hu,rv⟩:=r.get ha;have hp:ps[i]?=some y:=by
   rw[<- S.pre,List.getElem?_take_of_lt 40];exact h1
  have Nz:ps.Nodup:=by rw[<- S.pre];exact S.nd.sublist (List.take_sublist _ _)
  refine⟨u,rv,?_⟩;rcases S.par y (cY hp) with k|k
  ·exact .inl ⟨k,vE Nz hp hu k⟩
  ·obtain⟨c,e⟩:=k4 (n:=s.heap.objs.size+1) k;refine .inr ⟨.inl k,c,e,?_⟩;have q:=x.cell y c e;rw[vh Nz hp hu (by show scope.names.lookup y≠_;rw[k];decide)] at q;exact q
 ·exact e0.hok.fresh (iL (x.above y c (gy h)))
 ·unfold start
  show _=N.length
  rw[cZ,cS,my];lia
def ZdK{CX:CXT}{k:Nat}{f:Addr}{name:Str}{dV kV doc pm bK ct:Value}
  {N:54}{sp:Sp} (lk:K.lookup f=some ⟨oc,od,.func (W.fnOf name qual uz oX scope dV kV doc pm an bK ct),osl⟩) (tO:W.codeIn K bK qual=true) (S:Zz N ps scope)
  (len:∀vs H Q E,sp vs H Q E->vs.length=ps.length)
  (pH:∀(A:Around) (outer:List Env) (s:Shared) (H:Hp) (vs:List V) (Q:VK) (E:XK),Zq k (A.deeper (envOfC qual scope s.heap.objs.size f bK))->sp vs H Q E -> ∃t,PSs (j3 CX P w K mg base N qual scope f bK A outer s H E) oX t/\t { nx:=fun _ H'=>Q .non H',rt:=Q } (start N vs) H) :
  V7 P w K mg base CX (k+1) f (W.fnOf name qual uz oX scope dV kV doc pm an bK ct) ps sp:=by
 refine⟨len,fun A outer s H args us vs Q E hr e0 hb r AN=>?_⟩;have hl:=len _ _ _ _ AN;have KX:K.In s.heap:=e0.mod.kin.keeps fun b o e=>(e0.bs b o e).1;have Ep:s.heap.NoLimit:=e0.mod.nolimit.keeps fun b o e=>(e0.bs b o e).1;have Er:∀y∈ps.zip us,scope.names.lookup y.1=some .local\/(scope.names.lookup y.1=some .cell/\((cellsFrom 87 scope.names []).lookup y.1).isSome=true):=fun⟨n,v⟩ hy=>by
  rcases S.par n (iN hy).1 with q|q
  ·exact .inl q
  ·exact .inr ⟨q,W.cellsFrom_some _ _ _ (.inl q)⟩
 refine codeAny_call_function hr.depth (KX _ _ lk) rfl S.co S.gen rfl (W.codeRec_of KX tO) (hb _ _ _ _ ?_);refine wpAny_newFunctionEnv_cells S.kind Er fun env he s1 x=>?_;subst he;refine⟨Ep.keeps x.toInCall.keep,codeAny_func ?_⟩;obtain⟨t,ht,hq⟩:=pH A outer s H vs Q E (hr.deeper _) AN;have I:Inv (j3 CX P w K mg base N qual scope f bK A outer s H E) [] (start N vs) H s1:=QX S hr.hd e0 hl r x;refine ft (ht [] s1 (start N vs) H _ I hq) (fun fl s' hs=>?_) fun e s' hs=>hs;have fin:∀{σ':St}{H':Hp}{v:V}{u:Value},Inv (j3 CX P w K mg base N qual scope f bK A outer s H E) [] σ' H' s'->Z6 v u->Q v H'->CE outer P w H s Q u s':=
  fun {σ' H' v u} J rv q=>⟨v,H',J.os,J.bare,J.base,J.hok,rv,q⟩
 cases fl with
 |ret u=>
  obtain⟨v,σ',H',J,rv,q⟩:=hs;exact fin J rv q
 |next=>
  obtain⟨σ',H',J,q⟩:=hs;exact fin (v:=V.non) (u:=Value.none) J rfl q
 |brk=>
  obtain⟨_,_,_,q⟩:=hs;exact False.elim q
 |cont=>
  obtain⟨_,_,_,q⟩:=hs;exact False.elim q
end L2
variable{sp:L2.Sp}{CX:L2.CXT}
namespace L2
open PySem PySem.Spec PyProof.Rows
section
variable{x:Str}{p:Pos}{es:List Expr}{t:TA}{id:String}{r:List V->Hp->VK->Prop}
def tCB(r:List V->Hp->VK->Prop)(t:TA):TE:=fun U H Q=>t U H fun vs H1=>r vs H1 Q
theorem Zl(hc:Yy X (.builtin id) r)(hg:Gl X x)(hm:X.mg x=none)(hv:bootBuiltins x=some (.builtin id))(ha:PA X (e::es) t)(hn:x ≠ "__name__" := by left)(pI:109=false:=by left)
  (he:starEach (e::es) X.env=111::starEach es X.env:=by rfl) (pU:(backTo oj (starEach es X.env)).any (·.1)=false:=by rfl):PE X (.Call (.Name x p) (e::es) [] oj) (tCB r t):=by
 intro bJ s U H Q I h;refine ms (VA I hg hm hv ?_ hn pI);exact PyProof.Rows.callWith_builtin1 (thn (ha oj bJ s U H _ I h) fun us s1 ⟨vs,H1,I1,r1,q1⟩=>hc bJ s1 U H1 vs us Q I1 r1 q1) he pU
theorem YK(hc:Yy X (.type T) r)(hg:Gl X x)(hm:X.mg x=none)(hv:bootBuiltins x=some (.type T))(ha:PA X (e::es) t)(hn:x ≠ "__name__" := by left)(pI:109=false:=by left)
  (he:starEach (e::es) X.env=111::starEach es X.env:=by rfl) (pU:(backTo oj (starEach es X.env)).any (·.1)=false:=by rfl):PE X (.Call (.Name x p) (e::es) [] oj) (tCB r t):=by
 intro bJ s U H Q I h;refine ms (VA I hg hm hv ?_ hn pI);exact iM (thn (ha oj bJ s U H _ I h) fun us s1 ⟨vs,H1,I1,r1,q1⟩=>hc bJ s1 U H1 vs us Q I1 r1 q1) he pU
end
end L2
namespace HT
open PySem PyProof.Rows
section
open PySem.SeqAt
open PySem.AutoSeq1 (wpAny_loadPart')
open PySem.MeetsSeq PySem.MeetsSeq2 PySem.MeetsSeq3
end
def sIx(n d:Nat):121->Nat
 |none=>d
 |some v=>if v<0 then(v+(n:Int)).toNat else min v.toNat n
def sIx_none(n d:Nat):sIx n d none=d:=rfl
def sIx_nat(n d k:Nat):sIx n d (some (k:Int))=min k n:=by
 show(if(k:Int)<0 then((k:Int)+(n:Int)).toNat else min (k:Int).toNat n)=min k n
 rw[n8 40,fu]
end HT
namespace L2
open PySem PySem.Spec PyProof.Rows
abbrev TO:=St->Hp->(121->Hp->Prop)->Prop
def PO(X:Cx)(e:Option Expr)(t:TO):Prop:=
 ∀(bJ:53) (s:Shared) (U:St) (H:Hp) (Q:121->Hp->Prop),43->t U H Q ->
  38 (evalPart e X.env) (fun u s'=>∃o H',89 H' s'/\IsPart u o/\Q o H') X.xe s
def ZbQ:TO:=fun _ H Q=>Q none H
inductive Zcv(x:V)(H:Hp)(Q:121->Hp->Prop):Prop
 |mk (i:Int) (h:x=.int i) (k:Q (some i) H):Zcv x H Q
def Zea(t:TE):TO:=fun U H Q=>t U H fun x H1=>Zcv x H1 Q
section
variable{lo hi:Option Expr}{tl th:TO}{p2:Pos}
theorem X0:PO X none ZbQ:=by
 intro bJ s U H Q I h;rw[evalPart_none];exact cO ⟨none,H,I,.none,h⟩
theorem YG(h:PE X e te):PO X (some e) (Zea te):=by
 intro bJ s U H Q I hw;rw[evalPart_some];refine thn (h bJ s U H _ I hw) fun u s1 ⟨x,H1,I1,r1,q1⟩=>?_;obtain⟨i,rfl,q⟩:=q1;obtain⟨t,rfl⟩:=r1;exact⟨some i,H1,I1,.int i t,q⟩
def SlR(X:Cx)(r:V->121->121->Hp->VK->Prop):Prop:=
 ∀(bJ:53) (s:Shared) (U:St) (H:Hp) (x:V) (v vl vu:Value) (lo hi:121) (sl:Addr) (Q:VK),43->Z6 x v->s.heap.IsSliceOf sl vl vu .none->IsPart vl lo->IsPart vu hi->r x lo hi H Q ->
  ∃T id,typeLookup (.type T) "__getitem__" = pure (some (.builtin id))/\s.TypeIs v T/\38 (getItem v (.ref sl)) (EP X bJ U Q) X.xe s
def tSl(r:V->121->121->Hp->VK->Prop)(te:TE)(tl th:TO):TE:=fun U H Q=>te U H fun x H1=>tl U H1 fun l H2=>th U H2 fun u H3=>r x l u H3 Q
theorem YW(hr:SlR X r)(he:PE X e te)(hl:PO X lo tl)(hu:PO X hi th):PE X (.Subscript e (.Slice lo hi none p2) oj) (tSl r te tl th):=by
 intro bJ s U H Q I h;refine Subscript_ (thn (he bJ s U H _ I h) fun v s1 ⟨x,H1,I1,r1,q1⟩=>?_);refine wpAny_Slice (thn (hl bJ s1 U H1 _ I1 q1) fun vl s2 ⟨l,H2,I2,pl,q2⟩=>thn (hu bJ s2 U H2 _ I2 q2) fun vu s3 ⟨u,H3,I3,pu,q3⟩=>?_);rw[evalPart_none];refine cO ?_;have I4:89 H3 { s3 with heap:=s3.heap.push { cls:=.type "slice",data:=.fields #[vl,vu,.none] } }:=I3.kept (t':=s3.toks) fun b ob q=>cU _ q;obtain⟨T,id,hT,ht,hg⟩:=hr bJ { s3 with heap:=s3.heap.push { cls:=.type "slice",data:=.fields #[vl,vu,.none] } } U H3 x v vl vu l u s3.heap.objs.size Q I4 r1 (Heap.IsSliceOf.new ..) pl pu q3
 show 38 (subscriptTail e (.Slice lo hi none p2) v (.ref s3.heap.objs.size)) (EP X bJ U Q) X.xe { s3 with heap:=s3.heap.push { cls:=.type "slice",data:=.fields #[vl,vu,.none] } }
 exact tail_any (ops:=[.ref s3.heap.objs.size,v]) ht hT hg (by with_unfolding_all rfl)
def XN(xs:List V)(lo hi:121):List V:=(xs.drop (HT.sIx xs.length 0 lo)).take (HT.sIx xs.length xs.length hi-HT.sIx xs.length 0 lo)
theorem kN(xs:List V)(lo hi:121):(XN xs lo hi).length<=xs.length:=by
 unfold XN;rw[dB,gL];lia
end
end L2
variable{ts:L2.TO}
namespace L2
open PySem PySem.Spec PyProof.Rows
def ixN(n:Nat)(i:Int):68:=if 0<=i then(if i<n then some i.toNat else none) else if -(n:Int)<=i then some (i+n).toNat else none
def atI(xs:List α)(i:Int):Option α:=(ixN xs.length i).bind fun j=>xs[j]?
def Zcj{i:Int}(h:ixN n i=some j):seqIndex? i n=some j/\j<n/\-(n:Int)<=i/\i<n:=by
 unfold ixN at h
 by_cases h0:0<=i
 ·rw[og h0] at h
  by_cases h1:i<n
  ·rw[og h1] at h;have e:i.toNat=j:=eZ h;exact⟨by rw[seqIndex_of h0 h1,e],by lia,by lia,h1⟩
  ·rw[n8 h1] at h;cases h
 ·rw[n8 h0] at h
  by_cases h1:-(n:Int)<=i
  ·rw[og h1] at h;have e:(i+n).toNat=j:=eZ h;exact⟨by rw[seqIndex_neg 40 h1,e],by lia,h1,by lia⟩
  ·rw[n8 h1] at h;cases h
def Ka{xs:List α}{i:Int}{v:α}(h:atI xs i=some v):∃j,seqIndex? i xs.length=some j/\xs[j]?=some v/\j<xs.length/\-(xs.length:Int)<=i/\i<xs.length:=by
 unfold atI at h;cases e:ixN xs.length i with
 |none=>rw[e] at h;cases h
 |some j=>
  rw[e] at h;obtain⟨h1,h2,h3,h4⟩:=Zcj e;exact⟨j,h1,h,h2,h3,h4⟩
def Zn{xs:List α}{v:α}(h:xs[j]?=some v):atI xs (j:Int)=some v:=by
 have hj:j<xs.length:=(dk.mp h).1;have e:ixN xs.length (j:Int)=some j:=by
  unfold ixN;rw[og 40,og 40];simp
 unfold atI;rw[e];exact h
def atI_last(xs:List α)(v:α):atI (xs++[v]) (-1)=some v:=by
 have hl:(xs++[v]).length=xs.length+1:=by simp
 have e:ixN (xs++[v]).length (-1)=some xs.length:=by
  unfold ixN;rw[hl,n8 61,og 40]
  congr 1
  lia
 unfold atI;rw[e]
 show(xs++[v])[xs.length]?=some v
 simp
def Zcc(b:Expr):Prop:=∀o i,subscripted b false o i=operate [o,i] (getItem o i)
def IxR(X:Cx)(r:R2):Prop:=
 ∀(oB pf:Expr) (bJ:53) (s:Shared) (U:St) (H:Hp) (x y:V) (v u:Value) (Q:VK),43->Z6 x v->Z6 y u->r x y H Q ->
  subscripted pf false v u=operate [v,u] (getItem v u)->38 (subscriptTail oB pf v u) (EP X bJ U Q) X.xe s
def MtR(X:Cx)(id:String)(r:V->List V->Hp->VK->Prop):Prop:=
 ∀(bJ:53) (s:Shared) (U:St) (H:Hp) (x:V) (xs:List V) (v:Value) (us:45) (Q:VK),43->Z6 x v->ZE xs us->r x xs H Q ->
  38 (call (.builtin id) (v::us)) (EP X bJ U Q) X.xe s
section
variable{a b:Expr}{ta tb:TE}
theorem ZJ{r:R2}(hr:IxR X r)(ha:PE X a ta)(hb:PE X b tb)(hs:Zcc b):PE X (.Subscript a b oj) (tOp r ta tb):=by
 intro bJ s U H Q I h;exact Subscript_ (Zc8 ha hb I h fun v u s2 x y H2 I2 rx ry q=>hr a b bJ s2 U H2 x y v u Q I2 rx ry q (hs _ _))
inductive ZaH(K:W.Frag)(x:V)(y:V)(H:Hp)(Q:VK):Prop
 |mk (p:_) (xs:_) (i:_) (v:_) (h0:x=.ref p) (h1:y=.int i) (h2:SqL K H p xs) (h3:atI xs i=some v) (h4:Q v H):ZaH K x y H Q
def ZbT(K:W.Frag):R2:=fun x y H Q=>ZaH K x y H Q
inductive Q2(K:W.Frag)(x:V)(y:V)(H:Hp)(Q:VK):Prop
 |mk (p:_) (xs:_) (i:_) (v:_) (h0:x=.ref p) (h1:y=.int i) (h2:SqT K H p xs) (h3:atI xs i=some v) (h4:Q v H):Q2 K x y H Q
def ZeP(K:W.Frag):R2:=fun x y H Q=>Q2 K x y H Q
theorem Zco:IxR X (ZbT X.K):=by
 intro oB pf bJ s U H x y v u Q I rx ry h hs;obtain⟨p,xs,i,z,rfl,rfl,hq,he,q⟩:=h;cases rx;obtain⟨t,rfl⟩:=ry;obtain⟨oi,r,pl,hz⟩:=I.list hq;obtain⟨j,h1,h2,h3,h4,h5⟩:=Ka he;obtain⟨w,ew,tH⟩:=r.get h2;have hl:=r.length;have hn:=yV;have fin:EP X bJ U Q w s:=⟨z,H,I,tH,q⟩
 by_cases h0:0<=i
 ·have hj:i.toNat=j:=by
   rw[seqIndex_of h0 h5] at h1;exact eZ h1
  exact item_listR pl.isList h0 40 (by rw[hj];simpa using ew) fin hs
 ·have hj:(i+(oi.toArray.size:Int)).toNat=j:=by
   rw[seqIndex_neg 40 h4] at h1;rw[eM,<- hl];exact eZ h1
  exact subscriptTail_builtinR (x:=w) pl.isList.typeIs slot_list_getitem.lookup
   (wpAny_getItem_list_neg (Q:=fun r s'=>r=w/\EP X bJ U Q r s') pl.isList 40 (by rw[eM]<;>lia) 40 (by rw[hj];simpa using ew) ⟨rfl,fin⟩) hs
theorem ZcS:IxR X (ZeP X.K):=by
 intro oB pf bJ s U H x y v u Q I rx ry h hs;obtain⟨p,xs,i,z,rfl,rfl,hq,he,q⟩:=h;cases rx;obtain⟨t,rfl⟩:=ry;obtain⟨oi,r,pl,hz⟩:=I.tuple hq;obtain⟨j,h1,h2,h3,h4,h5⟩:=Ka he;obtain⟨w,ew,tH⟩:=r.get h2;have hl:=r.length;have hn:=yV;have fin:EP X bJ U Q w s:=⟨z,H,I,tH,q⟩;exact subscriptTail_builtinR (x:=w) pl.typeIs slot_tuple_getitem.lookup
  (getItem_tuple (j:=j) (Q:=fun r s'=>r=w/\EP X bJ U Q r s') pl 40 40 (by rw[eM,<- hl];exact h1) (by simpa using ew) ⟨rfl,fin⟩) hs
theorem jD(lo hi:121)(n:Nat):(sliceBounds lo hi none n).1=((HT.sIx n 0 lo:Nat):Int)/\(sliceBounds lo hi none n).2.1=((HT.sIx n n hi:Nat):Int)/\(sliceBounds lo hi none n).2.2=1:=by
 refine⟨?_,?_,rfl⟩
 ·cases lo with
  |none=>simp[sliceBounds,HT.sIx]
  |some i=>
   simp only[sliceBounds,HT.sIx,Option.getD_none,show(1:Int)>0 by left,dq]
   by_cases h:i<0
   ·simp only[h,dq]<;>lia
   ·simp only[h,cX]<;>lia
 ·cases hi with
  |none=>simp[sliceBounds,HT.sIx]
  |some i=>
   simp only[sliceBounds,HT.sIx,Option.getD_none,show(1:Int)>0 by left,dq]
   by_cases h:i<0
   ·simp only[h,dq]<;>lia
   ·simp only[h,cX]<;>lia
theorem xG(oi:45)(lo hi:121):slicePick oi.toArray lo hi none=((oi.drop (HT.sIx oi.length 0 lo)).take (HT.sIx oi.length oi.length hi-HT.sIx oi.length 0 lo)).toArray:=by
 obtain⟨h1,h2,h3⟩:=jD lo hi oi.toArray.size;unfold slicePick;rw[h1,h2,h3];simp only[sliceRange_one,pick_run,eM]<;>rfl
inductive Zah(K:W.Frag)(x:V)(lo:121)(hi:121)(H:Hp)(Q:VK):Prop
 |mk (a:_) (xs:_) (h0:x=.ref a) (h1:SqL K H a xs) (h2:∀p,H p=none->Q (.ref p) (upd H p (.lst (XN xs lo hi)))):Zah K x lo hi H Q
def Zec(K:W.Frag):V->121->121->Hp->VK->Prop:=fun x lo hi H Q=>Zah K x lo hi H Q
theorem Zbu:SlR X (Zec X.K):=by
 intro bJ s U H x v vl vu lo hi sl Q I rx hs pl pu h;obtain⟨a,xs,rfl,hx,q⟩:=h;cases rx;obtain⟨oi,r,ht,hz⟩:=I.list hx;have oC:=r.length;refine⟨"list",_,slot_list_getitem.lookup,ht.isList.typeIs,?_⟩;refine wpAny_getItem_list_slice ht.isList hs pl pu .none 39 ?_ (by rw[eM]<;>lia);rw[xG,<- oC];refine⟨.ref s.heap.objs.size,_,I.laid (t':=s.toks) (o:=.lst (XN xs lo hi)) (fun b ob q=>cU _ q) (cP _) ?_,rfl,q _ (I.hok.fresh (cP _))⟩;exact⟨fh (kN xs lo hi) hz,_,0,(r.drop (HT.sIx xs.length 0 lo)).take (HT.sIx xs.length xs.length hi-HT.sIx xs.length 0 lo),c8 _ rfl⟩
theorem ji:Yy X (.builtin "len") (fun xs H Q=>∃p ys,xs=[.ref p]/\(SqL X.K H p ys\/SqT X.K H p ys)/\Q (.int ys.length) H):=by
 intro bJ s U H xs us Q I r h;obtain⟨p,ys,rfl,hq,q⟩:=h;obtain⟨u,rfl,rx⟩:=XU r;cases rx;have hn:=yV;rcases hq with hq|hq
 ·obtain⟨oi,r',pl,hz⟩:=I.list hq;have oC:=r'.length;exact Calls.call_len_list pl.isList (by simp only[eM]<;>lia) ⟨.int ys.length,H,I.tok _,⟨s.toks+1,by rw[eM,oC]⟩,q⟩
 ·obtain⟨oi,r',pl,hz⟩:=I.tuple hq;have oC:=r'.length;exact len_tuple pl (by simp only[eM]<;>lia) ⟨.int ys.length,H,I.tok _,⟨s.toks+1,by rw[eM,oC]⟩,q⟩
theorem ju:Yy X (.builtin "len") (fun xs H Q=>∃z,xs=[.str z]/\z.length<=sizeLine/\Q (.int z.length) H):=by
 intro bJ s U H xs us Q I r h;obtain⟨z,rfl,hz,q⟩:=h;obtain⟨u,rfl,t,rfl⟩:=XU r;have hn:=yV;exact len_str 40 ⟨.int z.length,H,I.tok _,⟨_,rfl⟩,q⟩
theorem Yy.or{f:Value}{r:List V->Hp->VK->Prop}(h:Yy X f r)(h':Yy X f r'):Yy X f (fun xs H Q=>r xs H Q\/r' xs H Q):=by
 intro bJ s U H xs us Q I rs q;rcases q with q|q
 ·exact h bJ s U H xs us Q I rs q
 ·exact h' bJ s U H xs us Q I rs q
def tyV(K:W.Frag)(T:String)(x:V)(H:Hp):Prop:=match x with
 |.str _=>T = "str"
 |.int _=>T = "int"
 |.ref p=>(T = "list" /\ ∃xs,SqL K H p xs)\/(T = "tuple" /\ ∃o,K.lookup p=some o/\o.cls=.type "tuple" /\ o.dict=none) \/
   (T = "dict" /\ ((∃kvs,H p=some (.dK kvs))\/∃kvs,H p=some (.dT kvs)))\/(T = "set" /\ ∃S n,H p=some (.set S n))
 |_=>False
theorem Zat{x:V}{v:Value}(I:43)(r:Z6 x v)(ty:tyV X.K T x H) :
  s.TypeIs v T/\∀a,v=.ref a->∃ob,s.heap.get? a=some ob/\ob.dict=none:=by
 cases x with
 |str z=>
  obtain⟨t,rfl⟩:=r;cases (show T = "str" from ty);exact⟨typeIs_str s z t,fun _ e=>nomatch e⟩
 |int i=>
  obtain⟨t,rfl⟩:=r;cases (show T = "int" from ty);exact⟨typeIs_int s i t,fun _ e=>nomatch e⟩
 |ref p=>
  cases r;rcases ty with⟨rfl,xs,hq⟩|⟨rfl,o,hk,hc,hd⟩|⟨rfl,hk⟩|⟨rfl,S,n,hk⟩
  ·obtain⟨oi,_,pl,_⟩:=I.list hq;refine⟨pl.isList.typeIs,fun a e=>?_⟩;cases e;obtain⟨o,n,e,c,hd,_⟩:=pl;exact⟨o,e,hd⟩
  ·refine⟨⟨o,I.kIn p o hk,hc⟩,fun a e=>?_⟩;cases e;exact⟨o,I.kIn _ o hk,hd⟩
  ·have z:∃o,s.heap.get? p=some o/\o.ExactDict:=by
    rcases hk with⟨kvs,hk⟩|⟨kvs,hk⟩
    ·obtain⟨_,_,_,_,o,_,_,e,ex,_⟩:=I.hok p _ hk;exact⟨o,e,ex⟩
    ·obtain⟨_,_,_,_,o,_,_,e,ex,_⟩:=I.hok p _ hk;exact⟨o,e,ex⟩
   obtain⟨o,e,ex⟩:=z;refine⟨⟨o,e,ex.1⟩,fun a e2=>?_⟩;cases e2;exact⟨o,e,ex.2.1⟩
  ·obtain⟨o,_,_,_,e,ex,_⟩:=I.hok p _ hk;refine⟨⟨o,e,ex.1⟩,fun a e2=>?_⟩;cases e2;exact⟨o,e,ex.2.1⟩
 |_=>exact False.elim ty
def tBM0(K:W.Frag)(T:String)(r:V->List V->Hp->VK->Prop)(to:TE):TE:=fun U H Q=>to U H fun x H1=>tyV K T x H1/\r x [] H1 Q
def tBM(K:W.Frag)(T:String)(r:V->List V->Hp->VK->Prop)(to:TE)(t:TA):TE:=fun U H Q=>to U H fun x H1=>tyV K T x H1/\t U H1 fun xs H2=>r x xs H2 Q
variable{o:Expr}{es:List Expr}{to:TE}{t:TA}{name:Str}{apos cpos:Pos}{id:String}{r:V->List V->Hp->VK->Prop}
theorem ZdE(pa:PlainAttrs T)(slot:Slot T name id)(BJ:typeOf (.builtin id)=pure (.type "method_descriptor"))(hm:MtR X id r)(ho:PE X o to)
  (pK:attributeBase o name X.env (eval o X.env)=eval o X.env:=by rfl) (pO:(apos.endLine==cpos.line)=true:=by rfl):PE X (.Call (.Attribute o name apos) [] [] cpos) (tBM0 X.K T r to):=by
 intro bJ s U H Q I h;refine wpAny_Call_method0_late pK pO (thn (ho bJ s U H _ I h) fun v s1 ⟨x,H1,I1,r1,ty,q1⟩=>?_);obtain⟨h1,h2⟩:=Zat I1 r1 ty;exact⟨T,id,pa,slot,BJ,h1,h2,Calls.callWith_builtin rfl (PySem.evalArgs_none (hm bJ s1 U H1 x [] v [] Q I1 r1 .nil q1))⟩
theorem Wk(pa:PlainAttrs T)(slot:Slot T name id)(BJ:typeOf (.builtin id)=pure (.type "method_descriptor"))(hm:MtR X id r)(ho:PE X o to)(ha:PA X (e::es) t)
  (pK:attributeBase o name X.env (eval o X.env)=eval o X.env:=by rfl)
  (HZ:((backTo cpos (starEach (e::es) X.env)).all (fun x=>!x.1)&&(backToKw cpos (keywordEach [] X.env)).all (fun x=>x.1.isSome) && decide ((e::es).length+([]:List Keyword).length+(if([]:List Keyword).isEmpty then 0 else 1)<30))=true:=by rfl)
  (pO:(apos.endLine==cpos.line)=true:=by rfl) (hs:starEach (e::es) X.env=111::starEach es X.env:=by rfl) (B4:(backTo cpos (starEach es X.env)).any (·.1)=false:=by rfl) :
  PE X (.Call (.Attribute o name apos) (e::es) [] cpos) (tBM X.K T r to t):=by
 intro bJ s U H Q I h;refine wpAny_Call_method_late pK HZ pO rfl (thn (ho bJ s U H _ I h) fun v s1 ⟨x,H1,I1,r1,ty,q1⟩=>?_);obtain⟨h1,h2⟩:=Zat I1 r1 ty;refine⟨T,id,pa,slot,BJ,h1,h2,?_⟩;have hA:=ha cpos bJ s1 U H1 _ I1 q1;rw[hs] at hA ⊢;refine Calls.callWith_builtin (by show(false||(backTo cpos (starEach es X.env)).any (·.1))=false;rw[B4]<;>rfl) (Calls.evalArgs_plain ?_);exact thn hA fun us s2 ⟨vs,H2,I2,r2,q2⟩=>hm bJ s2 U H2 x vs v us Q I2 r1 r2 q2
end
def MtM(X:Cx)(id:String)(r:V->List V->Hp->VK->Prop):Prop:=
 ∀(bJ:53) (s:Shared) (U:St) (H:Hp) (x:V) (xs:List V) (v:Value) (us:45) (Q:VK),43->Z6 x v->ZE xs us->r x xs H Q ->
  38 (call (.builtin id) (v::us)) (EP X bJ U Q) X.xe s
def ZE.one:∀{x:V}{us:45},ZE [x] us->∃u,us=[u]/\Z6 x u
 |_,_,.cons r .nil=>⟨_,rfl,r⟩
def ZE.zero:∀{us:45},ZE [] us->us=[]
 |_,.nil=>rfl
def ZE.dropLast{xs:List V}{us:45}(h:ZE xs us):ZE xs.dropLast us.dropLast:=by
 induction h with
 |nil=>exact .nil
 |cons r t ih=>
  cases t with
  |nil=>exact .nil
  |cons q t'=>exact .cons r ih
def ZE.eraseIdx:∀{xs:List V}{us:45} (i:Nat),ZE xs us->ZE (xs.eraseIdx i) (us.eraseIdx i)
 |_,_,_,.nil=>.nil
 |_,_,0,.cons _ t=>t
 |_,_,i+1,.cons r t=>.cons r (ZE.eraseIdx i t)
def ZE.reverse{xs:List V}{us:45}(h:ZE xs us):ZE xs.reverse us.reverse:=by
 induction h with
 |nil=>exact .nil
 |cons r t ih=>rw[gT,gT];exact ZE.append ih (.cons r .nil)
def JC(l:List α):l.eraseIdx (l.length-1)=l.dropLast:=by
 induction l with
 |nil=>rfl
 |cons a r ih=>
  cases r with
  |nil=>rfl
  |cons b r=>
   have e:(a::b::r).length-1=((b::r).length-1)+1:=by
    have h1:(a::b::r).length=r.length+2:=rfl;have h2:(b::r).length=r.length+1:=rfl;lia
   rw[e,List.eraseIdx_cons_succ,ih]
   all_goals rfl
def vH{α:Type}:∀(l:List α) (i:Nat),(l.eraseIdx i).length<=l.length
 |[],_=>cP _
 |_::_,0=>ic _
 |_::r,i+1=>Nat.succ_le_succ (vH r i)
section
variable{xs ys zs:List V}
theorem Inv.lset{its':45}{f:Array Value->Array Value}(I:43)(hH:H l=122)
  (e:s.heap.get? l=some { cls:=.type "list",data:=.seq oi.toArray n }) (hf:f oi.toArray=its'.toArray) (hv:ZE ys its') (hz:ys.length<=sizeLine) :
  89 (upd H l (.lst ys)) { s with heap:=s.heap.update l (Obj.mapSeq f),toks:=t' }:=by
 have q:=PySem.IsL.update e f;rw[hf] at q;refine I.write (x:=l) (e:=l) (by rw[hH];exact trivial) (.inl rfl) (fun b' u hb hu=>(fZ s.heap (Obj.mapSeq f) (eY hb)).trans hu) ⟨_,q⟩ ?_;exact⟨hz,its',_,hv,q⟩
theorem Inv.lnew(I:43)(hv:ZE ys oi)(hz:ys.length<=sizeLine) :
  89 (upd H s.heap.objs.size (.lst ys)) { s with heap:=s.heap.push { cls:=.type "list",data:=.seq oi.toArray },toks:=t' }:=
 I.laid (fun _ _ q=>cU _ q) (cP _) ⟨hz,oi,0,hv,c8 _ rfl⟩
theorem Inv.fresh(I:43):H s.heap.objs.size=none:=I.hok.fresh (cP _)
theorem Inv.lstM(I:43)(hH:H l=122):xs.length<=sizeLine/\∃(oi:45) (n:Nat),ZE xs oi/\xs.length=oi.length/\s.heap.get? l=some { cls:=.type "list",data:=.seq oi.toArray n }:=by
 obtain⟨z,oi,n,r,e⟩:=I.hok l _ hH;exact⟨z,oi,n,r,r.length,e⟩
theorem Zbr(h:n<=sizeLine):Builtin.List.listTooLong n=false:=by
 unfold Builtin.List.listTooLong;exact dZ 40
end
inductive xQ(x:V)(vs:List V)(H:Hp)(Q:VK):Prop
 |mk (l:_) (xs:_) (y:_) (h0:x=.ref l) (h1:vs=[y]) (h2:H l=122) (h3:xs.length<sizeLine) (h4:Q .non (upd H l (.lst (xs++[y])))):xQ x vs H Q
def Zcd:V->List V->Hp->VK->Prop:=fun x vs H Q=>xQ x vs H Q
def Yg:MtM X "list.append" Zcd:=by
 intro bJ s U H x vs v us Q I rx rv h;obtain⟨l,xs,y,rfl,rfl,hH,hz,q⟩:=h;cases rx;obtain⟨u,rfl,ru⟩:=rv.one;obtain⟨z,oi,n,r,hl,e⟩:=I.lstM hH;refine call_meets F.slot_list_append ⟨_,e,rfl⟩ F.entry_list_append (F.args_list_append_2 _ _) (PySem.list_append l oi.toArray n u (by rw[eM];lia)) ⟨e,?_⟩;refine⟨.non,_,I.lset (its':=oi++[u]) hH e 39 (r.append (.cons ru .nil)) ?_,rfl,q⟩;rw[cZ,fB];lia
inductive xR(x:V)(vs:List V)(H:Hp)(Q:VK):Prop
 |mk (l:_) (b:_) (xs:_) (zs:_) (h0:x=.ref l) (h1:vs=[.ref b]) (h2:H l=122) (h3:H b=some (.lst zs)) (h4:xs.length+zs.length<=sizeLine) (h5:Q .non (upd H l (.lst (xs++zs)))):xR x vs H Q
def Zcb:V->List V->Hp->VK->Prop:=fun x vs H Q=>xR x vs H Q
def QC:MtM X "list.extend" Zcb:=by
 intro bJ s U H x vs v us Q I rx rv h;obtain⟨l,b,xs,zs,rfl,rfl,hH,hB,hz,q⟩:=h;cases rx;obtain⟨u,rfl,ru⟩:=rv.one;cases ru;obtain⟨z,oi,n,r,hl,e⟩:=I.lstM hH;obtain⟨z2,pp,n2,r2,uf,e2⟩:=I.lstM hB;have pj:oi.toArray.size+pp.toArray.size<=sizeLine:=by rw[eM,eM];lia
 have Ec:¬(!oi.toArray.isEmpty&&Builtin.List.listTooLong (oi.toArray.size+pp.toArray.size))=true:=by
  rw[Zbr pj,iA];exact dQ
 refine call_meets F.slot_list_extend ⟨_,e,rfl⟩ F.entry_list_extend (F.args_list_extend_2 _ _)
  (AutoSeq1.list_extend_list_list_0 l oi.toArray n b pp.toArray n2 Ec (by rw[eM];lia) 40) ⟨e,e2,?_⟩
 refine⟨.non,_,I.lset (its':=oi++pp) hH e 39 (r.append r2) ?_,rfl,q⟩;rw[cZ];lia
inductive Zab(x:V)(vs:List V)(H:Hp)(Q:VK):Prop
 |mk (l:_) (xs:_) (y:_) (h0:x=.ref l) (h1:vs=[]) (h2:H l=122) (h3:xs[xs.length-1]?=some y) (h4:Q y (upd H l (.lst xs.dropLast))):Zab x vs H Q
def rPop:V->List V->Hp->VK->Prop:=fun x vs H Q=>Zab x vs H Q
def Zdy:MtM X "list.pop" rPop:=by
 intro bJ s U H x vs v us Q I rx rv h;obtain⟨l,xs,y,rfl,rfl,hH,hy,q⟩:=h;cases rx;have Iz:=rv.zero;subst Iz;obtain⟨z,oi,n,r,hl,e⟩:=I.lstM hH;obtain⟨u,hu,ru⟩:=r.get hy;have hy':oi.toArray[oi.toArray.size-1]?=some u:=by
  show oi.toArray[oi.length-1]?=some u
  rw[<- fj,<- hl];exact hu
 refine call_meets F.slot_list_pop ⟨_,e,rfl⟩ F.entry_list_pop (F.args_list_pop_1 _) (MeetsSeq.list_pop_last l oi.toArray n u hy' (by rw[eM];lia)) ⟨e,?_⟩;refine⟨y,_,I.lset (its':=oi.dropLast) hH e ?_ r.dropLast ?_,ru,q⟩
 ·show oi.toArray.eraseIdxIfInBounds (oi.toArray.size-1)=oi.dropLast.toArray
  rw[eM,ν,JC]
 ·rw[mW];lia
inductive kF(x:V)(vs:List V)(H:Hp)(Q:VK):Prop
 |mk (l:_) (xs:_) (i:_) (k:_) (y:_) (h0:x=.ref l) (h1:vs=[.int i]) (h2:H l=122) (h3:-(2 ^ 63)<=i) (h4:i<2 ^ 63) (h5:seqIndex? i xs.length=some k) (h6:xs[k]?=some y) (h7:Q y (upd H l (.lst (xs.eraseIdx k)))):kF x vs H Q
def Zde:V->List V->Hp->VK->Prop:=fun x vs H Q=>kF x vs H Q
def Zaw:MtM X "list.pop" Zde:=by
 intro bJ s U H x vs v us Q I rx rv h;obtain⟨l,xs,i,k,y,rfl,rfl,hH,h1,h2,hk,hy,q⟩:=h;cases rx;obtain⟨u,rfl,ru⟩:=rv.one;obtain⟨t,rfl⟩:=ru;obtain⟨z,oi,n,r,hl,e⟩:=I.lstM hH;obtain⟨w,hw,tH⟩:=r.get hy;refine call_meets F.slot_list_pop ⟨_,e,rfl⟩ F.entry_list_pop (F.args_list_pop_2 _ _)
  (MeetsSeq.list_pop_at l oi.toArray n i t k w (fitsIndex_both h1 h2) (by rw[eM,<- hl];exact hk) (by rw[<- fj];exact hw) (by rw[eM];lia)) ⟨e,?_⟩
 refine⟨y,_,I.lset (its':=oi.eraseIdx k) hH e ?_ (r.eraseIdx k) ?_,tH,q⟩
 ·show oi.toArray.eraseIdxIfInBounds k=(oi.eraseIdx k).toArray
  rw[ν]
 ·have:=vH xs k;lia
inductive Zaj(x:V)(y:V)(H:Hp)(Q:VK):Prop
 |mk (l:_) (b:_) (xs:_) (zs:_) (h0:x=.ref l) (h1:y=.ref b) (h2:H l=122) (h3:H b=some (.lst zs)) (h4:xs.length+zs.length<=sizeLine) (h5:∀p,H p=none->Q (.ref p) (upd H p (.lst (xs++zs)))):Zaj x y H Q
def ZeI:R2:=fun x y H Q=>Zaj x y H Q
def qp:OpR X (binaryOp .Add) ZeI:=by
 intro bJ s U H x y v u Q I rx ry h;obtain⟨l,b,xs,zs,rfl,rfl,hH,hB,hz,q⟩:=h;cases rx;cases ry;obtain⟨z,oi,n,r,hl,e⟩:=I.lstM hH;obtain⟨z2,pp,n2,r2,uf,e2⟩:=I.lstM hB;refine PySem.P.add_list e e2 ?_ (by rw[eM,eM];lia);have ea:oi.toArray++pp.toArray=(oi++pp).toArray:=by simp
 rw[ea];exact⟨.ref _,_,I.lnew (t':=s.toks) (r.append r2) (by rw[cZ];lia),rfl,q _ I.fresh⟩
end L2
namespace Att
open PySem PySem.W PySem.Calls PyProof.Rows
def ze{P:Params}:∀(ns:70) (vs:45),WellAll P h vs (ns.map WData.int)->IntsAre vs ns:=by
 intro ns
 induction ns with
 |nil=>
  intro vs w;rw[List.map_nil] at w;cases w;exact .nil
 |cons n ns ih=>
  intro vs w;rw[dD] at w;cases w with
  |cons a b=>
   cases a;exact .cons _ _ (ih _ b)
def QU{l:OpenLaw}(hn:l.most=some n){P:Params}
  (wz:l.row.toRowW.claim.pre args=true) (G6:WellAll P h Bb args) :
  ∃a vs ns,Bb=[Value.ref a]/\args=[WData.list (ns.map WData.int)]/\h.get? a=some { cls:=.type "list",data:=.seq vs.toArray }/\IntsAre vs ns/\ns.length<=n:=by
 have OG:WShape.hasAll [] args [.list .int]=true:=(pre_splitW wz).1;have hc:l.pre.holds [] { args:=args }=true:=(pre_splitW wz).2;obtain⟨d,r,rfl,h1,h2⟩:=hasAllW_cons OG;obtain rfl:=hasAllW_nil h2;obtain⟨xs,rfl,h3⟩:=hasW_list h1;obtain⟨ns,rfl⟩:=items_int h3;have oC:ns.length<=n:=by
  unfold OpenLaw.pre at hc;have h4:(WTm.not (.lt (.lit (.int (n:Int))) (.len (.arg 0)))).holds [] { args:=[.list (ns.map .int)] }=true:=by
   have h4:=(holds_andW hc).1;rw[hn] at h4;exact h4
  have h5:=condW_of h4 (w_not (w_lt w_lit (w_len_list (w_arg rfl))));rw[cS] at h5;refine Nat.le_of_not_lt fun q=>?_;have q':(n:Int)<((ns.length:Nat):Int):=by lia
  first
   | (rw[dy q'] at h5;exact oh h5 61)
   | (simp at h5;lia)
 cases G6 with
 |cons w1 w2=>
  cases w2;cases w1 with
  |list ho oZ=>exact⟨_,_,ns,rfl,rfl,ho,ze ns _ oZ,oC⟩
def KT(l:OpenLaw)(args:List WData):l.row.toRowW.claim.post args (.bool true) args=true:=
 postW_of (r:=l.row.toRowW) (X:=(true==true))
  (show WShape.has [] (.bool true) .bool=true by first|rfl|decide|simp[WShape.has,WShape.arms,WShape.armsAll])
  (show(WTm.eq .res (.lit (.bool true))).value [] { args:=args,res:=some (.bool true),after:=args }=some (.bool (true==true)) from w_eq_bool (w_res rfl) w_lit) rfl
def attach_call{l:OpenLaw}{d:DefRec}
  (hn:l.most=some n) (C5:d.params.defaults=[])
  (call:∀(w:World) (s₀ s₁:Shared) (mg mb:Str->67) (fa:Addr) (o:Obj) (pm cd doc:Value) (a:Addr) (vs:45) (ns:70),Ground q tp [] XP w s₀ mg mb s₁.heap->YP w s₁.heap -> s₁.heap.get? fa=some o->o.data=.func (docDef d.name d.params d.body d.scope pm cd doc)->s₁.heap.CodeRec cd d.name->mg d.name=some (.ref fa) -> s₁.heap.get? a=some { cls:=.type "list",data:=.seq vs.toArray }->IntsAre vs ns->ns.length<=n->s₁.gens=#[] -> codeAny (model l.prog w) callerA (.call (.ref fa) ⟨[.ref a],[]⟩) (fun r s'=>r=.ok (.ret (.bool true))/\OldK s₁.heap s'.heap/\s'.os=s₁.os/\AllBare s'.gens) s₁) :
  WalkO q tp XP YP l.row.toRowW d [] (fun f vs=>PySem.call f vs):=by
 intro w s₀ s₁ mg mb G Y fa o pm cd doc dV kV ho hd tO hD Hl hg args Bb as wz SM hrd G6 hlo;obtain rfl:dV=.none:=Dflts.none hD C5;obtain rfl:kV=.none:=Dflts.noKw hD;obtain⟨a,vs,ns,rfl,rfl,BD,uc,oC⟩:=QU hn wz G6;refine enter_call (gw (call w s₀ s₁ mg mb fa o pm cd doc a vs ns G Y ho (fd_plain hd) tO Hl BD uc oC hg) fun r s' hq=>?_);obtain⟨rfl,h2,h3,h4⟩:=hq;exact⟨.inl ⟨.bool true,.bool true,[],rfl,fun _=>rfl,.bool true,KT l _,fun _=>⟨List.Pairwise.nil,fun _ hm=>(nomatch hm)⟩⟩,h2,h3,h4⟩
section
variable{K:Frag}
def ZeY(h:Heap)(L d:Addr):53:=(γ h.objs.size).filterMap fun a=>if a=L\/a=d then none else(h.get? a).map fun o=>(a,o)
end
end Att
namespace L2
open PySem PySem.Spec PyProof.Rows
def xW:∀{vs:45}{ns:70},IntsAre vs ns->ZE (ns.map V.int) vs
 |_,_,.nil=>.nil
 |_,_,.cons n t h=>.cons ⟨t,rfl⟩ (xW h)
def Zdb(H:Hp):Prop:=∀b,H b=none\/∃o xs,H b=some (.frz o (.lst xs))
def Za8{mb:Str->67}{k:Nat}{x:Str}{s₁:Shared}
  (KX:K.In s₁.heap) (CB:s₁.heap.Ns mainGlobals mg) (hb:s₁.heap.Ns builtinsNs mb) (Pp:∀x:Str,x ≠ "__name__" -> mb x=bootBuiltins x) (Hg:s₁.heap.NoLimit) (hg:s₁.gens=#[])
  (ha:s₁.heap.get? a=some { cls:=.type "list",data:=.seq vs.toArray }) (hi:IntsAre vs ns) (hl:ns.length<=sizeLine) (hr:Zq k callerA)
  (F:∀base:Heap,K.In base->base.Ns mainGlobals mg->V7 P w K mg base CX k fa fd [x] sp) (C4:∀(s:Shared) (u:Value),BindsTo s fd ⟨[u],[]⟩ [(x,u)])
  (AN:∀H:Hp,Zdb H->SqL K H a (ns.map V.int)->sp [.ref a] H (fun v _=>v=.bl true) fun _ _ _=>False)
  (HX:∀H e s',CX [] H s₁ (fun _ _ _=>False) e s'->False) :
  codeAny (model P w) callerA (.call (.ref fa) ⟨[.ref a],[]⟩) (fun r s'=>r=.ok (.ret (.bool true))/\OldK s₁.heap s'.heap/\s'.os=s₁.os/\AllBare s'.gens) s₁:=by
 have rv:=xW hi;have Hy:=hi.length;have DQ:∀H:Hp,Zdb H->SqL K H a (ns.map V.int)->HOk P w H s₁.heap->(∀b,H b≠none->b=a)->(H a≠none->K.lookup a=none) ->
   codeAny (model P w) callerA (.call (.ref fa) ⟨[.ref a],[]⟩) (fun r s'=>r=.ok (.ret (.bool true))/\OldK s₁.heap s'.heap/\s'.os=s₁.os/\AllBare s'.gens) s₁:=by
  intro H hO hS hok hA hK;have sP:∀{b:Addr}{o:Obj},s₁.heap.get? b=some o->H b=none->(jy s₁.heap H).get? b=some o:=fun e n=>Zbc e n;have CZ:∀{b:Addr}{o:Obj}{es:Array DictEntry}{ep:Nat},s₁.heap.get? b=some o->o.data=.dict es ep->H b=none:=fun {b o es ep} e d=>by
   cases q:H b with
   |none=>rfl
   |some u=>
    have e':b=a:=hA b (by rw[q];simp);subst e';rw[ha] at e;cases e;have d':Data.seq vs.toArray _=Data.dict es ep:=d;cases d'
  have Fa:∀{b:Addr}{m:Str->67},s₁.heap.Ns b m->(jy s₁.heap H).Ns b m:=fun {b m} ⟨o,es,ep,e,d,r⟩=>⟨o,es,ep,sP e (CZ e d),d,r⟩;have Ms:K.In (jy s₁.heap H):=fun b o e=>sP (KX b o e) (by
   cases q:H b with
   |none=>rfl
   |some u=>
    have e':b=a:=hA b (by rw[q];simp);subst e';rw[hK (by rw[q];simp)] at e;cases e)
  have hM:Mod K mg (jy s₁.heap H):=⟨Ms,Fa CB,⟨mb,Fa hb,Pp⟩,let ⟨mc,h1,h2⟩:=Hg; ⟨mc,Fa h1,h2⟩⟩;have e0:JG P w K mg (jy s₁.heap H) callerA [] s₁ H:=⟨rfl,hM,fun b o e=>Zcn e,Nat.le_of_eq (K3 _ _),trivial,fun b hb=>oh (show b∈([]:List Addr) from hb) 39,hok,.of_eq hg⟩;refine gw ((F _ Ms (Fa CB)).run callerA [] s₁ H ⟨[.ref a],[]⟩ [.ref a] [.ref a] _ _ hr e0 (C4 s₁ (.ref a)) (.cons rfl .nil) (AN H hO hS)) fun r s' h=>?_;cases r with
  |error e=>exact(HX H e s' h).elim
  |ok fl=>
   cases fl with
   |next=>exact False.elim h
   |brk=>exact False.elim h
   |cont=>exact False.elim h
   |ret u=>
    obtain⟨v,H',os,bare,un,Gk,r',q⟩:=h;have q':v=.bl true:=q;subst q';obtain rfl:u=Value.bool true:=r';refine⟨rfl,OldK.of_keep fun b o e=>?_,os,bare⟩;cases q:H b with
    |none=>exact un.keep b o e q (by intro z;exact oh (show b∈([]:List Addr) from z) 39) 39
    |some u=>
     rcases hO b with z|⟨ob,xs,z⟩
     ·rw[q] at z;cases z
     ·have z2:=un.frzs b ob _ z;obtain⟨e1,_⟩:=hok b _ z;obtain⟨e2,_⟩:=Gk b _ z2;rw[e] at e1;cases e1;exact e2
 cases hk:K.lookup a with
 |some o=>
  have e:=KX a o hk;rw[ha] at e;cases e;refine DQ (fun _=>none) (fun _=>.inl rfl) (.inr ⟨_,vs.toArray,_,hk,rfl,rfl,rfl,by rw[eM,Hy];exact hl,by simpa using rv⟩) (fun b u z=>by have z':(none:Option HO)=some u:=z;cases z') (fun b z=>oh rfl z) fun z=>oh rfl z
 |none=>
  refine DQ (fun b=>if b=a then some (.frz { cls:=.type "list",data:=.seq vs.toArray } (.lst (ns.map V.int))) else none) (fun b=>?_) (.inl (.inr ⟨{ cls:=.type "list",data:=.seq vs.toArray },og rfl⟩)) (fun b u z=>?_) (fun b z=>?_) fun _=>hk
  ·by_cases hb:b=a
   ·exact .inr ⟨_,_,og hb⟩
   ·exact .inl (n8 hb)
  ·by_cases hb:b=a
   ·have z':=(og hb).symm.trans z;cases z';subst hb;exact⟨ha,by rw[cS];exact hl,vs,_,rv,ha⟩
   ·have z':=(n8 hb).symm.trans z;cases z'
  ·by_cases hb:b=a
   ·exact hb
   ·exact oh (n8 hb) z
def walk_of{l:W.OpenLaw}{k:Nat}{d:DefRec}{K:Params->W.Frag}{CX:World->CXT}{sp:World->Sp}{x:Str}
  (hn:l.most=some n) (BO:n<=sizeLine) (C5:d.params.defaults=[]) (hr:Zq k callerA)
  (hY:∀(w:World) (h:Heap),YP w h->(K w.params).In h)
  (F:∀(w:World) (mg:Str->67) (fa:Addr) (h:Heap),(K w.params).In h->h.Ns mainGlobals mg->mg d.name=some (.ref fa) -> ∃fd:FuncData,(∀(s:Shared) (u:Value),BindsTo s fd ⟨[u],[]⟩ [(x,u)]) /\ ∀base:Heap,(K w.params).In base->base.Ns mainGlobals mg->V7 l.prog w (K w.params) mg base (CX w) k fa fd [x] (sp w))
  (AN:∀(w:World) (H:Hp) (a:Addr) (ns:70),ns.length<=n->Zdb H->SqL (K w.params) H a (ns.map V.int)->sp w [.ref a] H (fun v _=>v=.bl true) fun _ _ _=>False)
  (HX:∀(w:World) (H:Hp) (s:Shared) (e:Value) (s':Shared),CX w [] H s (fun _ _ _=>False) e s'->False) :
  W.WalkO q tp XP YP l.row.toRowW d [] (fun f vs=>PySem.call f vs):=by
 refine Att.attach_call hn C5 fun w s₀ s₁ mg mb fa o pm cd doc a vs ns G Y ho hd tO Hl BD uc oC hg=>?_;have KX:=hY w _ Y;obtain⟨fd,hb,hF⟩:=F w mg fa _ KX G.T.g Hl;exact Za8 KX G.T.g G.T.b G.T.builtins G.T.nolimit hg BD uc (fh oC BO) hr hF hb (fun H hO hS=>AN w H a ns oC hO hS) fun H e s'=>HX w H s₁ e s'
def Ve(s:Stmt)(j:Nat):Stmt:=match s with
 |.ClassDef _ _ _ oX _ _ _ _ _ _ _=>oX.getD j (.Pass ⟨0,0,0,0⟩)
 |_=>.Pass ⟨0,0,0,0⟩
def Wn(s:Stmt):Arguments:=match s with
 |.FunctionDef _ a _ _ _ _ _ _ _ _=>a
 |_=>{ posonlyargs:=[],args:=[],vararg:=none,kwonlyargs:=[],kw_defaults:=[],kwarg:=none,defaults:=[] }
def Xq(s:Stmt):List Stmt:=match s with
 |.FunctionDef _ _ b _ _ _ _ _ _ _=>b
 |_=>[]
def Zj(s:Stmt):Scope:=match s with
 |.FunctionDef _ _ _ _ _ _ sc _ _ _=>sc
 |_=>{ kind:=.function,names:=[],isGenerator:=false,isCoroutine:=false }
abbrev CX0:CXT:=fun _ _ _ _ _ _=>False
abbrev E0:XK:=fun _ _ _=>False
def Vn:qu CX0 X E0:=fun _ _ _ _ _ _ _ h=>h.elim
structure Fun(K:W.Frag)(x qual:Str)(st:Stmt)(f:Addr)(fd:FuncData):Prop where
 ex:∃(oc:Value) (od:Option Addr) (kV doc pm:Value) (an:Option Addr) (bK ct:Value) (osl:Array (67)),
  fd=W.fnOf x qual (Wn st) (Xq st) (Zj st) .none kV doc pm an bK ct/\K.lookup f=some ⟨oc,od,.func fd,osl⟩/\W.codeIn K bK qual=true
 kp:W.keepIn K (.ref f)=true
def Fun.ok{x:Str}{st:Stmt}{f:Addr}{N:54}{k:Nat}(F:Fun K x qual st f fd)(S:Zz N ps (Zj st))(len:∀vs H Q E,sp vs H Q E->vs.length=ps.length)
  (pH:∀(bK:Value) (A:Around) (outer:List Env) (s:Shared) (H:Hp) (vs:List V) (Q:VK) (E:XK),Zq k (A.deeper (envOfC qual (Zj st) s.heap.objs.size f bK))->sp vs H Q E -> ∃t,PSs (j3 CX0 P w K mg base N qual (Zj st) f bK A outer s H E).nox (Xq st) t/\t { nx:=fun _ H'=>Q .non H',rt:=Q } (start N vs) H):V7 P w K mg base CX0 (k+1) f fd ps sp:=by
 obtain⟨oc,od,kV,doc,pm,an,bK,ct,osl,rfl,lk,tO⟩:=F.ex;refine ZdK lk tO S len fun A outer s H vs Q E hr AN=>?_;obtain⟨t,h,q⟩:=pH bK A outer s H vs Q E hr AN;exact⟨t,h.nox,q⟩
def Fun.binds{x:Str}{st:Stmt}{f:Addr}(F:Fun K x qual st f fd)
  (h:∀(kV doc pm:Value) (an:Option Addr) (bK ct:Value) (us:45),us.length=ps.length->bindArgs (W.fnOf x qual (Wn st) (Xq st) (Zj st) .none kV doc pm an bK ct) ⟨us,[]⟩=pure (ps.zip us)):Uc K fd ps []:=by
 obtain⟨oc,od,kV,doc,pm,an,bK,ct,osl,rfl,lk,tO⟩:=F.ex;exact .all (h kV doc pm an bK ct)
def ZaV{x:Str}{st:Stmt}{f:Addr}{kV doc pm bK ct:Value}(l:K.lookup f=some ⟨oc,od,.func (W.fnOf x qual (Wn st) (Xq st) (Zj st) .none kV doc pm an bK ct),osl⟩)
  (c:W.codeIn K bK qual=true) (k:W.keepIn K (.ref f)=true):Fun K x qual st f (W.fnOf x qual (Wn st) (Xq st) (Zj st) .none kV doc pm an bK ct):=⟨⟨oc,od,kV,doc,pm,an,bK,ct,osl,rfl,l,c⟩,k⟩
def pv(i:Nat){x:Str}(hN:X.N[i]?=some x:=by rfl)(hv:Vis X.env.scope x:=by first|exact Or.inl rfl|exact Or.inr (.inl rfl)|exact Or.inr (.inr rfl))(hd:109=false:=by left)
  (tO:(x==("__classdict__" : Str))=false:=by left):PE X (.Name x oj) (ja i):=Zdj hN hv hd tO
def ZH{A B:Prop}(h:B):if false=true then A else B:=by
 rw[n8 dQ];exact h
def ZS{A B:Prop}(h:A):if true=true then A else B:=by
 rw[og rfl];exact h
def yj{c A B:Prop}[Decidable c](h1:c->A)(h2:¬c->B):if c then A else B:=by
 by_cases h:c
 ·rw[og h];exact h1 h
 ·rw[n8 h];exact h2 h
def Zd(H H':Hp):Prop:=∀b o,H b=some o->H' b=some o
def Zd.refl(H:Hp):Zd H H:=fun _ _ h=>h
def Zd.trans{H2:Hp}(a:Zd H H1)(b:Zd H1 H2):Zd H H2:=fun c o h=>b c o (a c o h)
def Zd.free(e:77)(h:H' l=Option.none):H l=Option.none:=by
 cases q:H l with
 |none=>rfl
 |some o=>
  rw[e l o q] at h;cases h
def Zd.seq{xs:List V}(e:77)(h:SqL K H a xs):SqL K H' a xs:=by
 rcases h with(h|⟨o,h⟩)|h
 ·exact .inl (.inl (e _ _ h))
 ·exact .inl (.inr ⟨o,e _ _ h⟩)
 ·exact .inr h
end L2
set_option maxHeartbeats 8000000
namespace L3
open PySem PySem.Spec PyProof.Rows L2
abbrev St:=L2.St
def sub(ix:List (68))(U:St):St:=ix.map fun o=>o.bind fun j=>(U[j]?).join
def kU{t:Sem α}{Q:α->41}{M:Model}(h:wpAny M A t Q (fun _ _=>False) s)(hQ:∀a s,Q a s->Q' a s):wpAny M A t Q' E s:=
 ft h hQ fun _ _ z=>z.elim
def PTs(X:Cx)(oK:List Expr)(t:TT):Prop:=
 ∀(bJ:53) (s:Shared) (U:St) (H:Hp) (Q:Bool->Hp->Prop),43->t U H Q ->
  38 (forIn oK true fun c r=>if r=true then do let ok <- isTrue c X.env (eval c X.env);pure (ForInStep.yield ok) else pure (ForInStep.yield r)) (TP X bJ U Q) X.xe s
def J6:TT:=fun _ H Q=>Q true H
def Z3:PTs X [] J6:=fun _ _ _ H _ I h=>wpAny_tests_nil ⟨H,I,h⟩
def U5{c:Expr}{t:TT}(h:PT X c t):PTs X [c] t:=fun bJ s U H Q I q=>wpAny_tests_one (h bJ s U H Q I q)
def Yo(scope:Scope)(env:Env):List (Str×Addr):=(scope.names.filter fun y=>y.2==.free).reverse.map fun y=>(y.1,(env.cells.lookup y.1).getD 0)
def QH:∀(ns:List (Str×NameKind)) (acc:List (Str×Addr)),(∀y∈ns,y.2=.free->(env.cells.lookup y.1).isSome=true) ->
  (forIn ns acc fun(x:Str×NameKind) (r:List (Str×Addr))=>if x.2==.free then do let a <- cellOf env x.1;pure (ForInStep.yield ((x.1,a)::r)) else pure (ForInStep.yield r):Sem (List (Str×Addr))) =
   pure ((ns.filter fun y=>y.2==.free).reverse.map (fun y=>(y.1,(env.cells.lookup y.1).getD 0))++acc):=by
 intro ns
 induction ns with
 |nil=>intro acc _;rfl
 |cons y r ih=>
  intro acc h;have hr:∀z∈r,z.2=.free->(env.cells.lookup z.1).isSome=true:=fun z hz=>h z (c7 _ hz);rw[gM]
  by_cases hf:(y.2==NameKind.free)=true
  ·have hs:=h y dC (by simpa using hf);obtain⟨c,hc⟩:=fG.mp hs;have e1:cellOf env y.1=pure c:=by unfold cellOf;rw[hc]
   rw[og hf,e1,pure_bind,pure_bind];refine(ih _ hr).trans ?_;rw[Ο (by simpa using hf),gT,eO];simp[hc]
  ·rw[n8 hf,pure_bind];refine(ih _ hr).trans ?_;rw[Ρ (by simpa using hf)]
def Ky(h:∀y∈scope.names,y.2=.free->(env.cells.lookup y.1).isSome=true):closureFor scope env=pure (Yo scope env):=by
 have e:=QH (env:=env) scope.names [] h;rw[gp] at e;unfold closureFor;rw[show Yo scope env=(scope.names.filter fun y=>y.2==.free).reverse.map (fun y=>(y.1,(env.cells.lookup y.1).getD 0)) from rfl];rw[<- pure_bind (m:=Sem) ((scope.names.filter fun y=>y.2==.free).reverse.map (fun y=>(y.1,(env.cells.lookup y.1).getD 0))) pure,<- e]
def Vb{β:Type}(f:Str->β):∀(l:List (Str×NameKind)) (x:Str),(l.map fun y=>(y.1,f y.1)).lookup x=if x∈l.map (·.1) then some (f x) else none
 |[],x=>by simp
 |y::r,x=>by
  rw[dD,gq,Vb f r x]
  by_cases e:x=y.1
  ·subst e;simp
  ·have hb:(x==y.1)=false:=by simpa using e
   rw[hb]
   by_cases hm:x∈r.map (·.1)
   ·rw[og hm,og (by rw[dD];exact c7 _ hm)]
   ·rw[n8 hm,n8 (by rw[dD];intro z;rcases cW.mp z with z|z;exact e z;exact hm z)]
def XG{x:Str}{c:Addr}(h:∀y∈scope.names,y.2=.free->(env.cells.lookup y.1).isSome=true)(e:(Yo scope env).lookup x=some c):env.cells.lookup x=some c:=by
 unfold Yo at e;rw[Vb (fun z=>(env.cells.lookup z).getD 0)] at e
 split at e
 ·rename_i hx
  obtain⟨y,hy,rfl⟩:=da.mp hx;obtain⟨h1,h2⟩:=fA.mp (iB.mp hy);obtain⟨d,hd⟩:=fG.mp (h y h1 (by simpa using h2));have e':=eZ e;rw[hd] at e' ⊢;exact dt some e'
 ·cases e
def zQ{x:Str}(hx:(x,NameKind.free)∈scope.names):∃c,(Yo scope env).lookup x=some c:=by
 unfold Yo;rw[Vb (fun z=>(env.cells.lookup z).getD 0),og]
 ·exact⟨_,rfl⟩
 ·exact da.mpr ⟨(x,.free),iB.mpr (fA.mpr ⟨hx,by simp⟩),rfl⟩
def US{env:Env}:∀{names:List (Str×NameKind)}{x:Str}{k:NameKind},
  (names.map fun(n,k)=>if 102 then(n,NameKind.cell) else(n,k)).lookup x=some k ->
   names.lookup x=some k\/(k=.cell/\names.lookup x=some .free)
 |[],_,_,h=>by simp at h
 | (n,k0)::r,x,k,h=>by
  rw[dD] at h;dsimp only at h;cases hx:x==n with
  |true=>
   by_cases hc:101=true
   ·rw[og hc] at h;simp only[gq,hx] at h ⊢;have:k0=.free:=by
     have h1:=(dg _ _▸((dg _ _▸hc).1)).1;simpa using h1
    exact .inr ⟨(eZ h).symm,by rw[this]⟩
   ·rw[n8 hc] at h;simp only[gq,hx] at h ⊢;exact .inl h
  |false=>
   have h':(r.map fun(n,k)=>if 102 then(n,NameKind.cell) else(n,k)).lookup x=some k:=by
    by_cases hc:101=true
    ·rw[og hc] at h;simpa only[gq,hx] using h
    ·rw[n8 hc] at h;simpa only[gq,hx] using h
   simp only[gq,hx];exact US h'
def UQ{env:Env}:∀{names:List (Str×NameKind)}{x:Str},names.lookup x=some .free ->
  (names.map fun(n,k)=>if 102 then(n,NameKind.cell) else(n,k)).lookup x=some .cell \/
  (names.map fun(n,k)=>if 102 then(n,NameKind.cell) else(n,k)).lookup x=some .free
 |[],_,h=>by simp at h
 | (n,k0)::r,x,h=>by
  rw[dD];dsimp only;cases hx:x==n with
  |true=>
   simp only[gq,hx] at h;have e:k0=.free:=eZ h
   by_cases hc:101=true
   ·rw[og hc];exact .inl (by simp only[gq,hx])
   ·rw[n8 hc];exact .inr (by simp only[gq,hx];rw[e])
  |false=>
   simp only[gq,hx] at h;have ih:=UQ (env:=env) h
   by_cases hc:101=true
   ·rw[og hc];simpa only[gq,hx] using ih
   ·rw[n8 hc];simpa only[gq,hx] using ih
structure ZD(sc:Scope)(N Nc:54)(ix:List (68))(scope:Scope):Prop where
 kind:scope.kind=.function
 nocell:∀y∈scope.names,y.2≠.cell
 names:∀y∈scope.names,y.2=.local->scope.names.lookup y.1=some .local
 free:∀y∈scope.names,y.2=.free->sc.names.lookup y.1=some .cell\/sc.names.lookup y.1=some .free
 len:ix.length=Nc.length
 chk:((ix.zip Nc).all fun p=>match p.1 with|none=>true|some j=>N[j]?==some p.2&&scope.names.lookup p.2==some .free)=true
def ZD.at_{N:54}(o:ZD sc N Nc ix scope){i:Nat}{x:Str}(h1:ix[i]?=some (some j))(h2:Nc[i]?=some x):N[j]?=some x/\scope.names.lookup x=some .free:=by
 have hm:(some j,x)∈ix.zip Nc:=by
  refine cY (i:=i) ?_;rw[Ζ];exact⟨h1,h2⟩
 have q:=dU.mp o.chk _ hm;have q':=dg _ _▸q;exact⟨by simpa using q'.1,by simpa using q'.2⟩
def Zu(X:Cx)(Nc:54)(scope:Scope)(cl:List (Str×Addr))(C:Addr)(s:Shared)(H:Hp)(fp:List Addr):Cx where
 prog:=X.prog
 w:=X.w
 K:=X.K
 mg:=X.mg
 base:=X.base
 A:=X.A
 N:=Nc
 s₀:=s
 H₀:=H
 env:=compEnvC scope cl C X.env
 outer:=X.stack
 stack:=X.stack
 ex:=fp
 fn:=fun x=>(cl.lookup x).isNone
 calm:=X.calm
 pn:=X.pn
 xe:=fun _ _=>False
def UV(X:Cx)(Nc:54)(scope:Scope)(cl:List (Str×Addr))(C:Addr)(s:Shared)(H:Hp)(fp:List Addr)(xf:List (Str×Addr)->Addr->Shared->Hp->List Addr->Value->41):Cx:=
 { 42 with xe:=xf cl C s H fp }
def qO(J:It)(D:Addr)(g:TG)(tt:TT)(te:TE)(σ0:St)(H1:Hp)(Q:VK):Prop:=
 ∃W:Nat->Nat->St->Hp->Prop,(∃m,W 0 m σ0 (upd H1 D (.lst [])))/\∀i m σ' H',W i m σ' H'->(J.stop i H'/\Q (.ref D) H') \/
  (J.go i H'/\∃(N:V->St->Hp->Prop) (N0:St->Hp->Prop),(∀v σ2 H5,N v σ2 H5->∃xs,H5 D=122/\xs.length<sizeLine/\∃m',m'<m/\W (i+1) m' σ2 (upd H5 D (.lst (xs++[v])))) /\ (∀σ2 H4,N0 σ2 H4->∃m',m'<m/\W (i+1) m' σ2 H4)/\∀x H2,J.yld i H' x H2->g x σ' H2 fun σ2 H3=>tt σ2 H3 fun c H4=>if c=true then te σ2 H4 fun v H5=>N v σ2 H5 else N0 σ2 H4)
def Kz(wi:TI)(ix:List (68))(g:TG)(tt:TT)(te:TE):TE:=fun U H Q=>wi U H fun J H1=>∀D,H1 D=none->qO J D g tt te (sub ix U) H1 Q
def jh(M:Model)(A:Around)(E:Value->41)(use:Option (Value->Sem Unit))(Q:Value->41)(acc:Value)(ce:Env)(r:Result)(s':Shared):Prop:=
 match r with
 |.ok f=>compPost M A E use Q acc ce.locals (.ok f) s'
 |.error x=>∃m,s'.heap.Ns ce.locals m/\∀g,Heap.SameBut ce.locals s'.heap g->wpAny M A (passOn "comprehension.variables-let-go" x ce:Sem Value) (fun _ _=>False) E { s' with heap:=g }
def Jo{M:Model}{fi:Sem Value}{g:Comprehension}
  (c1:clausesOf e=g::gs) (c2:∀x,foldedSetIterable g.iter env x=pure x) (c3:closureFor scope env=pure cl)
  (c4:scope.kind=.function) (c5:∀x∈scope.names,x.2=.local->scope.names.lookup x.1=some .local)
  (h:wpAny M A fi (fun x s1=>wpAny M A (pyIter x) (fun it s2=>wpAny M A nA (fun acc s3=>wpAny M A (newFunctionEnv scope env.globals cl [] env.qual none .none (some env)) (fun ce s4=> codeAny M A (.compStart e 0 it acc { ce with scope:=relabel scope env }) (jh M A E use Q acc { ce with scope:=relabel scope env }) s4) E s3) E s2) E s1) E s) :
  wpAny M A (comprehension e scope env oj nA false fi use) Q E s:=by
 unfold comprehension;rw[c3,c1];refine cN (ft h (fun x s1 h1=>?_) fun _ _ q=>q);refine cN (gz (cN (gN (c2 x) (cN (dh (ft h1 (fun it s2 h2=>?_) fun _ _ q=>q))))));refine wpAny_standIf (cN (ft h2 (fun acc s3 h3=>?_) fun _ _ q=>q));refine cN (cO (cN (ft h3 (fun ce s4 h4=>?_) fun _ _ q=>q)));dsimp only;have v1:∀x∈(scope.names.filter fun x=>(x.2==.local||x.2==.cell)&&x.1 != (".0" : Str)).reverse,x.2=.local ->
   Env.kindOf { ce with scope:=relabel scope env } x.1=some .local:=fun x hx hl=>by
  refine lookup_relabel_local (c5 x ?_ hl);exact(fA.mp (iB.mp hx)).1
 have v2:∀x∈(scope.names.filter fun x=>(x.2==.local||x.2==.cell)&&x.1 != (".0" : Str)).reverse.drop 1++(scope.names.filter fun x=>(x.2==.local||x.2==.cell)&&x.1 != (".0" : Str)).reverse.take 1,
   x.2=.local->Env.kindOf { ce with scope:=relabel scope env } x.1=some .local:=fun x hx hl=>by
  rcases db.mp hx with q|q
  ·exact v1 x (mz q) hl
  ·exact v1 x (gA q) hl
 refine dh (cN (gO (dh (wpAny_run (gw h4 fun r s' hr=>?_)))));cases r with
 |ok f=>
  cases use with
  |none=>
   obtain⟨m,hn,hr⟩:=hr;refine cN (dh (wpAny_comp_letGo (cenv:={ ce with scope:=relabel scope env }) c4 _ s' m v1 hn fun g' m' _ q=>?_));exact cO (hr g' q)
  |some u=>
   refine cN (eN (cN (dh (ft hr (fun _ s5 q5=>?_) fun _ _ q=>q))));obtain⟨m,hn,q5⟩:=q5;refine cN (wpAny_comp_letGo (cenv:={ ce with scope:=relabel scope env }) c4 _ s5 m v2 hn fun g' m' _ q=>?_);exact cO (q5 g' q)
 |error x=>
  obtain⟨m,hn,hr⟩:=hr;refine cN (dh (wpAny_comp_letGo (cenv:={ ce with scope:=relabel scope env }) c4 _ s' m v1 hn fun g' m' _ q=>?_));exact ft (hr g' q) (fun _ _ f=>f.elim) fun _ _ y=>y
def ZaQ{pA:Expr}{it acc:Value}{F:Value->41}(J:Nat->41)
  (hF:∀e s',F e s'->notedBy 86 A env (fun e s'=>R (.error e) s') e s')
  (rq:∀n s,J n s->36 (pyNext it) (fun r s1=>match r with
   |none=>R (.ok .next) s1
   |some v=>36 (letOwnedTupleGo pA it v) (fun _ s2=>36 (assign pA env v) (fun _ s3=> 36 (forIn oK true fun c r=>if r=true then do let ok <- isTrue c env (eval c env);pure (ForInStep.yield ok) else pure (ForInStep.yield r)) (fun ok s4=> if ok=true then 36 (eval pD env) (fun x s5=>36 (call (.builtin "list.append") [acc,x]) (fun _ s6=>∃m,m<n/\J m s6) F s5) F s4 else ∃m,m<n/\J m s4) F s3) F s2) F s1) F s)
  (n:Nat) (h:J n s):codeAny 86 A (.compLoop (.ListComp pD [⟨pA,iter,oK,0⟩] scope oj) 0 it acc env) R s:=by
 refine codeAny_loop rfl J (fun k t hJ=>?_) n h
 show wpAny _ A ((compTurn (.ListComp pD [⟨pA,iter,oK,0⟩] scope oj) 0 it acc env).onRaise _) _ _ t
 refine wpAny_noted ?_;rw[compTurn_list];refine cN (gz (cN (ft (rq k t hJ) (fun r s1 h1=>?_) hF)));cases r with
 |none=>exact cO h1
 |some v=>
  refine cN (ft h1 (fun _ s2 h2=>cN (ft h2 (fun _ s3 h3=>cN (ft h3 (fun ok s4 h4=>?_) hF)) hF)) hF);cases ok with
  |false=>exact cO ⟨rfl,h4⟩
  |true=>exact cN (cN (ft h4 (fun x s5 h5=>cN (ft h5 (fun _ s6 h6=>cO (cO ⟨rfl,h6⟩)) hF)) hF))
def W3(I:43)(ok:80):∀y∈scope.names,y.2=.free->(X.env.cells.lookup y.1).isSome=true:=fun y hy hf=>by
 obtain⟨c,hc⟩:=I.ok.has y.1 (ok.free y hy hf);rw[hc];rfl
def yw{h1:Heap}(I:43)(ok:80)(hf:∀b∈fp,WH X bJ H b)(rP:∀b∈fp,∃o,s.heap.get? b=some o)
  {m:Str->67} (hn:h1.Ns s.heap.objs.size m) (hk:∀b o,s.heap.get? b=some o->h1.get? b=some o) :
  Inv (Zu X Nc scope (105) s.heap.objs.size s H fp) bJ (sub ix U) H { s with heap:=h1,toks:=t' }:=by
 have ac:=W3 I ok;have sK:∀{b:Addr}{o:Obj},s.heap.get? b=some o->b≠s.heap.objs.size:=fun e=>c9 (cT e);refine⟨⟨I.ok.mod,?_,I.ok.glob,I.ok.blt,cP _,?_,?_,?_,I.ok.hd,I.ok.frames,.inl rfl,?_,I.bs,fh I.ok.bsz I.sz,?_,?_,I.stack,I.stkFree⟩,rfl,I.bare,Un.kept hk,⟨m,hn,?_⟩,?_,?_,?_,?_,I.hok.kept hk,?_⟩
 ·exact ok.kind
 ·intro x y c e1 e2;exact I.ok.inj x y c (XG ac e1) (XG ac e2)
 ·intro x hx;have we:∀k,(relabel scope X.env).names.lookup x=some k->(k=.cell\/k=.free)->∃c,(105).lookup x=some c:=fun k e HI=>by
   rcases US e with q|⟨_,q⟩
   ·rcases HI with rfl|rfl
    ·exact oh rfl (ok.nocell _ (gy q))
    ·exact zQ (gy q)
   ·exact zQ (gy q)
  rcases hx with e|e
  ·exact we _ e (.inl rfl)
  ·exact we _ e (.inr rfl)
 ·intro x c EA e;have e':(105).lookup x=some c:=e;have Dm:((105).lookup x).isNone=true:=EA;rw[e'] at Dm;cases Dm
 ·intro b hb;obtain⟨o,e⟩:=rP b hb;obtain⟨f0,f1,f2,f3,f4,f5⟩:=hf b hb;exact⟨sK e,fun x c q=>f4 x c (XG ac q)⟩
 ·intro b o e hb;obtain⟨f0,f1,f2,f3,f4,f5⟩:=hf b hb;rcases f3 with z|z
  ·exact I.ok.noex b o e z
  ·exact oh (fq (fq (cT e) I.ok.bsz) z) (gn _)
 ·intro b hb hz;obtain⟨f0,f1,f2,f3,f4,f5⟩:=hf b hb;rcases cW.mp (I.stkSub b hz) with z|z
  ·exact f1 z
  ·exact f2 z
 ·intro i x v e1 e2 e3;have e1:Nc[i]?=some x:=e1;unfold sub at e2;rw[dz] at e2;cases hi:ix[i]? with
  |none=>rw[hi] at e2;cases e2
  |some o=>
   cases o with
   |none=>rw[hi] at e2;cases e2
   |some j=>
    obtain⟨hN,pM⟩:=ok.at_ hi e1;have e4:U[j]?=some (some v):=by
     rw[hi] at e2;have Py:some ((U[j]?).join)=some (some v):=e2;have e5:=eZ Py;cases hj:U[j]? with
     |none=>rw[hj] at e5;cases e5
     |some z=>rw[hj] at e5;exact dt some e5
    have Ge:Vis X.env.scope x:=by
     rcases ok.free (x,.free) (gy pM) rfl with q|q
     ·exact .inr (.inl q)
     ·exact .inr (.inr q)
    obtain⟨m0,Mu,hl⟩:=I.loc;obtain⟨u,r,lk⟩:=hl j x v hN e4 Ge;refine⟨u,r,.inr ⟨UQ pM,?_⟩⟩;rcases lk with⟨q,_⟩|⟨_,c,hc,z⟩
    ·rcases ok.free (x,.free) (gy pM) rfl with q2|q2
     ·exact oh (q.symm.trans q2) 61
     ·exact oh (q.symm.trans q2) 61
    ·obtain⟨d,hd⟩:=zQ (env:=X.env) (gy pM);have:=XG ac hd;rw[hc] at this;cases this;obtain⟨oc,e5,e6⟩:=z;exact⟨c,hd,oc,hk c oc e5,e6⟩
 ·intro x c e;obtain⟨v,oc,e5,e6⟩:=I.cell x c (XG ac e);exact⟨v,oc,hk c oc e5,e6⟩
 ·exact I.hok.fresh (cP _)
 ·intro x c e;exact I.freeC x c (XG ac e)
 ·intro p hp;obtain⟨e,n,ne,nf,d⟩:=I.pin p hp;refine⟨hk _ _ e,n,sK e,fun z=>?_,d⟩;rcases cW.mp (I.stkSub p.1 z) with q|q
  ·exact ne q
  ·exact nf q
 ·unfold sub;rw[cS];exact ok.len
def kW{σ':St}(I:43)(hf:∀b∈fp,WH X bJ H b)(hC:s.heap.get? C=none)
  (J:Inv (42) bJ σ' H' s') (sb:Heap.SameBut C s'.heap h'):89 H' { s' with heap:=h' }:=by
 have u:Un (frs X.stack) fp H H' s.heap s'.heap:=J.base;have Od:H' C=none:=J.free;have Bc:∀{b:Addr}{o:Obj},s.heap.get? b=some o->b≠C:=fun e z=>by rw[z,hC] at e;cases e
 refine I.call' (s':={ s' with heap:=h' }) (ch:=fp) J.os ⟨fun b o e n h1 h2=>?_,fun b o e n h1 h2=>?_,u.free,fun b o e h2=>?_,u.tups,u.frzs,u.tbls⟩ ?_ J.bare fun b hb=>?_
 ·exact(sb.2 b (Bc e)).trans (u.keep b o e n h1 h2)
 ·obtain⟨sl,q⟩:=u.slot b o e n h1 h2;exact⟨sl,(sb.2 b (Bc e)).trans q⟩
 ·obtain⟨o',q⟩:=u.there b o e h2;exact⟨o',(sb.2 b (Bc e)).trans q⟩
 ·intro b o e;refine(J.hok b o e).stay (fun c v hc q=>(sb.2 c ?_).trans q) (fun _ q=>q) fun _ _ q=>q;rintro rfl;rcases hc with z|z
  ·rw[<- z,Od] at e;cases e
  ·rw[Od] at z;cases z
 ·obtain⟨f0,f1,f2,f3,f4,f5⟩:=hf b hb;exact⟨f3,f1,f4,f5⟩
def Qs{g:TG}{Q:VK}
  (Ej:∀(B D:Addr) (s3:Shared) (H3:Hp) (fp:List Addr),L2.Inv X bJ U H3 s3->(∀b∈fp,WH X bJ H3 b)->s3.heap.get? B=none->∀e s',xf (105) B s3 H3 fp e s' -> notedBy 82 X.A (compEnvC scope (105) B X.env) (fun e s'=>jh 82 X.A X.xe use QV (.ref D) (compEnvC scope (105) B X.env) (.error e) s') e s') (I:L2.Inv X bJ U H s) (h:Kz wi ix g tt te U H Q)
  (fin:∀(D C:Addr) (H':Hp) (s':Shared) (m:Str->67),L2.Inv X bJ U H' s'->WH X bJ H' C->s'.heap.Ns C m->Q (.ref D) H'->compPost 82 X.A X.xe use QV (.ref D) C (.ok .next) s')
  (ok:80) (hc:X.calm=true) (hi:PI X tg iter wi)
  (hg:∀cl C s H fp,PG (UV X Nc scope cl C s H fp xf) tg g) (ht:∀cl C s H fp,PTs (UV X Nc scope cl C s H fp xf) oK tt) (he:∀cl C s H fp,PE (UV X Nc scope cl C s H fp xf) pD te)
  (hs:∀x,foldedSetIterable iter X.env x=pure x:=by intro _;rfl):38 (comprehension (.ListComp pD [⟨tg,iter,oK,0⟩] scope oj) scope X.env Ak (newList []) false (eval iter X.env) use) QV X.xe s:=by
 refine Jo (use:=use) (cl:=105) rfl hs (Ky (W3 I ok)) ok.kind ok.names (thn (hi bJ s U H _ I h) fun v s1 q1=>thn q1 fun DA s2 q2=>?_);obtain⟨it,fp,tn,J,H1,e,I2,T,rE,f2,q⟩:=q2;subst e;have hD:H1 s2.heap.objs.size=none:=I2.hok.fresh (cP _);obtain⟨W,⟨m0,w0⟩,rq⟩:=q _ hD;refine eQ ?_;have I3:89 (81 (.lst [])) { s2 with heap:=s2.heap.push { cls:=.type "list",data:=.seq ([]:45).toArray } }:=
  I2.laid (t':=s2.toks) (fun b u e=>cU _ e) (cP _) ⟨dH _,[],0,.nil,c8 _ rfl⟩
 have B3:=T.obj 0 _ rE;have f3:∀b∈fp,WH X bJ (81 (.lst [])) b:=fun b hb=>by
  obtain⟨o,e,_⟩:=B3 b hb;obtain⟨f0,fr⟩:=f2 b hb;exact⟨by rw[upd_ne (c9 (cT e))];exact f0,fr⟩
 have ui:tn 0 (s2.heap.push { cls:=.type "list",data:=.seq ([]:45).toArray }):=T.keep 0 _ _ rE fun b _ o e=>cU _ e;generalize hs3:({ s2 with heap:=s2.heap.push { cls:=.type "list",data:=.seq ([]:45).toArray } }:Shared)=s3 at I3 ⊢;have uA:tn 0 s3.heap:=by rw[<- hs3];exact ui
 refine wpAny_newFunctionEnv ok.nocell (by intro y hy;simp at hy) (fun h1 CB uq=>?_) ok.kind;have k1:∀b o,s3.heap.get? b=some o->h1.get? b=some o:=fun b o e=>(uq.2 b (c9 (cT e))).trans (cU _ e);have ug:∀b∈fp,∃o,s3.heap.get? b=some o:=fun b hb=>let ⟨o,e,_⟩:=T.obj 0 _ uA b hb; ⟨o,e⟩
 have I4:Inv (UV X Nc scope (105) s3.heap.objs.size s3 (81 (.lst [])) fp xf) bJ (sub ix U) (81 (.lst [])) { s3 with heap:=h1,toks:=s3.toks+([]:List (Str×Value)).length }:=
  (yw I3 ok f3 ug CB k1).wish _
 have EO:tn 0 h1:=T.keep 0 _ _ uA fun b _ o e=>k1 b o e;have hC:s3.heap.get? s3.heap.objs.size=none:=Heap.get?_none_of_le (cP _);have Bs:=Ej s3.heap.objs.size s2.heap.objs.size s3 _ fp I3 f3 hC;generalize hX:UV X Nc scope (105) s3.heap.objs.size s3 (81 (.lst [])) fp xf=Y at I4;have pP:∀{H':Hp},(∀b∈fp,H' b=none)->∀b∈fp,WH Y bJ H' b:=fun {H'} hn b hb=>by
  obtain⟨o,e⟩:=ug b hb;obtain⟨f0,f1,ff,OK,f4,f5⟩:=f3 b hb;have GU:b∉frs X.stack:=fun z=>by
   rcases cW.mp (I3.stkSub b z) with z|z
   ·exact f1 z
   ·exact ff z
  subst hX;exact⟨hn b hb,c9 (cT e),GU,.inl hb,fun x c q=>f4 x c (XG (W3 I3 ok) q),f5⟩
 have HS:∀{σ':L2.St}{H':Hp}{s':Shared},L2.Inv Y bJ σ' H' s'->Q (.ref s2.heap.objs.size) H'->compPost 82 X.A X.xe use QV (.ref s2.heap.objs.size) s3.heap.objs.size (.ok .next) s':=fun {σ' H' s'} J' qq=>by
  subst hX;obtain⟨m',Dw,_⟩:=id J'.loc;have Bc:H' s3.heap.objs.size=none:=J'.free;have J2:L2.Inv (Zu X Nc scope (105) s3.heap.objs.size s3 (81 (.lst [])) fp) bJ σ' H' s':=J'.wish _;exact fin _ _ H' s' m' (kW (h':=s'.heap) I3 f3 hC J2 (.refl ..)) (I3.fpOk (cP _) Bc) Dw qq
 have loop:codeAny 82 X.A (.compLoop (.ListComp pD [⟨tg,iter,oK,0⟩] scope oj) 0 (.ref it) (.ref s2.heap.objs.size) Y.env)
   (jh 82 X.A X.xe use QV (.ref s2.heap.objs.size) (compEnvC scope (105) s3.heap.objs.size X.env)) { s3 with heap:=h1,toks:=s3.toks+([]:List (Str×Value)).length }:=by
  have eP:Y.prog=X.prog:=by subst hX;rfl
  have eW:Y.w=X.w:=by subst hX;rfl
  have eK:Y.K=X.K:=by subst hX;rfl
  have eA:Y.A=X.A:=by subst hX;rfl
  have eC:Y.calm=true:=by subst hX;exact hc
  have eV:Y.env=compEnvC scope (105) s3.heap.objs.size X.env:=by subst hX;rfl
  have Sw:∀e s',Y.xe e s'->notedBy 82 X.A Y.env (fun e s'=>jh 82 X.A X.xe use QV (.ref s2.heap.objs.size) (compEnvC scope (105) s3.heap.objs.size X.env) (.error e) s') e s':=by
   subst hX;exact fun e s' hx=>Bs e s' hx
  have IT:PG Y tg g:=by subst hX;exact hg _ _ _ _ _
  have Gh:PTs Y oK tt:=by subst hX;exact ht _ _ _ _ _
  have GJ:PE Y pD te:=by subst hX;exact he _ _ _ _ _
  unfold PG at IT;unfold PTs at Gh;unfold PE at GJ;rw[eP,eW,eA] at IT Gh GJ;refine ZaQ (F:=Y.xe) (fun n s'=>∃i σ' H',Inv Y bJ σ' H' s'/\tn i s'.heap/\(∀b∈fp,H' b=none)/\W i n σ' H') Sw ?_ m0 ⟨0,sub ix U,_,I4,EO,fun b hb=>(f3 b hb).1,w0⟩;rintro n s5 ⟨i,σ5,H5,I5,w6,Bu,w5⟩;have TI:=T.item Y eP eW eK eC i bJ s5 σ5 H5 Y.xe I5 (pP Bu) w6;have TD:=T.done Y eP eW eK eC i bJ s5 σ5 H5 Y.xe I5 (pP Bu) w6;rw[eA] at TI TD;rcases rq i n σ5 H5 w5 with⟨stop,qn⟩|⟨go,N,N0,hN,sq,step⟩
  ·refine thn (TD stop) fun r s6 ⟨hr,I6⟩=>?_;subst hr;exact HS I6 qn
  ·refine thn (TI go) fun r s6 ⟨u,hr,h6⟩=>?_;subst hr;refine thn h6 fun _ s7 ⟨x,H7,I7,r7,y7,Bo,GD⟩=>?_;have Gw:=I7.pinned (pP GD) (T.obj _ _ Bo);refine thn (IT _ s7 σ5 H7 x u _ Gw r7 (step x H7 y7)) fun _ s8 ⟨σ8,H8,I8,q8⟩=>?_;refine thn (Gh _ s8 σ8 H8 _ I8 q8) fun c s9 ⟨H9,I9,q9⟩=>?_;have back:∀{σa:L2.St}{Ha:Hp}{sa:Shared},Inv Y (bJ++Ux fp s7.heap) σa Ha sa->(∃m',m'<n/\W (i+1) m' σa Ha)->∃m,m<n/\∃i σ' H',Inv Y bJ σ' H' sa/\tn i sa.heap/\(∀b∈fp,H' b=none)/\W i m σ' H':=fun {σa Ha sa} Ia ⟨m',hm,wa⟩=>by
    refine⟨m',hm,i+1,σa,Ha,Ia.unpinned,T.keep _ _ _ Bo fun b hb o e=>(Ia.pin (b,o) (fb _ (fb _ (XW hb e)))).1,fun b hb=>?_,wa⟩;obtain⟨o,e,d⟩:=T.obj _ _ Bo b hb;exact(Ia.pin (b,o) (fb _ (fb _ (XW hb e)))).2.1
   cases c with
   |false=>exact back I9 (sq _ _ (by simpa using q9))
   |true=>
    rw[og rfl] at q9 ⊢;refine thn (GJ _ s9 σ8 H9 _ I9 q9) fun z Dj ⟨Fn,rX,Ih,TL,D6⟩=>?_;obtain⟨xs,hx,hz,D6⟩:=hN _ _ _ D6;have ap:=Yg (X:=Y) (bJ++Ux fp s7.heap) Dj σ8 rX (.ref s2.heap.objs.size) [Fn] (.ref s2.heap.objs.size) [z] (fun _ Hb=>∃m',m'<n/\W (i+1) m' σ8 Hb) Ih rfl (.cons TL .nil) ⟨_,xs,Fn,rfl,rfl,hx,hz,D6⟩;rw[eP,eW,eA] at ap;exact thn ap fun _ sy ⟨_,rM,Hq,_,IR⟩=>back Hq IR
 have IX:Y.env=compEnvC scope (105) s3.heap.objs.size X.env:=by subst hX;rfl
 rw[IX] at loop;exact codeAny_compStart_list loop (T.self X.A 0 _ _ _ EO loop)
def kS{g:TG}{Q:VK}(I:L2.Inv X bJ U H s)(h:Kz wi ix g tt te U H Q)
  (fin:∀(D C:Addr) (H':Hp) (s':Shared) (m:Str->67),L2.Inv X bJ U H' s'->WH X bJ H' C->s'.heap.Ns C m->Q (.ref D) H'->compPost 82 X.A X.xe use QV (.ref D) C (.ok .next) s')
  (ok:80) (hc:X.calm=true) (hi:PI X tg iter wi)
  (hg:∀cl C s H fp,PG (42) tg g) (ht:∀cl C s H fp,PTs (42) oK tt) (he:∀cl C s H fp,PE (42) pD te)
  (hs:∀x,foldedSetIterable iter X.env x=pure x:=by intro _;rfl):38 (comprehension (.ListComp pD [⟨tg,iter,oK,0⟩] scope oj) scope X.env Ak (newList []) false (eval iter X.env) use) QV X.xe s:=
 Qs (xf:=fun _ _ _ _ _ _ _=>False) (fun _ _ _ _ _ _ _ _ _ _ z=>z.elim) I h fin ok hc hi hg ht he hs
def Xz{g:TG}(ok:80)(hc:X.calm=true)(hi:PI X tg iter wi)
  (hg:∀cl C s H fp,PG (42) tg g) (ht:∀cl C s H fp,PTs (42) oK tt) (he:∀cl C s H fp,PE (42) pD te)
  (hs:∀x,foldedSetIterable iter X.env x=pure x:=by intro _;rfl):PE X (.ListComp pD [⟨tg,iter,oK,0⟩] scope oj) (Kz wi ix g tt te):=by
 intro bJ s U H Q I h;rw[eval_ListComp];refine kS (use:=none) I h (fun D C H' s' m I' f hn qq=>?_) ok hc hi hg ht he hs;obtain⟨f0,f1,f2,f3,f4,f5⟩:=f;exact⟨m,hn,fun h' sb=>⟨.ref D,H',I'.turned (t':=s'.toks) (fun b o hb e=>(sb.2 b hb).trans e) f0 f1 f3 f4 f5,rfl,qq⟩⟩
def Wy{i:Nat}{x:Str}{uR:Pos}{g:TG}(hN:X.N.Nodup)(hi:X.N[i]?=some x)(hx:X.env.kindOf x=some .local)
  (ok:80) (hc:X.calm=true) (oJ:PI X tg iter wi)
  (hg:∀cl C s H fp,PG (42) tg g) (ht:∀cl C s H fp,PTs (42) oK tt) (he:∀cl C s H fp,PE (42) pD te)
  (Hr:swapsWith (.ListComp pD [⟨tg,iter,oK,0⟩] scope oj) (some (.Name x o7)) uR.line X.env=pure true:=by rfl)
  (hs:∀x,foldedSetIterable iter X.env x=pure x:=by intro _;rfl):PS X (.Assign [.Name x o7] (.ListComp pD [⟨tg,iter,oK,0⟩] scope oj) uR) (Zb2 (Kz wi ix g tt te) (yd i)):=by
 intro bJ s U H D I h;rw[exec_Assign_Name_used _ _ _ _ Hr];refine cN (gz (cN ?_))
 show wpAny _ X.A (do let _ <- comprehension (.ListComp pD [⟨tg,iter,oK,0⟩] scope oj) scope X.env _ (newList []) false (eval iter X.env) (some (assign (.Name x o7) X.env))) _ _ s
 refine cN (thn (kS (use:=some (assign (.Name x o7) X.env)) (QV:=fun _ s'=>SP X bJ D .next s') I h (fun L C H' s' m I' f hn qq=>?_) ok hc oJ hg ht he hs) fun _ s' q=>cO (cO q));obtain⟨f0,f1,f2,f3,f4,f5⟩:=f;refine wpAny_assign_Name (qj (v:=.ref L) I' hN hi (.inl hx) rfl (fun s2 I2 ⟨a,sb,ha⟩=>?_) (.inr hx));have HJ:C≠a:=by
  rintro rfl;rcases ha with z|z
  ·exact f1 z
  ·exact f4 _ _ z rfl
 exact⟨m,hn.sameBut sb HJ,fun h' Go=>⟨_,H',I2.turned (t':=s2.toks) (fun b o hb e=>(Go.2 b hb).trans e) f0 f1 f3 f4 f5,qq⟩⟩
def Zej(a:Addr)(n:Nat):HO:=.ext fun h=>∃o es ep t,h.get? a=some o/\o.ExactSet/\o.data=.set es ep t/\t.fits es.size=true/\es.size=n
def QG:Yy X (.builtin "len") (fun xs H Q=>∃a n,xs=[.ref a]/\H a=some (Zej a n)/\n<4000/\Q (.int n) H):=by
 intro bJ s U H xs us Q I r h;obtain⟨a,n,rfl,ha,hn,q⟩:=h;obtain⟨u,rfl,ru⟩:=XU r;obtain rfl:u=Value.ref a:=ru;obtain⟨⟨o,es,ep,t,e1,e2,e3,e4,e5⟩,_⟩:=I.hok a _ ha;refine call_len_set e1 e2 e3 e4 40 ?_;exact⟨.int n,H,I.tok _,⟨_,by rw[e5]⟩,q⟩
def UF:∀{bs:71}{us:45},ZE (bs.map V.bl) us->∀(i:Nat) v,us[i]?=some v->∃b,bs[i]?=some b/\v=.bool b
 |[],_,.nil,i,v,h=>by simp at h
 |b::r,_,.cons a c,0,v,h=>by simp at h;subst h;exact⟨b,rfl,a⟩
 |b::r,_,.cons a c,i+1,v,h=>by
  obtain⟨b',e,q⟩:=UF c i v (by simpa using h);exact⟨b',by simpa using e,q⟩
def QW{bs:71}:((γ bs.length).all fun i=>(bs[i]?).getD true)=bs.all id:=by
 induction bs with
 |nil=>rfl
 |cons b r ih=>
  rw[fc,Χ,lE,List.all_map,lE,<- ih];rfl
def QR{bs:71}:((γ bs.length).any fun i=>(bs[i]?).getD false)=bs.any id:=by
 induction bs with
 |nil=>rfl
 |cons b r ih=>
  rw[fc,Χ,gU,Ψ,gU,<- ih];rfl
def Zak(hc:X.calm=true):Yy X (.builtin "all") (fun xs H Q=>∃(p:Addr) (bs:71),xs=[.ref p]/\SqL X.K H p (bs.map V.bl)/\Q (.bl (bs.all id)) H):=by
 intro bJ s U H xs us Q I r h;obtain⟨p,bs,rfl,hq,q⟩:=h;obtain⟨u,rfl,ru⟩:=XU r;obtain rfl:u=Value.ref p:=ru;obtain⟨oi,rv,pl,hz⟩:=I.list hq;have el:=rv.length;rw[cS] at el;have oM:p<s.heap.objs.size:=by obtain⟨_,e,_⟩:=pl.isList;exact cT e
 refine call_all_walk (mr pl.isList ?_);refine⟨s.heap.objs.size,[s.heap.objs.size,p],[s.heap.objs.size],oi.toArray.size,_,_,fun i=>(bs[i]?).getD true,rfl,Walks.list (A:=X.A.in1) (by simpa using I.ok.hd hc) _ p (c9 oM) oi.toArray,⟨⟨_,c8 _ rfl,rfl,rfl⟩,pl.isList.push _⟩,fun i v s' Q' E' hP hQ=>?_,fun h' tk hk=>?_⟩
 ·obtain⟨b,e,rfl⟩:=UF rv i v (by simpa using hP);simp only[e,fC] at hQ;exact fQ hQ
 ·rw[eM,<- el,QW];exact⟨.bl _,H,I.kept fun b o e=>hk b o (by simpa using c9 (cT e)) (cU _ e),rfl,q⟩
def Zbg(hc:X.calm=true):Yy X (.builtin "any") (fun xs H Q=>∃(p:Addr) (bs:71),xs=[.ref p]/\SqL X.K H p (bs.map V.bl)/\Q (.bl (bs.any id)) H):=by
 intro bJ s U H xs us Q I r h;obtain⟨p,bs,rfl,hq,q⟩:=h;obtain⟨u,rfl,ru⟩:=XU r;obtain rfl:u=Value.ref p:=ru;obtain⟨oi,rv,pl,hz⟩:=I.list hq;have el:=rv.length;rw[cS] at el;have oM:p<s.heap.objs.size:=by obtain⟨_,e,_⟩:=pl.isList;exact cT e
 refine call_any_walk (mr pl.isList ?_);refine⟨s.heap.objs.size,[s.heap.objs.size,p],[s.heap.objs.size],oi.toArray.size,_,_,fun i=>(bs[i]?).getD false,rfl,Walks.list (A:=X.A.in1) (by simpa using I.ok.hd hc) _ p (c9 oM) oi.toArray,⟨⟨_,c8 _ rfl,rfl,rfl⟩,pl.isList.push _⟩,fun i v s' Q' E' hP hQ=>?_,fun h' tk hk=>?_⟩
 ·obtain⟨b,e,rfl⟩:=UF rv i v (by simpa using hP);simp only[e,fC] at hQ;exact fQ hQ
 ·rw[eM,<- el,QR];exact⟨.bl _,H,I.kept fun b o e=>hk b o (by simpa using c9 (cT e)) (cU _ e),rfl,q⟩
def Zd0(K:W.Frag)(te:TE)(ts:TO):TE:=fun U H Q=>te U H fun x H1=>ts U H1 fun k H2=>∃a xs,x=.ref a/\k=some (-1)/\SqL K H2 a xs/\∀p,H2 p=none->Q (.ref p) (upd H2 p (.lst xs.reverse))
def Zdw{st:Expr}{p2:Pos}(he:PE X e te)(hs:PO X (some st) ts):PE X (.Subscript e (.Slice none none (some st) p2) oj) (Zd0 X.K te ts):=by
 intro bJ s U H Q I h;refine Subscript_ (thn (he bJ s U H _ I h) fun v s1 ⟨x,H1,I1,r1,q1⟩=>?_);refine wpAny_Slice ?_;rw[evalPart_none];refine cO (cO (thn (hs bJ s1 U H1 _ I1 q1) fun vk s3 ⟨k,H3,I3,pk,q3⟩=>?_));obtain⟨a,xs,rfl,rfl,hq,q⟩:=q3;obtain rfl:v=Value.ref a:=r1;obtain⟨oi,r,ht,hz⟩:=I3.list hq;have oC:=r.length;have I4:89 H3 { s3 with heap:=s3.heap.push { cls:=.type "slice",data:=.fields #[.none,.none,vk] } }:=I3.kept (t':=s3.toks) fun b ob q=>cU _ q;obtain⟨Hx,r4,Mi,hz4⟩:=I4.list hq;have Ma:=r4.length
 show 38 (subscriptTail e (.Slice none none (some st) p2) (.ref a) (.ref s3.heap.objs.size)) (EP X bJ U Q) X.xe { s3 with heap:=s3.heap.push { cls:=.type "slice",data:=.fields #[.none,.none,vk] } }
 refine tail_any (ops:=[.ref a,.ref s3.heap.objs.size]) Mi.isList.typeIs slot_list_getitem.lookup ?_ (by with_unfolding_all rfl);refine wpAny_getItem_list_slice Mi.isList (Heap.IsSliceOf.new ..) .none .none pk 39 ?_ (by rw[eM]<;>lia);rw[W.krv_pick];refine⟨.ref _,_,I4.laid (t':=s3.toks) (o:=.lst xs.reverse) (fun b ob q=>cU _ q) (cP _) ?_,rfl,q _ (I4.hok.fresh (cP _))⟩;exact⟨by rw[iO];exact hz,Hx.reverse,0,r4.reverse,c8 _ rfl⟩
mutual
inductive Dp(K:W.Frag)(H:Hp):V->PyData->Prop
 |non:Dp K H .non .none
 |bl (b:_):Dp K H (.bl b) (.bool b)
 |int (i:_):Dp K H (.int i) (.int i)
 |str (x:_):Dp K H (.str x) (.str x)
 |lst {a xs ds}:SqL K H a xs->WJ K H xs ds->Dp K H (.ref a) (.list ds)
 |tup {a xs ds}:SqT K H a xs->WJ K H xs ds->Dp K H (.ref a) (.tuple ds)
inductive WJ(K:W.Frag)(H:Hp):List V->108->Prop
 |nil:WJ K H [] []
 |cons {v d vs ds}:Dp K H v d->WJ K H vs ds->WJ K H (v::vs) (d::ds)
end
mutual
theorem Dp.reads(I:43):∀{v:V}{d:PyData}{u:Value},Dp X.K H v d->Z6 v u->∃as,Reads s.heap u d as
 |_,_,u,.non,r=>by cases (show u=Value.none from r);exact⟨_,.none⟩
 |_,_,u,.bl b,r=>by cases (show u=Value.bool b from r);exact⟨_,.bool b⟩
 |_,_,u,.int i,r=>by obtain⟨t,e⟩:=(show ∃t,u=Value.int i t from r);cases e;exact⟨_,.int i t⟩
 |_,_,u,.str x,r=>by obtain⟨t,e⟩:=(show ∃t,u=Value.str x t from r);cases e;exact⟨_,.str x t⟩
 |_,_,u,.lst (a:=a) h hs,r=>by
  cases (show u=Value.ref a from r);obtain⟨oi,rv,pl,_⟩:=I.list h;obtain⟨o,ho,hc,n,hd⟩:=pl.isList;obtain⟨as,q⟩:=WJ.reads I hs rv;exact⟨_,.list ho hc hd (by simpa using q)⟩
 |_,_,u,.tup (a:=a) h hs,r=>by
  cases (show u=Value.ref a from r);obtain⟨oi,rv,⟨o,ho,hc,n,hd⟩,_⟩:=I.tuple h;obtain⟨as,q⟩:=WJ.reads I hs rv;exact⟨_,.tuple ho hc hd (by simpa using q)⟩
theorem WJ.reads(I:43):∀{vs:List V}{ds:108}{us:45},WJ X.K H vs ds->ZE vs us->∃as,ReadsAll s.heap us ds as
 |_,_,_,.nil,.nil=>⟨_,.nil⟩
 |_,_,_,.cons h hs,.cons r rs=>by
  obtain⟨as,a⟩:=h.reads I r;obtain⟨bs,b⟩:=hs.reads I rs;exact⟨_,.cons a b⟩
end
inductive ZaB(K:W.Frag)(neg:Bool)(x:V)(y:V)(H:Hp)(Q:VK):Prop
 |mk (d:_) (e:_) (h0:Dp K H x d) (h1:Dp K H y e) (h2:d.canLay0=true) (h3:e.canLay0=true) (h4:d.depth<=60) (h5:Q (.bl (if neg then !PyData.eqv d e else PyData.eqv d e)) H):ZaB K neg x y H Q
def jS(K:W.Frag)(neg:Bool):R2:=fun x y H Q=>ZaB K neg x y H Q
theorem ZcL(hu:X.A.units+64<cLine):OpR X (compareOp .Eq) (jS X.K false):=by
 intro bJ s U H x y u v Q I rx ry h;obtain⟨d,e,hx,hy,c1,c2,dp,q⟩:=h;obtain⟨as,a⟩:=hx.reads I rx;obtain⟨bs,b⟩:=hy.reads I ry;exact SeqAt.compareEq_reads a b c1 c2 40 ⟨.bl _,H,I,rfl,q⟩
theorem Zc0(hu:X.A.units+64<cLine):OpR X (compareOp .NotEq) (jS X.K true):=by
 intro bJ s U H x y u v Q I rx ry h;obtain⟨d,e,hx,hy,c1,c2,dp,q⟩:=h;obtain⟨as,a⟩:=hx.reads I rx;obtain⟨bs,b⟩:=hy.reads I ry;exact SeqAt.compareNe_reads a b c1 c2 40 ⟨.bl _,H,I,rfl,q⟩
inductive Zaq(K:W.Frag)(T:String)(xs:List V)(H:Hp)(Q:VK):Prop
 |mk (x:_) (t:_) (b:_) (h0:xs=[x,.ty T]) (h1:Vl K H x t) (h2:W.kitOne K t (.type T)=some b) (h3:Q (.bl b) H):Zaq K T xs H Q
def ZcV(K:W.Frag)(T:String):List V->Hp->VK->Prop:=fun xs H Q=>Zaq K T xs H Q
theorem Zbt(T:String):Yy X (.builtin "isinstance") (ZcV X.K T):=by
 intro bJ s U H xs us Q I r h;obtain⟨x,t,b,rfl,ht,hk,q⟩:=h;obtain⟨u,v,rfl,ru,rv⟩:=qU r;obtain rfl:v=Value.type T:=rv;exact vX I ru ht hk fun tk=>⟨.bl b,H,I.tok _,rfl,q⟩
example (K:W.Frag):W.kitOne K (.type "int") (.type "list")=some false:=by rfl
example (K:W.Frag):W.kitOne K (.type "bool") (.type "int")=some true:=by rfl
def U7(prog:Program)(w:World)(A:Around)(k:SortKind)(s:Shared)(xs:Array Keyed):Prop:=
 ∀p∈xs.toList,∀q∈xs.toList,∀(E:Value->41) (Q:Bool->41),(∀b,Q b s)->36 (keyLt' k p.1 q.1) Q E s
structure YY(k:SortKind)(a₀:Array Keyed)(st:SortSt):Prop where
 perm:(arrOf st).Perm a₀
 kind:kindOf st=k
 failed:failedOf st=none
 pend:pendingOf st=#[]
theorem YY.size{k:SortKind}{a₀:Array Keyed}{st:SortSt}(h:YY k a₀ st):(arrOf st).size=a₀.size:=h.perm.size_eq
theorem YY.set{k:SortKind}{a₀:Array Keyed}{st:SortSt}(h:YY k a₀ st){xs:Array Keyed}(hp:xs.Perm (arrOf st)):YY k a₀ (setArr st xs):=
 ⟨hp.trans h.perm,h.kind,h.failed,h.pend⟩
section
variable{a₀:Array Keyed}{k:SortKind}
theorem UO{st:SortSt}{i:Nat}{Q:Option Bool->SortSt->Prop}(hC:U7 prog w A k s a₀)(hB:YY k a₀ st)(hi:i<a₀.size)(hj:j<a₀.size)(h:∀b,Q (some b) st) :
  wpS 86 A E s (ltAt' i j) Q st:=by
 have at_:∀{i:Nat},i<a₀.size->∃p,(arrOf st)[i]?=some p/\p∈a₀.toList:=fun {i} hi=>by
  have oR:i<(arrOf st).size:=by rw[hB.size];exact hi
  exact⟨(arrOf st)[i],eX _ i oR,(ω.mp hB.perm).mem_iff.mp 39⟩
 obtain⟨p,hp,mp⟩:=at_ hi;obtain⟨q,hq,mq⟩:=at_ hj;rw[ltAt'_eq];refine dJ (wpS_get ?_)
 show wpS _ _ _ _ (do let x <- elem' (arrOf st) i;let y <- elem' (arrOf st) j;lt' x y) Q st
 rw[elem'_eq,elem'_eq,hp,hq];refine dJ (fk (dJ (fk ?_)));rw[lt'_eq];refine dJ (wpS_get ?_);rw[hB.kind];refine dJ (wpS_lift (gO (hC p mp q mq _ _ fun b=>⟨rfl,?_⟩)));exact fk (h b)
theorem zd{st:SortSt}{ok:Nat}{Q:Bool->SortSt->Prop}(hC:U7 prog w A k s a₀)(hn:n<=a₀.size)(hok:ok<=n)(hB:YY k a₀ st)
  (h:∀ox,YY k a₀ ox->Q true ox):wpS 86 A E s (binarySort' 0 n ok) Q st:=by
 rw[binarySort'_eq];simp only[gW];refine dJ (wpS_mono (wpS_forRange (I:=fun _ c ox=>c=(none,())/\YY k a₀ ox) (Q:=fun c ox=>c=(none,())/\YY k a₀ ox) ?step (fun _ _ z=>z) ⟨rfl,hB⟩) ?post)
 case post=>
  rintro c ox ⟨rfl,pT⟩;exact fk (h ox pT)
 case step=>
  rintro i c ox hak Fi ⟨rfl,pT⟩;refine dJ (wpS_mono (wpS_forRange (I:=fun x c pC=>pC=ox/\∃l r,c=(none,l,r)/\r<=i) (Q:=fun c pC=>pC=ox/\∃l r,c=(none,l,r)) ?istep ?ifin ⟨rfl,0,i,rfl,cP _⟩) ?ipost)
  case ifin=>
   rintro c pC ⟨rfl,l,r,rfl,_⟩;exact⟨rfl,l,r,rfl⟩
  case istep=>
   rintro x c pC _ hxk ⟨rfl,l,r,rfl,hr⟩;dsimp only
   by_cases hge:l≥r
   ·rw[og hge];exact fk ⟨rfl,l,r,rfl⟩
   ·rw[n8 hge];refine dJ (UO hC pT 40 40 fun b=>?_);cases b
    case true=>
     simp only[dq];exact fk ⟨rfl,l,(l+r)/2,rfl,by lia⟩
    case false=>
     simp only[c6,cX];exact fk ⟨rfl,(l+r)/2+1,r,rfl,hr⟩
  case ipost=>
   rintro c pC ⟨rfl,l,r,rfl⟩
   show wpS _ _ _ _ (do moveDown' i l;pure (ForInStep.yield (none,()))) _ _
   rw[moveDown'_eq];exact dJ (wpS_modify (fk ⟨rfl,pT.set (bubble_perm _ _ _)⟩))
theorem UR{st:SortSt}{a:Nat}{Q:AscSt->SortSt->Prop}(hC:U7 prog w A k s a₀)(hn:nrem<=a₀.size)(ha:1<=a)(Rh:a<=nrem)(hB:YY k a₀ st)
  (h:∀n,a<=n->n<=nrem->Q (none,n) st):wpS 86 A E s (ascLoop a nrem) Q st:=by
 unfold ascLoop;refine wpS_forRange (I:=fun x c ox=>ox=st/\c=(none,x)) ?step ?fin ⟨rfl,rfl⟩
 case fin=>
  rintro c ox ⟨rfl,rfl⟩;rw[show max a nrem=nrem by lia];exact h nrem Rh (cP _)
 case step=>
  rintro x c ox G1 TZ ⟨rfl,rfl⟩;dsimp only;refine dJ (UO hC hB 40 40 fun b=>?_);cases b
  case true=>simp only[dq];exact fk (h x G1 40)
  case false=>simp only[c6,cX];exact fk ⟨rfl,rfl⟩
theorem yT{st:SortSt}{Q:68->SortSt->Prop}(hC:U7 prog w A k s a₀)(hn:nrem<=a₀.size)(h1:1<=n)(AE:n<=nrem)(hB:YY k a₀ st)
  (h:∀m ox,YY k a₀ ox->1<=m->m<=nrem->Q (some m) ox):wpS 86 A E s (tail3 n nrem) Q st:=by
 unfold tail3;refine dJ (wpS_reverse ?_);have pT:YY k a₀ (setArr st (mirror (arrOf st) 0 n ((n-0)/2))):=hB.set (mirror_perm _ _ _ _);exact dJ (UR hC hn h1 AE pT fun m Mq Ce=>fk (h m _ pT 40 Ce))
theorem xO{st:SortSt}{Q:DescSt->SortSt->Prop}(hC:U7 prog w A k s a₀)(hn:nrem<=a₀.size)(h1:1<=n)(AE:n<=nrem)(hB:YY k a₀ st)
  (h:∀m uS ox,YY k a₀ ox->n<=m->m<=nrem->Q (none,m,uS) ox):wpS 86 A E s (descLoop n nrem) Q st:=by
 unfold descLoop;refine wpS_forRange (I:=fun x c ox=>∃uS,c=(none,x,uS)/\YY k a₀ ox) ?step ?fin ⟨0,rfl,hB⟩
 case fin=>
  rintro c ox ⟨uS,rfl,pT⟩;rw[show max n nrem=nrem by lia];exact h nrem uS ox pT AE (cP _)
 case step=>
  rintro x c ox G1 TZ ⟨uS,rfl,pT⟩;dsimp only;refine dJ (UO hC pT 40 40 fun b=>?_);cases b
  case true=>
   simp only[dq]
   by_cases hneq:uS>0
   ·rw[og hneq];exact dJ (wpS_reverse (fk ⟨0,rfl,pT.set (mirror_perm _ _ _ _)⟩))
   ·rw[n8 hneq];exact fk ⟨0,rfl,pT⟩
  case false=>
   simp only[c6,cX];refine dJ (UO hC pT 40 40 fun b=>?_);cases b
   case true=>simp only[dq];exact fk (h x uS ox pT G1 40)
   case false=>simp only[c6,cX];exact fk ⟨uS+1,rfl,pT⟩
theorem Uf{st:SortSt}{Q:68->SortSt->Prop}(hC:U7 prog w A k s a₀)(hn:nrem<=a₀.size)(AE:n+1<=nrem)(hB:YY k a₀ st)
  (h:∀m ox,YY k a₀ ox->1<=m->m<=nrem->Q (some m) ox):wpS 86 A E s (descPart n nrem) Q st:=by
 unfold descPart;refine dJ (wpS_lift (eN ⟨rfl,?_⟩));refine dJ (xO hC hn 40 AE hB fun m uS ox pT Mq Ce=>?_);dsimp only
 by_cases hneq:uS>0
 ·rw[og hneq];exact dJ (wpS_reverse (yT hC hn 40 Ce (pT.set (mirror_perm _ _ _ _)) h))
 ·rw[n8 hneq];exact yT hC hn 40 Ce pT h
theorem xx{st:SortSt}{Q:68->SortSt->Prop}(hC:U7 prog w A k s a₀)(hn:nrem<=a₀.size)(h1:1<=nrem)(hB:YY k a₀ st)
  (h:∀m ox,YY k a₀ ox->1<=m->m<=nrem->Q (some m) ox):wpS 86 A E s (countRun' 0 nrem) Q st:=by
 rw[countRun0_eq];refine dJ (UR hC hn (cP 1) h1 hB fun n E5 BO=>?_);dsimp only
 by_cases AE:n=nrem
 ·rw[og (by simpa using AE)];exact fk (h n st hB E5 BO)
 ·rw[n8 (by simpa using AE)]
  by_cases hgt:n>1
  ·rw[og hgt];refine dJ (UO hC hB 40 40 fun b=>?_);cases b
   case true=>simp only[dq];exact fk (h n st hB E5 BO)
   case false=>
    simp only[c6,cX];exact dJ (wpS_reverse (Uf hC hn 40 (hB.set (mirror_perm _ _ _ _)) h))
  ·rw[n8 hgt];exact Uf hC hn 40 hB h
def ZaW(a₀:Array Keyed)(st:SortSt):Prop:=(arrOf st).Perm a₀/\failedOf st=none/\pendingOf st=#[(0,a₀.size,0)]
theorem YY.done{st:SortSt}(hB:YY k a₀ st):ZaW a₀ (setPending st ((pendingOf st).push (0,a₀.size,0))):=
 ⟨hB.perm,hB.failed,by show(pendingOf st).push _=_;rw[hB.pend];rfl⟩
theorem xI{st:SortSt}{Q:Unit->SortSt->Prop}(hC:U7 prog w A k s a₀)(hB:YY k a₀ st)(h2:2<=a₀.size)(C8:a₀.size<64)
  (h:∀ox,(arrOf ox).Perm a₀->failedOf ox=none->Q () ox):wpS 86 A E s sortRuns' Q st:=by
 rw[sortRuns'_eq];refine dJ (wpS_get ?_);dsimp only;have S3:minRun' a₀.size a₀.size 0=a₀.size:=by
  obtain⟨f,hf⟩:∃f,a₀.size=f+1:=⟨a₀.size-1,by lia⟩;have:minRun' (f+1) a₀.size 0=a₀.size:=by rw[minRun'_succ,og C8];rfl
  rwa [<- hf] at this
 simp only[hB.size,S3];refine dJ (wpS_mono (wpS_forRange (I:=fun x c ox=>(x=0/\c=(none,0)/\YY k a₀ ox)\/(1<=x/\c=(none,a₀.size)/\ZaW a₀ ox)) (Q:=fun c ox=>c=(none,a₀.size)/\ZaW a₀ ox) ?step ?fin (.inl ⟨rfl,rfl,hB⟩)) ?post)
 case fin=>
  rintro c ox (⟨hx,_,_⟩|⟨_,hc,hD⟩)
  ·lia
  ·exact⟨hc,hD⟩
 case step=>
  rintro x c ox _ hx (⟨rfl,rfl,pT⟩|⟨hx1,rfl,hD⟩)
  ·dsimp only;rw[n8 40];simp only[iP,Nat.min_self,gW];refine dJ (xx hC (cP _) 40 pT fun m rE IE Mq Ce=>?_);dsimp only
   by_cases oM:m<a₀.size
   ·rw[og oM];refine dJ (wpS_lift (eN ⟨rfl,?_⟩));refine dJ (zd hC (cP _) Ce IE fun ui M7=>?_);simp only[dM,c6,cX];refine dJ (wpS_get ?_);have hb:(pendingOf ui).back?=none:=by rw[M7.pend];rfl
    rw[hb];dsimp only;exact dJ (wpS_modify (fk (.inr ⟨by lia,rfl,M7.done⟩)))
   ·rw[n8 oM];have hm:m=a₀.size:=by lia
    subst hm;refine dJ (wpS_get ?_);have hb:(pendingOf rE).back?=none:=by rw[IE.pend];rfl
    rw[hb];dsimp only;exact dJ (wpS_modify (fk (.inr ⟨by lia,rfl,IE.done⟩)))
  ·dsimp only;rw[og (cP _)];exact fk ⟨rfl,hD⟩
 case post=>
  rintro c ox ⟨rfl,hD⟩;dsimp only;refine dJ (wpS_mono (wpS_forRange (I:=fun _ c pC=>pC=ox/\c=(none,())) (Q:=fun c pC=>pC=ox/\c=(none,())) ?_ (fun _ _ hh=>hh) ⟨rfl,rfl⟩) ?_)
  ·rintro x c pC _ _ ⟨rfl,rfl⟩;refine dJ (wpS_get ?_);rw[og (by rw[hD.2.2];exact cP 1)];exact fk ⟨rfl,rfl⟩
  ·rintro c pC ⟨rfl,rfl⟩;exact fk (h _ hD.1 hD.2.1)
def UL(prog:Program)(w:World)(A:Around)(vs:45)(s:Shared):Prop:=
 2<=vs.length->∀(E:Value->41) (Q:SortKind->41),(∀k,U7 prog w A k s (pairsOf vs)->Q k s)->36 (keyKind' vs.toArray) Q E s
theorem zj{P:Fin->41}(ho:s.heap.get? a=some (seqObj "list" vs.toArray n))
  (hq:∀h',(∀b o,b≠a->s.heap.get? b=some o->h'.get? b=some o)->UL prog w A vs 49) (C8:vs.length<64)
  (h:∀out:45,out.Perm vs->P (.done (.ret .none)) { s with heap:=sortedHeap s.heap a vs out.toArray }) :
  36 (Builtin.«list.sort» ⟨[.ref a],[]⟩) P E s:=by
 rw[list_sort_plain];have ha:a<s.heap.objs.size:=cT ho;refine cN (listItems_at ho rfl ?_);refine cN (listUpdate_at ho rfl ?_);obtain⟨e1,tI⟩:∃e1,(s.heap.update a (Obj.mapSeq fun _=>#[])).get? a=some (seqObj "list" #[] e1):=⟨_,get?_update_seq ho (fun _=>#[])⟩;refine cN (seqEpoch_at tI rfl ?_);refine cN (wpAny_newTuple ?_);refine cN (wpAny_newList ?_);refine dh ?_;have Fj:(((s.heap.update a (Obj.mapSeq fun _=>#[])).push (seqObj "tuple" vs.toArray 0)).push (seqObj "list" #[] 0)).get? a=some (seqObj "list" #[] e1):=by
  rw[mB _ _ _ (by rw[size_push',gB];exact c9 (fS ha)),mB _ _ _ (by rw[gB];exact c9 ha)];exact tI
 have keep:∀b o,b≠a->s.heap.get? b=some o->(((s.heap.update a (Obj.mapSeq fun _=>#[])).push (seqObj "tuple" vs.toArray 0)).push (seqObj "list" #[] 0)).get? b=some o:=by
  intro b o hb z;have oS:b<s.heap.objs.size:=cT z;rw[mB _ _ _ (by rw[size_push',gB];exact c9 (fS oS)),mB _ _ _ (by rw[gB];exact c9 oS),fZ _ _ (eY hb)];exact z
 have hk:=hq _ keep
 show 36 _ P E { s with heap:=((s.heap.update a (Obj.mapSeq fun _=>#[])).push (seqObj "tuple" vs.toArray 0)).push (seqObj "list" #[] 0) }
 dsimp only;have pj:vs.toArray.size=vs.length:=by simp
 have IK:∀ox:SortSt,(arrOf ox).Perm (pairsOf vs)->(((arrOf ox).map (·.2)).toList).Perm vs:=by
  intro ox hp;have:=(ω.mp hp).map Prod.snd;rw[Array.toList_map];refine this.trans (List.Perm.of_eq ?_)
  show List.map Prod.snd (vs.toArray.zip vs.toArray).toList=vs
  rw[Array.toList_zip,List.map_snd_zip (cP _)]
 have fin:∀ox:SortSt,(arrOf ox).Perm (pairsOf vs)->P (.done (.ret .none)) { s with heap:=sortedHeap s.heap a vs ((arrOf ox).map (·.2)) }:=by
  intro ox hp;have:=h _ (IK ox hp);rw[Array.toArray_toList] at this;exact this
 by_cases h2:vs.toArray.size<2
 ·rw[og h2,og h2];refine cN (cO ?_);rw[StateT.run_pure];refine cN (cO ?_);dsimp only;refine cN (seqEpoch_at Fj rfl ?_);refine cN (listUpdate_at Fj rfl ?_ (hsz2:=by rw[Α];show(pairsOf vs).size<=_;rw[pairsOf_size,cQ];lia));simp only[mC,c6,cX];exact cO (fin (SortSt.mk' general' (vs.toArray.zip vs.toArray) #[] 7 none) (Array.Perm.refl _))
 ·rw[n8 h2,n8 h2];refine cN (hk 40 _ _ fun k hC=>?_);refine cN (ft (xI (k:=k) (a₀:=pairsOf vs) (st:=SortSt.mk' k (vs.toArray.zip vs.toArray) #[] 7 none) (Q:=fun _ ox=>(arrOf ox).Perm (pairsOf vs)/\failedOf ox=none) hC ⟨Array.Perm.refl _,rfl,rfl,rfl⟩ (by rw[pairsOf_size];lia) (by rw[pairsOf_size];exact C8) fun ox a1 a2=>⟨a1,a2⟩) ?_ fun _ _ e=>e)
  rintro⟨⟨⟩,ox⟩ s' ⟨rfl,hp,hf⟩;dsimp only;refine cN (seqEpoch_at Fj rfl ?_);refine cN (listUpdate_at Fj rfl ?_ (hsz2:=by refine fh (Nat.le_of_eq ((Α ..).trans (hp.size_eq.trans (pairsOf_size _)))) ?_;rw[cQ];lia));rw[hf];simp only[mC,c6,cX];exact cO (fin ox hp)
end
def Yl(prog:Program)(w:World)(n:Nat)(s:Shared)(x y:Value):Prop:=
 ∀(A:Around) (E:Value->41) (Q:Bool->41),A.units+n<cLine->(∀b,Q b s)->36 (eqBool x y) Q E s
def XH(prog:Program)(w:World)(n:Nat)(s:Shared)(x y:Value):Prop:=
 ∀(A:Around) (E:Value->41) (Q:Value->41),A.units+n<cLine->(∀b,Q (.bool b) s)->36 (richCompare .Lt x y) Q E s
def YL(s:Shared)(a:Addr)(xs:45):Prop:=∃o n,s.heap.get? a=some o/\o.cls=.type "tuple" /\ o.data=.seq xs.toArray n
theorem YL.typeIs{xs:45}(h:YL s a xs):s.TypeIs (.ref a) "tuple" := let ⟨o,_,ho,hc,_⟩:=h; ⟨o,ho,hc⟩
section
variable{prog:Program}{w:World}{n:Nat}{s:Shared}{A:Around}{E:Value->Shared->Prop}
theorem Yl.int(a b:Int)(t u:Tok):Yl prog w n s (.int a t) (.int b u):=fun A E Q _ h=>wpAny_eqBool_int (h _)
theorem Yl.str(a b:Str)(t u:Tok):Yl prog w n s (.str a t) (.str b u):=fun A E Q _ h=>wpAny_eqBool_str (h _)
theorem Yl.bool(a b:Bool):Yl prog w n s (.bool a) (.bool b):=fun A E Q _ h=>PySem.SeqAt.EqAt.bool_bool a b prog w E Q (h _)
theorem XH.int(a b:Int)(t u:Tok):XH prog w n s (.int a t) (.int b u):=fun A E Q _ h=>wpAny_lt_int (h _)
theorem XH.str(a b:Str)(t u:Tok):XH prog w n s (.str a t) (.str b u):=fun A E Q _ h=>
 wpAny_richCompare_same (op:=.Lt) (T := "str") (typeIs_str s a t) (typeIs_str s b u) slot_str_lt (call_str_lt ⟨by simp,h _⟩)
theorem XH.bool(a b:Bool):XH prog w n s (.bool a) (.bool b):=fun A E Q _ h=>
 wpAny_richCompare_same (op:=.Lt) (T := "bool") rfl rfl F.slot_bool_lt
  (eE F.slot_bool_lt rfl entry_int_lt (by cases a<;>cases b<;>exact(show 50 (ret (.bool _)) _ _ s from cO ⟨_,rfl,by simp,h _⟩)) (args_int_lt _ _))
theorem kB{xs:45}{P:Fin->41}(hu:A.units+n<cLine)(hx:YL s a xs)(hy:YL s b ys)(he:∀p∈xs.zip ys,Yl prog w n s p.1 p.2)
  (h:∀b,P (.done (.ret (.bool b))) s):36 (Builtin.«tuple.__eq__» ⟨[.ref a,.ref b],[]⟩) P E s:=by
 have Da:=hy.typeIs;obtain⟨oa,na,rY,_,sj⟩:=hx;obtain⟨ob,nb,rP,_,pI⟩:=hy
 show 50 (isInstance (.ref b) (.type "tuple") >>= _) _ _ s
 refine cN (fH Da iQ ?_);simp only[dM,c6,cX];refine cN (iC rY sj ?_);refine cN (iC rP pI ?_);refine cN ?_;refine gc _ (fun ZG r s'=>r.1=none/\s'=s/\∀p∈ZG,Yl prog w n s p.1 p.2) _ ?_ ?_ _ _ ⟨rfl,rfl,he⟩
 ·rintro⟨u,v⟩ ZG r s' ⟨hr,rfl,ha⟩;refine cN (ha (u,v) dC A _ _ hu fun b=>?_);cases b
  ·simp only[gP,dq];exact cN (cO (cO (cO (h false))))
  ·simp only[dM,c6,cX];exact cO ⟨rfl,rfl,fun p hp=>ha p (c7 _ hp)⟩
 ·rintro⟨r1,r2⟩ s' ⟨hr,rfl,_⟩;simp only at hr;subst hr;exact cO (h _)
theorem Yl.tup{a b:Addr}{xs ys:45}(hx:YL s a xs)(hy:YL s b ys)(he:∀p∈xs.zip ys,Yl prog w n s p.1 p.2):Yl prog w (n+1) s (.ref a) (.ref b):=by
 intro A E Q hu h;unfold eqBool
 try with_reducible refine dh ?_
 show 50 (if(Value.ref a==Value.ref b)=true then _ else _) Q E s
 by_cases hab:(Value.ref a==Value.ref b)=true
 ·rw[og hab];exact cN (eN (cO (h true)))
 ·rw[n8 hab];exact cN (lG (op:=.Eq) hx.typeIs hy.typeIs ie (eE ie hx.typeIs F.entry_tuple_eq (kB (n:=n) (by simp only[gX];lia) hx hy he fun b=>⟨_,rfl,(fun e=>nomatch e),fQ (h b)⟩) (F.args_tuple_eq_2 _ _)) 40)
theorem kj{xs:45}{P:Fin->41}(hu:A.units+n<cLine)(hx:YL s a xs)(hy:YL s b ys)(he:∀p∈xs.zip ys,Yl prog w n s p.1 p.2/\XH prog w n s p.1 p.2)
  (h:∀b,P (.done (.ret (.bool b))) s):36 (Builtin.«tuple.__lt__» ⟨[.ref a,.ref b],[]⟩) P E s:=by
 have Da:=hy.typeIs;obtain⟨oa,na,rY,_,sj⟩:=hx;obtain⟨ob,nb,rP,_,pI⟩:=hy
 show 50 (isInstance (.ref b) (.type "tuple") >>= _) _ _ s
 refine cN (fH Da iQ ?_);simp only[dM,c6,cX];refine cN (iC rY sj ?_);refine cN (iC rP pI ?_);refine cN ?_;refine gc _ (fun ZG r s'=>r.1=none/\s'=s/\∀p∈ZG,Yl prog w n s p.1 p.2/\XH prog w n s p.1 p.2) _ ?_ ?_ _ _ ⟨rfl,rfl,he⟩
 ·rintro⟨u,v⟩ ZG r s' ⟨hr,rfl,ha⟩;obtain⟨e1,e2⟩:=ha (u,v) dC;refine cN (e1 A _ _ hu fun b=>?_);cases b
  ·simp only[gP,dq];refine cN (eN (cN (e2 A _ _ hu fun b=>?_)));exact cN (cO (cO (cO (h b))))
  ·simp only[dM,c6,cX];exact cO ⟨rfl,rfl,fun p hp=>ha p (c7 _ hp)⟩
 ·rintro⟨r1,r2⟩ s' ⟨hr,rfl,_⟩;simp only at hr;subst hr;exact cO (h _)
theorem XH.tup{a b:Addr}{xs ys:45}(hx:YL s a xs)(hy:YL s b ys)(he:∀p∈xs.zip ys,Yl prog w n s p.1 p.2/\XH prog w n s p.1 p.2):XH prog w (n+1) s (.ref a) (.ref b):=by
 intro A E Q hu h;exact lG (op:=.Lt) hx.typeIs hy.typeIs F.slot_tuple_lt
   (eE F.slot_tuple_lt hx.typeIs F.entry_tuple_lt (kj (n:=n) (by simp only[gX];lia) hx hy he fun b=>⟨_,rfl,(fun e=>nomatch e),h b⟩) (F.args_tuple_lt_2 _ _)) 40
end
open PySem.SetTable
def VS(mask:Nat):Nat->Nat×Nat->Nat×Nat
 |0,p=>p
 |n+1,p=>VS mask n (leap mask p.1 p.2)
theorem VV(mask:Nat):∀(n:Nat) (p:Nat×Nat),VS mask (n+1) p=leap mask (VS mask n p).1 (VS mask n p).2
 |0,p=>rfl
 |n+1,p=>VV mask n (leap mask p.1 p.2)
theorem qa(mask:Nat):∀(n:Nat) (p:Nat×Nat),(VS mask n p).2=p.2/32 ^ n
 |0,p=>by simp[VS]
 |n+1,p=>by
  rw[VV]
  show(VS mask n p).2/32=_
  rw[qa,Nat.div_div_eq_div_mul,Nat.pow_succ]
def Zed(mask i:Nat):Nat:=(i*5+1)%(mask+1)
def Jt(mask:Nat):Nat->Nat->Nat
 |0,i=>i
 |n+1,i=>Zed mask (Jt mask n i)
theorem vM(mask:Nat){p:Nat×Nat}(hp:p.2<2 ^ 64):∀m,(VS mask (13+m) p).1=Jt mask m (VS mask 13 p).1
 |0=>rfl
 |m+1=>by
  rw[<- Nat.add_assoc,VV];have h0:(VS mask (13+m) p).2/32=0:=by
   rw[qa];have:p.2/32 ^ (13+m)=0:=by
    apply Nat.div_eq_of_lt;have:32 ^ 13<=32 ^ (13+m):=Nat.pow_le_pow_right 61 40;have:(2:Nat) ^ 64<32 ^ 13:=by left
    lia
   rw[this]
  show((VS mask (13+m) p).1*5+1+(VS mask (13+m) p).2/32)%(mask+1)=_
  rw[h0,vM mask hp m];rfl
def Xj(mask:Nat):Bool:=(γ (mask+1)).all fun i=>(γ (mask+1)).all fun j=>(γ (mask+1)).any fun m=>Jt mask m i==j
theorem ZcR:Xj 7=true:=by left
theorem Kl:Xj 31=true:=by left
theorem ZbL(mask:Nat)(n:Nat)(p:Nat×Nat):(VS mask (n+1) p).1<mask+1:=by
 rw[VV];exact ig _ (Nat.succ_pos _)
theorem cover(hc:Xj mask=true){p:Nat×Nat}(hp:p.2<2 ^ 64)(hj:j<=mask):∃n,1<=n/\n<turns mask/\(VS mask n p).1=j:=by
 unfold Xj at hc;have h1:=dU.mp hc _ (dY.mpr (ZbL mask 12 p));have h2:=dU.mp h1 j (dY.mpr 40);obtain⟨m,hm,e⟩:=fD.mp h2;refine⟨13+m,by lia,?_,?_⟩
 ·have:=dY.mp hm;unfold turns;lia
 ·rw[vM mask hp];simpa using e
section
variable{t:SetTable}{hashAt:Nat->Int}{h:Int}
def Pl(p:Probe):Nat×Nat:=(p.i,p.perturb)
theorem Za6(mask i:Nat):runEnd mask i-i<=9:=by unfold runEnd;split<;>lia
theorem XO(hd:t.dummies=#[])(j:Nat):t.slot j≠.dummy:=by
 unfold SetTable.slot;have:SetTable.has t.dummies j=false:=by rw[hd];rfl
 simp only[this]
 split<;>simp
theorem zy(hd:t.dummies=#[]){f:Nat}{p:Probe}(hg:probe.go t hashAt h (f+1) p=none):t.slot p.j≠.empty/\probe.go t hashAt h f (t.advance p)=none:=by
 unfold probe.go at hg;cases hs:t.slot p.j with
 |empty=>rw[hs] at hg;simp at hg
 |dummy=>exact oh hs (XO hd _)
 |live i=>
  rw[hs] at hg;refine⟨by simp,?_⟩;simp only at hg
  split at hg
  ·simp at hg
  ·exact hg
theorem J5(hd:t.dummies=#[]):∀{f f':Nat}{p:Probe},f'<=f->probe.go t hashAt h f p=none->probe.go t hashAt h f' p=none
 |_,0,p,_,_=>rfl
 |0,f'+1,p,hf,_=>by lia
 |f+1,f'+1,p,hf,hg=>by
  obtain⟨h1,h2⟩:=zy hd hg;have ih:=J5 hd (f':=f') 40 h2;unfold probe.go at hg ⊢;cases hs:t.slot p.j with
  |empty=>exact oh hs h1
  |dummy=>exact oh hs (XO hd _)
  |live i=>
   rw[hs] at hg;simp only at hg ⊢
   split at hg
   ·simp at hg
   ·rename_i oF;rw[n8 oF];exact ih
theorem Zam(hd:t.dummies=#[]):∀{m f:Nat}{p:Probe},p.more=m->probe.go t hashAt h (f+m+1) p=none ->
  ∃q:Probe,q.more<=9/\Pl q=leap t.mask p.i p.perturb/\q.j=q.i/\probe.go t hashAt h f q=none
 |0,f,p,hm,hg=>by
  obtain⟨_,h2⟩:=zy hd hg;refine⟨t.advance p,?_,?_,?_,h2⟩
  all_goals (unfold advance;rw[n8 40])
  ·exact Za6 _ _
  ·rfl
 |m+1,f,p,hm,hg=>by
  obtain⟨_,h2⟩:=zy (f:=f+m+1) hd hg;have e:t.advance p={ p with j:=p.j+1,more:=p.more-1 }:=by unfold advance;rw[og 40]
  rw[e] at h2;obtain⟨q,a,b,c,d⟩:=Zam (m:=m) (p:={ p with j:=p.j+1,more:=p.more-1 }) hd (by simp only;lia) h2;exact⟨q,a,b,c,d⟩
theorem kr(hd:t.dummies=#[]):∀{k:Nat}{p:Probe},p.more<=9->probe.go t hashAt h (10*k) p=none->∀n,1<=n->n<k->t.slot (VS t.mask n (Pl p)).1≠.empty
 |0,p,_,_,n,_,hn=>by lia
 |k+1,p,hp,hg,n,h1,hn=>by
  obtain⟨q,a,b,c,d⟩:=Zam (f:=10*k+(9-p.more)) (m:=p.more) (p:=p) hd rfl (by rw[show 10*k+(9-p.more)+p.more+1=10*(k+1) by lia];exact hg);have d':=J5 hd (f':=10*k) 40 d;obtain⟨n,rfl⟩:∃n',n=n'+1:=⟨n-1,by lia⟩
  show t.slot (VS t.mask n (leap t.mask (Pl p).1 (Pl p).2)).1≠.empty
  have e:leap t.mask (Pl p).1 (Pl p).2=Pl q:=b.symm;rw[e]
  by_cases h0:n=0
  ·subst h0;have hk:1<=k:=by lia
   obtain⟨k',rfl⟩:∃k',k=k'+1:=⟨k-1,by lia⟩;have:=(zy (f:=10*k'+9) hd d').1;rw[c] at this;exact this
  ·exact kr hd a d' n 40 40
theorem Jb(hd:t.dummies=#[])(hc:Xj t.mask=true)(hj:j<=t.mask)(he:t.slot j=.empty){p:Probe}(hp:p.more<=9)(hq:p.perturb<2 ^ 64) :
  ∃m,t.probe hashAt h p=some m:=by
 cases hg:t.probe hashAt h p with
 |some m=>exact⟨m,rfl⟩
 |none=>
  obtain⟨n,h1,h2,e⟩:=cover hc (p:=Pl p) hq hj;have:=kr hd hp hg n h1 h2;rw[e] at this;exact oh he this
end
theorem zS:∀{l₁ l₂:List Nat},l₁.Nodup->(∀x∈l₁,x∈l₂)->l₁.length<=l₂.length
 |[],_,_,_=>by simp
 |x::r,l₂,nd,h=>by
  obtain⟨h1,h2⟩:=fY.mp nd;have hx:=h x 39;have:=zS (l₂:=l₂.erase x) h2 fun y hy=>(mD (fun e=>h1 (by rw[<- e];exact hy))).mpr (h y (c7 _ hy));rw[mX hx] at this;have:=mY hx;rw[fc];lia
theorem Qm(hd:t.dummies=#[])(hf:t.place.size<=t.mask):∃j,j<=t.mask/\t.slot j=.empty:=by
 apply mE;intro hn;have all:∀j∈γ (t.mask+1),j∈t.place.toList:=by
  intro j hj;have tU:j<=t.mask:=by have:=dY.mp hj;lia
  cases hs:t.slot j with
  |empty=>exact oh ⟨j,tU,hs⟩ hn
  |dummy=>exact oh hs (XO hd _)
  |live i=>
   unfold SetTable.slot at hs;simp only at hs
   split at hs
   ·rename_i he
    have he':t.place[below t.place j]?=some j:=by simpa using he
    have:=gY he';simpa using this
   ·split at hs<;>simp at hs
 have:=zS Τ all;rw[gC] at this;simp at this;lia
theorem vB{mask:Nat}{owner:Array (68)}:∀{k i perturb:Nat},layClean.free mask owner k i perturb=none->∀n,n<k->(owner.getD (VS mask n (i,perturb)).1 (some 0)).isNone=false
 |0,i,p,_,n,hn=>by lia
 |k+1,i,p,hg,n,hn=>by
  unfold layClean.free at hg;cases hf:(γ (runEnd mask i+1-i)).find? fun k=>(owner.getD (i+k) (some 0)).isNone with
  |some k=>rw[hf] at hg;simp at hg
  |none=>
   rw[hf] at hg;simp only at hg;cases n with
   |zero=>
    have h0:0∈γ (runEnd mask i+1-i):=by
     rw[dY];unfold runEnd;split<;>lia
    have:=mF.mp hf 0 h0;exact iD.mpr this
   |succ n=>exact vB (i:=(leap mask i p).1) (perturb:=(leap mask i p).2) hg n 40
theorem Zbz(hc:Xj mask=true)(hj:j<=mask)(he:(owner.getD j (some 0)).isNone=true){i perturb:Nat}(hp:perturb<2 ^ 64) :
  ∃r,layClean.free mask owner (turns mask) i perturb=some r:=by
 cases hg:layClean.free mask owner (turns mask) i perturb with
 |some r=>exact⟨r,rfl⟩
 |none=>
  obtain⟨n,_,h2,e⟩:=cover hc (p:=(i,perturb)) hp hj;have:=vB hg n h2;rw[e,he] at this;exact oh this 39
theorem KI{mask:Nat}{owner:Array (68)}:∀{k i perturb r:Nat},layClean.free mask owner k i perturb=some r->(owner.getD r (some 0)).isNone=true
 |0,i,p,r,hg=>by simp[layClean.free] at hg
 |k+1,i,p,r,hg=>by
  unfold layClean.free at hg;cases hf:(γ (runEnd mask i+1-i)).find? fun k=>(owner.getD (i+k) (some 0)).isNone with
  |some m=>
   rw[hf] at hg;simp only[Option.some.injEq] at hg;subst hg;have:=List.find?_some hf;exact this
  |none=>
   rw[hf] at hg;exact KI (i:=(leap mask i p).1) (perturb:=(leap mask i p).2) hg
structure Lay(mask:Nat)(owner:Array (68))(k:Nat):Prop where
 size:owner.size=mask+1
 perm:(owner.toList.filterMap id).Perm (γ k)
theorem jX:∀{l:List (68)}{j k:Nat},l[j]?=99->((l.set j (some k)).filterMap id).Perm (k::l.filterMap id)
 |[],j,k,h=>by simp at h
 |a::l,0,k,h=>by
  simp at h;subst h;simp
 |a::l,j+1,k,h=>by
  have ih:=jX (l:=l) (j:=j) (k:=k) (by simpa using h);cases a with
  |none=>simpa using ih
  |some x=>
   simp only[List.set_cons_succ,i9,id];exact(ih.cons x).trans (List.Perm.swap _ _ _)
theorem Lay.put{k r:Nat}(h:Lay mask owner k)(hr:(owner.getD r (some 0)).isNone=true):Lay mask (owner.setIfInBounds r (some k)) (k+1):=by
 have e:owner[r]?=99:=by
  rw[ii] at hr;cases hh:owner[r]? with
  |none=>rw[hh] at hr;simp at hr
  |some x=>
   rw[hh] at hr;cases x with
   |none=>rfl
   |some y=>simp at hr
 refine⟨by rw[Array.size_setIfInBounds];exact h.size,?_⟩;rw[Array.toList_setIfInBounds];refine(jX (by simpa using e)).trans ?_;rw[lH];exact((h.perm.cons k).trans (List.perm_append_singleton k _).symm)
theorem Lay.room{k:Nat}(h:Lay mask owner k)(hk:k<=mask):∃j,j<=mask/\(owner.getD j (some 0)).isNone=true:=by
 apply mE;intro hn;have all:∀o∈owner.toList,o.isSome=true:=by
  intro o ho;obtain⟨j,hj,e⟩:=fo ho;cases o with
  |some x=>rfl
  |none=>
   have tU:j<owner.size:=by simpa using hj
   refine oh ⟨j,by have:=h.size;lia,?_⟩ hn;rw[ii,eX owner j tU];have:owner[j]=none:=by rw[<- e];simp
   rw[this];rfl
 have len:∀l:List (68),(∀o∈l,o.isSome=true)->(l.filterMap id).length=l.length:=by
  intro l
  induction l with
  |nil=>intro _;rfl
  |cons a l ih=>
   intro h;have:=h a 39;cases a with
   |none=>simp at this
   |some x=>simp only[i9,id,fc];rw[ih fun o ho=>h o (c7 _ ho)]
 have e1:=h.perm.length_eq;rw[len _ all,gC] at e1;have:=h.size;simp at e1;lia
theorem Kg(h:Int):bits h<2 ^ 64:=by
 unfold bits;have h1:=ij h (b:=2 ^ 64) 61;have h2:=ik h (b:=2 ^ 64) 61;lia
theorem ky{mask:Nat}(hc:Xj mask=true):∀(hs:70) {owner:Array (68)}{k:Nat},Lay mask owner k->k+hs.length<=mask+1 ->
  ∃ud,(hs.foldl (fun(acc:Option (Array (68)×Nat)) h=>do
   let (owner,k) <- acc
   let j <- layClean.free mask owner (turns mask) (bits h%(mask+1)) (bits h)
   pure (owner.setIfInBounds j (some k),k+1)) (some (owner,k)))=some (ud,k+hs.length)/\Lay mask ud (k+hs.length)
 |[],owner,k,L,_=>⟨owner,rfl,L⟩
 |h::hs,owner,k,L,hl=>by
  rw[fc] at hl;obtain⟨j,hj,he⟩:=L.room 40;obtain⟨r,er⟩:=Zbz hc hj he (i:=bits h%(mask+1)) (Kg h);obtain⟨o',e,L'⟩:=ky hc hs (L.put (KI er)) 40;refine⟨o',?_,?_⟩
  ·rw[List.foldl_cons,fc,show k+(hs.length+1)=k+1+hs.length by lia,<- e]
   congr 1
   show(layClean.free mask owner (turns mask) (bits h%(mask+1)) (bits h) >>= fun j=>pure (owner.setIfInBounds j (some k),k+1))=_
   rw[er];rfl
  ·rw[fc,show k+(hs.length+1)=k+1+hs.length by lia];exact L'
theorem kJ(hc:Xj mask=true)(hl:hs.size<=mask+1):∃owner,layClean mask hs=some owner/\Lay mask owner hs.size:=by
 have L0:Lay mask (Array.replicate (mask+1) none) 0:=⟨by simp,by
  rw[Array.toList_replicate];have:(η (mask+1) (none:68)).filterMap id=[]:=by
   rw[Η];intro a ha;rw[mH ha];rfl
  rw[this];exact List.Perm.refl _⟩
 obtain⟨o,e,L⟩:=ky hc hs.toList L0 (by simpa using hl);refine⟨o,?_,by simpa using L⟩;unfold layClean;rw[<- Array.foldl_toList,e];rfl
theorem jR:∀{n:Nat},owner.size=n->(((γ n).filterMap fun j=>(owner.getD j none).map (j,·)).map (·.2))=owner.toList.filterMap id:=by
 rintro n rfl;rw[List.map_filterMap];have e:owner.toList=(γ owner.size).map fun j=>owner.getD j none:=by
  apply List.ext_getElem
  ·simp
  ·intro i h1 h2;have:i<owner.size:=by simpa using h1
   simp[ii,eX owner i this]
 have ff:(fun j=>Option.map (·.2) ((owner.getD j none).map (Prod.mk j)))=(id∘fun j=>owner.getD j none):=by
  funext j
  show Option.map (·.2) ((owner.getD j none).map (Prod.mk j))=owner.getD j none
  cases owner.getD j none<;>rfl
 rw[e,List.filterMap_map,<- ff]
theorem ZbV{finger moves:Nat}{led plain:Bool}(hc:Xj mask=true)(hl:hs.size<=mask+1) :
  ∃t pd,laid mask finger moves led plain hs=some (t,pd)/\t.mask=mask/\t.dummies=#[]/\t.place.size=hs.size/\t.led=led/\t.plain=plain/\pd.toList.Perm (γ hs.size):=by
 obtain⟨o,e,L⟩:=kJ hc hl;refine⟨_,_,by unfold laid;rw[e];rfl,rfl,rfl,?_,rfl,rfl,?_⟩
 ·have:=dt ζ (jR L.size);rw[L.perm.length_eq,gC,cS] at this;simpa using this
 ·have:(((γ (mask+1)).filterMap fun j=>(o.getD j none).map (j,·)).map (·.2)).Perm (γ hs.size):=by rw[jR L.size];exact L.perm
  simpa using this
def qJ(t:SetTable):Nat->Probe->Prop
 |0,p=>t.slot p.j=.empty
 |d+1,p=>t.slot p.j=.empty\/qJ t d (t.advance p)
section
variable{t:SetTable}{hashAt:Nat->Int}{h:Int}
theorem kL(hd:t.dummies=#[])(hh:∀i,(hashAt i==h)=false):∀{f:Nat}{p:Probe}{m:Met},probe.go t hashAt h (f+1) p=some m->qJ t f p
 |f,p,m,hg=>by
  unfold probe.go at hg;cases hs:t.slot p.j with
  |empty=>cases f with
   |zero=>exact hs
   |succ f=>exact .inl hs
  |dummy=>exact oh hs (XO hd _)
  |live i=>
   rw[hs] at hg;simp only[hh i,c6,cX] at hg;cases f with
   |zero=>simp[probe.go] at hg
   |succ f=>exact .inr (kL hd hh hg)
theorem kK(hd:t.dummies=#[]):∀{f d:Nat}{p:Probe},qJ t d p->d<f->∃m,probe.go t hashAt h f p=some m /\
  ((∃j,m=.empty j p.dummy/\t.slot j=.empty)\/(∃j i next,m=.candidate j i next/\t.slot j=.live i/\next.dummy=p.dummy/\∃d',d'<d/\qJ t d' next))
 |0,d,p,_,hl=>by lia
 |f+1,d,p,hr,hl=>by
  unfold probe.go;cases hs:t.slot p.j with
  |empty=>exact⟨_,rfl,.inl ⟨_,rfl,hs⟩⟩
  |dummy=>exact oh hs (XO hd _)
  |live i=>
   cases d with
   |zero=>rw[show t.slot p.j=.empty from hr] at hs;cases hs
   |succ d=>
    have pE:qJ t d (t.advance p):=by
     rcases hr with z|z
     ·rw[z] at hs;cases hs
     ·exact z
    have A6:(t.advance p).dummy=p.dummy:=by unfold advance;split<;>rfl
    by_cases he:(hashAt i==h)=true
    ·simp only[he,dq];exact⟨_,rfl,.inr ⟨_,_,_,rfl,hs,A6,d,by lia,pE⟩⟩
    ·simp only[he,cX];obtain⟨m,e,q⟩:=kK hd (f:=f) pE 40;refine⟨m,e,?_⟩;rw[A6] at q;rcases q with q|⟨j,i',next,a,b,c,d',h1,h2⟩
     ·exact .inl q
     ·exact .inr ⟨j,i',next,a,b,c,d',by lia,h2⟩
theorem kc(hd:t.dummies=#[])(hc:Xj t.mask=true)(hf:t.place.size<=t.mask)(h:Int):qJ t (10*turns t.mask-1) (t.probeStart h):=by
 obtain⟨j,hj,he⟩:=Qm hd hf;obtain⟨m,e⟩:=Jb (hashAt:=fun _=>h+1) (h:=h) hd hc hj he (p:=t.probeStart h) (Za6 _ _) (Kg h);refine kL (hashAt:=fun _=>h+1) (h:=h) (m:=m) hd (fun _=>by simp;lia) ?_;have:10*turns t.mask-1+1=10*turns t.mask:=by unfold turns;lia
 rw[this];exact e
theorem KZ{i:Nat}(hs:t.slot j=.live i):i<t.place.size:=by
 unfold SetTable.slot at hs;simp only at hs
 split at hs
 ·rename_i he
  simp only[Slot.live.injEq] at hs;subst hs;have he':t.place[below t.place j]?=some j:=by simpa using he
  exact(Array.getElem?_eq_some_iff.mp he').1
 ·split at hs<;>simp at hs
end
section
variable{o:Obj}{es:Array (Int×Value)}{x:Value}{h:Int}{Q:SetFound->Shared->Prop}
theorem JQ(hu:A.units+n<cLine)(ho:s.heap.get? a=some o)(hd:o.data=.set es ep t)(hf:t.fits es.size=true)(A6:t.dummies=#[])(hg:t.gaveWay=false)
  (BG:∀e∈es.toList,∃b,e.2=.ref b) (IJ:∀e∈es.toList,Yl prog w n s e.2 x)
  (uj:∀l:45,(∀y∈l,∃e∈es.toList,e.2=y)->∀(Q:Bool->41),Q false s->36 (searchCouldBeSeen x l) Q E s)
  (h1:0<es.size->Q (.there none) s) (h2:∀j,t.slot j=.empty->Q (.free j false) s) :
  ∀(d sH:Nat) (rc:Option Probe),qJ t d (rc.getD (t.probeStart h))->d<10*turns t.mask->d<sH->(rc.getD (t.probeStart h)).dummy=none ->
   36 (setSearchFrom a x h true sH rc) Q E s:=by
 intro d
 induction d using Nat.strongRecOn with
 |_ d ih=>
  intro sH rc hr hl hfu R3;cases sH with
  |zero=>lia
  |succ sH=>
   unfold setSearchFrom;refine cN (dX ho hd hf ?_);dsimp only;rw[hg];simp only[c6,cX];have we:∀hashAt,∃m,t.probe hashAt h (rc.getD (t.probeStart h))=some m /\
     ((∃j,m=.empty j none/\t.slot j=.empty)\/(∃j i next,m=.candidate j i next/\t.slot j=.live i/\next.dummy=none/\∃d',d'<d/\qJ t d' next)):=fun hashAt=>by
    have:=kK (hashAt:=hashAt) (h:=h) A6 hr hl;rw[R3] at this;exact this
   generalize hx:t.probe _ h (rc.getD (t.probeStart h))=r;obtain⟨m,e,q⟩:=we _;rw[e] at hx;subst hx;rcases q with⟨j,rfl,hj⟩|⟨j,i,next,rfl,hs,sd,d',pF,pE⟩
   ·exact cO (h2 j hj)
   ·have hi:i<es.size:=by
     have h1:=KZ hs;simp only[SetTable.fits,dg,iz,decide_eq_true_eq] at hf;lia
    have he:es[i]?=some es[i]:=eX es i hi;have hm:es[i]∈es.toList:=by simp
    obtain⟨b,hb⟩:=BG _ hm;have hq:=IJ _ hm;generalize es[i]=ei at he hm hb hq;obtain⟨eh,ev⟩:=ei;simp only at hb hq;subst hb;have sm:t.sameMemory t.moves t.mask=some true:=by unfold SetTable.sameMemory;simp
    have Ax:∀(P:Bool->41),P true s->36 (isSame (.ref b) (.ref b)) P E s:=fun P hP=>by
     unfold isSame;simp only[lI,dq];exact cO hP
    dsimp only;cases oG:t.led
    ·simp only[gP,dq];refine cN (uj _ (fun y hy=>?_) _ ?_)
     ·obtain⟨e,he,rfl⟩:=da.mp hy;refine⟨e,?_,rfl⟩;have:=mV.mp he;exact mV.mpr (Array.mem_of_mem_filter this)
     ·simp only[c6,cX];rw[he];dsimp only;refine cN (dh (hq A _ _ hu fun b'=>?_));refine cN (dX ho hd hf ?_);dsimp only;cases b'
      ·simp only[iA,c6,cX];rw[sm];simp only[dq];rw[hs];dsimp only;rw[he];dsimp only;refine cN (Ax _ (cN (cO ?_)));simp only[dq];exact ih d' pF sH (some next) pE 40 40 sd
      ·simp only[Ν,dq];exact cO (h1 40)
    ·simp only[dM,c6,cX];rw[he];dsimp only;refine cN (dh (hq A _ _ hu fun b'=>?_));refine cN (dX ho hd hf ?_);dsimp only;cases b'
     ·simp only[iA,c6,cX];rw[sm];simp only[dq];rw[hs];dsimp only;rw[he];dsimp only;refine cN (Ax _ (cN (cO ?_)));simp only[dq];exact ih d' pF sH (some next) pE 40 40 sd
     ·simp only[Ν,dq];exact cO (h1 40)
end
def xS(t:SetTable)(n:Nat):Prop:=t.dummies=#[]/\t.place.size=n/\((t.mask=7/\n<5)\/(t.mask=31/\n<19))
theorem xS.fits{t:SetTable}{n:Nat}(h:xS t n):t.fits n=true:=by
 obtain⟨h1,h2,h3⟩:=h;unfold SetTable.fits SetTable.fill;rw[h1,h2];rcases h3 with⟨m,l⟩|⟨m,l⟩<;>simp[m]<;>lia
theorem xS.cover(h:xS t n):Xj t.mask=true/\t.place.size<=t.mask/\t.gaveWay=false/\10*turns t.mask<=460/\0<turns t.mask:=by
 obtain⟨h1,h2,h3⟩:=h;rcases h3 with⟨m,l⟩|⟨m,l⟩
 ·rw[m];exact⟨ZcR,by lia,by unfold SetTable.gaveWay;rw[m];rfl,by left,by left⟩
 ·rw[m];exact⟨Kl,by lia,by unfold SetTable.gaveWay;rw[m];rfl,by left,by left⟩
theorem Ue(xs:Array α)(p:Nat)(x:α):(SetTable.insertAt xs p x).size=xs.size+1:=by
 have:=(SetTable.insertAt_perm xs p x).length_eq;simpa using this
def kq(B:Bool)(h:Heap)(a:Addr)(vs:45):Prop:=∃o es ep t,h.get? a=some o/\o.ExactSet/\o.data=.set es ep t/\xS t es.size/\(B=false->t.led=true)/\(∀e∈es.toList,e.2∈vs)/\es.size<=vs.length/\(vs≠[]->0<es.size)
section
variable{x:Value}{h:Int}{Q:Bool->Shared->Prop}
theorem Xr{hp:Heap}{o:Obj}{es es':88}{t':SetTable}(ho:hp.get? a=some o)(hd:o.data=.set es ep t) :
  (hp.update a (Obj.putSet es' t')).get? a=some { o with data:=.set es' (ep+1) t' }:=by
 have:=fO (Obj.putSet es' t') ho (by rw[putSet_of es' t' hd];rfl);rw[putSet_of es' t' hd] at this;exact this
theorem Zal{o:Obj}{es:88}{Q:Unit->41}(ho:s.heap.get? a=some o)(hd:o.data=.set es ep t)(hf:t.fits es.size=true)(hn:es.size=5)
  (hq:∀es' t',xS t' es'.size->t'.led=t.led->es'.toList.Perm es.toList->Q () { s with heap:=s.heap.update a (Obj.putSet es' t') }) :
  36 (setRelay a 20) Q E s:=by
 unfold setRelay;refine cN (dX ho hd hf ?_);dsimp only;have hs:SetTable.sizeAbove 20=32:=by left
 rw[hs,n8 (by rw[cQ];lia)];obtain⟨t',pd,e,m1,m2,m3,m4,m5,m6⟩:=ZbV (mask:=31) (finger:=t.finger) (moves:=t.movedTo 31) (led:=t.led) (plain:=t.plain) Kl (hs:=es.map (·.1)) (by rw[Α];lia);have e':t.relaid (es.map (·.1)) 20=some (t',pd):=by unfold SetTable.relaid;rw[hs];exact e
 rw[e'];rw[Α] at m3 m6;have pm:(pd.filterMap (es[·]?)).toList.Perm es.toList:=by
  rw[Array.toList_filterMap];refine(m6.filterMap _).trans (List.Perm.of_eq ?_);exact filterMap_getElem?_range es
 have sz:(pd.filterMap (es[·]?)).size=es.size:=by
  have:=pm.length_eq
  rwa [dj,dj] at this
 refine cN (show 50 (if((pd.filterMap (es[·]?)).size != es.size)=true then _ else pure ((pd.filterMap (es[·]?)),t')) _ _ s from ?_);rw[n8 (by simp[sz])];refine cO ?_;dsimp only;exact gZ ho hd (hq _ t' ⟨m2,by rw[sz];exact m3,.inr ⟨m1,by rw[sz];lia⟩⟩ m4 pm) (by rw[sz,cQ];lia)
theorem ZbI(hx:x=.ref b)(hu:A.units+n<cLine)(hS:kq B s.heap a vs)(hl:vs.length+1<19)
  (BG:∀v∈vs,∃b,v=.ref b) (IJ:∀v∈vs,Yl prog w n s v x)
  (uj:∀l:45,(∀y∈l,y∈vs)->∀(Q:Bool->41),Q false s->36 (searchCouldBeSeen x l) Q E s)
  (TH:∀(Q:Bool->41),(∀b,Q b s)->36 (hashByValue 8 x) Q E s)
  (hq:∀h' b,Heap.SameBut a s.heap h'->kq B h' a (vs++[x])->Q b 49):36 (setAddHashed a x h) Q E s:=by
 obtain⟨o,es,ep,t,ho,hex,hd,hT,hL,oP,Ai,oF⟩:=hS;have hf:=hT.fits;obtain⟨c1,c2,c3,c4,c5⟩:=hT.cover;unfold setAddHashed setAddHashedIn;refine dh (cN (dX ho hd hf ?_));dsimp only;have EK:byScan x es=false:=by unfold byScan;rw[hx];rfl
 rw[EK];simp only[c6,cX];unfold setSearch;refine cN (JQ hu ho hd hf hT.1 c3 (fun e m=>BG _ (oP e m)) (fun e m=>IJ _ (oP e m)) (fun l hy=>uj l fun y m=>by obtain⟨e,m',rfl⟩:=hy y m;exact oP e m') ?there ?free (10*turns t.mask-1) 100000 none (kc hT.1 c1 c2 h) 40 40 rfl)
 case there=>
  intro h0;dsimp only;refine cO ?_;have e:s={ s with heap:=s.heap }:=rfl;rw[e];exact hq s.heap false ⟨rfl,fun _ _=>rfl⟩ ⟨o,es,ep,t,ho,hex,hd,hT,hL,fun e m=>dN _ (oP e m),by rw[cZ];lia,fun _=>h0⟩
 case free=>
  intro j hj;dsimp only;refine cN (dX ho hd hf ?_);dsimp only;have A6:(t.put j).1.dummies=#[]:=by
   unfold SetTable.put;simp only;have:SetTable.has t.dummies j=false:=by rw[hT.1];rfl
   rw[this];simp[hT.1]
  have pU:(t.put j).1.place.size=es.size+1:=by
   unfold SetTable.put;simp only;rw[Ue,hT.2.1]
  have FE:(t.put j).1.mask=t.mask:=rfl;have Om:(t.put j).1.led=t.led:=rfl;have Aq:=SetTable.insertAt_perm es (t.put j).2 (h,x);have pj:=Ue es (t.put j).2 (h,x);generalize SetTable.insertAt es (t.put j).2 (h,x)=om at Aq pj ⊢;have uI:∀e∈om.toList,e.2∈vs++[x]:=by
   intro e m;have:=Aq.mem_iff.mp m;rw[iR,db] at this;rcases this with m|m
   ·exact dN _ (oP e m)
   ·rw[df] at m;subst m;simp
  generalize (t.put j).1=t1 at A6 pU FE Om ⊢;have ZG:∀bv:Bool,36 (do
    storeSet a om (if bv=true then t1 else { t1 with plain:=false })
    if(!false&&(if bv=true then t1 else { t1 with plain:=false }).tooFull)=true then do
     setRelay a (SetTable.grown (es.size+1))
     pure true
    else pure true) Q E s:=by
   intro bv;generalize re:(if bv=true then t1 else { t1 with plain:=false })=t2;have d2:t2.dummies=#[]:=by subst re;cases bv<;>exact A6
   have p2:t2.place.size=es.size+1:=by subst re;cases bv<;>exact pU
   have k2:t2.mask=t.mask:=by subst re;cases bv<;>exact FE
   have l2:t2.led=t.led:=by subst re;cases bv<;>exact Om
   refine cN (gZ ho hd ?_ (by rw[pj,cQ];lia));have hg:=Xr (es':=om) (t':=t2) ho hd;have uB:t2.fill=es.size+1:=by unfold SetTable.fill;rw[d2,p2];rfl
   have sb:Heap.SameBut a s.heap (s.heap.update a (Obj.putSet om t2)):=⟨gB _ _ _,fun b hb=>fZ _ _ (eY hb)⟩
   by_cases hfull:t2.tooFull=true
   ·rw[og (by rw[hfull];rfl)];have h5:es.size=4:=by
     unfold SetTable.tooFull at hfull;rw[uB,k2] at hfull;have:=dE hfull;rcases hT.2.2 with⟨m,l⟩|⟨m,l⟩<;>rw[m] at this<;>lia
    have T3:SetTable.grown (es.size+1)=20:=by rw[h5];rfl
    rw[T3];have f2:t2.fits om.size=true:=by
     unfold SetTable.fits;rw[uB,p2,pj,k2];rcases hT.2.2 with⟨m,l⟩|⟨m,l⟩<;>simp[m]<;>lia
    refine cN (Zal hg rfl f2 (by rw[pj,h5]) fun es' t' T' L' P'=>cO ?_);have Bq:=Xr (es':=es') (t':=t') hg rfl;have LO:es'.size=om.size:=by have:=P'.length_eq;rwa [dj,dj] at this
    refine hq _ true ?_ ⟨_,es',_,t',Bq,hex,rfl,T',(fun z=>by rw[L',l2];exact hL z),fun e m=>uI e (P'.mem_iff.mp m),by rw[LO,pj,cZ];simp;lia,fun _=>by rw[LO,pj];lia⟩;exact⟨(gB _ _ _).trans sb.1,fun b hb=>(fZ _ _ (eY hb)).trans (sb.2 b hb)⟩
   ·rw[n8 (by rw[Bool.not_eq_true] at hfull;rw[hfull];simp)];refine cO (hq _ true sb ⟨_,om,_,t2,hg,hex,rfl,⟨d2,by rw[p2,pj],?_⟩,(fun z=>by rw[l2];exact hL z),uI,by rw[pj,cZ];simp;lia,fun _=>by rw[pj];lia⟩);rw[Bool.not_eq_true] at hfull;unfold SetTable.tooFull at hfull;rw[uB,k2] at hfull;have:=of_decide_eq_false hfull;rw[pj,k2];rcases hT.2.2 with⟨m,l⟩|⟨m,l⟩<;>rw[m] at this ⊢<;>lia
  cases hpn:t1.plain
  ·simp only[c6,cX];exact cN (cO (ZG true))
  ·simp only[dq];exact cN (TH _ fun b=>ZG b)
end
def WS(prog:Program)(w:World)(f:Nat)(s:Shared)(x:Value):Prop:=∀(A:Around) (E:Value->41) (Q:Bool->41),(∀b,Q b s)->36 (hashByValue f x) Q E s
def Vs(prog:Program)(w:World)(f:Nat)(s:Shared)(x:Value):Prop:=∀(A:Around) (E:Value->41) (Q:Bool->41),Q false s->36 (ofAClassStatement f x) Q E s
def XV(prog:Program)(w:World)(f:Nat)(s:Shared)(x:Value):Prop:=∀(A:Around) (E:Value->41) (Q:Bool->41),Q true s->36 (eqIsQuiet f x) Q E s
def Jc(x:Value):Prop:=(∃a t,x=.int a t)\/(∃a t,x=.str a t)\/(∃b,x=.bool b)
section
variable{prog:Program}{w:World}{f:Nat}{s:Shared}{a:Addr}{xs:List Value}{x:Value}
theorem WS.plain(h:Jc x):WS prog w f s x:=fun A E Q hq=>by
 rcases h with⟨a,t,rfl⟩|⟨a,t,rfl⟩|⟨b,rfl⟩<;>(unfold hashByValue;exact cO (hq _))
theorem Vs.plain(h:Jc x):Vs prog w f s x:=fun A E Q hq=>by
 rcases h with⟨a,t,rfl⟩|⟨a,t,rfl⟩|⟨b,rfl⟩<;>(unfold ofAClassStatement;exact cO hq)
theorem XV.plain(h:Jc x):XV prog w f s x:=fun A E Q hq=>by
 rcases h with⟨a,t,rfl⟩|⟨a,t,rfl⟩|⟨b,rfl⟩<;>(rw[eqIsQuiet_byValue _ rfl];exact cO hq)
theorem XV.tup(hx:YL s a xs)(hy:∀y∈xs,XV prog w f s y):XV prog w (f+1) s (.ref a):=by
 intro A E Q h;have hT:=hx.typeIs;obtain⟨o,n,ho,_,hd⟩:=hx;unfold eqIsQuiet;refine cN (gf hT ie.lookup ?_)
 show 50 (isInstance (.ref a) (.type "tuple") >>= _) _ _ s
 refine cN (fH hT iQ ?_);simp only[dM,c6,cX];refine cN (fT ho hd ?_);refine cN ?_;rw[<- iE];refine gc _ (fun ZG r s'=>r.1=none/\s'=s/\∀v∈ZG,XV prog w f s v) _ ?_ ?_ _ _ ⟨rfl,rfl,hy⟩
 ·rintro v ZG r s' ⟨hr,rfl,oZ⟩;refine cN (oZ v dC A _ _ ?_);simp only[dM,c6,cX];exact cO ⟨rfl,rfl,fun u wL=>oZ u (c7 _ wL)⟩
 ·rintro⟨r1,r2⟩ s' ⟨hr,rfl,_⟩;simp only at hr;subst hr;exact cO h
theorem Vs.tup(hx:YL s a xs)(hy:∀y∈xs,Vs prog w f s y):Vs prog w (f+1) s (.ref a):=by
 intro A E Q h;have hT:=hx.typeIs;obtain⟨o,n,ho,_,hd⟩:=hx;unfold ofAClassStatement;refine cN (iF hT ?_);dsimp only;have e:("tuple" == "tuple")=true:=rfl;simp only[e,dq];refine cN (cO ?_);simp only[dM,c6,cX];refine cN (fT ho hd ?_);dsimp only;refine cN ?_;rw[<- iE];refine gc _ (fun ZG r s'=>r.1=none/\s'=s/\∀v∈ZG,Vs prog w f s v) _ ?_ ?_ _ _ ⟨rfl,rfl,hy⟩
 ·rintro v ZG r s' ⟨hr,rfl,oZ⟩;refine cN (oZ v dC A _ _ ?_);simp only[c6,cX];exact cO ⟨rfl,rfl,fun u wL=>oZ u (c7 _ wL)⟩
 ·rintro⟨r1,r2⟩ s' ⟨hr,rfl,_⟩;simp only at hr;subst hr;exact cO h
theorem WS.tup(hx:YL s a xs)(hy:∀y∈xs,WS prog w f s y):WS prog w (f+1) s (.ref a):=by
 intro A E Q h;have hT:=hx.typeIs;obtain⟨o,n,ho,_,hd⟩:=hx;unfold hashByValue;refine cN (gf hT F.slot_tuple_hash.lookup ?_);dsimp only;refine cN (fT ho hd ?_);refine cN ?_
 show 50 (forIn xs.toArray _ _) _ _ s
 rw[<- iE];refine gc _ (fun ZG r s'=>r.1=none/\s'=s/\∀v∈ZG,WS prog w f s v) _ ?_ ?_ _ _ ⟨rfl,rfl,hy⟩
 ·rintro v ZG r s' ⟨hr,rfl,oZ⟩;refine cN (oZ v dC A _ _ fun b=>?_);cases b
  ·simp only[gP,dq];exact cO (cO (h false))
  ·simp only[dM,c6,cX];exact cO ⟨rfl,rfl,fun u wL=>oZ u (c7 _ wL)⟩
 ·rintro⟨r1,r2⟩ s' ⟨hr,rfl,_⟩;simp only at hr;subst hr;exact cO (h true)
theorem ZbD{l:45}{Q:Bool->41}(hx:XV prog w 8 s x/\Vs prog w 8 s x)(hl:∀y∈l,XV prog w 8 s y/\Vs prog w 8 s y)(h:Q false s) :
    36 (searchCouldBeSeen x l) Q E s:=by
  unfold searchCouldBeSeen;refine cN ?_;refine gc _ (fun ZG r s'=>r.1=none/\s'=s/\∀y∈ZG,XV prog w 8 s y/\Vs prog w 8 s y) _ ?_ ?_ _ _ ⟨rfl,rfl,hl⟩
  · rintro v ZG r s' ⟨hr,rfl,oZ⟩
    have hv:=oZ v dC;have MK:(none:Option Bool)=none/\s'=s'/\∀y∈ZG,XV prog w 8 s' y/\Vs prog w 8 s' y:=⟨rfl,rfl,fun u wL=>oZ u (c7 _ wL)⟩;dsimp only
    split <;>
    (split
     · exact cO MK
     · refine cN (hx.1 A _ _ ?_)
       simp only[dM,c6,cX];refine cN (hv.1 A _ _ ?_);simp only[dM,c6,cX];refine cN (hx.2 A _ _ ?_);simp only[c6,cX];refine cN (hv.2 A _ _ ?_);simp only[c6,cX];exact cO MK)
  · rintro⟨r1,r2⟩ s' ⟨hr,rfl,_⟩
    simp only at hr;subst hr;exact cO h
end
theorem Zx:Slot "set_iterator" "__next__" "set_iterator.__next__" :=
 .of (owner := "set_iterator") (n := "__next__") (by rw[lJ,lM];kernel_rfl) 61 61 61
  (by first|exact .inl 61|exact .inr 61) (by rw[isSubtype_type];kernel_rfl)
theorem XB:Slot "set_iterator" "__iter__" "set_iterator.__iter__" :=
 .of (owner := "set_iterator") (n := "__iter__") (by rw[lJ,lM];kernel_rfl) 61 61 61
  (by first|exact .inl 61|exact .inr 61) (by rw[isSubtype_type];kernel_rfl)
theorem Xt:entryFor table "set_iterator.__next__" = some Builtin.«set_iterator.__next__» := entryFor_of_tree (by kernel_rfl)
theorem W5:entryFor table "set_iterator.__iter__" = some Builtin.«dict_keyiterator.__iter__» :=
 entryFor_alias (id' := "dict_keyiterator.__iter__") (by kernel_rfl) rfl 61 (by kernel_rfl)
theorem qL:Manifest.owners.lookup (String.ofList ['r','o','t','a','r','e','t','i','_','t','e','s'].reverse)=some Manifest.sig_set_iterator:=by kernel_rfl
theorem XA(a:Value):argsOk "set_iterator.__next__" ⟨[a],[]⟩:=by
 unfold argsOk;rw[signature?_of (id := "set_iterator.__next__") (n:=['_','_','t','x','e','n','_','_']) (o:=['r','o','t','a','r','e','t','i','_','t','e','s']) (by kernel_rfl) qL];kernel_rfl
theorem Vm(a:Value):argsOk "set_iterator.__iter__" ⟨[a],[]⟩:=by
 unfold argsOk;rw[signature?_of (id := "set_iterator.__iter__") (n:=['_','_','r','e','t','i','_','_']) (o:=['r','o','t','a','r','e','t','i','_','t','e','s']) (by kernel_rfl) qL];kernel_rfl
theorem VG:entryFor table "set.__iter__" = some Builtin.«frozenset.__iter__» :=
 entryFor_alias (id' := "frozenset.__iter__") (by kernel_rfl) rfl 61 (by kernel_rfl)
theorem U4:typeLookup (.type "set") "__len__" = pure (some (.builtin "set.__len__")):=by rw[lJ,lM];kernel_rfl
open SetTable in
theorem Vu{xs:Array Nat}:∀(f hi:Nat),below.go xs 0 f 0 hi=0
 |0,hi=>rfl
 |f+1,hi=>by
  unfold below.go
  split
  ·simp only;rw[n8 40];exact Vu f _
  ·rfl
open SetTable in
theorem VF{xs:Array Nat}{j:Nat}:∀(f lo hi:Nat),lo<=hi->hi-lo<=f->hi<=xs.size->(hi<xs.size->j<=xs.getD hi j)->below.go xs j f lo hi<xs.size->j<=xs.getD (below.go xs j f lo hi) j
 |0,lo,hi,h1,h2,h3,h4,h5=>by
  have e:lo=hi:=by lia
  subst e;exact h4 h5
 |f+1,lo,hi,h1,h2,h3,h4,h5=>by
  unfold below.go at h5 ⊢
  by_cases hl:lo<hi
  ·rw[og hl] at h5 ⊢;simp only at h5 ⊢
   by_cases hx:xs.getD ((lo+hi)/2) j<j
   ·rw[og hx] at h5 ⊢;exact VF f _ hi 40 40 h3 h4 h5
   ·rw[n8 hx] at h5 ⊢;exact VF f lo _ 40 40 40 (fun _=>by lia) h5
  ·rw[n8 hl] at h5 ⊢;have e:lo=hi:=by lia
   subst e;exact h4 h5
theorem VO{xs:Array Nat}{i v:Nat}(hi:SetTable.below xs j=i)(hv:xs[i]?=some v):j<=v:=by
 have oM:i<xs.size:=by
  rcases fe i xs.size with h|h
  ·exact h
  ·rw[gD h] at hv;cases hv
 have:=VF (xs:=xs) (j:=j) xs.size 0 xs.size (dH _) 40 (cP _) (fun h=>oh h (gn _)) (by show SetTable.below xs j<_;rw[hi];exact oM);have e:SetTable.below.go xs j xs.size 0 xs.size=i:=hi;rw[e,ii,hv] at this;exact this
theorem j9{l:List Nat}{a:Nat}(hj:j∈l)(ha:a<=j):l.countP (fun x=>decide (j+1<=x))<l.countP (fun x=>decide (a<=x)):=by
 have mono:∀l:List Nat,l.countP (fun x=>decide (j+1<=x))<=l.countP (fun x=>decide (a<=x)):=fun l=>
  List.countP_mono_left fun x _ h=>by simp at *; lia
 induction l with
 |nil=>cases hj
 |cons x r ih=>
  have m:=mono r;rcases cW.mp hj with e|h
  ·subst e;rw[mI,mI,n8 39,og (by simpa using ha)];lia
  ·have:=ih h;rw[mI,mI]
   by_cases c:j+1<=x
   ·rw[og (by simpa using c),og (by simp;lia)];lia
   ·rw[n8 (by simpa using c)];lia
theorem yU{nxt:Nat->Nat->Option (Value×Nat)}{m:Nat->Nat->Nat}(h:∀sl g x pQ,nxt sl g=some (x,pQ)->m pQ (g+1)<m sl g) :
  ∀k sl g,m sl g<=k->∃(seq:45) (oN:Nat->Nat),oN 0=sl/\(∀i x,seq[i]?=some x->nxt (oN i) (g+i)=some (x,oN (i+1)))/\nxt (oN seq.length) (g+seq.length)=none/\seq.length<=m sl g
 |k,sl,g,hk=>by
  cases e:nxt sl g with
  |none=>exact⟨[],fun _=>sl,rfl,fun i x hx=>by simp at hx,e,dH _⟩
  |some p=>
   obtain⟨x,pQ⟩:=p;have oM:=h sl g x pQ e;cases k with
   |zero=>lia
   |succ k=>
    obtain⟨seq,oN,h0,h1,h2,h3⟩:=yU h k pQ (g+1) 40;refine⟨x::seq,fun i=>match i with|0=>sl|i+1=>oN i,rfl,?_,?_,by rw[fc];lia⟩
    ·intro i y hy;cases i with
     |zero=>simp at hy;subst hy;show nxt sl (g+0)=some (x,oN 0);rw[h0];exact e
     |succ i=>
      have:=h1 i y (by simpa using hy)
      show nxt (oN i) (g+(i+1))=_
      rw[show g+(i+1)=g+1+i by lia];exact this
    ·show nxt (oN seq.length) (g+(seq.length+1))=none
     rw[show g+(seq.length+1)=g+1+seq.length by lia];exact h2
theorem Kx{α:Type}{next:Nat->Nat}{xs:List α}:∀(f k:Nat) (LF:List α) (out:Array α),(∀x∈LF,x∈xs)->(∀x∈out.toList,x∈xs) ->
  (∀x∈(pickOrder.go next f k LF out).toList,x∈xs)/\(pickOrder.go next f k LF out).size<=out.size+f/\out.size<=(pickOrder.go next f k LF out).size/\(0<f->LF≠[]->out.size<(pickOrder.go next f k LF out).size)
 |0,k,LF,out,_,ho=>by unfold pickOrder.go;exact⟨ho,by lia,cP _,fun h=>oh h (gn _)⟩
 |f+1,k,LF,out,hl,ho=>by
  unfold pickOrder.go;cases e:LF[next k%LF.length]? with
  |none=>
   refine⟨ho,by simp only;lia,cP _,fun _ oF=>?_⟩;have:0<LF.length:=iG.mpr oF;have:=im.mp e;have:=ig (next k) (by lia:LF.length>0);lia
  |some x=>
   have hx:x∈LF:=cY e;obtain⟨a,b,c,_⟩:=Kx (next:=next) f (k+1) (LF.eraseIdx (next k%LF.length)) (out.push x) (fun y hy=>hl y (Ξ hy)) (fun y hy=>by
    rw[iR] at hy;rcases db.mp hy with h|h
    ·exact ho y h
    ·rw[df] at h;subst h;exact hl _ hx)
   rw[Array.size_push] at b c;refine⟨a,?_,?_,fun _ _=>?_⟩<;>(show _;simp only;lia)
theorem UT(xs:Array α):(∀x∈(pickOrder next xs).toList,x∈xs.toList)/\(pickOrder next xs).size<=xs.size/\(0<xs.size->0<(pickOrder next xs).size):=by
 obtain⟨a,b,c,d⟩:=Kx (next:=next) (xs:=xs.toList) xs.size 0 xs.toList #[] (fun _ h=>h) (fun _ h=>by simp at h);have e0:pickOrder.go next xs.size 0 xs.toList #[]=pickOrder next xs:=rfl;rw[e0] at a b c d;refine⟨a,by simpa using b,fun h=>?_⟩;have:=d h (fun e=>by
  have:xs.toList.length=0:=by rw[e];rfl
  rw[dj] at this;lia)
 simpa using this
def Xb(h:Heap)(a:Addr)(es:88)(ep:Nat)(t:SetTable):Prop:=∃o,h.get? a=some o/\o.ExactSet/\o.data=.set es ep t
def W0(h:Heap)(I a:Addr)(first:Value)(i:Nat)(n ep:Nat):Prop:=∃o t1 t2 t3,h.get? I=some o/\o.cls=.type "set_iterator" /\ o.data=.fields #[first,.int i t1,.ref a,.int n t2,.int ep t3]
theorem W0.typeIs{f:Value}{i:Nat}(x:W0 s.heap I a f i n ep):s.TypeIs (.ref I) "set_iterator" := let ⟨o,_,_,_,ho,hc,_⟩:=x; ⟨o,ho,hc⟩
theorem W0.at{f:Value}{i:Nat}(x:W0 h I a f i n ep)(e:∀o,h.get? I=some o->h'.get? I=some o):W0 h' I a f i n ep:=let ⟨o,t1,t2,t3,ho,r⟩:=x; ⟨o,t1,t2,t3,e _ ho,r⟩
theorem Xb.at{es ep t}(x:Xb h a es ep t)(e:∀o,h.get? a=some o->h'.get? a=some o):Xb h' a es ep t:=let ⟨o,ho,r⟩:=x; ⟨o,e _ ho,r⟩
theorem Xb.typeIs{es ep t}(x:Xb s.heap a es ep t):s.TypeIs (.ref a) "set" := let ⟨o,ho,hc,_⟩:=x; ⟨o,ho,hc.1⟩
def YA(Bv:Bool)(Im es:88)(place:Array Nat)(slot given:Nat):Option (Value×Nat):=
 if Bv=true then(Im[given]?).map fun e=>(e.2,slot) else
  match es[SetTable.below place slot]?,place[SetTable.below place slot]? with
  |some (_,x),some j=>some (x,j+1)
  |_,_=>none
theorem zM{es ep t}{given:Nat}{Q:Option (Value×Nat)->41}(hS:Xb s.heap a es ep t)(hf:t.fits es.size=true)
  (hw:w.params.followText "set-order" = false->t.led=true/\(t.plain=true\/es.size<=1)) (h:Q (YA 46 59 es t.place slot given) s) :
  36 (setNext a slot given ep) Q E s:=by
 obtain⟨o,ho,_,hd⟩:=hS;unfold setNext;refine cN (dX ho hd hf ?_);dsimp only;have MH:∀{Q:Bool->41},Q 46 s->36 setsByText Q E s:=fun {Q} hq=>by
  unfold setsByText;exact cN (iS (cO hq))
 refine cN (MH ?_);cases e:w.params.followText "set-order"
 ·simp only[c6,cX];obtain⟨h1,h2⟩:=hw e;rw[e] at h
  show 50 (if(!t.plain&&decide (es.size>1))=true then _ else(do (if(!t.led&&!es.isEmpty)=true then unsupported "set:maker-not-led" else pure PUnit.unit);pure _)) Q E s
  have c:(!t.plain&&decide (es.size>1))=false:=by
   rcases h2 with h2|h2
   ·rw[h2];rfl
   ·rw[dZ 40];simp
  rw[c,h1];simp only[c6,cX,dM,gu];refine cN (cO (cO ?_));exact h
 ·simp only[dq];rw[e] at h;simp only[mC,c6,cX];unfold setWalk;refine cN (cN (dX ho hd hf ?_));dsimp only;refine cN (MH ?_);rw[e];simp only[dq];refine cN (iS (cO (cO ?_)));exact h
theorem Qy{i:Nat}{es ep t}{x:Value}{pQ:Nat}{Q:67->41}(oJ:W0 s.heap I a (.int slot tk) i es.size ep)(hS:Xb s.heap a es ep t)(hf:t.fits es.size=true)
  (hw:w.params.followText "set-order" = false->t.led=true/\(t.plain=true\/es.size<=1)) (hx:YA 46 59 es t.place slot i=some (x,pQ))
  (hQ:∀h' BX,W0 h' I a (.int pQ BX) (i+1) es.size ep->Heap.SameBut I s.heap h'->Q (some x) 49):36 (pyNext (.ref I)) Q E s:=by
 obtain⟨o,t1,t2,t3,ho,hc,hd⟩:=id oJ;obtain⟨os,AW,GW,Au⟩:=id hS;unfold pyNext;refine cN (gO (gh (name:=Str.ofString "__next__") oJ.typeIs Zx (eE Zx oJ.typeIs Xt ?_ (XA _))))
 show 50 (fieldsOf (.ref I) >>= _) _ _ s
 refine cN (iT ho hd ?_);dsimp only;refine cN ?_;unfold setEntries;refine cN (dX AW Au hf (cO ?_));dsimp only;rw[n8 39];refine cN (zM hS hf hw ?_);have e1:((slot:Int)).toNat=slot:=fu _;have e2:((i:Int)).toNat=i:=fu _;have e3:((ep:Int)).toNat=ep:=fu _;rw[e1,e2,e3,hx];dsimp only;refine cN (gr ho hd 39 ?_);have tI:=fO (Obj.mapFields (·.setIfInBounds 0 (rawInt (pQ:Int)))) ho (iH (fU hd _));have CW:=fU hd (·.setIfInBounds 0 (rawInt (pQ:Int)));refine cN (gr tI CW 39 ?_);have D1:=fO (Obj.mapFields (·.setIfInBounds 1 (rawInt ((i:Int)+1)))) tI (iH (fU CW _));have D9:=fU CW (·.setIfInBounds 1 (rawInt ((i:Int)+1)));refine cO ⟨_,rfl,cO (hQ _ 0 ⟨_,0,t2,t3,D1,((iU ..).trans (iU ..)).trans hc,by rw[D9];simp[rawInt]⟩ ?_)⟩;exact⟨(gB _ _ _).trans (gB _ _ _),fun b hb=>(fZ _ _ (eY hb)).trans (fZ _ _ (eY hb))⟩
theorem Q4{i:Nat}{es ep t}{Q:67->41}(hh:A.handled=none)(oJ:W0 s.heap I a (.int slot tk) i es.size ep)(hS:Xb s.heap a es ep t)(hf:t.fits es.size=true)
  (hw:w.params.followText "set-order" = false->t.led=true/\(t.plain=true\/es.size<=1)) (hx:YA 46 59 es t.place slot i=none)
  (hQ:∀h',Heap.ExtBut I s.heap h'->Q none 49):36 (pyNext (.ref I)) Q E s:=by
 obtain⟨o,t1,t2,t3,ho,hc,hd⟩:=id oJ;obtain⟨os,AW,GW,Au⟩:=id hS;unfold pyNext;refine cN (gO (gh (name:=Str.ofString "__next__") oJ.typeIs Zx (eE Zx oJ.typeIs Xt ?_ (XA _))))
 show 50 (fieldsOf (.ref I) >>= _) _ _ s
 refine cN (iT ho hd ?_);dsimp only;refine cN ?_;unfold setEntries;refine cN (dX AW Au hf (cO ?_));dsimp only;rw[n8 39];refine cN (zM hS hf hw ?_);have e1:((slot:Int)).toNat=slot:=fu _;have e2:((i:Int)).toNat=i:=fu _;have e3:((ep:Int)).toNat=ep:=fu _;rw[e1,e2,e3,hx];dsimp only;refine cN (gr ho hd 39 ?_);refine cN ?_;simp only[newExc,newTuple];refine cN (eQ ?_ (by size_fits));refine cN (m:=firstArgMember _ _) (gN (a:=Value.none) (by first|rfl|(simp only[firstArgMember];rfl)) ?_);refine eQ ?_ (by size_fits);simp only[raiseNew];refine cN (lN ?_);rw[show A.in1.handled=none from hh];refine cN (cO (wpAny_throw ?_));refine cN (fH (T := "StopIteration") (b:=true) ⟨_,c8 _ rfl,rfl⟩ lO ?_);exact cO (hQ _ (((fI ..).extBut.push _).push _))
def jE(h:Heap)(T:Addr)(ps:List Nat):Prop:=∃o n,h.get? T=some o/\o.data=.seq ((ps.map fun(i:Nat)=>rawInt (i:Int)).toArray) n/\o.cls=.type "tuple"
theorem JL{T:Addr}{i p:Nat}{es ep t}{ps:List Nat}{e:Int×Value}{Q:67->41}(oJ:W0 s.heap I a (.ref T) i es.size ep)(hS:Xb s.heap a es ep t)(hf:t.fits es.size=true)
  (hT:jE s.heap T ps) (hp:ps[i]?=some p) (he:es[p]?=some e)
  (hQ:∀h',W0 h' I a (.ref T) (i+1) es.size ep->Heap.SameBut I s.heap h'->Q (some e.2) 49):36 (pyNext (.ref I)) Q E s:=by
 obtain⟨o,t1,t2,t3,ho,hc,hd⟩:=id oJ;obtain⟨os,AW,GW,Au⟩:=id hS;obtain⟨oT,nT,IP,GM,_⟩:=hT;unfold pyNext;refine cN (gO (gh (name:=Str.ofString "__next__") oJ.typeIs Zx (eE Zx oJ.typeIs Xt ?_ (XA _))))
 show 50 (fieldsOf (.ref I) >>= _) _ _ s
 refine cN (iT ho hd ?_);dsimp only;refine cN ?_;unfold setEntries;refine cN (dX AW Au hf (cO ?_));dsimp only;rw[n8 39];refine cN (fT IP GM ?_);dsimp only;have e2:((i:Int)).toNat=i:=fu _;have AU:((ps.map fun(i:Nat)=>rawInt (i:Int)).toArray)[i]?=some (rawInt (p:Int)):=by simp[hp]
 rw[e2,AU]
 show 50 (setNextDrawn a ((p:Int)).toNat ((ep:Int)).toNat >>= _) _ _ s
 rw[fu,fu];refine cN ?_;unfold setNextDrawn;refine cN (dX AW Au hf ?_);dsimp only;simp only[mC,c6,cX,he];refine cO ?_;refine cN (gr ho hd 39 ?_);have D1:=fO (Obj.mapFields (·.setIfInBounds 1 (rawInt ((i:Int)+1)))) ho (iH (fU hd _));have D9:=fU hd (·.setIfInBounds 1 (rawInt ((i:Int)+1)));refine cO ⟨_,rfl,cO (hQ _ ⟨_,0,t2,t3,D1,(iU ..).trans hc,by rw[D9];simp[rawInt]⟩ ?_)⟩;exact⟨(gB _ _ _),fun b hb=>(fZ _ _ (eY hb))⟩
theorem QQ{T:Addr}{i:Nat}{es ep t}{ps:List Nat}{Q:67->41}(hh:A.handled=none)(oJ:W0 s.heap I a (.ref T) i es.size ep)(hS:Xb s.heap a es ep t)(hf:t.fits es.size=true)
  (hT:jE s.heap T ps) (hp:ps[i]?=none)
  (hQ:∀h',Heap.ExtBut I s.heap h'->Q none 49):36 (pyNext (.ref I)) Q E s:=by
 obtain⟨o,t1,t2,t3,ho,hc,hd⟩:=id oJ;obtain⟨os,AW,GW,Au⟩:=id hS;obtain⟨oT,nT,IP,GM,_⟩:=hT;unfold pyNext;refine cN (gO (gh (name:=Str.ofString "__next__") oJ.typeIs Zx (eE Zx oJ.typeIs Xt ?_ (XA _))))
 show 50 (fieldsOf (.ref I) >>= _) _ _ s
 refine cN (iT ho hd ?_);dsimp only;refine cN ?_;unfold setEntries;refine cN (dX AW Au hf (cO ?_));dsimp only;rw[n8 39];refine cN (fT IP GM ?_);dsimp only;have e2:((i:Int)).toNat=i:=fu _;have AU:((ps.map fun(i:Nat)=>rawInt (i:Int)).toArray)[i]?=none:=by simpa using hp
 rw[e2,AU];dsimp only;refine cN (gr ho hd 39 ?_);have tI:=fO (Obj.mapFields (·.setIfInBounds 0 (rawInt 0))) ho (iH (fU hd _));have CW:=fU hd (·.setIfInBounds 0 (rawInt 0));refine cN (gr tI CW 39 ?_);refine cN ?_;simp only[newExc,newTuple];refine cN (eQ ?_ (by size_fits));refine cN (m:=firstArgMember _ _) (gN (a:=Value.none) (by first|rfl|(simp only[firstArgMember];rfl)) ?_);refine eQ ?_ (by size_fits);simp only[raiseNew];refine cN (lN ?_);rw[show A.in1.handled=none from hh];refine cN (cO (wpAny_throw ?_));refine cN (fH (T := "StopIteration") (b:=true) ⟨_,c8 _ rfl,rfl⟩ lO ?_);have sb:Heap.SameBut I s.heap ((s.heap.update I (Obj.mapFields (·.setIfInBounds 0 (rawInt 0)))).update I (Obj.mapFields (·.setIfInBounds 2 .none))):=
  ⟨(gB _ _ _).trans (gB _ _ _),fun b hb=>(fZ _ _ (eY hb)).trans (fZ _ _ (eY hb))⟩
 exact cO (hQ _ ((sb.extBut.push _).push _))
section
variable{prog:Program}{w:World}{A:Around}{E:Value->Shared->Prop}{s:Shared}
theorem yz{Pd:Source}{Q:Nat->41}(hn:n≠0)(h:∀i dr,i<n->Q i { s with drawn:=dr }):36 (choose Pd n) Q E s:=
 fun Γ p _=>⟨hn,h _ _ (ig _ (Nat.pos_of_ne_zero hn))⟩
theorem U2{α:Type}:∀(n:Nat) (xs:List α) {s:Shared}{Q:List α->41},(∀ys dr,(∀y∈ys,y∈xs)->ys.length<=n->(0<n->xs≠[]->0<ys.length)->Q ys { s with drawn:=dr })->36 (drawOrder n xs) Q E s
 |0,xs,s,Q,h=>by
  unfold drawOrder;exact cO (h [] s.drawn (fun _ hy=>by cases hy) (cP _) fun h=>oh h (gn _))
 |n+1,[],s,Q,h=>by
  unfold drawOrder;exact cO (h [] s.drawn (fun _ hy=>by cases hy) (dH _) fun _ h=>oh rfl h)
 |n+1,x::r,s,Q,h=>by
  show 50 (choose .order (x::r).length >>= _) _ _ s
  refine cN (yz 39 fun i dr hi=>?_);have e:(x::r)[i]?=some (x::r)[i]:=cR hi;rw[e];dsimp only;refine cN (U2 n ((x::r).eraseIdx i) fun ys Ik h1 h2 _=>?_);refine cO (h (_::ys) Ik (fun y hy=>?_) (by rw[fc];lia) fun _ _=>by rw[fc];lia);rcases cW.mp hy with e|hy
  ·rw[e];exact gE _
  ·exact Ξ (h1 y hy)
theorem yQ(hh:A.handled=none)(oF:a≠I){es:88}(hf:t.fits es.size=true)
  (hw:w.params.followText "set-order" = false->t.led=true/\(t.plain=true\/es.size<=1)) {seq:45}
  (h1:∀i x,seq[i]?=some x->YA 46 59 es t.place (oN i) i=some (x,oN (i+1)))
  (h2:YA 46 59 es t.place (oN seq.length) seq.length=none) :
  Walks prog w A I [I,a] [I] seq.length (fun i v=>seq[i]?=some v) (fun i h=>(∃tk,W0 h I a (.int (oN i) tk) i es.size ep)/\Xb h a es ep t) where
 sub:=fun b hb=>by simp at hb;simp[hb]
 frame:=fun i h h' st hk=>⟨let ⟨tk,x⟩:=st.1; ⟨tk,x.at fun o e=>hk I 39 o e⟩,st.2.at fun o e=>hk a 39 o e⟩
 item:=fun i s Q E hi st hQ=>by
  obtain⟨⟨tk,oJ⟩,hS⟩:=st;have e:seq[i]?=some seq[i]:=cR hi;refine Qy oJ hS hf hw (h1 i _ e) fun h' BX sJ sb=>?_;exact hQ _ h' s.toks e ⟨⟨BX,sJ⟩,hS.at fun o z=>by rw[sb.2 a oF];exact z⟩ fun b o hb z=>by rw[sb.2 b (fun h=>hb (by simp[h]))];exact z
 done:=fun s Q E st hQ=>by
  obtain⟨⟨tk,oJ⟩,hS⟩:=st;exact Q4 hh oJ hS hf hw h2 fun h' x=>hQ h' s.toks fun b o hb z=>x b o (fun h=>hb (by simp[h])) z
 self:=fun i s Q E st hQ=>by
  obtain⟨⟨tk,oJ⟩,hS⟩:=st;refine iW oJ.typeIs XB (eE XB oJ.typeIs W5 ?_ (Vm _))
  show 50 (ret (.ref I)) _ _ s
  exact cO ⟨_,rfl, "set_iterator",_,oJ.typeIs,Zx.lookup,hQ⟩
theorem zK(hh:A.handled=none){T:Addr}(oF:a≠I)(P2:T≠I){es:88}(hf:t.fits es.size=true){ps:List Nat}{seq:45}(hl:seq.length=ps.length)
  (h1:∀(i:Nat) x,seq[i]?=some x->∃p e,ps[i]?=some p/\es[p]?=some e/\x=e.2) :
  Walks prog w A I [I,a,T] [I] seq.length (fun i v=>seq[i]?=some v) (fun i h=>W0 h I a (.ref T) i es.size ep/\Xb h a es ep t/\jE h T ps) where
 sub:=fun b hb=>by simp at hb;simp[hb]
 frame:=fun i h h' st hk=>⟨st.1.at fun o e=>hk I 39 o e,st.2.1.at fun o e=>hk a 39 o e,let ⟨o,n,e,r⟩:=st.2.2; ⟨o,n,hk T 39 o e,r⟩⟩
 item:=fun i s Q E hi st hQ=>by
  obtain⟨oJ,hS,hT⟩:=st;have e:seq[i]?=some seq[i]:=cR hi;obtain⟨p,en,e1,e2,e3⟩:=h1 i _ e;refine JL oJ hS hf hT e1 e2 fun h' sJ sb=>?_;rw[<- e3];refine hQ _ h' s.toks e ⟨sJ,hS.at fun o z=>by rw[sb.2 a oF];exact z,let ⟨o,n,z,r⟩:=hT; ⟨o,n,by rw[sb.2 T P2];exact z,r⟩⟩ fun b o hb z=>by rw[sb.2 b (fun h=>hb (by simp[h]))];exact z
 done:=fun s Q E st hQ=>by
  obtain⟨oJ,hS,hT⟩:=st;exact QQ hh oJ hS hf hT (im.mpr 40) fun h' x=>hQ h' s.toks fun b o hb z=>x b o (fun h=>hb (by simp[h])) z
 self:=fun i s Q E st hQ=>by
  obtain⟨oJ,hS,hT⟩:=st;refine iW oJ.typeIs XB (eE XB oJ.typeIs W5 ?_ (Vm _))
  show 50 (ret (.ref I)) _ _ s
  exact cO ⟨_,rfl, "set_iterator",_,oJ.typeIs,Zx.lookup,hQ⟩
def Zb4(prog:Program)(w:World)(A:Around)(es:88)(z:Nat)(a I:Addr)(h:Heap):Prop:=
 ∃(fp:List Addr) (seq:45) (St:Nat->Heap->Prop),Walks prog w A I fp [I] seq.length (fun i v=>seq[i]?=some v) St/\St 0 h/\(∀b∈fp,b<h.objs.size)/\(∀b∈fp,b=a\/z<=b)/\I∈fp/\(∀v∈seq,∃e∈es.toList,v=e.2)/\seq.length<=es.size/\(0<es.size->0<seq.length)
theorem Zbo{es ep t}(hh:A'.handled=none)(hS:Xb s.heap a es ep t)(hf:t.fits es.size=true)(oG:w.params.followText "set-order" = false->t.led=true)(hz:es.size<=1000)
  (hQ:∀I h' dr,s.heap.objs.size<=I->47->Zb4 prog w A' es s.heap.objs.size a I h'->Q (.ref I) { s with heap:=h',drawn:=dr }):36 (pyIter (.ref a)) Q E s:=by
 obtain⟨o,ho,hc,hd⟩:=id hS;have sF:a<s.heap.objs.size:=cT ho;refine iW hS.typeIs F.slot_set_iter (eE F.slot_set_iter hS.typeIs VG ?_ (F.args_set_iter_1 _))
 show 50 (Builtin.Frozenset.sizeOf a >>= _) _ _ s
 refine cN ?_;unfold Builtin.Frozenset.sizeOf setEntries;refine cN (cN (dX ho hd hf (cO (cO ?_))));dsimp only;refine cN ?_;unfold setDrawn;refine cN (dX ho hd hf ?_);dsimp only;refine cN ?_;unfold setsByText;refine cN (iS (cO ?_))
 show 50 (pure 107) _ _ s
 refine cO ?_;have Ex:=hf;have pU:t.place.size=es.size:=by
  unfold SetTable.fits at hf;rw[dg] at hf;simpa using hf.1
 cases hdr:107
 ·simp only[c6,cX];refine cN (cO ?_);refine cN ?_;unfold setEpoch;refine cN (dX ho hd hf (cO ?_));dsimp only;refine cN (eQ ?_);refine cO ⟨_,rfl, "set_iterator",_,⟨_,c8 _ rfl,rfl⟩,Zx.lookup,?_⟩;have hw:w.params.followText "set-order" = false->t.led=true/\(t.plain=true\/es.size<=1):=fun e=>by
   refine⟨oG e,?_⟩;rw[e] at hdr;simp only[gP,g9,mZ,Bool.not_eq_false',decide_eq_false_iff_not] at hdr;rcases hdr with h|h
   ·exact .inl h
   ·exact .inr 40
  have ur:∃(seq:45) (oN:Nat->Nat),oN 0=0/\(∀i x,seq[i]?=some x->YA 46 59 es t.place (oN i) (0+i)=some (x,oN (i+1))) /\
    YA 46 59 es t.place (oN seq.length) (0+seq.length)=none/\seq.length<=es.size:=by
   obtain⟨p1,p2,p3⟩:=UT (next:=w.params.setOrder a ep) es;cases hT:w.params.followText "set-order"
   ·obtain⟨seq,oN,a1,a2,a3,a4⟩:=yU (nxt:=YA false 59 es t.place) (m:=fun sl _=>t.place.toList.countP (fun x=>decide (sl<=x))) (fun sl g x pQ he=>by
     unfold YA at he;simp only[c6,cX] at he
     split at he
     ·rename_i j _ hj
      cases he;refine j9 ?_ (VO rfl hj);have:=gY hj;simpa using this
     ·cases he) _ 0 0 (cP _)
    refine⟨seq,oN,a1,a2,a3,fh a4 (fh List.countP_le_length ?_)⟩;rw[dj];lia
   ·obtain⟨seq,oN,a1,a2,a3,a4⟩:=yU (nxt:=YA true 59 es t.place) (m:=fun _ g=>(pickOrder (w.params.setOrder a ep) es).size-g) (fun sl g x pQ he=>by
     unfold YA at he;simp only[dq] at he;obtain⟨e,wJ,DV⟩:=fE.mp he;have:g<(pickOrder (w.params.setOrder a ep) es).size:=by
      rcases fe g (pickOrder (w.params.setOrder a ep) es).size with h|h
      ·exact h
      ·rw[gD h] at wJ;cases wJ
     show _-(g+1)<_-g
     lia) _ 0 0 (cP _)
    exact⟨seq,oN,a1,a2,a3,by lia⟩
  obtain⟨seq,oN,b0,b1,b2,b3⟩:=ur;have mem:∀sl g x pQ,YA 46 59 es t.place sl g=some (x,pQ)->∃e∈es.toList,x=e.2:=fun sl g x pQ he=>by
   unfold YA at he
   split at he
   ·obtain⟨e,wJ,DV⟩:=fE.mp he;cases DV;refine⟨e,(UT (next:=w.params.setOrder a ep) es).1 e ?_,rfl⟩;have:=gY wJ;simpa using this
   ·split at he
    ·rename_i h1 h2
     cases he;have:=gY h1;exact⟨_,by simpa using this,rfl⟩
    ·cases he
  refine hQ _ _ s.drawn (cP _) (fun b o z=>cU _ z) ⟨_,seq,_,yQ (prog:=prog) (A:=A') hh (c9 sF) hf hw (fun i x hx=>by have:=b1 i x hx;rwa [gW] at this) (by rw[gW] at b2;exact b2),⟨⟨0,?_⟩,?_⟩,?_,?_,by simp,?_,b3,?_⟩
  ·rw[b0];exact⟨_,0,0,0,c8 _ rfl,rfl,rfl⟩
  ·exact⟨o,cU _ ho,hc,hd⟩
  ·intro b hb;rw[fM];simp only[cW,eH,eI] at hb;rcases hb with h|h
   ·rw[h];exact fR _
   ·rw[h];exact fS sF
  ·intro b hb;simp only[cW,eH,eI] at hb;rcases hb with h|h
   ·exact .inr (by rw[h];exact cP _)
   ·exact .inl h
  ·intro v hv;obtain⟨i,hi,e⟩:=fo hv;have:=b1 i v (by rw[cR hi,e]);exact mem _ _ _ _ this
  ·intro wI;rcases Nat.eq_zero_or_pos seq.length with h0|h0
   ·rw[h0,b0] at b2
    exfalso
    unfold YA at b2
    split at b2
    ·have:=(UT (next:=w.params.setOrder a ep) es).2.2 wI;rw[iI,Β] at b2;lia
    ·have hb:SetTable.below t.place 0=0:=Vu _ _;rw[hb,eX es 0 wI,eX t.place 0 40] at b2;cases b2
   ·exact h0
 ·simp only[dq];refine cN (U2 es.size (γ es.size) fun ys dr y1 y2 y3=>?_);refine cN (wpAny_newTuple (items:=ys.map fun(i:Nat)=>rawInt (i:Int)) ?_ (by rw[cS,cQ];lia));refine cN ?_;unfold setEpoch;have tI:(s.heap.push { cls:=.type "tuple",data:=.seq (ys.map fun(i:Nat)=>rawInt (i:Int)).toArray }).get? a=some o:=cU _ ho;refine cN (dX (s:={ s with drawn:=dr,heap:=_ }) tI hd hf (cO ?_));dsimp only;refine cN (eQ ?_);refine cO ⟨_,rfl, "set_iterator",_,⟨_,c8 _ rfl,rfl⟩,Zx.lookup,?_⟩;have y4:∀y∈ys,y<es.size:=fun y hy=>dY.mp (y1 y hy);have ex:∃seq:45,seq.length=ys.length/\∀(i:Nat) x,seq[i]?=some x->∃p e,ys[i]?=some p/\es[p]?=some e/\x=e.2:=by
   refine⟨ys.map fun p=>(es.getD p (0,.none)).2,by simp,fun i x hx=>?_⟩;rw[dz] at hx;obtain⟨p,e1,e2⟩:=fE.mp hx;have hp:=y4 p (cY e1);refine⟨p,es[p],e1,eX es p hp,?_⟩;rw[<- e2,ii,eX es p hp];rfl
  obtain⟨seq,q1,q2⟩:=ex;have z1:(s.heap.push { cls:=.type "tuple",data:=.seq (ys.map fun(i:Nat)=>rawInt (i:Int)).toArray }).objs.size=s.heap.objs.size+1:=fM _ _;refine hQ _ _ dr (by rw[z1];exact ic _) (fun b o z=>cU _ (cU _ z)) ⟨_,seq,_,zK (prog:=prog) (A:=A') (T:=s.heap.objs.size) (ps:=ys) (ep:=ep) hh (by rw[z1];exact c9 (fS sF)) (by rw[z1];exact c9 (fR _)) hf q1 q2,⟨?_,?_,?_⟩,?_,?_,by simp,?_,by lia,?_⟩
  ·exact⟨_,0,0,0,c8 _ rfl,rfl,rfl⟩
  ·exact⟨o,cU _ tI,hc,hd⟩
  ·exact⟨_,_,cU _ (c8 _ rfl),rfl,rfl⟩
  ·intro b hb;rw[fM,z1];simp only[cW,eH,eI] at hb;rcases hb with h|h|h
   ·rw[h,z1];exact fR _
   ·rw[h];exact fS (fS sF)
   ·rw[h];exact fS (fR _)
  ·intro b hb;simp only[cW,eH,eI] at hb;rcases hb with h|h|h
   ·exact .inr (by rw[h,z1];exact ic _)
   ·exact .inl h
   ·exact .inr (by rw[h];exact cP _)
  ·intro v hv;obtain⟨i,hi,e⟩:=fo hv;obtain⟨p,en,_,e2,e3⟩:=q2 i v (by rw[cR hi,e]);have:=gY e2;exact⟨en,by simpa using this,e3⟩
  ·intro wI;rw[q1];exact y3 wI (fun e=>by
    have:(γ es.size).length=0:=by rw[e];rfl
    rw[gC] at this;lia)
end
structure ZdW(prog:Program)(w:World)(n:Nat)(vs:45)(s:Shared):Prop where
 ref:∀v∈vs,∃b,v=.ref b
 hash:∀v∈vs,∀(A:Around) (E:Value->41) (Q:Int->41),A.units+n<cLine->(∀i tk,Q i { s with toks:=tk })->36 (pyHash v) Q E s
 eq:∀u∈vs,∀v∈vs,Yl prog w n s u v
 quiet:∀v∈vs,XV prog w 8 s v
 oa:∀v∈vs,Vs prog w 8 s v
 hb:∀v∈vs,WS prog w 8 s v
theorem qP(hb:h.objs.size<=b):h.get? b=none:=by
 cases e:h.get? b with
 |none=>rfl
 |some o=>exact oh (cT e) (Ω.mpr hb)
def kb(B:Bool)(h:Heap)(a:Addr)(vs:45):Prop:=∃es ep t,Xb h a es ep t/\t.fits es.size=true/\(B=false->t.led=true)/\(∀e∈es.toList,e.2∈vs)/\es.size<=vs.length/\(vs≠[]->0<es.size)
theorem kq.keep(x:kq B h a vs)(k:∀o,h.get? a=some o->h'.get? a=some o):kq B h' a vs:=by
 obtain⟨o,es,ep,t,ho,r⟩:=x;exact⟨o,es,ep,t,k o ho,r⟩
theorem kq.toL(x:kq B h a vs):kb B h a vs:=by
 obtain⟨o,es,ep,t,ho,hc,hd,hT,r⟩:=x;exact⟨es,ep,t,⟨o,ho,hc,hd⟩,hT.fits,r⟩
def k6{K:Type}[DecidableEq K](knd:KeyKind prog w K)(B:Bool)(h:Heap)(a:Addr)(vs:45):Prop:=
 ∃o es ep t,h.get? a=some o/\o.ExactSet/\o.data=.set es ep t/\t.fits es.size=true/\ElemsOf knd es.toList/\(B=false->t.led=true)/\(∀e∈es.toList,e.2∈vs)/\es.size<=vs.length/\(vs≠[]->0<es.size)
theorem k6.keep{K:Type}[DecidableEq K]{knd:KeyKind prog w K}(x:k6 knd B h a vs)(k:∀o,h.get? a=some o->h'.get? a=some o):k6 knd B h' a vs:=by
 obtain⟨o,es,ep,t,ho,r⟩:=x;exact⟨o,es,ep,t,k o ho,r⟩
theorem k6.toL{K:Type}[DecidableEq K]{knd:KeyKind prog w K}(x:k6 knd B h a vs):kb B h a vs:=by
 obtain⟨o,es,ep,t,ho,hc,hd,hf,_,r⟩:=x;exact⟨es,ep,t,⟨o,ho,hc,hd⟩,hf,r⟩
theorem UK(t:SetTable)(es:88)(h:Int)(x:Value):(layNew t es h x).2.1.led=t.led:=by
 unfold layNew
 split
 ·dsimp only;unfold SetTable.orStandIn
  split<;>rfl
 ·rfl
theorem Vd(t:SetTable)(es:88)(n:Nat):(relayAll t es n).2.1.led=t.led:=by
 unfold relayAll
 split
 ·rename_i t' pd he
  dsimp only
  split
  ·unfold SetTable.relaid SetTable.laid at he;cases hc:SetTable.layClean (SetTable.sizeAbove n-1) (es.map (·.1)) with
   |none=>rw[hc] at he;cases he
   |some ow=>rw[hc] at he;cases he;rfl
  ·rfl
 ·rfl
section
variable{h0:Heap}
theorem Zan{K:Type}[DecidableEq K]{knd:KeyKind prog w K}{k:K}{x:Value}{Q:Bool->41}(pV:knd.is k x=true)(uy:x.scannable=true)(hS:k6 knd B s.heap a vs)(AD:vs.length+1<scanBound)
  (h:∀h' b,Heap.SameBut a s.heap h'->k6 knd B h' a (vs++[x])->Q b 49) :
  36 (setAddHashed a x (knd.hash k)) Q E s:=by
 obtain⟨o,es,ep,t,ho,hex,hd,hf,pW,hL,oP,Ai,oF⟩:=hS;have hb:es.size<scanBound:=by lia
 unfold setAddHashed setAddHashedIn;refine dh (cN (dX ho hd hf ?_));dsimp only;rw[byScan_of uy hb pW];simp only[↓reduceIte];unfold setAddByScan;refine cN ?_;refine cN (eN ?_);refine cN (wpAny_setScan_of pV ho hd hf pW ?_);cases hr:List.findIdx? (fun e=>knd.is k e.2) es.toList with
 |some j=>
  dsimp only;obtain⟨hj,FX,_⟩:=mJ.mp hr;have h0:0<es.size:=by have:j<es.toList.length:=hj;rw[dj] at this;lia
  refine cO (cO ?_);have e:s={ s with heap:=s.heap }:=by cases s;rfl
  rw[e];exact h s.heap false (io a s.heap) ⟨o,es,ep,t,ho,hex,hd,hf,pW,hL,fun e m=>dN _ (oP e m),by rw[cZ];lia,fun _=>h0⟩
 |none=>
  dsimp only;have Az:∀(b:Bool) {s₁:Shared}{Q':Unit->41},Q' () s₁->36 (match b with|true=>rule "set.scan.the-table-gave-way" |false=>pure ()) Q' E s₁:=
   fun b s₁ Q' hq=>by cases b<;>first|exact cO hq|exact eN hq
  have oA:=layNew_perm t es (knd.hash k) x;have oI:=layNew_fits t es (knd.hash k) x;have oG:=UK t es (knd.hash k) x;generalize hLn:layNew t es (knd.hash k) x=L at oA oI oG ⊢;obtain⟨om,t1,o8,Dy⟩:=L;dsimp only at oA oI oG ⊢;rw[iR] at oA;have rQ:ElemsOf knd om.toList:=(pW.push pV uy).perm oA;have rS:om.size=es.size+1:=by rw[<- dj,oA.length_eq,cZ,dj];rfl
  have uI:∀e∈om.toList,e.2∈vs++[x]:=fun e m=>by
   rcases db.mp (oA.mem_iff.mp m) with m|m
   ·exact dN _ (oP e m)
   ·rw[df] at m;subst m;simp
  refine cN (Az _ ?_);have ZG:∀t2:SetTable,t2.fits om.size=true->t2.led=t.led->36 (do
    storeSet a om t2
    if(!o8&&t2.tooFull)=true then do
      (match (relayAll t2 om 66).2.2 with|true=>rule "set.scan.the-table-gave-way" |false=>pure ())
      storeSet a (relayAll t2 om 66).1 (relayAll t2 om 66).2.1
      pure (some true)
     else pure (some true)) (fun Eb s'=>36 (match Eb with|some added=>pure added|none=>setAddHashedIn a x (knd.hash k) 99999) Q E s') E s:=by
   intro t2 f2 l2;refine cN (gZ ho hd ?_ (by rw[cQ];have:scanBound=4096:=rfl;lia));have hg:=Xr (es':=om) (t':=t2) ho hd;have sb:=fI s.heap a (Obj.putSet om t2)
   split
   ·have hp:=relayAll_perm t2 om 66;have tf:=relayAll_fits t2 om 66;have uk:=Vd t2 om 66;generalize hRl:relayAll t2 om 66=Rl at hp tf uk ⊢;obtain⟨oq,t3,As⟩:=Rl;dsimp only at hp tf uk ⊢;have pj:oq.size=om.size:=by rw[<- dj,hp.length_eq,dj]
    refine cN (Az _ ?_);refine cN (gZ hg rfl ?_ (by rw[cQ];have:scanBound=4096:=rfl;lia));have Bq:=Xr (es':=oq) (t':=t3) hg rfl;exact cO (cO (h _ true (sb.trans (fI _ a _)) ⟨_,oq,_,t3,Bq,hex,rfl,tf,rQ.perm hp,(fun z=>by rw[uk,l2];exact hL z),fun e m=>uI e (hp.mem_iff.mp m),by rw[pj,rS,cZ];simp;lia,fun _=>by lia⟩))
   ·exact cO (cO (h _ true sb ⟨_,om,_,t2,hg,hex,rfl,f2,rQ,(fun z=>by rw[l2];exact hL z),uI,by rw[rS,cZ];simp;lia,fun _=>by lia⟩))
  split
  ·refine cN ?_;rw[hashByValue_scannable 8 uy];refine cO ?_
   split
   ·exact ZG t1 oI oG
   ·exact ZG _ (m8 oI) oG
  ·refine cN (cO ?_);simp only[↓reduceIte];exact ZG t1 oI oG
theorem K6{ax S:Addr}(hh:A.handled=none)(oF:ax≠I)(GT:S≠I)(Pa:S≠ax)(O0:h0.get? S=none)(OR:h0.get? I=none)
  (rN:∀{h h' vs},SI h vs->(∀o,h.get? S=some o->h'.get? S=some o)->SI h' vs)
  (Bw:∀(s:Shared) (i:Nat) (v:Value),items[i]?=some v->(∀b o,h0.get? b=some o->s.heap.get? b=some o)->SI s.heap (items.take i) -> ∀(E:Value->41) (Q:Bool->41),(∀h' tk b,Heap.SameBut S s.heap h'->SI h' (items.take i++[v])->Q b 74)->wpAny 86 A.in1 (setAdd S v) Q E s) :
  ∀(c i:Nat) (s:Shared),items.length-i=c->i<=items.length->s.heap.IsListIter I ax i/\s.heap.IsList ax items.toArray->(∀b o,h0.get? b=some o->s.heap.get? b=some o) ->
   SI s.heap (items.take i) ->
   (∀(h':Heap) (tk:Nat),SI h' items->(∀b o,b≠S->b≠I->s.heap.get? b=some o->h'.get? b=some o)->R (.ok (.ret .none)) 74) ->
   codeAny 86 A (.builtin "set.update.loop" ⟨[.ref S,.ref I],[]⟩) R s:=by
 have W:=Walks.list (prog:=prog) (w:=w) (A:=A.in1) (by simpa using hh) I ax oF items.toArray;have zs:items.toArray.size=items.length:=by simp
 intro c
 induction c with
 |zero=>
  intro i s hc hi st hg hS hR;have e:i=items.toArray.size:=by lia
  subst e;refine gi PyProof.Rows.F.entry_set_update_loop ?_;rw[gQ m9 _]
  show wpAny _ A.in1 (pyNext (.ref I) >>= _) _ _ s
  refine cN (W.done s _ _ st fun h' tk hk=>?_)
  show wpAny _ A.in1 (ret Value.none) _ _ _
  have et:items.take items.toArray.size=items:=by rw[zs];exact fg
  rw[et] at hS;exact cO (hR h' tk (rN hS fun o z=>hk S o (by simpa using GT) z) fun b o _ EU z=>hk b o (by simpa using EU) z)
 |succ c ih=>
  intro i s hc hi st hg hS hR;have oM:i<items.toArray.size:=by lia
  refine gi PyProof.Rows.F.entry_set_update_loop ?_;rw[gQ m9 _]
  show wpAny _ A.in1 (pyNext (.ref I) >>= _) _ _ s
  refine cN (W.item i s _ _ oM st fun v h1 tk hP Tt hk=>?_);have ww:items[i]?=some v:=by simpa using hP
  have El:SI h1 (items.take i):=rN hS fun o z=>hk S o (by simpa using GT) z;have Le:∀b o,h0.get? b=some o->h1.get? b=some o:=fun b o z=>hk b o (by simp;rintro rfl;rw[OR] at z;cases z) (hg b o z)
  show wpAny _ A.in1 (holding [v] (setAdd S v) >>= _) _ _ { s with heap:=h1,toks:=tk }
  refine cN (dh ?_);refine Bw { s with heap:=h1,toks:=tk } i v ww Le El _ _ fun h2 tk2 bb uq tK=>?_;have et:items.take (i+1)=items.take i++[v]:=by rw[Ι,ww];rfl
  rw[<- et] at tK;refine cO ⟨ip m9 _,ih (i+1) _ 40 40 (W.frame _ _ _ Tt fun b hb o z=>?_) (fun b o z=>?_) tK fun h' Gr a1 a4=>?_⟩
  ·rw[uq.2 b (fun q=>by subst q;simp at hb;exact hb.elim GT Pa)];exact z
  ·show h2.get? b=some o
   rw[uq.2 b (by rintro rfl;rw[O0] at z;cases z)];exact Le b o z
  ·exact hR h' Gr a1 fun b o Nb EU z=>a4 b o Nb EU (by show h2.get? b=some o;rw[uq.2 b Nb];exact hk b o (by simpa using EU) z)
theorem Ug(a:Value)
  (h:Q₁ (.ref s.heap.objs.size) { s with heap:=s.heap.push { cls:=.type "set",dict:=none,data:=.set #[] 0 (.fresh 0 0 (!w.params.followText "set-order")) } }) :
  codeAny 86 A (.call (.builtin "set.__new__") ⟨[.type "set",a],[]⟩) (wants Q₁ E) s:=by
 refine iX ?_
 show wpAny _ A.in1 (do checkBuiltinCall "set.__new__" ⟨[.type "set",a],[]⟩;again (.builtin "set.__new__" ⟨[.type "set",a],[]⟩)) _ _ s
 refine cN (gN (PySem.F.newCall_set_1 a) (cO ⟨ip PySem.F.plain_set_new _,gi PySem.F.entry_set_new ?_⟩));rw[gQ PySem.F.plain_set_new _];unfold Builtin.«set.__new__» Builtin.Frozenset.newClass;have rT:=sub_set_self;obtain⟨hp,g,d,tk,os⟩:=s;dsimp only
 wp_walk
 refine iS (cO ?_);dsimp only;simp only[newObj];refine cN (wpAny_alloc (cO ?_));exact cO h
end
theorem qz(hh:A.handled=none)(hl:s.heap.IsList l items.toArray)
  (rN:∀{h h' vs},SI h vs->(∀o,h.get? s.heap.objs.size=some o->h'.get? s.heap.objs.size=some o)->SI h' vs)
  (Ev:SI (s.heap.push { cls:=.type "set",dict:=none,data:=.set #[] 0 (.fresh 0 0 (!w.params.followText "set-order")) }) [])
  (Bw:∀(A':Around) (s':Shared) (i:Nat) (v:Value),A'.units<=A.units+5->items[i]?=some v->(∀b o,s.heap.get? b=some o->s'.heap.get? b=some o)->SI s'.heap (items.take i) -> ∀(E:Value->41) (Q:Bool->41),(∀h' tk b,Heap.SameBut s.heap.objs.size s'.heap h'->SI h' (items.take i++[v])->Q b { s' with heap:=h',toks:=tk })->wpAny 86 A' (setAdd s.heap.objs.size v) Q E s')
  (h:∀(h':Heap) (tk:Nat),SI h' items->47->Q (.ref s.heap.objs.size) 74) :
  36 (call (.type "set") [.ref l]) Q E s:=by
 have AG:=fL.made;have rT:=fL.sub;obtain⟨c,tl,D0⟩:=fL.mro;refine wpAny_call (iX (cO ⟨Code.quiet_builtin _ 61,gi nh ?_⟩));rw[Around.under_plain (weight_type_call_type "set" [.ref l] []) rfl];have g1:=fL.notType;have g2:=fL.canCreate;have g3:=PySem.F.typeCall_set_1 (.ref l)
 repeat (any_goals (first|assumption|wp_step))
 generalize oG:(!w.params.followText "set-order")=led at Ev;refine gw (Ug (.ref l) (E:=E) (Q₁:=fun obj t=>obj=.ref s.heap.objs.size/\t={ s with heap:=s.heap.push { cls:=.type "set",dict:=none,data:=.set #[] 0 (.fresh 0 0 led) } }) ⟨rfl,by rw[oG]⟩) fun r t hr=>?_;cases r with
 |error e=>exact hr
 |ok fl=>
  cases fl with
  |ret obj=>
   obtain⟨rfl,rfl⟩:=hr;have hS:(s.heap.push { cls:=.type "set",dict:=none,data:=.set #[] 0 (.fresh 0 0 led) }).get? s.heap.objs.size=some { cls:=.type "set",dict:=none,data:=.set #[] 0 (.fresh 0 0 led) }:=c8 _ rfl;have hT:Shared.TypeIs { s with heap:=s.heap.push { cls:=.type "set",dict:=none,data:=.set #[] 0 (.fresh 0 0 led) } } (.ref s.heap.objs.size) "set" := ⟨_,hS,rfl⟩;have Ml:=fL.init.lookup;have Mb:=fL.init.bind (.ref s.heap.objs.size)
   repeat (any_goals (first|assumption|wp_step))
   refine gw (codeAny_call_builtin (R:=wants (fun r u=>r=.none/\∃h' tk,u=74/\SI h' items /\ 47) E) fL.init.plain PySem.F.entry_set_init (check_set_init_1 hT ?_)) fun r2 u py=>?_
   ·obtain⟨ol,Cy,BQ,nl,CL⟩:=hl;obtain⟨Di,Ay,EC,ub⟩:=ol;simp only at BQ CL;subst BQ;subst CL;have G5:(s.heap.push { cls:=.type "set",dict:=none,data:=.set #[] 0 (.fresh 0 0 led) }).get? l=some { cls:=.type "list",dict:=Ay,data:=.seq items.toArray nl,slots:=ub }:=cU _ Cy;have I0:=PySem.F.sub_list_set;have G2:=PySem.F.sub_list_frozenset;have oF:(Value.type "list" == Value.type "dict")=false:=by left
    have ul:(s.heap.push { cls:=.type "set",dict:=none,data:=.set #[] 0 (.fresh 0 0 led) }).IsList l items.toArray:=⟨_,G5,rfl,nl,rfl⟩;unfold Builtin.«set.__init__» noKeywords Builtin.Frozenset.updateFrom;generalize hPI:pyIter=PI
    wp_walk
    subst hPI;refine mr ul ?_;refine cN (wpAny_runValue ?_);have MS:l<s.heap.objs.size:=cT Cy;have z1:(s.heap.push { cls:=.type "set",dict:=none,data:=.set #[] 0 (.fresh 0 0 led) }).objs.size=s.heap.objs.size+1:=fM _ _;refine K6 (h0:=s.heap) (SI:=SI) (items:=items) (ax:=l) (by simpa using hh) (by rw[z1];exact c9 (fS MS)) (by rw[z1];exact c9 (fR _)) (fW MS)
     (qP (cP _)) (qP (by rw[z1];exact ic _)) rN (fun s' i v hv hg hS E Q hQ=>Bw _ s' i v ?hu hv hg hS E Q hQ) (items.length-0) 0 _ 40 (dH _)
     ⟨⟨_,c8 _ rfl,rfl,rfl⟩,(ul.push _)⟩ (fun b o z=>cU _ (cU _ z)) ?Du ?hR
    case hu=>simp only[gX];lia
    case Du=>exact rN Ev fun o z=>cU _ z
    case hR=>
     intro h' tk a1 a4
     show 50 _ _ _ _
     refine cO ?_
     show 50 (ret Value.none) _ _ _
     refine cO ⟨rfl,h',tk,rfl,a1,fun b o z=>?_⟩;have oM:=cT z;exact a4 b o (c9 oM) (by rw[z1];exact c9 (fS oM)) (cU _ (cU _ z))
   ·cases r2 with
    |error e=>exact py
    |ok fl2=>
     cases fl2 with
     |ret r=>
      obtain⟨rfl,h',tk,rfl,a1,a4⟩:=py
      repeat (any_goals (first|assumption|wp_step))
      exact h _ _ a1 a4
     |_=>exact py.elim
  |_=>exact hr.elim
theorem Qa(hh:A.handled=none)(hu:A.units+5+n<cLine)(hl:s.heap.IsList l items.toArray)
  (hE:∀s':Shared,(∀b o,s.heap.get? b=some o->s'.heap.get? b=some o)->ZdW prog w n items s') (hb:items.length<18)
  (h:∀(h':Heap) (tk:Nat),kb 46 h' s.heap.objs.size items->47->Q (.ref s.heap.objs.size) 74) :
  36 (call (.type "set") [.ref l]) Q E s:=by
 refine qz (SI:=fun h vs=>kq 46 h s.heap.objs.size vs) hh hl (fun x k=>x.keep k) ?_ ?_ fun h' tk a b=>h h' tk a.toL b
 ·exact⟨_,#[],0,_,c8 _ rfl,⟨rfl,rfl,rfl⟩,rfl,⟨rfl,rfl,.inl ⟨rfl,by left⟩⟩,(fun z=>by show(!_)=true;rw[z];rfl),(fun e he=>by simp at he),dH _,fun z=>oh rfl z⟩
 ·intro A' s' i v hA ww hg hS E Q hQ;have hv:v∈items:=cY ww;have hi:i<items.length:=by
   rcases fe i items.length with h|h
   ·exact h
   ·rw[lP h] at ww;cases ww
  have oP:∀u∈items.take i,u∈items:=fun u m=>gA m;have F1:=hE s' hg;obtain⟨b,eb⟩:=F1.ref v hv;unfold setAdd;refine dh (cN (F1.hash v hv _ _ _ 40 fun FD BX=>?_));have F2:=hE { s' with toks:=BX } hg;refine ZbI (n:=n) (s:={ s' with toks:=BX }) (vs:=items.take i) eb 40 hS (by rw[dB];lia) (fun u m=>F2.ref u (oP u m)) (fun u m=>F2.eq u (oP u m) v hv)
   (fun l hl Q hQ=>ZbD ⟨F2.quiet v hv,F2.oa v hv⟩ (fun y m=>⟨F2.quiet y (oP y (hl y m)),F2.oa y (oP y (hl y m))⟩) hQ) (fun Q hQ=>F2.hb v hv _ _ _ hQ) fun h2 bb uq tK=>hQ h2 BX bb uq tK
theorem xV{K:Type}[DecidableEq K]{knd:KeyKind prog w K}(hh:A.handled=none)(hl:s.heap.IsList l items.toArray)
  (hE:∀v∈items,v.scannable=true/\∃k,knd.is k v=true) (hb:items.length<1000)
  (h:∀(h':Heap) (tk:Nat),kb 46 h' s.heap.objs.size items->47->Q (.ref s.heap.objs.size) 74) :
  36 (call (.type "set") [.ref l]) Q E s:=by
 refine qz (SI:=fun h vs=>k6 knd 46 h s.heap.objs.size vs) hh hl (fun x k=>x.keep k) ?_ ?_ fun h' tk a b=>h h' tk a.toL b
 ·exact⟨_,#[],0,_,c8 _ rfl,⟨rfl,rfl,rfl⟩,rfl,by rfl,(fun e he=>by simp at he),(fun z=>by show(!_)=true;rw[z];rfl),(fun e he=>by simp at he),dH _,fun z=>oh rfl z⟩
 ·intro A' s' i v hA ww hg hS E Q hQ;have hv:v∈items:=cY ww;obtain⟨h1,k,h2⟩:=hE v hv;unfold setAdd;refine dh (cN (knd.pyHash h2 ?_));refine Zan (s:={ s' with toks:=s'.toks+1 }) (vs:=items.take i) h2 h1 hS (by rw[dB];have:scanBound=4096:=rfl;lia) fun h' b sb sf=>hQ h' _ b sb sf
section
variable{prog:Program}{w:World}{n:Nat}{s:Shared}{A:Around}{E:Value->Shared->Prop}
theorem jd{β:Type}{f:Value->Sem β}{g:Value->β}:∀{vs:45}{Q:List β->41},(∀v∈vs,∀(Q:β->41),Q (g v) s->36 (f v) Q E s)->Q (vs.map g) s->36 (vs.mapM f) Q E s
 |[],Q,_,h=>by rw[List.mapM_nil];exact cO h
 |v::vs,Q,hf,h=>by
  rw[List.mapM_cons];refine cN (hf v dC _ ?_);refine cN (jd (fun u hu=>hf u (c7 _ hu)) ?_);exact cO h
theorem Zaf{x y:Value}{Q:Bool->41}(hu:A.units+n<cLine)(h1:XH prog w n s x y)(h:∀b,Q b s):36 (oneLt' false x y) Q E s:=by
 rw[oneLt'_eq];simp only[c6,cX];exact cN (h1 A _ _ hu fun b=>fQ (h b))
def zG(x y:Value):Prop:=(∃a t b u,x=.int a t/\y=.int b u)\/(∃a t b u,x=.str a t/\y=.str b u)
theorem qI{x y:Value}{Q:Bool->41}(h1:zG x y)(h:∀b,Q b s):36 (oneLt' true x y) Q E s:=by
 rcases h1 with⟨a,t,b,u,rfl,rfl⟩|⟨a,t,b,u,rfl,rfl⟩
 ·exact oneLt_int (h _)
 ·exact oneLt_str (h _)
theorem QZ{xs:45}{f:Bool}{Q:Bool->41}(hu:A.units+n<cLine)(hx:YL s a xs)(hy:YL s b ys)(he:∀p∈xs.zip ys,Yl prog w n s p.1 p.2/\XH prog w n s p.1 p.2)
  (hf:∀p∈(xs.zip ys)[0]?,zG p.1 p.2) (h:∀b,Q b s):36 (keyLt' (tuples' f) (.ref a) (.ref b)) Q E s:=by
 obtain⟨oa,na,rY,_,sj⟩:=hx;obtain⟨ob,nb,rP,_,pI⟩:=hy
 show 50 (Builtin.List.listItems (.ref a) >>= _) _ _ s
 refine cN (listItems_at rY sj ?_);refine cN (listItems_at rP pI ?_);refine cN ?_;refine gc _ (fun ZG r s'=>r.1=none/\s'=s/\∀e∈ZG,Yl prog w n s e.1.1 e.1.2/\∀(E:Value->41) (Q:Bool->41),(∀b,Q b s)->36 (oneLt' (f&&e.2==0) e.1.1 e.1.2) Q E s) _ ?_ ?_ _ _ ⟨rfl,rfl,?_⟩
 ·rintro⟨⟨u,v⟩,i⟩ ZG r s' ⟨hr,rfl,ha⟩;obtain⟨e1,e2⟩:=ha ((u,v),i) dC;refine cN (e1 A _ _ hu fun b=>?_);cases b
  ·simp only[gP,dq];refine cN (e2 _ _ fun b=>?_);exact cO (cO (h b))
  ·simp only[dM,c6,cX];exact cO ⟨rfl,rfl,fun p hp=>ha p (c7 _ hp)⟩
 ·rintro⟨r1,r2⟩ s' ⟨hr,rfl,_⟩;simp only at hr;subst hr;exact cO (h _)
 ·rintro⟨⟨u,v⟩,i⟩ hm;have hi:(xs.zip ys)[i]?=some (u,v):=by
   have:=List.mem_zipIdx_iff_getElem?.mp hm;simpa using this
  obtain⟨e1,e2⟩:=he (u,v) (cY hi);refine⟨e1,fun E Q h=>?_⟩
  show 36 (oneLt' (f&&i==0) u v) Q E s
  cases hfi:(f&&i==0)
  ·exact Zaf hu e2 h
  ·have h0:i=0:=by
    rw[dg] at hfi;simpa using hfi.2
   subst h0;exact qI (hf (u,v) hi) h
def V0(s:Shared):Value->67
 |.ref a=>match s.heap.get? a with
  |some o=>match o.data with
   |.seq items _=>items[0]?
   |_=>none
  |none=>none
 |_=>none
theorem qY{xs:45}(h:YL s a xs):V0 s (.ref a)=xs[0]?:=by
 obtain⟨o,n,ho,_,hd⟩:=h;simp only[V0,ho,hd];simp
theorem kI{xs:45}{Q:67->41}(hx:YL s a xs)(h:Q (V0 s (.ref a)) s):36 (firstOfTuple' (.ref a)) Q E s:=by
 rw[qY hx] at h;have hT:=hx.typeIs;obtain⟨o,n,ho,_,hd⟩:=hx
 show 50 (typeOf (.ref a) >>= _) _ _ s
 refine cN (iF hT ?_);have e:(Value.type "tuple" != Value.type "tuple")=false:=by rfl
 simp only[e,c6,cX];refine cN (listItems_at ho hd (cO ?_));simpa using h
def ZcT:Value->Value
 |.int _ _=>.type "int"
 |_=>.type "str"
def Ww(x:Value):Prop:=(∃a t,x=.int a t)\/(∃a t,x=.str a t)
theorem jq{x:Value}(hx:Ww x)(h:Q (ZcT x) s):36 (typeOf x) Q E s:=by
 rcases hx with⟨a,t,rfl⟩|⟨a,t,rfl⟩
 ·exact cO h
 ·exact cO h
theorem yi{Q:67->41}(hv:∀v∈vs,Ww v)(h:∀o,Q o s):36 (oneTypeOnly' vs.toArray) Q E s:=by
 rw[oneTypeOnly'_eq,List.mapM_toArray,map_eq_pure_bind];refine cN (cN (jd (g:=ZcT) (fun v m Q h=>jq (hv v m) h) (cO ?_)));cases (vs.map ZcT).toArray[0]? with
 |none=>exact cO (h _)
 |some t=>exact cO (h _)
theorem jG{Q:SortKind->41}(hv:∀v∈vs,∃a x xs,v=.ref a/\YL s a (x::xs)/\Ww x)(h:∀f,Q (tuples' f) s):36 (keyKind' vs.toArray) Q E s:=by
 rw[keyKind'_eq,List.mapM_toArray,map_eq_pure_bind];refine cN (cN (jd (g:=V0 s) (fun v m Q h=>?_) (cO ?_)))
 ·obtain⟨a,x,xs,rfl,t,_⟩:=hv v m;exact kI t h
 ·have AF:∀v∈vs,∃x,V0 s v=some x/\Ww x:=fun v m=>by
   obtain⟨a,x,xs,rfl,t,p⟩:=hv v m;exact⟨x,by rw[qY t];rfl,p⟩
  have oZ:(vs.map (V0 s)).toArray.all (·.isSome)=true:=by
   rw[List.all_toArray,dU];intro o ho;obtain⟨v,m,rfl⟩:=da.mp ho;obtain⟨x,e,_⟩:=AF v m;rw[e];rfl
  rw[og oZ];refine cN (eN ?_);rw[List.filterMap_toArray];refine cN (yi (fun y hy=>?_) fun o=>cO (h _));obtain⟨o,ho,e⟩:=ψ.mp hy;obtain⟨v,m,rfl⟩:=da.mp ho;obtain⟨x,e',p⟩:=AF v m;rw[e'] at e;cases e;exact p
theorem qV(hu:A.units+n<cLine)(hv:∀v∈vs,∃a x xs,v=.ref a/\YL s a (x::xs)/\Ww x)
  (hc:∀a b xs ys,Value.ref a∈vs->Value.ref b∈vs->YL s a xs->YL s b ys->(∀p∈xs.zip ys,Yl prog w n s p.1 p.2/\XH prog w n s p.1 p.2)/\(∀p∈(xs.zip ys)[0]?,zG p.1 p.2)):UL prog w A vs s:=by
 intro _ E Q h;refine jG hv fun f=>h _ ?_;intro p hp q hq E Q h;rw[pairsOf_toList] at hp hq;have m:∀{r:Value×Value},r∈vs.zip vs->r.1∈vs:=fun {r} hr=>(iN (a:=r.1) (b:=r.2) hr).1;obtain⟨a,x,xs,e,t,_⟩:=hv _ (m hp);obtain⟨b,y,ys,e',t',_⟩:=hv _ (m hq);have k:=hc a b _ _ (e▸m hp) (e'▸m hq) t t';rw[e,e'];exact QZ hu t t' k.1 k.2 h
end
theorem jO{Q:45->41}(hh:A.handled=none)(hS:kb 46 s.heap a vs)(hz:vs.length<=1000)
  (hQ:∀(seq:45) (h':Heap) dr tk,(∀v∈seq,v∈vs)->seq.length<=vs.length->(vs≠[]->0<seq.length)->s.heap.objs.size<=h'.objs.size->47->Q seq { s with heap:=h',drawn:=dr,toks:=tk }) :
  36 (collect (.ref a)) Q E s:=by
 obtain⟨es,ep,t,hA,hf,hL,oP,Ai,oF⟩:=hS;unfold collect;refine cN (wpAny_runValue (gi PySem.F.entry_proto_collect ?_));rw[gQ PySem.F.plain_proto_collect _]
 show wpAny _ A.in1 (newList [] >>= fun l=>again (.builtin "list.__iadd__" ⟨[l,.ref a],[]⟩)) _ _ s
 refine cN (eQ ?_);refine cO ⟨ip mK _,gi PySem.F.entry_list_iadd ?_⟩;rw[gQ mK _];have sF:a<s.heap.objs.size:=by obtain⟨o,ho,_⟩:=hA;exact cT ho
 have Bl:Xb (s.heap.push { cls:=.type "list",data:=.seq ([]:45).toArray }) a es ep t:=hA.at fun o z=>cU _ z
 show wpAny _ A.in1 (Builtin.List.listExtendWith (.ref s.heap.objs.size) (.ref a) (.ref s.heap.objs.size)) _ _ _
 unfold Builtin.List.listExtendWith;have hT:=Xb.typeIs (s:={ s with heap:=s.heap.push { cls:=.type "list",data:=.seq ([]:45).toArray } }) Bl;refine cN (iF hT ?_);have h1:Builtin.List.listSameRef (.ref s.heap.objs.size) (.ref a)=false:=by simp[Builtin.List.listSameRef,fW sF]
 have h2:(Value.type "set" == Value.type "list")=false:=by left
 have h3:(Value.type "set" == Value.type "tuple")=false:=by left
 simp only[h1,h2,h3,Bool.or_false,c6,cX];have z1:(s.heap.push { cls:=.type "list",data:=.seq ([]:45).toArray }).objs.size=s.heap.objs.size+1:=fM _ _;refine cN (Zbo (A':=A.in1) (by simpa using hh) Bl hf hL 40 fun I h1 dr hI Be hW=>?_);rw[z1] at hI;obtain⟨fp,seq,St,W,o9,Ff,uL,SY,m1,m2,m3⟩:=hW;have Gz:Xb h1 a es ep t:=Bl.at fun o z=>Be _ o z;refine cN (dh ?_);unfold Builtin.List.listLengthHint;have Bg:=Xb.typeIs (s:={ s with heap:=h1,drawn:=dr }) Gz;refine cN (gf Bg U4 ?_);have sp:splitId "set.__len__" = some ("set","__len__"):=by left
 dsimp only;rw[sp];dsimp only;refine cN (fH Bg sub_set_self ?_);simp only[dM,c6,cX]
 show 50 (if true=true then _ else _) _ _ _
 rw[og rfl];refine cN (iF Bg ?_);dsimp only;refine cO ?_
 show wpAny _ A.in1 (if(false||true)=true then _ else _) _ _ _
 rw[og (show(false||true)=true from rfl)];refine cN (eN ?_);have CM:s.heap.objs.size∉fp:=fun hm=>by
  rcases uL _ hm with e|e
  ·exact oh e (fW sF)
  ·rw[z1] at e;lia
 have Ei:h1.get? s.heap.objs.size=some { cls:=.type "list",data:=.seq ([]:45).toArray }:=Be _ _ (c8 _ rfl);refine cN ?_
 show wpAny _ A.in1 (updateSeq s.heap.objs.size (·.push .none) >>= fun _=>updateSeq s.heap.objs.size (·.pop)) _ _ _
 refine cN (wpAny_updateSeq Ei rfl ?_);have C9:=fO (Obj.mapSeq (·.push Value.none)) Ei rfl;refine wpAny_updateSeq C9 rfl ?_;have GV:=fO (Obj.mapSeq (·.pop)) C9 rfl;have CU:∀b o,b≠s.heap.objs.size->h1.get? b=some o->((h1.update s.heap.objs.size (Obj.mapSeq (·.push Value.none))).update s.heap.objs.size (Obj.mapSeq (·.pop))).get? b=some o:=
  fun b o hb e=>(fZ _ _ (eY hb)).trans ((fZ _ _ (eY hb)).trans e)
 refine cO ⟨ip PySem.F.plain_extend_loop _,codeAny_extend_loopS W.toS (by rw[cQ];lia) _ CM _ seq.length 0 _ _ _ rfl (dH _) (W.frame 0 _ _ o9 fun b hb o e=>CU b o (fun h=>CM (h▸hb)) e) GV (ItemsOf.nil _) fun s' rA c' hm sf rz=>?_⟩
 show wpAny _ A (load s.heap.objs.size >>= _) _ _ s'
 refine cN (wpAny_load sf ?_);have e1:rA.toList=seq:=by
  apply iY;intro i;rw[fj];rcases fe i rA.size with h|h
  ·have:=rz.2 i _ (eX rA i h);rw[eX rA i h];exact this.symm
  ·rw[gD h,lP (by rw[rz.1] at h;exact h)]
 refine cO ?_;rw[e1];obtain⟨Et,gg,dd,tt,oo⟩:=s';obtain⟨q1,q2,q3,q4,q5⟩:=hm;dsimp only at q1 q2 q3 q4 q5;subst q2;subst q3;subst q4;have keep:∀b o,s.heap.get? b=some o->Et.get? b=some o:=fun b o z=>by
  have oM:=cT z;refine q1 b o (by simp only[cW,eH,eI];rintro(h|h);exact oh oM (by rw[h];exact gn _);exact oh oM (by rw[h];exact Ω.mpr (Nat.le_of_succ_le hI))) (CU b o (c9 oM) (Be b o (cU _ z)))
 refine hQ seq Et _ tt (fun v m=>by obtain⟨e,h1,h2⟩:=m1 v m;rw[h2];exact oP e h1) 40 (fun z=>m3 (oF z)) ?_ keep;exact iL (cT sf)
theorem KQ(hh:A.handled=none)(hS:kb 46 s.heap a vs)(C8:vs.length<64)
  (hq:∀A' (s':Shared) (seq:45),A'.units<=A.units+2->(∀b o,s.heap.get? b=some o->s'.heap.get? b=some o)->(∀v∈seq,v∈vs)->UL prog w A' seq s')
  (h:∀(out:45) (L n:Nat) (h':Heap) dr tk,(∀v∈out,v∈vs)->out.length<=vs.length->(vs≠[]->0<out.length)->s.heap.objs.size<=L->47 -> h'.get? L=some { cls:=.type "list",data:=.seq out.toArray n }->Q (.ref L) { s with heap:=h',drawn:=dr,toks:=tk }) :
  36 (call (.builtin "sorted") [.ref a]) Q E s:=by
 refine nj kind_sorted plain_sorted entry_sorted (args_sorted1 _) ?_;unfold Builtin.«sorted»;refine cN (m:=checkCount "sorted" 1 1 _) (cO ?_);refine cN (jO (by simpa using hh) hS 40 fun seq h1 dr tk m1 m2 m3 hz k1=>?_);refine cN (wpAny_newList ?_ (by rw[cQ];lia));have Am:(h1.push 114).get? h1.objs.size=some 114:=c8 _ rfl;have k2:∀b o,s.heap.get? b=some o->b≠h1.objs.size/\(h1.push 114).get? b=some o:=fun b o z=>by
  have:=k1 b o z;exact⟨c9 (cT this),cU _ this⟩
 show 50 _ _ _ { s with heap:=h1.push 114,drawn:=dr,toks:=tk }
 refine cN (dh (eE slot_list_sort ⟨_,Am,rfl⟩ entry_list_sort (zj Am (fun h' k=>hq _ _ seq ?_ (fun b o z=>k b o (k2 b o z).1 (k2 b o z).2) m1) 40 fun out pm=>⟨_,rfl,?_⟩) (args_list_sort _)))
 ·simp only[gX];lia
 ·obtain⟨e,he⟩:=sortedHeap_at (out:=out.toArray) Am;refine cO ⟨_,rfl,h out h1.objs.size e _ dr tk (fun v m=>m1 v (pm.mem_iff.mp m)) (by rw[pm.length_eq];exact m2) (fun z=>by rw[pm.length_eq];exact m3 z) hz (fun b o z=>?_) he⟩;obtain⟨n1,z1⟩:=k2 b o z
  show(sortedHeap _ _ _ _).get? b=some o
  rw[sortedHeap_old n1 (cT z1)];exact z1
theorem yf(hk:2<=vs.length->keyKind' vs.toArray=pure oneType')(hc:∀x∈vs,∀y∈vs,zG x y):UL prog w A vs s:=by
 intro h2 E Q h;rw[hk h2];refine cO (h _ ?_);intro p hp q hq E Q h;rw[pairsOf_toList] at hp hq;rw[keyLt'_oneType];exact qI (hc _ (iN (a:=p.1) (b:=p.2) hp).1 _ (iN (a:=q.1) (b:=q.2) hq).1) h
theorem kX(hv:∀v∈vs,∃i t,v=.int i t):UL prog w A vs s:=by
 have all:∀vs:45,(∀v∈vs,∃i t,v=.int i t)->∃ns,IntsAre vs ns:=by
  intro vs
  induction vs with
  |nil=>intro _;exact⟨[],.nil⟩
  |cons v r ih=>
   intro h;obtain⟨i,t,rfl⟩:=h v 39;obtain⟨ns,q⟩:=ih fun u m=>h u (c7 _ m);exact⟨i::ns,.cons i t q⟩
 obtain⟨ns,q⟩:=all vs hv;refine yf (fun h2=>?_) fun x hx y hy=>?_
 ·match vs,h2,q with
  |v₁::v₂::r,_,q=>exact keyKind_ints q
 ·obtain⟨i,t,rfl⟩:=hv x hx;obtain⟨j,u,rfl⟩:=hv y hy;exact .inl ⟨_,_,_,_,rfl,rfl⟩
theorem jT(hv:∀v∈vs,∃x t,v=.str x t):UL prog w A vs s:=by
 have all:∀vs:45,(∀v∈vs,∃i t,v=.str i t)->∃ns,StrsAre vs ns:=by
  intro vs
  induction vs with
  |nil=>intro _;exact⟨[],.nil⟩
  |cons v r ih=>
   intro h;obtain⟨i,t,rfl⟩:=h v 39;obtain⟨ns,q⟩:=ih fun u m=>h u (c7 _ m);exact⟨i::ns,.cons i t q⟩
 obtain⟨ns,q⟩:=all vs hv;refine yf (fun h2=>?_) fun x hx y hy=>?_
 ·match vs,h2,q with
  |v₁::v₂::r,_,q=>exact keyKind_strs q
 ·obtain⟨i,t,rfl⟩:=hv x hx;obtain⟨j,u,rfl⟩:=hv y hy;exact .inr ⟨_,_,_,_,rfl,rfl⟩
section
variable{prog:Program}{w:World}{A:Around}{E:Value->Shared->Prop}{s:Shared}
theorem UD{α:Type}:∀{l:List α}{i:Nat} (h:i<l.length),l.Perm (l[i]::l.eraseIdx i)
 |x::r,0,_=>.refl _
 |x::r,i+1,h=>by
  have hi:i<r.length:=by simpa using h
  have ih:=UD hi
  show(x::r).Perm (r[i]::x::r.eraseIdx i)
  exact(ih.cons x).trans (.swap _ _ _)
theorem zZ(n:Nat):∀(xs:List α) {s:Shared}{Q:List α->41},xs.length=n->(∀ys dr,ys.Perm xs->Q ys { s with drawn:=dr })->36 (drawOrder n xs) Q E s:=by
 induction n with
 |zero=>
  intro xs s Q hl h;have:xs=[]:=ξ hl;subst this;unfold drawOrder;exact cO (h [] s.drawn (.refl _))
 |succ n ih=>
  intro xs s Q hl h;cases xs with
  |nil=>simp at hl
  |cons x r=>
   show 50 (choose .order (x::r).length >>= _) _ _ s
   refine cN (yz 39 fun i dr hi=>?_);have e:(x::r)[i]?=some (x::r)[i]:=cR hi;rw[e];dsimp only;refine cN (ih ((x::r).eraseIdx i) (by rw[Δ hi];lia) fun ys Ik hp=>?_);exact cO (h (_::ys) Ik ((hp.cons _).trans (UD hi).symm))
theorem UU{α:Type}{next:Nat->Nat}:∀(f k:Nat) (LF:List α) (out:Array α),LF.length=f->(pickOrder.go next f k LF out).toList.Perm (out.toList++LF)
 |0,k,LF,out,h=>by
  have:LF=[]:=ξ h;subst this;unfold pickOrder.go;rw[gp]
 |f+1,k,LF,out,h=>by
  have hi:next k%LF.length<LF.length:=ig _ 40;unfold pickOrder.go;rw[cR hi];dsimp only;have ih:=UU (next:=next) f (k+1) (LF.eraseIdx (next k%LF.length)) (out.push LF[next k%LF.length]) (by rw[Δ hi];lia);refine ih.trans ?_;rw[iR,gR];exact List.Perm.append_left _ (UD hi).symm
theorem xY(xs:Array α):(pickOrder next xs).toList.Perm xs.toList:=by
 have:=UU (next:=next) xs.size 0 xs.toList #[] (dj ..)
 show(pickOrder.go next xs.size 0 xs.toList #[]).toList.Perm _
 simpa using this
end
theorem ZcZ{U:L2.St}(I:L2.Inv X bJ U H s)(d:Drawn):L2.Inv X bJ U H { s with drawn:=d }:=
 ⟨I.ok,I.os,I.bare,I.base,I.loc,I.cell,I.free,I.freeC,I.pin,I.hok,I.len⟩
def Z4:Value->Int
 |.int x _=>x
 |_=>0
def ZeF(prog:Program)(w:World)(B:Bool)(h:Heap)(a:Addr)(ss:70):Prop:=
 ∃o es ep t,h.get? a=some o/\o.ExactSet/\o.data=.set es ep t/\t.fits es.size=true/\ElemsOf (Zv prog w) es.toList/\(B=false->t.led=true) /\
  (∀e∈es.toList,∃x k,e.2=.int x k)/\(es.toList.map fun e=>Z4 e.2).Nodup/\(∀x,x∈(es.toList.map fun e=>Z4 e.2)↔x∈ss)/\es.size<=ss.length
theorem Zb0{x:Int}{Q:Bool->41}(hS:ZeF prog w B s.heap a ss)(AD:ss.length+1<scanBound)
  (h:∀h' b,Heap.SameBut a s.heap h'->ZeF prog w B h' a (ss++[x])->Q b 49) :
  36 (setAddHashed a (.int x tk) 84) Q E s:=by
 have pV:(Zv prog w).is (.inl x) (.int x tk)=true:=Y2 x tk;have uy:(Value.int x tk).scannable=true:=rfl;obtain⟨o,es,ep,t,ho,hex,hd,hf,pW,hL,o9,sd,oP,Ai⟩:=hS;have hb:es.size<scanBound:=by lia
 have Ew:∀e∈es.toList,((Zv prog w).is (.inl x) e.2=true↔Z4 e.2=x):=fun e m=>by
  obtain⟨y,k,ey⟩:=o9 e m;rw[ey];constructor
  ·intro q;have q2:Vz (.inl x) (.int y k)=true:=q;rcases ZM q2 with⟨i,t',e1,e2⟩|⟨z,t',e1,e2⟩
   ·cases e1;cases e2;rfl
   ·cases e1
  ·intro q;have q':y=x:=q;subst q';exact Y2 y k
 unfold setAddHashed setAddHashedIn;refine dh (cN (dX ho hd hf ?_));dsimp only;rw[byScan_of uy hb pW];simp only[↓reduceIte];unfold setAddByScan;refine cN ?_;refine cN (eN ?_);refine cN (wpAny_setScan_of pV ho hd hf pW ?_);cases hr:List.findIdx? (fun e=>(Zv prog w).is (.inl x) e.2) es.toList with
 |some j=>
  dsimp only;obtain⟨hj,FX,_⟩:=mJ.mp hr;refine cO (cO ?_);have e:s={ s with heap:=s.heap }:=by cases s;rfl
  rw[e];have hm:x∈ss:=(oP x).mp (da.mpr ⟨es.toList[j],gE hj,(Ew _ (gE hj)).mp FX⟩);refine h s.heap false (io a s.heap) ⟨o,es,ep,t,ho,hex,hd,hf,pW,hL,o9,sd,fun y=>?_,by rw[cZ];lia⟩;rw[oP y,db,df];exact⟨.inl,fun q=>q.elim id fun q=>q▸hm⟩
 |none=>
  dsimp only;have pb:∀e∈es.toList,Z4 e.2≠x:=fun e m q=>by
   have:=Θ.mp hr e m;rw[(Ew e m).mpr q] at this;cases this
  have Az:∀(b:Bool) {s₁:Shared}{Q':Unit->41},Q' () s₁->36 (match b with|true=>rule "set.scan.the-table-gave-way" |false=>pure ()) Q' E s₁:=
   fun b s₁ Q' hq=>by cases b<;>first|exact cO hq|exact eN hq
  have oA:=layNew_perm t es 84 (.int x tk);have oI:=layNew_fits t es 84 (.int x tk);have oG:=UK t es 84 (.int x tk);generalize hLn:layNew t es 84 (.int x tk)=L at oA oI oG ⊢;obtain⟨om,t1,o8,Dy⟩:=L;dsimp only at oA oI oG ⊢;rw[iR] at oA;have rQ:ElemsOf (Zv prog w) om.toList:=(pW.push pV uy).perm oA;have rS:om.size=es.size+1:=by rw[<- dj,oA.length_eq,cZ,dj];rfl
  have t6:∀(oq:88),oq.toList.Perm om.toList->(∀e∈oq.toList,∃x k,e.2=.int x k)/\(oq.toList.map fun e=>Z4 e.2).Nodup/\(∀y,y∈(oq.toList.map fun e=>Z4 e.2)↔y∈ss++[x]):=fun oq hp=>by
   have ut:=hp.trans oA;have hm:=ut.map fun e=>Z4 e.2;rw[eO] at hm;refine⟨fun e m=>?_,hm.nodup_iff.mpr (fy.mpr ⟨sd,by simp,fun u hu v hv=>?_⟩),fun y=>?_⟩
   ·rcases db.mp (ut.mem_iff.mp m) with m|m
    ·exact o9 e m
    ·rw[df] at m;subst m;exact⟨x,tk,rfl⟩
   ·obtain⟨e,m,rfl⟩:=da.mp hu;have:v=x:=by simpa[Z4] using hv
    rw[this];exact pb e m
   ·rw[hm.mem_iff,db,db,oP y];simp[Z4]
  refine cN (Az _ ?_);have ZG:∀t2:SetTable,t2.fits om.size=true->t2.led=t.led->36 (do
    storeSet a om t2
    if(!o8&&t2.tooFull)=true then do
      (match (relayAll t2 om 66).2.2 with|true=>rule "set.scan.the-table-gave-way" |false=>pure ())
      storeSet a (relayAll t2 om 66).1 (relayAll t2 om 66).2.1
      pure (some true)
     else pure (some true)) (fun Eb s'=>36 (match Eb with|some added=>pure added|none=>setAddHashedIn a (.int x tk) 84 99999) Q E s') E s:=by
   intro t2 f2 l2;refine cN (gZ ho hd ?_ (by rw[cQ];have:scanBound=4096:=rfl;lia));have hg:=Xr (es':=om) (t':=t2) ho hd;have sb:=fI s.heap a (Obj.putSet om t2)
   split
   ·have hp:=relayAll_perm t2 om 66;have tf:=relayAll_fits t2 om 66;have uk:=Vd t2 om 66;generalize hRl:relayAll t2 om 66=Rl at hp tf uk ⊢;obtain⟨oq,t3,As⟩:=Rl;dsimp only at hp tf uk ⊢;have pj:oq.size=om.size:=by rw[<- dj,hp.length_eq,dj]
    refine cN (Az _ ?_);refine cN (gZ hg rfl ?_ (by rw[cQ];have:scanBound=4096:=rfl;lia));have Bq:=Xr (es':=oq) (t':=t3) hg rfl;obtain⟨g1,g2,g3⟩:=t6 oq hp;exact cO (cO (h _ true (sb.trans (fI _ a _)) ⟨_,oq,_,t3,Bq,hex,rfl,tf,rQ.perm hp,(fun z=>by rw[uk,l2];exact hL z),g1,g2,g3,by rw[pj,rS,cZ];simp;lia⟩))
   ·obtain⟨g1,g2,g3⟩:=t6 om (.refl _);exact cO (cO (h _ true sb ⟨_,om,_,t2,hg,hex,rfl,f2,rQ,(fun z=>by rw[l2];exact hL z),g1,g2,g3,by rw[rS,cZ];simp;lia⟩))
  split
  ·refine cN ?_;rw[hashByValue_scannable 8 uy];refine cO ?_
   split
   ·exact ZG t1 oI oG
   ·exact ZG _ (m8 oI) oG
  ·refine cN (cO ?_);simp only[↓reduceIte];exact ZG t1 oI oG
theorem K0{es:88}{seq:45}
  (b1:∀(i:Nat) x,seq[i]?=some x->YA B (pickOrder pk es) es place (oN i) (0+i)=some (x,oN (i+1))) :
  ∀f:Value->Int,(es.toList.map fun e=>f e.2).Nodup->(seq.map f).Nodup:=by
 intro f hn;cases B with
 |true=>
  have hp:((pickOrder pk es).toList.map fun e=>f e.2).Nodup:=((xY (next:=pk) es).map _).nodup_iff.mpr hn;unfold δ;rw[mL];intro i j hi hj Cf;rw[cS] at hi hj;have hx:∀(i:Nat) (h:i<seq.length),((pickOrder pk es).toList.map fun e=>f e.2)[i]?=some (f seq[i]):=fun i h=>by
   have:=b1 i seq[i] (cR h);unfold YA at this;simp only[dq] at this;obtain⟨e,e1,e2⟩:=fE.mp this;rw[gW] at e1;rw[dz,fj,e1];have:e.2=seq[i]:=dt Prod.fst e2;rw[<- this];rfl
  rw[iZ,iZ];intro e;have h1:=hx i hi;have h2:=hx j hj;rw[<- e] at h2;obtain⟨l1,g1⟩:=dk.mp h1;obtain⟨l2,g2⟩:=dk.mp h2;have:=(lh hp).mp (g1.trans g2.symm);lia
 |false=>
  have st:∀(i:Nat) (h:i<seq.length),∃k p:Nat,(∃e,es[k]?=some e/\e.2=seq[i])/\place[k]?=some p/\oN i<=p/\oN (i+1)=p+1:=fun i h=>by
   have:=b1 i seq[i] (cR h);unfold YA at this;simp only[c6,cX] at this
   split at this
   ·rename_i u x j h1 h2
    have g:=eZ this;have gx:x=seq[i]:=dt Prod.fst g;have gs:j+1=oN (i+1):=dt Prod.snd g;exact⟨_,j,⟨_,h1,gx⟩,h2,VO rfl h2,gs.symm⟩
   ·cases this
  have up:∀(d i:Nat),i+d<=seq.length->oN i<=oN (i+d):=fun d=>by
   induction d with
   |zero=>exact fun i _=>cP _
   |succ d ih=>
    intro i h;obtain⟨k,p,_,_,h3,h4⟩:=st (i+d) 40;have:=ih i 40;have e:i+(d+1)=i+d+1:=by lia
    rw[e,h4];lia
  unfold δ;rw[mL];intro i j hi hj Cf;rw[cS] at hi hj;rw[iZ,iZ];obtain⟨k1,p1,⟨e1,a1,c1⟩,a2,a3,a4⟩:=st i hi;obtain⟨k2,p2,⟨e2,d1,c2⟩,d2,d3,d4⟩:=st j hj;have hu:=up (j-(i+1)) (i+1) 40;have ej:i+1+(j-(i+1))=j:=by lia
  rw[ej,a4] at hu;intro e;have hk:k1≠k2:=fun z=>by rw[z,d2] at a2;cases a2;lia
  have q1:(es.toList.map fun e=>f e.2)[k1]?=some (f seq[i]):=by rw[dz,fj,a1,<- c1];rfl
  have q2:(es.toList.map fun e=>f e.2)[k2]?=some (f seq[j]):=by rw[dz,fj,d1,<- c2];rfl
  rw[<- e] at q2;obtain⟨l1,g1⟩:=dk.mp q1;obtain⟨l2,g2⟩:=dk.mp q2;exact hk ((lh hn).mp (g1.trans g2.symm))
theorem JO{es:88}{seq:45}{ys:List Nat}(nd:ys.Nodup)(q1:seq.length=ys.length)(q2:∀(i:Nat) x,seq[i]?=some x->∃p e,ys[i]?=some p/\es[p]?=some e/\x=e.2) :
  ∀f:Value->Int,(es.toList.map fun e=>f e.2).Nodup->(seq.map f).Nodup:=by
 intro f hn;unfold δ;rw[mL];intro i j hi hj Cf;rw[cS] at hi hj;rw[iZ,iZ];obtain⟨p1,e1,a1,c1,f1⟩:=q2 i _ (cR hi);obtain⟨p2,e2,a2,c2,f2⟩:=q2 j _ (cR hj);intro e;have r1:(es.toList.map fun e=>f e.2)[p1]?=some (f seq[i]):=by rw[dz,fj,c1,f1];rfl
 have r2:(es.toList.map fun e=>f e.2)[p2]?=some (f seq[j]):=by rw[dz,fj,c2,f2];rfl
 rw[<- e] at r2;obtain⟨l1,g1⟩:=dk.mp r1;obtain⟨l2,g2⟩:=dk.mp r2;have hp:=(lh hn).mp (g1.trans g2.symm);rw[<- hp] at a2;obtain⟨m1,k1⟩:=dk.mp a1;obtain⟨m2,k2⟩:=dk.mp a2;have:=(lh nd).mp (k1.trans k2.symm);lia
section
variable{prog:Program}{w:World}{A:Around}{E:Value->Shared->Prop}{s:Shared}
theorem Zcs:∀{l:45},(∀v∈l,∃i t,v=.int i t)->IntsAre l (l.map Z4)
 |[],_=>.nil
 |v::r,h=>by
  obtain⟨i,t,rfl⟩:=h v 39;exact .cons i t (Zcs fun u m=>h u (c7 _ m))
theorem Zcq:∀{l:45}{ns:70},IntsAre l ns->l.map Z4=ns/\∀v∈l,∃t,v=.int (Z4 v) t
 |_,_,.nil=>⟨rfl,nofun⟩
 |_,_,.cons n t h=>by
  obtain⟨h1,h2⟩:=Zcq h;refine⟨by rw[dD,h1];rfl,fun v m=>?_⟩;rcases cW.mp m with rfl|m
  ·exact⟨t,rfl⟩
  ·exact h2 v m
end
theorem vV:∀{out:45},(∀v∈out,∃i t,v=.int i t)->ZE ((out.map Z4).map V.int) out
 |[],_=>.nil
 |v::r,h=>by
  obtain⟨i,t,rfl⟩:=h v 39;exact .cons ⟨t,rfl⟩ (vV fun u m=>h u (c7 _ m))
def RsA(xs:Array Nat):Prop:=xs.toList.Pairwise (·<·)
theorem RsA.lt{xs:Array Nat}(h:RsA xs){i u v:Nat}(hi:xs[i]?=some u)(hj:xs[j]?=some v)(l:i<j):u<v:=by
 rw[<- fj] at hi hj;obtain⟨a,rfl⟩:=dk.mp hi;obtain⟨b,rfl⟩:=dk.mp hj;exact(mL.mp h) i j a b l
theorem Vt{xs:Array Nat}{j:Nat}(h:RsA xs):∀(f lo hi:Nat),lo<=hi->hi<=xs.size->(∀i u,i<lo->xs[i]?=some u->u<j)->∀i u,i<SetTable.below.go xs j f lo hi->xs[i]?=some u->u<j
 |0,lo,hi,_,_,h3,i,u,oR,e=>h3 i u oR e
 |f+1,lo,hi,h1,h2,h3,i,u,oR,e=>by
  unfold SetTable.below.go at oR
  by_cases hl:lo<hi
  ·rw[og hl] at oR;simp only at oR;have hm:(lo+hi)/2<xs.size:=by lia
   have em:xs[(lo+hi)/2]?=some xs[(lo+hi)/2]:=eX xs _ hm
   by_cases hx:xs.getD ((lo+hi)/2) j<j
   ·rw[og hx] at oR;rw[ii,em,fC] at hx;refine Vt h f _ hi 40 h2 (fun k v hk ev=>?_) i u oR e
    by_cases c:k=(lo+hi)/2
    ·subst c;rw[em] at ev;cases ev;exact hx
    ·exact i0 (h.lt ev em 40) hx
   ·rw[n8 hx] at oR;exact Vt h f lo _ 40 40 h3 i u oR e
  ·rw[n8 hl] at oR;exact h3 i u oR e
theorem xk{xs:Array Nat}{i u:Nat}(h:RsA xs)(hi:i<SetTable.below xs j)(e:xs[i]?=some u):u<j:=
 Vt h xs.size 0 xs.size (dH _) (cP _) (fun _ _ k=>oh k (hU _)) i u hi e
theorem yN{xs:Array Nat}{i u:Nat}(h:RsA xs)(hi:SetTable.below xs j<=i)(e:xs[i]?=some u):j<=u:=by
 have hl:i<xs.size:=by
  rcases fe i xs.size with k|k
  ·exact k
  ·rw[gD k] at e;cases e
 have hb:SetTable.below xs j<xs.size:=by lia
 have b:=VO rfl (eX xs _ hb);rcases fe (SetTable.below xs j) i with k|k
 ·exact iL (Nat.lt_of_le_of_lt b (h.lt (eX xs _ hb) e k))
 ·have:SetTable.below xs j=i:=by lia
  rw[<- this,eX xs _ hb] at e;cases e;exact b
theorem Qd{xs:Array Nat}(h:RsA xs)(n:xs[SetTable.below xs j]?≠some j){i u:Nat}(e:xs[i]?=some u):u≠j:=fun z=>by
 subst z;rcases fe i (SetTable.below xs u) with k|k
 ·exact oh (xk h k e) (gn _)
 ·have hl:i<xs.size:=by
   rcases fe i xs.size with k|k
   ·exact k
   ·rw[gD k] at e;cases e
  have hb:SetTable.below xs u<xs.size:=by lia
  have b:=VO rfl (eX xs _ hb);rcases fe (SetTable.below xs u) i with k2|k2
  ·exact oh (h.lt (eX xs _ hb) e k2) (Ω.mpr b)
  ·have:SetTable.below xs u=i:=by lia
   rw[this] at n;exact n e
theorem KR{xs:Array Nat}(h:RsA xs)(n:xs[SetTable.below xs j]?≠some j):RsA (SetTable.insertAt xs (SetTable.below xs j) j):=by
 unfold RsA at h ⊢;rw[SetTable.toList_insertAt,List.pairwise_append];refine⟨h.sublist (List.take_sublist _ _),List.pairwise_cons.mpr ⟨fun u hu=>?_,h.sublist (List.drop_sublist _ _)⟩,fun u hu v hv=>?_⟩
 ·obtain⟨i,hi,e⟩:=fo hu;have e2:xs[SetTable.below xs j+i]?=some u:=by
   rw[<- fj,<- lQ,cR hi,e]
  have:=yN h (mM _ _) e2;have:=Qd h n e2;lia
 ·have lu:u<j:=by
   obtain⟨i,hi,e⟩:=fo hu;have oR:i<SetTable.below xs j:=by rw[dB] at hi;lia
   refine xk h oR (?_:xs[i]?=some u);have:=cR hi;rw[e,List.getElem?_take,og oR] at this;rw[<- fj];exact this
  rcases cW.mp hv with rfl|hv
  ·exact lu
  ·obtain⟨i,hi,e⟩:=fo hv;have e2:xs[SetTable.below xs j+i]?=some v:=by
    rw[<- fj,<- lQ,cR hi,e]
   exact fq lu (yN h (mM _ _) e2)
theorem ZaS(h:∀i,t.slot j≠.live i):t.place[SetTable.below t.place j]?≠some j:=fun e=>by
 refine h (SetTable.below t.place j) ?_;unfold SetTable.slot;simp[e]
theorem qC{t:SetTable}{hs:Nat->Int}{h:Int}:∀(f:Nat) (p:SetTable.Probe) (j:Nat) (d:68),(∀k,p.dummy=some k->∀i,t.slot k≠.live i)->SetTable.probe.go t hs h f p=some (.empty j d)->(∀i,t.slot j≠.live i)/\∀k,d=some k->∀i,t.slot k≠.live i
 |0,p,j,d,_,e=>by unfold SetTable.probe.go at e;cases e
 |f+1,p,j,d,hp,e=>by
  have Sj:(t.advance p).dummy=p.dummy:=by unfold SetTable.advance;split<;>rfl
  unfold SetTable.probe.go at e
  split at e
  ·rename_i hs
   cases e;exact⟨fun i=>(by rw[hs];exact fun z=>nomatch z),hp⟩
  ·rename_i hs
   refine qC f _ j d (fun k hk=>?_) e;have Ir:(t.advance { p with dummy:=some p.j }).dummy=some p.j:=by unfold SetTable.advance;split<;>rfl
   rw[Ir] at hk;cases hk;exact fun i=>by rw[hs];exact fun z=>nomatch z
  ·split at e
   ·cases e
   ·exact qC f _ j d (fun k hk=>hp k (by rw[<- Sj];exact hk)) e
theorem KP(h:RsA t.place)(es:88)(k:Int)(x:Value):RsA (layNew t es k x).2.1.place:=by
 have si:∀(t:SetTable) n,RsA (t.standIn n).place:=fun t n=>by
  show(Array.range n).toList.Pairwise (·<·)
  rw[Array.toList_range];exact mN
 unfold layNew
 split
 ·rename_i slot wd hf
  dsimp only;have GH:RsA (t.put slot).1.place:=by
   refine KR h (ZaS ?_);unfold SetTable.freeSlot at hf
   split at hf
   ·rename_i j d hp
    obtain⟨h1,h2⟩:=qC _ _ j d (fun k hk=>by cases hk) hp;cases hf;cases d with
    |none=>exact h1
    |some k=>exact h2 k rfl
   ·cases hf
  unfold SetTable.orStandIn
  split
  ·exact GH
  ·exact si _ _
 ·exact si _ _
theorem Zbl(es:88)(n:Nat):RsA (relayAll t es n).2.1.place:=by
 have si:∀(t:SetTable) n,RsA (t.standIn n).place:=fun t n=>by
  show(Array.range n).toList.Pairwise (·<·)
  rw[Array.toList_range];exact mN
 unfold relayAll
 split
 ·rename_i t' pd hr
  dsimp only
  split
  ·unfold SetTable.relaid SetTable.laid at hr;obtain⟨owner,_,hr⟩:=Option.bind_eq_some_iff.mp hr;cases hr
   show((List.filterMap _ (γ _)).map _).toArray.toList.Pairwise (·<·)
   rw[List.toList_toArray,Κ];refine List.Pairwise.filterMap _ (fun a a' l b hb b' oS=>?_) mN;obtain⟨_,_,rfl⟩:=fE.mp hb;obtain⟨_,_,rfl⟩:=fE.mp oS;exact l
  ·exact si _ _
 ·exact si _ _
theorem ZaR{es:88}{seq:45}(hr:RsA place)(hs:place.size=es.size)(b0:oN 0=0)
  (b1:∀(i:Nat) x,seq[i]?=some x->YA B (pickOrder pk es) es place (oN i) (0+i)=some (x,oN (i+1))) (b2:YA B (pickOrder pk es) es place (oN seq.length) (0+seq.length)=none):es.size<=seq.length:=by
 cases B with
 |true=>
  unfold YA at b2;simp only[dq] at b2;rw[iI,Β,gW] at b2;have:=(xY (next:=pk) es).length_eq;rw[dj,dj] at this;lia
 |false=>
  rcases fe seq.length es.size with lt|ge
  ·exfalso
   have we:∀i,i<=seq.length->SetTable.below place (oN i)=i:=fun i=>by
    induction i with
    |zero=>intro _;rw[b0];exact Vu _ _
    |succ i ih=>
     intro hi;have ih:=ih 40;have:=b1 i seq[i] (cR 40);unfold YA at this;simp only[c6,cX] at this;have ep:place[i]?=some place[i]:=eX place i 40;rw[ih,eX es i 40,ep] at this;have om:oN (i+1)=place[i]+1:=(dt Prod.snd (eZ this)).symm;rw[om];rcases Nat.lt_trichotomy (SetTable.below place (place[i]+1)) (i+1) with c|c|c
     ·have:=yN hr (Nat.le_of_lt_succ c) ep;lia
     ·exact c
     ·have e2:place[i+1]?=some place[i+1]:=eX place (i+1) 40;have:=xk hr c e2;have:=hr.lt ep e2 (fR i);lia
   unfold YA at b2;simp only[c6,cX] at b2;rw[we _ (cP _),eX es _ lt,eX place _ 40] at b2;cases b2
  ·exact ge
def Wv(prog:Program)(w:World)(B:Bool)(h:Heap)(a:Addr)(ss:70):Prop:=
 ∃o es ep t,h.get? a=some o/\o.ExactSet/\o.data=.set es ep t/\RsA t.place/\t.fits es.size=true/\ElemsOf (Zv prog w) es.toList/\(B=false->t.led=true) /\
  (∀e∈es.toList,∃x k,e.2=.int x k)/\(es.toList.map fun e=>Z4 e.2).Nodup/\(∀x,x∈(es.toList.map fun e=>Z4 e.2)↔x∈ss)/\es.size<=ss.length
theorem Wv.keep(x:Wv prog w B h a ss)(k:∀o,h.get? a=some o->h'.get? a=some o):Wv prog w B h' a ss:=by
 obtain⟨o,es,ep,t,ho,r⟩:=x;exact⟨o,es,ep,t,k o ho,r⟩
theorem kZ{x:Int}{Q:Bool->41}(hS:Wv prog w B s.heap a ss)(AD:ss.length+1<scanBound)
  (h:∀h' b,Heap.SameBut a s.heap h'->Wv prog w B h' a (ss++[x])->Q b 49) :
  36 (setAddHashed a (.int x tk) 84) Q E s:=by
 have pV:(Zv prog w).is (.inl x) (.int x tk)=true:=Y2 x tk;have uy:(Value.int x tk).scannable=true:=rfl;obtain⟨o,es,ep,t,ho,hex,hd,Cv,hf,pW,hL,o9,sd,oP,Ai⟩:=hS;have hb:es.size<scanBound:=by lia
 have Ew:∀e∈es.toList,((Zv prog w).is (.inl x) e.2=true↔Z4 e.2=x):=fun e m=>by
  obtain⟨y,k,ey⟩:=o9 e m;rw[ey];constructor
  ·intro q;have q2:Vz (.inl x) (.int y k)=true:=q;rcases ZM q2 with⟨i,t',e1,e2⟩|⟨z,t',e1,e2⟩
   ·cases e1;cases e2;rfl
   ·cases e1
  ·intro q;have q':y=x:=q;subst q';exact Y2 y k
 unfold setAddHashed setAddHashedIn;refine dh (cN (dX ho hd hf ?_));dsimp only;rw[byScan_of uy hb pW];simp only[↓reduceIte];unfold setAddByScan;refine cN ?_;refine cN (eN ?_);refine cN (wpAny_setScan_of pV ho hd hf pW ?_);cases hr:List.findIdx? (fun e=>(Zv prog w).is (.inl x) e.2) es.toList with
 |some j=>
  dsimp only;obtain⟨hj,FX,_⟩:=mJ.mp hr;refine cO (cO ?_);have e:s={ s with heap:=s.heap }:=by cases s;rfl
  rw[e];have hm:x∈ss:=(oP x).mp (da.mpr ⟨es.toList[j],gE hj,(Ew _ (gE hj)).mp FX⟩);refine h s.heap false (io a s.heap) ⟨o,es,ep,t,ho,hex,hd,Cv,hf,pW,hL,o9,sd,fun y=>?_,by rw[cZ];lia⟩;rw[oP y,db,df];exact⟨.inl,fun q=>q.elim id fun q=>q▸hm⟩
 |none=>
  dsimp only;have pb:∀e∈es.toList,Z4 e.2≠x:=fun e m q=>by
   have:=Θ.mp hr e m;rw[(Ew e m).mpr q] at this;cases this
  have Az:∀(b:Bool) {s₁:Shared}{Q':Unit->41},Q' () s₁->36 (match b with|true=>rule "set.scan.the-table-gave-way" |false=>pure ()) Q' E s₁:=
   fun b s₁ Q' hq=>by cases b<;>first|exact cO hq|exact eN hq
  have oA:=layNew_perm t es 84 (.int x tk);have oI:=layNew_fits t es 84 (.int x tk);have oG:=UK t es 84 (.int x tk);have Dt:=KP Cv es 84 (.int x tk);generalize hLn:layNew t es 84 (.int x tk)=L at oA oI oG Dt ⊢;obtain⟨om,t1,o8,Dy⟩:=L;dsimp only at oA oI oG Dt ⊢;rw[iR] at oA;have rQ:ElemsOf (Zv prog w) om.toList:=(pW.push pV uy).perm oA;have rS:om.size=es.size+1:=by rw[<- dj,oA.length_eq,cZ,dj];rfl
  have t6:∀(oq:88),oq.toList.Perm om.toList->(∀e∈oq.toList,∃x k,e.2=.int x k)/\(oq.toList.map fun e=>Z4 e.2).Nodup/\(∀y,y∈(oq.toList.map fun e=>Z4 e.2)↔y∈ss++[x]):=fun oq hp=>by
   have ut:=hp.trans oA;have hm:=ut.map fun e=>Z4 e.2;rw[eO] at hm;refine⟨fun e m=>?_,hm.nodup_iff.mpr (fy.mpr ⟨sd,by simp,fun u hu v hv=>?_⟩),fun y=>?_⟩
   ·rcases db.mp (ut.mem_iff.mp m) with m|m
    ·exact o9 e m
    ·rw[df] at m;subst m;exact⟨x,tk,rfl⟩
   ·obtain⟨e,m,rfl⟩:=da.mp hu;have:v=x:=by simpa[Z4] using hv
    rw[this];exact pb e m
   ·rw[hm.mem_iff,db,db,oP y];simp[Z4]
  refine cN (Az _ ?_);have ZG:∀t2:SetTable,RsA t2.place->t2.fits om.size=true->t2.led=t.led->36 (do
    storeSet a om t2
    if(!o8&&t2.tooFull)=true then do
      (match (relayAll t2 om 66).2.2 with|true=>rule "set.scan.the-table-gave-way" |false=>pure ())
      storeSet a (relayAll t2 om 66).1 (relayAll t2 om 66).2.1
      pure (some true)
     else pure (some true)) (fun Eb s'=>36 (match Eb with|some added=>pure added|none=>setAddHashedIn a (.int x tk) 84 99999) Q E s') E s:=by
   intro t2 r2 f2 l2;refine cN (gZ ho hd ?_ (by rw[cQ];have:scanBound=4096:=rfl;lia));have hg:=Xr (es':=om) (t':=t2) ho hd;have sb:=fI s.heap a (Obj.putSet om t2)
   split
   ·have hp:=relayAll_perm t2 om 66;have tf:=relayAll_fits t2 om 66;have uk:=Vd t2 om 66;have Gp:=Zbl (t:=t2) om 66;generalize hRl:relayAll t2 om 66=Rl at hp tf uk Gp ⊢;obtain⟨oq,t3,As⟩:=Rl;dsimp only at hp tf uk Gp ⊢;have pj:oq.size=om.size:=by rw[<- dj,hp.length_eq,dj]
    refine cN (Az _ ?_);refine cN (gZ hg rfl ?_ (by rw[cQ];have:scanBound=4096:=rfl;lia));have Bq:=Xr (es':=oq) (t':=t3) hg rfl;obtain⟨g1,g2,g3⟩:=t6 oq hp;exact cO (cO (h _ true (sb.trans (fI _ a _)) ⟨_,oq,_,t3,Bq,hex,rfl,Gp,tf,rQ.perm hp,(fun z=>by rw[uk,l2];exact hL z),g1,g2,g3,by rw[pj,rS,cZ];simp;lia⟩))
   ·obtain⟨g1,g2,g3⟩:=t6 om (.refl _);exact cO (cO (h _ true sb ⟨_,om,_,t2,hg,hex,rfl,r2,f2,rQ,(fun z=>by rw[l2];exact hL z),g1,g2,g3,by rw[rS,cZ];simp;lia⟩))
  split
  ·refine cN ?_;rw[hashByValue_scannable 8 uy];refine cO ?_
   split
   ·exact ZG t1 Dt oI oG
   ·exact ZG _ Dt (m8 oI) oG
  ·refine cN (cO ?_);simp only[↓reduceIte];exact ZG t1 Dt oI oG
theorem QE(hh:A.handled=none)(hl:s.heap.IsList l items.toArray)(hv:ZE (ss.map V.int) items)(hb:ss.length<1000)
  (h:∀(h':Heap) (tk:Nat),Wv prog w 46 h' s.heap.objs.size ss->47->Q (.ref s.heap.objs.size) 74) :
  36 (call (.type "set") [.ref l]) Q E s:=by
 have len:items.length=ss.length:=by rw[<- hv.length,cS]
 have D8:items.map Z4=ss:=by
  clear h hb len hl
  induction ss generalizing items with
  |nil=>cases hv;rfl
  |cons y r ih=>
   cases hv with
   |cons h1 h2=>
    obtain⟨t,rfl⟩:=h1;rw[dD,ih h2];rfl
 have Iu:∀v∈items,∃x k,v=.int x k:=by
  clear h hb len hl D8
  induction ss generalizing items with
  |nil=>cases hv;intro v h;cases h
  |cons y r ih=>
   cases hv with
   |cons h1 h2=>
    obtain⟨t,rfl⟩:=h1;intro v hm;rcases cW.mp hm with rfl|hm
    ·exact⟨_,_,rfl⟩
    ·exact ih h2 v hm
 refine qz (SI:=fun h vs=>Wv prog w 46 h s.heap.objs.size (vs.map Z4)) hh hl (fun x k=>x.keep k) ?_ ?_ fun h' tk a b=>h h' tk (by rw[D8] at a;exact a) b
 ·exact⟨_,#[],0,_,c8 _ rfl,⟨rfl,rfl,rfl⟩,rfl,List.Pairwise.nil,by rfl,(fun e he=>by simp at he),(fun z=>by show(!_)=true;rw[z];rfl),(fun e he=>by simp at he),by simp,fun x=>by simp,dH _⟩
 ·intro A' s' i v hA ww hg hS E Q hQ;obtain⟨x,k,rfl⟩:=Iu v (cY ww);unfold setAdd;refine dh (cN ((Zv prog w).pyHash (k:=.inl x) (Y2 x k) ?_));refine kZ (s:={ s' with toks:=s'.toks+1 }) (ss:=(items.take i).map Z4) hS (by rw[cS,dB];have:scanBound=4096:=rfl;lia) fun h' b sb sf=>hQ h' _ b sb ?_;rw[eO];exact sf
def Zad(prog:Program)(w:World)(A:Around)(es:88)(z:Nat)(a I:Addr)(h:Heap):Prop:=
 ∃(fp:List Addr) (seq:45) (St:Nat->Heap->Prop),Walks prog w A I fp [I] seq.length (fun i v=>seq[i]?=some v) St/\St 0 h/\(∀b∈fp,b<h.objs.size)/\(∀b∈fp,b=a\/z<=b)/\I∈fp/\(∀v∈seq,∃e∈es.toList,v=e.2)/\seq.length=es.size/\∀f:Value->Int,(es.toList.map fun e=>f e.2).Nodup->(seq.map f).Nodup
theorem Qw{es ep t}(hh:A'.handled=none)(hS:Xb s.heap a es ep t)(Cv:RsA t.place)(hf:t.fits es.size=true)(oG:w.params.followText "set-order" = false->t.led=true)(hz:es.size<=1000)
  (hQ:∀I h' dr,s.heap.objs.size<=I->47->Zad prog w A' es s.heap.objs.size a I h'->Q (.ref I) { s with heap:=h',drawn:=dr }):36 (pyIter (.ref a)) Q E s:=by
 obtain⟨o,ho,hc,hd⟩:=id hS;have sF:a<s.heap.objs.size:=cT ho;refine iW hS.typeIs F.slot_set_iter (eE F.slot_set_iter hS.typeIs VG ?_ (F.args_set_iter_1 _))
 show 50 (Builtin.Frozenset.sizeOf a >>= _) _ _ s
 refine cN ?_;unfold Builtin.Frozenset.sizeOf setEntries;refine cN (cN (dX ho hd hf (cO (cO ?_))));dsimp only;refine cN ?_;unfold setDrawn;refine cN (dX ho hd hf ?_);dsimp only;refine cN ?_;unfold setsByText;refine cN (iS (cO ?_))
 show 50 (pure 107) _ _ s
 refine cO ?_;have Ex:=hf;have pU:t.place.size=es.size:=by
  unfold SetTable.fits at hf;rw[dg] at hf;simpa using hf.1
 cases hdr:107
 ·simp only[c6,cX];refine cN (cO ?_);refine cN ?_;unfold setEpoch;refine cN (dX ho hd hf (cO ?_));dsimp only;refine cN (eQ ?_);refine cO ⟨_,rfl, "set_iterator",_,⟨_,c8 _ rfl,rfl⟩,Zx.lookup,?_⟩;have hw:w.params.followText "set-order" = false->t.led=true/\(t.plain=true\/es.size<=1):=fun e=>by
   refine⟨oG e,?_⟩;rw[e] at hdr;simp only[gP,g9,mZ,Bool.not_eq_false',decide_eq_false_iff_not] at hdr;rcases hdr with h|h
   ·exact .inl h
   ·exact .inr 40
  have ur:∃(seq:45) (oN:Nat->Nat),oN 0=0/\(∀i x,seq[i]?=some x->YA 46 59 es t.place (oN i) (0+i)=some (x,oN (i+1))) /\
    YA 46 59 es t.place (oN seq.length) (0+seq.length)=none/\seq.length<=es.size:=by
   obtain⟨p1,p2,p3⟩:=UT (next:=w.params.setOrder a ep) es;cases hT:w.params.followText "set-order"
   ·obtain⟨seq,oN,a1,a2,a3,a4⟩:=yU (nxt:=YA false 59 es t.place) (m:=fun sl _=>t.place.toList.countP (fun x=>decide (sl<=x))) (fun sl g x pQ he=>by
     unfold YA at he;simp only[c6,cX] at he
     split at he
     ·rename_i j _ hj
      cases he;refine j9 ?_ (VO rfl hj);have:=gY hj;simpa using this
     ·cases he) _ 0 0 (cP _)
    refine⟨seq,oN,a1,a2,a3,fh a4 (fh List.countP_le_length ?_)⟩;rw[dj];lia
   ·obtain⟨seq,oN,a1,a2,a3,a4⟩:=yU (nxt:=YA true 59 es t.place) (m:=fun _ g=>(pickOrder (w.params.setOrder a ep) es).size-g) (fun sl g x pQ he=>by
     unfold YA at he;simp only[dq] at he;obtain⟨e,wJ,DV⟩:=fE.mp he;have:g<(pickOrder (w.params.setOrder a ep) es).size:=by
      rcases fe g (pickOrder (w.params.setOrder a ep) es).size with h|h
      ·exact h
      ·rw[gD h] at wJ;cases wJ
     show _-(g+1)<_-g
     lia) _ 0 0 (cP _)
    exact⟨seq,oN,a1,a2,a3,by lia⟩
  obtain⟨seq,oN,b0,b1,b2,b3⟩:=ur;have GI:=K0 (fun i x hx=>b1 i x hx);have Pk:=ZaR Cv pU b0 b1 b2;have mem:∀sl g x pQ,YA 46 59 es t.place sl g=some (x,pQ)->∃e∈es.toList,x=e.2:=fun sl g x pQ he=>by
   unfold YA at he
   split at he
   ·obtain⟨e,wJ,DV⟩:=fE.mp he;cases DV;refine⟨e,(UT (next:=w.params.setOrder a ep) es).1 e ?_,rfl⟩;have:=gY wJ;simpa using this
   ·split at he
    ·rename_i h1 h2
     cases he;have:=gY h1;exact⟨_,by simpa using this,rfl⟩
    ·cases he
  refine hQ _ _ s.drawn (cP _) (fun b o z=>cU _ z) ⟨_,seq,_,yQ (prog:=prog) (A:=A') hh (c9 sF) hf hw (fun i x hx=>by have:=b1 i x hx;rwa [gW] at this) (by rw[gW] at b2;exact b2),⟨⟨0,?_⟩,?_⟩,?_,?_,by simp,?_,by lia,GI⟩
  ·rw[b0];exact⟨_,0,0,0,c8 _ rfl,rfl,rfl⟩
  ·exact⟨o,cU _ ho,hc,hd⟩
  ·intro b hb;rw[fM];simp only[cW,eH,eI] at hb;rcases hb with h|h
   ·rw[h];exact fR _
   ·rw[h];exact fS sF
  ·intro b hb;simp only[cW,eH,eI] at hb;rcases hb with h|h
   ·exact .inr (by rw[h];exact cP _)
   ·exact .inl h
  ·intro v hv;obtain⟨i,hi,e⟩:=fo hv;have:=b1 i v (by rw[cR hi,e]);exact mem _ _ _ _ this
 ·simp only[dq];refine cN (zZ es.size (γ es.size) 39 fun ys dr Aq=>?_);have y1:∀y∈ys,y∈γ es.size:=fun y hy=>Aq.mem_iff.mp hy;have y2:ys.length<=es.size:=by rw[Aq.length_eq,gC];exact cP _
  have y3:0<es.size->γ es.size≠[]->0<ys.length:=fun h _=>by rw[Aq.length_eq,gC];exact h
  have y5:ys.Nodup:=Aq.nodup_iff.mpr Τ;refine cN (wpAny_newTuple (items:=ys.map fun(i:Nat)=>rawInt (i:Int)) ?_ (by rw[cS,cQ];lia));refine cN ?_;unfold setEpoch;have tI:(s.heap.push { cls:=.type "tuple",data:=.seq (ys.map fun(i:Nat)=>rawInt (i:Int)).toArray }).get? a=some o:=cU _ ho;refine cN (dX (s:={ s with drawn:=dr,heap:=_ }) tI hd hf (cO ?_));dsimp only;refine cN (eQ ?_);refine cO ⟨_,rfl, "set_iterator",_,⟨_,c8 _ rfl,rfl⟩,Zx.lookup,?_⟩;have y4:∀y∈ys,y<es.size:=fun y hy=>dY.mp (y1 y hy);have ex:∃seq:45,seq.length=ys.length/\∀(i:Nat) x,seq[i]?=some x->∃p e,ys[i]?=some p/\es[p]?=some e/\x=e.2:=by
   refine⟨ys.map fun p=>(es.getD p (0,.none)).2,by simp,fun i x hx=>?_⟩;rw[dz] at hx;obtain⟨p,e1,e2⟩:=fE.mp hx;have hp:=y4 p (cY e1);refine⟨p,es[p],e1,eX es p hp,?_⟩;rw[<- e2,ii,eX es p hp];rfl
  obtain⟨seq,q1,q2⟩:=ex;have z1:(s.heap.push { cls:=.type "tuple",data:=.seq (ys.map fun(i:Nat)=>rawInt (i:Int)).toArray }).objs.size=s.heap.objs.size+1:=fM _ _;refine hQ _ _ dr (by rw[z1];exact ic _) (fun b o z=>cU _ (cU _ z)) ⟨_,seq,_,zK (prog:=prog) (A:=A') (T:=s.heap.objs.size) (ps:=ys) (ep:=ep) hh (by rw[z1];exact c9 (fS sF)) (by rw[z1];exact c9 (fR _)) hf q1 q2,⟨?_,?_,?_⟩,?_,?_,by simp,?_,by rw[q1,Aq.length_eq,gC],JO y5 q1 q2⟩
  ·exact⟨_,0,0,0,c8 _ rfl,rfl,rfl⟩
  ·exact⟨o,cU _ tI,hc,hd⟩
  ·exact⟨_,_,cU _ (c8 _ rfl),rfl,rfl⟩
  ·intro b hb;rw[fM,z1];simp only[cW,eH,eI] at hb;rcases hb with h|h|h
   ·rw[h,z1];exact fR _
   ·rw[h];exact fS (fS sF)
   ·rw[h];exact fS (fR _)
  ·intro b hb;simp only[cW,eH,eI] at hb;rcases hb with h|h|h
   ·exact .inr (by rw[h,z1];exact ic _)
   ·exact .inl h
   ·exact .inr (by rw[h];exact cP _)
  ·intro v hv;obtain⟨i,hi,e⟩:=fo hv;obtain⟨p,en,_,e2,e3⟩:=q2 i v (by rw[cR hi,e]);have:=gY e2;exact⟨en,by simpa using this,e3⟩
def Q6(B:Bool)(h:Heap)(a:Addr)(ss:70):Prop:=
 ∃es ep t,Xb h a es ep t/\RsA t.place/\t.fits es.size=true/\(B=false->t.led=true) /\
  (∀e∈es.toList,∃x k,e.2=.int x k)/\(es.toList.map fun e=>Z4 e.2).Nodup/\(∀x,x∈(es.toList.map fun e=>Z4 e.2)↔x∈ss)/\es.size<=ss.length
theorem Wv.toL(x:Wv prog w B h a ss):Q6 B h a ss:=by
 obtain⟨o,es,ep,t,ho,hc,hd,hr,hf,_,r⟩:=x;exact⟨es,ep,t,⟨o,ho,hc,hd⟩,hr,hf,r⟩
theorem VD:∀{l m:70},l.Nodup->(∀x∈l,x∈m)->∀{x:Int},x∈m->x∉l->l.length<m.length
 |[],m,_,_,x,hx,_=>mY hx
 |a::r,m,h,s,x,hx,nx=>by
  rw[fY] at h;have am:=s a 39;have:=VD (l:=r) (m:=m.erase a) h.2 (fun y hy=>(mD (fun z=>h.1 (by rw[<- z];exact hy))).mpr (s y (c7 _ hy))) (x:=x) ((mD (fun z=>nx (by rw[z];exact dC))).mpr hx) (fun z=>nx (c7 _ z));rw[mX am] at this;rw[fc];lia
theorem jM{vs:70}{Q:45->41}(hh:A.handled=none)(hS:Q6 46 s.heap a vs)(hz:vs.length<=1000)
  (hQ:∀(seq:45) (h':Heap) dr tk,(∀v∈seq,∃i t,v=.int i t/\i∈vs)->(seq.map Z4).Nodup->(∀x,x∈seq.map Z4↔x∈vs)->seq.length<=vs.length->s.heap.objs.size<=h'.objs.size->47->Q seq { s with heap:=h',drawn:=dr,toks:=tk }) :
  36 (collect (.ref a)) Q E s:=by
 obtain⟨es,ep,t,hA,Cv,hf,hL,OZ,sd,oP,Ai⟩:=hS;unfold collect;refine cN (wpAny_runValue (gi PySem.F.entry_proto_collect ?_));rw[gQ PySem.F.plain_proto_collect _]
 show wpAny _ A.in1 (newList [] >>= fun l=>again (.builtin "list.__iadd__" ⟨[l,.ref a],[]⟩)) _ _ s
 refine cN (eQ ?_);refine cO ⟨ip mK _,gi PySem.F.entry_list_iadd ?_⟩;rw[gQ mK _];have sF:a<s.heap.objs.size:=by obtain⟨o,ho,_⟩:=hA;exact cT ho
 have Bl:Xb (s.heap.push { cls:=.type "list",data:=.seq ([]:45).toArray }) a es ep t:=hA.at fun o z=>cU _ z
 show wpAny _ A.in1 (Builtin.List.listExtendWith (.ref s.heap.objs.size) (.ref a) (.ref s.heap.objs.size)) _ _ _
 unfold Builtin.List.listExtendWith;have hT:=Xb.typeIs (s:={ s with heap:=s.heap.push { cls:=.type "list",data:=.seq ([]:45).toArray } }) Bl;refine cN (iF hT ?_);have h1:Builtin.List.listSameRef (.ref s.heap.objs.size) (.ref a)=false:=by simp[Builtin.List.listSameRef,fW sF]
 have h2:(Value.type "set" == Value.type "list")=false:=by left
 have h3:(Value.type "set" == Value.type "tuple")=false:=by left
 simp only[h1,h2,h3,Bool.or_false,c6,cX];have z1:(s.heap.push { cls:=.type "list",data:=.seq ([]:45).toArray }).objs.size=s.heap.objs.size+1:=fM _ _;refine cN (Qw (A':=A.in1) (by simpa using hh) Bl Cv hf hL 40 fun I h1 dr hI Be hW=>?_);rw[z1] at hI;obtain⟨fp,seq,St,W,o9,Ff,uL,SY,m1,m2,m4⟩:=hW;have Gz:Xb h1 a es ep t:=Bl.at fun o z=>Be _ o z;refine cN (dh ?_);unfold Builtin.List.listLengthHint;have Bg:=Xb.typeIs (s:={ s with heap:=h1,drawn:=dr }) Gz;refine cN (gf Bg U4 ?_);have sp:splitId "set.__len__" = some ("set","__len__"):=by left
 dsimp only;rw[sp];dsimp only;refine cN (fH Bg sub_set_self ?_);simp only[dM,c6,cX]
 show 50 (if true=true then _ else _) _ _ _
 rw[og rfl];refine cN (iF Bg ?_);dsimp only;refine cO ?_
 show wpAny _ A.in1 (if(false||true)=true then _ else _) _ _ _
 rw[og (show(false||true)=true from rfl)];refine cN (eN ?_);have CM:s.heap.objs.size∉fp:=fun hm=>by
  rcases uL _ hm with e|e
  ·exact oh e (fW sF)
  ·rw[z1] at e;lia
 have Ei:h1.get? s.heap.objs.size=some { cls:=.type "list",data:=.seq ([]:45).toArray }:=Be _ _ (c8 _ rfl);refine cN ?_
 show wpAny _ A.in1 (updateSeq s.heap.objs.size (·.push .none) >>= fun _=>updateSeq s.heap.objs.size (·.pop)) _ _ _
 refine cN (wpAny_updateSeq Ei rfl ?_);have C9:=fO (Obj.mapSeq (·.push Value.none)) Ei rfl;refine wpAny_updateSeq C9 rfl ?_;have GV:=fO (Obj.mapSeq (·.pop)) C9 rfl;have CU:∀b o,b≠s.heap.objs.size->h1.get? b=some o->((h1.update s.heap.objs.size (Obj.mapSeq (·.push Value.none))).update s.heap.objs.size (Obj.mapSeq (·.pop))).get? b=some o:=
  fun b o hb e=>(fZ _ _ (eY hb)).trans ((fZ _ _ (eY hb)).trans e)
 refine cO ⟨ip PySem.F.plain_extend_loop _,codeAny_extend_loopS W.toS (by rw[cQ];lia) _ CM _ seq.length 0 _ _ _ rfl (dH _) (W.frame 0 _ _ o9 fun b hb o e=>CU b o (fun h=>CM (h▸hb)) e) GV (ItemsOf.nil _) fun s' rA c' hm sf rz=>?_⟩
 show wpAny _ A (load s.heap.objs.size >>= _) _ _ s'
 refine cN (wpAny_load sf ?_);have e1:rA.toList=seq:=by
  apply iY;intro i;rw[fj];rcases fe i rA.size with h|h
  ·have:=rz.2 i _ (eX rA i h);rw[eX rA i h];exact this.symm
  ·rw[gD h,lP (by rw[rz.1] at h;exact h)]
 refine cO ?_;rw[e1];obtain⟨Et,gg,dd,tt,oo⟩:=s';obtain⟨q1,q2,q3,q4,q5⟩:=hm;dsimp only at q1 q2 q3 q4 q5;subst q2;subst q3;subst q4;have keep:∀b o,s.heap.get? b=some o->Et.get? b=some o:=fun b o z=>by
  have oM:=cT z;refine q1 b o (by simp only[cW,eH,eI];rintro(h|h);exact oh oM (by rw[h];exact gn _);exact oh oM (by rw[h];exact Ω.mpr (Nat.le_of_succ_le hI))) (CU b o (c9 oM) (Be b o (cU _ z)))
 have nds:=m4 Z4 sd;have sub:∀x∈seq.map Z4,x∈es.toList.map fun e=>Z4 e.2:=fun x hx=>by
  obtain⟨v,hv,rfl⟩:=da.mp hx;obtain⟨e,h1,h2⟩:=m1 v hv;exact da.mpr ⟨e,h1,by rw[h2]⟩
 refine hQ seq Et _ tt (fun v m=>?_) nds (fun x=>⟨fun hx=>(oP x).mp (sub x hx),fun hx=>?_⟩) 40 ?_ keep
 ·obtain⟨e,h1,h2⟩:=m1 v m;obtain⟨i,t',e3⟩:=OZ e h1;exact⟨i,t',by rw[h2,e3],(oP i).mp (da.mpr ⟨e,h1,by rw[e3];rfl⟩)⟩
 ·have hx:=(oP x).mpr hx;refine mE fun nx=>?_;have:=VD (l:=seq.map Z4) (m:=es.toList.map fun e=>Z4 e.2) nds sub hx nx;have h9:es.toList.length=es.size:=dj ..;rw[cS,cS] at this;lia
 ·exact iL (cT sf)
theorem JR{vs:70}(hh:A.handled=none)(hS:Q6 46 s.heap a vs)(C8:vs.length<64)
  (h:∀(out:45) (L n:Nat) (h':Heap) dr tk,(∀v∈out,∃i t,v=.int i t)->(out.map Z4).Nodup->(out.map Z4).Pairwise (·<=·)->(∀x,x∈out.map Z4↔x∈vs)->out.length<=vs.length->s.heap.objs.size<=L->47 -> h'.get? L=some { cls:=.type "list",data:=.seq out.toArray n }->Q (.ref L) { s with heap:=h',drawn:=dr,toks:=tk }) :
  36 (call (.builtin "sorted") [.ref a]) Q E s:=by
 refine nj kind_sorted plain_sorted entry_sorted (args_sorted1 _) ?_;unfold Builtin.«sorted»;refine cN (m:=checkCount "sorted" 1 1 _) (cO ?_);refine cN (jM (by simpa using hh) hS 40 fun seq h1 dr tk m1 m0 m3 m2 hz k1=>?_);refine cN (wpAny_newList ?_ (by rw[cQ];lia));have Am:(h1.push 114).get? h1.objs.size=some 114:=c8 _ rfl;have k2:∀b o,s.heap.get? b=some o->b≠h1.objs.size/\(h1.push 114).get? b=some o:=fun b o z=>by
  have:=k1 b o z;exact⟨c9 (cT this),cU _ this⟩
 show 50 _ _ _ { s with heap:=h1.push 114,drawn:=dr,toks:=tk }
 refine cN (dh (eE slot_list_sort ⟨_,Am,rfl⟩ entry_list_sort (list_sort_tree Am (Zcs fun v m=>let ⟨i,t,e,_⟩:=m1 v m; ⟨i,t,e⟩) 40 fun ot ou i2 pm so=>⟨_,rfl,?_⟩) (args_list_sort _)))
 ·obtain⟨e1,e2⟩:=Zcq i2;rw[<- e1] at pm;have pl:=pm.length_eq;rw[cS,cS] at pl;obtain⟨e,he⟩:=sortedHeap_at (out:=ot) Am;rw[<- e1] at so;refine cO ⟨_,rfl,h ot.toList h1.objs.size e _ dr tk (fun v m=>let ⟨t,ht⟩:=e2 v m; ⟨_,t,ht⟩) (pm.nodup_iff.mpr m0) so (fun x=>by rw[pm.mem_iff];exact m3 x) (by rw[pl];exact m2) hz (fun b o z=>?_) he⟩;obtain⟨n1,z1⟩:=k2 b o z
  show(sortedHeap _ _ _ _).get? b=some o
  rw[sortedHeap_old n1 (cT z1)];exact z1
theorem kM:isSubtype (.type "set") (.type "frozenset")=pure false:=by rw[isSubtype_type];kernel_rfl
theorem xL:entryFor table "set.__eq__" = some Builtin.«frozenset.__eq__» := entryFor_alias (id' := "frozenset.__eq__") (by kernel_rfl) rfl 61 (by kernel_rfl)
theorem Wv.of(h:Wv prog w B s.heap a ss)(l:ss.length<1000):∃n,s.heap.SetOf (Zv prog w) a (fun k=>match k with|.inl x=>decide (x∈ss)|.inr _=>false) n:=by
 obtain⟨o,es,ep,t,ho,hx,hd,_,hf,pW,_,o9,sd,oP,Ai⟩:=h;refine⟨es.size,o,es,ep,t,ho,hx,hd,pW,fun k=>?_,by have:scanBound=4096:=rfl;lia,hf,rfl⟩;constructor
 ·intro q;cases k with
  |inl x=>
   obtain⟨e,m,ee⟩:=da.mp ((oP x).mpr (dE q));obtain⟨y,k,ey⟩:=o9 e m;rw[ey] at ee;have:y=x:=ee;subst this;exact⟨e,m,by rw[ey];exact Y2 y k⟩
  |inr x=>cases q
 ·rintro⟨e,m,q⟩;obtain⟨y,t',ey⟩:=o9 e m;rw[ey] at q;have q2:Vz k (.int y t')=true:=q;rcases ZM q2 with⟨i,t2,e1,e2⟩|⟨z,t2,e1,e2⟩
  ·cases e1;cases e2;exact dy ((oP _).mp (da.mpr ⟨e,m,by rw[ey];rfl⟩))
  ·cases e2
theorem QY{sa sb:70}{r:Bool}(ha:Wv prog w B s.heap a sa)(hb:Wv prog w B s.heap b sb)(la:sa.length<1000)(lb:sb.length<1000)(hu:A.units<cLine)
  (hr:r=true↔∀x,x∈sa↔x∈sb) (h:Q (.bool r) s):36 (compareOp .Eq (.ref a) (.ref b)) Q E s:=by
 obtain⟨nb,S0⟩:=hb.of lb;obtain⟨oa,ea,epa,ta,rY,TR,sj,hra,uL,PJ,_,N6,wx,HG,hla⟩:=ha;obtain⟨ob,eb,epb,tb,rP,SU,pI,hrb,Hk,heb,_,uq,RW,G9,hlb⟩:=hb;have Ta:s.TypeIs (.ref a) "set" := ⟨oa,rY,TR.1⟩;have Tb:s.TypeIs (.ref b) "set" := ⟨ob,rP,SU.1⟩;have sz:∀{a:Addr}{o:Obj} {es ep t} {A':Around}{Q':Nat->41}{E':Value->41},s.heap.get? a=some o->o.data=.set es ep t->t.fits es.size=true->Q' es.size s->wpAny 86 A' (Builtin.Frozenset.sizeOf a) Q' E' s:=fun ho hd hf q=>by
  unfold Builtin.Frozenset.sizeOf setEntries;exact cN (cN (dX ho hd hf (cO (cO q))))
 refine lG (op:=.Eq) Ta Tb PySem.F.slot_set_eq (eE PySem.F.slot_set_eq Ta xL ?_ (PySem.F.args_set_eq_2 _ _)) hu
 show 50 (Builtin.Frozenset.slot1 "__eq__" ⟨[.ref a,.ref b],[]⟩ >>= _) _ _ s
 refine cN ?_
 show 50 (pure (Value.ref a,Value.ref b)) _ _ s
 refine cO ?_;dsimp only;unfold Builtin.Frozenset.isAnySet orM;refine cN ?_;refine cN (fH Tb sub_set_self ?_);refine cO ?_;simp only[dM,c6,cX];refine cN (cO ?_);refine cN (cO ?_);refine cN (sz rY sj uL ?_);refine cN (sz rP pI Hk ?_)
 by_cases oF:(ea.size != eb.size)=true
 ·have rf:r=false:=by
   refine iD.mpr fun q=>?_;have q:=hr.mp q;have p:(ea.toList.map fun e=>Z4 e.2).Perm (eb.toList.map fun e=>Z4 e.2):=(List.perm_ext_iff_of_nodup wx RW).mpr fun x=>by rw[HG,G9];exact q x
   have:=p.length_eq;rw[cS,cS,dj,dj] at this;rw[this] at oF;simp at oF
  rw[og oF];subst rf;exact cN (cO (cO ⟨_,rfl,(fun x=>nomatch x),h⟩))
 ·have pj:ea.size=eb.size:=by simpa using oF
  rw[n8 oF];refine cN ?_;unfold andM;refine cN (cN (fH Ta kM ?_));refine cO ?_;simp only[c6,cX];unfold Builtin.Frozenset.subsetOf;refine cN (sz rY sj uL ?_);refine cN (sz rP pI Hk ?_);rw[n8 40];refine cN ?_;unfold setEpoch;refine cN (dX rY sj uL (cO ?_));dsimp only;refine cN ?_;unfold Builtin.Frozenset.walkUnseen setEntries;refine cN (cN (dX rY sj uL (cO ?_)));refine cN (cN (dX rP pI Hk (cO ?_)));dsimp only;refine cN ?_;have qe:∀{e:Int×Value}{A':Around}{Q':Bool->41}{E':Value->41}{s':Shared},(∃x k,e.2=.int x k)->Q' true s'->wpAny 86 A' (Builtin.Frozenset.quietEq e.2) Q' E' s':=fun⟨x,k,ex⟩ q=>by
   rw[ex];exact cO q
  refine gc _ (fun ZG b s'=>s'=s/\b=(none,())/\∀e∈ZG,∃x k,e.2=.int x k) _ ?_ ?_ _ _ ⟨rfl,rfl,fun e m=>(db.mp m).elim (N6 e) (uq e)⟩
  ·rintro e ZG bb s' ⟨rfl,rfl,hx⟩;refine cN (qe (hx e dC) ?_);simp only[dM,c6,cX];exact cO ⟨rfl,rfl,fun e m=>hx e (c7 _ m)⟩
  rintro bb s' ⟨rfl,rfl,_⟩;refine cO ?_;refine cN ?_;refine gc _ (fun ZG b t'=>t'=s'/\b=(none,())/\∃done,ea.toList=done++ZG/\∀e∈done,Z4 e.2∈sb) _ ?_ ?_ _ _ ⟨rfl,rfl,[],rfl,fun _ m=>(by cases m)⟩
  ·rintro e ZG bb s' ⟨rfl,rfl,done,ed,hd⟩;have em:e∈ea.toList:=by rw[ed];simp
   obtain⟨⟨k,hk,eh⟩,sc⟩:=PJ e em;obtain⟨x,t,ex⟩:=N6 e em;have kx:k=.inl x:=by
    have hk:=hk;rw[ex] at hk;have q2:Vz k (.int x t)=true:=hk;rcases ZM q2 with⟨i,t2,e1,e2⟩|⟨z,t2,e1,e2⟩
    ·cases e1;cases e2;rfl
    ·cases e2
   have ix:Z4 e.2=x:=by rw[ex];rfl
   rw[eh];refine cN (dh (wpAny_setFind_of hk sc S0 fun r' pE=>?_));rw[kx] at pE;have pE:r'.isSome=decide (x∈sb):=pE
   by_cases c:x∈sb
   ·have:r'.isNone=false:=by cases r'<;>simp_all
    rw[this];simp only[c6,cX];refine cN ?_;unfold Builtin.Frozenset.unchanged setEpoch;refine cN (cN (dX rY sj uL (cO ?_)));dsimp only;rw[n8 39];refine cO (cO ⟨rfl,rfl,done++[e],by rw[ed];simp,fun e' m=>?_⟩);rcases db.mp m with m|m
    ·exact hd e' m
    ·rw[df] at m;subst m;rw[ix];exact c
   ·have:r'.isNone=true:=by cases r'<;>simp_all
    rw[this];simp only[dq];have rf:r=false:=iD.mpr fun q=>c ((hr.mp q x).mp ((HG x).mp (da.mpr ⟨e,em,ix⟩)));subst rf;exact cO (cO (cO ⟨_,rfl,(fun x=>nomatch x),h⟩))
  ·rintro bb s' ⟨rfl,rfl,done,ed,hd⟩;rw[gp] at ed;subst ed;have sub:∀x∈(ea.toList.map fun e=>Z4 e.2),x∈(eb.toList.map fun e=>Z4 e.2):=fun x hx=>by
    obtain⟨e,m,rfl⟩:=da.mp hx;exact(G9 _).mpr (hd e m)
   have rt:r=true:=hr.mpr fun x=>by
    rw[<- HG,<- G9];refine⟨sub x,fun hx=>mE fun nx=>?_⟩;have:=VD wx sub hx nx;rw[cS,cS,dj,dj] at this;lia
   subst rt;exact cO (cO ⟨_,rfl,(fun x=>nomatch x),h⟩)
def Yk(h:Heap)(d:Addr)(es:Array DictEntry)(ep:Nat):Prop:=∃o,h.get? d=some o/\o.ExactDict/\o.data=.dict es ep
section
variable{d:Addr}{es:Array DictEntry}{i:Nat}
theorem Yk.ty(m:Yk s.heap d es ep):s.TypeIs (.ref d) "dict" := let ⟨o,h1,h2,_⟩:=m; ⟨o,h1,h2.1⟩
theorem Yk.keep(m:Yk h d es ep)(k:∀o,h.get? d=some o->h'.get? d=some o):Yk h' d es ep:=let ⟨o,h1,r⟩:=m; ⟨o,k _ h1,r⟩
theorem Yk.lt(m:Yk h d es ep):d<h.objs.size:=let ⟨_,h1,_⟩:=m;cT h1
theorem xT(hd:(d==sysModules)=false)(m:Yk s.heap d es ep)
  (q:Q (.ref s.heap.objs.size) { s with heap:=s.heap.push { cls:=.type "dict_keyiterator",data:=.fields #[.ref d,.int 0 0,.int es.size 0,.int ep 0] } }) :
  36 (pyIter (.ref d)) Q E s:=by
 obtain⟨o,ho,hc,sw⟩:=id m;refine iW m.ty F.slot_dict_iter (eE F.slot_dict_iter m.ty F.entry_dict_iter ?_ (F.args_dict_iter_1 _));unfold Builtin.«dict.__iter__» Builtin.Dict.dictSlotNone Builtin.Dict.showsAll;refine cN (cN (lT m.ty (cO ?_)));refine cN (m:=Builtin.Dict.addrOf _) (gN (a:=d) rfl ?_);rw[n8 (by rw[hd];exact dQ)];refine cN (cO (cN (fP ho sw (cN (iq ho sw ?_)))));exact cN (eQ (cO ⟨_,rfl, "dict_keyiterator",_,⟨_,c8 _ rfl,rfl⟩,nk.lookup,by simpa[rawInt] using q⟩))
theorem vz{Q:67->41}(oJ:s.heap.IsKeyIter it d i es.size ep)(m:Yk s.heap d es ep)
  (q1:∀hi:i<es.size,∀h',h'.IsKeyIter it d (i+1) es.size ep->Heap.SameBut it s.heap h'->Q (some es[i].key) 49)
  (q2:es.size<=i->A.handled=none/\∀h',Heap.ExtBut it s.heap h'->Q none 49):36 (pyNext (.ref it)) Q E s:=by
 have ty:=oJ.typeIs;obtain⟨o,ho,hc,hd⟩:=id oJ;obtain⟨od,wZ,_,tE⟩:=m;have nm:∀{A':Around}{Q':String->41} {E'},Q' "dict_keyiterator" s->wpAny 86 A' (typeNameOfWhole (.ref it)) Q' E' s:=fun h=>wpAny_typeNameOfWhole_keyiter ty h;unfold pyNext;refine cN (gO (gh (name:=Str.ofString "__next__") ty nk (eE nk ty F.entry_dict_keyiterator_next ?_ (F.args_dict_keyiterator_next_1 _))));refine cN (cO (cN (cN (cN (nm (cO (cN (iT ho hd ?_))))))));rw[show Builtin.Dict_items.ownsTuple "dict_keyiterator" = false by left];simp only[c6,cX]
 change 50 (if(Value.ref d==Value.none)=true then _ else _) _ _ s
 rw[n8 (show ¬((Value.ref d==Value.none)=true) from nofun)];refine cN (cO (cN (fP wZ tE ?_)));rw[n8 39];refine cN (cO (cN (iq wZ tE ?_)));rw[n8 39];refine cO ?_;have n0:¬((i:Int)<0):=by lia
 rcases fe i es.size with hi|hi
 ·simp only[n0,cX,fu,ir hi];refine cN (cN (nm (cO (cN (wpAny_isOneOf_keyiter ty ?_)))));refine cN (m:=setField (.ref it) 1 (rawInt ((i:Int)+1))) (gr ho hd 39 ?_);have st:(s.heap.update it (Obj.mapFields (·.setIfInBounds 1 (rawInt ((i:Int)+1))))).IsKeyIter it d (i+1) es.size ep:=
   ⟨_,fO _ ho (iH (fU hd _)),(iU ..).trans hc,by rw[fU hd];simp[rawInt]⟩
  have q:=q1 hi _ st (fI ..);generalize s.heap.update it (Obj.mapFields (·.setIfInBounds 1 (rawInt ((i:Int)+1))))=h' at st q ⊢;exact cN (dh (cN (wpAny_isOneOf_keyiter (s:=49) st.typeIs (cO (cO ⟨_,rfl,cO q⟩)))))
 ·obtain⟨hh,q⟩:=q2 hi;simp only[n0,cX,fu,gD hi];refine cN (cN (nm (cO ?_)));refine cN (m:=setField (.ref it) 0 .none) (gr ho hd 39 ?_);refine cN (m:=newExc (.type "StopIteration") []) ?_;simp only[newExc,newTuple];refine cN (eQ (cN (m:=firstArgMember _ _) (gN (a:=Value.none) rfl (eQ ?_ (by size_fits)))) (by size_fits));unfold raiseNew;refine cN (lN ?_);rw[show A.in1.handled=none from hh];refine cN (cO (wpAny_throw ?_));exact cN (fH (T := "StopIteration") (b:=true) ⟨_,c8 _ rfl,rfl⟩ lO (cO (q _ (((fI ..).extBut.push _).push _))))
theorem xX{Q:67->41}(oJ:s.heap.IsKeyIter it d i es.size ep)(m:Yk s.heap d es ep)(hi:i<es.size)
  (q:∀h',h'.IsKeyIter it d (i+1) es.size ep->Heap.SameBut it s.heap h'->Q (some es[i].key) 49) :
  36 (pyNext (.ref it)) Q E s:=vz oJ m (fun _=>q) fun h=>oh hi 40
theorem vJ{Q:67->41}(hh:A.handled=none)(hi:es.size<=i)(oJ:s.heap.IsKeyIter it d i es.size ep)(m:Yk s.heap d es ep)
  (q:∀h',Heap.ExtBut it s.heap h'->Q none 49):36 (pyNext (.ref it)) Q E s:=vz oJ m (fun h=>oh hi 40) fun _=>⟨hh,q⟩
theorem JF(hh:A.handled=none)(I d:Addr)(oF:d≠I)(es:Array DictEntry)(ep:Nat) :
  Walks prog w A I [I,d] [I] es.size (fun i v=>∃e,es[i]?=some e/\v=e.key) (fun i h=>h.IsKeyIter I d i es.size ep/\Yk h d es ep) where
 sub:=fun b hb=>by simp at hb;simp[hb]
 frame:=fun _ _ _ st hk=>⟨st.1.at fun o e=>hk I 39 o e,st.2.keep fun o e=>hk d 39 o e⟩
 item:=fun i s Q E hi st hQ=>xX st.1 st.2 hi fun h' sJ su=>
  hQ _ h' s.toks ⟨es[i],ir hi,rfl⟩ ⟨sJ,st.2.keep fun o e=>su.extBut d o oF e⟩ fun b o hb e=>su.extBut b o (fun h=>hb (by simp[h])) e
 done:=fun s Q E st hQ=>vJ hh (cP _) st.1 st.2 fun h' he'=>hQ h' s.toks fun b o hb e=>he' b o (fun h=>hb (by simp[h])) e
 self:=fun _ _ _ _ st hQ=>wpAny_pyIter_keyiter st.1 hQ
theorem Zbk(lo:(d==sysModules)=false):W.KdlSrc prog w "dict" d d es.size (fun i v=>∃e,es[i]?=some e/\v=e.key) (fun h=>Yk h d es ep) where
 type:=fun _ m=>m.ty
 there:=fun _ m=>⟨m.lt,m.lt⟩
 keep:=fun _ _ m hk=>m.keep fun o e=>hk d (.inl rfl) o e
 notList:=by left
 notTuple:=by left
 hint:=fun _ _ _ _ m hq=>W.kdl_hint_dict m.ty hq
 iter:=fun _ _ hh m=>⟨_,_,(fun _ _ hq=>xT lo m hq),JF hh _ d (c9 m.lt) es ep,⟨⟨_,c8 _ rfl,rfl,rfl⟩,m.keep fun _ e=>cU _ e⟩⟩
end
theorem ZbZ{fs:Array DictEntry}(e:fs.toList.map (·.key)=ys)(h:ItemsOf (fun i v=>∃e,fs[i]?=some e/\v=e.key) acc fs.size):acc.toList=ys:=by
 subst e;refine iY fun j=>?_;rw[dz,fj,fj];cases c:acc[j]? with
 |none=>
  have:acc.size<=j:=by simpa using c
  rw[gD (by have:=h.1;lia)];rfl
 |some v=>
  obtain⟨e,he,rfl⟩:=h.2 j v c;rw[he];rfl
theorem QM{Q:Unit->41}(hS:Wv prog w B s.heap a [])(hn:n<1000)(h:∀h',Heap.SameBut a s.heap h'->Wv prog w B h' a []->Q () 49):36 (setRoomFor a n) Q E s:=by
 obtain⟨o,es,ep,t,ho,hx,hd,hr,hf,pW,hL,o9,sd,oP,Ai⟩:=id hS;have e0:es=#[]:=by
  have:es.size=0:=by simpa using Ai
  exact Array.eq_empty_of_size_eq_zero this
 subst e0;unfold setRoomFor;refine cN (dX ho hd hf ?_);dsimp only;cases hrm:t.roomFor n with
 |none=>exact cO (h s.heap (io ..) hS)
 |some wanted=>
  dsimp only;unfold setRelay;refine cN (dX ho hd hf ?_);dsimp only;have sa:∀f size,SetTable.sizeAbove.go wanted f size<=max size (2*wanted):=fun f=>by
   induction f with
   |zero=>intro size;exact Nat.le_max_left _ _
   |succ f ih=>
    intro size;unfold SetTable.sizeAbove.go
    by_cases c:size<=wanted
    ·rw[og c];have:=ih (size*2);lia
    ·rw[n8 c];lia
  have hw:wanted=n*2:=by
   unfold SetTable.roomFor at hrm
   split at hrm
   ·cases hrm;have hp:t.place.size=0:=by
     unfold SetTable.fits at hf;rw[dg] at hf;simpa using hf.1
    rw[hp,gW]
   ·cases hrm
  have s1:=sa 64 8;rw[n8 (by show ¬SetTable.sizeAbove.go wanted 64 8>sizeLine;rw[cQ];lia)];have hl:t.relaid (Array.map (fun x=>x.fst) (#[]:88)) wanted=some ({ mask:=SetTable.sizeAbove wanted-1,place:=#[],dummies:=#[],finger:=t.finger,led:=t.led,moves:=t.movedTo (SetTable.sizeAbove wanted-1),plain:=t.plain },#[]):=by
   have lv:(γ (SetTable.sizeAbove wanted-1+1)).filterMap (fun j=>((Array.replicate (SetTable.sizeAbove wanted-1+1) (none:68)).getD j none).map (j,·))=[]:=by
    rw[Η];intro j _;have:(Array.replicate (SetTable.sizeAbove wanted-1+1) (none:68)).getD j none=none:=by
     rw[ii,Array.getElem?_replicate]
     split<;>rfl
    rw[this];rfl
   unfold SetTable.relaid SetTable.laid SetTable.layClean;simp only[Array.map_empty,Array.foldl_empty,Option.map_some,Option.bind_eq_bind,Option.bind_some,lv];rfl
  rw[hl];refine cN (cO ?_);have hg:=Xr (es':=(#[]:88)) (t':={ mask:=SetTable.sizeAbove wanted-1,place:=#[],dummies:=#[],finger:=t.finger,led:=t.led,moves:=t.movedTo (SetTable.sizeAbove wanted-1),plain:=t.plain }) ho hd;refine gZ ho hd (h _ (fI ..) ⟨_,#[],_,_,hg,hx,rfl,List.Pairwise.nil,by rfl,pW,hL,o9,sd,oP,Ai⟩) (by show 0<=sizeLine;lia)
theorem Qi{d:Addr}{fs:Array DictEntry}(hd:(d==sysModules)=false)(m:Yk s.heap d fs ep)(hk:∀e∈fs.toList,∃k t,e.key=.int k t/\e.hash=hashInt k)(hz:fs.size<1000)
  (h:∀(h':Heap) (tk:Nat),Wv prog w 46 h' s.heap.objs.size (fs.toList.map fun e=>Z4 e.key)->47->Q (.ref s.heap.objs.size) 74) :
  36 (call (.type "set") [.ref d]) Q E s:=by
 have AG:=fL.made;have rT:=fL.sub;obtain⟨c,tl,D0⟩:=fL.mro;refine wpAny_call (iX (cO ⟨Code.quiet_builtin _ 61,gi nh ?_⟩));rw[Around.under_plain (weight_type_call_type "set" [.ref d] []) rfl];have g1:=fL.notType;have g2:=fL.canCreate;have g3:=PySem.F.typeCall_set_1 (.ref d)
 repeat (any_goals (first|assumption|wp_step))
 generalize oG:(!w.params.followText "set-order")=led;refine gw (Ug (.ref d) (E:=E) (Q₁:=fun obj t=>obj=.ref s.heap.objs.size/\t={ s with heap:=s.heap.push { cls:=.type "set",dict:=none,data:=.set #[] 0 (.fresh 0 0 led) } }) ⟨rfl,by rw[oG]⟩) fun r t hr=>?_;cases r with
 |error e=>exact hr
 |ok fl=>
  cases fl with
  |ret obj=>
   obtain⟨rfl,rfl⟩:=hr;have hS:(s.heap.push { cls:=.type "set",dict:=none,data:=.set #[] 0 (.fresh 0 0 led) }).get? s.heap.objs.size=some { cls:=.type "set",dict:=none,data:=.set #[] 0 (.fresh 0 0 led) }:=c8 _ rfl;have hT:Shared.TypeIs { s with heap:=s.heap.push { cls:=.type "set",dict:=none,data:=.set #[] 0 (.fresh 0 0 led) } } (.ref s.heap.objs.size) "set" := ⟨_,hS,rfl⟩;have Ml:=fL.init.lookup;have Mb:=fL.init.bind (.ref s.heap.objs.size)
   repeat (any_goals (first|assumption|wp_step))
   refine gw (codeAny_call_builtin (R:=wants (fun r u=>r=.none/\∃h' tk,u=74/\Wv prog w 46 h' s.heap.objs.size (fs.toList.map fun e=>Z4 e.key) /\ 47) E) fL.init.plain PySem.F.entry_set_init (check_set_init_1 hT ?_)) fun r2 u py=>?_
   ·have m1:Yk (s.heap.push { cls:=.type "set",dict:=none,data:=.set #[] 0 (.fresh 0 0 led) }) d fs ep:=m.keep fun _ e=>cU _ e;have sY:Wv prog w 46 (s.heap.push { cls:=.type "set",dict:=none,data:=.set #[] 0 (.fresh 0 0 led) }) s.heap.objs.size []:=⟨_,#[],0,_,c8 _ rfl,⟨rfl,rfl,rfl⟩,rfl,List.Pairwise.nil,by rfl,(fun e he=>by simp at he),(fun z=>by show led=true;rw[<- oG,z];rfl),(fun e he=>by simp at he),by simp,fun x=>by simp,dH _⟩;have k1:∀b o,s.heap.get? b=some o->(s.heap.push { cls:=.type "set",dict:=none,data:=.set #[] 0 (.fresh 0 0 led) }).get? b=some o:=fun b o z=>cU _ z;have nd:d≠s.heap.objs.size:=c9 m.lt;generalize s.heap.push { cls:=.type "set",dict:=none,data:=.set #[] 0 (.fresh 0 0 led) }=hp at m1 sY k1 hS hT;have I0:=PySem.F.sub_dict_set;have G2:=PySem.F.sub_dict_frozenset;obtain⟨od,ho,hx,tE⟩:=id m1;obtain⟨Di,Ay,EC,ub⟩:=od;have BQ:Di=.type "dict" := hx.1;simp only at tE;subst BQ;subst tE;unfold Builtin.«set.__init__» noKeywords Builtin.Frozenset.updateFrom;generalize hRF:setRoomFor=RF;have oF:(Value.type "dict" == Value.type "dict")=true:=by left
    wp_walk
    subst hRF;refine QM (s:={ s with heap:=hp }) sY 40 fun h1 Cp P9=>?_;have m2:Yk h1 d fs ep:=(show Yk hp d fs ep from⟨_,ho,hx,rfl⟩).keep fun o e=>Cp.extBut d o nd e;have k2:∀b o,s.heap.get? b=some o->h1.get? b=some o:=fun b o e=>Cp.extBut b o (c9 (cT e)) (k1 b o e);obtain⟨o2,D1,_,D9⟩:=id m2;refine cN (fP D1 D9 ?_);refine cN ?_;rw[nz];simp only[Std.Legacy.Range.size,iP,mO,Nat.div_one];refine gc _
     (fun ZG _ s'=>∃h' i,s'=49/\ZG=List.range' i (fs.size-i)/\i<=fs.size/\Wv prog w 46 h' s.heap.objs.size ((fs.toList.map fun e=>Z4 e.key).take i)/\Heap.SameBut s.heap.objs.size h1 h')
     _ ?_ ?_ _ _ ⟨h1,0,rfl,by simp,dH _,by simpa using P9,io _ _⟩
    ·rintro x ZG b s' ⟨h',i,rfl,hr,hi,sf,su⟩;have oM:i<fs.size:=by
      rcases fe i fs.size with h|h
      ·exact h
      ·rw[Nat.sub_eq_zero_of_le h] at hr;simp at hr
     obtain⟨rfl,uN⟩:x=i/\ZG=List.range' (i+1) (fs.size-(i+1)):=by
      have e:fs.size-i=(fs.size-(i+1))+1:=by lia
      rw[e,mP] at hr;injection hr with h1 h2;exact⟨h1,h2⟩
     have m3:Yk h' d fs ep:=m2.keep fun o e=>su.extBut d o nd e;obtain⟨o3,TY,_,OV⟩:=id m3;refine cN (fP (s:=49) TY OV ?_);rw[ir oM];obtain⟨k,t,ek,eh⟩:=hk fs[x] 39;dsimp only;rw[ek,eh];have oW:(fs.toList.map fun e=>Z4 e.key).take (x+1)=(fs.toList.map fun e=>Z4 e.key).take x++[k]:=by
      rw[fz,dz,fj,ir oM]
      show _++[Z4 fs[x].key]=_
      rw[ek];rfl
     refine cN (dh (kZ (s:=49) sf (by rw[dB];have:scanBound=4096:=rfl;lia) fun Bp b CD OB=>?_));have m4:Yk Bp d fs ep:=m3.keep fun o e=>CD.extBut d o nd e;obtain⟨o4,PH,_,R9⟩:=id m4;refine cN (iq (s:={ s with heap:=Bp }) PH R9 ?_);rw[n8 39];exact cO ⟨Bp,x+1,rfl,uN,oM,by rw[oW];exact OB,su.trans CD⟩
    ·rintro b s' ⟨h',i,rfl,hr,hi,sf,su⟩;have oP:i=fs.size:=by
      rcases fe i fs.size with h|h
      ·have e:fs.size-i=(fs.size-(i+1))+1:=by lia
       rw[e,mP] at hr;cases hr
      ·lia
     subst oP;have e9:(fs.toList.map fun e=>Z4 e.key).take fs.size=fs.toList.map fun e=>Z4 e.key:=nB 39;rw[e9] at sf;refine cO (cO ⟨rfl,h',s.toks,rfl,sf,fun b o e=>su.extBut b o (c9 (cT e)) (k2 b o e)⟩)
   ·cases r2 with
    |error e=>exact py
    |ok fl2=>
     cases fl2 with
     |ret r=>
      obtain⟨rfl,h',tk,rfl,a1,a4⟩:=py
      repeat (any_goals (first|assumption|wp_step))
      exact h _ _ a1 a4
     |_=>exact py.elim
  |_=>exact hr.elim
theorem Inv.turnedLaid(I:L2.Inv X bJ U H s)(k:∀b u,b∉ch->s.heap.get? b=some u->h'.get? b=some u)(rP:∀b∈ch,∃u,h'.get? b=some u)(hf:∀b∈ch,WH X bJ H b)(hp:s.heap.objs.size<=p)
  (new:Y9 X.prog X.w (upd H p o) h' p o):L2.Inv X bJ U (upd H p o) 117:=by
 have hn:H p=none:=I.hok.fresh hp;have sK:∀{b:Addr}{u:Obj},s.heap.get? b=some u->b≠p:=fun e=>c9 (fq (cT e) hp);refine I.step (g':=s.gens) (d':=s.drawn) (ch:=ch) (fun b hb=>?_) (fun b u _ _ hc e _=>k b u hc e) (fun b u _ _ hc e _=>⟨u.slots,k b u hc e⟩) (fun b u _ e n=>by rw[upd_ne (sK e)];exact n)
  (fun b u hc e=>⟨u,k b u hc e⟩) (fun b xs e=>by rw[upd_ne (Yf e hn)];exact e) (fun b u xs e=>by rw[upd_ne (Yf e hn)];exact e) (fun b ps e=>⟨#[],by rw[upd_ne (Yf e hn),e];simp⟩)
  (fun m hm=>?_) (fun b u e=>?_) I.bare
 ·obtain⟨f0,f1,f2,f3,f4,f5⟩:=hf b hb;exact⟨f3,f1,f4,f5⟩
 ·obtain⟨ob,es,ep,ho,r⟩:=hm;exact⟨ob,es,ep,k _ ob (fun z=>(hf _ z).2.1 rfl) ho,r⟩
 ·by_cases hb:b=p
  ·subst hb;rw[Zc] at e;cases e;exact new
  ·rw[upd_ne hb] at e;have t9:∀c v,H c=some v->c∉ch:=fun c v q z=>by rw[(hf c z).1] at q;cases q
   refine(I.hok b u e).stay (fun c v hc q=>k c v ?_ q) (fun c q=>by rw[upd_ne (Yf q hn)];exact q) fun c xs q=>by rw[upd_ne (Yf q hn)];exact q
   rcases hc with rfl|hc
   ·exact t9 _ _ e
   ·exact t9 _ _ hc
def Ite(K:W.Frag)(a:Addr):It:=
 ⟨fun i H=>∃xs x,SqL K H a xs/\xs[i]?=some x,fun i H x H'=>∃p v,x=.ref p/\H p=none/\H'=upd H p (.tup [.int i,v])/\∀xs,SqL K H a xs->xs[i]?=some v,fun i H=>∃xs,SqL K H a xs/\xs.length<=i⟩
theorem QP{pt:Pos}(a it e:Addr)(oF:e≠it) :
  xC P w K (.Tuple rR k1 pt) (Ite K a) [e,it] e (fun i h=>∃sK,IsEnum h e it (i:Nat) sK/\h.IsListIter it a i) where
 mem:=by simp
 obj:=fun i h st b hb=>by
  obtain⟨sK,h1,o,h2,c,d⟩:=st;rcases(by simpa using hb:b=e\/b=it) with rfl|rfl
  ·exact⟨_,h1,fun v z=>by
    have z':Data.fields _=Data.cell v:=z;cases z'⟩
  ·exact⟨o,h2,fun v z=>by rw[d] at z;cases z⟩
 keep:=fun i h h' st k=>by
  obtain⟨sK,h1,h2⟩:=st;exact⟨sK,k e 39 _ h1,h2.at fun o z=>k it 39 o z⟩
 item:=by
  intro X hP hw hK hc i bJ s U H E I hf st hg;subst hP hw hK;obtain⟨xs,x,hq,hx⟩:=hg;obtain⟨oi,rv,p,hz⟩:=I.list hq;obtain⟨u,hu,ru⟩:=rv.get hx;obtain⟨sK,he,hi⟩:=st;refine wpAny_pyNext_enum_item he hi p.isList (x:=u) (by simpa using hu) oF fun h1 b1 b2 b3 b4 b5=>?_;refine⟨_,rfl,wpAny_letOwnedTupleGo_enum b1 fun h2 c1 c2=>?_⟩;have rL:Heap.SameBut e h1 h2:=c2;have My:e<s.heap.objs.size:=cT he;have rZ:h2.IsListIter it a (i+1):=b2.at fun o z=>(rL.2 it (eY oF)).trans z;have ht:h2.get? s.heap.objs.size=some { cls:=.type "tuple",data:=.seq #[.int (i:Nat) s.toks,u] }:=(rL.2 _ (fW My)).trans b3;have I2:L2.Inv X bJ U (upd H s.heap.objs.size (.tup [.int (i:Nat),x])) { s with heap:=h2,toks:=s.toks+1 }:=by
   refine Inv.turnedLaid (ch:=[e,it]) I (fun b o hb z=>?_) (fun b hb=>?_) hf (cP _) ?_
   ·have oS:b≠e/\b≠it:=by simpa using hb
    exact(rL.2 b oS.1).trans (b5 b o oS.1 oS.2 z)
   ·rcases(by simpa using hb:b=e\/b=it) with rfl|rfl
    ·exact⟨_,c1⟩
    ·obtain⟨o,z,_⟩:=rZ;exact⟨o,z⟩
   ·exact⟨by show 2<=sizeLine;decide,[.int (i:Nat) s.toks,u],.cons ⟨_,rfl⟩ (.cons ru .nil),⟨_,ht,rfl,_,rfl⟩⟩
  have hn:=I.hok.fresh (cP s.heap.objs.size);refine⟨.ref s.heap.objs.size,_,I2,rfl,⟨_,x,rfl,hn,rfl,fun ys hy=>by rw[I.list_inj hy hq];exact hx⟩,⟨u,by simpa using c1,rZ⟩,fun b hb=>?_⟩;have lb:b<s.heap.objs.size:=by
   rcases(by simpa using hb:b=e\/b=it) with rfl|rfl
   ·exact My
   ·obtain⟨o,z,_⟩:=hi;exact cT z
  rw[upd_ne (c9 lb)];exact(hf b hb).1
 done:=by
  intro X hP hw hK hc i bJ s U H E I hf st hg;subst hP hw hK;obtain⟨xs,hq,hx⟩:=hg;obtain⟨oi,rv,p,hz⟩:=I.list hq;obtain⟨sK,he,hi⟩:=st;have hl:=rv.length;obtain⟨f0,f1,f2,f3,f4,f5⟩:=hf it 39;exact wpAny_pyNext_enum_end 124 he hi p.isList (by simp;lia) fun h' eb=>⟨rfl,I.turned (t':=s.toks) (fun b o hb z=>eb b o hb z) f0 f1 f3 f4 f5⟩
 self:=fun _ _ _ _ _ st h=>by
  obtain⟨sK,he,_⟩:=st;exact wpAny_pyIter_enum he h
def Zcz(K:W.Frag)(ta:TA):TI:=fun U H R=>ta U H fun vs H1=>∃a xs,vs=[.ref a]/\Rd H1 a (.lst xs)/\R (Ite K a) H1
theorem Zby{pt:Pos}{a:Expr}{p:Pos}(hg:Gl X "enumerate")(hm:X.mg "enumerate" = none)(ha:PA X [a] ta)(hs:starEach [a] X.env=[(false,eval a X.env)]:=by rfl) :
  PI X (.Tuple rR k1 pt) (.Call (.Name "enumerate" p) [a] [] oj) (Zcz X.K ta):=by
 intro bJ s U H R I h;refine Call_ (VA I hg hm PyProof.Rows.boot_enumerate (iM (thn (ha oj bJ s U H _ I h) fun us s1 ⟨vs,H1,I1,r1,q1⟩=>?_) hs rfl));obtain⟨l,xs,rfl,hq,q⟩:=q1;obtain⟨u,rfl,ru⟩:=XU r1;obtain rfl:u=Value.ref l:=ru;obtain⟨z,oi,n,rv,e⟩:=hq.ok I1.hok;refine call_enumerate_1 e fun h' a1 a2 a3 a4=>wpAny_pyIter_enum a1 ?_;have I2:L2.Inv X bJ U H1 { s1 with heap:=h' }:=I1.kept (t':=s1.toks) a4;refine⟨s1.heap.objs.size+1,[s1.heap.objs.size+1,s1.heap.objs.size],_,_,H1,rfl,I2,QP l s1.heap.objs.size (s1.heap.objs.size+1) (fW (fR _)),⟨_,a1,a2⟩,fun b hb=>?_,q⟩;have lb:s1.heap.objs.size<=b:=by
  rcases(by simpa using hb:b=s1.heap.objs.size+1\/b=s1.heap.objs.size) with rfl|rfl
  ·exact ic _
  ·exact cP _
 exact I1.fpOk lb (I1.hok.fresh lb)
def New(H H':Hp):Hp:=fun b=>if(H b).isSome=true then none else H' b
def YF(D:Addr)(H:Hp):Hp:=fun b=>if b=D then none else H b
theorem New.of(h:New H H' b=some o):H b=none/\H' b=some o:=by
 unfold New at h
 split at h
 ·cases h
 ·rename_i q
  refine⟨?_,h⟩;cases e:H b with
  |none=>rfl
  |some u=>rw[e] at q;exact oh rfl q
theorem New.mk(h:H b=none)(h':H' b=some o):New H H' b=some o:=by
 unfold New;rw[h];exact h'
theorem Zh(h:H p=none):Zd H (upd H p o):=fun b u e=>by rw[upd_ne (Yf e h)];exact e
theorem YM:Zd (YF D H) H:=fun b o h=>by
 unfold YF at h
 split at h
 ·cases h
 ·exact h
theorem WZ(h:YF D H b=some o):b≠D/\H b=some o:=by
 unfold YF at h
 split at h
 ·cases h
 ·rename_i q;exact⟨q,h⟩
theorem Z0(n:b≠D)(h:H b=some o):YF D H b=some o:=by
 unfold YF;rw[n8 n];exact h
def Zm(D:Addr)(H H':Hp):Prop:=∀b o,b≠D->H b=some o->H' b=some o
theorem Zd.x(h:77):Zm D H H':=fun b o _ e=>h b o e
theorem Zm.refl(H:Hp):Zm D H H:=fun _ _ _ e=>e
theorem Zm.trans{H2:Hp}(a:Zm D H H1)(b:Zm D H1 H2):Zm D H H2:=fun c o n e=>b c o n (a c o n e)
theorem Zm.upd{D:Addr}{H H':Hp}{o:HO}(a:Zm D H H'):Zm D H (upd H' D o):=fun c u n e=>by rw[upd_ne n];exact a c u n e
theorem Zm.same(a:Zm D H H')(h:H D=none):77:=fun c u e=>a c u (Yf e h) e
theorem YX{g:TG}{Q:VK}(Pv:Nat->St->Hp->Prop)(h0:Pv 0 σ0 (upd H0 D (.lst [])))
  (CV:∀i U H,i<n->Pv i U H->J.go i H) (o9:∀U H,Pv n U H->J.stop n H)
  (hs:∀i x U H H2,i<n->Pv i U H->J.yld i H x H2->∀(N:V->St->Hp->Prop) (N0:St->Hp->Prop),(∀v σ2 H5 ys,H5 D=some (.lst ys)->ys.length<sizeLine->Pv (i+1) σ2 (upd H5 D (.lst (ys++[v])))->N v σ2 H5)->(∀σ2 H4,Pv (i+1) σ2 H4->N0 σ2 H4) -> g x U H2 fun σ2 H3=>tt σ2 H3 fun c H4=>if c=true then te σ2 H4 fun v H5=>N v σ2 H5 else N0 σ2 H4)
  (hd:∀U H,Pv n U H->Q (.ref D) H) :
  qO J D g tt te σ0 H0 Q:=by
 refine⟨fun i m U H=>m=n-i/\i<=n/\Pv i U H,⟨n,by simp,dH _,h0⟩,?_⟩;rintro i m U H ⟨rfl,hi,p⟩
 by_cases oM:i<n
 ·refine .inr ⟨CV i U H oM p,fun v σ2 H5=>∃ys,H5 D=some (.lst ys)/\ys.length<sizeLine/\Pv (i+1) σ2 (upd H5 D (.lst (ys++[v]))),fun σ2 H4=>Pv (i+1) σ2 H4,?_,?_,?_⟩
  ·rintro v σ2 H5 ⟨ys,a,b,c⟩;exact⟨ys,a,b,n-(i+1),by lia,rfl,oM,c⟩
  ·intro σ2 H4 q;exact⟨n-(i+1),by lia,rfl,oM,q⟩
  ·intro x H2 y;exact hs i x U H H2 oM p y _ _ (fun v σ2 H5 ys a b c=>⟨ys,a,b,c⟩) fun _ _ q=>q
 ·have e:i=n:=by lia
  subst e;exact .inl ⟨o9 U H p,hd U H p⟩
theorem Vw{xs:List V}{τ:St}{Q:VK}(hD:H0 D=none)(hq:SqL K H0 a xs)(hz:xs.length<=sizeLine)(R:Nat->V->Hp->Prop)(mono:∀i v H H',77->R i v H->R i v H')
  (step:∀i x H (N:V->Hp->Prop),xs[i]?=some x->Zd H0 H->(∀v H4,Zd H H4->R i v (New H H4)->N v H4)->te (some x::τ) H N)
  (fin:∀H' ys,H' D=some (.lst ys)->Zd H0 H'->ys.length=xs.length->(∀i v,ys[i]?=some v->R i v (New H0 H'))->Q (.ref D) H') :
  qO (Itl K a) D (yd 0) J6 te (none::τ) H0 Q:=by
 refine YX (n:=xs.length) (fun i U H=>∃z ys,U=z::τ/\H D=some (.lst ys)/\ys.length=i/\Zd H0 H/\∀j v,ys[j]?=some v->R j v (YF D (New H0 H))) ?_ ?_ ?_ ?_ ?_
 ·exact⟨none,[],rfl,Zc,rfl,Zh hD,fun j v e=>by simp at e⟩
 ·rintro i U H hi ⟨z,ys,rfl,_,_,s,_⟩;exact⟨xs,xs[i],s.seq hq,by simp[hi]⟩
 ·rintro U H ⟨z,ys,rfl,_,_,s,_⟩;exact⟨xs,s.seq hq,cP _⟩
 ·rintro i x U H H2 hi ⟨z,ys,rfl,hy,hl,s,r⟩ ⟨rfl,hx⟩ N N0 hN sq
  show te (some x::τ) H2 _
  refine step i x H2 _ (hx xs (s.seq hq)) s fun v H4 s4 r4=>?_;refine hN v _ H4 ys (s4 _ _ hy) 40 ⟨some x,ys++[v],rfl,Zc,by rw[cZ,fB,hl],?_,?_⟩
  ·exact(Zm.upd (Zd.x (s.trans s4))).same hD
  ·intro j w e
   by_cases hj:j<ys.length
   ·rw[gJ hj] at e;refine mono j w _ _ ?_ (r j w e);intro b o hb;obtain⟨nb,hb⟩:=WZ hb;obtain⟨h1,h2⟩:=New.of hb;exact Z0 nb (New.mk h1 (by rw[upd_ne nb];exact s4 _ _ h2))
   ·have ej:j=ys.length:=by
     have:=(dk.mp e).1;rw[cZ,fB] at this;lia
    subst ej;simp at e;subst e;rw[hl];refine mono i v _ _ ?_ r4;intro b o hb;obtain⟨h1,h2⟩:=New.of hb;have nb:b≠D:=fun z=>by subst z;rw[hy] at h1;cases h1
    exact Z0 nb (New.mk (s.free h1) (by rw[upd_ne nb];exact h2))
 ·rintro U H ⟨z,ys,rfl,hy,hl,s,r⟩;exact fin H ys hy s hl fun i v e=>mono i v _ _ YM (r i v e)
def Zdk(K:W.Frag):List V->Hp->VK->Prop:=fun xs H Q=>(∃p ys,xs=[.ref p]/\(SqL K H p ys\/SqT K H p ys)/\Q (.int ys.length) H)\/((∃z,xs=[.str z]/\z.length<=sizeLine/\Q (.int z.length) H)\/∃a n,xs=[.ref a]/\H a=some (Zej a n)/\n<4000/\Q (.int n) H)
theorem K4:Yy X (.builtin "len") (Zdk X.K):=ji.or (ju.or QG)
def ZW(sc:Scope)(N Nc:54)(ix:List (68))(scope:Scope):Bool:=
 decide (scope.kind=.function)&&scope.names.all (fun y=>decide (y.2≠.cell))&&scope.names.all (fun y=>decide (y.2=.local->scope.names.lookup y.1=some .local)) &&
 scope.names.all (fun y=>decide (y.2=.free->sc.names.lookup y.1=some .cell\/sc.names.lookup y.1=some .free))&&decide (ix.length=Nc.length) &&
 (ix.zip Nc).all fun p=>match p.1 with|none=>true|some j=>N[j]?==some p.2&&scope.names.lookup p.2==some .free
theorem ZD.of{N:54}(h:ZW sc N Nc ix scope=true):ZD sc N Nc ix scope:=by
 unfold ZW at h;simp only[dg] at h;obtain⟨⟨⟨⟨⟨h1,h2⟩,h3⟩,h4⟩,h5⟩,h6⟩:=h;exact⟨dE h1,fun y hy=>dE (dU.mp h2 y hy),fun y hy=>dE (dU.mp h3 y hy),fun y hy=>dE (dU.mp h4 y hy),dE h5,h6⟩
theorem ZQ(hK:X.K=K):Yy X (.builtin "len") (Zdk K):=by subst hK;exact K4
def rAll(K:W.Frag):List V->Hp->VK->Prop:=fun xs H Q=>∃(p:Addr) (bs:71),xs=[.ref p]/\SqL K H p (bs.map V.bl)/\Q (.bl (bs.all id)) H
def rAny(K:W.Frag):List V->Hp->VK->Prop:=fun xs H Q=>∃(p:Addr) (bs:71),xs=[.ref p]/\SqL K H p (bs.map V.bl)/\Q (.bl (bs.any id)) H
theorem Wo(hK:X.K=K)(hc:X.calm=true):Yy X (.builtin "all") (rAll K):=by subst hK;exact Zak hc
theorem WU(hK:X.K=K)(hc:X.calm=true):Yy X (.builtin "any") (rAny K):=by subst hK;exact Zbg hc
theorem Wr(hK:X.K=K)(T:String):Yy X (.builtin "isinstance") (ZcV K T):=by subst hK;exact Zbt T
theorem Zp(hK:X.K=K):IxR X (ZbT K):=by subst hK;exact Zco
theorem Xd(hK:X.K=K):IxR X (ZeP K):=by subst hK;exact ZcS
theorem Y1(hK:X.K=K):SlR X (Zec K):=by subst hK;exact Zbu
theorem zH(hK:X.K=K)(hu:X.A.units+64<cLine):OpR X (compareOp .Eq) (jS K false):=by subst hK;exact ZcL hu
theorem jf(hK:X.K=K)(hu:X.A.units+64<cLine):OpR X (compareOp .NotEq) (jS K true):=by subst hK;exact Zc0 hu
theorem ZF{l:Expr}(hK:X.K=K)(hl:PE X l tl):PI X tg l (ZcH K tl):=by subst hK;exact Zbw hl
theorem j4{pt:Pos}{a:Expr}{p:Pos}(hK:X.K=K)(hg:Gl X "enumerate")(hm:X.mg "enumerate" = none)(ha:PA X [a] ta)(hs:starEach [a] X.env=[(false,eval a X.env)]:=by rfl) :
  PI X (.Tuple rR k1 pt) (.Call (.Name "enumerate" p) [a] [] oj) (Zcz K ta):=by subst hK;exact Zby hg hm ha hs
theorem WK{es:List Expr}{k:Nat}{t:TGs}(hK:X.K=K)(hc:X.calm=true)(h:PGs X es t)
  (hn:(assignEach es X.env).length=n:=by rfl) (o9:(assignEach es X.env).findIdx? (·.1)=none:=by rfl):PG X (.Tuple es k oj) (ZeH K n t):=by subst hK;exact ZdG hc h hn o9
theorem Yn{f:Str}{ta:TE}(hK:X.K=K)(he:PE X e ta)(hb:attributeBase e f X.env (eval e X.env)=eval e X.env):PE X (.Attribute e f oj) (ZdV K ta f):=by subst hK;exact Zdp he hb
theorem Kr{st:Expr}{p2:Pos}(hK:X.K=K)(he:PE X e te)(hs:PO X (some st) ts):PE X (.Subscript e (.Slice none none (some st) p2) oj) (Zd0 K te ts):=by subst hK;exact Zdw he hs
inductive Kd(H:Hp):V->Prop
 |non:Kd H .non
 |bl (b:Bool):Kd H (.bl b)
 |int (i:Int):Kd H (.int i)
 |str (z:Str) (hz:z.length<=1000):Kd H (.str z)
 |lst {a:Addr}{xs:List V} (e:H a=122):Kd H (.ref a)
 |tup {a:Addr}{xs:List V} (e:H a=some (.tup xs)):Kd H (.ref a)
 |dK {a:Addr}{kvs:List (Key×V)} (e:H a=some (.dK kvs)):Kd H (.ref a)
def V8(H:Hp)(T:String):V->Bool
 |.bl _=>T == "bool" || T == "int"
 |.int _=>T == "int"
 |.str _=>T == "str"
 |.ref a=>match H a with
  |some (.lst _)=>T == "list"
  |some (.tup _)=>T == "tuple"
  |some (.dK _)=>T == "dict"
  |_=>false
 |_=>false
theorem Zc4{x:V}{Q:VK}(hT:T = "int" \/ T = "bool" \/ T = "str" \/ T = "list" \/ T = "tuple")(h:Kd H x)(q:Q (.bl (V8 H T x)) H):ZcV K T [x,.ty T] H Q:=by
 rcases hT with rfl|rfl|rfl|rfl|rfl
 all_goals
  cases h with
  |non=>exact⟨_,_,_,rfl,.non,rfl,q⟩
  |bl b=>exact⟨_,_,_,rfl,.bl b,rfl,q⟩
  |int i=>exact⟨_,_,_,rfl,.int i,rfl,q⟩
  |str z hz=>exact⟨_,_,_,rfl,.str z,rfl,q⟩
  |lst e=>first|exact⟨_,_,false,rfl,.lst e,rfl,by simpa[V8,e] using q⟩|exact⟨_,_,true,rfl,.lst e,rfl,by simpa[V8,e] using q⟩
  |tup e=>first|exact⟨_,_,false,rfl,.tup e,rfl,by simpa[V8,e] using q⟩|exact⟨_,_,true,rfl,.tup e,rfl,by simpa[V8,e] using q⟩
  |dK e=>first|exact⟨_,_,false,rfl,.dK e,rfl,by simpa[V8,e] using q⟩|exact⟨_,_,true,rfl,.dK e,rfl,by simpa[V8,e] using q⟩
def Jj:V->Bool
 |.int _=>true
 |_=>false
theorem Zbf(K:W.Frag){x:V}{b:Bool}(hT:T = "int" \/ T = "bool" \/ T = "str" \/ T = "list" \/ T = "tuple")(h:Kd H x)(hb:V8 H T x=b):∃t,Vl K H x t/\W.kitOne K t (.type T)=some b:=by
 obtain⟨y,t,c,e,h1,h2,q⟩:=Zc4 (K:=K) (Q:=fun v _=>v=.bl b) hT h (by rw[hb]);have e1:x=y:=(List.cons.inj e).1;have e2:c=b:=V.bl.inj q;subst e1;subst e2;exact⟨t,h1,h2⟩
def LI(H:Hp)(v:V)(ns:70):Prop:=∃a,v=.ref a/\H a=79
def TS(H:Hp)(v:V)(ss:54):Prop:=∃a,v=.ref a/\H a=some (.tup (ss.map V.str))
structure WD where
 signs:List (54)
 ways:List (70)
 starts:70
 fair:54
theorem n14:¬(("room_signs" : Str) = "fair_names"):=by left
def dI(ns:70):PyData:=.list (ns.map PyData.int)
def dS(ss:54):PyData:=.list (ss.map PyData.str)
def Q3(n:Nat)(d:PyData):Prop:=d.canLay0=true/\d.depth<=n
theorem J0{f:α->PyData}{xs:List α}(h:∀x∈xs,Q3 n (f x)):PyData.canLayAll0 (xs.map f)=true/\PyData.depthAll (xs.map f)<=n:=by
 induction xs with
 |nil=>exact⟨by simp[PyData.canLayAll0],by simp[PyData.depthAll]⟩
 |cons x r ih=>
  obtain⟨a,b⟩:=ih fun y hy=>h y (c7 _ hy);obtain⟨c,d⟩:=h x dC;rw[dD];exact⟨by rw[PyData.canLayAll0,c,a];rfl,by rw[PyData.depthAll];exact Nat.max_le.mpr ⟨d,b⟩⟩
theorem ZeQ{f:α->PyData}{xs:List α}(h:∀x∈xs,Q3 n (f x)):Q3 (n+1) (.list (xs.map f)):=by
 obtain⟨a,b⟩:=J0 h;exact⟨by rw[PyData.canLay0];exact a,by rw[PyData.depth];lia⟩
theorem ZcD(ns:70):Q3 1 (dI ns):=ZeQ fun x _=>⟨by simp[PyData.canLay0],by simp[PyData.depth]⟩
section
variable{K:W.Frag}{H:Hp}
theorem vY{α:Type}{g:α->V}{f:α->PyData}(h:∀x,Dp K H (g x) (f x)):∀xs:List α,WJ K H (xs.map g) (xs.map f)
 |[]=>.nil
 |x::r=>.cons (h x) (vY h r)
theorem LI.dp(h:LI H v ns):Dp K H v (dI ns):=by
 obtain⟨a,rfl,e⟩:=h;exact .lst (nH e) (vY (fun x=>.int x) ns)
end
theorem Zcf{Q:VK}(h1:H a=79)(h2:H b=some (.lst []))(q:∀c:Bool,(c=true↔ns=[])->Q (.bl c) H):jS K false (.ref a) (.ref b) H Q:=by
 refine⟨dI ns,.list [],LI.dp ⟨a,rfl,h1⟩,.lst (nH h2) .nil,(ZcD ns).1,by simp[PyData.canLay0,PyData.canLayAll0],fh (ZcD ns).2 61,?_⟩;refine q _ ?_;cases ns with
 |nil=>simp[dI,PyData.eqv,PyData.eqvAll]
 |cons x r=>simp[dI,PyData.eqv,PyData.eqvAll]
theorem Zm.updN(s:Zm p H H')(h:H D=none):Zm p H (L2.upd H' D o):=fun b u n e=>by
 rw[upd_ne (Yf e h)];exact s b u n e
theorem updK{F:Addr}{o':HO}(h:H p=some o)(n:p≠F):upd H F o' p=some o:=by rw[upd_ne n];exact h
theorem Inv.turnedM(I:L2.Inv X bJ U H s)(k:∀b u,b∉ch->s.heap.get? b=some u->h'.get? b=some u)(hf:∀b∈ch,WH X bJ H b):L2.Inv X bJ U H 117:=by
 have t9:∀c v,H c=some v->c∉ch:=fun c v q z=>by rw[(hf c z).1] at q;cases q
 refine I.step (g':=s.gens) (d':=s.drawn) (ch:=ch) (fun b hb=>?_) (fun b u _ _ hc e _=>k b u hc e) (fun b u _ _ hc e _=>⟨u.slots,k b u hc e⟩) (fun _ _ _ _ n=>n)
  (fun b u hc e=>⟨u,k b u hc e⟩) (fun _ _ e=>e) (fun _ _ _ e=>e) (fun b ps e=>⟨#[],by rw[e];simp⟩) (fun m hm=>?_) (fun b u e=>?_) I.bare
 ·obtain⟨f0,f1,f2,f3,f4,f5⟩:=hf b hb;exact⟨f3,f1,f4,f5⟩
 ·obtain⟨ob,es,ep,ho,r⟩:=hm;exact⟨ob,es,ep,k _ ob (fun z=>(hf _ z).2.1 rfl) ho,r⟩
 ·refine(I.hok b u e).stay (fun c v hc q=>k c v ?_ q) (fun _ q=>q) fun _ _ q=>q;rcases hc with rfl|hc
  ·exact t9 _ _ e
  ·exact t9 _ _ hc
def Itz(K:W.Frag)(a b:Addr):It:=
 ⟨fun i H=>∃xs ys x y,SqL K H a xs/\SqL K H b ys/\xs[i]?=some x/\ys[i]?=some y,fun i H x H'=>∃p v w,x=.ref p/\H p=none/\H'=upd H p (.tup [v,w])/\(∀xs,SqL K H a xs->xs[i]?=some v)/\∀ys,SqL K H b ys->ys[i]?=some w,fun i H=>∃xs ys,SqL K H a xs/\SqL K H b ys/\(xs.length<=i\/ys.length<=i)⟩
theorem neA{a b:Nat}(h:a<b\/b<a):(a:Addr)≠b:=fun e=>by subst e;lia
theorem kR(I l1 l2:Nat)(h1:l1<I)(h2:l2<I):ZipApart (I+4) (I+2) (I+3) I (I+1) l1 l2:=by
 constructor<;>(refine neA ?_;lia)
theorem ZaT{pt:Pos}(a b z TI TO i1 i2:Addr)(D:ZipApart z TI TO i1 i2 a b) :
  xC P w K (.Tuple rR k1 pt) (Itz K a b) [z,TI,TO,i1,i2] z (fun i h=>IsZip h z TI TO .none/\IsPair h TI (.ref i1) (.ref i2)/\(∃u v,IsPair h TO u v)/\h.IsListIter i1 a i/\h.IsListIter i2 b i) where
 mem:=by simp
 obj:=fun i h st c hb=>by
  obtain⟨hz,pN,⟨u,v,rh⟩,⟨o1,e1,c1,d1⟩,⟨o2,e2,c2,d2⟩⟩:=st;rcases(by simpa using hb:c=z\/c=TI\/c=TO\/c=i1\/c=i2) with rfl|rfl|rfl|rfl|rfl
  ·exact⟨_,hz,fun v q=>by
    have q':Data.fields _=Data.cell v:=q;cases q'⟩
  ·exact⟨_,pN,fun v q=>by
    have q':Data.seq _ _=Data.cell v:=q;cases q'⟩
  ·exact⟨_,rh,fun v q=>by
    have q':Data.seq _ _=Data.cell v:=q;cases q'⟩
  ·exact⟨o1,e1,fun v q=>by rw[d1] at q;cases q⟩
  ·exact⟨o2,e2,fun v q=>by rw[d2] at q;cases q⟩
 keep:=fun i h h' st k=>by
  obtain⟨hz,pN,⟨u,v,rh⟩,h1,h2⟩:=st;exact⟨k z 39 _ hz,k TI 39 _ pN,⟨u,v,k TO 39 _ rh⟩,h1.at fun o q=>k i1 39 o q,h2.at fun o q=>k i2 39 o q⟩
 item:=by
  intro X hP hw hK hc i bJ s U H E I hf st hg;subst hP hw hK;obtain⟨xs,ys,x,y,sM,tM,hx,hy⟩:=hg;obtain⟨tN,wA,p1,LG⟩:=I.list sM;obtain⟨pp,tD,p2,LX⟩:=I.list tM;obtain⟨u1,EQ,Gq⟩:=wA.get hx;obtain⟨u2,CP,G0⟩:=tD.get hy;obtain⟨hz,pN,⟨tu,tv,rh⟩,wV,sv⟩:=st;refine wpAny_pyNext_zip_item D hz pN rh wV sv p1.isList p2.isList (x:=u1) (y:=u2) (by simpa using EQ) (by simpa using CP) fun h1 b1 b2 b3 b4 b5 b6 b7=>?_;refine⟨_,rfl,wpAny_letOwnedTupleGo_zip b1 fun h2 c1 c2=>?_⟩;have rL:Heap.SameBut z h1 h2:=c2;have AZ:z<s.heap.objs.size:=cT hz;have uC:h2.IsListIter i1 a (i+1):=b3.at fun o q=>(rL.2 i1 D.i1z).trans q;have rZ:h2.IsListIter i2 b (i+1):=b4.at fun o q=>(rL.2 i2 D.i2z).trans q;have uG:IsPair h2 TO u1 u2:=(rL.2 TO D.TOz).trans b2;have uD:IsPair h2 TI (.ref i1) (.ref i2):=(rL.2 TI D.TIz).trans (b7 TI _ D.TIz D.TITO D.TIi1 D.TIi2 pN);have ht:h2.get? s.heap.objs.size=some { cls:=.type "tuple",data:=.seq #[u1,u2] }:=(rL.2 _ (fW AZ)).trans b5;have I2:L2.Inv X bJ U (upd H s.heap.objs.size (.tup [x,y])) { s with heap:=h2,toks:=s.toks }:=by
   refine Inv.turnedLaid (ch:=[z,TI,TO,i1,i2]) I (fun c o hb q=>?_) (fun c hb=>?_) hf (cP _) ?_
   ·have oS:c≠z/\c≠TI/\c≠TO/\c≠i1/\c≠i2:=by simpa using hb
    exact(rL.2 c oS.1).trans (b7 c o oS.1 oS.2.2.1 oS.2.2.2.1 oS.2.2.2.2 q)
   ·rcases(by simpa using hb:c=z\/c=TI\/c=TO\/c=i1\/c=i2) with rfl|rfl|rfl|rfl|rfl
    ·exact⟨_,c1⟩
    ·exact⟨_,uD⟩
    ·exact⟨_,uG⟩
    ·obtain⟨o,q,_⟩:=uC;exact⟨o,q⟩
    ·obtain⟨o,q,_⟩:=rZ;exact⟨o,q⟩
   ·exact⟨by show 2<=sizeLine;decide,[u1,u2],.cons Gq (.cons G0 .nil),⟨_,ht,rfl,_,rfl⟩⟩
  have hn:=I.hok.fresh (cP s.heap.objs.size);refine⟨.ref s.heap.objs.size,_,I2,rfl,⟨_,x,y,rfl,hn,rfl,fun zs q=>by rw[I.list_inj q sM];exact hx,fun zs q=>by rw[I.list_inj q tM];exact hy⟩,⟨c1,uD,⟨_,_,uG⟩,uC,rZ⟩,fun c hb=>?_⟩;have lb:c<s.heap.objs.size:=by
   rcases(by simpa using hb:c=z\/c=TI\/c=TO\/c=i1\/c=i2) with rfl|rfl|rfl|rfl|rfl
   ·exact AZ
   ·exact cT pN
   ·exact cT rh
   ·obtain⟨o,q,_⟩:=wV;exact cT q
   ·obtain⟨o,q,_⟩:=sv;exact cT q
  rw[upd_ne (c9 lb)];exact(hf c hb).1
 done:=by
  intro X hP hw hK hc i bJ s U H E I hf st hg;subst hP hw hK;obtain⟨xs,ys,sM,tM,hx⟩:=hg;obtain⟨tN,wA,p1,LG⟩:=I.list sM;obtain⟨pp,tD,p2,LX⟩:=I.list tM;obtain⟨hz,pN,⟨tu,tv,rh⟩,wV,sv⟩:=st;have l1:=wA.length;have l2:=tD.length;have Hm:tN.toArray[i]?=none\/pp.toArray[i]?=none:=by
   rcases hx with hx|hx
   ·exact .inl (by simp;lia)
   ·exact .inr (by simp;lia)
  refine wpAny_pyNext_zip_end 124 D hz pN rh wV sv p1.isList p2.isList Hm fun h' eb=>⟨rfl,?_⟩;exact Inv.turnedM (ch:=[z,TI,TO,i1,i2]) (t':=s.toks) I (fun c o hb q=>by
   have oS:c≠z/\c≠TI/\c≠TO/\c≠i1/\c≠i2:=by simpa using hb
   exact eb c o oS.1 oS.2.2.1 oS.2.2.2.1 oS.2.2.2.2 q) hf
 self:=fun _ _ _ _ _ st h=>wpAny_pyIter_zip st.1 h
def Zel(K:W.Frag)(ta:TA):TI:=fun U H R=>ta U H fun vs H1=>∃a b xs ys,vs=[.ref a,.ref b]/\SqL K H1 a xs/\SqL K H1 b ys/\R (Itz K a b) H1
theorem Zc7{pt:Pos}{a b:Expr}{p:Pos}(hg:Gl X "zip")(hm:X.mg "zip" = none)(ha:PA X [a,b] ta)(hs:starEach [a,b] X.env=[(false,eval a X.env),(false,eval b X.env)]:=by rfl)(sn:starEach [b] X.env=[(false,eval b X.env)]:=by rfl) :
  PI X (.Tuple rR k1 pt) (.Call (.Name "zip" p) [a,b] [] oj) (Zel X.K ta):=by
 intro bJ s U H R I h;refine Call_ (VA I hg hm PyProof.Rows.boot_zip (iM (thn (ha oj bJ s U H _ I h) fun us s1 ⟨vs,H1,I1,r1,q1⟩=>?_) (by rw[hs,sn]) (by rw[sn];rfl)));obtain⟨l1,l2,xs,ys,rfl,sM,tM,q⟩:=q1;obtain⟨u,v,rfl,ru,rv⟩:=qU r1;obtain rfl:u=Value.ref l1:=ru;obtain rfl:v=Value.ref l2:=rv;obtain⟨tN,wA,p1,LG⟩:=I1.list sM;obtain⟨pp,tD,p2,LX⟩:=I1.list tM;have Gs:l1<s1.heap.objs.size:=by obtain⟨_,e,_⟩:=p1.isList;exact cT e
 have GB:l2<s1.heap.objs.size:=by obtain⟨_,e,_⟩:=p2.isList;exact cT e
 refine call_zip_2 p1.isList p2.isList fun h' a1 a2 a3 a4 a5 a6 a7=>wpAny_pyIter_zip a1 ?_;have I2:L2.Inv X bJ U H1 { s1 with heap:=h' }:=I1.kept (t':=s1.toks) a7;refine⟨s1.heap.objs.size+4,[s1.heap.objs.size+4,s1.heap.objs.size+2,s1.heap.objs.size+3,s1.heap.objs.size,s1.heap.objs.size+1],_,_,H1,rfl,I2,ZaT l1 l2 _ _ _ _ _ (kR _ _ _ Gs GB),⟨a1,a2,⟨_,_,a3⟩,a4,a5⟩,fun c hb=>?_,q⟩;have lb:s1.heap.objs.size<=c:=by
  rcases(by simpa using hb:c=s1.heap.objs.size+4\/c=s1.heap.objs.size+2\/c=s1.heap.objs.size+3\/c=s1.heap.objs.size\/c=s1.heap.objs.size+1) with rfl|rfl|rfl|rfl|rfl<;>first|exact mM _ _|exact cP _
 exact I1.fpOk lb (I1.hok.fresh lb)
theorem ZbF{pt:Pos}{a b:Expr}{p:Pos}(hK:X.K=K)(hg:Gl X "zip")(hm:X.mg "zip" = none)(ha:PA X [a,b] ta)(hs:starEach [a,b] X.env=[(false,eval a X.env),(false,eval b X.env)]:=by rfl)(sn:starEach [b] X.env=[(false,eval b X.env)]:=by rfl) :
  PI X (.Tuple rR k1 pt) (.Call (.Name "zip" p) [a,b] [] oj) (Zel K ta):=by subst hK;exact Zc7 hg hm ha hs sn
theorem ZE.take{xs:List V}{us:45}(h:ZE xs us)(k:Nat):ZE (xs.take k) (us.take k):=by
 induction k generalizing xs us with
 |zero=>exact .nil
 |succ k ih=>
  cases h with
  |nil=>exact .nil
  |cons r t=>exact .cons r (ih t)
theorem ZE.drop{xs:List V}{us:45}(h:ZE xs us)(k:Nat):ZE (xs.drop k) (us.drop k):=by
 induction k generalizing xs us with
 |zero=>exact h
 |succ k ih=>
  cases h with
  |nil=>exact .nil
  |cons r t=>exact ih t
theorem ZE.set{xs:List V}{us:45}{y:V}{u:Value}(h:ZE xs us)(ry:Z6 y u)(k:Nat):ZE (xs.set k y) (us.set k u):=by
 induction k generalizing xs us with
 |zero=>
  cases h with
  |nil=>exact .nil
  |cons r t=>exact .cons ry t
 |succ k ih=>
  cases h with
  |nil=>exact .nil
  |cons r t=>exact .cons r (ih t)
theorem Inv.big(I:L2.Inv X bJ U H s):sysModules<s.heap.objs.size:=by
 have h:mainGlobals<s.heap.objs.size:=(I.mod.glob.keeps I.bk).lt;exact i0 61 h
theorem VW{a:Expr}{ta:TE}(hK:X.K=K)(ha:PE X a ta)(he:∀pc,isTrue a X.env pc=(do let v <- pc;standAt a.pos;holding [v] (truthy v))) :
  PT X a (fun U H Q=>ta U H fun x H'=>∃k,ZdJ K x H' k/\Q k H'):=by subst hK;exact ZaP ha he
theorem JX{g:TG}{tb:L2.TS}{D:js}(Pv:Nat->St->Hp->Prop)(h0:Pv 0 U H)(CV:∀i U H,i<n->Pv i U H->J.go i H)(o9:∀U H,Pv n U H->J.stop n H)
  (hs:∀i x U H H2,i<n->Pv i U H->J.yld i H x H2->g x U H2 fun σ2 H3=>tb { D with nx:=Pv (i+1),ct:=Pv (i+1),bk:=D.nx } σ2 H3) (hd:∀U H,Pv n U H->D.nx U H) :
  ∃W:Nat->Nat->St->Hp->Prop,(∃m,W 0 m U H)/\∀i m U H,W i m U H ->
   (J.stop i H/\D.nx U H)\/(J.go i H/\∃N:St->Hp->Prop,(∀σ' H',N σ' H'->∃m',m'<m/\W (i+1) m' σ' H')/\∀x H',J.yld i H x H'->g x U H' fun σ2 H2=>tb { D with nx:=N,ct:=N,bk:=D.nx } σ2 H2):=by
 refine⟨fun i m U H=>m=n-i/\i<=n/\Pv i U H,⟨n,by simp,dH _,h0⟩,?_⟩;rintro i m U H ⟨rfl,hi,p⟩
 by_cases oM:i<n
 ·exact .inr ⟨CV i U H oM p,Pv (i+1),fun σ' H' p'=>⟨n-(i+1),by lia,rfl,oM,p'⟩,fun x H' y=>hs i x U H H' oM p y⟩
 ·have e:i=n:=by lia
  subst e;exact .inl ⟨o9 U H p,hd U H p⟩
theorem xZ(xs:List V)(k:Nat)(h:k<=xs.length):XN xs (some (k:Int)) none=xs.drop k:=by
 unfold XN;rw[HT.sIx_nat,HT.sIx_none,Nat.min_eq_left h];exact nB (by rw[gL];lia)
theorem Km(xs:List V)(k:Nat)(h:k<=xs.length):XN xs none (some (k:Int))=xs.take k:=by
 unfold XN;rw[HT.sIx_nat,HT.sIx_none,Nat.min_eq_left h];simp
theorem Zas(xs:List V):XN xs (some 1) none=xs.drop 1:=by
 cases xs with
 |nil=>rfl
 |cons x r=>exact xZ (x::r) 1 39
theorem zP(xs:List V):XN xs none (some 1)=xs.take 1:=by
 cases xs with
 |nil=>rfl
 |cons x r=>exact Km (x::r) 1 39
theorem Vv{st:Stmt}{ZG:List Stmt}{t u:L2.TS}(h1:PS X st t)(h2:PSs X ZG u):PSs X (st::ZG) (fun D U H=>∃J:St->Hp->Prop,t { D with nx:=J } U H/\∀σ' H',J σ' H'->u D σ' H'):=by
 intro bJ s U H D I h;obtain⟨J,h,hj⟩:=h;refine wpAny_execs_cons (thn (h1 bJ s U H { D with nx:=J } I h) fun f s1 q=>?_);cases f with
 |next=>
  obtain⟨σ',H',I',q⟩:=q;exact h2 bJ s1 σ' H' D I' (hj _ _ q)
 |ret v=>exact q
 |brk=>exact q
 |cont=>exact q
theorem Zbi(ns:70)(lo hi:121):∃zs:70,XN (ns.map V.int) lo hi=zs.map V.int/\zs.length<=ns.length:=by
 unfold XN;refine⟨(ns.drop (HT.sIx (ns.map V.int).length 0 lo)).take (HT.sIx (ns.map V.int).length (ns.map V.int).length hi-HT.sIx (ns.map V.int).length 0 lo),by rw[List.map_take,List.map_drop],?_⟩;rw[dB,gL];lia
theorem jJ:Yy X (.type "str") (fun xs H Q=>(∃i,xs=[.int i]/\i.natAbs.log2<1920/\Q (.str (toString i)) H)\/∃z,xs=[.str z]/\Q (.str z) H):=by
 refine jo.or ?_;intro bJ s U H xs us Q I r h;obtain⟨z,rfl,q⟩:=h;obtain⟨u,rfl,ru⟩:=XU r;obtain⟨t,rfl⟩:=(show ∃t,u=Value.str z t from ru);exact PySem.P.str_of_str ⟨.str z,H,I,⟨_,rfl⟩,q⟩
section
variable{es:List Expr}{vs:List V}{t:TA}
end
def ZcA:Expr->Bool
 |.Starred _ _=>true
 |_=>false
theorem Zdx{es:List Expr}(h:ZcA e=false):starEach (e::es) env=(false,eval e env)::starEach es env:=by
 cases e<;>first|rfl|cases h
theorem ZX{X:Cx}{e:Expr}{es:List Expr}{te:TE}{t:TA}(ha:PE X e te)(hr:PA X es t)(h:ZcA e=false:=by rfl):PA X (e::es) (Wa te t):=Za ha hr (Zdx h)
def Zba(scope sc:Scope):Scope:={ scope with names:=scope.names.map fun(n,k)=>if(k==.free&&sc.kind==.function&&sc.names.lookup n==some .cell) then(n,.cell) else(n,k) }
theorem ZD.ofR{Lz LH sc0:Scope}{N:54}(hs:env.scope=sc0)(h:ZW (Zba Lz sc0) N Nc ix LH=true):ZD (relabel Lz env) N Nc ix LH:=by
 subst hs;exact ZD.of h
inductive Lb where
 |yes
 |sign (s:Str)
 |op (w:Str)
 |wit (m:Int)
 |many (w:Str)
inductive Tr where
 |node (c:Lb) (ks:List Tr)
def W1:54:=["all","some","not","next","always","ever","before","once","sofar"]
def W2:54:=["until","since"]
variable{K:W.Frag}
mutual
def post:Tr->List Tr
 |.node c ks=>Zcx ks++[.node c ks]
def Zcx:List Tr->List Tr
 |[]=>[]
 |t::r=>post t++Zcx r
end
mutual
def Zd4{α:Type}(F:Lb->List α->α):Tr->α
 |.node c ks=>F c (Zeh F ks)
def Zeh{α:Type}(F:Lb->List α->α):List Tr->List α
 |[]=>[]
 |t::r=>Zd4 F t::Zeh F r
end
section
variable{F:Lb->List α->α}
end
inductive ZaE(K:W.Frag)(xs:List V)(H:Hp)(Q:VK):Prop
 |mk (x:_) (h0:xs=[x,.ty "tuple"]) (h1:((∃a ys,x=.ref a/\SqT K H a ys/\Q (.bl true) H)\/∃t,Vl K H x t/\W.kitOne K t (.type "tuple")=some false/\Q (.bl false) H)):ZaE K xs H Q
def rIsT(K:W.Frag):List V->Hp->VK->Prop:=fun xs H Q=>ZaE K xs H Q
theorem yK(hK:X.K=K):Yy X (.builtin "isinstance") (rIsT K):=by
 subst hK;intro bJ s U H xs us Q I r h;obtain⟨x,rfl,h⟩:=h;obtain⟨u,v,rfl,ru,rv⟩:=qU r;obtain rfl:v=Value.type "tuple" := rv;rcases h with⟨a,ys,rfl,hq,q⟩|⟨t,ht,hk,q⟩
 ·obtain rfl:u=Value.ref a:=ru;obtain⟨oi,r,⟨o,h1,h2,h3⟩,hz⟩:=I.tuple hq;exact fX (b:=true) W.kitx_tuple I.kIn ⟨o,h1,h2⟩ rfl (fun z=>nomatch z) fun tk=>⟨.bl true,H,I.tok _,rfl,q⟩
 ·exact vX I ru ht hk fun tk=>⟨.bl false,H,I.tok _,rfl,q⟩
theorem Zq.units2{k:Nat}(r:Zq k A):A.units+195<cLine:=by have:=r.un;lia
def Itv(K:W.Frag)(a:Addr)(n:Nat):It:=
 ⟨fun i H=>i<n/\∃xs,SqL K H a xs/\xs.length=n,fun i H x H'=>H'=H/\∀xs,SqL K H a xs->xs[n-1-i]?=some x,fun i _=>n<=i⟩
theorem Zao(a it:Addr)(n:Nat):xC P w K tg (Itv K a n) [it] it (fun i h=>i<=n/\h.IsRevIter it a ((n:Int)-1-(i:Int))) where
 mem:=by simp
 obj:=fun i h st b hb=>by
  have e:b=it:=by simpa using hb
  subst e;obtain⟨_,o,e,c,d⟩:=st;exact⟨o,e,fun v z=>by rw[d] at z;cases z⟩
 keep:=fun i h h' st k=>⟨st.1,st.2.at fun o e=>k it 39 o e⟩
 item:=by
  intro X hP hw hK hc i bJ s U H E I hf st hg;subst hP hw hK;obtain⟨hi,xs,hq,hn⟩:=hg;obtain⟨oi,rv,p,hz⟩:=I.list hq;have hx:xs[n-1-i]?=some (xs[n-1-i]' 40):=cR 40;obtain⟨u,hu,ru⟩:=rv.get hx;obtain⟨f0,f1,f2,f3,f4,f5⟩:=hf it 39;have e:(n:Int)-1-(i:Int)=((n-1-i:Nat):Int):=by lia
  have rE:=st.2;rw[e] at rE;refine wpAny_pyNext_rev_item rE p.isList (x:=u) (by simpa using hu) fun h' ox sb=>?_;have I1:89 H 49:=I.turned (t':=s.toks) (fun b o hb e=>(sb.2 b hb).trans e) f0 f1 f3 f4 f5;have e2:((n-1-i:Nat):Int)-1=(n:Int)-1-((i+1:Nat):Int):=by lia
  rw[e2] at ox;obtain⟨o,e,c,d⟩:=id ox;exact⟨u,rfl,kO (s:=49) e c d 61 ⟨_,H,I1,ru,⟨rfl,fun ys hy=>by rw[I.list_inj hy hq];exact hx⟩,⟨hi,ox⟩,fun b hb=>(hf b hb).1⟩⟩
 done:=by
  intro X hP hw hK hc i bJ s U H E I hf st hg;subst hP hw hK;have hn:n<=i:=hg;obtain⟨f0,f1,f2,f3,f4,f5⟩:=hf it 39;have e:(n:Int)-1-(i:Int)=-1:=by have:=st.1;lia
  have rE:=st.2;rw[e] at rE;exact wpAny_pyNext_rev_end 124 rE fun h' eb=>⟨rfl,I.turned (t':=s.toks) (fun b o hb e=>eb b o hb e) f0 f1 f3 f4 f5⟩
 self:=fun _ _ _ _ _ st h=>wpAny_pyIter_revIter st.2 h
def iRev(K:W.Frag)(ta:TA):TI:=fun U H R=>ta U H fun vs H1=>∃a xs,vs=[.ref a]/\SqL K H1 a xs/\R (Itv K a xs.length) H1
theorem Zbx{a:Expr}{p:Pos}(hK:X.K=K)(hg:Gl X "reversed")(hm:X.mg "reversed" = none)(ha:PA X [a] ta)(hs:starEach [a] X.env=[(false,eval a X.env)]:=by rfl) :
  PI X tg (.Call (.Name "reversed" p) [a] [] oj) (iRev K ta):=by
 subst hK;intro bJ s U H R I h;refine Call_ (VA I hg hm PyProof.Rows.boot_reversed (iM (thn (ha oj bJ s U H _ I h) fun us s1 ⟨vs,H1,I1,r1,q1⟩=>?_) hs rfl));obtain⟨l,xs,rfl,hq,q⟩:=q1;obtain⟨u,rfl,ru⟩:=XU r1;obtain rfl:u=Value.ref l:=ru;obtain⟨oi,rv,pl,hz⟩:=I1.list hq;have hl:=rv.length;refine call_reversed_list pl.isList ?_;have st:(s1.heap.push (revObj l ((oi.toArray.size:Int)-1))).IsRevIter s1.heap.objs.size l ((xs.length:Int)-1-((0:Nat):Int)):=⟨_,c8 _ rfl,rfl,by
  show Data.fields #[Value.ref l,rawInt ((oi.toArray.size:Int)-1)]=_
  have e:(oi.toArray.size:Int)-1=(xs.length:Int)-1-((0:Nat):Int):=by rw[eM];lia
  rw[e]⟩
 refine wpAny_pyIter_revIter st ?_;refine⟨s1.heap.objs.size,[s1.heap.objs.size],_,_,H1,rfl,I1.kept (t':=s1.toks) fun b o e=>cU _ e,Zao l _ xs.length,⟨dH _,st⟩,fun b hb=>?_,q⟩;have e:b=s1.heap.objs.size:=by simpa using hb
 subst e;exact I1.fpOk (cP _) (I1.hok.fresh (cP _))
abbrev U8:Tr:=.node .yes []
abbrev qG(t:Tr):Tr:=.node (.op "not") [t]
abbrev Zd8(t:Tr):Tr:=.node (.op "next") [t]
abbrev ZeN(t:Tr):Tr:=.node (.op "some") [t]
abbrev ZbR(a b:Tr):Tr:=.node (.many "and") [a,b]
abbrev ZeV(a b:Tr):Tr:=.node (.op "until") [a,b]
abbrev ZeJ(a b:Tr):Tr:=.node (.op "since") [a,b]
def ZeM:List Tr->Tr
 |[]=>U8
 |[x]=>x
 |x::y::r=>ZbR x (ZeM (y::r))
def orT:List Tr->Tr
 |[]=>qG U8
 |[x]=>x
 |x::y::r=>qG (ZbR (qG x) (qG (orT (y::r))))
def Kj:Nat->Tr->Tr->Tr
 |0,_,s=>s
 |n+1,f,s=>qG (ZbR (qG s) (qG (ZbR f (Zd8 (Kj n f s)))))
def coreF(c:Lb)(cs:List Tr):Tr:=match c with
 |.yes=>U8
 |.sign s=>.node (.sign s) []
 |.many w=>if w = "and" then ZeM cs else orT cs
 |.wit m=>Kj m.toNat (cs.getD 0 U8) (cs.getD 1 U8)
 |.op w=>if w = "all" then qG (ZeN (qG (cs.getD 0 U8))) else if w = "ever" then ZeV U8 (cs.getD 0 U8) else if w = "always" then qG (ZeV U8 (qG (cs.getD 0 U8)))
  else if w = "once" then ZeJ U8 (cs.getD 0 U8) else if w = "sofar" then qG (ZeJ U8 (qG (cs.getD 0 U8))) else .node (.op w) cs
def mx(l:List Nat):Nat:=l.foldr max 0
def hgt:Tr->Nat:=Zd4 fun _ hs=>mx hs+1
def Bz:Nat->Nat
 |0=>1
 |n+1=>11*Bz n+35
theorem xi(xs:List V)(h:0<xs.length):XN xs none (some (-1))=xs.take (xs.length-1):=by
 unfold XN;have e1:HT.sIx xs.length 0 none=0:=rfl;have e2:HT.sIx xs.length xs.length (some (-1))=xs.length-1:=by unfold HT.sIx;simp;lia
 rw[e1,e2];simp
end L3
namespace L2
open PySem PySem.Spec PyProof.Rows
section
variable(P:Program)(w:World)
end
section
variable{x e:Addr}{o':HO}
end
section
variable{fs Hz ex Rx:List Addr}{H2:Hp}{h1 h2:Heap}{x e:Addr}
end
section
variable{U:List (Option V)}
end
section
variable{a b:Expr}{ta tb:TE}
variable{tA DR:TT}{ZG:List Expr}
end
section
variable{xs ys:List V}
end
section
variable{st:Stmt}{ZG:List Stmt}{t u:TS}
end
section
variable{a b c:Expr}{ta tb tc:TE}
end
section
variable{a b c:Expr}{ta tb tc:TE}
end
section
variable{x f:Addr}{name:Str}{v:Value}
end
section
variable{fs Hz:List (Str×V)}
end
section
variable{fs:List (Str×V)}{f:Str}
end
section
variable{o oB:Expr}{f:Str}{EJ:Pos}{ta:TE}
end
section
variable{c:Value}{b:Bool}
end
section
variable{es:List Expr}{t:TA}
end
section
variable{k:Nat}{f:Addr}{pX:List V}{ds:List Value}{E:XK}{x m:Str}{p apos:Pos}{o:Expr}{es:List Expr}{ta:TE}{t:TA}
end
section
variable{k:Nat}{f:Addr}{ks:List Str}{E:XK}{x m:Str}{p apos ID:Pos}{o:Expr}{es:List Expr}{SH:List Keyword}{ta:TE}{t tk:TA}{nm:Option Str}
variable{g:List Value->List Value->List Value}{gV:List V->List V->List V}
end
section
variable{x:Str}{p:Pos}{es:List Expr}{t:TA}{id:String}{r:List V->Hp->VK->Prop}
end
section
variable{κ:Type}[DecidableEq κ]
theorem U3.isSome_eq{o:69}{u:67}(r:U3 o u):o.isSome=u.isSome:=by
 cases o with
 |none=>cases u with
  |none=>rfl
  |some _=>exact(show False from r).elim
 |some _=>cases u with
  |none=>exact(show False from r).elim
  |some _=>rfl
end
theorem ZeW{k:Key}{u:Value}(r:Z6 (kV k) u):(Zv P w).is k u=true:=by
 cases k with
 |inl i=>obtain⟨t,e⟩:=(show ∃t,u=Value.int i t from r);subst e;exact jZ P w i t
 |inr x=>obtain⟨t,e⟩:=(show ∃t,u=Value.str x t from r);subst e;exact kh P w x t
theorem vf{P:Program}{w:World}:∀{ks:List Key}{us:45},ZE (ks.map kV) us->ItemsAre (Zv P w) ks us
 |[],_,r=>by rw[List.map_nil] at r;cases r;exact .nil
 |k::ks,_,r=>by
  rw[dD] at r;cases r with
  |cons h t=>exact .cons (ZeW h) (vf t)
section
variable{y:V}{u r:Value}{o:Option V}
theorem Inv.big(I:43):sysModules<s.heap.objs.size:=by
 have h:mainGlobals<s.heap.objs.size:=(I.mod.glob.keeps I.bk).lt;exact i0 61 h
theorem je{ob:HO}(I:43)(mu:Mut (H a))(hs:Heap.SameBut a s.heap h')(he:∃q,h'.get? a=some q)(new:Y9 X.prog X.w (upd H a ob) h' a ob) :
  89 (upd H a ob) 117:=
 I.write (x:=a) (e:=a) mu (.inl rfl) (fun b q hb z=>(hs.2 b hb).trans z) he new
end
section
variable{kvs:List (Key×V)}{k:Key}{u:Value}
end
def Zeo(i:Expr):Prop:=∀ov iv,subscripted i false ov iv=operate [ov,iv] (getItem ov iv)
theorem Zbv{oB pf:Expr}{id:String}
  (hl:typeLookup (.type T) "__getitem__" = pure (some (.builtin id))) (hs:Zeo pf)
  (h:36 (eval oB env) (fun o s₁=>36 (eval pf env) (fun i s₂=>s₂.TypeIs o T/\36 (getItem o i) Q E s₂) E s₁) E s) :
  36 (eval (.Subscript oB pf oj) env) Q E s:=by
 refine Subscript_ (ft h (fun o s₁ h₁=>ft h₁ (fun i s₂ h₂=>?_) fun _ _ x=>x) fun _ _ x=>x);obtain⟨hT,h₂⟩:=h₂;unfold subscriptTail;refine cN ?_;rw[getitemInPython_of_ne hT.not_modules];refine cN (gf hT hl ?_);have fin:36 (subscripted pf false o i) (fun r s₃=>36 (letTemporaryGo oB o r >>= fun _=>pure r) Q E s₃) E s₂:=by
  rw[hs o i];exact wpAny_operating (ft h₂ (fun r s₃ h₃=>cN (wpAny_letTemporaryGo (cO h₃))) fun _ _ x=>x)
 first
  |exact cO (cN fin)
  |exact cN (cO (cN fin))
  |exact cN fin
section
variable{o i oB:Expr}{EJ:Pos}{ty:TE}
end
structure M1(X:Cx)(o:Expr)(m:Str)(apos:Pos)(e:Expr)(cpos:Pos):Prop where
 base:attributeBase o m X.env (eval o X.env)=eval o X.env
 few:((backTo cpos (starEach [e] X.env)).all (fun x=>!x.1)&&(backToKw cpos (keywordEach [] X.env)).all (fun x=>x.1.isSome) && decide (([e]:List Expr).length+([]:List Keyword).length+(if([]:List Keyword).isEmpty then 0 else 1)<30))=true
 line:(apos.endLine==cpos.line)=true
 trees:backTo cpos (starEach [e] X.env)=[111]
structure M2(X:Cx)(o:Expr)(m:Str)(apos:Pos)(e f:Expr)(cpos:Pos):Prop where
 base:attributeBase o m X.env (eval o X.env)=eval o X.env
 few:((backTo cpos (starEach [e,f] X.env)).all (fun x=>!x.1)&&(backToKw cpos (keywordEach [] X.env)).all (fun x=>x.1.isSome) && decide (([e,f]:List Expr).length+([]:List Keyword).length+(if([]:List Keyword).isEmpty then 0 else 1)<30))=true
 line:(apos.endLine==cpos.line)=true
 trees:backTo cpos (starEach [e,f] X.env)=[111,(false,eval f X.env)]
section
variable{y d:V}{u r:Value}{o:Option V}
end
section
variable{o f:Expr}{apos cpos:Pos}{ty tx:TE}
end
section
variable{kvs:List (Key×V)}
end
section
variable{y:V}{u:Value}
end
end L2
namespace Att
open PySem PySem.W PySem.Calls PyProof.Rows
section
variable{K:Frag}
end
end Att
namespace L2
open PySem PySem.Spec PyProof.Rows
section
variable{κ:Type}[DecidableEq κ]
end
end L2
namespace L3
open PySem PySem.Spec PyProof.Rows L2
def Zdf(K:W.Frag)(neg:Bool):R2:=fun x y H Q=>∃ds d,Dp K H y (.list ds)/\Dp K H x d/\PyData.canLayAll0 ds=true/\d.canLay0=true/\d.depth<=190/\Q (.bl (if neg then !(ds.any fun z=>PyData.eqv z d) else ds.any fun z=>PyData.eqv z d)) H
theorem VZ(hK:X.K=K)(hu:X.A.units+195<cLine):OpR X (compareOp .NotIn) (Zdf K true):=by
 subst hK;intro bJ s U H x y u v Q I rx ry h;obtain⟨ds,d,hy,hx,c1,c2,dp,q⟩:=h;obtain⟨as,a⟩:=hy.reads I ry;obtain⟨bs,b⟩:=hx.reads I rx;exact SeqAt.notIn_list_reads a b c1 c2 (by have:=Nat.min_le_right (PyData.depthAll ds) d.depth;lia) ⟨.bl _,H,I,rfl,q⟩
def ZT(H H':Hp):Prop:=∀a xs,H a=some (.tup xs)->H' a=some (.tup xs)
theorem Zd.u(s:77):ZT H H':=fun a xs e=>s _ _ e
def nJ:=@Zd.u
theorem Zm.u(s:Zm p H H')(hp:H p=some o)(ho:∀xs,o≠.tup xs):ZT H H':=fun a xs e=>s _ _ (fun z=>by rw[z,hp] at e;cases e;exact ho _ rfl) e
section
variable{U:L3.St}{y:V}{u r:Value}{o:Option V}
theorem ZbK{ks:List Key}(I:L2.Inv X bJ U H s)(e:SqT X.K H b (ks.map kV)):(tupleKind (Zv X.prog X.w)).is s.heap ks b:=by
 obtain⟨oi,r,t,_⟩:=I.tuple e;obtain⟨o,h1,h2,n,h3⟩:=t;exact⟨o,oi.toArray,n,h1,h2,h3,by simpa using vf r⟩
end
section
variable{o i oB:Expr}{ty:TE}
end
open PySem.W
def isB:Bool->Value->Bool
 |b,.bool c=>b==c
 |_,_=>false
theorem XE{b:Bool}{v:Value}(h:isB b v=true):v=.bool b:=by
 cases v<;>simp_all [isB]
def Ke(b:Bool):Int:=if b then 1 else 0
theorem jB{b:Bool}{Q:Int->41}(h:Q (Ke b) 104) :
  36 (pyHash (.bool b)) Q E s:=by
 unfold pyHash;have hv:[Value.bool b].any Value.onHeap=false:=rfl;refine cN ?_;rw[cRoomFor,n8 (by rw[hv];exact dQ)];refine cO ?_;have hT:s.TypeIs (.bool b) "bool" := rfl;refine cN (gf hT i4.lookup ?_)
 show 50 (if(some (Value.builtin "int.__hash__")==some Value.none)=true then _ else _) Q E s
 rw[n8 (by rw[beq_builtin_none];exact dQ)];refine cN (gf hT i4.lookup ?_)
 show 50 (callSpecialIfBoundUnlessNone? (.bool b) "__hash__" _ >>= _) Q E s
 cases b
 ·refine cN (wpAny_callSpecialIfBoundUnlessNone?_slot hT i4 (eE i4 hT entry_int_hash (show 50 (do ret (<- mkInt 0)) _ _ s from wpAny_ret_mkInt ?_) (args_int_hash _)))
  exact cO h
 ·refine cN (wpAny_callSpecialIfBoundUnlessNone?_slot hT i4 (eE i4 hT entry_int_hash (show 50 (do ret (<- mkInt 1)) _ _ s from wpAny_ret_mkInt ?_) (args_int_hash _)))
  exact cO h
def UW(prog:Program)(w:World):KeyKind prog w Bool where
 is:=isB
 hash:=Ke
 inj:=fun v a b ha hb=>by rw[XE ha] at hb;have:=XE hb;injection this
 byValue:=fun k v h=>by rw[XE h];rfl
 pyHash:=fun hv h=>by rw[XE hv];exact jB h
 eqBool:=fun {A E s a b u v Q} hu hv h=>by
  rw[XE hu,XE hv];refine PySem.SeqAt.EqAt.bool_bool a b prog w E Q ?_;have e:(a==b)=decide (a=b):=by cases a<;>cases b<;>rfl
  rw[e];exact h
 «strs» := fun k x t v h=>by simp[isB] at h
section
variable{prog:Program}{w:World}{K1 K2:Type}[DecidableEq K1][DecidableEq K2](k1:KeyKind prog w K1)(k2:KeyKind prog w K2)
def UJ(h:Heap)(x:K1×List K2)(a:Addr):Prop:=∃o v b n,h.get? a=some o/\o.cls=.type "tuple" /\ o.data=.seq #[v,.ref b] n/\k1.is x.1 v=true/\IsTupleKey k2 h x.2 b
variable{k1 k2}
theorem UJ.typeIs{x:K1×List K2}(y:UJ k1 k2 s.heap x a):s.TypeIs (.ref a) "tuple" := let ⟨o,_,_,_,ho,hc,_⟩:=y; ⟨o,ho,hc⟩
theorem UJ.inj{h:Heap}{a:Addr}{x y:K1×List K2}(hx:UJ k1 k2 h x a)(hy:UJ k1 k2 h y a):x=y:=by
 obtain⟨o,v,b,n,ho,_,hd,h1,h2⟩:=hx;obtain⟨o',v',b',n',sT,_,pF,uV,A1⟩:=hy;obtain rfl:o=o':=eZ (ho.symm.trans sT);rw[hd] at pF;injection pF with e _;injection e with e;injection e with e1 e2;injection e2 with e2 _;injection e2 with e2;subst e1;subst e2;exact Prod.ext (k1.inj _ _ _ h1 uV) (h2.inj A1)
theorem UJ.keeps{h h':Heap}{x:K1×List K2}{a d:Addr}{o:Obj}{es ep}(y:UJ k1 k2 h x a)(ho:h.get? d=some o)(hd:o.data=.dict es ep)(hs:Heap.SameBut d h h'):UJ k1 k2 h' x a:=by
 obtain⟨o',v,b,n,sT,hc,pF,h1,h2⟩:=y;have oF:a≠d:=by
  rintro rfl;obtain rfl:o'=o:=eZ (sT.symm.trans ho);rw[hd] at pF;exact nomatch pF
 exact⟨o',v,b,n,(hs.2 a oF).trans sT,hc,pF,h1,h2.keeps ho hd hs⟩
def Za7(k1:KeyKind prog w K1)(k2:KeyKind prog w K2)(x:K1×List K2):Int:=reduceHash (Builtin.Tuple.tupleHashOf [k1.hash x.1,tupleKeyHash k2 x.2])
variable{A:Around}{E:Value->Shared->Prop}{s:Shared}
theorem QL{x:K1×List K2}{Q:Int->41}(hu:A.units+1<cLine)(hk:UJ k1 k2 s.heap x a)(h:Q (Za7 k1 k2 x) { s with toks:=s.toks+(x.2.length+3) }) :
  36 (pyHash (.ref a)) Q E s:=by
 have hT:=hk.typeIs;obtain⟨o,v,b,n,ho,_,hd,h1,h2⟩:=hk;refine pyHash_slot (T := "tuple") hT F.slot_tuple_hash F.entry_tuple_hash (F.args_tuple_hash_1 _) (beq_builtin_none _) (.inr 40) ?_
 show 50 (Builtin.Tuple.tupleItemsOf (.ref a) >>= _) _ _ s
 refine cN (iC ho hd ?_);refine cN ?_;rw[<- iE]
 show 50 (forIn [v,Value.ref b] _ _) _ _ s
 rw[gM];refine cN (cN (k1.pyHash h1 ?_))
 first
  |refine cO ?_
  |refine cN (cO (cO ?_))
 show 50 (forIn [Value.ref b] _ _) _ _ _
 rw[gM];refine cN (cN (wpAny_pyHash_tuple (knd:=k2) (ks:=x.2) (by simp only[gX];lia) h2 ?_))
 first
  |refine cO ?_
  |refine cN (cO (cO ?_))
 show 50 (forIn ([]:45) _ _) _ _ _
 rw[i5];refine cO ?_
 show 50 (retInt (Builtin.Tuple.tupleHashOf [k1.hash x.1,tupleKeyHash k2 x.2])) _ _ _
 refine cN (wpAny_mkInt (cO ⟨_,_,rfl,?_⟩));have e:s.toks+(x.2.length+3)=s.toks+1+(x.2.length+1)+1:=by lia
 rw[e] at h;exact h
theorem JV{x y:K1×List K2}{P:Fin->41}(hu:A.units<cLine)(hx:UJ k1 k2 s.heap x a)(hy:UJ k1 k2 s.heap y b)(h:P (.done (.ret (.bool (decide (x=y))))) s) :
  36 (Builtin.«tuple.__eq__» ⟨[.ref a,.ref b],[]⟩) P E s:=by
 have Da:=hy.typeIs;obtain⟨oa,u,p,na,rY,_,sj,EQ,CP⟩:=hx;obtain⟨ob,v,q,nb,rP,_,pI,SS,CJ⟩:=hy;have hd:decide (x=y)=(decide (x.1=y.1)&&decide (x.2=y.2)):=by
  obtain⟨x1,x2⟩:=x;obtain⟨y1,y2⟩:=y
  by_cases e1:x1=y1<;>by_cases e2:x2=y2<;>simp[e1,e2]
 show 50 (isInstance (.ref b) (.type "tuple") >>= _) _ _ s
 refine cN (fH Da iQ ?_);simp only[dM,c6,cX];refine cN (iC rY sj ?_);refine cN (iC rP pI ?_);refine cN ?_
 show 50 (forIn [(u,v),(Value.ref p,Value.ref q)] _ _) _ _ s
 rw[gM];refine cN (cN (k1.eqBool (a:=x.1) (b:=y.1) EQ SS ?_))
 by_cases e1:x.1=y.1
 ·rw[dy e1];simp only[dM,c6,cX];refine cO ?_
  show 50 (forIn [(Value.ref p,Value.ref q)] _ _) _ _ s
  rw[gM];refine cN (cN (wpAny_eqBool_tuple (knd:=k2) hu CP CJ ?_))
  by_cases e2:x.2=y.2
  ·rw[dy e2];simp only[dM,c6,cX];refine cO ?_
   show 50 (forIn ([]:List (Value×Value)) _ _) _ _ s
   rw[i5];refine cO (cO ?_);rw[hd,dy e1,dy e2] at h;exact h
  ·rw[dZ e2];simp only[gP,dq];rw[hd,dZ e2,iA] at h;exact cN (cO (cO (cO (cO h))))
 ·rw[dZ e1];simp only[gP,dq];rw[hd,dZ e1,gu] at h;exact cN (cO (cO (cO (cO h))))
theorem KM{x y:K1×List K2}{Q:Bool->41}(hu:A.units+1<cLine)(hx:UJ k1 k2 s.heap x a)(hy:UJ k1 k2 s.heap y b)(h:Q (decide (x=y)) s) :
  36 (eqBool (.ref a) (.ref b)) Q E s:=by
 unfold eqBool
 try with_reducible refine dh ?_
 show 50 (if(Value.ref a==Value.ref b)=true then _ else _) Q E s
 by_cases hab:(Value.ref a==Value.ref b)=true
 ·rw[og hab];have e:a=b:=by have:=eq_of_beq hab;injection this
  subst e;obtain rfl:=hx.inj hy;exact cN (eN (cO (by simpa using h)))
 ·rw[n8 hab];exact cN (lG (op:=.Eq) hx.typeIs hy.typeIs ie (eE ie hx.typeIs F.entry_tuple_eq (JV (by simp only[gX];lia) hx hy ⟨_,rfl,(fun e=>nomatch e),fQ h⟩) (F.args_tuple_eq_2 _ _)) 40)
theorem jt{ks:List K2}{Q:Bool->41}(n:Nat)(hk:IsTupleKey k2 s.heap ks a)(h:Q true s):36 (eqIsQuiet (n+1) (.ref a)) Q E s:=by
 have hT:=hk.typeIs;obtain⟨o,items,n,ho,_,hd,hi⟩:=hk;unfold eqIsQuiet;refine cN (gf hT ie.lookup ?_)
 show 50 (isInstance (.ref a) (.type "tuple") >>= _) _ _ s
 refine cN (fH hT iQ ?_);simp only[dM,c6,cX];refine cN (fT ho hd ?_);refine cN ?_
 show 50 (forIn items _ _) _ _ s
 rw[<- iE];refine gc _ (fun ZG r s'=>r.1=none/\s'=s/\∀v∈ZG,carriedByValue v=true) _ ?_ ?_ _ _ ⟨rfl,rfl,hi.byValue⟩
 ·rintro v ZG r s' ⟨hr,rfl,oZ⟩;rw[eqIsQuiet_byValue _ (oZ v dC)];refine cN (cO ?_);simp only[dM,c6,cX];exact cO ⟨rfl,rfl,fun u wL=>oZ u (c7 _ wL)⟩
 ·rintro⟨r1,r2⟩ s' ⟨hr,rfl,_⟩;simp only at hr;subst hr;exact cO h
theorem Q5{x:K1×List K2}{Q:Bool->41}(hk:UJ k1 k2 s.heap x a)(h:Q true s):36 (eqIsQuiet 8 (.ref a)) Q E s:=by
 have hT:=hk.typeIs;obtain⟨o,v,b,n,ho,_,hd,h1,h2⟩:=hk;unfold eqIsQuiet;refine cN (gf hT ie.lookup ?_)
 show 50 (isInstance (.ref a) (.type "tuple") >>= _) _ _ s
 refine cN (fH hT iQ ?_);simp only[dM,c6,cX];refine cN (fT ho hd ?_);refine cN ?_;rw[<- iE]
 show 50 (forIn [v,Value.ref b] _ _) _ _ s
 rw[gM,eqIsQuiet_byValue _ (k1.byValue _ _ h1)];refine cN (cN (cO ?_));simp only[dM,c6,cX];refine cO ?_
 show 50 (forIn [Value.ref b] _ _) _ _ s
 rw[gM];refine cN (cN (jt 6 h2 ?_));simp only[dM,c6,cX];refine cO ?_
 show 50 (forIn ([]:45) _ _) _ _ s
 rw[i5];exact cO (cO h)
end
def ZcW{K1 K2:Type}[DecidableEq K1][DecidableEq K2](k1:KeyKind prog w K1)(k2:KeyKind prog w K2):HeapKind prog w (K1×List K2) where
 is:=UJ k1 k2
 hash:=Za7 k1 k2
 draws:=fun x=>x.2.length+3
 room:=fun A=>A.units+1<cLine
 inj:=fun hx hy=>hx.inj hy
 keeps:=fun x ho hd hs=>x.keeps ho hd hs
 pyHash:=fun hu hk h=>QL hu hk h
 eqBool:=fun hu hx hy h=>KM hu hx hy h
 quiet:=fun hk h=>Q5 hk h
theorem vb{β:Type}{xs:List (α×β)}(hn:(xs.map (·.1)).Nodup){i:Nat}{x y:α×β}(hi:xs[i]?=some x)(hj:xs[j]?=some y)(e:x.1=y.1):i=j:=by
 induction xs generalizing i j with
 |nil=>simp at hi
 |cons z r ih=>
  rw[dD,fY] at hn;have mem:∀{k:Nat}{u:α×β},r[k]?=some u->u.1∈r.map (·.1):=fun h=>da.mpr ⟨_,cY h,rfl⟩;cases i with
  |zero=>
   cases j with
   |zero=>rfl
   |succ j=>
    have oR:z=x:=by simpa using hi
    have tU:r[j]?=some y:=by simpa using hj
    exact oh (mem tU) (by rw[<- e,<- oR];exact hn.1)
  |succ i=>
   have oR:r[i]?=some x:=by simpa using hi
   cases j with
   |zero=>
    have tU:z=y:=by simpa using hj
    exact oh (mem oR) (by rw[e,<- tU];exact hn.1)
   |succ j=>rw[ih hn.2 oR (by simpa using hj)]
structure WR(prog:Program)(w:World)(D:Type)[DecidableEq D] where
 is:Heap->D->Value->Prop
 hash:D->Int
 room:Around->Prop
 quiet:Bool
 pyHash:∀{A:Around}{E:Value->41}{s:Shared}{k:D}{v:Value}{Q:Int->41},room A->is s.heap k v->(∀tk,Q (hash k) { s with toks:=tk })->36 (PySem.pyHash v) Q E s
 find:∀{A:Around}{E:Value->41}{s:Shared}{d:Addr}{o:Obj}{es:Array DictEntry}{ep:Nat}{xs:List (D×Value×Value)}{k:D}{u:Value}{Q:68->41},room A->is s.heap k u ->
  s.heap.get? d=some o->o.data=.dict es ep->es.toList=xs.map (fun x=>⟨hash x.1,x.2.1,x.2.2⟩)->(∀x∈xs,is s.heap x.1 x.2.1)->(xs.map (·.1)).Nodup ->
  ((∀x∈xs,x.1≠k)->Q none s)->(∀j x,xs[j]?=some x->x.1=k->Q (some j) s)->36 (dictFind d u (hash k)) Q E s
 eqq:∀{A:Around}{E:Value->41}{s:Shared}{k:D}{v:Value}{Q:Bool->41},is s.heap k v->Q quiet s->36 (Builtin.Dict.quietEq v) Q E s
section
variable{prog:Program}{w:World}{K:Type}[DecidableEq K]
def ZaZ(knd:KeyKind prog w K):WR prog w K where
 is:=fun _ k v=>knd.is k v=true
 hash:=knd.hash
 room:=fun _=>True
 quiet:=true
 pyHash:=fun _ h q=>knd.pyHash h (q _)
 find:=fun {A E s d o es ep xs k u Q} _ hu ho hd he oV hn pb pZ=>by
  have AM:∀e∈es,∃x∈xs,e=(⟨knd.hash x.1,x.2.1,x.2.2⟩:DictEntry):=fun e hm=>by
   have:e∈es.toList:=by simpa using hm
   rw[he] at this;obtain⟨x,hx,e1⟩:=da.mp this;exact⟨x,hx,e1.symm⟩
  refine wpAny_dictFind_of hu ho hd (fun e hm=>?_) ?_
  ·obtain⟨x,hx,rfl⟩:=AM e hm;exact⟨x.1,oV x hx,rfl⟩
  ·cases hf:es.findIdx? fun e=>knd.is k e.key with
   |none=>
    refine pb fun x hx ek=>?_;have:=Array.findIdx?_eq_none_iff.mp hf (⟨knd.hash x.1,x.2.1,x.2.2⟩:DictEntry) (by
     have:(⟨knd.hash x.1,x.2.1,x.2.2⟩:DictEntry)∈es.toList:=by rw[he];exact da.mpr ⟨x,hx,rfl⟩
     simpa using this)
    have h2:=oV x hx;rw[ek] at h2;simp only[h2] at this;cases this
   |some j=>
    have hl:(es.toList.findIdx? fun e=>knd.is k e.key)=some j:=by rw[<- hf];obtain⟨l⟩:=es;simp
    obtain⟨hj,hp,_⟩:=mJ.mp hl;have Ib:j<xs.length:=by rw[he,cS] at hj;exact hj
    have BI:knd.is k xs[j].2.1=true:=by
     have:es.toList[j].key=xs[j].2.1:=by
      have:es.toList[j]?=some (⟨knd.hash xs[j].1,xs[j].2.1,xs[j].2.2⟩:DictEntry):=by rw[he,dz,cR Ib];rfl
      rw[cR hj] at this;rw[eZ this]
     rw[<- this];exact hp
    exact pZ j xs[j] (cR Ib) (knd.inj _ _ _ (oV _ (gE Ib)) BI)
 eqq:=fun {A E s k v Q} h q=>by
  have hb:=knd.byValue k v h;unfold Builtin.Dict.quietEq;cases v with
  |ref a=>cases hb
  |_=>exact cO q
def zt:Value->Addr
 |.ref a=>a
 |_=>0
def KH(knd:HeapKind prog w K)(hT:∀{s:Shared}{k:K}{a:Addr},knd.is s.heap k a->s.TypeIs (.ref a) "tuple"):WR prog w K where
 is:=fun h k v=>∃a,v=.ref a/\knd.is h k a
 hash:=knd.hash
 room:=knd.room
 quiet:=false
 pyHash:=fun {A E s k v Q} hr h q=>by
  obtain⟨a,rfl,ha⟩:=h;exact knd.pyHash hr ha (q _)
 find:=fun {A E s d o es ep xs k u Q} hr hu ho hd he oV hn pb pZ=>by
  obtain⟨a,rfl,ha⟩:=hu;refine wpAny_dictFind_heap (xs:=xs.map fun x=>(x.1,zt x.2.1,x.2.2)) hr ha ho hd ?_ ?_ ?_ ?_ ?_
  ·rw[he,fV];apply lV;intro x hx;obtain⟨b,eb,_⟩:=oV x hx;simp only[ι,entryOfKey,eb,zt]
  ·intro x hx;obtain⟨y,hy,rfl⟩:=da.mp hx;obtain⟨b,eb,hb⟩:=oV y hy;simp only[eb,zt];exact hb
  ·rw[fV];exact hn
  ·intro h;refine pb fun x hx ek=>?_;obtain⟨j,hj,e⟩:=fo hx;refine h j (zt x.2.1,x.2.2) ?_;rw[dz,cR hj,e,<- ek];rfl
  ·intro j p hj;rw[dz] at hj;obtain⟨x,e1,e2⟩:=fE.mp hj;exact pZ j x e1 (dt Prod.fst e2)
 eqq:=fun {A E s k v Q} h q=>by
  obtain⟨a,rfl,ha⟩:=h;unfold Builtin.Dict.quietEq;refine cN (gf (hT ha) ie.lookup (cO ?_));exact q
end
section
variable{D:Type}[DecidableEq D](knd:WR prog w D)
def Xe(h:Heap)(d:Addr)(xs:List (D×Value×Value)):Prop:=
 ∃o es ep,h.get? d=some o/\o.ExactDict/\o.data=.dict es ep/\es.toList=xs.map (fun x=>⟨knd.hash x.1,x.2.1,x.2.2⟩)/\(xs.map (·.1)).Nodup
def zk(xs:List (D×Value×Value))(k:D):67:=(xs.find? fun x=>decide (x.1=k)).map (·.2.2)
def zR(xs:List (D×Value×Value))(k:D)(u v:Value):List (D×Value×Value):=if(xs.any fun x=>decide (x.1=k))=true then xs.map (fun x=>if x.1=k then(x.1,x.2.1,v) else x) else xs++[(k,u,v)]
variable{knd}{d:Addr}{xs:List (D×Value×Value)}{k:D}{u v:Value}
theorem Xe.typeIs(m:Xe knd s.heap d xs):s.TypeIs (.ref d) "dict" := let ⟨o,_,_,h1,h2,_⟩:=m; ⟨o,h1,h2.1⟩
theorem Qe(h:∀x∈xs,x.1≠k):zk xs k=none:=by
 unfold zk;rw[mF.mpr fun x hx=>by simpa using h x hx];rfl
theorem QI{x:D×Value×Value}(hn:(xs.map (·.1)).Nodup)(hj:xs[j]?=some x)(hx:x.1=k):zk xs k=some x.2.2:=by
 induction xs generalizing j with
 |nil=>simp at hj
 |cons y r ih=>
  rw[dD,fY] at hn;unfold zk;cases j with
  |zero=>
   simp at hj;subst hj;rw[iu (by simpa using hx)];rfl
  |succ j=>
   have tU:r[j]?=some x:=by simpa using hj
   have:y.1≠k:=fun e=>hn.1 (by rw[e,<- hx];exact da.mpr ⟨x,cY tU,rfl⟩);rw[gS (by simpa using this)];exact ih hn.2 tU
theorem Zaa{Q:67->41}(hr:knd.room A)(hu:knd.is s.heap k u)(m:Xe knd s.heap d xs)(oV:∀x∈xs,knd.is s.heap x.1 x.2.1)(h:∀tk,Q (zk xs k) { s with toks:=tk }):36 (dictGet d u) Q E s:=by
 obtain⟨o,es,ep,ho,_,hd,he,hn⟩:=m;unfold dictGet
 try with_reducible refine dh ?_
 refine cN (knd.pyHash hr hu fun tk=>cN (knd.find (s:={ s with toks:=tk }) hr hu ho hd he oV hn ?_ ?_))
 ·intro wc;have:=h tk;rw[Qe wc] at this;exact cO this
 ·intro j x hj hx;have:=h tk;rw[QI hn hj hx] at this;refine cN (fP (s:={ s with toks:=tk }) ho hd ?_);have e:es[j]?=some (⟨knd.hash x.1,x.2.1,x.2.2⟩:DictEntry):=by rw[<- fj,he,dz,hj];rfl
  rw[e];exact cO this
theorem JA{r:Value}(hr:knd.room A.in1)(hu:knd.is s.heap k u)(m:Xe knd s.heap d xs)(oV:∀x∈xs,knd.is s.heap x.1 x.2.1)(hv:zk xs k=some r)(h:∀tk,Q r { s with toks:=tk }) :
  36 (getItem (.ref d) u) Q E s:=by
 unfold getItem
 try with_reducible refine dh ?_
 refine cN (wpAny_sequenceKey m.typeIs 61 ?_);refine cN (gh (name:=Str.ofString "__getitem__") m.typeIs slot_dict_getitem (eE slot_dict_getitem m.typeIs entry_dict_getitem ?_ (args_dict_getitem _ _)))
 show 50 (dictGet d u >>= _) _ _ s
 refine cN (Zaa hr hu m oV fun tk=>?_);rw[hv];exact cO ⟨r,rfl,cO (h tk)⟩
theorem qZ{Q:Bool->41}(hr:knd.room A.in1)(hu:knd.is s.heap k u)(hs:(d==sysModules)=false)(m:Xe knd s.heap d xs)(oV:∀x∈xs,knd.is s.heap x.1 x.2.1)(h:∀tk,Q (zk xs k).isSome { s with toks:=tk }) :
  36 (contains (.ref d) u) Q E s:=by
 unfold contains
 try with_reducible refine dh ?_
 refine cN (gf m.typeIs slot_dict_contains.lookup ?_)
 show 50 (if(some (Value.builtin "dict.__contains__")==some Value.none)=true then _ else _) _ E s
 rw[n8 (by rw[beq_builtin_none];exact dQ)];refine cN (wpAny_callSpecialUnlessNone?_slot (name:=Str.ofString "__contains__") m.typeIs slot_dict_contains (eE slot_dict_contains m.typeIs entry_dict_contains ?_ (args_dict_contains _ _)))
 show 50 (dictGet d u >>= _) _ _ s
 refine cN (Zaa hr hu m oV fun tk=>?_);have h:=h tk;cases hf:zk xs k with
 |some p=>
  rw[hf] at h
  show 50 (ret (.bool true)) _ _ _
  exact cO ⟨_,rfl,fQ h⟩
 |none=>
  rw[hf] at h
  show 50 (Builtin.Dict.pendingKey? d u >>= _) _ _ _
  exact cN (wpAny_pendingKey_other hs (cO ⟨_,rfl,fQ h⟩))
theorem ZaN(hr:knd.room A.in1)(hu:knd.is s.heap k u)(hs:(d==sysModules)=false)(m:Xe knd s.heap d xs)(oV:∀x∈xs,knd.is s.heap x.1 x.2.1)(h:∀tk,Q (.bool (!(zk xs k).isSome)) { s with toks:=tk }) :
  36 (compareOp .NotIn u (.ref d)) Q E s:=by
 show 50 (do return .bool (!(<- contains (.ref d) u))) Q E s
 exact cN (qZ hr hu hs m oV fun tk=>cO (h tk))
theorem Vh{Q:Unit->41}(hr:knd.room A)(hu:knd.is s.heap k u)(m:Xe knd s.heap d xs)(oV:∀x∈xs,knd.is s.heap x.1 x.2.1)
  (hQ:∀h',Xe knd h' d (zR xs k u v)->Heap.SameBut d s.heap h'->Q () 49) (pj:xs.length<=sizeLine) :
  36 (dictSetHashed d u (knd.hash k) v) Q E s:=by
 obtain⟨o,es,ep,ho,hc,hd,he,hn⟩:=m;have AM:es.size<=sizeLine:=by
  have:=dt ζ he;rw[cS,dj] at this;lia
 unfold dictSetHashed
 try with_reducible refine dh ?_
 refine cN (knd.find hr hu ho hd he oV hn ?_ ?_)
 ·intro wc;have ha:¬(xs.any fun x=>decide (x.1=k))=true:=by
   rw[fD];rintro⟨x,hx,e⟩;exact wc x hx (dE e)
  refine cN (eN (wpAny_updateDictKeys (hz:=AM) ho hd (hQ _ ⟨_,_,ep+1,fO _ ho (Obj.isFreed_of_dict (mQ hd _)),hc.mapDictKeys _,mQ hd _,?_,?_⟩ (fI ..))))
  ·unfold zR;rw[n8 ha];simp[he]
  ·unfold zR;rw[n8 ha];rw[eO,fy];refine⟨hn,by simp,fun x hx y hy e=>?_⟩;simp only[dD,List.map_nil,df] at hy;subst hy;subst e;obtain⟨z,hz,e⟩:=da.mp hx;exact wc z hz e
 ·intro j x hj hx;have ha:(xs.any fun x=>decide (x.1=k))=true:=fD.mpr ⟨x,cY hj,by simpa using hx⟩;refine cN (eN (cN (wpAny_updateDict ho hd (wpAny_point (hQ _ ⟨_,_,ep,fO _ ho (Obj.isFreed_of_dict (Obj.data_mapDict hd _)),hc.mapDict _,Obj.data_mapDict hd _,?_,?_⟩ (fI ..))))))
  ·unfold zR;rw[og ha];rw[Array.toList_modify,he,fV];apply iY;intro i;rw[List.getElem?_modify,dz,dz];cases hi:xs[i]? with
   |none=>simp
   |some y=>
    simp only[Option.map_some,ι]
    by_cases Cf:j=i
    ·subst Cf;rw[hj] at hi;cases hi;rw[og hx];simp
    ·have:y.1≠k:=fun e=>Cf (vb hn hj hi (hx.trans e.symm));rw[n8 this];simp[Cf]
  ·unfold zR;rw[og ha,fV];have:((fun x:D×Value×Value=>x.1)∘fun x=>if x.1=k then(x.1,x.2.1,v) else x)=(·.1):=by
    funext x;simp only[ι];split<;>rfl
   rw[this];exact hn
theorem Js{Q:Unit->41}(hr:knd.room A.in1)(hu:knd.is s.heap k u)(m:Xe knd s.heap d xs)(oV:∀x∈xs,knd.is s.heap x.1 x.2.1)
  (hQ:∀h' tk,Xe knd h' d (zR xs k u v)->Heap.SameBut d s.heap h'->Q () 74) (pj:xs.length<=sizeLine) :
  36 (setItem (.ref d) u v) Q E s:=by
 unfold setItem
 try with_reducible refine dh ?_
 refine cN (wpAny_sequenceKey m.typeIs 61 ?_);refine cN (gh (name:=Str.ofString "__setitem__") m.typeIs slot_dict_setitem (eE slot_dict_setitem m.typeIs entry_dict_setitem ?_ (args_dict_setitem _ _ _)))
 show 50 (Builtin.Dict.notOrdered "__setitem__" ⟨[.ref d,u,v],[]⟩ >>= _) _ _ s
 refine cN (lT m.typeIs ?_)
 show 50 (dictSet d u v >>= _) _ _ s
 refine cN ?_;unfold dictSet
 try with_reducible refine dh ?_
 refine cN (knd.pyHash hr hu fun tk=>?_);exact Vh (s:={ s with toks:=tk }) hr hu m oV (fun h' m' sb=>cO ⟨.none,rfl,cO (hQ h' tk m' sb)⟩) pj
end
section
variable{D:Type}[DecidableEq D]{knd:WR prog w D}{d:Addr}{xs ys:List (D×Value×Value)}
theorem Zbp{k:D}{u v:Value}(h:∀x∈xs,x.1≠k):zR xs k u v=xs++[(k,u,v)]:=by
 unfold zR;rw[n8];rw[fD];rintro⟨x,hx,e⟩;exact h x hx (dE e)
theorem JK{es:Array DictEntry}(he:es.toList=xs.map (fun x=>(⟨knd.hash x.1,x.2.1,x.2.2⟩:DictEntry)))(hn:(xs.map (·.1)).Nodup)(hi:∀x∈xs,∀y∈xs,knd.hash x.1=knd.hash y.1->x.1=y.1){e:DictEntry}(hm:e∈es):¬(es.filter (·.hash==e.hash)).size>1:=by
 have gen:∀(l:List (D×Value×Value)) (h:Int),(l.map (·.1)).Nodup->(∀x∈l,∀y∈l,knd.hash x.1=knd.hash y.1->x.1=y.1)->(l.filter fun x=>knd.hash x.1==h).length<=1:=by
  intro l h
  induction l with
  |nil=>intro _ _;simp
  |cons z r ih=>
   intro hn hi;rw[dD,fY] at hn;have Pt:=ih hn.2 fun x hx y hy=>hi x (c7 _ hx) y (c7 _ hy)
   by_cases c:(knd.hash z.1==h)=true
   ·rw[Ο (p:=fun x:D×Value×Value=>knd.hash x.1==h) c];have:r.filter (fun x=>knd.hash x.1==h)=[]:=by
     rw[nC];intro x hx e;have e1:knd.hash x.1=knd.hash z.1:=(eq_of_beq e).trans (eq_of_beq c).symm;have:=hi x (c7 _ hx) z dC e1;exact hn.1 (by rw[<- this];exact da.mpr ⟨x,hx,rfl⟩)
    rw[this];simp
   ·rw[Ρ (p:=fun x:D×Value×Value=>knd.hash x.1==h) c];exact Pt
 have e1:(es.filter (·.hash==e.hash)).size=(xs.filter fun x=>knd.hash x.1==e.hash).length:=by
  rw[<- dj,Array.toList_filter,he,List.filter_map,cS];rfl
 rw[e1];have:=gen xs e.hash hn hi;lia
theorem JJ{id:String}{o:Obj}{es:Array DictEntry}{Q:Array DictEntry->41}(ho:s.heap.get? d=some o)(hd:o.data=.dict es ep)(he:es.toList=xs.map (fun x=>(⟨knd.hash x.1,x.2.1,x.2.2⟩:DictEntry)))(hn:(xs.map (·.1)).Nodup)
  (oV:∀x∈xs,knd.is s.heap x.1 x.2.1) (hi:knd.quiet=false->∀x∈xs,∀y∈xs,knd.hash x.1=knd.hash y.1->x.1=y.1) (h:Q es s):36 (Builtin.Dict.entriesForEmpty id d) Q E s:=by
 unfold Builtin.Dict.entriesForEmpty;refine cN (fP ho hd ?_);refine cN ?_;rw[<- iE];refine gc _ (fun ZG _ s'=>s'=s/\∀e∈ZG,e∈es.toList) _ ?_ ?_ _ _ ⟨rfl,fun _ h=>h⟩
 ·rintro e ZG r s' ⟨rfl,hr⟩;have hm:=hr e dC;have Hw:e∈es:=by simpa using hm
  rw[he] at hm;obtain⟨x,hx,rfl⟩:=da.mp hm;refine cN (knd.eqq (oV x hx) ?_);have nx:s'=s'/\∀e∈ZG,e∈es.toList:=⟨rfl,fun e m=>hr e (c7 _ m)⟩;cases hq:knd.quiet
  ·simp only[gP,dq];rw[n8 (JK he hn (hi hq) Hw)];exact cO nx
  ·simp only[dM,c6,cX];exact cO nx
 ·rintro r s' ⟨rfl,_⟩;exact cO h
theorem Zaz{nm:String}{o:Addr}{Q:Unit->41}(hr:knd.room A)(Lv:d≠o)(HY:(o==sysModules)=false)(m:Xe knd s.heap d [])(mo:Xe knd s.heap o xs)
  (oV:∀h',Heap.SameBut d s.heap h'->∀x∈xs,knd.is h' x.1 x.2.1) (hi:knd.quiet=false->∀x∈xs,∀y∈xs,knd.hash x.1=knd.hash y.1->x.1=y.1) (pj:xs.length<=sizeLine)
  (hQ:∀h',Xe knd h' d xs->Heap.SameBut d s.heap h'->Q () 49):36 (Builtin.Dict.mergeDict nm d o) Q E s:=by
 obtain⟨od,SZ,RO,wZ,tO,tE,PD,sd⟩:=id m;obtain⟨oo,sS,epo,Dh,hco,tG,ua,wc⟩:=id mo;unfold Builtin.Dict.mergeDict;rw[n8 (by simpa using Lv)];unfold Builtin.Dict.showsAll;rw[n8 (by rw[HY];exact dQ)];refine cN (cO ?_);refine cN (fP Dh tG ?_);have oC:sS.size=xs.length:=by
  have:=dt ζ ua;rw[cS,dj] at this;exact this
 have loop:36 (do
   let EH <- dictEpoch o
   let l <- dictEntries o
   forIn [:l.size] PUnit.unit fun i (_:PUnit)=>(do
     let l' <- dictEntries o
     match l'[i]? with
      |some e=>do
       holding [e.key,e.val] (dictSetHashed d e.key e.hash e.val)
       let ep' <- dictEpoch o
       if(ep' != EH)=true then do
         (unsupported (toString nm++toString ":source-changed-during-callback"):Sem PUnit)
         pure (ForInStep.yield PUnit.unit)
        else pure (ForInStep.yield PUnit.unit)
      |_=>do
       (unsupported "internal:dict-merge" : Sem PUnit)
       pure (ForInStep.yield PUnit.unit):Sem (ForInStep PUnit))
   pure ()) Q E s:=by
  refine cN (iq Dh tG ?_);refine cN (fP Dh tG ?_);refine cN ?_;rw[nz];simp only[Std.Legacy.Range.size,iP,mO,Nat.div_one];refine gc _
   (fun ZG _ s'=>∃h' i,s'=49/\ZG=List.range' i (sS.size-i)/\i<=sS.size/\Xe knd h' d (xs.take i)/\h'.get? o=some oo/\Heap.SameBut d s.heap h')
   _ ?_ ?_ _ _ ⟨s.heap,0,rfl,by simp,dH _,by simpa using m,Dh,io _ _⟩
  ·rintro x ZG b s' ⟨h',i,rfl,pE,oR,pF,BY,su⟩;have oM:i<sS.size:=by
    rcases fe i sS.size with h|h
    ·exact h
    ·rw[Nat.sub_eq_zero_of_le h] at pE;simp at pE
   obtain⟨rfl,uN⟩:x=i/\ZG=List.range' (i+1) (sS.size-(i+1)):=by
    have e:sS.size-i=(sS.size-(i+1))+1:=by lia
    rw[e,mP] at pE;injection pE with h1 h2;exact⟨h1,h2⟩
   refine cN (fP BY tG ?_);have NU:x<xs.length:=by lia
   have hx:xs[x]?=some xs[x]:=cR NU;have ee:sS[x]?=some (⟨knd.hash xs[x].1,xs[x].2.1,xs[x].2.2⟩:DictEntry):=by rw[<- fj,ua,dz,hx];rfl
   rw[ee];have D3:=oV h' su;have fresh:∀z∈xs.take x,z.1≠xs[x].1:=fun z hz e=>by
    obtain⟨j,hj,ez⟩:=fo hz;have hj2:j<x:=by rw[dB] at hj;lia
    have:xs[j]?=some z:=by rw[<- ez,List.getElem_take];exact cR 40
    have:=vb wc this hx e;lia
   show 50 (holding [xs[x].2.1,xs[x].2.2] (dictSetHashed d xs[x].2.1 (knd.hash xs[x].1) xs[x].2.2) >>= _) _ _ _
   refine cN (dh (Vh (s:=49) hr (D3 _ (gE NU)) pF (fun z hz=>D3 z (gA hz)) (fun Bp DX DG=>?_) (by rw[dB];lia)));have AY:Bp.get? o=some oo:=(DG.2 o (eY Lv)).trans BY;refine cN (iq (s:={ s with heap:=Bp }) AY tG ?_);rw[n8 39];rw[Zbp fresh] at DX;refine cO ⟨Bp,x+1,rfl,uN,oM,?_,AY,su.trans DG⟩;rw[Ι,hx];exact DX
  ·rintro b s' ⟨h',i,rfl,pE,oR,pF,BY,su⟩;have oP:i=sS.size:=by
    rcases fe i sS.size with h|h
    ·have e:sS.size-i=(sS.size-(i+1))+1:=by lia
     rw[e,mP] at pE;exact nomatch pE
    ·exact Nat.le_antisymm oR h
   refine cO (hQ h' ?_ su);rw[oP,oC,fg] at pF;exact pF
 dsimp only
 split
 ·refine cN (fP wZ tE ?_);have IA:SZ.isEmpty=true:=by
   have:=dt ζ PD;rw[dj] at this;exact Array.isEmpty_iff_size_eq_zero.mpr this
  rw[og IA];refine cN (JJ (xs:=xs) Dh tG ua wc (oV _ (io _ _)) hi ?_)
  split
  ·refine cN (wpAny_updateDictKeysTo wZ tE (cO (hQ _ ⟨_,_,RO+1,fO _ wZ (Obj.isFreed_of_dict (mQ tE _)),tO.mapDictKeys _,mQ tE _,ua,wc⟩ (fI ..))) (by rw[oC];lia))
  ·rename_i oF
   have h0:sS=#[]:=Array.isEmpty_iff.mp (by simpa using oF);have hm0:xs=[]:=lW.mp (by rw[<- oC,h0];rfl);subst hm0;exact cO (hQ _ m (io _ _))
 ·exact loop
end
section
variable{D:Type}[DecidableEq D]{knd:WR prog w D}{d:Addr}{xs ys:List (D×Value×Value)}
end
theorem yD:mroOf (.type "dict")=pure [.type "dict",.type "object"]:=by rw[mroOf_type];kernel_rfl
theorem xN:typeLookup (.type "dict") "__new__" = pure (some (.builtin "dict.__new__")):=by rw[lJ,lM];kernel_rfl
theorem Yu:TypeCalled "dict" "dict.__new__" "dict.__init__" :=
 ⟨by left,by left,⟨_,_,yD⟩,madeBy_type yD xN 61,by left,by rw[isSubtype_type];kernel_rfl,PySem.F.slot_dict_init⟩
theorem yI(a:Value):checkTypeCall "dict" ⟨[a],[]⟩=pure ():=by kernel_rfl
theorem xA(a:Value):checkBuiltinCall "dict.__new__" ⟨[.type "dict",a],[]⟩=pure ():=by kernel_rfl
theorem zf:entryFor table "dict.__new__" = some Builtin.«dict.__new__» := entryFor_of_tree (by kernel_rfl)
theorem Vq:plainId "dict.__new__" = true:=by left
section
variable{D:Type}[DecidableEq D]{knd:WR prog w D}{d:Addr}{xs ys:List (D×Value×Value)}
theorem xM(x:Value)(h:Q₁ (.ref s.heap.objs.size) { s with heap:=s.heap.push { cls:=.type "dict",data:=.dict #[] } }) :
  codeAny 86 A (.call (.builtin "dict.__new__") ⟨[.type "dict",x],[]⟩) (wants Q₁ E) s:=by
 refine iX ?_
 show wpAny _ A.in1 (do checkBuiltinCall "dict.__new__" ⟨[.type "dict",x],[]⟩;again (.builtin "dict.__new__" ⟨[.type "dict",x],[]⟩)) _ _ s
 refine cN (gN (xA x) (cO ⟨ip Vq _,gi zf ?_⟩));rw[gQ Vq _];unfold Builtin.«dict.__new__»;have rT:=isSubtype_dict_dict;have hm:=yD;dsimp only;have BJ:isType (.type "dict")=pure true:=rfl;rw[BJ];refine cN (cO ?_);simp only[dM,c6,cX];rw[rT];refine cN (cO ?_);simp only[dM,c6,cX];rw[hm];refine cN (cO ?_);rw[n8 61];refine cN (eQ ?_);exact cO h
theorem JI(hr:∀A',A'.units<=A.units+4->knd.room A')(HY:(d==sysModules)=false)(hnS:(s.heap.objs.size==sysModules)=false)(m:Xe knd s.heap d xs)
  (oV:∀h':Heap,47->∀x∈xs,knd.is h' x.1 x.2.1) (hi:knd.quiet=false->∀x∈xs,∀y∈xs,knd.hash x.1=knd.hash y.1->x.1=y.1) (pj:xs.length<=sizeLine)
  (h:∀(h':Heap) (tk:Nat),Xe knd h' s.heap.objs.size xs->47->Q (.ref s.heap.objs.size) 74) :
  36 (call (.type "dict") [.ref d]) Q E s:=by
 have AG:=Yu.made;have rT:=Yu.sub;obtain⟨c,tl,D0⟩:=Yu.mro;refine wpAny_call (iX (cO ⟨Code.quiet_builtin _ 61,gi nh ?_⟩));rw[Around.under_plain (weight_type_call_type "dict" [.ref d] []) rfl];have g1:=Yu.notType;have g2:=Yu.canCreate;have g3:=yI (.ref d)
 repeat (any_goals (first|assumption|wp_step))
 refine gw (xM (.ref d) (E:=E) (Q₁:=fun obj t=>obj=.ref s.heap.objs.size/\t={ s with heap:=s.heap.push { cls:=.type "dict",data:=.dict #[] } }) ⟨rfl,rfl⟩) fun r t pE=>?_;cases r with
 |error e=>exact pE
 |ok fl=>
  cases fl with
  |ret obj=>
   obtain⟨rfl,rfl⟩:=pE;have hS:(s.heap.push { cls:=.type "dict",data:=.dict #[] }).get? s.heap.objs.size=some { cls:=.type "dict",data:=.dict #[] }:=c8 _ rfl;have hT:Shared.TypeIs { s with heap:=s.heap.push { cls:=.type "dict",data:=.dict #[] } } (.ref s.heap.objs.size) "dict" := ⟨_,hS,rfl⟩;have Ml:=Yu.init.lookup;have Mb:=Yu.init.bind (.ref s.heap.objs.size)
   repeat (any_goals (first|assumption|wp_step))
   refine gw (codeAny_call_builtin (R:=wants (fun r u=>r=.none/\∃h' tk,u=74/\Xe knd h' s.heap.objs.size xs /\ 47) E) Yu.init.plain PySem.F.entry_dict_init (Yu.init.check _ _ _ _ _ _ _ _ hT (PySem.F.args_dict_init_2 _ _) ?_)) fun r2 u py=>?_
   ·have mo:Xe knd (s.heap.push { cls:=.type "dict",data:=.dict #[] }) d xs:=let ⟨o,es,ep,ho,r⟩:=m; ⟨o,es,ep,cU _ ho,r⟩
    have GA:=Xe.typeIs (s:={ s with heap:=s.heap.push { cls:=.type "dict",data:=.dict #[] } }) mo;have oF:s.heap.objs.size≠d:=by
     obtain⟨o,es,ep,ho,_⟩:=m;exact fW (cT ho)
    unfold Builtin.«dict.__init__»;refine cN ?_;unfold Builtin.Dict.selfAndRest;refine cN (lT hT ?_)
    show 50 (pure (s.heap.objs.size,[Value.ref d])) _ _ _
    refine cO ?_
    show 50 (Builtin.Dict.updateFrom "dict.__init__" s.heap.objs.size (.ref d) [] .none) _ _ _
    unfold Builtin.Dict.updateFrom;refine cN (iF GA ?_);rw[n8 61];refine cN ?_;unfold Builtin.Dict.merge;refine cN ?_;unfold Builtin.Dict.readDirectly;refine cN (fH GA isSubtype_dict_dict ?_);simp only[dM,c6,cX];refine cN (gf GA PySem.F.slot_dict_iter.lookup (cO ?_));simp only[lI,dq];refine cN (cO ?_);have ext:∀h',Heap.SameBut s.heap.objs.size (s.heap.push { cls:=.type "dict",data:=.dict #[] }) h'->∀b o,s.heap.get? b=some o->h'.get? b=some o:=fun h' sb b o z=>by
     rw[sb.2 b (c9 (cT z))];exact cU _ z
    refine Zaz (s:={ s with heap:=s.heap.push { cls:=.type "dict",data:=.dict #[] } }) (xs:=xs) (hr _ ?_) oF HY ⟨_,#[],0,hS,⟨rfl,rfl,rfl⟩,rfl,rfl,lZ⟩ mo (fun h' sb=>oV h' (ext h' sb)) hi pj fun h' m' sb=>?_
    ·simp only[gX];lia
    ·show 50 (Builtin.Dict.addKeywords s.heap.objs.size [] >>= _) _ _ _
     exact cN (cO (cO ⟨rfl,h',s.toks,rfl,m',ext h' sb⟩))
   ·cases r2 with
    |error e=>exact py
    |ok fl2=>
     cases fl2 with
     |ret r=>
      obtain⟨rfl,h',tk,rfl,a1,a4⟩:=py
      repeat (any_goals (first|assumption|wp_step))
      exact h _ _ a1 a4
     |_=>exact py.elim
  |_=>exact pE.elim
end
theorem Zc3(x:Nat):x*2147483648%18446744073709551616=x%8589934592*2147483648:=by lia
theorem ZbX{x y:Nat}(hx:x<18446744073709551616)(hy:y<18446744073709551616)(h:x%8589934592*2147483648+x/8589934592=y%8589934592*2147483648+y/8589934592):x=y:=by lia
theorem ZdB{x:Nat}(hx:x<18446744073709551616):x%8589934592*2147483648+x/8589934592<18446744073709551616:=by lia
theorem KU{u v:Nat}(hu:u<18446744073709551616)(hv:v<18446744073709551616)(h:(u+2870177450013471924)%18446744073709551616=(v+2870177450013471924)%18446744073709551616):u=v:=by lia
theorem Zbb{a u v:Nat}(h:(a+u)%18446744073709551616=(a+v)%18446744073709551616):u%18446744073709551616=v%18446744073709551616:=by lia
theorem Zci{a u v:Nat}(h1:(a+u)%18446744073709551616=9148689060682678900)(h2:(a+v)%18446744073709551616=15881292906973731817):(u+6732603846291052917)%18446744073709551616=v%18446744073709551616:=by lia
def hR(x:Nat):Nat:=x*2147483648%18446744073709551616+x/8589934592
theorem Zdh{x y:Nat}(hx:x<18446744073709551616)(hy:y<18446744073709551616)(h:hR x=hR y):x=y:=by
 unfold hR at h;rw[Zc3,Zc3] at h;exact ZbX hx hy h
theorem Zcr{x:Nat}(hx:x<18446744073709551616):hR x<18446744073709551616:=by
 unfold hR;rw[Zc3];exact ZdB hx
theorem ku{p i m y:Nat}(AU:p*i%m=1)(hm:1<m)(hy:y<m):(y*p%m)*i%m=y:=by
 rw[Nat.mod_mul_mod,Nat.mul_assoc,Nat.mul_mod,AU,Nat.mul_one,Nat.mod_mod,Nat.mod_eq_of_lt hy]
theorem Ku{p i m y z:Nat}(AU:p*i%m=1)(hm:1<m)(hy:y<m)(hz:z<m)(h:y*p%m=z*p%m):y=z:=by
 have e1:=ku AU hm hy;have e2:=ku AU hm hz;rw[h,e2] at e1;exact e1.symm
def hT(x:Nat):Nat:=((hR x*11400714785074694791)%18446744073709551616+2870177450013471924)%18446744073709551616
theorem ye{x y:Nat}(hx:x<18446744073709551616)(hy:y<18446744073709551616)(h:hT x=hT y):x=y:=by
 refine Zdh hx hy (Ku (p:=11400714785074694791) (i:=614540362697595703) (m:=18446744073709551616) 61 61 (Zcr hx) (Zcr hy) ?_);exact KU (ig _ 61) (ig _ 61) h
theorem J4(x:Nat):hT x<18446744073709551616:=ig _ 61
def hX(a k:Nat):Nat:=(a+k*14029467366897019727)%18446744073709551616
theorem Zdc{a k:Nat}(hk:k<12)(hj:j<12)(h:hX a k=hX a j):k=j:=by
 refine Ku (p:=14029467366897019727) (i:=839798700976720815) (m:=18446744073709551616) 61 61 (i0 hk 61) (i0 hj 61) ?_;exact Zbb h
theorem ZbB:((γ 12).all fun k=>(γ 12).all fun j=>!((k*14029467366897019727+6732603846291052917)%18446744073709551616==(j*14029467366897019727)%18446744073709551616))=true:=by left
theorem ZaD{a k:Nat}(hk:k<12)(hj:j<12)(h1:hX a k=9148689060682678900)(h2:hX a j=15881292906973731817):False:=by
 have h:=Zci h1 h2;have h3:=dU.mp (dU.mp ZbB k (dY.mpr hk)) j (dY.mpr hj);rw[h] at h3;simp at h3
theorem ZbA{i:Int}(h1:-9223372036854775808<=i)(h2:i<9223372036854775808)(h3:i≠-1):reduceHash i=i:=by
 unfold reduceHash;have e:(2:Int) ^ 63=9223372036854775808:=by left
 rw[e,og (by rw[dg];exact⟨dy h1,dy h2⟩),n8 (by simpa using h3)]
def hF(t:Nat):Int:=if t=18446744073709551615 then 1546275796 else if t<9223372036854775808 then(t:Int) else(t:Int)-18446744073709551616
theorem hF_b{t:Nat}(ht:t<18446744073709551616):-9223372036854775808<=hF t/\hF t<9223372036854775808/\hF t≠-1:=by
 unfold hF
 by_cases c1:t=18446744073709551615
 ·rw[og c1];decide
 ·rw[n8 c1]
  by_cases c2:t<9223372036854775808
  ·rw[og c2];lia
  ·rw[n8 c2];lia
theorem Za3{t:Nat}(ht:t<18446744073709551616):reduceHash (hF t)=hF t:=let ⟨a,b,c⟩:=hF_b ht;ZbA a b c
theorem Zez{t u:Nat}(ht:t<18446744073709551616)(hu:u<18446744073709551616)(h:hF t=hF u):t=u\/(t=18446744073709551615/\u=1546275796)\/(t=1546275796/\u=18446744073709551615):=by
 unfold hF at h
 by_cases c1:t=18446744073709551615
 ·rw[og c1] at h
  by_cases d1:u=18446744073709551615
  ·exact .inl (c1.trans d1.symm)
  ·rw[n8 d1] at h
   by_cases d2:u<9223372036854775808
   ·rw[og d2] at h;exact .inr (.inl ⟨c1,by lia⟩)
   ·rw[n8 d2] at h;lia
 ·rw[n8 c1] at h
  by_cases c2:t<9223372036854775808
  ·rw[og c2] at h
   by_cases d1:u=18446744073709551615
   ·rw[og d1] at h;exact .inr (.inr ⟨by lia,d1⟩)
   ·rw[n8 d1] at h
    by_cases d2:u<9223372036854775808
    ·rw[og d2] at h;exact .inl 40
    ·rw[n8 d2] at h;lia
  ·rw[n8 c2] at h
   by_cases d1:u=18446744073709551615
   ·rw[og d1] at h;lia
   ·rw[n8 d1] at h
    by_cases d2:u<9223372036854775808
    ·rw[og d2] at h;lia
    ·rw[n8 d2] at h;exact .inl 40
theorem ZeU:((2:Nat) ^^^ (2870177450012600261 ^^^ 3527539))=2870177450013471924:=by left
theorem Zdg(t:Nat):(if(t==2 ^ 64-1)=true then(1546275796:Int) else if t<2 ^ 63 then(t:Int) else(t:Int)-((2 ^ 64:Nat):Int))=hF t:=by
 have e1:(2:Nat) ^ 64-1=18446744073709551615:=by left
 have e2:(2:Nat) ^ 63=9223372036854775808:=by left
 have e3:(2:Nat) ^ 64=18446744073709551616:=by left
 unfold hF;rw[e1,e2,e3]
 by_cases c:t=18446744073709551615
 ·rw[og c,og (by rw[c];exact lI _)]
 ·rw[n8 c,n8 (by simpa using c)];rfl
def km(acc:Nat)(h:Int):Nat:=hR ((acc+(h%(18446744073709551616:Int)).toNat*14029467366897019727)%18446744073709551616)*11400714785074694791%18446744073709551616
theorem K9(hs:70):Builtin.Tuple.tupleHashOf hs=hF ((hs.foldl km 2870177450012600261+(hs.length ^^^ (2870177450012600261 ^^^ 3527539)))%18446744073709551616):=by
 have e3:(2:Nat) ^ 64=18446744073709551616:=by left
 have e4:(2:Nat) ^ 31=2147483648:=by left
 have e5:(2:Nat) ^ 33=8589934592:=by left
 have es:(fun(acc:Nat) (h:Int)=>((((acc+(h%((2 ^ 64:Nat):Int)).toNat*14029467366897019727)%2 ^ 64)*2 ^ 31)%2 ^ 64+((acc+(h%((2 ^ 64:Nat):Int)).toNat*14029467366897019727)%2 ^ 64)/2 ^ 33)*11400714785074694791%2 ^ 64)=km:=by
  funext acc h
  rw[e3,e4,e5];rfl
 unfold Builtin.Tuple.tupleHashOf
 show(if((hs.foldl _ 2870177450012600261+(hs.length ^^^ (2870177450012600261 ^^^ 3527539)))%2 ^ 64==2 ^ 64-1)=true then(1546275796:Int) else _)=_
 rw[<- Zdg,<- es]
theorem kz(h1 h2:Int):Builtin.Tuple.tupleHashOf [h1,h2]=hF (hT (hX (km 2870177450012600261 h1) (h2%(18446744073709551616:Int)).toNat)):=by
 rw[K9];rw[List.foldl_cons,List.foldl_cons,List.foldl_nil,show[h1,h2].length=2 from rfl,ZeU];generalize km 2870177450012600261 h1=A;unfold km hT hX
 with_reducible rfl
theorem ZbM{h1:Int}{k:Nat}(hk:k<12)(hj:j<12)(h:reduceHash (Builtin.Tuple.tupleHashOf [h1,(k:Int)])=reduceHash (Builtin.Tuple.tupleHashOf [h1,(j:Int)])):k=j:=by
 have e:∀i:Nat,i<12->((i:Int)%(18446744073709551616:Int)).toNat=i:=fun i hi=>by
  lia
 rw[kz,kz,e k hk,e j hj,Za3 (J4 _),Za3 (J4 _)] at h;have lt:∀a i,hX a i<18446744073709551616:=fun a i=>ig _ 61;have t1:hT 9148689060682678900=18446744073709551615:=by left
 have t2:hT 15881292906973731817=1546275796:=by left
 rcases Zez (J4 _) (J4 _) h with q|⟨q1,q2⟩|⟨q1,q2⟩
 ·exact Zdc hk hj (ye (lt _ _) (lt _ _) q)
 ·exact(ZaD hk hj (ye (lt _ _) 61 (q1.trans t1.symm)) (ye (lt _ _) 61 (q2.trans t2.symm))).elim
 ·exact(ZaD hj hk (ye (lt _ _) 61 (q2.trans t1.symm)) (ye (lt _ _) 61 (q1.trans t2.symm))).elim
def pkH(i:Nat)(b c:Bool):Int:=reduceHash (Builtin.Tuple.tupleHashOf [hashInt (i:Int),reduceHash (Builtin.Tuple.tupleHashOf [Ke b,Ke c])])
theorem j8:((γ 2).all fun i=>[true,false].all fun b=>[true,false].all fun c=>(γ 2).all fun j=>[true,false].all fun d=>[true,false].all fun e=>!(pkH i b c==pkH j d e)||(i==j&&b==d&&c==e))=true:=by left
theorem Zb6{i:Nat}{b c d e:Bool}(hi:i<2)(hj:j<2)(h:pkH i b c=pkH j d e):i=j/\b=d/\c=e:=by
 have mb:∀b:Bool,b∈[true,false]:=fun b=>by cases b<;>simp
 have h1:=dU.mp j8 i (dY.mpr hi);have h2:=dU.mp h1 b (mb b);have h3:=dU.mp h2 c (mb c);have h4:=dU.mp h3 j (dY.mpr hj);have h5:=dU.mp h4 d (mb d);have h6:=dU.mp h5 e (mb e);have hb:(pkH i b c==pkH j d e)=true:=by rw[h];exact lI _
 rw[hb] at h6;simp only[dM,Bool.false_or,dg,iz] at h6;exact⟨h6.1.1,h6.1.2,h6.2⟩
theorem Ub:∀k:Nat,k<12->hashInt (k:Int)=(k:Int):=by
 intro k hk;have:(γ 12).all (fun k=>hashInt (k:Int)==(k:Int))=true:=by left
 exact eq_of_beq (dU.mp this k (dY.mpr hk))
inductive ND where
 |i (k:Nat)|t (k:Nat)|s (x:Str)|p (i:Nat) (b c:Bool)
 deriving DecidableEq
def WG:Str := "n"
def OkD:Nat->ND->Prop
 |0,.i k=>k<12
 |1,.t k=>k<12
 |2,.s x=>PyData.strOk x=true
 |3,.p i _ _=>i<2
 |_,_=>False
def ValD(H:Hp)(v:V):ND->Prop
 |.i k=>v=.int (k:Int)
 |.t k=>∃a,v=.ref a/\H a=some (.tup [.str WG,.int (k:Int)])
 |.s x=>v=.str x
 |.p i b c=>∃a e,v=.ref a/\H a=some (.tup [.int (i:Int),.ref e])/\H e=some (.tup [.bl b,.bl c])
structure Nd(κ:Nat)(H:Hp)(v:V)(d:ND):Prop where
 ok:OkD κ d
 val:ValD H v d
theorem Nd.mono{d:ND}(s:ZT H H')(h:Nd κ H v d):Nd κ H' v d:=by
 refine⟨h.ok,?_⟩;have:=h.val;cases d with
 |i k=>exact this
 |t k=>obtain⟨a,e,q⟩:=this;exact⟨a,e,s _ _ q⟩
 |s x=>exact this
 |p i b c=>obtain⟨a,e,h1,h2,h3⟩:=this;exact⟨a,e,h1,s _ _ h2,s _ _ h3⟩
def toD:ND->PyData
 |.i k=>.int k
 |.t k=>.tuple [.str WG,.int k]
 |.s x=>.str x
 |.p i b c=>.tuple [.int i,.tuple [.bool b,.bool c]]
theorem Nd.dp{d:ND}(h:Nd κ H v d):Dp K H v (toD d):=by
 have:=h.val;cases d with
 |i k=>cases (show v=_ from this);exact .int _
 |t k=>obtain⟨a,rfl,q⟩:=this;exact .tup (SqT.of q) (.cons (.str _) (.cons (.int _) .nil))
 |s x=>cases (show v=_ from this);exact .str _
 |p i b c=>obtain⟨a,e,rfl,h2,h3⟩:=this;exact .tup (SqT.of h2) (.cons (.int _) (.cons (.tup (SqT.of h3) (.cons (.bl _) (.cons (.bl _) .nil))) .nil))
theorem X5{d:ND}(h:OkD κ d):Q3 2 (toD d):=by
 have hs:PyData.strOk WG=true:=by left
 cases d with
 |i k=>exact⟨by simp[toD,PyData.canLay0],by simp[toD,PyData.depth]⟩
 |t k=>exact⟨by simp[toD,PyData.canLay0,PyData.canLayAll0,hs],by simp[toD,PyData.depth,PyData.depthAll]⟩
 |s x=>
  have:PyData.strOk x=true:=by
   unfold OkD at h
   split at h<;>first|(rename_i e;cases e;exact h)|(rename_i e;cases e)|exact h.elim
  exact⟨by simp[toD,PyData.canLay0,this],by simp[toD,PyData.depth]⟩
 |p i b c=>exact⟨by simp[toD,PyData.canLay0,PyData.canLayAll0],by simp[toD,PyData.depth,PyData.depthAll]⟩
theorem ZP{d:ND}(h:OkD κ d):(κ=0/\∃k,d=.i k/\k<12)\/(κ=1/\∃k,d=.t k/\k<12)\/(κ=2/\∃x,d=.s x/\PyData.strOk x=true)\/(κ=3/\∃i b c,d=.p i b c/\i<2):=by
 match κ,d,h with
 |0,.i k,h=>exact .inl ⟨rfl,k,rfl,h⟩
 |1,.t k,h=>exact .inr (.inl ⟨rfl,k,rfl,h⟩)
 |2,.s x,h=>exact .inr (.inr (.inl ⟨rfl,x,rfl,h⟩))
 |3,.p i b c,h=>exact .inr (.inr (.inr ⟨rfl,i,b,c,rfl,h⟩))
theorem jH{d e:ND}(h:OkD κ d)(h':OkD κ e):PyData.eqv (toD d) (toD e)=decide (d=e):=by
 have ki:∀a b:Int,(a==b)=decide (a=b):=fun a b=>by by_cases e:a=b<;>simp[e]
 rcases ZP h with⟨rfl,k,rfl,_⟩|⟨rfl,k,rfl,_⟩|⟨rfl,k,rfl,_⟩|⟨rfl,i,b,c,rfl,_⟩ <;>
 rcases ZP h' with⟨z,l,rfl,_⟩|⟨z,l,rfl,_⟩|⟨z,l,rfl,_⟩|⟨z,j,f,g,rfl,_⟩<;>(try lia)
 ·by_cases e:k=l
  ·subst e;simp[toD,PyData.eqv]
  ·have:¬(k:Int)=l:=by lia
   simp[toD,PyData.eqv,e,this]
 ·by_cases e:k=l
  ·subst e;simp[toD,PyData.eqv,PyData.eqvAll]
  ·have:¬(k:Int)=l:=by lia
   simp[toD,PyData.eqv,PyData.eqvAll,e,this]
 ·by_cases e:k=l
  ·subst e;simp[toD,PyData.eqv]
  ·simp[toD,PyData.eqv,e]
 ·by_cases e:i=j
  ·subst e;cases b<;>cases c<;>cases f<;>cases g<;>simp[toD,PyData.eqv,PyData.eqvAll]
  ·have:¬(i:Int)=j:=by lia
   simp[toD,PyData.eqv,PyData.eqvAll,e,this]
end L3
variable{N G:L3.ND->List L3.ND}{nd ds ring pa way nds:List L3.ND}{ks:List (List L3.ND)}{d:L3.ND}{M:L3.ND->List Bool}{xs:List (L3.ND×PySem.Value×PySem.Value)}{c:L3.ND->Option Nat}
namespace L3
open PySem PySem.Spec PyProof.Rows L2
def Kf(Pm:Params)(x:Str):Int:=if x.cps.isEmpty=true then 0 else reduceHash (Pm.strHash x.cps)
def hN(Pm:Params):ND->Int
 |.i k=>hashInt k
 |.t k=>reduceHash (Builtin.Tuple.tupleHashOf [Kf Pm WG,hashInt (k:Int)])
 |.s x=>Kf Pm x
 |.p i b c=>pkH i b c
theorem ZcQ{e:ND}(hκ:κ=1\/κ=3)(h:OkD κ d)(h':OkD κ e)(q:hN Pm d=hN Pm e):d=e:=by
 rcases hκ with rfl|rfl
 ·rcases ZP h with⟨z,k,rfl,l⟩|⟨z,k,rfl,l⟩|⟨z,k,rfl,l⟩|⟨z,i,b,c,rfl,l⟩<;>(try lia);rcases ZP h' with⟨z,k',rfl,l'⟩|⟨z,k',rfl,l'⟩|⟨z,k',rfl,l'⟩|⟨z,i',b',c',rfl,l'⟩<;>(try lia)
  replace q:reduceHash (Builtin.Tuple.tupleHashOf [Kf Pm WG,hashInt (k:Int)])=reduceHash (Builtin.Tuple.tupleHashOf [Kf Pm WG,hashInt (k':Int)]):=q
  rw[Ub k l,Ub k' l'] at q;rw[ZbM l l' q]
 ·rcases ZP h with⟨z,k,rfl,l⟩|⟨z,k,rfl,l⟩|⟨z,k,rfl,l⟩|⟨z,i,b,c,rfl,l⟩<;>(try lia);rcases ZP h' with⟨z,k',rfl,l'⟩|⟨z,k',rfl,l'⟩|⟨z,k',rfl,l'⟩|⟨z,i',b',c',rfl,l'⟩<;>(try lia);obtain⟨e1,e2,e3⟩:=Zb6 l l' q;rw[e1,e2,e3]
def Zcg{K D:Type}[DecidableEq K][DecidableEq D](knd:WR prog w K)(P:D->Prop)(f:D->K)(g:D->Int)(R:Around->Prop)(hg:∀d,P d->g d=knd.hash (f d))(hf:∀d e,P d->P e->f d=f e->d=e)(hR:∀A,R A->knd.room A):WR prog w D where
 is:=fun h d v=>P d/\knd.is h (f d) v
 hash:=g
 room:=R
 quiet:=knd.quiet
 pyHash:=fun {A E s k v Q} hr h q=>knd.pyHash (hR _ hr) h.2 fun tk=>by rw[<- hg k h.1];exact q tk
 find:=fun {A E s d o es ep xs k u Q} hr hu ho hd he oV hn pb pZ=>by
  rw[hg k hu.1];refine knd.find (xs:=xs.map fun x=>(f x.1,x.2.1,x.2.2)) (hR _ hr) hu.2 ho hd ?_ ?_ ?_ ?_ ?_
  ·rw[he,fV];apply lV;intro x hx;simp only[ι];rw[hg x.1 (oV x hx).1]
  ·intro x hx;obtain⟨y,hy,rfl⟩:=da.mp hx;exact(oV y hy).2
  ·rw[fV];have inj:∀x∈xs,∀y∈xs,f x.1=f y.1->x.1=y.1:=fun x hx y hy e=>hf _ _ (oV x hx).1 (oV y hy).1 e;clear he pb pZ oV
   induction xs with
   |nil=>exact lZ
   |cons z r ih=>
    rw[dD,fY] at hn ⊢;refine⟨fun hm=>?_,ih hn.2 fun x hx y hy=>inj x (c7 _ hx) y (c7 _ hy)⟩;obtain⟨y,hy,e⟩:=da.mp hm;exact hn.1 (da.mpr ⟨y,hy,inj y (c7 _ hy) z dC e⟩)
  ·intro h;exact pb fun x hx e=>h (f x.1,x.2.1,x.2.2) (da.mpr ⟨x,hx,rfl⟩) (by rw[e])
  ·intro j x hj hx;rw[dz] at hj;obtain⟨y,e1,e2⟩:=fE.mp hj;refine pZ j y e1 (hf _ _ (oV y (cY e1)).1 hu.1 ?_);rw[<- hx,<- e2]
 eqq:=fun {A E s k v Q} h q=>knd.eqq h.2 q
def Za2:ND->Key
 |.i k=>.inl (k:Int)
 |.s x=>.inr x
 |_=>.inl 0
def ZdA:ND->List Key
 |.t k=>[.inr WG,.inl (k:Int)]
 |_=>[]
def ZcU:ND->Int×71
 |.p i b c=>((i:Int),[b,c])
 |_=>(0,[])
def zO(A:Around):Prop:=A.units+2<cLine
section
variable(prog:Program)(w:World)
def vI:WR prog w ND:=Zcg (ZaZ (Zv prog w)) (OkD 0) Za2 (hN w.params) zO
 (fun d h=>by rcases ZP h with⟨z,k,rfl,l⟩|⟨z,_⟩|⟨z,_⟩|⟨z,_⟩<;>first|rfl|lia)
 (fun d e h h' q=>by
  rcases ZP h with⟨z,k,rfl,l⟩|⟨z,_⟩|⟨z,_⟩|⟨z,_⟩<;>(try lia);rcases ZP h' with⟨z,k',rfl,l'⟩|⟨z,_⟩|⟨z,_⟩|⟨z,_⟩<;>(try lia);have:(k:Int)=k':=υ.inj q;rw[i6 this]) (fun _ _=>True.intro)
def vS:WR prog w ND:=Zcg (ZaZ (Zv prog w)) (OkD 2) Za2 (hN w.params) zO
 (fun d h=>by rcases ZP h with⟨z,_⟩|⟨z,_⟩|⟨z,x,rfl,l⟩|⟨z,_⟩<;>first|rfl|lia)
 (fun d e h h' q=>by
  rcases ZP h with⟨z,_⟩|⟨z,_⟩|⟨z,x,rfl,l⟩|⟨z,_⟩<;>(try lia);rcases ZP h' with⟨z,_⟩|⟨z,_⟩|⟨z,x',rfl,l'⟩|⟨z,_⟩<;>(try lia);have:x=x':=χ.inj q;rw[this]) (fun _ _=>True.intro)
def vT:WR prog w ND:=Zcg (KH (tupleKind (Zv prog w)) fun h=>h.typeIs) (OkD 1) ZdA (hN w.params) zO
 (fun d h=>by rcases ZP h with⟨z,_⟩|⟨z,k,rfl,l⟩|⟨z,_⟩|⟨z,_⟩<;>first|rfl|lia)
 (fun d e h h' q=>by
  rcases ZP h with⟨z,_⟩|⟨z,k,rfl,l⟩|⟨z,_⟩|⟨z,_⟩<;>(try lia);rcases ZP h' with⟨z,_⟩|⟨z,k',rfl,l'⟩|⟨z,_⟩|⟨z,_⟩<;>(try lia);have:(k:Int)=k':=by
   have q':[(χ WG:Key),.inl (k:Int)]=[.inr WG,.inl (k':Int)]:=q;injection q' with _ q2;injection q2 with q3 _;exact υ.inj q3
  rw[i6 this]) (fun A h=>by show A.units<cLine;unfold zO at h;lia)
def vP:WR prog w ND:=Zcg (KH (ZcW (intKind prog w) (UW prog w)) fun h=>h.typeIs) (OkD 3) ZcU (hN w.params) zO
 (fun d h=>by rcases ZP h with⟨z,_⟩|⟨z,_⟩|⟨z,_⟩|⟨z,i,b,c,rfl,l⟩<;>first|rfl|lia)
 (fun d e h h' q=>by
  rcases ZP h with⟨z,_⟩|⟨z,_⟩|⟨z,_⟩|⟨z,i,b,c,rfl,l⟩<;>(try lia);rcases ZP h' with⟨z,_⟩|⟨z,_⟩|⟨z,_⟩|⟨z,i',b',c',rfl,l'⟩<;>(try lia);have q':((i:Int),[b,c])=((i':Int),[b',c']):=q;injection q' with q1 q2;injection q2 with q3 q4;injection q4 with q5 _;rw[i6 q1,q3,q5]) (fun A h=>by show A.units+1<cLine;unfold zO at h;lia)
def vN:Nat->WR prog w ND
 |0=>vI prog w
 |1=>vT prog w
 |2=>vS prog w
 |_=>vP prog w
end
theorem jL:(vN prog w κ).hash=hN w.params:=by
 unfold vN;split<;>rfl
theorem UY:(vN prog w κ).room=zO:=by
 unfold vN;split<;>rfl
theorem ZbC(h:(vN prog w κ).quiet=false)(hκ:κ<4):κ=1\/κ=3:=by
 match κ,hκ with
 |0,_=>cases h
 |1,_=>exact .inl rfl
 |2,_=>cases h
 |3,_=>exact .inr rfl
theorem OkD.lt(h:OkD κ d):κ<4:=by
 rcases ZP h with⟨z,_⟩|⟨z,_⟩|⟨z,_⟩|⟨z,_⟩<;>lia
section
variable{U:L3.St}
theorem IsTup.at2{u v:Value}(t:IsTup h a [u,v].toArray):∃o n,h.get? a=some o/\o.cls=.type "tuple" /\ o.data=.seq #[u,v] n:=by
 obtain⟨o,h1,h2,n,h3⟩:=t;exact⟨o,n,h1,h2,h3⟩
theorem Nd.is{κ:Nat}{v:V}{d:ND}{u:Value}(I:L2.Inv X bJ U H s)(h:Nd κ H v d)(r:Z6 v u):(vN X.prog X.w κ).is s.heap d u:=by
 obtain⟨ok,val⟩:=h;rcases ZP ok with⟨rfl,k,rfl,l⟩|⟨rfl,k,rfl,l⟩|⟨rfl,x,rfl,l⟩|⟨rfl,i,b,c,rfl,l⟩
 ·cases (show v=_ from val);obtain⟨t,rfl⟩:=r;exact⟨ok,Y2 _ t⟩
 ·obtain⟨a,rfl,q⟩:=val;cases (show u=Value.ref a from r);refine⟨ok,a,rfl,?_⟩;exact ZbK (ks:=[.inr WG,.inl (k:Int)]) I (SqT.of q)
 ·cases (show v=_ from val);obtain⟨t,rfl⟩:=r;exact⟨ok,qt _ t⟩
 ·obtain⟨a,e,rfl,q1,q2⟩:=val;cases (show u=Value.ref a from r);refine⟨ok,a,rfl,?_⟩;obtain⟨oi,rv,t,_⟩:=I.tuple (SqT.of q1);obtain⟨u1,u2,rfl,r1,r2⟩:=qU rv;obtain⟨t1,rfl⟩:=r1;cases (show u2=Value.ref e from r2);obtain⟨its',D5,t',_⟩:=I.tuple (SqT.of q2);obtain⟨w1,w2,rfl,s1,s2⟩:=qU D5;cases (show w1=Value.bool b from s1);cases (show w2=Value.bool c from s2);obtain⟨o,n,h1,h2,h3⟩:=IsTup.at2 t;obtain⟨o',n',uV,A1,Hu⟩:=IsTup.at2 t';exact⟨o,_,e,n,h1,h2,h3,intKind_is _ _ _ _,⟨o',_,n',uV,A1,Hu,.cons (by simp[UW,isB]) (.cons (by simp[UW,isB]) .nil)⟩⟩
end
abbrev NE:=List (ND×V×V)
def NPr:NE->List (ND×Value×Value)->Prop:=Paired fun p q=>p.1=q.1/\Z6 p.2.1 q.2.1/\Z6 p.2.2 q.2.2
def k7(Pm:Params)(a:Addr)(es:NE)(h:Heap):Prop:=es.length<=sizeLine/\(a==sysModules)=false/\∃xs:List (ND×Value×Value),NPr es xs /\
 ∃o fs ep,h.get? a=some o/\o.ExactDict/\o.data=.dict fs ep/\fs.toList=xs.map (fun x=>⟨hN Pm x.1,x.2.1,x.2.2⟩)/\(xs.map (·.1)).Nodup
def ZU(es:NE)(d:ND):69:=(es.find? fun e=>decide (e.1=d)).map (·.2.2)
def ZI(es:NE)(d:ND)(y v:V):NE:=if(es.any fun e=>decide (e.1=d))=true then es.map (fun e=>if e.1=d then(e.1,e.2.1,v) else e) else es++[(d,y,v)]
theorem NPr.val{es:NE}(r:NPr es xs)(d:ND):U3 (ZU es d) (zk xs d):=by
 induction r with
 |nil=>exact True.intro
 |@cons p q ps qs h t ih=>
  obtain⟨h1,_,h2⟩:=h;unfold ZU zk at ih ⊢
  by_cases e:p.1=d
  ·have e':q.1=d:=h1.symm.trans e;rw[iu (by simpa using e),iu (by simpa using e')];exact h2
  ·have e':¬q.1=d:=fun z=>e (h1.trans z);rw[gS (by simpa using e),gS (by simpa using e')];exact ih
theorem NPr.any{es:NE}{xs:List (ND×Value×Value)}(r:NPr es xs)(d:ND):(es.any fun e=>decide (e.1=d))=(xs.any fun e=>decide (e.1=d)):=by
 induction r with
 |nil=>rfl
 |cons h t ih=>rw[gU,gU,ih,h.1]
theorem NPr.put{es:NE}(r:NPr es xs){y:V}{u w:Value}(ry:Z6 y u)(rv:Z6 v w):NPr (ZI es d y v) (zR xs d u w):=by
 unfold ZI zR;rw[r.any d]
 split
 ·rename_i hh
  clear ry hh
  induction r with
  |nil=>exact .nil
  |@cons p q ps qs h t ih=>
   rw[dD,dD];refine .cons ?_ ih
   by_cases e:p.1=d
   ·rw[og e,og (h.1.symm.trans e)];exact⟨h.1,h.2.1,rv⟩
   ·rw[n8 e,n8 fun z=>e (h.1.trans z)];exact h
 ·exact Paired.snoc r ⟨rfl,ry,rv⟩
theorem NPr.keys{es:NE}(r:NPr es xs):es.map (·.1)=xs.map (·.1):=by
 induction r with
 |nil=>rfl
 |cons h t ih=>rw[dD,dD,ih,h.1]
theorem U9(es:NE)(d:ND)(y v:V):(ZI es d y v).length<=es.length+1:=by
 unfold ZI;split<;>simp
section
variable{U:L3.St}{y:V}{u r:Value}{es:NE}
theorem NPr.is{xs:List (ND×Value×Value)}(q:NPr es xs)(I:L2.Inv X bJ U H s)(hk:∀e∈es,96):∀x∈xs,(vN X.prog X.w κ).is s.heap x.1 x.2.1:=by
 induction q with
 |nil=>intro x hx;exact nomatch hx
 |@cons p q ps qs hq t ih=>
  intro x hx;rcases cW.mp hx with e|hx
  ·subst e;have:=hk p 39;rw[<- hq.1];exact this.is I hq.2.1
  ·exact ih (fun e he=>hk e (c7 _ he)) x hx
theorem jg(hw:X.w.params=Pm)(hz:es.length<=sizeLine)(hs:(a==sysModules)=false)(r:NPr es xs)(m:Xe (vN X.prog X.w κ) h a xs):k7 Pm a es h:=by
 obtain⟨o,fs,ep,h1,h2,h3,h4,h5⟩:=m;refine⟨hz,hs,xs,r,o,fs,ep,h1,h2,h3,?_,h5⟩;rw[h4,jL,hw]
theorem KD(hu:A.units+3<cLine):(vN X.prog X.w κ).room A.in1:=by
 rw[UY];show A.in1.units+2<cLine;simp only[gX];lia
end
section
variable{o i oB:Expr}{ty:TE}
end
end L3
variable{es:L3.NE}
namespace L3
open PySem PySem.Spec PyProof.Rows L2
section
variable{e:ND}{u v:Value}
theorem isI(h:(vN prog w 0).is s.heap d u):∃k t,d=.i k/\u=.int (k:Int) t:=by
 obtain⟨ok,h⟩:=h;rcases ZP ok with⟨z,k,rfl,l⟩|⟨z,_⟩|⟨z,_⟩|⟨z,_⟩<;>(try lia);rcases ZM (k:=.inl (k:Int)) h with⟨i,t,e1,e2⟩|⟨x,t,e1,e2⟩
 ·cases e1;exact⟨k,t,rfl,e2⟩
 ·cases e1
theorem isS(h:(vN prog w 2).is s.heap d u):∃x t,d=.s x/\u=.str x t:=by
 obtain⟨ok,h⟩:=h;rcases ZP ok with⟨z,_⟩|⟨z,_⟩|⟨z,x,rfl,l⟩|⟨z,_⟩<;>(try lia);rcases ZM (k:=.inr x) h with⟨i,t,e1,e2⟩|⟨y,t,e1,e2⟩
 ·cases e1
 ·cases e1;exact⟨x,t,rfl,e2⟩
theorem isT(h:(vN prog w 1).is s.heap d u):∃a k t1 t2,d=.t k/\u=.ref a/\YL s a [.str WG t1,.int (k:Int) t2]:=by
 obtain⟨ok,a,rfl,h⟩:=h;rcases ZP ok with⟨z,_⟩|⟨z,k,rfl,l⟩|⟨z,_⟩|⟨z,_⟩<;>(try lia);obtain⟨o,items,n,h1,h2,h3,h4⟩:=h;have Cd:ItemsAre (Zv prog w) [.inr WG,.inl (k:Int)] items.toList:=h4;cases hh:items.toList with
 |nil=>rw[hh] at Cd;cases Cd
 |cons p r=>
  rw[hh] at Cd;cases Cd with
  |cons q1 q2=>
   cases q2 with
   |cons q3 q4=>
    cases q4;rcases ZM (k:=.inr WG) q1 with⟨i,t,e1,e2⟩|⟨x,t,e1,rfl⟩
    ·cases e1
    ·cases e1;rcases ZM (k:=.inl (k:Int)) q3 with⟨i,t',e1,rfl⟩|⟨x,t',e1,_⟩
     ·cases e1;refine⟨a,k,t,t',rfl,rfl,o,n,h1,h2,?_⟩;rw[h3,<- hh]
     ·cases e1
theorem isP(h:(vN prog w 3).is s.heap d u):∃a i b c t e,d=.p i b c/\u=.ref a/\YL s a [.int (i:Int) t,.ref e]/\YL s e [.bool b,.bool c]:=by
 obtain⟨ok,a,rfl,h⟩:=h;rcases ZP ok with⟨z,_⟩|⟨z,_⟩|⟨z,_⟩|⟨z,i,b,c,rfl,l⟩<;>(try lia);obtain⟨o,v,e,n,h1,h2,h3,h4,o',items,n',uV,A1,Hu,Cd⟩:=h;have q:Value.isInt (i:Int) v=true:=h4;obtain⟨t,rfl⟩:=Value.isInt_shape q;have r:ItemsAre (UW prog w) [b,c] items.toList:=Cd;cases hh:items.toList with
 |nil=>rw[hh] at r;cases r
 |cons p rr=>
  rw[hh] at r;cases r with
  |cons q1 q2=>
   cases q2 with
   |cons q3 q4=>
    cases q4;rw[XE q1,XE q3] at hh;exact⟨a,i,b,c,t,e,rfl,rfl,⟨o,n,h1,h2,h3⟩,⟨o',n',uV,A1,by rw[Hu,<- hh]⟩⟩
theorem Kw(h:(vN prog w κ).is s.heap d u)(k:∀b o,s.heap.get? b=some o->h'.get? b=some o):(vN prog w κ).is h' d u:=by
 match κ,h with
 |0,h=>exact h
 |2,h=>exact h
 |1,⟨ok,a,e,o,items,n,h1,r⟩=>exact⟨ok,a,e,o,items,n,k _ _ h1,r⟩
 |n+3,⟨ok,a,e,o,v,b,m,h1,h2,h3,h4,o',items,n',uV,r⟩=>exact⟨ok,a,e,o,v,b,m,k _ _ h1,h2,h3,h4,o',items,n',k _ _ uV,r⟩
theorem YL.uniq{xs:45}(h:YL s a xs)(h':YL s a ys):xs=ys:=by
 obtain⟨o,n,h1,_,h2⟩:=h;obtain⟨o',n',uV,_,A1⟩:=h';rw[h1] at uV;cases uV;rw[h2] at A1;injection A1 with e _;have:=dt Array.toList e;simpa using this
theorem Jw(hκ:κ=1\/κ=3)(hv:∀v∈vs,∃d,(vN prog w κ).is s.heap d v):ZdW prog w 4 vs s:=by
 rcases hκ with rfl|rfl
 ·refine⟨fun v m=>?_,fun v m A E Q hu h=>?_,fun u mu v mv=>?_,fun v m=>?_,fun v m=>?_,fun v m=>?_⟩
  ·obtain⟨d,q⟩:=hv v m;obtain⟨a,k,t1,t2,_,e,_⟩:=isT q;exact⟨a,e⟩
  ·obtain⟨d,q⟩:=hv v m;exact(vN prog w 1).pyHash (by rw[UY];show A.units+2<cLine;lia) q fun tk=>h _ tk
  ·obtain⟨d,q⟩:=hv u mu;obtain⟨a,k,t1,t2,_,rfl,T⟩:=isT q;obtain⟨d,q⟩:=hv v mv;obtain⟨b,k',HR,NC,_,rfl,T'⟩:=isT q;intro A E Q hu h;exact Yl.tup (n:=0) T T' (fun p hp=>by
    simp only[iJ,i7,cW,eH,eI] at hp;rcases hp with rfl|rfl
    ·exact Yl.str _ _ _ _
    ·exact Yl.int _ _ _ _) A E Q 40 h
  ·obtain⟨d,q⟩:=hv v m;obtain⟨a,k,t1,t2,_,rfl,T⟩:=isT q;exact XV.tup T fun y hy=>by
    simp only[cW,eH,eI] at hy;rcases hy with rfl|rfl
    ·exact XV.plain (.inr (.inl ⟨_,_,rfl⟩))
    ·exact XV.plain (.inl ⟨_,_,rfl⟩)
  ·obtain⟨d,q⟩:=hv v m;obtain⟨a,k,t1,t2,_,rfl,T⟩:=isT q;exact Vs.tup T fun y hy=>by
    simp only[cW,eH,eI] at hy;rcases hy with rfl|rfl
    ·exact Vs.plain (.inr (.inl ⟨_,_,rfl⟩))
    ·exact Vs.plain (.inl ⟨_,_,rfl⟩)
  ·obtain⟨d,q⟩:=hv v m;obtain⟨a,k,t1,t2,_,rfl,T⟩:=isT q;exact WS.tup T fun y hy=>by
    simp only[cW,eH,eI] at hy;rcases hy with rfl|rfl
    ·exact WS.plain (.inr (.inl ⟨_,_,rfl⟩))
    ·exact WS.plain (.inl ⟨_,_,rfl⟩)
 ·refine⟨fun v m=>?_,fun v m A E Q hu h=>?_,fun u mu v mv=>?_,fun v m=>?_,fun v m=>?_,fun v m=>?_⟩
  ·obtain⟨d,q⟩:=hv v m;obtain⟨a,i,b,c,t,e,_,e',_⟩:=isP q;exact⟨a,e'⟩
  ·obtain⟨d,q⟩:=hv v m;exact(vN prog w 3).pyHash (by rw[UY];show A.units+2<cLine;lia) q fun tk=>h _ tk
  ·obtain⟨d,q⟩:=hv u mu;obtain⟨a,i,b,c,t,e,_,rfl,T1,T2⟩:=isP q;obtain⟨d,q⟩:=hv v mv;obtain⟨a',i',b',c',t',e',_,rfl,CY,Cn⟩:=isP q;intro A E Q hu h;exact Yl.tup (n:=1) T1 CY (fun p hp=>by
    simp only[iJ,i7,cW,eH,eI] at hp;rcases hp with rfl|rfl
    ·exact Yl.int _ _ _ _
    ·exact Yl.tup (n:=0) T2 Cn (fun p hp=>by
      simp only[iJ,i7,cW,eH,eI] at hp;rcases hp with rfl|rfl
      ·exact Yl.bool _ _
      ·exact Yl.bool _ _)) A E Q 40 h
  ·obtain⟨d,q⟩:=hv v m;obtain⟨a,i,b,c,t,e,_,rfl,T1,T2⟩:=isP q;exact XV.tup T1 fun y hy=>by
    simp only[cW,eH,eI] at hy;rcases hy with rfl|rfl
    ·exact XV.plain (.inl ⟨_,_,rfl⟩)
    ·exact XV.tup T2 fun y hy=>by
      simp only[cW,eH,eI] at hy;rcases hy with rfl|rfl<;>exact XV.plain (.inr (.inr ⟨_,rfl⟩))
  ·obtain⟨d,q⟩:=hv v m;obtain⟨a,i,b,c,t,e,_,rfl,T1,T2⟩:=isP q;exact Vs.tup T1 fun y hy=>by
    simp only[cW,eH,eI] at hy;rcases hy with rfl|rfl
    ·exact Vs.plain (.inl ⟨_,_,rfl⟩)
    ·exact Vs.tup T2 fun y hy=>by
      simp only[cW,eH,eI] at hy;rcases hy with rfl|rfl<;>exact Vs.plain (.inr (.inr ⟨_,rfl⟩))
  ·obtain⟨d,q⟩:=hv v m;obtain⟨a,i,b,c,t,e,_,rfl,T1,T2⟩:=isP q;exact WS.tup T1 fun y hy=>by
    simp only[cW,eH,eI] at hy;rcases hy with rfl|rfl
    ·exact WS.plain (.inl ⟨_,_,rfl⟩)
    ·exact WS.tup T2 fun y hy=>by
      simp only[cW,eH,eI] at hy;rcases hy with rfl|rfl<;>exact WS.plain (.inr (.inr ⟨_,rfl⟩))
theorem jk(hκ:κ<4)(hu:A.units+4<cLine)(hv:∀v∈vs,∃d,(vN prog w κ).is s.heap d v):UL prog w A vs s:=by
 match κ,hκ with
 |0,_=>exact kX fun v m=>by obtain⟨d,q⟩:=hv v m;obtain⟨k,t,_,e⟩:=isI q;exact⟨_,_,e⟩
 |2,_=>exact jT fun v m=>by obtain⟨d,q⟩:=hv v m;obtain⟨k,t,_,e⟩:=isS q;exact⟨_,_,e⟩
 |1,_=>
  refine qV (n:=0) 40 (fun v m=>?_) fun a b xs ys ma mb ta tb=>?_
  ·obtain⟨d,q⟩:=hv v m;obtain⟨a,k,t1,t2,_,rfl,T⟩:=isT q;exact⟨a,_,_,rfl,T,.inr ⟨_,_,rfl⟩⟩
  ·obtain⟨d,q⟩:=hv _ ma;obtain⟨a',k,t1,t2,_,e,T⟩:=isT q;cases e;obtain⟨d,q⟩:=hv _ mb;obtain⟨b',k',HR,NC,_,e,T'⟩:=isT q;cases e;rw[ta.uniq T,tb.uniq T'];refine⟨fun p hp=>?_,fun p hp=>?_⟩
   ·simp only[iJ,i7,cW,eH,eI] at hp;rcases hp with rfl|rfl
    ·exact⟨Yl.str _ _ _ _,XH.str _ _ _ _⟩
    ·exact⟨Yl.int _ _ _ _,XH.int _ _ _ _⟩
   ·have:p=(Value.str WG t1,Value.str WG HR):=by simpa using hp.symm
    subst this;exact .inr ⟨_,_,_,_,rfl,rfl⟩
 |3,_=>
  refine qV (n:=1) 40 (fun v m=>?_) fun a b xs ys ma mb ta tb=>?_
  ·obtain⟨d,q⟩:=hv v m;obtain⟨a,i,b,c,t,e,_,rfl,T1,T2⟩:=isP q;exact⟨a,_,_,rfl,T1,.inl ⟨_,_,rfl⟩⟩
  ·obtain⟨d,q⟩:=hv _ ma;obtain⟨a',i,x,c,t,e,_,e1,T1,T2⟩:=isP q;cases e1;obtain⟨d,q⟩:=hv _ mb;obtain⟨b',i',x',c',t',e',_,e1,CY,Cn⟩:=isP q;cases e1;rw[ta.uniq T1,tb.uniq CY];refine⟨fun p hp=>?_,fun p hp=>?_⟩
   ·simp only[iJ,i7,cW,eH,eI] at hp;rcases hp with rfl|rfl
    ·exact⟨Yl.int _ _ _ _,XH.int _ _ _ _⟩
    ·have all:∀p∈[Value.bool x,Value.bool c].zip [Value.bool x',Value.bool c'],Yl prog w 0 s p.1 p.2/\XH prog w 0 s p.1 p.2:=fun p hp=>by
      simp only[iJ,i7,cW,eH,eI] at hp;rcases hp with rfl|rfl<;>exact⟨Yl.bool _ _,XH.bool _ _⟩
     exact⟨Yl.tup T2 Cn fun p hp=>(all p hp).1,XH.tup T2 Cn all⟩
   ·have:p=(Value.int (i:Int) t,Value.int (i':Int) t'):=by simpa using hp.symm
    subst this;exact .inl ⟨_,_,_,_,rfl,rfl⟩
end
def jK(κ:Nat)(H:Hp)(vs:List V):Prop:=∀v∈vs,∃d,Nd κ H v d
def ZdP(Pm:Params)(a:Addr)(vs:List V)(h:Heap):Prop:=∃oi,ZE vs oi/\kb (Pm.followText "set-order") h a oi
def SnO(Pm:Params)(a:Addr)(vs:List V):HO:=.ext (ZdP Pm a vs)
theorem Zey{vs:List V}(x:ZdP Pm a vs h):Y9 P w H h a (SnO Pm a vs):=by
 refine⟨x,?_,?_⟩
 ·obtain⟨_,_,_,_,_,⟨o,e,_⟩,_⟩:=x;exact⟨o,e⟩
 ·rintro h1 h2 ⟨oi,r,es,ep,t,hA,c⟩ k;exact⟨oi,r,es,ep,t,hA.at fun o z=>k o z,c⟩
theorem yY{vs:List V}(r:ZE vs us):∀u∈us,∃v∈vs,Z6 v u:=by
 induction r with
 |nil=>intro u h;exact nomatch h
 |cons h t ih=>
  intro u hu;rcases cW.mp hu with e|hu
  ·subst e;exact⟨_,dC,h⟩
  ·obtain⟨v,m,q⟩:=ih u hu;exact⟨v,c7 _ m,q⟩
theorem Qu{vs:List V}{out:45}(r:ZE vs us)(h:∀u∈out,u∈us):∃ws,ZE ws out/\∀v∈ws,v∈vs:=by
 induction out with
 |nil=>exact⟨[],.nil,fun _ h=>nomatch h⟩
 |cons u rr ih=>
  obtain⟨ws,a,b⟩:=ih fun x hx=>h x (c7 _ hx);obtain⟨v,m,q⟩:=yY r u (h u dC);exact⟨v::ws,.cons q a,fun x hx=>by
   rcases cW.mp hx with e|hx
   ·subst e;exact m
   ·exact b x hx⟩
theorem Inv.dr{U:L3.St}(I:L2.Inv X bJ U H s)(d:Drawn):L2.Inv X bJ U H { s with drawn:=d }:=
 ⟨I.ok,I.os,I.bare,I.base,I.loc,I.cell,I.free,I.freeC,I.pin,I.hok,I.len⟩
def Zes(K:W.Frag)(Pm:Params):List V->Hp->VK->Prop:=fun xs H Q=>∃p vs κ,xs=[.ref p]/\SqL K H p vs/\jK κ H vs/\κ<4/\vs.length<18/\∀l,H l=none->Q (.ref l) (upd H l (SnO Pm l vs))
def ZdC(Pm:Params):List V->Hp->VK->Prop:=fun xs H Q=>∃p vs κ,xs=[.ref p]/\H p=some (SnO Pm p vs)/\jK κ H vs/\κ<4/\vs.length<18 /\
 ∀l out,H l=none->(∀v∈out,v∈vs)->out.length<=vs.length->(vs≠[]->out≠[])->Q (.ref l) (upd H l (.lst out))
theorem vp(hK:X.K=K)(hw:X.w.params=Pm)(hc:X.calm=true)(hu:X.A.units+12<cLine):Yy X (.type "set") (Zes K Pm):=by
 subst hK;intro bJ s U H xs us Q I r h;obtain⟨p,vs,κ,rfl,hq,hN,hκ,hl,q⟩:=h;obtain⟨u,rfl,ru⟩:=XU r;obtain rfl:u=Value.ref p:=ru;obtain⟨oi,rv,pl,hz⟩:=I.list hq;have el:=rv.length;have oV:∀v∈oi,∃d,(vN X.prog X.w κ).is s.heap d v:=fun v m=>by
  obtain⟨x,mx,rx⟩:=yY rv v m;obtain⟨d,hd⟩:=hN x mx;exact⟨d,hd.is I rx⟩
 have done:∀(h':Heap) (tk:Nat),kb (X.w.params.followText "set-order") h' s.heap.objs.size oi->47->EP X bJ U Q (.ref s.heap.objs.size) 74:=fun h' tk hS k=>
  ⟨.ref s.heap.objs.size,_,I.laid (o:=SnO Pm s.heap.objs.size vs) k (cP _) (Zey ⟨oi,rv,by rw[<- hw];exact hS⟩),rfl,q _ (I.hok.fresh (cP _))⟩
 have tups:κ=1\/κ=3->38 (call (.type "set") [.ref p]) (EP X bJ U Q) X.xe s:=fun hk=>
  Qa (n:=4) 124 40 pl.isList (fun s' k=>Jw hk fun v m=>let ⟨d,hd⟩:=oV v m; ⟨d,Kw hd k⟩) 40 done
 match κ,hκ with
 |0,_=>
  refine xV (knd:=Zv X.prog X.w) 124 pl.isList (fun v m=>?_) 40 done;obtain⟨d,hd⟩:=oV v m;obtain⟨k,t,_,rfl⟩:=isI hd;exact⟨rfl,.inl (k:Int),Y2 _ t⟩
 |2,_=>
  refine xV (knd:=Zv X.prog X.w) 124 pl.isList (fun v m=>?_) 40 done;obtain⟨d,hd⟩:=oV v m;obtain⟨x,t,_,rfl⟩:=isS hd;exact⟨rfl,.inr x,qt _ t⟩
 |1,_=>exact tups (.inl rfl)
 |3,_=>exact tups (.inr rfl)
theorem yB(hw:X.w.params=Pm)(hc:X.calm=true)(hu:X.A.units+12<cLine):Yy X (.builtin "sorted") (ZdC Pm):=by
 intro bJ s U H xs us Q I r h;obtain⟨p,vs,κ,rfl,hq,hN,hκ,hl,q⟩:=h;obtain⟨u,rfl,ru⟩:=XU r;obtain rfl:u=Value.ref p:=ru;obtain⟨⟨oi,rv,hS⟩,_⟩:=I.hok p _ hq;have el:=rv.length;have oV:∀v∈oi,∃d,(vN X.prog X.w κ).is s.heap d v:=fun v m=>by
  obtain⟨x,mx,rx⟩:=yY rv v m;obtain⟨d,hd⟩:=hN x mx;exact⟨d,hd.is I rx⟩
 refine KQ 124 (vs:=oi) (by rw[hw];exact hS) 40 (fun A' s' seq hA k m=>jk hκ 40 fun v mv=>let ⟨d,hd⟩:=oV v (m v mv); ⟨d,Kw hd k⟩) fun out L n h' dr tk m1 m2 m3 hL k hg=>?_;obtain⟨ws,tH,mw⟩:=Qu rv m1;have lw:=tH.length;refine⟨.ref L,_,Inv.dr (I.laid (o:=.lst ws) k hL ⟨by rw[cQ];lia,out,n,tH,hg⟩) dr,rfl,q L ws (I.hok.fresh hL) mw 40 fun oF=>?_⟩;intro e;have:oi≠[]:=fun e'=>by subst e';simp at el;exact oF el
 have:=m3 this;rw[<- lw,e] at this;exact oh this 39
theorem yc{t:Addr}{i:Nat}{items:Array Value}{x:Value}(oJ:s.heap.IsTupleIter it t i)(ht:s.heap.IsTuple t items)(hx:items[i]?=some x)
  (hQ:∀h',h'.IsTupleIter it t (i+1)->Heap.SameBut it s.heap h'->Q x 49):36 (Builtin.SmallTypes.nextOf (.ref it)) Q E s:=by
 obtain⟨o,ho,hc,hd⟩:=id oJ;obtain⟨ol,Cy,_,nl,CL⟩:=ht;unfold Builtin.SmallTypes.nextOf;refine cN (gh (name:=Str.ofString "__next__") oJ.typeIs mR (eE mR oJ.typeIs PySem.F.entry_tuple_iterator_next ?_ (PySem.F.args_tuple_iterator_next_1 _)))
 show 50 (field (.ref it) 0 >>= fun _=>_) _ _ s
 refine cN (gj ho hd (x:=.ref t) rfl ?_)
 show 50 (if(Value.ref t==Value.none)=true then _ else(field (.ref it) 1 >>= fun _=>_)) _ _ s
 rw[n8 (show ¬(Value.ref t==Value.none)=true from dQ)];refine cN (gj ho hd (x:=.int i 0) rfl ?_)
 show 50 (seqItems? (.ref t) >>= fun _=>_) _ _ s
 refine cN (fT Cy CL ?_);simp only[fu,hx];refine cN (gr ho hd 39 (cO ⟨x,rfl,cO (hQ _ ⟨_,fO _ ho (iH (fU hd _)),(iU ..).trans hc,?_⟩ (fI ..))⟩));rw[fU hd];simp[rawInt]
theorem K8{t:Addr}{i:Nat}{items:Array Value}(hh:A.handled=none)(oJ:s.heap.IsTupleIter it t i)(ht:s.heap.IsTuple t items)(hx:items[i]?=none)
  (hE:∀h' e,Heap.ExtBut it s.heap h'->(∃o,h'.get? e=some o/\o.cls=.type "StopIteration")->E (.ref e) 49):36 (Builtin.SmallTypes.nextOf (.ref it)) Q E s:=by
 obtain⟨o,ho,hc,hd⟩:=id oJ;obtain⟨ol,Cy,_,nl,CL⟩:=ht;unfold Builtin.SmallTypes.nextOf;refine cN (gh (name:=Str.ofString "__next__") oJ.typeIs mR (eE mR oJ.typeIs PySem.F.entry_tuple_iterator_next ?_ (PySem.F.args_tuple_iterator_next_1 _)))
 show 50 (field (.ref it) 0 >>= fun _=>_) _ _ s
 refine cN (gj ho hd (x:=.ref t) rfl ?_)
 show 50 (if(Value.ref t==Value.none)=true then _ else(field (.ref it) 1 >>= fun _=>_)) _ _ s
 rw[n8 (show ¬(Value.ref t==Value.none)=true from dQ)];refine cN (gj ho hd (x:=.int i 0) rfl ?_)
 show 50 (seqItems? (.ref t) >>= fun _=>_) _ _ s
 refine cN (fT Cy CL ?_);simp only[fu,hx];refine cN (eN (cN (gr ho hd 39 (cN ?_))));simp only[newExc,newTuple];refine cN (eQ (cN (m:=firstArgMember _ _) (gN (a:=Value.none) (by first|rfl|(simp only[firstArgMember];rfl)) (eQ ?_ (by size_fits)))) (by size_fits));simp only[raiseNew];refine cN (lN ?_);rw[show A.in1.handled=none from hh];exact cN (cO (wpAny_throw (hE _ _ (((fI ..).extBut.push _).push _) ⟨_,c8 _ rfl,rfl⟩)))
structure ZSt(h:Heap)(z TI TO i1 i2 l1 l2:Addr)(f:Value)(k:Nat)(xs ys:Array Value):Prop where
 z:IsZip h z TI TO f
 ti:IsPair h TI (.ref i1) (.ref i2)
 to:∃a b,IsPair h TO a b
 n1:h.IsTupleIter i1 l1 k
 n2:h.IsTupleIter i2 l2 k
 t1:h.IsTuple l1 xs
 t2:h.IsTuple l2 ys
theorem QA{z TI TO i1 i2 l1 l2:Addr}{k:Nat}{xs ys:Array Value}{x y:Value}{Q:67->41}(D:ZipApart z TI TO i1 i2 l1 l2)(S:ZSt s.heap z TI TO i1 i2 l1 l2 .none k xs ys)(hx:xs[k]?=some x)(hy:ys[k]?=some y)
  (hQ:∀h',IsZip h' z TI TO (rawInt s.heap.objs.size)->IsPair h' TO x y->h'.IsTupleIter i1 l1 (k+1)->h'.IsTupleIter i2 l2 (k+1)->IsPair h' s.heap.objs.size x y -> (∀c o,c≠z->c≠TO->c≠i1->c≠i2->s.heap.get? c=some o->h'.get? c=some o)->Q (some (.ref s.heap.objs.size)) 49):36 (pyNext (.ref z)) Q E s:=by
 obtain⟨hz,pN,⟨a,b,rh⟩,h1,h2,ul,uf⟩:=S;have hT:s.TypeIs (.ref z) "zip" := ⟨_,hz,rfl⟩;unfold pyNext;refine cN (gO (gh (name:=Str.ofString "__next__") hT mS (eE mS hT PySem.F.entry_zip_next ?_ (PySem.F.args_zip_next_1 _))))
 show 50 (field (.ref z) 2 >>= fun _=>_) _ _ s
 refine cN (gj (x:=.bool false) hz rfl rfl ?_)
 show 50 (field (.ref z) 3 >>= fun _=>_) _ _ s
 refine cN (gj (x:=.ref TI) hz rfl rfl (cN (fT pN rfl ?_)))
 show 50 (Builtin.SmallTypes.ownedTupleIsFree (.ref z) >>= fun _=>_) _ _ s
 refine cN ?_;unfold Builtin.SmallTypes.ownedTupleIsFree;refine cN (gj (x:=.none) hz rfl rfl (cO ?_));simp only[dq];refine cN (eN (cN (gj (x:=.ref TO) hz rfl rfl (cN (md hz 39 fun g1 z1 e1=>?_)))))
 replace z1:IsZip g1 z TI TO .ellipsis:=z1
 refine cN ?_;simp only[List.zipIdx_cons,List.zipIdx_nil,gM,i5];refine cN (cN (wpAny_onRaise ?_));refine cN (yc (s:={ s with heap:=g1 }) (h1.at fun o q=>(e1.2 _ D.i1z).trans q) (ul.at fun o q=>(e1.2 _ D.l1z).trans q) hx fun g2 n1 e2=>cO ?_);have o2:IsPair g2 TO a b:=(e2.2 _ D.TOi1).trans ((e1.2 _ D.TOz).trans rh);refine cN (fT o2 rfl (cN (wpAny_updateSeq_pair o2 fun g3 o3 e3=>?_)))
 replace o3:IsPair g3 TO x b:=o3
 refine cN (wpAny_letGo (cO (cN (cN (wpAny_onRaise ?_)))));refine cN (yc (s:={ s with heap:=g3 }) (h2.at fun o q=>(e3.2 _ D.TOi2.symm).trans ((e2.2 _ D.i12.symm).trans ((e1.2 _ D.i2z).trans q))) (uf.at fun o q=>(e3.2 _ D.l2TO).trans ((e2.2 _ D.l2i1).trans ((e1.2 _ D.l2z).trans q))) hy fun g4 n2 e4=>cO ?_);have o4:IsPair g4 TO x b:=(e4.2 _ D.TOi2).trans o3;refine cN (fT o4 rfl (cN (wpAny_updateSeq_pair o4 fun g5 o5 e5=>?_)))
 replace o5:IsPair g5 TO x y:=o5
 refine cN (wpAny_letGo (cO (cO (cN (fT o5 rfl (cN (wpAny_newTuple ?_)))))));have sz:g5.objs.size=s.heap.objs.size:=by rw[e5.1,e4.1,e3.1,e2.1,e1.1]
 have all:∀c,c≠z->c≠TO->c≠i1->c≠i2->g5.get? c=s.heap.get? c:=fun c c1 c2 c3 c4=>(e5.2 _ c2).trans ((e4.2 _ c4).trans ((e3.2 _ c2).trans ((e2.2 _ c3).trans (e1.2 _ c1))));have z5:IsZip g5 z TI TO .ellipsis:=(e5.2 _ D.TOz.symm).trans ((e4.2 _ D.i2z.symm).trans ((e3.2 _ D.TOz.symm).trans ((e2.2 _ D.i1z.symm).trans z1)));have TX:g5.IsTupleIter i1 l1 (k+1):=n1.at fun o q=>(e5.2 _ D.TOi1.symm).trans ((e4.2 _ D.i12).trans ((e3.2 _ D.TOi1.symm).trans q));have Ts:g5.IsTupleIter i2 l2 (k+1):=n2.at fun o q=>(e5.2 _ D.TOi2.symm).trans q;have AZ:z<g5.objs.size:=cT z5
 show 50 (Builtin.SmallTypes.ownedTupleHandOut (.ref z) (.ref g5.objs.size) >>= fun _=>_) _ _ _
 refine cN ?_;unfold Builtin.SmallTypes.ownedTupleHandOut;have z6:IsZip (g5.push { cls:=.type "tuple",data:=.seq #[x,y] }) z TI TO .ellipsis:=cU _ z5;refine cN (md z6 39 fun g7 z7 e7=>?_)
 replace z7:IsZip g7 z TI TO (rawInt g5.objs.size):=z7
 refine md z7 39 fun g8 z8 e8=>?_
 replace z8:IsZip g8 z TI TO (rawInt g5.objs.size):=z8
 have up:∀c o,c≠z->g5.get? c=some o->g8.get? c=some o:=fun c o c1 q=>(e8.2 _ c1).trans ((e7.2 _ c1).trans (cU _ q));have p8:IsPair g8 g5.objs.size x y:=(e8.2 _ (fW AZ)).trans ((e7.2 _ (fW AZ)).trans (c8 _ rfl));rw[sz] at z8 p8;refine cO ⟨_,rfl,?_⟩
 show 50 (pure (some (Value.ref g5.objs.size))) _ _ _
 rw[sz];exact cO (hQ g8 z8 (up _ _ D.TOz o5) (TX.at fun o q=>up _ o D.i1z q) (Ts.at fun o q=>up _ o D.i2z q) p8 fun c o c1 c2 c3 c4 q=>up c o c1 ((all c c1 c2 c3 c4).trans q))
theorem Zac{z TI TO i1 i2 l1 l2:Addr}{k:Nat}{xs ys:Array Value}{Q:67->41}(hh:A.handled=none)(D:ZipApart z TI TO i1 i2 l1 l2)(S:ZSt s.heap z TI TO i1 i2 l1 l2 .none k xs ys)(hl:xs.size=ys.size)(hx:xs[k]?=none)
  (hQ:∀h',(∀c o,c≠z->c≠TO->c≠i1->c≠i2->s.heap.get? c=some o->h'.get? c=some o)->Q none 49):36 (pyNext (.ref z)) Q E s:=by
 obtain⟨hz,pN,⟨a,b,rh⟩,h1,h2,ul,uf⟩:=S;have hT:s.TypeIs (.ref z) "zip" := ⟨_,hz,rfl⟩;unfold pyNext;refine cN (gO (gh (name:=Str.ofString "__next__") hT mS (eE mS hT PySem.F.entry_zip_next ?_ (PySem.F.args_zip_next_1 _))))
 show 50 (field (.ref z) 2 >>= fun _=>_) _ _ s
 refine cN (gj (x:=.bool false) hz rfl rfl ?_)
 show 50 (field (.ref z) 3 >>= fun _=>_) _ _ s
 refine cN (gj (x:=.ref TI) hz rfl rfl (cN (fT pN rfl ?_)))
 show 50 (Builtin.SmallTypes.ownedTupleIsFree (.ref z) >>= fun _=>_) _ _ s
 refine cN ?_;unfold Builtin.SmallTypes.ownedTupleIsFree;refine cN (gj (x:=.none) hz rfl rfl (cO ?_));simp only[dq];refine cN (eN (cN (gj (x:=.ref TO) hz rfl rfl (cN (md hz 39 fun g1 z1 e1=>?_)))))
 replace z1:IsZip g1 z TI TO .ellipsis:=z1
 refine cN ?_;simp only[List.zipIdx_cons,List.zipIdx_nil,gM,i5];refine cN (cN (wpAny_onRaise ?_));refine cN (K8 (s:={ s with heap:=g1 }) (by simpa using hh) (h1.at fun o q=>(e1.2 _ D.i1z).trans q) (ul.at fun o q=>(e1.2 _ D.l1z).trans q) hx fun g2 e x2 he=>?_);obtain⟨oe,II,NH⟩:=he;have z2:IsZip g2 z TI TO .ellipsis:=x2 _ _ D.i1z.symm z1;have Sb:e≠z:=fun x=>by subst x;rw[z2] at II;cases II;simp at NH
 refine md z2 39 fun g3 _ e3=>?_;refine cN (fH (T := "StopIteration") (b:=true) ⟨oe,(e3.2 _ Sb).trans II,NH⟩ lO ?_);exact cO (hQ _ fun c o c1 _ c3 _ q=>(e3.2 _ c1).trans (x2 _ _ c3 ((e1.2 _ c1).trans q)))
abbrev zA(h:Heap)(l1:Addr):Heap:=h.push { cls:=.type "tuple_iterator",data:=.fields #[.ref l1,.int 0 0] }
abbrev zB(h:Heap)(l1 l2:Addr):Heap:=(zA h l1).push { cls:=.type "tuple_iterator",data:=.fields #[.ref l2,.int 0 0] }
abbrev zC(h:Heap)(l1 l2:Addr):Heap:=(zB h l1 l2).push { cls:=.type "tuple",data:=.seq #[.ref h.objs.size,.ref (zA h l1).objs.size] }
abbrev zD(h:Heap)(l1 l2:Addr):Heap:=(zC h l1 l2).push { cls:=.type "tuple",data:=.seq #[.none,.none] }
abbrev zE(h:Heap)(l1 l2:Addr):Heap:=(zD h l1 l2).push { cls:=.type "zip",data:=.fields #[.none,.bool false,.bool false,.ref (zB h l1 l2).objs.size,.ref (zC h l1 l2).objs.size] }
theorem JE(l1 l2:Addr)(xs ys:Array Value) :
  Meets (Builtin.«zip.__new__» ⟨[.type "zip",.ref l1,.ref l2],[]⟩) (fun _ R s=>s.heap.IsTuple l1 xs/\s.heap.IsTuple l2 ys/\R (.ok (.ret (.ref (zD s.heap l1 l2).objs.size))) { s with heap:=zE s.heap l1 l2 }):=
 .of_wp fun prog w A R s h=>by
  obtain⟨hp,g,d,tk,os⟩:=s;obtain⟨ul,uf,h⟩:=h;have rT:=sub_zip;have a1:Heap.IsTuple (Shared.heap ⟨hp,g,d,tk,os⟩) l1 xs:=ul;have a2:Heap.IsTuple (Shared.heap ⟨hp.push { cls:=.type "tuple_iterator",data:=.fields #[.ref l1,.int 0 0] },g,d,tk,os⟩) l2 ys:=uf.at fun o q=>cU _ q
  wp_walk using wpAny_pyIter_tuple a1,wpAny_pyIter_tuple a2
  exact⟨_,rfl,h⟩
theorem Qg{l1 l2:Addr}{xs ys:Array Value}(ul:s.heap.IsTuple l1 xs)(uf:s.heap.IsTuple l2 ys)
  (h:∀h',ZSt h' (s.heap.objs.size+4) (s.heap.objs.size+2) (s.heap.objs.size+3) s.heap.objs.size 87 l1 l2 .none 0 xs ys->(∀c o,s.heap.get? c=some o->h'.get? c=some o)->Q (.ref (s.heap.objs.size+4)) 49) :
  36 (call (.type "zip") [.ref l1,.ref l2]) Q E s:=by
 refine callType_new PySem.F.called_zip 61 (PySem.F.typeCall_zip_2 _ _) (PySem.F.newCall_zip_2 _ _) (fun obj=>PySem.F.args_object_init_3 obj _ _) PySem.F.entry_zip_new (JE l1 l2 xs ys) ⟨ul,uf,?_⟩;have s1:(zA s.heap l1).objs.size=s.heap.objs.size+1:=fM ..;have s2:(zB s.heap l1 l2).objs.size=s.heap.objs.size+2:=by rw[fM,s1]
 have s3:(zC s.heap l1 l2).objs.size=s.heap.objs.size+3:=by rw[fM,s2]
 have s4:(zD s.heap l1 l2).objs.size=s.heap.objs.size+4:=by rw[fM,s3]
 have g5:(zE s.heap l1 l2).get? (zD s.heap l1 l2).objs.size=some _:=c8 _ rfl;have g4:(zE s.heap l1 l2).get? (zC s.heap l1 l2).objs.size=some _:=cU _ (c8 _ rfl);have g3:(zE s.heap l1 l2).get? (zB s.heap l1 l2).objs.size=some _:=cU _ (cU _ (c8 _ rfl));have g2:(zE s.heap l1 l2).get? (zA s.heap l1).objs.size=some _:=cU _ (cU _ (cU _ (c8 _ rfl)));have g1:(zE s.heap l1 l2).get? s.heap.objs.size=some _:=cU _ (cU _ (cU _ (cU _ (c8 _ rfl))));have k:∀c o,s.heap.get? c=some o->(zE s.heap l1 l2).get? c=some o:=fun c o x=>cU _ (cU _ (cU _ (cU _ (cU _ x))))
 show _/\_
 rw[s2,s3,s4] at g5;rw[s1,s2] at g3;rw[s3] at g4;rw[s1] at g2;rw[s4];exact⟨⟨_,g5,rfl⟩,h _ ⟨g5,g3,⟨_,_,g4⟩,⟨_,g1,rfl,rfl⟩,⟨_,g2,rfl,rfl⟩,ul.at fun o q=>k _ o q,uf.at fun o q=>k _ o q⟩ k⟩
def ZcP(K:W.Frag)(a b:Addr):It:=
 ⟨fun i H=>∃xs ys x y,SqT K H a xs/\SqT K H b ys/\xs[i]?=some x/\ys[i]?=some y,fun i H x H'=>∃p v w,x=.ref p/\H p=none/\H'=upd H p (.tup [v,w])/\(∀xs,SqT K H a xs->xs[i]?=some v)/\∀ys,SqT K H b ys->ys[i]?=some w,fun i H=>∃xs ys,SqT K H a xs/\SqT K H b ys/\xs.length=ys.length/\xs.length<=i⟩
theorem XY{U:L3.St}{xs:List V}(I:L2.Inv X bJ U H s)(h:SqT X.K H a xs):∃oi:45,ZE xs oi/\s.heap.IsTuple a oi.toArray:=by
 obtain⟨oi,rv,⟨o,h1,h2,n,h3⟩,_⟩:=I.tuple h;exact⟨oi,rv,o,h1,h2,n,h3⟩
theorem Qx{pt:Pos}(a b z TI TO i1 i2:Addr)(D:ZipApart z TI TO i1 i2 a b) :
  xC P w K (.Tuple rR k1 pt) (ZcP K a b) [z,TI,TO,i1,i2] z (fun i h=>IsZip h z TI TO .none/\IsPair h TI (.ref i1) (.ref i2)/\(∃u v,IsPair h TO u v)/\h.IsTupleIter i1 a i/\h.IsTupleIter i2 b i) where
 mem:=by simp
 obj:=fun i h st c hb=>by
  obtain⟨hz,pN,⟨u,v,rh⟩,⟨o1,e1,c1,d1⟩,⟨o2,e2,c2,d2⟩⟩:=st;rcases(by simpa using hb:c=z\/c=TI\/c=TO\/c=i1\/c=i2) with rfl|rfl|rfl|rfl|rfl
  ·exact⟨_,hz,fun v q=>by
    have q':Data.fields _=Data.cell v:=q;cases q'⟩
  ·exact⟨_,pN,fun v q=>by
    have q':Data.seq _ _=Data.cell v:=q;cases q'⟩
  ·exact⟨_,rh,fun v q=>by
    have q':Data.seq _ _=Data.cell v:=q;cases q'⟩
  ·exact⟨o1,e1,fun v q=>by rw[d1] at q;cases q⟩
  ·exact⟨o2,e2,fun v q=>by rw[d2] at q;cases q⟩
 keep:=fun i h h' st k=>by
  obtain⟨hz,pN,⟨u,v,rh⟩,h1,h2⟩:=st;exact⟨k z 39 _ hz,k TI 39 _ pN,⟨u,v,k TO 39 _ rh⟩,h1.at fun o q=>k i1 39 o q,h2.at fun o q=>k i2 39 o q⟩
 item:=by
  intro X hP hw hK hc i bJ s U H E I hf st hg;subst hP hw hK;obtain⟨xs,ys,x,y,sM,tM,hx,hy⟩:=hg;obtain⟨tN,wA,p1⟩:=XY I sM;obtain⟨pp,tD,p2⟩:=XY I tM;obtain⟨u1,EQ,Gq⟩:=wA.get hx;obtain⟨u2,CP,G0⟩:=tD.get hy;obtain⟨hz,pN,rh,wV,sv⟩:=st;refine QA D ⟨hz,pN,rh,wV,sv,p1,p2⟩ (x:=u1) (y:=u2) (by simpa using EQ) (by simpa using CP) fun h1 b1 b2 b3 b4 b5 b7=>?_;refine⟨_,rfl,wpAny_letOwnedTupleGo_zip b1 fun h2 c1 c2=>?_⟩;have rL:Heap.SameBut z h1 h2:=c2;have AZ:z<s.heap.objs.size:=cT hz;have uC:h2.IsTupleIter i1 a (i+1):=b3.at fun o q=>(rL.2 i1 D.i1z).trans q;have rZ:h2.IsTupleIter i2 b (i+1):=b4.at fun o q=>(rL.2 i2 D.i2z).trans q;have uG:IsPair h2 TO u1 u2:=(rL.2 TO D.TOz).trans b2;have uD:IsPair h2 TI (.ref i1) (.ref i2):=(rL.2 TI D.TIz).trans (b7 TI _ D.TIz D.TITO D.TIi1 D.TIi2 pN);have ht:h2.get? s.heap.objs.size=some { cls:=.type "tuple",data:=.seq #[u1,u2] }:=(rL.2 _ (fW AZ)).trans b5;have I2:L2.Inv X bJ U (upd H s.heap.objs.size (.tup [x,y])) { s with heap:=h2,toks:=s.toks }:=by
   refine Inv.turnedLaid (ch:=[z,TI,TO,i1,i2]) I (fun c o hb q=>?_) (fun c hb=>?_) hf (cP _) ?_
   ·have oS:c≠z/\c≠TI/\c≠TO/\c≠i1/\c≠i2:=by simpa using hb
    exact(rL.2 c oS.1).trans (b7 c o oS.1 oS.2.2.1 oS.2.2.2.1 oS.2.2.2.2 q)
   ·rcases(by simpa using hb:c=z\/c=TI\/c=TO\/c=i1\/c=i2) with rfl|rfl|rfl|rfl|rfl
    ·exact⟨_,c1⟩
    ·exact⟨_,uD⟩
    ·exact⟨_,uG⟩
    ·obtain⟨o,q,_⟩:=uC;exact⟨o,q⟩
    ·obtain⟨o,q,_⟩:=rZ;exact⟨o,q⟩
   ·exact⟨by show 2<=sizeLine;decide,[u1,u2],.cons Gq (.cons G0 .nil),⟨_,ht,rfl,_,rfl⟩⟩
  have hn:=I.hok.fresh (cP s.heap.objs.size);refine⟨.ref s.heap.objs.size,_,I2,rfl,⟨_,x,y,rfl,hn,rfl,fun zs q=>by rw[I.tuple_inj q sM];exact hx,fun zs q=>by rw[I.tuple_inj q tM];exact hy⟩,⟨c1,uD,⟨_,_,uG⟩,uC,rZ⟩,fun c hb=>?_⟩;have lb:c<s.heap.objs.size:=by
   rcases(by simpa using hb:c=z\/c=TI\/c=TO\/c=i1\/c=i2) with rfl|rfl|rfl|rfl|rfl
   ·exact AZ
   ·exact cT pN
   ·obtain⟨_,_,q⟩:=rh;exact cT q
   ·obtain⟨o,q,_⟩:=wV;exact cT q
   ·obtain⟨o,q,_⟩:=sv;exact cT q
  rw[upd_ne (c9 lb)];exact(hf c hb).1
 done:=by
  intro X hP hw hK hc i bJ s U H E I hf st hg;subst hP hw hK;obtain⟨xs,ys,sM,tM,L6,hx⟩:=hg;obtain⟨tN,wA,p1⟩:=XY I sM;obtain⟨pp,tD,p2⟩:=XY I tM;obtain⟨hz,pN,rh,wV,sv⟩:=st;have l1:=wA.length;have l2:=tD.length;refine Zac 124 D ⟨hz,pN,rh,wV,sv,p1,p2⟩ (by simp;lia) (by simp;lia) fun h' eb=>⟨rfl,?_⟩;exact Inv.turnedM (ch:=[z,TI,TO,i1,i2]) (t':=s.toks) I (fun c o hb q=>by
   have oS:c≠z/\c≠TI/\c≠TO/\c≠i1/\c≠i2:=by simpa using hb
   exact eb c o oS.1 oS.2.2.1 oS.2.2.2.1 oS.2.2.2.2 q) hf
 self:=fun _ _ _ _ _ st h=>wpAny_pyIter_zip st.1 h
def Zet(K:W.Frag)(ta:TA):TI:=fun U H R=>ta U H fun vs H1=>∃a b xs ys,vs=[.ref a,.ref b]/\SqT K H1 a xs/\SqT K H1 b ys/\R (ZcP K a b) H1
theorem ZbU{pt:Pos}{a b:Expr}{p:Pos}(hK:X.K=K)(hg:Gl X "zip")(hm:X.mg "zip" = none)(ha:PA X [a,b] ta)(hs:starEach [a,b] X.env=[(false,eval a X.env),(false,eval b X.env)]:=by rfl)(sn:starEach [b] X.env=[(false,eval b X.env)]:=by rfl) :
  PI X (.Tuple rR k1 pt) (.Call (.Name "zip" p) [a,b] [] oj) (Zet K ta):=by
 subst hK;intro bJ s U H R I h;refine Call_ (VA I hg hm PyProof.Rows.boot_zip (iM (thn (ha oj bJ s U H _ I h) fun us s1 ⟨vs,H1,I1,r1,q1⟩=>?_) (by rw[hs,sn]) (by rw[sn];rfl)));obtain⟨l1,l2,xs,ys,rfl,sM,tM,q⟩:=q1;obtain⟨u,v,rfl,ru,rv⟩:=qU r1;obtain rfl:u=Value.ref l1:=ru;obtain rfl:v=Value.ref l2:=rv;obtain⟨tN,wA,p1⟩:=XY I1 sM;obtain⟨pp,tD,p2⟩:=XY I1 tM;have Gs:l1<s1.heap.objs.size:=by obtain⟨_,e,_⟩:=p1;exact cT e
 have GB:l2<s1.heap.objs.size:=by obtain⟨_,e,_⟩:=p2;exact cT e
 refine Qg p1 p2 fun h' S k=>wpAny_pyIter_zip S.z ?_;have I2:L2.Inv X bJ U H1 { s1 with heap:=h' }:=I1.kept (t':=s1.toks) k;refine⟨s1.heap.objs.size+4,[s1.heap.objs.size+4,s1.heap.objs.size+2,s1.heap.objs.size+3,s1.heap.objs.size,s1.heap.objs.size+1],_,_,H1,rfl,I2,Qx l1 l2 _ _ _ _ _ (kR _ _ _ Gs GB),⟨S.z,S.ti,S.to,S.n1,S.n2⟩,fun c hb=>?_,q⟩;have lb:s1.heap.objs.size<=c:=by
  rcases(by simpa using hb:c=s1.heap.objs.size+4\/c=s1.heap.objs.size+2\/c=s1.heap.objs.size+3\/c=s1.heap.objs.size\/c=s1.heap.objs.size+1) with rfl|rfl|rfl|rfl|rfl<;>first|exact mM _ _|exact cP _
 exact I1.fpOk lb (I1.hok.fresh lb)
theorem Zq.units3{k:Nat}(r:Zq k A):A.units+3<cLine:=by have:=r.un;lia
def nM:=@Zq.units3
theorem Zq.units8{k:Nat}(r:Zq k A):A.units+8<cLine:=by have:=r.un;lia
theorem Zq.units12{k:Nat}(r:Zq k A):A.units+12<cLine:=by have:=r.un;lia
mutual
def Zw:PyData->PyData->Bool
 |.tuple xs,.tuple ys=>Xn xs ys
 |.int i,.int j=>i==j
 |.str x,.str y=>x==y
 |.bool a,.bool b=>a==b
 |_,_=>false
def Xn:108->108->Bool
 |[],[]=>true
 |x::xs,y::ys=>Zw x y&&Xn xs ys
 |_,_=>false
end
def plD:Nat->PyData->Prop
 |0,_=>False
 |_+1,.int _=>True
 |_+1,.str _=>True
 |_+1,.bool _=>True
 |n+1,.tuple xs=>xs.length<=100/\∀x∈xs,plD n x
 |_+1,_=>False
theorem KJ(d:ND):plD 4 (toD d):=by
 cases d with
 |i k=>exact True.intro
 |t k=>refine⟨by show 2<=100;decide,?_⟩;intro x hx;simp only[cW,eH,eI] at hx;rcases hx with rfl|rfl<;>exact True.intro
 |s x=>exact True.intro
 |p i b c=>
  refine⟨by show 2<=100;decide,?_⟩;intro x hx;simp only[cW,eH,eI] at hx;rcases hx with rfl|rfl
  ·exact True.intro
  ·refine⟨by show 2<=100;decide,?_⟩;intro x hx;simp only[cW,eH,eI] at hx;rcases hx with rfl|rfl<;>exact True.intro
mutual
theorem kP:∀(d t:PyData),Zw d t=true->d=t
 |.tuple xs,.tuple ys,h=>dt _ (yg xs ys (by unfold Zw at h;exact h))
 |.int i,.int j,h=>by unfold Zw at h;rw[eq_of_beq h]
 |.str x,.str y,h=>by unfold Zw at h;rw[eq_of_beq h]
 |.bool x,.bool y,h=>by unfold Zw at h;rw[eq_of_beq h]
 |.none,t,h=>by unfold Zw at h;cases h
 |.list xs,t,h=>by unfold Zw at h;cases h
 |.dict xs,t,h=>by unfold Zw at h;cases h
 |.tuple xs,.none,h=>by unfold Zw at h;cases h
 |.tuple xs,.bool _,h=>by unfold Zw at h;cases h
 |.tuple xs,.int _,h=>by unfold Zw at h;cases h
 |.tuple xs,.str _,h=>by unfold Zw at h;cases h
 |.tuple xs,.list _,h=>by unfold Zw at h;cases h
 |.tuple xs,.dict _,h=>by unfold Zw at h;cases h
 |.int _,.none,h=>by unfold Zw at h;cases h
 |.int _,.bool _,h=>by unfold Zw at h;cases h
 |.int _,.str _,h=>by unfold Zw at h;cases h
 |.int _,.list _,h=>by unfold Zw at h;cases h
 |.int _,.tuple _,h=>by unfold Zw at h;cases h
 |.int _,.dict _,h=>by unfold Zw at h;cases h
 |.str _,.none,h=>by unfold Zw at h;cases h
 |.str _,.bool _,h=>by unfold Zw at h;cases h
 |.str _,.int _,h=>by unfold Zw at h;cases h
 |.str _,.list _,h=>by unfold Zw at h;cases h
 |.str _,.tuple _,h=>by unfold Zw at h;cases h
 |.str _,.dict _,h=>by unfold Zw at h;cases h
 |.bool _,.none,h=>by unfold Zw at h;cases h
 |.bool _,.int _,h=>by unfold Zw at h;cases h
 |.bool _,.str _,h=>by unfold Zw at h;cases h
 |.bool _,.list _,h=>by unfold Zw at h;cases h
 |.bool _,.tuple _,h=>by unfold Zw at h;cases h
 |.bool _,.dict _,h=>by unfold Zw at h;cases h
theorem yg:∀(xs ys:108),Xn xs ys=true->xs=ys
 |[],[],_=>rfl
 |x::xs,y::ys,h=>by
  unfold Xn at h;rw[dg] at h;rw[kP x y h.1,yg xs ys h.2]
 |[],_::_,h=>by unfold Xn at h;cases h
 |_::_,[],h=>by unfold Xn at h;cases h
end
theorem xb(d:ND):Zw (toD d) (toD d)=true:=by
 cases d<;>simp[toD,Zw,Xn]
theorem vq{t:PyData}:Zw (toD d) t=true↔t=toD d:=⟨fun h=>(kP _ _ h).symm,fun h=>by rw[h];exact xb d⟩
theorem Zb8{e:ND}(h:toD d=toD e):d=e:=by
 cases d<;>cases e<;>simp[toD] at h
 ·rw[i6 h]
 ·rw[i6 h]
 ·rw[h]
 ·rw[i6 h.1,h.2.1,h.2.2]
abbrev NdL(κ:Nat)(H:Hp):List V->37->Prop:=Paired (Nd κ H)
theorem NdL.mono{κ:Nat}{H H':Hp}{vs:List V}{ds:37}(s:ZT H H')(h:106):NdL κ H' vs ds:=Paired.mapP h fun _ _ q=>q.mono s
theorem NdL.get{vs:List V}(h:106){i:Nat}(e:vs[i]?=some v):∃d,ds[i]?=some d/\Nd κ H v d:=by
 induction h generalizing i with
 |nil=>simp at e
 |cons q t ih=>
  cases i with
  |zero=>simp at e;subst e;exact⟨_,rfl,q⟩
  |succ i=>obtain⟨d,a,b⟩:=ih (i:=i) (by simpa using e);exact⟨d,by simpa using a,b⟩
theorem NdL.get'{vs:List V}(h:106){i:Nat}(e:ds[i]?=some d):∃v,vs[i]?=some v/\Nd κ H v d:=by
 induction h generalizing i with
 |nil=>simp at e
 |cons q t ih=>
  cases i with
  |zero=>simp at e;subst e;exact⟨_,rfl,q⟩
  |succ i=>obtain⟨d,a,b⟩:=ih (i:=i) (by simpa using e);exact⟨d,by simpa using a,b⟩
theorem NdL.app{vs us:List V}{es:37}(h:106)(g:NdL κ H us es):NdL κ H (vs++us) (ds++es):=by
 induction h with
 |nil=>exact g
 |cons q t ih=>exact .cons q ih
theorem NdL.take{κ:Nat}{H:Hp}{vs:List V}{ds:37}(h:106)(n:Nat):NdL κ H (vs.take n) (ds.take n):=by
 induction h generalizing n with
 |nil=>simpa using Paired.nil
 |cons q t ih=>cases n with
  |zero=>exact .nil
  |succ n=>exact .cons q (ih n)
theorem NdL.drop{κ:Nat}{H:Hp}{vs:List V}{ds:37}(h:106)(n:Nat):NdL κ H (vs.drop n) (ds.drop n):=by
 induction h generalizing n with
 |nil=>simpa using Paired.nil
 |cons q t ih=>cases n with
  |zero=>exact .cons q t
  |succ n=>exact ih n
theorem NdL.dp{K:W.Frag}{κ:Nat}{H:Hp}{vs:List V}{ds:37}(h:106):WJ K H vs (ds.map toD):=by
 induction h with
 |nil=>exact .nil
 |cons q t ih=>exact .cons q.dp ih
theorem NdL.ok{κ:Nat}{H:Hp}{vs:List V}{ds:37}(h:106):∀d∈ds,OkD κ d:=by
 induction h with
 |nil=>intro d hd;exact nomatch hd
 |cons q t ih=>intro d hd;rcases cW.mp hd with e|hd;subst e;exact q.ok;exact ih d hd
theorem NdL.all{vs:List V}(h:106):jK κ H vs:=by
 intro v hv;obtain⟨i,hi,e⟩:=fo hv;obtain⟨d,_,q⟩:=h.get (i:=i) (v:=v) (by rw[cR hi,e]);exact⟨d,q⟩
theorem NdL.len{vs:List V}(h:106):vs.length=ds.length:=gt h
theorem jK.list{vs:List V}(h:jK κ H vs):∃ds,106:=by
 induction vs with
 |nil=>exact⟨[],.nil⟩
 |cons v r ih=>
  obtain⟨d,q⟩:=h v dC;obtain⟨ds,t⟩:=ih fun x hx=>h x (c7 _ hx);exact⟨d::ds,.cons q t⟩
theorem Us(h:∀d∈ds,OkD κ d):PyData.canLayAll0 (ds.map toD)=true/\PyData.depthAll (ds.map toD)<=2:=J0 fun d hd=>X5 (h d hd)
theorem Zcm(h:∀e∈ds,OkD κ e)(hd:OkD κ d):((ds.map toD).any fun z=>PyData.eqv z (toD d))=ds.any fun e=>decide (e=d):=by
 rw[Ψ]
 induction ds with
 |nil=>rfl
 |cons e r ih=>rw[gU,gU,ih fun x hx=>h x (c7 _ hx)];simp only[ι];rw[jH (h e dC) hd]
def YO(N:ND->37):37->108->37
 |_,[]=>[]
 |ch,t::r=>match ch.find? fun d=>Zw (toD d) t with
  |none=>[]
  |some d=>d::YO N (N d) r
theorem Vg(N:ND->37)(ch:37)(t:PyData)(r:108):YO N ch (t::r)=match ch.find? fun d=>Zw (toD d) t with|none=>[]|some d=>d::YO N (N d) r:=rfl
def Vi(ch:37):37->Bool
 |[]=>true
 |d::_=>decide (d∈ch)
def Yb(M:ND->71)(n:Nat)(ds:37):Bool:=(γ n).all fun k=>ds.any fun d=>(M d).getD k false
def WW(N:ND->37)(M:ND->71)(bs:37)(way ring:108):Bool:=
 let row:=way++ring++ring.take 1
 decide ((YO N bs row).length=row.length)&&Yb M (match (YO N bs row).drop way.length with|[]=>0|d::_=>(M d).length) ((YO N bs row).drop way.length)
def ZA(N:ND->37):37->Bool
 |[]=>true
 |[_]=>true
 |a::b::r=>decide (b∈N a)&&ZA N (b::r)
def YR(N:ND->37)(M:ND->71)(n:Nat)(bs way ring:37):Bool:=
 let row:=way++ring++ring.take 1
 ZA N row&&Vi bs row&&Yb M n ring
theorem jY{ch:37}:(ch.find? fun e=>Zw (toD e) (toD d))=if d∈ch then some d else none:=by
 induction ch with
 |nil=>simp
 |cons e r ih=>
  by_cases h:e=d
  ·subst h;rw[iu (by exact vq.mpr rfl)];simp
  ·have:¬Zw (toD e) (toD d)=true:=fun q=>h (Zb8 (vq.mp q)).symm;rw[gS (by simpa using this),ih];have h':¬d=e:=fun q=>h q.symm;simp[h']
theorem vL(N:ND->37):∀(ch:37) (row:37),(decide ((YO N ch (row.map toD)).length=(row.map toD).length))=(Vi ch row&&ZA N row)/\((YO N ch (row.map toD)).length=row.length->YO N ch (row.map toD)=row)
 |ch,[]=>by simp[YO,ZA,Vi]
 |ch,d::r=>by
  have ih:=vL N (N d) r
  by_cases h:d∈ch
  ·have e:YO N ch ((d::r).map toD)=d::YO N (N d) (r.map toD):=by
    rw[dD,Vg,jY,og h]
   rw[e];have e2:ZA N (d::r)=(Vi (N d) r&&ZA N r):=by
    cases r<;>simp[ZA,Vi]
   constructor
   ·rw[e2,<- ih.1];simp[h,Vi]
   ·intro q;rw[ih.2 (by simpa using q)]
  ·have e:YO N ch ((d::r).map toD)=[]:=by
    rw[dD,Vg,jY,n8 h]
   rw[e];simp[h,Vi]
theorem Qo(N:ND->37)(M:ND->71){bs:37}(hr:ring≠[])(hM:∀d∈ring,(M d).length=n):WW N M bs (way.map toD) (ring.map toD)=YR N M n bs way ring:=by
 unfold WW YR;have er:way.map toD++ring.map toD++(ring.map toD).take 1=(way++ring++ring.take 1).map toD:=by simp
 dsimp only;rw[er];obtain⟨a1,a2⟩:=vL N bs (way++ring++ring.take 1);have oF:way++ring++ring.take 1≠[]:=by simp[hr]
 generalize hw:way++ring++ring.take 1=row at a1 a2 oF;rw[a1];cases row with
 |nil=>exact oh rfl oF
 |cons d r=>
  by_cases c:(Vi bs (d::r)&&ZA N (d::r))=true
  ·have a3:=a2 (by rw[c] at a1;have:=dE a1;simpa using this);rw[a3,cS];have ed:(d::r).drop way.length=ring++ring.take 1:=by rw[<- hw,gR,List.drop_left]
   rw[ed];cases ring with
   |nil=>exact oh rfl hr
   |cons e s=>
    dsimp only[List.cons_append];rw[hM e dC];have em:Yb M n (e::(s++(e::s).take 1))=Yb M n (e::s):=by
     unfold Yb
     congr 1
     funext k
     rw[gU,List.any_append,gU,List.take_succ_cons,gU];generalize (M e).getD k false=q;generalize (s.any fun d=>(M d).getD k false)=z;rw[List.take_zero,List.any_nil];cases q<;>cases z<;>rfl
    rw[em];rw[c,Bool.and_comm (ZA N (d::r)),c]
  ·have c':(Vi bs (d::r)&&ZA N (d::r))=false:=by simpa using c
   rw[c',gu];rw[Bool.and_comm (ZA N (d::r)),c',gu]
mutual
inductive ThH(H:Hp):V->PyData->Prop
 |non:ThH H .non .none
 |bl (b:_):ThH H (.bl b) (.bool b)
 |int (i:_):ThH H (.int i) (.int i)
 |str (x:_):ThH H (.str x) (.str x)
 |lst {a:_}{xs:_}{ds:_}:H a=122->ThL H xs ds->ThH H (.ref a) (.list ds)
 |tup {a:_}{xs:_}{ds:_}:H a=some (.tup xs)->ThL H xs ds->ThH H (.ref a) (.tuple ds)
inductive ThL(H:Hp):List V->108->Prop
 |nil:ThL H [] []
 |cons {v:_}{d:_}{vs:_}{ds:_}:ThH H v d->ThL H vs ds->ThL H (v::vs) (d::ds)
end
mutual
theorem ThH.dp{K:W.Frag}{H:Hp}:∀{v:V}{d:PyData},ThH H v d->Dp K H v d
 |_,_,.non=>.non
 |_,_,.bl b=>.bl b
 |_,_,.int i=>.int i
 |_,_,.str x=>.str x
 |_,_,.lst h t=>.lst (nH h) (ThL.dp t)
 |_,_,.tup h t=>.tup (SqT.of h) (ThL.dp t)
theorem ThL.dp{K:W.Frag}{H:Hp}:∀{vs:List V}{ds:108},ThL H vs ds->WJ K H vs ds
 |_,_,.nil=>.nil
 |_,_,.cons h t=>.cons (ThH.dp h) (ThL.dp t)
end
mutual
theorem ThH.mono{H H':Hp}(s:77):∀{v:V}{d:PyData},ThH H v d->ThH H' v d
 |_,_,.non=>.non
 |_,_,.bl b=>.bl b
 |_,_,.int i=>.int i
 |_,_,.str x=>.str x
 |_,_,.lst h t=>.lst (s _ _ h) (ThL.mono s t)
 |_,_,.tup h t=>.tup (s _ _ h) (ThL.mono s t)
theorem ThL.mono{H H':Hp}(s:77):∀{vs:List V}{ds:108},ThL H vs ds->ThL H' vs ds
 |_,_,.nil=>.nil
 |_,_,.cons h t=>.cons (ThH.mono s h) (ThL.mono s t)
end
theorem ThL.get{H:Hp}:∀{vs:List V}{ds:108}{i:Nat}{v:V},ThL H vs ds->vs[i]?=some v->∃d,ds[i]?=some d/\ThH H v d
 |_,_,i,v,.nil,e=>by simp at e
 |_,_,0,v,.cons h t,e=>by simp at e;subst e;exact⟨_,rfl,h⟩
 |_,_,i+1,v,.cons h t,e=>by
  obtain⟨d,a,b⟩:=ThL.get (i:=i) (v:=v) t (by simpa using e);exact⟨d,by simpa using a,b⟩
theorem ThL.len{H:Hp}:∀{vs:List V}{ds:108},ThL H vs ds->vs.length=ds.length
 |_,_,.nil=>rfl
 |_,_,.cons h t=>by rw[fc,fc,ThL.len t]
theorem ThL.app{H:Hp}:∀{vs us:List V}{ds es:108},ThL H vs ds->ThL H us es->ThL H (vs++us) (ds++es)
 |_,_,_,_,.nil,g=>g
 |_,_,_,_,.cons h t,g=>.cons h (ThL.app t g)
theorem ThL.take{H:Hp}:∀{vs:List V}{ds:108} (n:Nat),ThL H vs ds->ThL H (vs.take n) (ds.take n)
 |_,_,0,_=>.nil
 |_,_,_+1,.nil=>.nil
 |_,_,n+1,.cons h t=>.cons h (ThL.take n t)
theorem Nd.th(h:Nd κ H v d):ThH H v (toD d):=by
 have:=h.val;cases d with
 |i k=>cases (show v=_ from this);exact .int _
 |t k=>obtain⟨a,rfl,q⟩:=this;exact .tup q (.cons (.str _) (.cons (.int _) .nil))
 |s x=>cases (show v=_ from this);exact .str _
 |p i b c=>obtain⟨a,e,rfl,h2,h3⟩:=this;exact .tup h2 (.cons (.int _) (.cons (.tup h3 (.cons (.bl _) (.cons (.bl _) .nil))) .nil))
theorem NdL.th{κ:Nat}{H:Hp}{vs:List V}{ds:37}(h:106):ThL H vs (ds.map toD):=by
 induction h with
 |nil=>exact .nil
 |cons q t ih=>exact .cons q.th ih
theorem Uq{ds:108}(h:PyData.canLayAll0 ds=true):∀d∈ds,d.canLay0=true:=by
 induction ds with
 |nil=>intro d hd;exact nomatch hd
 |cons x r ih=>
  rw[PyData.canLayAll0,dg] at h;intro d hd;rcases cW.mp hd with e|hd
  ·subst e;exact h.1
  ·exact ih h.2 d hd
theorem KY{ds:108}(h:PyData.depthAll ds<=n):∀d∈ds,d.depth<=n:=by
 induction ds with
 |nil=>intro d hd;exact nomatch hd
 |cons x r ih=>
  rw[PyData.depthAll] at h;intro d hd;rcases cW.mp hd with e|hd
  ·subst e;lia
  ·exact ih 40 d hd
theorem qW:∀{xs ys:108},xs.length=ys.length->Xn xs ys=((xs.zip ys).all fun p=>Zw p.1 p.2)
 |[],[],_=>rfl
 |x::xs,y::ys,h=>by
  rw[iJ,lE,<- qW (by simpa using h)];rfl
 |[],_::_,h=>by simp at h
 |_::_,[],h=>by simp at h
theorem qT:∀{xs ys:108},xs.length≠ys.length->Xn xs ys=false
 |[],[],h=>oh rfl h
 |x::xs,y::ys,h=>by
  unfold Xn;rw[qT (by simpa using h),iA]
 |[],_::_,_=>by unfold Xn;rfl
 |_::_,[],_=>by unfold Xn;rfl
theorem Zda(f:Nat->Bool)(n:Nat):((γ n).map fun j=>V.bl (f j))=((γ n).map f).map V.bl:=by rw[fV];rfl
theorem Ja{xs ys:108}(h:xs.length=ys.length):Xn xs ys=((γ xs.length).map fun j=>Zw (xs.getD j .none) (ys.getD j .none)).all id:=by
 rw[qW h,List.all_map];apply ls.mpr;rw[dU,dU];constructor
 ·intro q j hj;have hj:=dY.mp hj;refine q (xs.getD j .none,ys.getD j .none) ?_;rw[gH,gH,cR hj,cR (by lia:j<ys.length)];have:(xs.zip ys)[j]?=some (xs[j],ys[j]):=by rw[Ζ];exact⟨cR hj,cR 40⟩
  exact cY this
 ·rintro q ⟨x,y⟩ hp;obtain⟨j,hj,e⟩:=fo hp;rw[List.getElem_zip] at e;have h1:j<xs.length:=by rw[List.length_zip] at hj;lia
  have:=q j (dY.mpr h1);simp only[ι,gH,cR h1,cR (by lia:j<ys.length)] at this;have e1:=(Prod.ext_iff.mp e).1;have e2:=(Prod.ext_iff.mp e).2;simp only at e1 e2;rw[<- e1,<- e2];exact this
def xr:PyData->Bool
 |.bool _=>true
 |_=>false
theorem ThH.tyB{d:PyData}(h:ThH H v d):∃ty,Vl K H v ty/\W.kitOne K ty (.type "bool")=some (xr d):=by
 cases h with
 |non=>exact⟨_,.non,rfl⟩
 |bl b=>exact⟨_,.bl b,rfl⟩
 |int i=>exact⟨_,.int i,rfl⟩
 |str x=>exact⟨_,.str x,rfl⟩
 |lst h t=>exact⟨_,.lst h,rfl⟩
 |tup h t=>exact⟨_,.tup h,rfl⟩
theorem Ut{d t:PyData}(h:(∃i,d=.int i)\/(∃x,d=.str x)\/∃b,d=.bool b):Zw d t=(decide (xr t=xr d)&&PyData.eqv d t):=by
 rcases h with⟨i,rfl⟩|⟨x,rfl⟩|⟨b,rfl⟩<;>cases t<;>simp[Zw,xr,PyData.eqv]
theorem Zce(xs:List V)(k:Nat)(h:k<xs.length):XN xs (some (k:Int)) (some (-1))=(xs.drop k).take (xs.length-1-k):=by
 unfold XN;have e1:HT.sIx xs.length 0 (some (k:Int))=k:=by rw[HT.sIx_nat];lia
 have e2:HT.sIx xs.length xs.length (some (-1))=xs.length-1:=by unfold HT.sIx;simp;lia
 rw[e1,e2]
theorem qm{N:ND->37}{ns:37}(hs:∀d∈ns,∀x∈N d,x∈ns):∀(ts:108) (ch:37),(∀d∈ch,d∈ns)->∀d∈YO N ch ts,d∈ns
 |[],ch,_,d,hd=>by cases ch<;>simp[YO] at hd
 |t::r,ch,hc,d,hd=>by
  rw[Vg] at hd;cases hf:ch.find? fun d=>Zw (toD d) t with
  |none=>rw[hf] at hd;exact nomatch hd
  |some e=>
   rw[hf] at hd;have em:e∈ns:=hc e (nD hf);rcases cW.mp hd with q|q
   ·rw[q];exact em
   ·exact qm hs r (N e) (hs e em) d q
inductive LpT(K:W.Frag)(H:Hp)(N:ND->37)(M:ND->71)(bs:37):V->Bool->Prop
 |other {v:V}{ty:Value}:Vl K H v ty->W.kitOne K ty (.type "tuple")=some false->LpT K H N M bs v false
 |long {t:Addr}{xs:List V}:SqT K H t xs->xs.length≠2->LpT K H N M bs (.ref t) false
 |noway {t:Addr}{x y:V}{ty:Value}:SqT K H t [x,y]->Vl K H x ty->W.kitOne K ty (.type "list")=some false->LpT K H N M bs (.ref t) false
 |noring {t w:Addr}{y:V}{wv:List V}{ty:Value}:SqT K H t [.ref w,y]->H w=some (.lst wv)->Vl K H y ty->W.kitOne K ty (.type "list")=some false->LpT K H N M bs (.ref t) false
 |empty {t w r:Addr}{wv:List V}:SqT K H t [.ref w,.ref r]->H w=some (.lst wv)->H r=some (.lst [])->LpT K H N M bs (.ref t) false
 |loop {t w r:Addr}{wv rv:List V}{wt rt:108}:SqT K H t [.ref w,.ref r]->H w=some (.lst wv)->H r=some (.lst rv)->ThL H wv wt->ThL H rv rt->PyData.canLayAll0 wt=true->PyData.canLayAll0 rt=true->rt≠[]->wt.length<=300->rt.length<=300->LpT K H N M bs (.ref t) (WW N M bs wt rt)
theorem Uw:∀{xs ys:108},PyData.canLayAll0 xs=true->PyData.canLayAll0 ys=true->PyData.canLayAll0 (xs++ys)=true
 |[],ys,_,h=>h
 |x::xs,ys,h,g=>by
  rw[PyData.canLayAll0,dg] at h;rw[List.cons_append,PyData.canLayAll0,h.1,Uw h.2 g];rfl
theorem qQ:∀{xs:108} (n:Nat),PyData.canLayAll0 xs=true->PyData.canLayAll0 (xs.take n)=true
 |[],n,_=>by simp[PyData.canLayAll0]
 |x::xs,0,_=>by simp[PyData.canLayAll0]
 |x::xs,n+1,h=>by
  rw[PyData.canLayAll0,dg] at h;rw[List.take_succ_cons,PyData.canLayAll0,h.1,qQ n h.2];rfl
theorem Qz:((γ 12).all fun i=>decide ((Str.ofString "n").length+(Str.ofString (toString (20-116))).length<=100)&&PyData.strOk (Str.ofString "n" ++ Str.ofString (toString (20-116))))=true:=by left
theorem Zee{i:Nat}(hi:i<12):(Str.ofString "n").length+(Str.ofString (toString (20-116))).length<=sizeLine/\PyData.strOk (Str.ofString "n" ++ Str.ofString (toString (20-116)))=true:=by
 have h:=dU.mp Qz i (dY.mpr hi);rw[dg] at h;have:=dE h.1;exact⟨by rw[cQ];lia,h.2⟩
theorem vw:ZU es d=none↔(es.any fun e=>decide (e.1=d))=false:=by
 unfold ZU;rw[iI,mF,lz]
theorem XM{e:ND}{y:V}:ZU (ZI es d y v) e=if e=d then some v else ZU es e:=by
 unfold ZI
 by_cases h:(es.any fun e=>decide (e.1=d))=true
 ·rw[og h]
  by_cases c:e=d
  ·subst c;rw[og rfl];clear y
   induction es with
   |nil=>simp at h
   |cons x r ih=>
    unfold ZU at ih ⊢;rw[dD]
    by_cases q:x.1=e
    ·rw[og q,iu (by simpa using q)];rfl
    ·rw[n8 q,gS (by simpa using q)];exact ih (by simpa[q] using h)
  ·rw[n8 c];clear h
   induction es with
   |nil=>rfl
   |cons x r ih=>
    unfold ZU at ih ⊢;rw[dD]
    by_cases q:x.1=d
    ·have q2:¬x.1=e:=fun z=>c (z.symm.trans q);rw[og q,gS (by simpa using q2),gS (by simpa using q2)];exact ih
    ·rw[n8 q]
     by_cases q2:x.1=e
     ·rw[iu (by simpa using q2),iu (by simpa using q2)]
     ·rw[gS (by simpa using q2),gS (by simpa using q2)];exact ih
 ·rw[n8 h];have h':=vw.mpr (iD.mpr h);unfold ZU at h' ⊢;rw[List.find?_append]
  by_cases c:e=d
  ·subst c;rw[og rfl,iI.mp h'];simp
  ·rw[n8 c];cases hf:es.find? fun x=>decide (x.1=e) with
   |some x=>simp
   |none=>
    have:¬d=e:=fun z=>c z.symm;simp[this]
theorem Xw{y:V}{x:ND×V×V}(h:x∈ZI es d y v):x∈es\/x=(d,y,v)\/∃z∈es,z.1=d/\x=(z.1,z.2.1,v):=by
 unfold ZI at h
 split at h
 ·obtain⟨z,hz,e⟩:=da.mp h
  by_cases c:z.1=d
  ·rw[og c] at e;exact .inr (.inr ⟨z,hz,c,e.symm⟩)
  ·rw[n8 c] at e;subst e;exact .inl hz
 ·rcases db.mp h with h|h
  ·exact .inl h
  ·rw[df] at h;exact .inr (.inl h)
theorem VB(h:ZU es d=some v):∃e∈es,e.1=d/\e.2.2=v:=by
 unfold ZU at h;obtain⟨e,h1,h2⟩:=fE.mp h;exact⟨e,nD h1,by simpa using List.find?_some h1,h2⟩
def WF(S:List Addr)(H H':Hp):Prop:=∀b o,b∉S->H b=some o->H' b=some o
theorem WF.trans{H2:Hp}(a:WF S H H1)(b:WF S H1 H2):WF S H H2:=fun c o n e=>b c o n (a c o n e)
theorem Zd.k(h:77):WF S H H':=fun b o _ e=>h b o e
theorem Zm.k(h:Zm p H H')(hp:p∈S):WF S H H':=fun b o n e=>h b o (fun z=>n (z▸hp)) e
theorem WF.updK(hp:p∈S):WF S H (upd H p o):=fun b u n e=>by rw[L2.upd_ne (fun z:b=p=>n (by rw[z];exact hp))];exact e
def jv(κ:Nat)(S:List Addr)(H:Hp)(nd:37)(es:NE):Prop:=∀e∈es,96/\∃l vs ds,e.2.2=.ref l/\l∉S/\H l=123/\106/\(∀d∈ds,d∈nd)/\ds.length<=3
def UZ(κ:Nat)(S:List Addr)(H:Hp)(n:Nat)(es:NE):Prop:=∀e∈es,96/\∃(l:Addr) (bs:71),e.2.2=.ref l/\l∉S/\H l=some (.lst (bs.map V.bl))/\bs.length=n
theorem jv.mono{κ:Nat}{S:List Addr}{H H':Hp}{nd:37}{es:NE}(k:WF S H H')(u:ZT H H')(h:jv κ S H nd es):jv κ S H' nd es:=fun e he=>
 let ⟨a,l,vs,ds,b,c,d,f,g⟩:=h e he; ⟨a.mono u,l,vs,ds,b,c,k _ _ c d,f.mono u,g⟩
theorem UZ.mono{κ:Nat}{S:List Addr}{H H':Hp}{n:Nat}{es:NE}(k:WF S H H')(u:ZT H H')(h:UZ κ S H n es):UZ κ S H' n es:=fun e he=>
 let ⟨a,l,bs,b,c,d,f⟩:=h e he; ⟨a.mono u,l,bs,b,c,k _ _ c d,f⟩
theorem jv.put(h:jv κ S H nd es){y:V}{vs:List V}(hy:Nd κ H y d)(hl:l∉S)(e:H l=123)(nv:106)(hd:∀d∈ds,d∈nd)(h3:ds.length<=3):jv κ S H nd (ZI es d y (.ref l)):=fun x hx=>by
 rcases Xw hx with q|rfl|⟨z,hz,e1,rfl⟩
 ·exact h x q
 ·exact⟨hy,l,vs,ds,rfl,hl,e,nv,hd,h3⟩
 ·exact⟨(h z hz).1,l,vs,ds,rfl,hl,e,nv,hd,h3⟩
theorem UZ.put(h:UZ κ S H n es){y:V}{bs:71}(hy:Nd κ H y d)(hl:l∉S)(e:H l=some (.lst (bs.map V.bl)))(hn:bs.length=n):UZ κ S H n (ZI es d y (.ref l)):=fun x hx=>by
 rcases Xw hx with q|rfl|⟨z,hz,e1,rfl⟩
 ·exact h x q
 ·exact⟨hy,l,bs,rfl,hl,e,hn⟩
 ·exact⟨(h z hz).1,l,bs,rfl,hl,e,hn⟩
theorem Za4{e:ND}{u:Value}(hκ:κ<4)(a:(vN prog w κ).is s.heap d u)(b:(vN prog w κ).is s.heap e u):d=e:=by
 have hk:κ=0\/κ=1\/κ=2\/κ=3:=by lia
 rcases hk with rfl|rfl|rfl|rfl
 ·obtain⟨k,t,rfl,e1⟩:=isI a;obtain⟨k',t',rfl,e2⟩:=isI b;rw[e1,Value.int.injEq] at e2;have:k=k':=by lia
  rw[this]
 ·obtain⟨a1,k,t1,t2,rfl,e1,T⟩:=isT a;obtain⟨a2,k',HR,NC,rfl,e2,T'⟩:=isT b;rw[e1,Value.ref.injEq] at e2;subst e2;have q:=T.uniq T';simp only[List.cons.injEq,Value.int.injEq,Value.str.injEq] at q;have:k=k':=by lia
  rw[this]
 ·obtain⟨k,t,rfl,e1⟩:=isS a;obtain⟨k',t',rfl,e2⟩:=isS b;rw[e1,Value.str.injEq] at e2;rw[e2.1]
 ·obtain⟨a1,i,x,y,t,e',rfl,e1,T1,T2⟩:=isP a;obtain⟨a2,i',x',y',t',e'',rfl,e2,CY,Cn⟩:=isP b;rw[e1,Value.ref.injEq] at e2;subst e2;have q:=T1.uniq CY;simp only[List.cons.injEq,Value.int.injEq,Value.ref.injEq] at q;obtain⟨⟨q1,_⟩,q2,_⟩:=q;subst q2;have r:=T2.uniq Cn;simp only[List.cons.injEq,Value.bool.injEq] at r;have:i=i':=by lia
  rw[this,r.1,r.2.1]
def Zb1:V->List V->Hp->VK->Prop:=fun x vs H Q=>∃l xs y j κ ds d,x=.ref l/\vs=[y]/\H l=122/\NdL κ H xs ds/\Nd κ H y d/\ds[j]?=some d/\(∀m,m<j->ds[m]?≠some d)/\Q (.int (j:Nat)) H
open Classical in
theorem Qf(hu:X.A.units+64<cLine):MtM X "list.index" Zb1:=by
 intro bJ s U H x vs v us Q I rx rv h;obtain⟨l,xs,y,j,κ,ds,d,rfl,rfl,hH,nx,ny,hj,wc,q⟩:=h;cases rx;obtain⟨u,rfl,ru⟩:=rv.one;obtain⟨z,oi,n,r,hl,e⟩:=I.lstM hH;have hκ:=ny.ok.lt;have lx:=nx.len;have li:=r.length;have NL:j<oi.length:=by have:=(dk.mp hj).1;lia
 have at_:∀m (hm:m<oi.length),∃dm,ds[m]?=some dm/\(vN X.prog X.w κ).is s.heap dm oi[m]/\∃vm,Nd κ H vm dm/\Z6 vm oi[m]:=fun m hm=>by
  have Mt:m<xs.length:=by lia
  obtain⟨dm,e1,e2⟩:=nx.get (cR Mt);obtain⟨um,Pr,M0⟩:=r.get (cR Mt);have em:oi[m]=um:=(dk.mp Pr).2;exact⟨dm,e1,by rw[em];exact e2.is I M0,xs[m],e2,by rw[em];exact M0⟩
 refine call_meets PySem.F.slot_list_index ⟨_,e,rfl⟩ PySem.F.entry_list_index (PySem.F.args_list_index_2 _ _) (SeqAt.list_indexAt l oi.toArray n none #[] u (fun w=>decide ((vN X.prog X.w κ).is s.heap d w)) j (by simpa using NL) (by rw[cQ] at z;lia) ?_ ?_) ⟨e,?_,?_⟩
 ·obtain⟨dm,e1,e2,_⟩:=at_ j NL;rw[hj] at e1;cases e1;exact dy (by simpa using e2)
 ·intro m hm SA;have Hw:m<oi.length:=by simpa using hm
  obtain⟨dm,e1,e2,_⟩:=at_ m Hw;refine dZ fun hc=>wc m SA ?_;rw[e1,Za4 hκ (show(vN X.prog X.w κ).is s.heap d oi[m] from by simpa using hc) e2]
 ·intro b hb;have oS:b∈oi:=by simpa using hb
  obtain⟨m,hm,em⟩:=fo oS;obtain⟨dm,e1,e2,vm,nm,rm⟩:=at_ m hm;rw[em] at e2 rm;obtain⟨as,ra⟩:=(nm.dp (K:=X.K)).reads I rm;obtain⟨bs,rb⟩:=(ny.dp (K:=X.K)).reads I ru;have f1:=X5 nm.ok;have f2:=X5 ny.ok;have:=SeqAt.eqAt_reads _ _ X.A.in1 s b u as bs ra rb f1.1 f2.1 (by simp only[gX];have:=f1.2;have:=Nat.min_le_left (toD dm).depth (toD d).depth;lia);have ee:PyData.eqv (toD dm) (toD d)=decide ((vN X.prog X.w κ).is s.heap d b):=by
   rw[jH nm.ok ny.ok]
   by_cases c:dm=d
   ·subst c;rw[dy rfl,dy e2]
   ·rw[dZ c,dZ fun z=>c (Za4 hκ e2 z)]
  rw[<- ee];exact this
 ·exact⟨.int (j:Nat),H,I.tok _,⟨_,rfl⟩,q⟩
theorem ZN(h:ds.Nodup)(hs:∀d∈ds,d∈nd):ds.length<=nd.length:=by
 induction ds generalizing nd with
 |nil=>simp
 |cons x r ih=>
  obtain⟨h1,h2⟩:=fY.mp h;have hx:=hs x 39;have:=ih (nd:=nd.erase x) h2 fun y hy=>(mD (fun e=>h1 (by rw[<- e];exact hy))).mpr (hs y (c7 _ hy));rw[mX hx] at this;have:=mY hx;rw[fc];lia
theorem ZaJ(h:d∈ds):∃j:Nat,ds[j]?=some d/\∀m:Nat,m<j->ds[m]?≠some d:=by
 induction ds with
 |nil=>cases h
 |cons x r ih=>
  by_cases e:x=d
  ·subst e;exact⟨0,rfl,fun m hm=>oh hm (hU _)⟩
  ·have hr:d∈r:=by rcases cW.mp h with q|q;exact oh q.symm e;exact q
   obtain⟨j,h1,h2⟩:=ih hr;refine⟨j+1,by simpa using h1,fun m hm=>?_⟩;cases m with
   |zero=>simpa using e
   |succ m=>simpa using h2 m 40
def itF{U:Type}(f:U->U):Nat->U->U
 |0,s=>s
 |k+1,s=>f (itF f k s)
def Y6{U:Type}(f:U->U)(d:U->Prop)(s s':U):Prop:=d s'/\∃k,itF f k s=s'
theorem Jh{U:Type}{f:U->U}{d:U->Prop}(hd:∀s,d s->f s=s){s:U}{k:Nat}(h:d (itF f k s)):∀j,itF f (k+j) s=itF f k s
 |0=>rfl
 |j+1=>by
  show f (itF f (k+j) s)=_
  rw[Jh hd h j,hd _ h]
theorem Y6.uniq{U:Type}{f:U->U}{d:U->Prop}(hd:∀s,d s->f s=s){s a b:U}(h:Y6 f d s a)(g:Y6 f d s b):a=b:=by
 obtain⟨h1,k,rfl⟩:=h;obtain⟨g1,l,rfl⟩:=g;rcases Nat.le_total k l with c|c
 ·have:=Jh hd h1 (l-k);rw[Nat.add_sub_cancel' c] at this;exact this.symm
 ·have:=Jh hd g1 (k-l);rw[Nat.add_sub_cancel' c] at this;exact this
theorem Kv{U:Type}{f:U->U}{I:U->Prop}(hf:∀s,I s->I (f s)){s:U}(h:I s):∀k,I (itF f k s)
 |0=>h
 |k+1=>hf _ (Kv hf h k)
open Classical in
noncomputable def XF{U:Type}(f:U->U)(d:U->Prop)(s:U):U:=if h:∃s',Y6 f d s s' then choose h else s
theorem Y6.eq{U:Type}{f:U->U}{d:U->Prop}(hd:∀s,d s->f s=s){s a:U}(h:Y6 f d s a):XF f d s=a:=by
 have ex:∃s',Y6 f d s s':=⟨a,h⟩;unfold XF;rw[dif_pos ex];exact Y6.uniq hd (Classical.choose_spec ex) h
inductive Rch(N:ND->37)(a:ND):ND->Prop
 |here:Rch N a a
 |on {b c:ND}:Rch N a b->c∈N b->Rch N a c
theorem Rch.trans{a b c:ND}(h:Rch N a b)(g:Rch N b c):Rch N a c:=by
 induction g with
 |here=>exact h
 |on _ e ih=>exact .on ih e
theorem Rch.first{a b c:ND}(e:b∈N a)(h:Rch N b c):Rch N a c:=Rch.trans (.on .here e) h
inductive Via(N:ND->37)(S:37)(r:ND):ND->Prop
 |one {w:ND}:w∈S->r∈N w->Via N S r w
 |on {w x:ND}:w∈S->x∈N w->Via N S r x->Via N S r w
theorem Via.last{S:37}{r w:ND}(h:Via N S r w):∃u∈S,r∈N u:=by
 induction h with
 |one a b=>exact⟨_,a,b⟩
 |on _ _ _ ih=>exact ih
theorem Via.rch{S:37}{r w:ND}(h:Via N S r w):Rch N w r:=by
 induction h with
 |one _ b=>exact .on .here b
 |on _ b _ ih=>exact ih.first b
theorem Via.cut{S:37}{r t w:ND}(h:Via N (S++[r]) t w):Via N S t w\/w=r\/Via N S r w:=by
 induction h with
 |one a b=>
  rcases db.mp a with a'|a'
  ·exact .inl (.one a' b)
  ·exact .inr (.inl (df.mp a'))
 |on a b _ ih=>
  rcases db.mp a with a'|a'
  ·rcases ih with ih|ih|ih
   ·exact .inl (.on a' b ih)
   ·exact .inr (.inr (.one a' (ih▸b)))
   ·exact .inr (.inr (.on a' b ih))
  ·exact .inr (.inl (df.mp a'))
structure DS where
 F:37
 T:37
 c:ND->68
def Yx(N:ND->37)(s:DS):DS:=
 match s.T with
 |[]=>s
 |t::r=>
  match (N t)[(s.c t).getD 0]? with
  |none=>⟨s.F++[t],r,s.c⟩
  |some f=>
   if(s.c f).isSome=true then⟨s.F,t::r,fun x=>if x=t then some ((s.c t).getD 0+1) else s.c x⟩
   else⟨s.F,f::t::r,fun x=>if x=f then some 0 else if x=t then some ((s.c t).getD 0+1) else s.c x⟩
def Vr(s:DS)(b:ND):DS:=if(s.c b).isSome=true then s else⟨s.F,[b],fun x=>if x=b then some 0 else s.c x⟩
def WP(s:DS):Prop:=s.T=[]
theorem WP.fix:∀s,WP s->Yx N s=s:=fun s h=>by
 unfold WP at h;unfold Yx;rw[h]
noncomputable def XS(N:ND->37):37->DS->DS
 |[],s=>s
 |b::r,s=>XS N r (XF (Yx N) WP (Vr s b))
noncomputable def ZR(N:ND->37)(bs:37):37:=(XS N bs ⟨[],[],fun _=>none⟩).F
def chT(N:ND->37):37->Prop
 |f::t::r=>f∈N t/\chT N (t::r)
 |_=>True
theorem chT.rch{N:ND->37}:∀{t:ND}{r:37},chT N (t::r)->∀x∈t::r,Rch N x t
 |t,[],_,x,hx=>by rw[df] at hx;subst hx;exact .here
 |t,u::r,h,x,hx=>by
  rcases cW.mp hx with rfl|hx
  ·exact .here
  ·exact .on (chT.rch h.2 x hx) h.1
structure Wc(N:ND->37)(nd:37)(B:ND->Prop)(s:DS):Prop where
 nodup:(s.F++s.T).Nodup
 dom:∀d,(s.c d).isSome=true↔d∈s.F++s.T
 sub:∀d∈s.F++s.T,d∈nd
 le:∀d k,s.c d=some k->k<=(N d).length
 tak:∀d k,s.c d=some k->∀x∈(N d).take k,x∈s.F++s.T
 fin:∀d∈s.F,s.c d=some (N d).length
 ch:chT N s.T
 via:∀t∈s.T,∀w,Via N s.F t w->Rch N t w
 post:∀pre r po,s.F=pre++r::po->∀w,Via N pre r w->Rch N r w
 beg:∀d∈s.F++s.T,∃b,B b/\Rch N b d
theorem Wc.clo{B:ND->Prop}{s:DS}(h:Wc N nd B s){u x:ND}(hu:u∈s.F)(hx:x∈N u):x∈s.F++s.T:=by
 refine h.tak u _ (h.fin u hu) x ?_;rw[fg];exact hx
theorem Wc.new{B:ND->Prop}{s:DS}(h:Wc N nd B s){f w:ND}(hf:f∉s.F++s.T):¬Via N s.F f w:=fun v=>by
 obtain⟨u,hu,e⟩:=v.last;exact hf (h.clo hu e)
theorem Wc.bg{B:ND->Prop}{s:DS}(h:Wc N nd B s)(e:s.T=[]){b:ND}(hb:B b)(hn:b∈nd):Wc N nd B (Vr s b):=by
 unfold Vr
 by_cases c:(s.c b).isSome=true
 ·rw[og c];exact h
 ·rw[n8 c];have nb:b∉s.F++s.T:=fun z=>c ((h.dom b).mpr z);obtain⟨F,T,cc⟩:=s;cases e;have mem:∀d,d∈F++[b]↔d∈F++[]\/d=b:=fun d=>by simp
  have BE:b∉F:=fun z=>nb (by simpa using z);refine⟨?_,fun d=>?_,fun d hd=>?_,fun d k e=>?_,fun d k e x hx=>?_,fun d hd=>?_,trivial,fun t ht w v=>?_,h.post,fun d hd=>?_⟩
  ·have:=h.nodup;simp only[gp] at this;rw[fy];exact⟨this,by simp,fun a ha b' oS q=>by rw[df] at oS;subst oS;subst q;exact BE ha⟩
  ·show(if d=b then some 0 else cc d).isSome=true↔_
   rw[mem]
   by_cases q:d=b
   ·rw[og q];exact⟨fun _=>.inr q,fun _=>rfl⟩
   ·rw[n8 q,h.dom d];exact⟨.inl,fun z=>z.resolve_right q⟩
  ·rcases(mem d).mp hd with hd|rfl
   ·exact h.sub d hd
   ·exact hn
  ·have e':(if d=b then some 0 else cc d)=some k:=e
   by_cases q:d=b
   ·rw[og q] at e';cases e';exact dH _
   ·rw[n8 q] at e';exact h.le d k e'
  ·have e':(if d=b then some 0 else cc d)=some k:=e
   by_cases q:d=b
   ·rw[og q] at e';cases e';simp at hx
   ·rw[n8 q] at e';exact(mem x).mpr (.inl (h.tak d k e' x hx))
  ·show(if d=b then some 0 else cc d)=_
   have q:d≠b:=fun z=>BE (z▸hd);rw[n8 q];exact h.fin d hd
  ·have OW:t=b:=df.mp ht;subst OW;exact oh v (h.new (by simpa using BE))
  ·rcases(mem d).mp hd with hd|rfl
   ·exact h.beg d hd
   ·exact⟨_,hb,.here⟩
theorem Wc.st{B:ND->Prop}(hN:∀d∈nd,∀x∈N d,x∈nd){s:DS}(h:Wc N nd B s):Wc N nd B (Yx N s):=by
 obtain⟨F,T,c⟩:=s;unfold Yx;cases T with
 |nil=>exact h
 |cons t r=>
  show Wc N nd B (match (N t)[(c t).getD 0]? with
   |none=>⟨F++[t],r,c⟩
   |some f=>if(c f).isSome=true then⟨F,t::r,fun x=>if x=t then some ((c t).getD 0+1) else c x⟩ else⟨F,f::t::r,fun x=>if x=f then some 0 else if x=t then some ((c t).getD 0+1) else c x⟩)
  have wg:t∈F++t::r:=by simp
  obtain⟨k,ek⟩:=fG.mp ((h.dom t).mpr wg);have EL:c t=some k:=ek;have lk:=h.le t k ek;have tF:t∉F:=fun z=>by
   have:=(fy.mp h.nodup).2.2 t z t 39;exact this rfl
  rw[EL,fC];cases ef:(N t)[k]? with
  |none=>
   have kl:k=(N t).length:=by have:=im.mp ef;lia
   have eq:(F++[t])++r=F++t::r:=by simp
   refine⟨?_,fun d=>?_,fun d hd=>?_,h.le,fun d j e x hx=>?_,fun d hd=>?_,?_,fun x hx w v=>?_,fun pre x po e w v=>?_,fun d hd=>?_⟩
   ·show((F++[t])++r).Nodup;rw[eq];exact h.nodup
   ·show _↔d∈(F++[t])++r;rw[eq];exact h.dom d
   ·have pF:d∈(F++[t])++r:=hd;rw[eq] at pF;exact h.sub d pF
   ·show x∈(F++[t])++r;rw[eq];exact h.tak d j e x hx
   ·rcases db.mp hd with hd|hd
    ·exact h.fin d hd
    ·rw[df] at hd;subst hd;rw[<- kl];exact ek
   ·have:=h.ch;cases r with
    |nil=>trivial
    |cons u r=>exact this.2
   ·have xt:Rch N x t:=h.ch.rch x (c7 _ hx);rcases Via.cut v with v|rfl|v
    ·exact h.via x (c7 _ hx) w v
    ·exact xt
    ·exact xt.trans (h.via t 39 w v)
   ·have e':F++[t]=pre++x::po:=e;rcases List.eq_nil_or_concat po with rfl|⟨po',y,rfl⟩
    ·have e2:F++[t]=pre++[x]:=e';obtain⟨rfl,e3⟩:=mT e2 rfl;cases e3;exact h.via t 39 w v
    ·have e2:F++[t]=(pre++x::po')++[y]:=by rw[e',List.concat_eq_append];simp
     obtain⟨e3,_⟩:=mT e2 rfl;exact h.post pre x po' e3 w v
   ·have pF:d∈(F++[t])++r:=hd;rw[eq] at pF;exact h.beg d pF
  |some f=>
   have kl:k<(N t).length:=(dk.mp ef).1;have fN:f∈N t:=cY ef;have tk:∀x∈(N t).take (k+1),x∈(N t).take k\/x=f:=fun x hx=>by
    rw[fz,ef] at hx;rcases db.mp hx with hx|hx
    ·exact .inl hx
    ·simp at hx;exact .inr hx
   by_cases q:(c f).isSome=true
   ·show Wc N nd B (if(c f).isSome=true then _ else _)
    rw[og q];refine⟨h.nodup,fun d=>?_,h.sub,fun d j e=>?_,fun d j e x hx=>?_,fun d hd=>?_,h.ch,h.via,h.post,h.beg⟩
    ·show(if d=t then some (k+1) else c d).isSome=true↔_
     by_cases z:d=t
     ·rw[og z,z];exact⟨fun _=>wg,fun _=>rfl⟩
     ·rw[n8 z];exact h.dom d
    ·have e':(if d=t then some (k+1) else c d)=some j:=e
     by_cases z:d=t
     ·rw[og z] at e';cases e';rw[z];exact kl
     ·rw[n8 z] at e';exact h.le d j e'
    ·have e':(if d=t then some (k+1) else c d)=some j:=e
     by_cases z:d=t
     ·rw[og z] at e';cases e';rw[z] at hx;rcases tk x hx with hx|rfl
      ·exact h.tak t k ek x hx
      ·exact(h.dom x).mp q
     ·rw[n8 z] at e';exact h.tak d j e' x hx
    ·show(if d=t then some (k+1) else c d)=_
     have z:d≠t:=fun z=>tF (z▸hd);rw[n8 z];exact h.fin d hd
   ·show Wc N nd B (if(c f).isSome=true then _ else _)
    rw[n8 q];have nf:f∉F++t::r:=fun z=>q ((h.dom f).mpr z);have Fe:f≠t:=fun z=>nf (z▸wg);have mem:∀d,d∈F++f::t::r↔d∈F++t::r\/d=f:=fun d=>by
     simp only[db,cW];constructor
     ·rintro(a|rfl|a|a)
      ·exact .inl (.inl a)
      ·exact .inr rfl
      ·exact .inl (.inr (.inl a))
      ·exact .inl (.inr (.inr a))
     ·rintro((a|a|a)|a)
      ·exact .inl a
      ·exact .inr (.inr (.inl a))
      ·exact .inr (.inr (.inr a))
      ·exact .inr (.inl a)
    refine⟨?_,fun d=>?_,fun d hd=>?_,fun d j e=>?_,fun d j e x hx=>?_,fun d hd=>?_,⟨fN,h.ch⟩,fun x hx w v=>?_,h.post,fun d hd=>?_⟩
    ·obtain⟨a1,a2,a3⟩:=fy.mp h.nodup
     show(F++f::t::r).Nodup
     rw[fy];refine⟨a1,fY.mpr ⟨fun z=>nf (fb _ z),a2⟩,fun a ha b hb e=>?_⟩;rcases cW.mp hb with rfl|hb
     ·exact nf (dN _ (e▸ha))
     ·exact a3 a ha b hb e
    ·show(if d=f then some 0 else if d=t then some (k+1) else c d).isSome=true↔d∈F++f::t::r
     rw[mem]
     by_cases z:d=f
     ·rw[og z];exact⟨fun _=>.inr z,fun _=>rfl⟩
     ·rw[n8 z]
      by_cases z2:d=t
      ·rw[og z2,z2];exact⟨fun _=>.inl wg,fun _=>rfl⟩
      ·rw[n8 z2,h.dom d];exact⟨.inl,fun y=>y.resolve_right z⟩
    ·rcases(mem d).mp hd with hd|rfl
     ·exact h.sub d hd
     ·exact hN t (h.sub t wg) _ fN
    ·have e':(if d=f then some 0 else if d=t then some (k+1) else c d)=some j:=e
     by_cases z:d=f
     ·rw[og z] at e';cases e';exact dH _
     ·rw[n8 z] at e'
      by_cases z2:d=t
      ·rw[og z2] at e';cases e';rw[z2];exact kl
      ·rw[n8 z2] at e';exact h.le d j e'
    ·have e':(if d=f then some 0 else if d=t then some (k+1) else c d)=some j:=e
     show x∈F++f::t::r
     rw[mem]
     by_cases z:d=f
     ·rw[og z] at e';cases e';simp at hx
     ·rw[n8 z] at e'
      by_cases z2:d=t
      ·rw[og z2] at e';cases e';rw[z2] at hx;rcases tk x hx with hx|rfl
       ·exact .inl (h.tak t k ek x hx)
       ·exact .inr rfl
      ·rw[n8 z2] at e';exact .inl (h.tak d j e' x hx)
    ·show(if d=f then some 0 else if d=t then some (k+1) else c d)=_
     have z:d≠f:=fun z=>nf (dN _ (z▸hd));have z2:d≠t:=fun z=>tF (z▸hd);rw[n8 z,n8 z2];exact h.fin d hd
    ·rcases cW.mp hx with rfl|hx
     ·exact oh v (h.new nf)
     ·exact h.via x hx w v
    ·rcases(mem d).mp hd with hd|rfl
     ·exact h.beg d hd
     ·obtain⟨b,hb,g⟩:=h.beg t wg;exact⟨b,hb,.on g fN⟩
def jU(g:ND->Nat):37->Nat
 |[]=>0
 |d::r=>g d+jU g r
theorem KB{g h:ND->Nat}:∀{l:37},(∀d∈l,g d<=h d)->jU g l<=jU h l
 |[],_=>cP _
 |d::r,q=>Nat.add_le_add (q d 39) (KB fun x hx=>q x (c7 _ hx))
theorem jr{g h:ND->Nat}{t:ND}(lt:g t<h t):∀{l:37},(∀d∈l,g d<=h d)->t∈l->jU g l<jU h l
 |d::r,q,m=>by
  have q0:=q d 39;have q1:=KB fun x hx=>q x (c7 _ hx);rcases cW.mp m with rfl|m
  ·simp only[jU];lia
  ·have:=jr lt (fun x hx=>q x (c7 _ hx)) m;simp only[jU];lia
def Uh(N:ND->37)(nd:37)(s:DS):Nat:=jU (fun d=>(N d).length-(s.c d).getD 0) nd+(nd.length-s.F.length)
theorem Wc.less{B:ND->Prop}{s:DS}(h:Wc N nd B s)(ne:s.T≠[]):Uh N nd (Yx N s)<Uh N nd s:=by
 obtain⟨F,T,c⟩:=s;unfold Yx;cases T with
 |nil=>exact oh rfl ne
 |cons t r=>
  show Uh N nd (match (N t)[(c t).getD 0]? with
   |none=>⟨F++[t],r,c⟩
   |some f=>if(c f).isSome=true then⟨F,t::r,fun x=>if x=t then some ((c t).getD 0+1) else c x⟩ else⟨F,f::t::r,fun x=>if x=f then some 0 else if x=t then some ((c t).getD 0+1) else c x⟩)<_
  have wg:t∈F++t::r:=by simp
  have BB:=h.sub t wg;cases ef:(N t)[(c t).getD 0]? with
  |none=>
   have EB:(F++[t]).Nodup:=by
    have:=h.nodup;have e:F++t::r=(F++[t])++r:=by simp
    have rV:(F++t::r).Nodup:=this;rw[e] at rV;exact(fy.mp rV).1
   have:=ZN EB (nd:=nd) fun d hd=>h.sub d (by
    rcases db.mp hd with hd|hd
    ·exact dN _ hd
    ·rw[df] at hd;subst hd;exact wg)
   rw[cZ,fB] at this;unfold Uh;simp only[cZ,fB];lia
  |some f=>
   have kl:=(dk.mp ef).1
   by_cases q:(c f).isSome=true
   ·show Uh N nd (if(c f).isSome=true then _ else _)<_
    rw[og q];unfold Uh;refine Nat.add_lt_add_right (jr (t:=t) ?_ (fun d _=>?_) BB) _
    ·show(N t).length-(if t=t then some ((c t).getD 0+1) else c t).getD 0<_
     rw[og rfl,fC]
     show(N t).length-_<(N t).length-(c t).getD 0
     lia
    ·show(N d).length-(if d=t then some ((c t).getD 0+1) else c d).getD 0<=(N d).length-(c d).getD 0
     by_cases z:d=t
     ·rw[og z,fC,z];lia
     ·rw[n8 z];exact cP _
   ·show Uh N nd (if(c f).isSome=true then _ else _)<_
    rw[n8 q];have cf:c f=none:=by cases e:c f with|none=>rfl|some v=>rw[e] at q;exact oh rfl q
    have Fe:t≠f:=fun z=>by
     have:=(h.dom t).mpr wg;have rV:(c t).isSome=true:=this;rw[z,cf] at rV;cases rV
    unfold Uh;refine Nat.add_lt_add_right (jr (t:=t) ?_ (fun d _=>?_) BB) _
    ·show(N t).length-(if t=f then some 0 else if t=t then some ((c t).getD 0+1) else c t).getD 0<(N t).length-(c t).getD 0
     rw[n8 Fe,og rfl,fC];lia
    ·show(N d).length-(if d=f then some 0 else if d=t then some ((c t).getD 0+1) else c d).getD 0<=(N d).length-(c d).getD 0
     by_cases z:d=f
     ·rw[og z,fC,z,cf];exact cP _
     ·rw[n8 z]
      by_cases z2:d=t
      ·rw[og z2,fC,z2];lia
      ·rw[n8 z2];exact cP _
theorem vd{U:Type}(f:U->U)(s:U):∀k,itF f (k+1) s=itF f k (f s)
 |0=>rfl
 |k+1=>by show f (itF f (k+1) s)=f (itF f k (f s));rw[vd f s k]
theorem Zcp{U:Type}{f:U->U}{d I:U->Prop}(m:U->Nat)(hI:∀s,I s->I (f s))(hm:∀s,I s->¬d s->m (f s)<m s):∀(n:Nat) (s:U),m s<=n->I s->∃s',Y6 f d s s':=by
 intro n
 induction n with
 |zero=>
  intro s h i
  by_cases q:d s
  ·exact⟨s,q,0,rfl⟩
  ·have:=hm s i q;lia
 |succ n ih=>
  intro s h i
  by_cases q:d s
  ·exact⟨s,q,0,rfl⟩
  ·obtain⟨s',a,k,b⟩:=ih (f s) (by have:=hm s i q;lia) (hI s i);exact⟨s',a,k+1,by rw[vd];exact b⟩
theorem yh{U:Type}{f:U->U}{d I:U->Prop}(hd:∀s,d s->f s=s)(m:U->Nat)(hI:∀s,I s->I (f s))(hm:∀s,I s->¬d s->m (f s)<m s){s:U}(h:I s):Y6 f d s (XF f d s)/\I (XF f d s):=by
 obtain⟨s',e⟩:=Zcp (d:=d) m hI hm (m s) s (cP _) h;rw[e.eq hd];refine⟨e,?_⟩;obtain⟨_,k,rfl⟩:=e;exact Kv hI h k
theorem Wc.run{B:ND->Prop}(hN:∀d∈nd,∀x∈N d,x∈nd){s:DS}(h:Wc N nd B s):Y6 (Yx N) WP s (XF (Yx N) WP s)/\Wc N nd B (XF (Yx N) WP s):=
 yh WP.fix (Uh N nd) (fun _ i=>i.st hN) (fun _ i q=>i.less q) h
theorem vC{F r:37}{t:ND}(e:(N t)[(c t).getD 0]?=none):Yx N ⟨F,t::r,c⟩=⟨F++[t],r,c⟩:=by
 unfold Yx;simp only[e]
theorem vo{F r:37}{t f:ND}(e:(N t)[(c t).getD 0]?=some f)(q:(c f).isSome=true):Yx N ⟨F,t::r,c⟩=⟨F,t::r,fun x=>if x=t then some ((c t).getD 0+1) else c x⟩:=by
 unfold Yx;simp only[e];rw[og q]
theorem vj{F r:37}{t f:ND}(e:(N t)[(c t).getD 0]?=some f)(q:¬(c f).isSome=true):Yx N ⟨F,t::r,c⟩=⟨F,f::t::r,fun x=>if x=f then some 0 else if x=t then some ((c t).getD 0+1) else c x⟩:=by
 unfold Yx;simp only[e];rw[n8 q]
theorem QK{s:DS}(h:d∈s.F++s.T):d∈(Yx N s).F++(Yx N s).T:=by
 obtain⟨F,T,c⟩:=s;cases T with
 |nil=>exact h
 |cons t r=>
  have h':d∈F++t::r:=h;cases e:(N t)[(c t).getD 0]? with
  |none=>rw[vC e];show d∈(F++[t])++r;simpa using h'
  |some f=>
   by_cases q:(c f).isSome=true
   ·rw[vo e q];exact h'
   ·rw[vj e q]
    show d∈F++f::t::r
    rcases db.mp h' with a|a
    ·exact dN _ a
    ·exact fb _ (c7 _ a)
theorem Kh{N:ND->37}{s:DS}{d:ND}(h:d∈s.F++s.T):∀k,d∈(itF (Yx N) k s).F++(itF (Yx N) k s).T
 |0=>h
 |k+1=>QK (Kh h k)
structure jm(N:ND->37)(nd:37)(B:ND->Prop)(F:37):Prop where
 nodup:F.Nodup
 sub:∀d∈F,d∈nd
 clo:∀d∈F,∀x∈N d,x∈F
 post:∀pre r po,F=pre++r::po->∀w,Via N pre r w->Rch N r w
 beg:∀d∈F,∃b,B b/\Rch N b d
theorem Wc.nil{B:ND->Prop}:Wc N nd B ⟨[],[],fun _=>none⟩:=
 ⟨lZ,fun d=>by simp,fun d hd=>by simp at hd,fun d k e=>(by cases e),fun d k e=>(by cases e),fun d hd=>(by simp at hd),trivial,fun t ht=>(by simp at ht),fun pre r po e=>(by simp at e),fun d hd=>(by simp at hd)⟩
theorem Zbn{s:DS}{b:ND}(d:ND)(e:s.T=[])(h:d∈s.F\/d=b)(hd:(s.c b).isSome=true->b∈s.F++s.T):d∈(Vr s b).F++(Vr s b).T:=by
 unfold Vr
 by_cases c:(s.c b).isSome=true
 ·rw[og c];rcases h with h|rfl
  ·exact dN _ h
  ·exact hd c
 ·rw[n8 c];rcases h with h|rfl
  ·exact dN _ h
  ·exact fb _ 39
theorem jW{N:ND->37}{nd:37}{B:ND->Prop}(hN:∀d∈nd,∀x∈N d,x∈nd):∀{bs:37}{s:DS},(∀b∈bs,b∈nd/\B b)->Wc N nd B s->s.T=[]->Wc N nd B (XS N bs s)/\(XS N bs s).T=[]/\(∀d∈s.F,d∈(XS N bs s).F)/\∀b∈bs,b∈(XS N bs s).F
 |[],s,_,h,e=>⟨h,e,fun _ q=>q,fun _ q=>by cases q⟩
 |b::r,s,hb,h,e=>by
  have h1:=h.bg e (hb b 39).2 (hb b 39).1;obtain⟨e1,h2⟩:=h1.run hN;obtain⟨a1,a2,a3,a4⟩:=jW hN (bs:=r) (fun x hx=>hb x (c7 _ hx)) h2 e1.1;have mem:∀d,d∈s.F\/d=b->d∈(XF (Yx N) WP (Vr s b)).F:=fun d q=>by
   have m:=Zbn d e q (h.dom b).mp;obtain⟨z,k,ek⟩:=e1;have:=Kh (N:=N) m k;rw[ek,show(XF (Yx N) WP (Vr s b)).T=[] from z,gp] at this;exact this
  refine⟨a1,a2,fun d hd=>a3 d (mem d (.inl hd)),fun x hx=>?_⟩;rcases cW.mp hx with rfl|hx
  ·exact a3 _ (mem _ (.inr rfl))
  ·exact a4 x hx
theorem XD{bs:37}(hN:∀d∈nd,∀x∈N d,x∈nd)(hb:∀b∈bs,b∈nd):jm N nd (·∈bs) (ZR N bs)/\∀b∈bs,b∈ZR N bs:=by
 obtain⟨h,e,_,m⟩:=jW (B:=(·∈bs)) hN (fun b q=>⟨hb b q,q⟩) Wc.nil rfl;refine⟨⟨?_,fun d hd=>h.sub d (dN _ hd),fun d hd x hx=>?_,h.post,fun d hd=>h.beg d (dN _ hd)⟩,m⟩
 ·have:=h.nodup;rw[e,gp] at this;exact this
 ·have:=h.clo hd hx;rw[e,gp] at this;exact this
theorem yS{bs:37}(hN:∀d∈nd,∀x∈N d,x∈nd)(hb:∀b∈bs,b∈nd):d∈ZR N bs↔∃b∈bs,Rch N b d:=by
 obtain⟨h,m⟩:=XD hN hb;refine⟨h.beg d,fun h'=>?_⟩;obtain⟨b,q,r⟩:=h'
 induction r with
 |here=>exact m b q
 |on _ e ih=>exact h.clo _ ih _ e
def xm(S row:37)(a:ND):37:=if a∈S\/a∈row then row else row++[a]
def Xk(S:37):37->37->37
 |row,[]=>row
 |row,a::r=>Xk S (xm S row a) r
theorem Zav{S row:37}{a x:ND}:x∈xm S row a↔x∈row\/(x=a/\a∉S):=by
 unfold xm
 by_cases h:a∈S\/a∈row
 ·rw[og h];refine⟨.inl,fun q=>q.elim id fun⟨e,n⟩=>?_⟩;rw[e];exact h.resolve_left n
 ·rw[n8 h,db,df];exact⟨fun q=>q.imp id fun e=>⟨e,fun n=>h (.inl n)⟩,fun q=>q.imp id fun e=>e.1⟩
theorem XX{S:37}{x:ND}:∀{xs row:37},x∈Xk S row xs↔x∈row\/(x∈xs/\x∉S)
 |[],row=>by simp[Xk]
 |a::r,row=>by
  rw[Xk,XX,Zav,cW];constructor
  ·rintro((h|⟨rfl,h⟩)|⟨h,g⟩)
   ·exact .inl h
   ·exact .inr ⟨.inl rfl,h⟩
   ·exact .inr ⟨.inr h,g⟩
  ·rintro(h|⟨rfl|h,g⟩)
   ·exact .inl (.inl h)
   ·exact .inl (.inr ⟨rfl,g⟩)
   ·exact .inr ⟨h,g⟩
theorem JW{S row:37}{a:ND}(h:row.Nodup):(xm S row a).Nodup:=by
 unfold xm
 by_cases q:a∈S\/a∈row
 ·rw[og q];exact h
 ·rw[n8 q,fy];exact⟨h,by simp,fun x hx y hy e=>by rw[df] at hy;subst hy;subst e;exact q (.inr hx)⟩
theorem VE{S:37}:∀{xs row:37},row.Nodup->(Xk S row xs).Nodup
 |[],_,h=>h
 |a::r,row,h=>by rw[Xk];exact VE (JW h)
theorem ZaC{S row:37}{a:ND}:∃t,xm S row a=row++t:=by
 unfold xm
 by_cases q:a∈S\/a∈row
 ·rw[og q];exact⟨[],by simp⟩
 ·rw[n8 q];exact⟨_,rfl⟩
theorem vU{S:37}:∀{xs row:37},∃t,Xk S row xs=row++t
 |[],row=>⟨[],by simp[Xk]⟩
 |a::r,row=>by
  obtain⟨t,e⟩:=ZaC (S:=S) (row:=row) (a:=a);obtain⟨u,e2⟩:=vU (S:=S) (xs:=r) (row:=xm S row a);exact⟨t++u,by rw[Xk,e2,e,gR]⟩
def WI(G:ND->37)(S:37)(s:37×Nat):37×Nat:=
 match s.1[s.2]? with
 |none=>s
 |some a=>(Xk S s.1 (G a),s.2+1)
def Vo(s:37×Nat):Prop:=s.1.length<=s.2
theorem Vo.fix{S:37}:∀s,Vo s->WI G S s=s:=fun s h=>by
 unfold WI;rw[im.mpr h]
theorem yn{S row:37}{i:Nat}{a:ND}(e:row[i]?=some a):WI G S (row,i)=(Xk S row (G a),i+1):=by
 unfold WI;simp only[e]
noncomputable def Za1(G:ND->37)(S row:37):37:=(XF (WI G S) Vo (row,0)).1
structure V4(G:ND->37)(S:37)(nd:37)(P:ND->Prop)(row:37)(s:37×Nat):Prop where
 nodup:s.1.Nodup
 out:∀x∈s.1,x∉S\/x∈row
 sub:∀x∈s.1,x∈nd
 has:∀x∈row,x∈s.1
 at_:s.2<=s.1.length
 clo:∀i x,i<s.2->s.1[i]?=some x->∀y∈G x,y∈S\/y∈s.1
 all:∀x∈s.1,P x
theorem V4.st{S row:37}{P:ND->Prop}(hG:∀d∈nd,∀x∈G d,x∈nd)(hP:∀x y,P x->y∈G x->y∉S->P y){s:37×Nat}(h:V4 G S nd P row s):V4 G S nd P row (WI G S s):=by
 obtain⟨r,i⟩:=s;cases e:r[i]? with
 |none=>rw[Vo.fix (r,i) (im.mp e)];exact h
 |some a=>
  rw[yn e];have am:a∈r:=cY e;have il:i<r.length:=(dk.mp e).1;obtain⟨t,et⟩:=vU (S:=S) (xs:=G a) (row:=r);refine⟨VE h.nodup,fun x hx=>?_,fun x hx=>?_,fun x hx=>XX.mpr (.inl (h.has x hx)),?_,fun j x hj ej y hy=>?_,fun x hx=>?_⟩
  ·rcases XX.mp hx with q|q
   ·exact h.out x q
   ·exact .inl q.2
  ·rcases XX.mp hx with q|q
   ·exact h.sub x q
   ·exact hG a (h.sub a am) x q.1
  ·show i+1<=(Xk S r (G a)).length
   rw[et,cZ];lia
  ·have Af:(Xk S r (G a))[j]?=some x:=ej;have tU:j<i+1:=hj
   show y∈S\/y∈Xk S r (G a)
   rw[et,gJ 40] at Af;rw[XX]
   by_cases c:j=i
   ·subst c;rw[e] at Af;cases Af
    by_cases z:y∈S
    ·exact .inl z
    ·exact .inr (.inr ⟨hy,z⟩)
   ·exact(h.clo j x (show j<i by lia) Af y hy).imp id .inl
  ·rcases XX.mp hx with q|q
   ·exact h.all x q
   ·exact hP a x (h.all a am) q.1 q.2
theorem V4.less{S row:37}{P:ND->Prop}{s:37×Nat}(h:V4 G S nd P row s)(hG:∀d∈nd,∀x∈G d,x∈nd)(n:¬Vo s):nd.length-(WI G S s).2<nd.length-s.2:=by
 obtain⟨r,i⟩:=s;have il:i<r.length:=Nat.not_le.mp n;rw[yn (cR il)];have:=ZN h.nodup h.sub
 show nd.length-(i+1)<nd.length-i
 have:r.length<=nd.length:=this;lia
theorem V4.run{S row:37}{P:ND->Prop}(hG:∀d∈nd,∀x∈G d,x∈nd)(hP:∀x y,P x->y∈G x->y∉S->P y){s:37×Nat}(h:V4 G S nd P row s):Y6 (WI G S) Vo s (XF (WI G S) Vo s)/\V4 G S nd P row (XF (WI G S) Vo s):=
 yh Vo.fix (fun s=>nd.length-s.2) (fun _ i=>i.st hG hP) (fun _ i q=>i.less hG q) h
theorem V4.start{S row:37}{P:ND->Prop}(h1:row.Nodup)(h2:∀x∈row,x∈nd)(h3:∀x∈row,P x):V4 G S nd P row (row,0):=
 ⟨h1,fun _ q=>.inr q,h2,fun _ q=>q,dH _,fun _ _ q=>oh q (hU _),h3⟩
structure Zcw(G:ND->37)(S:37)(nd:37)(P:ND->Prop)(row res:37):Prop where
 nodup:res.Nodup
 out:∀x∈res,x∉S\/x∈row
 sub:∀x∈res,x∈nd
 has:∀x∈row,x∈res
 clo:∀x∈res,∀y∈G x,y∈S\/y∈res
 all:∀x∈res,P x
theorem V4.fin{S row:37}{P:ND->Prop}{s:37×Nat}(h:V4 G S nd P row s)(d:Vo s):Zcw G S nd P row s.1:=
 ⟨h.nodup,h.out,h.sub,h.has,fun x hx y hy=>by
  obtain⟨i,hi,e⟩:=fo hx;exact h.clo i x (fq hi d) (by rw[cR hi,e]) y hy,h.all⟩
theorem Zca{S row:37}{P:ND->Prop}(hG:∀d∈nd,∀x∈G d,x∈nd)(hP:∀x y,P x->y∈G x->y∉S->P y)(h1:row.Nodup)(h2:∀x∈row,x∈nd)(h3:∀x∈row,P x):Zcw G S nd P row (Za1 G S row):=by
 obtain⟨a,b⟩:=(V4.start (G:=G) (S:=S) h1 h2 h3).run hG hP;exact b.fin a.1
def Yv(N:ND->37)(F:37)(v:ND):37:=F.flatMap fun u=>((N u).filter fun x=>decide (x=v)).map fun _=>u
theorem VY{F:37}{u v:ND}:u∈Yv N F v↔u∈F/\v∈N u:=by
 unfold Yv;rw[List.mem_flatMap];constructor
 ·rintro⟨w,hw,q⟩;obtain⟨x,hx,rfl⟩:=da.mp q;obtain⟨h1,h2⟩:=fA.mp hx;exact⟨hw,by rw[<- dE h2];exact h1⟩
 ·rintro⟨h1,h2⟩;exact⟨u,h1,da.mpr ⟨v,fA.mpr ⟨h2,dy rfl⟩,rfl⟩⟩
open Classical in
noncomputable def Zay(N:ND->37)(F:37)(ks:List (37))(r:ND):List (37):=if r∈ks.flatten then ks else ks++[Za1 (Yv N F) ks.flatten [r]]
noncomputable def Y7(N:ND->37)(F:37):37->List (37)
 |[]=>[]
 |r::po=>Zay N F (Y7 N F po) r
noncomputable def Zf(N:ND->37)(bs:37):List (37):=(Y7 N (ZR N bs) (ZR N bs)).reverse
structure KOk(N:ND->37)(F po:37)(ks:List (37)):Prop where
 nodup:ks.flatten.Nodup
 sub:∀x∈ks.flatten,x∈F
 has:∀x∈po,x∈ks.flatten
 back:∀a K b,ks=a++K::b->∀v∈K,∀u∈F,v∈N u->u∈(a++[K]).flatten
 ne:∀K∈ks,K≠[]
 tied:∀K∈ks,∀x∈K,∀y∈K,Rch N x y
theorem kD{a:List (37)}{K:37}:(a++[K]).flatten=a.flatten++K:=by simp
theorem qk{N:ND->37}{nd:37}{B:ND->Prop}{F:37}(hF:jm N nd B F):∀(po pre:37),F=pre++po->KOk N F po (Y7 N F po)
 |[],_,_=>⟨by simp[Y7],fun _ q=>by simp[Y7] at q,fun _ q=>(by cases q),fun a K b e=>(by simp[Y7] at e),fun K q=>(by simp[Y7] at q),fun K q=>(by simp[Y7] at q)⟩
 |r::po,pre,e=>by
  have ih:=qk hF po (pre++[r]) (by rw[e];simp);rw[Y7];unfold Zay
  by_cases c:r∈(Y7 N F po).flatten
  ·rw[og c];refine⟨ih.nodup,ih.sub,fun x hx=>?_,ih.back,ih.ne,ih.tied⟩;rcases cW.mp hx with rfl|hx
   ·exact c
   ·exact ih.has x hx
  ·rw[n8 c];generalize Y7 N F po=ks at ih c ⊢;have rF:r∈F:=by rw[e];simp
   have ok:=Zca (G:=Yv N F) (S:=ks.flatten) (nd:=F) (row:=[r]) (P:=fun x=>x=r\/Via N pre r x) (fun d hd x hx=>(VY.mp hx).1) (fun x y hx hy nS=>by
    obtain⟨yF,xy⟩:=VY.mp hy;rw[e] at yF;rcases db.mp yF with yp|yp
    ·rcases hx with rfl|hx
     ·exact .inr (.one yp xy)
     ·exact .inr (.on yp xy hx)
    ·rcases cW.mp yp with rfl|yp
     ·exact .inl rfl
     ·exact oh (ih.has y yp) nS) 39 (fun x hx=>by rw[df] at hx;subst hx;exact rF) (fun x hx=>.inl (df.mp hx))
   generalize Za1 (Yv N F) ks.flatten [r]=K at ok ⊢;have GC:∀x∈K,x∉ks.flatten:=fun x hx q=>by
    rcases ok.out x hx with z|z
    ·exact z q
    ·rw[df] at z;subst z;exact c q
   refine⟨?_,fun x hx=>?_,fun x hx=>?_,fun a K' b ek v hv u hu uv=>?_,fun K' Hv=>?_,fun K' Hv x hx y hy=>?_⟩
   ·rw[kD,fy];exact⟨ih.nodup,ok.nodup,fun x hx y hy q=>GC y hy (q▸hx)⟩
   ·rw[kD] at hx;rcases db.mp hx with q|q
    ·exact ih.sub x q
    ·exact ok.sub x q
   ·rw[kD];rcases cW.mp hx with rfl|q
    ·exact fb _ (ok.has _ 39)
    ·exact dN _ (ih.has x q)
   ·rcases List.eq_nil_or_concat b with rfl|⟨b',z,rfl⟩
    ·have EL:ks++[K]=a++[K']:=ek;obtain⟨rfl,e3⟩:=mT EL rfl;cases e3;rw[kD];rcases ok.clo v hv u (VY.mpr ⟨hu,uv⟩) with q|q
     ·exact dN _ q
     ·exact fb _ q
    ·have EL:ks++[K]=(a++K'::b')++[z]:=by rw[ek,List.concat_eq_append];simp
     obtain⟨e3,_⟩:=mT EL rfl;exact ih.back a K' b' e3 v hv u hu uv
   ·rcases db.mp Hv with q|q
    ·exact ih.ne K' q
    ·rw[df] at q;subst q;exact List.ne_nil_of_mem (ok.has r 39)
   ·rcases db.mp Hv with q|q
    ·exact ih.tied K' q x hx y hy
    ·rw[df] at q;subst q;have to:Rch N x r:=by
      rcases ok.all x hx with rfl|v
      ·exact .here
      ·exact v.rch
     have En:Rch N r y:=by
      rcases ok.all y hy with rfl|v
      ·exact .here
      ·exact hF.post pre r po e y v
     exact to.trans En
def rkF(ks:List (37))(d:ND):Nat:=ks.findIdx fun K=>decide (d∈K)
structure qB(N:ND->37)(F:37)(ks:List (37)):Prop where
 nodup:ks.flatten.Nodup
 mem:∀x,x∈ks.flatten↔x∈F
 ne:∀K∈ks,K≠[]
 lt:∀x∈F,rkF ks x<ks.length
 inK:∀i K,ks[i]?=some K->∀x,x∈K↔x∈F/\rkF ks x=i
 le:∀u∈F,∀v∈N u,rkF ks v<=rkF ks u
 tied:∀x∈F,∀y∈F,rkF ks x=rkF ks y->Rch N x y
theorem vc:∀{ks:List (37)}{i j:Nat}{K L:37}{x:ND},ks.flatten.Nodup->ks[i]?=some K->ks[j]?=some L->x∈K->x∈L->i=j
 |[],i,_,_,_,_,_,e,_,_,_=>by simp at e
 |A::r,i,j,K,L,x,h,ei,ej,hK,hL=>by
  rw[List.flatten_cons,fy] at h;have inr:∀{i:Nat}{K:37},r[i]?=some K->x∈K->x∈r.flatten:=fun e q=>mf.mpr ⟨_,cY e,q⟩;cases i with
  |zero=>
   cases j with
   |zero=>rfl
   |succ j=>
    simp at ei ej;subst ei;exact oh rfl (h.2.2 x hK x (inr ej hL))
  |succ i=>
   cases j with
   |zero=>
    simp at ei ej;subst ej;exact oh rfl (h.2.2 x hL x (inr ei hK))
   |succ j=>
    simp at ei ej;rw[vc h.2.1 ei ej hK hL]
theorem ZcI{i:Nat}{K:37}{x:ND}(h:ks.flatten.Nodup)(e:ks[i]?=some K)(hx:x∈K):rkF ks x=i:=by
 have ex:∃L∈ks,decide (x∈L)=true:=⟨K,cY e,dy hx⟩;have lt:rkF ks x<ks.length:=μ ex;have p:=List.findIdx_getElem (p:=fun L=>decide (x∈L)) (xs:=ks) (w:=lt);exact vc h (cR lt) e (dE p) hx
theorem kQ{x:ND}(h:x∈ks.flatten):∃K,ks[rkF ks x]?=some K/\x∈K:=by
 obtain⟨K,hK,hx⟩:=mf.mp h;have lt:rkF ks x<ks.length:=μ ⟨K,hK,dy hx⟩;have p:=List.findIdx_getElem (p:=fun L=>decide (x∈L)) (xs:=ks) (w:=lt);exact⟨_,cR lt,dE p⟩
theorem Wp{bs:37}(hN:∀d∈nd,∀x∈N d,x∈nd)(hb:∀b∈bs,b∈nd):qB N (ZR N bs) (44):=by
 obtain⟨hF,_⟩:=XD hN hb;have ok:=qk hF (ZR N bs) [] rfl;have eR:Y7 N (ZR N bs) (ZR N bs)=(44).reverse:=by unfold Zf;rw[List.reverse_reverse]
 rw[eR] at ok;generalize ZR N bs=F at hF ok ⊢;generalize Zf N bs=ks at ok ⊢;have wX:∀x,x∈ks.reverse.flatten↔x∈ks.flatten:=fun x=>by
  simp only[mf,iB]
 have EB:ks.flatten.Nodup:=by
  have:=ok.nodup;have p:ks.reverse.flatten.Perm ks.flatten:=(List.reverse_perm ks).flatten;exact p.nodup_iff.mp this
 have mem:∀x,x∈ks.flatten↔x∈F:=fun x=>⟨fun q=>ok.sub x ((wX x).mpr q),fun q=>(wX x).mp (ok.has x q)⟩;refine⟨EB,mem,fun K q=>ok.ne K (iB.mpr q),fun x hx=>?_,fun i K e x=>⟨fun q=>⟨(mem x).mp (mf.mpr ⟨K,cY e,q⟩),ZcI EB e q⟩,fun⟨q,r⟩=>?_⟩,fun u hu v uv=>?_,fun x hx y hy q=>?_⟩
 ·obtain⟨K,e,_⟩:=kQ ((mem x).mpr hx);exact(dk.mp e).1
 ·obtain⟨L,e2,h2⟩:=kQ ((mem x).mpr q);rw[r,e] at e2;cases e2;exact h2
 ·obtain⟨L,e2,h2⟩:=kQ ((mem v).mpr (hF.clo u hu v uv));have lt:=(dk.mp e2).1;have e3:ks=ks.take (rkF ks v)++L::ks.drop (rkF ks v+1):=by
   have:=iw (rkF ks v) ks;rw[i8 lt] at this;rw[(dk.mp e2).2] at this;exact this.symm
  have e4:ks.reverse=(ks.drop (rkF ks v+1)).reverse++L::(ks.take (rkF ks v)).reverse:=by
   conv=>lhs;rw[e3]
   simp
  have:=ok.back _ _ _ e4 v h2 u hu uv;obtain⟨M,hM,uM⟩:=mf.mp this;have Av:∃j,ks[j]?=some M/\rkF ks v<=j:=by
   rcases db.mp hM with z|z
   ·obtain⟨j,hj,ej⟩:=fo (iB.mp z);refine⟨rkF ks v+1+j,?_,by lia⟩;rw[<- lQ,cR hj,ej]
   ·rw[df] at z;subst z;exact⟨_,e2,cP _⟩
  obtain⟨j,ej,lj⟩:=Av;rw[ZcI EB ej uM];exact lj
 ·obtain⟨K,e1,h1⟩:=kQ ((mem x).mpr hx);obtain⟨L,e2,h2⟩:=kQ ((mem y).mpr hy);rw[q,e2] at e1;cases e1;exact ok.tied _ (iB.mpr (cY e2)) x h1 y h2
abbrev PRw:=List (ND×37)
def za(pa:37)(row:PRw)(x:ND):PRw:=if x∈row.map (·.1) then row else row++[(x,pa++[x])]
def Yw(pa:37):PRw->37->PRw
 |row,[]=>row
 |row,x::r=>Yw pa (za pa row x) r
theorem kY{row:PRw}{x:ND}:∃t,za pa row x=row++t:=by
 unfold za
 by_cases q:x∈row.map (·.1)
 ·rw[og q];exact⟨[],by simp⟩
 ·rw[n8 q];exact⟨_,rfl⟩
theorem ql{pa:37}:∀{xs:37}{row:PRw},∃t,Yw pa row xs=row++t
 |[],row=>⟨[],by simp[Yw]⟩
 |a::r,row=>by
  obtain⟨t,e⟩:=kY (pa:=pa) (row:=row) (x:=a);obtain⟨u,e2⟩:=ql (pa:=pa) (xs:=r) (row:=za pa row a);exact⟨t++u,by rw[Yw,e2,e,gR]⟩
theorem ZaA{row:PRw}{x:ND}:x∈(za pa row x).map (·.1):=by
 unfold za
 by_cases q:x∈row.map (·.1)
 ·rw[og q];exact q
 ·rw[n8 q];simp
theorem qy{pa:37}:∀{xs:37}{row:PRw},∀x∈xs,x∈(Yw pa row xs).map (·.1)
 |a::r,row,x,hx=>by
  rw[Yw];rcases cW.mp hx with rfl|hx
  ·obtain⟨t,e⟩:=ql (pa:=pa) (xs:=r) (row:=za pa row x);rw[e,eO];exact dN _ ZaA
  ·exact qy x hx
theorem zT{N:ND->37}:∀{p:37}{a x:ND},ZA N (p++[a])=true->x∈N a->ZA N (p++[a]++[x])=true
 |[],a,x,_,h=>by simp[ZA,h]
 |[b],a,x,h,g=>by
  simp[ZA] at h ⊢; exact⟨h,g⟩
 |b::c::r,a,x,h,g=>by
  have h':(decide (c∈N b)&&ZA N (c::r++[a]))=true:=h
  show(decide (c∈N b)&&ZA N (c::r++[a]++[x]))=true
  rw[dg] at h' ⊢;exact⟨h'.1,zT h'.2 g⟩
structure VR(N:ND->37)(nd bs:37)(row:PRw):Prop where
 nodup:(row.map (·.1)).Nodup
 sub:∀e∈row,e.1∈nd
 link:∀e∈row,(e.2=[e.1]/\e.1∈bs)\/∃q∈row,e.2=q.2++[e.1]/\e.1∈N q.1
 chn:∀e∈row,ZA N e.2=true/\Vi bs e.2=true/\(∃p,e.2=p++[e.1])/\∀x∈e.2,x∈nd
 len:∀(i:Nat) e,row[i]?=some e->e.2.length<=i+1
theorem VR.nil{bs:37}:VR N nd bs []:=
 ⟨by simp,fun _ h=>(by cases h),fun _ h=>(by cases h),fun _ h=>(by cases h),fun i e h=>(by simp at h)⟩
theorem VR.add{bs:37}{row:PRw}(h:VR N nd bs row){x:ND}(hx:x∈nd)(hp:(pa=[]/\x∈bs)\/∃q∈row,pa=q.2/\x∈N q.1):VR N nd bs (za pa row x):=by
 unfold za
 by_cases c:x∈row.map (·.1)
 ·rw[og c];exact h
 ·rw[n8 c];have new:ZA N (pa++[x])=true/\Vi bs (pa++[x])=true/\(∀y∈pa++[x],y∈nd)/\(pa++[x]).length<=row.length+1:=by
   rcases hp with⟨rfl,hb⟩|⟨q,hq,rfl,hN⟩
   ·refine⟨by simp[ZA],by simp[Vi,hb],fun y hy=>?_,by simp⟩;have:y=x:=by simpa using hy
    rw[this];exact hx
   ·obtain⟨c1,c2,⟨p,ep⟩,c4⟩:=h.chn q hq;refine⟨?_,?_,fun y hy=>?_,?_⟩
    ·rw[ep] at c1 ⊢; exact zT c1 hN
    ·rw[ep] at c2 ⊢;cases p with
     |nil=>exact c2
     |cons z p=>exact c2
    ·rcases db.mp hy with hy|hy
     ·exact c4 y hy
     ·rw[df] at hy;subst hy;exact hx
    ·obtain⟨i,hi,ei⟩:=fo hq;have:=h.len i q (by rw[cR hi,ei]);rw[cZ,fB];lia
  refine⟨?_,fun e he=>?_,fun e he=>?_,fun e he=>?_,fun i e ei=>?_⟩
  ·rw[eO,fy];exact⟨h.nodup,by simp,fun a ha b hb q=>by
    have:b=x:=by simpa using hb
    subst this;subst q;exact c ha⟩
  ·rcases db.mp he with he|he
   ·exact h.sub e he
   ·rw[df] at he;subst he;exact hx
  ·rcases db.mp he with he|he
   ·rcases h.link e he with z|⟨q,a,b⟩
    ·exact .inl z
    ·exact .inr ⟨q,dN _ a,b⟩
   ·rw[df] at he;subst he;rcases hp with⟨rfl,hb⟩|⟨q,hq,rfl,hN⟩
    ·exact .inl ⟨rfl,hb⟩
    ·exact .inr ⟨q,dN _ hq,rfl,hN⟩
  ·rcases db.mp he with he|he
   ·exact h.chn e he
   ·rw[df] at he;subst he;exact⟨new.1,new.2.1,⟨pa,rfl⟩,new.2.2.1⟩
  ·by_cases z:i<row.length
   ·rw[gJ z] at ei;exact h.len i e ei
   ·have zi:i=row.length:=by
     have:=(dk.mp ei).1;rw[cZ,fB] at this;lia
    subst zi;rw[lC (cP _),Nat.sub_self] at ei;cases ei;exact new.2.2.2
theorem VR.adds{N:ND->37}{nd bs:37}{pa:37}:∀{xs:37}{row:PRw},VR N nd bs row->(∀x∈xs,x∈nd)->(∀x∈xs,(pa=[]/\x∈bs)\/∃q∈row,pa=q.2/\x∈N q.1)->VR N nd bs (Yw pa row xs)
 |[],_,h,_,_=>h
 |a::r,row,h,hx,hp=>by
  obtain⟨t,e⟩:=kY (pa:=pa) (row:=row) (x:=a);rw[Yw];refine VR.adds (h.add (hx a 39) (hp a 39)) (fun x q=>hx x (c7 _ q)) fun x q=>?_;rcases hp x (c7 _ q) with z|⟨y,hy,z⟩
  ·exact .inl z
  ·exact .inr ⟨y,by rw[e];exact dN _ hy,z⟩
def X4(N:ND->37)(G:37)(s:PRw×Nat):PRw×Nat:=
 match s.1[s.2]? with
 |none=>s
 |some e=>if e.1∈G then s else(Yw e.2 s.1 (N e.1),s.2+1)
def X3(G:37)(s:PRw×Nat):Prop:=∀e,s.1[s.2]?=some e->e.1∈G
theorem X3.fix{G:37}:∀s,X3 G s->X4 N G s=s:=fun s h=>by
 unfold X4;cases e:s.1[s.2]? with
 |none=>rfl
 |some x=>show(if x.1∈G then _ else _)=_;rw[og (h x e)]
theorem yo{G:37}{row:PRw}{i:Nat}{e:ND×37}(h:row[i]?=some e)(n:e.1∉G):X4 N G (row,i)=(Yw e.2 row (N e.1),i+1):=by
 unfold X4;simp only[h];rw[n8 n]
noncomputable def Wb(N:ND->37)(G bs:37):Option (37):=
 ((XF (X4 N G) (X3 G) (Yw [] [] bs,0)).1[(XF (X4 N G) (X3 G) (Yw [] [] bs,0)).2]?).map (·.2)
structure Up(N:ND->37)(nd bs G:37)(s:PRw×Nat):Prop where
 row:VR N nd bs s.1
 has:∀b∈bs,b∈s.1.map (·.1)
 at_:s.2<=s.1.length
 clo:∀i e,i<s.2->s.1[i]?=some e->e.1∉G/\∀y∈N e.1,y∈s.1.map (·.1)
theorem Up.st{bs G:37}(hN:∀d∈nd,∀x∈N d,x∈nd){s:PRw×Nat}(h:Up N nd bs G s):Up N nd bs G (X4 N G s):=by
 obtain⟨r,i⟩:=s
 by_cases d:X3 G (r,i)
 ·rw[X3.fix _ d];exact h
 ·obtain⟨e,d⟩:=Classical.not_forall.mp d;obtain⟨ee,nG⟩:=Classical.not_imp.mp d;have Bh:r[i]?=some e:=ee;rw[yo Bh nG];have em:e∈r:=cY Bh;have il:i<r.length:=(dk.mp Bh).1;obtain⟨t,et⟩:=ql (pa:=e.2) (xs:=N e.1) (row:=r);refine⟨h.row.adds (fun x hx=>hN e.1 (h.row.sub e em) x hx) (fun x hx=>.inr ⟨e,em,rfl,hx⟩),fun b hb=>?_,?_,fun j x hj ej=>?_⟩
  ·show b∈(Yw e.2 r (N e.1)).map (·.1)
   rw[et,eO];exact dN _ (h.has b hb)
  ·show i+1<=(Yw e.2 r (N e.1)).length
   rw[et,cZ];lia
  ·have Af:(Yw e.2 r (N e.1))[j]?=some x:=ej;have tU:j<i+1:=hj;rw[et,gJ 40] at Af
   by_cases c:j=i
   ·subst c;rw[Bh] at Af;cases Af;exact⟨nG,fun y hy=>qy y hy⟩
   ·obtain⟨a,b⟩:=h.clo j x (show j<i by lia) Af;refine⟨a,fun y hy=>?_⟩
    show y∈(Yw e.2 r (N e.1)).map (·.1)
    rw[et,eO];exact dN _ (b y hy)
theorem VR.few{bs:37}{row:PRw}(h:VR N nd bs row):row.length<=nd.length:=by
 have:=ZN h.nodup (nd:=nd) fun d hd=>by
  obtain⟨e,he,rfl⟩:=da.mp hd;exact h.sub e he
 rwa [cS] at this
theorem Up.less{bs G:37}{s:PRw×Nat}(h:Up N nd bs G s)(n:¬X3 G s):nd.length-(X4 N G s).2<nd.length-s.2:=by
 obtain⟨r,i⟩:=s;obtain⟨e,d⟩:=Classical.not_forall.mp n;obtain⟨ee,nG⟩:=Classical.not_imp.mp d;have Bh:r[i]?=some e:=ee;rw[yo Bh nG];have il:i<r.length:=(dk.mp Bh).1;have:r.length<=nd.length:=h.row.few
 show nd.length-(i+1)<nd.length-i
 lia
theorem Up.start{bs G:37}(hb:∀b∈bs,b∈nd):Up N nd bs G (Yw [] [] bs,0):=
 ⟨VR.nil.adds hb fun x hx=>.inl ⟨rfl,hx⟩,fun b q=>qy b q,dH _,fun _ _ q=>oh q (hU _)⟩
theorem Up.run{bs G:37}(hN:∀d∈nd,∀x∈N d,x∈nd){s:PRw×Nat}(h:Up N nd bs G s):Y6 (X4 N G) (X3 G) s (XF (X4 N G) (X3 G) s)/\Up N nd bs G (XF (X4 N G) (X3 G) s):=
 yh X3.fix (fun s=>nd.length-s.2) (fun _ i=>i.st hN) (fun _ i q=>i.less q) h
structure Zbs(N:ND->37)(nd bs G p:37):Prop where
 ch:ZA N p=true
 hd:Vi bs p=true
 last:∃q g,p=q++[g]/\g∈G
 sub:∀x∈p,x∈nd
 few:p.length<=nd.length
theorem Ul{bs G p:37}(hN:∀d∈nd,∀x∈N d,x∈nd)(hb:∀b∈bs,b∈nd)(h:Wb N G bs=some p):Zbs N nd bs G p:=by
 obtain⟨a,b⟩:=(Up.start (N:=N) (G:=G) hb).run hN;unfold Wb at h;generalize XF (X4 N G) (X3 G) (Yw [] [] bs,0)=s at a b h;obtain⟨e,ee,rfl⟩:=fE.mp h;have em:e∈s.1:=cY ee;obtain⟨c1,c2,⟨q,eq⟩,c4⟩:=b.row.chn e em;have:=b.row.len _ e ee;have l2:=(dk.mp ee).1;have l3:=b.row.few;exact⟨c1,c2,⟨q,e.1,eq,a.1 e ee⟩,c4,by lia⟩
theorem yq{bs G:37}(hN:∀d∈nd,∀x∈N d,x∈nd)(hb:∀b∈bs,b∈nd)(h:Wb N G bs=none):∀b∈bs,∀g∈G,¬Rch N b g:=by
 obtain⟨a,b⟩:=(Up.start (N:=N) (G:=G) hb).run hN;unfold Wb at h;generalize XF (X4 N G) (X3 G) (Yw [] [] bs,0)=s at a b h;rw[iI,im] at h;have clo:∀d∈s.1.map (·.1),d∉G/\∀y∈N d,y∈s.1.map (·.1):=fun d hd=>by
  obtain⟨e,he,rfl⟩:=da.mp hd;obtain⟨i,hi,ei⟩:=fo he;exact b.clo i e (fq hi h) (by rw[cR hi,ei])
 intro x hx g hg r;have:∀y,Rch N x y->y∈s.1.map (·.1):=fun y r=>by
  induction r with
  |here=>exact b.has x hx
  |on _ e ih=>exact(clo _ ih).2 _ e
 exact(clo g (this g r)).1 hg
def ZL(M:ND->71)(k:Nat)(d:ND):Bool:=(M d).getD k false
def Xo(N:ND->37)(ks:List (37))(r:Nat)(d:ND):37:=(N d).filter fun x=>decide (rkF ks x=r)
theorem VH{r:Nat}{x:ND}:x∈Xo N ks r d↔x∈N d/\rkF ks x=r:=by
 unfold Xo;rw[fA];simp
def nxt(N:ND->37)(ring:37):37:=(ring.getLast?.map N).getD []
theorem yt{p:37}{a:ND}:nxt N (p++[a])=N a:=by
 unfold nxt;simp
noncomputable def UX(N':ND->37)(M:ND->71)(K:37)(ring:37)(k:Nat):37:=
 if ring.any (ZL M k)=true then ring else ring++(Wb N' (K.filter (ZL M k)) (nxt N' ring)).getD []
noncomputable def Yz(N':ND->37)(M:ND->71)(K:37)(d:ND):Nat->37
 |0=>[d]
 |k+1=>UX N' M K (Yz N' M K d k) k
noncomputable def VQ(N:ND->37)(M:ND->71)(n:Nat)(ks:List (37))(d:ND):37:=
 Yz (Xo N ks 75) M (ks.getD 75 []) d n++((Wb (Xo N ks 75) [d] (nxt (Xo N ks 75) (Yz (Xo N ks 75) M (ks.getD 75 []) d n))).getD []).dropLast
def qE(N:ND->37)(ks:List (37))(r:Nat):Bool:=(ks.getD r []).any fun d=>(N d).any fun x=>decide (rkF ks x=r)
def Wg(N:ND->37)(M:ND->71)(n:Nat)(ks:List (37))(r:Nat):Bool:=qE N ks r&&Yb M n (ks.getD r [])
theorem xa{N N':ND->37}(h:∀d x,x∈N' d->x∈N d):∀{p:37},ZA N' p=true->ZA N p=true
 |[],_=>rfl
 |[_],_=>rfl
 |a::b::r,q=>by
  have q':(decide (b∈N' a)&&ZA N' (b::r))=true:=q
  show(decide (b∈N a)&&ZA N (b::r))=true
  rw[dg] at q' ⊢;exact⟨dy (h _ _ (dE q'.1)),xa h q'.2⟩
theorem qi{N:ND->37}:∀{p:37}{a:ND}{q:37},ZA N (p++[a])=true->ZA N q=true->Vi (N a) q=true->ZA N (p++[a]++q)=true
 |[],a,[],_,_,_=>rfl
 |[],a,x::q,_,h,g=>by
  show(decide (x∈N a)&&ZA N (x::q))=true
  rw[dg];exact⟨g,h⟩
 |[b],a,q,h,g1,g2=>by
  have h':(decide (a∈N b)&&ZA N [a])=true:=h;rw[dg] at h'
  show(decide (a∈N b)&&ZA N (a::q))=true
  rw[dg];exact⟨h'.1,qi (p:=[]) h'.2 g1 g2⟩
 |b::c::r,a,q,h,g1,g2=>by
  have h':(decide (c∈N b)&&ZA N (c::r++[a]))=true:=h;rw[dg] at h'
  show(decide (c∈N b)&&ZA N (c::r++[a]++q))=true
  rw[dg];exact⟨h'.1,qi h'.2 g1 g2⟩
theorem xj{N:ND->37}:∀{p:37}{a:ND}{q:37},ZA N (p++[a])=true->ZA N (a::q)=true->ZA N (p++a::q)=true
 |[],_,_,_,h=>h
 |[b],a,q,h,g=>by
  have h':(decide (a∈N b)&&ZA N [a])=true:=h;rw[dg] at h'
  show(decide (a∈N b)&&ZA N (a::q))=true
  rw[dg];exact⟨h'.1,g⟩
 |b::c::r,a,q,h,g=>by
  have h':(decide (c∈N b)&&ZA N (c::r++[a]))=true:=h;rw[dg] at h'
  show(decide (c∈N b)&&ZA N (c::r++a::q))=true
  rw[dg];exact⟨h'.1,xj h'.2 g⟩
theorem Rch.step{x u v:ND}(h:Rch N x u)(e:v∈N u):∃z∈N x,Rch N z v:=by
 induction h generalizing v with
 |here=>exact⟨v,e,.here⟩
 |on _ e' ih=>
  obtain⟨z,hz,r⟩:=ih e';exact⟨z,hz,.on r e⟩
theorem qB.rch{F:37}(h:qB N F ks)(hF:∀d∈F,∀x∈N d,x∈F){x y:ND}(hx:x∈F)(r:Rch N x y):y∈F/\rkF ks y<=rkF ks x:=by
 induction r with
 |here=>exact⟨hx,cP _⟩
 |on _ e ih=>exact⟨hF _ ih.1 _ e,fh (h.le _ ih.1 _ e) ih.2⟩
theorem qB.ins{N:ND->37}{F:37}{ks:List (37)}(h:qB N F ks)(hF:∀d∈F,∀x∈N d,x∈F){x y:ND}(hx:x∈F)(r:Rch N x y)(e:rkF ks y=rkF ks x):Rch (Xo N ks (rkF ks x)) x y:=by
 induction r with
 |here=>exact .here
 |on g e' ih=>
  obtain⟨bF,bl⟩:=h.rch hF hx g;have:=h.le _ bF _ e';exact .on (ih 40) (VH.mpr ⟨e',e⟩)
theorem XI{r:Nat}(h:r<ks.length):ks[r]?=some (ks.getD r []):=by
 rw[gH,cR h];rfl
theorem qB.on{F:37}(h:qB N F ks)(hF:∀d∈F,∀x∈N d,x∈F){x y:ND}(hx:x∈F)(hy:y∈F)(e:rkF ks y=rkF ks x)(l:qE N ks (rkF ks x)=true):∃z∈Xo N ks (rkF ks x) x,Rch (Xo N ks (rkF ks x)) z y:=by
 unfold qE at l;obtain⟨u,hu,l⟩:=fD.mp l;obtain⟨v,hv,l⟩:=fD.mp l;have rv:rkF ks v=rkF ks x:=dE l;obtain⟨uF,ru⟩:=(h.inK _ _ (XI (h.lt x hx)) u).mp hu;have vF:=hF u uF v hv;have xu:=h.ins hF hx (h.tied x hx u uF ru.symm) ru;obtain⟨z,hz,zv⟩:=xu.step (VH.mpr ⟨hv,rv⟩);have vy:=h.ins hF vF (h.tied v vF y hy (rv.trans e.symm)) (e.trans rv.symm);rw[rv] at vy;exact⟨z,hz,zv.trans vy⟩
structure InK(N:ND->37)(ks:List (37))(r:Nat)(d:ND)(ring:37):Prop where
 ch:ZA (Xo N ks r) ring=true
 hd:∃t,ring=d::t
 sub:∀x∈ring,x∈ks.getD r []
theorem InK.last{r:Nat}(h:InK N ks r d ring):∃p a,ring=p++[a]:=by
 obtain⟨t,e⟩:=h.hd;have ne:ring≠[]:=by rw[e];simp
 exact⟨ring.dropLast,ring.getLast ne,(π ne).symm⟩
theorem InK.path{F:37}(h:qB N F ks)(hF:∀d∈F,∀x∈N d,x∈F)(hd:d∈F)(i:InK N ks 75 d ring)(l:qE N ks 75=true){G:37}(hG:∃g∈G,g∈ks.getD 75 []):∃p,Wb (Xo N ks 75) G (nxt (Xo N ks 75) ring)=some p/\Zbs (Xo N ks 75) (ks.getD 75 []) (nxt (Xo N ks 75) ring) G p/\InK N ks 75 d (ring++p):=by
 have inK:=h.inK _ _ (XI (h.lt d hd));have clo:∀x∈ks.getD 75 [],∀y∈Xo N ks 75 x,y∈ks.getD 75 []:=fun x hx y hy=>by
  obtain⟨a,b⟩:=VH.mp hy;exact(inK y).mpr ⟨hF x ((inK x).mp hx).1 y a,b⟩
 obtain⟨q,a,eq⟩:=i.last;have aK:a∈ks.getD 75 []:=i.sub a (by rw[eq];simp);obtain⟨aF,ra⟩:=(inK a).mp aK;have en:nxt (Xo N ks 75) ring=Xo N ks 75 a:=by rw[eq,yt]
 rw[en];have hb:∀b∈Xo N ks 75 a,b∈ks.getD 75 []:=clo a aK;cases e:Wb (Xo N ks 75) G (Xo N ks 75 a) with
 |none=>
  obtain⟨g,gG,gK⟩:=hG;obtain⟨gF,rg⟩:=(inK g).mp gK;have:=h.on hF aF gF (rg.trans ra.symm) (by rw[ra];exact l);rw[ra] at this;obtain⟨z,hz,zr⟩:=this;exact oh zr (yq clo hb e z hz g gG)
 |some p=>
  have ok:=Ul clo hb e;refine⟨p,rfl,ok,?_,?_,fun x hx=>?_⟩
  ·have:=i.ch;rw[eq] at this ⊢; exact qi this ok.ch ok.hd
  ·obtain⟨t,e⟩:=i.hd;exact⟨t++p,by rw[e];rfl⟩
  ·rcases db.mp hx with hx|hx
   ·exact i.sub x hx
   ·exact ok.sub x hx
theorem Uy{N:ND->37}{M:ND->71}{F:37}{ks:List (37)}(h:qB N F ks)(hF:∀d∈F,∀x∈N d,x∈F){d:ND}(hd:d∈F){n:Nat}(l:Wg N M n ks 75=true):∀k,k<=n ->
  InK N ks 75 d (Yz (Xo N ks 75) M (ks.getD 75 []) d k)/\(∀j<k,(Yz (Xo N ks 75) M (ks.getD 75 []) d k).any (ZL M j)=true)/\(Yz (Xo N ks 75) M (ks.getD 75 []) d k).length<=1+k*(ks.getD 75 []).length
 |0,_=>⟨⟨rfl,⟨[],rfl⟩,fun x hx=>by
   have:x=d:=df.mp hx;rw[this];exact(h.inK _ _ (XI (h.lt d hd)) d).mpr ⟨hd,rfl⟩⟩,fun j hj=>oh hj (hU _),by simp[Yz]⟩
 |k+1,hk=>by
  obtain⟨a,b,c⟩:=Uy h hF hd l k 40;unfold Wg at l;rw[dg] at l;rw[Yz];generalize Yz (Xo N ks 75) M (ks.getD 75 []) d k=ring at a b c ⊢;unfold UX
  by_cases q:ring.any (ZL M k)=true
  ·rw[og q];refine⟨a,fun j hj=>?_,by rw[Nat.add_mul];lia⟩
   by_cases z:j=k
   ·rw[z];exact q
   ·exact b j 40
  ·rw[n8 q];obtain⟨g,hg,mg⟩:=fD.mp (dU.mp l.2 k (dY.mpr 40));obtain⟨p,ep,ok,i⟩:=a.path h hF hd l.1 (G:=(ks.getD 75 []).filter (ZL M k)) ⟨g,fA.mpr ⟨hg,mg⟩,hg⟩;rw[ep,fC];refine⟨i,fun j hj=>?_,?_⟩
   ·rw[List.any_append,Bool.or_eq_true]
    by_cases z:j=k
    ·obtain⟨p',g',e',m'⟩:=ok.last;refine .inr (fD.mpr ⟨g',by rw[e'];simp,?_⟩);rw[z];exact(fA.mp m').2
    ·exact .inl (b j 40)
   ·have:=ok.few;rw[cZ,Nat.add_mul];lia
theorem Zai{F:37}(h:qB N F ks)(hF:∀d∈F,∀x∈N d,x∈F)(hd:d∈F)(l:Wg N M n ks 75=true) :
  (∃t,VQ N M n ks d=d::t)/\ZA N (VQ N M n ks d++[d])=true/\Yb M n (VQ N M n ks d)=true/\(∀x∈VQ N M n ks d,x∈F)/\(VQ N M n ks d).length<=1+(n+1)*(ks.getD 75 []).length/\∃p,Wb (Xo N ks 75) [d] (nxt (Xo N ks 75) (Yz (Xo N ks 75) M (ks.getD 75 []) d n))=some p:=by
 obtain⟨a,b,c⟩:=Uy h hF hd l n (cP _);unfold Wg at l;rw[dg] at l;have dK:=(h.inK _ _ (XI (h.lt d hd)) d).mpr ⟨hd,rfl⟩;obtain⟨p,ep,ok,i⟩:=a.path h hF hd l.1 (G:=[d]) ⟨d,by simp,dK⟩;unfold VQ;rw[ep,fC];generalize Yz (Xo N ks 75) M (ks.getD 75 []) d n=ring at a b c i ⊢;obtain⟨p',g,e',g'⟩:=ok.last;have g2:g=d:=df.mp g';subst g2;have ed:p.dropLast=p':=by rw[e'];simp
 rw[ed];have IS:=ok.few;rw[e',cZ,fB] at IS;refine⟨?_,?_,?_,fun x hx=>?_,?_,p,rfl⟩
 ·obtain⟨t,e⟩:=a.hd;exact⟨t++p',by rw[e];rfl⟩
 ·have:=i.ch;rw[e',<- gR] at this;exact xa (fun _ _ q=>(VH.mp q).1) this
 ·refine dU.mpr fun k hk=>?_;have:=b k (dY.mp hk);rw[List.any_append,Bool.or_eq_true];exact .inl this
 ·have:x∈ring++p:=by
   rw[e'];rcases db.mp hx with hx|hx
   ·exact dN _ hx
   ·exact fb _ (dN _ hx)
  exact((h.inK _ _ (XI (h.lt g hd)) x).mp (i.sub x this)).1
 ·rw[cZ,Nat.add_mul];lia
def vG(p:37):ND:=p.getLast?.getD (.i 0)
theorem yX{p:37}{a:ND}:vG (p++[a])=a:=by unfold vG;simp
def qg(N:ND->37)(M:ND->71)(n:Nat)(ks:List (37)):37:=ks.flatten.filter fun d=>Wg N M n ks 75
noncomputable def Wz(N:ND->37)(M:ND->71)(n:Nat)(bs:37):Option (37×37):=
 (Wb N (qg N M n (44)) bs).map fun p=>(p.dropLast,VQ N M n (44) (vG p))
def yM(M:ND->71)(n:Nat)(K:37):Nat:=((γ n).find? fun k=>!K.any (ZL M k)).getD n
def qR(N:ND->37)(M:ND->71)(n:Nat)(ks:List (37))(r:Nat):68:=if qE N ks r=true then some (yM M n (ks.getD r [])) else none
theorem UH{N:ND->37}:∀{p q:37},ZA N (p++q)=true->ZA N q=true
 |[],_,h=>h
 |[a],[],_=>rfl
 |[a],b::q,h=>by
  have h':(decide (b∈N a)&&ZA N (b::q))=true:=h;rw[dg] at h';exact h'.2
 |a::b::p,q,h=>by
  have h':(decide (b∈N a)&&ZA N (b::p++q))=true:=h;rw[dg] at h';exact UH h'.2
theorem VU{N:ND->37}:∀{a:ND}{q:37},ZA N (a::q)=true->∀x∈a::q,Rch N a x
 |a,[],_,x,hx=>by rw[df] at hx;subst hx;exact .here
 |a,b::q,h,x,hx=>by
  have h':(decide (b∈N a)&&ZA N (b::q))=true:=h;rw[dg] at h';rcases cW.mp hx with rfl|hx
  ·exact .here
  ·exact(VU h'.2 x hx).first (dE h'.1)
theorem UP{N:ND->37}:∀{q:37}{b:ND},ZA N (q++[b])=true->∀x∈q++[b],Rch N x b
 |[],b,_,x,hx=>by
  have:x=b:=by simpa using hx
  subst this;exact .here
 |[a],b,h,x,hx=>by
  have h':(decide (b∈N a)&&ZA N [b])=true:=h;rw[dg] at h';rcases cW.mp hx with rfl|hx
  ·exact .on .here (dE h'.1)
  ·have:x=b:=by simpa using hx
   subst this;exact .here
 |a::c::q,b,h,x,hx=>by
  have h':(decide (c∈N a)&&ZA N (c::q++[b]))=true:=h;rw[dg] at h';rcases cW.mp hx with rfl|hx
  ·exact(UP h'.2 c 39).first (dE h'.1)
  ·exact UP h'.2 x hx
theorem Kt{bs:37}{row:37}(h1:ZA N row=true)(h2:Vi bs row=true):∀x∈row,∃b∈bs,Rch N b x:=fun x hx=>by
 cases row with
 |nil=>cases hx
 |cons a q=>exact⟨a,dE h2,VU h1 x hx⟩
theorem yL{bs t:37}(h:YR N M n bs way (d::t)=true):ZA N (way++(d::(t++[d])))=true/\Vi bs (way++(d::(t++[d])))=true/\Yb M n (d::t)=true:=by
 unfold YR at h;have e:way++(d::t)++(d::t).take 1=way++(d::(t++[d])):=by simp
 dsimp only at h;rw[e,dg,dg] at h;exact⟨h.1.1,h.1.2,h.2⟩
theorem K5{bs:37}(hN:∀d∈nd,∀x∈N d,x∈nd)(hb:∀b∈bs,b∈nd){t:37}(h:YR N M n bs way (d::t)=true):d∈ZR N bs/\Wg N M n (44) (83)=true:=by
 obtain⟨h1,h2,h3⟩:=yL h;have ok:=Wp hN hb;have hF:=(XD hN hb).1.clo;have FJ:∀x∈way++(d::(t++[d])),x∈ZR N bs:=fun x hx=>(yS hN hb).mpr (Kt h1 h2 x hx);have dF:=FJ d 39;have c2:=UH h1;generalize ZR N bs=F at ok hF FJ dF ⊢;generalize Zf N bs=ks at ok ⊢;have same:∀x∈d::(t++[d]),rkF ks x=rkF ks d:=fun x hx=>by
  have a:=(ok.rch hF dF (VU c2 x hx)).2;have xF:=FJ x (fb _ hx);have b:=(ok.rch hF xF (UP (q:=d::t) c2 x hx)).2;lia
 refine⟨dF,?_⟩;have at_:=XI (ok.lt d dF);unfold Wg;rw[dg];constructor
 ·unfold qE;refine fD.mpr ⟨d,(ok.inK _ _ at_ d).mpr ⟨dF,rfl⟩,?_⟩;cases t with
  |nil=>
   have c3:(decide (d∈N d)&&ZA N [d])=true:=c2;rw[dg] at c3;exact fD.mpr ⟨d,dE c3.1,dy rfl⟩
  |cons x t=>
   have c3:(decide (x∈N d)&&ZA N (x::(t++[d])))=true:=c2;rw[dg] at c3;exact fD.mpr ⟨x,dE c3.1,dy (same x 39)⟩
 ·refine dU.mpr fun k hk=>?_;obtain⟨x,hx,m⟩:=fD.mp (dU.mp h3 k hk);have CG:x∈d::(t++[d]):=by
   rcases cW.mp hx with rfl|hx
   ·simp
   ·exact c7 _ (dN _ hx)
  exact fD.mpr ⟨x,(ok.inK _ _ at_ x).mpr ⟨FJ x (fb _ CG),same x CG⟩,m⟩
theorem UE{F:37}(h:qB N F ks):d∈qg N M n ks↔d∈F/\Wg N M n ks 75=true:=by
 unfold qg;rw[fA,h.mem]
theorem yG{bs:37}(hN:∀d∈nd,∀x∈N d,x∈nd)(hb:∀b∈bs,b∈nd)(h:Wz N M n bs=none):∀d∈ZR N bs,Wg N M n (44) (83)=false:=fun d hd=>by
 unfold Wz at h;rw[iI] at h;obtain⟨b,oS,r⟩:=(yS hN hb).mp hd;cases e:Wg N M n (44) (83) with
 |false=>rfl
 |true=>exact oh r (yq hN hb h b oS d ((UE (Wp hN hb)).mpr ⟨hd,e⟩))
theorem Zb5{bs:37}(hN:∀d∈nd,∀x∈N d,x∈nd)(hb:∀b∈bs,b∈nd)(h:Wz N M n bs=none)(ne:ring≠[]):YR N M n bs way ring=false:=by
 cases ring with
 |nil=>exact oh rfl ne
 |cons d t=>
  cases e:YR N M n bs way (d::t) with
  |false=>rfl
  |true=>
   obtain⟨a,b⟩:=K5 hN hb e;rw[yG hN hb h d a] at b;cases b
structure Zdo(N:ND->37)(M:ND->71)(n:Nat)(nd bs way ring:37):Prop where
 full:YR N M n bs way ring=true
 ne:ring≠[]
 inW:∀x∈way,x∈nd
 inR:∀x∈ring,x∈nd
 fewW:way.length<=nd.length
 fewR:ring.length<=1+(n+1)*nd.length
theorem Jl{bs:37}(hN:∀d∈nd,∀x∈N d,x∈nd)(hb:∀b∈bs,b∈nd)(h:Wz N M n bs=some (way,ring)):Zdo N M n nd bs way ring:=by
 unfold Wz at h;obtain⟨p,ep,e⟩:=fE.mp h;have ok:=Ul hN hb ep;have kn:=Wp hN hb;have rF:=(XD hN hb).1;obtain⟨q,g,eq,gG⟩:=ok.last;obtain⟨gF,rg⟩:=(UE kn).mp gG;have ew:p.dropLast=q:=by rw[eq];simp
 have er:vG p=g:=by rw[eq,yX]
 rw[ew,er] at e;cases e;obtain⟨⟨t,et⟩,c,m,s,l,_⟩:=Zai kn rF.clo gF rg;generalize VQ N M n (44) g=ring at et c m s l ⊢;subst et;have NS:=ok.ch;have Hn:=ok.hd;rw[eq] at NS Hn;have T8:((44).getD (rkF (44) g) []).length<=nd.length:=by
  have at_:=XI (kn.lt g gF);refine ZN ?_ fun x hx=>rF.sub x ((kn.inK _ _ at_ x).mp hx).1;exact mh (mi (cY at_)) kn.nodup
 refine⟨?_,by simp,fun x hx=>ok.sub x (by rw[eq];simp[hx]),fun x hx=>rF.sub x (s x hx),?_,?_⟩
 ·unfold YR;have e1:way++(g::t)++(g::t).take 1=way++g::(t++[g]):=by simp
  dsimp only;rw[e1,dg,dg];refine⟨⟨xj NS c,?_⟩,m⟩;cases way with
  |nil=>exact Hn
  |cons a w=>exact Hn
 ·have:=ok.few;rw[eq,cZ] at this;lia
 ·exact fh l (Nat.add_le_add_left (Nat.mul_le_mul_left _ T8) 1)
structure zu(N:ND->37)(M:ND->71)(bs:37)(R:ND->121)(L:Int->121):Prop where
 beg:∀b∈bs,∃r,R b=some r
 lack:∀d r,R d=some r->∀m,L r=some m->∃j:Nat,m=j/\j<(M d).length/\ZL M j d=false
 on:∀d r,R d=some r->∀x∈N d,∃q,R x=some q/\q<=r/\(L r=none->q≠r)
theorem zu.rch{bs:37}{R:ND->121}{L:Int->121}(h:zu N M bs R L){a b:ND}{r:Int}(e:R a=some r)(g:Rch N a b):∃q,R b=some q/\q<=r:=by
 induction g with
 |here=>exact⟨r,e,Int.le_refl _⟩
 |on _ e' ih=>
  obtain⟨q,eq,le⟩:=ih;obtain⟨q',AO,Mn,_⟩:=h.on _ q eq _ e';exact⟨q',AO,Int.le_trans Mn le⟩
theorem vt{bs:37}{R:ND->121}{L:Int->121}(h:zu N M bs R L)(ne:ring≠[])(hM:∀d∈ring,(M d).length=n):YR N M n bs way ring=false:=by
 cases ring with
 |nil=>exact oh rfl ne
 |cons d t=>
  cases e:YR N M n bs way (d::t) with
  |false=>rfl
  |true=>
   obtain⟨h1,h2,h3⟩:=yL e;have c2:=UH h1;obtain⟨b,hb,bd⟩:=Kt h1 h2 d 39;obtain⟨rb,eb⟩:=h.beg b hb;obtain⟨r,er,_⟩:=h.rch eb bd;have same:∀x∈d::(t++[d]),R x=some r:=fun x hx=>by
    obtain⟨q,eq,le⟩:=h.rch er (VU c2 x hx);obtain⟨q',AO,Mn⟩:=h.rch eq (UP (q:=d::t) c2 x hx);rw[er] at AO;cases AO;rw[eq,show q=r by lia]
   cases eL:L r with
   |none=>
    exfalso
    cases t with
    |nil=>
     have c3:(decide (d∈N d)&&ZA N [d])=true:=c2;rw[dg] at c3;obtain⟨q,eq,_,nq⟩:=h.on d r er d (dE c3.1);rw[er] at eq;cases eq;exact nq eL rfl
    |cons x t=>
     have c3:(decide (x∈N d)&&ZA N (x::(t++[d])))=true:=c2;rw[dg] at c3;obtain⟨q,eq,_,nq⟩:=h.on d r er x (dE c3.1);rw[same x 39] at eq;cases eq;exact nq eL rfl
   |some m=>
    exfalso
    obtain⟨j,rfl,jl,_⟩:=h.lack d r er m eL;rw[hM d 39] at jl;obtain⟨x,hx,mx⟩:=fD.mp (dU.mp h3 j (dY.mpr jl));have CG:x∈d::(t++[d]):=by
     rcases cW.mp hx with rfl|hx
     ·simp
     ·exact c7 _ (dN _ hx)
    obtain⟨j',e',_,m0⟩:=h.lack x r (same x CG) _ eL;have:j=j':=by lia
    subst this;have Ti:ZL M j x=true:=mx;rw[Ti] at m0;cases m0
theorem Za9{r:Nat}(l:qE N ks r=true)(h:Wg N M n ks r=false):yM M n (ks.getD r [])<n/\(ks.getD r []).any (ZL M (yM M n (ks.getD r [])))=false/\∀j<yM M n (ks.getD r []),(ks.getD r []).any (ZL M j)=true:=by
 unfold Wg at h;rw[l,g9] at h;unfold Yb at h;obtain⟨k,hk,q⟩:=List.all_eq_false.mp h;have hk:=dY.mp hk;unfold yM;cases e:(γ n).find? fun k=>!(ks.getD r []).any (ZL M k) with
 |none=>
  have:=mF.mp e k (dY.mpr hk);rw[Bool.not_eq_true',Bool.not_eq_false] at this;exact oh this q
 |some j=>
  rw[fC];have a:=List.find?_some e;have b:=dY.mp (nD e);refine⟨b,by simpa using a,fun i hi=>?_⟩;obtain⟨_,as,bs,e2,hz⟩:=List.find?_eq_some_iff_append.mp e;have la:as.length=j:=by
   have:=dt (fun l=>l[as.length]?) e2;simp at this;have lt:as.length<n:=by have:=dt ζ e2;simp at this;lia
   rw[ρ lt] at this;exact eZ this
  have oR:i<as.length:=by lia
  have ei:as[i]?=some i:=by
   have:=dt (fun l=>l[i]?) e2;rw[gJ oR,ρ 40] at this;exact this.symm
  have:=hz i (cY ei);simpa using this
theorem Zdu{B:ND->Prop}{F:37}(h:qB N F ks)(p:jm N nd B F):ks.length<=nd.length:=by
 have fl:∀ks:List (37),(∀K∈ks,K≠[])->ks.length<=ks.flatten.length:=fun ks=>by
  induction ks with
  |nil=>intro _;exact cP _
  |cons K r ih=>
   intro h;have:=ih fun K m=>h K (c7 _ m);have:=iG.mpr (h K dC);rw[fc,List.flatten_cons,cZ];lia
 have a:=fl ks h.ne;have b:=ZN h.nodup fun d hd=>p.sub d ((h.mem d).mp hd);lia
theorem Zau(r:NPr es xs):ZE (es.map (·.2.1)) (xs.map (·.2.1)):=by
 induction r with
 |nil=>exact .nil
 |cons h t ih=>exact .cons h.2.1 ih
def Zdd(Pm:Params)(a:Addr)(es:NE)(ep:Nat)(h:Heap):Prop:=es.length<=sizeLine/\(a==sysModules)=false/\∃xs:List (ND×Value×Value),NPr es xs /\
 ∃o fs,h.get? a=some o/\o.ExactDict/\o.data=.dict fs ep/\fs.toList=xs.map (fun x=>⟨hN Pm x.1,x.2.1,x.2.2⟩)/\(xs.map (·.1)).Nodup
def DeO(Pm:Params)(a:Addr)(es:NE)(ep:Nat):HO:=.ext (Zdd Pm a es ep)
def ItD(Pm:Params)(a:Addr)(es:NE)(ep:Nat):It:=
 ⟨fun i H=>H a=52/\i<es.length,fun i H x H'=>H'=H/\∃e,es[i]?=some e/\x=e.2.1,fun i H=>H a=52/\es.length<=i⟩
theorem NPr.row(r:NPr es xs):∀{i:Nat}{e:ND×V×V},es[i]?=some e->∃x,xs[i]?=some x/\Z6 e.2.1 x.2.1:=by
 induction r with
 |nil=>intro i e h;simp at h
 |cons h t ih=>
  intro i e he;cases i with
  |zero=>simp at he;subst he;exact⟨_,rfl,h.2.1⟩
  |succ j=>obtain⟨x,q,r⟩:=ih (i:=j) (by simpa using he);exact⟨x,by simpa using q,r⟩
theorem Qp(a it:Addr)(es:NE)(ep:Nat):xC P w K tg (ItD Pm a es ep) [it] it (fun i h=>h.IsKeyIter it a i es.length ep) where
 mem:=by simp
 obj:=fun i h st b hb=>by
  have e:b=it:=by simpa using hb
  subst e;obtain⟨o,e,c,d⟩:=st;exact⟨o,e,fun v z=>by rw[d] at z;cases z⟩
 keep:=fun i h h' st k=>st.at fun o e=>k it 39 o e
 item:=by
  intro X hP hw hK hc i bJ s U H E I hf st hg;subst hP hw hK;obtain⟨g,hi⟩:=hg;obtain⟨⟨z,y,xs,oO,o,fs,h1,h2,h3,h4,h5⟩,_⟩:=I.hok a _ g;have el:=gt oO;have ef:fs.size=es.length:=by rw[<- dj,h4,cS,el]
  obtain⟨f0,f1,f2,f3,f4,f5⟩:=hf it 39;have oR:i<fs.size:=by lia
  obtain⟨x,hx,rx⟩:=oO.row (cR hi);have ek:fs[i].key=x.2.1:=by
   have:fs.toList[i]?=some fs[i]:=by rw[fj,ir oR]
   rw[h4,dz,hx] at this;have:=eZ this;rw[<- this]
  rw[<- ef] at st;refine xX st ⟨o,h1,h2,h3⟩ oR fun h' ox sb=>?_;rw[ef] at ox;have I1:89 H 49:=I.turned (t':=s.toks) (fun b o hb e=>(sb.2 b hb).trans e) f0 f1 f3 f4 f5;obtain⟨o',e,c,d⟩:=id ox;exact⟨_,rfl,kO (s:=49) e c d 61 ⟨es[i].2.1,H,I1,by rw[ek];exact rx,⟨rfl,es[i],cR hi,rfl⟩,ox,fun b hb=>(hf b hb).1⟩⟩
 done:=by
  intro X hP hw hK hc i bJ s U H E I hf st hg;subst hP hw hK;obtain⟨g,hi⟩:=hg;obtain⟨⟨z,y,xs,oO,o,fs,h1,h2,h3,h4,h5⟩,_⟩:=I.hok a _ g;have el:=gt oO;have ef:fs.size=es.length:=by rw[<- dj,h4,cS,el]
  obtain⟨f0,f1,f2,f3,f4,f5⟩:=hf it 39;rw[<- ef] at st;exact vJ 124 40 st ⟨o,h1,h2,h3⟩ fun h' eb=>⟨rfl,I.turned (t':=s.toks) (fun b o hb e=>eb b o hb e) f0 f1 f3 f4 f5⟩
 self:=fun _ _ _ _ _ st h=>wpAny_pyIter_keyiter st h
def ZdT(Pm:Params)(td:TE):TI:=fun U H R=>td U H fun x H1=>∃a es ep,x=.ref a/\H1 a=52/\R (ItD Pm a es ep) H1
theorem zF{l:Expr}(hl:PE X l td):PI X tg l (ZdT Pm td):=by
 intro bJ s U H R I h;refine thn (hl bJ s U H _ I h) fun v s1 ⟨x,H1,I1,r1,q1⟩=>?_;obtain⟨a,es,ep,e,g,q⟩:=q1;subst e;cases r1;obtain⟨⟨z,y,xs,oO,o,fs,h1,h2,h3,h4,h5⟩,_⟩:=I1.hok a _ g;have el:=gt oO;have ef:fs.size=es.length:=by rw[<- dj,h4,cS,el]
 refine xT y ⟨o,h1,h2,h3⟩ ?_;refine⟨s1.heap.objs.size,[s1.heap.objs.size],_,_,H1,rfl,I1.kept (t':=s1.toks) fun b o e=>cU _ e,Qp a _ es ep,⟨_,c8 _ rfl,rfl,by rw[ef];rfl⟩,fun b hb=>?_,q⟩;have e:b=s1.heap.objs.size:=by simpa using hb
 subst e;exact I1.fpOk (cP _) (I1.hok.fresh (cP _))
theorem ve(x:Zdd Pm a es ep h):Y9 P w H h a (DeO Pm a es ep):=by
 refine⟨x,?_,?_⟩
 ·obtain⟨_,_,_,_,o,_,e,_⟩:=x;exact⟨o,e⟩
 ·rintro h1 h2 ⟨z,y,xs,r,o,fs,e,c⟩ k;exact⟨z,y,xs,r,o,fs,k _ e,c⟩
theorem k7.de(x:k7 Pm a es h):∃ep,Zdd Pm a es ep h:=by
 obtain⟨z,y,xs,r,o,fs,ep,e⟩:=x;exact⟨ep,z,y,xs,r,o,fs,e⟩
theorem xg{U:L3.St}(κ:Nat)(hw:X.w.params=Pm)(I:L2.Inv X bJ U H s)(e:H a=52):es.length<=sizeLine/\(a==sysModules)=false/\∃xs,NPr es xs/\Xe (vN X.prog X.w κ) s.heap a xs:=by
 obtain⟨⟨z,y,xs,r,o,fs,h1,h2,h3,h4,h5⟩,_⟩:=I.hok a _ e;refine⟨z,y,xs,r,o,fs,ep,h1,h2,h3,?_,h5⟩;rw[h4,jL,hw]
def Zem(Pm:Params)(td ty:TE):TE:=fun U H Q=>td U H fun x H1=>ty U H1 fun y H2=>∃a es ep κ d v,x=.ref a/\H2 a=52/\(∀e∈es,Nd κ H2 e.2.1 e.1)/\Nd κ H2 y d/\ZU es d=some v/\Q v H2
def ZbH(Pm:Params)(ty td:TE):TE:=fun U H Q=>ty U H fun y H1=>td U H1 fun x H2=>∃a es ep κ d,x=.ref a/\H2 a=52/\(∀e∈es,Nd κ H2 e.2.1 e.1)/\Nd κ H2 y d/\Q (.bl (!(ZU es d).isSome)) H2
def Zd3(Pm:Params)(td ty tv:TE):L2.TS:=fun D U H=>tv U H fun v H1=>td U H1 fun x H2=>ty U H2 fun y H3=>∃a es ep κ d,x=.ref a/\H3 a=52/\(∀e∈es,Nd κ H3 e.2.1 e.1)/\Nd κ H3 y d/\es.length<sizeLine/\∀ep',D.nx U (upd H3 a (DeO Pm a (ZI es d y v) ep'))
def ZdY(Pm:Params):TE:=fun _ H Q=>∀p,H p=none->Q (.ref p) (upd H p (DeO Pm p [] 0))
section
variable{o i oB:Expr}{ty:TE}
theorem Zc6{U:L3.St}(I:L2.Inv X bJ U H s)(e:H a=52):s.TypeIs (.ref a) "dict" := by
 obtain⟨⟨_,_,_,_,o,_,h1,h2,_⟩,_⟩:=I.hok a _ e;exact⟨o,h1,h2.1⟩
theorem ZB(hw:X.w.params=Pm)(hu:X.A.units+3<cLine)(ho:PE X o td)(hi:PE X i ty)(hs:Zeo i):PE X (.Subscript o i oj) (Zem Pm td ty):=by
 intro bJ s U H Q I h;refine Zbv PySem.F.slot_dict_getitem.lookup hs (thn (ho bJ s U H _ I h) fun u s1 ⟨x,H1,I1,rx,q1⟩=>thn (hi bJ s1 U H1 _ I1 q1) fun iv s2 ⟨y,H2,I2,ry,a,es,ep,κ,d,v,ex,g,hk,hn,hv,q2⟩=>?_);subst ex;obtain rfl:u=Value.ref a:=rx;obtain⟨z,hd,xs,oO,m⟩:=xg κ hw I2 g;obtain⟨w',Ps,tH⟩:=U3.some_of (v:=v) (o:=zk xs d) (by rw[<- hv];exact oO.val d);exact⟨Zc6 I2 g,JA (KD hu) (hn.is I2 ry) m (oO.is I2 hk) Ps fun tk=>⟨v,H2,I2.tok _,tH,q2⟩⟩
theorem Xs(hw:X.w.params=Pm)(hu:X.A.units+3<cLine)(hi:PE X i ty)(ho:PE X o td):PC X .NotIn i o (ZbH Pm ty td):=by
 intro bJ s U H Q I h;refine thn (hi bJ s U H _ I h) fun iv s1 ⟨y,H1,I1,ry,q1⟩=>thn (ho bJ s1 U H1 _ I1 q1) fun u s2 ⟨x,H2,I2,rx,a,es,ep,κ,d,ex,g,hk,hn,q2⟩=>?_;subst ex;obtain rfl:u=Value.ref a:=rx;obtain⟨z,hd,xs,oO,m⟩:=xg κ hw I2 g;refine ZaN (KD hu) (hn.is I2 ry) hd m (oO.is I2 hk) fun tk=>?_;rw[<- (oO.val d).isSome_eq];exact⟨.bl _,H2,I2.tok _,rfl,q2⟩
theorem XC(hw:X.w.params=Pm)(hu:X.A.units+3<cLine)(ho:PE X o td)(hi:PE X i ty)(hv:PE X oB tv)(hs:swapsWith oB (some (.Subscript o i o7)) oj.line X.env=pure false) :
  PS X (.Assign [.Subscript o i o7] oB oj) (Zd3 Pm td ty tv):=by
 intro bJ s U H D I h;refine wpAny_Assign_Subscript (thn (hv bJ s U H _ I h) fun r s1 ⟨v,H1,I1,rv,q1⟩=>thn (ho bJ s1 U H1 _ I1 q1) fun u s2 ⟨x,H2,I2,rx,q2⟩=>thn (hi bJ s2 U H2 _ I2 q2) fun iv s3 ⟨y,H3,I3,ry,a,es,ep,κ,d,ex,g,hk,hn,hl,q3⟩=>?_) hs;subst ex;obtain rfl:u=Value.ref a:=rx;obtain⟨z,hd,xs,oO,m⟩:=xg κ hw I3 g;have hz:xs.length<=sizeLine:=by rw[<- gt oO];exact z
 refine Js (KD hu) (hn.is I3 ry) m (oO.is I3 hk) (fun h' tk m' sb=>?_) hz;have he:∃q,h'.get? a=some q:=let ⟨q,_,_,hq,_⟩:=m'; ⟨q,hq⟩
 obtain⟨ep',de⟩:=k7.de (jg hw (by have:=U9 es d y v;lia) hd (oO.put ry rv) m');exact⟨U,_,je (ob:=DeO Pm a (ZI es d y v) ep') I3 (by rw[g];exact True.intro) sb he (ve de),q3 ep'⟩
theorem WQ(hw:X.w.params=Pm):PE X (.Dict [] [] oj) (ZdY Pm):=fun bJ s U H Q I h=>
 wpAny_Dict_empty ⟨.ref s.heap.objs.size,_,I.laid (a:=s.heap.objs.size) (o:=DeO Pm s.heap.objs.size [] 0) (t':=s.toks) (fun _ _ q=>cU _ q) (cP _) (ve ⟨dH _,ia.mpr (eY (c9 (Inv.big I))),[],.nil,_,#[],c8 _ rfl,⟨rfl,rfl,rfl⟩,rfl,rfl,lZ⟩),rfl,h _ (I.hok.fresh (cP _))⟩
def ZcX(Pm:Params):List V->Hp->VK->Prop:=fun xs H Q=>∃a es ep κ,xs=[.ref a]/\H a=52/\(∀e∈es,96)/\∀l ep',H l=none->Q (.ref l) (upd H l (DeO Pm l es ep'))
theorem yx(hw:X.w.params=Pm)(hu:X.A.units+8<cLine):Yy X (.type "dict") (ZcX Pm):=by
 intro bJ s U H xs us Q I r h;obtain⟨a,es,ep,κ,rfl,g,hk,q⟩:=h;obtain⟨u,rfl,ru⟩:=XU r;obtain rfl:u=Value.ref a:=ru;obtain⟨z,hd,xs,oO,m⟩:=xg κ hw I g;have hz:xs.length<=sizeLine:=by rw[<- gt oO];exact z
 refine JI (knd:=vN X.prog X.w κ) (fun A' hA=>by rw[UY];show A'.units+2<cLine;lia) hd (ia.mpr (eY (c9 (Inv.big I)))) m
  (fun h' k=>NPr.is (s:={ s with heap:=h',toks:=s.toks }) oO (I.kept k) hk) (fun hq x hx y hy e=>?_) hz fun h' tk m' k=>?_
 ·have:=oO.is I hk;have kx:∀x∈xs,OkD κ x.1:=fun x hx=>by
   have:x.1∈es.map (·.1):=by rw[oO.keys];exact da.mpr ⟨x,hx,rfl⟩
   obtain⟨p,hp,e⟩:=da.mp this;rw[<- e];exact(hk p hp).ok
  rw[jL] at e;exact ZcQ (ZbC hq (kx x hx).lt) (kx x hx) (kx y hy) e
 ·obtain⟨ep',de⟩:=k7.de (jg hw z (ia.mpr (eY (c9 (Inv.big I)))) oO m');exact⟨.ref s.heap.objs.size,_,I.laid (o:=DeO Pm s.heap.objs.size es ep') k (cP _) (ve de),rfl,q _ ep' (I.hok.fresh (cP _))⟩
def tEIn(Pm:Params)(ty td:TE):TE:=fun U H Q=>ty U H fun y H1=>td U H1 fun x H2=>∃a es ep κ d,x=.ref a/\H2 a=52/\(∀e∈es,Nd κ H2 e.2.1 e.1)/\Nd κ H2 y d/\Q (.bl (ZU es d).isSome) H2
theorem Jm(hw:X.w.params=Pm)(hu:X.A.units+3<cLine)(hi:PE X i ty)(ho:PE X o td):PC X .In i o (tEIn Pm ty td):=by
 intro bJ s U H Q I h;refine thn (hi bJ s U H _ I h) fun iv s1 ⟨y,H1,I1,ry,q1⟩=>thn (ho bJ s1 U H1 _ I1 q1) fun u s2 ⟨x,H2,I2,rx,a,es,ep,κ,d,ex,g,hk,hn,q2⟩=>?_;subst ex;obtain rfl:u=Value.ref a:=rx;obtain⟨z,hd,xs,oO,m⟩:=xg κ hw I2 g
 show 50 (do return Value.bool (<- contains (.ref a) iv)) _ _ s2
 refine cN (qZ (KD hu) (hn.is I2 ry) hd m (oO.is I2 hk) fun tk=>cO ?_);rw[<- (oO.val d).isSome_eq];exact⟨.bl _,H2,I2.tok _,rfl,q2⟩
def Zdv(Pm:Params):List V->Hp->VK->Prop:=fun xs H Q=>∃a es ep,xs=[.ref a]/\H a=52/\∀l,H l=none->Q (.ref l) (upd H l (.lst (es.map (·.2.1))))
theorem JN(hc:X.calm=true):Yy X (.type "list") (Zdv Pm):=by
 intro bJ s U H xs us Q I r h;obtain⟨a,es,ep,rfl,g,q⟩:=h;obtain⟨u,rfl,ru⟩:=XU r;obtain rfl:u=Value.ref a:=ru;obtain⟨⟨z,y,ys,oO,o,fs,h1,h2,h3,h4,h5⟩,_⟩:=I.hok a _ g;have ek:fs.toList.map (·.key)=ys.map (·.2.1):=by rw[h4,fV];rfl
 have el:=gt oO;have ef:fs.size=ys.length:=by rw[<- dj,h4,cS]
 refine W.kdl_call (Zbk (ep:=ep) (es:=fs) y) 124 ⟨o,h1,h2,h3⟩ 40 fun h' tk acc c hk hg rz=>?_;refine⟨.ref s.heap.objs.size,_,I.laid (o:=.lst (es.map (·.2.1))) (t':=tk) hk (cP _) ⟨by rw[cS];exact z,acc.toList,c,?_,by simpa using hg⟩,rfl,q _ (I.hok.fresh (cP _))⟩;rw[ZbZ ek rz];exact Zau oO
end
section
variable{d:Addr}{es:Array DictEntry}{i:Nat}
theorem Wq{Q:67->41}(oJ:s.heap.IsValIter it d i es.size ep)(m:Yk s.heap d es ep)
  (q1:∀hi:i<es.size,∀h',h'.IsValIter it d (i+1) es.size ep->Heap.SameBut it s.heap h'->Q (some es[i].val) 49)
  (q2:es.size<=i->A.handled=none/\∀h',Heap.ExtBut it s.heap h'->Q none 49):36 (pyNext (.ref it)) Q E s:=by
 have ty:=oJ.typeIs;obtain⟨o,ho,hc,hd⟩:=id oJ;obtain⟨od,wZ,_,tE⟩:=m;have nm:∀{A':Around}{Q':String->41} {E'},Q' "dict_valueiterator" s->wpAny 86 A' (typeNameOfWhole (.ref it)) Q' E' s:=fun h=>wpAny_typeNameOfWhole_valiter ty h;unfold pyNext;refine cN (gO (gh (name:=Str.ofString "__next__") ty nE (eE nE ty F.entry_dict_valueiterator_next ?_ (F.args_dict_valueiterator_next_1 _))));refine cN (cO (cN (cN (cN (nm (cO (cN (iT ho hd ?_))))))));rw[show Builtin.Dict_items.ownsTuple "dict_valueiterator" = false by left];simp only[c6,cX]
 change 50 (if(Value.ref d==Value.none)=true then _ else _) _ _ s
 rw[n8 (show ¬((Value.ref d==Value.none)=true) from nofun)];refine cN (cO (cN (fP wZ tE ?_)));rw[n8 39];refine cN (cO (cN (iq wZ tE ?_)));rw[n8 39];refine cO ?_;have n0:¬((i:Int)<0):=by lia
 rcases fe i es.size with hi|hi
 ·simp only[n0,cX,fu,ir hi];refine cN (cN (nm (cO (cN (wpAny_isOneOf_valiter ty ?_)))));refine cN (m:=setField (.ref it) 1 (rawInt ((i:Int)+1))) (gr ho hd 39 ?_);have st:(s.heap.update it (Obj.mapFields (·.setIfInBounds 1 (rawInt ((i:Int)+1))))).IsValIter it d (i+1) es.size ep:=
   ⟨_,fO _ ho (iH (fU hd _)),(iU ..).trans hc,by rw[fU hd];simp[rawInt]⟩
  have q:=q1 hi _ st (fI ..);generalize s.heap.update it (Obj.mapFields (·.setIfInBounds 1 (rawInt ((i:Int)+1))))=h' at st q ⊢;refine cN (dh (cN (wpAny_isOneOf_valiter (s:=49) st.typeIs (cN (wpAny_isOneOf_valiter (s:=49) st.typeIs (cO (cO ⟨_,rfl,cO q⟩)))))))
 ·obtain⟨hh,q⟩:=q2 hi;simp only[n0,cX,fu,gD hi];refine cN (cN (nm (cO ?_)));refine cN (m:=setField (.ref it) 0 .none) (gr ho hd 39 ?_);refine cN (m:=newExc (.type "StopIteration") []) ?_;simp only[newExc,newTuple];refine cN (eQ (cN (m:=firstArgMember _ _) (gN (a:=Value.none) rfl (eQ ?_ (by size_fits)))) (by size_fits));unfold raiseNew;refine cN (lN ?_);rw[show A.in1.handled=none from hh];refine cN (cO (wpAny_throw ?_));exact cN (fH (T := "StopIteration") (b:=true) ⟨_,c8 _ rfl,rfl⟩ lO (cO (q _ (((fI ..).extBut.push _).push _))))
variable{v:Addr}
theorem qh(hv:s.heap.IsValuesView v d)(m:Yk s.heap d es ep)
  (q:Q (.ref s.heap.objs.size) { s with heap:=s.heap.push { cls:=.type "dict_valueiterator",data:=.fields #[.ref d,.int 0 0,.int es.size 0,.int ep 0] } }) :
  36 (pyIter (.ref v)) Q E s:=by
 have ty:=hv.typeIs;obtain⟨ov,Rj,_,Sy⟩:=hv;obtain⟨o,ho,_,sw⟩:=m;refine iW ty F.slot_dict_values_iter (eE F.slot_dict_values_iter ty F.entry_dict_values_iter ?_ (F.args_dict_values_iter_1 _));unfold Builtin.«dict_values.__iter__» Builtin.Dict_items.dictOf Builtin.Dict_items.newIterator;refine cN (cO (cN (cN (gj Rj Sy (x:=.ref d) rfl (cO (cN (cN (fP ho sw (cN (iq ho sw ?_))))))))));rw[show Builtin.Dict_items.ownsTuple "dict_valueiterator" = false by left];simp only[c6,cX];exact eQ (cO ⟨_,rfl, "dict_valueiterator",_,⟨_,c8 _ rfl,rfl⟩,nE.lookup,by simpa[rawInt] using q⟩)
theorem k8(hh:A.handled=none)(I d:Addr)(oF:d≠I)(es:Array DictEntry)(ep:Nat) :
  Walks prog w A I [I,d] [I] es.size (fun i v=>∃e,es[i]?=some e/\v=e.val) (fun i h=>h.IsValIter I d i es.size ep/\Yk h d es ep) where
 sub:=fun b hb=>by simp at hb;simp[hb]
 frame:=fun _ _ _ st hk=>⟨st.1.at fun o e=>hk I 39 o e,st.2.keep fun o e=>hk d 39 o e⟩
 item:=fun i s Q E hi st hQ=>Wq st.1 st.2 (fun _ h' sJ su=> hQ _ h' s.toks ⟨es[i],ir hi,rfl⟩ ⟨sJ,st.2.keep fun o e=>su.extBut d o oF e⟩ fun b o hb e=>su.extBut b o (fun h=>hb (by simp[h])) e) fun h=>oh hi 40
 done:=fun s Q E st hQ=>Wq st.1 st.2 (fun h=>oh h 40) fun _=>⟨hh,fun h' he'=>hQ h' s.toks fun b o hb e=>he' b o (fun h=>hb (by simp[h])) e⟩
 self:=fun _ _ _ _ st hQ=>wpAny_pyIter_valiter st.1 hQ
theorem ZaK:W.KdlSrc prog w "dict_values" v d es.size (fun i v=>∃e,es[i]?=some e/\v=e.val) (fun h=>h.IsValuesView v d/\Yk h d es ep) where
 type:=fun _ m=>m.1.typeIs
 there:=fun _ m=>⟨let ⟨_,h,_⟩:=m.1;cT h,m.2.lt⟩
 keep:=fun _ _ m hk=>⟨let ⟨o,h,x⟩:=m.1; ⟨o,hk v (.inl rfl) o h,x⟩,m.2.keep fun o e=>hk d (.inr rfl) o e⟩
 notList:=by left
 notTuple:=by left
 hint:=fun _ _ _ _ m hq=>W.kdl_hint_values m.1.typeIs hq
 iter:=fun _ _ hh m=>⟨_,_,(fun _ _ hq=>qh m.1 m.2 hq),k8 hh _ d (c9 m.2.lt) es ep,⟨⟨_,c8 _ rfl,rfl,rfl⟩,m.2.keep fun _ e=>cU _ e⟩⟩
end
theorem Xl(h:H a=none):∃H1,upd H a o=H1/\Zd H H1/\H1 a=some o:=⟨_,rfl,Zh h,Zc⟩
def ZeL(c:Nat):Bool:=decide (48<=c/\c<=57)
def ZeX(z:Str):Bool:=decide (1<=z.length)&&decide (z.length<=6)&&z.cps.toList.all ZeL&&(decide (z = "0")||decide (z.cps.toList[0]?≠some 48))
abbrev TEm:=St->Hp->(St->Hp->Prop)->Prop
def PEm(X:Cx)(em:Sem Unit)(t:TEm):Prop:=
 ∀(bJ:53) (s:Shared) (U:St) (H:Hp) (Q:St->Hp->Prop),L2.Inv X bJ U H s->t U H Q->38 em (fun _ s'=>∃σ' H',L2.Inv X bJ σ' H' s'/\Q σ' H') X.xe s
def jP(J:It)(g:TG)(tt:TT)(em:TEm)(σ0:St)(H1:Hp)(Q:St->Hp->Prop):Prop:=
 ∃W:Nat->Nat->St->Hp->Prop,(∃m,W 0 m σ0 H1)/\∀i m σ' H',W i m σ' H'->(J.stop i H'/\Q σ' H') \/
  (J.go i H'/\∃N:St->Hp->Prop,(∀σ2 H5,N σ2 H5->∃m',m'<m/\W (i+1) m' σ2 H5)/\∀x H2,J.yld i H' x H2->g x σ' H2 fun σ2 H3=>tt σ2 H3 fun c H4=>if c=true then em σ2 H4 N else N σ2 H4)
def VL(p:Pos)(tg:Expr)(oK:List Expr)(it:Value)(env:Env)(oX:Sem Unit)(c:Code):Sem Fin:=do
 standAt p
 match <- pyNext it with
 |none=>pure (.done .next)
 |some v=>
  letOwnedTupleGo tg it v
  assign tg env v
  let mut ok:=true
  for c in oK do
   if ok then ok <- isTrue c env (eval c env)
  if ok then oX
  again c
theorem Zap{d:Nat}{it acc:Value}(h:(Code.compLoop e d it acc env).isFrame=false) :
  (model prog w).den (.compLoop e d it acc env)=(compTurn e d it acc env).onRaise (fun x=>do noteFrame x env;theTreesLotGoes x):=by
 show(if(Code.compLoop e d it acc env).isFrame then(compTurn e d it acc env).onRaise (leaving env) else(compTurn e d it acc env).onRaise (fun x=>do noteFrame x env;theTreesLotGoes x))=_
 rw[h];rfl
theorem QB{d:Nat}{it acc:Value}(h:(Code.compStart e d it acc env).isFrame=false) :
  (model prog w).den (.compStart e d it acc env)=(compStart e d it acc env).onRaise (fun x=>do noteFrame x env;standAt theWindowsPlace):=by
 show(if(Code.compStart e d it acc env).isFrame then(compStart e d it acc env).onRaise (leaving env) else(compStart e d it acc env).onRaise (fun x=>do noteFrame x env;standAt theWindowsPlace))=_
 rw[h];rfl
theorem vW{d:Nat}{it acc:Value}(cl:(clausesOf e)[d]?=some ⟨tg,iter,oK,0⟩)(hf:(Code.compStart e d it acc env).isFrame=false)
  (h0:codeAny 86 A (.compLoop e d it acc env) R s)
  (h:36 (pyIter it) (fun Dg s'=>codeAny 86 A (.compLoop e d Dg acc env) R s') (fun _ _=>False) s) (hu:A.under (.compStart e d it acc env)=A:=by rfl) (hq:∀Dg,(Code.compLoop e d Dg acc env).quiet=true:=by intro _;rfl) :
  codeAny 86 A (.compStart e d it acc env) R s:=by
 refine iX ?_;rw[QB hf,hu];refine wpAny_notedAt ?_;unfold compStart;rw[cl]
 show wpAny _ A (ask >>= _) _ _ s
 refine cN (iS (wpAny_ite ?_))
 split
 ·first
   |exact cN (cO (cO (And.intro (hq _) h0)))
   |exact cO (And.intro (hq _) h0)
 ·first
   |exact cN (eN (cN (gz (cN (kU h fun Dg s' h'=>cO (And.intro (hq _) h'))))))
   | (refine cN (eN ?_);show 50 (standAt iter.pos >>= _) _ _ s;exact cN (gz (cN (kU h fun Dg s' h'=>cO (And.intro (hq _) h')))))
section
variable{tn:Nat->Heap->Prop}{g:TG}{em:TEm}{p:Pos}{oX:Sem Unit}{d:Nat}{acc:Value}{Q:St->Hp->Prop}
theorem J9(hf:(Code.compLoop e d (.ref it) acc Y.env).isFrame=false)(ht:compTurn e d (.ref it) acc Y.env=VL p tg oK (.ref it) Y.env oX (.compLoop e d (.ref it) acc Y.env))
  (T:xC Y.prog Y.w Y.K tg J fp it tn) (I:L2.Inv Y bJ σ0 H1 s) (st:tn 0 s.heap) (Ff:∀b∈fp,WH Y bJ H1 b) (hc:Y.calm=true) (hx:Y.xe=fun _ _=>False)
  (hg:PG Y tg g) (hT:PTs Y oK tt) (he:PEm Y oX em) (h:jP J g tt em σ0 H1 Q) (hR:∀σ' H' s',L2.Inv Y bJ σ' H' s'->Q σ' H'->R (.ok .next) s')
  (hu:Y.A.under (.compLoop e d (.ref it) acc Y.env)=Y.A:=by rfl) (hq:(Code.compLoop e d (.ref it) acc Y.env).quiet=true:=by rfl) :
  codeAny (model Y.prog Y.w) Y.A (.compLoop e d (.ref it) acc Y.env) R s:=by
 obtain⟨W,⟨m0,w0⟩,rq⟩:=h;have pP:∀{H':Hp},(∀b∈fp,H' b=none)->∀b∈fp,WH Y bJ H' b:=fun {H'} hn b hb=>by
  obtain⟨f0,fr⟩:=Ff b hb;exact⟨hn b hb,fr⟩
 unfold PG at hg;unfold PTs at hT;unfold PEm at he;rw[hx] at hg hT he;refine codeAny_loop hq (fun n s'=>∃i σ' H',L2.Inv Y bJ σ' H' s'/\tn i s'.heap/\(∀b∈fp,H' b=none)/\W i n σ' H') ?_ m0 ⟨0,σ0,H1,I,st,fun b hb=>(Ff b hb).1,w0⟩;rintro n s5 ⟨i,σ5,H5,I5,w6,Bu,w5⟩;rw[Zap hf,hu,ht];refine wpAny_noted ?_;unfold VL;have TI:=T.item Y rfl rfl rfl hc i bJ s5 σ5 H5 (fun _ _=>False) I5 (pP Bu) w6;have TD:=T.done Y rfl rfl rfl hc i bJ s5 σ5 H5 (fun _ _=>False) I5 (pP Bu) w6;rcases rq i n σ5 H5 w5 with⟨stop,qn⟩|⟨go,N,hN,step⟩
 ·refine cN (gz (cN (kU (TD stop) fun r s6 ⟨hr,I6⟩=>?_)));subst hr;exact cO (hR _ _ _ I6 qn)
 ·refine cN (gz (cN (kU (TI go) fun r s6 ⟨u,hr,h6⟩=>?_)));subst hr;refine cN (kU h6 fun _ s7 ⟨x,H7,I7,r7,y7,Bo,GD⟩=>?_);have Gw:=I7.pinned (pP GD) (T.obj _ _ Bo);refine cN (kU (hg _ s7 σ5 H7 x u _ Gw r7 (step x H7 y7)) fun _ s8 ⟨σ8,H8,I8,q8⟩=>?_);refine cN (kU (hT _ s8 σ8 H8 _ I8 q8) fun c s9 ⟨H9,I9,q9⟩=>?_);have back:∀{σa:St}{Ha:Hp}{sa:Shared},L2.Inv Y (bJ++Ux fp s7.heap) σa Ha sa->(∃m',m'<n/\W (i+1) m' σa Ha)->∃m,m<n/\∃i σ' H',L2.Inv Y bJ σ' H' sa/\tn i sa.heap/\(∀b∈fp,H' b=none)/\W i m σ' H':=fun {σa Ha sa} Ia ⟨m',hm,wa⟩=>by
   refine⟨m',hm,i+1,σa,Ha,Ia.unpinned,T.keep _ _ _ Bo fun b hb o e=>(Ia.pin (b,o) (fb _ (fb _ (XW hb e)))).1,fun b hb=>?_,wa⟩;obtain⟨o,e,d⟩:=T.obj _ _ Bo b hb;exact(Ia.pin (b,o) (fb _ (fb _ (XW hb e)))).2.1
  cases c with
  |false=>exact cO ⟨rfl,back I9 (hN _ _ (by simpa using q9))⟩
  |true=>
   rw[og rfl] at q9;exact cN (kU (he _ s9 σ8 H9 _ I9 q9) fun _ Dj ⟨σ10,rX,Ih,D6⟩=>cO ⟨rfl,back Ih (hN _ _ D6)⟩)
def WL(iter:Expr)(e:Expr)(d:Nat)(acc:Value)(env:Env):Sem Unit:=do
 let x <- eval iter env
 standAt iter.pos
 let x <- foldedSetIterable iter env x
 let _ <- runOwn (.compStart e d (<- holding [x] (pyIter x)) acc env) env
theorem JZ(cl:(clausesOf e)[d]?=some ⟨tg,iter,oK,0⟩)(hf:∀it,(Code.compLoop e d it acc Y.env).isFrame=false/\(Code.compStart e d it acc Y.env).isFrame=false)
  (ht:∀it,compTurn e d it acc Y.env=VL p tg oK it Y.env oX (.compLoop e d it acc Y.env)) (hc:Y.calm=true) (hx:Y.xe=fun _ _=>False)
  (hi:PI Y tg iter wi) (hg:PG Y tg g) (hT:PTs Y oK tt) (he:PEm Y oX em) (hs:∀x,foldedSetIterable iter Y.env x=pure x:=by intro _;rfl)
  (hu:∀it,Y.A.under (.compLoop e d it acc Y.env)=Y.A/\Y.A.under (.compStart e d it acc Y.env)=Y.A:=by intro _;exact⟨rfl,rfl⟩) (hq:∀it,(Code.compLoop e d it acc Y.env).quiet=true:=by intro _;rfl) :
  PEm Y (WL iter e d acc Y.env) (fun U H Q=>wi U H fun J H1=>jP J g tt em U H1 Q):=by
 intro bJ s U H Q I h;unfold WL;refine cN (thn (hi bJ s U H _ I h) fun v s1 q1=>?_);refine cN (gz (cN (gN (hs v) ?_)));refine cN (dh (thn q1 fun DA s2 q2=>?_));obtain⟨it,fp,tn,J,H1,e1,I2,T,rE,f2,q⟩:=q2;subst e1;have loop:=J9 (p:=p) (R:=fun r s'=>match r with|.ok f=>wpAny (model Y.prog Y.w) Y.A (pure ()) (fun _ s'=>∃σ' H',L2.Inv Y bJ σ' H' s'/\Q σ' H') Y.xe s'|.error e=>cameBackBy (model Y.prog Y.w) Y.A Y.env Y.xe e s') (hf _).1 (ht _) T I2 rE f2 hc hx hg hT he q (fun σ' H' s' I' q'=>cO ⟨σ',H',I',q'⟩) (hu _).1 (hq _);refine cN (wpAny_runOwn ?_);exact vW cl (hf _).2 loop (T.self Y.A 0 _ _ _ rE loop) (hu _).2 hq
end
end L3
variable{em:PySem.Addr->L3.TEm}
namespace L3
open PySem PySem.Spec PyProof.Rows L2
def qr(wi:TI)(ix:List (68))(o0:Addr->HO)(g:TG)(tt:TT)(em:Addr->TEm):TE:=fun U H Q=>wi U H fun J H1=>∀D,H1 D=none->jP J g tt (em D) (sub ix U) (upd H1 D (o0 D)) (fun _ H'=>Q (.ref D) H')
theorem VX{ZG:List Comprehension}{g:TG}{Q:VK}
  (I:L2.Inv X bJ U H s) (h:qr wi ix o0 g tt em U H Q)
  (fin:∀(D C:Addr) (H':Hp) (s':Shared) (m:Str->67),L2.Inv X bJ U H' s'->WH X bJ H' C->s'.heap.Ns C m->Q (.ref D) H'->compPost 82 X.A X.xe use QV (.ref D) C (.ok .next) s')
  (BQ:clausesOf e=⟨tg,iter,oK,0⟩::ZG) (tf:∀it acc env,(Code.compLoop e 0 it acc env).isFrame=false/\(Code.compStart e 0 it acc env).isFrame=false)
  (OJ:∀it D env,compTurn e 0 it (.ref D) env=VL iter.pos tg oK it env (bd D env) (.compLoop e 0 it (.ref D) env))
  (Ni:∀(A:Around) it acc env,A.under (.compLoop e 0 it acc env)=A/\A.under (.compStart e 0 it acc env)=A) (Of:∀it acc env,(Code.compLoop e 0 it acc env).quiet=true)
  (Rq:∀(A:Around) (E:Value->41) (Q:Value->41) (s:Shared),Q (.ref s.heap.objs.size) { s with heap:=s.heap.push ob }->wpAny 82 A nA Q E s)
  (pU:∀s2:Shared,∀H1,L2.Inv X bJ U H1 s2->L2.Inv X bJ U (81 (o0 s2.heap.objs.size)) { s2 with heap:=s2.heap.push ob })
  (ok:80) (hc:X.calm=true) (hi:PI X tg iter wi)
  (hg:∀cl C s H fp,PG (42) tg g) (ht:∀cl C s H fp,PTs (42) oK tt) (he:∀cl C s H fp D,PEm (42) (bd D (compEnvC scope cl C X.env)) (em D))
  (hs:∀x,foldedSetIterable iter X.env x=pure x:=by intro _;rfl):38 (comprehension e scope X.env Ak nA false (eval iter X.env) use) QV X.xe s:=by
 refine wpAny_comprehension_free (use:=use) (cl:=105) BQ hs (Ky (W3 I ok)) ok.kind ok.names (thn (hi bJ s U H _ I h) fun v s1 q1=>thn q1 fun DA s2 q2=>?_);obtain⟨it,fp,tn,J,H1,e1,I2,T,rE,f2,q⟩:=q2;subst e1;have hD:H1 s2.heap.objs.size=none:=I2.hok.fresh (cP _);have lw:=q _ hD;refine Rq _ _ _ _ ?_;have I3:=pU s2 H1 I2;have B3:=T.obj 0 _ rE;have f3:∀b∈fp,WH X bJ (81 (o0 s2.heap.objs.size)) b:=fun b hb=>by
  obtain⟨o,e,_⟩:=B3 b hb;obtain⟨f0,fr⟩:=f2 b hb;exact⟨by rw[upd_ne (c9 (cT e))];exact f0,fr⟩
 have ui:tn 0 (s2.heap.push ob):=T.keep 0 _ _ rE fun b _ o e=>cU _ e;generalize hs3:({ s2 with heap:=s2.heap.push ob }:Shared)=s3 at I3 ⊢;have uA:tn 0 s3.heap:=by rw[<- hs3];exact ui
 refine wpAny_newFunctionEnv ok.nocell (by intro y hy;simp at hy) (fun h1 CB uq=>?_) ok.kind;have k1:∀b o,s3.heap.get? b=some o->h1.get? b=some o:=fun b o e=>(uq.2 b (c9 (cT e))).trans (cU _ e);have ug:∀b∈fp,∃o,s3.heap.get? b=some o:=fun b hb=>let ⟨o,e,_⟩:=T.obj 0 _ uA b hb; ⟨o,e⟩
 have I4:L2.Inv (Zu X Nc scope (105) s3.heap.objs.size s3 (81 (o0 s2.heap.objs.size)) fp) bJ (sub ix U) (81 (o0 s2.heap.objs.size)) { s3 with heap:=h1,toks:=s3.toks+([]:List (Str×Value)).length }:=
  yw I3 ok f3 ug CB k1
 have EO:tn 0 h1:=T.keep 0 _ _ uA fun b _ o e=>k1 b o e;have hC:s3.heap.get? s3.heap.objs.size=none:=Heap.get?_none_of_le (cP _);have f4:∀b∈fp,WH (Zu X Nc scope (105) s3.heap.objs.size s3 (81 (o0 s2.heap.objs.size)) fp) bJ (81 (o0 s2.heap.objs.size)) b:=fun b hb=>by
  obtain⟨o,e⟩:=ug b hb;obtain⟨f0,f1,ff,OK,f4,f5⟩:=f3 b hb;have GU:b∉frs X.stack:=fun z=>by
   rcases cW.mp (I3.stkSub b z) with z|z
   ·exact f1 z
   ·exact ff z
  exact⟨f0,c9 (cT e),GU,.inl hb,fun x c q=>f4 x c (XG (W3 I3 ok) q),f5⟩
 have loop:=J9 (Y:=Zu X Nc scope (105) s3.heap.objs.size s3 (81 (o0 s2.heap.objs.size)) fp) (e:=e) (d:=0) (acc:=.ref s2.heap.objs.size) (p:=iter.pos) (R:=compPost 82 X.A X.xe use QV (.ref s2.heap.objs.size) s3.heap.objs.size)
  (tf _ _ _).1 (OJ _ _ _) T I4 EO f4 hc rfl (hg _ _ _ _ _) (ht _ _ _ _ _) (he _ _ _ _ _ _) lw (fun σ' H' s' J' qq=>by
   obtain⟨m',Dw,_⟩:=id J'.loc;have Bc:H' s3.heap.objs.size=none:=J'.free;exact fin _ _ H' s' m' (kW (h':=s'.heap) I3 f3 hC J' (.refl ..)) (I3.fpOk (cP _) Bc) Dw qq) (Ni _ _ _ _).1 (Of _ _ _)
 exact vW (by rw[BQ];rfl) (tf _ _ _).2 loop (T.self X.A 0 _ _ _ EO loop) (Ni _ _ _ _).2 (fun _=>Of _ _ _)
theorem YU{g:TG}{em:TEm}{Q:St->Hp->Prop}(Pv:Nat->St->Hp->Prop)(h0:Pv 0 σ0 H0)
  (CV:∀i U H,i<n->Pv i U H->J.go i H) (o9:∀U H,Pv n U H->J.stop n H)
  (hs:∀i x U H H2,i<n->Pv i U H->J.yld i H x H2->∀(N:St->Hp->Prop),(∀σ2 H4,Pv (i+1) σ2 H4->N σ2 H4) -> g x U H2 fun σ2 H3=>tt σ2 H3 fun c H4=>if c=true then em σ2 H4 N else N σ2 H4)
  (hd:∀U H,Pv n U H->Q U H):jP J g tt em σ0 H0 Q:=by
 refine⟨fun i m U H=>m=n-i/\i<=n/\Pv i U H,⟨n,by simp,dH _,h0⟩,?_⟩;rintro i m U H ⟨rfl,hi,p⟩
 by_cases oM:i<n
 ·refine .inr ⟨CV i U H oM p,fun σ2 H4=>Pv (i+1) σ2 H4,fun σ2 H4 q=>⟨n-(i+1),by lia,rfl,oM,q⟩,fun x H2 y=>hs i x U H H2 oM p y _ fun σ2 H4 q=>q⟩
 ·have:i=n:=by lia
  subst this;exact .inl ⟨o9 U H p,hd U H p⟩
def emL(te:TE)(D:Addr):TEm:=fun U H Q=>te U H fun v H5=>∃xs,H5 D=122/\xs.length<sizeLine/\Q U (upd H5 D (.lst (xs++[v])))
theorem ZaU(h:PE Y pD te):PEm Y (do let _ <- call (.builtin "list.append") [.ref D,<- eval pD Y.env]) (emL te D):=by
 intro bJ s U H Q I q;refine cN (thn (h bJ s U H _ I q) fun z s1 ⟨v,H1,I1,r1,xs,hx,hz,q1⟩=>?_);have ap:=Yg (X:=Y) bJ s1 U H1 (.ref D) [v] (.ref D) [z] (fun _ Hb=>Q U Hb) I1 rfl (.cons r1 .nil) ⟨_,xs,v,rfl,rfl,hx,hz,q1⟩;exact cN (thn ap fun _ sy ⟨_,rM,Hq,_,IR⟩=>cO ⟨U,rM,Hq,IR⟩)
section
variable{U:L2.St}{y:V}{u r:Value}
end
def emF(wi:TI)(g:TG)(tt:TT)(em:TEm):TEm:=fun U H Q=>wi U H fun J H1=>jP J g tt em U H1 Q
theorem ZaL(h:e=.ListComp pD [⟨tg,iter,oK,0⟩,⟨rO,oz,pe,0⟩] scope oj\/e=.SetComp pD [⟨tg,iter,oK,0⟩,⟨rO,oz,pe,0⟩] scope oj)(it acc:Value)(env:Env) :
  compTurn e 0 it acc env=VL iter.pos tg oK it env (WL oz e 1 acc env) (.compLoop e 0 it acc env):=by
 rcases h with rfl|rfl <;>
 ·unfold compTurn VL WL;simp only[bind_assoc,pure_bind];rfl
theorem Qc(I2:L2.Inv X bJ U H1 s2):L2.Inv X bJ U (81 (.lst [])) { s2 with heap:=s2.heap.push { cls:=.type "list",data:=.seq ([]:45).toArray } }:=
 I2.laid (t':=s2.toks) (fun b u e=>cU _ e) (cP _) ⟨dH _,[],0,.nil,c8 _ rfl⟩
theorem Je{AQ:TI}{g:TG}{Q:VK}(I:L2.Inv X bJ U H s)(h:qr wi ix (fun _=>.lst []) g tt (fun D=>emF AQ g2 CH (emL te D)) U H Q)
  (fin:∀(D C:Addr) (H':Hp) (s':Shared) (m:Str->67),L2.Inv X bJ U H' s'->WH X bJ H' C->s'.heap.Ns C m->Q (.ref D) H'->compPost 82 X.A X.xe use QV (.ref D) C (.ok .next) s')
  (ok:80) (hc:X.calm=true) (hi:PI X tg iter wi)
  (hg:∀cl C s H fp,PG (42) tg g) (ht:∀cl C s H fp,PTs (42) oK tt)
  (sv:∀cl C s H fp,PI (42) rO oz AQ) (DU:∀cl C s H fp,PG (42) rO g2) (re:∀cl C s H fp,PTs (42) pe CH)
  (he:∀cl C s H fp,PE (42) pD te)
  (hs:∀x,foldedSetIterable iter X.env x=pure x) (sn:∀env x,foldedSetIterable oz env x=pure x):38 (comprehension (.ListComp pD [⟨tg,iter,oK,0⟩,⟨rO,oz,pe,0⟩] scope oj) scope X.env Ak (newList []) false (eval iter X.env) use) QV X.xe s:=
 VX (ob:={ cls:=.type "list",data:=.seq ([]:45).toArray }) (bd:=fun D env=>WL oz (.ListComp pD [⟨tg,iter,oK,0⟩,⟨rO,oz,pe,0⟩] scope oj) 1 (.ref D) env) I h fin rfl (fun _ _ _=>⟨rfl,rfl⟩) (fun _ _ _=>ZaL (.inl rfl) _ _ _) (fun _ _ _ _=>⟨rfl,rfl⟩) (fun _ _ _=>rfl)
  (fun _ _ _ _ q=>eQ q) (fun _ _ I2=>Qc I2) ok hc hi hg ht (fun cl C s H fp D=>JZ (p:=oz.pos) (Y:=42) rfl (fun _=>⟨rfl,rfl⟩) (fun _=>rfl) hc rfl (sv cl C s H fp) (DU cl C s H fp) (re cl C s H fp) (ZaU (he cl C s H fp)) (sn _)) hs
theorem KS{AQ:TI}{g:TG}(ok:80)(hc:X.calm=true)(hi:PI X tg iter wi)
  (hg:∀cl C s H fp,PG (42) tg g) (ht:∀cl C s H fp,PTs (42) oK tt)
  (sv:∀cl C s H fp,PI (42) rO oz AQ) (DU:∀cl C s H fp,PG (42) rO g2) (re:∀cl C s H fp,PTs (42) pe CH)
  (he:∀cl C s H fp,PE (42) pD te)
  (hs:∀x,foldedSetIterable iter X.env x=pure x:=by intro _;rfl) (sn:∀env x,foldedSetIterable oz env x=pure x:=by intro _ _;rfl):PE X (.ListComp pD [⟨tg,iter,oK,0⟩,⟨rO,oz,pe,0⟩] scope oj) (qr wi ix (fun _=>.lst []) g tt (fun D=>emF AQ g2 CH (emL te D))):=by
 intro bJ s U H Q I h;rw[eval_ListComp];refine Je (use:=none) I h (fun D C H' s' m I' f hn qq=>?_) ok hc hi hg ht sv DU re he hs sn;obtain⟨f0,f1,f2,f3,f4,f5⟩:=f;exact⟨m,hn,fun h' sb=>⟨.ref D,H',I'.turned (t':=s'.toks) (fun b o hb e=>(sb.2 b hb).trans e) f0 f1 f3 f4 f5,rfl,qq⟩⟩
theorem Jk{i:Nat}{x:Str}{D:js}{L:Addr}{m:Str->67}(hN:X.N.Nodup)(hi:X.N[i]?=some x)(hx:X.env.kindOf x=some .local)(I':L2.Inv X bJ U H' s')(f:WH X bJ H' C)(hn:s'.heap.Ns C m)(qq:D.nx (U.set i (some (.ref L))) H') :
  compPost 82 X.A X.xe (some (assign (.Name x o7) X.env)) (fun _ s'=>SP X bJ D .next s') (.ref L) C (.ok .next) s':=by
 obtain⟨f0,f1,f2,f3,f4,f5⟩:=f;refine wpAny_assign_Name (qj (v:=.ref L) I' hN hi (.inl hx) rfl (fun s2 I2 ⟨a,sb,ha⟩=>?_) (.inr hx));have HJ:C≠a:=by
  rintro rfl;rcases ha with z|z
  ·exact f1 z
  ·exact f4 _ _ z rfl
 exact⟨m,hn.sameBut sb HJ,fun h' Go=>⟨_,H',I2.turned (t':=s2.toks) (fun b o hb e=>(Go.2 b hb).trans e) f0 f1 f3 f4 f5,qq⟩⟩
structure Wi(κ:Nat)(Pm:Params)(H:Hp)(a:Addr)(es:NE)(ep:Nat)(N:ND->37)(ns:37):Prop where
 at_:H a=52
 keys:∀e∈es,96
 val:∀d v,ZU es d=some v->∃l vs,v=.ref l/\H l=123/\NdL κ H vs (N d)
 has:∀d,d∈ns↔(ZU es d).isSome=true
 sub:∀d∈ns,∀x∈N d,x∈ns
 few:∀d,(N d).length<=12
 refs:∀e∈es,∃r,e.2.2=.ref r
 len:ns.length<=12
structure X9(κ:Nat)(Pm:Params)(H:Hp)(a:Addr)(es:NE)(ep:Nat)(M:ND->71)(n:Nat)(ns:37):Prop where
 at_:H a=52
 keys:∀e∈es,96
 val:∀d v,ZU es d=some v->∃l,v=.ref l/\H l=some (.lst ((M d).map V.bl))
 has:∀d,d∈ns↔(ZU es d).isSome=true
 len:∀d∈ns,(M d).length=n
 few:n<=12
 refs:∀e∈es,∃r,e.2.2=.ref r
theorem Wi.mono{κ:Nat}{Pm:Params}{H H':Hp}{a:Addr}{es:NE}{ep:Nat}{N:ND->37}{ns:37}(s:77)(h:Wi κ Pm H a es ep N ns):Wi κ Pm H' a es ep N ns:=
 ⟨s _ _ h.at_,fun e he=>(h.keys e he).mono (nJ s),fun d v e=>let ⟨l,vs,h1,h2,h3⟩:=h.val d v e; ⟨l,vs,h1,s _ _ h2,h3.mono (nJ s)⟩,h.has,h.sub,h.few,h.refs,h.len⟩
theorem X9.mono{κ:Nat}{Pm:Params}{H H':Hp}{a:Addr}{es:NE}{ep:Nat}{M:ND->71}{n:Nat}{ns:37}(s:77)(h:X9 κ Pm H a es ep M n ns):X9 κ Pm H' a es ep M n ns:=
 ⟨s _ _ h.at_,fun e he=>(h.keys e he).mono (nJ s),fun d v e=>let ⟨l,h1,h2⟩:=h.val d v e; ⟨l,h1,s _ _ h2⟩,h.has,h.len,h.few,h.refs⟩
theorem Wi.on{ns:37}(h:Wi κ Pm H a es ep N ns)(hd:d∈ns):∃l vs,ZU es d=some (.ref l)/\H l=123/\NdL κ H vs (N d):=by
 obtain⟨v,e⟩:=fG.mp ((h.has d).mp hd);obtain⟨l,vs,rfl,h1,h2⟩:=h.val d v e;exact⟨l,vs,e,h1,h2⟩
theorem X9.on{ns:37}(h:X9 κ Pm H a es ep M n ns)(hd:d∈ns):∃l,ZU es d=some (.ref l)/\H l=some (.lst ((M d).map V.bl)):=by
 obtain⟨v,e⟩:=fG.mp ((h.has d).mp hd);obtain⟨l,rfl,h1⟩:=h.val d v e;exact⟨l,e,h1⟩
theorem Zd.upN(s:77)(hp:H p=none):Zd H (upd H' p o):=fun b u e=>by
 rw[upd_ne (fun z:b=p=>by rw[z,hp] at e;cases e)];exact s _ _ e
theorem YN{o':HO}(hp:H p=some o')(n:∀xs,o'≠.tup xs):ZT H (upd H p o):=fun a xs e=>by
 rw[upd_ne (fun z:a=p=>by rw[z,hp] at e;cases e;exact n xs rfl)];exact e
structure DE(κ:Nat)(H:Hp)(es:NE)(nd:37)(f:ND->69):Prop where
 keys:∀e∈es,96
 nodup:(es.map (·.1)).Nodup
 sub:∀e∈es,e.1∈nd
 val:∀d,ZU es d=f d
theorem DE.mono{κ:Nat}{H H':Hp}{es:NE}{nd:37}{f:ND->69}(s:ZT H H')(h:DE κ H es nd f):DE κ H' es nd f:=⟨fun e he=>(h.keys e he).mono s,h.nodup,h.sub,h.val⟩
theorem DE.nil:DE κ H [] nd fun _=>none:=⟨fun _ h=>(by cases h),by simp,fun _ h=>(by cases h),fun _=>rfl⟩
theorem Ws{y:V}:(ZI es d y v).map (·.1)=if d∈es.map (·.1) then es.map (·.1) else es.map (·.1)++[d]:=by
 unfold ZI
 by_cases h:(es.any fun e=>decide (e.1=d))=true
 ·obtain⟨e,he,q⟩:=fD.mp h;have:d∈es.map (·.1):=by rw[<- dE q];exact gI he
  rw[og h,og this,fV];refine lV fun x _=>?_
  show(if x.1=d then(x.1,x.2.1,v) else x).1=x.1
  split<;>rfl
 ·have:d∉es.map (·.1):=fun q=>h (by
   obtain⟨e,he,rfl⟩:=da.mp q;exact fD.mpr ⟨e,he,dy rfl⟩)
  rw[n8 h,n8 this,eO];rfl
theorem DE.put{f:ND->69}(h:DE κ H es nd f){y:V}(hy:Nd κ H y d)(hd:d∈nd):DE κ H (ZI es d y v) nd fun x=>if x=d then some v else f x:=by
 refine⟨fun e he=>?_,?_,fun e he=>?_,fun x=>?_⟩
 ·rcases Xw he with q|rfl|⟨z,hz,e1,rfl⟩
  ·exact h.keys e q
  ·exact hy
  ·exact h.keys z hz
 ·rw[Ws]
  by_cases q:d∈es.map (·.1)
  ·rw[og q];exact h.nodup
  ·rw[n8 q,fy];exact⟨h.nodup,by simp,fun a ha b hb e=>by rw[df] at hb;subst hb;subst e;exact q ha⟩
 ·rcases Xw he with q|rfl|⟨z,hz,e1,rfl⟩
  ·exact h.sub e q
  ·exact hd
  ·exact h.sub z hz
 ·rw[XM,h.val]
theorem DE.few{f:ND->69}(h:DE κ H es nd f):es.length<=nd.length:=by
 have:=ZN h.nodup (nd:=nd) fun d hd=>by
  obtain⟨e,he,rfl⟩:=da.mp hd;exact h.sub e he
 rwa [cS] at this
theorem DE.congr{f g:ND->69}(h:DE κ H es nd f)(e:∀d,f d=g d):DE κ H es nd g:=⟨h.keys,h.nodup,h.sub,fun d=>(h.val d).trans (e d)⟩
theorem UM{N:ND->37}:∀{l:37}{b:ND}{s:DS},XS N (l++[b]) s=XF (Yx N) WP (Vr (XS N l s) b)
 |[],_,_=>rfl
 |_::l,_,_=>UM (l:=l)
theorem K7{l:37}{b:ND}{s:DS}(e:(XS N l s).T=[])(c:((XS N l s).c b).isSome=true):XS N (l++[b]) s=XS N l s:=by
 rw[UM];have:Vr (XS N l s) b=XS N l s:=by unfold Vr;rw[og c]
 rw[this];exact Y6.eq WP.fix ⟨e,0,rfl⟩
theorem Wi.has0{ns:37}(h:Wi κ Pm H a es ep N ns):∀d∈ns,∃v,ZU es d=some v:=fun d hd=>fG.mp ((h.has d).mp hd)
theorem X9.has0{ns:37}(h:X9 κ Pm H a es ep M n ns):∀d∈ns,∃v,ZU es d=some v:=fun d hd=>fG.mp ((h.has d).mp hd)
section
variable{K:Type}[DecidableEq K]{knd:WR prog w K}{k:K}{u v:Value}{d:Addr}{xs:List (K×Value×Value)}
theorem yr{Q:Unit->41}(hr:knd.room A)(hu:knd.is s.heap k u)(m:Xe knd s.heap d xs)(oV:∀x∈xs,knd.is s.heap x.1 x.2.1)
  (hQ:∀h' tk,Xe knd h' d (zR xs k u v)->Heap.SameBut d s.heap h'->Q () 74) (pj:xs.length<=sizeLine) :
  36 (dictSet d u v) Q E s:=by
 unfold dictSet
 try with_reducible refine dh ?_
 refine cN (knd.pyHash hr hu fun tk=>?_);exact Vh (s:={ s with toks:=tk }) hr hu m oV (fun h' m' sb=>hQ h' tk m' sb) pj
end
theorem ZcE(hu:X.A.units+3<cLine):(vN X.prog X.w κ).room X.A:=by
 rw[UY];show X.A.units+2<cLine;lia
def emN(Pm:Params)(tk tv:TE)(D:Addr):TEm:=fun U H Q=>tk U H fun y H5=>tv U H5 fun v H6=>∃es ep κ d,H6 D=some (DeO Pm D es ep)/\(∀e∈es,Nd κ H6 e.2.1 e.1)/\Nd κ H6 y d/\es.length<sizeLine/\∀ep',Q U (upd H6 D (DeO Pm D (ZI es d y v) ep'))
theorem qc{tk:TE}(hw:Y.w.params=Pm)(hu:Y.A.units+3<cLine)(hk:PE Y kx tk)(hv:PE Y vx tv):PEm Y (do
   let kv <- eval kx Y.env
   let vv <- holding [kv] (eval vx Y.env)
   standAt { kx.pos with endLine:=vx.pos.endLine,endCol:=vx.pos.endCol }
   holding [kv,vv] (dictSet D kv vv)) (emN Pm tk tv D):=by
 intro bJ s U H Q I q;refine cN (thn (hk bJ s U H _ I q) fun z s1 ⟨y,H1,I1,r1,q1⟩=>?_);refine cN (dh (thn (hv bJ s1 U H1 _ I1 q1) fun z2 s2 ⟨v,H2,I2,r2,es,ep,κ,d,g,HI,hn,hl,q2⟩=>?_));obtain⟨z0,hd,xs,oO,m⟩:=xg κ hw I2 g;have hz:xs.length<=sizeLine:=by rw[<- gt oO];exact z0
 refine cN (gz (dh (yr (ZcE hu) (hn.is I2 r1) m (oO.is I2 HI) (fun h' tk m' sb=>?_) hz)));have he:∃q,h'.get? D=some q:=let ⟨q,_,_,hq,_⟩:=m'; ⟨q,hq⟩
 obtain⟨ep',de⟩:=k7.de (jg hw (by have:=U9 es d y v;lia) hd (oO.put r1 r2) m');exact⟨U,_,je (ob:=DeO Pm D (ZI es d y v) ep') I2 (by rw[g];exact True.intro) sb he (ve de),q2 ep'⟩
theorem Qh(it acc:Value)(env:Env) :
  compTurn (.DictComp kx vx [⟨tg,iter,oK,0⟩,⟨rO,oz,pe,0⟩] scope oj) 0 it acc env=VL iter.pos tg oK it env (WL oz (.DictComp kx vx [⟨tg,iter,oK,0⟩,⟨rO,oz,pe,0⟩] scope oj) 1 acc env) (.compLoop (.DictComp kx vx [⟨tg,iter,oK,0⟩,⟨rO,oz,pe,0⟩] scope oj) 0 it acc env):=by
 unfold compTurn VL WL;simp only[bind_assoc,pure_bind];rfl
theorem W9(I2:L2.Inv X bJ U H1 s2):L2.Inv X bJ U (81 (DeO Pm s2.heap.objs.size [] 0)) { s2 with heap:=s2.heap.push { cls:=.type "dict",data:=.dict #[] } }:=
 I2.laid (a:=s2.heap.objs.size) (o:=DeO Pm s2.heap.objs.size [] 0) (t':=s2.toks) (fun _ _ q=>cU _ q) (cP _) (ve ⟨dH _,ia.mpr (eY (c9 (Inv.big I2))),[],.nil,_,#[],c8 _ rfl,⟨rfl,rfl,rfl⟩,rfl,rfl,lZ⟩)
theorem Qv{wi:L2.TI}{g:TG}{tk:TE}(ok:80)(hw:X.w.params=Pm)(hu:X.A.units+3<cLine)(hc:X.calm=true)(hi:PI X tg iter wi)
  (hg:∀cl C s H fp,PG (42) tg g) (ht:∀cl C s H fp,PTs (42) oK tt)
  (hk:∀cl C s H fp,PE (42) kx tk) (hv:∀cl C s H fp,PE (42) vx tv)
  (hs:∀x,foldedSetIterable iter X.env x=pure x:=by intro _;rfl):PE X (.DictComp kx vx [⟨tg,iter,oK,0⟩] scope oj) (qr wi ix (fun D=>DeO Pm D [] 0) g tt (fun D=>emN Pm tk tv D)):=by
 intro bJ s U H Q I h;rw[arm_eval_DictComp];refine VX (e:=.DictComp kx vx [⟨tg,iter,oK,0⟩] scope oj) (use:=none) (QV:=EP X bJ U Q) (ob:={ cls:=.type "dict",data:=.dict #[] }) (bd:=fun D env=>do
   let kv <- eval kx env
   let vv <- holding [kv] (eval vx env)
   standAt { kx.pos with endLine:=vx.pos.endLine,endCol:=vx.pos.endCol }
   holding [kv,vv] (dictSet D kv vv)) I h (fun D C H' s' m I' f hn qq=>?_) rfl (fun _ _ _=>⟨rfl,rfl⟩) (fun _ _ _=>rfl) (fun _ _ _ _=>⟨rfl,rfl⟩) (fun _ _ _=>rfl)
  (fun _ _ _ _ q=>eQ q) (fun s2 H1 I2=>W9 I2) ok hc hi hg ht (fun cl C s H fp D=>qc (Y:=42) hw hu (hk cl C s H fp) (hv cl C s H fp)) hs
 ·obtain⟨f0,f1,f2,f3,f4,f5⟩:=f;exact⟨m,hn,fun h' sb=>⟨.ref D,H',I'.turned (t':=s'.toks) (fun b o hb e=>(sb.2 b hb).trans e) f0 f1 f3 f4 f5,rfl,qq⟩⟩
theorem yP{wi AQ:L2.TI}{g:TG}{tk:TE}(ok:80)(hw:X.w.params=Pm)(hu:X.A.units+3<cLine)(hc:X.calm=true)(hi:PI X tg iter wi)
  (hg:∀cl C s H fp,PG (42) tg g) (ht:∀cl C s H fp,PTs (42) oK tt)
  (sv:∀cl C s H fp,PI (42) rO oz AQ) (DU:∀cl C s H fp,PG (42) rO g2) (re:∀cl C s H fp,PTs (42) pe CH)
  (hk:∀cl C s H fp,PE (42) kx tk) (hv:∀cl C s H fp,PE (42) vx tv)
  (hs:∀x,foldedSetIterable iter X.env x=pure x:=by intro _;rfl) (sn:∀env x,foldedSetIterable oz env x=pure x:=by intro _ _;rfl):PE X (.DictComp kx vx [⟨tg,iter,oK,0⟩,⟨rO,oz,pe,0⟩] scope oj) (qr wi ix (fun D=>DeO Pm D [] 0) g tt (fun D=>emF AQ g2 CH (emN Pm tk tv D))):=by
 intro bJ s U H Q I h;rw[arm_eval_DictComp];refine VX (e:=.DictComp kx vx [⟨tg,iter,oK,0⟩,⟨rO,oz,pe,0⟩] scope oj) (use:=none) (QV:=EP X bJ U Q) (ob:={ cls:=.type "dict",data:=.dict #[] }) (bd:=fun D env=>WL oz (.DictComp kx vx [⟨tg,iter,oK,0⟩,⟨rO,oz,pe,0⟩] scope oj) 1 (.ref D) env) I h (fun D C H' s' m I' f hn qq=>?_) rfl (fun _ _ _=>⟨rfl,rfl⟩) (fun _ _ _=>Qh _ _ _) (fun _ _ _ _=>⟨rfl,rfl⟩) (fun _ _ _=>rfl)
  (fun _ _ _ _ q=>eQ q) (fun s2 H1 I2=>W9 I2) ok hc hi hg ht (fun cl C s H fp D=>JZ (p:=oz.pos) (Y:=42) rfl (fun _=>⟨rfl,rfl⟩) (fun _=>rfl) hc rfl (sv cl C s H fp) (DU cl C s H fp) (re cl C s H fp) (qc (Y:=42) hw hu (hk cl C s H fp) (hv cl C s H fp)) (sn _)) hs
 ·obtain⟨f0,f1,f2,f3,f4,f5⟩:=f;exact⟨m,hn,fun h' sb=>⟨.ref D,H',I'.turned (t':=s'.toks) (fun b o hb e=>(sb.2 b hb).trans e) f0 f1 f3 f4 f5,rfl,qq⟩⟩
theorem X6{i:Nat}{x:Str}{uR:Pos}{wi:L2.TI}{g:TG}{tk:TE}(hN:X.N.Nodup)(hi:X.N[i]?=some x)(hx:X.env.kindOf x=some .local)
  (ok:80) (hw:X.w.params=Pm) (hu:X.A.units+3<cLine) (hc:X.calm=true) (oJ:PI X tg iter wi)
  (hg:∀cl C s H fp,PG (42) tg g) (ht:∀cl C s H fp,PTs (42) oK tt)
  (hk:∀cl C s H fp,PE (42) kx tk) (hv:∀cl C s H fp,PE (42) vx tv)
  (Hr:swapsWith (.DictComp kx vx [⟨tg,iter,oK,0⟩] scope oj) (some (.Name x o7)) uR.line X.env=pure true:=by rfl)
  (hs:∀x,foldedSetIterable iter X.env x=pure x:=by intro _;rfl):PS X (.Assign [.Name x o7] (.DictComp kx vx [⟨tg,iter,oK,0⟩] scope oj) uR) (Zb2 (qr wi ix (fun D=>DeO Pm D [] 0) g tt (fun D=>emN Pm tk tv D)) (yd i)):=by
 intro bJ s U H D I h;rw[exec_Assign_Name_used _ _ _ _ Hr];refine cN (gz (cN ?_))
 show wpAny _ X.A (do let _ <- comprehension (.DictComp kx vx [⟨tg,iter,oK,0⟩] scope oj) scope X.env _ newDict false (eval iter X.env) (some (assign (.Name x o7) X.env))) _ _ s
 refine cN (thn (VX (e:=.DictComp kx vx [⟨tg,iter,oK,0⟩] scope oj) (use:=some (assign (.Name x o7) X.env)) (QV:=fun _ s'=>SP X bJ D .next s') (ob:={ cls:=.type "dict",data:=.dict #[] }) (bd:=fun D env=>do
   let kv <- eval kx env
   let vv <- holding [kv] (eval vx env)
   standAt { kx.pos with endLine:=vx.pos.endLine,endCol:=vx.pos.endCol }
   holding [kv,vv] (dictSet D kv vv)) I h (fun L C H' s' m I' f hn qq=>?_) rfl (fun _ _ _=>⟨rfl,rfl⟩) (fun _ _ _=>rfl) (fun _ _ _ _=>⟨rfl,rfl⟩) (fun _ _ _=>rfl) (fun _ _ _ _ q=>eQ q) (fun s2 H1 I2=>W9 I2) ok hc oJ hg ht (fun cl C s H fp D=>qc (Y:=42) hw hu (hk cl C s H fp) (hv cl C s H fp)) hs) fun _ s' q=>cO (cO q))
 exact Jk hN hi hx I' f hn qq
def Zc5(Pm:Params)(tk tv:TE):TE:=fun U H Q=>∀p,H p=none->tk U (upd H p (DeO Pm p [] 0)) fun y H1=>tv U H1 fun v H2=>∃κ d,H2 p=some (DeO Pm p [] 0)/\Nd κ H2 y d/\∀ep,Q (.ref p) (upd H2 p (DeO Pm p [(d,y,v)] ep))
theorem Zax{k v:Expr}{tk:TE}(hw:X.w.params=Pm)(hu:X.A.units+3<cLine)(hk:PE X k tk)(hv:PE X v tv):PE X (.Dict [some k] [v] oj) (Zc5 Pm tk tv):=by
 intro bJ s U H Q I q;have hn:=I.hok.fresh (cP s.heap.objs.size);have I1:=W9 (Pm:=Pm) I;rw[arm_eval_Dict,zip_pairTrees [some k] [v] X.env oj rfl rfl,dictDisplay_pairs _ (by intro e;have:=pairTrees_length [some k] [v] X.env oj rfl rfl;rw[e] at this;cases this) (by rw[pairTrees_length [some k] [v] X.env oj rfl rfl];exact(by left:1<17))];refine cN (gz (cN ?_));unfold subDict;refine cN (wpAny_alloc ?_);refine cN (dh ?_);rw[og (by rw[pairTrees_length [some k] [v] X.env oj rfl rfl];exact(by left:1<=15))];refine cN (pairTrees_cons_walk (thn (hk bJ _ U _ _ I1 (q _ hn)) fun z s1 ⟨y,H1,J1,r1,q1⟩=>thn (hv bJ s1 U H1 _ J1 q1) fun z2 s2 ⟨x,H2,J2,r2,κ,d,g,sd,q2⟩=>pairTrees_nil_walk ?_));obtain⟨z0,hd,xs,oO,m⟩:=xg κ hw J2 g;cases oO;refine dh ?_;simp only[gM,i5];refine cN (cN (cN (yr (ZcE hu) (sd.is J2 r1) m (fun _ h=>(by cases h)) (fun h' tk m' sb=>?_) (by show 0<=sizeLine;lia))));have he:∃q,h'.get? s.heap.objs.size=some q:=let ⟨q,_,_,hq,_⟩:=m'; ⟨q,hq⟩
 obtain⟨ep',de⟩:=k7.de (jg (es:=[(d,y,x)]) hw (by show 1<=sizeLine;rw[cQ];decide) hd (.cons ⟨rfl,r1,r2⟩ .nil) m');exact cO (cO (cO (cO (cO ⟨.ref s.heap.objs.size,_,je (ob:=DeO Pm s.heap.objs.size [(d,y,x)] ep') J2 (by rw[g];exact True.intro) sb he (ve de),rfl,q2 ep'⟩))))
def VwO(v a:Addr):HO:=.ext fun h=>h.IsValuesView v a
theorem Zek{v:Addr}(x:h.IsValuesView v a):Y9 P w H h v (VwO v a):=
 ⟨x,let ⟨o,e,_⟩:=x; ⟨o,e⟩,fun _ _ y k=>let ⟨o,e,r⟩:=y; ⟨o,k _ e,r⟩⟩
theorem XJ{U:L3.St}(I:L2.Inv X bJ U H s)(e:H a=52):es.length<=sizeLine/\(a==sysModules)=false/\∃(xs:List (ND×Value×Value)) (fs:Array DictEntry),NPr es xs/\Yk s.heap a fs ep/\fs.toList=xs.map (fun x=>⟨hN Pm x.1,x.2.1,x.2.2⟩)/\fs.size=es.length:=by
 obtain⟨⟨z,y,xs,r,o,fs,h1,h2,h3,h4,h5⟩,_⟩:=I.hok a _ e;have el:=gt r;exact⟨z,y,xs,fs,r,⟨o,h1,h2,h3⟩,h4,by rw[<- dj,h4,cS,el]⟩
theorem U1(d:Addr)(hd:(d==sysModules)=false) :
  MeetsIn prog w (Builtin.«dict.values» ⟨[.ref d],[]⟩) (fun _ R s=>s.TypeIs (.ref d) "dict" /\ R (.ok (.ret (.ref s.heap.objs.size))) { s with heap:=s.heap.push { cls:=.type "dict_values",data:=.fields #[.ref d] } }):=
 .of_wp fun A R s ⟨hT,h⟩=>by
  refine cN ?_;unfold Builtin.Dict.noArgs;refine cN (lT hT ?_)
  show 50 (pure d) _ _ s
  refine cO ?_
  show 50 (Builtin.Dict.showsAll d >>= _) _ _ s
  unfold Builtin.Dict.showsAll;rw[n8 (by rw[hd];exact dQ)];refine cN (cO ?_);exact cN (eQ (cO ⟨_,rfl,h⟩))
def jp(Pm:Params):V->List V->Hp->VK->Prop:=fun x vs H Q=>∃a es ep,x=.ref a/\vs=[]/\H a=52/\∀v,H v=none->Q (.ref v) (upd H v (VwO v a))
theorem QN:MtM X "dict.values" (jp Pm):=by
 intro bJ s U H x vs v us Q I rx rv h;obtain⟨a,es,ep,rfl,rfl,e,q⟩:=h;cases (show v=Value.ref a from rx);have Iz:=rv.zero;subst Iz;obtain⟨z,y,xs,fs,r,m,_⟩:=XJ I e;refine call_meetsIn PySem.F.slot_dict_values m.ty PySem.F.entry_dict_values (PySem.F.args_dict_values_1 _) (U1 a y) ⟨m.ty,?_⟩;exact⟨.ref s.heap.objs.size,_,I.laid (o:=VwO s.heap.objs.size a) (t':=s.toks) (fun _ _ q=>cU _ q) (cP _) (Zek ⟨_,c8 _ rfl,rfl,rfl⟩),rfl,q _ (I.hok.fresh (cP _))⟩
theorem Zag(r:NPr es xs):ZE (es.map (·.2.2)) (xs.map (·.2.2)):=by
 induction r with
 |nil=>exact .nil
 |cons h t ih=>exact .cons h.2.2 ih
theorem Q7{fs:Array DictEntry}(e:fs.toList.map (·.val)=ys)(h:ItemsOf (fun i v=>∃e,fs[i]?=some e/\v=e.val) acc fs.size):acc.toList=ys:=by
 subst e;refine iY fun j=>?_;rw[dz,fj,fj];cases c:acc[j]? with
 |none=>
  have:acc.size<=j:=by simpa using c
  rw[gD (by have:=h.1;lia)];rfl
 |some v=>
  obtain⟨e,he,rfl⟩:=h.2 j v c;rw[he];rfl
theorem Zbe{U:L3.St}{v:Addr}(I:L2.Inv X bJ U H s)(e:H v=some (VwO v a)):s.heap.IsValuesView v a:=(I.hok v _ e).1
def ZcN(Pm:Params):List V->Hp->VK->Prop:=fun xs H Q=>∃v a es ep,xs=[.ref v]/\H v=some (VwO v a)/\H a=52/\∀l,H l=none->Q (.ref l) (upd H l (.lst (es.map (·.2.2))))
theorem yZ(hc:X.calm=true):Yy X (.type "list") (ZcN Pm):=by
 intro bJ s U H xs us Q I r h;obtain⟨v,a,es,ep,rfl,gv,g,q⟩:=h;obtain⟨u,rfl,ru⟩:=XU r;obtain rfl:u=Value.ref v:=ru;obtain⟨z,y,xs,fs,oO,m,e4,ef⟩:=XJ I g;have hv:=Zbe I gv;refine W.kdl_call (ZaK (ep:=ep) (es:=fs) (v:=v) (d:=a)) 124 ⟨hv,m⟩ 40 fun h' tk acc c hk hg rz=>?_;refine⟨.ref s.heap.objs.size,_,I.laid (o:=.lst (es.map (·.2.2))) (t':=tk) hk (cP _) ⟨by rw[cS];exact z,acc.toList,c,?_,by simpa using hg⟩,rfl,q _ (I.hok.fresh (cP _))⟩;rw[Q7 (ys:=xs.map (·.2.2)) (by rw[e4,fV];rfl) rz];exact Zag oO
def ItV(Pm:Params)(a:Addr)(es:NE)(ep:Nat):It:=
 ⟨fun i H=>H a=52/\i<es.length,fun i H x H'=>H'=H/\∃e,es[i]?=some e/\x=e.2.2,fun i H=>H a=52/\es.length<=i⟩
theorem NPr.rowV(r:NPr es xs):∀{i:Nat}{e:ND×V×V},es[i]?=some e->∃x,xs[i]?=some x/\Z6 e.2.1 x.2.1/\Z6 e.2.2 x.2.2:=by
 induction r with
 |nil=>intro i e h;simp at h
 |cons h t ih=>
  intro i e he;cases i with
  |zero=>simp at he;subst he;exact⟨_,rfl,h.2.1,h.2.2⟩
  |succ j=>obtain⟨x,q,r⟩:=ih (i:=j) (by simpa using he);exact⟨x,by simpa using q,r⟩
theorem Jg(a it:Addr)(es:NE)(ep:Nat):xC P w K tg (ItV Pm a es ep) [it] it (fun i h=>h.IsValIter it a i es.length ep) where
 mem:=by simp
 obj:=fun i h st b hb=>by
  have e:b=it:=by simpa using hb
  subst e;obtain⟨o,e,c,d⟩:=st;exact⟨o,e,fun v z=>by rw[d] at z;cases z⟩
 keep:=fun i h h' st k=>let ⟨o,e,r⟩:=st; ⟨o,k it 39 o e,r⟩
 item:=by
  intro X hP hw hK hc i bJ s U H E I hf st hg;subst hP hw hK;obtain⟨g,hi⟩:=hg;obtain⟨z,y,xs,fs,oO,m,h4,ef⟩:=XJ I g;obtain⟨f0,f1,f2,f3,f4,f5⟩:=hf it 39;have oR:i<fs.size:=by lia
  obtain⟨x,hx,_,rx⟩:=oO.rowV (cR hi);have ek:fs[i].val=x.2.2:=by
   have:fs.toList[i]?=some fs[i]:=by rw[fj,ir oR]
   rw[h4,dz,hx] at this;have:=eZ this;rw[<- this]
  rw[<- ef] at st;refine Wq st m (fun hi h' ox sb=>?_) fun h=>oh h 40;rw[ef] at ox;have I1:89 H 49:=I.turned (t':=s.toks) (fun b o hb e=>(sb.2 b hb).trans e) f0 f1 f3 f4 f5;obtain⟨o',e,c,d⟩:=id ox;exact⟨_,rfl,kO (s:=49) e c d 61 ⟨es[i].2.2,H,I1,by rw[ek];exact rx,⟨rfl,es[i],cR 40,rfl⟩,ox,fun b hb=>(hf b hb).1⟩⟩
 done:=by
  intro X hP hw hK hc i bJ s U H E I hf st hg;subst hP hw hK;obtain⟨g,hi⟩:=hg;obtain⟨z,y,xs,fs,oO,m,h4,ef⟩:=XJ I g;obtain⟨f0,f1,f2,f3,f4,f5⟩:=hf it 39;rw[<- ef] at st;exact Wq st m (fun h=>oh hi 40) fun _=>⟨I.ok.hd hc,fun h' eb=>⟨rfl,I.turned (t':=s.toks) (fun b o hb e=>eb b o hb e) f0 f1 f3 f4 f5⟩⟩
 self:=fun _ _ _ _ _ st h=>wpAny_pyIter_valiter st h
def ZdZ(Pm:Params)(td:TE):L2.TI:=fun U H R=>td U H fun x H1=>∃v a es ep,x=.ref v/\H1 v=some (VwO v a)/\H1 a=52/\R (ItV Pm a es ep) H1
theorem ZbP{l:Expr}(hl:PE X l td):PI X tg l (ZdZ Pm td):=by
 intro bJ s U H R I h;refine thn (hl bJ s U H _ I h) fun v s1 ⟨x,H1,I1,r1,q1⟩=>?_;obtain⟨v,a,es,ep,e,gv,g,q⟩:=q1;subst e;cases r1;obtain⟨z,y,xs,fs,oO,m,h4,ef⟩:=XJ I1 g;refine qh (Zbe I1 gv) m ?_;refine⟨s1.heap.objs.size,[s1.heap.objs.size],_,_,H1,rfl,I1.kept (t':=s1.toks) fun b o e=>cU _ e,Jg a _ es ep,⟨_,c8 _ rfl,rfl,by rw[ef];rfl⟩,fun b hb=>?_,q⟩;have e:b=s1.heap.objs.size:=by simpa using hb
 subst e;exact I1.fpOk (cP _) (I1.hok.fresh (cP _))
def SyI(B:Bool)(h:Heap)(a:Addr)(ss:70):Prop:=
 ∃o es ep t,h.get? a=some o/\o.ExactSet/\o.data=.set es ep t/\RsA t.place/\t.fits es.size=true/\(B=false->t.led=true) /\
  (∀e∈es.toList,∃x k,e.2=.int x k/\e.1=hashInt x)/\(es.toList.map fun e=>Z4 e.2).Nodup/\(∀x,x∈(es.toList.map fun e=>Z4 e.2)↔x∈ss)/\es.size<=ss.length
theorem Wv.i{prog:Program}{w:World}{B:Bool}{h:Heap}{a:Addr}{ss:70}(x:Wv prog w B h a ss):SyI B h a ss:=by
 obtain⟨o,es,ep,t,ho,hx,hd,hr,hf,pW,hL,o9,r⟩:=x;refine⟨o,es,ep,t,ho,hx,hd,hr,hf,hL,fun e m=>?_,r⟩;obtain⟨⟨k,hk,eh⟩,_⟩:=pW e m;obtain⟨y,t',ey⟩:=o9 e m;rw[ey] at hk;have q2:Vz k (.int y t')=true:=hk;rcases ZM q2 with⟨i,t2,e1,e2⟩|⟨z,t2,e1,e2⟩
 ·cases e1;cases e2;exact⟨_,_,ey,eh⟩
 ·cases e2
theorem SyI.y{prog:Program}{w:World}{B:Bool}{h:Heap}{a:Addr}{ss:70}(x:SyI B h a ss):Wv prog w B h a ss:=by
 obtain⟨o,es,ep,t,ho,hx,hd,hr,hf,hL,o9,r⟩:=x;refine⟨o,es,ep,t,ho,hx,hd,hr,hf,fun e m=>?_,hL,fun e m=>let ⟨x,k,e1,_⟩:=o9 e m; ⟨x,k,e1⟩,r⟩;obtain⟨y,k,e1,e2⟩:=o9 e m;exact⟨⟨.inl y,by rw[e1];exact Y2 y k,e2⟩,by rw[e1];rfl⟩
def SyO(Pm:Params)(a:Addr)(ss:70):HO:=.ext fun h=>SyI (Pm.followText "set-order") h a ss
theorem ZcF(x:SyI (Pm.followText "set-order") h a ss):Y9 P w H h a (SyO Pm a ss):=by
 refine⟨x,?_,?_⟩
 ·obtain⟨o,_,_,_,e,_⟩:=x;exact⟨o,e⟩
 ·rintro h1 h2 ⟨o,es,ep,t,e,c⟩ k;exact⟨o,es,ep,t,k o e,c⟩
def ZdX(K:W.Frag)(Pm:Params):List V->Hp->VK->Prop:=fun xs H Q=>∃p ss,xs=[.ref p]/\SqL K H p (ss.map V.int)/\ss.length<1000/\∀l,H l=none->Q (.ref l) (upd H l (SyO Pm l ss))
def Zds(Pm:Params):List V->Hp->VK->Prop:=fun xs H Q=>∃p ss,xs=[.ref p]/\H p=some (SyO Pm p ss)/\ss.length<64/\∀(l:Addr) (us:70),H l=none->us.Pairwise (·<·)->(∀x,x∈us↔x∈ss)->us.length<=ss.length->Q (.ref l) (upd H l (.lst (us.map V.int)))
def Zen(Pm:Params):R2:=fun x y H Q=>∃a b sa sb r,x=.ref a/\y=.ref b/\H a=some (SyO Pm a sa)/\H b=some (SyO Pm b sb)/\sa.length<1000/\sb.length<1000/\(r=true↔∀x,x∈sa↔x∈sb)/\Q (.bl r) H
def nI:ND->Int
 |.i k=>k
 |_=>0
def ZeT(Pm:Params):List V->Hp->VK->Prop:=fun xs H Q=>∃a es ep,xs=[.ref a]/\H a=52/\(∀e∈es,Nd 0 H e.2.1 e.1)/\es.length<1000/\∀l,H l=none->Q (.ref l) (upd H l (SyO Pm l (es.map fun e=>nI e.1)))
theorem yk(hK:X.K=K)(hw:X.w.params=Pm)(hc:X.calm=true):Yy X (.type "set") (ZdX K Pm):=by
 subst hK;intro bJ s U H xs us Q I r h;obtain⟨p,ss,rfl,hq,hl,q⟩:=h;obtain⟨u,rfl,ru⟩:=XU r;obtain rfl:u=Value.ref p:=ru;obtain⟨oi,rv,pl,hz⟩:=I.list hq;refine QE 124 pl.isList rv hl fun h' tk hS k=>?_;exact⟨.ref s.heap.objs.size,_,I.laid (o:=SyO Pm s.heap.objs.size ss) k (cP _) (ZcF (by rw[<- hw];exact hS.i)),rfl,q _ (I.hok.fresh (cP _))⟩
theorem Q8{us:70}(h:us.Pairwise (·<=·))(n:us.Nodup):us.Pairwise (·<·):=by
 refine(List.Pairwise.and h n).imp fun {a b} q=>?_;have:=q.1;have:=q.2;lia
theorem kH(hw:X.w.params=Pm)(hc:X.calm=true):Yy X (.builtin "sorted") (Zds Pm):=by
 intro bJ s U H xs us Q I r h;obtain⟨p,ss,rfl,hq,hl,q⟩:=h;obtain⟨u,rfl,ru⟩:=XU r;obtain rfl:u=Value.ref p:=ru;obtain⟨hS,_⟩:=I.hok p _ hq;have sf:Wv X.prog X.w (X.w.params.followText "set-order") s.heap p ss:=by rw[hw];exact SyI.y hS
 refine JR 124 sf.toL hl fun out L n h' dr tk g1 g2 g3 g4 g5 hL k hg=>?_;exact⟨.ref L,_,ZcZ (I.laid (o:=.lst ((out.map Z4).map V.int)) k hL ⟨by rw[cS,cS,cQ];lia,out,n,vV g1,hg⟩) dr,rfl,q L (out.map Z4) (I.hok.fresh hL) (Q8 g3 g2) g4 (by rw[cS];exact g5)⟩
theorem ZbG(hw:X.w.params=Pm)(hu:X.A.units<cLine):OpR X (compareOp .Eq) (Zen Pm):=by
 intro bJ s U H x y v u Q I rx ry h;obtain⟨a,b,sa,sb,r,rfl,rfl,ha,hb,la,lb,hr,q⟩:=h;cases rx;cases ry;exact QY (SyI.y (I.hok a _ ha).1) (SyI.y (I.hok b _ hb).1) la lb hu hr ⟨.bl r,H,I,rfl,q⟩
theorem ZaI{U:L3.St}(I:L2.Inv X bJ U H s)(r:NPr es xs)(h:∀e∈es,Nd 0 H e.2.1 e.1):(∀x∈xs,∃k t,x.2.1=.int k t/\hN Pm x.1=hashInt k)/\(xs.map fun x=>Z4 x.2.1)=es.map fun e=>nI e.1:=by
 induction r with
 |nil=>exact⟨fun _ m=>(by cases m),rfl⟩
 |@cons p q ps qs hh t ih=>
  obtain⟨i1,i2⟩:=ih fun e m=>h e (c7 _ m);have hn:=h p dC;obtain⟨h1,h2,_⟩:=hh;have we:∃k t,q.2.1=.int k t/\hN Pm q.1=hashInt k/\nI p.1=k:=by
   rw[<- h1];have val:=hn.val;rcases ZP hn.ok with⟨_,k,e,_⟩|⟨e0,_⟩|⟨e0,_⟩|⟨e0,_⟩
   ·rw[e] at val ⊢;rw[show p.2.1=V.int (k:Int) from val] at h2;obtain⟨t,et⟩:=h2;exact⟨k,t,et,rfl,rfl⟩
   ·cases e0
   ·cases e0
   ·cases e0
  obtain⟨k,t',e1,e2,e3⟩:=we;refine⟨fun x m=>?_,?_⟩
  ·rcases cW.mp m with rfl|m
   ·exact⟨k,t',e1,e2⟩
   ·exact i1 x m
  ·rw[dD,dD,i2,e1,e3];rfl
theorem Jx(hw:X.w.params=Pm):Yy X (.type "set") (ZeT Pm):=by
 intro bJ s U H xs us Q I r h;obtain⟨a,es,ep,rfl,g,hk,hl,q⟩:=h;obtain⟨u,rfl,ru⟩:=XU r;obtain rfl:u=Value.ref a:=ru;obtain⟨z,y,xs,fs,oO,m,h4,ef⟩:=XJ I g;obtain⟨i1,i2⟩:=ZaI (Pm:=Pm) I oO hk;refine Qi y m (fun e me=>?_) 40 fun h' tk hS k=>?_
 ·rw[h4] at me;obtain⟨x,mx,rfl⟩:=da.mp me;exact i1 x mx
 have e5:(fs.toList.map fun e=>Z4 e.key)=es.map fun e=>nI e.1:=by rw[h4,fV,<- i2];rfl
 rw[e5] at hS;exact⟨.ref s.heap.objs.size,_,I.laid (o:=SyO Pm s.heap.objs.size _) k (cP _) (ZcF (by rw[<- hw];exact hS.i)),rfl,q _ (I.hok.fresh (cP _))⟩
def Zeu(r:V->List V->Hp->VK->Prop)(to:TE):TE:=fun U H Q=>to U H fun x H1=>r x [] H1 Q
section
variable{o:Expr}{to:TE}{name:Str}{apos cpos:Pos}{id:String}{r:V->List V->Hp->VK->Prop}
theorem ZdH(slot:Slot "dict" name id)(BJ:typeOf (.builtin id)=pure (.type "method_descriptor"))(hm:MtM X id r)(hr:∀x H Q,r x [] H Q->∃a es ep,x=.ref a/\H a=52)(ho:PE X o to)
  (pK:attributeBase o name X.env (eval o X.env)=eval o X.env:=by rfl) (pO:(apos.endLine==cpos.line)=true:=by rfl):PE X (.Call (.Attribute o name apos) [] [] cpos) (Zeu r to):=by
 intro bJ s U H Q I h;refine wpAny_Call_method0_late pK pO (thn (ho bJ s U H _ I h) fun v s1 ⟨x,H1,I1,r1,q1⟩=>?_);obtain⟨a,es,ep,rfl,e⟩:=hr _ _ _ q1;cases (show v=Value.ref a from r1);obtain⟨⟨_,_,_,_,o,_,h1,h2,_⟩,_⟩:=I1.hok a _ e;exact⟨"dict",id,PySem.F.plainAttrs_dict,slot,BJ,⟨o,h1,h2.1⟩,fun b eb=>(by cases eb;exact⟨o,h1,h2.2.1⟩),Calls.callWith_builtin rfl (PySem.evalArgs_none (hm bJ s1 U H1 (.ref a) [] _ [] Q I1 rfl .nil q1))⟩
theorem Ji{x:V}{Q:VK}(h:jp Pm x [] H Q):∃a es ep,x=.ref a/\H a=52:=let ⟨a,es,ep,e,_,g,_⟩:=h; ⟨a,es,ep,e,g⟩
theorem VT(ho:PE X o to)(pK:attributeBase o "values" X.env (eval o X.env)=eval o X.env:=by rfl)(pO:(apos.endLine==cpos.line)=true:=by rfl):PE X (.Call (.Attribute o "values" apos) [] [] cpos) (Zeu (jp Pm) to):=
 ZdH PySem.F.slot_dict_values PySem.F.type_dict_values QN (fun _ _ _ h=>Ji h) ho pK pO
end
def Zd2(Pm:Params):List V->Hp->VK->Prop:=fun xs H Q=>∃a es ep,xs=[.ref a,.ty "dict"]/\H a=52/\Q (.bl true) H
theorem vD:Yy X (.builtin "isinstance") (Zd2 Pm):=by
 intro bJ s U H xs us Q I r h;obtain⟨a,es,ep,rfl,hq,q⟩:=h;obtain⟨u,v,rfl,ru,rv⟩:=qU r;obtain rfl:v=Value.type "dict" := rv;obtain rfl:u=Value.ref a:=ru;obtain⟨_,_,_,_,_,m,_⟩:=XJ I hq;exact fX (b:=true) W.kitx_dict I.kIn m.ty rfl (fun z=>nomatch z) fun tk=>⟨.bl true,H,I.tok _,rfl,q⟩
theorem Ks(hs:∀d∈nd,(ZU es d).isSome=true)(sub:∀e∈es,e.1∈nd)(d:ND):d∈nd↔(ZU es d).isSome=true:=⟨hs d,fun h=>by
 obtain⟨v,ev⟩:=fG.mp h;obtain⟨e,he,rfl,_⟩:=VB ev;exact sub e he⟩
open Classical in
theorem jv.okE(h:jv κ S H nd es)(ha:H a=52)(hs:∀d∈nd,(ZU es d).isSome=true)(sub:∀e∈es,e.1∈nd)(hl:nd.length<=12):∃N,Wi κ Pm H a es ep N nd:=by
 have ex:∀d,∃ds:37,(∀v,ZU es d=some v->∃l vs,v=.ref l/\H l=123/\106)/\(∀x∈ds,x∈nd)/\ds.length<=12:=fun d=>by
  cases e:ZU es d with
  |none=>exact⟨[],(fun v q=>by cases q),(fun _ q=>by cases q),by simp⟩
  |some v=>
   obtain⟨x,hx,_,e2⟩:=VB e;obtain⟨_,l,vs,ds,h1,_,h3,h4,h5,h6⟩:=h x hx;exact⟨ds,fun w q=>by cases q;exact⟨l,vs,e2.symm.trans h1,h3,h4⟩,h5,by lia⟩
 exact⟨fun d=>choose (ex d),ha,fun e he=>(h e he).1,fun d v q=>(choose_spec (ex d)).1 v q,Ks hs sub,fun d _ x hx=>(choose_spec (ex d)).2.1 x hx,fun d=>(choose_spec (ex d)).2.2,fun e he=>(let ⟨_,l,_,_,q,_⟩:=h e he; ⟨l,q⟩),hl⟩
open Classical in
theorem UZ.okE(h:UZ κ S H n es)(ha:H a=52)(hn:n<=12)(hs:∀d∈nd,(ZU es d).isSome=true)(sub:∀e∈es,e.1∈nd):∃M,X9 κ Pm H a es ep M n nd:=by
 have ex:∀d,∃bs:71,(∀v,ZU es d=some v->∃l,v=.ref l/\H l=some (.lst (bs.map V.bl)))/\bs.length=n:=fun d=>by
  cases e:ZU es d with
  |none=>exact⟨η n false,(fun v q=>by cases q),by simp⟩
  |some v=>
   obtain⟨x,hx,_,e2⟩:=VB e;obtain⟨_,l,bs,h1,_,h3,h4⟩:=h x hx;exact⟨bs,fun w q=>by cases q;exact⟨l,e2.symm.trans h1,h3⟩,h4⟩
 exact⟨fun d=>choose (ex d),ha,fun e he=>(h e he).1,fun d v q=>(choose_spec (ex d)).1 v q,Ks hs sub,fun d _=>(choose_spec (ex d)).2,hn,fun e he=>(let ⟨_,l,_,q,_⟩:=h e he; ⟨l,q⟩)⟩
theorem KL{y:V}(h:∀e∈es,e.1∈nd)(hd:d∈nd):∀e∈ZI es d y v,e.1∈nd:=fun e he=>by
 rcases Xw he with q|rfl|⟨z,hz,e1,rfl⟩
 ·exact h e q
 ·exact hd
 ·exact h z hz
theorem j5{κ:Nat}{H:Hp}:∀{vs:List V}{ds:37},106->ds≠[]->∃vi v di d,vs=vi++[v]/\ds=di++[d]/\NdL κ H vi di/\Nd κ H v d
 |_,_,.nil,h=>oh rfl h
 |_,_,.cons q .nil,_=>⟨[],_,[],_,rfl,rfl,.nil,q⟩
 |_,_,.cons q (.cons q2 t),_=>by
  obtain⟨vi,v,di,d,e1,e2,a,b⟩:=j5 (.cons q2 t) 39;exact⟨_::vi,v,_::di,d,by rw[e1];rfl,by rw[e2];rfl,.cons q a,b⟩
theorem nIn{S:Addr}{ri:List V}{di:37}{e:ND}{Q:VK}(hS:H S=some (.lst ri))(nr:NdL κ H ri di)(hv:Nd κ H v e)(q1:e∈di->Q (.bl false) H)(q2:e∉di->Q (.bl true) H):Zdf K true v (.ref S) H Q:=by
 refine⟨di.map toD,toD e,.lst (nH hS) nr.dp,hv.dp,(Us nr.ok).1,(X5 hv.ok).1,fh (X5 hv.ok).2 61,?_⟩;rw[og rfl,Zcm nr.ok hv.ok]
 by_cases h:e∈di
 ·have:(di.any fun x=>decide (x=e))=true:=fD.mpr ⟨e,h,by simp⟩;rw[this];exact q1 h
 ·have:(di.any fun x=>decide (x=e))=false:=by
   rw[lz];intro x hx hc;exact h (by rw[<- dE hc];exact hx)
  rw[this];exact q2 h
theorem ZdR{vs:List V}{Q:VK}(hl:H l=123)(nl:106)(hb:H b=some (.lst []))(q1:ds=[]->Q (.bl false) H)(q2:ds≠[]->Q (.bl true) H):jS K true (.ref l) (.ref b) H Q:=by
 have f:=Us nl.ok;refine⟨.list (ds.map toD),.list [],.lst (nH hl) nl.dp,.lst (nH hb) .nil,by rw[PyData.canLay0];exact f.1,by simp[PyData.canLay0,PyData.canLayAll0],by rw[PyData.depth];lia,?_⟩;cases ds with
 |nil=>simpa[PyData.eqv,PyData.eqvAll] using q1 rfl
 |cons x r=>simpa[PyData.eqv,PyData.eqvAll] using q2 39
theorem Wj(x:Zm p H H'):Zd (YF p H) (YF p H'):=fun b o e=>by
 obtain⟨n,e⟩:=WZ e;exact Z0 n (x b o n e)
theorem U6:typeLookup (.type "dict_values") "__contains__" = pure none:=by rw[lJ,lM];kernel_rfl
theorem qM:entryFor table "proto.contains_iter" = some Builtin.«proto.contains_iter» := entryFor_of_tree (by kernel_rfl)
theorem VI:plainId "proto.contains_iter" = true:=by left
theorem JM{d:Addr}{es:Array DictEntry}{x:Int}{t:Tok}(hh:A.handled=none)(nd:d≠it)(iv:∀e∈es.toList,∃y u,e.val=.int y u) :
  ∀(n i:Nat) (s:Shared),n=es.size-i->i<=es.size->s.heap.IsValIter it d i es.size ep->Yk s.heap d es ep ->
   (∀b h',Heap.ExtBut it s.heap h'->(b=true↔∃e∈es.toList.drop i,Z4 e.val=x)->R (.ok (.ret (.bool b))) 49) ->
   codeAny 86 A (.builtin "proto.contains_iter" ⟨[.ref it,.int x t],[]⟩) R s:=by
 intro n
 induction n with
 |zero=>
  intro i s hn hi st m hR;refine gi qM ?_;rw[gQ VI _]
  show wpAny _ A.in1 (pyNext (.ref it) >>= _) _ _ s
  refine cN (Wq st m (fun h=>oh h 40) fun _=>⟨by simpa using hh,fun h' he=>?_⟩);dsimp only;refine cN (eN ?_)
  show 50 (ret (Value.bool false)) _ _ _
  refine cO (hR false h' he ⟨fun z=>θ z,fun⟨e,m,_⟩=>?_⟩);rw[List.drop_of_length_le (by rw[dj];lia)] at m;cases m
 |succ n ih=>
  intro i s hn hi st m hR;refine gi qM ?_;rw[gQ VI _]
  show wpAny _ A.in1 (pyNext (.ref it) >>= _) _ _ s
  refine cN (Wq st m (fun h h' ox sb=>?_) fun h=>oh h 40);have hd:es.toList.drop i=es[i]::es.toList.drop (i+1):=by
   rw[i8 (by rw[dj];exact h),Array.getElem_toList]
  obtain⟨y,u,ey⟩:=iv es[i] 39;rw[ey];dsimp only;refine cN (wpAny_eqBool_int ?_)
  by_cases c:y=x
  ·rw[show(y==x)=true from by rw[c];exact lI x];simp only[dq];refine cN (eN ?_)
   show 50 (ret (Value.bool true)) _ _ _
   refine cO (hR true h' (fun b o hb e=>sb.extBut b o hb e) ⟨fun _=>⟨es[i],by rw[hd];simp,by rw[ey];exact c⟩,fun _=>rfl⟩)
  ·rw[show(y==x)=false from by simpa using c];simp only[c6,cX];refine cO ⟨ip VI _,ih (i+1) _ 40 h ox (m.keep fun o e=>sb.extBut d o nd e) fun b h2 he hb=>?_⟩;refine hR b h2 (fun b o hb e=>he b o hb (sb.extBut b o hb e)) ?_;rw[hb,hd];constructor
   ·rintro⟨e,m,q⟩;exact⟨e,c7 _ m,q⟩
   ·rintro⟨e,m,q⟩;rcases cW.mp m with rfl|m
    ·rw[ey] at q;exact oh q c
    ·exact⟨e,m,q⟩
def rInV(Pm:Params):R2:=fun x y H Q=>∃(i:Int) (v a:Addr) (es:NE) (ep:Nat),x=.int i/\y=.ref v/\H v=some (VwO v a)/\H a=52/\(∀e∈es,∃j,e.2.2=.int j)/\∀b:Bool,(b=true↔∃e∈es,e.2.2=.int i)->Q (.bl b) H
theorem Zdl(hc:X.calm=true):OpR X (compareOp .In) (rInV Pm):=by
 intro bJ s U H x y vx vy Q I rx ry h;obtain⟨i,v,a,es,ep,rfl,rfl,gv,g,hi,q⟩:=h;obtain⟨t,rfl⟩:=(show ∃t,vx=Value.int i t from rx);cases (show vy=Value.ref v from ry);obtain⟨z,yy,xs,fs,oO,m,h4,ef⟩:=XJ I g;have hv:=Zbe I gv;have we:∀{es:NE}{xs:List (ND×Value×Value)},NPr es xs->(∀e∈es,∃j,e.2.2=.int j)->(∀p∈xs,∃y u,p.2.2=.int y u)/\((∃p∈xs,Z4 p.2.2=i)↔∃e∈es,e.2.2=.int i):=by
  intro es xs r
  induction r with
  |nil=>exact fun _=>⟨fun _ m=>(by cases m),⟨fun⟨_,m,_⟩=>(by cases m),fun⟨_,m,_⟩=>(by cases m)⟩⟩
  |@cons p q ps qs hh t ih=>
   intro h;obtain⟨i1,i2⟩:=ih fun e m=>h e (c7 _ m);obtain⟨j,ej⟩:=h p dC;have r2:=hh.2.2;rw[ej] at r2;obtain⟨u,eu⟩:=(show ∃u,q.2.2=Value.int j u from r2);refine⟨fun x m=>?_,?_⟩
   ·rcases cW.mp m with rfl|m
    ·exact⟨j,u,eu⟩
    ·exact i1 x m
   ·constructor
    ·rintro⟨x,m,e⟩;rcases cW.mp m with rfl|m
     ·rw[eu] at e;have:j=i:=e;exact⟨p,dC,by rw[ej,this]⟩
     ·obtain⟨e',m',q'⟩:=i2.mp ⟨x,m,e⟩;exact⟨e',c7 _ m',q'⟩
    ·rintro⟨x,m,e⟩;rcases cW.mp m with rfl|m
     ·rw[ej] at e;cases e;exact⟨q,dC,by rw[eu];rfl⟩
     ·obtain⟨e',m',q'⟩:=i2.mpr ⟨x,m,e⟩;exact⟨e',c7 _ m',q'⟩
 obtain⟨k1,k2⟩:=we oO hi;have fv:∀e∈fs.toList,∃y u,e.val=.int y u:=fun e me=>by
  rw[h4] at me;obtain⟨p,mp,rfl⟩:=da.mp me;exact k1 p mp
 have fi:(∃e∈fs.toList,Z4 e.val=i)↔∃e∈es,e.2.2=.int i:=by
  rw[<- k2,h4];constructor
  ·rintro⟨e,me,q⟩;obtain⟨p,mp,rfl⟩:=da.mp me;exact⟨p,mp,q⟩
  ·rintro⟨p,mp,q⟩;exact⟨_,gI mp,q⟩
 show 50 (do return Value.bool (<- contains (.ref v) (.int i t))) _ _ s
 refine cN ?_;unfold contains
 try with_reducible refine dh ?_
 refine cN (gf hv.typeIs U6 ?_);rw[n8 61];refine cN (wpAny_callSpecialUnlessNone?_none hv.typeIs U6 ?_);refine cN (eN ?_);refine cN (wpAny_tryCatch ?_);refine qh hv m ?_;have nd:a≠s.heap.objs.size:=c9 m.lt;refine cN (wpAny_runValue ?_);refine JM 124 nd fv (fs.size-0) 0 _ rfl (dH _) ⟨_,c8 _ rfl,rfl,rfl⟩ (m.keep fun _ e=>cU _ e) fun b h' he hb=>?_;refine cO (cO ?_);refine⟨.bl b,H,I.kept (t':=s.toks) fun b o e=>he b o (c9 (cT e)) (cU _ e),rfl,q b ?_⟩;rw[hb,List.drop_zero,fi]
def Zd7(Pm:Params):R2:=fun x y H Q=>∃(a b:Addr) (es:NE) (ep ep':Nat),x=.ref a/\y=.ref b/\H a=52/\H b=some (DeO Pm b [] ep')/\Q (.bl (!es.isEmpty)) H
theorem Zb3(hu:X.A.units<cLine):OpR X (compareOp .NotEq) (Zd7 Pm):=by
 intro bJ s U H x y v u Q I rx ry h;obtain⟨a,b,es,ep,ep',rfl,rfl,ga,gb,q⟩:=h;cases (show v=Value.ref a from rx);cases (show u=Value.ref b from ry);obtain⟨z1,y1,xs,fs,oO,ma,h4,ef⟩:=XJ I ga;obtain⟨z2,y2,xs2,fs2,RU,mb,h42,TW⟩:=XJ I gb;obtain⟨oa,rY,_,sj⟩:=id ma;obtain⟨ob,rP,_,pI⟩:=id mb;refine lG (op:=.NotEq) ma.ty mb.ty PySem.F.slot_dict_ne (eE PySem.F.slot_dict_ne ma.ty PySem.F.entry_dict_ne ?_ (PySem.F.args_dict_ne_2 _ _)) hu
 show 50 (Builtin.Dict.dictSlotArgs "__ne__" ⟨[.ref a,.ref b],[]⟩ >>= _) _ _ s
 refine cN ?_;unfold Builtin.Dict.dictSlotArgs;refine cN (lT ma.ty ?_)
 show 50 (pure (Value.ref a,Value.ref b)) _ _ s
 refine cO ?_;dsimp only;refine cN (fH (T := "dict") mb.ty PySem.F.sub_dict_dict ?_);simp only[dM,c6,cX];refine cN (cO (cN (cO ?_)));refine cN ?_;unfold Builtin.Dict.samePairs Builtin.Dict.showsAll;rw[n8 (by rw[y1];exact dQ),n8 (by rw[y2];exact dQ)];refine cN (cO (cN (cO ?_)));refine cN (fP rY sj (cN (fP rP pI ?_)));have e2:fs2.size=0:=by rw[TW];rfl
 cases es with
 |nil=>
  have e1:fs.size=0:=by rw[ef];rfl
  rw[e1,e2,n8 39];refine cN (iq rY sj ?_);refine cN ?_;rw[nz];simp only[Std.Legacy.Range.size,iP,mO,Nat.div_one]
  show 50 (pure _) _ _ _
  refine cO ?_;exact cO (cO ⟨_,rfl,(fun e=>nomatch e),.bl false,H,I,rfl,q⟩)
 |cons e r=>
  have e1:fs.size=r.length+1:=by rw[ef];rfl
  rw[e1,e2,og 39];refine cN (eN ?_);exact cO (cO ⟨_,rfl,(fun e=>nomatch e),.bl true,H,I,rfl,q⟩)
theorem yR(d:Addr)(fs:Array DictEntry)(ep:Nat)(hd:(d==sysModules)=false) :
  MeetsIn prog w (Builtin.«dict.__len__» ⟨[.ref d],[]⟩) (fun _ R s=>Yk s.heap d fs ep/\R (.ok (.ret (.int fs.size s.toks))) 104):=
 .of_wp fun A R s ⟨m,h⟩=>by
  obtain⟨o,ho,_,sw⟩:=m
  show 50 (dictSize d >>= _) _ _ s
  unfold dictSize;refine cN (cN (fP ho sw (cO ?_)))
  show 50 (Builtin.Dict.pendingCount d >>= _) _ _ s
  refine cN (wpAny_pendingCount_other hd ?_);refine wpAny_ret_mkInt ?_;rw[Nat.add_zero];exact h
def Zc9(Pm:Params):List V->Hp->VK->Prop:=fun xs H Q=>∃a es ep,xs=[.ref a]/\H a=52/\Q (.int es.length) H
theorem Ju:Yy X (.builtin "len") (Zc9 Pm):=by
 intro bJ s U H xs us Q I r h;obtain⟨a,es,ep,rfl,g,q⟩:=h;obtain⟨u,rfl,ru⟩:=XU r;obtain rfl:u=Value.ref a:=ru;obtain⟨z,y,ys,fs,oO,m,h4,ef⟩:=XJ I g;rw[cQ] at z;refine nj kind_len plain_len entry_len (args_len1 _) ?_;unfold Builtin.«len»;refine cN (m:=oneArg "len" _) (cO ?_);refine cN (m:=callSpecial? (.ref a) (Str.ofString "__len__")) (gh (name:=Str.ofString "__len__") m.ty F.slot_dict_len (call_meetsIn F.slot_dict_len m.ty F.entry_dict_len (F.args_dict_len_1 _) (yR a fs ep y) ⟨m,?_⟩))
 show 50 _ _ _ 104
 refine cN (dh (cO ?_));refine cN (wpAny_letGo ?_)
 show 50 (if((fs.size:Nat):Int)<0 then _ else _) _ _ _
 rw[n8 40]
 show 50 (if((fs.size:Nat):Int)≥2 ^ 63 then _ else _) _ _ _
 rw[n8 40];exact cN (wpAny_mkInt (cO ⟨_,rfl,.int es.length,H,(I.tok (s.toks+1)).tok _,⟨_,by rw[ef]⟩,q⟩))
theorem Zdm(hK:X.K=K)(hu:X.A.units+195<cLine):OpR X (compareOp .In) (Zdf K false):=by
 subst hK;intro bJ s U H x y u v Q I rx ry h;obtain⟨ds,d,hy,hx,c1,c2,dp,q⟩:=h;obtain⟨as,a⟩:=hy.reads I ry;obtain⟨bs,b⟩:=hx.reads I rx;exact SeqAt.in_list_reads a b c1 c2 (by have:=Nat.min_le_right (PyData.depthAll ds) d.depth;lia) ⟨.bl _,H,I,rfl,q⟩
theorem Zct{vs:List V}{Q:VK}(hl:H l=123)(nl:106)(hb:H b=some (.lst []))(q1:ds=[]->Q (.bl true) H)(q2:ds≠[]->Q (.bl false) H):jS K false (.ref l) (.ref b) H Q:=by
 have f:=Us nl.ok;refine⟨.list (ds.map toD),.list [],.lst (nH hl) nl.dp,.lst (nH hb) .nil,by rw[PyData.canLay0];exact f.1,by simp[PyData.canLay0,PyData.canLayAll0],by rw[PyData.depth];lia,?_⟩;cases ds with
 |nil=>simpa[PyData.eqv,PyData.eqvAll] using q1 rfl
 |cons x r=>simpa[PyData.eqv,PyData.eqvAll] using q2 39
end L3
namespace L3
open PySem PySem.Spec L2
theorem pa_n1{X:Cx}{e:Expr}{te:TE}(ha:PE X e te)(hs:starEach [e] X.env=111::starEach [] X.env):PA X [e] (Wa te jb):=Za ha Ze hs
end L3
namespace KK
open PySem PySem.Spec L2 L3
abbrev qr0(a:Addr):Option V:=some (.ref a)
def top(i:Nat):Stmt:=PySem.Challenge.pw_timecourt_k44_whole_closed_has_no_full_l.main.body.getD i (.Pass ⟨0,0,0,0⟩)
def bL:54:=["self","rank"]
def bM:54:=["net","begins"]
def bN:54:=["self","begins"]
def bO:54:=["rank","knot","node","self"]
def bP:54:=["rank","knot","node"]
def bQ:54:=["one","number","self"]
def bR:54:=["_law_k","_law_nodes_here","_law_xs"]
def bS:54:=["node","thing"]
def bT:54:=["node","further","rank","self"]
def bU:54:=["one","rank","self"]
def bV:54:=["one","other"]
def bW:54:=["net","nodes"]
def bX:54:=["ahead","node"]
def bY:54:=["marks","nodes"]
def bZ:54:=["self","net","marks","begins"]
def b8:54:=["_law_script","_law_k"]
def b9:54:=["_law_cell","_law_many"]
def cb:54:=["_law_xs","_law_size"]
def cg:54:=["net","begins","goals"]
def ck:54:=["self","node"]
def cm:54:=["net","thing"]
def cq:54:=["ranks","thing"]
def cr:54:=["_law_xs","_law_nodes_here","_law_told","_law_length"]
def cu:54:=["_law_net_here","_law_xs","_law_node"]
def cw:54:=["_law_net_here","_law_begins","_law_xs"]
def cx:54:=["_law_net_here","_law_marks","_law_begins","_law_way","_law_ring"]
def cy:54:=["_law_cell","_law_xs"]
def cA:54:=["net","begins","row"]
def cB:54:=["net","marks","begins","thing"]
def cC:54:=["marks","number"]
def cD:54:=["net","marks","ranks","lacks","node"]
def cE:54:=["net","marks","begins","ranks","lacks"]
def cF:54:=["net","marks","begins"]
def cG:54:=["_law_script"]
def cH:54:=["node","number","marks"]
def cI:54:=["further","rank","self"]
def cJ:54:=["node","lacking","self"]
def cK:54:=["_law_node","_law_k","_law_marks"]
def cL:54:=["node","net","marks","ranks","lacks"]
def cM:54:=["_law_one","_law_net_here","_law_marks","_law_begins"]
abbrev UG:=top 1
abbrev V3:=top 3
abbrev Yh:=top 4
abbrev Z5:=top 5
abbrev W4:=top 6
abbrev WB:=top 7
abbrev YC:=top 8
abbrev X8:=top 9
abbrev Xi:=top 10
abbrev Va:=top 11
abbrev Yp:=top 13
abbrev Ya:=top 14
abbrev WV:=top 15
abbrev Z1:=top 16
abbrev Ym:=top 17
abbrev VP:=top 18
abbrev Ys:=Ve (top 19) 0
abbrev Xa:=Ve (top 19) 1
abbrev We:=Ve (top 19) 2
abbrev Yr:=Ve (top 19) 3
abbrev YE:=Ve (top 19) 4
abbrev Zr:=Ve (top 19) 5
abbrev Ye:=Ve (top 19) 6
abbrev WC:=top 21
abbrev Z7:=top 22
abbrev Vk:=top 23
abbrev YT:=top 24
abbrev Z9:=top 25
abbrev YD:=top 26
abbrev Z8:=top 27
abbrev ZO:=top 28
abbrev Yt:=top 29
abbrev XQ:=top 30
theorem bI{N P:54}{S:Scope}(a:S.kind=.function:=by rfl)(b:S.isCoroutine=false:=by rfl)(c:S.isGenerator=false:=by rfl)(d:N.take P.length=P:=by rfl)(e:N.Nodup/\(∀x∈P,S.names.lookup x=some .local\/S.names.lookup x=some .cell)/\∀y∈S.names,y.2≠.free:=by left):Zz N P S:=⟨a,b,c,e.1,d,e.2.1,e.2.2⟩
theorem kE:Zz ["thing"] ["thing"] (Zj UG):=bI
theorem JB:Zz ["node","thing"] bS (Zj V3):=bI
theorem YZ:Zz ["net","marks","begins","thing","way","ring","row","nodes"] cB (Zj Yh):=bI
def V9:54:=["net","begins","row","nodes","choices","thing","same"]
theorem YJ:Zz V9 cA (Zj Z5):=bI
theorem zL:Zz ["marks","nodes","number"] bY (Zj W4):=bI
def zX:54:=["net","marks","begins","ranks","lacks"]
theorem QD:Zz zX cE (Zj WB):=bI
theorem U0:Zz ["net","thing","own"] cm (Zj YC):=bI
theorem jn:Zz ["ranks","thing"] cq (Zj X8):=bI
theorem Wm:Zz ["net","marks","ranks","lacks","node","rank","lack","further"] cD (Zj Xi):=bI
theorem xo:Zz ["marks","number"] cC (Zj Va):=bI
theorem YH:Zz ["net","marks","begins","knots","loop","ranks","lacks"] cF (Zj Yp):=bI
theorem Xm:Zz ["net","begins","found","steps","begin","trail","node","step","further"] bM (Zj Ya):=bI
def j7:54:=["net","nodes","back","node","further"]
theorem V2:Zz j7 bW (Zj WV):=bI
theorem Yj:Zz ["net","begins","nodes","back","knots","seen","node","knot","place","at","ahead"] bM (Zj Z1):=bI
theorem Xf:Zz ["net","begins","goals","ahead","row","begin","place","node","further"] cg (Zj Ym):=bI
theorem vR:Zz ["ahead","node","path"] bX (Zj VP):=bI
theorem xw:Zz ["self","net","marks","begins"] bZ (Zj Ys):=bI
theorem UC:Zz ["self","rank"] bL (Zj Xa):=bI
theorem qx:Zz ["self","rank"] bL (Zj We):=bI
theorem Xp:Zz ["self","rank","knot","lacking"] bL (Zj Yr):=bI
theorem Wu:Zz ["self","begins","path"] bN (Zj YE):=bI
def Xc:54:=["self","node","rank","knot","inside","ring","number","goals"]
theorem Z2:Zz Xc ck (Zj Zr):=bI
theorem Xv:Zz ["self","begins","ranks","lacks"] bN (Zj Ye):=bI
theorem zn:Zz ["_law_script","_law_k"] b8 (Zj WC):=bI
theorem Y4:Zz ["_law_cell","_law_many","_law_found","_law_left","_law_number"] b9 (Zj Z7):=bI
theorem xJ:Zz ["_law_xs","_law_size"] cb (Zj Vk):=bI
theorem XZ:Zz ["_law_cell","_law_many","_law_found"] ["_law_cell"] (Zj YT):=bI
def Vj:54:=["_law_cell","_law_xs","_law_nodes_here","_law_net_here","_law_marks","_law_length","_law_node","_law_there","_law_begins"]
theorem YQ:Zz Vj cy (Zj Z9):=bI
theorem Wl:Zz ["_law_net_here","_law_xs","_law_node","_law_row","_law_there","_law_at"] cu (Zj YD):=bI
def VM:54:=["_law_net_here","_law_marks","_law_begins","_law_way","_law_ring","_law_row","_law_one","_law_other","_law_k"]
theorem YV:Zz VM cx (Zj Z8):=bI
theorem Yi:Zz ["_law_xs","_law_nodes_here","_law_told","_law_length","_law_ranks","_law_lacks","_law_node","_law_number"] cr (Zj ZO):=bI
theorem Y3:Zz ["_law_net_here","_law_begins","_law_xs","_law_found","_law_k","_law_one","_law_other"] cw (Zj Yt):=bI
def ZcG:54:=["_law_script","_law_xs","_law_nodes_here","_law_net_here","_law_marks","_law_begins","_law_told","_law_length","_law_cell","_law_ranks","_law_lacks","_law_loops_here","_law_full","_law_one","_law_let_by"]
theorem Xg:Zz ZcG cG (Zj XQ):=bI
inductive Cj2(p0 p1:Prop):Prop
 |mk (h0:p0) (h1:p1):Cj2 p0 p1
inductive Cj3(p0 p1 p2:Prop):Prop
 |mk (h0:p0) (h1:p1) (h2:p2):Cj3 p0 p1 p2
inductive Cj4(p0 p1 p2 p3:Prop):Prop
 |mk (h0:p0) (h1:p1) (h2:p2) (h3:p3):Cj4 p0 p1 p2 p3
inductive Cj5(p0 p1 p2 p3 p4:Prop):Prop
 |mk (h0:p0) (h1:p1) (h2:p2) (h3:p3) (h4:p4):Cj5 p0 p1 p2 p3 p4
inductive Cj6(p0 p1 p2 p3 p4 p5:Prop):Prop
 |mk (h0:p0) (h1:p1) (h2:p2) (h3:p3) (h4:p4) (h5:p5):Cj6 p0 p1 p2 p3 p4 p5
inductive Cj7(p0 p1 p2 p3 p4 p5 p6:Prop):Prop
 |mk (h0:p0) (h1:p1) (h2:p2) (h3:p3) (h4:p4) (h5:p5) (h6:p6):Cj7 p0 p1 p2 p3 p4 p5 p6
inductive Cj8(p0 p1 p2 p3 p4 p5 p6 p7:Prop):Prop
 |mk (h0:p0) (h1:p1) (h2:p2) (h3:p3) (h4:p4) (h5:p5) (h6:p6) (h7:p7):Cj8 p0 p1 p2 p3 p4 p5 p6 p7
inductive Cj9(p0 p1 p2 p3 p4 p5 p6 p7 p8:Prop):Prop
 |mk (h0:p0) (h1:p1) (h2:p2) (h3:p3) (h4:p4) (h5:p5) (h6:p6) (h7:p7) (h8:p8):Cj9 p0 p1 p2 p3 p4 p5 p6 p7 p8
inductive Zb9(p0 p1 p2 p3 p4 p5 p6 p7 p8 p9:Prop):Prop
 |mk (h0:p0) (h1:p1) (h2:p2) (h3:p3) (h4:p4) (h5:p5) (h6:p6) (h7:p7) (h8:p8) (h9:p9):Zb9 p0 p1 p2 p3 p4 p5 p6 p7 p8 p9
inductive Qn(p0 p1 p2 p3 p4 p5 p6 p7 p8 p9 p10:Prop):Prop
 |mk (h0:p0) (h1:p1) (h2:p2) (h3:p3) (h4:p4) (h5:p5) (h6:p6) (h7:p7) (h8:p8) (h9:p9) (h10:p10):Qn p0 p1 p2 p3 p4 p5 p6 p7 p8 p9 p10
inductive Zef(p0 p1 p2 p3 p4 p5 p6 p7 p8 p9 p10 p11 p12:Prop):Prop
 |mk (h0:p0) (h1:p1) (h2:p2) (h3:p3) (h4:p4) (h5:p5) (h6:p6) (h7:p7) (h8:p8) (h9:p9) (h10:p10) (h11:p11) (h12:p12):Zef p0 p1 p2 p3 p4 p5 p6 p7 p8 p9 p10 p11 p12
inductive Zei(p0 p1 p2 p3 p4 p5 p6 p7 p8 p9 p10 p11 p12 p13 p14:Prop):Prop
 |mk (h0:p0) (h1:p1) (h2:p2) (h3:p3) (h4:p4) (h5:p5) (h6:p6) (h7:p7) (h8:p8) (h9:p9) (h10:p10) (h11:p11) (h12:p12) (h13:p13) (h14:p14):Zei p0 p1 p2 p3 p4 p5 p6 p7 p8 p9 p10 p11 p12 p13 p14
inductive Ex1{u0:Type}(P:u0->Prop):Prop
 |mk (x0:u0) (h:P x0):Ex1 P
inductive Ex2{u0 u1:Type}(P:u0->u1->Prop):Prop
 |mk (x0:u0) (x1:u1) (h:P x0 x1):Ex2 P
inductive Ex3{u0 u1 u2:Type}(P:u0->u1->u2->Prop):Prop
 |mk (x0:u0) (x1:u1) (x2:u2) (h:P x0 x1 x2):Ex3 P
inductive Ex4{u0 u1 u2 u3:Type}(P:u0->u1->u2->u3->Prop):Prop
 |mk (x0:u0) (x1:u1) (x2:u2) (x3:u3) (h:P x0 x1 x2 x3):Ex4 P
inductive Ex5{u0 u1 u2 u3 u4:Type}(P:u0->u1->u2->u3->u4->Prop):Prop
 |mk (x0:u0) (x1:u1) (x2:u2) (x3:u3) (x4:u4) (h:P x0 x1 x2 x3 x4):Ex5 P
inductive Ex6{u0 u1 u2 u3 u4 u5:Type}(P:u0->u1->u2->u3->u4->u5->Prop):Prop
 |mk (x0:u0) (x1:u1) (x2:u2) (x3:u3) (x4:u4) (x5:u5) (h:P x0 x1 x2 x3 x4 x5):Ex6 P
inductive Ex7{u0 u1 u2 u3 u4 u5 u6:Type}(P:u0->u1->u2->u3->u4->u5->u6->Prop):Prop
 |mk (x0:u0) (x1:u1) (x2:u2) (x3:u3) (x4:u4) (x5:u5) (x6:u6) (h:P x0 x1 x2 x3 x4 x5 x6):Ex7 P
inductive Ex8{u0 u1 u2 u3 u4 u5 u6 u7:Type}(P:u0->u1->u2->u3->u4->u5->u6->u7->Prop):Prop
 |mk (x0:u0) (x1:u1) (x2:u2) (x3:u3) (x4:u4) (x5:u5) (x6:u6) (x7:u7) (h:P x0 x1 x2 x3 x4 x5 x6 x7):Ex8 P
inductive Ex9{u0 u1 u2 u3 u4 u5 u6 u7 u8:Type}(P:u0->u1->u2->u3->u4->u5->u6->u7->u8->Prop):Prop
 |mk (x0:u0) (x1:u1) (x2:u2) (x3:u3) (x4:u4) (x5:u5) (x6:u6) (x7:u7) (x8:u8) (h:P x0 x1 x2 x3 x4 x5 x6 x7 x8):Ex9 P
inductive jN{u0 u1 u2 u3 u4 u5 u6 u7 u8 u9:Type}(P:u0->u1->u2->u3->u4->u5->u6->u7->u8->u9->Prop):Prop
 |mk (x0:u0) (x1:u1) (x2:u2) (x3:u3) (x4:u4) (x5:u5) (x6:u6) (x7:u7) (x8:u8) (x9:u9) (h:P x0 x1 x2 x3 x4 x5 x6 x7 x8 x9):jN P
inductive ZaM{u0 u1 u2 u3 u4 u5 u6 u7 u8 u9 u10:Type}(P:u0->u1->u2->u3->u4->u5->u6->u7->u8->u9->u10->Prop):Prop
 |mk (x0:u0) (x1:u1) (x2:u2) (x3:u3) (x4:u4) (x5:u5) (x6:u6) (x7:u7) (x8:u8) (x9:u9) (x10:u10) (h:P x0 x1 x2 x3 x4 x5 x6 x7 x8 x9 x10):ZaM P
inductive ZbW{u0 u1 u2 u3 u4 u5 u6 u7 u8 u9 u10 u11:Type}(P:u0->u1->u2->u3->u4->u5->u6->u7->u8->u9->u10->u11->Prop):Prop
 |mk (x0:u0) (x1:u1) (x2:u2) (x3:u3) (x4:u4) (x5:u5) (x6:u6) (x7:u7) (x8:u8) (x9:u9) (x10:u10) (x11:u11) (h:P x0 x1 x2 x3 x4 x5 x6 x7 x8 x9 x10 x11):ZbW P
inductive Zd5{u0 u1 u2 u3 u4 u5 u6 u7 u8 u9 u10 u11 u12:Type}(P:u0->u1->u2->u3->u4->u5->u6->u7->u8->u9->u10->u11->u12->Prop):Prop
 |mk (x0:u0) (x1:u1) (x2:u2) (x3:u3) (x4:u4) (x5:u5) (x6:u6) (x7:u7) (x8:u8) (x9:u9) (x10:u10) (x11:u11) (x12:u12) (h:P x0 x1 x2 x3 x4 x5 x6 x7 x8 x9 x10 x11 x12):Zd5 P
inductive ZeE{u0 u1 u2 u3 u4 u5 u6 u7 u8 u9 u10 u11 u12 u13:Type}(P:u0->u1->u2->u3->u4->u5->u6->u7->u8->u9->u10->u11->u12->u13->Prop):Prop
 |mk (x0:u0) (x1:u1) (x2:u2) (x3:u3) (x4:u4) (x5:u5) (x6:u6) (x7:u7) (x8:u8) (x9:u9) (x10:u10) (x11:u11) (x12:u12) (x13:u13) (h:P x0 x1 x2 x3 x4 x5 x6 x7 x8 x9 x10 x11 x12 x13):ZeE P
inductive Zd1{u0 u1 u2 u3 u4 u5 u6 u7 u8 u9 u10 u11 u12 u13 u14 u15:Type}(P:u0->u1->u2->u3->u4->u5->u6->u7->u8->u9->u10->u11->u12->u13->u14->u15->Prop):Prop
 |mk (x0:u0) (x1:u1) (x2:u2) (x3:u3) (x4:u4) (x5:u5) (x6:u6) (x7:u7) (x8:u8) (x9:u9) (x10:u10) (x11:u11) (x12:u12) (x13:u13) (x14:u14) (x15:u15) (h:P x0 x1 x2 x3 x4 x5 x6 x7 x8 x9 x10 x11 x12 x13 x14 x15):Zd1 P
inductive Zep{u0 u1 u2 u3 u4 u5 u6 u7 u8 u9 u10 u11 u12 u13 u14 u15 u16:Type}(P:u0->u1->u2->u3->u4->u5->u6->u7->u8->u9->u10->u11->u12->u13->u14->u15->u16->Prop):Prop
 |mk (x0:u0) (x1:u1) (x2:u2) (x3:u3) (x4:u4) (x5:u5) (x6:u6) (x7:u7) (x8:u8) (x9:u9) (x10:u10) (x11:u11) (x12:u12) (x13:u13) (x14:u14) (x15:u15) (x16:u16) (h:P x0 x1 x2 x3 x4 x5 x6 x7 x8 x9 x10 x11 x12 x13 x14 x15 x16):Zep P
inductive ZdN{u0 u1 u2 u3 u4 u5 u6 u7 u8 u9 u10 u11 u12 u13 u14 u15 u16 u17 u18 u19:Type}(P:u0->u1->u2->u3->u4->u5->u6->u7->u8->u9->u10->u11->u12->u13->u14->u15->u16->u17->u18->u19->Prop):Prop
 |mk (x0:u0) (x1:u1) (x2:u2) (x3:u3) (x4:u4) (x5:u5) (x6:u6) (x7:u7) (x8:u8) (x9:u9) (x10:u10) (x11:u11) (x12:u12) (x13:u13) (x14:u14) (x15:u15) (x16:u16) (x17:u17) (x18:u18) (x19:u19) (h:P x0 x1 x2 x3 x4 x5 x6 x7 x8 x9 x10 x11 x12 x13 x14 x15 x16 x17 x18 x19):ZdN P
inductive Zdr{u0 u1 u2 u3 u4 u5 u6 u7 u8 u9 u10 u11 u12 u13 u14 u15 u16 u17 u18 u19 u20 u21:Type}(P:u0->u1->u2->u3->u4->u5->u6->u7->u8->u9->u10->u11->u12->u13->u14->u15->u16->u17->u18->u19->u20->u21->Prop):Prop
 |mk (x0:u0) (x1:u1) (x2:u2) (x3:u3) (x4:u4) (x5:u5) (x6:u6) (x7:u7) (x8:u8) (x9:u9) (x10:u10) (x11:u11) (x12:u12) (x13:u13) (x14:u14) (x15:u15) (x16:u16) (x17:u17) (x18:u18) (x19:u19) (x20:u20) (x21:u21) (h:P x0 x1 x2 x3 x4 x5 x6 x7 x8 x9 x10 x11 x12 x13 x14 x15 x16 x17 x18 x19 x20 x21):Zdr P
structure Fg(K:W.Frag)(mg:Str->67)(x:Str)(st:Stmt)(ps:54)(fa:Addr)(fd:FuncData):Prop where
 f:Fun K x x st fa fd
 n:Uc K fd ps []
 g:mg x=some (.ref fa)
structure Mg(K:W.Frag)(C:Addr)(x q:Str)(st:Stmt)(ps:54)(fa:Addr)(fd:FuncData):Prop where
 f:Fun K x q st fa fd
 n:Uc K fd ps []
 m:ZbN K C x fa
theorem okF{x:Str}{st:Stmt}{f:Addr}{N:54}{k:Nat}(F:Fun K x qual st f fd)(S:Zz N ps (Zj st))
  (pH:∀(bK:Value) (A:Around) (outer:List Env) (s:Shared) (H:Hp) (vs:List V) (Q:VK) (E:XK),Zq k (A.deeper (PyProof.Rows.envOfC qual (Zj st) s.heap.objs.size f bK))->sp vs H Q E -> ∃t,PSs (j3 CX0 P w K mg base N qual (Zj st) f bK A outer s H E).nox (Xq st) t/\t { nx:=fun _ H'=>Q .non H',rt:=Q } (start N vs) H)
  (len:∀vs H Q E,sp vs H Q E->vs.length=ps.length):V7 P w K mg base CX0 (k+1) f fd ps sp:=F.ok S len pH
theorem rmL{k:Nat}(r:Zq k A)(h:Nat.ble j k=true):Zq j A:=r.mono (Nat.le_of_ble_eq_true h)
theorem ZV{k:Nat}{f:Addr}{x:Str}{st:Stmt}{p:Pos}{es:List Expr}{t:TA}(g:Fg X.K X.mg x st ps f fd)(F:V7 X.prog X.w X.K X.mg X.base CX0 j f fd ps sp)(hr:Zq k X.A)(le:Nat.ble j k=true)(hg:Gl X x)(ha:PA X (e::es) t)(pI:109=false:=by left)(he:starEach (e::es) X.env=111::starEach es X.env:=by rfl)(pU:(backTo oj (starEach es X.env)).any (·.1)=false:=by rfl):PE X (.Call (.Name x p) (e::es) [] oj) (xU sp [] E0 t):=zI F (rmL hr le) hg g.g g.f.kp g.n .nil Vn ha pI he pU
def blk:List Stmt->Nat->List Stmt
 |.For _ _ b _ _::_,0=>b
 |.For _ _ _ e _::_,_=>e
 |.While _ b _ _::_,0=>b
 |.While _ _ e _::_,_=>e
 |.If _ b _ _::_,0=>b
 |.If _ _ e _::_,_=>e
 |_,_=>[]
def pkL(ss:List Stmt):List Nat->List Stmt
 |[]=>ss
 |[n]=>ss.drop n
 |n::b::p=>pkL (blk (ss.drop n) b) p
abbrev Rdg(X:Cx)(s:Stmt)(p:List Nat):Type:={t:L2.TS // PSs X (pkL (Xq s) p) t}
theorem okX{x:Str}{st:Stmt}{f:Addr}{N:54}{k:Nat}(F:Fun K x qual st f fd)(S:Zz N ps (Zj st))
  (pH:∀(bK:Value) (A:Around) (outer:List Env) (s:Shared) (H:Hp) (E:XK),Zq k (A.deeper (PyProof.Rows.envOfC qual (Zj st) s.heap.objs.size f bK))->let X:=(j3 CX0 P w K mg base N qual (Zj st) f bK A outer s H E).nox
   ∀(vs:List V) (Q:VK),sp vs H Q E->∃t,PSs X (Xq st) t/\t { nx:=fun _ H'=>Q .non H',rt:=Q } (start N vs) H)
  (len:∀vs H Q E,sp vs H Q E->vs.length=ps.length:=by intro _ _ _ _ h;cases h;rename_i h;cases h;subst_vars;rfl):V7 P w K mg base CX0 (k+1) f fd ps sp:=F.ok S len fun bK A outer s H vs Q E hr h=>pH bK A outer s H E hr vs Q h
set_option genInjectivity false
structure Adr where
 (y0 y1 y2 y3 y4 y5 y6 y7 y8 y9 y10 y11 y12 y13 y14 y15 y16 y17 y18 y19 y20 y21 y22 y23 y24 y25 y26 y27 y28 y29 y30 y31 y32:Addr)
 (z0 z1 z2 z3 z4 z5 z6 z7 z8 z9 z10 z11 z12 z13 z14 z15 z16 z17 z18 z19 z20 z21 z22 z23 z24 z25 z26 z27 z28 z29 z30 z31 z32:FuncData)
 (C_Knots:Addr)
 (Pm:Params)
structure Txt(K:W.Frag)(mg:Str->67)(a:Adr):Prop where
 aI:Fg K mg "is_whole" UG ["thing"] a.y0 a.z0
 ak:Fg K mg "is_same" V3 bS a.y1 a.z1
 aD:Fg K mg "is_full_loop" Yh cB a.y2 a.z2
 aJ:Fg K mg "nodes_along" Z5 cA a.y3 a.z3
 aZ:Fg K mg "is_full" W4 bY a.y4 a.z4
 bm:Fg K mg "closes" WB cE a.y5 a.z5
 aT:Fg K mg "are_ranks" YC cm a.y6 a.z6
 aU:Fg K mg "are_lacks" X8 cq a.y7 a.z7
 aV:Fg K mg "is_closed" Xi cD a.y8 a.z8
 aN:Fg K mg "lacks_mark" Va cC a.y9 a.z9
 aB:Fg K mg "loop_or_ranks" Yp cF a.y10 a.z10
 a9:Fg K mg "reached" Ya bM a.y11 a.z11
 bo:Fg K mg "turned" WV bW a.y12 a.z12
 ba:Fg K mg "knots_of" Z1 bM a.y13 a.z13
 aO:Fg K mg "path_to" Ym cg a.y14 a.z14
 bp:Fg K mg "traced" VP bX a.y15 a.z15
 aP:Mg K a.C_Knots "__init__" "Knots.__init__" Ys bZ a.y16 a.z16
 ag:Mg K a.C_Knots "is_linked" "Knots.is_linked" Xa bL a.y17 a.z17
 au:Mg K a.C_Knots "is_ring" "Knots.is_ring" We bL a.y18 a.z18
 av:Mg K a.C_Knots "lack_of" "Knots.lack_of" Yr bL a.y19 a.z19
 al:Mg K a.C_Knots "loop_from" "Knots.loop_from" YE bN a.y20 a.z20
 ao:Mg K a.C_Knots "ring_from" "Knots.ring_from" Zr ck a.y21 a.z21
 aj:Mg K a.C_Knots "ranks_from" "Knots.ranks_from" Ye bN a.y22 a.z22
 az:Fg K mg "_law_cell_at" WC b8 a.y23 a.z23
 aC:Fg K mg "_law_draws" Z7 b9 a.y24 a.z24
 aa:Fg K mg "_law_taken" Vk cb a.y25 a.z25
 aQ:Fg K mg "_law_nodes" YT ["_law_cell"] a.y26 a.z26
 be:Fg K mg "_law_net" Z9 cy a.y27 a.z27
 aL:Fg K mg "_law_walk" YD cu a.y28 a.z28
 aE:Fg K mg "_law_is_full" Z8 cx a.y29 a.z29
 aM:Fg K mg "_law_forged" ZO cr a.y30 a.z30
 aR:Fg K mg "_law_loops" Yt cw a.y31 a.z31
 bE:Fg K mg "law" XQ cG a.y32 a.z32
 ae:mg "isinstance" = none
 bq:mg "tuple" = none
 aG:mg "range" = none
 bt:mg "all" = none
 bh:mg "reversed" = none
 bf:mg "sorted" = none
 bC:mg "zip" = none
 aA:mg "len" = none
 bG:mg "int" = none
 br:mg "dict" = none
 bz:mg "set" = none
 bA:mg "any" = none
 bw:mg "bool" = none
 bj:mg "list" = none
 aW:mg "enumerate" = none
 bH:mg "str" = none
 bD:mg "max" = none
 ab:Cls K a.C_Knots
 bB:mg "Knots" = some (.ref a.C_Knots)
 bx:Mk K a.C_Knots a.y16
 aq:Wx K a.C_Knots "net"
 ah:Wx K a.C_Knots "marks"
 af:Wx K a.C_Knots "knots"
 ai:Wx K a.C_Knots "ranks"
 aH:Wx K a.C_Knots "goals"
abbrev Okd(P:Program)(w:World)(K:W.Frag)(mg:Str->67)(base:Heap)(a:Adr)(k:Nat)(f:Addr)(fd:FuncData)(ps:54)(sp:W.Frag->Adr->Sp):Prop:=∀(_:Txt K mg a) (_:w.params=a.Pm),V7 P w K mg base CX0 k f fd ps (sp K a)
structure BkS(κ:Nat)(Pm:Params)(H:Hp)(B:Addr)(es:NE)(ep:Nat)(nds:37)(bk:ND->37)(H':Hp):Prop where
 same:77
 at_:H' B=some (DeO Pm B es ep)
 keys:∀e∈es,Nd κ H' e.2.1 e.1
 dom:es.map (·.1)=nds
 val:∀d∈nds,∃l vs,ZU es d=some (.ref l)/\H l=none/\l≠B/\H' l=123/\NdL κ H' vs (bk d)
 inj:∀d d' l,ZU es d=some (.ref l)->ZU es d'=some (.ref l)->d=d'
theorem zo(h:ZU es d=some v):d∈es.map (·.1):=by
 obtain⟨e,he,rfl,_⟩:=VB h;exact gI he
theorem J7(h:d∉es.map (·.1)):ZU es d=none:=by
 cases e:ZU es d with
 |none=>rfl
 |some v=>exact oh (zo e) h
theorem BkS.new{B:Addr}(h:BkS κ Pm H B es ep nds (fun _=>[]) H'){y:V}(hB:H B=none)(hl:H' l=none)(e1:H1=upd (upd H' l (.lst [])) B (DeO Pm B (ZI es d y (.ref l)) ep'))(nd:d∉nds)(hy:Nd κ H' y d):BkS κ Pm H B (ZI es d y (.ref l)) ep' (nds++[d]) (fun _=>[]) H1:=by
 have lB:l≠B:=fun z=>by rw[z,h.at_] at hl;cases hl
 have Cj:H l=none:=by
  cases e:H l with
  |none=>rfl
  |some o=>rw[h.same _ _ e] at hl;cases hl
 have u1:Zd H' (upd H' l (.lst [])):=Zh hl;have eB:(upd H' l (.lst [])) B=some (DeO Pm B es ep):=u1 _ _ h.at_;have u2:=YN (o:=DeO Pm B (ZI es d y (.ref l)) ep') eB (fun _ z=>by cases z);have u:ZT H' H1:=by rw[e1];exact fun a xs e=>u2 _ _ (u1 _ _ e)
 have OS:d∉es.map (·.1):=by rw[h.dom];exact nd
 refine⟨?_,by rw[e1];exact Zc,fun e he=>?_,by rw[Ws,n8 OS,h.dom],fun x hx=>?_,fun x x' m q q'=>?_⟩
 ·rw[e1];exact Zd.upN (h.same.trans u1) hB
 ·rcases Xw he with q|rfl|⟨z,hz,e1,rfl⟩
  ·exact(h.keys e q).mono u
  ·exact hy.mono u
  ·exact(h.keys z hz).mono u
 ·rw[XM]
  by_cases c:x=d
  ·rw[og c];refine⟨l,[],rfl,Cj,lB,?_,.nil⟩;rw[e1,upd_ne lB,Zc]
  ·rw[n8 c];have CG:x∈nds:=by
    rcases db.mp hx with q|q
    ·exact q
    ·exact oh (df.mp q) c
   obtain⟨m,vs,a1,a2,a3,a4,a5⟩:=h.val x CG;exact⟨m,vs,a1,a2,a3,by rw[e1,upd_ne a3];exact u1 _ _ a4,a5.mono u⟩
 ·rw[XM] at q q';have sK:∀z m,ZU es z=some (.ref m)->m≠l:=fun z m e c=>by
   have hz:z∈nds:=by rw[<- h.dom];exact zo e
   obtain⟨m',vs,a1,_,_,a4,_⟩:=h.val z hz;rw[e] at a1;cases a1;rw[c,hl] at a4;cases a4
  by_cases c:x=d
  ·by_cases c':x'=d
   ·rw[c,c']
   ·rw[og c] at q;rw[n8 c'] at q';cases q;exact oh rfl (sK _ _ q')
  ·by_cases c':x'=d
   ·rw[n8 c] at q;rw[og c'] at q';cases q';exact oh rfl (sK _ _ q)
   ·rw[n8 c] at q;rw[n8 c'] at q';exact h.inj x x' m q q'
theorem BkS.add{B:Addr}{bk N3:ND->37}(h:BkS κ Pm H B es ep nds bk H'){u:ND}{y:V}{vs:List V}(el:ZU es d=some (.ref l))(hl:H' l=123)(hd:d∈nds)(hy:Nd κ H' y u)(e1:H1=upd H' l (.lst (vs++[y])))(eb:∀x,N3 x=if x=d then bk x++[u] else bk x):BkS κ Pm H B es ep nds N3 H1:=by
 obtain⟨l',vs',a1,a2,a3,a4,a5⟩:=h.val d hd;rw[el] at a1;cases a1;rw[hl] at a4;cases a4;have uu:=YN (o:=.lst (vs++[y])) hl (fun _ z=>by cases z);rw[<- e1] at uu;refine⟨by rw[e1];exact Zd.upN h.same a2,by rw[e1,upd_ne a3.symm];exact h.at_,fun e he=>(h.keys e he).mono uu,h.dom,fun x hx=>?_,h.inj⟩;rw[eb]
 by_cases c:x=d
 ·rw[og c,c];exact⟨l,vs++[y],el,a2,a3,by rw[e1,Zc],(a5.mono uu).app (.cons (hy.mono uu) .nil)⟩
 ·rw[n8 c];obtain⟨m,ws,b1,b2,b3,b4,b5⟩:=h.val x hx;have ml:m≠l:=fun z=>c (h.inj x d l (by rw[b1,z]) el);exact⟨m,ws,b1,b2,b3,by rw[e1,upd_ne ml];exact b4,b5.mono uu⟩
def W7(N:ND->37)(F:37)(u:ND)(j:Nat)(x:ND):37:=Yv N F x++(((N u).take j).filter fun y=>decide (y=x)).map fun _=>u
theorem ZbE{F:37}{u x:ND}:W7 N F u 0 x=Yv N F x:=by unfold W7;simp
theorem Ql{F:37}{u x:ND}:W7 N F u (N u).length x=Yv N (F++[u]) x:=by
 unfold W7 Yv;rw[fg,List.flatMap_append];simp
theorem Zbh{F:37}{u f x:ND}(e:(N u)[j]?=some f):W7 N F u (j+1) x=if x=f then W7 N F u j x++[u] else W7 N F u j x:=by
 unfold W7;rw[fz,e,iK,eO]
 by_cases c:x=f
 ·rw[og c];simp[c]
 ·have:¬f=x:=fun z=>c z.symm;rw[n8 c];simp[this]
theorem KN{F:37}{u x:ND}(h:∀d,(N d).length<=12):(W7 N F u j x).length<=12*F.length+12:=by
 unfold W7;rw[cZ,cS];have h1:(Yv N F x).length<=12*F.length:=by
  unfold Yv
  induction F with
  |nil=>simp
  |cons d r ih=>
   rw[List.flatMap_cons,cZ,cS,fc];have:=hV (fun y=>decide (y=x)) (N d);have:=h d;lia
 have:=hV (fun y=>decide (y=x)) ((N u).take j);rw[dB] at this;have:=h u;lia
def Qb(K:W.Frag)(a:Adr):Sp:=fun vs H Q _=>Ex9 fun(κ:Nat) (net b:Addr) (es:NE) (ep:Nat) (N:ND->37) (nd:37) (bv:List V) (bs:37)=>Cj8 (vs=[.ref net,.ref b]) 115 112 (NdL κ H bv bs) ((∀d∈bs,d∈nd)) bs.Nodup ((∀d∈bs,∀x∈N d,x∈bs)) (∀H' B es' ep',H B=none->BkS κ a.Pm H B es' ep' bs (Yv N bs) H'->Q (.ref B) H')
theorem QF{a:Adr}:58 1 a.y12 a.z12 bW Qb:=fun T hw=>by
 refine okX T.bo.f V2 51;intro X
 let d1:Rdg X WV [1,0,0]:=⟨_,(Zg (YS eJ rfl (ZF (K:=K) rfl (ZB hw 78 (pv 0) (pv 3) (fun _ _=>rfl))) (Zk (i:=4) V2.nd rfl 34) (Zg (@Y8 _ _ _ _ (Wk fJ gk gm Yg (ZB hw 78 (pv 2) (pv 4) (fun _ _=>rfl)) (@Za _ _ _ _ _ (pv 3) Ze rfl)) rfl))))⟩
 let d2:Rdg X WV [1]:=⟨_,(Zb (YS eJ rfl (ZF (K:=K) rfl (pv 1)) (Zk (i:=3) V2.nd rfl 34) d1.2) (Zg (Zs (pv 2))))⟩
 intro vs Q h;obtain⟨κ,net,b,es,ep,N,nd,bv,bs,rfl,hN,hb,nb,bn,bu,bc,k⟩:=h;refine⟨_,(Zb (X6 (i:=2) V2.nd rfl rfl (Nc:=["node"]) (ix:=[none]) (ZD.of (by left:ZW (Zj WV) j7 _ _ _=true)) hw 78 rfl (ZF (K:=K) rfl (pv 1)) (fun _ _ _ _ _=>(Zk (i:=0) (show δ (["node"]:54) by left) rfl 34)) (fun _ _ _ _ _=>Z3) (fun _ _ _ _ _=>(pv 0)) (fun _ _ _ _ _=>(Yq Ze))) d2.2),?_⟩;have rJ:=hN.len;have FH:=ZN bu bn;have wK:=nb.len;refine⟨_,rfl,b,rfl,⟨_,nH hb⟩,fun B hB=>?_⟩;refine YU (J:=Itl K b) (n:=bv.length) (fun i U H'=>Ex3 fun(z:69) (es':NE) (ep':Nat)=>Cj2 (U=[z]) (BkS κ a.Pm H B es' ep' (bs.take i) (fun _=>[]) H')) ?_ ?_ ?_ ?_ ?_
 ·exact⟨_,[],0,rfl,Zh hB,Zc,fun _ h=>(by cases h),by simp,fun _ h=>(by simp at h),fun _ _ _ h=>(by cases h)⟩
 ·rintro i U H' hi ⟨z,es',ep',rfl,bk⟩;exact⟨bv,bv[i],nH (bk.same _ _ hb),cR hi⟩
 ·rintro U H' ⟨z,es',ep',rfl,bk⟩;exact⟨bv,nH (bk.same _ _ hb),cP _⟩
 ·rintro i x U H1 H2 hi ⟨z,es',ep',rfl,bk⟩ ⟨rfl,hx⟩ NN rj;have hx:=hx _ (nH (bk.same _ _ hb));obtain⟨d,ed,nx⟩:=(nb.mono (nJ bk.same)).get hx;have dm:=cY ed;have oW:bs.take (i+1)=bs.take i++[d]:=by rw[fz,ed];rfl
  have dn:d∉bs.take i:=fun q=>by
   have Lu:=bu;have ib:i<bs.length:=(dk.mp ed).1;have e2:bs=bs.take i++bs.drop i:=(iw i bs).symm;rw[e2,fy] at Lu;refine Lu.2.2 d q d ?_ rfl;rw[i8 ib,(dk.mp ed).2];simp
  have len:es'.length<=12:=by
   have:=dt ζ bk.dom;rw[cS,dB] at this;lia
  refine⟨_,rfl,by left,fun l hl=>?_⟩;have s1:=Zh (o:=.lst []) hl;refine⟨es',ep',κ,d,s1 _ _ bk.at_,fun e he=>(bk.keys e he).mono (nJ s1),nx.mono (nJ s1),by rw[cQ];lia,fun oE=>rj _ _ ?_⟩;rw[oW];exact⟨_,_,oE,rfl,bk.new hB hl rfl dn nx⟩
 ·rintro U H1 ⟨z,om,Fz,rfl,bk⟩;rw[wK,fg] at bk;have Sz:=bk.same _ _ hb;refine⟨_,rfl,b,rfl,⟨_,nH Sz⟩,?_⟩
  let J1:Nat->L2.St->Hp->Prop:=fun i U H'=>Ex2 fun(z3 z4:69)=>Cj2 (U=[72,98,qr0 B,z3,z4]) (BkS κ a.Pm H B om Fz bs (Yv N (bs.take i)) H')
  refine Y0 (K:=K) (xs:=bv) J1 ?_ ?_ ?_ ?_
  ·exact⟨_,_,rfl,bk⟩
  ·rintro i U H2 hi ⟨z3,z4,rfl,b2⟩;exact nH (b2.same _ _ hb)
  ·rintro i x U H2 hx ⟨z3,z4,rfl,b2⟩;obtain⟨u,eu,nx⟩:=(nb.mono (nJ b2.same)).get hx;have um:=cY eu;have oW:bs.take (i+1)=bs.take i++[u]:=by rw[fz,eu];rfl
   have tP:=hN.mono b2.same;obtain⟨l,ws,el,hl,nl⟩:=tP.on (bn u um);have Gy:H l=some (.lst ws):=by
    obtain⟨l',FG,e',h',n'⟩:=hN.on (bn u um);rw[el] at e';cases e';rw[b2.same _ _ h'] at hl;cases hl;exact h'
   have tJ:=nl.len;refine⟨_,rfl,_,rfl,net,es,ep,κ,u,_,rfl,tP.at_,tP.keys,nx,el,l,rfl,⟨_,nH hl⟩,?_⟩;refine Y0 (K:=K) (xs:=ws) (fun j U H'=>Ex1 fun(z4:69)=>Cj3 (U=[72,98,qr0 B,some x,z4]) (ZT H2 H') (BkS κ a.Pm H B om Fz bs (W7 N (bs.take i) u j) H')) ?_ ?_ ?_ ?_
   ·exact⟨_,rfl,fun _ _ e=>e,by rw[show W7 N (bs.take i) u 0=Yv N (bs.take i) from funext fun _=>ZbE];exact b2⟩
   ·rintro j U H3 hj ⟨z4,rfl,_,b3⟩;exact nH (b3.same _ _ Gy)
   ·rintro j y U H3 hy ⟨z4,rfl,u3,b3⟩;obtain⟨f,ef,ny⟩:=(nl.mono u3).get hy;have fm:f∈bs:=bc u um f (cY ef);obtain⟨m,vs,a1,a2,a3,a4,a5⟩:=b3.val f fm;have lvs:=a5.len;have Ep:=KN (N:=N) (F:=bs.take i) (u:=u) (x:=f) (j:=j) hN.few;rw[dB] at Ep;refine⟨_,rfl,_,rfl,B,om,Fz,κ,f,_,rfl,b3.at_,b3.keys,ny,a1,.inl ⟨rfl,_,nH a4⟩,_,rfl,m,_,_,rfl,rfl,a4,by rw[cQ];lia,?_⟩;refine⟨_,rfl,fun c zs e=>?_,b3.add a1 a4 fm (nx.mono u3) rfl fun x=>Zbh ef⟩;rw[upd_ne (fun z:c=m=>by have:=u3 _ _ e;rw[z,a4] at this;cases this)];exact u3 _ _ e
   ·rintro U H3 ⟨z4,rfl,u3,b3⟩;refine⟨_,_,rfl,?_⟩;rw[oW];rw[tJ] at b3;rw[show Yv N (bs.take i++[u])=W7 N (bs.take i) u (N u).length from funext fun _=>Ql.symm];exact b3
  ·rintro U H2 ⟨z3,z4,rfl,b2⟩;rw[wK,fg] at b2;exact⟨_,rfl,k _ B om Fz hB b2⟩
def RS(κ:Nat)(Pm:Params)(H:Hp)(Fd St:Addr)(nd:37)(s:DS)(H':Hp):Prop:=
 Zd H H'/\(∃fv,H' Fd=some (.lst fv)/\NdL κ H' fv s.F)/\∃es ep,H' St=some (DeO Pm St es ep)/\DE κ H' es nd fun d=>(s.c d).map fun(k:Nat)=>V.int (k:Int)
theorem WX{vs:List V}(h:NdL κ H vs (ds++[d])):∃vi v,vs=vi++[v]/\NdL κ H vi ds/\Nd κ H v d:=by
 have l:=h.len;rw[cZ,fB] at l;have ne:vs≠[]:=fun e=>by rw[e] at l;simp at l
 have ev:vs=vs.dropLast++[vs.getLast ne]:=(π ne).symm;have t:=h.take ds.length;have dl:vs.dropLast=vs.take ds.length:=by rw[List.dropLast_eq_take,l];rfl
 rw[List.take_left,<- dl] at t;refine⟨vs.dropLast,vs.getLast ne,ev,t,?_⟩;obtain⟨v,e,n⟩:=h.get' (i:=ds.length) (d:=d) 39;have:v=vs.getLast ne:=by
  rw[ev,lC (by rw[mW];lia),mW,show ds.length-(vs.length-1)=0 by lia] at e;simpa using e.symm
 rw[<- this];exact n
def Jn(K:W.Frag)(a:Adr):Sp:=fun vs H Q _=>Ex9 fun(κ:Nat) (net b:Addr) (es:NE) (ep:Nat) (N:ND->37) (nd:37) (bv:List V) (bs:37)=>Cj7 (vs=[.ref net,.ref b]) 115 112 (NdL κ H bv bs) ((∀d∈bs,d∈nd)) (bs.length<=1000) (∀H' r rv,77->H r=none->H' r=some (.lst rv)->NdL κ H' rv (ZR N bs)->Q (.ref r) H')
theorem zV{a:Adr}:58 1 a.y11 a.z11 bM Jn:=fun T hw=>by
 refine okX T.a9.f Xm 51;intro X
 let d1:Rdg X Ya [2,0,0,0,2,0,2,0,0]:=⟨_,(Zg (@Y8 _ _ _ _ (Wk fJ gk gm Yg (pv 2) (@Za _ _ _ _ _ (ZdE fJ PySem.F.slot_list_pop PySem.F.type_list_pop Zdy (pv 5)) Ze rfl)) rfl))⟩
 let d2:Rdg X Ya [2,0,0,0,2,0,2,1,2]:=⟨_,(Zg (ZZ (WT (Xs hw 78 (pv 8) (pv 3))) (Zb (XC hw 78 (pv 3) (pv 8) Zi rfl) (Zg (@Y8 _ _ _ _ (Wk fJ gk gm Yg (pv 5) (@Za _ _ _ _ _ (pv 8) Ze rfl)) rfl))) Zt))⟩
 let d3:Rdg X Ya [2,0,0,0,2,0,2,1,1]:=⟨_,(Zb (@Zo _ _ (8) _ _ _ _ Xm.nd rfl 34 (ZJ 56 (ZB hw 78 (pv 0) (pv 6) (fun _ _=>rfl)) (pv 7) (fun _ _=>rfl)) rfl (.inl rfl)) d2.2)⟩
 let d4:Rdg X Ya [2,0,0,0,2,0,2,1,0]:=⟨_,(Zb (XC hw 78 (pv 3) (pv 6) (Yd yW (pv 7) Zi) rfl) d3.2)⟩
 let d5:Rdg X Ya [2,0,0,0,2,0,2]:=⟨_,(Zg (ZZ (Zy W6 (pv 7) (Zl 91 rfl T.aA nN (@Za _ _ _ _ _ (ZB hw 78 (pv 0) (pv 6) (fun _ _=>rfl)) Ze rfl)) (ZK _)) d1.2 d4.2))⟩
 let d6:Rdg X Ya [2,0,0,0,2,0,1]:=⟨_,(Zb (@Zo _ _ (7) _ _ _ _ Xm.nd rfl 34 (ZB hw 78 (pv 3) (pv 6) (fun _ _=>rfl)) rfl (.inl rfl)) d5.2)⟩
 let d7:Rdg X Ya [2,0,0,0,2,0,0]:=⟨_,(Zb (@Zo _ _ (6) _ _ _ _ Xm.nd rfl 34 (ZJ 56 (pv 5) (XT Y5 Zi) (fun _ _=>rfl)) rfl (.inl rfl)) d6.2)⟩
 let d8:Rdg X Ya [2,0,0,0,2]:=⟨_,(Zg (X7 eJ (VW (K:=K) rfl (pv 5) (fun _=>rfl)) d7.2))⟩
 let d9:Rdg X Ya [2,0,0,0,1]:=⟨_,(Zb (@Zo _ _ (5) _ _ _ _ Xm.nd rfl 34 (Yq (@Za _ _ _ _ _ (pv 4) Ze rfl)) rfl (.inl rfl)) d8.2)⟩
 let se:Rdg X Ya [2,0,0,0,0]:=⟨_,(Zb (XC hw 78 (pv 3) (pv 4) Zi rfl) d9.2)⟩
 let tZ:Rdg X Ya [2,0,0]:=⟨_,(Zg (ZZ (WT (Xs hw 78 (pv 4) (pv 3))) se.2 Zt))⟩
 let AX:Rdg X Ya [2]:=⟨_,(Zb (YS eJ rfl (ZF (K:=K) rfl (pv 1)) (Zk (i:=4) Xm.nd rfl 34) tZ.2) (Zg (Zs (pv 2))))⟩
 let Cs:Rdg X Ya [1]:=⟨_,(Zb (@Zo _ _ (3) _ _ _ _ Xm.nd rfl 34 (WQ hw) rfl (.inl rfl)) AX.2)⟩
 intro vs Q h;obtain⟨κ,net,b,es,ep,N,nd,bv,bs,rfl,hN,hb,nb,bn,lb,k⟩:=h;refine⟨_,(Zb (@Zo _ _ (2) _ _ _ _ Xm.nd rfl 34 (Yq Ze) rfl (.inl rfl)) Cs.2),?_⟩;have rJ:=hN.len;refine⟨by left,fun Fd hF=>?_⟩;obtain⟨H1,qN,s1,eF⟩:=Xl (o:=.lst []) hF;rw[qN];intro St hS;have Du:H St=none:=by
  cases e:H St with
  |none=>rfl
  |some o=>rw[s1 _ _ e] at hS;cases hS
 have Fk:Fd≠St:=fun z=>by rw[<- z,eF] at hS;cases hS
 obtain⟨H2,qN,s2,eS⟩:=Xl (o:=65 St [] 0) hS;rw[qN];refine⟨_,rfl,b,rfl,⟨_,nH ((s1.trans s2) _ _ hb)⟩,?_⟩;have wK:=nb.len;refine Y0 (K:=K) (xs:=bv) (fun i U H'=>Ex5 fun(z4 z5 z6 z7 z8:69)=>Cj4 (U=[72,98,qr0 Fd,qr0 St,z4,z5,z6,z7,z8]) (RS κ a.Pm H Fd St nd (XS N (bs.take i) ⟨[],[],fun _=>none⟩) H') (Wc N nd (·∈bs) (XS N (bs.take i) ⟨[],[],fun _=>none⟩)) ((XS N (bs.take i) ⟨[],[],fun _=>none⟩).T=[])) ?_ ?_ ?_ ?_
 ·exact⟨_,_,_,_,_,rfl,⟨s1.trans s2,⟨[],s2 _ _ eF,.nil⟩,[],0,eS,DE.nil⟩,Wc.nil,rfl⟩
 ·rintro i U H' hi ⟨z4,z5,z6,z7,z8,rfl,rs,_⟩;exact nH (rs.1 _ _ hb)
 ·rintro i x U H3 hx ⟨z4,z5,z6,z7,z8,rfl,rs,iv,tn⟩;obtain⟨bd,FC,_⟩:=nb.get hx;have GK:bd∈bs:=cY FC;have hi:i<bs.length:=(dk.mp FC).1;have oW:bs.take (i+1)=bs.take i++[bd]:=by rw[fz,FC];rfl
  have nx:=(nb.mono (nJ rs.1)).get hx;obtain⟨bd',e',nx⟩:=nx;rw[FC] at e';cases e';rw[oW];generalize hs0:XS N (bs.take i) ⟨[],[],fun _=>none⟩=s0 at rs iv tn;obtain⟨s3,⟨fv,FU,nf⟩,sk,AL,FN,de⟩:=rs;refine⟨_,rfl,_,rfl,St,sk,AL,κ,bd,rfl,FN,de.keys,nx,?_⟩;rw[de.val bd];cases ec:s0.c bd with
  |some k0=>
   refine⟨_,rfl,ZH ?_⟩;have:=K7 (N:=N) (l:=bs.take i) (b:=bd) (s:=⟨[],[],fun _=>none⟩) (by rw[hs0];exact tn) (by rw[hs0,ec];rfl);rw[hs0] at this;rw[this];exact⟨_,_,_,_,_,rfl,⟨s3,⟨fv,FU,nf⟩,sk,AL,FN,de⟩,iv,tn⟩
  |none=>
   refine⟨_,rfl,ZS ?_⟩;have dw:=UM (N:=N) (l:=bs.take i) (b:=bd) (s:=⟨[],[],fun _=>none⟩);rw[hs0] at dw;rw[dw];have iv1:=iv.bg tn GK (bn bd GK);have eb:Vr s0 bd=⟨s0.F,[bd],fun y=>if y=bd then some 0 else s0.c y⟩:=by
    unfold Vr;rw[n8 (by rw[ec];simp)]
   refine⟨_,rfl,_,rfl,St,sk,AL,κ,bd,rfl,FN,de.keys,nx,by have:=de.few;rw[cQ];lia,fun t0=>?_⟩;have u4:=YN (o:=65 St (ZI sk bd x (.int 0)) t0) FN (fun _ z=>by cases z);have s4:Zd H (upd H3 St (65 St (ZI sk bd x (.int 0)) t0)):=Zd.upN s3 Du;have EV:(upd H3 St (65 St (ZI sk bd x (.int 0)) t0)) Fd=some (.lst fv):=(upd_ne Fk).trans FU;have ER:(upd H3 St (65 St (ZI sk bd x (.int 0)) t0)) St=some (65 St (ZI sk bd x (.int 0)) t0):=Zc;generalize upd H3 St (65 St (ZI sk bd x (.int 0)) t0)=H4 at u4 s4 EV ER ⊢;have Dx:=nx.mono u4;have Op:=(de.put (v:=.int 0) nx (bn bd GK)).mono u4;refine⟨_,rfl,by show 1<=sizeLine;rw[cQ];decide,fun Tr hT=>?_⟩;have Me:H Tr=none:=by
    cases e:H Tr with
    |none=>rfl
    |some o=>rw[s4 _ _ e] at hT;cases hT
   have HH:Fd≠Tr:=fun z=>by rw[<- z,EV] at hT;cases hT
   have Fo:St≠Tr:=fun z=>by rw[<- z,ER] at hT;cases hT
   obtain⟨H5,qN,s5,eT⟩:=Xl (o:=.lst [x]) hT;rw[qN];refine⟨fun m U H'=>Ex5 fun(s':DS) (z6 z7 z8:69) (tv:List V)=>Cj7 (U=[72,98,qr0 Fd,qr0 St,some x,qr0 Tr,z6,z7,z8]) (RS κ a.Pm H Fd St nd s' H') (H' Tr=some (.lst tv)) (NdL κ H' tv s'.T.reverse) (Wc N nd (·∈bs) s') ((∃j,itF (Yx N) j (Vr s0 bd)=s')) (m=Uh N nd s'),⟨_,Vr s0 bd,_,_,_,[x],rfl,⟨s4.trans s5,⟨fv,s5 _ _ EV,?_⟩,_,t0,s5 _ _ ER,?_⟩,eT,?_,iv1,⟨0,rfl⟩,rfl⟩,?_⟩
   ·rw[eb];exact(nf.mono u4).mono (nJ s5)
   ·rw[eb];refine(Op.mono (nJ s5)).congr fun d=>?_
    show _=((if d=bd then some 0 else s0.c d)).map _
    by_cases q:d=bd
    ·rw[og q,og q];rfl
    ·rw[n8 q,n8 q]
   ·rw[eb];exact .cons (Dx.mono (nJ s5)) .nil
   clear eT s5 ER EV s4 u4 Op Dx hT;rintro m U H6 ⟨s',z6,z7,z8,tv,rfl,⟨s6,⟨AK,FW,E1⟩,sU,pR,uT,wq⟩,BA,L9,Ap,⟨j,ej⟩,rfl⟩;obtain⟨F',T',c'⟩:=s';cases T' with
   |nil=>
    cases L9;refine⟨_,rfl,false,.inl ⟨[],nH BA,rfl⟩,ZH ?_⟩;have:XF (Yx N) WP (Vr s0 bd)=⟨F',[],c'⟩:=Y6.eq WP.fix ⟨rfl,j,ej⟩;rw[this];exact⟨_,_,_,_,_,rfl,⟨s6,⟨AK,FW,E1⟩,sU,pR,uT,wq⟩,Ap,rfl⟩
   |cons t r=>
    have BH:NdL κ H6 tv (r.reverse++[t]):=by
     have:=L9;rw[show(DS.mk F' (t::r) c').T.reverse=r.reverse++[t] by simp] at this;exact this
    obtain⟨ti,tx,rfl,ni,nt⟩:=WX BH;refine⟨_,rfl,true,.inl ⟨_,nH BA,by simp⟩,ZS ?_⟩;have tm:t∈F'++t::r:=by simp
    have BB:t∈nd:=Ap.sub t tm;obtain⟨k0,LZ⟩:=fG.mp ((Ap.dom t).mpr tm);have ek:c' t=some k0:=LZ;have kle:=Ap.le t k0 LZ;have OU:=Ap.less 39;have Px:=Ap.st hN.sub;have OF:itF (Yx N) (j+1) (Vr s0 bd)=Yx N ⟨F',t::r,c'⟩:=by show Yx N (itF (Yx N) j (Vr s0 bd))=_;rw[ej]
    obtain⟨l,ws,el,hl,nl⟩:=(hN.mono s6).on BB;have tJ:=nl.len;have DN:ZU sU t=some (.int (k0:Int)):=by rw[wq.val];show Option.map _ (c' t)=_;rw[ek];rfl
    refine⟨fun U H'=>Ex4 fun(z6 z7 z8:69) (tv:List V)=>Cj4 (U=[72,98,qr0 Fd,qr0 St,some x,qr0 Tr,z6,z7,z8]) (RS κ a.Pm H Fd St nd (Yx N ⟨F',t::r,c'⟩) H') (H' Tr=some (.lst tv)) (NdL κ H' tv (Yx N ⟨F',t::r,c'⟩).T.reverse),?_,?_⟩
    ·rintro σ' H' ⟨Pg,Ht,Ds,R6,rfl,q1,q2,q3⟩;exact⟨_,OU,_,_,_,_,R6,rfl,q1,q2,q3,Px,⟨j+1,OF⟩,rfl⟩
    refine⟨_,rfl,_,rfl,Tr,_,_,tx,rfl,rfl,nH BA,L2.atI_last ti tx,?_⟩;refine⟨_,rfl,_,rfl,St,sU,pR,κ,t,_,rfl,uT,wq.keys,nt,DN,?_⟩;refine⟨_,rfl,_,rfl,_,rfl,net,es,ep,κ,t,_,rfl,(hN.mono s6).at_,(hN.mono s6).keys,nt,el,.inl ⟨l,_,rfl,.inl (nH hl),?_⟩⟩;have nfv:=E1.len;have nds:=Ap.nodup;have DL:=ZN Ap.nodup Ap.sub;rw[cZ] at DL;refine⟨rfl,_,rfl,?_⟩
    by_cases hk:k0=ws.length
    ·rw[show decide (V.int (k0:Int)=V.int (ws.length:Int))=true from dy (by rw[hk])];have en:(N t)[(c' t).getD 0]?=none:=by rw[ek,fC,im];lia
     rw[vC en];refine ZS ⟨_,rfl,.inl ⟨rfl,_,nH FW⟩,_,rfl,.inl ⟨rfl,_,nH BA⟩,Tr,_,tx,rfl,rfl,BA,by simp,?_⟩;rw[mU];have u7:=YN (o:=.lst ti) BA (fun _ z=>by cases z);have s7:Zd H (upd H6 Tr (.lst ti)):=Zd.upN s6 Me;have BW:(upd H6 Tr (.lst ti)) Fd=some (.lst AK):=(upd_ne HH).trans FW;have Ao:(upd H6 Tr (.lst ti)) St=some (65 St sU pR):=(upd_ne Fo).trans uT;have B8:(upd H6 Tr (.lst ti)) Tr=some (.lst ti):=Zc;generalize upd H6 Tr (.lst ti)=H7 at u7 s7 BW Ao B8 ⊢;have u8:=YN (o:=.lst (AK++[tx])) BW (fun _ z=>by cases z);refine⟨Fd,_,_,rfl,rfl,BW,by rw[cQ];lia,?_⟩;exact⟨_,_,_,ti,rfl,⟨Zd.upN s7 hF,⟨AK++[tx],Zc,((E1.mono u7).mono u8).app (.cons ((nt.mono u7).mono u8) .nil)⟩,sU,pR,(upd_ne Fk.symm).trans Ao,(wq.mono u7).mono u8⟩,(upd_ne HH.symm).trans B8,(ni.mono u7).mono u8⟩
    ·rw[show decide (V.int (k0:Int)=V.int (ws.length:Int))=false from dZ fun z=>hk (by injection z with z;lia)];have Ip:k0<(N t).length:=by lia
     have en:(N t)[(c' t).getD 0]?=some ((N t)[k0]):=by rw[ek,fC,cR Ip]
     refine ZH ⟨_,rfl,_,_,rfl,rfl,_,rfl,_,rfl,St,sU,pR,κ,t,rfl,uT,wq.keys,nt,by have:=wq.few;rw[cQ];lia,fun pY=>?_⟩;have u7:=YN (o:=65 St (ZI sU t tx (.int ((k0:Int)+1))) pY) uT (fun _ z=>by cases z);have s7:Zd H (upd H6 St 103):=Zd.upN s6 Du;have BW:(upd H6 St 103) Fd=some (.lst AK):=(upd_ne Fk).trans FW;have Ao:(upd H6 St 103) St=some 103:=Zc;have B8:(upd H6 St 103) Tr=some (.lst (ti++[tx])):=(upd_ne Fo.symm).trans BA;generalize upd H6 St 103=H7 at u7 s7 BW Ao B8 ⊢;have BU:=(wq.put (v:=.int ((k0:Int)+1)) nt BB).mono u7;have PV:=nt.mono u7;have ni7:=ni.mono u7;have Li:=E1.mono u7;have GX:=hN.mono s7;obtain⟨l',FG,Ph,FV,Ot⟩:=GX.on BB;have P6:=Ot.len;obtain⟨fx,Pq,CT⟩:=Ot.get' (cR Ip);generalize hf:(N t)[k0]=f at en CT;have RA:f∈nd:=by rw[<- hf];exact hN.sub t BB _ (gE Ip)
     refine⟨_,rfl,_,rfl,net,es,ep,κ,t,_,rfl,GX.at_,GX.keys,PV,Ph,_,rfl,l',_,_,fx,rfl,rfl,nH FV,Zn Pq,?_⟩;refine⟨_,rfl,_,rfl,St,_,pY,κ,f,rfl,Ao,BU.keys,CT,?_⟩;rw[BU.val];have one:∀d,(if d=t then some (V.int ((k0:Int)+1)) else(c' d).map fun(k:Nat)=>V.int (k:Int))=(if d=t then some ((c' t).getD 0+1) else c' d).map fun(k:Nat)=>V.int (k:Int):=fun d=>by
      by_cases z:d=t
      ·rw[og z,og z,ek,fC];rfl
      ·rw[n8 z,n8 z]
     by_cases q:(c' f).isSome=true
     ·have e1:(if f=t then some (V.int ((k0:Int)+1)) else(c' f).map fun(k:Nat)=>V.int (k:Int)).isSome=true:=by
       split
       ·rfl
       ·rw[Μ];exact q
      refine⟨_,rfl,?_⟩;rw[vo en q]
      show(if(!(if f=t then some (V.int ((k0:Int)+1)) else(c' f).map fun(k:Nat)=>V.int (k:Int)).isSome)=true then _ else _)
      rw[e1];exact ZH ⟨_,_,_,ti++[tx],rfl,⟨s7,⟨AK,BW,Li⟩,_,pY,Ao,BU.congr one⟩,B8,by rw[show(DS.mk F' (t::r) (fun x=>if x=t then some ((c' t).getD 0+1) else c' x)).T.reverse=r.reverse++[t] by simp];exact BH.mono u7⟩
     ·have Fe:f≠t:=fun z=>q (by rw[z,ek];rfl);have cf:c' f=none:=by cases e:c' f with|none=>rfl|some v=>rw[e] at q;exact oh rfl q
      have e1:(if f=t then some (V.int ((k0:Int)+1)) else(c' f).map fun(k:Nat)=>V.int (k:Int)).isSome=false:=by rw[n8 Fe,cf];rfl
      refine⟨_,rfl,?_⟩;rw[vj en q]
      show(if(!(if f=t then some (V.int ((k0:Int)+1)) else(c' f).map fun(k:Nat)=>V.int (k:Int)).isSome)=true then _ else _)
      rw[e1];refine ZS ⟨_,rfl,_,rfl,St,_,pY,κ,f,rfl,Ao,BU.keys,CT,by have:=BU.few;rw[cQ];lia,fun sN=>?_⟩;generalize ZI sU t tx (.int ((k0:Int)+1))=wb at Ao BU;have u8:=YN (o:=65 St (ZI wb f fx (.int 0)) sN) Ao (fun _ z=>by cases z);have s8:Zd H (upd H7 St (65 St (ZI wb f fx (.int 0)) sN)):=Zd.upN s7 Du;have Ob:(upd H7 St (65 St (ZI wb f fx (.int 0)) sN)) Fd=some (.lst AK):=(upd_ne Fk).trans BW;have Eg:(upd H7 St (65 St (ZI wb f fx (.int 0)) sN)) St=some (65 St (ZI wb f fx (.int 0)) sN):=Zc;have F3:(upd H7 St (65 St (ZI wb f fx (.int 0)) sN)) Tr=some (.lst (ti++[tx])):=(upd_ne Fo.symm).trans B8;generalize upd H7 St (65 St (ZI wb f fx (.int 0)) sN)=H8 at u8 s8 Ob Eg F3 ⊢;have E8:=(BU.put (v:=.int 0) CT RA).mono u8;have Mp:=(BH.mono u7).mono u8;have ME:=Mp.len;rw[cZ (bs:=[t]),iO,fB] at ME;have u9:=YN (o:=.lst ((ti++[tx])++[fx])) F3 (fun _ z=>by cases z);simp only[fc] at DL;refine⟨_,rfl,.inl ⟨rfl,_,nH F3⟩,_,rfl,Tr,_,_,rfl,rfl,F3,by rw[cQ,ME];lia,?_⟩;refine⟨_,_,_,(ti++[tx])++[fx],rfl,⟨Zd.upN s8 Me,⟨AK,(upd_ne HH).trans Ob,(Li.mono u8).mono u9⟩,_,sN,(upd_ne Fo).trans Eg,(E8.mono u9).congr fun d=>?_⟩,Zc,?_⟩
      ·by_cases z:d=f
       ·rw[og z]
        show _=(if d=f then some 0 else _).map _
        rw[og z];rfl
       ·rw[n8 z]
        show _=(if d=f then some 0 else _).map _
        rw[n8 z];exact one d
      ·rw[show(DS.mk F' (f::t::r) (fun x=>if x=f then some 0 else if x=t then some ((c' t).getD 0+1) else c' x)).T.reverse=(r.reverse++[t])++[f] by simp];exact(Mp.mono u9).app (.cons ((CT.mono u8).mono u9) .nil)
 ·rintro U H3 ⟨z4,z5,z6,z7,z8,rfl,⟨s3,⟨fv,FU,nf⟩,_⟩,iv,tn⟩;refine⟨_,rfl,k _ Fd fv s3 hF FU ?_⟩;rw[wK,fg] at nf;exact nf
def Wh(κ:Nat)(S:List Addr)(H:Hp)(l:Addr)(ks:List (37)):Prop:=∃lv,H l=some (.lst lv)/\lv.length=ks.length/\∀(i:Nat) v K,lv[i]?=some v->ks[i]?=some K->∃q qv,v=.ref q/\q∉S/\H q=some (.lst qv)/\NdL κ H qv K
theorem Wh.keep(h:Wh κ S H l ks)(k:∀q o,q∉S->H q=some o->H' q=some o)(e:H' l=H l)(u:ZT H H'):Wh κ S H' l ks:=by
 obtain⟨lv,h1,h2,h3⟩:=h;exact⟨lv,by rw[e];exact h1,h2,fun i v K a b=>let ⟨q,qv,c1,c2,c3,c4⟩:=h3 i v K a b; ⟨q,qv,c1,c2,k _ _ c2 c3,c4.mono u⟩⟩
theorem Wh.app{q:Addr}{lv qv:List V}{K:37}(h:Wh κ S H l ks)(hl:H l=some (.lst lv))(lS:l∈S)(qS:q∉S)(hq:H q=some (.lst qv))(nq:NdL κ H qv K):Wh κ S (upd H l (.lst (lv++[.ref q]))) l (ks++[K]):=by
 obtain⟨lv',h1,h2,h3⟩:=h;rw[hl] at h1;cases h1;have u:=YN (o:=.lst (lv++[.ref q])) hl (fun _ z=>by cases z);refine⟨_,Zc,by simp[h2],fun i v K' a b=>?_⟩
 by_cases c:i<lv.length
 ·rw[gJ c] at a;rw[gJ 40] at b;obtain⟨q',OO,c1,c2,c3,c4⟩:=h3 i v K' a b;exact⟨q',OO,c1,c2,by rw[upd_ne (fun z:q'=l=>c2 (by rw[z];exact lS))];exact c3,c4.mono u⟩
 ·have e:i=lv.length:=by
   have:=(dk.mp a).1;rw[cZ,fB] at this;lia
  subst e;rw[lC (cP _),Nat.sub_self] at a;rw[lC 40,h2,Nat.sub_self] at b;cases a;cases b;exact⟨q,qv,rfl,qS,by rw[upd_ne (fun z:q=l=>qS (by rw[z];exact lS))];exact hq,nq.mono u⟩
theorem yC{S:37}:∀{xs row:37}{x:ND},Xk S row (xs++[x])=xm S (Xk S row xs) x
 |[],_,_=>rfl
 |_::xs,_,_=>yC (xs:=xs)
def jC(κ:Nat)(Pm:Params)(H:Hp)(B:Addr)(es:NE)(ep:Nat)(bs:37)(bk:ND->37):Prop:=H B=some (DeO Pm B es ep)/\(∀e∈es,96)/\∀d∈bs,∃l vs,ZU es d=some (.ref l)/\H l=123/\NdL κ H vs (bk d)
theorem jC.mono{κ:Nat}{Pm:Params}{H H':Hp}{B:Addr}{es:NE}{ep:Nat}{bs:37}{bk:ND->37}(s:77)(h:jC κ Pm H B es ep bs bk):jC κ Pm H' B es ep bs bk:=
 ⟨s _ _ h.1,fun e he=>(h.2.1 e he).mono (nJ s),fun d hd=>let ⟨l,vs,a,b,c⟩:=h.2.2 d hd; ⟨l,vs,a,s _ _ b,c.mono (nJ s)⟩⟩
open Classical in
def KSt(κ:Nat)(Pm:Params)(H:Hp)(Kn Se:Addr)(nd:37)(ks:List (37))(H':Hp):Prop:=
 Zd H H'/\Wh κ [Kn,Se] H' Kn ks/\∃es ep,H' Se=some (DeO Pm Se es ep)/\DE κ H' es nd fun d=>if d∈ks.flatten then some (.bl true) else none
def j0(K:W.Frag)(a:Adr):Sp:=fun vs H Q _=>Ex9 fun(κ:Nat) (net b:Addr) (es:NE) (ep:Nat) (N:ND->37) (nd:37) (bv:List V) (bs:37)=>Cj7 (vs=[.ref net,.ref b]) 115 112 (NdL κ H bv bs) ((∀d∈bs,d∈nd)) (bs.length<=1000) (∀H' r,77->H r=none->Wh κ [] H' r (44)->Q (.ref r) H')
theorem k5{a:Adr}:58 2 a.y13 a.z13 bM j0:=fun T hw=>by
 refine okX T.ba.f Yj 51;intro X
 let d1:Rdg X Z1 [4,0,0,0,3,0,1,0,0]:=⟨_,(Zg (ZZ (WT (Xs hw 78 (pv 10) (pv 5))) (Zb (XC hw 78 (pv 5) (pv 10) YI rfl) (Zg (@Y8 _ _ _ _ (Wk fJ gk gm Yg (pv 7) (@Za _ _ _ _ _ (pv 10) Ze rfl)) rfl))) Zt))⟩
 let d2:Rdg X Z1 [4,0,0,0,3,0,1]:=⟨_,(Zb (YS eJ rfl (ZF (K:=K) rfl (ZB hw 78 (pv 3) (pv 9) (fun _ _=>rfl))) (Zk (i:=10) Yj.nd rfl 34) d1.2) (Zg (Jr (i:=8) Yj.nd rfl 34 Zi k9)))⟩
 let d3:Rdg X Z1 [4,0,0,0,3,0,0]:=⟨_,(Zb (@Zo _ _ (9) _ _ _ _ Yj.nd rfl 34 (ZJ 56 (pv 7) (pv 8) (fun _ _=>rfl)) rfl (.inl rfl)) d2.2)⟩
 let d4:Rdg X Z1 [4,0,0,0,3]:=⟨_,(Zb (X7 eJ (Zy vO (pv 8) (Zl 91 rfl T.aA nN (@Za _ _ _ _ _ (pv 7) Ze rfl)) (ZK _)) d3.2) (Zg (@Y8 _ _ _ _ (Wk fJ gk gm Yg (pv 4) (@Za _ _ _ _ _ (pv 7) Ze rfl)) rfl)))⟩
 let d5:Rdg X Z1 [4,0,0,0,2]:=⟨_,(Zb (@Zo _ _ (8) _ _ _ _ Yj.nd rfl 34 Zi rfl (.inl rfl)) d4.2)⟩
 let d6:Rdg X Z1 [4,0,0,0,1]:=⟨_,(Zb (@Zo _ _ (7) _ _ _ _ Yj.nd rfl 34 (Yq (@Za _ _ _ _ _ (pv 6) Ze rfl)) rfl (.inl rfl)) d5.2)⟩
 let d7:Rdg X Z1 [4,0,0,0,0]:=⟨_,(Zb (XC hw 78 (pv 5) (pv 6) YI rfl) d6.2)⟩
 let d8:Rdg X Z1 [4,0,0]:=⟨_,(Zg (ZZ (WT (Xs hw 78 (pv 6) (pv 5))) d7.2 Zt))⟩
 let d9:Rdg X Z1 [4]:=⟨_,(Zb (YS eJ rfl (Zbx (K:=K) rfl rfl T.bh (@Za _ _ _ _ _ (pv 2) Ze rfl)) (Zk (i:=6) Yj.nd rfl 34) d8.2) (Zg (Zs (Kr (K:=K) rfl (pv 4) (YG (XT Y5 Zi))))))⟩
 let se:Rdg X Z1 [3]:=⟨_,(Zb (@Zo _ _ (5) _ _ _ _ Yj.nd rfl 34 (WQ hw) rfl (.inl rfl)) d9.2)⟩
 let tZ:Rdg X Z1 [2]:=⟨_,(Zb (@Zo _ _ (4) _ _ _ _ Yj.nd rfl 34 (Yq Ze) rfl (.inl rfl)) se.2)⟩
 let AX:Rdg X Z1 [1]:=⟨_,(Zb (@Zo _ _ (3) _ _ _ _ Yj.nd rfl 34 (ZV T.bo (QF T hw) hr rfl rfl (@Za _ _ _ _ _ (pv 0) (@Za _ _ _ _ _ (pv 2) Ze rfl) rfl)) rfl (.inl rfl)) tZ.2)⟩
 intro vs Q h;obtain⟨κ,net,b,es,ep,N,nd,bv,bs,rfl,hN,hb,nb,bn,lb,k⟩:=h;refine⟨_,(Zb (@Zo _ _ (2) _ _ _ _ Yj.nd rfl 34 (ZV T.a9 (zV T hw) hr rfl rfl (@Za _ _ _ _ _ (pv 0) (@Za _ _ _ _ _ (pv 1) Ze rfl) rfl)) rfl (.inl rfl)) AX.2),?_⟩;have rJ:=hN.len;obtain⟨oU,pm⟩:=XD hN.sub bn;refine⟨_,rfl,_,rfl,κ,net,b,es,ep,N,nd,bv,bs,rfl,hN,hb,nb,bn,lb,fun H1 R rv s1 hR eR nR=>?_⟩;have eK:44=(Y7 N (ZR N bs) (ZR N bs)).reverse:=rfl;rw[eK] at k;generalize ZR N bs=F at oU pm nR k;have lF:=ZN oU.nodup oU.sub;refine⟨_,rfl,_,rfl,κ,net,R,es,ep,N,nd,rv,F,rfl,hN.mono s1,eR,nR,oU.sub,oU.nodup,oU.clo,fun H2 B MT Os hB bk=>?_⟩;have M9:jC κ a.Pm H2 B MT Os F (Yv N F):=⟨bk.at_,bk.keys,fun d hd=>let ⟨l,vs,a1,_,_,a4,a5⟩:=bk.val d hd; ⟨l,vs,a1,a4,a5⟩⟩;have s2:=bk.same;have uU:=s2 _ _ eR;have Mh:=nR.mono (nJ s2);have oQ:=s1.trans s2;clear bk;refine⟨by left,fun Kn hK=>?_⟩;obtain⟨H3,qN,s3,Ow⟩:=Xl (o:=.lst []) hK;rw[qN];intro Se hS;have Gc:Kn≠Se:=fun z=>by rw[<- z,Ow] at hS;cases hS
 have tK:H2 Se=none:=by
  cases e:H2 Se with
  |none=>rfl
  |some o=>rw[s3 _ _ e] at hS;cases hS
 obtain⟨H4,qN,s4,SF⟩:=Xl (o:=65 Se [] 0) hS;rw[qN];have uX:=nR.len;refine⟨_,rfl,R,rv,rfl,nH ((s3.trans s4) _ _ uU),?_⟩;refine JX (J:=Itv K R rv.length) (n:=rv.length) (fun i U H'=>Ex5 fun(z6 z7 z8 z9 z10:69)=>Cj3 (U=[72,98,qr0 R,qr0 B,qr0 Kn,qr0 Se,z6,z7,z8,z9,z10]) (KSt κ a.Pm H2 Kn Se nd (Y7 N F (F.drop (F.length-i))) H') ((Y7 N F (F.drop (F.length-i))).length<=i)) ?_ ?_ ?_ ?_ ?_
 ·refine⟨_,_,_,_,_,rfl,?_,?_⟩
  ·rw[iP,Υ];exact⟨s3.trans s4,⟨[],s4 _ _ Ow,rfl,fun i v K h=>by simp at h⟩,[],0,SF,DE.nil.congr fun d=>by simp[Y7]⟩
  ·rw[iP,Υ];exact cP _
 ·rintro i U H' hi ⟨z6,z7,z8,z9,z10,rfl,st,_⟩;exact⟨hi,rv,nH (st.1 _ _ uU),rfl⟩
 ·rintro U H' _;exact cP _
 ·rintro i x U H5' H5 hi ⟨z6,z7,z8,z9,z10,rfl,st,lk⟩ ⟨rfl,hx⟩;have hx:=hx _ (nH (st.1 _ _ uU));obtain⟨r,er,_⟩:=Mh.get hx;have rF:r∈F:=cY er;have hiF:i<F.length:=by lia
  rw[uX] at er hx;have Nv:F.drop (F.length-(i+1))=r::F.drop (F.length-i):=by
   have e1:F.length-(i+1)=F.length-1-i:=by lia
   have lt:F.length-1-i<F.length:=by lia
   rw[e1,i8 lt,(dk.mp er).2]
   congr 2;lia
  rw[Nv,Y7];have Iw:F=F.take (F.length-(i+1))++r::F.drop (F.length-i):=by rw[<- Nv];exact(iw _ _).symm
  have ok:=qk oU (F.drop (F.length-i)) (F.take (F.length-(i+1))++[r]) (by rw[gR];exact Iw);generalize Y7 N F (F.drop (F.length-i))=ks at st lk ok ⊢;obtain⟨s5,kn,sh,t8,Fl,de⟩:=st;obtain⟨r',MF,nx⟩:=(Mh.mono (nJ s5)).get hx;rw[er] at MF;cases MF;refine⟨_,rfl,_,rfl,Se,sh,t8,κ,r,rfl,Fl,de.keys,nx,?_⟩;rw[de.val];unfold Zay
  by_cases c:r∈ks.flatten
  ·rw[og c,og c];exact⟨_,rfl,ZH ⟨_,_,_,_,_,rfl,⟨s5,kn,sh,t8,Fl,de⟩,by lia⟩⟩
  ·rw[n8 c,n8 c];refine⟨_,rfl,ZS ⟨_,rfl,_,rfl,Se,sh,t8,κ,r,rfl,Fl,de.keys,nx,by have:=de.few;rw[cQ];lia,fun pR=>?_⟩⟩;have u6:=YN (o:=65 Se (ZI sh r x (.bl true)) pR) Fl (fun _ z=>by cases z);have s6:Zd H2 (upd H5 Se (65 Se (ZI sh r x (.bl true)) pR)):=Zd.upN s5 tK;have uT:(upd H5 Se (65 Se (ZI sh r x (.bl true)) pR)) Se=some (65 Se (ZI sh r x (.bl true)) pR):=Zc;have ET:Wh κ [Kn,Se] (upd H5 Se (65 Se (ZI sh r x (.bl true)) pR)) Kn ks:=kn.keep (fun q o nq e=>by rw[upd_ne (fun z:q=Se=>nq (by rw[z];simp))];exact e) (upd_ne Gc) u6;generalize upd H5 Se (65 Se (ZI sh r x (.bl true)) pR)=H6 at u6 s6 uT ET ⊢;have wq:=(de.put (v:=.bl true) nx (oU.sub r rF)).mono u6;refine⟨_,rfl,by show 1<=sizeLine;rw[cQ];decide,fun Kc wY=>?_⟩;have GG:H2 Kc=none:=by
    cases e:H2 Kc with
    |none=>rfl
    |some o=>rw[s6 _ _ e] at wY;cases wY
   have IC:Kc≠Se:=fun z=>by rw[z,uT] at wY;cases wY
   have Ng:Kc≠Kn:=fun z=>by obtain⟨lv,e,_⟩:=ET;rw[z,e] at wY;cases wY
   obtain⟨H7,qN,s7,LC⟩:=Xl (o:=.lst [x]) wY;rw[qN];have LW:Wh κ [Kc,Kn,Se] H7 Kn ks:=by
    obtain⟨lv,h1,h2,h3⟩:=ET;refine⟨lv,s7 _ _ h1,h2,fun i v K' a1 a2=>?_⟩;obtain⟨q,qv,c1,c2,c3,c4⟩:=h3 i v K' a1 a2;refine⟨q,qv,c1,fun z=>?_,s7 _ _ c3,c4.mono (nJ s7)⟩;rcases cW.mp z with z|z
    ·rw[z,wY] at c3;cases c3
    ·exact c2 z
   have S4:V4 (Yv N F) ks.flatten F (fun _=>True) [r] ([r],0):=V4.start 39 (fun y hy=>by rw[df] at hy;subst hy;exact rF) (fun _ _=>trivial);have hG:∀d∈F,∀y∈Yv N F d,y∈F:=fun d hd y hy=>(VY.mp hy).1;refine⟨fun m U H'=>Ex7 fun(row:37) (pl:Nat) (cv:List V) (es':NE) (ep':Nat) (z9 z10:69)=>Zb9 (U=[72,98,qr0 R,qr0 B,qr0 Kn,qr0 Se,some x,qr0 Kc,some (.int (pl:Int)),z9,z10]) (Zd H2 H') (Wh κ [Kc,Kn,Se] H' Kn ks) (H' Se=some (65 Se es' ep')) (DE κ H' es' nd (fun d=>if d∈ks.flatten\/d∈row then some (.bl true) else none)) (H' Kc=some (.lst cv)) (NdL κ H' cv row) (V4 (Yv N F) ks.flatten F (fun _=>True) [r] (row,pl)) ((∃j,itF (WI (Yv N F) ks.flatten) j ([r],0)=(row,pl))) (m=F.length-pl),⟨_,[r],0,[x],_,pR,_,_,rfl,s6.trans s7,LW,s7 _ _ uT,(wq.mono (nJ s7)).congr fun d=>?_,LC,.cons ((nx.mono u6).mono (nJ s7)) .nil,S4,⟨0,rfl⟩,rfl⟩,?_⟩
   ·by_cases q:d=r
    ·rw[og q,og (.inr (by rw[q];simp))]
    ·rw[n8 q]
     by_cases q2:d∈ks.flatten
     ·rw[og q2,og (.inl q2)]
     ·rw[n8 q2,n8 (fun z=>z.elim q2 fun z=>q (df.mp z))]
   clear LW LC s7 wq ET uT s6 u6 wY;rintro m U H8 ⟨row,pl,cv,Lm,sN,z9,z10,rfl,s8,NQ,Eg,E8,FT,FZ,bi,⟨j,ej⟩,rfl⟩;have On:=FZ.len;have RT:row.length<=F.length:=ZN bi.nodup bi.sub;refine⟨_,rfl,_,rfl,.inl ⟨Kc,cv,rfl,.inl (nH FT),_,_,rfl,rfl,_,rfl,?_⟩⟩
   by_cases hp:pl<row.length
   ·rw[show decide ((pl:Int)<(cv.length:Int))=true from dy 40];obtain⟨d,ed⟩:∃d,row[pl]?=some d:=⟨_,cR hp⟩;obtain⟨v,ev,nv⟩:=FZ.get' ed;have dF:d∈F:=bi.sub d (cY ed);have NX:=bi.st hG (fun _ _ _ _ _=>trivial);have CQ:itF (WI (Yv N F) ks.flatten) (j+1) ([r],0)=WI (Yv N F) ks.flatten (row,pl):=by show WI _ _ (itF _ j _)=_;rw[ej]
    rw[yn ed] at NX CQ;have GO:=M9.mono s8;obtain⟨l,ws,el,hl,nl⟩:=GO.2.2 d dF;have uf:H2 l=some (.lst ws):=by
     obtain⟨l',FG,e',h',_⟩:=M9.2.2 d dF;rw[el] at e';cases e';rw[s8 _ _ h'] at hl;cases hl;exact h'
    have tJ:=nl.len;refine ZS ⟨fun U H'=>Ex5 fun(cv:List V) (es':NE) (ep':Nat) (z9 z10:69)=>Cj7 (U=[72,98,qr0 R,qr0 B,qr0 Kn,qr0 Se,some x,qr0 Kc,some (.int ((pl+1:Nat):Int)),z9,z10]) (Zd H2 H') (Wh κ [Kc,Kn,Se] H' Kn ks) (H' Se=some (65 Se es' ep')) (DE κ H' es' nd (fun y=>if y∈ks.flatten\/y∈Xk ks.flatten row (Yv N F d) then some (.bl true) else none)) (H' Kc=some (.lst cv)) (NdL κ H' cv (Xk ks.flatten row (Yv N F d))),?_,?_⟩
    ·rintro σ' H' ⟨Ae,es',ep',Pf,An,rfl,q1,q2,q3,q4,q5,q6⟩;exact⟨F.length-(pl+1),by lia,_,pl+1,Ae,es',ep',Pf,An,rfl,q1,q2,q3,q4,q5,q6,NX,⟨j+1,CQ⟩,rfl⟩
    refine⟨_,rfl,_,rfl,Kc,_,_,v,rfl,rfl,nH FT,Zn ev,?_⟩;refine⟨_,rfl,_,rfl,B,MT,Os,κ,d,_,rfl,GO.1,GO.2.1,nv,el,l,rfl,⟨_,nH hl⟩,?_⟩;refine Y0 (K:=K) (xs:=ws) (fun j U H'=>Ex4 fun(cv:List V) (es':NE) (ep':Nat) (z10:69)=>Cj8 (U=[72,98,qr0 R,qr0 B,qr0 Kn,qr0 Se,some x,qr0 Kc,some (.int (pl:Int)),some v,z10]) (Zd H2 H') (ZT H8 H') (Wh κ [Kc,Kn,Se] H' Kn ks) (H' Se=some (65 Se es' ep')) (DE κ H' es' nd (fun y=>if y∈ks.flatten\/y∈Xk ks.flatten row ((Yv N F d).take j) then some (.bl true) else none)) (H' Kc=some (.lst cv)) (NdL κ H' cv (Xk ks.flatten row ((Yv N F d).take j)))) ?_ ?_ ?_ ?_
    ·exact⟨cv,Lm,sN,_,rfl,s8,fun _ _ e=>e,NQ,Eg,E8,FT,FZ⟩
    ·rintro j U H9 hj ⟨Ae,es',ep',An,rfl,q1,_⟩;exact nH (q1 _ _ uf)
    ·rintro j' y U H9 hy ⟨Ae,es',ep',An,rfl,q1,u9,q2,q3,q4,q5,q6⟩;obtain⟨f,ef,ny⟩:=(nl.mono u9).get hy;have fF:f∈F:=hG d dF f (cY ef);have oW:(Yv N F d).take (j'+1)=(Yv N F d).take j'++[f]:=by rw[fz,ef];rfl
     rw[oW,yC];have rn:(Xk ks.flatten row ((Yv N F d).take j')).Nodup:=VE bi.nodup;have rs:∀y∈Xk ks.flatten row ((Yv N F d).take j'),y∈F:=fun y hy=>by
      rcases XX.mp hy with q|q
      ·exact bi.sub y q
      ·exact hG d dF y (gA q.1)
     generalize Xk ks.flatten row ((Yv N F d).take j')=tH at q4 q6 rn rs ⊢;have lrw:=ZN rn rs;have RD:=q6.len;refine⟨_,rfl,_,rfl,Se,es',ep',κ,f,rfl,q3,q4.keys,ny,?_⟩;rw[q4.val];unfold xm
     by_cases cc:f∈ks.flatten\/f∈tH
     ·rw[og cc,og cc];exact⟨_,rfl,ZH ⟨Ae,es',ep',_,rfl,q1,u9,q2,q3,q4,q5,q6⟩⟩
     ·rw[n8 cc,n8 cc];refine⟨_,rfl,ZS ⟨_,rfl,_,rfl,Se,es',ep',κ,f,rfl,q3,q4.keys,ny,by have:=q4.few;rw[cQ];lia,fun pB=>?_⟩⟩;have u10:=YN (o:=65 Se (ZI es' f y (.bl true)) pB) q3 (fun _ z=>by cases z);have Dj:Zd H2 (upd H9 Se (65 Se (ZI es' f y (.bl true)) pB)):=Zd.upN q1 tK;have Eo:(upd H9 Se (65 Se (ZI es' f y (.bl true)) pB)) Se=some (65 Se (ZI es' f y (.bl true)) pB):=Zc;have w4:(upd H9 Se (65 Se (ZI es' f y (.bl true)) pB)) Kc=some (.lst Ae):=(upd_ne IC).trans q5;have DI:Wh κ [Kc,Kn,Se] (upd H9 Se (65 Se (ZI es' f y (.bl true)) pB)) Kn ks:=q2.keep (fun q o nq e=>by rw[upd_ne (fun z:q=Se=>nq (by rw[z];simp))];exact e) (upd_ne Gc) u10;generalize upd H9 Se (65 Se (ZI es' f y (.bl true)) pB)=rX at u10 Dj Eo w4 DI ⊢;have Ig:=(q4.put (v:=.bl true) ny (oU.sub f fF)).mono u10;have u11:=YN (o:=.lst (Ae++[y])) w4 (fun _ z=>by cases z);refine⟨_,rfl,.inl ⟨rfl,_,nH w4⟩,_,rfl,Kc,_,_,rfl,rfl,w4,by rw[cQ];lia,?_⟩;refine⟨Ae++[y],_,pB,_,rfl,Zd.upN Dj GG,fun c zs e=>u11 _ _ (u10 _ _ (u9 _ _ e)),DI.keep (fun q o nq e=>by rw[upd_ne (fun z:q=Kc=>nq (by rw[z];simp))];exact e) (upd_ne Ng.symm) u11,(upd_ne IC.symm).trans Eo,(Ig.mono u11).congr fun z=>?_,Zc,((q6.mono u10).mono u11).app (.cons ((ny.mono u10).mono u11) .nil)⟩
      by_cases q:z=f
      ·rw[og q,og (.inr (by rw[q];simp))]
      ·rw[n8 q]
       by_cases q2:z∈ks.flatten\/z∈tH
       ·rw[og q2,og (q2.imp id fun m=>dN _ m)]
       ·rw[n8 q2,n8 (fun m=>q2 (m.imp id fun m=>(db.mp m).elim id fun m=>oh (df.mp m) q))]
    ·rintro U H9 ⟨Ae,es',ep',An,rfl,q1,u9,q2,q3,q4,q5,q6⟩;rw[tJ,fg] at q4 q6;exact⟨_,rfl,_,_,rfl,rfl,Ae,es',ep',_,_,rfl,q1,q2,q3,q4,q5,q6⟩
   ·rw[show decide ((pl:Int)<(cv.length:Int))=false from dZ 40];have eb:Za1 (Yv N F) ks.flatten [r]=row:=by
     unfold Za1;rw[Y6.eq Vo.fix ⟨(show Vo (row,pl) from Ω.mp hp),j,ej⟩]
    rw[eb];obtain⟨lv,e1,e2,e3⟩:=NQ;refine ZH ⟨_,rfl,.inl ⟨rfl,_,nH e1⟩,_,rfl,Kn,_,_,rfl,rfl,e1,by rw[cQ];lia,?_⟩;have u9:=YN (o:=.lst (lv++[.ref Kc])) e1 (fun _ z=>by cases z);have O1:Wh κ [Kn,Se] H8 Kn ks:=⟨lv,e1,e2,fun i v K' a1 a2=>let ⟨q,qv,c1,c2,c3,c4⟩:=e3 i v K' a1 a2; ⟨q,qv,c1,fun z=>c2 (c7 _ z),c3,c4⟩⟩;refine⟨_,_,_,_,_,rfl,⟨Zd.upN s8 hK,O1.app e1 39 (by simp[Ng,IC]) FT FZ,Lm,sN,(upd_ne Gc.symm).trans Eg,(E8.mono u9).congr fun z=>?_⟩,by rw[cZ,fB];lia⟩;rw[kD]
    by_cases q:z∈ks.flatten\/z∈row
    ·rw[og q,og (db.mpr q)]
    ·rw[n8 q,n8 (fun m=>q (db.mp m))]
 ·rintro U H5 ⟨z6,z7,z8,z9,z10,rfl,⟨s5,kn,_⟩,lk⟩;rw[uX,Nat.sub_self,List.drop_zero] at kn;obtain⟨lv,e1,e2,e3⟩:=kn;refine⟨_,rfl,_,rfl,_,rfl,Kn,lv,rfl,rfl,nH e1,fun p hp=>?_⟩;have s6:=Zh (o:=.lst lv.reverse) hp;have Dz:H p=none:=by
   cases e:H p with
   |none=>rfl
   |some o=>rw[s5 _ _ (oQ _ _ e)] at hp;cases hp
  refine k _ p (oQ.trans (s5.trans s6)) Dz ⟨_,Zc,by rw[iO,iO,e2],fun i v K' h1 h2=>?_⟩;have hi:i<lv.length:=by have:=(dk.mp h1).1;rwa [iO] at this
  rw[List.getElem?_reverse hi] at h1;rw[List.getElem?_reverse 40,<- e2] at h2;obtain⟨q,qv,c1,_,c3,c4⟩:=e3 _ v K' h1 h2;exact⟨q,qv,c1,by simp,s6 _ _ c3,c4.mono (nJ s6)⟩
def W8(e:ND×37):37:=e.2.dropLast.getLast?.toList
theorem Jz{x:ND}:W8 (x,pa++[x])=pa.getLast?.toList:=by unfold W8;simp
def zw(κ:Nat)(Pm:Params)(H:Hp)(A:Addr)(es:NE)(ep:Nat)(row:PRw):Prop:=H A=some (DeO Pm A es ep)/\(∀e∈es,96)/\∀e∈row,∃l vs,ZU es e.1=some (.ref l)/\H l=123/\NdL κ H vs (W8 e)
theorem zw.mono{κ:Nat}{Pm:Params}{H H':Hp}{A:Addr}{es:NE}{ep:Nat}{row:PRw}(s:77)(h:zw κ Pm H A es ep row):zw κ Pm H' A es ep row:=
 ⟨s _ _ h.1,fun e he=>(h.2.1 e he).mono (nJ s),fun e he=>let ⟨l,vs,a,b,c⟩:=h.2.2 e he; ⟨l,vs,a,s _ _ b,c.mono (nJ s)⟩⟩
theorem Zck{vs:List V}(h:106):NdL κ H vs.reverse ds.reverse:=by
 induction h with
 |nil=>exact .nil
 |cons a _ ih=>rw[gT,gT];exact ih.app (.cons a .nil)
def Qr(K:W.Frag)(a:Adr):Sp:=fun vs H Q _=>jN fun(κ:Nat) (A:Addr) (x:V) (es:NE) (ep:Nat) (row:PRw) (N:ND->37) (nd bs:37) (e0:ND×37)=>Cj7 (vs=[.ref A,x]) (zw κ a.Pm H A es ep row) (VR N nd bs row) (e0∈row) (nd.length<=12) (Nd κ H x e0.1) (∀H' r rv,77->H r=none->H' r=some (.lst rv)->NdL κ H' rv e0.2->Q (.ref r) H')
theorem Qq{a:Adr}:58 1 a.y15 a.z15 bX Qr:=fun T hw=>by
 refine okX T.bp.f vR 51;intro X
 let d1:Rdg X VP [1,0,0]:=⟨_,(Zg (@Y8 _ _ _ _ (Wk fJ gk gm Yg (pv 2) (@Za _ _ _ _ _ (ZJ 56 (ZB hw 78 (pv 0) (ZJ 56 (pv 2) (XT Y5 Zi) (fun _ _=>rfl)) (fun _ _=>rfl)) Zi (fun _ _=>rfl)) Ze rfl)) rfl))⟩
 let d2:Rdg X VP [1]:=⟨_,(Zb (X7 eJ (VW (K:=K) rfl (ZB hw 78 (pv 0) (ZJ 56 (pv 2) (XT Y5 Zi) (fun _ _=>rfl)) (fun _ _=>rfl)) (fun _=>rfl)) d1.2) (Zg (Zs (Kr (K:=K) rfl (pv 2) (YG (XT Y5 Zi))))))⟩
 intro vs Q h;obtain⟨κ,A0,x,es,ep,row,N,nd,bs,e0,rfl,ha,sg,m0,rJ,nx,k⟩:=h;refine⟨_,(Zb (@Zo _ _ (2) _ _ _ _ vR.nd rfl 34 (Yq (@Za _ _ _ _ _ (pv 1) Ze rfl)) rfl (.inl rfl)) d2.2),?_⟩;have few:=sg.few;have DF:e0.2.length<=12:=by
  obtain⟨i,hi,ei⟩:=fo m0;have:=sg.len i e0 (by rw[cR hi,ei]);lia
 refine⟨_,rfl,by show 1<=sizeLine;rw[cQ];decide,fun R hR=>?_⟩;obtain⟨H1,qN,s1,eR⟩:=Xl (o:=.lst [x]) hR;rw[qN];refine⟨fun m U H'=>Ex3 fun(e:ND×37) (ZG:37) (pv:List V)=>Cj7 (U=[qr0 A0,some x,qr0 R]) (77) (e∈row) (e0.2=e.2++ZG) (H' R=some (.lst pv)) (NdL κ H' pv (e.1::ZG).reverse) (m=e.2.length),⟨_,e0,[],[x],rfl,s1,m0,by simp,eR,.cons (nx.mono (nJ s1)) .nil,rfl⟩,?_⟩;clear eR s1;rintro m U H2 ⟨e,ZG,pv,rfl,s2,me,ee,uU,np,rfl⟩;rw[gT] at np;obtain⟨pi,pl,rfl,ni,nl⟩:=WX np;have Dr:=ha.mono s2;obtain⟨l,vs,el,hl,nv⟩:=Dr.2.2 e me;have N8:=ni.len;rw[iO] at N8;obtain⟨_,_,⟨p,ep'⟩,_⟩:=sg.chn e me;refine⟨_,rfl,_,rfl,_,rfl,R,_,_,pl,rfl,rfl,nH uU,L2.atI_last pi pl,A0,es,ep,κ,e.1,_,rfl,Dr.1,Dr.2.1,nl,el,?_⟩;rcases sg.link e me with⟨e1,_⟩|⟨q,mq,e1,_⟩
 ·have:W8 e=[]:=by unfold W8;rw[e1];rfl
  rw[this] at nv;cases nv;refine⟨false,.inl ⟨[],nH hl,rfl⟩,ZH ?_⟩;refine⟨_,rfl,_,rfl,_,rfl,R,_,rfl,rfl,nH uU,fun p9 hp=>?_⟩;have s6:=Zh (o:=.lst (pi++[pl]).reverse) hp;have Dz:H p9=none:=by
   cases e:H p9 with
   |none=>rfl
   |some o=>rw[s2 _ _ e] at hp;cases hp
  refine k _ p9 _ (s2.trans s6) Dz Zc ?_;have e2:e0.2=e.1::ZG:=by rw[ee,e1];rfl
  rw[e2];have Sf:NdL κ H2 (pi++[pl]) (e.1::ZG).reverse:=by rw[gT];exact np
  have:=Zck (Sf.mono (nJ s6))
  rwa [List.reverse_reverse] at this
 ·obtain⟨_,_,⟨p2,oE⟩,_⟩:=sg.chn q mq;have:W8 e=[q.1]:=by unfold W8;rw[e1,oE];simp
  rw[this] at nv;obtain⟨qv,rfl,nq⟩:∃qv,vs=[qv]/\Nd κ H2 qv q.1:=by
   cases nv with
   |cons h t=>cases t;exact⟨_,rfl,h⟩
  refine⟨true,.inl ⟨_,nH hl,rfl⟩,ZS ?_⟩;have lq:q.2.length<e.2.length:=by rw[e1,cZ,fB];lia
  refine⟨fun U H'=>Ex1 fun(pv:List V)=>Cj4 (U=[qr0 A0,some x,qr0 R]) (77) (H' R=some (.lst pv)) (NdL κ H' pv (q.1::e.1::ZG).reverse),?_,?_⟩
  ·rintro σ' H' ⟨pv,rfl,q1,q2,q3⟩;exact⟨_,lq,q,e.1::ZG,pv,rfl,q1,mq,by rw[ee,e1];simp,q2,q3,rfl⟩
  have u3:=YN (o:=.lst ((pi++[pl])++[qv])) uU (fun _ z=>by cases z);have N5:e.2.length+ZG.length<=12:=by rw[ee,cZ] at DF;exact DF
  refine⟨_,rfl,.inl ⟨rfl,_,nH uU⟩,_,rfl,_,rfl,_,rfl,R,_,_,pl,rfl,rfl,nH uU,L2.atI_last pi pl,A0,es,ep,κ,e.1,_,rfl,Dr.1,Dr.2.1,nl,el,l,_,_,qv,rfl,rfl,nH hl,Zn (j:=0) rfl,R,_,_,rfl,rfl,uU,by rw[cQ,cZ,fB];lia,?_⟩;refine⟨(pi++[pl])++[qv],rfl,Zd.upN s2 hR,Zc,?_⟩;rw[gT,gT];exact(np.mono u3).app (.cons (nq.mono u3) .nil)
def noK(fs:73):Prop:=∀m∈(["is_linked","is_ring","lack_of","loop_from","ring_from","ranks_from"]:54),fs.lookup m=none
def Zbm(κ:Nat)(Pm:Params)(H:Hp)(A:Addr)(es:NE)(ep:Nat)(ks:List (37)):Prop:=H A=some (DeO Pm A es ep)/\(∀e∈es,96)/\es.map (·.1)=ks.flatten/\∀d∈ks.flatten,ZU es d=some (.int (rkF ks d:Int))
theorem Zbm.mono{κ:Nat}{Pm:Params}{H H':Hp}{A:Addr}{es:NE}{ep:Nat}{ks:List (37)}(s:77)(h:Zbm κ Pm H A es ep ks):Zbm κ Pm H' A es ep ks:=⟨s _ _ h.1,fun e he=>(h.2.1 e he).mono (nJ s),h.2.2⟩
theorem Wh.mono{κ:Nat}{S:List Addr}{H H':Hp}{l:Addr}{ks:List (37)}(s:77)(h:Wh κ S H l ks):Wh κ S H' l ks:=by
 obtain⟨lv,h1,h2,h3⟩:=h;exact⟨lv,s _ _ h1,h2,fun i v K a b=>let ⟨q,qv,c1,c2,c3,c4⟩:=h3 i v K a b; ⟨q,qv,c1,c2,s _ _ c3,c4.mono (nJ s)⟩⟩
structure KO(κ:Nat)(Pm:Params)(C:Addr)(H:Hp)(r dx:Addr)(fs:73)(N:ND->37)(M:ND->71)(n:Nat)(nd bs:37):Prop where
 obj:H r=some (.ins C dx fs)
 no:noK fs
 net:∃a es ep,fs.lookup ("net" : Str)=some (.ref a)/\Wi κ Pm H a es ep N nd
 marks:∃a es ep,fs.lookup ("marks" : Str)=some (.ref a)/\X9 κ Pm H a es ep M n nd
 knots:∃a,fs.lookup ("knots" : Str)=some (.ref a)/\Wh κ [] H a (44)
 ranks:∃a es ep,fs.lookup ("ranks" : Str)=some (.ref a)/\Zbm κ Pm H a es ep (44)
 bn:∀b∈bs,b∈nd
theorem KO.mono{κ:Nat}{Pm:Params}{C:Addr}{H H':Hp}{r dx:Addr}{fs:73}{N:ND->37}{M:ND->71}{n:Nat}{nd bs:37}(s:77)(h:KO κ Pm C H r dx fs N M n nd bs):KO κ Pm C H' r dx fs N M n nd bs:=
 ⟨s _ _ h.obj,h.no,let ⟨a,es,ep,e,q⟩:=h.net; ⟨a,es,ep,e,q.mono s⟩,let ⟨a,es,ep,e,q⟩:=h.marks; ⟨a,es,ep,e,q.mono s⟩,let ⟨a,e,q⟩:=h.knots; ⟨a,e,q.mono s⟩,let ⟨a,es,ep,e,q⟩:=h.ranks; ⟨a,es,ep,e,q.mono s⟩,h.bn⟩
theorem KO.sub{κ:Nat}{Pm:Params}{C:Addr}{H:Hp}{r dx:Addr}{fs:73}{N:ND->37}{M:ND->71}{n:Nat}{nd bs:37}(h:KO κ Pm C H r dx fs N M n nd bs):∀d∈nd,∀x∈N d,x∈nd:=let ⟨_,_,_,_,q⟩:=h.net;q.sub
theorem KO.ok{r:Addr}{fs:73}{bs:37}(h:KO κ Pm C H r dx fs N M n nd bs):qB N (ZR N bs) (44)/\jm N nd (·∈bs) (ZR N bs):=⟨Wp h.sub h.bn,(XD h.sub h.bn).1⟩
def JH(N:ND->37)(ks:List (37))(j:Nat)(ds:37):71:=ds.flatMap fun d=>(N d).map fun x=>decide (rkF ks x=j)
theorem Q9:(JH N ks j ds).any id=ds.any fun d=>(N d).any fun x=>decide (rkF ks x=j):=by
 unfold JH;rw[List.any_flatMap]
 congr 1
 funext d
 rw[Ψ];rfl
theorem Zbq(h:∀d,(N d).length<=12):(JH N ks j ds).length<=12*ds.length:=by
 unfold JH
 induction ds with
 |nil=>simp
 |cons d r ih=>
  rw[List.flatMap_cons,cZ,cS,fc];have:=h d;lia
def UI(K:W.Frag)(a:Adr):Sp:=fun vs H Q _=>jN fun(κ:Nat) (r dx:Addr) (fs:73) (N:ND->37) (M:ND->71) (n:Nat) (nd bs:37) (j:Nat)=>Cj4 (vs=[.ref r,.int (j:Int)]) (KO κ a.Pm a.C_Knots H r dx fs N M n nd bs) (j<(44).length) (∀H',77->Q (.bl (qE N (44) j)) H')
theorem WE{a:Adr}:58 1 a.y17 a.z17 bL UI:=fun T hw=>by
 refine okF T.ag.f UC (113) (by intro _ _ _ _ h;cases h;rename_i h;cases h;subst_vars;rfl);obtain⟨κ,r,dx,fs,N,M,n,nd,bs,j,rfl,ko,hj,k⟩:=h;refine⟨_,(Zg (Zs (Zl (WU (K:=K) rfl rfl) rfl T.bA nO (@Za _ _ _ _ _ (KS (Nc:=bT) (ix:=[none,none,some 1,some 0]) (ZD.of (by left:ZW (Zj Xa) ["self","rank"] _ _ _=true)) rfl (ZF (K:=K) rfl (ZJ 56 92 (pv 1) (fun _ _=>rfl))) (fun _ _ _ _ _=>(Zk (i:=0) (show δ bT by left) rfl 34)) (fun _ _ _ _ _=>Z3) (fun _ _ _ _ _=>(ZF (K:=K) rfl (ZB hw 78 (Yn (K:=K) rfl (pv 3) rfl) (pv 0) (fun _ _=>rfl)))) (fun _ _ _ _ _=>(Zk (i:=1) (show δ bT by left) rfl 34)) (fun _ _ _ _ _=>Z3) (fun _ _ _ _ _=>(X1 W6 (ZB hw 78 (Yn (K:=K) rfl (pv 3) rfl) (pv 1) (fun _ _=>rfl)) (pv 2) (ZK _)))) Ze rfl)))),?_⟩;obtain⟨net,es,ep,ln,hN⟩:=ko.net;obtain⟨kn,lk,lv,ek,F4,hk⟩:=ko.knots;obtain⟨rk,oy,oH,lr,hR⟩:=ko.ranks;obtain⟨oY,oU⟩:=ko.ok;have r9:=XI hj;obtain⟨v,ev⟩:∃v,lv[j]?=some v:=⟨_,cR 40⟩;obtain⟨q,qv,rfl,_,hq,nq⟩:=hk j v _ ev r9;have inK:=oY.inK j _ r9;have Gm:qE N (44) j=((44).getD j []).any fun d=>(N d).any fun x=>decide (rkF (44) x=j):=rfl;rw[Gm] at k;generalize hKK:(44).getD j []=KK at k nq inK;have wX:=oY.mem;have KF:∀d∈KK,d∈ZR N bs:=fun d hd=>((inK d).mp hd).1;have lK:KK.length<=12:=by
  have kd:KK.Nodup:=by rw[<- hKK];exact mh (mi (cY r9)) oY.nodup
  have:=ZN kd (fun d hd=>oU.sub d (KF d hd));have:=hN.len;lia
 have wU:=nq.len;refine⟨_,rfl,r,_,dx,_,_,rfl,ko.obj,T.ab,T.af,lk,_,rfl,kn,lv,_,_,rfl,rfl,nH ek,Zn ev,q,rfl,⟨_,nH hq⟩,fun D hD=>?_⟩
 let J1:Nat->L2.St->Hp->Prop:=fun i U H'=>Ex2 fun(z1 z2:69)=>Cj3 (U=[z1,z2,some (.int (j:Int)),qr0 r]) (77) (H' D=some (.lst ((JH N (44) j (KK.take i)).map V.bl)))
 refine YU (J:=Itl K q) (n:=qv.length) J1 ?_ ?_ ?_ ?_ ?_
 ·exact⟨_,_,rfl,Zh hD,Zc⟩
 ·rintro i U H' hi ⟨z1,z2,rfl,s1,_⟩;exact⟨qv,qv[i],nH (s1 _ _ hq),cR hi⟩
 ·rintro U H' ⟨z1,z2,rfl,s1,_⟩;exact⟨qv,nH (s1 _ _ hq),cP _⟩
 ·rintro i x U H1 H2 hi ⟨z1,z2,rfl,s1,eD⟩ ⟨rfl,hx⟩ NN rj;have hx:=hx _ (nH (s1 _ _ hq));obtain⟨d,ed,nx⟩:=(nq.mono (nJ s1)).get hx;have dF:=KF d (cY ed);have oW:KK.take (i+1)=KK.take i++[d]:=by rw[fz,ed];rfl
  obtain⟨l,ws,el,hl,nl⟩:=hN.on (oU.sub d dF);have tJ:=nl.len;have Db:=hN.mono s1;refine⟨_,rfl,r,_,dx,_,_,rfl,s1 _ _ ko.obj,T.ab,T.aq,ln,_,rfl,net,es,ep,κ,d,_,rfl,Db.at_,Db.keys,nx,el,l,rfl,⟨_,nH (s1 _ _ hl)⟩,?_⟩;refine YU (J:=Itl K l) (n:=ws.length) (fun i' U H'=>Ex1 fun(z2:69)=>Cj3 (U=[some x,z2,some (.int (j:Int)),qr0 r]) (77) (H' D=some (.lst ((JH N (44) j (KK.take i)++((N d).take i').map fun x=>decide (rkF (44) x=j)).map V.bl)))) ?_ ?_ ?_ ?_ ?_
  ·exact⟨_,rfl,s1,by simpa using eD⟩
  ·rintro i' U H' oR ⟨uQ,rfl,s2,_⟩;exact⟨ws,ws[i'],nH (s2 _ _ hl),cR oR⟩
  ·rintro U H' ⟨uQ,rfl,s2,_⟩;exact⟨ws,nH (s2 _ _ hl),cP _⟩
  ·rintro i' y U H3 H4 oR ⟨uQ,rfl,s2,EF⟩ ⟨rfl,hy⟩ N2 tP;have hy:=hy _ (nH (s2 _ _ hl));obtain⟨f,ef,ny⟩:=(nl.mono (nJ s2)).get hy;have fF:f∈ZR N bs:=oU.clo d dF f (cY ef);have r6:=hR.mono s2;have GR:(N d).take (i'+1)=(N d).take i'++[f]:=by rw[fz,ef];rfl
   have HN:=Zbq (N:=N) (ks:=44) (j:=j) (ds:=KK.take i) hN.few;rw[dB] at HN;have:=hN.few d;refine⟨_,rfl,r,_,dx,_,_,rfl,s2 _ _ ko.obj,T.ab,T.ai,lr,_,rfl,rk,oy,oH,κ,f,_,rfl,r6.1,r6.2.1,ny,r6.2.2.2 f ((wX f).mpr fF),_,rfl,rfl,_,EF,?_,tP _ _ ⟨_,rfl,Zd.upN s2 hD,?_⟩⟩
   ·rw[cQ,cS,cZ,cS,dB];lia
   ·rw[Zc,GR,eO (l₁:=(N d).take i'),<- gR,eO (l₂:=[f].map _)];have:decide (V.int (rkF (44) f:Int)=V.int (j:Int))=decide (rkF (44) f=j):=by
     rw[decide_eq_decide];exact⟨fun z=>by injection z with z;lia,fun z=>by rw[z]⟩
    rw[this];rfl
  ·rintro U H3 ⟨uQ,rfl,s2,EF⟩;refine rj _ _ ⟨_,_,rfl,s2,?_⟩;rw[oW];unfold JH at EF ⊢;rw[List.flatMap_append,List.flatMap_singleton];rw[tJ,fg] at EF;exact EF
 ·rintro U H1 ⟨z1,z2,rfl,s1,eD⟩;rw[wU,fg] at eD;refine⟨D,_,rfl,nH eD,?_⟩;rw[Q9];exact k _ s1
theorem yu{ys:List V}{f:ND->Bool}(hl:ys.length=ds.length)(h:∀(i:Nat) v d,ys[i]?=some v->ds[i]?=some d->v=.bl (f d)):ys=(ds.map f).map V.bl:=by
 apply iY;intro i;rw[dz,dz];rcases fe i ys.length with hi|hi
 ·have hd:i<ds.length:=by lia
  rw[cR hi,cR hd];exact dt some (h i _ _ (cR hi) (cR hd))
 ·rw[lP hi,lP 40];rfl
theorem Vc{f:ND->Bool}:(ds.map f).any id=ds.any f:=by rw[Ψ];rfl
theorem Ui{k:Nat}(hk:k<n)(h:(ds.any fun d=>(M d).getD k false)=false):Yb M n ds=false:=by
 unfold Yb;rw[List.all_eq_false];exact⟨k,dY.mpr hk,by rw[h];simp⟩
def Jv(K:W.Frag)(a:Adr):Sp:=fun vs H Q _=>jN fun(κ:Nat) (mk l:Addr) (es:NE) (ep:Nat) (M:ND->71) (n:Nat) (ns:37) (lv:List V) (ds:37)=>Cj8 (vs=[.ref mk,.ref l]) (X9 κ a.Pm H mk es ep M n ns) (H l=some (.lst lv)) (NdL κ H lv ds) (ds.length<=3000) (ds≠[]) ((∀d∈ds,d∈ns)) (∀H',77->Q (.bl (Yb M n ds)) H')
theorem zJ{a:Adr}:58 1 a.y4 a.z4 bY Jv:=fun T hw=>by
 refine okX T.aZ.f zL 51;intro X
 let d1:Rdg X W4 [0,0,0]:=⟨_,(Zg (ZZ (Xh (YB (Zl (WU (K:=K) rfl rfl) rfl T.bA nO (@Za _ _ _ _ _ (Xz (Nc:=cH) (ix:=[none,some 2,some 0]) (ZD.of (by left:ZW (Zj W4) ["marks","nodes","number"] _ _ _=true)) rfl (ZF (K:=K) rfl (pv 1)) (fun _ _ _ _ _=>(Zk (i:=0) (show δ cH by left) rfl 34)) (fun _ _ _ _ _=>Z3) (fun _ _ _ _ _=>(ZJ 56 (ZB hw 78 (pv 2) (pv 0) (fun _ _=>rfl)) (pv 1) (fun _ _=>rfl)))) Ze rfl)))) 110 Zt))⟩
 intro vs Q h;obtain⟨κ,mk,l,es,ep,M,n,ns,lv,ds,rfl,hM,hl,nl,ll,oF,dn,k⟩:=h;refine⟨_,(Zb (YS eJ rfl (Xu rfl T.aG (@Za _ _ _ _ _ (Zl 91 rfl T.aA nN (@Za _ _ _ _ _ (ZB hw 78 (pv 0) (ZJ 56 (pv 1) Zi (fun _ _=>rfl)) (fun _ _=>rfl)) Ze rfl)) Ze rfl)) (Zk (i:=2) zL.nd rfl 34) d1.2) 110),?_⟩;have lvl:=nl.len;obtain⟨d,ed⟩:∃d,ds[0]?=some d:=by
  cases ds with
  |nil=>exact oh rfl oF
  |cons d r=>exact⟨d,rfl⟩
 obtain⟨v,ev,nv⟩:=nl.get' ed;have dm:=dn d (cY ed);obtain⟨ml,uH,wf⟩:=hM.on dm;have lm:=hM.len d dm;have fw:=hM.few;refine⟨_,rfl,_,rfl,l,_,_,_,rfl,rfl,nH hl,Zn (j:=0) ev,mk,es,ep,κ,d,_,rfl,hM.at_,hM.keys,nv,uH,.inl ⟨ml,_,rfl,.inl (nH wf),?_⟩⟩;refine⟨_,rfl,by rw[cS];lia,by rw[cS];lia,?_⟩;rw[cS,lm];refine WY (n:=n) (fun i U H'=>Ex1 fun(z:69)=>Cj3 (U=[qr0 mk,qr0 l,z]) (77) (Yb M i ds=true)) ?_ ?_ ?_
 ·exact⟨_,rfl,.refl _,rfl⟩
 ·rintro i U H2 hi ⟨z,rfl,sm,ha⟩;have Av:=hM.mono sm;have Tc:=nl.mono (nJ sm);refine⟨_,rfl,l,rfl,⟨_,nH (sm _ _ hl)⟩,fun D hD=>?_⟩;refine Vw (K:=K) hD (nH (sm _ _ hl)) (by rw[cQ];lia) (fun j v _=>∀e,ds[j]?=some e->v=.bl ((M e).getD i false)) (fun _ _ _ _ _ q=>q) ?_ ?_
  ·intro j x H3 Nx hx s3 wB;obtain⟨e,ee,ne⟩:=Tc.get hx;have ro:=Av.mono s3;have em:=dn e (cY ee);obtain⟨xl,wo,wS⟩:=ro.on em;have lx:=ro.len e em;refine⟨_,rfl,_,rfl,mk,es,ep,κ,e,_,rfl,ro.at_,ro.keys,ne.mono (nJ s3),wo,_,rfl,xl,_,_,.bl ((M e).getD i false),rfl,rfl,nH wS,?_,?_⟩
   ·rw[mj];refine Zn (j:=i) ?_;rw[dz,gH,cR 40];rfl
   ·refine wB _ _ (.refl _) fun e' h'=>?_;rw[ee] at h';cases h';rfl
  ·intro H3 ys sG s3 yl tz;have ey:=yu (f:=fun e=>(M e).getD i false) 40 fun j v e h1 h2=>tz j v h1 e h2;refine⟨D,_,rfl,nH (by rw[sG,ey]),_,rfl,?_⟩;rw[Vc];cases c:ds.any (fun e=>(M e).getD i false) with
   |false=>
    have q:=k _ (sm.trans s3);rw[Ui hi c] at q;exact ZS q
   |true=>
    refine ZH ⟨_,rfl,sm.trans s3,?_⟩;unfold Yb at ha ⊢;rw[lH,List.all_append,ha];simp only[lE,List.all_nil,c];rfl
 ·rintro U H2 ⟨z,rfl,sm,ha⟩;have q:=k _ sm;rw[ha] at q;exact q
def qw(K:W.Frag)(a:Adr):Sp:=fun vs H Q _=>jN fun(κ:Nat) (r dx:Addr) (fs:73) (N:ND->37) (M:ND->71) (n:Nat) (nd bs:37) (j:Nat)=>Cj4 (vs=[.ref r,.int (j:Int)]) (KO κ a.Pm a.C_Knots H r dx fs N M n nd bs) (j<(44).length) (∀H',77->Q (.bl (Wg N M n (44) j)) H')
theorem qA{a:Adr}:58 2 a.y18 a.z18 bL qw:=fun T hw=>by
 refine okF T.au.f qx (113) (by intro _ _ _ _ h;cases h;rename_i h;cases h;subst_vars;rfl);obtain⟨κ,r,dx,fs,N,M,n,nd,bs,j,rfl,ko,hj,k⟩:=h;refine⟨_,(Zg (Zs (Vx (Vf (pv 0) T.ab T.ag.m (WE T hw) (rmL hr rfl) T.ag.n .nil Vn (@Za _ _ _ _ _ (pv 1) Ze rfl)) (Uu (ZV T.aZ (zJ T hw) hr rfl rfl (@Za _ _ _ _ _ 92 (@Za _ _ _ _ _ (ZJ 56 92 (pv 1) (fun _ _=>rfl)) Ze rfl) rfl)))))),?_⟩;obtain⟨kn,lk,lv,ek,F4,hk⟩:=ko.knots;obtain⟨mk,es,ep,lm,hM⟩:=ko.marks;obtain⟨oY,oU⟩:=ko.ok;have r9:=XI hj;obtain⟨v,ev⟩:∃v,lv[j]?=some v:=⟨_,cR 40⟩;obtain⟨q,qv,rfl,_,hq,nq⟩:=hk j v _ ev r9;have inK:=oY.inK j _ r9;have KF:∀d∈(44).getD j [],d∈ZR N bs:=fun d hd=>((inK d).mp hd).1;have lK:((44).getD j []).length<=12:=by
  have kd:((44).getD j []).Nodup:=mh (mi (cY r9)) oY.nodup;have:=ZN kd (fun d hd=>oU.sub d (KF d hd));obtain⟨_,_,_,_,hN⟩:=ko.net;have:=hN.len;lia
 have oF:=oY.ne _ (cY r9);refine⟨_,rfl,r,dx,fs,rfl,ko.obj,ko.no "is_linked" 39,_,rfl,κ,r,dx,fs,N,M,n,nd,bs,j,rfl,ko,hj,fun H1 s1=>?_⟩;have er:Wg N M n (44) j=(qE N (44) j&&Yb M n ((44).getD j [])):=rfl;refine⟨_,rfl,?_⟩;cases c:qE N (44) j with
 |false=>
  refine ZH ?_;have:=k H1 s1;rw[er,c,gu] at this;exact this
 |true=>
  refine ZS ⟨_,rfl,r,_,dx,_,_,rfl,s1 _ _ ko.obj,T.ab,T.ah,lm,_,rfl,r,_,dx,_,_,rfl,s1 _ _ ko.obj,T.ab,T.af,lk,_,rfl,kn,lv,_,_,rfl,rfl,nH (s1 _ _ ek),Zn ev,κ,mk,q,es,ep,M,n,nd,qv,_,rfl,hM.mono s1,s1 _ _ hq,nq.mono (nJ s1),by lia,oF,fun d hd=>oU.sub d (KF d hd),fun H2 s2=>?_⟩;have:=k H2 (s1.trans s2);rw[er,c,g9] at this;exact this
theorem kF1(v1:V):X2 "net" v1 []=([("net",v1)]:73):=by simp[X2]
theorem kF2(v1 v2:V):X2 "marks" v2 ([("net",v1)]:73)=([("net",v1),("marks",v2)]:73):=by simp only[X2,n8 (by left:¬(("net" : Str) = "marks"))]
theorem kF3(v1 v2 v3:V):X2 "knots" v3 ([("net",v1),("marks",v2)]:73)=([("net",v1),("marks",v2),("knots",v3)]:73):=by simp only[X2,n8 (by left:¬(("net" : Str) = "knots")),n8 (by left:¬(("marks" : Str) = "knots"))]
theorem kF4(v1 v2 v3 v4:V):X2 "ranks" v4 ([("net",v1),("marks",v2),("knots",v3)]:73)=([("net",v1),("marks",v2),("knots",v3),("ranks",v4)]:73):=by simp only[X2,n8 (by left:¬(("net" : Str) = "ranks")),n8 (by left:¬(("marks" : Str) = "ranks")),n8 (by left:¬(("knots" : Str) = "ranks"))]
theorem kF5(v1 v2 v3 v4 v5:V):X2 "goals" v5 ([("net",v1),("marks",v2),("knots",v3),("ranks",v4)]:73)=([("net",v1),("marks",v2),("knots",v3),("ranks",v4),("goals",v5)]:73):=by simp only[X2,n8 (by left:¬(("net" : Str) = "goals")),n8 (by left:¬(("marks" : Str) = "goals")),n8 (by left:¬(("knots" : Str) = "goals")),n8 (by left:¬(("ranks" : Str) = "goals"))]
theorem kL3(v1 v2 v3:V):([("net",v1),("marks",v2),("knots",v3)]:73).lookup ("knots" : Str)=some v3:=by
 simp only[ε,(by left:(("knots" : Str) == "net")=false),(by left:(("knots" : Str) == "marks")=false),(by left:(("knots" : Str) == "knots")=true)]
theorem kLn(v1:V)(t:73):ε ("net" : Str) (("net",v1)::t)=some v1:=by
 simp only[ε,(by left:(("net" : Str) == "net")=true)]
theorem kLm(v1 v2:V)(t:73):ε ("marks" : Str) (("net",v1)::("marks",v2)::t)=some v2:=by
 simp only[ε,(by left:(("marks" : Str) == "net")=false),(by left:(("marks" : Str) == "marks")=true)]
theorem kLk(v1 v2 v3:V)(t:73):ε ("knots" : Str) (("net",v1)::("marks",v2)::("knots",v3)::t)=some v3:=by
 simp only[ε,(by left:(("knots" : Str) == "net")=false),(by left:(("knots" : Str) == "marks")=false),(by left:(("knots" : Str) == "knots")=true)]
theorem kLr(v1 v2 v3 v4:V)(t:73):ε ("ranks" : Str) (("net",v1)::("marks",v2)::("knots",v3)::("ranks",v4)::t)=some v4:=by
 simp only[ε,(by left:(("ranks" : Str) == "net")=false),(by left:(("ranks" : Str) == "marks")=false),(by left:(("ranks" : Str) == "knots")=false),(by left:(("ranks" : Str) == "ranks")=true)]
theorem kLg(v1 v2 v3 v4 v5:V):ε ("goals" : Str) ([("net",v1),("marks",v2),("knots",v3),("ranks",v4),("goals",v5)]:73)=some v5:=by
 simp only[ε,(by left:(("goals" : Str) == "net")=false),(by left:(("goals" : Str) == "marks")=false),(by left:(("goals" : Str) == "knots")=false),(by left:(("goals" : Str) == "ranks")=false),(by left:(("goals" : Str) == "goals")=true)]
theorem ZeG(v1 v2 v3 v4:V):noK [("net",v1),("marks",v2),("knots",v3),("ranks",v4)]:=fun m hm=>by
 have q:∀m∈(["is_linked","is_ring","lack_of","loop_from","ring_from","ranks_from"]:54),(m == "net")=false/\(m == "marks")=false/\(m == "knots")=false/\(m == "ranks")=false:=by left
 obtain⟨q1,q2,q3,q4⟩:=q m hm;simp only[ε,q1,q2,q3,q4]
theorem noK5(v1 v2 v3 v4 v5:V):noK [("net",v1),("marks",v2),("knots",v3),("ranks",v4),("goals",v5)]:=fun m hm=>by
 have q:∀m∈(["is_linked","is_ring","lack_of","loop_from","ring_from","ranks_from"]:54),(m == "net")=false/\(m == "marks")=false/\(m == "knots")=false/\(m == "ranks")=false/\(m == "goals")=false:=by left
 obtain⟨q1,q2,q3,q4,q5⟩:=q m hm;simp only[ε,q1,q2,q3,q4,q5]
def RkP(κ:Nat)(Pm:Params)(H:Hp)(D:Addr)(ds:37)(f:ND->V):Prop:=∃es ep,H D=some (DeO Pm D es ep)/\(∀e∈es,96)/\es.map (·.1)=ds/\∀d∈ds,ZU es d=some (f d)
theorem RkP.nil{f:ND->V}(h:H D=some (DeO Pm D [] ep)):RkP κ Pm H D [] f:=⟨[],ep,h,fun _ q=>(by cases q),rfl,fun _ q=>(by cases q)⟩
theorem RkP.mono{κ:Nat}{Pm:Params}{H H':Hp}{D:Addr}{ds:37}{f:ND->V}(s:77)(h:RkP κ Pm H D ds f):RkP κ Pm H' D ds f:=let ⟨es,ep,a,b,c⟩:=h; ⟨es,ep,s _ _ a,fun e he=>(b e he).mono (nJ s),c⟩
theorem RkP.put{f:ND->V}(h1:H D=some (DeO Pm D es ep))(h2:∀e∈es,96)(h3:es.map (·.1)=ds)(h4:∀d∈ds,ZU es d=some (f d)){y:V}(hv:v=f d)(nd:d∉ds)(hy:Nd κ H y d):RkP κ Pm (upd H D (DeO Pm D (ZI es d y v) ep')) D (ds++[d]) f:=by
 subst hv;have u:=YN (o:=DeO Pm D (ZI es d y (f d)) ep') h1 (fun _ z=>by cases z);refine⟨_,ep',Zc,fun e he=>?_,by rw[Ws,n8 (by rw[h3];exact nd),h3],fun x hx=>?_⟩
 ·rcases Xw he with q|rfl|⟨z,hz,e1,rfl⟩
  ·exact(h2 e q).mono u
  ·exact hy.mono u
  ·exact(h2 z hz).mono u
 ·rw[XM]
  by_cases c:x=d
  ·rw[og c,c]
  ·rw[n8 c];rcases db.mp hx with q|q
   ·exact h4 x q
   ·exact oh (df.mp q) c
theorem Wt{i:Nat}{K:37}(e:ks[i]?=some K):(ks.take (i+1)).flatten=(ks.take i).flatten++K:=by
 rw[fz,e,mm];simp
theorem VN{i i':Nat}{K:37}(h:ks.flatten.Nodup)(e:ks[i]?=some K)(ed:K[i']?=some d):d∉(ks.take i).flatten++K.take i':=by
 have e1:ks.flatten=((ks.take i).flatten++K)++(ks.drop (i+1)).flatten:=by
  rw[<- Wt e,<- mm,iw]
 have lt:=(dk.mp ed).1;have e2:K=K.take i'++d::K.drop (i'+1):=by
  have:=iw i' K;rw[i8 lt,(dk.mp ed).2] at this;exact this.symm
 have n1:((ks.take i).flatten++K).Nodup:=by rw[e1] at h;exact(fy.mp h).1
 rw[e2,<- gR,fy] at n1;intro q;exact n1.2.2 d q d 39 rfl
def KG(κ:Nat)(Pm:Params)(C:Addr)(H:Hp)(r dx:Addr)(fs:73)(N:ND->37)(M:ND->71)(n:Nat)(nd bs:37):Prop:=
 KO κ Pm C H r dx fs N M n nd bs/\∃g,fs.lookup ("goals" : Str)=some (.ref g)/\RkP κ Pm H g (qg N M n (44)) fun _=>.bl true
def xz(K:W.Frag)(a:Adr):Sp:=fun vs H Q _=>Zep fun(κ:Nat) (r dx net mk b:Addr) (H0:Hp) (es oq:NE) (ep oE:Nat) (N:ND->37) (M:ND->71) (n:Nat) (nd:37) (bv:List V) (bs:37)=>Qn (vs=[.ref r,.ref net,.ref mk,.ref b]) (H0 r=none) (Zd H0 H) (H r=some (.ins a.C_Knots dx [])) (Wi κ a.Pm H0 net es ep N nd) (X9 κ a.Pm H0 mk oq oE M n nd) (H0 b=some (.lst bv)) (NdL κ H0 bv bs) ((∀d∈bs,d∈nd)) (bs.length<=1000) (∀H' fs,Zd H0 H'->KG κ a.Pm a.C_Knots H' r dx fs N M n nd bs->Q .non H')
theorem xE{a:Adr}:58 3 a.y16 a.z16 bZ xz:=fun T hw=>by
 refine okX T.aP.f xw 51;intro X
 let d1:Rdg X Ys [4]:=⟨_,(Zg (ya (pv 0) (yP (Nc:=bO) (ix:=[none,none,none,some 0]) (ZD.of (by left:ZW (Zj Ys) ["self","net","marks","begins"] _ _ _=true)) hw 78 rfl (j4 (K:=K) rfl rfl T.aW (@Za _ _ _ _ _ 92 Ze rfl)) (fun _ _ _ _ _=>(WK (K:=K) (n:=2) rfl rfl (Yc (Zk (i:=0) (show δ bO by left) rfl 34) (Yc (Zk (i:=1) (show δ bO by left) rfl 34) WM)))) (fun _ _ _ _ _=>(U5 (YB (Vf (pv 3) T.ab T.au.m (qA T hw) (rmL hr rfl) T.au.n .nil Vn (@Za _ _ _ _ _ (pv 0) Ze rfl))))) (fun _ _ _ _ _=>(ZF (K:=K) rfl (pv 1))) (fun _ _ _ _ _=>(Zk (i:=2) (show δ bO by left) rfl 34)) (fun _ _ _ _ _=>Z3) (fun _ _ _ _ _=>(pv 2)) (fun _ _ _ _ _=>YI)) rfl))⟩
 let d2:Rdg X Ys [3]:=⟨_,(Zb (ya (pv 0) (yP (Nc:=bP) (ix:=[none,none,none]) (ZD.of (by left:ZW (Zj Ys) ["self","net","marks","begins"] _ _ _=true)) hw 78 rfl (j4 (K:=K) rfl rfl T.aW (@Za _ _ _ _ _ 92 Ze rfl)) (fun _ _ _ _ _=>(WK (K:=K) (n:=2) rfl rfl (Yc (Zk (i:=0) (show δ bP by left) rfl 34) (Yc (Zk (i:=1) (show δ bP by left) rfl 34) WM)))) (fun _ _ _ _ _=>Z3) (fun _ _ _ _ _=>(ZF (K:=K) rfl (pv 1))) (fun _ _ _ _ _=>(Zk (i:=2) (show δ bP by left) rfl 34)) (fun _ _ _ _ _=>Z3) (fun _ _ _ _ _=>(pv 2)) (fun _ _ _ _ _=>(pv 0))) rfl) d1.2)⟩
 let d3:Rdg X Ys [2]:=⟨_,(Zb (ya (pv 0) (ZV T.ba (k5 T hw) hr rfl rfl (@Za _ _ _ _ _ (pv 1) (@Za _ _ _ _ _ (pv 3) Ze rfl) rfl)) rfl) d2.2)⟩
 let d4:Rdg X Ys [1]:=⟨_,(Zb (ya (pv 0) (pv 2) rfl) d3.2)⟩
 intro vs Q h;obtain⟨κ,r,dx,net,mk,b,H0,es,oq,ep,oE,N,M,n,nd,bv,bs,rfl,sg,s0,Nk,hN,hM,hb,nb,bn,lb,k⟩:=h;refine⟨_,(Zb (ya (pv 0) (pv 1) rfl) d4.2),?_⟩;have oY:=Wp hN.sub bn;have oU:=(XD hN.sub bn).1;have rJ:=hN.len;have lF:=ZN oU.nodup oU.sub;refine⟨_,rfl,_,rfl,r,_,dx,[],rfl,Nk,T.ab,T.aq,by left,?_⟩;rw[kF1];have s1:Zd H0 (upd H r (.ins a.C_Knots dx [118])):=Zd.upN s0 sg;have py:(upd H r (.ins a.C_Knots dx [118])) r=_:=Zc;generalize upd H r (.ins a.C_Knots dx [118])=H1 at s1 py ⊢;refine⟨_,rfl,_,rfl,r,_,dx,_,rfl,py,T.ab,T.ah,by simp,?_⟩;rw[kF2];have s2:Zd H0 (upd H1 r (.ins a.C_Knots dx [118,("marks",.ref mk)])):=Zd.upN s1 sg;have tz:(upd H1 r (.ins a.C_Knots dx [118,("marks",.ref mk)])) r=_:=Zc;generalize upd H1 r (.ins a.C_Knots dx [118,("marks",.ref mk)])=H2 at s2 tz ⊢;refine⟨_,rfl,_,rfl,κ,net,b,es,ep,N,nd,bv,bs,rfl,hN.mono s2,s2 _ _ hb,nb.mono (nJ s2),bn,lb,fun H3 kn s3 Fi ek=>?_⟩;refine⟨_,rfl,r,_,dx,_,rfl,s3 _ _ tz,T.ab,T.af,by simp,?_⟩;rw[kF3];have GY:r≠kn:=fun z=>by rw[<- z,tz] at Fi;cases Fi
 have s4:Zd H0 (upd H3 r (.ins a.C_Knots dx [118,("marks",.ref mk),("knots",.ref kn)])):=Zd.upN (s2.trans s3) sg;have Aw:(upd H3 r (.ins a.C_Knots dx [118,("marks",.ref mk),("knots",.ref kn)])) r=_:=Zc;have E9:Wh κ [r] (upd H3 r (.ins a.C_Knots dx [118,("marks",.ref mk),("knots",.ref kn)])) kn (44):=by
  have:Wh κ [r] H3 kn (44):=by
   obtain⟨lv,h1,h2,h3⟩:=ek;refine⟨lv,h1,h2,fun i v K' a1 a2=>?_⟩;obtain⟨q,qv,c1,_,c3,c4⟩:=h3 i v K' a1 a2;refine⟨q,qv,c1,fun z=>?_,c3,c4⟩;rw[df] at z;rw[z,s3 _ _ tz] at c3;cases c3
  refine this.keep (fun q o nq e=>by rw[upd_ne (fun z:q=r=>nq (by rw[z];simp))];exact e) (upd_ne GY.symm) (YN (s3 _ _ tz) (fun _ z=>by cases z))
 generalize upd H3 r (.ins a.C_Knots dx [118,("marks",.ref mk),("knots",.ref kn)])=H4 at s4 Aw E9 ⊢;clear ek s3 Fi tz s2 py s1 Nk s0;obtain⟨lv,tS,AI,Fh⟩:=id E9;have oM:∀x∈(44).flatten,x∈ZR N bs:=fun x hx=>(oY.mem x).mp hx;have Es:∀ds:37,ds.Nodup->(∀d∈ds,d∈ZR N bs)->ds.length<=12:=fun ds h1 h2=>by
  have:=ZN h1 h2;lia
 refine⟨_,rfl,r,_,dx,_,_,rfl,Aw,T.ab,T.af,kL3 _ _ _,kn,_,rfl,.inl tS,fun D hD=>?_⟩;have NP:r≠D:=fun z=>by rw[<- z,Aw] at hD;cases hD
 let J1:Nat->L2.St->Hp->Prop:=fun i U H'=>Ex3 fun(z0 z1 z2:69)=>Cj3 (U=[z0,z1,z2]) (Zd H4 H') (RkP κ a.Pm H' D ((44).take i).flatten fun d=>.int (rkF (44) d:Int))
 refine YU (J:=Ite K kn) (n:=lv.length) J1 ?_ ?_ ?_ ?_ ?_
 ·exact⟨_,_,_,rfl,Zh hD,RkP.nil Zc⟩
 ·rintro i U H' hi ⟨z0,z1,z2,rfl,s5,_⟩;exact⟨lv,lv[i],nH (s5 _ _ tS),cR hi⟩
 ·rintro U H' ⟨z0,z1,z2,rfl,s5,_⟩;exact⟨lv,nH (s5 _ _ tS),cP _⟩
 ·rintro i x U H5 H6 hi ⟨z0,z1,z2,rfl,s5,rp⟩ ⟨p,v,rfl,hp,rfl,hv⟩ NN rj;have hv:=hv _ (nH (s5 _ _ tS));obtain⟨Ki,t5⟩:∃Ki,(44)[i]?=some Ki:=⟨_,cR 40⟩;obtain⟨q,qv,rfl,_,hq,nq⟩:=Fh i v Ki hv t5;have inK:=oY.inK i Ki t5;have s6:=Zh (o:=.tup [.int (i:Int),.ref q]) hp;have tV:=s5.trans s6;have Sv:=nq.mono (nJ tV);have eP:(upd H5 p (.tup [.int (i:Int),.ref q])) p=some (.tup [.int (i:Int),.ref q]):=Zc;have AV:=rp.mono s6;generalize upd H5 p (.tup [.int (i:Int),.ref q])=H6 at s6 tV Sv eP AV ⊢;refine⟨p,_,rfl,SqT.of eP,rfl,_,_,rfl,_,_,rfl,rfl,?_⟩;refine⟨_,rfl,q,rfl,⟨_,nH (tV _ _ hq)⟩,?_⟩;have wU:=nq.len;refine YU (J:=Itl K q) (n:=qv.length) (fun i' U H'=>Ex1 fun(z2:69)=>Cj3 (U=[some (.int (i:Int)),qr0 q,z2]) (Zd H4 H') (RkP κ a.Pm H' D (((44).take i).flatten++Ki.take i') fun d=>.int (rkF (44) d:Int))) ?_ ?_ ?_ ?_ ?_
  ·exact⟨_,rfl,tV,by simpa using AV⟩
  ·rintro i' U H' oR ⟨uQ,rfl,s7,_⟩;exact⟨qv,qv[i'],nH (s7 _ _ hq),cR oR⟩
  ·rintro U H' ⟨uQ,rfl,s7,_⟩;exact⟨qv,nH (s7 _ _ hq),cP _⟩
  ·rintro i' y U H7 H8 oR ⟨uQ,rfl,s7,wD⟩ ⟨rfl,hy⟩ N2 tP;have hy:=hy _ (nH (s7 _ _ hq));obtain⟨d,ed,ny⟩:=(nq.mono (nJ s7)).get hy;have oW:Ki.take (i'+1)=Ki.take i'++[d]:=by rw[fz,ed];rfl
   have dn:=VN oY.nodup t5 ed;have rkd:=((inK d).mp (cY ed)).2;obtain⟨Co,FP,h1,h2,h3,h4⟩:=wD;have fl:Co.length<=12:=by
    have e1:((44).take (i+1)).flatten=_:=Wt t5;have n1:(((44).take i).flatten++Ki).Nodup:=by
     rw[<- e1];have e2:(44).flatten=((44).take (i+1)).flatten++((44).drop (i+1)).flatten:=by rw[<- mm,iw]
     have:=oY.nodup;rw[e2] at this;exact(fy.mp this).1
    have:=Es _ n1 fun d hd=>oM d (by
     have e2:(44).flatten=((44).take (i+1)).flatten++((44).drop (i+1)).flatten:=by rw[<- mm,iw]
     rw[e2,e1];exact dN _ hd)
    have l3:=dt ζ h3;rw[cS,cZ,dB] at l3;rw[cZ] at this;lia
   refine⟨_,rfl,_,rfl,Co,FP,κ,d,h1,h2,ny,by rw[cQ];lia,fun sN=>tP _ _ ⟨_,rfl,Zd.upN s7 hD,?_⟩⟩;rw[oW,<- gR];exact RkP.put h1 h2 h3 h4 (by rw[rkd]) dn ny
  ·rintro U H7 ⟨uQ,rfl,s7,wD⟩;refine rj _ _ ⟨_,_,_,rfl,s7,?_⟩;rw[Wt t5];rw[wU,fg] at wD;exact wD
 rintro U H5 ⟨z0,z1,z2,rfl,s5,rp⟩;rw[AI,fg] at rp;refine⟨_,rfl,r,_,dx,_,rfl,s5 _ _ Aw,T.ab,T.ai,by simp,?_⟩;rw[kF4];have u6:=YN (o:=.ins a.C_Knots dx [118,("marks",.ref mk),("knots",.ref kn),("ranks",.ref D)]) (s5 _ _ Aw) (fun _ z=>by cases z);have s6:Zd H0 85:=Zd.upN (s4.trans s5) sg;have uY:85 r=_:=Zc;have Ft:Wh κ [r] 85 kn (44):=(E9.mono s5).keep (fun q o nq e=>by rw[upd_ne (fun z:q=r=>nq (by rw[z];simp))];exact e) (upd_ne GY.symm) u6;have AV:∃oy oH,Zbm κ a.Pm 85 D oy oH (44):=by
  obtain⟨oy,oH,h1,h2,h3,h4⟩:=rp;exact⟨oy,oH,(upd_ne NP.symm).trans h1,fun e he=>(h2 e he).mono u6,h3,h4⟩
 generalize upd H5 r (.ins a.C_Knots dx [118,("marks",.ref mk),("knots",.ref kn),("ranks",.ref D)])=H6 at s6 uY Ft AV ⊢;clear u6 rp s5 Fh tS E9 Aw s4;obtain⟨oy,oH,hR⟩:=AV;have Ru:Wh κ [] H6 kn (44):=by
  obtain⟨lv,h1,h2,h3⟩:=Ft;exact⟨lv,h1,h2,fun i v K' a1 a2=>let ⟨q,qv,c1,_,c⟩:=h3 i v K' a1 a2; ⟨q,qv,c1,by simp,c⟩⟩
 have ko:KO κ a.Pm a.C_Knots H6 r dx [118,("marks",.ref mk),("knots",.ref kn),("ranks",.ref D)] N M n nd bs:=
  ⟨uY,ZeG _ _ _ _,⟨net,es,ep,kLn _ _,hN.mono s6⟩,⟨mk,oq,oE,kLm _ _ _,hM.mono s6⟩,⟨kn,kLk _ _ _ _,Ru⟩,⟨D,oy,oH,kLr _ _ _ _ _,hR⟩,bn⟩
 obtain⟨lv,tS,AI,Fh⟩:=id Ft;refine⟨_,rfl,r,_,dx,_,_,rfl,uY,T.ab,T.af,kLk _ _ _ _,kn,_,rfl,.inl tS,fun G hG=>?_⟩;have R7:r≠G:=fun z=>by rw[<- z,uY] at hG;cases hG
 let J2:Nat->L2.St->Hp->Prop:=fun i U H'=>Ex3 fun(z0 z1 z2:69)=>Cj3 (U=[z0,z1,z2,qr0 r]) (Zd H6 H') (RkP κ a.Pm H' G (((44).take i).flatten.filter fun d=>Wg N M n (44) (83)) fun _=>.bl true)
 refine YU (J:=Ite K kn) (n:=lv.length) J2 ?_ ?_ ?_ ?_ ?_
 ·exact⟨_,_,_,rfl,Zh hG,RkP.nil Zc⟩
 ·rintro i U H' hi ⟨z0,z1,z2,rfl,s5,_⟩;exact⟨lv,lv[i],nH (s5 _ _ tS),cR hi⟩
 ·rintro U H' ⟨z0,z1,z2,rfl,s5,_⟩;exact⟨lv,nH (s5 _ _ tS),cP _⟩
 ·rintro i x U H5 H7' hi ⟨z0,z1,z2,rfl,s5,rp⟩ ⟨p,v,rfl,hp,rfl,hv⟩ NN rj;have hv:=hv _ (nH (s5 _ _ tS));have Nl:i<(44).length:=by lia
  obtain⟨Ki,t5⟩:∃Ki,(44)[i]?=some Ki:=⟨_,cR Nl⟩;obtain⟨q,qv,rfl,_,hq,nq⟩:=Fh i v Ki hv t5;have inK:=oY.inK i Ki t5;have F9:=Zh (o:=.tup [.int (i:Int),.ref q]) hp;have tV:=s5.trans F9;have eP:(upd H5 p (.tup [.int (i:Int),.ref q])) p=some (.tup [.int (i:Int),.ref q]):=Zc;have AV:=rp.mono F9;generalize upd H5 p (.tup [.int (i:Int),.ref q])=H7 at F9 tV eP AV ⊢;refine⟨p,_,rfl,SqT.of eP,rfl,_,_,rfl,_,_,rfl,rfl,?_⟩;refine⟨_,rfl,r,dx,_,rfl,tV _ _ uY,ZeG _ _ _ _ "is_ring" 39,_,rfl,κ,r,dx,_,N,M,n,nd,bs,i,rfl,ko.mono tV,Nl,fun H8 s8=>⟨_,rfl,?_⟩⟩;have ES:=tV.trans s8;have Oi:=AV.mono s8;have nq8:=nq.mono (nJ ES);cases c:Wg N M n (44) i with
  |false=>
   refine ZH (rj _ _ ⟨_,_,_,rfl,ES,?_⟩);have kf:(Ki.filter fun d=>Wg N M n (44) (83))=[]:=nC.mpr fun d hd=>by rw[((inK d).mp hd).2,c];simp
   rw[Wt t5,iK,kf,gp];exact Oi
  |true=>
   refine ZS ⟨_,rfl,q,rfl,⟨_,nH (ES _ _ hq)⟩,?_⟩;have wU:=nq.len;refine YU (J:=Itl K q) (n:=qv.length) (fun i' U H'=>Ex1 fun(z2:69)=>Cj3 (U=[some (.int (i:Int)),qr0 q,z2,qr0 r]) (Zd H6 H') (RkP κ a.Pm H' G ((((44).take i).flatten.filter fun d=>Wg N M n (44) (83))++Ki.take i') fun _=>.bl true)) ?_ ?_ ?_ ?_ ?_
   ·exact⟨_,rfl,ES,by simpa using Oi⟩
   ·rintro i' U H' oR ⟨uQ,rfl,s7,_⟩;exact⟨qv,qv[i'],nH (s7 _ _ hq),cR oR⟩
   ·rintro U H' ⟨uQ,rfl,s7,_⟩;exact⟨qv,nH (s7 _ _ hq),cP _⟩
   ·rintro i' y U H9 rX oR ⟨uQ,rfl,s7,wD⟩ ⟨rfl,hy⟩ N2 tP;have hy:=hy _ (nH (s7 _ _ hq));obtain⟨d,ed,ny⟩:=(nq.mono (nJ s7)).get hy;have oW:Ki.take (i'+1)=Ki.take i'++[d]:=by rw[fz,ed];rfl
    have dn:=VN oY.nodup t5 ed;have Pn:d∉(((44).take i).flatten.filter fun d=>Wg N M n (44) (83))++Ki.take i':=fun z=>dn (by
     rcases db.mp z with z|z
     ·exact dN _ (fA.mp z).1
     ·exact fb _ z)
    obtain⟨Co,FP,h1,h2,h3,h4⟩:=wD;have fl:Co.length<=12:=by
     have e1:((44).take (i+1)).flatten=_:=Wt t5;have e2:(44).flatten=((44).take (i+1)).flatten++((44).drop (i+1)).flatten:=by rw[<- mm,iw]
     have n1:(((44).take i).flatten++Ki).Nodup:=by
      rw[<- e1];have:=oY.nodup;rw[e2] at this;exact(fy.mp this).1
     have:=Es _ n1 fun d hd=>oM d (by rw[e2,e1];exact dN _ hd);have l3:=dt ζ h3;have l4:=hV (fun d=>Wg N M n (44) (83)) ((44).take i).flatten;rw[cS,cZ,dB] at l3;rw[cZ] at this;lia
    refine⟨_,rfl,Co,FP,κ,d,h1,h2,ny,by rw[cQ];lia,fun sN=>tP _ _ ⟨_,rfl,Zd.upN s7 hG,?_⟩⟩;rw[oW,<- gR];exact RkP.put h1 h2 h3 h4 rfl Pn ny
   ·rintro U H9 ⟨uQ,rfl,s7,wD⟩;refine rj _ _ ⟨_,_,_,rfl,s7,?_⟩;have kf:(Ki.filter fun d=>Wg N M n (44) (83))=Ki:=List.filter_eq_self.mpr fun d hd=>by rw[((inK d).mp hd).2,c]
    rw[Wt t5,iK,kf];rw[wU,fg] at wD;exact wD
 rintro U H5 ⟨z0,z1,z2,rfl,s5,rp⟩;rw[AI,fg] at rp;refine⟨_,rfl,r,_,dx,_,rfl,s5 _ _ uY,T.ab,T.aH,by simp,?_⟩;rw[kF5];have u9:=YN (o:=.ins a.C_Knots dx [118,("marks",.ref mk),("knots",.ref kn),("ranks",.ref D),("goals",.ref G)]) (s5 _ _ uY) (fun _ z=>by cases z);have s9:Zd H0 76:=Zd.upN (s6.trans s5) sg;have OT:76 r=_:=Zc;have Sr:Wh κ [r] 76 kn (44):=(Ft.mono s5).keep (fun q o nq e=>by rw[upd_ne (fun z:q=r=>nq (by rw[z];simp))];exact e) (upd_ne GY.symm) u9;have Ie:Wh κ [] 76 kn (44):=by
  obtain⟨lv,h1,h2,h3⟩:=Sr;exact⟨lv,h1,h2,fun i v K' a1 a2=>let ⟨q,qv,c1,_,c⟩:=h3 i v K' a1 a2; ⟨q,qv,c1,by simp,c⟩⟩
 have uo:=hR.mono s5;obtain⟨sr,rH,g1,g2,g3,g4⟩:=rp;exact k _ _ s9 ⟨⟨OT,noK5 _ _ _ _ _,⟨net,es,ep,kLn _ _,hN.mono s9⟩,⟨mk,oq,oE,kLm _ _ _,hM.mono s9⟩,⟨kn,kLk _ _ _ _,Ie⟩,⟨D,oy,oH,kLr _ _ _ _ _,(upd_ne NP.symm).trans uo.1,fun e he=>(uo.2.1 e he).mono u9,uo.2.2⟩,bn⟩,G,kLg _ _ _ _ _,sr,rH,(upd_ne R7.symm).trans g1,fun e he=>(g2 e he).mono u9,g3,g4⟩
def zc(K:W.Frag)(a:Adr):Sp:=fun vs H Q _=>Ex3 fun(p:Addr) (ns:70) (j:Nat)=>Cj3 (vs=[.ref p,.int (j:Int)]) (SqL K H p (ns.map V.int)) (∀n:Int,Q (.int n) H)
theorem Vp{a:Adr}:58 1 a.y23 a.z23 b8 zc:=fun T hw=>by
 refine okF T.az.f zn (113) (by intro _ _ _ _ h;cases h;rename_i h;cases h;subst_vars;rfl);obtain⟨p,ns,j,rfl,hq,k⟩:=h;refine⟨_,(Zb (ZZ (Zy vO (pv 1) (Zl 91 rfl T.aA nN (@Za _ _ _ _ _ (pv 0) Ze rfl)) (ZK _)) (Zg (Zs (ZJ 56 (pv 0) (pv 1) (fun _ _=>rfl)))) Zt) (Zg (Zs Zi))),?_⟩;refine⟨_,rfl,_,rfl,.inl ⟨p,_,rfl,.inl hq,_,_,rfl,rfl,_,rfl,?_⟩⟩;refine yj (fun c=>?_) (fun _=>k 0);have hj:j<ns.length:=by have:=dE c;rw[cS] at this;lia
 exact⟨_,rfl,_,rfl,p,_,_,_,rfl,rfl,hq,Zn (j:=j) (by rw[dz,cR hj];rfl),k _⟩
def xp(K:W.Frag)(a:Adr):Sp:=fun vs H Q _=>Ex2 fun(c:Int) (m:Nat)=>Cj3 (vs=[.int c,.int (m:Int)]) (m<=1000) (∀H' p (ns:70),77->H p=none->H' p=79->Q (.ref p) H')
theorem Ud{a:Adr}:58 1 a.y24 a.z24 b9 xp:=fun T hw=>by
 refine okX T.aC.f Y4 51;intro X
 let d1:Rdg X Z7 [2,0,0,0,0]:=⟨_,(Zb (@Y8 _ _ _ _ (Wk fJ gk gm Yg (pv 2) (@Za _ _ _ _ _ (Yd Wd (pv 3) (Yd Q1 Zi Zi)) Ze rfl)) rfl) (Zg (@Zo _ _ (3) _ _ _ _ Y4.nd rfl 34 (Yd WO (pv 3) (Yd Q1 Zi Zi)) rfl (.inl rfl))))⟩
 let d2:Rdg X Z7 [2,0,0]:=⟨_,(Zg (X7 eJ (PW.pt (VC (Zy Kq (pv 3) Zi (ZK _)) (WN (Zy vO (Zl 91 rfl T.aA nN (@Za _ _ _ _ _ (pv 2) Ze rfl)) (pv 1) (ZK _))))) d1.2))⟩
 let d3:Rdg X Z7 [4,0,1]:=⟨_,(Zg (@Y8 _ _ _ _ (Wk fJ gk gm Yg (pv 2) (@Za _ _ _ _ _ (Yd Wd (Yd Za0 (pv 4) (Yd yW (Yd WO (pv 4) Zi) Zi)) Zi) Ze rfl)) rfl))⟩
 let d4:Rdg X Z7 [4,0,0]:=⟨_,(Zb (@Zo _ _ (4) _ _ _ _ Y4.nd rfl 34 (Yd Wd (Yd Za0 (Yd yW (pv 4) Zi) Zi) Zi) rfl (.inl rfl)) d3.2)⟩
 let d5:Rdg X Z7 [4]:=⟨_,(Zb (X7 eJ (Zy vO (Zl 91 rfl T.aA nN (@Za _ _ _ _ _ (pv 2) Ze rfl)) (pv 1) (ZK _)) d4.2) (Zg (Zs (pv 2))))⟩
 let d6:Rdg X Z7 [3]:=⟨_,(Zb (@Zo _ _ (4) _ _ _ _ Y4.nd rfl 34 (Yd Wd (Yd yW (pv 0) Zi) Zi) rfl (.inl rfl)) d5.2)⟩
 let d7:Rdg X Z7 [2]:=⟨_,(Zb (ZZ (Zy W6 (Yd Wd (pv 0) Zi) Zi (ZK _)) d2.2 Zt) d6.2)⟩
 let d8:Rdg X Z7 [1]:=⟨_,(Zb (@Zo _ _ (3) _ _ _ _ Y4.nd rfl 34 (Yd WO (pv 0) Zi) rfl (.inl rfl)) d7.2)⟩
 intro vs Q h;obtain⟨c,m,rfl,hm,k⟩:=h;refine⟨_,(Zb (@Zo _ _ (2) _ _ _ _ Y4.nd rfl 34 (Yq Ze) rfl (.inl rfl)) d8.2),?_⟩;refine⟨by left,fun D hD=>?_⟩;refine⟨_,rfl,_,_,rfl,rfl,⟨by left,by left⟩,?_⟩;refine⟨_,rfl,_,_,rfl,rfl,by simp,rfl,_,rfl,yj (fun c0=>?lp) (fun c0=>?odd)⟩
 case odd=>
  clear c0;have h1:(upd H D (.lst [])) D=some (.lst (([]:70).map V.int)):=Zc;have s1:Zd H (upd H D (.lst [])):=Zh hD;have hl:([]:70).length<=m:=dH _;generalize upd H D (.lst [])=H1 at h1 s1 ⊢;generalize ([]:70)=ns at h1 hl
  show Zch _ _ _ [some (.int c),some (.int m),qr0 D,some (.int (c/2)),none] H1
  generalize c/2=LF;refine⟨_,rfl,_,_,rfl,rfl,_,_,rfl,rfl,by simp,?_⟩;refine⟨fun n U H'=>Ex2 fun(ns:70) (pS:Int)=>Cj6 97 ((0<=pS/\pS<2147483647)) (H' D=79) (77) (ns.length<=m) (n=m-ns.length),⟨m-ns.length,ns,_,rfl,⟨ij _ 61,ik _ 61⟩,h1,s1,hl,rfl⟩,?_⟩;clear h1 s1 hl H1;rintro n U H1 ⟨ns,pS,rfl,⟨Mu,E5⟩,h1,s1,hl,rfl⟩;refine⟨_,rfl,.inl ⟨D,_,rfl,.inl (nH h1),_,rfl,_,_,rfl,rfl,_,rfl,yj (fun c1=>?_) (fun c1=>?_)⟩⟩
  ·have c3:ns.length<m:=by have:=dE c1;rw[cS] at this;lia
   refine⟨fun U H'=>Ex2 fun(ou:70) (pS:Int)=>Cj5 97 ((0<=pS/\pS<2147483647)) (H' D=55) (77) (ou.length=ns.length+1),?_,?_⟩
   ·rintro σ' H' ⟨ou,BK,rfl,a0,a1,a2,a3⟩;exact⟨m-ou.length,by lia,ou,BK,rfl,a0,a1,a2,by lia,rfl⟩
   ·refine⟨_,rfl,_,_,rfl,rfl,_,_,rfl,rfl,.inr ⟨by left,by left⟩,_,_,rfl,rfl,by simp,?_⟩;have uh:=ij ((pS+1)*48271) (show(2147483647:Int)≠0 by left);have uw:=ik ((pS+1)*48271) (show(0:Int)<2147483647 by left);refine⟨_,rfl,.inl ⟨rfl,_,nH h1⟩,_,rfl,_,rfl,_,_,rfl,rfl,⟨by left,by left⟩,_,_,rfl,rfl,_,_,rfl,rfl,.inl ⟨Int.lt_of_lt_of_le 61 uh,Int.lt_trans uw 61⟩,_,_,rfl,rfl,by simp,D,_,_,rfl,rfl,h1,by rw[cS,cQ];lia,?_⟩;exact⟨ns++[_],_,rfl,⟨uh,uw⟩,by rw[Zc,eO];rfl,(Zm.upd (Zd.x s1)).same hD,by simp⟩
  ·exact⟨_,rfl,k _ D ns s1 hD h1⟩
 case lp=>
  clear c0;refine⟨fun n U H'=>Ex2 fun(ns:70) (LF:Int)=>Cj5 (U=[some (.int c),some (.int m),qr0 D,some (.int LF),none]) (H' D=79) (77) (ns.length<=m) (n=m-ns.length),⟨m,[],_,rfl,Zc,Zh hD,dH _,rfl⟩,?_⟩;rintro n U H1 ⟨ns,LF,rfl,h1,s1,hl,rfl⟩;refine⟨_,rfl,_,_,rfl,rfl,_,rfl,yj (fun c1=>⟨_,rfl,.inl ⟨D,_,rfl,.inl (nH h1),_,rfl,_,_,rfl,rfl,_,rfl,yj (fun c2=>?oX) (fun c2=>?ZG)⟩⟩) (fun c1=>ZH ?rest2)⟩
  case oX=>
   have c3:ns.length<m:=by have:=dE c2;rw[cS] at this;lia
   refine⟨fun U H'=>Ex2 fun(ou:70) (LF:Int)=>Cj4 (U=[some (.int c),some (.int m),qr0 D,some (.int LF),none]) (H' D=55) (77) (ou.length=ns.length+1),?_,?_⟩
   ·rintro σ' H' ⟨ou,D7,rfl,a1,a2,a3⟩;exact⟨m-ou.length,by lia,ou,D7,rfl,a1,a2,by lia,rfl⟩
   ·refine⟨_,rfl,.inl ⟨rfl,_,nH h1⟩,_,rfl,_,_,rfl,rfl,⟨by left,by left,by left⟩,_,_,rfl,rfl,by simp,D,_,_,rfl,rfl,h1,by rw[cS,cQ];lia,?_⟩;refine⟨_,rfl,_,_,rfl,rfl,⟨by left,by left,by left⟩,_,_,rfl,rfl,⟨by left,by left⟩,?_⟩;refine⟨ns++[_],_,rfl,by rw[Zc,eO];rfl,(Zm.upd (Zd.x s1)).same hD,by simp⟩
  all_goals
   clear c1;refine⟨_,rfl,_,_,rfl,rfl,_,_,rfl,rfl,by simp,?_⟩;refine⟨fun n U H'=>Ex2 fun(ns:70) (pS:Int)=>Cj6 97 ((0<=pS/\pS<2147483647)) (H' D=79) (77) (ns.length<=m) (n=m-ns.length),⟨m-ns.length,ns,_,rfl,⟨ij _ 61,ik _ 61⟩,h1,s1,hl,rfl⟩,?_⟩;clear h1 s1 hl H1;rintro n U H1 ⟨ns,pS,rfl,⟨Mu,E5⟩,h1,s1,hl,rfl⟩;refine⟨_,rfl,.inl ⟨D,_,rfl,.inl (nH h1),_,rfl,_,_,rfl,rfl,_,rfl,yj (fun c1=>?_) (fun c1=>?_)⟩⟩
   ·have c3:ns.length<m:=by have:=dE c1;rw[cS] at this;lia
    refine⟨fun U H'=>Ex2 fun(ou:70) (pS:Int)=>Cj5 97 ((0<=pS/\pS<2147483647)) (H' D=55) (77) (ou.length=ns.length+1),?_,?_⟩
    ·rintro σ' H' ⟨ou,BK,rfl,a0,a1,a2,a3⟩;exact⟨m-ou.length,by lia,ou,BK,rfl,a0,a1,a2,by lia,rfl⟩
    ·refine⟨_,rfl,_,_,rfl,rfl,_,_,rfl,rfl,.inr ⟨by left,by left⟩,_,_,rfl,rfl,by simp,?_⟩;have uh:=ij ((pS+1)*48271) (show(2147483647:Int)≠0 by left);have uw:=ik ((pS+1)*48271) (show(0:Int)<2147483647 by left);refine⟨_,rfl,.inl ⟨rfl,_,nH h1⟩,_,rfl,_,rfl,_,_,rfl,rfl,⟨by left,by left⟩,_,_,rfl,rfl,_,_,rfl,rfl,.inl ⟨Int.lt_of_lt_of_le 61 uh,Int.lt_trans uw 61⟩,_,_,rfl,rfl,by simp,D,_,_,rfl,rfl,h1,by rw[cS,cQ];lia,?_⟩;exact⟨ns++[_],_,rfl,⟨uh,uw⟩,by rw[Zc,eO];rfl,(Zm.upd (Zd.x s1)).same hD,by simp⟩
   ·exact⟨_,rfl,k _ D ns s1 hD h1⟩
def Xx(K:W.Frag)(a:Adr):Sp:=fun vs H Q _=>Ex3 fun(p:Addr) (ns:70) (z:Int)=>Cj4 (vs=[.ref p,.int z]) (0<z) (H p=79) (∀H' (n:Int) (ou:70),Zm p H H'->H' p=55->0<=n->n<z->Q (.int n) H')
theorem ZC{a:Adr}:58 1 a.y25 a.z25 cb Xx:=fun T hw=>by
 refine okF T.aa.f xJ (113) (by intro _ _ _ _ h;cases h;rename_i h;cases h;subst_vars;rfl);obtain⟨p,ns,z,rfl,hz,hp,k⟩:=h;refine⟨_,(Zb (ZZ (Zy (zH (K:=K) rfl (Zq.units hr)) (pv 0) (Yq Ze) (ZK _)) (Zg (Zs Zi)) Zt) (Zg (Zs (Yd Wd (Wk fJ PySem.F.slot_list_pop PySem.F.type_list_pop Zaw (pv 0) (@Za _ _ _ _ _ Zi Ze rfl)) (pv 1))))),?_⟩;refine⟨_,rfl,by left,fun l hl=>?_⟩;have s1:=Zh (o:=.lst []) hl;refine Zcf (s1 _ _ hp) Zc fun c hc=>⟨_,rfl,?_⟩;cases c with
 |true=>exact ZS (k _ 0 ns (Zd.x s1) (s1 _ _ hp) 61 hz)
 |false=>
  cases ns with
  |nil=>have:=hc.mpr rfl;cases this
  |cons n r=>
   refine ZH ⟨_,rfl,.inl ⟨rfl,_,nH (s1 _ _ hp)⟩,p,_,0,0,.int n,rfl,rfl,s1 _ _ hp,by left,by left,?_,rfl,_,rfl,_,_,rfl,rfl,hz,?_⟩
   ·simp[seqIndex?]
   ·exact k _ _ r (Zd.x s1).upd (by rw[Zc];rfl) (ij _ 40) (ik _ hz)
def PSt(κ:Nat)(Pm:Params)(H:Hp)(Ro Ah:Addr)(pr:PRw)(H':Hp):Prop:=
 Zd H H'/\(∃rv,H' Ro=some (.lst rv)/\NdL κ H' rv (pr.map (·.1)))/\∃es ep,H' Ah=some (DeO Pm Ah es ep)/\(∀e∈es,Nd κ H' e.2.1 e.1)/\es.map (·.1)=pr.map (·.1)/\∀e∈pr,∃l vs,ZU es e.1=some (.ref l)/\H l=none/\l≠Ah/\l≠Ro/\H' l=123/\NdL κ H' vs (W8 e)
theorem PSt.add{H3:Hp}{Ro Ah:Addr}{pr:PRw}{rv vs:List V}{x:ND}{y:V}(s3:Zd H H3)(eR:H3 Ro=some (.lst rv))(nr:NdL κ H3 rv (pr.map (·.1)))(eA:H3 Ah=some (DeO Pm Ah es ep))(kA:∀e∈es,Nd κ H3 e.2.1 e.1)(dA:es.map (·.1)=pr.map (·.1))
  (vA:∀e∈pr,∃l vs,ZU es e.1=some (.ref l)/\H l=none/\l≠Ah/\l≠Ro/\H3 l=123/\NdL κ H3 vs (W8 e)) (EY:H Ro=none) (Sx:H Ah=none) (wG:Ro≠Ah) (xn:x∉pr.map (·.1)) (hy:Nd κ H3 y x) (hl:H3 l=none) (nv:NdL κ H3 vs pa.getLast?.toList)
  (e1:H'=upd (upd (upd H3 l (.lst vs)) Ah (DeO Pm Ah (ZI es x y (.ref l)) ep')) Ro (.lst (rv++[y]))):PSt κ Pm H Ro Ah (pr++[(x,pa++[x])]) H'/\ZT H3 H':=by
 have lA:l≠Ah:=fun z=>by rw[z,eA] at hl;cases hl
 have lR:l≠Ro:=fun z=>by rw[z,eR] at hl;cases hl
 have Cj:H l=none:=by
  cases e:H l with
  |none=>rfl
  |some o=>rw[s3 _ _ e] at hl;cases hl
 have u:ZT H3 H':=fun c zs e=>by
  rw[e1,upd_ne (fun z:c=Ro=>by rw[z,eR] at e;cases e),upd_ne (fun z:c=Ah=>by rw[z,eA] at e;cases e),upd_ne (fun z:c=l=>by rw[z,hl] at e;cases e)];exact e
 have xe:x∉es.map (·.1):=by rw[dA];exact xn
 refine⟨⟨?_,⟨rv++[y],by rw[e1];exact Zc,?_⟩,ZI es x y (.ref l),ep',?_,fun e he=>?_,?_,fun e he=>?_⟩,u⟩
 ·rw[e1];exact Zd.upN (Zd.upN (Zd.upN s3 Cj) Sx) EY
 ·rw[eO];exact(nr.mono u).app (.cons (hy.mono u) .nil)
 ·rw[e1,upd_ne wG.symm];exact Zc
 ·rcases Xw he with q|rfl|⟨z,hz,e2,rfl⟩
  ·exact(kA e q).mono u
  ·exact hy.mono u
  ·exact(kA z hz).mono u
 ·rw[Ws,n8 xe,dA,eO];rfl
 ·rw[XM];rcases db.mp he with q|q
  ·have ne:e.1≠x:=fun z=>xn (by rw[<- z];exact gI q);rw[n8 ne];obtain⟨m,ws,a1,a2,a3,a4,a5,a6⟩:=vA e q;have ml:m≠l:=fun z=>by rw[z,hl] at a5;cases a5
   exact⟨m,ws,a1,a2,a3,a4,by rw[e1,upd_ne a4,upd_ne a3,upd_ne ml];exact a5,a6.mono u⟩
  ·rw[df] at q;subst q;rw[og rfl,Jz];exact⟨l,vs,rfl,Cj,lA,lR,by rw[e1,upd_ne lR,upd_ne lA,Zc],nv.mono u⟩
theorem UA{pa:37}:∀{xs:37}{row:PRw}{x:ND},Yw pa row (xs++[x])=za pa (Yw pa row xs) x
 |[],_,_=>rfl
 |_::xs,_,_=>UA (xs:=xs)
theorem Xy:(ZU es d).isSome=true↔d∈es.map (·.1):=by
 constructor
 ·intro h;obtain⟨v,e⟩:=fG.mp h;exact zo e
 ·intro h;cases e:ZU es d with
  |some v=>rfl
  |none=>
   have:=vw.mp e;obtain⟨z,hz,rfl⟩:=da.mp h;have:=lz.mp this z hz;simp at this
def JD(K:W.Frag)(a:Adr):Sp:=fun vs H Q _=>Zd5 fun(κ:Nat) (net b g:Addr) (es sr:NE) (ep rH:Nat) (N:ND->37) (nd:37) (bv:List V) (bs G:37)=>Zb9 (vs=[.ref net,.ref b,.ref g]) 115 112 (NdL κ H bv bs) ((∀d∈bs,d∈nd)) (H g=some (65 g sr rH)) ((∀e∈sr,96)) ((∀d,(ZU sr d).isSome=true↔d∈G)) ((Wb N G bs=none->∀H',77->Q .non H')) (∀p,Wb N G bs=some p->∀H' r rv,77->H r=none->H' r=some (.lst rv)->NdL κ H' rv p->Q (.ref r) H')
theorem Uv{a:Adr}:58 2 a.y14 a.z14 cg JD:=fun T hw=>by
 refine okX T.aO.f Xf 51;intro X
 let d1:Rdg X Ym [2,0,0,0,0]:=⟨_,(Zb (XC hw 78 (pv 3) (pv 5) (Yq Ze) rfl) (Zg (@Y8 _ _ _ _ (Wk fJ gk gm Yg (pv 4) (@Za _ _ _ _ _ (pv 5) Ze rfl)) rfl)))⟩
 let d2:Rdg X Ym [2,0,0]:=⟨_,(Zg (ZZ (WT (Xs hw 78 (pv 5) (pv 3))) d1.2 Zt))⟩
 let d3:Rdg X Ym [4,0,2,0,0,0,0]:=⟨_,(Zb (XC hw 78 (pv 3) (pv 8) (Yq (@Za _ _ _ _ _ (pv 7) Ze rfl)) rfl) (Zg (@Y8 _ _ _ _ (Wk fJ gk gm Yg (pv 4) (@Za _ _ _ _ _ (pv 8) Ze rfl)) rfl)))⟩
 let d4:Rdg X Ym [4,0,2,0,0]:=⟨_,(Zg (ZZ (WT (Xs hw 78 (pv 8) (pv 3))) d3.2 Zt))⟩
 let d5:Rdg X Ym [4,0,2]:=⟨_,(Zb (YS eJ rfl (ZF (K:=K) rfl (ZB hw 78 (pv 0) (pv 7) (fun _ _=>rfl))) (Zk (i:=8) Xf.nd rfl 34) d4.2) (Zg (Jr (i:=6) Xf.nd rfl 34 Zi k9)))⟩
 let d6:Rdg X Ym [4,0,1]:=⟨_,(Zb (ZZ (WT (Jm hw 78 (pv 7) (pv 2))) (Zg (Zs (ZV T.bp (Qq T hw) hr rfl rfl (@Za _ _ _ _ _ (pv 3) (@Za _ _ _ _ _ (pv 7) Ze rfl) rfl)))) Zt) d5.2)⟩
 let d7:Rdg X Ym [4,0,0]:=⟨_,(Zb (@Zo _ _ (7) _ _ _ _ Xf.nd rfl 34 (ZJ 56 (pv 4) (pv 6) (fun _ _=>rfl)) rfl (.inl rfl)) d6.2)⟩
 let d8:Rdg X Ym [4]:=⟨_,(Zb (X7 eJ (Zy vO (pv 6) (Zl 91 rfl T.aA nN (@Za _ _ _ _ _ (pv 4) Ze rfl)) (ZK _)) d7.2) (Zg (Zs Wf)))⟩
 let d9:Rdg X Ym [3]:=⟨_,(Zb (@Zo _ _ (6) _ _ _ _ Xf.nd rfl 34 Zi rfl (.inl rfl)) d8.2)⟩
 let se:Rdg X Ym [2]:=⟨_,(Zb (YS eJ rfl (ZF (K:=K) rfl (pv 1)) (Zk (i:=5) Xf.nd rfl 34) d2.2) d9.2)⟩
 let tZ:Rdg X Ym [1]:=⟨_,(Zb (@Zo _ _ (4) _ _ _ _ Xf.nd rfl 34 (Yq Ze) rfl (.inl rfl)) se.2)⟩
 intro vs Q h;obtain⟨κ,net,b,g,es,sr,ep,rH,N,nd,bv,bs,G,rfl,hN,hb,nb,bn,hg,kG,mG,k1,k2⟩:=h;refine⟨_,(Zb (@Zo _ _ (3) _ _ _ _ Xf.nd rfl 34 (WQ hw) rfl (.inl rfl)) tZ.2),?_⟩;have rJ:=hN.len;have wK:=nb.len;intro Ah hA;obtain⟨H1,qN,s1,eA⟩:=Xl (o:=65 Ah [] 0) hA;rw[qN];refine⟨by left,fun Ro hR=>?_⟩;have EY:H Ro=none:=by
  cases e:H Ro with
  |none=>rfl
  |some o=>rw[s1 _ _ e] at hR;cases hR
 have wG:Ro≠Ah:=fun z=>by rw[z,eA] at hR;cases hR
 obtain⟨H2,qN,s2,eR⟩:=Xl (o:=.lst []) hR;rw[qN];refine⟨_,rfl,b,rfl,⟨_,nH ((s1.trans s2) _ _ hb)⟩,?_⟩;refine Y0 (K:=K) (xs:=bv) (fun i U H'=>Ex4 fun(z5 z6 z7 z8:69)=>Cj2 (U=[72,98,qr0 g,qr0 Ah,qr0 Ro,z5,z6,z7,z8]) (PSt κ a.Pm H Ro Ah (Yw [] [] (bs.take i)) H')) ?_ ?_ ?_ ?_
 ·exact⟨_,_,_,_,rfl,s1.trans s2,⟨[],eR,.nil⟩,[],0,s2 _ _ eA,fun _ h=>(by cases h),rfl,fun _ h=>(by cases h)⟩
 ·rintro i U H' hi ⟨z5,z6,z7,z8,rfl,st⟩;exact nH (st.1 _ _ hb)
 ·rintro i x U H3 hx ⟨z5,z6,z7,z8,rfl,s3,⟨rv,uJ,nr⟩,sk,AL,Do,kA,dA,vA⟩;obtain⟨d,ed,nx⟩:=(nb.mono (nJ s3)).get hx;have dm:=cY ed;have oW:bs.take (i+1)=bs.take i++[d]:=by rw[fz,ed];rfl
  have pw:VR N nd bs (Yw [] [] (bs.take i)):=VR.nil.adds (fun x hx=>bn x (gA hx)) fun x hx=>.inl ⟨rfl,gA hx⟩;rw[oW,UA];generalize Yw [] [] (bs.take i)=pr at nr dA vA pw ⊢;have few:=pw.few;have RQ:sk.length=pr.length:=by have:=dt ζ dA;simpa using this
  have uX:=nr.len;rw[cS] at uX;refine⟨_,rfl,_,rfl,Ah,sk,AL,κ,d,rfl,Do,kA,nx,_,rfl,?_⟩;unfold za
  by_cases c:d∈pr.map (·.1)
  ·rw[Xy.mpr (by rw[dA];exact c),og c];exact ZH ⟨_,_,_,_,rfl,s3,⟨rv,uJ,nr⟩,sk,AL,Do,kA,dA,vA⟩
  ·rw[show(ZU sk d).isSome=false from iD.mpr fun z=>c (by rw[<- dA];exact Xy.mp z),n8 c];refine ZS ⟨by left,fun l hl=>?_⟩;have s4:=Zh (o:=.lst []) hl;have lA:l≠Ah:=fun z=>by rw[z,Do] at hl;cases hl
   have lR:l≠Ro:=fun z=>by rw[z,uJ] at hl;cases hl
   refine⟨_,rfl,_,rfl,Ah,sk,AL,κ,d,rfl,s4 _ _ Do,fun e he=>(kA e he).mono (nJ s4),nx.mono (nJ s4),by rw[cQ];lia,fun t0=>?_⟩;have wp:(upd (upd H3 l (.lst [])) Ah (65 Ah (ZI sk d x (.ref l)) t0)) Ro=some (.lst rv):=(upd_ne wG).trans (s4 _ _ uJ);refine⟨_,rfl,.inl ⟨rfl,_,nH wp⟩,_,rfl,Ro,_,_,rfl,rfl,wp,by rw[cQ];lia,?_⟩;exact⟨_,_,_,_,rfl,(PSt.add (pa:=[]) s3 uJ nr Do kA dA vA EY hA wG c nx hl .nil rfl).1⟩
 ·rintro U H3 ⟨z5,z6,z7,z8,rfl,ui⟩;rw[wK,fg] at ui;have SD:Up N nd bs G (Yw [] [] bs,0):=Up.start bn;refine⟨fun m U H'=>Ex5 fun(pr:PRw) (pl:Nat) (z5 z7 z8:69)=>Cj5 (U=[72,98,qr0 g,qr0 Ah,qr0 Ro,z5,some (.int (pl:Int)),z7,z8]) (PSt κ a.Pm H Ro Ah pr H') (Up N nd bs G (pr,pl)) ((∃j,itF (X4 N G) j (Yw [] [] bs,0)=(pr,pl))) (m=nd.length-pl),⟨_,_,0,_,_,_,rfl,ui,SD,⟨0,rfl⟩,rfl⟩,?_⟩;rintro m U H4 ⟨pr,pl,z5,z7,z8,rfl,⟨s4,⟨rv,Cw,nr⟩,M4,t0,M3,kA,dA,vA⟩,iv,⟨j,ej⟩,rfl⟩;have uX:=nr.len;rw[cS] at uX;have few:pr.length<=nd.length:=iv.row.few;refine⟨_,rfl,_,rfl,.inl ⟨Ro,rv,rfl,.inl (nH Cw),_,_,rfl,rfl,_,rfl,?_⟩⟩
  by_cases hp:pl<pr.length
  ·rw[show decide ((pl:Int)<(rv.length:Int))=true from dy 40];obtain⟨e,ee⟩:∃e,pr[pl]?=some e:=⟨_,cR hp⟩;have em:=cY ee;have A8:=iv.row.sub e em;obtain⟨v,ev,nv⟩:=nr.get' (i:=pl) (d:=e.1) (by rw[dz,ee];rfl);refine ZS ⟨fun U H'=>Ex2 fun(z7 z8:69)=>Cj3 (U=[72,98,qr0 g,qr0 Ah,qr0 Ro,z5,some (.int ((pl+1:Nat):Int)),z7,z8]) (e.1∉G) (PSt κ a.Pm H Ro Ah (Yw e.2 pr (N e.1)) H'),?_,?_⟩
   ·rintro σ' H' ⟨Ht,Ds,rfl,nG,q1⟩;have NG:=iv.st hN.sub;have CQ:itF (X4 N G) (j+1) (Yw [] [] bs,0)=X4 N G (pr,pl):=by show X4 _ _ (itF _ j _)=_;rw[ej]
    rw[yo ee nG] at NG CQ;exact⟨nd.length-(pl+1),by lia,_,pl+1,z5,Ht,Ds,rfl,q1,NG,⟨j+1,CQ⟩,rfl⟩
   refine⟨_,rfl,_,rfl,Ro,_,_,v,rfl,rfl,nH Cw,Zn ev,?_⟩;have TJ:=s4 _ _ hg;refine⟨_,rfl,_,rfl,g,sr,rH,κ,e.1,rfl,TJ,fun e he=>(kG e he).mono (nJ s4),nv,_,rfl,?_⟩
   by_cases c:e.1∈G
   ·rw[(mG e.1).mpr c];refine ZS ⟨_,rfl,_,rfl,κ,Ah,v,M4,t0,pr,N,nd,bs,e,rfl,⟨M3,kA,fun e he=>let ⟨l,vs,a1,_,_,_,a5,a6⟩:=vA e he; ⟨l,vs,a1,a5,a6⟩⟩,iv.row,em,rJ,nv,fun H' r D5 s5 hr er Tk=>?_⟩;have ep:Wb N G bs=some e.2:=by
     unfold Wb;rw[Y6.eq X3.fix ⟨(show X3 G (pr,pl) from fun e' q=>by
      have q':pr[pl]?=some e':=q;rw[ee] at q';cases q';exact c),j,ej⟩]
     show(pr[pl]?).map _=_
     rw[ee];rfl
    have sg:H r=none:=by
     cases q:H r with
     |none=>rfl
     |some o=>rw[s4 _ _ q] at hr;cases hr
    exact k2 e.2 ep H' r D5 (s4.trans s5) sg er Tk
   ·rw[show(ZU sr e.1).isSome=false from iD.mpr fun z=>c ((mG e.1).mp z)];have wH:=hN.mono s4;obtain⟨l,ws,el,hl,nl⟩:=wH.on A8;have Gy:H l=some (.lst ws):=by
     obtain⟨l',FG,e',h',n'⟩:=hN.on A8;rw[el] at e';cases e';rw[s4 _ _ h'] at hl;cases hl;exact h'
    have tJ:=nl.len;refine ZH ⟨_,rfl,_,rfl,net,es,ep,κ,e.1,_,rfl,wH.at_,wH.keys,nv,el,l,rfl,⟨_,nH hl⟩,?_⟩;obtain⟨_,_,⟨p0,Po⟩,_⟩:=iv.row.chn e em;refine Y0 (K:=K) (xs:=ws) (fun j U H'=>Ex1 fun(z8:69)=>Cj3 (U=[72,98,qr0 g,qr0 Ah,qr0 Ro,z5,some (.int (pl:Int)),some v,z8]) (ZT H4 H') (PSt κ a.Pm H Ro Ah (Yw e.2 pr ((N e.1).take j)) H')) ?_ ?_ ?_ ?_
    ·exact⟨_,rfl,fun _ _ q=>q,s4,⟨rv,Cw,nr⟩,M4,t0,M3,kA,dA,vA⟩
    ·rintro j U H5 hj ⟨Ds,rfl,_,st⟩;exact nH (st.1 _ _ Gy)
    ·rintro j' y U H5 hy ⟨Ds,rfl,u5,s5,⟨M6,wp,wl⟩,sh,t8,FI,FS,CF,Gv⟩;obtain⟨f,ef,ny⟩:=(nl.mono u5).get hy;have oW:(N e.1).take (j'+1)=(N e.1).take j'++[f]:=by rw[fz,ef];rfl
     have pw:VR N nd bs (Yw e.2 pr ((N e.1).take j')):=iv.row.adds (fun x hx=>hN.sub e.1 A8 x (gA hx)) fun x hx=>.inr ⟨e,em,rfl,gA hx⟩;rw[oW,UA];generalize Yw e.2 pr ((N e.1).take j')=MG at wl CF Gv pw ⊢;have PN:=pw.few;have RQ:sh.length=MG.length:=by have:=dt ζ CF;simpa using this
     have IN:=wl.len;rw[cS] at IN;refine⟨_,rfl,_,rfl,Ah,sh,t8,κ,f,rfl,FI,FS,ny,_,rfl,?_⟩;unfold za
     by_cases cc:f∈MG.map (·.1)
     ·rw[Xy.mpr (by rw[CF];exact cc),og cc];exact ZH ⟨_,rfl,u5,s5,⟨M6,wp,wl⟩,sh,t8,FI,FS,CF,Gv⟩
     ·rw[show(ZU sh f).isSome=false from iD.mpr fun z=>cc (by rw[<- CF];exact Xy.mp z),n8 cc];refine ZS ⟨_,rfl,by show 1<=sizeLine;rw[cQ];decide,fun l6 EX=>?_⟩;have s6:=Zh (o:=.lst [v]) EX;refine⟨_,rfl,_,rfl,Ah,sh,t8,κ,f,rfl,s6 _ _ FI,fun e he=>(FS e he).mono (nJ s6),ny.mono (nJ s6),by rw[cQ];lia,fun pR=>?_⟩;have MB:(upd (upd H5 l6 (.lst [v])) Ah (65 Ah (ZI sh f y (.ref l6)) pR)) Ro=some (.lst M6):=(upd_ne wG).trans (s6 _ _ wp);refine⟨_,rfl,.inl ⟨rfl,_,nH MB⟩,_,rfl,Ro,_,_,rfl,rfl,MB,by rw[cQ];lia,?_⟩;obtain⟨r1,r2⟩:=PSt.add (pa:=e.2) s5 wp wl FI FS CF Gv EY hA wG cc ny EX (vs:=[v]) (by rw[Po];simpa using(NdL.app .nil (.cons (nv.mono u5) .nil):NdL κ H5 [v] [e.1])) rfl;exact⟨_,rfl,fun c zs q=>r2 _ _ (u5 _ _ q),r1⟩
    ·rintro U H5 ⟨Ds,rfl,u5,st⟩;rw[tJ,fg] at st;exact⟨_,rfl,_,_,rfl,rfl,_,_,rfl,c,st⟩
  ·rw[show decide ((pl:Int)<(rv.length:Int))=false from dZ 40];have ep:Wb N G bs=none:=by
    unfold Wb;have hn:pr[pl]?=none:=im.mpr 40;rw[Y6.eq X3.fix ⟨(show X3 G (pr,pl) from fun e' q=>by
     have q':pr[pl]?=some e':=q;rw[hn] at q';cases q'),j,ej⟩]
    show(pr[pl]?).map _=_
    rw[hn];rfl
   exact ZH (k1 ep _ s4)
def RkL(κ:Nat)(Pm:Params)(H:Hp)(D:Addr)(ds:37)(f:ND->37):Prop:=∃es ep,H D=some (DeO Pm D es ep)/\(∀e∈es,96)/\es.map (·.1)=ds/\∀d∈ds,∃l vs,ZU es d=some (.ref l)/\l≠D/\H l=123/\NdL κ H vs (f d)
theorem RkL.mono{κ:Nat}{Pm:Params}{H H':Hp}{D:Addr}{ds:37}{f:ND->37}(s:77)(h:RkL κ Pm H D ds f):RkL κ Pm H' D ds f:=let ⟨es,ep,a,b,c,d⟩:=h; ⟨es,ep,s _ _ a,fun e he=>(b e he).mono (nJ s),c,fun x hx=>let ⟨l,vs,e1,e2,e3,e4⟩:=d x hx; ⟨l,vs,e1,e2,s _ _ e3,e4.mono (nJ s)⟩⟩
theorem RkL.put{f:ND->37}(h1:H D=some (DeO Pm D es ep))(h2:∀e∈es,96)(h3:es.map (·.1)=ds)(h4:∀d∈ds,∃l vs,ZU es d=some (.ref l)/\l≠D/\H l=123/\NdL κ H vs (f d)){y:V}{vs:List V}(nd:d∉ds)(hy:Nd κ H y d)(hl:H l=123)(nv:NdL κ H vs (f d)):RkL κ Pm (upd H D (DeO Pm D (ZI es d y (.ref l)) ep')) D (ds++[d]) f:=by
 have u:=YN (o:=DeO Pm D (ZI es d y (.ref l)) ep') h1 (fun _ z=>by cases z);have lD:l≠D:=fun z=>by rw[z,h1] at hl;cases hl
 refine⟨_,ep',Zc,fun e he=>?_,by rw[Ws,n8 (by rw[h3];exact nd),h3],fun x hx=>?_⟩
 ·rcases Xw he with q|rfl|⟨z,hz,e1,rfl⟩
  ·exact(h2 e q).mono u
  ·exact hy.mono u
  ·exact(h2 z hz).mono u
 ·rw[XM]
  by_cases c:x=d
  ·rw[og c,c];exact⟨l,vs,rfl,lD,(upd_ne lD).trans hl,nv.mono u⟩
  ·rw[n8 c];rcases db.mp hx with q|q
   ·obtain⟨m,ws,e1,e2,e3,e4⟩:=h4 x q;exact⟨m,ws,e1,e2,(upd_ne e2).trans e3,e4.mono u⟩
   ·exact oh (df.mp q) c
theorem zx(h:(es.map (·.1)).Nodup){e:ND×V×V}(he:e∈es):ZU es e.1=some e.2.2:=by
 induction es with
 |nil=>cases he
 |cons x r ih=>
  rw[dD,fY] at h;have ih:=ih h.2;unfold ZU at ih ⊢;rcases cW.mp he with rfl|he'
  ·rw[iu 39];rfl
  ·have:x.1≠e.1:=fun z=>h.1 (by rw[z];exact gI he');rw[gS (by simpa using this)];exact ih he'
theorem RkL.net{f:ND->37}(h:RkL κ Pm H D ds f)(hs:∀d∈ds,∀x∈f d,x∈ds)(hf:∀d,(f d).length<=12)(hl:ds.length<=12)(hn:ds.Nodup):∃es ep,Wi κ Pm H D es ep f ds:=by
 obtain⟨es,ep,a,b,c,d⟩:=h;refine⟨es,ep,a,b,fun x v e=>?_,fun x=>by rw[Xy,c],hs,hf,fun e he=>?_,hl⟩
 ·obtain⟨l,vs,e1,_,e3,e4⟩:=d x (by rw[<- c];exact zo e);rw[e] at e1;cases e1;exact⟨l,vs,rfl,e3,e4⟩
 ·obtain⟨l,vs,e1,_⟩:=d e.1 (by rw[<- c];exact gI he);rw[zx (by rw[c];exact hn) he] at e1;exact⟨l,eZ e1⟩
def Uz(K:W.Frag)(a:Adr):Sp:=fun vs H Q _=>ZaM fun(κ:Nat) (r dx:Addr) (fs:73) (N:ND->37) (M:ND->71) (n:Nat) (nd bs:37) (x:V) (d:ND)=>Cj5 (vs=[.ref r,x]) (KG κ a.Pm a.C_Knots H r dx fs N M n nd bs) (Nd κ H x d) (d∈qg N M n (44)) (∀H' l lv,77->H l=none->H' l=some (.lst lv)->NdL κ H' lv (VQ N M n (44) d)->Q (.ref l) H')
theorem Um{a:Adr}:58 3 a.y21 a.z21 ck Uz:=fun T hw=>by
 refine okX T.ao.f Z2 51;intro X
 let d1:Rdg X Zr [4,0,0,0,1]:=⟨_,(Zg (@Y8 _ _ _ _ (Wk fJ PySem.F.slot_list_extend PySem.F.type_list_extend QC (pv 5) (@Za _ _ _ _ _ (ZV T.aO (Uv T hw) hr rfl rfl (@ZX _ _ _ _ _ (pv 4) (@ZX _ _ _ _ _ (ZB hw 78 (pv 4) (ZJ 56 (pv 5) (XT Y5 Zi) (fun _ _=>rfl)) (fun _ _=>rfl)) (@ZX _ _ _ _ _ (pv 7) Ze rfl) rfl) rfl)) Ze rfl)) rfl))⟩
 let d2:Rdg X Zr [4,0,0,0,0]:=⟨_,(Zb (X6 (i:=7) Z2.nd rfl rfl (Nc:=bQ) (ix:=[none,some 6,some 0]) (ZD.of (by left:ZW (Zj Zr) Xc _ _ _=true)) hw 78 rfl (ZF (K:=K) rfl (pv 3)) (fun _ _ _ _ _=>(Zk (i:=0) (show δ bQ by left) rfl 34)) (fun _ _ _ _ _=>(U5 (YB (ZJ 56 94 (pv 1) (fun _ _=>rfl))))) (fun _ _ _ _ _=>(pv 0)) (fun _ _ _ _ _=>YI)) d1.2)⟩
 let d3:Rdg X Zr [4,0,0]:=⟨_,(Zg (ZZ (Xh (YB (Zl (WU (K:=K) rfl rfl) rfl T.bA nO (@Za _ _ _ _ _ (Xz (Nc:=bQ) (ix:=[none,some 6,some 0]) (ZD.of (by left:ZW (Zj Zr) Xc _ _ _=true)) rfl (ZF (K:=K) rfl (pv 5)) (fun _ _ _ _ _=>(Zk (i:=0) (show δ bQ by left) rfl 34)) (fun _ _ _ _ _=>Z3) (fun _ _ _ _ _=>(ZJ 56 94 (pv 1) (fun _ _=>rfl)))) Ze rfl)))) d2.2 Zt))⟩
 let d4:Rdg X Zr [5]:=⟨_,(Zg (Zs (Yd qp (pv 5) (YW (Y1 (K:=K) rfl) (ZV T.aO (Uv T hw) hr rfl rfl (@ZX _ _ _ _ _ (pv 4) (@ZX _ _ _ _ _ (ZB hw 78 (pv 4) (ZJ 56 (pv 5) (XT Y5 Zi) (fun _ _=>rfl)) (fun _ _=>rfl)) (@ZX _ _ _ _ _ (Zax hw 78 (pv 1) YI) Ze rfl) rfl) rfl)) X0 (YG (XT Y5 Zi))))))⟩
 let d5:Rdg X Zr [4]:=⟨_,(Zb (YS eJ rfl (Xu rfl T.aG (@Za _ _ _ _ _ (Zl 91 rfl T.aA nN (@Za _ _ _ _ _ (ZB hw 78 92 (pv 1) (fun _ _=>rfl)) Ze rfl)) Ze rfl)) (Zk (i:=6) Z2.nd rfl 34) d3.2) d4.2)⟩
 let d6:Rdg X Zr [3]:=⟨_,(Zb (@Zo _ _ (5) _ _ _ _ Z2.nd rfl 34 (Yq (@Za _ _ _ _ _ (pv 1) Ze rfl)) rfl (.inl rfl)) d5.2)⟩
 let d7:Rdg X Zr [2]:=⟨_,(Zb (X6 (i:=4) Z2.nd rfl rfl (Nc:=bU) (ix:=[none,some 2,some 0]) (ZD.of (by left:ZW (Zj Zr) Xc _ _ _=true)) hw 78 rfl (ZF (K:=K) rfl (pv 3)) (fun _ _ _ _ _=>(Zk (i:=0) (show δ bU by left) rfl 34)) (fun _ _ _ _ _=>Z3) (fun _ _ _ _ _=>(pv 0)) (fun _ _ _ _ _=>(Xz (Nc:=cI) (ix:=[none,some 1,some 2]) (ZD.ofR (N:=bU) (sc0:=Zj Zr) rfl 61) rfl (ZF (K:=K) rfl 94) (fun _ _ _ _ _=>(Zk (i:=0) (show δ cI by left) rfl 34)) (fun _ _ _ _ _=>(U5 (Zy W6 94 (pv 1) (ZK _)))) (fun _ _ _ _ _=>(pv 0))))) d6.2)⟩
 let d8:Rdg X Zr [1]:=⟨_,(Zb (@Zo _ _ (3) _ _ _ _ Z2.nd rfl 34 (ZJ 56 92 (pv 2) (fun _ _=>rfl)) rfl (.inl rfl)) d7.2)⟩
 intro vs Q h;obtain⟨κ,r,dx,fs,N,M,n,nd,bs,x,d,rfl,kg,nx,dG,k⟩:=h;refine⟨_,(Zb (@Zo _ _ (2) _ _ _ _ Z2.nd rfl 34 (ZB hw 78 92 (pv 1) (fun _ _=>rfl)) rfl (.inl rfl)) d8.2),?_⟩;obtain⟨ko,_⟩:=kg;obtain⟨net,es,ep,ln,hN⟩:=ko.net;obtain⟨mk,oq,oE,lm,hM⟩:=ko.marks;obtain⟨kn,lk,lv,ek,F4,hk⟩:=ko.knots;obtain⟨rk,oy,oH,lr,hR⟩:=ko.ranks;obtain⟨oY,oU⟩:=ko.ok;obtain⟨dF,rg⟩:=(UE oY).mp dG;have hj:=oY.lt d dF;have r9:=XI hj;obtain⟨v,ev⟩:∃v,lv[83]?=some v:=⟨_,cR 40⟩;obtain⟨q,qv,rfl,_,hq,nq⟩:=hk _ v _ ev r9;have inK:=oY.inK _ _ r9;have KF:∀d'∈(44).getD (83) [],d'∈ZR N bs:=fun d' hd=>((inK d').mp hd).1;have DJ:((44).getD (83) []).Nodup:=mh (mi (cY r9)) oY.nodup;have lK:((44).getD (83) []).length<=12:=by
  have:=ZN DJ (fun d' hd=>oU.sub d' (KF d' hd));have:=hN.len;lia
 refine⟨_,rfl,r,_,dx,_,_,rfl,ko.obj,T.ab,T.ai,lr,_,rfl,rk,oy,oH,κ,d,_,rfl,hR.1,hR.2.1,nx,hR.2.2.2 d ((oY.mem d).mpr dF),?_⟩;refine⟨_,rfl,r,_,dx,_,_,rfl,ko.obj,T.ab,T.af,lk,_,rfl,kn,lv,_,_,rfl,rfl,nH ek,Zn ev,?_⟩;have wU:=nq.len;refine⟨_,rfl,q,rfl,⟨_,nH hq⟩,fun I hI=>?_⟩;refine YU (J:=Itl K q) (n:=qv.length) (fun i U H'=>Ex1 fun(z:69)=>Cj3 (U=[z,some (.int (rkF (44) d:Int)),qr0 r]) (77) (RkL κ a.Pm H' I (((44).getD (83) []).take i) (Xo N (44) (83)))) ?_ ?_ ?_ ?_ ?_
 ·exact⟨_,rfl,Zh hI,[],0,Zc,fun _ h=>(by cases h),rfl,fun _ h=>(by cases h)⟩
 ·rintro i U H' hi ⟨z,rfl,s1,_⟩;exact⟨qv,qv[i],nH (s1 _ _ hq),cR hi⟩
 ·rintro U H' ⟨z,rfl,s1,_⟩;exact⟨qv,nH (s1 _ _ hq),cP _⟩
 ·rintro i y U H1 H2 hi ⟨z,rfl,s1,rl⟩ ⟨rfl,hy⟩ NN rj;have hy:=hy _ (nH (s1 _ _ hq));obtain⟨d',ed,ny⟩:=(nq.mono (nJ s1)).get hy;have N9:=KF d' (cY ed);have oW:((44).getD (83) []).take (i+1)=((44).getD (83) []).take i++[d']:=by rw[fz,ed];rfl
  have dn:d'∉((44).getD (83) []).take i:=fun z=>by
   have:=VN (ks:=[(44).getD (83) []]) (i:=0) (i':=i) (by simpa using DJ) rfl ed;exact this (by simpa using z)
  obtain⟨l,ws,el,hl,nl⟩:=hN.on (oU.sub d' N9);have tJ:=nl.len;have few:=hN.few d';have Db:=hN.mono s1;refine⟨_,rfl,_,rfl,r,_,dx,_,_,rfl,s1 _ _ ko.obj,T.ab,T.aq,ln,_,rfl,net,es,ep,κ,d',_,rfl,Db.at_,Db.keys,ny,el,l,rfl,⟨_,nH (s1 _ _ hl)⟩,fun D hD=>?_⟩;have N1:H D=none:=by
   cases e:H D with
   |none=>rfl
   |some o=>rw[s1 _ _ e] at hD;cases hD
  refine YX (J:=Itl K l) (n:=ws.length) (fun j U H'=>Ex2 fun(z:69) (ys:List V)=>Cj4 (U=[z,some (.int (rkF (44) d:Int)),qr0 r]) (Zd H2 H') (H' D=some (.lst ys)) (NdL κ H' ys (((N d').take j).filter fun x=>decide (rkF (44) x=83)))) ?_ ?_ ?_ ?_ ?_
  ·exact⟨_,[],rfl,Zh hD,Zc,.nil⟩
  ·rintro j U H' hj ⟨z,ys,rfl,s3,_⟩;exact⟨ws,ws[j],nH (s3 _ _ (s1 _ _ hl)),cR hj⟩
  ·rintro U H' ⟨z,ys,rfl,s3,_⟩;exact⟨ws,nH (s3 _ _ (s1 _ _ hl)),cP _⟩
  ·rintro j v U H' H3 hj ⟨z,ys,rfl,s3,sV,CK⟩ ⟨rfl,hv⟩ M' N0 hM' sq;have pJ:=s1.trans s3;have hv:=hv _ (nH (pJ _ _ hl));obtain⟨f,ef,nf⟩:=(nl.mono (nJ pJ)).get hv;have fF:f∈ZR N bs:=oU.clo d' N9 f (cY ef);have NJ:((N d').take (j+1)).filter (fun x=>decide (rkF (44) x=83))=((N d').take j).filter (fun x=>decide (rkF (44) x=83))++(if rkF (44) f=83 then[f] else[]):=by
    rw[fz,ef,iK]
    show _++List.filter _ [f]=_
    by_cases c:rkF (44) f=83<;>simp[c]
   have PP:ys.length<=12:=by
    have:=CK.len;have h1:=hV (fun x=>decide (rkF (44) x=83)) ((N d').take j);rw[dB] at h1;lia
   have sO:=hR.mono pJ;refine⟨_,rfl,r,_,dx,_,_,rfl,pJ _ _ ko.obj,T.ab,T.ai,lr,_,rfl,rk,oy,oH,κ,f,_,rfl,sO.1,sO.2.1,nf,sO.2.2.2 f ((oY.mem f).mpr fF),_,rfl,rfl,_,rfl,?_⟩
   by_cases c:rkF (44) f=83
   ·rw[show decide (V.int (rkF (44) f:Int)=V.int (rkF (44) d:Int))=true from dy (by rw[c])];have u5:=YN (o:=.lst (ys++[v])) sV (fun _ z=>by cases z);exact ZS ⟨_,rfl,hM' _ _ _ ys sV (by rw[cQ];lia) ⟨_,ys++[v],rfl,Zd.upN s3 hD,Zc,by rw[NJ,og c];exact(CK.mono u5).app (.cons (nf.mono u5) .nil)⟩⟩
   ·rw[show decide (V.int (rkF (44) f:Int)=V.int (rkF (44) d:Int))=false from dZ fun z=>c (by injection z with z;lia)];exact ZH (sq _ _ ⟨_,ys,rfl,s3,sV,by rw[NJ,n8 c,gp];exact CK⟩)
  ·rintro U H3 ⟨z,ys,rfl,s3,sV,CK⟩;rw[tJ,fg] at CK;obtain⟨BC,Cq,h1,h2,h3,h4⟩:=rl.mono s3;have fl:BC.length<=12:=by
    have:=dt ζ h3;rw[cS,dB] at this;lia
   refine⟨BC,Cq,κ,d',h1,h2,ny.mono (nJ s3),by rw[cQ];lia,fun sN=>rj _ _ ⟨_,rfl,Zd.upN (s1.trans s3) hI,?_⟩⟩;rw[oW];exact RkL.put h1 h2 h3 h4 dn (ny.mono (nJ s3)) sV CK
 rintro U H1 ⟨z,rfl,s1,rl⟩;rw[wU,fg] at rl;obtain⟨BC,Cq,Dd⟩:=rl.net (fun d' hd x hx=>by
  obtain⟨a1,a2⟩:=VH.mp hx;exact(inK x).mpr ⟨oU.clo d' (KF d' hd) x a1,a2⟩) (fun d'=>fh (hV _ _) (hN.few d')) lK DJ
 have hI0:H I=none:=hI;have C0:=oU.clo;have rB:=fun i hi=>Uy (n:=n) oY C0 dF rg i hi;have PU:qE N (44) (83)=true:=by unfold Wg at rg;rw[dg] at rg;exact rg.1
 have CN:Yb M n ((44).getD (83) [])=true:=by unfold Wg at rg;rw[dg] at rg;exact rg.2
 have dK:d∈(44).getD (83) []:=(inK d).mpr ⟨dF,rfl⟩;have HK:=fun(ring:37) (i:InK N (44) (83) d ring) (G:37) hG=>i.path oY C0 dF PU (G:=G) hG;have er:VQ N M n (44) d=Yz (Xo N (44) (83)) M ((44).getD (83) []) d n++((Wb (Xo N (44) (83)) [d] (nxt (Xo N (44) (83)) (Yz (Xo N (44) (83)) M ((44).getD (83) []) d n))).getD []).dropLast:=rfl;rw[er] at k;have OA:=nq.mono (nJ s1);have sM:=s1 _ _ hq;have uO:=Dd.sub;generalize wm:Xo N (44) (83)=N' at rB HK k Dd uO;generalize hKK:(44).getD (83) []=KK at *;refine⟨_,rfl,by show 1<=sizeLine;rw[cQ];decide,fun R hR=>?_⟩;obtain⟨H2,qN,s2,eR⟩:=Xl (o:=.lst [x]) hR;rw[qN];have oQ:=s1.trans s2;have Cb:d∈nd:=oU.sub d dF;obtain⟨ml,uH,wf⟩:=hM.on Cb;have Lr:=hM.len d Cb;have fw:=hM.few;have Av:=hM.mono oQ;have O5:=ZN DJ (fun d' hd=>oU.sub d' (KF d' hd));refine⟨_,rfl,r,_,dx,_,_,rfl,oQ _ _ ko.obj,T.ab,T.ah,lm,_,rfl,mk,oq,oE,κ,d,_,rfl,Av.at_,Av.keys,nx.mono (nJ oQ),uH,.inl ⟨ml,_,rfl,.inl (nH (oQ _ _ wf)),?_⟩⟩;refine⟨_,rfl,by rw[cS];lia,by rw[cS];lia,?_⟩;rw[cS,Lr];refine WY (n:=n) (fun i U H'=>Ex3 fun(z6 z7:69) (rv:List V)=>Cj4 (U=[qr0 r,some x,some (.int (rkF (44) d:Int)),qr0 q,qr0 I,qr0 R,z6,z7]) (Zd H1 H') (H' R=some (.lst rv)) (NdL κ H' rv (Yz N' M KK d i))) ?_ ?_ ?_
 ·exact⟨_,_,[x],rfl,s2,eR,.cons (nx.mono (nJ oQ)) .nil⟩
 ·rintro i U H3 hi ⟨z6,z7,rv,rfl,s3,uJ,nr⟩;obtain⟨wT,_,uP⟩:=rB i 40;have O4:Yz N' M KK d (i+1)=UX N' M KK (Yz N' M KK d i) i:=rfl;rw[O4];generalize Yz N' M KK d i=ring at nr wT uP ⊢;have uX:=nr.len;have Ep:i*KK.length<=12*12:=Nat.mul_le_mul 40 lK;have rK:=wT.sub;rw[hKK] at rK;have pJ:=s1.trans s3;refine⟨_,rfl,R,rfl,⟨_,nH uJ⟩,fun D hD=>?_⟩;refine Vw (K:=K) hD (nH uJ) (by rw[cQ];lia) (fun j v _=>∀e,ring[j]?=some e->v=.bl (ZL M i e)) (fun _ _ _ _ _ q=>q) ?_ ?_
  ·intro j y H4 Nx hy s4 wB;obtain⟨e,ee,ne⟩:=nr.get hy;have tT:=hM.mono (pJ.trans s4);have em:=oU.sub e (KF e (rK e (cY ee)));obtain⟨xl,wo,wS⟩:=tT.on em;have lx:=tT.len e em;refine⟨_,rfl,r,_,dx,_,_,rfl,(pJ.trans s4) _ _ ko.obj,T.ab,T.ah,lm,_,rfl,mk,oq,oE,κ,e,_,rfl,tT.at_,tT.keys,ne.mono (nJ s4),wo,_,rfl,xl,_,_,.bl (ZL M i e),rfl,rfl,nH wS,?_,?_⟩
   ·rw[mj];refine Zn (j:=i) ?_;unfold ZL;rw[dz,gH,cR 40];rfl
   ·refine wB _ _ (.refl _) fun e' h'=>?_;rw[ee] at h';cases h';rfl
  ·intro H4 ys Sm s4 yl Aw;have ey:=yu (f:=fun e=>ZL M i e) 40 fun j v e h1 h2=>Aw j v h1 e h2;refine⟨D,_,rfl,nH (by rw[Sm,ey]),_,rfl,?_⟩;rw[Vc];have Cw:=s4 _ _ uJ;have MV:=nr.mono (nJ s4);have rW:=s3.trans s4;unfold UX;cases c:ring.any (fun e=>ZL M i e) with
   |true=>exact ZH ⟨_,_,rv,rfl,rW,Cw,by rw[og rfl];exact MV⟩
   |false=>
    refine ZS ?_;obtain⟨g0,Fy,TN⟩:∃g∈KK,ZL M i g=true:=by
     unfold Yb at CN;exact fD.mp (dU.mp CN i (dY.mpr hi))
    obtain⟨p,ep,E4,Ga⟩:=HK ring wT (KK.filter (ZL M i)) ⟨g0,fA.mpr ⟨Fy,TN⟩,Fy⟩;rw[n8 dQ,ep,fC];obtain⟨pr,a0,ph⟩:=wT.last;have en:nxt N' ring=N' a0:=by rw[ph,yt]
    rw[en] at ep;have EE:a0∈KK:=rK a0 (by rw[ph];simp);have Fq:=rW _ _ sM;refine⟨_,rfl,q,rfl,⟨_,nH Fq⟩,fun G hG=>?_⟩;have hG1:H1 G=none:=by
     cases e:H1 G with
     |none=>rfl
     |some o=>rw[rW _ _ e] at hG;cases hG
    refine YU (J:=Itl K q) (n:=qv.length) (fun j U H'=>Ex1 fun(z:69)=>Cj3 (U=[z,some (.int 116),qr0 r]) (Zd H4 H') (RkP κ a.Pm H' G ((KK.take j).filter (ZL M i)) fun _=>.bl true)) ?_ ?_ ?_ ?_ ?_
    ·exact⟨_,rfl,Zh hG,RkP.nil Zc⟩
    ·rintro j U H' hj ⟨z,rfl,s5,_⟩;exact⟨qv,qv[j],nH (s5 _ _ Fq),cR hj⟩
    ·rintro U H' ⟨z,rfl,s5,_⟩;exact⟨qv,nH (s5 _ _ Fq),cP _⟩
    ·rintro j y U H5 H6 hj ⟨z,rfl,s5,rp⟩ ⟨rfl,hy⟩ NN rj;have hy:=hy _ (nH (s5 _ _ Fq));have CC:=rW.trans s5;obtain⟨e,ee,ne⟩:=(OA.mono (nJ CC)).get hy;have eK:=cY ee;have em:=oU.sub e (KF e eK);have sW:=hM.mono (s1.trans CC);obtain⟨xl,wo,wS⟩:=sW.on em;have lx:=sW.len e em;have oW:(KK.take (j+1)).filter (ZL M i)=(KK.take j).filter (ZL M i)++(if ZL M i e=true then[e] else[]):=by
      rw[fz,ee,iK]
      show _++List.filter _ [e]=_
      by_cases cc:ZL M i e=true<;>simp[cc]
     refine⟨_,rfl,r,_,dx,_,_,rfl,(s1.trans CC) _ _ ko.obj,T.ab,T.ah,lm,_,rfl,mk,oq,oE,κ,e,_,rfl,sW.at_,sW.keys,ne,wo,_,rfl,xl,_,_,.bl (ZL M i e),rfl,rfl,nH wS,?_,_,rfl,?_⟩
     ·rw[mj];refine Zn (j:=i) ?_;unfold ZL;rw[dz,gH,cR 40];rfl
     cases cc:ZL M i e with
     |false=>exact ZH (rj _ _ ⟨_,rfl,s5,by rw[oW,n8 (by rw[cc];exact dQ),gp];exact rp⟩)
     |true=>
      refine ZS ?_;obtain⟨sr,rH,g1,g2,g3,g4⟩:=rp;have Ss:e∉(KK.take j).filter (ZL M i):=fun zz=>by
       have:=VN (ks:=[KK]) (i:=0) (i':=j) (by simpa using DJ) rfl ee;exact this (by simpa using(fA.mp zz).1)
      have fl:sr.length<=12:=by
       have h1:=dt ζ g3;have h2:=hV (ZL M i) (KK.take j);rw[cS] at h1;rw[dB] at h2;lia
      refine⟨_,rfl,sr,rH,κ,e,g1,g2,ne,by rw[cQ];lia,fun sN=>rj _ _ ⟨_,rfl,Zd.upN s5 hG,?_⟩⟩;rw[oW,og cc];exact RkP.put g1 g2 g3 g4 rfl Ss ne
    rintro U H5 ⟨z,rfl,s5,rp⟩;rw[wU,fg] at rp;obtain⟨sr,rH,g1,g2,g3,g4⟩:=rp;have CC:=rW.trans s5;have wp:=s5 _ _ Cw;have wl:=MV.mono (nJ s5);rw[ph] at wl;obtain⟨ri,rx,rfl,Cz,C3⟩:=WX wl;have FF:=Dd.mono CC;obtain⟨l9,w9,Hf,Ct,HF⟩:=FF.on EE;refine⟨_,rfl,.inl ⟨rfl,_,nH wp⟩,_,rfl,_,rfl,_,rfl,_,rfl,R,_,_,rx,rfl,rfl,nH wp,L2.atI_last ri rx,I,BC,Cq,κ,a0,_,rfl,FF.at_,FF.keys,C3,Hf,_,rfl,?_⟩;refine⟨κ,I,l9,G,BC,sr,Cq,rH,N',KK,w9,N' a0,KK.filter (ZL M i),rfl,FF,Ct,HF,uO a0 EE,g1,g2,fun e=>by rw[Xy,g3],fun h=>(by rw[ep] at h;cases h),fun p' e' H6 l6 tW s6 EX HP DP=>?_⟩;rw[ep] at e';cases e';have FQ:=s6 _ _ wp;have l7:=DP.len;have l8:=E4.few;have By:=(Cz.app (.cons C3 .nil)).mono (nJ s6);rw[<- ph] at By;refine⟨R,l6,_,tW,rfl,rfl,FQ,HP,by rw[cQ];lia,?_⟩;have u7:=YN (o:=.lst ((ri++[rx])++tW)) FQ (fun _ z=>by cases z);exact⟨_,_,_,rfl,Zd.upN (CC.trans s6) hR,Zc,(By.mono u7).app (DP.mono u7)⟩
 rintro U H3 ⟨z6,z7,rv,rfl,s3,uJ,nr⟩;obtain⟨wT,_,uP⟩:=rB n (cP n);generalize Yz N' M KK d n=ring at nr wT uP k;have uX:=nr.len;have Ep:n*KK.length<=12*12:=Nat.mul_le_mul 40 lK;have rK:=wT.sub;rw[hKK] at rK;obtain⟨p,ep,E4,Ga⟩:=HK ring wT [d] ⟨d,by simp,dK⟩;rw[ep,fC] at k;obtain⟨pr,a0,ph⟩:=wT.last;have en:nxt N' ring=N' a0:=by rw[ph,yt]
 rw[en] at ep;have EE:a0∈KK:=rK a0 (by rw[ph];simp);rw[ph] at nr;obtain⟨ri,rx,rfl,Cz,C3⟩:=WX nr;have IU:=Dd.mono s3;obtain⟨l9,w9,Hf,Ct,HF⟩:=IU.on EE;refine⟨_,rfl,_,rfl,_,rfl,_,rfl,_,rfl,R,_,_,rx,rfl,rfl,nH uJ,L2.atI_last ri rx,I,BC,Cq,κ,a0,_,rfl,IU.at_,IU.keys,C3,Hf,fun G hG=>⟨_,rfl,κ,d,Zc,(nx.mono (nJ (s1.trans s3))).mono (nJ (Zh hG)),fun rH=>?_⟩⟩;have s4:Zd H3 (upd (upd H3 G (65 G [] 0)) G (65 G [(d,x,.bl true)] rH)):=Zd.upN (Zh hG) hG;have eG:(upd (upd H3 G (65 G [] 0)) G (65 G [(d,x,.bl true)] rH)) G=some (65 G [(d,x,.bl true)] rH):=Zc;generalize (upd (upd H3 G (65 G [] 0)) G (65 G [(d,x,.bl true)] rH))=H4 at s4 eG ⊢;have rW:=s3.trans s4;have P4:=Dd.mono rW;refine⟨κ,I,l9,G,BC,[(d,x,.bl true)],Cq,rH,N',KK,w9,N' a0,[d],rfl,P4,s4 _ _ Ct,HF.mono (nJ s4),uO a0 EE,eG,fun e he=>by rw[df] at he;subst he;exact nx.mono (nJ (s1.trans rW)),fun e=>by rw[Xy];simp,fun h=>(by rw[ep] at h;cases h),fun p' e' H6 l6 tW s6 EX HP DP=>?_⟩;rw[ep] at e';cases e';have FQ:=s6 _ _ (s4 _ _ uJ);have l7:=DP.len;have l8:=E4.few;obtain⟨pq,pg,O8,_⟩:=E4.last;have By:=((Cz.app (.cons C3 .nil)).mono (nJ s4)).mono (nJ s6);rw[<- ph] at By;have ec:XN tW none (some (-1))=tW.take (p.length-1):=by rw[xi tW (by rw[l7,O8];simp),l7]
 refine⟨_,rfl,_,rfl,l6,_,rfl,nH HP,fun p8 OH=>?_⟩;have s8:=Zh (o:=.lst (XN tW none (some (-1)))) OH;have e8:(upd H6 p8 (.lst (XN tW none (some (-1))))) p8=some (.lst (XN tW none (some (-1)))):=Zc
 show ZeI _ _ (upd H6 p8 (.lst (XN tW none (some (-1))))) _
 generalize upd H6 p8 (.lst (XN tW none (some (-1))))=H8 at s8 e8 ⊢;rw[ec] at e8;refine⟨R,p8,_,_,rfl,rfl,s8 _ _ FQ,e8,by rw[dB,cQ];lia,fun p9 IM=>?_⟩;have s9:=Zh (o:=.lst ((ri++[rx])++tW.take (p.length-1))) IM;have LJ:=(((s1.trans rW).trans s6).trans s8);have Dz:H p9=none:=by
  cases e:H p9 with
  |none=>rfl
  |some o=>rw[LJ _ _ e] at IM;cases IM
 refine k _ p9 _ (LJ.trans s9) Dz Zc ?_;have u9:=nJ (s8.trans s9);refine(By.mono u9).app ?_;rw[List.dropLast_eq_take];exact(DP.mono u9).take _
def xh(n:Nat)(K:W.Frag)(a:Adr):Sp:=fun vs H Q _=>Ex4 fun x y d t=>Cj8 (vs=[x,y]) (ThH H x d) (ThH H y t) (plD n d) (d.canLay0=true) (t.canLay0=true) (d.depth<=60) (∀H',77->Q (.bl (Zw d t)) H')
theorem xc{a:Adr}{vs:List V}{Q:VK}{E:XK}(h:xh 0 K a vs H Q E):False:=by
 obtain⟨_,_,_,_,_,_,_,h,_⟩:=h;exact h
theorem zU{a:Adr}(T:Txt K mg a)(hw:w.params=a.Pm):∀n:Nat,V7 P w K mg base CX0 (1+n) a.y1 a.z1 ["node","thing"] (xh n K a):=by
 intro n
 induction n with
 |zero=>exact⟨fun _ _ _ _ h=>(xc h).elim,fun _ _ _ _ _ _ _ _ _ _ _ _ _ h=>(xc h).elim⟩
 |succ n aS=>
  refine T.ak.f.ok JB (fun vs H Q E h=>?_) (113)
  ·obtain⟨x,y,d,t,rfl,_⟩:=h;rfl
  ·obtain⟨x,y,d,t,rfl,hx,hy,pl,c1,c2,dp,k⟩:=h;refine⟨_,(Zb (ZZ (YB (Zl (yK (K:=K) rfl) rfl T.ae nP (@Za _ _ _ _ _ (pv 0) (@Za _ _ _ _ _ (XL (v:=.ty "tuple") rfl T.bq nQ rfl) Ze rfl) rfl))) (Zb (ZZ (PW.pt (Ua (Xh (YB (Zl (yK (K:=K) rfl) rfl T.ae nP (@Za _ _ _ _ _ (pv 1) (@Za _ _ _ _ _ (XL (v:=.ty "tuple") rfl T.bq nQ rfl) Ze rfl) rfl)))) (Vy (Zy JY (Zl 91 rfl T.aA nN (@Za _ _ _ _ _ (pv 1) Ze rfl)) (Zl 91 rfl T.aA nN (@Za _ _ _ _ _ (pv 0) Ze rfl)) (ZK _))))) 110 Zt) (Zg (Zs (Zl (Wo (K:=K) rfl rfl) rfl T.bt nU (@Za _ _ _ _ _ (Xz (Nc:=bV) (ix:=[none,none]) (ZD.of (by left:ZW (Zj V3) ["node","thing"] _ _ _=true)) rfl (ZbU (K:=K) rfl rfl T.bC (@Za _ _ _ _ _ (pv 0) (@Za _ _ _ _ _ (pv 1) Ze rfl) rfl)) (fun _ _ _ _ _=>(WK (K:=K) (n:=2) rfl rfl (Yc (Zk (i:=0) (show δ bV by left) rfl 34) (Yc (Zk (i:=1) (show δ bV by left) rfl 34) WM)))) (fun _ _ _ _ _=>Z3) (fun _ _ _ _ _=>(zI aS hr rfl T.ak.g T.ak.f.kp T.ak.n .nil Vn (@Za _ _ _ _ _ (pv 0) (@Za _ _ _ _ _ (pv 1) Ze rfl) rfl)))) Ze rfl))))) Zt) (Zg (Zs (Vx (X1 W6 (Zl (Wr (K:=K) rfl "bool") rfl T.ae nP (@Za _ _ _ _ _ (pv 1) (@Za _ _ _ _ _ (XL (v:=.ty "bool") rfl T.bw nV rfl) Ze rfl) rfl)) (Zl (Wr (K:=K) rfl "bool") rfl T.ae nP (@Za _ _ _ _ _ (pv 0) (@Za _ _ _ _ _ (XL (v:=.ty "bool") rfl T.bw nV rfl) Ze rfl) rfl)) (ZK _)) (Uu (X1 (zH (K:=K) rfl (Zq.units hr)) (pv 0) (pv 1) (ZK _))))))),?_⟩;cases hx with
   |@tup aX xs ds hX tX=>
    refine⟨_,rfl,_,rfl,.inl ⟨_,_,rfl,SqT.of hX,_,rfl,ZS ?_⟩⟩;cases hy with
    |@tup aY ys ts hY tY=>
     refine⟨_,rfl,_,rfl,.inl ⟨_,_,rfl,SqT.of hY,_,rfl,ZH ⟨_,rfl,.inl ⟨_,_,rfl,.inr (SqT.of hY),_,rfl,.inl ⟨_,_,rfl,.inr (SqT.of hX),rfl,_,rfl,yj (fun c=>?_) (fun c=>?_)⟩⟩⟩⟩⟩
     ·have oF:ds.length≠ts.length:=fun e=>by
       rw[<- tX.len,<- tY.len] at e;rw[e] at c;simp at c
      have q:=k H (Zd.refl H);unfold Zw at q;rw[qT oF] at q;exact q
     ·have L6:xs.length=ys.length:=by
       have:¬((ys.length:Int)≠xs.length):=fun z=>c (by simpa using z);lia
      have lX:=tX.len;have lY:=tY.len;refine⟨_,rfl,_,rfl,aX,aY,xs,ys,rfl,SqT.of hX,SqT.of hY,fun D hD=>?_⟩;rw[PyData.canLay0] at c1 c2;rw[PyData.depth] at dp;refine YX (J:=ZcP K aX aY) (n:=xs.length) (fun i U H'=>Ex2 fun(z1 z2:69)=>Cj3 (U=[z1,z2]) (77) (H' D=some (.lst ((γ i).map fun j=>V.bl (Zw (ds.getD j .none) (ts.getD j .none)))))) ?_ ?_ ?_ ?_ ?_
      ·exact⟨_,_,rfl,Zh hD,Zc⟩
      ·rintro i U H' hi ⟨z1,z2,rfl,sm,hl⟩;exact⟨xs,ys,xs[i],ys[i],SqT.of (sm _ _ hX),SqT.of (sm _ _ hY),cR hi,cR 40⟩
      ·rintro U H' ⟨z1,z2,rfl,sm,hl⟩;exact⟨xs,ys,SqT.of (sm _ _ hX),SqT.of (sm _ _ hY),L6,cP _⟩
      ·rintro i x U H' H2 hi ⟨z1,z2,rfl,sm,hl⟩ ⟨pr,v,u,rfl,Hc,rfl,hv,hu⟩ N N0 hN sq;have hv:=hv _ (SqT.of (sm _ _ hX));have hu:=hu _ (SqT.of (sm _ _ hY));obtain⟨dv,ev,tv⟩:=tX.get hv;obtain⟨du,eu,tu⟩:=tY.get hu;have s2:=Zh (o:=.tup [v,u]) Hc;have Cg:=sm.trans s2;refine⟨pr,[v,u],rfl,SqT.of Zc,rfl,_,_,rfl,_,_,rfl,rfl,?_⟩;have mv:=cY ev;have mu:=cY eu;refine⟨_,rfl,_,rfl,v,u,dv,du,rfl,tv.mono Cg,tu.mono Cg,pl.2 dv mv,Uq c1 dv mv,Uq c2 du mu,KY (n:=60) 40 dv mv,fun H5 s5=>?_⟩;refine hN _ _ _ _ (s5 _ _ (s2 _ _ hl)) (by rw[cS,gC,cQ];have:=pl.1;lia) ⟨_,_,rfl,((Zd.x (Cg.trans s5)).upd).same hD,?_⟩;rw[Zc,lH,eO];simp[gH,ev,eu]
      ·rintro U H2 ⟨z1,z2,rfl,sm,hl⟩;have q:=k _ sm;unfold Zw at q;rw[Ja 40,<- lX] at q;rw[Zda] at hl;exact⟨D,_,rfl,nH hl,q⟩
    |non=>exact⟨_,rfl,_,rfl,.inr ⟨_,.non,rfl,_,rfl,95⟩⟩
    |bl b=>exact⟨_,rfl,_,rfl,.inr ⟨_,.bl b,rfl,_,rfl,95⟩⟩
    |int i=>exact⟨_,rfl,_,rfl,.inr ⟨_,.int i,rfl,_,rfl,95⟩⟩
    |str x=>exact⟨_,rfl,_,rfl,.inr ⟨_,.str x,rfl,_,rfl,95⟩⟩
    |lst hY tY=>exact⟨_,rfl,_,rfl,.inr ⟨_,.lst hY,rfl,_,rfl,95⟩⟩
   |lst hX tX=>exact pl.elim
   |non=>exact pl.elim
   |int i=>
    obtain⟨ty,t1,t2⟩:=hy.tyB (K:=K);have q:=k H (Zd.refl H);rw[Ut (.inl ⟨i,rfl⟩)] at q;refine⟨_,rfl,_,rfl,.inr ⟨_,.int i,rfl,_,rfl,ZH ⟨_,rfl,_,ty,_,rfl,t1,t2,_,rfl,_,_,_,rfl,.int i,rfl,?_⟩⟩⟩
    show rEq (V.bl (xr t)) (V.bl false) H _
    cases hb:xr t with
    |false=>
     rw[hb] at q;exact⟨rfl,_,rfl,ZS ⟨_,rfl,_,rfl,_,_,.int i,hy.dp,c1,c2,dp,q⟩⟩
    |true=>
     rw[hb] at q;exact⟨rfl,_,rfl,ZH q⟩
   |str x=>
    obtain⟨ty,t1,t2⟩:=hy.tyB (K:=K);have q:=k H (Zd.refl H);rw[Ut (.inr (.inl ⟨x,rfl⟩))] at q;refine⟨_,rfl,_,rfl,.inr ⟨_,.str x,rfl,_,rfl,ZH ⟨_,rfl,_,ty,_,rfl,t1,t2,_,rfl,_,_,_,rfl,.str x,rfl,?_⟩⟩⟩
    show rEq (V.bl (xr t)) (V.bl false) H _
    cases hb:xr t with
    |false=>
     rw[hb] at q;exact⟨rfl,_,rfl,ZS ⟨_,rfl,_,rfl,_,_,.str x,hy.dp,c1,c2,dp,q⟩⟩
    |true=>
     rw[hb] at q;exact⟨rfl,_,rfl,ZH q⟩
   |bl b=>
    obtain⟨ty,t1,t2⟩:=hy.tyB (K:=K);have q:=k H (Zd.refl H);rw[Ut (.inr (.inr ⟨b,rfl⟩))] at q;refine⟨_,rfl,_,rfl,.inr ⟨_,.bl b,rfl,_,rfl,ZH ⟨_,rfl,_,ty,_,rfl,t1,t2,_,rfl,_,_,_,rfl,.bl b,rfl,?_⟩⟩⟩
    show rEq (V.bl (xr t)) (V.bl true) H _
    cases hb:xr t with
    |true=>
     rw[hb] at q;exact⟨rfl,_,rfl,ZS ⟨_,rfl,_,rfl,_,_,.bl b,hy.dp,c1,c2,dp,q⟩⟩
    |false=>
     rw[hb] at q;exact⟨rfl,_,rfl,ZH q⟩
def ke(K:W.Frag)(a:Adr):Sp:=fun vs H Q _=>Ex1 fun x=>Cj3 (vs=[x]) (Kd H x) (Q (.bl (Jj x)) H)
theorem VJ{a:Adr}:58 1 a.y0 a.z0 ["thing"] ke:=fun T hw=>by
 refine okF T.aI.f kE (113) (by intro _ _ _ _ h;cases h;rename_i h;cases h;subst_vars;rfl);obtain⟨x,rfl,hk,k⟩:=h;refine⟨_,(Zg (Zs (Vx (Zl (Wr (K:=K) rfl "int") rfl T.ae nP (@Za _ _ _ _ _ (pv 0) (@Za _ _ _ _ _ (XL (v:=.ty "int") rfl T.bG PyProof.Rows.Boot.«int» rfl) Ze rfl) rfl)) (Uu (ZaX (Zl (Wr (K:=K) rfl "bool") rfl T.ae nP (@Za _ _ _ _ _ (pv 0) (@Za _ _ _ _ _ (XL (v:=.ty "bool") rfl T.bw nV rfl) Ze rfl) rfl))))))),?_⟩;cases hb:V8 H "int" x with
 |false=>
  obtain⟨t,h1,h2⟩:=Zbf K 39 hk hb;have e:Jj x=false:=by cases hk<;>first|rfl|(simp[V8] at hb)
  rw[e] at k;exact⟨_,rfl,_,t,_,rfl,h1,h2,_,rfl,ZH k⟩
 |true=>
  obtain⟨t,h1,h2⟩:=Zbf K 39 hk hb;obtain⟨u,h3,h4⟩:=Zbf K (T := "bool") 39 hk rfl;have e:Jj x = !V8 H "bool" x:=by
   cases hk with
   |lst e=>simp[V8,e] at hb
   |tup e=>simp[V8,e] at hb
   |dK e=>simp[V8,e] at hb
   |non=>simp[V8] at hb
   |str z hz=>simp[V8] at hb
   |bl b=>rfl
   |int i=>rfl
  rw[e] at k;exact⟨_,rfl,_,t,_,rfl,h1,h2,_,rfl,ZS ⟨_,rfl,_,u,_,rfl,h3,h4,_,rfl,k⟩⟩
structure RkD(κ:Nat)(Pm:Params)(H:Hp)(a:Addr)(es:NE)(ep:Nat)(nd:37)(R:ND->68):Prop where
 at_:H a=52
 keys:∀e∈es,96
 nodup:(es.map (·.1)).Nodup
 sub:∀e∈es,e.1∈nd
 val:∀d,ZU es d=(R d).map fun(k:Nat)=>V.int (k:Int)
 few:∀d k,R d=some k->k<12
theorem RkD.mono{κ:Nat}{Pm:Params}{H H':Hp}{a:Addr}{es:NE}{ep:Nat}{nd:37}{R:ND->68}(s:77)(h:RkD κ Pm H a es ep nd R):RkD κ Pm H' a es ep nd R:=
 ⟨s _ _ h.at_,fun e he=>(h.keys e he).mono (nJ s),h.nodup,h.sub,h.val,h.few⟩
theorem RkD.ent{R:ND->68}(h:RkD κ Pm H a es ep nd R){e:ND×V×V}(he:e∈es):∃k:Nat,R e.1=some k/\e.2.2=.int (k:Int):=by
 have:=zx h.nodup he;rw[h.val] at this;obtain⟨k,e1,e2⟩:=fE.mp this;exact⟨k,e1,e2.symm⟩
theorem RkD.len{R:ND->68}(h:RkD κ Pm H a es ep nd R):es.length<=nd.length:=by
 have:=ZN h.nodup (nd:=nd) fun d hd=>by
  obtain⟨e,he,rfl⟩:=da.mp hd;exact h.sub e he
 rwa [cS] at this
def jj(K:W.Frag)(a:Adr):Sp:=fun vs H Q _=>jN fun(κ:Nat) (net rk:Addr) (es oy:NE) (ep oH:Nat) (N:ND->37) (nd:37) (R:ND->68)=>Cj4 (vs=[.ref net,.ref rk]) 115 (RkD κ a.Pm H rk oy oH nd R) (∀H',77->Q (.bl true) H')
theorem jF{a:Adr}:58 6 a.y6 a.z6 cm jj:=fun T hw=>by
 have aS:=zU (P:=P) (w:=w) (base:=base) T hw 4;refine okX T.aT.f U0 51;intro X
 let d1:Rdg X YC [3]:=⟨_,(Zg (Zs (Zl (Wo (K:=K) rfl rfl) rfl T.bt nU (@Za _ _ _ _ _ (Xz (Nc:=["rank"]) (ix:=[none]) (ZD.of (by left:ZW (Zj YC) ["net","thing","own"] _ _ _=true)) rfl (ZbP (Pm:=a.Pm) (VT (Pm:=a.Pm) (pv 1))) (fun _ _ _ _ _=>(Zk (i:=0) (show δ (["rank"]:54) by left) rfl 34)) (fun _ _ _ _ _=>Z3) (fun _ _ _ _ _=>(Vx (ZV T.aI (VJ T hw) hr rfl rfl (@Za _ _ _ _ _ (pv 0) Ze rfl)) (Uu (X1 ZeA (pv 0) Zi (ZK _)))))) Ze rfl))))⟩
 let d2:Rdg X YC [2]:=⟨_,(Zb (ZZ (Xh (YB (Zl (Wo (K:=K) rfl rfl) rfl T.bt nU (@Za _ _ _ _ _ (Xz (Nc:=["key","own"]) (ix:=[none,some 2]) (ZD.of (by left:ZW (Zj YC) ["net","thing","own"] _ _ _=true)) rfl (zF (Pm:=a.Pm) (pv 1)) (fun _ _ _ _ _=>(Zk (i:=0) (show δ (["key","own"]:54) by left) rfl 34)) (fun _ _ _ _ _=>Z3) (fun _ _ _ _ _=>(Vx (ZaO (Jm hw 78 (pv 0) (pv 1))) (Uu (zI aS (rmL hr rfl) rfl T.ak.g T.ak.f.kp T.ak.n .nil Vn (@Za _ _ _ _ _ (ZB hw 78 (pv 1) (pv 0) (fun _ _=>rfl)) (@Za _ _ _ _ _ (pv 0) Ze rfl) rfl)))))) Ze rfl)))) 110 Zt) d1.2)⟩
 let d3:Rdg X YC [1]:=⟨_,(Zb (@Zo _ _ (2) _ _ _ _ U0.nd rfl 34 (Qv (Nc:=["node"]) (ix:=[none]) (ZD.of (by left:ZW (Zj YC) ["net","thing","own"] _ _ _=true)) hw 78 rfl (zF (Pm:=a.Pm) (pv 0)) (fun _ _ _ _ _=>(Zk (i:=0) (show δ (["node"]:54) by left) rfl 34)) (fun _ _ _ _ _=>Z3) (fun _ _ _ _ _=>(pv 0)) (fun _ _ _ _ _=>(pv 0))) rfl (.inl rfl)) d2.2)⟩
 intro vs Q h;obtain⟨κ,net,rk,es,oy,ep,oH,N,nd,R,rfl,hN,hR,k⟩:=h;refine⟨_,(Zb (ZZ (Xh (YB (Zl (vD (Pm:=a.Pm)) rfl T.ae nP (@Za _ _ _ _ _ (pv 1) (@Za _ _ _ _ _ (XL (v:=.ty "dict") rfl T.br nW rfl) Ze rfl) rfl)))) 110 Zt) d3.2),?_⟩;have lR:=hR.len;have rJ:=hN.len;refine⟨_,rfl,rk,oy,oH,rfl,hR.at_,_,rfl,ZH ?_⟩;refine⟨_,rfl,net,es,ep,rfl,hN.at_,fun O hO=>?_⟩
 let J1:Nat->L2.St->Hp->Prop:=fun i U H'=>Ex4 fun(z:69) (tL:NE) (AC:Nat) (f:ND->69)=>Cj6 (U=[z]) (77) (H' O=some (65 O tL AC)) (DE κ H' tL nd f) ((∀d y,f d=some y->Nd κ H' y d)) ((∀j e,j<i->es[j]?=some e->(f e.1).isSome=true))
 refine YU (J:=ItD a.Pm net es ep) (n:=es.length) J1 ?_ ?_ ?_ ?_ ?_
 ·exact⟨_,[],0,_,rfl,Zh hO,Zc,DE.nil,fun _ _ h=>(by cases h),fun j _ h=>oh h (hU j)⟩
 ·rintro i U H' hi ⟨z,tL,AC,f,rfl,s1,_⟩;exact⟨s1 _ _ hN.at_,hi⟩
 ·rintro U H' ⟨z,tL,AC,f,rfl,s1,_⟩;exact⟨s1 _ _ hN.at_,cP _⟩
 ·rintro i y U H1 H2 hi ⟨z,tL,AC,f,rfl,s1,g1,de,g3,g4⟩ ⟨rfl,e,ee,rfl⟩ NN rj;have em:=cY ee;have ne:=(hN.mono s1).keys e em;have en:e.1∈nd:=(hN.has e.1).mpr (Xy.mpr (gI em));have few:=de.few;refine⟨_,rfl,_,rfl,tL,AC,κ,e.1,g1,de.keys,ne,by rw[cQ];lia,fun oE=>rj _ _ ?_⟩;have u:=YN (o:=65 O (ZI tL e.1 e.2.1 e.2.1) oE) g1 (fun _ z=>by cases z);refine⟨_,_,oE,_,rfl,Zd.upN s1 hO,Zc,(de.put (v:=e.2.1) ne en).mono u,fun d y hv=>?_,fun j e' hj ej=>?_⟩
  ·by_cases c:d=e.1
   ·rw[og c] at hv;cases hv;rw[c];exact ne.mono u
   ·rw[n8 c] at hv;exact(g3 d y hv).mono u
  ·by_cases c:e'.1=e.1
   ·show(if e'.1=e.1 then some e.2.1 else f e'.1).isSome=true
    rw[og c];rfl
   ·show(if e'.1=e.1 then some e.2.1 else f e'.1).isSome=true
    rw[n8 c];refine g4 j e' ?_ ej;rcases fe j i with q|q
    ·exact q
    ·have:j=i:=by lia
     subst this;rw[ee] at ej;cases ej;exact oh rfl c
 rintro U H1 ⟨z,tL,AC,f,rfl,s1,g1,de,TC,Sn⟩;have g2:=de.keys;have g3:∀d y,ZU tL d=some y->Nd κ H1 y d:=fun d y h=>TC d y (by rw[<- de.val];exact h);have g4:∀j e,j<es.length->es[j]?=some e->(ZU tL e.1).isSome=true:=fun j e h1 h2=>by rw[de.val];exact Sn j e h1 h2
 have S7:∀d∈nd,(ZU tL d).isSome=true:=fun d hd=>by
  obtain⟨v,ev⟩:=fG.mp ((hN.has d).mp hd);obtain⟨e,he,rfl,_⟩:=VB ev;obtain⟨j,hj,ej⟩:=fo he;exact g4 j e hj (by rw[cR hj,ej])
 have wj:=hR.mono s1;have zl:oy.length<sizeLine:=by rw[cQ];lia
 refine⟨_,rfl,rk,oy,oH,rfl,wj.at_,fun D hD=>?_⟩;refine YX (J:=ItD a.Pm rk oy oH) (n:=oy.length) (fun i U H'=>Ex1 fun(z:69)=>Cj3 (U=[z,qr0 O]) (Zd H1 H') (H' D=some (.lst ((η i true).map V.bl)))) ?_ ?_ ?_ ?_ ?_
 ·exact⟨_,rfl,Zh hD,Zc⟩
 ·rintro i U H' hi ⟨z,rfl,s2,_⟩;exact⟨s2 _ _ wj.at_,hi⟩
 ·rintro U H' ⟨z,rfl,s2,_⟩;exact⟨s2 _ _ wj.at_,cP _⟩
 ·rintro i y U H2 H3 hi ⟨z,rfl,s2,hl⟩ ⟨rfl,e,ee,rfl⟩ N' N0 wm sq;have em:=cY ee;have ne:=(wj.mono s2).keys e em;obtain⟨y,ey⟩:=fG.mp (S7 e.1 (hR.sub e em));have ny:=(g3 _ _ ey).mono (nJ s2);have B6:=X5 ne.ok;have Mj:=fun e' he=>(g2 e' he).mono (nJ s2);refine⟨_,rfl,_,rfl,O,tL,AC,κ,e.1,rfl,s2 _ _ g1,Mj,ne,?_⟩;rw[ey];refine⟨true,rfl,ZS ⟨_,rfl,_,rfl,O,tL,AC,κ,e.1,y,rfl,s2 _ _ g1,Mj,ne,ey,_,rfl,y,e.2.1,toD e.1,toD e.1,rfl,ny.th,ne.th,KJ _,B6.1,B6.1,by have:=B6.2;lia,fun H4 s4=>?_⟩⟩;rw[xb];refine wm _ _ _ _ (s4 _ _ hl) (by rw[cS,my];lia) ⟨_,rfl,Zd.upN (s2.trans s4) hD,?_⟩;rw[Zc,nF,eO];rfl
 rintro U H2 ⟨z,rfl,s2,hl⟩;refine⟨D,_,rfl,nH hl,_,rfl,?_⟩;rw[show(η oy.length true).all id=true from dU.mpr fun x hx=>mH hx];have r6:=wj.mono s2;refine ZH ⟨_,rfl,rk,oy,oH,rfl,rfl,r6.at_,fun v hv=>?_⟩;have s3:=Zh (o:=VwO v rk) hv;refine⟨v,rk,oy,oH,rfl,Zc,s3 _ _ r6.at_,fun E2 hE=>?_⟩;have sO:=r6.mono s3;have pJ:=(s1.trans s2).trans s3;generalize upd H2 v (VwO v rk)=H3 at s3 hE sO pJ ⊢;refine YX (J:=ItV a.Pm rk oy oH) (n:=oy.length) (fun i U H'=>Ex1 fun(z:69)=>Cj3 (U=[z]) (Zd H3 H') (H' E2=some (.lst ((η i true).map V.bl)))) ?_ ?_ ?_ ?_ ?_
 ·exact⟨_,rfl,Zh hE,Zc⟩
 ·rintro i U H' hi ⟨z,rfl,s4,_⟩;exact⟨s4 _ _ sO.at_,hi⟩
 ·rintro U H' ⟨z,rfl,s4,_⟩;exact⟨s4 _ _ sO.at_,cP _⟩
 ·rintro i y U H4 H5 hi ⟨z,rfl,s4,hl⟩ ⟨rfl,e,ee,rfl⟩ N' N0 wm sq;obtain⟨k2,_,ek⟩:=hR.ent (cY ee);rw[ek];refine⟨_,rfl,_,rfl,.int _,true,rfl,ZS ⟨_,rfl,_,_,rfl,rfl,?_⟩⟩;rw[show decide ((0:Int)<=(k2:Int))=true from dy 40];refine wm _ _ _ _ hl (by rw[cS,my];lia) ⟨_,rfl,Zd.upN s4 hE,?_⟩;rw[Zc,nF,eO];rfl
 rintro U H4 ⟨z,rfl,s4,hl⟩;refine⟨E2,_,rfl,nH hl,?_⟩;rw[show(η oy.length true).all id=true from dU.mpr fun x hx=>mH hx];exact k _ (pJ.trans s4)
def qF(K:W.Frag)(a:Adr):Sp:=fun vs H Q _=>jN fun(κ:Nat) (r dx:Addr) (fs:73) (N:ND->37) (M:ND->71) (n:Nat) (nd bs:37) (j:Nat)=>Cj5 (vs=[.ref r,.int (j:Int)]) (KO κ a.Pm a.C_Knots H r dx fs N M n nd bs) (j<(44).length) (Wg N M n (44) j=false) (∀H',77->Q (match qR N M n (44) j with|none=>.non|some m=>.int (m:Int)) H')
theorem qf{a:Adr}:58 2 a.y19 a.z19 bL qF:=fun T hw=>by
 refine okX T.av.f Xp 51;intro X
 let d1:Rdg X Yr [3]:=⟨_,(Zb (X7 eJ (YB (Zl (WU (K:=K) rfl rfl) rfl T.bA nO (@Za _ _ _ _ _ (Xz (Nc:=cJ) (ix:=[none,some 3,some 0]) (ZD.of (by left:ZW (Zj Yr) ["self","rank","knot","lacking"] _ _ _=true)) rfl (ZF (K:=K) rfl (pv 2)) (fun _ _ _ _ _=>(Zk (i:=0) (show δ cJ by left) rfl 34)) (fun _ _ _ _ _=>Z3) (fun _ _ _ _ _=>(ZJ 56 94 (pv 1) (fun _ _=>rfl)))) Ze rfl))) (Zg (Jr (i:=3) Xp.nd rfl 34 Zi k9))) (Zg (Zs (pv 3))))⟩
 let d2:Rdg X Yr [2]:=⟨_,(Zb (@Zo _ _ (3) _ _ _ _ Xp.nd rfl 34 Zi rfl (.inl rfl)) d1.2)⟩
 let d3:Rdg X Yr [1]:=⟨_,(Zb (@Zo _ _ (2) _ _ _ _ Xp.nd rfl 34 (ZJ 56 92 (pv 1) (fun _ _=>rfl)) rfl (.inl rfl)) d2.2)⟩
 intro vs Q h;obtain⟨κ,r,dx,fs,N,M,n,nd,bs,j,rfl,ko,hj,hg,k⟩:=h;refine⟨_,(Zb (ZZ (Xh (YB (Vf (pv 0) T.ab T.ag.m (WE T hw) (rmL hr rfl) T.ag.n .nil Vn (@Za _ _ _ _ _ (pv 1) Ze rfl)))) (Zg (Zs Wf)) Zt) d3.2),?_⟩;obtain⟨kn,lk,lv,ek,F4,hk⟩:=ko.knots;obtain⟨mk,es,ep,lm,hM⟩:=ko.marks;obtain⟨oY,oU⟩:=ko.ok;have r9:=XI hj;obtain⟨v,ev⟩:∃v,lv[j]?=some v:=⟨_,cR 40⟩;obtain⟨q,qv,rfl,_,hq,nq⟩:=hk j v _ ev r9;have inK:=oY.inK j _ r9;have KF:∀d∈(44).getD j [],d∈ZR N bs:=fun d hd=>((inK d).mp hd).1;have lK:((44).getD j []).length<=12:=by
  have kd:((44).getD j []).Nodup:=mh (mi (cY r9)) oY.nodup;have:=ZN kd (fun d hd=>oU.sub d (KF d hd));obtain⟨_,_,_,_,hN⟩:=ko.net;have:=hN.len;lia
 refine⟨_,rfl,r,dx,fs,rfl,ko.obj,ko.no "is_linked" 39,_,rfl,κ,r,dx,fs,N,M,n,nd,bs,j,rfl,ko,hj,fun H1 s1=>?_⟩;refine⟨_,rfl,?_⟩;cases c:qE N (44) j with
 |false=>
  have:=k H1 s1;have e:qR N M n (44) j=none:=by unfold qR;rw[c];rfl
  rw[e] at this;exact ZS this
 |true=>
  obtain⟨g1,g2,g3⟩:=Za9 c hg;have e:qR N M n (44) j=some (yM M n ((44).getD j [])):=by unfold qR;rw[c];rfl
  rw[e] at k;generalize yM M n ((44).getD j [])=la at g1 g2 g3 k;generalize (44).getD j []=KK at *;refine ZH ?_;have wU:=nq.len;refine⟨_,rfl,r,_,dx,_,_,rfl,s1 _ _ ko.obj,T.ab,T.af,lk,_,rfl,kn,lv,_,_,rfl,rfl,nH (s1 _ _ ek),Zn ev,?_⟩;refine⟨fun m U H'=>Ex1 fun(p:Nat)=>Cj4 (U=[qr0 r,some (.int (j:Int)),qr0 q,some (.int (p:Int))]) (77) (p<=la) (m=la-p),⟨_,0,rfl,s1,dH _,rfl⟩,?_⟩;rintro m U H2 ⟨p,rfl,s2,hp,rfl⟩;have Tl:=nq.mono (nJ s2);have Av:=hM.mono s2;have fw:=hM.few;refine⟨_,rfl,q,rfl,⟨_,nH (s2 _ _ hq)⟩,fun D hD=>?_⟩;refine Vw (K:=K) hD (nH (s2 _ _ hq)) (by rw[cQ];lia) (fun i v _=>∀e,KK[i]?=some e->v=.bl (ZL M p e)) (fun _ _ _ _ _ q=>q) ?_ ?_
  ·intro i x H3 Nx hx s3 wB;obtain⟨e,ee,ne⟩:=Tl.get hx;have ro:=Av.mono s3;have em:=oU.sub e (KF e (cY ee));obtain⟨xl,wo,wS⟩:=ro.on em;have lx:=ro.len e em;refine⟨_,rfl,r,_,dx,_,_,rfl,(s2.trans s3) _ _ ko.obj,T.ab,T.ah,lm,_,rfl,mk,es,ep,κ,e,_,rfl,ro.at_,ro.keys,ne.mono (nJ s3),wo,_,rfl,xl,_,_,.bl (ZL M p e),rfl,rfl,nH wS,?_,?_⟩
   ·refine Zn (j:=p) ?_;unfold ZL;rw[dz,gH,cR 40];rfl
   ·refine wB _ _ (.refl _) fun e' h'=>?_;rw[ee] at h';cases h';rfl
  ·intro H3 ys sG s3 yl tz;have ey:=yu (f:=fun e=>ZL M p e) 40 fun i v e h1 h2=>tz i v h1 e h2;refine⟨D,_,rfl,nH (by rw[sG,ey]),_,rfl,?_⟩;rw[Vc];have B9:=s2.trans s3;rcases fe p la with c2|c2
   ·rw[show(KK.any fun e=>ZL M p e)=true from g3 p c2];refine ZS ⟨fun U H'=>U=[qr0 r,some (.int (j:Int)),qr0 q,some (.int ((p+1:Nat):Int))]/\77,?_,?_⟩
    ·rintro σ' H' ⟨rfl,q1⟩;exact⟨la-(p+1),by lia,p+1,rfl,q1,c2,rfl⟩
    ·exact⟨_,rfl,_,_,rfl,rfl,rfl,B9⟩
   ·have:p=la:=by lia
    subst this;rw[show(KK.any fun e=>ZL M p e)=false from g2];exact ZH ⟨_,rfl,k _ B9⟩
theorem Ko:∀{a b:70},a.Pairwise (·<·)->b.Pairwise (·<·)->(∀x,x∈a↔x∈b)->a=b
 |[],[],_,_,_=>rfl
 |[],y::r,_,_,h=>oh ((h y).mpr 39) 39
 |x::r,[],_,_,h=>oh ((h x).mp 39) 39
 |x::r,y::t,ha,hb,h=>by
  rw[List.pairwise_cons] at ha hb;have e:x=y:=by
   rcases cW.mp ((h x).mp 39) with q|q
   ·exact q
   ·rcases cW.mp ((h y).mpr 39) with z|z
    ·exact z.symm
    ·have:=hb.1 x q;have:=ha.1 y z;lia
  subst e;rw[Ko (a:=r) (b:=t) ha.2 hb.2 fun z=>?_];constructor
  ·intro m;rcases cW.mp ((h z).mp (c7 _ m)) with q|q
   ·have:=ha.1 z m;lia
   ·exact q
  ·intro m;rcases cW.mp ((h z).mpr (c7 _ m)) with q|q
   ·have:=hb.1 z m;lia
   ·exact q
def Uj(m:Nat):37:=(γ m).map ND.i
theorem j6{m k:Nat}:ND.i k∈Uj m↔k<m:=by
 unfold Uj;rw[da];constructor
 ·rintro⟨j,hj,e⟩;have:=dY.mp hj;injection e with e;lia
 ·exact fun h=>⟨k,dY.mpr h,rfl⟩
theorem Jd{m:Nat}:(Uj m).Nodup:=by
 unfold Uj δ;rw[Κ];exact Τ.imp fun h e=>h (by injection e)
def XR(o:68):V:=match o with|none=>.non|some m=>.int (m:Int)
def RkT(κ:Nat)(Pm:Params)(H:Hp)(R:Addr)(N:ND->37)(bs:37):Prop:=RkP κ Pm H R (ZR N bs) fun d=>.int (rkF (44) d:Int)
def LkT(Pm:Params)(H:Hp)(L:Addr)(N:ND->37)(M:ND->71)(n:Nat)(bs:37):Prop:=RkP 0 Pm H L (Uj (44).length) fun d=>XR (qR N M n (44) (nI d).toNat)
def V6(K:W.Frag)(a:Adr):Sp:=fun vs H Q _=>ZaM fun(κ:Nat) (r dx b:Addr) (fs:73) (N:ND->37) (M:ND->71) (n:Nat) (nd bs:37) (bv:List V)=>Cj7 (vs=[.ref r,.ref b]) (KG κ a.Pm a.C_Knots H r dx fs N M n nd bs) 112 (NdL κ H bv bs) (bs.length<=1000) (Wz N M n bs=none) (∀H' p R L,77->H p=none->H R=none->H L=none->R≠L->H' p=some (.tup [.ref R,.ref L])->RkT κ a.Pm H' R N bs->LkT a.Pm H' L N M n bs->Q (.ref p) H')
theorem V5{a:Adr}:58 3 a.y22 a.z22 bN V6:=fun T hw=>by
 refine okX T.aj.f Xv 51;intro X
 let d1:Rdg X Ye [1]:=⟨_,(Zb (X6 (i:=3) Xv.nd rfl rfl (Nc:=["rank","self"]) (ix:=[none,some 0]) (ZD.of (by left:ZW (Zj Ye) ["self","begins","ranks","lacks"] _ _ _=true)) hw 78 rfl (ZF (K:=K) rfl (Zl (kH hw rfl) rfl T.bf nX (@Za _ _ _ _ _ (YK (yk (K:=K) rfl hw rfl) rfl T.bz nY (@Za _ _ _ _ _ (YK (yZ (Pm:=a.Pm) rfl) rfl T.bj nZ (@Za _ _ _ _ _ (VT (Pm:=a.Pm) (pv 2)) Ze rfl)) Ze rfl)) Ze rfl))) (fun _ _ _ _ _=>(Zk (i:=0) (show δ (["rank","self"]:54) by left) rfl 34)) (fun _ _ _ _ _=>Z3) (fun _ _ _ _ _=>(pv 0)) (fun _ _ _ _ _=>(Vf (pv 1) T.ab T.av.m (qf T hw) (rmL hr rfl) T.av.n .nil Vn (@Za _ _ _ _ _ (pv 0) Ze rfl)))) (Zg (Zs (@WA _ _ _ _ _ (@Za _ _ _ _ _ (pv 2) (@Za _ _ _ _ _ (pv 3) Ze rfl) rfl)))))⟩
 intro vs Q h;obtain⟨κ,r,dx,b,fs,N,M,n,nd,bs,bv,rfl,kg,hb,nb,FH,en,k⟩:=h;refine⟨_,(Zb (X6 (i:=2) Xv.nd rfl rfl (Nc:=["node","self"]) (ix:=[none,some 0]) (ZD.of (by left:ZW (Zj Ye) ["self","begins","ranks","lacks"] _ _ _=true)) hw 78 rfl (ZF (K:=K) rfl (ZV T.a9 (zV T hw) hr rfl rfl (@Za _ _ _ _ _ 92 (@Za _ _ _ _ _ (pv 1) Ze rfl) rfl))) (fun _ _ _ _ _=>(Zk (i:=0) (show δ (["node","self"]:54) by left) rfl 34)) (fun _ _ _ _ _=>Z3) (fun _ _ _ _ _=>(pv 0)) (fun _ _ _ _ _=>(ZB hw 78 (Yn (K:=K) rfl (pv 1) rfl) (pv 0) (fun _ _=>rfl)))) d1.2),?_⟩;obtain⟨ko,_⟩:=id kg;obtain⟨net,es,ep,ln,hN⟩:=ko.net;obtain⟨rk,oy,oH,lr,hR⟩:=ko.ranks;obtain⟨oY,oU⟩:=ko.ok;have no:=yG ko.sub ko.bn en;refine⟨_,rfl,r,_,dx,_,_,rfl,ko.obj,T.ab,T.aq,ln,_,rfl,κ,net,b,es,ep,N,nd,bv,bs,rfl,hN,hb,nb,ko.bn,FH,fun H1 f fv s1 hf ef nf=>?_⟩;have lf:=nf.len;have rJ:=ZN oU.nodup oU.sub;have hNl:=hN.len;refine⟨f,rfl,⟨_,nH ef⟩,fun D hD=>?_⟩;have N1:H D=none:=by
  cases e:H D with
  |none=>rfl
  |some o=>rw[s1 _ _ e] at hD;cases hD
 refine YU (J:=Itl K f) (n:=fv.length) (fun i U H'=>Ex1 fun(z:69)=>Cj3 (U=[z,qr0 r]) (Zd H1 H') (RkP κ a.Pm H' D ((ZR N bs).take i) fun d=>.int (rkF (44) d:Int))) ?_ ?_ ?_ ?_ ?_
 ·exact⟨_,rfl,Zh hD,RkP.nil Zc⟩
 ·rintro i U H' hi ⟨z,rfl,s2,_⟩;exact⟨fv,fv[i],nH (s2 _ _ ef),cR hi⟩
 ·rintro U H' ⟨z,rfl,s2,_⟩;exact⟨fv,nH (s2 _ _ ef),cP _⟩
 ·rintro i y U H2 H3 hi ⟨z,rfl,s2,rp⟩ ⟨rfl,hy⟩ NN rj;have hy:=hy _ (nH (s2 _ _ ef));obtain⟨d,ed,ny⟩:=(nf.mono (nJ s2)).get hy;have dF:=cY ed;have oW:(ZR N bs).take (i+1)=(ZR N bs).take i++[d]:=by rw[fz,ed];rfl
  have dn:d∉(ZR N bs).take i:=fun zz=>by
   have:=VN (ks:=[ZR N bs]) (i:=0) (i':=i) (by simpa using oU.nodup) rfl ed;exact this (by simpa using zz)
  obtain⟨oq,oE,g1,g2,g3,g4⟩:=rp;have fl:oq.length<=12:=by
   have h1:=dt ζ g3;rw[cS,dB] at h1;lia
  have oQ:=s1.trans s2;have r6:=hR.mono oQ;refine⟨_,rfl,_,rfl,r,_,dx,_,_,rfl,oQ _ _ ko.obj,T.ab,T.ai,lr,_,rfl,rk,oy,oH,κ,d,_,rfl,r6.1,r6.2.1,ny,r6.2.2.2 d ((oY.mem d).mpr dF),oq,oE,κ,d,g1,g2,ny,by rw[cQ];lia,fun AL=>rj _ _ ⟨_,rfl,Zd.upN s2 hD,?_⟩⟩;rw[oW];exact RkP.put g1 g2 g3 g4 rfl dn ny
 rintro U H2 ⟨z,rfl,s2,rp⟩;rw[lf,fg] at rp;have SX:=rp;obtain⟨oq,oE,g1,g2,g3,g4⟩:=rp;have oQ:=s1.trans s2;have ev:oq.map (·.2.2)=((ZR N bs).map fun d=>(rkF (44) d:Int)).map V.int:=by
  rw[<- g3,fV,fV];refine lV fun e he=>?_;have:=g4 e.1 (by rw[<- g3];exact gI he);rw[zx (by rw[g3];exact oU.nodup) he] at this;exact eZ this
 refine⟨_,rfl,D,oq,oE,rfl,rfl,g1,fun V1 GF=>?_⟩;obtain⟨H3,qN,s3,eV⟩:=Xl (o:=VwO V1 D) GF;rw[qN];refine⟨V1,D,oq,oE,rfl,eV,s3 _ _ g1,fun L1 Ch=>?_⟩;obtain⟨H4,qN,s4,eL⟩:=Xl (o:=.lst (oq.map (·.2.2))) Ch;rw[qN];rw[ev] at eL;refine⟨L1,_,rfl,nH eL,by rw[cS];lia,fun S1 El=>?_⟩;obtain⟨H5,qN,s5,eS⟩:=Xl (o:=SyO a.Pm S1 ((ZR N bs).map fun d=>(rkF (44) d:Int))) El;rw[qN];refine⟨S1,_,rfl,eS,by rw[cS];lia,fun L2 us wP u1 u2 u3=>?_⟩;obtain⟨H6,qN,s6,eU⟩:=Xl (o:=.lst (us.map V.int)) wP;rw[qN];have De:us=(γ (44).length).map fun(i:Nat)=>(i:Int):=by
  refine Ko u1 ?_ fun x=>?_
  ·rw[Κ];exact mN.imp fun q=>by lia
  ·rw[u2,da,da];constructor
   ·rintro⟨d,hd,rfl⟩;exact⟨_,dY.mpr (oY.lt d hd),rfl⟩
   ·rintro⟨i,hi,rfl⟩;have hi:=dY.mp hi;have ei:=cR hi;obtain⟨d,r',ed⟩:=Ε (oY.ne _ (gE hi));obtain⟨dF,dr⟩:=(oY.inK i _ ei d).mp (by rw[ed];simp);exact⟨d,dF,by rw[dr]⟩
 subst De;have Mz:(44).length<=12:=by rw[cS,cS,gC] at u3;lia
 generalize hm:(44).length=m at *;have Bi:=((s3.trans s4).trans s5).trans s6;have Ix:=oQ.trans Bi;have lU:(((γ m).map fun(i:Nat)=>(i:Int)).map V.int).length=m:=by simp
 refine⟨L2,rfl,⟨_,nH eU⟩,fun L hL=>?_⟩;have Og:H L=none:=by
  cases e:H L with
  |none=>rfl
  |some o=>rw[Ix _ _ e] at hL;cases hL
 have Su:D≠L:=fun z=>by rw[<- z,Bi _ _ g1] at hL;cases hL
 refine YU (J:=Itl K L2) (n:=m) (fun i U H'=>Ex1 fun(z:69)=>Cj3 (U=[z,qr0 r]) (Zd H6 H') (RkP 0 a.Pm H' L (Uj i) fun d=>XR (qR N M n (44) (nI d).toNat))) ?_ ?_ ?_ ?_ ?_
 ·exact⟨_,rfl,Zh hL,RkP.nil Zc⟩
 ·rintro i U H' hi ⟨z,rfl,s7,_⟩;exact⟨_,_,nH (s7 _ _ eU),cR (by rw[lU];exact hi)⟩
 ·rintro U H' ⟨z,rfl,s7,_⟩;exact⟨_,nH (s7 _ _ eU),by rw[lU];exact cP _⟩
 ·rintro i y U H7 H8 hi ⟨z,rfl,s7,rp⟩ ⟨rfl,hy⟩ NN rj;have hy:=hy _ (nH (s7 _ _ eU));have ey:y=.int (i:Int):=by
   rw[dz,dz,ρ hi] at hy;exact(eZ hy).symm
  subst ey;obtain⟨wb,pY,f1,f2,f3,f4⟩:=rp;have fl:wb.length<=12:=by
   have h1:=dt ζ f3;unfold Uj at h1;rw[cS,cS,gC] at h1;lia
  have Eu:=Ix.trans s7;have oW:Uj (i+1)=Uj i++[.i i]:=by unfold Uj;rw[lH,eO];rfl
  have dn:ND.i i∉Uj i:=fun zz=>by
   unfold Uj at zz;obtain⟨j,hj,e⟩:=da.mp zz;have:=dY.mp hj;injection e with e;lia
  have ni:∀H',Nd 0 H' (.int (i:Int)) (.i i):=fun _=>⟨(by show i<12;lia),rfl⟩;have Rv:Wg N M n (44) i=false:=by
   have oR:i<(44).length:=by lia
   have ei:=cR oR;obtain⟨d,r',ed⟩:=Ε (oY.ne _ (gE oR));obtain⟨dF,dr⟩:=(oY.inK i _ ei d).mp (by rw[ed];simp);rw[<- dr];exact no d dF
  refine⟨_,rfl,_,rfl,r,dx,fs,rfl,Eu _ _ ko.obj,ko.no "lack_of" 39,_,rfl,κ,r,dx,fs,N,M,n,nd,bs,i,rfl,ko.mono Eu,by lia,Rv,fun H8 s8=>?_⟩;have u8:=nJ s8;refine⟨wb,pY,0,.i i,s8 _ _ f1,fun e he=>(f2 e he).mono u8,ni _,by rw[cQ];lia,fun wF=>rj _ _ ⟨_,rfl,Zd.upN (s7.trans s8) hL,?_⟩⟩;rw[oW];exact RkP.put (s8 _ _ f1) (fun e he=>(f2 e he).mono u8) f3 f4 rfl dn (ni _)
 rintro U H7 ⟨z,rfl,s7,rp⟩;have Rw:=Bi.trans s7;refine⟨_,rfl,_,rfl,by show 2<=sizeLine;rw[cQ];decide,fun t ht=>?_⟩;have s8:=Zh (o:=.tup [.ref D,.ref L]) ht;have Eu:=Ix.trans s7;have wu:H t=none:=by
  cases e:H t with
  |none=>rfl
  |some o=>rw[Eu _ _ e] at ht;cases ht
 refine k _ t D L (Eu.trans s8) wu N1 Og Su Zc ?_ ?_
 ·exact SX.mono (Rw.trans s8)
 ·unfold LkT;rw[hm];exact rp.mono s8
structure LkD(Pm:Params)(H:Hp)(a:Addr)(es:NE)(ep:Nat)(L:Nat->Option (68)):Prop where
 at_:H a=52
 keys:∀e∈es,Nd 0 H e.2.1 e.1
 nodup:(es.map (·.1)).Nodup
 val:∀k,ZU es (.i k)=(L k).map XR
theorem LkD.mono{Pm:Params}{H H':Hp}{a:Addr}{es:NE}{ep:Nat}{L:Nat->Option (68)}(s:77)(h:LkD Pm H a es ep L):LkD Pm H' a es ep L:=
 ⟨s _ _ h.at_,fun e he=>(h.keys e he).mono (nJ s),h.nodup,h.val⟩
theorem nd0(h:Nd 0 H v d):∃k,d=.i k/\v=.int (k:Int)/\k<12:=by
 have val:=h.val;rcases ZP h.ok with⟨_,k,rfl,l⟩|⟨e,_⟩|⟨e,_⟩|⟨e,_⟩
 ·exact⟨k,rfl,val,l⟩
 ·cases e
 ·cases e
 ·cases e
theorem LkD.len(h:LkD Pm H a es ep L):es.length<=12:=by
 have:=ZN h.nodup (nd:=Uj 12) fun d hd=>by
  obtain⟨e,he,rfl⟩:=da.mp hd;obtain⟨k,e1,_,l⟩:=nd0 (h.keys e he);rw[e1];unfold Uj;exact da.mpr ⟨k,dY.mpr l,rfl⟩
 unfold Uj at this;rw[cS,cS,gC] at this;exact this
theorem LkD.mem(h:LkD Pm H a es ep L)(k:Nat):(k:Int)∈(es.map fun e=>nI e.1)↔(L k).isSome=true:=by
 have:(L k).isSome=(ZU es (.i k)).isSome:=by rw[h.val,Μ]
 rw[this,Xy,da,da];constructor
 ·rintro⟨e,he,q⟩;obtain⟨j,e1,_⟩:=nd0 (h.keys e he);rw[e1] at q;have:j=k:=by
   have:(j:Int)=k:=q;lia
  exact⟨e,he,by rw[e1,this]⟩
 ·rintro⟨e,he,q⟩;exact⟨e,he,by rw[q];rfl⟩
def jw(K:W.Frag)(a:Adr):Sp:=fun vs H Q _=>jN fun(κ:Nat) (rk lk:Addr) (oy o6:NE) (oH pz:Nat) (nd:37) (R:ND->68) (L:Nat->Option (68))=>Cj5 (vs=[.ref rk,.ref lk]) (RkD κ a.Pm H rk oy oH nd R) (LkD a.Pm H lk o6 pz L) (nd.length<=12) (∀b H',(b=true↔∀k,(∃d,R d=some k)↔(L k).isSome=true)->77->Q (.bl b) H')
theorem jA{a:Adr}:58 2 a.y7 a.z7 cq jw:=fun T hw=>by
 refine okX T.aU.f jn 51;intro X
 let d1:Rdg X X8 [1]:=⟨_,(Zg (Zs (X1 (ZbG (Pm:=a.Pm) hw (Zq.units0 hr)) (YK (Jx (Pm:=a.Pm) hw) rfl T.bz nY (@Za _ _ _ _ _ (pv 1) Ze rfl)) (YK (yk (K:=K) rfl hw rfl) rfl T.bz nY (@Za _ _ _ _ _ (YK (yZ (Pm:=a.Pm) rfl) rfl T.bj nZ (@Za _ _ _ _ _ (VT (Pm:=a.Pm) (pv 0)) Ze rfl)) Ze rfl)) (ZK _))))⟩
 intro vs Q h;obtain⟨κ,rk,lk,oy,o6,oH,pz,nd,R,L,rfl,hR,hL,rJ,k⟩:=h;refine⟨_,(Zb (ZZ (PW.pt (Ua (Xh (YB (Zl (vD (Pm:=a.Pm)) rfl T.ae nP (@Za _ _ _ _ _ (pv 1) (@Za _ _ _ _ _ (XL (v:=.ty "dict") rfl T.br nW rfl) Ze rfl) rfl)))) (Vy (Xh (YB (Zl (Wo (K:=K) rfl rfl) rfl T.bt nU (@Za _ _ _ _ _ (Xz (Nc:=["rank"]) (ix:=[none]) (ZD.of (by left:ZW (Zj X8) ["ranks","thing"] _ _ _=true)) rfl (zF (Pm:=a.Pm) (pv 1)) (fun _ _ _ _ _=>(Zk (i:=0) (show δ (["rank"]:54) by left) rfl 34)) (fun _ _ _ _ _=>Z3) (fun _ _ _ _ _=>(ZV T.aI (VJ T hw) hr rfl rfl (@Za _ _ _ _ _ (pv 0) Ze rfl)))) Ze rfl))))))) 110 Zt) d1.2),?_⟩;have lR:=hR.len;have lL:=hL.len;refine⟨_,rfl,lk,o6,pz,rfl,hL.at_,_,rfl,ZH ?_⟩;refine⟨_,rfl,lk,o6,pz,rfl,hL.at_,fun D hD=>?_⟩;refine YX (J:=ItD a.Pm lk o6 pz) (n:=o6.length) (fun i U H'=>Ex1 fun(z:69)=>Cj3 (U=[z]) (77) (H' D=some (.lst ((η i true).map V.bl)))) ?_ ?_ ?_ ?_ ?_
 ·exact⟨_,rfl,Zh hD,Zc⟩
 ·rintro i U H' hi ⟨z,rfl,s4,_⟩;exact⟨s4 _ _ hL.at_,hi⟩
 ·rintro U H' ⟨z,rfl,s4,_⟩;exact⟨s4 _ _ hL.at_,cP _⟩
 ·rintro i y U H4 H5 hi ⟨z,rfl,s4,hl⟩ ⟨rfl,e,ee,rfl⟩ N' N0 wm sq;obtain⟨k2,_,ek,_⟩:=nd0 (hL.keys e (cY ee));rw[ek];refine⟨_,rfl,_,rfl,.int _,?_⟩;refine wm _ _ _ _ hl (by rw[cS,my,cQ];lia) ⟨_,rfl,Zd.upN s4 hD,?_⟩;rw[Zc,nF,eO];rfl
 rintro U H1 ⟨z,rfl,s1,hl⟩;refine⟨D,_,rfl,nH hl,_,rfl,?_⟩;rw[show(η o6.length true).all id=true from dU.mpr fun x hx=>mH hx];refine ZH ?_;have Ch:=hL.mono s1;have wj:=hR.mono s1;refine⟨_,rfl,lk,o6,pz,rfl,Ch.at_,Ch.keys,by lia,fun S1 El=>?_⟩;obtain⟨H2,qN,s2,eS⟩:=Xl (o:=SyO a.Pm S1 (o6.map fun e=>nI e.1)) El;rw[qN];refine⟨_,rfl,rk,oy,oH,rfl,rfl,s2 _ _ wj.at_,fun V1 GF=>?_⟩;obtain⟨H3,qN,s3,eV⟩:=Xl (o:=VwO V1 rk) GF;rw[qN];refine⟨V1,rk,oy,oH,rfl,eV,(s2.trans s3) _ _ wj.at_,fun L1 Gf=>?_⟩;obtain⟨H4,qN,s4,eL⟩:=Xl (o:=.lst (oy.map (·.2.2))) Gf;rw[qN];have ev:∃ns:70,oy.map (·.2.2)=ns.map V.int/\ns.length=oy.length/\∀x,x∈ns↔∃d k,R d=some k/\x=(k:Int):=by
  refine⟨oy.map fun e=>((R e.1).getD 0:Nat),?_,by simp,fun x=>?_⟩
  ·rw[fV];refine lV fun e he=>?_;obtain⟨k,e1,e2⟩:=hR.ent he
   show e.2.2=V.int (((R e.1).getD 0:Nat):Int)
   rw[e1,e2];rfl
  ·rw[da];constructor
   ·rintro⟨e,he,rfl⟩;obtain⟨k,e1,e2⟩:=hR.ent he;exact⟨e.1,k,e1,by rw[e1];rfl⟩
   ·rintro⟨d,k,e1,rfl⟩;have:(ZU oy d).isSome=true:=by rw[hR.val,e1];rfl
    obtain⟨e,he,rfl⟩:=da.mp (Xy.mp this);exact⟨e,he,by rw[e1];rfl⟩
 obtain⟨ns,en,ln,mn⟩:=ev;rw[en] at eL;refine⟨L1,_,rfl,nH eL,by lia,fun S2 tK=>?_⟩;obtain⟨H5,qN,s5,P1⟩:=Xl (o:=SyO a.Pm S2 ns) tK;rw[qN];have same:∃r:Bool,r=true↔∀x,x∈(o6.map fun e=>nI e.1)↔x∈ns:=by
  by_cases c:∀x,x∈(o6.map fun e=>nI e.1)↔x∈ns
  ·exact⟨true,fun _=>c,fun _=>rfl⟩
  ·exact⟨false,(fun z=>θ z),fun z=>oh z c⟩
 obtain⟨r,er⟩:=same;refine⟨S1,S2,_,_,r,rfl,rfl,((s3.trans s4).trans s5) _ _ eS,P1,by rw[cS];lia,by lia,er,k r _ ?_ ((((s1.trans s2).trans s3).trans s4).trans s5)⟩;rw[er];constructor
 ·intro h k;rw[<- hL.mem,h,mn];constructor
  ·rintro⟨d,e⟩;exact⟨d,k,e,rfl⟩
  ·rintro⟨d,k',e,q⟩;have:k=k':=by lia
   exact⟨d,by rw[e,this]⟩
 ·intro h x;constructor
  ·intro hx;obtain⟨e,he,rfl⟩:=da.mp hx;obtain⟨j,e1,_⟩:=nd0 (hL.keys e he);have:(j:Int)∈(o6.map fun e=>nI e.1):=by rw[show(j:Int)=nI e.1 by rw[e1];rfl];exact hx
   obtain⟨d,ed⟩:=(h j).mpr ((hL.mem j).mp this);exact(mn _).mpr ⟨d,j,ed,by rw[e1];rfl⟩
  ·intro hx;obtain⟨d,k,e,rfl⟩:=(mn x).mp hx;exact(hL.mem k).mpr ((h k).mp ⟨d,e⟩)
theorem RkD.put{κ:Nat}{Pm:Params}{H:Hp}{a:Addr}{es:NE}{ep ep':Nat}{nd:37}{R:ND->68}(h:RkD κ Pm H a es ep nd R){d:ND}{y:V}{k:Nat}(hy:Nd κ H y d)(hd:d∈nd)(hk:k<12):RkD κ Pm (upd H a (DeO Pm a (ZI es d y (.int (k:Int))) ep')) a (ZI es d y (.int (k:Int))) ep' nd fun x=>if x=d then some k else R x:=by
 have u:=YN (o:=DeO Pm a (ZI es d y (.int (k:Int))) ep') h.at_ (fun _ z=>by cases z);have de:DE κ H es nd fun x=>(R x).map fun(k:Nat)=>V.int (k:Int):=⟨h.keys,h.nodup,h.sub,h.val⟩;have de:=(de.put (v:=.int (k:Int)) hy hd).mono u;refine⟨Zc,de.keys,de.nodup,de.sub,fun x=>?_,fun x j e=>?_⟩
 ·rw[de.val]
  by_cases c:x=d
  ·rw[og c,og c];rfl
  ·rw[n8 c,n8 c]
 ·by_cases c:x=d
  ·rw[og c] at e;cases e;exact hk
  ·rw[n8 c] at e;exact h.few x j e
theorem LkD.put(h:LkD Pm H a es ep L){i:Nat}(hi:i<12)(o:68):LkD Pm (upd H a (DeO Pm a (ZI es (.i i) (.int (i:Int)) (XR o)) ep')) a (ZI es (.i i) (.int (i:Int)) (XR o)) ep' fun j=>if j=i then some o else L j:=by
 have u:=YN (o:=DeO Pm a (ZI es (.i i) (.int (i:Int)) (XR o)) ep') h.at_ (fun _ z=>by cases z);have ni:∀H',Nd 0 H' (.int (i:Int)) (.i i):=fun _=>⟨hi,rfl⟩;refine⟨Zc,fun e he=>?_,?_,fun k=>?_⟩
 ·rcases Xw he with q|rfl|⟨z,hz,e1,rfl⟩
  ·exact(h.keys e q).mono u
  ·exact ni _
  ·exact(h.keys z hz).mono u
 ·rw[Ws]
  by_cases q:ND.i i∈es.map (·.1)
  ·rw[og q];exact h.nodup
  ·rw[n8 q,fy];exact⟨h.nodup,by simp,fun a ha b hb e=>by rw[df] at hb;subst hb;subst e;exact q ha⟩
 ·rw[XM,h.val]
  by_cases c:k=i
  ·rw[og (by rw[c]),og c];rfl
  ·rw[n8 (fun z=>c (by injection z)),n8 c]
inductive Ur(κ:Nat)(Pm:Params)(H:Hp)(t:Addr)(N:ND->37)(M:ND->71)(n:Nat)(bs:37):Prop
 |loop (w g:Addr) (way ring:37) (e:Wz N M n bs=some (way,ring)) (h:H t=some (.tup [.str "loop",.ref w,.ref g])):Ur κ Pm H t N M n bs
 |ranks (R L:Addr) (e:Wz N M n bs=none) (h:H t=some (.tup [.str "ranks",.ref R,.ref L])) (hR:RkT κ Pm H R N bs) (hL:LkT Pm H L N M n bs):Ur κ Pm H t N M n bs
theorem Ur.mono{κ:Nat}{Pm:Params}{H H':Hp}{t:Addr}{N:ND->37}{M:ND->71}{n:Nat}{bs:37}(s:77)(h:Ur κ Pm H t N M n bs):Ur κ Pm H' t N M n bs:=by
 cases h with
 |loop w g way ring e h=>exact .loop w g way ring e (s _ _ h)
 |ranks R L e h hR hL=>exact .ranks R L e (s _ _ h) (hR.mono s) (hL.mono s)
open Classical in
theorem RkT.rkd{R:Addr}{bs:37}(h:RkT κ Pm H R N bs)(hN:∀d∈nd,∀x∈N d,x∈nd)(hb:∀b∈bs,b∈nd)(l:nd.length<=12):∃es ep,RkD κ Pm H R es ep nd fun d=>if d∈ZR N bs then some (83) else none:=by
 obtain⟨es,ep,h1,h2,h3,h4⟩:=h;have oY:=Wp hN hb;have oU:=(XD hN hb).1;refine⟨es,ep,h1,h2,by rw[h3];exact oU.nodup,fun e he=>oU.sub _ (by rw[<- h3];exact gI he),fun d=>?_,fun d k e=>?_⟩
 ·by_cases c:d∈ZR N bs
  ·rw[og c];exact h4 d c
  ·rw[n8 c];exact J7 (by rw[h3];exact c)
 ·by_cases c:d∈ZR N bs
  ·rw[og c] at e;cases e;have:=oY.lt d c;have lk:(44).length<=nd.length:=Zdu oY oU;lia
  ·rw[n8 c] at e;cases e
open Classical in
theorem LkT.lkd{L:Addr}{bs:37}(h:LkT Pm H L N M n bs):∃es ep,LkD Pm H L es ep fun k=>if k<(44).length then some (qR N M n (44) k) else none:=by
 obtain⟨es,ep,h1,h2,h3,h4⟩:=h;refine⟨es,ep,h1,h2,by rw[h3];exact Jd,fun k=>?_⟩
 by_cases c:k<(44).length
 ·rw[og c];exact h4 (.i k) (j6.mpr c)
 ·rw[n8 c];exact J7 (by rw[h3];exact fun z=>c (j6.mp z))
theorem RkD.u{κ:Nat}{Pm:Params}{H H':Hp}{a:Addr}{es:NE}{ep:Nat}{nd:37}{R:ND->68}(e:H' a=52)(u:ZT H H')(h:RkD κ Pm H a es ep nd R):RkD κ Pm H' a es ep nd R:=⟨e,fun x hx=>(h.keys x hx).mono u,h.nodup,h.sub,h.val,h.few⟩
theorem LkD.u{Pm:Params}{H H':Hp}{a:Addr}{es:NE}{ep:Nat}{L:Nat->Option (68)}(e:H' a=52)(u:ZT H H')(h:LkD Pm H a es ep L):LkD Pm H' a es ep L:=⟨e,fun x hx=>(h.keys x hx).mono u,h.nodup,h.val⟩
theorem ZcK{xs:List V}(h:H p=122):ZT H (YF p H):=fun a ys e=>Z0 (fun z=>by rw[z,h] at e;cases e) e
theorem va{a:Adr}{m:Nat}{U:L3.St}{Q:VK}(h0:U[0]?=some (93))(h3:U[3]?=some (some (.int (m:Int))))(hp:H p=79)(lm:m<=12)(fin:∀H' (o:68) (ou:70),Zm p H H'->H' p=55->Q (XR o) H') :
  tOp (ZbT K) (Zew (Wa (tC V.non) (Wa (xU (Xx K a) [] E0 (Wa (ja 0) (Wa (tCB (fun xs H Q=>∃i j,xs=[V.int i,V.int j]/\Q (V.int (if j>i then j else i)) H) (Wa (tC (V.int 1)) (Wa (ja 3) jb))) jb))) jb))) (xU (Xx K a) [] E0 (Wa (ja 0) (Wa (tC (V.int 2)) jb))) U H Q:=by
 refine⟨_,h0,_,h3,_,_,rfl,p,ns,_,rfl,?_,hp,fun H1 n1 A9 x1 p1 Ba n11=>⟨by show 2<=sizeLine;rw[cQ];decide,fun l hl=>?_⟩⟩
 ·split<;>lia
 obtain⟨H2,qN,s2,el⟩:=Xl (o:=.lst [V.non,V.int n1]) hl;rw[qN];have AR:l≠p:=fun z=>by rw[z,p1] at hl;cases hl
 refine⟨_,h0,p,A9,2,rfl,by left,s2 _ _ p1,fun H3 n3 NV x3 p3 n30 n31=>?_⟩;have x13:Zm p H H3:=x1.trans ((Zd.x s2).trans x3);have:n3=0\/n3=1:=by lia
 rcases this with rfl|rfl
 ·exact⟨l,_,_,_,rfl,rfl,nH (x3 _ _ AR el),Zn (j:=0) rfl,fin H3 none NV x13 p3⟩
 ·obtain⟨q,rfl⟩:∃q:Nat,n1=q:=⟨n1.toNat,by lia⟩;exact⟨l,_,_,_,rfl,rfl,nH (x3 _ _ AR el),Zn (j:=1) rfl,fin H3 (some q) NV x13 p3⟩
def zY(K:W.Frag)(a:Adr):Sp:=fun vs H Q _=>ZbW fun(κ:Nat) (p L t:Addr) (ns:70) (nv:List V) (nd:37) (N:ND->37) (M:ND->71) (n:Nat) (bs:37) (m:Nat)=>Qn (vs=[.ref p,.ref L,.ref t,.int (m:Int)]) (H p=79) (H L=some (.lst nv)) (L≠p) (NdL κ H nv nd) (nd.length<=12) (m<=12) (Ur κ a.Pm (YF p H) t N M n bs) ((∀d∈nd,∀x∈N d,x∈nd)) ((∀b∈bs,b∈nd)) (∀H' t2 Rk Lk oy oH o6 pz (R:ND->68) (Lf:Nat->Option (68)) (ou:70),Zm p H H'->H' p=55->H' t2=some (.tup [.ref Rk,.ref Lk])->RkD κ a.Pm (YF p H') Rk oy oH nd R->LkD a.Pm (YF p H') Lk o6 pz Lf->Q (.ref t2) H')
theorem zN{a:Adr}:58 2 a.y30 a.z30 cr zY:=fun T hw=>by
 refine okX T.aM.f Yi 51;intro X
 let d1:Rdg X ZO [3,0,0,0,0]:=⟨_,(Zg (XC hw 78 (pv 5) (pv 7) (ZJ 56 (Yq (@Za _ _ _ _ _ Wf (@Za _ _ _ _ _ (ZV T.aa (ZC T hw) hr rfl rfl (@Za _ _ _ _ _ (pv 0) (@Za _ _ _ _ _ (Zl (vZ rfl) rfl T.bD PyProof.Rows.Boot.«max» (@Za _ _ _ _ _ Zi (@Za _ _ _ _ _ (pv 3) Ze rfl) rfl)) Ze rfl) rfl)) Ze rfl) rfl)) (ZV T.aa (ZC T hw) hr rfl rfl (@Za _ _ _ _ _ (pv 0) (@Za _ _ _ _ _ Zi Ze rfl) rfl)) (fun _ _=>rfl)) rfl))⟩
 let d2:Rdg X ZO [3,0,0]:=⟨_,(Zg (ZZ (Zy (Zdl (Pm:=a.Pm) rfl) (pv 7) (VT (Pm:=a.Pm) (pv 4)) (by with_unfolding_all rfl)) d1.2 Zt))⟩
 let d3:Rdg X ZO [4,0,2,0,1]:=⟨_,(Zg (XC hw 78 (pv 5) (ZB hw 78 (pv 4) (pv 6) (fun _ _=>rfl)) (ZJ 56 (Yq (@Za _ _ _ _ _ Wf (@Za _ _ _ _ _ (ZV T.aa (ZC T hw) hr rfl rfl (@Za _ _ _ _ _ (pv 0) (@Za _ _ _ _ _ (Zl (vZ rfl) rfl T.bD PyProof.Rows.Boot.«max» (@Za _ _ _ _ _ Zi (@Za _ _ _ _ _ (pv 3) Ze rfl) rfl)) Ze rfl) rfl)) Ze rfl) rfl)) (ZV T.aa (ZC T hw) hr rfl rfl (@Za _ _ _ _ _ (pv 0) (@Za _ _ _ _ _ Zi Ze rfl) rfl)) (fun _ _=>rfl)) rfl))⟩
 let d4:Rdg X ZO [4,0,2,0,0]:=⟨_,(Zb (@Zo _ _ (6) _ _ _ _ Yi.nd rfl 34 (ZJ 56 (YK (JN (Pm:=a.Pm) rfl) rfl T.bj nZ (@Za _ _ _ _ _ (pv 4) Ze rfl)) (ZV T.aa (ZC T hw) hr rfl rfl (@Za _ _ _ _ _ (pv 0) (@Za _ _ _ _ _ (Zl (Ju (Pm:=a.Pm)) rfl T.aA nN (@Za _ _ _ _ _ (pv 4) Ze rfl)) Ze rfl) rfl)) (fun _ _=>rfl)) rfl (.inl rfl)) d3.2)⟩
 let d5:Rdg X ZO [4,0,2]:=⟨_,(Zg (ZZ (Zy (Zb3 (Pm:=a.Pm) (Zq.units0 hr)) (pv 4) (WQ hw) (ZK _)) d4.2 Zt))⟩
 let d6:Rdg X ZO [4,0,1]:=⟨_,(Zb (@Zo _ _ (5) _ _ _ _ Yi.nd rfl 34 (YK (yx hw (Zq.units8 hr)) rfl T.br nW (@Za _ _ _ _ _ (ZJ (Xd (K:=K) rfl) (pv 2) Zi (fun _ _=>rfl)) Ze rfl)) rfl (.inl rfl)) d5.2)⟩
 let d7:Rdg X ZO [4,0,0]:=⟨_,(Zb (@Zo _ _ (4) _ _ _ _ Yi.nd rfl 34 (YK (yx hw (Zq.units8 hr)) rfl T.br nW (@Za _ _ _ _ _ (ZJ (Xd (K:=K) rfl) (pv 2) Zi (fun _ _=>rfl)) Ze rfl)) rfl (.inl rfl)) d6.2)⟩
 let d8:Rdg X ZO [4]:=⟨_,(Zb (ZZ (PW.pt (VC (Zy W6 (ZJ (Xd (K:=K) rfl) (pv 2) Zi (fun _ _=>rfl)) Uo (ZK _)) (WN (Zy Kq (ZV T.aa (ZC T hw) hr rfl rfl (@Za _ _ _ _ _ (pv 0) (@Za _ _ _ _ _ Zi Ze rfl) rfl)) Zi (ZK _))))) d7.2 Zt) (Zg (Zs (@WA _ _ _ _ _ (@Za _ _ _ _ _ (pv 4) (@Za _ _ _ _ _ (pv 5) Ze rfl) rfl)))))⟩
 let d9:Rdg X ZO [3]:=⟨_,(Zb (YS eJ rfl (Xu rfl T.aG (@Za _ _ _ _ _ Zi Ze rfl)) (Zk (i:=7) Yi.nd rfl 34) d2.2) d8.2)⟩
 let se:Rdg X ZO [2]:=⟨_,(Zb (YS eJ rfl (ZF (K:=K) rfl (pv 1)) (Zk (i:=6) Yi.nd rfl 34) (Zg (XC hw 78 (pv 4) (pv 6) (ZV T.aa (ZC T hw) hr rfl rfl (@Za _ _ _ _ _ (pv 0) (@Za _ _ _ _ _ Zi Ze rfl) rfl)) rfl))) d9.2)⟩
 let tZ:Rdg X ZO [1]:=⟨_,(Zb (@Zo _ _ (5) _ _ _ _ Yi.nd rfl 34 (WQ hw) rfl (.inl rfl)) se.2)⟩
 intro vs Q h;obtain⟨κ,p,L,t,ns,nv,nd,N,M,n,bs,m,rfl,hp,hL,t7,nn,rJ,lm,ux,rT,EK,k⟩:=h;refine⟨_,(Zb (@Zo _ _ (4) _ _ _ _ Yi.nd rfl 34 (WQ hw) rfl (.inl rfl)) tZ.2),?_⟩;refine fun Ra DB=>?_;obtain⟨H1,qN,s1,e1⟩:=Xl (o:=65 Ra [] 0) DB;rw[qN];intro La wy;obtain⟨H2,qN,s2,e2⟩:=Xl (o:=65 La [] 0) wy;rw[qN];have oQ:=s1.trans s2;have wW:Ra≠p:=fun z=>by rw[z,hp] at DB;cases DB
 have Cm:La≠p:=fun z=>by rw[z,s1 _ _ hp] at wy;cases wy
 have wG:Ra≠La:=fun z=>by rw[<- z,e1] at wy;cases wy
 have Tf:L≠Ra:=fun z=>by rw[z,DB] at hL;cases hL
 have OD:L≠La:=fun z=>by rw[<- z,s1 _ _ hL] at wy;cases wy
 have SL:L∉[p,Ra,La]:=by simp[t7,Tf,OD]
 have GQ:H La=none:=by
  cases e:H La with
  |none=>rfl
  |some o=>rw[s1 _ _ e] at wy;cases wy
 have SR:∀{H'},WF [p,Ra,La] H2 H'->Zm p H H':=fun {H'} kp b o hb e=>by
  have a1:b≠Ra:=fun z=>by rw[z,DB] at e;cases e
  have a2:b≠La:=fun z=>by rw[z,GQ] at e;cases e
  exact kp b o (by simp[hb,a1,a2]) (oQ b o e)
 have fin:∀{H':Hp}{Rk Lk:Addr}{oy:NE}{oH:Nat}{o6:NE}{pz:Nat}{R:ND->68}{Lf:Nat->Option (68)}{ou:70},Zm p H H'->H' p=55->Rk≠p->Lk≠p->RkD κ a.Pm H' Rk oy oH nd R->LkD a.Pm H' Lk o6 pz Lf->∀t2,H' t2=none->Q (.ref t2) (upd H' t2 (.tup [.ref Rk,.ref Lk])):=fun {H' Rk Lk oy oH o6 pz R Lf ou} x BI n1 n2 hR Np t2 re=>by
  have s:=Zh (o:=.tup [.ref Rk,.ref Lk]) re;have p2:=s _ _ BI;have u:ZT H' (YF p (upd H' t2 (.tup [.ref Rk,.ref Lk]))):=fun a xs e=>ZcK p2 _ _ (s _ _ e);exact k _ t2 Rk Lk oy oH o6 pz R Lf ou (x.trans (Zd.x s)) p2 Zc (hR.u (Z0 n1 (s _ _ hR.at_)) u) (Np.u (Z0 n2 (s _ _ Np.at_)) u)
 refine⟨_,rfl,L,rfl,⟨_,nH (oQ _ _ hL)⟩,?_⟩
 let J1:Nat->L2.St->Hp->Prop:=fun i U H'=>Ex6 fun(z6 z7:69) (es:NE) (ep:Nat) (R:ND->68) (ou:70)=>Cj6 (U=[93,qr0 L,qr0 t,some (.int (m:Int)),qr0 Ra,qr0 La,z6,z7]) (WF [p,Ra,La] H2 H') (ZT H2 H') (H' p=55) (RkD κ a.Pm H' Ra es ep nd R) (H' La=some (65 La [] 0))
 refine Y0 (K:=K) (xs:=nv) J1 ?_ ?_ ?_ ?_
 ·exact⟨_,_,[],0,fun _=>none,ns,rfl,fun _ _ _ e=>e,fun _ _ e=>e,oQ _ _ hp,⟨s2 _ _ e1,fun _ h=>(by cases h),by simp,fun _ h=>(by cases h),fun _=>rfl,fun _ _ h=>(by cases h)⟩,e2⟩
 ·rintro i U H' hi ⟨z6,z7,es,ep,R,ou,rfl,kp,_⟩;exact nH (kp _ _ SL (oQ _ _ hL))
 ·rintro i x U H3 hx ⟨z6,z7,es,ep,R,ou,rfl,kp,up,p3,hR,a3⟩;obtain⟨d,ed,nx⟩:=((nn.mono (nJ oQ)).mono up).get hx;have dn:=cY ed;refine⟨_,rfl,p,ou,3,rfl,by left,p3,fun H4 n4 sI x4 p4 F5 MA=>?_⟩;obtain⟨q,rfl⟩:∃q:Nat,n4=q:=⟨n4.toNat,by lia⟩;have u4:ZT H3 H4:=Zm.u x4 p3 (fun _ z=>by cases z);have tq:=hR.u (x4 _ _ wW hR.at_) u4;have lR:=hR.len;have Dx:=nx.mono u4;refine⟨_,rfl,_,rfl,Ra,es,ep,κ,d,rfl,tq.at_,tq.keys,Dx,by rw[cQ];lia,fun t8=>?_⟩;have u5:=YN (o:=65 Ra (ZI es d x (.int (q:Int))) t8) tq.at_ (fun _ z=>by cases z);exact⟨_,_,_,t8,_,sI,rfl,(kp.trans (Zm.k x4 39)).trans (WF.updK 39),fun b xs e=>u5 b xs (u4 b xs (up b xs e)),updK p4 wW.symm,tq.put (ep':=t8) Dx dn 40,updK (x4 _ _ Cm a3) wG.symm⟩
 rintro U H3 ⟨z6,z7,es,ep,R,ou,rfl,kp,up,p3,hR,a3⟩;have lR:=hR.len;refine⟨3,rfl,by left,by left,?_⟩
 let J2:Nat->L2.St->Hp->Prop:=fun i U H'=>Ex6 fun(z6 z7:69) (o6:NE) (pz:Nat) (Lf:Nat->Option (68)) (ou:70)=>Cj6 (U=[93,qr0 L,qr0 t,some (.int (m:Int)),qr0 Ra,qr0 La,z6,z7]) (WF [p,Ra,La] H2 H') (ZT H2 H') (H' p=55) (RkD κ a.Pm H' Ra es ep nd R) (LkD a.Pm H' La o6 pz Lf)
 refine WY (n:=3) J2 ?_ ?_ ?_
 ·exact⟨_,_,[],0,fun _=>none,ou,rfl,kp,up,p3,hR,⟨a3,fun _ h=>(by cases h),by simp,fun _=>rfl⟩⟩
 ·rintro i U H4 hi ⟨z6,z7,o6,pz,Lf,sI,rfl,GE,Mc,p4,tq,uZ⟩;rw[mj];have lL:=uZ.len;refine⟨_,rfl,_,rfl,Ra,es,ep,rfl,rfl,tq.at_,fun v hv=>?_⟩;obtain⟨H5,qN,s5,e5⟩:=Xl (o:=VwO v Ra) hv;rw[qN];have uo:=tq.mono s5;have Aa:=uZ.mono s5;have p5:=s5 _ _ p4;have NT:=GE.trans (Zd.k s5);have Lj:ZT H2 H5:=fun b xs e=>s5 _ _ (Mc b xs e);refine⟨(i:Int),v,Ra,es,ep,rfl,rfl,e5,uo.at_,fun e he=>(let ⟨q,_,e⟩:=uo.ent he; ⟨_,e⟩),fun b hb=>⟨_,rfl,?_⟩⟩;cases b with
  |false=>exact ZH ⟨_,_,_,_,_,sI,rfl,NT,Lj,p5,uo,Aa⟩
  |true=>
   refine ZS (va (m:=m) rfl rfl p5 lm fun H6 o AB x6 p6=>?_);have u6:ZT H5 H6:=Zm.u x6 p5 (fun _ z=>by cases z);have EZ:=uo.u (x6 _ _ wW uo.at_) u6;have wO:=Aa.u (x6 _ _ Cm Aa.at_) u6;refine⟨_,rfl,_,rfl,La,o6,pz,0,.i i,rfl,wO.at_,wO.keys,⟨(by show i<12;lia),rfl⟩,by rw[cQ];lia,fun pY=>?_⟩;have u7:=YN (o:=65 La (ZI o6 (.i i) (.int (i:Int)) (XR o)) pY) wO.at_ (fun _ z=>by cases z);exact⟨_,_,_,pY,_,AB,rfl,(NT.trans (Zm.k x6 39)).trans (WF.updK 39),fun b xs e=>u7 b xs (u6 b xs (Lj b xs e)),updK p6 Cm.symm,EZ.u (updK EZ.at_ wG) u7,wO.put (ep':=pY) 40 o⟩
 rintro U H4 ⟨Pg,Ht,o6,pz,Lf,sI,rfl,GE,Mc,p4,tq,uZ⟩;have x4:=SR GE;have DO:=ux.mono ((Wj x4).trans YM);cases DO with
 |loop w g way ring e ht=>
  refine⟨_,rfl,t,_,_,_,rfl,rfl,SqT.of ht,Zn (j:=0) rfl,rfl,_,rfl,?_⟩;rw[show decide (V.str "loop" = V.str "ranks")=false from by left];exact ZH ⟨_,rfl,_,rfl,by show 2<=sizeLine;rw[cQ];decide,fun t2 re=>fin x4 p4 wW Cm tq uZ t2 re⟩
 |ranks R0 L0 e ht hRT hLT=>
  refine⟨_,rfl,t,_,_,_,rfl,rfl,SqT.of ht,Zn (j:=0) rfl,rfl,_,rfl,?_⟩;rw[show decide (V.str "ranks" = V.str "ranks")=true from dy rfl];refine ZS ⟨_,rfl,p,sI,3,rfl,by left,p4,fun H5 n5 C1 x5 p5 n50 n51=>?_⟩;have u5:ZT H4 H5:=Zm.u x5 p4 (fun _ z=>by cases z);have uo:=tq.u (x5 _ _ wW tq.at_) u5;have Aa:=uZ.u (x5 _ _ Cm uZ.at_) u5;have A2:=x4.trans x5;refine⟨_,_,rfl,rfl,_,rfl,?_⟩
  by_cases c:(0:Int)<n5
  ·rw[show decide ((0:Int)<n5)=true from dy c];have sQ:=ux.mono ((Wj A2).trans YM);cases sQ with
   |loop w g way ring e' _=>rw[e] at e';cases e'
   |ranks R1 L1 e' ht5 hRT5 hLT5=>
   obtain⟨oy,oH,r0⟩:=hRT5.rkd rT EK rJ;obtain⟨Bm,OE,wE⟩:=hLT5.lkd;have lR5:=r0.len;have lL5:=wE.len;refine ZS ⟨_,rfl,t,_,_,_,rfl,rfl,SqT.of ht5,Zn (j:=1) rfl,R1,oy,oH,κ,rfl,r0.at_,r0.keys,fun Rb pR IZ=>?_⟩;obtain⟨H6,qN,s6,e6⟩:=Xl (o:=65 Rb oy pR) IZ;rw[qN];have Fu:Rb≠p:=fun z=>by rw[z,p5] at IZ;cases IZ
   have EZ:RkD κ a.Pm H6 Rb oy pR nd _:=⟨e6,fun x hx=>(r0.keys x hx).mono (nJ s6),r0.nodup,r0.sub,r0.val,r0.few⟩;have BF:=wE.mono s6;refine⟨_,rfl,t,_,_,_,rfl,rfl,SqT.of (s6 _ _ ht5),Zn (j:=2) rfl,L1,Bm,OE,0,rfl,BF.at_,BF.keys,fun Lb pY B0=>?_⟩;obtain⟨H7,qN,s7,e7⟩:=Xl (o:=65 Lb Bm pY) B0;rw[qN];have Cr:Lb≠p:=fun z=>by rw[z,s6 _ _ p5] at B0;cases B0
   have Ii:Rb≠Lb:=fun z=>by rw[<- z,e6] at B0;cases B0
   have Rn:=EZ.mono s7;have Tp:LkD a.Pm H7 Lb Bm pY _:=⟨e7,fun x hx=>(BF.keys x hx).mono (nJ s7),wE.nodup,wE.val⟩;have p7:=s7 _ _ (s6 _ _ p5);have T6:Zm p H H7:=A2.trans (Zd.x (s6.trans s7));refine⟨_,rfl,fun E hE=>?_⟩;obtain⟨H8,qN,s8,e8⟩:=Xl (o:=65 E [] 0) hE;rw[qN];have AA:=Rn.mono s8;have Md:=Tp.mono s8;have p8:=s8 _ _ p7;have Lo:=T6.trans (Zd.x s8);refine⟨Rb,E,oy,pR,0,rfl,rfl,AA.at_,e8,_,rfl,?_⟩;cases AM:oy with
   |nil=>
    rw[AM] at AA;exact ZH ⟨_,rfl,_,rfl,by show 2<=sizeLine;rw[cQ];decide,fun t2 re=>fin Lo p8 Fu Cr AA Md t2 re⟩
   |cons e0 er=>
    rw[<- AM];have l0:0<oy.length:=by rw[AM];simp
    have:(!oy.isEmpty)=true:=by rw[AM];rfl
    rw[this];refine ZS ⟨_,rfl,Rb,oy,pR,rfl,AA.at_,fun l hl=>?_⟩;obtain⟨H9,qN,s9,e9⟩:=Xl (o:=.lst (oy.map (·.2.1))) hl;rw[qN];have AR:l≠p:=fun z=>by rw[z,p8] at hl;cases hl
    have Dv:=AA.mono s9;have Mf:=Md.mono s9;have p9:=s9 _ _ p8;refine⟨_,rfl,_,rfl,Rb,oy,pR,rfl,Dv.at_,p,C1,_,rfl,by lia,p9,fun rX Ba DT x10 p10 PX Pi=>?_⟩;obtain⟨q,rfl⟩:∃q:Nat,Ba=q:=⟨Ba.toNat,by lia⟩;have hq:q<oy.length:=by lia
    have u10:ZT H9 rX:=Zm.u x10 p9 (fun _ z=>by cases z);have Bx:=Dv.u (x10 _ _ Fu Dv.at_) u10;have CS:=Mf.u (x10 _ _ Cr Mf.at_) u10;have em:=gE hq;obtain⟨k2,tS,AI⟩:=Bx.ent em;refine⟨l,_,_,oy[q].2.1,rfl,rfl,nH (x10 _ _ AR e9),Zn (by rw[dz,cR hq];rfl),?_⟩;refine va (m:=m) rfl rfl p10 lm fun rM o TU x11 p11=>?_;have u11:ZT rX rM:=Zm.u x11 p10 (fun _ z=>by cases z);have sx:=Bx.u (x11 _ _ Fu Bx.at_) u11;have Al:=CS.u (x11 _ _ Cr CS.at_) u11;refine⟨_,rfl,_,rfl,_,rfl,Rb,oy,pR,κ,oy[q].1,_,rfl,sx.at_,sx.keys,sx.keys _ em,zx sx.nodup em,?_⟩;rw[AI];have kl:=sx.few _ _ tS;refine⟨Lb,Bm,pY,0,.i k2,rfl,Al.at_,Al.keys,⟨kl,rfl⟩,by rw[cQ];lia,fun Ac=>?_⟩;have u12:=YN (o:=65 Lb (ZI Bm (.i k2) (.int (k2:Int)) (XR o)) Ac) Al.at_ (fun _ z=>by cases z);have x12:Zm Lb rM (upd rM Lb (65 Lb (ZI Bm (.i k2) (.int (k2:Int)) (XR o)) Ac)):=(Zm.refl rM).upd;have G8:H Lb=none:=by
     cases e:H Lb with
     |none=>rfl
     |some oo=>rw[s6 _ _ (A2 _ _ Cr e)] at B0;cases B0
    have x0:Zm p H (upd rM Lb (65 Lb (ZI Bm (.i k2) (.int (k2:Int)) (XR o)) Ac)):=fun b oo hb e=>by
     rw[upd_ne (fun z:b=Lb=>by rw[z,G8] at e;cases e)];exact x11 b oo hb (x10 b oo hb (s9 _ _ (Lo b oo hb e)))
    exact⟨_,rfl,_,rfl,by show 2<=sizeLine;rw[cQ];decide,fun t2 re=>fin x0 (updK p11 Cr.symm) Fu Cr (sx.u (updK sx.at_ Ii) u12) (Al.put (ep':=Ac) kl o) t2 re⟩
  ·rw[show decide ((0:Int)<n5)=false from dZ c];exact ZH ⟨_,rfl,_,rfl,by show 2<=sizeLine;rw[cQ];decide,fun t2 re=>fin A2 p5 wW Cm uo Aa t2 re⟩
def jI(K:W.Frag)(a:Adr):Sp:=fun vs H Q _=>jN fun(κ:Nat) (net p:Addr) (ns:70) (es:NE) (ep:Nat) (N:ND->37) (nd:37) (x:V) (d:ND)=>Cj8 (vs=[.ref net,.ref p,x]) (H p=79) (Wi κ a.Pm (YF p H) net es ep N nd) (nd.length<=12) (Nd κ H x d) (d∈nd) ((∀H' (ou:70),Zm p H H'->H' p=55->Q .non H')) (∀H' t w r wv rv wd rd (ou:70),Zm p H H'->H' p=55->H' t=some (.tup [.ref w,.ref r])->H' w=some (.lst wv)->H' r=some (.lst rv)->NdL κ H' wv wd->NdL κ H' rv rd->(∀d∈wd,d∈nd)->(∀d∈rd,d∈nd)->rd≠[]->wd.length<=13->rd.length<=13->w≠p->r≠p->H t=none->H w=none->H r=none->Q (.ref t) H')
theorem UN{a:Adr}:58 2 a.y28 a.z28 cu jI:=fun T hw=>by
 refine okX T.aL.f Wl 51;intro X
 let d1:Rdg X YD [1,0,1]:=⟨_,(Zg (@Y8 _ _ _ _ (Wk fJ gk gm Yg (pv 3) (@Za _ _ _ _ _ (ZJ 56 (pv 4) (ZV T.aa (ZC T hw) hr rfl rfl (@Za _ _ _ _ _ (pv 1) (@Za _ _ _ _ _ (Zl 91 rfl T.aA nN (@Za _ _ _ _ _ (pv 4) Ze rfl)) Ze rfl) rfl)) (fun _ _=>rfl)) Ze rfl)) rfl))⟩
 let d2:Rdg X YD [1,0,0]:=⟨_,(Zb (@Zo _ _ (4) _ _ _ _ Wl.nd rfl 34 (ZB hw 78 (pv 0) (ZJ 56 (pv 3) (XT Y5 Zi) (fun _ _=>rfl)) (fun _ _=>rfl)) rfl (.inl rfl)) d1.2)⟩
 let d3:Rdg X YD [4]:=⟨_,(Zg (Zs (@WA _ _ _ _ _ (@Za _ _ _ _ _ (YW (Y1 (K:=K) rfl) (pv 3) X0 (YG (pv 5))) (@Za _ _ _ _ _ (YW (Y1 (K:=K) rfl) (pv 3) (YG (pv 5)) (YG (XT Y5 Zi))) Ze rfl) rfl))))⟩
 let d4:Rdg X YD [3]:=⟨_,(Zb (@Zo _ _ (5) _ _ _ _ Wl.nd rfl 34 (Wk fJ PySem.F.slot_list_index PySem.F.type_list_index (Qf (Zq.units hr)) (pv 3) (@Za _ _ _ _ _ (ZJ 56 (pv 3) (XT Y5 Zi) (fun _ _=>rfl)) Ze rfl)) rfl (.inl rfl)) d3.2)⟩
 let d5:Rdg X YD [2]:=⟨_,(Zb (ZZ (Zy (VZ (K:=K) rfl (Zq.units2 hr)) (ZJ 56 (pv 3) (XT Y5 Zi) (fun _ _=>rfl)) (YW (Y1 (K:=K) rfl) (pv 3) X0 (YG (XT Y5 Zi))) (by with_unfolding_all rfl)) (Zg (Zs Wf)) Zt) d4.2)⟩
 let d6:Rdg X YD [1]:=⟨_,(Zb (X7 eJ (PW.pt (VC (Zy (VZ (K:=K) rfl (Zq.units2 hr)) (ZJ 56 (pv 3) (XT Y5 Zi) (fun _ _=>rfl)) (YW (Y1 (K:=K) rfl) (pv 3) X0 (YG (XT Y5 Zi))) (by with_unfolding_all rfl)) (WN (Zy (jf (K:=K) rfl (Zq.units hr)) (ZB hw 78 (pv 0) (ZJ 56 (pv 3) (XT Y5 Zi) (fun _ _=>rfl)) (fun _ _=>rfl)) (Yq Ze) (ZK _))))) d2.2) d5.2)⟩
 intro vs Q h;obtain⟨κ,net,p,ns,es,ep,N,nd,x,d,rfl,hp,hN,rJ,hx,dn,k1,k2⟩:=h;refine⟨_,(Zb (@Zo _ _ (3) _ _ _ _ Wl.nd rfl 34 (Yq (@Za _ _ _ _ _ (pv 2) Ze rfl)) rfl (.inl rfl)) d6.2),?_⟩;refine⟨_,rfl,by show 1<=sizeLine;rw[cQ];decide,fun R hR=>?_⟩;have wW:R≠p:=fun e=>by rw[e,hp] at hR;cases hR
 have s1:=Zh (o:=.lst [x]) hR;have e1:(upd H R (.lst [x])) R=some (.lst [x]):=Zc;generalize upd H R (.lst [x])=H1 at s1 e1 ⊢;refine⟨fun n U H'=>Ex5 fun(z4 z5:69) (rv:List V) (ds:37) (ou:70)=>Cj9 (U=[72,93,some x,qr0 R,z4,z5]) (Zm p H H') (H' p=55) (H' R=some (.lst rv)) (NdL κ H' rv ds) ((∀d∈ds,d∈nd)) (ds≠[]) ds.dropLast.Nodup (n=14-ds.length),⟨_,_,_,[x],[d],ns,rfl,Zd.x s1,s1 _ _ hp,e1,.cons (hx.mono (nJ s1)) .nil,(fun e he=>by rw[df] at he;subst he;exact dn),by simp,by simp,rfl⟩,?_⟩;clear e1 s1 H1;rintro n U H1 ⟨z4,z5,rv,ds,A9,rfl,x1,p1,r1,nr,Fb,dne,Cb,rfl⟩;obtain⟨ri,v,di,e,rfl,rfl,Cz,hv⟩:=j5 nr dne;rw[mU] at Cb;have en:e∈nd:=Fb e 39;have IF:∀d∈di,d∈nd:=fun d hd=>Fb d (by simp[hd]);have ldi:=ZN Cb IF;have lri:=Cz.len;have CI:=L2.atI_last ri v;refine⟨_,rfl,_,rfl,R,_,_,v,rfl,rfl,nH r1,CI,_,rfl,_,rfl,_,rfl,R,_,rfl,nH r1,fun S hS=>?_⟩;have cut:XN (ri++[v]) none (some (-1))=ri:=by rw[xi _ 39];simp
 rw[cut];have nSR:R≠S:=fun q=>by rw[q,hS] at r1;cases r1
 have s2:=Zh (o:=.lst ri) hS;have g2:(upd H1 S (.lst ri)) S=some (.lst ri):=Zc;generalize upd H1 S (.lst ri)=H2 at s2 g2 ⊢;have x2:Zm p H H2:=x1.trans (Zd.x s2);have p2:=s2 _ _ p1;have r2:=s2 _ _ r1;have wQ:=Cz.mono (nJ s2);have CJ:=hv.mono (nJ s2);refine nIn g2 wQ CJ (fun oP=>⟨_,rfl,ZH (ZH ?_)⟩) (fun r8=>⟨_,rfl,ZS ?_⟩)
 ·obtain⟨j,j1,j2⟩:=ZaJ oP;have hj:j<di.length:=(dk.mp j1).1;refine⟨_,rfl,_,rfl,R,_,_,v,rfl,rfl,nH r2,CI,_,rfl,_,rfl,_,rfl,R,_,rfl,nH r2,fun S2 tK=>?_⟩;rw[cut];have s3:=Zh (o:=.lst ri) tK;have g3:(upd H2 S2 (.lst ri)) S2=some (.lst ri):=Zc;generalize upd H2 S2 (.lst ri)=H3 at s3 g3 ⊢;have uK:=wQ.mono (nJ s3);have Bn:=CJ.mono (nJ s3);have r3:=s3 _ _ r2;refine nIn g3 uK Bn (fun _=>⟨_,rfl,ZH ?_⟩) (fun r8=>oh oP r8);refine⟨_,rfl,.inl ⟨rfl,_,nH r3⟩,_,rfl,_,rfl,R,_,_,v,rfl,rfl,nH r3,CI,R,_,v,j,κ,di++[e],e,rfl,rfl,r3,uK.app (.cons Bn .nil),Bn,by rw[gJ hj];exact j1,fun m hm=>by rw[gJ 40];exact j2 m hm,?_⟩;refine⟨_,rfl,_,rfl,_,rfl,R,_,rfl,nH r3,fun W hW=>?_⟩;rw[Km _ j (by rw[cZ];lia)];have s4:=Zh (o:=.lst ((ri++[v]).take j)) hW;have g4:(upd H3 W (.lst ((ri++[v]).take j))) W=some (.lst ((ri++[v]).take j)):=Zc;generalize upd H3 W (.lst ((ri++[v]).take j))=H4 at s4 g4 ⊢;refine⟨_,rfl,_,rfl,_,rfl,_,rfl,_,rfl,R,_,rfl,nH (s4 _ _ r3),fun Z hZ=>?_⟩;rw[Zce _ j (by rw[cZ];lia)];have ez:((ri++[v]).drop j).take ((ri++[v]).length-1-j)=ri.drop j:=by
   rw[List.drop_append_of_le_length 40,cZ,fB,ο (by rw[gL];lia),nB (by rw[gL];lia)]
  have ew:(ri++[v]).take j=ri.take j:=by rw[ο 40]
  rw[ez];rw[ew] at g4;have s5:=Zh (o:=.lst (ri.drop j)) hZ;have g5:(upd H4 Z (.lst (ri.drop j))) Z=some (.lst (ri.drop j)):=Zc;generalize upd H4 Z (.lst (ri.drop j))=H5 at s5 g5 ⊢;refine⟨by show 2<=sizeLine;rw[cQ];decide,fun t ht=>?_⟩;have s6:=Zh (o:=.tup [.ref W,.ref Z]) ht;have Bi:=((s3.trans s4).trans s5).trans s6;have Dk:=wQ.mono (nJ Bi);refine k2 _ t W Z (ri.take j) (ri.drop j) (di.take j) (di.drop j) A9 (x2.trans (Zd.x Bi)) (Bi _ _ p2) Zc ((s5.trans s6) _ _ g4) (s6 _ _ g5) (Dk.take j) (Dk.drop j) (fun d hd=>IF d (gA hd)) (fun d hd=>IF d (mz hd)) ?_ (by rw[dB];lia) (by rw[gL];lia) ?_ ?_ ?_ ?_ ?_
  ·intro q;have:=dt ζ q;rw[gL] at this;simp at this;lia
  ·intro q;rw[q,s3 _ _ p2] at hW;cases hW
  ·intro q;rw[q,s4 _ _ (s3 _ _ p2)] at hZ;cases hZ
  ·cases e:H t with
   |none=>rfl
   |some o=>rw[(s5 _ _ (s4 _ _ (s3 _ _ (x2 t o (fun q=>by rw[q,s5 _ _ (s4 _ _ (s3 _ _ p2))] at ht;cases ht) e))))] at ht;cases ht
  ·cases e:H W with
   |none=>rfl
   |some o=>rw[s3 _ _ (x2 W o (fun q=>by rw[q,s3 _ _ p2] at hW;cases hW) e)] at hW;cases hW
  ·cases e:H Z with
   |none=>rfl
   |some o=>rw[s4 _ _ (s3 _ _ (x2 Z o (fun q=>by rw[q,s4 _ _ (s3 _ _ p2)] at hZ;cases hZ) e))] at hZ;cases hZ
 ·have Ek:=hN.mono (Wj x2);have tP:=Ek.mono YM;obtain⟨lv,uE⟩:=tP.has0 e en;obtain⟨l,ws,rfl,P5,nw⟩:=Ek.val e lv uE;obtain⟨AR,hl⟩:=WZ P5;have HM:=nw.mono (nJ YM);refine⟨_,rfl,_,rfl,_,rfl,R,_,_,v,rfl,rfl,nH r2,CI,net,es,ep,κ,e,_,rfl,tP.at_,tP.keys,CJ,uE,by left,fun B hB=>?_⟩;have s3:=Zh (o:=.lst []) hB;have g3:(upd H2 B (.lst [])) B=some (.lst []):=Zc;generalize upd H2 B (.lst [])=H3 at s3 g3 ⊢;have x3:Zm p H H3:=x2.trans (Zd.x s3);have p3:=s3 _ _ p2;have r3:=s3 _ _ r2;have uK:=wQ.mono (nJ s3);have Bn:=CJ.mono (nJ s3);have Lc:=HM.mono (nJ s3);refine ZdR (s3 _ _ hl) Lc g3 (fun _=>⟨_,rfl,ZH ?_⟩) (fun oF=>⟨_,rfl,ZS ?_⟩)
  ·refine⟨_,rfl,_,rfl,R,_,_,v,rfl,rfl,nH r3,CI,_,rfl,_,rfl,_,rfl,R,_,rfl,nH r3,fun S2 tK=>?_⟩;rw[cut];have s4:=Zh (o:=.lst ri) tK;have g4:(upd H3 S2 (.lst ri)) S2=some (.lst ri):=Zc;generalize upd H3 S2 (.lst ri)=H4 at s4 g4 ⊢;exact nIn g4 (uK.mono (nJ s4)) (Bn.mono (nJ s4)) (fun oP=>oh oP r8) (fun _=>⟨_,rfl,ZS (k1 _ A9 (x3.trans (Zd.x s4)) (s4 _ _ p3))⟩)
  ·have L4:(di++[e]).Nodup:=by
    rw[fy];exact⟨Cb,by simp,fun a ha b hb q=>by rw[df] at hb;subst hb;subst q;exact r8 ha⟩
   have Ic:=ZN L4 (fun d hd=>Fb d hd);refine⟨fun U H'=>Ex5 fun(z4 z5:69) (rv:List V) (ds:37) (ou:70)=>Cj9 (U=[72,93,some x,qr0 R,z4,z5]) (Zm p H H') (H' p=55) (H' R=some (.lst rv)) (NdL κ H' rv ds) ((∀d∈ds,d∈nd)) (ds≠[]) ds.dropLast.Nodup (ds.length=(di++[e]).length+1),?_,?_⟩
   ·rintro σ' H' ⟨SV,SE,D5,LU,ou,rfl,a1,a2,a3,a4,a5,a6,a7,a8⟩;exact⟨14-LU.length,by lia,SV,SE,D5,LU,ou,rfl,a1,a2,a3,a4,a5,a6,a7,rfl⟩
   ·have HV:=hN.mono (Wj x3);have wR:=HV.mono YM;have tJ:=Lc.len;have lw0:=iG.mpr oF;refine⟨_,rfl,_,rfl,_,rfl,R,_,_,v,rfl,rfl,nH r3,CI,net,es,ep,κ,e,.ref l,rfl,wR.at_,wR.keys,Bn,uE,?_⟩;refine⟨_,rfl,.inl ⟨rfl,_,nH r3⟩,_,rfl,_,rfl,_,rfl,.inl ⟨l,_,rfl,.inl (nH (s3 _ _ hl)),p,A9,_,rfl,by lia,p3,fun H4 n4 sI x4 p4 n0 n1=>?_⟩⟩;have u4:ZT H3 H4:=Zm.u x4 p3 (fun _ z=>by cases z);obtain⟨q,rfl⟩:∃q:Nat,n4=q:=⟨n4.toNat,by lia⟩;have hq:q<ws.length:=by lia
    obtain⟨f,ef,hf⟩:=Lc.get (cR hq);have r4:=x4 _ _ wW r3;refine⟨l,_,_,ws[q],rfl,rfl,nH (x4 _ _ AR (s3 _ _ hl)),Zn (cR hq),R,_,_,rfl,rfl,r4,by rw[cQ,cZ,fB];simp only[cZ,fB] at Ic;lia,?_⟩;have u5:ZT H4 (upd H4 R (.lst ((ri++[v])++[ws[q]]))):=Zm.u ((Zm.refl H4).upd) r4 (fun _ z=>by cases z);refine⟨_,_,(ri++[v])++[ws[q]],(di++[e])++[f],sI,rfl,(x3.trans x4).updN hR,updK p4 wW.symm,Zc,?_,?_,by simp,by rw[mU];exact L4,by simp⟩
    ·exact(((uK.app (.cons Bn .nil)).mono u4).mono u5).app (.cons ((hf.mono u4).mono u5) .nil)
    ·intro d hd;rcases db.mp hd with h|h
     ·exact Fb d h
     ·rw[df] at h;subst h;exact hN.sub e en d (cY ef)
structure qo(κ:Nat)(H:Hp)(nd:37)(v:V)(wd rd:37):Prop where
 at_:∃(t w r:Addr) (wv rv:List V),v=.ref t/\H t=some (.tup [.ref w,.ref r])/\H w=some (.lst wv)/\H r=some (.lst rv)/\NdL κ H wv wd/\NdL κ H rv rd
 inW:∀d∈wd,d∈nd
 inR:∀d∈rd,d∈nd
 ne:rd≠[]
 lw:wd.length<=26
 lr:rd.length<=26
theorem qo.mono{κ:Nat}{H H':Hp}{nd:37}{v:V}{wd rd:37}(s:77)(h:qo κ H nd v wd rd):qo κ H' nd v wd rd:=
 ⟨let ⟨t,w,r,wv,rv,e,a,b,c,d,f⟩:=h.at_; ⟨t,w,r,wv,rv,e,s _ _ a,s _ _ b,s _ _ c,d.mono (nJ s),f.mono (nJ s)⟩,h.inW,h.inR,h.ne,h.lw,h.lr⟩
def kC(κ:Nat)(H:Hp)(nd:37)(vs:List V):Prop:=∀v∈vs,∃wd rd,qo κ H nd v wd rd
def xH(K:W.Frag)(a:Adr):Sp:=fun vs H Q _=>ZaM fun(κ:Nat) (net b p:Addr) (ns:70) (es:NE) (ep:Nat) (N:ND->37) (nd:37) (bv:List V) (bs:37)=>Qn (vs=[.ref net,.ref b,.ref p]) (H p=79) (Wi κ a.Pm (YF p H) net es ep N nd) (nd.length<=12) 112 (b≠p) (NdL κ H bv bs) ((∀d∈bs,d∈nd)) (bs≠[]) (bs.length<=12) (∀H' F fv (ou:70),Zm p H H'->H F=none->H' p=55->H' F=some (.lst fv)->fv.length<=6->kC κ (YF p H') nd fv->Q (.ref F) H')
theorem xq{a:Adr}:58 3 a.y31 a.z31 cw xH:=fun T hw=>by
 refine okX T.aR.f Y3 51;intro X
 let d1:Rdg X Yt [1,0,1,0,1,0,0]:=⟨_,(Zg (@Zo _ _ (5) _ _ _ _ Y3.nd rfl 34 (@WA _ _ _ _ _ (@Za _ _ _ _ _ (ZJ (Xd (K:=K) rfl) (pv 5) Zi (fun _ _=>rfl)) (@Za _ _ _ _ _ (Yd qp (ZJ (Xd (K:=K) rfl) (pv 5) Zi (fun _ _=>rfl)) (ZJ (Xd (K:=K) rfl) (pv 6) Zi (fun _ _=>rfl))) Ze rfl) rfl)) rfl (.inl rfl)))⟩
 let d2:Rdg X Yt [1,0,1,0,1]:=⟨_,(Vv (ZZ (PW.pt (VC (Zy zp (pv 6) Wf (ZK _)) (WN (Zy (zH (K:=K) rfl (Zq.units hr)) (ZJ (Xd (K:=K) rfl) (pv 6) Zi (fun _ _=>rfl)) (Yq Ze) (ZK _))))) d1.2 Zt) (Zg (@Y8 _ _ _ _ (Wk fJ gk gm Yg (pv 3) (@Za _ _ _ _ _ (pv 5) Ze rfl)) rfl)))⟩
 let d3:Rdg X Yt [1,0,1,0,0]:=⟨_,(Zb (@Zo _ _ (6) _ _ _ _ Y3.nd rfl 34 (ZV T.aL (UN T hw) hr rfl rfl (@ZX _ _ _ _ _ (pv 0) (@ZX _ _ _ _ _ (pv 2) (@ZX _ _ _ _ _ (ZJ 56 (ZJ (Xd (K:=K) rfl) (pv 5) Zi (fun _ _=>rfl)) Zi (fun _ _=>rfl)) Ze rfl) rfl) rfl)) rfl (.inl rfl)) d2.2)⟩
 let d4:Rdg X Yt [1,0,1]:=⟨_,(Zg (ZZ (Zy zp (pv 5) Wf (ZK _)) d3.2 Zt))⟩
 let d5:Rdg X Yt [1,0,0]:=⟨_,(Zb (@Zo _ _ (5) _ _ _ _ Y3.nd rfl 34 (ZV T.aL (UN T hw) hr rfl rfl (@ZX _ _ _ _ _ (pv 0) (@ZX _ _ _ _ _ (pv 2) (@ZX _ _ _ _ _ (ZJ 56 (pv 1) (ZV T.aa (ZC T hw) hr rfl rfl (@Za _ _ _ _ _ (pv 2) (@Za _ _ _ _ _ (Zl 91 rfl T.aA nN (@Za _ _ _ _ _ (pv 1) Ze rfl)) Ze rfl) rfl)) (fun _ _=>rfl)) Ze rfl) rfl) rfl)) rfl (.inl rfl)) d4.2)⟩
 let d6:Rdg X Yt [1]:=⟨_,(Zb (YS eJ rfl (Xu rfl T.aG (@Za _ _ _ _ _ Zi Ze rfl)) (Zk (i:=4) Y3.nd rfl 34) d5.2) (Zg (Zs (pv 3))))⟩
 intro vs Q h;obtain⟨κ,net,b,p,ns,es,ep,N,nd,bv,bs,rfl,hp,hN,rJ,hb,NI,nb,bn,bne,lb,k⟩:=h;refine⟨_,(Zb (@Zo _ _ (3) _ _ _ _ Y3.nd rfl 34 (Yq Ze) rfl (.inl rfl)) d6.2),?_⟩;refine⟨by left,fun F hF=>?_⟩;obtain⟨H1,qN,s1,e1⟩:=Xl (o:=.lst []) hF;rw[qN];have BV:F≠p:=fun z=>by rw[z,hp] at hF;cases hF
 have wK:=nb.len;have l0:=iG.mpr bne;refine⟨6,rfl,by left,by left,?_⟩
 let J1:Nat->L2.St->Hp->Prop:=fun i U H'=>∃(z4 z5 z6:69) (fv:List V) (ou:70),U=[72,98,93,qr0 F,z4,z5,z6]/\Zm p H H'/\H' p=55/\H' F=some (.lst fv)/\fv.length<=i/\kC κ (YF F (YF p H')) nd fv
 refine WY (n:=6) J1 ?_ ?_ ?_
 ·exact⟨_,_,_,[],ns,rfl,Zd.x s1,s1 _ _ hp,e1,cP _,fun v hv=>by cases hv⟩
 ·rintro i U H2 hi ⟨z4,z5,z6,fv,Iv,rfl,x2,p2,f2,lf,hl⟩;have FK:=x2 _ _ NI hb;refine⟨_,rfl,_,rfl,_,rfl,_,rfl,_,rfl,.inl ⟨b,_,rfl,.inl (nH FK),p,Iv,_,rfl,by lia,p2,fun H4 n4 sI x4 p4 F5 MA=>?_⟩⟩;have Dc:=x2.trans x4;obtain⟨q,rfl⟩:∃q:Nat,n4=q:=⟨n4.toNat,by lia⟩;have hq:q<bv.length:=by lia
  have OX:ZT H H4:=Zm.u Dc hp (fun _ z=>by cases z);obtain⟨d,ed,nx⟩:=(nb.mono OX).get (cR hq);have sR:∀{G G':Hp},Zm p G G'->kC κ (YF F (YF p G)) nd fv->kC κ (YF F (YF p G')) nd fv:=fun {G G'} x h v hv=>let ⟨wd,rd,l⟩:=h v hv; ⟨wd,rd,l.mono (Wj (Zd.x (Wj x)))⟩
  have ML:=sR x4 hl;have f4:=x4 _ _ BV f2;refine⟨b,_,_,bv[q],rfl,rfl,nH (Dc _ _ NI hb),Zn (cR hq),κ,net,p,sI,es,ep,N,nd,bv[q],d,rfl,p4,hN.mono (Wj Dc),rJ,nx,bn d (cY ed),fun H5 C1 x5 p5=>?_,fun H5 t w r wv rv wd rd C1 x5 p5 et ew er nw nr wn rn IQ lw lr E7 He wu Fv sg=>?_⟩
  ·refine⟨_,rfl,rfl,_,rfl,?_⟩;rw[show(!decide (V.non=V.non))=false from by simp];exact ZH ⟨_,_,_,fv,C1,rfl,Dc.trans x5,p5,x5 _ _ BV f4,by lia,sR x5 ML⟩
  ·have A2:=Dc.trans x5;have f5:=x5 _ _ BV f4;have CO:=sR x5 ML;have ntF:t≠F:=fun z=>by rw[z,f4] at wu;cases wu
   have Ox:w≠F:=fun z=>by rw[z,f4] at Fv;cases Fv
   have S9:r≠F:=fun z=>by rw[z,f4] at sg;cases sg
   have HQ:t≠p:=fun z=>by rw[z,p5] at et;cases et
   have LD:∀{G:Hp},Zm p H5 G->qo κ (YF F (YF p G)) nd (.ref t) wd rd:=fun {G} x=>by
    have pG:ZT H5 (YF F (YF p G)):=fun c xs e=>by
     have n1:c≠p:=fun z=>by rw[z,p5] at e;cases e
     have n2:c≠F:=fun z=>by rw[z,f5] at e;cases e
     exact Z0 n2 (Z0 n1 (x c _ n1 e))
    exact⟨⟨t,w,r,wv,rv,rfl,Z0 ntF (Z0 HQ (x _ _ HQ et)),Z0 Ox (Z0 E7 (x _ _ E7 ew)),Z0 S9 (Z0 He (x _ _ He er)),nw.mono pG,nr.mono pG⟩,wn,rn,IQ,by lia,by lia⟩
   refine⟨_,rfl,rfl,_,rfl,?_⟩;rw[show(!decide (V.ref t=V.non))=true from by simp];obtain⟨d0,EI⟩:∃d0,rd[0]?=some d0:=by
    cases rd with
    |nil=>exact oh rfl IQ
    |cons d r=>exact⟨d,rfl⟩
   obtain⟨v0,Dn,Cu⟩:=nr.get' EI;have app:∀{G:Hp}{t':Addr}{z9:69}{Ab wN:37}{ou:70},Zm p H5 G->G p=55->qo κ (YF F (YF p G)) nd (.ref t') Ab wN->∃(z4 z5 z6:69) (Gb:List V) (ou:70),[some (V.ref net),98,93,qr0 F,some (.int 116),qr0 t',z9]=[some (V.ref net),98,93,qr0 F,z4,z5,z6]/\Zm p H (upd G F (.lst (fv++[.ref t'])))/\(upd G F (.lst (fv++[.ref t']))) p=55/\(upd G F (.lst (fv++[.ref t']))) F=some (.lst Gb)/\Gb.length<=i+1/\kC κ (YF F (YF p (upd G F (.lst (fv++[.ref t']))))) nd Gb:=fun {G t' z9 Ab wN ou} x hG lp=>by
    have sm:Zd (YF F (YF p G)) (YF F (YF p (upd G F (.lst (fv++[.ref t']))))):=fun c o e=>by
     obtain⟨n2,e⟩:=WZ e;obtain⟨n1,e⟩:=WZ e;exact Z0 n2 (Z0 n1 (by rw[upd_ne n2];exact e))
    refine⟨_,_,_,fv++[.ref t'],ou,rfl,(A2.trans x).updN hF,updK hG BV.symm,Zc,by rw[cZ,fB];lia,fun v hv=>?_⟩;rcases db.mp hv with hv|hv
    ·obtain⟨wd,rd,l⟩:=sR x CO v hv;exact⟨wd,rd,l.mono sm⟩
    ·rw[df] at hv;subst hv;exact⟨Ab,wN,lp.mono sm⟩
   refine ZS ⟨_,rfl,_,rfl,_,rfl,t,_,_,_,rfl,rfl,SqT.of et,Zn (j:=1) rfl,r,_,_,v0,rfl,rfl,nH er,Zn (j:=0) Dn,κ,net,p,C1,es,ep,N,nd,v0,d0,rfl,p5,hN.mono (Wj A2),rJ,Cu,rn d0 (cY EI),fun H6 AB x6 p6=>?_,fun H6 t2 w2 r2 wv2 tD wd2 R5 AB x6 p6 DD Rf RZ HM Oj wn2 RM O6 lw2 lr2 O2 S6 Sc Sl SG=>?_⟩
   ·refine⟨fun U H'=>Ex5 fun(t':Addr) (z6:69) (Ab wN:37) (ou:70)=>Cj4 (U=[72,98,93,qr0 F,some (.int 116),qr0 t',z6]) (Zm p H5 H') (H' p=55) (qo κ (YF F (YF p H')) nd (.ref t') Ab wN),?_,?_⟩
    ·refine⟨_,rfl,rfl,_,rfl,?_⟩;rw[show(!decide (V.non=V.non))=false from by simp];exact ZH ⟨t,_,wd,rd,AB,rfl,x6,p6,LD x6⟩
    ·rintro σ' H' ⟨t',z6,Ab,wN,ou,rfl,x,BI,lp⟩;have Df:=x _ _ BV f5;exact⟨_,rfl,.inl ⟨rfl,_,nH Df⟩,_,rfl,F,_,_,rfl,rfl,Df,by rw[cQ];lia,app x BI lp⟩
   ·refine⟨fun U H'=>Ex5 fun(t':Addr) (z6:69) (Ab wN:37) (ou:70)=>Cj4 (U=[72,98,93,qr0 F,some (.int 116),qr0 t',z6]) (Zm p H5 H') (H' p=55) (qo κ (YF F (YF p H')) nd (.ref t') Ab wN),?_,?_⟩
    ·refine⟨_,rfl,rfl,_,rfl,?_⟩;rw[show(!decide (V.ref t2=V.non))=true from by simp];refine ZS ⟨_,rfl,t2,_,_,_,rfl,rfl,SqT.of DD,Zn (j:=0) rfl,by left,fun B hB=>?_⟩;obtain⟨H7,qN,s7,e7⟩:=Xl (o:=.lst []) hB;rw[qN];have Br:=x6.trans (Zd.x s7);refine Zct (s7 _ _ Rf) (HM.mono (nJ s7)) e7 (fun _=>⟨_,rfl,ZS ?_⟩) (fun _=>⟨_,rfl,ZH ⟨t,_,wd,rd,AB,rfl,Br,s7 _ _ p6,LD Br⟩⟩);have N7:=Br _ _ HQ et;have SB:=Br _ _ He er;have uX:=nr.len;have OI:=Oj.len;refine⟨_,rfl,t,_,_,_,rfl,rfl,SqT.of N7,Zn (j:=0) rfl,_,rfl,t,_,_,_,rfl,rfl,SqT.of N7,Zn (j:=1) rfl,_,rfl,t2,_,_,_,rfl,rfl,SqT.of (s7 _ _ DD),Zn (j:=1) rfl,r,r2,rv,tD,rfl,rfl,SB,s7 _ _ RZ,by rw[cQ];lia,fun c hc=>?_⟩;obtain⟨H8,qN,s8,e8⟩:=Xl (o:=.lst (rv++tD)) hc;rw[qN];refine⟨by show 2<=sizeLine;rw[cQ];decide,fun t3 Tj=>?_⟩;obtain⟨H9,qN,s9,e9⟩:=Xl (o:=.tup [.ref w,.ref c]) Tj;rw[qN];have FO:=s8.trans s9;have NY:=Br.trans (Zd.x FO);have p7:=s7 _ _ p6;have p9:=FO _ _ p7;have f7:=Br _ _ BV f5;have f9:=FO _ _ f7;have Bf:ZT H7 (YF F (YF p H9)):=fun cc xs e=>by
      have n1:cc≠p:=fun z=>by rw[z,p7] at e;cases e
      have n2:cc≠F:=fun z=>by rw[z,f7] at e;cases e
      exact Z0 n2 (Z0 n1 (FO _ _ e))
     have Nh:ZT H5 H7:=Zm.u Br p5 (fun _ z=>by cases z);have OQ:c≠p:=fun z=>by rw[z,p7] at hc;cases hc
     have ncF:c≠F:=fun z=>by rw[z,f7] at hc;cases hc
     have IH:t3≠p:=fun z=>by rw[z,p9] at e9;cases e9
     have IY:t3≠F:=fun z=>by rw[z,f9] at e9;cases e9
     have TF:=NY _ _ E7 ew;refine⟨t3,_,wd,rd++R5,AB,rfl,NY,p9,⟨⟨t3,w,c,wv,rv++tD,rfl,Z0 IY (Z0 IH e9),Z0 Ox (Z0 E7 TF),Z0 ncF (Z0 OQ (s9 _ _ e8)),((nw.mono Nh).mono Bf),((nr.mono Nh).mono Bf).app ((Oj.mono (nJ s7)).mono Bf)⟩,wn,fun d hd=>?_,by simp[IQ],by lia,by rw[cZ];lia⟩⟩;rcases db.mp hd with h|h
     ·exact rn d h
     ·exact RM d h
    ·rintro σ' H' ⟨t',z6,Ab,wN,ou,rfl,x,BI,lp⟩;have Df:=x _ _ BV f5;exact⟨_,rfl,.inl ⟨rfl,_,nH Df⟩,_,rfl,F,_,_,rfl,rfl,Df,by rw[cQ];lia,app x BI lp⟩
 ·rintro U H2 ⟨z4,z5,z6,fv,Iv,rfl,x2,p2,f2,lf,hl⟩;exact⟨_,rfl,k _ F fv Iv x2 hF p2 f2 lf fun v hv=>let ⟨wd,rd,l⟩:=hl v hv; ⟨wd,rd,l.mono YM⟩⟩
def zg(K:W.Frag)(a:Adr):Sp:=fun vs H Q _=>ZdN fun(κ:Nat) (net mk b w r:Addr) (es oq:NE) (ep oE:Nat) (N:ND->37) (M:ND->71) (n:Nat) (ns:37) (bv wv rv:List V) (bs wd rd:37)=>Zei (vs=[.ref net,.ref mk,.ref b,.ref w,.ref r]) (Wi κ a.Pm H net es ep N ns) (X9 κ a.Pm H mk oq oE M n ns) 112 (NdL κ H bv bs) (H w=some (.lst wv)) (NdL κ H wv wd) (H r=some (.lst rv)) (NdL κ H rv rd) (rd≠[]) ((∀d∈wd,d∈ns)) ((∀d∈rd,d∈ns)) (wd.length<=300) (rd.length<=300) (∀H',77->Q (.bl (YR N M n bs wd rd)) H')
theorem qX{N:ND->37}:∀{row:37}{i:Nat},(∀j,j<i->∀x y,row[j]?=some x->row[j+1]?=some y->y∈N x)->row.length<=i+1->ZA N row=true
 |[],_,_,_=>rfl
 |[_],_,_,_=>rfl
 |x::y::r,i,h,hl=>by
  unfold ZA;have h0:=h 0 (by simp at hl;lia) x y rfl rfl;rw[dy h0,g9];refine qX (i:=i-1) (fun j hj u v e1 e2=>h (j+1) 40 u v (by simpa using e1) (by simpa using e2)) (by simp at hl ⊢; lia)
theorem ka{N:ND->37}:∀{row:37}{j:Nat}{x y:ND},row[j]?=some x->row[j+1]?=some y->y∉N x->ZA N row=false
 |[],j,x,y,e,_,_=>by simp at e
 |[_],j,x,y,_,e,_=>by simp at e
 |u::v::r,0,x,y,e1,e2,h=>by
  simp at e1 e2;subst e1;subst e2;unfold ZA;rw[dZ h,gu]
 |u::v::r,j+1,x,y,e1,e2,h=>by
  unfold ZA;rw[ka (row:=v::r) (j:=j) (by simpa using e1) (by simpa using e2) h,iA]
theorem zm{a:Adr}:58 1 a.y29 a.z29 cx zg:=fun T hw=>by
 refine okX T.aE.f YV 51;intro X
 let d1:Rdg X Z8 [1,0,0]:=⟨_,(Zg (ZZ (PW.pt (Ua (WT (Xs hw 78 (pv 6) (pv 0))) (Ua (WT (Xs hw 78 (pv 7) (pv 0))) (Vy (Zy (VZ (K:=K) rfl (Zq.units2 hr)) (pv 7) (ZB hw 78 (pv 0) (pv 6) (fun _ _=>rfl)) (by with_unfolding_all rfl)))))) 110 Zt))⟩
 let d2:Rdg X Z8 [3,0,0]:=⟨_,(Zg (ZZ (Xh (YB (Zl (WU (K:=K) rfl rfl) rfl T.bA nO (@Za _ _ _ _ _ (Xz (Nc:=cK) (ix:=[none,some 8,some 1]) (ZD.of (by left:ZW (Zj Z8) VM _ _ _=true)) rfl (ZF (K:=K) rfl (pv 4)) (fun _ _ _ _ _=>(Zk (i:=0) (show δ cK by left) rfl 34)) (fun _ _ _ _ _=>Z3) (fun _ _ _ _ _=>(ZJ 56 (ZB hw 78 (pv 2) (pv 0) (fun _ _=>rfl)) (pv 1) (fun _ _=>rfl)))) Ze rfl)))) 110 Zt))⟩
 let d3:Rdg X Z8 [3]:=⟨_,(Zb (YS eJ rfl (Xu rfl T.aG (@Za _ _ _ _ _ (Zl 91 rfl T.aA nN (@Za _ _ _ _ _ (ZB hw 78 (pv 1) (ZJ 56 (pv 4) Zi (fun _ _=>rfl)) (fun _ _=>rfl)) Ze rfl)) Ze rfl)) (Zk (i:=8) YV.nd rfl 34) d2.2) 110)⟩
 let d4:Rdg X Z8 [2]:=⟨_,(Zb (ZZ (Zy (VZ (K:=K) rfl (Zq.units2 hr)) (ZJ 56 (pv 5) Zi (fun _ _=>rfl)) (pv 2) (by with_unfolding_all rfl)) 110 Zt) d3.2)⟩
 let d5:Rdg X Z8 [1]:=⟨_,(Zb (YS eJ rfl (ZbF (K:=K) rfl rfl T.bC (@Za _ _ _ _ _ (pv 5) (@Za _ _ _ _ _ (YW (Y1 (K:=K) rfl) (pv 5) (YG Zi) X0) Ze rfl) rfl)) (WK (K:=K) (n:=2) rfl rfl (Yc (Zk (i:=6) YV.nd rfl 34) (Yc (Zk (i:=7) YV.nd rfl 34) WM))) d1.2) d4.2)⟩
 intro vs Q h;obtain⟨κ,net,mk,b,w,r,es,oq,ep,oE,N,M,n,ns,bv,wv,rv,bs,wd,rd,rfl,hN,hM,hb,nb,Rz,nw,py,nr,oF,wn,rn,l1,l2,k⟩:=h;refine⟨_,(Zb (@Zo _ _ (5) _ _ _ _ YV.nd rfl 34 (Yd qp (Yd qp (pv 3) (pv 4)) (YW (Y1 (K:=K) rfl) (pv 4) X0 (YG Zi))) rfl (.inl rfl)) d5.2),?_⟩;have lw:=nw.len;have lr:=nr.len;refine⟨_,rfl,_,rfl,w,r,wv,rv,rfl,rfl,Rz,py,by rw[cQ];lia,fun p1 A4=>?_⟩;have s1:=Zh (o:=.lst (wv++rv)) A4;have e1:(upd H p1 (.lst (wv++rv))) p1=some (.lst (wv++rv)):=Zc;generalize upd H p1 (.lst (wv++rv))=H1 at s1 e1 ⊢;refine⟨_,rfl,1,rfl,r,rv,rfl,nH (s1 _ _ py),fun p2 ut=>?_⟩;rw[zP];have s2:=s1.trans (Zh (o:=.lst (rv.take 1)) ut);have e2:(upd H1 p2 (.lst (rv.take 1))) p2=some (.lst (rv.take 1)):=Zc;have Dl:=Zh (o:=.lst (rv.take 1)) ut _ _ e1;generalize upd H1 p2 (.lst (rv.take 1))=H2 at s2 e2 Dl ⊢;refine⟨p1,p2,_,_,rfl,rfl,Dl,e2,by rw[cQ,cZ,dB];lia,fun R hR=>?_⟩;have s3:=s2.trans (Zh (o:=.lst (wv++rv++rv.take 1)) hR);have e3:(upd H2 R (.lst (wv++rv++rv.take 1))) R=some (.lst (wv++rv++rv.take 1)):=Zc;generalize upd H2 R (.lst (wv++rv++rv.take 1))=H3 at s3 e3 ⊢;have Ag:=((nw.app nr).app (nr.take 1)).mono (nJ s3);have D4:wd++rd++rd.take 1≠[]:=by simp[oF]
 have ue:∀d∈wd++rd++rd.take 1,d∈ns:=fun d hd=>by
  rcases db.mp hd with h|h
  ·rcases db.mp h with h|h
   ·exact wn d h
   ·exact rn d h
  ·exact rn d (gA h)
 have HU:(wd++rd++rd.take 1).length<=1000:=by simp only[cZ,dB];lia
 have ek:∀H',77->Q (.bl (ZA N (wd++rd++rd.take 1)&&Vi bs (wd++rd++rd.take 1)&&Yb M n rd)) H':=k;generalize wd++rd++rd.take 1=row at Ag D4 ue HU ek;generalize wv++rv++rv.take 1=rD at e3 Ag;have uX:=Ag.len;refine⟨_,rfl,_,rfl,1,rfl,R,_,rfl,nH e3,fun R2 r6=>?_⟩;rw[Zas];have s4:=s3.trans (Zh (o:=.lst (rD.drop 1)) r6);have e4:(upd H3 R2 (.lst (rD.drop 1))) R2=some (.lst (rD.drop 1)):=Zc;have Ca:=Zh (o:=.lst (rD.drop 1)) r6 _ _ e3;have sX:=Ag.mono (nJ (Zh (o:=.lst (rD.drop 1)) r6));generalize upd H3 R2 (.lst (rD.drop 1))=H4 at s4 e4 Ca sX ⊢;refine⟨R,R2,_,_,rfl,nH Ca,nH e4,?_⟩
 let J1:Nat->L2.St->Hp->Prop:=fun i U H'=>Ex3 fun(z1 z2 z3:69)=>Cj3 (U=[72,qr0 mk,98,qr0 w,qr0 r,qr0 R,z1,z2,z3]) (Zd H4 H') (∀j,j<i->∀x y,row[j]?=some x->row[j+1]?=some y->y∈N x)
 refine JX (J:=Itz K R R2) (n:=rD.length-1) J1 ?_ ?_ ?_ ?_ ?_
 ·exact⟨_,_,_,rfl,.refl _,fun j hj=>oh hj (hU _)⟩
 ·rintro i U H' hi ⟨z1,z2,z3,rfl,sm,_⟩;refine⟨_,_,rD[i],rD[i+1],nH (sm _ _ Ca),nH (sm _ _ e4),cR 40,?_⟩;rw[lQ,Nat.add_comm];exact cR 40
 ·rintro U H' ⟨z1,z2,z3,rfl,sm,_⟩;exact⟨_,_,nH (sm _ _ Ca),nH (sm _ _ e4),.inr 39⟩
 ·rintro i x U H5 H6 hi ⟨z1,z2,z3,rfl,sm,ha⟩ ⟨pr,v,u,rfl,Hc,rfl,hx,hy⟩;have hx:=hx _ (nH (sm _ _ Ca));have hy:=hy _ (nH (sm _ _ e4));rw[lQ,Nat.add_comm] at hy;have s6:=sm.trans (Zh (o:=.tup [v,u]) Hc);have g6:(upd H5 pr (.tup [v,u])) pr=some (.tup [v,u]):=Zc;generalize upd H5 pr (.tup [v,u])=H6 at s6 g6 ⊢;have Oo:=s4.trans s6;obtain⟨dv,ev,nv⟩:=(sX.mono (nJ s6)).get hx;obtain⟨du,eu,nu⟩:=(sX.mono (nJ s6)).get hy;have Ad:=hN.mono Oo;have vn:=ue dv (cY ev);have un:=ue du (cY eu);obtain⟨lv,uE⟩:=Ad.has0 dv vn;obtain⟨lu,To⟩:=Ad.has0 du un;obtain⟨l,ws,rfl,hl,PF⟩:=Ad.val dv lv uE;refine⟨pr,_,rfl,SqT.of g6,rfl,_,_,rfl,_,_,rfl,rfl,?_⟩;refine⟨_,rfl,_,rfl,net,es,ep,κ,dv,rfl,Ad.at_,Ad.keys,nv,?_⟩;rw[uE];refine⟨_,rfl,ZH ?_⟩;refine⟨_,rfl,_,rfl,net,es,ep,κ,du,rfl,Ad.at_,Ad.keys,nu,?_⟩;rw[To];refine⟨_,rfl,ZH ?_⟩;refine⟨_,rfl,_,rfl,_,rfl,net,es,ep,κ,dv,_,rfl,Ad.at_,Ad.keys,nv,uE,nIn hl PF nu (fun oP=>⟨_,rfl,ZH ?_⟩) (fun r8=>⟨_,rfl,ZS ?_⟩)⟩
  ·refine⟨_,_,_,rfl,s6,fun j hj x y q1 q2=>?_⟩;rcases fe j i with h|h
   ·exact ha j h x y q1 q2
   ·have:j=i:=by lia
    subst this;rw[ev] at q1;rw[eu] at q2;cases q1;cases q2;exact oP
  ·have q:=ek _ Oo;rw[ka ev eu r8,gu,gu] at q;exact q
 ·rintro U H5 ⟨z1,z2,z3,rfl,sm,ha⟩;have Aj:=s4.trans sm;have hc:ZA N row=true:=qX ha 40;have Ey:=sX.mono (nJ sm);cases row with
  |nil=>exact oh rfl D4
  |cons d0 ZG=>
  obtain⟨v0,Dn,Cu⟩:=Ey.get' (i:=0) (d:=d0) rfl;have Fs:=nb.mono (nJ Aj);refine⟨_,rfl,R,_,_,v0,rfl,rfl,nH (sm _ _ Ca),Zn (j:=0) Dn,_,rfl,nIn (Aj _ _ hb) Fs Cu (fun oP=>⟨_,rfl,ZH ?_⟩) (fun r8=>⟨_,rfl,ZS ?_⟩)⟩
  ·have hd:Vi bs (d0::ZG)=true:=dy oP;have sW:=hM.mono Aj;have wl:=nr.mono (nJ Aj);obtain⟨d,ed⟩:∃d,rd[0]?=some d:=by
    cases rd with
    |nil=>exact oh rfl oF
    |cons d r=>exact⟨d,rfl⟩
   obtain⟨v,ev,nv⟩:=wl.get' ed;have dm:=rn d (cY ed);obtain⟨mv,uH⟩:=sW.has0 d dm;obtain⟨ml,rfl,wf⟩:=sW.val d mv uH;have lm:=sW.len d dm;have fw:=sW.few;refine⟨_,rfl,_,rfl,r,_,_,_,rfl,rfl,nH (Aj _ _ py),Zn (j:=0) ev,mk,oq,oE,κ,d,_,rfl,sW.at_,sW.keys,nv,uH,.inl ⟨ml,_,rfl,.inl (nH wf),?_⟩⟩;refine⟨_,rfl,by rw[cS];lia,by rw[cS];lia,?_⟩;rw[cS,lm];have AI:∀H',77->Q (.bl (Yb M n rd)) H':=fun H' s=>by
    have q:=ek H' s;rw[hc,hd,g9,g9] at q;exact q
   let J2:Nat->L2.St->Hp->Prop:=fun i U H'=>Ex3 fun(z1 z2 z3:69)=>Cj3 (U=[72,qr0 mk,98,qr0 w,qr0 r,qr0 R,z1,z2,z3]) (Zd H5 H') (Yb M i rd=true)
   refine WY (n:=n) J2 ?_ ?_ ?_
   ·exact⟨_,_,_,rfl,.refl _,rfl⟩
   ·rintro i U H6 hi ⟨z1,z2,z3,rfl,A7,FB⟩;have hM6:=sW.mono A7;have By:=wl.mono (nJ A7);have uY:=A7 _ _ (Aj _ _ py);refine⟨_,rfl,r,rfl,⟨_,nH uY⟩,fun D hD=>?_⟩;refine Vw (K:=K) hD (nH uY) (by rw[cQ];lia) (fun j v _=>∀e,rd[j]?=some e->v=.bl ((M e).getD i false)) (fun _ _ _ _ _ q=>q) ?_ ?_
    ·intro j x H3 Nx hx s3 wB;obtain⟨e,ee,ne⟩:=By.get hx;have ro:=hM6.mono s3;have em:=rn e (cY ee);obtain⟨xv,wo⟩:=ro.has0 e em;obtain⟨xl,rfl,wS⟩:=ro.val e xv wo;have lx:=ro.len e em;refine⟨_,rfl,_,rfl,mk,oq,oE,κ,e,_,rfl,ro.at_,ro.keys,ne.mono (nJ s3),wo,_,rfl,xl,_,_,.bl ((M e).getD i false),rfl,rfl,nH wS,?_,?_⟩
     ·rw[mj];refine Zn (j:=i) ?_;rw[dz,gH,cR 40];rfl
     ·refine wB _ _ (.refl _) fun e' h'=>?_;rw[ee] at h';cases h';rfl
    ·intro H3 ys sG s3 yl tz;have ey:=yu (f:=fun e=>(M e).getD i false) 40 fun j v e h1 h2=>tz j v h1 e h2;refine⟨D,_,rfl,nH (by rw[sG,ey]),_,rfl,?_⟩;rw[Vc];cases c:rd.any (fun e=>(M e).getD i false) with
     |false=>
      have q:=AI _ ((Aj.trans A7).trans s3);rw[Ui hi c] at q;exact ZS q
     |true=>
      refine ZH ⟨_,_,_,rfl,A7.trans s3,?_⟩;unfold Yb at FB ⊢;rw[lH,List.all_append,FB];simp only[lE,List.all_nil,c];rfl
   ·rintro U H6 ⟨z1,z2,z3,rfl,A7,FB⟩;have q:=AI _ (Aj.trans A7);rw[FB] at q;exact q
  ·have hd:Vi bs (d0::ZG)=false:=dZ r8;have q:=ek _ Aj;rw[hd,iA,gu] at q;exact q
def xP(K:W.Frag)(a:Adr):Sp:=fun vs H Q _=>Ex1 fun(c:Int)=>Cj2 (vs=[.int c]) (∀H' L us κ,77->H L=none->H' L=some (.lst us)->jK κ H' us->κ<4->us≠[]->us.length<=12->Q (.ref L) H')
theorem xB{a:Adr}:58 1 a.y26 a.z26 ["_law_cell"] xP:=fun T hw=>by
 refine okX T.aQ.f XZ 51;intro X
 let d1:Rdg X YT [3]:=⟨_,(Zg (Zs (Zl (yB hw rfl (Zq.units12 hr)) rfl T.bf nX (@Za _ _ _ _ _ (YK (vp (K:=K) rfl hw rfl (Zq.units12 hr)) rfl T.bz nY (@Za _ _ _ _ _ (pv 2) Ze rfl)) Ze rfl))))⟩
 let d2:Rdg X YT [2]:=⟨_,(Zb (Wy (i:=2) XZ.nd rfl rfl (Nc:=["_law_k","_law_cell"]) (ix:=[none,some 0]) (ZD.of (by left:ZW (Zj YT) ["_law_cell","_law_many","_law_found"] _ _ _=true)) rfl (Xu rfl T.aG (@Za _ _ _ _ _ (pv 1) Ze rfl)) (fun _ _ _ _ _=>(Zk (i:=0) (show δ (["_law_k","_law_cell"]:54) by left) rfl 34)) (fun _ _ _ _ _=>Z3) (fun _ _ _ _ _=>(ZJ 56 (Yq (@ZX _ _ _ _ _ (pv 0) (@ZX _ _ _ _ _ (@WA _ _ _ _ _ (@Za _ _ _ _ _ Uo (@Za _ _ _ _ _ (pv 0) Ze rfl) rfl)) (@ZX _ _ _ _ _ (Yd Jq Uo (YK (jJ) rfl T.bH PyProof.Rows.Boot.«str» (@Za _ _ _ _ _ (Yd Zc1 Zi (pv 0)) Ze rfl))) (@ZX _ _ _ _ _ (@WA _ _ _ _ _ (@Za _ _ _ _ _ (Yd Wd (pv 0) Zi) (@Za _ _ _ _ _ (@WA _ _ _ _ _ (@Za _ _ _ _ _ (X1 W6 (Yd Wd (Yd WO (pv 0) Zi) Zi) Zi (ZK _)) (@Za _ _ _ _ _ (X1 Kq (pv 0) Zi (ZK _)) Ze rfl) rfl)) Ze rfl) rfl)) Ze rfl) rfl) rfl) rfl)) (Yd Wd (pv 1) Zi) (fun _ _=>rfl)))) d1.2)⟩
 let d3:Rdg X YT [1]:=⟨_,(Zb (ZZ (Zy W6 (Yd Wd (Yd WO (pv 0) Zi) Zi) Zi (ZK _)) (Zg (@Zo _ _ (1) _ _ _ _ XZ.nd rfl 34 Zi rfl (.inl rfl))) Zt) d2.2)⟩
 intro vs Q h;obtain⟨c,rfl,k⟩:=h;refine⟨_,(Zb (@Zo _ _ (1) _ _ _ _ XZ.nd rfl 34 (Yd yW Zi (Yd Wd (Yd WO (pv 0) Zi) Zi)) rfl (.inl rfl)) d3.2),?_⟩;refine⟨_,rfl,_,_,rfl,rfl,⟨by left,by left⟩,_,_,rfl,rfl,by simp,_,_,rfl,rfl,?_⟩;have m0:=ij (c/4) (show(7:Int)≠0 by left);have m1:=ik (c/4) (show(0:Int)<7 by left);generalize c/4%7=m at m0 m1;refine⟨_,rfl,_,_,rfl,rfl,⟨by left,by left⟩,_,_,rfl,rfl,by simp,rfl,_,rfl,yj (fun c1=>?_) (fun c1=>?_)⟩
 case' refine_1=>
  show Zch _ _ _ [some (.int c),some (.int 12),none] H
  have q0:(1:Int)<=12/\(12:Int)<13:=by left
  generalize (12:Int)=q at q0
 case' refine_2=>
  show Zch _ _ _ [some (.int c),some (.int (1+m)),none] H
  have q0:(1:Int)<=1+m/\1+m<13:=by lia
  generalize 1+m=q at q0
 all_goals
  clear c1 m0 m1;have k0:=ij c (show(4:Int)≠0 by left);have k1:=ik c (show(0:Int)<4 by left);refine⟨_,rfl,_,rfl,by lia,by lia,fun D hD=>?_⟩;refine YX (J:=Itr 0 q.toNat) (n:=q.toNat) (fun i U H'=>Ex2 fun(z:69) (ys:List V)=>Cj5 (U=[z,some (.int c)]) (77) (H' D=some (.lst ys)) (jK (c%4).toNat H' ys) (ys.length=i)) ?_ ?_ ?_ ?_ ?_
  ·exact⟨_,[],rfl,Zh hD,Zc,(fun v hv=>by cases hv),rfl⟩
  ·rintro i U H' hi _;exact hi
  ·rintro U H' _;exact cP _
  ·rintro i x U H2 H3 hi ⟨z,ys,rfl,sm,hl,ay,ly⟩ ⟨rfl,rfl⟩ Nn N0 hN sq;have F8:i<12:=by lia
   obtain⟨b1,b2⟩:=Zee F8;refine⟨_,rfl,_,rfl,by show 2<=sizeLine;rw[cQ];decide,fun t1 h1=>?_⟩;have s1:=sm.trans (Zh (o:=.tup [.str WG,.int 116]) h1);have g1:(upd H3 t1 (.tup [.str WG,.int 116])) t1=some (.tup [.str WG,.int 116]):=Zc;have l1:=Zh (o:=.tup [.str WG,.int 116]) h1 _ _ hl;have a1:jK (c%4).toNat (upd H3 t1 (.tup [.str WG,.int 116])) ys:=fun v hv=>let ⟨d,q⟩:=ay v hv; ⟨d,q.mono (nJ (Zh h1))⟩
   have e1:upd H3 t1 (.tup [.str (Str.ofString "n"),.int 116])=upd H3 t1 (.tup [.str WG,.int 116]):=rfl;rw[e1];generalize upd H3 t1 (.tup [.str WG,.int 116])=H4 at s1 g1 l1 a1 ⊢;refine⟨_,rfl,_,_,rfl,rfl,.inl ⟨_,rfl,?_,_,_,rfl,rfl,b1,?_⟩⟩
   ·have:(20-116).natAbs<2 ^ 1920:=i0 (show(20-116).natAbs<100 by lia) 61;exact(Nat.log2_lt 40).mpr this
   refine⟨_,rfl,_,_,rfl,rfl,by simp,_,rfl,_,_,rfl,rfl,⟨by left,by left⟩,_,_,rfl,rfl,by simp,rfl,_,rfl,_,_,rfl,rfl,by show 2<=sizeLine;rw[cQ];decide,fun t2 h2=>?_⟩;generalize hH5:upd H4 t2 _=H5;have FR:Zd H4 H5:=by rw[<- hH5];exact Zh h2
   obtain⟨B1,B2,g2⟩:∃B1 B2,H5 t2=some (.tup [.bl B1,.bl B2]):=⟨_,_,by rw[<- hH5];exact Zc⟩;clear hH5;refine⟨by show 2<=sizeLine;rw[cQ];decide,fun t3 h3=>?_⟩;generalize hH6:upd H5 t3 _=H6;have tV:Zd H5 H6:=by rw[<- hH6];exact Zh h3
   have g3:H6 t3=some (.tup [.int (116%2),.ref t2]):=by rw[<- hH6];exact Zc
   clear hH6;refine⟨by show 4<=sizeLine;rw[cQ];decide,fun l Cj=>?_⟩;generalize hH7:upd H6 l _=H7;have Hj:Zd H6 H7:=by rw[<- hH7];exact Zh Cj
   obtain⟨xs,g4,x0,x1,x2,x3⟩:∃xs,H7 l=122/\xs[0]?=some (.int 116)/\xs[1]?=some (.ref t1)/\xs[2]?=some (.str (Str.ofString "n" ++ Str.ofString (toString (20-116))))/\xs[3]?=some (.ref t3):=⟨_,by rw[<- hH7];exact Zc,rfl,rfl,rfl,rfl⟩;clear hH7;have Ea:=(FR.trans tV).trans Hj;have P0:=s1.trans Ea;have a7:jK (c%4).toNat H7 ys:=fun v hv=>let ⟨d,q⟩:=a1 v hv; ⟨d,q.mono (nJ Ea)⟩
   have ni:116=i:=by lia
   rw[ni] at x0 x2 b2 g3;rw[ni] at g1;have fin:∀v d,Nd (c%4).toNat H7 v d->Nn v [some (.int 116),some (.int c)] H7:=fun v d hd=>by
    refine hN v _ H7 ys (Ea _ _ l1) (by rw[cQ];lia) ⟨_,ys++[v],rfl,((Zd.x P0).upd).same hD,Zc,fun u hu=>?_,by simp[ly]⟩;have u8:ZT H7 (upd H7 D (.lst (ys++[v]))):=Zm.u ((Zm.refl H7).upd) (Ea _ _ l1) (fun _ z=>by cases z);rcases db.mp hu with h|h
    ·obtain⟨d',q⟩:=a7 u h;exact⟨d',q.mono u8⟩
    ·rw[df] at h;subst h;exact⟨d,hd.mono u8⟩
   have cs:c%4=0\/c%4=1\/c%4=2\/c%4=3:=by lia
   rcases cs with e|e|e|e
   ·rw[e] at fin;exact⟨_,rfl,_,_,rfl,rfl,by simp,l,_,_,_,rfl,rfl,nH g4,by rw[e];exact Zn (j:=0) x0,fin _ (.i i) ⟨F8,rfl⟩⟩
   ·rw[e] at fin;exact⟨_,rfl,_,_,rfl,rfl,by simp,l,_,_,_,rfl,rfl,nH g4,by rw[e];exact Zn (j:=1) x1,fin _ (.t i) ⟨F8,t1,rfl,Ea _ _ g1⟩⟩
   ·rw[e] at fin;exact⟨_,rfl,_,_,rfl,rfl,by simp,l,_,_,_,rfl,rfl,nH g4,by rw[e];exact Zn (j:=2) x2,fin _ (.s _) ⟨b2,rfl⟩⟩
   ·rw[e] at fin;have hp:((i:Int)%2)=((i%2:Nat):Int):=by lia
    rw[hp] at g3;exact⟨_,rfl,_,_,rfl,rfl,by simp,l,_,_,_,rfl,rfl,nH g4,by rw[e];exact Zn (j:=3) x3,fin _ (.p (i%2) B1 B2) ⟨by show i%2<2;lia,t3,t2,rfl,Hj _ _ g3,(tV.trans Hj) _ _ g2⟩⟩
  ·rintro U H2 ⟨z,ys,rfl,sm,hl,ay,ly⟩;refine⟨_,rfl,D,ys,(c%4).toNat,rfl,nH hl,ay,by lia,by lia,fun S hS=>?_⟩;have s2:=Zh (o:=SnO a.Pm S ys) hS;refine⟨S,ys,(c%4).toNat,rfl,Zc,fun v hv=>let ⟨d,q⟩:=ay v hv; ⟨d,q.mono (nJ s2)⟩,by lia,by lia,fun L out hL mo lo ho=>?_⟩;have s3:=Zh (o:=.lst out) hL;have AH:=(sm.trans s2).trans s3;refine k _ L out _ AH (Zd.free (sm.trans s2) hL) Zc (fun v hv=>let ⟨d,q⟩:=ay v (mo v hv); ⟨d,(q.mono (nJ s2)).mono (nJ s3)⟩) 40 (ho (fun e=>by rw[e] at ly;simp at ly;lia)) 40
theorem Kk{κ:Nat}{H:Hp}{nd:37}:∀{out:List V},(∀v∈out,∃d,Nd κ H v d/\d∈nd)->∃ds,NdL κ H out ds/\(∀d∈ds,d∈nd)
 |[],_=>⟨[],.nil,fun d hd=>by cases hd⟩
 |v::r,h=>by
  obtain⟨d,q,m⟩:=h v dC;obtain⟨ds,a,b⟩:=Kk (out:=r) fun x hx=>h x (c7 _ hx);refine⟨d::ds,.cons q a,fun e he=>?_⟩;rcases cW.mp he with rfl|he
  ·exact m
  ·exact b e he
theorem ZeB{us:List V}(nu:NdL κ H us ds)(dn:∀d∈ds,d∈nd):∀v∈us,∃d,Nd κ H v d/\d∈nd:=fun v hv=>by
 obtain⟨i,hi,e⟩:=fo hv;obtain⟨d,ed,q⟩:=nu.get (i:=i) (v:=v) (by rw[cR hi,e]);exact⟨d,q,dn d (cY ed)⟩
theorem vg{a:Adr}{L:Addr}{nv:List V}{q:Nat}{Q:VK}(hD:H0 D=none)(hL:H0 L=some (.lst nv))(t7:L≠p)(hp:H0 p=79)(nn:NdL κ H0 nv nd)(oF:nd≠[])(hq:q<=3)
  (fin:∀H' us ds (ou:70),Zm p H0 H'->H' p=55->H' D=some (.lst us)->NdL κ H' us ds->(∀d∈ds,d∈nd)->ds.length<=3->Q (.ref D) H') :
  qO (Itr 0 q) D (yd 0) J6 (tOp (ZbT K) (ja 1) (xU (Xx K a) [] E0 (Wa (ja 2) (Wa (tCB (Zdk K) (Wa (ja 1) jb)) jb)))) [none,qr0 L,93] H0 Q:=by
 have BZ:D≠p:=fun e=>by rw[e,hp] at hD;cases hD
 have ln:=nn.len;have l0:=iG.mpr oF;refine YX (J:=Itr 0 q) (n:=q) (fun i U H'=>Ex4 fun(z:69) (us:List V) (ds:37) (ou:70)=>Cj7 (U=[z,qr0 L,93]) (Zm p H0 H') (H' p=55) (H' D=some (.lst us)) (NdL κ H' us ds) ((∀d∈ds,d∈nd)) (ds.length=i)) ?_ ?_ ?_ ?_ ?_
 ·exact⟨_,[],[],ns,rfl,(Zd.x (Zh hD)),updK hp BZ.symm,Zc,.nil,(fun d hd=>by cases hd),rfl⟩
 ·rintro i U H' hi _;exact hi
 ·rintro U H' _;exact cP _
 ·rintro i x U H2 H3 hi ⟨z,us,ds,ou,rfl,x2,p2,d2,nu,dn,ld⟩ ⟨rfl,rfl⟩ N N0 hN sq;have Bj:=x2 _ _ t7 hL;have lu:=nu.len;have up:ZT H0 H3:=Zm.u x2 hp (fun _ z=>by cases z);refine⟨_,rfl,_,rfl,_,rfl,.inl ⟨L,_,rfl,.inl (nH Bj),p,ou,_,rfl,by lia,p2,fun H4 n4 sI x4 p4 n0 n1=>?_⟩⟩;have u4:ZT H3 H4:=Zm.u x4 p2 (fun _ z=>by cases z);obtain⟨j,rfl⟩:∃j:Nat,n4=j:=⟨n4.toNat,by lia⟩;have hj:j<nv.length:=by lia
  obtain⟨d,ed,hd⟩:=nn.get (cR hj);have d4:=x4 _ _ BZ d2;refine⟨L,_,_,nv[j],rfl,rfl,nH (x4 _ _ t7 Bj),Zn (cR hj),hN _ _ H4 us d4 (by rw[cQ];lia) ⟨_,us++[nv[j]],ds++[d],sI,rfl,?_,updK p4 BZ.symm,Zc,?_,?_,by simp[ld]⟩⟩
  ·exact((x2.trans x4)).updN hD
  ·have u5:ZT H4 (upd H4 D (.lst (us++[nv[j]]))):=Zm.u ((Zm.refl H4).upd) d4 (fun _ z=>by cases z);exact((nu.mono u4).mono u5).app (.cons (((hd.mono up).mono u4).mono u5) .nil)
  ·intro e he;rcases db.mp he with h|h
   ·exact dn e h
   ·rw[df] at h;subst h;exact cY ed
 ·rintro U H2 ⟨z,us,ds,ou,rfl,x2,p2,d2,nu,dn,ld⟩;exact fin H2 us ds ou x2 p2 d2 nu dn 40
theorem QS{a:Adr}{q:Nat}{Q:VK}(hD:H0 D=none)(hp:H0 p=79)(hq:q<=6)
  (fin:∀H' (bs:71) (ou:70),Zm p H0 H'->H' p=55->H' D=some (.lst (bs.map V.bl))->bs.length=q->Q (.ref D) H') :
  qO (Itr 0 q) D (yd 0) J6 (tOp rEq (xU (Xx K a) [] E0 (Wa (ja 1) (Wa (tC (V.int 3)) jb))) (tC (V.int 1))) [none,93] H0 Q:=by
 have BZ:D≠p:=fun e=>by rw[e,hp] at hD;cases hD
 refine YX (J:=Itr 0 q) (n:=q) (fun i U H'=>Ex3 fun(z:69) (bs:71) (ou:70)=>Cj5 (U=[z,93]) (Zm p H0 H') (H' p=55) (H' D=some (.lst (bs.map V.bl))) (bs.length=i)) ?_ ?_ ?_ ?_ ?_
 ·exact⟨_,[],ns,rfl,(Zd.x (Zh hD)),updK hp BZ.symm,Zc,rfl⟩
 ·rintro i U H' hi _;exact hi
 ·rintro U H' _;exact cP _
 ·rintro i x U H2 H3 hi ⟨z,bs,ou,rfl,x2,p2,d2,ld⟩ ⟨rfl,rfl⟩ N N0 hN sq;refine⟨_,rfl,p,ou,3,rfl,by left,p2,fun H4 n4 sI x4 p4 n0 n1=>⟨rfl,?_⟩⟩;have d4:=x4 _ _ BZ d2;refine hN _ _ H4 _ d4 (by rw[cS,cQ];lia) ⟨_,bs++[_],sI,rfl,(x2.trans x4).updN hD,updK p4 BZ.symm,by rw[Zc,eO];rfl,by simp[ld]⟩
 ·rintro U H2 ⟨z,bs,ou,rfl,x2,p2,d2,ld⟩;exact fin H2 bs ou x2 p2 d2 ld
def kT(K:W.Frag)(a:Adr):Sp:=fun vs H Q _=>Ex3 fun(c:Int) (p:Addr) (ns:70)=>Cj3 (vs=[.int c,.ref p]) (H p=79) (∀H' t L net mk b κ nv nd es ep oq oE N M n bv bs,Zm p H H'->H' t=some (.tup [.ref L,.ref net,.ref mk,.ref b])->H' L=some (.lst nv)->NdL κ H' nv nd->nd≠[]->nd.length<=12->Wi κ a.Pm H' net es ep N nd->X9 κ a.Pm H' mk oq oE M n nd->H' b=some (.lst bv)->NdL κ H' bv bs->bs.length<=3->(∀d∈bs,d∈nd)->κ<4->Q (.ref t) H')
theorem jV{a:Adr}:58 2 a.y27 a.z27 cy kT:=fun T hw=>by
 refine okX T.be.f YQ 51;intro X
 let d1:Rdg X Z9 [4,0,2]:=⟨_,(Zg (XC hw 78 (pv 4) (pv 6) (Xz (Nc:=["_law_k","_law_xs"]) (ix:=[none,some 1]) (ZD.of (by left:ZW (Zj Z9) Vj _ _ _=true)) rfl (Xu rfl T.aG (@Za _ _ _ _ _ (pv 5) Ze rfl)) (fun _ _ _ _ _=>(Zk (i:=0) (show δ (["_law_k","_law_xs"]:54) by left) rfl 34)) (fun _ _ _ _ _=>Z3) (fun _ _ _ _ _=>(X1 W6 (ZV T.aa (ZC T hw) hr rfl rfl (@Za _ _ _ _ _ (pv 1) (@Za _ _ _ _ _ Zi Ze rfl) rfl)) Zi (ZK _)))) rfl))⟩
 let d2:Rdg X Z9 [4,0,1]:=⟨_,(Zb (XC hw 78 (pv 3) (pv 6) (Zl (yB hw rfl (Zq.units12 hr)) rfl T.bf nX (@Za _ _ _ _ _ (YK (vp (K:=K) rfl hw rfl (Zq.units12 hr)) rfl T.bz nY (@Za _ _ _ _ _ (pv 7) Ze rfl)) Ze rfl)) rfl) d1.2)⟩
 let d3:Rdg X Z9 [4,0,0]:=⟨_,(Zb (Wy (i:=7) YQ.nd rfl rfl (Nc:=bR) (ix:=[none,some 2,some 1]) (ZD.of (by left:ZW (Zj Z9) Vj _ _ _=true)) rfl (Xu rfl T.aG (@Za _ _ _ _ _ (ZJ 56 (Yq (@ZX _ _ _ _ _ Zi (@ZX _ _ _ _ _ Zi (@ZX _ _ _ _ _ Zi (@ZX _ _ _ _ _ Zi (@ZX _ _ _ _ _ Zi Ze rfl) rfl) rfl) rfl) rfl)) (ZV T.aa (ZC T hw) hr rfl rfl (@Za _ _ _ _ _ (pv 1) (@Za _ _ _ _ _ Zi Ze rfl) rfl)) (fun _ _=>rfl)) Ze rfl)) (fun _ _ _ _ _=>(Zk (i:=0) (show δ bR by left) rfl 34)) (fun _ _ _ _ _=>Z3) (fun _ _ _ _ _=>(ZJ 56 (pv 1) (ZV T.aa (ZC T hw) hr rfl rfl (@Za _ _ _ _ _ (pv 2) (@Za _ _ _ _ _ (Zl 91 rfl T.aA nN (@Za _ _ _ _ _ (pv 1) Ze rfl)) Ze rfl) rfl)) (fun _ _=>rfl)))) d2.2)⟩
 let d4:Rdg X Z9 [5]:=⟨_,(Zb (Wy (i:=8) YQ.nd rfl rfl (Nc:=bR) (ix:=[none,some 2,some 1]) (ZD.of (by left:ZW (Zj Z9) Vj _ _ _=true)) rfl (Xu rfl T.aG (@Za _ _ _ _ _ (ZV T.aa (ZC T hw) hr rfl rfl (@Za _ _ _ _ _ (pv 1) (@Za _ _ _ _ _ Zi Ze rfl) rfl)) Ze rfl)) (fun _ _ _ _ _=>(Zk (i:=0) (show δ bR by left) rfl 34)) (fun _ _ _ _ _=>Z3) (fun _ _ _ _ _=>(ZJ 56 (pv 1) (ZV T.aa (ZC T hw) hr rfl rfl (@Za _ _ _ _ _ (pv 2) (@Za _ _ _ _ _ (Zl 91 rfl T.aA nN (@Za _ _ _ _ _ (pv 1) Ze rfl)) Ze rfl) rfl)) (fun _ _=>rfl)))) (Zg (Zs (@WA _ _ _ _ _ (@ZX _ _ _ _ _ (pv 2) (@ZX _ _ _ _ _ (pv 3) (@ZX _ _ _ _ _ (pv 4) (@ZX _ _ _ _ _ (pv 8) Ze rfl) rfl) rfl) rfl)))))⟩
 let d5:Rdg X Z9 [4]:=⟨_,(Zb (YS eJ rfl (ZF (K:=K) rfl (pv 2)) (Zk (i:=6) YQ.nd rfl 34) d3.2) d4.2)⟩
 let d6:Rdg X Z9 [3]:=⟨_,(Zb (@Zo _ _ (5) _ _ _ _ YQ.nd rfl 34 (ZJ 56 (Yq (@Za _ _ _ _ _ (ZV T.aa (ZC T hw) hr rfl rfl (@Za _ _ _ _ _ (pv 1) (@Za _ _ _ _ _ Zi Ze rfl) rfl)) (@Za _ _ _ _ _ Zi Ze rfl) rfl)) (Yd WO (ZV T.aa (ZC T hw) hr rfl rfl (@Za _ _ _ _ _ (pv 1) (@Za _ _ _ _ _ Zi Ze rfl) rfl)) Zi) (fun _ _=>rfl)) rfl (.inl rfl)) d5.2)⟩
 let d7:Rdg X Z9 [2]:=⟨_,(Zb (@Zo _ _ (4) _ _ _ _ YQ.nd rfl 34 (WQ hw) rfl (.inl rfl)) d6.2)⟩
 let d8:Rdg X Z9 [1]:=⟨_,(Zb (@Zo _ _ (3) _ _ _ _ YQ.nd rfl 34 (WQ hw) rfl (.inl rfl)) d7.2)⟩
 intro vs Q h;obtain⟨c,p,ns,rfl,hp,k⟩:=h;refine⟨_,(Zb (@Zo _ _ (2) _ _ _ _ YQ.nd rfl 34 (ZV T.aQ (xB T hw) hr rfl rfl (@Za _ _ _ _ _ (pv 0) Ze rfl)) rfl (.inl rfl)) d8.2),?_⟩;refine⟨_,rfl,c,rfl,fun H1 L nv κ s1 L0 hL an hκ ne rJ=>?_⟩;obtain⟨nd,nn⟩:=an.list;have nl:=nn.len;have A4:=s1 _ _ hp;have t7:L≠p:=fun e=>by rw[e,hp] at L0;cases L0
 intro na wx;have oQ:=Zh (o:=65 na [] 0) wx;have g2:(upd H1 na (65 na [] 0)) na=some (65 na [] 0):=Zc;generalize upd H1 na (65 na [] 0)=H2 at oQ g2 ⊢;intro ma wM;have B9:=Zh (o:=65 ma [] 0) wM;have g3:(upd H2 ma (65 ma [] 0)) ma=some (65 ma [] 0):=Zc;have MI:=B9 _ _ g2;generalize upd H2 ma (65 ma [] 0)=H3 at B9 g3 MI ⊢;have pJ:=oQ.trans B9;have Ck:na≠p:=fun e=>by rw[e,A4] at wx;cases wx
 have tR:ma≠p:=fun e=>by rw[e,oQ _ _ A4] at wM;cases wM
 have LY:na≠ma:=fun e=>by rw[<- e,g2] at wM;cases wM
 have Ry:L≠na:=fun e=>by rw[e,wx] at hL;cases hL
 have Rp:L≠ma:=fun e=>by rw[e] at hL;rw[oQ _ _ hL] at wM;cases wM
 have EW:=pJ _ _ A4;have Bj:=pJ _ _ hL;refine⟨_,rfl,p,ns,4,rfl,by left,EW,fun H4 n4 sI x4 Mo F5 MA=>?_⟩;refine⟨by show 2<=sizeLine;rw[cQ];decide,fun l hl=>?_⟩;generalize hH5:upd H4 l _=H5;have FR:Zd H4 H5:=by rw[<- hH5];exact Zh hl
 have g5:H5 l=some (.lst [.int n4,.int 6]):=by rw[<- hH5];exact Zc
 clear hH5;refine⟨_,rfl,p,sI,9,rfl,by left,FR _ _ Mo,fun H6 n6 AB x6 Tu n60 n61=>?_⟩;have AR:l≠p:=fun e=>by rw[e,Mo] at hl;cases hl
 obtain⟨m,m6,Iy⟩:∃m:Nat,m<=6/\atI [V.int n4,.int 6] (n6/8)=some (.int (m:Int)):=by
  have:n6/8=0\/n6/8=1:=by lia
  rcases this with e|e
  ·refine⟨n4.toNat,by lia,?_⟩;rw[e,Int.toNat_of_nonneg F5];exact Zn (j:=0) rfl
  ·rw[e];exact⟨6,by lia,Zn (j:=1) rfl⟩
 refine⟨_,_,rfl,rfl,⟨by left,by left⟩,l,_,_,_,rfl,rfl,nH (x6 _ _ AR g5),Iy,?_⟩;have DH:Zm p H3 H6:=x4.trans ((Zd.x FR).trans x6);have wO:=DH _ _ t7 Bj;have PY:=DH _ _ Ck MI;have OM:=DH _ _ tR g3;have Nt:NdL κ H6 nv nd:=(nn.mono (nJ pJ)).mono (Zm.u DH EW (fun _ z=>by cases z));have x16:Zm p H1 H6:=(Zd.x pJ).trans DH;refine⟨_,rfl,L,rfl,⟨_,nH wO⟩,?_⟩;have SL:L∉[p,na,ma]:=by simp[t7,Ry,Rp]
 let J1:Nat->L2.St->Hp->Prop:=fun i U H'=>Ex8 fun(z6 z7 z8:69) (es:NE) (ep:Nat) (oq:NE) (oE:Nat) (ou:70)=>Zef (U=[some (.int c),93,qr0 L,qr0 na,qr0 ma,some (.int (m:Int)),z6,z7,z8]) (WF [p,na,ma] H6 H') (ZT H6 H') (H' p=55) (H' na=some (65 na es ep)) (H' ma=some (65 ma oq oE)) (jv κ [p,na,ma] H' nd es) (UZ κ [p,na,ma] H' m oq) (es.length<=i) (oq.length<=i) ((∀j,j<i->∀d,nd[j]?=some d->(ZU es d).isSome=true/\(ZU oq d).isSome=true)) ((∀e∈es,e.1∈nd)) (∀e∈oq,e.1∈nd)
 refine Y0 (K:=K) (xs:=nv) J1 ?_ ?_ ?_ ?_
 ·exact⟨_,_,_,[],0,[],0,AB,rfl,fun _ _ _ e=>e,fun _ _ e=>e,Tu,PY,OM,(fun e he=>by cases he),(fun e he=>by cases he),cP _,cP _,(fun j hj=>oh hj (hU _)),(fun e he=>by cases he),(fun e he=>by cases he)⟩
 ·rintro i U H' hi ⟨z6,z7,z8,es,ep,oq,oE,ou,rfl,kp,_⟩;exact nH (kp _ _ SL wO)
 ·rintro i x U H7 hx ⟨z6,z7,z8,es,ep,oq,oE,ou,rfl,kp,up,p7,n7,m7,nb,mb,N5,Pe,hv,Cp,CD⟩;have hi:i<nv.length:=(dk.mp hx).1;have L7:=kp _ _ SL wO;have DK:=Nt.mono up;obtain⟨d,ed,hd⟩:=DK.get hx;refine⟨by show 5<=sizeLine;rw[cQ];decide,fun l5 CO=>?_⟩;generalize hH8:upd H7 l5 _=H8;have LA:Zd H7 H8:=by rw[<- hH8];exact Zh CO
  have g8:H8 l5=some (.lst [.int 1,.int 2,.int 1,.int 3,.int 0]):=by rw[<- hH8];exact Zc
  clear hH8;refine⟨_,rfl,p,ou,5,rfl,by left,LA _ _ p7,fun H9 n9 NK x9 p9 T5 PR=>?_⟩;have R4:l5≠p:=fun e=>by rw[e,p7] at CO;cases CO
  obtain⟨q,q3,Iy⟩:∃q:Nat,q<=3/\atI [V.int 1,.int 2,.int 1,.int 3,.int 0] n9=some (.int (q:Int)):=by
   have:n9=0\/n9=1\/n9=2\/n9=3\/n9=4:=by lia
   rcases this with e|e|e|e|e<;>rw[e]
   ·exact⟨1,by lia,Zn (j:=0) rfl⟩
   ·exact⟨2,by lia,Zn (j:=1) rfl⟩
   ·exact⟨1,by lia,Zn (j:=2) rfl⟩
   ·exact⟨3,by lia,Zn (j:=3) rfl⟩
   ·exact⟨0,by lia,Zn (j:=4) rfl⟩
  have ED:Zm p H7 H9:=(Zd.x LA).trans x9;have Bf:ZT H7 H9:=Zm.u ED p7 (fun _ z=>by cases z);refine⟨l5,_,_,_,rfl,rfl,nH (x9 _ _ R4 g8),Iy,_,rfl,by lia,by lia,fun D hD=>?_⟩
  show qO (Itr 0 q) D _ _ _ [none,qr0 L,93] H9 _
  refine vg (K:=K) (a:=a) hD (ED _ _ t7 L7) t7 p9 (DK.mono Bf) (fun e=>by rw[e] at nl;exact ne (lW.mp nl)) q3 fun rX us ds DT x10 p10 se nu dn l3=>?_;have rC:Zm p H7 rX:=ED.trans x10;have Bk:ZT H7 rX:=Zm.u rC p7 (fun _ z=>by cases z);have lu:=nu.len;have Ba:=rC _ _ Ck n7;have Nr:=rC _ _ tR m7;have dS:D∉[p,na,ma]:=by
   have a1:D≠p:=fun e=>by rw[e,p9] at hD;cases hD
   have a2:D≠na:=fun e=>by rw[e,ED _ _ Ck n7] at hD;cases hD
   have a3:D≠ma:=fun e=>by rw[e,ED _ _ tR m7] at hD;cases hD
   simp[a1,a2,a3]
  refine⟨_,rfl,D,us,κ,rfl,nH se,nu.all,hκ,by lia,fun S hS=>?_⟩;have sy:=Zh (o:=SnO a.Pm S us) hS;have Fp:(upd rX S (SnO a.Pm S us)) S=some (SnO a.Pm S us):=Zc;generalize upd rX S (SnO a.Pm S us)=rM at sy Fp ⊢;refine⟨S,us,κ,rfl,Fp,(nu.mono (nJ sy)).all,hκ,by lia,fun L2 out wP mo lo ho=>?_⟩;have DY:=Zh (o:=.lst out) wP;have Ov:(upd rM L2 (.lst out)) L2=some (.lst out):=Zc;generalize upd rM L2 (.lst out)=wk at DY Ov ⊢;have pL:=sy.trans DY;have w8:ZT H7 wk:=fun b xs e=>pL _ _ (Bk b xs e);have B5:WF [p,na,ma] H7 wk:=(Zm.k rC 39).trans (Zd.k pL);obtain⟨od,no,R8⟩:=Kk (κ:=κ) (H:=wk) (nd:=nd) (out:=out) fun v FD=>ZeB (nu.mono (nJ pL)) dn v (mo v FD);have Pc:L2∉[p,na,ma]:=by
   have a1:L2≠p:=fun e=>by rw[e,sy _ _ p10] at wP;cases wP
   have a2:L2≠na:=fun e=>by rw[e,sy _ _ Ba] at wP;cases wP
   have a3:L2≠ma:=fun e=>by rw[e,sy _ _ Nr] at wP;cases wP
   simp[a1,a2,a3]
  have DC:=nb.mono B5 w8;have Hs:=mb.mono B5 w8;have A3:=hd.mono w8;refine⟨_,rfl,_,rfl,na,es,ep,κ,d,rfl,pL _ _ Ba,fun e he=>(DC e he).1,A3,by rw[cQ];lia,fun wF=>?_⟩;have FA:WF [p,na,ma] wk (upd wk na (65 na (ZI es d x (.ref L2)) wF)):=WF.updK 39;have u13:ZT wk (upd wk na (65 na (ZI es d x (.ref L2)) wF)):=Zm.u ((Zm.refl wk).upd) (pL _ _ Ba) (fun _ z=>by cases z);have IB:(upd wk na (65 na (ZI es d x (.ref L2)) wF)) na=some (65 na (ZI es d x (.ref L2)) wF):=Zc;have p13:=updK (o':=65 na (ZI es d x (.ref L2)) wF) (pL _ _ p10) Ck.symm;have m13:=updK (o':=65 na (ZI es d x (.ref L2)) wF) (pL _ _ Nr) LY.symm;have ll:=no.len;have EN:=(DC.put A3 Pc Ov no R8 40).mono FA u13;have EG:=Hs.mono FA u13;have C7:=A3.mono u13;have Td:=U9 es d x (.ref L2);generalize upd wk na (65 na (ZI es d x (.ref L2)) wF)=F7 at FA u13 IB p13 m13 EN EG C7 ⊢;refine⟨_,rfl,_,rfl,by lia,by lia,fun D2 t4=>?_⟩
  show qO (Itr 0 m) D2 _ _ _ [none,93] F7 _
  refine QS (K:=K) (a:=a) t4 p13 m6 fun BS bs Gx x14 p14 B7 FH=>?_;have u14:ZT F7 BS:=Zm.u x14 p13 (fun _ z=>by cases z);have Ho:WF [p,na,ma] F7 BS:=Zm.k x14 39;have n14:=x14 _ _ Ck IB;have m14:=x14 _ _ tR m13;have P3:D2∉[p,na,ma]:=by
   have a1:D2≠p:=fun e=>by rw[e,p13] at t4;cases t4
   have a2:D2≠na:=fun e=>by rw[e,IB] at t4;cases t4
   have a3:D2≠ma:=fun e=>by rw[e,m13] at t4;cases t4
   simp[a1,a2,a3]
  have Em:=EG.mono Ho u14;have Ee:=C7.mono u14;refine⟨_,rfl,_,rfl,ma,oq,oE,κ,d,rfl,m14,fun e he=>(Em e he).1,Ee,by rw[cQ];lia,fun pB=>?_⟩;have Gn:WF [p,na,ma] BS (upd BS ma (65 ma (ZI oq d x (.ref D2)) pB)):=WF.updK 39;have u15:ZT BS (upd BS ma (65 ma (ZI oq d x (.ref D2)) pB)):=Zm.u ((Zm.refl BS).upd) m14 (fun _ z=>by cases z);have T9:=U9 oq d x (.ref D2);refine⟨_,_,_,ZI es d x (.ref L2),wF,ZI oq d x (.ref D2),pB,Gx,rfl,(((kp.trans B5).trans FA).trans Ho).trans Gn,fun b xs e=>u15 b xs (u14 b xs (u13 b xs (w8 b xs (up b xs e)))),updK p14 tR.symm,updK n14 LY,Zc,(EN.mono Ho u14).mono Gn u15,(Em.put Ee P3 B7 FH).mono Gn u15,by lia,by lia,fun j hj e ee=>?_,KL Cp (cY ed),KL CD (cY ed)⟩;rw[XM,XM]
  by_cases c1:e=d
  ·rw[og c1,og c1];exact⟨rfl,rfl⟩
  ·rw[n8 c1,n8 c1];refine hv j ?_ e ee;rcases fe j i with h|h
   ·exact h
   ·have:j=i:=by lia
    subst this;rw[ed] at ee;exact oh (eZ ee).symm c1
 ·rintro U H7 ⟨z6,z7,z8,es,ep,oq,oE,ou,rfl,kp,up,p7,n7,m7,nb,mb,N5,Pe,hv,Cp,CD⟩;have L7:=kp _ _ SL wO;have DK:=Nt.mono up;refine⟨_,rfl,p,ou,4,rfl,by left,p7,fun H9 n9 NK x9 p9 T5 PR=>?_⟩;have Bf:ZT H7 H9:=Zm.u x9 p7 (fun _ z=>by cases z);obtain⟨q,rfl⟩:∃q:Nat,n9=q:=⟨n9.toNat,by lia⟩;refine⟨_,rfl,by lia,by lia,fun D hD=>?_⟩
  show qO (Itr 0 q) D _ _ _ [none,qr0 L,93] H9 _
  refine vg (K:=K) (a:=a) hD (x9 _ _ t7 L7) t7 p9 (DK.mono Bf) (fun e=>by rw[e] at nl;exact ne (lW.mp nl)) 40 fun rX us ds DT x10 p10 se nu dn l3=>?_;have rC:Zm p H7 rX:=x9.trans x10;have Bk:ZT H7 rX:=Zm.u rC p7 (fun _ z=>by cases z);refine⟨_,rfl,_,rfl,_,rfl,_,rfl,by show 4<=sizeLine;rw[cQ];decide,fun t ht=>?_⟩;generalize hH11:upd rX t _=rM;have sy:Zd rX rM:=by rw[<- hH11];exact Zh ht
  have Fp:rM t=some (.tup [.ref L,.ref na,.ref ma,.ref D]):=by rw[<- hH11];exact Zc
  clear hH11;have wC:WF [p,na,ma] H7 rM:=(Zm.k rC 39).trans (Zd.k sy);have A5:ZT H7 rM:=fun b xs e=>sy _ _ (Bk b xs e);have all:∀d∈nd,(ZU es d).isSome=true/\(ZU oq d).isSome=true:=fun d hd=>by
   obtain⟨j,hj,e⟩:=fo hd;exact hv j 40 d (by rw[cR hj,e])
  obtain⟨N,hN⟩:=(nb.mono wC A5).okE (Pm:=a.Pm) (sy _ _ (rC _ _ Ck n7)) (fun d hd=>(all d hd).1) Cp 40;obtain⟨M,hM⟩:=(mb.mono wC A5).okE (Pm:=a.Pm) (sy _ _ (rC _ _ tR m7)) 40 (fun d hd=>(all d hd).2) CD;refine k rM t L na ma D κ nv nd es ep oq oE N M m us ds ?_ Fp (wC _ _ SL L7) (DK.mono A5) (fun e=>by rw[e] at nl;exact ne (lW.mp nl)) 40 hN hM (sy _ _ se) (nu.mono (nJ sy)) l3 dn hκ;intro b o hb e;have e6:=x16 b o hb (s1 b o e);have FM:b∉[p,na,ma]:=by
   have a2:b≠na:=fun z=>by rw[z] at e;rw[s1 _ _ e] at wx;cases wx
   have a3:b≠ma:=fun z=>by rw[z] at e;rw[oQ _ _ (s1 _ _ e)] at wM;cases wM
   simp[hb,a2,a3]
  exact wC b o FM (kp b o FM e6)
def yA(K:W.Frag)(a:Adr):Sp:=fun vs H Q _=>ZbW fun(κ:Nat) (net b r:Addr) (es:NE) (ep:Nat) (N:ND->37) (ns:37) (bv rv:List V) (bs:37) (ts:108)=>Qn (vs=[.ref net,.ref b,.ref r]) (Wi κ a.Pm H net es ep N ns) 112 (NdL κ H bv bs) (bs.length<=1000) ((∀d∈bs,d∈ns)) (H r=some (.lst rv)) (ThL H rv ts) (PyData.canLayAll0 ts=true) (ts.length<=1000) (∀H' L us,77->H L=none->H' L=some (.lst us)->NdL κ H' us (YO N bs ts)->Q (.ref L) H')
theorem yJ{a:Adr}:58 6 a.y3 a.z3 cA yA:=fun T hw=>by
 have aS:=zU (P:=P) (w:=w) (base:=base) T hw 4;refine okX T.aJ.f YJ 51;intro X
 let d1:Rdg X Z5 [2,0,3]:=⟨_,(Zg (@Zo _ _ (4) _ _ _ _ YJ.nd rfl 34 (ZB hw 78 (pv 0) (ZJ 56 (pv 6) Zi (fun _ _=>rfl)) (fun _ _=>rfl)) rfl (.inl rfl)))⟩
 let d2:Rdg X Z5 [2,0,2]:=⟨_,(Zb (@Y8 _ _ _ _ (Wk fJ gk gm Yg (pv 3) (@Za _ _ _ _ _ (ZJ 56 (pv 6) Zi (fun _ _=>rfl)) Ze rfl)) rfl) d1.2)⟩
 let d3:Rdg X Z5 [2,0,1]:=⟨_,(Zb (ZZ (Xh (VW (K:=K) rfl (pv 6) (fun _=>rfl))) (Zg (Zs (pv 3))) Zt) d2.2)⟩
 let d4:Rdg X Z5 [2,0,0]:=⟨_,(Zb (Wy (i:=6) YJ.nd rfl rfl (Nc:=bS) (ix:=[none,some 5]) (ZD.of (by left:ZW (Zj Z5) V9 _ _ _=true)) rfl (ZF (K:=K) rfl (pv 4)) (fun _ _ _ _ _=>(Zk (i:=0) (show δ bS by left) rfl 34)) (fun _ _ _ _ _=>(U5 (YB (zI aS (rmL hr rfl) rfl T.ak.g T.ak.f.kp T.ak.n .nil Vn (@Za _ _ _ _ _ (pv 0) (@Za _ _ _ _ _ (pv 1) Ze rfl) rfl))))) (fun _ _ _ _ _=>(pv 0))) d3.2)⟩
 let d5:Rdg X Z5 [2]:=⟨_,(Zb (YS eJ rfl (ZF (K:=K) rfl (pv 2)) (Zk (i:=5) YJ.nd rfl 34) d4.2) (Zg (Zs (pv 3))))⟩
 let d6:Rdg X Z5 [1]:=⟨_,(Zb (@Zo _ _ (4) _ _ _ _ YJ.nd rfl 34 (pv 1) rfl (.inl rfl)) d5.2)⟩
 intro vs Q h;obtain⟨κ,net,b,r,es,ep,N,ns,bv,rv,bs,ts,rfl,hN,hb,nb,lb,bn,pE,tr,cl,lt,k⟩:=h;refine⟨_,(Zb (@Zo _ _ (3) _ _ _ _ YJ.nd rfl 34 (Yq Ze) rfl (.inl rfl)) d6.2),?_⟩;refine⟨by left,fun D hD=>?_⟩;have s1:=Zh (o:=.lst []) hD;have e1:(upd H D (.lst [])) D=some (.lst []):=Zc;generalize upd H D (.lst [])=H1 at s1 e1 ⊢;refine⟨_,rfl,_,rfl,r,rfl,⟨_,nH (s1 _ _ pE)⟩,?_⟩;have S5:b≠D:=fun e=>by rw[e,hD] at hb;cases hb
 have lr:=tr.len
 let J1:Nat->L2.St->Hp->Prop:=fun i U H'=>Ex7 fun(c:Addr) (z1 z2:69) (cv us:List V) (ch pre:37)=>Qn (U=[72,98,qr0 r,qr0 D,qr0 c,z1,z2]) (77) (H' D=some (.lst us)) (NdL κ H' us pre) (H' c=some (.lst cv)) (NdL κ H' cv ch) (ch.length<=1000) ((∀d∈ch,d∈ns)) (c≠D) (YO N bs ts=pre++YO N ch (ts.drop i)) (pre.length=i)
 refine Y0 (K:=K) (xs:=rv) J1 ?_ ?_ ?_ ?_
 ·exact⟨b,_,_,bv,[],bs,[],rfl,s1,e1,.nil,s1 _ _ hb,nb.mono (nJ s1),lb,bn,S5,rfl,rfl⟩
 ·rintro i U H' hi ⟨c,z1,z2,cv,us,ch,pre,rfl,sm,_⟩;exact nH (sm _ _ pE)
 ·rintro i x U H2 hx ⟨c,z1,z2,cv,us,ch,pre,rfl,sm,t4,nu,hc,nc,lc,cn,Rr,ea,lp⟩;have hi:i<rv.length:=(dk.mp hx).1;obtain⟨t,et,tt⟩:=tr.get hx;have ct:=Uq cl t (cY et);refine⟨_,rfl,c,rfl,⟨_,nH hc⟩,fun F hF=>?_⟩;have On:=nc.len;refine YX (J:=Itl K c) (n:=cv.length) (fun j U H'=>Ex2 fun(z:69) (ys:List V)=>Cj4 (U=[z,some x]) (Zd H2 H') (H' F=some (.lst ys)) (NdL κ H' ys ((ch.take j).filter fun d=>Zw (toD d) t))) ?_ ?_ ?_ ?_ ?_
  ·exact⟨_,[],rfl,Zh hF,Zc,.nil⟩
  ·rintro j U H' hj ⟨z,ys,rfl,s3,_⟩;exact⟨cv,cv[j],nH (s3 _ _ hc),cR hj⟩
  ·rintro U H' ⟨z,ys,rfl,s3,_⟩;exact⟨cv,nH (s3 _ _ hc),cP _⟩
  ·rintro j v U H' H3 hj ⟨z,ys,rfl,s3,sV,ny⟩ ⟨rfl,hv⟩ M N0 hM sq;have hv:=hv _ (nH (s3 _ _ hc));obtain⟨d,ed,nd⟩:=nc.get hv;have oW:(ch.take (j+1)).filter (fun d=>Zw (toD d) t)=(ch.take j).filter (fun d=>Zw (toD d) t)++(if Zw (toD d) t=true then[d] else[]):=by
    rw[Ι,ed,iK]
    show _++List.filter _ [d]=_
    rw[List.filter_cons];rfl
   have PP:ys.length<=1000:=by
    have:=ny.len;have h1:((ch.take j).filter fun d=>Zw (toD d) t).length<=(ch.take j).length:=hV _ _;rw[dB] at h1;lia
   refine⟨_,rfl,_,rfl,v,x,toD d,t,rfl,(nd.mono (nJ s3)).th,tt.mono (sm.trans s3),KJ d,(X5 nd.ok).1,ct,fh (X5 nd.ok).2 61,fun H4 s4=>⟨_,rfl,?_⟩⟩;cases hq:Zw (toD d) t with
   |true=>
    rw[hq] at oW;refine ZS ⟨_,rfl,hM _ _ _ ys (s4 _ _ sV) (by rw[cQ];lia) ⟨_,ys++[v],rfl,((Zd.x (s3.trans s4)).upd).same hF,Zc,?_⟩⟩;rw[oW];have u5:ZT H4 (upd H4 F (.lst (ys++[v]))):=Zm.u ((Zm.refl H4).upd) (s4 _ _ sV) (fun _ z=>by cases z);exact((ny.mono (nJ s4)).mono u5).app (.cons (((nd.mono (nJ s3)).mono (nJ s4)).mono u5) .nil)
   |false=>
    rw[hq] at oW;refine ZH (sq _ _ ⟨_,ys,rfl,s3.trans s4,s4 _ _ sV,?_⟩);rw[oW];simpa using ny.mono (nJ s4)
  ·rintro U H3 ⟨z,ys,rfl,s3,sV,ny⟩;have AH:=sm.trans s3;rw[On,fg] at ny;have hF0:H F=none:=by
    cases e:H F with
    |none=>rfl
    |some o=>rw[sm _ _ e] at hF;cases hF
   have hd:ts.drop i=t::ts.drop (i+1):=by
    have h2:=(dk.mp et).2;rw[<- h2,i8 (dk.mp et).1]
   rw[hd,Vg] at ea;have GZ:ch.find? (fun d=>Zw (toD d) t)=(ch.filter fun d=>Zw (toD d) t)[0]?:=by rw[<- List.head?_eq_getElem?,List.head?_filter]
   have sG:=s3 _ _ t4;have lu:=nu.len;have Ef:∀e∈ch.filter (fun d=>Zw (toD d) t),e∈ns:=fun e he=>cn e (fA.mp he).1;have lf:(ch.filter fun d=>Zw (toD d) t).length<=1000:=fh (hV _ _) lc;generalize (ch.filter fun d=>Zw (toD d) t)=fl at ny GZ Ef lf;have SQ:D≠F:=fun e=>by rw[<- e,t4] at hF;cases hF
   cases ny with
   |nil=>
    rw[GZ] at ea;have G3:YO N bs ts=pre:=by rw[ea];simp
    exact⟨_,rfl,_,.inl ⟨_,nH sV,rfl⟩,ZS ⟨_,rfl,k _ D us AH hD sG (by rw[G3];exact nu.mono (nJ s3))⟩⟩
   |@cons v d vr dr nv nr=>
    rw[GZ] at ea;have wR:=hN.mono AH;have dn:=Ef d dC;obtain⟨lv,uE⟩:=wR.has0 d dn;obtain⟨l,ws,rfl,hl,nw⟩:=wR.val d lv uE;have N4:l≠D:=fun e=>by
     obtain⟨l',FG,e',FV,_⟩:=hN.val d _ uE;cases e';rw[e,hD] at FV;cases FV
    refine⟨_,rfl,_,.inl ⟨_,nH sV,rfl⟩,ZH ⟨_,rfl,.inl ⟨rfl,_,nH sG⟩,_,rfl,F,_,_,_,rfl,rfl,nH sV,Zn (j:=0) rfl,D,_,_,rfl,rfl,sG,by rw[cQ];lia,?_⟩⟩;have x4:Zm D H3 (upd H3 D (.lst (us++[v]))):=(Zm.refl H3).upd;have u4:ZT H3 (upd H3 D (.lst (us++[v]))):=Zm.u x4 sG (fun _ z=>by cases z);have uW:Zd H (upd H3 D (.lst (us++[v]))):=((Zd.x AH).upd).same hD;have SC:=updK (o':=.lst (us++[v])) sV SQ.symm;have wH:=hN.mono uW;refine⟨_,rfl,_,rfl,F,_,_,_,rfl,rfl,nH SC,Zn (j:=0) rfl,net,es,ep,κ,d,.ref l,rfl,wH.at_,wH.keys,nv.mono u4,uE,?_⟩;exact⟨l,_,_,ws,us++[v],N d,pre++[d],rfl,uW,Zc,((nu.mono (nJ s3)).mono u4).app (.cons (nv.mono u4) .nil),updK hl N4,nw.mono u4,fh (hN.few d) 61,hN.sub d dn,N4,by rw[ea];simp,by simp[lp]⟩
 ·rintro U H2 ⟨c,z1,z2,cv,us,ch,pre,rfl,sm,t4,nu,hc,nc,lc,cn,Rr,ea,lp⟩;rw[lr,Υ] at ea;have G3:YO N bs ts=pre:=by rw[ea];cases ch<;>simp[YO]
  refine⟨_,rfl,k _ D us sm hD t4 (by rw[G3];exact nu)⟩
def zb(K:W.Frag)(a:Adr):Sp:=fun vs H Q _=>Zd1 fun(κ:Nat) (net mk b:Addr) (es oq:NE) (ep oE:Nat) (N:ND->37) (M:ND->71) (n:Nat) (ns:37) (bv:List V) (bs:37) (th:V) (r:Bool)=>Cj9 (vs=[.ref net,.ref mk,.ref b,th]) (Wi κ a.Pm H net es ep N ns) (X9 κ a.Pm H mk oq oE M n ns) 112 (NdL κ H bv bs) (bs.length<=1000) ((∀d∈bs,d∈ns)) (LpT K H N M bs th r) (∀H',77->Q (.bl r) H')
theorem zh{a:Adr}:58 7 a.y2 a.z2 cB zb:=fun T hw=>by
 refine okX T.aD.f YZ 51;intro X
 let d1:Rdg X Yh [5]:=⟨_,(Zg (Zs (Vx (X1 W6 (Zl 91 rfl T.aA nN (@Za _ _ _ _ _ (pv 7) Ze rfl)) (Zl 91 rfl T.aA nN (@Za _ _ _ _ _ (pv 6) Ze rfl)) (ZK _)) (Uu (ZV T.aZ (zJ T hw) hr rfl rfl (@Za _ _ _ _ _ (pv 1) (@Za _ _ _ _ _ (YW (Y1 (K:=K) rfl) (pv 7) (YG (Zl 91 rfl T.aA nN (@Za _ _ _ _ _ (pv 4) Ze rfl))) X0) Ze rfl) rfl))))))⟩
 let d2:Rdg X Yh [4]:=⟨_,(Zb (@Zo _ _ (7) _ _ _ _ YZ.nd rfl 34 (ZV T.aJ (yJ T hw) hr rfl rfl (@ZX _ _ _ _ _ (pv 0) (@ZX _ _ _ _ _ (pv 2) (@ZX _ _ _ _ _ (pv 6) Ze rfl) rfl) rfl)) rfl (.inl rfl)) d1.2)⟩
 let d3:Rdg X Yh [3]:=⟨_,(Zb (@Zo _ _ (6) _ _ _ _ YZ.nd rfl 34 (Yd qp (Yd qp (pv 4) (pv 5)) (YW (Y1 (K:=K) rfl) (pv 5) X0 (YG Zi))) rfl (.inl rfl)) d2.2)⟩
 let d4:Rdg X Yh [2]:=⟨_,(Zb (ZZ (PW.pt (Ua (Xh (YB (Zl (Wr (K:=K) rfl "list") rfl T.ae nP (@Za _ _ _ _ _ (pv 4) (@Za _ _ _ _ _ (XL (v:=.ty "list") rfl T.bj nZ rfl) Ze rfl) rfl)))) (Ua (Xh (YB (Zl (Wr (K:=K) rfl "list") rfl T.ae nP (@Za _ _ _ _ _ (pv 5) (@Za _ _ _ _ _ (XL (v:=.ty "list") rfl T.bj nZ rfl) Ze rfl) rfl)))) (Vy (Zy W6 (Zl 91 rfl T.aA nN (@Za _ _ _ _ _ (pv 5) Ze rfl)) Zi (ZK _)))))) 110 Zt) d3.2)⟩
 let d5:Rdg X Yh [1]:=⟨_,(Zb (jz (pv 3) (WK (K:=K) (n:=2) rfl rfl (Yc (Zk (i:=4) YZ.nd rfl 34) (Yc (Zk (i:=5) YZ.nd rfl 34) WM)))) d4.2)⟩
 intro vs Q h;obtain⟨κ,net,mk,b,es,oq,ep,oE,N,M,n,ns,bv,bs,th,r,rfl,hN,hM,hb,nb,lb,bn,Rg,k⟩:=h;refine⟨_,(Zb (ZZ (PW.pt (Ua (Xh (YB (Zl (yK (K:=K) rfl) rfl T.ae nP (@Za _ _ _ _ _ (pv 3) (@Za _ _ _ _ _ (XL (v:=.ty "tuple") rfl T.bq nQ rfl) Ze rfl) rfl)))) (Vy (Zy JY (Zl 91 rfl T.aA nN (@Za _ _ _ _ _ (pv 3) Ze rfl)) Zi (ZK _))))) 110 Zt) d5.2),?_⟩;have k0:=k H (Zd.refl H);cases Rg with
 |other t1 t2=>exact⟨_,rfl,_,rfl,.inr ⟨_,t1,t2,_,rfl,ZS (ZS k0)⟩⟩
 |@long t xs ht hl=>
  refine⟨_,rfl,_,rfl,.inl ⟨_,_,rfl,ht,_,rfl,ZH ⟨_,rfl,.inl ⟨_,_,rfl,.inr ht,rfl,_,rfl,yj (fun c=>?_) (fun c=>?_)⟩⟩⟩⟩
  ·exact k0
  ·exact oh (by simpa using c:(xs.length:Int)=2) 40
 |@noway t x y ty ht t1 t2=>
  refine⟨_,rfl,_,rfl,.inl ⟨_,_,rfl,ht,_,rfl,ZH ⟨_,rfl,.inl ⟨_,_,rfl,.inr ht,rfl,_,rfl,ZH ?_⟩⟩⟩⟩;refine⟨_,rfl,t,_,rfl,ht,rfl,_,_,rfl,_,_,rfl,rfl,?_⟩;exact⟨_,rfl,_,_,_,rfl,t1,t2,_,rfl,ZS (ZS k0)⟩
 |@noring t w y wv ty ht hw t1 t2=>
  refine⟨_,rfl,_,rfl,.inl ⟨_,_,rfl,ht,_,rfl,ZH ⟨_,rfl,.inl ⟨_,_,rfl,.inr ht,rfl,_,rfl,ZH ?_⟩⟩⟩⟩;refine⟨_,rfl,t,_,rfl,ht,rfl,_,_,rfl,_,_,rfl,rfl,?_⟩;exact⟨_,rfl,_,_,_,rfl,.lst hw,rfl,_,rfl,ZH ⟨_,rfl,_,_,_,rfl,t1,t2,_,rfl,ZS (ZS k0)⟩⟩
 |@empty t w r wv ht hw py=>
  refine⟨_,rfl,_,rfl,.inl ⟨_,_,rfl,ht,_,rfl,ZH ⟨_,rfl,.inl ⟨_,_,rfl,.inr ht,rfl,_,rfl,ZH ?_⟩⟩⟩⟩;refine⟨_,rfl,t,_,rfl,ht,rfl,_,_,rfl,_,_,rfl,rfl,?_⟩;exact⟨_,rfl,_,_,_,rfl,.lst hw,rfl,_,rfl,ZH ⟨_,rfl,_,_,_,rfl,.lst py,rfl,_,rfl,ZH ⟨_,rfl,.inl ⟨_,_,rfl,.inl (nH py),rfl,_,rfl,ZS k0⟩⟩⟩⟩
 |@loop t w r wv rv wt rt ht hw py tw tr c1 c2 oF l1 l2=>
  have lw:=tw.len;have lr:=tr.len;refine⟨_,rfl,_,rfl,.inl ⟨_,_,rfl,ht,_,rfl,ZH ⟨_,rfl,.inl ⟨_,_,rfl,.inr ht,rfl,_,rfl,ZH ?_⟩⟩⟩⟩;refine⟨_,rfl,t,_,rfl,ht,rfl,_,_,rfl,_,_,rfl,rfl,?_⟩;refine⟨_,rfl,_,_,_,rfl,.lst hw,rfl,_,rfl,ZH ⟨_,rfl,_,_,_,rfl,.lst py,rfl,_,rfl,ZH ⟨_,rfl,.inl ⟨_,_,rfl,.inl (nH py),rfl,_,rfl,yj (fun c=>?_) (fun c=>?_)⟩⟩⟩⟩
  ·exfalso
   have:(rv.length:Int)=0:=by simpa using c
   exact oF (lW.mp 40)
  ·clear c;refine⟨_,rfl,_,rfl,w,r,wv,rv,rfl,rfl,hw,py,by rw[cQ];lia,fun p1 A4=>?_⟩;have s1:=Zh (o:=.lst (wv++rv)) A4;have e1:(upd H p1 (.lst (wv++rv))) p1=some (.lst (wv++rv)):=Zc;generalize upd H p1 (.lst (wv++rv))=H1 at s1 e1 ⊢;refine⟨_,rfl,1,rfl,r,rv,rfl,nH (s1 _ _ py),fun p2 ut=>?_⟩;rw[zP];have s2:=s1.trans (Zh (o:=.lst (rv.take 1)) ut);have e2:(upd H1 p2 (.lst (rv.take 1))) p2=some (.lst (rv.take 1)):=Zc;have Dl:=Zh (o:=.lst (rv.take 1)) ut _ _ e1;generalize upd H1 p2 (.lst (rv.take 1))=H2 at s2 e2 Dl ⊢;refine⟨p1,p2,_,_,rfl,rfl,Dl,e2,by rw[cQ,cZ,dB];lia,fun p3 EW=>?_⟩;have s3:=s2.trans (Zh (o:=.lst (wv++rv++rv.take 1)) EW);have e3:(upd H2 p3 (.lst (wv++rv++rv.take 1))) p3=some (.lst (wv++rv++rv.take 1)):=Zc;generalize upd H2 p3 (.lst (wv++rv++rv.take 1))=H3 at s3 e3 ⊢;have tt:=((tw.app tr).app (tr.take 1)).mono s3;refine⟨_,rfl,_,rfl,_,rfl,κ,net,b,p3,es,ep,N,ns,bv,_,bs,wt++rt++rt.take 1,rfl,hN.mono s3,s3 _ _ hb,nb.mono (nJ s3),lb,bn,e3,tt,Uw (Uw c1 c2) (qQ 1 c2),by rw[cZ,cZ,dB];lia,fun H4 L us s4 Og hL nu=>?_⟩;have uW:=s3.trans s4;have lu:=nu.len;refine⟨_,rfl,.inl ⟨L,_,rfl,.inl (nH hL),_,rfl,.inl ⟨p3,_,rfl,.inl (nH (s4 _ _ e3)),rfl,_,rfl,yj (fun c=>?_) (fun c=>?_)⟩⟩⟩
   ·have oC:(YO N bs (wt++rt++rt.take 1)).length=(wt++rt++rt.take 1).length:=by
     have c':(V.int us.length)=V.int (wv++rv++rv.take 1).length:=dE c;injection c' with c';have:(wt++rt++rt.take 1).length=(wv++rv++rv.take 1).length:=by simp only[cZ,dB];lia
     lia
    have q:=fun H' s=>k H' s;have ht1:1<=(rt.take 1).length:=by
     rw[dB];have:=iG.mpr oF;lia
    have hp:WW N M bs wt rt=Yb M n ((YO N bs (wt++rt++rt.take 1)).drop wt.length):=by
     unfold WW;dsimp only;rw[dy oC,g9];have hm:=qm hN.sub (wt++rt++rt.take 1) bs bn;have hd:(YO N bs (wt++rt++rt.take 1)).drop wt.length≠[]:=fun e=>by
      have:=dt ζ e;rw[gL,oC] at this;simp only[cZ,List.length_nil] at this;lia
     cases e:(YO N bs (wt++rt++rt.take 1)).drop wt.length with
     |nil=>exact oh e hd
     |cons x s=>
      dsimp only;rw[hM.len x (hm x (mz (by rw[e];exact dC)))]
    rw[hp] at q;have hm:=qm hN.sub (wt++rt++rt.take 1) bs bn;refine⟨_,rfl,_,rfl,_,rfl,.inl ⟨w,_,rfl,.inl (nH (uW _ _ hw)),_,rfl,L,us,rfl,nH hL,fun p5 Tq=>?_⟩⟩;rw[xZ us wv.length (by rw[lu,oC];simp only[cZ];lia)];have s5:=Zh (o:=.lst (us.drop wv.length)) Tq;refine⟨κ,mk,p5,oq,oE,M,n,ns,_,_,rfl,hM.mono (uW.trans s5),Zc,(nu.mono (nJ s5)).drop wv.length,?_,?_,fun d hd=>hm d (mz hd),fun H6 s6=>?_⟩
    ·rw[gL,oC];simp only[cZ,dB];lia
    ·intro e;have:=dt ζ e;rw[gL,oC] at this;simp only[cZ,List.length_nil] at this;lia
    ·have:=q H6 ((uW.trans s5).trans s6);rw[<- lw] at this;exact this
   ·have oC:¬(YO N bs (wt++rt++rt.take 1)).length=(wt++rt++rt.take 1).length:=fun e=>by
     refine c (dy ?_);have:(wt++rt++rt.take 1).length=(wv++rv++rv.take 1).length:=by simp only[cZ,dB];lia
     rw[lu,e,this]
    have q:=k H4 uW;unfold WW at q;dsimp only at q;rw[dZ oC,gu] at q;exact q
def Kp(bs:71)(i:Int):Bool:=decide (0<=i)&&(decide (i<bs.length)&&!bs.getD i.toNat false)
def xK(K:W.Frag)(a:Adr):Sp:=fun vs H Q _=>Ex3 fun(l:Addr) (bs:71) (i:Int)=>Cj4 (vs=[.ref l,.int i]) (H l=some (.lst (bs.map V.bl))) (bs.length<=12) (Q (.bl (Kp bs i)) H)
theorem xD{a:Adr}:58 2 a.y9 a.z9 cC xK:=fun T hw=>by
 refine okF T.aN.f xo (113) (by intro _ _ _ _ h;cases h;rename_i h;cases h;subst_vars;rfl);obtain⟨l,bs,i,rfl,hl,lb,k⟩:=h;refine⟨_,(Zg (Zs (Vx (ZV T.aI (VJ T hw) hr rfl rfl (@Za _ _ _ _ _ (pv 1) Ze rfl)) (Vx (Za5 ZeR vO Zi (pv 1) (Zl 91 rfl T.aA nN (@Za _ _ _ _ _ (pv 0) Ze rfl))) (Uu (ZaX (ZJ 56 (pv 0) (pv 1) (fun _ _=>rfl)))))))),?_⟩;refine⟨_,rfl,_,rfl,.int _,?_⟩;refine⟨_,rfl,ZS ?_⟩;have hk:Kp bs i=(decide (0<=i)&&(decide (i<bs.length)&&!bs.getD i.toNat false)):=rfl;rw[hk] at k;refine⟨_,rfl,_,_,rfl,rfl,_,rfl,?_⟩
 by_cases c:(0:Int)<=i
 ·rw[show decide ((0:Int)<=i)=true from dy c] at k ⊢;refine ZS ⟨_,rfl,.inl ⟨l,_,rfl,.inl (nH hl),_,_,rfl,rfl,_,rfl,?_⟩⟩;rw[cS]
  by_cases c2:i<(bs.length:Int)
  ·rw[show decide (i<(bs.length:Int))=true from dy c2] at k ⊢;obtain⟨m,rfl⟩:=Int.eq_ofNat_of_zero_le c;have hm:m<bs.length:=by lia
   refine ZS ⟨_,rfl,_,rfl,l,_,_,.bl (bs.getD m false),rfl,rfl,nH hl,Zn (j:=m) (by rw[dz,gH,cR hm];rfl),?_⟩;exact⟨_,rfl,k⟩
  ·rw[show decide (i<(bs.length:Int))=false from dZ c2] at k ⊢;exact ZH k
 ·rw[show decide ((0:Int)<=i)=false from dZ c] at k ⊢;exact⟨_,rfl,ZH k⟩
def ZdD(N:ND->37)(M:ND->71)(R:ND->68)(L:Nat->Option (68))(d:ND)(k:Nat):Prop:=
 (∀m,L k=some (some m)->m<(M d).length/\ZL M m d=false)/\∀x∈N d,∃q,R x=some q/\q<=k/\(L k=99->q≠k)
def jc(K:W.Frag)(a:Adr):Sp:=fun vs H Q _=>Zdr fun(κ:Nat) (net mk rk lk:Addr) (es oq oy o6:NE) (ep oE oH pz:Nat) (N:ND->37) (M:ND->71) (n:Nat) (nd:37) (R:ND->68) (L:Nat->Option (68)) (x:V) (d:ND) (k:Nat)=>Zb9 (vs=[.ref net,.ref mk,.ref rk,.ref lk,x]) 115 (X9 κ a.Pm H mk oq oE M n nd) (RkD κ a.Pm H rk oy oH nd R) (LkD a.Pm H lk o6 pz L) (Nd κ H x d) (d∈nd) (R d=some k) ((L k).isSome=true) (∀b H',(b=true↔ZdD N M R L d k)->77->Q (.bl b) H')
theorem jx{a:Adr}:58 3 a.y8 a.z8 cD jc:=fun T hw=>by
 refine okX T.aV.f Wm 51;intro X
 let d1:Rdg X Xi [3,0,0]:=⟨_,(Zb (ZZ (PW.pt (Ua (WT (Xs hw 78 (pv 7) (pv 2))) (Vy (Zy Kq (ZB hw 78 (pv 2) (pv 7) (fun _ _=>rfl)) (pv 5) (ZK _))))) 110 Zt) (Zg (ZZ (PW.pt (VC (Zy ZaF (pv 6) Wf (ZK _)) (WN (Zy W6 (ZB hw 78 (pv 2) (pv 7) (fun _ _=>rfl)) (pv 5) (ZK _))))) 110 Zt)))⟩
 let d2:Rdg X Xi [3]:=⟨_,(Zb (YS eJ rfl (ZF (K:=K) rfl (ZB hw 78 (pv 0) (pv 4) (fun _ _=>rfl))) (Zk (i:=7) Wm.nd rfl 34) d1.2) 110)⟩
 let d3:Rdg X Xi [2]:=⟨_,(Vv (ZZ (PW.pt (VC (Zy zp (pv 6) Wf (ZK _)) (WN (Xh (YB (ZV T.aN (xD T hw) hr rfl rfl (@Za _ _ _ _ _ (ZB hw 78 (pv 1) (pv 4) (fun _ _=>rfl)) (@Za _ _ _ _ _ (pv 6) Ze rfl) rfl))))))) 110 Zt) d2.2)⟩
 let d4:Rdg X Xi [1]:=⟨_,(Zb (@Zo _ _ (6) _ _ _ _ Wm.nd rfl 34 (ZB hw 78 (pv 3) (pv 5) (fun _ _=>rfl)) rfl (.inl rfl)) d3.2)⟩
 intro vs Q h;obtain⟨κ,net,mk,rk,lk,es,oq,oy,o6,ep,oE,oH,pz,N,M,n,nd,R,L,x,d,k,rfl,hN,hM,hR,hL,nx,dn,rd,Mz,kk⟩:=h;refine⟨_,(Zb (@Zo _ _ (5) _ _ _ _ Wm.nd rfl 34 (ZB hw 78 (pv 2) (pv 4) (fun _ _=>rfl)) rfl (.inl rfl)) d4.2),?_⟩;obtain⟨lo,Dq⟩:=fG.mp Mz;have kl:=hR.few d k rd;have vr:ZU oy d=some (.int (k:Int)):=by rw[hR.val,rd];rfl
 have vl:ZU o6 (.i k)=some (XR lo):=by rw[hL.val,Dq];rfl
 obtain⟨ml,uH,wf⟩:=hM.on dn;have Lr:=hM.len d dn;have fw:=hM.few;refine⟨_,rfl,_,rfl,rk,oy,oH,κ,d,_,rfl,hR.at_,hR.keys,nx,vr,?_⟩;refine⟨_,rfl,_,rfl,lk,o6,pz,0,.i k,_,rfl,hL.at_,hL.keys,⟨kl,rfl⟩,vl,?_⟩;have oO:∀x∈N d,∀q,R x=some q->ZU oy x=some (.int (q:Int)):=fun x _ q e=>by rw[hR.val,e];rfl
 refine⟨fun U H'=>Ex1 fun(z:69)=>Cj3 (U=[72,qr0 mk,qr0 rk,qr0 lk,some x,some (.int (k:Int)),some (XR lo),z]) (H'=H) (∀m,lo=some m->m<(M d).length/\ZL M m d=false),?_,?_⟩
 rotate_left
 ·rintro σ' H' ⟨z,rfl,rfl,FE⟩;obtain⟨l,ws,el,hl,nl⟩:=hN.on dn;have tJ:=nl.len;refine⟨_,rfl,_,rfl,net,es,ep,κ,d,_,rfl,hN.at_,hN.keys,nx,el,l,rfl,⟨_,nH hl⟩,?_⟩;have no:∀{y:ND},y∈N d->(¬∃q,R y=some q/\q<=k/\(L k=99->q≠k))->Q (.bl false) H':=fun {y} hy h=>kk false H' ⟨fun z=>θ z,fun z=>oh (z.2 y hy) h⟩ (.refl _)
  let J1:Nat->L2.St->Hp->Prop:=fun i U H2=>Ex1 fun(z:69)=>Cj3 (U=[72,qr0 mk,qr0 rk,qr0 lk,some x,some (.int (k:Int)),some (XR lo),z]) (H2=H') (∀y∈(N d).take i,∃q,R y=some q/\q<=k/\(L k=99->q≠k))
  refine Y0 (K:=K) (xs:=ws) J1 ?_ ?_ ?_ ?_
  ·exact⟨_,rfl,rfl,fun _ h=>by simp at h⟩
  ·rintro i U H2 hi ⟨z,rfl,rfl,_⟩;exact nH hl
  ·rintro i v U H2 hv ⟨z,rfl,rfl,ih⟩;obtain⟨y,ey,ny⟩:=nl.get hv;have ym:=cY ey;have oW:(N d).take (i+1)=(N d).take i++[y]:=by rw[fz,ey];rfl
   refine⟨_,rfl,_,rfl,rk,oy,oH,κ,y,rfl,hR.at_,hR.keys,ny,_,rfl,?_⟩;have iv:=hR.val y;cases er:R y with
   |none=>
    rw[er] at iv;rw[iv];exact ZS (ZS (no ym fun⟨q,e,_⟩=>by rw[er] at e;cases e))
   |some q=>
    rw[er] at iv;have HW:ZU oy y=some (.int (q:Int)):=iv;rw[HW];refine ZH ⟨_,rfl,_,rfl,rk,oy,oH,κ,y,_,rfl,hR.at_,hR.keys,ny,HW,_,rfl,_,_,rfl,rfl,_,rfl,?_⟩
    by_cases c:k<q
    ·rw[show decide ((k:Int)<(q:Int))=true from dy 40];exact ZS (no ym fun⟨q',e,le,_⟩=>by rw[er] at e;cases e;lia)
    ·rw[show decide ((k:Int)<(q:Int))=false from dZ 40];refine ZH ⟨_,rfl,rfl,_,rfl,?_⟩;cases lo with
     |some m=>
      rw[show decide (XR (some m)=V.non)=false from dZ (fun z=>by cases z)];refine ZH ⟨_,rfl,rfl,fun y' hy'=>?_⟩;rw[oW] at hy';rcases db.mp hy' with hy'|hy'
      ·exact ih y' hy'
      ·rw[df] at hy';subst hy';exact⟨q,er,by lia,fun z=>by rw[Dq] at z;cases z⟩
     |none=>
      rw[show decide (XR none=V.non)=true from dy rfl];refine ZS ⟨_,rfl,_,rfl,rk,oy,oH,κ,y,_,rfl,hR.at_,hR.keys,ny,HW,_,rfl,rfl,_,rfl,?_⟩
      by_cases c2:q=k
      ·rw[show decide (V.int (q:Int)=V.int (k:Int))=true from dy (by rw[c2])];exact ZS (no ym fun⟨q',e,_,n2⟩=>by rw[er] at e;cases e;exact n2 Dq c2)
      ·rw[show decide (V.int (q:Int)=V.int (k:Int))=false from dZ (fun z=>c2 (by injection z with z;lia))];refine ZH ⟨_,rfl,rfl,fun y' hy'=>?_⟩;rw[oW] at hy';rcases db.mp hy' with hy'|hy'
       ·exact ih y' hy'
       ·rw[df] at hy';subst hy';exact⟨q,er,by lia,fun _=>c2⟩
  ·rintro U H2 ⟨z,rfl,rfl,ih⟩;rw[tJ,fg] at ih;exact kk true _ ⟨fun _=>⟨fun m e=>by rw[Dq] at e;exact FE m (eZ e),ih⟩,fun _=>rfl⟩ (.refl _)
 refine⟨_,rfl,rfl,_,rfl,?_⟩;cases lo with
 |none=>
  rw[show(!decide (XR none=V.non))=false from rfl];exact ZH ⟨_,rfl,rfl,fun m e=>by cases e⟩
 |some m=>
  rw[show(!decide (XR (some m)=V.non))=true from rfl];refine ZS ⟨_,rfl,_,rfl,mk,oq,oE,κ,d,_,rfl,hM.at_,hM.keys,nx,uH,_,rfl,ml,M d,(m:Int),rfl,wf,by lia,_,rfl,?_⟩;have hB:Kp (M d) (m:Int)=(decide (m<(M d).length)&&!ZL M m d):=by
   unfold Kp ZL;rw[show decide ((0:Int)<=(m:Int))=true from dy 40,g9,show decide ((m:Int)<((M d).length:Int))=decide (m<(M d).length) from by simp,fu]
  rw[hB]
  by_cases c:m<(M d).length/\ZL M m d=false
  ·rw[c.2,show decide (m<(M d).length)=true from dy c.1];exact ZH ⟨_,rfl,rfl,fun m' e=>by cases e;exact c⟩
  ·have:(decide (m<(M d).length)&&!ZL M m d)=false:=by
    rw[mZ]
    by_cases c1:m<(M d).length
    ·right
     cases e:ZL M m d with
     |true=>rfl
     |false=>exact oh ⟨c1,e⟩ c
    ·refine .inl ?_;exact dZ c1
   rw[this];exact ZS (kk false H ⟨fun z=>θ z,fun z=>oh (z.1 m Dq) c⟩ (.refl _))
def ClB(N:ND->37)(M:ND->71)(bs:37)(R:ND->68)(L:Nat->Option (68)):Prop:=
 (∀k,(∃d,R d=some k)↔(L k).isSome=true)/\(∀b∈bs,(R b).isSome=true)/\∀d k,R d=some k->ZdD N M R L d k
def QJ(K:W.Frag)(a:Adr):Sp:=fun vs H Q _=>Zdr fun(κ:Nat) (net mk b rk lk:Addr) (es oq oy o6:NE) (ep oE oH pz:Nat) (N:ND->37) (M:ND->71) (n:Nat) (nd:37) (bv:List V) (bs:37) (R:ND->68) (L:Nat->Option (68))=>Cj9 (vs=[.ref net,.ref mk,.ref b,.ref rk,.ref lk]) 115 (X9 κ a.Pm H mk oq oE M n nd) 112 (NdL κ H bv bs) (bs.length<=1000) (RkD κ a.Pm H rk oy oH nd R) (LkD a.Pm H lk o6 pz L) (∀c H',(c=true↔ClB N M bs R L)->77->Q (.bl c) H')
theorem Qj{a:Adr}:58 7 a.y5 a.z5 cE QJ:=fun T hw=>by
 refine okX T.bm.f QD 51;intro X
 let d1:Rdg X WB [2]:=⟨_,(Zg (Zs (Zl (Wo (K:=K) rfl rfl) rfl T.bt nU (@Za _ _ _ _ _ (Xz (Nc:=cL) (ix:=[none,some 0,some 1,some 3,some 4]) (ZD.of (by left:ZW (Zj WB) zX _ _ _=true)) rfl (zF (Pm:=a.Pm) (pv 3)) (fun _ _ _ _ _=>(Zk (i:=0) (show δ cL by left) rfl 34)) (fun _ _ _ _ _=>Z3) (fun _ _ _ _ _=>(ZV T.aV (jx T hw) hr rfl rfl (@ZX _ _ _ _ _ (pv 1) (@ZX _ _ _ _ _ (pv 2) (@ZX _ _ _ _ _ (pv 3) (@ZX _ _ _ _ _ (pv 4) (@ZX _ _ _ _ _ (pv 0) Ze rfl) rfl) rfl) rfl) rfl)))) Ze rfl))))⟩
 let d2:Rdg X WB [1]:=⟨_,(Zb (ZZ (Xh (YB (Zl (Wo (K:=K) rfl rfl) rfl T.bt nU (@Za _ _ _ _ _ (Xz (Nc:=["begin","ranks"]) (ix:=[none,some 3]) (ZD.of (by left:ZW (Zj WB) zX _ _ _=true)) rfl (ZF (K:=K) rfl (pv 2)) (fun _ _ _ _ _=>(Zk (i:=0) (show δ (["begin","ranks"]:54) by left) rfl 34)) (fun _ _ _ _ _=>Z3) (fun _ _ _ _ _=>(ZaO (Jm hw 78 (pv 0) (pv 1))))) Ze rfl)))) 110 Zt) d1.2)⟩
 intro vs Q h;obtain⟨κ,net,mk,b,rk,lk,es,oq,oy,o6,ep,oE,oH,pz,N,M,n,nd,bv,bs,R,L,rfl,hN,hM,hb,nb,lb,hR,hL,k⟩:=h;refine⟨_,(Zb (ZZ (PW.pt (Ua (Xh (YB (ZV T.aT (jF T hw) hr rfl rfl (@Za _ _ _ _ _ (pv 0) (@Za _ _ _ _ _ (pv 3) Ze rfl) rfl)))) (Vy (Xh (YB (ZV T.aU (jA T hw) hr rfl rfl (@Za _ _ _ _ _ (pv 3) (@Za _ _ _ _ _ (pv 4) Ze rfl) rfl))))))) 110 Zt) d2.2),?_⟩;have rJ:=hN.len;have lR:=hR.len;have wK:=nb.len;have no:∀{H'},77->¬ClB N M bs R L->Q (.bl false) H':=fun {H'} s h=>k false H' ⟨fun z=>θ z,fun z=>oh z h⟩ s;refine⟨_,rfl,_,rfl,κ,net,rk,es,oy,ep,oH,N,nd,R,rfl,hN,hR,fun H1 s1=>⟨_,rfl,ZH ?_⟩⟩;have wj:=hR.mono s1;have Ch:=hL.mono s1;refine⟨_,rfl,_,rfl,κ,rk,lk,oy,o6,oH,pz,nd,R,L,rfl,wj,Ch,rJ,fun c H2 hc s2=>⟨_,rfl,?_⟩⟩;have oQ:=s1.trans s2;cases c with
 |false=>exact ZS (no oQ fun z=>θ (hc.mpr z.1))
 |true=>
  have hc:=hc.mp rfl;refine ZH ?_;have r6:=hR.mono oQ;have FK:=oQ _ _ hb;have FM:=nb.mono (nJ oQ);refine⟨_,rfl,b,rfl,⟨_,nH FK⟩,fun D hD=>?_⟩;refine Vw (K:=K) hD (nH FK) (by rw[cQ];lia) (fun j v _=>∀e,bs[j]?=some e->v=.bl (R e).isSome) (fun _ _ _ _ _ q=>q) ?_ ?_
  ·intro j y H3 Nx hy s3 wB;obtain⟨e,ee,ne⟩:=FM.get hy;have sO:=r6.mono s3;refine⟨_,rfl,_,rfl,rk,oy,oH,κ,e,rfl,sO.at_,sO.keys,ne.mono (nJ s3),?_⟩;refine wB _ _ (.refl _) fun e' h'=>?_;rw[ee] at h';cases h';rw[sO.val,Μ]
  ·intro H3 ys sG s3 yl tz;have ey:=yu (f:=fun e=>(R e).isSome) 40 fun j v e h1 h2=>tz j v h1 e h2;refine⟨D,_,rfl,nH (by rw[sG,ey]),_,rfl,?_⟩;have pJ:=oQ.trans s3;cases ca:(bs.map fun e=>(R e).isSome).all id with
   |false=>
    refine ZS (no pJ fun z=>?_);have:(bs.map fun e=>(R e).isSome).all id=true:=dU.mpr fun x hx=>by
     obtain⟨e,he,rfl⟩:=da.mp hx;exact z.2.1 e he
    rw[ca] at this;cases this
   |true=>
    have EK:∀b∈bs,(R b).isSome=true:=fun e he=>dU.mp ca _ (gI he);refine ZH ?_;have sO:=hR.mono pJ;refine⟨_,rfl,rk,oy,oH,rfl,sO.at_,fun E2 hE=>?_⟩;refine YX (J:=ItD a.Pm rk oy oH) (n:=oy.length) (fun i U H'=>Ex2 fun(z:69) (cs:71)=>Cj5 (U=[z,72,qr0 mk,qr0 rk,qr0 lk]) (Zd H3 H') (H' E2=some (.lst (cs.map V.bl))) (cs.length=i) (((∀c∈cs,c=true)↔∀j e,j<i->oy[j]?=some e->∀q,R e.1=some q->ZdD N M R L e.1 q))) ?_ ?_ ?_ ?_ ?_
    ·exact⟨_,[],rfl,Zh hE,Zc,rfl,fun _ j _ h=>oh h (hU j),fun _ _ h=>by cases h⟩
    ·rintro i U H' hi ⟨z,cs,rfl,s4,_⟩;exact⟨s4 _ _ sO.at_,hi⟩
    ·rintro U H' ⟨z,cs,rfl,s4,_⟩;exact⟨s4 _ _ sO.at_,cP _⟩
    ·rintro i y U H4 H5 hi ⟨z,cs,rfl,s4,hl,NO,E6⟩ ⟨rfl,e,ee,rfl⟩ N' N0 wm sq;have em:=cY ee;obtain⟨q,eq,_⟩:=hR.ent em;have rW:=pJ.trans s4;have tq:=hR.mono rW;refine⟨_,rfl,_,rfl,_,rfl,_,rfl,_,rfl,κ,net,mk,rk,lk,es,oq,oy,o6,ep,oE,oH,pz,N,M,n,nd,R,L,e.2.1,e.1,q,rfl,hN.mono rW,hM.mono rW,tq,hL.mono rW,tq.keys e em,hR.sub e em,eq,(hc q).mp ⟨_,eq⟩,fun c2 H6 MY s6=>?_⟩;refine wm _ _ _ _ (s6 _ _ hl) (by rw[cS,cQ];lia) ⟨_,cs++[c2],rfl,Zd.upN (s4.trans s6) hE,by rw[Zc,eO];rfl,by rw[cZ,NO];rfl,?_⟩;constructor
     ·intro h j e' hj ej q' AO
      by_cases cj:j<i
      ·exact E6.mp (fun c m=>h c (dN _ m)) j e' cj ej q' AO
      ·have:j=i:=by lia
       subst this;rw[ee] at ej;cases ej;rw[eq] at AO;cases AO;exact MY.mp (h c2 39)
     ·intro h c m;rcases db.mp m with m|m
      ·exact E6.mpr (fun j e' hj=>h j e' 40) c m
      ·rw[df] at m;subst m;exact MY.mpr (h i e (fR i) ee q eq)
    ·rintro U H4 ⟨z,cs,rfl,s4,hl,NO,E6⟩;refine⟨E2,_,rfl,nH hl,k _ _ ?_ (pJ.trans s4)⟩;have:cs.all id=true↔∀c∈cs,c=true:=dU;rw[this,E6];constructor
     ·intro h;refine⟨hc,EK,fun d q ed=>?_⟩;have:(ZU oy d).isSome=true:=by rw[hR.val,ed];rfl
      obtain⟨e,he,rfl⟩:=da.mp (Xy.mp this);obtain⟨j,hj,ej⟩:=fo he;exact h j e hj (by rw[cR hj,ej]) q ed
     ·rintro⟨_,_,h⟩ j e _ _ q ed;exact h e.1 q ed
def UB(K:W.Frag)(a:Adr):Sp:=fun vs H Q _=>ZaM fun(κ:Nat) (r dx b:Addr) (fs:73) (N:ND->37) (M:ND->71) (n:Nat) (nd bs:37) (bv:List V)=>Cj6 (vs=[.ref r,.ref b]) (KG κ a.Pm a.C_Knots H r dx fs N M n nd bs) 112 (NdL κ H bv bs) ((Wz N M n bs=none->∀H',77->Q .non H')) (∀way ring,Wz N M n bs=some (way,ring)->∀H' p w g wv gv,77->H p=none->H w=none->H g=none->H' p=some (.tup [.ref w,.ref g])->H' w=some (.lst wv)->H' g=some (.lst gv)->NdL κ H' wv way->NdL κ H' gv ring->Q (.ref p) H')
theorem Uk{a:Adr}:58 4 a.y20 a.z20 bN UB:=fun T hw=>by
 refine okX T.al.f Wu 51;intro X
 let d1:Rdg X YE [2]:=⟨_,(Zg (Zs (@WA _ _ _ _ _ (@Za _ _ _ _ _ (YW (Y1 (K:=K) rfl) (pv 2) X0 (YG (XT Y5 Zi))) (@Za _ _ _ _ _ (Vf (pv 0) T.ab T.ao.m (Um T hw) (rmL hr rfl) T.ao.n .nil Vn (@Za _ _ _ _ _ (ZJ 56 (pv 2) (XT Y5 Zi) (fun _ _=>rfl)) Ze rfl)) Ze rfl) rfl))))⟩
 let d2:Rdg X YE [1]:=⟨_,(Zb (ZZ (Zy ZaF (pv 2) Wf (ZK _)) (Zg (Zs Wf)) Zt) d1.2)⟩
 intro vs Q h;obtain⟨κ,r,dx,b,fs,N,M,n,nd,bs,bv,rfl,kg,hb,nb,k1,k2⟩:=h;refine⟨_,(Zb (@Zo _ _ (2) _ _ _ _ Wu.nd rfl 34 (ZV T.aO (Uv T hw) hr rfl rfl (@ZX _ _ _ _ _ 92 (@ZX _ _ _ _ _ (pv 1) (@ZX _ _ _ _ _ 92 Ze rfl) rfl) rfl)) rfl (.inl rfl)) d2.2),?_⟩;obtain⟨ko,gl,lg,sr,rH,g1,g2,g3,g4⟩:=id kg;obtain⟨net,es,ep,ln,hN⟩:=ko.net;unfold Wz at k1 k2;refine⟨_,rfl,r,_,dx,_,_,rfl,ko.obj,T.ab,T.aq,ln,_,rfl,_,rfl,r,_,dx,_,_,rfl,ko.obj,T.ab,T.aH,lg,κ,net,b,gl,es,sr,ep,rH,N,nd,bv,bs,qg N M n (44),rfl,hN,hb,nb,ko.bn,g1,g2,fun e=>by rw[Xy,g3],fun en H1 s1=>?_,fun p en H1 pl pv s1 pU Oh Nf=>?_⟩
 ·rw[en] at k1;refine⟨_,rfl,rfl,_,rfl,?_⟩;rw[show decide (V.non=V.non)=true from dy rfl];exact ZS (k1 rfl H1 s1)
 ·rw[en] at k2;have sub:=ko.sub;have ok:=Ul sub ko.bn en;obtain⟨q,gd,ep',gG⟩:=ok.last;have lw:vG p=gd:=by rw[ep',yX]
  have TB:=ok.few;have h12:=hN.len;rw[ep'] at Nf;obtain⟨pi,px,rfl,Oc,SO⟩:=WX Nf;have N8:=Oc.len;refine⟨_,rfl,rfl,_,rfl,?_⟩;rw[show decide (V.ref pl=V.non)=false from dZ (fun z=>by cases z)];refine ZH ?_;refine⟨_,rfl,_,rfl,_,rfl,pl,_,rfl,nH Oh,fun w hw=>?_⟩;have s2:=Zh (o:=.lst (XN (pi++[px]) none (some (-1)))) hw;have ew:(upd H1 w (.lst (XN (pi++[px]) none (some (-1))))) w=some (.lst (XN (pi++[px]) none (some (-1)))):=Zc;have ec:XN (pi++[px]) none (some (-1))=pi:=by
   rw[xi _ 39,cZ,fB,mO,List.take_left]
  rw[ec] at s2 ew
  show Wa _ _ _ (upd H1 w (.lst (XN (pi++[px]) none (some (-1))))) _
  rw[ec];generalize upd H1 w (.lst pi)=H2 at s2 ew ⊢;have oQ:=s1.trans s2;have Fv:H w=none:=by
   cases e:H w with
   |none=>rfl
   |some o=>rw[s1 _ _ e] at hw;cases hw
  refine⟨_,rfl,r,dx,fs,rfl,oQ _ _ ko.obj,ko.no "ring_from" 39,_,rfl,_,rfl,pl,_,_,px,rfl,rfl,nH (s2 _ _ Oh),L2.atI_last pi px,κ,r,dx,fs,N,M,n,nd,bs,px,gd,rfl,⟨ko.mono oQ,gl,lg,RkP.mono oQ ⟨sr,rH,g1,g2,g3,g4⟩⟩,SO.mono (nJ s2),gG,fun H3 g gv s3 hg eg ng=>?_⟩;refine⟨by show 2<=sizeLine;rw[cQ];decide,fun t ht=>?_⟩;have s4:=Zh (o:=.tup [.ref w,.ref g]) ht;have rW:=oQ.trans s3;have Fy:H g=none:=by
   cases e:H g with
   |none=>rfl
   |some o=>rw[oQ _ _ e] at hg;cases hg
  have wu:H t=none:=by
   cases e:H t with
   |none=>rfl
   |some o=>rw[rW _ _ e] at ht;cases ht
  refine k2 p.dropLast (VQ N M n (44) (vG p)) rfl _ t w g pi gv (rW.trans s4) wu Fv Fy Zc (s4 _ _ (s3 _ _ ew)) (s4 _ _ eg) ?_ ?_
  ·rw[ep',mU];exact Oc.mono (nJ ((s2.trans s3).trans s4))
  ·rw[lw];exact ng.mono (nJ s4)
def qD(K:W.Frag)(a:Adr):Sp:=fun vs H Q _=>ZeE fun(κ:Nat) (net mk b:Addr) (es oq:NE) (ep oE:Nat) (N:ND->37) (M:ND->71) (n:Nat) (nd:37) (bv:List V) (bs:37)=>Cj9 (vs=[.ref net,.ref mk,.ref b]) 115 (X9 κ a.Pm H mk oq oE M n nd) 112 (NdL κ H bv bs) ((∀d∈bs,d∈nd)) (bs.length<=1000) ((∀way ring,Wz N M n bs=some (way,ring)->∀H' p w g wv gv,77->H p=none->H w=none->H g=none->H' p=some (.tup [.str "loop",.ref w,.ref g])->H' w=some (.lst wv)->H' g=some (.lst gv)->NdL κ H' wv way->NdL κ H' gv ring->Q (.ref p) H')) ((Wz N M n bs=none->∀H' p R L,77->H p=none->H R=none->H L=none->R≠L->H' p=some (.tup [.str "ranks",.ref R,.ref L])->RkT κ a.Pm H' R N bs->LkT a.Pm H' L N M n bs->Q (.ref p) H'))
theorem qd{a:Adr}:58 5 a.y10 a.z10 cF qD:=fun T hw=>by
 refine okX T.aB.f YH 51;intro X
 let d1:Rdg X Yp [2,0,0]:=⟨_,(Zg (Zs (@WA _ _ _ _ _ (@ZX _ _ _ _ _ Uo (@ZX _ _ _ _ _ (ZJ (Xd (K:=K) rfl) (pv 4) Zi (fun _ _=>rfl)) (@ZX _ _ _ _ _ (ZJ (Xd (K:=K) rfl) (pv 4) Zi (fun _ _=>rfl)) Ze rfl) rfl) rfl))))⟩
 let d2:Rdg X Yp [3]:=⟨_,(Zb (jz (Vf (pv 3) T.ab T.aj.m (V5 T hw) (rmL hr rfl) T.aj.n .nil Vn (@Za _ _ _ _ _ (pv 2) Ze rfl)) (WK (K:=K) (n:=2) rfl rfl (Yc (Zk (i:=5) YH.nd rfl 34) (Yc (Zk (i:=6) YH.nd rfl 34) WM)))) (Zg (Zs (@WA _ _ _ _ _ (@ZX _ _ _ _ _ Uo (@ZX _ _ _ _ _ (pv 5) (@ZX _ _ _ _ _ (pv 6) Ze rfl) rfl) rfl)))))⟩
 let d3:Rdg X Yp [2]:=⟨_,(Zb (ZZ (Zy zp (pv 4) Wf (ZK _)) d1.2 Zt) d2.2)⟩
 let d4:Rdg X Yp [1]:=⟨_,(Zb (@Zo _ _ (4) _ _ _ _ YH.nd rfl 34 (Vf (pv 3) T.ab T.al.m (Uk T hw) (rmL hr rfl) T.al.n .nil Vn (@Za _ _ _ _ _ (pv 2) Ze rfl)) rfl (.inl rfl)) d3.2)⟩
 intro vs Q h;obtain⟨κ,net,mk,b,es,oq,ep,oE,N,M,n,nd,bv,bs,rfl,hN,hM,hb,nb,bn,lb,k1,k2⟩:=h;refine⟨_,(Zb (@Zo _ _ (3) _ _ _ _ YH.nd rfl 34 (ZbY T.bx (xE T hw) (rmL hr rfl) rfl T.bB T.aP.n .nil Vn (@ZX _ _ _ _ _ (pv 0) (@ZX _ _ _ _ _ (pv 1) (@ZX _ _ _ _ _ (pv 2) Ze rfl) rfl) rfl)) rfl (.inl rfl)) d4.2),?_⟩;refine⟨_,rfl,_,rfl,_,rfl,fun x dx nx O7 nex=>?_⟩;refine⟨κ,x,dx,net,mk,b,H,es,oq,ep,oE,N,M,n,nd,bv,bs,rfl,nx,Zd.upN (Zh O7) nx,Zc,hN,hM,hb,nb,bn,lb,fun H1 fs s1 kg=>⟨rfl,?_⟩⟩;have RH:∀H',Zd H1 H'->KG κ a.Pm a.C_Knots H' x dx fs N M n nd bs:=fun H' s=>let ⟨a1,g,a2,a3⟩:=kg; ⟨a1.mono s,g,a2,a3.mono s⟩
 refine⟨_,rfl,x,dx,fs,rfl,kg.1.obj,kg.1.no "loop_from" 39,_,rfl,κ,x,dx,b,fs,N,M,n,nd,bs,bv,rfl,kg,s1 _ _ hb,nb.mono (nJ s1),fun en H2 s2=>?_,fun way ring en H2 p w g wv gv s2 hp hw hg ep' ew eg nw ng=>?_⟩
 ·refine⟨_,rfl,rfl,_,rfl,?_⟩;rw[show(!decide (V.non=V.non))=false from by simp];have oQ:=s1.trans s2;have Gi:=RH _ s2;refine ZH ⟨_,rfl,x,dx,fs,rfl,Gi.1.obj,Gi.1.no "ranks_from" 39,_,rfl,κ,x,dx,b,fs,N,M,n,nd,bs,bv,rfl,Gi,oQ _ _ hb,nb.mono (nJ oQ),lb,en,fun H3 p R L s3 hp hR hL Ii ep' rk lk=>?_⟩;refine⟨p,_,rfl,SqT.of ep',rfl,?_⟩;refine⟨_,_,rfl,_,_,rfl,rfl,_,rfl,_,rfl,by show 3<=sizeLine;rw[cQ];decide,fun t ht=>?_⟩;have s4:=Zh (o:=.tup [.str "ranks",.ref R,.ref L]) ht;have pJ:=oQ.trans s3;have up:∀{q},H2 q=none->H q=none:=fun {q} h=>by
   cases e:H q with
   |none=>rfl
   |some o=>rw[oQ _ _ e] at h;cases h
  have wu:H t=none:=by
   cases e:H t with
   |none=>rfl
   |some o=>rw[pJ _ _ e] at ht;cases ht
  exact k2 en _ t R L (pJ.trans s4) wu (up hR) (up hL) Ii Zc (rk.mono s4) (lk.mono s4)
 ·refine⟨_,rfl,rfl,_,rfl,?_⟩;rw[show(!decide (V.ref p=V.non))=true from by simp];have oQ:=s1.trans s2;have up:∀{q},H1 q=none->H q=none:=fun {q} h=>by
   cases e:H q with
   |none=>rfl
   |some o=>rw[s1 _ _ e] at h;cases h
  refine ZS ⟨_,rfl,p,_,_,_,rfl,rfl,SqT.of ep',Zn (j:=0) rfl,_,rfl,p,_,_,_,rfl,rfl,SqT.of ep',Zn (j:=1) rfl,by show 3<=sizeLine;rw[cQ];decide,fun t ht=>?_⟩;have s4:=Zh (o:=.tup [.str "loop",.ref w,.ref g]) ht;have wu:H t=none:=by
   cases e:H t with
   |none=>rfl
   |some o=>rw[oQ _ _ e] at ht;cases ht
  exact k1 way ring en _ t w g wv gv (oQ.trans s4) wu (up hw) (up hg) Zc (s4 _ _ ew) (s4 _ _ eg) (nw.mono (nJ s4)) (ng.mono (nJ s4))
theorem ClB.closesP{bs:37}{R:ND->68}(h:ClB N M bs R L):zu N M bs (fun d=>(R d).map fun(k:Nat)=>(k:Int)) fun i=>((L i.toNat).getD none).map fun(k:Nat)=>(k:Int):=by
 obtain⟨h1,h2,h3⟩:=h;refine⟨fun b hb=>?_,fun d r e m em=>?_,fun d r e x hx=>?_⟩
 ·obtain⟨k,ek⟩:=fG.mp (h2 b hb);exact⟨k,by rw[ek];rfl⟩
 ·obtain⟨k,ek,rfl⟩:=fE.mp e;obtain⟨j,ej,rfl⟩:=fE.mp em;rw[fu] at ej;obtain⟨o,eo⟩:=fG.mp ((h1 k).mp ⟨d,ek⟩);rw[eo,fC] at ej;subst ej;obtain⟨a,b⟩:=(h3 d k ek).1 j eo;exact⟨j,rfl,a,b⟩
 ·obtain⟨k,ek,rfl⟩:=fE.mp e;obtain⟨q,eq,le,ne⟩:=(h3 d k ek).2 x hx;refine⟨q,by rw[eq];rfl,by lia,fun el z=>?_⟩;rw[fu,iI] at el;obtain⟨o,eo⟩:=fG.mp ((h1 k).mp ⟨d,ek⟩);rw[eo,fC] at el;subst el;exact ne eo 40
theorem yH{κ:Nat}:∀{ds es:37},(∀d∈ds,OkD κ d)->(∀e∈es,OkD κ e)->PyData.eqvAll (ds.map toD) (es.map toD)=decide (ds=es)
 |[],[],_,_=>by simp[PyData.eqvAll]
 |[],_::_,_,_=>by simp[PyData.eqvAll]
 |_::_,[],_,_=>by simp[PyData.eqvAll]
 |d::ds,e::es,h1,h2=>by
  rw[dD,dD,PyData.eqvAll,jH (h1 d 39) (h2 e 39),yH (fun x m=>h1 x (c7 _ m)) (fun x m=>h2 x (c7 _ m))]
  by_cases c:d=e<;>by_cases c2:ds=es<;>simp[c,c2]
def lpD(wd rd:37):PyData:=.tuple [.list (wd.map toD),.list (rd.map toD)]
theorem qo.dp{K:W.Frag}{κ:Nat}{H:Hp}{nd:37}{v:V}{wd rd:37}(h:qo κ H nd v wd rd):Dp K H v (lpD wd rd)/\(∀d∈wd,OkD κ d)/\(∀d∈rd,OkD κ d):=by
 obtain⟨t,w,r,wv,rv,rfl,a,b,c,d,e⟩:=h.at_;exact⟨.tup (SqT.of a) (.cons (.lst (nH b) d.dp) (.cons (.lst (nH c) e.dp) .nil)),d.ok,e.ok⟩
theorem yO{wd rd:37}(h1:∀d∈wd,OkD κ d)(h2:∀d∈rd,OkD κ d):(lpD wd rd).canLay0=true/\(lpD wd rd).depth<=5:=by
 have a:=Us h1;have b:=Us h2;unfold lpD;simp only[PyData.canLay0,PyData.canLayAll0,PyData.depth,PyData.depthAll,a.1,b.1,Ν];exact⟨trivial,by lia⟩
theorem J8{w1 r1 w2 r2:37}(a:∀d∈w1,OkD κ d)(b:∀d∈r1,OkD κ d)(c:∀d∈w2,OkD κ d)(d:∀d∈r2,OkD κ d):PyData.eqv (lpD w1 r1) (lpD w2 r2)=(decide (w1=w2)&&decide (r1=r2)):=by
 unfold lpD;simp only[PyData.eqv,PyData.eqvAll,yH a c,yH b d,Ν]
theorem Qk(ns:70)(lo hi:121):∃cs:70,XN (ns.map V.int) lo hi=cs.map V.int:=let ⟨zs,h,_⟩:=Zbi ns lo hi; ⟨zs,h⟩
def Zdi(K:W.Frag)(a:Adr):Sp:=fun vs H Q _=>∃(p:Addr) (ns:70),vs=[.ref p]/\SqL K H p (ns.map V.int)/\ns.length<=63/\∀H',Q (.bl true) H'
theorem ZcO{a:Adr}:58 8 a.y32 a.z32 cG Zdi:=fun T hw=>by
 refine okX T.bE.f Xg (51) (by rintro _ _ _ _ ⟨_,_,rfl,_⟩;rfl);intro X
 let d1:Rdg X XQ [5,0,4,0,0]:=⟨_,(Zg (ZZ (Zy JY (ZV T.aD (zh T hw) hr rfl rfl (@ZX _ _ _ _ _ (pv 3) (@ZX _ _ _ _ _ (pv 4) (@ZX _ _ _ _ _ (pv 5) (@ZX _ _ _ _ _ (pv 13) Ze rfl) rfl) rfl) rfl)) (X1 (Zdm (K:=K) rfl (Zq.units2 hr)) (pv 13) (pv 12) (by with_unfolding_all rfl)) (ZK _)) 110 Zt))⟩
 let d2:Rdg X XQ [5,0,7]:=⟨_,(Zg (ZZ (PW.pt (VC (Zy (jf (K:=K) rfl (Zq.units hr)) (pv 12) (Yq Ze) (ZK _)) (WN (Zy JY (ZJ (Xd (K:=K) rfl) (pv 6) Zi (fun _ _=>rfl)) Uo (ZK _))))) 110 Zt))⟩
 let d3:Rdg X XQ [5,0,6]:=⟨_,(Vv (ZZ (PW.pt (VC (VW (K:=K) rfl (pv 14) (fun _=>rfl)) (WN (PW.pt (Ua (Zy (jf (K:=K) rfl (Zq.units hr)) (pv 12) (Yq Ze) (ZK _)) (Vy (Zy W6 (ZJ (Xd (K:=K) rfl) (pv 6) Zi (fun _ _=>rfl)) Uo (ZK _)))))))) 110 Zt) d2.2)⟩
 let d4:Rdg X XQ [5,0,5]:=⟨_,(Zb (@Zo _ _ (14) _ _ _ _ Xg.nd rfl 34 (ZV T.bm (Qj T hw) hr rfl rfl (@ZX _ _ _ _ _ (pv 3) (@ZX _ _ _ _ _ (pv 4) (@ZX _ _ _ _ _ (pv 5) (@ZX _ _ _ _ _ (pv 9) (@ZX _ _ _ _ _ (pv 10) Ze rfl) rfl) rfl) rfl) rfl)) rfl (.inl rfl)) d3.2)⟩
 let d5:Rdg X XQ [5,0,4]:=⟨_,(Zb (YS eJ rfl (ZF (K:=K) rfl (pv 11)) (Zk (i:=13) Xg.nd rfl 34) d1.2) d4.2)⟩
 let d6:Rdg X XQ [5,0,3]:=⟨_,(Zb (Wy (i:=12) Xg.nd rfl rfl (Nc:=cM) (ix:=[none,some 3,some 4,some 5]) (ZD.of (by left:ZW (Zj XQ) ZcG _ _ _=true)) rfl (ZF (K:=K) rfl (pv 11)) (fun _ _ _ _ _=>(Zk (i:=0) (show δ cM by left) rfl 34)) (fun _ _ _ _ _=>(U5 (YB (ZV T.aE (zm T hw) hr rfl rfl (@ZX _ _ _ _ _ (pv 1) (@ZX _ _ _ _ _ (pv 2) (@ZX _ _ _ _ _ (pv 3) (@ZX _ _ _ _ _ (ZJ (Xd (K:=K) rfl) (pv 0) Zi (fun _ _=>rfl)) (@ZX _ _ _ _ _ (ZJ (Xd (K:=K) rfl) (pv 0) Zi (fun _ _=>rfl)) Ze rfl) rfl) rfl) rfl) rfl))))) (fun _ _ _ _ _=>(pv 0))) d5.2)⟩
 let d7:Rdg X XQ [5,0,2]:=⟨_,(Zb (@Zo _ _ (11) _ _ _ _ Xg.nd rfl 34 (ZV T.aR (xq T hw) hr rfl rfl (@ZX _ _ _ _ _ (pv 3) (@ZX _ _ _ _ _ (pv 5) (@ZX _ _ _ _ _ (pv 1) Ze rfl) rfl) rfl)) rfl (.inl rfl)) d6.2)⟩
 let d8:Rdg X XQ [5,0,1]:=⟨_,(Zb (jz (ZV T.aM (zN T hw) hr rfl rfl (@ZX _ _ _ _ _ (pv 1) (@ZX _ _ _ _ _ (pv 2) (@ZX _ _ _ _ _ (pv 6) (@ZX _ _ _ _ _ (pv 7) Ze rfl) rfl) rfl) rfl)) (WK (K:=K) (n:=2) rfl rfl (Yc (Zk (i:=9) Xg.nd rfl 34) (Yc (Zk (i:=10) Xg.nd rfl 34) WM)))) d7.2)⟩
 let d9:Rdg X XQ [5,0,0]:=⟨_,(Zb (@Zo _ _ (1) _ _ _ _ Xg.nd rfl 34 (ZV T.aC (Ud T hw) hr rfl rfl (@Za _ _ _ _ _ (pv 8) (@Za _ _ _ _ _ Zi Ze rfl) rfl)) rfl (.inl rfl)) d8.2)⟩
 let se:Rdg X XQ [5]:=⟨_,(Zb (YS eJ rfl (ZF (K:=K) rfl (YW (Y1 (K:=K) rfl) (pv 0) (YG Zi) (YG Zi))) (Zk (i:=8) Xg.nd rfl 34) d9.2) 110)⟩
 let tZ:Rdg X XQ [4]:=⟨_,(Zb (@Zo _ _ (7) _ _ _ _ Xg.nd rfl 34 (Zl 91 rfl T.aA nN (@Za _ _ _ _ _ (ZB hw 78 (pv 4) (ZJ 56 (pv 2) Zi (fun _ _=>rfl)) (fun _ _=>rfl)) Ze rfl)) rfl (.inl rfl)) se.2)⟩
 let AX:Rdg X XQ [3]:=⟨_,(Vv (@Zo _ _ (6) _ _ _ _ Xg.nd rfl 34 (ZV T.aB (qd T hw) hr rfl rfl (@ZX _ _ _ _ _ (pv 3) (@ZX _ _ _ _ _ (pv 4) (@ZX _ _ _ _ _ (pv 5) Ze rfl) rfl) rfl)) rfl (.inl rfl)) tZ.2)⟩
 let Cs:Rdg X XQ [2]:=⟨_,(Vv (ZZ (Zy (zH (K:=K) rfl (Zq.units hr)) (pv 5) (Yq Ze) (ZK _)) (Zg (@Zo _ _ (5) _ _ _ _ Xg.nd rfl 34 (YW (Y1 (K:=K) rfl) (pv 2) X0 (YG Zi)) rfl (.inl rfl))) Zt) AX.2)⟩
 let B7:Rdg X XQ [1]:=⟨_,(Zb (jz (ZV T.be (jV T hw) hr rfl rfl (@Za _ _ _ _ _ (Yd Wd (ZV T.az (Vp T hw) hr rfl rfl (@Za _ _ _ _ _ (pv 0) (@Za _ _ _ _ _ Zi Ze rfl) rfl)) Zi) (@Za _ _ _ _ _ (pv 1) Ze rfl) rfl)) (WK (K:=K) (n:=4) rfl rfl (Yc (Zk (i:=2) Xg.nd rfl 34) (Yc (Zk (i:=3) Xg.nd rfl 34) (Yc (Zk (i:=4) Xg.nd rfl 34) (Yc (Zk (i:=5) Xg.nd rfl 34) WM)))))) Cs.2)⟩
 intro vs Q h;obtain⟨p,ns,rfl,hq,hz,k⟩:=h;refine⟨_,(Zb (@Zo _ _ (1) _ _ _ _ Xg.nd rfl 34 (ZV T.aC (Ud T hw) hr rfl rfl (@Za _ _ _ _ _ (Yd WO (ZV T.az (Vp T hw) hr rfl rfl (@Za _ _ _ _ _ (pv 0) (@Za _ _ _ _ _ Zi Ze rfl) rfl)) Zi) (@Za _ _ _ _ _ Zi Ze rfl) rfl)) rfl (.inl rfl)) B7.2),?_⟩;have sL:∀{A B:Hp} {a xs},Zd A B->SqL K A a xs->SqL K B a xs:=fun s h=>h.imp (fun h=>h.imp (s _ _) fun⟨o,e⟩=>⟨o,s _ _ e⟩) id;refine⟨_,rfl,p,ns,0,rfl,hq,fun n0=>⟨_,_,rfl,rfl,⟨by left,by left⟩,_,90,rfl,by left,fun H1 y A9 s1 y0 hy=>?_⟩⟩;refine⟨_,rfl,p,ns,0,rfl,sL s1 hq,fun n1=>⟨_,_,rfl,rfl,(show(0:Int)<252 by left),_,rfl,_,y,A9,rfl,hy,fun H2 t L net mk b κ nv nd es ep oq oE N M n bv bs x2 ht hL nL GS Ln hN hM hb nb lb bn hκ=>?_⟩⟩;have Cg:Zd H H2:=fun c o e=>x2 _ _ (fun z=>by rw[z,y0] at e;cases e) (s1 _ _ e);refine⟨t,_,rfl,SqT.of ht,rfl,_,_,rfl,_,_,rfl,_,_,rfl,_,_,rfl,rfl,?_⟩;have lnv:=nL.len;have ON:=iG.mpr GS;obtain⟨d0,EI⟩:∃d0,nd[0]?=some d0:=⟨_,cR ON⟩;obtain⟨v0,Dn,Cu⟩:=nL.get' EI;refine⟨fun U H'=>ZbW fun(z6 z7 z8 z9 z10 z11 z12 z13 z14:69) (b':Addr) (AS:List V) (rG:37)=>Cj7 (U=[93,qr0 y,qr0 L,72,qr0 mk,qr0 b',z6,z7,z8,z9,z10,z11,z12,z13,z14]) (Zd H2 H') (H' b'=some (.lst AS)) (NdL κ H' AS rG) ((∀d∈rG,d∈nd)) (rG≠[]) (rG.length<=12),?_,?_⟩
 ·refine⟨_,rfl,by left,fun B hB=>?_⟩;obtain⟨H3,qN,s3,e3⟩:=Xl (o:=.lst []) hB;rw[qN];refine Zct (s3 _ _ hb) (nb.mono (nJ s3)) e3 (fun _=>⟨_,rfl,ZS ?_⟩) (fun bne=>⟨_,rfl,ZH ⟨_,_,_,_,_,_,_,_,_,b,bv,bs,rfl,s3,s3 _ _ hb,nb.mono (nJ s3),bn,bne,by lia⟩⟩);refine⟨_,rfl,1,rfl,L,nv,rfl,nH (s3 _ _ hL),fun C hC=>?_⟩;rw[zP];obtain⟨H4,qN,s4,e4⟩:=Xl (o:=.lst (nv.take 1)) hC;rw[qN];refine⟨_,_,_,_,_,_,_,_,_,C,_,nd.take 1,rfl,s3.trans s4,e4,(nL.mono (nJ (s3.trans s4))).take 1,fun d hd=>gA hd,fun z=>?_,by rw[dB];lia⟩;have:=dt ζ z;rw[dB,List.length_nil] at this;lia
 rintro σ0 H3 ⟨z6,z7,z8,z9,z10,z11,z12,z13,z14,b',AS,rG,rfl,s3,oS,BE,CA,Hd,Sq⟩;have wR:=hN.mono s3;have ro:=hM.mono s3;have Bj:=s3 _ _ hL;have Nq:=nL.mono (nJ s3);have C6:=Cu.mono (nJ s3);have AH:=Cg.trans s3;clear hN hM hL nL Cu Cg s3 hb nb bn lb ht x2;refine⟨fun U H'=>Ex1 fun(T:Addr)=>Cj3 (U=[93,qr0 y,qr0 L,72,qr0 mk,qr0 b',qr0 T,z7,z8,z9,z10,z11,z12,z13,z14]) (Zd H3 H') (Ur κ a.Pm H' T N M n rG),?_,?_⟩
 ·exact⟨_,rfl,_,rfl,_,rfl,κ,net,mk,b',es,oq,ep,oE,N,M,n,nd,AS,rG,rfl,wR,ro,oS,BE,CA,by lia,fun way ring e H4 T w g wv gv s4 _ _ _ eT _ _ _ _=>⟨T,rfl,s4,.loop w g way ring e eT⟩,fun e H4 T R Lk s4 _ _ _ _ eT rt lt=>⟨T,rfl,s4,.ranks R Lk e eT rt lt⟩⟩
 rintro σ0 H4 ⟨T0,rfl,s4,ux⟩;have wH:=wR.mono s4;have tT:=ro.mono s4;have uZ:=s4 _ _ Bj;have Ol:=Nq.mono (nJ s4);have No:=C6.mono (nJ s4);have M5:=s4 _ _ oS;have Gu:=BE.mono (nJ s4);have uW:=AH.trans s4;clear wR ro Bj Nq C6 oS BE AH s4;have MZ:=cY EI;obtain⟨ml,uH,wf⟩:=tT.on MZ;have fw:=tT.few;have wK:=Gu.len;refine⟨_,rfl,_,rfl,L,_,_,v0,rfl,rfl,nH uZ,Zn (j:=0) Dn,mk,oq,oE,κ,d0,_,rfl,tT.at_,tT.keys,No,uH,.inl ⟨ml,_,rfl,.inl (nH wf),?_⟩⟩;rw[cS,tT.len d0 MZ];refine⟨_,rfl,1,rfl,21,rfl,p,_,rfl,sL uW hq,fun S hS=>?_⟩;obtain⟨cs,Pz⟩:=Qk ns (some 1) (some 21);rw[Pz];obtain⟨H5,qN,s5,eS⟩:=Xl (o:=.lst (cs.map V.int)) hS;rw[qN];have C2:=wH.mono s5;have sW:=tT.mono s5;have Aa:=s5 _ _ uZ;have RE:=Ol.mono (nJ s5);have E3:=s5 _ _ M5;have Fs:=Gu.mono (nJ s5);have sQ:=ux.mono s5;clear wH tT uZ Ol No M5 Gu ux wf uH uW s5 hq sL;refine⟨S,rfl,⟨_,nH eS⟩,?_⟩
 let J1:Nat->L2.St->Hp->Prop:=fun i U H'=>∃(z1 z8 z9 z10 z11 z12 z13 z14:69),U=[93,z1,qr0 L,72,qr0 mk,qr0 b',qr0 T0,some (.int (n:Int)),z8,z9,z10,z11,z12,z13,z14]/\Zd H5 H'
 refine Y0 (K:=K) (xs:=cs.map V.int) J1 ?_ ?_ ?_ ?_
 ·exact⟨_,_,_,_,_,_,_,_,rfl,.refl _⟩
 ·rintro i U H' hi ⟨z1,z8,z9,z10,z11,z12,z13,z14,rfl,s'⟩;exact nH (s' _ _ eS)
 ·rintro i yv U H6 hy ⟨z1,z8,z9,z10,z11,z12,z13,z14,rfl,s6⟩;rw[dz] at hy;obtain⟨ci,_,rfl⟩:=fE.mp hy;clear hy;refine⟨_,rfl,ci,90,rfl,by left,fun H7 x ns7 s7 x0 hx=>?_⟩;have q7:Zd H5 (YF x H7):=(fun c o e=>Z0 (fun z=>by rw[z,x0] at e;cases e) (s7 _ _ e):Zd H6 (YF x H7)) |> fun h=>s6.trans h;have Oe:L≠x:=fun z=>by rw[z] at Aa;rw[s6 _ _ Aa] at x0;cases x0
  have LV:b'≠x:=fun z=>by rw[z] at E3;rw[s6 _ _ E3] at x0;cases x0
  have Gg:=q7.trans YM;refine⟨_,rfl,_,rfl,_,rfl,_,rfl,κ,x,L,T0,ns7,nv,nd,N,M,n,rG,n,rfl,hx,Gg _ _ Aa,Oe,RE.mono (nJ Gg),Ln,fw,sQ.mono q7,C2.sub,CA,fun H8 t2 Rk Lk oy oH o6 pz R Lf OP x8 p8 DD AA DZ=>?_⟩;refine⟨t2,_,rfl,SqT.of DD,rfl,_,_,rfl,_,_,rfl,rfl,?_⟩;have q8:=q7.trans (Wj x8);have F6:=q8.trans YM;refine⟨_,rfl,_,rfl,_,rfl,κ,net,b',x,OP,es,ep,N,nd,AS,rG,rfl,p8,C2.mono q8,Ln,F6 _ _ E3,LV,Fs.mono (nJ F6),CA,Hd,Sq,fun H9 F fv NK x9 F0 p9 eF lF Ct=>?_⟩;have q9:=q8.trans (Wj x9);have BM:=q9.trans YM;have Dv:=(AA.mono (Wj x9)).mono YM;have Il:=(DZ.mono (Wj x9)).mono YM;have Rc:∃f:V->37×37,∀v∈fv,qo κ H9 nd v (f v).1 (f v).2:=by
   have:∀v,∃pr:37×37,v∈fv->qo κ H9 nd v pr.1 pr.2:=fun v=>by
    by_cases c:v∈fv
    ·obtain⟨wd,rd,l⟩:=Ct v c;exact⟨(wd,rd),fun _=>l.mono YM⟩
    ·exact⟨([],[]),fun h=>oh h c⟩
   exact⟨fun v=>Classical.choose (this v),fun v hv=>Classical.choose_spec (this v) hv⟩
  obtain⟨f,hf⟩:=Rc;have Gj:=C2.mono BM;have Cc:=sW.mono BM;have G4:=BM _ _ E3;have Hh:=Fs.mono (nJ BM);have EM:=sQ.mono BM;have Lq:Zd H5 H9:=BM;clear q7 Gg q8 F6 q9 BM x8 x9 p8 p9 hx x0 s7 Oe LV AA DZ DD Ct F0 s6;generalize hφ:(fun v=>YR N M n rG (f v).1 (f v).2)=φ;have eφ:∀v,YR N M n rG (f v).1 (f v).2=φ v:=fun v=>by rw[<- hφ]
  refine⟨_,rfl,F,rfl,⟨_,nH eF⟩,fun D hD=>?_⟩;refine YX (J:=Itl K F) (n:=fv.length) (fun j U H'=>Ex1 fun(z:69)=>Cj3 (U=[z,72,qr0 mk,qr0 b']) (Zd H9 H') (H' D=some (.lst ((fv.take j).filter φ)))) ?_ ?_ ?_ ?_ ?_
  ·exact⟨_,rfl,Zh hD,Zc⟩
  ·rintro j U H' hj ⟨z,rfl,s3,_⟩;exact⟨fv,fv[j],nH (s3 _ _ eF),cR hj⟩
  ·rintro U H' ⟨z,rfl,s3,_⟩;exact⟨fv,nH (s3 _ _ eF),cP _⟩
  ·rintro j v U H' HA hj ⟨z,rfl,s3,sG⟩ ⟨rfl,hv⟩ N' N0 wm sq;have hv:=hv _ (nH (s3 _ _ eF));have DW:=cY hv;have lp:=(hf v DW).mono s3;obtain⟨t,w,r,wv,rv,ev,at_,aw,ar,nw,nr⟩:=lp.at_;have oW:(fv.take (j+1)).filter φ=(fv.take j).filter φ++(if φ v=true then[v] else[]):=by
    rw[fz,hv,iK]
    show _++List.filter _ [v]=_
    by_cases c:φ v=true<;>simp[c]
   have TK:=hV φ (fv.take j);rw[dB] at TK;subst ev;have lw:=lp.lw;have lr:=lp.lr;refine⟨_,rfl,_,rfl,_,rfl,_,rfl,t,_,_,_,rfl,rfl,SqT.of at_,Zn (j:=0) rfl,_,rfl,t,_,_,_,rfl,rfl,SqT.of at_,Zn (j:=1) rfl,κ,net,mk,b',w,r,es,oq,ep,oE,N,M,n,nd,AS,wv,rv,rG,_,_,rfl,Gj.mono s3,Cc.mono s3,s3 _ _ G4,Hh.mono (nJ s3),aw,nw,ar,nr,lp.ne,lp.inW,lp.inR,by lia,by lia,fun HB sB=>⟨_,rfl,?_⟩⟩;rw[eφ];cases c:φ (.ref t) with
   |true=>
    refine ZS ⟨_,rfl,wm _ _ _ _ (sB _ _ sG) (by rw[cQ];lia) ⟨_,rfl,Zd.upN (s3.trans sB) hD,?_⟩⟩;rw[oW,og c,Zc]
   |false=>
    refine ZH (sq _ _ ⟨_,rfl,s3.trans sB,?_⟩);rw[oW,n8 (by rw[c];exact dQ),gp];exact sB _ _ sG
  rintro U HA ⟨z,rfl,sA,eD⟩;rw[fg] at eD;have s5A:=Lq.trans sA;have Tz:∀v∈fv,qo κ HA nd v (f v).1 (f v).2:=fun v hv=>(hf v hv).mono sA;have FL:∀v∈fv,φ v=true->YR N M n rG (f v).1 (f v).2=true:=fun v _ h=>by rw[eφ];exact h
  refine⟨_,rfl,F,rfl,⟨_,nH (sA _ _ eF)⟩,?_⟩
  let J2:Nat->L2.St->Hp->Prop:=fun i U H'=>Ex2 fun(z13 z14:69)=>Cj2 (U=[93,qr0 x,qr0 L,72,qr0 mk,qr0 b',qr0 T0,some (.int (n:Int)),some (.int ci),qr0 Rk,qr0 Lk,qr0 F,qr0 D,z13,z14]) (Zd HA H')
  refine Y0 (K:=K) (xs:=fv) J2 ?_ ?_ ?_ ?_
  ·exact⟨_,_,rfl,.refl _⟩
  ·rintro i U H' hi ⟨z13,z14,rfl,s'⟩;exact nH (s' _ _ (sA _ _ eF))
  ·rintro i v U HB hv ⟨z13,z14,rfl,sB⟩;have DW:=cY hv;have lp:=(Tz v DW).mono sB;have tQ:=sA.trans sB;obtain⟨t,w,r,wv,rv,ev,at_,aw,ar,nw,nr⟩:=lp.at_;have lw:=lp.lw;have lr:=lp.lr;have Pj:LpT K HB N M rG v (φ v):=by
    rw[<- eφ,<- Qo N M lp.ne (fun d hd=>Cc.len d (lp.inR d hd)),ev];rw[ev] at nw nr lp;exact .loop (SqT.of at_) aw ar nw.th nr.th (Us nw.ok).1 (Us nr.ok).1 (fun z=>lp.ne (List.map_eq_nil_iff.mp z)) (by rw[cS];have:=lp.lw;lia) (by rw[cS];have:=lp.lr;lia)
   refine⟨_,rfl,_,rfl,_,rfl,_,rfl,κ,net,mk,b',es,oq,ep,oE,N,M,n,nd,AS,rG,v,φ v,rfl,Gj.mono tQ,Cc.mono tQ,tQ _ _ G4,Hh.mono (nJ tQ),by lia,CA,Pj,fun HC sC=>?_⟩;have Ci:=tQ.trans sC;have IG:∀us:List V,(∀u∈us,u∈fv)->WJ K HC us (us.map fun u=>lpD (f u).1 (f u).2)/\PyData.canLayAll0 (us.map fun u=>lpD (f u).1 (f u).2)=true:=fun us=>by
    induction us with
    |nil=>exact fun _=>⟨.nil,by simp[PyData.canLayAll0]⟩
    |cons u r ih=>
     intro h;obtain⟨i1,i2⟩:=ih fun x m=>h x (c7 _ m);obtain⟨g1,g2,g3⟩:=((hf u (h u dC)).mono Ci).dp (K:=K);have fn:=yO g2 g3;exact⟨.cons g1 i1,by rw[dD,PyData.canLayAll0,fn.1,i2];rfl⟩
   obtain⟨g1,g2,g3⟩:=((hf v DW).mono Ci).dp (K:=K);have fn:=yO g2 g3;have sub:∀u∈fv.filter φ,u∈fv:=fun u hu=>(fA.mp hu).1;obtain⟨a1,a2⟩:=IG (fv.filter φ) sub;have eq:((fv.filter φ).map fun u=>lpD (f u).1 (f u).2).any (fun z=>PyData.eqv z (lpD (f v).1 (f v).2))=φ v:=by
    cases c:φ v with
    |true=>
     refine fD.mpr ⟨_,gI (fA.mpr ⟨DW,c⟩),?_⟩;rw[J8 g2 g3 g2 g3];simp
    |false=>
     rw[lz];intro z hz hc;obtain⟨u,hu,rfl⟩:=da.mp hz;obtain⟨um,uφ⟩:=fA.mp hu;obtain⟨k1,k2,k3⟩:=(hf u um).dp (K:=K);rw[J8 k2 k3 g2 g3,dg] at hc;have e1:=dE hc.1;have e2:=dE hc.2;rw[<- eφ,e1,e2,eφ,c] at uφ;cases uφ
   refine⟨_,rfl,_,rfl,(fv.filter φ).map fun u=>lpD (f u).1 (f u).2,lpD (f v).1 (f v).2,.lst (nH (sC _ _ (sB _ _ eD))) a1,g1,a2,fn.1,by have:=fn.2;lia,?_⟩;rw[n8 dQ,eq];refine⟨rfl,_,rfl,?_⟩;rw[show(!decide (V.bl (φ v)=V.bl (φ v)))=false from by simp];exact ZH ⟨_,_,rfl,sB.trans sC⟩
  rintro U HB ⟨z13,z14,rfl,sB⟩;have tQ:=sA.trans sB;have RP:=Dv.mono tQ;have O3:=Il.mono tQ;refine⟨_,rfl,_,rfl,_,rfl,_,rfl,_,rfl,κ,net,mk,b',Rk,Lk,es,oq,oy,o6,ep,oE,oH,pz,N,M,n,nd,AS,rG,R,Lf,rfl,Gj.mono tQ,Cc.mono tQ,tQ _ _ G4,Hh.mono (nJ tQ),by lia,RP,O3,fun c HC hc sC=>?_⟩;have Ci:=tQ.trans sC;have Sk:=Lq.trans Ci;have RN:=sC _ _ (sB _ _ eD);have Ar:=EM.mono Ci;have Tv:c=true->(∀v∈fv,φ v=false)/\Wz N M n rG=none:=fun e=>by
   have cp:=(hc.mp e).closesP;refine⟨fun v hv=>?_,?_⟩
   ·have lp:=hf v hv;rw[<- eφ];exact vt cp lp.ne fun d hd=>Cc.len d (lp.inR d hd)
   ·cases el:Wz N M n rG with
    |none=>rfl
    |some pr=>
     obtain⟨way,ring⟩:=pr;have ok:=Jl C2.sub CA el;have:=vt cp ok.ne (n:=n) (way:=way) fun d hd=>Cc.len d (ok.inR d hd);rw[ok.full] at this;cases this
  have L5:(∀v∈fv,φ v=false)->fv.filter φ=[]:=fun h=>nC.mpr fun v hv=>by rw[h v hv];exact dQ
  have MP:∀{HD:Hp}{Q:VK}{B:Addr},Zd HC HD->HD B=some (.lst [])->(fv.filter φ=[]->Q (.bl false) HD)->(fv.filter φ≠[]->Q (.bl true) HD)->jS K true (.ref D) (.ref B) HD Q:=fun {HD Q B} s eB q1 q2=>by
   have OL:=Ci.trans s;have IG:∀us:List V,(∀u∈us,u∈fv)->WJ K HD us (us.map fun u=>lpD (f u).1 (f u).2)/\PyData.canLayAll0 (us.map fun u=>lpD (f u).1 (f u).2)=true/\PyData.depthAll (us.map fun u=>lpD (f u).1 (f u).2)<=5:=fun us=>by
    induction us with
    |nil=>exact fun _=>⟨.nil,by simp[PyData.canLayAll0],by simp[PyData.depthAll]⟩
    |cons u r ih=>
     intro h;obtain⟨i1,i2,i3⟩:=ih fun x m=>h x (c7 _ m);obtain⟨g1,g2,g3⟩:=((hf u (h u dC)).mono OL).dp (K:=K);have fn:=yO g2 g3;exact⟨.cons g1 i1,by rw[dD,PyData.canLayAll0,fn.1,i2];rfl,by rw[dD,PyData.depthAll];have:=fn.2;lia⟩
   obtain⟨a1,a2,a3⟩:=IG (fv.filter φ) fun u hu=>(fA.mp hu).1;refine⟨.list ((fv.filter φ).map fun u=>lpD (f u).1 (f u).2),.list [],.lst (nH (s _ _ RN)) a1,.lst (nH eB) .nil,by rw[PyData.canLay0];exact a2,by simp[PyData.canLay0,PyData.canLayAll0],by rw[PyData.depth];lia,?_⟩;cases hc:fv.filter φ with
   |nil=>rw[hc] at q1;simpa[PyData.eqv,PyData.eqvAll] using q1 rfl
   |cons u r=>rw[hc] at q2;simpa[PyData.eqv,PyData.eqvAll] using q2 39
  have go:∀{HD:Hp}{z13:69},Zd HC HD->∃(z1 z8 z9 z10 z11 z12 IV z14:69),[some (V.ref p),qr0 x,qr0 L,72,qr0 mk,qr0 b',qr0 T0,some (.int (n:Int)),some (.int ci),qr0 Rk,qr0 Lk,qr0 F,qr0 D,z13,some (.bl c)]=[93,z1,qr0 L,72,qr0 mk,qr0 b',qr0 T0,some (.int (n:Int)),z8,z9,z10,z11,z12,IV,z14]/\Zd H5 HD:=fun s=>⟨_,_,_,_,_,_,_,_,rfl,Sk.trans s⟩;refine⟨fun U H'=>U=[some (V.ref p),qr0 x,qr0 L,72,qr0 mk,qr0 b',qr0 T0,some (.int (n:Int)),some (.int ci),qr0 Rk,qr0 Lk,qr0 F,qr0 D,z13,some (.bl c)]/\Zd HC H',?_,?_⟩
  ·refine⟨_,rfl,c,rfl,?_⟩;cases c with
   |false=>exact ZH ⟨rfl,.refl _⟩
   |true=>
    obtain⟨nf,nl⟩:=Tv rfl;refine ZS ⟨_,rfl,by left,fun B hB=>?_⟩;obtain⟨HD,qN,sD,eB⟩:=Xl (o:=.lst []) hB;rw[qN];refine MP sD eB (fun _=>⟨_,rfl,ZH ?_⟩) (fun h=>oh (L5 nf) h);have DM:=Ar.mono sD;cases DM with
    |loop w g way ring e ht=>rw[nl] at e;cases e
    |ranks R0 L0 e ht hRT hLT=>
     refine⟨_,rfl,T0,_,_,_,rfl,rfl,SqT.of ht,Zn (j:=0) rfl,rfl,_,rfl,?_⟩;rw[show decide (V.str "ranks" = V.str "loop")=false from by left];exact ZH ⟨rfl,sD⟩
  ·rintro σ1 HD ⟨rfl,sD⟩;refine⟨_,rfl,by left,fun B hB=>?_⟩;obtain⟨HE,qN,sE,eB⟩:=Xl (o:=.lst []) hB;rw[qN];have Fc:=sD.trans sE;refine MP Fc eB (fun _=>⟨_,rfl,ZH (go Fc)⟩) (fun h=>⟨_,rfl,ZS ?_⟩);have Ed:=Ar.mono Fc;cases Ed with
   |ranks R0 L0 e ht hRT hLT=>
    exfalso
    refine h (L5 fun v hv=>?_);have lp:=hf v hv;rw[<- eφ];exact Zb5 C2.sub CA e lp.ne
   |loop w g way ring e ht=>
    refine⟨_,rfl,T0,_,_,_,rfl,rfl,SqT.of ht,Zn (j:=0) rfl,rfl,_,rfl,?_⟩;rw[show(!decide (V.str "loop" = V.str "loop"))=false from by simp];exact ZH (go Fc)
 rintro U H6 ⟨z1,z8,z9,z10,z11,z12,z13,z14,rfl,s6⟩;exact k _
theorem ar1{P:List α->Prop}(h:∀a,P [a]):∀us:List α,us.length=1->P us
 |[a],_=>h a
theorem ar2{P:List α->Prop}(h:∀a b,P [a,b]):∀us:List α,us.length=2->P us
 |[a,b],_=>h a b
theorem ar3{P:List α->Prop}(h:∀a b c,P [a,b,c]):∀us:List α,us.length=3->P us
 |[a,b,c],_=>h a b c
theorem ar4{P:List α->Prop}(h:∀a b c d,P [a,b,c,d]):∀us:List α,us.length=4->P us
 |[a,b,c,d],_=>h a b c d
theorem ar5{P:List α->Prop}(h:∀a b c d e,P [a,b,c,d,e]):∀us:List α,us.length=5->P us
 |[a,b,c,d,e],_=>h a b c d e
def Bd(x q:Str)(st:Stmt)(ps:54):Prop:=∀(kV doc pm:Value) (an:Option Addr) (bK ct:Value) (us:45),us.length=ps.length->bindArgs (W.fnOf x q (Wn st) (Xq st) (Zj st) .none kV doc pm an bK ct) ⟨us,[]⟩=pure (ps.zip us)
def spL(K:W.Frag):Sp:=fun vs H Q _=>∃(p:Addr) (ns:70),vs=[.ref p]/\SqL K H p (ns.map V.int)/\ns.length<=63/\∀H',Q (.bl true) H'
structure Fx(K:W.Frag)(x:Str)(st:Stmt)(fa:Addr)(fd:FuncData):Prop where
 a:W.nsIn K mainGlobals x=some (some (.ref fa))
 f:Fun K x x st fa fd
structure Mx(K:W.Frag)(C:Addr)(x q:Str)(st:Stmt)(fa:Addr)(fd:FuncData):Prop where
 a:W.findIn K (.ref C) x=some (some (.ref fa))
 i:W.isFn K (.ref fa)=true
 f:Fun K x q st fa fd
section
variable{x q:Str}{st:Stmt}{f:Addr}{kV dc pm cd ct:Value}{sl:Array (Option Value)}
theorem Fx.m(a:W.nsIn K mainGlobals x=some (some (.ref f)))(l:K.lookup f=some ⟨oc,od,.func (W.fnOf x x (Wn st) (Xq st) (Zj st) .none kV dc pm an cd ct),sl⟩)(c:W.codeIn K cd x=true)(k:W.keepIn K (.ref f)=true):Fx K x st f (W.fnOf x x (Wn st) (Xq st) (Zj st) .none kV dc pm an cd ct):=⟨a,ZaV l c k⟩
theorem Mx.m(a:W.findIn K (.ref C) x=some (some (.ref f)))(i:W.isFn K (.ref f)=true)(l:K.lookup f=some ⟨oc,od,.func (W.fnOf x q (Wn st) (Xq st) (Zj st) .none kV dc pm an cd ct),sl⟩)(c:W.codeIn K cd q=true)(k:W.keepIn K (.ref f)=true):Mx K C x q st f (W.fnOf x q (Wn st) (Xq st) (Zj st) .none kV dc pm an cd ct):=⟨a,i,ZaV l c k⟩
theorem Fx.g(e:Fx K x st f fd)(X:K.In h)(G:h.Ns mainGlobals mg)(b:Bd x x st ps):Fg K mg x st ps f fd:=⟨e.f,e.f.binds b,W.mg_of X G e.a⟩
theorem Mx.g(e:Mx K C x q st f fd)(b:Bd x q st ps):Mg K C x q st ps f fd:=⟨e.f,e.f.binds b,⟨e.a,e.i,e.f.kp⟩⟩
end
theorem all_mk{l:W.OpenLaw}(X:K.In h)(G:h.Ns mainGlobals mg)(uL:mg "law" = some (.ref fa))
  {f0 f1 f2 f3 f4 f5 f6 f7 f8 f9 MC Nm LP Mv L8 Ou Ly Nj LM LR LN NB Lh MW MX NZ MU MN NM Oq MQ NA RY:Addr}
  {C_Knots:Addr}
  {d0 d1 d2 d3 d4 d5 d6 d7 d8 d9 se tZ AX Cs B7 Nu Mr Na Lw MO LQ Ld Mm Ll Ny Oa NR Lg Oy LB MJ M8 S8:FuncData}
  (v8:W.nsIn K mainGlobals "Knots" = some (some (.ref C_Knots)))
  (e0:Fx K "is_whole" UG f0 d0)
  (e1:Fx K "is_same" V3 f1 d1)
  (e2:Fx K "is_full_loop" Yh f2 d2)
  (e3:Fx K "nodes_along" Z5 f3 d3)
  (e4:Fx K "is_full" W4 f4 d4)
  (e5:Fx K "closes" WB f5 d5)
  (e6:Fx K "are_ranks" YC f6 d6)
  (e7:Fx K "are_lacks" X8 f7 d7)
  (e8:Fx K "is_closed" Xi f8 d8)
  (e9:Fx K "lacks_mark" Va f9 d9)
  (T4:Fx K "loop_or_ranks" Yp MC se)
  (RI:Fx K "reached" Ya Nm tZ)
  (Th:Fx K "turned" WV LP AX)
  (Ri:Fx K "knots_of" Z1 Mv Cs)
  (So:Fx K "path_to" Ym L8 B7)
  (Sd:Fx K "traced" VP Ou Nu)
  (G7:Mx K C_Knots "__init__" "Knots.__init__" Ys Ly Mr)
  (TV:Mx K C_Knots "is_linked" "Knots.is_linked" Xa Nj Na)
  (P7:Mx K C_Knots "is_ring" "Knots.is_ring" We LM Lw)
  (Pw:Mx K C_Knots "lack_of" "Knots.lack_of" Yr LR MO)
  (Tn:Mx K C_Knots "loop_from" "Knots.loop_from" YE LN LQ)
  (Te:Mx K C_Knots "ring_from" "Knots.ring_from" Zr NB Ld)
  (Pu:Mx K C_Knots "ranks_from" "Knots.ranks_from" Ye Lh Mm)
  (SK:Fx K "_law_cell_at" WC MW Ll)
  (RR:Fx K "_law_draws" Z7 MX Ny)
  (e25:Fx K "_law_taken" Vk NZ Oa)
  (SJ:Fx K "_law_nodes" YT MU NR)
  (Rs:Fx K "_law_net" Z9 MN Lg)
  (PQ:Fx K "_law_walk" YD NM Oy)
  (RG:Fx K "_law_is_full" Z8 Oq LB)
  (Re:Fx K "_law_forged" ZO MQ MJ)
  (RC:Fx K "_law_loops" Yt NA M8)
  (Io:Fx K "law" XQ RY S8)
  (v9:W.plainGet K C_Knots Str.empty=true)
  (Fn:W.hasDictIn K C_Knots=true)
  (Si:W.plainOver K C_Knots=true)
  (T7:W.findIn K (.ref C_Knots) "__setattr__" = some (some (.builtin "object.__setattr__")))
  (Oz:W.makesIn K C_Knots=true)
  (RX:W.keepIn K (.ref C_Knots)=true)
  (v5:W.findIn K (.ref C_Knots) "net" = 99)
  (v0:W.findIn K (.ref C_Knots) "marks" = 99)
  (v1:W.findIn K (.ref C_Knots) "knots" = 99)
  (v2:W.findIn K (.ref C_Knots) "ranks" = 99)
  (v3:W.findIn K (.ref C_Knots) "goals" = 99)
  (v4:W.nsIn K mainGlobals "isinstance" = 99)
  (Rt:W.nsIn K mainGlobals "tuple" = 99)
  (Rm:W.nsIn K mainGlobals "range" = 99)
  (RV:W.nsIn K mainGlobals "all" = 99)
  (v7:W.nsIn K mainGlobals "reversed" = 99)
  (Tw:W.nsIn K mainGlobals "sorted" = 99)
  (Sa:W.nsIn K mainGlobals "zip" = 99)
  (PM:W.nsIn K mainGlobals "len" = 99)
  (O9:W.nsIn K mainGlobals "int" = 99)
  (Sh:W.nsIn K mainGlobals "dict" = 99)
  (RJ:W.nsIn K mainGlobals "set" = 99)
  (TQ:W.nsIn K mainGlobals "any" = 99)
  (SN:W.nsIn K mainGlobals "bool" = 99)
  (OC:W.nsIn K mainGlobals "list" = 99)
  (v6:W.nsIn K mainGlobals "enumerate" = 99)
  (Tx:W.nsIn K mainGlobals "str" = 99)
  (Tg:W.nsIn K mainGlobals "max" = 99) :
  ∃fd:FuncData,(∀(s:Shared) (v:Value),BindsTo s fd ⟨[v],[]⟩ [("_law_script",v)])/\∀base:Heap,K.In base->base.Ns mainGlobals mg->V7 l.prog w K mg base CX0 8 fa fd ["_law_script"] (spL K):=by
 have e:=uL.symm.trans (W.mg_of X G Io.a);cases e;obtain⟨_,_,_,_,_,_,_,_,_,rfl,_⟩:=Io.f.ex;have T:Txt K mg ⟨f0,f1,f2,f3,f4,f5,f6,f7,f8,f9,MC,Nm,LP,Mv,L8,Ou,Ly,Nj,LM,LR,LN,NB,Lh,MW,MX,NZ,MU,MN,NM,Oq,MQ,NA,fa,d0,d1,d2,d3,d4,d5,d6,d7,d8,d9,se,tZ,AX,Cs,B7,Nu,Mr,Na,Lw,MO,LQ,Ld,Mm,Ll,Ny,Oa,NR,Lg,Oy,LB,MJ,M8,_,C_Knots,w.params⟩:={
  aI:=e0.g X G fun _ _ _ _ _ _=>ar1 fun _=>rfl,
  ak:=e1.g X G fun _ _ _ _ _ _=>ar2 fun _ _=>rfl,
  aD:=e2.g X G fun _ _ _ _ _ _=>ar4 fun _ _ _ _=>rfl,
  aJ:=e3.g X G fun _ _ _ _ _ _=>ar3 fun _ _ _=>rfl,
  aZ:=e4.g X G fun _ _ _ _ _ _=>ar2 fun _ _=>rfl,
  bm:=e5.g X G fun _ _ _ _ _ _=>ar5 fun _ _ _ _ _=>rfl,
  aT:=e6.g X G fun _ _ _ _ _ _=>ar2 fun _ _=>rfl,
  aU:=e7.g X G fun _ _ _ _ _ _=>ar2 fun _ _=>rfl,
  aV:=e8.g X G fun _ _ _ _ _ _=>ar5 fun _ _ _ _ _=>rfl,
  aN:=e9.g X G fun _ _ _ _ _ _=>ar2 fun _ _=>rfl,
  aB:=T4.g X G fun _ _ _ _ _ _=>ar3 fun _ _ _=>rfl,
  a9:=RI.g X G fun _ _ _ _ _ _=>ar2 fun _ _=>rfl,
  bo:=Th.g X G fun _ _ _ _ _ _=>ar2 fun _ _=>rfl,
  ba:=Ri.g X G fun _ _ _ _ _ _=>ar2 fun _ _=>rfl,
  aO:=So.g X G fun _ _ _ _ _ _=>ar3 fun _ _ _=>rfl,
  bp:=Sd.g X G fun _ _ _ _ _ _=>ar2 fun _ _=>rfl,
  aP:=G7.g fun _ _ _ _ _ _=>ar4 fun _ _ _ _=>rfl,
  ag:=TV.g fun _ _ _ _ _ _=>ar2 fun _ _=>rfl,
  au:=P7.g fun _ _ _ _ _ _=>ar2 fun _ _=>rfl,
  av:=Pw.g fun _ _ _ _ _ _=>ar2 fun _ _=>rfl,
  al:=Tn.g fun _ _ _ _ _ _=>ar2 fun _ _=>rfl,
  ao:=Te.g fun _ _ _ _ _ _=>ar2 fun _ _=>rfl,
  aj:=Pu.g fun _ _ _ _ _ _=>ar2 fun _ _=>rfl,
  az:=SK.g X G fun _ _ _ _ _ _=>ar2 fun _ _=>rfl,
  aC:=RR.g X G fun _ _ _ _ _ _=>ar2 fun _ _=>rfl,
  aa:=e25.g X G fun _ _ _ _ _ _=>ar2 fun _ _=>rfl,
  aQ:=SJ.g X G fun _ _ _ _ _ _=>ar1 fun _=>rfl,
  be:=Rs.g X G fun _ _ _ _ _ _=>ar2 fun _ _=>rfl,
  aL:=PQ.g X G fun _ _ _ _ _ _=>ar3 fun _ _ _=>rfl,
  aE:=RG.g X G fun _ _ _ _ _ _=>ar5 fun _ _ _ _ _=>rfl,
  aM:=Re.g X G fun _ _ _ _ _ _=>ar4 fun _ _ _ _=>rfl,
  aR:=RC.g X G fun _ _ _ _ _ _=>ar3 fun _ _ _=>rfl,
  bE:=Io.g X G fun _ _ _ _ _ _=>ar1 fun _=>rfl,
  ae:=fK X G v4,
  bq:=fK X G Rt,
  aG:=fK X G Rm,
  bt:=fK X G RV,
  bh:=fK X G v7,
  bf:=fK X G Tw,
  bC:=fK X G Sa,
  aA:=fK X G PM,
  bG:=fK X G O9,
  br:=fK X G Sh,
  bz:=fK X G RJ,
  bA:=fK X G TQ,
  bw:=fK X G SN,
  bj:=fK X G OC,
  aW:=fK X G v6,
  bH:=fK X G Tx,
  bD:=fK X G Tg,
  ab:=⟨v9,Fn,Si,T7⟩,
  bB:=W.mg_of X G v8,
  bx:=⟨Oz,G7.a,G7.i,RX⟩,
  aq:=v5,
  ah:=v0,
  af:=v1,
  ai:=v2,
  aH:=v3 }
 refine⟨_,?_,fun base _ _=>ZcO T rfl⟩;exact fun s v=>.of_eq rfl
theorem walk{l:W.OpenLaw}{d:DefRec}{K:Params->W.Frag}(hn:l.most=some 63)(C5:d.params.defaults=[])
  (hY:∀(w:World) (h:Heap),YP w h->(K w.params).In h)
  (F:∀(w:World) (mg:Str->67) (fa:Addr) (h:Heap),(K w.params).In h->h.Ns mainGlobals mg->mg d.name=some (.ref fa) -> ∃fd:FuncData,(∀(s:Shared) (u:Value),BindsTo s fd ⟨[u],[]⟩ [("_law_script",u)])/\∀base:Heap,(K w.params).In base->base.Ns mainGlobals mg->V7 l.prog w (K w.params) mg base CX0 8 fa fd ["_law_script"] (spL (K w.params))) :
  W.WalkO q tp XP YP l.row.toRowW d [] (fun f vs=>PySem.call f vs):=
 L2.walk_of (n:=63) (k:=8) (x := "_law_script") (CX:=fun _=>CX0) (sp:=fun w=>spL (K w.params)) hn 61 C5 ⟨rfl,by left,by left⟩ hY F (fun _ _ a ns hl _ hS=>⟨a,ns,rfl,hS,hl,fun _=>rfl⟩) fun _ _ _ _ _ z=>z
end KK
open PySem PySem.W PyProof.Rows
namespace PySem.W.Fast
def tw2224824906434942037:=0
def tw12804642145268766097:=0
def tw5546379768908284848:=0
def tw14096046930752856830:=0
def tw15159415174755023718:=0
def tw12583341000649237689:=0
def tw17689655178092023438:=0
def tw14496943144012939284:=0
def tw10189973023668432259:=0
def tw13621418632924522581:=0
def tw16875290732692034376:=0
def tw2570589788986891233:=0
def tw10287345748345164098:=0
def tw1894931134686841850:=0
def tw13654168612610455483:=0
def tw9323357252348816806:=0
def tw15017205694059759507:=0
def tw15489944377364927552:=0
def tw14890725001467894739:=0
def tw15539481495825724596:=0
def tw3657569038616023904:=0
def tw10001978564418789664:=0
def tw7863403152891644267:=0
def tw16081284114577139688:=0
def tw16495808153392818096:=0
def tw6671656760852908480:=0
def tw13352536387138643964:=0
def tw7988035696468100766:=0
def tw6057701357399840139:=0
def tw9902771702752336009:=0
def tw8392623956848997016:=0
def tw15540577142187793374:=0
def tw134528808356455313:=0
def tw11286840670057528886:=0
def tw3745000646040933437:=0
def tw10665140420322148743:=0
def tw4834500070137860634:=0
def tw3768392304774045918:=0
def tw8510388716922400526:=0
def tw1636288429054926814:=0
def tw13752672074458469434:=0
def tw11135474415941906904:=0
def tw14827426868927441918:=0
def tw17661999653688098191:=0
def tw18373869929118380153:=0
def tw16561098487534622251:=0
def tw7505125255264780568:=0
def tw9278189076737769330:=0
def tw13327235043904396264:=0
def tw13414331291062896699:=0
def tw12482363447699517875:=0
def tw4404783303712990842:=0
def tw10762674608937950011:=0
def tw7282092150257345633:=0
def tw18430328739056263860:=0
def tw230956354132605794:=0
def tw18048144446502346245:=0
def tw14597095806177011251:=0
def tw9097162690072644370:=0
def tw17499739699114609830:=0
def tw14519598074132603333:=0
def tw3519607434666395214:=0
def tw17675877347596883439:=0
def tw14650055189586875561:=0
def tw14743406574351175683:=0
def tw1674117963248620222:=0
def tw16454647830479816211:=0
def tw5373949555348457720:=0
def tw14141164797158355240:=0
def tw2490851756794377201:=0
def tw16775386709934916287:=0
def tw1117232608078822948:=0
def tw4095588815502739188:=0
def tw829318226549962323:=0
def tw9769175800518104698:=0
def tw9708063161800300197:=0
def tw12071895649187678432:=0
def tw11862459857378896416:=0
def tw14951194678562593317:=0
def tw15015516429881988769:=0
def tw11038160609994235581:=0
def tw9500117393158909117:=0
def tw16205205713726144903:=0
def tw17571293307685684126:=0
def tw17128850219531077026:=0
def tw17950532506956356428:=0
def tw5409904854574796819:=0
def tw13435615488415183224:=0
def tw15002974091637452940:=0
def tw8834999447612969172:=0
def tw14291446190315869171:=0
def tw15050060294354464403:=0
def tw10943841466889599747:=0
def tw13503955017143976129:=0
def tw6761984859194535693:=0
def tw605565496558456550:=0
def tw6938706964269060957:=0
def tw1087080955725341880:=0
def tw10941388904192184322:=0
def tw15090380183615605453:=0
def tw1355040233329519372:=0
def tw13433382183235172718:=0
def tw7659578645911572579:=0
def tw4898105759034328276:=0
def tw4727024406333605907:=0
def tw15486954749589961303:=0
def tw10983567620021208212:=0
def tw7738245828741907956:=0
def tw7288701110479297225:=0
def tw14821044055253856378:=0
def tw14666498489439604980:=0
def tw1395217478155703714:=0
def tw13595540260635932807:=0
def tw8709576276323570607:=0
def tw7693652384115061223:=0
def tw7251167097501869051:=0
def tw6552033920575869490:=0
def tw6357773881840077903:=0
def tw5561360997780708771:=0
def tw5280938259562939789:=0
def tw4783208322042760194:=0
def tw4276463451232951396:=0
def tw3469234339229036225:=0
def tw3259932059992323593:=0
def tw16763424260904719007:=0
def tw16114425561383727061:=0
def tw15507634964605805053:=0
def tw15505091434884067481:=0
def tw13743459217540060800:=0
def tw12824192494366956142:=0
def tw12701936736941542293:=0
def tw11796735133020076869:=0
def tw11413361272923779936:=0
def tw10230487731243991673:=0
def tw13039757640250026983:=0
def tw16305643858031590186:=0
def tw16121643045774116447:=0
def tw3330369552345856905:=0
def tw2246355786910845514:=0
def tw4929693870968482171:=0
def tw3786887634232584392:=0
def tw1257615952715492631:=0
def tw941855195024829979:=0
def tw7100322785441156693:=0
def tw2525684346974746675:=0
def tw10978819356703089961:=0
def tw18167452692169732760:=0
def tw7132976841339721873:=0
def tw17254235819819684498:=0
def tw15461874413713241307:=0
def tw9655204346354329709:=0
def tw551247892689771293:=0
def tw440719594302882916:=0
def tw3330542252437876603:=0
def tw2801613166028049120:=0
def tw16803116390108497161:=0
def tw14212215258493204893:=0
def tw7571700701621850528:=0
def tw16889969410977102359:=0
def tw15214982263990951080:=0
def tw12965524692562140353:=0
def tw12675952409503702383:=0
def tw9954093672436990565:=0
def tw8137657965558416325:=0
def tw8132458720254883014:=0
def tw7893733981887473136:=0
def tw7702267822891936311:=0
def tw6328014945232091992:=0
def tw6200056601386695496:=0
def tw5966254147398867357:=0
def tw5597552479955726146:=0
def tw4724853371014920456:=0
def tw4574676174935666914:=0
def tw3552342585563302850:=0
def tw3532442395032738807:=0
def tw3214602308302568142:=0
def tw2810584089220308689:=0
def tw2235696697614354446:=0
def tw220672937290252110:=0
def tw17570849570612469749:=0
def tw1740846332106047520:=0
def tw17336500653371267264:=0
def tw16480235087699860627:=0
def tw16414894496215478306:=0
def tw16216854699963048257:=0
def tw16035800229143595313:=0
def tw15674405545413337871:=0
def tw14786375177332673934:=0
def tw14495837745660202550:=0
def tw14269223063740563550:=0
def tw14210508479718467656:=0
def tw14081200661796190758:=0
def tw13900777683032146677:=0
def tw13869543587913830613:=0
def tw13596052870180719981:=0
def tw12491902631607574817:=0
def tw11088245515893485425:=0
def tw11033204117653563350:=0
def tw10831866641260123152:=0
def tw10476552599742933056:=0
def tw10234799266555122591:=0
end PySem.W.Fast
set_option maxRecDepth 100000 in
set_option maxHeartbeats 0 in
theorem PySem.Challenge.cw_timecourt_k44_whole_closed_has_no_full_l_holds : PySem.Challenge.rw_timecourt_k44_whole_closed_has_no_full_l.Holds := by
 w_on; o_law; k_head; (case hw => w_witness2)
 k_fill
 refine KK.walk (l := PySem.Challenge.rw_timecourt_k44_whole_closed_has_no_full_l) rfl rfl (fun w h Y => PySem.W.kIn_of Y) ?F
 case F =>
  intro w mg fa h KX G hmg
  have hmg2 : mg "law" = some (.ref fa) := hmg
  clear hmg
  refine' KK.all_mk KX G hmg2 ?v8 ?e0 ?e1 ?e2 ?e3 ?e4 ?e5 ?e6 ?e7 ?e8 ?e9 ?e10 ?e11 ?e12 ?e13 ?e14 ?e15 ?e16 ?e17 ?e18 ?e19 ?e20 ?e21 ?e22 ?e23 ?e24 ?e25 ?e26 ?e27 ?e28 ?e29 ?e30 ?e31 ?e32 ?v9 ?v10 ?v11 ?v12 ?v13 ?v14 ?v5 ?v0 ?v1 ?v2 ?v3 ?v4 ?v16 ?v17 ?v21 ?v7 ?v15 ?v22 ?v23 ?v24 ?v18 ?v25 ?v26 ?v19 ?v20 ?v6 ?v27 ?v28
  (case v8 => k_is)
  (case e0 | e1 | e2 | e3 | e4 | e5 | e6 | e7 | e8 | e9 | e10 | e11 | e12 | e13 | e14 | e15 => exact KK.Fx.m (by k_is) (by k_is) (by k_is) (by k_is))
  (case e16 | e17 | e18 | e19 | e20 | e21 | e22 => exact KK.Mx.m (by k_is) (by k_is) (by k_is) (by k_is) (by k_is))
  (case e23 | e24 | e25 | e26 | e27 | e28 | e29 | e30 | e31 | e32 => exact KK.Fx.m (by k_is) (by k_is) (by k_is) (by k_is))
  (case v9 | v10 | v11 | v12 | v13 | v14 | v5 | v0 | v1 | v2 | v3 | v4 | v16 | v17 | v21 | v7 | v15 | v22 | v23 | v24 | v18 | v25 | v26 | v19 | v20 | v6 | v27 | v28 => k_is)
