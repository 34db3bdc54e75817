import PyProof.Rows.All
import Open.Pieces
import OpenK.KLine
import PySem.Challenge.RW_tellworld_k34_common_steps
import Wide.All
import OpenK.AllK
import Wide.FinOn
import PyProof.EqAt
import PyProof.EqKinds
import PyProof.TupleCall
import PyProof.StrWalks
import PyProof.ConsumeWalk
import PyProof.NeKinds
import PyProof.Rows.SetFrom
import KE.KIsAll
import PyProof.WalksMore
import PyProof.TupleKey
import PyProof.DictWalks
import PyProof.Rows.ZipGen
import KE.KDictLaws
import PyProof.DictItems
import KE.KSortTup
import PyProof.TupleOfSeq
import PyProof.Rows.SortStr
import PyProof.Rows.StrInSeq3
import PyProof.TupleIter
import KE.KDictOf
import PyProof.CollectWalk
import PyProof.Rows.SeqMore
set_option genSizeOf false
local macro_rules (kind:=Lean.Parser.Command.declaration)|s=>do
 if s.getPos?.isNone||s[1][1][0].getId.getRoot== `PySem then Lean.Macro.throwUnsupported
 let s:=s.rewriteBottomUp (·.setInfo .none)
 if s[1].getKind∈[``Lean.Parser.Command.definition,``Lean.Parser.Command.abbrev,``Lean.Parser.Command.instance]&&s[0][4].isNone then
  return s.setArg 0 (s[0].setArg 4 (Lean.mkNullNode #[Lean.Syntax.node .none ``Lean.Parser.Command.noncomputable #[Lean.mkAtom "noncomputable"]]))
 return s
noncomputable section
open List renaming length_map->aj,getElem?_eq_getElem->aZ,length_append->aP,mem_singleton->aR,length_cons->aO,mem_map->az,mem_cons_of_mem->ba,mem_cons_self->aV,map_cons->aK,size_toArray->bb,mem_cons->aT,all_eq_true->bp,mem_filter->bo,getElem?_map->bB,map_map->bc,getElem?_eq_some_iff->b0,mem_append_right->bP,mem_append->bC,map_append->bE,range->bf,append_nil->bG,mem_of_getElem?->b8,getD_eq_getElem?_getD->cJ,mem_append_left->cj,getElem?_set->bS,nodup_append->bT,append_assoc->b9,length_singleton->cB,length_replicate->cK,nil_append->bU,length_take->cn,mem_range->bV,length_filter_le->cP,length_range->cD,mem_map_of_mem->cQ,getElem?_append_right->fD,all_cons->cy,getElem?_append_left->fE,find?_cons->cU,filterMap_cons->dS,nodup_cons->c9,length_nil->dw,getElem?_drop->eI,zip_cons_cons->eJ,any_eq_true->dY,not_mem_nil->dZ,length_set->d5,getElem?_eq_none->gh,getElem_mem->eO,lookup_cons->eQ,filter_append->fG,flatMap_cons->fI,zipWith_cons_cons->hE,filter_eq_nil_iff->hG,lookup->dc,length->de,map_nil->d8,zipWith->d9,mergeSort_perm->hZ,getElem?_replicate->i5,length_drop->gn,filter_cons->gp,pairwise_mergeSort->i6,mem_flatMap->gr,getElem?_set_self->i7,mem_filterMap->ia,take_of_length_le->i8,length_pos_of_mem->i9,all_nil->eZ,length_zip->gv,any_cons->fN,getElem?_toArray->ja,take_sublist->ie,perm_append_singleton->jZ,drop_eq_getElem_cons->j2,length_eq_zero_iff->j5,filter_cons_of_pos->j6,replicate->iu,contains_iff_mem->j7,cons_append->jm,getElem?_set_ne->j8,mem_iff_getElem->j9,mem_of_mem_take->kg,of_mem_zip->jo,foldl_cons->jr,length_zipWith->kh,getElem_of_mem->kj,filter_eq_self->kl,filter_sublist->km,map_congr_left->ko,mem_of_find?_eq_some->mQ,ext_getElem?->kx,take_add_one->kz,length_erase_of_mem->mS,getElem_inj->kC,map->fV,filter_cons_of_neg->mV,drop_eq_nil_of_le->mX,zip_append->kJ,filterMap_append->m6,nodup_nil->kP,mem_erase_of_ne->nh,length_eraseIdx->ni,getElem?_range->nE,length_pos_iff->nF,map_eq_nil_iff->nG,zip_map'->la,map_take->lg,contains_cons->nP,find?_eq_none->nT,map_filterMap->nU,any_eq_false->nV,foldl_append->nZ,pairwise_map->n4,nodup_range->oI,find?_some->oR,drop_nil->pB,map_drop->pD,all_map->pJ,rec->p9
open PySem renaming wpAny_bind->ah,Value->aa,Shared->ae,wpAny_pure->ar,wpAny->ai,starEach->aE,mainGlobals->aW,Program->ay,sizeLine->aG,Around->aC,World->av,compareOp->bq,wpAny_holding->cc,sizeLine_eq->bO,SetTable->br,wpAny_setState_of->cR,Spec->sU,wpAny_truthy_bool->c8,wpAny_mono->bX,wpAny_newObj_type->dt,wpAny_Call_Name_kw->dW,codeAny_builtin->dy,FuncData->bQ,backTo->bD,assignEach->cF,strKind->dD,bootBuiltins->dE,wpAny_call_entry->fJ,wpAny_passesOwn->fL,wpAny_pyIter_list->gj,keywordEach->dG,sysModules->df,attributeBase->eV,mem_of_lookup->hX,letOwnedTupleGo->gu,behindInMarks->fM,swapsWith->dg,plainId_quiet->fO,foldedSetIterable->ic,codeAny->cz,ofAClassStatement->ik,wpAny_setField->gx,binaryOp->dh,filterMap_getElem?_range->j4,wpAny_specialOf->iq,tupleKind_room_in1->je,codeAny_mono->gz,NameKind->dJ,call_meetsIn->gA,wpAny_Call_method->jg,wpAny_storeSet_of->jl,Builtin->di,GenState->eh,wpAny_execs_nil->jn,isSubtype_type->js,wpAny_rule->gH,Paired->fT,wpAny_callSpecial?_slot->mU,wpAny_forIn_list->kE,wpAny_askSetting->kF,Result->dM,wpAny_typeOf->ju,Keyword->fm,Scope->cO,wpAny_updateSeq->kK,wpAny_isTrue_Compare1->m3,wpAny_eqIsQuiet_tuple->m5,builtinLookup_eq_fast->m7,carriedByValue->kM,wpAny_seqItems->kN,typeIs_none->jy,wpAny_standAt->kR,wpAny_newList->kX,wpAny_pyIter_tuple->nM,IsPart->fq,Within->lj,BindsTo->gO,seqIndex_neg->ly,slot_list_getitem->nX,wpAny_pyIter_slot->oa,fits_of_scanBound->oe,wpAny_setEpoch_of->og,wpAny_pyHash_str->om,wpAny_execs_cons->oo,PassesOwn->jA,noFill_tuple_add->ou,wpAny_isInstance->oJ,wpAny_field->lG,seqIndex_of->lI,codeAny_of_tree->oM,typeLookup_type->oU,wpAny_Name->lQ,Operator->jB,wpAny_call->lX,PlainAttrs->lZ,call_meets->l3,meets_dict_get->o6,call->l4,wpAny_runValue->o7,boot_len->o8,wpAny_newTuple->o9,entryFor_alias->pf,KeyKind->ph,intBits_le_64->pj,seq_tuple_add->px,evalPart_none->pz,call_list_seq->pA,signature?_of->pE,CmpOp->fX,Params->iH,Fin->p6
open PySem.Heap renaming get?_push_of_some->aN,get?_push_size->bu,lt_size->aQ,get?_update_self->eG,size_push->cW,get?_update_other->gf,SameBut->dF
open Bool renaming and_eq_true->aS,false_ne_true->bj,eq_iff_iff->cM,not_eq_true'->eL,false_eq_true->fF,and_true->eW,eq_false_iff->ji,or_eq_true->jq,or_eq_false_iff->ng,not_eq_true->oH,false_and->oY,and_false->o4,rec->l7
open Nat renaming le_refl->aJ,ne_of_lt->aY,lt_of_lt_of_le->ck,le_trans->bN,le_of_ble_eq_true->c6,zero_le->cf,lt_succ_self->dv,lt_succ_of_lt->dX,lt_irrefl->d7,le_add_right->gq,ne_of_gt->fQ,lt_of_le_of_lt->jf,ble_eq->fi,min_self->gE,mod_lt->fR,le_of_lt->ix,ble->fo,le_succ->jw,add_right_comm->nI,zero_add->lh,succ_pos->lA,le_of_lt_succ->n5,le_of_succ_le->oj,min_le_right->oA,le_of_not_lt->oF,min_eq_left->oW,beq->iE,le_of_eq->pG,sub_self->pI,pow_succ->pM
open Array renaming length_toList->bF,getD_eq_getD_getElem?->f9,getElem?_toList->hJ,getElem?_eq_getElem->i3,getElem?_eq_some_iff->mL,perm_iff_toList_perm->mM,toList_push->kA,size_eq_one_iff->m8,forIn_toList->nQ,replicate->oT,size_map->pe,toList->pF,map->p8
open PySem.W renaming Frag->au,kia_one->cH,emptyDict->ee,findIn->cX,kitOne->cY,keepIn->dH,instObj->fj,fnOf->eB,codeIn->gL,plainGet_of->kT,plainGet->jz,OpenLaw->iB,callWith_K->lu,cellsFrom_some->oq,methodObj->lC,hasDictIn->lD,kitx_list->lE,kitx_dict->lF,methodCall_KW->oK,mg_of->iG,lookIn->jC,kas_sort->jD,callWith_K0->pq,takerIn->l5,kitx_tuple->pH,kas_ask->jE,nsIn->iI,plainOver->pS,specialIn->pT,isFn->jG
open PyProof.Rows.F renaming plain_set_update_loop->dr,entry_set_update_loop->gb
open Option.some renaming inj->cw,injEq->sI
open Int renaming eq_ofNat_of_zero_le->dP,emod_lt_of_pos->ib,toNat_natCast->ig,emod_nonneg->ir,toNat_of_nonneg->nH
open PySem.Heap.SameBut renaming update->c7
open Prod renaming snd->bw,fst->bR
open PySem.SetTable.layClean renaming free->dQ
open PySem.Around renaming under_plainId->dR,under->lp
open PySem.SetTable renaming bits->cE,below->dA,grown->dB,runEnd->eT,Probe->eU,insertAt->gm,turns->gw,fits->iw,advance->kG,insertAt_perm->mZ,laid->kY,fill->kZ,layClean->n6,has->pL
open PySem.Calls renaming spliced_cons->dU,spliced_nil->fH,callWith_builtin->gZ,evalArgs_plain->hU,Name_function_global->mJ,call_function_entry->mN
open PySem.Obj renaming data_mapFields->eK,mapSeq->cG,mapFields->fP,isFreed_of_fields->jb,putSet->gG,cls_mapFields->kB
open PySem.Builtin.List renaming listTooLong->gX,listExtendWith->mH,listLengthHint->mI,listSameRef->mT
open Classical renaming propDecidable->gY,byContradiction->mO
open False renaming elim->cN
open PySem.F renaming slot_dict_get->eS,called_set->eX,slot_NoneType_hash->jc,entry_dict_get->ip,slot_list_extend->jd,plainAttrs_dict->jh,plainAttrs_list->jk,sub_list_frozenset->ka,slot_list_append->kr,args_dict_get_2->ky,slot_dict_setdefault->mY,type_dict_get->kI,args_list_extend_2->m9,sub_list_set->kO,entry_list_extend->nD,args_tuple_add_2->nN,type_list_append->nR,type_list_extend->nS,entry_tuple_add->nW,args_dict_get_3->nY,plain_list_iadd->oh,slot_tuple_add->ox,plain_set_new->oN,slot_set_iter->oV
open PyProof.Rows renaming slot_tuple_getitem->iY,StrsAre->kc,AllBare->eA,subscriptTail_builtinR->mW,listUpdate_at->kW,SortKind->iC,seqEpoch_at->lL,get?_update_seq->oO,entry_list_sort->oP,boot_isinstance->oQ,IntsAre->iF,slicePart_none->oZ,Subscript_->lY,slot_list_sort->pb,args_list_sort->pd,IsTup->fW,lt_str->sA
open PySem.Builtin.Slice renaming slicePlaces->iZ,sliceAdjust->j1,sliceApplied->mK,slicePartIndex->qN,sliceFields->ra
open Option renaming map_some->fK,getD_none->oE,getD_some->oG,map->pZ
open PySem.Builtin.Tuple renaming tupleExact->i4,tupleItemsOf->qP
open PySem.SetTable.probe renaming go->il
open PySem.Value renaming isStrOf->gy,isInt->pQ
open List.Perm renaming eq_of_pairwise->j3
open Ne renaming symm->cZ
open Nat.succ renaming inj->iy
open LawfulBEq renaming eq_of_beq->fS
open PySem.SeqAt.EqAt renaming str_str->kq,of_refs->ku,same->kH,none_int->nu,none_str->nv,int_none->ny,str_none->nz,int_str->nJ,str_int->nL,tuple_none->rN,tuple_bool->rO,tuple_list->rP,list_tuple->rQ,none_tuple->rR,bool_tuple->rS,none_bool->rT,bool_none->rU,bool_bool->rV,tuple_int->rW,tuple_str->rX,list_none->rY,list_bool->rZ,none_list->r6,bool_list->r9,int_tuple->sd,str_tuple->se,bool_int->sg,bool_str->sj,int_bool->sk,str_bool->sm,list_int->sq,list_str->sr,int_list->su,str_list->sv,int_int->sE
open PySem.AutoSeq1 renaming wpAny_loadPart'->mR
open PySem.Str renaming ofString->jt
open PySem.SeqAt renaming EqAt->iz,notIn_listAt->nO
open PySem.Walks renaming list->iA
open Sum.inr renaming inj->jv
open PySem.Moved renaming trans->jx
open PySem.Paired renaming length->kQ,snoc->pV
open PySem.Shared renaming TypeIs->kU
open PySem.Code renaming isFrame->lq,frames->pU
open PySem.SetTable.below renaming go->n8
open PySem.Builtin.Frozenset renaming updateFrom->qO,newClass->qR,sizeOf->rK,slot0->rM
open PySem.PassesOwn renaming never->oX
open PySem.SeqAt.RcNeAt renaming lists_lengths->qQ,tuples->sy,lists->sF
open PySem.EqNone renaming eq_none_none->qS,eq_none_bool->qT,eq_bool_none->qU,ne_none_none->qX,ne_none_bool->qY,ne_bool_none->qZ,eq_none_int->rb,eq_none_str->rg,eq_int_none->rj,eq_str_none->rq,ne_none_int->rB,ne_none_str->rD,ne_int_none->rE,ne_str_none->rG
open PySem.EqMixed renaming eq_bool_str->qV,eq_str_bool->qW,ne_bool_str->q8,ne_str_bool->q9,eq_int_str->rp,eq_str_int->rA,ne_int_str->rF,ne_str_int->rH
open PySem.SeqAt.RcAt renaming lists_lengths->rJ,tuple_str->sf,tuples->sJ,lists->sN
open PySem.Pv renaming boot_tuple->pC,boot_list->pK,boot_set->pW,boot_int->pX
open PySem.Builtin.Range renaming rangeSize->rL
open PyProof.Rows.IsTup renaming new->l6
open PySem.pickOrder renaming go->pN
open Eq renaming symm->jF
open Prod.mk renaming inj->pO
open PySem.Heap.IsSliceOf renaming new->sC
open PySem.W.WShape renaming has->pY
open List.Sublist renaming nodup->sG,refl->sM
open PySem.Within renaming cons->sH
open List.Pairwise renaming map->sL
open PySem.Heap.DictOf renaming new->sO
def af:=@if_pos
def ag:=@if_neg
def aL:=@decide_eq_false
def aM:=@decide_eq_true
def ao:=@absurd
def bJ:=@decide_eq_true_eq
def bK:=@of_decide_eq_true
def bH:=@congrArg
abbrev cp:=List (PySem.Addr×PySem.Obj)
abbrev aH:=List PySem.Str
set_option compiler.extract_closed false
set_option hygiene false
local macro_rules
|`(tactic|sleep 1)=>`(tactic|(obtain⟨F,ρ,H0,d,ρ',R,e,k⟩:=hh))
set_option Elab.async false
set_option linter.all false
namespace L5
open PySem PySem.W
noncomputable def pick(l:List Obj):Nat->List Addr->List Obj:=
 @p9 Obj (λ_=>Nat->List Addr->List Obj) (λ_ _=>[])
  (λo _ ih i as=>@p9 Addr (λ_=>List Obj) [] (λa r _=>@l7 (λ_=>List Obj) (ih (Nat.succ i) as) (o::ih (Nat.succ i) r) (iE a i)) as) l
theorem OU(i:Nat)(as:List Addr):pick [] i as=[]:=rfl
theorem RY(o:Obj)(l:List Obj)(i:Nat)(r:List Addr):pick (o::l) i (i::r)=o::pick l (i+1) r:=by show @l7 (λ_=>List Obj) _ _ (iE i i)=_;rw[Nat.beq_refl];rfl
theorem RZ(o:Obj)(l:List Obj)(i a:Nat)(r:List Addr)(h:a≠i):pick (o::l) i (a::r)=pick l (i+1) (a::r):=by
 show @l7 (λ_=>List Obj) _ _ (iE a i)=_;have:iE a i=false:=by
  cases q:iE a i with
  |false=>rfl
  |true=>exact ao (Nat.eq_of_beq_eq_true q) h
 rw[this];rfl
theorem IG:∀(l:List Obj) (i:Nat) (as:List Addr),(pick l i as).length=as.length->∀j (hj:j<as.length),∃b,as[j]=i+b/\l[b]?=(pick l i as)[j]?
 |[],i,as,h,j,hj=>by rw[OU]at h;simp at h;omega
 |o::l,i,[],h,j,hj=>by simp at hj
 |o::l,i,a::r,h,j,hj=>by
  by_cases q:a=i
  ·subst q;rw[RY]at h ⊢;cases j with
   |zero=>exact⟨0,rfl,rfl⟩
   |succ j=>obtain⟨b,e1,e2⟩:=IG l (a+1) r (by simpa using h) j (by simpa using hj);exact⟨b+1,by rw[List.getElem_cons_succ,e1];exact nI a 1 b,by simpa using e2⟩
  ·rw[RZ _ _ _ _ _ q]at h ⊢;obtain⟨b,e1,e2⟩:=IG l (i+1) (a::r) h j hj;exact⟨b+1,by rw[e1];exact nI i 1 b,by simpa using e2⟩
def live(o:Obj):Bool:=match o with|⟨_,_,.freed,_⟩=>false|_=>true
theorem R0{h:Heap}{as:List Addr}{K:Frag}(e:as=K.map (·.1))(x:(pick h.objs.toList 0 as,K.all λp=>live p.2)=(K.map (·.2),true)):K.In h:=by
 obtain⟨x1,x2⟩:=pO x;refine Frag.in_of e (kx λj=>?_);rw[bB,bB];by_cases hj:j<as.length
 ·have hl:(pick h.objs.toList 0 as).length=as.length:=by rw[x1,e,aj,aj]
  obtain⟨b,e1,e2⟩:=IG _ _ _ hl j hj;have hk:j<K.length:=by rw[e,aj]at hj;exact hj
  rw[aZ hj,aZ hk,fK,fK,e1,lh];have e3:h.objs[b]?=some (K[j].2):=by rw[<-hJ,e2,x1,bB,aZ hk];rfl
  have lv:live K[j].2=true:=bp.mp x2 _ (eO hk);refine bH some ?_;unfold Heap.get?;rw[e3];revert lv;cases K[j].2 with
  |mk c d data sl=>cases data<;>intro lv<;>first|rfl|cases lv
 ·rw[gh (by omega),gh (by rw[e,aj]at hj;omega)];rfl
noncomputable def Zc(K:iH->Frag) (as:List Addr) (e:∀P,as=(K P).map (·.1)):Hook:=
 ⟨List Obj×Bool,λs=>(pick s.heap.objs.toList 0 as,true),λw=>((K w.params).map (·.2),(K w.params).all λp=>live p.2),InK K,λw s x=>R0 (e w.params) (by
  obtain⟨x1,x2⟩:=pO x;rw[x1,<- x2]),InK.keeps⟩
end L5
section
open PySem PySem.W PyProof.Rows
local macro_rules|`(tactic|o_head ($f:ident $k $as $e))=>`(tactic|o_head ((L5.Zc $k $as (fun _=>by kernel_rfl)):W.Hook))
local macro_rules|`(command|#where)=>do
 let mut r:=#[]
 for n in [43:1696] do
  let x:=Lean.mkIdent (.mkSimple s!"tw{((Lean.Name.mkSimple "hd").str s!"o_{n}").hash}")
  r:=r.push ((<-`(command|noncomputable def $x:ident:=0)).raw.rewriteBottomUp (·.setInfo .none))
 return Lean.mkNullNode r
noncomputable section
namespace PySem.W.Fast
def tw11876754857118657864:=0
def tw14019881755177166336:=0
def tw3053750849978692993:=0
def tw9471975957513084386:=0
def tw8621051862298792834:=0
def tw14981486917079919043:=0
def tw9586530580320156388:=0
def tw4738809144493168741:=0
def tw12428158363243832775:=0
def tw1411773755910144520:=0
def tw10374632558016547081:=0
def tw938635154573522699:=0
def tw8726500145642417389:=0
def tw16468923359905847789:=0
def tw16828129974981846989:=0
def tw7774113678449685934:=0
def tw7779248424791100879:=0
def tw9126519310905630191:=0
def tw5731719637626353167:=0
def tw14820581166966647791:=0
def tw9489733371221775472:=0
def tw15771277078112728817:=0
def tw10203300007123444082:=0
def tw16722901843121052530:=0
def tw861502493610598483:=0
def tw15813021780557525363:=0
def tw785687812312579603:=0
def tw55536753830339475:=0
def tw15482829446920323796:=0
def tw8917917961894373751:=0
def tw13084661642996705785:=0
def tw15868113528992853466:=0
def tw2706584449700448635:=0
def tw3541781463879696891:=0
def tw5114918623987374716:=0
def tw1745904855532632988:=0
def tw329941283463616030:=0
def tw2971596502417355958:=0
def tw8657222522952367038:=0
def tw17251315145833254153:=0
def tw6974557070662783694:=0
def tw6162503120301977900:=0
def tw12140563180475188368:=0
def tw7443300427957997767:=0
def tw1696603150406912985:=0
def tw8997383693586321770:=0
def tw13347621489011750686:=0
def tw9942697423348921712:=0
def tw5486008376365147428:=0
def tw15224501303457401022:=0
def tw9725562876746918227:=0
#where
end PySem.W.Fast
end
def zvp:=PySem.Challenge.pw_tellworld_k34_common_steps
noncomputable def zvq:=PySem.W.view zvp [171]
local macro_rules|`(tactic|refine $t)=>do
 if t.raw[0].getId != ``PySem.W.holds_open||t.raw[1][0][3].getId.eraseMacroScopes== `zvq then Lean.Macro.throwUnsupported
 let n:=fun (i:Nat) (x:Lean.Term) (a:Array Lean.Syntax)=>a.set! i (a[i]!.setArg 3 x)
 `(tactic|refine $(Lean.TSyntax.mk (t.raw.setArg 1 (Lean.mkNullNode (n 0 (<-`(zvq)) (n 1 (<-`(zvp.boundNames)) (n 2 (<-`(fun s=>PySem.W.xlAt zvq [] s&&PySem.W.recOk [] s)) (n 3 (<-`(PySem.W.XL zvq [])) t.raw[1].getArgs))))))))
set_option maxRecDepth 100000 in
set_option maxHeartbeats 0 in
open_top hd for PySem.Challenge.rw_tellworld_k34_common_steps
end
set_option maxRecDepth 100000
namespace L2
open PySem PySem.Spec PyProof.Rows
abbrev Key:=Sum Int Str
def Fg:Key->aa->Bool
 |.inl k,v=>pQ k v
 |.inr x,v=>gy x v
def Zd(w:av):Key->Int
 |.inl k=>hashInt k
 |.inr x=>hashStr w x
theorem uG:∀{k:Key} {v:aa},Fg k v=true->(∃i t,k=Sum.inl i/\v=Value.int i t)\/(∃x t,k=Sum.inr x/\v=Value.str x t)
 |.inl i,v,h=>by obtain⟨t,e⟩:=Value.isInt_shape (k:=i) (v:=v) h;exact .inl ⟨i,t,rfl,e⟩
 |.inr x,v,h=>by obtain⟨t,e⟩:=Value.isStrOf_shape (x:=x) (v:=v) h;exact .inr ⟨x,t,rfl,e⟩
theorem NJ(i:Int)(t:Tok):Fg (.inl i) (.int i t)=true:=by simp[Fg,pQ]
theorem NK(x:Str)(t:Tok):Fg (.inr x) (.str x t)=true:=by simp[Fg,gy]
theorem Vn(a b:Int):decide ((Sum.inl a:Key)=Sum.inl b)=(a==b):=by
 by_cases e:a=b
 ·subst e;simp
 ·have h:¬(Sum.inl a:Key)=Sum.inl b:=λq=>e (Sum.inl.inj q);rw[aL h];exact(beq_eq_false_iff_ne.mpr e).symm
theorem Vo(a b:Str):decide ((Sum.inr a:Key)=Sum.inr b)=decide (a=b):=by
 by_cases e:a=b
 ·subst e;simp
 ·have h:¬(Sum.inr a:Key)=Sum.inr b:=λq=>e (jv q);rw[aL h,aL e]
theorem Vp(a:Int)(b:Str):decide ((Sum.inl a:Key)=Sum.inr b)=false:=aL (λq=>nomatch q)
theorem Vq(a:Str)(b:Int):decide ((Sum.inr a:Key)=Sum.inl b)=false:=aL (λq=>nomatch q)
def ua(prog:ay)(w:av):ph prog w Key where
 is:=Fg
 hash:=Zd w
 inj:=λv a b ha hb=>by
  rcases uG ha with ⟨i,t,rfl,rfl⟩|⟨x,t,rfl,rfl⟩
  ·rcases uG hb with ⟨j,u,rfl,e⟩|⟨y,u,rfl,e⟩
   ·injection e with e1 _;rw[e1]
   ·exact nomatch e
  ·rcases uG hb with ⟨j,u,rfl,e⟩|⟨y,u,rfl,e⟩
   ·exact nomatch e
   ·injection e with e1 _;rw[e1]
 byValue:=λk v h=>by rcases uG h with ⟨i,t,rfl,rfl⟩|⟨x,t,rfl,rfl⟩<;>rfl
 pyHash:=λhv h=>by
  rcases uG hv with ⟨i,t,rfl,rfl⟩|⟨x,t,rfl,rfl⟩
  ·exact wpAny_pyHash_int h
  ·exact om h
 eqBool:=λhu hv h=>by
  rcases uG hu with ⟨i,t,rfl,rfl⟩|⟨x,t,rfl,rfl⟩
  ·rcases uG hv with ⟨j,u,rfl,rfl⟩|⟨y,u,rfl,rfl⟩
   ·rw[Vn]at h;exact wpAny_eqBool_int h
   ·rw[Vp]at h;exact nJ i t y u _ _ _ _ h
  ·rcases uG hv with ⟨j,u,rfl,rfl⟩|⟨y,u,rfl,rfl⟩
   ·rw[Vq]at h;exact nL x t j u _ _ _ _ h
   ·rw[Vo]at h;exact wpAny_eqBool_str h
 «strs»:=λk x t v h=>by
  rcases uG h with ⟨i,u,rfl,e⟩|⟨y,u,rfl,e⟩
  ·exact nomatch e
  ·injection e with e1 _;subst e1;cases v<;>rfl
theorem JK(prog:ay)(w:av)(i:Int)(t:Tok):(ua prog w).is (.inl i) (.int i t)=true:=NJ i t
theorem JL(prog:ay)(w:av)(x:Str)(t:Tok):(ua prog w).is (.inr x) (.str x t)=true:=NK x t
inductive V where
 |non|bl (b:Bool)|int (i:Int)|str (x:Str)|byt (b:Array UInt8)|flt (b:UInt64)|ref (a:Addr)|ty (n:String)
 deriving DecidableEq
abbrev bA:=List V
def RelV:V->aa->Prop
 |.non,u=>u=Value.none
 |.bl b,u=>u=Value.bool b
 |.int i,u=>∃t,u=Value.int i t
 |.str x,u=>∃t,u=Value.str x t
 |.byt b,u=>∃t,u=Value.bytes b t
 |.flt b,u=>∃t,u=Value.float b t
 |.ref a,u=>u=Value.ref a
 |.ty n,u=>u=Value.type n
abbrev Vals:bA->List aa->Prop:=fT RelV
variable{us:List aa}
theorem Vals.length{xs:bA}(r:Vals xs us):xs.length=us.length:=kQ r
theorem Vals.get:∀{xs:bA} {us:List aa} {i:Nat} {x:V},Vals xs us->xs[i]?=some x->∃u,us[i]?=some u/\RelV x u
 |_,_,_,_,.nil,e=>by simp at e
 |_,_,0,_,.cons r _,e=>by simp at e;subst e;exact⟨_,rfl,r⟩
 |_,_,i+1,x,.cons _ t,e=>by obtain⟨u,h1,h2⟩:=Vals.get (i:=i) (x:=x) t (by simpa using e);exact⟨u,by simpa using h1,h2⟩
variable{u:aa}
theorem Vals.set{x:V}(r:RelV x u):∀{xs:bA} {us:List aa} (i:Nat),Vals xs us->Vals (xs.set i x) (us.set i u)
 |_,_,_,.nil=>.nil
 |_,_,0,.cons _ t=>.cons r t
 |_,_,i+1,.cons q t=>.cons q (Vals.set r i t)
theorem Vals.append:∀{xs ys:bA} {us ws:List aa},Vals xs us->Vals ys ws->Vals (xs++ys) (us++ws)
 |_,_,_,_,.nil,s=>s
 |_,_,_,_,.cons r t,s=>.cons r (Vals.append t s)
theorem Vals.take:∀{xs:bA} {us:List aa} (n:Nat),Vals xs us->Vals (xs.take n) (us.take n)
 |_,_,0,_=>.nil
 |_,_,_+1,.nil=>.nil
 |_,_,n+1,.cons r t=>.cons r (Vals.take n t)
theorem Vals.drop:∀{xs:bA} {us:List aa} (n:Nat),Vals xs us->Vals (xs.drop n) (us.drop n)
 |_,_,0,r=>r
 |_,_,_+1,.nil=>.nil
 |_,_,n+1,.cons _ t=>Vals.drop n t
def AO:Option V->Option aa->Prop
 |some v,some u=>RelV v u
 |none,none=>True
 |_,_=>False
def KV{κ:Type}:List (κ×V)->List (κ×aa)->Prop:=fT λ(p:κ×V) (q:κ×aa)=>p.1=q.1/\RelV p.2 q.2
def kV:Key->V
 |.inl i=>.int i
 |.inr x=>.str x
inductive HO where
 |lst (xs:bA)
 |tup (xs:bA)
 |dK (kvs:List (Key×V))|dT (kvs:List (List Key×V))
 |set (S:Int->Bool) (n:Nat)
 |ins (C dx:Addr) (fs:List (Str×V))
 |own (x:Addr)
 |xd (fs:List (Str×V))
 |met (f x:Addr)
 |rng (lo hi:Int)
 |frz (o:Obj) (u:HO)
 |tbl (ps:Array aa)
 |ext (φ:Heap->Prop)
abbrev Hp:=Addr->Option HO
def upd(H:Hp)(a:Addr)(o:HO):Hp:=λb=>if b=a then some o else H b
variable{a:Addr}{o:HO}
theorem tG{H:Hp}:upd H a o a=some o:=by unfold upd;rw[af rfl]
variable{b:Addr}
theorem tK{H:Hp}(h:b≠a):upd H a o b=H b:=by unfold upd;rw[ag h]
theorem Ze{H:Hp}{u:HO}(h:H a=some o)(h':H b=some u)(d:o≠u):a≠b:=by intro e;subst e;rw[h]at h';exact d (cw h')
theorem vQ{H:Hp}(h:H a=some o)(h':H b=none):a≠b:=by intro e;subst e;rw[h]at h';cases h'
section
variable(P:ay)(w:av)
def uT(H:Hp)(h:Heap)(a:Addr):HO->Prop
 |.lst xs=>xs.length<=aG/\∃(its:List aa) (n:Nat),Vals xs its/\h.get? a=some { cls:=.type "list", data:=.seq its.toArray n }
 |.tup xs=>xs.length<=aG/\∃its:List aa,Vals xs its/\fW h a its.toArray
 |.dK kvs=>kvs.length<=aG/\(a==df)=false/\∃vs,KV kvs vs/\h.DictOf (ua P w) a vs
 |.dT kvs=>kvs.length<=aG/\(a==df)=false/\∃xs:List (List Key×Addr×aa),
   fT (λ(p:List Key×V) (q:List Key×Addr×aa)=>p.1=q.1/\H q.2.1=some (.tup (p.1.map kV))/\RelV p.2 q.2.2) kvs xs/\
   ∃o es ep,h.get? a=some o/\o.ExactDict/\o.data=.dict es ep/\es.toList=xs.map (entryOfKey (tupleKind (ua P w)))/\(xs.map (·.1)).Nodup
 |.set S n=>h.SetOf (intKind P w) a S n
 |.ins C dx fs=>H dx=some (.own a)/\fs.length<=1000/\dx≠a/\h.get? a=some (fj C dx)/\
   ∃mA,h.Ns1 dx mA/\(∀f,AO (fs.lookup f) (mA f))/\lj mA (fs.map (·.1))
 |.own _=>∃o,h.get? a=some o
 |.xd fs=>∃mA,h.Ns1 a mA/\∀f,AO (fs.lookup f) (mA f)
 |.rng lo hi=>∃t u v,h.get? a=some { cls:=.type "range", data:=.fields #[.int lo t,.int hi u,.int 1 v] }
 |.frz o u=>h.get? a=some o/\uT H h a u
 |.tbl ps=>h.get? a=some { cls:=.none,data:=.fields ps }
 |.met f x=>h.get? a=some (lC (.ref f) (.ref x))
 |.ext φ=>φ h/\(∃o,h.get? a=some o)/\∀h1 h2:Heap,φ h1->(∀o,h1.get? a=some o->h2.get? a=some o)->φ h2
def HOk(H:Hp)(h:Heap):Prop:=∀a o,H a=some o->uT P w H h a o
end
section
variable{P:ay}{w:av}{H H':Hp}{h h':Heap}{a:Addr}{o:HO}
theorem uT.lt(x:uT P w H h a o):a<h.objs.size:=by
 cases o with
 |lst xs=>obtain⟨_,_,_,_,e⟩:=x;exact aQ e
 |tup xs=>obtain⟨_,_,_,p⟩:=x;exact p.lt
 |dK kvs=>obtain⟨_,_,_,_,o,_,_,e,_⟩:=x;exact aQ e
 |dT kvs=>obtain⟨_,_,_,_,o,_,_,e,_⟩:=x;exact aQ e
 |set S n=>obtain⟨o,_,_,_,e,_⟩:=x;exact aQ e
 |ins C dx fs=>obtain⟨_,_,_,e,_⟩:=x;exact aQ e
 |own y=>obtain⟨_,e⟩:=x;exact aQ e
 |xd fs=>obtain⟨_,⟨_,_,_,e,_⟩,_⟩:=x;exact aQ e
 |rng lo hi=>obtain⟨_,_,_,e⟩:=x;exact aQ e
 |frz ob u=>obtain⟨e,_⟩:=x;exact aQ e
 |tbl ps=>exact aQ (show h.get? a=some _ from x)
 |met f y=>exact aQ (show h.get? a=some _ from x)
 |ext φ=>obtain⟨_,⟨_,e⟩,_⟩:=x;exact aQ e
theorem Paired.mapP{α β:Type}{F G:α->β->Prop}:∀{l₁:List α} {l₂:List β},fT F l₁ l₂->(∀a b,F a b->G a b)->fT G l₁ l₂
 |_,_,.nil,_=>.nil
 |_,_,.cons r t,f=>.cons (f _ _ r) (Paired.mapP t f)
theorem uT.stay(x:uT P w H h a o)(k:∀b u,(b=a\/H b=some (.own a))->h.get? b=some u->h'.get? b=some u)
  (ho:∀b,H b=some (.own a)->H' b=some (.own a)) (ht:∀b xs,H b=some (.tup xs)->H' b=some (.tup xs)):uT P w H' h' a o:=by
 induction o with
 |lst xs=>obtain⟨z,its,n,r,e⟩:=x;exact⟨z,its,n,r,k _ _ (.inl rfl) e⟩
 |tup xs=>obtain⟨z,its,r,ob,e,c⟩:=x;exact⟨z,its,r,ob,k _ _ (.inl rfl) e,c⟩
 |dK kvs=>obtain⟨z,y,vs,r,ob,es,ep,e,c⟩:=x;exact⟨z,y,vs,r,ob,es,ep,k _ _ (.inl rfl) e,c⟩
 |dT kvs=>obtain⟨z,y,xs,r,ob,es,ep,e,c⟩:=x;exact⟨z,y,xs,Paired.mapP r λp q z=>⟨z.1,ht _ _ z.2.1,z.2.2⟩,ob,es,ep,k _ _ (.inl rfl) e,c⟩
 |set S n=>obtain⟨ob,es,ep,t,e,c⟩:=x;exact⟨ob,es,ep,t,k _ _ (.inl rfl) e,c⟩
 |ins C dx fs=>obtain⟨d,z,ne,e,mA,⟨od,es,ep,e2,c⟩,r⟩:=x;exact⟨ho _ d,z,ne,k _ _ (.inl rfl) e,mA,⟨od,es,ep,k _ _ (.inr d) e2,c⟩,r⟩
 |own y=>obtain⟨ob,e⟩:=x;exact⟨ob,k _ _ (.inl rfl) e⟩
 |xd fs=>obtain⟨mA,⟨od,es,ep,e,c⟩,r⟩:=x;exact⟨mA,⟨od,es,ep,k _ _ (.inl rfl) e,c⟩,r⟩
 |rng lo hi=>obtain⟨t,u,v,e⟩:=x;exact⟨t,u,v,k _ _ (.inl rfl) e⟩
 |frz ob u ih=>obtain⟨e,q⟩:=x;exact⟨k _ _ (.inl rfl) e,ih q⟩
 |tbl ps=>have e:h.get? a=some { cls:=.none,data:=.fields ps }:=x;show h'.get? a=some { cls:=.none,data:=.fields ps };exact k a _ (.inl rfl) e
 |met f y=>have e:h.get? a=some (lC (.ref f) (.ref y)):=x;show h'.get? a=some (lC (.ref f) (.ref y));exact k a _ (.inl rfl) e
 |ext φ=>obtain⟨p,⟨o,e⟩,st⟩:=x;exact⟨st _ _ p λo q=>k _ _ (.inl rfl) q,⟨o,k _ _ (.inl rfl) e⟩,st⟩
theorem HOk.lt(x:HOk P w H h)(e:H a=some o):a<h.objs.size:=(x a o e).lt
theorem HOk.fresh(x:HOk P w H h)(e:h.objs.size<=a):H a=none:=by
 cases q:H a with
 |none=>rfl
 |some u=>exact ao (ck (x.lt q) e) (d7 _)
theorem HOk.kept(x:HOk P w H h)(k:∀b u,h.get? b=some u->h'.get? b=some u):HOk P w H h':=λa o e=>
 (x a o e).stay (λb u _ q=>k b u q) (λ_ q=>q) λ_ _ q=>q
theorem HOk.laid(x:HOk P w H h)(k:∀b u,h.get? b=some u->h'.get? b=some u)(hp:h.objs.size<=a)(new:uT P w (upd H a o) h' a o):HOk P w (upd H a o) h':=λb u e=>by
 have hn:=x.fresh hp;by_cases hb:b=a
 ·subst hb;rw[tG]at e;cases e;exact new
 ·rw[tK hb]at e;exact(x b u e).stay (λc v _ q=>k c v q) (λc q=>by rw[tK (vQ q hn)];exact q) λc xs q=>by rw[tK (vQ q hn)];exact q
end
def Rd(H:Hp)(a:Addr)(u:HO):Prop:=H a=some u\/∃o,H a=some (.frz o u)
theorem Rd.ok{P:ay}{w:av}{H:Hp}{h:Heap}{u:HO}(r:Rd H a u)(x:HOk P w H h):uT P w H h a u:=by
 rcases r with r|⟨o,r⟩
 ·exact x a u r
 ·obtain⟨_,q⟩:=x a _ r;exact q
def Mut:Option HO->Prop
 |some (.lst _)=>True
 |some (.dK _)=>True
 |some (.dT _)=>True
 |some (.set _ _)=>True
 |some (.ins _ _ _)=>True
 |some (.ext _)=>True
 |_=>False
section
variable{P:ay}{w:av}{H:Hp}{h h':Heap}{x e:Addr}{o':HO}
theorem HOk.write(ok:HOk P w H h)(mu:Mut (H x))(he:e=x\/H e=some (.own x))(k:∀b u,b≠e->h.get? b=some u->h'.get? b=some u)(heo:∃u,h'.get? e=some u)
  (new:uT P w (upd H x o') h' x o'):HOk P w (upd H x o') h':=λb u q=>by
 have nown:∀c y,H c=some (.own y)->c≠x:=λc y r z=>by subst z;rw[r]at mu;exact mu
 have ntup:∀c xs,H c=some (.tup xs)->c≠x:=λc xs r z=>by subst z;rw[r]at mu;exact mu
 by_cases hb:b=x
 ·subst hb;rw[tG]at q;cases q;exact new
 ·rw[tK hb]at q;by_cases hbe:b=e
  ·have q':H b=some (.own x):=by
    rcases he with z|z
    ·exact ao (hbe.trans z) hb
    ·rw[hbe];exact z
   rw[q]at q';cases q';obtain⟨v,hv⟩:=heo;exact⟨v,by rw[hbe];exact hv⟩
  ·refine(ok b u q).stay (λc v hc r=>k c v ?_ r) (λc r=>by rw[tK (nown c b r)];exact r) λc xs r=>by rw[tK (ntup c xs r)];exact r
   rcases hc with rfl|hc
   ·exact hbe
   ·rintro rfl;rcases he with z|z
    ·exact nown c b hc z
    ·rw[hc]at z;cases z;exact hb rfl
end
structure Un(fs ex:List Addr)(H H':Hp)(h h':Heap):Prop where
 keep:∀b o,h.get? b=some o->H b=none->b∉fs->b∉ex->h'.get? b=some o
 slot:∀b o,h.get? b=some o->H b=none->b∈fs->b∉ex->∃sl,h'.get? b=some { o with slots:=sl }
 free:∀b o,h.get? b=some o->H b=none->b∉ex->H' b=none
 there:∀b o,h.get? b=some o->b∉ex->∃o',h'.get? b=some o'
 tups:∀b xs,H b=some (.tup xs)->H' b=some (.tup xs)
 frzs:∀b o u,H b=some (.frz o u)->H' b=some (.frz o u)
 tbls:∀b ps,H b=some (.tbl ps)->∃more,H' b=some (.tbl (ps++more))
section
variable{fs fs' ex ex':List Addr}{H H1 H2:Hp}{h h1 h2 h':Heap}{a x e:Addr}{o:HO}
theorem Un.any(u:Un fs ex H H1 h h1){ob:Obj}(q:h.get? b=some ob)(n:H b=none)(hx:b∉ex):∃sl,h1.get? b=some { ob with slots:=sl }:=by
 by_cases hb:b∈fs
 ·exact u.slot b ob q n hb hx
 ·exact⟨ob.slots,u.keep b ob q n hb hx⟩
theorem Un.kept(k:∀b u,h.get? b=some u->h'.get? b=some u):Un fs ex H H h h':=
 ⟨λb ob q _ _ _=>k b ob q,λb ob q _ _ _=>⟨ob.slots,k b ob q⟩,λ_ _ _ n _=>n,λb ob q _=>⟨ob,k b ob q⟩,λ_ _ q=>q,λ_ _ _ q=>q,λ_ ps q=>⟨#[],by rw[q];simp⟩⟩
theorem Un.refl:Un fs ex H H h h:=Un.kept λ_ _ q=>q
theorem Un.laid(k:∀b u,h.get? b=some u->h'.get? b=some u)(hp:h.objs.size<=a)(hn:H a=none):Un fs ex H (upd H a o) h h' where
 keep:=λb u q _ _ _=>k b u q
 slot:=λb u q _ _ _=>⟨u.slots,k b u q⟩
 free:=λb u q n _=>by rw[tK (aY (ck (aQ q) hp))];exact n
 there:=λb u q _=>⟨u,k b u q⟩
 tups:=λb xs q=>by rw[tK (vQ q hn)];exact q
 frzs:=λb u xs q=>by rw[tK (vQ q hn)];exact q
 tbls:=λb ps q=>⟨#[],by rw[tK (vQ q hn),q];simp⟩
theorem Un.write(mu:Mut (H x))(he:e=x\/H e=some (.own x))(k:∀b u,b≠e->h.get? b=some u->h'.get? b=some u)(heo:∃u,h'.get? e=some u):Un fs ex H (upd H x o) h h':=by
 have hx:∀b,H b=none->b≠x:=λb n z=>by subst z;rw[n]at mu;exact mu
 have hb:∀b,H b=none->b≠e:=λb n z=>by
  subst z;rcases he with r|r
  ·exact hx b n r
  ·rw[n]at r;cases r
 have hm:∀b u,H b=some u->¬Mut (some u)->b≠x:=λb u q nm z=>by subst z;rw[q]at mu;exact nm mu
 refine⟨λb u q n _ _=>k b u (hb b n) q,λb u q n _ _=>⟨u.slots,k b u (hb b n) q⟩,λb u q n _=>by rw[tK (hx b n)];exact n,λb u q _=>?_,
  λb xs q=>by rw[tK (hm b _ q λz=>z)];exact q,λb u xs q=>by rw[tK (hm b _ q λz=>z)];exact q,λb ps q=>⟨#[],by rw[tK (hm b _ q λz=>z),q];simp⟩⟩
 by_cases hbe:b=e
 ·subst hbe;exact heo
 ·exact⟨u,k b u hbe q⟩
end
def trk(h:Heap)(H:Hp):List Addr:=(bf h.objs.size).filter λa=>(H a).isSome
def IH(h:Heap)(H:Hp):Heap:=W.hideAll h (trk h H)
theorem NM(h:Heap)(H:Hp):(IH h H).objs.size=h.objs.size:=W.hideAll_size _ _
theorem OV{h:Heap}{H:Hp}{o:Obj}(e:h.get? b=some o)(n:H b=none):(IH h H).get? b=some o:=
 W.hideAll_get _ e λhm=>by have q:(H b).isSome=true:=(bo.mp hm).2;rw[n]at q;simp at q
theorem R7{h:Heap}{H:Hp}{o:Obj}(e:(IH h H).get? b=some o):h.get? b=some o/\H b=none:=by
 have e':h.get? b=some o:=W.of_hideAll (trk h H) e;refine⟨e',?_⟩;cases q:H b with
 |none=>rfl
 |some x=>have hm:b∈trk h H:=bo.mpr ⟨bV.mpr (aQ e'),by simp[q]⟩;have z:(IH h H).get? b=none:=W.hideAll_none (trk h H) hm;rw[z]at e;cases e
def R8(g h:Heap)(L:Addr):cp:=(bf h.objs.size).filterMap λa=>if a=L\/(g.get? a).isSome=true then none else (h.get? a).map λo=>(a,o)
def rest(g h:Heap)(L d:Addr):cp:=(R8 g h L).filter λp=>decide (p.1≠d)
structure Mod(K:au)(mg:Str->Option aa)(base:Heap):Prop where
 kin:K.In base
 glob:base.Ns aW mg
 blt:∃mb,base.Ns builtinsNs mb/\∀x:Str,x≠"__name__" -> mb x=dE x
 nolimit:base.NoLimit
structure Cx where
 prog:ay
 w:av
 K:au
 mg:Str->Option aa
 base:Heap
 A:aC
 N:aH
 s₀:ae
 H₀:Hp
 env:Env
 outer:List Env
 stack:List Env
 ex:List Addr
 fn:Str->Bool
 calm:Bool
 pn:cp
 xe:aa->ae->Prop
def frs(l:List Env):List Addr:=l.filterMap (·.frame)
abbrev Cx.fs(X:Cx):List Addr:=frs X.outer
def Vis(sc:cO)(x:Str):Prop:=sc.names.lookup x=some .local\/sc.names.lookup x=some .cell\/sc.names.lookup x=some .free
def Loc(sc:cO)(x:Str):Prop:=sc.names.lookup x=some .local\/sc.names.lookup x=some .cell
def Look(env:Env)(h:Heap)(m:Str->Option aa)(x:Str)(u:aa):Prop:=
 (env.kindOf x=some .local/\m x=some u)\/((env.kindOf x=some .cell\/env.kindOf x=some .free)/\∃c,env.cells.lookup x=some c/\h.IsCell c (some u))
structure Cx.Ok(X:Cx):Prop where
 mod:Mod X.K X.mg X.base
 kind:X.env.scope.kind=.function
 glob:X.env.globals=aW
 blt:X.env.builtins=builtinsNs
 above:X.s₀.heap.objs.size<=X.env.locals
 inj:∀x y c,X.env.cells.lookup x=some c->X.env.cells.lookup y=some c->x=y
 has:∀x,(X.env.kindOf x=some .cell\/X.env.kindOf x=some .free)->∃c,X.env.cells.lookup x=some c
 cab:∀x c,X.fn x=true->X.env.cells.lookup x=some c->X.s₀.heap.objs.size<=c
 hd:X.calm=true->X.A.handled=none
 frames:X.A.frames=some X.stack
 stk:X.stack=X.outer\/(X.stack=X.env::X.outer/\X.env.frame=some X.env.locals)
 exf:∀b∈X.ex,b≠X.env.locals/\∀x c,X.env.cells.lookup x=some c->c≠b
 bs:∀b o,X.base.get? b=some o->X.s₀.heap.get? b=some o/\X.H₀ b=none
 bsz:X.base.objs.size<=X.s₀.heap.objs.size
 noex:∀b o,X.base.get? b=some o->b∉X.ex
 exfs:∀b∈X.ex,b∉X.fs
 funs:X.s₀.heap.FunFrames X.base X.outer
 frf:∀b∈X.fs,X.H₀ b=none
structure Inv(X:Cx)(pins:cp)(σ:List (Option V))(H:Hp)(s:ae):Prop where
 ok:X.Ok
 os:s.os=X.s₀.os
 bare:eA s.gens
 base:Un X.fs X.ex X.H₀ H X.s₀.heap s.heap
 loc:∃m,s.heap.Ns X.env.locals m/\∀(i:Nat) (x:Str) (v:V),X.N[i]?=some x->σ[i]?=some (some v)->Vis X.env.scope x->∃u,RelV v u/\Look X.env s.heap m x u
 cell:∀x c,X.env.cells.lookup x=some c->∃v,s.heap.IsCell c v
 free:H X.env.locals=none
 freeC:∀x c,X.env.cells.lookup x=some c->H c=none
 pin:∀p∈X.pn++pins,s.heap.get? p.1=some p.2/\H p.1=none/\p.1≠X.env.locals/\p.1∉X.fs/\∀v,p.2.data≠.cell v
 hok:HOk X.prog X.w H s.heap
 len:σ.length=X.N.length
variable{g':Array eh}{t' i j:Nat}{d':Drawn}{ch:List Addr}{it:Addr}{N:aH}{x:Str}{M:Model}{E:aa->ae->Prop}{s':ae}
section
variable{X:Cx}{pins:cp}{σ:List (Option V)}{H H':Hp}{s:ae}{h':Heap}
theorem Cx.Ok.nofr(ok:X.Ok){o:Obj}(e:X.base.get? b=some o):b∉X.fs:=λhb=>by have:=(ok.funs.mem hb).1;rw[e]at this;cases this
theorem Inv.bs(I:Inv X pins σ H s):∀b o,X.base.get? b=some o->s.heap.get? b=some o/\H b=none:=λb o e=>
 ⟨I.base.keep b o (I.ok.bs b o e).1 (I.ok.bs b o e).2 (I.ok.nofr e) (I.ok.noex b o e),I.base.free b o (I.ok.bs b o e).1 (I.ok.bs b o e).2 (I.ok.noex b o e)⟩
theorem Inv.bk(I:Inv X pins σ H s):∀b o,X.base.get? b=some o->s.heap.get? b=some o:=λb o e=>(I.bs b o e).1
theorem Inv.mod(I:Inv X pins σ H s):Mod X.K X.mg X.base:=I.ok.mod
theorem Inv.kIn(I:Inv X pins σ H s):X.K.In s.heap:=I.ok.mod.kin.keeps I.bk
theorem Inv.fr(I:Inv X pins σ H s):∃m,Fr X.base X.env.locals s.heap m:=
 let ⟨m,hn,_⟩:=I.loc
 ⟨m,hn,I.bk,bN I.ok.bsz I.ok.above⟩
theorem Inv.lt(I:Inv X pins σ H s):X.env.locals<s.heap.objs.size:=let ⟨_,hn,_⟩:=I.loc;hn.lt
theorem Inv.sz(I:Inv X pins σ H s):X.s₀.heap.objs.size<=s.heap.objs.size:=bN I.ok.above (ix I.lt)
theorem Inv.nofs(I:Inv X pins σ H s)(h:s.heap.objs.size<=a):a∉X.fs:=λhb=>by obtain⟨_,o,ho,_⟩:=I.ok.funs.mem hb;exact ao (ck (aQ ho) (bN I.sz h)) (d7 _)
theorem Inv.cne(I:Inv X pins σ H s):∀x c,X.env.cells.lookup x=some c->c≠X.env.locals:=λx c e z=>by obtain⟨v,o,ho,hd⟩:=I.cell x c e;obtain⟨m,⟨o',es,ep,ho',hd',_⟩,_⟩:=I.loc;rw[z,ho']at ho;cases ho;rw[hd']at hd;cases hd
theorem Inv.funs(I:Inv X pins σ H s):s.heap.FunFrames X.base X.outer:=by
 have all:∀(l:List Env),(∀b∈frs l,b∈X.fs)->X.s₀.heap.FunFrames X.base l->s.heap.FunFrames X.base l:=by
  intro l
  induction l with
  |nil=>intro _ _;trivial
  |cons env r ih=>intro hs hl;obtain⟨hk,⟨L,o,hf,hn,ho,hd⟩,hr⟩:=hl;have hL:L∈X.fs:=hs L (by unfold frs;rw[dS,hf];exact aV);obtain⟨sl,e⟩:=I.base.slot L o ho (I.ok.frf L hL) hL λz=>I.ok.exfs L z hL;exact⟨hk,⟨L,_,hf,hn,e,hd⟩,ih (λb hb=>hs b (by unfold frs;rw[dS,hf];exact ba _ hb)) hr⟩
 exact all X.outer (λ_ hb=>hb) I.ok.funs
theorem Inv.stack(I:Inv X pins σ H s):s.heap.FunFrames X.base X.stack:=by
 rcases I.ok.stk with e|⟨e,hf⟩
 ·rw[e];exact I.funs
 ·rw[e];obtain⟨m,hn,_⟩:=I.loc;refine .cons (by rw[I.ok.kind];decide) hf hn ?_ I.funs;exact Heap.get?_none_of_le (bN I.ok.bsz I.ok.above)
theorem Inv.stkSub(I:Inv X pins σ H s):∀b∈frs X.stack,b∈X.env.locals::X.fs:=λb hb=>by
 rcases I.ok.stk with e|⟨e,hf⟩
 ·rw[e]at hb;exact ba _ hb
 ·rw[e]at hb;unfold frs at hb;rw[dS,hf]at hb;exact hb
theorem Inv.stkFree(I:Inv X pins σ H s):∀b∈frs X.stack,H b=none:=λb hb=>by
 rcases aT.mp (I.stkSub b hb)with e|hb
 ·rw[e];exact I.free
 ·obtain⟨_,o,ho,_⟩:=I.ok.funs.mem hb;exact I.base.free b o ho (I.ok.frf b hb) λz=>I.ok.exfs b z hb
theorem Inv.step(I:Inv X pins σ H s)
  (hch:∀b∈ch,(b∈X.ex\/X.s₀.heap.objs.size<=b)/\b≠X.env.locals/\(∀x c,X.env.cells.lookup x=some c->c≠b)/\∀p∈X.pn++pins,p.1≠b)
  (keep:∀b o,b≠X.env.locals->b∉X.fs->b∉ch->s.heap.get? b=some o->H b=none->h'.get? b=some o)
  (slot:∀b o,b≠X.env.locals->b∈X.fs->b∉ch->s.heap.get? b=some o->H b=none->∃sl,h'.get? b=some { o with slots:=sl }) (free:∀b o,b∉ch->s.heap.get? b=some o->H b=none->H' b=none)
  (there:∀b o,b∉ch->s.heap.get? b=some o->∃o',h'.get? b=some o')
  (tups:∀b xs,H b=some (.tup xs)->H' b=some (.tup xs)) (frzs:∀b o u,H b=some (.frz o u)->H' b=some (.frz o u)) (tbls:∀b ps,H b=some (.tbl ps)->∃more,H' b=some (.tbl (ps++more)))
  (ns:∀m,s.heap.Ns X.env.locals m->h'.Ns X.env.locals m) (hok:HOk X.prog X.w H' h') (hg:eA g'):
  Inv X pins σ H' { s with heap:=h',gens:=g',drawn:=d',toks:=t' }:=by
 have neL:∀b o,X.s₀.heap.get? b=some o->b≠X.env.locals:=λb o e=>aY (ck (aQ e) I.ok.above);have neC:∀b o,X.s₀.heap.get? b=some o->b∉X.ex->b∉ch:=λb o e hx hb=>by
  rcases(hch b hb).1 with z|z
  ·exact hx z
  ·exact ao (ck (aQ e) z) (d7 _)
 have cellK:∀x c,X.env.cells.lookup x=some c->∀v,s.heap.IsCell c v->h'.IsCell c v:=λx c e v ⟨o,ho,hd⟩=>by
  have nch:c∉ch:=λz=>(hch c z).2.2.1 x c e rfl;by_cases hc:c∈X.fs
  ·obtain⟨sl,q⟩:=slot c o (I.cne x c e) hc nch ho (I.freeC x c e);exact⟨_,q,hd⟩
  ·exact⟨o,keep c o (I.cne x c e) hc nch ho (I.freeC x c e),hd⟩
 refine⟨I.ok,I.os,hg,⟨λb o e n hb hx=>?_,λb o e n hb hx=>?_,λb o e n hx=>?_,λb o e hx=>?_,λb xs e=>tups b xs (I.base.tups b xs e),λb o xs e=>frzs b o xs (I.base.frzs b o xs e),λb ps e=>?_⟩,?_,λx c e=>?_,?_,λx c e=>?_,λp hp=>?_,hok,I.len⟩
 ·exact keep b o (neL b o e) hb (neC b o e hx) (I.base.keep b o e n hb hx) (I.base.free b o e n hx)
 ·obtain⟨sl,e1⟩:=I.base.slot b o e n hb hx;obtain⟨sl',e2⟩:=slot b _ (neL b o e) hb (neC b o e hx) e1 (I.base.free b o e n hx);exact⟨sl',e2⟩
 ·obtain⟨o',e1⟩:=I.base.there b o e hx;exact free b o' (neC b o e hx) e1 (I.base.free b o e n hx)
 ·obtain⟨o',e1⟩:=I.base.there b o e hx;exact there b o' (neC b o e hx) e1
 ·obtain⟨m1,e1⟩:=I.base.tbls b ps e;obtain⟨m2,e2⟩:=tbls b _ e1;exact⟨m1++m2,by rw[e2,Array.append_assoc]⟩
 ·obtain⟨m,hn,hl⟩:=I.loc;refine⟨m,ns m hn,λi x v e1 e2 e3=>?_⟩;obtain⟨u,r,l⟩:=hl i x v e1 e2 e3;refine⟨u,r,?_⟩;rcases l with l|⟨k,c,e,z⟩
  ·exact .inl l
  ·exact .inr ⟨k,c,e,cellK x c e _ z⟩
 ·obtain⟨v,z⟩:=I.cell x c e;exact⟨v,cellK x c e v z⟩
 ·obtain⟨m,⟨o,_,_,ho,_⟩,_⟩:=I.loc;exact free _ o (λz=>(hch _ z).2.1 rfl) ho I.free
 ·obtain⟨v,o,ho,hd⟩:=I.cell x c e;exact free c o (λz=>(hch c z).2.2.1 x c e rfl) ho (I.freeC x c e)
 ·obtain⟨e,n,ne,nf,d⟩:=I.pin p hp;have nch:p.1∉ch:=λz=>(hch p.1 z).2.2.2 p hp rfl;exact⟨keep p.1 p.2 ne nf nch e n,free p.1 p.2 nch e n,ne,nf,d⟩
theorem Inv.un(I:Inv X pins σ H s)(u:Un X.fs [] H H' s.heap h')(hok:HOk X.prog X.w H' h'):Inv X pins σ H' { s with heap:=h',toks:=t' }:=by
 obtain⟨m,⟨o,es,ep,ho,r⟩,_⟩:=id I.loc;obtain⟨sl,hL⟩:=u.any ho I.free (by simp);exact I.step (g':=s.gens) (d':=s.drawn) (ch:=[]) (λ_ z=>nomatch z) (λb o _ hb _ e n=>u.keep b o e n hb (by simp)) (λb o _ hb _ e n=>u.slot b o e n hb (by simp)) (λb o _ e n=>u.free b o e n (by simp)) (λb o _ e=>u.there b o e (by simp)) u.tups u.frzs u.tbls (λm' hm=>by
  obtain⟨o',es',ep',ho',r'⟩:=hm;rw[ho]at ho';cases ho';exact⟨_,es',ep',hL,r'⟩) hok I.bare
theorem Inv.call(I:Inv X pins σ H s)(u:Un (frs X.stack) ch H H' s.heap h')(hok:HOk X.prog X.w H' h')(hg:eA g')
  (hch:∀b∈ch,(b∈X.ex\/X.s₀.heap.objs.size<=b)/\b≠X.env.locals/\(∀x c,X.env.cells.lookup x=some c->c≠b)/\∀p∈X.pn++pins,p.1≠b):
  Inv X pins σ H' { s with heap:=h',gens:=g',drawn:=d',toks:=t' }:=by
 obtain⟨m,⟨o,es,ep,ho,r⟩,_⟩:=id I.loc;obtain⟨sl,hL⟩:=u.any ho I.free λz=>(hch _ z).2.1 rfl;exact I.step (ch:=ch) hch (λb o hL hb hc e n=>u.keep b o e n (λz=>(aT.mp (I.stkSub b z)).elim hL hb) hc) (λb o _ _ hc e n=>u.any e n hc) (λb o hc e n=>u.free b o e n hc) (λb o hc e=>u.there b o e hc) u.tups u.frzs u.tbls (λm' hm=>by
  obtain⟨o',es',ep',ho',r'⟩:=hm;rw[ho]at ho';cases ho';exact⟨_,es',ep',hL,r'⟩) hok hg
theorem Inv.turned(I:Inv X pins σ H s)(k:∀b o,b≠it->s.heap.get? b=some o->h'.get? b=some o)(hn:H it=none)(hL:it≠X.env.locals)
  (h1:it∈X.ex\/X.s₀.heap.objs.size<=it) (h2:∀x c,X.env.cells.lookup x=some c->c≠it) (h3:∀p∈X.pn++pins,p.1≠it):Inv X pins σ H { s with heap:=h',toks:=t' }:=by
 have nit:∀b u,H b=some u->b≠it:=λb u e z=>by rw[z,hn]at e;cases e
 refine I.step (g':=s.gens) (d':=s.drawn) (ch:=[it]) (λb hb=>?_) (λb o _ _ hc e _=>k b o (λz=>hc (by simp[z])) e) (λb o _ _ hc e _=>⟨o.slots,k b o (λz=>hc (by simp[z])) e⟩) (λ_ _ _ _ n=>n)
  (λb o hc e=>⟨o,k b o (λz=>hc (by simp[z])) e⟩) (λ_ _ e=>e) (λ_ _ _ e=>e) (λb ps e=>⟨#[],by rw[e];simp⟩) (λm hm=>?_) (λb u e=>?_) I.bare
 ·have e:b=it:=by simpa using hb
  subst e;exact⟨h1,hL,h2,h3⟩
 ·obtain⟨o,es,ep,ho,r⟩:=hm;exact⟨o,es,ep,k _ o (cZ hL) ho,r⟩
 ·refine(I.hok b u e).stay (λc v hc q=>k c v ?_ q) (λ_ q=>q) λ_ _ q=>q;rcases hc with z|z
  ·rw[z];exact nit b u e
  ·exact nit c _ z
theorem Inv.tok(I:Inv X pins σ H s)(t:Nat):Inv X pins σ H { s with toks:=t }:=I.un (h':=s.heap) (t':=t) Un.refl I.hok
theorem Inv.kept(I:Inv X pins σ H s)(k:∀b u,s.heap.get? b=some u->h'.get? b=some u):Inv X pins σ H { s with heap:=h',toks:=t' }:=I.un (Un.kept k) (I.hok.kept k)
theorem Inv.laid(I:Inv X pins σ H s)(k:∀b u,s.heap.get? b=some u->h'.get? b=some u)(hp:s.heap.objs.size<=a)(new:uT X.prog X.w (upd H a o) h' a o):
  Inv X pins σ (upd H a o) { s with heap:=h',toks:=t' }:=I.un (Un.laid k hp (I.hok.fresh hp)) (I.hok.laid k hp new)
theorem Inv.write{x e:Addr}(I:Inv X pins σ H s)(mu:Mut (H x))(he:e=x\/H e=some (.own x))(k:∀b u,b≠e->s.heap.get? b=some u->h'.get? b=some u)(heo:∃u,h'.get? e=some u)
  (new:uT X.prog X.w (upd H x o) h' x o):Inv X pins σ (upd H x o) { s with heap:=h',toks:=t' }:=I.un (Un.write mu he k heo) (I.hok.write mu he k heo new)
theorem Inv.weak{σ':List (Option V)}(I:Inv X pins σ H s)(hl:σ'.length=σ.length)(w:∀(i:Nat) v,σ'[i]?=some (some v)->σ[i]?=some (some v)):Inv X pins σ' H s:=
 ⟨I.ok,I.os,I.bare,I.base,let ⟨m,hn,hl'⟩:=I.loc;⟨m,hn,λi x v e1 e2 e3=>hl' i x v e1 (w i v e2) e3⟩,I.cell,I.free,I.freeC,I.pin,I.hok,hl.trans I.len⟩
theorem Inv.pins_of{pins':cp}(I:Inv X pins σ H s)(h:∀p∈pins',s.heap.get? p.1=some p.2/\H p.1=none/\p.1≠X.env.locals/\p.1∉X.fs/\∀v,p.2.data≠.cell v):Inv X pins' σ H s:=
 ⟨I.ok,I.os,I.bare,I.base,I.loc,I.cell,I.free,I.freeC,λp hp=>(bC.mp hp).elim (λz=>I.pin p (cj _ z)) (h p),I.hok,I.len⟩
theorem JM(hN:N.Nodup)(a:N[i]?=some x)(b:N[j]?=some x):i=j:=by obtain⟨h1,e1⟩:=b0.mp a;obtain⟨h2,e2⟩:=b0.mp b;exact(kC hN).mp (e1.trans e2.symm)
theorem NN{A:aC}{v:V}{Q:Unit->ae->Prop}(I:Inv X pins σ H s)(hN:X.N.Nodup)(hi:X.N[i]?=some x)(hx:Loc X.env.scope x)(r:RelV v u)
  (h:∀s',Inv X pins (σ.set i (some v)) H s'->(∃a,dF a s.heap s'.heap/\(a=X.env.locals\/X.env.cells.lookup x=some a))->Q () s') (hf:X.fn x=true\/X.env.scope.names.lookup x=some .local:=by first|exact .inl rfl|exact .inr rfl|assumption):ai M A (storeName X.env x u) Q E s:=by
 obtain⟨m,hn,hl⟩:=id I.loc;have hcls:(X.env.scope.kind==.class||(X.env.scope.kind==.module&&X.env.locals != X.env.globals))=false:=by rw[I.ok.kind];rfl
 have hiσ:i<σ.length:=by rw[I.len];exact(b0.mp hi).1
 have cne:=I.cne;have tracked:∀{a:Addr} {h':Heap},(∃o,s.heap.get? a=some o/\H a=none)->dF a s.heap h'->HOk X.prog X.w H h':=λ{a h'} ha hs b ob e=>by
  obtain⟨_,_,hfree⟩:=ha;refine(I.hok b ob e).stay (λc w' hc q=>(hs.2 c ?_).trans q) (λ_ q=>q) λ_ _ q=>q;rintro rfl;rcases hc with rfl|hc
  ·rw[hfree]at e;cases e
  ·rw[hfree]at hc;cases hc
 rcases hx with hk|hk
 ·refine wpAny_storeName_local hk hn (λh' hn' hs=>?_) hcls;obtain⟨oL,_,_,hoL,_⟩:=id hn;refine h _ ⟨I.ok,I.os,I.bare,⟨λb o e n hb hx=>?_,λb o e n hb hx=>?_,I.base.free,λb o e hx=>?_,I.base.tups,I.base.frzs,I.base.tbls⟩,⟨_,hn',λj y v' e1 e2 e3=>?_⟩,λy c e=>?_,I.free,I.freeC,λp hp=>?_,tracked ⟨oL,hoL,I.free⟩ hs,by simpa using I.len⟩ ⟨_,hs,.inl rfl⟩
  ·exact(hs.2 b (aY (ck (aQ e) I.ok.above))).trans (I.base.keep b o e n hb hx)
  ·obtain⟨sl,e1⟩:=I.base.slot b o e n hb hx;exact⟨sl,(hs.2 b (aY (ck (aQ e) I.ok.above))).trans e1⟩
  ·obtain⟨o',e1⟩:=I.base.there b o e hx;exact⟨o',(hs.2 b (aY (ck (aQ e) I.ok.above))).trans e1⟩
  ·by_cases hj:j=i
   ·subst hj;rw[hi]at e1;cases e1;rw[i7 hiσ]at e2;cases e2;exact⟨u,r,.inl ⟨hk,by simp⟩⟩
   ·rw[j8 (cZ hj)]at e2;obtain⟨u',r',q⟩:=hl j y v' e1 e2 e3;refine⟨u',r',?_⟩;rcases q with ⟨k,e⟩|⟨k,c,e,z⟩
    ·refine .inl ⟨k,?_⟩;have:y≠x:=λe=>hj (JM hN e1 (e▸hi));simp[this,e]
    ·exact .inr ⟨k,c,e,z.sameBut hs (cne y c e)⟩
  ·obtain⟨w',z⟩:=I.cell y c e;exact⟨w',z.sameBut hs (cne y c e)⟩
  ·obtain⟨e,n,ne,nf,d⟩:=I.pin p hp;exact⟨(hs.2 p.1 ne).trans e,n,ne,nf,d⟩
 ·have hfn:X.fn x=true:=by
   rcases hf with z|z
   ·exact z
   ·rw[z]at hk;cases hk
  obtain⟨c,hc⟩:=I.ok.has x (.inl hk);obtain⟨w',z⟩:=I.cell x c hc;refine wpAny_storeName_cell I.ok.kind hk hc z (λh' hc' hs=>?_);obtain⟨oc,hoc,hocd⟩:=id z;refine h { s with heap:=h' } ⟨I.ok,I.os,I.bare,⟨λb o e n hb hx=>?_,λb o e n hb hx=>?_,I.base.free,λb o e hx=>?_,I.base.tups,I.base.frzs,I.base.tbls⟩,⟨m,hn.sameBut hs (cZ (cne x c hc)),λj y v' e1 e2 e3=>?_⟩,λy c' e=>?_,I.free,I.freeC,λp hp=>?_,tracked ⟨oc,hoc,I.freeC x c hc⟩ hs,by simpa using I.len⟩ ⟨c,hs,.inr hc⟩
  ·exact(hs.2 b (aY (ck (aQ e) (I.ok.cab x c hfn hc)))).trans (I.base.keep b o e n hb hx)
  ·obtain⟨sl,e1⟩:=I.base.slot b o e n hb hx;exact⟨sl,(hs.2 b (aY (ck (aQ e) (I.ok.cab x c hfn hc)))).trans e1⟩
  ·obtain⟨o',e1⟩:=I.base.there b o e hx;exact⟨o',(hs.2 b (aY (ck (aQ e) (I.ok.cab x c hfn hc)))).trans e1⟩
  ·by_cases hj:j=i
   ·subst hj;rw[hi]at e1;cases e1;rw[i7 hiσ]at e2;cases e2;exact⟨u,r,.inr ⟨.inl hk,c,hc,hc'⟩⟩
   ·rw[j8 (cZ hj)]at e2;obtain⟨u',r',q⟩:=hl j y v' e1 e2 e3;refine⟨u',r',?_⟩;rcases q with q|⟨k,c',e,z'⟩
    ·exact .inl q
    ·refine .inr ⟨k,c',e,z'.sameBut hs ?_⟩;rintro rfl;exact hj (JM hN e1 (I.ok.inj _ _ _ e hc▸hi))
  ·by_cases hcc:c'=c
   ·subst hcc;exact⟨_,hc'⟩
   ·obtain⟨w2,z2⟩:=I.cell y c' e;exact⟨w2,z2.sameBut hs hcc⟩
  ·obtain⟨e,n,ne,nf,d⟩:=I.pin p hp;refine⟨(hs.2 p.1 ?_).trans e,n,ne,nf,d⟩;intro q;rw[q,hoc]at e;have q':oc=p.2:=cw e;exact d w' (by rw[<-q'];exact hocd)
theorem JN{A:aC}{v:V}{Q:Unit->ae->Prop}(I:Inv X pins σ H s)(hN:X.N.Nodup)(hi:X.N[i]?=some x)(hx:Loc X.env.scope x)(r:RelV v u)
  (h:∀s',Inv X pins (σ.set i (some v)) H s'->Q () s') (hf:X.fn x=true\/X.env.scope.names.lookup x=some .local:=by first|exact .inl rfl|exact .inr rfl|assumption):ai M A (storeName X.env x u) Q E s:=
 NN I hN hi hx r (λs' I' _=>h s' I') hf
theorem Inv.call'(I:Inv X pins σ H s)(ho:s'.os=s.os)(u:Un (frs X.stack) ch H H' s.heap s'.heap)(hok:HOk X.prog X.w H' s'.heap)(hg:eA s'.gens)
  (hch:∀b∈ch,(b∈X.ex\/X.s₀.heap.objs.size<=b)/\b≠X.env.locals/\(∀x c,X.env.cells.lookup x=some c->c≠b)/\∀p∈X.pn++pins,p.1≠b):Inv X pins σ H' s':=by
 obtain⟨h',g',d',t',o'⟩:=s';have e:o'=s.os:=ho;subst e;exact I.call (g':=g') (t':=t') (d':=d') u hok hg hch
end
abbrev XK:=aa->Option Addr->Hp->Prop
abbrev St:=List (Option V)
abbrev VK:=V->Hp->Prop
abbrev TE:=St->Hp->VK->Prop
abbrev TT:=St->Hp->(Bool->Hp->Prop)->Prop
abbrev TA:=St->Hp->(bA->Hp->Prop)->Prop
structure Ends where
 nx:St->Hp->Prop
 rt:VK
 bk:St->Hp->Prop:=λ_ _=>False
 ct:St->Hp->Prop:=λ_ _=>False
abbrev TS:=Ends->St->Hp->Prop
def EP(X:Cx)(pins:cp)(σ:St)(Q:VK)(u:aa)(s':ae):Prop:=∃v H',Inv X pins σ H' s'/\RelV v u/\Q v H'
def TP(X:Cx)(pins:cp)(σ:St)(Q:Bool->Hp->Prop)(b:Bool)(s':ae):Prop:=∃H',Inv X pins σ H' s'/\Q b H'
def AP(X:Cx)(pins:cp)(σ:St)(Q:bA->Hp->Prop)(us:List aa)(s':ae):Prop:=∃vs H',Inv X pins σ H' s'/\Vals vs us/\Q vs H'
def SP(X:Cx)(pins:cp)(D:Ends)(f:Flow)(s':ae):Prop:=
 match f with
 |.next=>∃σ' H',Inv X pins σ' H' s'/\D.nx σ' H'
 |.brk=>∃σ' H',Inv X pins σ' H' s'/\D.bk σ' H'
 |.cont=>∃σ' H',Inv X pins σ' H' s'/\D.ct σ' H'
 |.ret u=>∃v σ' H',Inv X pins σ' H' s'/\RelV v u/\D.rt v H'
def PE(X:Cx)(e:Expr)(t:TE):Prop:=
 ∀(pins:cp) (s:ae) (σ:St) (H:Hp) (Q:VK),Inv X pins σ H s->t σ H Q->ai (model X.prog X.w) X.A (eval e X.env) (EP X pins σ Q) X.xe s
def PT(X:Cx)(e:Expr)(t:TT):Prop:=
 ∀(pins:cp) (s:ae) (σ:St) (H:Hp) (Q:Bool->Hp->Prop),Inv X pins σ H s->t σ H Q->ai (model X.prog X.w) X.A (isTrue e X.env (eval e X.env)) (TP X pins σ Q) X.xe s
def PW(X:Cx)(e:Expr)(t:TT):Prop:=
 ∀(whole:Sem aa) (pins:cp) (s:ae) (σ:St) (H:Hp) (Q:Bool->Hp->Prop),Inv X pins σ H s->t σ H Q->ai (model X.prog X.w) X.A (isTrue e X.env whole) (TP X pins σ Q) X.xe s
variable{X:Cx}{e:Expr}
theorem PW.pt{t:TT}(h:PW X e t):PT X e t:=h _
def PA(X:Cx)(es:List Expr)(t:TA):Prop:=
 ∀(pos:Pos) (pins:cp) (s:ae) (σ:St) (H:Hp) (Q:bA->Hp->Prop),Inv X pins σ H s->t σ H Q->ai (model X.prog X.w) X.A (spliced (bD pos (aE es X.env))) (AP X pins σ Q) X.xe s
def PS(X:Cx)(st:Stmt)(t:TS):Prop:=
 ∀(pins:cp) (s:ae) (σ:St) (H:Hp) (D:Ends),Inv X pins σ H s->t D σ H->ai (model X.prog X.w) X.A (exec st X.env) (SP X pins D) X.xe s
def PSs(X:Cx)(st:List Stmt)(t:TS):Prop:=
 ∀(pins:cp) (s:ae) (σ:St) (H:Hp) (D:Ends),Inv X pins σ H s->t D σ H->ai (model X.prog X.w) X.A (execs st X.env) (SP X pins D) X.xe s
theorem thn{α:Type}{t:Sem α}{Q Q':α->ae->Prop}{A:aC}{s:ae}(h:ai M A t Q E s)(hQ:∀a s,Q a s->Q' a s):ai M A t Q' E s:=bX h hQ λ_ _ x=>x
variable{pins:cp}{σ:St}{R:V->V->Hp->Prop}{pos:Pos}{Q:aa->ae->Prop}{op:fX}{t:TE}{c:Expr}
section
variable{X:Cx}
theorem bin{a b:Expr}{ta tb:TE}(ha:PE X a ta)(hb:PE X b tb){s:ae}{H:Hp}(I:Inv X pins σ H s)(h:ta σ H λx H1=>tb σ H1 λy H2=>R x y H2)
  {α:Type} {Q:α->ae->Prop} {f:aa->aa->Sem α}
  (hf:∀v u s2 x y H2,Inv X pins σ H2 s2->RelV x v->RelV y u->R x y H2->ai (model X.prog X.w) X.A (f v u) Q X.xe s2):
  ai (model X.prog X.w) X.A (eval a X.env) (λv s₁=>ai (model X.prog X.w) X.A (eval b X.env) (λu s₂=>ai (model X.prog X.w) X.A (f v u) Q X.xe s₂) X.xe s₁) X.xe s:=by
 refine thn (ha pins s σ H _ I h) λv s1 zz=>?_;obtain⟨x,H1,I1,r1,q1⟩:=zz;refine thn (hb pins s1 σ H1 _ I1 q1) λu s2 zz=>?_;obtain⟨y,H2,I2,r2,q2⟩:=zz;exact hf v u s2 x y H2 I2 r1 r2 q2
def zR(i:Nat):TE:=λσ H Q=>∃v,σ[i]?=some (some v)/\Q v H
def tC(v:V):TE:=λ_ H Q=>Q v H
theorem Vr(hN:X.N[i]?=some x)(hv:Vis X.env.scope x)(hd:(x==("__debug__" : Str))=false:=by decide)(hcd:(x==("__classdict__" : Str))=false:=by decide):PE X (.Name x pos) (zR i):=by
 intro pins s σ H Q I h;obtain⟨v,e,h⟩:=h;obtain⟨m,hn,hl⟩:=I.loc;obtain⟨u,r,l⟩:=hl i x v hN e hv;have fin:EP X pins σ Q u s:=⟨v,H,I,r,h⟩;rcases l with ⟨hk,hm⟩|⟨hk,c,hc,hcell⟩
 ·exact lQ (wpAny_loadName_local I.ok.kind hk hn hm fin) hd
 ·rcases hk with hk|hk
  ·exact lQ (wpAny_loadName_cell I.ok.kind hk hc hcell fin) hd
  ·exact lQ (wpAny_loadName_free I.ok.kind hk hc hcell fin hcd) hd
theorem La{i j pos}:PE X (.Constant (.int i) j pos) (tC (.int i)):=λ_ _ _ H _ I h=>wpAny_Constant_int ⟨.int i,H,I.tok _,⟨_,rfl⟩,h⟩
theorem Zf{b j pos}:PE X (.Constant (.bool b) j pos) (tC (.bl b)):=λ_ _ _ H _ I h=>Constant_bool ⟨.bl b,H,I,rfl,h⟩
theorem Vs{j pos}:PE X (.Constant .none j pos) (tC .non):=λ_ _ _ H _ I h=>Constant_none ⟨.non,H,I,rfl,h⟩
theorem OW{x j pos}:PE X (.Constant (.str x) j pos) (tC (.str x)):=λ_ _ _ H _ I h=>Calls.Constant_str ⟨.str x,H,I.tok _,⟨_,rfl⟩,h⟩
def Gl(X:Cx)(x:Str):Prop:=X.env.kindOf x=some .globalImplicit
theorem EU{s:ae}{H:Hp}(I:Inv X pins σ H s)(hg:Gl X x)(hm:X.mg x=some u)(h:Q u s)
  (hd:(x==("__debug__" : Str))=false:=by decide):ai (model X.prog X.w) X.A (eval (.Name x pos) X.env) Q E s:=
 mJ I.ok.kind hg (Calls.loadGlobal_global (by rw[I.ok.glob];exact I.mod.glob.keeps I.bk) hm h) hd
theorem zS{s:ae}{H:Hp}(I:Inv X pins σ H s)(hg:Gl X x)(hm:X.mg x=none)(hv:dE x=some u)(h:Q u s)
  (hn:x≠"__name__" := by decide) (hd:(x==("__debug__" : Str))=false:=by decide):ai (model X.prog X.w) X.A (eval (.Name x pos) X.env) Q E s:=by
 obtain⟨mb,h1,h2⟩:=I.mod.blt;exact mJ I.ok.kind hg (Calls.loadGlobal_builtin (by rw[I.ok.glob];exact I.mod.glob.keeps I.bk) hm (by rw[I.ok.blt];exact h1.keeps I.bk) ((h2 x hn).trans hv) h) hd
theorem Mp{v:V}(hg:Gl X x)(hm:X.mg x=some u)(r:RelV v u)(hd:(x==("__debug__" : Str))=false:=by decide):PE X (.Name x pos) (tC v):=
 λ_ _ _ H _ I h=>EU I hg hm ⟨v,H,I,r,h⟩ hd
theorem R9{v:V}(hg:Gl X x)(hm:X.mg x=none)(hv:dE x=some u)(r:RelV v u)(hn:x≠"__name__" := by decide)(hd:(x==("__debug__" : Str))=false:=by decide):PE X (.Name x pos) (tC v):=
 λ_ _ _ H _ I h=>zS I hg hm hv ⟨v,H,I,r,h⟩ hn hd
variable{a b:Expr}{ta tb:TE}{pos:Pos}
def PC(X:Cx)(op:fX)(a b:Expr)(t:TE):Prop:=
 ∀(pins:cp) (s:ae) (σ:St) (H:Hp) (Q:VK),Inv X pins σ H s->t σ H Q->
  ai (model X.prog X.w) X.A (eval a X.env) (λv s₁=>ai (model X.prog X.w) X.A (eval b X.env) (λu s₂=>ai (model X.prog X.w) X.A (bq op v u) (EP X pins σ Q) X.xe s₂) X.xe s₁) X.xe s
def tB(t:TE):TT:=λσ H Q=>t σ H λx H1=>∃c,x=.bl c/\Q c H1
theorem aaW(h:PC X op a b t)(h1:fM op b=false:=by first|exact nobehind _ (by decide) (by decide)|rfl):PT X (.Compare a [op] [b] pos) (tB t):=by intro pins s σ H Q I hw;refine m3 (thn (h pins s σ H _ I hw) λv s1 h1=>thn h1 λu s2 h2=>thn h2 λc s3 zz=>?_) h1;obtain⟨x,H1,I1,r1,q1⟩:=zz;obtain⟨d,rfl,q⟩:=q1;cases r1;exact c8 ⟨H1,I1,q⟩
theorem Vt(h:PE X e t)(he:∀whole,isTrue e X.env whole=(do let v<-whole;standAt e.pos;holding [v] (truthy v)):=by intro _;rfl):PT X e (tB t):=by intro pins s σ H Q I hw;refine isTrue_plain (thn (h pins s σ H _ I hw) λv s1 zz=>?_) (he _);obtain⟨x,H1,I1,r1,q1⟩:=zz;obtain⟨d,rfl,q⟩:=q1;cases r1;exact c8 ⟨H1,I1,q⟩
variable{tA tB':TT}{rest:List Expr}
def Zg(t u:TT):TT:=λσ H Q=>t σ H λc H1=>if c=true then u σ H1 Q else Q false H1
def tOr(t u:TT):TT:=λσ H Q=>t σ H λc H1=>if c=true then Q true H1 else u σ H1 Q
def tNot(t:TT):TT:=λσ H Q=>t σ H λc H1=>Q (!c) H1
theorem Sa(ha:PT X a tA):PW X (.BoolOp .And [a] pos) tA:=by
 intro wh pins s σ H Q I h;refine isTrue_and (thn (ha pins s σ H Q I h) λc s1 e=>?_);cases c with
 |true=>exact isTrue_and_nil e
 |false=>exact e
theorem Vu(ha:PT X a tA):PW X (.BoolOp .Or [a] pos) tA:=by
 intro wh pins s σ H Q I h;refine isTrue_or (thn (ha pins s σ H Q I h) λc s1 e=>?_);cases c with
 |false=>exact isTrue_or_nil e
 |true=>exact e
theorem Vv(ha:PT X a tA)(hb:PW X (.BoolOp .And (b::rest) pos) tB'):PW X (.BoolOp .And (a::b::rest) pos) (Zg tA tB'):=by
 intro wh pins s σ H Q I h;refine isTrue_and (thn (ha pins s σ H _ I h) λc s1 zz=>?_);obtain⟨H1,I1,q1⟩:=zz;cases c with
 |true=>exact hb wh pins s1 σ H1 Q I1 q1
 |false=>exact⟨H1,I1,q1⟩
theorem Zh(ha:PT X a tA)(hb:PW X (.BoolOp .Or (b::rest) pos) tB'):PW X (.BoolOp .Or (a::b::rest) pos) (tOr tA tB'):=by
 intro wh pins s σ H Q I h;refine isTrue_or (thn (ha pins s σ H _ I h) λc s1 zz=>?_);obtain⟨H1,I1,q1⟩:=zz;cases c with
 |true=>exact⟨H1,I1,q1⟩
 |false=>exact hb wh pins s1 σ H1 Q I1 q1
theorem Vw(ha:PT X a tA):PT X (.UnaryOp .Not a pos) (tNot tA):=by intro pins s σ H Q I h;exact isTrue_not (ha pins s σ H (λc H1=>Q (!c) H1) I h)
def Zi(ta tb:TE):TE:=λσ H Q=>ta σ H λx H1=>∃c,x=.bl c/\if c=true then tb σ H1 Q else Q (.bl false) H1
def tOrV(ta tb:TE):TE:=λσ H Q=>ta σ H λx H1=>∃c,x=.bl c/\if c=true then Q (.bl true) H1 else tb σ H1 Q
def Zj(ta:TE):TE:=λσ H Q=>ta σ H λx H1=>∃c,x=.bl c/\Q (.bl (!c)) H1
theorem Vx{op}(h:PE X a t):PE X (.BoolOp op [a] pos) t:=λpins s σ H Q I hw=>BoolOp_one (h pins s σ H Q I hw)
theorem Vy(ha:PE X a ta)(hb:PE X (.BoolOp .And (b::rest) pos) tb):PE X (.BoolOp .And (a::b::rest) pos) (Zi ta tb):=by
 intro pins s σ H Q I h;refine BoolOp_and (thn (ha pins s σ H _ I h) λv s1 zz=>?_);obtain⟨x,H1,I1,r1,q1⟩:=zz;obtain⟨c,rfl,q1⟩:=q1;cases r1;refine c8 ?_;cases c with
 |true=>exact hb pins s1 σ H1 Q I1 q1
 |false=>exact⟨.bl false,H1,I1,rfl,q1⟩
theorem Zk(ha:PE X a ta)(hb:PE X (.BoolOp .Or (b::rest) pos) tb):PE X (.BoolOp .Or (a::b::rest) pos) (tOrV ta tb):=by
 intro pins s σ H Q I h;refine BoolOp_or (thn (ha pins s σ H _ I h) λv s1 zz=>?_);obtain⟨x,H1,I1,r1,q1⟩:=zz;obtain⟨c,rfl,q1⟩:=q1;cases r1;refine c8 ?_;cases c with
 |false=>exact hb pins s1 σ H1 Q I1 q1
 |true=>exact⟨.bl true,H1,I1,rfl,q1⟩
theorem Vz(ha:PE X a ta):PE X (.UnaryOp .Not a pos) (Zj ta):=by intro pins s σ H Q I h;refine UnaryOp_ (thn (ha pins s σ H _ I h) λv s1 zz=>?_);obtain⟨x,H1,I1,r1,q1⟩:=zz;obtain⟨c,rfl,q1⟩:=q1;cases r1;exact not_of (c8 ⟨.bl (!c),H1,I1,rfl,q1⟩)
def tIf(t:TT)(ta tb:TE):TE:=λσ H Q=>t σ H λc H1=>if c=true then ta σ H1 Q else tb σ H1 Q
theorem OX(hc:PT X c tA)(ha:PE X a ta)(hb:PE X b tb):PE X (.IfExp c a b pos) (tIf tA ta tb):=by
 intro pins s σ H Q I h;refine wpAny_IfExp (thn (hc pins s σ H _ I h) λd s1 zz=>?_);obtain⟨H1,I1,q1⟩:=zz;cases d with
 |true=>exact ha pins s1 σ H1 Q I1 q1
 |false=>exact hb pins s1 σ H1 Q I1 q1
end
def SqL(K:au)(H:Hp)(a:Addr)(xs:bA):Prop:=
 Rd H a (.lst xs)\/
  ∃(o:Obj) (its:Array aa) (n:Nat),K.lookup a=some o/\o.cls=.type "list" /\ o.dict=none/\o.data=.seq its n/\its.size<=aG/\Vals xs its.toList
def SqT(K:au)(H:Hp)(a:Addr)(xs:bA):Prop:=
 Rd H a (.tup xs)\/
  ∃(o:Obj) (its:Array aa) (n:Nat),K.lookup a=some o/\o.cls=.type "tuple" /\ o.data=.seq its n/\its.size<=aG/\Vals xs its.toList
def absV:aa->Option V
 |.none=>some .non
 |.bool b=>some (.bl b)
 |.int i _=>some (.int i)
 |.str x _=>some (.str x)
 |.bytes b _=>some (.byt b)
 |.float b _=>some (.flt b)
 |.ref a=>some (.ref a)
 |.type n=>some (.ty n)
 |_=>none
theorem RelV.abs{x:V}(r:RelV x u):absV u=some x:=by
 cases x with
 |non=>cases r;rfl
 |bl _=>cases r;rfl
 |int _=>obtain⟨t,rfl⟩:=r;rfl
 |str _=>obtain⟨t,rfl⟩:=r;rfl
 |byt _=>obtain⟨t,rfl⟩:=r;rfl
 |flt _=>obtain⟨t,rfl⟩:=r;rfl
 |ref _=>cases r;rfl
 |ty _=>cases r;rfl
variable{y:V}
theorem RelV.inj{x:V}(r:RelV x u)(q:RelV y u):x=y:=cw (r.abs.symm.trans q.abs)
theorem Vals.inj:∀{xs ys:bA} {us:List aa},Vals xs us->Vals ys us->xs=ys
 |_,_,_,.nil,.nil=>rfl
 |_,_,_,.cons r t,.cons r' t'=>by rw[r.inj r',Vals.inj t t']
section
variable{X:Cx}{pins:cp}{σ:St}{H:Hp}{s:ae}{a:Addr}{xs ys:bA}
theorem SqL.of{K:au}(h:H a=some (.lst xs)):SqL K H a xs:=.inl (.inl h)
theorem SqT.of{K:au}(h:H a=some (.tup xs)):SqT K H a xs:=.inl (.inl h)
theorem Inv.list(I:Inv X pins σ H s)(h:SqL X.K H a xs):∃its:List aa,Vals xs its/\PlainL s.heap a its.toArray/\xs.length<=aG:=by
 rcases h with h|⟨o,its,n,hk,hc,hd,hs,hz,r⟩
 ·obtain⟨z,its,n,r,e⟩:=h.ok I.hok;exact⟨its,r,⟨_,n,e,rfl,rfl,rfl⟩,z⟩
 ·refine⟨its.toList,r,⟨o,n,I.kIn a o hk,hc,hd,by simpa using hs⟩,?_⟩;have e:=r.length;simp only[bF]at e;omega
theorem Inv.tuple(I:Inv X pins σ H s)(h:SqT X.K H a xs):∃its:List aa,Vals xs its/\fW s.heap a its.toArray/\xs.length<=aG:=by
 rcases h with h|⟨o,its,n,hk,hc,hs,hz,r⟩
 ·obtain⟨z,its,r,p⟩:=h.ok I.hok;exact⟨its,r,p,z⟩
 ·refine⟨its.toList,r,⟨o,I.kIn a o hk,hc,n,by simpa using hs⟩,?_⟩;have e:=r.length;simp only[bF]at e;omega
theorem Inv.list_inj(I:Inv X pins σ H s)(h:SqL X.K H a xs)(h':SqL X.K H a ys):xs=ys:=by
 obtain⟨its,r,⟨o,n,e,_,_,d⟩,_⟩:=I.list h;obtain⟨its',r',⟨o',n',e',_,_,d'⟩,_⟩:=I.list h';rw[e]at e';cases e';rw[d]at d';injection d' with d1 _;have:its=its':=by simpa using bH pF d1
 subst this;exact r.inj r'
theorem Inv.tuple_inj(I:Inv X pins σ H s)(h:SqT X.K H a xs)(h':SqT X.K H a ys):xs=ys:=by
 obtain⟨its,r,⟨o,e,_,n,d⟩,_⟩:=I.tuple h;obtain⟨its',r',⟨o',e',_,n',d'⟩,_⟩:=I.tuple h';rw[e]at e';cases e';rw[d]at d';injection d' with d1 _;have:its=its':=by simpa using bH pF d1
 subst this;exact r.inj r'
end
abbrev Cx.wish(X:Cx)(E:aa->ae->Prop):Cx:={ X with xe:=E }
abbrev Cx.nox(X:Cx):Cx:=X.wish λ_ _=>False
theorem Cx.Ok.wish(ok:X.Ok)(E:aa->ae->Prop):(X.wish E).Ok:=
 ⟨ok.mod,ok.kind,ok.glob,ok.blt,ok.above,ok.inj,ok.has,ok.cab,ok.hd,ok.frames,ok.stk,ok.exf,ok.bs,ok.bsz,ok.noex,ok.exfs,ok.funs,ok.frf⟩
theorem Cx.Ok.unwish(ok:(X.wish E).Ok):X.Ok:=
 ⟨ok.mod,ok.kind,ok.glob,ok.blt,ok.above,ok.inj,ok.has,ok.cab,ok.hd,ok.frames,ok.stk,ok.exf,ok.bs,ok.bsz,ok.noex,ok.exfs,ok.funs,ok.frf⟩
section
variable{X:Cx}{pins:cp}{σ:St}{H:Hp}{s:ae}{E:aa->ae->Prop}
theorem Inv.wish(I:Inv X pins σ H s)(E:aa->ae->Prop):Inv (X.wish E) pins σ H s:=⟨I.ok.wish E,I.os,I.bare,I.base,I.loc,I.cell,I.free,I.freeC,I.pin,I.hok,I.len⟩
theorem Inv.unwish(I:Inv (X.wish E) pins σ H s):Inv X pins σ H s:=⟨I.ok.unwish,I.os,I.bare,I.base,I.loc,I.cell,I.free,I.freeC,I.pin,I.hok,I.len⟩
theorem SP.unwish{D:Ends}{f:Flow}(h:SP (X.wish E) pins D f s'):SP X pins D f s':=by
 cases f with
 |next=>obtain⟨σ',H',I,q⟩:=h;exact⟨σ',H',I.unwish,q⟩
 |brk=>obtain⟨σ',H',I,q⟩:=h;exact⟨σ',H',I.unwish,q⟩
 |cont=>obtain⟨σ',H',I,q⟩:=h;exact⟨σ',H',I.unwish,q⟩
 |ret u=>obtain⟨v,σ',H',I,r,q⟩:=h;exact⟨v,σ',H',I.unwish,r,q⟩
theorem PSs.nox{st:List Stmt}{t:TS}(h:PSs X.nox st t):PSs X st t:=λpins s σ H D I hw=>
 bX (h pins s σ H D (I.wish _) hw) (λ_ _ q=>q.unwish) λ_ _ z=>cN z
end
variable{tc:TT}
section
variable{X:Cx}{st:Stmt}{rest:List Stmt}{t u:TS}{e:Expr}{te:TE}{pos:Pos}
def Zl:TS:=λD σ H=>D.nx σ H
def tSeq(t u:TS):TS:=λD σ H=>t { D with nx:=u D } σ H
theorem Sb:PSs X [] Zl:=λ_ _ σ H _ I h=>jn ⟨σ,H,I,h⟩
theorem Fh(h1:PS X st t)(h2:PSs X rest u):PSs X (st::rest) (tSeq t u):=by
 intro pins s σ H D I h;refine oo (thn (h1 pins s σ H { D with nx:=u D } I h) λf s1 q=>?_);cases f with
 |next=>obtain⟨σ',H',I',q⟩:=q;exact h2 pins s1 σ' H' D I' q
 |ret v=>exact q
 |brk=>exact q
 |cont=>exact q
theorem II(h1:PS X st t):PSs X [st] t:=by
 intro pins s σ H D I h;refine oo (thn (h1 pins s σ H D I h) λf s1 q=>?_);cases f with
 |next=>exact jn q
 |ret v=>exact q
 |brk=>exact q
 |cont=>exact q
theorem Inv.quiet{H:Hp}{s:ae}(I:Inv X pins σ H s):interactive X.env=false:=by simp[interactive,I.ok.kind]
def UN(te:TE):TS:=λD σ H=>te σ H λ_ H1=>D.nx σ H1
theorem Mq(he:PE X e te)(hs:dg e none pos.line X.env=pure false:=by rfl):PS X (.Expr e pos) (UN te):=by intro pins s σ H D I h;exact wpAny_Expr_any (thn (he pins s σ H _ I h) λv s1 ⟨x,H1,I1,r1,q1⟩=>⟨σ,H1,I1,q1⟩) I.quiet hs
def Zm(te:TE):TS:=λD σ H=>te σ H D.rt
theorem Lb(he:PE X e te):PS X (.Return (some e) pos) (Zm te):=by intro pins s σ H D I h;exact wpAny_Return_some (thn (he pins s σ H _ I h) λv s1 ⟨x,H1,I1,r1,q1⟩=>⟨x,σ,H1,I1,r1,q1⟩)
def tIfS(c:TT)(t u:TS):TS:=λD σ H=>c σ H λb H1=>if b=true then t D σ H1 else u D σ H1
theorem Zn{a b:List Stmt}(hc:PT X c tc)(ha:PSs X a t)(hb:PSs X b u):PS X (.If c a b pos) (tIfS tc t u):=by
 intro pins s σ H D I h;refine wpAny_If (thn (hc pins s σ H _ I h) λd s1 zz=>?_);obtain⟨H1,I1,q1⟩:=zz;cases d with
 |true=>exact ha pins s1 σ H1 D I1 q1
 |false=>exact hb pins s1 σ H1 D I1 q1
end
abbrev TG:=V->St->Hp->(St->Hp->Prop)->Prop
abbrev TGs:=bA->St->Hp->(St->Hp->Prop)->Prop
def PG(X:Cx)(target:Expr)(t:TG):Prop:=
 ∀(pins:cp) (s:ae) (σ:St) (H:Hp) (v:V) (u:aa) (Q:St->Hp->Prop),Inv X pins σ H s->RelV v u->t v σ H Q->
  ai (model X.prog X.w) X.A (assign target X.env u) (λ_ s'=>∃σ' H',Inv X pins σ' H' s'/\Q σ' H') X.xe s
def PGs(X:Cx)(ts:List Expr)(t:TGs):Prop:=
 ∀(pins:cp) (s:ae) (σ:St) (H:Hp) (vs:bA) (us:List aa) (Q:St->Hp->Prop),Inv X pins σ H s->Vals vs us->t vs σ H Q->
  ai (model X.prog X.w) X.A (assignInOrder ((cF ts X.env).map (·.2)) us) (λ_ s'=>∃σ' H',Inv X pins σ' H' s'/\Q σ' H') X.xe s
abbrev VA:=V->V->V->Hp->(Hp->Prop)->Prop
def Zo(X:Cx)(t:VA):Prop:=
 ∀(pins:cp) (s:ae) (σ:St) (H:Hp) (o i v:V) (ov iv u:aa) (Q:Hp->Prop),Inv X pins σ H s->RelV o ov->RelV i iv->RelV v u->t o i v H Q->
  ai (model X.prog X.w) X.A (setItem ov iv u) (λ_ s'=>∃H',Inv X pins σ H' s'/\Q H') X.xe s
variable{es:List Expr}{tg:Expr}{te:TE}
section
variable{X:Cx}{pos:Pos}
def yO(i:Nat):TG:=λv σ H Q=>Q (σ.set i (some v)) H
theorem Mr(hN:X.N.Nodup)(hi:X.N[i]?=some x)(hx:Loc X.env.scope x)(hf:X.fn x=true\/X.env.scope.names.lookup x=some .local:=by first|exact .inl rfl|exact .inr rfl|assumption):PG X (.Name x pos) (yO i):=by intro pins s σ H v u Q I r h;exact wpAny_assign_Name (JN I hN hi hx r (λs' I'=>⟨_,H,I',h⟩) hf)
def Zp:TGs:=λvs σ H Q=>vs=[]/\Q σ H
def UO(t:TG)(u:TGs):TGs:=λvs σ H Q=>∃v r,vs=v::r/\t v σ H λσ' H'=>u r σ' H' Q
theorem Sd:PGs X [] Zp:=by intro pins s σ H vs us Q I r h;obtain⟨e,h⟩:=h;subst e;cases r;exact assignInOrder_nil ⟨σ,H,I,h⟩
theorem OY{t:TG}{u:TGs}(h1:PG X e t)(h2:PGs X es u)
  (hs:(cF (e::es) X.env).map (·.2)=assign e X.env::(cF es X.env).map (·.2):=by rfl):PGs X (e::es) (UO t u):=by
 intro pins s σ H vs us Q I r h;obtain⟨v,vr,e1,h⟩:=h;subst e1;cases r with
 |cons r rr=>rw[hs];refine assignInOrder_cons (thn (h1 pins s σ H _ _ _ I r h) λ_ s1 zz=>?_);obtain⟨σ1,H1,I1,q1⟩:=zz;exact h2 pins s1 σ1 H1 _ _ Q I1 rr q1
def VB(K:au)(n:Nat)(t:TGs):TG:=λv σ H Q=>∃a xs,v=.ref a/\SqT K H a xs/\xs.length=n/\t xs σ H Q
theorem VC{k:Nat}{t:TGs}{n:Nat}(hc:X.calm=true)(h:PGs X es t)
  (hn:(cF es X.env).length=n:=by rfl) (hst:(cF es X.env).findIdx? (·.1)=none:=by rfl):PG X (.Tuple es k pos) (VB X.K n t):=by
 intro pins s σ H v u Q I r hw;obtain⟨a,xs,e1,hq,hl,hw⟩:=hw;subst e1;cases r;obtain⟨its,rv,ht,hz⟩:=I.tuple hq;refine assign_Tuple_tuple (I.ok.hd hc) ht (by simp[hn,<- hl,rv.length]) hst λh' hx=>?_;have I1:Inv X pins σ H { s with heap:=h' }:=I.kept (t':=s.toks) λb o e=>hx b o (aY (aQ e)) e;exact h pins _ σ H xs _ Q I1 (by simpa using rv) hw
def Zq(to ti:TE)(t:VA):TG:=λv σ H Q=>to σ H λo H1=>ti σ H1 λi H2=>t o i v H2 λH3=>Q σ H3
theorem VE{o i:Expr}{to ti:TE}{t:VA}(ho:PE X o to)(hi:PE X i ti)(hs:Zo X t)
  (ha:∀v,assign (.Subscript o i pos) X.env v=(do
   let ov<-holding [v] (eval o X.env);let iv<-holding [v,ov] (eval i X.env)
   standAt pos
   holding [v,ov,iv] (setItem ov iv v)
   release [v,ov,iv] []):=by intro _;rfl):PG X (.Subscript o i pos) (Zq to ti t):=by
 intro pins s σ H v u Q I r h;rw[ha];refine ah (cc (thn (ho pins s σ H _ I h) λov s1 zz=>?_));obtain⟨x,H1,I1,r1,q1⟩:=zz;refine ah (cc (thn (hi pins s1 σ H1 _ I1 q1) λiv s2 zz=>?_));obtain⟨y,H2,I2,r2,q2⟩:=zz;refine ah (kR (ah (cc (thn (hs pins s2 σ H2 x y v ov iv u _ I2 r1 r2 r q2) λ_ s3 zz=>?_))));obtain⟨H3,I3,q3⟩:=zz;exact wpAny_release ⟨σ,H3,I3,q3⟩
def BY(te:TE)(g:TG):TS:=λD σ H=>te σ H λx H1=>g x σ H1 D.nx
theorem OZ{g:TG}(he:PE X e te)(hg:PG X tg g)(hs:swapsWithSole [tg] e pos.line X.env=pure false:=by rfl)(hw:swappedStores [tg] e X.env=pure none:=by rfl)
  (h1:(cF [tg] X.env).map (·.2)=[assign tg X.env]:=by rfl):PS X (.Assign [tg] e pos) (BY te g):=by
 intro pins s σ H D I h;refine wpAny_Assign_stores (thn (he pins s σ H _ I h) λv s1 zz=>?_) hs hw;obtain⟨x,H1,I1,r1,q1⟩:=zz;rw[h1];exact thn (hg pins s1 σ H1 x v _ I1 r1 q1) λ_ s2 q=>q
theorem VF{pos':Pos}(hN:X.N.Nodup)(hi:X.N[i]?=some x)(hx:Loc X.env.scope x)(he:PE X e te)(hs:dg e (some (.Name x pos')) pos.line X.env=pure false:=by rfl)(hf:X.fn x=true\/X.env.scope.names.lookup x=some .local:=by first|exact .inl rfl|exact .inr rfl|assumption):
  PS X (.Assign [.Name x pos'] e pos) (BY te (yO i)):=by
 intro pins s σ H D I h;refine wpAny_Assign_Name (thn (he pins s σ H _ I h) λv s1 zz=>?_) hs;obtain⟨y,H1,I1,r1,q1⟩:=zz;exact JN I1 hN hi hx r1 (λs2 I2=>⟨_,H1,I2,q1⟩) hf
end
variable{body:List Stmt}{tb:TS}
section
variable{X:Cx}{pos:Pos}
def O0(c:TT)(tb:TS):TS:=λD σ H=>∃W:Nat->St->Hp->Prop,(∃m,W m σ H)/\∀m σ H,W m σ H->
 c σ H λb H1=>if b=true then ∃N:St->Hp->Prop,(∀σ' H',N σ' H'->∃m',m'<m/\W m' σ' H')/\tb { D with nx:=N,ct:=N,bk:=D.nx } σ H1 else D.nx σ H1
theorem O1(hp:jA (model X.prog X.w) X.A X.env X.xe)(hc:PT X c tc)(hb:PSs X body tb):PS X (.While c body [] pos) (O0 tc tb):=by
 intro pins s σ H D I h;obtain⟨W,⟨m0,w0⟩,turn⟩:=h;refine wpAny_While (codeAny_whileLoop (λn s'=>∃σ' H',Inv X pins σ' H' s'/\W n σ' H') ?_ m0 ⟨σ,H,I,w0⟩);rintro n s1 ⟨σ1,H1,I1,w1⟩;refine fL hp (thn (hc pins s1 σ1 H1 _ I1 (turn n σ1 H1 w1)) λb s2 zz=>?_);obtain⟨H2,I2,q2⟩:=zz;cases b with
 |true=>
  obtain⟨N,hN,q2⟩:=q2;rw[af rfl];refine fL hp (thn (hb pins s2 σ1 H2 _ I2 q2) λf s3 q3=>?_);cases f with
  |next=>obtain⟨σ3,H3,I3,n3⟩:=q3;obtain⟨m',hm,w3⟩:=hN σ3 H3 n3;exact⟨m',hm,σ3,H3,I3,w3⟩
  |cont=>obtain⟨σ3,H3,I3,n3⟩:=q3;obtain⟨m',hm,w3⟩:=hN σ3 H3 n3;exact⟨m',hm,σ3,H3,I3,w3⟩
  |brk=>exact q3
  |ret v=>exact q3
 |false=>rw[ag bj];exact jn ⟨σ1,H2,I2,q2⟩
end
structure It where
 go:Nat->Hp->Prop
 yld:Nat->Hp->V->Hp->Prop
 stop:Nat->Hp->Prop
def IJ(X:Cx)(pins:cp)(H:Hp)(b:Addr):Prop:=
 H b=none/\b≠X.env.locals/\b∉X.fs/\(b∈X.ex\/X.s₀.heap.objs.size<=b)/\(∀x c,X.env.cells.lookup x=some c->c≠b)/\∀p∈X.pn++pins,p.1≠b
theorem Inv.fpOk{H H':Hp}{s:ae}(I:Inv X pins σ H s)(hb:s.heap.objs.size<=b)(hn:H' b=none):IJ X pins H' b:=by
 refine⟨hn,fQ (ck I.lt hb),I.nofs hb,.inr (bN I.sz hb),λx c e z=>?_,λp hp z=>?_⟩
 ·obtain⟨v,q⟩:=I.cell x c e;exact ao (ck q.lt (by rw[z];exact hb)) (d7 _)
 ·exact ao (ck (aQ (I.pin p hp).1) (by rw[z];exact hb)) (d7 _)
structure Turn(P:ay)(w:av)(K:au)(tg:Expr)(J:It)(fp:List Addr)(it:Addr)(tn:Nat->Heap->Prop):Prop where
 mem:it∈fp
 obj:∀i h,tn i h->∀b∈fp,∃o,h.get? b=some o/\∀v,o.data≠.cell v
 keep:∀i h h',tn i h->(∀b∈fp,∀o,h.get? b=some o->h'.get? b=some o)->tn i h'
 item:∀(X:Cx),X.prog=P->X.w=w->X.K=K->X.calm=true->∀(i:Nat) (pins:cp) (s:ae) (σ:St) (H:Hp) (E:aa->ae->Prop),Inv X pins σ H s->(∀b∈fp,IJ X pins H b)->tn i s.heap->J.go i H->
  ai (model P w) X.A (pyNext (.ref it)) (λr s1=>∃u,r=some u/\
   ai (model P w) X.A (gu tg (.ref it) u) (λ_ s2=>∃x H',Inv X pins σ H' s2/\RelV x u/\J.yld i H x H'/\tn (i+1) s2.heap/\∀b∈fp,H' b=none) E s1) E s
 done:∀(X:Cx),X.prog=P->X.w=w->X.K=K->X.calm=true->∀(i:Nat) (pins:cp) (s:ae) (σ:St) (H:Hp) (E:aa->ae->Prop),Inv X pins σ H s->(∀b∈fp,IJ X pins H b)->tn i s.heap->J.stop i H->
  ai (model P w) X.A (pyNext (.ref it)) (λr s1=>r=none/\Inv X pins σ H s1) E s
 self:∀(A:aC) (i:Nat) (s:ae) (Q:aa->ae->Prop) (E:aa->ae->Prop),tn i s.heap->Q (.ref it) s->ai (model P w) A (pyIter (.ref it)) Q E s
abbrev TI:=St->Hp->(It->Hp->Prop)->Prop
def PIE(X:Cx)(pins:cp)(σ:St)(tg:Expr)(R:It->Hp->Prop)(itv:aa)(s2:ae):Prop:=
 ∃(it:Addr) (fp:List Addr) (tn:Nat->Heap->Prop) (J:It) (H':Hp),itv=.ref it/\Inv X pins σ H' s2/\Turn X.prog X.w X.K tg J fp it tn/\tn 0 s2.heap/\(∀b∈fp,IJ X pins H' b)/\R J H'
def PI(X:Cx)(tg iter:Expr)(wi:TI):Prop:=
 ∀(pins:cp) (s:ae) (σ:St) (H:Hp) (R:It->Hp->Prop),Inv X pins σ H s->wi σ H R->
  ai (model X.prog X.w) X.A (eval iter X.env) (λv s1=>ai (model X.prog X.w) X.A (pyIter v) (PIE X pins σ tg R) X.xe s1) X.xe s
theorem Ms{A:aC}{s:ae}{o:Obj}{n:String}{vs:Array aa}{Q:Unit->ae->Prop}(ho:s.heap.get? it=some o)(hc:o.cls=.type n)(hd:o.data=.fields vs)
  (hn:["enumerate", "zip", "dict_itemiterator", "dict_reverseitemiterator", "odict_iterator", "itertools.zip_longest", "itertools.pairwise"].contains n=false) (hQ:Q () s):ai M A (gu tg (.ref it) u) Q E s:=by
 unfold gu;cases tg<;>first
  |exact ar hQ
  |(cases u<;>first
    |exact ar hQ
    |(refine ah (wpAny_load ho ?_)
      rw[hc,hd];show ai M A (if (["enumerate", "zip", "dict_itemiterator", "dict_reverseitemiterator", "odict_iterator", "itertools.zip_longest", "itertools.pairwise"].contains n&&vs[0]?==some (rawInt _))=true then _ else _) Q E s;rw[ag (by intro h;rw[hn,oY]at h;cases h)];exact ar hQ))
def Itl(K:au)(a:Addr):It:=
 ⟨λi H=>∃xs x,SqL K H a xs/\xs[i]?=some x,λi H x H'=>H'=H/\∀xs,SqL K H a xs->xs[i]?=some x,λi H=>∃xs,SqL K H a xs/\xs.length<=i⟩
def Itt(K:au)(a:Addr):It:=
 ⟨λi H=>∃xs x,SqT K H a xs/\xs[i]?=some x,λi H x H'=>H'=H/\∀xs,SqT K H a xs->xs[i]?=some x,λi H=>∃xs,SqT K H a xs/\xs.length<=i⟩
def Itr(lo:Int)(n:Nat):It:=⟨λi _=>i<n,λi H x H'=>H'=H/\x=.int (lo+i),λi _=>n<=i⟩
theorem NO{P:ay}{w:av}{K:au}(a it:Addr):Turn P w K tg (Itl K a) [it] it (λi h=>h.IsListIter it a i) where
 mem:=by simp
 obj:=λi h st b hb=>by
  have e:b=it:=by simpa using hb
  subst e;obtain⟨o,e,c,d⟩:=st;exact⟨o,e,λv z=>by rw[d]at z;cases z⟩
 keep:=λi h h' st k=>st.at λo e=>k it (by simp) o e
 item:=by intro X hP hw hK hc i pins s σ H E I hf st hg;subst hP hw hK;obtain⟨xs,x,hq,hx⟩:=hg;obtain⟨its,rv,p,hz⟩:=I.list hq;obtain⟨u,hu,ru⟩:=rv.get hx;obtain⟨f0,f1,f2,f3,f4,f5⟩:=hf it (by simp);refine wpAny_pyNext_list_item st p.isList (x:=u) (by simpa using hu) λh' st' sb=>?_;have I1:Inv X pins σ H { s with heap:=h' }:=I.turned (t':=s.toks) (λb o hb e=>(sb.2 b hb).trans e) f0 f1 f3 f4 f5;obtain⟨o,e,c,d⟩:=id st';exact⟨u,rfl,Ms (s:={ s with heap:=h' }) e c d (by decide) ⟨x,H,I1,ru,⟨rfl,λys hy=>by rw[I.list_inj hy hq];exact hx⟩,st',λb hb=>(hf b hb).1⟩⟩
 done:=by intro X hP hw hK hc i pins s σ H E I hf st hg;subst hP hw hK;obtain⟨xs,hq,hx⟩:=hg;obtain⟨its,rv,p,hz⟩:=I.list hq;obtain⟨f0,f1,f2,f3,f4,f5⟩:=hf it (by simp);have hl:=rv.length;exact wpAny_pyNext_list_end (I.ok.hd hc) st p.isList (by simp;omega) λh' eb=>⟨rfl,I.turned (t':=s.toks) (λb o hb e=>eb b o hb e) f0 f1 f3 f4 f5⟩
 self:=λ_ _ _ _ _ st h=>wpAny_pyIter_listiter st h
theorem Lc{P:ay}{w:av}{K:au}(a it:Addr):Turn P w K tg (Itt K a) [it] it (λi h=>h.IsTupleIter it a i) where
 mem:=by simp
 obj:=λi h st b hb=>by
  have e:b=it:=by simpa using hb
  subst e;obtain⟨o,e,c,d⟩:=st;exact⟨o,e,λv z=>by rw[d]at z;cases z⟩
 keep:=λi h h' st k=>st.at λo e=>k it (by simp) o e
 item:=by intro X hP hw hK hc i pins s σ H E I hf st hg;subst hP hw hK;obtain⟨xs,x,hq,hx⟩:=hg;obtain⟨its,rv,p,hz⟩:=I.tuple hq;obtain⟨u,hu,ru⟩:=rv.get hx;obtain⟨f0,f1,f2,f3,f4,f5⟩:=hf it (by simp);refine wpAny_pyNext_tuple_item st (show s.heap.IsTuple a its.toArray from p) (x:=u) (by simpa using hu) λh' st' sb=>?_;have I1:Inv X pins σ H { s with heap:=h' }:=I.turned (t':=s.toks) (λb o hb e=>(sb.2 b hb).trans e) f0 f1 f3 f4 f5;obtain⟨o,e,c,d⟩:=id st';exact⟨u,rfl,Ms (s:={ s with heap:=h' }) e c d (by decide) ⟨x,H,I1,ru,⟨rfl,λys hy=>by rw[I.tuple_inj hy hq];exact hx⟩,st',λb hb=>(hf b hb).1⟩⟩
 done:=by intro X hP hw hK hc i pins s σ H E I hf st hg;subst hP hw hK;obtain⟨xs,hq,hx⟩:=hg;obtain⟨its,rv,p,hz⟩:=I.tuple hq;obtain⟨f0,f1,f2,f3,f4,f5⟩:=hf it (by simp);have hl:=rv.length;exact wpAny_pyNext_tuple_end (I.ok.hd hc) st (show s.heap.IsTuple a its.toArray from p) (by simp;omega) λh' eb=>⟨rfl,I.turned (t':=s.toks) (λb o hb e=>eb b o hb e) f0 f1 f3 f4 f5⟩
 self:=λ_ _ _ _ _ st h=>wpAny_pyIter_tupleiter st h
theorem Ld{P:ay}{w:av}{K:au}(it:Addr)(lo:Int)(n:Nat):Turn P w K tg (Itr lo n) [it] it (λi h=>IsRangeIter h it (lo+(i:Nat) * 1) ((n:Int) - (i:Nat)) 1) where
 mem:=by simp
 obj:=λi h st b hb=>by
  have e:b=it:=by simpa using hb
  subst e;exact⟨_,st,λv z=>by
   have z':Data.fields _=Data.cell v:=z;cases z'⟩
 keep:=λi h h' st k=>k it (by simp) _ st
 item:=by intro X hP hw hK hc i pins s σ H E I hf st hg;subst hP hw hK;obtain⟨f0,f1,f2,f3,f4,f5⟩:=hf it (by simp);have W:=Walks.range (prog:=X.prog) (w:=X.w) (I.ok.hd hc) it lo 1 n;refine W.item i s _ _ hg st λv h' tk hv st' kk=>?_;obtain⟨t,rfl⟩:=hv;have I1:Inv X pins σ H { s with heap:=h',toks:=tk }:=I.turned (λb o hb e=>kk b o (by simpa using hb) e) f0 f1 f3 f4 f5;refine⟨_,rfl,Ms (s:={ s with heap:=h',toks:=tk }) (n:="range_iterator") st' rfl rfl (by decide) ⟨.int (lo+i),H,I1,⟨t,?_⟩,⟨rfl,rfl⟩,st',λb hb=>(hf b hb).1⟩⟩;rw[Int.mul_one]
 done:=by intro X hP hw hK hc i pins s σ H E I hf st hg;subst hP hw hK;obtain⟨f0,f1,f2,f3,f4,f5⟩:=hf it (by simp);exact wpAny_pyNext_range_end (I.ok.hd hc) st (by have:n<=i:=hg;omega) λh' eb=>⟨rfl,I.turned (t':=s.toks) (λb o hb e=>eb b o hb e) f0 f1 f3 f4 f5⟩
 self:=λ_ _ _ _ _ st h=>wpAny_pyIter_rangeiter st h
variable{l:Expr}{tl:TE}{ta:TA}{p:Pos}
section
variable{X:Cx}{tg:Expr}
def O2(K:au)(tl:TE):TI:=λσ H R=>tl σ H λx H1=>∃a,x=.ref a/\(∃xs,SqL K H1 a xs)/\R (Itl K a) H1
def VG(K:au)(tl:TE):TI:=λσ H R=>tl σ H λx H1=>∃a,x=.ref a/\(∃xs,SqT K H1 a xs)/\R (Itt K a) H1
theorem Se(hl:PE X l tl):PI X tg l (O2 X.K tl):=by
 intro pins s σ H R I h;refine thn (hl pins s σ H _ I h) λv s1 zz=>?_;obtain⟨x,H1,I1,r1,q1⟩:=zz;obtain⟨a,e,⟨xs,hq⟩,q⟩:=q1;subst e;cases r1;obtain⟨its,rv,p,hz⟩:=I1.list hq;refine gj p.isList ?_;refine⟨s1.heap.objs.size,[s1.heap.objs.size],_,_,H1,rfl,I1.kept (t':=s1.toks) λb o e=>aN _ e,NO a _,⟨_,bu _ rfl,rfl,rfl⟩,λb hb=>?_,q⟩;have e:b=s1.heap.objs.size:=by simpa using hb
 subst e;exact I1.fpOk (aJ _) (I1.hok.fresh (aJ _))
theorem VH(hl:PE X l tl):PI X tg l (VG X.K tl):=by
 intro pins s σ H R I h;refine thn (hl pins s σ H _ I h) λv s1 zz=>?_;obtain⟨x,H1,I1,r1,q1⟩:=zz;obtain⟨a,e,⟨xs,hq⟩,q⟩:=q1;subst e;cases r1;obtain⟨its,rv,p,hz⟩:=I1.tuple hq;refine nM (show s1.heap.IsTuple a its.toArray from p) ?_;refine⟨s1.heap.objs.size,[s1.heap.objs.size],_,_,H1,rfl,I1.kept (t':=s1.toks) λb o e=>aN _ e,Lc a _,⟨_,bu _ rfl,rfl,rfl⟩,λb hb=>?_,q⟩;have e:b=s1.heap.objs.size:=by simpa using hb
 subst e;exact I1.fpOk (aJ _) (I1.hok.fresh (aJ _))
theorem JO{H:Hp}{s:ae}{R:It->Hp->Prop}{lo hi:Int}{t u v:Tok}{tk:Nat}(I:Inv X pins σ H s)(h1:-(2 ^ 62)<=lo)(h2:lo<2 ^ 62)(h3:-(2 ^ 62)<=hi)(h4:hi<2 ^ 62)
  (q:R (Itr lo (hi - lo).toNat) H):ai (model X.prog X.w) X.A (pyIter (.ref s.heap.objs.size)) (PIE X pins σ tg R) E { s with heap:=s.heap.push { cls:=.type "range", data:=.fields #[.int lo t,.int hi u,.int 1 v] },toks:=tk }:=by
 refine wpAny_pyIter_range (IsRange.new ..) (small_one h1 h2 h3 h4) ?_;have I1:Inv X pins σ H { s with heap:=s.heap.push { cls:=.type "range", data:=.fields #[.int lo t,.int hi u,.int 1 v] },toks:=tk }:=I.kept λb o e=>aN _ e;refine⟨(s.heap.push { cls:=.type "range", data:=.fields #[.int lo t,.int hi u,.int 1 v] }).objs.size,[(s.heap.push { cls:=.type "range", data:=.fields #[.int lo t,.int hi u,.int 1 v] }).objs.size],_,_,H,rfl,
  I1.kept (t':=tk) λb o e=>aN _ e,Ld _ lo (hi - lo).toNat,?_,λb hb=>?_,q⟩
 ·have e1:lo+((0:Nat):Int) * 1=lo:=by simp
  have e2:(((hi - lo).toNat:Nat):Int) - ((0:Nat):Int)=rL lo hi 1:=by rw[rangeSize_one];split<;>omega
  show IsRangeIter _ _ (lo+((0:Nat):Int) * 1) ((((hi - lo).toNat:Nat):Int) - ((0:Nat):Int)) 1;rw[e1,e2];exact bu _ rfl
 ·have e:b=(s.heap.push { cls:=.type "range", data:=.fields #[.int lo t,.int hi u,.int 1 v] }).objs.size:=by simpa using hb
  subst e;exact I1.fpOk (aJ _) (I1.hok.fresh (aJ _))
def UP(ta:TA):TI:=λσ H R=>ta σ H λvs H1=>∃j:Int,vs=[.int j]/\-(2 ^ 62)<=j/\j<2 ^ 62/\R (Itr 0 j.toNat) H1
def UQ(ta:TA):TI:=λσ H R=>ta σ H λvs H1=>∃i j:Int,vs=[.int i,.int j]/\(-(2 ^ 62)<=i/\i<2 ^ 62/\-(2 ^ 62)<=j/\j<2 ^ 62)/\R (Itr i (j - i).toNat) H1
theorem NP{a:Expr}(hg:Gl X "range")(hm:X.mg "range" = none)(ha:PA X [a] ta)(hs:aE [a] X.env=[(false,eval a X.env)]:=by rfl):PI X tg (.Call (.Name "range" p) [a] [] pos) (UP ta):=by
 intro pins s σ H R I h;refine Call_ (zS I hg hm boot_range (callWith_type1 (thn (ha pos pins s σ H _ I h) λus s1 zz=>?_) hs rfl));obtain⟨vs,H1,I1,r1,q1⟩:=zz;obtain⟨j,e,q1,q2,q⟩:=q1;subst e;cases r1 with
 |cons r rr=>cases rr;obtain⟨t,rfl⟩:=r;exact call_range_1 (JO I1 (by omega) (by omega) q1 q2 (by simpa using q))
theorem NQ{a b:Expr}(hg:Gl X "range")(hm:X.mg "range" = none)(ha:PA X [a,b] ta)(hs:aE [a,b] X.env=[(false,eval a X.env),(false,eval b X.env)]:=by rfl)(hs2:aE [b] X.env=[(false,eval b X.env)]:=by rfl):
  PI X tg (.Call (.Name "range" p) [a,b] [] pos) (UQ ta):=by
 intro pins s σ H R I h;refine Call_ (zS I hg hm boot_range (callWith_type1 (thn (ha pos pins s σ H _ I h) λus s1 zz=>?_) (by rw[hs,hs2]) (by rw[hs2];rfl)));obtain⟨vs,H1,I1,r1,q1⟩:=zz;obtain⟨i,j,e,⟨q1,q2,q3,q4⟩,q⟩:=q1;subst e;cases r1 with
 |cons r rr=>
  cases rr with
  |cons r' rr=>cases rr;obtain⟨t,rfl⟩:=r;obtain⟨t',rfl⟩:=r';exact call_range_2 (JO I1 q1 q2 q3 q4 q)
def VI(wi:TI)(g:TG)(tb:TS):TS:=λD σ H=>wi σ H λJ H1=>∃W:Nat->Nat->St->Hp->Prop,(∃m,W 0 m σ H1)/\∀i m σ H,W i m σ H->
 (J.stop i H/\D.nx σ H)\/(J.go i H/\∃N:St->Hp->Prop,(∀σ' H',N σ' H'->∃m',m'<m/\W (i+1) m' σ' H')/\∀x H',J.yld i H x H'->g x σ H' λσ2 H2=>tb { D with nx:=N,ct:=N,bk:=D.nx } σ2 H2)
def Fi(fp:List Addr)(h:Heap):cp:=fp.filterMap λb=>(h.get? b).map λo=>(b,o)
theorem yj{fp:List Addr}{h:Heap}{o:Obj}(hb:b∈fp)(e:h.get? b=some o):(b,o)∈Fi fp h:=ia.mpr ⟨b,hb,by rw[e];rfl⟩
theorem NR{fp:List Addr}{h:Heap}{p:Addr×Obj}(hp:p∈Fi fp h):p.1∈fp/\h.get? p.1=some p.2:=by
 obtain⟨b,hb,e⟩:=ia.mp hp;cases q:h.get? b with
 |none=>rw[q]at e;cases e
 |some o=>rw[q]at e;have e':(b,o)=p:=cw e;subst e';exact⟨hb,q⟩
theorem Inv.pinned{H:Hp}{s:ae}{fp:List Addr}(I:Inv X pins σ H s)(hf:∀b∈fp,IJ X pins H b)(ho:∀b∈fp,∃o,s.heap.get? b=some o/\∀v,o.data≠.cell v):Inv X (pins++Fi fp s.heap) σ H s:=
 I.pins_of λp hp=>(bC.mp hp).elim (λz=>I.pin p (bP _ z)) λz=>by obtain⟨hb,e⟩:=NR z;obtain⟨f0,f1,f2,_⟩:=hf p.1 hb;obtain⟨o,e',d⟩:=ho p.1 hb;rw[e]at e';cases e';exact⟨e,f0,f1,f2,d⟩
theorem Inv.unpinned{pl:cp}{H:Hp}{s:ae}(I:Inv X (pins++pl) σ H s):Inv X pins σ H s:=I.pins_of λp hp=>I.pin p (bP _ (cj _ hp))
theorem O3{iter:Expr}{wi:TI}{g:TG}(hp:jA (model X.prog X.w) X.A X.env X.xe)(hc:X.calm=true)(hi:PI X tg iter wi)(hg:PG X tg g)(hb:PSs X body tb)
  (hs:∀x,ic iter X.env x=pure x:=by intro _;rfl):PS X (.For tg iter body [] pos) (VI wi g tb):=by
 intro pins s σ H D I h;refine wpAny_For (thn (hi pins s σ H _ I h) λv s1 h1=>thn h1 λitv s2 h2=>?_) hs;obtain⟨it,fp,tn,J,H2,e,I2,T,st2,f2,W,⟨m0,w0⟩,turn⟩:=h2;subst e;have stat:∀{H':Hp},(∀b∈fp,H' b=none)->∀b∈fp,IJ X pins H' b:=λhn b hb=>⟨hn b hb,(f2 b hb).2⟩;refine codeAny_forLoop_any (λn s'=>∃i σ' H',Inv X pins σ' H' s'/\tn i s'.heap/\(∀b∈fp,H' b=none)/\W i n σ' H') ?_ m0 ⟨0,σ,H2,I2,st2,λb hb=>(f2 b hb).1,w0⟩;rintro n s3 ⟨i,σ3,H3,I3,st3,fr3,w3⟩;rcases turn i n σ3 H3 w3 with ⟨stop,qn⟩|⟨go,N,hN,step⟩
 ·refine fL hp (thn (T.done X rfl rfl rfl hc i pins s3 σ3 H3 X.xe I3 (stat fr3) st3 stop) λr s4 zz=>?_);obtain⟨hr,I4⟩:=zz;subst hr;exact jn ⟨σ3,H3,I4,qn⟩
 ·refine fL hp (thn (T.item X rfl rfl rfl hc i pins s3 σ3 H3 X.xe I3 (stat fr3) st3 go) λr s4 zz=>?_);obtain⟨u,hr,h4⟩:=zz;subst hr;refine fL hp (thn h4 λ_ s5 zz=>?_);obtain⟨x,H5,I5,r5,y5,st5,fr5⟩:=zz;have I5':=I5.pinned (stat fr5) (T.obj _ _ st5);refine fL hp (thn (hg _ s5 σ3 H5 x u _ I5' r5 (step x H5 y5)) λ_ s6 zz=>?_);obtain⟨σ6,H6,I6,q6⟩:=zz;refine fL hp (thn (hb _ s6 σ6 H6 _ I6 q6) λf s7 q7=>?_);have again:∀{σ7:St} {H7:Hp},Inv X (pins++Fi fp s5.heap) σ7 H7 s7->N σ7 H7->∃m,m<n/\∃i σ' H',Inv X pins σ' H' s7/\tn i s7.heap/\(∀b∈fp,H' b=none)/\W i m σ' H':=λ{σ7 H7} I7 n7=>by obtain⟨m',hm,w7⟩:=hN σ7 H7 n7;refine⟨m',hm,i+1,σ7,H7,I7.unpinned,T.keep _ _ _ st5 λb hb o e=>(I7.pin (b,o) (bP _ (bP _ (yj hb e)))).1,λb hb=>?_,w7⟩;obtain⟨o,e,d⟩:=T.obj _ _ st5 b hb;exact(I7.pin (b,o) (bP _ (bP _ (yj hb e)))).2.1
  cases f with
  |next=>obtain⟨σ7,H7,I7,n7⟩:=q7;exact again I7 n7
  |cont=>obtain⟨σ7,H7,I7,n7⟩:=q7;exact again I7 n7
  |brk=>obtain⟨σ7,H7,I7,q7⟩:=q7;exact⟨σ7,H7,I7.unpinned,q7⟩
  |ret v=>obtain⟨x7,σ7,H7,I7,r7,q7⟩:=q7;exact⟨x7,σ7,H7,I7.unpinned,r7,q7⟩
end
abbrev R2:=V->V->Hp->VK->Prop
def OpR(X:Cx)(f:aa->aa->Sem aa)(r:R2):Prop:=
 ∀(pins:cp) (s:ae) (σ:St) (H:Hp) (x y:V) (v u:aa) (Q:VK),Inv X pins σ H s->RelV x v->RelV y u->r x y H Q->
  ai (model X.prog X.w) X.A (f v u) (EP X pins σ Q) X.xe s
def ve(X:Cx)(f:aa)(r:bA->Hp->VK->Prop):Prop:=
 ∀(pins:cp) (s:ae) (σ:St) (H:Hp) (xs:bA) (us:List aa) (Q:VK),Inv X pins σ H s->Vals xs us->r xs H Q->
  ai (model X.prog X.w) X.A (call f us) (EP X pins σ Q) X.xe s
def tOp(r:R2)(ta tb:TE):TE:=λσ H Q=>ta σ H λx H1=>tb σ H1 λy H2=>r x y H2 Q
def rI(C:Int->Int->Prop)(g:Int->Int->V):R2:=λx y H Q=>∃i j,x=.int i/\y=.int j/\C i j/\Q (g i j) H
def rI0(g:Int->Int->V):R2:=λx y H Q=>∃i j,x=.int i/\y=.int j/\Q (g i j) H
variable{f:aa->aa->Sem aa}{r:R2}
section
variable{X:Cx}{a b c:Expr}{ta tb tc:TE}{pos:Pos}
theorem VJ(ha:PE X a ta)(hb:PE X b tb){s:ae}{H:Hp}(I:Inv X pins σ H s)
  (h:ta σ H λx H1=>tb σ H1 λy H2=>R x y H2)
  (hf:∀v u s2 x y H2,Inv X pins σ H2 s2->RelV x v->RelV y u->R x y H2->ai (model X.prog X.w) X.A (f v u) Q X.xe s2):
  ai (model X.prog X.w) X.A (eval a X.env) (λv s₁=>ai (model X.prog X.w) X.A (eval b X.env) (λu s₂=>ai (model X.prog X.w) X.A (f v u) Q X.xe s₂) X.xe s₁) X.xe s:=by
 refine thn (ha pins s σ H _ I h) λv s1 zz=>?_;obtain⟨x,H1,I1,r1,q1⟩:=zz;refine thn (hb pins s1 σ H1 _ I1 q1) λu s2 zz=>?_;obtain⟨y,H2,I2,r2,q2⟩:=zz;exact hf v u s2 x y H2 I2 r1 r2 q2
theorem O4{op:jB}(ho:OpR X (dh op) r)(ha:PE X a ta)(hb:PE X b tb):PE X (.BinOp a op b pos) (tOp r ta tb):=by intro pins s σ H Q I h;exact wpAny_BinOp (VJ ha hb I h λv u s2 x y H2 I2 rx ry q=>ho pins s2 σ H2 x y v u Q I2 rx ry q)
theorem opI{C:Int->Int->Prop}{g:Int->Int->Int}
  (rule:∀(i j:Int) (t u:Tok) (s:ae) (Q:aa->ae->Prop) (E:aa->ae->Prop),C i j->Q (.int (g i j) s.toks) { s with toks:=s.toks+1 }->ai (model X.prog X.w) X.A (f (.int i t) (.int j u)) Q E s):
  OpR X f (rI C λi j=>.int (g i j)):=by
 intro pins s σ H x y v u Q I rx ry h;obtain⟨i,j,rfl,rfl,hc,q⟩:=h;obtain⟨t,rfl⟩:=rx;obtain⟨t',rfl⟩:=ry;exact rule i j t t' s _ _ hc ⟨.int (g i j),H,I.tok _,⟨_,rfl⟩,q⟩
theorem opI0{g:Int->Int->Int}
  (rule:∀(i j:Int) (t u:Tok) (s:ae) (Q:aa->ae->Prop) (E:aa->ae->Prop),Q (.int (g i j) s.toks) { s with toks:=s.toks+1 }->ai (model X.prog X.w) X.A (f (.int i t) (.int j u)) Q E s):
  OpR X f (rI0 λi j=>.int (g i j)):=by
 intro pins s σ H x y v u Q I rx ry h;obtain⟨i,j,rfl,rfl,q⟩:=h;obtain⟨t,rfl⟩:=rx;obtain⟨t',rfl⟩:=ry;exact rule i j t t' s _ _ ⟨.int (g i j),H,I.tok _,⟨_,rfl⟩,q⟩
theorem Sf{g:Int->Int->Bool}
  (rule:∀(i j:Int) (t u:Tok) (s:ae) (Q:aa->ae->Prop) (E:aa->ae->Prop),Q (.bool (g i j)) s->ai (model X.prog X.w) X.A (f (.int i t) (.int j u)) Q E s):
  OpR X f (rI0 λi j=>.bl (g i j)):=by
 intro pins s σ H x y v u Q I rx ry h;obtain⟨i,j,rfl,rfl,q⟩:=h;obtain⟨t,rfl⟩:=rx;obtain⟨t',rfl⟩:=ry;exact rule i j t t' s _ _ ⟨.bl (g i j),H,I,rfl,q⟩
def VL(i j:Int):Prop:=0<j/\j<1073741824
def Zr(i j:Int):Prop:=0<=j/\j<=1000000/\i.natAbs<2 ^ 64
def Sg(i j:Int):Prop:=(-(2 ^ 64)<i/\i<2 ^ 64)\/(-(2 ^ 64)<j/\j<2 ^ 64)
theorem Sg.ok{i j:Int}(h:Sg i j):IntMulOk i j:=by
 rcases h with ⟨h1,h2⟩|⟨h1,h2⟩
 ·exact .of_left (pj h1 h2)
 ·exact .of_right (pj h1 h2)
theorem VM:OpR X (dh .Add) (rI0 λi j=>.int (i+j)):=opI0 λ_ _ _ _ _ _ _ q=>add_int q
theorem VN:OpR X (dh .Mult) (rI Sg λi j=>.int (i * j)):=opI λ_ _ _ _ _ _ _ hc q=>mul_int q hc.ok
theorem Sh:OpR X (dh .FloorDiv) (rI VL λi j=>.int (i / j)):=opI λi j _ _ _ _ _ hc q=>by have h1:(0:Int)<j:=hc.1;have h2:j<1073741824:=hc.2;exact floordiv_int (by omega) (by rw[Int.fdiv_eq_ediv_of_nonneg i (by omega)];exact q) (.inl (PyProof.noPylong_small (by omega)))
theorem VO:OpR X (dh .Mod) (rI (λ_ j=>0<j) λi j=>.int (i % j)):=opI λi j _ _ _ _ _ hc q=>by have h1:(0:Int)<j:=hc;exact mod_int' (by omega) (by rw[Int.fmod_eq_emod_of_nonneg i (by omega)];exact q)
theorem VP:OpR X (dh .Pow) (rI Zr λi j=>.int (i ^ j.toNat)):=opI λ_ _ _ _ _ _ _ hc q=>pow_int_small hc.1 hc.2.1 hc.2.2 q
end
def O5:V->V->Bool
 |.non,.non=>true|.non,.int _=>true|.int _,.non=>true|.non,.bl _=>true|.bl _,.non=>true|.non,.str _=>true|.str _,.non=>true
 |.int _,.int _=>true|.bl _,.bl _=>true|.str _,.str _=>true|.byt _,.byt _=>true
 |.int _,.str _=>true|.str _,.int _=>true|.bl _,.str _=>true|.str _,.bl _=>true
 |_,_=>false
def rEq:R2:=λx y H Q=>O5 x y=true/\Q (.bl (decide (x=y))) H
def rNe:R2:=λx y H Q=>O5 x y=true/\Q (.bl (!decide (x=y))) H
theorem Mt{i j:Int}:decide (V.int i=V.int j)=(i==j):=by rw[cM];simp
theorem O6{i j:Bool}:decide (V.bl i=V.bl j)=(i==j):=by rw[cM];simp
theorem Mu{i j:Str}:decide (V.str i=V.str j)=(i==j):=by rw[cM];simp
theorem Mv{i j:Array UInt8}:decide (V.byt i=V.byt j)=(i.toList==j.toList):=by rw[cM];cases i;cases j;simp
variable{op':fX}{r':R2}
section
variable{X:Cx}{a b c:Expr}{ta tb tc:TE}{pos:Pos}
theorem uu{H:Hp}{s:ae}{Q:VK}{k k':Bool}(I:Inv X pins σ H s)(q:Q (.bl k) H)(e:k=k'):EP X pins σ Q (.bool k') s:=by subst e;exact⟨.bl k,H,I,rfl,q⟩
theorem Zs:OpR X (bq .Eq) rEq:=by
 intro pins s σ H x y v u Q I rx ry h;obtain⟨hs,q⟩:=h;cases x with
 |non=>
  cases rx;cases y with
  |non=>cases ry;exact qS (uu I q (by simp))
  |bl j=>cases ry;exact qT (uu I q (by simp))
  |int j=>obtain⟨t',rfl⟩:=ry;exact rb (uu I q (by simp))
  |str j=>obtain⟨t',rfl⟩:=ry;exact rg (uu I q (by simp))
  |_=>exact ao (show false=true from hs) bj
 |bl i=>
  cases rx;cases y with
  |non=>cases ry;exact qU (uu I q (by simp))
  |bl j=>cases ry;exact eq_bool (uu I q O6)
  |str j=>obtain⟨t',rfl⟩:=ry;exact qV (uu I q (by simp))
  |_=>exact ao (show false=true from hs) bj
 |int i=>
  obtain⟨t,rfl⟩:=rx;cases y with
  |non=>cases ry;exact rj (uu I q (by simp))
  |int j=>obtain⟨t',rfl⟩:=ry;exact eq_int (uu I q Mt)
  |str j=>obtain⟨t',rfl⟩:=ry;exact rp (uu I q (by simp))
  |_=>exact ao (show false=true from hs) bj
 |str i=>
  obtain⟨t,rfl⟩:=rx;cases y with
  |non=>cases ry;exact rq (uu I q (by simp))
  |bl j=>cases ry;exact qW (uu I q (by simp))
  |int j=>obtain⟨t',rfl⟩:=ry;exact rA (uu I q (by simp))
  |str j=>obtain⟨t',rfl⟩:=ry;exact eq_str (uu I q Mu)
  |_=>exact ao (show false=true from hs) bj
 |byt i=>
  obtain⟨t,rfl⟩:=rx;cases y with
  |byt j=>obtain⟨t',rfl⟩:=ry;exact W.eq_bytes (uu I q Mv)
  |_=>exact ao (show false=true from hs) bj
 |_=>cases y<;>exact ao (show false=true from hs) bj
theorem Zt:OpR X (bq .NotEq) rNe:=by
 intro pins s σ H x y v u Q I rx ry h;obtain⟨hs,q⟩:=h;cases x with
 |non=>
  cases rx;cases y with
  |non=>cases ry;exact qX (uu I q (by simp))
  |bl j=>cases ry;exact qY (uu I q (by simp))
  |int j=>obtain⟨t',rfl⟩:=ry;exact rB (uu I q (by simp))
  |str j=>obtain⟨t',rfl⟩:=ry;exact rD (uu I q (by simp))
  |_=>exact ao (show false=true from hs) bj
 |bl i=>
  cases rx;cases y with
  |non=>cases ry;exact qZ (uu I q (by simp))
  |bl j=>cases ry;exact ne_bool (uu I q (bH not O6))
  |str j=>obtain⟨t',rfl⟩:=ry;exact q8 (uu I q (by simp))
  |_=>exact ao (show false=true from hs) bj
 |int i=>
  obtain⟨t,rfl⟩:=rx;cases y with
  |non=>cases ry;exact rE (uu I q (by simp))
  |int j=>obtain⟨t',rfl⟩:=ry;exact ne_int (uu I q (bH not Mt))
  |str j=>obtain⟨t',rfl⟩:=ry;exact rF (uu I q (by simp))
  |_=>exact ao (show false=true from hs) bj
 |str i=>
  obtain⟨t,rfl⟩:=rx;cases y with
  |non=>cases ry;exact rG (uu I q (by simp))
  |bl j=>cases ry;exact q9 (uu I q (by simp))
  |int j=>obtain⟨t',rfl⟩:=ry;exact rH (uu I q (by simp))
  |str j=>obtain⟨t',rfl⟩:=ry;exact ne_str (uu I q (bH not Mu))
  |_=>exact ao (show false=true from hs) bj
 |byt i=>
  obtain⟨t,rfl⟩:=rx;cases y with
  |byt j=>obtain⟨t',rfl⟩:=ry;exact W.ne_bytes (uu I q (bH not Mv))
  |_=>exact ao (show false=true from hs) bj
 |_=>cases y<;>exact ao (show false=true from hs) bj
theorem Zu:OpR X (bq .Lt) (rI0 λi j=>.bl (decide (i<j))):=Sf λ_ _ _ _ _ _ _ q=>lt_int q
theorem Zv:OpR X (bq .LtE) (rI0 λi j=>.bl (decide (i<=j))):=Sf λ_ _ _ _ _ _ _ q=>le_int q
theorem Zw:OpR X (bq .Gt) (rI0 λi j=>.bl (decide (j<i))):=Sf λ_ _ _ _ _ _ _ q=>gt_int q
theorem Zx:OpR X (bq .GtE) (rI0 λi j=>.bl (decide (j<=i))):=Sf λ_ _ _ _ _ _ _ q=>ge_int q
theorem VQ:OpR X (bq .Is) (λx y H Q=>y=.non/\Q (.bl (decide (x=.non))) H):=by
 intro pins s σ H x y v u Q I rx ry h;obtain⟨rfl,q⟩:=h;cases ry;refine is_none_gen (uu I q ?_);cases x<;>first
  |(cases rx;rfl)
  |(obtain⟨t,rfl⟩:=rx;rfl)
theorem Si:OpR X (bq .IsNot) (λx y H Q=>y=.non/\Q (.bl (!decide (x=.non))) H):=by
 intro pins s σ H x y v u Q I rx ry h;obtain⟨rfl,q⟩:=h;cases ry;refine isnot_none_gen (uu I q ?_);cases x<;>first
  |(cases rx;rfl)
  |(obtain⟨t,rfl⟩:=rx;rfl)
theorem Sj(ho:OpR X (bq op) r)(ha:PE X a ta)(hb:PE X b tb)(hm:fM op b=false):PE X (.Compare a [op] [b] pos) (tOp r ta tb):=by intro pins s σ H Q I h;exact wpAny_Compare1 (VJ ha hb I h λv u s2 x y H2 I2 rx ry q=>ho pins s2 σ H2 x y v u Q I2 rx ry q) hm
def O7(t:TE):TT:=λσ H Q=>t σ H λx H'=>∃k,x=.bl k/\Q k H'
theorem Sk(ho:OpR X (bq op) r)(ha:PE X a ta)(hb:PE X b tb)(hm:fM op b=false):PT X (.Compare a [op] [b] pos) (O7 (tOp r ta tb)):=by
 intro pins s σ H Q I h;refine m3 (thn (ha pins s σ H _ I h) λv s1 ⟨x,H1,I1,r1,q1⟩=>thn (hb pins s1 σ H1 _ I1 q1) λu s2 ⟨y,H2,I2,r2,q2⟩=>
  thn (ho pins s2 σ H2 x y v u _ I2 r1 r2 q2) λc s3 ⟨z,H3,I3,r3,k,e,q3⟩=>?_) hm
 subst e;cases r3;exact c8 ⟨H3,I3,q3⟩
def Le(r r':R2)(ta tb tc:TE):TE:=λσ H Q=>ta σ H λx H1=>tb σ H1 λy H2=>r x y H2 λz H3=>∃k,z=.bl k/\
 (if k=true then tc σ H3 λw' H4=>r' y w' H4 Q else Q (.bl false) H3)
theorem O8(ho:OpR X (bq op) r)(ho':OpR X (bq op') r')(ha:PE X a ta)(hb:PE X b tb)(hc:PE X c tc)
  (hm:lastMarks [op,op'] [b,c]=false:=by with_unfolding_all rfl):PE X (.Compare a [op,op'] [b,c] pos) (Le r r' ta tb tc):=by
 intro pins s σ H Q I h;refine Compare_chain (thn (ha pins s σ H _ I h) λv s1 ⟨x,H1,I1,r1,q1⟩=>chain_link (thn (hb pins s1 σ H1 _ I1 q1) λu s2 ⟨y,H2,I2,r2,q2⟩=>
  thn (ho pins s2 σ H2 x y v u _ I2 r1 r2 q2) λd s3 ⟨z,H3,I3,r3,k,e,q3⟩=>?_)) hm
 subst e;cases r3;refine c8 ?_;cases k with
 |false=>exact ite_ff ⟨.bl false,H3,I3,rfl,q3⟩
 |true=>exact ite_tt (chain_last (thn (hc pins s3 σ H3 _ I3 q3) λw' s4 ⟨z',H4,I4,r4,q4⟩=>ho' pins s4 σ H4 y z' u w' Q I4 r2 r4 q4))
theorem O9(ho:OpR X (bq op) r)(ho':OpR X (bq op') r')(ha:PE X a ta)(hb:PE X b tb)(hc:PE X c tc)
  (hm:lastMarks [op,op'] [b,c]=false:=by with_unfolding_all rfl):PT X (.Compare a [op,op'] [b,c] pos) (O7 (Le r r' ta tb tc)):=by
 intro pins s σ H Q I h;refine isTrue_chain (thn (ha pins s σ H _ I h) λv s1 ⟨x,H1,I1,r1,q1⟩=>test_link (thn (hb pins s1 σ H1 _ I1 q1) λu s2 ⟨y,H2,I2,r2,q2⟩=>
  thn (ho pins s2 σ H2 x y v u _ I2 r1 r2 q2) λd s3 ⟨z,H3,I3,r3,k,e,q3⟩=>?_)) hm
 subst e;cases r3;refine c8 ?_;cases k with
 |false=>obtain⟨k',e',q'⟩:=q3;cases e';exact ite_ff ⟨H3,I3,q'⟩
 |true=>refine ite_tt (test_last (thn (hc pins s3 σ H3 _ I3 q3) λw' s4 ⟨z',H4,I4,r4,q4⟩=>thn (ho' pins s4 σ H4 y z' u w' _ I4 r2 r4 q4) λd' s5 ⟨z2,H5,I5,r5,k2,e2,q5⟩=>?_));subst e2;cases r5;exact c8 ⟨H5,I5,q5⟩
theorem Du:(aG:Nat)<2 ^ 63:=by rw[bO];decide
theorem vals1{x:V}(r:Vals [x] us):∃u,us=[u]/\RelV x u:=by
 cases r with
 |cons r1 r2=>cases r2;exact⟨_,rfl,r1⟩
theorem vals2{x:V}(r:Vals [x,y] us):∃u w',us=[u,w']/\RelV x u/\RelV y w':=by
 cases r with
 |cons r1 r2=>
  cases r2 with
  |cons r3 r4=>cases r4;exact⟨_,_,rfl,r1,r3⟩
theorem NS(hc:X.calm=true):ve X (.builtin "min") (λxs H Q=>∃i j,xs=[.int i,.int j]/\Q (.int (if j<i then j else i)) H):=by
 intro pins s σ H xs us Q I r h;obtain⟨i,j,rfl,q⟩:=h;obtain⟨u,w',rfl,⟨t,rfl⟩,⟨t',rfl⟩⟩:=vals2 r;refine min_two_ints (I.ok.hd hc) λh' tk k=>⟨_,H,I.kept k,?_,q⟩;by_cases hj:j<i
 ·rw[af hj,af hj];exact⟨_,rfl⟩
 ·rw[ag hj,ag hj];exact⟨_,rfl⟩
theorem NT:ve X (.type "int") (λxs H Q=>(∃i,xs=[.int i]/\Q (.int i) H)\/∃k,xs=[.bl k]/\Q (.int (if k then 1 else 0)) H):=by
 intro pins s σ H xs us Q I r h;rcases h with ⟨i,rfl,q⟩|⟨k,rfl,q⟩
 ·obtain⟨u,rfl,t,rfl⟩:=vals1 r;exact call_int_int ⟨.int i,H,I,⟨_,rfl⟩,q⟩
 ·obtain⟨u,rfl,r1⟩:=vals1 r;cases r1;exact call_int_bool ⟨.int (if k then 1 else 0),H,I.tok _,⟨_,rfl⟩,q⟩
end
structure Lf(h:Heap)(x dx C:Addr)(mA:Str->Option aa):Prop where
 obj:h.get? x=some (fj C dx)
 ns:h.Ns1 dx mA
 ne:dx≠x
variable{dx:Addr}{mA:Str->Option aa}
theorem NU{h:Heap}(n:h.Ns1 dx mA):∃od,h.get? dx=some od/\∀name,jC name od=some (mA name):=by
 obtain⟨o,es,ep,ho,hd,hk,_,hm⟩:=n;refine⟨o,ho,λname=>?_⟩;have e:=hm name;unfold nsFind findBy at e;rw[<-Array.find?_toList]at e;unfold jC;rw[hd];dsimp only;split
 ·rename_i y q;rw[q]at e;exact bH some e
 ·rename_i q;rw[q]at e;have a:es.toList.any (·.refKey)=false:=by rw[nV];intro y hy;obtain⟨z,t,hkey⟩:=hk y (Array.mem_toList_iff.mp hy);simp[DictEntry.refKey,hkey]
  have a':¬es.toList.any (·.refKey)=true:=by rw[a];exact bj
  rw[ag a'];exact bH some e
variable{C:Addr}
theorem Lf.look{h:Heap}{x:Addr}(I:Lf h x dx C mA):∃od,W.InstAt h x (fj C dx) C (some od)/\∀name,jC name od=some (mA name):=
 let ⟨od,ho,hl⟩:=NU I.ns
 ⟨od,⟨I.obj,rfl,rfl,ho⟩,hl⟩
variable{kw:List (Str×aa)}
section
variable{prog:ay}{w:av}{A:aC}{E:aa->ae->Prop}{s:ae}{K:au}{x dx C f:Addr}{mA:Str->Option aa}{name:Str}{v:aa}
theorem get_map{expr:Bool}(X:K.In s.heap)(I:Lf s.heap x dx C mA)(hg:jz K C name=true)(hh:lD K C=true)
  (ha:cX K (.ref C) name=some none) (hv:mA name=some v) (hv':W.handedIn v=true) (h:Q v { s with toks:=s.toks+1 }):
  ai (model prog w) A (getAttr (.ref x) name expr) Q E s:=by
 obtain⟨od,J,hl⟩:=I.look;exact W.get_value X J (kT hg).1 (W.findObj_own hh ha rfl (by rw[hl,hv])) hv' h
theorem Pa{pl:Sem Bool}{Q:aa×List aa->ae->Prop}(X:K.In s.heap)(I:Lf s.heap x dx C mA)(hg:jz K C name=true)
  (hf:cX K (.ref C) name=some (some (.ref f))) (ht:jG K (.ref f)=true) (hv:mA name=none) (h:Q (.ref f,[.ref x]) s):
  ai (model prog w) A (getMethod (.ref x) name pl) Q E s:=by
 obtain⟨od,J,hl⟩:=I.look;exact W.method_fn X J (kT hg).1 (kT hg).2 hf (beq_iff_eq.mp ht) (by show (jC name od).map (·.isSome)=some false;rw[hl,hv];rfl) h
theorem Sm{ns:aH}{Q:Unit->ae->Prop}(X:K.In s.heap)(I:Lf s.heap x dx C mA)
  (hs:cX K (.ref C) "__setattr__" = some (some (.builtin "object.__setattr__"))) (hp:pS K C=true) (ht:l5 K C name=some none) (hh:lD K C=true)
  (hw:lj mA ns) (hsz:ns.length<=aG)
  (h:∀h',Lf h' x dx C (λy=>if y=name then some v else mA y)->dF dx s.heap h'->Q () { s with heap:=h',toks:=s.toks+2 }):
  ai (model prog w) A (setAttr (.ref x) name v) Q E s:=by
 obtain⟨od,J,hl⟩:=I.look;refine W.set_plain X J hs (W.osa_open (s:={ s with toks:=s.toks+1 }) (r:=none) X J hp ht λb=>?_);obtain⟨cd,hc,hd'⟩:=W.any_some hh;have hx:s.heap.get? x=some ⟨.ref C,some dx,.plain,#[]⟩:=I.obj;refine ah (ar (ah (ah (wpAny_loadPart hx (ah (W.Looks.here (s:={ s with toks:=s.toks+1 }) (W.looks_clsIn X hc) ?_))))));rw[hd'];refine ar (a:=some dx) (ah (ar (ah ?_)));refine wpAny_nsSet1 (s:={ s with toks:=s.toks+1 }) I.ns λh' hn2 hs2=>?_;obtain⟨oD,esD,epD,hoD,hdD,hcD⟩:=hn2.count (sH name v hw);refine ah (wpAny_lookBehind hoD (by rw[hdD];exact pastItsLine_dict (bN hcD (by rw[aO];omega))) ?_);exact ar (h _ ⟨(hs2.2 _ (cZ I.ne)).trans I.obj,hn2,I.ne⟩ hs2)
theorem Pb{R:dM->ae->Prop}{vs:List aa}(X:K.In s.heap)(hm:W.makesIn K C=true)
  (hi:cX K (.ref C) "__init__" = some (some (.ref f))) (hf:W.typeIn K (.ref f)=some (.type "function"))
  (h:cz (model prog w) (A.under (.builtin "type.__call__" ⟨.ref C::vs,kw⟩)) (.call (.ref f) ⟨.ref (s.heap.objs.size+1)::vs,kw⟩) (W.InitBack (s.heap.objs.size+1) R)
   { s with heap:=(s.heap.push ee).push (fj C s.heap.objs.size) }):
  cz (model prog w) A (.call (.ref C) ⟨vs,kw⟩) R s:=by
 obtain⟨hh,g,d,t,os⟩:=s;exact W.make_core (W.makes_of X hm) (W.looks_findIn X hi) (λself=>W.bind_fn X self hf) (.inl rfl) h
end
def zv(f:Str)(v:V):List (Str×V)->List (Str×V)
 |[]=>[(f,v)]
 |(g,x)::r=>if g=f then (g,v)::r else (g,x)::zv f v r
theorem DY(f g:Str)(v:V):∀fs:List (Str×V),(zv f v fs).lookup g=if g=f then some v else fs.lookup g
 |[]=>by
  show dc g [(f,v)]=_;by_cases h:g=f
  ·have hb:(g==f)=true:=beq_iff_eq.mpr h;simp only[dc,hb,af h]
  ·have hb:(g==f)=false:=beq_eq_false_iff_ne.mpr h;simp only[dc,hb,ag h]
 |(k,x)::r=>by
  have ih:=DY f g v r;rw[show zv f v ((k,x)::r)=(if k=f then (k,v)::r else (k,x)::zv f v r) from rfl];by_cases hk:k=f
  ·rw[af hk];by_cases h:g=k
   ·have hb:(g==k)=true:=beq_iff_eq.mpr h;simp only[dc,hb,af (h.trans hk)]
   ·have hb:(g==k)=false:=beq_eq_false_iff_ne.mpr h;simp only[dc,hb,ag (λe:g=f=>h (e.trans hk.symm))]
  ·rw[ag hk];by_cases h:g=k
   ·have hb:(g==k)=true:=beq_iff_eq.mpr h;simp only[dc,hb,ag (λe:g=f=>hk (h.symm.trans e))]
   ·have hb:(g==k)=false:=beq_eq_false_iff_ne.mpr h;simp only[dc,hb];exact ih
theorem Dv(f:Str)(v:V):∀fs:List (Str×V),f∈(zv f v fs).map (·.1)/\∀g,g∈fs.map (·.1)->g∈(zv f v fs).map (·.1)
 |[]=>⟨by simp[zv],λg h=>by simp at h⟩
 |(k,x)::r=>by
  obtain⟨i1,i2⟩:=Dv f v r;rw[show zv f v ((k,x)::r)=(if k=f then (k,v)::r else (k,x)::zv f v r) from rfl];by_cases hk:k=f
  ·rw[af hk];subst hk;exact⟨by simp,λg h=>by simpa using h⟩
  ·rw[ag hk];refine⟨?_,λg h=>?_⟩
   ·rw[aK];exact ba _ i1
   ·rw[aK]at h ⊢;rcases aT.mp h with e|e
    ·exact aT.mpr (.inl e)
    ·exact ba _ (i2 g e)
theorem DZ(f:Str)(v:V):∀fs:List (Str×V),(zv f v fs).length<=fs.length+1
 |[]=>by simp[zv]
 |(k,x)::r=>by
  have ih:=DZ f v r;rw[show zv f v ((k,x)::r)=(if k=f then (k,v)::r else (k,x)::zv f v r) from rfl];by_cases hk:k=f
  ·rw[af hk,aO,aO];omega
  ·rw[ag hk,aO,aO];omega
theorem AO.some_of{v:V}{o:Option aa}(r:AO (some v) o):∃u,o=some u/\RelV v u:=by
 cases o with
 |none=>exact(show False from r).elim
 |some u=>exact⟨u,rfl,r⟩
theorem AO.none_of{o:Option aa}(r:AO none o):o=none:=by
 cases o with
 |none=>rfl
 |some u=>exact(show False from r).elim
theorem NV{v:V}(r:RelV v u):W.handedIn u=true:=by
 cases v with
 |non=>cases (show u=Value.none from r);rfl
 |bl b=>cases (show u=Value.bool b from r);rfl
 |int i=>obtain⟨t,e⟩:=(show ∃t,u=Value.int i t from r);cases e;rfl
 |str x=>obtain⟨t,e⟩:=(show ∃t,u=Value.str x t from r);cases e;rfl
 |byt b=>obtain⟨t,e⟩:=(show ∃t,u=Value.bytes b t from r);cases e;rfl
 |flt b=>obtain⟨t,e⟩:=(show ∃t,u=Value.float b t from r);cases e;rfl
 |ref a=>cases (show u=Value.ref a from r);rfl
 |ty n=>cases (show u=Value.type n from r);rfl
section
variable{P:ay}{w:av}{H H':Hp}{h h':Heap}{a C dx:Addr}{fs fs':List (Str×V)}
theorem EV(hok:HOk P w H h)(e:H a=some (.ins C dx fs)):∃mA,Lf h a dx C mA/\(∀f,AO (fs.lookup f) (mA f))/\lj mA (fs.map (·.1))/\fs.length<=1000/\H dx=some (.own a):=by obtain⟨d,z,ne,ob,mA,n,r,q⟩:=(show uT P w H h a (.ins C dx fs) from hok a _ e);exact⟨mA,⟨ob,n,ne⟩,r,q,z,d⟩
end
structure Cls(K:au)(C:Addr):Prop where
 pg:jz K C Str.empty=true
 hd:lD K C=true
 po:pS K C=true
 sa:cX K (.ref C) "__setattr__" = some (some (.builtin "object.__setattr__"))
theorem Cls.get{K:au}(c:Cls K C)(f:Str):jz K C f=true:=c.pg
def yk(K:au)(C:Addr)(f:Str):Prop:=cX K (.ref C) f=some none
theorem yk.taker{K:au}{f:Str}(n:yk K C f):l5 K C f=some none:=by unfold l5;rw[show cX K (.ref C) f=some none from n];rfl
structure Meth(K:au)(C:Addr)(m:Str)(f:Addr):Prop where
 at_:cX K (.ref C) m=some (some (.ref f))
 fn:jG K (.ref f)=true
 kp:dH K (.ref f)=true
section
variable{X:Cx}{pins:cp}{σ:St}{H:Hp}{s:ae}{a C dx:Addr}{fs:List (Str×V)}{f:Str}{v:V}{A:aC}{E:aa->ae->Prop}
theorem Lg{b:Bool}(I:Inv X pins σ H s)(e:H a=some (.ins C dx fs))(c:Cls X.K C)(n:yk X.K C f)(l:fs.lookup f=some v)
  (h:∀u s',Inv X pins σ H s'->RelV v u->Q u s'):ai (model X.prog X.w) A (getAttr (.ref a) f b) Q E s:=by
 obtain⟨mA,O,r,_,_,_⟩:=EV I.hok e;obtain⟨u,hu,ru⟩:=AO.some_of (v:=v) (o:=mA f) (by rw[<-l];exact r f);exact get_map I.kIn O (c.get f) c.hd n hu (NV ru) (h u _ (I.tok _) ru)
theorem Fj{m:Str}{g:Addr}{pl:Sem Bool}{Q:aa×List aa->ae->Prop}(I:Inv X pins σ H s)(e:H a=some (.ins C dx fs))(c:Cls X.K C)(k:Meth X.K C m g)(l:fs.lookup m=none)
  (h:Q (.ref g,[.ref a]) s):ai (model X.prog X.w) A (getMethod (.ref a) m pl) Q E s:=by
 obtain⟨mA,O,r,_,_,_⟩:=EV I.hok e;have hn:mA m=none:=AO.none_of (by rw[<-l];exact r m);exact Pa I.kIn O (c.get m) k.at_ k.fn hn h
theorem Lh{Q:Unit->ae->Prop}(I:Inv X pins σ H s)(e:H a=some (.ins C dx fs))(c:Cls X.K C)(n:yk X.K C f)(hl:fs.length<1000)(ry:RelV y u)
  (h:∀s',Inv X pins σ (upd H a (.ins C dx (zv f y fs))) s'->Q () s'):ai (model X.prog X.w) A (setAttr (.ref a) f u) Q E s:=by
 obtain⟨mA,O,r,wi,_,ho⟩:=EV I.hok e;have hz:(fs.map (·.1)).length<=aG:=by rw[aj,bO];omega
 refine Sm I.kIn O c.sa c.po n.taker c.hd wi hz λh' O' sb=>h _ ?_;have hd:∃o,h'.get? dx=some o:=let ⟨o,_,_,e',_⟩:=O'.ns;⟨o,e'⟩;refine I.write (x:=a) (e:=dx) (by rw[e];exact True.intro) (.inr ho) (λb q hb z=>(sb.2 b hb).trans z) hd ?_;refine⟨by rw[tK O.ne];exact ho,?_,O.ne,O'.obj,_,O'.ns,λg=>?_,λg hg=>?_⟩
 ·have:=DZ f y fs;omega
 ·show AO ((zv f y fs).lookup g) (if g=f then some u else mA g);rw[DY];by_cases q:g=f
  ·rw[af q,af q];exact ry
  ·rw[ag q,ag q];exact r g
 ·by_cases q:g=f
  ·rw[q];exact(Dv f y fs).1
  ·refine(Dv f y fs).2 g (wi g λz=>hg ?_);show (if g=f then some u else mA g)=none;rw[ag q];exact z
theorem Inv.made(I:Inv X pins σ H s):Inv X pins σ (upd (upd H s.heap.objs.size (.own (s.heap.objs.size+1))) (s.heap.objs.size+1) (.ins C s.heap.objs.size []))
  { s with heap:=(s.heap.push ee).push (fj C s.heap.objs.size) }:=by
 have e1:(s.heap.push ee).get? s.heap.objs.size=some ee:=bu s.heap rfl;have e2:((s.heap.push ee).push (fj C s.heap.objs.size)).get? (s.heap.objs.size+1)=some (fj C s.heap.objs.size):=by
  have:=bu (s.heap.push ee) (o:=fj C s.heap.objs.size) rfl
  rwa [cW]at this
 have e3:(s.heap.push ee).Ns s.heap.objs.size (λ_=>none):=⟨ee,#[],_,e1,rfl,(λe he=>ao he (by simp)),λ_=>rfl⟩;have I1:=I.laid (a:=s.heap.objs.size) (o:=.own (s.heap.objs.size+1)) (h':=s.heap.push ee) (t':=s.toks) (λb u q=>aN _ q) (aJ _) ⟨_,e1⟩;refine I1.laid (a:=s.heap.objs.size+1) (o:=.ins C s.heap.objs.size []) (t':=s.toks) (λb u q=>aN _ q) (pG (cW _ _)) ?_;have ne:s.heap.objs.size≠s.heap.objs.size+1:=aY (dv _);refine⟨by rw[tK ne,tG],cf _,ne,e2,λ_=>none,(Heap.Ns1.of_empty e3).at λo q=>aN _ q,λ_=>True.intro,λy hy=>ao rfl hy⟩
theorem Sn{prog:ay}{w:av}{env:Env}{f:Str}{s:ae}(hb:eV e f env (eval e env)=eval e env)
  (h:ai (model prog w) A (eval e env) (λo s₁=>ai (model prog w) A (getAttr o f true) Q E s₁) E s):ai (model prog w) A (eval (.Attribute e f pos) env) Q E s:=
 Attribute_any_ h (by rw[arm_eval_Attribute,hb])
end
def tFld(K:au)(ta:TE)(f:Str):TE:=λσ H Q=>ta σ H λx H1=>∃a C dx fs v,x=.ref a/\H1 a=some (.ins C dx fs)/\Cls K C/\yk K C f/\fs.lookup f=some v/\Q v H1
def Zy(K:au)(ta tv:TE)(f:Str):TS:=λD σ H=>tv σ H λy H1=>ta σ H1 λx H2=>∃a C dx fs,x=.ref a/\H2 a=some (.ins C dx fs)/\Cls K C/\yk K C f/\fs.length<1000/\
 D.nx σ (upd H2 a (.ins C dx (zv f y fs)))
section
variable{X:Cx}{o e value:Expr}{f:Str}{pos pos' tpos:Pos}{ta tv:TE}
theorem VR(he:PE X e ta)(hb:eV e f X.env (eval e X.env)=eval e X.env):PE X (.Attribute e f pos) (tFld X.K ta f):=by intro pins s σ H Q I h;refine Sn hb (thn (he pins s σ H _ I h) λu s1 zz=>?_);obtain⟨x,H1,I1,rx,a,C,dx,fs,v,ex,ea,c,n,l,q⟩:=zz;subst ex;obtain rfl:u=Value.ref a:=rx;exact Lg I1 ea c n l λu' s2 I2 ru=>⟨v,H1,I2,ru,q⟩
theorem VS(ha:PE X o ta)(hv:PE X value tv)(hs:dg value (some (.Attribute o f pos')) pos.line X.env=pure false):PS X (.Assign [.Attribute o f pos'] value pos) (Zy X.K ta tv f):=by intro pins s σ H D I h;refine plainObj_wpAny_Assign_Attribute (thn (hv pins s σ H _ I h) λu s1 ⟨y,H1,I1,ry,q⟩=>thn (ha pins s1 σ H1 _ I1 q) λov s2 zz=>?_) hs;obtain⟨x,H2,I2,rx,a,C,dx,fs,ex,ea,c,n,l,q2⟩:=zz;subst ex;obtain rfl:ov=Value.ref a:=rx;exact Lh I2 ea c n l ry λs3 I3=>⟨σ,_,I3,q2⟩
end
section
variable{X:Cx}{pins:cp}{σ:St}{H:Hp}{s:ae}{A:aC}{E:aa->ae->Prop}{Q:aa->ae->Prop}{c:aa}{b:Bool}
inductive EJ(K:au) (H:Hp):V->aa->Prop where
 |non:EJ K H .non (.type "NoneType")
 |bl (x:Bool):EJ K H (.bl x) (.type "bool")
 |int (i:Int):EJ K H (.int i) (.type "int")
 |str (x:Str):EJ K H (.str x) (.type "str")
 |flt (x:UInt64):EJ K H (.flt x) (.type "float")
 |lst {a:Addr} {xs:bA} (e:H a=some (.lst xs)):EJ K H (.ref a) (.type "list")
 |frz {a:Addr} {o:Obj} {xs:bA} (e:H a=some (.frz o (.lst xs))):EJ K H (.ref a) (.type "list")
 |tup {a:Addr} {xs:bA} (e:H a=some (.tup xs)):EJ K H (.ref a) (.type "tuple")
 |dK {a:Addr} {kvs:List (Key×V)} (e:H a=some (.dK kvs)):EJ K H (.ref a) (.type "dict")
 |dT {a:Addr} {kvs:List (List Key×V)} (e:H a=some (.dT kvs)):EJ K H (.ref a) (.type "dict")
 |ins {a C dx:Addr} {fs:List (Str×V)} (e:H a=some (.ins C dx fs)) (cl:Cls K C) (ha:cX K (.ref C) "__class__" = some (some (.builtin "object.__class__")))
   (hn:pT K (.builtin "object.__class__") "__get__" = some (some (.builtin "getset_descriptor.__get__"))) (htk:W.takesIn K (.builtin "object.__class__")=some true)
   (hm:W.mroIn K C (.type "object")=some true):EJ K H (.ref a) (.ref C)
theorem yf{x:V}{t:aa}(I:Inv X pins σ H s)(rx:RelV x u)(ty:EJ X.K H x t)(e:cY X.K t c=some b)(h:∀tk,Q (.bool b) { s with toks:=tk }):
  ai (model X.prog X.w) A (call (.builtin "isinstance") [u,c]) Q E s:=by
 cases ty with
 |non=>cases (show u=Value.none from rx);exact cH W.kitx_none I.kIn True.intro e (λz=>nomatch z) h
 |bl y=>cases (show u=Value.bool y from rx);exact cH W.kitx_bool I.kIn True.intro e (λz=>nomatch z) h
 |int i=>obtain⟨t,q⟩:=(show ∃t,u=Value.int i t from rx);cases q;exact cH W.kitx_int I.kIn True.intro e (λz=>nomatch z) h
 |str y=>obtain⟨t,q⟩:=(show ∃t,u=Value.str y t from rx);cases q;exact cH W.kitx_str I.kIn True.intro e (λz=>nomatch z) h
 |flt y=>obtain⟨t,q⟩:=(show ∃t,u=Value.float y t from rx);cases q;exact cH W.kitx_float I.kIn True.intro e (λz=>nomatch z) h
 |@lst a xs ea=>cases (show u=Value.ref a from rx);obtain⟨_,_,n,_,h1⟩:=(show uT X.prog X.w H s.heap a (.lst xs) from I.hok a _ ea);exact cH lE I.kIn ⟨_,h1,rfl⟩ e (λz=>nomatch z) h
 |@frz a ob xs ea=>cases (show u=Value.ref a from rx);obtain⟨_,_,_,n,_,h1⟩:=(show uT X.prog X.w H s.heap a (.frz ob (.lst xs)) from I.hok a _ ea);exact cH lE I.kIn ⟨_,h1,rfl⟩ e (λz=>nomatch z) h
 |@tup a xs ea=>cases (show u=Value.ref a from rx);obtain⟨_,_,_,p⟩:=(show uT X.prog X.w H s.heap a (.tup xs) from I.hok a _ ea);obtain⟨o,h1,h2,_⟩:=p;exact cH pH I.kIn ⟨o,h1,h2⟩ e (λz=>nomatch z) h
 |@dK a kvs ea=>cases (show u=Value.ref a from rx);obtain⟨_,_,vs,_,p⟩:=(show uT X.prog X.w H s.heap a (.dK kvs) from I.hok a _ ea);obtain⟨o,es,ep,h1,h2,_⟩:=p;exact cH lF I.kIn ⟨o,h1,h2.1⟩ e (λz=>nomatch z) h
 |@dT a kvs ea=>cases (show u=Value.ref a from rx);obtain⟨_,_,xs,_,o,es,ep,h1,h2,_⟩:=(show uT X.prog X.w H s.heap a (.dT kvs) from I.hok a _ ea);exact cH lF I.kIn ⟨o,h1,h2.1⟩ e (λz=>nomatch z) h
 |@ins a C dx fs ea cl ha hn htk hm=>cases (show u=Value.ref a from rx);obtain⟨mA,O,_⟩:=EV I.hok ea;obtain⟨od,J,_⟩:=O.look;exact cH (W.kitx_own (cl.get _) cl.hd ha hn htk hm) I.kIn J e (λz=>nomatch z) h
end
structure vn(k:Nat)(A:aC):Prop where
 hd:A.handled=none
 dp:A.depth+3 * k+5<recursionLimit
 un:A.units+16 * k+200<cLine
theorem vn.mono{k:Nat}{A:aC}(r:vn k A)(h:j<=k):vn j A:=⟨r.hd,by have:=r.dp;omega,by have:=r.un;omega⟩
theorem vn.deeper{k:Nat}{A:aC}(r:vn (k+1) A)(env:Env):vn k (A.deeper env):=
 ⟨r.hd,by have:=r.dp;show A.depth+1+3 * k+5<_;omega,by have:=r.un;show A.units+3+16 * k+200<_;omega⟩
theorem Li{A:aC}:(A.under (.builtin "type.__call__" ⟨.ref C::us,kw⟩)).depth=A.depth+1:=by
 first|rfl|simp[lp,Code.weight,Code.isCreation,Code.isGuard,Code.isCaller,pU,lq,guardIds]
theorem Lj{A:aC}:(A.under (.builtin "type.__call__" ⟨.ref C::us,kw⟩)).units=A.units+1:=by
 first|rfl|simp[lp,Code.cUnits,pU,lq]
theorem vn.make{k:Nat}{A:aC}(r:vn (k+1) A)(C:Addr)(us:List aa)(kw:List (Str×aa)):vn k (A.under (.builtin "type.__call__" ⟨.ref C::us,kw⟩)):=
 ⟨r.hd,by have:=r.dp;rw[Li];omega,by have:=r.un;rw[Lj];omega⟩
theorem vn.depth{k:Nat}{A:aC}(r:vn k A):A.depth<recursionLimit:=by have:=r.dp;omega
theorem vn.units{k:Nat}{A:aC}(r:vn k A):A.units+64<cLine:=by have:=r.un;omega
def JP:TA:=λ_ H Q=>Q [] H
def Fk(ta:TE)(tr:TA):TA:=λσ H Q=>ta σ H λx H1=>tr σ H1 λxs H2=>Q (x::xs) H2
section
variable{X:Cx}{e:Expr}{es:List Expr}{te:TE}{t:TA}{pos:Pos}
theorem zT:PA X [] JP:=λ_ _ _ _ H Q I h=>fH ⟨[],H,I,.nil,h⟩
theorem wW(ha:PE X e te)(hr:PA X es t)(hs:aE (e::es) X.env=(false,eval e X.env)::aE es X.env:=by rfl):PA X (e::es) (Fk te t):=by intro pos pins s σ H Q I h;rw[hs];show ai _ _ (spliced ((false,eval e X.env)::bD pos (aE es X.env))) _ _ s;refine dU (thn (ha pins s σ H _ I h) λu s1 zz=>?_);obtain⟨x,H1,I1,r1,q1⟩:=zz;exact thn (hr pos pins s1 σ H1 _ I1 q1) λus s2 ⟨xs,H2,I2,r2,q2⟩=>⟨x::xs,H2,I2,.cons r1 r2,q2⟩
def tTup(t:TA):TE:=λσ H Q=>t σ H λxs H1=>xs.length<=aG/\∀p,H1 p=none->Q (.ref p) (upd H1 p (.tup xs))
def Zz(t:TA):TE:=λσ H Q=>t σ H λxs H1=>xs.length<=aG/\∀p,H1 p=none->Q (.ref p) (upd H1 p (.lst xs))
theorem VT{x1}(h:PA X es t):PE X (.Tuple es x1 pos) (tTup t):=by intro pins s σ H Q I hq;refine wpAny_Tuple_spliced (thn (h pos pins s σ H _ I hq) λus s1 ⟨xs,H1,I1,r,z,q⟩=>⟨by rw[<-r.length];exact z,?_⟩);have hf:H1 s1.heap.objs.size=none:=I1.hok.fresh (aJ _);refine⟨.ref s1.heap.objs.size,upd H1 s1.heap.objs.size (.tup xs),I1.laid (t':=s1.toks) (λb u e=>aN _ e) (aJ _) ?_,rfl,q _ hf⟩;exact⟨z,us,r,⟨_,bu _ rfl,rfl,_,rfl⟩⟩
theorem Pc(h:PA X es t):PE X (.List es pos) (Zz t):=by intro pins s σ H Q I hq;refine wpAny_List_spliced (thn (h pos pins s σ H _ I hq) λus s1 ⟨xs,H1,I1,r,z,q⟩=>⟨by rw[<-r.length];exact z,?_⟩);have hf:H1 s1.heap.objs.size=none:=I1.hok.fresh (aJ _);refine⟨.ref s1.heap.objs.size,upd H1 s1.heap.objs.size (.lst xs),I1.laid (t':=s1.toks) (λb u e=>aN _ e) (aJ _) ?_,rfl,q _ hf⟩;exact⟨z,us,0,r,bu _ rfl⟩
end
abbrev Sp:=bA->Hp->VK->XK->Prop
abbrev CXT:=List Env->Hp->ae->XK->aa->ae->Prop
structure Lk(P:ay)(w:av)(K:au)(mg:Str->Option aa)(base:Heap)(A:aC)(outer:List Env)(s:ae)(H:Hp):Prop where
 frames:A.frames=some outer
 mod:Mod K mg base
 bs:∀b o,base.get? b=some o->s.heap.get? b=some o/\H b=none
 bsz:base.objs.size<=s.heap.objs.size
 funs:s.heap.FunFrames base outer
 frf:∀b∈frs outer,H b=none
 hok:HOk P w H s.heap
 bare:eA s.gens
def CE(outer:List Env)(P:ay)(w:av)(H:Hp)(s:ae)(Q:VK)(u:aa)(s':ae):Prop:=
 ∃v H',s'.os=s.os/\eA s'.gens/\Un (frs outer) [] H H' s.heap s'.heap/\HOk P w H' s'.heap/\RelV v u/\Q v H'
def CR(CX:CXT)(outer:List Env)(P:ay)(w:av)(H:Hp)(s:ae)(Q:VK)(E:XK)(r:dM)(s':ae):Prop:=
 match r with
 |.ok (.ret u)=>CE outer P w H s Q u s'
 |.ok _=>False
 |.error e=>CX outer H s E e s'
structure xn(P:ay)(w:av)(K:au)(mg:Str->Option aa)(base:Heap)(CX:CXT)(k:Nat)(f:Addr)(fd:bQ)(ps:aH)(sp:Sp):Prop where
 len:∀vs H Q E,sp vs H Q E->vs.length=ps.length
 run:∀(A:aC) (outer:List Env) (s:ae) (H:Hp) (args:Args) (us:List aa) (vs:bA) (Q:VK) (E:XK),vn k A->Lk P w K mg base A outer s H->gO s fd args (ps.zip us)->Vals vs us->sp vs H Q E->
  cz (model P w) A (.call (.ref f) args) (CR CX outer P w H s Q E) s
variable{mg:Str->Option aa}{base:Heap}{CX:CXT}{fd:bQ}{ps:aH}{sp:Sp}
theorem xn.mono{P:ay}{w:av}{K:au}{k:Nat}{f:Addr}(F:xn P w K mg base CX j f fd ps sp)(h:j<=k):
  xn P w K mg base CX k f fd ps sp:=⟨F.len,λA outer s H args us vs Q E hr=>F.run A outer s H args us vs Q E (hr.mono h)⟩
theorem xn.imp{P:ay}{w:av}{K:au}{k:Nat}{f:Addr}{sp':Sp}(F:xn P w K mg base CX k f fd ps sp)
  (h:∀vs H Q E,sp' vs H Q E->sp vs H Q E):xn P w K mg base CX k f fd ps sp':=
 ⟨λvs H Q E q=>F.len vs H Q E (h _ _ _ _ q),λA outer s H args us vs Q E hr he hb hv hs=>F.run A outer s H args us vs Q E hr he hb hv (h _ _ _ _ hs)⟩
variable{outer:List Env}
theorem Lk.make{P:ay}{w:av}{K:au}{A:aC}{s:ae}{H:Hp}(e:Lk P w K mg base A outer s H)(C:Addr)(us:List aa)(kw:List (Str×aa)):
  Lk P w K mg base (A.under (.builtin "type.__call__" ⟨.ref C::us,kw⟩)) outer s H:=⟨by first|exact e.frames|(simpa [lp,Code.envs,lq,pushEnvs]using e.frames),e.mod,e.bs,e.bsz,e.funs,e.frf,e.hok,e.bare⟩
section
variable{X:Cx}{pins:cp}{σ:St}{H:Hp}{s s':ae}
theorem Inv.env0(I:Inv X pins σ H s):Lk X.prog X.w X.K X.mg X.base X.A X.stack s H:=
 ⟨I.ok.frames,I.ok.mod,I.bs,bN I.ok.bsz I.sz,I.stack,I.stkFree,I.hok,I.bare⟩
theorem Inv.after{Q:VK}(I:Inv X pins σ H s)(h:CE X.stack X.prog X.w H s Q u s'):EP X pins σ Q u s':=by obtain⟨v,H',os,bare,un,hok,r,q⟩:=h;obtain⟨hh,g,d,t,os'⟩:=s';obtain rfl:os'=s.os:=os;exact⟨v,H',I.call (h':=hh) (g':=g) (d':=d) (t':=t) (ch:=[]) un hok bare (λb z=>ao z (by simp)),r,q⟩
end
def D2(sp:Sp)(dvs:bA)(E:XK)(t:TA):TE:=λσ H Q=>t σ H λvs H1=>sp (vs++dvs) H1 Q E
def UR(C:Addr)(sp:Sp)(dvs:bA)(E:XK)(t:TA):TE:=λσ H Q=>t σ H λvs H1=>∀x dx,H1 x=none->H1 dx=none->dx≠x->
 sp (.ref x::(vs++dvs)) (upd (upd H1 dx (.own x)) x (.ins C dx [])) (λv H2=>v=.non/\Q (.ref x) H2) E
def Binds(K:au)(fd:bQ)(ps:aH)(ds:List aa):Prop:=
 ∀(s:ae) (us:List aa),K.In s.heap->(us++ds).length=ps.length->gO s fd ⟨us,[]⟩ (ps.zip (us++ds))
theorem Binds.all{K:au}(h:∀us:List aa,us.length=ps.length->bindArgs fd ⟨us,[]⟩=pure (ps.zip us)):Binds K fd ps []:=λs us _ hl=>by rw[bG]at hl ⊢;exact .of_eq (h us hl)
def Passes(CX:CXT)(X:Cx)(E:XK):Prop:=∀(pins:cp) (σ:St) (H:Hp) (s:ae) (e:aa) (s':ae),Inv X pins σ H s->CX X.stack H s E e s'->X.xe e s'
variable{vs:bA}
section
variable{X:Cx}{CX:CXT}{k:Nat}{f C:Addr}{fd:bQ}{ps:aH}{sp:Sp}{dvs:bA}{ds:List aa}{E:XK}{x m:Str}{p pos apos:Pos}{e o:Expr}{es:List Expr}{ta:TE}{t:TA}
theorem IK{H:Hp}{s:ae}{Q:VK}(F:xn X.prog X.w X.K X.mg X.base CX k f fd ps sp)(hr:vn k X.A)(hb:Binds X.K fd ps ds)(hd:Vals dvs ds)(hx:Passes CX X E)
  (I:Inv X pins σ H s) (r:Vals vs us) (h:sp (vs++dvs) H Q E):ai (model X.prog X.w) X.A (call (.ref f) us) (EP X pins σ Q) X.xe s:=by
 have r2:Vals (vs++dvs) (us++ds):=r.append hd;have hl:(us++ds).length=ps.length:=by rw[<-r2.length];exact F.len _ _ _ _ h
 refine lX (gz (F.run X.A X.stack s H ⟨us,[]⟩ (us++ds) (vs++dvs) Q E hr I.env0 (hb s us I.kIn hl) r2 h) λr s' hq=>?_);cases r with
 |error e=>exact hx pins σ H s e s' I hq
 |ok fl=>
  cases fl with
  |ret u=>exact I.after hq
  |next=>exact cN hq
  |brk=>exact cN hq
  |cont=>exact cN hq
theorem IL(F:xn X.prog X.w X.K X.mg X.base CX k f fd ps sp)(hr:vn k X.A)(hg:Gl X x)(hm:X.mg x=some (.ref f))(hk:dH X.K (.ref f)=true)(hb:Binds X.K fd ps ds)(hd:Vals dvs ds)(hx:Passes CX X E)
  (ha:PA X (e::es) t) (hdb:(x==("__debug__" : Str))=false:=by decide) (he:aE (e::es) X.env=(false,eval e X.env)::aE es X.env:=by rfl) (hpl:(bD pos (aE es X.env)).any (·.1)=false:=by rfl):
  PE X (.Call (.Name x p) (e::es) [] pos) (D2 sp dvs E t):=by
 intro pins s σ H Q I h;refine dW (EU I hg hm ?_ hdb);refine lu (h₀:=X.base) I.ok.mod.kin hk (thn (ha pos pins s σ H _ I h) λus s1 ⟨vs,H1,I1,r,q⟩=>⟨I1.kIn,?_⟩) he hpl;exact IK F hr hb hd hx I1 r q
theorem Pd(F:xn X.prog X.w X.K X.mg X.base CX k f fd ps sp)(hr:vn k X.A)(hg:Gl X x)(hm:X.mg x=some (.ref f))(hk:dH X.K (.ref f)=true)(hb:Binds X.K fd ps ds)(hd:Vals dvs ds)(hx:Passes CX X E)
  (hdb:(x==("__debug__" : Str))=false:=by decide):PE X (.Call (.Name x p) [] [] pos) (D2 sp dvs E JP):=by
 intro pins s σ H Q I h;refine dW (EU I hg hm ?_ hdb);exact pq I.kIn hk (IK (us:=[]) F hr hb hd hx I .nil h)
structure Mk(K:au)(C f:Addr):Prop where
 makes:W.makesIn K C=true
 init:cX K (.ref C) "__init__" = some (some (.ref f))
 fn:jG K (.ref f)=true
 kp:dH K (.ref C)=true
theorem Pe{H:Hp}{s:ae}{Q:VK}(M:Mk X.K C f)(F:xn X.prog X.w X.K X.mg X.base CX k f fd ps sp)(hr:vn (k+1) X.A)(hb:Binds X.K fd ps ds)(hd:Vals dvs ds)
  (hx:Passes CX X E) (I:Inv X pins σ H s) (r:Vals vs us)
  (h:∀x dx,H x=none->H dx=none->dx≠x->sp (.ref x::(vs++dvs)) (upd (upd H dx (.own x)) x (.ins C dx [])) (λv H2=>v=.non/\Q (.ref x) H2) E):
  ai (model X.prog X.w) X.A (call (.ref C) us) (EP X pins σ Q) X.xe s:=by
 have hq:=h (s.heap.objs.size+1) s.heap.objs.size (I.hok.fresh (jw _)) (I.hok.fresh (aJ _)) (aY (dv _));have I2:=Inv.made (C:=C) I;have r2:Vals (V.ref (s.heap.objs.size+1)::(vs++dvs)) (Value.ref (s.heap.objs.size+1)::(us++ds)):=.cons rfl (r.append hd);have hl:(Value.ref (s.heap.objs.size+1)::us++ds).length=ps.length:=by have e:=r2.length;rw[F.len _ _ _ _ hq]at e;exact e.symm
 refine lX (Pb (f:=f) I.kIn M.makes M.init (beq_iff_eq.mp M.fn) (gz (F.run _ X.stack _ _ ⟨Value.ref (s.heap.objs.size+1)::us,[]⟩ (Value.ref (s.heap.objs.size+1)::(us++ds)) _ _ E (hr.make C us [])
  (I2.env0.make C us []) (hb _ (Value.ref (s.heap.objs.size+1)::us) I2.kIn hl) r2 hq) λr s' hq'=>?_))
 cases r with
 |error e=>exact hx pins σ _ _ e s' I2 hq'
 |ok fl=>
  cases fl with
  |ret u=>obtain⟨v,H',I3,rv,ev,q3⟩:=I2.after hq';subst ev;exact⟨rv,⟨V.ref (s.heap.objs.size+1),H',I3,rfl,q3⟩⟩
  |next=>exact cN hq'
  |brk=>exact cN hq'
  |cont=>exact cN hq'
theorem So(M:Mk X.K C f)(F:xn X.prog X.w X.K X.mg X.base CX k f fd ps sp)(hr:vn (k+1) X.A)(hg:Gl X x)(hm:X.mg x=some (.ref C))(hb:Binds X.K fd ps ds)(hd:Vals dvs ds)(hx:Passes CX X E)
  (ha:PA X (e::es) t) (hdb:(x==("__debug__" : Str))=false:=by decide) (he:aE (e::es) X.env=(false,eval e X.env)::aE es X.env:=by rfl) (hpl:(bD pos (aE es X.env)).any (·.1)=false:=by rfl):
  PE X (.Call (.Name x p) (e::es) [] pos) (UR C sp dvs E t):=by
 intro pins s σ H Q I h;refine dW (EU I hg hm ?_ hdb);refine lu (h₀:=X.base) I.ok.mod.kin M.kp (thn (ha pos pins s σ H _ I h) λus s1 ⟨vs,H1,I1,r,q⟩=>⟨I1.kIn,?_⟩) he hpl;exact Pe M F hr hb hd hx I1 r q
end
structure vy(N P:aH)(sc:cO):Prop where
 kind:sc.kind=.function
 co:sc.isCoroutine=false
 gen:sc.isGenerator=false
 nd:N.Nodup
 pre:N.take P.length=P
 par:∀x∈P,sc.names.lookup x=some .local\/sc.names.lookup x=some .cell
 nofree:∀y∈sc.names,y.2≠.free
theorem Hk{kindOf:Str->Option dJ}{x:Str}:∀{binds:List (Str×aa)} {m:Str->Option aa},(∀v,(x,v)∉binds)->bindL kindOf binds m x=m x
 |[],_,_=>rfl
 |(n,v)::r,m,h=>by
  unfold bindL;rw[Hk λw hw=>h w (ba _ hw)];split
  ·have:x≠n:=by rintro rfl;exact h v aV
   simp[this]
  ·rfl
theorem Hl{kindOf:Str->Option dJ}{x:Str}:∀{binds:List (Str×aa)} {m:Str->Option aa},(∀v,(x,v)∉binds)->bindC kindOf binds m x=m x
 |[],_,_=>rfl
 |(n,v)::r,m,h=>by
  unfold bindC;rw[Hl λw hw=>h w (ba _ hw)];split
  ·rfl
  ·have:x≠n:=by rintro rfl;exact h v aV
   simp[this]
theorem Hm{kindOf:Str->Option dJ}{x:Str}{v:aa}:∀{P:aH} {vs:List aa} {i:Nat} {m:Str->Option aa},P.Nodup->P[i]?=some x->vs[i]?=some v->kindOf x=some .local->
  bindL kindOf (P.zip vs) m x=some v
 |[],_,_,_,_,h,_,_=>by simp at h
 |_::_,[],_,_,_,_,h,_=>by simp at h
 |p::P,w::vs,0,m,nd,h1,h2,hk=>by simp at h1 h2;subst h1;subst h2;show bindL kindOf ((p,w)::P.zip vs) m p=_;unfold bindL;rw[Hk λv hv=>(c9.mp nd).1 (jo hv).1,af hk];simp
 |p::P,w::vs,i+1,m,nd,h1,h2,hk=>by show bindL kindOf ((p,w)::P.zip vs) m x=_;unfold bindL;exact Hm (i:=i) (c9.mp nd).2 (by simpa using h1) (by simpa using h2) hk
theorem Hn{kindOf:Str->Option dJ}{x:Str}{v:aa}:∀{P:aH} {vs:List aa} {i:Nat} {m:Str->Option aa},P.Nodup->P[i]?=some x->vs[i]?=some v->kindOf x≠some .local->
  bindC kindOf (P.zip vs) m x=some v
 |[],_,_,_,_,h,_,_=>by simp at h
 |_::_,[],_,_,_,_,h,_=>by simp at h
 |p::P,w::vs,0,m,nd,h1,h2,hk=>by simp at h1 h2;subst h1;subst h2;show bindC kindOf ((p,w)::P.zip vs) m p=_;unfold bindC;rw[Hl λv hv=>(c9.mp nd).1 (jo hv).1,ag hk];simp
 |p::P,w::vs,i+1,m,nd,h1,h2,hk=>by show bindC kindOf ((p,w)::P.zip vs) m x=_;unfold bindC;exact Hn (i:=i) (c9.mp nd).2 (by simpa using h1) (by simpa using h2) hk
def start(N:aH)(vs:bA):St:=vs.map some++iu (N.length - vs.length) none
def JQ(CX:CXT)(P:ay)(w:av)(K:au)(mg:Str->Option aa)(base:Heap)(N:aH)(qual:Str)(scope:cO)(f:Addr)(cd:aa)(A:aC)(outer:List Env)(s:ae)(H:Hp)(E:XK):Cx where
 prog:=P
 w:=w
 K:=K
 mg:=mg
 base:=base
 A:=A.deeper (envOfC qual scope s.heap.objs.size f cd)
 N:=N
 s₀:=s
 H₀:=H
 env:=envOfC qual scope s.heap.objs.size f cd
 outer:=outer
 stack:=envOfC qual scope s.heap.objs.size f cd::outer
 ex:=[]
 calm:=true
 fn:=λ_=>true
 pn:=[]
 xe:=λe s'=>ai (model P w) (A.deeper (envOfC qual scope s.heap.objs.size f cd)) (leaving (envOfC qual scope s.heap.objs.size f cd) e) (λ_ s''=>CX outer H s E e s'') (λe' s''=>CX outer H s E e' s'') s'
theorem JR{sc:cO}{n:Nat}(h:sc.names.lookup x=some .cell):∃c,(cellsFrom n sc.names []).lookup x=some c:=by have q:=oq sc.names n [] (.inl h);exact Option.isSome_iff_exists.mp q
variable{qual:Str}{scope:cO}
theorem NW{P:ay}{w:av}{K:au}{f:Addr}{cd:aa}{A:aC}{s s1:ae}{H:Hp}{E:XK}
  (S:vy N ps scope) (hd:A.handled=none) (e0:Lk P w K mg base A outer s H) (hl:vs.length=ps.length) (r:Vals vs us)
  (x:InCallC s s.heap.objs.size (bindL (envOfC qual scope s.heap.objs.size f cd).kindOf (ps.zip us) λ_=>none) (cellsFrom (s.heap.objs.size+1) scope.names []) (bindC (envOfC qual scope s.heap.objs.size f cd).kindOf (ps.zip us) λ_=>none) s1):
  Inv (JQ CX P w K mg base N qual scope f cd A outer s H E) [] (start N vs) H s1:=by
 have hpl:ps.length<=N.length:=by have:=bH de S.pre;rw[cn]at this;omega
 obtain⟨h1,tk,rfl,hk⟩:=x.done;have noA:∀b:Addr,b∉(JQ CX P w K mg base N qual scope f cd A outer s H E).ex:=λb z=>ao (show b∈([]:List Addr) from z) (by simp);refine⟨⟨e0.mod,S.kind,rfl,rfl,aJ _,λy z c h1 h2=>?_,λy hy=>?_,λy c _ h=>?_,λ_=>hd,Around.frames_deeper e0.frames,.inr ⟨rfl,rfl⟩,λb z=>ao z (noA b),e0.bs,e0.bsz,λb _ _=>noA b,λb z=>ao z (noA b),e0.funs,e0.frf⟩,
  rfl,e0.bare,Un.kept hk,⟨_,x.toInCall.ns,λi y v h1 h2 h3=>?_⟩,λy c h=>⟨_,x.cell y c h⟩,e0.hok.fresh (aJ _),λy c h=>?_,λp hp=>ao (show p∈([]:cp) from hp) (by simp),e0.hok.kept hk,?_⟩
 ·exact name_of_addr x.apart (hX h1) (hX h2)
 ·have hy:scope.names.lookup y=some .cell\/scope.names.lookup y=some .free:=hy;rcases hy with hy|hy
  ·exact JR hy
  ·exact ao rfl (S.nofree _ (hX hy))
 ·exact ix (x.above y c (hX h))
 ·have hi:i<vs.length:=by
   unfold start at h2;by_cases hi:i<vs.length
   ·exact hi
   ·rw[fD (by simpa using hi)]at h2;rw[i5]at h2;split at h2<;>cases h2
  have ha:vs[i]?=some v:=by
   unfold start at h2;rw[fE (by simpa using hi),bB]at h2;cases e:vs[i]? with
   |none=>rw[e]at h2;cases h2
   |some a=>rw[e]at h2;cases h2;rfl
  obtain⟨u,hu,rv⟩:=r.get ha;have hp:ps[i]?=some y:=by rw[<-S.pre,List.getElem?_take_of_lt (by omega)];exact h1
  have ndP:ps.Nodup:=by rw[<-S.pre];exact S.nd.sublist (ie _ _)
  refine⟨u,rv,?_⟩;rcases S.par y (b8 hp)with k|k
  ·exact .inl ⟨k,Hm ndP hp hu k⟩
  ·obtain⟨c,e⟩:=JR (n:=s.heap.objs.size+1) k;refine .inr ⟨.inl k,c,e,?_⟩;have q:=x.cell y c e;rw[Hn ndP hp hu (by show scope.names.lookup y≠_;rw[k];decide)]at q;exact q
 ·exact e0.hok.fresh (ix (x.above y c (hX h)))
 ·unfold start;show _=N.length;rw[aP,aj,cK];omega
theorem US{P:ay}{w:av}{K:au}{k:Nat}{f:Addr}{name:Str}{params:Arguments}{dV kV doc pm cdv ct oc:aa}{an od:Option Addr}
  {osl:Array (Option aa)} (lk:K.lookup f=some ⟨oc,od,.func (eB name qual params body scope dV kV doc pm an cdv ct),osl⟩) (hcd:gL K cdv qual=true) (S:vy N ps scope)
  (len:∀vs H Q E,sp vs H Q E->vs.length=ps.length)
  (hbody:∀(A:aC) (outer:List Env) (s:ae) (H:Hp) (vs:bA) (Q:VK) (E:XK),vn k (A.deeper (envOfC qual scope s.heap.objs.size f cdv))->sp vs H Q E->
   ∃t,PSs (JQ CX P w K mg base N qual scope f cdv A outer s H E) body t/\t { nx:=λ_ H'=>Q .non H',rt:=Q } (start N vs) H):
  xn P w K mg base CX (k+1) f (eB name qual params body scope dV kV doc pm an cdv ct) ps sp:=by
 refine⟨len,λA outer s H args us vs Q E hr e0 hb r hsp=>?_⟩;have hl:=len _ _ _ _ hsp;have KX:K.In s.heap:=e0.mod.kin.keeps λb o e=>(e0.bs b o e).1;have lim:s.heap.NoLimit:=e0.mod.nolimit.keeps λb o e=>(e0.bs b o e).1;have hkind:∀y∈ps.zip us,scope.names.lookup y.1=some .local\/(scope.names.lookup y.1=some .cell/\((cellsFrom (s.heap.objs.size+1) scope.names []).lookup y.1).isSome=true):=λ⟨n,v⟩ hy=>by
  rcases S.par n (jo hy).1 with q|q
  ·exact .inl q
  ·exact .inr ⟨q,oq _ _ _ (.inl q)⟩
 refine codeAny_call_function hr.depth (KX _ _ lk) rfl S.co S.gen rfl (W.codeRec_of KX hcd) (hb _ _ _ _ ?_);refine wpAny_newFunctionEnv_cells S.kind hkind λenv he s1 x=>?_;subst he;refine⟨lim.keeps x.toInCall.keep,codeAny_func ?_⟩;obtain⟨t,ht,hq⟩:=hbody A outer s H vs Q E (hr.deeper _) hsp;have I:Inv (JQ CX P w K mg base N qual scope f cdv A outer s H E) [] (start N vs) H s1:=NW S hr.hd e0 hl r x;refine bX (ht [] s1 (start N vs) H _ I hq) (λfl s' hs=>?_) λe s' hs=>hs;have fin:∀{σ':St} {H':Hp} {v:V} {u:aa},Inv (JQ CX P w K mg base N qual scope f cdv A outer s H E) [] σ' H' s'->RelV v u->Q v H'->CE outer P w H s Q u s':=
  λ{σ' H' v u} J rv q=>⟨v,H',J.os,J.bare,J.base,J.hok,rv,q⟩
 cases fl with
 |ret u=>obtain⟨v,σ',H',J,rv,q⟩:=hs;exact fin J rv q
 |next=>obtain⟨σ',H',J,q⟩:=hs;exact fin (v:=V.non) (u:=Value.none) J rfl q
 |brk=>obtain⟨_,_,_,q⟩:=hs;exact cN q
 |cont=>obtain⟨_,_,_,q⟩:=hs;exact cN q
section
variable{X:Cx}{x:Str}{p pos:Pos}{e:Expr}{es:List Expr}{t:TA}{id T:String}{r:bA->Hp->VK->Prop}
def tCB(r:bA->Hp->VK->Prop)(t:TA):TE:=λσ H Q=>t σ H λvs H1=>r vs H1 Q
theorem Cm(hc:ve X (.builtin id) r)(hg:Gl X x)(hm:X.mg x=none)(hv:dE x=some (.builtin id))(ha:PA X (e::es) t)(hn:x≠"__name__" := by decide)(hdb:(x==("__debug__" : Str))=false:=by decide)
  (he:aE (e::es) X.env=(false,eval e X.env)::aE es X.env:=by rfl) (hpl:(bD pos (aE es X.env)).any (·.1)=false:=by rfl):PE X (.Call (.Name x p) (e::es) [] pos) (tCB r t):=by
 intro pins s σ H Q I h;refine dW (zS I hg hm hv ?_ hn hdb);exact callWith_builtin1 (thn (ha pos pins s σ H _ I h) λus s1 ⟨vs,H1,I1,r1,q1⟩=>hc pins s1 σ H1 vs us Q I1 r1 q1) he hpl
theorem NX(hc:ve X (.type T) r)(hg:Gl X x)(hm:X.mg x=none)(hv:dE x=some (.type T))(ha:PA X (e::es) t)(hn:x≠"__name__" := by decide)(hdb:(x==("__debug__" : Str))=false:=by decide)
  (he:aE (e::es) X.env=(false,eval e X.env)::aE es X.env:=by rfl) (hpl:(bD pos (aE es X.env)).any (·.1)=false:=by rfl):PE X (.Call (.Name x p) (e::es) [] pos) (tCB r t):=by
 intro pins s σ H Q I h;refine dW (zS I hg hm hv ?_ hn hdb);exact callWith_type1 (thn (ha pos pins s σ H _ I h) λus s1 ⟨vs,H1,I1,r1,q1⟩=>hc pins s1 σ H1 vs us Q I1 r1 q1) he hpl
end
end L2
namespace HT
open PySem PyProof.Rows
variable{t sl:Addr}{Q:aa->ae->Prop}{vl vu:aa}{lo:Option Int}
section
variable{prog:ay}{w:av}{A:aC}{E:aa->ae->Prop}{s:ae}
theorem Sq{b:Addr}{vs ws:List aa}(ht:fW s.heap t vs.toArray)(hb:fW s.heap b ws.toArray)(hv:vs≠[])
  (h1:ws=[]->Q (.ref t) s) (h2:ws≠[]->Q (.ref s.heap.objs.size) { s with heap:=s.heap.push { cls:=.type "tuple", data:=.seq (vs++ws).toArray } })
  (hsz:vs.length+ws.length<=aG):ai (model prog w) A (dh .Add (.ref t) (.ref b)) Q E s:=by
 obtain⟨⟨cls,dd,data,sl⟩,ho,hc,n,hd⟩:=id ht;obtain⟨⟨cls2,dd2,data2,sl2⟩,ho2,hc2,n2,hd2⟩:=id hb;simp only at hc hd hc2 hd2;subst hc hd hc2 hd2;have e:vs.toArray++ws.toArray=(vs++ws).toArray:=by simp
 by_cases hw:ws=[]
 ·exact concat_meets ⟨_,ho,rfl⟩ ⟨_,ho2,rfl⟩ ou px ox nW (nN _ _)
   (tuple_addW1 t b vs.toArray ws.toArray n n2 dd dd2 sl sl2 (by simpa using hv) (by simp[hw])) ⟨ho,ho2,h1 hw⟩
 ·refine concat_meets ⟨_,ho,rfl⟩ ⟨_,ho2,rfl⟩ ou px ox nW (nN _ _)
   (tuple_addW2 t b vs.toArray ws.toArray n n2 dd dd2 sl sl2 (by simpa using hv) (by simpa using hw) (by rw[bb,bb];exact hsz)) ⟨ho,ho2,?_⟩
  rw[e];exact h2 hw
def sIx(n d:Nat):Option Int->Nat
 |none=>d
 |some v=>if v<0 then (v+(n:Int)).toNat else min v.toNat n
theorem JS(n d:Nat):sIx n d none=d:=rfl
theorem Mw(n d k:Nat):sIx n d (some (k:Int))=min k n:=by show (if (k:Int)<0 then ((k:Int)+(n:Int)).toNat else min (k:Int).toNat n)=min k n;rw[ag (by omega),ig]
theorem VU(n d:Nat)(hd:d<=n)(o:Option Int):sIx n d o<=n:=by
 cases o with
 |none=>exact hd
 |some v=>
  show (if v<0 then (v+(n:Int)).toNat else min v.toNat n)<=n;by_cases hv:v<0
  ·rw[af hv];omega
  ·rw[ag hv];exact oA _ _
theorem Mx(v:Int)(n d:Nat):(if v<0 then max (v+(n:Int)) 0 else min v (n:Int))=((sIx n d (some v):Nat):Int):=by
 show (if v<0 then max (v+(n:Int)) 0 else min v (n:Int))=(((if v<0 then (v+(n:Int)).toNat else min v.toNat n):Nat):Int);by_cases hv:v<0
 ·simp only[af hv];omega
 ·simp only[ag hv];omega
theorem Ll(lo hi:Option Int)(n:Nat):j1 lo hi 1 (n:Int)=(((sIx n 0 lo:Nat):Int),((sIx n n hi:Nat):Int)):=by
 have h1:¬((1:Int)<0):=by omega
 unfold j1;simp only[h1,if_false];refine Prod.ext ?_ ?_
 ·cases lo with
  |none=>rfl
  |some v=>exact Mx v n 0
 ·cases hi with
  |none=>rfl
  |some v=>exact Mx v n n
theorem Lm(i j:Nat):iZ (i:Int) (j:Int) 1=j - i:=by
 unfold iZ;have h1:(1:Int) > 0:=by omega
 simp only[h1,if_true,Int.ediv_one];split<;>omega
theorem Fl{v:aa}{o:Option Int}{Q:Option Int->ae->Prop}(p:fq v o)(h:Q o s):ai (model prog w) A (qN v) Q E s:=by
 cases p with
 |none=>exact oZ h
 |int i t=>exact slicePart_int h
theorem Dx{hi:Option Int}{n:Nat}{Q:Int×Int×Nat->ae->Prop}(hs:s.heap.IsSliceOf sl vl vu .none)(pl:fq vl lo)(pu:fq vu hi)
  (h:Q (((sIx n 0 lo:Nat):Int),1,sIx n n hi - sIx n 0 lo) s):ai (model prog w) A (mK (.ref sl) (pure (n:Int))) Q E s:=by
 obtain⟨os,hos,hcs,hds⟩:=id hs;unfold mK ra;refine ah (ah (lG hos hds (x:=vl) rfl (ah (lG hos hds (x:=vu) rfl (ah (lG hos hds (x:=.none) rfl (ar ?_)))))));refine ah (oZ ?_);show ai _ _ (if ((1:Int)==0)=true then _ else _) _ _ s;rw[ag (by decide)];refine ah (Fl pl (ah (Fl pu (ah (ar ?_)))));show ai _ _ (match j1 lo hi 1 (n:Int)with|(lo,hi)=>pure (lo,(1:Int),iZ lo hi 1)) _ _ s;rw[Ll lo hi n];show ai _ _ (pure (((sIx n 0 lo:Nat):Int),(1:Int),iZ ((sIx n 0 lo:Nat):Int) ((sIx n n hi:Nat):Int) 1)) _ _ s;rw[Lm];exact ar h
theorem Pf(xs:Array aa)(i k:Nat):((bf k).filterMap λ(m:Nat)=>xs[((i:Int)+(m:Int) * 1).toNat]?).toArray=((xs.toList.drop i).take k).toArray:=by
 have e:(λ(m:Nat)=>xs[((i:Int)+(m:Int) * 1).toNat]?)=λm=>xs[i+m]?:=by
  funext m
  have:((i:Int)+(m:Int) * 1).toNat=i+m:=by omega
  rw[this]
 rw[e];have:=pick_run xs i k;rw[List.filterMap_map]at this;have e2:((λx=>xs[x]?)∘λx=>i+x)=λm=>xs[i+m]?:=rfl;rw[e2]at this;rw[this]
theorem Cn{items:Array aa}{hi:Option Int}(ht:fW s.heap t items)(hs:s.heap.IsSliceOf sl vl vu .none)(pl:fq vl lo)(pu:fq vu hi)
  (hw:¬(sIx items.size 0 lo=0/\sIx items.size items.size hi=items.size))
  (h:Q (.ref s.heap.objs.size) { s with heap:=s.heap.push { cls:=.type "tuple", data:=.seq ((items.toList.drop (sIx items.size 0 lo)).take (sIx items.size items.size hi - sIx items.size 0 lo)).toArray } })
  (hsz:items.size<=aG):ai (model prog w) A (getItem (.ref t) (.ref sl)) Q E s:=by
 have htake:sizeOk (.seq ((items.toList.drop (sIx items.size 0 lo)).take (sIx items.size items.size hi - sIx items.size 0 lo)).toArray):=by show ((items.toList.drop (sIx items.size 0 lo)).take (sIx items.size items.size hi - sIx items.size 0 lo)).toArray.size<=aG;rw[bb,cn,gn,bF];omega
 have hj:sIx items.size items.size hi<=items.size:=VU _ _ (aJ _) hi;obtain⟨os,hos,hcs,hds⟩:=id hs;have hTs:s.TypeIs (.ref sl) "slice" := ⟨os,hos,hcs⟩;unfold getItem
 try with_reducible refine cc ?_
 first|refine ah (ar ?_)|skip
 refine ah (wpAny_sequenceKey ht.typeIs (by decide) ?_);refine ah (mU (name:=jt "__getitem__") ht.typeIs iY
  (fJ iY ht.typeIs entry_tuple_getitem ?_ (args_tuple_getitem _ _)))
 show ai _ _ (qP (.ref t)>>=_) _ _ s;refine ah (tupleItemsOf_ ht ?_);refine ah (ju hTs ?_);rw[af (by decide)];refine ah (Dx hs pl pu ?_);have hno:¬((((sIx items.size 0 lo:Nat):Int)==0&&(1:Int)==1&&(sIx items.size items.size hi - sIx items.size 0 lo)==items.size)=true):=by intro q;rw[aS,aS]at q;have q1:((sIx items.size 0 lo:Nat):Int)=0:=fS q.1.1;have q2:sIx items.size items.size hi - sIx items.size 0 lo=items.size:=fS q.2;exact hw ⟨by omega,by omega⟩
 show ai _ _ (if (((sIx items.size 0 lo:Nat):Int)==0&&(1:Int)==1&&(sIx items.size items.size hi - sIx items.size 0 lo)==items.size)=true then _ else _) _ _ s;rw[ag hno,Pf]
 first
  |exact ah (m:=i4 _) (dt (ar ⟨_,rfl,ar h⟩) htake)
  |exact ah (m:=i4 _) (dt (ah (ar (ar ⟨_,rfl,ar h⟩))) htake)
  |exact ah (ah (m:=i4 _) (dt (ar (ar ⟨_,rfl,ar h⟩)) htake))
  |exact ah (ah (m:=i4 _) (dt (ar ⟨_,rfl,ar h⟩) htake))
end
end HT
namespace L2
open PySem PySem.Spec PyProof.Rows
abbrev TO:=St->Hp->(Option Int->Hp->Prop)->Prop
def PO(X:Cx)(e:Option Expr)(t:TO):Prop:=
 ∀(pins:cp) (s:ae) (σ:St) (H:Hp) (Q:Option Int->Hp->Prop),Inv X pins σ H s->t σ H Q->
  ai (model X.prog X.w) X.A (evalPart e X.env) (λu s'=>∃o H',Inv X pins σ H' s'/\fq u o/\Q o H') X.xe s
def Sr:TO:=λ_ H Q=>Q none H
def ZC(t:TE):TO:=λσ H Q=>t σ H λx H1=>∃i,x=.int i/\Q (some i) H1
section
variable{X:Cx}{e:Expr}{te:TE}{lo hi:Option Expr}{tl th:TO}{pos p2:Pos}
theorem My:PO X none Sr:=by intro pins s σ H Q I h;rw[pz];exact ar ⟨none,H,I,.none,h⟩
theorem Mz(h:PE X e te):PO X (some e) (ZC te):=by intro pins s σ H Q I hw;rw[evalPart_some];refine thn (h pins s σ H _ I hw) λu s1 zz=>?_;obtain⟨x,H1,I1,r1,q1⟩:=zz;obtain⟨i,rfl,q⟩:=q1;obtain⟨t,rfl⟩:=r1;exact⟨some i,H1,I1,.int i t,q⟩
def SlR(X:Cx)(r:V->Option Int->Option Int->Hp->VK->Prop):Prop:=
 ∀(pins:cp) (s:ae) (σ:St) (H:Hp) (x:V) (v vl vu:aa) (lo hi:Option Int) (sl:Addr) (Q:VK),Inv X pins σ H s->RelV x v->s.heap.IsSliceOf sl vl vu .none->fq vl lo->fq vu hi->r x lo hi H Q->
  ∃T id,typeLookup (.type T) "__getitem__" = pure (some (.builtin id))/\s.TypeIs v T/\ai (model X.prog X.w) X.A (getItem v (.ref sl)) (EP X pins σ Q) X.xe s
def tSl(r:V->Option Int->Option Int->Hp->VK->Prop)(te:TE)(tl th:TO):TE:=λσ H Q=>te σ H λx H1=>tl σ H1 λl H2=>th σ H2 λu H3=>r x l u H3 Q
theorem JT{r:V->Option Int->Option Int->Hp->VK->Prop}(hr:SlR X r)(he:PE X e te)(hl:PO X lo tl)(hu:PO X hi th):PE X (.Subscript e (.Slice lo hi none p2) pos) (tSl r te tl th):=by intro pins s σ H Q I h;refine lY (thn (he pins s σ H _ I h) λv s1 zz=>?_);obtain⟨x,H1,I1,r1,q1⟩:=zz;refine wpAny_Slice (thn (hl pins s1 σ H1 _ I1 q1) λvl s2 ⟨l,H2,I2,pl,q2⟩=>thn (hu pins s2 σ H2 _ I2 q2) λvu s3 zz=>?_);obtain⟨u,H3,I3,pu,q3⟩:=zz;rw[pz];refine ar ?_;have I4:Inv X pins σ H3 { s3 with heap:=s3.heap.push { cls:=.type "slice", data:=.fields #[vl,vu,.none] } }:=I3.kept (t':=s3.toks) λb ob q=>aN _ q;obtain⟨T,id,hT,ht,hg⟩:=hr pins { s3 with heap:=s3.heap.push { cls:=.type "slice", data:=.fields #[vl,vu,.none] } } σ H3 x v vl vu l u s3.heap.objs.size Q I4 r1 (sC ..) pl pu q3;show ai (model X.prog X.w) X.A (subscriptTail e (.Slice lo hi none p2) v (.ref s3.heap.objs.size)) (EP X pins σ Q) X.xe { s3 with heap:=s3.heap.push { cls:=.type "slice", data:=.fields #[vl,vu,.none] } };exact tail_any (ops:=[.ref s3.heap.objs.size,v]) ht hT hg (by with_unfolding_all rfl)
def JU(xs:bA)(lo hi:Option Int):bA:=(xs.drop (HT.sIx xs.length 0 lo)).take (HT.sIx xs.length xs.length hi - HT.sIx xs.length 0 lo)
theorem D3(xs:bA)(lo hi:Option Int):(JU xs lo hi).length<=xs.length:=by unfold JU;rw[cn,gn];omega
def VW(K:au):V->Option Int->Option Int->Hp->VK->Prop:=λx lo hi H Q=>∃a xs,x=.ref a/\SqT K H a xs/\
 ¬(HT.sIx xs.length 0 lo=0/\HT.sIx xs.length xs.length hi=xs.length)/\∀p,H p=none->Q (.ref p) (upd H p (.tup (JU xs lo hi)))
theorem VX:SlR X (VW X.K):=by
 intro pins s σ H x v vl vu lo hi sl Q I rx hs pl pu h;obtain⟨a,xs,rfl,hx,hw,q⟩:=h;cases rx;obtain⟨its,r,ht,hz⟩:=I.tuple hx;have hlen:its.toArray.size=xs.length:=by rw[bb];exact r.length.symm
 refine⟨"tuple", _,iY.lookup,ht.typeIs,?_⟩;refine HT.Cn ht hs pl pu (by rw[hlen];exact hw) ?_ (by rw[hlen];exact hz);rw[hlen];refine⟨.ref s.heap.objs.size,_,I.laid (t':=s.toks) (o:=.tup (JU xs lo hi)) (λb ob q=>aN _ q) (aJ _) ?_,rfl,q _ (I.hok.fresh (aJ _))⟩;exact⟨bN (D3 xs lo hi) hz,_,(r.drop (HT.sIx xs.length 0 lo)).take (HT.sIx xs.length xs.length hi - HT.sIx xs.length 0 lo),l6 _ _⟩
def ZD(K:au):R2:=λx y H Q=>∃a b xs ys,x=.ref a/\y=.ref b/\SqT K H a xs/\SqT K H b ys/\xs≠[]/\xs.length+ys.length<=aG/\
 (ys=[]->Q (.ref a) H)/\(ys≠[]->∀p,H p=none->Q (.ref p) (upd H p (.tup (xs++ys))))
theorem Vals.nil_iff{xs:bA}{us:List aa}(r:Vals xs us):us=[] ↔ xs=[]:=by
 cases r with
 |nil=>simp
 |cons _ _=>simp
theorem Ss:OpR X (dh .Add) (ZD X.K):=by intro pins s σ H x y v u Q I rx ry h;obtain⟨a,b,xs,ys,rfl,rfl,ha,hb,hx,hz,q1,q2⟩:=h;cases rx;cases ry;obtain⟨its,r1,p1,_⟩:=I.tuple ha;obtain⟨its2,r2,p2,_⟩:=I.tuple hb;refine HT.Sq p1 p2 (λz=>hx (r1.nil_iff.mp z)) (λz=>⟨.ref a,H,I,rfl,q1 (r2.nil_iff.mp z)⟩) (λz=>?_) (by rw[<-r1.length,<- r2.length];exact hz);refine⟨.ref s.heap.objs.size,_,I.laid (t':=s.toks) (o:=.tup (xs++ys)) (λb ob q=>aN _ q) (aJ _) ?_,rfl,q2 (λw=>z (r2.nil_iff.mpr w)) _ (I.hok.fresh (aJ _))⟩;exact⟨by rw[aP];exact hz,_,r1.append r2,l6 _ _⟩
end
def ixN(n:Nat)(i:Int):Option Nat:=if 0<=i then (if i<n then some i.toNat else none)else if -(n:Int)<=i then some (i+n).toNat else none
def atI{α:Type}(xs:List α)(i:Int):Option α:=(ixN xs.length i).bind λj=>xs[j]?
variable{j:Nat}
theorem MA{n:Nat}{i:Int}(h:ixN n i=some j):seqIndex? i n=some j/\j<n/\-(n:Int)<=i/\i<n:=by
 unfold ixN at h;by_cases h0:0<=i
 ·rw[af h0]at h;by_cases h1:i<n
  ·rw[af h1]at h;have e:i.toNat=j:=cw h;exact⟨by rw[lI h0 h1,e],by omega,by omega,h1⟩
  ·rw[ag h1]at h;cases h
 ·rw[ag h0]at h;by_cases h1:-(n:Int)<=i
  ·rw[af h1]at h;have e:(i+n).toNat=j:=cw h;exact⟨by rw[ly (by omega) h1,e],by omega,h1,by omega⟩
  ·rw[ag h1]at h;cases h
theorem IM{α:Type}{xs:List α}{i:Int}{v:α}(h:atI xs i=some v):∃j,seqIndex? i xs.length=some j/\xs[j]?=some v/\j<xs.length/\-(xs.length:Int)<=i/\i<xs.length:=by
 unfold atI at h;cases e:ixN xs.length i with
 |none=>rw[e]at h;cases h
 |some j=>rw[e]at h;obtain⟨h1,h2,h3,h4⟩:=MA e;exact⟨j,h1,h,h2,h3,h4⟩
theorem zU{α:Type}{xs:List α}{v:α}(h:xs[j]?=some v):atI xs (j:Int)=some v:=by
 have hj:j<xs.length:=(b0.mp h).1;have e:ixN xs.length (j:Int)=some j:=by unfold ixN;rw[af (by omega),af (by omega)];simp
 unfold atI;rw[e];exact h
def MB(b:Expr):Prop:=∀o i,subscripted b false o i=operate [o,i] (getItem o i)
def IxR(X:Cx)(r:R2):Prop:=
 ∀(value slice:Expr) (pins:cp) (s:ae) (σ:St) (H:Hp) (x y:V) (v u:aa) (Q:VK),Inv X pins σ H s->RelV x v->RelV y u->r x y H Q->
  subscripted slice false v u=operate [v,u] (getItem v u)->ai (model X.prog X.w) X.A (subscriptTail value slice v u) (EP X pins σ Q) X.xe s
def MtR(X:Cx)(id:String)(r:V->bA->Hp->VK->Prop):Prop:=
 ∀(pins:cp) (s:ae) (σ:St) (H:Hp) (x:V) (xs:bA) (v:aa) (us:List aa) (Q:VK),Inv X pins σ H s->RelV x v->Vals xs us->r x xs H Q->
  ai (model X.prog X.w) X.A (call (.builtin id) (v::us)) (EP X pins σ Q) X.xe s
variable{r:R2}{pins:cp}{σ:St}{its its':List aa}{y:V}{u:aa}{T:String}
section
variable{X:Cx}{a b:Expr}{ta tb:TE}{pos:Pos}
theorem IxR.or{r':R2}(h:IxR X r)(h':IxR X r'):IxR X (λx y H Q=>r x y H Q\/r' x y H Q):=by
 intro value slice pins s σ H x y v u Q I rx ry q hs;rcases q with q|q
 ·exact h value slice pins s σ H x y v u Q I rx ry q hs
 ·exact h' value slice pins s σ H x y v u Q I rx ry q hs
theorem UT(hr:IxR X r)(ha:PE X a ta)(hb:PE X b tb)(hs:MB b):PE X (.Subscript a b pos) (tOp r ta tb):=by intro pins s σ H Q I h;exact lY (VJ ha hb I h λv u s2 x y H2 I2 rx ry q=>hr a b pins s2 σ H2 x y v u Q I2 rx ry q (hs _ _))
def Su(K:au):R2:=λx y H Q=>∃p xs i v,x=.ref p/\y=.int i/\SqL K H p xs/\atI xs i=some v/\Q v H
def ZJ(K:au):R2:=λx y H Q=>∃p xs i v,x=.ref p/\y=.int i/\SqT K H p xs/\atI xs i=some v/\Q v H
def ZL:R2:=λx y H Q=>∃z i c,x=.str z/\y=.int i/\z.length<=aG/\atI z.cps.toList i=some c/\Q (.str ⟨#[c]⟩) H
theorem MC:IxR X (Su X.K):=by
 intro value slice pins s σ H x y v u Q I rx ry h hs;obtain⟨p,xs,i,z,rfl,rfl,hq,he,q⟩:=h;cases rx;obtain⟨t,rfl⟩:=ry;obtain⟨its,r,pl,hz⟩:=I.list hq;obtain⟨j,h1,h2,h3,h4,h5⟩:=IM he;obtain⟨w,ew,rw'⟩:=r.get h2;have hl:=r.length;have hn:=Du;have fin:EP X pins σ Q w s:=⟨z,H,I,rw',q⟩;by_cases h0:0<=i
 ·have hj:i.toNat=j:=by rw[lI h0 h5]at h1;exact cw h1
  exact item_listR pl.isList h0 (by omega) (by rw[hj];simpa using ew) fin hs
 ·have hj:(i+(its.toArray.size:Int)).toNat=j:=by rw[ly (by omega) h4]at h1;rw[bb,<- hl];exact cw h1
  exact mW (x:=w) pl.isList.typeIs nX.lookup
   (wpAny_getItem_list_neg (Q:=λr s'=>r=w/\EP X pins σ Q r s') pl.isList (by omega) (by rw[bb]<;>omega) (by omega) (by rw[hj];simpa using ew) ⟨rfl,fin⟩) hs
theorem VY:IxR X (ZJ X.K):=by
 intro value slice pins s σ H x y v u Q I rx ry h hs;obtain⟨p,xs,i,z,rfl,rfl,hq,he,q⟩:=h;cases rx;obtain⟨t,rfl⟩:=ry;obtain⟨its,r,pl,hz⟩:=I.tuple hq;obtain⟨j,h1,h2,h3,h4,h5⟩:=IM he;obtain⟨w,ew,rw'⟩:=r.get h2;have hl:=r.length;have hn:=Du;have fin:EP X pins σ Q w s:=⟨z,H,I,rw',q⟩;exact mW (x:=w) pl.typeIs iY.lookup
  (getItem_tuple (j:=j) (Q:=λr s'=>r=w/\EP X pins σ Q r s') pl (by omega) (by omega) (by rw[bb,<- hl];exact h1) (by simpa using ew) ⟨rfl,fin⟩) hs
theorem VZ:IxR X ZL:=by
 intro value slice pins s σ H x y v u Q I rx ry h hs;obtain⟨z,i,c,rfl,rfl,hz,he,q⟩:=h;obtain⟨t,rfl⟩:=rx;obtain⟨t',rfl⟩:=ry;obtain⟨j,h1,h2,h3,h4,h5⟩:=IM he;have hl:z.cps.toList.length=z.length:=by simp[Str.length]
 rw[hl]at h1 h4 h5;have hn:=Du;exact tail_any (typeIs_str s z t) slot_str_getitem.lookup (getItem_str (c:=c) (by
  have e1:decide (i < -(2 ^ 63:Int))=false:=aL (by omega);have e2:decide (i >= 2 ^ 63)=false:=aL (by omega);rw[e1,e2,Bool.or_false]) (by rw[h1];simpa using h2) ⟨.str ⟨#[c]⟩,H,I.tok _,⟨_,rfl⟩,q⟩) hs
def rIx(K:au):R2:=λx y H Q=>Su K x y H Q\/ZJ K x y H Q\/ZL x y H Q
theorem V0:IxR X (rIx X.K):=MC.or (VY.or VZ)
theorem Ln(its:List aa)(n j:Nat)(u:aa):cG (·.setIfInBounds j u) { cls:=.type "list", data:=.seq its.toArray n }={ cls:=.type "list", data:=.seq (its.set j u).toArray n }:=by simp[cG]
theorem Inv.lst{pins:cp}{σ:St}{H:Hp}{s:ae}{p:Addr}{xs:bA}(I:Inv X pins σ H s)(h:H p=some (.lst xs)):
  ∃(its:List aa) (n:Nat),Vals xs its/\s.heap.get? p=some { cls:=.type "list", data:=.seq its.toArray n }/\xs.length<=aG:=by
 obtain⟨z,its,n,r,e⟩:=I.hok p _ h;exact⟨its,n,r,e,z⟩
theorem Inv.lstUpd{H:Hp}{s:ae}{p:Addr}{xs ys:bA}{n n':Nat}{f:Obj->Obj}(I:Inv X pins σ H s)(h:H p=some (.lst xs))
  (ho:s.heap.get? p=some { cls:=.type "list", data:=.seq its.toArray n }) (hf:f { cls:=.type "list", data:=.seq its.toArray n }={ cls:=.type "list", data:=.seq its'.toArray n' }) (r:Vals ys its') (hz:ys.length<=aG) (t:Nat):
  Inv X pins σ (upd H p (.lst ys)) { s with heap:=s.heap.update p f,toks:=t }:=by
 have e:(s.heap.update p f).get? p=some { cls:=.type "list", data:=.seq its'.toArray n' }:=by rw[eG f ho (by rw[hf]<;>rfl),hf]
 refine I.write (x:=p) (e:=p) (by rw[h];trivial) (.inl rfl) (λb u hb q=>(gf _ _ (cZ hb)).trans q) ⟨_,e⟩ ?_;exact⟨hz,its',n',r,e⟩
def UU:V->V->V->Hp->(Hp->Prop)->Prop:=λo i v H Q=>∃p xs k j,o=.ref p/\i=.int k/\H p=some (.lst xs)/\ixN xs.length k=some j/\Q (upd H p (.lst (xs.set j v)))
theorem set_list:Zo X UU:=by
 intro pins s σ H o i v ov iv u Q I ro ri rv h;obtain⟨p,xs,k,j,rfl,rfl,hp,hj,q⟩:=h;cases ro;obtain⟨t,rfl⟩:=ri;obtain⟨its,n,r,ho,hz⟩:=I.lst hp;obtain⟨h1,h2,h3,h4⟩:=MA hj;have hl:=r.length;have hn:=Du;have I':Inv X pins σ (upd H p (.lst (xs.set j v))) { s with heap:=s.heap.update p (cG (·.setIfInBounds j u)) }:=
  I.lstUpd hp ho (Ln its n j u) (r.set rv j) (by rw[d5];exact hz) s.toks
 by_cases h0:0<=k
 ·have hk:k.toNat=j:=by rw[lI h0 h4]at h1;exact cw h1
  exact W.ki_setAt ho h0 (by omega) (by rw[bb,<- hl];exact h4) (by rw[hk];exact⟨_,I',q⟩)
 ·have hk:(k+(its.toArray.size:Int)).toNat=j:=by rw[ly (by omega) h3]at h1;rw[bb,<- hl];exact cw h1
  exact W.ki_setBack ho (by omega) (by rw[bb,<- hl];exact h3) (by omega) (by rw[hk];exact⟨_,I',q⟩)
theorem IP(lo hi:Option Int)(n:Nat):(sliceBounds lo hi none n).1=((HT.sIx n 0 lo:Nat):Int)/\(sliceBounds lo hi none n).2.1=((HT.sIx n n hi:Nat):Int)/\(sliceBounds lo hi none n).2.2=1:=by
 refine⟨?_,?_,rfl⟩
 ·cases lo with
  |none=>simp[sliceBounds,HT.sIx]
  |some i=>
   simp only[sliceBounds,HT.sIx,oE,show (1:Int) > 0 by decide,if_true];by_cases h:i<0
   ·simp only[h,if_true]<;>omega
   ·simp only[h,if_false]<;>omega
 ·cases hi with
  |none=>simp[sliceBounds,HT.sIx]
  |some i=>
   simp only[sliceBounds,HT.sIx,oE,show (1:Int) > 0 by decide,if_true];by_cases h:i<0
   ·simp only[h,if_true]<;>omega
   ·simp only[h,if_false]<;>omega
theorem GV(its:List aa)(lo hi:Option Int):slicePick its.toArray lo hi none=((its.drop (HT.sIx its.length 0 lo)).take (HT.sIx its.length its.length hi - HT.sIx its.length 0 lo)).toArray:=by obtain⟨h1,h2,h3⟩:=IP lo hi its.toArray.size;unfold slicePick;rw[h1,h2,h3];simp only[sliceRange_one,pick_run,bb]<;>rfl
def Sv(K:au):V->Option Int->Option Int->Hp->VK->Prop:=λx lo hi H Q=>∃a xs,x=.ref a/\SqL K H a xs/\∀p,H p=none->Q (.ref p) (upd H p (.lst (JU xs lo hi)))
theorem Sw:SlR X (Sv X.K):=by intro pins s σ H x v vl vu lo hi sl Q I rx hs pl pu h;obtain⟨a,xs,rfl,hx,q⟩:=h;cases rx;obtain⟨its,r,ht,hz⟩:=I.list hx;have hlen:=r.length;refine⟨"list", _,nX.lookup,ht.isList.typeIs,?_⟩;refine wpAny_getItem_list_slice ht.isList hs pl pu .none (by simp) ?_ (by rw[bb]<;>omega);rw[GV,<- hlen];refine⟨.ref s.heap.objs.size,_,I.laid (t':=s.toks) (o:=.lst (JU xs lo hi)) (λb ob q=>aN _ q) (aJ _) ?_,rfl,q _ (I.hok.fresh (aJ _))⟩;exact⟨bN (D3 xs lo hi) hz,_,0,(r.drop (HT.sIx xs.length 0 lo)).take (HT.sIx xs.length xs.length hi - HT.sIx xs.length 0 lo),bu _ rfl⟩
def BC:V->Bool
 |.non=>true
 |.bl _=>true
 |.int _=>true
 |.str _=>true
 |_=>false
def eqV:V->V->Bool
 |.non,.non=>true
 |.bl a,.bl b=>a==b
 |.bl a,.int b=>(if a then 1 else 0)==b
 |.int a,.bl b=>a==(if b then 1 else 0)
 |.int a,.int b=>a==b
 |.str a,.str b=>a==b
 |_,_=>false
theorem Fm{A:aC}{s:ae}{x:V}{v:aa}(ry:RelV y u)(rx:RelV x v)(fy:BC y=true)(fx:BC x=true):iz A s u v (eqV y x):=by
 cases y with
 |non=>
  cases ry;cases x with
  |non=>cases rx;exact kH _
  |bl b=>cases rx;exact rT b
  |int b=>obtain⟨t,rfl⟩:=rx;exact nu b t
  |str b=>obtain⟨t,rfl⟩:=rx;exact nv b t
  |_=>exact ao (show false=true from fx) bj
 |bl a=>
  cases ry;cases x with
  |non=>cases rx;exact rU a
  |bl b=>cases rx;exact rV a b
  |int b=>obtain⟨t,rfl⟩:=rx;exact sg a b t
  |str b=>obtain⟨t,rfl⟩:=rx;exact sj a b t
  |_=>exact ao (show false=true from fx) bj
 |int a=>
  obtain⟨t',rfl⟩:=ry;cases x with
  |non=>cases rx;exact ny a t'
  |bl b=>cases rx;exact sk a t' b
  |int b=>obtain⟨t,rfl⟩:=rx;exact sE a t' b t
  |str b=>obtain⟨t,rfl⟩:=rx;exact nJ a t' b t
  |_=>exact ao (show false=true from fx) bj
 |str a=>
  obtain⟨t',rfl⟩:=ry;cases x with
  |non=>cases rx;exact nz a t'
  |bl b=>cases rx;exact sm a t' b
  |int b=>obtain⟨t,rfl⟩:=rx;exact nL a t' b t
  |str b=>obtain⟨t,rfl⟩:=rx;exact kq a t' b t
  |_=>exact ao (show false=true from fx) bj
 |_=>exact ao (show false=true from fy) bj
def eqU(x:V)(u:aa):Bool:=match u with
 |.none=>eqV .non x
 |.bool b=>eqV (.bl b) x
 |.int i _=>eqV (.int i) x
 |.str z _=>eqV (.str z) x
 |_=>false
theorem Pg{x:V}(r:RelV y u)(f:BC y=true):eqU x u=eqV y x:=by
 cases y with
 |non=>cases r;rfl
 |bl b=>cases r;rfl
 |int i=>obtain⟨t,rfl⟩:=r;rfl
 |str z=>obtain⟨t,rfl⟩:=r;rfl
 |_=>exact ao (show false=true from f) bj
theorem Cp{x:V}:∀{xs:bA} {us:List aa},Vals xs us->xs.all BC=true->us.any (eqU x)=xs.any λy=>eqV y x
 |_,_,.nil,_=>rfl
 |y::xs,u::us,.cons r t,f=>by rw[cy,aS]at f;rw[fN,fN,Pg r f.1,Cp t f.2]
theorem AQ{A:aC}{s:ae}{x:V}{v:aa}(rx:RelV x v)(fx:BC x=true):∀{xs:bA} {us:List aa},Vals xs us->xs.all BC=true->∀u∈us,iz A s u v (eqU x u)
 |_,_,.nil,_=>λu hu=>by cases hu
 |y::xs,u::us,.cons r t,f=>λu' hu=>by
  rw[cy,aS]at f;rcases aT.mp hu with rfl|hu
  ·rw[Pg r f.1];exact Fm r rx f.1 fx
  ·exact AQ rx fx t f.2 u' hu
def inV(x:V)(xs:bA):Bool:=xs.any λy=>eqV y x
def rIn(K:au)(neg:Bool):R2:=λx y H Q=>∃p xs,y=.ref p/\(SqL K H p xs\/SqT K H p xs)/\BC x=true/\xs.all BC=true/\Q (.bl (if neg then !inV x xs else inV x xs)) H
theorem NY:OpR X (bq .In) (rIn X.K false):=by
 intro pins s σ H x y v u Q I rx ry h;obtain⟨p,xs,rfl,hq,fx,fs,q⟩:=h;cases ry;rcases hq with hq|hq
 ·obtain⟨its,r,pl,hz⟩:=I.list hq;refine SeqAt.in_listAt (eqU x) pl.isList (λw hw=>AQ rx fx r fs w (by simpa using hw)) ⟨.bl _,H,I,rfl,?_⟩;rw[show its.toArray.any (eqU x)=its.any (eqU x) by simp,Cp r fs];exact q
 ·obtain⟨its,r,pl,hz⟩:=I.tuple hq;refine SeqAt.in_tupleAt (eqU x) pl (λw hw=>AQ rx fx r fs w (by simpa using hw)) ⟨.bl _,H,I,rfl,?_⟩;rw[show its.toArray.any (eqU x)=its.any (eqU x) by simp,Cp r fs];exact q
theorem IQ:OpR X (bq .NotIn) (rIn X.K true):=by
 intro pins s σ H x y v u Q I rx ry h;obtain⟨p,xs,rfl,hq,fx,fs,q⟩:=h;cases ry;rcases hq with hq|hq
 ·obtain⟨its,r,pl,hz⟩:=I.list hq;refine nO (eqU x) pl.isList (λw hw=>AQ rx fx r fs w (by simpa using hw)) ⟨.bl _,H,I,rfl,?_⟩;rw[show its.toArray.any (eqU x)=its.any (eqU x) by simp,Cp r fs];exact q
 ·obtain⟨its,r,pl,hz⟩:=I.tuple hq;refine SeqAt.notIn_tupleAt (eqU x) pl (λw hw=>AQ rx fx r fs w (by simpa using hw)) ⟨.bl _,H,I,rfl,?_⟩;rw[show its.toArray.any (eqU x)=its.any (eqU x) by simp,Cp r fs];exact q
theorem IR:ve X (.builtin "len") (λxs H Q=>∃p ys,xs=[.ref p]/\(SqL X.K H p ys\/SqT X.K H p ys)/\Q (.int ys.length) H):=by
 intro pins s σ H xs us Q I r h;obtain⟨p,ys,rfl,hq,q⟩:=h;obtain⟨u,rfl,rx⟩:=vals1 r;cases rx;have hn:=Du;rcases hq with hq|hq
 ·obtain⟨its,r',pl,hz⟩:=I.list hq;have hlen:=r'.length;exact Calls.call_len_list pl.isList (by simp only[bb]<;>omega) ⟨.int ys.length,H,I.tok _,⟨s.toks+1,by rw[bb,hlen]⟩,q⟩
 ·obtain⟨its,r',pl,hz⟩:=I.tuple hq;have hlen:=r'.length;exact len_tuple pl (by simp only[bb]<;>omega) ⟨.int ys.length,H,I.tok _,⟨s.toks+1,by rw[bb,hlen]⟩,q⟩
theorem IS:ve X (.builtin "len") (λxs H Q=>∃z,xs=[.str z]/\z.length<=aG/\Q (.int z.length) H):=by intro pins s σ H xs us Q I r h;obtain⟨z,rfl,hz,q⟩:=h;obtain⟨u,rfl,t,rfl⟩:=vals1 r;have hn:=Du;exact len_str (by omega) ⟨.int z.length,H,I.tok _,⟨_,rfl⟩,q⟩
theorem IT:ve X (.type "list") (λxs H Q=>∃p ys,xs=[.ref p]/\(SqL X.K H p ys\/SqT X.K H p ys)/\∀l,H l=none->Q (.ref l) (upd H l (.lst ys))):=by
 intro pins s σ H xs us Q I r h;obtain⟨p,ys,rfl,hq,q⟩:=h;obtain⟨u,rfl,rx⟩:=vals1 r;cases rx;have fin:∀(its:List aa),Vals ys its->ys.length<=aG->∀(h':Heap) (c':Nat),(∀b o',s.heap.get? b=some o'->h'.get? b=some o')->
   h'.get? s.heap.objs.size=some { cls:=.type "list", dict:=none,data:=.seq its.toArray c',slots:=#[] }->EP X pins σ Q (.ref s.heap.objs.size) { s with heap:=h' }:=λits r' hz h' c' kp e=>
  ⟨.ref s.heap.objs.size,_,I.laid (t':=s.toks) kp (aJ _) (show uT X.prog X.w _ h' _ (.lst ys) from⟨hz,its,c',r',e⟩),rfl,q _ (I.hok.fresh (aJ _))⟩
 rcases hq with hq|hq
 ·obtain⟨its,r',pl,hz⟩:=I.list hq;have hlen:=r'.length;obtain⟨o,ho,hc,n,hd⟩:=pl.isList;exact pA p (.inl rfl) ho hc hd (λh' c' kp e=>fin its r' hz h' c' kp e) (by simp only[bb]<;>omega)
 ·obtain⟨its,r',pl,hz⟩:=I.tuple hq;have hlen:=r'.length;obtain⟨o,ho,hc,n,hd⟩:=pl;exact pA p (.inr rfl) ho hc hd (λh' c' kp e=>fin its r' hz h' c' kp e) (by simp only[bb]<;>omega)
theorem GW:ve X (.type "tuple") (λxs H Q=>∃p ys,xs=[.ref p]/\((SqL X.K H p ys/\∀l,H l=none->Q (.ref l) (upd H l (.tup ys)))\/(SqT X.K H p ys/\Q (.ref p) H))):=by
 intro pins s σ H xs us Q I r h;obtain⟨p,ys,rfl,h⟩:=h;obtain⟨u,rfl,rx⟩:=vals1 r;cases rx;rcases h with ⟨hq,q⟩|⟨hq,q⟩
 ·obtain⟨its,r',pl,hz⟩:=I.list hq;have hlen:=r'.length;refine call_tuple_list pl.isList (λh' kp=>?_) (by simp only[bb]<;>omega);have I1:Inv X pins σ H { s with heap:=h' }:=I.kept (t':=s.toks) kp;have I2:Inv X pins σ (upd H h'.objs.size (.tup ys)) { s with heap:=h'.push { cls:=.type "tuple", data:=.seq its.toArray } }:=
   I1.laid (t':=s.toks) (λb o e=>aN _ e) (aJ _) (show uT X.prog X.w _ _ _ (.tup ys) from⟨hz,its,r',l6 _ _⟩)
  exact⟨.ref h'.objs.size,_,I2,rfl,q _ (I1.hok.fresh (aJ _))⟩
 ·obtain⟨its,r',pl,hz⟩:=I.tuple hq;exact call_tuple_same pl ⟨.ref p,H,I,rfl,q⟩
def tyV(K:au)(T:String)(x:V)(H:Hp):Prop:=match x with
 |.str _=>T="str"
 |.int _=>T="int"
 |.ref p=>(T="list" /\ ∃xs,SqL K H p xs)\/(T="tuple" /\ ∃o,K.lookup p=some o/\o.cls=.type "tuple" /\ o.dict=none)\/
   (T="dict" /\ ((∃kvs,H p=some (.dK kvs))\/∃kvs,H p=some (.dT kvs)))\/(T="set" /\ ∃S n,H p=some (.set S n))
 |_=>False
theorem V1{H:Hp}{s:ae}{x:V}{v:aa}(I:Inv X pins σ H s)(r:RelV x v)(ty:tyV X.K T x H):
  s.TypeIs v T/\∀a,v=.ref a->∃ob,s.heap.get? a=some ob/\ob.dict=none:=by
 cases x with
 |str z=>obtain⟨t,rfl⟩:=r;cases (show T="str" from ty);exact⟨typeIs_str s z t,λ_ e=>nomatch e⟩
 |int i=>obtain⟨t,rfl⟩:=r;cases (show T="int" from ty);exact⟨typeIs_int s i t,λ_ e=>nomatch e⟩
 |ref p=>
  cases r;rcases ty with ⟨rfl,xs,hq⟩|⟨rfl,o,hk,hc,hd⟩|⟨rfl,hk⟩|⟨rfl,S,n,hk⟩
  ·obtain⟨its,_,pl,_⟩:=I.list hq;refine⟨pl.isList.typeIs,λa e=>?_⟩;cases e;obtain⟨o,n,e,c,hd,_⟩:=pl;exact⟨o,e,hd⟩
  ·refine⟨⟨o,I.kIn p o hk,hc⟩,λa e=>?_⟩;cases e;exact⟨o,I.kIn _ o hk,hd⟩
  ·have z:∃o,s.heap.get? p=some o/\o.ExactDict:=by
    rcases hk with ⟨kvs,hk⟩|⟨kvs,hk⟩
    ·obtain⟨_,_,_,_,o,_,_,e,ex,_⟩:=I.hok p _ hk;exact⟨o,e,ex⟩
    ·obtain⟨_,_,_,_,o,_,_,e,ex,_⟩:=I.hok p _ hk;exact⟨o,e,ex⟩
   obtain⟨o,e,ex⟩:=z;refine⟨⟨o,e,ex.1⟩,λa e2=>?_⟩;cases e2;exact⟨o,e,ex.2.1⟩
  ·obtain⟨o,_,_,_,e,ex,_⟩:=I.hok p _ hk;refine⟨⟨o,e,ex.1⟩,λa e2=>?_⟩;cases e2;exact⟨o,e,ex.2.1⟩
 |_=>exact cN ty
def tBM(K:au)(T:String)(r:V->bA->Hp->VK->Prop)(to:TE)(t:TA):TE:=λσ H Q=>to σ H λx H1=>tyV K T x H1/\t σ H1 λxs H2=>r x xs H2 Q
variable{o e:Expr}{es:List Expr}{to:TE}{t:TA}{name:Str}{apos cpos:Pos}{T id:String}{r:V->bA->Hp->VK->Prop}
theorem ZM(pa:lZ T)(slot:Slot T name id)(hty:typeOf (.builtin id)=pure (.type "method_descriptor"))(hm:MtR X id r)(ho:PE X o to)(ha:PA X (e::es) t)
  (hbase:eV o name X.env (eval o X.env)=eval o X.env:=by rfl)
  (hfew:((bD cpos (aE (e::es) X.env)).all (λx=>!x.1)&&(backToKw cpos (dG [] X.env)).all (λx=>x.1.isSome)
   && decide ((e::es).length+([]:List fm).length+(if ([]:List fm).isEmpty then 0 else 1)<30))=true:=by rfl)
  (hline:(apos.endLine==cpos.line)=true:=by rfl) (hs:aE (e::es) X.env=(false,eval e X.env)::aE es X.env:=by rfl) (hplain:(bD cpos (aE es X.env)).any (·.1)=false:=by rfl):
  PE X (.Call (.Attribute o name apos) (e::es) [] cpos) (tBM X.K T r to t):=by
 intro pins s σ H Q I h;refine wpAny_Call_method_late hbase hfew hline rfl (thn (ho pins s σ H _ I h) λv s1 zz=>?_);obtain⟨x,H1,I1,r1,ty,q1⟩:=zz;obtain⟨h1,h2⟩:=V1 I1 r1 ty;refine⟨T,id,pa,slot,hty,h1,h2,?_⟩;have hA:=ha cpos pins s1 σ H1 _ I1 q1;rw[hs]at hA ⊢;refine gZ (by show (false||(bD cpos (aE es X.env)).any (·.1))=false;rw[hplain]<;>rfl) (hU ?_)
 exact thn hA λus s2 ⟨vs,H2,I2,r2,q2⟩=>hm pins s2 σ H2 x vs v us Q I2 r1 r2 q2
end
def MtM(X:Cx)(id:String)(r:V->bA->Hp->VK->Prop):Prop:=
 ∀(pins:cp) (s:ae) (σ:St) (H:Hp) (x:V) (xs:bA) (v:aa) (us:List aa) (Q:VK),Inv X pins σ H s->RelV x v->Vals xs us->r x xs H Q->
  ai (model X.prog X.w) X.A (call (.builtin id) (v::us)) (EP X pins σ Q) X.xe s
theorem Vals.one:∀{x:V} {us:List aa},Vals [x] us->∃u,us=[u]/\RelV x u
 |_,_,.cons r .nil=>⟨_,rfl,r⟩
variable{t':Nat}
section
variable{X:Cx}{pins:cp}{σ:St}{H:Hp}{s:ae}{l b:Addr}{xs ys zs:bA}
theorem Inv.lset{n:Nat}{f:Array aa->Array aa}(I:Inv X pins σ H s)(hH:H l=some (.lst xs))
  (e:s.heap.get? l=some { cls:=.type "list", data:=.seq its.toArray n }) (hf:f its.toArray=its'.toArray) (hv:Vals ys its') (hz:ys.length<=aG):
  Inv X pins σ (upd H l (.lst ys)) { s with heap:=s.heap.update l (cG f),toks:=t' }:=by
 have q:=PySem.IsL.update e f;rw[hf]at q;refine I.write (x:=l) (e:=l) (by rw[hH];exact trivial) (.inl rfl) (λb' u hb hu=>(gf s.heap (cG f) (cZ hb)).trans hu) ⟨_,q⟩ ?_;exact⟨hz,its',_,hv,q⟩
theorem Inv.lnew(I:Inv X pins σ H s)(hv:Vals ys its)(hz:ys.length<=aG):
  Inv X pins σ (upd H s.heap.objs.size (.lst ys)) { s with heap:=s.heap.push { cls:=.type "list", data:=.seq its.toArray },toks:=t' }:=
 I.laid (λ_ _ q=>aN _ q) (aJ _) ⟨hz,its,0,hv,bu _ rfl⟩
theorem Inv.fresh(I:Inv X pins σ H s):H s.heap.objs.size=none:=I.hok.fresh (aJ _)
theorem Inv.lstM(I:Inv X pins σ H s)(hH:H l=some (.lst xs)):xs.length<=aG/\∃(its:List aa) (n:Nat),Vals xs its/\xs.length=its.length/\s.heap.get? l=some { cls:=.type "list", data:=.seq its.toArray n }:=by obtain⟨z,its,n,r,e⟩:=I.hok l _ hH;exact⟨z,its,n,r,r.length,e⟩
theorem JV{n:Nat}(h:n<=aG):gX n=false:=by unfold gX;exact aL (by omega)
end
section
variable{X:Cx}
def IU:V->bA->Hp->VK->Prop:=λx vs H Q=>∃l xs y,x=.ref l/\vs=[y]/\H l=some (.lst xs)/\xs.length<aG/\Q .non (upd H l (.lst (xs++[y])))
theorem Dy:MtM X "list.append" IU:=by intro pins s σ H x vs v us Q I rx rv h;obtain⟨l,xs,y,rfl,rfl,hH,hz,q⟩:=h;cases rx;obtain⟨u,rfl,ru⟩:=rv.one;obtain⟨z,its,n,r,hl,e⟩:=I.lstM hH;refine l3 kr ⟨_,e,rfl⟩ F.entry_list_append (F.args_list_append_2 _ _) (PySem.list_append l its.toArray n u (by rw[bb];omega)) ⟨e,?_⟩;refine⟨.non,_,I.lset (its':=its++[u]) hH e (by simp) (r.append (.cons ru .nil)) ?_,rfl,q⟩;rw[aP,cB];omega
def ME:V->bA->Hp->VK->Prop:=λx vs H Q=>∃l b xs zs,x=.ref l/\vs=[.ref b]/\H l=some (.lst xs)/\H b=some (.lst zs)/\xs.length+zs.length<=aG/\Q .non (upd H l (.lst (xs++zs)))
theorem NZ:MtM X "list.extend" ME:=by
 intro pins s σ H x vs v us Q I rx rv h;obtain⟨l,b,xs,zs,rfl,rfl,hH,hB,hz,q⟩:=h;cases rx;obtain⟨u,rfl,ru⟩:=rv.one;cases ru;obtain⟨z,its,n,r,hl,e⟩:=I.lstM hH;obtain⟨z2,its2,n2,r2,hl2,e2⟩:=I.lstM hB;have hsz:its.toArray.size+its2.toArray.size<=aG:=by rw[bb,bb];omega
 have hlong:¬(!its.toArray.isEmpty&&gX (its.toArray.size+its2.toArray.size))=true:=by rw[JV hsz,o4];exact bj
 refine l3 jd ⟨_,e,rfl⟩ nD (m9 _ _)
  (AutoSeq1.list_extend_list_list_0 l its.toArray n b its2.toArray n2 hlong (by rw[bb];omega) (by omega)) ⟨e,e2,?_⟩
 refine⟨.non,_,I.lset (its':=its++its2) hH e (by simp) (r.append r2) ?_,rfl,q⟩;rw[aP];omega
def rCat:R2:=λx y H Q=>∃l b xs zs,x=.ref l/\y=.ref b/\H l=some (.lst xs)/\H b=some (.lst zs)/\xs.length+zs.length<=aG/\∀p,H p=none->Q (.ref p) (upd H p (.lst (xs++zs)))
theorem V2:OpR X (dh .Add) rCat:=by
 intro pins s σ H x y v u Q I rx ry h;obtain⟨l,b,xs,zs,rfl,rfl,hH,hB,hz,q⟩:=h;cases rx;cases ry;obtain⟨z,its,n,r,hl,e⟩:=I.lstM hH;obtain⟨z2,its2,n2,r2,hl2,e2⟩:=I.lstM hB;refine PySem.P.add_list e e2 ?_ (by rw[bb,bb];omega);have ea:its.toArray++its2.toArray=(its++its2).toArray:=by simp
 rw[ea];exact⟨.ref _,_,I.lnew (t':=s.toks) (r.append r2) (by rw[aP];omega),rfl,q _ I.fresh⟩
end
section
variable{prog:ay}{w:av}{A:aC}{E:aa->ae->Prop}{s:ae}
set_option maxRecDepth 100000 in
end
section
variable{κ:Type}[DecidableEq κ]
def wX(kvs:List (κ×V))(k:κ):Option V:=(kvs.find? λkv=>decide (kv.1=k)).map (·.2)
def putK(kvs:List (κ×V))(k:κ)(v:V):List (κ×V):=
 if (kvs.any λkv=>decide (kv.1=k))=true then kvs.map (λkv=>if kv.1=k then (kv.1,v)else kv)else kvs++[(k,v)]
theorem Cq{p:κ×V}{r:List (κ×V)}{k:κ}(e:p.1=k):wX (p::r) k=some p.2:=by simp[wX,cU,e]
theorem Cr{p:κ×V}{r:List (κ×V)}{k:κ}(e:¬p.1=k):wX (p::r) k=wX r k:=by simp[wX,cU,e]
theorem Fn(k:κ):∀kvs:List (κ×V),(kvs.any λkv=>decide (kv.1=k))=(wX kvs k).isSome
 |[]=>rfl
 |p::r=>by
  rw[fN];by_cases e:p.1=k
  ·simp only[Cq e,aM e,Bool.true_or,Option.isSome_some]
  ·rw[Cr e,aL e,Bool.false_or];exact Fn k r
theorem yP(kvs:List (κ×V))(k:κ)(v:V):(putK kvs k v).length<=kvs.length+1:=by
 unfold putK;split
 ·rw[aj];omega
 ·rw[aP,aO,dw];omega
theorem Ph{kvs:List (κ×V)}{k:κ}(v:V)(h:wX kvs k=none):putK kvs k v=kvs++[(k,v)]:=by unfold putK;rw[Fn,h];exact ag (by decide)
theorem AO.isSome_eq{o:Option V}{u:Option aa}(r:AO o u):o.isSome=u.isSome:=by
 cases o with
 |none=>cases u with
  |none=>rfl
  |some _=>exact(show False from r).elim
 |some _=>cases u with
  |none=>exact(show False from r).elim
  |some _=>rfl
theorem AO.getD{o:Option V}{u:Option aa}{d:V}{d':aa}(r:AO o u)(rd:RelV d d'):RelV (o.getD d) (u.getD d'):=by
 cases o with
 |none=>cases u with
  |none=>exact rd
  |some _=>exact(show False from r).elim
 |some _=>cases u with
  |none=>exact(show False from r).elim
  |some _=>exact r
theorem KV.val{kvs:List (κ×V)}{vs:List (κ×aa)}(r:KV kvs vs)(k:κ):AO (wX kvs k) (valueAt vs k):=by
 unfold KV at r
 induction r with
 |nil=>exact True.intro
 |@cons p q ps qs h t ih=>
  obtain⟨h1,h2⟩:=h;by_cases e:p.1=k
  ·have e':q.1=k:=h1.symm.trans e;have b:valueAt (q::qs) k=some q.2:=by simp[valueAt,cU,e']
   rw[Cq e,b];exact h2
  ·have e':¬q.1=k:=λz=>e (h1.trans z);have b:valueAt (q::qs) k=valueAt qs k:=by simp[valueAt,cU,e']
   rw[Cr e,b];exact ih
theorem KV.any{kvs:List (κ×V)}{vs:List (κ×aa)}(r:KV kvs vs)(k:κ):(kvs.any λkv=>decide (kv.1=k))=vs.any λkv=>decide (kv.1=k):=by
 unfold KV at r
 induction r with
 |nil=>rfl
 |cons h t ih=>rw[fN,fN,ih,h.1]
theorem KV.repl{kvs:List (κ×V)}{vs:List (κ×aa)}(r:KV kvs vs)(k:κ)(ry:RelV y u):
  KV (kvs.map λkv=>if kv.1=k then (kv.1,y)else kv) (vs.map λkv=>if kv.1=k then (kv.1,u)else kv):=by
 unfold KV at r ⊢
 induction r with
 |nil=>exact .nil
 |@cons p q ps qs h t ih=>
  rw[aK,aK];refine .cons ?_ ih;obtain⟨h1,h2⟩:=h;by_cases e:p.1=k
  ·rw[af e,af (h1.symm.trans e)];exact⟨h1,ry⟩
  ·rw[ag e,ag (λz=>e (h1.trans z))];exact⟨h1,h2⟩
theorem KV.put{kvs:List (κ×V)}{vs:List (κ×aa)}(r:KV kvs vs)(k:κ)(ry:RelV y u):KV (putK kvs k y) (stored vs k u):=by
 unfold putK stored;rw[r.any k];by_cases e:(vs.any λkv=>decide (kv.1=k))=true
 ·rw[af e,af e];exact r.repl k ry
 ·rw[ag e,ag e];exact pV r ⟨rfl,ry⟩
theorem KV.length{kvs:List (κ×V)}{vs:List (κ×aa)}(r:KV kvs vs):kvs.length=vs.length:=kQ r
end
theorem Cs{P:ay}{w:av}{k:Key}(r:RelV (kV k) u):(ua P w).is k u=true:=by
 cases k with
 |inl i=>obtain⟨t,e⟩:=(show ∃t,u=Value.int i t from r);subst e;exact JK P w i t
 |inr x=>obtain⟨t,e⟩:=(show ∃t,u=Value.str x t from r);subst e;exact JL P w x t
theorem Ho{P:ay}{w:av}:∀{ks:List Key} {us:List aa},Vals (ks.map kV) us->ItemsAre (ua P w) ks us
 |[],_,r=>by rw[d8]at r;cases r;exact .nil
 |k::ks,_,r=>by
  rw[aK]at r;cases r with
  |cons h t=>exact .cons (Cs h) (Ho t)
abbrev KT(H:Hp):List (List Key×V)->List (List Key×Addr×aa)->Prop:=fT λp q=>p.1=q.1/\H q.2.1=some (.tup (p.1.map kV))/\RelV p.2 q.2.2
variable{kvs:List (List Key×V)}{xs:List (List Key×Addr×aa)}
theorem KT.val{H:Hp}(r:KT H kvs xs)(k:List Key):AO (wX kvs k) ((atKey xs k).map (·.2)):=by
 induction r with
 |nil=>exact True.intro
 |@cons p q ps qs h t ih=>
  obtain⟨h1,_,h2⟩:=h;by_cases e:p.1=k
  ·have e':q.1=k:=h1.symm.trans e;have b:atKey (q::qs) k=some q.2:=by simp[atKey,cU,e']
   rw[Cq e,b];exact h2
  ·have e':¬q.1=k:=λz=>e (h1.trans z);have b:atKey (q::qs) k=atKey qs k:=by simp[atKey,cU,e']
   rw[Cr e,b];exact ih
theorem KT.repl{H:Hp}(r:KT H kvs xs)(k:List Key)(ry:RelV y u):
  KT H (kvs.map λkv=>if kv.1=k then (kv.1,y)else kv) (xs.map (putAt k u)):=by
 induction r with
 |nil=>exact .nil
 |@cons p q ps qs h t ih=>
  rw[aK,aK];refine .cons ?_ ih;obtain⟨h1,h2,h3⟩:=h;unfold putAt;by_cases e:p.1=k
  ·rw[af e,af (h1.symm.trans e)];exact⟨h1,h2,ry⟩
  ·rw[ag e,ag (λz=>e (h1.trans z))];exact⟨h1,h2,h3⟩
theorem KT.put{H:Hp}(r:KT H kvs xs)(k:List Key){b:Addr}(hb:H b=some (.tup (k.map kV)))(ry:RelV y u):
  KT H (putK kvs k y) (storedH xs k b u):=by
 have e:(kvs.any λkv=>decide (kv.1=k))=(atKey xs k).isSome:=by rw[Fn,(r.val k).isSome_eq,Option.isSome_map]
 unfold putK storedH;rw[e];by_cases q:(atKey xs k).isSome=true
 ·rw[af q,af q];exact r.repl k ry
 ·rw[ag q,ag q];exact pV r ⟨rfl,hb,ry⟩
variable{H':Hp}
theorem KT.keeps{H:Hp}(r:KT H kvs xs)(ht:∀b ys,H b=some (.tup ys)->H' b=some (.tup ys)):KT H' kvs xs:=
 Paired.mapP r λ_ _ z=>⟨z.1,ht _ _ z.2.1,z.2.2⟩
section
variable{P:ay}{w:av}{H:Hp}{h:Heap}{a:Addr}
theorem UV{u:HO}(ok:HOk P w H h)(e:Rd H a u):uT P w H h a u:=e.ok ok
theorem D4{kvs:List (Key×V)}(ok:HOk P w H h)(e:Rd H a (.dK kvs)):kvs.length<=aG/\(a==df)=false/\∃vs,KV kvs vs/\h.DictOf (ua P w) a vs:=
 show uT P w H h a (.dK kvs) from UV ok e
theorem Pi{kvs:List (Key×V)}(ok:HOk P w H h)(e:H a=some (.dK kvs)):kvs.length<=aG/\(a==df)=false/\∃vs,KV kvs vs/\h.DictOf (ua P w) a vs:=D4 ok (.inl e)
theorem Fo{ks:List Key}(ok:HOk P w H h)(e:H a=some (.tup (ks.map kV))):(tupleKind (ua P w)).is h ks a:=by obtain⟨_,its,r,o,h1,h2,n,h3⟩:=(show uT P w H h a (.tup (ks.map kV)) from ok a _ e);exact⟨o,its.toArray,n,h1,h2,h3,by simpa using Ho r⟩
theorem Hr(ok:HOk P w H h)(e:Rd H a (.dT kvs)):kvs.length<=aG/\(a==df)=false/\
  ∃xs,KT H kvs xs/\h.DictOfH (tupleKind (ua P w)) a xs:=by
 obtain⟨z,y,xs,r,o,es,ep,h1,h2,h3,h4,h5⟩:=(show uT P w H h a (.dT kvs) from UV ok e);refine⟨z,y,xs,r,o,es,ep,h1,h2,h3,h4,λx hx=>?_,h5⟩;have all:∀{l:List (List Key×V)} {m:List (List Key×Addr×aa)},KT H l m->∀x∈m,(tupleKind (ua P w)).is h x.1 x.2.1:=by
  intro l m q
  induction q with
  |nil=>intro x hx;exact nomatch hx
  |@cons p q ps qs hq t ih=>
   intro x hx;rcases aT.mp hx with e|hx
   ·subst e;exact Fo ok (by rw[<-hq.1];exact hq.2.1)
   ·exact ih x hx
 exact all r x hx
theorem ZQ(ok:HOk P w H h)(e:H a=some (.dT kvs)):kvs.length<=aG/\(a==df)=false/\
  ∃xs,KT H kvs xs/\h.DictOfH (tupleKind (ua P w)) a xs:=Hr ok (.inl e)
end
def DGet(H:Hp)(a:Addr)(y:V)(r:Option V):Prop:=
 (∃kvs k,Rd H a (.dK kvs)/\y=kV k/\r=wX kvs k)\/∃kvs k b,Rd H a (.dT kvs)/\y=.ref b/\H b=some (.tup (k.map kV))/\r=wX kvs k
def Pj(H:Hp)(a:Addr)(y v:V)(H':Hp):Prop:=
 (∃kvs k,H a=some (.dK kvs)/\y=kV k/\kvs.length<aG/\H'=upd H a (.dK (putK kvs k v)))\/
 ∃kvs k b,H a=some (.dT kvs)/\y=.ref b/\H b=some (.tup (k.map kV))/\kvs.length<aG/\H'=upd H a (.dT (putK kvs k v))
theorem Pj.k{H:Hp}{a:Addr}{kvs:List (Key×V)}{k:Key}{v:V}(e:H a=some (.dK kvs))(hl:kvs.length<aG):Pj H a (kV k) v (upd H a (.dK (putK kvs k v))):=.inl ⟨kvs,k,e,rfl,hl,rfl⟩
variable{Q:aa->ae->Prop}{h':Heap}
section
variable{X:Cx}{pins:cp}{σ:St}{H:Hp}{s:ae}{a:Addr}{y v:V}{u r:aa}{o:Option V}{A:aC}{E:aa->ae->Prop}
theorem Inv.big(I:Inv X pins σ H s):df<s.heap.objs.size:=by have h:aW<s.heap.objs.size:=(I.mod.glob.keeps I.bk).lt;exact Nat.lt_trans (by decide) h
theorem N0(hu:A.units+1<cLine)(I:Inv X pins σ H s)(g:DGet H a y (some v))(ry:RelV y u)(h:∀w' s',Inv X pins σ H s'->RelV v w'->Q w' s'):
  ai (model X.prog X.w) A (getItem (.ref a) u) Q E s:=by
 rcases g with ⟨kvs,k,e,ey,l⟩|⟨kvs,k,b,e,ey,eb,l⟩
 ·subst ey;obtain⟨z,hd,vs,rel,dd⟩:=D4 I.hok e;obtain⟨w',hw,rw'⟩:=AO.some_of (v:=v) (o:=valueAt vs k) (by rw[l];exact rel.val k);exact wpAny_getItem_of (Cs ry) dd.mapOf hw (h w' _ (I.tok _) rw')
 ·subst ey;cases (show u=Value.ref b from ry);obtain⟨z,hd,xs,rel,dd⟩:=Hr I.hok e;obtain⟨w',hw,rw'⟩:=AO.some_of (v:=v) (o:=(atKey xs k).map (·.2)) (by rw[l];exact rel.val k)
  obtain⟨p,hp,hp2⟩:=Option.map_eq_some_iff.mp hw;refine wpAny_getItem_heap (je hu) (Fo I.hok eb) dd hp ?_;rw[hp2];exact h w' _ (I.tok _) rw'
theorem EW{ob:HO}(I:Inv X pins σ H s)(mu:Mut (H a))(hs:dF a s.heap h')(he:∃q,h'.get? a=some q)(new:uT X.prog X.w (upd H a ob) h' a ob):
  Inv X pins σ (upd H a ob) { s with heap:=h',toks:=t' }:=
 I.write (x:=a) (e:=a) mu (.inl rfl) (λb q hb z=>(hs.2 b hb).trans z) he new
theorem Lo{P:ay}{w:av}{kvs:List (Key×V)}{vs:List (Key×aa)}(z:kvs.length<=aG)(hd:(a==df)=false)(rel:KV kvs vs)(dd:h'.DictOf (ua P w) a vs):
  uT P w H' h' a (.dK kvs):=⟨z,hd,vs,rel,dd⟩
theorem N1{Q:Unit->ae->Prop}(hu:A.units+1<cLine)(I:Inv X pins σ H s)(g:Pj H a y v H')(ry:RelV y u)(rv:RelV v r)(h:∀s',Inv X pins σ H' s'->Q () s'):
  ai (model X.prog X.w) A (setItem (.ref a) u r) Q E s:=by
 rcases g with ⟨kvs,k,e,ey,l,eH⟩|⟨kvs,k,b,e,ey,eb,l,eH⟩
 ·subst ey eH;obtain⟨z,hd,vs,rel,dd⟩:=Pi I.hok e;have hz:vs.length<=aG:=by rw[<-rel.length];exact z
  have hl:(putK kvs k v).length<=aG:=by have:=yP kvs k v;omega
  refine wpAny_setItem_pairs (hsz:=hz) (Cs ry) dd λh' dd' hs=>h _ ?_;have he:∃q,h'.get? a=some q:=let ⟨q,_,_,hq,_⟩:=dd';⟨q,hq⟩;exact EW I (by rw[e];exact True.intro) hs he (Lo hl hd (rel.put k rv) dd')
 ·subst ey eH;cases (show u=Value.ref b from ry);obtain⟨z,hd,xs,rel,dd⟩:=ZQ I.hok e;have hz:xs.length<=aG:=by rw[<-kQ rel];exact z
  have hl:(putK kvs k v).length<=aG:=by have:=yP kvs k v;omega
  refine wpAny_setItem_heap (hsz:=hz) (je hu) (Fo I.hok eb) dd λh' dd' hs=>h _ ?_;obtain⟨q,es,ep,hq,h2,h3,h4,_,h5⟩:=dd';refine EW I (by rw[e];exact True.intro) hs ⟨q,hq⟩ ⟨hl,hd,_,(rel.put k eb rv).keeps λc ys ec=>?_,q,es,ep,hq,h2,h3,h4,h5⟩;rw[tK (Ze ec e (λz=>nomatch z))];exact ec
end
section
variable{X:Cx}{pins:cp}{σ:St}{H:Hp}{s:ae}{a:Addr}{kvs:List (Key×V)}{k:Key}{u:aa}{A:aC}{E:aa->ae->Prop}
theorem ZR(I:Inv X pins σ H s)(e:Rd H a (.dK kvs))(h:∀t s',Inv X pins σ H s'->Q (.int kvs.length t) s'):ai (model X.prog X.w) A (call (.builtin "len") [.ref a]) Q E s:=by obtain⟨z,hd,vs,rel,dd⟩:=D4 I.hok e;refine call_len_dict hd dd (by rw[<-rel.length];rw[bO]at z;omega) ?_;rw[<-rel.length];exact h _ _ (I.tok _)
end
def V3(i:Expr):Prop:=∀ov iv,subscripted i false ov iv=operate [ov,iv] (getItem ov iv)
variable{pos:Pos}
theorem Sx{prog:ay}{w:av}{A:aC}{E:aa->ae->Prop}{s:ae}{env:Env}{value slice:Expr}{id:String}
  (hl:typeLookup (.type T) "__getitem__" = pure (some (.builtin id))) (hs:V3 slice)
  (h:ai (model prog w) A (eval value env) (λo s₁=>ai (model prog w) A (eval slice env) (λi s₂=>s₂.TypeIs o T/\ai (model prog w) A (getItem o i) Q E s₂) E s₁) E s):
  ai (model prog w) A (eval (.Subscript value slice pos) env) Q E s:=by
 refine lY (bX h (λo s₁ h₁=>bX h₁ (λi s₂ h₂=>?_) λ_ _ x=>x) λ_ _ x=>x);obtain⟨hT,h₂⟩:=h₂;unfold subscriptTail;refine ah ?_;rw[getitemInPython_of_ne hT.not_modules];refine ah (iq hT hl ?_);have fin:ai (model prog w) A (subscripted slice false o i) (λr s₃=>ai (model prog w) A (letTemporaryGo value o r>>=λ_=>pure r) Q E s₃) E s₂:=by rw[hs o i];exact wpAny_operating (bX h₂ (λr s₃ h₃=>ah (wpAny_letTemporaryGo (ar h₃))) λ_ _ x=>x)
 first
  |exact ar (ah fin)
  |exact ah (ar (ah fin))
  |exact ah fin
variable{X:Cx}{a:Addr}
theorem JW{H:Hp}{s:ae}{o:Option V}(I:Inv X pins σ H s)(g:DGet H a y o):s.TypeIs (.ref a) "dict" := by
 rcases g with ⟨kvs,k,e,_,_⟩|⟨kvs,k,b,e,_,_,_⟩
 ·obtain⟨_,_,vs,_,dd⟩:=D4 I.hok e;exact dd.typeIs
 ·obtain⟨_,_,xs,_,dd⟩:=Hr I.hok e;exact dd.typeIs
def ZU(td ty:TE):TE:=λσ H Q=>td σ H λx H1=>ty σ H1 λy H2=>∃a v,x=.ref a/\DGet H2 a y (some v)/\Q v H2
def UW(td ty tv:TE):TS:=λD σ H=>tv σ H λv H1=>td σ H1 λx H2=>ty σ H2 λy H3=>∃a H4,x=.ref a/\Pj H3 a y v H4/\D.nx σ H4
section
variable{X:Cx}{o i e value:Expr}{pos pos' tpos:Pos}{td ty tv:TE}
theorem Sy(hu:X.A.units+1<cLine)(ho:PE X o td)(hi:PE X i ty)(hs:V3 i):PE X (.Subscript o i pos) (ZU td ty):=by intro pins s σ H Q I h;refine Sx F.slot_dict_getitem.lookup hs (thn (ho pins s σ H _ I h) λu s1 ⟨x,H1,I1,rx,q1⟩=>thn (hi pins s1 σ H1 _ I1 q1) λiv s2 zz=>?_);obtain⟨y,H2,I2,ry,a,v,ex,g,q2⟩:=zz;subst ex;obtain rfl:u=Value.ref a:=rx;exact⟨JW I2 g,N0 hu I2 g ry λw' s3 I3 rw'=>⟨v,H2,I3,rw',q2⟩⟩
theorem SA(hu:X.A.units+1<cLine)(ho:PE X o td)(hi:PE X i ty)(hv:PE X value tv)(hs:dg value (some (.Subscript o i pos')) pos.line X.env=pure false):
  PS X (.Assign [.Subscript o i pos'] value pos) (UW td ty tv):=by
 intro pins s σ H D I h;refine wpAny_Assign_Subscript (thn (hv pins s σ H _ I h) λr s1 ⟨v,H1,I1,rv,q1⟩=>thn (ho pins s1 σ H1 _ I1 q1) λu s2 ⟨x,H2,I2,rx,q2⟩=>thn (hi pins s2 σ H2 _ I2 q2) λiv s3 zz=>?_) hs;obtain⟨y,H3,I3,ry,a,H4,ex,g,q3⟩:=zz;subst ex;obtain rfl:u=Value.ref a:=rx;exact N1 hu I3 g ry rv λs4 I4=>⟨σ,H4,I4,q3⟩
end
theorem JX{P:ay}{w:av}{H:Hp}(h:Heap)(hb:df<h.objs.size):uT P w H (h.push { cls:=.type "dict", data:=.dict #[] }) h.objs.size (.dK []):=
 ⟨cf _,beq_eq_false_iff_ne.mpr (cZ (aY hb)),[],.nil,sO h⟩
def Lp:TE:=λ_ H Q=>∀p,H p=none->Q (.ref p) (upd H p (.dK []))
section
variable{X:Cx}{pos:Pos}
theorem JY:PE X (.Dict [] [] pos) Lp:=λpins s σ H Q I h=>
 wpAny_Dict_empty ⟨.ref s.heap.objs.size,_,I.laid (a:=s.heap.objs.size) (o:=.dK []) (t':=s.toks) (λ_ _ q=>aN _ q) (aJ _) (JX s.heap I.big),rfl,h _ (I.hok.fresh (aJ _))⟩
end
def IV:List (TE×TE)->St->Hp->(List (V×V)->Hp->Prop)->Prop
 |[],_,H,Q=>Q [] H
 |(tk,tv)::r,σ,H,Q=>tk σ H λx H1=>tv σ H1 λy H2=>IV r σ H2 λps H3=>Q ((x,y)::ps) H3
abbrev VV:List (V×V)->List (aa×aa)->Prop:=fT λp q=>RelV p.1 q.1/\RelV p.2 q.2
def PPs(X:Cx)(pos:Pos)(keys:List (Option Expr))(values:List Expr)(trs:List (TE×TE)):Prop:=
 ∀(pins:cp) (s:ae) (σ:St) (H:Hp) (Q:List (V×V)->Hp->Prop),Inv X pins σ H s->IV trs σ H Q->
  ai (model X.prog X.w) X.A (evalPairs (pairTrees keys values X.env pos)) (λvs s'=>∃ps H',Inv X pins σ H' s'/\VV ps vs/\Q ps H') X.xe s
theorem SB:PPs X pos [] [] []:=λpins s σ H Q I h=>pairTrees_nil_walk ⟨[],H,I,.nil,h⟩
variable{trs:List (TE×TE)}
theorem Pk{k v:Expr}{ks:List (Option Expr)}{vs:List Expr}{tk tv:TE}(hk:PE X k tk)(hv:PE X v tv)(hr:PPs X pos ks vs trs):
  PPs X pos (some k::ks) (v::vs) ((tk,tv)::trs):=λpins s σ H Q I h=>
 pairTrees_cons_walk (thn (hk pins s σ H _ I h) λu s1 ⟨x,H1,I1,rx,q1⟩=>thn (hv pins s1 σ H1 _ I1 q1) λw2 s2 ⟨y,H2,I2,ry,q2⟩=>
  thn (hr pins s2 σ H2 _ I2 q2) λws s3 ⟨ps,H3,I3,rel,q3⟩=>⟨(x,y)::ps,H3,I3,.cons ⟨rx,ry⟩ rel,q3⟩)
def BZ(kvs more:List (Key×V)):List (Key×V):=more.foldl (λacc kv=>putK acc kv.1 kv.2) kvs
theorem KV.merge:∀{more:List (Key×V)} {rs:List (Key×aa)} {kvs:List (Key×V)} {vs:List (Key×aa)},KV more rs->KV kvs vs->KV (BZ kvs more) (merged vs rs):=by
 intro more rs kvs vs r;unfold KV at r
 induction r generalizing kvs vs with
 |nil=>intro q;exact q
 |@cons p q ps qs h t ih=>
  intro r0;have e:KV (putK kvs p.1 p.2) (stored vs q.1 q.2):=by have:=r0.put p.1 h.2;rw[<-h.1];exact this
  exact ih e
theorem BD:∀(more kvs:List (Key×V)),(BZ kvs more).length<=kvs.length+more.length
 |[],kvs=>by show kvs.length<=kvs.length+0;omega
 |p::r,kvs=>by have h1:=BD r (putK kvs p.1 p.2);have h2:=yP kvs p.1 p.2;show (BZ (putK kvs p.1 p.2) r).length<=_;rw[aO];omega
theorem Fp{P:ay}{w:av}:∀{kvs:List (Key×V)} {ws:List (aa×aa)},VV (kvs.map λkv=>(kV kv.1,kv.2)) ws->∃rs,Carries (ua P w) ws rs/\KV kvs rs
 |[],_,r=>by rw[d8]at r;cases r;exact⟨[],True.intro,.nil⟩
 |p::kvs,_,r=>by
  rw[aK]at r;cases r with
  |@cons a b as bs h t=>obtain⟨rs,c,q⟩:=Fp (P:=P) (w:=w) t;obtain⟨b1,b2⟩:=b;exact⟨(p.1,b2)::rs,⟨Cs h.1,rfl,c⟩,.cons ⟨rfl,h.2⟩ q⟩
def UX(trs:List (TE×TE)):TE:=λσ H Q=>∀p,H p=none->IV trs σ (upd H p (.dK [])) λps H2=>H2 p=some (.dK [])/\∃kvs:List (Key×V),ps=kvs.map (λkv=>(kV kv.1,kv.2))/\kvs.length<=15/\Q (.ref p) (upd H2 p (.dK (BZ [] kvs)))
theorem SC{keys:List (Option Expr)}{values:List Expr}(h:PPs X pos keys values trs)(hall:keys.all (·.isSome)=true)(hl:keys.length=values.length)(h0:keys≠[])
  (h15:keys.length<=15):PE X (.Dict keys values pos) (UX trs):=by
 intro pins s σ H Q I q;have hn:=I.hok.fresh (aJ s.heap.objs.size);have I1:=I.laid (a:=s.heap.objs.size) (o:=.dK []) (h':=s.heap.push { cls:=.type "dict", data:=.dict #[] }) (t':=s.toks) (λ_ _ q=>aN _ q) (aJ _) (JX s.heap I.big);refine wpAny_Dict_walk (knd:=ua X.prog X.w) hall hl h0 h15 (thn (h pins _ σ _ _ I1 (q _ hn)) λws s2 zz=>?_);obtain⟨ps,H2,I2,rel,e,kvs,ep,lk,q2⟩:=zz;subst ep;obtain⟨rs,c,rk⟩:=Fp (P:=X.prog) (w:=X.w) rel;obtain⟨z,hd,vs0,r0,dd⟩:=Pi I2.hok e;cases r0;refine⟨rs,c,dd,λh' dd' hs=>⟨.ref s.heap.objs.size,_,?_,rfl,q2⟩⟩;have hz:(BZ [] kvs).length<=aG:=by have h1:=BD kvs [];rw[dw]at h1;rw[bO];omega
 have he:∃q,h'.get? s.heap.objs.size=some q:=let ⟨q,_,_,hq,_⟩:=dd';⟨q,hq⟩;exact EW I2 (by rw[e];exact True.intro) hs he (Lo hz hd (rk.merge .nil) dd')
structure M1(X:Cx)(o:Expr)(m:Str)(apos:Pos)(e:Expr)(cpos:Pos):Prop where
 base:eV o m X.env (eval o X.env)=eval o X.env
 few:((bD cpos (aE [e] X.env)).all (λx=>!x.1)&&(backToKw cpos (dG [] X.env)).all (λx=>x.1.isSome)
  && decide (([e]:List Expr).length+([]:List fm).length+(if ([]:List fm).isEmpty then 0 else 1)<30))=true
 line:(apos.endLine==cpos.line)=true
 trees:bD cpos (aE [e] X.env)=[(false,eval e X.env)]
structure M2(X:Cx)(o:Expr)(m:Str)(apos:Pos)(e f:Expr)(cpos:Pos):Prop where
 base:eV o m X.env (eval o X.env)=eval o X.env
 few:((bD cpos (aE [e,f] X.env)).all (λx=>!x.1)&&(backToKw cpos (dG [] X.env)).all (λx=>x.1.isSome)
  && decide (([e,f]:List Expr).length+([]:List fm).length+(if ([]:List fm).isEmpty then 0 else 1)<30))=true
 line:(apos.endLine==cpos.line)=true
 trees:bD cpos (aE [e,f] X.env)=[(false,eval e X.env),(false,eval f X.env)]
def IsD(H:Hp)(a:Addr):Prop:=(∃kvs,Rd H a (.dK kvs))\/∃kvs,Rd H a (.dT kvs)
theorem IW{H:Hp}{s:ae}(I:Inv X pins σ H s)(d:IsD H a):
  s.TypeIs (.ref a) "dict" /\ (∀b,Value.ref a=.ref b->∃ob,s.heap.get? b=some ob/\ob.dict=none)/\(a==df)=false:=by
 rcases d with ⟨kvs,e⟩|⟨kvs,e⟩
 ·obtain⟨_,hd,vs,_,dd⟩:=D4 I.hok e;refine⟨dd.typeIs,λb q=>?_,hd⟩;cases q;obtain⟨ob,_,_,h1,h2,_⟩:=dd;exact⟨ob,h1,h2.2.1⟩
 ·obtain⟨_,hd,xs,_,dd⟩:=Hr I.hok e;refine⟨dd.typeIs,λb q=>?_,hd⟩;cases q;obtain⟨ob,_,_,h1,h2,_⟩:=dd;exact⟨ob,h1,h2.2.1⟩
section
variable{X:Cx}{pins:cp}{σ:St}{H:Hp}{s:ae}{a:Addr}{y d:V}{u r:aa}{o:Option V}{A:aC}{E:aa->ae->Prop}
theorem Pl(hu:A.units+1<cLine)(I:Inv X pins σ H s)(g:DGet H a y o)(ry:RelV y u)(h:∀w' s',Inv X pins σ H s'->RelV (o.getD .non) w'->Q w' s'):
  ai (model X.prog X.w) A (call (.builtin "dict.get") [.ref a,u]) Q E s:=by
 rcases g with ⟨kvs,k,e,ey,l⟩|⟨kvs,k,b,e,ey,eb,l⟩
 ·subst ey;obtain⟨z,hd,vs,rel,dd⟩:=D4 I.hok e;refine gA eS dd.typeIs ip (ky _ _) (o6 (ua X.prog X.w) a (Cs ry) hd) ⟨_,dd.mapOf,h _ _ (I.tok _) ?_⟩;rw[l];exact(rel.val k).getD rfl
 ·subst ey;cases (show u=Value.ref b from ry);obtain⟨z,hd,xs,rel,dd⟩:=Hr I.hok e;refine gA eS dd.typeIs ip (ky _ _) (meetsH_dict_get (tupleKind (ua X.prog X.w)) a b hd) ⟨je hu,k,xs,Fo I.hok eb,dd,h _ _ (I.tok _) ?_⟩;rw[l];exact(rel.val k).getD rfl
theorem V4(hu:A.units+1<cLine)(I:Inv X pins σ H s)(g:DGet H a y o)(ry:RelV y u)(rd:RelV d r)(h:∀w' s',Inv X pins σ H s'->RelV (o.getD d) w'->Q w' s'):
  ai (model X.prog X.w) A (call (.builtin "dict.get") [.ref a,u,r]) Q E s:=by
 rcases g with ⟨kvs,k,e,ey,l⟩|⟨kvs,k,b,e,ey,eb,l⟩
 ·subst ey;obtain⟨z,hd,vs,rel,dd⟩:=D4 I.hok e;refine gA eS dd.typeIs ip (nY _ _ _) (meets_dict_get_default (ua X.prog X.w) a (Cs ry) hd r) ⟨_,dd.mapOf,h _ _ (I.tok _) ?_⟩;rw[l];exact(rel.val k).getD rd
 ·subst ey;cases (show u=Value.ref b from ry);obtain⟨z,hd,xs,rel,dd⟩:=Hr I.hok e;refine gA eS dd.typeIs ip (nY _ _ _) (meetsH_dict_get_default (tupleKind (ua X.prog X.w)) a b hd r) ⟨je hu,k,xs,Fo I.hok eb,dd,h _ _ (I.tok _) ?_⟩;rw[l];exact(rel.val k).getD rd
end
def V5(td ty:TE):TE:=λσ H Q=>td σ H λx H1=>∃a,x=.ref a/\IsD H1 a/\ty σ H1 λy H2=>∃o,DGet H2 a y o/\Q (o.getD .non) H2
def V6(td ty tx:TE):TE:=λσ H Q=>td σ H λx H1=>∃a,x=.ref a/\IsD H1 a/\ty σ H1 λy H2=>tx σ H2 λz H3=>∃o,DGet H3 a y o/\Q (o.getD z) H3
section
variable{X:Cx}{o e f:Expr}{apos cpos:Pos}{td ty tx:TE}
theorem Pm(hu:X.A.units+1<cLine)(ho:PE X o td)(he:PE X e ty)(m:M1 X o "get" apos e cpos):PE X (.Call (.Attribute o "get" apos) [e] [] cpos) (V5 td ty):=by intro pins s σ H Q I h;refine jg m.base m.few m.line jh eS kI (thn (ho pins s σ H _ I h) λu s1 zz=>?_);obtain⟨x,H1,I1,rx,a,ex,d,q1⟩:=zz;subst ex;obtain rfl:u=Value.ref a:=rx;obtain⟨t1,t2,_⟩:=IW I1 d;refine⟨t1,t2,?_⟩;rw[m.trees];refine gZ rfl (hU (dU (thn (he pins s1 σ H1 _ I1 q1) λiv s2 ⟨y,H2,I2,ry,ov,g,q2⟩=>fH ?_)));exact Pl hu I2 g ry λw' s3 I3 rw'=>⟨_,H2,I3,rw',q2⟩
theorem Pn(hu:X.A.units+1<cLine)(ho:PE X o td)(he:PE X e ty)(hf:PE X f tx)(m:M2 X o "get" apos e f cpos):PE X (.Call (.Attribute o "get" apos) [e,f] [] cpos) (V6 td ty tx):=by
 intro pins s σ H Q I h;refine jg m.base m.few m.line jh eS kI (thn (ho pins s σ H _ I h) λu s1 zz=>?_);obtain⟨x,H1,I1,rx,a,ex,d,q1⟩:=zz;subst ex;obtain rfl:u=Value.ref a:=rx;obtain⟨t1,t2,_⟩:=IW I1 d;refine⟨t1,t2,?_⟩;rw[m.trees];refine gZ rfl (hU (dU (thn (he pins s1 σ H1 _ I1 q1) λiv s2 ⟨y,H2,I2,ry,q2⟩=>
  dU (thn (hf pins s2 σ H2 _ I2 q2) λfv s3 ⟨z,H3,I3,rz,ov,g,q3⟩=>fH ?_))))
 exact V4 hu I3 g ry rz λw' s4 I4 rw'=>⟨_,H3,I4,rw',q3⟩
end
end L2
namespace Att
open PySem PySem.W PySem.Calls PyProof.Rows
theorem EK{P:iH}{h:Heap}:∀(ns:List Int) (vs:List aa),WellAll P h vs (ns.map WData.int)->iF vs ns:=by
 intro ns
 induction ns with
 |nil=>intro vs w;rw[d8]at w;cases w;exact .nil
 |cons n ns ih=>
  intro vs w;rw[aK]at w;cases w with
  |cons a b=>cases a;exact .cons _ _ (ih _ b)
variable{l:iB}
theorem N2{n:Nat}(hn:l.most=some n){P:iH}{h:Heap}{args:List WData}{vals:List aa}
  (hpre:l.row.toRowW.claim.pre args=true) (hwl:WellAll P h vals args):
  ∃a vs ns,vals=[Value.ref a]/\args=[WData.list (ns.map WData.int)]/\h.get? a=some { cls:=.type "list", data:=.seq vs.toArray }/\iF vs ns/\ns.length<=n:=by
 have hsh:WShape.hasAll [] args [.list .int]=true:=(pre_splitW hpre).1;have hc:l.pre.holds [] { args:=args }=true:=(pre_splitW hpre).2;obtain⟨d,r,rfl,h1,h2⟩:=hasAllW_cons hsh;obtain rfl:=hasAllW_nil h2;obtain⟨xs,rfl,h3⟩:=hasW_list h1;obtain⟨ns,rfl⟩:=items_int h3;have hlen:ns.length<=n:=by
  unfold OpenLaw.pre at hc;have h4:(WTm.not (.lt (.lit (.int (n:Int))) (.len (.arg 0)))).holds [] { args:=[.list (ns.map .int)] }=true:=by have h4:=(holds_andW hc).1;rw[hn]at h4;exact h4
  have h5:=condW_of h4 (w_not (w_lt w_lit (w_len_list (w_arg rfl))));rw[aj]at h5;refine oF λq=>?_;have q':(n:Int)<((ns.length:Nat):Int):=by omega
  first
   |(rw[aM q']at h5;exact ao h5 (by decide))
   |(simp at h5;omega)
 cases hwl with
 |cons w1 w2=>
  cases w2;cases w1 with
  |list ho hall=>exact⟨_,_,ns,rfl,rfl,ho,EK ns _ hall,hlen⟩
theorem N3(l:iB)(args:List WData):l.row.toRowW.claim.post args (.bool true) args=true:=
 postW_of (r:=l.row.toRowW) (X:=(true==true))
  (show pY [] (.bool true) .bool=true by first|rfl|decide|simp[pY,WShape.arms,WShape.armsAll])
  (show (WTm.eq .res (.lit (.bool true))).value [] { args:=args,res:=some (.bool true),after:=args }=some (.bool (true==true)) from w_eq_bool (w_res rfl) w_lit) rfl
theorem attach_call{n:Nat}{q:ay}{loose:aH}{XP:(Str->Option aa)->Heap->Prop}{YP:av->Heap->Prop}{d:DefRec}
  (hn:l.most=some n) (hdf:d.params.defaults=[])
  (call:∀(w:av) (s₀ s₁:ae) (mg mb:Str->Option aa) (fa:Addr) (o:Obj) (pm cd doc:aa) (a:Addr) (vs:List aa) (ns:List Int),
   Ground q loose [] XP w s₀ mg mb s₁.heap->YP w s₁.heap->
   s₁.heap.get? fa=some o->o.data=.func (docDef d.name d.params d.body d.scope pm cd doc)->s₁.heap.CodeRec cd d.name->mg d.name=some (.ref fa)->
   s₁.heap.get? a=some { cls:=.type "list", data:=.seq vs.toArray }->iF vs ns->ns.length<=n->s₁.gens=#[]->
   cz (model l.prog w) callerA (.call (.ref fa) ⟨[.ref a],[]⟩) (λr s'=>r=.ok (.ret (.bool true))/\OldK s₁.heap s'.heap/\s'.os=s₁.os/\eA s'.gens) s₁):
  WalkO q loose XP YP l.row.toRowW d [] (λf vs=>l4 f vs):=by
 intro w s₀ s₁ mg mb G Y fa o pm cd doc dV kV ho hd hcd hD hmg hg args vals as hpre hlay hrd hwl hlo;obtain rfl:dV=.none:=Dflts.none hD hdf;obtain rfl:kV=.none:=Dflts.noKw hD;obtain⟨a,vs,ns,rfl,rfl,hobj,hints,hlen⟩:=N2 hn hpre hwl;refine enter_call (gz (call w s₀ s₁ mg mb fa o pm cd doc a vs ns G Y ho (fd_plain hd) hcd hmg hobj hints hlen hg) λr s' hq=>?_);obtain⟨rfl,h2,h3,h4⟩:=hq;exact⟨.inl ⟨.bool true,.bool true,[],rfl,λ_=>rfl,.bool true,N3 l _,λ_=>⟨List.Pairwise.nil,λ_ hm=>(nomatch hm)⟩⟩,h2,h3,h4⟩
end Att
namespace L2
open PySem PySem.Spec PyProof.Rows
theorem Ht:∀{vs:List aa} {ns:List Int},iF vs ns->Vals (ns.map V.int) vs
 |_,_,.nil=>.nil
 |_,_,.cons n t h=>.cons ⟨t,rfl⟩ (Ht h)
def V7(H:Hp):Prop:=∀b,H b=none\/∃o xs,H b=some (.frz o (.lst xs))
variable{a:Addr}{fd:bQ}{x:Str}{sp:Sp}
theorem Po{P:ay}{w:av}{K:au}{mg mb:Str->Option aa}{CX:CXT}{k:Nat}{fa:Addr}{s₁:ae}{vs:List aa}{ns:List Int}
  (KX:K.In s₁.heap) (hns:s₁.heap.Ns aW mg) (hb:s₁.heap.Ns builtinsNs mb) (hbb:∀x:Str,x≠"__name__" -> mb x=dE x) (hlim:s₁.heap.NoLimit) (hg:s₁.gens=#[])
  (ha:s₁.heap.get? a=some { cls:=.type "list", data:=.seq vs.toArray }) (hi:iF vs ns) (hl:ns.length<=aG) (hr:vn k callerA)
  (F:∀base:Heap,K.In base->base.Ns aW mg->xn P w K mg base CX k fa fd [x] sp) (hbind:∀(s:ae) (u:aa),gO s fd ⟨[u],[]⟩ [(x,u)])
  (hsp:∀H:Hp,V7 H->SqL K H a (ns.map V.int)->sp [.ref a] H (λv _=>v=.bl true) λ_ _ _=>False)
  (hCX:∀H e s',CX [] H s₁ (λ_ _ _=>False) e s'->False):
  cz (model P w) callerA (.call (.ref fa) ⟨[.ref a],[]⟩) (λr s'=>r=.ok (.ret (.bool true))/\OldK s₁.heap s'.heap/\s'.os=s₁.os/\eA s'.gens) s₁:=by
 have rv:=Ht hi;have lenV:=hi.length;have core:∀H:Hp,V7 H->SqL K H a (ns.map V.int)->HOk P w H s₁.heap->(∀b,H b≠none->b=a)->(H a≠none->K.lookup a=none)->
   cz (model P w) callerA (.call (.ref fa) ⟨[.ref a],[]⟩) (λr s'=>r=.ok (.ret (.bool true))/\OldK s₁.heap s'.heap/\s'.os=s₁.os/\eA s'.gens) s₁:=by
  intro H hO hS hok hA hK;have base_of:∀{b:Addr} {o:Obj},s₁.heap.get? b=some o->H b=none->(IH s₁.heap H).get? b=some o:=λe n=>OV e n;have noA:∀{b:Addr} {o:Obj} {es:Array DictEntry} {ep:Nat},s₁.heap.get? b=some o->o.data=.dict es ep->H b=none:=λ{b o es ep} e d=>by
   cases q:H b with
   |none=>rfl
   |some u=>have e':b=a:=hA b (by rw[q];simp);subst e';rw[ha]at e;cases e;have d':Data.seq vs.toArray _=Data.dict es ep:=d;cases d'
  have nsK:∀{b:Addr} {m:Str->Option aa},s₁.heap.Ns b m->(IH s₁.heap H).Ns b m:=λ{b m} ⟨o,es,ep,e,d,r⟩=>⟨o,es,ep,base_of e (noA e d),d,r⟩;have hKb:K.In (IH s₁.heap H):=λb o e=>base_of (KX b o e) (by
   cases q:H b with
   |none=>rfl
   |some u=>
    have e':b=a:=hA b (by rw[q];simp);subst e';rw[hK (by rw[q];simp)]at e;cases e)
  have hM:Mod K mg (IH s₁.heap H):=⟨hKb,nsK hns,⟨mb,nsK hb,hbb⟩,let ⟨mc,h1,h2⟩:=hlim;⟨mc,nsK h1,h2⟩⟩;have e0:Lk P w K mg (IH s₁.heap H) callerA [] s₁ H:=⟨rfl,hM,λb o e=>R7 e,pG (NM _ _),trivial,λb hb=>ao (show b∈([]:List Addr) from hb) (by simp),hok,.of_eq hg⟩;refine gz ((F _ hKb (nsK hns)).run callerA [] s₁ H ⟨[.ref a],[]⟩ [.ref a] [.ref a] _ _ hr e0 (hbind s₁ (.ref a)) (.cons rfl .nil) (hsp H hO hS)) λr s' h=>?_;cases r with
  |error e=>exact(hCX H e s' h).elim
  |ok fl=>
   cases fl with
   |next=>exact cN h
   |brk=>exact cN h
   |cont=>exact cN h
   |ret u=>
    obtain⟨v,H',os,bare,un,hok',r',q⟩:=h;have q':v=.bl true:=q;subst q';obtain rfl:u=Value.bool true:=r';refine⟨rfl,OldK.of_keep λb o e=>?_,os,bare⟩;cases q:H b with
    |none=>exact un.keep b o e q (by intro z;exact ao (show b∈([]:List Addr) from z) (by simp)) (by simp)
    |some u=>
     rcases hO b with z|⟨ob,xs,z⟩
     ·rw[q]at z;cases z
     ·have z2:=un.frzs b ob _ z;obtain⟨e1,_⟩:=hok b _ z;obtain⟨e2,_⟩:=hok' b _ z2;rw[e]at e1;cases e1;exact e2
 cases hk:K.lookup a with
 |some o=>have e:=KX a o hk;rw[ha]at e;cases e;refine core (λ_=>none) (λ_=>.inl rfl) (.inr ⟨_,vs.toArray,_,hk,rfl,rfl,rfl,by rw[bb,lenV];exact hl,by simpa using rv⟩) (λb u z=>by have z':(none:Option HO)=some u:=z;cases z') (λb z=>ao rfl z) λz=>ao rfl z
 |none=>
  refine core (λb=>if b=a then some (.frz { cls:=.type "list", data:=.seq vs.toArray } (.lst (ns.map V.int)))else none) (λb=>?_) (.inl (.inr ⟨{ cls:=.type "list", data:=.seq vs.toArray },af rfl⟩)) (λb u z=>?_) (λb z=>?_) λ_=>hk
  ·by_cases hb:b=a
   ·exact .inr ⟨_,_,af hb⟩
   ·exact .inl (ag hb)
  ·by_cases hb:b=a
   ·have z':=(af hb).symm.trans z;cases z';subst hb;exact⟨ha,by rw[aj];exact hl,vs,_,rv,ha⟩
   ·have z':=(ag hb).symm.trans z;cases z'
  ·by_cases hb:b=a
   ·exact hb
   ·exact ao (ag hb) z
theorem SD{l:iB}{n k:Nat}{q:ay}{loose:aH}{XP:(Str->Option aa)->Heap->Prop}{YP:av->Heap->Prop}{d:DefRec}{K:iH->au}{CX:av->CXT}{sp:av->Sp}
  (hn:l.most=some n) (hn2:n<=aG) (hdf:d.params.defaults=[]) (hr:vn k callerA)
  (hY:∀(w:av) (h:Heap),YP w h->(K w.params).In h)
  (F:∀(w:av) (mg:Str->Option aa) (fa:Addr) (h:Heap),(K w.params).In h->h.Ns aW mg->mg d.name=some (.ref fa)->
   ∃fd:bQ,(∀(s:ae) (u:aa),gO s fd ⟨[u],[]⟩ [(x,u)])/\
    ∀base:Heap,(K w.params).In base->base.Ns aW mg->xn l.prog w (K w.params) mg base (CX w) k fa fd [x] (sp w))
  (hsp:∀(w:av) (H:Hp) (a:Addr) (ns:List Int),ns.length<=n->V7 H->SqL (K w.params) H a (ns.map V.int)->sp w [.ref a] H (λv _=>v=.bl true) λ_ _ _=>False)
  (hCX:∀(w:av) (H:Hp) (s:ae) (e:aa) (s':ae),CX w [] H s (λ_ _ _=>False) e s'->False):
  W.WalkO q loose XP YP l.row.toRowW d [] (λf vs=>l4 f vs):=by
 refine Att.attach_call hn hdf λw s₀ s₁ mg mb fa o pm cd doc a vs ns G Y ho hd hcd hmg hobj hints hlen hg=>?_;have KX:=hY w _ Y;obtain⟨fd,hb,hF⟩:=F w mg fa _ KX G.T.g hmg;exact Po KX G.T.g G.T.b G.T.builtins G.T.nolimit hg hobj hints (bN hlen hn2) hr hF hb (λH hO hS=>hsp w H a ns hlen hO hS) λH e s'=>hCX w H s₁ e s'
def inClass(s:Stmt)(j:Nat):Stmt:=match s with
 |.ClassDef _ _ _ body _ _ _ _ _ _ _=>body.getD j (.Pass ⟨0,0,0,0⟩)
 |_=>.Pass ⟨0,0,0,0⟩
def wY(s:Stmt):Arguments:=match s with
 |.FunctionDef _ a _ _ _ _ _ _ _ _=>a
 |_=>{ posonlyargs:=[],args:=[],vararg:=none,kwonlyargs:=[],kw_defaults:=[],kwarg:=none,defaults:=[] }
def uw(s:Stmt):List Stmt:=match s with
 |.FunctionDef _ _ b _ _ _ _ _ _ _=>b
 |_=>[]
def tX(s:Stmt):cO:=match s with
 |.FunctionDef _ _ _ _ _ _ sc _ _ _=>sc
 |_=>{ kind:=.function,names:=[],isGenerator:=false,isCoroutine:=false }
abbrev CX0:CXT:=λ_ _ _ _ _ _=>False
abbrev E0:XK:=λ_ _ _=>False
theorem Hu{X:Cx}:Passes CX0 X E0:=λ_ _ _ _ _ _ _ h=>h.elim
structure Fun(K:au)(x qual:Str)(st:Stmt)(f:Addr)(fd:bQ):Prop where
 ex:∃(oc:aa) (od:Option Addr) (kV doc pm:aa) (an:Option Addr) (cdv ct:aa) (osl:Array (Option aa)),
  fd=eB x qual (wY st) (uw st) (tX st) .none kV doc pm an cdv ct/\K.lookup f=some ⟨oc,od,.func fd,osl⟩/\gL K cdv qual=true
 kp:dH K (.ref f)=true
variable{qual:Str}{ps:aH}
section
variable{P:ay}{w:av}{K:au}{mg:Str->Option aa}{base:Heap}
theorem Fun.ok{st:Stmt}{f:Addr}{N:aH}{k:Nat}(F:Fun K x qual st f fd)(S:vy N ps (tX st))(len:∀vs H Q E,sp vs H Q E->vs.length=ps.length)
  (hbody:∀(cdv:aa) (A:aC) (outer:List Env) (s:ae) (H:Hp) (vs:bA) (Q:VK) (E:XK),vn k (A.deeper (envOfC qual (tX st) s.heap.objs.size f cdv))->sp vs H Q E->
   ∃t,PSs (JQ CX0 P w K mg base N qual (tX st) f cdv A outer s H E).nox (uw st) t/\t { nx:=λ_ H'=>Q .non H',rt:=Q } (start N vs) H):xn P w K mg base CX0 (k+1) f fd ps sp:=by
 obtain⟨oc,od,kV,doc,pm,an,cdv,ct,osl,rfl,lk,hcd⟩:=F.ex;refine US lk hcd S len λA outer s H vs Q E hr hsp=>?_;obtain⟨t,h,q⟩:=hbody cdv A outer s H vs Q E hr hsp;exact⟨t,h.nox,q⟩
theorem Fun.binds{st:Stmt}{f:Addr}(F:Fun K x qual st f fd)
  (h:∀(kV doc pm:aa) (an:Option Addr) (cdv ct:aa) (us:List aa),us.length=ps.length->bindArgs (eB x qual (wY st) (uw st) (tX st) .none kV doc pm an cdv ct) ⟨us,[]⟩=pure (ps.zip us)):Binds K fd ps []:=by
 obtain⟨oc,od,kV,doc,pm,an,cdv,ct,osl,rfl,lk,hcd⟩:=F.ex;exact .all (h kV doc pm an cdv ct)
end
theorem JZ{A:aC}{k:Nat}(hr:vn k A):A.units+1<cLine:=jf (Nat.add_le_add_left (by decide:1<=64) _) hr.units
theorem Bo{n:Nat}(h:n<=1000):n<aG:=jf h (by decide)
section
variable{X:Cx}
theorem pv(i:Nat){pos:Pos}(hN:X.N[i]?=some x:=by rfl)(hv:Vis X.env.scope x:=by first|exact Or.inl rfl|exact Or.inr (Or.inl rfl)|exact Or.inr (Or.inr rfl))(hd:(x==("__debug__" : Str))=false:=by decide)
  (hcd:(x==("__classdict__" : Str))=false:=by decide):PE X (.Name x pos) (zR i):=Vr hN hv hd hcd
end
variable{B:Prop}
theorem IY{A:Prop}(h:B):if false=true then A else B:=by rw[ag bj];exact h
theorem IZ{A:Prop}(h:A):if true=true then A else B:=by rw[af rfl];exact h
def tQ(H H':Hp):Prop:=∀b o,H b=some o->H' b=some o
theorem tQ.refl(H:Hp):tQ H H:=λ_ _ h=>h
theorem tQ.trans{H H1 H2:Hp}(a:tQ H H1)(b:tQ H1 H2):tQ H H2:=λc o h=>b c o (a c o h)
theorem tQ.seq{K:au}{H H':Hp}{xs:bA}(e:tQ H H')(h:SqL K H a xs):SqL K H' a xs:=by
 rcases h with (h|⟨o,h⟩)|h
 ·exact .inl (.inl (e _ _ h))
 ·exact .inl (.inr ⟨o,e _ _ h⟩)
 ·exact .inr h
end L2
set_option maxHeartbeats 4000000
namespace L3
open PySem PySem.Spec PyProof.Rows L2
abbrev St:=L2.St
theorem Fq{α β:Type}{f:α->β->Sem (ForInStep β)}{g:β->α->β}:∀(l:List α) (b:β),(∀x∈l,∀c,f x c=pure (ForInStep.yield (g c x)))->(forIn l b f:Sem β)=pure (l.foldl g b)
 |[],b,_=>by simp
 |x::r,b,h=>by rw[List.forIn_cons,h x aV b];show (forIn r (g b x) f:Sem β)=_;rw[Fq r (g b x) λy hy c=>h y (ba _ hy) c];rfl
def Ax(cells:List (Str×Addr))(cs:List (Str×Addr))(x:Str×dJ):List (Str×Addr):=if (x.2==NameKind.free)=true then (x.1,(cells.lookup x.1).getD 0)::cs else cs
def xT(cells:List (Str×Addr))(names:List (Str×dJ)):List (Str×Addr):=names.foldl (Ax cells) []
variable{scope:cO}{env:Env}
theorem GY(h:∀x∈scope.names,x.2=.free->∃c,env.cells.lookup x.1=some c):
  closureFor scope env=pure (xT env.cells scope.names):=by
 simp only[closureFor];rw[Fq (g:=Ax env.cells) scope.names [] λx hx c=>by
  obtain⟨n,k⟩:=x;by_cases hk:k=.free
  ·subst hk;obtain⟨a,e⟩:=h _ hx rfl;have e':env.cells.lookup n=some a:=e;simp only[Ax,cellOf,e',beq_self_eq_true,if_true,oG];rfl
  ·have hb:(k==NameKind.free)=false:=by simpa using hk
   simp only[Ax,hb,fF,if_false]]
 rfl
theorem J0{cells:List (Str×Addr)}:∀(names:List (Str×dJ)) (acc:List (Str×Addr)),(∀x∈names,x.2=.free->∃c,cells.lookup x.1=some c)->(∀x c,acc.lookup x=some c->cells.lookup x=some c)->
  ∀x c,(names.foldl (Ax cells) acc).lookup x=some c->cells.lookup x=some c
 |[],acc,_,ha,x,c,e=>ha x c e
 |y::r,acc,h,ha,x,c,e=>by
  refine J0 r (Ax cells acc y) (λz hz=>h z (ba _ hz)) (λz d ez=>?_) x c e;obtain⟨n,k⟩:=y;unfold Ax at ez;split at ez
  ·rename_i hk;obtain⟨a,ea⟩:=h (n,k) aV (by simpa using hk);have ea':cells.lookup n=some a:=ea;rw[eQ]at ez;cases hb:z==n with
   |true=>rw[hb]at ez;have ez':some ((cells.lookup n).getD 0)=some d:=ez;rw[ea']at ez';rw[fS hb,ea'];exact ez'
   |false=>rw[hb]at ez;exact ha z d ez
  ·exact ha z d ez
theorem Hv{cells:List (Str×Addr)}:∀(names:List (Str×dJ)) (acc:List (Str×Addr)) (x:Str),(∃c,acc.lookup x=some c)->∃c,(names.foldl (Ax cells) acc).lookup x=some c
 |[],_,_,h=>h
 |y::r,acc,x,h=>by
  refine Hv r (Ax cells acc y) x ?_;unfold Ax;split
  ·rw[eQ];cases x==y.1 with
   |true=>exact⟨_,rfl⟩
   |false=>exact h
  ·exact h
theorem Fs{cells:List (Str×Addr)}:∀(names:List (Str×dJ)) (acc:List (Str×Addr)) (x:Str),(x,NameKind.free)∈names->∃c,(names.foldl (Ax cells) acc).lookup x=some c
 |[],_,_,h=>by cases h
 |y::r,acc,x,h=>by
  rcases aT.mp h with e|h
  ·subst e;refine Hv r _ x ?_;unfold Ax;rw[af (by simp),eQ];simp
  ·exact Fs r _ x h
theorem zV{env:Env}(x:Str):∀(names:List (Str×dJ)),
  (names.map λ(n,k)=>if (k==NameKind.free&&env.scope.kind==.function&&env.kindOf n==some .cell)then (n,NameKind.cell)else (n,k)).lookup x=
   (names.lookup x).map λk=>if (k==NameKind.free&&env.scope.kind==.function&&env.kindOf x==some .cell)=true then NameKind.cell else k
 |[]=>rfl
 |(n,k)::r=>by
  have ih:=zV (env:=env) x r;rw[aK,eQ (k:=n)];show dc x ((if (k==NameKind.free&&env.scope.kind==.function&&env.kindOf n==some .cell)=true then (n,NameKind.cell)else (n,k))::_)=_;cases hx:x==n with
  |true=>
   have e:=fS hx;subst e;split
   ·rename_i hc;simp only[eQ,hx,fK,hc,if_true]
   ·rename_i hc;simp only[eQ,hx,fK];rw[ag hc]
  |false=>
   rw[<-ih];split
   ·simp only[eQ,hx]
   ·simp only[eQ,hx]
variable{x:Str}
theorem Lq(hcell:∀y∈scope.names,y.2≠.cell)(h:(relabel scope env).names.lookup x=some .cell\/(relabel scope env).names.lookup x=some .free):(x,NameKind.free)∈scope.names:=by
 have e:=zV (env:=env) x scope.names;have h':(scope.names.lookup x).map (λk=>if (k==NameKind.free&&env.scope.kind==.function&&env.kindOf x==some .cell)=true then NameKind.cell else k)=some .cell\/
   (scope.names.lookup x).map (λk=>if (k==NameKind.free&&env.scope.kind==.function&&env.kindOf x==some .cell)=true then NameKind.cell else k)=some .free:=by
  rw[<-e];exact h
 cases q:scope.names.lookup x with
 |none=>rw[q]at h';rcases h' with z|z<;>cases z
 |some k=>
  rw[q]at h';have hm:=mem_of_lookup q;have hc:=hcell _ hm;cases k with
  |free=>exact hm
  |cell=>exact ao rfl hc
  |_=>rcases h' with z|z<;>cases z
theorem GZ(h:scope.names.lookup x=some .free):(relabel scope env).names.lookup x=some .cell\/(relabel scope env).names.lookup x=some .free:=by
 have e:=zV (env:=env) x scope.names;have e':(relabel scope env).names.lookup x=(scope.names.lookup x).map λk=>if (k==NameKind.free&&env.scope.kind==.function&&env.kindOf x==some .cell)=true then NameKind.cell else k:=e
 rw[e',h,fK];split
 ·exact .inl rfl
 ·exact .inr rfl
def uZ(X:Cx)(N':aH)(scope:cO)(cl:List (Str×Addr))(C:Addr)(fp:List Addr)(s:ae)(H:Hp):Cx:=
 { X with N:=N',s₀:=s,H₀:=H,env:=compEnvC scope cl C X.env,outer:=X.stack,ex:=fp,fn:=λ_=>false,pn:=[],xe:=λ_ _=>False }
def PIf(X:Cx)(ifs:List Expr)(t:TT):Prop:=
 ∀(pins:cp) (s:ae) (σ:St) (H:Hp) (Q:Bool->Hp->Prop),Inv X pins σ H s->t σ H Q->
  ai (model X.prog X.w) X.A (forIn ifs true λc r=>if r=true then do let ok<-isTrue c X.env (eval c X.env);pure (ForInStep.yield ok)else pure (ForInStep.yield r)) (TP X pins σ Q) X.xe s
def tIf0:TT:=λ_ H Q=>Q true H
variable{X:Cx}
theorem SE:PIf X [] tIf0:=λ_ _ _ H _ I h=>wpAny_tests_nil ⟨H,I,h⟩
theorem SF{c:Expr}{t:TT}(h:PT X c t):PIf X [c] t:=λpins s σ H Q I hq=>wpAny_tests_one (h pins s σ H Q I hq)
variable{elt iter:Expr}{ifs:List Expr}{pos:Pos}
section
variable{prog:ay}{w:av}{A:aC}{R:dM->ae->Prop}{s:ae}
theorem I0{target:Expr}{it acc:aa}(J:Nat->ae->Prop)
  (turn:∀n s,J n s->ai (model prog w) A (pyNext it) (λr s₁=>match r with
   |none=>R (.ok .next) s₁
   |some v=>ai (model prog w) A (gu target it v) (λ_ s₁'=>ai (model prog w) A (assign target env v) (λ_ s₂=>
     ai (model prog w) A (forIn ifs true λc r=>if r=true then do let ok<-isTrue c env (eval c env);pure (ForInStep.yield ok)else pure (ForInStep.yield r)) (λok s₃=>
      if ok=true then ai (model prog w) A (eval elt env) (λx s₄=>
       ai (model prog w) A (call (.builtin "list.append") [acc,x]) (λ_ s₅=>∃m,m<n/\J m s₅) (notedBy (model prog w) A env λe s'=>R (.error e) s') s₄) (notedBy (model prog w) A env λe s'=>R (.error e) s') s₃
      else ∃m,m<n/\J m s₃) (notedBy (model prog w) A env λe s'=>R (.error e) s') s₂) (notedBy (model prog w) A env λe s'=>R (.error e) s') s₁')
      (notedBy (model prog w) A env λe s'=>R (.error e) s') s₁) (notedBy (model prog w) A env λe s'=>R (.error e) s') s)
  (n:Nat) (h:J n s):
  cz (model prog w) A (.compLoop (.ListComp elt [⟨target,iter,ifs,0⟩] scope pos) 0 it acc env) R s:=by
 refine codeAny_loop rfl J (λn s hI=>?_) n h;show ai _ A ((compTurn (.ListComp elt [⟨target,iter,ifs,0⟩] scope pos) 0 it acc env).onRaise (λx=>do noteFrame x env;theTreesLotGoes x)) _ _ s;refine wpAny_noted ?_;rw[compTurn_list];refine ah (kR (ah (bX (turn n s hI) (λr s₁ h₁=>?_) λ_ _ h'=>h')));cases r with
 |none=>exact ar h₁
 |some v=>
  refine ah (bX h₁ (λ_ s₁' h₁'=>?_) λ_ _ h'=>h');refine ah (bX h₁' (λ_ s₂ h₂=>ah (bX h₂ (λok s₃ h₃=>?_) λ_ _ h'=>h')) λ_ _ h'=>h');cases ok with
  |false=>exact ar ⟨rfl,h₃⟩
  |true=>exact ah (ah (bX h₃ (λx s₄ h₄=>ah (bX h₄ (λ_ s₅ h₅=>ar (ar ⟨rfl,h₅⟩)) λ_ _ h'=>h')) λ_ _ h'=>h'))
end
def wZ(k:Nat)(cap:List Nat)(σ:St):St:=iu k none++cap.map λj=>(σ[j]?).join
variable{σ:St}{i:Nat}
theorem Hw{k:Nat}{cap:List Nat}{v:V}(h:(wZ k cap σ)[i]?=some (some v)):k<=i:=by
 by_cases hi:k<=i
 ·exact hi
 ·unfold wZ at h;rw[fE (by rw[cK];omega),i5]at h;split at h<;>cases h
variable{N N':aH}
theorem N4{k:Nat}{cap:List Nat}{v:V}(hcap:(N'.drop k).map some=cap.map λj=>N[j]?)(hx:N'[i]?=some x)(h:(wZ k cap σ)[i]?=some (some v)):
  ∃j:Nat,N[j]?=some x/\σ[j]?=some (some v)/\x∈N'.drop k:=by
 have hi:=Hw h;unfold wZ at h;rw[fD (by rw[cK];exact hi),cK,bB]at h;have hd:(N'.drop k)[i - k]?=some x:=by rw[eI,show k+(i - k)=i by omega];exact hx
 have e:=bH (λl=>l[i - k]?) hcap;simp only[bB,hd,fK]at e;cases q:cap[i - k]? with
 |none=>rw[q]at h;cases h
 |some j=>
  rw[q]at h e;simp only[fK,sI]at h e;refine⟨j,e.symm,?_,b8 hd⟩;cases z:σ[j]? with
  |none=>rw[z]at h;cases h
  |some o=>rw[z]at h;have h':o=some v:=h;rw[h']
def D5(wi:TI)(g:TG)(tt:TT)(te:TE)(k:Nat)(cap:List Nat):TE:=λσ H Q=>wi σ H λJ H1=>∀p,H1 p=none->
 ∃W:Nat->Nat->bA->Hp->Prop,(∃m,W 0 m [] (upd H1 p (.lst [])))/\∀i m acc H2,W i m acc H2->
  (J.stop i H2/\Q (.ref p) H2)\/
   (J.go i H2/\∀x H3,J.yld i H2 x H3->g x (wZ k cap σ) H3 λσ4 H4=>σ4.drop k=(wZ k cap σ).drop k/\tt σ4 H4 λb H5=>
    if b=true then te σ4 H5 λy H6=>∃acc',H6 p=some (.lst acc')/\acc'.length<aG/\∃m',m'<m/\W (i+1) m' (acc'++[y]) (upd H6 p (.lst (acc'++[y])))
    else ∃m',m'<m/\W (i+1) m' acc H5)
variable{tg:Expr}{wi:TI}{tt:TT}{te:TE}
theorem Hy{pins:cp}{s:ae}{H:Hp}{use:Option (aa->Sem Unit)}{P:aa->ae->Prop}{Q:V->Hp->Prop}{k:Nat}{cap:List Nat}{g:TG}
  (hc:X.calm=true) (hi:PI X tg iter wi)
  (body:∀(cl:List (Str×Addr)) (C:Addr) (fp:List Addr) (s:ae) (H:Hp),PG (uZ X N' scope cl C fp s H) tg g/\PIf (uZ X N' scope cl C fp s H) ifs tt/\PE (uZ X N' scope cl C fp s H) elt te)
  (hkind:scope.kind=.function) (hcell:(scope.names.all λy=>y.2 != .cell)=true)
  (hloc:(scope.names.all λy=>y.2 != .local||scope.names.lookup y.1==some .local)=true)
  (hfree:(scope.names.all λy=>y.2 != .free||(X.env.kindOf y.1==some .cell||X.env.kindOf y.1==some .free))=true)
  (hlen:N'.length=k+cap.length) (hcap:(N'.drop k).map some=cap.map λj=>X.N[j]?)
  (hcf:((N'.drop k).all λx=>scope.names.lookup x==some .free)=true)
  (hs:∀x,ic iter X.env x=pure x)
  (I:Inv X pins σ H s) (h:D5 wi g tt te k cap σ H Q)
  (fin:∀a C m u s4 H3,s4.heap.Ns C m->Inv X pins σ H3 s4->IJ X pins H3 C->Q (.ref a) H3->compPost (model X.prog X.w) X.A X.xe use P (.ref a) C (.ok u) s4):
  ai (model X.prog X.w) X.A (comprehension (.ListComp elt [⟨tg,iter,ifs,0⟩] scope pos) scope X.env (firstIterPos [⟨tg,iter,ifs,0⟩] pos) (newList []) false (eval iter X.env) use) P X.xe s:=by
 have hcell':∀y∈scope.names,y.2≠.cell:=λy hy e=>by have z:=bp.mp hcell y hy;rw[e]at z;exact ao z (by decide)
 have hloc':∀y∈scope.names,y.2=.local->scope.names.lookup y.1=some .local:=λy hy e=>by have z:=bp.mp hloc y hy;rw[e]at z;simpa using z
 have hfree':∀y∈scope.names,y.2=.free->X.env.kindOf y.1=some .cell\/X.env.kindOf y.1=some .free:=λy hy e=>by have z:=bp.mp hfree y hy;rw[e]at z;simpa using z
 have hcl:∀y∈scope.names,y.2=.free->∃c,X.env.cells.lookup y.1=some c:=λy hy e=>I.ok.has y.1 (hfree' y hy e);refine wpAny_comprehension_free rfl hs (GY hcl) hkind hloc' (thn (hi pins s σ H _ I h) λxv s₁ h₁=>thn h₁ λit s₂ h₂=>?_);obtain⟨ita,fp,tn,J,H2,e,I2,T,st2,f2,R2⟩:=h₂;subst e;obtain⟨W,⟨m0,w0⟩,turn⟩:=R2 s₂.heap.objs.size (I2.hok.fresh (aJ _));refine dt (wpAny_newFunctionEnv hcell' (by intro y hy;simp at hy) (λh₁ hns₁ hsb₁=>?_) hkind);dsimp only at hns₁ hsb₁ ⊢;generalize hp:s₂.heap.push { cls:=.type "list", dict:=none,data:=.seq ([]:List aa).toArray }=hpL at hns₁ hsb₁ ⊢;have hsz:hpL.objs.size=s₂.heap.objs.size+1:=by rw[<-hp,cW]
 have I3:Inv X pins σ (upd H2 s₂.heap.objs.size (.lst [])) { s₂ with heap:=hpL }:=by rw[<-hp];exact I2.laid (t':=s₂.toks) (λb u e=>aN _ e) (aJ _) ⟨cf _,[],0,.nil,bu _ rfl⟩
 have old:∀b o,hpL.get? b=some o->h₁.get? b=some o:=λb o e=>hsb₁.extBut b o (aY (aQ e)) (aN _ e);have older:∀b o,s₂.heap.get? b=some o->hpL.get? b=some o:=λb o e=>by rw[<-hp];exact aN _ e
 have hfpS:∀b∈fp,b<s₂.heap.objs.size:=λb hb=>let ⟨o,e,_⟩:=T.obj _ _ st2 b hb;aQ e;have sub:∀x c,(xT X.env.cells scope.names).lookup x=some c->X.env.cells.lookup x=some c:=J0 scope.names [] hcl (λx c e=>by cases e);have ok':(uZ X N' scope (xT X.env.cells scope.names) hpL.objs.size fp { s₂ with heap:=hpL } (upd H2 s₂.heap.objs.size (.lst []))).Ok:={
  mod:=I3.ok.mod
  kind:=hkind
  glob:=I3.ok.glob
  blt:=I3.ok.blt
  above:=aJ _
  inj:=λx y c h1 h2=>I3.ok.inj x y c (sub x c h1) (sub y c h2)
  has:=λx hx=>Fs scope.names [] x (Lq hcell' hx)
  cab:=λx c hf _=>ao (show false=true from hf) bj
  hd:=I3.ok.hd
  frames:=I3.ok.frames
  stk:=.inl rfl
  exf:=λb hb=>⟨(by
   show b≠hpL.objs.size;rw[hsz];exact aY (dX (hfpS b hb))),λx c e=>(f2 b hb).2.2.2.2.1 x c (sub x c e)⟩
  bs:=I3.bs
  bsz:=bN I3.ok.bsz I3.sz
  noex:=λb o e hb=>by
   rcases(f2 b hb).2.2.2.1 with z|z
   ·exact I3.ok.noex b o e z
   ·exact ao (ck (aQ e) (bN I3.ok.bsz z)) (d7 _)
  exfs:=λb hb z=>(aT.mp (I3.stkSub b z)).elim (f2 b hb).2.1 (f2 b hb).2.2.1
  funs:=I3.stack
  frf:=I3.stkFree }
 have IX:Inv (uZ X N' scope (xT X.env.cells scope.names) hpL.objs.size fp { s₂ with heap:=hpL } (upd H2 s₂.heap.objs.size (.lst []))) [] (wZ k cap σ) (upd H2 s₂.heap.objs.size (.lst []))
   { s₂ with heap:=h₁,toks:=s₂.toks+([]:List (Str×aa)).length }:={
  ok:=ok'
  os:=rfl
  bare:=I3.bare
  base:=Un.kept old
  loc:=⟨_,hns₁,λi x v e1 e2 _=>by
   obtain⟨j,hj,hσ,hm⟩:=N4 hcap e1 e2;have hx:scope.names.lookup x=some .free:=by simpa using bp.mp hcf x hm
   have hk:=hfree' (x,.free) (mem_of_lookup hx) rfl;obtain⟨m,hn,hl⟩:=I3.loc;obtain⟨u,r,lk⟩:=hl j x v hj hσ (hk.elim (λz=>.inr (.inl z)) λz=>.inr (.inr z));refine⟨u,r,.inr ⟨GZ hx,?_⟩⟩;rcases lk with ⟨z,_⟩|⟨_,c,e,o,ho,hd⟩
   ·rcases hk with y|y
    ·rw[y]at z;cases z
    ·rw[y]at z;cases z
   ·obtain⟨c',e'⟩:=Fs (cells:=X.env.cells) scope.names [] x (mem_of_lookup hx);have ec:=sub x c' e';rw[e]at ec;have ec':c=c':=cw ec;subst ec';exact⟨c,e',o,old _ _ ho,hd⟩⟩
  cell:=λx c e=>by obtain⟨v,o,ho,hd⟩:=I3.cell x c (sub x c e);exact⟨v,o,old _ _ ho,hd⟩
  free:=I3.hok.fresh (aJ _)
  freeC:=λx c e=>I3.freeC x c (sub x c e)
  pin:=λp hp=>ao (show p∈([]:cp) from hp) (by simp)
  hok:=I3.hok.kept old
  len:=by
   show (wZ k cap σ).length=N'.length;rw[hlen];unfold wZ;rw[aP,cK,aj] }
 have stat:∀{H':Hp},(∀b∈fp,H' b=none)->∀b∈fp,IJ (uZ X N' scope (xT X.env.cells scope.names) hpL.objs.size fp { s₂ with heap:=hpL } (upd H2 s₂.heap.objs.size (.lst []))) [] H' b:=λhn b hb=>⟨hn b hb,(ok'.exf b hb).1,ok'.exfs b hb,.inl hb,(ok'.exf b hb).2,λp hp=>ao (show p∈([]:cp) from hp) (by simp)⟩
 have st4:tn 0 h₁:=T.keep _ _ _ st2 λb _ o e=>old b o (older b o e);have loop:cz (model X.prog X.w) X.A (.compLoop (.ListComp elt [⟨tg,iter,ifs,0⟩] scope pos) 0 (.ref ita) (.ref s₂.heap.objs.size) (compEnvC scope (xT X.env.cells scope.names) hpL.objs.size X.env))
   (compPost (model X.prog X.w) X.A X.xe use P (.ref s₂.heap.objs.size) hpL.objs.size) { s₂ with heap:=h₁,toks:=s₂.toks+([]:List (Str×aa)).length }:=by
  refine I0 (λn s'=>∃i acc H',Inv (uZ X N' scope (xT X.env.cells scope.names) hpL.objs.size fp { s₂ with heap:=hpL } (upd H2 s₂.heap.objs.size (.lst []))) [] (wZ k cap σ) H' s'/\tn i s'.heap/\(∀b∈fp,H' b=none)/\W i n acc H')
   ?_ m0 ⟨0,[],_,IX,st4,λb hb=>?_,w0⟩
  ·rintro n s3 ⟨i,acc,H3,I4,st3,fr3,w3⟩;rcases turn i n acc H3 w3 with ⟨stop,qn⟩|⟨go,step⟩
   ·refine thn (T.done (uZ X N' scope (xT X.env.cells scope.names) hpL.objs.size fp { s₂ with heap:=hpL } (upd H2 s₂.heap.objs.size (.lst []))) rfl rfl rfl hc i [] s3 _ H3 _ I4 (stat fr3) st3 stop) λr s4 zz=>?_;obtain⟨hr,I5⟩:=zz;subst hr;obtain⟨m,hn,_⟩:=id I5.loc;have U:=I5.base;refine fin _ _ m _ _ _ hn (I3.call' (s':=s4) (ch:=fp) I5.os ⟨λb o e n hb hx=>U.keep b o e n hb hx,λb o e n hb hx=>U.slot b o e n hb hx,U.free,λb o e hx=>U.there b o e hx,U.tups,U.frzs,U.tbls⟩ I5.hok I5.bare
     λb hb=>⟨(f2 b hb).2.2.2.1,(f2 b hb).2.1,(f2 b hb).2.2.2.2.1,(f2 b hb).2.2.2.2.2⟩) (I3.fpOk (aJ _) I5.free) qn
   ·refine thn (T.item (uZ X N' scope (xT X.env.cells scope.names) hpL.objs.size fp { s₂ with heap:=hpL } (upd H2 s₂.heap.objs.size (.lst []))) rfl rfl rfl hc i [] s3 _ H3 _ I4 (stat fr3) st3 go) λr s4 zz=>?_;obtain⟨u,hr,h4⟩:=zz;subst hr;refine thn h4 λ_ s5 zz=>?_;obtain⟨x,H5,I5,r5,y5,st5,fr5⟩:=zz;have I5':=I5.pinned (stat fr5) (T.obj _ _ st5);have again:∀{H8:Hp} {s8:ae} {σ8:St} {acc8:bA} {m':Nat},Inv (uZ X N' scope (xT X.env.cells scope.names) hpL.objs.size fp { s₂ with heap:=hpL } (upd H2 s₂.heap.objs.size (.lst []))) ([]++Fi fp s5.heap) σ8 H8 s8->σ8.drop k=(wZ k cap σ).drop k->m'<n->W (i+1) m' acc8 H8->
      ∃m,m<n/\∃i acc H',Inv (uZ X N' scope (xT X.env.cells scope.names) hpL.objs.size fp { s₂ with heap:=hpL } (upd H2 s₂.heap.objs.size (.lst []))) [] (wZ k cap σ) H' s8/\tn i s8.heap/\(∀b∈fp,H' b=none)/\W i m acc H':=λ{H8 s8 σ8 acc8 m'} I8 hd8 hm8 w8=>by
     refine⟨m',hm8,i+1,acc8,H8,I8.unpinned.weak (IX.len.trans I8.len.symm) (λj v e=>?_),T.keep _ _ _ st5 λb hb o e=>(I8.pin (b,o) (bP _ (bP _ (yj hb e)))).1,λb hb=>?_,w8⟩
     ·have hj:=Hw e;have q:(σ8.drop k)[j - k]?=((wZ k cap σ).drop k)[j - k]?:=by rw[hd8]
      rw[eI,eI,show k+(j - k)=j by omega]at q;rw[q];exact e
     ·obtain⟨o,e,d⟩:=T.obj _ _ st5 b hb;exact(I8.pin (b,o) (bP _ (bP _ (yj hb e)))).2.1
    refine bX ((body _ _ _ _ _).1 _ s5 _ H5 x u _ I5' r5 (step x H5 y5)) (λ_ s6 h6=>?_) λ_ _ f=>f.elim;obtain⟨σ6,H6,I6,hd6,q6⟩:=h6;refine bX ((body _ _ _ _ _).2.1 _ s6 σ6 H6 _ I6 q6) (λb s7 h7=>?_) λ_ _ f=>f.elim;obtain⟨H7,I7,q7⟩:=h7;cases b with
    |false=>rw[ag bj]at q7;rw[ag bj];obtain⟨m',hm',w7⟩:=q7;exact again I7 hd6 hm' w7
    |true=>rw[af rfl]at q7;rw[af rfl];refine bX ((body _ _ _ _ _).2.2 _ s7 σ6 H7 _ I7 q7) (λyv s8 h8=>?_) λ_ _ f=>f.elim;obtain⟨y,H8,I8,r8,acc',hp8,hl8,m',hm',w8⟩:=h8;refine bX (Dy (X:=uZ X N' scope (xT X.env.cells scope.names) hpL.objs.size fp { s₂ with heap:=hpL } (upd H2 s₂.heap.objs.size (.lst []))) _ s8 σ6 H8 (.ref s₂.heap.objs.size) [y] (.ref s₂.heap.objs.size) [yv] (λ_ Hx=>Hx=upd H8 s₂.heap.objs.size (.lst (acc'++[y]))) I8 rfl (.cons r8 .nil) ⟨_,acc',y,rfl,rfl,hp8,hl8,rfl⟩) (λ_ s9 h9=>?_) λ_ _ f=>f.elim;obtain⟨_,H9,I9,_,e9⟩:=h9;subst e9;exact again I9 hd6 hm' w8
  ·have z:b≠s₂.heap.objs.size:=aY (hfpS b hb);rw[tK z];exact(f2 b hb).1
 exact codeAny_compStart_list loop (T.self _ 0 _ _ _ st4 loop)
theorem SG{k:Nat}{cap:List Nat}{g:TG}
  (hc:X.calm=true) (hi:PI X tg iter wi)
  (body:∀(cl:List (Str×Addr)) (C:Addr) (fp:List Addr) (s:ae) (H:Hp),PG (uZ X N' scope cl C fp s H) tg g/\PIf (uZ X N' scope cl C fp s H) ifs tt/\PE (uZ X N' scope cl C fp s H) elt te)
  (hkind:scope.kind=.function:=by rfl) (hcell:(scope.names.all λy=>y.2 != .cell)=true:=by rfl)
  (hloc:(scope.names.all λy=>y.2 != .local||scope.names.lookup y.1==some .local)=true:=by rfl)
  (hfree:(scope.names.all λy=>y.2 != .free||(X.env.kindOf y.1==some .cell||X.env.kindOf y.1==some .free))=true:=by rfl)
  (hlen:N'.length=k+cap.length:=by rfl) (hcap:(N'.drop k).map some=cap.map λj=>X.N[j]?:=by rfl)
  (hcf:((N'.drop k).all λx=>scope.names.lookup x==some .free)=true:=by rfl)
  (hs:∀x,ic iter X.env x=pure x:=by intro _;rfl):
  PE X (.ListComp elt [⟨tg,iter,ifs,0⟩] scope pos) (D5 wi g tt te k cap):=by
 intro pins s σ H Q I h;exact Hy hc hi body hkind hcell hloc hfree hlen hcap hcf hs I h λa C m u s4 H3 hn back fpC qn=>⟨m,hn,λh' hs'=>⟨.ref a,H3,back.turned (t':=s4.toks) (λb o hb e=>(hs'.2 b hb).trans e) fpC.1 fpC.2.1 fpC.2.2.2.1 fpC.2.2.2.2.1 fpC.2.2.2.2.2,rfl,qn⟩⟩
def Its(x:Str):It:=⟨λi _=>i<x.cps.size,λi H v H'=>H'=H/\∃c,x.cps[i]?=some c/\v=.str ⟨#[c]⟩,λi _=>i=x.cps.size⟩
theorem V8{M:Model}{A:aC}{E:aa->ae->Prop}{s:ae}{it:Addr}{c:Str}{t:Tok}{Q:Unit->ae->Prop}(hQ:Q () s):ai M A (gu tg (.ref it) (.str c t)) Q E s:=by unfold gu;cases tg<;>exact ar hQ
theorem J1{P:ay}{w:av}{K:au}(it:Addr)(ty:String)(x:Str)(t:Tok)
  (hW:∀A:aC,A.handled=none->Walks P w A it [it] [it] x.cps.size (SignAt x) (λi h=>h.IsStrIter it ty x t i))
  (hS:∀(A:aC) (i:Nat) (s:ae) (Q:aa->ae->Prop) (E:aa->ae->Prop),s.heap.IsStrIter it ty x t i->Q (.ref it) s->ai (model P w) A (pyIter (.ref it)) Q E s):
  Turn P w K tg (Its x) [it] it (λi h=>h.IsStrIter it ty x t i) where
 mem:=by simp
 obj:=λi h st b hb=>by
  have e:b=it:=by simpa using hb
  subst e;obtain⟨o,e,c,d⟩:=st;exact⟨o,e,λv z=>by rw[d]at z;cases z⟩
 keep:=λi h h' st k=>by obtain⟨o,e,r⟩:=st;exact⟨o,k it (by simp) o e,r⟩
 item:=by intro X hP hw hK hc i pins s σ H E I hf st hg;subst hP hw hK;obtain⟨f0,f1,f2,f3,f4,f5⟩:=hf it (by simp);refine(hW _ (I.ok.hd hc)).item i s _ _ hg st λv h' tk hv st' kk=>?_;obtain⟨c,t',hc',rfl⟩:=hv;have I1:Inv X pins σ H { s with heap:=h',toks:=tk }:=I.turned (λb o hb e=>kk b o (by simpa using hb) e) f0 f1 f3 f4 f5;exact⟨_,rfl,V8 ⟨.str ⟨#[c]⟩,H,I1,⟨t',rfl⟩,⟨rfl,c,hc',rfl⟩,st',λb hb=>(hf b hb).1⟩⟩
 done:=by intro X hP hw hK hc i pins s σ H E I hf st hg;subst hP hw hK;obtain⟨f0,f1,f2,f3,f4,f5⟩:=hf it (by simp);have hg':i=x.cps.size:=hg;subst hg';exact(hW _ (I.ok.hd hc)).done s _ _ st λh' tk kk=>⟨rfl,I.turned (λb o hb e=>kk b o (by simpa using hb) e) f0 f1 f3 f4 f5⟩
 self:=hS
variable{l:Expr}{tl:TE}
section
variable{X:Cx}{tg:Expr}
def ZX(tl:TE):TI:=λσ H R=>tl σ H λv H1=>∃x,v=.str x/\R (Its x) H1
theorem V9(hl:PE X l tl):PI X tg l (ZX tl):=by
 intro pins s σ H R I h;refine thn (hl pins s σ H _ I h) λv s1 zz=>?_;obtain⟨x,H1,I1,r1,q1⟩:=zz;obtain⟨z,e,q⟩:=q1;subst e;obtain⟨t,rfl⟩:=r1;have fp:∀b∈[s1.heap.objs.size],IJ X pins H1 b:=λb hb=>by
  have e:b=s1.heap.objs.size:=by simpa using hb
  subst e;exact I1.fpOk (aJ _) (I1.hok.fresh (aJ _))
 cases ha:z.cps.all (· < 128)
 ·refine wpAny_pyIter_wide ha ⟨s1.heap.objs.size,[s1.heap.objs.size],_,_,H1,rfl,I1.kept (t':=s1.toks) λb o e=>aN _ e,J1 _ "str_iterator" z t (λA hA=>Walks.strWide hA _ z t) (λA i s Q E st hQ=>wpAny_pyIter_striter_wide st hQ),⟨_,bu _ rfl,rfl,rfl⟩,fp,q⟩
 ·refine wpAny_pyIter_ascii ha ⟨s1.heap.objs.size,[s1.heap.objs.size],_,_,H1,rfl,I1.kept (t':=s1.toks) λb o e=>aN _ e,J1 _ "str_ascii_iterator" z t (λA hA=>Walks.strAscii hA _ z t) (λA i s Q E st hQ=>wpAny_pyIter_striter_ascii st hQ),⟨_,bu _ rfl,rfl,rfl⟩,fp,q⟩
end
section
variable{X:Cx}
theorem N5:OpR X (bq .LtE) (λx y H Q=>∃i j,x=.str i/\y=.str j/\Q (.bl (!decide (j.cps.toList<i.cps.toList))) H):=by intro pins s σ H x y v u Q I rx ry h;obtain⟨i,j,rfl,rfl,q⟩:=h;obtain⟨t,rfl⟩:=rx;obtain⟨t',rfl⟩:=ry;exact PySem.P.le_str (uu I q rfl)
theorem Pp(hc:X.calm=true):ve X (.builtin "all") (λxs H Q=>∃(p:Addr) (bs:List Bool),xs=[.ref p]/\SqL X.K H p (bs.map V.bl)/\Q (.bl (bs.all id)) H):=by
 intro pins s σ H xs us Q I r h;obtain⟨p,bs,rfl,hq,q⟩:=h;obtain⟨u,rfl,ru⟩:=vals1 r;cases ru;obtain⟨its,rv,pl,hz⟩:=I.list hq;have hlt:p<s.heap.objs.size:=by obtain⟨o,ho,_⟩:=pl.isList;exact aQ ho
 have hl:bs.length=its.length:=by have:=rv.length;rw[aj]at this;exact this
 refine call_all_walk (gj pl.isList ⟨s.heap.objs.size,_,_,_,_,_,λi=>(bs[i]?).getD true,rfl,iA (show X.A.in1.handled=none from I.ok.hd hc) _ p (aY hlt) its.toArray,⟨⟨_,bu _ rfl,rfl,rfl⟩,?_⟩,?_,λh' tk hk=>?_⟩)
 ·exact pl.isList.at λo e=>aN _ e
 ·intro i v s' Q' E' hv hQ';have hv':its[i]?=some v:=by simpa using hv
  have hi:i<its.length:=(b0.mp hv').1;have hb:(bs.map V.bl)[i]?=some (.bl (bs[i]'(by omega))):=by simp[show i<bs.length by omega]
  obtain⟨u,hu,ru⟩:=rv.get hb;rw[hv']at hu;cases hu;cases ru;refine c8 ?_;have e:(bs[i]?).getD true=bs[i]'(by omega):=by simp[show i<bs.length by omega]
  rw[<-e];exact hQ'
 ·refine⟨.bl (bs.all id),H,?_,?_,q⟩
  ·exact I.kept (t':=tk) λb o e=>hk b o (by simp;exact aY (aQ e)) (aN _ e)
  ·show Value.bool _=Value.bool _;congr 1;rw[bb,<- hl];rw[cM];simp only[bp,bV,id];constructor
   ·intro hh b hb;obtain⟨i,hi,rfl⟩:=j9.mp hb;have:=hh i hi;simpa [hi]using this
   ·intro hh i hi;simp only[aZ hi,oG];exact hh _ (eO hi)
end
inductive Dq where
 |non|bl (b:Bool)|int (i:Int)|str (x:Str)|tup (ds:List Dq)|lst (ds:List Dq)
mutual
def Rep(K:au)(H:Hp):Dq->V->Prop
 |.non,v=>v=.non
 |.bl b,v=>v=.bl b
 |.int i,v=>v=.int i
 |.str x,v=>v=.str x
 |.tup ds,v=>∃a xs,v=.ref a/\SqT K H a xs/\tm K H ds xs
 |.lst ds,v=>∃a xs,v=.ref a/\SqL K H a xs/\tm K H ds xs
def tm(K:au)(H:Hp):List Dq->bA->Prop
 |[],xs=>xs=[]
 |d::ds,xs=>∃v r,xs=v::r/\Rep K H d v/\tm K H ds r
end
mutual
def eqD:Dq->Dq->Bool
 |.non,.non=>true
 |.bl a,.bl b=>a==b
 |.bl a,.int b=>(if a then 1 else 0)==b
 |.int a,.bl b=>a==(if b then 1 else 0)
 |.int a,.int b=>a==b
 |.str a,.str b=>a==b
 |.tup a,.tup b=>zw a b
 |.lst a,.lst b=>zw a b
 |_,_=>false
def zw:List Dq->List Dq->Bool
 |[],[]=>true
 |a::r,b::q=>eqD a b&&zw r q
 |_,_=>false
end
mutual
def dpt:Dq->Nat
 |.tup ds=>uW ds+1
 |.lst ds=>uW ds+1
 |_=>0
def uW:List Dq->Nat
 |[]=>0
 |d::r=>max (dpt d) (uW r)
end
mutual
theorem J2:∀d:Dq,eqD d d=true
 |.non=>by unfold eqD;rfl
 |.bl b=>by unfold eqD;simp
 |.int i=>by unfold eqD;simp
 |.str x=>by unfold eqD;simp
 |.tup ds=>by unfold eqD;exact DA ds
 |.lst ds=>by unfold eqD;exact DA ds
theorem DA:∀ds:List Dq,zw ds ds=true
 |[]=>by unfold zw;rfl
 |d::r=>by unfold zw;rw[J2 d,DA r];rfl
end
theorem tu{K:au}{H:Hp}:∀{ds:List Dq} {xs:bA},tm K H ds xs->ds.length=xs.length
 |[],xs,h=>by unfold tm at h;subst h;rfl
 |d::ds,xs,h=>by unfold tm at h;obtain⟨v,r,rfl,_,h2⟩:=h;rw[aO,aO,tu h2]
def eAt(ds ds':List Dq)(j:Nat):Bool:=match ds[j]?,ds'[j]? with
 |some a,some b=>eqD a b
 |_,_=>true
theorem Ft:∀(ds ds':List Dq),zw ds ds'=true ↔ ds.length=ds'.length/\∀j,j<ds.length->eAt ds ds' j=true
 |[],[]=>by simp[zw]
 |[],b::q=>by simp[zw]
 |a::r,[]=>by simp[zw]
 |a::r,b::q=>by
  have ih:=Ft r q;unfold zw;rw[aS,ih,aO,aO];constructor
  ·rintro⟨h1,h2,h3⟩;refine⟨by omega,λj hj=>?_⟩;cases j with
   |zero=>exact h1
   |succ j=>exact h3 j (by omega)
  ·rintro⟨h1,h2⟩;exact⟨h2 0 (by omega),by omega,λj hj=>h2 (j+1) (by omega)⟩
variable{ds ds':List Dq}
theorem zW{n m:Nat}(hn:ds.length=n)(hm:ds'.length=m):((bf (min n m)).all (eAt ds ds')&&n==m)=zw ds ds':=by
 rw[cM,Ft,aS,bp];subst hn hm;constructor
 ·rintro⟨h1,h2⟩;have e:ds.length=ds'.length:=by simpa using h2
  exact⟨e,λj hj=>h1 j (bV.mpr (by omega))⟩
 ·rintro⟨e,h⟩;exact⟨λj hj=>h j (by have:=bV.mp hj;omega),by simpa using e⟩
theorem AR{n:Nat}(hn:ds.length=n)(hm:ds'.length=n):(bf n).all (eAt ds ds')=zw ds ds':=by rw[<-zW hn hm];simp
theorem Fu(h:ds.length≠ds'.length):zw ds ds'=false:=by
 cases e:zw ds ds' with
 |false=>rfl
 |true=>exact ao ((Ft ds ds').mp e).1 h
section
variable{X:Cx}{pins:cp}{σ:St}{H:Hp}{s:ae}
theorem UY(I:Inv X pins σ H s){a:Addr}{xs ys:bA}(h:SqL X.K H a xs)(h':SqT X.K H a ys):False:=by obtain⟨its,_,p,_⟩:=I.list h;obtain⟨its',_,p',_⟩:=I.tuple h';exact SeqAt.ne_of_list_tuple p.isList (show s.heap.IsTuple a its'.toArray from p') rfl
mutual
theorem Fv(I:Inv X pins σ H s):∀(d d':Dq) (v:V),Rep X.K H d v->Rep X.K H d' v->eqD d d'=true
 |.non,d',v,h,h'=>by unfold Rep at h;subst h;cases d'<;>unfold Rep at h'<;>first|rfl|(exact nomatch h')|(obtain⟨_,_,e,_⟩:=h';exact nomatch e)
 |.bl b,d',v,h,h'=>by unfold Rep at h;subst h;cases d'<;>unfold Rep at h'<;>first|(obtain⟨_,_,e,_⟩:=h';cases e)|(cases h'<;>simp[eqD])
 |.int b,d',v,h,h'=>by unfold Rep at h;subst h;cases d'<;>unfold Rep at h'<;>first|(obtain⟨_,_,e,_⟩:=h';cases e)|(cases h'<;>simp[eqD])
 |.str b,d',v,h,h'=>by unfold Rep at h;subst h;cases d'<;>unfold Rep at h'<;>first|(obtain⟨_,_,e,_⟩:=h';cases e)|(cases h'<;>simp[eqD])
 |.tup ds,d',v,h,h'=>by
  unfold Rep at h;obtain⟨a,xs,rfl,hq,hr⟩:=h;cases d' with
  |tup ds'=>unfold Rep at h';obtain⟨a',xs',e,hq',hr'⟩:=h';cases e;have ex:=I.tuple_inj hq hq';subst ex;unfold eqD;exact DB I ds ds' xs hr hr'
  |lst ds'=>unfold Rep at h';obtain⟨a',xs',e,hq',hr'⟩:=h';cases e;exact(UY I hq' hq).elim
  |_=>unfold Rep at h';exact nomatch h'
 |.lst ds,d',v,h,h'=>by
  unfold Rep at h;obtain⟨a,xs,rfl,hq,hr⟩:=h;cases d' with
  |lst ds'=>unfold Rep at h';obtain⟨a',xs',e,hq',hr'⟩:=h';cases e;have ex:=I.list_inj hq hq';subst ex;unfold eqD;exact DB I ds ds' xs hr hr'
  |tup ds'=>unfold Rep at h';obtain⟨a',xs',e,hq',hr'⟩:=h';cases e;exact(UY I hq hq').elim
  |_=>unfold Rep at h';exact nomatch h'
theorem DB(I:Inv X pins σ H s):∀(ds ds':List Dq) (xs:bA),tm X.K H ds xs->tm X.K H ds' xs->zw ds ds'=true
 |[],ds',xs,h,h'=>by
  unfold tm at h;subst h;cases ds' with
  |nil=>rfl
  |cons d r=>unfold tm at h';obtain⟨_,_,e,_⟩:=h';exact nomatch e
 |d::ds,ds',xs,h,h'=>by
  unfold tm at h;obtain⟨v,r,rfl,h1,h2⟩:=h;cases ds' with
  |nil=>unfold tm at h';exact nomatch h'
  |cons d' r'=>unfold tm at h';obtain⟨v',q,e,h1',h2'⟩:=h';cases e;unfold zw;rw[Fv I d d' v h1 h1',DB I ds r' r h2 h2'];rfl
end
mutual
theorem Pq(I:Inv X pins σ H s):∀(d d':Dq) (x y:V) (u v:aa) (A:aC),Rep X.K H d x->Rep X.K H d' y->RelV x u->RelV y v->A.units+dpt d+dpt d'<cLine->iz A s u v (eqD d d')
 |.tup ds,d',x,y,u,v,A,hx,hy,ru,rv,hu=>by
  unfold Rep at hx;obtain⟨a,xs,rfl,hq,hr⟩:=hx;cases ru;obtain⟨its,rx,p,_⟩:=I.tuple hq;have p:s.heap.IsTuple a its.toArray:=p;cases d' with
  |non=>unfold Rep at hy;subst hy;cases rv;exact rN p (by omega)
  |bl b=>unfold Rep at hy;subst hy;cases rv;exact rO b p (by omega)
  |int b=>unfold Rep at hy;subst hy;obtain⟨t,rfl⟩:=rv;exact rW b t p (by omega)
  |str b=>unfold Rep at hy;subst hy;obtain⟨t,rfl⟩:=rv;exact rX b t p (by omega)
  |lst ds'=>unfold Rep at hy;obtain⟨b,ys,rfl,hq',hr'⟩:=hy;cases rv;obtain⟨its',ry,p',_⟩:=I.list hq';exact rP p p'.isList (by omega)
  |tup ds'=>
   have hy0:=hy;unfold Rep at hy;obtain⟨b,ys,rfl,hq',hr'⟩:=hy;cases rv;obtain⟨its',ry,p',_⟩:=I.tuple hq';have p':s.heap.IsTuple b its'.toArray:=p';by_cases hab:a=b
   ·subst hab;have e:eqD (.tup ds) (.tup ds')=true:=Fv I _ _ (.ref a) (by unfold Rep;exact⟨a,xs,rfl,hq,hr⟩) hy0;rw[e];exact kH _
   ·have hd:dpt (.tup ds)=uW ds+1:=by rw[dpt]
    have hd':dpt (.tup ds')=uW ds'+1:=by rw[dpt]
    have q:=sJ (A:=A) (e:=eAt ds ds') p p' (by omega) λj h1 h2=>by have z:=zX I ds ds' xs ys its its' A.in1 hr hr' rx ry (by show A.units+1+uW ds+uW ds'<cLine;omega) j (by simpa using h1) (by simpa using h2);simpa using z
    rw[zW (by rw[tu hr,rx.length];simp) (by rw[tu hr',ry.length];simp)]at q;exact ku hab (by unfold eqD;exact q)
 |.lst ds,d',x,y,u,v,A,hx,hy,ru,rv,hu=>by
  unfold Rep at hx;obtain⟨a,xs,rfl,hq,hr⟩:=hx;cases ru;obtain⟨its,rx,p,_⟩:=I.list hq;have p:=p.isList;cases d' with
  |non=>unfold Rep at hy;subst hy;cases rv;exact rY p (by omega)
  |bl b=>unfold Rep at hy;subst hy;cases rv;exact rZ b p (by omega)
  |int b=>unfold Rep at hy;subst hy;obtain⟨t,rfl⟩:=rv;exact sq b t p (by omega)
  |str b=>unfold Rep at hy;subst hy;obtain⟨t,rfl⟩:=rv;exact sr b t p (by omega)
  |tup ds'=>unfold Rep at hy;obtain⟨b,ys,rfl,hq',hr'⟩:=hy;cases rv;obtain⟨its',ry,p',_⟩:=I.tuple hq';exact rQ p (show s.heap.IsTuple b its'.toArray from p') (by omega)
  |lst ds'=>
   have hy0:=hy;unfold Rep at hy;obtain⟨b,ys,rfl,hq',hr'⟩:=hy;cases rv;obtain⟨its',ry,p',_⟩:=I.list hq';have p':=p'.isList;by_cases hab:a=b
   ·subst hab;have e:eqD (.lst ds) (.lst ds')=true:=Fv I _ _ (.ref a) (by unfold Rep;exact⟨a,xs,rfl,hq,hr⟩) hy0;rw[e];exact kH _
   ·have hd:dpt (.lst ds)=uW ds+1:=by rw[dpt]
    have hd':dpt (.lst ds')=uW ds'+1:=by rw[dpt]
    by_cases hl:its.length=its'.length
    ·have q:=sN (A:=A) (e:=eAt ds ds') p p' (by simpa using hl) (by omega) λj h1 h2=>by have z:=zX I ds ds' xs ys its its' A.in1 hr hr' rx ry (by show A.units+1+uW ds+uW ds'<cLine;omega) j (by simpa using h1) (by simpa using h2);simpa using z
     rw[AR (by rw[tu hr,rx.length];simp) (by rw[tu hr',ry.length,<- hl];simp)]at q;exact ku hab (by unfold eqD;exact q)
    ·have e:eqD (.lst ds) (.lst ds')=false:=by unfold eqD;exact Fu (by rw[tu hr,tu hr',rx.length,ry.length];exact hl)
     rw[e];exact ku hab (rJ p p' (by simpa using hl) (by omega))
 |.non,d',x,y,u,v,A,hx,hy,ru,rv,hu=>by
  unfold Rep at hx;subst hx;cases d' with
  |tup ds'=>unfold Rep at hy;obtain⟨b,ys,rfl,hq',hr'⟩:=hy;cases rv;cases ru;obtain⟨its',ry,p',_⟩:=I.tuple hq';exact rR (show s.heap.IsTuple b its'.toArray from p') (by omega)
  |lst ds'=>unfold Rep at hy;obtain⟨b,ys,rfl,hq',hr'⟩:=hy;cases rv;cases ru;obtain⟨its',ry,p',_⟩:=I.list hq';exact r6 p'.isList (by omega)
  |_=>unfold Rep at hy;subst hy;exact Fm ru rv rfl rfl
 |.bl c,d',x,y,u,v,A,hx,hy,ru,rv,hu=>by
  unfold Rep at hx;subst hx;cases d' with
  |tup ds'=>unfold Rep at hy;obtain⟨b,ys,rfl,hq',hr'⟩:=hy;cases rv;cases ru;obtain⟨its',ry,p',_⟩:=I.tuple hq';exact rS c (show s.heap.IsTuple b its'.toArray from p') (by omega)
  |lst ds'=>unfold Rep at hy;obtain⟨b,ys,rfl,hq',hr'⟩:=hy;cases rv;cases ru;obtain⟨its',ry,p',_⟩:=I.list hq';exact r9 c p'.isList (by omega)
  |_=>unfold Rep at hy;subst hy;exact Fm ru rv rfl rfl
 |.int c,d',x,y,u,v,A,hx,hy,ru,rv,hu=>by
  unfold Rep at hx;subst hx;cases d' with
  |tup ds'=>unfold Rep at hy;obtain⟨b,ys,rfl,hq',hr'⟩:=hy;cases rv;obtain⟨t,rfl⟩:=ru;obtain⟨its',ry,p',_⟩:=I.tuple hq';exact sd c t (show s.heap.IsTuple b its'.toArray from p') (by omega)
  |lst ds'=>unfold Rep at hy;obtain⟨b,ys,rfl,hq',hr'⟩:=hy;cases rv;obtain⟨t,rfl⟩:=ru;obtain⟨its',ry,p',_⟩:=I.list hq';exact su c t p'.isList (by omega)
  |_=>unfold Rep at hy;subst hy;exact Fm ru rv rfl rfl
 |.str c,d',x,y,u,v,A,hx,hy,ru,rv,hu=>by
  unfold Rep at hx;subst hx;cases d' with
  |tup ds'=>unfold Rep at hy;obtain⟨b,ys,rfl,hq',hr'⟩:=hy;cases rv;obtain⟨t,rfl⟩:=ru;obtain⟨its',ry,p',_⟩:=I.tuple hq';exact se c t (show s.heap.IsTuple b its'.toArray from p') (by omega)
  |lst ds'=>unfold Rep at hy;obtain⟨b,ys,rfl,hq',hr'⟩:=hy;cases rv;obtain⟨t,rfl⟩:=ru;obtain⟨its',ry,p',_⟩:=I.list hq';exact sv c t p'.isList (by omega)
  |_=>unfold Rep at hy;subst hy;exact Fm ru rv rfl rfl
theorem zX(I:Inv X pins σ H s):∀(ds ds':List Dq) (xs ys:bA) (us vs:List aa) (A:aC),tm X.K H ds xs->tm X.K H ds' ys->Vals xs us->Vals ys vs->A.units+uW ds+uW ds'<cLine->
  ∀(j:Nat) (h1:j<us.length) (h2:j<vs.length),iz A s us[j] vs[j] (eAt ds ds' j)
 |[],ds',xs,ys,us,vs,A,hx,hy,ru,rv,hu,j,h1,h2=>by
  have:=tu hx;have:=ru.length;simp only[dw]at *
  omega
 |d::ds,[],xs,ys,us,vs,A,hx,hy,ru,rv,hu,j,h1,h2=>by
  have:=tu hy;have:=rv.length;simp only[dw]at *
  omega
 |d::ds,d'::ds',xs,ys,us,vs,A,hx,hy,ru,rv,hu,j,h1,h2=>by
  unfold tm at hx hy;obtain⟨x,xr,rfl,hx1,hx2⟩:=hx;obtain⟨y,yr,rfl,hy1,hy2⟩:=hy;have e1:uW (d::ds)=max (dpt d) (uW ds):=by rw[uW]
  have e2:uW (d'::ds')=max (dpt d') (uW ds'):=by rw[uW]
  cases ru with
  |cons r1 r2=>
   cases rv with
   |cons q1 q2=>
    cases j with
    |zero=>exact Pq I d d' x y _ _ A hx1 hy1 r1 q1 (by omega)
    |succ j=>exact zX I ds ds' xr yr _ _ A hx2 hy2 r2 q2 (by omega) j (by simpa using h1) (by simpa using h2)
end
def Pr:Dq->Dq->Bool
 |.tup _,.tup _=>true
 |.lst _,.lst _=>true
 |_,_=>false
def Lr(K:au)(neg:Bool):R2:=λx y H Q=>∃d d',Rep K H d x/\Rep K H d' y/\Pr d d'=true/\dpt d<=20/\dpt d'<=20/\Q (.bl (if neg then !eqD d d' else eqD d d')) H
theorem Wa(hu:X.A.units+64<cLine):OpR X (bq .Eq) (Lr X.K false):=by
 intro pins s σ H x y u v Q I ru rv h;obtain⟨d,d',hx,hy,hd,h1,h2,q⟩:=h;cases d with
 |tup ds=>
  cases d' with
  |tup ds'=>
   have hd1:dpt (.tup ds)=uW ds+1:=by rw[dpt]
   have hd2:dpt (.tup ds')=uW ds'+1:=by rw[dpt]
   unfold Rep at hx hy;obtain⟨a,xs,rfl,hq,hr⟩:=hx;obtain⟨b,ys,rfl,hq',hr'⟩:=hy;cases ru;cases rv;obtain⟨its,rx,p,_⟩:=I.tuple hq;obtain⟨its',ry,p',_⟩:=I.tuple hq';refine SeqAt.eq_tupleAt (e:=eAt ds ds') (show s.heap.IsTuple a its.toArray from p) (show s.heap.IsTuple b its'.toArray from p') (by omega) (λj h1 h2=>?_) ?_
   ·have z:=zX I ds ds' xs ys its its' X.A.in1 hr hr' rx ry (by show X.A.units+1+uW ds+uW ds'<cLine;omega) j (by simpa using h1) (by simpa using h2);simpa using z
   ·rw[zW (by rw[tu hr,rx.length];simp) (by rw[tu hr',ry.length];simp)];unfold eqD at q;exact uu I q rfl
  |_=>exact nomatch hd
 |lst ds=>
  cases d' with
  |lst ds'=>
   have hd1:dpt (.lst ds)=uW ds+1:=by rw[dpt]
   have hd2:dpt (.lst ds')=uW ds'+1:=by rw[dpt]
   unfold Rep at hx hy;obtain⟨a,xs,rfl,hq,hr⟩:=hx;obtain⟨b,ys,rfl,hq',hr'⟩:=hy;cases ru;cases rv;obtain⟨its,rx,p,_⟩:=I.list hq;obtain⟨its',ry,p',_⟩:=I.list hq';by_cases hl:its.length=its'.length
   ·refine SeqAt.eq_listAt (e:=eAt ds ds') p.isList p'.isList (by simpa using hl) (by omega) (λj h1 h2=>?_) ?_
    ·have z:=zX I ds ds' xs ys its its' X.A.in1 hr hr' rx ry (by show X.A.units+1+uW ds+uW ds'<cLine;omega) j (by simpa using h1) (by simpa using h2);simpa using z
    ·rw[AR (by rw[tu hr,rx.length];simp) (by rw[tu hr',ry.length,<- hl];simp)];unfold eqD at q;exact uu I q rfl
   ·refine SeqAt.eq_list_lengthsAt p.isList p'.isList (by simpa using hl) (by omega) ?_;have e:zw ds ds'=false:=Fu (by rw[tu hr,tu hr',rx.length,ry.length];exact hl);unfold eqD at q;rw[e]at q;exact uu I q rfl
  |_=>exact nomatch hd
 |_=>exact nomatch hd
theorem Wb(hu:X.A.units+64<cLine):OpR X (bq .NotEq) (Lr X.K true):=by
 intro pins s σ H x y u v Q I ru rv h;obtain⟨d,d',hx,hy,hd,h1,h2,q⟩:=h;cases d with
 |tup ds=>
  cases d' with
  |tup ds'=>
   have hd1:dpt (.tup ds)=uW ds+1:=by rw[dpt]
   have hd2:dpt (.tup ds')=uW ds'+1:=by rw[dpt]
   unfold Rep at hx hy;obtain⟨a,xs,rfl,hq,hr⟩:=hx;obtain⟨b,ys,rfl,hq',hr'⟩:=hy;cases ru;cases rv;obtain⟨its,rx,p,_⟩:=I.tuple hq;obtain⟨its',ry,p',_⟩:=I.tuple hq';have w:=sy (A:=X.A) (e:=eAt ds ds') (show s.heap.IsTuple a its.toArray from p) (show s.heap.IsTuple b its'.toArray from p') (by omega) (λj h1 h2=>by
    have z:=zX I ds ds' xs ys its its' X.A.in1 hr hr' rx ry (by show X.A.units+1+uW ds+uW ds'<cLine;omega) j (by simpa using h1) (by simpa using h2);simpa using z)
   rw[zW (by rw[tu hr,rx.length];simp) (by rw[tu hr',ry.length];simp)]at w;unfold eqD at q;exact w X.prog X.w X.xe _ (uu I q rfl)
  |_=>exact nomatch hd
 |lst ds=>
  cases d' with
  |lst ds'=>
   have hd1:dpt (.lst ds)=uW ds+1:=by rw[dpt]
   have hd2:dpt (.lst ds')=uW ds'+1:=by rw[dpt]
   unfold Rep at hx hy;obtain⟨a,xs,rfl,hq,hr⟩:=hx;obtain⟨b,ys,rfl,hq',hr'⟩:=hy;cases ru;cases rv;obtain⟨its,rx,p,_⟩:=I.list hq;obtain⟨its',ry,p',_⟩:=I.list hq';by_cases hl:its.length=its'.length
   ·have w:=sF (A:=X.A) (e:=eAt ds ds') p.isList p'.isList (by simpa using hl) (by omega) (λj h1 h2=>by
     have z:=zX I ds ds' xs ys its its' X.A.in1 hr hr' rx ry (by show X.A.units+1+uW ds+uW ds'<cLine;omega) j (by simpa using h1) (by simpa using h2);simpa using z)
    rw[AR (by rw[tu hr,rx.length];simp) (by rw[tu hr',ry.length,<- hl];simp)]at w;unfold eqD at q;exact w X.prog X.w X.xe _ (uu I q rfl)
   ·have e:zw ds ds'=false:=Fu (by rw[tu hr,tu hr',rx.length,ry.length];exact hl);unfold eqD at q;rw[e]at q;exact qQ p.isList p'.isList (by simpa using hl) (by omega) X.prog X.w X.xe _ (uu I q rfl)
  |_=>exact nomatch hd
 |_=>exact nomatch hd
end
inductive yQ:List Expr->bA->Prop
 |nil:yQ [] []
 |cons {x:Str} {j:Nat} {pos:Pos} {es:List Expr} {vs:bA} (h:yQ es vs):yQ (.Constant (.str x) j pos::es) (.str x::vs)
theorem xu{n:Nat}(h:n<=1000):n<=aG:=ix (Bo h)
theorem tQ.new{p:Addr}{H H1:Hp}(x:tQ H H1)(hp:H1 p=none)(o:HO):tQ H (upd H1 p o):=λb u e=>by have z:=x b u e;rw[tK (vQ z hp)];exact z
structure N6(K:au)(x qual:Str)(st:Stmt)(f:Addr)(fd:bQ)(T:Addr):Prop where
 ex:∃(oc:aa) (od:Option Addr) (kV doc pm:aa) (an:Option Addr) (cdv ct:aa) (osl:Array (Option aa)),
  fd=eB x qual (wY st) (uw st) (tX st) (.ref T) kV doc pm an cdv ct/\K.lookup f=some ⟨oc,od,.func fd,osl⟩/\gL K cdv qual=true
 kp:dH K (.ref f)=true
variable{qual:Str}{f T:Addr}{fd:bQ}{ps:aH}
section
variable{P:ay}{w:av}{K:au}{mg:Str->Option aa}{base:Heap}
theorem N6.ok{st:Stmt}{k:Nat}{sp:Sp}(F:N6 K x qual st f fd T)(S:vy N ps (tX st))(len:∀vs H Q E,sp vs H Q E->vs.length=ps.length)
  (hbody:∀(cdv:aa) (A:aC) (outer:List Env) (s:ae) (H:Hp) (vs:bA) (Q:VK) (E:XK),vn k (A.deeper (envOfC qual (tX st) s.heap.objs.size f cdv))->sp vs H Q E->
   ∃t,PSs (JQ CX0 P w K mg base N qual (tX st) f cdv A outer s H E).nox (uw st) t/\t { nx:=λ_ H'=>Q .non H',rt:=Q } (L2.start N vs) H):xn P w K mg base CX0 (k+1) f fd ps sp:=by
 obtain⟨oc,od,kV,doc,pm,an,cdv,ct,osl,rfl,lk,hcd⟩:=F.ex;refine US lk hcd S len λA outer s H vs Q E hr hsp=>?_;obtain⟨t,h,q⟩:=hbody cdv A outer s H vs Q E hr hsp;exact⟨t,h.nox,q⟩
end
theorem N6.binds{K:au}{st:Stmt}{ds:List aa}{o:Obj}{items:Array aa}{n:Nat}(F:N6 K x qual st f fd T)(ho:K.lookup T=some o)(hs:o.data=.seq items n)
  (h:∀(kV doc pm:aa) (an:Option Addr) (cdv ct:aa) (us:List aa),us.length=ps.length - ds.length->∃k,bindArgs (eB x qual (wY st) (uw st) (tX st) (.ref T) kV doc pm an cdv ct) ⟨us,[]⟩=seqItems? (.ref T)>>=k/\k (some items)=pure (ps.zip (us++ds))):Binds K fd ps ds:=by
 obtain⟨oc,od,kV,doc,pm,an,cdv,ct,osl,rfl,lk,hcd⟩:=F.ex;intro s us KX hl;obtain⟨k,h1,h2⟩:=h kV doc pm an cdv ct us (by rw[aP]at hl;omega);exact BindsTo.of_defaults (k:=k) rfl (KX _ _ ho) hs h1 h2
section
variable{X:Cx}(K:au)
theorem Pt(hK:X.K=K:=by rfl):IxR X (Su K):=by subst hK;exact MC
theorem J3(hl:PE X l tl)(hK:X.K=K:=by rfl):PI X tg l (O2 K tl):=by subst hK;exact Se hl
theorem SI(hl:PE X l tl)(hK:X.K=K:=by rfl):PI X tg l (VG K tl):=by subst hK;exact VH hl
theorem SJ{es:List Expr}{k:Nat}{t:TGs}{n:Nat}(hc:X.calm=true)(h:PGs X es t)(hn:(cF es X.env).length=n:=by rfl)(hst:(cF es X.env).findIdx? (·.1)=none:=by rfl)(hK:X.K=K:=by rfl):PG X (.Tuple es k pos) (VB K n t):=by subst hK;exact VC hc h hn hst
variable{o e:Expr}{es:List Expr}{to:TE}{t:TA}{name:Str}{apos cpos:Pos}{T id:String}{r:V->bA->Hp->VK->Prop}
theorem Pu(pa:lZ T)(slot:Slot T name id)(hty:typeOf (.builtin id)=pure (.type "method_descriptor"))(hm:MtR X id r)(ho:PE X o to)(ha:PA X (e::es) t)
  (hbase:eV o name X.env (eval o X.env)=eval o X.env:=by rfl)
  (hfew:((bD cpos (aE (e::es) X.env)).all (λx=>!x.1)&&(backToKw cpos (dG [] X.env)).all (λx=>x.1.isSome)
   && decide ((e::es).length+([]:List fm).length+(if ([]:List fm).isEmpty then 0 else 1)<30))=true:=by rfl)
  (hline:(apos.endLine==cpos.line)=true:=by rfl) (hs:aE (e::es) X.env=(false,eval e X.env)::aE es X.env:=by rfl) (hplain:(bD cpos (aE es X.env)).any (·.1)=false:=by rfl) (hK:X.K=K:=by rfl):
  PE X (.Call (.Attribute o name apos) (e::es) [] cpos) (tBM K T r to t):=by subst hK;exact ZM pa slot hty hm ho ha hbase hfew hline hs hplain
end
end L3
namespace L2
open PySem PySem.Spec PyProof.Rows
variable{a:Addr}
section
variable{X:Cx}{pins:cp}{σ:St}{H:Hp}{s:ae}
theorem zx{H:Hp}{c:Addr}{u v:HO}(e:H a=some u)(q:H c=some v)(d:u≠v)(n:HO):upd H a n c=some v:=by rw[tK (λz=>by subst z;rw[e]at q;exact d (cw q))];exact q
theorem Inv.freeze{kvs:List (Key×V)}(I:Inv X pins σ H s)(e:H a=some (.dK kvs)):∃o,Inv X pins σ (upd H a (.frz o (.dK kvs))) s:=by
 obtain⟨z,y,vs,r,ob,es,ep,e1,c⟩:=(show uT X.prog X.w H s.heap a (.dK kvs) from I.hok a _ e);refine⟨ob,?_⟩;have I':=I.step (H':=upd H a (.frz ob (.dK kvs))) (h':=s.heap) (g':=s.gens) (d':=s.drawn) (t':=s.toks) (ch:=[]) (λ_ z=>nomatch z) (λb o _ _ _ q _=>q) (λb o _ _ _ q _=>⟨o.slots,q⟩)
  (λb o _ _ n=>by rw[tK (λz=>by subst z;rw[e]at n;cases n)];exact n) (λb o _ q=>⟨o,q⟩) (λb xs q=>zx e q (λz=>nomatch z) _) (λb o u q=>zx e q (λz=>nomatch z) _)
  (λb ps q=>⟨#[],by rw[zx e q (λz=>nomatch z) _];simp⟩) (λm q=>q) ?_ I.bare
 ·obtain⟨h,g,d,t,os⟩:=s;exact I'
 ·intro b u q;have st:∀{b:Addr} {u:HO},uT X.prog X.w H s.heap b u->uT X.prog X.w (upd H a (.frz ob (.dK kvs))) s.heap b u:=λ{b u} x=>x.stay (λ_ _ _ q=>q) (λc q=>zx e q (λz=>nomatch z) _) λc xs q=>zx e q (λz=>nomatch z) _
  by_cases hb:b=a
  ·subst hb;rw[tG]at q;cases q;exact⟨e1,st (I.hok b _ e)⟩
  ·rw[tK hb]at q;exact st (I.hok b u q)
theorem PE.ghost{e:Expr}{t:TE}(h:PE X e t):PE X e (λσ H Q=>t σ H λx H1=>Q x H1\/∃a kvs,H1 a=some (.dK kvs)/\∀o,Q x (upd H1 a (.frz o (.dK kvs)))):=λpins s σ H Q I hq=>
 thn (h pins s σ H _ I hq) λu s1 ⟨x,H1,I1,r1,q1⟩=>by
  rcases q1 with q|⟨a,kvs,e,q⟩
  ·exact⟨x,H1,I1,r1,q⟩
  ·obtain⟨o,I2⟩:=I1.freeze e;exact⟨x,_,I2,r1,q o⟩
end
end L2
namespace L4
open PySem PySem.Spec PyProof.Rows L2 L3
abbrev St:=L2.St
inductive D where
 |non|bl (b:Bool)|int (i:Int)|str (x:Str)
 |tup (ds:List D)|lst (ds:List D)
 |fzl (ds:List D)
 |obj (c:Nat) (ns:aH) (ds:List D)
 |dic (ks:List Key) (ds:List D)
abbrev aI:=List D
structure Bg where
 K:au
 ca:Nat->Addr
mutual
def Rep(G:Bg)(H:Hp):D->V->Prop
 |.non,v=>v=.non
 |.bl b,v=>v=.bl b
 |.int i,v=>v=.int i
 |.str x,v=>v=.str x
 |.tup ds,v=>∃a xs,v=.ref a/\SqT G.K H a xs/\tm G H ds xs
 |.lst ds,v=>∃a xs,v=.ref a/\H a=some (.lst xs)/\tm G H ds xs
 |.fzl ds,v=>∃a xs,v=.ref a/\SqL G.K H a xs/\tm G H ds xs
 |.obj c ns ds,v=>∃a dx xs,v=.ref a/\H a=some (.ins (G.ca c) dx (ns.zip xs))/\ns.length=xs.length/\tm G H ds xs
 |.dic ks ds,v=>∃a o xs,v=.ref a/\H a=some (.frz o (.dK (ks.zip xs)))/\ks.length=xs.length/\tm G H ds xs
def tm(G:Bg)(H:Hp):aI->bA->Prop
 |[],xs=>xs=[]
 |d::ds,xs=>∃v r,xs=v::r/\Rep G H d v/\tm G H ds r
end
variable{H':Hp}{a:Addr}{xs:bA}
theorem SqT.mono{K:au}{H:Hp}(e:tQ H H')(h:SqT K H a xs):SqT K H' a xs:=by
 rcases h with (h|⟨o,h⟩)|h
 ·exact .inl (.inl (e _ _ h))
 ·exact .inl (.inr ⟨o,e _ _ h⟩)
 ·exact .inr h
mutual
theorem Rep.mono{G:Bg}{H H':Hp}(e:tQ H H'):∀(d:D) (v:V),Rep G H d v->Rep G H' d v
 |.non,v,h=>by unfold Rep at h ⊢;exact h
 |.bl b,v,h=>by unfold Rep at h ⊢;exact h
 |.int i,v,h=>by unfold Rep at h ⊢;exact h
 |.str x,v,h=>by unfold Rep at h ⊢;exact h
 |.tup ds,v,h=>by unfold Rep at h ⊢;obtain⟨a,xs,rfl,h1,h2⟩:=h;exact⟨a,xs,rfl,SqT.mono e h1,tm.mono e ds xs h2⟩
 |.lst ds,v,h=>by unfold Rep at h ⊢;obtain⟨a,xs,rfl,h1,h2⟩:=h;exact⟨a,xs,rfl,e _ _ h1,tm.mono e ds xs h2⟩
 |.fzl ds,v,h=>by unfold Rep at h ⊢;obtain⟨a,xs,rfl,h1,h2⟩:=h;exact⟨a,xs,rfl,e.seq h1,tm.mono e ds xs h2⟩
 |.obj c ns ds,v,h=>by unfold Rep at h ⊢;obtain⟨a,dx,xs,rfl,h1,h2,h3⟩:=h;exact⟨a,dx,xs,rfl,e _ _ h1,h2,tm.mono e ds xs h3⟩
 |.dic ks ds,v,h=>by unfold Rep at h ⊢;obtain⟨a,o,xs,rfl,h1,h2,h3⟩:=h;exact⟨a,o,xs,rfl,e _ _ h1,h2,tm.mono e ds xs h3⟩
theorem tm.mono{G:Bg}{H H':Hp}(e:tQ H H'):∀(ds:aI) (xs:bA),tm G H ds xs->tm G H' ds xs
 |[],xs,h=>by unfold tm at h ⊢;exact h
 |d::ds,xs,h=>by unfold tm at h ⊢;obtain⟨v,r,rfl,h1,h2⟩:=h;exact⟨v,r,rfl,Rep.mono e d v h1,tm.mono e ds r h2⟩
end
variable{d:D}{ds:aI}
section
variable{G:Bg}{H:Hp}
theorem uq:tm G H [] []:=by unfold tm;rfl
theorem ur{v:V}(h:Rep G H d v)(r:tm G H ds xs):tm G H (d::ds) (v::xs):=by unfold tm;exact⟨v,xs,rfl,h,r⟩
theorem tu:∀{ds:aI} {xs:bA},tm G H ds xs->ds.length=xs.length
 |[],xs,h=>by unfold tm at h;subst h;rfl
 |d::ds,xs,h=>by unfold tm at h;obtain⟨v,r,rfl,_,h2⟩:=h;rw[aO,aO,tu h2]
theorem vp:∀{ds es:aI} {xs ys:bA},tm G H ds xs->tm G H es ys->tm G H (ds++es) (xs++ys)
 |[],es,xs,ys,h,h'=>by unfold tm at h;subst h;exact h'
 |d::ds,es,xs,ys,h,h'=>by unfold tm at h;obtain⟨v,r,rfl,h1,h2⟩:=h;exact ur h1 (vp h2 h')
theorem xN:∀{ds:aI} {xs:bA} {i:Nat} {d:D},tm G H ds xs->ds[i]?=some d->∃v,xs[i]?=some v/\Rep G H d v
 |[],xs,i,d,h,e=>by simp at e
 |d'::ds,xs,i,d,h,e=>by
  unfold tm at h;obtain⟨v,r,rfl,h1,h2⟩:=h;cases i with
  |zero=>simp at e;subst e;exact⟨v,rfl,h1⟩
  |succ i=>simpa using xN (i:=i) (d:=d) h2 (by simpa using e)
theorem J4:∀{ds:aI} {xs:bA} (i:Nat) {d:D} {v:V},tm G H ds xs->Rep G H d v->tm G H (ds.set i d) (xs.set i v)
 |[],xs,i,d,v,h,e=>by unfold tm at h;subst h;exact uq
 |d'::ds,xs,i,d,v,h,e=>by
  unfold tm at h;obtain⟨v',r,rfl,h1,h2⟩:=h;cases i with
  |zero=>exact ur e h2
  |succ i=>exact ur h1 (J4 i h2 e)
theorem Hz:∀{ds:aI} {xs:bA} (n:Nat),tm G H ds xs->tm G H (ds.drop n) (xs.drop n)
 |ds,xs,0,h=>h
 |[],xs,n+1,h=>by unfold tm at h;subst h;exact uq
 |d::ds,xs,n+1,h=>by unfold tm at h;obtain⟨v,r,rfl,h1,h2⟩:=h;exact Hz n h2
theorem HA:∀{ds:aI} {xs:bA} (n:Nat),tm G H ds xs->tm G H (ds.take n) (xs.take n)
 |ds,xs,0,h=>uq
 |[],xs,n+1,h=>by unfold tm at h;subst h;exact uq
 |d::ds,xs,n+1,h=>by unfold tm at h;obtain⟨v,r,rfl,h1,h2⟩:=h;exact ur h1 (HA n h2)
theorem Ct(h:SqT G.K H a xs)(r:tm G H ds xs):Rep G H (.tup ds) (.ref a):=by unfold Rep;exact⟨a,xs,rfl,h,r⟩
theorem zY(h:H a=some (.lst xs))(r:tm G H ds xs):Rep G H (.lst ds) (.ref a):=by unfold Rep;exact⟨a,xs,rfl,h,r⟩
theorem vz(i:Int):Rep G H (.int i) (.int i):=by unfold Rep;rfl
theorem vR(i:Bool):Rep G H (.bl i) (.bl i):=by unfold Rep;rfl
theorem zZ(i:Str):Rep G H (.str i) (.str i):=by unfold Rep;rfl
theorem yR:Rep G H .non .non:=by unfold Rep;rfl
end
inductive Sl where
 |un
 |im (d:D)
 |ls (ds:aI)
 |pm (ds:aI)
 |dk (ks:List Key) (ds:aI)
 |ob (c:Nat) (ns:aH) (ds:aI)
abbrev aU:=List Sl
def Sl.own:Sl->Bool
 |.ls _=>true
 |.pm _=>true
 |.dk _ _=>true
 |.ob _ _ _=>true
 |_=>false
structure Fr where
 B0:Hp
 B:Hp
 A:List Addr
def B2(G:Bg)(F:Fr)(H0 H:Hp)(o:Option V):Sl->Prop
 |.un=>True
 |.im d=>∃v,o=some v/\Rep G H0 d v
 |.ls ds=>∃a xs,o=some (.ref a)/\H a=some (.lst xs)/\H0 a=none/\F.B a=none/\tm G H0 ds xs
 |.pm ds=>∃a xs,o=some (.ref a)/\H a=some (.lst xs)/\H0 a=none/\a∈F.A/\tm G H0 ds xs
 |.dk ks ds=>∃a xs,o=some (.ref a)/\H a=some (.dK (ks.zip xs))/\H0 a=none/\F.B a=none/\ks.length=xs.length/\tm G H0 ds xs
 |.ob c ns ds=>∃a dx xs,o=some (.ref a)/\H a=some (.ins (G.ca c) dx (ns.zip xs))/\H0 a=none/\a∈F.A/\ns.length=xs.length/\tm G H0 ds xs
structure tS(G:Bg)(F:Fr)(σ:St)(ρ:aU)(H0 H:Hp):Prop where
 sub:tQ H0 H
 g0:tQ F.B0 H0
 keep:∀b o,F.B b=some o->b∉F.A->H b=some o
 fr:∀b o,H0 b=some o->F.B0 b=some o\/F.B b=none
 am:∀a∈F.A,∃o,H a=some o
 len:σ.length=ρ.length
 sl:∀(i:Nat) (s:Sl),ρ[i]?=some s->B2 G F H0 H (σ[i]?).join s
 ap:∀(i j:Nat) (s t:Sl) (a:Addr),i≠j->ρ[i]?=some s->ρ[j]?=some t->s.own=true->t.own=true->(σ[i]?).join=some (.ref a)->(σ[j]?).join=some (.ref a)->False
variable{G:Bg}{F:Fr}{H0:Hp}
theorem B2.at{H:Hp}{o:Option V}{s:Sl}(h:B2 G F H0 H o s)(e:s.own=true):∃a u,o=some (.ref a)/\H a=some u/\H0 a=none/\(F.B a=none\/a∈F.A):=by
 cases s with
 |un=>cases e
 |im d=>cases e
 |ls ds=>obtain⟨a,xs,h1,h2,h3,h4,_⟩:=h;exact⟨a,_,h1,h2,h3,.inl h4⟩
 |pm ds=>obtain⟨a,xs,h1,h2,h3,h4,_⟩:=h;exact⟨a,_,h1,h2,h3,.inr h4⟩
 |dk ks ds=>obtain⟨a,xs,h1,h2,h3,h4,_⟩:=h;exact⟨a,_,h1,h2,h3,.inl h4⟩
 |ob c ns ds=>obtain⟨a,dx,xs,h1,h2,h3,h4,_⟩:=h;exact⟨a,_,h1,h2,h3,.inr h4⟩
variable{H0':Hp}
theorem B2.grow{H:Hp}{o:Option V}{s:Sl}(h:B2 G F H0 H o s)(h0:tQ H0 H0')(hk:∀a u,o=some (.ref a)->s.own=true->H a=some u->H' a=some u)
  (hn:∀a u,o=some (.ref a)->s.own=true->H a=some u->H0 a=none->H0' a=none):B2 G F H0' H' o s:=by
 cases s with
 |un=>trivial
 |im d=>obtain⟨v,h1,h2⟩:=h;exact⟨v,h1,Rep.mono h0 _ _ h2⟩
 |ls ds=>obtain⟨a,xs,h1,h2,h3,h4,h5⟩:=h;exact⟨a,xs,h1,hk _ _ h1 rfl h2,hn _ _ h1 rfl h2 h3,h4,tm.mono h0 _ _ h5⟩
 |pm ds=>obtain⟨a,xs,h1,h2,h3,h4,h5⟩:=h;exact⟨a,xs,h1,hk _ _ h1 rfl h2,hn _ _ h1 rfl h2 h3,h4,tm.mono h0 _ _ h5⟩
 |dk ks ds=>obtain⟨a,xs,h1,h2,h3,h4,h5,h6⟩:=h;exact⟨a,xs,h1,hk _ _ h1 rfl h2,hn _ _ h1 rfl h2 h3,h4,h5,tm.mono h0 _ _ h6⟩
 |ob c ns ds=>obtain⟨a,dx,xs,h1,h2,h3,h4,h5,h6⟩:=h;exact⟨a,dx,xs,h1,hk _ _ h1 rfl h2,hn _ _ h1 rfl h2 h3,h4,h5,tm.mono h0 _ _ h6⟩
variable{p:Addr}{i j:Nat}
section
variable{G:Bg}{F:Fr}{σ:St}{ρ:aU}{H0 H H0' H':Hp}
theorem tS.bNone(R:tS G F σ ρ H0 H){b:Addr}(h:H b=none):F.B b=none:=by
 cases e:F.B b with
 |none=>rfl
 |some o=>
  by_cases ha:b∈F.A
  ·obtain⟨xs,q⟩:=R.am b ha;rw[q]at h;cases h
  ·have q:=R.keep b o e ha;rw[q]at h;cases h
theorem tS.grow(R:tS G F σ ρ H0 H)(hs:tQ H H')(h0:tQ H0 H0')(sub':tQ H0' H')(hf:∀b o,H0' b=some o->H0 b=some o\/H b=none):tS G F σ ρ H0' H' where
 sub:=sub'
 g0:=R.g0.trans h0
 keep:=λb o e n=>hs _ _ (R.keep b o e n)
 fr:=λb o e=>by
  rcases hf b o e with q|q
  ·exact R.fr b o q
  ·exact .inr (R.bNone q)
 am:=λa ha=>let ⟨xs,q⟩:=R.am a ha;⟨xs,hs _ _ q⟩
 len:=R.len
 sl:=λi s e=>(R.sl i s e).grow h0 (λa u _ _ q=>hs _ _ q) λa u _ _ q q0=>by
  cases z:H0' a with
  |none=>rfl
  |some o=>
   rcases hf a o z with y|y
   ·rw[y]at q0;cases q0
   ·rw[y]at q;cases q
 ap:=R.ap
theorem uc{H:Hp}(hp:H p=none)(o:HO):tQ H (upd H p o):=tQ.new (tQ.refl H) hp o
theorem tS.h0none(R:tS G F σ ρ H0 H)(hp:H p=none):H0 p=none:=by
 cases e:H0 p with
 |none=>rfl
 |some o=>have:=R.sub _ _ e;rw[this]at hp;cases hp
theorem Pw{H0 H:Hp}(s:tQ H0 H)(p:Addr)(o:HO):tQ (upd H0 p o) (upd H p o):=λb u e=>by
 by_cases hb:b=p
 ·subst hb;rw[tG]at e ⊢;exact e
 ·rw[tK hb]at e ⊢;exact s _ _ e
theorem tS.newIm(R:tS G F σ ρ H0 H)(hp:H p=none)(o:HO):tS G F σ ρ (upd H0 p o) (upd H p o):=
 R.grow (uc hp o) (uc (R.h0none hp) o) (Pw R.sub p o) λb u e=>by
  by_cases hb:b=p
  ·subst hb;exact .inr hp
  ·rw[tK hb]at e;exact .inl e
theorem tS.newOwn(R:tS G F σ ρ H0 H)(hp:H p=none)(o:HO):tS G F σ ρ H0 (upd H p o):=
 R.grow (uc hp o) (tQ.refl _) (λb u e=>by rw[tK (vQ (R.sub _ _ e) hp)];exact R.sub _ _ e) λb u e=>.inl e
def Apart(σ:St)(ρ:aU)(p:Addr):Prop:=∀(i:Nat) (s:Sl),ρ[i]?=some s->s.own=true->(σ[i]?).join≠some (.ref p)
theorem tS.apart(R:tS G F σ ρ H0 H)(hp:H p=none):Apart σ ρ p:=λi s e so z=>by obtain⟨a,u,h1,h2,_⟩:=(R.sl i s e).at so;rw[z]at h1;cases h1;rw[hp]at h2;cases h2
theorem tS.freeze(R:tS G F σ ρ H0 H){o:HO}(hp:H p=some o)(h0:H0 p=none)(hb:F.B p=none)(ap:Apart σ ρ p):tS G F σ ρ (upd H0 p o) H where
 sub:=λb u e=>by
  by_cases hb:b=p
  ·subst hb;rw[tG]at e;cases e;exact hp
  ·rw[tK hb]at e;exact R.sub _ _ e
 g0:=R.g0.trans (uc h0 o)
 keep:=R.keep
 fr:=λb u e=>by
  by_cases hb':b=p
  ·subst hb';exact .inr hb
  ·rw[tK hb']at e;exact R.fr _ _ e
 am:=R.am
 len:=R.len
 sl:=λi s e=>(R.sl i s e).grow (uc h0 o) (λa u _ _ q=>q) λa u z so q q0=>by rw[tK (λy=>ap i s e so (by rw[z,y]))];exact q0
 ap:=R.ap
theorem J5{σ:St}{v:Option V}(hi:i<σ.length):((σ.set i v)[j]?).join=if j=i then v else (σ[j]?).join:=by
 rw[bS];by_cases h:i=j
 ·subst h;simp[hi]
 ·rw[ag h,ag (λz=>h z.symm)]
theorem tS.set(R:tS G F σ ρ H0 H){v:V}{s:Sl}(hs:B2 G F H0 H (some v) s)(ap:s.own=true->∀a,v=.ref a->∀(j:Nat) (t:Sl),j≠i->ρ[j]?=some t->t.own=true->(σ[j]?).join≠some (.ref a)):
  tS G F (σ.set i (some v)) (ρ.set i s) H0 H where
 sub:=R.sub
 g0:=R.g0
 keep:=R.keep
 fr:=R.fr
 am:=R.am
 len:=by rw[d5,d5,R.len]
 sl:=λj t e=>by
  rw[bS]at e;by_cases h:i=j
  ·subst h;rw[af rfl]at e;split at e
   ·rename_i hi;cases e;rw[J5 (by rw[R.len];exact hi),af rfl];exact hs
   ·cases e
  ·rw[ag h]at e;have hh:=R.sl j t e;rw[bS,ag h];exact hh
 ap:=λj k t u a hjk ej ek tj tk vj vk=>by
  have gen:∀{m:Nat} {x:Sl},(ρ.set i s)[m]?=some x->m≠i->ρ[m]?=some x/\((σ.set i (some v))[m]?).join=(σ[m]?).join:=λ{m x} e hm=>by rw[bS,ag (λz=>hm z.symm)]at e;exact⟨e,by rw[bS,ag (λz=>hm z.symm)]⟩
  have self:∀{x:Sl},(ρ.set i s)[i]?=some x->x=s/\((σ.set i (some v))[i]?).join=some v:=λ{x} e=>by
   rw[bS,af rfl]at e;split at e
   ·rename_i hi;cases e;exact⟨rfl,by rw[J5 (by rw[R.len];exact hi),af rfl]⟩
   ·cases e
  by_cases hj:j=i
  ·subst hj;obtain⟨rfl,ev⟩:=self ej;rw[ev]at vj;cases vj;obtain⟨e2,e3⟩:=gen ek (λz=>hjk z.symm);rw[e3]at vk;exact ap tj a rfl k u (λz=>hjk z.symm) e2 tk vk
  ·obtain⟨e2,e3⟩:=gen ej hj;by_cases hk:k=i
   ·subst hk;obtain⟨rfl,ev⟩:=self ek;rw[ev]at vk;cases vk;rw[e3]at vj;exact ap tk a rfl j t hj e2 tj vj
   ·obtain⟨e4,e5⟩:=gen ek hk;rw[e3]at vj;rw[e5]at vk;exact R.ap j k t u a hjk e2 e4 tj tk vj vk
theorem tS.setIm(R:tS G F σ ρ H0 H)(i:Nat){v:V}(h:Rep G H0 d v):tS G F (σ.set i (some v)) (ρ.set i (.im d)) H0 H:=R.set ⟨v,rfl,h⟩ λz=>by cases z
theorem tS.setLs(R:tS G F σ ρ H0 H)(i:Nat)(hp:H p=some (.lst xs))(h0:H0 p=none)(hb:F.B p=none)(ap:Apart σ ρ p)(h:tm G H0 ds xs):tS G F (σ.set i (some (.ref p))) (ρ.set i (.ls ds)) H0 H:=
 R.set ⟨p,xs,rfl,hp,h0,hb,h⟩ λ_ a e j t _ ej tj=>by cases e;exact ap j t ej tj
theorem tS.mut(R:tS G F σ ρ H0 H){s s':Sl}{o:HO}(hi:ρ[i]?=some s)(so:s.own=true)(ha:(σ[i]?).join=some (.ref a))(ok:∀H',H' a=some o->B2 G F H0 H' (some (.ref a)) s')
  (so':s'.own=true):tS G F σ (ρ.set i s') H0 (upd H a o):=by
 obtain⟨a',u,e1,e2,e3,e4⟩:=(R.sl i s hi).at so;rw[ha]at e1;cases e1;exact {
  sub:=λb w e=>by rw[tK (λz=>by rw[z,e3]at e;cases e)];exact R.sub _ _ e
  g0:=R.g0
  keep:=λb w e n=>by
   have nb:b≠a:=λz=>by
    subst z;rcases e4 with q|q
    ·rw[q]at e;cases e
    ·exact n q
   rw[tK nb];exact R.keep b w e n
  fr:=R.fr
  am:=λb hb=>by
   by_cases z:b=a
   ·subst z;exact⟨o,tG⟩
   ·rw[tK z];exact R.am b hb
  len:=by rw[d5];exact R.len
  sl:=λj t e=>by
   rw[bS]at e;by_cases h:i=j
   ·subst h;rw[af rfl]at e;split at e
    ·cases e;rw[ha];exact ok _ tG
    ·cases e
   ·rw[ag h]at e;refine(R.sl j t e).grow (tQ.refl _) (λb w z to q=>?_) λb w _ _ _ q=>q;rw[tK (λy=>by subst y;exact R.ap j i t s b (λy=>h y.symm) e hi to so z ha)];exact q
  ap:=λj k t u b hjk ej ek tj tk vj vk=>by
   have gen:∀{m:Nat} {x:Sl},(ρ.set i s')[m]?=some x->∃y,ρ[m]?=some y/\(x.own=true->y.own=true):=λ{m x} e=>by
    rw[bS]at e;by_cases h:i=m
    ·subst h;exact⟨s,hi,λ_=>so⟩
    ·rw[ag h]at e;exact⟨x,e,λq=>q⟩
   obtain⟨y,ey,oy⟩:=gen ej;obtain⟨z,ez,oz⟩:=gen ek;exact R.ap j k y z b hjk ey ez (oy tj) (oz tk) vj vk }
end
abbrev FE:=aU->Option (D×aU)
abbrev FT:=aU->Option (Bool×aU)
abbrev FA:=aU->Option (aI×aU)
def tF(G:Bg)(f:FE):TE:=λσ H Q=>∃F ρ H0 d ρ',tS G F σ ρ H0 H/\f ρ=some (d,ρ')/\∀v H0' H',tQ H0 H0'->tS G F σ ρ' H0' H'->Rep G H0' d v->Q v H'
def tFT(G:Bg)(f:FT):TT:=λσ H Q=>∃F ρ H0 d ρ',tS G F σ ρ H0 H/\f ρ=some (d,ρ')/\∀H0' H',tQ H0 H0'->tS G F σ ρ' H0' H'->Q d H'
def tFA(G:Bg)(f:FA):TA:=λσ H Q=>∃F ρ H0 ds ρ',tS G F σ ρ H0 H/\f ρ=some (ds,ρ')/\∀xs H0' H',tQ H0 H0'->tS G F σ ρ' H0' H'->tm G H0' ds xs->Q xs H'
def tFN(G:Bg)(f:FA):TE:=λσ H Q=>∃F ρ H0 ds ρ',tS G F σ ρ H0 H/\f ρ=some (ds,ρ')/\∀p xs H0' H',tQ H0 H0'->tS G F σ ρ' H0' H'->H' p=some (.lst xs)->H0' p=none->F.B p=none->Apart σ ρ' p->tm G H0' ds xs->Q (.ref p) H'
variable{X:Cx}{e:Expr}
theorem PE.weak{t t':TE}(h:PE X e t)(w:∀σ H Q,t' σ H Q->t σ H Q):PE X e t':=λpins s σ H Q I hq=>h pins s σ H Q I (w _ _ _ hq)
theorem PT.weak{t t':TT}(h:PT X e t)(w:∀σ H Q,t' σ H Q->t σ H Q):PT X e t':=λpins s σ H Q I hq=>h pins s σ H Q I (w _ _ _ hq)
theorem PW.weak{t t':TT}(h:PW X e t)(w:∀σ H Q,t' σ H Q->t σ H Q):PW X e t':=λwh pins s σ H Q I hq=>h wh pins s σ H Q I (w _ _ _ hq)
theorem PA.weak{e:List Expr}{t t':TA}(h:PA X e t)(w:∀σ H Q,t' σ H Q->t σ H Q):PA X e t':=λpos pins s σ H Q I hq=>h pos pins s σ H Q I (w _ _ _ hq)
noncomputable def cC(d:D):FE:=λρ=>some (d,ρ)
noncomputable def cV(i:Nat):FE:=λρ=>match ρ[i]? with
 |some (.im d)=>some (d,ρ)
 |_=>none
noncomputable def c1(g:D->Option D) (f:FE):FE:=λρ=>match f ρ with
 |some (d,ρ')=>match g d with
  |some x=>some (x,ρ')
  |none=>none
 |none=>none
noncomputable def c2(g:D->D->Option D) (f f':FE):FE:=λρ=>match f ρ with
 |some (x,ρ1)=>match f' ρ1 with
  |some (y,ρ2)=>match g x y with
   |some z=>some (z,ρ2)
   |none=>none
  |none=>none
 |none=>none
variable{f:FE}{ρ ρ':aU}{z:D}
theorem EX{g:D->Option D}(h:c1 g f ρ=some (z,ρ')):∃d,f ρ=some (d,ρ')/\g d=some z:=by
 unfold c1 at h;cases e:f ρ with
 |none=>rw[e]at h;cases h
 |some p=>
  obtain⟨d,ρ1⟩:=p;rw[e]at h;cases e2:g d with
  |none=>simp only[e2]at h;cases h
  |some x=>simp only[e2]at h;cases h;exact⟨d,rfl,e2⟩
variable{f':FE}
theorem Cu{g:D->D->Option D}(h:c2 g f f' ρ=some (z,ρ')):∃x y ρ1,f ρ=some (x,ρ1)/\f' ρ1=some (y,ρ')/\g x y=some z:=by
 unfold c2 at h;cases e:f ρ with
 |none=>rw[e]at h;cases h
 |some p=>
  obtain⟨x,ρ1⟩:=p;simp only[e]at h;cases e2:f' ρ1 with
  |none=>simp only[e2]at h;cases h
  |some q=>
   obtain⟨y,ρ2⟩:=q;simp only[e2]at h;cases e3:g x y with
   |none=>simp only[e3]at h;cases h
   |some w=>simp only[e3]at h;cases h;exact⟨x,y,ρ1,rfl,e2,e3⟩
variable{b:Expr}{pos:Pos}{op:fX}
section
variable{X:Cx}{G:Bg}
theorem Wc{i j pos}:PE X (.Constant (.int i) j pos) (tF G (cC (.int i))):=PE.weak La λσ H Q h=>by obtain⟨F,ρ,H0,d,ρ',R,e,k⟩:=h;cases e;exact k _ _ _ (tQ.refl _) R (vz i)
theorem ZY{i j pos}:PE X (.Constant (.bool i) j pos) (tF G (cC (.bl i))):=PE.weak Zf λσ H Q h=>by obtain⟨F,ρ,H0,d,ρ',R,e,k⟩:=h;cases e;exact k _ _ _ (tQ.refl _) R (vR i)
theorem Wd{i j pos}:PE X (.Constant (.str i) j pos) (tF G (cC (.str i))):=PE.weak OW λσ H Q h=>by obtain⟨F,ρ,H0,d,ρ',R,e,k⟩:=h;cases e;exact k _ _ _ (tQ.refl _) R (zZ i)
theorem We{j pos}:PE X (.Constant .none j pos) (tF G (cC .non)):=PE.weak Vs λσ H Q h=>by obtain⟨F,ρ,H0,d,ρ',R,e,k⟩:=h;cases e;exact k _ _ _ (tQ.refl _) R yR
theorem SK(h:cV i ρ=some (d,ρ')):ρ[i]?=some (.im d)/\ρ'=ρ:=by
 unfold cV at h;split at h
 ·rename_i e;cases h;exact⟨e,rfl⟩
 ·cases h
theorem w5{α:Type}{o:Option (Option α)}{v:α}(h:o.join=some v):o=some (some v):=by
 cases o with
 |none=>cases h
 |some u=>cases u with
  |none=>cases h
  |some w=>cases h;rfl
theorem Ls(h:PE X e (zR i)):PE X e (tF G (cV i)):=PE.weak h λσ H Q hh=>by
 sleep 1
 obtain⟨e1,rfl⟩:=SK e;obtain⟨v,e2,e3⟩:=R.sl i _ e1;exact⟨v,w5 e2,k _ _ _ (tQ.refl _) R e3⟩
theorem SL{v:V}(h:PE X e (tC v))(r:∀H,Rep G H d v):PE X e (tF G (cC d)):=PE.weak h λσ H Q hh=>by obtain⟨F,ρ,H0,d',ρ',R,e,k⟩:=hh;cases e;exact k _ _ _ (tQ.refl _) R (r _)
def OpD(G:Bg)(r:R2)(g:D->D->Option D):Prop:=∀x y z H0 H v u (Q:VK),g x y=some z->tQ H0 H->Rep G H0 x v->Rep G H0 y u->(∀w,(∀H0',tQ H0 H0'->Rep G H0' z w)->Q w H)->r v u H Q
theorem MF{r:R2}{g:D->D->Option D}(ho:OpD G r g):∀σ H Q,tF G (c2 g f f') σ H Q->tOp r (tF G f) (tF G f') σ H Q:=λσ H Q hh=>by
 sleep 1
 obtain⟨x,y,ρ1,e1,e2,e3⟩:=Cu e;refine⟨F,ρ,H0,x,ρ1,R,e1,λv H1 H1' s1 R1 r1=>⟨F,ρ1,H1,y,ρ',R1,e2,λu H2 H2' s2 R2 r2=>?_⟩⟩;exact ho x y d H2 H2' v u Q e3 R2.sub (Rep.mono s2 _ _ r1) r2 λw hw=>k w H2 H2' (s1.trans s2) R2 (hw _ (tQ.refl _))
theorem ZZ{a:Expr}{op:jB}{r:R2}{g:D->D->Option D}(hr:OpR X (dh op) r)(ho:OpD G r g)(ha:PE X a (tF G f))(hb:PE X b (tF G f')):PE X (.BinOp a op b pos) (tF G (c2 g f f')):=PE.weak (O4 hr ha hb) (MF ho)
theorem Wf{a:Expr}{r:R2}{g:D->D->Option D}(hr:OpR X (bq op) r)(ho:OpD G r g)(ha:PE X a (tF G f))(hb:PE X b (tF G f'))(hm:fM op b=false):PE X (.Compare a [op] [b] pos) (tF G (c2 g f f')):=PE.weak (Sj hr ha hb hm) (MF ho)
theorem Z0{a:Expr}{r:R2}{g:D->D->Option D}(hr:IxR X r)(ho:OpD G r g)(ha:PE X a (tF G f))(hb:PE X b (tF G f'))(hs:MB b):PE X (.Subscript a b pos) (tF G (c2 g f f')):=PE.weak (UT hr ha hb hs) (MF ho)
def cT(f:FE):FT:=λρ=>match f ρ with
 |some (.bl b,ρ')=>some (b,ρ')
 |_=>none
theorem MG{b:Bool}(h:cT f ρ=some (b,ρ')):f ρ=some (.bl b,ρ'):=by
 unfold cT at h;split at h
 ·rename_i e;cases h;exact e
 ·cases h
theorem MH:∀σ H Q,tFT G (cT f) σ H Q->O7 (tF G f) σ H Q:=λσ H Q hh=>by
 sleep 1
 refine⟨F,ρ,H0,_,ρ',R,MG e,λv H0' H' s R' r=>?_⟩;unfold Rep at r;exact⟨d,r,k _ _ s R'⟩
theorem SM{a:Expr}{r:R2}{g:D->D->Option D}(hr:OpR X (bq op) r)(ho:OpD G r g)(ha:PE X a (tF G f))(hb:PE X b (tF G f'))(hm:fM op b=false):
  PT X (.Compare a [op] [b] pos) (tFT G (cT (c2 g f f'))):=PT.weak (Sk hr ha hb hm) λσ H Q hh=>by
 obtain⟨F,ρ,H0,d,ρ',R,e,k⟩:=MH σ H Q hh;exact MF ho σ H _ ⟨F,ρ,H0,d,ρ',R,e,k⟩
theorem SN(h:PE X e (tF G f))(he:∀whole,isTrue e X.env whole=(do let v<-whole;standAt e.pos;holding [v] (truthy v)):=by intro _;rfl):PT X e (tFT G (cT f)):=PT.weak (Vt h he) λσ H Q hh=>by
 sleep 1
 refine⟨F,ρ,H0,_,ρ',R,MG e,λv H0' H' s R' r=>?_⟩;unfold Rep at r;exact⟨d,r,k _ _ s R'⟩
def uR(f:FT):FT:=λρ=>match f ρ with
 |some (b,ρ')=>some (!b,ρ')
 |none=>none
def vx(f g:FT):FT:=λρ=>match f ρ with
 |some (true,ρ')=>g ρ'
 |r=>r
def wV(f g:FT):FT:=λρ=>match f ρ with
 |some (false,ρ')=>g ρ'
 |r=>r
theorem SO{a:Expr}{f:FT}(h:PT X a (tFT G f)):PT X (.UnaryOp .Not a pos) (tFT G (uR f)):=PT.weak (Vw h) λσ H Q hh=>by
 sleep 1
 unfold uR at e;cases e1:f ρ with
 |none=>simp only[e1]at e;cases e
 |some p=>obtain⟨b,ρ1⟩:=p;simp only[e1]at e;cases e;exact⟨F,ρ,H0,b,_,R,e1,λH0' H' s R'=>k _ _ s R'⟩
theorem Wg{f g:FT}:∀σ H Q,tFT G (vx f g) σ H Q->Zg (tFT G f) (tFT G g) σ H Q:=λσ H Q hh=>by
 sleep 1
 unfold vx at e;cases e1:f ρ with
 |none=>simp only[e1]at e;cases e
 |some p=>
  obtain⟨b,ρ1⟩:=p;cases b with
  |true=>simp only[e1]at e;exact⟨F,ρ,H0,true,ρ1,R,e1,λH0' H' s R'=>IZ ⟨F,ρ1,H0',d,ρ',R',e,λH2 H2' s2 R2=>k _ _ (s.trans s2) R2⟩⟩
  |false=>simp only[e1]at e;cases e;exact⟨F,ρ,H0,false,_,R,e1,λH0' H' s R'=>IY (k _ _ s R')⟩
theorem Z1{f g:FT}:∀σ H Q,tFT G (wV f g) σ H Q->tOr (tFT G f) (tFT G g) σ H Q:=λσ H Q hh=>by
 sleep 1
 unfold wV at e;cases e1:f ρ with
 |none=>simp only[e1]at e;cases e
 |some p=>
  obtain⟨b,ρ1⟩:=p;cases b with
  |false=>simp only[e1]at e;exact⟨F,ρ,H0,false,ρ1,R,e1,λH0' H' s R'=>IY ⟨F,ρ1,H0',d,ρ',R',e,λH2 H2' s2 R2=>k _ _ (s.trans s2) R2⟩⟩
  |true=>simp only[e1]at e;cases e;exact⟨F,ρ,H0,true,_,R,e1,λH0' H' s R'=>IZ (k _ _ s R')⟩
theorem Px{a:Expr}{f:FT}(h:PT X a (tFT G f)):PW X (.BoolOp .And [a] pos) (tFT G f):=Sa h
theorem SQ{a:Expr}{f:FT}(h:PT X a (tFT G f)):PW X (.BoolOp .Or [a] pos) (tFT G f):=Vu h
theorem MI{a:Expr}{rest:List Expr}{f g:FT}(ha:PT X a (tFT G f))(hb:PW X (.BoolOp .And (b::rest) pos) (tFT G g)):PW X (.BoolOp .And (a::b::rest) pos) (tFT G (vx f g)):=PW.weak (Vv ha hb) Wg
theorem Py{a:Expr}{rest:List Expr}{f g:FT}(ha:PT X a (tFT G f))(hb:PW X (.BoolOp .Or (b::rest) pos) (tFT G g)):PW X (.BoolOp .Or (a::b::rest) pos) (tFT G (wV f g)):=PW.weak (Zh ha hb) Z1
def uY(f g:FE):FE:=λρ=>match f ρ with
 |some (.bl true,ρ')=>g ρ'
 |some (.bl false,ρ')=>some (.bl false,ρ')
 |_=>none
def cOr(f g:FE):FE:=λρ=>match f ρ with
 |some (.bl false,ρ')=>g ρ'
 |some (.bl true,ρ')=>some (.bl true,ρ')
 |_=>none
def G0(f:FE):FE:=λρ=>match f ρ with
 |some (.bl b,ρ')=>some (.bl !b,ρ')
 |_=>none
def cIf(c:FT)(f g:FE):FE:=λρ=>match c ρ with
 |some (true,ρ')=>f ρ'
 |some (false,ρ')=>g ρ'
 |none=>none
theorem Wh{a:Expr}{op}(h:PE X a (tF G f)):PE X (.BoolOp op [a] pos) (tF G f):=Vx h
theorem J6:(∃ρ1,f ρ=some (.bl true,ρ1))\/(∃ρ1,f ρ=some (.bl false,ρ1))\/(∀b ρ1,f ρ≠some (.bl b,ρ1)):=by
 by_cases h1:∃ρ1,f ρ=some (.bl true,ρ1)
 ·exact .inl h1
 by_cases h2:∃ρ1,f ρ=some (.bl false,ρ1)
 ·exact .inr (.inl h2)
 refine .inr (.inr λb ρ1 z=>?_);cases b with
 |true=>exact h1 ⟨ρ1,z⟩
 |false=>exact h2 ⟨ρ1,z⟩
theorem N7{g:FE}(h:∀b ρ1,f ρ≠some (.bl b,ρ1)):uY f g ρ=none:=by
 unfold uY;split
 ·rename_i e;exact ao e (h _ _)
 ·rename_i e;exact ao e (h _ _)
 ·rfl
theorem Pz{g:FE}(h:∀b ρ1,f ρ≠some (.bl b,ρ1)):cOr f g ρ=none:=by
 unfold cOr;split
 ·rename_i e;exact ao e (h _ _)
 ·rename_i e;exact ao e (h _ _)
 ·rfl
theorem Wi{a:Expr}{rest:List Expr}{g:FE}(ha:PE X a (tF G f))(hb:PE X (.BoolOp .And (b::rest) pos) (tF G g)):PE X (.BoolOp .And (a::b::rest) pos) (tF G (uY f g)):=PE.weak (Vy ha hb) λσ H Q hh=>by
 sleep 1
 rcases J6 (f:=f) (ρ:=ρ)with ⟨ρ1,e1⟩|⟨ρ1,e1⟩|e1
 ·have e':g ρ1=some (d,ρ'):=by unfold uY at e;simp only[e1]at e;exact e
  refine⟨F,ρ,H0,_,ρ1,R,e1,λv H1 H1' s R' r=>?_⟩;unfold Rep at r;refine⟨true,r,?_⟩;exact IZ ⟨F,ρ1,H1,d,ρ',R',e',λv H2 H2' s2 R2 r2=>k _ _ _ (s.trans s2) R2 r2⟩
 ·have e':some (D.bl false,ρ1)=some (d,ρ'):=by unfold uY at e;simp only[e1]at e;exact e
  cases e';refine⟨F,ρ,H0,_,_,R,e1,λv H1 H1' s R' r=>?_⟩;have r':=r;unfold Rep at r';refine⟨false,r',?_⟩;exact IY (k _ _ _ s R' (vR false))
 ·rw[N7 e1]at e;cases e
theorem Z2{a:Expr}{rest:List Expr}{g:FE}(ha:PE X a (tF G f))(hb:PE X (.BoolOp .Or (b::rest) pos) (tF G g)):PE X (.BoolOp .Or (a::b::rest) pos) (tF G (cOr f g)):=PE.weak (Zk ha hb) λσ H Q hh=>by
 sleep 1
 rcases J6 (f:=f) (ρ:=ρ)with ⟨ρ1,e1⟩|⟨ρ1,e1⟩|e1
 ·have e':some (D.bl true,ρ1)=some (d,ρ'):=by unfold cOr at e;simp only[e1]at e;exact e
  cases e';refine⟨F,ρ,H0,_,_,R,e1,λv H1 H1' s R' r=>?_⟩;unfold Rep at r;refine⟨true,r,?_⟩;exact IZ (k _ _ _ s R' (vR true))
 ·have e':g ρ1=some (d,ρ'):=by unfold cOr at e;simp only[e1]at e;exact e
  refine⟨F,ρ,H0,_,ρ1,R,e1,λv H1 H1' s R' r=>?_⟩;unfold Rep at r;refine⟨false,r,?_⟩;exact IY ⟨F,ρ1,H1,d,ρ',R',e',λv H2 H2' s2 R2 r2=>k _ _ _ (s.trans s2) R2 r2⟩
 ·rw[Pz e1]at e;cases e
theorem Wj{a:Expr}(ha:PE X a (tF G f)):PE X (.UnaryOp .Not a pos) (tF G (G0 f)):=PE.weak (Vz ha) λσ H Q hh=>by
 sleep 1
 unfold G0 at e;split at e
 ·rename_i b ρ1 e1;cases e;refine⟨F,ρ,H0,_,_,R,e1,λv H1 H1' s R' r=>?_⟩;unfold Rep at r;exact⟨b,r,k _ _ _ s R' (vR _)⟩
 ·cases e
theorem Z3{c a:Expr}{h:FT}{g:FE}(hc:PT X c (tFT G h))(ha:PE X a (tF G f))(hb:PE X b (tF G g)):PE X (.IfExp c a b pos) (tF G (cIf h f g)):=PE.weak (OX hc ha hb) λσ H Q hh=>by
 sleep 1
 unfold cIf at e;cases e1:h ρ with
 |none=>simp only[e1]at e;cases e
 |some p=>
  obtain⟨b,ρ1⟩:=p;refine⟨F,ρ,H0,b,ρ1,R,e1,λH1 H1' s R'=>?_⟩;cases b with
  |true=>simp only[e1]at e;exact IZ ⟨F,ρ1,H1,d,ρ',R',e,λv H2 H2' s2 R2 r2=>k _ _ _ (s.trans s2) R2 r2⟩
  |false=>simp only[e1]at e;exact IY ⟨F,ρ1,H1,d,ρ',R',e,λv H2 H2' s2 R2 r2=>k _ _ _ (s.trans s2) R2 r2⟩
noncomputable def ui:FA:=λρ=>some ([],ρ)
noncomputable def aCons(f:FE) (g:FA):FA:=λρ=>match f ρ with
 |some (d,ρ1)=>match g ρ1 with
  |some (ds,ρ2)=>some (d::ds,ρ2)
  |none=>none
 |none=>none
theorem Lu{g:FA}(h:aCons f g ρ=some (ds,ρ')):∃d r ρ1,f ρ=some (d,ρ1)/\g ρ1=some (r,ρ')/\ds=d::r:=by
 unfold aCons at h;cases e:f ρ with
 |none=>rw[e]at h;cases h
 |some p=>
  obtain⟨x,ρ1⟩:=p;simp only[e]at h;cases e2:g ρ1 with
  |none=>simp only[e2]at h;cases h
  |some q=>obtain⟨y,ρ2⟩:=q;simp only[e2]at h;cases h;exact⟨x,y,ρ1,rfl,e2,rfl⟩
theorem xH:PA X [] (tFA G ui):=PA.weak zT λσ H Q hh=>by
 sleep 1
 cases e;exact k _ _ _ (tQ.refl _) R uq
theorem vI{es:List Expr}{g:FA}(ha:PE X e (tF G f))(hr:PA X es (tFA G g))(hs:aE (e::es) X.env=(false,eval e X.env)::aE es X.env:=by rfl):PA X (e::es) (tFA G (aCons f g)):=PA.weak (wW ha hr hs) λσ H Q hh=>by
 sleep 1
 obtain⟨x,r,ρ1,e1,e2,rfl⟩:=Lu e;exact⟨F,ρ,H0,x,ρ1,R,e1,λv H1 H1' s R' rv=>⟨F,ρ1,H1,r,ρ',R',e2,λxs H2 H2' s2 R2 rs=>k _ _ _ (s.trans s2) R2 (ur (Rep.mono s2 _ _ rv) rs)⟩⟩
def tR(g:FA):FE:=λρ=>match g ρ with
 |some (ds,ρ')=>if ds.length<=1000 then some (.tup ds,ρ')else none
 |none=>none
def uj(g:FA):FA:=λρ=>match g ρ with
 |some (ds,ρ')=>if ds.length<=1000 then some (ds,ρ')else none
 |none=>none
theorem Wk{es:List Expr}{x1}{g:FA}(h:PA X es (tFA G g)):PE X (.Tuple es x1 pos) (tF G (tR g)):=PE.weak (VT h) λσ H Q hh=>by
 sleep 1
 unfold tR at e;cases e1:g ρ with
 |none=>simp only[e1]at e;cases e
 |some p=>
  obtain⟨ds,ρ1⟩:=p;simp only[e1]at e;split at e
  ·rename_i hl;cases e;refine⟨F,ρ,H0,_,_,R,e1,λxs H1 H1' s R' rs=>⟨by rw[<-tu rs];exact xu hl,λp hp=>?_⟩⟩;exact k _ _ _ (s.trans (uc (R'.h0none hp) _)) (R'.newIm hp _) (Ct (SqT.of tG) (tm.mono (uc (R'.h0none hp) _) _ _ rs))
  ·cases e
theorem SR{es:List Expr}{g:FA}(h:PA X es (tFA G g)):PE X (.List es pos) (tFN G (uj g)):=PE.weak (Pc h) λσ H Q hh=>by
 sleep 1
 unfold uj at e;cases e1:g ρ with
 |none=>simp only[e1]at e;cases e
 |some p=>
  obtain⟨ds,ρ1⟩:=p;simp only[e1]at e;split at e
  ·rename_i hl;cases e;refine⟨F,ρ,H0,_,_,R,e1,λxs H1 H1' s R' rs=>⟨by rw[<-tu rs];exact xu hl,λp hp=>?_⟩⟩;exact k _ _ _ _ s (R'.newOwn hp _) tG (R'.h0none hp) (R'.bNone hp) (R'.apart hp) rs
  ·cases e
def cL(g:FA):FE:=λρ=>match g ρ with
 |some (ds,ρ')=>some (.lst ds,ρ')
 |none=>none
theorem SU{g:FA}(h:cL g ρ=some (d,ρ')):∃ds,g ρ=some (ds,ρ')/\d=.lst ds:=by
 unfold cL at h;cases e:g ρ with
 |none=>simp only[e]at h;cases h
 |some p=>obtain⟨ds,ρ1⟩:=p;simp only[e]at h;cases h;exact⟨ds,rfl,rfl⟩
theorem Z4{g:FA}:∀σ H Q,tF G (cL g) σ H Q->tFN G g σ H Q:=λσ H Q hh=>by
 sleep 1
 obtain⟨ds,e1,rfl⟩:=SU e;refine⟨F,ρ,H0,ds,ρ',R,e1,λp xs H1 H1' s R' hp h0 hb ap rs=>?_⟩;exact k _ _ _ (s.trans (uc h0 _)) (R'.freeze hp h0 hb ap) (zY tG (tm.mono (uc h0 _) _ _ rs))
theorem Wl{g:FA}(h:PE X e (tFN G g)):PE X e (tF G (cL g)):=PE.weak h Z4
end
inductive Out where
 |nx (ρ:aU)|bk (ρ:aU)|ct (ρ:aU)
 |rt (d:D) (ρ:aU)
 |rn (ds:aI) (ρ:aU)
abbrev FS:=aU->Option Out
def MJ(G:Bg)(F:Fr)(H0:Hp)(E:Ends):Out->Prop
 |.nx ρ'=>∀σ' H0' H',tQ H0 H0'->tS G F σ' ρ' H0' H'->E.nx σ' H'
 |.bk ρ'=>∀σ' H0' H',tQ H0 H0'->tS G F σ' ρ' H0' H'->E.bk σ' H'
 |.ct ρ'=>∀σ' H0' H',tQ H0 H0'->tS G F σ' ρ' H0' H'->E.ct σ' H'
 |.rt d ρ'=>∀v σ' H0' H',tQ H0 H0'->tS G F σ' ρ' H0' H'->Rep G H0' d v->E.rt v H'
 |.rn ds ρ'=>∀p xs σ' H0' H',tQ H0 H0'->tS G F σ' ρ' H0' H'->H' p=some (.lst xs)->H0' p=none->F.B p=none->Apart σ' ρ' p->tm G H0' ds xs->E.rt (.ref p) H'
def tFS(G:Bg)(f:FS):TS:=λE σ H=>∃F ρ H0 o,tS G F σ ρ H0 H/\f ρ=some o/\MJ G F H0 E o/\(∀p,E.rt p=E.rt p)
variable{H1:Hp}
theorem MJ.back{E:Ends}{o:Out}(h:MJ G F H0 E o)(s:tQ H0 H1):MJ G F H1 E o:=by
 cases o with
 |nx ρ=>exact λσ' H0' H' s' R=>h σ' H0' H' (s.trans s') R
 |bk ρ=>exact λσ' H0' H' s' R=>h σ' H0' H' (s.trans s') R
 |ct ρ=>exact λσ' H0' H' s' R=>h σ' H0' H' (s.trans s') R
 |rt d ρ=>exact λv σ' H0' H' s' R=>h v σ' H0' H' (s.trans s') R
 |rn ds ρ=>exact λp xs σ' H0' H' s' R=>h p xs σ' H0' H' (s.trans s') R
theorem PS.weak{e:Stmt}{t t':TS}(h:PS X e t)(w:∀E σ H,t' E σ H->t E σ H):PS X e t':=λpins s σ H D I hq=>h pins s σ H D I (w _ _ _ hq)
theorem PSs.weak{e:List Stmt}{t t':TS}(h:PSs X e t)(w:∀E σ H,t' E σ H->t E σ H):PSs X e t':=λpins s σ H D I hq=>h pins s σ H D I (w _ _ _ hq)
def tL:FS:=λρ=>some (.nx ρ)
noncomputable def sZ(f g:FS):FS:=λρ=>match f ρ with
 |some (.nx ρ')=>g ρ'
 |r=>r
variable{σ:St}{tg:Expr}{gs:aI->aU->Option aU}{N:aH}{vs:bA}{np:Nat}
section
variable{X:Cx}{G:Bg}
theorem Wm{E:Ends}{H:Hp}(h:tFS G tL E σ H):E.nx σ H:=by obtain⟨F,ρ,H0,o,R,e,k,_⟩:=h;cases e;exact k _ _ _ (tQ.refl _) R
theorem SV:PSs X [] (tFS G tL):=PSs.weak Sb λE σ H h=>Wm h
theorem PB{st:Stmt}{rest:List Stmt}{f g:FS}(h1:PS X st (tFS G f))(h2:PSs X rest (tFS G g)):PSs X (st::rest) (tFS G (sZ f g)):=PSs.weak (Fh h1 h2) λE σ H h=>by
 obtain⟨F,ρ,H0,o,R,e,k,k2⟩:=h;unfold sZ at e;cases e1:f ρ with
 |none=>simp only[e1]at e;cases e
 |some o1=>
  cases o1 with
  |nx ρ1=>simp only[e1]at e;exact⟨F,ρ,H0,_,R,e1,λσ' H0' H' s R'=>⟨F,ρ1,H0',o,R',e,k.back s,k2⟩,k2⟩
  |bk ρ1=>simp only[e1]at e;cases e;exact⟨F,ρ,H0,_,R,e1,k,k2⟩
  |ct ρ1=>simp only[e1]at e;cases e;exact⟨F,ρ,H0,_,R,e1,k,k2⟩
  |rt d ρ1=>simp only[e1]at e;cases e;exact⟨F,ρ,H0,_,R,e1,k,k2⟩
  |rn d ρ1=>simp only[e1]at e;cases e;exact⟨F,ρ,H0,_,R,e1,k,k2⟩
theorem SW{st:Stmt}{f:FS}(h1:PS X st (tFS G f)):PSs X [st] (tFS G f):=II h1
noncomputable def tE(f:FE):FS:=λρ=>match f ρ with
 |some (d,ρ')=>some (.rt d ρ')
 |none=>none
noncomputable def uU(f:FA):FS:=λρ=>match f ρ with
 |some (d,ρ')=>some (.rn d ρ')
 |none=>none
theorem ud{α:Type}{f:aU->Option (α×aU)}:f ρ=none\/∃d ρ',f ρ=some (d,ρ'):=by
 cases e:f ρ with
 |none=>exact .inl rfl
 |some p=>exact .inr ⟨p.1,p.2,rfl⟩
theorem SX(h:PE X e (tF G f)):PS X (.Return (some e) pos) (tFS G (tE f)):=PS.weak (Lb h) λE σ H hh=>by
 obtain⟨F,ρ,H0,o,R,e,k,k2⟩:=hh;unfold tE at e;rcases ud (f:=f) (ρ:=ρ)with e1|⟨d,ρ',e1⟩<;>simp only[e1]at e
 ·cases e
 ·cases e;exact⟨F,ρ,H0,d,ρ',R,e1,λv H0' H' s R' r=>k _ _ _ _ s R' r⟩
theorem PD{f:FA}(h:PE X e (tFN G f)):PS X (.Return (some e) pos) (tFS G (uU f)):=PS.weak (Lb h) λE σ H hh=>by
 obtain⟨F,ρ,H0,o,R,e,k,k2⟩:=hh;unfold uU at e;rcases ud (f:=f) (ρ:=ρ)with e1|⟨d,ρ',e1⟩<;>simp only[e1]at e
 ·cases e
 ·cases e;exact⟨F,ρ,H0,d,ρ',R,e1,λp xs H0' H' s R' h1 h2 h3 h4 h5=>k _ _ _ _ _ s R' h1 h2 h3 h4 h5⟩
noncomputable def uf(f:FE):FS:=λρ=>match f ρ with
 |some (_,ρ')=>some (.nx ρ')
 |none=>none
theorem PF(h:PE X e (tF G f))(hs:dg e none pos.line X.env=pure false:=by rfl):PS X (.Expr e pos) (tFS G (uf f)):=PS.weak (Mq h hs) λE σ H hh=>by
 obtain⟨F,ρ,H0,o,R,e,k,k2⟩:=hh;unfold uf at e;rcases ud (f:=f) (ρ:=ρ)with e1|⟨d,ρ',e1⟩<;>simp only[e1]at e
 ·cases e
 ·cases e;exact⟨F,ρ,H0,d,ρ',R,e1,λv H0' H' s R' r=>k _ _ _ s R'⟩
noncomputable def sIf(c:FT) (f g:FS):FS:=λρ=>match c ρ with
 |some (true,ρ')=>f ρ'
 |some (false,ρ')=>g ρ'
 |none=>none
theorem Wn{c:Expr}{a b:List Stmt}{h:FT}{f g:FS}(hc:PT X c (tFT G h))(ha:PSs X a (tFS G f))(hb:PSs X b (tFS G g)):PS X (.If c a b pos) (tFS G (sIf h f g)):=PS.weak (Zn hc ha hb) λE σ H hh=>by
 obtain⟨F,ρ,H0,o,R,e,k,k2⟩:=hh;unfold sIf at e;rcases ud (f:=h) (ρ:=ρ)with e1|⟨d,ρ',e1⟩
 ·simp only[e1]at e;cases e
 ·refine⟨F,ρ,H0,d,ρ',R,e1,λH0' H' s R'=>?_⟩;cases d with
  |true=>simp only[e1]at e;exact IZ ⟨F,ρ',H0',o,R',e,k.back s,k2⟩
  |false=>simp only[e1]at e;exact IY ⟨F,ρ',H0',o,R',e,k.back s,k2⟩
abbrev FG:=D->aU->Option aU
def tFG(G:Bg)(n:Nat)(g:FG):TG:=λv σ H Q=>∃F ρ H0 d ρ',tS G F σ ρ H0 H/\Rep G H0 d v/\g d ρ=some ρ'/\∀σ',σ'.drop n=σ.drop n->tS G F σ' ρ' H0 H->Q σ' H
def PH(G:Bg)(n:Nat)(g:aI->aU->Option aU):TGs:=λvs σ H Q=>∃F ρ H0 ds ρ',tS G F σ ρ H0 H/\tm G H0 ds vs/\g ds ρ=some ρ'/\∀σ',σ'.drop n=σ.drop n->tS G F σ' ρ' H0 H->Q σ' H
theorem PG.weak{t t':TG}(h:PG X e t)(w:∀v σ H Q,t' v σ H Q->t v σ H Q):PG X e t':=λpins s σ H x u Q I r hq=>h pins s σ H x u Q I r (w _ _ _ _ hq)
theorem PGs.weak{e:List Expr}{t t':TGs}(h:PGs X e t)(w:∀v σ H Q,t' v σ H Q->t v σ H Q):PGs X e t':=λpins s σ H x u Q I r hq=>h pins s σ H x u Q I r (w _ _ _ _ hq)
def gN(i:Nat):FG:=λd ρ=>some (ρ.set i (.im d))
theorem J7{α:Type}{l:List α}{n:Nat}{x:α}(h:i<n):(l.set i x).drop n=l.drop n:=by apply kx;intro j;rw[eI,eI,bS,ag (by omega)]
theorem PJ(n:Nat)(h:PG X tg (yO i))(hi:i<n):PG X tg (tFG G n (gN i)):=PG.weak h λv σ H Q hh=>by obtain⟨F,ρ,H0,d,ρ',R,r,e,k⟩:=hh;cases e;exact k _ (J7 hi) (R.setIm i r)
def HB:aI->aU->Option aU:=λds ρ=>match ds with
 |[]=>some ρ
 |_=>none
def wt(g:FG)(gs:aI->aU->Option aU):aI->aU->Option aU:=λds ρ=>match ds with
 |d::r=>match g d ρ with
  |some ρ'=>gs r ρ'
  |none=>none
 |[]=>none
theorem SY{n:Nat}(h:PGs X [] Zp):PGs X [] (PH G n HB):=PGs.weak h λv σ H Q hh=>by
 obtain⟨F,ρ,H0,ds,ρ',R,r,e,k⟩:=hh;cases ds with
 |nil=>cases e;unfold tm at r;exact⟨r,k _ rfl R⟩
 |cons d ds=>cases e
theorem PK{n:Nat}{es:List Expr}{g:FG}(h:PGs X (e::es) (UO (tFG G n g) (PH G n gs))):PGs X (e::es) (PH G n (wt g gs)):=PGs.weak h λv σ H Q hh=>by
 obtain⟨F,ρ,H0,ds,ρ',R,r,e,k⟩:=hh;cases ds with
 |nil=>cases e
 |cons d ds=>
  unfold tm at r;obtain⟨v1,r1,rfl,q1,q2⟩:=r;unfold wt at e;cases e1:g d ρ with
  |none=>simp only[e1]at e;cases e
  |some ρ1=>simp only[e1]at e;exact⟨v1,r1,rfl,F,ρ,H0,d,ρ1,R,q1,e1,λσ' s R'=>⟨F,ρ1,H0,ds,ρ',R',q2,e,λσ'' s' R''=>k _ (s'.trans s) R''⟩⟩
def gT(gs:aI->aU->Option aU)(n:Nat):FG:=λd ρ=>match d with
 |.tup ds=>if ds.length=n then gs ds ρ else none
 |_=>none
theorem SZ{n m:Nat}{es:List Expr}{k:Nat}(h:PG X (.Tuple es k pos) (VB G.K m (PH G n gs))):PG X (.Tuple es k pos) (tFG G n (gT gs m)):=PG.weak h λv σ H Q hh=>by
 obtain⟨F,ρ,H0,d,ρ',R,r,e,k⟩:=hh;cases d with
 |tup ds=>
  unfold gT at e;simp only at e;split at e
  ·rename_i hl;unfold Rep at r;obtain⟨a,xs,rfl,h1,h2⟩:=r;exact⟨a,xs,rfl,SqT.mono R.sub h1,by rw[<-tu h2];exact hl,F,ρ,H0,ds,ρ',R,h2,e,k⟩
  ·cases e
 |_=>cases e
def Cv(f:FE)(g:FG):FS:=λρ=>match f ρ with
 |some (d,ρ')=>match g d ρ' with
  |some ρ2=>some (.nx ρ2)
  |none=>none
 |none=>none
theorem S4{st:Stmt}{g:FG}{n:Nat}(h:PS X st (BY (tF G f) (tFG G n g))):PS X st (tFS G (Cv f g)):=PS.weak h λE σ H hh=>by
 obtain⟨F,ρ,H0,o,R,e,k,k2⟩:=hh;unfold Cv at e;rcases ud (f:=f) (ρ:=ρ)with e1|⟨d,ρ',e1⟩<;>simp only[e1]at e
 ·cases e
 ·cases e2:g d ρ' with
  |none=>simp only[e2]at e;cases e
  |some ρ2=>simp only[e2]at e;cases e;exact⟨F,ρ,H0,d,ρ',R,e1,λv H0' H' s R' r=>⟨F,ρ',H0',d,ρ2,R',r,e2,λσ' _ R2=>k _ _ _ s R2⟩⟩
def tZ(i:Nat)(f:FE):FS:=λρ=>match f ρ with
 |some (d,ρ')=>some (.nx (ρ'.set i (.im d)))
 |none=>none
theorem MK{st:Stmt}(h:PS X st (BY (tF G f) (yO i))):PS X st (tFS G (tZ i f)):=PS.weak h λE σ H hh=>by
 obtain⟨F,ρ,H0,o,R,e,k,k2⟩:=hh;unfold tZ at e;rcases ud (f:=f) (ρ:=ρ)with e1|⟨d,ρ',e1⟩<;>simp only[e1]at e
 ·cases e
 ·cases e;exact⟨F,ρ,H0,d,ρ',R,e1,λv H0' H' s R' r=>k _ _ _ s (R'.setIm i r)⟩
def xp(i:Nat)(f:FA):FS:=λρ=>match f ρ with
 |some (d,ρ')=>some (.nx (ρ'.set i (.ls d)))
 |none=>none
theorem J8{st:Stmt}{f:FA}(h:PS X st (BY (tFN G f) (yO i))):PS X st (tFS G (xp i f)):=PS.weak h λE σ H hh=>by
 obtain⟨F,ρ,H0,o,R,e,k,k2⟩:=hh;unfold xp at e;rcases ud (f:=f) (ρ:=ρ)with e1|⟨d,ρ',e1⟩<;>simp only[e1]at e
 ·cases e
 ·cases e;exact⟨F,ρ,H0,d,ρ',R,e1,λp xs H0' H' s R' h1 h2 h3 h4 h5=>k _ _ _ s (R'.setLs i h1 h2 h3 h4 h5)⟩
def stE(n:Nat)(ds:aI):aU:=ds.map Sl.im++iu (n - ds.length) .un
def fnD(np n:Nat)(f:FS):aI->Option D:=λds=>if ds.length=np then match f (stE n ds)with
 |some (.rt d _)=>some d
 |some (.rn ds _)=>some (.lst ds)
 |some (.nx _)=>some .non
 |_=>none
 else none
def fnN(np n:Nat)(f:FS):aI->Option aI:=λds=>if ds.length=np then match f (stE n ds)with
 |some (.rn ds _)=>some ds
 |_=>none
 else none
def spF(G:Bg)(g:aI->Option D):Sp:=λvs H Q _=>∃H0 ds d,tQ H0 H/\tm G H0 ds vs/\g ds=some d/\
 ∀v H0' H',tQ H0 H0'->tQ H0' H'->tQ H H'->(∀b o,H0' b=some o->H0 b=some o\/H b=none)->Rep G H0' d v->Q v H'
def spN(G:Bg)(g:aI->Option aI):Sp:=λvs H Q _=>∃H0 ds d,tQ H0 H/\tm G H0 ds vs/\g ds=some d/\
 ∀p xs H0' H',tQ H0 H0'->tQ H0' H'->tQ H H'->(∀b o,H0' b=some o->H0 b=some o\/H b=none)->H p=none->H' p=some (.lst xs)->H0' p=none->tm G H0' d xs->Q (.ref p) H'
theorem EY{n:Nat}{s:Sl}(h:(stE n ds)[i]?=some s):s=.un\/∃d,ds[i]?=some d/\s=.im d:=by
 unfold stE at h;by_cases hi:i<ds.length
 ·rw[fE (by simpa using hi),bB,aZ hi]at h;cases h;exact .inr ⟨_,aZ hi,rfl⟩
 ·rw[fD (by simpa using hi),i5]at h;split at h
  ·cases h;exact .inl rfl
  ·cases h
theorem zy{v:V}(h:vs[i]?=some v):((L2.start N vs)[i]?).join=some v:=by unfold L2.start;have hi:=(b0.mp h).1;rw[fE (by simpa using hi),bB,h];rfl
theorem HC{H:Hp}(s:tQ H0 H)(r:tm G H0 ds vs)(hl:vs.length<=N.length):tS G ⟨H0,H,[]⟩ (L2.start N vs) (stE N.length ds) H0 H where
 sub:=s
 g0:=tQ.refl _
 keep:=λb o e _=>e
 fr:=λb o e=>.inl e
 am:=λa h=>by cases h
 len:=by unfold L2.start stE;rw[aP,aP,aj,aj,cK,cK,tu r]
 sl:=λi t e=>by
  rcases EY e with rfl|⟨d,e1,rfl⟩
  ·trivial
  ·obtain⟨v,e2,e3⟩:=xN r e1;exact⟨v,zy e2,e3⟩
 ap:=λi j t u a _ e _ ht=>by rcases EY e with rfl|⟨d,_,rfl⟩<;>cases ht
theorem J9{n:Nat}{f:FS}(h:fnD np n f ds=some d):ds.length=np/\((∃ρ,f (stE n ds)=some (.rt d ρ))\/(∃xs ρ,f (stE n ds)=some (.rn xs ρ)/\d=.lst xs)\/∃ρ,f (stE n ds)=some (.nx ρ)/\d=.non):=by
 unfold fnD at h;split at h
 ·rename_i hl;refine⟨hl,?_⟩;split at h
  ·rename_i e;cases h;exact .inl ⟨_,e⟩
  ·rename_i e;cases h;exact .inr (.inl ⟨_,_,e,rfl⟩)
  ·rename_i e;cases h;exact .inr (.inr ⟨_,e,rfl⟩)
  ·cases h
 ·cases h
theorem Ka{n:Nat}{f:FS}{xs:aI}(h:fnN np n f ds=some xs):ds.length=np/\∃ρ,f (stE n ds)=some (.rn xs ρ):=by
 unfold fnN at h;split at h
 ·rename_i hl;refine⟨hl,?_⟩;split at h
  ·rename_i e;cases h;exact⟨_,e⟩
  ·cases h
 ·cases h
end
variable{E:XK}
theorem S5{f:FS}{H:Hp}{Q:VK}(hN:np<=N.length)(h:spF G (fnD np N.length f) vs H Q E):tFS G f { nx:=λ_ H'=>Q .non H',rt:=Q } (L2.start N vs) H:=by
 obtain⟨H0,ds,d,s,r,e,k⟩:=h;obtain⟨hl,e'⟩:=J9 e;clear e;have R:=HC (N:=N) s r (by rw[<-tu r,hl];exact hN);have fin:∀{σ':St} {ρ':aU} {H0' H':Hp},tS G ⟨H0,H,[]⟩ σ' ρ' H0' H'->tQ H H'/\tQ H0' H'/\∀b o,H0' b=some o->H0 b=some o\/H b=none:=λR'=>⟨λb o e=>R'.keep b o e (by simp),R'.sub,R'.fr⟩;rcases e' with ⟨ρ,e⟩|⟨xs,ρ,e,rfl⟩|⟨ρ,e,rfl⟩
 ·refine⟨_,_,H0,_,R,e,λv σ' H0' H' s' R' rv=>?_,λ_=>rfl⟩;obtain⟨h1,h2,h3⟩:=fin R';exact k v H0' H' s' h2 h1 h3 rv
 ·refine⟨_,_,H0,_,R,e,λp ys σ' H0' H' s' R' hp h0 hb ap rs=>?_,λ_=>rfl⟩;have R2:=R'.freeze hp h0 hb ap;obtain⟨h1,h2,h3⟩:=fin R2;exact k _ _ H' (s'.trans (uc h0 _)) h2 h1 h3 (zY tG (tm.mono (uc h0 _) _ _ rs))
 ·refine⟨_,_,H0,_,R,e,λσ' H0' H' s' R'=>?_,λ_=>rfl⟩;obtain⟨h1,h2,h3⟩:=fin R';exact k _ H0' H' s' h2 h1 h3 yR
theorem S6{f:FS}{H:Hp}{Q:VK}(hN:np<=N.length)(h:spN G (fnN np N.length f) vs H Q E):tFS G f { nx:=λ_ H'=>Q .non H',rt:=Q } (L2.start N vs) H:=by obtain⟨H0,ds,d,s,r,e,k⟩:=h;obtain⟨hl,ρ,e⟩:=Ka e;have R:=HC (N:=N) s r (by rw[<-tu r,hl];exact hN);refine⟨_,_,H0,_,R,e,λp ys σ' H0' H' s' R' hp h0 hb ap rs=>?_,λ_=>rfl⟩;exact k p ys H0' H' s' R'.sub (λb o e=>R'.keep b o e (by simp)) R'.fr hb hp h0 rs
theorem Z5{g:aI->Option D}(hg:∀ds d,g ds=some d->ds.length=np):∀vs H Q E,spF G g vs H Q E->vs.length=np:=λvs H Q E h=>by obtain⟨H0,ds,d,_,r,e,_⟩:=h;rw[<-tu r];exact hg _ _ e
theorem Z6{g:aI->Option aI}(hg:∀ds d,g ds=some d->ds.length=np):∀vs H Q E,spN G g vs H Q E->vs.length=np:=λvs H Q E h=>by obtain⟨H0,ds,d,_,r,e,_⟩:=h;rw[<-tu r];exact hg _ _ e
theorem S7{n:Nat}{f:FS}:∀ds d,fnD np n f ds=some d->ds.length=np:=λ_ _ h=>(J9 h).1
theorem S8{n:Nat}{f:FS}:∀ds d,fnN np n f ds=some d->ds.length=np:=λ_ _ h=>(Ka h).1
def DC{α:Type}(g:aI->Option α)(a:FA):aU->Option (α×aU):=λρ=>match a ρ with
 |some (ds,ρ')=>match g ds with
  |some d=>some (d,ρ')
  |none=>none
 |none=>none
abbrev sX(g:aI->Option D)(a:FA):FE:=DC g a
abbrev uy(g:aI->Option aI)(a:FA):FA:=DC g a
theorem B3{α:Type}{g:aI->Option α}{a:FA}{d:α}(h:DC g a ρ=some (d,ρ')):∃ds,a ρ=some (ds,ρ')/\g ds=some d:=by
 unfold DC at h;rcases ud (f:=a) (ρ:=ρ)with e1|⟨ds,ρ1,e1⟩<;>simp only[e1]at h
 ·cases h
 ·cases e2:g ds with
  |none=>simp only[e2]at h;cases h
  |some x=>simp only[e2]at h;cases h;exact⟨ds,e1,e2⟩
variable{dvs:bA}{dds:aI}
section
variable{X:Cx}{G:Bg}
theorem S9{g:aI->Option D}{a:FA}(hd:∀H,tm G H dds dvs):∀σ H Q,tF G (sX (λds=>g (ds++dds)) a) σ H Q->D2 (spF G g) dvs E (tFA G a) σ H Q:=λσ H Q hh=>by
 sleep 1
 obtain⟨ds,e1,e2⟩:=B3 e;refine⟨F,ρ,H0,ds,ρ',R,e1,λxs H1 H1' s R' rs=>⟨H1,ds++dds,d,R'.sub,vp rs (hd _),e2,λv H2 H2' s1 s2 s3 fr rv=>?_⟩⟩;exact k v H2 H2' (s.trans s1) (R'.grow s3 s1 s2 fr) rv
theorem Ta{g:aI->Option aI}{a:FA}(hd:∀H,tm G H dds dvs):∀σ H Q,tFN G (uy (λds=>g (ds++dds)) a) σ H Q->D2 (spN G g) dvs E (tFA G a) σ H Q:=λσ H Q hh=>by
 sleep 1
 obtain⟨ds,e1,e2⟩:=B3 e;refine⟨F,ρ,H0,ds,ρ',R,e1,λxs H1 H1' s R' rs=>⟨H1,ds++dds,d,R'.sub,vp rs (hd _),e2,λp ys H2 H2' s1 s2 s3 fr hn hp h0 rv=>?_⟩⟩;exact k p ys H2 H2' (s.trans s1) (R'.grow s3 s1 s2 fr) hp h0 (R'.bNone hn) (R'.apart hn) rv
end
variable{ff:FE}{m:Str}{ta:TE}{apos:Pos}{c:Nat}
section
variable{X:Cx}{G:Bg}
theorem Tc{g:aI->Option D}{a:FA}(hd:∀H,tm G H dds dvs)(h:PE X e (D2 (spF G g) dvs E (tFA G a))):PE X e (tF G (sX (λds=>g (ds++dds)) a)):=PE.weak h (S9 hd)
theorem PL{g:aI->Option aI}{a:FA}(hd:∀H,tm G H dds dvs)(h:PE X e (D2 (spN G g) dvs E (tFA G a))):PE X e (tFN G (uy (λds=>g (ds++dds)) a)):=PE.weak h (Ta hd)
theorem N8{g:aI->Option aI}(h:PE X e (D2 (spN G g) [] E JP)):PE X e (tFN G (uy g ui)):=PE.weak h λσ H Q hh=>by
 sleep 1
 obtain⟨ds,e1,e2⟩:=B3 e;cases e1;exact⟨H0,[],d,R.sub,uq,e2,λp ys H2 H2' s1 s2 s3 fr hn hp h0 rv=>k p ys H2 H2' s1 (R.grow s3 s1 s2 fr) hp h0 (R.bNone hn) (R.apart hn) rv⟩
def N9:aH->aI->Str->Option D
 |n::ns,d::ds,f=>if n=f then some d else N9 ns ds f
 |_,_,_=>none
theorem HD{H:Hp}:∀{ns:aH} {ds:aI} {xs:bA} {f:Str} {d:D},tm G H ds xs->N9 ns ds f=some d->∃v,(ns.zip xs).lookup f=some v/\Rep G H d v
 |[],ds,xs,f,d,r,e=>by simp[N9]at e
 |n::ns,[],xs,f,d,r,e=>by simp[N9]at e
 |n::ns,d'::ds,xs,f,d,r,e=>by
  unfold tm at r;obtain⟨v,q,rfl,h1,h2⟩:=r;unfold N9 at e;by_cases hn:n=f
  ·rw[af hn]at e;cases e;subst hn;exact⟨v,by simp[dc],h1⟩
  ·rw[ag hn]at e;obtain⟨w,e1,e2⟩:=HD h2 e;refine⟨w,?_,e2⟩;have hb:(f==n)=false:=beq_eq_false_iff_ne.mpr λz=>hn z.symm;simp only[eJ,dc,hb];exact e1
def tH(ok:Nat->Bool)(f:Str):D->Option D
 |.obj c ns ds=>if ok c=true then N9 ns ds f else none
 |_=>none
theorem PM{f:Str}{ok:Nat->Bool}(he:PE X e (tF G ff))(hc:∀c,ok c=true->Cls X.K (G.ca c)/\yk X.K (G.ca c) f)(hb:eV e f X.env (eval e X.env)=eval e X.env:=by rfl):PE X (.Attribute e f pos) (tF G (c1 (tH ok f) ff)):=PE.weak (VR he hb) λσ H Q hh=>by
 sleep 1
 obtain⟨x,e1,e2⟩:=EX e;cases x with
 |obj c ns ds=>
  unfold tH at e2;simp only at e2;split at e2
  ·rename_i hk;refine⟨F,ρ,H0,_,ρ',R,e1,λv H1 H1' s R' r=>?_⟩;unfold Rep at r;obtain⟨a,dx,xs,rfl,h1,h2,h3⟩:=r;obtain⟨w,l1,l2⟩:=HD h3 e2;exact⟨a,_,dx,_,w,rfl,R'.sub _ _ h1,(hc c hk).1,(hc c hk).2,l1,k _ _ _ s R' l2⟩
  ·cases e2
 |_=>cases e2
def MOk(X:Cx)(C:Addr)(m:Str)(sp:Sp)(dvs:bA)(E:XK):Prop:=∃(k:Nat) (f:Addr) (fd:bQ) (ps:aH) (ds:List aa),Cls X.K C/\Meth X.K C m f/\xn X.prog X.w X.K X.mg X.base CX0 k f fd ps sp/\vn k X.A/\Binds X.K fd ps ds/\Vals dvs ds/\Passes CX0 X E
def tT(g:Nat->Option (aI->Option D))(m:Str)(f:FE)(a:FA):FE:=λρ=>match f ρ with
 |some (.obj c ns ds,ρ1)=>match g c with
  |some h=>if ns.contains m=true then none else match a ρ1 with
   |some (es,ρ2)=>match h (.obj c ns ds::es)with
    |some d=>some (d,ρ2)
    |none=>none
   |none=>none
  |none=>none
 |_=>none
theorem Fw{g:Nat->Option (aI->Option D)}{a:FA}(h:tT g m f a ρ=some (d,ρ')):
  ∃c ns ds ρ1 hh es,f ρ=some (.obj c ns ds,ρ1)/\g c=some hh/\ns.contains m=false/\a ρ1=some (es,ρ')/\hh (.obj c ns ds::es)=some d:=by
 unfold tT at h;split at h
 ·rename_i c ns ds ρ1 e1;cases e2:g c with
  |none=>simp only[e2]at h;cases h
  |some hh=>
   simp only[e2]at h;cases e3:ns.contains m with
   |true=>simp only[e3,if_true]at h;cases h
   |false=>
    simp only[e3,fF,if_false]at h;rcases ud (f:=a) (ρ:=ρ1)with e4|⟨es,ρ2,e4⟩<;>simp only[e4]at h
    ·cases h
    ·cases e5:hh (.obj c ns ds::es)with
     |none=>simp only[e5]at h;cases h
     |some x=>simp only[e5]at h;cases h;exact⟨c,ns,ds,ρ1,hh,es,e1,e2,e3,e4,e5⟩
 ·cases h
theorem B4{m:Str}:∀{ns:aH} {xs:bA},ns.contains m=false->(ns.zip xs).lookup m=none
 |[],xs,h=>rfl
 |n::ns,[],h=>rfl
 |n::ns,x::xs,h=>by rw[nP,ng]at h;simp only[eJ,dc,h.1];exact B4 h.2
theorem PN{o:Expr}{es:List Expr}{t:TA}{pl:Sem Bool}(T:Addr->Sp->Prop)(hT:∀C sp,T C sp->MOk X C m sp dvs E)(he:PE X o ta)(ha:PA X (e::es) t)
  (hst:aE (e::es) X.env=(false,eval e X.env)::aE es X.env:=by rfl) (hpl:(bD pos (aE es X.env)).any (·.1)=false:=by rfl)
  (ht:eval (.Call (.Attribute o m apos) (e::es) [] pos) X.env=(do
   let ov<-eval o X.env
   standAt apos.atName
   let (f,first)<-holding [ov] (getMethod ov m pl)
   callWith pos f first (bD pos (aE (e::es) X.env)) (backToKw pos (dG [] X.env))):=by rfl):
  PE X (.Call (.Attribute o m apos) (e::es) [] pos) (λσ H Q=>ta σ H λx H1=>∃a C dx fs sp,x=.ref a/\H1 a=some (.ins C dx fs)/\T C sp/\fs.lookup m=none/\t σ H1 λvs H2=>sp (x::(vs++dvs)) H2 Q E):=by
 intro pins s σ H Q I h;refine oK (pl:=pl) (thn (he pins s σ H _ I h) λu s1 zz=>?_) ht;obtain⟨x,H1,I1,rx,a,C,dx,fs,sp,ex,ea,ht,l,q⟩:=zz;obtain⟨k,f,fd,ps,ds,c,hm,F,hr,hb,hd,hx⟩:=hT C sp ht;subst ex;obtain rfl:u=Value.ref a:=rx;refine Fj I1 ea c hm l ?_;refine lu (first:=[.ref a]) (h₀:=X.base) I.ok.mod.kin hm.kp (thn (ha pos pins s1 σ H1 _ I1 q) λus s2 ⟨vs,H2,I2,r,q2⟩=>⟨I2.kIn,?_⟩) hst hpl;exact IK (us:=.ref a::us) (vs:=.ref a::vs) F hr hb hd hx I2 (.cons rfl r) q2
theorem Oa{o:Expr}{pl:Sem Bool}(T:Addr->Sp->Prop)(hT:∀C sp,T C sp->MOk X C m sp dvs E)(he:PE X o ta)
  (ht:eval (.Call (.Attribute o m apos) [] [] pos) X.env=(do
   let ov<-eval o X.env
   standAt apos.atName
   let (f,first)<-holding [ov] (getMethod ov m pl)
   callWith pos f first (bD pos (aE [] X.env)) (backToKw pos (dG [] X.env))):=by rfl):
  PE X (.Call (.Attribute o m apos) [] [] pos) (λσ H Q=>ta σ H λx H1=>∃a C dx fs sp,x=.ref a/\H1 a=some (.ins C dx fs)/\T C sp/\fs.lookup m=none/\sp (x::dvs) H1 Q E):=by
 intro pins s σ H Q I h;refine oK (pl:=pl) (thn (he pins s σ H _ I h) λu s1 zz=>?_) ht;obtain⟨x,H1,I1,rx,a,C,dx,fs,sp,ex,ea,ht,l,q⟩:=zz;obtain⟨k,f,fd,ps,ds,c,hm,F,hr,hb,hd,hx⟩:=hT C sp ht;subst ex;obtain rfl:u=Value.ref a:=rx;refine Fj I1 ea c hm l ?_;exact pq (first:=[.ref a]) I1.kIn hm.kp (IK (us:=[.ref a]) (vs:=[.ref a]) F hr hb hd hx I1 (.cons rfl .nil) q)
def MT(G:Bg)(g:Nat->Option (aI->Option D)):Addr->Sp->Prop:=λC sp=>∃c h,g c=some h/\C=G.ca c/\sp=spF G h
theorem Td{o:Expr}{es:List Expr}{a:FA}{g:Nat->Option (aI->Option D)}(h:PE X (.Call (.Attribute o m apos) (e::es) [] pos) (λσ H Q=>tF G f σ H λx H1=>∃a' C dx fs sp,x=.ref a'/\H1 a'=some (.ins C dx fs)/\MT G g C sp/\fs.lookup m=none/\tFA G a σ H1 λvs H2=>sp (x::(vs++[])) H2 Q E)):
  PE X (.Call (.Attribute o m apos) (e::es) [] pos) (tF G (tT g m f a)):=PE.weak h λσ H Q hh=>by
 sleep 1
 obtain⟨c,ns,ds,ρ1,hh,es',e1,e2,e3,e4,e5⟩:=Fw e;refine⟨F,ρ,H0,_,ρ1,R,e1,λv H1 H1' s R' r=>?_⟩;have r0:=r;unfold Rep at r;obtain⟨a',dx,xs,rfl,h1,h2,h3⟩:=r;refine⟨a',_,dx,_,_,rfl,R'.sub _ _ h1,⟨c,hh,e2,rfl,rfl⟩,B4 e3,F,ρ1,H1,es',ρ',R',e4,λys H2 H2' s2 R2 rs=>?_⟩;show spF G hh (V.ref a'::(ys++[])) H2' Q E;rw[bG];exact⟨H2,_,d,R2.sub,ur (Rep.mono s2 _ _ r0) rs,e5,λv H3 H3' t1 t2 t3 fr rv=>k v H3 H3' (s.trans (s2.trans t1)) (R2.grow t3 t1 t2 fr) rv⟩
theorem PQ{o:Expr}{g:Nat->Option (aI->Option D)}(h:PE X (.Call (.Attribute o m apos) [] [] pos) (λσ H Q=>tF G f σ H λx H1=>∃a' C dx fs sp,x=.ref a'/\H1 a'=some (.ins C dx fs)/\MT G g C sp/\fs.lookup m=none/\sp (x::[]) H1 Q E)):
  PE X (.Call (.Attribute o m apos) [] [] pos) (tF G (tT g m f ui)):=PE.weak h λσ H Q hh=>by
 sleep 1
 obtain⟨c,ns,ds,ρ1,hh,es',e1,e2,e3,e4,e5⟩:=Fw e;cases e4;refine⟨F,ρ,H0,_,_,R,e1,λv H1 H1' s R' r=>?_⟩;have r0:=r;unfold Rep at r;obtain⟨a',dx,xs,rfl,h1,h2,h3⟩:=r;refine⟨a',_,dx,_,_,rfl,R'.sub _ _ h1,⟨c,hh,e2,rfl,rfl⟩,B4 e3,?_⟩;exact⟨H1,_,d,R'.sub,ur r0 uq,e5,λv H3 H3' t1 t2 t3 fr rv=>k v H3 H3' (s.trans t1) (R'.grow t3 t1 t2 fr) rv⟩
def spI(G:Bg)(c:Nat)(g:aI->Option (aH×aI)):Sp:=λvs H Q _=>∃(p dx:Addr) (us:bA) (H0:Hp) (ds:aI) (ns:aH) (es:aI),vs=.ref p::us/\H p=some (.ins (G.ca c) dx [])/\H0 p=none/\tQ H0 H/\tm G H0 ds us/\g ds=some (ns,es)/\
 ∀ys dx' H0' H',tQ H0 H0'->tQ H0' H'->(∀b o,H b=some o->b≠p->H' b=some o)->(∀b o,H0' b=some o->H0 b=some o\/H b=none)->H0' p=none->H' p=some (.ins (G.ca c) dx' (ns.zip ys))->ns.length=ys.length->tm G H0' es ys->Q .non H'
def uv(c:Nat)(g:aI->Option (aH×aI))(a:FA):FE:=λρ=>match a ρ with
 |some (ds,ρ')=>match g ds with
  |some (ns,es)=>some (.obj c ns es,ρ')
  |none=>none
 |none=>none
theorem Te{g:aI->Option (aH×aI)}{a:FA}(hd:∀H,tm G H dds dvs)(h:PE X e (UR (G.ca c) (spI G c g) dvs E (tFA G a))):PE X e (tF G (uv c (λds=>g (ds++dds)) a)):=PE.weak h λσ H Q hh=>by
 sleep 1
 unfold uv at e;rcases ud (f:=a) (ρ:=ρ)with e1|⟨ds,ρ1,e1⟩<;>simp only[e1]at e
 ·cases e
 ·cases e2:g (ds++dds)with
  |none=>simp only[e2]at e;cases e
  |some q=>
   obtain⟨ns,es⟩:=q;simp only[e2]at e;cases e;refine⟨F,ρ,H0,ds,ρ',R,e1,λxs H1 H1' s R' rs x dx hx hdx ne=>?_⟩;have hx2:(upd H1' dx (.own x)) x=none:=by rw[tK (λz=>ne z.symm)];exact hx
   have sx:tQ H1' (upd (upd H1' dx (.own x)) x (.ins (G.ca c) dx [])):=(uc hdx _).trans (uc hx2 _);refine⟨x,dx,_,H1,ds++dds,ns,es,rfl,tG,R'.h0none hx,R'.sub.trans sx,vp rs (hd _),e2,λys dx' H2 H2' t1 t2 t3 fr h0 hp hl ry=>⟨rfl,?_⟩⟩;have t4:tQ H1' H2':=λb o e=>t3 b o (sx b o e) (vQ e hx);have fr1:∀b o,H2 b=some o->H1 b=some o\/H1' b=none:=λb o e=>by
    rcases fr b o e with q|q
    ·exact .inl q
    ·cases z:H1' b with
     |none=>exact .inr rfl
     |some u=>rw[sx b u z]at q;cases q
   have R2:=R'.grow t4 t1 t2 fr1;have hb:F.B x=none:=R'.bNone hx;have R3:=R2.freeze hp h0 hb (λi t ei to z=>R'.apart hx i t ei to z);refine k _ _ _ (s.trans (t1.trans (uc h0 _))) R3 ?_;unfold Rep;exact⟨x,dx',ys,rfl,tG,hl,tm.mono (uc h0 _) _ _ ry⟩
def uz(c0:Nat)(i:Nat)(f:Str)(ff:FE):FS:=λρ=>match ff ρ with
 |some (d,ρ1)=>match ρ1[i]? with
  |some (.ob c ns ds)=>if c=c0 then if ns.contains f=true then none else if ds.length=ns.length then if ns.length<900 then some (.nx (ρ1.set i (.ob c (ns++[f]) (ds++[d]))))else none else none else none
  |_=>none
 |none=>none
theorem Kb{f:Str}{v:V}:∀{ns:aH} {xs:bA},ns.contains f=false->ns.length=xs.length->zv f v (ns.zip xs)=(ns++[f]).zip (xs++[v])
 |[],[],h,l=>rfl
 |[],x::xs,h,l=>by cases l
 |n::ns,[],h,l=>by cases l
 |n::ns,x::xs,h,l=>by
  rw[nP,ng]at h;have hn:¬n=f:=λz=>by rw[z]at h;simp at h
  have ih:=Kb (f:=f) (v:=v) (ns:=ns) (xs:=xs) h.2 (by simpa using l);show zv f v ((n,x)::ns.zip xs)=_;rw[show zv f v ((n,x)::ns.zip xs)=(if n=f then (n,v)::ns.zip xs else (n,x)::zv f v (ns.zip xs)) from rfl,ag hn,ih];rfl
theorem Tf{st:Stmt}{c0:Nat}{f:Str}(h:PS X st (Zy X.K (zR i) (tF G ff) f))(hc:Cls X.K (G.ca c0)/\yk X.K (G.ca c0) f):PS X st (tFS G (uz c0 i f ff)):=PS.weak h λE σ H hh=>by
 obtain⟨F,ρ,H0,o,R,e,k,k2⟩:=hh;unfold uz at e;rcases ud (f:=ff) (ρ:=ρ)with e1|⟨d,ρ1,e1⟩<;>simp only[e1]at e
 ·cases e
 ·split at e
  ·rename_i c ns ds e2;split at e
   ·rename_i hcc;subst hcc;split at e
    ·cases e
    rename_i hnc;split at e
    ·rename_i hl;split at e
     ·rename_i h9;cases e;refine⟨F,ρ,H0,d,ρ1,R,e1,λv H1 H1' s R' r=>?_⟩;obtain⟨a,dx,xs,e3,e4,e5,e6,e7,e8⟩:=R'.sl i _ e2;refine⟨_,w5 e3,a,_,dx,_,rfl,e4,hc.1,hc.2,by rw[gv];omega,?_⟩;have hnf:ns.contains f=false:=by simpa using hnc
      rw[Kb hnf e7];refine k _ _ _ s (R'.mut e2 rfl e3 (λH' hH=>?_) rfl);exact⟨a,dx,xs++[v],rfl,hH,e5,e6,by rw[aP,aP,e7];rfl,vp e8 (ur r uq)⟩
     ·cases e
    ·cases e
   ·cases e
  ·cases e
def stI(c n:Nat)(ds:aI):aU:=.ob c [] []::stE (n - 1) ds
def fnI(c np n:Nat)(f:FS):aI->Option (aH×aI):=λds=>if ds.length=np then match f (stI c n ds)with
 |some (.nx ρ)=>match (ρ:aU)[0]? with
  |some (Sl.ob c' ns es)=>if c'=c then if ns.length=es.length then some (ns,es)else none else none
  |_=>none
 |_=>none
 else none
theorem Fy{n:Nat}{f:FS}{q:aH×aI}(h:fnI c np n f ds=some q):ds.length=np/\∃ρ,f (stI c n ds)=some (.nx ρ)/\ρ[0]?=some (.ob c q.1 q.2)/\q.1.length=q.2.length:=by
 unfold fnI at h;split at h
 ·rename_i hl;refine⟨hl,?_⟩;split at h
  ·rename_i ρ e;split at h
   ·rename_i c' ns es e2;split at h
    ·rename_i hc;split at h
     ·rename_i h3;subst hc;cases h;exact⟨ρ,e,e2,h3⟩
     ·cases h
    ·cases h
   ·cases h
  ·cases h
 ·cases h
theorem ML{f:FS}{H:Hp}{Q:VK}(hN:np+1<=N.length)(h:spI G c (fnI c np N.length f) vs H Q E):tFS G f { nx:=λ_ H'=>Q .non H',rt:=Q } (L2.start N vs) H:=by
 obtain⟨p,dx,us,H0,ds,ns,es,rfl,hp,h0,s,r,e,k⟩:=h;obtain⟨hl,ρ,e1,e2,e3⟩:=Fy e;have hul:us.length=np:=by rw[<-tu r];exact hl
 have gets:∀{i:Nat} {t:Sl},(stI c N.length ds)[i]?=some t->(i=0/\t=.ob c [] [])\/t=.un\/∃(j:Nat) (d:D),i=j+1/\ds[j]?=some d/\t=.im d:=λ{i t} e=>by
  cases i with
  |zero=>cases e;exact .inl ⟨rfl,rfl⟩
  |succ j=>
   have e':(stE (N.length - 1) ds)[j]?=some t:=e;rcases EY e' with rfl|⟨d,e1,rfl⟩
   ·exact .inr (.inl rfl)
   ·exact .inr (.inr ⟨j,d,rfl,e1,rfl⟩)
 have R:tS G ⟨H0,H,[p]⟩ (L2.start N (.ref p::us)) (stI c N.length ds) H0 H:={
  sub:=s
  g0:=tQ.refl _
  keep:=λb o e _=>e
  fr:=λb o e=>.inl e
  am:=λa ha=>by
   have ea:a=p:=by simpa using ha
   subst ea;exact⟨_,hp⟩
  len:=by unfold L2.start stI stE;simp only[aP,aj,cK,aO];have:=tu r;omega
  sl:=λi t e=>by
   rcases gets e with ⟨rfl,rfl⟩|rfl|⟨j,d,rfl,e1,rfl⟩
   ·exact⟨p,dx,[],zy rfl,hp,h0,by simp,rfl,uq⟩
   ·trivial
   ·obtain⟨v,e2,e3⟩:=xN r e1;exact⟨v,zy (by simpa using e2),e3⟩
  ap:=λi j t u a hij ei ej ht hu=>by
   rcases gets ei with ⟨rfl,rfl⟩|rfl|⟨_,_,_,_,rfl⟩
   ·rcases gets ej with ⟨rfl,rfl⟩|rfl|⟨_,_,_,_,rfl⟩
    ·exact ao rfl hij
    ·cases hu
    ·cases hu
   ·cases ht
   ·cases ht }
 refine⟨_,_,H0,_,R,e1,λσ' H0' H' s' R'=>?_,λ_=>rfl⟩;obtain⟨a,dx',ys,q1,q2,q3,q4,q5,q6⟩:=R'.sl 0 _ e2;have ea:a=p:=by simpa using q4
 subst ea;exact k ys dx' H0' H' s' R'.sub (λb o e n=>R'.keep b o e (by simpa using n)) R'.fr q3 q2 q5 q6
end
def Sl.L:Sl->Option aI
 |.ls ds=>some ds
 |.pm ds=>some ds
 |_=>none
def Sl.putL:Sl->aI->Sl
 |.pm _,ds=>.pm ds
 |_,ds=>.ls ds
theorem Sl.L_own{s:Sl}(h:s.L=some ds):s.own=true:=by cases s<;>first|rfl|cases h
theorem Sl.putL_L{s:Sl}:(s.putL ds).L=some ds:=by cases s<;>rfl
section
variable{G:Bg}{F:Fr}{σ:St}{ρ:aU}{H0 H:Hp}
theorem B2.lst{o:Option V}{s:Sl}{ds:aI}(h:B2 G F H0 H o s)(e:s.L=some ds):∃a xs,o=some (.ref a)/\H a=some (.lst xs)/\H0 a=none/\tm G H0 ds xs:=by
 cases s with
 |ls ds'=>cases e;obtain⟨a,xs,h1,h2,h3,h4,h5⟩:=h;exact⟨a,xs,h1,h2,h3,h5⟩
 |pm ds'=>cases e;obtain⟨a,xs,h1,h2,h3,h4,h5⟩:=h;exact⟨a,xs,h1,h2,h3,h5⟩
 |_=>cases e
theorem tS.mutL(R:tS G F σ ρ H0 H){s:Sl}{ds':aI}{xs':bA}(hi:ρ[i]?=some s)(hs:s.L=some ds)(ha:(σ[i]?).join=some (.ref a))(r:tm G H0 ds' xs'):
  tS G F σ (ρ.set i (s.putL ds')) H0 (upd H a (.lst xs')):=by
 have ok:=R.sl i s hi;rw[ha]at ok;refine R.mut hi (Sl.L_own hs) ha (λH' hH=>?_) (Sl.L_own Sl.putL_L);cases s with
 |ls ds0=>obtain⟨b,xs,h1,h2,h3,h4,h5⟩:=ok;cases h1;exact⟨a,xs',rfl,hH,h3,h4,r⟩
 |pm ds0=>obtain⟨b,xs,h1,h2,h3,h4,h5⟩:=ok;cases h1;exact⟨a,xs',rfl,hH,h3,h4,r⟩
 |_=>cases hs
end
def u4(ρ:aU)(i:Nat):Option aI:=match ρ[i]? with
 |some s=>s.L
 |none=>none
theorem xx(h:u4 ρ i=some ds):∃s,ρ[i]?=some s/\s.L=some ds:=by
 unfold u4 at h;cases e:ρ[i]? with
 |none=>rw[e]at h;cases h
 |some s=>rw[e]at h;exact⟨s,rfl,h⟩
def putAt(ρ:aU)(i:Nat)(ds:aI):aU:=match ρ[i]? with
 |some s=>ρ.set i (s.putL ds)
 |none=>ρ
def z4(i:Nat)(f:FE):FE:=λρ=>match u4 ρ i with
 |some _=>match f ρ with
  |some (d,ρ1)=>match u4 ρ1 i with
   |some ds=>if ds.length<1000 then some (.non,putAt ρ1 i (ds++[d]))else none
   |none=>none
  |none=>none
 |none=>none
section
variable{X:Cx}{G:Bg}
theorem wu{H:Hp}(R:tS G F σ ρ H0 H)(h:u4 ρ i=some ds):∃a xs,σ[i]?=some (some (.ref a))/\H a=some (.lst xs)/\tm G H0 ds xs/\
  (∀ds' xs',tm G H0 ds' xs'->tS G F σ (putAt ρ i ds') H0 (upd H a (.lst xs'))):=by
 obtain⟨s,e1,e2⟩:=xx h;obtain⟨a,xs,e3,e4,e5,e6⟩:=(R.sl i s e1).lst e2;refine⟨a,xs,w5 e3,e4,e6,λds' xs' r=>?_⟩;unfold putAt;rw[e1];exact R.mutL e1 e2 e3 r
theorem Ob(h:PE X e (tBM G.K "list" IU (zR i) (tFA G (aCons f ui)))):PE X e (tF G (z4 i f)):=PE.weak h λσ H Q hh=>by
 sleep 1
 unfold z4 at e;cases e0:u4 ρ i with
 |none=>simp only[e0]at e;cases e
 |some ds0=>
  simp only[e0]at e;rcases ud (f:=f) (ρ:=ρ)with e1|⟨x,ρ1,e1⟩<;>simp only[e1]at e
  ·cases e
  ·cases e2:u4 ρ1 i with
   |none=>simp only[e2]at e;cases e
   |some ds=>
    simp only[e2]at e;split at e
    ·rename_i hl;cases e;obtain⟨a,xs,s1,s2,s3,_⟩:=wu R e0;refine⟨.ref a,s1,.inl ⟨rfl,xs,SqL.of s2⟩,F,ρ,H0,[x],ρ1,R,by unfold aCons;rw[e1];rfl,λys H1 H1' s R' rs=>?_⟩;unfold tm at rs;obtain⟨v,r0,rfl,rv,rn⟩:=rs;unfold tm at rn;subst rn;obtain⟨a',xs',t1,t2,t3,t4⟩:=wu R' e2;rw[s1]at t1;cases t1;exact⟨a,xs',v,rfl,rfl,t2,by rw[<-tu t3];exact Bo (by omega),k _ _ _ s (t4 _ _ (vp t3 (ur rv uq))) yR⟩
    ·cases e
def EL(i:Nat)(f:FA):FE:=λρ=>match u4 ρ i with
 |some _=>match f ρ with
  |some (es,ρ1)=>match u4 ρ1 i with
   |some ds=>if ds.length+es.length<=1000 then some (.non,putAt ρ1 i (ds++es))else none
   |none=>none
  |none=>none
 |none=>none
theorem Oc{f:FA}(h:PE X e (tBM G.K "list" ME (zR i) (Fk (tFN G f) JP))):PE X e (tF G (EL i f)):=PE.weak h λσ H Q hh=>by
 sleep 1
 unfold EL at e;cases e0:u4 ρ i with
 |none=>simp only[e0]at e;cases e
 |some ds0=>
  simp only[e0]at e;rcases ud (f:=f) (ρ:=ρ)with e1|⟨x,ρ1,e1⟩<;>simp only[e1]at e
  ·cases e
  ·cases e2:u4 ρ1 i with
   |none=>simp only[e2]at e;cases e
   |some ds=>
    simp only[e2]at e;split at e
    ·rename_i hl;cases e;obtain⟨a,xs,s1,s2,s3,_⟩:=wu R e0;refine⟨.ref a,s1,.inl ⟨rfl,xs,SqL.of s2⟩,F,ρ,H0,x,ρ1,R,e1,λp ys H1 H1' s R' hp h0 hb ap rs=>?_⟩;obtain⟨a',xs',t1,t2,t3,t4⟩:=wu R' e2;rw[s1]at t1;cases t1;refine⟨a,p,xs',ys,rfl,rfl,t2,hp,?_,k _ _ _ s (t4 _ _ (vp t3 rs)) yR⟩;rw[<-tu t3,<- tu rs];exact xu hl
    ·cases e
def abe(i:Nat):FE:=λρ=>match u4 ρ i with
 |some (d::ds)=>some (d,putAt ρ i ds)
 |_=>none
theorem Cw{i:Int}(r:tm G H0 ds xs)(h:atI ds i=some d):∃v,atI xs i=some v/\Rep G H0 d v:=by
 unfold atI at h ⊢;rw[<-tu r];cases e:ixN ds.length i with
 |none=>rw[e]at h;cases h
 |some j=>rw[e]at h;exact xN r h
def Od(i:Nat)(f:FE):FE:=λρ=>match u4 ρ i with
 |some _=>match f ρ with
  |some (.int j,ρ1)=>match u4 ρ1 i with
   |some ds=>match atI ds j with
    |some d=>some (d,ρ1)
    |none=>none
   |none=>none
  |_=>none
 |none=>none
theorem Wo(h:PE X e (tOp (Su G.K) (zR i) (tF G f))):PE X e (tF G (Od i f)):=PE.weak h λσ H Q hh=>by
 sleep 1
 unfold Od at e;cases e9:u4 ρ i with
 |none=>simp only[e9]at e;cases e
 |some ds9=>
  simp only[e9]at e;obtain⟨a9,xs9,ev,_⟩:=wu R e9;split at e
  ·rename_i j ρ1 e1;cases e0:u4 ρ1 i with
   |none=>simp only[e0]at e;cases e
   |some ds=>
    simp only[e0]at e;cases e2:atI ds j with
    |none=>simp only[e2]at e;cases e
    |some x=>simp only[e2]at e;cases e;refine⟨.ref a9,ev,F,ρ,H0,_,_,R,e1,λu H1 H1' s R' r=>?_⟩;unfold Rep at r;subst r;obtain⟨a,xs,s1,s2,s3,s4⟩:=wu R' e0;rw[ev]at s1;cases s1;obtain⟨w,w1,w2⟩:=Cw s3 e2;exact⟨_,xs,j,w,rfl,rfl,SqL.of s2,w1,k _ _ _ s R' w2⟩
  ·cases e
def cFz(i:Nat):FE:=λρ=>match ρ[i]? with
 |some (.ls ds)=>some (.lst ds,ρ.set i (.im (.lst ds)))
 |some (.dk ks ds)=>some (.dic ks ds,ρ.set i (.im (.dic ks ds)))
 |some (.im d)=>some (d,ρ)
 |_=>none
theorem tS.toIm{H:Hp}(R:tS G F σ ρ H0 H){s:Sl}{o:HO}(hi:ρ[i]?=some s)(hs:(σ[i]?).join=some (.ref p))(so:s.own=true)(hp:H p=some o)(h0:H0 p=none)(hb:F.B p=none)(r:Rep G (upd H0 p o) d (.ref p)):
  tS G F σ (ρ.set i (.im d)) (upd H0 p o) H where
 sub:=λb u e=>by
  by_cases hb:b=p
  ·subst hb;rw[tG]at e;cases e;exact hp
  ·rw[tK hb]at e;exact R.sub _ _ e
 g0:=R.g0.trans (uc h0 o)
 keep:=R.keep
 fr:=λb u e=>by
  by_cases hb':b=p
  ·subst hb';exact .inr hb
  ·rw[tK hb']at e;exact R.fr _ _ e
 am:=R.am
 len:=by rw[d5];exact R.len
 sl:=λj t e=>by
  rw[bS]at e;by_cases h:i=j
  ·subst h;rw[af rfl]at e;split at e
   ·cases e;exact⟨_,hs,r⟩
   ·cases e
  ·rw[ag h]at e;refine(R.sl j t e).grow (uc h0 o) (λa u _ _ q=>q) λa u z to q q0=>?_;rw[tK (λy=>by subst y;exact R.ap j i t s a (λy=>h y.symm) e hi to so z hs)];exact q0
 ap:=λj k t u b hjk ej ek tj tk vj vk=>by
  have gen:∀{m:Nat} {x:Sl},(ρ.set i (.im d))[m]?=some x->x.own=true->ρ[m]?=some x:=λ{m x} e xo=>by
   rw[bS]at e;by_cases h:i=m
   ·subst h;rw[af rfl]at e;split at e
    ·cases e;cases xo
    ·cases e
   ·rw[ag h]at e;exact e
  exact R.ap j k t u b hjk (gen ej tj) (gen ek tk) tj tk vj vk
theorem tS.toImD{H:Hp}(R:tS G F σ ρ H0 H){s:Sl}{o:HO}(hi:ρ[i]?=some s)(hs:(σ[i]?).join=some (.ref p))(so:s.own=true)(h0:H0 p=none)(hb:F.B p=none)(r:Rep G (upd H0 p o) d (.ref p)):
  tS G F σ (ρ.set i (.im d)) (upd H0 p o) (upd H p o) where
 sub:=λb u e=>by
  by_cases hb:b=p
  ·subst hb;rw[tG]at e ⊢;exact e
  ·rw[tK hb]at e ⊢;exact R.sub _ _ e
 g0:=R.g0.trans (uc h0 o)
 keep:=λb u e n=>by rw[tK (λz=>by subst z;rw[hb]at e;cases e)];exact R.keep b u e n
 fr:=λb u e=>by
  by_cases hb':b=p
  ·subst hb';exact .inr hb
  ·rw[tK hb']at e;exact R.fr _ _ e
 am:=λb hm=>by
  by_cases hb':b=p
  ·subst hb';exact⟨o,tG⟩
  ·rw[tK hb'];exact R.am b hm
 len:=by rw[d5];exact R.len
 sl:=λj t e=>by
  rw[bS]at e;by_cases h:i=j
  ·subst h;rw[af rfl]at e;split at e
   ·cases e;exact⟨_,hs,r⟩
   ·cases e
  ·rw[ag h]at e;refine(R.sl j t e).grow (uc h0 o) (λa u z to q=>?_) λa u z to q q0=>?_
   ·rw[tK (λy=>by subst y;exact R.ap j i t s a (λy=>h y.symm) e hi to so z hs)];exact q
   ·rw[tK (λy=>by subst y;exact R.ap j i t s a (λy=>h y.symm) e hi to so z hs)];exact q0
 ap:=λj k t u b hjk ej ek tj tk vj vk=>by
  have gen:∀{m:Nat} {x:Sl},(ρ.set i (.im d))[m]?=some x->x.own=true->ρ[m]?=some x:=λ{m x} e xo=>by
   rw[bS]at e;by_cases h:i=m
   ·subst h;rw[af rfl]at e;split at e
    ·cases e;cases xo
    ·cases e
   ·rw[ag h]at e;exact e
  exact R.ap j k t u b hjk (gen ej tj) (gen ek tk) tj tk vj vk
theorem Z7(h:PE X e (zR i)):PE X e (tF G (cFz i)):=PE.weak (PE.ghost h) λσ H Q hh=>by
 sleep 1
 unfold cFz at e;split at e
 ·rename_i ds e0;cases e;obtain⟨a,xs,h1,h2,h3,h4,h5⟩:=R.sl i _ e0;have rr:Rep G (upd H0 a (.lst xs)) (.lst ds) (.ref a):=zY tG (tm.mono (uc h3 _) _ _ h5);exact⟨_,w5 h1,.inl (k _ _ _ (uc h3 _) (R.toIm e0 h1 rfl h2 h3 h4 rr) rr)⟩
 ·rename_i ks ds e0;cases e;obtain⟨a,xs,h1,h2,h3,h4,h5,h6⟩:=R.sl i _ e0;refine⟨_,w5 h1,.inr ⟨a,_,h2,λo=>?_⟩⟩;have rr:Rep G (upd H0 a (.frz o (.dK (ks.zip xs)))) (.dic ks ds) (.ref a):=by unfold Rep;exact⟨a,o,xs,rfl,tG,h5,tm.mono (uc h3 _) _ _ h6⟩
  exact k _ _ _ (uc h3 _) (R.toImD e0 h1 rfl h3 h4 rr) rr
 ·rename_i d' e0;cases e;obtain⟨v,e2,e3⟩:=R.sl i _ e0;exact⟨v,w5 e2,.inl (k _ _ _ (tQ.refl _) R e3)⟩
 ·cases e
def Ja(i:Nat):FA:=λρ=>match ρ[i]? with
 |some (.ls ds)=>some (ds,ρ.set i .un)
 |_=>none
theorem Tg(h:PE X e (zR i)):PE X e (tFN G (Ja i)):=PE.weak h λσ H Q hh=>by
 sleep 1
 unfold Ja at e;split at e
 ·rename_i ds e0;cases e;obtain⟨a,xs,h1,h2,h3,h4,h5⟩:=R.sl i _ e0;have gen:∀{m:Nat} {x:Sl},(ρ.set i .un)[m]?=some x->x.own=true->m≠i/\ρ[m]?=some x:=λ{m x} e xo=>by
   rw[bS]at e;by_cases h:i=m
   ·subst h;rw[af rfl]at e;split at e
    ·cases e;cases xo
    ·cases e
   ·rw[ag h]at e;exact⟨λz=>h z.symm,e⟩
  have R':tS G F σ (ρ.set i .un) H0 H:={
   sub:=R.sub,g0:=R.g0,keep:=R.keep,fr:=R.fr,am:=R.am
   len:=by rw[d5];exact R.len
   sl:=λj t e=>by
    rw[bS]at e;by_cases h:i=j
    ·subst h;rw[af rfl]at e;split at e
     ·cases e;trivial
     ·cases e
    ·rw[ag h]at e;exact R.sl j t e
   ap:=λj k t u b hjk ej ek tj tk vj vk=>R.ap j k t u b hjk (gen ej tj).2 (gen ek tk).2 tj tk vj vk }
  refine⟨_,w5 h1,k a xs _ _ (tQ.refl _) R' h2 h3 h4 (λj t ej to z=>?_) h5⟩;obtain⟨nj,ej'⟩:=gen ej to;exact R.ap j i t _ a nj ej' e0 to rfl z h1
 ·cases e
end
def spM(G:Bg)(g:aI->aI->Option (D×aI)):Sp:=λvs H Q _=>∃(a:Addr) (us xs:bA) (H0:Hp) (es ds:aI) (d:D) (es':aI),vs=.ref a::us/\H a=some (.lst xs)/\H0 a=none/\tQ H0 H/\tm G H0 es xs/\tm G H0 ds us/\g es ds=some (d,es')/\
 ∀v xs' H0' H',tQ H0 H0'->tQ H0' H'->(∀b o,H b=some o->b≠a->H' b=some o)->(∀b o,H0' b=some o->H0 b=some o\/H b=none)->H0' a=none->H' a=some (.lst xs')->tm G H0' es' xs'->Rep G H0' d v->Q v H'
def stM(n:Nat)(es ds:aI):aU:=.pm es::stE (n - 1) ds
def Cy(ρ:aU):Option aI:=match ρ with
 |.pm es::_=>some es
 |_=>none
def fnM(np n:Nat)(f:FS):aI->aI->Option (D×aI):=λes ds=>if ds.length=np then match f (stM n es ds)with
 |some (.rt d ρ)=>match Cy ρ with
  |some es'=>some (d,es')
  |none=>none
 |some (.rn xs ρ)=>match Cy ρ with
  |some es'=>some (.lst xs,es')
  |none=>none
 |_=>none
 else none
theorem FB{es:aI}(h:Cy ρ=some es):ρ[0]?=some (.pm es):=by
 unfold Cy at h;split at h
 ·cases h;rfl
 ·cases h
variable{es':aI}
theorem Kc{n:Nat}{f:FS}{es:aI}(h:fnM np n f es ds=some (d,es')):ds.length=np/\((∃ρ,f (stM n es ds)=some (.rt d ρ)/\ρ[0]?=some (.pm es'))\/∃xs ρ,f (stM n es ds)=some (.rn xs ρ)/\ρ[0]?=some (.pm es')/\d=.lst xs):=by
 unfold fnM at h;split at h
 ·rename_i hl;refine⟨hl,?_⟩;split at h
  ·rename_i x ρ e;cases e2:Cy ρ with
   |none=>simp only[e2]at h;cases h
   |some q=>simp only[e2]at h;cases h;exact .inl ⟨ρ,e,FB e2⟩
  ·rename_i x ρ e;cases e2:Cy ρ with
   |none=>simp only[e2]at h;cases h
   |some q=>simp only[e2]at h;cases h;exact .inr ⟨x,ρ,e,FB e2,rfl⟩
  ·cases h
 ·cases h
section
variable{X:Cx}{G:Bg}
theorem Ti{f:FS}{H:Hp}{Q:VK}(hN:np+1<=N.length)(h:spM G (fnM np N.length f) vs H Q E):tFS G f { nx:=λ_ H'=>Q .non H',rt:=Q } (L2.start N vs) H:=by
 obtain⟨a,us,xs,H0,es,ds,d,es',rfl,ha,h0,s,r1,r,e,k⟩:=h;obtain⟨hl,e1⟩:=Kc e;have hul:us.length=np:=by rw[<-tu r];exact hl
 have gets:∀{i:Nat} {t:Sl},(stM N.length es ds)[i]?=some t->(i=0/\t=.pm es)\/t=.un\/∃(j:Nat) (d:D),i=j+1/\ds[j]?=some d/\t=.im d:=λ{i t} e=>by
  cases i with
  |zero=>cases e;exact .inl ⟨rfl,rfl⟩
  |succ j=>
   have e':(stE (N.length - 1) ds)[j]?=some t:=e;rcases EY e' with rfl|⟨d,e1,rfl⟩
   ·exact .inr (.inl rfl)
   ·exact .inr (.inr ⟨j,d,rfl,e1,rfl⟩)
 have R:tS G ⟨H0,H,[a]⟩ (L2.start N (.ref a::us)) (stM N.length es ds) H0 H:={
  sub:=s
  g0:=tQ.refl _
  keep:=λb o e _=>e
  fr:=λb o e=>.inl e
  am:=λb hb=>by
   have eb:b=a:=by simpa using hb
   subst eb;exact⟨_,ha⟩
  len:=by unfold L2.start stM stE;simp only[aP,aj,cK,aO];have:=tu r;omega
  sl:=λi t e=>by
   rcases gets e with ⟨rfl,rfl⟩|rfl|⟨j,d,rfl,e1,rfl⟩
   ·exact⟨a,xs,zy rfl,ha,h0,by simp,r1⟩
   ·trivial
   ·obtain⟨v,e2,e3⟩:=xN r e1;exact⟨v,zy (by simpa using e2),e3⟩
  ap:=λi j t u b hij ei ej ht hu=>by
   rcases gets ei with ⟨rfl,rfl⟩|rfl|⟨_,_,_,_,rfl⟩
   ·rcases gets ej with ⟨rfl,rfl⟩|rfl|⟨_,_,_,_,rfl⟩
    ·exact ao rfl hij
    ·cases hu
    ·cases hu
   ·cases ht
   ·cases ht }
 have fin:∀{v:V} {σ':St} {ρ':aU} {H0' H':Hp},tQ H0 H0'->tS G ⟨H0,H,[a]⟩ σ' ρ' H0' H'->ρ'[0]?=some (.pm es')->Rep G H0' d v->Q v H':=λs' R' e2 rv=>by
  obtain⟨a',ys,q1,q2,q3,q4,q5⟩:=R'.sl 0 _ e2;have ea:a'=a:=by simpa using q4
  subst ea;exact k _ ys _ _ s' R'.sub (λb o e n=>R'.keep b o e (by simpa using n)) R'.fr q3 q2 q5 rv
 rcases e1 with ⟨ρ,e1,e2⟩|⟨zs,ρ,e1,e2,rfl⟩
 ·exact⟨_,_,H0,_,R,e1,λv σ' H0' H' s' R' rv=>fin s' R' e2 rv,λ_=>rfl⟩
 ·refine⟨_,_,H0,_,R,e1,λp ys σ' H0' H' s' R' hp hp0 hb ap rs=>?_,λ_=>rfl⟩;exact fin (s'.trans (uc hp0 _)) (R'.freeze hp hp0 hb ap) e2 (zY tG (tm.mono (uc hp0 _) _ _ rs))
theorem Z8{g:aI->aI->Option (D×aI)}(hg:∀es ds d,g es ds=some d->ds.length=np):∀vs H Q E,spM G g vs H Q E->vs.length=np+1:=λvs H Q E h=>by obtain⟨a,us,xs,H0,es,ds,d,es',rfl,_,_,_,_,r,e,_⟩:=h;rw[aO,<- tu r,hg _ _ _ e]
theorem Tj{n:Nat}{f:FS}:∀es ds d,fnM np n f es ds=some d->ds.length=np:=λ_ _ d h=>(Kc (d:=d.1) (es':=d.2) h).1
theorem tS.call1{H:Hp}(R:tS G F σ ρ H0 H){s:Sl}{es:aI}{b:Addr}{zs:bA}(hi:ρ[i]?=some s)(hs:s.L=some es)(hb:(σ[i]?).join=some (.ref b))
  (s1:tQ H0 H0') (s2:tQ H0' H') (s3:∀c o,H c=some o->c≠b->H' c=some o) (fr:∀c o,H0' c=some o->H0 c=some o\/H c=none) (h0:H0' b=none) (hz:H' b=some (.lst zs)) (r:tm G H0' es' zs):
  tS G F σ (ρ.set i (s.putL es')) H0' H':=by
 have so:=Sl.L_own hs;obtain⟨b',u,e1,e2,e3,e4⟩:=(R.sl i s hi).at so;rw[hb]at e1;cases e1;exact {
  sub:=s2
  g0:=R.g0.trans s1
  keep:=λc o e n=>by
   refine s3 c o (R.keep c o e n) λz=>?_;subst z;rcases e4 with q|q
   ·rw[q]at e;cases e
   ·exact n q
  fr:=λc o e=>by
   rcases fr c o e with q|q
   ·exact R.fr c o q
   ·exact .inr (R.bNone q)
  am:=λc hc=>by
   by_cases z:c=b
   ·subst z;exact⟨_,hz⟩
   ·obtain⟨o,q⟩:=R.am c hc;exact⟨o,s3 c o q z⟩
  len:=by rw[d5];exact R.len
  sl:=λj t e=>by
   rw[bS]at e;by_cases h:i=j
   ·subst h;rw[af rfl]at e;split at e
    ·cases e;rw[hb];have ok:=R.sl i s hi;rw[hb]at ok;cases s with
     |ls ds0=>obtain⟨c,xs,h1,h2,h3,h4,h5⟩:=ok;cases h1;exact⟨b,zs,rfl,hz,h0,h4,r⟩
     |pm ds0=>obtain⟨c,xs,h1,h2,h3,h4,h5⟩:=ok;cases h1;exact⟨b,zs,rfl,hz,h0,h4,r⟩
     |_=>cases hs
    ·cases e
   ·rw[ag h]at e;refine(R.sl j t e).grow s1 (λc w z to q=>s3 c w q λy=>?_) λc w z to q q0=>?_
    ·subst y;exact R.ap j i t s c (λy=>h y.symm) e hi to so z hb
    ·cases y:H0' c with
     |none=>rfl
     |some o=>
      rcases fr c o y with x|x
      ·rw[x]at q0;cases q0
      ·rw[x]at q;cases q
  ap:=λj k t u c hjk ej ek tj tk vj vk=>by
   have gen:∀{m:Nat} {x:Sl},(ρ.set i (s.putL es'))[m]?=some x->∃y,ρ[m]?=some y/\(x.own=true->y.own=true):=λ{m x} e=>by
    rw[bS]at e;by_cases h:i=m
    ·subst h;exact⟨s,hi,λ_=>so⟩
    ·rw[ag h]at e;exact⟨x,e,λq=>q⟩
   obtain⟨y,ey,oy⟩:=gen ej;obtain⟨z,ez,oz⟩:=gen ek;exact R.ap j k y z c hjk ey ez (oy tj) (oz tk) vj vk }
def vA(g:aI->aI->Option (D×aI))(i:Nat)(a:FA):FE:=λρ=>match u4 ρ i with
 |some _=>match a ρ with
  |some (ds,ρ1)=>match u4 ρ1 i with
   |some es=>match g es ds with
    |some (d,es')=>some (d,putAt ρ1 i es')
    |none=>none
   |none=>none
  |none=>none
 |none=>none
theorem Wp{g:aI->aI->Option (D×aI)}{a:FA}(h:PE X e (D2 (spM G g) [] E (Fk (zR i) (tFA G a)))):PE X e (tF G (vA g i a)):=PE.weak h λσ H Q hh=>by
 sleep 1
 unfold vA at e;cases e0:u4 ρ i with
 |none=>simp only[e0]at e;cases e
 |some ds0=>
  simp only[e0]at e;rcases ud (f:=a) (ρ:=ρ)with e1|⟨ds,ρ1,e1⟩<;>simp only[e1]at e
  ·cases e
  ·cases e2:u4 ρ1 i with
   |none=>simp only[e2]at e;cases e
   |some es=>
    simp only[e2]at e;cases e3:g es ds with
    |none=>simp only[e3]at e;cases e
    |some q=>
     obtain⟨d1,es'⟩:=q;simp only[e3]at e;cases e;obtain⟨b,xs,s1,s2,s3,_⟩:=wu R e0;refine⟨.ref b,s1,F,ρ,H0,ds,ρ1,R,e1,λys H1 H1' s R' rs=>?_⟩;obtain⟨s,es0,es1⟩:=xx e2;obtain⟨b',xs',t1,t2,t3,t4⟩:=(R'.sl i s es0).lst es1;rw[w5 t1]at s1;cases s1;refine⟨b,ys,xs',H1,es,ds,d,es',?_,t2,t3,R'.sub,t4,rs,e3,λv zs H2 H2' u1 u2 u3 fr w0 w1 w2 w3=>?_⟩
     ·show V.ref b::ys++[]=_;rw[bG]
     ·refine k _ _ _ (tQ.trans ‹tQ H0 H1› u1) ?_ w3;unfold putAt;rw[es0];exact R'.call1 es0 es1 t1 u1 u2 u3 fr w0 w1 w2
def Walk(G:Bg)(J:It)(ds:aI)(H0:Hp):Prop:=∀(i:Nat) (H1 H1':Hp),tQ H0 H1->tQ H1 H1'->
 (∀d,ds[i]?=some d->J.go i H1'/\∀x H2',J.yld i H1' x H2'->∃H2,tQ H1 H2/\tQ H2 H2'/\tQ H1' H2'/\(∀b o,H2 b=some o->H1 b=some o\/H1' b=none)/\Rep G H2 d x)/\(i=ds.length->J.stop i H1')
def tFI(G:Bg)(f:FA):TI:=λσ H R=>∃F ρ H0 ds ρ',tS G F σ ρ H0 H/\f ρ=some (ds,ρ')/\∀J H0' H',tQ H0 H0'->tS G F σ ρ' H0' H'->Walk G J ds H0'->R J H'
theorem PI.weak{t t':TI}(h:PI X tg e t)(w:∀σ H R,t' σ H R->t σ H R):PI X tg e t':=λpins s σ H R I hq=>h pins s σ H R I (w _ _ _ hq)
theorem FC(h:SqL G.K H0 a xs)(r:tm G H0 ds xs):Walk G (Itl G.K a) ds H0:=λi H1 H1' s s'=>by have h1:SqL G.K H1' a xs:=(s.trans s').seq h;refine⟨λd e=>?_,λhl=>⟨xs,h1,by rw[<-tu r,hl];exact aJ _⟩⟩;obtain⟨v,e1,e2⟩:=xN r e;refine⟨⟨xs,v,h1,e1⟩,λx H2' y=>?_⟩;obtain⟨e3,e4⟩:=y;have e5:=e4 xs h1;rw[e1]at e5;cases e5;subst e3;exact⟨H1,tQ.refl _,s',tQ.refl _,λb o e=>.inl e,Rep.mono s _ _ e2⟩
theorem PR(h:SqT G.K H0 a xs)(r:tm G H0 ds xs):Walk G (Itt G.K a) ds H0:=λi H1 H1' s s'=>by have h1:SqT G.K H1' a xs:=SqT.mono (s.trans s') h;refine⟨λd e=>?_,λhl=>⟨xs,h1,by rw[<-tu r,hl];exact aJ _⟩⟩;obtain⟨v,e1,e2⟩:=xN r e;refine⟨⟨xs,v,h1,e1⟩,λx H2' y=>?_⟩;obtain⟨e3,e4⟩:=y;have e5:=e4 xs h1;rw[e1]at e5;cases e5;subst e3;exact⟨H1,tQ.refl _,s',tQ.refl _,λb o e=>.inl e,Rep.mono s _ _ e2⟩
def iL(f:FE):FA:=λρ=>match f ρ with
 |some (.lst ds,ρ')=>some (ds,ρ')
 |some (.fzl ds,ρ')=>some (ds,ρ')
 |_=>none
def iT(f:FE):FA:=λρ=>match f ρ with
 |some (.tup ds,ρ')=>some (ds,ρ')
 |_=>none
theorem Ke(h:PI X tg e (O2 G.K (tF G f))):PI X tg e (tFI G (iL f)):=PI.weak h λσ H R hh=>by
 obtain⟨F,ρ,H0,ds,ρ',R,e,k⟩:=hh;unfold iL at e;split at e
 ·rename_i ds' ρ1 e1;cases e;refine⟨F,ρ,H0,_,_,R,e1,λv H1 H1' s R' r=>?_⟩;unfold Rep at r;obtain⟨a,xs,rfl,r1,r2⟩:=r;exact⟨a,rfl,⟨xs,R'.sub.seq (SqL.of r1)⟩,k _ _ _ s R' (FC (SqL.of r1) r2)⟩
 ·rename_i ds' ρ1 e1;cases e;refine⟨F,ρ,H0,_,_,R,e1,λv H1 H1' s R' r=>?_⟩;unfold Rep at r;obtain⟨a,xs,rfl,r1,r2⟩:=r;exact⟨a,rfl,⟨xs,R'.sub.seq r1⟩,k _ _ _ s R' (FC r1 r2)⟩
 ·cases e
theorem Tn(h:PI X tg e (VG G.K (tF G f))):PI X tg e (tFI G (iT f)):=PI.weak h λσ H R hh=>by
 obtain⟨F,ρ,H0,ds,ρ',R,e,k⟩:=hh;unfold iT at e;split at e
 ·rename_i ds' ρ1 e1;cases e;refine⟨F,ρ,H0,_,_,R,e1,λv H1 H1' s R' r=>?_⟩;unfold Rep at r;obtain⟨a,xs,rfl,r1,r2⟩:=r;exact⟨a,rfl,⟨xs,SqT.mono R'.sub r1⟩,k _ _ _ s R' (PR r1 r2)⟩
 ·cases e
def EM(lo:Int)(n:Nat):aI:=(bf n).map λ(i:Nat)=>D.int (lo+(i:Int))
theorem Kg{lo:Int}{n:Nat}:Walk G (Itr lo n) (EM lo n) H0:=λi H1 H1' s s'=>by
 refine⟨λd e=>?_,λhl=>by show n<=i;rw[hl];simp[EM]⟩;unfold EM at e;rw[bB]at e;by_cases hi:i<n
 ·rw[nE hi]at e;cases e;refine⟨hi,λx H2' y=>?_⟩;obtain⟨e3,rfl⟩:=y;subst e3;exact⟨H1,tQ.refl _,s',tQ.refl _,λb o e=>.inl e,vz _⟩
 ·rw[gh (by simpa using hi)]at e;cases e
def iR1(f:FE):FA:=λρ=>match f ρ with
 |some (.int n,ρ')=>if -1000000<=n/\n<=1000000 then some (EM 0 n.toNat,ρ')else none
 |_=>none
theorem Lv(h:PI X tg e (UP (tFA G (aCons f ui)))):PI X tg e (tFI G (iR1 f)):=PI.weak h λσ H R hh=>by
 obtain⟨F,ρ,H0,ds,ρ',R,e,k⟩:=hh;unfold iR1 at e;split at e
 ·rename_i n ρ1 e1;split at e
  ·rename_i hn;cases e;refine⟨F,ρ,H0,[.int n],_,R,by unfold aCons;rw[e1];rfl,λxs H1 H1' s R' rs=>?_⟩;unfold tm at rs;obtain⟨v,r0,rfl,rv,rn⟩:=rs;unfold tm at rn;unfold Rep at rv;subst rn rv;exact⟨n,rfl,by omega,by omega,k _ _ _ s R' Kg⟩
  ·cases e
 ·cases e
def forL(g:FG)(b:FS):aI->FS
 |[],ρ=>some (.nx ρ)
 |d::r,ρ=>match g d ρ with
  |none=>none
  |some ρ1=>match b ρ1 with
   |some (.nx ρ2)=>forL g b r ρ2
   |some (.ct ρ2)=>forL g b r ρ2
   |some (.bk ρ2)=>some (.nx ρ2)
   |some (.rt d ρ2)=>some (.rt d ρ2)
   |some (.rn d ρ2)=>some (.rn d ρ2)
   |none=>none
def v8(s:FA)(g:FG)(b:FS):FS:=λρ=>match s ρ with
 |some (ds,ρ')=>forL g b ds ρ'
 |none=>none
theorem To{st:Stmt}{n:Nat}{s:FA}{g:FG}{b:FS}(h:PS X st (VI (tFI G s) (tFG G n g) (tFS G b))):PS X st (tFS G (v8 s g b)):=PS.weak h λE σ H hh=>by
 obtain⟨F,ρ,H0,o,R,e,k,k2⟩:=hh;unfold v8 at e;rcases ud (f:=s) (ρ:=ρ)with e1|⟨ds,ρ1,e1⟩<;>simp only[e1]at e
 ·cases e
 ·refine⟨F,ρ,H0,ds,ρ1,R,e1,λJ H1 H1' s1 R1 wk=>?_⟩;refine⟨λi m σ H=>m=ds.length - i/\i<=ds.length/\∃ρi Hi,tQ H1 Hi/\tS G F σ ρi Hi H/\forL g b (ds.drop i) ρi=some o,⟨_,rfl,cf _,ρ1,H1,tQ.refl _,R1,e⟩,?_⟩;rintro i m σi Hi' ⟨rfl,hi,ρi,Hi,si,Ri,ei⟩;by_cases hlt:i<ds.length
  ·have ed:ds.drop i=ds[i]::ds.drop (i+1):=j2 hlt;rw[ed]at ei;unfold forL at ei;obtain⟨go,yl⟩:=(wk i Hi Hi' si Ri.sub).1 ds[i] (aZ hlt);refine .inr ⟨go,λσ' H'=>∃ρi Hi,tQ H1 Hi/\tS G F σ' ρi Hi H'/\forL g b (ds.drop (i+1)) ρi=some o,λσ' H' q=>⟨ds.length - (i+1),by omega,rfl,hlt,q⟩,λx H' y=>?_⟩;obtain⟨H2,t1,t2,t3,t4,t5⟩:=yl x H' y;have R2:=Ri.grow t3 t1 t2 t4;cases e2:g ds[i] ρi with
   |none=>simp only[e2]at ei;cases ei
   |some ρ2=>
    simp only[e2]at ei;refine⟨F,ρi,H2,_,ρ2,R2,t5,e2,λσ3 _ R3=>?_⟩;have kk:=k.back (s1.trans (si.trans t1));cases e3:b ρ2 with
    |none=>simp only[e3]at ei;cases ei
    |some q=>
     refine⟨F,ρ2,H2,q,R3,e3,?_,λ_=>rfl⟩;cases q with
     |nx ρ3=>simp only[e3]at ei;exact λσ' H0' H' s' R'=>⟨ρ3,H0',si.trans (t1.trans s'),R',ei⟩
     |ct ρ3=>simp only[e3]at ei;exact λσ' H0' H' s' R'=>⟨ρ3,H0',si.trans (t1.trans s'),R',ei⟩
     |bk ρ3=>simp only[e3]at ei;cases ei;exact kk
     |rt d ρ3=>simp only[e3]at ei;cases ei;exact kk
     |rn d ρ3=>simp only[e3]at ei;cases ei;exact kk
  ·have ez:ds.drop i=[]:=mX (by omega);rw[ez]at ei;unfold forL at ei;cases ei;exact .inl ⟨(wk i Hi Hi' si Ri.sub).2 (by omega),k _ _ _ (s1.trans si) Ri⟩
def whL(c:FT)(b:FS):Nat->FS
 |0,_=>none
 |n+1,ρ=>match c ρ with
  |some (false,ρ1)=>some (.nx ρ1)
  |some (true,ρ1)=>match b ρ1 with
   |some (.nx ρ2)=>whL c b n ρ2
   |some (.ct ρ2)=>whL c b n ρ2
   |some (.bk ρ2)=>some (.nx ρ2)
   |some (.rt d ρ2)=>some (.rt d ρ2)
   |some (.rn d ρ2)=>some (.rn d ρ2)
   |none=>none
  |none=>none
theorem Oe{st:Stmt}{c:FT}{b:FS}(n:Nat)(h:PS X st (O0 (tFT G c) (tFS G b))):PS X st (tFS G (whL c b n)):=PS.weak h λE σ H hh=>by
 obtain⟨F,ρ,H0,o,R,e,k,k2⟩:=hh;refine⟨λm σ H=>∃ρi Hi,tQ H0 Hi/\tS G F σ ρi Hi H/\whL c b m ρi=some o,⟨n,ρ,H0,tQ.refl _,R,e⟩,?_⟩;rintro m σi Hi' ⟨ρi,Hi,si,Ri,ei⟩;cases m with
 |zero=>cases ei
 |succ m=>
  unfold whL at ei;rcases ud (f:=c) (ρ:=ρi)with e1|⟨t,ρ1,e1⟩
  ·simp only[e1]at ei;cases ei
  ·refine⟨F,ρi,Hi,t,ρ1,Ri,e1,λH1 H1' s1 R1=>?_⟩;cases t with
   |false=>simp only[e1]at ei;cases ei;exact IY (k _ _ _ (si.trans s1) R1)
   |true=>
    simp only[e1]at ei;refine IZ ⟨λσ' H'=>∃ρi Hi,tQ H0 Hi/\tS G F σ' ρi Hi H'/\whL c b m ρi=some o,λσ' H' q=>⟨m,dv m,q⟩,?_⟩;have kk:=k.back (si.trans s1);cases e3:b ρ1 with
    |none=>simp only[e3]at ei;cases ei
    |some q=>
     refine⟨F,ρ1,H1,q,R1,e3,?_,λ_=>rfl⟩;cases q with
     |nx ρ3=>simp only[e3]at ei;exact λσ' H0' H' s' R'=>⟨ρ3,H0',si.trans (s1.trans s'),R',ei⟩
     |ct ρ3=>simp only[e3]at ei;exact λσ' H0' H' s' R'=>⟨ρ3,H0',si.trans (s1.trans s'),R',ei⟩
     |bk ρ3=>simp only[e3]at ei;cases ei;exact kk
     |rt d ρ3=>simp only[e3]at ei;cases ei;exact kk
     |rn d ρ3=>simp only[e3]at ei;cases ei;exact kk
end
def Sl.cap:Sl->Sl
 |.im d=>.im d
 |.ls ds=>.pm ds
 |.pm ds=>.pm ds
 |_=>.un
def CA(k:Nat)(cap:List Nat)(ρ:aU):aU:=iu k .un++cap.map λj=>((ρ[j]?).getD .un).cap
def wN:List Nat->aU->aU->Option aU
 |[],_,ρ=>some ρ
 |j::cap,t::ts,ρ=>match u4 ρ j with
  |some _=>match t with
   |.pm ds=>wN cap ts (putAt ρ j ds)
   |_=>none
  |none=>wN cap ts ρ
 |_::_,[],_=>none
def xq(k:Nat)(cap:List Nat)(g:FG)(ft:FT)(fe:FE):aI->aU->Option (aI×aU)
 |[],ρ=>some ([],ρ)
 |d::r,ρ=>match g d (CA k cap ρ)with
  |none=>none
  |some ρ1=>match ft ρ1 with
   |some (true,ρ2)=>match fe ρ2 with
    |some (x,ρ3)=>match wN cap (ρ3.drop k) ρ with
     |some ρ'=>match xq k cap g ft fe r ρ' with
      |some (xs,ρ'')=>some (x::xs,ρ'')
      |none=>none
     |none=>none
    |none=>none
   |some (false,ρ2)=>match wN cap (ρ2.drop k) ρ with
    |some ρ'=>xq k cap g ft fe r ρ'
    |none=>none
   |none=>none
def tN(k:Nat)(cap:List Nat)(s:FA)(g:FG)(ft:FT)(fe:FE):FA:=λρ=>match s ρ with
 |some (ds,ρ')=>if ds.length<=1000 then xq k cap g ft fe ds ρ' else none
 |none=>none
def uF:FT:=λρ=>some (true,ρ)
theorem z5:∀{cap:List Nat} {ts ρ ρ':aU},wN cap ts ρ=some ρ'->ρ'.length=ρ.length/\
  (∀(j:Nat) (s':Sl),ρ'[j]?=some s'->∃s,ρ[j]?=some s/\((s'=s/\(s.L≠none->j∉cap))\/∃(m:Nat) (ds ds0:aI),cap[m]?=some j/\ts[m]?=some (Sl.pm ds)/\s.L=some ds0/\s'=s.putL ds))
 |[],ts,ρ,ρ',h=>by cases h;exact⟨rfl,λj s' e=>⟨s',e,.inl ⟨rfl,λ_ z=>by cases z⟩⟩⟩
 |j0::cap,[],ρ,ρ',h=>by cases h
 |j0::cap,t::ts,ρ,ρ',h=>by
  unfold wN at h;cases e0:u4 ρ j0 with
  |none=>
   simp only[e0]at h;obtain⟨h1,h2⟩:=z5 h;refine⟨h1,λj s' e=>?_⟩;obtain⟨s,e1,q⟩:=h2 j s' e;refine⟨s,e1,?_⟩;rcases q with ⟨rfl,q⟩|⟨m,ds,ds0,q1,q2,q3,q4⟩
   ·refine .inl ⟨rfl,λz y=>?_⟩;rcases aT.mp y with y|y
    ·subst y;unfold u4 at e0;rw[e1]at e0;exact z e0
    ·exact q z y
   ·exact .inr ⟨m+1,ds,ds0,q1,q2,q3,q4⟩
  |some ds1=>
   simp only[e0]at h;cases t with
   |pm ds=>
    simp only at h;obtain⟨s0,e1,e2⟩:=xx e0;unfold putAt at h;rw[e1]at h;simp only at h;obtain⟨h1,h2⟩:=z5 h;refine⟨by rw[h1,d5],λj s' e=>?_⟩;obtain⟨s,e3,q⟩:=h2 j s' e;by_cases hj:j0=j
    ·subst hj;rw[bS,af rfl]at e3;split at e3
     ·cases e3;refine⟨s0,e1,.inr ?_⟩;rcases q with ⟨rfl,q⟩|⟨m,ds',ds0,q1,q2,q3,q4⟩
      ·exact⟨0,ds,ds1,rfl,rfl,e2,rfl⟩
      ·refine⟨m+1,ds',ds1,q1,q2,e2,?_⟩;rw[q4];cases s0<;>rfl
     ·cases e3
    ·rw[bS,ag hj]at e3;refine⟨s,e3,?_⟩;rcases q with ⟨rfl,q⟩|⟨m,ds',ds0,q1,q2,q3,q4⟩
     ·refine .inl ⟨rfl,λz y=>?_⟩;rcases aT.mp y with y|y
      ·exact hj y.symm
      ·exact q z y
     ·exact .inr ⟨m+1,ds',ds0,q1,q2,q3,q4⟩
   |_=>cases h
def G1(cap:List Nat)(σ:St)(ρ:aU):List Addr:=cap.filterMap λj=>match u4 ρ j,(σ[j]?).join with
 |some _,some (.ref a)=>some a
 |_,_=>none
theorem AS{cap:List Nat}:a∈G1 cap σ ρ ↔ ∃j∈cap,(∃ds,u4 ρ j=some ds)/\(σ[j]?).join=some (.ref a):=by
 unfold G1;rw[ia];constructor
 ·rintro⟨j,hj,e⟩;refine⟨j,hj,?_⟩;split at e
  ·rename_i ds a' e1 e2;cases e;exact⟨⟨ds,e1⟩,e2⟩
  ·cases e
 ·rintro⟨j,hj,⟨ds,e1⟩,e2⟩;refine⟨j,hj,?_⟩;rw[e1,e2]
variable{H1':Hp}{ft:FT}{fe:FE}
section
variable{X:Cx}{G:Bg}{F:Fr}{σ:St}{ρ:aU}{H0 H:Hp}
theorem FD{k:Nat}{cap:List Nat}{s:Sl}(h:(CA k cap ρ)[i]?=some s):s=.un\/∃m j,i=k+m/\cap[m]?=some j/\s=((ρ[j]?).getD .un).cap:=by
 unfold CA at h;by_cases hi:i<k
 ·rw[fE (by simpa using hi),i5,af hi]at h;cases h;exact .inl rfl
 ·rw[fD (by simpa using oF hi),cK,bB]at h;cases e:cap[i - k]? with
  |none=>rw[e]at h;cases h
  |some j=>rw[e]at h;cases h;exact .inr ⟨i - k,j,by omega,e,rfl⟩
theorem CB{k:Nat}{cap:List Nat}{m:Nat}(h:cap[m]?=some j):((wZ k cap σ)[k+m]?).join=(σ[j]?).join:=by unfold wZ;rw[fD (by simp),cK,show k+m - k=m by omega,bB,h];rfl
theorem tS.cap(R:tS G F σ ρ H0 H)(k:Nat)(cap:List Nat)(nd:cap.Nodup):tS G ⟨H0,H,G1 cap σ ρ⟩ (wZ k cap σ) (CA k cap ρ) H0 H where
 sub:=R.sub
 g0:=tQ.refl _
 keep:=λb o e _=>e
 fr:=λb o e=>.inl e
 am:=λa ha=>by obtain⟨j,hj,⟨ds,e1⟩,e2⟩:=AS.mp ha;obtain⟨s,e3,e4⟩:=xx e1;obtain⟨a',xs,h1,h2,_⟩:=(R.sl j s e3).lst e4;rw[e2]at h1;cases h1;exact⟨_,h2⟩
 len:=by unfold wZ CA;rw[aP,aP,cK,cK,aj,aj]
 sl:=λi s e=>by
  rcases FD e with rfl|⟨m,j,rfl,e1,rfl⟩
  ·trivial
  ·rw[CB e1];cases e2:ρ[j]? with
   |none=>trivial
   |some s=>
    have ok:=R.sl j s e2;have mem:∀{a:Addr} {ds:aI},s.L=some ds->(σ[j]?).join=some (.ref a)->a∈G1 cap σ ρ:=λh1 h2=>AS.mpr ⟨j,b8 e1,⟨_,by unfold u4;rw[e2];exact h1⟩,h2⟩;cases s with
    |un=>trivial
    |im d=>exact ok
    |ls ds=>obtain⟨a,xs,h1,h2,h3,h4,h5⟩:=ok;exact⟨a,xs,h1,h2,h3,mem rfl h1,h5⟩
    |pm ds=>obtain⟨a,xs,h1,h2,h3,h4,h5⟩:=ok;exact⟨a,xs,h1,h2,h3,mem rfl h1,h5⟩
    |dk ks ds=>trivial
    |ob c ns ds=>trivial
 ap:=λi i' s t a hii e e' so to v v'=>by
  rcases FD e with rfl|⟨m,j,rfl,e1,rfl⟩
  ·cases so
  rcases FD e' with rfl|⟨m',j',rfl,e1',rfl⟩
  ·cases to
  rw[CB e1]at v;rw[CB e1']at v';have own:∀{j:Nat},(((ρ[j]?).getD Sl.un).cap).own=true->∃s,ρ[j]?=some s/\s.own=true:=λ{j} h=>by
   cases z:ρ[j]? with
   |none=>rw[z]at h;cases h
   |some s=>rw[z]at h;refine⟨s,rfl,?_⟩;cases s<;>first|rfl|cases h
  obtain⟨s,z,zo⟩:=own so;obtain⟨s',z',zo'⟩:=own to;by_cases hj:j=j'
  ·subst hj;have:m=m':=(List.getElem?_inj (b0.mp e1).1 nd).mp (e1.trans e1'.symm);exact hii (by rw[this])
  ·exact R.ap j j' s s' a hj z z' zo zo' v v'
theorem tS.uncap(R:tS G F σ ρ H0 H){k:Nat}{cap:List Nat}{σ4:St}{ρ4:aU}(R4:tS G ⟨H0,H,G1 cap σ ρ⟩ σ4 ρ4 H1 H1')(hd:σ4.drop k=(wZ k cap σ).drop k)(hu:wN cap (ρ4.drop k) ρ=some ρ'):tS G F σ ρ' H1 H1':=by
 obtain⟨hl,hc⟩:=z5 hu;have at4:∀{m j:Nat},cap[m]?=some j->(σ4[k+m]?).join=(σ[j]?).join:=λ{m j} e=>by
  have q:(σ4.drop k)[m]?=((wZ k cap σ).drop k)[m]?:=by rw[hd]
  rw[eI,eI]at q;rw[q];exact CB e
 have nA:∀{j:Nat} {s:Sl} {a:Addr},ρ[j]?=some s->s.own=true->(σ[j]?).join=some (.ref a)->(s.L≠none->j∉cap)->a∉G1 cap σ ρ:=λ{j s a} e so z hn ha=>by
  obtain⟨i,hi,⟨ds,e1⟩,e2⟩:=AS.mp ha;obtain⟨t,e3,e4⟩:=xx e1;by_cases hij:i=j
  ·subst hij;rw[e]at e3;cases e3;exact hn (by rw[e4];simp) hi
  ·exact R.ap i j t s a hij e3 e (Sl.L_own e4) so e2 z
 have hA:∀a∈G1 cap σ ρ,F.B a=none\/a∈F.A:=λa ha=>by obtain⟨i,hi,⟨ds,e1⟩,e2⟩:=AS.mp ha;obtain⟨t,e3,e4⟩:=xx e1;obtain⟨a',u,h1,h2,h3,h4⟩:=(R.sl i t e3).at (Sl.L_own e4);rw[e2]at h1;cases h1;exact h4
 have own':∀{j:Nat} {s':Sl},ρ'[j]?=some s'->s'.own=true->∃s,ρ[j]?=some s/\s.own=true:=λ{j s'} e so=>by
  obtain⟨s,e1,q⟩:=hc j s' e;rcases q with ⟨rfl,q⟩|⟨m,ds,ds0,q1,q2,q3,q4⟩
  ·exact⟨s',e1,so⟩
  ·exact⟨s,e1,Sl.L_own q3⟩
 exact {
  sub:=R4.sub
  g0:=R.g0.trans R4.g0
  keep:=λb o e n=>by
   refine R4.keep b o (R.keep b o e n) λha=>?_;rcases hA b ha with q|q
   ·rw[q]at e;cases e
   ·exact n q
  fr:=λb o e=>by
   rcases R4.fr b o e with q|q
   ·exact R.fr b o q
   ·exact .inr (R.bNone q)
  am:=λa ha=>by
   obtain⟨o,q⟩:=R.am a ha;by_cases z:a∈G1 cap σ ρ
   ·exact R4.am a z
   ·exact⟨o,R4.keep a o q z⟩
  len:=by rw[hl];exact R.len
  sl:=λj s' e=>by
   obtain⟨s,e1,q⟩:=hc j s' e;rcases q with ⟨rfl,q⟩|⟨m,ds,ds0,q1,q2,q3,q4⟩
   ·refine(R.sl j s' e1).grow R4.g0 (λa u z so y=>R4.keep a u y (nA e1 so z q)) λa u z so y y0=>?_;cases w:H1 a with
    |none=>rfl
    |some o=>
     rcases R4.fr a o w with x|x
     ·have x':H0 a=some o:=x;rw[x']at y0;cases y0
     ·have x':H a=none:=x;rw[x']at y;cases y
   ·rw[eI]at q2;obtain⟨a,xs,h1,h2,h3,h4,h5⟩:=R4.sl _ _ q2;rw[at4 q1]at h1;have ok:=R.sl j s e1;subst q4;cases s with
    |ls ds1=>obtain⟨a',xs',g1,g2,g3,g4,g5⟩:=ok;rw[h1]at g1;cases g1;exact⟨a,xs,h1,h2,h3,g4,h5⟩
    |pm ds1=>obtain⟨a',xs',g1,g2,g3,g4,g5⟩:=ok;rw[h1]at g1;cases g1;exact⟨a,xs,h1,h2,h3,g4,h5⟩
    |_=>cases q3
  ap:=λi j s t a hij ei ej so to v v'=>by
   obtain⟨s0,z,zo⟩:=own' ei so;obtain⟨t0,y,yo⟩:=own' ej to;exact R.ap i j s0 t0 a hij z y zo yo v v' }
theorem AU{k:Nat}{cap:List Nat}{ts:aU}(h:Apart σ ρ p)(hu:wN cap ts ρ=some ρ'):Apart σ ρ' p:=λi s' e so=>by
 obtain⟨s,e1,q⟩:=(z5 hu).2 i s' e;rcases q with ⟨rfl,q⟩|⟨m,ds,ds0,q1,q2,q3,q4⟩
 ·exact h i s' e1 so
 ·exact h i s e1 (Sl.L_own q3)
inductive CI(G:Bg) (F:Fr) (σ:St) (H1:Hp) (p:Addr) (k:Nat) (cap:List Nat) (g:FG) (ft:FT) (fe:FE) (ds es:aI) (ρ':aU) (i m:Nat) (acc:bA) (H2:Hp):Prop
 |mk (ρi:aU) (Hi:Hp) (dn rest:aI):m=ds.length - i->i<=ds.length->tQ H1 Hi->tS G F σ ρi Hi H2->H2 p=some (.lst acc)->Hi p=none->Apart σ ρi p->tm G Hi dn acc->dn.length<=i->xq k cap g ft fe (ds.drop i) ρi=some (rest,ρ')->es=dn++rest->CI G F σ H1 p k cap g ft fe ds es ρ' i m acc H2
theorem Jb{k:Nat}{cap:List Nat}{s:FA}{g:FG}(nd:cap.Nodup):∀σ H Q,tFN G (tN k cap s g ft fe) σ H Q->D5 (tFI G s) (tFG G k g) (tFT G ft) (tF G fe) k cap σ H Q:=λσ H Q hh=>by
 obtain⟨F,ρ,H0,es,ρ',R,e,kk⟩:=hh;unfold tN at e;rcases ud (f:=s) (ρ:=ρ)with e1|⟨ds,ρ1,e1⟩<;>simp only[e1]at e
 ·cases e
 ·split at e
  ·rename_i hlen;refine⟨F,ρ,H0,ds,ρ1,R,e1,λJ H1 H1' s1 R1 wk p hp=>?_⟩;refine⟨CI G F σ H1 p k cap g ft fe ds es ρ',
    ⟨_,ρ1,H1,[],es,rfl,cf _,tQ.refl _,R1.newOwn hp _,tG,R1.h0none hp,R1.apart hp,uq,aJ _,e,rfl⟩,?_⟩
   rintro i m acc H2 ⟨ρi,Hi,dn,rest,rfl,hi,si,Ri,hp2,hp0,apt,rs,hdn,ei,rfl⟩;by_cases hlt:i<ds.length
   ·have ed:ds.drop i=ds[i]::ds.drop (i+1):=j2 hlt;rw[ed]at ei;unfold xq at ei;obtain⟨go,yl⟩:=(wk i Hi H2 si Ri.sub).1 ds[i] (aZ hlt);refine .inr ⟨go,λx H3 y=>?_⟩;obtain⟨Hj,t1,t2,t3,t4,t5⟩:=yl x H3 y;have R2:=Ri.grow t3 t1 t2 t4;have hp3:H3 p=some (.lst acc):=t3 _ _ hp2;have hpj:Hj p=none:=by
     cases w:Hj p with
     |none=>rfl
     |some o=>
      rcases t4 p o w with z|z
      ·rw[hp0]at z;cases z
      ·rw[hp2]at z;cases z
    have RC:=R2.cap k cap nd;have npA:p∉G1 cap σ ρi:=λz=>by obtain⟨j,_,⟨ds',q1⟩,q2⟩:=AS.mp z;obtain⟨t,q3,q4⟩:=xx q1;exact apt j t q3 (Sl.L_own q4) q2
    cases e2:g ds[i] (CA k cap ρi)with
    |none=>simp only[e2]at ei;cases ei
    |some ρ2=>
     simp only[e2]at ei;refine⟨_,_,Hj,ds[i],ρ2,RC,t5,e2,λσ4 hd4 R4=>⟨hd4,?_⟩⟩;rcases ud (f:=ft) (ρ:=ρ2)with e3|⟨b,ρ3,e3⟩
     ·simp only[e3]at ei;cases ei
     ·refine⟨_,ρ2,Hj,b,ρ3,R4,e3,λH5 H5' s5 R5=>?_⟩;have keepP:∀{σ':St} {ρ'':aU} {Ha Ha':Hp},tS G ⟨Hj,H3,G1 cap σ ρi⟩ σ' ρ'' Ha Ha'->Ha' p=some (.lst acc)/\Ha p=none:=λRz=>by
       refine⟨Rz.keep p _ hp3 npA,?_⟩;refine Option.eq_none_iff_forall_ne_some.mpr λo w2=>?_;rcases Rz.fr p o w2 with z|z
       ·have z':Hj p=some o:=z;rw[hpj]at z';cases z'
       ·have z':H3 p=none:=z;rw[hp3]at z';cases z'
      cases b with
      |false=>
       simp only[e3]at ei;refine IY ?_;cases e4:wN cap (ρ3.drop k) ρi with
       |none=>simp only[e4]at ei;cases ei
       |some ρn=>simp only[e4]at ei;obtain⟨w1,w2⟩:=keepP R5;exact⟨ds.length - (i+1),by omega,ρn,H5,dn,rest,rfl,hlt,si.trans (t1.trans s5),R2.uncap R5 hd4 e4,w1,w2,AU (k:=k) apt e4,tm.mono (t1.trans s5) _ _ rs,by omega,ei,rfl⟩
      |true=>
       simp only[e3]at ei;refine IZ ?_;rcases ud (f:=fe) (ρ:=ρ3)with e5|⟨x5,ρ5,e5⟩
       ·simp only[e5]at ei;cases ei
       ·simp only[e5]at ei;refine⟨_,ρ3,H5,x5,ρ5,R5,e5,λv H6 H6' s6 R6 rv=>?_⟩;obtain⟨w1,w2⟩:=keepP R6;cases e4:wN cap (ρ5.drop k) ρi with
        |none=>simp only[e4]at ei;cases ei
        |some ρn=>
         simp only[e4]at ei;cases e6:xq k cap g ft fe (ds.drop (i+1)) ρn with
         |none=>simp only[e6]at ei;cases ei
         |some q=>
          obtain⟨rest',ρz⟩:=q;simp only[e6]at ei;cases ei;have Rn:=R2.uncap R6 hd4 e4;have lacc:acc.length=dn.length:=(tu rs).symm;refine⟨acc,w1,Bo (by omega),ds.length - (i+1),by omega,ρn,H6,dn++[x5],rest',rfl,hlt,si.trans (t1.trans (s5.trans s6)),?_,tG,w2,AU (k:=k) apt e4,vp (tm.mono (t1.trans (s5.trans s6)) _ _ rs) (ur rv uq),by rw[aP,cB];omega,e6,by rw[b9];rfl⟩;exact {
           sub:=λb o e=>by rw[tK (λz=>by rw[z,w2]at e;cases e)];exact Rn.sub b o e
           g0:=Rn.g0
           keep:=λb o e n=>by rw[tK (λz=>by subst z;rw[R1.bNone hp]at e;cases e)];exact Rn.keep b o e n
           fr:=Rn.fr
           am:=λb hb=>by
            by_cases z:b=p
            ·subst z;exact⟨_,tG⟩
            ·rw[tK z];exact Rn.am b hb
           len:=Rn.len
           sl:=λj t ej=>(Rn.sl j t ej).grow (tQ.refl _) (λb u z to q=>by rw[tK (λy=>AU (k:=k) apt e4 j t ej to (by rw[z,y]))];exact q) λb u _ _ _ q=>q
           ap:=Rn.ap }
   ·have ez:ds.drop i=[]:=mX (by omega);rw[ez]at ei;unfold xq at ei;cases ei;rw[bG]at kk;exact .inl ⟨(wk i Hi H2 si Ri.sub).2 (by omega),kk p acc Hi H2 (s1.trans si) Ri hp2 hp0 (R1.bNone hp) apt rs⟩
  ·cases e
theorem PU{k:Nat}{cap:List Nat}{s:FA}{g:FG}(nd:cap.Nodup)(h:PE X e (D5 (tFI G s) (tFG G k g) (tFT G ft) (tF G fe) k cap)):PE X e (tFN G (tN k cap s g ft fe)):=PE.weak h (Jb nd)
theorem PV:PIf X [] (tFT G uF):=λpins s σ H Q I h=>by obtain⟨F,ρ,H0,b,ρ',R,e,k⟩:=h;cases e;exact SE pins s σ H Q I (k _ _ (tQ.refl _) R)
end
def vS:D->Bool
 |.non=>true|.bl _=>true|.int _=>true|.str _=>true|_=>false
def vD:D->V
 |.non=>.non|.bl b=>.bl b|.int i=>.int i|.str x=>.str x|_=>.non
variable{r':R2}{g':D->D->Option D}{neg:Bool}{r:bA->Hp->VK->Prop}
section
variable{X:Cx}{G:Bg}{H:Hp}
theorem xO{v:V}(h:Rep G H d v)(f:vS d=true):v=vD d:=by cases d<;>first|(unfold Rep at h;exact h)|cases f
theorem CC(f:vS d=true):∀H,Rep G H d (vD d):=λH=>by cases d<;>first|(unfold Rep;rfl)|cases f
theorem DD:∀{ds:aI} {xs:bA},tm G H ds xs->ds.all vS=true->xs=ds.map vD
 |[],xs,h,f=>by unfold tm at h;exact h
 |d::ds,xs,h,f=>by unfold tm at h;obtain⟨v,r,rfl,h1,h2⟩:=h;rw[cy,aS]at f;rw[aK,xO h1 f.1,DD h2 f.2]
theorem Kh(f:vS d=true):BC (vD d)=true:=by cases d<;>first|rfl|cases f
theorem HE:∀{ds:aI},ds.all vS=true->(ds.map vD).all BC=true
 |[],_=>rfl
 |d::ds,f=>by rw[cy,aS]at f;rw[aK,cy,Kh f.1,HE f.2];rfl
theorem OpR.or{f:aa->aa->Sem aa}{r:R2}(h:OpR X f r)(h':OpR X f r'):OpR X f (λx y H Q=>r x y H Q\/r' x y H Q):=λpins s σ H x y v u Q I rx ry q=>q.elim (h pins s σ H x y v u Q I rx ry) (h' pins s σ H x y v u Q I rx ry)
theorem OpD.or{r:R2}{g:D->D->Option D}(h:OpD G r g)(h':OpD G r' g'):OpD G (λx y H Q=>r x y H Q\/r' x y H Q) (λx y=>match g x y with|some z=>some z|none=>g' x y):=λx y z H0 H v u Q e s rx ry k=>by
 cases e1:g x y with
 |some w=>simp only[e1]at e;cases e;exact .inl (h x y _ H0 H v u Q e1 s rx ry k)
 |none=>simp only[e1]at e;exact .inr (h' x y z H0 H v u Q e s rx ry k)
def dI(C:Int->Int->Bool)(g:Int->Int->D):D->D->Option D
 |.int a,.int b=>if C a b=true then some (g a b)else none
 |_,_=>none
theorem MM{C:Int->Int->Bool}{C':Int->Int->Prop}{g:Int->Int->D}{g':Int->Int->V}(hC:∀a b,C a b=true->C' a b)(hf:∀a b,vS (g a b)=true/\vD (g a b)=g' a b):OpD G (rI C' g') (dI C g):=λx y z H0 H v u Q e s rx ry k=>by
 unfold dI at e;split at e
 ·rename_i a b;split at e
  ·rename_i hc;cases e;unfold Rep at rx ry;exact⟨a,b,rx,ry,hC _ _ hc,by rw[<-(hf a b).2];exact k _ λH0' _=>CC (hf a b).1 H0'⟩
  ·cases e
 ·cases e
theorem FH{g:Int->Int->D}{g':Int->Int->V}(hf:∀a b,vS (g a b)=true/\vD (g a b)=g' a b):OpD G (rI0 g') (dI (λ_ _=>true) g):=λx y z H0 H v u Q e s rx ry k=>by
 unfold dI at e;split at e
 ·rename_i a b;split at e
  ·cases e;unfold Rep at rx ry;exact⟨a,b,rx,ry,by rw[<-(hf a b).2];exact k _ λH0' _=>CC (hf a b).1 H0'⟩
  ·cases e
 ·cases e
def vT:=dI (λ_ _=>true) λa b=>.int (a+b)
def z6(a:Int):Bool:=decide (-(2 ^ 64)<a)&&decide (a<2 ^ 64)
def ya:=dI (λa b=>z6 a||z6 b) λa b=>.int (a * b)
def wx:=dI (λ_ b=>decide (0<b)) λa b=>.int (a % b)
def BE:=dI (λ_ b=>decide (0<b)&&decide (b<1073741824)) λa b=>.int (a / b)
def PX:=dI (λa b=>decide (0<=b)&&decide (b<=1000000)&&decide (a.natAbs<2 ^ 64)) λa b=>.int (a ^ b.toNat)
def Tp:=dI (λ_ _=>true) λa b=>.bl (decide (a<b))
def zz:=dI (λ_ _=>true) λa b=>.bl (decide (a<=b))
def PY:=dI (λ_ _=>true) λa b=>.bl (decide (b<a))
def Wq:=dI (λ_ _=>true) λa b=>.bl (decide (b<=a))
theorem Wr:OpD G (rI0 λi j=>.int (i+j)) vT:=FH λ_ _=>⟨rfl,rfl⟩
theorem Ws:OpD G (rI Sg λi j=>.int (i * j)) ya:=MM (λa b h=>by
 unfold z6 at h;simp only[jq,aS,bJ]at h;exact h) λ_ _=>⟨rfl,rfl⟩
theorem Wt:OpD G (rI (λ_ j=>0<j) λi j=>.int (i % j)) wx:=MM (λa b h=>by simpa using h) λ_ _=>⟨rfl,rfl⟩
theorem Wu:OpD G (rI VL λi j=>.int (i / j)) BE:=MM (λa b h=>by unfold VL;simpa using h) λ_ _=>⟨rfl,rfl⟩
theorem Wv:OpD G (rI Zr λi j=>.int (i ^ j.toNat)) PX:=MM (λa b h=>by
 simp only[aS,bJ]at h;exact⟨h.1.1,h.1.2,h.2⟩) λ_ _=>⟨rfl,rfl⟩
theorem Z9:OpD G (rI0 λi j=>.bl (decide (i<j))) Tp:=FH λ_ _=>⟨rfl,rfl⟩
theorem aaa:OpD G (rI0 λi j=>.bl (decide (i<=j))) zz:=FH λ_ _=>⟨rfl,rfl⟩
theorem aab:OpD G (rI0 λi j=>.bl (decide (j<i))) PY:=FH λ_ _=>⟨rfl,rfl⟩
theorem aac:OpD G (rI0 λi j=>.bl (decide (j<=i))) Wq:=FH λ_ _=>⟨rfl,rfl⟩
def abf:D->D->Option D
 |.str a,.str b=>if a.length+b.length<=100000 then some (.str (a++b))else none
 |_,_=>none
theorem Ki{n:Nat}(h:n<=100000):n<=aG:=bN h (by rw[bO];decide)
def PZ:D->D->Option D
 |.str a,.str b=>some (.bl (!decide (b.cps.toList<a.cps.toList)))
 |_,_=>none
theorem Ww:OpD G (λx y H Q=>∃i j,x=.str i/\y=.str j/\Q (.bl (!decide (j.cps.toList<i.cps.toList))) H) PZ:=λx y z H0 H v u Q e s rx ry k=>by
 unfold PZ at e;split at e
 ·rename_i a b;cases e;unfold Rep at rx ry;exact⟨a,b,rx,ry,k _ λ_ _=>vR _⟩
 ·cases e
def w6:D->D->Option D
 |.non,.non=>some (.bl true)
 |_,.non=>some (.bl false)
 |_,_=>none
def uV:D->D->Option D
 |.non,.non=>some (.bl false)
 |_,.non=>some (.bl true)
 |_,_=>none
theorem MN{v:V}(h:Rep G H d v):decide (v=.non)=(match d with|.non=>true|_=>false):=by
 cases d<;>unfold Rep at h
 ·subst h;rfl
 ·subst h;rfl
 ·subst h;rfl
 ·subst h;rfl
 ·obtain⟨a,xs,rfl,_⟩:=h;rfl
 ·obtain⟨a,xs,rfl,_⟩:=h;rfl
 ·obtain⟨a,xs,rfl,_⟩:=h;rfl
 ·obtain⟨a,dx,xs,rfl,_⟩:=h;rfl
 ·obtain⟨a,ob,xs,rfl,_⟩:=h;rfl
theorem Wx:OpD G (λx y H Q=>y=.non/\Q (.bl (decide (x=.non))) H) w6:=λx y z H0 H v u Q e s rx ry k=>by
 have e0:=MN rx;cases y<;>first|(cases x<;>cases e)|skip
 all_goals (unfold Rep at ry;refine⟨ry,?_⟩;rw[e0];exact k _ λ_ _=>vR _)
theorem Tq:OpD G (λx y H Q=>y=.non/\Q (.bl (!decide (x=.non))) H) uV:=λx y z H0 H v u Q e s rx ry k=>by
 have e0:=MN rx;cases y<;>first|(cases x<;>cases e)|skip
 all_goals (unfold Rep at ry;refine⟨ry,?_⟩;rw[e0];exact k _ λ_ _=>vR _)
def aaV:D->D->Option D
 |.bl a,.bl b=>some (.bl (a != b))
 |_,_=>none
mutual
def toD:D->Option L3.Dq
 |.non=>some .non
 |.bl b=>some (.bl b)
 |.int i=>some (.int i)
 |.str x=>some (.str x)
 |.tup ds=>match y9 ds with
  |some l=>some (.tup l)
  |none=>none
 |.lst ds=>match y9 ds with
  |some l=>some (.lst l)
  |none=>none
 |.fzl _=>none
 |.obj _ _ _=>none
 |.dic _ _=>none
def y9:aI->Option (List L3.Dq)
 |[]=>some []
 |d::ds=>match toD d with
  |some x=>match y9 ds with
   |some l=>some (x::l)
   |none=>none
  |none=>none
end
mutual
theorem EZ:∀(d:D) (v:V) (x:L3.Dq),Rep G H d v->toD d=some x->L3.Rep G.K H x v
 |.non,v,x,h,e=>by unfold toD at e;cases e;unfold Rep at h;unfold L3.Rep;exact h
 |.bl b,v,x,h,e=>by unfold toD at e;cases e;unfold Rep at h;unfold L3.Rep;exact h
 |.int b,v,x,h,e=>by unfold toD at e;cases e;unfold Rep at h;unfold L3.Rep;exact h
 |.str b,v,x,h,e=>by unfold toD at e;cases e;unfold Rep at h;unfold L3.Rep;exact h
 |.tup ds,v,x,h,e=>by
  unfold toD at e;cases e1:y9 ds with
  |none=>simp only[e1]at e;cases e
  |some l=>simp only[e1]at e;cases e;unfold Rep at h;obtain⟨a,xs,rfl,h1,h2⟩:=h;unfold L3.Rep;exact⟨a,xs,rfl,h1,CD ds xs l h2 e1⟩
 |.lst ds,v,x,h,e=>by
  unfold toD at e;cases e1:y9 ds with
  |none=>simp only[e1]at e;cases e
  |some l=>simp only[e1]at e;cases e;unfold Rep at h;obtain⟨a,xs,rfl,h1,h2⟩:=h;unfold L3.Rep;exact⟨a,xs,rfl,SqL.of h1,CD ds xs l h2 e1⟩
 |.fzl _,v,x,h,e=>by unfold toD at e;cases e
 |.obj _ _ _,v,x,h,e=>by unfold toD at e;cases e
 |.dic _ _,v,x,h,e=>by unfold toD at e;cases e
theorem CD:∀(ds:aI) (xs:bA) (l:List L3.Dq),tm G H ds xs->y9 ds=some l->L3.tm G.K H l xs
 |[],xs,l,h,e=>by unfold y9 at e;cases e;unfold tm at h;unfold L3.tm;exact h
 |d::ds,xs,l,h,e=>by
  unfold y9 at e;cases e1:toD d with
  |none=>simp only[e1]at e;cases e
  |some x=>
   simp only[e1]at e;cases e2:y9 ds with
   |none=>simp only[e2]at e;cases e
   |some l'=>simp only[e2]at e;cases e;unfold tm at h;obtain⟨v,r,rfl,h1,h2⟩:=h;unfold L3.tm;exact⟨v,r,rfl,EZ d v x h1 e1,CD ds r l' h2 e2⟩
end
def Jc(neg:Bool):D->D->Option D:=λx y=>match vS x&&vS y&&O5 (vD x) (vD y)with
 |true=>some (.bl (if neg then !decide (vD x=vD y)else decide (vD x=vD y)))
 |false=>none
def P1(neg:Bool):D->D->Option D:=λx y=>match toD x,toD y with
 |some a,some b=>if Pr a b&&decide (dpt a<=20)&&decide (dpt b<=20)then some (.bl (if neg then !eqD a b else eqD a b))else none
 |_,_=>none
def dEq(neg:Bool):D->D->Option D:=λx y=>match Jc neg x y with
 |some z=>some z
 |none=>P1 neg x y
theorem WA:OpD G rEq (Jc false):=λx y z H0 H v u Q e s rx ry k=>by
 unfold Jc at e;cases e1:vS x&&vS y&&O5 (vD x) (vD y)with
 |false=>simp only[e1]at e;cases e
 |true=>simp only[e1]at e;cases e;simp only[aS]at e1;rw[xO rx e1.1.1,xO ry e1.1.2];exact⟨e1.2,k _ λ_ _=>vR _⟩
theorem WB:OpD G rNe (Jc true):=λx y z H0 H v u Q e s rx ry k=>by
 unfold Jc at e;cases e1:vS x&&vS y&&O5 (vD x) (vD y)with
 |false=>simp only[e1]at e;cases e
 |true=>simp only[e1]at e;cases e;simp only[aS]at e1;rw[xO rx e1.1.1,xO ry e1.1.2];exact⟨e1.2,k _ λ_ _=>vR _⟩
theorem P2:OpD G (Lr G.K neg) (P1 neg):=λx y z H0 H v u Q e s rx ry k=>by
 unfold P1 at e;cases e1:toD x with
 |none=>simp only[e1]at e;cases e
 |some a=>
  cases e2:toD y with
  |none=>simp only[e1,e2]at e;cases e
  |some b=>
   simp only[e1,e2]at e;split at e
   ·rename_i hc;cases e;simp only[aS,bJ]at hc;exact⟨a,b,EZ x v a (Rep.mono s _ _ rx) e1,EZ y u b (Rep.mono s _ _ ry) e2,hc.1.1,hc.1.2,hc.2,k _ λ_ _=>vR _⟩
   ·cases e
theorem WC(hu:X.A.units+64<cLine)(hK:X.K=G.K:=by rfl):OpR X (bq .Eq) (λx y H Q=>rEq x y H Q\/Lr G.K false x y H Q):=by rw[<-hK];exact OpR.or Zs (Wa hu)
theorem WE(hu:X.A.units+64<cLine)(hK:X.K=G.K:=by rfl):OpR X (bq .NotEq) (λx y H Q=>rNe x y H Q\/Lr G.K true x y H Q):=by rw[<-hK];exact OpR.or Zt (Wb hu)
theorem aad:OpD G (λx y H Q=>rEq x y H Q\/Lr G.K false x y H Q) (dEq false):=OpD.or WA P2
theorem aae:OpD G (λx y H Q=>rNe x y H Q\/Lr G.K true x y H Q) (dEq true):=OpD.or WB P2
def P3:D->Option aI
 |.tup ds=>some ds
 |.lst ds=>some ds
 |.fzl ds=>some ds
 |_=>none
theorem MO{v:V}(h:Rep G H d v)(e:P3 d=some ds):∃p xs,v=.ref p/\(SqL G.K H p xs\/SqT G.K H p xs)/\tm G H ds xs:=by
 cases d with
 |tup l=>cases e;unfold Rep at h;obtain⟨a,xs,rfl,h1,h2⟩:=h;exact⟨a,xs,rfl,.inr h1,h2⟩
 |lst l=>cases e;unfold Rep at h;obtain⟨a,xs,rfl,h1,h2⟩:=h;exact⟨a,xs,rfl,.inl (SqL.of h1),h2⟩
 |fzl l=>cases e;unfold Rep at h;obtain⟨a,xs,rfl,h1,h2⟩:=h;exact⟨a,xs,rfl,.inl h1,h2⟩
 |_=>cases e
def dIn(neg:Bool):D->D->Option D:=λx y=>match P3 y with
 |some ds=>if vS x&&ds.all vS then some (.bl (if neg then !inV (vD x) (ds.map vD)else inV (vD x) (ds.map vD)))else none
 |none=>none
theorem MP{K:au}{H:Hp}(s:tQ H H')(h:SqL K H p xs\/SqT K H p xs):SqL K H' p xs\/SqT K H' p xs:=h.imp s.seq (SqT.mono s)
theorem UZ:OpD G (rIn G.K neg) (dIn neg):=λx y z H0 H v u Q e s rx ry k=>by
 unfold dIn at e;cases e1:P3 y with
 |none=>simp only[e1]at e;cases e
 |some ds=>
  simp only[e1]at e;split at e
  ·rename_i hc;cases e;simp only[aS]at hc;obtain⟨p,xs,rfl,h1,h2⟩:=MO ry e1;refine⟨p,xs,rfl,MP s h1,?_,?_,?_⟩
   ·rw[xO rx hc.1];exact Kh hc.1
   ·rw[DD h2 hc.2];exact HE hc.2
   ·rw[xO rx hc.1,DD h2 hc.2];exact k _ λ_ _=>vR _
  ·cases e
theorem WG(hK:X.K=G.K:=by rfl):OpR X (bq .In) (rIn G.K false):=by rw[<-hK];exact NY
theorem Of(hK:X.K=G.K:=by rfl):OpR X (bq .NotIn) (rIn G.K true):=by rw[<-hK];exact IQ
def dIx:D->D->Option D
 |.tup ds,.int i=>atI ds i
 |.lst ds,.int i=>atI ds i
 |.fzl ds,.int i=>atI ds i
 |.str x,.int i=>if x.length<=100000 then (atI x.cps.toList i).map λc=>.str ⟨#[c]⟩else none
 |_,_=>none
theorem aaf:OpD G (rIx G.K) dIx:=λx y z H0 H v u Q e s rx ry k=>by
 cases y with
 |int i=>
  unfold Rep at ry;subst ry;cases x with
  |tup ds=>unfold Rep at rx;obtain⟨a,xs,rfl,h1,h2⟩:=rx;obtain⟨w,w1,w2⟩:=Cw h2 (show atI ds i=some z from e);exact .inr (.inl ⟨a,xs,i,w,rfl,rfl,SqT.mono s h1,w1,k _ λH0' s'=>Rep.mono s' _ _ w2⟩)
  |lst ds=>unfold Rep at rx;obtain⟨a,xs,rfl,h1,h2⟩:=rx;obtain⟨w,w1,w2⟩:=Cw h2 (show atI ds i=some z from e);exact .inl ⟨a,xs,i,w,rfl,rfl,s.seq (SqL.of h1),w1,k _ λH0' s'=>Rep.mono s' _ _ w2⟩
  |fzl ds=>unfold Rep at rx;obtain⟨a,xs,rfl,h1,h2⟩:=rx;obtain⟨w,w1,w2⟩:=Cw h2 (show atI ds i=some z from e);exact .inl ⟨a,xs,i,w,rfl,rfl,s.seq h1,w1,k _ λH0' s'=>Rep.mono s' _ _ w2⟩
  |str t=>
   unfold Rep at rx;subst rx;unfold dIx at e;simp only at e;split at e
   ·rename_i hl;cases e1:atI t.cps.toList i with
    |none=>rw[e1]at e;cases e
    |some c=>rw[e1]at e;cases e;exact .inr (.inr ⟨t,i,c,rfl,rfl,Ki hl,e1,k _ λ_ _=>zZ _⟩)
   ·cases e
  |_=>cases e
 |_=>cases x<;>cases e
theorem ix_X(hK:X.K=G.K:=by rfl):IxR X (rIx G.K):=by rw[<-hK];exact V0
def HF(G:Bg)(r:bA->Hp->VK->Prop)(g:D->Option D):Prop:=∀x z H0 H v (Q:VK),g x=some z->tQ H0 H->Rep G H0 x v->(∀w,(∀H0',tQ H0 H0'->Rep G H0' z w)->Q w H)->r [v] H Q
theorem U0{g:D->Option D}(hr:HF G r g)(h:PE X e (tCB r (tFA G (aCons f ui)))):PE X e (tF G (c1 g f)):=PE.weak h λσ H Q hh=>by
 sleep 1
 obtain⟨x,e1,e2⟩:=EX e;refine⟨F,ρ,H0,[x],ρ',R,by unfold aCons;rw[e1];rfl,λys H1 H1' s R' rs=>?_⟩;unfold tm at rs;obtain⟨v,r0,rfl,rv,rn⟩:=rs;unfold tm at rn;subst rn;exact hr x d H1 H1' v Q e2 R'.sub rv λw hw=>k _ _ _ s R' (hw _ (tQ.refl _))
theorem ve.or{f:aa}{r':bA->Hp->VK->Prop}(h:ve X f r)(h':ve X f r'):ve X f (λx H Q=>r x H Q\/r' x H Q):=λpins s σ H xs us Q I rv q=>q.elim (h pins s σ H xs us Q I rv) (h' pins s σ H xs us Q I rv)
def vN:D->Option D
 |.tup ds=>some (.int ds.length)
 |.lst ds=>some (.int ds.length)
 |.fzl ds=>some (.int ds.length)
 |.str x=>if x.length<=100000 then some (.int x.length)else none
 |.dic ks ds=>some (.int ks.length)
 |_=>none
theorem Og:ve X (.builtin "len") (λxs H Q=>∃a kvs,xs=[V.ref a]/\Rd H a (.dK kvs)/\Q (.int kvs.length) H):=by intro pins s σ H xs us Q I r h;obtain⟨a,kvs,rfl,ha,q⟩:=h;obtain⟨u,rfl,ru⟩:=vals1 r;cases ru;exact ZR I ha λt s' I'=>⟨.int kvs.length,H,I',⟨t,rfl⟩,q⟩
def U1(K:au):bA->Hp->VK->Prop:=λxs H Q=>(∃p ys,xs=[.ref p]/\(SqL K H p ys\/SqT K H p ys)/\Q (.int ys.length) H)\/((∃z,xs=[.str z]/\z.length<=aG/\Q (.int z.length) H)\/(∃a kvs,xs=[V.ref a]/\Rd H a (.dK kvs)/\Q (.int kvs.length) H))
theorem Oh(hK:X.K=G.K:=by rfl):ve X (.builtin "len") (U1 G.K):=by rw[<-hK];exact ve.or IR (ve.or IS Og)
theorem WH:HF G (U1 G.K) vN:=λx z H0 H v Q e s rx k=>by
 cases x with
 |tup ds=>cases e;unfold Rep at rx;obtain⟨a,xs,rfl,h1,h2⟩:=rx;refine .inl ⟨a,xs,rfl,.inr (SqT.mono s h1),?_⟩;rw[<-tu h2];exact k _ λ_ _=>vz _
 |lst ds=>cases e;unfold Rep at rx;obtain⟨a,xs,rfl,h1,h2⟩:=rx;refine .inl ⟨a,xs,rfl,.inl (s.seq (SqL.of h1)),?_⟩;rw[<-tu h2];exact k _ λ_ _=>vz _
 |fzl ds=>cases e;unfold Rep at rx;obtain⟨a,xs,rfl,h1,h2⟩:=rx;refine .inl ⟨a,xs,rfl,.inl (s.seq h1),?_⟩;rw[<-tu h2];exact k _ λ_ _=>vz _
 |str t=>
  unfold vN at e;simp only at e;split at e
  ·rename_i hl;cases e;unfold Rep at rx;exact .inr (.inl ⟨t,by rw[rx],Ki hl,k _ λ_ _=>vz _⟩)
  ·cases e
 |dic ks ds=>cases e;unfold Rep at rx;obtain⟨a,o,xs,rfl,h1,h2,h3⟩:=rx;refine .inr (.inr ⟨a,_,rfl,.inr ⟨o,s _ _ h1⟩,?_⟩);rw[gv,<- h2,gE];exact k _ λ_ _=>vz _
 |_=>cases e
def Tr:D->Option D
 |.int i=>some (.int i)
 |.bl b=>some (.int (if b then 1 else 0))
 |_=>none
theorem WI:HF G (λxs H Q=>(∃i,xs=[.int i]/\Q (.int i) H)\/∃k,xs=[.bl k]/\Q (.int (if k then 1 else 0)) H) Tr:=λx z H0 H v Q e s rx k=>by
 cases x with
 |int i=>cases e;unfold Rep at rx;subst rx;exact .inl ⟨i,rfl,k _ λ_ _=>vz _⟩
 |bl b=>cases e;unfold Rep at rx;subst rx;exact .inr ⟨b,rfl,k _ λ_ _=>vz _⟩
 |_=>cases e
def G2:aI->Option (List Bool)
 |[]=>some []
 |.bl b::r=>(G2 r).map (b::·)
 |_=>none
theorem FI:∀{ds:aI} {xs:bA} {bs:List Bool},tm G H ds xs->G2 ds=some bs->xs=bs.map V.bl
 |[],xs,bs,h,e=>by cases e;unfold tm at h;exact h
 |.bl b::r,xs,bs,h,e=>by
  unfold tm at h;obtain⟨v,q,rfl,h1,h2⟩:=h;unfold G2 at e;cases e1:G2 r with
  |none=>rw[e1]at e;cases e
  |some l=>rw[e1]at e;cases e;unfold Rep at h1;subst h1;rw[FI h2 e1];rfl
 |.non::r,xs,bs,h,e=>by cases e
 |.int _::r,xs,bs,h,e=>by cases e
 |.str _::r,xs,bs,h,e=>by cases e
 |.tup _::r,xs,bs,h,e=>by cases e
 |.lst _::r,xs,bs,h,e=>by cases e
 |.fzl _::r,xs,bs,h,e=>by cases e
 |.obj _ _ _::r,xs,bs,h,e=>by cases e
 |.dic _ _::r,xs,bs,h,e=>by cases e
def yL:D->Option D
 |.lst ds=>(G2 ds).map λbs=>.bl (bs.all id)
 |_=>none
theorem WJ:HF G (λxs H Q=>∃(p:Addr) (bs:List Bool),xs=[.ref p]/\SqL G.K H p (bs.map V.bl)/\Q (.bl (bs.all id)) H) yL:=λx z H0 H v Q e s rx k=>by
 cases x with
 |lst ds=>
  unfold yL at e;simp only at e;cases e1:G2 ds with
  |none=>rw[e1]at e;cases e
  |some bs=>rw[e1]at e;cases e;unfold Rep at rx;obtain⟨a,xs,rfl,h1,h2⟩:=rx;rw[FI h2 e1]at h1;exact⟨a,bs,rfl,s.seq (SqL.of h1),k _ λ_ _=>vR _⟩
 |_=>cases e
theorem Oi(hc:X.calm=true)(hK:X.K=G.K:=by rfl):ve X (.builtin "all") (λxs H Q=>∃(p:Addr) (bs:List Bool),xs=[.ref p]/\SqL G.K H p (bs.map V.bl)/\Q (.bl (bs.all id)) H):=by rw[<-hK];exact Pp hc
inductive Ty where
 |b (n:String)|c (k:Nat)
def Ty.val(G:Bg):Ty->aa
 |.b n=>.type n
 |.c k=>.ref (G.ca k)
def Ty.v(G:Bg):Ty->V
 |.b n=>.ty n
 |.c k=>.ref (G.ca k)
def tyD:D->Ty
 |.non=>.b "NoneType" |.bl _=>.b "bool" |.int _=>.b "int" |.str _=>.b "str" |.tup _=>.b "tuple" |.lst _=>.b "list" |.fzl _=>.b "list" |.dic _ _=>.b "dict" |.obj c _ _=>.c c
structure Oj(K:au)(C:Addr):Prop where
 cl:Cls K C
 ha:cX K (.ref C) "__class__" = some (some (.builtin "object.__class__"))
 hn:pT K (.builtin "object.__class__") "__get__" = some (some (.builtin "getset_descriptor.__get__"))
 htk:W.takesIn K (.builtin "object.__class__")=some true
 hm:W.mroIn K C (.type "object")=some true
theorem P4{pins:cp}{s:ae}{A:aC}{E:aa->ae->Prop}{Q:aa->ae->Prop}{c:aa}{b:Bool}{v:V}{u:aa}(I:Inv X pins σ H s)(hK:X.K=G.K)(hd:Rep G H d v)(rv:RelV v u)(hc:∀k ns ds,d=.obj k ns ds->Oj X.K (G.ca k))
  (e:cY X.K ((tyD d).val G) c=some b) (h:∀tk,Q (.bool b) { s with toks:=tk }):ai (model X.prog X.w) A (call (.builtin "isinstance") [u,c]) Q E s:=by
 cases d with
 |non=>unfold Rep at hd;subst hd;exact yf I rv .non e h
 |bl x=>unfold Rep at hd;subst hd;exact yf I rv (.bl x) e h
 |int x=>unfold Rep at hd;subst hd;exact yf I rv (.int x) e h
 |str x=>unfold Rep at hd;subst hd;exact yf I rv (.str x) e h
 |tup ds=>unfold Rep at hd;obtain⟨a,xs,rfl,h1,h2⟩:=hd;cases rv;rw[<-hK]at h1;obtain⟨its,_,p,_⟩:=I.tuple h1;obtain⟨o,q1,q2,_⟩:=p;exact cH pH I.kIn ⟨o,q1,q2⟩ e (λz=>nomatch z) h
 |lst ds=>unfold Rep at hd;obtain⟨a,xs,rfl,h1,h2⟩:=hd;exact yf I rv (.lst h1) e h
 |fzl ds=>unfold Rep at hd;obtain⟨a,xs,rfl,h1,h2⟩:=hd;cases rv;rw[<-hK]at h1;obtain⟨its,_,p,_⟩:=I.list h1;obtain⟨o,n,q1,q2,_⟩:=p;exact cH lE I.kIn ⟨o,q1,q2⟩ e (λz=>nomatch z) h
 |dic ks ds=>unfold Rep at hd;obtain⟨a,o,xs,rfl,h1,h2,h3⟩:=hd;cases rv;obtain⟨q0,_,_,vs,_,ob,es,ep,q1,q2,_⟩:=(show uT X.prog X.w H s.heap a (.frz o (.dK (ks.zip xs))) from I.hok a _ h1);exact cH lF I.kIn ⟨ob,q1,q2.1⟩ e (λz=>nomatch z) h
 |obj k ns ds=>have ci:=hc k ns ds rfl;unfold Rep at hd;obtain⟨a,dx,xs,rfl,h1,h2,h3⟩:=hd;exact yf I rv (.ins h1 ci.cl ci.ha ci.hn ci.htk ci.hm) e h
def wy(t:Ty->Option Bool):D->Option D:=λd=>(t (tyD d)).map .bl
theorem HG(c:Ty){t:Ty->Option Bool}(ht:∀y b,t y=some b->cY X.K (y.val G) (c.val G)=some b)(hc:∀k b,t (.c k)=some b->Oj X.K (G.ca k))(hK:X.K=G.K:=by rfl):
  ve X (.builtin "isinstance") (λxs H Q=>∃d x b,xs=[x,c.v G]/\Rep G H d x/\t (tyD d)=some b/\Q (.bl b) H):=by
 intro pins s σ H xs us Q I r h;obtain⟨d,x,b,rfl,hd,e,q⟩:=h;obtain⟨u,w',rfl,ru,rw'⟩:=vals2 r;have ew:w'=c.val G:=by cases c<;>exact rw'
 subst ew;exact P4 I hK hd ru (λk ns ds z=>by subst z;exact hc k b e) (ht _ _ e) λtk=>⟨.bl b,H,I.tok _,rfl,q⟩
theorem MQ{c:Ty}{t:Ty->Option Bool}(h:PE X e (tCB (λxs H Q=>∃d x b,xs=[x,c.v G]/\Rep G H d x/\t (tyD d)=some b/\Q (.bl b) H) (Fk (tF G f) (Fk (tC (c.v G)) JP)))):PE X e (tF G (c1 (wy t) f)):=PE.weak h λσ H Q hh=>by
 sleep 1
 obtain⟨x,e1,e2⟩:=EX e;unfold wy at e2;cases e3:t (tyD x)with
 |none=>rw[e3]at e2;cases e2
 |some b=>rw[e3]at e2;cases e2;exact⟨F,ρ,H0,x,ρ',R,e1,λv H1 H1' s R' r=>⟨x,v,b,rfl,Rep.mono R'.sub _ _ r,e3,k _ _ _ s R' (vR b)⟩⟩
def w9(f g:FE):FA:=λρ=>match f ρ with
 |some (.lst xs,ρ1)=>match g ρ1 with
  |some (.lst ys,ρ2)=>if xs.length+ys.length<=1000 then some (xs++ys,ρ2)else none
  |_=>none
 |_=>none
theorem Ts{a:Expr}{g:FE}(ha:PE X a (tF G f))(hb:PE X b (tF G g)):PE X (.BinOp a .Add b pos) (tFN G (w9 f g)):=PE.weak (O4 V2 ha hb) λσ H Q hh=>by
 sleep 1
 unfold w9 at e;split at e
 ·rename_i xs ρ1 e1;split at e
  ·rename_i ys ρ2 e2;split at e
   ·rename_i hl;cases e;refine⟨F,ρ,H0,_,ρ1,R,e1,λv H1 H1' s R' r=>⟨F,ρ1,H1,_,_,R',e2,λu H2 H2' s2 R2 r2=>?_⟩⟩;have r':=Rep.mono s2 _ _ r;unfold Rep at r' r2;obtain⟨a1,xs1,rfl,h1,h2⟩:=r';obtain⟨a2,xs2,rfl,h3,h4⟩:=r2;refine⟨a1,a2,xs1,xs2,rfl,rfl,R2.sub _ _ h1,R2.sub _ _ h3,by rw[<-tu h2,<- tu h4];exact xu hl,λp hp=>?_⟩;exact k p _ _ _ (s.trans s2) (R2.newOwn hp _) tG (R2.h0none hp) (R2.bNone hp) (R2.apart hp) (vp h2 h4)
   ·cases e
  ·cases e
 ·cases e
def yS(f:FE):FA:=λρ=>match f ρ with
 |some (d,ρ1)=>match P3 d with
  |some ds=>some (ds,ρ1)
  |none=>none
 |none=>none
theorem P5(h:PE X e (tCB (λxs H Q=>∃p ys,xs=[.ref p]/\(SqL G.K H p ys\/SqT G.K H p ys)/\∀l,H l=none->Q (.ref l) (upd H l (.lst ys))) (tFA G (aCons f ui)))):PE X e (tFN G (yS f)):=PE.weak h λσ H Q hh=>by
 obtain⟨F,ρ,H0,ds,ρ',R,e,k⟩:=hh;unfold yS at e;rcases ud (f:=f) (ρ:=ρ)with e1|⟨d,ρ1,e1⟩<;>simp only[e1]at e
 ·cases e
 ·cases e2:P3 d with
  |none=>simp only[e2]at e;cases e
  |some ds'=>simp only[e2]at e;cases e;refine⟨F,ρ,H0,[d],_,R,by unfold aCons;rw[e1];rfl,λys H1 H1' s R' rs=>?_⟩;unfold tm at rs;obtain⟨v,r0,rfl,rv,rn⟩:=rs;unfold tm at rn;subst rn;obtain⟨p,xs,rfl,h1,h2⟩:=MO rv e2;exact⟨p,xs,rfl,MP R'.sub h1,λl hl=>k l _ _ _ s (R'.newOwn hl _) tG (R'.h0none hl) (R'.bNone hl) (R'.apart hl) h2⟩
theorem Lw(hK:X.K=G.K:=by rfl):ve X (.type "list") (λxs H Q=>∃p ys,xs=[.ref p]/\(SqL G.K H p ys\/SqT G.K H p ys)/\∀l,H l=none->Q (.ref l) (upd H l (.lst ys))):=by rw[<-hK];exact IT
def Ay(f:FE):FE:=λρ=>match f ρ with
 |some (.lst ds,ρ1)=>some (.tup ds,ρ1)
 |some (.tup ds,ρ1)=>some (.tup ds,ρ1)
 |_=>none
theorem P6(h:PE X e (tCB (λxs H Q=>∃p ys,xs=[.ref p]/\((SqL G.K H p ys/\∀l,H l=none->Q (.ref l) (upd H l (.tup ys)))\/(SqT G.K H p ys/\Q (.ref p) H))) (tFA G (aCons f ui)))):PE X e (tF G (Ay f)):=PE.weak h λσ H Q hh=>by
 obtain⟨F,ρ,H0,ds,ρ',R,e,k⟩:=hh;unfold Ay at e;split at e
 ·rename_i xs ρ1 e1;cases e;refine⟨F,ρ,H0,[_],_,R,by unfold aCons;rw[e1];rfl,λys H1 H1' s R' rs=>?_⟩;unfold tm at rs;obtain⟨v,r0,rfl,rv,rn⟩:=rs;unfold tm at rn;subst rn;unfold Rep at rv;obtain⟨p,zs,rfl,h1,h2⟩:=rv;refine⟨p,zs,rfl,.inl ⟨SqL.of (R'.sub _ _ h1),λl hl=>?_⟩⟩;exact k _ _ _ (s.trans (uc (R'.h0none hl) _)) (R'.newIm hl _) (Ct (SqT.of tG) (tm.mono (uc (R'.h0none hl) _) _ _ h2))
 ·rename_i xs ρ1 e1;cases e;refine⟨F,ρ,H0,[_],_,R,by unfold aCons;rw[e1];rfl,λys H1 H1' s R' rs=>?_⟩;unfold tm at rs;obtain⟨v,r0,rfl,rv,rn⟩:=rs;unfold tm at rn;subst rn;have rv0:=rv;unfold Rep at rv;obtain⟨p,zs,rfl,h1,h2⟩:=rv;exact⟨p,zs,rfl,.inr ⟨SqT.mono R'.sub h1,k _ _ _ s R' rv0⟩⟩
 ·cases e
theorem Ol(hK:X.K=G.K:=by rfl):ve X (.type "tuple") (λxs H Q=>∃p ys,xs=[.ref p]/\((SqL G.K H p ys/\∀l,H l=none->Q (.ref l) (upd H l (.tup ys)))\/(SqT G.K H p ys/\Q (.ref p) H))):=by rw[<-hK];exact GW
def cutD(xs:aI)(lo hi:Option Int):aI:=(xs.drop (HT.sIx xs.length 0 lo)).take (HT.sIx xs.length xs.length hi - HT.sIx xs.length 0 lo)
theorem Kj{lo hi:Option Int}(r:tm G H0 ds xs):tm G H0 (cutD ds lo hi) (JU xs lo hi):=by unfold cutD JU;rw[<-tu r];exact HA _ (Hz _ r)
def tO(o:Option Int):TO:=λ_ H Q=>Q o H
theorem P7{n:Int}{j pos}:PO X (some (.Constant (.int n) j pos)) (tO (some n)):=λpins s σ H Q I h=>Mz La pins s σ H Q I ⟨n,rfl,h⟩
theorem aag:PO X none (tO none):=My
theorem sl_X(hK:X.K=G.K:=by rfl):SlR X (Sv G.K):=by rw[<-hK];exact Sw
end
def Sl.bor:Sl->Sl
 |.un=>.un
 |.im d=>.im d
 |.ls ds=>.im (.lst ds)
 |.pm ds=>.im (.lst ds)
 |.dk _ _=>.un
 |.ob c ns ds=>.im (.obj c ns ds)
variable{fa fb fc:FE}{op':fX}
section
variable{X:Cx}{G:Bg}
theorem tS.bor{H:Hp}(R:tS G F σ ρ H0 H):tS G ⟨H,H,[]⟩ σ (ρ.map Sl.bor) H H where
 sub:=tQ.refl _
 g0:=tQ.refl _
 keep:=λb o e _=>e
 fr:=λb o e=>.inl e
 am:=λa h=>by cases h
 len:=by rw[aj];exact R.len
 sl:=λi s e=>by
  rw[bB]at e;cases e1:ρ[i]? with
  |none=>rw[e1]at e;cases e
  |some t=>
   rw[e1]at e;cases e;have ok:=R.sl i t e1;cases t with
   |un=>trivial
   |im d=>obtain⟨v,h1,h2⟩:=ok;exact⟨v,h1,Rep.mono R.sub _ _ h2⟩
   |ls ds=>obtain⟨a,xs,h1,h2,h3,h4,h5⟩:=ok;exact⟨_,h1,zY h2 (tm.mono R.sub _ _ h5)⟩
   |pm ds=>obtain⟨a,xs,h1,h2,h3,h4,h5⟩:=ok;exact⟨_,h1,zY h2 (tm.mono R.sub _ _ h5)⟩
   |dk ks ds=>trivial
   |ob c ns ds=>obtain⟨a,dx,xs,h1,h2,h3,h4,h5,h6⟩:=ok;exact⟨_,h1,by unfold Rep;exact⟨a,dx,xs,rfl,h2,h5,tm.mono R.sub _ _ h6⟩⟩
 ap:=λi j s t a _ e _ so=>by
  rw[bB]at e;cases e1:ρ[i]? with
  |none=>rw[e1]at e;cases e
  |some t=>rw[e1]at e;cases e;cases t<;>cases so
theorem tS.unbor{σ':St}{H:Hp}(R:tS G F σ ρ H0 H)(R':tS G ⟨H,H,[]⟩ σ' ρ' H1 H1'):tS G F σ ρ H0 H1':=
 R.grow (λb o e=>R'.keep b o e (by simp)) (tQ.refl _) (λb o e=>R'.keep b o (R.sub _ _ e) (by simp)) λb o e=>.inl e
def zA(f:FE):FE:=λρ=>match f (ρ.map Sl.bor)with
 |some (d,_)=>if vS d=true then some (d,ρ)else none
 |none=>none
def zB(f:FT):FT:=λρ=>match f (ρ.map Sl.bor)with
 |some (d,_)=>some (d,ρ)
 |none=>none
theorem WK(h:PE X e (tF G f)):PE X e (tF G (zA f)):=PE.weak h λσ H Q hh=>by
 sleep 1
 unfold zA at e;rcases ud (f:=f) (ρ:=ρ.map Sl.bor)with e1|⟨x,ρ1,e1⟩<;>simp only[e1]at e
 ·cases e
 ·split at e
  ·rename_i hf;cases e;refine⟨_,_,H,d,ρ1,R.bor,e1,λv H1 H1' s R' r=>?_⟩;rw[xO r hf];exact k _ _ _ (tQ.refl _) (R.unbor R') (CC hf _)
  ·cases e
theorem Tt{f:FT}(h:PT X e (tFT G f)):PT X e (tFT G (zB f)):=PT.weak h λσ H Q hh=>by
 sleep 1
 unfold zB at e;rcases ud (f:=f) (ρ:=ρ.map Sl.bor)with e1|⟨x,ρ1,e1⟩<;>simp only[e1]at e
 ·cases e
 ·cases e;exact⟨_,_,H,d,ρ1,R.bor,e1,λH1 H1' s R'=>k _ _ (tQ.refl _) (R.unbor R')⟩
def xa(g g':D->D->Option D)(fa fb fc:FE):FE:=λρ=>match fa ρ with
 |some (x,ρ1)=>match fb ρ1 with
  |some (y,ρ2)=>match g x y with
   |some (.bl true)=>match fc ρ2 with
    |some (z,ρ3)=>match g' y z with
     |some w=>some (w,ρ3)
     |none=>none
    |none=>none
   |some (.bl false)=>some (.bl false,ρ2)
   |_=>none
  |none=>none
 |none=>none
theorem Kk{r:R2}{g:D->D->Option D}(ho:OpD G r g)(ho':OpD G r' g'):∀σ H Q,tF G (xa g g' fa fb fc) σ H Q->Le r r' (tF G fa) (tF G fb) (tF G fc) σ H Q:=λσ H Q hh=>by
 sleep 1
 unfold xa at e;rcases ud (f:=fa) (ρ:=ρ)with e1|⟨x,ρ1,e1⟩<;>simp only[e1]at e
 ·cases e
 rcases ud (f:=fb) (ρ:=ρ1)with e2|⟨y,ρ2,e2⟩<;>simp only[e2]at e
 ·cases e
 refine⟨F,ρ,H0,x,ρ1,R,e1,λv H1 H1' s1 R1 r1=>⟨F,ρ1,H1,y,ρ2,R1,e2,λu H2 H2' s2 R2 r2=>?_⟩⟩;split at e
 ·rename_i e3;refine ho x y _ H2 H2' v u _ e3 R2.sub (Rep.mono s2 _ _ r1) r2 λw hw=>?_;have hw':=hw H2 (tQ.refl _);unfold Rep at hw';refine⟨true,hw',IZ ?_⟩;rcases ud (f:=fc) (ρ:=ρ2)with e4|⟨z,ρ3,e4⟩<;>simp only[e4]at e
  ·cases e
  cases e5:g' y z with
  |none=>simp only[e5]at e;cases e
  |some q=>simp only[e5]at e;cases e;refine⟨F,ρ2,H2,z,_,R2,e4,λt H3 H3' s3 R3 r3=>?_⟩;exact ho' y z _ H3 H3' u t Q e5 R3.sub (Rep.mono s3 _ _ r2) r3 λw hw=>k w H3 H3' (s1.trans (s2.trans s3)) R3 (hw _ (tQ.refl _))
 ·rename_i e3;cases e;refine ho x y _ H2 H2' v u _ e3 R2.sub (Rep.mono s2 _ _ r1) r2 λw hw=>?_;have hw':=hw H2 (tQ.refl _);unfold Rep at hw';exact⟨false,hw',IY (k _ _ _ (s1.trans s2) R2 (vR false))⟩
 ·cases e
theorem P8{a c:Expr}{r:R2}{g:D->D->Option D}(hr:OpR X (bq op) r)(hr':OpR X (bq op') r')(ho:OpD G r g)(ho':OpD G r' g')(ha:PE X a (tF G fa))(hb:PE X b (tF G fb))(hc:PE X c (tF G fc))
  (hm:lastMarks [op,op'] [b,c]=false:=by with_unfolding_all rfl):PE X (.Compare a [op,op'] [b,c] pos) (tF G (xa g g' fa fb fc)):=PE.weak (O8 hr hr' ha hb hc hm) (Kk ho ho')
theorem Om{a c:Expr}{r:R2}{g:D->D->Option D}(hr:OpR X (bq op) r)(hr':OpR X (bq op') r')(ho:OpD G r g)(ho':OpD G r' g')(ha:PE X a (tF G fa))(hb:PE X b (tF G fb))(hc:PE X c (tF G fc))
  (hm:lastMarks [op,op'] [b,c]=false:=by with_unfolding_all rfl):PT X (.Compare a [op,op'] [b,c] pos) (tFT G (cT (xa g g' fa fb fc))):=PT.weak (O9 hr hr' ha hb hc hm) λσ H Q hh=>by
 obtain⟨F,ρ,H0,d,ρ',R,e,k⟩:=MH σ H Q hh;exact Kk ho ho' σ H _ ⟨F,ρ,H0,d,ρ',R,e,k⟩
end
def BF(P:ay)(w:av)(K:au)(mg:Str->Option aa)(base:Heap)(k:Nat)(x:Str)(ps:aH)(sp:Sp):Prop:=
 ∃(f:Addr) (fd:bQ),mg x=some (.ref f)/\dH K (.ref f)=true/\Binds K fd ps []/\xn P w K mg base CX0 k f fd ps sp
def Jd(G:Bg)(P:ay)(w:av)(mg:Str->Option aa)(base:Heap)(k:Nat)(x:Str)(c:Nat)(ps:aH)(dvs:bA)(g:aI->Option (aH×aI)):Prop:=
 ∃(f:Addr) (fd:bQ) (ds:List aa),Mk G.K (G.ca c) f/\mg x=some (.ref (G.ca c))/\Binds G.K fd ps ds/\Vals dvs ds/\xn P w G.K mg base CX0 k f fd ps (spI G c g)
def z7(G:Bg)(P:ay)(w:av)(mg:Str->Option aa)(base:Heap)(k:Nat)(m:Str)(c:Nat)(h:aI->Option D):Prop:=
 ∃(f:Addr) (fd:bQ) (ps:aH),Cls G.K (G.ca c)/\Meth G.K (G.ca c) m f/\Binds G.K fd ps []/\xn P w G.K mg base CX0 k f fd ps (spF G h)
section
variable{X:Cx}{G:Bg}{k:Nat}{x m:Str}{p pos apos:Pos}{e o:Expr}{es:List Expr}{a:FA}{ps:aH}
theorem D6{α:Type}(g:aI->α):(λds=>g (ds++[]))=g:=funext λds=>by rw[bG]
theorem WL{g:aI->Option D}(D:BF X.prog X.w X.K X.mg X.base k x ps (spF G g))(hr:vn k X.A)(ha:PA X (e::es) (tFA G a))(hg:Gl X x:=by rfl)(hdb:(x==("__debug__" : Str))=false:=by decide)(he:aE (e::es) X.env=(false,eval e X.env)::aE es X.env:=by rfl)(hpl:(bD pos (aE es X.env)).any (·.1)=false:=by rfl):
  PE X (.Call (.Name x p) (e::es) [] pos) (tF G (sX g a)):=by
 obtain⟨f,fd,h1,h2,h3,h4⟩:=D;have q:=Tc (dvs:=[]) (dds:=[]) (λ_=>uq) (IL (p:=p) (pos:=pos) h4 hr hg h1 h2 h3 .nil Hu ha hdb he hpl);rw[D6]at q;exact q
theorem Tu{g:aI->Option aI}(D:BF X.prog X.w X.K X.mg X.base k x ps (spN G g))(hr:vn k X.A)(ha:PA X (e::es) (tFA G a))(hg:Gl X x:=by rfl)(hdb:(x==("__debug__" : Str))=false:=by decide)(he:aE (e::es) X.env=(false,eval e X.env)::aE es X.env:=by rfl)(hpl:(bD pos (aE es X.env)).any (·.1)=false:=by rfl):
  PE X (.Call (.Name x p) (e::es) [] pos) (tFN G (uy g a)):=by
 obtain⟨f,fd,h1,h2,h3,h4⟩:=D;have q:=PL (dvs:=[]) (dds:=[]) (λ_=>uq) (IL (p:=p) (pos:=pos) h4 hr hg h1 h2 h3 .nil Hu ha hdb he hpl);rw[D6]at q;exact q
theorem P9{g:aI->Option aI}(D:BF X.prog X.w X.K X.mg X.base k x ps (spN G g))(hr:vn k X.A)(hg:Gl X x:=by rfl)(hdb:(x==("__debug__" : Str))=false:=by decide):PE X (.Call (.Name x p) [] [] pos) (tFN G (uy g ui)):=by obtain⟨f,fd,h1,h2,h3,h4⟩:=D;exact N8 (Pd h4 hr hg h1 h2 h3 .nil Hu hdb)
theorem Tv{g:aI->aI->Option (D×aI)}(D:BF X.prog X.w X.K X.mg X.base k x ps (spM G g))(hr:vn k X.A)(hv:PE X e (zR i))(ha:PA X es (tFA G a))(hg:Gl X x:=by rfl)(hdb:(x==("__debug__" : Str))=false:=by decide)(he:aE (e::es) X.env=(false,eval e X.env)::aE es X.env:=by rfl)(hpl:(bD pos (aE es X.env)).any (·.1)=false:=by rfl):
  PE X (.Call (.Name x p) (e::es) [] pos) (tF G (vA g i a)):=by
 obtain⟨f,fd,h1,h2,h3,h4⟩:=D;exact Wp (IL (p:=p) (pos:=pos) h4 hr hg h1 h2 h3 .nil Hu (wW hv ha he) hdb he hpl)
theorem Tw{g:aI->Option (aH×aI)}(M:Jd G X.prog X.w X.mg X.base k x c ps dvs g)(hd:∀H,tm G H dds dvs)(hr:vn (k+1) X.A)(ha:PA X (e::es) (tFA G a))(hK:X.K=G.K:=by rfl)(hg:Gl X x:=by rfl)(hdb:(x==("__debug__" : Str))=false:=by decide)
  (he:aE (e::es) X.env=(false,eval e X.env)::aE es X.env:=by rfl) (hpl:(bD pos (aE es X.env)).any (·.1)=false:=by rfl):
  PE X (.Call (.Name x p) (e::es) [] pos) (tF G (uv c (λds=>g (ds++dds)) a)):=by
 obtain⟨f,fd,ds,h1,h2,h3,h4,h5⟩:=M;rw[<-hK]at h1 h3 h5;exact Te hd (So (p:=p) (pos:=pos) h1 h5 hr hg h2 h3 h4 Hu ha hdb he hpl)
theorem U2{g:Nat->Option (aI->Option D)}(M:∀c h,g c=some h->z7 G X.prog X.w X.mg X.base k m c h)(hr:vn k X.A)(hK:X.K=G.K):∀C sp,MT G g C sp->MOk X C m sp [] E0:=λC sp h=>by obtain⟨c,h,e,rfl,rfl⟩:=h;obtain⟨f,fd,ps,q1,q2,q3,q4⟩:=M c h e;rw[<-hK]at q1 q2 q3 q4;exact⟨k,f,fd,ps,[],q1,q2,q4,hr,q3,.nil,Hu⟩
theorem On{g:Nat->Option (aI->Option D)}{pl:Sem Bool}(M:∀c h,g c=some h->z7 G X.prog X.w X.mg X.base k m c h)(hr:vn k X.A)(ho:PE X o (tF G f))(ha:PA X (e::es) (tFA G a))(hK:X.K=G.K:=by rfl)
  (hst:aE (e::es) X.env=(false,eval e X.env)::aE es X.env:=by rfl) (hpl:(bD pos (aE es X.env)).any (·.1)=false:=by rfl)
  (ht:eval (.Call (.Attribute o m apos) (e::es) [] pos) X.env=(do
   let ov<-eval o X.env
   standAt apos.atName
   let (f,first)<-holding [ov] (getMethod ov m pl)
   callWith pos f first (bD pos (aE (e::es) X.env)) (backToKw pos (dG [] X.env))):=by rfl):
  PE X (.Call (.Attribute o m apos) (e::es) [] pos) (tF G (tT g m f a)):=Td (E:=E0) (PN (dvs:=[]) (MT G g) (U2 M hr hK) ho ha hst hpl ht)
theorem Lx{g:Nat->Option (aI->Option D)}{pl:Sem Bool}(M:∀c h,g c=some h->z7 G X.prog X.w X.mg X.base k m c h)(hr:vn k X.A)(ho:PE X o (tF G f))(hK:X.K=G.K:=by rfl)
  (ht:eval (.Call (.Attribute o m apos) [] [] pos) X.env=(do
   let ov<-eval o X.env
   standAt apos.atName
   let (f,first)<-holding [ov] (getMethod ov m pl)
   callWith pos f first (bD pos (aE [] X.env)) (backToKw pos (dG [] X.env))):=by rfl):
  PE X (.Call (.Attribute o m apos) [] [] pos) (tF G (tT g m f ui)):=PQ (E:=E0) (Oa (dvs:=[]) (MT G g) (U2 M hr hK) ho ht)
end
section
variable{P:ay}{w:av}{K:au}{mg:Str->Option aa}{base:Heap}{x qual:Str}{st:Stmt}{f T:Addr}{fd:bQ}{N ps:aH}{k:Nat}{G:Bg}
abbrev D7(P:ay)(w:av)(K:au)(mg:Str->Option aa)(base:Heap)(N:aH)(qual:Str)(st:Stmt)(f:Addr)(cdv:aa)(A:aC)(outer:List Env)(s:ae)(H:Hp)(E:XK):Cx:=(JQ CX0 P w K mg base N qual (tX st) f cdv A outer s H E).nox
theorem Qa{n:Nat}{g:aI->Option D}{b:FS}(hg:g=fnD np n b)(hp:ps.length=np)(hN:N.length=n)(F:Fun K x qual st f fd)(S:vy N ps (tX st))(body:∀(cdv:aa) (A:aC) (outer:List Env) (s:ae) (H:Hp) (E:XK),vn k (A.deeper (envOfC qual (tX st) s.heap.objs.size f cdv))->PSs (D7 P w K mg base N qual st f cdv A outer s H E) (uw st) (tFS G b)):
  xn P w K mg base CX0 (k+1) f fd ps (spF G g):=by
 subst hg hp hN;exact F.ok S (Z5 S7) λcdv A outer s H vs Q E hr h=>⟨_,body cdv A outer s H E hr,S5 (by have:=bH de S.pre;rw[cn]at this;omega) h⟩
theorem aah{n:Nat}{g:aI->Option aI}{b:FS}(hg:g=fnN np n b)(hp:ps.length=np)(hN:N.length=n)(F:Fun K x qual st f fd)(S:vy N ps (tX st))(body:∀(cdv:aa) (A:aC) (outer:List Env) (s:ae) (H:Hp) (E:XK),vn k (A.deeper (envOfC qual (tX st) s.heap.objs.size f cdv))->PSs (D7 P w K mg base N qual st f cdv A outer s H E) (uw st) (tFS G b)):
  xn P w K mg base CX0 (k+1) f fd ps (spN G g):=by
 subst hg hp hN;exact F.ok S (Z6 S8) λcdv A outer s H vs Q E hr h=>⟨_,body cdv A outer s H E hr,S6 (by have:=bH de S.pre;rw[cn]at this;omega) h⟩
theorem aai{n:Nat}{g:aI->aI->Option (D×aI)}{b:FS}{p:Str}{ps:aH}(hg:g=fnM np n b)(hp:ps.length=np)(hN:N.length=n)(F:Fun K x qual st f fd)(S:vy N (p::ps) (tX st))(body:∀(cdv:aa) (A:aC) (outer:List Env) (s:ae) (H:Hp) (E:XK),vn k (A.deeper (envOfC qual (tX st) s.heap.objs.size f cdv))->PSs (D7 P w K mg base N qual st f cdv A outer s H E) (uw st) (tFS G b)):
  xn P w K mg base CX0 (k+1) f fd (p::ps) (spM G g):=by
 subst hg hp hN;exact F.ok S (Z8 Tj) λcdv A outer s H vs Q E hr h=>⟨_,body cdv A outer s H E hr,Ti (by have:=bH de S.pre;rw[cn,aO]at this;omega) h⟩
theorem U3{g:aI->Option (aH×aI)}(hg:∀ds q,g ds=some q->ds.length=np):∀vs H Q E,spI G c g vs H Q E->vs.length=np+1:=λvs H Q E h=>by obtain⟨p,dx,us,H0,ds,ns,es,rfl,_,_,_,r,e,_⟩:=h;rw[aO,<- tu r,hg _ _ e]
theorem aaj{n:Nat}{g:aI->Option (aH×aI)}{b:FS}{p:Str}{ps:aH}(hg:g=fnI c np n b)(hp:ps.length=np)(hN:N.length=n)(F:Fun K x qual st f fd)(S:vy N (p::ps) (tX st))(body:∀(cdv:aa) (A:aC) (outer:List Env) (s:ae) (H:Hp) (E:XK),vn k (A.deeper (envOfC qual (tX st) s.heap.objs.size f cdv))->PSs (D7 P w K mg base N qual st f cdv A outer s H E) (uw st) (tFS G b)):
  xn P w K mg base CX0 (k+1) f fd (p::ps) (spI G c g):=by
 subst hg hp hN;exact F.ok S (U3 λds q h=>(Fy h).1) λcdv A outer s H vs Q E hr h=>⟨_,body cdv A outer s H E hr,ML (by have:=bH de S.pre;rw[cn,aO]at this;omega) h⟩
theorem WM{n:Nat}{g:aI->Option (aH×aI)}{b:FS}{p:Str}{ps:aH}(hg:g=fnI c np n b)(hp:ps.length=np)(hN:N.length=n)(F:N6 K x qual st f fd T)(S:vy N (p::ps) (tX st))(body:∀(cdv:aa) (A:aC) (outer:List Env) (s:ae) (H:Hp) (E:XK),vn k (A.deeper (envOfC qual (tX st) s.heap.objs.size f cdv))->PSs (D7 P w K mg base N qual st f cdv A outer s H E) (uw st) (tFS G b)):
  xn P w K mg base CX0 (k+1) f fd (p::ps) (spI G c g):=by
 subst hg hp hN;exact F.ok S (U3 λds q h=>(Fy h).1) λcdv A outer s H vs Q E hr h=>⟨_,body cdv A outer s H E hr,ML (by have:=bH de S.pre;rw[cn,aO]at this;omega) h⟩
end
section
variable{X:Cx}{G:Bg}
def yT(G:Bg)(mg:Str->Option aa)(x:Str)(d:D):Prop:=∃(v:V) (u:aa),mg x=some u/\RelV v u/\∀H,Rep G H d v
theorem Qb{x:Str}(h:yT G X.mg x d)(hg:Gl X x:=by rfl)(hd:(x==("__debug__" : Str))=false:=by decide):PE X (.Name x pos) (tF G (cC d)):=by obtain⟨v,u,h1,h2,h3⟩:=h;exact SL (Mp hg h1 h2 hd) h3
def WN:FS:=λ_=>none
def za(i:Nat)(j:Int)(f:FE):FS:=λρ=>match f ρ with
 |some (d,ρ1)=>match u4 ρ1 i with
  |some ds=>match ixN ds.length j with
   |some k=>some (.nx (putAt ρ1 i (ds.set k d)))
   |none=>none
  |none=>none
 |none=>none
theorem Oo{st:Stmt}{j:Int}(h:PS X st (BY (tF G f) (Zq (zR i) (tC (.int j)) UU))):PS X st (tFS G (za i j f)):=PS.weak h λE σ H hh=>by
 obtain⟨F,ρ,H0,o,R,e,k,k2⟩:=hh;unfold za at e;rcases ud (f:=f) (ρ:=ρ)with e1|⟨d,ρ1,e1⟩<;>simp only[e1]at e
 ·cases e
 cases e2:u4 ρ1 i with
 |none=>simp only[e2]at e;cases e
 |some ds=>
  simp only[e2]at e;cases e3:ixN ds.length j with
  |none=>simp only[e3]at e;cases e
  |some m=>simp only[e3]at e;cases e;refine⟨F,ρ,H0,d,ρ1,R,e1,λv H1 H1' s R' r=>?_⟩;obtain⟨a,xs,s1,s2,s3,s4⟩:=wu R' e2;exact⟨.ref a,s1,a,xs,j,m,rfl,rfl,s2,by rw[<-tu s3];exact e3,k _ _ _ s (s4 _ _ (J4 m s3 r))⟩
def vg(T:String):Ty->Option Bool
 |.b n=>if n="NoneType" then some false else if n="bool" then some (T=="bool" ||T=="int")else if n="int" then some (T=="int")else if n="str" then some (T=="str")else if n="tuple" then some (T=="tuple")else if n="list" then some (T=="list")else if n="dict" then some (T=="dict")else none
 |.c _=>none
theorem Qc{T:String}:∀k b,vg T (.c k)=some b->Oj X.K (G.ca k):=λk b h=>by cases h
theorem Qd:∀y b,vg "list" y=some b->cY X.K (y.val G) (.type "list")=some b:=λy b h=>by
 cases y with
 |c k=>cases h
 |b n=>
  unfold vg at h;simp only at h
  iterate 7 (split at h;· rename_i e;subst e;cases h;first|rfl|kernel_rfl)
  cases h
theorem Tx:∀y b,vg "str" y=some b->cY X.K (y.val G) (.type "str")=some b:=λy b h=>by
 cases y with
 |c k=>cases h
 |b n=>
  unfold vg at h;simp only at h
  iterate 7 (split at h;· rename_i e;subst e;cases h;first|rfl|kernel_rfl)
  cases h
end
end L4
namespace L3
open PySem PySem.Spec PyProof.Rows L2
theorem Tz{X:Cx}{i:Nat}{y:Str}{py spos:Pos}{elt iter tg:Expr}{ifs:List Expr}{scope:cO}{pos:Pos}{N':aH}{k:Nat}{cap:List Nat}{wi:TI}{g:TG}{tt:TT}{te:TE}
  (hc:X.calm=true) (hN:X.N.Nodup) (hy:X.N[i]?=some y) (hyl:Loc X.env.scope y) (hi:PI X tg iter wi)
  (body:∀(cl:List (Str×Addr)) (C:Addr) (fp:List Addr) (s:ae) (H:Hp),PG (uZ X N' scope cl C fp s H) tg g/\PIf (uZ X N' scope cl C fp s H) ifs tt/\PE (uZ X N' scope cl C fp s H) elt te)
  (hkind:scope.kind=.function:=by rfl) (hcell:(scope.names.all λy=>y.2 != .cell)=true:=by rfl)
  (hloc:(scope.names.all λy=>y.2 != .local||scope.names.lookup y.1==some .local)=true:=by rfl)
  (hfree:(scope.names.all λy=>y.2 != .free||(X.env.kindOf y.1==some .cell||X.env.kindOf y.1==some .free))=true:=by rfl)
  (hlen:N'.length=k+cap.length:=by rfl) (hcap:(N'.drop k).map some=cap.map λj=>X.N[j]?:=by rfl)
  (hcf:((N'.drop k).all λx=>scope.names.lookup x==some .free)=true:=by rfl)
  (hs:∀x,ic iter X.env x=pure x:=by intro _;rfl)
  (hsw:dg (.ListComp elt [⟨tg,iter,ifs,0⟩] scope pos) (some (.Name y py)) spos.line X.env=pure true:=by rfl)
  (hfy:X.fn y=true\/X.env.scope.names.lookup y=some .local:=by first|exact .inl rfl|exact .inr rfl|assumption):
  PS X (.Assign [.Name y py] (.ListComp elt [⟨tg,iter,ifs,0⟩] scope pos) spos) (BY (D5 wi g tt te k cap) (yO i)):=by
 intro pins s σ H D I h;rw[exec_Assign_Name_used _ _ _ _ hsw];refine ah (kR (ah ?_));show ai _ X.A (do let _<-comprehension (.ListComp elt [⟨tg,iter,ifs,0⟩] scope pos) scope X.env _ (newList []) false (eval iter X.env) (some (assign (.Name y py) X.env))) _ _ s;refine ah (bX (Hy (P:=λ_ s'=>SP X pins D .next s') hc hi body hkind hcell hloc hfree hlen hcap hcf hs I h λa C m u s4 H3 hn back fpC qn=>?_) (λ_ s' hq=>ar (ar hq)) λ_ _ e=>e);obtain⟨oC,esC,nC,gC,dC,rC⟩:=id hn;have I7:=back.pinned (fp:=[C]) (λb hb=>aR.mp hb▸fpC) (λb hb=>aR.mp hb▸⟨oC,gC,λv z=>by rw[dC]at z;cases z⟩);show ai _ X.A (assign (.Name y py) X.env (.ref a)) _ _ s4;refine thn (Mr (pos:=py) hN hy hyl hfy _ s4 σ H3 (.ref a) (.ref a) (λσ' H'=>D.nx σ' H') I7 rfl qn) λ_ s6 zz=>?_;obtain⟨σ6,H6,I8,q6⟩:=zz;obtain⟨p1,p2,_⟩:=I8.pin (C,oC) (bP _ (bP _ (yj (by simp) gC)));exact⟨m,⟨oC,esC,nC,p1,dC,rC⟩,λh' hs'=>⟨σ6,H6,I8.unpinned.turned (t':=s6.toks) (λb o hb e=>(hs'.2 b hb).trans e) p2 fpC.2.1 fpC.2.2.2.1 fpC.2.2.2.2.1 fpC.2.2.2.2.2,q6⟩⟩
end L3
namespace L4
open PySem PySem.Spec PyProof.Rows L2 L3
variable{te:TE}{i:Nat}{ft:FT}{fe:FE}
section
variable{X:Cx}{G:Bg}
theorem FJ{st:Stmt}{te':TE}{g:TG}(h:PS X st (BY te g))(w:∀σ H Q,te' σ H Q->te σ H Q):PS X st (BY te' g):=PS.weak h λE σ H hh=>w _ _ _ hh
theorem Oq{st:Stmt}{k:Nat}{cap:List Nat}{s:FA}{g:FG}(nd:cap.Nodup)(h:PS X st (BY (D5 (tFI G s) (tFG G k g) (tFT G ft) (tF G fe) k cap) (yO i))):PS X st (tFS G (xp i (tN k cap s g ft fe))):=J8 (FJ h (Jb nd))
theorem Qe{st:Stmt}{k:Nat}{cap:List Nat}{s:FA}{g:FG}(nd:cap.Nodup)(h:PS X st (BY (D5 (tFI G s) (tFG G k g) (tFT G ft) (tF G fe) k cap) (yO i))):PS X st (tFS G (tZ i (cL (tN k cap s g ft fe)))):=MK (FJ (FJ h (Jb nd)) Z4)
end
variable{es0 es':aI}{np:Nat}
section
variable{f g h:FS}{c:FT}{e e' e2:FE}{a a':FA}{ρ ρ' ρ1 ρ2 ρ3:aU}{d x y z:D}{o:Out}{ds xs ys:aI}
theorem sW(h:f ρ=some (.nx ρ')):sZ f g ρ=g ρ':=by unfold sZ;rw[h]
theorem tJ(h:f ρ=some (.rt d ρ')):sZ f g ρ=some (.rt d ρ'):=by unfold sZ;rw[h]
theorem tV(h:c ρ=some (true,ρ')):sIf c f g ρ=f ρ':=by unfold sIf;rw[h]
theorem ux(h:c ρ=some (false,ρ')):sIf c f g ρ=g ρ':=by unfold sIf;rw[h]
theorem tU(h:e ρ=some (d,ρ')):tZ i e ρ=some (.nx (ρ'.set i (.im d))):=by unfold tZ;rw[h]
theorem Je(h:a ρ=some (ds,ρ')):xp i a ρ=some (.nx (ρ'.set i (.ls ds))):=by unfold xp;rw[h]
theorem tW(h:e ρ=some (d,ρ')):tE e ρ=some (.rt d ρ'):=by unfold tE;rw[h]
theorem wa(h:a ρ=some (ds,ρ')):uU a ρ=some (.rn ds ρ'):=by unfold uU;rw[h]
theorem uN(h:e ρ=some (d,ρ')):uf e ρ=some (.nx ρ'):=by unfold uf;rw[h]
theorem Kl{k:Nat}{j:Int}(h:e ρ=some (d,ρ1))(h1:u4 ρ1 i=some ds)(h2:ixN ds.length j=some k):za i j e ρ=some (.nx (putAt ρ1 i (ds.set k d))):=by unfold za;rw[h];simp only[h1,h2]
theorem tP{g:D->D->Option D}(h1:e ρ=some (x,ρ1))(h2:e' ρ1=some (y,ρ2))(h3:g x y=some z):c2 g e e' ρ=some (z,ρ2):=by unfold c2;rw[h1];simp only[h2,h3]
theorem uA{g:D->Option D}(h1:e ρ=some (x,ρ1))(h3:g x=some z):c1 g e ρ=some (z,ρ1):=by unfold c1;rw[h1];simp only[h3]
theorem FK(h1:e (ρ.map Sl.bor)=some (d,ρ1))(hf:vS d=true):zA e ρ=some (d,ρ):=by unfold zA;rw[h1];simp only[hf,if_true]
theorem TB{b:Bool}(h1:c (ρ.map Sl.bor)=some (b,ρ1)):zB c ρ=some (b,ρ):=by unfold zB;rw[h1]
theorem uL{b:Bool}(h1:e ρ=some (.bl b,ρ1)):cT e ρ=some (b,ρ1):=by unfold cT;rw[h1]
theorem xI{b:Bool}(h1:c ρ=some (b,ρ1)):uR c ρ=some (!b,ρ1):=by unfold uR;rw[h1]
theorem B5{b:Bool}{c':FT}(h1:c ρ=some (false,ρ1))(h2:c' ρ1=some (b,ρ2)):wV c c' ρ=some (b,ρ2):=by unfold wV;rw[h1];exact h2
theorem sV(h1:e ρ=some (d,ρ1))(h2:a ρ1=some (ds,ρ2)):aCons e a ρ=some (d::ds,ρ2):=by unfold aCons;rw[h1];simp only[h2]
theorem sY{α:Type}{g:aI->Option α}{r:α}(h1:a ρ=some (ds,ρ1))(h2:g ds=some r):DC g a ρ=some (r,ρ1):=by unfold DC;rw[h1];simp only[h2]
theorem uO(h1:a ρ=some (ds,ρ1)):cL a ρ=some (.lst ds,ρ1):=by unfold cL;rw[h1]
theorem WO(h1:a ρ=some (ds,ρ1))(hl:ds.length<=1000):uj a ρ=some (ds,ρ1):=by unfold uj;rw[h1];simp only[hl,if_true]
theorem AV(h1:a ρ=some (ds,ρ1))(hl:ds.length<=1000):tR a ρ=some (.tup ds,ρ1):=by unfold tR;rw[h1];simp only[hl,if_true]
theorem xy(h1:e ρ=some (.lst xs,ρ1))(h2:e' ρ1=some (.lst ys,ρ2))(hl:xs.length+ys.length<=1000):w9 e e' ρ=some (xs++ys,ρ2):=by unfold w9;rw[h1];simp only[h2,hl,if_true]
theorem FL{g:aI->aI->Option (D×aI)}{es:aI}(h0:u4 ρ i=some es0)(h1:a ρ=some (ds,ρ1))(h2:u4 ρ1 i=some es)(h3:g es ds=some (d,es')):vA g i a ρ=some (d,putAt ρ1 i es'):=by unfold vA;rw[h0];simp only[h1,h2,h3]
theorem DE{es:aI}(h0:u4 ρ i=some es0)(h1:e ρ=some (d,ρ1))(h2:u4 ρ1 i=some es)(hl:es.length<1000):z4 i e ρ=some (.non,putAt ρ1 i (es++[d])):=by unfold z4;rw[h0];simp only[h1,h2,hl,if_true]
theorem Qf{es:aI}(h0:u4 ρ i=some es0)(h1:a ρ=some (ds,ρ1))(h2:u4 ρ1 i=some es)(hl:es.length+ds.length<=1000):EL i a ρ=some (.non,putAt ρ1 i (es++ds)):=by unfold EL;rw[h0];simp only[h1,h2,hl,if_true]
theorem uM{s:FA}{g:FG}(h1:s ρ=some (ds,ρ1)):v8 s g f ρ=forL g f ds ρ1:=by unfold v8;rw[h1]
theorem Jf{k:Nat}{cap:List Nat}{s:FA}{g:FG}(h1:s ρ=some (ds,ρ1))(hl:ds.length<=1000):tN k cap s g ft fe ρ=xq k cap g ft fe ds ρ1:=by unfold tN;rw[h1];simp only[hl,if_true]
theorem Qg{n:Nat}{b:FS}{es:aI}(hl:ds.length=np)(h:b (L4.stM n es ds)=some (.rt d ρ))(h0:Cy ρ=some es'):fnM np n b es ds=some (d,es'):=by unfold fnM;rw[af hl,h];simp only[h0]
theorem Ly{n:Nat}{b:FS}{es:aI}(hl:ds.length=np)(h:b (L4.stM n es ds)=some (.rn xs ρ))(h0:Cy ρ=some es'):fnM np n b es ds=some (.lst xs,es'):=by unfold fnM;rw[af hl,h];simp only[h0]
theorem ym{n:Nat}{b:FS}(hl:ds.length=np)(h:b (L4.stE n ds)=some (.rn xs ρ)):fnN np n b ds=some xs:=by unfold fnN;rw[af hl,h]
theorem tp{n:Nat}{b:FS}(hl:ds.length=np)(h:b (L4.stE n ds)=some (.rt d ρ)):fnD np n b ds=some d:=by unfold fnD;rw[af hl,h]
end
def xA(es:aI):Prop:=(∃c,es=[.int c])\/∃q r n,es=[.int q,.int r,.int n]
theorem zC{a b:Int}(h:z6 a=true\/z6 b=true):ya (.int a) (.int b)=some (.int (a * b)):=by unfold ya dI;simp only;rw[af (by simpa using h)]
theorem Bp{a b:Int}(h:0<b):wx (.int a) (.int b)=some (.int (a % b)):=by unfold wx dI;simp only;rw[af (by simpa using h)]
theorem div_pos{a b:Int}(h:0<b)(h':b<1073741824):BE (.int a) (.int b)=some (.int (a / b)):=by unfold BE dI;simp only;rw[af (by simp[h,h'])]
theorem Km{a:Int}(h:0<=a)(h':a<2147483647):z6 a=true:=by unfold z6;simp only[aS,bJ];omega
def zD:D->Option Key
 |.int i=>some (.inl i)
 |.str x=>some (.inr x)
 |_=>none
def vU:List Key->aI->Key->Option D
 |k::ks,d::ds,j=>if k=j then some d else vU ks ds j
 |_,_,_=>none
def TC(ks:List Key)(ds:aI)(k:Key)(d:D):aI:=d9 (λk' d'=>if k'=k then d else d') ks ds
def EN(ks:List Key)(k:Key):Bool:=ks.any λk'=>decide (k'=k)
variable{d:D}{a:Addr}{o:Obj}{kvs:List (Key×V)}{b tg e:Expr}{f f' fk:FE}{pos apos cpos:Pos}
section
variable{X:Cx}{G:Bg}{H:Hp}
theorem z8{v:V}{k:Key}(h:Rep G H d v)(e:zD d=some k):v=kV k:=by
 cases d<;>first|cases e|skip
 all_goals (unfold Rep at h;exact h)
theorem AW:∀{ks:List Key} {ds:aI} {xs:bA} (j:Key),tm G H ds xs->ks.length=xs.length->match vU ks ds j with
  |some d=>∃v,wX (ks.zip xs) j=some v/\Rep G H d v
  |none=>wX (ks.zip xs) j=none
 |[],ds,xs,j,r,l=>by cases ds<;>rfl
 |k::ks,ds,[],j,r,l=>by cases l
 |k::ks,[],x::xs,j,r,l=>by unfold tm at r;cases r
 |k::ks,d::ds,x::xs,j,r,l=>by
  unfold tm at r;obtain⟨v,q,e,h1,h2⟩:=r;cases e;unfold vU;by_cases hk:k=j
  ·rw[af hk];exact⟨x,Cq (p:=(k,x)) hk,h1⟩
  ·rw[ag hk];have ih:=AW (ks:=ks) (ds:=ds) (xs:=xs) j h2 (by simpa using l);have e1:wX ((k::ks).zip (x::xs)) j=wX (ks.zip xs) j:=Cr (p:=(k,x)) hk;rw[e1];exact ih
theorem Jg{k:Key}:∀{ks:List Key} {xs:bA},ks.length=xs.length->((ks.zip xs).any λkv=>decide (kv.1=k))=EN ks k
 |[],xs,_=>by cases xs<;>rfl
 |k'::ks,[],l=>by cases l
 |k'::ks,x::xs,l=>by unfold EN;rw[eJ,fN,fN,Jg (by simpa using l)];rfl
theorem MR{k:Key}{v:V}:∀{ks:List Key} {xs:bA},ks.length=xs.length->(ks.zip xs).map (λkv=>if kv.1=k then (kv.1,v)else kv)=ks.zip (d9 (λk' x=>if k'=k then v else x) ks xs)
 |[],xs,_=>by cases xs<;>rfl
 |k'::ks,[],l=>by cases l
 |k'::ks,x::xs,l=>by
  rw[eJ,aK,MR (by simpa using l),hE,eJ];congr 1;by_cases hk:k'=k
  ·rw[af hk,af hk]
  ·rw[ag hk,ag hk]
theorem Kn{k:Key}{d:D}{v:V}(hd:Rep G H d v):∀{ks:List Key} {ds:aI} {xs:bA},tm G H ds xs->ks.length=xs.length->tm G H (TC ks ds k d) (d9 (λk' x=>if k'=k then v else x) ks xs)
 |[],ds,xs,r,l=>by unfold TC;cases ds<;>cases xs<;>exact uq
 |k'::ks,ds,[],r,l=>by cases l
 |k'::ks,[],x::xs,r,l=>by unfold tm at r;cases r
 |k'::ks,d'::ds,x::xs,r,l=>by
  unfold tm at r;obtain⟨w,q,e,h1,h2⟩:=r;cases e;unfold TC;rw[hE,hE];refine ur ?_ (Kn hd h2 (by simpa using l));by_cases hk:k'=k
  ·rw[af hk,af hk];exact hd
  ·rw[ag hk,ag hk];exact h1
theorem _root_.L2.DGet.kf{H:Hp}{k:Key}(e:H a=some (.frz o (.dK kvs))):DGet H a (kV k) (wX kvs k):=.inl ⟨kvs,k,.inr ⟨o,e⟩,rfl,rfl⟩
def AA:D->D->Option D:=λx y=>match x,zD y with
 |.dic ks ds,some k=>vU ks ds k
 |_,_=>none
theorem TF{a:Expr}(hu:X.A.units+1<cLine)(ha:PE X a (tF G f))(hb:PE X b (tF G f'))(hs:V3 b:=by exact λ_ _=>rfl):PE X (.Subscript a b pos) (tF G (c2 AA f f')):=PE.weak (Sy hu ha hb hs) λσ H Q hh=>by
 sleep 1
 obtain⟨x,y,ρ1,e1,e2,e3⟩:=Cu e;refine⟨F,ρ,H0,x,ρ1,R,e1,λv H1 H1' s1 R1 r1=>⟨F,ρ1,H1,y,ρ',R1,e2,λu H2 H2' s2 R2 r2=>?_⟩⟩;have r1':=Rep.mono s2 _ _ r1;cases x with
 |dic ks ds=>
  unfold AA at e3;cases ek:zD y with
  |none=>simp only[ek]at e3;cases e3
  |some j=>simp only[ek]at e3;unfold Rep at r1';obtain⟨p,ob,xs,rfl,h1,h2,h3⟩:=r1';have lv:=AW (ks:=ks) j h3 h2;rw[e3]at lv;obtain⟨w,w1,w2⟩:=lv;refine⟨p,w,rfl,?_,k w H2 H2' (s1.trans s2) R2 w2⟩;rw[z8 r2 ek,<- w1];exact DGet.kf (R2.sub _ _ h1)
 |_=>unfold AA at e3;cases e3
def AX:D->D->Option D:=λx y=>match x,zD y with
 |.dic ks ds,some k=>some ((vU ks ds k).getD .non)
 |_,_=>none
theorem Qh{a:Expr}(hu:X.A.units+1<cLine)(ha:PE X a (tF G f))(hb:PE X b (tF G f'))(m:M1 X a "get" apos b cpos):PE X (.Call (.Attribute a "get" apos) [b] [] cpos) (tF G (c2 AX f f')):=PE.weak (Pm hu ha hb m) λσ H Q hh=>by
 sleep 1
 obtain⟨x,y,ρ1,e1,e2,e3⟩:=Cu e;cases x with
 |dic ks ds=>
  refine⟨F,ρ,H0,_,ρ1,R,e1,λv H1 H1' s1 R1 r1=>?_⟩;have r1':=r1;unfold Rep at r1';obtain⟨p,ob,xs,rfl,h1,h2,h3⟩:=r1';refine⟨p,rfl,.inl ⟨_,.inr ⟨_,R1.sub _ _ h1⟩⟩,F,ρ1,H1,y,ρ',R1,e2,λu H2 H2' s2 R2 r2=>?_⟩;unfold AX at e3;cases ek:zD y with
  |none=>simp only[ek]at e3;cases e3
  |some j=>
   simp only[ek]at e3;cases e3;have lv:=AW (ks:=ks) j (tm.mono s2 _ _ h3) h2;refine⟨wX (ks.zip xs) j,?_,?_⟩
   ·rw[z8 r2 ek];exact DGet.kf (R2.sub _ _ (s2 _ _ h1))
   ·cases el:vU ks ds j with
    |none=>rw[el]at lv k;rw[lv];exact k _ H2 H2' (s1.trans s2) R2 yR
    |some z=>rw[el]at lv k;obtain⟨w,w1,w2⟩:=lv;rw[w1];exact k _ H2 H2' (s1.trans s2) R2 w2
 |_=>unfold AX at e3;cases e3
def FM(i:Nat):FS:=λρ=>some (.nx (ρ.set i (.dk [] [])))
theorem Qi{st:Stmt}(h:PS X st (BY Lp (yO i))):PS X st (tFS G (FM i)):=PS.weak h λE σ H hh=>by obtain⟨F,ρ,H0,o,R,e,k,k2⟩:=hh;cases e;intro p hp;have R1:=R.newOwn hp (.dK []);refine k _ _ _ (tQ.refl _) (R1.set (s:=.dk [] []) ⟨p,[],rfl,tG,R.h0none hp,R.bNone hp,rfl,uq⟩ λ_ a ea j t _ ej to=>?_);cases ea;exact R.apart hp j t ej to
def xB(i:Nat)(fk fv:FE):FS:=λρ=>match fv ρ with
 |some (d,ρ1)=>match ρ1[i]? with
  |some (.dk _ _)=>match fk ρ1 with
   |some (y,ρ2)=>match zD y with
    |some k=>match ρ2[i]? with
     |some (.dk ks ds)=>if ks.length<1000 then if ds.length=ks.length then some (.nx (ρ2.set i (if EN ks k=true then .dk ks (TC ks ds k d)else .dk (ks++[k]) (ds++[d]))))else none else none
     |_=>none
    |none=>none
   |none=>none
  |_=>none
 |none=>none
theorem Qj{st:Stmt}{fv:FE}(h:PS X st (UW (zR i) (tF G fk) (tF G fv))):PS X st (tFS G (xB i fk fv)):=PS.weak h λE σ H hh=>by
 obtain⟨F,ρ,H0,o,R,e,k,k2⟩:=hh;unfold xB at e;rcases ud (f:=fv) (ρ:=ρ)with e1|⟨d,ρ1,e1⟩<;>simp only[e1]at e
 ·cases e
 split at e
 ·rename_i ks0 ds0 ei;rcases ud (f:=fk) (ρ:=ρ1)with e2|⟨y,ρ2,e2⟩<;>simp only[e2]at e
  ·cases e
  cases ek:zD y with
  |none=>simp only[ek]at e;cases e
  |some j=>
   simp only[ek]at e;split at e
   ·rename_i ks ds ei2;split at e
    ·rename_i hl;split at e
     ·rename_i hl2;cases e;refine⟨F,ρ,H0,d,ρ1,R,e1,λv H1 H1' s1 R1 r1=>?_⟩;obtain⟨a0,xs0,a1,_⟩:=R1.sl i _ ei;refine⟨_,w5 a1,F,ρ1,H1,y,ρ2,R1,e2,λu H2 H2' s2 R2 r2=>?_⟩;obtain⟨a,xs,b1,b2,b3,b4,b5,b6⟩:=R2.sl i _ ei2;rw[a1]at b1;cases b1;refine⟨a0,upd H2' a0 (.dK (putK (ks.zip xs) j v)),rfl,?_,?_⟩
      ·rw[z8 r2 ek];exact Pj.k b2 (by rw[gv];exact jf (Nat.min_le_left _ _) (Bo (by omega)))
      ·have rv:=Rep.mono s2 _ _ r1;refine k _ _ _ (s1.trans s2) (R2.mut ei2 rfl a1 (λH' hH=>?_) ?_)
       ·by_cases hk:EN ks j=true
        ·rw[af hk];refine⟨a0,d9 (λk' x=>if k'=j then v else x) ks xs,rfl,?_,b3,b4,by rw[kh,b5,gE],Kn rv b6 b5⟩;rw[hH];unfold putK;rw[Jg b5,af hk,MR b5]
        ·rw[ag hk];refine⟨a0,xs++[v],rfl,?_,b3,b4,by rw[aP,aP,b5];rfl,vp b6 (ur rv uq)⟩;rw[hH];unfold putK;rw[Jg b5,ag hk,kJ b5];rfl
       ·split<;>rfl
     ·cases e
    ·cases e
   ·cases e
 ·cases e
def EO:D->Option D
 |.lst ds=>(G2 ds).map λbs=>.bl (bs.any id)
 |_=>none
theorem Os(hc:X.calm=true)(hK:X.K=G.K:=by rfl):ve X (.builtin "any") (λxs H Q=>∃(p:Addr) (bs:List Bool),xs=[.ref p]/\SqL G.K H p (bs.map V.bl)/\Q (.bl (bs.any id)) H):=by
 rw[<-hK];intro pins s σ H xs us Q I r h;obtain⟨p,bs,rfl,hq,q⟩:=h;obtain⟨u,rfl,ru⟩:=vals1 r;cases ru;obtain⟨its,rv,pl,hz⟩:=I.list hq;have hlt:p<s.heap.objs.size:=by obtain⟨o,ho,_⟩:=pl.isList;exact aQ ho
 have hl:bs.length=its.length:=by have:=rv.length;rw[aj]at this;exact this
 refine call_any_walk (gj pl.isList ⟨s.heap.objs.size,_,_,_,_,_,λi=>(bs[i]?).getD false,rfl,iA (show X.A.in1.handled=none from I.ok.hd hc) _ p (aY hlt) its.toArray,⟨⟨_,bu _ rfl,rfl,rfl⟩,?_⟩,?_,λh' tk hk=>?_⟩)
 ·exact pl.isList.at λo e=>aN _ e
 ·intro i v s' Q' E' hv hQ';have hv':its[i]?=some v:=by simpa using hv
  have hi:i<its.length:=(b0.mp hv').1;have hb:(bs.map V.bl)[i]?=some (.bl (bs[i]'(by omega))):=by simp[show i<bs.length by omega]
  obtain⟨u,hu,ru⟩:=rv.get hb;rw[hv']at hu;cases hu;cases ru;refine c8 ?_;have e:(bs[i]?).getD false=bs[i]'(by omega):=by simp[show i<bs.length by omega]
  rw[<-e];exact hQ'
 ·refine⟨.bl (bs.any id),H,?_,?_,q⟩
  ·exact I.kept (t':=tk) λb o e=>hk b o (by simp;exact aY (aQ e)) (aN _ e)
  ·show Value.bool _=Value.bool _;congr 1;rw[bb,<- hl];rw[cM];simp only[dY,bV,id];constructor
   ·rintro⟨i,hi,h⟩;exact⟨bs[i],eO hi,by simpa [hi]using h⟩
   ·rintro⟨b,hb,h⟩;obtain⟨i,hi,rfl⟩:=j9.mp hb;exact⟨i,hi,by simpa [hi]using h⟩
theorem WQ:HF G (λxs H Q=>∃(p:Addr) (bs:List Bool),xs=[.ref p]/\SqL G.K H p (bs.map V.bl)/\Q (.bl (bs.any id)) H) EO:=λx z H0 H v Q e s rx k=>by
 cases x with
 |lst ds=>
  unfold EO at e;simp only at e;cases e1:G2 ds with
  |none=>rw[e1]at e;cases e
  |some bs=>rw[e1]at e;cases e;unfold Rep at rx;obtain⟨a,xs,rfl,h1,h2⟩:=rx;rw[FI h2 e1]at h1;exact⟨a,bs,rfl,s.seq (SqL.of h1),k _ λ_ _=>vR _⟩
 |_=>cases e
def iS(f:FE):FA:=λρ=>match f ρ with
 |some (.str x,ρ')=>some (x.cps.toList.map λc=>D.str ⟨#[c]⟩,ρ')
 |_=>none
theorem TH(h:PI X tg e (ZX (tF G f))):PI X tg e (tFI G (iS f)):=PI.weak h λσ H R hh=>by
 obtain⟨F,ρ,H0,ds,ρ',R,e,k⟩:=hh;unfold iS at e;split at e
 ·rename_i x ρ1 e1;cases e;refine⟨F,ρ,H0,_,_,R,e1,λv H1 H1' s R' r=>?_⟩;unfold Rep at r;refine⟨x,r,k _ _ _ s R' λi H2 H2' t t'=>⟨λd ed=>?_,λhl=>?_⟩⟩
  ·rw[bB]at ed;cases ec:x.cps.toList[i]? with
   |none=>rw[ec]at ed;cases ed
   |some c=>
    rw[ec]at ed;cases ed;have ec':x.cps[i]?=some c:=by simpa using ec
    refine⟨(mL.mp ec').1,λz H3 y=>?_⟩;obtain⟨e3,c',hc',rfl⟩:=y;rw[ec']at hc';cases hc';subst e3;exact⟨H2,tQ.refl _,t',tQ.refl _,λb o e=>.inl e,zZ _⟩
  ·show i=x.cps.size;rw[hl,aj];simp
 ·cases e
def D8(f g:FE):FE:=λρ=>match f ρ with
 |some (.tup (x::xs),ρ1)=>match g ρ1 with
  |some (.tup ys,ρ2)=>if xs.length+ys.length<=900 then some (.tup (x::xs++ys),ρ2)else none
  |_=>none
 |_=>none
theorem TJ{a:Expr}{g:FE}(ha:PE X a (tF G f))(hb:PE X b (tF G g))(hK:X.K=G.K:=by rfl):PE X (.BinOp a .Add b pos) (tF G (D8 f g)):=PE.weak (O4 Ss ha hb) λσ H Q hh=>by
 rw[hK]
 sleep 1
 unfold D8 at e;split at e
 ·rename_i x xs ρ1 e1;split at e
  ·rename_i ys ρ2 e2;split at e
   ·rename_i hl;cases e;refine⟨F,ρ,H0,_,ρ1,R,e1,λv H1 H1' s R' r=>⟨F,ρ1,H1,_,_,R',e2,λu H2 H2' s2 R2 r2=>?_⟩⟩;have r':=Rep.mono s2 _ _ r;have r0:=r';unfold Rep at r' r2;obtain⟨a1,xs1,rfl,h1,h2⟩:=r';obtain⟨a2,xs2,rfl,h3,h4⟩:=r2;have l1:=tu h2;have l2:=tu h4;rw[aO]at l1;refine⟨a1,a2,xs1,xs2,rfl,rfl,SqT.mono R2.sub h1,SqT.mono R2.sub h3,(λz=>by rw[z]at l1;cases l1),by rw[<-l1,<- l2];exact xu (by omega),λz=>?_,λ_ p hp=>?_⟩
    ·have ey:ys=[]:=by rw[z]at l2;exact j5.mp l2
     subst ey;rw[bG]at k;exact k _ _ _ (s.trans s2) R2 r0
    ·exact k _ _ _ ((s.trans s2).trans (uc (R2.h0none hp) _)) (R2.newIm hp _) (Ct (SqT.of tG) (tm.mono (uc (R2.h0none hp) _) _ _ (vp h2 h4)))
   ·cases e
  ·cases e
 ·cases e
end
section
variable{X:Cx}{G:Bg}
abbrev FO:=aU->Option (Option Int×aU)
def tFO(G:Bg)(f:FO):TO:=λσ H Q=>∃F ρ H0 d ρ',tS G F σ ρ H0 H/\f ρ=some (d,ρ')/\∀H0' H',tQ H0 H0'->tS G F σ ρ' H0' H'->Q d H'
def oNo:FO:=λρ=>some (none,ρ)
def oAt(f:FE):FO:=λρ=>match f ρ with
 |some (.int i,ρ')=>some (some i,ρ')
 |_=>none
theorem PO.weak{e:Option Expr}{t t':TO}(h:PO X e t)(w:∀σ H Q,t' σ H Q->t σ H Q):PO X e t':=λpins s σ H Q I hq=>h pins s σ H Q I (w _ _ _ hq)
theorem WR:PO X none (tFO G oNo):=PO.weak My λσ H Q hh=>by
 sleep 1
 cases e;exact k _ _ (tQ.refl _) R
theorem WT(h:PE X e (tF G f)):PO X (some e) (tFO G (oAt f)):=PO.weak (Mz h) λσ H Q hh=>by
 sleep 1
 unfold oAt at e;split at e
 ·rename_i i ρ1 e1;cases e;refine⟨F,ρ,H0,_,_,R,e1,λv H1 H1' s R' r=>?_⟩;unfold Rep at r;exact⟨i,r,k _ _ s R'⟩
 ·cases e
def G3(f:FE)(lo hi:FO):FA:=λρ=>match f ρ with
 |some (d,ρ1)=>match d with
  |.lst ds=>match lo ρ1 with
   |some (l,ρ2)=>match hi ρ2 with
    |some (h,ρ3)=>some (cutD ds l h,ρ3)
    |none=>none
   |none=>none
  |.fzl ds=>match lo ρ1 with
   |some (l,ρ2)=>match hi ρ2 with
    |some (h,ρ3)=>some (cutD ds l h,ρ3)
    |none=>none
   |none=>none
  |_=>none
 |none=>none
theorem LA{lo hi:FO}(h:PE X e (tSl (Sv G.K) (tF G f) (tFO G lo) (tFO G hi))):PE X e (tFN G (G3 f lo hi)):=PE.weak h λσ H Q hh=>by
 obtain⟨F,ρ,H0,ds,ρ',R,e,k⟩:=hh;unfold G3 at e;rcases ud (f:=f) (ρ:=ρ)with e1|⟨d,ρ1,e1⟩<;>simp only[e1]at e
 ·cases e
 have gen:∀(xs:aI),(∀{H1:Hp} {v:V},Rep G H1 d v->∃a ys,v=.ref a/\SqL G.K H1 a ys/\tm G H1 xs ys)->(match lo ρ1 with
   |some (l,ρ2)=>match hi ρ2 with
    |some (h,ρ3)=>some (cutD xs l h,ρ3)
    |none=>none
   |none=>none)=some (ds,ρ')->tSl (Sv G.K) (tF G f) (tFO G lo) (tFO G hi) σ H Q:=λxs rd e=>by
  rcases ud (f:=lo) (ρ:=ρ1)with e2|⟨l,ρ2,e2⟩<;>simp only[e2]at e
  ·cases e
  rcases ud (f:=hi) (ρ:=ρ2)with e3|⟨u,ρ3,e3⟩<;>simp only[e3]at e
  ·cases e
  cases e;refine⟨F,ρ,H0,d,ρ1,R,e1,λv H1 H1' s1 R1 r1=>⟨F,ρ1,H1,l,ρ2,R1,e2,λH2 H2' s2 R2=>⟨F,ρ2,H2,u,_,R2,e3,λH3 H3' s3 R3=>?_⟩⟩⟩;obtain⟨a,ys,rfl,q1,q2⟩:=rd (Rep.mono (s2.trans s3) _ _ r1);exact⟨a,ys,rfl,R3.sub.seq q1,λp hp=>k p _ _ _ (s1.trans (s2.trans s3)) (R3.newOwn hp _) tG (R3.h0none hp) (R3.bNone hp) (R3.apart hp) (Kj q2)⟩
 cases d with
 |lst xs=>exact gen xs (λr=>by unfold Rep at r;obtain⟨a,ys,rfl,q1,q2⟩:=r;exact⟨a,ys,rfl,SqL.of q1,q2⟩) e
 |fzl xs=>exact gen xs (λr=>by unfold Rep at r;exact r) e
 |_=>cases e
end
section
variable{X:Cx}{G:Bg}
def FN:FE:=λ_=>none
theorem Qk:PE X e (tF G FN):=λpins s σ H Q I h=>by obtain⟨F,ρ,H0,d,ρ',R,e,_⟩:=h;cases e
def HH(f f' f2:FE):FE:=λρ=>match f ρ with
 |some (.dic ks ds,ρ1)=>match f' ρ1 with
  |some (y,ρ2)=>match f2 ρ2 with
   |some (x,ρ3)=>match zD y with
    |some k=>some ((vU ks ds k).getD x,ρ3)
    |none=>none
   |none=>none
  |none=>none
 |_=>none
theorem Ql{a c:Expr}{f2:FE}(hu:X.A.units+1<cLine)(ha:PE X a (tF G f))(hb:PE X b (tF G f'))(hc:PE X c (tF G f2))(m:M2 X a "get" apos b c cpos):PE X (.Call (.Attribute a "get" apos) [b,c] [] cpos) (tF G (HH f f' f2)):=PE.weak (Pn hu ha hb hc m) λσ H Q hh=>by
 sleep 1
 unfold HH at e;split at e
 ·rename_i ks ds ρ1 e1;rcases ud (f:=f') (ρ:=ρ1)with e2|⟨y,ρ2,e2⟩<;>simp only[e2]at e
  ·cases e
  rcases ud (f:=f2) (ρ:=ρ2)with e3|⟨x,ρ3,e3⟩<;>simp only[e3]at e
  ·cases e
  cases ek:zD y with
  |none=>simp only[ek]at e;cases e
  |some j=>
   simp only[ek]at e;cases e;refine⟨F,ρ,H0,_,ρ1,R,e1,λv H1 H1' s1 R1 r1=>?_⟩;unfold Rep at r1;obtain⟨p,ob,xs,rfl,h1,h2,h3⟩:=r1;refine⟨p,rfl,.inl ⟨_,.inr ⟨_,R1.sub _ _ h1⟩⟩,F,ρ1,H1,y,ρ2,R1,e2,λu H2 H2' s2 R2 r2=>⟨F,ρ2,H2,x,_,R2,e3,λz H3 H3' s3 R3 r3=>?_⟩⟩;have lv:=AW (ks:=ks) j (tm.mono (s2.trans s3) _ _ h3) h2;refine⟨wX (ks.zip xs) j,?_,?_⟩
   ·rw[z8 r2 ek];exact DGet.kf (R3.sub _ _ (s3 _ _ (s2 _ _ h1)))
   ·cases el:vU ks ds j with
    |none=>rw[el]at lv k;rw[lv];exact k _ H3 H3' (s1.trans (s2.trans s3)) R3 r3
    |some w=>rw[el]at lv k;obtain⟨w',w1,w2⟩:=lv;rw[w1];exact k _ H3 H3' (s1.trans (s2.trans s3)) R3 w2
 ·cases e
def LB(G:Bg)(c:Nat)(t:Ty->Option Bool):Prop:=(∀y b,t y=some b->cY G.K (y.val G) (.ref (G.ca c))=some b)/\∀j b,t (.c j)=some b->Oj G.K (G.ca j)
theorem LC{c:Nat}{t:Ty->Option Bool}(h:LB G c t)(hK:X.K=G.K:=by rfl):ve X (.builtin "isinstance") (λxs H Q=>∃d x b,xs=[x,(Ty.c c).v G]/\Rep G H d x/\t (tyD d)=some b/\Q (.bl b) H):=
 HG (X:=X) (.c c) (by rw[hK];exact h.1) (by rw[hK];exact h.2) hK
end
def ddp(acc:List Key)(k:Key):List Key:=if acc.any (λz=>decide (z=k))then acc else acc++[k]
def yM(ks:List Key):List Key:=ks.foldl ddp []
theorem TM(acc:List Key)(k j:Key):(ddp acc k).any (λz=>decide (z=j))=(acc.any (λz=>decide (z=j))||decide (j=k)):=by
 unfold ddp;by_cases h:acc.any (λz=>decide (z=k))=true
 ·rw[af h];by_cases e:j=k
  ·subst e;rw[h];simp
  ·simp[e]
 ·rw[ag h,List.any_append];by_cases e:j=k
  ·subst e;simp
  ·have hb:¬k=j:=λz=>e z.symm;simp[hb,e]
theorem MS(acc:List Key)(k:Key):(ddp acc k).length=if acc.any (λz=>decide (z=k))=true then acc.length else acc.length+1:=by unfold ddp;split<;>simp
theorem HI(ks:List Key)(i:Nat)(h:i<ks.length):yM (ks.take (i+1))=ddp (yM (ks.take i)) ks[i]:=by unfold yM;rw[kz,aZ h,nZ];rfl
theorem Qm(ks:List Key):(yM ks).length<=ks.length:=by
 have gen:∀(l:List Key) (acc:List Key),(l.foldl ddp acc).length<=acc.length+l.length:=by
  intro l
  induction l with
  |nil=>intro acc;simp
  |cons k l ih=>
   intro acc;rw[jr,aO];have h1:=ih (ddp acc k);have h2:(ddp acc k).length<=acc.length+1:=by rw[MS];split<;>omega
   omega
 have:=gen ks [];simpa [yM]using this
theorem set_same{prog:ay}{w:av}{h:Heap}{S S':Key->Bool}{n n':Nat}(hS:h.SetOf (ua prog w) a S n)(e:∀k,S k=S' k)(en:n=n'):h.SetOf (ua prog w) a S' n':=by obtain rfl:S=S':=funext e;subst en;exact hS
section
variable{prog:ay}{w:av}{A:aC}{R:dM->ae->Prop}{I:Addr}{fp wr:List Addr}{GG:Array eh->Array eh->Prop}{n:Nat}{PP:Nat->aa->Prop}{SS:Nat->ae->Prop}
theorem Qn(W:WalksS prog w A.in1 I fp wr GG n PP SS)(S:Addr)(hSf:S∉fp)(ks:List Key)(hn:ks.length=n)
  (hval:∀i v (h:i<ks.length),PP i v->(ua prog w).is ks[i] v=true/\v.scannable=true) (hb:n+1<scanBound):∀(k i:Nat) (s:ae),n - i=k->i<=n->SS i s->
   s.heap.SetOf (ua prog w) S (λj=>(yM (ks.take i)).any (λz=>decide (z=j))) (yM (ks.take i)).length->
   (∀s',Moved (S::wr) GG s s'->s'.heap.SetOf (ua prog w) S (λj=>(yM ks).any (λz=>decide (z=j))) (yM ks).length->R (.ok (.ret .none)) s')->
   cz (model prog w) A (.builtin "set.update.loop" ⟨[.ref S,.ref I],[]⟩) R s:=by
 have hSw:S∉wr:=λz=>hSf (W.sub _ z);have up:∀b∈wr,b∈S::wr:=λb z=>ba _ z;intro k
 induction k with
 |zero=>
  intro i s hk hi hst hS hR;obtain rfl:i=n:=by omega
  refine dy gb ?_;rw[dR dr _];show ai _ A.in1 (pyNext (.ref I)>>=_) _ _ s;refine ah (W.done s _ _ hst λs' hm=>?_);show ai _ A.in1 (ret Value.none) _ _ s';rw[i8 (by omega)]at hS;refine ar (hR s' (hm.mono up) ?_);obtain⟨o,es,ep,t,ho,more⟩:=hS;exact⟨o,es,ep,t,hm.heap S _ hSw ho,more⟩
 |succ k ih=>
  intro i s hk hi hst hS hR;have hlt:i<n:=by omega
  have hlk:i<ks.length:=by omega
  refine dy gb ?_;rw[dR dr _];show ai _ A.in1 (pyNext (.ref I)>>=_) _ _ s;refine ah (W.item i s _ _ hlt hst λv s' hP hst' hm=>?_);obtain⟨kv,sc⟩:=hval i v hlk hP;have hS':s'.heap.SetOf (ua prog w) S (λj=>(yM (ks.take i)).any (λz=>decide (z=j))) (yM (ks.take i)).length:=by obtain⟨o,es,ep,t,ho,more⟩:=hS;exact⟨o,es,ep,t,hm.heap S _ hSw ho,more⟩
  show ai _ A.in1 (holding [v] (setAdd S v)>>=_) _ _ s';refine ah (cc ?_);unfold setAdd;refine cc ?_;refine ah ((ua prog w).pyHash (k:=ks[i]) kv ?_);have room:(yM (ks.take i)).length+1<scanBound:=by have:=Qm (ks.take i);rw[cn]at this;omega
  refine wpAny_setAddHashed_of (knd:=ua prog w) (s:={ s' with toks:=s'.toks+1 }) kv sc hS' room λh' hsb hS2=>?_;have hSi:h'.SetOf (ua prog w) S (λj=>(yM (ks.take (i+1))).any (λz=>decide (z=j))) (yM (ks.take (i+1))).length:=
   set_same hS2 (λj=>by rw[HI ks i hlk,TM]) (by rw[HI ks i hlk,MS])
  refine ar ⟨fO dr _,ih (i+1) _ (by omega) hlt (W.frame _ s' _ _ hst' (jw _) λb z o e=>?_) hSi λs'' hm'' hS''=>?_⟩
  ·rw[hsb.2 b (λy:b=S=>hSf (by rw[<-y];exact z))];exact e
  ·refine hR s'' (jx W.gtrans ((hm.mono up).then_heap (jw _) λb o z e=>?_) hm'') hS'';rw[hsb.2 b (λy:b=S=>z (by rw[y];exact aV))];exact e
end
theorem TN(l:Addr)(us:Array aa)(m:Nat)(b:Addr)(o:Obj)(ws:Array aa)(m2:Nat)(hc:o.cls=.type "tuple")(hd:o.data=.seq ws m2)(z0:¬(!us.isEmpty&&gX (us.size+ws.size))=true)(z1:us.size<=aG)(z2:us.size+ws.size<=aG+1):
  Meets (di.«list.extend» ⟨[.ref l,.ref b],[]⟩) (λ_ R s=>s.heap.get? l=some { cls:=.type "list", data:=.seq us m }/\s.heap.get? b=some o/\R (.ok (.ret Value.none)) { s with heap:=s.heap.update l (cG λx=>x++ws),toks:=s.toks }):=by
 obtain⟨c,dd,data,sl⟩:=o;cases hc;cases hd;refine .of_wp λprog w A R s h=>?_;obtain⟨hp,g,d,tk,os⟩:=s;obtain⟨hl,hb,h⟩:=h;have f2:=AutoSeq1.sub_tuple_tuple;have f3:=AutoSeq1.sub_list_list;have f4:=AutoSeq1.sub_tuple_list;have f5:=AutoSeq1.sub_list_tuple;have z3:(us++ws).size<=aG+1:=Array.size_append (xs:=us) (ys:=ws)▸z2
 wp_walk using (kK hl rfl (hz:=z1) (_hz':=z3)),mR hl,mR hb
 exact⟨_,rfl,h⟩
section
variable{X:Cx}{G:Bg}
def Ko(K:au):V->bA->Hp->VK->Prop:=λx vs H Q=>∃l b xs zs,x=.ref l/\vs=[.ref b]/\H l=some (.lst xs)/\SqT K H b zs/\xs.length+zs.length<=aG/\Q .non (upd H l (.lst (xs++zs)))
theorem LD:MtM X "list.extend" (Ko X.K):=by
 intro pins s σ H x vs v us Q I rx rv h;obtain⟨l,b,xs,zs,rfl,rfl,hH,hB,hz,q⟩:=h;cases rx;obtain⟨u,rfl,ru⟩:=rv.one;cases ru;obtain⟨z,its,n,r,hl,e⟩:=I.lstM hH;obtain⟨its2,r2,⟨o,e2,hc,n2,hd⟩,hz2⟩:=I.tuple hB;have hl2:=r2.length;have hsz:its.toArray.size+its2.toArray.size<=aG:=by rw[bb,bb];omega
 have hlong:¬(!its.toArray.isEmpty&&gX (its.toArray.size+its2.toArray.size))=true:=by rw[JV hsz,o4];exact bj
 refine l3 jd ⟨_,e,rfl⟩ nD (m9 _ _)
  (TN l its.toArray n b o its2.toArray n2 hc hd hlong (by rw[bb];omega) (by omega)) ⟨e,e2,?_⟩
 refine⟨.non,_,I.lset (its':=its++its2) hH e (by simp) (r.append r2) ?_,rfl,q⟩;rw[aP];omega
def AY(i:Nat)(f:FE):FE:=λρ=>match u4 ρ i with
 |some _=>match f ρ with
  |some (.tup es,ρ1)=>match u4 ρ1 i with
   |some ds=>if ds.length+es.length<=1000 then some (.non,putAt ρ1 i (ds++es))else none
   |none=>none
  |_=>none
 |none=>none
theorem LF(h:PE X e (tBM G.K "list" (Ko G.K) (zR i) (Fk (tF G f) JP))):PE X e (tF G (AY i f)):=PE.weak h λσ H Q hh=>by
 sleep 1
 unfold AY at e;cases e0:u4 ρ i with
 |none=>simp only[e0]at e;cases e
 |some ds0=>
  simp only[e0]at e;rcases ud (f:=f) (ρ:=ρ)with e1|⟨x,ρ1,e1⟩<;>simp only[e1]at e
  ·cases e
  ·cases x with
   |tup es=>
    cases e2:u4 ρ1 i with
    |none=>simp only[e2]at e;cases e
    |some ds=>
     simp only[e2]at e;split at e
     ·rename_i hl;cases e;obtain⟨a,xs,s1,s2,s3,_⟩:=wu R e0;refine⟨.ref a,s1,.inl ⟨rfl,xs,SqL.of s2⟩,F,ρ,H0,_,ρ1,R,e1,λv H1 H1' s R' rs=>?_⟩;unfold Rep at rs;obtain⟨p,ys,rfl,hp,rs⟩:=rs;obtain⟨a',xs',t1,t2,t3,t4⟩:=wu R' e2;rw[s1]at t1;cases t1;refine⟨a,p,xs',ys,rfl,rfl,t2,SqT.mono R'.sub hp,?_,k _ _ _ s (t4 _ _ (vp t3 rs)) yR⟩;rw[<-tu t3,<- tu rs];exact xu hl
     ·cases e
   |_=>cases e
end
abbrev one(j:Nat)(led pl:Bool):br:=⟨7,#[j],#[],0,led,0,pl⟩
variable{ks:List Key}
section
variable{prog:ay}{w:av}{A:aC}{E:aa->ae->Prop}{s:ae}
abbrev TK(prog:ay)(w:av):=IsTupleKey (ua prog w)
theorem cls_val(n:Nat){v:aa}(h:kM v=true):ik n v=pure false:=by
 cases v with
 |ref a=>simp[kM]at h
 |_=>first|rfl|simp[ik]|(unfold ik;rfl)
theorem MU{Q:Bool->ae->Prop}(hk:TK prog w s.heap ks a)(h:Q false s):ai (model prog w) A (ik 8 (.ref a)) Q E s:=by
 have hT:=hk.typeIs;obtain⟨o,items,n,ho,_,hd,hi⟩:=hk;unfold ik;refine ah (ju hT ?_);show ai _ _ (pure true>>=_) _ _ s;refine ah (ar ?_);simp only[Bool.not_true,fF,if_false];refine ah (kN ho hd ?_);refine ah ?_;show ai _ _ (forIn items _ _) _ _ s;rw[<-nQ];refine kE _ (λrest r s'=>r.1=none/\s'=s/\∀v∈rest,kM v=true) _ ?_ ?_ _ _ ⟨rfl,rfl,hi.byValue⟩
 ·rintro v rest r s' ⟨hr,rfl,hall⟩;rw[cls_val _ (hall v aV)];refine ah (ar ?_);simp only[fF,if_false];exact ar ⟨rfl,rfl,λu hu'=>hall u (ba _ hu')⟩
 ·rintro⟨r1,r2⟩ s' ⟨hr,rfl,_⟩;simp only at hr;subst hr;exact ar h
end
variable{ep:Nat}
section
variable{prog:ay}{w:av}{A:aC}{E:aa->ae->Prop}{s:ae}
theorem LG{hp:Heap}{S:Addr}{es es':Array (Int×aa)}{t t':br}(ho:hp.get? S=some o)(hd:o.data=.set es ep t):(hp.update S (gG es' t')).get? S=some { o with data:=.set es' (ep+1) t' }:=by have:=eG (gG es' t') ho (by rw[putSet_of es' t' hd];rfl);rw[putSet_of es' t' hd]at this;exact this
end
section
variable{prog:ay}{w:av}{A:aC}{R:dM->ae->Prop}{I:Addr}{fp wr:List Addr}{GG:Array eh->Array eh->Prop}{PP:Nat->aa->Prop}{SS:Nat->ae->Prop}
theorem TK.kept{h h':Heap}(t:TK prog w h ks a)(e:∀o,h.get? a=some o->h'.get? a=some o):TK prog w h' ks a:=by obtain⟨o,its,n,ho,m⟩:=t;exact⟨o,its,n,e o ho,m⟩
def Set2(h:Heap)(S:Addr)(n:Nat):Prop:=∃o es ep t,h.get? S=some o/\o.ExactSet/\o.data=.set es ep t/\es.size<scanBound/\t.fits es.size=true/\es.size=n
end
theorem sub_tuple_set:isSubtype (.type "tuple") (.type "set")=pure false:=by rw[js];kernel_rfl
theorem sub_tuple_frozenset:isSubtype (.type "tuple") (.type "frozenset")=pure false:=by rw[js];kernel_rfl
variable{ax:Addr}{itO:Obj}
section
variable{prog:ay}{w:av}{A:aC}{E:aa->ae->Prop}{s:ae}{Q:aa->ae->Prop}
abbrev yn(led:Bool):Obj:={ cls:=.type "set", dict:=none,data:=.set #[] 0 (.fresh 0 0 led) }
abbrev inK(ks:List Key):Key->Bool:=λj=>(yM ks).any (λz=>decide (z=j))
structure SrcK(prog:ay)(w:av)(h:Heap)(a:Addr)(items:Array aa)(ks:List Key):Prop where
 len:ks.length=items.size
 key:∀i v (hi:i<ks.length),items[i]?=some v->(ua prog w).is ks[i] v=true/\v.scannable=true
 bnd:items.size+1<scanBound
def TQ(s:ae)(PS:Heap->Prop)(E:aa->ae->Prop):dM->ae->Prop:=
 wants (λr s2=>r=.none/\∃h2 k2,s2={ s with heap:=h2,toks:=k2 }/\PS h2/\∀b o,b<s.heap.objs.size->s.heap.get? b=some o->h2.get? b=some o) E
theorem Kp{items:Array aa}{led:Bool}{SS:Nat->Heap->Prop}(K:SrcK prog w s.heap ax items ks)(hlt:ax<s.heap.objs.size)
  (W:Walks prog w A.in1 (s.heap.objs.size+1) [s.heap.objs.size+1,ax] [s.heap.objs.size+1] items.size (λi v=>items[i]?=some v) SS) (st:SS 0 ((s.heap.push (yn led)).push itO)) {R:dM->ae->Prop}
  (hR:∀h2 k2,h2.SetOf (ua prog w) s.heap.objs.size (inK ks) (yM ks).length->(∀b o,b<s.heap.objs.size->s.heap.get? b=some o->h2.get? b=some o)->R (.ok (.ret .none)) { s with heap:=h2,toks:=k2 }) (tk:Nat):
  cz (model prog w) A (.builtin "set.update.loop" ⟨[.ref s.heap.objs.size,.ref (s.heap.objs.size+1)],[]⟩) R { s with heap:=(s.heap.push (yn led)).push itO,toks:=tk }:=by
 have notin:s.heap.objs.size∉[s.heap.objs.size+1,ax]:=by
  intro z;rcases aT.mp z with z|z
  ·exact ao z (aY (dv _))
  ·exact ao (aR.mp z) (fQ hlt)
 have e0:((s.heap.push (yn led)).push itO).get? s.heap.objs.size=some (yn led):=aN _ (bu _ rfl);refine Qn W.toS s.heap.objs.size notin ks K.len (λi v hi hv=>K.key i v hi hv) K.bnd (items.size - 0) 0 _ (by omega) (cf _) st ?_ λs2 mv S2=>?_
 ·exact⟨_,#[],0,_,e0,⟨rfl,rfl,rfl⟩,rfl,λe he=>by simp at he,λk=>by simp[yM],by unfold scanBound;decide,by rfl,rfl⟩
 ·obtain⟨h2,g2,d2,k2,o2⟩:=s2;have eg:g2=s.gens:=mv.gens;have ed:d2=s.drawn:=mv.drawn;have eo:o2=s.os:=mv.os;subst eg ed eo;refine hR h2 k2 S2 λb o hb e=>mv.heap b o (λz=>?_) (aN _ (aN _ e));rcases aT.mp z with z|z
  ·exact ao z (aY hb)
  ·exact ao (aR.mp z) (aY (dX hb))
theorem LH(a:aa){Q₁:aa->ae->Prop}(h:Q₁ (.ref s.heap.objs.size) { s with heap:=s.heap.push (yn (!w.params.followText "set-order")) }):
  cz (model prog w) A (.call (.builtin "set.__new__") ⟨[.type "set", a],[]⟩) (wants Q₁ E) s:=by
 refine oM ?_;show ai _ A.in1 (do checkBuiltinCall "set.__new__" ⟨[.type "set", a],[]⟩;again (.builtin "set.__new__" ⟨[.type "set", a],[]⟩)) _ _ s;refine ah (wpAny_of_eq (F.newCall_set_1 a) (ar ⟨fO oN _,dy F.entry_set_new ?_⟩));rw[dR oN _];unfold di.«set.__new__» qR;have hsub:=sub_set_self;obtain⟨hp,g,d,tk,os⟩:=s;dsimp only
 wp_walk
 refine kF (ar ?_);dsimp only;simp only[newObj];refine ah (wpAny_alloc (ar ?_));exact ar h
theorem CG{T:String}{PS:Heap->Prop}(ho:s.heap.get? ax=some o)(hc:o.cls=.type T)
  (u1:isSubtype (.type T) (.type "set")=pure false) (u2:isSubtype (.type T) (.type "frozenset")=pure false) (u3:(Value.type T==Value.type "dict")=false)
  (itr:∀(A:aC) (Q:aa->ae->Prop) (E:aa->ae->Prop) (s1:ae),s1.heap.get? ax=some o->Q (.ref s1.heap.objs.size) { s1 with heap:=s1.heap.push itO }->ai (model prog w) A (pyIter (.ref ax)) Q E s1)
  (fil:∀tk (R:dM->ae->Prop),(∀h2 k2,PS h2->(∀b o,b<s.heap.objs.size->s.heap.get? b=some o->h2.get? b=some o)->R (.ok (.ret .none)) { s with heap:=h2,toks:=k2 })->
   cz (model prog w) A.in1.in1 (.builtin "set.update.loop" ⟨[.ref s.heap.objs.size,.ref (s.heap.objs.size+1)],[]⟩) R { s with heap:=(s.heap.push (yn (!w.params.followText "set-order"))).push itO,toks:=tk })
  (h:∀h2 k2,PS h2->(∀b o,b<s.heap.objs.size->s.heap.get? b=some o->h2.get? b=some o)->Q (.ref s.heap.objs.size) { s with heap:=h2,toks:=k2 }):
  ai (model prog w) A (call (.type "set") [.ref ax]) Q E s:=by
 have hlt:ax<s.heap.objs.size:=aQ ho;obtain⟨c,tl,hmro⟩:=eX.mro;have made:=eX.made;have subs:=eX.sub;refine lX (oM ?_);show ai _ _ (callAny (.type "set") _) _ _ _;refine ar ⟨Code.quiet_builtin _ (by decide +kernel),dy F.entry_type_call ?_⟩;rw[Around.under_plain (weight_type_call_type "set" [.ref ax] []) rfl];have n1:=eX.notType;have n2:=eX.canCreate;have n3:=F.typeCall_set_1 (.ref ax)
 repeat (any_goals (first|assumption|wp_step))
 let led:Bool:=!w.params.followText "set-order";refine gz (LH (.ref ax) (E:=E) (Q₁:=λv s1=>v=.ref s.heap.objs.size/\s1={ s with heap:=s.heap.push (yn led) }) ⟨rfl,rfl⟩) λr s1 hr=>?_;cases r with
 |error e=>exact hr
 |ok fl=>
  cases fl with
  |ret v=>
   obtain⟨rfl,rfl⟩:=hr;have e0:(s.heap.push (yn led)).get? s.heap.objs.size=some (yn led):=bu _ rfl;have ty0:kU { s with heap:=s.heap.push (yn led) } (.ref s.heap.objs.size) "set" := ⟨_,e0,rfl⟩;have l1:=eX.init.lookup;have l2:=eX.init.bind (.ref s.heap.objs.size)
   repeat (any_goals (first|assumption|wp_step))
   refine gz (codeAny_call_builtin (R:=TQ s PS E) eX.init.plain F.entry_set_init (check_set_init_1 ty0 ?_)) λr2 s2 hr2=>?_
   ·obtain⟨oc,od,oda,osl⟩:=o;cases hc;have e1:(s.heap.push (yn led)).get? ax=some { cls:=.type T,dict:=od,data:=oda,slots:=osl }:=aN _ ho;unfold di.«set.__init__» noKeywords qO;generalize gP:pyIter=PP
    wp_walk
    subst gP;refine itr _ _ _ _ e1 ?_;refine ah (o7 ?_);have ez:(s.heap.push (yn led)).objs.size=s.heap.objs.size+1:=cW _ _;show cz _ _ (.builtin "set.update.loop" ⟨[.ref s.heap.objs.size,.ref (s.heap.push (yn led)).objs.size],[]⟩) _ _;rw[ez];refine fil _ _ λh2 k2 S2 kk=>?_;show ai _ _ _ _ _ _;refine ar ?_;show ai _ _ (ret Value.none) _ _ _;exact ar ⟨rfl,h2,k2,rfl,S2,kk⟩
   ·cases r2 with
    |error e=>exact hr2
    |ok fl2=>
     cases fl2 with
     |ret r=>
      obtain⟨rfl,h2,k2,rfl,S2,kk⟩:=hr2
      repeat (any_goals (first|assumption|wp_step))
      exact h _ _ S2 kk
     |_=>exact hr2.elim
  |_=>exact hr.elim
end
variable{S:au->Hp->Addr->Nat->Prop}
section
variable{X:Cx}{G:Bg}{H:Hp}{pins:cp}{σ:St}{s:ae}
theorem Qo{P:ay}{w:av}{k:Key}{v:aa}(h:(ua P w).is k v=true):v.scannable=true:=by rcases uG h with ⟨i,t,_,rfl⟩|⟨x,t,_,rfl⟩<;>rfl
theorem Qp{its:List aa}(r:Vals (ks.map kV) its)(hb:ks.length+1<scanBound):SrcK X.prog X.w s.heap a its.toArray ks:=by
 have hl:ks.length=its.length:=by have:=r.length;rw[aj]at this;exact this
 refine⟨by rw[bb];exact hl,λi v hi hv=>?_,by rw[bb];omega⟩;have e:(ks.map kV)[i]?=some (kV ks[i]):=by rw[bB,aZ hi];rfl
 obtain⟨u,hu,ru⟩:=r.get e;have eu:v=u:=by rw[ja]at hv;rw[hv]at hu;exact cw hu
 subst eu;have:=Cs (P:=X.prog) (w:=X.w) ru;exact⟨this,Qo this⟩
theorem aam(I:Inv X pins σ H s)(h:SqT X.K H a (ks.map kV)):TK X.prog X.w s.heap ks a:=by
 obtain⟨its,r,p,_⟩:=I.tuple h;obtain⟨o,ho,hc,n,hd⟩:=p;refine⟨o,_,n,ho,hc,hd,?_⟩;have gen:∀(ks:List Key) (its:List aa),Vals (ks.map kV) its->PySem.ItemsAre (ua X.prog X.w) ks its:=λks=>by
  induction ks with
  |nil=>intro its r;cases r;exact .nil
  |cons k ks ih=>intro its r;cases r with|cons h1 h2=>exact .cons (Cs h1) (ih _ h2)
 exact gen ks its r
def WU(K:au)(H:Hp)(a:Addr)(n:Nat):Prop:=∃ks,(SqL K H a (ks.map kV)\/SqT K H a (ks.map kV))/\ks.length+1<scanBound/\n=(yM ks).length
def WV(X:Cx)(S:au->Hp->Addr->Nat->Prop):Prop:=∀{pins:cp} {σ:St} {H:Hp} {s:ae} {A:aC} {E:aa->ae->Prop} {Q:aa->ae->Prop} {a:Addr} {n:Nat},Inv X pins σ H s->A.handled=none->A.units+8<cLine->S X.K H a n->
 (∀h2 k2,Set2 h2 s.heap.objs.size n->(∀b o,b<s.heap.objs.size->s.heap.get? b=some o->h2.get? b=some o)->Q (.ref s.heap.objs.size) { s with heap:=h2,toks:=k2 })->ai (model X.prog X.w) A (call (.type "set") [.ref a]) Q E s
theorem aan:WV X (WU):=by
 intro pins σ H s A E Q a n I hh hu hq h;have h3:A.in1.in1.in1.handled=none:=by simp[hh]
 have gt:∀{h2:Heap} {ks:List Key},h2.SetOf (ua X.prog X.w) s.heap.objs.size (inK ks) (yM ks).length->Set2 h2 s.heap.objs.size (yM ks).length:=λS=>by obtain⟨o,es,ep,t,ho,hex,hd,_,_,hz,hf,hn⟩:=S;exact⟨o,es,ep,t,ho,hex,hd,hz,hf,hn⟩
 have it:∀{o:Obj} {led:Bool},o.isFreed=false->((s.heap.push (yn led)).push o).get? (s.heap.objs.size+1)=some o:=λ{o led} z=>by rw[show s.heap.objs.size+1=(s.heap.push (yn led)).objs.size from(cW _ _).symm];exact bu _ z
 obtain⟨ks,hq|hq,hb,rfl⟩:=hq
 ·obtain⟨its,r,p,_⟩:=I.list hq;obtain⟨o,ho,hc,n,hd⟩:=p.isList;have hne:a≠s.heap.objs.size+1:=aY (dX (aQ ho));refine CG ho hc kO ka (by decide) (itO:={ cls:=.type "list_iterator", data:=.fields #[.ref a,.int 0 0] })
   (λA Q E s1 e k=>gj ⟨o,e,hc,n,hd⟩ k) (λtk R hR=>Kp (Qp r hb) (aQ ho) (iA h3 _ a hne its.toArray) ⟨⟨_,it rfl,rfl,rfl⟩,⟨o,aN _ (aN _ ho),hc,n,hd⟩⟩ (λh2 k2 S=>hR h2 k2 (gt S)) tk) h
 ·obtain⟨its,r,p,_⟩:=I.tuple hq;obtain⟨o,ho,hc,n,hd⟩:=p;have hne:a≠s.heap.objs.size+1:=aY (dX (aQ ho));refine CG ho hc sub_tuple_set sub_tuple_frozenset (by decide) (itO:={ cls:=.type "tuple_iterator", data:=.fields #[.ref a,.int 0 0] })
   (λA Q E s1 e k=>nM ⟨o,e,hc,n,hd⟩ k) (λtk R hR=>Kp (Qp r hb) (aQ ho) (Walks.tuple h3 _ a hne its.toArray) ⟨⟨_,it rfl,rfl,rfl⟩,⟨o,aN _ (aN _ ho),hc,n,hd⟩⟩ (λh2 k2 S=>hR h2 k2 (gt S)) tk) h
def MV(S:au->Hp->Addr->Nat->Prop)(K:au)(te:TE):TE:=λσ H Q=>te σ H λx H1=>∃a n,x=.ref a/\S K H1 a n/\Q (.int n) H1
theorem Ot{p1 p2 p3 p4:Pos}(hV:WV X S)(hu:X.A.units+64<cLine)(hc:X.calm=true)(g1:Gl X "len")(m1:X.mg "len" = none)(g2:Gl X "set")(m2:X.mg "set" = none)(he:PE X e te)
  (z1:aE [Expr.Call (.Name "set" p2) [e] [] p3] X.env=[(false,eval (.Call (.Name "set" p2) [e] [] p3) X.env)]:=by rfl) (z2:aE [e] X.env=[(false,eval e X.env)]:=by rfl):PE X (.Call (.Name "len" p1) [.Call (.Name "set" p2) [e] [] p3] [] p4) (MV S X.K te):=by
 intro pins s σ H Q I h;refine dW (zS I g1 m1 o8 ?_ (by decide) (by decide));refine callWith_builtin1 ?_ z1 rfl;rw[z1];show ai _ _ (spliced [(false,eval (.Call (.Name "set" p2) [e] [] p3) X.env)]) _ _ s;refine dU ?_;refine dW (zS I g2 m2 pW ?_ (by decide) (by decide));refine callWith_type1 (thn (wW he zT z2 p3 pins s σ H (λvs H1=>match vs with
  |[x]=>∃a n,x=.ref a/\S X.K H1 a n/\Q (.int n) H1
  |_=>False) I h) λus s1 ⟨vs,H1,I1,r1,q1⟩=>?_) z2 rfl
 match vs,r1,q1 with
 |[x],r1,q1=>
 obtain⟨a,n,e1,hq,q⟩:=q1;subst e1;obtain⟨u,rfl,ru⟩:=vals1 r1;cases ru;refine hV I1 (I1.ok.hd hc) (by omega) hq λh2 k2 S2 kk=>?_;refine fH ?_;obtain⟨o,es,ep,t,ho,hex,hd,hz,hf,hn⟩:=S2;have I2:Inv X pins σ H1 { s1 with heap:=h2,toks:=k2 }:=I1.kept λb o e=>kk b o (aQ e) e;refine call_len_set ho hex hd hf (by unfold scanBound at hz;omega) ⟨.int n,H1,I2.tok _,⟨_,by rw[hn]⟩,q⟩
def D9:aI->Option (List Key)
 |[]=>some []
 |d::ds=>match zD d,D9 ds with
  |some k,some ks=>some (k::ks)
  |_,_=>none
theorem HJ:∀{ds:aI} {xs:bA} {ks:List Key},tm G H ds xs->D9 ds=some ks->xs=ks.map kV
 |[],xs,ks,r,e=>by cases e;unfold tm at r;exact r
 |d::ds,xs,ks,r,e=>by
  unfold D9 at e;cases e1:zD d with
  |none=>rw[e1]at e;cases e
  |some k=>
   cases e2:D9 ds with
   |none=>rw[e1,e2]at e;cases e
   |some ks'=>rw[e1,e2]at e;cases e;unfold tm at r;obtain⟨v,r',rfl,h1,h2⟩:=r;rw[z8 h1 e1,HJ h2 e2];rfl
def vO(ds:aI):Option D:=match D9 ds with
 |some ks=>if ks.length<=1000 then some (.int (yM ks).length)else none
 |none=>none
def CH(g:aI->Option D):D->Option D
 |.lst ds=>match vO ds with
  |some r=>some r
  |none=>g ds
 |.tup ds=>vO ds
 |.fzl ds=>vO ds
 |_=>none
theorem TR{g:aI->Option D}{ds:aI}{r:D}(h:vO ds=some r):CH g (.lst ds)=some r:=by show (match vO ds with|some r=>some r|none=>g ds)=some r;rw[h]
theorem LI{g:aI->Option D}(hK:X.K=G.K)(hO:∀{H a n},WU X.K H a n->S X.K H a n)
  (hg:∀{ds d H1 H1' a xs},g ds=some d->SqL X.K H1' a xs->tm G H1 ds xs->tQ H1 H1'->∃n:Nat,S X.K H1' a n/\d=.int n)
  (h:PE X e (MV S X.K (tF G f))):PE X e (tF G (c1 (CH g) f)):=PE.weak h λσ H Q hh=>by
 sleep 1
 obtain⟨x,e1,e2⟩:=EX e;have key:∀{ds:aI} {xs:bA} {a:Addr} {H1 H1':Hp},vO ds=some d->tm G H1 ds xs->tQ H0 H1->tS G F σ ρ' H1 H1'->(SqL X.K H1' a xs\/SqT X.K H1' a xs)->
   ∃a' n,V.ref a=.ref a'/\S X.K H1' a' n/\Q (.int n) H1':=λ{ds xs a H1 H1'} ed rs s R' hq=>by
  unfold vO at ed;cases ek:D9 ds with
  |none=>rw[ek]at ed;cases ed
  |some ks=>
   rw[ek]at ed;simp only at ed;split at ed
   ·rename_i hl;cases ed;rw[HJ rs ek]at hq;exact⟨a,_,rfl,hO ⟨ks,hq,by unfold scanBound;omega,rfl⟩,k _ _ _ s R' (vz _)⟩
   ·cases ed
 refine⟨F,ρ,H0,x,ρ',R,e1,λv H1 H1' s R' r=>?_⟩;cases x with
 |lst ds=>
  unfold Rep at r;obtain⟨a,xs,rfl,h1,h2⟩:=r;have hq:SqL X.K H1' a xs:=SqL.of (R'.sub _ _ h1);replace e2:(match vO ds with|some r=>some r|none=>g ds)=some d:=e2;cases e3:vO ds with
  |some r=>rw[e3]at e2;cases e2;exact key e3 h2 s R' (.inl hq)
  |none=>rw[e3]at e2;obtain⟨n,h3,rfl⟩:=hg e2 hq h2 R'.sub;exact⟨a,n,rfl,h3,k _ _ _ s R' (vz _)⟩
 |tup ds=>unfold Rep at r;obtain⟨a,xs,rfl,h1,h2⟩:=r;rw[<-hK]at h1;exact key e2 h2 s R' (.inr (SqT.mono R'.sub h1))
 |fzl ds=>unfold Rep at r;obtain⟨a,xs,rfl,h1,h2⟩:=r;rw[<-hK]at h1;exact key e2 h2 s R' (.inl (R'.sub.seq h1))
 |_=>cases e2
end
theorem MW{P:ay}{w:av}{k:Key}{v:aa}(h:(ua P w).is k v=true):RelV (kV k) v:=by
 rcases uG h with ⟨i,t,rfl,rfl⟩|⟨x,t,rfl,rfl⟩
 ·exact⟨t,rfl⟩
 ·exact⟨t,rfl⟩
def Itd(a:Addr)(o:Obj)(kvs:List (Key×V)):It:=
 ⟨λi H=>i<kvs.length/\H a=some (.frz o (.dK kvs)),λi H x H'=>H'=H/\∃k z,kvs[i]?=some (k,z)/\x=kV k,λi H=>kvs.length<=i/\H a=some (.frz o (.dK kvs))⟩
section
variable{X:Cx}{pins:cp}{σ:St}{H:Hp}{s:ae}
theorem Ea{es:Array DictEntry}(I:Inv X pins σ H s)(e:H a=some (.frz o (.dK kvs)))(hd:o.data=.dict es ep):
  (a==df)=false/\s.heap.get? a=some o/\∃vs,KV kvs vs/\s.heap.DictAt (ua X.prog X.w) a vs ep:=by
 obtain⟨q0,_,y,vs,r,ob,es',ep',q1,q2,q3,q4⟩:=(show uT X.prog X.w H s.heap a (.frz o (.dK kvs)) from I.hok a _ e);rw[q0]at q1;cases q1;rw[hd]at q3;cases q3;exact⟨y,q0,vs,r,o,es,q0,q2,hd,q4⟩
theorem WW{vs:List (Key×aa)}(r:KV kvs vs){k:Key}{x:aa}(e:vs[i]?=some (k,x)):∃z,kvs[i]?=some (k,z):=by
 induction r generalizing i with
 |nil=>cases e
 |@cons p q l l' h _ ih=>
  cases i with
  |zero=>obtain⟨pk,pv⟩:=p;cases e;exact⟨pv,by rw[show pk=k from h.1];rfl⟩
  |succ i=>exact ih e
end
theorem Ou{P:ay}{w:av}{K:au}(a it:Addr)(o:Obj)(kvs:List (Key×V)):Turn P w K tg (Itd a o kvs) [it] it (λi h=>∃es ep,o.data=.dict es ep/\h.IsKeyIter it a i kvs.length ep) where
 mem:=by simp
 obj:=λi h st b hb=>by
  have e:b=it:=by simpa using hb
  subst e;obtain⟨es,ep,hd,ob,e,c,d⟩:=st;exact⟨ob,e,λv z=>by rw[d]at z;cases z⟩
 keep:=λi h h' st k=>by obtain⟨es,ep,hd,x⟩:=st;exact⟨es,ep,hd,x.at λo e=>k it (by simp) o e⟩
 item:=by
  intro X hP hw hK hc i pins s σ H E I hf st hg;subst hP hw hK;obtain⟨hi,he⟩:=hg;obtain⟨es,ep,hd,ki⟩:=st;obtain⟨f0,f1,f2,f3,f4,f5⟩:=hf it (by simp);obtain⟨_,_,vs,r,da⟩:=Ea I he hd;have hl:kvs.length=vs.length:=r.length;have hne:a≠it:=λz=>by subst z;rw[he]at f0;cases f0
  have W:=Walks.dictKeys (knd:=ua X.prog X.w) (A:=X.A) (I.ok.hd hc) it a hne vs ep;refine W.item i s _ _ (by omega) ⟨by rw[<-hl];exact ki,da⟩ λv h' tk hv st' kk=>?_;obtain⟨k,x,hx,hk⟩:=hv;obtain⟨z,hz⟩:=WW r hx;have I1:Inv X pins σ H { s with heap:=h',toks:=tk }:=I.turned (λb o hb e=>kk b o (by simpa using hb) e) f0 f1 f3 f4 f5;obtain⟨ki',_⟩:=st';rw[<-hl]at ki';obtain⟨ob,e,c,d⟩:=id ki';exact⟨v,rfl,Ms (s:={ s with heap:=h',toks:=tk }) e c d (by decide) ⟨kV k,H,I1,MW hk,⟨rfl,k,z,hz,rfl⟩,⟨es,ep,hd,ki'⟩,λb hb=>(hf b hb).1⟩⟩
 done:=by intro X hP hw hK hc i pins s σ H E I hf st hg;subst hP hw hK;obtain⟨hi,he⟩:=hg;obtain⟨es,ep,hd,ki⟩:=st;obtain⟨f0,f1,f2,f3,f4,f5⟩:=hf it (by simp);obtain⟨_,_,vs,r,da⟩:=Ea I he hd;have hl:kvs.length=vs.length:=r.length;exact wpAny_pyNext_dict_end (I.ok.hd hc) (by rw[<-hl];exact ki) da (gh (by rw[<-hl];exact hi)) λh' eb=>⟨rfl,I.turned (t':=s.toks) (λb o hb e=>eb b o hb e) f0 f1 f3 f4 f5⟩
 self:=λ_ _ _ _ _ st h=>by obtain⟨es,ep,hd,ki⟩:=st;exact wpAny_pyIter_keyiter ki h
section
variable{X:Cx}{G:Bg}{tg:Expr}
def iDic(tl:TE):TI:=λσ H R=>tl σ H λx H1=>∃a o kvs,x=.ref a/\H1 a=some (.frz o (.dK kvs))/\R (Itd a o kvs) H1
theorem TU{l:Expr}{tl:TE}(hl:PE X l tl):PI X tg l (iDic tl):=by
 intro pins s σ H R I h;refine thn (hl pins s σ H _ I h) λv s1 zz=>?_;obtain⟨x,H1,I1,r1,q1⟩:=zz;obtain⟨a,o,kvs,e,he,q⟩:=q1;subst e;cases r1;obtain⟨q0,_,y,vs,r,ob,es,ep,e1,e2,e3,e4⟩:=(show uT X.prog X.w H1 s1.heap a (.frz o (.dK kvs)) from I1.hok a _ he);rw[q0]at e1;cases e1;have hl:kvs.length=vs.length:=r.length;refine wpAny_pyIter_dict (knd:=ua X.prog X.w) (kvs:=vs) (ep:=ep) y ⟨o,es,q0,e2,e3,e4⟩ ?_;refine⟨s1.heap.objs.size,[s1.heap.objs.size],_,_,H1,rfl,I1.kept (t':=s1.toks) λb o e=>aN _ e,Ou a _ o kvs,⟨es,ep,e3,⟨_,bu _ rfl,rfl,by rw[hl];rfl⟩⟩,λb hb=>?_,q⟩;have e:b=s1.heap.objs.size:=by simpa using hb
 subst e;exact I1.fpOk (aJ _) (I1.hok.fresh (aJ _))
def WX:Key->D
 |.inl i=>.int i
 |.inr x=>.str x
theorem TV(k:Key){H:Hp}:Rep G H (WX k) (kV k):=by
 cases k with
 |inl i=>exact vz i
 |inr x=>exact zZ x
def iD(f:FE):FA:=λρ=>match f ρ with
 |some (.dic ks ds,ρ1)=>if ks.length=ds.length then some (ks.map WX,ρ1)else none
 |_=>none
theorem Qq{tg:Expr}(h:PI X tg e (iDic (tF G f))):PI X tg e (tFI G (iD f)):=PI.weak h λσ H R hh=>by
 obtain⟨F,ρ,H0,ds,ρ',R,e,k⟩:=hh;unfold iD at e;split at e
 ·rename_i ks ds' ρ1 e1;split at e
  ·rename_i hlen;cases e;refine⟨F,ρ,H0,_,_,R,e1,λv H1 H1' s R' r=>?_⟩;unfold Rep at r;obtain⟨a,o,xs,rfl,r1,r2,r3⟩:=r;have hz:(ks.zip xs).length=ks.length:=by rw[gv,<- r2,gE]
   refine⟨a,o,_,rfl,R'.sub _ _ r1,k _ _ _ s R' λi H2 H2' t t'=>⟨λd ed=>?_,λhl=>?_⟩⟩
   ·rw[bB]at ed;cases ek:ks[i]? with
    |none=>rw[ek]at ed;cases ed
    |some j=>
     rw[ek]at ed;cases ed;have hi:i<ks.length:=(b0.mp ek).1;refine⟨⟨by rw[hz];exact hi,t' _ _ (t _ _ r1)⟩,λz H3 y=>?_⟩;obtain⟨e3,k',z',hk',rfl⟩:=y;subst e3;have:k'=j:=by rw[List.getElem?_zip_eq_some]at hk';have:=hk'.1;rw[ek]at this;exact(cw this).symm
     subst this;exact⟨H2,tQ.refl _,t',tQ.refl _,λb o e=>.inl e,TV _⟩
   ·refine⟨by rw[hz,hl,aj];exact aJ _,t' _ _ (t _ _ r1)⟩
  ·cases e
 ·cases e
end
mutual
def noC(N c:Nat):D->Bool
 |.non=>true
 |.bl _=>true
 |.int _=>true
 |.str _=>true
 |.tup ds=>yN N c ds
 |.lst ds=>yN N c ds
 |.fzl ds=>yN N c ds
 |.obj k _ ds=>decide (k<N)&&decide (k≠c)&&yN N c ds
 |.dic _ ds=>yN N c ds
def yN(N c:Nat):aI->Bool
 |[]=>true
 |d::ds=>noC N c d&&yN N c ds
end
def without(H:Hp)(a:Addr):Hp:=λb=>if b=a then none else H b
theorem FP{H:Hp}{b:Addr}(h:b≠a):without H a b=H b:=by unfold without;rw[ag h]
theorem CJ{H:Hp}{b:Addr}{o:HO}(h:without H a b=some o):b≠a/\H b=some o:=by
 unfold without at h;by_cases hb:b=a
 ·rw[af hb]at h;cases h
 ·rw[ag hb]at h;exact⟨hb,h⟩
theorem wH{H:Hp}{b:Addr}{u v:HO}(ha:H a=some u)(hb:H b=some v)(d:u≠v):without H a b=some v:=by rw[FP (λz=>by subst z;rw[ha]at hb;exact d (cw hb))];exact hb
variable{p:Addr}{xs:bA}
section
variable{G:Bg}{H:Hp}{a dx:Addr}{fs:List (Str×V)}{N c:Nat}
theorem Kq(ha:H a=some (.ins (G.ca c) dx fs))(h:SqT G.K H p xs):SqT G.K (without H a) p xs:=by
 rcases h with (h|⟨o,h⟩)|h
 ·exact .inl (.inl (wH ha h (λz=>nomatch z)))
 ·exact .inl (.inr ⟨o,wH ha h (λz=>nomatch z)⟩)
 ·exact .inr h
theorem Kr(ha:H a=some (.ins (G.ca c) dx fs))(h:SqL G.K H p xs):SqL G.K (without H a) p xs:=by
 rcases h with (h|⟨o,h⟩)|h
 ·exact .inl (.inl (wH ha h (λz=>nomatch z)))
 ·exact .inl (.inr ⟨o,wH ha h (λz=>nomatch z)⟩)
 ·exact .inr h
mutual
theorem Eb(inj:∀j k,j<N->k<N->G.ca j=G.ca k->j=k)(hc:c<N)(ha:H a=some (.ins (G.ca c) dx fs)):∀(d:D) (v:V),noC N c d=true->Rep G H d v->Rep G (without H a) d v
 |.non,v,_,h=>by unfold Rep at h ⊢;exact h
 |.bl _,v,_,h=>by unfold Rep at h ⊢;exact h
 |.int _,v,_,h=>by unfold Rep at h ⊢;exact h
 |.str _,v,_,h=>by unfold Rep at h ⊢;exact h
 |.tup ds,v,n,h=>by unfold noC at n;unfold Rep at h ⊢;obtain⟨p,xs,e,h1,h2⟩:=h;exact⟨p,xs,e,Kq ha h1,wb inj hc ha ds xs n h2⟩
 |.lst ds,v,n,h=>by unfold noC at n;unfold Rep at h ⊢;obtain⟨p,xs,e,h1,h2⟩:=h;exact⟨p,xs,e,wH ha h1 (λz=>nomatch z),wb inj hc ha ds xs n h2⟩
 |.fzl ds,v,n,h=>by unfold noC at n;unfold Rep at h ⊢;obtain⟨p,xs,e,h1,h2⟩:=h;exact⟨p,xs,e,Kr ha h1,wb inj hc ha ds xs n h2⟩
 |.obj k ns ds,v,n,h=>by unfold noC at n;simp only[aS,bJ]at n;unfold Rep at h ⊢;obtain⟨p,dx',xs,e,h1,h2,h3⟩:=h;refine⟨p,dx',xs,e,wH ha h1 (λz=>?_),h2,wb inj hc ha ds xs n.2 h3⟩;injection z with z1;exact n.1.2 (inj k c n.1.1 hc z1.symm)
 |.dic ks ds,v,n,h=>by unfold noC at n;unfold Rep at h ⊢;obtain⟨p,o,xs,e,h1,h2,h3⟩:=h;exact⟨p,o,xs,e,wH ha h1 (λz=>nomatch z),h2,wb inj hc ha ds xs n h3⟩
theorem wb(inj:∀j k,j<N->k<N->G.ca j=G.ca k->j=k)(hc:c<N)(ha:H a=some (.ins (G.ca c) dx fs)):∀(ds:aI) (xs:bA),yN N c ds=true->tm G H ds xs->tm G (without H a) ds xs
 |[],xs,_,h=>by unfold tm at h ⊢;exact h
 |d::ds,xs,n,h=>by unfold yN at n;simp only[aS]at n;unfold tm at h ⊢;obtain⟨v,r,e,h1,h2⟩:=h;exact⟨v,r,e,Eb inj hc ha d v n.1 h1,wb inj hc ha ds r n.2 h2⟩
end
end
def z9:Sl->Sl
 |.im d=>.im d
 |_=>.un
def BG(N:Nat)(f:FE):FE:=λρ=>match ρ with
 |.ob c ns ds::r=>match f (.im (.obj c ns ds)::r.map z9)with
  |some (d,_)=>if (decide (c<N)&&noC N c d)=true then some (d,ρ)else none
  |none=>none
 |_=>none
section
variable{X:Cx}{G:Bg}
theorem LJ{s:Sl}:(z9 s).own=false:=by cases s<;>rfl
theorem TX{N:Nat}(inj:∀j k,j<N->k<N->G.ca j=G.ca k->j=k)(h:PE X e (tF G f)):PE X e (tF G (BG N f)):=PE.weak h λσ H Q hh=>by
 sleep 1
 unfold BG at e;split at e
 ·rename_i c ns ds r;rcases ud (f:=f) (ρ:=.im (.obj c ns ds)::r.map z9)with e1|⟨x,ρ1,e1⟩<;>simp only[e1]at e
  ·cases e
  split at e
  ·rename_i hn;cases e;simp only[aS,bJ]at hn;obtain⟨a,dx,xs,h1,h2,h3,h4,h5,h6⟩:=R.sl 0 _ rfl;have RL:tS G ⟨upd H0 a (.ins (G.ca c) dx (ns.zip xs)),H,[]⟩ σ (.im (.obj c ns ds)::r.map z9) (upd H0 a (.ins (G.ca c) dx (ns.zip xs))) H:={
    sub:=λb o q=>by
     by_cases hb:b=a
     ·subst hb;rw[tG]at q;cases q;exact h2
     ·rw[tK hb]at q;exact R.sub _ _ q
    g0:=tQ.refl _
    keep:=λb o q _=>q
    fr:=λb o q=>.inl q
    am:=λb q=>by cases q
    len:=by have:=R.len;simpa using this
    sl:=λi s q=>by
     cases i with
     |zero=>cases q;exact⟨.ref a,h1,by unfold Rep;exact⟨a,dx,xs,rfl,tG,h5,tm.mono (uc h3 _) _ _ h6⟩⟩
     |succ i=>
      have q':(r.map z9)[i]?=some s:=q;rw[bB]at q';cases q1:r[i]? with
      |none=>rw[q1]at q';cases q'
      |some t=>
       rw[q1]at q';cases q';have ok:=R.sl (i+1) t q1;cases t with
       |im d=>obtain⟨v,g1,g2⟩:=ok;exact⟨v,g1,Rep.mono (uc h3 _) _ _ g2⟩
       |_=>trivial
    ap:=λi j s t b _ qi _ so=>by
     cases i with
     |zero=>cases qi;cases so
     |succ i=>
      have q':(r.map z9)[i]?=some s:=qi;rw[bB]at q';cases q1:r[i]? with
      |none=>rw[q1]at q';cases q'
      |some t=>rw[q1]at q';cases q';rw[LJ]at so;cases so }
   refine⟨_,_,_,d,ρ1,RL,e1,λv H1 H1' s R' rd=>?_⟩;have ha:H1 a=some (.ins (G.ca c) dx (ns.zip xs)):=s _ _ tG;have s0:tQ H0 (without H1 a):=λb o q=>by
    have hb:b≠a:=λz=>by subst z;rw[h3]at q;cases q
    rw[FP hb];exact s b o (by rw[tK hb];exact q)
   refine k v (without H1 a) H1' s0 ?_ (Eb inj hn.1 ha d v hn.2 rd);refine R.grow (λb o q=>R'.keep b o q (by simp)) s0 (λb o q=>R'.sub _ _ (CJ q).2) λb o q=>?_;obtain⟨hb,q⟩:=CJ q;rcases R'.fr b o q with z|z
   ·have z':upd H0 a (.ins (G.ca c) dx (ns.zip xs)) b=some o:=z;rw[tK hb]at z';exact .inl z'
   ·exact .inr z
  ·cases e
 ·cases e
end
section
variable{X:Cx}{pins:cp}{σ:St}{H:Hp}{s:ae}{a:Addr}{A:aC}{E:aa->ae->Prop}
theorem WY{k:Key}{z:V}{u r:aa}{Q:aa->ae->Prop}(I:Inv X pins σ H s)(e:H a=some (.dK kvs))(ry:RelV (kV k) u)(rz:RelV z r)(hl:kvs.length<aG)
  (h1:∀v w s',wX kvs k=some v->Inv X pins σ H s'->RelV v w->Q w s') (h2:∀s',wX kvs k=none->Inv X pins σ (upd H a (.dK (putK kvs k z))) s'->Q r s'):
  ai (model X.prog X.w) A (call (.builtin "dict.setdefault") [.ref a,u,r]) Q E s:=by
 obtain⟨y,hd,vs,rel,dd⟩:=Pi I.hok e;have hz:vs.length<=aG:=by rw[<-rel.length];exact y
 have hp:(putK kvs k z).length<=aG:=by have:=yP kvs k z;omega
 have rv:=rel.val k;refine gA mY dd.typeIs F.entry_dict_setdefault (F.args_dict_setdefault_3 _ _ _) (kt_meets_setdefault (ua X.prog X.w) a (Cs ry) hd r) ⟨vs,dd,hz,λw hw=>?_,λhn h' dd' hs=>?_⟩
 ·rw[hw]at rv;cases ev:wX kvs k with
  |none=>rw[ev]at rv;exact rv.elim
  |some v=>rw[ev]at rv;exact h1 v w _ ev (I.tok _) rv
 ·rw[hn]at rv;cases ev:wX kvs k with
  |some v=>rw[ev]at rv;exact rv.elim
  |none=>have he:∃q,h'.get? a=some q:=let ⟨q,_,_,hq,_⟩:=dd';⟨q,hq⟩;exact h2 _ ev (EW I (by rw[e];exact True.intro) hs he (Lo hp hd (rel.put k rz) dd'))
def Qr(td ty tx:TE):TE:=λσ H Q=>td σ H λx H1=>∃a,x=.ref a/\IsD H1 a/\ty σ H1 λy H2=>tx σ H2 λz H3=>∃kvs k,H3 a=some (.dK kvs)/\y=kV k/\kvs.length<aG/\
 (∀v,wX kvs k=some v->Q v H3)/\(wX kvs k=none->Q z (upd H3 a (.dK (putK kvs k z))))
theorem Qs{o f:Expr}{td ty tx:TE}(ho:PE X o td)(he:PE X e ty)(hf:PE X f tx)(m:M2 X o "setdefault" apos e f cpos):PE X (.Call (.Attribute o "setdefault" apos) [e,f] [] cpos) (Qr td ty tx):=by
 intro pins s σ H Q I h;refine jg m.base m.few m.line jh mY F.type_dict_setdefault (thn (ho pins s σ H _ I h) λu s1 zz=>?_);obtain⟨x,H1,I1,rx,a,ex,d,q1⟩:=zz;subst ex;obtain rfl:u=Value.ref a:=rx;obtain⟨t1,t2,_⟩:=IW I1 d;refine⟨t1,t2,?_⟩;rw[m.trees];refine gZ rfl (hU (dU (thn (he pins s1 σ H1 _ I1 q1) λiv s2 ⟨y,H2,I2,ry,q2⟩=>
  dU (thn (hf pins s2 σ H2 _ I2 q2) λfv s3 ⟨z,H3,I3,rz,kvs,k,e3,ey,hl,g1,g2⟩=>fH ?_))))
 subst ey;exact WY I3 e3 ry rz hl (λv w s' ev I' rw'=>⟨v,H3,I',rw',g1 v ev⟩) λs' ev I'=>⟨z,_,I',rz,g2 ev⟩
end
def Aa(ks:List Key)(dss:List aI)(k:Key)(d:D):List Key×List aI:=
 if EN ks k=true then (ks,d9 (λk' ds=>if k'=k then ds++[d]else ds) ks dss)else (ks++[k],dss++[[d]])
theorem CK{k:Key}:EN ks k=true ↔ k∈ks:=by unfold EN;rw[dY];exact⟨λ⟨x,h1,h2⟩=>bK h2▸h1,λh=>⟨k,h,aM rfl⟩⟩
variable{vs:bA}
theorem Qt{k:Key}{v:V}:ks.length=vs.length->wX (ks.zip vs) k=some v->∃j:Nat,ks[j]?=some k/\vs[j]?=some v:=by
 induction ks generalizing vs with
 |nil=>intro _ h;cases h
 |cons k0 ks ih=>
  intro hl h;cases vs with
  |nil=>cases hl
  |cons v0 vs=>
   unfold wX at h;rw[eJ,cU]at h;by_cases e:k0=k
   ·subst e;simp only[decide_true]at h;cases h;exact⟨0,rfl,rfl⟩
   ·simp only[e,decide_false]at h;obtain⟨j,h1,h2⟩:=ih (by simpa using hl) h;exact⟨j+1,h1,h2⟩
theorem Qu{k:Key}:ks.length=vs.length->wX (ks.zip vs) k=none->k∉ks:=by
 induction ks generalizing vs with
 |nil=>intro _ _ h;cases h
 |cons k0 ks ih=>
  intro hl h hm;cases vs with
  |nil=>cases hl
  |cons v0 vs=>
   unfold wX at h;rw[eJ,cU]at h;by_cases e:k0=k
   ·subst e;simp only[decide_true]at h;cases h
   ·simp only[e,decide_false]at h;rcases aT.mp hm with z|z
    ·exact e z.symm
    ·exact ih (by simpa using hl) h z
structure Grp(G:Bg)(F:Fr)(H0 H:Hp)(a:Addr)(ks:List Key)(dss:List aI)(bs:List Addr):Prop where
 at_:H a=some (.dK (ks.zip (bs.map V.ref)))
 n0:H0 a=none
 nB:F.B a=none
 len:ks.length=bs.length
 len':bs.length=dss.length
 nd:bs.Nodup
 kd:ks.Nodup
 each:∀(i:Nat) (b:Addr) (ds:aI),bs[i]?=some b->dss[i]?=some ds->∃xs,H b=some (.lst xs)/\H0 b=none/\F.B b=none/\tm G H0 ds xs
variable{j:Nat}
section
variable{G:Bg}{F:Fr}{σ:St}{ρ:aU}{H0 H H0' H':Hp}{a:Addr}{ks:List Key}{dss:List aI}{bs:List Addr}
theorem Grp.grow(g:Grp G F H0 H a ks dss bs)(hs:tQ H H')(h0:tQ H0 H0')(hf:∀b o,H0' b=some o->H0 b=some o\/H b=none):Grp G F H0' H' a ks dss bs where
 at_:=hs _ _ g.at_
 n0:=by
  cases q:H0' a with
  |none=>rfl
  |some o=>
   rcases hf a o q with z|z
   ·rw[g.n0]at z;cases z
   ·rw[g.at_]at z;cases z
 nB:=g.nB
 len:=g.len
 len':=g.len'
 nd:=g.nd
 kd:=g.kd
 each:=λi b ds e1 e2=>by
  obtain⟨xs,q1,q2,q3,q4⟩:=g.each i b ds e1 e2;refine⟨xs,hs _ _ q1,?_,q3,tm.mono h0 _ _ q4⟩;cases q:H0' b with
  |none=>rfl
  |some o=>
   rcases hf b o q with z|z
   ·rw[q2]at z;cases z
   ·rw[q1]at z;cases z
theorem tS.still(R:tS G F σ ρ H0 H)(no:∀s∈ρ,s.own=false):tS G ⟨H0,H,[]⟩ σ ρ H0 H where
 sub:=R.sub
 g0:=tQ.refl _
 keep:=λb o e _=>e
 fr:=λb o e=>.inl e
 am:=λa h=>by cases h
 len:=R.len
 sl:=λi s e=>by
  have ok:=R.sl i s e;have n:=no s (b8 e);cases s with
  |un=>trivial
  |im d=>exact ok
  |_=>cases n
 ap:=λi j s t b _ e _ so=>by rw[no s (b8 e)]at so;cases so
theorem tS.touch(R:tS G F σ ρ H0 H)(no:∀s∈ρ,s.own=false)(hk:∀b o,H b=some o->(H0 b≠none\/F.B b≠none)->H' b=some o)(ha:∀b o,H b=some o->∃o',H' b=some o'):tS G F σ ρ H0 H' where
 sub:=λb o e=>hk b o (R.sub _ _ e) (.inl (by rw[e];exact λz=>nomatch z))
 g0:=R.g0
 keep:=λb o e n=>hk b o (R.keep b o e n) (.inr (by rw[e];exact λz=>nomatch z))
 fr:=R.fr
 am:=λb hb=>by obtain⟨o,e⟩:=R.am b hb;exact ha b o e
 len:=R.len
 sl:=λi s e=>by
  have ok:=R.sl i s e;have n:=no s (b8 e);cases s with
  |un=>trivial
  |im d=>exact ok
  |_=>cases n
 ap:=λi j s t b _ e _ so=>by rw[no s (b8 e)]at so;cases so
theorem WZ{bs:List Addr}(h:bs.Nodup){b:Addr}(e1:bs[i]?=some b)(e2:bs[j]?=some b):i=j:=by obtain⟨h1,q1⟩:=b0.mp e1;obtain⟨h2,q2⟩:=b0.mp e2;exact(kC h).mp (q1.trans q2.symm)
theorem W0{ks:List Key}(h:ks.Nodup){b:Key}(e1:ks[i]?=some b)(e2:ks[j]?=some b):i=j:=by obtain⟨h1,q1⟩:=b0.mp e1;obtain⟨h2,q2⟩:=b0.mp e2;exact(kC h).mp (q1.trans q2.symm)
theorem Grp.more(g:Grp G F H0 H a ks dss bs){k:Key}{b:Addr}{v:V}(ek:ks[j]?=some k)(eb:bs[j]?=some b)(hx:H b=some (.lst xs))(rd:Rep G H0 d v):
  Grp G F H0 (upd H b (.lst (xs++[v]))) a (Aa ks dss k d).1 (Aa ks dss k d).2 bs:=by
 have hm:EN ks k=true:=CK.mpr (b8 ek);unfold Aa;rw[af hm];have ne:a≠b:=λz=>by subst z;rw[g.at_]at hx;cases hx
 refine⟨by rw[tK ne];exact g.at_,g.n0,g.nB,g.len,?_,g.nd,g.kd,λi c ds e1 e2=>?_⟩
 ·rw[kh,<- g.len',<- g.len,gE,g.len]
 ·rw[List.getElem?_zipWith]at e2;cases q1:ks[i]? with
  |none=>rw[q1]at e2;cases e2
  |some k'=>
   cases q2:dss[i]? with
   |none=>rw[q1,q2]at e2;cases e2
   |some ds'=>
    rw[q1,q2]at e2;cases e2;obtain⟨ys,w1,w2,w3,w4⟩:=g.each i c ds' e1 q2;by_cases hk:k'=k
    ·subst hk;have ij:=W0 g.kd q1 ek;subst ij;rw[e1]at eb;cases eb;rw[w1]at hx;cases hx;rw[af rfl];exact⟨_,tG,w2,w3,vp w4 (ur rd uq)⟩
    ·rw[ag hk];have nc:c≠b:=λz=>by subst z;have ij:=WZ g.nd e1 eb;subst ij;rw[q1]at ek;cases ek;exact hk rfl
     exact⟨ys,by rw[tK nc];exact w1,w2,w3,w4⟩
theorem Grp.fresh(g:Grp G F H0 H a ks dss bs){k:Key}{v:V}(hk:k∉ks)(hp:H p=none)(h0:H0 p=none)(hB:F.B p=none)(rd:Rep G H0 d v):
  Grp G F H0 (upd (upd (upd H p (.lst [])) a (.dK ((ks++[k]).zip ((bs++[p]).map V.ref)))) p (.lst [v])) a (Aa ks dss k d).1 (Aa ks dss k d).2 (bs++[p]):=by
 have hm:¬EN ks k=true:=λz=>hk (CK.mp z);unfold Aa;rw[ag hm];have ne:a≠p:=λz=>by subst z;rw[g.at_]at hp;cases hp
 have np:p∉bs:=λz=>by
  obtain⟨i,hi,e⟩:=kj z;have e1:bs[i]?=some p:=by rw[aZ hi,e]
  obtain⟨ds,e2⟩:∃ds,dss[i]?=some ds:=⟨dss[i]'(by rw[<-g.len'];exact hi),aZ _⟩;obtain⟨ys,w1,_⟩:=g.each i p ds e1 e2;rw[hp]at w1;cases w1
 refine⟨by rw[tK ne,tG],g.n0,g.nB,by simp[g.len],by simp[g.len'],?_,?_,λi c ds e1 e2=>?_⟩
 ·rw[bT];refine⟨g.nd,by simp,λx hx y hy=>?_⟩;rw[aR]at hy;subst hy;exact λz=>np (z▸hx)
 ·rw[bT];refine⟨g.kd,by simp,λx hx y hy=>?_⟩;rw[aR]at hy;subst hy;exact λz=>hk (z▸hx)
 ·by_cases hi:i<bs.length
  ·rw[fE hi]at e1;rw[fE (by rw[<-g.len'];exact hi)]at e2;obtain⟨ys,w1,w2,w3,w4⟩:=g.each i c ds e1 e2;have nc:c≠p:=λz=>np (z▸b8 e1);have na:c≠a:=λz=>by subst z;rw[g.at_]at w1;cases w1
   exact⟨ys,by rw[tK nc,tK na,tK nc];exact w1,w2,w3,w4⟩
  ·have hi':i=bs.length:=by have:i<(bs++[p]).length:=(b0.mp e1).1;rw[aP,cB]at this;omega
   subst hi';rw[fD (aJ _),pI]at e1;rw[g.len',fD (aJ _),pI]at e2;cases e1;cases e2;exact⟨[v],tG,h0,hB,ur rd uq⟩
def Ks(G:Bg)(fk:FE):TS:=UN (tBM G.K "list" IU (Qr (zR 1) (tF G fk) (Zz JP)) (Fk (zR 2) JP))
theorem Qv{D0:Ends}{x:D}{k:Key}{vr:V}(R:tS G F σ ρ H0 H)(no:∀s∈ρ,s.own=false)(h1:σ[1]?=some (some (.ref a)))(h2:σ[2]?=some (some vr))(rd:Rep G H0 d vr)
  (g:Grp G F H0 H a ks dss bs) (hk:fk ρ=some (x,ρ)) (ek:zD x=some k) (l1:ks.length<1000) (l2:∀ds∈dss,ds.length<1000)
  (kont:∀Hi Hj bs',tQ H0 Hi->tS G F σ ρ Hi Hj->Grp G F Hi Hj a (Aa ks dss k d).1 (Aa ks dss k d).2 bs'->D0.nx σ Hj):Ks G fk D0 σ H:=by
 refine⟨.ref a,h1,a,rfl,.inl ⟨_,.inl g.at_⟩,_,_,_,x,ρ,tS.still R no,hk,λv H1 H1' s R1 r=>?_⟩;have hs:tQ H H1':=λb o e=>R1.keep b o e (by simp);have hf:∀b o,H1 b=some o->H0 b=some o\/H b=none:=R1.fr;have R2:tS G F σ ρ H1 H1':=R.grow hs s R1.sub hf;have g2:Grp G F H1 H1' a ks dss bs:=g.grow hs s hf;have rd2:=Rep.mono s _ _ rd;refine⟨cf _,λp hp=>?_⟩;have np:a≠p:=λz=>by subst z;rw[g2.at_]at hp;cases hp
 have R3:tS G F σ ρ H1 (upd H1' p (.lst [])):=R2.newOwn hp _;have g3:Grp G F H1 (upd H1' p (.lst [])) a ks dss bs:=g2.grow (uc hp _) (tQ.refl _) λb o e=>.inl e;have lz:(ks.zip (bs.map V.ref)).length<aG:=by rw[gv,aj,<- g.len,gE,bO];omega
 refine⟨_,k,g3.at_,z8 r ek,lz,λw ev=>?_,λev=>?_⟩
 ·obtain⟨j,e1,e2⟩:=Qt (by rw[aj];exact g.len) ev;rw[bB]at e2;cases eb:bs[j]? with
  |none=>rw[eb]at e2;cases e2
  |some b=>
   rw[eb]at e2;cases e2;obtain⟨ds,ed⟩:∃ds,dss[j]?=some ds:=⟨dss[j]'(by rw[<-g.len'];exact(b0.mp eb).1),aZ _⟩;obtain⟨xs,w1,w2,w3,w4⟩:=g3.each j b ds eb ed;have lx:xs.length<aG:=by rw[<-tu w4,bO];have:=l2 ds (b8 ed);omega
   refine⟨.inl ⟨rfl,xs,SqL.of w1⟩,vr,h2,b,xs,vr,rfl,rfl,w1,lx,?_⟩;refine kont H1 _ bs s (tS.touch R3 no (λc o e z=>?_) λc o e=>?_) (g3.more e1 eb w1 rd2)
   ·have nc:c≠b:=λy=>by
     subst y;rcases z with z|z
     ·exact z w2
     ·exact z w3
    rw[tK nc];exact e
   ·by_cases y:c=b
    ·subst y;exact⟨_,tG⟩
    ·rw[tK y];exact⟨o,e⟩
 ·have nk:=Qu (by rw[aj];exact g.len) ev;have h0p:H1 p=none:=R2.h0none hp;have hBp:F.B p=none:=R2.bNone hp;have ez:putK (ks.zip (bs.map V.ref)) k (.ref p)=(ks++[k]).zip ((bs++[p]).map V.ref):=by rw[Ph _ ev,bE,kJ (by rw[aj];exact g.len)];rfl
  rw[ez];have q0:upd (upd H1' p (.lst [])) a (.dK ((ks++[k]).zip ((bs++[p]).map V.ref))) p=some (.lst []):=by rw[tK (λz=>np z.symm),tG]
  refine⟨.inl ⟨rfl,[],SqL.of q0⟩,vr,h2,p,[],vr,rfl,rfl,q0,by rw[bO];decide,?_⟩;refine kont H1 _ (bs++[p]) s (tS.touch R3 no (λc o e z=>?_) λc o e=>?_) (g2.fresh nk hp h0p hBp rd2)
  ·have n1:c≠p:=λy=>by
    subst y;rcases z with z|z
    ·exact z h0p
    ·exact z hBp
   have n2:c≠a:=λy=>by
    subst y;rcases z with z|z
    ·exact z g2.n0
    ·exact z g2.nB
   rw[bU,tK n1,tK n2];exact e
  ·by_cases y:c=p
   ·subst y;exact⟨_,tG⟩
   ·rw[tK y];by_cases y2:c=a
    ·subst y2;exact⟨_,tG⟩
    ·rw[tK y2];exact⟨o,e⟩
end
def AZ(vk:D->Option D):aI->List Key->List aI->Option (List Key×List aI)
 |[],ks,dss=>some (ks,dss)
 |d::r,ks,dss=>match vk d with
  |some x=>match zD x with
   |some k=>if (decide (ks.length<1000)&&dss.all λds=>decide (ds.length<1000))=true then AZ vk r (Aa ks dss k d).1 (Aa ks dss k d).2 else none
   |none=>none
  |none=>none
def LK(vk:D->Option D):FS:=λρ=>match ρ with
 |[.im (.lst L),.un,.un]=>match AZ vk L [] []with
  |some (ks,dss)=>some (.rt (.dic ks (dss.map .lst)) [.im (.lst L),.un,.un])
  |none=>none
 |_=>none
variable{F:Fr}{H0:Hp}
section
variable{X:Cx}{G:Bg}
theorem Ec{Hq:Hp}:∀(bs:List Addr) (dss:List aI),bs.length=dss.length->(∀(i:Nat) (b:Addr) (ds:aI),bs[i]?=some b->dss[i]?=some ds->∃xs,Hq b=some (.lst xs)/\tm G Hq ds xs)->
  tm G Hq (dss.map .lst) (bs.map V.ref)
 |[],[],_,_=>uq
 |[],_::_,h,_=>by cases h
 |_::_,[],h,_=>by cases h
 |b::bs,ds::dss,h,k=>by obtain⟨xs,h1,h2⟩:=k 0 b ds rfl rfl;exact ur (zY h1 h2) (Ec bs dss (by simpa using h) λi b ds e1 e2=>k (i+1) b ds e1 e2)
theorem TY{σ:St}{H:Hp}{dss:List aI}{bs:List Addr}{L:aI}{s2:Sl}(R:tS G F σ [.im (.lst L),.un,s2] H0 H)(g:Grp G F H0 H a ks dss bs)(o:Obj):
  ∃Hq,tQ H0 Hq/\tS G F σ [.im (.lst L),.un,.un] Hq (upd H a (.frz o (.dK (ks.zip (bs.map V.ref)))))/\Rep G Hq (.dic ks (dss.map .lst)) (.ref a):=by
 have mb:∀{b:Addr},b∈bs->∃xs,H b=some (.lst xs)/\H0 b=none/\F.B b=none:=λ{b} hb=>by obtain⟨i,hi,e⟩:=kj hb;obtain⟨xs,w1,w2,w3,_⟩:=g.each i b (dss[i]'(by rw[<-g.len'];exact hi)) (by rw[aZ hi,e]) (aZ _);exact⟨xs,w1,w2,w3⟩
 have na:a∉bs:=λz=>by obtain⟨xs,w1,_⟩:=mb z;rw[g.at_]at w1;cases w1
 have s0:tQ H0 (λc=>if c=a then some (.frz o (.dK (ks.zip (bs.map V.ref))))else if c∈bs then H c else H0 c):=λc u e=>by
  have n1:c≠a:=λz=>by subst z;rw[g.n0]at e;cases e
  have n2:c∉bs:=λz=>by obtain⟨_,_,w2,_⟩:=mb z;rw[w2]at e;cases e
  show (if c=a then _ else if c∈bs then H c else H0 c)=_;rw[ag n1,ag n2];exact e
 refine⟨_,s0,?_,?_⟩
 ·exact {
   sub:=λc u e=>by
    have e':(if c=a then some (HO.frz o (.dK (ks.zip (bs.map V.ref))))else if c∈bs then H c else H0 c)=some u:=e;by_cases n1:c=a
    ·subst n1;rw[af rfl]at e';rw[tG];exact e'
    ·rw[ag n1]at e';rw[tK n1];by_cases n2:c∈bs
     ·rw[af n2]at e';exact e'
     ·rw[ag n2]at e';exact R.sub _ _ e'
   g0:=R.g0.trans s0
   keep:=λc u e n=>by rw[tK (λz=>by subst z;rw[g.nB]at e;cases e)];exact R.keep c u e n
   fr:=λc u e=>by
    have e':(if c=a then some (HO.frz o (.dK (ks.zip (bs.map V.ref))))else if c∈bs then H c else H0 c)=some u:=e;by_cases n1:c=a
    ·subst n1;exact .inr g.nB
    ·rw[ag n1]at e';by_cases n2:c∈bs
     ·obtain⟨_,_,_,w3⟩:=mb n2;exact .inr w3
     ·rw[ag n2]at e';exact R.fr _ _ e'
   am:=λc hc=>by
    by_cases n1:c=a
    ·subst n1;exact⟨_,tG⟩
    ·rw[tK n1];exact R.am c hc
   len:=R.len
   sl:=λi s e=>by
    match i,e with
    |0,e=>cases e;obtain⟨v,w1,w2⟩:=R.sl 0 _ rfl;exact⟨v,w1,Rep.mono s0 _ _ w2⟩
    |1,e=>cases e;trivial
    |2,e=>cases e;trivial
    |i+3,e=>cases e
   ap:=λi j s t b _ e _ so=>by
    match i,e with
    |0,e=>cases e;cases so
    |1,e=>cases e;cases so
    |2,e=>cases e;cases so
    |i+3,e=>cases e }
 ·unfold Rep;refine⟨a,o,bs.map V.ref,rfl,by show (if a=a then _ else _)=_;rw[af rfl],by rw[aj];exact g.len,Ec bs dss g.len' λi b ds e1 e2=>?_⟩;obtain⟨xs,w1,w2,w3,w4⟩:=g.each i b ds e1 e2;have hb:=b8 e1;refine⟨xs,?_,tm.mono s0 _ _ w4⟩;show (if b=a then _ else if b∈bs then H b else H0 b)=_;have nb:b≠a:=λz=>na (by rw[<-z];exact hb);rw[ag nb,af hb];exact w1
def Qw{L:aI}{s2:Sl}(h:s2.own=false):∀s∈[Sl.im (.lst L),.un,s2],s.own=false:=λs hs=>by
 simp only[aT,dZ,or_false]at hs;rcases hs with rfl|rfl|rfl
 ·rfl
 ·rfl
 ·exact h
inductive GI(G:Bg) (F:Fr) (Ha:Hp) (p:Addr) (L:aI) (vk:D->Option D) (KS:List Key) (DSS:List aI) (i:Nat) (σ':St) (H':Hp):Prop
 |mk (Hi:Hp) (ks:List Key) (dss:List aI) (bs:List Addr) (s2:Sl):tQ Ha Hi->Sl.own s2=false->tS G F σ' [.im (.lst L),.un,s2] Hi H'->σ'[1]?=some (some (.ref p))->Grp G F Hi H' p ks dss bs->AZ vk (L.drop i) ks dss=some (KS,DSS)->GI G F Ha p L vk KS DSS i σ' H'
theorem Ov{st1 st2 st3:Stmt}{vk:D->Option D}(h1:PS X st1 (BY Lp (yO 1)))(h2:PS X st2 (VI (tFI G (iL (cV 0))) (yO 2) (Ks G (c1 vk (cV 2)))))
  (h3:PS X st3 (Zm (λσ H Q=>zR 1 σ H λx H1=>Q x H1\/∃a kvs,H1 a=some (.dK kvs)/\∀o,Q x (upd H1 a (.frz o (.dK kvs)))))):PSs X [st1,st2,st3] (tFS G (LK vk)):=
 PSs.weak (Fh h1 (Fh h2 (II h3))) λE σ H hh=>by
  obtain⟨F,ρ,H0,o,R,e,k,k2⟩:=hh;unfold LK at e;split at e
  ·rename_i L;cases eg:AZ vk L [] []with
   |none=>simp only[eg]at e;cases e
   |some p=>
    obtain⟨KS,DSS⟩:=p;simp only[eg]at e;cases e;intro p hp;have R1:tS G F (σ.set 1 (some (.ref p))) [.im (.lst L),.un,.un] H0 (upd H p (.dK [])):=(R.newOwn hp (.dK [])).set (i:=1) (v:=.ref p) (s:=.un) trivial (λz=>by cases z);have hlen:σ.length=3:=R.len;have g1:Grp G F H0 (upd H p (.dK [])) p [] [] []:=⟨tG,R.h0none hp,R.bNone hp,rfl,rfl,kP,kP,λi b ds e1=>by cases e1⟩;have v1:(σ.set 1 (some (V.ref p)))[1]?=some (some (.ref p)):=by rw[i7 (by rw[hlen];decide)]
    refine⟨_,_,_,L,_,tS.still R1 (Qw rfl),rfl,λJ Ha Hb s Ra wk=>?_⟩;have hs:tQ (upd H p (.dK [])) Hb:=λb o e=>Ra.keep b o e (by simp);have R2:=R1.grow hs s Ra.sub Ra.fr;have g2:=g1.grow hs s Ra.fr;refine⟨λi m σ' H'=>m=L.length - i/\i<=L.length/\GI G F Ha p L vk KS DSS i σ' H',
     ⟨_,rfl,cf _,Ha,[],[],[],.un,tQ.refl _,rfl,R2,v1,g2,eg⟩,?_⟩
    rintro i m σi Hi' ⟨rfl,hi,Hi,ks,dss,bs,s2,si,n2,Ri,vi,gi,ei⟩;by_cases hlt:i<L.length
    ·have ed:L.drop i=L[i]::L.drop (i+1):=j2 hlt;rw[ed]at ei;unfold AZ at ei;cases ev:vk L[i]with
     |none=>simp only[ev]at ei;cases ei
     |some x=>
      simp only[ev]at ei;cases ek:zD x with
      |none=>simp only[ek]at ei;cases ei
      |some kk=>
       simp only[ek]at ei;split at ei
       ·rename_i hb;simp only[aS,bJ,bp]at hb;obtain⟨go,yl⟩:=(wk i Hi Hi' si Ri.sub).1 L[i] (aZ hlt);refine .inr ⟨go,GI G F Ha p L vk KS DSS (i+1),
         λσ' H' q=>⟨L.length - (i+1),by omega,rfl,hlt,q⟩,λxv H' y=>?_⟩
        obtain⟨H2,t1,t2,t3,t4,t5⟩:=yl xv H' y;have hl3:σi.length=3:=Ri.len;have R3:tS G F (σi.set 2 (some xv)) [.im (.lst L),.un,.im L[i]] H2 H':=(Ri.grow t3 t1 t2 t4).setIm 2 t5;have w1:(σi.set 2 (some xv))[1]?=some (some (.ref p)):=by rw[j8 (by decide)];exact vi
        have w2:(σi.set 2 (some xv))[2]?=some (some xv):=by rw[i7 (by rw[hl3];decide)]
        refine Qv R3 (Qw rfl) w1 w2 t5 (gi.grow t3 t1 t4) (by show c1 vk (cV 2) _=_;unfold c1 cV;simp only[List.getElem?_cons_succ,List.getElem?_cons_zero,ev]) ek hb.1 (λds hd=>hb.2 ds hd) λHc Hd bs' sc Rc gc=>?_;exact⟨Hc,_,_,bs',_,si.trans (t1.trans sc),rfl,Rc,w1,gc,ei⟩
       ·cases ei
    ·have hi':i=L.length:=by omega
     refine .inl ⟨(wk i Hi Hi' si Ri.sub).2 hi',?_⟩;subst hi';rw[List.drop_length]at ei;cases ei;refine⟨.ref p,vi,.inr ⟨p,_,gi.at_,λo=>?_⟩⟩;obtain⟨Hq,q1,q2,q3⟩:=TY Ri gi o;exact k _ _ Hq _ (s.trans (si.trans q1)) q2 q3
  ·cases e
end
section
variable{X:Cx}{G:Bg}
theorem TZ:∀y b,vg "int" y=some b->cY X.K (y.val G) (.type "int")=some b:=λy b h=>by
 cases y with
 |c k=>cases h
 |b n=>
  unfold vg at h;simp only at h
  iterate 7 (split at h;· rename_i e;subst e;cases h;first|rfl|kernel_rfl)
  cases h
theorem Qx:∀y b,vg "bool" y=some b->cY X.K (y.val G) (.type "bool")=some b:=λy b h=>by
 cases y with
 |c k=>cases h
 |b n=>
  unfold vg at h;simp only at h
  iterate 7 (split at h;· rename_i e;subst e;cases h;first|rfl|kernel_rfl)
  cases h
theorem kit_tuple:∀y b,vg "tuple" y=some b->cY X.K (y.val G) (.type "tuple")=some b:=λy b h=>by
 cases y with
 |c k=>cases h
 |b n=>
  unfold vg at h;simp only at h
  iterate 7 (split at h;· rename_i e;subst e;cases h;first|rfl|kernel_rfl)
  cases h
end
def hold(F:Fr)(p:Addr)(o:HO):Fr:=⟨F.B0,λb=>if b=p then some o else F.B b,F.A⟩
theorem E1{o:HO}:(hold F p o).B p=some o:=by show (if p=p then _ else _)=_;rw[af rfl]
theorem Bq{b:Addr}{o:HO}(h:b≠p):(hold F p o).B b=F.B b:=by show (if b=p then _ else _)=_;rw[ag h]
theorem B2.frame{G:Bg}{F':Fr}{H:Hp}{o:Option V}{s:Sl}(h:B2 G F H0 H o s)(hA:F'.A=F.A)(hB:∀a,o=some (.ref a)->s.own=true->F.B a=none->F'.B a=none):B2 G F' H0 H o s:=by
 cases s with
 |un=>trivial
 |im d=>exact h
 |ls ds=>obtain⟨a,xs,h1,h2,h3,h4,h5⟩:=h;exact⟨a,xs,h1,h2,h3,hB a h1 rfl h4,h5⟩
 |pm ds=>obtain⟨a,xs,h1,h2,h3,h4,h5⟩:=h;exact⟨a,xs,h1,h2,h3,by rw[hA];exact h4,h5⟩
 |dk ks ds=>obtain⟨a,xs,h1,h2,h3,h4,h5,h6⟩:=h;exact⟨a,xs,h1,h2,h3,hB a h1 rfl h4,h5,h6⟩
 |ob c ns ds=>obtain⟨a,dx,xs,h1,h2,h3,h4,h5,h6⟩:=h;exact⟨a,dx,xs,h1,h2,h3,by rw[hA];exact h4,h5,h6⟩
section
variable{X:Cx}{G:Bg}{F:Fr}{σ:St}{ρ:aU}{H0 H:Hp}{p:Addr}{o:HO}
theorem tS.hold(R:tS G F σ ρ H0 H)(hp:H p=none)(o:HO):tS G (L4.hold F p o) σ ρ H0 (upd H p o) where
 sub:=(R.newOwn hp o).sub
 g0:=R.g0
 keep:=λb u e n=>by
  by_cases hb:b=p
  ·subst hb;rw[E1]at e;rw[tG];exact e
  ·rw[Bq hb]at e;exact(R.newOwn hp o).keep b u e n
 fr:=λb u e=>by
  have hb:b≠p:=λz=>by subst z;rw[R.h0none hp]at e;cases e
  rw[Bq hb];exact R.fr b u e
 am:=(R.newOwn hp o).am
 len:=R.len
 sl:=λi s e=>by refine B2.frame ((R.newOwn hp o).sl i s e) rfl λa h1 so hB=>?_;obtain⟨a',u,q1,q2,_⟩:=(R.sl i s e).at so;rw[h1]at q1;cases q1;rw[Bq (λz=>by subst z;rw[hp]at q2;cases q2)];exact hB
 ap:=R.ap
theorem tS.unhold(R:tS G (L4.hold F p o) σ ρ H0 H)(hB:F.B p=none):tS G F σ ρ H0 H where
 sub:=R.sub
 g0:=R.g0
 keep:=λb u e n=>R.keep b u (by rw[Bq (λz=>by subst z;rw[hB]at e;cases e)];exact e) n
 fr:=λb u e=>by
  rcases R.fr b u e with z|z
  ·exact .inl z
  ·by_cases hb:b=p
   ·subst hb;exact .inr hB
   ·rw[Bq hb]at z;exact .inr z
 am:=R.am
 len:=R.len
 sl:=λi s e=>B2.frame (R.sl i s e) rfl λa h1 so q=>by
  by_cases hb:a=p
  ·subst hb;exact hB
  ·rw[Bq hb]at q;exact q
 ap:=R.ap
theorem tS.layHeld(R:tS G (L4.hold F p o) σ ρ H0 H)(hB:F.B p=none)(h0:H0 p=none)(nA:p∉F.A)(u:HO):tS G F σ ρ (upd H0 p u) (upd H p u) where
 sub:=λb v e=>by
  by_cases hb:b=p
  ·subst hb;rw[tG]at e ⊢;exact e
  ·rw[tK hb]at e ⊢;exact R.sub _ _ e
 g0:=(tS.unhold R hB).g0.trans (uc h0 u)
 keep:=λb v e n=>by rw[tK (λz=>by subst z;rw[hB]at e;cases e)];exact(tS.unhold R hB).keep b v e n
 fr:=λb v e=>by
  by_cases hb:b=p
  ·subst hb;exact .inr hB
  ·rw[tK hb]at e;exact(tS.unhold R hB).fr _ _ e
 am:=λb hb=>by
  have hb':b≠p:=λz=>by subst z;exact nA hb
  rw[tK hb'];exact R.am b hb
 len:=R.len
 sl:=λj t e=>by
  have ne:∀a,(σ[j]?).join=some (.ref a)->t.own=true->a≠p:=λa z to y=>by
   subst y;obtain⟨a',v,q1,_,_,q4⟩:=(R.sl j t e).at to;rw[z]at q1;cases q1;rcases q4 with q|q
   ·rw[E1]at q;cases q
   ·exact nA q
  refine((tS.unhold R hB).sl j t e).grow (uc h0 u) (λa v z to q=>?_) λa v z to q q0=>?_
  ·rw[tK (ne a z to)];exact q
  ·rw[tK (ne a z to)];exact q0
 ap:=R.ap
def Ab:List (Str×FE)->aU->Option (aI×aU)
 |[],ρ=>some ([],ρ)
 |(_,f)::r,ρ=>match f ρ with
  |some (d,ρ1)=>match Ab r ρ1 with
   |some (ds,ρ2)=>some (d::ds,ρ2)
   |none=>none
  |none=>none
def Qy(G:Bg)(kfs:List (Str×FE)):List (TE×TE):=kfs.map λq=>(tC (.str q.1),tF G q.2)
theorem Kt:∀(kfs:List (Str×FE)) (ρ ρ':aU) (ds:aI) (H0 H:Hp) (Q:List (V×V)->Hp->Prop),tS G F σ ρ H0 H->Ab kfs ρ=some (ds,ρ')->
  (∀vs H1 H1',tQ H0 H1->tS G F σ ρ' H1 H1'->tm G H1 ds vs->Q (d9 (λk v=>(V.str k,v)) (kfs.map (·.1)) vs) H1')->IV (Qy G kfs) σ H Q
 |[],ρ,ρ',ds,H0,H,Q,R,e,k=>by cases e;exact k [] H0 H (tQ.refl _) R uq
 |(x,f)::r,ρ,ρ',ds,H0,H,Q,R,e,k=>by
  unfold Ab at e;cases e1:f ρ with
  |none=>simp only[e1]at e;cases e
  |some q=>
   obtain⟨d,ρ1⟩:=q;simp only[e1]at e;cases e2:Ab r ρ1 with
   |none=>simp only[e2]at e;cases e
   |some q=>obtain⟨ds',ρ2⟩:=q;simp only[e2]at e;cases e;refine⟨F,ρ,H0,d,ρ1,R,e1,λv H1 H1' s R1 rv=>?_⟩;exact Kt r ρ1 _ ds' H1 H1' _ R1 e2 λvs H2 H2' s2 R2 rs=>k (v::vs) H2 H2' (s.trans s2) R2 (ur (Rep.mono s2 _ _ rv) rs)
theorem Ku:∀(more acc:List (Key×V)),((acc++more).map (·.1)).Nodup->BZ acc more=acc++more
 |[],acc,_=>by rw[bG];rfl
 |q::r,acc,h=>by
  have nq:(acc.any λkv=>decide (kv.1=q.1))=false:=by rw[ji];intro z;obtain⟨y,hy,ey⟩:=dY.mp z;rw[bE,bT]at h;exact h.2.2 y.1 (cQ hy) q.1 (cQ aV) (bK ey)
  have e:putK acc q.1 q.2=acc++[q]:=by unfold putK;rw[nq];rfl
  show BZ (putK acc q.1 q.2) r=_;rw[e,Ku r (acc++[q]) (by simpa using h)];simp
theorem Ow{H:Hp}{p:Addr}{x y:HO}:upd (upd H p x) p y=upd H p y:=by
 funext b
 by_cases hb:b=p
 ·subst hb;rw[tG,tG]
 ·rw[tK hb,tK hb,tK hb]
def Kv(kfs:List (Str×FE)):FE:=λρ=>match Ab kfs ρ with
 |some (ds,ρ')=>some (.dic (kfs.map λq=>Sum.inr q.1) ds,ρ')
 |none=>none
theorem FQ:∀{kfs:List (Str×FE)} {ρ ρ':aU} {ds:aI},Ab kfs ρ=some (ds,ρ')->ds.length=kfs.length
 |[],ρ,ρ',ds,e=>by cases e;rfl
 |(x,f)::r,ρ,ρ',ds,e=>by
  unfold Ab at e;cases e1:f ρ with
  |none=>simp only[e1]at e;cases e
  |some q=>
   obtain⟨d,ρ1⟩:=q;simp only[e1]at e;cases e2:Ab r ρ1 with
   |none=>simp only[e2]at e;cases e
   |some q=>obtain⟨ds',ρ2⟩:=q;simp only[e2]at e;cases e;rw[aO,aO,FQ e2]
theorem Kw:∀(ks:aH) (vs:bA),d9 (λk v=>(V.str k,v)) ks vs=((ks.map λk=>(Sum.inr k:Key)).zip vs).map λkv=>(kV kv.1,kv.2)
 |[],vs=>rfl
 |k::ks,[]=>rfl
 |k::ks,v::vs=>by show (V.str k,v)::_=_;rw[Kw ks vs];rfl
theorem T2{kfs:List (Str×FE)}(h:PE X e (UX (Qy G kfs)))(nd:(kfs.map λq=>(Sum.inr q.1:Key)).Nodup)(h15:kfs.length<=15):PE X e (tF G (Kv kfs)):=PE.weak (PE.ghost h) λσ H Q hh=>by
 sleep 1
 unfold Kv at e;cases e1:Ab kfs ρ with
 |none=>simp only[e1]at e;cases e
 |some q=>
  obtain⟨ds,ρ1⟩:=q;simp only[e1]at e;cases e;intro p hp;have hB:F.B p=none:=R.bNone hp;have nA:p∉F.A:=λz=>by obtain⟨u,q⟩:=R.am p z;rw[hp]at q;cases q
  refine Kt kfs ρ _ ds H0 _ _ (tS.hold R hp (.dK [])) e1 λvs H1 H1' s R1 rs=>?_;have q0:H1' p=some (.dK []):=R1.keep p _ E1 nA;have h0:H1 p=none:=by
   cases q:H1 p with
   |none=>rfl
   |some u=>
    rcases R1.fr p u q with z|z
    ·have:=R.g0 _ _ z;rw[R.h0none hp]at this;cases this
    ·rw[E1]at z;cases z
  have lv:(kfs.map λq=>(Sum.inr q.1:Key)).length=vs.length:=by rw[aj,<- FQ e1,tu rs]
  have kn:(((kfs.map λq=>(Sum.inr q.1:Key)).zip vs).map (·.1))=kfs.map λq=>(Sum.inr q.1:Key):=List.map_fst_zip (by rw[lv];exact aJ _)
  refine⟨q0,(kfs.map λq=>(Sum.inr q.1:Key)).zip vs,?_,?_,.inr ⟨p,_,tG,λob=>?_⟩⟩
  ·rw[Kw,bc];rfl
  ·rw[gv,<- lv,gE,aj];exact h15
  ·rw[Ow,Ku _ [] (by rw[bU,kn];exact nd),bU];refine k _ _ _ (s.trans (uc h0 _)) (tS.layHeld R1 hB h0 nA _) ?_;unfold Rep;exact⟨p,ob,vs,rfl,tG,lv,tm.mono (uc h0 _) _ _ rs⟩
end
end L4
namespace L4
open PySem PySem.Spec PySem.Calls PyProof.Rows PySem.W L2 L3
def Ox{α:Type}(c:Nat->Nat->Bool):KasT α->α
 |.ret a=>a
 |.ask i j k=>Ox c (k (c i j))
def xC{α:Type}(P:Nat->Nat->Prop)(R:α->Prop):KasT α->Prop
 |.ret a=>R a
 |.ask i j k=>P i j/\∀b,xC P R (k b)
theorem xC.run{α:Type}{P:Nat->Nat->Prop}{R:α->Prop}(c:Nat->Nat->Bool):∀(t:KasT α),xC P R t->R (Ox c t)
 |.ret a,h=>h
 |.ask i j k,h=>xC.run c (k (c i j)) (h.2 (c i j))
theorem xC.bind{α β:Type}{P:Nat->Nat->Prop}{R:α->Prop}{S:β->Prop}{f:α->KasT β}(hf:∀a,R a->xC P S (f a)):∀{t:KasT α},xC P R t->xC P S (t.bind f)
 |.ret a,h=>hf a h
 |.ask i j k,h=>⟨h.1,λb=>xC.bind hf (h.2 b)⟩
theorem MX{α:Type}{cmp:Nat->Nat->(Bool->ae->Prop)->ae->Prop}{c:Nat->Nat->Bool}{P:Nat->Nat->Prop}{s:ae}{Q:α->ae->Prop}(hc:∀i j C,P i j->C (c i j) s->cmp i j C s):
  ∀{R:α->Prop} {t:KasT α},xC P R t->Q (Ox c t) s->t.kasWp cmp Q s
 |R,.ret a,_,q=>q
 |R,.ask i j k,h,q=>hc i j _ h.1 (MX hc (h.2 (c i j)) q)
def vP(n:Nat)(p:Array Nat):Prop:=p.toList.Perm (bf n)
theorem vP.getD{n:Nat}{p:Array Nat}(h:vP n p)(hn:0<n)(i:Nat):p.getD i 0<n:=by
 unfold Array.getD;split
 ·rename_i hi;have:p[i]∈p.toList:=by simp
  exact bV.mp (h.mem_iff.mp this)
 ·exact hn
theorem vP.rev{n:Nat}{p:Array Nat}(h:vP n p)(i j:Nat):vP n (kas_rev p i j):=by unfold vP kas_rev mirror;exact(mM.mp (foldl_swaps_perm _ _ _ _)).trans h
theorem vP.bub{n:Nat}{p:Array Nat}(h:vP n p)(i j:Nat):vP n (bubble p i j):=(mM.mp (bubble_perm _ _ _)).trans h
abbrev In2(n:Nat):Nat->Nat->Prop:=λi j=>i<n/\j<n
theorem Jh{n:Nat}(hn:0<n){p:Array Nat}(h:vP n p):∀f k,xC (In2 n) (λ_=>True) (kas_asc p f k)
 |0,k=>trivial
 |f+1,k=>⟨⟨h.getD hn _,h.getD hn _⟩,λb=>by cases b<;>first|exact trivial|exact Jh hn h f (k+1)⟩
theorem CL{n:Nat}(hn:0<n):∀f (p:Array Nat) k q,vP n p->xC (In2 n) (λr=>vP n r.1) (kas_desc f p k q)
 |0,p,k,q,h=>h
 |f+1,p,k,q,h=>⟨⟨h.getD hn _,h.getD hn _⟩,λb=>by
   cases b with
   |true=>
    show xC _ _ (if q > 0 then _ else _);split
    ·exact CL hn f _ _ _ (h.rev _ _)
    ·exact CL hn f _ _ _ h
   |false=>
    refine⟨⟨h.getD hn _,h.getD hn _⟩,λd=>?_⟩;cases d with
    |true=>exact h
    |false=>exact CL hn f _ _ _ h⟩
theorem Kx{n:Nat}(hn:0<n){p:Array Nat}(h:vP n p)(k m:Nat):xC (In2 n) (λr=>vP n r.2) (kas_tail3 k m p):=
 xC.bind (P:=In2 n) (R:=λ_=>True) (S:=λ(r:Nat×Array Nat)=>vP n r.2) (f:=λm=>.ret (m,kas_rev p 0 k)) (λa _=>h.rev 0 k) (Jh hn (h.rev 0 k) _ _)
theorem CM{n:Nat}(hn:0<n){p:Array Nat}(h:vP n p)(k m:Nat):xC (In2 n) (λr=>vP n r.2) (kas_descPart k m p):=
 xC.bind (λr hr=>by
  show xC _ _ (if r.2.2 > 0 then _ else _);split
  ·exact Kx hn (hr.rev _ _) _ _
  ·exact Kx hn hr _ _) (CL hn _ p _ _ h)
theorem Oy{n:Nat}(hn:0<n){p:Array Nat}(h:vP n p)(m:Nat):xC (In2 n) (λr=>vP n r.2) (kas_count m p):=
 xC.bind (λk _=>by
  show xC _ _ (if (k==m)=true then _ else _);split
  ·exact h
  ·split
   ·refine⟨⟨h.getD hn _,h.getD hn _⟩,λb=>?_⟩;cases b with
    |true=>exact h
    |false=>exact CM hn (h.rev _ _) _ _
   ·exact CM hn h _ _) (Jh hn h _ _)
theorem DF{n:Nat}(hn:0<n){p:Array Nat}(h:vP n p)(k:Nat):∀f l r,xC (In2 n) (λ_=>True) (kas_place p k f l r)
 |0,l,r=>trivial
 |f+1,l,r=>by
  unfold kas_place;split
  ·trivial
  ·refine⟨⟨h.getD hn _,h.getD hn _⟩,λb=>?_⟩;cases b with
   |true=>exact DF hn h k f _ _
   |false=>exact DF hn h k f _ _
theorem MY{n:Nat}(hn:0<n):∀f (p:Array Nat) k,vP n p->xC (In2 n) (vP n) (kas_bin f p k)
 |0,p,k,h=>h
 |f+1,p,k,h=>xC.bind (λl _=>MY hn f _ _ (h.bub _ _)) (DF hn h k _ _ _)
theorem FR{n:Nat}(hn:0<n):xC (In2 n) (vP n) (jD n):=
 xC.bind (λr hr=>by
  show xC _ _ (if r.1<n then _ else _);split
  ·exact MY hn _ _ _ hr
  ·exact hr) (Oy hn (p:=List.toArray (bf n)) (by unfold vP;exact List.Perm.refl _) n)
def Br(a:Addr)(h h':Heap):Prop:=∀b o,b≠a->h.get? b=some o->h'.get? b=some o
variable{a:Addr}
section
variable{prog:ay}{w:av}{A:aC}{E:aa->ae->Prop}{s:ae}
def DG(c:Nat->Nat->Bool)(vs:List aa):List aa:=(Ox c (jD vs.length)).toList.map λi=>vs.getD i Value.none
theorem Qz(c:Nat->Nat->Bool)(vs:List aa)(h:0<vs.length):(DG c vs).length=vs.length:=by unfold DG;rw[aj];have:=(FR h).run c _;rw[this.length_eq,cD]
theorem QA(c:Nat->Nat->Bool)(v:aa):DG c [v]=[v]:=rfl
theorem QB{vs:List aa}{n:Nat}{P:p6->ae->Prop}{κ:iC}{c:Nat->Nat->Bool}(ho:s.heap.get? a=some (seqObj "list" vs.toArray n))(h1:0<vs.length)(h64:vs.length<64)
  (hk:∀(h':Heap) (C:iC->ae->Prop),Br a s.heap h'->C κ { s with heap:=h' }->ai (model prog w) A (keyKind' vs.toArray) C (λ_ _=>False) { s with heap:=h' })
  (hc:∀(h':Heap) (i j:Nat) (C:Bool->ae->Prop),Br a s.heap h'->i<vs.length/\j<vs.length->C (c i j) { s with heap:=h' }->jE prog w A κ vs i j C { s with heap:=h' })
  (h:∀h' e,Br a s.heap h'->h'.get? a=some (seqObj "list" (DG c vs).toArray e)->P (.done (.ret .none)) { s with heap:=h' }):
  ai (model prog w) A (di.«list.sort» ⟨[.ref a],[]⟩) P E s:=by
 have ha:a<s.heap.objs.size:=aQ ho;obtain⟨e1,o1⟩:∃e1,(s.heap.update a (cG λ_=>(#[]:Array aa))).get? a=some (seqObj "list" #[] e1):=⟨_,oO ho λ_=>#[]⟩;generalize hw:((s.heap.update a (cG λ_=>(#[]:Array aa))).push (seqObj "tuple" vs.toArray 0)).push (seqObj "list" #[] 0)=h3;have kb:Br a s.heap h3:=λb o hb q=>by rw[<-hw];exact aN _ (aN _ ((gf s.heap _ (cZ hb)).trans q))
 have o3:h3.get? a=some (seqObj "list" #[] e1):=by rw[<-hw];exact aN _ (aN _ o1)
 rw[list_sort_plain];refine ah (listItems_at ho rfl (ah (kW ho rfl ?_ (by rw[bb,bO];omega) (cf _))));refine ah (lL o1 rfl (ah (o9 ?_ (by show vs.length<=_;rw[bO];omega))));refine ah (kX (cc ?_) (cf _));show ai (model prog w) A _ P E { s with heap:=((s.heap.update a (cG λ_=>(#[]:Array aa))).push (seqObj "tuple" vs.toArray 0)).push (seqObj "list" #[] 0) };rw[hw];dsimp only;obtain⟨c2,hc2⟩:∃c2,(h3.update a (cG λ_=>(DG c vs).toArray)).get? a=some (seqObj "list" (DG c vs).toArray c2):=⟨_,oO o3 λ_=>(DG c vs).toArray⟩;have fin:=h _ c2 (λb o hb q=>(gf h3 _ (cZ hb)).trans (kb b o hb q)) hc2;have szo:(DG c vs).toArray.size<=aG+1:=by rw[bb,Qz c vs h1,bO];omega
 by_cases h2:2<=vs.length
 ·have hn2:¬vs.toArray.size<2:=by rw[bb];omega
  rw[ag hn2,ag hn2];refine ah (bX (hk h3 (λk s'=>k=κ/\s'={ s with heap:=h3 }) kb ⟨rfl,rfl⟩) ?_ λ_ _ x=>x.elim);rintro k s' ⟨rfl,rfl⟩;refine ah (bX (kat_run (Q:=λst' s'=>s'={ s with heap:=h3 }/\(arrOf st').map (·.2)=(DG c vs).toArray/\failedOf st'=none) (G:=λp s'=>p=Ox c (jD vs.length)/\s'={ s with heap:=h3 }) rfl h2 h64 ?_ ?_) ?_ λ_ _ e=>e)
  ·rintro p st' s' _ har hf ⟨rfl,rfl⟩;exact⟨rfl,kat_snds rfl har,hf⟩
  ·exact MX (P:=In2 vs.length) (λi j C q r=>hc h3 i j C kb q r) (FR h1) ⟨rfl,rfl⟩
  ·rintro⟨⟨⟩,st'⟩ s' ⟨rfl,ha2,hf⟩;dsimp only;refine ah (lL o3 rfl ?_);rw[ha2,hf];refine ah (kW o3 rfl ?_ (cf _) szo);simp only[bne_self_eq_false,fF,if_false];exact ar fin
 ·obtain⟨v,rfl⟩:∃v,vs=[v]:=by
   cases vs with
   |nil=>cases h1
   |cons v r=>
    cases r with
    |nil=>exact⟨v,rfl⟩
    |cons x y=>exact ao (by simp) h2
  refine ah (ar ?_);refine ah (ar ?_);refine ah (lL o3 rfl ?_);have eo:p8 (λx=>x.snd) (arrOf ((),SortSt.mk' general' (#[v].zip #[v]) #[] 7 none).snd)=(DG c [v]).toArray:=by rw[QA];show p8 (λx=>x.snd) (#[v].zip #[v])=#[v];simp
  rw[eo];refine ah (kW o3 rfl ?_ (cf _) szo);simp only[bne_self_eq_false,fF,if_false];exact ar fin
theorem LL{l:Addr}{T:String}{o:Obj}{n:Nat}{vs:List aa}{Q:aa->ae->Prop}{κ:iC}{c:Nat->Nat->Bool}(hT:T="list" \/ T="tuple")(ho:s.heap.get? l=some o)(hcl:o.cls=.type T)(hd:o.data=.seq vs.toArray n)(h1:0<vs.length)(h64:vs.length<64)
  (hk:∀(h':Heap) (C:iC->ae->Prop),(∀b o,s.heap.get? b=some o->h'.get? b=some o)->C κ { s with heap:=h' }->ai (model prog w) A.in1.in1 (keyKind' vs.toArray) C (λ_ _=>False) { s with heap:=h' })
  (hc:∀(h':Heap) (i j:Nat) (C:Bool->ae->Prop),(∀b o,s.heap.get? b=some o->h'.get? b=some o)->i<vs.length/\j<vs.length->C (c i j) { s with heap:=h' }->jE prog w A.in1.in1 κ vs i j C { s with heap:=h' })
  (h:∀(g h':Heap) e,(∀b o,s.heap.get? b=some o->g.get? b=some o)->(∀b o,g.get? b=some o->h'.get? b=some o)->h'.get? g.objs.size=some (seqObj "list" (DG c vs).toArray e)->Q (.ref g.objs.size) { s with heap:=h' }):
  ai (model prog w) A (call (.builtin "sorted") [.ref l]) Q E s:=by
 refine mN kind_sorted plain_sorted entry_sorted (args_sorted1 _) ?_;unfold di.«sorted»;refine ah (m:=checkCount "sorted" 1 1 _) (ar (ah (wpAny_collect_seq l hT ho hcl hd (λg gk=>?_) (by rw[bO];simp;omega))));refine ah (kX ?_ (by rw[bO];simp;omega));show ai _ _ _ _ _ { s with heap:=g.push (seqObj "list" vs.toArray 0) };have on:(g.push (seqObj "list" vs.toArray 0)).get? g.objs.size=some (seqObj "list" vs.toArray 0):=bu _ rfl;have all:∀h',Br g.objs.size (g.push (seqObj "list" vs.toArray 0)) h'->∀b o,g.get? b=some o->h'.get? b=some o:=λh' kb b o q=>kb b o (aY (aQ q)) (aN _ q)
 show ai _ _ (do let _<-holding [Value.ref g.objs.size] _;_) _ _ _;refine ah (cc (fJ pb ⟨_,on,rfl⟩ oP ?_ (pd _)));refine QB (s:={ s with heap:=g.push (seqObj "list" vs.toArray 0) }) on h1 h64 (λh' C kb q=>hk h' C (λb o z=>all h' kb b o (gk b o z)) q) (λh' i j C kb q r=>hc h' i j C (λb o z=>all h' kb b o (gk b o z)) q r) λh' e kb q=>?_;exact⟨_,rfl,ar ⟨_,rfl,h g h' e gk (all h' kb) q⟩⟩
end
def ltS(a b:Str):Bool:=decide (a.cps.toList<b.cps.toList)
def G4:aH->aH->Bool
 |[],[]=>false
 |[],_::_=>true
 |_::_,[]=>false
 |x::xs,y::ys=>if x=y then G4 xs ys else ltS x y
inductive yQ:List aa->aH->Prop
 |nil:yQ [] []
 |cons (x:Str) (t:Tok) {vs:List aa} {xs:aH} (h:yQ vs xs):yQ (.str x t::vs) (x::xs)
def LM(c:Nat->Nat->Bool)(n:Nat):List Nat:=(Ox c (jD n)).toList
theorem DH(c:Nat->Nat->Bool){n:Nat}(h:0<n):(LM c n).Perm (bf n):=(FR h).run c _
theorem Ji(c:Nat->Nat->Bool){n:Nat}(h:0<n):∀i∈LM c n,i<n:=λi hi=>bV.mp ((DH c h).mem_iff.mp hi)
theorem HK{xs:bA}{us:List aa}(r:Vals xs us):∀(is:List Nat),(∀i∈is,i<xs.length)->Vals (is.map λi=>xs.getD i V.non) (is.map λi=>us.getD i Value.none)
 |[],_=>.nil
 |i::is,h=>by have hi:=h i (.head _);obtain⟨u,e,ru⟩:=r.get (aZ hi);refine .cons ?_ (HK r is λj hj=>h j (.tail _ hj));show RelV (xs.getD i V.non) (us.getD i Value.none);rw[cJ,cJ,e,aZ hi];exact ru
section
variable{X:Cx}{G:Bg}{pins:cp}{σ:St}{H:Hp}{s:ae}
theorem seq_val{pins:cp}{s:ae}{σ:St}{H:Hp}{ys:bA}(I:Inv X pins σ H s)(hq:SqL X.K H a ys\/SqT X.K H a ys):∃its,Vals ys its/\∃T o n,(T="list" \/ T="tuple")/\s.heap.get? a=some o/\o.cls=.type T/\o.data=.seq its.toArray n:=by
 rcases hq with hq|hq
 ·obtain⟨its,ri,pl,_⟩:=I.list hq;obtain⟨o,a1,a2,n,a3⟩:=pl.isList;exact⟨its,ri,_,o,n,.inl rfl,a1,a2,a3⟩
 ·obtain⟨its,ri,⟨o,a1,a2,n,a3⟩,_⟩:=I.tuple hq;exact⟨its,ri,_,o,n,.inr rfl,a1,a2,a3⟩
def Ed:aI->Option aH
 |[]=>some []
 |.str x::ds=>match Ed ds with
  |some xs=>some (x::xs)
  |none=>none
 |_=>none
theorem FU:∀{ds:aI} {xs:bA} {l:aH},tm G H ds xs->Ed ds=some l->xs=l.map V.str
 |[],xs,l,r,e=>by cases e;unfold tm at r;exact r
 |d::ds,xs,l,r,e=>by
  cases d with
  |str x=>
   unfold Ed at e;cases e1:Ed ds with
   |none=>rw[e1]at e;cases e
   |some l'=>rw[e1]at e;cases e;unfold tm at r;obtain⟨v,r',rfl,h1,h2⟩:=r;unfold Rep at h1;subst h1;rw[FU h2 e1,aK]
  |_=>cases e
theorem HL{ds:aI}{xs:bA}(r:tm G H ds xs):∀(is:List Nat),(∀i∈is,i<ds.length)->tm G H (is.map λi=>ds.getD i .non) (is.map λi=>xs.getD i V.non)
 |[],_=>uq
 |i::is,h=>by have hi:=h i (.head _);obtain⟨v,e,rv⟩:=xN r (aZ hi);refine ur ?_ (HL r is λj hj=>h j (.tail _ hj));show Rep G H (ds.getD i .non) (xs.getD i V.non);rw[cJ,cJ,e,aZ hi];exact rv
end
end L4
namespace L4
open PySem PySem.Spec PyProof.Rows L2 L3
def MZ:List String:=["NoneType", "bool", "int", "str", "tuple", "list", "dict"]
def HM(n c:Nat):Ty->Option Bool:=λy=>match y with
 |.b x=>if MZ.contains x=true then some false else none
 |.c k=>if k<n then some (k==c)else none
def E2(K:au)(cs:List Addr)(C:Addr)(c:Nat):Bool:=
 MZ.all (λx=>cY K (.type x) (.ref C)==some false)&&(bf cs.length).all λk=>cY K (.ref (cs.getD k 0)) (.ref C)==some (k==c)
theorem HN{B:Bg}{n c:Nat}{cs:List Addr}(h:E2 B.K cs (B.ca c) c=true)(hn:cs.length=n)(hc:∀k,k<n->cs.getD k 0=B.ca k)(hI:∀k,k<n->Oj B.K (B.ca k)):LB B c (HM n c):=by
 unfold E2 at h;rw[aS,bp,bp]at h;refine⟨λy b e=>?_,λj b e=>?_⟩
 ·cases y with
  |b x=>
   unfold HM at e;simp only at e;split at e
   ·rename_i hx;cases e;exact fS (h.1 x (j7.mp hx))
   ·cases e
  |c k=>
   unfold HM at e;simp only at e;split at e
   ·rename_i hk;cases e;have:=fS (h.2 k (bV.mpr (by omega)));rw[hc k hk]at this;exact this
   ·cases e
 ·unfold HM at e;simp only at e;split at e
  ·rename_i hk;exact hI j hk
  ·cases e
theorem W3{l:List Addr}(h:l.Nodup){j k:Nat}(hj:j<l.length)(hk:k<l.length)(e:l.getD j 0=l.getD k 0):j=k:=by
 rw[cJ,cJ,aZ hj,aZ hk]at e;have pw:=List.pairwise_iff_getElem.mp h;rcases Nat.lt_trichotomy j k with y|y|y
 ·exact ao e (pw j k hj hk y)
 ·exact y
 ·exact ao e.symm (pw k j hk hj y)
variable{x:Str}
section
variable{B:Bg}{K:au}{mg:Str->Option aa}{h:Heap}
theorem const_int{i:Int}{t:Tok}(X:K.In h)(Gn:h.Ns aW mg)(e:iI K aW x=some (some (.int i t))):yT B mg x (.int i):=
 ⟨.int i,_,iG X Gn e,⟨_,rfl⟩,λ_=>vz _⟩
inductive Ac:List aa->aH->Prop
 |nil:Ac [] []
 |cons {v:aa} {x:Str} {t:Tok} {vs:List aa} {xs:aH} (e:v=.str x t) (h:Ac vs xs):Ac (v::vs) (x::xs)
theorem Ac.vals{vs:List aa}{xs:aH}(h:Ac vs xs):Vals (xs.map V.str) vs:=by
 induction h with
 |nil=>exact .nil
 |cons e h ih=>exact .cons ⟨_,e⟩ ih
theorem FV{H:Hp}:∀xs:aH,tm B H (xs.map D.str) (xs.map V.str)
 |[]=>uq
 |x::xs=>ur (zZ x) (FV xs)
theorem LN{a:Addr}{o:Obj}{its:Array aa}{n:Nat}(xs:aH)(X:B.K.In h)(Gn:h.Ns aW mg)(e:iI B.K aW x=some (some (.ref a)))(l:B.K.lookup a=some o)(hc:o.cls=.type "tuple")(hd:o.data=.seq its n)(hz:its.size<=1000)
  (r:Ac its.toList xs):yT B mg x (.tup (xs.map D.str)):=
 ⟨.ref a,_,iG X Gn e,rfl,λH=>Ct (.inr ⟨o,its,n,l,hc,hd,by rw[bO];omega,r.vals⟩) (FV xs)⟩
end
variable{l ns:aH}{np:Nat}
section
variable{f g' h:FS}{c:FT}{e e' e2:FE}{a a':FA}{ρ ρ' ρ1 ρ2 ρ3:aU}{d x y z:D}{ds xs ys:aI}{k:Nat}{cap:List Nat}{g:FG}{ft:FT}{fe:FE}
theorem FW{α:Type}(dd:α->D)(p:α->Bool)(h:α->D):∀l:List α,
  (∀a∈l,∃ρ1 ρ2,g (dd a) (CA k cap ρ)=some ρ1/\ft ρ1=some (p a,ρ2)/\(p a=true->∃ρ3,fe ρ2=some (h a,ρ3)/\wN cap (ρ3.drop k) ρ=some ρ)/\(p a=false->wN cap (ρ2.drop k) ρ=some ρ))->
  xq k cap g ft fe (l.map dd) ρ=some ((l.filter p).map h,ρ)
 |[],_=>rfl
 |a::l,st=>by
  obtain⟨ρ1,ρ2,h1,h2,h3,h4⟩:=st a aV;have ih:=FW dd p h l λa' ha=>st a' (ba _ ha);rw[aK];unfold xq;rw[h1];simp only[h2];cases hp:p a with
  |true=>obtain⟨ρ3,h5,h6⟩:=h3 hp;simp only[h5,h6,ih,gp,hp,if_true,aK]
  |false=>simp only[h4 hp,ih,gp,hp];rfl
theorem T4{α:Type}(dd:α->D)(h:α->D)(l:List α)(st:∀a∈l,∃ρ1 ρ3,g (dd a) (CA k cap ρ)=some ρ1/\fe ρ1=some (h a,ρ3)/\wN cap (ρ3.drop k) ρ=some ρ):xq k cap g uF fe (l.map dd) ρ=some (l.map h,ρ):=by have:=FW (ft:=uF) dd (λ_=>true) h l λa ha=>let ⟨ρ1,ρ3,h1,h2,h3⟩:=st a ha;⟨ρ1,ρ1,h1,rfl,λ_=>⟨ρ3,h2,h3⟩,λz=>by cases z⟩;rw[this,kl.mpr λ_ _=>rfl]
theorem vm(neg:Bool)(a b:Str):dEq neg (.str a) (.str b)=some (.bl (if neg then !decide (a=b)else decide (a=b))):=by
 have e:Jc neg (.str a) (.str b)=some (.bl (if neg then !decide (V.str a=V.str b)else decide (V.str a=V.str b))):=rfl;have e2:decide (V.str a=V.str b)=decide (a=b):=by
  by_cases h:a=b
  ·subst h;simp
  ·rw[aL h,aL (λz=>h (by injection z))]
 unfold dEq;rw[e,e2]
theorem QC(a:Str)(l:aH):inV (V.str a) (l.map V.str)=decide (a∈l):=by
 unfold inV;rw[cM,dY,bJ];constructor
 ·rintro⟨v,hv,he⟩;obtain⟨b,hb,rfl⟩:=az.mp hv;have:b=a:=by unfold eqV at he;simpa using he
  rw[<-this];exact hb
 ·intro ha;refine⟨.str a,cQ ha,?_⟩;unfold eqV;simp
theorem Oz(l:aH):(l.map D.str).all vS=true:=by rw[pJ,bp];intro x _;rfl
theorem T5(l:aH):(l.map D.str).map vD=l.map V.str:=by rw[bc];rfl
theorem xf(neg:Bool)(a:Str)(l:aH):dIn neg (.str a) (.lst (l.map D.str))=some (.bl (if neg then !decide (a∈l)else decide (a∈l))):=by unfold dIn;show (if vS (.str a)&&(l.map D.str).all vS then some (D.bl (if neg then !inV (vD (.str a)) ((l.map D.str).map vD)else inV (vD (.str a)) ((l.map D.str).map vD)))else none)=_;rw[Oz,T5];show some (D.bl (if neg then !inV (V.str a) (l.map V.str)else inV (V.str a) (l.map V.str)))=_;rw[QC]
theorem QD(neg:Bool)(a:Str)(l:aH):dIn neg (.str a) (.tup (l.map D.str))=some (.bl (if neg then !decide (a∈l)else decide (a∈l))):=xf neg a l
theorem Jj:∀bs:List Bool,G2 (bs.map D.bl)=some bs
 |[]=>rfl
 |b::bs=>by rw[aK];unfold G2;rw[Jj bs];rfl
theorem QE(bs:List Bool):yL (.lst (bs.map D.bl))=some (.bl (bs.all id)):=by unfold yL;simp only[Jj];rfl
theorem QF(bs:List Bool):EO (.lst (bs.map D.bl))=some (.bl (bs.any id)):=by unfold EO;simp only[Jj];rfl
theorem T6{α:Type}(l:List α)(p:α->Bool):yL (.lst (l.map λa=>D.bl (p a)))=some (.bl (l.all p)):=by rw[show (l.map λa=>D.bl (p a))=(l.map p).map D.bl by rw[bc];rfl,QE,pJ];rfl
theorem M0{α:Type}(l:List α)(p:α->Bool):EO (.lst (l.map λa=>D.bl (p a)))=some (.bl (l.any p)):=by rw[show (l.map λa=>D.bl (p a))=(l.map p).map D.bl by rw[bc];rfl,QF,List.any_map];rfl
theorem FX:∀l:aH,D9 (l.map D.str)=some (l.map Sum.inr)
 |[]=>rfl
 |x::l=>by rw[aK];unfold D9;rw[FX l];rfl
theorem QG:∀(l acc:List Key),(acc++l).Nodup->l.foldl ddp acc=acc++l
 |[],acc,_=>by rw[bG];rfl
 |k::l,acc,h=>by
  have hn:acc.any (λz=>decide (z=k))=false:=by rw[ji];intro z;obtain⟨y,hy,ey⟩:=dY.mp z;rw[bT]at h;exact h.2.2 y hy k aV (bK ey)
  rw[jr,show ddp acc k=acc++[k] by unfold ddp;rw[hn];rfl,QG l (acc++[k]) (by simpa using h)];simp
theorem Bs(h:l.Nodup):(l.map (Sum.inr:Str->Key)).Nodup:=by unfold List.Nodup at h ⊢;rw[n4];exact h.imp λhne z=>hne (jv z)
theorem Kz(h:l.Nodup)(hl:l.length<=1000):vO (l.map D.str)=some (.int l.length):=by unfold vO;rw[FX];simp only[aj,hl,if_true];unfold yM;rw[QG _ [] (by simpa using Bs h)];simp
theorem yb(neg:Bool)(a b:Int):dEq neg (.int a) (.int b)=some (.bl (if neg then !decide (a=b)else decide (a=b))):=by
 have e:Jc neg (.int a) (.int b)=some (.bl (if neg then !decide (V.int a=V.int b)else decide (V.int a=V.int b))):=rfl;have e2:decide (V.int a=V.int b)=decide (a=b):=by
  by_cases h:a=b
  ·subst h;simp
  ·rw[aL h,aL (λz=>h (by injection z))]
 unfold dEq;rw[e,e2]
theorem uk(h1:e ρ=some (.bl true,ρ1)):uY e e' ρ=e' ρ1:=by unfold uY;rw[h1]
theorem uh{g:Nat->Option (aI->Option D)}{m:Str}{c:Nat}{hh:aI->Option D}(h1:e ρ=some (.obj c ns xs,ρ1))(h2:g c=some hh)(h3:ns.contains m=false)(h4:a ρ1=some (ys,ρ2))(h5:hh (.obj c ns xs::ys)=some d):tT g m e a ρ=some (d,ρ2):=by unfold tT;rw[h1];simp only[h2,h3,h4,h5];rfl
theorem E3{c:Nat}{g:aI->Option (aH×aI)}(h1:a ρ=some (ds,ρ1))(h2:g ds=some (ns,xs)):uv c g a ρ=some (.obj c ns xs,ρ1):=by unfold uv;rw[h1];simp only[h2]
theorem zb{n:Nat}{b:FS}(hl:ds.length=np)(h:b (L4.stE n ds)=some (.nx ρ)):fnD np n b ds=some .non:=by unfold fnD;rw[af hl,h]
theorem FY{n:Nat}{b:FS}(hl:ds.length=np)(h:b (L4.stE n ds)=some (.rn xs ρ)):fnD np n b ds=some (.lst xs):=by unfold fnD;rw[af hl,h]
theorem CN:∀{ks:List Key} {ds:aI} {k:Key} {d:D},ks.Nodup->(k,d)∈ks.zip ds->vU ks ds k=some d
 |[],_,k,d,_,h=>by simp at h
 |k'::ks,[],k,d,_,h=>by simp at h
 |k'::ks,d'::ds,k,d,nd,h=>by
  unfold vU;rw[eJ]at h;rcases aT.mp h with e|h
  ·cases e;rw[af rfl]
  ·rw[c9]at nd;rw[ag (λz=>nd.1 (by subst z;exact(jo h).1))];exact CN nd.2 h
end
end L4
namespace L4
open PySem PySem.Spec PyProof.Rows L2 L3
open PySem.W (nsIn findIn keepIn isFn makesIn fnOf)
def LO{α:Type}:Nat->(List α->Prop)->Prop
 |0,P=>P []
 |n+1,P=>∀a,LO n λl=>P (a::l)
theorem E4{α:Type}:∀{n:Nat} {P:List α->Prop},LO n P->∀l,l.length=n->P l
 |0,P,h,[],_=>h
 |n+1,P,h,a::l,e=>E4 (P:=λl=>P (a::l)) (h a) l (iy e)
structure CF(K:au)(C:Addr)(xs:aH):Prop where
 ci:Oj K C
 mks:makesIn K C=true
 kp:keepIn K (.ref C)=true
 na:(xs.all λx=>match findIn K (.ref C) x with|some none=>true|_=>false)=true
theorem CF.at{K:au}{C:Addr}{xs:aH}(c:CF K C xs)(i:Nat){x:Str}(h:xs[i]?=some x):Cls K C/\yk K C x:=⟨c.ci.cl,by
 have e:=bp.mp c.na x (b8 h);unfold yk;split at e
 ·rename_i e1;exact e1
 ·cases e⟩
variable{i:Nat}
theorem wz{Q:Nat->Prop}(h:Q i):∀c,(c==i)=true->Q c:=λc e=>by rw[beq_iff_eq]at e;subst e;exact h
theorem orQ{Q:Nat->Prop}{p:Nat->Bool}(h:∀c,p c=true->Q c)(h':Q i):∀c,(p c||c==i)=true->Q c:=λc e=>by
 rw[jq]at e;rcases e with e|e
 ·exact h c e
 ·exact wz h' c e
structure Yw(P:ay)(w:av)(mg:Str->Option aa)(base:Heap)(G:Bg):Prop where
 m:∃h:Heap,G.K.In h/\h.Ns aW mg
variable{np:Nat}{vs:bA}{us:List aa}
section
variable{P:ay}{w:av}{mg:Str->Option aa}{base:Heap}{G:Bg}{x m qual:Str}{st:Stmt}{N ps:aH}{k c:Nat}{K:au}
theorem Yw.g(y:Yw P w mg base G){v:aa}(e:nsIn G.K aW x=some (some v)):mg x=some v:=by obtain⟨h,X,Gn⟩:=y.m;exact iG X Gn e
theorem Yw.n(y:Yw P w mg base G){xs:aH}(h:(xs.all λx=>match nsIn G.K aW x with|some none=>true|_=>false)=true)(i:Nat)(hi:xs[i]?=some x):mg x=none:=by
 obtain⟨hh,X,Gn⟩:=y.m;have e:=bp.mp h x (b8 hi);split at e
 ·rename_i e1;exact W.mg_none_of X Gn e1
 ·cases e
def GC(K:au)(x:Str)(i:Int):Prop:=∃t:Tok,nsIn K aW x=some (some (.int i t))
theorem Yw.ci(y:Yw P w mg base G){i:Int}(q:GC G.K x i):yT G mg x (.int i):=by obtain⟨h,X,Gn⟩:=y.m;obtain⟨t,e⟩:=q;exact const_int X Gn e
def GS(K:au)(x:Str)(xs:aH):Prop:=∃(a:Addr) (o:Obj) (its:Array aa) (n:Nat),nsIn K aW x=some (some (.ref a))/\K.lookup a=some o/\o.cls=.type "tuple" /\ o.data=.seq its n/\its.size<=1000/\Ac its.toList xs
theorem Yw.cs(y:Yw P w mg base G){xs:aH}(q:GS G.K x xs):yT G mg x (.tup (xs.map D.str)):=by obtain⟨h,X,Gn⟩:=y.m;obtain⟨a,o,its,n,e,l,h1,h2,h3,h4⟩:=q;exact LN xs X Gn e l h1 h2 h3 h4
def GD(K:au)(x:Str)(st:Stmt):Prop:=∃(f:Addr) (fd:bQ),nsIn K aW x=some (some (.ref f))/\Fun K x x st f fd
def GM(K:au)(C:Addr)(m qual:Str)(st:Stmt):Prop:=∃(f:Addr) (fd:bQ),findIn K (.ref C) m=some (some (.ref f))/\isFn K (.ref f)=true/\Fun K m qual st f fd
def GJ(K:au)(C:Addr)(qual:Str)(st:Stmt)(vs:bA):Prop:=∃(f:Addr) (fd:bQ) (T:Addr) (o:Obj) (dl:List aa) (n:Nat),findIn K (.ref C) "__init__" = some (some (.ref f))/\isFn K (.ref f)=true/\N6 K "__init__" qual st f fd T/\K.lookup T=some o/\o.data=.seq dl.toArray n/\Vals vs dl
abbrev Bdy(P:ay)(w:av)(K:au)(mg:Str->Option aa)(base:Heap)(N:aH)(qual:Str)(st:Stmt)(k:Nat)(t:TS):Prop:=∀(f:Addr) (cdv:aa) (A:aC) (outer:List Env) (s:ae) (H:Hp) (E:XK),vn k (A.deeper (envOfC qual (tX st) s.heap.objs.size f cdv))->PSs (D7 P w K mg base N qual st f cdv A outer s H E) (uw st) t
abbrev Bds(x qual:Str)(st:Stmt)(ps:aH):Prop:=LO ps.length λus=>∀(kV doc pm:aa) (an:Option Addr) (cdv ct:aa),bindArgs (fnOf x qual (wY st) (uw st) (tX st) .none kV doc pm an cdv ct) ⟨us,[]⟩=pure (ps.zip us)
theorem Bds.ok{f:Addr}{fd:bQ}(b:Bds x qual st ps)(F:Fun K x qual st f fd):Binds K fd ps []:=F.binds λkV doc pm an cdv ct us hl=>E4 b us hl kV doc pm an cdv ct
theorem gD{sp:Sp}(y:Yw P w mg base G)(q:GD G.K x st)(bd:Bds x x st ps)(ok:∀f fd,Fun G.K x x st f fd->xn P w G.K mg base CX0 k f fd ps sp):BF P w G.K mg base k x ps sp:=by obtain⟨f,fd,a,F⟩:=q;exact⟨f,fd,y.g a,F.kp,bd.ok F,ok f fd F⟩
theorem gF{n:Nat}{g:aI->Option D}{b:FS}(hg:g=fnD np n b)(y:Yw P w mg base G)(q:GD G.K x st)(S:vy N ps (tX st))(body:Bdy P w G.K mg base N x st k (tFS G b))(hp:ps.length=np:=by rfl)(hN:N.length=n:=by rfl)(bd:Bds x x st ps:=by (repeat intro _);rfl):BF P w G.K mg base (k+1) x ps (spF G g):=
 gD y q bd λf fd F=>Qa hg hp hN F S (body f)
theorem gN'{n:Nat}{g:aI->Option aI}{b:FS}(hg:g=fnN np n b)(y:Yw P w mg base G)(q:GD G.K x st)(S:vy N ps (tX st))(body:Bdy P w G.K mg base N x st k (tFS G b))(hp:ps.length=np:=by rfl)(hN:N.length=n:=by rfl)(bd:Bds x x st ps:=by (repeat intro _);rfl):BF P w G.K mg base (k+1) x ps (spN G g):=
 gD y q bd λf fd F=>aah hg hp hN F S (body f)
theorem gM{n:Nat}{g:aI->aI->Option (D×aI)}{b:FS}{p:Str}(hg:g=fnM np n b)(y:Yw P w mg base G)(q:GD G.K x st)(S:vy N (p::ps) (tX st))(body:Bdy P w G.K mg base N x st k (tFS G b))(hp:ps.length=np:=by rfl)(hN:N.length=n:=by rfl)(bd:Bds x x st (p::ps):=by (repeat intro _);rfl):BF P w G.K mg base (k+1) x (p::ps) (spM G g):=
 gD y q bd λf fd F=>aai hg hp hN F S (body f)
theorem gI{n:Nat}{g:aI->Option (aH×aI)}{b:FS}{xs:aH}{p:Str}(hg:g=fnI c np n b)(y:Yw P w mg base G)(C:CF G.K (G.ca c) xs)(a:nsIn G.K aW x=some (some (.ref (G.ca c))))(q:GM G.K (G.ca c) "__init__" qual st)(S:vy N (p::ps) (tX st))(body:Bdy P w G.K mg base N qual st k (tFS G b))(hp:ps.length=np:=by rfl)(hN:N.length=n:=by rfl)(bd:Bds "__init__" qual st (p::ps):=by (repeat intro _);rfl):Jd G P w mg base (k+1) x c (p::ps) [] g:=by obtain⟨f,fd,i,i',F⟩:=q;exact⟨f,fd,[],⟨C.mks,i,i',C.kp⟩,y.g a,bd.ok F,.nil,aaj hg hp hN F S (body f)⟩
theorem KA(h:Vals vs us):us.length=vs.length:=by
 induction h with
 |nil=>rfl
 |cons _ _ ih=>rw[aO,aO,ih]
theorem OA(h:Vals vs us):∀j,Vals (vs.drop j) (us.drop j):=by
 induction h with
 |nil=>intro j;rw[pB,pB];exact .nil
 |cons a b ih=>
  intro j;cases j with
  |zero=>exact .cons a b
  |succ j=>exact ih j
theorem gJ{n:Nat}{g:aI->Option (aH×aI)}{b:FS}{xs:aH}{p:Str}(hg:g=fnI c np n b)(y:Yw P w mg base G)(C:CF G.K (G.ca c) xs)(a:nsIn G.K aW x=some (some (.ref (G.ca c))))(q:GJ G.K (G.ca c) qual st vs)(S:vy N (p::ps) (tX st))(body:Bdy P w G.K mg base N qual st k (tFS G b))(j:Nat)(hp:ps.length=np:=by rfl)(hN:N.length=n:=by rfl)
  (bd:LO vs.length λdl=>LO ((p::ps).length - (vs.drop j).length) λus=>∀(T:Addr) (kV doc pm:aa) (an:Option Addr) (cdv ct:aa),∃k,bindArgs (fnOf "__init__" qual (wY st) (uw st) (tX st) (.ref T) kV doc pm an cdv ct) ⟨us,[]⟩=seqItems? (.ref T)>>=k/\k (some dl.toArray)=pure ((p::ps).zip (us++dl.drop j)):=by (repeat intro _);exact⟨_,rfl,rfl⟩):Jd G P w mg base (k+1) x c (p::ps) (vs.drop j) g:=by
 obtain⟨f,fd,T,o,dl,n,i,i',F,l,e,r⟩:=q;refine⟨f,fd,dl.drop j,⟨C.mks,i,i',C.kp⟩,y.g a,F.binds l e λkV doc pm an cdv ct us hl=>?_,OA r j,WM hg hp hN F S (body f)⟩;exact E4 (E4 bd dl (KA r)) us (by rw[hl,gn,gn,KA r]) T kV doc pm an cdv ct
end
end L4
namespace L4
open PySem PySem.Spec PyProof.Rows L2 L3
def leS(a b:Str):Bool:=decide (a.cps.toList<=b.cps.toList)
def A0(ss:aH):aH:=ss.mergeSort leS
theorem FZ(a b c:Str)(h:leS a b=true)(h':leS b c=true):leS a c=true:=aM (List.le_trans (bK h) (bK h'))
theorem E5(a b:Str):(leS a b||leS b a)=true:=by
 rw[jq];rcases List.le_total a.cps.toList b.cps.toList with h|h
 ·exact .inl (aM h)
 ·exact .inr (aM h)
theorem F0(a b:Str)(h:leS a b=true)(h':leS b a=true):a=b:=by have e:=List.le_antisymm (bK h) (bK h');cases a with|mk a=>cases b with|mk b=>cases a;cases b;simp only at e;rw[e]
theorem DI:∀(r:aH) (x:Str),risingS x r=true->(∀y∈r,leS x y=true)/\r.Pairwise λa b=>leS a b=true
 |[],x,_=>⟨λy h=>(dZ h).elim,.nil⟩
 |z::r,x,h=>by
  unfold risingS at h;rw[aS,eL,ltCps_eq]at h;obtain⟨h1,h2⟩:=h;obtain⟨g1,g2⟩:=DI r z h2;have h3:leS x z=true:=aM (of_decide_eq_false h1);refine⟨λy hy=>?_,.cons g1 g2⟩;rcases aT.mp hy with e|hy
  ·rw[e];exact h3
  ·exact FZ _ _ _ h3 (g1 y hy)
theorem LP:∀l:aH,sortedS l=true->l.Pairwise λa b=>leS a b=true
 |[],_=>.nil
 |x::r,h=>.cons (DI r x h).1 (DI r x h).2
theorem LQ{l ss:aH}(p:l.Perm ss)(h:sortedS l=true):l=A0 ss:=
 j3 (λa b _ _=>F0 a b) (LP l h) (i6 FZ E5 ss) (p.trans (hZ ss leS).symm)
theorem U4:∀{vs:List aa} {xs:aH},kc vs xs->Vals (xs.map V.str) vs
 |_,_,.nil=>.nil
 |_,_,.cons x t h=>.cons ⟨t,rfl⟩ (U4 h)
section
variable{X:Cx}{G:Bg}{pins:cp}{σ:St}{H:Hp}{s:ae}
theorem F1{H:Hp}:∀xs:aH,tm G H (xs.map D.str) (xs.map V.str)
 |[]=>uq
 |x::xs=>ur (zZ x) (F1 xs)
end
end L4
namespace L4
open PySem PySem.Spec PySem.Calls PyProof.Rows PySem.W L2 L3
structure Sto(c:Nat->Nat->Bool)(n:Nat):Prop where
 tr:∀i j k,i<n->j<n->k<n->c i j=true->c j k=true->c i k=true
 tot:∀i j,i<n->j<n->i≠j->c i j=false->c j i=true
section
variable{X:Cx}{G:Bg}{pins:cp}{σ:St}{H:Hp}{s:ae}
def G5(K:au)(H:Hp)(y:V)(k:aH):Prop:=∃a p q,y=.ref a/\k=[p,q]/\SqT K H a [.str p,.str q]
theorem QH(I:Inv X pins σ H s){y:V}{k:aH}{u:aa}(h:G5 X.K H y k)(r:RelV y u):∃a p q t v,u=.ref a/\k=[p,q]/\fW s.heap a #[.str p t,.str q v]:=by
 obtain⟨a,p,q,rfl,rfl,h1⟩:=h;cases r;obtain⟨its,ri,ti,_⟩:=I.tuple h1;cases ri with
 |cons q1 q2=>
  obtain⟨t,rfl⟩:=q1;cases q2 with
  |cons q3 q4=>obtain⟨v,rfl⟩:=q3;cases q4;exact⟨a,p,q,t,v,rfl,rfl,ti⟩
end
variable{its:List aa}
section
variable{prog:ay}{w:av}{A:aC}{s:ae}
def It2(h:Heap)(its:List aa)(ks:List aH):Prop:=∀i,i<its.length->∃a p q t v,its.getD i Value.none=.ref a/\ks.getD i []=[p,q]/\fW h a #[.str p t,.str q v]/\its[i]?=some (.ref a)
theorem OB{ks:List aH}{C:iC->ae->Prop}(item:It2 s.heap its ks)(h1:0<its.length)(hC:C (tuples' true) s):ai (model prog w) A (keyKind' its.toArray) C (λ_ _=>False) s:=by
 have tups:∀(l:List aa),(∀v∈l,∃i,i<its.length/\its[i]?=some v)->∃fs,KatTups s.heap l fs/\fs.length=l.length/\∀f∈fs,∃(x:Str) (t:Tok),f=.str x t:=λl=>by
  induction l with
  |nil=>exact λ_=>⟨[],KatTups.nil,rfl,λf hf=>by cases hf⟩
  |cons v l ih=>
   intro hv;obtain⟨fs,f1,f2,f3⟩:=ih λw hw=>hv w (.tail _ hw);obtain⟨i,hi,ei⟩:=hv v (.head _);obtain⟨a,p,q,t,w,_,_,⟨o,t1,t2,n,t3⟩,t5⟩:=item i hi;rw[ei]at t5;cases t5;refine⟨.str p t::fs,KatTups.cons t1 t2 t3 (by simp) f1,by rw[aO,aO,f2],λf hf=>?_⟩;rcases aT.mp hf with rfl|hf
   ·exact⟨p,t,rfl⟩
   ·exact f3 f hf
 obtain⟨fs,f1,f2,f3⟩:=tups its λv hv=>by obtain⟨i,hi,e⟩:=j9.mp hv;exact⟨i,hi,by rw[aZ hi,e]⟩
 refine kat_kind (T:=.type "str") f1 (by omega) (λv hv=>?_) (by decide) ?_
 ·obtain⟨x,t,rfl⟩:=f3 v hv;exact .now
 ·rw[show (Value.type "str" != Value.type "tuple")=true by decide];exact hC
theorem QI{ks:List aH}{i j:Nat}{C:Bool->ae->Prop}(item:It2 s.heap its ks)(hij:i<its.length/\j<its.length)(hC:C (G4 (ks.getD i []) (ks.getD j [])) s):jE prog w A (tuples' true) its i j C s:=by
 obtain⟨a1,p1,q1,t1,v1,e1,k1,⟨o1,g1,c1,n1,d1⟩,_⟩:=item i hij.1;obtain⟨a2,p2,q2,t2,v2,e2,k2,⟨o2,g2,c2,n2,d2⟩,_⟩:=item j hij.2;unfold jE;rw[e1,e2];rw[k1,k2]at hC;refine kat_lt g1 d1 g2 d2 ?_;show KatLex _ _ _ _ _ _ [(Value.str p1 t1,Value.str p2 t2),(Value.str q1 v1,Value.str q2 v2)] 0 _;refine kat_cons (kq p1 t1 p2 t2 _ _ _ _ ?_);unfold G4 at hC;by_cases hpp:p1=p2
 ·subst hpp;rw[af rfl]at hC;rw[beq_self_eq_true];refine kat_yes (kat_cons (kq q1 v1 q2 v2 _ _ _ _ ?_));unfold G4 at hC;by_cases hqq:q1=q2
  ·subst hqq;rw[af rfl]at hC;rw[beq_self_eq_true];exact kat_yes (kat_nil hC)
  ·rw[ag hqq]at hC;rw[beq_false_of_ne hqq];exact kat_no (kat_one _ _ (sA hC))
 ·rw[ag hpp]at hC;rw[beq_false_of_ne hpp];exact kat_no (oneLt_str hC)
end
section
variable{X:Cx}{G:Bg}{pins:cp}{σ:St}{H:Hp}{s:ae}
theorem Jk(hu:X.A.units+64<cLine):ve X (.builtin "sorted") (λxs H Q=>∃(a:Addr) (ys:bA) (ks:List aH),xs=[.ref a]/\SqL X.K H a ys/\0<ys.length/\ys.length<64/\ks.length=ys.length/\(∀(i:Nat) (y:V) (k:aH),ys[i]?=some y->ks[i]?=some k->G5 X.K H y k)/\
  ∀p,H p=none->Q (.ref p) (upd H p (.lst ((LM (λi j=>G4 (ks.getD i []) (ks.getD j [])) ys.length).map λi=>ys.getD i V.non)))):=by
 intro pins s σ H xs us Q I r h;obtain⟨a,ys,ks,rfl,hq,h1,h64,hkl,hp,q⟩:=h;obtain⟨u,rfl,ru⟩:=vals1 r;cases ru;obtain⟨its,ri,T,ob,nn,hT,b1,b2,b3⟩:=seq_val I (.inl hq);have hl:ys.length=its.length:=ri.length;have item:∀{h':Heap},(∀b o,s.heap.get? b=some o->h'.get? b=some o)->It2 h' its ks:=λ{h'} kk i hi=>by
  have I':Inv X pins σ H { s with heap:=h',toks:=s.toks }:=I.kept kk;have hy:i<ys.length:=by omega
  have hk:i<ks.length:=by omega
  obtain⟨u,e,ru⟩:=ri.get (aZ hy);obtain⟨a,p,q,t,v,rfl,ek,ti⟩:=QH I' (hp i _ _ (aZ hy) (aZ hk)) ru;refine⟨a,p,q,t,v,?_,?_,ti,e⟩
  ·rw[cJ,e];rfl
  ·rw[cJ,aZ hk];exact ek
 refine LL (κ:=tuples' true) (c:=λi j=>G4 (ks.getD i []) (ks.getD j [])) hT b1 b2 b3 (by omega) (by omega) (λh' C kk hC=>OB (s:={ s with heap:=h' }) (item kk) (by omega) hC) (λh' i j C kk hij hC=>QI (s:={ s with heap:=h' }) (item kk) hij hC) λg h' e k1 k2 ho=>?_
 ·have I1:Inv X pins σ H { s with heap:=g,toks:=s.toks }:=I.kept k1;refine⟨.ref g.objs.size,_,I1.laid (t':=s.toks) k2 (aJ _) ?_,rfl,q _ (I1.hok.fresh (aJ _))⟩;have hn:0<ys.length:=h1;refine⟨?_,DG _ its,e,?_,ho⟩
  ·rw[aj,(DH _ hn).length_eq,cD,bO];omega
  ·unfold DG;rw[<-hl];exact HK ri _ λi hi=>Ji _ hn i hi
end
def OC:D->Option aH
 |.tup [.str p,.str q]=>some [p,q]
 |_=>none
def xt:aI->Option (List aH)
 |[]=>some []
 |d::ds=>match OC d,xt ds with
  |some k,some ks=>some (k::ks)
  |_,_=>none
def F2(ds:aI):Option aI:=match xt ds with
 |some ks=>if 0<ds.length/\ds.length<64 then some ((LM (λi j=>G4 (ks.getD i []) (ks.getD j [])) ds.length).map λi=>ds.getD i .non)else none
 |none=>none
def DJ(f:FE):FA:=λρ=>match f ρ with
 |some (.lst ds,ρ')=>match F2 ds with
  |some es=>some (es,ρ')
  |none=>none
 |_=>none
section
variable{X:Cx}{G:Bg}{H:Hp}
theorem KB{d:D}{v:V}{k:aH}(r:Rep G H d v)(e:OC d=some k):G5 G.K H v k:=by
 unfold OC at e;split at e
 ·rename_i p q;cases e;unfold Rep at r;obtain⟨a,xs,rfl,h1,h2⟩:=r;unfold tm at h2;obtain⟨v1,r1,rfl,q1,q2⟩:=h2;unfold tm at q2;obtain⟨v2,r2,rfl,q3,q4⟩:=q2;unfold tm at q4;unfold Rep at q1 q3;subst q4 q1 q3;exact⟨a,p,q,rfl,rfl,h1⟩
 ·cases e
theorem HP:∀{ds:aI} {ks:List aH},xt ds=some ks->ks.length=ds.length
 |[],ks,e=>by cases e;rfl
 |d::ds,ks,e=>by
  unfold xt at e;cases e1:OC d with
  |none=>rw[e1]at e;cases e
  |some k=>
   cases e2:xt ds with
   |none=>rw[e1,e2]at e;cases e
   |some ks'=>rw[e1,e2]at e;cases e;rw[aO,aO,HP e2]
theorem HQ:∀{ds:aI} {ks:List aH} {xs:bA},tm G H ds xs->xt ds=some ks->∀(i:Nat) (y:V) (k:aH),xs[i]?=some y->ks[i]?=some k->G5 G.K H y k
 |[],ks,xs,r,e,i,y,k,h1,h2=>by cases e;cases h2
 |d::ds,ks,xs,r,e,i,y,k,h1,h2=>by
  unfold xt at e;cases e1:OC d with
  |none=>rw[e1]at e;cases e
  |some k'=>
   cases e2:xt ds with
   |none=>rw[e1,e2]at e;cases e
   |some ks'=>
    rw[e1,e2]at e;cases e;unfold tm at r;obtain⟨v,r',rfl,q1,q2⟩:=r;cases i with
    |zero=>cases h1;cases h2;exact KB q1 e1
    |succ i=>exact HQ q2 e2 i y k h1 h2
theorem G5.mono{K:au}{H0 H1:Hp}{y:V}{k:aH}(s:tQ H0 H1)(h:G5 K H0 y k):G5 K H1 y k:=by obtain⟨a,p,q,e1,e2,h1⟩:=h;exact⟨a,p,q,e1,e2,SqT.mono s h1⟩
theorem KC{e:Expr}{f:FE}(h:PE X e (tCB (λxs H Q=>∃(a:Addr) (ys:bA) (ks:List aH),xs=[.ref a]/\SqL G.K H a ys/\0<ys.length/\ys.length<64/\ks.length=ys.length/\(∀(i:Nat) (y:V) (k:aH),ys[i]?=some y->ks[i]?=some k->G5 G.K H y k)/\
  ∀p,H p=none->Q (.ref p) (upd H p (.lst ((LM (λi j=>G4 (ks.getD i []) (ks.getD j [])) ys.length).map λi=>ys.getD i V.non)))) (tFA G (aCons f ui)))):PE X e (tFN G (DJ f)):=PE.weak h λσ H Q hh=>by
 obtain⟨F,ρ,H0,es,ρ',R,e,k⟩:=hh;unfold DJ at e;split at e
 ·rename_i ds ρ1 e1;cases e2:F2 ds with
  |none=>simp only[e2]at e;cases e
  |some es'=>
   simp only[e2]at e;cases e;unfold F2 at e2;cases e3:xt ds with
   |none=>simp only[e3]at e2;cases e2
   |some ks=>
    simp only[e3]at e2;split at e2
    ·rename_i hh;obtain⟨hn,h64⟩:=hh;cases e2;refine⟨F,ρ,H0,[.lst ds],_,R,by unfold aCons;rw[e1];rfl,λys H1 H1' s R' rs=>?_⟩;unfold tm at rs;obtain⟨v,r0,rfl,rv,rn⟩:=rs;unfold tm at rn;subst rn;unfold Rep at rv;obtain⟨a,xs,rfl,h1,h2⟩:=rv;have hl:=tu h2;refine⟨a,xs,ks,rfl,SqL.of (R'.sub _ _ h1),by omega,by omega,by rw[HP e3,hl],λi y kk q1 q2=>G5.mono R'.sub (HQ h2 e3 i y kk q1 q2),λp hp=>?_⟩;refine k p _ _ _ s (R'.newOwn hp _) tG (R'.h0none hp) (R'.bNone hp) (R'.apart hp) ?_;rw[<-hl];exact HL h2 _ λi hi=>Ji _ hn i hi
    ·cases e2
 ·cases e
theorem G6(hu:X.A.units+64<cLine)(hK:X.K=G.K:=by rfl):ve X (.builtin "sorted") (λxs H Q=>∃(a:Addr) (ys:bA) (ks:List aH),xs=[.ref a]/\SqL G.K H a ys/\0<ys.length/\ys.length<64/\ks.length=ys.length/\(∀(i:Nat) (y:V) (k:aH),ys[i]?=some y->ks[i]?=some k->G5 G.K H y k)/\
  ∀p,H p=none->Q (.ref p) (upd H p (.lst ((LM (λi j=>G4 (ks.getD i []) (ks.getD j [])) ys.length).map λi=>ys.getD i V.non)))):=by rw[<-hK];exact Jk hu
end
end L4
namespace L4
open PySem PySem.Spec PyProof.Rows L2 L3
structure Bz where
 P:ay
 w:av
 mg:Str->Option aa
 base:Heap
 G:Bg
structure ZE(X:Cx)(B:Bz)(e:Expr)(f:FE):Prop where p:PE X e (tF B.G f)
structure ZN(X:Cx)(B:Bz)(e:Expr)(f:FA):Prop where p:PE X e (tFN B.G f)
structure ZT(X:Cx)(B:Bz)(e:Expr)(f:FT):Prop where p:PT X e (tFT B.G f)
structure ZW(X:Cx)(B:Bz)(e:Expr)(f:FT):Prop where p:PW X e (tFT B.G f)
structure ZF(X:Cx)(B:Bz)(e:List Expr)(f:FT):Prop where p:PIf X e (tFT B.G f)
structure ZA(X:Cx)(B:Bz)(e:List Expr)(f:FA):Prop where p:PA X e (tFA B.G f)
structure ZS(X:Cx)(B:Bz)(e:Stmt)(f:FS):Prop where p:PS X e (tFS B.G f)
structure ZB(X:Cx)(B:Bz)(e:List Stmt)(f:FS):Prop where p:PSs X e (tFS B.G f)
structure ZI(X:Cx)(B:Bz)(tg e:Expr)(f:FA):Prop where p:PI X tg e (tFI B.G f)
structure ZO(X:Cx)(B:Bz)(e:Option Expr)(f:FO):Prop where p:PO X e (tFO B.G f)
structure ZG(X:Cx)(B:Bz)(e:Expr)(n:Nat)(f:FG):Prop where p:PG X e (tFG B.G n f)
structure ZH(X:Cx)(B:Bz)(e:List Expr)(n:Nat)(f:aI->aU->Option aU):Prop where p:PGs X e (PH B.G n f)
structure ZK(X:Cx)(e:Option Expr)(i:Option Int):Prop where p:PO X e (tO i)
structure ZP(X:Cx)(B:Bz)(pos:Pos)(ks:List (Option Expr))(vs:List Expr)(l:List (Str×FE)):Prop where p:PPs X pos ks vs (Qy B.G l)
structure ZV(X:Cx)(e:Expr)(i:Nat):Prop where p:PE X e (zR i)
abbrev Gz(X:Cx)(x:Str):Prop:=X.env.kindOf x=some .globalImplicit
abbrev Dz(x:Str):Prop:=(x==("__debug__" : Str))=false
abbrev Nz(x:Str):Prop:=(decide (x≠"__name__")&&!(x==("__debug__" : Str)))=true
abbrev Sz(X:Cx)(e:Expr)(es:List Expr):Prop:=aE (e::es) X.env=(false,eval e X.env)::aE es X.env
abbrev S1(X:Cx)(e:Expr):Prop:=aE [e] X.env=[(false,eval e X.env)]
abbrev Lz(X:Cx)(pos:Pos)(es:List Expr):Prop:=(bD pos (aE es X.env)).any (·.1)=false
abbrev Wz(X:Cx)(e o:Expr)(pos:Pos):Prop:=dg e (some o) pos.line X.env=pure false
abbrev Az(X:Cx)(o:Expr)(m:Str):Prop:=eV o m X.env (eval o X.env)=eval o X.env
abbrev Ez(p pos:Pos):Prop:=(p.endLine==pos.line)=true
abbrev Iz(e:Expr):Prop:=(λo i=>subscripted e false o i)=λo i=>operate [o,i] (getItem o i)
abbrev Fz(X:Cx)(e:Expr):Prop:=(λx=>ic e X.env x)=λx=>pure x
class Cz(X:Cx)(B:outParam Bz)(k:outParam Nat):Prop where
 P:X.prog=B.P
 w:X.w=B.w
 K:X.K=B.G.K
 mg:X.mg=B.mg
 b:X.base=B.base
 c:X.calm=true
 r:vn k X.A
class Yb(B:Bz):Prop where y:Yw B.P B.w B.mg B.base B.G
class Df(B:Bz)(j:outParam Nat)(x:Str)(sp:Sp):Prop where p:∃ps,BF B.P B.w B.G.K B.mg B.base j x ps sp
class Kf(B:Bz)(j:outParam Nat)(x:Str)(c:Nat)(g:aI->Option (aH×aI))(dds:aI):Prop where
 p:∃ps,Jd B.G B.P B.w B.mg B.base j x c ps (dds.map vD) g
 f:dds.all vS=true
class Mf(B:Bz)(j:outParam Nat)(m:Str)(g:Nat->Option (aI->Option D)):Prop where p:∀c h,g c=some h->z7 B.G B.P B.w B.mg B.base j m c h
class Ff(B:Bz)(ok:Nat->Bool)(f:Str):Prop where p:∀c,ok c=true->Cls B.G.K (B.G.ca c)/\yk B.G.K (B.G.ca c) f
class Af(B:Bz)(c:Nat)(xs:outParam aH):Prop where p:CF B.G.K (B.G.ca c) xs
class Nb(B:Bz)(x:Str):Prop where p:B.mg x=none
class Co(B:Bz)(x:Str)(d:D):Prop where p:yT B.G B.mg x d
class Ic(B:Bz)(x:Str)(t:Ty->Option Bool):Prop where p:∃c,LB B.G c t/\B.mg x=some (.ref (B.G.ca c))
class Ij(B:Bz)(n:Nat):Prop where p:∀j k,j<n->k<n->B.G.ca j=B.G.ca k->j=k
class OpC(op:jB)(g:D->D->Option D):Prop where p:∀(X:Cx) (G:Bg),∃r,OpR X (dh op) r/\OpD G r g
instance in1:OpC .Mod wx:=⟨λ_ _=>⟨_,VO,Wt⟩⟩
instance in2:OpC .FloorDiv BE:=⟨λ_ _=>⟨_,Sh,Wu⟩⟩
instance in3:OpC .Mult ya:=⟨λ_ _=>⟨_,VN,Ws⟩⟩
instance in5:OpC .Pow PX:=⟨λ_ _=>⟨_,VP,Wv⟩⟩
instance in6:OpC .Add vT:=⟨λ_ _=>⟨_,VM,Wr⟩⟩
class CmC(op:fX)(g:D->D->Option D):Prop where p:∀(X:Cx) (G:Bg),X.K=G.K->X.A.units+64<cLine->∃r,OpR X (bq op) r/\OpD G r g
instance in9:CmC .Eq (dEq false):=⟨λ_ _ h u=>⟨_,WC u h,aad⟩⟩
instance in10:CmC .NotEq (dEq true):=⟨λ_ _ h u=>⟨_,WE u h,aae⟩⟩
instance in11:CmC .In (dIn false):=⟨λ_ _ h _=>⟨_,WG h,UZ⟩⟩
instance in12:CmC .NotIn (dIn true):=⟨λ_ _ h _=>⟨_,Of h,UZ⟩⟩
instance in13:CmC .Is w6:=⟨λ_ _ _ _=>⟨_,VQ,Wx⟩⟩
instance in14:CmC .IsNot uV:=⟨λ_ _ _ _=>⟨_,Si,Tq⟩⟩
instance in16:CmC .Lt Tp:=⟨λ_ _ _ _=>⟨_,Zu,Z9⟩⟩
instance in17:CmC .LtE zz:=⟨λ_ _ _ _=>⟨_,Zv,aaa⟩⟩
instance in18:CmC .Gt PY:=⟨λ_ _ _ _=>⟨_,Zw,aab⟩⟩
instance in19:CmC .GtE Wq:=⟨λ_ _ _ _=>⟨_,Zx,aac⟩⟩
instance in20:CmC .LtE PZ:=⟨λ_ _ _ _=>⟨_,N5,Ww⟩⟩
class B1(x:Str)(g:D->Option D):Prop where p:∀(X:Cx) (G:Bg),X.K=G.K->X.calm=true->∃(id:String) (r:bA->Hp->VK->Prop),ve X (.builtin id) r/\HF G r g/\dE x=some (.builtin id)
instance in21:B1 "len" vN:=⟨λ_ _ h _=>⟨_,_,Oh h,WH,o8⟩⟩
instance in22:B1 "all" yL:=⟨λ_ _ h c=>⟨_,_,Oi c h,WJ,boot_all⟩⟩
instance in23:B1 "any" EO:=⟨λ_ _ h c=>⟨_,_,Os c h,WQ,boot_any⟩⟩
class KtC(x:Str)(T:outParam String):Prop where p:(∀(X:Cx) (G:Bg) y b,vg T y=some b->cY X.K (y.val G) (.type T)=some b)/\dE x=some (.type T)
instance in24:KtC "str" "str" := ⟨λ_ _=>Tx,Pv.boot_str⟩
instance in25:KtC "int" "int" := ⟨λ_ _=>TZ,pX⟩
instance in26:KtC "bool" "bool" := ⟨λ_ _=>Qx,Pv.boot_bool⟩
instance in27:KtC "list" "list" := ⟨λ_ _=>Qd,pK⟩
instance in28:KtC "tuple" "tuple" := ⟨λ_ _=>kit_tuple,pC⟩
theorem U5{G:Bg}{H:Hp}:∀{dds:aI},dds.all vS=true->tm G H dds (dds.map vD)
 |[],_=>uq
 |d::ds,h=>by rw[cy,aS]at h;exact ur (CC h.1 H) (U5 h.2)
theorem eqI{α:Sort u}{a b:α}(h:a=b):a=b:=h
def sees(X:Cx)(i:Nat)(x:Str):Bool:=decide (X.N[i]?=some x)&&(match X.env.scope.names.lookup x with|some .local=>true|some .cell=>true|some .free=>true|_=>false)&&!(x==("__debug__" : Str))&&!(x==("__classdict__" : Str))
def sets(X:Cx)(i:Nat)(x:Str):Bool:=decide X.N.Nodup&&decide (X.N[i]?=some x)&&(match X.env.scope.names.lookup x with|some .local=>true|some .cell=>X.fn x|_=>false)
variable{ft fu:FT}{id T:String}{r:bA->Hp->VK->Prop}{y:Str}{body:List Stmt}
section
variable{X:Cx}{B:Bz}{k j i n c0:Nat}{x m:Str}{e e' o tg it:Expr}{es:List Expr}{p p2 p3 pos apos:Pos}{f f' f2:FE}{a:FA}{g:D->D->Option D}
theorem pvI(h:sees X i x=true):PE X (.Name x p) (zR i):=by
 unfold sees at h;simp only[aS,bJ,eL]at h;obtain⟨⟨⟨h1,h2⟩,h3⟩,h4⟩:=h;refine pv i h1 ?_ h3 h4;unfold Vis;split at h2
 ·rename_i e;exact .inl e
 ·rename_i e;exact .inr (.inl e)
 ·rename_i e;exact .inr (.inr e)
 ·cases h2
theorem aap(h:sees X i x=true):ZE X B (.Name x p) (cV i):=⟨Ls (pvI h)⟩
theorem W4(h:sees X i x=true):ZE X B (.Name x p) (cFz i):=⟨Z7 (pvI h)⟩
theorem T7(h:sees X i x=true):ZN X B (.Name x p) (Ja i):=⟨Tg (pvI h)⟩
theorem Jl(h:sets X i x=true):X.N.Nodup/\X.N[i]?=some x/\L2.Loc X.env.scope x/\(X.fn x=true\/X.env.scope.names.lookup x=some .local):=by
 unfold sets at h;simp only[aS,bJ]at h;obtain⟨⟨h1,h2⟩,h3⟩:=h;unfold L2.Loc;split at h3
 ·rename_i e;exact⟨h1,h2,.inl e,.inr e⟩
 ·rename_i e;exact⟨h1,h2,.inr e,.inl h3⟩
 ·cases h3
theorem pgI(h:sets X i x=true):PG X (.Name x p) (yO i):=by obtain⟨h1,h2,h3,h4⟩:=Jl h;exact Mr h1 h2 h3 h4
theorem W5(h:sets X i x=true)(hi:Nat.blt i n=true):ZG X B (.Name x p) n (gN i):=⟨PJ n (pgI h) (Nat.blt_eq.mp hi)⟩
theorem stW{te:TE}(h:sets X i x=true)(he:PE X e te)(hs:Wz X e (.Name x p) pos):PS X (.Assign [.Name x p] e pos) (BY te (yO i)):=by obtain⟨h1,h2,h3,h4⟩:=Jl h;exact VF h1 h2 h3 he hs h4
theorem W6(h:sets X i x=true)(he:ZE X B e f)(hs:Wz X e (.Name x p) pos):ZS X B (.Assign [.Name x p] e pos) (tZ i f):=⟨MK (stW h he.p hs)⟩
theorem W7(h:sets X i x=true)(he:ZN X B e a)(hs:Wz X e (.Name x p) pos):ZS X B (.Assign [.Name x p] e pos) (xp i a):=⟨J8 (stW h he.p hs)⟩
theorem W8(h:sets X i x=true)(hs:Wz X (.Dict [] [] p2) (.Name x p) pos):ZS X B (.Assign [.Name x p] (.Dict [] [] p2) pos) (FM i):=⟨Qi (stW h JY hs)⟩
theorem W9{op:jB}[O:OpC op g](ha:ZE X B e f)(hb:ZE X B e' f'):ZE X B (.BinOp e op e' pos) (c2 g f f'):=by obtain⟨r,h1,h2⟩:=O.p X B.G;exact⟨ZZ h1 h2 ha.p hb.p⟩
theorem Xa [C:Cz X B k](ha:ZE X B e f)(hb:ZE X B e' f')(hs:Iz e'):ZE X B (.Subscript e e' pos) (c2 dIx f f'):=⟨Z0 (ix_X C.K) aaf ha.p hb.p λo i=>congrFun (congrFun hs o) i⟩
theorem T8 [C:Cz X B k](h:sees X i x=true)(hb:ZE X B e' f')(hs:Iz e'):ZE X B (.Subscript (.Name x p) e' pos) (Od i f'):=⟨Wo (UT (Pt B.G.K C.K) (pvI h) hb.p λo i=>congrFun (congrFun hs o) i)⟩
theorem Xb [C:Cz X B k](ha:ZE X B e f)(hb:ZE X B e' f')(hs:Iz e'):ZE X B (.Subscript e e' pos) (c2 AA f f'):=⟨TF (JZ C.r) ha.p hb.p λo i=>congrFun (congrFun hs o) i⟩
section
variable{op op':fX}{g':D->D->Option D}
theorem Xc [O:CmC op g][C:Cz X B k](ha:ZE X B e f)(hb:ZE X B e' f')(hm:fM op e'=false):ZE X B (.Compare e [op] [e'] pos) (c2 g f f'):=by obtain⟨r,h1,h2⟩:=O.p X B.G C.K C.r.units;exact⟨Wf h1 h2 ha.p hb.p hm⟩
theorem Xd [O:CmC op g][C:Cz X B k](ha:ZE X B e f)(hb:ZE X B e' f')(hm:fM op e'=false):ZT X B (.Compare e [op] [e'] pos) (cT (c2 g f f')):=by obtain⟨r,h1,h2⟩:=O.p X B.G C.K C.r.units;exact⟨SM h1 h2 ha.p hb.p hm⟩
theorem Xe [O:CmC op g][O':CmC op' g'][C:Cz X B k](ha:ZE X B e f)(hb:ZE X B e' f')(hc:ZE X B o f2)(hm:lastMarks [op,op'] [e',o]=false):ZE X B (.Compare e [op,op'] [e',o] pos) (xa g g' f f' f2):=by obtain⟨r,h1,h2⟩:=O.p X B.G C.K C.r.units;obtain⟨r',h3,h4⟩:=O'.p X B.G C.K C.r.units;exact⟨P8 h1 h3 h2 h4 ha.p hb.p hc.p hm⟩
theorem Xf [O:CmC op g][O':CmC op' g'][C:Cz X B k](ha:ZE X B e f)(hb:ZE X B e' f')(hc:ZE X B o f2)(hm:lastMarks [op,op'] [e',o]=false):ZT X B (.Compare e [op,op'] [e',o] pos) (cT (xa g g' f f' f2)):=by obtain⟨r,h1,h2⟩:=O.p X B.G C.K C.r.units;obtain⟨r',h3,h4⟩:=O'.p X B.G C.K C.r.units;exact⟨Om h1 h3 h2 h4 ha.p hb.p hc.p hm⟩
end
theorem Xg(h:ZE X B e f)(he:(λwhole=>isTrue e X.env whole)=λwhole=>(do let v<-whole;standAt e.pos;holding [v] (truthy v))):ZT X B e (cT f):=⟨SN h.p λw=>congrFun he w⟩
theorem Xh(ha:ZT X B e ft)(hb:ZW X B (.BoolOp .Or (e'::es) pos) fu):ZT X B (.BoolOp .Or (e::e'::es) pos) (wV ft fu):=⟨PW.pt (Py ha.p hb.p)⟩
theorem Xi(ha:ZT X B e ft)(hb:ZW X B (.BoolOp .And (e'::es) pos) fu):ZT X B (.BoolOp .And (e::e'::es) pos) (vx ft fu):=⟨PW.pt (MI ha.p hb.p)⟩
theorem Xj{d:D}[C:Cz X B k][Q:Co B x d](hg:Gz X x)(hd:Dz x):ZE X B (.Name x pos) (cC d):=⟨Qb (C.mg▸Q.p) hg hd⟩
theorem Xk{ok:Nat->Bool}[C:Cz X B k][Q:Ff B ok m](he:ZE X B e f)(hb:Az X e m):ZE X B (.Attribute e m pos) (c1 (tH ok m) f):=⟨PM he.p (C.K▸Q.p) hb⟩
section
variable(hg:Gz X x)(hd:Dz x)(hs:Sz X e es)(hl:Lz X pos es)
include hg hd
theorem dz{sp:Sp}[C:Cz X B k][Q:Df B j x sp]:∃ps,BF X.prog X.w X.K X.mg X.base j x ps sp:=by rw[C.P,C.w,C.K,C.mg,C.b];exact Q.p
theorem Xl{g:aI->Option aI}[C:Cz X B k][Q:Df B j x (spN B.G g)](hj:fo j k=true):ZN X B (.Call (.Name x p) [] [] pos) (uy g ui):=by obtain⟨ps,q⟩:=dz hg hd (X:=X) (Q:=Q);exact⟨P9 q (C.r.mono (fi.mp hj)) hg hd⟩
include hs hl
theorem Xm{g:aI->Option D}[C:Cz X B k][Q:Df B j x (spF B.G g)](ha:ZA X B (e::es) a)(hj:fo j k=true):ZE X B (.Call (.Name x p) (e::es) [] pos) (sX g a):=by obtain⟨ps,q⟩:=dz hg hd (X:=X) (Q:=Q);exact⟨WL q (C.r.mono (fi.mp hj)) ha.p hg hd hs hl⟩
theorem Xn{g:aI->Option aI}[C:Cz X B k][Q:Df B j x (spN B.G g)](ha:ZA X B (e::es) a)(hj:fo j k=true):ZN X B (.Call (.Name x p) (e::es) [] pos) (uy g a):=by obtain⟨ps,q⟩:=dz hg hd (X:=X) (Q:=Q);exact⟨Tu q (C.r.mono (fi.mp hj)) ha.p hg hd hs hl⟩
theorem Xo{g:aI->aI->Option (D×aI)}[C:Cz X B k][Q:Df B j x (spM B.G g)](hv:ZV X e i)(ha:ZA X B es a)(hj:fo j k=true):ZE X B (.Call (.Name x p) (e::es) [] pos) (vA g i a):=by obtain⟨ps,q⟩:=dz hg hd (X:=X) (Q:=Q);exact⟨Tv q (C.r.mono (fi.mp hj)) hv.p ha.p hg hd hs hl⟩
theorem Xp{g:aI->Option (aH×aI)}{dds:aI}[C:Cz X B k][Q:Kf B j x c0 g dds](ha:ZA X B (e::es) a)(hj:fo (j+1) k=true):ZE X B (.Call (.Name x p) (e::es) [] pos) (uv c0 (λds=>g (ds++dds)) a):=by obtain⟨ps,q⟩:=Q.p;exact⟨Tw (by rw[C.P,C.w,C.mg,C.b];exact q) (λH=>U5 Q.f) (C.r.mono (fi.mp hj)) ha.p C.K hg hd hs hl⟩
end
theorem mz{g:Nat->Option (aI->Option D)}[C:Cz X B k][Q:Mf B j m g]:∀c h,g c=some h->z7 B.G X.prog X.w X.mg X.base j m c h:=by rw[C.P,C.w,C.mg,C.b];exact Q.p
theorem Xq{g:Nat->Option (aI->Option D)}{pl:Sem Bool}[C:Cz X B k][Q:Mf B j m g](ho:ZE X B o f)(hj:fo j k=true)
  (ht:eval (.Call (.Attribute o m apos) [] [] pos) X.env=(do
   let ov<-eval o X.env
   standAt apos.atName
   let (f,first)<-holding [ov] (getMethod ov m pl)
   callWith pos f first (bD pos (aE [] X.env)) (backToKw pos (dG [] X.env)))):ZE X B (.Call (.Attribute o m apos) [] [] pos) (tT g m f ui):=⟨Lx mz (C.r.mono (fi.mp hj)) ho.p C.K ht⟩
theorem Xr{g:Nat->Option (aI->Option D)}{pl:Sem Bool}[C:Cz X B k][Q:Mf B j m g](ho:ZE X B o f)(ha:ZA X B (e::es) a)(hj:fo j k=true)(hs:Sz X e es)(hl:Lz X pos es)
  (ht:eval (.Call (.Attribute o m apos) (e::es) [] pos) X.env=(do
   let ov<-eval o X.env
   standAt apos.atName
   let (f,first)<-holding [ov] (getMethod ov m pl)
   callWith pos f first (bD pos (aE (e::es) X.env)) (backToKw pos (dG [] X.env)))):ZE X B (.Call (.Attribute o m apos) (e::es) [] pos) (tT g m f a):=⟨On mz (C.r.mono (fi.mp hj)) ho.p ha.p C.K hs hl ht⟩
section
variable(hg:Gz X x)(hd:Nz x)(hs:S1 X e)
include hg hd hs
theorem cbI{t:TA}[C:Cz X B k][N:Nb B x](hc:ve X (.builtin id) r)(hv:dE x=some (.builtin id))(ha:PA X [e] t):PE X (.Call (.Name x p) [e] [] pos) (tCB r t):=by simp only[aS,bJ,eL]at hd;exact Cm hc hg (C.mg▸N.p) hv ha hd.1 hd.2 hs rfl
theorem ctI{t:TA}[C:Cz X B k][N:Nb B x](hc:ve X (.type T) r)(hv:dE x=some (.type T))(ha:PA X [e] t):PE X (.Call (.Name x p) [e] [] pos) (tCB r t):=by simp only[aS,bJ,eL]at hd;exact NX hc hg (C.mg▸N.p) hv ha hd.1 hd.2 hs rfl
theorem Xs{g:D->Option D}[Q:B1 x g][C:Cz X B k][N:Nb B x](ha:ZE X B e f):ZE X B (.Call (.Name x p) [e] [] pos) (c1 g f):=by obtain⟨id,r,h1,h2,h3⟩:=Q.p X B.G C.K C.c;exact⟨U0 h2 (cbI hg hd hs h1 h3 (vI ha.p xH hs))⟩
end
section
variable(hs:S1 X e)
include hs
theorem Xt [C:Cz X B k][N:Nb B "list"](hg:Gz X "list")(ha:ZE X B e f):ZN X B (.Call (.Name "list" p) [e] [] pos) (yS f):=⟨P5 (ctI hg (by decide) hs (Lw C.K) pK (vI ha.p xH hs))⟩
theorem Xu [C:Cz X B k][N:Nb B "tuple"](hg:Gz X "tuple")(ha:ZE X B e f):ZE X B (.Call (.Name "tuple" p) [e] [] pos) (Ay f):=⟨P6 (ctI hg (by decide) hs (Ol C.K) pC (vI ha.p xH hs))⟩
theorem Xv [C:Cz X B k][N:Nb B "sorted"](hg:Gz X "sorted")(ha:ZE X B e f):ZN X B (.Call (.Name "sorted" p) [e] [] pos) (DJ f):=⟨KC (cbI hg (by decide) hs (G6 C.r.units C.K) boot_sorted (vI ha.p xH hs))⟩
theorem Xw [C:Cz X B k][N:Nb B "range"](hg:Gz X "range")(ha:ZE X B e f):ZI X B tg (.Call (.Name "range" p) [e] [] pos) (iR1 f):=⟨Lv (NP hg (C.mg▸N.p) (vI ha.p xH hs) hs)⟩
end
section
variable(hi:Gz X "isinstance")(hg:Gz X x)(hs:aE [e,.Name x p2] X.env=[(false,eval e X.env),(false,eval (.Name x p2) X.env)])(hs':S1 X (.Name x p2))
include hi hg hs hs'
theorem Xx [Q:KtC x T][C:Cz X B k][N:Nb B "isinstance"][N':Nb B x](ha:ZE X B e f)(hd:Nz x):ZE X B (.Call (.Name "isinstance" p) [e,.Name x p2] [] pos) (c1 (wy (vg T)) f):=by
 simp only[aS,bJ,eL]at hd;refine⟨MQ (c:=.b T) (Cm (HG (.b T) (Q.p.1 X B.G) Qc C.K) hi (C.mg▸N.p) oQ (wW ha.p (wW (R9 (v:=.ty T) hg (C.mg▸N'.p) Q.p.2 rfl hd.1 hd.2) zT ?_) ?_) (by decide) (by decide) ?_ ?_)⟩
 ·exact hs'
 ·rw[hs,hs']
 ·rw[hs,hs']
 ·rw[hs'];rfl
theorem Xy{t:Ty->Option Bool}[Q:Ic B x t][C:Cz X B k][N:Nb B "isinstance"](ha:ZE X B e f)(hd:Dz x):ZE X B (.Call (.Name "isinstance" p) [e,.Name x p2] [] pos) (c1 (wy t) f):=by
 obtain⟨c,q1,q2⟩:=Q.p;refine⟨MQ (c:=.c c) (Cm (LC q1 C.K) hi (C.mg▸N.p) oQ (wW ha.p (wW (Mp (v:=.ref (B.G.ca c)) hg (C.mg▸q2) rfl hd) zT ?_) ?_) (by decide) (by decide) ?_ ?_)⟩
 ·exact hs'
 ·rw[hs,hs']
 ·rw[hs,hs']
 ·rw[hs'];rfl
end
section
variable(hb:Az X o m)(hl:Ez apos pos)(hs:S1 X e)
include hb hl hs
theorem bmI{r:V->bA->Hp->VK->Prop}{to:TE}{t:TA}[C:Cz X B k](pa:lZ T)(slot:Slot T m id)(hty:typeOf (.builtin id)=pure (.type "method_descriptor"))(hm:MtR X id r)(ho:PE X o to)(ha:PA X [e] t):PE X (.Call (.Attribute o m apos) [e] [] pos) (tBM B.G.K T r to t):=
 Pu B.G.K pa slot hty hm ho ha hb (by rw[hs];rfl) hl hs rfl C.K
end
section
variable(h:sees X i x=true)(hb:Az X (.Name x p) m)(hl:Ez apos pos)(hs:S1 X e)
include h hb hl hs
theorem Xz [C:Cz X B k](hm:m="append")(ha:ZE X B e f):ZE X B (.Call (.Attribute (.Name x p) m apos) [e] [] pos) (z4 i f):=by subst hm;exact⟨Ob (bmI hb hl hs jk kr nR Dy (pvI h) (vI ha.p xH hs))⟩
theorem XA [C:Cz X B k](hm:m="extend")(ha:ZE X B e f):ZE X B (.Call (.Attribute (.Name x p) m apos) [e] [] pos) (AY i f):=by subst hm;exact⟨LF (bmI hb hl hs jk jd nS (C.K▸LD) (pvI h) (wW ha.p zT hs))⟩
end
theorem XB [C:Cz X B k](ha:ZE X B e f)(hb:ZE X B e' f')(h1:Az X e "get")(h2:Ez apos pos)(h3:S1 X e'):ZE X B (.Call (.Attribute e "get" apos) [e'] [] pos) (c2 AX f f'):=⟨Qh (JZ C.r) ha.p hb.p ⟨h1,by rw[h3];rfl,h2,by rw[h3];rfl⟩⟩
theorem XC{xs:aH}[C:Cz X B k][Q:Af B c0 xs](hx:xs.contains m=true)(h:sees X i x=true)(hv:ZE X B e f)(hs:Wz X e (.Attribute (.Name x p) m apos) pos):ZS X B (.Assign [.Attribute (.Name x p) m apos] e pos) (uz c0 i m f):=⟨Tf (VS (pvI h) hv.p hs) (by obtain⟨i,_,e⟩:=kj (j7.mp hx);exact C.K▸Q.p.at i (b0.mpr ⟨_,e⟩))⟩
theorem XD [C:Cz X B k](h:sees X i x=true)(hk:ZE X B e' f')(hv:ZE X B e f)(hs:Wz X e (.Subscript (.Name x p) e' apos) pos):ZS X B (.Assign [.Subscript (.Name x p) e' apos] e pos) (xB i f' f):=⟨Qj (SA (JZ C.r) (pvI h) hk.p hv.p hs)⟩
theorem XE{n:Nat}[Q:Ij B n](h:ZE X B e f):ZE X B e (BG n f):=⟨TX Q.p h.p⟩
section
variable{ks:List (Option Expr)}{kfs:List (Str×FE)}
theorem XF:ZP X B pos [] [] []:=⟨SB⟩
theorem XG(hv:ZE X B e f)(hr:ZP X B pos ks es kfs):ZP X B pos (some (.Constant (.str y) j p)::ks) (e::es) ((y,f)::kfs):=⟨Pk OW hv.p hr.p⟩
theorem XH(h:ZP X B pos ks es kfs)(h1:(ks.all (·.isSome)&&decide (ks.length=es.length)&&!ks.isEmpty&&decide (ks.length<=15)&&decide (kfs.map λq=>(Sum.inr q.1:Key)).Nodup&&decide (kfs.length<=15))=true):ZE X B (.Dict ks es pos) (Kv kfs):=by simp only[aS,bJ,eL]at h1;obtain⟨⟨⟨⟨⟨a1,a2⟩,a3⟩,a4⟩,a5⟩,a6⟩:=h1;exact⟨T2 (SC h.p a1 a2 (λz=>by rw[z]at a3;cases a3) a4) a5 a6⟩
end
theorem XI{lo hi:Option Expr}{fl fh:FO}[C:Cz X B k](he:ZE X B e f)(hl:ZO X B lo fl)(hh:ZO X B hi fh):ZN X B (.Subscript e (.Slice lo hi none p) pos) (G3 f fl fh):=⟨LA (JT (sl_X C.K) he.p hl.p hh.p)⟩
theorem XJ{y:Int}:ZK X (some (.Constant (.int y) j pos)) (some y):=⟨P7⟩
theorem XM:ZK X none none:=⟨aag⟩
theorem XN [C:Cz X B k](h:ZE X B e f):ZI X B tg e (iL f):=⟨Ke (J3 B.G.K h.p C.K)⟩
theorem XO [C:Cz X B k](h:ZE X B e f):ZI X B tg e (iT f):=⟨Tn (SI B.G.K h.p C.K)⟩
theorem XQ(h:ZE X B e f):ZI X B tg e (iD f):=⟨Qq (TU h.p)⟩
theorem XR(h:ZE X B e f):ZI X B tg e (iS f):=⟨TH (V9 h.p)⟩
section
variable{gg:FG}{gs:aI->aU->Option aU}
theorem T9:ZH X B [] n HB:=⟨SY Sd⟩
theorem Ua(h1:ZG X B e n gg)(h2:ZH X B es n gs)(hs:(cF (e::es) X.env).map (·.2)=assign e X.env::(cF es X.env).map (·.2)):ZH X B (e::es) n (wt gg gs):=⟨PK (OY h1.p h2.p hs)⟩
theorem Ub{n' k':Nat}[C:Cz X B k](h:ZH X B es n gs)(hn:(cF es X.env).length=n')(ht:(cF es X.env).findIdx? (·.1)=none):ZG X B (.Tuple es k' pos) n (gT gs n'):=⟨SZ (SJ B.G.K C.c h.p hn ht C.K)⟩
end
def tgN:Expr->aH
 |.Name x _=>[x]
 |.Tuple es _ _=>es.filterMap λe=>match e with|.Name x _=>some x|_=>none
 |_=>[]
def cpN(X:Cx)(tg:Expr)(cap:List Nat):aH:=tgN tg++cap.map λj=>X.N.getD j ""
instance inCz [C:Cz X B k]{N':aH}{sc:cO}{cl:List (Str×Addr)}{A:Addr}{fp:List Addr}{s:ae}{H:Hp}:Cz (uZ X N' sc cl A fp s H) B k:=⟨C.P,C.w,C.K,C.mg,C.b,C.c,C.r⟩
def XS(X:Cx)(N':aH)(sc:cO)(n:Nat)(cap:List Nat):Bool:=decide cap.Nodup&&decide (sc.kind=.function)&&(sc.names.all λy=>y.2 != .cell)&&(sc.names.all λy=>y.2 != .local||sc.names.lookup y.1==some .local)&&(sc.names.all λy=>y.2 != .free||(X.env.kindOf y.1==some .cell||X.env.kindOf y.1==some .free))&&decide (N'.length=n+cap.length)&&decide ((N'.drop n).map some=cap.map λj=>X.N[j]?)&&((N'.drop n).all λx=>sc.names.lookup x==some .free)
section
variable{sc:cO}{cap:List Nat}{ifs:List Expr}{gg:FG}{ft:FT}{s:FA}
 (h0:XS X (cpN X tg cap) sc n cap=true) (hs:Fz X it) (hi:ZI X B tg it s)
 (h1:∀(cl:List (Str×Addr)) (A:Addr) (fp:List Addr) (s:ae) (H:Hp),ZG (uZ X (cpN X tg cap) sc cl A fp s H) B tg n gg)
 (h2:∀(cl:List (Str×Addr)) (A:Addr) (fp:List Addr) (s:ae) (H:Hp),ZF (uZ X (cpN X tg cap) sc cl A fp s H) B ifs ft)
 (h3:∀(cl:List (Str×Addr)) (A:Addr) (fp:List Addr) (s:ae) (H:Hp),ZE (uZ X (cpN X tg cap) sc cl A fp s H) B e f)
include h0 hs hi h1 h2 h3
theorem XT [C:Cz X B k]:ZN X B (.ListComp e [⟨tg,it,ifs,0⟩] sc pos) (tN n cap s gg ft f):=by unfold XS at h0;simp only[aS,bJ]at h0;obtain⟨⟨⟨⟨⟨⟨⟨a1,a2⟩,a3⟩,a4⟩,a5⟩,a6⟩,a7⟩,a8⟩:=h0;exact⟨PU a1 (SG (N':=cpN X tg cap) C.c hi.p (λcl A fp s H=>⟨(h1 cl A fp s H).p,(h2 cl A fp s H).p,(h3 cl A fp s H).p⟩) a2 a3 a4 a5 a6 a7 a8 λx=>congrFun hs x)⟩
theorem cpW [C:Cz X B k](h:sets X i x=true)(hw:dg (.ListComp e [⟨tg,it,ifs,0⟩] sc pos) (some (.Name x p)) apos.line X.env=pure true):PS X (.Assign [.Name x p] (.ListComp e [⟨tg,it,ifs,0⟩] sc pos) apos) (BY (D5 (tFI B.G s) (tFG B.G n gg) (tFT B.G ft) (tF B.G f) n cap) (yO i))/\cap.Nodup:=by unfold XS at h0;simp only[aS,bJ]at h0;obtain⟨⟨⟨⟨⟨⟨⟨a1,a2⟩,a3⟩,a4⟩,a5⟩,a6⟩,a7⟩,a8⟩:=h0;obtain⟨b1,b2,b3,b4⟩:=Jl h;exact⟨Tz (N':=cpN X tg cap) C.c b1 b2 b3 hi.p (λcl A fp s H=>⟨(h1 cl A fp s H).p,(h2 cl A fp s H).p,(h3 cl A fp s H).p⟩) a2 a3 a4 a5 a6 a7 a8 (λx=>congrFun hs x) hw b4,a1⟩
theorem XU [C:Cz X B k](h:sets X i x=true)(hw:dg (.ListComp e [⟨tg,it,ifs,0⟩] sc pos) (some (.Name x p)) apos.line X.env=pure true):ZS X B (.Assign [.Name x p] (.ListComp e [⟨tg,it,ifs,0⟩] sc pos) apos) (tZ i (cL (tN n cap s gg ft f))):=by have z:=cpW (k:=k) h0 hs hi h1 h2 h3 h hw;exact⟨Qe z.2 z.1⟩
theorem XW [C:Cz X B k](h:sets X i x=true)(hw:dg (.ListComp e [⟨tg,it,ifs,0⟩] sc pos) (some (.Name x p)) apos.line X.env=pure true):ZS X B (.Assign [.Name x p] (.ListComp e [⟨tg,it,ifs,0⟩] sc pos) apos) (xp i (tN n cap s gg ft f)):=by have z:=cpW (k:=k) h0 hs hi h1 h2 h3 h hw;exact⟨Oq z.2 z.1⟩
end
section
variable{st:Stmt}{sts:List Stmt}{fs fs':FS}{ft:FT}{a':FA}{z1:Nat}
theorem aaq(ha:ZE X B e f)(hr:ZA X B es a)(hs:Sz X e es):ZA X B (e::es) (aCons f a):=⟨vI ha.p hr.p hs⟩
theorem aar:ZA X B [] ui:=⟨xH⟩
theorem XX(h:sees X i x=true):ZV X (.Name x p) i:=⟨pvI h⟩
theorem XY(h:ZN X B e a):ZE X B e (cL a):=⟨Wl h.p⟩
theorem aas:ZE X B (.Constant (.str y) j pos) (cC (.str y)):=⟨Wd⟩
theorem aat{y:Int}:ZE X B (.Constant (.int y) j pos) (cC (.int y)):=⟨Wc⟩
theorem aau{y:Bool}:ZE X B (.Constant (.bool y) j pos) (cC (.bl y)):=⟨ZY⟩
theorem aav:ZE X B (.Constant .none j pos) (cC .non):=⟨We⟩
theorem M3(h1:ZS X B st fs)(h2:ZB X B sts fs'):ZB X B (st::sts) (sZ fs fs'):=⟨PB h1.p h2.p⟩
theorem aaw(h1:ZS X B st fs):ZB X B [st] fs:=⟨SW h1.p⟩
theorem aax:ZB X B [] tL:=⟨SV⟩
theorem XZ(h:ZE X B e f):ZS X B (.Return (some e) pos) (tE f):=⟨SX h.p⟩
theorem X0(h:ZN X B e a):ZS X B (.Return (some e) pos) (uU a):=⟨PD h.p⟩
theorem X2(h:ZE X B e f)(hs:dg e none pos.line X.env=pure false):ZS X B (.Expr e pos) (uf f):=⟨PF h.p hs⟩
theorem X3(h:ZT X B e ft)(h1:ZB X B sts fs){sts':List Stmt}(h2:ZB X B sts' fs'):ZS X B (.If e sts sts' pos) (sIf ft fs fs'):=⟨Wn h.p h1.p h2.p⟩
theorem X4:ZE X B e FN:=⟨Qk⟩
theorem X5(h:ZA X B es a):ZN X B (.List es pos) (uj a):=⟨SR h.p⟩
theorem X6(h:ZA X B es a):ZE X B (.Tuple es z1 pos) (tR a):=⟨Wk h.p⟩
theorem X7(ha:ZE X B e f)(hb:ZE X B e' f'):ZN X B (.BinOp e .Add e' pos) (w9 f f'):=⟨Ts ha.p hb.p⟩
theorem X8 [C:Cz X B k](ha:ZE X B e f)(hb:ZE X B e' f'):ZE X B (.BinOp e .Add e' pos) (D8 f f'):=⟨TJ ha.p hb.p C.K⟩
theorem X9(ha:ZE X B e f)(hb:ZE X B (.BoolOp .And (e'::es) pos) f'):ZE X B (.BoolOp .And (e::e'::es) pos) (uY f f'):=⟨Wi ha.p hb.p⟩
theorem Ya(ha:ZE X B e f)(hb:ZE X B (.BoolOp .Or (e'::es) pos) f'):ZE X B (.BoolOp .Or (e::e'::es) pos) (cOr f f'):=⟨Z2 ha.p hb.p⟩
theorem Yc{op}(ha:ZE X B e f):ZE X B (.BoolOp op [e] pos) f:=⟨Wh ha.p⟩
theorem Yd(ha:ZE X B e f):ZE X B (.UnaryOp .Not e pos) (G0 f):=⟨Wj ha.p⟩
theorem Ye(ha:ZT X B e ft):ZT X B (.UnaryOp .Not e pos) (uR ft):=⟨SO ha.p⟩
theorem Yf(h:ZT X B o ft)(ha:ZE X B e f)(hb:ZE X B e' f'):ZE X B (.IfExp o e e' pos) (cIf ft f f'):=⟨Z3 h.p ha.p hb.p⟩
theorem aay(h:ZT X B e ft):ZF X B [e] ft:=⟨SF h.p⟩
theorem aaz:ZF X B [] uF:=⟨PV⟩
theorem Yg(h:ZE X B e f):ZE X B e (zA f):=⟨WK h.p⟩
theorem Yh(h:ZT X B e ft):ZT X B e (zB ft):=⟨Tt h.p⟩
theorem Yi(h:ZE X B e f):ZO X B (some e) (oAt f):=⟨WT h.p⟩
theorem Yj:ZO X B none oNo:=⟨WR⟩
theorem Yk(ha:ZT X B e ft)(hb:ZW X B (.BoolOp .Or (e'::es) pos) fu):ZW X B (.BoolOp .Or (e::e'::es) pos) (wV ft fu):=⟨Py ha.p hb.p⟩
theorem Yl(ha:ZT X B e ft)(hb:ZW X B (.BoolOp .And (e'::es) pos) fu):ZW X B (.BoolOp .And (e::e'::es) pos) (vx ft fu):=⟨MI ha.p hb.p⟩
theorem Ym(h:ZT X B e ft):ZW X B (.BoolOp .Or [e] pos) ft:=⟨SQ h.p⟩
theorem Yn(h:ZT X B e ft):ZW X B (.BoolOp .And [e] pos) ft:=⟨Px h.p⟩
end
theorem Yo{s:FA}{gg:FG}{b:FS}[C:Cz X B k](hp:jA (model X.prog X.w) X.A X.env X.xe)(hn:X.N.length=n)(hi:ZI X B tg it s)(hg:ZG X B tg n gg)(hb:ZB X B body b)(hs:Fz X it):ZS X B (.For tg it body [] pos) (v8 s gg b):=⟨To (O3 hp C.c hi.p hg.p hb.p λx=>congrFun hs x)⟩
theorem Yp{b:FS}(hp:jA (model X.prog X.w) X.A X.env X.xe)(hc:ZT X B e ft)(hb:ZB X B body b):ZS X B (.While e body [] pos) (whL ft b n):=⟨Oe n (O1 hp hc.p hb.p)⟩
end
end L4
namespace L4
open PySem PySem.Spec PyProof.Rows L2 L3
open PySem.W (fnOf)
def nmO(st:Stmt):aH:=(tX st).names.filterMap λy=>match y.2 with|.local=>some y.1|.cell=>some y.1|_=>none
def psO(st:Stmt):aH:=(wY st).args.map (·.arg)
def okO(N ps:aH)(st:Stmt)(np n:Nat):Bool:=decide ((tX st).kind=.function)&&(tX st).isCoroutine==false&&(tX st).isGenerator==false&&decide N.Nodup&&decide (N.take ps.length=ps)&&(ps.all λx=>match (tX st).names.lookup x with|some .local=>true|some .cell=>true|_=>false)&&((tX st).names.all λy=>y.2 != .free)&&decide (ps.length=np)&&decide (N.length=n)
theorem okk{N ps:aH}{st:Stmt}{np n:Nat}(h:okO N ps st np n=true):vy N ps (tX st)/\ps.length=np/\N.length=n:=by
 unfold okO at h;simp only[aS,bJ,beq_iff_eq]at h;obtain⟨⟨⟨⟨⟨⟨⟨⟨h1,h2⟩,h3⟩,h4⟩,h5⟩,h6⟩,h7⟩,h8⟩,h9⟩:=h;refine⟨⟨h1,h2,h3,h4,h5,λx hx=>?_,λy hy e=>?_⟩,h8,h9⟩
 ·have z:=bp.mp h6 x hx;split at z
  ·rename_i e;exact .inl e
  ·rename_i e;exact .inr e
  ·cases z
 ·have z:=bp.mp h7 y hy;rw[e]at z;exact ao z (by decide)
section
variable{B:Bz}[Y:Yb B]{x m qual:Str}{st s0:Stmt}{l:List Stmt}{k c np n:Nat}{b:FS}{p:Str}{ps xs:aH}{N:aH}
abbrev Bdz(B:Bz)(N:aH)(qual:Str)(st:Stmt)(l:List Stmt)(k:Nat)(b:FS):Prop:=∀{f:Addr} {cdv:aa} {A:aC} {outer:List Env} {s:ae} {H:Hp} {E:XK} [Cz (D7 B.P B.w B.G.K B.mg B.base N qual st f cdv A outer s H E) B k],ZB (D7 B.P B.w B.G.K B.mg B.base N qual st f cdv A outer s H E) B l b
omit Y in
theorem Bdz.ok(h:Bdz B N qual st l k b)(hl:uw st=l):Bdy B.P B.w B.G.K B.mg B.base N qual st k (tFS B.G b):=λf cdv A outer s H E hr=>by subst hl;exact(@h f cdv A outer s H E ⟨rfl,rfl,rfl,rfl,rfl,rfl,hr⟩).p
theorem gF4{g:aI->Option D}(hg:g=fnD np n b)(q:GD B.G.K x st)(hl:uw st=s0::l)(body:Bdz B (nmO st) x st (s0::l) k b)(S:okO (nmO st) (psO st) st np n=true:=by kernel_rfl)(bd:Bds x x st (psO st):=by (repeat intro _);rfl):Df B (k+1) x (spF B.G g):=
 ⟨_,gF hg Y.y q (okk S).1 (body.ok hl) (okk S).2.1 (okk S).2.2 bd⟩
theorem gF5(N:aH){g:aI->Option D}(hg:g=fnD np n b)(q:GD B.G.K x st)(hl:uw st=s0::l)(body:Bdz B N x st (s0::l) k b)(S:okO N (psO st) st np n=true:=by kernel_rfl)(bd:Bds x x st (psO st):=by (repeat intro _);rfl):Df B (k+1) x (spF B.G g):=
 ⟨_,gF hg Y.y q (okk S).1 (body.ok hl) (okk S).2.1 (okk S).2.2 bd⟩
theorem gN4{g:aI->Option aI}(hg:g=fnN np n b)(q:GD B.G.K x st)(hl:uw st=s0::l)(body:Bdz B (nmO st) x st (s0::l) k b)(S:okO (nmO st) (psO st) st np n=true:=by kernel_rfl)(bd:Bds x x st (psO st):=by (repeat intro _);rfl):Df B (k+1) x (spN B.G g):=
 ⟨_,gN' hg Y.y q (okk S).1 (body.ok hl) (okk S).2.1 (okk S).2.2 bd⟩
theorem gM4{g:aI->aI->Option (D×aI)}(hg:g=fnM np n b)(q:GD B.G.K x st)(hl:uw st=s0::l)(hp:psO st=p::ps)(body:Bdz B (nmO st) x st (s0::l) k b)(S:okO (nmO st) (p::ps) st (np+1) n=true:=by kernel_rfl)(bd:Bds x x st (p::ps):=by (repeat intro _);rfl):Df B (k+1) x (spM B.G g):=
 ⟨_,gM hg Y.y q (okk S).1 (body.ok hl) (iy (okk S).2.1) (okk S).2.2 bd⟩
theorem hF4{g:aI->Option D}(C:CF B.G.K (B.G.ca c) xs)(hg:g=fnD np n b)(q:GM B.G.K (B.G.ca c) m qual st)(hl:uw st=s0::l)(body:Bdz B (nmO st) qual st (s0::l) k b)(S:okO (nmO st) (psO st) st np n=true:=by kernel_rfl)(bd:Bds m qual st (psO st):=by (repeat intro _);rfl):z7 B.G B.P B.w B.mg B.base (k+1) m c g:=by obtain⟨f,fd,a,i,F⟩:=q;exact⟨f,fd,_,C.ci.cl,⟨a,i,F.kp⟩,bd.ok F,Qa hg (okk S).2.1 (okk S).2.2 F (okk S).1 (body.ok hl f)⟩
theorem gI4{g:aI->Option (aH×aI)}(C:CF B.G.K (B.G.ca c) xs)(a:iI B.G.K aW x=some (some (.ref (B.G.ca c))))(hg:g=fnI c np n b)(q:GM B.G.K (B.G.ca c) "__init__" qual st)(hl:uw st=s0::l)(hp:psO st=p::ps)(body:Bdz B (nmO st) qual st (s0::l) k b)(S:okO (nmO st) (p::ps) st (np+1) n=true:=by kernel_rfl)(bd:Bds "__init__" qual st (p::ps):=by (repeat intro _);rfl):Kf B (k+1) x c g []:=
 ⟨⟨_,gI hg Y.y C a q (okk S).1 (body.ok hl) (iy (okk S).2.1) (okk S).2.2 bd⟩,rfl⟩
theorem gJ4{g:aI->Option (aH×aI)}{dds:aI}(C:CF B.G.K (B.G.ca c) xs)(a:iI B.G.K aW x=some (some (.ref (B.G.ca c))))(hg:g=fnI c np n b)(q:GJ B.G.K (B.G.ca c) qual st (dds.map vD))(hl:uw st=s0::l)(hp:psO st=p::ps)(body:Bdz B (nmO st) qual st (s0::l) k b)(j:Nat)(S:okO (nmO st) (p::ps) st (np+1) n=true:=by kernel_rfl)(hf:dds.all vS=true:=by rfl)
  (bd:LO (dds.map vD).length λdl=>LO ((p::ps).length - ((dds.map vD).drop j).length) λus=>∀(T:Addr) (kV doc pm:aa) (an:Option Addr) (cdv ct:aa),∃k,bindArgs (fnOf "__init__" qual (wY st) (uw st) (tX st) (.ref T) kV doc pm an cdv ct) ⟨us,[]⟩=seqItems? (.ref T)>>=k/\k (some dl.toArray)=pure ((p::ps).zip (us++dl.drop j)):=by (repeat intro _);exact⟨_,rfl,rfl⟩):Kf B (k+1) x c g (dds.drop j):=
 ⟨⟨_,by rw[pD];exact gJ hg Y.y C a q (okk S).1 (body.ok hl) j (iy (okk S).2.1) (okk S).2.2 bd⟩,by
  rw[bp]at hf ⊢;exact λd h=>hf d (List.mem_of_mem_drop h)⟩
theorem Uc(n:Nat)(ca:Nat->Addr):∀k,k<n->((bf n).map ca).getD k 0=ca k:=λk h=>by rw[cJ,bB,nE h];rfl
theorem injR{n:Nat}{ca:Nat->Addr}(h:decide ((bf n).map ca).Nodup=true):∀j k,j<n->k<n->ca j=ca k->j=k:=λj k hj hk e=>by rw[<-Uc n ca j hj,<- Uc n ca k hk]at e;exact W3 (bK h) (by simpa using hj) (by simpa using hk) e
def OD:Nat->(Nat->Prop)->Prop
 |0,_=>True
 |n+1,Q=>Q 0/\OD n λk=>Q (k+1)
theorem OD.at:∀{n:Nat} {Q:Nat->Prop},OD n Q->∀k,k<n->Q k
 |_+1,_,h,0,_=>h.1
 |_+1,_,h,k+1,hk=>OD.at (Q:=λk=>_) h.2 k (Nat.lt_of_succ_lt_succ hk)
end
section
variable{X:Cx}{B:Bz}{k j i n:Nat}{x y:Str}{e e' tg:Expr}{es:List Expr}{p p2 p3 pos apos:Pos}{f f':FE}{a:FA}{st:Stmt}{sts:List Stmt}{fs fs':FS}{ft:FT}
theorem Yq{e2:Expr}{f2:FE}[C:Cz X B k](ha:ZE X B e f)(hb:ZE X B e' f')(hc:ZE X B e2 f2)(h1:Az X e "get")(h2:Ez apos pos)(h3:aE [e',e2] X.env=[(false,eval e' X.env),(false,eval e2 X.env)]):ZE X B (.Call (.Attribute e "get" apos) [e',e2] [] pos) (HH f f' f2):=⟨Ql (JZ C.r) ha.p hb.p hc.p ⟨h1,by rw[h3];rfl,h2,by rw[h3];rfl⟩⟩
theorem Yr{gg:FG}(hn:X.N.length=n)(he:ZE X B e f)(hg:ZG X B tg n gg)(hs:swapsWithSole [tg] e pos.line X.env=pure false)(hw:swappedStores [tg] e X.env=pure none)(h1:(cF [tg] X.env).map (·.2)=[assign tg X.env]):ZS X B (.Assign [tg] e pos) (Cv f gg):=⟨S4 (OZ he.p hg.p hs hw h1)⟩
theorem Ys [C:Cz X B k][N:Nb B "int"](hg:Gz X "int")(hs:S1 X e)(ha:ZE X B e f):ZE X B (.Call (.Name "int" p) [e] [] pos) (c1 Tr f):=⟨U0 WI (ctI hg (by decide) hs NT pX (vI ha.p xH hs))⟩
end
end L4
namespace L4
open PySem PySem.Spec PyProof.Rows L2 L3
def LR(f:FE)(lo hi:Option Int):FE:=λρ=>match f ρ with
 |some (.tup ds,ρ1)=>if HT.sIx ds.length 0 lo=0/\HT.sIx ds.length ds.length hi=ds.length then none else some (.tup (cutD ds lo hi),ρ1)
 |_=>none
section
variable{X:Cx}{G:Bg}
theorem OE{e:Expr}{f:FE}{lo hi:Option Int}(h:PE X e (tSl (VW G.K) (tF G f) (tO lo) (tO hi))):PE X e (tF G (LR f lo hi)):=PE.weak h λσ H Q hh=>by
 obtain⟨F,ρ,H0,ds,ρ',R,e,k⟩:=hh;unfold LR at e;split at e
 ·rename_i xs ρ1 e1;split at e
  ·cases e
  ·rename_i hn;cases e;refine⟨F,ρ,H0,_,_,R,e1,λv H1 H1' s R' r=>?_⟩;unfold Rep at r;obtain⟨a,ys,rfl,h1,h2⟩:=r;rw[tu h2]at hn;exact⟨a,ys,rfl,SqT.mono R'.sub h1,hn,λp hp=>k _ _ _ (s.trans (uc (R'.h0none hp) _)) (R'.newIm hp _) (Ct (SqT.of tG) (tm.mono (uc (R'.h0none hp) _) _ _ (Kj h2)))⟩
 ·cases e
theorem sl_T(hK:X.K=G.K:=by rfl):SlR X (VW G.K):=by rw[<-hK];exact VX
end
section
variable{X:Cx}{B:Bz}{k:Nat}{e:Expr}{f:FE}{p pos:Pos}
theorem Yt{lo hi:Option Expr}{l h:Option Int}[C:Cz X B k](he:ZE X B e f)(hl:ZK X lo l)(hh:ZK X hi h):ZE X B (.Subscript e (.Slice lo hi none p) pos) (LR f l h):=⟨OE (JT (sl_T C.K) he.p hl.p hh.p)⟩
end
theorem M4{α:Type}[DecidableEq α]:∀{l L:List α},l.Nodup->(∀x∈l,x∈L)->l.length<=L.length
 |[],L,_,_=>cf _
 |a::l,L,nd,h=>by have h1:=h a aV;have nd':=c9.mp nd;have:=M4 (l:=l) (L:=L.erase a) nd'.2 λx hx=>(nh (λe:x=a=>nd'.1 (by rw[<-e];exact hx))).mpr (h x (ba _ hx));rw[mS h1]at this;have:=i9 h1;rw[aO];omega
structure Tb(t:br)(m n:Nat):Prop where
 mask:t.mask=m
 dm:t.dummies=#[]
 pl:t.place.size=n
variable{i q:Nat}
section
variable{t:br}{m n:Nat}
theorem Tb.slot(T:Tb t m n)(j:Nat):(∃i,t.slot j=.live i/\t.place[i]?=some j)\/t.slot j=.empty:=by
 unfold SetTable.slot;by_cases h:(t.place[dA t.place j]?==some j)=true
 ·left;simp only[h,if_true];exact⟨_,rfl,fS h⟩
 ·right;rw[oH]at h;rw[T.dm];simp[h,pL]
theorem Tb.free(T:Tb t m n)(h:n<=m):∃r,r<=m/\t.slot r=.empty:=by
 apply mO;intro no;have:(bf (m+1)).length<=t.place.toList.length:=M4 oI λr hr=>by
  rcases T.slot r with ⟨i,_,e⟩|e
  ·rw[<-hJ]at e;exact b8 e
  ·exact ao ⟨r,by have:=bV.mp hr;omega,e⟩ no
 rw[cD,bF,T.pl]at this;omega
def Emp(t:br):Nat->eU->Prop
 |0,_=>False
 |f+1,p=>t.slot p.j=.empty\/Emp t f (t.advance p)
theorem Emp.mono:∀{f f':Nat} {p:eU},Emp t f p->f<=f'->Emp t f' p
 |0,_,_,h,_=>h.elim
 |f+1,0,_,_,h=>ao h (by omega)
 |f+1,f'+1,p,h,hl=>h.imp id λh=>h.mono (by omega)
def rs(m i q:Nat):eU:=⟨i,eT m i - i,i,q,none⟩
theorem Yu(m i:Nat):eT m i - i<=9:=by unfold eT;split<;>omega
theorem Emp.run(T:Tb t m n){f:Nat}(h:Emp t f (rs m ((i * 5+1+q / 32) % (m+1)) (q / 32))):∀(k j:Nat),Emp t (f+k+1) ⟨j,k,i,q,none⟩
 |0,j=>.inr (by
   have e:t.advance ⟨j,0,i,q,none⟩=rs m ((i * 5+1+q / 32) % (m+1)) (q / 32):=by unfold kG SetTable.leap;rw[T.mask];rfl
   rw[e];exact h)
 |k+1,j=>.inr (by
   have e:t.advance ⟨j,k+1,i,q,none⟩=⟨j+1,k,i,q,none⟩:=by unfold kG;rw[af (lA k)];rfl
   rw[e];exact Emp.run T h k (j+1))
theorem Emp.leap(T:Tb t m n){f:Nat}(h:Emp t f (rs m ((i * 5+1+q / 32) % (m+1)) (q / 32))):Emp t (f+10) (rs m i q):=
 (Emp.run T h (eT m i - i) i).mono (by have:=Yu m i;omega)
def orb(m:Nat):Nat->Nat->List Nat
 |0,_=>[]
 |k+1,i=>i::orb m k ((i * 5+1) % (m+1))
theorem Emp.orb(T:Tb t m n){r:Nat}(hr:t.slot r=.empty):∀(k i:Nat),r∈orb m k i->Emp t (10 * k) (rs m i 0)
 |0,i,h=>by cases h
 |k+1,i,h=>by
  rcases aT.mp h with e|h
  ·exact Emp.mono (f:=1) (.inl (by rw[e]at hr;exact hr)) (by omega)
  ·have:=Emp.leap T (q:=0) (i:=i) (Emp.orb T hr k _ h);exact this.mono (by omega)
theorem M5(hm:m=7\/m=31){r:Nat}(hi:i<=m)(hr:r<=m):r∈orb m (m+1) i:=by
 have h:∀m∈[7,31],((bf (m+1)).all λi=>(bf (m+1)).all λr=>(orb m (m+1) i).contains r)=true:=by decide +kernel
 have:=bp.mp (bp.mp (h m (by rcases hm with rfl|rfl<;>simp)) i (bV.mpr (by omega))) r (bV.mpr (by omega));exact j7.mp this
theorem Emp.all(T:Tb t m n)(hm:m=7\/m=31)(hn:n<=m):∀(k i q:Nat),i<=m->q<32 ^ k->Emp t (10 * (k+(m+1))) (rs m i q)
 |0,i,q,hi,hq=>by
  obtain⟨r,hr,e⟩:=T.free hn;have q0:q=0:=by simpa using hq
  rw[q0,lh];exact Emp.orb T e _ _ (M5 hm hi hr)
 |k+1,i,q,hi,hq=>by have:=Emp.leap T (Emp.all T hm hn k ((i * 5+1+q / 32) % (m+1)) (q / 32) (n5 (fR _ (lA m))) (by rw[pM]at hq;omega));exact this.mono (by omega)
theorem Emp.start(T:Tb t m n)(hm:m=7\/m=31)(hn:n<=m)(h:Int):Emp t (10 * (m+14)) (t.probeStart h):=by
 have hb:cE h<32 ^ 13:=by unfold cE;omega
 have:=Emp.all T hm hn 13 (cE h % (m+1)) (cE h) (n5 (fR _ (lA m))) hb;have e:t.probeStart h=rs m (cE h % (m+1)) (cE h):=by unfold SetTable.probeStart;rw[T.mask];rfl
 rw[e];exact this.mono (by omega)
theorem QJ{p:eU}(h:p.dummy=none):(t.advance p).dummy=none:=by unfold kG;split<;>exact h
theorem QK(T:Tb t m n)(F:Nat->Int)(h:Int):∀(f:Nat) (p:eU),p.dummy=none->Emp t f p->∀g,f<=g->(∃j,t.slot j=.empty/\il t F h g p=some (.empty j none))\/
  ∃j i next f',f'<f/\t.slot j=.live i/\t.place[i]?=some j/\F i=h/\il t F h g p=some (.candidate j i next)/\next.dummy=none/\Emp t f' next
 |0,p,_,he,g,_=>he.elim
 |f+1,p,hd,he,0,hg=>ao hg (by omega)
 |f+1,p,hd,he,g+1,hg=>by
  unfold il;rcases T.slot p.j with ⟨i,e1,e2⟩|e1
  ·have he:Emp t f (t.advance p):=he.resolve_left λe=>by rw[e1]at e;cases e
   rw[e1];dsimp only;by_cases hh:F i=h
   ·right;exact⟨p.j,i,t.advance p,f,dv f,e1,e2,hh,by rw[af (by rw[hh];simp)],QJ hd,he⟩
   ·rw[ag (by simpa using hh)];rcases QK T F h f (t.advance p) (QJ hd) he g (by omega)with h1|⟨j,i',nx,f',h1,h2,h3⟩
    ·exact .inl h1
    ·exact .inr ⟨j,i',nx,f',by omega,h2,h3⟩
  ·left;rw[e1];exact⟨p.j,e1,by rw[hd]⟩
end
theorem Yv{t:br}{F F':Nat->Int}{h:Int}(e:∀i,F i=F' i)(g:Nat)(p:eU):il t F h g p=il t F' h g p:=by obtain rfl:F=F':=funext e;rfl
section
variable{prog:ay}{w:av}{A:aC}{E:aa->ae->Prop}{s:ae}
theorem zE{a2:Addr}{k2:List Key}{l:List aa}{Q:Bool->ae->Prop}(h1:∀v∈l,∃k a,v=.ref a/\TK prog w s.heap k a)(h2:TK prog w s.heap k2 a2)(h:Q false s):ai (model prog w) A (searchCouldBeSeen (.ref a2) l) Q E s:=by
 unfold searchCouldBeSeen;refine ah ?_;show ai _ _ (forIn l _ _) _ _ s;refine kE _ (λrest r s'=>r=(none,())/\s'=s/\∀v∈rest,∃k a,v=.ref a/\TK prog w s.heap k a) _ ?_ ?_ _ _ ⟨rfl,rfl,h1⟩
 ·rintro v rest r s' ⟨rfl,rfl,hall⟩;obtain⟨k,a1,rfl,h1⟩:=hall v aV;have go:∀v∈rest,∃k a,v=Value.ref a/\TK prog w s'.heap k a:=λu hu'=>hall u (ba _ hu');dsimp only;split
  ·exact ar ⟨rfl,rfl,go⟩
  ·refine ah (m5 h2 ?_);refine ah (m5 h1 ?_);refine ah (MU h2 ?_);refine ah (MU h1 ?_);exact ar ⟨rfl,rfl,go⟩
 ·rintro r s' ⟨rfl,rfl,_⟩;exact ar h
structure Els(prog:ay)(w:av)(h:Heap)(L:List (List Key×Addr))(es:Array (Int×aa)):Prop where
 tk:∀q∈L,TK prog w h q.1 q.2
 p:(es.toList.map bw).Perm (L.map λq=>Value.ref q.2)
variable{L:List (List Key×Addr)}{es:Array (Int×aa)}{t:br}{m n ep:Nat}{S a2:Addr}{k2:List Key}{o:Obj}{h:Int}
theorem KD{Q:SetFound->ae->Prop}(hu:A.units<cLine)(T:Tb t m n)(hm:m=7\/m=31)(hf:t.fits es.size=true)(l:Els prog w s.heap L es)(t2:TK prog w s.heap k2 a2)(ne:k2∉L.map bR)
  (ho:s.heap.get? S=some o) (hd:o.data=.set es ep t) (hQ:∀j,t.slot j=.empty->Q (.free j false) s):∀(fuel f:Nat) (st:Option eU),f<fuel->f<=10 * gw m->(st.getD (t.probeStart h)).dummy=none->Emp t f (st.getD (t.probeStart h))->
   ai (model prog w) A (setSearchFrom S (.ref a2) h true fuel st) Q E s
 |0,f,st,hl,_,_,_=>ao hl (by omega)
 |fuel+1,f,st,hl,hg,hdm,he=>by
  have sz:es.size=n:=by unfold iw at hf;rw[aS,beq_iff_eq,T.pl]at hf;exact hf.1.symm
  unfold setSearchFrom;refine ah (cR ho hd hf ?_);dsimp only;rw[ag (by unfold SetTable.gaveWay;rw[T.mask];rcases hm with rfl|rfl<;>decide)];unfold SetTable.probe;rw[Yv (F':=λi=>(es[i]?.map (·.1)).getD 0),T.mask]
  rotate_left
  ·intro i;rfl
  rcases QK T (λi=>(es[i]?.map (·.1)).getD 0) h f _ hdm he (10 * gw m) hg with ⟨j,e1,e2⟩|⟨j,i,nx,f',h1,h2,h3,h4,h5,h6,h7⟩
  ·rw[e2];exact ar (hQ j e1)
  ·rw[h5];dsimp only;have hi:i<es.size:=by rw[sz,<- T.pl];exact(mL.mp h3).1
   obtain⟨⟨h',y⟩,ey⟩:∃e,es[i]?=some e:=⟨es[i],i3 hi⟩;have my:y∈es.toList.map bw:=az.mpr ⟨(h',y),by rw[<-hJ]at ey;exact b8 ey,rfl⟩;obtain⟨q,hq,rfl⟩:=az.mp (l.p.mem_iff.mp my);have t1:=l.tk q hq;have nk:q.1≠k2:=λe=>ne (az.mpr ⟨q,hq,e⟩);have si:t.sameMemory t.moves m=some true:=by unfold SetTable.sameMemory;simp
   have rest:ai (model prog w) A (setSearchFrom S (.ref a2) h true fuel (some nx)) Q E s:=KD hu T hm hf l t2 ne ho hd hQ fuel f' (some nx) (by omega) (by omega) h6 h7;have sb:∀v∈fV (λx:Int×aa=>x.snd) (Array.filter (λx=>x.fst==h) es).toList,∃k a,v=Value.ref a/\TK prog w s.heap k a:=λv hv=>by
    obtain⟨e,he,rfl⟩:=az.mp hv;have he:e∈es.toList:=by rw[Array.toList_filter]at he;exact(bo.mp he).1
    obtain⟨q,hq,e2⟩:=az.mp (l.p.mem_iff.mp (az.mpr ⟨e,he,rfl⟩));exact⟨q.1,q.2,e2.symm,l.tk q hq⟩
   cases hb:t.led;refine ah (zE sb t2 ?_)
   all_goals
    rw[ey];refine ah (cc (wpAny_eqBool_tuple hu t1 t2 ?_));refine ah (cR ho hd hf ?_);rw[aL nk];dsimp only;rw[ag (by decide),si];dsimp only;rw[af rfl,h2];dsimp only;rw[ey];refine ah (wpAny_isSame_ref_self ?_);refine ah (ar ?_);exact rest
end
def Nn(ow:Array (Option Nat))(j:Nat):Prop:=(ow.getD j (some 0)).isNone=true
variable{j:Nat}{led:Bool}
section
variable{ow:Array (Option Nat)}
theorem Yy(i:Nat):0<eT 31 i+1 - i:=by unfold eT;split<;>omega
theorem HR{f:Nat}:(∃j,Nn ow j/\dQ 31 ow (f+1) i q=some j)\/(¬Nn ow i/\dQ 31 ow (f+1) i q=dQ 31 ow f ((i * 5+1+q / 32) % 32) (q / 32)):=by
 have ef:dQ 31 ow (f+1) i q=match (bf (eT 31 i+1 - i)).find? λk=>(ow.getD (i+k) (some 0)).isNone with
  |some k=>some (i+k)
  |none=>dQ 31 ow f ((i * 5+1+q / 32) % 32) (q / 32):=rfl
 rw[ef];cases e:(bf (eT 31 i+1 - i)).find? λk=>(ow.getD (i+k) (some 0)).isNone with
 |some k=>exact .inl ⟨i+k,oR (p:=λk=>(ow.getD (i+k) (some 0)).isNone) e,rfl⟩
 |none=>refine .inr ⟨λh=>?_,rfl⟩;have:=nT.mp e 0 (bV.mpr (Yy i));exact this h
theorem KE{r:Nat}(hr:Nn ow r):∀(k f i:Nat),k<=f->r∈orb 31 k i->∃j,Nn ow j/\dQ 31 ow f i 0=some j
 |0,f,i,_,h=>by cases h
 |k+1,0,i,hf,_=>ao hf (by omega)
 |k+1,f+1,i,hf,h=>by
  rcases HR (ow:=ow) (f:=f) (i:=i) (q:=0)with h1|⟨h1,h2⟩
  ·exact h1
  ·rcases aT.mp h with e|h
   ·exact ao (e▸hr) h1
   ·rw[h2];exact KE hr k f _ (by omega) h
theorem KF{r:Nat}(hr:Nn ow r)(h32:r<=31):∀(k f i q:Nat),k+32<=f->i<=31->q<32 ^ k->∃j,Nn ow j/\dQ 31 ow f i q=some j
 |0,f,i,q,hf,hi,hq=>by
  have q0:q=0:=by simpa using hq
  rw[q0];exact KE hr 32 f i (by omega) (M5 (m:=31) (.inr rfl) hi h32)
 |k+1,0,i,q,hf,_,_=>ao hf (by omega)
 |k+1,f+1,i,q,hf,hi,hq=>by
  rcases HR (ow:=ow) (f:=f) (i:=i) (q:=q)with h1|⟨_,h2⟩
  ·exact h1
  ·rw[h2];exact KF hr h32 k f _ _ (by omega) (by omega) (by rw[pM]at hq;omega)
def lv(ow:Array (Option Nat)):List (Nat×Nat):=(bf 32).filterMap λj=>(ow.getD j none).map (j,·)
theorem aaA(hs:ow.size=32)(h:Nn ow j):j<32/\ow.getD j none=none:=by
 unfold Nn at h;by_cases hj:j<ow.size
 ·refine⟨by omega,?_⟩;rw[f9,i3 hj]at h ⊢;simpa using h
 ·rw[f9,Array.getElem?_eq_none (by omega)]at h;cases h
theorem Yz(hs:ow.size=32){k:Nat}(h:Nn ow j):(lv (ow.setIfInBounds j (some k))).Perm ((j,k)::lv ow):=by
 obtain⟨hj,e⟩:=aaA hs h;have get:∀i,(ow.setIfInBounds j (some k)).getD i none=if i=j then some k else ow.getD i none:=λi=>by
  rw[f9,f9,Array.getElem?_setIfInBounds];by_cases hi:j=i
  ·subst hi;rw[af rfl,af (by omega),af rfl];rfl
  ·rw[ag hi,ag (λe=>hi e.symm)]
 obtain⟨a,b,sp⟩:=List.append_of_mem (bV.mpr hj);have nd:(bf 32).Nodup:=oI;rw[sp,bT,c9]at nd;unfold lv;rw[sp,m6,m6,dS,dS,get j,af rfl,e];have eq:∀l:List Nat,j∉l->l.filterMap (λi=>((ow.setIfInBounds j (some k)).getD i none).map (i,·))=l.filterMap λi=>(ow.getD i none).map (i,·):=λl hl=>by
  induction l with
  |nil=>rfl
  |cons i l ih=>rw[dS,dS,ih λz=>hl (ba _ z),get i,ag λe=>hl (by rw[<-e];exact aV)]
 rw[eq a λz=>nd.2.2 j z j aV rfl,eq b nd.2.1.1];exact List.perm_middle
theorem QL:∀(hs:List Int) (ow:Array (Option Nat)) (k:Nat),ow.size=32->((lv ow).map bw).Perm (bf k)->k+hs.length<=31->∃ow',ow'.size=32/\((lv ow').map bw).Perm (bf (k+hs.length))/\
  (hs.foldl (λacc h=>do
   let (owner,k)<-acc;let j<-dQ 31 owner (gw 31) (cE h % (31+1)) (cE h)
   pure (owner.setIfInBounds j (some k),k+1)) (some (ow,k)))=some (ow',k+hs.length)
 |[],ow,k,h1,h2,_=>⟨ow,h1,h2,rfl⟩
 |h::hs,ow,k,h1,h2,h3=>by
  rw[aO]at h3 ⊢;have fr:∃r,r<=31/\Nn ow r:=by
   apply mO;intro no;have len:(lv ow).length=32:=by
    have:∀l:List Nat,(∀j∈l,j<=31)->(l.filterMap λj=>(ow.getD j none).map (j,·)).length=l.length:=λl hl=>by
     induction l with
     |nil=>rfl
     |cons j l ih=>
      have hj:=hl j aV;have hn:¬Nn ow j:=λe=>no ⟨j,hj,e⟩;cases e:ow.getD j none with
      |none=>refine ao ?_ hn;unfold Nn;rw[f9,i3 (by omega)]at e ⊢;simpa using e
      |some x=>rw[dS,e];show (List.filterMap _ l).length+1=l.length+1;rw[ih λz hz=>hl z (ba _ hz)]
    exact(this (bf 32) λj hj=>by have:=bV.mp hj;omega).trans cD
   have:=h2.length_eq;rw[aj,cD,len]at this;omega
  obtain⟨r,hr,nr⟩:=fr;have hb:cE h<32 ^ 13:=by unfold cE;omega
  obtain⟨j,nj,ej⟩:=KF nr hr 13 (gw 31) (cE h % (31+1)) (cE h) (by decide) (by omega) hb;obtain⟨ow',q1,q2,q3⟩:=QL hs (ow.setIfInBounds j (some k)) (k+1) (by rw[Array.size_setIfInBounds];exact h1) (by
   refine((Yz h1 nj).map bw).trans ?_;rw[aK,List.range_succ];exact((List.Perm.cons k h2).trans (jZ k _).symm)) (by omega)
  refine⟨ow',q1,by rw[show k+(hs.length+1)=k+1+hs.length by omega];exact q2,?_⟩;rw[jr,show k+(hs.length+1)=k+1+hs.length by omega,<- q3];congr 1;show (dQ 31 ow (gw 31) (cE h % (31+1)) (cE h)).bind _=_;rw[ej];rfl
theorem Jm{fg mv:Nat}{pl:Bool}(hs:Array Int)(hn:hs.size<=31):∃t order,kY 31 fg mv led pl hs=some (t,order)/\Tb t 31 hs.size/\t.led=led/\t.plain=pl/\order.toList.Perm (bf hs.size):=by
 obtain⟨ow,h1,h2,h3⟩:=QL hs.toList (oT 32 none) 0 (by simp) (by
  have:lv (oT 32 none)=[]:=by unfold lv;rw[List.filterMap_eq_nil_iff];intro j hj;rw[f9,Array.getElem?_replicate,af (bV.mp hj)];rfl
  rw[this];exact .nil) (by rw[bF];omega)
 rw[lh,bF]at h2 h3;have e:n6 31 hs=some ow:=by unfold n6;rw[<-Array.foldl_toList];exact bH (pZ bR) h3
 refine⟨_,_,by unfold kY;rw[e];rfl,⟨rfl,rfl,?_⟩,rfl,rfl,?_⟩
 ·have:=h2.length_eq;rw[aj,cD]at this;show (fV _ (lv ow)).toArray.size=_;rw[bb,aj,this]
 ·exact h2
end
def Cz2(m n:Nat):Prop:=(m=7/\n<=4)\/(m=31/\n<=18)\/(m=127/\19<=n/\n<=63)
variable{x:Str}
section
variable{prog:ay}{w:av}{A:aC}{E:aa->ae->Prop}{s:ae}
theorem QM{ks:List Key}{a:Addr}{Q:Bool->ae->Prop}(hk:TK prog w s.heap (Sum.inr x::ks) a)(h:Q false s):ai (model prog w) A (hashByValue 8 (.ref a)) Q E s:=by
 have hT:=hk.typeIs;obtain⟨o,items,n,ho,_,hd,hi⟩:=hk;unfold hashByValue;refine ah (iq hT F.slot_tuple_hash.lookup ?_);show ai _ _ (seqItems? (.ref a)>>=_) _ _ s;refine ah (kN ho hd ?_);refine ah ?_;show ai _ _ (forIn items _ _) _ _ s;rw[<-nQ];generalize items.toList=l at hi ⊢;cases hi with
 |@cons _ v _ vs h1 h2=>
  obtain⟨t,rfl⟩:∃t,v=.str x t:=MW h1;refine kE _ (λrest r s'=>s'=s/\∃u,rest=.str x t::u) _ ?_ ?_ _ _ ⟨rfl,vs,rfl⟩
  ·rintro v rest r s' ⟨rfl,u,e⟩;cases e;refine ah (m:=hashByValue 7 (.str x t)) (ar ?_);exact ar (ar h)
  ·rintro r s' ⟨rfl,u,e⟩;cases e
variable{L:List (List Key×Addr)}{es:Array (Int×aa)}{t:br}{m n ep:Nat}{S a2:Addr}{k2:List Key}{o:Obj}{h:Int}
theorem QN{Q:Unit->ae->Prop}(hc:t.mask=7)(ho:s.heap.get? S=some o)(hd:o.data=.set es ep t)(hf:t.fits es.size=true)(h5:es.size=5)
  (hQ:∀h' es' t',dF S s.heap h'->h'.get? S=some { o with data:=.set es' (ep+1) t' }->Tb t' 31 5->t'.led=t.led->t'.plain=t.plain->es'.toList.Perm es.toList->Q () { s with heap:=h' }):ai (model prog w) A (setRelay S (dB 5)) Q E s:=by
 unfold setRelay;refine ah (cR ho hd hf ?_);dsimp only;rw[ag (by rw[bO];decide)];obtain⟨t',order,e1,T,e2,e3,e4⟩:=Jm (fg:=t.finger) (mv:=t.movedTo 31) (led:=t.led) (pl:=t.plain) (es.map (·.1)) (by rw[pe];omega)
 rw[pe]at T e4;have hp:(order.filterMap (es[·]?)).toList.Perm es.toList:=by rw[Array.toList_filterMap];exact(e4.filterMap _).trans (by rw[j4])
 have er:t.relaid (es.map (·.1)) (dB 5)=some (t',order):=e1
 rw[er];have sz:(order.filterMap (es[·]?)).size=es.size:=by have:=hp.length_eq;rw[bF,bF]at this;exact this
 refine ah ?_;wp_delta;dsimp only;rw[ag (by rw[sz];simp)];refine ar ?_;refine jl ho hd ?_ (by show (order.filterMap (es[·]?)).size<=aG;rw[sz,bO];omega)
 exact hQ _ _ _ (c7 ..) (LG ho hd) (by rw[h5]at T;exact T) e2 e3 hp
theorem add_n{Q:Bool->ae->Prop}(hu:A.units<cLine)(T:Tb t m n)(hc:Cz2 m n)(h8:n<=8)(hf:t.fits es.size=true)(l:Els prog w s.heap L es)(t2:TK prog w s.heap (Sum.inr x::k2) a2)(ne:(Sum.inr x::k2)∉L.map bR)
  (ho:s.heap.get? S=some o) (hd:o.data=.set es ep t)
  (hQ:∀h' es' t' ep' m',dF S s.heap h'->h'.get? S=some { o with data:=.set es' ep' t' }->Tb t' m' (n+1)->Cz2 m' (n+1)->t'.led=t.led->t'.plain=false->(es'.toList.map bw).Perm (.ref a2::es.toList.map bw)->Q true { s with heap:=h' }):
  ai (model prog w) A (setAddHashed S (.ref a2) h) Q E s:=by
 have hc:(m=7/\n<=4)\/(m=31/\n<=9):=by unfold Cz2 at hc;omega
 have hm:m=7\/m=31:=hc.imp And.left And.left;have sz:es.size=n:=by unfold iw at hf;rw[aS,beq_iff_eq,T.pl]at hf;exact hf.1.symm
 unfold setAddHashed setAddHashedIn;refine cc (ah (cR ho hd hf ?_));dsimp only;rw[ag (by simp[byScan,Value.scannable])];have nm:n<=m:=by rcases hc with ⟨rfl,h⟩|⟨rfl,h⟩<;>omega
 refine ah (KD hu T hm hf l t2 ne ho hd (λj hj=>?_) 100000 (10 * (m+14)) none (by rcases hm with rfl|rfl<;>decide) (by unfold gw;omega) rfl (Emp.start T hm nm h));dsimp only;refine ah (cR ho hd hf ?_);dsimp only;have p1:(t.put j).1.mask=m:=T.mask;have p2:(t.put j).1.dummies=#[]:=by show (if pL t.dummies j then _ else t.dummies)=_;rw[T.dm];rfl
 have p3:(t.put j).1.place.size=n+1:=by have:=(mZ t.place (dA t.place j) j).length_eq;rw[bF,bF,Array.size_push,T.pl]at this;exact this
 have p4:(gm es (t.put j).2 (h,Value.ref a2)).toList.Perm ((h,.ref a2)::es.toList):=by refine(mZ es _ _).trans ?_;rw[kA];exact jZ _ _
 have p5:(gm es (t.put j).2 (h,Value.ref a2)).size=n+1:=by have:=p4.length_eq;rw[bF,aO,bF,sz]at this;exact this
 let t1:br:={ (t.put j).1 with plain:=false };have T1:Tb t1 m (n+1):=⟨p1,p2,p3⟩;have f1:t1.fits (gm es (t.put j).2 (h,Value.ref a2)).size=true:=by unfold iw kZ;rw[p5,T1.pl,T1.dm,T1.mask,aS];exact⟨by simp,aM (by rcases hc with ⟨rfl,h⟩|⟨rfl,h⟩<;>simp<;>omega)⟩
 have fin:∀t0:br,t0=t1->ai (model prog w) A (do
   storeSet S (gm es (t.put j).2 (h,.ref a2)) t0
   if (!false&&t0.tooFull)=true then do setRelay S (dB (es.size+1));pure true else pure true) Q E s:=λt0 e=>by
  subst e;refine ah (jl ho hd ?_ (by rw[p5,bO];omega));have g1:=LG (es':=gm es (t.put j).2 (h,Value.ref a2)) (t':=t1) ho hd;have tf:t1.tooFull=decide ((n+1) * 5 >= m * 3):=by unfold SetTable.tooFull kZ;rw[T1.pl,T1.dm,T1.mask];rfl
  rw[tf];by_cases h5:(n+1) * 5 >= m * 3
  ·rw[aM h5,af (by decide)];obtain⟨rfl,rfl⟩:m=7/\n=4:=by rcases hc with ⟨rfl,h⟩|⟨rfl,h⟩<;>omega
   rw[sz];refine ah (QN (s:={ s with heap:=s.heap.update S (gG (gm es (t.put j).2 (h,.ref a2)) t1) }) T1.mask g1 rfl f1 p5 λh' es' t' b1 b2 b3 b4 b5 b6=>?_);refine ar (hQ h' es' t' _ 31 ((c7 ..).trans b1) b2 b3 (.inr (.inl ⟨rfl,by decide⟩)) b4 b5 ?_);exact(b6.map _).trans (p4.map _)
  ·rw[aL h5,ag (by decide)];refine ar (hQ _ _ _ _ m (c7 ..) g1 T1 ?_ rfl rfl (p4.map _));rcases hc with ⟨rfl,h⟩|⟨rfl,h⟩
   ·exact .inl ⟨rfl,by omega⟩
   ·exact .inr (.inl ⟨rfl,by omega⟩)
 split
 ·refine ah (QM t2 ?_);exact fin _ rfl
 ·rename_i hp;refine ah (ar (fin _ ?_));rw[oH]at hp;rw[af rfl];show (t.put j).1={ (t.put j).1 with plain:=false };rw[<-hp]
end
structure G7(h:Heap)(S:Addr)(L:List (List Key×Addr))(led:Bool)(n:Nat)(o:Obj)(es:Array (Int×aa))(ep:Nat)(t:br):Prop where
 at_:h.get? S=some o
 ex:o.ExactSet
 d:o.data=.set es ep t
 c:∃m,Tb t m n/\Cz2 m n
 led:t.led=led
 pl:0<n->t.plain=false
 p:(es.toList.map bw).Perm (L.map λq=>Value.ref q.2)
variable{o:Obj}{es:Array (Int×aa)}{ep:Nat}
theorem G7.sz{h:Heap}{S:Addr}{L:List (List Key×Addr)}{n:Nat}{t:br}(x:G7 h S L led n o es ep t):es.size=L.length:=by have:=x.p.length_eq;rw[aj,aj,bF]at this;exact this
theorem G7.fits{h:Heap}{S:Addr}{L:List (List Key×Addr)}{n:Nat}{t:br}(x:G7 h S L led n o es ep t)(hl:L.length=n):t.fits es.size=true:=by obtain⟨m,T,c⟩:=x.c;unfold iw kZ;rw[x.sz,hl,T.pl,T.dm,T.mask,aS];exact⟨by simp,aM (by unfold Cz2 at c;simp;omega)⟩
section
variable{prog:ay}{w:av}{A:aC}{R:dM->ae->Prop}{I:Addr}{fp wr:List Addr}{GG:Array eh->Array eh->Prop}{n:Nat}{PP:Nat->aa->Prop}{SS:Nat->ae->Prop}
theorem OF(W:WalksS prog w A.in1 I fp wr GG n PP SS){S:Addr}(hSf:S∉fp)(hu:A.in1.units<cLine)(L:List (List Key×Addr))(hn:L.length=n)(h8:n<=8)(nd:(L.map bR).Nodup)(hk:∀q∈L,∃x k,q.1=Sum.inr x::k)(far:∀q∈L,q.2∉S::wr)
  (hval:∀i v,PP i v->∃q,L[i]?=some q/\v=.ref q.2):∀(k i:Nat) (s:ae) (o:Obj) (es:Array (Int×aa)) (ep:Nat) (t:br),n - i=k->i<=n->SS i s->(∀q∈L,TK prog w s.heap q.1 q.2)->G7 s.heap S (L.take i) led i o es ep t->
   (∀s' o es ep t,Moved (S::wr) GG s s'->G7 s'.heap S L led n o es ep t->R (.ok (.ret .none)) s')->
   cz (model prog w) A (.builtin "set.update.loop" ⟨[.ref S,.ref I],[]⟩) R s:=by
 have hSw:S∉wr:=λz=>hSf (W.sub _ z);have up:∀b∈wr,b∈S::wr:=λb z=>ba _ z;intro k
 induction k with
 |zero=>
  intro i s o es ep t hk' hi hst tk x hR;obtain rfl:i=n:=by omega
  refine dy gb ?_;rw[dR dr _];show ai _ A.in1 (pyNext (.ref I)>>=_) _ _ s;refine ah (W.done s _ _ hst λs' hm=>?_);show ai _ A.in1 (ret Value.none) _ _ s';rw[i8 (by omega)]at x;exact ar (hR s' o es ep t (hm.mono up) { x with at_:=hm.heap S _ hSw x.at_ })
 |succ k ih=>
  intro i s o es ep t hk' hi hst tk x hR;have hlt:i<n:=by omega
  refine dy gb ?_;rw[dR dr _];show ai _ A.in1 (pyNext (.ref I)>>=_) _ _ s;refine ah (W.item i s _ _ hlt hst λv s' hP hst' hm=>?_);obtain⟨q,eq,rfl⟩:=hval i v hP;have mq:q∈L:=b8 eq;have tk':∀q∈L,TK prog w s'.heap q.1 q.2:=λq hq=>(tk q hq).kept λo=>hm.heap q.2 o λz=>far q hq (up _ z);show ai _ A.in1 (holding _ (setAdd S _)>>=_) _ _ s';refine ah (cc ?_);unfold setAdd;refine cc ?_;refine ah (wpAny_pyHash_tuple hu (tk' q mq) ?_);obtain⟨m,T,c⟩:=x.c;obtain⟨z,kk,ez⟩:=hk q mq;have tq:TK prog w s'.heap (Sum.inr z::kk) q.2:=by rw[<-ez];exact tk' q mq
  have split:L.take (i+1)=L.take i++[q]:=by rw[kz,eq];rfl
  have ne:(Sum.inr z::kk)∉(L.take i).map bR:=λw'=>by have h1:((L.take (i+1)).map bR).Nodup:=nd.sublist ((ie _ _).map _);rw[split,bE,bT]at h1;exact h1.2.2 _ w' _ (aR.mpr ez.symm) rfl
  have sub:∀r∈L.take i,r∈L:=λr hr=>(ie _ _).subset hr;have x':G7 s'.heap S (L.take i) led i o es ep t:={ x with at_:=hm.heap S _ hSw x.at_ };refine add_n (s:={ s' with toks:=s'.toks+(q.1.length+1) }) (L:=L.take i) hu T c (by omega) (x'.fits (by rw[cn];omega)) ⟨λr hr=>tk' r (sub r hr),x'.p⟩ tq ne x'.at_ x'.d λh' es' t' ep' m' b1 b2 b3 b4 b5 b6 b7=>?_;have y:G7 h' S (L.take (i+1)) led (i+1) { o with data:=.set es' ep' t' } es' ep' t':=by refine⟨b2,x.ex,rfl,⟨m',b3,b4⟩,b5.trans x.led,λ_=>b6,b7.trans ?_⟩;rw[split,bE];exact(List.Perm.cons _ x.p).trans (jZ _ _).symm
  refine ar ⟨fO dr _,ih (i+1) _ _ _ _ _ (by omega) hlt (W.frame _ s' h' _ hst' (gq _ _) λb z o e=>?_) (λr hr=>(tk' r hr).kept λo e=>?_) y λs'' o2 es2 ep2 t2 hm'' x2=>?_⟩
  ·rw[b1.2 b (λy:b=S=>hSf (by rw[<-y];exact z))];exact e
  ·rw[b1.2 r.2 (λy:r.2=S=>far r hr (by rw[y];exact aV))];exact e
  ·refine hR s'' o2 es2 ep2 t2 (jx W.gtrans ((hm.mono up).then_heap (gq _ _) λb o z e=>?_) hm'') x2;rw[b1.2 b (λy:b=S=>z (by rw[y];exact aV))];exact e
end
theorem Jn{α:Type}:∀(l:List α) (j:Nat) (x:α),l[j]?=some x->(x::l.eraseIdx j).Perm l
 |[],j,x,h=>by cases h
 |a::l,0,x,h=>by cases h;exact .refl _
 |a::l,j+1,x,h=>(List.Perm.swap a x _).trans (List.Perm.cons a (Jn l j x h))
theorem M6{α:Type}(nx:Nat->Nat):∀(f k:Nat) (l:List α) (out:Array α),l.length=f->(pN nx f k l out).toList.Perm (out.toList++l)
 |0,k,l,out,h=>by obtain rfl:=j5.mp h;rw[bG];exact .refl _
 |f+1,k,l,out,h=>by have hlt:nx k % l.length<l.length:=fR _ (by omega);have e:l[nx k % l.length]?=some l[nx k % l.length]:=aZ hlt;unfold pN;rw[e];refine(M6 nx f (k+1) _ _ (by rw[ni,af hlt];omega)).trans ?_;rw[kA,b9];exact List.Perm.append_left _ (Jn l _ _ e)
theorem HU{α:Type}(nx:Nat->Nat)(xs:Array α):(pickOrder nx xs).toList.Perm xs.toList:=M6 nx xs.size 0 xs.toList #[] bF
section
variable{prog:ay}{w:av}{A:aC}{E:aa->ae->Prop}{s:ae}
theorem Ud{n:Nat}{src:Source}{Q:Nat->ae->Prop}(hn:n≠0)(h:∀i d,i<n->Q i { s with drawn:=d }):ai (model prog w) A (choose src n) Q E s:=λΓ p hΓ=>by show Sem.wp _ Γ (.choose src n .pure) _ _ p s;rw[Sem.wp_choose];exact⟨hn,h _ _ (fR _ (Nat.pos_of_ne_zero hn))⟩
theorem M7{α:Type}:∀(n:Nat) (xs:List α) (s:ae) {Q:List α->ae->Prop},xs.length=n->(∀ys d,ys.Perm xs->Q ys { s with drawn:=d })->ai (model prog w) A (drawOrder n xs) Q E s
 |0,xs,s,Q,hl,h=>by obtain rfl:=j5.mp hl;unfold drawOrder;exact ar (h [] s.drawn (.refl _))
 |n+1,[],s,Q,hl,h=>by cases hl
 |n+1,a::xs,s,Q,hl,h=>by unfold drawOrder;refine ah (Ud (by simp) λi d hi=>?_);have e:(a::xs)[i]?=some (a::xs)[i]:=aZ hi;rw[e];refine ah (M7 n _ _ (by rw[ni,af hi];omega) λys d' p=>?_);exact ar (h _ d' ((List.Perm.cons _ p).trans (Jn _ _ _ e)))
end
theorem xg:Slot "set_iterator" "__next__" "set_iterator.__next__" :=
 .of (owner:="set_iterator") (n:="__next__") (by rw[oU,m7];kernel_rfl) (by decide +kernel) (by decide +kernel) (by decide +kernel)
  (by first|exact .inl (by decide +kernel)|exact .inr (by decide +kernel)) (by rw[js];kernel_rfl)
theorem CO:Slot "set_iterator" "__iter__" "set_iterator.__iter__" :=
 .of (owner:="set_iterator") (n:="__iter__") (by rw[oU,m7];kernel_rfl) (by decide +kernel) (by decide +kernel) (by decide +kernel)
  (by first|exact .inl (by decide +kernel)|exact .inr (by decide +kernel)) (by rw[js];kernel_rfl)
theorem G8:entryFor table "set_iterator.__next__" = some di.«set_iterator.__next__»:=entryFor_of_tree (by kernel_rfl)
theorem KG:Manifest.owners.lookup (String.ofList ['r','o','t','a','r','e','t','i','_','t','e','s'].reverse)=some Manifest.sig_set_iterator:=by kernel_rfl
theorem Jo(a:aa):argsOk "set_iterator.__next__" ⟨[a],[]⟩:=by unfold argsOk;rw[pE (id:="set_iterator.__next__") (n:=['_','_','t','x','e','n','_','_']) (o:=['r','o','t','a','r','e','t','i','_','t','e','s']) (by kernel_rfl) KG];kernel_rfl
theorem Jp:entryFor table "set.__iter__" = some di.«frozenset.__iter__»:=pf (id':="frozenset.__iter__") (by kernel_rfl) rfl (by decide +kernel) (by kernel_rfl)
inductive Md(w:av) (h:Heap) (S TP:Addr) (i:Nat) (ord:List aa) (es:Array (Int×aa)) (ep:Nat) (t:br):aa->Prop
 |txt {sl:Int} {tk:Tok}:w.params.followText "set-order" = true->ord=(pickOrder (w.params.setOrder S ep) es).toList.map bw->Md w h S TP i ord es ep t (.int sl tk)
 |drw {ps:List Nat} {vs:Array aa} {ot:Obj} {nt:Nat}:w.params.followText "set-order" = false->h.get? TP=some ot->ot.cls=.type "tuple" -> ot.data=.seq vs nt->vs=(ps.map λp:Nat=>rawInt p).toArray->ps.Perm (bf es.size)->ord=ps.filterMap (λp=>es[p]?.map bw)->Md w h S TP i ord es ep t (.ref TP)
 |one {sl:Int}:w.params.followText "set-order" = false->es.size<=1->t.led=true->(i=0->sl=0)->(∀j,i=1->t.place=#[j]->sl=(j+1:Nat))->ord=es.toList.map bw->Md w h S TP i ord es ep t (.int sl 0)
structure ItS(w:av)(I S TP:Addr)(ord:List aa)(o:Obj)(es:Array (Int×aa))(ep:Nat)(t:br)(i:Nat)(h:Heap):Prop where
 it:∃oi first,h.get? I=some oi/\oi.cls=.type "set_iterator" /\ oi.data=.fields #[first,.int i 0,.ref S,.int es.size 0,.int ep 0]/\Md w h S TP i ord es ep t first
 at_:h.get? S=some o
 d:o.data=.set es ep t
 f:t.fits es.size=true
variable{sl:Int}{tk:Tok}{h':Heap}
section
variable{prog:ay}{w:av}{A:aC}{E:aa->ae->Prop}{s:ae}{I S TP:Addr}{ord:List aa}{o:Obj}{es:Array (Int×aa)}{ep:Nat}{t:br}{i:Nat}
theorem DL{Q:Bool->ae->Prop}(h:Q (w.params.followText "set-order") s):ai (model prog w) A setsByText Q E s:=by unfold setsByText;exact ah (kF (ar h))
theorem LS{Q:Option (aa×Nat)->ae->Prop}(x:ItS w I S TP ord o es ep t i s.heap)(hm:Md w s.heap S TP i ord es ep t (.int sl tk))(hi:i<=1\/w.params.followText "set-order" = true)
  (hQ:∀(v:aa) (nx:Nat),ord[i]?=some v->Md w s.heap S TP (i+1) ord es ep t (.int nx 0)->Q (some (v,nx)) s) (hN:ord[i]?=none->Q none s):ai (model prog w) A (setNext S sl.toNat i ep) Q E s:=by
 unfold setNext;refine ah (cR x.at_ x.d x.f ?_);dsimp only;refine ah (DL ?_);cases hm with
 |txt h1 h2=>
  rw[h1,af rfl];rw[ag (by simp)];refine ah ?_;unfold setWalk;refine ah (cR x.at_ x.d x.f ?_);dsimp only;refine ah (DL ?_);rw[h1,af rfl];refine ah (kF ?_);refine ar ?_;refine ar ?_;show Q (pZ (λe=>(e.snd,sl.toNat)) (pickOrder (w.params.setOrder S ep) es)[i]?) s;have e:ord[i]?=((pickOrder (w.params.setOrder S ep) es)[i]?).map bw:=by rw[h2,bB,hJ]
  cases hp:(pickOrder (w.params.setOrder S ep) es)[i]? with
  |none=>rw[hp]at e;exact hN e
  |some q=>rw[hp]at e;exact hQ q.2 _ e (.txt h1 h2)
 |one h1 h2 h3 h4 h5 h6=>
  have fs:t.place.size=es.size:=by have:=x.f;unfold iw at this;rw[aS,beq_iff_eq]at this;exact this.1
  rw[h1,ag (by decide)];rw[ag (λhh=>by
   have:(!t.plain&&decide (es.size > 1))=true:=hh;simp at this;omega)]
  refine ah ?_;wp_delta;rw[ag (by rw[h3];simp)];refine ar ?_;refine ar ?_;have c:es.size=0\/es.size=1:=by omega
  rcases c with c|c
  ·have e1:es=#[]:=Array.eq_empty_of_size_eq_zero c;subst e1;exact hN (by rw[h6];rfl)
  ·obtain⟨e,rfl⟩:=m8.mp c;obtain⟨j,ej⟩:=m8.mp (fs.trans c);rw[ej];have hi1:i<=1:=hi.resolve_right λe=>by rw[h1]at e;cases e
   have:i=0\/i=1:=by omega
   rcases this with rfl|rfl
   ·rw[h4 rfl];show Q (match #[e][dA #[j] 0]?,#[j][dA #[j] 0]? with|some (_,x),some j=>some (x,j+1)|_,_=>none) s;rw[show dA #[j] 0=0 from by simp[dA,n8]];exact hQ e.2 (j+1) (by rw[h6];rfl) (.one h1 h2 h3 (λz=>by cases z) (λj' _ e'=>by rw[ej]at e';cases e';rfl) h6)
   ·rw[h5 j rfl ej];show Q (match #[e][dA #[j] (j+1)]?,#[j][dA #[j] (j+1)]? with|some (_,x),some j=>some (x,j+1)|_,_=>none) s;rw[show dA #[j] (j+1)=1 from by simp[dA,n8]];exact hN (by rw[h6];rfl)
theorem ItS.ty(x:ItS w I S TP ord o es ep t i s.heap):s.TypeIs (.ref I) "set_iterator" := let ⟨⟨oi,_,h1,h2,_⟩,_,_,_⟩:=x;⟨oi,h1,h2⟩
theorem ItS.ordlen(x:ItS w I S TP ord o es ep t i s.heap):ord.length=es.size:=by
 obtain⟨⟨oi,first,_,_,_,hm⟩,_,_,_⟩:=x;cases hm with
 |txt h1 h2=>rw[h2,aj,(HU _ es).length_eq,bF]
 |drw h1 h2 h3 h4 h5 h6 h7=>rw[h7,(h6.filterMap _).length_eq];have:=j4 es;rw[show (bf es.size).filterMap (λp=>es[p]?.map bw)=((bf es.size).filterMap λp=>es[p]?).map bw from(nU ..).symm,this,aj,bF]
 |one h1 h2 h3 h4 h5 h6=>rw[h6,aj,bF]
theorem QO{α β:Type}(f:α->Option β):∀(ps:List α),(∀p∈ps,∃v,f p=some v)->∀i:Nat,(ps.filterMap f)[i]?=ps[i]?.bind f
 |[],_,i=>rfl
 |p::ps,h,i=>by
  obtain⟨v,e⟩:=h p aV;rw[dS,e];cases i with
  |zero=>show some v=f p;rw[e]
  |succ i=>exact QO f ps (λq hq=>h q (ba _ hq)) i
theorem Md.mv{h:Heap}(m:Md w h S TP i ord es ep t (.int sl tk)):Md w h' S TP i ord es ep t (.int sl tk):=by
 cases m with
 |txt h1 h2=>exact .txt h1 h2
 |one h1 h2 h3 h4 h5 h6=>exact .one h1 h2 h3 h4 h5 h6
theorem M8{B:aC}{R:Fin->ae->Prop}{s0:ae}{Q:Option aa->ae->Prop}(hh:B.handled=none)(hN:∀h',(∀b o,s0.heap.get? b=some o->h'.get? b=some o)->Q none { s0 with heap:=h' }):
  ai (model prog w) B (do let e<-newExc (.type "StopIteration") [];raiseNew e) R (λe s'=>ai (model prog w) A (do if<-isInstance e (.type "StopIteration")then pure none else throw e) Q E s') s0:=by
 refine ah ?_;simp only[newExc,newTuple];refine ah (dt ?_ (by size_fits));refine ah (m:=firstArgMember _ _) (wpAny_of_eq (a:=Value.none) (by first|rfl|(simp only[firstArgMember];rfl)) ?_);refine dt ?_ (by size_fits);simp only[raiseNew];refine ah (wpAny_handled ?_);rw[hh];refine ah (ar (wpAny_throw ?_));refine ah (oJ (T:="StopIteration") (b:=true) ⟨_,bu _ rfl,rfl⟩ isSubtype_stop ?_);exact ar (hN _ λb o e=>aN _ (aN _ e))
theorem QP{Q:Option aa->ae->Prop}(hh:A.handled=none)(x:ItS w I S TP ord o es ep t i s.heap)(hi:i<=ord.length)(hS:S≠I)(hT:TP≠I)
  (hQ:∀v h',ord[i]?=some v->dF I s.heap h'->ItS w I S TP ord o es ep t (i+1) h'->Q (some v) { s with heap:=h' }) (hN:∀h',ord[i]?=none->Heap.ExtBut I s.heap h'->Q none { s with heap:=h' }):
  ai (model prog w) A (pyNext (.ref I)) Q E s:=by
 have ol:=x.ordlen;obtain⟨oi,first,hoi,hci,hdi,hm⟩:=x.it;unfold pyNext;refine ah (wpAny_attempt (mU (name:=jt "__next__") x.ty xg (fJ xg x.ty G8 ?_ (Jo _))));show ai _ _ (fieldsOf (.ref I)>>=_) _ _ s;refine ah (wpAny_fieldsOf hoi hdi ?_);show ai _ _ (setEntries S>>=_) _ _ s;refine ah ?_;unfold setEntries;refine ah (cR x.at_ x.d x.f ?_);refine ar ?_;dsimp only;rw[ag (by simp)];simp only[ig];have byint:∀(sl:Int) (tk:Tok),first=.int sl tk->(i<=1\/w.params.followText "set-order" = true)->ai (model prog w) A.in1 (do
   let r<-setNext S sl.toNat i ep
   match r with
    |some (x,next)=>do
     setField (Value.ref I) 0 (rawInt ↑next)
     setField (Value.ref I) 1 (rawInt (↑i+1))
     ret x
    |none=>do
     setField (Value.ref I) 2 Value.none
     let e<-newExc (Value.type "StopIteration") []
     raiseNew e) (λfin s'=>∃v,fin=Fin.done (Flow.ret v)/\ai (model prog w) A (pure (some v)) Q E s') (λe s'=>ai (model prog w) A (do if<-isInstance e (.type "StopIteration")then pure none else throw e) Q E s') s:=λsl tk e hi'=>by
  subst e;refine ah (LS x hm hi' (λv nx ev m=>?_) λev=>?_)
  ·refine ah (gx hoi hdi (by simp) ?_);have g1:=eG (h:=s.heap) (fP (·.setIfInBounds 0 (rawInt (nx:Int)))) hoi (jb (eK hdi _))
   have d1:=eK hdi (·.setIfInBounds 0 (rawInt (nx:Int)))
   refine ah (gx g1 d1 (by simp) ?_);have g2:=eG (fP (·.setIfInBounds 1 (rawInt ((i:Int)+1)))) g1 (jb (eK d1 _))
   have d2:=eK d1 (·.setIfInBounds 1 (rawInt ((i:Int)+1)))
   have sb:=(c7 s.heap I (fP (·.setIfInBounds 0 (rawInt (nx:Int))))).trans (c7 _ I (fP (·.setIfInBounds 1 (rawInt ((i:Int)+1)))))
   refine ar ⟨v,rfl,ar (hQ v _ ev sb ⟨⟨_,.int nx 0,g2,(kB ..).trans ((kB ..).trans hci),?_,m.mv⟩,?_,x.d,x.f⟩)⟩
   ·rw[d2];simp[rawInt]
   ·rw[sb.2 S hS];exact x.at_
  ·refine ah (gx hoi hdi (by simp) ?_);exact M8 (by simp[hh]) λh' k=>hN h' ev λb o hb e=>k b o (by rw[(c7 ..).2 b hb];exact e)
 cases hm with
 |txt h1 h2=>exact byint _ _ rfl (.inr h1)
 |one h1 h2 h3 h4 h5 h6=>exact byint _ _ rfl (.inl (by omega))
 |@drw ps vs ot nt h1 h2 h3 h4 h5 h6 h7=>
  show ai _ _ (seqItems? (.ref TP)>>=_) _ _ s;refine ah (kN h2 h4 ?_);have al:∀p∈ps,∃v,(es[p]?.map bw)=some v:=λp hp=>by have:=bV.mp (h6.mem_iff.mp hp);exact⟨es[p].2,by rw[i3 this];rfl⟩
  have eg:ord[i]?=ps[i]?.bind λp=>es[p]?.map bw:=by rw[h7];exact QO _ ps al i
  have ev:vs[i]?=ps[i]?.map λp:Nat=>rawInt p:=by rw[h5,ja,bB]
  cases ep':ps[i]? with
  |none=>
   rw[ep']at ev eg;dsimp only;rw[ev];refine ah (gx hoi hdi (by simp) ?_);have g1:=eG (h:=s.heap) (fP (·.setIfInBounds 0 (rawInt 0))) hoi (jb (eK hdi _))
   have d1:=eK hdi (·.setIfInBounds 0 (rawInt 0))
   refine ah (gx g1 d1 (by simp) ?_);exact M8 (by simp[hh]) λh' k=>hN h' eg λb o hb e=>k b o (by rw[(c7 ..).2 b hb,(c7 ..).2 b hb];exact e)
  |some p=>
   rw[ep']at ev eg;obtain⟨v,e1⟩:=al p (b8 ep');dsimp only;rw[ev];show ai _ _ (setNextDrawn S (p:Int).toNat ep>>=_) _ _ s;rw[ig];refine ah ?_;unfold setNextDrawn;refine ah (cR x.at_ x.d x.f ?_);dsimp only;rw[ag (by simp)];cases e2:es[p]? with
   |none=>rw[e2]at e1;cases e1
   |some q=>
    rw[e2]at e1;refine ar ?_;refine ah (gx hoi hdi (by simp) ?_);have g1:=eG (h:=s.heap) (fP (·.setIfInBounds 1 (rawInt ((i:Int)+1)))) hoi (jb (eK hdi _))
    have d1:=eK hdi (·.setIfInBounds 1 (rawInt ((i:Int)+1)))
    have sb:=c7 s.heap I (fP (·.setIfInBounds 1 (rawInt ((i:Int)+1))))
    refine ar ⟨_,rfl,ar (hQ _ _ (by rw[eg];show es[p]?.map bw=_;rw[e2];rfl) sb ⟨⟨_,.ref TP,g1,(kB ..).trans hci,?_,.drw h1 (by rw[sb.2 TP hT];exact h2) h3 h4 h5 h6 h7⟩,?_,x.d,x.f⟩)⟩
    ·rw[d1];simp[rawInt]
    ·rw[sb.2 S hS];exact x.at_
end
theorem G9:entryFor table "set_iterator.__iter__" = some di.«dict_keyiterator.__iter__»:=pf (id':="dict_keyiterator.__iter__") (by kernel_rfl) rfl (by decide +kernel) (by kernel_rfl)
theorem Jq(a:aa):argsOk "set_iterator.__iter__" ⟨[a],[]⟩:=by unfold argsOk;rw[pE (id:="set_iterator.__iter__") (n:=['_','_','r','e','t','i','_','_']) (o:=['r','o','t','a','r','e','t','i','_','t','e','s']) (by kernel_rfl) KG];kernel_rfl
section
variable{prog:ay}{w:av}{A:aC}{E:aa->ae->Prop}{s:ae}{I S TP:Addr}{ord:List aa}{o:Obj}{es:Array (Int×aa)}{ep:Nat}{t:br}
theorem Md.at{h:Heap}{f:aa}(m:Md w h S TP i ord es ep t f)(k:∀o,h.get? TP=some o->h'.get? TP=some o):Md w h' S TP i ord es ep t f:=by
 cases m with
 |txt h1 h2=>exact .txt h1 h2
 |one h1 h2 h3 h4 h5 h6=>exact .one h1 h2 h3 h4 h5 h6
 |drw h1 h2 h3 h4 h5 h6 h7=>exact .drw h1 (k _ h2) h3 h4 h5 h6 h7
theorem YA(hh:A.handled=none)(hS:S≠I)(hT:TP≠I):Walks prog w A I [I,S,TP] [I] ord.length (λi v=>ord[i]?=some v) (λi h=>ItS w I S TP ord o es ep t i h/\i<=ord.length) where
 sub:=λb hb=>by simp at hb;simp[hb]
 frame:=λi h h' st hk=>by obtain⟨⟨⟨oi,f,h1,h2,h3,hm⟩,h4,h5,h6⟩,h7⟩:=st;exact⟨⟨⟨oi,f,hk I (by simp) _ h1,h2,h3,hm.at λo e=>hk TP (by simp) o e⟩,hk S (by simp) _ h4,h5,h6⟩,h7⟩
 item:=λi s Q E hi st hQ=>QP hh st.1 st.2 hS hT (λv h' ev sb x=>hQ v h' s.toks ev ⟨x,by omega⟩ λb o hb e=>by rw[sb.2 b λz=>hb (by simp[z])];exact e) λh' en _=>by rw[aZ hi]at en;cases en
 done:=λs Q E st hQ=>QP hh st.1 st.2 hS hT (λv h' ev _ _=>by rw[gh (aJ _)]at ev;cases ev) λh' _ k=>hQ h' s.toks λb o hb e=>k b o (λz=>hb (by simp[z])) e
 self:=λi s Q E st h=>by refine oa st.1.ty CO (fJ CO st.1.ty G9 ?_ (Jq _));show ai _ _ (ret (.ref I)) _ _ s;exact ar ⟨_,rfl,"set_iterator", _,st.1.ty,xg.lookup,h⟩
end
end L4
namespace L4
open PySem PySem.Spec PySem.Calls PyProof.Rows PySem.W L2 L3
section
variable{prog:ay}{w:av}{A:aC}{E:aa->ae->Prop}{s:ae}
abbrev TkS(k:aH):List Key:=k.map Sum.inr
end
section
variable{X:Cx}{G:Bg}{H:Hp}{pins:cp}{σ:St}{s:ae}
theorem Inv.drw(I:Inv X pins σ H s)(d:Drawn):Inv X pins σ H { s with drawn:=d }:=⟨I.ok,I.os,I.bare,I.base,I.loc,I.cell,I.free,I.freeC,I.pin,I.hok,I.len⟩
theorem setP{A:aC}{E:aa->ae->Prop}{Q:aa->ae->Prop}{a:Addr}{L:List (aH×Addr)}(I:Inv X pins σ H s)(hh:A.handled=none)(hu:A.units+8<cLine)(hq:SqL X.K H a (L.map λq=>V.ref q.2))(h8:L.length<=8)(nd:(L.map bR).Nodup)
  (ht:∀q∈L,∃p r,q.1=[p,r]/\SqT X.K H q.2 [.str p,.str r])
  (h:∀h2 k2 o es ep t,G7 h2 s.heap.objs.size (L.map λq=>(TkS q.1,q.2)) (!X.w.params.followText "set-order") L.length o es ep t->(∀b o,b<s.heap.objs.size->s.heap.get? b=some o->h2.get? b=some o)->Q (.ref s.heap.objs.size) { s with heap:=h2,toks:=k2 }):
  ai (model X.prog X.w) A (call (.type "set") [.ref a]) Q E s:=by
 have h3:A.in1.in1.in1.handled=none:=by simp[hh]
 obtain⟨its,r,pp,_⟩:=I.list hq;obtain⟨o,ho,hc,n,hd⟩:=pp.isList;have hne:a≠s.heap.objs.size+1:=aY (dX (aQ ho));have tk:∀q∈L,TK X.prog X.w s.heap (TkS q.1) q.2:=λq hq=>by obtain⟨p,r,e,h1⟩:=ht q hq;rw[e];exact aam (ks:=[.inr p,.inr r]) I h1
 have li:L.length=its.length:=by have:=r.length;rw[aj]at this;exact this
 have ev:∀(i:Nat) (v:aa),its[i]?=some v->∃q,L[i]?=some q/\v=.ref q.2:=λi v e=>by
  have hi:i<L.length:=by rw[li];exact(b0.mp e).1
  obtain⟨u,e2,ru⟩:=r.get (i:=i) (x:=V.ref L[i].2) (by rw[bB,aZ hi];rfl);rw[e]at e2;cases e2;exact⟨L[i],aZ hi,ru⟩
 have notin:s.heap.objs.size∉[s.heap.objs.size+1,a]:=by
  intro z;rcases aT.mp z with z|z
  ·exact ao z (aY (dv _))
  ·exact ao (aR.mp z) (fQ (aQ ho))
 let PS:Heap->Prop:=λh2=>∃o es ep t,G7 h2 s.heap.objs.size (L.map λq=>(TkS q.1,q.2)) (!X.w.params.followText "set-order") L.length o es ep t;refine CG (PS:=PS) ho hc kO ka (by decide) (itO:={ cls:=.type "list_iterator", data:=.fields #[.ref a,.int 0 0] })
  (λA Q E s1 e k=>gj ⟨o,e,hc,n,hd⟩ k) (λtk' R hR=>?_) λh2 k2 ⟨o,es,ep,t,x⟩ kk=>h h2 k2 o es ep t x kk
 have ke:∀{b:Addr} {o':Obj},s.heap.get? b=some o'->((s.heap.push (yn (!X.w.params.followText "set-order"))).push { cls:=.type "list_iterator", data:=.fields #[.ref a,.int 0 0] }).get? b=some o':=λe=>aN _ (aN _ e);have it:((s.heap.push (yn (!X.w.params.followText "set-order"))).push { cls:=.type "list_iterator", data:=.fields #[.ref a,.int 0 0] }).get? (s.heap.objs.size+1)=some { cls:=.type "list_iterator", data:=.fields #[.ref a,.int 0 0] }:=by rw[show s.heap.objs.size+1=(s.heap.push (yn (!X.w.params.followText "set-order"))).objs.size from(cW _ _).symm];exact bu _ rfl
 refine OF (S:=s.heap.objs.size) (led:=!X.w.params.followText "set-order") (iA h3 _ a hne its.toArray).toS notin (by show A.units+1+1+1<cLine;omega) (L.map λq=>(TkS q.1,q.2)) (by rw[aj,bb,li]) (by rw[bb];omega) ?_ ?_ ?_ ?_ (its.toArray.size - 0) 0 _ (yn (!X.w.params.followText "set-order")) #[] 0 (.fresh 0 0 (!X.w.params.followText "set-order")) rfl (cf _) ⟨⟨_,it,rfl,rfl⟩,⟨o,ke ho,hc,n,hd⟩⟩ ?_ ?_ λs2 o2 es2 ep2 t2 mv S2=>?_
 ·rw[bc,show (bR∘λq:aH×Addr=>(TkS q.1,q.2))=λq=>TkS q.1 from rfl];have:(L.map λq=>TkS q.1)=(L.map bR).map TkS:=by rw[bc];rfl
  rw[this];exact sL _ (λx y hxy e=>hxy ((List.map_inj_right λ_ _ h=>jv h).mp e)) nd
 ·intro q hq;obtain⟨r,hr,rfl⟩:=az.mp hq;obtain⟨p,z,e,_⟩:=ht r hr;exact⟨p,[.inr z],by show TkS r.1=_;rw[e];rfl⟩
 ·intro q hq z;obtain⟨r,hr,rfl⟩:=az.mp hq;obtain⟨ob,_,_,e,_⟩:=tk r hr;have:=aQ e;rcases aT.mp z with z|z
  ·exact ao z (aY this)
  ·exact ao (aR.mp z) (aY (dX this))
 ·intro i v e;rw[ja]at e;obtain⟨q,e1,e2⟩:=ev i v e;exact⟨(TkS q.1,q.2),by rw[bB,e1];rfl,e2⟩
 ·intro q hq;obtain⟨r,hr,rfl⟩:=az.mp hq;exact(tk r hr).kept λo=>ke
 ·exact⟨aN _ (bu _ rfl),⟨rfl,rfl,rfl⟩,rfl,⟨7,⟨rfl,rfl,rfl⟩,.inl ⟨rfl,by decide⟩⟩,rfl,λz=>ao z (by decide),.nil⟩
 ·obtain⟨h2,g2,d2,k2,o2'⟩:=s2;have eg:g2=s.gens:=mv.gens;have ed:d2=s.drawn:=mv.drawn;have eo:o2'=s.os:=mv.os;subst eg ed eo;have el:its.toArray.size=L.length:=by rw[bb,li]
  rw[el]at S2;refine hR h2 k2 ⟨o2,es2,ep2,t2,S2⟩ λb o hb e=>mv.heap b o (λz=>?_) (ke e);rcases aT.mp z with z|z
  ·exact ao z (aY hb)
  ·exact ao (aR.mp z) (aY (dX hb))
end
section
variable{X:Cx}{G:Bg}{H:Hp}{pins:cp}{σ:St}{s:ae}
theorem M9:∀{ds:aI} {ks:List aH} {xs:bA},tm G H ds xs->xt ds=some ks->∃L:List (aH×Addr),xs=L.map (λq=>V.ref q.2)/\ks=L.map bR/\∀q∈L,∃p r,q.1=[p,r]/\SqT G.K H q.2 [.str p,.str r]
 |[],ks,xs,r,e=>by cases e;unfold tm at r;subst r;exact⟨[],rfl,rfl,λq hq=>by cases hq⟩
 |d::ds,ks,xs,r,e=>by
  unfold xt at e;cases e1:OC d with
  |none=>rw[e1]at e;cases e
  |some k=>
   cases e2:xt ds with
   |none=>rw[e1,e2]at e;cases e
   |some ks'=>
    rw[e1,e2]at e;cases e;unfold tm at r;obtain⟨v,r',rfl,q1,q2⟩:=r;obtain⟨L,rfl,rfl,h3⟩:=M9 q2 e2;obtain⟨a,p,q,rfl,rfl,h1⟩:=KB q1 e1;refine⟨([p,q],a)::L,rfl,rfl,λz hz=>?_⟩;rcases aT.mp hz with rfl|hz
    ·exact⟨p,q,rfl,h1⟩
    ·exact h3 z hz
end
noncomputable abbrev cS(s:Str):FE:=cC (.str s)
noncomputable abbrev a1(e:FE):FA:=aCons e ui
section
variable{X:Cx}{G:Bg}{H:Hp}{pins:cp}{σ:St}{s:ae}
def SrcG(K:au)(H:Hp)(a:Addr)(n:Nat):Prop:=WU K H a n\/
 ∃L:List (aH×Addr),SqL K H a (L.map λq=>V.ref q.2)/\L.length<=8/\(L.map bR).Nodup/\(∀q∈L,∃p r,q.1=[p,r]/\SqT K H q.2 [.str p,.str r])/\n=L.length
theorem aaC:WV X SrcG:=by
 intro pins σ H s A E Q a n I hh hu hq h;rcases hq with hq|⟨L,h1,h8,nd,ht,rfl⟩
 ·exact aan I hh hu hq h
 ·refine setP I hh hu h1 h8 nd ht λh2 k2 o es ep t x kk=>h h2 k2 ⟨o,es,ep,t,x.at_,x.ex,x.d,?_,x.fits (aj _),x.sz.trans (aj _)⟩ kk;rw[x.sz,aj];unfold scanBound;omega
def B6(ds:aI):Option D:=match xt ds with
 |some ks=>if ks.Nodup/\ds.length<=8 then some (.int ds.length)else none
 |none=>none
theorem OG(hK:X.K=G.K):∀{ds d H1 H1' a xs},B6 ds=some d->SqL X.K H1' a xs->tm G H1 ds xs->tQ H1 H1'->∃n:Nat,SrcG X.K H1' a n/\d=.int n:=λ{ds d H1 H1' a xs} e hq h2 s=>by
 unfold B6 at e;cases e2:xt ds with
 |none=>simp only[e2]at e;cases e
 |some ks=>
  simp only[e2]at e;split at e
  ·rename_i hc;cases e;obtain⟨L,rfl,rfl,h3⟩:=M9 h2 e2;have hl:=tu h2;rw[aj]at hl;refine⟨_,.inr ⟨L,hq,by omega,hc.1,λq hq=>?_,hl⟩,rfl⟩;obtain⟨p,r,e,h4⟩:=h3 q hq;rw[<-hK]at h4;exact⟨p,r,e,SqT.mono s h4⟩
  ·cases e
end
section
variable{X:Cx}{B:Bz}{k:Nat}{e:Expr}{f:FE}{p p2 p3 pos:Pos}
theorem YB [C:Cz X B k][N:Nb B "len"][N':Nb B "set"](hs:S1 X e)(hg:Gz X "len")(hg':Gz X "set")(ha:ZE X B e f)(z:aE [Expr.Call (.Name "set" p2) [e] [] p3] X.env=[(false,eval (.Call (.Name "set" p2) [e] [] p3) X.env)]):ZE X B (.Call (.Name "len" p) [.Call (.Name "set" p2) [e] [] p3] [] pos) (c1 (CH B6) f):=⟨LI C.K .inl (OG C.K) (Ot aaC C.r.units C.c hg (C.mg▸N.p) hg' (C.mg▸N'.p) ha.p z hs)⟩
end
end L4
namespace L4
open PySem PySem.Spec PyProof.Rows L2 L3
section
variable{X:Cx}{B:Bz}{k j i m:Nat}{x:Str}{e e':Expr}{es:List Expr}{d:D}{p pos:Pos}{g:D->D->Option D}
theorem aaD{l:List Stmt}:ZB X B l WN:=⟨λpins s σ H D I h=>by
 obtain⟨F,ρ,H0,o,R,e,_⟩:=h;cases e⟩
end
theorem z7.mono{G:Bg}{P:ay}{w:av}{mg:Str->Option aa}{base:Heap}{j k:Nat}{m:Str}{c:Nat}{h:aI->Option D}(M:z7 G P w mg base j m c h)(hk:fo j k=true):z7 G P w mg base k m c h:=by obtain⟨f,fd,ps,a,b,c,F⟩:=M;exact⟨f,fd,ps,a,b,c,F.mono (fi.mp hk)⟩
mutual
def F3:D->Bool
 |.non=>true
 |.bl _=>true
 |.int _=>true
 |.str _=>true
 |.tup ds=>F4 ds
 |.lst ds=>F4 ds
 |_=>false
def F4:aI->Bool
 |[]=>true
 |d::ds=>F3 d&&F4 ds
end
mutual
theorem Rep.but{G:Bg}{H H1:Hp}(e:∀b o,H b=some o->(∀u kvs,o≠HO.frz u (.dK kvs))->H1 b=some o):∀(d:D) (v:V),F3 d=true->Rep G H d v->Rep G H1 d v
 |.non,v,_,h=>by unfold Rep at h ⊢;exact h
 |.bl b,v,_,h=>by unfold Rep at h ⊢;exact h
 |.int i,v,_,h=>by unfold Rep at h ⊢;exact h
 |.str x,v,_,h=>by unfold Rep at h ⊢;exact h
 |.tup ds,v,n,h=>by
  unfold Rep at h ⊢;unfold F3 at n;obtain⟨a,xs,rfl,h1,h2⟩:=h;refine⟨a,xs,rfl,?_,tm.but e ds xs n h2⟩;rcases h1 with (h|⟨o,h⟩)|h
  ·exact .inl (.inl (e _ _ h λ_ _ z=>nomatch z))
  ·exact .inl (.inr ⟨o,e _ _ h λ_ _ z=>nomatch z⟩)
  ·exact .inr h
 |.lst ds,v,n,h=>by unfold Rep at h ⊢;unfold F3 at n;obtain⟨a,xs,rfl,h1,h2⟩:=h;exact⟨a,xs,rfl,e _ _ h1 (λ_ _ z=>nomatch z),tm.but e ds xs n h2⟩
 |.fzl ds,v,n,h=>by unfold F3 at n;cases n
 |.obj c ns ds,v,n,h=>by unfold F3 at n;cases n
 |.dic ks ds,v,n,h=>by unfold F3 at n;cases n
theorem tm.but{G:Bg}{H H1:Hp}(e:∀b o,H b=some o->(∀u kvs,o≠HO.frz u (.dK kvs))->H1 b=some o):∀(ds:aI) (xs:bA),F4 ds=true->tm G H ds xs->tm G H1 ds xs
 |[],xs,_,h=>by unfold tm at h ⊢;exact h
 |d::ds,xs,n,h=>by unfold tm at h ⊢;unfold F4 at n;rw[aS]at n;obtain⟨v,r,rfl,h1,h2⟩:=h;exact⟨v,r,rfl,Rep.but e d v n.1 h1,tm.but e ds r n.2 h2⟩
end
section
variable{t:br}{m n:Nat}
def tM(m:Nat):br:=⟨m,#[],#[],0,false,0,false⟩
def Wy(m:Nat)(O:Nat->Prop)(j:Nat):Nat->eU->Prop
 |0,_=>False
 |f+1,p=>p.j=j\/(O p.j/\Wy m O j f ((tM m).advance p))
end
section
variable{κ α:Type}[DecidableEq κ]
def uqK(l:List κ):List κ:=l.foldl (λacc k=>if k∈acc then acc else acc++[k]) []
theorem E6:∀(l acc:List κ),acc.Nodup->(l.foldl (λacc k=>if k∈acc then acc else acc++[k]) acc).Nodup/\∀x,x∈l.foldl (λacc k=>if k∈acc then acc else acc++[k]) acc ↔ x∈acc\/x∈l
 |[],acc,h=>⟨h,λx=>⟨.inl,λh=>h.resolve_right (by simp)⟩⟩
 |k::l,acc,h=>by
  rw[jr];split
  ·rename_i hk;obtain⟨h1,h2⟩:=E6 l acc h;refine⟨h1,λx=>(h2 x).trans ⟨λh=>h.imp id (ba _),λh=>?_⟩⟩;rcases h with h|h
   ·exact .inl h
   ·rcases aT.mp h with rfl|h
    ·exact .inl hk
    ·exact .inr h
  ·rename_i hk;obtain⟨h1,h2⟩:=E6 l (acc++[k]) (bT.mpr ⟨h,c9.mpr ⟨dZ,.nil⟩,λa ha b hb e=>hk (by rw[<-aR.mp hb,<- e];exact ha)⟩);refine⟨h1,λx=>(h2 x).trans ?_⟩;rw[bC,aR,aT,or_assoc]
theorem LU(l:List κ):(uqK l).Nodup:=(E6 l [] .nil).1
theorem Jr{l:List κ}{x:κ}:x∈uqK l ↔ x∈l:=((E6 l [] .nil).2 x).trans ⟨λh=>h.resolve_left (by simp),.inr⟩
end
end L4
namespace L4
open PySem PySem.Spec PySem.Calls PyProof.Rows PySem.W L2 L3
variable{a:Addr}
section
variable{prog:ay}{w:av}{A:aC}{E:aa->ae->Prop}{s:ae}
theorem OH{Q:Int->ae->Prop}(h:Q 0xFCA86420 { s with toks:=s.toks+1 }):ai (model prog w) A (pyHash .none) Q E s:=by
 show ai _ _ (pyHashByItsType .none) Q E s;unfold pyHashByItsType;refine ah ?_;rw[cRoomFor,ag (by rw[show [Value.none].any Value.onHeap=false from rfl];exact bj)];refine ar ?_;refine ah (iq (jy s) jc.lookup ?_);show ai _ _ (if (some (Value.builtin "NoneType.__hash__")==some Value.none)=true then _ else _) Q E s;rw[ag (by rw[beq_builtin_none];exact bj)];refine ah (iq (jy s) jc.lookup ?_);show ai _ _ (callSpecialIfBoundUnlessNone? .none "__hash__" _>>=_) Q E s;refine ah (wpAny_callSpecialIfBoundUnlessNone?_slot (jy s) jc
  (fJ jc (jy s) F.entry_NoneType_hash
   (show ai _ _ (do ret (<-mkInt 0xFCA86420)) _ _ s from wpAny_ret_mkInt ?_) (F.args_NoneType_hash_1 _)))
 exact ar h
theorem Ue{Q:Bool->ae->Prop}(h:Q true s):ai (model prog w) A (eqBool .none .none) Q E s:=by unfold eqBool;refine cc ?_;rw[af (show (Value.none==Value.none)=true from rfl)];exact ah (gH (ar h))
def oIs:Option Key->aa->Bool
 |none,.none=>true
 |none,_=>false
 |some k,v=>Fg k v
theorem yg{k:Option Key}{v:aa}(h:oIs k v=true):(k=none/\v=.none)\/(∃i t,k=some (Sum.inl i)/\v=Value.int i t)\/∃x t,k=some (Sum.inr x)/\v=Value.str x t:=by
 cases k with
 |none=>cases v<;>first|exact .inl ⟨rfl,rfl⟩|cases h
 |some k=>
  rcases uG (k:=k) h with ⟨i,t,rfl,rfl⟩|⟨x,t,rfl,rfl⟩
  ·exact .inr (.inl ⟨i,t,rfl,rfl⟩)
  ·exact .inr (.inr ⟨x,t,rfl,rfl⟩)
def optKind(prog:ay)(w:av):ph prog w (Option Key) where
 is:=oIs
 hash:=λk=>match k with|none=>0xFCA86420|some k=>Zd w k
 inj:=λv a b ha hb=>by rcases yg ha with ⟨rfl,rfl⟩|⟨i,t,rfl,rfl⟩|⟨x,t,rfl,rfl⟩<;>rcases yg hb with ⟨rfl,e⟩|⟨j,u,rfl,e⟩|⟨y,u,rfl,e⟩<;>first|rfl|(cases e;rfl)|cases e
 byValue:=λk v h=>by rcases yg h with ⟨rfl,rfl⟩|⟨i,t,rfl,rfl⟩|⟨x,t,rfl,rfl⟩<;>rfl
 pyHash:=λ{A E s k v Q} hv h=>by
  cases k with
  |some k=>exact(ua prog w).pyHash (k:=k) hv h
  |none=>
   rcases yg hv with ⟨_,rfl⟩|⟨i,t,e,_⟩|⟨x,t,e,_⟩
   ·exact OH h
   ·cases e
   ·cases e
 eqBool:=λ{A E s a b u v Q} hu hv h=>by
  rcases yg hu with ⟨rfl,rfl⟩|⟨i,t,rfl,rfl⟩|⟨x,t,rfl,rfl⟩<;>rcases yg hv with ⟨rfl,rfl⟩|⟨j,u,rfl,rfl⟩|⟨y,u,rfl,rfl⟩
  ·exact Ue h
  ·exact nu j u _ _ _ _ h
  ·exact nv y u _ _ _ _ h
  ·exact ny i t _ _ _ _ h
  ·exact(ua prog w).eqBool (a:=Sum.inl i) (b:=Sum.inl j) hu hv (by simpa using h)
  ·exact(ua prog w).eqBool (a:=Sum.inl i) (b:=Sum.inr y) hu hv (by simpa using h)
  ·exact nz x t _ _ _ _ h
  ·exact(ua prog w).eqBool (a:=Sum.inr x) (b:=Sum.inl j) hu hv (by simpa using h)
  ·exact(ua prog w).eqBool (a:=Sum.inr x) (b:=Sum.inr y) hu hv (by simpa using h)
 «strs»:=λk x t v h=>by
  cases k with
  |none=>cases h
  |some k=>exact(ua prog w).strs k x t v h
theorem Ug{h:Heap}{f:Key->Option aa}(m:h.MapOf (ua prog w) a f):h.MapOf (optKind prog w) a (λk=>match k with|none=>none|some k=>f k):=by
 obtain⟨o,es,ep,h1,h2,h3,h4,h5⟩:=m;refine⟨o,es,ep,h1,h2,h3,λe he=>?_,λk=>?_⟩
 ·obtain⟨k,k1,k2⟩:=h4 e he;exact⟨some k,k1,k2⟩
 ·cases k with
  |some k=>exact h5 k
  |none=>
   unfold findBy;rw[Array.find?_eq_none.mpr λe he=>?_]
   ·rfl
   ·obtain⟨k,k1,_⟩:=h4 e he;rcases uG k1 with ⟨i,t,_,e1⟩|⟨x,t,_,e1⟩<;>(rw[e1];exact bj)
end
variable{Q:aa->ae->Prop}{e:Expr}{apos cpos:Pos}{f f':FE}
section
variable{X:Cx}{G:Bg}{H:Hp}{pins:cp}{σ:St}{s:ae}
theorem YC{A:aC}{E:aa->ae->Prop}{kvs:List (Key×V)}(I:Inv X pins σ H s)(e:Rd H a (.dK kvs))(h:∀s',Inv X pins σ H s'->Q .none s'):ai (model X.prog X.w) A (call (.builtin "dict.get") [.ref a,.none]) Q E s:=by obtain⟨z,hd,vs,rel,dd⟩:=D4 I.hok e;exact gA eS dd.typeIs ip (ky _ _) (o6 (optKind X.prog X.w) a (k:=none) rfl hd) ⟨_,Ug dd.mapOf,h _ (I.tok _)⟩
def YD(td ty:TE):TE:=λσ H Q=>td σ H λx H1=>∃a,x=.ref a/\IsD H1 a/\ty σ H1 λy H2=>(∃o,DGet H2 a y o/\Q (o.getD .non) H2)\/(y=.non/\(∃kvs,Rd H2 a (.dK kvs))/\Q .non H2)
theorem QQ{o:Expr}{td ty:TE}(hu:X.A.units+1<cLine)(ho:PE X o td)(he:PE X e ty)(m:M1 X o "get" apos e cpos):PE X (.Call (.Attribute o "get" apos) [e] [] cpos) (YD td ty):=by
 intro pins s σ H Q I h;refine jg m.base m.few m.line jh eS kI (thn (ho pins s σ H _ I h) λu s1 hh=>?_);obtain⟨x,H1,I1,rx,a,ex,d,q1⟩:=hh;subst ex;obtain rfl:u=Value.ref a:=rx;obtain⟨t1,t2,_⟩:=IW I1 d;refine⟨t1,t2,?_⟩;rw[m.trees];refine gZ rfl (hU (dU (thn (he pins s1 σ H1 _ I1 q1) λiv s2 hh=>fH ?_)));obtain⟨y,H2,I2,ry,⟨ov,g,q2⟩|⟨rfl,⟨kvs,e⟩,q2⟩⟩:=hh
 ·exact Pl hu I2 g ry λw' s3 I3 rw'=>⟨_,H2,I3,rw',q2⟩
 ·obtain rfl:iv=.none:=ry;exact YC I2 e λs3 I3=>⟨.non,H2,I3,rfl,q2⟩
def KH:D->D->Option D:=λx y=>match y with
 |.non=>match x with
  |.dic _ _=>some .non
  |_=>none
 |y=>AX x y
theorem QR{a b:Expr}(hu:X.A.units+1<cLine)(ha:PE X a (tF G f))(hb:PE X b (tF G f'))(m:M1 X a "get" apos b cpos):PE X (.Call (.Attribute a "get" apos) [b] [] cpos) (tF G (c2 KH f f')):=PE.weak (QQ hu ha hb m) λσ H Q hh=>by
 sleep 1
 obtain⟨x,y,ρ1,e1,e2,e3⟩:=Cu e;cases x with
 |dic ks ds=>
  refine⟨F,ρ,H0,_,ρ1,R,e1,λv H1 H1' s1 R1 r1=>?_⟩;have r1':=r1;unfold Rep at r1';obtain⟨p,ob,xs,rfl,h1,h2,h3⟩:=r1';refine⟨p,rfl,.inl ⟨_,.inr ⟨_,R1.sub _ _ h1⟩⟩,F,ρ1,H1,y,ρ',R1,e2,λu H2 H2' s2 R2 r2=>?_⟩;by_cases hy:y=.non
  ·subst hy;cases e3;unfold Rep at r2;subst r2;exact .inr ⟨rfl,⟨_,.inr ⟨_,R2.sub _ _ (s2 _ _ h1)⟩⟩,k _ H2 H2' (s1.trans s2) R2 yR⟩
  ·left;have e3:AX (.dic ks ds) y=some d:=by
    unfold KH at e3;split at e3
    ·exact ao rfl hy
    ·exact e3
   unfold AX at e3;cases ek:zD y with
   |none=>simp only[ek]at e3;cases e3
   |some j=>
    simp only[ek]at e3;cases e3;have lv:=AW (ks:=ks) j (tm.mono s2 _ _ h3) h2;refine⟨wX (ks.zip xs) j,?_,?_⟩
    ·rw[z8 r2 ek];exact DGet.kf (R2.sub _ _ (s2 _ _ h1))
    ·cases el:vU ks ds j with
     |none=>rw[el]at lv k;rw[lv];exact k _ H2 H2' (s1.trans s2) R2 yR
     |some z=>rw[el]at lv k;obtain⟨w,w1,w2⟩:=lv;rw[w1];exact k _ H2 H2' (s1.trans s2) R2 w2
 |_=>
  unfold KH at e3;split at e3
  ·cases e3
  ·unfold AX at e3;cases e3
end
section
variable{X:Cx}{B:Bz}{k:Nat}{e e':Expr}{f f':FE}{apos pos:Pos}
theorem YE [C:Cz X B k](ha:ZE X B e f)(hb:ZE X B e' f')(h1:Az X e "get")(h2:Ez apos pos)(h3:S1 X e'):ZE X B (.Call (.Attribute e "get" apos) [e'] [] pos) (c2 KH f f'):=⟨QR (JZ C.r) ha.p hb.p ⟨h1,by rw[h3];rfl,h2,by rw[h3];rfl⟩⟩
end
section
variable{X:Cx}{G:Bg}
def dStrI:D->Option D
 |.int i=>if i.natAbs.log2<1920 then some (.str (toString i))else none
 |_=>none
theorem pf_b2{r:bA->Hp->VK->Prop}{g:Int->Int->Int}(hr:∀i j H Q,Q (.int (g i j)) H->r [.int i,.int j] H Q)(h:PE X e (tCB r (tFA G (aCons f (aCons f' ui))))):PE X e (tF G (c2 (λx y=>match x,y with|.int i,.int j=>some (.int (g i j))|_,_=>none) f f')):=PE.weak h λσ H Q hh=>by
 sleep 1
 obtain⟨x,y,ρ1,e1,e2,e3⟩:=Cu e;split at e3
 ·cases e3;rename_i i j;refine⟨F,ρ,H0,[.int i,.int j],ρ',R,by unfold aCons;rw[e1];simp only[e2];rfl,λys H1 H1' s R' rs=>?_⟩;unfold tm at rs;obtain⟨v,r0,rfl,rv,rn⟩:=rs;unfold tm at rn;obtain⟨v',r1,rfl,rv',rn'⟩:=rn;unfold tm at rn';subst rn';unfold Rep at rv rv';subst rv rv';exact hr i j _ _ (k _ _ _ s R' (vz _))
 ·cases e3
def dMin2:D->D->Option D:=λx y=>match x,y with|.int i,.int j=>some (.int (if j<i then j else i))|_,_=>none
def iR2(f f':FE):FA:=λρ=>match f ρ with
 |some (.int i,ρ1)=>match f' ρ1 with
  |some (.int j,ρ2)=>if (-1000000<=i/\i<=1000000)/\-1000000<=j/\j<=1000000 then some (EM i (j - i).toNat,ρ2)else none
  |_=>none
 |_=>none
theorem pfi_range2{tg:Expr}(h:PI X tg e (UQ (tFA G (aCons f (aCons f' ui))))):PI X tg e (tFI G (iR2 f f')):=PI.weak h λσ H R hh=>by
 obtain⟨F,ρ,H0,ds,ρ',R,e,k⟩:=hh;unfold iR2 at e;split at e
 ·rename_i i ρ1 e1;split at e
  ·rename_i j ρ2 e2;split at e
   ·rename_i hn;cases e;refine⟨F,ρ,H0,[.int i,.int j],_,R,by unfold aCons;rw[e1];simp only[e2];rfl,λxs H1 H1' s R' rs=>?_⟩;unfold tm at rs;obtain⟨v,r0,rfl,rv,rn⟩:=rs;unfold tm at rn;obtain⟨v',r1,rfl,rv',rn'⟩:=rn;unfold tm at rn';subst rn';unfold Rep at rv rv';subst rv rv';refine⟨i,j,rfl,⟨by omega,by omega,by omega,by omega⟩,?_⟩;exact k _ _ _ s R' Kg
   ·cases e
  ·cases e
 ·cases e
end
section
variable{X:Cx}{B:Bz}{k:Nat}{e e' tg:Expr}{f f':FE}{p p2 p3 pos apos:Pos}
theorem zr_mnI [C:Cz X B k][N:Nb B "min"](hg:Gz X "min")(hs:aE [e,e'] X.env=[(false,eval e X.env),(false,eval e' X.env)])(hs':S1 X e')(ha:ZE X B e f)(hb:ZE X B e' f'):ZE X B (.Call (.Name "min" p) [e,e'] [] pos) (c2 dMin2 f f'):=
 ⟨pf_b2 (g:=λi j=>if j<i then j else i) (λi j H Q q=>⟨i,j,rfl,q⟩) (Cm (NS C.c) hg (C.mg▸N.p) boot_min (vI ha.p (vI hb.p xH hs') (by rw[hs,hs'])) (by decide) (by decide) (by rw[hs,hs']) (by rw[hs'];rfl))⟩
theorem zr_r2I [C:Cz X B k][N:Nb B "range"](hg:Gz X "range")(hs:aE [e,e'] X.env=[(false,eval e X.env),(false,eval e' X.env)])(hs':S1 X e')(ha:ZE X B e f)(hb:ZE X B e' f'):ZI X B tg (.Call (.Name "range" p) [e,e'] [] pos) (iR2 f f'):=⟨pfi_range2 (NQ hg (C.mg▸N.p) (vI ha.p (vI hb.p xH hs') (by rw[hs,hs'])) hs hs')⟩
end
def tOr(t t':Ty->Option Bool):Ty->Option Bool:=λy=>match t y with
 |some true=>match t' y with
  |some _=>some true
  |none=>none
 |some false=>t' y
 |none=>none
section
variable{P:ay}{w:av}{mg:Str->Option aa}{base:Heap}{G:Bg}{x:Str}
def GX(K:au)(x s:Str):Prop:=∃t:Tok,nsIn K aW x=some (some (.str s t))
theorem const_str{h:Heap}{z:Str}{t:Tok}(X:G.K.In h)(Gn:h.Ns aW mg)(e:nsIn G.K aW x=some (some (.str z t))):yT G mg x (.str z):=
 ⟨.str z,_,iG X Gn e,⟨_,rfl⟩,λ_=>zZ _⟩
theorem Yw.cx(y:Yw P w mg base G){s:Str}(q:GX G.K x s):yT G mg x (.str s):=by obtain⟨h,X,Gn⟩:=y.m;obtain⟨t,e⟩:=q;exact const_str X Gn e
end
section
variable{X:Cx}{G:Bg}
theorem reps_mem{K:au}{H:Hp}:∀{l:List L3.Dq} {xs:bA} {us:List aa},L3.tm K H l xs->Vals xs us->(∀u∈us,∃e∈l,∃x,L3.Rep K H e x/\RelV x u)/\∀e∈l,∃u∈us,∃x,L3.Rep K H e x/\RelV x u
 |[],xs,us,r,v=>by unfold L3.tm at r;subst r;cases v;exact⟨λu hu=>(by cases hu),λe he=>(by cases he)⟩
 |d::l,xs,us,r,v=>by
  unfold L3.tm at r;obtain⟨x,r',rfl,h1,h2⟩:=r;cases v with
  |cons v1 v2=>
   obtain⟨q1,q2⟩:=reps_mem h2 v2;refine⟨λu hu=>?_,λe he=>?_⟩
   ·rcases aT.mp hu with rfl|hu
    ·exact⟨d,aV,x,h1,v1⟩
    ·obtain⟨e,he,z⟩:=q1 u hu;exact⟨e,ba _ he,z⟩
   ·rcases aT.mp he with rfl|he
    ·exact⟨_,aV,x,h1,v1⟩
    ·obtain⟨u,hu,z⟩:=q2 e he;exact⟨u,ba _ hu,z⟩
end
section
variable{X:Cx}{B:Bz}{k i:Nat}{e:Expr}{f:FE}{a:FA}{x:Str}{p p2 p3 pos apos:Pos}
theorem zr_xsI{j:Int}{jj}(h:sees X i x=true)(he:ZE X B e f)(hs:swapsWithSole [.Subscript (.Name x p) (.Constant (.int j) jj p2) p3] e pos.line X.env=pure false)(hw:swappedStores [.Subscript (.Name x p) (.Constant (.int j) jj p2) p3] e X.env=pure none)
  (h1:(cF [.Subscript (.Name x p) (.Constant (.int j) jj p2) p3] X.env).map (·.2)=[assign (.Subscript (.Name x p) (.Constant (.int j) jj p2) p3) X.env]):ZS X B (.Assign [.Subscript (.Name x p) (.Constant (.int j) jj p2) p3] e pos) (za i j f):=⟨Oo (OZ he.p (VE (pvI h) La set_list) hs hw h1)⟩
theorem zr_xeI [C:Cz X B k](h:sees X i x=true)(hb:Az X (.Name x p) "extend")(hl:Ez apos pos)(hs:S1 X e)(ha:ZN X B e a):ZE X B (.Call (.Attribute (.Name x p) "extend" apos) [e] [] pos) (EL i a):=
 ⟨Oc (bmI hb hl hs jk jd nS NZ (pvI h) (wW ha.p zT hs))⟩
end
section
variable{B:Bz}[Y:Yb B]{k np n:Nat}{b:FS}{x p:Str}{ps:aH}{st s0:Stmt}{l:List Stmt}
theorem gM5(N:aH){g:aI->aI->Option (D×aI)}(hg:g=fnM np n b)(q:GD B.G.K x st)(hl:uw st=s0::l)(hp:psO st=p::ps)(body:Bdz B N x st (s0::l) k b)(S:okO N (p::ps) st (np+1) n=true:=by kernel_rfl)(bd:Bds x x st (p::ps):=by (repeat intro _);rfl):Df B (k+1) x (spM B.G g):=
 ⟨_,gM hg Y.y q (okk S).1 (body.ok hl) (iy (okk S).2.1) (okk S).2.2 bd⟩
end
def sOf:aa->Str
 |.str x _=>x
 |_=>""
structure SetX(w:av)(h:Heap)(S:Addr)(ss:aH)(led:Bool)(o:Obj)(es:Array (Int×aa))(ep:Nat)(t:br):Prop where
 at_:h.get? S=some o
 ex:o.ExactSet
 d:o.data=.set es ep t
 f:t.fits es.size=true
 led:t.led=led
 pl:0<ss.length->t.plain=false
 el:∀e∈es.toList,∃x tk,e=(hashStr w x,Value.str x tk)
 p:(es.toList.map λe=>sOf e.2).Perm ss
variable{ss:aH}{led:Bool}{o:Obj}{es:Array (Int×aa)}{ep:Nat}
theorem SetX.sz{w:av}{h:Heap}{S:Addr}{t:br}(x:SetX w h S ss led o es ep t):es.size=ss.length:=by have:=x.p.length_eq;rw[aj,bF]at this;exact this
theorem lay_led(t:br)(es:Array (Int×aa))(h:Int)(x:aa):(layNew t es h x).2.1.led=t.led/\(t.plain=false->(layNew t es h x).2.1.plain=false):=by
 unfold layNew;split
 ·rename_i sl wd e;show ((t.put sl).1.orStandIn _).led=_/\(_->((t.put sl).1.orStandIn _).plain=false);unfold SetTable.orStandIn;split
  ·exact⟨rfl,id⟩
  ·exact⟨rfl,λ_=>rfl⟩
 ·exact⟨rfl,λ_=>rfl⟩
theorem relay_led(t:br)(es:Array (Int×aa))(n:Nat):(relayAll t es n).2.1.led=t.led/\(t.plain=false->(relayAll t es n).2.1.plain=false):=by
 unfold relayAll;split
 ·rename_i t' order e;unfold SetTable.relaid kY at e;obtain⟨ow,_,e⟩:=Option.bind_eq_some_iff.mp e;cases e;dsimp only;split
  ·exact⟨rfl,id⟩
  ·exact⟨rfl,λ_=>rfl⟩
 ·exact⟨rfl,λ_=>rfl⟩
variable{ss':aH}
section
variable{prog:ay}{w:av}{A:aC}{E:aa->ae->Prop}{s:ae}{S:Addr}{o:Obj}{es:Array (Int×aa)}{ep:Nat}{t:br}{ss:aH}{led:Bool}
theorem SetX.elems(x:SetX w s.heap S ss led o es ep t):ElemsOf (dD prog w) es.toList:=λe he=>by obtain⟨z,tk,rfl⟩:=x.el e he;exact⟨⟨z,by simp[dD,gy],rfl⟩,rfl⟩
theorem SetX.mem(x:SetX w s.heap S ss led o es ep t)(z:Str):z∈ss ↔ ∃e∈es.toList,(dD prog w).is z e.2=true:=by
 rw[<-x.p.mem_iff,az];constructor
 ·rintro⟨e,he,rfl⟩;obtain⟨y,tk,rfl⟩:=x.el e he;exact⟨_,he,by simp[dD,gy,sOf]⟩
 ·rintro⟨e,he,h⟩;obtain⟨y,tk,rfl⟩:=x.el e he;exact⟨_,he,by simpa [dD,gy,sOf]using h⟩
theorem SetX.stored(x:SetX w s.heap S ss led o es ep t){es':Array (Int×aa)}{t':br}(f:t'.fits es'.size=true)(l:t'.led=led)(pl:0<ss'.length->t'.plain=false)(el:∀e∈es'.toList,∃x tk,e=(hashStr w x,Value.str x tk))(p:(es'.toList.map λe=>sOf e.2).Perm ss'):
  SetX w (s.heap.update S (gG es' t')) S ss' led { o with data:=.set es' (ep+1) t' } es' (ep+1) t':=
 ⟨LG x.at_ x.d,x.ex,rfl,f,l,pl,el,p⟩
theorem tail_x{g:Bool->Sem Unit}(hg:∀(b:Bool) (s₁:ae) (Q':Unit->ae->Prop),Q' () s₁->ai (model prog w) A (g b) Q' E s₁)(X:SetX w s.heap S ss led o es ep t)
  {es1:Array (Int×aa)} {t2:br} (f:t2.fits es1.size=true) (l:t2.led=led) (pl:t2.plain=false) (el:∀e∈es1.toList,∃x tk,e=(hashStr w x,Value.str x tk)) (p:(es1.toList.map λe=>sOf e.2).Perm ss') (hb:es1.size<scanBound)
  {wasDummy:Bool} {R:Option Bool->ae->Prop} (h:∀h' o' es' ep' t',dF S s.heap h'->SetX w h' S ss' led o' es' ep' t'->R (some true) { s with heap:=h' }):
  ai (model prog w) A (do
    storeSet S es1 t2
    if (!wasDummy&&t2.tooFull)=true then do
      g (relayAll t2 es1 (dB es1.size)).2.2
      storeSet S (relayAll t2 es1 (dB es1.size)).1 (relayAll t2 es1 (dB es1.size)).2.1
      pure (some true)
     else pure (some true)) R E s:=by
 refine ah (jl X.at_ X.d ?_ (oe hb));have X1:=X.stored (ss':=ss') f l (λ_=>pl) el p;have hsb1:=c7 s.heap S (gG es1 t2);split
 ·have hp:=relayAll_perm t2 es1 (dB es1.size);have hfr:=relayAll_fits t2 es1 (dB es1.size);have hl:=relay_led t2 es1 (dB es1.size);generalize relayAll t2 es1 (dB es1.size)=Rl at hp hfr hl ⊢;obtain⟨es2,t3,gave2⟩:=Rl;dsimp only at hp hfr hl ⊢;have hsz:es2.size=es1.size:=by rw[<-bF,hp.length_eq,bF]
  refine ah (hg _ _ _ ?_);refine ah (jl X1.at_ X1.d ?_ (oe (by rw[hsz];exact hb)));exact ar (h _ _ _ _ _ (hsb1.trans (c7 _ S _)) (SetX.stored (s:={ s with heap:=s.heap.update S (gG es1 t2) }) (ss':=ss') X1 hfr (hl.1.trans l) (λ_=>hl.2 pl) (λe he=>el e (hp.mem_iff.mp he)) ((hp.map _).trans p)))
 ·exact ar (h _ _ _ _ _ hsb1 X1)
theorem add_x{x:Str}{tk:Tok}{Q:Bool->ae->Prop}(X:SetX w s.heap S ss led o es ep t)(hb:ss.length+1<scanBound)
  (h1:x∈ss->Q false s)
  (h2:x∉ss->∀h' o' es' ep' t',dF S s.heap h'->SetX w h' S (ss++[x]) led o' es' ep' t'->Q true { s with heap:=h' }):ai (model prog w) A (setAddHashed S (.str x tk) (hashStr w x)) Q E s:=by
 have sz:=X.sz;have hkey:(dD prog w).is x (.str x tk)=true:=by simp[dD,gy]
 unfold setAddHashed setAddHashedIn;refine cc (ah (cR X.at_ X.d X.f ?_));dsimp only;rw[byScan_of (knd:=dD prog w) rfl (by omega) X.elems];simp only[↓reduceIte];unfold setAddByScan;refine ah ?_;refine ah (gH ?_);refine ah (wpAny_setScan_of (knd:=dD prog w) hkey X.at_ X.d X.f X.elems ?_);cases hr:List.findIdx? (λe=>(dD prog w).is x e.2) es.toList with
 |some j=>dsimp only;obtain⟨hj,hpj,_⟩:=List.findIdx?_eq_some_iff_getElem.mp hr;exact ar (ar (h1 ((X.mem (prog:=prog) x).mpr ⟨es.toList[j],eO hj,hpj⟩)))
 |none=>
  dsimp only;have nin:x∉ss:=λhx=>by obtain⟨e,he,hp⟩:=(X.mem (prog:=prog) x).mp hx;have:=List.findIdx?_eq_none_iff.mp hr e he;rw[hp]at this;exact Bool.noConfusion this
  have hgw:∀(b:Bool) {s₁:ae} {Q':Unit->ae->Prop},Q' () s₁->ai (model prog w) A (match b with|true=>rule "set.scan.the-table-gave-way" |false=>pure ()) Q' E s₁:=
   λb s₁ Q' hq=>by cases b<;>first|exact ar hq|exact gH hq
  have hperm:=layNew_perm t es (hashStr w x) (.str x tk);have hfits:=layNew_fits t es (hashStr w x) (.str x tk);have hled:=lay_led t es (hashStr w x) (.str x tk);show ai _ _ (match layNew t es (hashStr w x) (.str x tk)with|(es,t,wasDummy,gave)=>_) _ _ _;generalize layNew t es (hashStr w x) (.str x tk)=L at hperm hfits hled ⊢;obtain⟨es1,t1,wasDummy,gave⟩:=L;dsimp only at hperm hfits hled ⊢;rw[kA]at hperm;have el1:∀e∈es1.toList,∃x tk,e=(hashStr w x,Value.str x tk):=λe he=>by
   rcases bC.mp (hperm.mem_iff.mp he)with he|he
   ·exact X.el e he
   ·rw[aR]at he;exact⟨x,tk,he⟩
  have p1:(es1.toList.map λe=>sOf e.2).Perm (ss++[x]):=by have:=hperm.map λe:Int×aa=>sOf e.2;rw[bE]at this;exact this.trans (X.p.append_right _)
  have hb1:es1.size<scanBound:=by rw[<-bF,hperm.length_eq,aP,bF,sz];exact hb
  refine ah (hgw _ ?_);have end_:∀(h':Heap) (o':Obj) (es':Array (Int×aa)) (ep':Nat) (t':br),dF S s.heap h'->SetX w h' S (ss++[x]) led o' es' ep' t'->Q true { s with heap:=h' }:=h2 nin;split
  ·refine ah ?_;rw[hashByValue_scannable 8 rfl];refine ar ?_;show ai _ _ (storeSet S es1 { t1 with plain:=false }>>=_) _ _ _;refine tail_x ?_ X (SetTable.fits_plain_off hfits) (hled.1.trans X.led) rfl el1 p1 hb1 ?_
   ·intro b s₁ Q' hq;cases b<;>first|exact ar hq|exact gH hq
   ·intro h' o' es' ep' t' sb X';dsimp only;exact ar (end_ h' o' es' ep' t' sb X')
  ·rename_i hpl;refine ah (ar ?_);simp only[↓reduceIte];refine tail_x ?_ X hfits (hled.1.trans X.led) (by simpa using hpl) el1 p1 hb1 ?_
   ·intro b s₁ Q' hq;cases b<;>first|exact ar hq|exact gH hq
   ·intro h' o' es' ep' t' sb X';dsimp only;exact ar (end_ h' o' es' ep' t' sb X')
end
section
variable{prog:ay}{w:av}{A:aC}{E:aa->ae->Prop}{s:ae}{S:Addr}{o:Obj}{es:Array (Int×aa)}{ep:Nat}{t:br}
theorem iter_X(x:SetX w s.heap S ss (!w.params.followText "set-order") o es ep t)(hl:ss.length<64)
  (hQ:∀(h':Heap) (I TP:Addr) (ord:List aa) (d:Drawn),s.heap.objs.size<=I->I<h'.objs.size->TP≠I->(TP=S\/s.heap.objs.size<=TP)->(∀b o,s.heap.get? b=some o->h'.get? b=some o)->ItS w I S TP ord o es ep t 0 h'->ord.Perm (es.toList.map bw)->Q (.ref I) { s with heap:=h',drawn:=d }):
  ai (model prog w) A (pyIter (.ref S)) Q E s:=by
 have hf:=x.f;have ty:s.TypeIs (.ref S) "set" := ⟨o,x.at_,x.ex.1⟩;have hlt:=aQ x.at_;refine oa ty oV (fJ oV ty Jp ?_ (F.args_set_iter_1 _));unfold di.«frozenset.__iter__»;refine ah (m:=rM _ _) (ar ?_);refine ah ?_;unfold rK setEntries;refine ah (ah (cR x.at_ x.d hf (ar ?_)));refine ar ?_;refine ah ?_;unfold setDrawn;refine ah (cR x.at_ x.d hf ?_);dsimp only;refine ah (DL ?_);refine ar ?_;have plain0:(w.params.followText "set-order" = true\/(w.params.followText "set-order" = false/\es.size<=1))->ai (model prog w) A.in1 (do
   let first<-pure (rawInt 0)
   let e<-setEpoch S;let r<-newFields "set_iterator" [first,rawInt 0,Value.ref S,rawInt ↑es.size,rawInt ↑e]
   ret r) (λfin s'=>∃v,fin=Fin.done (Flow.ret v)/\∃T' r,s'.TypeIs v T'/\typeLookup (Value.type T') (jt "__next__")=pure (some r)/\Q v s') E s:=λc=>by
  refine ah (ar ?_);refine ah (og x.at_ x.d hf ?_);refine ah (dt ?_);have kk:∀(o':Obj) (b:Addr) (o:Obj),s.heap.get? b=some o->(s.heap.push o').get? b=some o:=λo' b o e=>aN _ e;have it:∀ord,Md w (s.heap.push { cls:=.type "set_iterator", data:=.fields [rawInt 0,rawInt 0,Value.ref S,rawInt ↑es.size,rawInt ↑ep].toArray }) S S 0 ord es ep t (.int 0 0)->ord.Perm (es.toList.map bw)->_:=λord m p=>ar (M:=model prog w) (A:=A.in1) (E:=E) (Q:=λfin s'=>∃v,fin=Fin.done (Flow.ret v)/\∃T' r,s'.TypeIs v T'/\typeLookup (Value.type T') (jt "__next__")=pure (some r)/\Q v s') ⟨.ref s.heap.objs.size,rfl,"set_iterator", _,⟨_,bu _ rfl,rfl⟩,xg.lookup,hQ _ s.heap.objs.size S ord s.drawn (aJ _) (by rw[cW];exact dv _) (aY hlt) (.inl rfl) (kk _) ⟨⟨_,.int 0 0,bu _ rfl,rfl,rfl,m⟩,kk _ _ _ x.at_,x.d,hf⟩ p⟩;rcases c with c|⟨c1,c2⟩
  ·exact it _ (.txt c rfl) ((HU _ es).map _)
  ·exact it _ (.one c1 c2 (by rw[x.led,c1];rfl) (λ_=>rfl) (λj e=>by cases e) rfl) (.refl _)
 cases c:w.params.followText "set-order" with
 |true=>rw[ag (by simp)];exact plain0 (.inl c)
 |false=>
  by_cases h1:es.size<=1
  ·rw[ag λhh=>by
    have:(!false&&(!t.plain&&decide (es.size > 1)))=true:=hh;simp at this;omega]
   exact plain0 (.inr ⟨c,h1⟩)
  ·have pl:t.plain=false:=x.pl (by have:=x.sz;omega);rw[af (by show (!false&&(!t.plain&&decide (es.size > 1)))=true;rw[pl];simp;omega)];refine ah (M7 es.size _ s cD λys d p=>?_);refine ah (o9 ?_ (by
    rw[aj,p.length_eq,cD,x.sz,bO];omega))
   refine ah (og (aN _ x.at_) x.d hf ?_);refine ah (dt ?_);have kk:∀(o1 o2:Obj) (b:Addr) (o:Obj),s.heap.get? b=some o->((s.heap.push o1).push o2).get? b=some o:=λo1 o2 b o e=>aN _ (aN _ e);have ord:(ys.filterMap λp=>es[p]?.map bw).Perm (es.toList.map bw):=by refine(p.filterMap _).trans ?_;rw[show (bf es.size).filterMap (λp=>es[p]?.map bw)=((bf es.size).filterMap λp=>es[p]?).map bw from(nU ..).symm,j4]
   refine ar ⟨_,rfl,"set_iterator", _,⟨_,bu _ rfl,rfl⟩,xg.lookup,hQ _ _ s.heap.objs.size _ d ?_ ?_ ?_ (.inr (aJ _)) (kk _ _) ⟨⟨_,.ref s.heap.objs.size,bu _ rfl,rfl,rfl,.drw c (aN _ (bu _ rfl)) rfl rfl rfl p rfl⟩,kk _ _ _ _ x.at_,x.d,hf⟩ ord⟩
   ·rw[cW];exact jw _
   ·exact Nat.lt_of_lt_of_eq (dv _) (cW _ _).symm
   ·rw[cW];exact aY (dv _)
end
section
variable{prog:ay}{w:av}{A:aC}{E:aa->ae->Prop}{s:ae}{S:Addr}{o:Obj}{es:Array (Int×aa)}{ep:Nat}{t:br}{ss:aH}
theorem SetX.kept{h h':Heap}(x:SetX w h S ss led o es ep t)(k:∀o,h.get? S=some o->h'.get? S=some o):SetX w h' S ss led o es ep t:={ x with at_:=k _ x.at_ }
theorem collect_X{Q:List aa->ae->Prop}(hh:A.handled=none)(x:SetX w s.heap S ss (!w.params.followText "set-order") o es ep t)(hl:ss.length<64)
  (hQ:∀h2 k2 d2 acc,s.heap.objs.size<=h2.objs.size->(∀b o,s.heap.get? b=some o->h2.get? b=some o)->acc.Perm (es.toList.map bw)->Q acc { s with heap:=h2,toks:=k2,drawn:=d2 }):ai (model prog w) A (collect (.ref S)) Q E s:=by
 have hlt:=aQ x.at_;have n9:es.size<=63:=by have:=x.sz;omega
 let lO:Obj:={ cls:=.type "list", data:=.seq ([]:List aa).toArray };unfold collect;refine ah (o7 (dy F.entry_proto_collect ?_));rw[dR F.plain_proto_collect _];show ai _ A.in1 (newList []>>=λl=>again (.builtin "list.__iadd__" ⟨[l,.ref S],[]⟩)) _ _ s;refine ah (dt ?_);refine ar ⟨fO oh _,dy F.entry_list_iadd ?_⟩;rw[dR oh _];show ai _ A.in1 (mH (.ref s.heap.objs.size) (.ref S) (.ref s.heap.objs.size)) _ _ _;have ez:(s.heap.push lO).objs.size=s.heap.objs.size+1:=cW _ _;have x1:SetX w (s.heap.push lO) S ss (!w.params.followText "set-order") o es ep t:=x.kept λo e=>aN _ e;have T1:kU { s with heap:=s.heap.push lO } (.ref S) "set" := ⟨o,x1.at_,x.ex.1⟩;unfold mH;refine ah (ju T1 ?_);rw[ag (by
  have:mT (.ref s.heap.objs.size) (.ref S)=false:=by simp[mT];exact λe=>ao e (fQ hlt)
  rw[this];decide)]
 refine ah (iter_X (s:={ s with heap:=s.heap.push lO }) x1 hl λh3 I TP ord d3 hI1 hI2 hTI hTP kk it po=>?_);have hI:s.heap.objs.size+1<=I:=by rw[<-ez];exact hI1
 have L3:h3.get? s.heap.objs.size=some lO:=kk _ _ (bu _ rfl);have T3:kU { s with heap:=h3,drawn:=d3 } (.ref S) "set" := ⟨o,it.at_,x.ex.1⟩;have K3:∀b o,s.heap.get? b=some o->h3.get? b=some o:=λb o e=>kk b o (aN _ e);show ai _ A.in1 (holding [.ref I] (mI (.ref S))>>=_) _ _ { s with heap:=h3,drawn:=d3 };refine ah (cc ?_);unfold mI;refine ah (iq T3 F.slot_set_len.lookup ?_);generalize hid:("set.__len__" : String)=id0;wp_delta;rw[show splitId id0=some ("set", "__len__") from by subst hid;decide +kernel];subst hid;refine ah (oJ T3 sub_set_self ?_);dsimp only;rw[ag (by decide),af (by decide +kernel)];refine ah (ju T3 ?_);refine ar ?_;rw[af (by decide +kernel)];refine ah (gH ?_);refine ah ?_;show ai _ A.in1 (updateSeq s.heap.objs.size (·.push .none)>>=λ_=>updateSeq s.heap.objs.size (·.pop)) _ _ _
 refine ah (kK L3 rfl ?_);have S2:=eG (cG (·.push Value.none)) L3 rfl
 refine kK S2 rfl ?_;have S3:=eG (cG (·.pop)) S2 rfl
 have oth:∀b o,b≠s.heap.objs.size->h3.get? b=some o->((h3.update s.heap.objs.size (cG (·.push Value.none))).update s.heap.objs.size (cG (·.pop))).get? b=some o:=
  λb o hb e=>(gf _ _ (cZ hb)).trans ((gf _ _ (cZ hb)).trans e)
 have hSI:S≠I:=aY (ck hlt (oj hI));have hSf:s.heap.objs.size∉[I,S,TP]:=by
  intro z;rcases aT.mp z with z|z
  ·exact ao z (aY hI)
  ·rcases aT.mp z with z|z
   ·exact ao z (fQ hlt)
   ·rw[aR]at z;rcases hTP with e|e
    ·exact ao (z.trans e) (fQ hlt)
    ·rw[<-z,ez]at e;exact ao e (Nat.not_succ_le_self _)
 have W:=YA (prog:=prog) (w:=w) (A:=A.in1) (I:=I) (S:=S) (TP:=TP) (ord:=ord) (o:=o) (es:=es) (ep:=ep) (t:=t) (by simp[hh]) hSI hTI;have ol:ord.length<=63:=by rw[po.length_eq,aj,bF];exact n9
 refine ar ⟨fO F.plain_extend_loop _,codeAny_extend_loopS W.toS (by rw[bO];omega) _ hSf _ ord.length 0 _ _ _ rfl (cf _)
  (W.frame 0 h3 _ ⟨it,cf _⟩ λb hb o e=>oth b o (λz=>hSf (by rw[<-z];exact hb)) e) S3 (ItemsOf.nil _) λs' acc' c' hm hS' hacc=>?_⟩
 show ai _ A (load s.heap.objs.size>>=_) _ _ s';refine ah (wpAny_load hS' ?_);have ea:acc'.toList=ord:=by
  apply kx;intro j;cases e:acc'.toList[j]? with
  |none=>rw[List.getElem?_eq_none_iff,bF,hacc.1]at e;exact(gh e).symm
  |some v=>rw[hJ]at e;exact(hacc.2 j v e).symm
 obtain⟨h2,g2,d2,k2,o2⟩:=s';have eg:g2=s.gens:=hm.gens;have eo:o2=s.os:=hm.os;subst eg eo;refine ar (hQ h2 k2 d2 acc'.toList (ix (aQ hS')) (λb o e=>?_) (by rw[ea];exact po));have hb:=aQ e;exact hm.heap b o (λz=>by
  rcases aT.mp z with z|z
  ·exact ao z (aY hb)
  ·exact ao (aR.mp z) (aY (ck hb (oj hI)))) (oth b o (aY hb) (K3 b o e))
theorem set_loopX{R:dM->ae->Prop}{I:Addr}{fp wr:List Addr}{GG:Array eh->Array eh->Prop}{n:Nat}{PP:Nat->aa->Prop}{SS:Nat->ae->Prop}(W:WalksS prog w A.in1 I fp wr GG n PP SS)(hSf:S∉fp)(ks:aH)(hn:ks.length=n)(h64:n<64)
  (hval:∀i v,PP i v->∃x tk,ks[i]?=some x/\v=.str x tk):∀(k i:Nat) (s:ae) (o:Obj) (es:Array (Int×aa)) (ep:Nat) (t:br),n - i=k->i<=n->SS i s->SetX w s.heap S (uqK (ks.take i)) led o es ep t->
   (∀s' o es ep t,Moved (S::wr) GG s s'->SetX w s'.heap S (uqK ks) led o es ep t->R (.ok (.ret .none)) s')->
   cz (model prog w) A (.builtin "set.update.loop" ⟨[.ref S,.ref I],[]⟩) R s:=by
 have hSw:S∉wr:=λz=>hSf (W.sub _ z);have up:∀b∈wr,b∈S::wr:=λb z=>ba _ z;intro k
 induction k with
 |zero=>
  intro i s o es ep t hk hi hst x hR;obtain rfl:i=n:=by omega
  refine dy gb ?_;rw[dR dr _];show ai _ A.in1 (pyNext (.ref I)>>=_) _ _ s;refine ah (W.done s _ _ hst λs' hm=>?_);show ai _ A.in1 (ret Value.none) _ _ s';rw[i8 (by omega)]at x;exact ar (hR s' o es ep t (hm.mono up) { x with at_:=hm.heap S _ hSw x.at_ })
 |succ k ih=>
  intro i s o es ep t hk hi hst x hR;have hlt:i<n:=by omega
  refine dy gb ?_;rw[dR dr _];show ai _ A.in1 (pyNext (.ref I)>>=_) _ _ s;refine ah (W.item i s _ _ hlt hst λv s' hP hst' hm=>?_);obtain⟨q,tk,eq,rfl⟩:=hval i v hP;show ai _ A.in1 (holding _ (setAdd S _)>>=_) _ _ s';refine ah (cc ?_);unfold setAdd;refine cc ?_;refine ah (om ?_);have split:uqK (ks.take (i+1))=if q∈uqK (ks.take i)then uqK (ks.take i)else uqK (ks.take i)++[q]:=by unfold uqK;rw[kz,eq,nZ];rfl
  have x':SetX w s'.heap S (uqK (ks.take i)) led o es ep t:={ x with at_:=hm.heap S _ hSw x.at_ };have ul:(uqK (ks.take i)).length<=i:=by have h1:=M4 (LU (ks.take i)) λz hz=>Jr.mp hz;rw[cn]at h1;omega
  refine add_x (s:={ s' with toks:=s'.toks+1 }) x' (by unfold scanBound;omega) (λinn=>?_) λnin h' o' es' ep' t' b1 y=>?_
  ·have e:uqK (ks.take (i+1))=uqK (ks.take i):=by rw[split,af inn]
   refine ar ⟨fO dr _,ih (i+1) _ o es ep t (by omega) hlt (W.frame _ s' s'.heap _ hst' (gq _ _) λb z o e=>e) (by rw[e];exact x') λs'' o2 es2 ep2 t2 hm'' x2=>?_⟩;exact hR s'' o2 es2 ep2 t2 (jx W.gtrans ((hm.mono up).then_heap (gq _ _) λb o z e=>e) hm'') x2
  have e:uqK (ks.take (i+1))=uqK (ks.take i)++[q]:=by rw[split,ag nin]
  refine ar ⟨fO dr _,ih (i+1) _ _ _ _ _ (by omega) hlt (W.frame _ s' h' _ hst' (gq _ _) λb z o e=>?_) (by rw[e];exact y) λs'' o2 es2 ep2 t2 hm'' x2=>?_⟩
  ·rw[b1.2 b (λy:b=S=>hSf (by rw[<-y];exact z))];exact e
  ·refine hR s'' o2 es2 ep2 t2 (jx W.gtrans ((hm.mono up).then_heap (gq _ _) λb o z e=>?_) hm'') x2;rw[b1.2 b (λy:b=S=>z (by rw[y];exact aV))];exact e
theorem set_X{X:Cx}{pins:cp}{σ:St}{H:Hp}{ks:aH}(I:Inv X pins σ H s)(hh:A.handled=none)(hq:SqL X.K H a (ks.map V.str))(h64:ks.length<64)
  (h:∀h2 k2 o es ep t,SetX X.w h2 s.heap.objs.size (uqK ks) (!X.w.params.followText "set-order") o es ep t->(∀b o,b<s.heap.objs.size->s.heap.get? b=some o->h2.get? b=some o)->Q (.ref s.heap.objs.size) { s with heap:=h2,toks:=k2 }):
  ai (model X.prog X.w) A (call (.type "set") [.ref a]) Q E s:=by
 have h3:A.in1.in1.in1.handled=none:=by simp[hh]
 obtain⟨its,r,pp,_⟩:=I.list hq;obtain⟨o,ho,hc,n,hd⟩:=pp.isList;have hlt:=aQ ho;have hne:a≠s.heap.objs.size+1:=aY (dX hlt);have li:ks.length=its.length:=by have:=r.length;rw[aj]at this;exact this
 refine CG (PS:=λh2=>∃o es ep t,SetX X.w h2 s.heap.objs.size (uqK ks) (!X.w.params.followText "set-order") o es ep t) ho hc kO ka (by decide) (itO:={ cls:=.type "list_iterator", data:=.fields #[.ref a,.int 0 0] })
  (λA Q E s1 e k=>gj ⟨o,e,hc,n,hd⟩ k) (λtk' R hR=>?_) λh2 k2 ⟨o,es,ep,t,x'⟩ kk=>h h2 k2 o es ep t x' kk
 have ke:∀{b:Addr} {o':Obj},s.heap.get? b=some o'->((s.heap.push (yn (!X.w.params.followText "set-order"))).push { cls:=.type "list_iterator", data:=.fields #[.ref a,.int 0 0] }).get? b=some o':=λe=>aN _ (aN _ e);have it:((s.heap.push (yn (!X.w.params.followText "set-order"))).push { cls:=.type "list_iterator", data:=.fields #[.ref a,.int 0 0] }).get? (s.heap.objs.size+1)=some { cls:=.type "list_iterator", data:=.fields #[.ref a,.int 0 0] }:=by rw[show s.heap.objs.size+1=(s.heap.push (yn (!X.w.params.followText "set-order"))).objs.size from(cW _ _).symm];exact bu _ rfl
 have W:=(iA (prog:=X.prog) (w:=X.w) (A:=A.in1.in1.in1) h3 (s.heap.objs.size+1) a hne its.toArray).toS;have notin:s.heap.objs.size∉[s.heap.objs.size+1,a]:=by
  intro z;rcases aT.mp z with z|z
  ·exact ao z (aY (dv _))
  ·exact ao (aR.mp z) (fQ hlt)
 refine set_loopX (S:=s.heap.objs.size) (led:=!X.w.params.followText "set-order") W notin ks (by rw[bb,li]) (by rw[bb,<- li];exact h64) ?_ (its.toArray.size - 0) 0 _ (yn (!X.w.params.followText "set-order")) #[] 0 (.fresh 0 0 (!X.w.params.followText "set-order")) rfl (cf _) ⟨⟨_,it,rfl,rfl⟩,⟨o,ke ho,hc,n,hd⟩⟩ ⟨aN _ (bu _ rfl),⟨rfl,rfl,rfl⟩,rfl,rfl,rfl,λz=>ao z (d7 0),λe he=>(by cases he),.nil⟩ λs2 o2 es2 ep2 t2 mv S2=>?_
 ·intro i v e;rw[ja]at e;have hi:i<ks.length:=by rw[li];exact(b0.mp e).1
  obtain⟨u,e2,tk,ru⟩:=r.get (i:=i) (x:=V.str ks[i]) (by rw[bB,aZ hi];rfl);rw[e]at e2;cases e2;exact⟨ks[i],tk,aZ hi,ru⟩
 ·obtain⟨h2,g2,d2,k2,o2'⟩:=s2;have eg:g2=s.gens:=mv.gens;have ed:d2=s.drawn:=mv.drawn;have eo:o2'=s.os:=mv.os;subst eg ed eo;refine hR h2 k2 ⟨o2,es2,ep2,t2,S2⟩ λb o hb e=>mv.heap b o (λz=>?_) (ke e);rcases aT.mp z with z|z
  ·exact ao z (aY hb)
  ·exact ao (aR.mp z) (aY (dX hb))
end
section
variable{prog:ay}{w:av}{A:aC}{E:aa->ae->Prop}{s:ae}
theorem strs_map:∀(l:List aa),(∀v∈l,∃x tk,v=.str x tk)->kc l (l.map sOf)
 |[],_=>.nil
 |v::l,h=>by obtain⟨x,tk,rfl⟩:=h v aV;exact .cons x tk (strs_map l λu hu=>h u (ba _ hu))
theorem sort_strs{l:Addr}{vs:List aa}{n:Nat}{P:p6->ae->Prop}(sa:kc vs ss)(h64:vs.length<64)(ho:s.heap.get? l=some (seqObj "list" vs.toArray n))
  (h:∀h' e out,Br l s.heap h'->Vals ((A0 ss).map V.str) out->h'.get? l=some (seqObj "list" out.toArray e)->P (.done (.ret .none)) { s with heap:=h' }):
  ai (model prog w) A (di.«list.sort» ⟨[.ref l],[]⟩) P E s:=by
 refine list_sort_treeK strKind_oneLt ho sa.keysOf (λv₁ v₂ rest e=>keyKind_strs (by rw[<-e];exact sa)) h64 λst' a1 a2=>?_;obtain⟨ss',b1,b2,b3⟩:=sorted_out_str sa a1 a2;obtain⟨e,he⟩:=sortedHeap_at (vs:=vs) (out:=(arrOf st').map (·.2)) ho
 refine h _ e ((arrOf st').map (·.2)).toList (λb o hb z=>by rw[sortedHeap_old hb (aQ z)];exact z) ?_ (by rw[Array.toArray_toList];exact he)
 rw[<-LQ b2 b3];exact U4 b1
theorem sorted_X{S:Addr}{t:br}(hh:A.handled=none)(X:SetX w s.heap S ss (!w.params.followText "set-order") o es ep t)(hl:ss.length<64)
  (hQ:∀(p:Addr) (h2:Heap) (k2:Nat) (d2:Drawn) (e:Nat) (out:List aa),s.heap.objs.size<=p->(∀b o,s.heap.get? b=some o->h2.get? b=some o)->Vals ((A0 ss).map V.str) out->h2.get? p=some (seqObj "list" out.toArray e)->Q (.ref p) { s with heap:=h2,toks:=k2,drawn:=d2 }):
  ai (model prog w) A (call (.builtin "sorted") [.ref S]) Q E s:=by
 refine mN kind_sorted plain_sorted entry_sorted (args_sorted1 _) ?_;unfold di.«sorted»;refine ah (m:=checkCount "sorted" 1 1 _) (ar ?_);refine ah (collect_X (by simp[hh]) X hl λg k2 d2 acc hz kk pa=>?_);have al:acc.length<64:=by rw[pa.length_eq,aj,bF,X.sz];exact hl
 have sa:=strs_map acc λv hv=>by obtain⟨e,he,rfl⟩:=az.mp (pa.mem_iff.mp hv);obtain⟨x,tk,rfl⟩:=X.el e he;exact⟨x,tk,rfl⟩
 have es:A0 (acc.map sOf)=A0 ss:=by
  have p1:(acc.map sOf).Perm ss:=by have:=pa.map sOf;rw[bc]at this;exact this.trans X.p
  exact j3 (λa b _ _=>F0 a b) (i6 FZ E5 _) (i6 FZ E5 ss) ((hZ _ leS).trans (p1.trans (hZ ss leS).symm))
 refine ah (kX ?_ (by rw[bO];omega));have on:(g.push (seqObj "list" acc.toArray 0)).get? g.objs.size=some (seqObj "list" acc.toArray 0):=bu _ rfl;show ai _ _ _ _ _ { s with heap:=g.push (seqObj "list" acc.toArray 0),toks:=k2,drawn:=d2 };refine ah (cc (fJ pb ⟨_,on,rfl⟩ oP ?_ (pd _)));refine sort_strs (s:={ s with heap:=g.push (seqObj "list" acc.toArray 0),toks:=k2,drawn:=d2 }) sa al on λh' e out kb vo he=>?_;rw[es]at vo;exact⟨_,rfl,ar ⟨_,rfl,hQ g.objs.size h' k2 d2 e out hz (λb o z=>kb b o (aY (aQ (kk b o z))) (aN _ (kk b o z))) vo he⟩⟩
end
section
variable{X:Cx}{G:Bg}
def tSortX(K:au)(te:TE):TE:=λσ H Q=>te σ H λx H1=>∃(a:Addr) (ks:aH),x=.ref a/\SqL K H1 a (ks.map V.str)/\ks.length<64/\∀(p:Addr),H1 p=none->Q (.ref p) (upd H1 p (.lst ((A0 (uqK ks)).map V.str)))
theorem pe_sortX{te:TE}{p1 p2 p3 p4:Pos}(hc:X.calm=true)(g1:Gl X "sorted")(m1:X.mg "sorted" = none)(g2:Gl X "set")(m2:X.mg "set" = none)(he:PE X e te)
  (z1:aE [Expr.Call (.Name "set" p2) [e] [] p3] X.env=[(false,eval (.Call (.Name "set" p2) [e] [] p3) X.env)]:=by rfl) (z2:aE [e] X.env=[(false,eval e X.env)]:=by rfl):PE X (.Call (.Name "sorted" p1) [.Call (.Name "set" p2) [e] [] p3] [] p4) (tSortX X.K te):=by
 intro pins s σ H Q I h;refine dW (zS I g1 m1 boot_sorted ?_ (by decide) (by decide));refine callWith_builtin1 ?_ z1 rfl;rw[z1];show ai _ _ (spliced [(false,eval (.Call (.Name "set" p2) [e] [] p3) X.env)]) _ _ s;refine dU ?_;refine dW (zS I g2 m2 pW ?_ (by decide) (by decide));refine callWith_type1 (thn (wW he zT z2 p3 pins s σ H (λvs H1=>match vs with
  |[x]=>∃(a:Addr) (ks:aH),x=.ref a/\SqL X.K H1 a (ks.map V.str)/\ks.length<64/\∀(p:Addr),H1 p=none->Q (.ref p) (upd H1 p (.lst ((A0 (uqK ks)).map V.str)))
  |_=>False) I h) λus s1 hh=>?_) z2 rfl
 obtain⟨vs,H1,I1,r1,q1⟩:=hh
 match vs,r1,q1 with
 |[x],r1,q1=>
 obtain⟨a,ks,e1,hq,h64,q⟩:=q1;subst e1;obtain⟨u,rfl,ru⟩:=vals1 r1;cases ru;have ul:(uqK ks).length<64:=jf (M4 (LU ks) λz hz=>Jr.mp hz) h64;refine set_X I1 (I1.ok.hd hc) hq h64 λh2 k2 o es ep t x kk=>?_;refine fH ?_;have I2:Inv X pins σ H1 { s1 with heap:=h2,toks:=k2 }:=I1.kept λb o e=>kk b o (aQ e) e;refine sorted_X (s:={ s1 with heap:=h2,toks:=k2 }) (I1.ok.hd hc) x ul λp h3 k3 d3 e out hp k4 vo hg=>?_;have I3:=I2.laid (t':=k3) (o:=.lst ((A0 (uqK ks)).map V.str)) k4 hp ⟨by
  rw[aj,bO,show (A0 (uqK ks)).length=_ from(hZ _ leS).length_eq];omega,out,e,vo,hg⟩
 exact⟨.ref p,_,Inv.drw I3 d3,rfl,q p (I2.hok.fresh hp)⟩
def cSortX(f:FE):FA:=λρ=>match f ρ with
 |some (.lst ds,ρ')=>match Ed ds with
  |some ss=>if ss.length<64 then some ((A0 (uqK ss)).map D.str,ρ')else none
  |none=>none
 |_=>none
theorem pfn_sortX(h:PE X e (tSortX G.K (tF G f))):PE X e (tFN G (cSortX f)):=PE.weak h λσ H Q hh=>by
 obtain⟨F,ρ,H0,es,ρ',R,e,k⟩:=hh;unfold cSortX at e;split at e
 ·rename_i ds ρ1 e1;cases e2:Ed ds with
  |none=>simp only[e2]at e;cases e
  |some ss=>
   simp only[e2]at e;split at e
   ·rename_i h64;cases e;refine⟨F,ρ,H0,_,_,R,e1,λv H1 H1' s R' r=>?_⟩;unfold Rep at r;obtain⟨a,xs,rfl,h1,h2⟩:=r;have hx:=FU h2 e2;subst hx;exact⟨a,ss,rfl,SqL.of (R'.sub _ _ h1),h64,λp hp=>k p _ _ _ s (R'.newOwn hp _) tG (R'.h0none hp) (R'.bNone hp) (R'.apart hp) (F1 _)⟩
   ·cases e
 ·cases e
end
section
variable{X:Cx}{B:Bz}{k:Nat}{e:Expr}{f:FE}{p p2 p3 pos:Pos}
theorem zr_wxI [C:Cz X B k][N:Nb B "sorted"][N':Nb B "set"](hs:S1 X e)(hg:Gz X "sorted")(hg':Gz X "set")(ha:ZE X B e f)(z:aE [Expr.Call (.Name "set" p2) [e] [] p3] X.env=[(false,eval (.Call (.Name "set" p2) [e] [] p3) X.env)]):ZN X B (.Call (.Name "sorted" p) [.Call (.Name "set" p2) [e] [] p3] [] pos) (cSortX f):=⟨pfn_sortX (by rw[<-C.K];exact pe_sortX C.c hg (C.mg▸N.p) hg' (C.mg▸N'.p) ha.p z hs)⟩
end
end L4
namespace L4
open PySem PySem.Spec PyProof.Rows L2 L3
section
variable{X:Cx}{G:Bg}
def gTL(gs:aI->aU->Option aU)(n:Nat):FG:=λd ρ=>match d with
 |.lst ds=>if ds.length=n then gs ds ρ else none
 |_=>none
def cRep(f g:FE):FA:=λρ=>match f ρ with
 |some (.lst xs,ρ1)=>match g ρ1 with
  |some (.int k,ρ2)=>if xs.length * k.toNat<=1000/\-1000<=k/\k<=1000 then some ((iu k.toNat xs).flatten,ρ2)else none
  |_=>none
 |_=>none
end
section
variable{X:Cx}{G:Bg}
def rNiT(K:au):R2:=λx y H Q=>∃p xs d l,y=.ref p/\SqL K H p xs/\L3.Rep K H d x/\L3.tm K H l xs/\dpt d<=20/\(∀e∈l,dpt e<=20)/\Q (.bl (!l.any λe=>eqD e d)) H
theorem op_niT(hu:X.A.units+64<cLine):OpR X (bq .NotIn) (rNiT X.K):=by
 intro pins s σ H x y v u Q I rx ry h;obtain⟨p,xs,d,l,rfl,hq,rd,rl,hd,hl,q⟩:=h;cases ry;obtain⟨its,r,pl,hz⟩:=I.list hq;obtain⟨m1,m2⟩:=reps_mem rl r;have ea:∀e∈l,∀z w,L3.Rep X.K H e z->RelV z w->iz X.A.in1 s w v (eqD e d):=λe he z w h1 h2=>Pq I e d z x w v X.A.in1 h1 rd h2 rx (by have:=hl e he;show X.A.units+1+_+_<_;omega);let f:aa->Bool:=λw=>@decide (∃e∈l,∃z,L3.Rep X.K H e z/\RelV z w/\eqD e d=true) (gY _);refine nO f pl.isList (λw hw=>?_) ⟨.bl _,H,I,rfl,?_⟩
 ·by_cases hf:∃e∈l,∃z,L3.Rep X.K H e z/\RelV z w/\eqD e d=true
  ·have ef:f w=true:=@aM _ (gY _) hf;obtain⟨e,he,z,h1,h2,h3⟩:=hf;have:=ea e he z w h1 h2;rw[h3]at this;rw[ef];exact this
  ·have ef:f w=false:=@aL _ (gY _) hf;obtain⟨e,he,z,h1,h2⟩:=m1 w (by simpa using hw);have:=ea e he z w h1 h2;rw[ji.mpr λh3=>hf ⟨e,he,z,h1,h2,h3⟩]at this;rw[ef];exact this
 ·have eq:its.toArray.any f=l.any λe=>eqD e d:=by
   rw[show its.toArray.any f=its.any f by simp];refine cM.mpr ?_;rw[dY,dY];constructor
   ·rintro⟨w,hw,hf⟩;obtain⟨e,he,z,h1,h2,h3⟩:=@bK _ (gY _) hf;exact⟨e,he,h3⟩
   ·rintro⟨e,he,h3⟩;obtain⟨w,hw,z,h1,h2⟩:=m2 e he;exact⟨w,hw,@aM _ (gY _) ⟨e,he,z,h1,h2,h3⟩⟩
  rw[eq];exact q
def dNiT:D->D->Option D:=λx y=>match y with
 |.lst ds=>match toD x,y9 ds with
  |some d,some l=>if decide (dpt d<=20)&&l.all (λe=>decide (dpt e<=20))then some (.bl (!l.any λe=>eqD e d))else none
  |_,_=>none
 |_=>none
theorem od_niT:OpD G (rNiT G.K) dNiT:=λx y z H0 H v u Q e s rx ry k=>by
 unfold dNiT at e;split at e
 ·rename_i ds;cases e1:toD x with
  |none=>simp only[e1]at e;cases e
  |some d=>
   cases e2:y9 ds with
   |none=>simp only[e1,e2]at e;cases e
   |some l=>
    simp only[e1,e2]at e;split at e
    ·rename_i hc;cases e;rw[aS,bJ,bp]at hc;have ry:=Rep.mono s _ _ ry;unfold Rep at ry;obtain⟨a,xs,rfl,h1,h2⟩:=ry;exact⟨a,xs,d,l,rfl,SqL.of h1,EZ x v d (Rep.mono s _ _ rx) e1,CD ds xs l h2 e2,hc.1,λe he=>bK (hc.2 e he),k _ λ_ _=>vR _⟩
    ·cases e
 ·cases e
instance niT2:CmC .NotIn dNiT:=⟨λX G h hu=>⟨_,by rw[<-h];exact op_niT hu,od_niT⟩⟩
end
end L4
namespace L4
open PySem PySem.Spec PySem.Calls PyProof.Rows PySem.W L2 L3
section
variable{X:Cx}{G:Bg}
def rTS(K:au)(r:R2):R2:=λx y H Q=>(∃a xs z,x=.ref a/\SqT K H a xs/\y=.str z/\Q (.bl false) H)\/r x y H Q
theorem op_TS{r:R2}(hu:X.A.units+64<cLine)(h0:OpR X (bq .Eq) r):OpR X (bq .Eq) (rTS X.K r):=by
 intro pins s σ H x y v u Q I rx ry h;rcases h with ⟨a,xs,z,rfl,hq,rfl,q⟩|h
 ·cases rx;obtain⟨t,rfl⟩:=ry;obtain⟨its,r,p,_⟩:=I.tuple hq;exact sf z t (show s.heap.IsTuple a its.toArray from p) (by omega) _ _ _ _ ⟨.bl false,H,I,rfl,q⟩
 ·exact h0 pins s σ H x y v u Q I rx ry h
def dEqX:D->D->Option D
 |.tup _,.str _=>some (.bl false)
 |x,y=>dEq false x y
theorem od_TS{r:R2}(h0:OpD G r (dEq false)):OpD G (rTS G.K r) dEqX:=λx y z H0 H v u Q e s rx ry k=>by
 unfold dEqX at e;split at e
 ·cases e;have rx:=Rep.mono s _ _ rx;unfold Rep at rx ry;obtain⟨a,xs,rfl,h1,_⟩:=rx;exact .inl ⟨a,xs,_,rfl,h1,ry,k _ λ_ _=>vR _⟩
 ·exact .inr (h0 x y z H0 H v u Q e s rx ry k)
instance inX9:CmC .Eq dEqX:=⟨λX G h u=>by
 obtain⟨r,o1,o2⟩:=in9.p X G h u;exact⟨rTS G.K r,by rw[<-h];exact op_TS u o1,od_TS o2⟩⟩
end
end L4
namespace K34x
open PySem L2 L3 L4
abbrev D:=L4.D
def top(i:Nat):Stmt:=PySem.Challenge.pw_tellworld_k34_common_steps.main.body.getD i (.Pass ⟨0,0,0,0⟩)
def zF:Nat->Bool:=λc=>c==14
def HV:Nat->Bool:=λc=>c==13
def CP:Nat->Bool:=λc=>c==2
def HW:Nat->Bool:=λc=>c==9
def vV:Nat->Bool:=λc=>c==2
def BH:Nat->Bool:=λc=>c==14
def yp:Nat->Bool:=λc=>c==14
def u5:Nat->Bool:=λc=>c==14
def A1:Nat->Bool:=λc=>c==14
def zc:Nat->Bool:=λc=>c==14
def ue:Nat->Bool:=λc=>c==0||c==7
def yq:Nat->Bool:=λc=>c==1
def yU:Nat->Bool:=λc=>c==14
def tY:Nat->Bool:=λc=>c==0||c==1||c==2
def xD:Nat->Bool:=λc=>c==2
def HX:Nat->Bool:=λc=>c==3||c==11
def Ee:Nat->Bool:=λc=>c==13
def xh:Nat->Bool:=λc=>c==14
def zG:Nat->Bool:=λc=>c==14
def zH:Nat->Bool:=λc=>c==14
def uP:Nat->Bool:=λc=>c==0||c==1
def KI:Nat->Bool:=λc=>c==3||c==4||c==5||c==6||c==7||c==11||c==12
def HY:Nat->Bool:=λc=>c==13
def KJ:Nat->Bool:=λc=>c==13
def yt:Nat->Bool:=λc=>c==14
def DM:Nat->Bool:=λc=>c==6||c==12
def yu:Nat->Bool:=λc=>c==13
def yV:Nat->Bool:=λc=>c==14
def KL:Nat->Bool:=λc=>c==8
def vL:Nat->Bool:=λc=>c==0
def zd:Nat->Bool:=λc=>c==14
abbrev QS:Ty->Option Bool:=HM 15 1
abbrev Na:Ty->Option Bool:=HM 15 0
def A2:L4.D:=(D.int 8)
def A3:L4.D:=(D.int 12)
def F5:L4.D:=(D.tup [(D.str "it"),(D.str "other"),(D.str "here"),(D.str "the"),(D.str "a"),(D.str "undo"),(D.str "restart")])
def F6:L4.D:=(D.tup [(D.str "the"),(D.str "a")])
def AB:L4.D:=(D.str "Nothing comes of it.")
def Ef:L4.D:=(D.str "That cannot be.")
def Js:L4.D:=(D.tup [(D.str "room"),(D.str "plain"),(D.str "fixed"),(D.str "box"),(D.str "lamp"),(D.str "you")])
def yW:L4.D:=(D.tup [(D.str "room"),(D.str "box"),(D.str "you")])
def yX:L4.D:=(D.tup [(D.str "box"),(D.str "lamp")])
def BI:L4.D:=(D.tup [(D.str "room"),(D.str "you")])
def CQ:L4.D:=(D.int 5)
def BJ:L4.D:=(D.int 7)
def yc:L4.D:=(D.int 4)
def A4:L4.D:=(D.int 3)
def A5:L4.D:=(D.int 10)
def CS:L4.D:=(D.int 6)
def CT:L4.D:=(D.int 4)
def yw:L4.D:=(D.tup [(D.str "the"),(D.str "a"),(D.str "undo"),(D.str "restart")])
def CU:L4.D:=(D.int 20)
abbrev ab:=(cV 0)
abbrev ak:=(cV 1)
abbrev bg:=(cC (.int 1))
def yx:FS:=(tE (uY (c1 (wy (vg "str")) ab) (uY (xa zz zz bg (c1 vN ab) ak) (c1 yL (cL (tN 1 [] (iS ab) (gN 0) uF (xa PZ PZ (cS "a") ab (cS "z"))))))))
def wI:=fnD 2 2 yx
def HZ:FS:=(tE (uY (sX wI (aCons ab (a1 (cC A2)))) (c2 (dIn true) ab (cC F5))))
def Bt:=fnD 1 1 HZ
def Ia:FS:=(tE (uY (sX wI (aCons ab (a1 (cC A3)))) (c2 (dIn true) ab (cC F6))))
def zI:=fnD 1 1 Ia
def Eg:FS:=(tE (uY (c1 (wy (vg "str")) ab) (c2 (dIn false) ab ak)))
def uH:=fnD 2 2 Eg
def F7:FS:=(tE (uY (c1 (wy (vg "int")) ab) (G0 (c1 (wy (vg "bool")) ab))))
def B7:=fnD 1 1 F7
def AC:FS:=(tE (uY (c1 (wy (vg "list")) ab) (c2 zz (c1 vN ab) ak)))
def uK:=fnD 2 2 AC
def F8:FS:=(tE (cIf (cT (c1 (wy (vg "list")) ab)) (cL (yS ab)) ab))
def B8:=fnD 1 1 F8
abbrev aq:=(cV 2)
abbrev aA:=(cV 3)
abbrev aw:=(cV 4)
def Ad:FS:=(sZ (uz 0 0 "name" ak)
 (sZ (uz 0 0 "words" aq)
 (sZ (uz 0 0 "kind" aA)
 (uz 0 0 "start" aw))))
def wc:=fnI 0 4 5 Ad
def Eh:FS:=(sZ (uz 1 0 "name" ak)
 (sZ (uz 1 0 "start" aq)
 (uz 1 0 "most" aA)))
def A6:=fnI 1 3 4 Eh
abbrev aF:=(cC D.non)
def A7:FS:=(sZ (uz 2 0 "name" ak)
 (sZ (uz 2 0 "others" (cIf (cT (c2 w6 aq aF)) (tR ui) aq))
 (sZ (uz 2 0 "form" aA)
 (uz 2 0 "joining" aw))))
def vX:=fnI 2 4 5 A7
def Ib:FS:=(sZ (uz 3 0 "term" ak)
 (uz 3 0 "place" aq))
def DN:=fnI 3 2 3 Ib
def F9:FS:=(uz 4 0 "term" ak)
def B9:=fnI 4 1 2 F9
def BK:FS:=(sZ (uz 6 0 "term" ak)
 (uz 6 0 "value" aq))
def vc:=fnI 6 2 3 BK
def Ei:FS:=(sZ (uz 7 0 "term" ak)
 (uz 7 0 "kind" aq))
def vY:=fnI 7 2 3 Ei
def Ej:FS:=(uz 8 0 "word" ak)
def Ek:=fnI 8 1 2 Ej
def Ga:FS:=(uz 9 0 "inner" ak)
def vZ:=fnI 9 1 2 Ga
def El:FS:=(sZ (uz 11 0 "term" ak)
 (uz 11 0 "place" aq))
def xP:=fnI 11 2 3 El
def Gb:FS:=(sZ (uz 12 0 "term" ak)
 (uz 12 0 "value" aq))
def yy:=fnI 12 2 3 Gb
abbrev bz:=(cV 5)
abbrev bY:=(a1 aq)
abbrev c4:=(a1 aA)
def Em:FS:=(sZ (uz 13 0 "verb" ak)
 (sZ (uz 13 0 "tests" (sX B8 bY))
 (sZ (uz 13 0 "deeds" (sX B8 c4))
 (sZ (uz 13 0 "text" aw)
 (uz 13 0 "refuses" bz)))))
def A8:=fnI 13 5 6 Em
def zJ:FS:=(tE (c2 (dIn false) (c1 (tH ue "kind") ab) (cC yW)))
def zK:=fnD 1 1 zJ
def uX:Nat->Option (List D->Option D):=λc=>match c with
 |0=>some zK
 |_=>none
def zL:FS:=(tE (c2 (dIn false) (c1 (tH ue "kind") ab) (cC yX)))
def zM:=fnD 1 1 zL
def vq:Nat->Option (List D->Option D):=λc=>match c with
 |0=>some zM
 |_=>none
def yz:FS:=(tE (c2 (dIn true) (c1 (tH ue "kind") ab) (cC BI)))
def wJ:=fnD 1 1 yz
def uD:Nat->Option (List D->Option D):=λc=>match c with
 |0=>some wJ
 |_=>none
def AD:FS:=(sIf (uR (cT ab)) WN tL)
def tI:=fnD 2 2 AD
def Gc:FS:=(tE (c1 vN (cL (tN 1 [1] (iL ab) (gN 0) (cT (c2 (dEq false) (c1 (tH ue "kind") ab) ak)) ab))))
def Ae:=fnD 2 2 Gc
def CV:FS:=(uU (tN 1 [] (iL ab) (gN 0) (cT (tT uD "is_plainly" ab ui)) ab))
def we:=fnN 1 1 CV
abbrev aX:=(cC (.int 0))
abbrev cq:=(cC (.bl false))
def DO:FS:=(sZ (sIf (wV (uR (cT (c1 (wy QS) ab))) (wV (uR (cT (sX B7 (a1 (c1 (tH uP "start") ab))))) (uR (cT (sX B7 (a1 (c1 (tH yq "most") ab))))))) (tE cq) tL)
 (tE (uY (xa zz zz bg (c1 (tH yq "most") ab) (cC A4)) (xa zz zz aX (c1 (tH uP "start") ab) (c1 (tH yq "most") ab)))))
def DP:=fnD 1 1 DO
abbrev c3:=(cS "room")
abbrev bM:=(a1 ab)
def yA:FS:=(sZ (tZ 1 (uY (c1 (wy (vg "list")) ab) (c1 yL (cL (tN 1 [] (iL ab) (gN 0) uF (c1 (wy Na) ab))))))
 (sZ (uf (sX tI (aCons ak (a1 (cS "things are a list of things")))))
 (sZ (uf (sX tI (aCons (c1 yL (cL (tN 1 [] (iL ab) (gN 0) uF (sX uH (aCons (c1 (tH ue "kind") ab) (a1 (cC Js))))))) (a1 (cS "a thing is of no kind")))))
 (sZ (uf (sX tI (aCons (xa zz zz bg (sX Ae (aCons ab (a1 c3))) (cC CQ)) (a1 (cS "a world has 1 to 5 rooms")))))
 (sZ (uf (sX tI (aCons (c2 (dEq false) (sX Ae (aCons ab (a1 (cS "you")))) bg) (a1 (cS "a world has just one you")))))
 (uf (sX tI (aCons (c2 zz (c1 vN (cL (uy we bM))) (cC BJ)) (a1 (cS "a world has at most 7 things beside rooms and you"))))))))))
def yB:=fnD 1 2 yA
def ze:FS:=(sZ (tZ 1 (uY (sX uK (aCons ab (a1 (cC yc)))) (c1 yL (cL (tN 1 [] (iL ab) (gN 0) uF (sX DP bM))))))
 (uf (sX tI (aCons ak (a1 (cS "marks are a list of at most 4 marks, each from 0 to at most 3"))))))
def zf:=fnD 1 2 ze
def CW:FS:=(tE (c2 (dEq false) (c1 (CH B6) ab) (c1 vN ab)))
def vB:=fnD 1 1 CW
def zg:FS:=(sZ (tZ 2 (cL (w9 (cL (tN 1 [] (iL ab) (gN 0) uF (c1 (tH tY "name") ab))) (cL (tN 1 [] (iL ak) (gN 0) uF (c1 (tH tY "name") ab))))))
 (sZ (uf (sX tI (aCons (c1 yL (cL (tN 1 [] (iL aq) (gN 0) uF (sX Bt bM)))) (a1 (cS "a name is no name")))))
 (uf (sX tI (aCons (sX vB bY) (a1 (cS "two things or marks have one name")))))))
def zh:=fnD 2 3 zg
def CY:FS:=(uU (w9 (cL (tN 1 [] (iL ab) (gN 0) (cT (tT vq "has_mark" ab ui)) (c1 (tH tY "name") ab))) (cL (tN 1 [] (iL ak) (gN 0) uF (c1 (tH tY "name") ab)))))
def wg:=fnN 2 2 CY
def Ca:FS:=(sZ (sIf (cT (c2 (dEq false) (c1 (tH ue "kind") ak) c3)) (tE (c2 w6 (c1 (tH uP "start") ak) aF)) tL)
 (sZ (sIf (cT (c2 (dEq false) (c1 (tH ue "kind") ak) (cS "you"))) (tE (sX uH (aCons (c1 (tH uP "start") ak) (a1 (cL (tN 1 [] (iL ab) (gN 0) (cT (c2 (dEq false) (c1 (tH ue "kind") ab) c3)) (c1 (tH tY "name") ab))))))) tL)
 (tE (sX uH (aCons (c1 (tH uP "start") ak) (a1 (cL (tN 1 [] (iL ab) (gN 0) (cT (tT uX "can_hold" ab ui)) (c1 (tH tY "name") ab)))))))))
def Cb:=fnD 2 2 Ca
abbrev cg:=(cC (.bl true))
def AE:FS:=(sZ (tZ 2 (c2 AA ab ak))
 (sZ (v8 (iR1 (c1 vN ab)) (gN 3) (sZ (sIf (cT (c2 w6 aq aF)) (tE cg) tL)
 (tZ 2 (c2 AA ab aq))))
 (tE (c2 w6 aq aF))))
def xU:=fnD 2 4 AE
abbrev fA:=(aCons ak bM)
def yC:FS:=(sZ (uf (sX tI (aCons (c1 yL (cL (tN 1 [0] (iL ab) (gN 0) uF (sX Cb fA)))) (a1 (cS "a start is none")))))
 (sZ (FM 1)
 (sZ (v8 (iL ab) (gN 2) (xB 1 (c1 (tH tY "name") aq) (c1 (tH uP "start") aq)))
 (uf (sX tI (aCons (c1 yL (cL (tN 1 [1] (iD (cFz 1)) (gN 0) uF (sX xU fA)))) (a1 (cS "a thing starts within itself"))))))))
def yD:=fnD 1 3 yC
def En:FS:=(sZ (sIf (wV (uR (cT (c1 (wy (vg "tuple")) ab))) (uR (cT (xa zz zz bg (c1 vN ab) (cC CT))))) (tE cq) tL)
 (tE (uY (c1 yL (cL (tN 1 [] (iT ab) (gN 0) uF (sX zI bM)))) (sX vB bM))))
def yY:=fnD 1 1 En
def Ie:FS:=(tE (c1 yL (cL (tN 1 [0] (iT ak) (gN 0) uF (c2 (dIn false) ab ak)))))
def zN:=fnD 2 2 Ie
def xV:FS:=(sZ (tZ 2 (cL (tN 1 [1] (iL ab) (gN 0) (cT (c2 (dEq true) (c1 (tH tY "name") ab) (c1 (tH tY "name") ak))) ab)))
 (tE (G0 (c1 EO (cL (tN 1 [1] (iL aq) (gN 0) uF (sX zN (aCons (c1 (tH vL "words") ab) (a1 (c1 (tH vL "words") ak))))))))))
def xW:=fnD 2 3 xV
def vt:FS:=(sZ (uf (sX tI (aCons (c1 yL (cL (tN 1 [] (iL ab) (gN 0) uF (sX yY (a1 (c1 (tH vL "words") ab)))))) (a1 (cS "a thing has 1 to 4 unlike words, as a tuple")))))
 (sZ (tZ 1 (cL (uy we bM)))
 (uf (sX tI (aCons (c1 yL (cL (tN 1 [1] (iL ak) (gN 0) uF (sX xW fA)))) (a1 (cS "one thing has all words of another")))))))
def vv:=fnD 1 2 vt
abbrev cv:=(aCons ab (a1 ak))
def Ag:FS:=(sZ (tZ 2 (uY (c1 (wy (vg "list")) ab) (uY (c1 yL (cL (tN 1 [1] (iL ab) (gN 0) uF (sX uH cv)))) (sX vB bM))))
 (uf (sX tI (aCons aq (a1 (cS "dark is a list of rooms' names, each once"))))))
def Ah:=fnD 2 3 Ag
abbrev dN:=(cC (.int 2))
abbrev fw:=(cC (.int 3))
abbrev bZ:=(a1 ak)
abbrev qG:=(aCons (c2 dIx ab fw) bY)
def Gd:FS:=(sZ (sIf (wV (uR (cT (c1 (wy (vg "tuple")) ab))) (cT (c2 (dEq true) (c1 vN ab) (cC (.int 4))))) (tE cq) tL)
 (sZ (tZ 3 (cOr (c2 w6 (c2 dIx ab fw) aF) (sX uH qG)))
 (tE (uY (sX uH (aCons (c2 dIx ab aX) bZ)) (uY (sX zI (a1 (c2 dIx ab bg))) (uY (sX uH (aCons (c2 dIx ab dN) bZ)) aA))))))
def Ge:=fnD 3 4 Gd
abbrev dq:=(aCons ak bY)
abbrev fC:=(aCons ab dq)
def Ai:FS:=(sZ (tZ 3 (uY (sX uK (aCons ab (a1 (cC A5)))) (c1 yL (cL (tN 1 [1,2] (iL ab) (gN 0) uF (sX Ge fC))))))
 (sZ (uf (sX tI (aCons aA (a1 (cS "ways are a list of at most 10 tuples (room, word, room, mark)")))))
 (uf (sX tI (aCons (sX vB (a1 (cL (tN 1 [] (iL ab) (gN 0) uF (tR (aCons (c2 dIx ab aX) (a1 (c2 dIx ab bg)))))))) (a1 (cS "two ways lead from one room by one word")))))))
def Aj:=fnD 3 4 Ai
def BL:FS:=(sZ (tZ 1 (uY (sX uK (aCons ab (a1 (cC CS)))) (c1 yL (cL (tN 1 [] (iL ab) (gN 0) uF FN)))))
 (uf (sX tI (aCons ak (a1 (cS "verbs are a list of at most 6 verbs"))))))
def xJ:=fnD 1 2 BL
def Eo:FS:=(tE (G0 (c1 EO (cL (tN 1 [1] (iL ab) (gN 0) uF (c2 (dIn false) ab ak))))))
def xQ:=fnD 2 2 Eo
abbrev bL:=(cV 6)
abbrev bI:=(cV 7)
abbrev jQ:=(a1 (c1 (tH tY "name") bL))
def wK:FS:=(sZ (xp 3 (uj ui))
 (sZ (v8 (iL (cL (uy we bM))) (gN 4) (uf (AY 3 (c1 (tH vL "words") aw))))
 (sZ (xp 5 (uj ui))
 (sZ (v8 (iL aq) (gN 6) (uf (AY 5 (D8 (tR jQ) (c1 (tH xD "others") bL)))))
 (sZ (tZ 7 (cL (w9 (cL (tN 1 [] (iL aq) (gN 0) (cT (c2 uV (c1 (tH vV "joining") ab) aF)) (c1 (tH vV "joining") ab))) (cL (tN 1 [] (iL ak) (gN 0) uF (c2 dIx ab bg))))))
 (sZ (uf (sX tI (aCons (sX vB (a1 (cFz 5))) (a1 (cS "two verbs' names are alike")))))
 (sZ (uf (sX tI (aCons (sX xQ (aCons (cL (w9 (cFz 5) bI)) (a1 (cFz 3)))) (a1 (cS "a verb's, way's or joining word is a word of a thing")))))
 (sZ (uf (sX tI (aCons (sX xQ (aCons (cL (w9 (cFz 5) bI)) (a1 (cC yw)))) (a1 (cS "the, a, undo or restart is a word of the world")))))
 (uf (sX tI (aCons (sX xQ (aCons bI (a1 (cFz 5)))) (a1 (cS "a way's or joining word is a verb's name")))))))))))))
def vC:=fnD 3 8 wK
abbrev f7:=(a1 aw)
def zi:FS:=(sZ (uf (sX yB bM))
 (sZ (uf (sX zf bZ))
 (sZ (uf (sX zh cv))
 (sZ (uf (sX yD bM))
 (sZ (uf (sX vv bM))
 (sZ (tZ 6 (cL (tN 1 [] (iL ab) (gN 0) (cT (c2 (dEq false) (c1 (tH ue "kind") ab) c3)) (c1 (tH tY "name") ab))))
 (sZ (uf (sX Ah (aCons aq (a1 bL))))
 (sZ (uf (sX Aj (aCons aA (aCons bL (a1 (cL (uy wg cv)))))))
 (sZ (uf (sX xJ f7))
 (uf (sX vC (aCons ab (aCons aA (a1 (cL (w9 aw bz))))))))))))))))
def zj:=fnD 6 7 zi
def QT:FS:=(tE (uv 13 (λds=>A8 (ds++[])) (aCons ab (aCons ak (aCons aq (aCons aA (a1 cq)))))))
def yE:=fnD 4 4 QT
def Ig:FS:=(tE (uv 13 (λds=>A8 (ds++[])) (aCons ab (aCons ak (aCons (cL (uj ui)) (aCons aq (a1 cg)))))))
def uJ:=fnD 3 3 Ig
abbrev cI:=(cS "it")
abbrev ma:=(cS "You lack that.")
abbrev eE:=(cS "drop")
abbrev gU:=(cS "take")
abbrev jL:=(cS "fixed")
def CZ:FS:=(uU (uj (aCons (sX uJ (aCons gU (aCons (cL (uj (a1 (uv 7 (λds=>vY (ds++[])) (aCons cI (a1 jL)))))) (a1 (cS "That stays."))))) (aCons (sX uJ (aCons gU (aCons (cL (uj (a1 (uv 3 (λds=>DN (ds++[])) (aCons cI bM))))) (a1 (cS "You have that."))))) (aCons (sX yE (aCons gU (aCons (cL (uj ui)) (aCons (cL (uj (a1 (uv 11 (λds=>xP (ds++[])) (aCons cI bM))))) (a1 (cS "Taken.")))))) (aCons (sX yE (aCons eE (aCons (cL (uj (a1 (uv 4 (λds=>B9 (ds++[])) (a1 cI))))) (aCons (cL (uj (a1 (uv 11 (λds=>xP (ds++[])) (aCons cI (a1 (cS "here"))))))) (a1 (cS "Dropped.")))))) (a1 (sX uJ (aCons eE (aCons (cL (uj ui)) (a1 ma)))))))))))
def Ak:=fnN 1 1 CZ
abbrev cA:=(cS "box")
abbrev jJ:=(cS "It is shut.")
abbrev f6:=(cS "put")
abbrev iX:=(a1 aX)
def Ep:FS:=(uU (uj (aCons (sX uJ (aCons f6 (aCons (cL (uj (a1 (uv 9 (λds=>vZ (ds++[])) (a1 (uv 4 (λds=>B9 (ds++[])) (a1 cI))))))) (a1 ma)))) (aCons (sX uJ (aCons f6 (aCons (cL (uj (a1 (uv 9 (λds=>vZ (ds++[])) (a1 (uv 7 (λds=>vY (ds++[])) (aCons (cS "other") (a1 cA)))))))) (a1 (cS "It holds nothing."))))) (aCons (sX uJ (aCons f6 (aCons (cL (uj (a1 (uv 6 (λds=>vc (ds++[])) (aCons (cS "other") iX))))) (a1 jJ)))) (a1 (sX yE (aCons f6 (aCons (cL (uj ui)) (aCons (cL (uj (a1 (uv 11 (λds=>xP (ds++[])) (aCons cI (a1 (cS "other"))))))) (a1 (cS "Done."))))))))))))
def A9:=fnN 0 0 Ep
abbrev jH:=(cS "It has no lid.")
abbrev jS:=(aCons cI (a1 bg))
abbrev jT:=(aCons cI iX)
def Er:FS:=(uU (uj (aCons (sX uJ (aCons (cS "open") (aCons (cL (uj (a1 (uv 9 (λds=>vZ (ds++[])) (a1 (uv 7 (λds=>vY (ds++[])) (aCons cI (a1 cA)))))))) (a1 jH)))) (aCons (sX uJ (aCons (cS "open") (aCons (cL (uj (a1 (uv 6 (λds=>vc (ds++[])) jS)))) (a1 (cS "It is open."))))) (aCons (sX yE (aCons (cS "open") (aCons (cL (uj ui)) (aCons (cL (uj (a1 (uv 12 (λds=>yy (ds++[])) jS)))) (a1 (cS "Opened.")))))) (aCons (sX uJ (aCons (cS "shut") (aCons (cL (uj (a1 (uv 9 (λds=>vZ (ds++[])) (a1 (uv 7 (λds=>vY (ds++[])) (aCons cI (a1 cA)))))))) (a1 jH)))) (aCons (sX uJ (aCons (cS "shut") (aCons (cL (uj (a1 (uv 6 (λds=>vc (ds++[])) jT)))) (a1 jJ)))) (a1 (sX yE (aCons (cS "shut") (aCons (cL (uj ui)) (aCons (cL (uj (a1 (uv 12 (λds=>yy (ds++[])) jT)))) (a1 (cS "Shut."))))))))))))))
def Ba:=fnN 0 0 Er
abbrev gS:=(cS "lamp")
abbrev jI:=(cS "It burns not.")
abbrev iQ:=(a1 gS)
def BM:FS:=(uU (uj (aCons (sX uJ (aCons (cS "light") (aCons (cL (uj (a1 (uv 9 (λds=>vZ (ds++[])) (a1 (uv 7 (λds=>vY (ds++[])) (aCons cI iQ))))))) (a1 jI)))) (aCons (sX uJ (aCons (cS "light") (aCons (cL (uj (a1 (uv 6 (λds=>vc (ds++[])) jS)))) (a1 (cS "It is lit."))))) (aCons (sX yE (aCons (cS "light") (aCons (cL (uj ui)) (aCons (cL (uj (a1 (uv 12 (λds=>yy (ds++[])) jS)))) (a1 (cS "Lit.")))))) (aCons (sX uJ (aCons (cS "douse") (aCons (cL (uj (a1 (uv 9 (λds=>vZ (ds++[])) (a1 (uv 7 (λds=>vY (ds++[])) (aCons cI iQ))))))) (a1 jI)))) (aCons (sX uJ (aCons (cS "douse") (aCons (cL (uj (a1 (uv 6 (λds=>vc (ds++[])) jT)))) (a1 (cS "It is out."))))) (a1 (sX yE (aCons (cS "douse") (aCons (cL (uj ui)) (aCons (cL (uj (a1 (uv 12 (λds=>yy (ds++[])) jT)))) (a1 (cS "Doused."))))))))))))))
def zk:=fnN 0 0 BM
abbrev gV:=(a1 (c2 dIx ak aX))
def Es:FS:=(sZ (xp 2 (uj (aCons (uv 3 (λds=>DN (ds++[])) (aCons ab gV)) (a1 (uv 8 (λds=>Ek (ds++[])) (a1 (c2 dIx ak bg)))))))
 (sZ (sIf (cT (c2 uV (c2 dIx ak fw) aF)) (uf (z4 2 (uv 9 (λds=>vZ (ds++[])) (a1 (uv 6 (λds=>vc (ds++[])) (aCons (c2 dIx ak fw) iX)))))) tL)
 (uU (Ja 2))))
def Bb:=fnN 2 3 Es
def Cc:FS:=(sZ (tZ 2 (cL (tN 1 [0] (iL ak) (gN 0) uF (sX yE (aCons (cS "go") (aCons (cL (uy Bb fA)) (aCons (cL (uj (a1 (uv 11 (λds=>xP (ds++[])) (aCons ak (a1 (c2 dIx ab dN))))))) (a1 (cS "You go.")))))))))
 (uU (w9 aq (cL (uj (a1 (sX uJ (aCons (cS "go") (aCons (cL (uj ui)) (a1 (cS "No way there.")))))))))))
def Cd:=fnN 2 3 Cc
def Da:FS:=(uU (uj (a1 (sX yE (aCons (cS "wait") (aCons (cL (uj ui)) (aCons (cL (uj ui)) (a1 (cS "Time goes by.")))))))))
def Dc:=fnN 0 0 Da
def Bc:FS:=(uU (w9 (cL (w9 (cL (w9 (cL (w9 (cL (w9 (cL (uy Ak bM)) (cL (uy A9 ui)))) (cL (uy Ba ui)))) (cL (uy zk ui)))) (cL (uy Cd cv)))) (cL (uy Dc ui))))
def yF:=fnN 2 2 Bc
def Bd:FS:=(uU (w9 (cL (tN 1 [] (iT (tR (aCons gU (aCons eE (aCons (cS "open") (aCons (cS "shut") (aCons (cS "light") (a1 (cS "douse"))))))))) (gN 0) uF (uv 2 (λds=>vX (ds++[D.non,(D.str "one"),D.non])) bM))) (cL (uj (aCons (uv 2 (λds=>vX (ds++[])) (aCons f6 (aCons (tR ui) (aCons (cS "two") (a1 (cS "in")))))) (aCons (uv 2 (λds=>vX (ds++[D.non])) (aCons (cS "go") (aCons (tR ui) (a1 (cS "way"))))) (a1 (uv 2 (λds=>vX (ds++[D.non])) (aCons (cS "wait") (aCons (tR ui) (a1 (cS "alone"))))))))))))
def xi:=fnN 0 0 Bd
def DQ:FS:=(sZ (FM 1)
 (sZ (v8 (iL ab) (gN 2) (xB 1 (c1 (tH tY "name") aq) aq))
 (tE (cFz 1))))
def DS:=fnD 1 3 DQ
def xX:FS:=(sZ (FM 2)
 (sZ (v8 (iL ab) (gN 3) (sIf (cT (tT vq "has_mark" aA ui)) (xB 2 (c1 (tH tY "name") aA) bg) tL))
 (sZ (v8 (iL ak) (gN 4) (xB 2 (c1 (tH tY "name") aw) (c1 (tH yq "most") aw)))
 (tE (cFz 2)))))
def xY:=fnD 2 5 xX
def AF:FS:=(sZ (FM 1)
 (sZ (v8 (iL ab) (gN 2) (v8 (iT (D8 (tR (a1 (c1 (tH tY "name") aq))) (c1 (tH xD "others") aq))) (gN 3) (xB 1 aA aq)))
 (tE (cFz 1))))
def AG:=fnD 1 4 AF
def Ih:FS:=(LK (tH yu "verb"))
def Ii:=fnD 1 3 Ih
def AH:FS:=(uU (tN 1 [1] (iL (c1 (tH u5 "kept_things") ab)) (gN 0) (cT (c2 (dEq false) (c1 (tH ue "kind") ab) ak)) (c1 (tH tY "name") ab)))
def xZ:=fnD 2 2 AH
def wC:Nat->Option (List D->Option D):=λc=>match c with
 |14=>some xZ
 |_=>none
def yZ:FS:=(uU (w9 (c1 (tH A1 "kept_verbs") ab) (c1 (tH zH "shared_verbs") ab)))
def xj:=fnD 1 1 yZ
def vJ:Nat->Option (List D->Option D):=λc=>match c with
 |14=>some xj
 |_=>none
def xk:FS:=(sZ (uf (sX zj (aCons ak (aCons aq (aCons aA (aCons aw (aCons bz (a1 (cL (uy xi ui))))))))))
 (sZ (uz 14 0 "kept_things" (cL (yS ak)))
 (sZ (uz 14 0 "kept_marks" (cL (yS aq)))
 (sZ (uz 14 0 "kept_dark" (cL (yS aA)))
 (sZ (uz 14 0 "kept_ways" (cL (yS aw)))
 (sZ (uz 14 0 "kept_verbs" (cL (yS bz)))
 (sZ (uz 14 0 "shared_verbs" (cL (uy xi ui)))
 (sZ (uz 14 0 "your_name" (BG 15 (c2 dIx (tT wC "of_kind" ab (a1 (cS "you"))) aX)))
 (sZ (uz 14 0 "things_by_name" (sX DS bZ))
 (sZ (uz 14 0 "mosts_by_name" (sX xY dq))
 (sZ (uz 14 0 "verbs_by_word" (BG 15 (sX AG (a1 (tT vJ "all_verbs" ab ui)))))
 (sZ (tZ 7 (BG 15 (uY (sX uK (aCons bL (a1 (cC CU)))) (c1 yL (cL (tN 1 [0] (iL bL) (gN 0) uF FN))))))
 (sZ (uf (sX tI (aCons bI (a1 (cS "rules are a list of at most 20 rules, each as it may be")))))
 (sZ (uz 14 0 "kept_rules" (cL (yS bL)))
 (sZ (uz 14 0 "shared_rules" (BG 15 (cL (uy yF (aCons (c1 (tH zd "your_name") ab) f7)))))
 (sZ (uz 14 0 "copied_rules" (cL (tN 1 [] (iL bL) (gN 0) uF FN)))
 (uz 14 0 "rules_by_verb" (BG 15 (sX Ii (a1 (cL (w9 (c1 (tH zF "copied_rules") ab) (c1 (tH zG "shared_rules") ab)))))))))))))))))))))))
def xl:=fnI 14 6 8 xk
def Et:FS:=(tE (c1 (tH zd "your_name") ab))
def KM:=fnD 1 1 Et
def Bu:Nat->Option (List D->Option D):=λc=>match c with
 |14=>some KM
 |_=>none
def zO:FS:=(tE (c2 KH (c1 (tH yt "things_by_name") ab) ak))
def wj:=fnD 2 2 zO
def tD:Nat->Option (List D->Option D):=λc=>match c with
 |14=>some wj
 |_=>none
def AI:FS:=(tE (c2 AX (c1 (tH yU "mosts_by_name") ab) ak))
def AJ:=fnD 2 2 AI
def vM:Nat->Option (List D->Option D):=λc=>match c with
 |14=>some AJ
 |_=>none
def AK:FS:=(tE (c2 AX (c1 (tH yV "verbs_by_word") ab) ak))
def AL:=fnD 2 2 AK
def vd:Nat->Option (List D->Option D):=λc=>match c with
 |14=>some AL
 |_=>none
def AM:FS:=(tE (c2 (dIn false) ak (c1 (tH BH "kept_dark") ab)))
def ER:=fnD 2 2 AM
def xK:Nat->Option (List D->Option D):=λc=>match c with
 |14=>some ER
 |_=>none
def y3:FS:=(uU (yS (c1 (tH yp "kept_marks") ab)))
def Dd:=fnD 1 1 y3
def x8:Nat->Option (List D->Option D):=λc=>match c with
 |14=>some Dd
 |_=>none
def BN:FS:=(uU (tN 1 [] (iL (c1 (tH u5 "kept_things") ab)) (gN 0) uF (c1 (tH tY "name") ab)))
def zl:=fnD 1 1 BN
def wQ:Nat->Option (List D->Option D):=λc=>match c with
 |14=>some zl
 |_=>none
def y4:FS:=(uU (cSortX (cL (tN 1 [] (iL (c1 (tH zc "kept_ways") ab)) (gN 0) uF (c2 dIx ab bg)))))
def xm:=fnD 1 1 y4
def vK:Nat->Option (List D->Option D):=λc=>match c with
 |14=>some xm
 |_=>none
def xR:FS:=(uU (yS (HH (c1 (tH xh "rules_by_verb") ab) ak (cL (uj ui)))))
def ug:=fnD 2 2 xR
def wL:Nat->Option (List D->Option D):=λc=>match c with
 |14=>some ug
 |_=>none
abbrev eD:=(cS "at")
abbrev iM:=(cS "mark")
abbrev qj:=(aCons (c1 (tH u5 "kept_things") ab) (a1 (c1 (tH yp "kept_marks") ab)))
abbrev qt:=(aCons eD (a1 (c1 (tH tY "name") ab)))
def BO:FS:=(sZ (tZ 1 (cL (tN 1 [] (iL (c1 (tH u5 "kept_things") ab)) (gN 0) (cT (c2 (dEq true) (c1 (tH ue "kind") ab) c3)) (tR qt))))
 (sZ (tZ 2 (cL (tN 1 [] (iL (cL (uy wg qj))) (gN 0) uF (tR (aCons iM bM)))))
 (uU (DJ (cL (w9 ak aq))))))
def BP:=fnD 1 3 BO
def y6:Nat->Option (List D->Option D):=λc=>match c with
 |14=>some BP
 |_=>none
def De:FS:=(sZ (FM 1)
 (sZ (v8 (iL (tT x8 "own_marks" ab ui)) (gN 2) (xB 1 (c1 (tH tY "name") aq) (c1 (tH uP "start") aq)))
 (tE (cFz 1))))
def Al:=fnD 1 3 De
def BQ:FS:=(sZ (sIf (cT (c2 (dEq false) (c2 dIx aq aX) eD)) (tE (c1 (tH uP "start") (tT tD "thing_of" ab (a1 (c2 dIx aq bg))))) tL)
 (tE (HH ak (c2 dIx aq bg) aX)))
def wD:=fnD 3 3 BQ
abbrev mn:=(aCons ak (aCons aq bM))
abbrev qL:=(aCons ab (a1 (sX wD mn)))
def BR:FS:=(sZ (tZ 1 (sX Al bM))
 (tE (Ay (cL (tN 1 [0,1] (iL (tT y6 "parts" ab ui)) (gN 0) uF (tR qL))))))
def zm:=fnD 1 2 BR
def Gf:FS:=(sZ (v8 (iT ab) (gN 2) (sIf (cT (c2 (dEq false) (c2 dIx aq aX) ak)) (tE (c2 dIx aq bg)) tL))
 (tE aF))
def Am:=fnD 2 3 Gf
abbrev qJ:=(a1 (tR (aCons eD bZ)))
def Nc:FS:=(tE (sX Am (aCons ab qJ)))
def uS:=fnD 2 2 Nc
abbrev qK:=(a1 (tR (aCons iM bZ)))
def Ik:FS:=(tE (sX Am (aCons ab qK)))
def uQ:=fnD 2 2 Ik
def Eu:FS:=(tE (Ay (cL (tN 1 [1,2] (iT ab) (gN 0) uF (cIf (cT (c2 (dEq false) (c2 dIx ab aX) ak)) (tR dq) ab)))))
def y7:=fnD 3 3 Eu
abbrev jP:=(aCons ak (a1 aw))
def Dg:FS:=(sZ (xp 3 (uj ui))
 (sZ (tZ 4 (sX uS dq))
 (sZ (whL (cT (c2 uV aw aF)) (sZ (uf (z4 3 aw))
 (tZ 4 (sX uS jP))) 50)
 (uU (Ja 3)))))
def vE:=fnN 3 5 Dg
abbrev qF:=(a1 (tT Bu "you" ab ui))
def Il:FS:=(tE (sX uS (aCons ak qF)))
def yh:=fnD 2 2 Il
def U6:FS:=(tE (c2 (dIn false) (tT Bu "you" ab ui) (cL (uy vE fC))))
def Dh:=fnD 3 3 U6
def Im:FS:=(tE (uY (c2 (dEq false) (c1 (tH ue "kind") (tT tD "thing_of" ab bY)) cA) (c2 (dEq false) (sX uQ dq) aX)))
def xE:=fnD 3 3 Im
abbrev mC:=(aCons ab jP)
def Io:FS:=(sZ (v8 (iL (cL (uy vE fC))) (gN 4) (sZ (sIf (cT (c2 (dEq false) aw aA)) (tE cg) tL)
 (sIf (cT (sX xE mC)) (tE cq) tL)))
 (tE cq))
def xF:=fnD 4 5 Io
abbrev iR:=(aCons ak (aCons aq c4))
def Gg:FS:=(tE (uY (c2 (dEq false) (sX uQ dq) bg) (sX xF (aCons ab iR))))
def yG:=fnD 4 4 Gg
abbrev fz:=(aCons ab c4)
abbrev qM:=(aCons ak (aCons aq fz))
def KN:FS:=(sZ (tZ 2 (sX yh cv))
 (sZ (sIf (uR (cT (tT xK "is_dark" ab bY))) (tE cg) tL)
 (tE (c1 EO (cL (tN 1 [0,1,2] (iL (tT wC "of_kind" ab iQ)) (gN 0) uF (sX yG qM)))))))
def Gh:=fnD 2 3 KN
abbrev ql:=(aCons ab (aCons ak (aCons aq qF)))
abbrev qC:=(aCons ab (aCons ak (aCons aq (a1 (sX yh cv)))))
def Ip:FS:=(sZ (tZ 3 (tT tD "thing_of" ab bY))
 (sZ (sIf (wV (cT (c2 w6 aA aF)) (uR (cT (tT uD "is_plainly" aA ui)))) (tE cq) tL)
 (sZ (sIf (cT (sX xF ql)) (tE cg) tL)
 (tE (uY (sX xF qC) (sX Gh cv))))))
def uI:=fnD 3 4 Ip
def Ew:FS:=(sZ (tZ 2 (cIf (cT (c2 w6 ak aF)) aF (tT vd "verb_of" ab gV)))
 (tE (uY (c2 uV aq aF) (c2 (dEq false) (c1 (tH CP "form") aq) (cS "way")))))
def wR:=fnD 2 3 Ew
abbrev c5:=(a1 aF)
abbrev qr:=(aCons (c2 dIx ak bg) (a1 (c2 dIx ak dN)))
abbrev mE:=(aCons aF c5)
def Ex:FS:=(sZ (sIf (wV (cT (c2 w6 ak aF)) (cT (sX wR cv))) (tE (tR mE)) tL)
 (tE (tR qr)))
def uo:=fnD 2 2 Ex
abbrev dO:=(aCons ab bY)
def Nd:FS:=(sZ (sIf (cT (c2 (dEq false) aA (cS "here"))) (tE (sX yh cv)) tL)
 (sZ (sIf (cT (c2 (dEq false) aA cI)) (tE (c2 dIx (sX uo dO) aX)) tL)
 (sZ (sIf (cT (c2 (dEq false) aA (cS "other"))) (tE (c2 dIx (sX uo dO) bg)) tL)
 (tE aA))))
def uE:=fnD 4 4 Nd
def Gi:FS:=(sZ (tZ 2 (tT tD "thing_of" ab bZ))
 (tE (cIf (wV (cT (c2 w6 aq aF)) (cT (c2 (dEq false) (c1 (tH ue "kind") aq) c3))) (cL (uj ui)) (cL (uj qJ)))))
def Ce:=fnD 2 3 Gi
def Di:FS:=(tE (cIf (cT (c2 w6 (tT vM "most_of" ab bZ) aF)) (cL (uj ui)) (cL (uj qK))))
def An:=fnD 2 2 Di
def KO:FS:=(sZ (tZ 3 (tT tD "thing_of" ab bY))
 (tE (uY (c2 (dEq true) (sX Ce cv) (cL (uj ui))) (uY (c2 uV aA aF) (uY (tT uX "can_hold" aA ui) (c2 (dEq true) aq ak))))))
def Be:=fnD 3 4 KO
def Gj:FS:=(tE (uY (c2 (dEq true) (sX An cv) (cL (uj ui))) (c2 zz aq (tT vM "most_of" ab bZ))))
def Ao:=fnD 3 3 Gj
abbrev iN:=(aCons ak (aCons aq (aCons aA (a1 (c1 (tH KI "term") ab)))))
abbrev mh:=(aCons ak (aCons aq (aCons aA (a1 (c1 (tH HX "place") ab)))))
def Gk:FS:=(sZ (tZ 4 (sX uE iN))
 (sZ (tZ 5 (sX uS (aCons aq f7)))
 (tE (uY (c2 uV bz aF) (c2 (dEq false) bz (sX uE mh))))))
def Gm:=fnD 4 6 Gk
abbrev mx:=(a1 (sX uE iN))
def Ey:FS:=(tE (sX Dh (aCons ak (aCons aq mx))))
def EA:=fnD 4 4 Ey
def Bf:FS:=(sZ (tZ 4 (sX uQ (aCons aq mx)))
 (tE (uY (c2 uV aw aF) (c2 (dEq false) aw (c1 (tH DM "value") ab)))))
def Bh:=fnD 4 5 Bf
def Dj:FS:=(sZ (tZ 4 (tT tD "thing_of" ak mx))
 (tE (uY (c2 uV aw aF) (c2 (dEq false) (c1 (tH ue "kind") aw) (c1 (tH ue "kind") ab)))))
def Dk:=fnD 4 5 Dj
abbrev iV:=(aCons ak c4)
def Dl:FS:=(tE (uY (sX wR iV) (c2 (dEq false) (c2 dIx aA bg) (c1 (tH KL "word") ab))))
def Dm:=fnD 4 4 Dl
def Bi(g:Nat->Option (List D->Option D)):FS:=(tE (G0 (tT g "holds" (c1 (tH HW "inner") ab) iR)))
def Ap:Nat->Option (List D->Option D):=λc=>match c with
 |3=>some Gm
 |4=>some EA
 |6=>some Bh
 |7=>some Dk
 |8=>some Dm
 |_=>none
def uC:Nat->Nat->Option (List D->Option D)
 |0=>Ap
 |n+1=>λc=>match c with
  |9=>some (fnD 4 4 (Bi (uC n)))
  |c=>Ap c
abbrev jN:=(aCons ak (aCons aq (a1 bz)))
abbrev iO:=(a1 bz)
abbrev iU:=(aCons ak (aCons aw iO))
def EB:FS:=(sZ (tZ 4 (sX uE iN))
 (sZ (tZ 5 (sX uE mh))
 (sZ (sIf (wV (uR (cT (sX Be iU))) (cT (c2 (dIn false) aw (cL (uy vE jN))))) (tE aF) tL)
 (tE (sX y7 (aCons aq (aCons (tR (aCons eD f7)) iO)))))))
def EC:=fnD 4 6 EB
abbrev qp:=(a1 (c1 (tH DM "value") ab))
abbrev qH:=(aCons ak (aCons aw qp))
def Gp:FS:=(sZ (tZ 4 (sX uE iN))
 (sZ (sIf (uR (cT (sX Ao qH))) (tE aF) tL)
 (tE (sX y7 (aCons aq (aCons (tR (aCons iM f7)) qp))))))
def Gq:=fnD 4 5 Gp
def v3:Nat->Option (List D->Option D):=λc=>match c with
 |11=>some EC
 |12=>some Gq
 |_=>none
def ED:FS:=(sZ (tZ 2 (cIf (cT (c1 (wy (vg "str")) ak)) (tT tD "thing_of" ab bZ) aF))
 (tE (uY (c2 uV aq aF) (tT uD "is_plainly" aq ui))))
def wU:=fnD 2 3 ED
def EE:FS:=(sZ (sIf (cT (c2 (dEq false) ak (cS "two"))) (tE (uY (sX wU dO) (sX wU fz))) tL)
 (sZ (sIf (cT (c2 uV aA aF)) (tE cq) tL)
 (sZ (sIf (cT (c2 (dEq false) ak (cS "way"))) (tE (uY (c1 (wy (vg "str")) aq) (c2 (dIn false) aq (tT vK "way_words" ab ui)))) tL)
 (tE (cIf (cT (c2 (dEq false) ak (cS "alone"))) (c2 w6 aq aF) (sX wU dO))))))
def v5:=fnD 4 4 EE
def Dn:FS:=(sZ (sIf (wV (uR (cT (c1 (wy (vg "tuple")) ak))) (wV (cT (c2 (dEq true) (c1 vN ak) fw)) (uR (cT (c1 (wy (vg "str")) (c2 dIx ak aX)))))) (tE cq) tL)
 (sZ (tZ 2 (tT vd "verb_of" ab gV))
 (tE (uY (c2 uV aq aF) (uY (c2 (dEq false) (c1 (tH tY "name") aq) (c2 dIx ak aX)) (sX v5 (aCons ab (aCons (c1 (tH CP "form") aq) qr))))))))
def Aq:=fnD 2 3 Dn
def AN:FS:=(sIf (uR (cT (sX Aq cv))) WN tL)
def wG:=fnD 2 2 AN
def QU:FS:=(sZ (v8 (iL (c1 (tH HY "tests") aA)) (gN 4) (sIf (uR (cT (tT (uC 1) "holds" aw fC))) (tE cq) tL))
 (tE cg))
def vw:=fnD 4 5 QU
abbrev sP:=(aCons (cS "refused") (a1 (cC Ef)))
abbrev md:=(cS "refused")
abbrev qy:=(a1 (c1 (tH KJ "text") aA))
abbrev jW:=(aCons ab (aCons aw bY))
abbrev mr:=(aCons (tR sP) bZ)
def Iq:FS:=(sZ (sIf (cT (c1 (tH Ee "refuses") aA)) (tE (tR (aCons (tR (aCons md qy)) bZ))) tL)
 (sZ (tZ 4 ak)
 (sZ (v8 (iL (c1 (tH HV "deeds") aA)) (gN 5) (sZ (tZ 4 (tT v3 "done" bz jW))
 (sIf (cT (c2 w6 aw aF)) (tE (tR mr)) tL)))
 (tE (tR (aCons (tR (aCons (cS "told") qy)) f7))))))
def xG:=fnD 4 6 Iq
abbrev fZ:=(cS "unseen")
abbrev iW:=(aCons ab jN)
abbrev qD:=(aCons (tR (aCons fZ f7)) bZ)
def Gr:FS:=(sZ (v8 (iT (sX uo dO)) (gN 4) (sIf (vx (cT (c2 uV aw aF)) (cT (c2 (dIn true) aw aA))) (tE (tR qD)) tL))
 (sZ (v8 (iL (tT wL "rules_to_try" ab (a1 (c2 dIx aq aX)))) (gN 5) (sIf (cT (sX vw iW)) (tE (sX xG iW)) tL))
 (tE (tR (aCons (tR (aCons md (a1 (cC AB)))) bZ)))))
def Cf:=fnD 4 6 Gr
def QV:FS:=(sZ (uf (sX wG dO))
 (sZ (tZ 3 (cL (tN 1 [0,1] (iT (sX uo dO)) (gN 0) (cT (sX uI mn)) ab)))
 (tE (sX Cf (aCons ab iR)))))
def v7:=fnD 3 4 QV
def wm:FS:=(sZ (sIf (cT (c2 (dEq false) ak (cS "alone"))) (uU (uj (a1 (tR mE)))) tL)
 (sZ (sIf (cT (c2 (dEq false) ak (cS "way"))) (uU (tN 1 [] (iL (tT vK "way_words" ab ui)) (gN 0) uF (tR (aCons ab c5)))) tL)
 (sZ (tZ 2 (cL (tN 1 [0] (iL (tT wQ "names" ab ui)) (gN 0) (cT (tT uD "is_plainly" (tT tD "thing_of" ak bM) ui)) ab)))
 (sZ (sIf (cT (c2 (dEq false) ak (cS "one"))) (uU (tN 1 [] (iL aq) (gN 0) uF (tR (aCons ab c5)))) tL)
 (sZ (xp 3 (uj ui))
 (sZ (v8 (iL aq) (gN 4) (uf (EL 3 (tN 1 [4] (iL aq) (gN 0) uF (tR fA)))))
 (uU (Ja 3))))))))
def vF:=fnN 2 5 wm
abbrev gR:=(wt (gN 0) (wt (gN 1) HB))
abbrev jO:=(aCons ab (a1 (c1 (tH CP "form") aq)))
abbrev jV:=(aCons (c1 (tH tY "name") aq) cv)
def Cg:FS:=(sZ (xp 1 (uj ui))
 (sZ (v8 (iL (tT vJ "all_verbs" ab ui)) (gN 2) (uf (EL 1 (tN 2 [2] (iL (cL (uy vF jO))) (gT gR 2) uF (tR jV)))))
 (uU (Ja 1))))
def Ar:=fnN 1 3 Cg
def Bj:FS:=(sZ (sIf (cT (c2 Tp ak (c1 vN ab))) (tE (c2 dIx ab ak)) tL)
 (tE aX))
def yH:=fnD 2 2 Bj
abbrev iK:=(cC (.int 2147483647))
def yd:FS:=(sZ (sIf (zB (cT (c2 (dEq false) (c1 vN ab) bg))) (sZ (tZ 2 (zA (c2 dIx ab aX)))
 (sZ (za 0 0 (c2 ya aq (c1 Tr (c2 Wq aq (c2 PX (cC (.int 10)) (cC (.int 18)))))))
 (uf (EL 0 (uj (aCons (c2 wx aq iK) iX)))))) tL)
 (sZ (sIf (zB (cT (c2 PY (c2 dIx ab aX) aX))) (sZ (tZ 3 (zA (c2 wx (c2 dIx ab aX) ak)))
 (sZ (za 0 0 (zA (c2 BE (c2 dIx ab aX) ak)))
 (tE aA))) tL)
 (sZ (za 0 2 (zA (c2 vT (c2 dIx ab dN) bg)))
 (sZ (tZ 4 (zA (c2 wx (c2 ya (c2 vT (c2 vT (c2 dIx ab bg) (c2 ya (cC (.int 7919)) (c2 dIx ab dN))) bg) (cC (.int 48271))) iK)))
 (sZ (tZ 4 (c2 wx (c2 ya aw (c2 vT (c2 BE aw (cC (.int 1009))) (cC (.int 69621)))) iK))
 (tE (c2 wx (c2 wx (c2 ya aw (c2 vT (c2 BE aw (cC (.int 2003))) (cC (.int 40692)))) (cC (.int 2147483399))) ak)))))))
def tw:=fnM 1 5 yd
abbrev qz:=(wt (gN 7) (wt (gN 8) HB))
abbrev qa:=qz
abbrev eC:=(cV 8)
abbrev iJ:=(a1 (cS "me"))
abbrev dj:=(cV 9)
abbrev jM:=(cC (.int 7))
abbrev mf:=(a1 (cC (.int 5)))
abbrev qh:=(aCons bI (aCons eC (aCons dj (a1 (Od 3 (vA tw 0 (a1 (zA (c1 vN aA)))))))))
abbrev qk:=(aCons (cS "plain") (aCons cA (aCons gS (aCons cA (aCons jL (a1 (cS "plain")))))))
def zp:FS:=(sZ (tZ 1 (cL (G3 (cL (uj (aCons (cS "hall") (aCons (cS "x") (aCons (cS "cellar") (aCons (cS "loft") (a1 (cS "porch")))))))) oNo (oAt (c2 vT bg (vA tw 0 mf))))))
 (sZ (xp 2 (tN 1 [] (iL ak) (gN 0) uF (uv 0 (λds=>wc (ds++[D.non])) (aCons ab (aCons (tR (aCons ab (a1 (cS "place")))) (a1 c3))))))
 (sZ (uf (z4 2 (uv 0 (λds=>wc (ds++[])) (aCons (cS "me") (aCons (tR (aCons (cS "me") (a1 (cS "self")))) (aCons (cS "you") (a1 (c2 dIx ak (vA tw 0 (a1 (c1 vN ak)))))))))))
 (sZ (xp 3 (w9 ak (cL (uj iJ))))
 (sZ (tZ 4 (cL (uj (aCons (tR (aCons (cS "chest") (a1 (tR (aCons (cS "old") (a1 (cS "chest"))))))) (aCons (tR (aCons gS (a1 (tR (aCons gS (a1 (cS "red"))))))) (aCons (tR (aCons (cS "stone") (a1 (tR (aCons (cS "red") (a1 (cS "stone"))))))) (a1 (tR (aCons (cS "key") (a1 (tR (a1 (cS "key")))))))))))))
 (sZ (tZ 4 (cL (w9 aw (cL (uj (aCons (tR (aCons (cS "itch") (a1 (tR (aCons (cS "old") (aCons (cS "red") (a1 (cS "rag")))))))) (aCons (tR (aCons (cS "heretic") (a1 (tR (aCons (cS "stone") (a1 (cS "man"))))))) (a1 (tR (aCons (cS "others") (a1 (tR (aCons (cS "book") (aCons (cS "of") (a1 (cS "old"))))))))))))))))
 (sZ (tZ 5 (vA tw 0 (a1 jM)))
 (sZ (v8 (iR1 (vA tw 0 (a1 (cC (.int 8))))) (gN 6) (sZ (Cv (c2 dIx aw (c2 wx (c2 vT bL bz) jM)) (gT qa 2))
 (sZ (tZ 9 (c2 dIx (cL (uj qk)) (vA tw 0 (a1 (cC (.int 6))))))
 (sZ (uf (z4 2 (uv 0 (λds=>wc (ds++[])) qh)))
 (sIf (cT (c2 (dEq false) dj cA)) (uf (z4 3 bI)) tL)))))
 (sZ (tZ 5 (vA tw 0 (a1 (zA (c1 vN aq)))))
 (uU (w9 (cL (G3 (cFz 2) (oAt bz) oNo)) (cL (G3 (cFz 2) oNo (oAt bz))))))))))))))
def zq:=fnM 0 10 zp
def Do:FS:=(uU (tN 1 [1] (iL ab) (gN 0) (cT (c2 (dIn false) (c1 (tH ue "kind") ab) ak)) (c1 (tH tY "name") ab)))
def vb:=fnN 2 2 Do
abbrev qc:=(aCons (cS "gate") (aCons (cS "luck") (aCons (cS "tide") (a1 (cS "i")))))
abbrev qA:=(aCons aq (aCons (vA tw 0 (a1 (c2 vT aA bg))) c4))
def As:FS:=(sZ (xp 1 (uj ui))
 (sZ (v8 (iL (cL (G3 (cL (uj qc)) oNo (oAt (vA tw 0 mf))))) (gN 2) (sZ (tZ 3 (c2 vT bg (vA tw 0 (a1 fw))))
 (uf (z4 1 (uv 1 (λds=>A6 (ds++[])) qA)))))
 (uU (Ja 1))))
def Au:=fnM 0 4 As
abbrev l9:=(aCons (cS "north") (aCons (cS "up") (aCons (cS "outside") (a1 (cS "north")))))
abbrev qb:=(a1 (cV 10))
abbrev jR:=(a1 eC)
abbrev mj:=(aCons bI (aCons eC (aCons dj qb)))
abbrev jU:=(a1 (c1 vN aA))
abbrev jX:=(aCons bI jR)
def Bk:FS:=(sZ (tZ 3 (cL (uy vb (aCons ak (a1 (cL (uj (a1 c3))))))))
 (sZ (tZ 4 (cL (w9 (cL (w9 (cL (uj mE)) (cL (tN 1 [] (iL aq) (gN 0) uF (c1 (tH tY "name") ab))))) (cL (uy vb (aCons ak (a1 (cL (uj (aCons cA iQ))))))))))
 (sZ (xp 5 (uj ui))
 (sZ (v8 (iR1 (vA tw 0 (a1 (cC (.int 9))))) (gN 6) (sZ (tZ 7 (c2 dIx aA (vA tw 0 jU)))
 (sZ (tZ 8 (c2 dIx (cL (uj l9)) (vA tw 0 (a1 (cC (.int 4))))))
 (sZ (tZ 9 (c2 dIx aA (vA tw 0 jU)))
 (sZ (tZ 10 (c2 dIx aw (vA tw 0 (a1 (c1 vN aw)))))
 (sIf (zB (cT (c2 dNiT (tR jX) (cL (tN 1 [] (iL bz) (gN 0) uF (LR ab none (some 2))))))) (uf (z4 5 (tR mj))) tL))))))
 (uU (Ja 5))))))
def Bl:=fnM 2 11 Bk
def Dp:FS:=(sZ (sIf (cT (c2 (dEq false) (c1 (tH ue "kind") (tT tD "thing_of" ab bY)) jL)) (tE (tR (aCons (cS "That stays.") c5))) tL)
 (sZ (sIf (cT (c2 (dEq false) (sX uS dq) (cS "me"))) (tE (tR (aCons (cS "You have that.") c5))) tL)
 (tE (tR (aCons (cS "Taken.") (a1 (tR (aCons (tR (aCons eD bY)) iJ))))))))
def ye:=fnD 3 3 Dp
def BS:FS:=(sZ (tZ 3 aq)
 (sZ (whL (cT (c2 uV aA aF)) (sZ (sIf (cT (c2 (dEq false) aA ak)) (tE cg) tL)
 (tZ 3 (sX uS fz))) 50)
 (tE cq)))
def xM:=fnD 3 4 BS
abbrev mF:=(aCons ma c5)
def EF:FS:=(sZ (sIf (uR (cT (sX Dh fC))) (tE (tR mF)) tL)
 (sZ (sIf (cT (c2 (dEq true) (c1 (tH ue "kind") (tT tD "thing_of" ab c4)) cA)) (tE (tR (aCons (cS "It holds nothing.") c5))) tL)
 (sZ (sIf (cT (c2 (dEq false) (sX uQ iV) aX)) (tE (tR (aCons jJ c5))) tL)
 (sZ (sIf (cT (sX xM iR)) (tE (tR (aCons (cS "That cannot be.") c5))) tL)
 (tE (tR (aCons (cS "Done.") (a1 (tR (aCons (tR (aCons eD bY)) c4))))))))))
def y8:=fnD 4 4 EF
abbrev gQ:=(wt (gN 5) (wt (gN 6) qz))
abbrev sQ:=(aCons (cS "It is open.") (a1 (cS "Opened.")))
abbrev sR:=(aCons (cS "It is out.") (a1 (cS "Doused.")))
abbrev sS:=(aCons (cS "It is lit.") (a1 (cS "Lit.")))
abbrev qq:=(aCons cA (aCons aX (aCons jH (aCons jJ (a1 (cS "Shut."))))))
abbrev qu:=(aCons cA (aCons bg (aCons jH sQ)))
abbrev qv:=(aCons gS (aCons bg (aCons jI sS)))
abbrev qw:=(aCons gS (aCons aX (aCons jI sR)))
def BU:FS:=(sZ (Cv (c2 AA (Kv [("open", (tR qu)),("shut", (tR qq)),("light", (tR qv)),("douse", (tR qw))]) aq) (gT (wt (gN 4) gQ) 5))
 (sZ (sIf (cT (c2 (dEq true) (c1 (tH ue "kind") (tT tD "thing_of" ab c4)) aw)) (tE (tR (aCons bL c5))) tL)
 (sZ (sIf (cT (c2 (dEq false) (sX uQ iV) bz)) (tE (tR (aCons bI c5))) tL)
 (tE (tR (aCons eC (a1 (tR (aCons (tR (aCons iM c4)) iO)))))))))
def wF:=fnD 4 9 BU
abbrev qm:=(aCons (cS "You go.") (a1 (tR (aCons (tR (aCons eD iJ)) (a1 bI)))))
abbrev jY:=(aCons ak jR)
abbrev mG:=(aCons ak iJ)
def EG:FS:=(sZ (tZ 4 (sX uS mG))
 (sZ (v8 (iL aq) (gT gQ 4) (sIf (vx (cT (c2 (dEq false) bz aw)) (vx (cT (c2 (dEq false) bL aA)) (wV (cT (c2 w6 eC aF)) (cT (c2 (dEq true) (sX uQ jY) aX))))) (tE (tR qm)) tL))
 (tE (tR (aCons (cS "No way there.") c5)))))
def Bm:=fnD 4 9 EG
abbrev qe:=(wt (gN 4) (wt (gN 5) (wt (gN 6) HB)))
abbrev iP:=(aCons bz (a1 bL))
abbrev qo:=(a1 (sX uS mG))
abbrev ml:=(aCons ab (aCons ak (a1 bI)))
abbrev gW:=(aCons ab (aCons ak iO))
abbrev qB:=(aCons (cS "Dropped.") (a1 (tR (aCons (tR (aCons eD iO)) qo))))
abbrev qI:=(aCons ab (aCons ak iP))
def Ci:FS:=(sZ (Cv aA (gT qe 3))
 (sZ (sIf (cT (c2 (dEq false) aw (cS "go"))) (tE (sX Bm iW)) tL)
 (sZ (sIf (cT (c2 (dEq false) aw (cS "wait"))) (tE (tR (aCons (cS "Time goes by.") (a1 (tR (aCons (tR (aCons eD iJ)) qo)))))) tL)
 (sZ (v8 (iL (cL (uj iP))) (gN 7) (sIf (vx (cT (c2 uV bI aF)) (uR (cT (sX uI ml)))) (tE (tR (aCons bI (a1 fZ)))) tL))
 (sZ (sIf (cT (c2 (dEq false) aw gU)) (tE (sX ye gW)) tL)
 (sZ (sIf (vx (cT (c2 (dEq false) aw eE)) (uR (cT (sX Dh gW)))) (tE (tR mF)) tL)
 (sZ (sIf (cT (c2 (dEq false) aw eE)) (tE (tR qB)) tL)
 (sZ (sIf (cT (c2 (dEq false) aw f6)) (tE (sX y8 qI)) tL)
 (tE (sX wF (aCons ab iU)))))))))))
def wM:=fnD 4 8 Ci
abbrev qg:=(aCons ab (a1 (c2 dIx (cL (uj (aCons ak (a1 (c2 dIx aq bg))))) (c1 Tr (c2 (dEq false) ab (c2 dIx aq aX))))))
def BV:FS:=(tE (Ay (cL (tN 2 [1] (iT ab) (gT gR 2) uF (tR qg)))))
def zr:=fnD 2 2 BV
abbrev fY:=(aCons (cV 6) (aCons (cV 8) (a1 (cV 10))))
abbrev l8:=(aCons (tR (aCons (cS "told") (a1 (cV 11)))) (a1 (sX zr (aCons (cV 8) (a1 (cV 12))))))
abbrev qd:=(a1 (cV 11))
abbrev eF:=(cV 13)
abbrev qf:=(wt (gN 11) (wt (gN 12) HB))
abbrev qx:=(aCons bL (aCons eC (aCons bz qb)))
abbrev sT:=(aCons fZ qd)
abbrev mw:=(aCons (tR sT) jR)
abbrev qE:=(aCons (tR (aCons md qd)) jR)
def Nf:FS:=(sZ (xp 1 (uj (a1 (sX yH (aCons ab iX)))))
 (sZ (tZ 2 (vA zq 1 ui))
 (sZ (tZ 3 (vA Au 1 ui))
 (sZ (tZ 4 (cL (tN 1 [1] (iL (cL (uy vb (aCons aq (a1 (cL (uj (a1 c3)))))))) (gN 0) (cT (c2 (dEq false) (vA tw 1 (a1 dN)) aX)) ab)))
 (sZ (tZ 5 (vA Bl 1 (aCons aq c4)))
 (sZ (tZ 6 (uv 14 (λds=>xl (ds++[])) (aCons aq (aCons aA (aCons aw (aCons bz (aCons (cL (uj ui)) (a1 (cL (uj ui))))))))))
 (sZ (tZ 7 (cL (uy Ar (a1 bL))))
 (sZ (tZ 8 (sX zm (a1 bL)))
 (sZ (v8 (iR2 bg (c2 dMin2 (cC (.int 31)) (c1 vN ab))) (gN 9) (sZ (tZ 10 (c2 dIx bI (c2 wx (c2 vT (c2 dIx ab dj) (c2 ya (cC (.int 17)) dj)) (c1 vN bI))))
 (sZ (Cv (sX wM qx) (gT qf 2))
 (sZ (tZ 13 (tR qE))
 (sZ (sIf (cT (c2 dEqX (cV 12) fZ)) (tZ 13 (tR mw)) (sIf (cT (c2 uV (cV 12) aF)) (tZ 13 (tR l8)) tL))
 (sZ (sIf (wV (cT (c2 (dEq true) (sX v7 fY) eF)) (cT (c2 (dEq true) (sX v7 fY) eF))) (tE cq) tL)
 (tZ 8 (c2 dIx eF bg))))))))
 (tE cg))))))))))
def U7:=fnD 1 14 Nf
theorem Gs{b q r n:Int}{s2:Sl}(h0:0<b)(h1:b<1073741824):∃d es' ρ,(sZ (sIf (zB (cT (c2 PY (c2 dIx ab aX) aX))) (sZ (tZ 3 (zA (c2 wx (c2 dIx ab aX) ak)))
 (sZ (za 0 0 (zA (c2 BE (c2 dIx ab aX) ak)))
 (tE aA))) tL)
 (sZ (za 0 2 (zA (c2 vT (c2 dIx ab dN) bg)))
 (sZ (tZ 4 (zA (c2 wx (c2 ya (c2 vT (c2 vT (c2 dIx ab bg) (c2 ya (cC (.int 7919)) (c2 dIx ab dN))) bg) (cC (.int 48271))) iK)))
 (sZ (tZ 4 (c2 wx (c2 ya aw (c2 vT (c2 BE aw (cC (.int 1009))) (cC (.int 69621)))) iK))
 (tE (c2 wx (c2 wx (c2 ya aw (c2 vT (c2 BE aw (cC (.int 2003))) (cC (.int 40692)))) (cC (.int 2147483399))) ak))))))
  [.pm [.int q,.int r,.int n],.im (.int b),s2,.un,.un]=some (.rt (.int d) ρ)/\Cy ρ=some es'/\0<=d/\d<b/\xA es':=by
 have hc:zB (cT (c2 PY (c2 dIx ab aX) aX)) [.pm [.int q,.int r,.int n],.im (.int b),s2,.un,.un]=some (decide (0<q),[.pm [.int q,.int r,.int n],.im (.int b),s2,.un,.un]):=rfl;by_cases hq:0<q
 ·rw[aM hq]at hc;refine⟨q % b,[.int (q / b),.int r,.int n],[.pm [.int (q / b),.int r,.int n],.im (.int b),s2,.im (.int (q % b)),.un],?_,rfl,ir _ (by omega),ib _ h0,.inr ⟨_,_,_,rfl⟩⟩;rw[tJ (d:=.int (q % b)) (ρ':=[.pm [.int (q / b),.int r,.int n],.im (.int b),s2,.im (.int (q % b)),.un])];rw[tV hc,sW (tU (FK (tP rfl rfl (Bp h0)) rfl)),sW (Kl (k:=0) (FK (tP rfl rfl (div_pos h0 h1)) rfl) rfl rfl)];rfl
 ·rw[aL hq]at hc;rw[sW (show _=some (Out.nx [.pm [.int q,.int r,.int n],.im (.int b),s2,.un,.un]) from by rw[ux hc];rfl)];rw[sW (show _=some (Out.nx [.pm [.int q,.int r,.int (n+1)],.im (.int b),s2,.un,.un]) from rfl)];have h7:z6 7919=true:=by decide
  have h4:z6 48271=true:=by decide
  rw[sW (tU (FK (d:=.int ((r+7919 * (n+1)+1) * 48271 % 2147483647)) (tP (tP (tP (tP rfl (tP rfl rfl (zC (.inl h7))) rfl) rfl rfl) rfl (zC (.inr h4))) rfl (Bp (by decide))) rfl))];generalize hg:(r+7919 * (n+1)+1) * 48271 % 2147483647=g;have g0:0<=g/\g<2147483647:=by rw[<-hg];exact⟨ir _ (by decide),ib _ (by decide)⟩
  rw[sW (tU (d:=.int (g * (g / 1009+69621) % 2147483647)) (tP (tP rfl (tP (tP rfl rfl (div_pos (by decide) (by decide))) rfl rfl) (zC (.inl (Km g0.1 g0.2)))) rfl (Bp (by decide))))];generalize hh:g * (g / 1009+69621) % 2147483647=m;have m0:0<=m/\m<2147483647:=by rw[<-hh];exact⟨ir _ (by decide),ib _ (by decide)⟩
  rw[tW (d:=.int (m * (m / 2003+40692) % 2147483399 % b)) (tP (tP (tP rfl (tP (tP rfl rfl (div_pos (by decide) (by decide))) rfl rfl) (zC (.inl (Km m0.1 m0.2)))) rfl (Bp (by decide))) rfl (Bp h0))];exact⟨_,[.int q,.int r,.int (n+1)],_,rfl,rfl,ir _ (by omega),ib _ h0,.inr ⟨_,_,_,rfl⟩⟩
variable{es:List L4.D}
theorem KP{b:Int}(h:xA es)(h0:0<b)(h1:b<1073741824):∃d es',tw es [.int b]=some (.int d,es')/\0<=d/\d<b/\xA es':=by
 rcases h with ⟨c,rfl⟩|⟨q,r,n,rfl⟩
 ·obtain⟨d,es',ρ,e,p,q1,q2,q3⟩:=Gs (q:=c * (if decide ((10:Int) ^ (18:Int).toNat<=c)=true then 1 else 0)) (r:=c % 2147483647) (n:=0) (s2:=.im (.int c)) h0 h1;refine⟨d,es',Qg rfl ?_ p,q1,q2,q3⟩;unfold yd;rw[sW (ρ':=[.pm [.int (c * (if decide ((10:Int) ^ (18:Int).toNat<=c)=true then 1 else 0)),.int (c % 2147483647),.int 0],.im (.int b),.im (.int c),.un,.un])]
  ·exact e
  ·show sIf _ _ _ [.pm [.int c],.im (.int b),.un,.un,.un]=_;rw[tV (ρ':=[.pm [.int c],.im (.int b),.un,.un,.un]) rfl,sW (show _=some (Out.nx [.pm [.int c],.im (.int b),.im (.int c),.un,.un]) from rfl)];rw[sW (Kl (k:=0) (ds:=[.int c]) (tP rfl rfl (zC (.inr (by split<;>decide)))) rfl rfl)];rfl
 ·obtain⟨d,es',ρ,e,p,q1,q2,q3⟩:=Gs (q:=q) (r:=r) (n:=n) (s2:=.un) h0 h1;refine⟨d,es',Qg rfl ?_ p,q1,q2,q3⟩;unfold yd;rw[sW (ρ':=[.pm [.int q,.int r,.int n],.im (.int b),.un,.un,.un])]
  ·exact e
  ·show sIf _ _ _ [.pm [.int q,.int r,.int n],.im (.int b),.un,.un,.un]=_;rw[ux (ρ':=[.pm [.int q,.int r,.int n],.im (.int b),.un,.un,.un]) rfl];rfl
variable{i:Nat}{a:FE}
theorem dgx{b:Int}(st:List L4.D->aU)(hp:∀es,u4 (st es) i=some es)(hq:∀es es',putAt (st es) i es'=st es')(ha:a (st es)=some (.int b,st es))(hs:xA es)(h0:0<b)(h1:b<1073741824):∃d es',vA tw i (a1 a) (st es)=some (.int d,st es')/\0<=d/\d<b/\xA es':=by obtain⟨d,es',e,q1,q2,q3⟩:=KP hs h0 h1;exact⟨d,es',by rw[<-hq es es'];exact FL (hp es) (sV ha rfl) (hp es) e,q1,q2,q3⟩
variable{e:FE}
theorem pk{L:List L4.D}(st:List L4.D->aU)(hp:∀es,u4 (st es) i=some es)(hq:∀es es',putAt (st es) i es'=st es')(he:e (st es)=some (.lst L,st es))(ha:a (st es)=some (.int L.length,st es))(hs:xA es)(h0:L≠[])(h1:L.length<=1000):∃d∈L,∃es',c2 dIx e (vA tw i (a1 a)) (st es)=some (d,st es')/\xA es':=by
 have hp0:0<L.length:=nF.mpr h0;obtain⟨d,es',e1,q1,q2,q3⟩:=dgx st hp hq ha hs (by omega) (by omega);obtain⟨m,rfl⟩:=dP q1;have hm:m<L.length:=by omega
 exact⟨L[m],eO hm,es',tP he e1 (zU (aZ hm)),q3⟩
variable{ρ ρ1:aU}{ds:List L4.D}
theorem EH(h:e ρ=some (.lst ds,ρ1)):iL e ρ=some (ds,ρ1):=by unfold iL;rw[h]
section
variable{k:Nat}{cap:List Nat}{g:FG}{ft:FT}{fe e:FE}{s:FA}{ρ ρ1 ρ2:aU}{α:Type}
theorem vG{m:L4.D}(h:e ρ=some (.bl true,ρ1)):uf (sX tI (aCons e (aCons (cC m) ui))) ρ=some (.nx ρ1):=uN (sY (sV h (sV rfl rfl)) rfl)
theorem wq(dd h:α->L4.D)(l:List α)(hs:s ρ=some (l.map dd,ρ1))(hl:l.length<=1000)(st:∀a∈l,∃ρ2 ρ3,g (dd a) (CA k cap ρ1)=some ρ2/\fe ρ2=some (h a,ρ3)/\wN cap (ρ3.drop k) ρ1=some ρ1):
  tN k cap s g uF fe ρ=some (l.map h,ρ1):=(Jf hs (by rw[aj];exact hl)).trans (T4 dd h l st)
theorem x9(dd h:α->L4.D)(p:α->Bool)(l:List α)(hs:s ρ=some (l.map dd,ρ1))(hl:l.length<=1000)
  (st:∀a∈l,∃ρ2 ρ3,g (dd a) (CA k cap ρ1)=some ρ2/\ft ρ2=some (p a,ρ3)/\(p a=true->∃ρ4,fe ρ3=some (h a,ρ4)/\wN cap (ρ4.drop k) ρ1=some ρ1)/\(p a=false->wN cap (ρ3.drop k) ρ1=some ρ1)):
  tN k cap s g ft fe ρ=some ((l.filter p).map h,ρ1):=(Jf hs (by rw[aj];exact hl)).trans (FW dd p h l st)
theorem zt(dd:α->L4.D)(l:List α)(hs:s ρ=some (l.map dd,ρ1))(hl:l.length<=1000)(st:∀a∈l,∃ρ2 ρ3,g (dd a) (CA k cap ρ1)=some ρ2/\fe ρ2=some (.bl true,ρ3)/\wN cap (ρ3.drop k) ρ1=some ρ1):
  c1 yL (cL (tN k cap s g uF fe)) ρ=some (.bl true,ρ1):=
 uA (uO (wq dd (λ_=>.bl true) l hs hl st)) ((T6 l λ_=>true).trans (by rw[bp.mpr λ_ _=>rfl]))
theorem QW(dd:α->L4.D)(l:List α)(hs:s ρ=some (l.map dd,ρ1))(hl:l.length<=1000)(st:∀a∈l,∃ρ2 ρ3,g (dd a) (CA k cap ρ1)=some ρ2/\fe ρ2=some (.bl false,ρ3)/\wN cap (ρ3.drop k) ρ1=some ρ1):
  c1 EO (cL (tN k cap s g uF fe)) ρ=some (.bl false,ρ1):=
 uA (uO (wq dd (λ_=>.bl false) l hs hl st)) ((M0 l λ_=>false).trans (by rw[nV.mpr λ_ _=>bj]))
end
inductive Kd where
 |room|you|plain|fixed|box|lamp
deriving DecidableEq
def Kd.s:Kd->Str
 |.room=>"room" |.you=>"you" |.plain=>"plain" |.fixed=>"fixed" |.box=>"box" |.lamp=>"lamp"
def Kd.pl:Kd->Bool
 |.room=>false|.you=>false|_=>true
def Kd.hd:Kd->Bool
 |.room=>true|.you=>true|.box=>true|_=>false
def Kd.mk:Kd->Bool
 |.box=>true|.lamp=>true|_=>false
structure Th where
 n:Str
 w:aH
 k:Kd
 s:Option Str
def oS:Option Str->L4.D
 |none=>.non
 |some x=>.str x
def thD(t:Th):L4.D:=.obj 0 ["name", "words", "kind", "start"] [.str t.n,.tup (t.w.map D.str),.str t.k.s,oS t.s]
theorem yI(t:Th):tH tY "name" (thD t)=some (.str t.n):=rfl
theorem Jt(t:Th):tH vL "words" (thD t)=some (.tup (t.w.map D.str)):=rfl
theorem yJ(t:Th):tH ue "kind" (thD t)=some (.str t.k.s):=rfl
theorem E7(t:Th):tH uP "start" (thD t)=some (oS t.s):=rfl
theorem Gu(a b:Kd):dEq false (.str a.s) (.str b.s)=some (.bl (decide (a=b))):=by cases a<;>cases b<;>kernel_rfl
theorem Ng(t:Th):zK [thD t]=some (.bl t.k.hd):=by obtain⟨n,w,k,s⟩:=t;cases k<;>kernel_rfl
theorem Nh(t:Th):zM [thD t]=some (.bl t.k.mk):=by obtain⟨n,w,k,s⟩:=t;cases k<;>kernel_rfl
theorem Dr(t:Th):wJ [thD t]=some (.bl t.k.pl):=by obtain⟨n,w,k,s⟩:=t;cases k<;>kernel_rfl
theorem Uh(t:Th):uH [.str t.k.s,Js]=some (.bl true):=by obtain⟨n,w,k,s⟩:=t;cases k<;>kernel_rfl
abbrev TD(T:List Th):L4.D:=.lst (T.map thD)
theorem count_eq(T:List Th)(hl:T.length<=1000)(k:Kd):Ae [TD T,.str k.s]=some (.int (T.filter λt=>decide (t.k=k)).length):=by refine tp (ρ:=[.im (TD T),.im (.str k.s)]) rfl ?_;refine tW (uA (uO (x9 thD thD (λt=>decide (t.k=k)) T (ρ1:=[.im (TD T),.im (.str k.s)]) rfl hl λt _=>⟨[.im (thD t),.im (.str k.s)],[.im (thD t),.im (.str k.s)],rfl,uL (tP (uA rfl (yJ t)) rfl (Gu t.k k)),λ_=>⟨_,rfl,rfl⟩,λ_=>rfl⟩)) ?_);show some (D.int _)=_;rw[aj]
theorem zu(T:List Th)(hl:T.length<=1000):we [TD T]=some ((T.filter λt=>t.k.pl).map thD):=by refine ym (ρ:=[.im (TD T)]) rfl ?_;exact wa (x9 thD thD (λt=>t.k.pl) T (ρ1:=[.im (TD T)]) rfl hl λt _=>⟨[.im (thD t)],[.im (thD t)],rfl,uL (uh (xs:=[.str t.n,.tup (t.w.map D.str),.str t.k.s,oS t.s]) (ys:=[]) rfl rfl rfl rfl (Dr t)),λ_=>⟨_,rfl,rfl⟩,λ_=>rfl⟩)
theorem Gv{b c:FE}{x y z:Int}(h1:a ρ=some (.int x,ρ))(h2:b ρ=some (.int y,ρ))(h3:c ρ=some (.int z,ρ))(hx:x<=y)(hy:y<=z):xa zz zz a b c ρ=some (.bl true,ρ):=by
 unfold xa;rw[h1];simp only[h2];have e1:zz (.int x) (.int y)=some (.bl true):=by show some (D.bl (decide (x<=y)))=_;rw[aM hx]
 have e2:zz (.int y) (.int z)=some (.bl true):=by show some (D.bl (decide (y<=z)))=_;rw[aM hy]
 simp only[e1,h3,e2]
theorem QX{b:FE}{x y:Int}(h1:a ρ=some (.int x,ρ))(h2:b ρ=some (.int y,ρ))(hx:x<=y):c2 zz a b ρ=some (.bl true,ρ):=tP h1 h2 (by
 show some (D.bl (decide (x<=y)))=_;rw[aM hx])
theorem ES(T:List Th)(hl:T.length<=1000)(h1:1<=(T.filter λt=>decide (t.k=.room)).length)(h5:(T.filter λt=>decide (t.k=.room)).length<=5)(hy:(T.filter λt=>decide (t.k=.you)).length=1)(h7:(T.filter λt=>t.k.pl).length<=7):
  yB [TD T]=some .non:=by
 let ρ:aU:=[.im (TD T),.im (.bl true)];refine zb (ρ:=ρ) rfl ?_;unfold yA;rw[sW (show _=some (Out.nx ρ) from(tU ((uk rfl).trans (zt thD T (ρ1:=[.im (TD T),.un]) rfl hl λt _=>⟨_,_,rfl,rfl,rfl⟩))).trans rfl)];rw[sW (vG (ρ1:=ρ) rfl)];rw[sW (vG (ρ1:=ρ) (zt thD T rfl hl λt _=>⟨[.im (thD t)],[.im (thD t)],rfl,sY (sV (uA rfl (yJ t)) (sV rfl rfl)) (Uh t),rfl⟩))];rw[sW (vG (ρ1:=ρ) (Gv (x:=1) (y:=(T.filter λt=>decide (t.k=.room)).length) (z:=5) rfl (sY (ds:=[TD T,.str Kd.room.s]) rfl (count_eq T hl .room)) rfl (by omega) (by omega)))];rw[sW (vG (ρ1:=ρ) (tP (ρ1:=ρ) (x:=.int (T.filter λt=>decide (t.k=.you)).length) (y:=.int 1) (sY (ds:=[TD T,.str Kd.you.s]) rfl (count_eq T hl .you)) rfl (by rw[hy];rfl)))];refine vG (ρ1:=ρ) (QX (x:=(T.filter λt=>t.k.pl).length) (y:=7) (uA (uO (sY rfl (zu T hl))) ?_) rfl (by omega));show some (D.int _)=_;rw[aj]
structure Mk where
 n:Str
 st:Int
 mo:Int
def mkD(m:Mk):L4.D:=.obj 1 ["name", "start", "most"] [.str m.n,.int m.st,.int m.mo]
def Mk.ok(m:Mk):Prop:=1<=m.mo/\m.mo<=3/\0<=m.st/\m.st<=m.mo
abbrev MD(M:List Mk):L4.D:=.lst (M.map mkD)
theorem Ju(m:Mk):tH tY "name" (mkD m)=some (.str m.n):=rfl
theorem LV(m:Mk)(h:m.ok):DP [mkD m]=some (.bl true):=by obtain⟨h1,h2,h3,h4⟩:=h;refine tp (ρ:=[.im (mkD m)]) rfl ?_;unfold DO;rw[sW (show _=some (Out.nx [.im (mkD m)]) from rfl)];exact tW ((uk (Gv (x:=1) (y:=m.mo) (z:=3) rfl rfl rfl h1 h2)).trans (Gv (x:=0) (y:=m.st) (z:=m.mo) rfl rfl rfl h3 h4))
theorem Gw(M:List Mk)(hl:M.length<=4)(h:∀m∈M,m.ok):zf [MD M]=some .non:=by
 let ρ:aU:=[.im (MD M),.im (.bl true)];refine zb (ρ:=ρ) rfl ?_;unfold ze;have e0:uK [MD M,yc]=some (.bl true):=by refine tp (ρ:=[.im (MD M),.im (.int 4)]) rfl ?_;refine tW ((uk rfl).trans (QX (x:=M.length) (y:=4) ?_ rfl (by omega)));refine uA rfl ?_;show some (D.int _)=_;rw[aj]
 rw[sW (show _=some (Out.nx ρ) from(tU ((uk (sY (ds:=[MD M,yc]) rfl e0)).trans (zt mkD M (ρ1:=[.im (MD M),.un]) rfl (by omega) λm hm=>⟨[.im (mkD m)],[.im (mkD m)],rfl,sY rfl (LV m (h m hm)),rfl⟩))).trans rfl)];exact vG (ρ1:=ρ) rfl
def rmL:aH:=["hall", "x", "cellar", "loft", "porch"]
def plL:List (Str×aH):=[("chest", ["old", "chest"]),("lamp", ["lamp", "red"]),("stone", ["red", "stone"]),("key", ["key"]),("itch", ["old", "red", "rag"]),("heretic", ["stone", "man"]),("others", ["book", "of", "old"])]
def mkL:aH:=["gate", "luck", "tide", "i"]
def nmL:aH:=rmL++("me" : Str)::plL.map bR++mkL
def Nm(x:Str):Prop:=x∈nmL
def isT:Option L4.D->Bool
 |some (.bl b)=>b
 |_=>false
theorem LW{o:Option L4.D}(h:isT o=true):o=some (.bl true):=by
 unfold isT at h;split at h
 ·rw[h]
 ·cases h
def isF:Option L4.D->Bool
 |some (.bl b)=>!b
 |_=>false
theorem YF{o:Option L4.D}(h:isF o=true):o=some (.bl false):=by
 unfold isF at h;split at h
 ·rw[eL]at h;rw[h]
 ·cases h
variable{x:Str}
theorem LX(h:Nm x):Bt [.str x]=some (.bl true):=LW (bp.mp (show (nmL.all λx=>isT (Bt [.str x]))=true by kernel_rfl) x h)
variable{l:aH}
theorem Cj(h:l.Nodup)(hl:l.length<=1000):vB [.lst (l.map D.str)]=some (.bl true):=by
 refine tp (ρ:=[.im (.lst (l.map D.str))]) rfl ?_;refine tW (tP (x:=.int l.length) (y:=.int l.length) (uA rfl (TR (Kz h hl))) (uA rfl ?_) ?_)
 ·show some (D.int _)=_;rw[aj]
 ·rw[yb];simp
theorem Gx(T:List Th)(M:List Mk)(hT:T.length<=400)(hM:M.length<=400)(hn:∀x∈T.map Th.n++M.map Mk.n,Nm x)(nd:(T.map Th.n++M.map Mk.n).Nodup):zh [TD T,MD M]=some .non:=by
 have hl:(T.map Th.n++M.map Mk.n).length<=1000:=by rw[aP,aj,aj];omega
 let ρ0:aU:=[.im (TD T),.im (MD M),.un];let ρ:aU:=[.im (TD T),.im (MD M),.im (.lst ((T.map Th.n++M.map Mk.n).map D.str))];refine zb (ρ:=ρ) rfl ?_;unfold zg;have e1:tN 1 [] (iL ab) (gN 0) uF (c1 (tH tY "name") ab) ρ0=some (T.map λt=>D.str t.n,ρ0):=wq thD (λt=>D.str t.n) T rfl (by omega) λt _=>⟨_,_,rfl,uA rfl (yI t),rfl⟩;have e2:tN 1 [] (iL ak) (gN 0) uF (c1 (tH tY "name") ab) ρ0=some (M.map λt=>D.str t.n,ρ0):=wq mkD (λt=>D.str t.n) M rfl (by omega) λt _=>⟨_,_,rfl,uA rfl (Ju t),rfl⟩;have e3:=tU (i:=2) (uO (xy (uO e1) (uO e2) (by rw[aj,aj];omega)));refine(sW (ρ':=ρ) (e3.trans (by
  have:(T.map λt=>D.str t.n)++(M.map λt=>D.str t.n)=(T.map Th.n++M.map Mk.n).map D.str:=by rw[bE,bc,bc];rfl
  rw[this];rfl))).trans ?_
 rw[sW (vG (ρ1:=ρ) (zt D.str (T.map Th.n++M.map Mk.n) rfl hl λx hx=>⟨_,_,rfl,sY rfl (LX (hn x hx)),rfl⟩))];exact vG (ρ1:=ρ) (sY rfl (Cj nd hl))
def rmN(T:List Th):aH:=(T.filter λt=>decide (t.k=.room)).map Th.n
def hdN(T:List Th):aH:=(T.filter λt=>t.k.hd).map Th.n
abbrev jK:=(cC (.str "room"))
theorem KQ(T:List Th)(hl:T.length<=1000)(hi:cV i ρ=some (TD T,ρ)):tN 1 [] (iL (cV i)) (gN 0) (cT (c2 (dEq false) (c1 (tH ue "kind") ab) jK)) (c1 (tH tY "name") ab) ρ=some ((rmN T).map D.str,ρ):=by
 have hs:iL (cV i) ρ=some (T.map thD,ρ):=by unfold iL;rw[hi]
 have:=x9 (k:=1) (cap:=[]) (g:=gN 0) (ft:=cT (c2 (dEq false) (c1 (tH ue "kind") ab) jK)) (fe:=c1 (tH tY "name") ab) thD (λt=>D.str t.n) (λt=>decide (t.k=.room)) T hs hl λt _=>⟨[.im (thD t)],[.im (thD t)],rfl,uL (tP (uA rfl (yJ t)) rfl (Gu t.k .room)),λ_=>⟨_,uA rfl (yI t),rfl⟩,λ_=>rfl⟩
 rw[this];unfold rmN;rw[bc];rfl
theorem LY(T:List Th)(hl:T.length<=1000)(hi:cV i ρ=some (TD T,ρ)):tN 1 [] (iL (cV i)) (gN 0) (cT (tT uX "can_hold" ab ui)) (c1 (tH tY "name") ab) ρ=some ((hdN T).map D.str,ρ):=by
 have hs:iL (cV i) ρ=some (T.map thD,ρ):=by unfold iL;rw[hi]
 have:=x9 (k:=1) (cap:=[]) (g:=gN 0) (ft:=cT (tT uX "can_hold" ab ui)) (fe:=c1 (tH tY "name") ab) thD (λt=>D.str t.n) (λt=>t.k.hd) T hs hl λt _=>⟨[.im (thD t)],[.im (thD t)],rfl,uL (uh (xs:=[.str t.n,.tup (t.w.map D.str),.str t.k.s,oS t.s]) (ys:=[]) rfl rfl rfl rfl (Ng t)),λ_=>⟨_,uA rfl (yI t),rfl⟩,λ_=>rfl⟩
 rw[this];unfold hdN;rw[bc];rfl
theorem yi(h:x∈l):uH [.str x,.lst (l.map D.str)]=some (.bl true):=by refine tp (ρ:=[.im (.str x),.im (.lst (l.map D.str))]) rfl ?_;refine tW ((uk rfl).trans (tP rfl rfl ?_));rw[xf];simp[h]
theorem He(dk rm:aH)(hl:dk.length<=1000)(nd:dk.Nodup)(h:∀x∈dk,x∈rm):Ah [.lst (dk.map D.str),.lst (rm.map D.str)]=some .non:=by let ρ0:aU:=[.im (.lst (dk.map D.str)),.im (.lst (rm.map D.str)),.un];let ρ:aU:=[.im (.lst (dk.map D.str)),.im (.lst (rm.map D.str)),.im (.bl true)];refine zb (ρ:=ρ) rfl ?_;unfold Ag;rw[sW (show _=some (Out.nx ρ) from(tU ((uk (ρ1:=ρ0) rfl).trans ((uk (zt D.str dk (ρ1:=ρ0) rfl hl λx hx=>⟨[.im (.str x),.im (.lst (rm.map D.str))],[.im (.str x),.im (.lst (rm.map D.str))],rfl,sY rfl (yi (h x hx)),rfl⟩)).trans (sY (ρ1:=ρ0) rfl (Cj nd hl))))).trans rfl)];exact vG (ρ1:=ρ) rfl
def Bv(T:List Th)(t:Th):Prop:=match t.k,t.s with
 |.room,none=>True
 |.room,some _=>False
 |_,none=>False
 |.you,some x=>x∈rmN T
 |_,some x=>x∈hdN T
theorem KR(T:List Th)(hl:T.length<=1000)(t:Th)(h:Bv T t):Cb [TD T,thD t]=some (.bl true):=by
 refine tp (ρ:=[.im (TD T),.im (thD t)]) rfl ?_;unfold Ca;obtain⟨n,w,k,s⟩:=t;have els:∀k:Kd,k≠.room->k≠.you->∀x,x∈hdN T->(sZ (sIf (cT (c2 (dEq false) (c1 (tH ue "kind") ak) jK)) (tE (c2 w6 (c1 (tH uP "start") ak) aF)) tL)
   (sZ (sIf (cT (c2 (dEq false) (c1 (tH ue "kind") ak) (cC (.str "you")))) (tE (sX uH (aCons (c1 (tH uP "start") ak) (aCons (cL (tN 1 [] (iL ab) (gN 0) (cT (c2 (dEq false) (c1 (tH ue "kind") ab) jK)) (c1 (tH tY "name") ab))) ui)))) tL)
   (tE (sX uH (aCons (c1 (tH uP "start") ak) (aCons (cL (tN 1 [] (iL ab) (gN 0) (cT (tT uX "can_hold" ab ui)) (c1 (tH tY "name") ab))) ui)))))) [.im (TD T),.im (thD ⟨n,w,k,some x⟩)]=some (.rt (.bl true) [.im (TD T),.im (thD ⟨n,w,k,some x⟩)]):=λk h1 h2 x hx=>by
  let ρ:aU:=[.im (TD T),.im (thD ⟨n,w,k,some x⟩)];rw[sW (show _=some (Out.nx ρ) from(ux (ρ':=ρ) (uL (tP (ρ1:=ρ) (ρ2:=ρ) (uA rfl (yJ _)) rfl ((Gu k .room).trans (by rw[aL h1]))))).trans rfl)];rw[sW (show _=some (Out.nx ρ) from(ux (ρ':=ρ) (uL (tP (ρ1:=ρ) (ρ2:=ρ) (uA rfl (yJ _)) rfl ((Gu k .you).trans (by rw[aL h2]))))).trans rfl)];exact tW (sY (sV (uA rfl (E7 _)) (sV (uO (LY T hl rfl)) rfl)) (yi hx))
 cases k with
 |room=>
  cases s with
  |none=>rfl
  |some x=>exact h.elim
 |you=>
  cases s with
  |none=>exact h.elim
  |some x=>let ρ:aU:=[.im (TD T),.im (thD ⟨n,w,.you,some x⟩)];rw[sW (show _=some (Out.nx ρ) from rfl)];refine tJ ((tV (ρ':=ρ) rfl).trans ?_);exact tW (sY (sV (uA rfl (E7 _)) (sV (uO (KQ T hl rfl)) rfl)) (yi h))
 |plain=>cases s with
  |none=>exact h.elim
  |some x=>exact els .plain (by decide) (by decide) x h
 |fixed=>cases s with
  |none=>exact h.elim
  |some x=>exact els .fixed (by decide) (by decide) x h
 |box=>cases s with
  |none=>exact h.elim
  |some x=>exact els .box (by decide) (by decide) x h
 |lamp=>cases s with
  |none=>exact h.elim
  |some x=>exact els .lamp (by decide) (by decide) x h
def kS(x:Str):Key:=Sum.inr x
variable{ks:List Key}{d:L4.D}
theorem KU{fk fv:FE}(h1:fv ρ=some (d,ρ))(h2:ρ[i]?=some (.dk ks ds))(h3:fk ρ=some (.str x,ρ))(hn:kS x∉ks)(hl:ks.length<1000)(he:ds.length=ks.length):
  xB i fk fv ρ=some (.nx (ρ.set i (.dk (ks++[kS x]) (ds++[d])))):=by
 have hk:EN ks (kS x)=false:=by unfold EN;rw[ji];intro z;obtain⟨y,hy,ey⟩:=dY.mp z;exact hn (by rw[<-bK ey];exact hy)
 unfold xB;rw[h1];simp only[h2,h3];rw[show zD (.str x)=some (kS x) from rfl];simp only;rw[af hl,af he,hk];rfl
section
variable{α:Type}{g:FG}{i:Nat}{fk fv:FE}
theorem zP(dd:α->L4.D)(kf:α->Str)(vf:α->L4.D)(st:List Key->List L4.D->Sl->aU)
  (hs:∀(a:α) (ks:List Key) (ds:List L4.D) (s:Sl),∃ρ1,g (dd a) (st ks ds s)=some ρ1/\fv ρ1=some (vf a,ρ1)/\ρ1[i]?=some (.dk ks ds)/\fk ρ1=some (.str (kf a),ρ1)/\∀ks' ds',∃s',ρ1.set i (.dk ks' ds')=st ks' ds' s'):
  ∀(l:List α) (ks:List Key) (ds:List L4.D) (s:Sl),(ks++l.map λa=>kS (kf a)).Nodup->ks.length+l.length<=1000->ds.length=ks.length->
   ∃s',forL g (xB i fk fv) (l.map dd) (st ks ds s)=some (.nx (st (ks++l.map λa=>kS (kf a)) (ds++l.map vf) s'))
 |[],ks,ds,s,_,_,_=>⟨s,by rw[d8,d8,d8,bG,bG];rfl⟩
 |a::l,ks,ds,s,nd,hl,he=>by
  obtain⟨ρ1,h1,h2,h3,h4,h5⟩:=hs a ks ds s;obtain⟨s1,h6⟩:=h5 (ks++[kS (kf a)]) (ds++[vf a]);rw[aO]at hl;have nd':((ks++[kS (kf a)])++l.map λa=>kS (kf a)).Nodup:=by rw[b9];exact nd
  have hn:kS (kf a)∉ks:=λz=>by rw[bT]at nd;exact nd.2.2 _ z _ (by rw[aK];exact aV) rfl
  obtain⟨s',h7⟩:=zP dd kf vf st hs l (ks++[kS (kf a)]) (ds++[vf a]) s1 nd' (by rw[aP,cB];omega) (by rw[aP,aP,he,cB,cB]);refine⟨s',?_⟩;rw[aK];unfold forL;rw[h1];simp only[KU h2 h3 h4 hn (by omega) he,h6];rw[h7,aK,aK,b9,b9];rfl
end
def nK(T:List Th):List Key:=T.map λt=>kS t.n
variable{b:Str}
theorem Gy{a:Str}(h:kS a=kS b):a=b:=jv h
variable{T:List Th}
theorem QY(h:(T.map Th.n).Nodup):(nK T).Nodup:=by have:=Bs h;rw[bc]at this;exact this
variable{t:Th}
theorem E8(h:(T.map Th.n).Nodup)(vf:Th->L4.D)(ht:t∈T):vU (nK T) (T.map vf) (kS t.n)=some (vf t):=by refine CN (QY h) ?_;unfold nK;rw[la];exact cQ (f:=λt=>(kS t.n,vf t)) ht
def Jv(T:List Th)(r:Str->Nat):Prop:=∀t∈T,r t.n<T.length/\∀p,t.s=some p->r p<r t.n/\∃u∈T,u.n=p
def stD(T:List Th):L4.D:=.dic (nK T) (T.map λt=>oS t.s)
theorem QZ(T:List Th)(hl:T.length<=1000)(nd:(T.map Th.n).Nodup)(r:Str->Nat)(hr:Jv T r)(t:Th)(ht:t∈T):xU [stD T,.str t.n]=some (.bl true):=by
 have loop:∀(m:Nat) (l:List L4.D),l.length=m->∀(a:Option Str) (s:Sl),(∀x,a=some x->(∃u∈T,u.n=x)/\r x<m)->
   (∃ρ,forL (gN 3) (sZ (sIf (cT (c2 w6 aq aF)) (tE cg) tL) (tZ 2 (c2 AA ab aq))) l [.im (stD T),.im (.str t.n),.im (oS a),s]=some (.rt (.bl true) ρ))\/
   (∃s',forL (gN 3) (sZ (sIf (cT (c2 w6 aq aF)) (tE cg) tL) (tZ 2 (c2 AA ab aq))) l [.im (stD T),.im (.str t.n),.im (oS a),s]=some (.nx [.im (stD T),.im (.str t.n),.im .non,s'])):=by
  intro m
  induction m with
  |zero=>
   intro l h a s ha;cases l with
   |cons d l=>cases h
   |nil=>
    cases a with
    |none=>exact .inr ⟨s,rfl⟩
    |some x=>exact ao (ha x rfl).2 (Nat.not_lt_zero _)
  |succ m ih=>
   intro l h a s ha;cases l with
   |nil=>cases h
   |cons d l=>
    cases a with
    |none=>refine .inl ⟨[.im (stD T),.im (.str t.n),.im .non,.im d],?_⟩;unfold forL;rw[show gN 3 d [.im (stD T),.im (.str t.n),.im (oS none),s]=some [.im (stD T),.im (.str t.n),.im .non,.im d] from rfl];rfl
    |some x=>
     obtain⟨⟨u,hu,rfl⟩,hx⟩:=ha x rfl;have e:sZ (sIf (cT (c2 w6 aq aF)) (tE cg) tL) (tZ 2 (c2 AA ab aq)) [.im (stD T),.im (.str t.n),.im (.str u.n),.im d]=some (.nx [.im (stD T),.im (.str t.n),.im (oS u.s),.im d]):=by refine(sW (ρ':=[.im (stD T),.im (.str t.n),.im (.str u.n),.im d]) rfl).trans ?_;exact(tU (tP rfl rfl (E8 nd (λt=>oS t.s) hu))).trans rfl
     have key:=ih l (by simpa using h) u.s (.im d) λy hy=>by obtain⟨h1,h2⟩:=hr u hu;obtain⟨h3,h4⟩:=h2 y hy;exact⟨h4,by omega⟩
     unfold forL;rw[show gN 3 d [.im (stD T),.im (.str t.n),.im (oS (some u.n)),s]=some [.im (stD T),.im (.str t.n),.im (.str u.n),.im d] from rfl];simp only[e];exact key
 obtain⟨h1,h2⟩:=hr t ht;have l0:=loop T.length (EM 0 T.length) (by unfold EM;simp) t.s .un λx hx=>⟨(h2 x hx).2,by have:=(h2 x hx).1;omega⟩;have e0:tZ 2 (c2 AA ab ak) [.im (stD T),.im (.str t.n),.un,.un]=some (.nx [.im (stD T),.im (.str t.n),.im (oS t.s),.un]):=(tU (tP rfl rfl (E8 nd (λt=>oS t.s) ht))).trans rfl;have e1:iR1 (c1 vN ab) [.im (stD T),.im (.str t.n),.im (oS t.s),.un]=some (EM 0 T.length,[.im (stD T),.im (.str t.n),.im (oS t.s),.un]):=by unfold iR1;rw[show c1 vN ab [.im (stD T),.im (.str t.n),.im (oS t.s),.un]=some (.int T.length,[.im (stD T),.im (.str t.n),.im (oS t.s),.un]) from uA rfl (by show some (D.int _)=_;unfold nK;rw[aj])];simp only;rw[af (by omega),ig]
 rcases l0 with ⟨ρ,q⟩|⟨s',q⟩
 ·refine tp (ρ:=ρ) rfl ?_;refine(sW e0).trans (tJ ((uM e1).trans q))
 ·refine tp (ρ:=[.im (stD T),.im (.str t.n),.im .non,s']) rfl ?_;refine(sW e0).trans ((sW ((uM e1).trans q)).trans rfl)
theorem ET(T:List Th)(hl:T.length<=900)(nd:(T.map Th.n).Nodup)(r:Str->Nat)(hr:Jv T r)(hs:∀t∈T,Bv T t):yD [TD T]=some .non:=by
 obtain⟨s',e1⟩:=zP (g:=gN 2) (i:=1) (fk:=c1 (tH tY "name") aq) (fv:=c1 (tH uP "start") aq) thD Th.n (λt=>oS t.s) (λks ds s=>[.im (TD T),.dk ks ds,s])
  (λt ks ds s=>⟨[.im (TD T),.dk ks ds,.im (thD t)],rfl,uA rfl (E7 t),rfl,uA rfl (yI t),λks' ds'=>⟨_,rfl⟩⟩) T [] [] .un (by rw[bU];exact QY nd) (by simp;omega) rfl
 refine zb (ρ:=[.im (TD T),.im (stD T),s']) rfl ?_;unfold yC;refine(sW (vG (ρ1:=[.im (TD T),.un,.un]) (zt thD T rfl (by omega) λt ht=>⟨[.im (thD t),.im (TD T)],[.im (thD t),.im (TD T)],rfl,sY rfl (KR T (by omega) t (hs t ht)),rfl⟩))).trans ?_;refine(sW (ρ':=[.im (TD T),.dk [] [],.un]) rfl).trans ?_;refine(sW ((uM rfl).trans e1)).trans ?_;have src:iD (cFz 1) [.im (TD T),.dk ([]++T.map λa=>kS a.n) ([]++T.map λt=>oS t.s),s']=some ((T.map λt=>D.str t.n),[.im (TD T),.im (stD T),s']):=by rw[bU,bU];unfold iD;rw[show cFz 1 [.im (TD T),.dk (T.map λa=>kS a.n) (T.map λt=>oS t.s),s']=some (stD T,[.im (TD T),.im (stD T),s']) from rfl];show (if (nK T).length=(T.map λt=>oS t.s).length then some ((nK T).map WX,_)else none)=_;unfold nK;rw[af (by rw[aj,aj]),bc];rfl
 exact vG (ρ1:=[.im (TD T),.im (stD T),s']) (zt (λt:Th=>D.str t.n) T src (by omega) λt ht=>⟨[.im (.str t.n),.im (stD T)],[.im (.str t.n),.im (stD T)],rfl,sY rfl (QZ T (by omega) nd r hr t ht),rfl⟩)
def Jw(l:List Th)(r:Th):Prop:=(r.k=.room/\r.s=none)\/(r.k=.you/\∃u∈l,r.s=some u.n/\u.k=.room)\/(r.k.pl=true/\∃u∈l,r.s=some u.n/\u.k.hd=true)
inductive Ord:List Th->Prop
 |nil:Ord []
 |snoc {l:List Th} {r:Th} (h:Ord l) (h':Jw l r):Ord (l++[r])
theorem Jw.mono{l l':List Th}{r:Th}(h:Jw l r)(hs:∀u∈l,u∈l'):Jw l' r:=by
 rcases h with h|⟨h1,u,h2,h3⟩|⟨h1,u,h2,h3⟩
 ·exact .inl h
 ·exact .inr (.inl ⟨h1,u,hs u h2,h3⟩)
 ·exact .inr (.inr ⟨h1,u,hs u h2,h3⟩)
theorem Ord.all{l:List Th}(h:Ord l):∀r∈l,Jw l r:=by
 induction h with
 |nil=>exact λr hr=>(dZ hr).elim
 |snoc h h' ih=>
  intro r hr;rcases bC.mp hr with hr|hr
  ·exact(ih r hr).mono λu hu=>cj _ hu
  ·rw[aR]at hr;subst hr;exact h'.mono λu hu=>cj _ hu
theorem Jw.start{l:List Th}{r:Th}(h:Jw l r){p:Str}(hp:r.s=some p):∃u∈l,u.n=p:=by
 rcases h with ⟨_,h⟩|⟨_,u,h2,h3,_⟩|⟨_,u,h2,h3,_⟩
 ·rw[h]at hp;cases hp
 ·rw[h3]at hp;cases hp;exact⟨u,h2,rfl⟩
 ·rw[h3]at hp;cases hp;exact⟨u,h2,rfl⟩
theorem Ord.rank{l:List Th}(h:Ord l):(l.map Th.n).Nodup->∃rk:Str->Nat,∀t∈l,rk t.n<l.length/\∀p,t.s=some p->rk p<rk t.n/\∃u∈l,u.n=p:=by
 induction h with
 |nil=>exact λ_=>⟨λ_=>0,λt ht=>(dZ ht).elim⟩
 |@snoc l r h h' ih=>
  intro nd;rw[bE,bT]at nd;obtain⟨rk,hk⟩:=ih nd.1;have ne:∀u∈l,u.n≠r.n:=λu hu z=>nd.2.2 _ (cQ hu) _ (by simp) z;refine⟨λx=>if x=r.n then l.length else rk x,λt ht=>?_⟩;rw[aP,cB];dsimp only;rcases bC.mp ht with ht|ht
  ·obtain⟨h1,h2⟩:=hk t ht;rw[ag (ne t ht)];refine⟨by omega,λp hp=>?_⟩;obtain⟨h3,u,hu,rfl⟩:=h2 p hp;rw[ag (ne u hu)];exact⟨h3,u,cj _ hu,rfl⟩
  ·rw[aR]at ht;subst ht;rw[af rfl];refine⟨by omega,λp hp=>?_⟩;obtain⟨u,hu,rfl⟩:=h'.start hp;rw[ag (ne u hu)];exact⟨(hk u hu).1,u,cj _ hu,rfl⟩
theorem LZ(k:Nat)(h:k<=ds.length):cutD ds none (some (k:Int))=ds.take k:=by unfold cutD;rw[HT.JS,HT.Mw,oW h,List.drop_zero,Nat.sub_zero]
theorem YG(k:Nat)(h:k<=ds.length):cutD ds (some (k:Int)) none=ds.drop k:=by unfold cutD;rw[HT.JS,HT.Mw,oW h,i8 (by rw[gn];omega)]
def wdL:List (Str×aH):=rmL.map (λx:Str=>(x,([x,"place"]:aH)))++(("me", ["me", "self"]):Str×aH)::plL
def Th.nw(t:Th):Str×aH:=(t.n,t.w)
def Bw(t:Th):Prop:=t.nw∈wdL/\(t.k.pl=true->t.nw∈plL)
theorem Jx(h:Bw t):yY [.tup (t.w.map D.str)]=some (.bl true):=LW (bp.mp (show (wdL.all λq=>isT (yY [.tup (q.2.map D.str)]))=true by kernel_rfl) t.nw h.1)
theorem L0(t u:Th)(ht:t.nw∈plL)(hu:u.nw∈plL)(hne:u.n≠t.n):zN [.tup (u.w.map D.str),.tup (t.w.map D.str)]=some (.bl false):=by
 have h:=bp.mp (bp.mp (show (plL.all λp=>plL.all λq=>decide (q.1=p.1)||isF (zN [.tup (q.2.map D.str),.tup (p.2.map D.str)]))=true by kernel_rfl) t.nw ht) u.nw hu;rw[jq]at h;rcases h with h|h
 ·exact ao (bK h) hne
 ·exact YF h
theorem Hf(P:List Th)(hl:P.length<=900)(hw:∀t∈P,t.nw∈plL)(t:Th)(ht:t.nw∈plL):xW [TD P,thD t]=some (.bl true):=by
 let O:=P.filter λu=>!decide (u.n=t.n);let ρ:aU:=[.im (TD P),.im (thD t),.im (TD O)];have hO:O.length<=900:=bN (cP _ _) hl;refine tp (ρ:=ρ) rfl ?_;unfold xV;refine(sW (ρ':=ρ) ((tU (uO (x9 thD thD (λu=>!decide (u.n=t.n)) P (ρ1:=[.im (TD P),.im (thD t),.un]) rfl (by omega) λu _=>⟨[.im (thD u),.im (thD t)],[.im (thD u),.im (thD t)],rfl,uL (tP (uA rfl (yI u)) (uA rfl (yI t)) (vm true u.n t.n)),λ_=>⟨_,rfl,rfl⟩,λ_=>rfl⟩))).trans rfl)).trans ?_;have e:c1 EO (cL (tN 1 [1] (iL aq) (gN 0) uF (sX zN (aCons (c1 (tH vL "words") ab) (aCons (c1 (tH vL "words") ak) ui))))) ρ=some (.bl false,ρ):=
  QW thD O rfl (by omega) λu hu=>⟨[.im (thD u),.im (thD t)],[.im (thD u),.im (thD t)],rfl,sY (sV (uA rfl (Jt u)) (sV (uA rfl (Jt t)) rfl)) (L0 t u ht (hw u (bo.mp hu).1) (by simpa using (bo.mp hu).2)),rfl⟩
 refine tW ?_;unfold G0;rw[e];rfl
theorem GA(T:List Th)(hl:T.length<=900)(hw:∀t∈T,Bw t):vv [TD T]=some .non:=by let P:=T.filter λt=>t.k.pl;have hP:P.length<=900:=bN (cP _ _) hl;have hwP:∀t∈P,t.nw∈plL:=λt ht=>(hw t (bo.mp ht).1).2 (bo.mp ht).2;let ρ:aU:=[.im (TD T),.im (TD P)];refine zb (ρ:=ρ) rfl ?_;unfold vt;refine(sW (vG (ρ1:=[.im (TD T),.un]) (zt thD T rfl (by omega) λt ht=>⟨[.im (thD t)],[.im (thD t)],rfl,sY (sV (uA rfl (Jt t)) rfl) (Jx (hw t ht)),rfl⟩))).trans ?_;refine(sW (ρ':=ρ) ((tU (uO (sY rfl (zu T (by omega))))).trans rfl)).trans ?_;exact vG (ρ1:=ρ) (zt thD P rfl (by omega) λt ht=>⟨[.im (thD t),.im (TD P)],[.im (thD t),.im (TD P)],rfl,sY rfl (Hf P hP hwP t (hwP t ht)),rfl⟩)
theorem Ni{b:Bool}(h:e ρ=some (.bl b,ρ1)):G0 e ρ=some (.bl !b,ρ1):=by unfold G0;rw[h]
theorem GB{m:aH}(hd:d=.lst (m.map D.str)\/d=.tup (m.map D.str))(hl:l.length<=900)(h:∀x∈l,x∉m):xQ [.lst (l.map D.str),d]=some (.bl true):=by
 let ρ:aU:=[.im (.lst (l.map D.str)),.im d];refine tp (ρ:=ρ) rfl ?_;have e:c1 EO (cL (tN 1 [1] (iL ab) (gN 0) uF (c2 (dIn false) ab ak))) ρ=some (.bl false,ρ):=QW D.str l rfl (by omega) λx hx=>⟨[.im (.str x),.im d],[.im (.str x),.im d],rfl,tP rfl rfl (by
  rcases hd with rfl|rfl
  ·rw[xf];simp[h x hx]
  ·rw[QD];simp[h x hx]),rfl⟩
 exact tW (Ni e)
structure Vb where
 n:Str
 o:aH
 f:Str
 j:Option Str
def vbO(v:Vb):L4.D:=.obj 2 ["name", "others", "form", "joining"] [.str v.n,.tup (v.o.map D.str),.str v.f,oS v.j]
def v9:List Vb:=[⟨"take", [],"one", none⟩,⟨"drop", [],"one", none⟩,⟨"open", [],"one", none⟩,⟨"shut", [],"one", none⟩,⟨"light", [],"one", none⟩,⟨"douse", [],"one", none⟩,⟨"put", [],"two", some "in"⟩,⟨"go", [],"way", none⟩,⟨"wait", [],"alone", none⟩]
abbrev VD(V:List Vb):L4.D:=.lst (V.map vbO)
theorem Q0:xi []=some (v9.map vbO):=by kernel_rfl
def Vb.ws(v:Vb):aH:=v.n::v.o
def vW:aH:=v9.flatMap Vb.ws
def bW:aH:=["to", "in", "north", "up", "outside"]
theorem GE:xJ [VD []]=some .non:=by kernel_rfl
theorem U8:(v9.flatMap Vb.ws).Nodup:=by decide +kernel
structure Wy where
 r:Str
 w:Str
 g:Str
 m:Option Str
def wyO(w:Wy):L4.D:=.tup [.str w.r,.str w.w,.str w.g,oS w.m]
abbrev WD(W:List Wy):L4.D:=.lst (W.map wyO)
def mkN(T:List Th)(M:List Mk):aH:=(T.filter λt=>t.k.mk).map Th.n++M.map Mk.n
structure DT(T:List Th)(M:List Mk)(w:Wy):Prop where
 hr:w.r∈rmN T
 hw:w.w∈(["north", "up", "outside"]:aH)
 hg:w.g∈rmN T
 hm:∀x,w.m=some x->x∈mkN T M
theorem aaE(l:List L4.D)(n:Int)(h:(l.length:Int)<=n):uK [.lst l,.int n]=some (.bl true):=by
 have e:uK [.lst l,.int n]=some (.bl (decide ((l.length:Int)<=n))):=by kernel_rfl
 rw[e,aM h]
variable{e':FE}
theorem Ui(h1:e ρ=some (.bl false,ρ1)):cOr e e' ρ=e' ρ1:=by unfold cOr;rw[h1]
variable{M:List Mk}
theorem OI{w:Wy}(h:DT T M w):Ge [wyO w,.lst ((rmN T).map D.str),.lst ((mkN T M).map D.str)]=some (.bl true):=by
 let R:L4.D:=.lst ((rmN T).map D.str);let K:L4.D:=.lst ((mkN T M).map D.str);let ρ:aU:=[.im (wyO w),.im R,.im K,.un];let σ:aU:=[.im (wyO w),.im R,.im K,.im (.bl true)];refine tp (ρ:=σ) rfl ?_;unfold Gd;refine(sW (ρ':=ρ) rfl).trans ?_;have e3:cOr (c2 w6 (c2 dIx ab fw) aF) (sX uH qG) ρ=some (.bl true,ρ):=by
  obtain⟨r,x,g,m⟩:=w;cases m with
  |none=>rfl
  |some y=>exact(Ui (ρ1:=ρ) rfl).trans (sY (ds:=[.str y,K]) rfl (yi (h.hm y rfl)))
 refine(sW (ρ':=σ) ((tU e3).trans rfl)).trans (tW ?_);have ew:zI [.str w.w]=some (.bl true):=LW (bp.mp (show ((["north", "up", "outside"]:aH).all λx=>isT (zI [.str x]))=true by kernel_rfl) w.w h.hw);exact(uk (sY (ds:=[.str w.r,R]) rfl (yi h.hr))).trans ((uk (sY (ds:=[.str w.w]) rfl ew)).trans ((uk (sY (ds:=[.str w.g,R]) rfl (yi h.hg))).trans rfl))
theorem Nj:∀W:List Wy,xt (W.map λw=>D.tup [.str w.r,.str w.w])=some (W.map λw=>[w.r,w.w])
 |[]=>rfl
 |w::W=>by rw[aK];unfold xt;rw[Nj W];rfl
theorem Hg{W:List Wy}(hl:W.length<=8)(h:∀w∈W,DT T M w)(nd:(W.map λw=>[w.r,w.w]).Nodup):Aj [WD W,.lst ((rmN T).map D.str),.lst ((mkN T M).map D.str)]=some .non:=by
 let R:L4.D:=.lst ((rmN T).map D.str);let K:L4.D:=.lst ((mkN T M).map D.str);let ρ:aU:=[.im (WD W),.im R,.im K,.un];let σ:aU:=[.im (WD W),.im R,.im K,.im (.bl true)];refine zb (ρ:=σ) rfl ?_;unfold Ai;refine(sW (ρ':=σ) ((tU ((uk (sY (ds:=[WD W,A5]) rfl (aaE _ _ (by rw[aj];omega)))).trans (zt wyO W (ρ1:=ρ) rfl (by omega) λw hw=>⟨[.im (wyO w),.im R,.im K],[.im (wyO w),.im R,.im K],rfl,sY rfl (OI (h w hw)),rfl⟩))).trans rfl)).trans ?_;refine(sW (vG (ρ1:=σ) rfl)).trans (vG (ρ1:=σ) (sY (sV (uO (wq wyO (λw=>.tup [.str w.r,.str w.w]) W (ρ1:=σ) rfl (by omega) λw _=>⟨[.im (wyO w)],[.im (wyO w)],rfl,rfl,rfl⟩)) rfl) ?_));refine tp (ρ:=[.im (.lst (W.map λw:Wy=>D.tup [.str w.r,.str w.w]))]) rfl (tW (tP (x:=.int W.length) (y:=.int W.length) (uA rfl ?_) (uA rfl ?_) ?_))
 ·have e0:vO (W.map λw=>D.tup [.str w.r,.str w.w])=none\/vO (W.map λw=>D.tup [.str w.r,.str w.w])=some (.int W.length):=by
   cases W with
   |nil=>exact .inr rfl
   |cons w W=>exact .inl rfl
  show (match vO (W.map λw:Wy=>D.tup [.str w.r,.str w.w])with|some r=>some r|none=>B6 (W.map λw:Wy=>D.tup [.str w.r,.str w.w]))=_;rcases e0 with e0|e0
  ·rw[e0];show B6 _=_;unfold B6;rw[Nj];dsimp only;rw[af ⟨nd,by rw[aj];exact hl⟩,aj]
  ·rw[e0]
 ·show some (D.int _)=_;rw[aj]
 ·rw[yb];simp
theorem YH(h:t.nw∈plL):t.w.length<=3:=bK (bp.mp (show (plL.all λq=>decide (q.2.length<=3))=true by kernel_rfl) t.nw h)
theorem GF{a b c s5 s6 s7:Sl}:∀(P:List Th) (acc:aH) (s:Sl),acc.length+3 * P.length<=900->(∀t∈P,t.nw∈plL)->
  ∃s',forL (gN 4) (uf (AY 3 (c1 (tH vL "words") aw))) (P.map thD) [a,b,c,.ls (acc.map D.str),s,s5,s6,s7]=some (.nx [a,b,c,.ls ((acc++P.flatMap Th.w).map D.str),s',s5,s6,s7])
 |[],acc,s,_,_=>⟨s,by simp;rfl⟩
 |t::P,acc,s,hl,hw=>by
  have h3:=YH (hw t aV);rw[aO]at hl;obtain⟨s',e⟩:=GF P (acc++t.w) (.im (thD t)) (by rw[aP];omega) λu hu=>hw u (ba _ hu);refine⟨s',?_⟩;rw[aK];unfold forL;have e1:uf (AY 3 (c1 (tH vL "words") aw)) [a,b,c,.ls (acc.map D.str),.im (thD t),s5,s6,s7]=some (.nx [a,b,c,.ls ((acc++t.w).map D.str),.im (thD t),s5,s6,s7]):=by refine(uN (d:=.non) (ρ':=[a,b,c,.ls ((acc++t.w).map D.str),.im (thD t),s5,s6,s7]) ?_);unfold AY;show (if (acc.map D.str).length+(t.w.map D.str).length<=1000 then some (D.non,[a,b,c,.ls (acc.map D.str++t.w.map D.str),.im (thD t),s5,s6,s7])else none)=_;rw[af (by rw[aj,aj];omega),bE]
  rw[show gN 4 (thD t) [a,b,c,.ls (acc.map D.str),s,s5,s6,s7]=some [a,b,c,.ls (acc.map D.str),.im (thD t),s5,s6,s7] from rfl];simp only[e1];rw[e,fI,b9]
theorem Nk{a b c s3 s4 s7:Sl}:∀(V:List Vb) (acc:aH) (s:Sl),acc.length+3 * V.length<=900->(∀v∈V,v.o.length<=2)->
  ∃s',forL (gN 6) (uf (AY 5 (D8 (tR jQ) (c1 (tH xD "others") bL)))) (V.map vbO) [a,b,c,s3,s4,.ls (acc.map D.str),s,s7]=some (.nx [a,b,c,s3,s4,.ls ((acc++V.flatMap Vb.ws).map D.str),s',s7])
 |[],acc,s,_,_=>⟨s,by simp;rfl⟩
 |v::V,acc,s,hl,hw=>by
  have h3:=hw v aV;rw[aO]at hl;have lw:v.ws.length<=3:=by unfold Vb.ws;rw[aO];omega
  obtain⟨s',e⟩:=Nk (a:=a) (b:=b) (c:=c) (s3:=s3) (s4:=s4) (s7:=s7) V (acc++v.ws) (.im (vbO v)) (by rw[aP];omega) λu hu=>hw u (ba _ hu);refine⟨s',?_⟩;rw[aK];unfold forL;let ρ:aU:=[a,b,c,s3,s4,.ls (acc.map D.str),.im (vbO v),s7];have e0:D8 (tR jQ) (c1 (tH xD "others") bL) ρ=some (.tup (v.ws.map D.str),ρ):=by show (if ([]:List L4.D).length+(v.o.map D.str).length<=900 then some (D.tup (.str v.n::[]++v.o.map D.str),ρ)else none)=_;rw[af (by rw[aj];simp only[dw];omega)];rfl
  have e1:uf (AY 5 (D8 (tR jQ) (c1 (tH xD "others") bL))) ρ=some (.nx [a,b,c,s3,s4,.ls ((acc++v.ws).map D.str),.im (vbO v),s7]):=by refine uN (d:=.non) ?_;unfold AY;rw[e0];show (if (acc.map D.str).length+(v.ws.map D.str).length<=1000 then some (D.non,[a,b,c,s3,s4,.ls (acc.map D.str++v.ws.map D.str),.im (vbO v),s7])else none)=_;rw[af (by rw[aj,aj];omega),bE]
  rw[show gN 6 (vbO v) [a,b,c,s3,s4,.ls (acc.map D.str),s,s7]=some ρ from rfl];simp only[e1];rw[e,fI,b9]
def jsN(V:List Vb):aH:=V.filterMap Vb.j
theorem v_o2:∀v∈v9,v.o.length<=2:=λv hv=>bK (bp.mp (show (v9.all λv=>decide (v.o.length<=2))=true by kernel_rfl) v hv)
theorem aaF(V:List Vb)(hl:V.length<=900)(h2:cV 2 ρ=some (VD V,ρ)):tN 1 [] (iL aq) (gN 0) (cT (c2 uV (c1 (tH vV "joining") ab) aF)) (c1 (tH vV "joining") ab) ρ=some ((jsN V).map D.str,ρ):=by
 have hs:iL aq ρ=some (V.map vbO,ρ):=EH h2;refine(x9 (k:=1) (cap:=[]) (g:=gN 0) (ft:=cT (c2 uV (c1 (tH vV "joining") ab) aF)) (fe:=c1 (tH vV "joining") ab) vbO (λv=>oS v.j) (λv=>v.j.isSome) V hs (by omega) λv _=>⟨[.im (vbO v)],[.im (vbO v)],rfl,?_,λ_=>⟨[.im (vbO v)],rfl,rfl⟩,λ_=>rfl⟩).trans ?_
 ·obtain⟨n,o,f,j⟩:=v;cases j<;>rfl
 ·congr 2;unfold jsN;clear hs h2 hl
  induction V with
  |nil=>rfl
  |cons v V ih=>
   obtain⟨n,o,f,j⟩:=v;cases j with
   |none=>rw[mV (by simp),List.filterMap_cons_none rfl];exact ih
   |some x=>rw[j6 (by simp)];exact bH (D.str x::·) ih
theorem GH{W:List Wy}(hl:T.length<=200)(hw:∀t∈T,Bw t)(hW:W.length<=8)(ww:∀w∈W,w.w∈(["north", "up", "outside"]:aH)):vC [TD T,WD W,VD v9]=some .non:=by
 let V:=v9;have lV:V.length<=15:=by decide
 let P:=T.filter λt=>t.k.pl;have hP:P.length<=200:=bN (cP _ _) hl;have hwP:∀t∈P,t.nw∈plL:=λt ht=>(hw t (bo.mp ht).1).2 (bo.mp ht).2;let A:Sl:=.im (TD T);let B:Sl:=.im (WD W);let C:Sl:=.im (VD V);obtain⟨s',e1⟩:=GF (a:=A) (b:=B) (c:=C) (s5:=.un) (s6:=.un) (s7:=.un) P [] .un (by simp;omega) hwP;let O:=P.flatMap Th.w;let U:=V.flatMap Vb.ws;let m1:Sl:=.ls (O.map D.str);obtain⟨z,e2⟩:=Nk (a:=A) (b:=B) (c:=C) (s3:=m1) (s4:=s') (s7:=.un) V [] .un (by simp;omega) v_o2;let bt:aH:=jsN V++W.map Wy.w;let Z:Sl:=.im (.lst (bt.map D.str));have lU:U.length<=100:=by exact c6 (by kernel_rfl)
 have lJ:(jsN V).length<=15:=bN (List.length_filterMap_le _ _) lV;have lB:bt.length<=100:=by show (jsN V++W.map Wy.w).length<=100;rw[aP,aj];omega
 have bIn:∀x∈bt,x∈bW:=λx hx=>by
  rcases bC.mp hx with hx|hx
  ·obtain⟨v,hv,e⟩:=ia.mp hx;have a:=bp.mp (show (v9.all λv=>match v.j with|some x=>decide (x∈bW)|none=>true)=true by kernel_rfl) v hv;rw[e]at a;exact bK a
  ·obtain⟨w,hw,rfl⟩:=az.mp hx;exact(show ∀x∈(["north", "up", "outside"]:aH),x∈bW by decide) _ (ww w hw)
 have oIn:∀x∈O,x∈plL.flatMap bw:=λx hx=>by obtain⟨t,ht,hxt⟩:=gr.mp hx;exact gr.mpr ⟨t.nw,hwP t ht,hxt⟩
 have uIn:∀x∈U,x∈vW:=λx hx=>hx;have s1:∀x∈vW++bW,x∉plL.flatMap bw:=by decide +kernel
 have s2:∀x∈vW++bW,x∉(["the", "a", "undo", "restart"]:aH):=by decide +kernel
 have s3:∀x∈bW,x∉vW:=by decide +kernel
 have ub:∀x∈U++bt,x∈vW++bW:=λx hx=>by
  rcases bC.mp hx with hx|hx
  ·exact cj _ (uIn x hx)
  ·exact bP _ (bIn x hx)
 have lUB:(U++bt).length<=900:=by rw[aP];omega
 let UL:L4.D:=.lst (U.map D.str);refine zb (ρ:=[A,B,C,.im (.lst (O.map D.str)),s',.im UL,z,Z]) rfl ?_;unfold wK;refine(sW (ρ':=[A,B,C,.ls [],.un,.un,.un,.un]) rfl).trans ?_;refine(sW (ρ':=[A,B,C,m1,s',.un,.un,.un]) ((uM (ds:=P.map thD) (ρ1:=[A,B,C,.ls [],.un,.un,.un,.un]) ?_).trans e1)).trans ?_
 ·unfold iL;rw[uO (sY (g:=we) (ds:=[TD T]) (ρ1:=[A,B,C,.ls [],.un,.un,.un,.un]) rfl (zu T (by omega)))]
 refine(sW (ρ':=[A,B,C,m1,s',.ls [],.un,.un]) rfl).trans ?_;refine(sW (ρ':=[A,B,C,m1,s',.ls (U.map D.str),z,.un]) ((uM (ds:=V.map vbO) (ρ1:=[A,B,C,m1,s',.ls [],.un,.un]) rfl).trans e2)).trans ?_;refine(sW (ρ':=[A,B,C,m1,s',.ls (U.map D.str),z,Z]) ((tU (uO (xy (uO (aaF V (by omega) rfl)) (uO (wq wyO (λw=>.str w.w) W (ρ1:=[A,B,C,m1,s',.ls (U.map D.str),z,.un]) rfl (by omega) λw _=>⟨[.im (wyO w)],[.im (wyO w)],rfl,rfl,rfl⟩)) (by rw[aj,aj];omega)))).trans ?_)).trans ?_
 ·show some (Out.nx [A,B,C,m1,s',.ls (U.map D.str),z,.im (.lst ((jsN V).map D.str++W.map λw=>.str w.w))])=_;rw[show (jsN V).map D.str++(W.map λw=>D.str w.w)=bt.map D.str by show _=(jsN V++W.map Wy.w).map D.str;rw[bE,bc];rfl]
 refine(sW (vG (ρ1:=[A,B,C,m1,s',.im UL,z,Z]) (sY (ds:=[UL]) rfl (Cj U8 (by omega))))).trans ?_;have ca:∀(q:Sl),cL (w9 (cFz 5) bI) [A,B,C,q,s',.im UL,z,Z]=some (.lst ((U++bt).map D.str),[A,B,C,q,s',.im UL,z,Z]):=λq=>(uO (xy (xs:=U.map D.str) (ys:=bt.map D.str) (ρ1:=[A,B,C,q,s',.im UL,z,Z]) rfl rfl (by rw[aj,aj];omega))).trans (by rw[<-bE]);refine(sW (vG (ρ1:=[A,B,C,.im (.lst (O.map D.str)),s',.im UL,z,Z]) (sY (sV (ca m1) (sV rfl rfl)) (GB (l:=U++bt) (m:=O) (.inl rfl) lUB λx hx ho=>s1 x (ub x hx) (oIn x ho))))).trans ?_;refine(sW (vG (ρ1:=[A,B,C,.im (.lst (O.map D.str)),s',.im UL,z,Z]) (sY (sV (ca _) (sV rfl rfl)) (GB (l:=U++bt) (m:=["the", "a", "undo", "restart"]) (.inr rfl) lUB λx hx=>s2 x (ub x hx))))).trans ?_;exact vG (ρ1:=[A,B,C,.im (.lst (O.map D.str)),s',.im UL,z,Z]) (sY (sV rfl (sV rfl rfl)) (GB (l:=bt) (m:=U) (.inl rfl) (by omega) λx hx hu=>s3 x (bIn x hx) (uIn x hu)))
structure Good(T:List Th)(M:List Mk)(dk:aH)(W:List Wy):Prop where
 len:T.length<=13
 r1:1<=(T.filter λt=>decide (t.k=.room)).length
 r5:(T.filter λt=>decide (t.k=.room)).length<=5
 y1:(T.filter λt=>decide (t.k=.you)).map Th.n=(["me"]:aH)
 p7:(T.filter λt=>t.k.pl).length<=7
 m4:M.length<=4
 mo:∀m∈M,m.ok
 nm:∀x∈T.map Th.n++M.map Mk.n,Nm x
 nd:(T.map Th.n++M.map Mk.n).Nodup
 st:∀t∈T,Bv T t
 rk:∃r,Jv T r
 wd:∀t∈T,Bw t
 d0:dk.length<=5
 d1:dk.Nodup
 d2:∀x∈dk,x∈rmN T
 w8:W.length<=8
 wo:∀w∈W,DT T M w
 wn:(W.map λw=>[w.r,w.w]).Nodup
section
variable{T:List Th}{M:List Mk}{dk:aH}{W:List Wy}
theorem Good.ndT(g:Good T M dk W):(T.map Th.n).Nodup:=(bT.mp g.nd).1
theorem BW(T:List Th)(M:List Mk)(hl:T.length<=200)(hM:M.length<=4):wg [TD T,MD M]=some ((mkN T M).map D.str):=by
 let ρ:aU:=[.im (TD T),.im (MD M)];have h:=cP (λt:Th=>t.k.mk) T;refine(ym (ρ:=ρ) rfl (wa (xy (uO (x9 thD (λt=>D.str t.n) (λt=>t.k.mk) T (ρ1:=ρ) rfl (by omega) λt _=>⟨[.im (thD t)],[.im (thD t)],rfl,uL (uh (xs:=[.str t.n,.tup (t.w.map D.str),.str t.k.s,oS t.s]) (ys:=[]) rfl rfl rfl rfl (Nh t)),λ_=>⟨_,uA rfl (yI t),rfl⟩,λ_=>rfl⟩))
  (uO (wq mkD (λt=>D.str t.n) M rfl (by omega) λt _=>⟨_,_,rfl,uA rfl (Ju t),rfl⟩)) (by rw[aj,aj];omega)))).trans ?_
 unfold mkN;rw[bE,bc,bc];rfl
theorem GK(g:Good T M dk W):zj [TD T,MD M,.lst (dk.map D.str),WD W,VD [],VD v9]=some .non:=by
 have hl:=g.len;have hm:=g.m4;have hdk:dk.length<=1000:=by have:=g.d0;omega
 have y1:(T.filter λt=>decide (t.k=.you)).length=1:=by have:=bH de g.y1;rw[aj]at this;exact this
 obtain⟨r,hr⟩:=g.rk;let ρ0:aU:=[.im (TD T),.im (MD M),.im (.lst (dk.map D.str)),.im (WD W),.im (VD []),.im (VD v9),.un];let ρ:aU:=[.im (TD T),.im (MD M),.im (.lst (dk.map D.str)),.im (WD W),.im (VD []),.im (VD v9),.im (.lst ((rmN T).map D.str))];refine zb (ρ:=ρ) rfl ?_;unfold zi;refine(sW (uN (ρ':=ρ0) (sY rfl (ES T (by omega) g.r1 g.r5 y1 g.p7)))).trans ?_;refine(sW (uN (ρ':=ρ0) (sY rfl (Gw M g.m4 g.mo)))).trans ?_;refine(sW (uN (ρ':=ρ0) (sY rfl (Gx T M (by omega) (by omega) g.nm g.nd)))).trans ?_;refine(sW (uN (ρ':=ρ0) (sY rfl (ET T (by omega) g.ndT r hr g.st)))).trans ?_;refine(sW (uN (ρ':=ρ0) (sY rfl (GA T (by omega) g.wd)))).trans ?_;refine(sW (ρ':=ρ) ((tU (uO (KQ T (by omega) rfl))).trans rfl)).trans ?_;refine(sW (uN (ρ':=ρ) (sY rfl (He dk (rmN T) hdk g.d1 g.d2)))).trans ?_;refine(sW (uN (ρ':=ρ) (sY (sV rfl (sV rfl (sV (uO (sY (g:=wg) (ds:=[TD T,MD M]) rfl (BW T M (by omega) hm))) rfl))) (Hg g.w8 g.wo g.wn)))).trans ?_;refine(sW (uN (ρ':=ρ) (sY (g:=xJ) (ds:=[VD []]) (r:=.non) rfl (GE)))).trans ?_;exact uN (ρ':=ρ) (sY (g:=vC) (ds:=[TD T,WD W,VD v9]) (by kernel_rfl) (GH (by omega) g.wd g.w8 λw hw=>(g.wo w hw).hw))
theorem L1(T:List Th)(hl:T.length<=900)(nd:(T.map Th.n).Nodup):DS [TD T]=some (.dic (nK T) (T.map thD)):=by
 obtain⟨s',e1⟩:=zP (g:=gN 2) (i:=1) (fk:=c1 (tH tY "name") aq) (fv:=cV 2) thD Th.n thD (λks ds s=>[.im (TD T),.dk ks ds,s])
  (λt ks ds s=>⟨[.im (TD T),.dk ks ds,.im (thD t)],rfl,rfl,rfl,uA rfl (yI t),λks' ds'=>⟨_,rfl⟩⟩) T [] [] .un (by rw[bU];exact QY nd) (by simp;omega) rfl
 refine tp (ρ:=[.im (TD T),.im (.dic (nK T) (T.map thD)),s']) rfl ?_;unfold DQ;refine(sW (ρ':=[.im (TD T),.dk [] [],.un]) rfl).trans ?_;refine(sW ((uM rfl).trans e1)).trans ?_;rw[bU,bU];rfl
def mP(T:List Th)(M:List Mk):List (Str×Int):=(T.filter λt=>t.k.mk).map (λt=>(t.n,1))++M.map λm=>(m.n,m.mo)
theorem YI(T:List Th)(M:List Mk):(mP T M).map bR=mkN T M:=by unfold mP mkN;rw[bE,bc,bc];rfl
theorem Uj(m:Mk):tH yq "most" (mkD m)=some (.int m.mo):=rfl
theorem DU{a b e:Sl}:∀(l:List Th) (ks:List Key) (ds:List L4.D) (s:Sl),(ks++(l.filter λt=>t.k.mk).map λt=>kS t.n).Nodup->ks.length+l.length<=900->ds.length=ks.length->
  ∃s',forL (gN 3) (sIf (cT (tT vq "has_mark" aA ui)) (xB 2 (c1 (tH tY "name") aA) bg) tL) (l.map thD) [a,b,.dk ks ds,s,e]=some (.nx [a,b,.dk (ks++(l.filter λt=>t.k.mk).map λt=>kS t.n) (ds++(l.filter λt=>t.k.mk).map λ_=>.int 1),s',e])
 |[],ks,ds,s,_,_,_=>⟨s,by simp;rfl⟩
 |t::l,ks,ds,s,nd,hl,he=>by
  rw[aO]at hl;let ρ:aU:=[a,b,.dk ks ds,.im (thD t),e];have em:cT (tT vq "has_mark" aA ui) ρ=some (t.k.mk,ρ):=uL (uh (xs:=[.str t.n,.tup (t.w.map D.str),.str t.k.s,oS t.s]) (ys:=[]) rfl rfl rfl rfl (Nh t));rw[aK];unfold forL;rw[show gN 3 (thD t) [a,b,.dk ks ds,s,e]=some ρ from rfl];cases hm:t.k.mk with
  |true=>
   rw[hm]at em;rw[j6 (p:=λt:Th=>t.k.mk) hm,aK]at nd;rw[j6 (p:=λt:Th=>t.k.mk) hm];have hn:kS t.n∉ks:=λz=>by rw[bT]at nd;exact nd.2.2 _ z _ aV rfl
   obtain⟨s',q⟩:=DU (a:=a) (b:=b) (e:=e) l (ks++[kS t.n]) (ds++[.int 1]) (.im (thD t)) (by rw[b9];exact nd) (by rw[aP,cB];omega) (by simp[he]);refine⟨s',?_⟩;simp only[(tV em).trans (KU (i:=2) (fk:=c1 (tH tY "name") aA) (fv:=cC (.int 1)) (ρ:=ρ) (x:=t.n) rfl rfl (uA rfl (yI t)) hn (by omega) he)];refine Eq.trans q ?_;rw[b9,b9];rfl
  |false=>rw[hm]at em;rw[mV (p:=λt:Th=>t.k.mk) (by rw[hm];exact bj)]at nd ⊢;obtain⟨s',q⟩:=DU (a:=a) (b:=b) (e:=e) l ks ds (.im (thD t)) nd (by omega) he;refine⟨s',?_⟩;simp only[ux em,tL];exact q
def mD(T:List Th)(M:List Mk):L4.D:=.dic ((mP T M).map λq=>kS q.1) ((mP T M).map λq=>.int q.2)
theorem Good.ndK(g:Good T M dk W):(mkN T M).Nodup:=by unfold mkN;have h:=bT.mp g.nd;refine bT.mpr ⟨sG (km.map _) h.1,h.2.1,λx hx y hy=>h.2.2 x ?_ y hy⟩;obtain⟨t,ht,rfl⟩:=az.mp hx;exact cQ (bo.mp ht).1
theorem U9(g:Good T M dk W):((mP T M).map λq=>kS q.1).Nodup:=by have:=Bs g.ndK;rw[<-YI,bc]at this;exact this
theorem Q1(g:Good T M dk W):xY [TD T,MD M]=some (mD T M):=by
 have nd:=U9 g;have hl:=g.len;have hm:=g.m4;have e0:(mP T M).map (λq=>kS q.1)=(T.filter λt=>t.k.mk).map (λt=>kS t.n)++M.map λm=>kS m.n:=by unfold mP;rw[bE,bc,bc];rfl
 have e0':(mP T M).map (λq=>D.int q.2)=(T.filter λt=>t.k.mk).map (λ_=>D.int 1)++M.map λm=>D.int m.mo:=by unfold mP;rw[bE,bc,bc];rfl
 rw[e0]at nd;have hf:=cP (λt:Th=>t.k.mk) T;obtain⟨s1,e1⟩:=DU (a:=.im (TD T)) (b:=.im (MD M)) (e:=.un) T [] [] .un (by rw[bU];exact(bT.mp nd).1) (by simp;omega) rfl;rw[bU,bU]at e1;obtain⟨s2,e2⟩:=zP (g:=gN 4) (i:=2) (fk:=c1 (tH tY "name") aw) (fv:=c1 (tH yq "most") aw) mkD Mk.n (λm=>.int m.mo) (λks ds s=>[.im (TD T),.im (MD M),.dk ks ds,s1,s])
  (λm ks ds s=>⟨[.im (TD T),.im (MD M),.dk ks ds,s1,.im (mkD m)],rfl,uA rfl (Uj m),rfl,uA rfl (Ju m),λks' ds'=>⟨_,rfl⟩⟩) M ((T.filter λt=>t.k.mk).map λt=>kS t.n) ((T.filter λt=>t.k.mk).map λ_=>.int 1) .un nd (by rw[aj];omega) (by rw[aj,aj])
 refine tp (ρ:=[.im (TD T),.im (MD M),.im (mD T M),s1,s2]) rfl ?_;unfold xX;refine(sW (ρ':=[.im (TD T),.im (MD M),.dk [] [],.un,.un]) rfl).trans ?_;refine(sW ((uM rfl).trans e1)).trans ((sW ((uM rfl).trans e2)).trans ?_);unfold mD;rw[e0,e0'];rfl
theorem GL(T:List Th)(hl:T.length<=1000)(ns:aH)(rest:List L4.D)(k:Kd):xZ [.obj 14 ("kept_things" ::ns) (TD T::rest),.str k.s]=some (.lst ((T.filter λt=>decide (t.k=k)).map λt=>D.str t.n)):=by let ρ:aU:=[.im (.obj 14 ("kept_things" ::ns) (TD T::rest)),.im (.str k.s)];refine FY (ρ:=ρ) rfl ?_;exact wa (x9 thD (λt=>D.str t.n) (λt=>decide (t.k=k)) T (ρ1:=ρ) rfl hl λt _=>⟨[.im (thD t),.im (.str k.s)],[.im (thD t),.im (.str k.s)],rfl,uL (tP (uA rfl (yJ t)) rfl (Gu t.k k)),λ_=>⟨_,uA rfl (yI t),rfl⟩,λ_=>rfl⟩)
end
def vwD(V:List Vb):L4.D:=.dic (V.flatMap λv=>v.ws.map kS) (V.flatMap λv=>v.ws.map λ_=>vbO v)
theorem Q2:∀V:List Vb,(V.flatMap λv=>v.ws.map kS).zip (V.flatMap λv=>v.ws.map λ_=>vbO v)=V.flatMap λv=>v.ws.map λx=>(kS x,vbO v)
 |[]=>rfl
 |v::V=>by rw[fI,fI,fI,kJ (by rw[aj,aj]),Q2 V,la]
theorem YJ{V:List Vb}(nd:(V.flatMap Vb.ws).Nodup){v:Vb}(hv:v∈V):AX (vwD V) (.str v.n)=some (vbO v):=by
 show some ((vU (V.flatMap λv=>v.ws.map kS) (V.flatMap λv=>v.ws.map λ_=>vbO v) (kS v.n)).getD .non)=_;rw[CN (d:=vbO v)]
 ·rfl
 ·have:=Bs nd;rw[List.map_flatMap]at this;exact this
 ·rw[Q2];exact gr.mpr ⟨v,hv,az.mpr ⟨v.n,aV,rfl⟩⟩
theorem GN(T:List Th)(hl:T.length<=900)(ks:aH)(p:Kd->Bool)(hp:∀k:Kd,decide (k.s∈ks)=p k):vb [TD T,.lst (ks.map D.str)]=some (((T.filter λt=>p t.k).map Th.n).map D.str):=by let K:L4.D:=.lst (ks.map D.str);let ρ:aU:=[.im (TD T),.im K];refine(ym (ρ:=ρ) rfl (wa (x9 thD (λt=>D.str t.n) (λt=>p t.k) T (ρ1:=ρ) rfl (by omega) λt _=>⟨[.im (thD t),.im K],[.im (thD t),.im K],rfl,uL (tP (x:=.str t.k.s) (y:=K) rfl rfl ((xf false _ _).trans (by rw[<-hp t.k];rfl))),λ_=>⟨_,uA rfl (yI t),rfl⟩,λ_=>rfl⟩))).trans ?_;rw[bc];rfl
theorem L6{P:Kd->Prop}(h1:P .room)(h2:P .you)(h3:P .plain)(h4:P .fixed)(h5:P .box)(h6:P .lamp):∀k,P k:=λk=>by cases k<;>assumption
theorem Q3:∀k:Kd,decide (k.s∈(["room"]:aH))=decide (k=.room):=L6 rfl rfl rfl rfl rfl rfl
theorem YK:∀k:Kd,decide (k.s∈(["box", "lamp"]:aH))=k.mk:=L6 rfl rfl rfl rfl rfl rfl
variable{c:FT}
theorem um{e:FS}{h:FS}(q:c ρ=some (false,ρ)):sZ (sIf c e tL) h ρ=h ρ:=sW ((ux q).trans rfl)
theorem ixs{j:Nat}{L:List L4.D}(h:xA es)(h0:L≠[])(hl:L.length<=1000)(hi:u4 ρ i=some es)(hj:u4 ρ j=some L)(hb:cV j (ρ.map Sl.bor)=some (.lst L,ρ.map Sl.bor))(hne:∀es',u4 (putAt ρ i es') j=some L):
  ∃d∈L,∃es',xA es'/\Od j (vA tw i (a1 (zA (c1 vN (cV j))))) ρ=some (d,putAt ρ i es'):=by
 have hp:0<L.length:=nF.mpr h0;obtain⟨r,es',h4,h2,h3,h1⟩:=KP h (b:=L.length) (by omega) (by omega);obtain⟨m,rfl⟩:=dP h2;have hm:m<L.length:=by omega
 refine⟨L[m],eO hm,es',h1,?_⟩;have e1:zA (c1 vN (cV j)) ρ=some (.int L.length,ρ):=FK (uA hb rfl) rfl;have e2:vA tw i (a1 (zA (c1 vN (cV j)))) ρ=some (.int m,putAt ρ i es'):=FL hi (sV e1 rfl) hi h4;unfold Od;rw[hj];simp only[e2,hne es'];rw[show atI L (m:Int)=some L[m] from zU (aZ hm)]
theorem YL{c:Int}(L:aH)(st:List L4.D->aU)(hp:∀es,u4 (st es) i=some es)(hq:∀es es',putAt (st es) i es'=st es')(he:e (st es)=some (.lst (L.map D.str),st es))(hs:xA es)(hc:c=L.length)(h0:0<L.length)(h1:L.length<=1000):∃x∈L,∃es',c2 dIx e (vA tw i (a1 (cC (.int c)))) (st es)=some (.str x,st es')/\xA es':=by subst hc;obtain⟨d,hd,es',e1,q⟩:=pk (L:=L.map D.str) (a:=cC (.int L.length)) st hp hq he (by rw[aj];rfl) hs (λz=>by rw[nG]at z;rw[z]at h0;exact ao h0 (d7 _)) (by rw[aj];exact h1);obtain⟨x,hx,rfl⟩:=az.mp hd;exact⟨x,hx,es',e1,q⟩
theorem aaG(n:Nat):EM 0 n=(bf n).map λk:Nat=>D.int (k:Nat):=by unfold EM;simp
theorem Va{n:Nat}(h:e ρ=some (.int (n:Nat),ρ1))(hn:n<=100):iR1 e ρ=some ((bf n).map λk:Nat=>D.int (k:Nat),ρ1):=by unfold iR1;rw[h];dsimp only;rw[af (by omega),ig,aaG]
variable{ρ2 ρ3:aU}
theorem Jy{lo hi:FO}{l u:Option Int}(h1:e ρ=some (.lst ds,ρ1))(h2:lo ρ1=some (l,ρ2))(h3:hi ρ2=some (u,ρ3)):G3 e lo hi ρ=some (cutD ds l u,ρ3):=by unfold G3;rw[h1];simp only[h2,h3]
theorem Q4{i:Int}(h:e ρ=some (.int i,ρ1)):oAt e ρ=some (some i,ρ1):=by unfold oAt;rw[h]
def mB:FS:=(sZ (tZ 3 (c2 vT bg (vA tw 0 (a1 fw))))
 (uf (z4 1 (uv 1 (λds=>A6 (ds++[])) qA))))
theorem GO:∀(l:aH) (es:List L4.D) (M:List Mk) (s2 s3:Sl),xA es->M.length+l.length<=900->∃es' M' t2 t3,xA es'/\M'.map Mk.n=l/\(∀m∈M',m.ok)/\
  forL (gN 2) mB (l.map D.str) [.pm es,.ls (M.map mkD),s2,s3]=some (.nx [.pm es',.ls ((M++M').map mkD),t2,t3])
 |[],es,M,s2,s3,h,_=>⟨es,[],s2,s3,h,rfl,λm hm=>(by cases hm),by rw[bG];rfl⟩
 |x::l,es,M,s2,s3,h,hl=>by
  rw[aO]at hl;obtain⟨d,e1,x1,p0,p1,h1⟩:=dgx (i:=0) (b:=3) (a:=cC (.int 3)) (λes=>[.pm es,.ls (M.map mkD),.im (.str x),s3]) (λ_=>rfl) (λ_ _=>rfl) rfl h (by decide) (by decide);let Y:Sl:=.im (.int (1+d));obtain⟨d2,e2,x2,q0,q1,h2⟩:=dgx (i:=0) (b:=1+d+1) (a:=c2 vT aA bg) (λes=>[.pm es,.ls (M.map mkD),.im (.str x),Y]) (λ_=>rfl) (λ_ _=>rfl) rfl h1 (by omega) (by omega);let m:Mk:=⟨x,d2,1+d⟩;have ok:m.ok:=⟨by show 1<=1+d;omega,by show 1+d<=3;omega,q0,by show d2<=1+d;omega⟩;obtain⟨e3,M',t2,t3,h3,eM,okM,x3⟩:=GO l e2 (M++[m]) (.im (.str x)) Y h2 (by rw[aP,cB];omega);refine⟨e3,m::M',t2,t3,h3,by rw[aK,eM],λy hy=>?_,?_⟩
  ·rcases aT.mp hy with rfl|hy
   ·exact ok
   ·exact okM y hy
  ·rw[aK];unfold forL;rw[show gN 2 (.str x) [.pm es,.ls (M.map mkD),s2,s3]=some [.pm es,.ls (M.map mkD),.im (.str x),s3] from rfl];have xb:mB [.pm es,.ls (M.map mkD),.im (.str x),s3]=some (.nx [.pm e2,.ls ((M++[m]).map mkD),.im (.str x),Y]):=by unfold mB;refine(sW (ρ':=[.pm e1,.ls (M.map mkD),.im (.str x),Y]) ((tU (tP (x:=.int 1) rfl x1 rfl)).trans rfl)).trans ?_;refine(uN (DE (es0:=M.map mkD) (es:=M.map mkD) (ρ1:=[.pm e2,.ls (M.map mkD),.im (.str x),Y]) (d:=mkD m) rfl (E3 (ds:=[.str x,.int d2,.int (1+d)]) (sV rfl (sV x2 rfl)) rfl) rfl (by rw[aj];omega))).trans ?_;rw[bE];rfl
   simp only[xb];rw[x3,b9];rfl
theorem Q5(h:xA es):∃M es',Au es []=some (MD M,es')/\xA es'/\(∀m∈M,m.ok)/\∃n,M.map Mk.n=mkL.take n:=by
 obtain⟨d,e1,x1,p0,p1,h1⟩:=dgx (i:=0) (b:=5) (a:=cC (.int 5)) (λes=>[.pm es,.ls [],.un,.un]) (λ_=>rfl) (λ_ _=>rfl) rfl h (by decide) (by decide);obtain⟨n,rfl⟩:=dP p0;obtain⟨e2,M,t2,t3,h2,eM,ok,x2⟩:=GO (mkL.take n) e1 [] .un .un h1 (by rw[cn];simp only[dw];omega);refine⟨M,e2,Ly (ρ:=[.pm e2,.un,t2,t3]) rfl ?_ rfl,h2,ok,n,eM⟩;unfold As;refine(sW (ρ':=[.pm es,.ls [],.un,.un]) rfl).trans ((sW (ρ':=[.pm e2,.ls (M.map mkD),t2,t3]) ((uM (ds:=(mkL.take n).map D.str) (ρ1:=[.pm e1,.ls [],.un,.un]) ?_).trans x2)).trans rfl);have e:cL (G3 (cL (uj qc)) oNo (oAt (vA tw 0 mf))) [.pm es,.ls [],.un,.un]=some (.lst ((mkL.take n).map D.str),[.pm e1,.ls [],.un,.un]):=by refine(uO (Jy (ds:=mkL.map D.str) (ρ1:=[.pm es,.ls [],.un,.un]) rfl rfl (Q4 x1))).trans ?_;rw[LZ n (by rw[aj];show n<=4;omega),lg]
 unfold iL;rw[e]
def atO(a b:Str):L4.D:=.obj 3 ["term", "place"] [.str a,.str b]
def hsO(a:Str):L4.D:=.obj 4 ["term"] [.str a]
def mkO(a:Str)(v:Int):L4.D:=.obj 6 ["term", "value"] [.str a,.int v]
def kiO(a k:Str):L4.D:=.obj 7 ["term", "kind"] [.str a,.str k]
def woO(a:Str):L4.D:=.obj 8 ["word"] [.str a]
def noO(d:L4.D):L4.D:=.obj 9 ["inner"] [d]
def mvO(a b:Str):L4.D:=.obj 11 ["term", "place"] [.str a,.str b]
def puO(a:Str)(v:Int):L4.D:=.obj 12 ["term", "value"] [.str a,.int v]
def Hh(i:Nat):Str×aH:=plL.getD i ("key", ["key"])
def plD(q:Str×aH):L4.D:=.tup [.str q.1,.tup (q.2.map D.str)]
def kL:List Kd:=[.plain,.box,.lamp,.box,.fixed,.plain]
def tB:FS:=(sZ (Cv (c2 dIx aw (c2 wx (c2 vT bL bz) jM)) (gT qa 2))
 (sZ (tZ 9 (c2 dIx (cL (uj qk)) (vA tw 0 (a1 (cC (.int 6))))))
 (sZ (uf (z4 2 (uv 0 (λds=>wc (ds++[])) qh)))
 (sIf (cT (c2 (dEq false) dj cA)) (uf (z4 3 bI)) tL))))
theorem Q6(h:i<7):Hh i∈plL/\atI (plL.map plD) (i:Int)=some (plD (Hh i)):=by
 have e:plL[i]?=some (Hh i):=by unfold Hh;rw[cJ,aZ (show i<plL.length from h)];rfl
 exact⟨b8 e,zU (by rw[bB,e];rfl)⟩
theorem EI(a:Sl)(tn:Nat)(htn:tn<7):∀(l:List Nat) (es:List L4.D) (P:List Th) (Hs:aH) (s6 s7 s8 s9:Sl),xA es->Hs≠[]->(∀x∈Hs,∃u∈P,u.n=x/\u.k.hd=true)->Ord P->P.length+l.length<=900->Hs.length+l.length<=900->
  ∃(es':List L4.D) (P':List Th) (Hs':aH) (t6 t7 t8 t9:Sl),xA es'/\Ord (P++P')/\P'.map Th.nw=l.map (λk=>Hh ((k+tn) % 7))/\(∀t∈P',t.k.pl=true)/\
   forL (gN 6) tB (l.map λk:Nat=>D.int (k:Nat)) [.pm es,a,.ls (P.map thD),.ls (Hs.map D.str),.im (.lst (plL.map plD)),.im (.int (tn:Nat)),s6,s7,s8,s9]=some (.nx [.pm es',a,.ls ((P++P').map thD),.ls (Hs'.map D.str),.im (.lst (plL.map plD)),.im (.int (tn:Nat)),t6,t7,t8,t9])
 |[],es,P,Hs,s6,s7,s8,s9,h,_,_,ho,_,_=>⟨es,[],Hs,s6,s7,s8,s9,h,by rw[bG];exact ho,rfl,λr hr=>(dZ hr).elim,by rw[bG];rfl⟩
 |k::l,es,P,Hs,s6,s7,s8,s9,h,h0,hH,ho,hl,hl'=>by
  rw[aO]at hl hl';let Q:Sl:=.im (.lst (plL.map plD));let N:Sl:=.im (.int (tn:Nat));let K:Sl:=.im (.int (k:Nat));let i:Nat:=(k+tn) % 7;have hi:i<7:=fR _ (by decide);obtain⟨pm,ea⟩:=Q6 hi;let q:=Hh i;let X:Sl:=.im (.str q.1);let Y:Sl:=.im (.tup (q.2.map D.str));obtain⟨d,e1,x1,p0,p1,h1⟩:=dgx (i:=0) (b:=6) (a:=cC (.int 6)) (λes=>[.pm es,a,.ls (P.map thD),.ls (Hs.map D.str),Q,N,K,X,Y,s9]) (λ_=>rfl) (λ_ _=>rfl) rfl h (by decide) (by decide);obtain⟨j,rfl⟩:=dP p0;have hj:j<kL.length:=by show j<6;omega
  let kd:Kd:=kL[j];have hpl:kd.pl=true:=(show ∀k∈kL,Kd.pl k=true by decide) _ (eO hj);have ek:dIx (.lst (kL.map λk=>D.str k.s)) (.int (j:Nat))=some (.str kd.s):=zU (by rw[bB,aZ hj];rfl);let Z:Sl:=.im (.str kd.s);let ρ1:aU:=[.pm e1,a,.ls (P.map thD),.ls (Hs.map D.str),Q,N,K,X,Y,Z];obtain⟨dd,hdd,e2,h2,x2⟩:=ixs (ρ:=ρ1) (i:=0) (j:=3) h1 (by simpa using h0) (by rw[aj];omega) rfl rfl rfl (λ_=>rfl);obtain⟨p,hp,rfl⟩:=az.mp hdd;let t:Th:=⟨q.1,q.2,kd,some p⟩;obtain⟨u,hu,hun,huk⟩:=hH p hp;have ok:Jw P t:=.inr (.inr ⟨hpl,u,hu,by rw[hun],huk⟩);let Hs1:aH:=if kd=.box then Hs++[q.1]else Hs
  have xb:tB [.pm es,a,.ls (P.map thD),.ls (Hs.map D.str),Q,N,K,s7,s8,s9]=some (.nx [.pm e2,a,.ls ((P++[t]).map thD),.ls (Hs1.map D.str),Q,N,K,X,Y,Z]):=by
   unfold tB;refine(sW (ρ':=[.pm es,a,.ls (P.map thD),.ls (Hs.map D.str),Q,N,K,X,Y,s9]) ?_).trans ?_
   ·have em:c2 wx (c2 vT bL bz) jM [.pm es,a,.ls (P.map thD),.ls (Hs.map D.str),Q,N,K,s7,s8,s9]=some (.int (i:Nat),[.pm es,a,.ls (P.map thD),.ls (Hs.map D.str),Q,N,K,s7,s8,s9]):=(tP (x:=.int ((k:Int)+(tn:Int))) rfl rfl (Bp (by decide))).trans (by
     rw[show ((k:Int)+(tn:Int)) % 7=((i:Nat):Int) by show _=(((k+tn) % 7:Nat):Int);omega])
    unfold Cv;rw[tP (x:=.lst (plL.map plD)) (ρ1:=[.pm es,a,.ls (P.map thD),.ls (Hs.map D.str),Q,N,K,s7,s8,s9]) rfl em ea];rfl
   refine(sW (ρ':=ρ1) ((tU (tP (x:=.lst (kL.map λk=>D.str k.s)) rfl x1 ek)).trans rfl)).trans ?_;let ρ3:aU:=[.pm e2,a,.ls ((P++[t]).map thD),.ls (Hs.map D.str),Q,N,K,X,Y,Z];refine(sW (ρ':=ρ3) ((uN (DE (es0:=P.map thD) (es:=P.map thD) (ρ1:=[.pm e2,a,.ls (P.map thD),.ls (Hs.map D.str),Q,N,K,X,Y,Z]) (d:=thD t) rfl (E3 (ds:=[.str q.1,.tup (q.2.map D.str),.str kd.s,.str p]) (sV rfl (sV rfl (sV rfl (sV x2 rfl)))) rfl) rfl (by rw[aj];omega))).trans ?_)).trans ?_
   ·show some (Out.nx [.pm e2,a,.ls (P.map thD++[thD t]),.ls (Hs.map D.str),Q,N,K,X,Y,Z])=_;rw[show P.map thD++[thD t]=(P++[t]).map thD by rw[bE];rfl]
   ·have et:cT (c2 (dEq false) dj cA) ρ3=some (decide (kd=.box),ρ3):=uL (tP rfl rfl (Gu kd .box));by_cases hb:kd=.box
    ·rw[aM hb]at et;refine(tV et).trans ((uN (DE (es0:=Hs.map D.str) (es:=Hs.map D.str) (ρ1:=ρ3) (d:=.str q.1) rfl rfl rfl (by rw[aj];omega))).trans ?_);show some (Out.nx [.pm e2,a,.ls ((P++[t]).map thD),.ls (Hs.map D.str++[.str q.1]),Q,N,K,X,Y,Z])=_;rw[show Hs1.map D.str=Hs.map D.str++[.str q.1] by rw[show Hs1=Hs++[q.1] from af hb,bE];rfl]
    ·rw[aL hb]at et;refine(ux et).trans ?_;rw[show Hs1=Hs from ag hb];rfl
  have hH1:∀y∈Hs1,∃u∈P++[t],u.n=y/\u.k.hd=true:=λy hy=>by
   have old:y∈Hs->∃u∈P++[t],u.n=y/\u.k.hd=true:=λhy=>by obtain⟨v,hv,h⟩:=hH y hy;exact⟨v,cj _ hv,h⟩
   by_cases hb:kd=.box
   ·rw[show Hs1=Hs++[q.1] from af hb]at hy;rcases bC.mp hy with hy|hy
    ·exact old hy
    ·rw[aR]at hy;refine⟨t,by simp,hy.symm,?_⟩;show kd.hd=true;rw[hb];rfl
   ·rw[show Hs1=Hs from ag hb]at hy;exact old hy
  have h01:Hs1≠[]:=by
   by_cases hb:kd=.box
   ·rw[show Hs1=Hs++[q.1] from af hb];simp
   ·rw[show Hs1=Hs from ag hb];exact h0
  have hl1:Hs1.length<=Hs.length+1:=by
   by_cases hb:kd=.box
   ·rw[show Hs1=Hs++[q.1] from af hb];simp
   ·rw[show Hs1=Hs from ag hb];omega
  obtain⟨e3,P',Hs',t6,t7,t8,t9,g1,g2,g3,g4,g5⟩:=EI a tn htn l e2 (P++[t]) Hs1 K X Y Z h2 h01 hH1 (ho.snoc ok) (by rw[aP,cB];omega) (by omega);refine⟨e3,t::P',Hs',t6,t7,t8,t9,g1,by rw[b9]at g2;exact g2,by rw[aK,aK,g3];rfl,λr hr=>?_,?_⟩
  ·rcases aT.mp hr with rfl|hr
   ·exact hpl
   ·exact g4 r hr
  ·rw[aK];unfold forL;rw[show gN 6 (.int (k:Nat)) [.pm es,a,.ls (P.map thD),.ls (Hs.map D.str),Q,N,s6,s7,s8,s9]=some [.pm es,a,.ls (P.map thD),.ls (Hs.map D.str),Q,N,K,s7,s8,s9] from rfl];simp only[xb];rw[g5,b9];rfl
def rmT(x:Str):Th:=⟨x,[x,"place"],.room,none⟩
structure L7(T:List Th):Prop where
 ord:Ord T
 ex:∃(r tn n:Nat) (y:Str) (P:List Th),1<=r/\r<=5/\tn<7/\n<8/\T=(rmL.take r).map rmT++⟨"me", ["me", "self"],.you,some y⟩::P/\P.map Th.nw=(bf n).map (λk=>Hh ((k+tn) % 7))/\∀t∈P,t.k.pl=true
theorem Ir:∀(l:aH) (B:List Th),Ord B->Ord (B++l.map rmT)
 |[],B,h=>by rw[d8,bG];exact h
 |x::l,B,h=>by rw[aK,List.append_cons];exact Ir l _ (h.snoc (.inl ⟨rfl,rfl⟩))
theorem OJ(h:xA es):∃(T:List Th) (j:Nat) (es':List L4.D),L7 T/\j<T.length/\zq es []=some (TD (T.drop j++T.take j),es')/\xA es':=by
 let U:Sl:=.un;obtain⟨d,e1,x1,p0,p1,h1⟩:=dgx (i:=0) (b:=5) (a:=cC (.int 5)) (λes=>[.pm es,U,U,U,U,U,U,U,U,U]) (λ_=>rfl) (λ_ _=>rfl) rfl h (by decide) (by decide);obtain⟨r,rfl⟩:=dP p0;let R:aH:=rmL.take (1+r);have lR:R.length=1+r:=by show (rmL.take (1+r)).length=_;rw[cn];show min (1+r) 5=_;omega
 let RS:Sl:=.im (.lst (R.map D.str));let T0:List Th:=R.map rmT;obtain⟨dd,hdd,e2,x2,h2⟩:=pk (i:=0) (e:=cV 1) (a:=c1 vN ak) (L:=R.map D.str) (λes=>[.pm es,RS,.ls (T0.map thD),U,U,U,U,U,U,U]) (λ_=>rfl) (λ_ _=>rfl) rfl rfl h1 (by intro z;have:=bH de z;rw[aj,lR]at this;simp at this) (by rw[aj];omega);obtain⟨y,hy,rfl⟩:=az.mp hdd;let me:Th:=⟨"me", ["me", "self"],.you,some y⟩;let P0:List Th:=T0++[me];have o0:Ord T0:=by have:=Ir R [] .nil;rw[bU]at this;exact this
 have o1:Ord P0:=o0.snoc (.inr (.inl ⟨rfl,rmT y,cQ hy,rfl,rfl⟩));let Hs:aH:=R++(["me"]:aH);have hH:∀x∈Hs,∃u∈P0,u.n=x/\u.k.hd=true:=λx hx=>by
  rcases bC.mp hx with hx|hx
  ·exact⟨rmT x,cj _ (cQ hx),rfl,rfl⟩
  ·exact⟨me,bP _ (aR.mpr rfl),(aR.mp hx).symm,rfl⟩
 have lP:P0.length=2+r:=by show (R.map rmT++[me]).length=_;rw[aP,aj,lR];show 1+r+1=_;omega
 have lH:Hs.length=2+r:=by show (R++_).length=_;rw[aP,lR];show 1+r+1=_;omega
 let Q:Sl:=.im (.lst (plL.map plD));obtain⟨d3,e3,x3,q0,q1,h3⟩:=dgx (i:=0) (b:=7) (a:=cC (.int 7)) (λes=>[.pm es,RS,.ls (P0.map thD),.ls (Hs.map D.str),Q,U,U,U,U,U]) (λ_=>rfl) (λ_ _=>rfl) rfl h2 (by decide) (by decide);obtain⟨tn,rfl⟩:=dP q0;let N:Sl:=.im (.int (tn:Nat));obtain⟨d4,e4,x4,u0,u1,h4⟩:=dgx (i:=0) (b:=8) (a:=cC (.int 8)) (λes=>[.pm es,RS,.ls (P0.map thD),.ls (Hs.map D.str),Q,N,U,U,U,U]) (λ_=>rfl) (λ_ _=>rfl) rfl h3 (by decide) (by decide);obtain⟨n,rfl⟩:=dP u0;obtain⟨e5,P',Hs',t6,t7,t8,t9,h5,o5,g3,g4,x5⟩:=EI RS tn (by omega) (bf n) e4 P0 Hs U U U U h4 (by show R++(["me"]:aH)≠[];simp) hH o1 (by rw[cD];omega) (by rw[cD];omega);let T:List Th:=P0++P';have lP':P'.length=n:=by have:=bH de g3;rw[aj,aj,cD]at this;exact this
 have lT:T.length=2+r+n:=by show (P0++P').length=_;rw[aP,lP,lP']
 let HS:Sl:=.ls (Hs'.map D.str);obtain⟨d6,e6,x6,v0,v1,h6⟩:=dgx (i:=0) (b:=T.length) (a:=zA (c1 vN aq)) (λes=>[.pm es,RS,.ls (T.map thD),HS,Q,N,t6,t7,t8,t9]) (λ_=>rfl) (λ_ _=>rfl) (FK (uA rfl (by show some (D.int _)=_;rw[aj])) rfl) h5 (by omega) (by omega);obtain⟨j,rfl⟩:=dP v0;have hj:j<T.length:=by omega
 have d0:L7 T:=⟨o5,1+r,tn,n,y,P',by omega,by omega,by omega,by omega,by show (R.map rmT++[me])++P'=_;rw[b9];rfl,g3,g4⟩;let J:Sl:=.im (.int (j:Nat));let TL:Sl:=.im (TD T);refine⟨T,j,e6,d0,hj,?_,h6⟩;refine Ly (ρ:=[.pm e6,RS,TL,HS,Q,J,t6,t7,t8,t9]) rfl ?_ rfl;unfold zp;refine(sW (ρ':=[.pm e1,RS,U,U,U,U,U,U,U,U]) ((tU (uO (Jy (ds:=rmL.map D.str) (ρ1:=[.pm es,U,U,U,U,U,U,U,U,U]) rfl rfl (Q4 (tP (x:=.int 1) rfl x1 rfl))))).trans ?_)).trans ?_
 ·show some (Out.nx [.pm e1,.im (.lst (cutD (rmL.map D.str) none (some (1+(r:Int))))),U,U,U,U,U,U,U,U])=_;rw[show (1+(r:Int))=((1+r:Nat):Int) by omega,LZ (1+r) (by rw[aj];show 1+r<=5;omega),<- lg]
 refine(sW (ρ':=[.pm e1,RS,.ls (T0.map thD),U,U,U,U,U,U,U]) ((Je (wq D.str (λx=>thD (rmT x)) R (ρ1:=[.pm e1,RS,U,U,U,U,U,U,U,U]) rfl (by omega) λx _=>⟨[.im (.str x)],[.im (.str x)],rfl,rfl,rfl⟩)).trans ?_)).trans ?_
 ·rw[show T0.map thD=R.map λx=>thD (rmT x) by show (R.map rmT).map thD=_;rw[bc];rfl];rfl
 refine(sW (ρ':=[.pm e2,RS,.ls (P0.map thD),U,U,U,U,U,U,U]) ((uN (DE (es0:=T0.map thD) (es:=T0.map thD) (ρ1:=[.pm e2,RS,.ls (T0.map thD),U,U,U,U,U,U,U]) (d:=thD me) rfl (E3 (ds:=[.str "me", .tup [.str "me", .str "self"],.str "you", .str y]) (sV rfl (sV rfl (sV rfl (sV x2 rfl)))) rfl) rfl (by show ((R.map rmT).map thD).length<1000;rw[aj,aj];omega))).trans ?_)).trans ?_
 ·rw[show P0.map thD=T0.map thD++[thD me] by show (T0++[me]).map thD=_;rw[bE];rfl];rfl
 refine(sW (ρ':=[.pm e2,RS,.ls (P0.map thD),.ls (Hs.map D.str),U,U,U,U,U,U]) ((Je (xy (xs:=R.map D.str) (ys:=[.str "me"]) (ρ1:=[.pm e2,RS,.ls (P0.map thD),U,U,U,U,U,U,U]) rfl rfl (by rw[aj];show R.length+1<=1000;omega))).trans ?_)).trans ?_
 ·rw[show Hs.map D.str=R.map D.str++[.str "me"] by show (R++(["me"]:aH)).map D.str=_;rw[bE];rfl];rfl
 refine(sW (ρ':=[.pm e2,RS,.ls (P0.map thD),.ls (Hs.map D.str),.im (.lst ((plL.take 4).map plD)),U,U,U,U,U]) rfl).trans ?_;refine(sW (ρ':=[.pm e2,RS,.ls (P0.map thD),.ls (Hs.map D.str),Q,U,U,U,U,U]) rfl).trans ?_;refine(sW ((tU x3).trans rfl)).trans ?_;refine(sW (ρ':=[.pm e5,RS,.ls (T.map thD),HS,Q,N,t6,t7,t8,t9]) ((uM (Va (ρ1:=[.pm e4,RS,.ls (P0.map thD),.ls (Hs.map D.str),Q,N,U,U,U,U]) x4 (by omega))).trans x5)).trans ?_;refine(sW (ρ':=[.pm e6,RS,.ls (T.map thD),HS,Q,J,t6,t7,t8,t9]) ((tU x6).trans rfl)).trans (wa ?_);refine(xy (xs:=(T.map thD).drop j) (ys:=(T.map thD).take j) (ρ1:=[.pm e6,RS,TL,HS,Q,J,t6,t7,t8,t9]) (ρ2:=[.pm e6,RS,TL,HS,Q,J,t6,t7,t8,t9]) ?_ ?_ (by rw[gn,cn,aj];omega)).trans ?_
 ·refine(uO (Jy (ds:=T.map thD) (ρ1:=[.pm e6,RS,TL,HS,Q,J,t6,t7,t8,t9]) (l:=some (j:Int)) (u:=none) rfl rfl rfl)).trans ?_;rw[YG j (by rw[aj];omega)]
 ·refine(uO (Jy (ds:=T.map thD) (ρ1:=[.pm e6,RS,TL,HS,Q,J,t6,t7,t8,t9]) (l:=none) (u:=some (j:Int)) rfl rfl rfl)).trans ?_;rw[LZ j (by rw[aj];omega)]
 ·rw[<-pD,<- lg,<- bE]
def rwD(w:Wy):L4.D:=.tup [.str w.r,.str w.w]
theorem Nl:∀W:List Wy,y9 (W.map rwD)=some (W.map λw=>L3.Dq.tup [.str w.r,.str w.w])
 |[]=>rfl
 |w::W=>by rw[aK];unfold y9;rw[Nl W];rfl
theorem aaH(r x:Str)(W:List Wy):dNiT (.tup [.str r,.str x]) (.lst (W.map rwD))=some (.bl (!decide ([r,x]∈W.map λw=>[w.r,w.w]))):=by
 unfold dNiT;dsimp only;rw[show toD (.tup [.str r,.str x])=some (.tup [.str r,.str x]) from rfl,Nl];dsimp only;rw[af]
 ·congr 3;rw[cM,dY,bJ,az];constructor
  ·rintro⟨e,he,h⟩;obtain⟨w,hw,rfl⟩:=az.mp he;have h:((w.r==r)&&((w.w==x)&&true))=true:=h;rw[aS,aS,beq_iff_eq,beq_iff_eq]at h;exact⟨w,hw,by rw[h.1,h.2.1]⟩
  ·rintro⟨w,hw,h⟩;refine⟨_,az.mpr ⟨w,hw,rfl⟩,?_⟩;have h1:w.r=r/\w.w=x:=by simpa using h
   show ((w.r==r)&&((w.w==x)&&true))=true;rw[h1.1,h1.2];simp
 ·rw[aS];refine⟨rfl,bp.mpr λe he=>?_⟩;obtain⟨w,hw,rfl⟩:=az.mp he;rfl
def wB:FS:=(sZ (tZ 7 (c2 dIx aA (vA tw 0 jU)))
 (sZ (tZ 8 (c2 dIx (cL (uj l9)) (vA tw 0 (a1 (cC (.int 4))))))
 (sZ (tZ 9 (c2 dIx aA (vA tw 0 jU)))
 (sZ (tZ 10 (c2 dIx aw (vA tw 0 (a1 (c1 vN aw)))))
 (sIf (zB (cT (c2 dNiT (tR jX) (cL (tN 1 [] (iL bz) (gN 0) uF (LR ab none (some 2))))))) (uf (z4 5 (tR mj))) tL)))))
section
variable{T:List Th}{M:List Mk}{es:List L4.D}
def drL(T:List Th)(M:List Mk):List (Option Str):=none::none::(M.map Mk.n++(T.filter λt=>t.k.mk).map Th.n).map some
theorem YM{m:Option Str}(h:m∈drL T M)(e:m=some x):x∈mkN T M:=by
 subst e;have h:some x∈(M.map Mk.n++(T.filter λt=>t.k.mk).map Th.n).map some:=by simpa [drL]using h
 obtain⟨y,hy,e⟩:=az.mp h;cases e;rcases bC.mp hy with hy|hy
 ·exact bP _ hy
 ·exact cj _ hy
theorem Q7(hr:rmN T≠[])(lr:(rmN T).length<=13)(ld:(drL T M).length<=20)(h:xA es)(W:List Wy)(lW:W.length<=900)(ok:∀w∈W,DT T M w)(nd:(W.map λw=>[w.r,w.w]).Nodup)(a b s6 s7 s8 s9 s10:Sl):
  ∃(es':List L4.D) (W':List Wy) (t7 t8 t9 t10:Sl),xA es'/\W'.length<=W.length+1/\(∀w∈W',DT T M w)/\(W'.map λw=>[w.r,w.w]).Nodup/\
   wB [.pm es,a,b,.im (.lst ((rmN T).map D.str)),.im (.lst ((drL T M).map oS)),.ls (W.map wyO),s6,s7,s8,s9,s10]=some (.nx [.pm es',a,b,.im (.lst ((rmN T).map D.str)),.im (.lst ((drL T M).map oS)),.ls (W'.map wyO),s6,t7,t8,t9,t10]):=by
 let RM:Sl:=.im (.lst ((rmN T).map D.str));let DR:Sl:=.im (.lst ((drL T M).map oS));let WS:Sl:=.ls (W.map wyO);obtain⟨d1,hd1,e1,x1,h1⟩:=pk (i:=0) (e:=cV 3) (a:=c1 vN aA) (L:=(rmN T).map D.str) (λes=>[.pm es,a,b,RM,DR,WS,s6,s7,s8,s9,s10]) (λ_=>rfl) (λ_ _=>rfl) rfl rfl h (by simpa using hr) (by rw[aj];omega);obtain⟨r,hr1,rfl⟩:=az.mp hd1;let X:Sl:=.im (.str r);obtain⟨x,hx,e2,x2,h2⟩:=YL (i:=0) (c:=4) (e:=cL (uj l9)) ["north", "up", "outside", "north"] (λes=>[.pm es,a,b,RM,DR,WS,s6,X,s8,s9,s10]) (λ_=>rfl) (λ_ _=>rfl) rfl h1 rfl (by decide) (by decide);let Y:Sl:=.im (.str x);obtain⟨d3,hd3,e3,x3,h3⟩:=pk (i:=0) (e:=cV 3) (a:=c1 vN aA) (L:=(rmN T).map D.str) (λes=>[.pm es,a,b,RM,DR,WS,s6,X,Y,s9,s10]) (λ_=>rfl) (λ_ _=>rfl) rfl rfl h2 (by simpa using hr) (by rw[aj];omega);obtain⟨g,hg,rfl⟩:=az.mp hd3;let Z:Sl:=.im (.str g);obtain⟨d4,hd4,e4,x4,h4⟩:=pk (i:=0) (e:=cV 4) (a:=c1 vN aw) (L:=(drL T M).map oS) (λes=>[.pm es,a,b,RM,DR,WS,s6,X,Y,Z,s10]) (λ_=>rfl) (λ_ _=>rfl) rfl rfl h3 (by simp[drL]) (by rw[aj];omega);obtain⟨m,hm,rfl⟩:=az.mp hd4;let O:Sl:=.im (oS m);let w:Wy:=⟨r,x,g,m⟩;have wok:DT T M w:=⟨hr1,(show ∀x∈(["north", "up", "outside", "north"]:aH),x∈(["north", "up", "outside"]:aH) by decide) x hx,hg,λy e=>YM hm e⟩;let ρ:aU:=[.pm e4,a,b,RM,DR,WS,s6,X,Y,Z,O];have et:zB (cT (c2 dNiT (tR jX) (cL (tN 1 [] (iL bz) (gN 0) uF (LR ab none (some 2)))))) ρ=some (!decide ([r,x]∈W.map λw=>[w.r,w.w]),ρ):=by refine TB (ρ1:=ρ.map Sl.bor) (uL (tP (x:=.tup [.str r,.str x]) (y:=.lst (W.map rwD)) (ρ1:=ρ.map Sl.bor) rfl (uO (wq wyO rwD W (ρ1:=ρ.map Sl.bor) rfl (by omega) λw _=>⟨[.im (wyO w)],[.im (wyO w)],rfl,rfl,rfl⟩)) (aaH r x W)))
 have pre:wB [.pm es,a,b,RM,DR,WS,s6,s7,s8,s9,s10]=sIf (zB (cT (c2 dNiT (tR jX) (cL (tN 1 [] (iL bz) (gN 0) uF (LR ab none (some 2))))))) (uf (z4 5 (tR mj))) tL ρ:=by unfold wB;exact(sW ((tU x1).trans rfl)).trans ((sW ((tU x2).trans rfl)).trans ((sW ((tU x3).trans rfl)).trans (sW ((tU x4).trans rfl))))
 by_cases c:[r,x]∈W.map λw=>[w.r,w.w]
 ·rw[aM c]at et;exact⟨e4,W,X,Y,Z,O,h4,by omega,ok,nd,pre.trans ((ux et).trans rfl)⟩
 ·rw[aL c]at et;refine⟨e4,W++[w],X,Y,Z,O,h4,by rw[aP];exact aJ _,λy hy=>?_,?_,pre.trans ((tV et).trans ((uN (DE (es0:=W.map wyO) (es:=W.map wyO) (ρ1:=ρ) (d:=wyO w) rfl rfl rfl (by rw[aj];omega))).trans ?_))⟩
  ·rcases bC.mp hy with hy|hy
   ·exact ok y hy
   ·rw[aR.mp hy];exact wok
  ·rw[bE,bT];refine⟨nd,by simp,λy hy z hz e=>c ?_⟩;rw[aK,d8,aR]at hz;rw[e,hz]at hy;exact hy
  ·show some (Out.nx [.pm e4,a,b,RM,DR,.ls (W.map wyO++[wyO w]),s6,X,Y,Z,O])=_;rw[show (W++[w]).map wyO=W.map wyO++[wyO w] by rw[bE];rfl]
theorem Iu(hr:rmN T≠[])(lr:(rmN T).length<=13)(ld:(drL T M).length<=20)(a b:Sl):∀(l es:List L4.D) (W:List Wy) (s6 s7 s8 s9 s10:Sl),xA es->W.length+l.length<=900->(∀w∈W,DT T M w)->(W.map λw=>[w.r,w.w]).Nodup->
  ∃(es':List L4.D) (W':List Wy) (t6 t7 t8 t9 t10:Sl),xA es'/\W'.length<=W.length+l.length/\(∀w∈W',DT T M w)/\(W'.map λw=>[w.r,w.w]).Nodup/\
   forL (gN 6) wB l [.pm es,a,b,.im (.lst ((rmN T).map D.str)),.im (.lst ((drL T M).map oS)),.ls (W.map wyO),s6,s7,s8,s9,s10]=some (.nx [.pm es',a,b,.im (.lst ((rmN T).map D.str)),.im (.lst ((drL T M).map oS)),.ls (W'.map wyO),t6,t7,t8,t9,t10])
 |[],es,W,s6,s7,s8,s9,s10,h,_,ok,nd=>⟨es,W,s6,s7,s8,s9,s10,h,aJ _,ok,nd,rfl⟩
 |d::l,es,W,s6,s7,s8,s9,s10,h,hl,ok,nd=>by rw[aO]at hl;obtain⟨e1,W1,t7,t8,t9,t10,h1,l1,ok1,nd1,x1⟩:=Q7 hr lr ld h W (by omega) ok nd a b (.im d) s7 s8 s9 s10;obtain⟨e2,W2,u6,u7,u8,u9,u10,h2,l2,ok2,nd2,x2⟩:=Iu hr lr ld a b l e1 W1 (.im d) t7 t8 t9 t10 h1 (by omega) ok1 nd1;refine⟨e2,W2,u6,u7,u8,u9,u10,h2,by rw[aO];omega,ok2,nd2,?_⟩;unfold forL;rw[show gN 6 d [.pm es,a,b,.im (.lst ((rmN T).map D.str)),.im (.lst ((drL T M).map oS)),.ls (W.map wyO),s6,s7,s8,s9,s10]=some [.pm es,a,b,.im (.lst ((rmN T).map D.str)),.im (.lst ((drL T M).map oS)),.ls (W.map wyO),.im d,s7,s8,s9,s10] from rfl];simp only[x1];exact x2
theorem aaI(M:List Mk)(K:aH):([D.non,.non]++M.map λm=>D.str m.n)++K.map D.str=.non::.non::((M.map Mk.n++K).map some).map oS:=by simp[oS,Function.comp_def]
theorem Uk(hT:T.length<=13)(hM:M.length<=4)(hr:rmN T≠[])(h:xA es):∃W es',Bl es [TD T,MD M]=some (WD W,es')/\xA es'/\W.length<=8/\(∀w∈W,DT T M w)/\(W.map λw=>[w.r,w.w]).Nodup:=by
 let A:Sl:=.im (TD T);let B:Sl:=.im (MD M);let U:Sl:=.un;let RM:Sl:=.im (.lst ((rmN T).map D.str));let DR:Sl:=.im (.lst ((drL T M).map oS));let K:=(T.filter λt=>t.k.mk).map Th.n;have lK:K.length<=13:=by show (fV Th.n _).length<=13;rw[aj];exact bN (cP _ _) hT
 have lr:(rmN T).length<=13:=by unfold rmN;rw[aj];exact bN (cP _ _) hT
 have ld:(drL T M).length<=20:=by unfold drL;rw[aO,aO,aj,aP,aj];show M.length+K.length+1+1<=20;omega
 obtain⟨d,e1,x1,p0,p1,h1⟩:=dgx (i:=0) (b:=9) (a:=cC (.int 9)) (λes=>[.pm es,A,B,RM,DR,.ls [],U,U,U,U,U]) (λ_=>rfl) (λ_ _=>rfl) rfl h (by decide) (by decide);obtain⟨n,rfl⟩:=dP p0;obtain⟨e2,W,t6,t7,t8,t9,t10,h2,lW,ok,nd,x2⟩:=Iu hr lr ld A B ((bf n).map λk:Nat=>D.int (k:Nat)) e1 [] U U U U U h1 (by simp;omega) (λw hw=>(by cases hw)) .nil;rw[aj,cD]at lW;simp only[dw]at lW;refine⟨W,e2,Ly (ρ:=[.pm e2,A,B,RM,DR,.un,t6,t7,t8,t9,t10]) rfl ?_ rfl,h2,by omega,ok,nd⟩;unfold Bk;refine(sW (ρ':=[.pm es,A,B,RM,U,U,U,U,U,U,U]) ((tU (uO (sY (g:=vb) (ds:=[TD T,.lst ((["room"]:aH).map D.str)]) (ρ1:=[.pm es,A,B,U,U,U,U,U,U,U,U]) rfl (GN T (by omega) ["room"] (λk=>decide (k=.room)) Q3)))).trans rfl)).trans ?_;let ρ:aU:=[.pm es,A,B,RM,U,U,U,U,U,U,U];refine(sW (ρ':=[.pm es,A,B,RM,DR,U,U,U,U,U,U]) ((tU (uO (xy (xs:=[.non,.non]++M.map λm=>D.str m.n) (ys:=K.map D.str) (ρ1:=ρ) (ρ2:=ρ) ?_ ?_ ?_))).trans ?_)).trans ?_
 ·exact uO (xy (xs:=[.non,.non]) (ρ1:=ρ) rfl (uO (wq mkD (λm=>D.str m.n) M (ρ1:=ρ) rfl (by omega) λm _=>⟨[.im (mkD m)],[.im (mkD m)],rfl,rfl,rfl⟩)) (by rw[aj];show 2+M.length<=1000;omega))
 ·exact uO (sY (g:=vb) (ds:=[TD T,.lst ((["box", "lamp"]:aH).map D.str)]) (ρ1:=ρ) rfl (GN T (by omega) ["box", "lamp"] Kd.mk YK))
 ·rw[aP,aj,aj];show 2+M.length+K.length<=1000;omega
 ·show some (Out.nx [.pm es,A,B,RM,.im (.lst (([.non,.non]++M.map λm=>D.str m.n)++K.map D.str)),U,U,U,U,U,U])=_;rw[show ([.non,.non]++M.map λm=>D.str m.n)++K.map D.str=(drL T M).map oS from aaI M K]
 refine(sW (ρ':=[.pm es,A,B,RM,DR,.ls [],U,U,U,U,U]) rfl).trans ?_;exact(sW (ρ':=[.pm e2,A,B,RM,DR,.ls (W.map wyO),t6,t7,t8,t9,t10]) ((uM (Va (ρ1:=[.pm e1,A,B,RM,DR,.ls [],U,U,U,U,U]) x1 (by omega))).trans x2)).trans rfl
end
theorem YN:((bf 7).all λtn=>(bf 8).all λn=>decide (rmL++("me" : Str)::((bf n).map λk=>(Hh ((k+tn) % 7)).1)++mkL).Nodup)=true:=by kernel_rfl
theorem OK{α:Type}(l:List α)(j:Nat):(l.drop j++l.take j).Perm l:=(List.perm_append_comm).trans (by rw[List.take_append_drop])
variable{T0:List Th}
theorem Q8(p:T.Perm T0)(h:Jw T0 t):Bv T t:=by
 have hr:∀u∈T0,u.k=.room->u.n∈rmN T:=λu hu hk=>cQ (bo.mpr ⟨p.mem_iff.mpr hu,aM hk⟩);have hh:∀u∈T0,u.k.hd=true->u.n∈hdN T:=λu hu hk=>cQ (bo.mpr ⟨p.mem_iff.mpr hu,hk⟩);obtain⟨n,w,k,s⟩:=t;rcases h with ⟨h1,h2⟩|⟨h1,u,hu,h2,h3⟩|⟨h1,u,hu,h2,h3⟩
 ·simp only at h1 h2;subst h1 h2;exact trivial
 ·simp only at h1 h2;subst h1 h2;exact hr u hu h3
 ·simp only at h1 h2;subst h2;cases k with
  |room=>cases h1
  |you=>cases h1
  |plain=>exact hh u hu h3
  |fixed=>exact hh u hu h3
  |box=>exact hh u hu h3
  |lamp=>exact hh u hu h3
structure Base(T:List Th):Prop where
 len:T.length<=13
 r1:1<=(T.filter λt=>decide (t.k=.room)).length
 r5:(T.filter λt=>decide (t.k=.room)).length<=5
 y1:(T.filter λt=>decide (t.k=.you)).map Th.n=(["me"]:aH)
 p7:(T.filter λt=>t.k.pl).length<=7
 nd:∀m,(T.map Th.n++mkL.take m).Nodup
 nm:∀x∈T.map Th.n,Nm x
 st:∀t∈T,Bv T t
 rk:∃r,Jv T r
 wd:∀t∈T,Bw t
theorem Ul(d:L7 T0)(j:Nat):Base (T0.drop j++T0.take j):=by
 have p:=OK T0 j;obtain⟨r,tn,n,y,P,r1,r5,ht,hn,e0,eP,hP⟩:=d.ex;let R:=(rmL.take r).map rmT;let me:Th:=⟨"me", ["me", "self"],.you,some y⟩;have lR:R.length=r:=by show ((rmL.take r).map rmT).length=r;rw[aj,cn];show min r 5=r;omega
 have lP:P.length=n:=by have:=bH de eP;rw[aj,aj,cD]at this;exact this
 have rk:∀t∈R,t.k=.room:=λt h=>by obtain⟨x,_,rfl⟩:=az.mp h;rfl
 have spl:∀p:Th->Bool,T0.filter p=R.filter p++((if p me=true then [me]else [])++P.filter p):=λp=>by rw[e0,fG,gp];show R.filter p++(if p me=true then me::P.filter p else P.filter p)=_;split<;>rfl
 have all_:∀(p:Kd->Bool) (L:List Th),(∀t∈L,p t.k=true)->L.filter (λt=>p t.k)=L:=λp L h=>kl.mpr h;have non_:∀(p:Kd->Bool) (L:List Th),(∀t∈L,p t.k=false)->L.filter (λt=>p t.k)=[]:=λp L h=>hG.mpr λt ht z=>by rw[h t ht]at z;cases z
 have plk:∀k:Kd,k.pl=true->decide (k=.room)=false/\decide (k=.you)=false:=L6 (λz=>by cases z) (λz=>by cases z) (λ_=>⟨rfl,rfl⟩) (λ_=>⟨rfl,rfl⟩) (λ_=>⟨rfl,rfl⟩) (λ_=>⟨rfl,rfl⟩);have fr:T0.filter (λt=>decide (t.k=.room))=R:=by rw[spl,all_ (λk=>decide (k=.room)) R λt h=>by rw[rk t h];rfl,non_ (λk=>decide (k=.room)) P λt h=>(plk t.k (hP t h)).1];exact bG R
 have fy:T0.filter (λt=>decide (t.k=.you))=[me]:=by rw[spl,non_ (λk=>decide (k=.you)) R λt h=>by rw[rk t h];rfl,non_ (λk=>decide (k=.you)) P λt h=>(plk t.k (hP t h)).2];rfl
 have fp:T0.filter (λt=>t.k.pl)=P:=by rw[spl,non_ Kd.pl R λt h=>by rw[rk t h];rfl,all_ Kd.pl P hP];rfl
 have eN:T0.map Th.n=rmL.take r++("me" : Str)::(bf n).map λk=>(Hh ((k+tn) % 7)).1:=by
  rw[e0,bE,aK];have e1:((rmL.take r).map rmT).map Th.n=rmL.take r:=by rw[bc];exact List.map_id _
  have e2:P.map Th.n=(bf n).map λk=>(Hh ((k+tn) % 7)).1:=by have:=bH (fV bR) eP;rw[bc,bc]at this;exact this
  rw[e1,e2]
 have big:=bK (bp.mp (bp.mp YN tn (bV.mpr ht)) n (bV.mpr hn));have wP:∀t∈P,t.nw∈plL:=λt h=>by have h1:t.nw∈P.map Th.nw:=cQ h;rw[eP]at h1;obtain⟨k,_,e⟩:=az.mp h1;rw[<-e];exact(Q6 (fR _ (by decide))).1
 have w0:∀t∈T0,Bw t:=λt h=>by
  rw[e0]at h;rcases bC.mp h with h|h
  ·obtain⟨x,hx,rfl⟩:=az.mp h;exact⟨cj _ (az.mpr ⟨x,kg hx,rfl⟩),λz=>by cases z⟩
  ·rcases aT.mp h with rfl|h
   ·exact⟨bP _ aV,λz=>by cases z⟩
   ·exact⟨bP _ (ba _ (wP t h)),λ_=>wP t h⟩
 have nd0:∀m,(T0.map Th.n++mkL.take m).Nodup:=λm=>by rw[eN];exact big.sublist (((ie r rmL).append (sM _)).append (ie m mkL))
 constructor
 ·rw[p.length_eq,e0,aP,aO,aj,cn,lP];show min r 5+(n+1)<=13;omega
 ·rw[(p.filter _).length_eq,fr,lR];exact r1
 ·rw[(p.filter _).length_eq,fr,lR];exact r5
 ·have:=p.filter λt=>decide (t.k=.you);rw[fy]at this;rw[List.perm_singleton.mp this];rfl
 ·rw[(p.filter _).length_eq,fp,lP];omega
 ·intro m;exact((p.map _).append_right _).nodup_iff.mpr (nd0 m)
 ·intro x hx;have hx:=(p.map Th.n).mem_iff.mp hx;rw[eN]at hx;rcases bC.mp hx with hx|hx
  ·exact cj _ (cj _ (kg hx))
  ·refine cj _ (bP _ ?_);rcases aT.mp hx with rfl|hx
   ·exact aV
   ·obtain⟨k,_,rfl⟩:=az.mp hx;exact ba _ (cQ (Q6 (fR _ (by decide))).1)
 ·intro t ht;exact Q8 p (d.ord.all t (p.mem_iff.mp ht))
 ·obtain⟨rk,h⟩:=d.ord.rank (bT.mp (nd0 0)).1;refine⟨rk,λt ht=>?_⟩;obtain⟨h1,h2⟩:=h t (p.mem_iff.mp ht);refine⟨by rw[p.length_eq];exact h1,λq hq=>?_⟩;obtain⟨h3,u,hu,e⟩:=h2 q hq;exact⟨h3,u,p.mem_iff.mpr hu,e⟩
 ·exact λt ht=>w0 t (p.mem_iff.mp ht)
variable{ft:FT}{fe:FE}{xs:List L4.D}{ρ' ρ'':aU}
theorem Um{k:Nat}{cap:List Nat}{g:FG}{x:L4.D}{l:List L4.D}(h1:g d (CA k cap ρ)=some ρ1)(h2:ft ρ1=some (true,ρ2))(h3:fe ρ2=some (x,ρ3))(h4:wN cap (ρ3.drop k) ρ=some ρ')(h5:xq k cap g ft fe l ρ'=some (xs,ρ'')):xq k cap g ft fe (d::l) ρ=some (x::xs,ρ''):=by unfold xq;simp only[h1,h2,h3,h4,h5]
theorem Uo{k:Nat}{cap:List Nat}{g:FG}{l:List L4.D}(h1:g d (CA k cap ρ)=some ρ1)(h2:ft ρ1=some (false,ρ2))(h4:wN cap (ρ2.drop k) ρ=some ρ')(h5:xq k cap g ft fe l ρ'=some (xs,ρ'')):xq k cap g ft fe (d::l) ρ=some (xs,ρ''):=by unfold xq;simp only[h1,h2,h4,h5]
theorem Iv(a:Sl)(rest:aU):∀(l:aH) (es:List L4.D),xA es->∃(dk:aH) (es':List L4.D),dk.Sublist l/\xA es'/\
  xq 1 [1] (gN 0) (cT (c2 (dEq false) (vA tw 1 (a1 dN)) aX)) ab (l.map D.str) (a::.ls es::rest)=some (dk.map D.str,a::.ls es'::rest)
 |[],es,h=>⟨[],es,.slnil,h,rfl⟩
 |x::l,es,h=>by
  obtain⟨d,e1,x1,p0,p1,h1⟩:=dgx (i:=1) (b:=2) (a:=cC (.int 2)) (λes=>[.im (.str x),.pm es]) (λ_=>rfl) (λ_ _=>rfl) rfl h (by decide) (by decide);obtain⟨dk,e2,sl,h2,x2⟩:=Iv a rest l e1 h1;have et:cT (c2 (dEq false) (vA tw 1 (a1 dN)) aX) [.im (.str x),.pm es]=some (decide (d=0),[.im (.str x),.pm e1]):=uL (tP (x:=.int d) (y:=.int 0) x1 rfl (yb false d 0));rw[aK];by_cases c:d=0
  ·rw[aM c]at et;exact⟨x::dk,e2,sl.cons_cons x,h2,Um rfl et rfl rfl x2⟩
  ·rw[aL c]at et;exact⟨dk,e2,sl.cons x,h2,Uo rfl et rfl x2⟩
def gl:List Key->List (List L4.D)->Key->List L4.D
 |k::ks,ds::dss,j=>if k=j then ds else gl ks dss j
 |_,_,_=>[]
theorem Np:∀(ks:List Key) (dss:List (List L4.D)) (j:Key),(vU ks (dss.map .lst) j).getD (.lst [])=.lst (gl ks dss j)
 |[],dss,j=>by cases dss<;>rfl
 |k::ks,[],j=>rfl
 |k::ks,ds::dss,j=>by
  rw[aK];unfold vU gl;by_cases h:k=j
  ·rw[af h,af h];rfl
  ·rw[ag h,ag h];exact Np ks dss j
theorem Q9{d:L4.D}{k j:Key}:∀(ks:List Key) (dss:List (List L4.D)),ks.length=dss.length->(k=j->k∈ks)->gl ks (d9 (λk' ds=>if k'=k then ds++[d]else ds) ks dss) j=gl ks dss j++if k=j then [d]else []
 |[],[],_,hm=>by rw[ag λh=>(by cases hm h)];rfl
 |[],_::_,h,_=>by cases h
 |_::_,[],h,_=>by cases h
 |k0::ks,ds::dss,h,hm=>by
  rw[hE];unfold gl;by_cases e:k0=j
  ·subst e;rw[af rfl,af rfl];by_cases e2:k0=k
   ·rw[af e2,af e2.symm]
   ·rw[ag e2,ag λz=>e2 z.symm,bG]
  ·rw[ag e,ag e];exact Q9 ks dss (by simpa using h) λz=>by
    rcases aT.mp (hm z)with y|y
    ·exact ao (y.symm.trans z) e
    ·exact y
theorem Rb{d:L4.D}{k j:Key}:∀(ks:List Key) (dss:List (List L4.D)),ks.length=dss.length->k∉ks->gl (ks++[k]) (dss++[[d]]) j=gl ks dss j++if k=j then [d]else []
 |[],[],_,_=>rfl
 |[],_::_,h,_=>by cases h
 |_::_,[],h,_=>by cases h
 |k0::ks,ds::dss,h,hm=>by
  rw[jm,jm];unfold gl;by_cases e:k0=j
  ·rw[af e,af e,ag λz=>hm (by rw[z,e];exact aV),bG]
  ·rw[ag e,ag e];exact Rb ks dss (by simpa using h) λz=>hm (ba _ z)
theorem Re{d:L4.D}{k:Key}{P Q:List L4.D->Prop}(h1:∀ds,P ds->Q ds)(h2:∀ds,P ds->Q (ds++[d])):∀(ks:List Key) (dss:List (List L4.D)),(∀ds∈dss,P ds)->∀x∈d9 (λk' ds=>if k'=k then ds++[d]else ds) ks dss,Q x
 |[],_,_,x,hx=>by cases hx
 |_::_,[],_,x,hx=>by cases hx
 |k0::ks,ds::dss,h,x,hx=>by
  rw[hE]at hx;rcases aT.mp hx with rfl|hx
  ·have:=h ds aV;split
   ·exact h2 _ this
   ·exact h1 _ this
  ·exact Re h1 h2 ks dss (λds hd=>h ds (ba _ hd)) x hx
theorem GP{d:L4.D}(hd:noC 15 14 d=true):∀ds:List L4.D,yN 15 14 ds=true->yN 15 14 (ds++[d])=true
 |[],_=>by rw[bU];unfold yN;rw[hd];rfl
 |x::ds,h=>by rw[jm];unfold yN at h ⊢;rw[aS]at h ⊢;exact⟨h.1,GP hd ds h.2⟩
theorem GQ:∀ds:List L4.D,(∀d∈ds,noC 15 14 d=true)->yN 15 14 ds=true
 |[],_=>by unfold yN;rfl
 |x::ds,h=>by unfold yN;rw[aS];exact⟨h x aV,GQ ds λd hd=>h d (ba _ hd)⟩
def kv(d:L4.D):Key:=match tH yu "verb" d with
 |some x=>(zD x).getD (.inl 0)
 |none=>.inl 0
def gK(d:L4.D):Bool:=(match tH yu "verb" d with
 |some x=>(zD x).isSome
 |none=>false)&&noC 15 14 d
theorem aaJ(h:gK d=true):∃x,tH yu "verb" d=some x/\zD x=some (kv d):=by
 unfold gK at h;rw[aS]at h;obtain⟨h,_⟩:=h;unfold kv;split at h
 ·rename_i x e;rw[e];cases e2:zD x with
  |none=>rw[e2]at h;cases h
  |some y=>exact⟨x,rfl,e2⟩
 ·cases h
theorem Rf:∀(L:List L4.D) (ks:List Key) (dss:List (List L4.D)),(∀d∈L,gK d=true)->ks.length=dss.length->ks.length+L.length<1000->(∀ds∈dss,ds.length+L.length<1000/\yN 15 14 ds=true)->
  ∃ks' dss',AZ (tH yu "verb") L ks dss=some (ks',dss')/\(∀j,gl ks' dss' j=gl ks dss j++L.filter λd=>decide (kv d=j))/\∀ds∈dss',yN 15 14 ds=true
 |[],ks,dss,_,_,_,h=>⟨ks,dss,rfl,λj=>by rw[List.filter_nil,bG],λds hd=>(h ds hd).2⟩
 |d::L,ks,dss,hg,hl,hk,h=>by
  rw[aO]at hk;have hL:∀ds∈dss,ds.length+L.length+1<1000/\yN 15 14 ds=true:=λds hd=>⟨by have:=(h ds hd).1;rw[aO]at this;omega,(h ds hd).2⟩;have gd:=hg d aV;have nd:noC 15 14 d=true:=by unfold gK at gd;rw[aS]at gd;exact gd.2
  obtain⟨x,e1,e2⟩:=aaJ gd;have st:(Aa ks dss (kv d) d).1.length=(Aa ks dss (kv d) d).2.length/\(Aa ks dss (kv d) d).1.length+L.length<1000/\(∀ds∈(Aa ks dss (kv d) d).2,ds.length+L.length<1000/\yN 15 14 ds=true)/\∀j,gl (Aa ks dss (kv d) d).1 (Aa ks dss (kv d) d).2 j=gl ks dss j++if kv d=j then [d]else []:=by
   unfold Aa;by_cases c:EN ks (kv d)=true
   ·rw[af c];refine⟨by simp only[kh];omega,by simp only;omega,Re (P:=λds=>ds.length+L.length+1<1000/\yN 15 14 ds=true) (λds h=>⟨by omega,h.2⟩) (λds h=>⟨by rw[aP,cB];omega,GP nd ds h.2⟩) ks dss hL,λj=>Q9 ks dss hl λ_=>CK.mp c⟩
   ·rw[ag c];refine⟨by simp[hl],by simp only[aP,cB];omega,λds hd=>?_,λj=>Rb ks dss hl λz=>c (CK.mpr z)⟩;rcases bC.mp hd with hd|hd
    ·exact⟨by have:=(hL ds hd).1;omega,(hL ds hd).2⟩
    ·rw[aR.mp hd];exact⟨by simp only[cB];omega,GP nd [] (by unfold yN;rfl)⟩
  obtain⟨s1,s2,s3,s4⟩:=st;obtain⟨ks',dss',q1,q2,q3⟩:=Rf L (Aa ks dss (kv d) d).1 (Aa ks dss (kv d) d).2 (λx hx=>hg x (ba _ hx)) s1 s2 s3;refine⟨ks',dss',?_,λj=>?_,q3⟩
  ·unfold AZ;simp only[e1,e2];rw[af]
   ·exact q1
   ·rw[aS];refine⟨aM (by omega),bp.mpr λds hd=>aM (by have:=(hL ds hd).1;omega)⟩
  ·rw[q2 j,s4 j,gp,b9];by_cases c:kv d=j
   ·simp[c]
   ·simp[c]
def ruN:aH:=["verb", "tests", "deeds", "text", "refuses"]
def ruO(v:Str)(ts ds:List L4.D)(tx:Str)(rf:Bool):L4.D:=.obj 13 ruN [.str v,.lst ts,.lst ds,.str tx,.bl rf]
def wtL(w:Wy):List L4.D:=[atO "me" w.r,woO w.w]++match w.m with|none=>[]|some m=>[noO (mkO m 0)]
def goO(w:Wy):L4.D:=ruO "go" (wtL w) [mvO "me" w.g] "You go." false
def A21:List L4.D:=(Ak [.str "me"]).getD []++(A9 []).getD []++(Ba []).getD []++(zk []).getD []
def SH(W:List Wy):List L4.D:=A21++(W.map goO++[ruO "go" [] [] "No way there." true])++[ruO "wait" [] [] "Time goes by." false]
theorem aaK(w:Wy):Bb [.str "me", wyO w]=some (wtL w):=by obtain⟨r,x,g,m⟩:=w;cases m<;>kernel_rfl
theorem Up(w:Wy):yE [.str "go", .lst (wtL w),.lst [mvO "me" w.g],.str "You go."]=some (goO w):=by kernel_rfl
theorem aaL(W:List Wy)(hl:W.length<=8):Cd [.str "me", WD W]=some (W.map goO++[ruO "go" [] [] "No way there." true]):=by
 let ρ:aU:=[.im (.str "me"),.im (WD W),.un];let σ:aU:=[.im (.str "me"),.im (WD W),.im (.lst (W.map goO))];refine ym (ρ:=σ) rfl ?_;unfold Cc;refine(sW (ρ':=σ) ((tU (uO (wq wyO goO W (ρ1:=ρ) rfl (by omega) λw _=>⟨[.im (wyO w),.im (.str "me")],[.im (wyO w),.im (.str "me")],rfl,?_,rfl⟩))).trans rfl)).trans ?_
 ·exact sY (ds:=[.str "go", .lst (wtL w),.lst [mvO "me" w.g],.str "You go."]) (sV rfl (sV (uO (sY (ds:=[.str "me", wyO w]) rfl (aaK w))) (sV rfl (sV rfl rfl)))) (Up w)
 ·exact wa (xy (xs:=W.map goO) (ys:=[ruO "go" [] [] "No way there." true]) (ρ1:=σ) rfl (by kernel_rfl) (by rw[aj];show W.length+1<=1000;omega))
theorem Nq:A21.length<=50:=c6 (by kernel_rfl)
theorem YO{W:List Wy}(hl:W.length<=8):(SH W).length<=100:=by have:=Nq;unfold SH;rw[aP,aP,aP,aj];show A21.length+(W.length+1)+1<=100;omega
theorem OL(W:List Wy)(hl:W.length<=8):yF [.str "me", WD W]=some (SH W):=by
 have:=Nq;let ρ:aU:=[.im (.str "me"),.im (WD W)];refine ym (ρ:=ρ) rfl (wa (xy (xs:=A21++(W.map goO++[ruO "go" [] [] "No way there." true])) (ys:=[ruO "wait" [] [] "Time goes by." false]) (ρ1:=ρ) (uO (xy (xs:=A21) (ρ1:=ρ) (by kernel_rfl) (uO (sY (ds:=[.str "me", WD W]) rfl (aaL W hl))) ?_)) (by kernel_rfl) ?_))
 ·rw[aP,aj];show A21.length+(W.length+1)<=1000;omega
 ·rw[aP,aP,aj];show A21.length+(W.length+1)+1<=1000;omega
theorem Vc(W:List Wy):∀d∈SH W,gK d=true:=λd hd=>by
 unfold SH at hd;rcases bC.mp hd with hd|hd
 ·rcases bC.mp hd with hd|hd
  ·exact bp.mp (show A21.all gK=true by kernel_rfl) d hd
  ·rcases bC.mp hd with hd|hd
   ·obtain⟨w,_,rfl⟩:=az.mp hd;obtain⟨r,x,g,m⟩:=w;cases m<;>kernel_rfl
   ·rw[aR.mp hd];kernel_rfl
 ·rw[aR.mp hd];kernel_rfl
theorem YQ(h:gK d=true):noC 15 14 d=true:=by unfold gK at h;rw[aS]at h;exact h.2
def wNs:aH:=["kept_things", "kept_marks", "kept_dark", "kept_ways", "kept_verbs", "shared_verbs", "your_name", "things_by_name", "mosts_by_name", "verbs_by_word", "kept_rules", "shared_rules", "copied_rules", "rules_by_verb"]
variable{ns:aH}
section
variable{T:List Th}{M:List Mk}{dk:aH}{W:List Wy}
def wA(T:List Th)(M:List Mk)(dk:aH)(W:List Wy)(c:L4.D):List L4.D:=[TD T,MD M,.lst (dk.map D.str),WD W,VD [],VD v9,.str "me", .dic (nK T) (T.map thD),mD T M,vwD v9,.lst [],.lst (SH W),.lst [],c]
def wO(T:List Th)(M:List Mk)(dk:aH)(W:List Wy)(c:L4.D):L4.D:=.obj 14 wNs (wA T M dk W c)
def wS(T:List Th)(M:List Mk)(dk:aH)(W:List Wy)(c:L4.D)(q:Sl)(k:Nat):aU:=[.ob 14 (wNs.take k) ((wA T M dk W c).take k),.im (TD T),.im (MD M),.im (.lst (dk.map D.str)),.im (WD W),.im (VD []),.im (.lst []),q]
theorem Rg{r:aU}{r':aU}(h1:e (.im (.obj 14 ns ds)::r.map z9)=some (d,r'))(h2:noC 15 14 d=true):BG 15 e (.ob 14 ns ds::r)=some (d,.ob 14 ns ds::r):=by unfold BG;simp only[h1,h2];rfl
theorem KW{nm:Str}{r:aU}(h1:e (.ob 14 ns ds::r)=some (d,.ob 14 ns ds::r))(h2:ns.contains nm=false)(h3:ds.length=ns.length)(h4:ns.length<900):uz 14 0 nm e (.ob 14 ns ds::r)=some (.nx (.ob 14 (ns++[nm]) (ds++[d])::r)):=by unfold uz;rw[h1];show (if 14=14 then if ns.contains nm=true then none else if ds.length=ns.length then if ns.length<900 then some (Out.nx (.ob 14 (ns++[nm]) (ds++[d])::r))else none else none else none)=_;rw[af rfl,h2,ag bj,af h3,af h4]
theorem Jz(a b c d:L4.D)(ns:aH)(ds:List L4.D):xj [.obj 14 ("kept_things" ::"kept_marks" ::"kept_dark" ::"kept_ways" ::"kept_verbs" ::"shared_verbs" ::ns) (a::b::c::d::VD []::VD v9::ds)]=some (VD v9):=by kernel_rfl
theorem Rh(g:Good T M dk W):∃ks dss,xl [TD T,MD M,.lst (dk.map D.str),WD W,VD [],.lst []]=some (wNs,wA T M dk W (.dic ks (dss.map .lst)))/\∀j,gl ks dss j=(SH W).filter λd=>decide (kv d=j):=by
 have hs:=YO g.w8;have hl:=g.len;obtain⟨ks,dss,g1,g2,g3⟩:=Rf (SH W) [] [] (Vc W) rfl (by simp only[dw];omega) λds h=>(by cases h);refine⟨ks,dss,?_,λj=>(g2 j).trans (bU _)⟩;let c:L4.D:=.dic ks (dss.map .lst);let B:Sl:=.im (.bl true);have nc:noC 15 14 c=true:=by show yN 15 14 (dss.map .lst)=true;exact GQ _ λd hd=>by obtain⟨ds,h,rfl⟩:=az.mp hd;exact g3 ds h
 let S:=wS T M dk W c;have e:xk (S .un 0)=some (.nx (S B 14)):=by
  unfold xk;refine(sW (ρ':=S .un 0) (uN (sY (ds:=[TD T,MD M,.lst (dk.map D.str),WD W,VD [],VD v9]) (sV rfl (sV rfl (sV rfl (sV rfl (sV rfl (sV (uO (sY (ds:=[]) rfl Q0)) rfl)))))) (GK g)))).trans ?_;refine(sW (ρ':=S .un 1) (by kernel_rfl)).trans ((sW (ρ':=S .un 2) (by kernel_rfl)).trans ((sW (ρ':=S .un 3) (by kernel_rfl)).trans ((sW (ρ':=S .un 4) (by kernel_rfl)).trans ((sW (ρ':=S .un 5) (by kernel_rfl)).trans ((sW (ρ':=S .un 6) (by kernel_rfl)).trans ?_)))));have eY:((T.filter λt=>decide (t.k=.you)).map λt=>D.str t.n)=[.str "me"]:=by rw[show (λt:Th=>D.str t.n)=D.str∘Th.n from rfl,<- bc,g.y1];rfl
  refine(sW (ρ':=S .un 7) (KW (ns:=wNs.take 6) (ds:=(wA T M dk W c).take 6) (r:=(S .un 6).tail) (Rg (d:=.str "me") (r':=(.im (.obj 14 (wNs.take 6) ((wA T M dk W c).take 6)))::((S .un 6).tail).map z9) (tP (x:=.lst [.str "me"]) (uh (xs:=(wA T M dk W c).take 6) (ys:=[.str Kd.you.s]) (hh:=xZ) rfl rfl rfl rfl ((GL T (by omega) _ _ .you).trans (by rw[eY]))) rfl rfl) rfl) rfl rfl (by decide))).trans ?_;refine(sW (ρ':=S .un 8) (KW (r:=(S .un 7).tail) (sY (ds:=[TD T]) rfl (L1 T (by omega) g.ndT)) rfl rfl (by decide))).trans ?_;refine(sW (ρ':=S .un 9) (KW (r:=(S .un 8).tail) (sY (ds:=[TD T,MD M]) rfl (Q1 g)) rfl rfl (by decide))).trans ?_;refine(sW (ρ':=S .un 10) (by kernel_rfl)).trans ?_;refine(sW (ρ':=S B 10) (by kernel_rfl)).trans ((sW (ρ':=S B 10) (by kernel_rfl)).trans ((sW (ρ':=S B 11) (by kernel_rfl)).trans ?_));refine(sW (ρ':=S B 12) (KW (r:=(S B 11).tail) (Rg (d:=.lst (SH W)) (r':=(.im (.obj 14 (wNs.take 11) ((wA T M dk W c).take 11)))::((S B 11).tail).map z9) (uO (sY (ds:=[.str "me", WD W]) rfl (OL W g.w8))) (GQ _ λd hd=>YQ (Vc W d hd))) rfl rfl (by decide))).trans ?_;refine(sW (ρ':=S B 13) (by kernel_rfl)).trans ?_;refine KW (ns:=wNs.take 13) (ds:=(wA T M dk W c).take 13) (r:=(S B 13).tail) (Rg (sY (ds:=[.lst (SH W)]) (sV (uO (xy (xs:=[]) (ys:=SH W) rfl rfl (by simp only[dw];omega))) rfl) (r:=c) ?_) nc) rfl rfl (by decide);refine tp (ρ:=[.im (.lst (SH W)),.un,.un]) rfl ?_;show (match AZ (tH yu "verb") (SH W) [] []with
   |some (ks,dss)=>some (Out.rt (.dic ks (dss.map .lst)) [.im (.lst (SH W)),.un,.un])
   |none=>none)=_
  rw[g1]
 unfold xl fnI;rw[af (show [TD T,MD M,.lst (dk.map D.str),WD W,VD [],.lst []].length=6 from rfl)];rw[show xk (stI 14 8 [TD T,MD M,.lst (dk.map D.str),WD W,VD [],.lst []])=some (.nx (S B 14)) from e];rfl
end
abbrev Ky:=Str×Str
def kD(k:Ky):L4.D:=.tup [.str k.1,.str k.2]
def sD(P:List Ky)(v:Ky->L4.D):L4.D:=.tup (P.map λk=>.tup [kD k,v k])
theorem JA(k j:Ky):dEq false (kD k) (kD j)=some (.bl (decide (k=j))):=by obtain⟨a,b⟩:=k;obtain⟨c,d⟩:=j;have e0:Jc false (.tup [.str a,.str b]) (.tup [.str c,.str d])=none:=rfl;have e1:P1 false (.tup [.str a,.str b]) (.tup [.str c,.str d])=some (.bl (L3.eqD (.tup [.str a,.str b]) (.tup [.str c,.str d]))):=rfl;unfold dEq kD;rw[e0];simp only;rw[e1];congr 2;rw[cM];simp[L3.eqD,L3.zw]
theorem GR(p:Sl)(k:Ky)(v:Ky->L4.D):∀(P:List Ky) (s:Sl),∃s',forL (gN 2) (sIf (cT (c2 (dEq false) (c2 dIx aq aX) ak)) (tE (c2 dIx aq bg)) tL) (P.map λk=>.tup [kD k,v k]) [p,.im (kD k),s]=some (if k∈P then .rt (v k) [p,.im (kD k),s']else .nx [p,.im (kD k),s'])
 |[],s=>⟨s,by rw[ag dZ];rfl⟩
 |q::P,s=>by
  let Q:Sl:=.im (.tup [kD q,v q]);have ev:cT (c2 (dEq false) (c2 dIx aq aX) ak) [p,.im (kD k),Q]=some (decide (q=k),[p,.im (kD k),Q]):=uL (tP (x:=kD q) (y:=kD k) rfl rfl (JA _ _));rw[aK];unfold forL;rw[show gN 2 (.tup [kD q,v q]) [p,.im (kD k),s]=some [p,.im (kD k),Q] from rfl];by_cases h:q=k
  ·rw[aM h]at ev;refine⟨Q,?_⟩;simp only[tV ev];rw[af (by rw[h];exact aV),<- h];rfl
  ·rw[aL h]at ev;obtain⟨s',h1⟩:=GR p k v P Q;refine⟨s',?_⟩;simp only[ux ev,tL];rw[h1];by_cases hm:k∈P
   ·rw[af hm,af (ba _ hm)]
   ·rw[ag hm,ag λz=>by rcases aT.mp z with z|z;exact h z.symm;exact hm z]
theorem KY(P:List Ky)(v:Ky->L4.D)(k:Ky):Am [sD P v,kD k]=some (if k∈P then v k else .non):=by
 obtain⟨s',h⟩:=GR (.im (sD P v)) k v P .un;by_cases hm:k∈P
 ·rw[af hm]at h ⊢;exact tp (ρ:=[.im (sD P v),.im (kD k),s']) rfl (tJ ((uM rfl).trans h))
 ·rw[ag hm]at h ⊢;exact tp (ρ:=[.im (sD P v),.im (kD k),s']) rfl ((sW ((uM rfl).trans h)).trans rfl)
def up(v:Ky->L4.D)(k:Ky)(d:L4.D):Ky->L4.D:=λq=>if q=k then d else v q
theorem Nr(P:List Ky)(hP:P.length<=900)(v:Ky->L4.D)(k:Ky)(d:L4.D):y7 [sD P v,kD k,d]=some (sD P (up v k d)):=by
 let ρ:aU:=[.im (sD P v),.im (kD k),.im d];refine tp (ρ:=ρ) rfl (tW ?_);have e:cL (tN 1 [1,2] (iT ab) (gN 0) uF (cIf (cT (c2 (dEq false) (c2 dIx ab aX) ak)) (tR dq) ab)) ρ=some (.lst (P.map λq=>.tup [kD q,up v k d q]),ρ):=by
  refine uO (wq (λq:Ky=>.tup [kD q,v q]) (λq=>.tup [kD q,up v k d q]) P (ρ1:=ρ) rfl (by omega) λq _=>⟨[.im (.tup [kD q,v q]),.im (kD k),.im d],[.im (.tup [kD q,v q]),.im (kD k),.im d],rfl,?_,rfl⟩);have ev:cT (c2 (dEq false) (c2 dIx ab aX) ak) [.im (.tup [kD q,v q]),.im (kD k),.im d]=some (decide (q=k),[.im (.tup [kD q,v q]),.im (kD k),.im d]):=uL (tP (x:=kD q) (y:=kD k) rfl rfl (JA _ _));unfold cIf up;rw[ev];by_cases h:q=k
  ·rw[aM h,af h,h];rfl
  ·rw[aL h,ag h];rfl
 show Ay _ ρ=_;unfold Ay;rw[e];rfl
theorem Iw(P:List Ky)(hP:P.length<=900)(v:Ky->L4.D)(k:Ky)(d:L4.D):zr [sD P v,.tup [kD k,d]]=some (sD P (up v k d)):=by
 let C:Sl:=.im (.tup [kD k,d]);let ρ:aU:=[.im (sD P v),C];refine tp (ρ:=ρ) rfl (tW ?_);have e:cL (tN 2 [1] (iT ab) (gT gR 2) uF (tR qg)) ρ=some (.lst (P.map λq=>.tup [kD q,up v k d q]),ρ):=by
  refine uO (wq (λq:Ky=>.tup [kD q,v q]) (λq=>.tup [kD q,up v k d q]) P (ρ1:=ρ) rfl (by omega) λq _=>⟨[.im (kD q),.im (v q),C],[.im (kD q),.im (v q),C],rfl,?_,rfl⟩);have ev:c2 (dEq false) ab (c2 dIx aq aX) [.im (kD q),.im (v q),C]=some (.bl (decide (q=k)),[.im (kD q),.im (v q),C]):=tP (x:=kD q) (y:=kD k) rfl rfl (JA _ _);refine AV (sV rfl (sV (tP (x:=.lst [v q,d]) (y:=.int (if q=k then 1 else 0)) rfl (uA ev ?_) ?_) rfl)) (c6 rfl)
  ·by_cases h:q=k
   ·rw[aM h,af h];rfl
   ·rw[aL h,ag h];rfl
  ·unfold up;by_cases h:q=k
   ·rw[af h,af h];rfl
   ·rw[ag h,ag h];rfl
 show Ay _ ρ=_;unfold Ay;rw[e];rfl
def va(at_:Str->Str)(mk:Str->Int):Ky->L4.D:=λk=>if k.1="at" then .str (at_ k.2)else .int (mk k.2)
def ups{α:Type}(f:Str->α)(x:Str)(d:α):Str->α:=λy=>if y=x then d else f y
theorem Vd(at_:Str->Str)(mk:Str->Int)(x d:Str)(P:List Ky):sD P (up (va at_ mk) ("at", x) (.str d))=sD P (va (ups at_ x d) mk):=by
 unfold sD;congr 1;refine ko λk _=>?_;obtain⟨a,y⟩:=k;unfold up va ups;by_cases h:a="at"
 ·subst h;by_cases h2:y=x
  ·subst h2;simp
  ·simp[h2]
 ·simp[h]
theorem Ve(at_:Str->Str)(mk:Str->Int)(x:Str)(d:Int)(P:List Ky)(hP:∀k∈P,k.1="at" \/ k.1="mark"):sD P (up (va at_ mk) ("mark", x) (.int d))=sD P (va at_ (ups mk x d)):=by
 unfold sD;congr 1;refine ko λk hk=>?_;have hk:=hP k hk;obtain⟨a,y⟩:=k;unfold up va ups;rcases hk with h|h
 ·have h:a="at" := h;subst h;have:¬("at" : Str)="mark" := by decide
  simp[this]
 ·have h:a="mark" := h;subst h;have:¬("mark" : Str)="at" := by decide
  by_cases h2:y=x
  ·subst h2;simp[this]
  ·simp[h2,this]
theorem getD_map{α β:Type}(f:α->β)(a:α)(b:β)(l:List α)(h:i<l.length):(l.map f).getD i b=f (l.getD i a):=by rw[cJ,cJ,bB,aZ h];rfl
theorem L8{α:Type}(d:α):∀l:List α,(bf l.length).map (λi=>l.getD i d)=l:=λl=>by
 apply List.ext_getElem
 ·rw[aj,cD]
 ·intro i h1 h2;rw[List.getElem_map,List.getElem_range,cJ,aZ h2];rfl
def kL2(k:Ky):aH:=[k.1,k.2]
theorem KZ:∀P:List Ky,xt (P.map kD)=some (P.map kL2)
 |[]=>rfl
 |q::P=>by rw[aK];unfold xt;rw[KZ P];rfl
theorem Rj(P:List Ky)(h0:0<P.length)(h1:P.length<64):∃R:List Ky,R.Perm P/\F2 (P.map kD)=some (R.map kD):=by
 let c:Nat->Nat->Bool:=λi j=>G4 ((P.map kL2).getD i []) ((P.map kL2).getD j []);refine⟨(LM c P.length).map λi=>P.getD i ("", ""),?_,?_⟩
 ·have:=(DH c h0).map λi=>P.getD i ("", "");rw[L8]at this;exact this
 ·unfold F2;rw[KZ];simp only[aj];rw[af ⟨h0,h1⟩,bc];congr 1;exact ko λi hi=>getD_map kD ("", "") .non P (Ji c h0 i hi)
def nrN(T:List Th):aH:=(T.filter λt=>!decide (t.k=.room)).map Th.n
def PT(T:List Th)(M:List Mk):List Ky:=((nrN T).map λx=>(("at", x):Ky))++(mkN T M).map λx=>(("mark", x):Ky)
theorem YR(t:Th):dEq true (.str t.k.s) (.str "room")=some (.bl (!decide (t.k=.room))):=by cases t.k<;>kernel_rfl
variable{u:Th}
section
variable{T:List Th}{M:List Mk}{dk:aH}{W:List Wy}{c:L4.D}{P:List Ky}
theorem Rk(T:List Th):(nrN T).length<=T.length:=by unfold nrN;rw[aj];exact cP _ _
theorem Rm(T:List Th)(M:List Mk):(mkN T M).length<=T.length+M.length:=by unfold mkN;rw[aP,aj,aj];have:=cP (λt:Th=>t.k.mk) T;omega
theorem Nt(g:Good T M dk W):∃t∈T,t.n="me" /\ t.k=.you:=by
 have h:("me" : Str)∈(T.filter λt=>decide (t.k=.you)).map Th.n:=by rw[g.y1];exact aR.mpr rfl
 obtain⟨t,ht,e⟩:=az.mp h;rw[bo]at ht;exact⟨t,ht.1,e,bK ht.2⟩
theorem L9{T:List Th}(nd:(T.map Th.n).Nodup)(ht:t∈T)(hu:u∈T)(e:t.n=u.n):t=u:=by
 induction T with
 |nil=>cases ht
 |cons a T ih=>
  rw[aK,c9]at nd;rcases aT.mp ht with h1|h1<;>rcases aT.mp hu with h2|h2
  ·rw[h1,h2]
  ·exact ao (show a.n∈T.map Th.n from by rw[<-h1,e];exact az.mpr ⟨_,h2,rfl⟩) nd.1
  ·exact ao (show a.n∈T.map Th.n from by rw[<-h2,<- e];exact az.mpr ⟨_,h1,rfl⟩) nd.1
  ·exact ih nd.2 h1 h2
theorem JB(nd:(T.map Th.n).Nodup)(p:Th->Bool)(ht:t∈T):t.n∈(T.filter p).map Th.n ↔ p t=true:=by
 constructor
 ·intro h;obtain⟨u,hu,e⟩:=az.mp h;rw[bo]at hu;rw[<-L9 nd hu.1 ht e];exact hu.2
 ·exact λh=>az.mpr ⟨t,bo.mpr ⟨ht,h⟩,rfl⟩
theorem Bn(g:Good T M dk W):("me" : Str)∈nrN T:=by obtain⟨t,ht,e,k⟩:=Nt g;rw[<-e];exact(JB g.ndT _ ht).mpr (by rw[k];rfl)
theorem Ma(g:Good T M dk W):0<(PT T M).length/\(PT T M).length<64:=by have h1:=Rk T;have h2:=Rm T M;have h3:=i9 (Bn g);have h4:=g.len;have h5:=g.m4;unfold PT;rw[aP,aj,aj];omega
theorem Ro(h:P.Perm (PT T M))(x:Str):(("at", x):Ky)∈P ↔ x∈nrN T:=by
 rw[h.mem_iff];unfold PT;rw[bC,az,az];constructor
 ·rintro(⟨y,hy,e⟩|⟨y,hy,e⟩)
  ·injection e with _ e;rw[<-e];exact hy
  ·injection e with e _;exact ao e (by decide)
 ·exact λh=>.inl ⟨x,h,rfl⟩
theorem Vf(h:P.Perm (PT T M))(x:Str):(("mark", x):Ky)∈P ↔ x∈mkN T M:=by
 rw[h.mem_iff];unfold PT;rw[bC,az,az];constructor
 ·rintro(⟨y,hy,e⟩|⟨y,hy,e⟩)
  ·injection e with e _;exact ao e (by decide)
  ·injection e with _ e;rw[<-e];exact hy
 ·exact λh=>.inr ⟨x,h,rfl⟩
theorem Rp(h:P.Perm (PT T M)):∀k∈P,k.1="at" \/ k.1="mark" := λk hk=>by
 have hk:=h.mem_iff.mp hk;unfold PT at hk;rw[bC,az,az]at hk;rcases hk with ⟨y,_,rfl⟩|⟨y,_,rfl⟩
 ·exact .inl rfl
 ·exact .inr rfl
theorem Rq(g:Good T M dk W):∃R:List Ky,R.Perm (PT T M)/\BP [wO T M dk W c]=some (.lst (R.map kD)):=by
 have hT:=g.len;have hM:=g.m4;obtain⟨h0,h1⟩:=Ma g;obtain⟨R,pR,e⟩:=Rj (PT T M) h0 h1;refine⟨R,pR,?_⟩;let w:=wO T M dk W c;let at':L4.D:=.lst ((nrN T).map λx=>kD ("at", x));let mk':L4.D:=.lst ((mkN T M).map λx=>kD ("mark", x));let ρ:Sl->Sl->aU:=λp q=>[.im w,p,q];have l1:=Rk T;have l2:=Rm T M;have e1:tN 1 [] (iL (c1 (tH u5 "kept_things") ab)) (gN 0) (cT (c2 (dEq true) (c1 (tH ue "kind") ab) c3)) (tR qt) (ρ .un .un)=some ((T.filter λt=>!decide (t.k=.room)).map λt=>kD ("at", t.n),ρ .un .un):=
  x9 thD (λt=>kD ("at", t.n)) (λt=>!decide (t.k=.room)) T (ρ1:=ρ .un .un) rfl (by omega) λt _=>⟨[.im (thD t)],[.im (thD t)],rfl,uL (tP (uA rfl (yJ t)) rfl (YR t)),λ_=>⟨_,rfl,rfl⟩,λ_=>rfl⟩
 have e2:tN 1 [] (iL (cL (uy wg qj))) (gN 0) uF (tR (aCons iM bM)) (ρ (.im at') .un)=some ((mkN T M).map λx=>kD ("mark", x),ρ (.im at') .un):=
  wq D.str (λx=>kD ("mark", x)) (mkN T M) (ρ1:=ρ (.im at') .un) (EH (uO (sY (sV rfl (sV rfl rfl)) (BW T M (by omega) hM)))) (by omega) λx _=>⟨[.im (.str x)],[.im (.str x)],rfl,rfl,rfl⟩
 have e3:DJ (cL (w9 ak aq)) (ρ (.im at') (.im mk'))=some (R.map kD,ρ (.im at') (.im mk')):=by
  have q:cL (w9 ak aq) (ρ (.im at') (.im mk'))=some (.lst ((PT T M).map kD),ρ (.im at') (.im mk')):=by refine(uO (xy (xs:=(nrN T).map λx=>kD ("at", x)) (ys:=(mkN T M).map λx=>kD ("mark", x)) rfl rfl (by rw[aj,aj];omega))).trans ?_;unfold PT;rw[bE,bc,bc];rfl
  unfold DJ;rw[q];simp only[e]
 refine FY (ρ:=ρ (.im at') (.im mk')) rfl ?_;refine(sW (ρ':=ρ (.im at') .un) ((tU (uO e1)).trans ?_)).trans ((sW (ρ':=ρ (.im at') (.im mk')) ((tU (uO e2)).trans rfl)).trans (wa e3));show some (Out.nx [Sl.im w,.im (.lst ((T.filter λt=>!decide (t.k=.room)).map λt=>kD ("at", t.n))),.un])=some (Out.nx [Sl.im w,.im (.lst (((T.filter λt=>!decide (t.k=.room)).map Th.n).map λx=>kD ("at", x))),.un]);rw[bc];rfl
theorem xS(nd:(T.map Th.n).Nodup)(ht:t∈T):wj [wO T M dk W c,.str t.n]=some (thD t):=by refine tp (ρ:=[.im (wO T M dk W c),.im (.str t.n)]) rfl (tW (tP (x:=.dic (nK T) (T.map thD)) (y:=.str t.n) rfl rfl ?_));show some ((vU (nK T) (T.map thD) (kS t.n)).getD .non)=_;rw[E8 nd thD ht];rfl
theorem OM(g:Good T M dk W):Al [wO T M dk W c]=some (.dic (M.map λm=>kS m.n) (M.map λm=>D.int m.st)):=by
 let w:=wO T M dk W c;have nd:((M.map λm=>kS m.n)).Nodup:=by have:=(bT.mp g.nd).2.1;rw[show (λm:Mk=>kS m.n)=kS∘Mk.n from rfl,<- bc];exact n4.mpr (this.imp λh e=>h (Gy e))
 have hm:=g.m4;obtain⟨s',e⟩:=zP (g:=gN 2) (i:=1) (fk:=c1 (tH tY "name") aq) (fv:=c1 (tH uP "start") aq) mkD Mk.n (λm=>D.int m.st) (λks ds s=>[.im w,.dk ks ds,s])
  (λm ks ds s=>⟨[.im w,.dk ks ds,.im (mkD m)],rfl,rfl,rfl,rfl,λks' ds'=>⟨_,rfl⟩⟩) M [] [] .un (by rw[bU];exact nd) (by simp;omega) rfl
 rw[bU,bU]at e;refine tp (ρ:=[.im w,.im (.dic (M.map λm=>kS m.n) (M.map λm=>D.int m.st)),s']) rfl ?_;refine(sW (ρ':=[.im w,.dk [] [],.un]) rfl).trans ?_;refine(sW ((uM (ds:=M.map mkD) (ρ1:=[.im w,.dk [] [],.un]) ?_).trans e)).trans rfl;exact EH (uh (m:="own_marks") (ns:=wNs) (xs:=wA T M dk W c) (ys:=[]) rfl rfl rfl rfl rfl)
theorem Rr(g:Good T M dk W)(ht:t∈T)(st:L4.D):wD [wO T M dk W c,st,kD ("at", t.n)]=some (oS t.s):=by let ρ:aU:=[.im (wO T M dk W c),.im st,.im (kD ("at", t.n))];refine tp (ρ:=ρ) rfl (tJ ((tV (ρ':=ρ) (uL (tP (x:=.str "at") (y:=.str "at") rfl rfl (by rw[vm];rfl)))).trans (tW (uA (uh (m:="thing_of") (ns:=wNs) (xs:=wA T M dk W c) (ys:=[.str t.n]) rfl rfl rfl rfl (xS g.ndT ht)) (E7 t)))))
theorem Mb(x:Str)(ks:List Key)(ds:List L4.D):wD [wO T M dk W c,.dic ks ds,kD ("mark", x)]=some ((vU ks ds (kS x)).getD (.int 0)):=by let ρ:aU:=[.im (wO T M dk W c),.im (.dic ks ds),.im (kD ("mark", x))];refine tp (ρ:=ρ) rfl ((sW (ρ':=ρ) ((ux (ρ':=ρ) (uL (tP (x:=.str "mark") (y:=.str "at") rfl rfl (by rw[vm];rfl)))).trans rfl)).trans rfl)
theorem K0{α:Type}(kf:α->Key)(vf:α->Int)(k:Key):∀l:List α,∃z,(vU (l.map kf) (l.map λa=>D.int (vf a)) k).getD (.int 0)=.int z
 |[]=>⟨0,rfl⟩
 |a::l=>by
  rw[aK,aK];unfold vU;split
  ·exact⟨vf a,rfl⟩
  ·exact K0 kf vf k l
def at0(T:List Th)(x:Str):Str:=((T.find? λt=>decide (t.n=x)).bind Th.s).getD ""
theorem JC(nd:(T.map Th.n).Nodup)(ht:t∈T):at0 T t.n=t.s.getD "" := by
 unfold at0;cases h:T.find? λu=>decide (u.n=t.n)with
 |none=>exact ao (nT.mp h t ht) (by simp)
 |some u=>rw[L9 nd (mQ h) ht (bK (oR (p:=λu:Th=>decide (u.n=t.n)) h))];rfl
theorem Nu(g:Good T M dk W)(ht:t∈T)(h:t.k≠.room):∃p,t.s=some p/\p∈hdN T/\(t.k=.you->p∈rmN T):=by
 have h2:=g.st t ht;unfold Bv at h2;have rh:∀p,p∈rmN T->p∈hdN T:=λp hp=>by obtain⟨u,hu,e⟩:=az.mp hp;rw[bo]at hu;exact az.mpr ⟨u,bo.mpr ⟨hu.1,by rw[bK hu.2];rfl⟩,e⟩
 cases hs:t.s with
 |none=>rw[hs]at h2;cases hk:t.k<;>rw[hk]at h2 h<;>first|exact ao rfl h|exact h2.elim
 |some p=>rw[hs]at h2;refine⟨p,rfl,?_⟩;cases hk:t.k<;>rw[hk]at h2 h<;>first|exact ao rfl h|exact⟨rh p h2,λ_=>h2⟩|exact⟨h2,λz=>by cases z⟩
theorem Rt(g:Good T M dk W):∃(P:List Ky) (m:Str->Int),P.Perm (PT T M)/\zm [wO T M dk W c]=some (sD P (va (at0 T) m)):=by
 obtain⟨R,pR,eR⟩:=Rq (c:=c) g;have hm:∀x,∃z,(vU (M.map λm=>kS m.n) (M.map λm=>D.int m.st) (kS x)).getD (.int 0)=.int z:=λx=>K0 (λm:Mk=>kS m.n) Mk.st (kS x) M;refine⟨R,λx=>(hm x).choose,pR,?_⟩;let w:=wO T M dk W c;let st:L4.D:=.dic (M.map λm=>kS m.n) (M.map λm=>D.int m.st);have hR:R.length<64:=by rw[pR.length_eq];exact(Ma g).2
 have val:∀k∈R,wD [w,st,kD k]=some (va (at0 T) (λx=>(hm x).choose) k):=λk hk=>by
  obtain⟨a,x⟩:=k;rcases Rp pR _ hk with h|h
  ·have h:a="at" := h;subst h;have hx:=(Ro pR x).mp hk;obtain⟨t,ht,rfl⟩:=az.mp hx;rw[bo]at ht;obtain⟨p,hp,_⟩:=Nu g ht.1 (λz=>by rw[z]at ht;exact ao ht.2 (by decide));rw[Rr g ht.1];unfold va;rw[af rfl,JC g.ndT ht.1,hp];rfl
  ·have h:a="mark" := h;subst h;rw[Mb,(hm x).choose_spec];unfold va;rw[ag (show ¬("mark" : Str)="at" by decide)]
 let ρ:aU:=[.im w,.im st];refine tp (ρ:=ρ) rfl ((sW (ρ':=ρ) ((tU (sY (sV rfl rfl) (OM g))).trans rfl)).trans (tW ?_));have e:=wq (k:=1) (cap:=[0,1]) (g:=gN 0) (fe:=tR qL) (s:=iL (tT y6 "parts" ab ui)) (ρ:=ρ) (ρ1:=ρ) kD (λk=>.tup [kD k,va (at0 T) (λx=>(hm x).choose) k]) R
  (EH (uh (m:="parts") (ns:=wNs) (xs:=wA T M dk W c) (ys:=[]) rfl rfl rfl rfl eR)) (by omega) λk hk=>⟨[.im (kD k),.im w,.im st],[.im (kD k),.im w,.im st],rfl,AV (sV rfl (sV (sY (sV rfl (sV rfl (sV rfl rfl))) (val k hk)) rfl)) (show 2<=1000 by decide),rfl⟩
 show Ay _ ρ=_;unfold Ay;rw[uO e];rfl
end
inductive Ch(T:List Th) (a:Str->Str):Str->aH->Prop
 |nil {x:Str} (h:x∉nrN T):Ch T a x []
 |cons {x:Str} {l:aH} (h:x∈nrN T) (c:Ch T a (a x) l):Ch T a x (a x::l)
structure Inv(T:List Th)(a:Str->Str):Prop where
 me:a "me" ∈ rmN T
 hd:∀x∈nrN T,a x∈hdN T
 ch:∀x,∃l,Ch T a x l
section
variable{T:List Th}{M:List Mk}{dk:aH}{W:List Wy}{c:L4.D}{P:List Ky}{a:Str->Str}{m:Str->Int}
theorem YS{l':aH}(h:Ch T a x l):Ch T a x l'->l=l':=by
 induction h generalizing l' with
 |nil h=>intro h';cases h' with
  |nil _=>rfl
  |cons h' _=>exact ao h' h
 |cons h _ ih=>intro h';cases h' with
  |nil h'=>exact ao h h'
  |cons _ d=>rw[ih d]
theorem YT(h:Ch T a x l):∀y∈l,∃l',Ch T a y l'/\l'.length<l.length:=by
 induction h with
 |nil _=>intro y hy;cases hy
 |@cons x l h d ih=>
  intro y hy;rcases aT.mp hy with e|hy
  ·rw[e];exact⟨l,d,by rw[aO];omega⟩
  ·obtain⟨l',h1,h2⟩:=ih y hy;exact⟨l',h1,by rw[aO];omega⟩
theorem Uq(h:Ch T a x l):x∉l:=λhx=>by obtain⟨l',h1,h2⟩:=YT h x hx;rw[YS h h1]at h2;exact d7 _ h2
theorem aaM(h:Ch T a x l):l.Nodup:=by
 induction h with
 |nil _=>exact kP
 |@cons x l h d ih=>exact c9.mpr ⟨Uq d,ih⟩
theorem Vg(i:Inv T a)(h:Ch T a x l):∀y∈l,y∈hdN T:=by
 induction h with
 |nil _=>intro y hy;cases hy
 |@cons x l h d ih=>
  intro y hy;rcases aT.mp hy with e|hy
  ·rw[e];exact i.hd x h
  ·exact ih y hy
theorem Ru:∀{l L:aH},l.Nodup->(∀x∈l,x∈L)->l.length<=L.length
 |[],L,_,_=>cf _
 |a::l,L,nd,hs=>by rw[c9]at nd;have ha:=hs a aV;have:=Ru (L:=L.erase a) nd.2 λz hz=>(nh (show z≠a from λw=>nd.1 (w▸hz))).mpr (hs z (ba _ hz));rw[mS ha]at this;have:=i9 ha;rw[aO];omega
theorem DV(g:Good T M dk W)(i:Inv T a)(h:Ch T a x l):l.length<=13:=by
 have h1:=Ru (aaM h) (Vg i h);have h2:(hdN T).length<=T.length:=by unfold hdN;rw[aj];exact cP _ _
 have:=g.len;omega
theorem Ur{w:Str}(h:Ch T a w l):w≠x->x∉l->Ch T (ups a x b) w l:=by
 induction h with
 |nil h=>intro _ _;exact .nil h
 |@cons w l h d ih=>intro h1 h2;have e:ups a x b w=a w:=ag h1;have d':=ih (λz=>h2 (by rw[z];exact aV)) λz=>h2 (ba _ z);rw[<-e]at d' ⊢;exact .cons h d'
theorem Inv.mv(g:Good T M dk W)(i:Inv T a)(hx:x∈nrN T)(hb:b∈hdN T)(hm:x="me" -> b∈rmN T)(h1:b≠x){lb:aH}(cb:Ch T a b lb)(h2:x∉lb):Inv T (ups a x b) where
 me:=by
  unfold ups;by_cases e:("me" : Str)=x
  ·rw[af e];exact hm e.symm
  ·rw[ag e];exact i.me
 hd:=λy hy=>by
  unfold ups;by_cases e:y=x
  ·rw[af e];exact hb
  ·rw[ag e];exact i.hd y hy
 ch:=λw=>by
  have cx:Ch T (ups a x b) x (ups a x b x::lb):=.cons hx (by rw[show ups a x b x=b from af rfl];exact Ur cb h1 h2);obtain⟨l,h⟩:=i.ch w
  induction h with
  |nil h=>exact⟨_,.nil h⟩
  |@cons w l h d ih=>
   by_cases e:w=x
   ·rw[e];exact⟨_,cx⟩
   ·obtain⟨l',d'⟩:=ih;have e2:ups a x b w=a w:=ag e;rw[<-e2]at d';exact⟨_,.cons h d'⟩
theorem Iy(p:P.Perm (PT T M))(x:Str):uS [sD P (va a m),.str x]=some (if x∈nrN T then .str (a x)else .non):=by
 refine tp (ρ:=[.im (sD P (va a m)),.im (.str x)]) rfl (tW (sY (ds:=[sD P (va a m),kD ("at", x)]) (sV rfl (sV rfl rfl)) ((KY P (va a m) ("at", x)).trans ?_)));congr 1;by_cases h:x∈nrN T
 ·rw[af h,af ((Ro p x).mpr h)];unfold va;rw[af rfl]
 ·rw[ag h,ag λz=>h ((Ro p x).mp z)]
theorem E9(p:P.Perm (PT T M))(x:Str):uQ [sD P (va a m),.str x]=some (if x∈mkN T M then .int (m x)else .non):=by
 refine tp (ρ:=[.im (sD P (va a m)),.im (.str x)]) rfl (tW (sY (ds:=[sD P (va a m),kD ("mark", x)]) (sV rfl (sV rfl rfl)) ((KY P (va a m) ("mark", x)).trans ?_)));congr 1;by_cases h:x∈mkN T M
 ·rw[af h,af ((Vf p x).mpr h)];unfold va;rw[ag (show ¬("mark" : Str)="at" by decide)]
 ·rw[ag h,ag λz=>h ((Vf p x).mp z)]
def aD(T:List Th)(a:Str->Str)(x:Str):L4.D:=if x∈nrN T then .str (a x)else .non
theorem ON(p:P.Perm (PT T M))(w nm:Sl)(h:Ch T a x l):∀(n:Nat) (hs:List L4.D),l.length<n->hs.length+l.length<=1000->
  whL (cT (c2 uV aw aF)) (sZ (uf (z4 3 aw)) (tZ 4 (sX uS jP))) n [w,.im (sD P (va a m)),nm,.ls hs,.im (aD T a x)]=some (.nx [w,.im (sD P (va a m)),nm,.ls (hs++l.map D.str),.im .non]):=by
 let S:=sD P (va a m)
 induction h with
 |@nil x h=>
  intro n hs hn _;rw[show aD T a x=.non from ag h];cases n with
  |zero=>cases hn
  |succ n=>rw[d8,bG];rfl
 |@cons x l h d ih=>
  intro n hs hn hl;rw[show aD T a x=.str (a x) from af h];rw[aO]at hn hl;cases n with
  |zero=>cases hn
  |succ n=>
   have ev:sZ (uf (z4 3 aw)) (tZ 4 (sX uS jP)) [w,.im S,nm,.ls hs,.im (.str (a x))]=some (.nx [w,.im S,nm,.ls (hs++[.str (a x)]),.im (aD T a (a x))]):=by refine(sW (ρ':=[w,.im S,nm,.ls (hs++[.str (a x)]),.im (.str (a x))]) (uN ((DE (es:=hs) rfl rfl rfl (by omega)).trans rfl))).trans ?_;exact(tU (sY (sV rfl (sV rfl rfl)) (Iy p (a x)))).trans rfl
   rw[aK];unfold whL;rw[show cT (c2 uV aw aF) [w,.im (sD P (va a m)),nm,.ls hs,.im (.str (a x))]=some (true,[w,.im S,nm,.ls hs,.im (.str (a x))]) from rfl];simp only[ev];refine(ih n (hs++[.str (a x)]) (by omega) (by rw[aP,cB];omega)).trans ?_;rw[b9];rfl
theorem JD(p:P.Perm (PT T M))(w:L4.D)(h:Ch T a x l)(hl:l.length<=13):vE [w,sD P (va a m),.str x]=some (l.map D.str):=by let S:=sD P (va a m);refine ym (ρ:=[.im w,.im S,.im (.str x),.un,.im .non]) rfl ?_;refine(sW (ρ':=[.im w,.im S,.im (.str x),.ls [],.un]) rfl).trans ?_;refine(sW (ρ':=[.im w,.im S,.im (.str x),.ls [],.im (aD T a x)]) ((tU (sY (sV rfl (sV rfl rfl)) (Iy p x))).trans rfl)).trans ?_;exact(sW (ON p (.im w) (.im (.str x)) h 50 [] (by omega) (by simp;omega))).trans rfl
theorem K1(p:P.Perm (PT T M))(x:Str)(bx:Sl):∀{y:Str} {l:aH},Ch T a y l->∀n,l.length+1<n->∃s',
  whL (cT (c2 uV aA aF)) (sZ (sIf (cT (c2 (dEq false) aA ak)) (tE cg) tL) (tZ 3 (sX uS fz))) n [.im (sD P (va a m)),.im (.str x),bx,.im (.str y)]=some (if x=y\/x∈l then .rt (.bl true) [.im (sD P (va a m)),.im (.str x),bx,s']else .nx [.im (sD P (va a m)),.im (.str x),bx,s']):=by
 intro y l h;let S:=sD P (va a m);have e0:∀y:Str,cT (c2 (dEq false) aA ak) [.im S,.im (.str x),bx,.im (.str y)]=some (decide (y=x),[.im S,.im (.str x),bx,.im (.str y)]):=λy=>uL (tP (x:=.str y) (y:=.str x) rfl rfl (vm _ _ _));have hit:∀(y:Str) (n:Nat),y=x->whL (cT (c2 uV aA aF)) (sZ (sIf (cT (c2 (dEq false) aA ak)) (tE cg) tL) (tZ 3 (sX uS fz))) (n+1) [.im S,.im (.str x),bx,.im (.str y)]=some (.rt (.bl true) [.im S,.im (.str x),bx,.im (.str y)]):=λy n h=>by have e:=e0 y;rw[aM h]at e;have e3:∀f:FS,sZ (sIf (cT (c2 (dEq false) aA ak)) (tE cg) tL) f [.im S,.im (.str x),bx,.im (.str y)]=some (.rt (.bl true) [.im S,.im (.str x),bx,.im (.str y)]):=λf=>tJ ((tV e).trans rfl);unfold whL;rw[show cT (c2 uV aA aF) [.im S,.im (.str x),bx,.im (.str y)]=some (true,[.im S,.im (.str x),bx,.im (.str y)]) from rfl];simp only[e3]
 have mis:∀(y:Str) (n:Nat),¬y=x->whL (cT (c2 uV aA aF)) (sZ (sIf (cT (c2 (dEq false) aA ak)) (tE cg) tL) (tZ 3 (sX uS fz))) (n+1) [.im S,.im (.str x),bx,.im (.str y)]=whL (cT (c2 uV aA aF)) (sZ (sIf (cT (c2 (dEq false) aA ak)) (tE cg) tL) (tZ 3 (sX uS fz))) n [.im S,.im (.str x),bx,.im (aD T a y)]:=λy n h=>by
  have e:=e0 y;rw[aL h]at e;have ev:sZ (sIf (cT (c2 (dEq false) aA ak)) (tE cg) tL) (tZ 3 (sX uS fz)) [.im S,.im (.str x),bx,.im (.str y)]=some (.nx [.im S,.im (.str x),bx,.im (aD T a y)]):=
   (sW ((ux e).trans rfl)).trans ((tU (sY (sV rfl (sV rfl rfl)) (Iy p y))).trans rfl)
  conv=>lhs;unfold whL
  rw[show cT (c2 uV aA aF) [.im S,.im (.str x),bx,.im (.str y)]=some (true,[.im S,.im (.str x),bx,.im (.str y)]) from rfl];simp only[ev]
 induction h with
 |@nil y h=>
  intro n hn;obtain⟨n,rfl⟩:∃k,n=k+2:=⟨n - 2,by rw[dw]at hn;omega⟩;by_cases e:y=x
  ·exact⟨_,(hit y _ e).trans (by rw[af (.inl e.symm)])⟩
  ·refine⟨.im .non,(mis y _ e).trans ?_⟩;rw[show aD T a y=.non from ag h,ag (by rintro(z|z);exact e z.symm;cases z)];rfl
 |@cons y l h d ih=>
  intro n hn;rw[aO]at hn;obtain⟨n,rfl⟩:∃k,n=k+1:=⟨n - 1,by omega⟩;by_cases e:y=x
  ·exact⟨_,(hit y _ e).trans (by rw[af (.inl e.symm)])⟩
  ·obtain⟨s',h1⟩:=ih n (by omega);refine⟨s',(mis y _ e).trans ?_⟩;rw[show aD T a y=.str (a y) from af h,h1];by_cases q:x=a y\/x∈l
   ·rw[af q,af (.inr (by rcases q with q|q;rw[q];exact aV;exact ba _ q))]
   ·rw[ag q,ag (by
     rintro(z|z)
     ·exact e z.symm
     ·exact q ((aT.mp z).elim .inl .inr))]
theorem OO(p:P.Perm (PT T M))(x:Str)(h:Ch T a b l)(hl:l.length<=13):xM [sD P (va a m),.str x,.str b]=some (.bl (decide (x=b\/x∈l))):=by
 let S:=sD P (va a m);obtain⟨s',e⟩:=K1 (m:=m) p x (.im (.str b)) h 50 (by omega);by_cases q:x=b\/x∈l
 ·rw[af q]at e;rw[aM q];exact tp (ρ:=[.im S,.im (.str x),.im (.str b),s']) rfl ((sW (ρ':=[.im S,.im (.str x),.im (.str b),.im (.str b)]) rfl).trans (tJ e))
 ·rw[ag q]at e;rw[aL q];exact tp (ρ:=[.im S,.im (.str x),.im (.str b),s']) rfl ((sW (ρ':=[.im S,.im (.str x),.im (.str b),.im (.str b)]) rfl).trans ((sW e).trans rfl))
theorem Mc(p:P.Perm (PT T M))(h:Ch T a x l)(hl:l.length<=13):Dh [wO T M dk W c,sD P (va a m),.str x]=some (.bl (decide (("me" : Str)∈l))):=by let ρ:aU:=[.im (wO T M dk W c),.im (sD P (va a m)),.im (.str x)];refine tp (ρ:=ρ) rfl (tW (tP (x:=.str "me") (y:=.lst (l.map D.str)) (uh (m:="you") (ns:=wNs) (xs:=wA T M dk W c) (ys:=[]) rfl rfl rfl rfl rfl) (uO (sY (sV rfl (sV rfl (sV rfl rfl))) (JD p _ h hl))) (xf false _ _)))
theorem inv0(g:Good T M dk W):Inv T (at0 T) where
 me:=by obtain⟨t,ht,e,k⟩:=Nt g;obtain⟨q,h1,_,h2⟩:=Nu g ht (by rw[k];exact λz=>by cases z);rw[<-e,JC g.ndT ht,h1];exact h2 k
 hd:=λx hx=>by obtain⟨t,ht,rfl⟩:=az.mp hx;rw[bo]at ht;obtain⟨q,h1,h2,_⟩:=Nu g ht.1 (λz=>by rw[z]at ht;exact ao ht.2 (by decide));rw[JC g.ndT ht.1,h1];exact h2
 ch:=λx=>by
  obtain⟨r,hr⟩:=g.rk;have:∀(n:Nat) (x:Str),r x<n->∃l,Ch T (at0 T) x l:=by
   intro n
   induction n with
   |zero=>intro x h;cases h
   |succ n ih=>
    intro x h;by_cases hx:x∈nrN T
    ·obtain⟨t,ht,rfl⟩:=az.mp hx;rw[bo]at ht;obtain⟨q,h1,_,_⟩:=Nu g ht.1 (λz=>by rw[z]at ht;exact ao ht.2 (by decide));have e:at0 T t.n=q:=by rw[JC g.ndT ht.1,h1];rfl
     have h2:=((hr t ht.1).2 q h1).1;obtain⟨l,d⟩:=ih q (by omega);rw[<-e]at d;exact⟨_,.cons hx d⟩
    ·exact⟨_,.nil hx⟩
  exact this (r x+1) x (by omega)
end
theorem GT(h1:e ρ=some (.bl false,ρ1)):uY e e' ρ=some (.bl false,ρ1):=by unfold uY;rw[h1]
section
variable{T:List Th}{M:List Mk}{dk:aH}{W:List Wy}{c:L4.D}{P:List Ky}{a:Str->Str}{m:Str->Int}
structure Sit(T:List Th)(M:List Mk)(dk:aH)(W:List Wy)(P:List Ky)(a:Str->Str):Prop where
 g:Good T M dk W
 p:P.Perm (PT T M)
 i:Inv T a
theorem Vh(h:x∈hdN T):∃t∈T,t.n=x/\t.k.hd=true:=by obtain⟨t,ht,e⟩:=az.mp h;rw[bo]at ht;exact⟨t,ht.1,e,ht.2⟩
theorem IA(g:Good T M dk W)(ht:t∈T):t.n∈mkN T M ↔ t.k.mk=true:=by
 unfold mkN;rw[bC,JB g.ndT _ ht];constructor
 ·rintro(h|h)
  ·exact h
  ·exact ao rfl ((bT.mp g.nd).2.2 _ (az.mpr ⟨t,ht,rfl⟩) _ h)
 ·exact .inl
theorem Fb(t:Th)(k:Kd):dEq false (.str t.k.s) (.str k.s)=some (.bl (decide (t.k=k))):=Gu t.k k
theorem Us(s:Sit T M dk W P a)(hx:x∈hdN T):∃b,xE [wO T M dk W c,sD P (va a m),.str x]=some (.bl b):=by
 obtain⟨t,ht,rfl,_⟩:=Vh hx;let ρ:aU:=[.im (wO T M dk W c),.im (sD P (va a m)),.im (.str t.n)];have e1:c2 (dEq false) (c1 (tH ue "kind") (tT tD "thing_of" ab bY)) cA ρ=some (.bl (decide (t.k=.box)),ρ):=
  tP (uA (uh (m:="thing_of") (ns:=wNs) (xs:=wA T M dk W c) (ys:=[.str t.n]) rfl rfl rfl rfl (xS s.g.ndT ht)) (yJ t)) rfl (Fb t .box)
 by_cases h:t.k=.box
 ·rw[aM h]at e1;refine⟨decide (m t.n=0),tp (ρ:=ρ) rfl (tW ((uk e1).trans (tP (sY (sV rfl (sV rfl rfl)) ((E9 s.p t.n).trans (by rw[af ((IA s.g ht).mpr (by rw[h];rfl))]))) rfl ?_)))⟩;rw[yb];rfl
 ·rw[aL h]at e1;exact⟨false,tp (ρ:=ρ) rfl (tW (GT e1))⟩
def opn(sh:Str->Bool)(h:Str):aH->Bool
 |[]=>false
 |a::l=>if a=h then true else if sh a then false else opn sh h l
theorem Rv{sh:Str->Bool}{h a:Str}:opn sh h (a::l)=if a=h then true else if sh a then false else opn sh h l:=rfl
def oB:FS:=(sZ (sIf (cT (c2 (dEq false) aw aA)) (tE cg) tL)
 (sIf (cT (sX xE mC)) (tE cq) tL))
theorem IB{w st x:L4.D}{sh:Str->Bool}(h:Str):∀(l:aH) (s:Sl),(∀a∈l,xE [w,st,.str a]=some (.bl (sh a)))->∃s',forL (gN 4) oB (l.map D.str) [.im w,.im st,.im x,.im (.str h),s]=some (.rt (.bl (opn sh h l)) [.im w,.im st,.im x,.im (.str h),s'])\/(opn sh h l=false/\forL (gN 4) oB (l.map D.str) [.im w,.im st,.im x,.im (.str h),s]=some (.nx [.im w,.im st,.im x,.im (.str h),s']))
 |[],s,_=>⟨s,.inr ⟨rfl,rfl⟩⟩
 |a::l,s,hh=>by
  let ρ:aU:=[.im w,.im st,.im x,.im (.str h),.im (.str a)];have e1:cT (c2 (dEq false) aw aA) ρ=some (decide (a=h),ρ):=uL (tP (x:=.str a) (y:=.str h) rfl rfl (vm false a h));have e2:cT (sX xE mC) ρ=some (sh a,ρ):=uL (sY (sV rfl (sV rfl (sV rfl rfl))) (hh a aV));rw[aK];unfold forL;rw[show gN 4 (.str a) [.im w,.im st,.im x,.im (.str h),s]=some ρ from rfl];rw[Rv];by_cases h1:a=h
  ·rw[aM h1]at e1;rw[af h1];refine⟨.im (.str a),.inl ?_⟩;have e3:oB ρ=some (.rt (.bl true) ρ):=tJ ((tV e1).trans rfl);simp only[e3];rfl
  ·rw[aL h1]at e1;rw[ag h1];have e3:oB ρ=_:=sW ((ux e1).trans rfl);simp only[e3];cases q:sh a with
   |true=>rw[q]at e2;refine⟨.im (.str a),.inl ?_⟩;simp only[(tV e2).trans (rfl:tE cq ρ=some (.rt (.bl false) ρ)),if_true];rfl
   |false=>rw[q]at e2;obtain⟨s',g⟩:=IB (w:=w) (st:=st) (x:=x) (sh:=sh) h l (.im (.str a)) λb hb=>hh b (ba _ hb);refine⟨s',?_⟩;simp only[(ux e2).trans (rfl:tL ρ=some (.nx ρ)),fF,if_false];exact g
theorem JE(s:Sit T M dk W P a)(x h:Str):∃b,xF [wO T M dk W c,sD P (va a m),.str x,.str h]=some (.bl b):=by
 obtain⟨l,d⟩:=s.i.ch x;have hs:∀y:Str,∃b:Bool,y∈hdN T->xE [wO T M dk W c,sD P (va a m),.str y]=some (.bl b):=λy=>by
  by_cases hy:y∈hdN T
  ·obtain⟨b,e⟩:=Us (c:=c) (m:=m) s hy;exact⟨b,λ_=>e⟩
  ·exact⟨false,λz=>ao z hy⟩
 refine⟨opn (λy=>(hs y).choose) h l,?_⟩;obtain⟨s',q⟩:=IB (w:=wO T M dk W c) (st:=sD P (va a m)) (x:=.str x) (sh:=λy=>(hs y).choose) h l .un λy hy=>(hs y).choose_spec (Vg s.i d y hy);have e0:=uO (sY (a:=aCons ab dq) (ρ:=[.im (wO T M dk W c),.im (sD P (va a m)),.im (.str x),.im (.str h),.un]) (sV rfl (sV rfl (sV rfl rfl))) (JD (m:=m) s.p _ d (DV s.g s.i d)));rcases q with q|⟨q0,q⟩
 ·exact tp rfl (tJ ((uM (EH e0)).trans q))
 ·rw[q0];exact tp rfl ((sW ((uM (EH e0)).trans q)).trans rfl)
theorem JF(s:Sit T M dk W P a):yh [wO T M dk W c,sD P (va a m)]=some (.str (a "me")):=
 tp (ρ:=[.im (wO T M dk W c),.im (sD P (va a m))]) rfl (tW (sY (sV rfl (sV (uh (m:="you") (ns:=wNs) (xs:=wA T M dk W c) (ys:=[]) rfl rfl rfl rfl rfl) rfl)) ((Iy s.p "me").trans (by rw[af (Bn s.g)]))))
theorem Rw(s:Sit T M dk W P a)(ht:t∈T)(hk:t.k=.lamp)(r:Str):∃b,yG [wO T M dk W c,sD P (va a m),.str t.n,.str r]=some (.bl b):=by
 let ρ:aU:=[.im (wO T M dk W c),.im (sD P (va a m)),.im (.str t.n),.im (.str r)];have e1:c2 (dEq false) (sX uQ dq) bg ρ=some (.bl (decide (m t.n=1)),ρ):=tP (sY (sV rfl (sV rfl rfl)) ((E9 s.p t.n).trans (by rw[af ((IA s.g ht).mpr (by rw[hk];rfl))]))) rfl (by rw[yb];rfl);obtain⟨b,e2⟩:=JE (c:=c) (m:=m) s t.n r;cases q:decide (m t.n=1)with
 |true=>rw[q]at e1;exact⟨b,tp (ρ:=ρ) rfl (tW ((uk e1).trans (sY (sV rfl (sV rfl (sV rfl (sV rfl rfl)))) e2)))⟩
 |false=>rw[q]at e1;exact⟨false,tp (ρ:=ρ) rfl (tW (GT e1))⟩
theorem YU(s:Sit T M dk W P a):∃b,Gh [wO T M dk W c,sD P (va a m)]=some (.bl b):=by
 let w:=wO T M dk W c;let r:=a "me";let S:=sD P (va a m);let ρ:aU:=[.im w,.im S,.im (.str r)];have e1:tZ 2 (sX yh cv) [.im w,.im S,.un]=some (.nx ρ):=(tU (sY (sV rfl (sV rfl rfl)) (JF s))).trans rfl;have e2:uR (cT (tT xK "is_dark" ab bY)) ρ=some (!decide (r∈dk),ρ):=xI (uL (uh (m:="is_dark") (ns:=wNs) (xs:=wA T M dk W c) (ys:=[.str r]) rfl rfl rfl rfl (tp (ρ:=[.im w,.im (.str r)]) rfl (tW (tP (x:=.str r) (y:=.lst (dk.map D.str)) rfl rfl (xf false r dk))))));cases q:decide (r∈dk)with
 |false=>rw[q]at e2;exact⟨true,tp rfl ((sW e1).trans (tJ ((tV e2).trans rfl)))⟩
 |true=>
  rw[q]at e2;have hl:=s.g.len;let L:=T.filter λt=>decide (t.k=.lamp);have hs:∀t:Th,∃b:Bool,t∈L->yG [w,S,.str t.n,.str r]=some (.bl b):=λt=>by
   by_cases ht:t∈L
   ·have h:=bo.mp ht;obtain⟨b,e⟩:=Rw (c:=c) (m:=m) s h.1 (bK h.2) r;exact⟨b,λ_=>e⟩
   ·exact⟨false,λz=>ao z ht⟩
  have e3:tN 1 [0,1,2] (iL (tT wC "of_kind" ab iQ)) (gN 0) uF (sX yG qM) ρ=some (L.map λt=>D.bl (hs t).choose,ρ):=by have hlen:L.length<=1000:=bN (cP _ _) (by omega);exact wq (λt:Th=>D.str t.n) (λt=>D.bl (hs t).choose) L (ρ1:=ρ) (EH (uh (m:="of_kind") (ns:=wNs) (xs:=wA T M dk W c) (ys:=[.str Kd.lamp.s]) rfl rfl rfl rfl (GL T (by omega) _ _ .lamp))) hlen λt ht=>⟨[.im (.str t.n),.im w,.im S,.im (.str r)],[.im (.str t.n),.im w,.im S,.im (.str r)],rfl,sY (sV rfl (sV rfl (sV rfl (sV rfl rfl)))) ((hs t).choose_spec ht),rfl⟩
  exact⟨_,tp rfl ((sW e1).trans ((sW ((ux e2).trans rfl)).trans (tW (uA (uO e3) (M0 _ _)))))⟩
theorem Ut(s:Sit T M dk W P a)(ht:t∈T):∃b,uI [wO T M dk W c,sD P (va a m),.str t.n]=some (.bl b):=by
 let w:=wO T M dk W c;let S:=sD P (va a m);let ρ:aU:=[.im w,.im S,.im (.str t.n),.im (thD t)];have e1:tZ 3 (tT tD "thing_of" ab bY) [.im w,.im S,.im (.str t.n),.un]=some (.nx ρ):=(tU (uh (m:="thing_of") (ns:=wNs) (xs:=wA T M dk W c) (ys:=[.str t.n]) rfl rfl rfl rfl (xS s.g.ndT ht))).trans rfl;have e2:wV (cT (c2 w6 aA aF)) (uR (cT (tT uD "is_plainly" aA ui))) ρ=some (!t.k.pl,ρ):=B5 rfl (xI (uL (uh (m:="is_plainly") (ns:=["name", "words", "kind", "start"]) (xs:=[.str t.n,.tup (t.w.map D.str),.str t.k.s,oS t.s]) (ys:=[]) rfl rfl rfl rfl (Dr t))));obtain⟨b3,h3⟩:=JE (c:=c) (m:=m) s t.n "me";obtain⟨b4,h4⟩:=JE (c:=c) (m:=m) s t.n (a "me");obtain⟨b5,h5⟩:=YU (c:=c) (m:=m) s;have e3:cT (sX xF ql) ρ=some (b3,ρ):=uL (sY (sV rfl (sV rfl (sV rfl (sV (uh (m:="you") (ns:=wNs) (xs:=wA T M dk W c) (ys:=[]) rfl rfl rfl rfl rfl) rfl)))) h3);have e4:sX xF qC ρ=some (.bl b4,ρ):=sY (sV rfl (sV rfl (sV rfl (sV (sY (sV rfl (sV rfl rfl)) (JF s)) rfl)))) h4;cases q1:t.k.pl with
 |false=>rw[q1]at e2;exact⟨_,tp rfl ((sW e1).trans (tJ ((tV e2).trans rfl)))⟩
 |true=>
  rw[q1]at e2;cases b3 with
  |true=>exact⟨_,tp rfl ((sW e1).trans ((sW ((ux e2).trans rfl)).trans (tJ ((tV e3).trans rfl))))⟩
  |false=>
   cases b4 with
   |true=>exact⟨_,tp (ρ:=ρ) rfl ((sW e1).trans ((sW ((ux e2).trans rfl)).trans ((sW ((ux e3).trans rfl)).trans (tW ((uk e4).trans (sY (sV rfl (sV rfl rfl)) h5))))))⟩
   |false=>exact⟨_,tp (ρ:=ρ) rfl ((sW e1).trans ((sW ((ux e2).trans rfl)).trans ((sW ((ux e3).trans rfl)).trans (tW (GT e4)))))⟩
theorem Uu(S:L4.D):uI [wO T M dk W c,S,.non]=some (.bl false):=by let w:=wO T M dk W c;let ρ:aU:=[.im w,.im S,.im .non,.im .non];have e1:tZ 3 (tT tD "thing_of" ab bY) [.im w,.im S,.im .non,.un]=some (.nx ρ):=(tU (uh (m:="thing_of") (ns:=wNs) (xs:=wA T M dk W c) (ys:=[.non]) rfl rfl rfl rfl (by rfl))).trans rfl;exact tp (ρ:=ρ) rfl ((sW e1).trans (tJ ((tV rfl).trans rfl)))
end
def fms:aH:=["one", "two", "alone", "way"]
def nf(v:Vb):Str×Str:=(v.n,v.f)
theorem IC:∀l:aH,Ed (l.map D.str)=some l
 |[]=>rfl
 |x::l=>by rw[aK];unfold Ed;rw[IC l]
def w3:aH:=["north", "outside", "up"]
def wdN(W:List Wy):aH:=w3.filter λx=>decide (x∈W.map Wy.w)
theorem Uv(h:∀x∈l,x∈w3):A0 (uqK l)=w3.filter λx=>decide (x∈l):=by
 have n3:w3.Nodup:=by decide
 have p3:w3.Pairwise λa b=>leS a b=true:=by decide
 refine j3 (λa b _ _=>F0 a b) (i6 FZ E5 _) (p3.filter _) ((hZ _ leS).trans ((List.perm_ext_iff_of_nodup (LU l) (km.nodup n3)).mpr λx=>?_));rw[Jr,bo,bJ];exact⟨λhx=>⟨h x hx,hx⟩,λhx=>hx.2⟩
section
variable{T:List Th}{M:List Mk}{dk:aH}{W:List Wy}{c:L4.D}
theorem K2(h8:W.length<=8)(hw:∀w∈W,w.w∈(["north", "up", "outside"]:aH)):xm [wO T M dk W c]=some (.lst ((wdN W).map D.str)):=by
 let ρ:aU:=[.im (wO T M dk W c)];refine FY (ρ:=ρ) rfl (wa ?_);have e:cL (tN 1 [] (iL (c1 (tH zc "kept_ways") ab)) (gN 0) uF (c2 dIx ab bg)) ρ=some (.lst ((W.map Wy.w).map D.str),ρ):=(uO (wq wyO (λw=>.str w.w) W (ρ1:=ρ) rfl (by omega) λw _=>⟨[.im (wyO w)],[.im (wyO w)],rfl,rfl,rfl⟩)).trans (by rw[bc];rfl);show cSortX _ ρ=_;unfold cSortX;rw[e];dsimp only;rw[IC];dsimp only;rw[af (by rw[aj];omega),Uv λx hx=>?_]
 ·rfl
 ·obtain⟨w,h,rfl⟩:=az.mp hx;exact(show ∀x∈(["north", "up", "outside"]:aH),x∈w3 by decide) _ (hw w h)
def plN(T:List Th):aH:=(T.filter λt=>t.k.pl).map Th.n
theorem Rx(T:List Th)(hl:T.length<=13):zl [wO T M dk W c]=some (.lst (T.map λt=>.str t.n)):=by let ρ:aU:=[.im (wO T M dk W c)];exact FY (ρ:=ρ) rfl (wa (wq thD (λt=>.str t.n) T (ρ1:=ρ) rfl (by omega) λt _=>⟨[.im (thD t)],[.im (thD t)],rfl,rfl,rfl⟩))
theorem DW{f h:FS}(e:f ρ=some (.rn ds ρ')):sZ f h ρ=some (.rn ds ρ'):=by unfold sZ;rw[e]
def obF(N Dw:aH)(f:Str):List (L4.D×L4.D):=if f="alone" then [(.non,.non)]else if f="way" then Dw.map λx=>(.str x,.non)else if f="one" then N.map λx=>(.str x,.non)else N.flatMap λa=>N.map λb=>(.str a,.str b)
def p2(q:L4.D×L4.D):L4.D:=.tup [q.1,q.2]
def p3(v:Str)(q:L4.D×L4.D):L4.D:=.tup [.str v,q.1,q.2]
theorem Nv(N:aH)(hN:N.length<=7):∀l:aH,(l.flatMap λa=>N.map λb=>(D.str a,D.str b)).length<=7 * l.length
 |[]=>aJ _
 |a::l=>by rw[fI,aP,aj,aO];have:=Nv N hN l;omega
theorem Ry(W:List Wy):(wdN W).length<=3:=bN (cP _ _) (aJ 3)
theorem YV{N Dw:aH}(hN:N.length<=7)(hD:Dw.length<=3)(f:Str):(obF N Dw f).length<=49:=by
 unfold obF;split
 ·decide
 ·split
  ·rw[aj];omega
  ·split
   ·rw[aj];omega
   ·have:=Nv N hN N;omega
theorem K4{a b x:Sl}(N:aH)(hN:N.length<=7):∀(l:aH) (acc:List (L4.D×L4.D)) (s:Sl),acc.length+7 * l.length<=900->∃s',forL (gN 4) (uf (EL 3 (tN 1 [4] (iL aq) (gN 0) uF (tR fA)))) (l.map D.str) [a,b,.im (.lst (N.map D.str)),.ls (acc.map p2),s]=some (.nx [a,b,.im (.lst (N.map D.str)),.ls ((acc++l.flatMap λa=>N.map λb=>(D.str a,D.str b)).map p2),s'])
 |[],acc,s,_=>⟨s,by rw[List.flatMap_nil,bG];rfl⟩
 |y::l,acc,s,hl=>by rw[aO]at hl;let Q:Sl:=.im (.lst (N.map D.str));let Y:Sl:=.im (.str y);let nw:List (L4.D×L4.D):=N.map λb=>(D.str y,D.str b);obtain⟨s',e⟩:=K4 (a:=a) (b:=b) (x:=x) N hN l (acc++nw) Y (by rw[aP];show acc.length+(N.map _).length+7 * l.length<=900;rw[aj];omega);refine⟨s',?_⟩;rw[aK];unfold forL;let ρ:aU:=[a,b,Q,.ls (acc.map p2),Y];rw[show gN 4 (.str y) [a,b,Q,.ls (acc.map p2),s]=some ρ from rfl];have ec:tN 1 [4] (iL aq) (gN 0) uF (tR fA) ρ=some (nw.map p2,ρ):=(wq D.str (λz=>.tup [.str y,.str z]) N (ρ1:=ρ) rfl (by omega) λz _=>⟨[.im (.str z),Y],[.im (.str z),Y],rfl,rfl,rfl⟩).trans (by show _=some ((N.map _).map p2,ρ);rw[bc];rfl);have e1:uf (EL 3 (tN 1 [4] (iL aq) (gN 0) uF (tR fA))) ρ=some (.nx [a,b,Q,.ls ((acc++nw).map p2),Y]):=(uN (Qf (i:=3) (es0:=acc.map p2) (es:=acc.map p2) (ρ1:=ρ) rfl ec rfl (by rw[aj,aj];show acc.length+(N.map _).length<=1000;rw[aj];omega))).trans (by rw[bE];rfl);simp only[e1];rw[e,fI,b9]
theorem Me(g:Good T M dk W){f:Str}(hf:f∈fms):vF [wO T M dk W c,.str f]=some ((obF (plN T) (wdN W) f).map p2):=by
 have hl:=g.len;let w:=wO T M dk W c;have lN:(plN T).length<=7:=by unfold plN;rw[aj];exact g.p7
 have ld:=Ry W;have nms:∀F:Sl,tN 1 [0] (iL (tT wQ "names" ab ui)) (gN 0) (cT (tT uD "is_plainly" (tT tD "thing_of" ak bM) ui)) ab [.im w,F,.un,.un,.un]=some ((plN T).map D.str,[.im w,F,.un,.un,.un]):=λF=>by
  let ρ:aU:=[.im w,F,.un,.un,.un];refine(x9 (λt:Th=>D.str t.n) (λt=>.str t.n) (λt=>t.k.pl) T (ρ1:=ρ) ?_ (by omega) λt ht=>⟨[.im (.str t.n),.im w],[.im (.str t.n),.im w],rfl,?_,λ_=>⟨_,rfl,rfl⟩,λ_=>rfl⟩).trans (by unfold plN;rw[bc];rfl)
  ·unfold iL;rw[uh (g:=wQ) (m:="names") (e:=cV 0) (a:=ui) (ρ:=ρ) (hh:=zl) (xs:=wA T M dk W c) (ys:=[]) (ρ1:=ρ) (ρ2:=ρ) rfl rfl rfl rfl (Rx T hl)]
  ·have e0:wj [w,.str t.n]=some ((vU (nK T) (T.map thD) (kS t.n)).getD .non):=by kernel_rfl
   rw[E8 g.ndT thD ht]at e0;refine uL (uh (hh:=wJ) (xs:=[.str t.n,.tup (t.w.map D.str),.str t.k.s,oS t.s]) (ys:=[]) (ρ1:=[.im (.str t.n),.im w]) (ρ2:=[.im (.str t.n),.im w]) ?_ rfl rfl rfl (Dr t));exact uh (hh:=wj) (xs:=wA T M dk W c) (ys:=[.str t.n]) (ρ1:=[.im (.str t.n),.im w]) (ρ2:=[.im (.str t.n),.im w]) rfl rfl rfl rfl e0
 let NL:Sl:=.im (.lst ((plN T).map D.str));have s2:∀F:Sl,tZ 2 (cL (tN 1 [0] (iL (tT wQ "names" ab ui)) (gN 0) (cT (tT uD "is_plainly" (tT tD "thing_of" ak bM) ui)) ab)) [.im w,F,.un,.un,.un]=some (.nx [.im w,F,NL,.un,.un]):=λF=>(tU (uO (nms F))).trans rfl;simp only[fms,aT,dZ,or_false]at hf;rcases hf with rfl|rfl|rfl|rfl
 ·let ρ:aU:=[.im w,.im (.str "one"),NL,.un,.un];refine ym (ρ:=ρ) rfl ?_;unfold wm;refine(um rfl).trans ((um rfl).trans ((sW (s2 _)).trans (DW ((tV rfl).trans (wa ((wq D.str (λx=>.tup [.str x,.non]) (plN T) (ρ1:=ρ) rfl (by omega) λx _=>⟨[.im (.str x)],[.im (.str x)],rfl,rfl,rfl⟩).trans ?_))))));show _=some (((plN T).map λx=>(D.str x,D.non)).map p2,ρ);rw[bc];rfl
 ·obtain⟨s',e⟩:=K4 (a:=.im w) (b:=.im (.str "two")) (x:=.un) (plN T) lN (plN T) [] .un (by simp;omega);refine ym (ρ:=[.im w,.im (.str "two"),NL,.un,s']) rfl ?_;unfold wm;refine(um rfl).trans ((um rfl).trans ((sW (s2 _)).trans ((um rfl).trans ((sW (ρ':=[.im w,.im (.str "two"),NL,.ls [],.un]) rfl).trans ((sW ((uM (ds:=(plN T).map D.str) (ρ1:=[.im w,.im (.str "two"),NL,.ls [],.un]) rfl).trans e)).trans ?_)))));rfl
 ·refine ym (ρ:=[.im w,.im (.str "alone"),.un,.un,.un]) rfl ?_;unfold wm;exact DW ((tV rfl).trans rfl)
 ·let ρ:aU:=[.im w,.im (.str "way"),.un,.un,.un];refine ym (ρ:=ρ) rfl ?_;unfold wm;refine(um rfl).trans (DW ((tV rfl).trans (wa ((wq D.str (λx=>.tup [.str x,.non]) (wdN W) (ρ1:=ρ) ?_ (by omega) λx _=>⟨[.im (.str x)],[.im (.str x)],rfl,rfl,rfl⟩).trans ?_))))
  ·show iL _ ρ=_;unfold iL;rw[uh (g:=vK) (m:="way_words") (e:=cV 0) (a:=ui) (ρ:=ρ) (hh:=xm) (xs:=wA T M dk W c) (ys:=[]) (ρ1:=ρ) (ρ2:=ρ) rfl rfl rfl rfl (K2 g.w8 λw hw=>(g.wo w hw).hw)]
  ·show _=some (((wdN W).map λx=>(D.str x,D.non)).map p2,ρ);rw[bc];rfl
end
def cmV(N Dw:aH)(v:Str×Str):List L4.D:=(obF N Dw v.2).map (p3 v.1)
def cmA(N Dw:aH)(Q:List (Str×Str)):List L4.D:=Q.flatMap (cmV N Dw)
section
variable{T:List Th}{M:List Mk}{dk:aH}{W:List Wy}{c:L4.D}
theorem Nw(g:Good T M dk W):∀(L:List Vb) (acc:List L4.D) (s:Sl),(∀v∈L,v.f∈fms)->acc.length+49 * L.length<=900->∃s',forL (gN 2) (uf (EL 1 (tN 2 [2] (iL (cL (uy vF jO))) (gT gR 2) uF (tR jV)))) (L.map vbO) [.im (wO T M dk W c),.ls acc,s]=some (.nx [.im (wO T M dk W c),.ls (acc++cmA (plN T) (wdN W) (L.map nf)),s'])
 |[],acc,s,_,_=>⟨s,by show _=some (Out.nx [_,.ls (acc++[]),s]);rw[bG];rfl⟩
 |v::L,acc,s,hf,hl=>by
  rw[aO]at hl;have lN:(plN T).length<=7:=by unfold plN;rw[aj];exact g.p7
  have lo:=YV lN (Ry W) v.f;let w:=wO T M dk W c;let nw:List L4.D:=cmV (plN T) (wdN W) (nf v);have ln:nw.length<=49:=by show (fV _ _).length<=49;rw[aj];exact lo
  obtain⟨s',e⟩:=Nw g L (acc++nw) (.im (vbO v)) (λu hu=>hf u (ba _ hu)) (by rw[aP];omega);refine⟨s',?_⟩;rw[aK];unfold forL;let ρ:aU:=[.im w,.ls acc,.im (vbO v)];rw[show gN 2 (vbO v) [.im (wO T M dk W c),.ls acc,s]=some ρ from rfl];have ec:tN 2 [2] (iL (cL (uy vF jO))) (gT gR 2) uF (tR jV) ρ=some (nw,ρ):=by refine wq p2 (p3 v.n) (obF (plN T) (wdN W) v.f) (ρ1:=ρ) ?_ (by omega) λq _=>⟨[.im q.1,.im q.2,.im (vbO v)],[.im q.1,.im q.2,.im (vbO v)],rfl,rfl,rfl⟩;unfold iL;rw[uO (sY (g:=vF) (ds:=[w,.str v.f]) (ρ1:=ρ) rfl (Me g (hf v aV)))]
  have e1:uf (EL 1 (tN 2 [2] (iL (cL (uy vF jO))) (gT gR 2) uF (tR jV))) ρ=some (.nx [.im w,.ls (acc++nw),.im (vbO v)]):=(uN (Qf (i:=1) (es0:=acc) (es:=acc) (ρ1:=ρ) rfl ec rfl (by omega))).trans rfl;simp only[e1];rw[e,b9];rfl
theorem YW:∀v∈v9,v.f∈fms:=λv hv=>bK (bp.mp (show (v9.all λv=>decide (v.f∈fms))=true by kernel_rfl) v hv)
theorem K5(g:Good T M dk W):Ar [wO T M dk W c]=some (cmA (plN T) (wdN W) (v9.map nf)):=by let w:=wO T M dk W c;obtain⟨s',e⟩:=Nw g (c:=c) v9 [] .un YW (c6 rfl);refine ym (ρ:=[.im w,.un,s']) rfl ?_;unfold Cg;refine(sW (ρ':=[.im w,.ls [],.un]) rfl).trans ((sW ((uM (ds:=v9.map vbO) (ρ1:=[.im w,.ls [],.un]) ?_).trans e)).trans rfl);unfold iL;rw[uh (g:=vJ) (m:="all_verbs") (e:=cV 0) (a:=ui) (ρ:=[.im w,.ls [],.un]) (hh:=xj) (xs:=wA T M dk W c) (ys:=[]) (ρ1:=[.im w,.ls [],.un]) (ρ2:=[.im w,.ls [],.un]) rfl rfl rfl rfl (Jz _ _ _ _ _ _)]
end
def q3(v:Str)(x y:Option Str):L4.D:=.tup [.str v,oS x,oS y]
variable{S q o:L4.D}{y:Option Str}
section
variable{T:List Th}{M:List Mk}{dk:aH}{W:List Wy}{c:L4.D}{P:List Ky}{a:Str->Str}{m:Str->Int}
theorem Nx{v:Vb}(hv:v∈v9):AL [wO T M dk W c,.str v.n]=some (vbO v):=
 tp (ρ:=[.im (wO T M dk W c),.im (.str v.n)]) rfl (tW (tP (x:=vwD v9) (y:=.str v.n) rfl rfl (YJ U8 hv)))
theorem Mg{v:Vb}(hv:v∈v9)(x y:Option Str):wR [wO T M dk W c,q3 v.n x y]=some (.bl (decide (v.f="way"))):=by
 let w:=wO T M dk W c;let ρ:aU:=[.im w,.im (q3 v.n x y),.im (vbO v)];have e1:tZ 2 (cIf (cT (c2 w6 ak aF)) aF (tT vd "verb_of" ab gV)) [.im w,.im (q3 v.n x y),.un]=some (.nx ρ):=by refine(tU (d:=vbO v) (ρ':=[.im w,.im (q3 v.n x y),.un]) ?_).trans rfl;show tT vd "verb_of" ab gV [.im w,.im (q3 v.n x y),.un]=_;exact uh (m:="verb_of") (ns:=wNs) (xs:=wA T M dk W c) (ys:=[.str v.n]) rfl rfl rfl rfl (Nx hv)
 refine tp (ρ:=ρ) rfl ((sW e1).trans (tW ((uk rfl).trans (tP (x:=.str v.f) (y:=.str "way") rfl rfl (by rw[vm];rfl)))))
theorem yK{v:Vb}(hv:v∈v9)(h:¬v.f="way")(x y:Option Str):uo [wO T M dk W c,q3 v.n x y]=some (.tup [oS x,oS y]):=by let ρ:aU:=[.im (wO T M dk W c),.im (q3 v.n x y)];have e:cT (sX wR cv) ρ=some (false,ρ):=uL (sY (sV rfl (sV rfl rfl)) ((Mg hv x y).trans (by rw[aL h])));exact tp (ρ:=ρ) rfl ((um (B5 rfl e)).trans rfl)
theorem Mh{v:Vb}(hv:v∈v9)(h:v.f="way")(x y:Option Str):uo [wO T M dk W c,q3 v.n x y]=some (.tup [.non,.non]):=by let ρ:aU:=[.im (wO T M dk W c),.im (q3 v.n x y)];have e:cT (sX wR cv) ρ=some (true,ρ):=uL (sY (sV rfl (sV rfl rfl)) ((Mg hv x y).trans (by rw[aM h])));exact tp (ρ:=ρ) rfl (tJ ((tV (B5 rfl e)).trans rfl))
theorem Uw{w:L4.D}{x:Option Str}(h:uo [w,q]=some (.tup [oS x,oS y])):uE [w,S,q,.str "it"]=some (oS x):=by let ρ:aU:=[.im w,.im S,.im q,.im (.str "it")];exact tp (ρ:=ρ) rfl ((um rfl).trans (tJ ((tV rfl).trans (tW (tP (sY (sV rfl (sV rfl rfl)) h) rfl rfl)))))
theorem Ux{w:L4.D}{x:Option Str}(h:uo [w,q]=some (.tup [oS x,oS y])):uE [w,S,q,.str "other"]=some (oS y):=by let ρ:aU:=[.im w,.im S,.im q,.im (.str "other")];exact tp (ρ:=ρ) rfl ((um rfl).trans ((um rfl).trans (tJ ((tV rfl).trans (tW (tP (sY (sV rfl (sV rfl rfl)) h) rfl rfl))))))
theorem YX(s:Sit T M dk W P a)(q:L4.D):uE [wO T M dk W c,sD P (va a m),q,.str "here"]=some (.str (a "me")):=by let ρ:aU:=[.im (wO T M dk W c),.im (sD P (va a m)),.im q,.im (.str "here")];exact tp (ρ:=ρ) rfl (tJ ((tV rfl).trans (tW (sY (sV rfl (sV rfl rfl)) (JF s)))))
theorem Ck(w S q:L4.D)(h:Nm x):uE [w,S,q,.str x]=some (.str x):=by let ρ:aU:=[.im w,.im S,.im q,.im (.str x)];have all:=bp.mp (show (nmL.all λx=>!decide (x="here")&&!decide (x="it")&&!decide (x="other"))=true by kernel_rfl) x h;simp only[aS,eL,decide_eq_false_iff_not]at all;have e:∀t:Str,¬x=t->cT (c2 (dEq false) aA (cC (.str t))) ρ=some (false,ρ):=λt ht=>uL (tP (x:=.str x) (y:=.str t) rfl rfl (by rw[vm];show some (D.bl (decide (x=t)))=_;rw[aL ht]));exact tp (ρ:=ρ) rfl ((um (e _ all.1.1)).trans ((um (e _ all.1.2)).trans ((um (e _ all.2)).trans rfl)))
def RA(w S q t:L4.D)(b:Bool):Prop:=∃k ns ds hh,t=.obj k ns ds/\uC 1 k=some hh/\ns.contains "holds" = false/\hh [t,w,S,q]=some (.bl b)
def Ds(w S q t:L4.D)(b:Bool):Prop:=∃k ns ds hh,t=.obj k ns ds/\uC 1 k=some hh/\uC 0 k=some hh/\ns.contains "holds" = false/\hh [t,w,S,q]=some (.bl b)
theorem Ds.h{w S q t:L4.D}{b:Bool}(h:Ds w S q t b):RA w S q t b:=by obtain⟨k,ns,ds,hh,h1,h2,_,h4,h5⟩:=h;exact⟨k,ns,ds,hh,h1,h2,h4,h5⟩
theorem Ds.no{w t:L4.D}{b:Bool}(h:Ds w S q t b):RA w S q (noO t) (!b):=by obtain⟨k,ns,ds,hh,rfl,_,h3,h4,h5⟩:=h;let ρ:aU:=[.im (noO (.obj k ns ds)),.im w,.im S,.im q];refine⟨9,["inner"],[.obj k ns ds],fnD 4 4 (Bi (uC 0)),rfl,rfl,rfl,tp (ρ:=ρ) rfl (tW (Ni ?_))⟩;exact uh (g:=uC 0) (m:="holds") (c:=k) (ns:=ns) (hh:=hh) (xs:=ds) (ys:=[w,S,q]) (ρ1:=ρ) (ρ2:=ρ) rfl h3 h4 rfl h5
theorem Mi(s:Sit T M dk W P a){t:Str}(hu:u∈T)(hm:uE [wO T M dk W c,S,q,.str t]=some (.str u.n))(k:Kd):Ds (wO T M dk W c) S q (kiO t k.s) (decide (u.k=k)):=by let w:=wO T M dk W c;refine⟨7,_,_,Dk,rfl,rfl,rfl,rfl,?_⟩;let ρ:aU:=[.im (kiO t k.s),.im w,.im S,.im q,.im (thD u)];refine tp (ρ:=ρ) rfl ((sW (ρ':=ρ) ((tU (uh (m:="thing_of") (ns:=wNs) (xs:=wA T M dk W c) (ys:=[.str u.n]) (ρ2:=[.im (kiO t k.s),.im w,.im S,.im q,.un]) rfl rfl rfl (sV (sY (sV rfl (sV rfl (sV rfl (sV rfl rfl)))) hm) rfl) (xS s.g.ndT hu))).trans rfl)).trans (tW ((uk rfl).trans (tP (uA rfl (yJ u)) rfl (Fb u k)))))
theorem h_at(p:P.Perm (PT T M)){w:L4.D}{t y:Str}(hx:x∈nrN T)(hm:uE [w,sD P (va a m),q,.str t]=some (.str x))(hb:uE [w,sD P (va a m),q,.str b]=some (.str y)):Ds w (sD P (va a m)) q (atO t b) (decide (a x=y)):=by let S:=sD P (va a m);refine⟨3,_,_,Gm,rfl,rfl,rfl,rfl,?_⟩;let ρ1:aU:=[.im (atO t b),.im w,.im S,.im q,.im (.str x),.un];let ρ:aU:=[.im (atO t b),.im w,.im S,.im q,.im (.str x),.im (.str (a x))];refine tp (ρ:=ρ) rfl ((sW (ρ':=ρ1) ((tU (sY (sV rfl (sV rfl (sV rfl (sV rfl rfl)))) hm)).trans rfl)).trans ((sW (ρ':=ρ) ((tU (sY (sV rfl (sV rfl rfl)) ((Iy p x).trans (by rw[af hx])))).trans rfl)).trans (tW ((uk rfl).trans (tP (x:=.str (a x)) (y:=.str y) rfl (sY (sV rfl (sV rfl (sV rfl (sV rfl rfl)))) hb) (by rw[vm];rfl))))))
theorem Vi(p:P.Perm (PT T M)){t:Str}(h:Ch T a x l)(hl:l.length<=13)(hm:uE [wO T M dk W c,sD P (va a m),q,.str t]=some (.str x)):Ds (wO T M dk W c) (sD P (va a m)) q (hsO t) (decide (("me" : Str)∈l)):=by refine⟨4,_,_,EA,rfl,rfl,rfl,rfl,?_⟩;let ρ:aU:=[.im (hsO t),.im (wO T M dk W c),.im (sD P (va a m)),.im q];exact tp (ρ:=ρ) rfl (tW (sY (sV rfl (sV rfl (sV (sY (sV rfl (sV rfl (sV rfl (sV rfl rfl)))) hm) rfl))) (Mc p h hl)))
theorem Mj(p:P.Perm (PT T M)){w:L4.D}{t:Str}(hx:x∈mkN T M)(hm:uE [w,sD P (va a m),q,.str t]=some (.str x))(v:Int):Ds w (sD P (va a m)) q (mkO t v) (decide (m x=v)):=by let S:=sD P (va a m);refine⟨6,_,_,Bh,rfl,rfl,rfl,rfl,?_⟩;let ρ:aU:=[.im (mkO t v),.im w,.im S,.im q,.im (.int (m x))];refine tp (ρ:=ρ) rfl ((sW (ρ':=ρ) ((tU (sY (sV rfl (sV (sY (sV rfl (sV rfl (sV rfl (sV rfl rfl)))) hm) rfl)) ((E9 p x).trans (by rw[af hx])))).trans rfl)).trans (tW ((uk rfl).trans (tP (x:=.int (m x)) (y:=.int v) rfl rfl (by rw[yb];rfl)))))
theorem YY{v:Vb}(hv:v∈v9)(hw:v.f="way")(S:L4.D)(x:Str)(y:Option Str)(d:Str):Ds (wO T M dk W c) S (q3 v.n (some x) y) (woO d) (decide (x=d)):=by refine⟨8,_,_,Dm,rfl,rfl,rfl,rfl,?_⟩;let ρ:aU:=[.im (woO d),.im (wO T M dk W c),.im S,.im (q3 v.n (some x) y)];refine tp (ρ:=ρ) rfl (tW ((uk (ρ1:=ρ) (sY (sV rfl (sV rfl rfl)) ((Mg hv (some x) y).trans (by rw[aM hw])))).trans (tP (x:=.str x) (y:=.str d) rfl rfl (by rw[vm];rfl))))
theorem Uy{w t:L4.D}{b:Bool}(h:RA w S q t b)(r:Sl):tT (uC 1) "holds" aw fC [.im w,.im S,.im q,r,.im t]=some (.bl b,[.im w,.im S,.im q,r,.im t]):=by obtain⟨k,ns,ds,hh,rfl,h2,h4,h5⟩:=h;exact uh (g:=uC 1) (m:="holds") (c:=k) (ns:=ns) (hh:=hh) (xs:=ds) (ys:=[w,S,q]) rfl h2 h4 rfl h5
def fB:FS:=(sIf (uR (cT (tT (uC 1) "holds" aw fC))) (tE cq) tL)
theorem ID{w S q:L4.D}(r:Sl):∀(ts:List (L4.D×Bool)) (s:Sl),(∀t∈ts,RA w S q t.1 t.2)->∃s',forL (gN 4) fB (ts.map bR) [.im w,.im S,.im q,r,s]=some (if ts.all bw then .nx [.im w,.im S,.im q,r,s']else .rt (.bl false) [.im w,.im S,.im q,r,s'])
 |[],s,_=>⟨s,rfl⟩
 |t::ts,s,h=>by
  rw[aK];unfold forL;rw[show gN 4 t.1 [.im w,.im S,.im q,r,s]=some [.im w,.im S,.im q,r,.im t.1] from rfl];have e:=xI (uL (Uy (h t aV) r));rw[cy];cases hb:t.2 with
  |true=>rw[hb]at e;obtain⟨s',h1⟩:=ID (w:=w) (S:=S) (q:=q) r ts (.im t.1) λu hu=>h u (ba _ hu);refine⟨s',?_⟩;have e2:fB [.im w,.im S,.im q,r,.im t.1]=some (.nx [.im w,.im S,.im q,r,.im t.1]):=(ux e).trans rfl;simp only[e2,Bool.true_and];exact h1
  |false=>rw[hb]at e;refine⟨.im t.1,?_⟩;have e2:fB [.im w,.im S,.im q,r,.im t.1]=some (.rt (.bl false) [.im w,.im S,.im q,r,.im t.1]):=(tV e).trans rfl;simp only[e2,oY];rfl
theorem vH{w:L4.D}(v:Str)(ts:List (L4.D×Bool))(ds:List L4.D)(tx:Str)(rf:Bool)(h:∀t∈ts,RA w S q t.1 t.2):vw [w,S,q,ruO v (ts.map bR) ds tx rf]=some (.bl (ts.all bw)):=by
 let r:Sl:=.im (ruO v (ts.map bR) ds tx rf);obtain⟨s',e⟩:=ID r ts .un h;cases q1:ts.all bw with
 |true=>rw[q1,af rfl]at e;exact tp (ρ:=[.im w,.im S,.im q,r,s']) rfl ((sW ((uM (ds:=ts.map bR) (ρ1:=[.im w,.im S,.im q,r,.un]) rfl).trans e)).trans rfl)
 |false=>rw[q1,ag (by simp)]at e;exact tp (ρ:=[.im w,.im S,.im q,r,s']) rfl (tJ ((uM (ds:=ts.map bR) (ρ1:=[.im w,.im S,.im q,r,.un]) rfl).trans e))
def vh(k tx:Str)(S:L4.D):L4.D:=.tup [.tup [.str k,.str tx],S]
theorem Av(w S q:L4.D)(v:Str)(ts ds:List L4.D)(tx:Str):xG [w,S,q,ruO v ts ds tx true]=some (vh "refused" tx S):=by let ρ:aU:=[.im w,.im S,.im q,.im (ruO v ts ds tx true),.un,.un];exact tp (ρ:=ρ) rfl (tJ ((tV rfl).trans rfl))
theorem YZ(w S q:L4.D)(v:Str)(ts:List L4.D)(tx:Str):xG [w,S,q,ruO v ts [] tx false]=some (vh "told" tx S):=by let r:=ruO v ts [] tx false;let ρ:Sl->Sl->aU:=λx y=>[.im w,.im S,.im q,.im r,x,y];exact tp (ρ:=ρ (.im S) .un) rfl ((um rfl).trans ((sW (ρ':=ρ (.im S) .un) rfl).trans ((sW (ρ':=ρ (.im S) .un) ((uM (ds:=[]) (ρ1:=ρ (.im S) .un) rfl).trans rfl)).trans rfl)))
def Done(w S q d:L4.D)(o:L4.D):Prop:=∃k ns ds hh,d=.obj k ns ds/\v3 k=some hh/\ns.contains "done" = false/\hh [d,w,S,q]=some o
theorem Uz{w:L4.D}(h:Done w S q d o)(r:Sl):tT v3 "done" bz jW [.im w,.im S,.im q,r,.im S,.im d]=some (o,[.im w,.im S,.im q,r,.im S,.im d]):=by obtain⟨k,ns,ds,hh,rfl,h2,h4,h5⟩:=h;exact uh (g:=v3) (m:="done") (c:=k) (ns:=ns) (hh:=hh) (xs:=ds) (ys:=[w,S,q]) rfl h2 h4 rfl h5
theorem Bx{w:L4.D}{o:Option (List L4.D)}(h:Done w S q d (match o with|none=>.non|some l=>.tup l))(v:Str)(ts:List L4.D)(tx:Str):xG [w,S,q,ruO v ts [d] tx false]=some (match o with|none=>vh "refused" "That cannot be." S|some l=>vh "told" tx (.tup l)):=by
 let r:=ruO v ts [d] tx false;let ρ:Sl->Sl->aU:=λx y=>[.im w,.im S,.im q,.im r,x,y];have e:=Uz h (.im r);cases o with
 |none=>refine tp (ρ:=ρ (.im .non) (.im d)) rfl ((um rfl).trans ((sW (ρ':=ρ (.im S) .un) rfl).trans (tJ ((uM (ds:=[d]) (ρ1:=ρ (.im S) .un) rfl).trans ?_))));unfold forL;rw[show gN 5 d (ρ (.im S) .un)=some (ρ (.im S) (.im d)) from rfl];have e2:(sZ (tZ 4 (tT v3 "done" bz jW)) (sIf (cT (c2 w6 aw aF)) (tE (tR mr)) tL)) (ρ (.im S) (.im d))=some (.rt (vh "refused" "That cannot be." S) (ρ (.im .non) (.im d))):=(sW (ρ':=ρ (.im .non) (.im d)) ((tU e).trans rfl)).trans ((tV rfl).trans rfl);simp only[e2]
 |some l=>refine tp (ρ:=ρ (.im (.tup l)) (.im d)) rfl ((um rfl).trans ((sW (ρ':=ρ (.im S) .un) rfl).trans ((sW (ρ':=ρ (.im (.tup l)) (.im d)) ((uM (ds:=[d]) (ρ1:=ρ (.im S) .un) rfl).trans ?_)).trans rfl)));unfold forL;rw[show gN 5 d (ρ (.im S) .un)=some (ρ (.im S) (.im d)) from rfl];have e2:(sZ (tZ 4 (tT v3 "done" bz jW)) (sIf (cT (c2 w6 aw aF)) (tE (tR mr)) tL)) (ρ (.im S) (.im d))=some (.nx (ρ (.im (.tup l)) (.im d))):=(sW (ρ':=ρ (.im (.tup l)) (.im d)) ((tU e).trans rfl)).trans ((ux rfl).trans rfl);simp only[e2];rfl
end
section
variable{T:List Th}{M:List Mk}{dk:aH}{W:List Wy}{c:L4.D}{P:List Ky}{a:Str->Str}{m:Str->Int}
theorem Sit.len(s:Sit T M dk W P a):P.length<=900:=by have:=(Ma s.g).2;rw[s.p.length_eq];omega
theorem aaO(h:x∈nrN T):∃t∈T,t.n=x/\¬t.k=.room:=by obtain⟨t,ht,e⟩:=az.mp h;rw[bo]at ht;exact⟨t,ht.1,e,λz=>by rw[z]at ht;exact ao ht.2 (by decide)⟩
theorem RB(s:Str)(x:Str):dEq true (.lst [kD (s,x)]) (.lst [])=some (.bl true):=by rfl
theorem K6(g:Good T M dk W)(h:x∈nrN T):Ce [wO T M dk W c,.str x]=some (.lst [kD ("at", x)]):=by obtain⟨t,ht,rfl,hk⟩:=aaO h;let w:=wO T M dk W c;let ρ:aU:=[.im w,.im (.str t.n),.im (thD t)];have e1:tZ 2 (tT tD "thing_of" ab bZ) [.im w,.im (.str t.n),.un]=some (.nx ρ):=(tU (uh (m:="thing_of") (ns:=wNs) (xs:=wA T M dk W c) (ys:=[.str t.n]) rfl rfl rfl rfl (xS g.ndT ht))).trans rfl;have e2:cT (c2 (dEq false) (c1 (tH ue "kind") aq) c3) ρ=some (false,ρ):=uL (tP (uA rfl (yJ t)) rfl ((Fb t .room).trans (by rw[aL hk])));have e3:wV (cT (c2 w6 aq aF)) (cT (c2 (dEq false) (c1 (tH ue "kind") aq) c3)) ρ=some (false,ρ):=B5 rfl e2;refine tp (ρ:=ρ) rfl ((sW e1).trans (tW ?_));unfold cIf;rw[e3];rfl
theorem OP(g:Good T M dk W)(hx:x∈nrN T)(hb:b∈hdN T):Be [wO T M dk W c,.str x,.str b]=some (.bl (!decide (b=x))):=by obtain⟨t,ht,rfl,hk⟩:=Vh hb;let w:=wO T M dk W c;let ρ:aU:=[.im w,.im (.str x),.im (.str t.n),.im (thD t)];have e1:tZ 3 (tT tD "thing_of" ab bY) [.im w,.im (.str x),.im (.str t.n),.un]=some (.nx ρ):=(tU (uh (m:="thing_of") (ns:=wNs) (xs:=wA T M dk W c) (ys:=[.str t.n]) rfl rfl rfl rfl (xS g.ndT ht))).trans rfl;refine tp (ρ:=ρ) rfl ((sW e1).trans (tW ((uk (ρ1:=ρ) (tP (sY (sV rfl (sV rfl rfl)) (K6 g hx)) rfl (RB _ _))).trans ((uk (ρ1:=ρ) rfl).trans ((uk (ρ1:=ρ) (uh (m:="can_hold") (ns:=["name", "words", "kind", "start"]) (xs:=[.str t.n,.tup (t.w.map D.str),.str t.k.s,oS t.s]) (ys:=[]) rfl rfl rfl rfl ((Ng t).trans (by rw[hk])))).trans (tP (x:=.str t.n) (y:=.str x) rfl rfl (by rw[vm];rfl)))))))
theorem Fc(s:Sit T M dk W P a){t d:Str}(hx:x∈nrN T)(hb:b∈hdN T)(h:Ch T a b l)(h1:uE [wO T M dk W c,sD P (va a m),q,.str t]=some (.str x))(h2:uE [wO T M dk W c,sD P (va a m),q,.str d]=some (.str b)):
  Done (wO T M dk W c) (sD P (va a m)) q (mvO t d) (if x=b\/x∈l then .non else sD P (va (ups a x b) m)):=by
 let w:=wO T M dk W c;let S:=sD P (va a m);refine⟨11,_,_,EC,rfl,rfl,rfl,?_⟩;let ρ:aU:=[.im (mvO t d),.im w,.im S,.im q,.im (.str x),.im (.str b)];have e1:cT (sX Be iU) ρ=some (!decide (b=x),ρ):=uL (sY (sV rfl (sV rfl (sV rfl rfl))) (OP s.g hx hb));have e2:cT (c2 (dIn false) aw (cL (uy vE jN))) ρ=some (decide (x∈l),ρ):=uL (tP (x:=.str x) (y:=.lst (l.map D.str)) rfl (uO (sY (sV rfl (sV rfl (sV rfl rfl))) (JD s.p _ h (DV s.g s.i h)))) (xf false _ _));have e3:wV (uR (cT (sX Be iU))) (cT (c2 (dIn false) aw (cL (uy vE jN)))) ρ=some (decide (x=b\/x∈l),ρ):=by
  by_cases k:b=x
  ·rw[aM k]at e1;rw[aM (.inl k.symm)];have e4:=xI e1;unfold wV;rw[e4];rfl
  ·rw[aL k]at e1;rw[show decide (x=b\/x∈l)=decide (x∈l) from by
    rw[cM,bJ,bJ];exact⟨λz=>z.elim (λz=>ao z.symm k) id,.inr⟩]
   have e4:=xI e1;exact B5 e4 e2
 have go:∀f:FS,sZ (tZ 4 (sX uE iN)) (sZ (tZ 5 (sX uE mh)) f) [.im (mvO t d),.im w,.im S,.im q,.un,.un]=f ρ:=λf=>(sW (ρ':=[.im (mvO t d),.im w,.im S,.im q,.im (.str x),.un]) ((tU (sY (sV rfl (sV rfl (sV rfl (sV rfl rfl)))) h1)).trans rfl)).trans (sW (ρ':=ρ) ((tU (sY (sV rfl (sV rfl (sV rfl (sV rfl rfl)))) h2)).trans rfl))
 by_cases k:x=b\/x∈l
 ·rw[aM k]at e3;rw[af k];exact tp (ρ:=ρ) rfl ((go _).trans (tJ ((tV e3).trans rfl)))
 ·rw[aL k]at e3;rw[ag k];exact tp (ρ:=ρ) rfl ((go _).trans ((um e3).trans (tW (sY (ds:=[S,kD ("at", x),.str b]) (sV rfl (sV rfl (sV rfl rfl))) ((Nr P s.len (va a m) ("at", x) (.str b)).trans (by rw[Vd]))))))
theorem UA(g:Good T M dk W)(ht:t∈T)(h:t.k.mk=true):AJ [wO T M dk W c,.str t.n]=some (.int 1):=by
 refine tp (ρ:=[.im (wO T M dk W c),.im (.str t.n)]) rfl (tW (tP (x:=mD T M) (y:=.str t.n) rfl rfl ?_));show some ((vU ((mP T M).map λq=>kS q.1) ((mP T M).map λq=>D.int q.2) (kS t.n)).getD .non)=_;rw[CN (U9 g) (d:=.int 1) (by
  rw[la];refine az.mpr ⟨(t.n,1),?_,rfl⟩;unfold mP;exact cj _ (az.mpr ⟨t,bo.mpr ⟨ht,h⟩,rfl⟩))]
 rfl
theorem Y0(s:Sit T M dk W P a){t:Str}(hu:u∈T)(hk:u.k.mk=true)(h1:uE [wO T M dk W c,sD P (va a m),q,.str t]=some (.str u.n))(v:Int)(hv:v<=1):
  Done (wO T M dk W c) (sD P (va a m)) q (puO t v) (sD P (va a (ups m u.n v))):=by
 let w:=wO T M dk W c;let S:=sD P (va a m);refine⟨12,_,_,Gq,rfl,rfl,rfl,?_⟩;let ρ:aU:=[.im (puO t v),.im w,.im S,.im q,.im (.str u.n)];have mo:∀ρ':aU,cV 0 ρ'=some (w,ρ')->cV 1 ρ'=some (.str u.n,ρ')->tT vM "most_of" ab bZ ρ'=some (.int 1,ρ'):=λρ' h0 h1=>uh (m:="most_of") (ns:=wNs) (xs:=wA T M dk W c) (ys:=[.str u.n]) h0 rfl rfl (sV h1 rfl) (UA s.g hu hk);have mp:An [w,.str u.n]=some (.lst [kD ("mark", u.n)]):=by let ρ':aU:=[.im w,.im (.str u.n)];refine tp (ρ:=ρ') rfl (tW ?_);have e:cT (c2 w6 (tT vM "most_of" ab bZ) aF) ρ'=some (false,ρ'):=uL (tP (mo ρ' rfl rfl) rfl rfl);show cIf _ _ _ ρ'=_;unfold cIf;rw[e];rfl
 have cs:Ao [w,.str u.n,.int v]=some (.bl true):=by let ρ':aU:=[.im w,.im (.str u.n),.im (.int v)];exact tp (ρ:=ρ') rfl (tW ((uk (ρ1:=ρ') (tP (sY (sV rfl (sV rfl rfl)) mp) rfl (RB _ _))).trans (QX (x:=v) (y:=1) rfl (mo ρ' rfl rfl) hv)))
 have e3:uR (cT (sX Ao qH)) ρ=some (false,ρ):=xI (b:=true) (uL (sY (sV rfl (sV rfl (sV rfl rfl))) cs));exact tp (ρ:=ρ) rfl ((sW (ρ':=ρ) ((tU (sY (sV rfl (sV rfl (sV rfl (sV rfl rfl)))) h1)).trans rfl)).trans ((um e3).trans (tW (sY (ds:=[S,kD ("mark", u.n),.int v]) (sV rfl (sV rfl (sV rfl rfl))) ((Nr P s.len (va a m) ("mark", u.n) (.int v)).trans (by rw[Ve _ _ _ _ _ (Rp s.p)]))))))
theorem UB:A21.filter (λd=>decide (kv d=kS "take"))=[ruO "take" [kiO "it" "fixed"] [] "That stays." true,ruO "take" [atO "it" "me"] [] "You have that." true,ruO "take" [] [mvO "it" "me"] "Taken." false]:=by kernel_rfl
theorem UC:A21.filter (λd=>decide (kv d=kS "drop"))=[ruO "drop" [hsO "it"] [mvO "it" "here"] "Dropped." false,ruO "drop" [] [] "You lack that." true]:=by kernel_rfl
theorem Y1:A21.filter (λd=>decide (kv d=kS "put"))=[ruO "put" [noO (hsO "it")] [] "You lack that." true,ruO "put" [noO (kiO "other" "box")] [] "It holds nothing." true,ruO "put" [mkO "other" 0] [] "It is shut." true,ruO "put" [] [mvO "it" "other"] "Done." false]:=by kernel_rfl
def trR(v k:Str)(n:Int)(t1 t2 t3:Str):List L4.D:=[ruO v [noO (kiO "it" k)] [] t1 true,ruO v [mkO "it" n] [] t2 true,ruO v [] [puO "it" n] t3 false]
theorem UD:A21.filter (λd=>decide (kv d=kS "open"))=trR "open" "box" 1 "It has no lid." "It is open." "Opened." := by kernel_rfl
theorem UE:A21.filter (λd=>decide (kv d=kS "shut"))=trR "shut" "box" 0 "It has no lid." "It is shut." "Shut." := by kernel_rfl
theorem RD:A21.filter (λd=>decide (kv d=kS "light"))=trR "light" "lamp" 1 "It burns not." "It is lit." "Lit." := by kernel_rfl
theorem RE:A21.filter (λd=>decide (kv d=kS "douse"))=trR "douse" "lamp" 0 "It burns not." "It is out." "Doused." := by kernel_rfl
theorem aaP:A21.filter (λd=>decide (kv d=kS "go"))=[]:=by kernel_rfl
theorem UF:A21.filter (λd=>decide (kv d=kS "wait"))=[]:=by kernel_rfl
theorem RF(w:Wy):kv (goO w)=kS "go" := rfl
theorem RG:kv (ruO "go" [] [] "No way there." true)=kS "go" := rfl
theorem Ny:kv (ruO "wait" [] [] "Time goes by." false)=kS "wait" := rfl
theorem NA{v:Str}(h1:¬v="go")(h2:¬v="wait"):(SH W).filter (λd=>decide (kv d=kS v))=A21.filter λd=>decide (kv d=kS v):=by
 unfold SH;rw[fG,fG];have g1:(W.map goO++[ruO "go" [] [] "No way there." true]).filter (λd=>decide (kv d=kS v))=[]:=hG.mpr λd hd=>by
  have e:kv d=kS "go" := by
   rcases bC.mp hd with h|h
   ·obtain⟨w,_,rfl⟩:=az.mp h;exact RF w
   ·rw[aR.mp h];exact RG
  rw[e,aL λz=>h1 (Gy z).symm];exact bj
 have g2:[ruO "wait" [] [] "Time goes by." false].filter (λd=>decide (kv d=kS v))=[]:=hG.mpr λd hd=>by rw[aR.mp hd,Ny,aL λz=>h2 (Gy z).symm];exact bj
 rw[g1,g2,bG,bG]
theorem aaQ:(SH W).filter (λd=>decide (kv d=kS "go"))=W.map goO++[ruO "go" [] [] "No way there." true]:=by
 unfold SH;rw[fG,fG,aaP];have g1:(W.map goO++[ruO "go" [] [] "No way there." true]).filter (λd=>decide (kv d=kS "go"))=W.map goO++[ruO "go" [] [] "No way there." true]:=kl.mpr λd hd=>by
  have e:kv d=kS "go" := by
   rcases bC.mp hd with h|h
   ·obtain⟨w,_,rfl⟩:=az.mp h;exact RF w
   ·rw[aR.mp h];exact RG
  rw[e];exact aM rfl
 rw[g1,bU];have g2:[ruO "wait" [] [] "Time goes by." false].filter (λd=>decide (kv d=kS "go"))=[]:=hG.mpr λd hd=>by rw[aR.mp hd,Ny,aL (λz=>ao (Gy z) (by decide))];exact bj
 rw[g2,bG]
theorem UG:(SH W).filter (λd=>decide (kv d=kS "wait"))=[ruO "wait" [] [] "Time goes by." false]:=by
 unfold SH;rw[fG,fG,UF];have g1:(W.map goO++[ruO "go" [] [] "No way there." true]).filter (λd=>decide (kv d=kS "wait"))=[]:=hG.mpr λd hd=>by
  have e:kv d=kS "go" := by
   rcases bC.mp hd with h|h
   ·obtain⟨w,_,rfl⟩:=az.mp h;exact RF w
   ·rw[aR.mp h];exact RG
  rw[e,aL (λz=>ao (Gy z) (by decide))];exact bj
 rw[g1];rfl
theorem Y2{dss:List (List L4.D)}(hg:∀j,gl ks dss j=(SH W).filter λd=>decide (kv d=j))(v:Str):ug [wO T M dk W (.dic ks (dss.map .lst)),.str v]=some (.lst ((SH W).filter λd=>decide (kv d=kS v))):=by let ρ:aU:=[.im (wO T M dk W (.dic ks (dss.map .lst))),.im (.str v)];refine FY (ρ:=ρ) rfl (wa ?_);have e:HH (c1 (tH xh "rules_by_verb") ab) ak (cL (uj ui)) ρ=some ((vU ks (dss.map .lst) (kS v)).getD (.lst []),ρ):=rfl;rw[Np,hg]at e;show yS _ ρ=_;unfold yS;rw[e];rfl
end
variable{c':FT}
theorem zQ(h:c ρ=some (true,ρ1)):vx c c' ρ=c' ρ1:=by unfold vx;rw[h]
theorem By(h:c ρ=some (false,ρ1)):vx c c' ρ=some (false,ρ1):=by unfold vx;rw[h]
theorem RH(h1:c ρ=some (true,ρ1)):wV c c' ρ=some (true,ρ1):=by unfold wV;rw[h1]
theorem Vj(h:e ρ=some (.tup ds,ρ1)):iT e ρ=some (ds,ρ1):=by unfold iT;rw[h]
def nmP(O:List (Option Str)):aH:=O.filterMap id
def fU(O:List (Option Str))(p:Str->Bool):Option Str:=(nmP O).find? λx=>!p x
def uB:FS:=(sIf (vx (cT (c2 uV aw aF)) (cT (c2 (dIn true) aw aA))) (tE (tR qD)) tL)
def RI(o:Option L4.D)(ρ:aU):Option Out:=some (match o with|some d=>.rt d ρ|none=>.nx ρ)
theorem JG{w q s5:Sl}{S:L4.D}{L:aH}{p:Str->Bool}:∀(O:List (Option Str)) (s:Sl),(∀x∈nmP O,decide (x∈L)=p x)->∃s',forL (gN 4) uB (O.map oS) [w,.im S,q,.im (.lst (L.map D.str)),s,s5]=RI ((fU O p).map λx=>vh "unseen" x S) [w,.im S,q,.im (.lst (L.map D.str)),s',s5]
 |[],s,_=>⟨s,rfl⟩
 |none::O,s,h=>by obtain⟨s',e⟩:=JG (w:=w) (q:=q) (s5:=s5) (S:=S) (L:=L) (p:=p) O (.im .non) h;exact⟨s',e⟩
 |some x::O,s,h=>by
  let ρ:aU:=[w,.im S,q,.im (.lst (L.map D.str)),.im (.str x),s5];have hx:=h x aV;have e1:vx (cT (c2 uV aw aF)) (cT (c2 (dIn true) aw aA)) ρ=some (!p x,ρ):=(zQ (ρ1:=ρ) rfl).trans (uL (tP (x:=.str x) (y:=.lst (L.map D.str)) rfl rfl ((xf true x L).trans (by rw[<-hx];rfl))));rw[aK];unfold forL;rw[show gN 4 (oS (some x)) [w,.im S,q,.im (.lst (L.map D.str)),s,s5]=some ρ from rfl];have fu:fU (some x::O) p=if p x then fU O p else some x:=by unfold fU;show (x::nmP O).find? _=_;rw[cU];cases p x<;>rfl
  rw[fu];cases hp:p x with
  |true=>rw[hp]at e1;obtain⟨s',e⟩:=JG (w:=w) (q:=q) (s5:=s5) (S:=S) (L:=L) (p:=p) O (.im (.str x)) λy hy=>h y (ba _ hy);refine⟨s',?_⟩;have e2:uB ρ=some (.nx ρ):=(ux e1).trans rfl;simp only[e2];exact e
  |false=>rw[hp]at e1;refine⟨.im (.str x),?_⟩;have e2:uB ρ=some (.rt (vh "unseen" x S) ρ):=(tV e1).trans rfl;simp only[e2];rfl
def aB:FS:=(sIf (cT (sX vw iW)) (tE (sX xG iW)) tL)
def Ans(w S q:L4.D)(rs:List L4.D)(o:L4.D):Prop:=∀s3 s4 s,∃s',forL (gN 5) aB rs [.im w,.im S,.im q,s3,s4,s]=some (.rt o [.im w,.im S,.im q,s3,s4,s'])
theorem Ans.hit{w r:L4.D}{rs:List L4.D}(h1:vw [w,S,q,r]=some (.bl true))(h2:xG [w,S,q,r]=some o):Ans w S q (r::rs) o:=λs3 s4 s=>by refine⟨.im r,?_⟩;unfold forL;rw[show gN 5 r [.im w,.im S,.im q,s3,s4,s]=some [.im w,.im S,.im q,s3,s4,.im r] from rfl];have e2:aB [.im w,.im S,.im q,s3,s4,.im r]=some (.rt o [.im w,.im S,.im q,s3,s4,.im r]):=(tV (uL (sY (sV rfl (sV rfl (sV rfl (sV rfl rfl)))) h1))).trans (tW (sY (sV rfl (sV rfl (sV rfl (sV rfl rfl)))) h2));simp only[e2]
theorem Ans.mis{w r:L4.D}{rs:List L4.D}(h1:vw [w,S,q,r]=some (.bl false))(h2:Ans w S q rs o):Ans w S q (r::rs) o:=λs3 s4 s=>by obtain⟨s',e⟩:=h2 s3 s4 (.im r);refine⟨s',?_⟩;unfold forL;rw[show gN 5 r [.im w,.im S,.im q,s3,s4,s]=some [.im w,.im S,.im q,s3,s4,.im r] from rfl];have e2:aB [.im w,.im S,.im q,s3,s4,.im r]=some (.nx [.im w,.im S,.im q,s3,s4,.im r]):=(ux (uL (sY (sV rfl (sV rfl (sV rfl (sV rfl rfl)))) h1))).trans rfl;simp only[e2];exact e
variable{p:Str->Bool}
section
variable{T:List Th}{M:List Mk}{dk:aH}{W:List Wy}{c:L4.D}{P:List Ky}{a:Str->Str}{m:Str->Int}
theorem Fd(p:Str->Bool):∀O:List (Option Str),(O.filter λo=>match o with|none=>false|some x=>p x).map oS=((nmP O).filter p).map D.str
 |[]=>rfl
 |none::O=>Fd p O
 |some x::O=>by
  show _=((x::nmP O).filter p).map D.str;rw[gp,gp];show fV oS (if p x=true then _ else _)=fV _ (if p x=true then _ else _);by_cases hp:p x=true
  ·rw[af hp,af hp,aK,aK,Fd p O];rfl
  ·rw[ag hp,ag hp];exact Fd p O
theorem BA{v:Str}{O:List (Option Str)}{rs:List L4.D}(hO:O.length<=2)(hq:∃d1 d2,q=.tup [.str v,d1,d2])(h1:wG [wO T M dk W c,q]=some .non)(h2:uo [wO T M dk W c,q]=some (.tup (O.map oS)))(h3:∀x∈nmP O,uI [wO T M dk W c,S,.str x]=some (.bl (p x)))
  (h4:ug [wO T M dk W c,.str v]=some (.lst rs)) (h5:fU O p=none->Ans (wO T M dk W c) S q rs o):v7 [wO T M dk W c,S,q]=some (match fU O p with|some x=>vh "unseen" x S|none=>o):=by
 let w:=wO T M dk W c;let L:=(nmP O).filter p;let ls:L4.D:=.lst (L.map D.str);let ρ0:aU:=[.im w,.im S,.im q,.un];let ρ:aU:=[.im w,.im S,.im q,.im ls];have e3:tZ 3 (cL (tN 1 [0,1] (iT (sX uo dO)) (gN 0) (cT (sX uI mn)) ab)) ρ0=some (.nx ρ):=by
  refine(tU (uO ((x9 oS oS (λo=>match o with|none=>false|some x=>p x) O (ρ1:=ρ0) (Vj (sY (sV rfl (sV rfl rfl)) h2)) (by omega) λx hx=>⟨[.im (oS x),.im w,.im S],[.im (oS x),.im w,.im S],rfl,uL (sY (sV rfl (sV rfl (sV rfl rfl))) ?_),λ_=>⟨_,rfl,rfl⟩,λ_=>rfl⟩).trans (by rw[Fd])))).trans rfl;cases x with
  |none=>exact Uu S
  |some x=>exact h3 x (ia.mpr ⟨_,hx,rfl⟩)
 have hans:Cf [w,S,q,ls]=some (match fU O p with|some x=>vh "unseen" x S|none=>o):=by
  let r0:aU:=[.im w,.im S,.im q,.im ls,.un,.un];obtain⟨s',e⟩:=JG (w:=.im w) (q:=.im q) (s5:=.un) (S:=S) (L:=L) (p:=p) O .un λx hx=>by rw[cM,bJ,bo];exact⟨λz=>z.2,λz=>⟨hx,z⟩⟩
  have e1:v8 (iT (sX uo dO)) (gN 4) uB r0=_:=(uM (ρ1:=r0) (Vj (sY (sV rfl (sV rfl rfl)) h2))).trans e;cases hf:fU O p with
  |some x=>rw[hf]at e1;exact tp rfl (tJ e1)
  |none=>rw[hf]at e1;obtain⟨d1,d2,rfl⟩:=hq;obtain⟨s2,e2⟩:=h5 hf (.im ls) s' .un;exact tp rfl ((sW e1).trans (tJ ((uM (EH (uh (m:="rules_to_try") (ns:=wNs) (xs:=wA T M dk W c) (ys:=[.str v]) rfl rfl rfl rfl h4))).trans e2)))
 exact tp (ρ:=ρ) rfl ((sW (ρ':=ρ0) (uN (sY (sV rfl (sV rfl rfl)) h1))).trans ((sW e3).trans (tW (sY (sV rfl (sV rfl (sV rfl (sV rfl rfl)))) hans))))
theorem Ml(g:Good T M dk W)(hx:x∈plN T):wU [wO T M dk W c,.str x]=some (.bl true):=by
 obtain⟨t,ht,rfl⟩:=az.mp hx;rw[bo]at ht;let w:=wO T M dk W c;let ρ:aU:=[.im w,.im (.str t.n),.im (thD t)];have e1:tZ 2 (cIf (cT (c1 (wy (vg "str")) ak)) (tT tD "thing_of" ab bZ) aF) [.im w,.im (.str t.n),.un]=some (.nx ρ):=by refine(tU (d:=thD t) (ρ':=[.im w,.im (.str t.n),.un]) ?_).trans rfl;show tT tD "thing_of" ab bZ [.im w,.im (.str t.n),.un]=_;exact uh (m:="thing_of") (ns:=wNs) (xs:=wA T M dk W c) (ys:=[.str t.n]) rfl rfl rfl rfl (xS g.ndT ht.1)
 exact tp (ρ:=ρ) rfl ((sW e1).trans (tW ((uk (ρ1:=ρ) rfl).trans (uh (m:="is_plainly") (ns:=["name", "words", "kind", "start"]) (xs:=[.str t.n,.tup (t.w.map D.str),.str t.k.s,oS t.s]) (ys:=[]) rfl rfl rfl rfl ((Dr t).trans (by rw[ht.2]))))))
theorem DX{v:Vb}(hv:v∈v9){x:Option Str}(h:v5 [wO T M dk W c,.str v.f,oS x,oS y]=some (.bl true)):wG [wO T M dk W c,q3 v.n x y]=some .non:=by
 let w:=wO T M dk W c;let q:=q3 v.n x y;have h1:Aq [w,q]=some (.bl true):=by let ρ0:aU:=[.im w,.im q,.un];let ρ:aU:=[.im w,.im q,.im (vbO v)];have e1:tZ 2 (tT vd "verb_of" ab gV) ρ0=some (.nx ρ):=(tU (uh (m:="verb_of") (ns:=wNs) (xs:=wA T M dk W c) (ys:=[.str v.n]) rfl rfl rfl rfl (Nx hv))).trans rfl;refine tp (ρ:=ρ) rfl ((um rfl).trans ((sW e1).trans (tW ((uk (ρ1:=ρ) rfl).trans ((uk (ρ1:=ρ) (tP (x:=.str v.n) (y:=.str v.n) rfl rfl (by rw[vm];simp))).trans (sY (ds:=[w,.str v.f,oS x,oS y]) (sV rfl (sV rfl (sV rfl (sV rfl rfl)))) h))))))
 exact zb (ρ:=[.im w,.im q]) rfl ((ux (xI (b:=true) (uL (sY (sV rfl (sV rfl rfl)) h1)))).trans rfl)
theorem Mm(g:Good T M dk W)(hx:x∈plN T):v5 [wO T M dk W c,.str "one", .str x,.non]=some (.bl true):=by let ρ:aU:=[.im (wO T M dk W c),.im (.str "one"),.im (.str x),.im .non];exact tp (ρ:=ρ) rfl ((um rfl).trans ((um rfl).trans ((um rfl).trans (tW (by show sX wU dO ρ=_;exact sY (sV rfl (sV rfl rfl)) (Ml g hx))))))
theorem Y3(g:Good T M dk W){y:Str}(hx:x∈plN T)(hy:y∈plN T):v5 [wO T M dk W c,.str "two", .str x,.str y]=some (.bl true):=by let ρ:aU:=[.im (wO T M dk W c),.im (.str "two"),.im (.str x),.im (.str y)];exact tp (ρ:=ρ) rfl (tJ ((tV rfl).trans (tW ((uk (ρ1:=ρ) (sY (sV rfl (sV rfl rfl)) (Ml g hx))).trans (sY (sV rfl (sV rfl rfl)) (Ml g hy))))))
theorem RJ:v5 [wO T M dk W c,.str "alone", .non,.non]=some (.bl true):=by let ρ:aU:=[.im (wO T M dk W c),.im (.str "alone"),.im .non,.im .non];exact tp (ρ:=ρ) rfl ((um rfl).trans ((um rfl).trans ((um rfl).trans (tW rfl))))
theorem Y4(g:Good T M dk W)(hx:x∈wdN W):v5 [wO T M dk W c,.str "way", .str x,.non]=some (.bl true):=by let ρ:aU:=[.im (wO T M dk W c),.im (.str "way"),.im (.str x),.im .non];refine tp (ρ:=ρ) rfl ((um rfl).trans ((um rfl).trans (tJ ((tV rfl).trans (tW ((uk (ρ1:=ρ) rfl).trans (tP (x:=.str x) (y:=.lst ((wdN W).map D.str)) rfl (uh (m:="way_words") (ns:=wNs) (xs:=wA T M dk W c) (ys:=[]) rfl rfl rfl rfl (K2 g.w8 λw hw=>(g.wo w hw).hw)) ((xf false _ _).trans ?_))))))));show some (D.bl (decide (x∈wdN W)))=_;rw[aM hx]
end
inductive Rs where
 |un (x:Str)|rf (tx:Str)|mv (tx x b:Str)|mk (tx x:Str) (v:Int)
def Rs.due:Rs->L4.D
 |.un x=>.tup [.str x,.str "unseen"]
 |.rf tx=>.tup [.str tx,.non]
 |.mv tx x b=>.tup [.str tx,.tup [kD ("at", x),.str b]]
 |.mk tx x v=>.tup [.str tx,.tup [kD ("mark", x),.int v]]
def Rs.st(P:List Ky)(a:Str->Str)(m:Str->Int):Rs->L4.D
 |.un x=>vh "unseen" x (sD P (va a m))
 |.rf tx=>vh "refused" tx (sD P (va a m))
 |.mv tx x b=>vh "told" tx (sD P (va (ups a x b) m))
 |.mk tx x v=>vh "told" tx (sD P (va a (ups m x v)))
def Rs.inv(T:List Th)(a:Str->Str):Rs->Prop
 |.mv _ x b=>Inv T (ups a x b)
 |_=>True
def Turn(T:List Th)(M:List Mk)(dk:aH)(W:List Wy)(c:L4.D)(P:List Ky)(a:Str->Str)(m:Str->Int)(q:L4.D):Prop:=∃r:Rs,wM [wO T M dk W c,sD P (va a m),WD W,q]=some r.due/\v7 [wO T M dk W c,sD P (va a m),q]=some (r.st P a m)/\r.inv T a
theorem K7{α:Type}(f:Str->α)(x:Str):ups f x (f x)=f:=by
 funext y
 unfold ups;by_cases h:y=x
 ·rw[af h,h]
 ·rw[ag h]
variable{f:FE}
theorem JH{gg:FG}(h1:f ρ=some (d,ρ1))(h2:gg d ρ1=some ρ2):Cv f gg ρ=some (.nx ρ2):=by unfold Cv;rw[h1];simp only[h2]
def dL:FS:=(sIf (vx (cT (c2 uV bI aF)) (uR (cT (sX uI ml)))) (tE (tR (aCons bI (a1 fZ)))) tL)
theorem JI{w S:L4.D}{s2 s3 s4 s5 s6:Sl}{p:Str->Bool}:∀(O:List (Option Str)) (s:Sl),(∀x∈nmP O,uI [w,S,.str x]=some (.bl (p x)))->∃s',forL (gN 7) dL (O.map oS) [.im w,.im S,s2,s3,s4,s5,s6,s]=RI ((fU O p).map λx=>.tup [.str x,.str "unseen"]) [.im w,.im S,s2,s3,s4,s5,s6,s']
 |[],s,_=>⟨s,rfl⟩
 |none::O,s,h=>by obtain⟨s',e⟩:=JI (w:=w) (S:=S) (s2:=s2) (s3:=s3) (s4:=s4) (s5:=s5) (s6:=s6) (p:=p) O (.im .non) h;exact⟨s',e⟩
 |some x::O,s,h=>by
  let ρ:aU:=[.im w,.im S,s2,s3,s4,s5,s6,.im (.str x)];have hx:=h x aV;have e1:vx (cT (c2 uV bI aF)) (uR (cT (sX uI ml))) ρ=some (!p x,ρ):=(zQ (ρ1:=ρ) rfl).trans (xI (uL (sY (sV rfl (sV rfl (sV rfl rfl))) hx)));rw[aK];unfold forL;rw[show gN 7 (oS (some x)) [.im w,.im S,s2,s3,s4,s5,s6,s]=some ρ from rfl];have fu:fU (some x::O) p=if p x then fU O p else some x:=by unfold fU;show (x::nmP O).find? _=_;rw[cU];cases p x<;>rfl
  rw[fu];cases hp:p x with
  |true=>rw[hp]at e1;obtain⟨s',e⟩:=JI (w:=w) (S:=S) (s2:=s2) (s3:=s3) (s4:=s4) (s5:=s5) (s6:=s6) (p:=p) O (.im (.str x)) λy hy=>h y (ba _ hy);refine⟨s',?_⟩;have e2:dL ρ=some (.nx ρ):=(ux e1).trans rfl;simp only[e2];exact e
  |false=>rw[hp]at e1;refine⟨.im (.str x),?_⟩;have e2:dL ρ=some (.rt (.tup [.str x,.str "unseen"]) ρ):=(tV e1).trans rfl;simp only[e2];rfl
def tlB:FS:=(sZ (sIf (cT (c2 (dEq false) aw gU)) (tE (sX ye gW)) tL)
 (sZ (sIf (vx (cT (c2 (dEq false) aw eE)) (uR (cT (sX Dh gW)))) (tE (tR mF)) tL)
 (sZ (sIf (cT (c2 (dEq false) aw eE)) (tE (tR qB)) tL)
 (sZ (sIf (cT (c2 (dEq false) aw f6)) (tE (sX y8 qI)) tL)
 (tE (sX wF (aCons ab iU)))))))
theorem JJ{w wd:L4.D}{v:Str}{x:Option Str}(h1:¬v="go")(h2:¬v="wait")(h3:∀z∈nmP [x,y],uI [w,S,.str z]=some (.bl (p z)))(h4:fU [x,y] p=none->∀s,∃ρ',tlB [.im w,.im S,.im wd,.im (q3 v x y),.im (.str v),.im (oS x),.im (oS y),s]=some (.rt d ρ')):
  wM [w,S,wd,q3 v x y]=some (match fU [x,y] p with|some z=>.tup [.str z,.str "unseen"]|none=>d):=by
 let ρ:Sl->aU:=λs=>[.im w,.im S,.im wd,.im (q3 v x y),.im (.str v),.im (oS x),.im (oS y),s];have e0:Cv aA (gT qe 3) [.im w,.im S,.im wd,.im (q3 v x y),.un,.un,.un,.un]=some (.nx (ρ .un)):=JH rfl rfl;have no:∀t:Str,¬v=t->cT (c2 (dEq false) aw (cC (.str t))) (ρ .un)=some (false,ρ .un):=λt ht=>uL (tP (x:=.str v) (y:=.str t) rfl rfl (by rw[vm];show some (D.bl (decide (v=t)))=_;rw[aL ht]));obtain⟨s',e⟩:=JI (w:=w) (S:=S) (s2:=.im wd) (s3:=.im (q3 v x y)) (s4:=.im (.str v)) (s5:=.im (oS x)) (s6:=.im (oS y)) (p:=p) [x,y] .un h3;have e1:v8 (iL (cL (uj iP))) (gN 7) dL (ρ .un)=_:=(uM (ρ1:=ρ .un) (ds:=[x,y].map oS) rfl).trans e;have hd:∀o,v8 (iL (cL (uj iP))) (gN 7) dL (ρ .un)=o->Ci [.im w,.im S,.im wd,.im (q3 v x y),.un,.un,.un,.un]=sZ (v8 (iL (cL (uj iP))) (gN 7) dL) tlB (ρ .un):=λo _=>(sW e0).trans ((um (no _ h1)).trans ((um (no _ h2)).trans rfl));cases hf:fU [x,y] p with
 |some z=>rw[hf]at e1;exact tp rfl ((hd _ e1).trans (tJ e1))
 |none=>rw[hf]at e1;obtain⟨ρ',e2⟩:=h4 hf s';exact tp rfl ((hd _ e1).trans ((sW e1).trans e2))
variable{r:Str}
section
variable{T:List Th}{M:List Mk}{dk:aH}{W:List Wy}{c:L4.D}{P:List Ky}{a:Str->Str}{m:Str->Int}
theorem zE(s:Sit T M dk W P a):∃p:Str->Bool,∀x∈plN T,uI [wO T M dk W c,sD P (va a m),.str x]=some (.bl (p x)):=by
 have h:∀x:Str,∃b:Bool,x∈plN T->uI [wO T M dk W c,sD P (va a m),.str x]=some (.bl b):=λx=>by
  by_cases hx:x∈plN T
  ·obtain⟨t,ht,rfl⟩:=az.mp hx;obtain⟨b,e⟩:=Ut (c:=c) (m:=m) s (bo.mp ht).1;exact⟨b,λ_=>e⟩
  ·exact⟨false,λz=>ao z hx⟩
 exact⟨λx=>(h x).choose,λx=>(h x).choose_spec⟩
theorem K8(h:x∈plN T):∃t∈T,t.n=x/\t.k.pl=true:=by obtain⟨t,ht,e⟩:=az.mp h;rw[bo]at ht;exact⟨t,ht.1,e,ht.2⟩
theorem NB(g:Good T M dk W)(ht:t∈T)(h:t.k.pl=true):t.n∈nrN T:=(JB g.ndT _ ht).mpr (by cases hk:t.k<;>rw[hk]at h<;>first|rfl|cases h)
theorem GU(g:Good T M dk W)(h:r∈rmN T):r∉nrN T:=λz=>by obtain⟨t,ht,e⟩:=az.mp h;rw[bo]at ht;rw[<-e]at z;have:=(JB g.ndT _ ht.1).mp z;rw[bK ht.2]at this;exact ao this (by decide)
theorem NC(h:r∈rmN T):r∈hdN T:=by obtain⟨u,hu,e⟩:=az.mp h;rw[bo]at hu;exact az.mpr ⟨u,bo.mpr ⟨hu.1,by rw[bK hu.2];rfl⟩,e⟩
theorem Vk(g:Good T M dk W):("me" : Str)∈hdN T:=by obtain⟨t,ht,e,k⟩:=Nt g;exact az.mpr ⟨t,bo.mpr ⟨ht,by rw[k];rfl⟩,e⟩
theorem RK(g:Good T M dk W)(ht:t∈T)(h:t.k.pl=true):¬t.n="me" := λz=>by obtain⟨u,hu,e,k⟩:=Nt g;rw[L9 g.ndT ht hu (z.trans e.symm),k]at h;cases h
theorem Vl(s:Sit T M dk W P a):Ch T a "me" [a "me"]:=.cons (Bn s.g) (.nil (GU s.g s.i.me))
theorem aaR(g:Good T M dk W)(ht:t∈T):Nm t.n:=g.nm _ (cj _ (az.mpr ⟨t,ht,rfl⟩))
theorem ND:Nm "me" := by unfold Nm;decide
theorem NF(s:Sit T M dk W P a)(h:x∈nrN T):uS [sD P (va a m),.str x]=some (.str (a x)):=(Iy s.p x).trans (by rw[af h])
theorem RN(s:Sit T M dk W P a)(h:x∈mkN T M):uQ [sD P (va a m),.str x]=some (.int (m x)):=(E9 s.p x).trans (by rw[af h])
theorem RO(s:Sit T M dk W P a)(ht:t∈T)(h0:cV 0 ρ=some (wO T M dk W c,ρ))(hi:cV i ρ=some (.str t.n,ρ)):c1 (tH ue "kind") (tT tD "thing_of" ab (a1 (cV i))) ρ=some (.str t.k.s,ρ):=uA (uh (m:="thing_of") (ns:=wNs) (xs:=wA T M dk W c) (ys:=[.str t.n]) h0 rfl rfl (sV hi rfl) (xS s.g.ndT ht)) (yJ t)
theorem RP(s:Sit T M dk W P a)(ht:t∈T)(hk:t.k.pl=true):ye [wO T M dk W c,sD P (va a m),.str t.n]=some (if t.k=.fixed then .tup [.str "That stays.", .non]else if a t.n="me" then .tup [.str "You have that.", .non]else .tup [.str "Taken.", .tup [kD ("at", t.n),.str "me"]]):=by
 let ρ:aU:=[.im (wO T M dk W c),.im (sD P (va a m)),.im (.str t.n)];have e1:cT (c2 (dEq false) (c1 (tH ue "kind") (tT tD "thing_of" ab bY)) jL) ρ=some (decide (t.k=.fixed),ρ):=uL (tP (RO s ht rfl rfl) rfl (Fb t .fixed));have e2:cT (c2 (dEq false) (sX uS dq) (cS "me")) ρ=some (decide (a t.n="me"),ρ):=uL (tP (x:=.str (a t.n)) (y:=.str "me") (sY (sV rfl (sV rfl rfl)) (NF s (NB s.g ht hk))) rfl (vm _ _ _));by_cases h1:t.k=.fixed
 ·rw[af h1];rw[aM h1]at e1;exact tp (ρ:=ρ) rfl (tJ ((tV e1).trans rfl))
 ·rw[ag h1];rw[aL h1]at e1;by_cases h2:a t.n="me"
  ·rw[af h2];rw[aM h2]at e2;exact tp (ρ:=ρ) rfl ((um e1).trans (tJ ((tV e2).trans rfl)))
  ·rw[ag h2];rw[aL h2]at e2;exact tp (ρ:=ρ) rfl ((um e1).trans ((um e2).trans rfl))
theorem Fe{d o:L4.D}{v:Str}{x:Option Str}{r:Rs}(hd:wM [wO T M dk W c,sD P (va a m),WD W,q]=some (match fU [x,y] p with|some z=>.tup [.str z,.str "unseen"]|none=>r.due))(hs:v7 [wO T M dk W c,sD P (va a m),q]=some (match fU [x,y] p with|some z=>vh "unseen" z (sD P (va a m))|none=>r.st P a m))(hi:r.inv T a):Turn T M dk W c P a m q:=by
 cases hf:fU [x,y] p with
 |some z=>rw[hf]at hd hs;exact⟨.un z,hd,hs,trivial⟩
 |none=>rw[hf]at hd hs;exact⟨r,hd,hs,hi⟩
def Try(T:List Th)(M:List Mk)(dk:aH)(W:List Wy)(c:L4.D):Prop:=∀v:Str,ug [wO T M dk W c,.str v]=some (.lst ((SH W).filter λd=>decide (kv d=kS v)))
theorem UH(s:Sit T M dk W P a)(ht0:Try T M dk W c)(hx:x∈plN T):Turn T M dk W c P a m (q3 "take" (some x) none):=by
 obtain⟨t,ht,rfl,hk⟩:=K8 hx;obtain⟨p,hp⟩:=zE (c:=c) (m:=m) s;let w:=wO T M dk W c;let S:=sD P (va a m);let q:=q3 "take" (some t.n) none;have hv:(⟨"take", [],"one", none⟩:Vb)∈v9:=by simp[v9]
 have th:uo [w,q]=some (.tup [oS (some t.n),oS none]):=yK hv (by decide) (some t.n) none;have mi:uE [w,S,q,.str "it"]=some (.str t.n):=Uw th;have hs3:∀z∈nmP [some t.n,none],uI [w,S,.str z]=some (.bl (p z)):=λz hz=>by rw[show nmP [some t.n,none]=[t.n] from rfl,aR]at hz;rw[hz];exact hp _ hx
 let r:Rs:=if t.k=.fixed then .rf "That stays." else if a t.n="me" then .rf "You have that." else .mv "Taken." t.n "me"
 have nm:=NB s.g ht hk;have nme:=RK s.g ht hk;have nl:¬(t.n="me" \/ t.n∈[a "me"]):=by
  rintro(z|z)
  ·exact nme z
  ·rw[aR.mp z]at nm;exact GU s.g s.i.me nm
 have du:=JJ (w:=w) (S:=S) (wd:=WD W) (d:=r.due) (v:="take") (x:=some t.n) (y:=none) (p:=p) (by decide) (by decide) hs3 λ_ s'=>⟨_,tJ ((tV rfl).trans (tW (sY (sV rfl (sV rfl (sV rfl rfl))) ((RP s ht hk).trans (by
   show some _=some (Rs.due (if _ then _ else _));by_cases h1:t.k=.fixed
   ·rw[af h1,af h1];rfl
   ·rw[ag h1,ag h1];by_cases h2:a t.n="me"
    ·rw[af h2,af h2];rfl
    ·rw[ag h2,ag h2];rfl)))))⟩
 have rl:ug [w,.str "take"]=some (.lst [ruO "take" [kiO "it" "fixed"] [] "That stays." true,ruO "take" [atO "it" "me"] [] "You have that." true,ruO "take" [] [mvO "it" "me"] "Taken." false]):=(ht0 "take").trans (by rw[NA (by decide) (by decide),UB]);have f1:vw [w,S,q,ruO "take" [kiO "it" "fixed"] [] "That stays." true]=some (.bl (decide (t.k=.fixed))):=(vH "take" [(kiO "it" "fixed", decide (t.k=.fixed))] [] _ true λu hu=>by rw[aR.mp hu];exact(Mi s ht mi .fixed).h).trans (by rw[cy,eZ,eW]);have f2:vw [w,S,q,ruO "take" [atO "it" "me"] [] "You have that." true]=some (.bl (decide (a t.n="me"))):=(vH "take" [(atO "it" "me", decide (a t.n="me"))] [] _ true λu hu=>by rw[aR.mp hu];exact(h_at s.p nm mi (Ck w S q ND)).h).trans (by rw[cy,eZ,eW]);have f3:vw [w,S,q,ruO "take" [] [mvO "it" "me"] "Taken." false]=some (.bl true):=vH "take" [] _ _ false λu hu=>(by cases hu);have dn:Done w S q (mvO "it" "me") (sD P (va (ups a t.n "me") m)):=by have:=Fc (c:=c) (m:=m) s nm (Vk s.g) (Vl s) mi (Ck w S q ND);rw[ag nl]at this;exact this
 have st:v7 [w,S,q]=some (match fU [some t.n,none] p with|some z=>vh "unseen" z S|none=>r.st P a m):=BA (O:=[some t.n,none]) (aJ 2) ⟨_,_,rfl⟩ (DX hv (Mm s.g hx)) th hs3 rl λ_=>by
  show Ans _ _ _ _ (Rs.st P a m (if _ then _ else _));by_cases h1:t.k=.fixed
  ·rw[af h1];rw[aM h1]at f1;exact .hit f1 (Av _ _ _ _ _ _ _)
  ·rw[ag h1];rw[aL h1]at f1;refine .mis f1 ?_;by_cases h2:a t.n="me"
   ·rw[af h2];rw[aM h2]at f2;exact .hit f2 (Av _ _ _ _ _ _ _)
   ·rw[ag h2];rw[aL h2]at f2;exact .mis f2 (.hit f3 (Bx (o:=some (P.map λk=>.tup [kD k,va (ups a t.n "me") m k])) dn _ _ _))
 refine Fe (d:=.non) (o:=.non) (v:="") du st ?_;show Rs.inv T a (if _ then _ else _);by_cases h1:t.k=.fixed
 ·rw[af h1];trivial
 ·rw[ag h1];by_cases h2:a t.n="me"
  ·rw[af h2];trivial
  ·rw[ag h2];exact s.i.mv s.g nm (Vk s.g) (λz=>ao z nme) (λz=>nme z.symm) (Vl s) λz=>nl (.inr z)
end
variable{t1 t2 t3:Str}
section
variable{T:List Th}{M:List Mk}{dk:aH}{W:List Wy}{c:L4.D}{P:List Ky}{a:Str->Str}{m:Str->Int}
theorem UI(s:Sit T M dk W P a)(ht0:Try T M dk W c)(hx:x∈plN T):Turn T M dk W c P a m (q3 "drop" (some x) none):=by
 obtain⟨t,ht,rfl,hk⟩:=K8 hx;obtain⟨p,hp⟩:=zE (c:=c) (m:=m) s;obtain⟨l,ch⟩:=s.i.ch t.n;have ll:=DV s.g s.i ch;let w:=wO T M dk W c;let S:=sD P (va a m);let q:=q3 "drop" (some t.n) none;have hv:(⟨"drop", [],"one", none⟩:Vb)∈v9:=by simp[v9]
 have th:uo [w,q]=some (.tup [oS (some t.n),oS none]):=yK hv (by decide) (some t.n) none;have mi:uE [w,S,q,.str "it"]=some (.str t.n):=Uw th;have hs3:∀z∈nmP [some t.n,none],uI [w,S,.str z]=some (.bl (p z)):=λz hz=>by rw[show nmP [some t.n,none]=[t.n] from rfl,aR]at hz;rw[hz];exact hp _ hx
 let r:Rs:=if ("me" : Str)∈l then .mv "Dropped." t.n (a "me")else .rf "You lack that."
 have nm:=NB s.g ht hk;have nme:=RK s.g ht hk;have nrm:=GU s.g s.i.me;have nl:¬(t.n=a "me" \/ t.n∈([]:aH)):=by
  rintro(z|z)
  ·rw[z]at nm;exact nrm nm
  ·cases z
 have du:=JJ (w:=w) (S:=S) (wd:=WD W) (d:=r.due) (v:="drop") (x:=some t.n) (y:=none) (p:=p) (by decide) (by decide) hs3 λ_ s'=>by
  let ρ:aU:=[.im w,.im S,.im (WD W),.im q,.im (.str "drop"),.im (oS (some t.n)),.im (oS none),s'];have e1:vx (cT (c2 (dEq false) aw eE)) (uR (cT (sX Dh gW))) ρ=some (!decide (("me" : Str)∈l),ρ):=(zQ (ρ1:=ρ) rfl).trans (xI (uL (sY (sV rfl (sV rfl (sV rfl rfl))) (Mc s.p ch ll))));show ∃ρ',tlB _=some (.rt (Rs.due (if ("me" : Str)∈l then _ else _)) ρ');by_cases h1:("me" : Str)∈l
  ·rw[af h1];rw[aM h1]at e1;exact⟨_,(um rfl).trans ((um e1).trans (tJ ((tV rfl).trans (tW (AV (sV rfl (sV (AV (sV rfl (sV (sY (sV rfl (sV rfl rfl)) (NF s (Bn s.g))) rfl)) (c6 rfl)) rfl)) (c6 rfl))))))⟩
  ·rw[ag h1];rw[aL h1]at e1;exact⟨_,(um rfl).trans (tJ ((tV e1).trans rfl))⟩
 have rl:ug [w,.str "drop"]=some (.lst [ruO "drop" [hsO "it"] [mvO "it" "here"] "Dropped." false,ruO "drop" [] [] "You lack that." true]):=(ht0 "drop").trans (by rw[NA (by decide) (by decide),UC]);have f1:vw [w,S,q,ruO "drop" [hsO "it"] [mvO "it" "here"] "Dropped." false]=some (.bl (decide (("me" : Str)∈l))):=(vH "drop" [(hsO "it", decide (("me" : Str)∈l))] _ _ false λu hu=>by rw[aR.mp hu];exact(Vi s.p ch ll mi).h).trans (by rw[cy,eZ,eW]);have f3:vw [w,S,q,ruO "drop" [] [] "You lack that." true]=some (.bl true):=vH "drop" [] _ _ true λu hu=>(by cases hu);have dn:Done w S q (mvO "it" "here") (sD P (va (ups a t.n (a "me")) m)):=by have:=Fc (c:=c) (m:=m) s nm (NC s.i.me) (.nil nrm) mi (YX s q);rw[ag nl]at this;exact this
 have st:v7 [w,S,q]=some (match fU [some t.n,none] p with|some z=>vh "unseen" z S|none=>r.st P a m):=BA (O:=[some t.n,none]) (aJ 2) ⟨_,_,rfl⟩ (DX hv (Mm s.g hx)) th hs3 rl λ_=>by
  show Ans _ _ _ _ (Rs.st P a m (if _ then _ else _));by_cases h1:("me" : Str)∈l
  ·rw[af h1];rw[aM h1]at f1;exact .hit f1 (Bx (o:=some (P.map λk=>.tup [kD k,va (ups a t.n (a "me")) m k])) dn _ _ _)
  ·rw[ag h1];rw[aL h1]at f1;exact .mis f1 (.hit f3 (Av _ _ _ _ _ _ _))
 refine Fe (d:=.non) (o:=.non) (v:="") du st ?_;show Rs.inv T a (if _ then _ else _);by_cases h1:("me" : Str)∈l
 ·rw[af h1];exact s.i.mv s.g nm (NC s.i.me) (λz=>ao z nme) (λz=>nl (.inl z.symm)) (.nil nrm) λz=>nl (.inr z)
 ·rw[ag h1];trivial
theorem Jm(s:Sit T M dk W P a)(hu:u∈T){k:aH}(ch:Ch T a t.n l)(cu:Ch T a u.n k):y8 [wO T M dk W c,sD P (va a m),.str t.n,.str u.n]=some (if ¬("me" : Str)∈l then .tup [.str "You lack that.", .non]else if ¬u.k=.box then .tup [.str "It holds nothing.", .non]else if m u.n=0 then .tup [.str "It is shut.", .non]else if t.n=u.n\/t.n∈k then .tup [.str "That cannot be.", .non]else .tup [.str "Done.", .tup [kD ("at", t.n),.str u.n]]):=by
 let ρ:aU:=[.im (wO T M dk W c),.im (sD P (va a m)),.im (.str t.n),.im (.str u.n)];have e1:uR (cT (sX Dh fC)) ρ=some (!decide (("me" : Str)∈l),ρ):=xI (uL (sY (sV rfl (sV rfl (sV rfl rfl))) (Mc s.p ch (DV s.g s.i ch))));have e2:cT (c2 (dEq true) (c1 (tH ue "kind") (tT tD "thing_of" ab c4)) cA) ρ=some (!decide (u.k=.box),ρ):=uL (tP (RO s hu rfl rfl) rfl (by cases u.k<;>kernel_rfl));have e4:cT (sX xM iR) ρ=some (decide (t.n=u.n\/t.n∈k),ρ):=uL (sY (sV rfl (sV rfl (sV rfl rfl))) (OO s.p t.n cu (DV s.g s.i cu)));by_cases h1:("me" : Str)∈l
 ·rw[ag (not_not_intro h1)];rw[aM h1]at e1;by_cases h2:u.k=.box
  ·rw[ag (not_not_intro h2)];rw[aM h2]at e2;have e3:cT (c2 (dEq false) (sX uQ iV) aX) ρ=some (decide (m u.n=0),ρ):=uL (tP (x:=.int (m u.n)) (y:=.int 0) (sY (sV rfl (sV rfl rfl)) (RN s ((IA s.g hu).mpr (by rw[h2];rfl)))) rfl (yb _ _ _));by_cases h3:m u.n=0
   ·rw[af h3];rw[aM h3]at e3;exact tp (ρ:=ρ) rfl ((um e1).trans ((um e2).trans (tJ ((tV e3).trans rfl))))
   ·rw[ag h3];rw[aL h3]at e3;by_cases h4:t.n=u.n\/t.n∈k
    ·rw[af h4];rw[aM h4]at e4;exact tp (ρ:=ρ) rfl ((um e1).trans ((um e2).trans ((um e3).trans (tJ ((tV e4).trans rfl)))))
    ·rw[ag h4];rw[aL h4]at e4;exact tp (ρ:=ρ) rfl ((um e1).trans ((um e2).trans ((um e3).trans ((um e4).trans rfl))))
  ·rw[af h2];rw[aL h2]at e2;exact tp (ρ:=ρ) rfl ((um e1).trans (tJ ((tV e2).trans rfl)))
 ·rw[af h1];rw[aL h1]at e1;exact tp (ρ:=ρ) rfl (tJ ((tV e1).trans rfl))
theorem RQ(s:Sit T M dk W P a)(ht0:Try T M dk W c){y:Str}(hx:x∈plN T)(hy:y∈plN T):Turn T M dk W c P a m (q3 "put" (some x) (some y)):=by
 obtain⟨t,ht,rfl,hk⟩:=K8 hx;obtain⟨u,hu,rfl,hku⟩:=K8 hy;obtain⟨p,hp⟩:=zE (c:=c) (m:=m) s;obtain⟨l,ch⟩:=s.i.ch t.n;obtain⟨k,cu⟩:=s.i.ch u.n;have ll:=DV s.g s.i ch;let w:=wO T M dk W c;let S:=sD P (va a m);let q:=q3 "put" (some t.n) (some u.n);have hv:(⟨"put", [],"two", some "in"⟩:Vb)∈v9:=by simp[v9]
 have th:uo [w,q]=some (.tup [oS (some t.n),oS (some u.n)]):=yK hv (by decide) (some t.n) (some u.n);have mi:uE [w,S,q,.str "it"]=some (.str t.n):=Uw th;have mo:uE [w,S,q,.str "other"]=some (.str u.n):=Ux th;have hs3:∀z∈nmP [some t.n,some u.n],uI [w,S,.str z]=some (.bl (p z)):=λz hz=>by
  rw[show nmP [some t.n,some u.n]=[t.n,u.n] from rfl,aT,aR]at hz;rcases hz with hz|hz
  ·rw[hz];exact hp _ hx
  ·rw[hz];exact hp _ hy
 let r:Rs:=if ¬("me" : Str)∈l then .rf "You lack that." else if ¬u.k=.box then .rf "It holds nothing." else if m u.n=0 then .rf "It is shut." else if t.n=u.n\/t.n∈k then .rf "That cannot be." else .mv "Done." t.n u.n
 have nm:=NB s.g ht hk;have nme:=RK s.g ht hk;have du:=JJ (w:=w) (S:=S) (wd:=WD W) (d:=r.due) (v:="put") (x:=some t.n) (y:=some u.n) (p:=p) (by decide) (by decide) hs3 λ_ s'=>by
  let ρ:aU:=[.im w,.im S,.im (WD W),.im q,.im (.str "put"),.im (oS (some t.n)),.im (oS (some u.n)),s'];have e1:vx (cT (c2 (dEq false) aw eE)) (uR (cT (sX Dh gW))) ρ=some (false,ρ):=By rfl;refine⟨ρ,(um rfl).trans ((um e1).trans ((um rfl).trans (tJ ((tV rfl).trans (tW (sY (sV rfl (sV rfl (sV rfl (sV rfl rfl)))) ((Jm s hu ch cu).trans ?_)))))))⟩;show some _=some (Rs.due (if _ then _ else _));by_cases h1:¬("me" : Str)∈l
  ·rw[af h1,af h1];rfl
  ·rw[ag h1,ag h1];by_cases h2:¬u.k=.box
   ·rw[af h2,af h2];rfl
   ·rw[ag h2,ag h2];by_cases h3:m u.n=0
    ·rw[af h3,af h3];rfl
    ·rw[ag h3,ag h3];by_cases h4:t.n=u.n\/t.n∈k
     ·rw[af h4,af h4];rfl
     ·rw[ag h4,ag h4];rfl
 have rl:ug [w,.str "put"]=some (.lst [ruO "put" [noO (hsO "it")] [] "You lack that." true,ruO "put" [noO (kiO "other" "box")] [] "It holds nothing." true,ruO "put" [mkO "other" 0] [] "It is shut." true,ruO "put" [] [mvO "it" "other"] "Done." false]):=(ht0 "put").trans (by rw[NA (by decide) (by decide),Y1]);have f1:vw [w,S,q,ruO "put" [noO (hsO "it")] [] "You lack that." true]=some (.bl (!decide (("me" : Str)∈l))):=(vH "put" [(noO (hsO "it"),!decide (("me" : Str)∈l))] _ _ true λu hu=>by rw[aR.mp hu];exact(Vi s.p ch ll mi).no).trans (by rw[cy,eZ,eW]);have f2:vw [w,S,q,ruO "put" [noO (kiO "other" "box")] [] "It holds nothing." true]=some (.bl (!decide (u.k=.box))):=(vH "put" [(noO (kiO "other" "box"),!decide (u.k=.box))] _ _ true λu hu'=>by rw[aR.mp hu'];exact(Mi s hu mo .box).no).trans (by rw[cy,eZ,eW]);have f4:vw [w,S,q,ruO "put" [] [mvO "it" "other"] "Done." false]=some (.bl true):=vH "put" [] _ _ false λu hu=>(by cases hu);have bh:u.k=.box->u.n∈hdN T:=λz=>az.mpr ⟨u,bo.mpr ⟨hu,by rw[z];rfl⟩,rfl⟩;have st:v7 [w,S,q]=some (match fU [some t.n,some u.n] p with|some z=>vh "unseen" z S|none=>r.st P a m):=BA (O:=[some t.n,some u.n]) (aJ 2) ⟨_,_,rfl⟩ (DX hv (Y3 s.g hx hy)) th hs3 rl λ_=>by
  show Ans _ _ _ _ (Rs.st P a m (if _ then _ else _));by_cases h1:("me" : Str)∈l
  ·rw[ag (not_not_intro h1)];rw[aM h1]at f1;refine .mis f1 ?_;by_cases h2:u.k=.box
   ·rw[ag (not_not_intro h2)];rw[aM h2]at f2;refine .mis f2 ?_;have f3:vw [w,S,q,ruO "put" [mkO "other" 0] [] "It is shut." true]=some (.bl (decide (m u.n=0))):=(vH "put" [(mkO "other" 0,decide (m u.n=0))] _ _ true λu' hu'=>by rw[aR.mp hu'];exact(Mj s.p ((IA s.g hu).mpr (by rw[h2];rfl)) mo 0).h).trans (by rw[cy,eZ,eW]);by_cases h3:m u.n=0
    ·rw[af h3];rw[aM h3]at f3;exact .hit f3 (Av _ _ _ _ _ _ _)
    ·rw[ag h3];rw[aL h3]at f3;refine .mis f3 ?_;have dn:=Fc (c:=c) (m:=m) s nm (bh h2) cu mi mo;by_cases h4:t.n=u.n\/t.n∈k
     ·rw[af h4]at dn ⊢;exact .hit f4 (Bx (o:=none) dn _ _ _)
     ·rw[ag h4]at dn ⊢;exact .hit f4 (Bx (o:=some (P.map λk=>.tup [kD k,va (ups a t.n u.n) m k])) dn _ _ _)
   ·rw[af h2];rw[aL h2]at f2;exact .hit f2 (Av _ _ _ _ _ _ _)
  ·rw[af h1];rw[aL h1]at f1;exact .hit f1 (Av _ _ _ _ _ _ _)
 refine Fe (d:=.non) (o:=.non) (v:="") du st ?_;show Rs.inv T a (if _ then _ else _);by_cases h1:¬("me" : Str)∈l
 ·rw[af h1];trivial
 ·rw[ag h1];by_cases h2:¬u.k=.box
  ·rw[af h2];trivial
  ·rw[ag h2];by_cases h3:m u.n=0
   ·rw[af h3];trivial
   ·rw[ag h3];by_cases h4:t.n=u.n\/t.n∈k
    ·rw[af h4];trivial
    ·rw[ag h4];exact s.i.mv s.g nm (bh (Decidable.not_not.mp h2)) (λz=>ao z nme) (λz=>h4 (.inl z.symm)) cu λz=>h4 (.inr z)
theorem BB(s:Sit T M dk W P a)(ht:t∈T){v:Str}{K:Kd}{n:Int}(hK:K.mk=true)(h0:Cv (c2 AA (Kv [("open", (tR qu)),("shut", (tR qq)),("light", (tR qv)),("douse", (tR qw))]) aq) (gT (wt (gN 4) gQ) 5) [.im (wO T M dk W c),.im (sD P (va a m)),.im (.str v),.im (.str t.n),.un,.un,.un,.un,.un]=some (.nx [.im (wO T M dk W c),.im (sD P (va a m)),.im (.str v),.im (.str t.n),.im (.str K.s),.im (.int n),.im (.str t1),.im (.str t2),.im (.str t3)])):
  wF [wO T M dk W c,sD P (va a m),.str v,.str t.n]=some (if ¬t.k=K then .tup [.str t1,.non]else if m t.n=n then .tup [.str t2,.non]else .tup [.str t3,.tup [kD ("mark", t.n),.int n]]):=by
 let ρ:aU:=[.im (wO T M dk W c),.im (sD P (va a m)),.im (.str v),.im (.str t.n),.im (.str K.s),.im (.int n),.im (.str t1),.im (.str t2),.im (.str t3)];have e2:cT (c2 (dEq true) (c1 (tH ue "kind") (tT tD "thing_of" ab c4)) aw) ρ=some (!decide (t.k=K),ρ):=uL (tP (x:=.str t.k.s) (y:=.str K.s) (RO s ht rfl rfl) rfl (by cases t.k<;>cases K<;>kernel_rfl));by_cases h2:t.k=K
 ·rw[ag (not_not_intro h2)];rw[aM h2]at e2;have e3:cT (c2 (dEq false) (sX uQ iV) bz) ρ=some (decide (m t.n=n),ρ):=uL (tP (x:=.int (m t.n)) (y:=.int n) (sY (sV rfl (sV rfl rfl)) (RN s ((IA s.g ht).mpr (by rw[h2];exact hK)))) rfl (yb _ _ _));by_cases h3:m t.n=n
  ·rw[af h3];rw[aM h3]at e3;exact tp (ρ:=ρ) rfl ((sW h0).trans ((um e2).trans (tJ ((tV e3).trans rfl))))
  ·rw[ag h3];rw[aL h3]at e3;exact tp (ρ:=ρ) rfl ((sW h0).trans ((um e2).trans ((um e3).trans rfl)))
 ·rw[af h2];rw[aL h2]at e2;exact tp (ρ:=ρ) rfl ((sW h0).trans (tJ ((tV e2).trans rfl)))
theorem Dt(s:Sit T M dk W P a)(ht0:Try T M dk W c){v:Str}{K:Kd}{n:Int}(hv:(⟨v,[],"one", none⟩:Vb)∈v9)(hK:K.mk=true)(hn:n<=1)(g1:¬v="go")(g2:¬v="wait")(g3:¬v="take")(g4:¬v="drop")(g5:¬v="put")(fr:A21.filter (λd=>decide (kv d=kS v))=trR v K.s n t1 t2 t3)(hx:x∈plN T)
  (hl:∀t∈T,wF [wO T M dk W c,sD P (va a m),.str v,.str t.n]=some (if ¬t.k=K then .tup [.str t1,.non]else if m t.n=n then .tup [.str t2,.non]else .tup [.str t3,.tup [kD ("mark", t.n),.int n]])):Turn T M dk W c P a m (q3 v (some x) none):=by
 obtain⟨t,ht,rfl,hk⟩:=K8 hx;obtain⟨p,hp⟩:=zE (c:=c) (m:=m) s;let w:=wO T M dk W c;let S:=sD P (va a m);let q:=q3 v (some t.n) none;have th:uo [w,q]=some (.tup [oS (some t.n),oS none]):=yK hv (show ¬("one" : Str)="way" by decide) (some t.n) none;have mi:uE [w,S,q,.str "it"]=some (.str t.n):=Uw th;have hs3:∀z∈nmP [some t.n,none],uI [w,S,.str z]=some (.bl (p z)):=λz hz=>by rw[show nmP [some t.n,none]=[t.n] from rfl,aR]at hz;rw[hz];exact hp _ hx
 let r:Rs:=if ¬t.k=K then .rf t1 else if m t.n=n then .rf t2 else .mk t3 t.n n
 have du:=JJ (w:=w) (S:=S) (wd:=WD W) (d:=r.due) (v:=v) (x:=some t.n) (y:=none) (p:=p) g1 g2 hs3 λ_ s'=>by
  let ρ:aU:=[.im w,.im S,.im (WD W),.im q,.im (.str v),.im (oS (some t.n)),.im (oS none),s'];have no:∀t:Str,¬v=t->cT (c2 (dEq false) aw (cC (.str t))) ρ=some (false,ρ):=λt ht=>uL (tP (x:=.str v) (y:=.str t) rfl rfl (by rw[vm];show some (D.bl (decide (v=t)))=_;rw[aL ht]));refine⟨ρ,(um (no _ g3)).trans ((um (By (no _ g4))).trans ((um (no _ g4)).trans ((um (no _ g5)).trans (tW (sY (sV rfl (sV rfl (sV rfl (sV rfl rfl)))) ((hl t ht).trans ?_))))))⟩;show some _=some (Rs.due (if _ then _ else _));by_cases h1:¬t.k=K
  ·rw[af h1,af h1];rfl
  ·rw[ag h1,ag h1];by_cases h2:m t.n=n
   ·rw[af h2,af h2];rfl
   ·rw[ag h2,ag h2];rfl
 have rl:ug [w,.str v]=some (.lst (trR v K.s n t1 t2 t3)):=(ht0 v).trans (by rw[NA g1 g2,fr]);have f1:vw [w,S,q,ruO v [noO (kiO "it" K.s)] [] t1 true]=some (.bl (!decide (t.k=K))):=(vH v [(noO (kiO "it" K.s),!decide (t.k=K))] _ _ true λu hu=>by rw[aR.mp hu];exact(Mi s ht mi K).no).trans (by rw[cy,eZ,eW]);have f3:vw [w,S,q,ruO v [] [puO "it" n] t3 false]=some (.bl true):=vH v [] _ _ false λu hu=>(by cases hu);have st:v7 [w,S,q]=some (match fU [some t.n,none] p with|some z=>vh "unseen" z S|none=>r.st P a m):=BA (O:=[some t.n,none]) (aJ 2) ⟨_,_,rfl⟩ (DX hv (Mm s.g hx)) th hs3 rl λ_=>by
  show Ans _ _ _ _ (Rs.st P a m (if _ then _ else _));by_cases h1:t.k=K
  ·rw[ag (not_not_intro h1)];rw[aM h1]at f1;refine .mis f1 ?_;have mk:=(IA s.g ht).mpr (by rw[h1];exact hK);have f2:vw [w,S,q,ruO v [mkO "it" n] [] t2 true]=some (.bl (decide (m t.n=n))):=(vH v [(mkO "it" n,decide (m t.n=n))] _ _ true λu' hu'=>by rw[aR.mp hu'];exact(Mj s.p mk mi n).h).trans (by rw[cy,eZ,eW]);by_cases h2:m t.n=n
   ·rw[af h2];rw[aM h2]at f2;exact .hit f2 (Av _ _ _ _ _ _ _)
   ·rw[ag h2];rw[aL h2]at f2;refine .mis f2 ?_;exact .hit f3 (Bx (o:=some (P.map λk=>.tup [kD k,va a (ups m t.n n) k])) (Y0 s ht (by rw[h1];exact hK) mi n hn) _ _ _)
  ·rw[af h1];rw[aL h1]at f1;exact .hit f1 (Av _ _ _ _ _ _ _)
 refine Fe (d:=.non) (o:=.non) (v:="") du st ?_;show Rs.inv T a (if _ then _ else _);by_cases h1:¬t.k=K
 ·rw[af h1];trivial
 ·rw[ag h1];by_cases h2:m t.n=n
  ·rw[af h2];trivial
  ·rw[ag h2];trivial
end
section
variable{T:List Th}{M:List Mk}{dk:aH}{W:List Wy}{c:L4.D}{P:List Ky}{a:Str->Str}{m:Str->Int}
theorem OQ(s:Sit T M dk W P a)(h:Try T M dk W c)(hx:x∈plN T):Turn T M dk W c P a m (q3 "open" (some x) none):=
 Dt (K:=.box) s h (by simp[v9]) rfl (by decide) (by decide) (by decide) (by decide) (by decide) (by decide) UD hx λt ht=>BB (K:=.box) s ht rfl rfl
theorem OR(s:Sit T M dk W P a)(h:Try T M dk W c)(hx:x∈plN T):Turn T M dk W c P a m (q3 "shut" (some x) none):=
 Dt (K:=.box) s h (by simp[v9]) rfl (by decide) (by decide) (by decide) (by decide) (by decide) (by decide) UE hx λt ht=>BB (K:=.box) s ht rfl rfl
theorem Mn(s:Sit T M dk W P a)(h:Try T M dk W c)(hx:x∈plN T):Turn T M dk W c P a m (q3 "light" (some x) none):=
 Dt (K:=.lamp) s h (by simp[v9]) rfl (by decide) (by decide) (by decide) (by decide) (by decide) (by decide) RD hx λt ht=>BB (K:=.lamp) s ht rfl rfl
theorem Mo(s:Sit T M dk W P a)(h:Try T M dk W c)(hx:x∈plN T):Turn T M dk W c P a m (q3 "douse" (some x) none):=
 Dt (K:=.lamp) s h (by simp[v9]) rfl (by decide) (by decide) (by decide) (by decide) (by decide) (by decide) RE hx λt ht=>BB (K:=.lamp) s ht rfl rfl
theorem OS(s:Sit T M dk W P a)(h:Try T M dk W c):Turn T M dk W c P a m (q3 "wait" none none):=by
 let w:=wO T M dk W c;let S:=sD P (va a m);let q:=q3 "wait" none none;have hv:(⟨"wait", [],"alone", none⟩:Vb)∈v9:=by simp[v9]
 have th:uo [w,q]=some (.tup ([none,none].map oS)):=yK hv (by decide) none none;have rl:ug [w,.str "wait"]=some (.lst [ruO "wait" [] [] "Time goes by." false]):=(h "wait").trans (by rw[UG]);have f1:vw [w,S,q,ruO "wait" [] [] "Time goes by." false]=some (.bl true):=vH "wait" [] _ _ false λu hu=>(by cases hu);refine⟨.mv "Time goes by." "me" (a "me"),?_,?_,?_⟩
 ·let ρ:aU:=[.im w,.im S,.im (WD W),.im q,.im (.str "wait"),.im .non,.im .non,.un];exact tp (ρ:=ρ) rfl ((sW (ρ':=ρ) (JH rfl rfl)).trans ((um rfl).trans (tJ ((tV rfl).trans (tW (AV (sV rfl (sV (AV (sV rfl (sV (sY (sV rfl (sV rfl rfl)) (NF s (Bn s.g))) rfl)) (c6 rfl)) rfl)) (c6 rfl)))))))
 ·refine(BA (O:=[none,none]) (p:=λ_=>true) (aJ 2) ⟨_,_,rfl⟩ (DX hv RJ) th (λx hx=>by cases hx) rl λ_=>.hit f1 (YZ _ _ _ _ _ _)).trans ?_;show some (vh "told" "Time goes by." S)=some (vh "told" "Time goes by." (sD P (va (ups a "me" (a "me")) m)));rw[K7]
 ·show Inv T (ups a "me" (a "me"));rw[K7];exact s.i
def okW(a:Str->Str)(m:Str->Int)(d:Str)(w:Wy):Bool:=decide (w.r=a "me")&&(decide (w.w=d)&&match w.m with|none=>true|some k=>!decide (m k=0))
def goR(a:Str->Str)(m:Str->Int)(d:Str)(L:List Wy):Rs:=match L.find? (okW a m d)with|some w=>.mv "You go." "me" w.g|none=>.rf "No way there."
def gB:FS:=(sIf (vx (cT (c2 (dEq false) bz aw)) (vx (cT (c2 (dEq false) bL aA)) (wV (cT (c2 w6 eC aF)) (cT (c2 (dEq true) (sX uQ jY) aX))))) (tE (tR qm)) tL)
theorem aaS(s:Sit T M dk W P a){w:Wy}(hw:DT T M w)(w0 s2:Sl)(d:Str):vx (cT (c2 (dEq false) bz aw)) (vx (cT (c2 (dEq false) bL aA)) (wV (cT (c2 w6 eC aF)) (cT (c2 (dEq true) (sX uQ jY) aX)))) [w0,.im (sD P (va a m)),s2,.im (.str d),.im (.str (a "me")),.im (.str w.r),.im (.str w.w),.im (.str w.g),.im (oS w.m)]=some (okW a m d w,[w0,.im (sD P (va a m)),s2,.im (.str d),.im (.str (a "me")),.im (.str w.r),.im (.str w.w),.im (.str w.g),.im (oS w.m)]):=by
 let ρ:aU:=[w0,.im (sD P (va a m)),s2,.im (.str d),.im (.str (a "me")),.im (.str w.r),.im (.str w.w),.im (.str w.g),.im (oS w.m)];have e1:cT (c2 (dEq false) bz aw) ρ=some (decide (w.r=a "me"),ρ):=uL (tP (x:=.str w.r) (y:=.str (a "me")) rfl rfl (vm _ _ _));have e2:cT (c2 (dEq false) bL aA) ρ=some (decide (w.w=d),ρ):=uL (tP (x:=.str w.w) (y:=.str d) rfl rfl (vm _ _ _));have e3:wV (cT (c2 w6 eC aF)) (cT (c2 (dEq true) (sX uQ jY) aX)) ρ=some ((match w.m with|none=>true|some k=>!decide (m k=0)),ρ):=by
  cases hm:w.m with
  |none=>
   have e8:ρ=[w0,.im (sD P (va a m)),s2,.im (.str d),.im (.str (a "me")),.im (.str w.r),.im (.str w.w),.im (.str w.g),.im .non]:=by show [w0,_,_,_,_,_,_,_,Sl.im (oS w.m)]=_;rw[hm];rfl
   rw[e8];exact RH rfl
  |some k=>
   have e8:ρ=[w0,.im (sD P (va a m)),s2,.im (.str d),.im (.str (a "me")),.im (.str w.r),.im (.str w.w),.im (.str w.g),.im (.str k)]:=by show [w0,_,_,_,_,_,_,_,Sl.im (oS w.m)]=_;rw[hm];rfl
   rw[e8];exact B5 rfl (uL (tP (x:=.int (m k)) (y:=.int 0) (sY (sV rfl (sV rfl rfl)) (RN s (hw.hm k hm))) rfl (yb _ _ _)))
 unfold okW;show vx _ _ ρ=some (_,ρ);cases q1:decide (w.r=a "me")with
 |false=>rw[q1]at e1;exact By e1
 |true=>
  rw[q1]at e1;refine(zQ e1).trans ?_;cases q2:decide (w.w=d)with
  |false=>rw[q2]at e2;exact By e2
  |true=>rw[q2]at e2;exact(zQ e2).trans e3
theorem IE(s:Sit T M dk W P a)(w0 s2:Sl)(d:Str):∀(L:List Wy) (s5 s6 s7 s8:Sl),(∀w∈L,DT T M w)->∃t5 t6 t7 t8,forL (gT gQ 4) gB (L.map wyO) [w0,.im (sD P (va a m)),s2,.im (.str d),.im (.str (a "me")),s5,s6,s7,s8]=RI ((L.find? (okW a m d)).map λw=>.tup [.str "You go.", .tup [kD ("at", "me"),.str w.g]]) [w0,.im (sD P (va a m)),s2,.im (.str d),.im (.str (a "me")),t5,t6,t7,t8]
 |[],s5,s6,s7,s8,_=>⟨s5,s6,s7,s8,rfl⟩
 |w::L,s5,s6,s7,s8,h=>by
  let ρ:aU:=[w0,.im (sD P (va a m)),s2,.im (.str d),.im (.str (a "me")),.im (.str w.r),.im (.str w.w),.im (.str w.g),.im (oS w.m)];have e1:=aaS (m:=m) s (h w aV) w0 s2 d;rw[aK,cU];unfold forL;rw[show gT gQ 4 (wyO w) [w0,.im (sD P (va a m)),s2,.im (.str d),.im (.str (a "me")),s5,s6,s7,s8]=some ρ from rfl];cases q:okW a m d w with
  |true=>rw[q]at e1;have e2:gB ρ=some (.rt (.tup [.str "You go.", .tup [kD ("at", "me"),.str w.g]]) ρ):=(tV e1).trans rfl;refine⟨.im (.str w.r),.im (.str w.w),.im (.str w.g),.im (oS w.m),?_⟩;simp only[e2];rfl
  |false=>rw[q]at e1;have e2:gB ρ=some (.nx ρ):=(ux e1).trans rfl;obtain⟨t5,t6,t7,t8,e⟩:=IE s w0 s2 d L (.im (.str w.r)) (.im (.str w.w)) (.im (.str w.g)) (.im (oS w.m)) λu hu=>h u (ba _ hu);refine⟨t5,t6,t7,t8,?_⟩;simp only[e2];exact e
theorem UJ(s:Sit T M dk W P a)(d:Str):Bm [wO T M dk W c,sD P (va a m),WD W,.str d]=some (goR a m d W).due:=by
 let w:=wO T M dk W c;let S:=sD P (va a m);obtain⟨t5,t6,t7,t8,e⟩:=IE (m:=m) s (.im w) (.im (WD W)) d W .un .un .un .un s.g.wo;let ρ:aU:=[.im w,.im S,.im (WD W),.im (.str d),.im (.str (a "me")),.un,.un,.un,.un];have e0:tZ 4 (sX uS mG) [.im w,.im S,.im (WD W),.im (.str d),.un,.un,.un,.un,.un]=some (.nx ρ):=(tU (sY (sV rfl (sV rfl rfl)) (NF s (Bn s.g)))).trans rfl;have e1:v8 (iL aq) (gT gQ 4) gB ρ=_:=(uM (ρ1:=ρ) (ds:=W.map wyO) rfl).trans e;unfold goR;cases q:W.find? (okW a m d)with
 |some y=>rw[q]at e1;exact tp rfl ((sW e0).trans (tJ e1))
 |none=>rw[q]at e1;exact tp rfl ((sW e0).trans ((sW e1).trans rfl))
theorem Vm(g:Good T M dk W)(h:r∈rmN T):Nm r:=by obtain⟨t,ht,rfl⟩:=az.mp h;exact aaR g (bo.mp ht).1
theorem aaT(g:Good T M dk W)(h:r∈mkN T M):Nm r:=g.nm _ (by
 rcases bC.mp h with h|h
 ·obtain⟨t,ht,rfl⟩:=az.mp h;exact cj _ (az.mpr ⟨t,(bo.mp ht).1,rfl⟩)
 ·exact bP _ h)
def tsW(a:Str->Str)(m:Str->Int)(d:Str)(w:Wy):List (L4.D×Bool):=[(atO "me" w.r,decide (a "me" = w.r)),(woO w.w,decide (d=w.w))]++match w.m with|none=>[]|some k=>[(noO (mkO k 0),!decide (m k=0))]
theorem Y5(a:Str->Str)(m:Str->Int)(d:Str)(w:Wy):(tsW a m d w).map bR=wtL w:=by unfold tsW wtL;cases w.m<;>rfl
theorem Y6(a:Str->Str)(m:Str->Int)(d:Str)(w:Wy):(tsW a m d w).all bw=okW a m d w:=by unfold tsW okW;have e1:decide (a "me" = w.r)=decide (w.r=a "me"):=decide_eq_decide.mpr ⟨jF,jF⟩;have e2:decide (d=w.w)=decide (w.w=d):=decide_eq_decide.mpr ⟨jF,jF⟩;rw[e1,e2];cases w.m<;>simp
theorem UK(s:Sit T M dk W P a){w:Wy}(hw:DT T M w)(d:Str):vw [wO T M dk W c,sD P (va a m),q3 "go" (some d) none,goO w]=some (.bl (okW a m d w)):=by
 have hv:(⟨"go", [],"way", none⟩:Vb)∈v9:=by simp[v9]
 have:=vH (w:=wO T M dk W c) (S:=sD P (va a m)) (q:=q3 "go" (some d) none) "go" (tsW a m d w) [mvO "me" w.g] "You go." false λt ht=>by
  unfold tsW at ht;rw[bC]at ht;rcases ht with ht|ht
  ·rw[aT,aR]at ht;rcases ht with rfl|rfl
   ·exact(h_at s.p (Bn s.g) (Ck _ _ _ ND) (Ck _ _ _ (Vm s.g hw.hr))).h
   ·exact(YY hv rfl _ d none w.w).h
  ·cases hm:w.m with
   |none=>rw[hm]at ht;cases ht
   |some k=>rw[hm]at ht;rw[aR.mp ht];exact(Mj s.p (hw.hm k hm) (Ck _ _ _ (aaT s.g (hw.hm k hm))) 0).no
 rw[Y5,Y6]at this;exact this
theorem RR(s:Sit T M dk W P a)(d:Str):∀L:List Wy,(∀w∈L,DT T M w)->Ans (wO T M dk W c) (sD P (va a m)) (q3 "go" (some d) none) (L.map goO++[ruO "go" [] [] "No way there." true]) ((goR a m d L).st P a m)
 |[],_=>.hit (vH "go" [] _ _ true λu hu=>(by cases hu)) (Av _ _ _ _ _ _ _)
 |w::L,h=>by
  have hw:=h w aV;have f:=UK (c:=c) (m:=m) s hw d;unfold goR;rw[aK,jm,cU];cases q:okW a m d w with
  |true=>
   rw[q]at f;have dn:=Fc (c:=c) (m:=m) (q:=q3 "go" (some d) none) s (Bn s.g) (NC hw.hg) (.nil (GU s.g hw.hg)) (Ck _ _ _ ND) (Ck _ _ _ (Vm s.g hw.hg));rw[ag (by
    rintro(z|z)
    ·exact GU s.g hw.hg (z▸Bn s.g)
    ·cases z)]at dn
   exact .hit f (Bx (o:=some (P.map λk=>.tup [kD k,va (ups a "me" w.g) m k])) dn _ _ _)
  |false=>rw[q]at f;exact .mis f (RR s d L λu hu=>h u (ba _ hu))
theorem RT(s:Sit T M dk W P a)(h:Try T M dk W c){d:Str}(hd:d∈wdN W):Turn T M dk W c P a m (q3 "go" (some d) none):=by
 let w:=wO T M dk W c;let S:=sD P (va a m);let q:=q3 "go" (some d) none;have hv:(⟨"go", [],"way", none⟩:Vb)∈v9:=by simp[v9]
 have th:uo [w,q]=some (.tup ([none,none].map oS)):=Mh hv rfl (some d) none;have rl:ug [w,.str "go"]=some (.lst (W.map goO++[ruO "go" [] [] "No way there." true])):=(h "go").trans (by rw[aaQ]);refine⟨goR a m d W,?_,?_,?_⟩
 ·let ρ:aU:=[.im w,.im S,.im (WD W),.im q,.im (.str "go"),.im (.str d),.im .non,.un];exact tp (ρ:=ρ) rfl ((sW (ρ':=ρ) (JH rfl rfl)).trans (tJ ((tV rfl).trans (tW (sY (sV rfl (sV rfl (sV rfl (sV rfl rfl)))) (UJ s d))))))
 ·exact BA (O:=[none,none]) (p:=λ_=>true) (aJ 2) ⟨_,_,rfl⟩ (DX hv (Y4 s.g hd)) th (λx hx=>by cases hx) rl λ_=>RR s d W s.g.wo
 ·unfold goR;cases q:W.find? (okW a m d)with
  |none=>trivial
  |some y=>have hy:=s.g.wo y (mQ q);exact s.i.mv s.g (Bn s.g) (NC hy.hg) (λ_=>hy.hg) (λz=>GU s.g hy.hg (by rw[z];exact Bn s.g)) (.nil (GU s.g hy.hg)) λz=>by cases z
theorem Y7(N D1:aH):obF N D1 "one" = N.map λx=>(.str x,.non):=by unfold obF;rw[ag (by decide),ag (by decide),af rfl]
theorem Y8(N D1:aH):obF N D1 "two" = N.flatMap λa=>N.map λb=>(.str a,.str b):=by unfold obF;rw[ag (by decide),ag (by decide),ag (by decide)]
theorem Y9(N D1:aH):obF N D1 "way" = D1.map λx=>(.str x,.non):=by unfold obF;rw[ag (by decide),af rfl]
theorem K9(N D1:aH):obF N D1 "alone" = [(.non,.non)]:=by unfold obF;rw[af rfl]
theorem RU(s:Sit T M dk W P a)(h:Try T M dk W c)(hq:q∈cmA (plN T) (wdN W) (v9.map nf)):Turn T M dk W c P a m q:=by
 obtain⟨v,hv,hq⟩:=gr.mp hq;unfold cmV at hq;have one:∀n:Str,(∀x∈plN T,Turn T M dk W c P a m (q3 n (some x) none))->q∈(obF (plN T) (wdN W) "one").map (p3 n)->Turn T M dk W c P a m q:=λn hn hq=>by rw[Y7,bc]at hq;obtain⟨x,hx,rfl⟩:=az.mp hq;exact hn x hx
 have e:v9.map nf=([("take", "one"),("drop", "one"),("open", "one"),("shut", "one"),("light", "one"),("douse", "one"),("put", "two"),("go", "way"),("wait", "alone")]:List (Str×Str)):=rfl;rw[e]at hv;simp only[aT,dZ,or_false]at hv;rcases hv with rfl|rfl|rfl|rfl|rfl|rfl|rfl|rfl|rfl
 ·exact one _ (λx hx=>UH s h hx) hq
 ·exact one _ (λx hx=>UI s h hx) hq
 ·exact one _ (λx hx=>OQ s h hx) hq
 ·exact one _ (λx hx=>OR s h hx) hq
 ·exact one _ (λx hx=>Mn s h hx) hq
 ·exact one _ (λx hx=>Mo s h hx) hq
 ·rw[Y8]at hq;obtain⟨z,hz,rfl⟩:=az.mp hq;obtain⟨x,hx,hz⟩:=gr.mp hz;obtain⟨y,hy,rfl⟩:=az.mp hz;exact RQ s h hx hy
 ·rw[Y9,bc]at hq;obtain⟨x,hx,rfl⟩:=az.mp hq;exact RT s h hx
 ·rw[K9]at hq;obtain⟨z,hz,rfl⟩:=az.mp hq;rw[aR.mp hz];exact OS s h
end
theorem eq_self{x:L3.Dq}(e0:Jc true d d=none)(e1:toD d=some x)(h1:Pr x x=true)(h2:dpt x<=20):dEq true d d=some (.bl false):=by unfold dEq;rw[e0];simp only;unfold P1;rw[e1];simp only;rw[h1,J2,aM h2];rfl
theorem NG(a:Str->Str)(m:Str->Int):∀P:List Ky,∃l,y9 (P.map λk=>.tup [kD k,va a m k])=some l/\uW l<=2
 |[]=>⟨[],rfl,by decide⟩
 |k::P=>by
  obtain⟨l,e,h⟩:=NG a m P;obtain⟨z,z1,z2⟩:∃z,toD (va a m k)=some z/\dpt z=0:=by
   unfold va;split
   ·exact⟨.str _,rfl,rfl⟩
   ·exact⟨.int _,rfl,rfl⟩
  have e1:toD (.tup [kD k,va a m k])=some (.tup [.tup [.str k.1,.str k.2],z]):=by
   unfold toD;have:y9 [kD k,va a m k]=some [.tup [.str k.1,.str k.2],z]:=by unfold y9;rw[show toD (kD k)=some (.tup [.str k.1,.str k.2]) from rfl];unfold y9;rw[z1];rfl
   rw[this]
  refine⟨_::l,by rw[aK];unfold y9;rw[e1,e],?_⟩;rw[uW,dpt,uW,uW,uW,z2];have:dpt (.tup [.str k.1,.str k.2])=1:=by rw[dpt,uW,uW,uW];rfl
  rw[this];omega
theorem OT(k tx:Str)(P:List Ky)(a:Str->Str)(m:Str->Int):dEq true (vh k tx (sD P (va a m))) (vh k tx (sD P (va a m)))=some (.bl false):=by
 obtain⟨l,e,h⟩:=NG a m P;have e1:toD (sD P (va a m))=some (.tup l):=by unfold sD toD;rw[e]
 refine eq_self (x:=.tup [.tup [.str k,.str tx],.tup l]) rfl ?_ rfl ?_
 ·unfold vh toD;have:y9 [.tup [.str k,.str tx],sD P (va a m)]=some [.tup [.str k,.str tx],.tup l]:=by unfold y9;rw[show toD (.tup [.str k,.str tx])=some (.tup [.str k,.str tx]) from rfl];unfold y9;rw[e1];rfl
  rw[this]
 ·have:dpt (.tup [.str k,.str tx])=1:=by rw[dpt,uW,uW,uW];rfl
  rw[dpt,uW,uW,uW,this,dpt];omega
def lB:FS:=(sZ (tZ 10 (c2 dIx bI (c2 wx (c2 vT (c2 dIx ab dj) (c2 ya (cC (.int 17)) dj)) (c1 vN bI))))
 (sZ (Cv (sX wM qx) (gT qf 2))
 (sZ (tZ 13 (tR qE))
 (sZ (sIf (cT (c2 dEqX (cV 12) fZ)) (tZ 13 (tR mw)) (sIf (cT (c2 uV (cV 12) aF)) (tZ 13 (tR l8)) tL))
 (sZ (sIf (wV (cT (c2 (dEq true) (sX v7 fY) eF)) (cT (c2 (dEq true) (sX v7 fY) eF))) (tE cq) tL)
 (tZ 8 (c2 dIx eF bg)))))))
section
variable{T:List Th}{M:List Mk}{dk:aH}{W:List Wy}{c:L4.D}{P:List Ky}{a:Str->Str}{m:Str->Int}
def lS(S E A B D1:Sl)(W:List Wy)(w:L4.D)(cm:List L4.D)(st:L4.D)(k s10 s11 s12 s13:Sl):aU:=[S,E,A,B,D1,.im (WD W),.im w,.im (.lst cm),.im st,k,s10,s11,s12,s13]
theorem aaU(s:Sit T M dk W P a)(h:Try T M dk W c){ns:List Int}{E A B D1:Sl}{cm:List L4.D}(hc:cm=cmA (plN T) (wdN W) (v9.map nf))(h0:0<cm.length){k:Nat}(hk:k<ns.length)(s10 s11 s12 s13:Sl):
  ∃a' m' t10 t11 t12 t13,Sit T M dk W P a'/\lB (lS (.im (.fzl (ns.map D.int))) E A B D1 W (wO T M dk W c) cm (sD P (va a m)) (.im (.int k)) s10 s11 s12 s13)=some (.nx (lS (.im (.fzl (ns.map D.int))) E A B D1 W (wO T M dk W c) cm (sD P (va a' m')) (.im (.int k)) t10 t11 t12 t13)):=by
 let w:=wO T M dk W c;let S0:Sl:=.im (.fzl (ns.map D.int));let S:=sD P (va a m);let ρ:Sl->Sl->Sl->Sl->aU:=λs10 s11 s12 s13=>lS S0 E A B D1 W w cm S (.im (.int k)) s10 s11 s12 s13;let i:Int:=(ns[k]+17 * (k:Int)) % (cm.length:Int);have i0:0<=i:=ir _ (by omega);have i1:i<cm.length:=ib _ (by omega);obtain⟨j,ej⟩:∃j:Nat,i=(j:Nat):=⟨i.toNat,(nH i0).symm⟩;have hj:j<cm.length:=by omega
 let q:=cm[j];have hq:q∈cmA (plN T) (wdN W) (v9.map nf):=by rw[<-hc];exact eO hj
 obtain⟨r,r1,r2,r3⟩:=RU (m:=m) s h hq;have e10:tZ 10 (c2 dIx bI (c2 wx (c2 vT (c2 dIx ab dj) (c2 ya (cC (.int 17)) dj)) (c1 vN bI))) (ρ s10 s11 s12 s13)=some (.nx (ρ (.im q) s11 s12 s13)):=by
  refine(tU (tP (x:=.lst cm) (y:=.int i) rfl (tP (x:=.int (ns[k]+17 * (k:Int))) (y:=.int cm.length) (tP (x:=.int ns[k]) (y:=.int (17 * (k:Int))) (tP (x:=.fzl (ns.map D.int)) (y:=.int k) rfl rfl ?_) rfl rfl) rfl ?_) ?_)).trans rfl
  ·exact zU (by rw[bB,aZ hk];rfl)
  ·show (if decide (0<(cm.length:Int))=true then some (D.int ((ns[k]+17 * (k:Int)) % (cm.length:Int)))else none)=_;rw[af (aM (by omega))]
  ·rw[ej];exact zU (aZ hj)
 have same:∀st:L4.D,v7 [w,S,q]=some st->dEq true st st=some (.bl false)->∀s11 s12,wV (cT (c2 (dEq true) (sX v7 fY) eF)) (cT (c2 (dEq true) (sX v7 fY) eF)) (ρ (.im q) s11 s12 (.im st))=some (false,ρ (.im q) s11 s12 (.im st)):=λst h1 h2 s11 s12=>by have e:cT (c2 (dEq true) (sX v7 fY) eF) (ρ (.im q) s11 s12 (.im st))=some (false,ρ (.im q) s11 s12 (.im st)):=uL (tP (x:=st) (y:=st) (sY (sV rfl (sV rfl (sV rfl rfl))) h1) rfl h2);exact B5 e e
 have fin:∀(kk tx:Str) (dd:L4.D) (a':Str->Str) (m':Str->Int),wM [w,S,WD W,q]=some (.tup [.str tx,dd])->(sIf (cT (c2 dEqX (cV 12) fZ)) (tZ 13 (tR mw)) (sIf (cT (c2 uV (cV 12) aF)) (tZ 13 (tR l8)) tL)) (ρ (.im q) (.im (.str tx)) (.im dd) (.im (vh "refused" tx S)))=some (.nx (ρ (.im q) (.im (.str tx)) (.im dd) (.im (vh kk tx (sD P (va a' m'))))))->v7 [w,S,q]=some (vh kk tx (sD P (va a' m')))->
   lB (ρ s10 s11 s12 s13)=some (.nx (lS S0 E A B D1 W w cm (sD P (va a' m')) (.im (.int k)) (.im q) (.im (.str tx)) (.im dd) (.im (vh kk tx (sD P (va a' m')))))):=λkk tx dd a' m' h1 h2 h3=>
  (sW e10).trans ((sW (ρ':=ρ (.im q) (.im (.str tx)) (.im dd) s13) (JH (sY (sV rfl (sV rfl (sV rfl (sV rfl rfl)))) h1) rfl)).trans ((sW (ρ':=ρ (.im q) (.im (.str tx)) (.im dd) (.im (vh "refused" tx S))) rfl).trans ((sW h2).trans ((um (same _ h3 (OT _ _ _ _ _) _ _)).trans rfl))))
 cases r with
 |un x=>exact⟨a,m,_,_,_,_,s,fin "unseen" x (.str "unseen") a m r1 ((tV rfl).trans rfl) r2⟩
 |rf tx=>exact⟨a,m,_,_,_,_,s,fin "refused" tx .non a m r1 ((ux rfl).trans ((ux rfl).trans rfl)) r2⟩
 |mv tx x b=>refine⟨ups a x b,m,_,_,_,_,⟨s.g,s.p,r3⟩,fin "told" tx (.tup [kD ("at", x),.str b]) (ups a x b) m r1 ((ux rfl).trans ((tV rfl).trans ((tU (AV (sV rfl (sV (sY (sV rfl (sV rfl rfl)) ((Iw P s.len (va a m) ("at", x) (.str b)).trans (by rw[Vd]))) rfl)) (c6 rfl))).trans rfl))) r2⟩
 |mk tx x v=>refine⟨a,ups m x v,_,_,_,_,s,fin "told" tx (.tup [kD ("mark", x),.int v]) a (ups m x v) r1 ((ux rfl).trans ((tV rfl).trans ((tU (AV (sV rfl (sV (sY (sV rfl (sV rfl rfl)) ((Iw P s.len (va a m) ("mark", x) (.int v)).trans (by rw[Ve _ _ _ _ _ (Rp s.p)]))) rfl)) (c6 rfl))).trans rfl))) r2⟩
theorem NH(h:Try T M dk W c){ns:List Int}{E A B D1:Sl}{cm:List L4.D}(hc:cm=cmA (plN T) (wdN W) (v9.map nf))(h0:0<cm.length):∀(l:List Nat) (a:Str->Str) (m:Str->Int) (s9 s10 s11 s12 s13:Sl),Sit T M dk W P a->(∀k∈l,k<ns.length)->
  ∃ρ',forL (gN 9) lB (l.map λk:Nat=>D.int (k:Nat)) (lS (.im (.fzl (ns.map D.int))) E A B D1 W (wO T M dk W c) cm (sD P (va a m)) s9 s10 s11 s12 s13)=some (.nx ρ')
 |[],a,m,s9,s10,s11,s12,s13,_,_=>⟨_,rfl⟩
 |k::l,a,m,s9,s10,s11,s12,s13,s,hl=>by obtain⟨a',m',t10,t11,t12,t13,s',e⟩:=aaU (m:=m) s h (ns:=ns) (E:=E) (A:=A) (B:=B) (D1:=D1) hc h0 (hl k aV) s10 s11 s12 s13;obtain⟨ρ',e2⟩:=NH h (ns:=ns) (E:=E) (A:=A) (B:=B) (D1:=D1) hc h0 l a' m' (.im (.int k)) t10 t11 t12 t13 s' λu hu=>hl u (ba _ hu);refine⟨ρ',?_⟩;rw[aK];unfold forL;rw[show gN 9 (.int k) (lS (.im (.fzl (ns.map D.int))) E A B D1 W (wO T M dk W c) cm (sD P (va a m)) s9 s10 s11 s12 s13)=some (lS (.im (.fzl (ns.map D.int))) E A B D1 W (wO T M dk W c) cm (sD P (va a m)) (.im (.int k)) s10 s11 s12 s13) from rfl];simp only[e];exact e2
end
theorem RV(ns:List Int):∃x0,yH [.fzl (ns.map D.int),.int 0]=some (.int x0):=by
 cases ns with
 |nil=>exact⟨0,rfl⟩
 |cons x l=>
  refine⟨x,?_⟩;let S:L4.D:=.fzl ((x::l).map D.int);refine tp (ρ:=[.im S,.im (.int 0)]) rfl ?_;have et:cT (c2 Tp ak (c1 vN ab)) [.im S,.im (.int 0)]=some (true,[.im S,.im (.int 0)]):=by refine uL (tP (x:=.int 0) (y:=.int (((x::l).map D.int).length:Nat)) rfl rfl ?_);show some (D.bl (decide ((0:Int)<(((x::l).map D.int).length:Nat))))=_;rw[aM (by rw[aj,aO];omega)]
  exact tJ ((tV et).trans (tW (tP (x:=S) (y:=.int 0) rfl rfl (zU (j:=0) rfl))))
theorem Za{f':FE}{i j:Int}(h1:f ρ=some (.int i,ρ1))(h2:f' ρ1=some (.int j,ρ2))(hb:(-1000000<=i/\i<=1000000)/\-1000000<=j/\j<=1000000):iR2 f f' ρ=some (EM i (j - i).toNat,ρ2):=by unfold iR2;simp only[h1,h2];rw[af hb]
theorem Zb(ns:List Int)(hl:ns.length<=63):U7 [.fzl (ns.map D.int)]=some (.bl true):=by
 obtain⟨x0,ex⟩:=RV ns;obtain⟨T0,j,e1,d0,hj,x1,h1⟩:=OJ (es:=[.int x0]) (.inl ⟨x0,rfl⟩);let T:=T0.drop j++T0.take j;have b:Base T:=Ul d0 j;obtain⟨M,e2,x2,h2,mo,mm,eM⟩:=Q5 h1;have lM:M.length<=4:=by have:=bH de eM;rw[aj,cn]at this;rw[this];exact oA _ _
 let S:Sl:=.im (.fzl (ns.map D.int));let A:Sl:=.im (TD T);let B:Sl:=.im (MD M);let U:Sl:=.un;obtain⟨dk,e3,sl,h3,x3⟩:=Iv S [A,B,U,U,U,U,U,U,U,U,U,U] (rmN T) e2 h2;let DK:Sl:=.im (.lst (dk.map D.str));have rne:rmN T≠[]:=λz=>by have:=b.r1;unfold rmN at z;rw[nG]at z;rw[z]at this;exact ao this (by decide)
 obtain⟨W,e4,x4,h4,lW,okW,ndW⟩:=Uk b.len lM rne h3;have rmnd:(rmN T).Nodup:=(km.map Th.n).nodup (bT.mp (b.nd 0)).1;have g:Good T M dk W:={
  len:=b.len,r1:=b.r1,r5:=b.r5,y1:=b.y1,p7:=b.p7,m4:=lM,mo:=mo
  nm:=λx hx=>by
   rcases bC.mp hx with hx|hx
   ·exact b.nm x hx
   ·rw[eM]at hx;exact bP _ (kg hx)
  nd:=by rw[eM];exact b.nd mm
  st:=b.st,rk:=b.rk,wd:=b.wd
  d0:=bN sl.length_le (by unfold rmN;rw[aj];exact b.r5)
  d1:=rmnd.sublist sl
  d2:=λx hx=>sl.subset hx
  w8:=lW,wo:=okW,wn:=ndW }
 have hT:T.length<=13:=b.len;obtain⟨ks,dss,xw,hg⟩:=Rh g;let c:L4.D:=.dic ks (dss.map .lst);let w:=wO T M dk W c;have ht:Try T M dk W c:=λv=>Y2 hg v;let cm:List L4.D:=cmA (plN T) (wdN W) (v9.map nf);have xc:Ar [w]=some cm:=K5 g;have c0:0<cm.length:=by
  refine i9 (a:=q3 "wait" none none) (gr.mpr ⟨("wait", "alone"),?_,?_⟩)
  ·exact az.mpr ⟨⟨"wait", [],"alone", none⟩,by simp[v9],rfl⟩
  ·unfold cmV;rw[K9];exact az.mpr ⟨(.non,.non),aR.mpr rfl,rfl⟩
 obtain⟨P,m,pP,xs⟩:=Rt (c:=c) g;have st:Sit T M dk W P (at0 T):=⟨g,pP,inv0 g⟩;let WS:Sl:=.im (WD W);let X:Sl:=.im w;let Y:Sl:=.im (.lst cm);let F:Sl:=.im (sD P (va (at0 T) m));let ρ:aU:=lS S (.ls e4) A B DK W w cm (sD P (va (at0 T) m)) U U U U U;let n:Nat:=(if (ns.length:Int)<31 then (ns.length:Int)else 31).toNat;have hn:n<=31/\n<=ns.length:=by show (if (ns.length:Int)<31 then (ns.length:Int)else 31).toNat<=31/\(if (ns.length:Int)<31 then (ns.length:Int)else 31).toNat<=ns.length;split<;>omega
 have en:c2 dMin2 (cC (.int 31)) (c1 vN ab) ρ=some (.int n,ρ):=by have e:c2 dMin2 (cC (.int 31)) (c1 vN ab) ρ=some (.int (if ((ns.map D.int).length:Int)<31 then ((ns.map D.int).length:Int)else 31),ρ):=rfl;rw[e,aj,show ((n:Nat):Int)=(if (ns.length:Int)<31 then (ns.length:Int)else 31) from nH (by split<;>omega)]
 obtain⟨ρ',ew⟩:=NH (P:=P) ht (ns:=ns) (E:=.ls e4) (A:=A) (B:=B) (D1:=DK) (cm:=cm) rfl c0 ((bf ((n:Int) - 1).toNat).map (1 + ·)) (at0 T) m U U U U U st λk hk=>by obtain⟨i,hi,rfl⟩:=az.mp hk;rw[bV]at hi;omega
 refine tp (ρ:=ρ') rfl ?_;unfold Nf;refine(sW (ρ':=[S,.ls [.int x0],U,U,U,U,U,U,U,U,U,U,U,U]) ((Je (WO (sV (sY (ds:=[.fzl (ns.map D.int),.int 0]) rfl ex) rfl) (c6 rfl))).trans rfl)).trans ?_;refine(sW (ρ':=[S,.ls e1,A,U,U,U,U,U,U,U,U,U,U,U]) ((tU (FL (es0:=[.int x0]) (es:=[.int x0]) (ds:=[]) (ρ1:=[S,.ls [.int x0],U,U,U,U,U,U,U,U,U,U,U,U]) rfl rfl rfl x1)).trans rfl)).trans ?_;refine(sW (ρ':=[S,.ls e2,A,B,U,U,U,U,U,U,U,U,U,U]) ((tU (FL (es0:=e1) (es:=e1) (ds:=[]) (ρ1:=[S,.ls e1,A,U,U,U,U,U,U,U,U,U,U,U]) rfl rfl rfl x2)).trans rfl)).trans ?_;refine(sW (ρ':=[S,.ls e3,A,B,DK,U,U,U,U,U,U,U,U,U]) ((tU (uO ((Jf (ds:=(rmN T).map D.str) (ρ1:=[S,.ls e2,A,B,U,U,U,U,U,U,U,U,U,U]) ?_ (by rw[aj];unfold rmN;rw[aj];have:=b.r5;omega)).trans x3))).trans rfl)).trans ?_
 ·unfold iL;rw[uO (sY (g:=vb) (ds:=[TD T,.lst ((["room"]:aH).map D.str)]) (ρ1:=[S,.ls e2,A,B,U,U,U,U,U,U,U,U,U,U]) rfl (GN T (by omega) ["room"] (λk=>decide (k=.room)) Q3))];rfl
 refine(sW (ρ':=[S,.ls e4,A,B,DK,WS,U,U,U,U,U,U,U,U]) ((tU (FL (es0:=e3) (es:=e3) (ds:=[TD T,MD M]) (ρ1:=[S,.ls e3,A,B,DK,U,U,U,U,U,U,U,U,U]) rfl rfl rfl x4)).trans rfl)).trans ?_;refine(sW (ρ':=[S,.ls e4,A,B,DK,WS,X,U,U,U,U,U,U,U]) ((tU (i:=6) (E3 (c:=14) (g:=λds=>xl (ds++[])) (ds:=[TD T,MD M,.lst (dk.map D.str),WD W,VD [],.lst []]) (ρ1:=[S,.ls e4,A,B,DK,WS,U,U,U,U,U,U,U,U]) rfl xw)).trans rfl)).trans ?_;refine(sW (ρ':=[S,.ls e4,A,B,DK,WS,X,Y,U,U,U,U,U,U]) ((tU (uO (sY (ds:=[w]) (ρ1:=[S,.ls e4,A,B,DK,WS,X,U,U,U,U,U,U,U]) rfl xc))).trans rfl)).trans ?_;refine(sW (ρ':=ρ) ((tU (sY (ds:=[w]) (ρ1:=[S,.ls e4,A,B,DK,WS,X,Y,U,U,U,U,U,U]) rfl xs)).trans rfl)).trans ?_;refine(sW ((uM (ds:=((bf ((n:Int) - 1).toNat).map (1 + ·)).map λk:Nat=>D.int (k:Nat)) (ρ1:=ρ) ?_).trans ew)).trans rfl
 refine(Za (i:=1) rfl en (by omega)).trans ?_;unfold EM;rw[bc];congr 2
end K34x
namespace K34x
open PySem L2 L3 L4
open PySem.W (nsIn)
structure Fx(K:au)(C0 C1 C2 C3 C4 C5 C6 C7 C8 C9 C10 C11 C12 C13 C14:Addr):Prop where
 a0:nsIn K aW "Thing" = some (some (.ref C0))
 a1:nsIn K aW "Mark" = some (some (.ref C1))
 a2:nsIn K aW "Verb" = some (some (.ref C2))
 a3:nsIn K aW "At" = some (some (.ref C3))
 a4:nsIn K aW "Has" = some (some (.ref C4))
 a5:nsIn K aW "Seen" = some (some (.ref C5))
 a6:nsIn K aW "Marked" = some (some (.ref C6))
 a7:nsIn K aW "Kind" = some (some (.ref C7))
 a8:nsIn K aW "Word" = some (some (.ref C8))
 a9:nsIn K aW "Not" = some (some (.ref C9))
 a10:nsIn K aW "Both" = some (some (.ref C10))
 a11:nsIn K aW "Move" = some (some (.ref C11))
 a12:nsIn K aW "Put" = some (some (.ref C12))
 a13:nsIn K aW "Rule" = some (some (.ref C13))
 a14:nsIn K aW "World" = some (some (.ref C14))
 k0:CF K C0 ["kind", "name", "start", "words"]
 k1:CF K C1 ["most", "name", "start"]
 k2:CF K C2 ["form", "joining", "name", "others"]
 k3:CF K C3 ["place", "term"]
 k4:CF K C4 ["term"]
 k5:CF K C5 ["term"]
 k6:CF K C6 ["term", "value"]
 k7:CF K C7 ["kind", "term"]
 k8:CF K C8 ["word"]
 k9:CF K C9 ["inner"]
 k10:CF K C10 []
 k11:CF K C11 ["place", "term"]
 k12:CF K C12 ["term", "value"]
 k13:CF K C13 ["deeds", "refuses", "tests", "text", "verb"]
 k14:CF K C14 ["copied_rules", "kept_dark", "kept_marks", "kept_things", "kept_verbs", "kept_ways", "mosts_by_name", "rules_by_verb", "shared_rules", "shared_verbs", "things_by_name", "verbs_by_word", "your_name", "kept_rules"]
 i_Mark:E2 K [C0,C1,C2,C3,C4,C5,C6,C7,C8,C9,C10,C11,C12,C13,C14] C1 1=true
 i_Thing:E2 K [C0,C1,C2,C3,C4,C5,C6,C7,C8,C9,C10,C11,C12,C13,C14] C0 0=true
 nd:decide ([C0,C1,C2,C3,C4,C5,C6,C7,C8,C9,C10,C11,C12,C13,C14]:List Addr).Nodup=true
 e:((["all", "any", "bool", "int", "isinstance", "len", "list", "min", "range", "set", "sorted", "str", "tuple"]:aH).all λx=>match nsIn K aW x with|some none=>true|_=>false)=true
 g0:GX K "CANNOT_BE" "That cannot be."
 g1:GS K "KINDS" ["room", "plain", "fixed", "box", "lamp", "you"]
 g2:GS K "KINDS_APART" ["room", "you"]
 g3:GS K "KINDS_THAT_HOLD" ["room", "box", "you"]
 g4:GS K "KINDS_WITH_MARK" ["box", "lamp"]
 g5:GC K "MOST_BESIDE" 7
 g6:GC K "MOST_IN_NAME" 8
 g7:GC K "MOST_IN_WORD" 12
 g8:GC K "MOST_MARKS" 4
 g9:GC K "MOST_OF_MARK" 3
 g10:GC K "MOST_ROOMS" 5
 g11:GC K "MOST_RULES" 20
 g12:GC K "MOST_VERBS" 6
 g13:GC K "MOST_WAYS" 10
 g14:GC K "MOST_WORDS" 4
 g15:GX K "NOTHING_COMES" "Nothing comes of it."
 g16:GS K "NO_NAMES" ["it", "other", "here", "the", "a", "undo", "restart"]
 g17:GS K "NO_WORDS" ["the", "a"]
 g18:GS K "NO_WORDS_OF_ROWS" ["the", "a", "undo", "restart"]
 q19:GD K "is_small_letters" (top 6)
 q20:GD K "is_name" (top 7)
 q21:GD K "is_word" (top 8)
 q22:GD K "is_one_of" (top 10)
 q23:GD K "is_whole" (top 11)
 q24:GD K "is_list_up_to" (top 12)
 q25:GD K "own_list" (top 118)
 q26:GJ K C0 "Thing.__init__" (inClass (top 69) 0) [V.non]
 q27:GM K C1 "__init__" "Mark.__init__" (inClass (top 70) 0)
 q28:GJ K C2 "Verb.__init__" (inClass (top 71) 0) [V.non,(V.str "one"),V.non]
 q29:GM K C3 "__init__" "At.__init__" (inClass (top 32) 0)
 q30:GM K C4 "__init__" "Has.__init__" (inClass (top 33) 0)
 q31:GM K C6 "__init__" "Marked.__init__" (inClass (top 35) 0)
 q32:GM K C7 "__init__" "Kind.__init__" (inClass (top 36) 0)
 q33:GM K C8 "__init__" "Word.__init__" (inClass (top 37) 0)
 q34:GM K C9 "__init__" "Not.__init__" (inClass (top 39) 0)
 q35:GM K C11 "__init__" "Move.__init__" (inClass (top 107) 0)
 q36:GM K C12 "__init__" "Put.__init__" (inClass (top 108) 0)
 q37:GJ K C13 "Rule.__init__" (inClass (top 117) 0) [(V.bl false)]
 q38:GM K C0 "can_hold" "Thing.can_hold" (inClass (top 69) 1)
 q39:GM K C0 "has_mark" "Thing.has_mark" (inClass (top 69) 2)
 q40:GM K C0 "is_plainly" "Thing.is_plainly" (inClass (top 69) 3)
 q41:GD K "refuse_unless" (top 81)
 q42:GD K "count_of" (top 84)
 q43:GD K "plain_ones" (top 85)
 q44:GD K "is_mark" (top 87)
 q45:GD K "check_things" (top 83)
 q46:GD K "check_marks" (top 86)
 q47:GD K "are_unlike" (top 89)
 q48:GD K "check_names" (top 88)
 q49:GD K "mark_names" (top 90)
 q50:GD K "is_start" (top 92)
 q51:GD K "comes_to_room" (top 93)
 q52:GD K "check_starts" (top 91)
 q53:GD K "are_words" (top 95)
 q54:GD K "has_all" (top 97)
 q55:GD K "is_told_apart" (top 96)
 q56:GD K "check_words_of_things" (top 94)
 q57:GD K "check_dark" (top 98)
 q58:GD K "is_way" (top 100)
 q59:GD K "check_ways" (top 99)
 q60:GD K "check_verbs" (top 101)
 q61:GD K "are_apart" (top 104)
 q62:GD K "check_vocabulary" (top 103)
 q63:GD K "check_parts" (top 82)
 q64:GD K "does" (top 141)
 q65:GD K "refuses" (top 142)
 q66:GD K "hand_rules" (top 143)
 q67:GD K "put_rules" (top 144)
 q68:GD K "lid_rules" (top 145)
 q69:GD K "flame_rules" (top 146)
 q70:GD K "way_tests" (top 148)
 q71:GD K "go_rules" (top 147)
 q72:GD K "wait_rules" (top 149)
 q73:GD K "common_rules" (top 140)
 q74:GD K "common_verbs" (top 139)
 q75:GD K "by_name" (top 153)
 q76:GD K "mosts_by_name" (top 154)
 q77:GD K "verbs_by_word" (top 155)
 q78:GD K "by_verb" (top 156)
 q79:GM K C14 "of_kind" "World.of_kind" (inClass (top 152) 3)
 q80:GM K C14 "all_verbs" "World.all_verbs" (inClass (top 152) 13)
 q81:GM K C14 "__init__" "World.__init__" (inClass (top 152) 0)
 q82:GM K C14 "you" "World.you" (inClass (top 152) 4)
 q83:GM K C14 "thing_of" "World.thing_of" (inClass (top 152) 2)
 q84:GM K C14 "most_of" "World.most_of" (inClass (top 152) 6)
 q85:GM K C14 "verb_of" "World.verb_of" (inClass (top 152) 14)
 q86:GM K C14 "is_dark" "World.is_dark" (inClass (top 152) 5)
 q87:GM K C14 "own_marks" "World.own_marks" (inClass (top 152) 7)
 q88:GM K C14 "names" "World.names" (inClass (top 152) 1)
 q89:GM K C14 "way_words" "World.way_words" (inClass (top 152) 12)
 q90:GM K C14 "rules_to_try" "World.rules_to_try" (inClass (top 152) 16)
 q91:GM K C14 "parts" "World.parts" (inClass (top 152) 18)
 q92:GD K "own_starts" (top 15)
 q93:GD K "first_value" (top 16)
 q94:GD K "first_stand" (top 14)
 q95:GD K "value_of" (top 17)
 q96:GD K "at_of" (top 18)
 q97:GD K "mark_of" (top 19)
 q98:GD K "with_part" (top 20)
 q99:GD K "holders_of" (top 22)
 q100:GD K "room_of" (top 23)
 q101:GD K "has" (top 26)
 q102:GD K "is_shut" (top 25)
 q103:GD K "in_open" (top 24)
 q104:GD K "burns_in" (top 28)
 q105:GD K "is_lit" (top 27)
 q106:GD K "is_seen" (top 29)
 q107:GD K "is_of_way" (top 41)
 q108:GD K "things_of" (top 42)
 q109:GD K "meant" (top 43)
 q110:GD K "at_parts" (top 44)
 q111:GD K "mark_parts" (top 45)
 q112:GD K "can_go" (top 109)
 q113:GD K "can_show" (top 110)
 q114:GM K C3 "holds" "At.holds" (inClass (top 32) 1)
 q115:GM K C4 "holds" "Has.holds" (inClass (top 33) 1)
 q116:GM K C6 "holds" "Marked.holds" (inClass (top 35) 1)
 q117:GM K C7 "holds" "Kind.holds" (inClass (top 36) 1)
 q118:GM K C8 "holds" "Word.holds" (inClass (top 37) 1)
 q119:GM K C9 "holds" "Not.holds" (inClass (top 39) 1)
 q120:GM K C11 "done" "Move.done" (inClass (top 107) 1)
 q121:GM K C12 "done" "Put.done" (inClass (top 108) 1)
 q122:GD K "is_object" (top 58)
 q123:GD K "fits_form" (top 57)
 q124:GD K "is_command" (top 56)
 q125:GD K "check_command" (top 55)
 q126:GD K "fits" (top 61)
 q127:GD K "outcome" (top 62)
 q128:GD K "answered" (top 60)
 q129:GD K "step" (top 59)
 q130:GD K "objects_of" (top 54)
 q131:GD K "commands" (top 53)
 q132:GD K "_law_cell_at" (top 158)
 q133:GD K "_law_digit" (top 159)
 q134:GD K "_law_things" (top 160)
 q135:GD K "_law_named" (top 161)
 q136:GD K "_law_marks" (top 162)
 q137:GD K "_law_ways" (top 163)
 q138:GD K "_law_taken" (top 164)
 q139:GD K "_law_within" (top 165)
 q140:GD K "_law_laid" (top 166)
 q141:GD K "_law_turned" (top 167)
 q142:GD K "_law_gone" (top 168)
 q143:GD K "_law_due" (top 169)
 q144:GD K "_law_behind" (top 170)
 q145:GD K "law" (top 171)
class Yx(B:Bz):Prop where
 y:Yw B.P B.w B.mg B.base B.G
 f:Fx B.G.K (B.G.ca 0) (B.G.ca 1) (B.G.ca 2) (B.G.ca 3) (B.G.ca 4) (B.G.ca 5) (B.G.ca 6) (B.G.ca 7) (B.G.ca 8) (B.G.ca 9) (B.G.ca 10) (B.G.ca 11) (B.G.ca 12) (B.G.ca 13) (B.G.ca 14)
section
variable{B:Bz}[Y:Yx B]
instance:Yb B:=⟨Y.y⟩
instance:Nb B "all" := ⟨Y.y.n Y.f.e 0 rfl⟩
instance:Nb B "any" := ⟨Y.y.n Y.f.e 1 rfl⟩
instance:Nb B "bool" := ⟨Y.y.n Y.f.e 2 rfl⟩
instance:Nb B "int" := ⟨Y.y.n Y.f.e 3 rfl⟩
instance:Nb B "isinstance" := ⟨Y.y.n Y.f.e 4 rfl⟩
instance:Nb B "len" := ⟨Y.y.n Y.f.e 5 rfl⟩
instance:Nb B "list" := ⟨Y.y.n Y.f.e 6 rfl⟩
instance:Nb B "min" := ⟨Y.y.n Y.f.e 7 rfl⟩
instance:Nb B "range" := ⟨Y.y.n Y.f.e 8 rfl⟩
instance:Nb B "set" := ⟨Y.y.n Y.f.e 9 rfl⟩
instance:Nb B "sorted" := ⟨Y.y.n Y.f.e 10 rfl⟩
instance:Nb B "str" := ⟨Y.y.n Y.f.e 11 rfl⟩
instance:Nb B "tuple" := ⟨Y.y.n Y.f.e 12 rfl⟩
instance:Co B "CANNOT_BE" Ef:=⟨Y.y.cx Y.f.g0⟩
instance:Co B "KINDS" Js:=⟨Y.y.cs Y.f.g1⟩
instance:Co B "KINDS_APART" BI:=⟨Y.y.cs Y.f.g2⟩
instance:Co B "KINDS_THAT_HOLD" yW:=⟨Y.y.cs Y.f.g3⟩
instance:Co B "KINDS_WITH_MARK" yX:=⟨Y.y.cs Y.f.g4⟩
instance:Co B "MOST_BESIDE" BJ:=⟨Y.y.ci Y.f.g5⟩
instance:Co B "MOST_IN_NAME" A2:=⟨Y.y.ci Y.f.g6⟩
instance:Co B "MOST_IN_WORD" A3:=⟨Y.y.ci Y.f.g7⟩
instance:Co B "MOST_MARKS" yc:=⟨Y.y.ci Y.f.g8⟩
instance:Co B "MOST_OF_MARK" A4:=⟨Y.y.ci Y.f.g9⟩
instance:Co B "MOST_ROOMS" CQ:=⟨Y.y.ci Y.f.g10⟩
instance:Co B "MOST_RULES" CU:=⟨Y.y.ci Y.f.g11⟩
instance:Co B "MOST_VERBS" CS:=⟨Y.y.ci Y.f.g12⟩
instance:Co B "MOST_WAYS" A5:=⟨Y.y.ci Y.f.g13⟩
instance:Co B "MOST_WORDS" CT:=⟨Y.y.ci Y.f.g14⟩
instance:Co B "NOTHING_COMES" AB:=⟨Y.y.cx Y.f.g15⟩
instance:Co B "NO_NAMES" F5:=⟨Y.y.cs Y.f.g16⟩
instance:Co B "NO_WORDS" F6:=⟨Y.y.cs Y.f.g17⟩
instance:Co B "NO_WORDS_OF_ROWS" yw:=⟨Y.y.cs Y.f.g18⟩
instance:Ff B zF "copied_rules" := ⟨wz (Y.f.k14.at 0 rfl)⟩
instance:Ff B HV "deeds" := ⟨wz (Y.f.k13.at 0 rfl)⟩
instance:Ff B CP "form" := ⟨wz (Y.f.k2.at 0 rfl)⟩
instance:Ff B HW "inner" := ⟨wz (Y.f.k9.at 0 rfl)⟩
instance:Ff B vV "joining" := ⟨wz (Y.f.k2.at 1 rfl)⟩
instance:Ff B BH "kept_dark" := ⟨wz (Y.f.k14.at 1 rfl)⟩
instance:Ff B yp "kept_marks" := ⟨wz (Y.f.k14.at 2 rfl)⟩
instance:Ff B u5 "kept_things" := ⟨wz (Y.f.k14.at 3 rfl)⟩
instance:Ff B A1 "kept_verbs" := ⟨wz (Y.f.k14.at 4 rfl)⟩
instance:Ff B zc "kept_ways" := ⟨wz (Y.f.k14.at 5 rfl)⟩
instance:Ff B ue "kind" := ⟨orQ (wz (Y.f.k0.at 0 rfl)) (Y.f.k7.at 0 rfl)⟩
instance:Ff B yq "most" := ⟨wz (Y.f.k1.at 0 rfl)⟩
instance:Ff B yU "mosts_by_name" := ⟨wz (Y.f.k14.at 6 rfl)⟩
instance:Ff B tY "name" := ⟨orQ (orQ (wz (Y.f.k0.at 1 rfl)) (Y.f.k1.at 1 rfl)) (Y.f.k2.at 2 rfl)⟩
instance:Ff B xD "others" := ⟨wz (Y.f.k2.at 3 rfl)⟩
instance:Ff B HX "place" := ⟨orQ (wz (Y.f.k3.at 0 rfl)) (Y.f.k11.at 0 rfl)⟩
instance:Ff B Ee "refuses" := ⟨wz (Y.f.k13.at 1 rfl)⟩
instance:Ff B xh "rules_by_verb" := ⟨wz (Y.f.k14.at 7 rfl)⟩
instance:Ff B zG "shared_rules" := ⟨wz (Y.f.k14.at 8 rfl)⟩
instance:Ff B zH "shared_verbs" := ⟨wz (Y.f.k14.at 9 rfl)⟩
instance:Ff B uP "start" := ⟨orQ (wz (Y.f.k0.at 2 rfl)) (Y.f.k1.at 2 rfl)⟩
instance:Ff B KI "term" := ⟨orQ (orQ (orQ (orQ (orQ (orQ (wz (Y.f.k3.at 1 rfl)) (Y.f.k4.at 0 rfl)) (Y.f.k5.at 0 rfl)) (Y.f.k6.at 0 rfl)) (Y.f.k7.at 1 rfl)) (Y.f.k11.at 1 rfl)) (Y.f.k12.at 0 rfl)⟩
instance:Ff B HY "tests" := ⟨wz (Y.f.k13.at 2 rfl)⟩
instance:Ff B KJ "text" := ⟨wz (Y.f.k13.at 3 rfl)⟩
instance:Ff B yt "things_by_name" := ⟨wz (Y.f.k14.at 10 rfl)⟩
instance:Ff B DM "value" := ⟨orQ (wz (Y.f.k6.at 1 rfl)) (Y.f.k12.at 1 rfl)⟩
instance:Ff B yu "verb" := ⟨wz (Y.f.k13.at 4 rfl)⟩
instance:Ff B yV "verbs_by_word" := ⟨wz (Y.f.k14.at 11 rfl)⟩
instance:Ff B KL "word" := ⟨wz (Y.f.k8.at 0 rfl)⟩
instance:Ff B vL "words" := ⟨wz (Y.f.k0.at 3 rfl)⟩
instance:Ff B zd "your_name" := ⟨wz (Y.f.k14.at 12 rfl)⟩
instance:Af B 0 ["kind", "name", "start", "words"]:=⟨Y.f.k0⟩
instance:Af B 1 ["most", "name", "start"]:=⟨Y.f.k1⟩
instance:Af B 2 ["form", "joining", "name", "others"]:=⟨Y.f.k2⟩
instance:Af B 3 ["place", "term"]:=⟨Y.f.k3⟩
instance:Af B 4 ["term"]:=⟨Y.f.k4⟩
instance:Af B 6 ["term", "value"]:=⟨Y.f.k6⟩
instance:Af B 7 ["kind", "term"]:=⟨Y.f.k7⟩
instance:Af B 8 ["word"]:=⟨Y.f.k8⟩
instance:Af B 9 ["inner"]:=⟨Y.f.k9⟩
instance:Af B 11 ["place", "term"]:=⟨Y.f.k11⟩
instance:Af B 12 ["term", "value"]:=⟨Y.f.k12⟩
instance:Af B 13 ["deeds", "refuses", "tests", "text", "verb"]:=⟨Y.f.k13⟩
instance:Af B 14 ["copied_rules", "kept_dark", "kept_marks", "kept_things", "kept_verbs", "kept_ways", "mosts_by_name", "rules_by_verb", "shared_rules", "shared_verbs", "things_by_name", "verbs_by_word", "your_name", "kept_rules"]:=⟨Y.f.k14⟩
instance:Ic B "Mark" QS:=⟨1,HN Y.f.i_Mark rfl (Uc 15 _) (OD.at ⟨Y.f.k0.ci,Y.f.k1.ci,Y.f.k2.ci,Y.f.k3.ci,Y.f.k4.ci,Y.f.k5.ci,Y.f.k6.ci,Y.f.k7.ci,Y.f.k8.ci,Y.f.k9.ci,Y.f.k10.ci,Y.f.k11.ci,Y.f.k12.ci,Y.f.k13.ci,Y.f.k14.ci,trivial⟩),Y.y.g Y.f.a1⟩
instance:Ic B "Thing" Na:=⟨0,HN Y.f.i_Thing rfl (Uc 15 _) (OD.at ⟨Y.f.k0.ci,Y.f.k1.ci,Y.f.k2.ci,Y.f.k3.ci,Y.f.k4.ci,Y.f.k5.ci,Y.f.k6.ci,Y.f.k7.ci,Y.f.k8.ci,Y.f.k9.ci,Y.f.k10.ci,Y.f.k11.ci,Y.f.k12.ci,Y.f.k13.ci,Y.f.k14.ci,trivial⟩),Y.y.g Y.f.a0⟩
instance:Ij B 15:=⟨injR Y.f.nd⟩
theorem eqL{A:Type}{l:List A}{n:Nat}(h:l.length=n):l.length=n:=h
theorem eqE{e:PySem.Expr}{v:PySem.Env}{r:PySem.Sem PySem.Value}(h:PySem.eval e v=r):PySem.eval e v=r:=h
local macro_rules|`(tactic|trivial)=>do let x:=("aaD aaq aap aar aas M3 aaw Xm XY aat Xk X5 XX W5 W6 XZ X2 XT Xp XN Xs X6 Xc Xd Xe Xf W9 X3 aax X7 Xa Xo X9 Yc X0 Yo Xn Xl Xj W4 Xx Xy aau Ye Xh Xi Xg aay aaz XC W7 W8 XD Xb Yk Ym Yl Yn Ya Yd Yf aav Xq Xr Yg Yh XE Xt Xu Yt XI XJ XM Yi Yj Ua T9 Ub XO XQ XR Xw zr_r2I Xz zr_xeI XA YE XB XH XG XF T8 X8 zr_mnI YB zr_wxI Xv Yq zr_xsI Yr Ys T7 Yp X4".splitOn " ").toArray.map fun s=>Lean.mkIdent (.mkSimple s);`(tactic|repeat' first|(with_reducible intro _)|((with_reducible first|apply eqL|apply eqE);rfl)|kernel_rfl|((with_reducible first|apply XU|apply XW);rotate_left 7;rfl)|(with_reducible first $[|apply $x]*)|exact oX)
instance:Df B 1 "is_small_letters" (spF B.G wI):=gF4 rfl Y.f.q19 rfl (by unfold yx;trivial)
instance:Df B 2 "is_name" (spF B.G Bt):=gF4 rfl Y.f.q20 rfl (by unfold HZ;trivial)
instance:Df B 2 "is_word" (spF B.G zI):=gF4 rfl Y.f.q21 rfl (by unfold Ia;trivial)
instance:Df B 1 "is_one_of" (spF B.G uH):=gF4 rfl Y.f.q22 rfl (by unfold Eg;trivial)
instance:Df B 1 "is_whole" (spF B.G B7):=gF4 rfl Y.f.q23 rfl (by unfold F7;trivial)
instance:Df B 1 "is_list_up_to" (spF B.G uK):=gF4 rfl Y.f.q24 rfl (by unfold AC;trivial)
instance:Df B 1 "own_list" (spF B.G B8):=gF4 rfl Y.f.q25 rfl (by unfold F8;trivial)
theorem BX:Bdz B (nmO (inClass (top 69) 0)) "Thing.__init__" (inClass (top 69) 0) (uw (inClass (top 69) 0)) 0 Ad:=by
 unfold Ad;refine M3 ?_ ?_
 all_goals trivial
instance:Kf B 1 "Thing" 0 wc [D.non]:=gJ4 (dds:=[D.non]) Y.f.k0 Y.f.a0 rfl Y.f.q26 rfl rfl BX 0
instance:Kf B 1 "Thing" 0 wc []:=gJ4 (dds:=[D.non]) Y.f.k0 Y.f.a0 rfl Y.f.q26 rfl rfl BX 1
instance:Kf B 1 "Mark" 1 A6 []:=gI4 Y.f.k1 Y.f.a1 rfl Y.f.q27 rfl rfl (by unfold Eh;trivial)
theorem Aw:Bdz B (nmO (inClass (top 71) 0)) "Verb.__init__" (inClass (top 71) 0) (uw (inClass (top 71) 0)) 0 A7:=by
 unfold A7;refine M3 ?_ ?_
 all_goals trivial
instance:Kf B 1 "Verb" 2 vX [D.non,(D.str "one"),D.non]:=gJ4 (dds:=[D.non,(D.str "one"),D.non]) Y.f.k2 Y.f.a2 rfl Y.f.q28 rfl rfl Aw 0
instance:Kf B 1 "Verb" 2 vX [D.non]:=gJ4 (dds:=[D.non,(D.str "one"),D.non]) Y.f.k2 Y.f.a2 rfl Y.f.q28 rfl rfl Aw 2
instance:Kf B 1 "Verb" 2 vX []:=gJ4 (dds:=[D.non,(D.str "one"),D.non]) Y.f.k2 Y.f.a2 rfl Y.f.q28 rfl rfl Aw 3
instance:Kf B 1 "At" 3 DN []:=gI4 Y.f.k3 Y.f.a3 rfl Y.f.q29 rfl rfl (by unfold Ib;trivial)
instance:Kf B 1 "Has" 4 B9 []:=gI4 Y.f.k4 Y.f.a4 rfl Y.f.q30 rfl rfl (by unfold F9;trivial)
instance:Kf B 1 "Marked" 6 vc []:=gI4 Y.f.k6 Y.f.a6 rfl Y.f.q31 rfl rfl (by unfold BK;trivial)
instance:Kf B 1 "Kind" 7 vY []:=gI4 Y.f.k7 Y.f.a7 rfl Y.f.q32 rfl rfl (by unfold Ei;trivial)
instance:Kf B 1 "Word" 8 Ek []:=gI4 Y.f.k8 Y.f.a8 rfl Y.f.q33 rfl rfl (by unfold Ej;trivial)
instance:Kf B 1 "Not" 9 vZ []:=gI4 Y.f.k9 Y.f.a9 rfl Y.f.q34 rfl rfl (by unfold Ga;trivial)
instance:Kf B 1 "Move" 11 xP []:=gI4 Y.f.k11 Y.f.a11 rfl Y.f.q35 rfl rfl (by unfold El;trivial)
instance:Kf B 1 "Put" 12 yy []:=gI4 Y.f.k12 Y.f.a12 rfl Y.f.q36 rfl rfl (by unfold Gb;trivial)
instance:Kf B 2 "Rule" 13 A8 []:=gJ4 (dds:=[(D.bl false)]) Y.f.k13 Y.f.a13 rfl Y.f.q37 rfl rfl (by unfold Em;trivial) 1
instance:Mf B 9 "can_hold" uX:=⟨λc h e=>by
 unfold uX at e;split at e
 ·cases e;exact hF4 (k:=8) Y.f.k0 rfl Y.f.q38 rfl (by unfold zJ;trivial)
 ·cases e⟩
instance:Mf B 9 "has_mark" vq:=⟨λc h e=>by
 unfold vq at e;split at e
 ·cases e;exact hF4 (k:=8) Y.f.k0 rfl Y.f.q39 rfl (by unfold zL;trivial)
 ·cases e⟩
instance:Mf B 9 "is_plainly" uD:=⟨λc h e=>by
 unfold uD at e;split at e
 ·cases e;exact hF4 (k:=8) Y.f.k0 rfl Y.f.q40 rfl (by unfold yz;trivial)
 ·cases e⟩
instance:Df B 1 "refuse_unless" (spF B.G tI):=gF4 rfl Y.f.q41 rfl (by unfold AD;trivial)
instance:Df B 1 "count_of" (spF B.G Ae):=gF4 rfl Y.f.q42 rfl (by unfold Gc;trivial)
instance:Df B 10 "plain_ones" (spN B.G we):=gN4 rfl Y.f.q43 rfl (by unfold CV;trivial)
instance:Df B 2 "is_mark" (spF B.G DP):=gF4 rfl Y.f.q44 rfl (by unfold DO;trivial)
instance:Df B 11 "check_things" (spF B.G yB):=gF4 rfl Y.f.q45 rfl (by unfold yA;trivial)
instance:Df B 3 "check_marks" (spF B.G zf):=gF4 rfl Y.f.q46 rfl (by unfold ze;trivial)
instance:Df B 1 "are_unlike" (spF B.G vB):=gF4 rfl Y.f.q47 rfl (by unfold CW;trivial)
instance:Df B 3 "check_names" (spF B.G zh):=gF4 rfl Y.f.q48 rfl (by unfold zg;trivial)
instance:Df B 10 "mark_names" (spN B.G wg):=gN4 rfl Y.f.q49 rfl (by unfold CY;trivial)
instance:Df B 10 "is_start" (spF B.G Cb):=gF4 rfl Y.f.q50 rfl (by unfold Ca;trivial)
instance:Df B 1 "comes_to_room" (spF B.G xU):=gF4 rfl Y.f.q51 rfl (by unfold AE;trivial)
instance:Df B 11 "check_starts" (spF B.G yD):=gF5 ["things", "starts", "thing"] rfl Y.f.q52 rfl (by unfold yC;trivial)
instance:Df B 3 "are_words" (spF B.G yY):=gF4 rfl Y.f.q53 rfl (by unfold En;trivial)
instance:Df B 1 "has_all" (spF B.G zN):=gF4 rfl Y.f.q54 rfl (by unfold Ie;trivial)
instance:Df B 2 "is_told_apart" (spF B.G xW):=gF4 rfl Y.f.q55 rfl (by unfold xV;trivial)
instance:Df B 11 "check_words_of_things" (spF B.G vv):=gF4 rfl Y.f.q56 rfl (by unfold vt;trivial)
instance:Df B 2 "check_dark" (spF B.G Ah):=gF4 rfl Y.f.q57 rfl (by unfold Ag;trivial)
instance:Df B 3 "is_way" (spF B.G Ge):=gF4 rfl Y.f.q58 rfl (by unfold Gd;trivial)
instance:Df B 4 "check_ways" (spF B.G Aj):=gF4 rfl Y.f.q59 rfl (by unfold Ai;trivial)
instance:Df B 2 "check_verbs" (spF B.G xJ):=gF4 rfl Y.f.q60 rfl (by unfold BL;trivial)
instance:Df B 1 "are_apart" (spF B.G xQ):=gF4 rfl Y.f.q61 rfl (by unfold Eo;trivial)
instance:Df B 11 "check_vocabulary" (spF B.G vC):=gF4 rfl Y.f.q62 rfl (by unfold wK;trivial)
instance:Df B 12 "check_parts" (spF B.G zj):=gF4 rfl Y.f.q63 rfl (by unfold zi;trivial)
instance:Df B 4 "does" (spF B.G yE):=gF4 rfl Y.f.q64 rfl (by unfold QT;trivial)
instance:Df B 4 "refuses" (spF B.G uJ):=gF4 rfl Y.f.q65 rfl (by unfold Ig;trivial)
instance:Df B 5 "hand_rules" (spN B.G Ak):=gN4 rfl Y.f.q66 rfl (by unfold CZ;trivial)
instance:Df B 5 "put_rules" (spN B.G A9):=gN4 rfl Y.f.q67 rfl (by unfold Ep;trivial)
instance:Df B 5 "lid_rules" (spN B.G Ba):=gN4 rfl Y.f.q68 rfl (by unfold Er;trivial)
instance:Df B 5 "flame_rules" (spN B.G zk):=gN4 rfl Y.f.q69 rfl (by unfold BM;trivial)
instance:Df B 3 "way_tests" (spN B.G Bb):=gN4 rfl Y.f.q70 rfl (by unfold Es;trivial)
instance:Df B 5 "go_rules" (spN B.G Cd):=gN4 rfl Y.f.q71 rfl (by unfold Cc;trivial)
instance:Df B 5 "wait_rules" (spN B.G Dc):=gN4 rfl Y.f.q72 rfl (by unfold Da;trivial)
instance:Df B 6 "common_rules" (spN B.G yF):=gN4 rfl Y.f.q73 rfl (by unfold Bc;trivial)
instance:Df B 3 "common_verbs" (spN B.G xi):=gN4 rfl Y.f.q74 rfl (by unfold Bd;trivial)
instance:Df B 1 "by_name" (spF B.G DS):=gF4 rfl Y.f.q75 rfl (by unfold DQ;trivial)
instance:Df B 10 "mosts_by_name" (spF B.G xY):=gF4 rfl Y.f.q76 rfl (by unfold xX;trivial)
instance:Df B 1 "verbs_by_word" (spF B.G AG):=gF4 rfl Y.f.q77 rfl (by unfold AF;trivial)
instance:Df B 1 "by_verb" (spF B.G Ii):=gF4 rfl Y.f.q78 rfl (by unfold Ih;refine⟨Ov (stW (by kernel_rfl) JY rfl) (O3 oX rfl (Ke (J3 B.G.K (Ls (pvI (by kernel_rfl))))) (pgI (by kernel_rfl)) (II (Mq (Pu B.G.K jk kr nR Dy (Qs (pvI (by kernel_rfl)) (PM (Ls (pvI (by kernel_rfl))) (Ff.p (B:=B))) (Pc zT) ⟨rfl,rfl,rfl,rfl⟩) (wW (pvI (by kernel_rfl)) zT))))) (Lb (PE.ghost (pvI (by kernel_rfl))))⟩)
instance:Mf B 9 "of_kind" wC:=⟨λc h e=>by
 unfold wC at e;split at e
 ·cases e;exact hF4 (k:=8) Y.f.k14 rfl Y.f.q79 rfl (by unfold AH;trivial)
 ·cases e⟩
instance:Mf B 9 "all_verbs" vJ:=⟨λc h e=>by
 unfold vJ at e;split at e
 ·cases e;exact hF4 (k:=8) Y.f.k14 rfl Y.f.q80 rfl (by unfold yZ;trivial)
 ·cases e⟩
instance:Kf B 13 "World" 14 xl []:=gI4 Y.f.k14 Y.f.a14 rfl Y.f.q81 rfl rfl (by unfold xk;trivial)
instance:Mf B 9 "you" Bu:=⟨λc h e=>by
 unfold Bu at e;split at e
 ·cases e;exact hF4 (k:=8) Y.f.k14 rfl Y.f.q82 rfl (by unfold Et;trivial)
 ·cases e⟩
instance:Mf B 9 "thing_of" tD:=⟨λc h e=>by
 unfold tD at e;split at e
 ·cases e;exact hF4 (k:=8) Y.f.k14 rfl Y.f.q83 rfl (by unfold zO;trivial)
 ·cases e⟩
instance:Mf B 9 "most_of" vM:=⟨λc h e=>by
 unfold vM at e;split at e
 ·cases e;exact hF4 (k:=8) Y.f.k14 rfl Y.f.q84 rfl (by unfold AI;trivial)
 ·cases e⟩
instance:Mf B 9 "verb_of" vd:=⟨λc h e=>by
 unfold vd at e;split at e
 ·cases e;exact hF4 (k:=8) Y.f.k14 rfl Y.f.q85 rfl (by unfold AK;trivial)
 ·cases e⟩
instance:Mf B 9 "is_dark" xK:=⟨λc h e=>by
 unfold xK at e;split at e
 ·cases e;exact hF4 (k:=8) Y.f.k14 rfl Y.f.q86 rfl (by unfold AM;trivial)
 ·cases e⟩
instance:Mf B 9 "own_marks" x8:=⟨λc h e=>by
 unfold x8 at e;split at e
 ·cases e;exact hF4 (k:=8) Y.f.k14 rfl Y.f.q87 rfl (by unfold y3;trivial)
 ·cases e⟩
instance:Mf B 9 "names" wQ:=⟨λc h e=>by
 unfold wQ at e;split at e
 ·cases e;exact hF4 (k:=8) Y.f.k14 rfl Y.f.q88 rfl (by unfold BN;trivial)
 ·cases e⟩
instance:Mf B 9 "way_words" vK:=⟨λc h e=>by
 unfold vK at e;split at e
 ·cases e;exact hF4 (k:=8) Y.f.k14 rfl Y.f.q89 rfl (by unfold y4;trivial)
 ·cases e⟩
instance:Mf B 9 "rules_to_try" wL:=⟨λc h e=>by
 unfold wL at e;split at e
 ·cases e;exact hF4 (k:=8) Y.f.k14 rfl Y.f.q90 rfl (by unfold xR;trivial)
 ·cases e⟩
instance:Mf B 12 "parts" y6:=⟨λc h e=>by
 unfold y6 at e;split at e
 ·cases e;exact hF4 (k:=11) Y.f.k14 rfl Y.f.q91 rfl (by unfold BO;trivial)
 ·cases e⟩
instance:Df B 10 "own_starts" (spF B.G Al):=gF4 rfl Y.f.q92 rfl (by unfold De;trivial)
instance:Df B 10 "first_value" (spF B.G wD):=gF4 rfl Y.f.q93 rfl (by unfold BQ;trivial)
instance:Df B 13 "first_stand" (spF B.G zm):=gF4 rfl Y.f.q94 rfl (by unfold BR;trivial)
instance:Df B 1 "value_of" (spF B.G Am):=gF4 rfl Y.f.q95 rfl (by unfold Gf;trivial)
instance:Df B 2 "at_of" (spF B.G uS):=gF4 rfl Y.f.q96 rfl (by unfold Nc;trivial)
instance:Df B 2 "mark_of" (spF B.G uQ):=gF4 rfl Y.f.q97 rfl (by unfold Ik;trivial)
instance:Df B 1 "with_part" (spF B.G y7):=gF4 rfl Y.f.q98 rfl (by unfold Eu;trivial)
instance:Df B 3 "holders_of" (spN B.G vE):=gN4 rfl Y.f.q99 rfl (by unfold Dg;trivial)
instance:Df B 10 "room_of" (spF B.G yh):=gF4 rfl Y.f.q100 rfl (by unfold Il;trivial)
instance:Df B 10 "has" (spF B.G Dh):=gF4 rfl Y.f.q101 rfl (by unfold U6;trivial)
instance:Df B 10 "is_shut" (spF B.G xE):=gF4 rfl Y.f.q102 rfl (by unfold Im;trivial)
instance:Df B 11 "in_open" (spF B.G xF):=gF4 rfl Y.f.q103 rfl (by unfold Io;trivial)
instance:Df B 12 "burns_in" (spF B.G yG):=gF4 rfl Y.f.q104 rfl (by unfold Gg;trivial)
instance:Df B 13 "is_lit" (spF B.G Gh):=gF4 rfl Y.f.q105 rfl (by unfold KN;trivial)
instance:Df B 14 "is_seen" (spF B.G uI):=gF4 rfl Y.f.q106 rfl (by unfold Ip;trivial)
instance:Df B 10 "is_of_way" (spF B.G wR):=gF4 rfl Y.f.q107 rfl (by unfold Ew;trivial)
instance:Df B 11 "things_of" (spF B.G uo):=gF4 rfl Y.f.q108 rfl (by unfold Ex;trivial)
instance:Df B 12 "meant" (spF B.G uE):=gF4 rfl Y.f.q109 rfl (by unfold Nd;trivial)
instance:Df B 10 "at_parts" (spF B.G Ce):=gF4 rfl Y.f.q110 rfl (by unfold Gi;trivial)
instance:Df B 10 "mark_parts" (spF B.G An):=gF4 rfl Y.f.q111 rfl (by unfold Di;trivial)
instance:Df B 11 "can_go" (spF B.G Be):=gF4 rfl Y.f.q112 rfl (by unfold KO;trivial)
instance:Df B 11 "can_show" (spF B.G Ao):=gF4 rfl Y.f.q113 rfl (by unfold Gj;trivial)
instance:Mf B 15 "holds" (uC 0):=⟨λc h e=>by
 unfold uC Ap at e;split at e
 ·cases e;exact hF4 (k:=14) Y.f.k3 rfl Y.f.q114 rfl (by unfold Gk;trivial)
 ·cases e;exact hF4 (k:=14) Y.f.k4 rfl Y.f.q115 rfl (by unfold Ey;trivial)
 ·cases e;exact hF4 (k:=14) Y.f.k6 rfl Y.f.q116 rfl (by unfold Bf;trivial)
 ·cases e;exact hF4 (k:=14) Y.f.k7 rfl Y.f.q117 rfl (by unfold Dj;trivial)
 ·cases e;exact hF4 (k:=14) Y.f.k8 rfl Y.f.q118 rfl (by unfold Dl;trivial)
 ·cases e⟩
instance:Mf B 16 "holds" (uC 1):=⟨λc h e=>by
 unfold uC at e;split at e
 ·cases e;exact hF4 (k:=15) Y.f.k9 rfl Y.f.q119 rfl (by unfold Bi;trivial)
 ·exact(Mf.p (B:=B) (g:=uC 0) c h e).mono rfl⟩
instance:Mf B 14 "done" v3:=⟨λc h e=>by
 unfold v3 at e;split at e
 ·cases e;exact hF4 (k:=13) Y.f.k11 rfl Y.f.q120 rfl (by unfold EB;trivial)
 ·cases e;exact hF4 (k:=13) Y.f.k12 rfl Y.f.q121 rfl (by unfold Gp;trivial)
 ·cases e⟩
instance:Df B 10 "is_object" (spF B.G wU):=gF4 rfl Y.f.q122 rfl (by unfold ED;trivial)
instance:Df B 11 "fits_form" (spF B.G v5):=gF4 rfl Y.f.q123 rfl (by unfold EE;trivial)
instance:Df B 12 "is_command" (spF B.G Aq):=gF4 rfl Y.f.q124 rfl (by unfold Dn;trivial)
instance:Df B 13 "check_command" (spF B.G wG):=gF4 rfl Y.f.q125 rfl (by unfold AN;trivial)
instance:Df B 17 "fits" (spF B.G vw):=gF4 rfl Y.f.q126 rfl (by unfold QU;trivial)
instance:Df B 15 "outcome" (spF B.G xG):=gF4 rfl Y.f.q127 rfl (by unfold Iq;trivial)
instance:Df B 18 "answered" (spF B.G Cf):=gF4 rfl Y.f.q128 rfl (by unfold Gr;trivial)
instance:Df B 19 "step" (spF B.G v7):=gF4 rfl Y.f.q129 rfl (by unfold QV;trivial)
instance:Df B 10 "objects_of" (spN B.G vF):=gN4 rfl Y.f.q130 rfl (by unfold wm;trivial)
instance:Df B 11 "commands" (spN B.G Ar):=gN4 rfl Y.f.q131 rfl (by unfold Cg;trivial)
instance:Df B 1 "_law_cell_at" (spF B.G yH):=gF4 rfl Y.f.q132 rfl (by unfold Bj;trivial)
instance:Df B 1 "_law_digit" (spM B.G tw):=gM4 rfl Y.f.q133 rfl rfl (by unfold yd;trivial)
instance:Df B 3 "_law_things" (spM B.G zq):=gM5 ["_law_state", "_law_rooms", "_law_things_here", "_law_holders", "_law_pool", "_law_turn", "_law_k", "_law_name", "_law_words", "_law_kind"] rfl Y.f.q134 rfl rfl (by unfold zp;trivial)
instance:Df B 1 "_law_named" (spN B.G vb):=gN4 rfl Y.f.q135 rfl (by unfold Do;trivial)
instance:Df B 3 "_law_marks" (spM B.G Au):=gM4 rfl Y.f.q136 rfl rfl (by unfold As;trivial)
instance:Df B 2 "_law_ways" (spM B.G Bl):=gM5 ["_law_state", "_law_things_here", "_law_marks_here", "_law_rooms", "_law_doors", "_law_ways_here", "_law_k", "_law_room", "_law_word", "_law_goal", "_law_mark"] rfl Y.f.q137 rfl rfl (by unfold Bk;trivial)
instance:Df B 10 "_law_taken" (spF B.G ye):=gF4 rfl Y.f.q138 rfl (by unfold Dp;trivial)
instance:Df B 3 "_law_within" (spF B.G xM):=gF4 rfl Y.f.q139 rfl (by unfold BS;trivial)
instance:Df B 11 "_law_laid" (spF B.G y8):=gF4 rfl Y.f.q140 rfl (by unfold EF;trivial)
instance:Df B 10 "_law_turned" (spF B.G wF):=gF4 rfl Y.f.q141 rfl (by unfold BU;trivial)
instance:Df B 3 "_law_gone" (spF B.G Bm):=gF4 rfl Y.f.q142 rfl (by unfold EG;trivial)
instance:Df B 15 "_law_due" (spF B.G wM):=gF4 rfl Y.f.q143 rfl (by unfold Ci;trivial)
instance:Df B 1 "_law_behind" (spF B.G zr):=gF4 rfl Y.f.q144 rfl (by unfold BV;trivial)
theorem RW:Bdz B (nmO (top 171)) "law" (top 171) (uw (top 171)) 19 Nf:=by
 unfold Nf;refine M3 ?_ ?_
 all_goals trivial
end
end K34x
namespace K34x
open PySem L2 L3 L4
def NI(K:au):Sp:=λvs H Q _=>∃(a:Addr) (ns:List Int),vs=[.ref a]/\SqL K H a (ns.map V.int)/\ns.length<=63/\∀H',Q (.bl true) H'
theorem IF{G:Bg}{H:Hp}:∀ns:List Int,tm G H (ns.map D.int) (ns.map V.int)
 |[]=>uq
 |n::ns=>ur (vz n) (IF ns)
theorem UM{G:Bg}:∀vs H Q E,NI G.K vs H Q E->spF G U7 vs H Q E:=λvs H Q E h=>by obtain⟨a,ns,rfl,hs,hl,k⟩:=h;refine⟨H,[.fzl (ns.map D.int)],.bl true,tQ.refl _,ur (by unfold L4.Rep;exact⟨a,_,rfl,hs,IF ns⟩) uq,Zb ns hl,λv H0' H' _ _ _ _ r=>?_⟩;unfold L4.Rep at r;subst r;exact k H'
section
variable{K:au}{x m q:Str}{st:Stmt}{f C:Addr}{oc:aa}{od:Option Addr}{kV doc pm:aa}{an:Option Addr}{cdv ct:aa}{osl:Array (Option aa)}
theorem RX(lk:K.lookup f=some ⟨oc,od,.func (eB x q (wY st) (uw st) (tX st) .none kV doc pm an cdv ct),osl⟩)(hc:gL K cdv q=true)(kp:dH K (.ref f)=true):∃fd,Fun K x q st f fd:=⟨_,⟨_,_,_,_,_,_,_,_,_,rfl,lk,hc⟩,kp⟩
theorem gd_mk(h:iI K aW x=some (some (.ref f)))(lk:K.lookup f=some ⟨oc,od,.func (eB x x (wY st) (uw st) (tX st) .none kV doc pm an cdv ct),osl⟩)(hc:gL K cdv x=true)(kp:dH K (.ref f)=true):GD K x st:=⟨f,(RX lk hc kp).imp λ_ F=>⟨h,F⟩⟩
theorem gm_mk(h:cX K (.ref C) m=some (some (.ref f)))(hf:jG K (.ref f)=true)(lk:K.lookup f=some ⟨oc,od,.func (eB m q (wY st) (uw st) (tX st) .none kV doc pm an cdv ct),osl⟩)(hc:gL K cdv q=true)(kp:dH K (.ref f)=true):GM K C m q st:=⟨f,(RX lk hc kp).imp λ_ F=>⟨h,hf,F⟩⟩
end
theorem all_mk{l:iB}{w:av}{K:au}{h:Heap}{mg:Str->Option aa}{fa:Addr}(X:K.In h)(Gn:h.Ns aW mg)(hfa:mg "law" = some (.ref fa)){C0 C1 C2 C3 C4 C5 C6 C7 C8 C9 C10 C11 C12 C13 C14:Addr}(F:Fx K C0 C1 C2 C3 C4 C5 C6 C7 C8 C9 C10 C11 C12 C13 C14):
  ∃fd:bQ,(∀(s:ae) (v:aa),gO s fd ⟨[v],[]⟩ [("_law_script", v)])/\∀base:Heap,K.In base->base.Ns aW mg->xn l.prog w K mg base CX0 20 fa fd ["_law_script"] (NI K):=by
 have gen:∃B:Bg,B.K=K/\B.ca 0=C0/\B.ca 1=C1/\B.ca 2=C2/\B.ca 3=C3/\B.ca 4=C4/\B.ca 5=C5/\B.ca 6=C6/\B.ca 7=C7/\B.ca 8=C8/\B.ca 9=C9/\B.ca 10=C10/\B.ca 11=C11/\B.ca 12=C12/\B.ca 13=C13/\B.ca 14=C14:=⟨⟨K,λc=>[C0,C1,C2,C3,C4,C5,C6,C7,C8,C9,C10,C11,C12,C13,C14].getD c 0⟩,rfl,rfl,rfl,rfl,rfl,rfl,rfl,rfl,rfl,rfl,rfl,rfl,rfl,rfl,rfl,rfl⟩;obtain⟨B,rfl,rfl,rfl,rfl,rfl,rfl,rfl,rfl,rfl,rfl,rfl,rfl,rfl,rfl,rfl,rfl⟩:=gen;have Z:∀base,Yx ⟨l.prog,w,mg,base,B⟩:=λbase=>⟨⟨h,X,Gn⟩,F⟩;obtain⟨f,fd,a,FF⟩:=F.q145;have e:=hfa.symm.trans (iG X Gn a);cases e;obtain⟨oc,od,kV,doc,pm,an,cdv,ct,osl,rfl,lk,hcd⟩:=FF.ex;exact⟨_,λs v=>.of_eq rfl,λbase _ _=>(Qa rfl rfl rfl FF (okk (N:=nmO (top 171)) (ps:=["_law_script"]) (np:=1) (n:=14) (by kernel_rfl)).1 ((@RW _ (Z base)).ok rfl _)).imp (UM (G:=B))⟩
theorem walk{l:iB}{q:ay}{loose:aH}{XP:(Str->Option aa)->Heap->Prop}{YP:av->Heap->Prop}{d:DefRec}{K:iH->au}(hn:l.most=some 63)(hdf:d.params.defaults=[])
  (hY:∀(w:av) (h:Heap),YP w h->(K w.params).In h)
  (F:∀(w:av) (mg:Str->Option aa) (fa:Addr) (h:Heap),(K w.params).In h->h.Ns aW mg->mg d.name=some (.ref fa)->
   ∃fd:bQ,(∀(s:ae) (u:aa),gO s fd ⟨[u],[]⟩ [("_law_script", u)])/\∀base:Heap,(K w.params).In base->base.Ns aW mg->xn l.prog w (K w.params) mg base CX0 20 fa fd ["_law_script"] (NI (K w.params))):
  W.WalkO q loose XP YP l.row.toRowW d [] (λf vs=>l4 f vs):=
 L2.SD (n:=63) (k:=20) (x:="_law_script") (CX:=λ_=>CX0) (sp:=λw=>NI (K w.params)) hn (by decide) hdf ⟨rfl,by decide,by decide⟩ hY F (λ_ _ a ns hl _ hS=>⟨a,ns,rfl,hS,hl,λ_=>rfl⟩) λ_ _ _ _ _ z=>z
end K34x
set_option maxHeartbeats 0
open PySem PySem.W PyProof.Rows
theorem PySem.Challenge.cw_tellworld_k34_common_steps_holds : PySem.Challenge.rw_tellworld_k34_common_steps.Holds := by
 refine hd ?_
 k_fill
 refine K34x.walk (l:=PySem.Challenge.rw_tellworld_k34_common_steps) rfl rfl (λw h Y=>Y) ?F
 case F=>
  intro w mg fa h KX G hmg;refine' K34x.all_mk KX G hmg ?Q
  case Q=>
   constructor
   all_goals as_aux_lemma=>first
   |k_is
   |kernel_rfl
   |exact⟨⟨⟨by k_is,by k_is,by k_is,by k_is⟩,by k_is,by k_is,by k_is,by k_is⟩,by k_is,by k_is,by kernel_rfl⟩
   |exact⟨_,by k_is⟩
   |exact K34x.gd_mk (by k_is) (by k_is) (by k_is) (by k_is)
   |exact K34x.gm_mk (by k_is) (by k_is) (by k_is) (by k_is) (by k_is)
   |exact⟨_,_,_,_,by k_is,by k_is,by rfl,by rfl,by simp,by repeat' first|exact .nil|exact .cons rfl .nil|refine .cons rfl ?_⟩
   |exact⟨_,_,_,_,[_],_,by k_is,by k_is,⟨⟨_,_,_,_,_,_,_,_,_,rfl,by k_is,by k_is⟩,by k_is⟩,by k_is,by rfl,.cons (by first|rfl|exact⟨_,rfl⟩) .nil⟩
   |exact⟨_,_,_,_,[_,_,_],_,by k_is,by k_is,⟨⟨_,_,_,_,_,_,_,_,_,rfl,by k_is,by k_is⟩,by k_is⟩,by k_is,by rfl,.cons (by first|rfl|exact⟨_,rfl⟩) (.cons (by first|rfl|exact⟨_,rfl⟩) (.cons (by first|rfl|exact⟨_,rfl⟩) .nil))⟩
end
