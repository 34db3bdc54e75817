import PyProof.Rows.All
import Open.Pieces
import OpenK.KLine
import PySem.Challenge.RW_tellworld_k23_reads_of_tests
import Wide.All
import OpenK.AllK
import Wide.FinOn
import PyProof.EqAt
import PyProof.EqKinds
import PyProof.TupleCall
import PyProof.StrWalks
import PyProof.ConsumeWalk
import PyProof.NeKinds
import PyProof.Rows.SetFrom
import KE.KIsAll
import PyProof.WalksMore
import PyProof.TupleKey
import PyProof.DictWalks
import PyProof.Rows.ZipGen
import KE.KDictLaws
import PyProof.DictItems
import KE.KSortTup
import PyProof.TupleOfSeq
import PyProof.Rows.SortStr
import PyProof.Rows.StrInSeq3
import PyProof.TupleIter
import KE.KDictOf
import PyProof.CollectWalk
import PyProof.Rows.SeqMore
set_option genSizeOf false
local macro_rules (kind:=Lean.Parser.Command.declaration)|s=>do
 if s.getPos?.isNone||s[1][1][0].getId.getRoot== `PySem then Lean.Macro.throwUnsupported
 let s:=s.rewriteBottomUp (·.setInfo .none)
 if s[1].getKind∈[``Lean.Parser.Command.definition,``Lean.Parser.Command.abbrev,``Lean.Parser.Command.instance]&&s[0][4].isNone then
  return s.setArg 0 (s[0].setArg 4 (Lean.mkNullNode #[Lean.Syntax.node .none ``Lean.Parser.Command.noncomputable #[Lean.mkAtom "noncomputable"]]))
 return s
noncomputable section
open List renaming length_map->af,getElem?_eq_getElem->aJ,length_append->aB,length_cons->aM,map_cons->aE,mem_singleton->aV,length_singleton->bh,mem_cons->aN,mem_cons_self->bg,getElem?_map->bc,size_toArray->bf,map_append->aX,mem_cons_of_mem->bu,mem_map->aP,getElem?_eq_some_iff->bO,length_take->bo,map_map->aU,append_nil->bq,getD_eq_getElem?_getD->cj,append_assoc->bD,range->aQ,mem_append->bx,mem_of_getElem?->bU,mem_map_of_mem->bQ,all_eq_true->bH,getElem?_append_right->cG,getElem?_append_left->cH,mem_filter->bL,mem_append_left->ck,mem_range->bI,mem_append_right->cy,length_replicate->cz,getElem?_set->bX,length_drop->cb,nil_append->bY,not_mem_nil->cn,nodup_append->cA,getElem_mem->cv,length_range->cI,filterMap_cons->de,getElem?_drop->df,length->cc,mem_iff_getElem->eB,length_pos_iff->eE,length_filter_le->eU,nodup_cons->dq,map_nil->cM,foldl_cons->dB,zip_cons_cons->eV,getElem?_replicate->gE,pairwise_iff_getElem->iw,getElem?_eq_none->gG,take_append_drop->gH,lookup_cons->eX,filter_cons->eY,length_eq_zero_iff->iz,getElem?_cons_succ->iA,find?_cons->fi,length_nil->fj,length_set->fo,zipWith->dH,zipWith_cons_cons->iC,lookup->dr,replicate->fw,perm_append_singleton->jq,exists_cons_of_ne_nil->jr,drop_eq_getElem_cons->jt,any_eq_true->gR,getElem?_set_self->jx,mem_filterMap->iG,take_of_length_le->jy,length_zip->gW,any_cons->fY,map_drop->fZ,map_take->f7,getElem?_toArray->jz,take_sublist->iJ,mem_of_mem_drop->jC,all_cons->gY,perm_middle->jM,getElem?_set_ne->kz,of_mem_zip->jO,countP_eq_length_filter->mY,getElem?_range->kB,length_zipWith->kC,getElem_of_mem->kE,filter_eq_self->kF,mergeSort_perm->kG,toArray->iV,nodup_nil->jQ,getElem?_take->kO,getLastD_eq_getLast?->m7,ext_getElem?->kQ,foldl_append->kW,flatMap_cons->kZ,getElem_inj->la,nodup_range->lr,mem_flatMap->ly,drop_eq_nil_of_le->nz,filter_eq_nil_iff->nF,getElem?_zipWith->nH,contains_iff_mem->nI,filterMap_append->nP,length_eraseIdx->nV,pairwise_append->nW,mem_of_mem_take->nX,zip_map'->lT,contains_cons->om,getElem_range->oq,map_filterMap->ox,append_of_mem->oA,any_eq_false->oE,take_add_one->oH,pairwise_map->oJ,map_fst_zip->oW,le_antisymm->oX,map_id->md,zip_append->o6,filter_map->pz,drop_nil->pW,all_map->qe,map->mC,filter->qA,rec->qF
open PySem renaming wpAny_bind->ag,Value->aa,wpAny_pure->ar,Shared->ae,wpAny->aj,starEach->aw,mainGlobals->aW,sizeLine->aG,Program->aH,Around->aI,World->aA,compareOp->br,sizeLine_eq->bN,Spec->tu,wpAny_truthy_bool->dg,wpAny_newObj_type->dh,wpAny_setState_of->dj,wpAny_Call_Name_kw->dA,wpAny_mono->bZ,SetTable->bJ,wpAny_holding->cW,codeAny_builtin->dD,backTo->bt,FuncData->cg,sysModules->cY,assignEach->c3,bootBuiltins->dF,wpAny_call_entry->fU,wpAny_passesOwn->fW,keywordEach->dO,attributeBase->fz,plainId_quiet->fA,codeAny->cq,mem_of_lookup->iF,binaryOp->cO,letOwnedTupleGo->gU,wpAny_specialOf->gV,behindInMarks->fX,wpAny_pyIter_list->iH,foldedSetIterable->iI,ofAClassStatement->iM,wpAny_setField->gX,swapsWith->dR,filterMap_getElem?_range->kx,wpAny_updateSeq->iP,tupleKind_room_in1->jE,codeAny_mono->hG,NameKind->dU,wpAny_typeOf->hJ,call_meetsIn->hU,wpAny_Call_method->jF,Builtin->c9,isSubtype_type->iQ,wpAny_execs_nil->jN,wpAny_pyIter_tuple->kH,Paired->gd,GenState->gf,noFill_tuple_add->lb,wpAny_callSpecial?_slot->nh,wpAny_forIn_list->lj,wpAny_askSetting->lp,wpAny_isInstance->lu,Keyword->fE,Scope->c4,wpAny_isTrue_Compare1->nG,wpAny_eqIsQuiet_tuple->nM,builtinLookup_eq_fast->nN,carriedByValue->lF,wpAny_seqItems->lG,codeAny_call_builtin->nR,wpAny_runValue->lH,codeAny_extend_loopS->nU,typeIs_none->jX,seq_tuple_add->lM,wpAny_newList->lR,Result->fF,wpAny_call->jZ,IsPart->fG,call_meets->j4,Within->lU,BindsTo->ip,concat_meets->lZ,slot_list_getitem->oF,wpAny_pyIter_dict->oI,wpAny_pyIter_slot->oM,wpAny_setEpoch_of->oN,wpAny_storeSet_of->oQ,wpAny_execs_cons->oR,PassesOwn->j6,wpAny_pyIter_zip->oV,wpAny_field->l7,codeAny_of_tree->o7,typeLookup_type->ph,wpAny_Name->me,wpAny_load->mf,PlainAttrs->mi,meets_dict_get->pE,call->mj,boot_len->pG,wpAny_newTuple->pI,wpAny_rule->mm,entryFor_alias->pO,KeyKind->pR,intBits_le_64->pS,evalPart_none->pT,call_list_seq->pU,wpAny_standAt->pV,signature?_of->qa
open PySem.Heap renaming get?_push_of_some->aC,lt_size->aK,get?_push_size->bp,get?_update_self->eA,size_push->cK,get?_update_other->fQ,SameBut->f9
open Nat renaming le_refl->ay,ne_of_lt->aR,le_of_ble_eq_true->bP,lt_of_lt_of_le->b0,zero_le->bA,le_trans->bM,lt_succ_self->cR,lt_succ_of_lt->di,lt_irrefl->dE,le_of_lt_succ->fS,min_eq_left->fq,ne_of_gt->dG,succ_pos->eI,ble_eq->dP,mod_lt->dQ,le_add_right->iO,le_of_lt->hE,min_self->hX,sub_self->ib,lt_trichotomy->jI,le_succ->ic,ble->dX,lt_of_le_of_lt->kM,add_le_add->jR,zero_add->jS,lt_trans->jU,pow_succ->jV,add_right_comm->og,le_of_eq->lV,le_of_succ_le->oO,le_of_not_lt->oU,not_lt_zero->px,beq->iX,lt_or_ge->qj
open Bool renaming and_eq_true->aZ,false_ne_true->bj,eq_iff_iff->eZ,false_eq_true->gK,not_eq_true'->gO,eq_false_iff->jH,or_eq_false_iff->kA,or_eq_true->jP,not_eq_true->oY,and_false->pD,rec->mB
open Array renaming length_toList->bw,getElem?_toList->bT,getElem?_eq_getElem->cQ,getD_eq_getD_getElem?->eS,getElem?_eq_some_iff->jo,perm_iff_toList_perm->m5,toList_push->kX,size_setIfInBounds->ng,toList_filterMap->nE,replicate->lD,size_eq_one_iff->nO,forIn_toList->oo,size_map->pP,toList->qc,map->qE
open PySem.W renaming Frag->au,kia_one->cN,emptyDict->dJ,findIn->cP,kas_descPart->fD,kitOne->c8,instObj->eJ,kas_count->eL,keepIn->dS,kas_asc->dt,kas_rev->dW,kas_tail3->gb,kas_place->ie,kas_sort->gh,fnOf->eO,codeIn->ig,OpenLaw->ik,kas_desc->il,plainGet_of->lK,callWith_K0->lL,plainGet->jY,callWith_K->lY,cellsFrom_some->oT,methodObj->l3,hasDictIn->l4,kitx_list->l5,kitx_dict->l6,methodCall_KW->o5,lookIn->j7,looks_findIn->pB,makes_of->mr,takerIn->mw,makesIn->mx,kitx_tuple->qd,nsIn->jb,mg_of->j8,plainOver->qm,make_core->qo,specialIn->qp,isFn->j9
open PySem.SetTable renaming below->bz,turns->bV,insertAt->cJ,runEnd->cx,Probe->c7,bits->cX,advance->gS,fits->gZ,grown->iR,insertAt_perm->ky,fill->lS,sizeAbove->oB,layClean->oP,slot->p6,leap->p9,laid->qb,has->qg
open Prod renaming fst->aO,snd->cp
open Int renaming eq_ofNat_of_zero_le->c6,toNat_natCast->iK,emod_lt_of_pos->kP,emod_nonneg->lE,le_refl->qz
open PySem.SetTable.layClean renaming free->dw
open Option.some renaming inj->cU,injEq->sU
open PySem.Around renaming under_plainId->eC,under->lW
open PySem.Heap.SameBut renaming update->eD
open PyProof.Rows.F renaming plain_set_update_loop->fP,entry_set_update_loop->jw
open PySem.Calls renaming spliced_cons->eF,spliced_nil->fR,callWith_builtin->iB,evalArgs_plain->iE,Name_function_global->mZ,call_function_entry->m6
open Classical renaming byContradiction->gB
open PySem.SetTable.probe renaming go->eG
open PySem.Obj renaming data_mapFields->eW,mapSeq->cB,mapFields->f6,isFreed_of_fields->jA,cls_mapFields->kY,putSet->ml
open PySem.Builtin.List renaming listTooLong->iy,listExtendWith->jm,listLengthHint->jn,listSameRef->jv
open List.Sublist renaming refl->fT,map->sX
open False renaming elim->cZ
open PySem.F renaming slot_dict_get->fm,called_set->fC,slot_NoneType_hash->jD,entry_dict_get->iN,plainAttrs_dict->jG,plainAttrs_list->jJ,plain_list_iadd->jK,args_tuple_add_2->kI,slot_list_append->kK,slot_list_extend->kL,entry_tuple_add->kR,args_dict_get_2->kU,slot_tuple_add->lg,slot_dict_setdefault->nD,type_dict_get->lC,entry_proto_collect->nJ,plain_proto_collect->nL,args_list_extend_2->nQ,sub_list_frozenset->nS,entry_list_extend->oa,plain_extend_loop->oe,type_list_append->ou,args_dict_get_3->oG,entry_list_iadd->oK,slot_list_pop->oZ,plain_set_new->o8,slot_set_iter->pj,sub_list_set->pF
open PyProof.Rows renaming slot_tuple_getitem->jk,StrsAre->jB,AllBare->eM,subscriptTail_builtinR->nu,listUpdate_at->lQ,seqEpoch_at->l9,get?_update_seq->o9,boot_isinstance->pb,entry_list_sort->pd,list_sort_treeK->pf,IntsAre->iY,IsTup->fH,slicePart_none->pC,Subscript_->mh,slot_list_sort->pJ,args_list_sort->pK,sorted_out_str->pM,sortedHeap_old->pN,strKind_oneLt->pY,sortedHeap_at->pZ,lt_str->sP
open PySem.Builtin.Slice renaming slicePlaces->js,sliceAdjust->ku,sliceApplied->m3,slicePartIndex->ra,sliceFields->rG
open Option renaming map_some->fV,getD_none->jL,getD_some->lh,bind_eq_some_iff->ni,map_eq_some_iff->ny,map->qD
open PySem.SetTable.below renaming go->gQ
open PySem.Builtin.Tuple renaming tupleExact->ju,tupleItemsOf->rf
open Ne renaming symm->cD
open LawfulBEq renaming eq_of_beq->eK
open PySem.Shared renaming TypeIs->iU
open Nat.succ renaming inj->iW
open PySem.SeqAt.EqAt renaming str_str->kJ,of_refs->kN,same->lA,none_int->nY,none_str->nZ,int_none->n4,str_none->n8,int_str->oh,str_int->oj,tuple_none->rY,tuple_bool->rZ,tuple_list->r6,list_tuple->r9,none_tuple->sd,bool_tuple->se,none_bool->sh,bool_none->sj,bool_bool->sq,tuple_int->sr,tuple_str->su,list_none->sv,list_bool->sy,none_list->sA,bool_list->sC,int_tuple->sD,str_tuple->sE,bool_int->sF,bool_str->sG,int_bool->sH,str_bool->sI,list_int->sJ,list_str->sL,int_list->sM,str_list->sN,int_int->sR
open PySem.AutoSeq1 renaming wpAny_loadPart'->m8
open List.Perm renaming eq_of_pairwise->m9,refl->lI
open PySem.Str renaming ofString->jT,length->qB
open Sum.inr renaming inj->jW
open PySem.Paired renaming length->lJ,snoc->qr
open PySem.SeqAt renaming EqAt->j3
open PySem.Walks renaming list->j5,dictKeys->pH,tuple->qt
open PySem.Code renaming isFrame->lX,frames->qq
open PySem.Moved renaming trans->l8
open PySem.Builtin.Frozenset renaming updateFrom->rb,newClass->rh,sizeOf->rV,slot0->rX
open PySem.PassesOwn renaming never->pA
open PySem.Txt renaming mul->ja
open PySem.SeqAt.RcNeAt renaming lists_lengths->rg,tuples->sO,lists->sS
open PySem.EqNone renaming eq_none_none->ri,eq_none_bool->rj,eq_bool_none->rl,ne_none_none->rA,ne_none_bool->rB,ne_bool_none->rD,eq_none_int->rH,eq_none_str->rJ,eq_int_none->rK,eq_str_none->rM,ne_none_int->rO,ne_none_str->rP,ne_int_none->rQ,ne_str_none->rS
open PySem.EqMixed renaming eq_bool_str->rp,eq_str_bool->rq,ne_bool_str->rE,ne_str_bool->rF,eq_int_str->rL,eq_str_int->rN,ne_int_str->rR,ne_str_int->rT
open PySem.Value renaming isStrOf->pQ,isInt->ql
open PySem.SeqAt.RcAt renaming lists_lengths->rU,tuples->sV,lists->sW
open PySem.Pv renaming boot_tuple->pX,boot_list->qf,boot_set->qu,boot_int->qv
open PySem.Builtin.Range renaming rangeSize->rW
open PyProof.Rows.IsTup renaming new->my
open PySem.pickOrder renaming go->qh
open List.Pairwise renaming sublist->sf
open Prod.mk renaming inj->qk
open PySem.ItemsOf renaming nil->qw
open PySem.Heap.IsSliceOf renaming new->sQ
open PySem.W.WShape renaming has->qC
open PySem.Within renaming cons->sT
open Iff renaming rfl->mD
open PySem.Heap.DictOf renaming new->sY
open PySem.Value.type renaming inj->sZ
def ah:=@if_pos
def ai:=@if_neg
def aT:=@decide_eq_false
def aY:=@decide_eq_true
def aq:=@absurd
def bK:=@of_decide_eq_true
def bR:=@decide_eq_true_eq
def ba:=@congrArg
abbrev cF:=List (PySem.Addr×PySem.Obj)
abbrev aD:=List PySem.Str
set_option compiler.extract_closed false
set_option hygiene false
local macro_rules
|`(tactic|sleep 1)=>`(tactic|(obtain⟨F,ρ,H0,d,ρ',R,e,k⟩:=hh))
set_option Elab.async false
set_option linter.all false
namespace L5
open PySem PySem.W
noncomputable def pick(l:List Obj):Nat->List Addr->List Obj:=
 @qF Obj (λ_=>Nat->List Addr->List Obj) (λ_ _=>[])
  (λo _ ih i as=>@qF Addr (λ_=>List Obj) [] (λa r _=>@mB (λ_=>List Obj) (ih (Nat.succ i) as) (o::ih (Nat.succ i) r) (iX a i)) as) l
theorem Oe(i:Nat)(as:List Addr):pick [] i as=[]:=rfl
theorem Ru(o:Obj)(l:List Obj)(i:Nat)(r:List Addr):pick (o::l) i (i::r)=o::pick l (i+1) r:=by show @mB (λ_=>List Obj) _ _ (iX i i)=_;rw[Nat.beq_refl];rfl
theorem Rv(o:Obj)(l:List Obj)(i a:Nat)(r:List Addr)(h:a≠i):pick (o::l) i (a::r)=pick l (i+1) (a::r):=by
 show @mB (λ_=>List Obj) _ _ (iX a i)=_;have:iX a i=false:=by
  cases q:iX a i with
  |false=>rfl
  |true=>exact aq (Nat.eq_of_beq_eq_true q) h
 rw[this];rfl
theorem Hy:∀(l:List Obj) (i:Nat) (as:List Addr),(pick l i as).length=as.length->∀j (hj:j<as.length),∃b,as[j]=i+b/\l[b]?=(pick l i as)[j]?
 |[],i,as,h,j,hj=>by rw[Oe]at h;simp at h;omega
 |o::l,i,[],h,j,hj=>by simp at hj
 |o::l,i,a::r,h,j,hj=>by
  by_cases q:a=i
  ·subst q;rw[Ru]at h ⊢;cases j with
   |zero=>exact⟨0,rfl,rfl⟩
   |succ j=>obtain⟨b,e1,e2⟩:=Hy l (a+1) r (by simpa using h) j (by simpa using hj);exact⟨b+1,by rw[List.getElem_cons_succ,e1];exact og a 1 b,by simpa using e2⟩
  ·rw[Rv _ _ _ _ _ q]at h ⊢;obtain⟨b,e1,e2⟩:=Hy l (i+1) (a::r) h j hj;exact⟨b+1,by rw[e1];exact og i 1 b,by simpa using e2⟩
def live(o:Obj):Bool:=match o with|⟨_,_,.freed,_⟩=>false|_=>true
theorem Rx{h:Heap}{as:List Addr}{K:Frag}(e:as=K.map (·.1))(x:(pick h.objs.toList 0 as,K.all λp=>live p.2)=(K.map (·.2),true)):K.In h:=by
 obtain⟨x1,x2⟩:=qk x;refine Frag.in_of e (kQ λj=>?_);rw[bc,bc];by_cases hj:j<as.length
 ·have hl:(pick h.objs.toList 0 as).length=as.length:=by rw[x1,e,af,af]
  obtain⟨b,e1,e2⟩:=Hy _ _ _ hl j hj;have hk:j<K.length:=by rw[e,af]at hj;exact hj
  rw[aJ hj,aJ hk,fV,fV,e1,jS];have e3:h.objs[b]?=some (K[j].2):=by rw[<-bT,e2,x1,bc,aJ hk];rfl
  have lv:live K[j].2=true:=bH.mp x2 _ (cv hk);refine ba some ?_;unfold Heap.get?;rw[e3];revert lv;cases K[j].2 with
  |mk c d data sl=>cases data<;>intro lv<;>first|rfl|cases lv
 ·rw[gG (by omega),gG (by rw[e,af]at hj;omega)];rfl
noncomputable def Zd(K:Params->Frag) (as:List Addr) (e:∀P,as=(K P).map (·.1)):Hook:=
 ⟨List Obj×Bool,λs=>(pick s.heap.objs.toList 0 as,true),λw=>((K w.params).map (·.2),(K w.params).all λp=>live p.2),InK K,λw s x=>Rx (e w.params) (by
  obtain⟨x1,x2⟩:=qk x;rw[x1,<- x2]),InK.keeps⟩
end L5
section
open PySem PySem.W PyProof.Rows
local macro_rules|`(tactic|o_head ($f:ident $k $as $e))=>`(tactic|o_head ((L5.Zd $k $as (fun _=>by kernel_rfl)):W.Hook))
local macro_rules|`(command|#where)=>do
 let mut r:=#[]
 for n in [43:1668] do
  let x:=Lean.mkIdent (.mkSimple s!"tw{((Lean.Name.mkSimple "hd").str s!"o_{n}").hash}")
  r:=r.push ((<-`(command|noncomputable def $x:ident:=0)).raw.rewriteBottomUp (·.setInfo .none))
 return Lean.mkNullNode r
noncomputable section
namespace PySem.W.Fast
def tw2600740394327781776:=0
def tw15645314262156773920:=0
def tw1484588488312774368:=0
def tw12586362259594132256:=0
def tw13526460043068840065:=0
def tw11233446548474340610:=0
def tw5458712214775249156:=0
def tw11521511281804667912:=0
def tw4300812332820702760:=0
def tw3389473377782568169:=0
def tw10374632558016547081:=0
def tw6845413283916081801:=0
def tw7272719576512703147:=0
def tw229164427083005643:=0
def tw938635154573522699:=0
def tw13574988865276030828:=0
def tw896759672687853582:=0
def tw1724660966934998414:=0
def tw7774113678449685934:=0
def tw5132085371591433678:=0
def tw13587151598080963022:=0
def tw1886142198274157871:=0
def tw16106669385760773807:=0
def tw12699963426965287919:=0
def tw4100192588162587217:=0
def tw4078783641558376337:=0
def tw10308165456541681715:=0
def tw861502493610598483:=0
def tw7155359931933253843:=0
def tw6344153461787385748:=0
def tw9300808954929066293:=0
def tw7337066408098693048:=0
def tw16280658162054754363:=0
def tw4142209100229140859:=0
def tw4588070733173009051:=0
def tw5232775305885696284:=0
def tw13865323600775035743:=0
def tw16602310380114960990:=0
def tw8544431338006437568:=0
def tw9734416207546636432:=0
def tw3969514255100728701:=0
def tw18256421414242976788:=0
def tw4584905955269743709:=0
def tw2464672796975438680:=0
def tw6301379705274258863:=0
def tw10833825939047706337:=0
def tw8997383693586321770:=0
def tw6784737039638806343:=0
def tw3949971610113810013:=0
def tw16629204123399850450:=0
def tw1158899655746804322:=0
#where
end PySem.W.Fast
end
set_option maxRecDepth 100000 in
set_option maxHeartbeats 0 in
open_top hd for PySem.Challenge.rw_tellworld_k23_reads_of_tests
end
set_option maxRecDepth 100000
namespace L2
open PySem PySem.Spec PyProof.Rows
abbrev Key:=Sum Int Str
def EH:Key->aa->Bool
 |.inl k,v=>ql k v
 |.inr x,v=>pQ x v
def Ze(w:aA):Key->Int
 |.inl k=>hashInt k
 |.inr x=>hashStr w x
theorem uK:∀{k:Key} {v:aa},EH k v=true->(∃i t,k=Sum.inl i/\v=Value.int i t)\/(∃x t,k=Sum.inr x/\v=Value.str x t)
 |.inl i,v,h=>by obtain⟨t,e⟩:=Value.isInt_shape (k:=i) (v:=v) h;exact .inl ⟨i,t,rfl,e⟩
 |.inr x,v,h=>by obtain⟨t,e⟩:=Value.isStrOf_shape (x:=x) (v:=v) h;exact .inr ⟨x,t,rfl,e⟩
theorem MX(i:Int)(t:Tok):EH (.inl i) (.int i t)=true:=by simp[EH,ql]
theorem MY(x:Str)(t:Tok):EH (.inr x) (.str x t)=true:=by simp[EH,pQ]
theorem Ve(a b:Int):decide ((Sum.inl a:Key)=Sum.inl b)=(a==b):=by
 by_cases e:a=b
 ·subst e;simp
 ·have h:¬(Sum.inl a:Key)=Sum.inl b:=λq=>e (Sum.inl.inj q);rw[aT h];exact(beq_eq_false_iff_ne.mpr e).symm
theorem Vf(a b:Str):decide ((Sum.inr a:Key)=Sum.inr b)=decide (a=b):=by
 by_cases e:a=b
 ·subst e;simp
 ·have h:¬(Sum.inr a:Key)=Sum.inr b:=λq=>e (jW q);rw[aT h,aT e]
theorem Vg(a:Int)(b:Str):decide ((Sum.inl a:Key)=Sum.inr b)=false:=aT (λq=>nomatch q)
theorem Vh(a:Str)(b:Int):decide ((Sum.inr a:Key)=Sum.inl b)=false:=aT (λq=>nomatch q)
def tU(prog:aH)(w:aA):pR prog w Key where
 is:=EH
 hash:=Ze w
 inj:=λv a b ha hb=>by
  rcases uK ha with ⟨i,t,rfl,rfl⟩|⟨x,t,rfl,rfl⟩
  ·rcases uK hb with ⟨j,u,rfl,e⟩|⟨y,u,rfl,e⟩
   ·injection e with e1 _;rw[e1]
   ·exact nomatch e
  ·rcases uK hb with ⟨j,u,rfl,e⟩|⟨y,u,rfl,e⟩
   ·exact nomatch e
   ·injection e with e1 _;rw[e1]
 byValue:=λk v h=>by rcases uK h with ⟨i,t,rfl,rfl⟩|⟨x,t,rfl,rfl⟩<;>rfl
 pyHash:=λhv h=>by
  rcases uK hv with ⟨i,t,rfl,rfl⟩|⟨x,t,rfl,rfl⟩
  ·exact wpAny_pyHash_int h
  ·exact wpAny_pyHash_str h
 eqBool:=λhu hv h=>by
  rcases uK hu with ⟨i,t,rfl,rfl⟩|⟨x,t,rfl,rfl⟩
  ·rcases uK hv with ⟨j,u,rfl,rfl⟩|⟨y,u,rfl,rfl⟩
   ·rw[Ve]at h;exact wpAny_eqBool_int h
   ·rw[Vg]at h;exact oh i t y u _ _ _ _ h
  ·rcases uK hv with ⟨j,u,rfl,rfl⟩|⟨y,u,rfl,rfl⟩
   ·rw[Vh]at h;exact oj x t j u _ _ _ _ h
   ·rw[Vf]at h;exact wpAny_eqBool_str h
 «strs»:=λk x t v h=>by
  rcases uK h with ⟨i,u,rfl,e⟩|⟨y,u,rfl,e⟩
  ·exact nomatch e
  ·injection e with e1 _;subst e1;cases v<;>rfl
theorem IY(prog:aH)(w:aA)(i:Int)(t:Tok):(tU prog w).is (.inl i) (.int i t)=true:=MX i t
theorem IZ(prog:aH)(w:aA)(x:Str)(t:Tok):(tU prog w).is (.inr x) (.str x t)=true:=MY x t
inductive V where
 |non|bl (b:Bool)|int (i:Int)|str (x:Str)|byt (b:Array UInt8)|flt (b:UInt64)|ref (a:Addr)|ty (n:String)
 deriving DecidableEq
abbrev bG:=List V
def RelV:V->aa->Prop
 |.non,u=>u=Value.none
 |.bl b,u=>u=Value.bool b
 |.int i,u=>∃t,u=Value.int i t
 |.str x,u=>∃t,u=Value.str x t
 |.byt b,u=>∃t,u=Value.bytes b t
 |.flt b,u=>∃t,u=Value.float b t
 |.ref a,u=>u=Value.ref a
 |.ty n,u=>u=Value.type n
abbrev Vals:bG->List aa->Prop:=gd RelV
theorem Vals.length(r:Vals xs us):xs.length=us.length:=lJ r
theorem Vals.get:∀{xs:bG} {us:List aa} {i:Nat} {x:V},Vals xs us->xs[i]?=some x->∃u,us[i]?=some u/\RelV x u
 |_,_,_,_,.nil,e=>by simp at e
 |_,_,0,_,.cons r _,e=>by simp at e;subst e;exact⟨_,rfl,r⟩
 |_,_,i+1,x,.cons _ t,e=>by obtain⟨u,h1,h2⟩:=Vals.get (i:=i) (x:=x) t (by simpa using e);exact⟨u,by simpa using h1,h2⟩
theorem Vals.set(r:RelV x u):∀{xs:bG} {us:List aa} (i:Nat),Vals xs us->Vals (xs.set i x) (us.set i u)
 |_,_,_,.nil=>.nil
 |_,_,0,.cons _ t=>.cons r t
 |_,_,i+1,.cons q t=>.cons q (Vals.set r i t)
theorem Vals.append:∀{xs ys:bG} {us ws:List aa},Vals xs us->Vals ys ws->Vals (xs++ys) (us++ws)
 |_,_,_,_,.nil,s=>s
 |_,_,_,_,.cons r t,s=>.cons r (Vals.append t s)
theorem Vals.take:∀{xs:bG} {us:List aa} (n:Nat),Vals xs us->Vals (xs.take n) (us.take n)
 |_,_,0,_=>.nil
 |_,_,_+1,.nil=>.nil
 |_,_,n+1,.cons r t=>.cons r (Vals.take n t)
theorem Vals.drop:∀{xs:bG} {us:List aa} (n:Nat),Vals xs us->Vals (xs.drop n) (us.drop n)
 |_,_,0,r=>r
 |_,_,_+1,.nil=>.nil
 |_,_,n+1,.cons _ t=>Vals.drop n t
def As:Option V->Option aa->Prop
 |some v,some u=>RelV v u
 |none,none=>True
 |_,_=>False
def KV{κ:Type}:List (κ×V)->List (κ×aa)->Prop:=gd λ(p:κ×V) (q:κ×aa)=>p.1=q.1/\RelV p.2 q.2
def kV:Key->V
 |.inl i=>.int i
 |.inr x=>.str x
inductive HO where
 |lst (xs:bG)
 |tup (xs:bG)
 |dK (kvs:List (Key×V))|dT (kvs:List (List Key×V))
 |set (S:Int->Bool) (n:Nat)
 |ins (C dx:Addr) (fs:List (Str×V))
 |own (x:Addr)
 |xd (fs:List (Str×V))
 |met (f x:Addr)
 |rng (lo hi:Int)
 |frz (o:Obj) (u:HO)
 |tbl (ps:Array aa)
 |ext (φ:Heap->Prop)
abbrev Hp:=Addr->Option HO
def upd(H:Hp)(a:Addr)(o:HO):Hp:=λb=>if b=a then some o else H b
theorem tP:upd H a o a=some o:=by unfold upd;rw[ah rfl]
theorem tR(h:b≠a):upd H a o b=H b:=by unfold upd;rw[ai h]
theorem Zf{H:Hp}{a b:Addr}{o u:HO}(h:H a=some o)(h':H b=some u)(d:o≠u):a≠b:=by intro e;subst e;rw[h]at h';exact d (cU h')
theorem v3{H:Hp}{a b:Addr}{o:HO}(h:H a=some o)(h':H b=none):a≠b:=by intro e;subst e;rw[h]at h';cases h'
section
variable(P:aH)(w:aA)
def uQ(H:Hp)(h:Heap)(a:Addr):HO->Prop
 |.lst xs=>xs.length<=aG/\∃(its:List aa) (n:Nat),Vals xs its/\h.get? a=some { cls:=.type "list", data:=.seq its.toArray n }
 |.tup xs=>xs.length<=aG/\∃its:List aa,Vals xs its/\fH h a its.toArray
 |.dK kvs=>kvs.length<=aG/\(a==cY)=false/\∃vs,KV kvs vs/\h.DictOf (tU P w) a vs
 |.dT kvs=>kvs.length<=aG/\(a==cY)=false/\∃xs:List (List Key×Addr×aa),
   gd (λ(p:List Key×V) (q:List Key×Addr×aa)=>p.1=q.1/\H q.2.1=some (.tup (p.1.map kV))/\RelV p.2 q.2.2) kvs xs/\
   ∃o es ep,h.get? a=some o/\o.ExactDict/\o.data=.dict es ep/\es.toList=xs.map (entryOfKey (tupleKind (tU P w)))/\(xs.map (·.1)).Nodup
 |.set S n=>h.SetOf (intKind P w) a S n
 |.ins C dx fs=>H dx=some (.own a)/\fs.length<=1000/\dx≠a/\h.get? a=some (eJ C dx)/\
   ∃mA,h.Ns1 dx mA/\(∀f,As (fs.lookup f) (mA f))/\lU mA (fs.map (·.1))
 |.own _=>∃o,h.get? a=some o
 |.xd fs=>∃mA,h.Ns1 a mA/\∀f,As (fs.lookup f) (mA f)
 |.rng lo hi=>∃t u v,h.get? a=some { cls:=.type "range", data:=.fields #[.int lo t,.int hi u,.int 1 v] }
 |.frz o u=>h.get? a=some o/\uQ H h a u
 |.tbl ps=>h.get? a=some { cls:=.none,data:=.fields ps }
 |.met f x=>h.get? a=some (l3 (.ref f) (.ref x))
 |.ext φ=>φ h/\(∃o,h.get? a=some o)/\∀h1 h2:Heap,φ h1->(∀o,h1.get? a=some o->h2.get? a=some o)->φ h2
def HOk(H:Hp)(h:Heap):Prop:=∀a o,H a=some o->uQ P w H h a o
end
section
variable{P:aH}{w:aA}{H H':Hp}{h h':Heap}{a:Addr}{o:HO}
theorem uQ.lt(x:uQ P w H h a o):a<h.objs.size:=by
 cases o with
 |lst xs=>obtain⟨_,_,_,_,e⟩:=x;exact aK e
 |tup xs=>obtain⟨_,_,_,p⟩:=x;exact p.lt
 |dK kvs=>obtain⟨_,_,_,_,o,_,_,e,_⟩:=x;exact aK e
 |dT kvs=>obtain⟨_,_,_,_,o,_,_,e,_⟩:=x;exact aK e
 |set S n=>obtain⟨o,_,_,_,e,_⟩:=x;exact aK e
 |ins C dx fs=>obtain⟨_,_,_,e,_⟩:=x;exact aK e
 |own y=>obtain⟨_,e⟩:=x;exact aK e
 |xd fs=>obtain⟨_,⟨_,_,_,e,_⟩,_⟩:=x;exact aK e
 |rng lo hi=>obtain⟨_,_,_,e⟩:=x;exact aK e
 |frz ob u=>obtain⟨e,_⟩:=x;exact aK e
 |tbl ps=>exact aK (show h.get? a=some _ from x)
 |met f y=>exact aK (show h.get? a=some _ from x)
 |ext φ=>obtain⟨_,⟨_,e⟩,_⟩:=x;exact aK e
theorem Paired.mapP{α β:Type}{F G:α->β->Prop}:∀{l₁:List α} {l₂:List β},gd F l₁ l₂->(∀a b,F a b->G a b)->gd G l₁ l₂
 |_,_,.nil,_=>.nil
 |_,_,.cons r t,f=>.cons (f _ _ r) (Paired.mapP t f)
theorem uQ.stay(x:uQ P w H h a o)(k:∀b u,(b=a\/H b=some (.own a))->h.get? b=some u->h'.get? b=some u)
  (ho:∀b,H b=some (.own a)->H' b=some (.own a)) (ht:∀b xs,H b=some (.tup xs)->H' b=some (.tup xs)):uQ P w H' h' a o:=by
 induction o with
 |lst xs=>obtain⟨z,its,n,r,e⟩:=x;exact⟨z,its,n,r,k _ _ (.inl rfl) e⟩
 |tup xs=>obtain⟨z,its,r,ob,e,c⟩:=x;exact⟨z,its,r,ob,k _ _ (.inl rfl) e,c⟩
 |dK kvs=>obtain⟨z,y,vs,r,ob,es,ep,e,c⟩:=x;exact⟨z,y,vs,r,ob,es,ep,k _ _ (.inl rfl) e,c⟩
 |dT kvs=>obtain⟨z,y,xs,r,ob,es,ep,e,c⟩:=x;exact⟨z,y,xs,Paired.mapP r λp q z=>⟨z.1,ht _ _ z.2.1,z.2.2⟩,ob,es,ep,k _ _ (.inl rfl) e,c⟩
 |set S n=>obtain⟨ob,es,ep,t,e,c⟩:=x;exact⟨ob,es,ep,t,k _ _ (.inl rfl) e,c⟩
 |ins C dx fs=>obtain⟨d,z,ne,e,mA,⟨od,es,ep,e2,c⟩,r⟩:=x;exact⟨ho _ d,z,ne,k _ _ (.inl rfl) e,mA,⟨od,es,ep,k _ _ (.inr d) e2,c⟩,r⟩
 |own y=>obtain⟨ob,e⟩:=x;exact⟨ob,k _ _ (.inl rfl) e⟩
 |xd fs=>obtain⟨mA,⟨od,es,ep,e,c⟩,r⟩:=x;exact⟨mA,⟨od,es,ep,k _ _ (.inl rfl) e,c⟩,r⟩
 |rng lo hi=>obtain⟨t,u,v,e⟩:=x;exact⟨t,u,v,k _ _ (.inl rfl) e⟩
 |frz ob u ih=>obtain⟨e,q⟩:=x;exact⟨k _ _ (.inl rfl) e,ih q⟩
 |tbl ps=>have e:h.get? a=some { cls:=.none,data:=.fields ps }:=x;show h'.get? a=some { cls:=.none,data:=.fields ps };exact k a _ (.inl rfl) e
 |met f y=>have e:h.get? a=some (l3 (.ref f) (.ref y)):=x;show h'.get? a=some (l3 (.ref f) (.ref y));exact k a _ (.inl rfl) e
 |ext φ=>obtain⟨p,⟨o,e⟩,st⟩:=x;exact⟨st _ _ p λo q=>k _ _ (.inl rfl) q,⟨o,k _ _ (.inl rfl) e⟩,st⟩
theorem HOk.lt(x:HOk P w H h)(e:H a=some o):a<h.objs.size:=(x a o e).lt
theorem HOk.fresh(x:HOk P w H h)(e:h.objs.size<=a):H a=none:=by
 cases q:H a with
 |none=>rfl
 |some u=>exact aq (b0 (x.lt q) e) (dE _)
theorem HOk.kept(x:HOk P w H h)(k:∀b u,h.get? b=some u->h'.get? b=some u):HOk P w H h':=λa o e=>
 (x a o e).stay (λb u _ q=>k b u q) (λ_ q=>q) λ_ _ q=>q
theorem HOk.laid(x:HOk P w H h)(k:∀b u,h.get? b=some u->h'.get? b=some u)(hp:h.objs.size<=a)(new:uQ P w (upd H a o) h' a o):HOk P w (upd H a o) h':=λb u e=>by
 have hn:=x.fresh hp;by_cases hb:b=a
 ·subst hb;rw[tP]at e;cases e;exact new
 ·rw[tR hb]at e;exact(x b u e).stay (λc v _ q=>k c v q) (λc q=>by rw[tR (v3 q hn)];exact q) λc xs q=>by rw[tR (v3 q hn)];exact q
end
def Rd(H:Hp)(a:Addr)(u:HO):Prop:=H a=some u\/∃o,H a=some (.frz o u)
theorem Rd.ok(r:Rd H a u)(x:HOk P w H h):uQ P w H h a u:=by
 rcases r with r|⟨o,r⟩
 ·exact x a u r
 ·obtain⟨_,q⟩:=x a _ r;exact q
def Mut:Option HO->Prop
 |some (.lst _)=>True
 |some (.dK _)=>True
 |some (.dT _)=>True
 |some (.set _ _)=>True
 |some (.ins _ _ _)=>True
 |some (.ext _)=>True
 |_=>False
section
variable{P:aH}{w:aA}{H:Hp}{h h':Heap}{x e:Addr}{o':HO}
theorem HOk.write(ok:HOk P w H h)(mu:Mut (H x))(he:e=x\/H e=some (.own x))(k:∀b u,b≠e->h.get? b=some u->h'.get? b=some u)(heo:∃u,h'.get? e=some u)
  (new:uQ P w (upd H x o') h' x o'):HOk P w (upd H x o') h':=λb u q=>by
 have nown:∀c y,H c=some (.own y)->c≠x:=λc y r z=>by subst z;rw[r]at mu;exact mu
 have ntup:∀c xs,H c=some (.tup xs)->c≠x:=λc xs r z=>by subst z;rw[r]at mu;exact mu
 by_cases hb:b=x
 ·subst hb;rw[tP]at q;cases q;exact new
 ·rw[tR hb]at q;by_cases hbe:b=e
  ·have q':H b=some (.own x):=by
    rcases he with z|z
    ·exact aq (hbe.trans z) hb
    ·rw[hbe];exact z
   rw[q]at q';cases q';obtain⟨v,hv⟩:=heo;exact⟨v,by rw[hbe];exact hv⟩
  ·refine(ok b u q).stay (λc v hc r=>k c v ?_ r) (λc r=>by rw[tR (nown c b r)];exact r) λc xs r=>by rw[tR (ntup c xs r)];exact r
   rcases hc with rfl|hc
   ·exact hbe
   ·rintro rfl;rcases he with z|z
    ·exact nown c b hc z
    ·rw[hc]at z;cases z;exact hb rfl
end
structure Un(fs ex:List Addr)(H H':Hp)(h h':Heap):Prop where
 keep:∀b o,h.get? b=some o->H b=none->b∉fs->b∉ex->h'.get? b=some o
 slot:∀b o,h.get? b=some o->H b=none->b∈fs->b∉ex->∃sl,h'.get? b=some { o with slots:=sl }
 free:∀b o,h.get? b=some o->H b=none->b∉ex->H' b=none
 there:∀b o,h.get? b=some o->b∉ex->∃o',h'.get? b=some o'
 tups:∀b xs,H b=some (.tup xs)->H' b=some (.tup xs)
 frzs:∀b o u,H b=some (.frz o u)->H' b=some (.frz o u)
 tbls:∀b ps,H b=some (.tbl ps)->∃more,H' b=some (.tbl (ps++more))
section
variable{fs fs' ex ex':List Addr}{H H1 H2:Hp}{h h1 h2 h':Heap}{a x e:Addr}{o:HO}
theorem Un.any(u:Un fs ex H H1 h h1)(q:h.get? b=some ob)(n:H b=none)(hx:b∉ex):∃sl,h1.get? b=some { ob with slots:=sl }:=by
 by_cases hb:b∈fs
 ·exact u.slot b ob q n hb hx
 ·exact⟨ob.slots,u.keep b ob q n hb hx⟩
theorem Un.kept(k:∀b u,h.get? b=some u->h'.get? b=some u):Un fs ex H H h h':=
 ⟨λb ob q _ _ _=>k b ob q,λb ob q _ _ _=>⟨ob.slots,k b ob q⟩,λ_ _ _ n _=>n,λb ob q _=>⟨ob,k b ob q⟩,λ_ _ q=>q,λ_ _ _ q=>q,λ_ ps q=>⟨#[],by rw[q];simp⟩⟩
theorem Un.refl:Un fs ex H H h h:=Un.kept λ_ _ q=>q
theorem Un.laid(k:∀b u,h.get? b=some u->h'.get? b=some u)(hp:h.objs.size<=a)(hn:H a=none):Un fs ex H (upd H a o) h h' where
 keep:=λb u q _ _ _=>k b u q
 slot:=λb u q _ _ _=>⟨u.slots,k b u q⟩
 free:=λb u q n _=>by rw[tR (aR (b0 (aK q) hp))];exact n
 there:=λb u q _=>⟨u,k b u q⟩
 tups:=λb xs q=>by rw[tR (v3 q hn)];exact q
 frzs:=λb u xs q=>by rw[tR (v3 q hn)];exact q
 tbls:=λb ps q=>⟨#[],by rw[tR (v3 q hn),q];simp⟩
theorem Un.write(mu:Mut (H x))(he:e=x\/H e=some (.own x))(k:∀b u,b≠e->h.get? b=some u->h'.get? b=some u)(heo:∃u,h'.get? e=some u):Un fs ex H (upd H x o) h h':=by
 have hx:∀b,H b=none->b≠x:=λb n z=>by subst z;rw[n]at mu;exact mu
 have hb:∀b,H b=none->b≠e:=λb n z=>by
  subst z;rcases he with r|r
  ·exact hx b n r
  ·rw[n]at r;cases r
 have hm:∀b u,H b=some u->¬Mut (some u)->b≠x:=λb u q nm z=>by subst z;rw[q]at mu;exact nm mu
 refine⟨λb u q n _ _=>k b u (hb b n) q,λb u q n _ _=>⟨u.slots,k b u (hb b n) q⟩,λb u q n _=>by rw[tR (hx b n)];exact n,λb u q _=>?_,
  λb xs q=>by rw[tR (hm b _ q λz=>z)];exact q,λb u xs q=>by rw[tR (hm b _ q λz=>z)];exact q,λb ps q=>⟨#[],by rw[tR (hm b _ q λz=>z),q];simp⟩⟩
 by_cases hbe:b=e
 ·subst hbe;exact heo
 ·exact⟨u,k b u hbe q⟩
end
def trk(h:Heap)(H:Hp):List Addr:=(aQ h.objs.size).filter λa=>(H a).isSome
def Hz(h:Heap)(H:Hp):Heap:=W.hideAll h (trk h H)
theorem MZ(h:Heap)(H:Hp):(Hz h H).objs.size=h.objs.size:=W.hideAll_size _ _
theorem Of{h:Heap}(e:h.get? b=some o)(n:H b=none):(Hz h H).get? b=some o:=
 W.hideAll_get _ e λhm=>by have q:(H b).isSome=true:=(bL.mp hm).2;rw[n]at q;simp at q
theorem Ry(e:(Hz h H).get? b=some o):h.get? b=some o/\H b=none:=by
 have e':h.get? b=some o:=W.of_hideAll (trk h H) e;refine⟨e',?_⟩;cases q:H b with
 |none=>rfl
 |some x=>have hm:b∈trk h H:=bL.mpr ⟨bI.mpr (aK e'),by simp[q]⟩;have z:(Hz h H).get? b=none:=W.hideAll_none (trk h H) hm;rw[z]at e;cases e
def RA(g h:Heap)(L:Addr):cF:=(aQ h.objs.size).filterMap λa=>if a=L\/(g.get? a).isSome=true then none else (h.get? a).map λo=>(a,o)
def rest(g h:Heap)(L d:Addr):cF:=(RA g h L).filter λp=>decide (p.1≠d)
structure Mod(K:au)(mg:Str->Option aa)(base:Heap):Prop where
 kin:K.In base
 glob:base.Ns aW mg
 blt:∃mb,base.Ns builtinsNs mb/\∀x:Str,x≠"__name__" -> mb x=dF x
 nolimit:base.NoLimit
structure Cx where
 prog:aH
 w:aA
 K:au
 mg:Str->Option aa
 base:Heap
 A:aI
 N:aD
 s₀:ae
 H₀:Hp
 env:Env
 outer:List Env
 stack:List Env
 ex:List Addr
 fn:Str->Bool
 calm:Bool
 pn:cF
 xe:aa->ae->Prop
def frs(l:List Env):List Addr:=l.filterMap (·.frame)
abbrev Cx.fs(X:Cx):List Addr:=frs X.outer
def Vis(sc:c4)(x:Str):Prop:=sc.names.lookup x=some .local\/sc.names.lookup x=some .cell\/sc.names.lookup x=some .free
def Loc(sc:c4)(x:Str):Prop:=sc.names.lookup x=some .local\/sc.names.lookup x=some .cell
def Look(env:Env)(h:Heap)(m:Str->Option aa)(x:Str)(u:aa):Prop:=
 (env.kindOf x=some .local/\m x=some u)\/((env.kindOf x=some .cell\/env.kindOf x=some .free)/\∃c,env.cells.lookup x=some c/\h.IsCell c (some u))
structure Cx.Ok(X:Cx):Prop where
 mod:Mod X.K X.mg X.base
 kind:X.env.scope.kind=.function
 glob:X.env.globals=aW
 blt:X.env.builtins=builtinsNs
 above:X.s₀.heap.objs.size<=X.env.locals
 inj:∀x y c,X.env.cells.lookup x=some c->X.env.cells.lookup y=some c->x=y
 has:∀x,(X.env.kindOf x=some .cell\/X.env.kindOf x=some .free)->∃c,X.env.cells.lookup x=some c
 cab:∀x c,X.fn x=true->X.env.cells.lookup x=some c->X.s₀.heap.objs.size<=c
 hd:X.calm=true->X.A.handled=none
 frames:X.A.frames=some X.stack
 stk:X.stack=X.outer\/(X.stack=X.env::X.outer/\X.env.frame=some X.env.locals)
 exf:∀b∈X.ex,b≠X.env.locals/\∀x c,X.env.cells.lookup x=some c->c≠b
 bs:∀b o,X.base.get? b=some o->X.s₀.heap.get? b=some o/\X.H₀ b=none
 bsz:X.base.objs.size<=X.s₀.heap.objs.size
 noex:∀b o,X.base.get? b=some o->b∉X.ex
 exfs:∀b∈X.ex,b∉X.fs
 funs:X.s₀.heap.FunFrames X.base X.outer
 frf:∀b∈X.fs,X.H₀ b=none
structure Inv(X:Cx)(wv:cF)(σ:List (Option V))(H:Hp)(s:ae):Prop where
 ok:X.Ok
 os:s.os=X.s₀.os
 bare:eM s.gens
 base:Un X.fs X.ex X.H₀ H X.s₀.heap s.heap
 loc:∃m,s.heap.Ns X.env.locals m/\∀(i:Nat) (x:Str) (v:V),X.N[i]?=some x->σ[i]?=some (some v)->Vis X.env.scope x->∃u,RelV v u/\Look X.env s.heap m x u
 cell:∀x c,X.env.cells.lookup x=some c->∃v,s.heap.IsCell c v
 free:H X.env.locals=none
 freeC:∀x c,X.env.cells.lookup x=some c->H c=none
 pin:∀p∈X.pn++wv,s.heap.get? p.1=some p.2/\H p.1=none/\p.1≠X.env.locals/\p.1∉X.fs/\∀v,p.2.data≠.cell v
 hok:HOk X.prog X.w H s.heap
 len:σ.length=X.N.length
section
variable{X:Cx}{wv:cF}{σ:List (Option V)}{H H':Hp}{s:ae}{h':Heap}
theorem Cx.Ok.nofr(ok:X.Ok)(e:X.base.get? b=some o):b∉X.fs:=λhb=>by have:=(ok.funs.mem hb).1;rw[e]at this;cases this
theorem Inv.bs(I:Inv X wv σ H s):∀b o,X.base.get? b=some o->s.heap.get? b=some o/\H b=none:=λb o e=>
 ⟨I.base.keep b o (I.ok.bs b o e).1 (I.ok.bs b o e).2 (I.ok.nofr e) (I.ok.noex b o e),I.base.free b o (I.ok.bs b o e).1 (I.ok.bs b o e).2 (I.ok.noex b o e)⟩
theorem Inv.bk(I:Inv X wv σ H s):∀b o,X.base.get? b=some o->s.heap.get? b=some o:=λb o e=>(I.bs b o e).1
theorem Inv.mod(I:Inv X wv σ H s):Mod X.K X.mg X.base:=I.ok.mod
theorem Inv.kIn(I:Inv X wv σ H s):X.K.In s.heap:=I.ok.mod.kin.keeps I.bk
theorem Inv.fr(I:Inv X wv σ H s):∃m,Fr X.base X.env.locals s.heap m:=
 let ⟨m,hn,_⟩:=I.loc
 ⟨m,hn,I.bk,bM I.ok.bsz I.ok.above⟩
theorem Inv.lt(I:Inv X wv σ H s):X.env.locals<s.heap.objs.size:=let ⟨_,hn,_⟩:=I.loc;hn.lt
theorem Inv.sz(I:Inv X wv σ H s):X.s₀.heap.objs.size<=s.heap.objs.size:=bM I.ok.above (hE I.lt)
theorem Inv.nofs(I:Inv X wv σ H s)(h:s.heap.objs.size<=a):a∉X.fs:=λhb=>by obtain⟨_,o,ho,_⟩:=I.ok.funs.mem hb;exact aq (b0 (aK ho) (bM I.sz h)) (dE _)
theorem Inv.cne(I:Inv X wv σ H s):∀x c,X.env.cells.lookup x=some c->c≠X.env.locals:=λx c e z=>by obtain⟨v,o,ho,hd⟩:=I.cell x c e;obtain⟨m,⟨o',es,ep,ho',hd',_⟩,_⟩:=I.loc;rw[z,ho']at ho;cases ho;rw[hd']at hd;cases hd
theorem Inv.funs(I:Inv X wv σ H s):s.heap.FunFrames X.base X.outer:=by
 have all:∀(l:List Env),(∀b∈frs l,b∈X.fs)->X.s₀.heap.FunFrames X.base l->s.heap.FunFrames X.base l:=by
  intro l
  induction l with
  |nil=>intro _ _;trivial
  |cons env r ih=>intro hs hl;obtain⟨hk,⟨L,o,hf,hn,ho,hd⟩,hr⟩:=hl;have hL:L∈X.fs:=hs L (by unfold frs;rw[de,hf];exact bg);obtain⟨sl,e⟩:=I.base.slot L o ho (I.ok.frf L hL) hL λz=>I.ok.exfs L z hL;exact⟨hk,⟨L,_,hf,hn,e,hd⟩,ih (λb hb=>hs b (by unfold frs;rw[de,hf];exact bu _ hb)) hr⟩
 exact all X.outer (λ_ hb=>hb) I.ok.funs
theorem Inv.stack(I:Inv X wv σ H s):s.heap.FunFrames X.base X.stack:=by
 rcases I.ok.stk with e|⟨e,hf⟩
 ·rw[e];exact I.funs
 ·rw[e];obtain⟨m,hn,_⟩:=I.loc;refine .cons (by rw[I.ok.kind];decide) hf hn ?_ I.funs;exact Heap.get?_none_of_le (bM I.ok.bsz I.ok.above)
theorem Inv.stkSub(I:Inv X wv σ H s):∀b∈frs X.stack,b∈X.env.locals::X.fs:=λb hb=>by
 rcases I.ok.stk with e|⟨e,hf⟩
 ·rw[e]at hb;exact bu _ hb
 ·rw[e]at hb;unfold frs at hb;rw[de,hf]at hb;exact hb
theorem Inv.stkFree(I:Inv X wv σ H s):∀b∈frs X.stack,H b=none:=λb hb=>by
 rcases aN.mp (I.stkSub b hb)with e|hb
 ·rw[e];exact I.free
 ·obtain⟨_,o,ho,_⟩:=I.ok.funs.mem hb;exact I.base.free b o ho (I.ok.frf b hb) λz=>I.ok.exfs b z hb
theorem Inv.step{g':Array gf}{t':Nat}{d':Drawn}{ch:List Addr}(I:Inv X wv σ H s)
  (hch:∀b∈ch,(b∈X.ex\/X.s₀.heap.objs.size<=b)/\b≠X.env.locals/\(∀x c,X.env.cells.lookup x=some c->c≠b)/\∀p∈X.pn++wv,p.1≠b)
  (keep:∀b o,b≠X.env.locals->b∉X.fs->b∉ch->s.heap.get? b=some o->H b=none->h'.get? b=some o)
  (slot:∀b o,b≠X.env.locals->b∈X.fs->b∉ch->s.heap.get? b=some o->H b=none->∃sl,h'.get? b=some { o with slots:=sl }) (free:∀b o,b∉ch->s.heap.get? b=some o->H b=none->H' b=none)
  (there:∀b o,b∉ch->s.heap.get? b=some o->∃o',h'.get? b=some o')
  (tups:∀b xs,H b=some (.tup xs)->H' b=some (.tup xs)) (frzs:∀b o u,H b=some (.frz o u)->H' b=some (.frz o u)) (tbls:∀b ps,H b=some (.tbl ps)->∃more,H' b=some (.tbl (ps++more)))
  (ns:∀m,s.heap.Ns X.env.locals m->h'.Ns X.env.locals m) (hok:HOk X.prog X.w H' h') (hg:eM g'):
  Inv X wv σ H' { s with heap:=h',gens:=g',drawn:=d',toks:=t' }:=by
 have neL:∀b o,X.s₀.heap.get? b=some o->b≠X.env.locals:=λb o e=>aR (b0 (aK e) I.ok.above);have neC:∀b o,X.s₀.heap.get? b=some o->b∉X.ex->b∉ch:=λb o e hx hb=>by
  rcases(hch b hb).1 with z|z
  ·exact hx z
  ·exact aq (b0 (aK e) z) (dE _)
 have cellK:∀x c,X.env.cells.lookup x=some c->∀v,s.heap.IsCell c v->h'.IsCell c v:=λx c e v ⟨o,ho,hd⟩=>by
  have nch:c∉ch:=λz=>(hch c z).2.2.1 x c e rfl;by_cases hc:c∈X.fs
  ·obtain⟨sl,q⟩:=slot c o (I.cne x c e) hc nch ho (I.freeC x c e);exact⟨_,q,hd⟩
  ·exact⟨o,keep c o (I.cne x c e) hc nch ho (I.freeC x c e),hd⟩
 refine⟨I.ok,I.os,hg,⟨λb o e n hb hx=>?_,λb o e n hb hx=>?_,λb o e n hx=>?_,λb o e hx=>?_,λb xs e=>tups b xs (I.base.tups b xs e),λb o xs e=>frzs b o xs (I.base.frzs b o xs e),λb ps e=>?_⟩,?_,λx c e=>?_,?_,λx c e=>?_,λp hp=>?_,hok,I.len⟩
 ·exact keep b o (neL b o e) hb (neC b o e hx) (I.base.keep b o e n hb hx) (I.base.free b o e n hx)
 ·obtain⟨sl,e1⟩:=I.base.slot b o e n hb hx;obtain⟨sl',e2⟩:=slot b _ (neL b o e) hb (neC b o e hx) e1 (I.base.free b o e n hx);exact⟨sl',e2⟩
 ·obtain⟨o',e1⟩:=I.base.there b o e hx;exact free b o' (neC b o e hx) e1 (I.base.free b o e n hx)
 ·obtain⟨o',e1⟩:=I.base.there b o e hx;exact there b o' (neC b o e hx) e1
 ·obtain⟨m1,e1⟩:=I.base.tbls b ps e;obtain⟨m2,e2⟩:=tbls b _ e1;exact⟨m1++m2,by rw[e2,Array.append_assoc]⟩
 ·obtain⟨m,hn,hl⟩:=I.loc;refine⟨m,ns m hn,λi x v e1 e2 e3=>?_⟩;obtain⟨u,r,l⟩:=hl i x v e1 e2 e3;refine⟨u,r,?_⟩;rcases l with l|⟨k,c,e,z⟩
  ·exact .inl l
  ·exact .inr ⟨k,c,e,cellK x c e _ z⟩
 ·obtain⟨v,z⟩:=I.cell x c e;exact⟨v,cellK x c e v z⟩
 ·obtain⟨m,⟨o,_,_,ho,_⟩,_⟩:=I.loc;exact free _ o (λz=>(hch _ z).2.1 rfl) ho I.free
 ·obtain⟨v,o,ho,hd⟩:=I.cell x c e;exact free c o (λz=>(hch c z).2.2.1 x c e rfl) ho (I.freeC x c e)
 ·obtain⟨e,n,ne,nf,d⟩:=I.pin p hp;have nch:p.1∉ch:=λz=>(hch p.1 z).2.2.2 p hp rfl;exact⟨keep p.1 p.2 ne nf nch e n,free p.1 p.2 nch e n,ne,nf,d⟩
theorem Inv.un(I:Inv X wv σ H s)(u:Un X.fs [] H H' s.heap h')(hok:HOk X.prog X.w H' h'):Inv X wv σ H' { s with heap:=h',toks:=t' }:=by
 obtain⟨m,⟨o,es,ep,ho,r⟩,_⟩:=id I.loc;obtain⟨sl,hL⟩:=u.any ho I.free (by simp);exact I.step (g':=s.gens) (d':=s.drawn) (ch:=[]) (λ_ z=>nomatch z) (λb o _ hb _ e n=>u.keep b o e n hb (by simp)) (λb o _ hb _ e n=>u.slot b o e n hb (by simp)) (λb o _ e n=>u.free b o e n (by simp)) (λb o _ e=>u.there b o e (by simp)) u.tups u.frzs u.tbls (λm' hm=>by
  obtain⟨o',es',ep',ho',r'⟩:=hm;rw[ho]at ho';cases ho';exact⟨_,es',ep',hL,r'⟩) hok I.bare
theorem Inv.call(I:Inv X wv σ H s)(u:Un (frs X.stack) ch H H' s.heap h')(hok:HOk X.prog X.w H' h')(hg:eM g')
  (hch:∀b∈ch,(b∈X.ex\/X.s₀.heap.objs.size<=b)/\b≠X.env.locals/\(∀x c,X.env.cells.lookup x=some c->c≠b)/\∀p∈X.pn++wv,p.1≠b):
  Inv X wv σ H' { s with heap:=h',gens:=g',drawn:=d',toks:=t' }:=by
 obtain⟨m,⟨o,es,ep,ho,r⟩,_⟩:=id I.loc;obtain⟨sl,hL⟩:=u.any ho I.free λz=>(hch _ z).2.1 rfl;exact I.step (ch:=ch) hch (λb o hL hb hc e n=>u.keep b o e n (λz=>(aN.mp (I.stkSub b z)).elim hL hb) hc) (λb o _ _ hc e n=>u.any e n hc) (λb o hc e n=>u.free b o e n hc) (λb o hc e=>u.there b o e hc) u.tups u.frzs u.tbls (λm' hm=>by
  obtain⟨o',es',ep',ho',r'⟩:=hm;rw[ho]at ho';cases ho';exact⟨_,es',ep',hL,r'⟩) hok hg
theorem Inv.turned(I:Inv X wv σ H s)(k:∀b o,b≠it->s.heap.get? b=some o->h'.get? b=some o)(hn:H it=none)(hL:it≠X.env.locals)
  (h1:it∈X.ex\/X.s₀.heap.objs.size<=it) (h2:∀x c,X.env.cells.lookup x=some c->c≠it) (h3:∀p∈X.pn++wv,p.1≠it):Inv X wv σ H { s with heap:=h',toks:=t' }:=by
 have nit:∀b u,H b=some u->b≠it:=λb u e z=>by rw[z,hn]at e;cases e
 refine I.step (g':=s.gens) (d':=s.drawn) (ch:=[it]) (λb hb=>?_) (λb o _ _ hc e _=>k b o (λz=>hc (by simp[z])) e) (λb o _ _ hc e _=>⟨o.slots,k b o (λz=>hc (by simp[z])) e⟩) (λ_ _ _ _ n=>n)
  (λb o hc e=>⟨o,k b o (λz=>hc (by simp[z])) e⟩) (λ_ _ e=>e) (λ_ _ _ e=>e) (λb ps e=>⟨#[],by rw[e];simp⟩) (λm hm=>?_) (λb u e=>?_) I.bare
 ·have e:b=it:=by simpa using hb
  subst e;exact⟨h1,hL,h2,h3⟩
 ·obtain⟨o,es,ep,ho,r⟩:=hm;exact⟨o,es,ep,k _ o (cD hL) ho,r⟩
 ·refine(I.hok b u e).stay (λc v hc q=>k c v ?_ q) (λ_ q=>q) λ_ _ q=>q;rcases hc with z|z
  ·rw[z];exact nit b u e
  ·exact nit c _ z
theorem Inv.tok(I:Inv X wv σ H s)(t:Nat):Inv X wv σ H { s with toks:=t }:=I.un (h':=s.heap) (t':=t) Un.refl I.hok
theorem Inv.kept(I:Inv X wv σ H s)(k:∀b u,s.heap.get? b=some u->h'.get? b=some u):Inv X wv σ H { s with heap:=h',toks:=t' }:=I.un (Un.kept k) (I.hok.kept k)
theorem Inv.laid(I:Inv X wv σ H s)(k:∀b u,s.heap.get? b=some u->h'.get? b=some u)(hp:s.heap.objs.size<=a)(new:uQ X.prog X.w (upd H a o) h' a o):
  Inv X wv σ (upd H a o) { s with heap:=h',toks:=t' }:=I.un (Un.laid k hp (I.hok.fresh hp)) (I.hok.laid k hp new)
theorem Inv.write(I:Inv X wv σ H s)(mu:Mut (H x))(he:e=x\/H e=some (.own x))(k:∀b u,b≠e->s.heap.get? b=some u->h'.get? b=some u)(heo:∃u,h'.get? e=some u)
  (new:uQ X.prog X.w (upd H x o) h' x o):Inv X wv σ (upd H x o) { s with heap:=h',toks:=t' }:=I.un (Un.write mu he k heo) (I.hok.write mu he k heo new)
theorem Inv.weak{σ':List (Option V)}(I:Inv X wv σ H s)(hl:σ'.length=σ.length)(w:∀(i:Nat) v,σ'[i]?=some (some v)->σ[i]?=some (some v)):Inv X wv σ' H s:=
 ⟨I.ok,I.os,I.bare,I.base,let ⟨m,hn,hl'⟩:=I.loc;⟨m,hn,λi x v e1 e2 e3=>hl' i x v e1 (w i v e2) e3⟩,I.cell,I.free,I.freeC,I.pin,I.hok,hl.trans I.len⟩
theorem Inv.pins_of(I:Inv X wv σ H s)(h:∀p∈pins',s.heap.get? p.1=some p.2/\H p.1=none/\p.1≠X.env.locals/\p.1∉X.fs/\∀v,p.2.data≠.cell v):Inv X pins' σ H s:=
 ⟨I.ok,I.os,I.bare,I.base,I.loc,I.cell,I.free,I.freeC,λp hp=>(bx.mp hp).elim (λz=>I.pin p (ck _ z)) (h p),I.hok,I.len⟩
theorem I0{N:aD}(hN:N.Nodup){i j:Nat}{x:Str}(a:N[i]?=some x)(b:N[j]?=some x):i=j:=by obtain⟨h1,e1⟩:=bO.mp a;obtain⟨h2,e2⟩:=bO.mp b;exact(la hN).mp (e1.trans e2.symm)
theorem M0(I:Inv X wv σ H s)(hN:X.N.Nodup)(hi:X.N[i]?=some x)(hx:Loc X.env.scope x)(r:RelV v u)
  (h:∀s',Inv X wv (σ.set i (some v)) H s'->(∃a,f9 a s.heap s'.heap/\(a=X.env.locals\/X.env.cells.lookup x=some a))->Q () s') (hf:X.fn x=true\/X.env.scope.names.lookup x=some .local:=by first|exact .inl rfl|exact .inr rfl|assumption):aj M A (storeName X.env x u) Q E s:=by
 obtain⟨m,hn,hl⟩:=id I.loc;have hcls:(X.env.scope.kind==.class||(X.env.scope.kind==.module&&X.env.locals != X.env.globals))=false:=by rw[I.ok.kind];rfl
 have hiσ:i<σ.length:=by rw[I.len];exact(bO.mp hi).1
 have cne:=I.cne;have tracked:∀{a:Addr} {h':Heap},(∃o,s.heap.get? a=some o/\H a=none)->f9 a s.heap h'->HOk X.prog X.w H h':=λ{a h'} ha hs b ob e=>by
  obtain⟨_,_,hfree⟩:=ha;refine(I.hok b ob e).stay (λc w' hc q=>(hs.2 c ?_).trans q) (λ_ q=>q) λ_ _ q=>q;rintro rfl;rcases hc with rfl|hc
  ·rw[hfree]at e;cases e
  ·rw[hfree]at hc;cases hc
 rcases hx with hk|hk
 ·refine wpAny_storeName_local hk hn (λh' hn' hs=>?_) hcls;obtain⟨oL,_,_,hoL,_⟩:=id hn;refine h _ ⟨I.ok,I.os,I.bare,⟨λb o e n hb hx=>?_,λb o e n hb hx=>?_,I.base.free,λb o e hx=>?_,I.base.tups,I.base.frzs,I.base.tbls⟩,⟨_,hn',λj y v' e1 e2 e3=>?_⟩,λy c e=>?_,I.free,I.freeC,λp hp=>?_,tracked ⟨oL,hoL,I.free⟩ hs,by simpa using I.len⟩ ⟨_,hs,.inl rfl⟩
  ·exact(hs.2 b (aR (b0 (aK e) I.ok.above))).trans (I.base.keep b o e n hb hx)
  ·obtain⟨sl,e1⟩:=I.base.slot b o e n hb hx;exact⟨sl,(hs.2 b (aR (b0 (aK e) I.ok.above))).trans e1⟩
  ·obtain⟨o',e1⟩:=I.base.there b o e hx;exact⟨o',(hs.2 b (aR (b0 (aK e) I.ok.above))).trans e1⟩
  ·by_cases hj:j=i
   ·subst hj;rw[hi]at e1;cases e1;rw[jx hiσ]at e2;cases e2;exact⟨u,r,.inl ⟨hk,by simp⟩⟩
   ·rw[kz (cD hj)]at e2;obtain⟨u',r',q⟩:=hl j y v' e1 e2 e3;refine⟨u',r',?_⟩;rcases q with ⟨k,e⟩|⟨k,c,e,z⟩
    ·refine .inl ⟨k,?_⟩;have:y≠x:=λe=>hj (I0 hN e1 (e▸hi));simp[this,e]
    ·exact .inr ⟨k,c,e,z.sameBut hs (cne y c e)⟩
  ·obtain⟨w',z⟩:=I.cell y c e;exact⟨w',z.sameBut hs (cne y c e)⟩
  ·obtain⟨e,n,ne,nf,d⟩:=I.pin p hp;exact⟨(hs.2 p.1 ne).trans e,n,ne,nf,d⟩
 ·have hfn:X.fn x=true:=by
   rcases hf with z|z
   ·exact z
   ·rw[z]at hk;cases hk
  obtain⟨c,hc⟩:=I.ok.has x (.inl hk);obtain⟨w',z⟩:=I.cell x c hc;refine wpAny_storeName_cell I.ok.kind hk hc z (λh' hc' hs=>?_);obtain⟨oc,hoc,hocd⟩:=id z;refine h { s with heap:=h' } ⟨I.ok,I.os,I.bare,⟨λb o e n hb hx=>?_,λb o e n hb hx=>?_,I.base.free,λb o e hx=>?_,I.base.tups,I.base.frzs,I.base.tbls⟩,⟨m,hn.sameBut hs (cD (cne x c hc)),λj y v' e1 e2 e3=>?_⟩,λy c' e=>?_,I.free,I.freeC,λp hp=>?_,tracked ⟨oc,hoc,I.freeC x c hc⟩ hs,by simpa using I.len⟩ ⟨c,hs,.inr hc⟩
  ·exact(hs.2 b (aR (b0 (aK e) (I.ok.cab x c hfn hc)))).trans (I.base.keep b o e n hb hx)
  ·obtain⟨sl,e1⟩:=I.base.slot b o e n hb hx;exact⟨sl,(hs.2 b (aR (b0 (aK e) (I.ok.cab x c hfn hc)))).trans e1⟩
  ·obtain⟨o',e1⟩:=I.base.there b o e hx;exact⟨o',(hs.2 b (aR (b0 (aK e) (I.ok.cab x c hfn hc)))).trans e1⟩
  ·by_cases hj:j=i
   ·subst hj;rw[hi]at e1;cases e1;rw[jx hiσ]at e2;cases e2;exact⟨u,r,.inr ⟨.inl hk,c,hc,hc'⟩⟩
   ·rw[kz (cD hj)]at e2;obtain⟨u',r',q⟩:=hl j y v' e1 e2 e3;refine⟨u',r',?_⟩;rcases q with q|⟨k,c',e,z'⟩
    ·exact .inl q
    ·refine .inr ⟨k,c',e,z'.sameBut hs ?_⟩;rintro rfl;exact hj (I0 hN e1 (I.ok.inj _ _ _ e hc▸hi))
  ·by_cases hcc:c'=c
   ·subst hcc;exact⟨_,hc'⟩
   ·obtain⟨w2,z2⟩:=I.cell y c' e;exact⟨w2,z2.sameBut hs hcc⟩
  ·obtain⟨e,n,ne,nf,d⟩:=I.pin p hp;refine⟨(hs.2 p.1 ?_).trans e,n,ne,nf,d⟩;intro q;rw[q,hoc]at e;have q':oc=p.2:=cU e;exact d w' (by rw[<-q'];exact hocd)
theorem Ja(I:Inv X wv σ H s)(hN:X.N.Nodup)(hi:X.N[i]?=some x)(hx:Loc X.env.scope x)(r:RelV v u)
  (h:∀s',Inv X wv (σ.set i (some v)) H s'->Q () s') (hf:X.fn x=true\/X.env.scope.names.lookup x=some .local:=by first|exact .inl rfl|exact .inr rfl|assumption):aj M A (storeName X.env x u) Q E s:=
 M0 I hN hi hx r (λs' I' _=>h s' I') hf
theorem Inv.call'{s':ae}(I:Inv X wv σ H s)(ho:s'.os=s.os)(u:Un (frs X.stack) ch H H' s.heap s'.heap)(hok:HOk X.prog X.w H' s'.heap)(hg:eM s'.gens)
  (hch:∀b∈ch,(b∈X.ex\/X.s₀.heap.objs.size<=b)/\b≠X.env.locals/\(∀x c,X.env.cells.lookup x=some c->c≠b)/\∀p∈X.pn++wv,p.1≠b):Inv X wv σ H' s':=by
 obtain⟨h',g',d',t',o'⟩:=s';have e:o'=s.os:=ho;subst e;exact I.call (g':=g') (t':=t') (d':=d') u hok hg hch
end
abbrev XK:=aa->Option Addr->Hp->Prop
abbrev St:=List (Option V)
abbrev VK:=V->Hp->Prop
abbrev TE:=St->Hp->VK->Prop
abbrev TT:=St->Hp->(Bool->Hp->Prop)->Prop
abbrev TA:=St->Hp->(bG->Hp->Prop)->Prop
structure Ends where
 nx:St->Hp->Prop
 rt:VK
 bk:St->Hp->Prop:=λ_ _=>False
 ct:St->Hp->Prop:=λ_ _=>False
abbrev TS:=Ends->St->Hp->Prop
def EP(X:Cx)(wv:cF)(σ:St)(Q:VK)(u:aa)(s':ae):Prop:=∃v H',Inv X wv σ H' s'/\RelV v u/\Q v H'
def TP(X:Cx)(wv:cF)(σ:St)(Q:Bool->Hp->Prop)(b:Bool)(s':ae):Prop:=∃H',Inv X wv σ H' s'/\Q b H'
def AP(X:Cx)(wv:cF)(σ:St)(Q:bG->Hp->Prop)(us:List aa)(s':ae):Prop:=∃vs H',Inv X wv σ H' s'/\Vals vs us/\Q vs H'
def SP(X:Cx)(wv:cF)(D:Ends)(f:Flow)(s':ae):Prop:=
 match f with
 |.next=>∃σ' H',Inv X wv σ' H' s'/\D.nx σ' H'
 |.brk=>∃σ' H',Inv X wv σ' H' s'/\D.bk σ' H'
 |.cont=>∃σ' H',Inv X wv σ' H' s'/\D.ct σ' H'
 |.ret u=>∃v σ' H',Inv X wv σ' H' s'/\RelV v u/\D.rt v H'
def PE(X:Cx)(e:Expr)(t:TE):Prop:=
 ∀(wv:cF) (s:ae) (σ:St) (H:Hp) (Q:VK),Inv X wv σ H s->t σ H Q->aj (model X.prog X.w) X.A (eval e X.env) (EP X wv σ Q) X.xe s
def PT(X:Cx)(e:Expr)(t:TT):Prop:=
 ∀(wv:cF) (s:ae) (σ:St) (H:Hp) (Q:Bool->Hp->Prop),Inv X wv σ H s->t σ H Q->aj (model X.prog X.w) X.A (isTrue e X.env (eval e X.env)) (TP X wv σ Q) X.xe s
def PW(X:Cx)(e:Expr)(t:TT):Prop:=
 ∀(whole:Sem aa) (wv:cF) (s:ae) (σ:St) (H:Hp) (Q:Bool->Hp->Prop),Inv X wv σ H s->t σ H Q->aj (model X.prog X.w) X.A (isTrue e X.env whole) (TP X wv σ Q) X.xe s
theorem PW.pt(h:PW X e t):PT X e t:=h _
def PA(X:Cx)(es:List Expr)(t:TA):Prop:=
 ∀(pos:Pos) (wv:cF) (s:ae) (σ:St) (H:Hp) (Q:bG->Hp->Prop),Inv X wv σ H s->t σ H Q->aj (model X.prog X.w) X.A (spliced (bt pos (aw es X.env))) (AP X wv σ Q) X.xe s
def PS(X:Cx)(st:Stmt)(t:TS):Prop:=
 ∀(wv:cF) (s:ae) (σ:St) (H:Hp) (D:Ends),Inv X wv σ H s->t D σ H->aj (model X.prog X.w) X.A (exec st X.env) (SP X wv D) X.xe s
def PSs(X:Cx)(st:List Stmt)(t:TS):Prop:=
 ∀(wv:cF) (s:ae) (σ:St) (H:Hp) (D:Ends),Inv X wv σ H s->t D σ H->aj (model X.prog X.w) X.A (execs st X.env) (SP X wv D) X.xe s
theorem thn{α:Type}{t:Sem α}{Q Q':α->ae->Prop}{M:Model}{A:aI}{E:aa->ae->Prop}{s:ae}(h:aj M A t Q E s)(hQ:∀a s,Q a s->Q' a s):aj M A t Q' E s:=bZ h hQ λ_ _ x=>x
section
variable{X:Cx}
theorem bin{a b:Expr}{ta tb:TE}(ha:PE X a ta)(hb:PE X b tb){wv:cF}{s:ae}{σ:St}{H:Hp}{R:V->V->Hp->Prop}(I:Inv X wv σ H s)(h:ta σ H λx H1=>tb σ H1 λy H2=>R x y H2)
  {α:Type} {Q:α->ae->Prop} {f:aa->aa->Sem α}
  (hf:∀v u s2 x y H2,Inv X wv σ H2 s2->RelV x v->RelV y u->R x y H2->aj (model X.prog X.w) X.A (f v u) Q X.xe s2):
  aj (model X.prog X.w) X.A (eval a X.env) (λv s₁=>aj (model X.prog X.w) X.A (eval b X.env) (λu s₂=>aj (model X.prog X.w) X.A (f v u) Q X.xe s₂) X.xe s₁) X.xe s:=by
 refine thn (ha wv s σ H _ I h) λv s1 zz=>?_;obtain⟨x,H1,I1,r1,q1⟩:=zz;refine thn (hb wv s1 σ H1 _ I1 q1) λu s2 zz=>?_;obtain⟨y,H2,I2,r2,q2⟩:=zz;exact hf v u s2 x y H2 I2 r1 r2 q2
def zk(i:Nat):TE:=λσ H Q=>∃v,σ[i]?=some (some v)/\Q v H
def tC(v:V):TE:=λ_ H Q=>Q v H
theorem Vi(hN:X.N[i]?=some x)(hv:Vis X.env.scope x)(hd:(x==("__debug__" : Str))=false:=by decide)(hcd:(x==("__classdict__" : Str))=false:=by decide):PE X (.Name x pos) (zk i):=by
 intro wv s σ H Q I h;obtain⟨v,e,h⟩:=h;obtain⟨m,hn,hl⟩:=I.loc;obtain⟨u,r,l⟩:=hl i x v hN e hv;have fin:EP X wv σ Q u s:=⟨v,H,I,r,h⟩;rcases l with ⟨hk,hm⟩|⟨hk,c,hc,hcell⟩
 ·exact me (wpAny_loadName_local I.ok.kind hk hn hm fin) hd
 ·rcases hk with hk|hk
  ·exact me (wpAny_loadName_cell I.ok.kind hk hc hcell fin) hd
  ·exact me (wpAny_loadName_free I.ok.kind hk hc hcell fin hcd) hd
theorem Kx{i j pos}:PE X (.Constant (.int i) j pos) (tC (.int i)):=λ_ _ _ H _ I h=>wpAny_Constant_int ⟨.int i,H,I.tok _,⟨_,rfl⟩,h⟩
theorem Zg{b j pos}:PE X (.Constant (.bool b) j pos) (tC (.bl b)):=λ_ _ _ H _ I h=>Constant_bool ⟨.bl b,H,I,rfl,h⟩
theorem Vj{j pos}:PE X (.Constant .none j pos) (tC .non):=λ_ _ _ H _ I h=>Constant_none ⟨.non,H,I,rfl,h⟩
theorem Og{x j pos}:PE X (.Constant (.str x) j pos) (tC (.str x)):=λ_ _ _ H _ I h=>Calls.Constant_str ⟨.str x,H,I.tok _,⟨_,rfl⟩,h⟩
def Gl(X:Cx)(x:Str):Prop:=X.env.kindOf x=some .globalImplicit
theorem BM(I:Inv X wv σ H s)(hg:Gl X x)(hm:X.mg x=some u)(h:Q u s)
  (hd:(x==("__debug__" : Str))=false:=by decide):aj (model X.prog X.w) X.A (eval (.Name x pos) X.env) Q E s:=
 mZ I.ok.kind hg (Calls.loadGlobal_global (by rw[I.ok.glob];exact I.mod.glob.keeps I.bk) hm h) hd
theorem zE(I:Inv X wv σ H s)(hg:Gl X x)(hm:X.mg x=none)(hv:dF x=some u)(h:Q u s)
  (hn:x≠"__name__" := by decide) (hd:(x==("__debug__" : Str))=false:=by decide):aj (model X.prog X.w) X.A (eval (.Name x pos) X.env) Q E s:=by
 obtain⟨mb,h1,h2⟩:=I.mod.blt;exact mZ I.ok.kind hg (Calls.loadGlobal_builtin (by rw[I.ok.glob];exact I.mod.glob.keeps I.bk) hm (by rw[I.ok.blt];exact h1.keeps I.bk) ((h2 x hn).trans hv) h) hd
theorem LB(hg:Gl X x)(hm:X.mg x=some u)(r:RelV v u)(hd:(x==("__debug__" : Str))=false:=by decide):PE X (.Name x pos) (tC v):=
 λ_ _ _ H _ I h=>BM I hg hm ⟨v,H,I,r,h⟩ hd
theorem RB(hg:Gl X x)(hm:X.mg x=none)(hv:dF x=some u)(r:RelV v u)(hn:x≠"__name__" := by decide)(hd:(x==("__debug__" : Str))=false:=by decide):PE X (.Name x pos) (tC v):=
 λ_ _ _ H _ I h=>zE I hg hm hv ⟨v,H,I,r,h⟩ hn hd
variable{a b:Expr}{ta tb:TE}{pos:Pos}
def PC(X:Cx)(op:CmpOp)(a b:Expr)(t:TE):Prop:=
 ∀(wv:cF) (s:ae) (σ:St) (H:Hp) (Q:VK),Inv X wv σ H s->t σ H Q->
  aj (model X.prog X.w) X.A (eval a X.env) (λv s₁=>aj (model X.prog X.w) X.A (eval b X.env) (λu s₂=>aj (model X.prog X.w) X.A (br op v u) (EP X wv σ Q) X.xe s₂) X.xe s₁) X.xe s
def tB(t:TE):TT:=λσ H Q=>t σ H λx H1=>∃c,x=.bl c/\Q c H1
theorem aa7(h:PC X op a b t)(h1:fX op b=false:=by first|exact nobehind _ (by decide) (by decide)|rfl):PT X (.Compare a [op] [b] pos) (tB t):=by intro wv s σ H Q I hw;refine nG (thn (h wv s σ H _ I hw) λv s1 h1=>thn h1 λu s2 h2=>thn h2 λc s3 zz=>?_) h1;obtain⟨x,H1,I1,r1,q1⟩:=zz;obtain⟨d,rfl,q⟩:=q1;cases r1;exact dg ⟨H1,I1,q⟩
theorem Vk(h:PE X e t)(he:∀whole,isTrue e X.env whole=(do let v<-whole;standAt e.pos;holding [v] (truthy v)):=by intro _;rfl):PT X e (tB t):=by intro wv s σ H Q I hw;refine isTrue_plain (thn (h wv s σ H _ I hw) λv s1 zz=>?_) (he _);obtain⟨x,H1,I1,r1,q1⟩:=zz;obtain⟨d,rfl,q⟩:=q1;cases r1;exact dg ⟨H1,I1,q⟩
variable{tA tB':TT}{rest:List Expr}
def Zh(t u:TT):TT:=λσ H Q=>t σ H λc H1=>if c=true then u σ H1 Q else Q false H1
def tOr(t u:TT):TT:=λσ H Q=>t σ H λc H1=>if c=true then Q true H1 else u σ H1 Q
def tNot(t:TT):TT:=λσ H Q=>t σ H λc H1=>Q (!c) H1
theorem RD(ha:PT X a tA):PW X (.BoolOp .And [a] pos) tA:=by
 intro wh wv s σ H Q I h;refine isTrue_and (thn (ha wv s σ H Q I h) λc s1 e=>?_);cases c with
 |true=>exact isTrue_and_nil e
 |false=>exact e
theorem Vl(ha:PT X a tA):PW X (.BoolOp .Or [a] pos) tA:=by
 intro wh wv s σ H Q I h;refine isTrue_or (thn (ha wv s σ H Q I h) λc s1 e=>?_);cases c with
 |false=>exact isTrue_or_nil e
 |true=>exact e
theorem Vm(ha:PT X a tA)(hb:PW X (.BoolOp .And (b::rest) pos) tB'):PW X (.BoolOp .And (a::b::rest) pos) (Zh tA tB'):=by
 intro wh wv s σ H Q I h;refine isTrue_and (thn (ha wv s σ H _ I h) λc s1 zz=>?_);obtain⟨H1,I1,q1⟩:=zz;cases c with
 |true=>exact hb wh wv s1 σ H1 Q I1 q1
 |false=>exact⟨H1,I1,q1⟩
theorem Zi(ha:PT X a tA)(hb:PW X (.BoolOp .Or (b::rest) pos) tB'):PW X (.BoolOp .Or (a::b::rest) pos) (tOr tA tB'):=by
 intro wh wv s σ H Q I h;refine isTrue_or (thn (ha wv s σ H _ I h) λc s1 zz=>?_);obtain⟨H1,I1,q1⟩:=zz;cases c with
 |true=>exact⟨H1,I1,q1⟩
 |false=>exact hb wh wv s1 σ H1 Q I1 q1
theorem Vn(ha:PT X a tA):PT X (.UnaryOp .Not a pos) (tNot tA):=by intro wv s σ H Q I h;exact isTrue_not (ha wv s σ H (λc H1=>Q (!c) H1) I h)
def Zj(ta tb:TE):TE:=λσ H Q=>ta σ H λx H1=>∃c,x=.bl c/\if c=true then tb σ H1 Q else Q (.bl false) H1
def tOrV(ta tb:TE):TE:=λσ H Q=>ta σ H λx H1=>∃c,x=.bl c/\if c=true then Q (.bl true) H1 else tb σ H1 Q
def Zk(ta:TE):TE:=λσ H Q=>ta σ H λx H1=>∃c,x=.bl c/\Q (.bl (!c)) H1
theorem Vo{op}(h:PE X a t):PE X (.BoolOp op [a] pos) t:=λwv s σ H Q I hw=>BoolOp_one (h wv s σ H Q I hw)
theorem Vp(ha:PE X a ta)(hb:PE X (.BoolOp .And (b::rest) pos) tb):PE X (.BoolOp .And (a::b::rest) pos) (Zj ta tb):=by
 intro wv s σ H Q I h;refine BoolOp_and (thn (ha wv s σ H _ I h) λv s1 zz=>?_);obtain⟨x,H1,I1,r1,q1⟩:=zz;obtain⟨c,rfl,q1⟩:=q1;cases r1;refine dg ?_;cases c with
 |true=>exact hb wv s1 σ H1 Q I1 q1
 |false=>exact⟨.bl false,H1,I1,rfl,q1⟩
theorem Zl(ha:PE X a ta)(hb:PE X (.BoolOp .Or (b::rest) pos) tb):PE X (.BoolOp .Or (a::b::rest) pos) (tOrV ta tb):=by
 intro wv s σ H Q I h;refine BoolOp_or (thn (ha wv s σ H _ I h) λv s1 zz=>?_);obtain⟨x,H1,I1,r1,q1⟩:=zz;obtain⟨c,rfl,q1⟩:=q1;cases r1;refine dg ?_;cases c with
 |false=>exact hb wv s1 σ H1 Q I1 q1
 |true=>exact⟨.bl true,H1,I1,rfl,q1⟩
theorem Vq(ha:PE X a ta):PE X (.UnaryOp .Not a pos) (Zk ta):=by intro wv s σ H Q I h;refine UnaryOp_ (thn (ha wv s σ H _ I h) λv s1 zz=>?_);obtain⟨x,H1,I1,r1,q1⟩:=zz;obtain⟨c,rfl,q1⟩:=q1;cases r1;exact not_of (dg ⟨.bl (!c),H1,I1,rfl,q1⟩)
def tIf(t:TT)(ta tb:TE):TE:=λσ H Q=>t σ H λc H1=>if c=true then ta σ H1 Q else tb σ H1 Q
theorem Oh(hc:PT X c tA)(ha:PE X a ta)(hb:PE X b tb):PE X (.IfExp c a b pos) (tIf tA ta tb):=by
 intro wv s σ H Q I h;refine wpAny_IfExp (thn (hc wv s σ H _ I h) λd s1 zz=>?_);obtain⟨H1,I1,q1⟩:=zz;cases d with
 |true=>exact ha wv s1 σ H1 Q I1 q1
 |false=>exact hb wv s1 σ H1 Q I1 q1
end
def SqL(K:au)(H:Hp)(a:Addr)(xs:bG):Prop:=
 Rd H a (.lst xs)\/
  ∃(o:Obj) (its:Array aa) (n:Nat),K.lookup a=some o/\o.cls=.type "list" /\ o.dict=none/\o.data=.seq its n/\its.size<=aG/\Vals xs its.toList
def SqT(K:au)(H:Hp)(a:Addr)(xs:bG):Prop:=
 Rd H a (.tup xs)\/
  ∃(o:Obj) (its:Array aa) (n:Nat),K.lookup a=some o/\o.cls=.type "tuple" /\ o.data=.seq its n/\its.size<=aG/\Vals xs its.toList
def absV:aa->Option V
 |.none=>some .non
 |.bool b=>some (.bl b)
 |.int i _=>some (.int i)
 |.str x _=>some (.str x)
 |.bytes b _=>some (.byt b)
 |.float b _=>some (.flt b)
 |.ref a=>some (.ref a)
 |.type n=>some (.ty n)
 |_=>none
theorem RelV.abs(r:RelV x u):absV u=some x:=by
 cases x with
 |non=>cases r;rfl
 |bl _=>cases r;rfl
 |int _=>obtain⟨t,rfl⟩:=r;rfl
 |str _=>obtain⟨t,rfl⟩:=r;rfl
 |byt _=>obtain⟨t,rfl⟩:=r;rfl
 |flt _=>obtain⟨t,rfl⟩:=r;rfl
 |ref _=>cases r;rfl
 |ty _=>cases r;rfl
theorem RelV.inj(r:RelV x u)(q:RelV y u):x=y:=cU (r.abs.symm.trans q.abs)
theorem Vals.inj:∀{xs ys:bG} {us:List aa},Vals xs us->Vals ys us->xs=ys
 |_,_,_,.nil,.nil=>rfl
 |_,_,_,.cons r t,.cons r' t'=>by rw[r.inj r',Vals.inj t t']
section
variable{X:Cx}{wv:cF}{σ:St}{H:Hp}{s:ae}{a:Addr}{xs ys:bG}
theorem SqL.of{K:au}(h:H a=some (.lst xs)):SqL K H a xs:=.inl (.inl h)
theorem SqT.of{K:au}(h:H a=some (.tup xs)):SqT K H a xs:=.inl (.inl h)
theorem Inv.list(I:Inv X wv σ H s)(h:SqL X.K H a xs):∃its:List aa,Vals xs its/\PlainL s.heap a its.toArray/\xs.length<=aG:=by
 rcases h with h|⟨o,its,n,hk,hc,hd,hs,hz,r⟩
 ·obtain⟨z,its,n,r,e⟩:=h.ok I.hok;exact⟨its,r,⟨_,n,e,rfl,rfl,rfl⟩,z⟩
 ·refine⟨its.toList,r,⟨o,n,I.kIn a o hk,hc,hd,by simpa using hs⟩,?_⟩;have e:=r.length;simp only[bw]at e;omega
theorem Inv.tuple(I:Inv X wv σ H s)(h:SqT X.K H a xs):∃its:List aa,Vals xs its/\fH s.heap a its.toArray/\xs.length<=aG:=by
 rcases h with h|⟨o,its,n,hk,hc,hs,hz,r⟩
 ·obtain⟨z,its,r,p⟩:=h.ok I.hok;exact⟨its,r,p,z⟩
 ·refine⟨its.toList,r,⟨o,I.kIn a o hk,hc,n,by simpa using hs⟩,?_⟩;have e:=r.length;simp only[bw]at e;omega
theorem Inv.list_inj(I:Inv X wv σ H s)(h:SqL X.K H a xs)(h':SqL X.K H a ys):xs=ys:=by
 obtain⟨its,r,⟨o,n,e,_,_,d⟩,_⟩:=I.list h;obtain⟨its',r',⟨o',n',e',_,_,d'⟩,_⟩:=I.list h';rw[e]at e';cases e';rw[d]at d';injection d' with d1 _;have:its=its':=by simpa using ba qc d1
 subst this;exact r.inj r'
theorem Inv.tuple_inj(I:Inv X wv σ H s)(h:SqT X.K H a xs)(h':SqT X.K H a ys):xs=ys:=by
 obtain⟨its,r,⟨o,e,_,n,d⟩,_⟩:=I.tuple h;obtain⟨its',r',⟨o',e',_,n',d'⟩,_⟩:=I.tuple h';rw[e]at e';cases e';rw[d]at d';injection d' with d1 _;have:its=its':=by simpa using ba qc d1
 subst this;exact r.inj r'
end
abbrev Cx.wish(X:Cx)(E:aa->ae->Prop):Cx:={ X with xe:=E }
abbrev Cx.nox(X:Cx):Cx:=X.wish λ_ _=>False
theorem Cx.Ok.wish{X:Cx}(ok:X.Ok)(E:aa->ae->Prop):(X.wish E).Ok:=
 ⟨ok.mod,ok.kind,ok.glob,ok.blt,ok.above,ok.inj,ok.has,ok.cab,ok.hd,ok.frames,ok.stk,ok.exf,ok.bs,ok.bsz,ok.noex,ok.exfs,ok.funs,ok.frf⟩
theorem Cx.Ok.unwish{X:Cx}(ok:(X.wish E).Ok):X.Ok:=
 ⟨ok.mod,ok.kind,ok.glob,ok.blt,ok.above,ok.inj,ok.has,ok.cab,ok.hd,ok.frames,ok.stk,ok.exf,ok.bs,ok.bsz,ok.noex,ok.exfs,ok.funs,ok.frf⟩
section
variable{X:Cx}{wv:cF}{σ:St}{H:Hp}{s:ae}{E:aa->ae->Prop}
theorem Inv.wish(I:Inv X wv σ H s)(E:aa->ae->Prop):Inv (X.wish E) wv σ H s:=⟨I.ok.wish E,I.os,I.bare,I.base,I.loc,I.cell,I.free,I.freeC,I.pin,I.hok,I.len⟩
theorem Inv.unwish(I:Inv (X.wish E) wv σ H s):Inv X wv σ H s:=⟨I.ok.unwish,I.os,I.bare,I.base,I.loc,I.cell,I.free,I.freeC,I.pin,I.hok,I.len⟩
theorem SP.unwish{D:Ends}(h:SP (X.wish E) wv D f s'):SP X wv D f s':=by
 cases f with
 |next=>obtain⟨σ',H',I,q⟩:=h;exact⟨σ',H',I.unwish,q⟩
 |brk=>obtain⟨σ',H',I,q⟩:=h;exact⟨σ',H',I.unwish,q⟩
 |cont=>obtain⟨σ',H',I,q⟩:=h;exact⟨σ',H',I.unwish,q⟩
 |ret u=>obtain⟨v,σ',H',I,r,q⟩:=h;exact⟨v,σ',H',I.unwish,r,q⟩
theorem PSs.nox{st:List Stmt}(h:PSs X.nox st t):PSs X st t:=λwv s σ H D I hw=>
 bZ (h wv s σ H D (I.wish _) hw) (λ_ _ q=>q.unwish) λ_ _ z=>cZ z
end
section
variable{X:Cx}{st:Stmt}{rest:List Stmt}{t u:TS}{e:Expr}{te:TE}{pos:Pos}
def Zm:TS:=λD σ H=>D.nx σ H
def tSeq(t u:TS):TS:=λD σ H=>t { D with nx:=u D } σ H
theorem RE:PSs X [] Zm:=λ_ _ σ H _ I h=>jN ⟨σ,H,I,h⟩
theorem EI(h1:PS X st t)(h2:PSs X rest u):PSs X (st::rest) (tSeq t u):=by
 intro wv s σ H D I h;refine oR (thn (h1 wv s σ H { D with nx:=u D } I h) λf s1 q=>?_);cases f with
 |next=>obtain⟨σ',H',I',q⟩:=q;exact h2 wv s1 σ' H' D I' q
 |ret v=>exact q
 |brk=>exact q
 |cont=>exact q
theorem HA(h1:PS X st t):PSs X [st] t:=by
 intro wv s σ H D I h;refine oR (thn (h1 wv s σ H D I h) λf s1 q=>?_);cases f with
 |next=>exact jN q
 |ret v=>exact q
 |brk=>exact q
 |cont=>exact q
theorem Inv.quiet(I:Inv X wv σ H s):interactive X.env=false:=by simp[interactive,I.ok.kind]
def UI(te:TE):TS:=λD σ H=>te σ H λ_ H1=>D.nx σ H1
theorem LC(he:PE X e te)(hs:dR e none pos.line X.env=pure false:=by rfl):PS X (.Expr e pos) (UI te):=by intro wv s σ H D I h;exact wpAny_Expr_any (thn (he wv s σ H _ I h) λv s1 ⟨x,H1,I1,r1,q1⟩=>⟨σ,H1,I1,q1⟩) I.quiet hs
def Zn(te:TE):TS:=λD σ H=>te σ H D.rt
theorem Kz(he:PE X e te):PS X (.Return (some e) pos) (Zn te):=by intro wv s σ H D I h;exact wpAny_Return_some (thn (he wv s σ H _ I h) λv s1 ⟨x,H1,I1,r1,q1⟩=>⟨x,σ,H1,I1,r1,q1⟩)
def tIfS(c:TT)(t u:TS):TS:=λD σ H=>c σ H λb H1=>if b=true then t D σ H1 else u D σ H1
theorem Zo(hc:PT X c tc)(ha:PSs X a t)(hb:PSs X b u):PS X (.If c a b pos) (tIfS tc t u):=by
 intro wv s σ H D I h;refine wpAny_If (thn (hc wv s σ H _ I h) λd s1 zz=>?_);obtain⟨H1,I1,q1⟩:=zz;cases d with
 |true=>exact ha wv s1 σ H1 D I1 q1
 |false=>exact hb wv s1 σ H1 D I1 q1
end
abbrev TG:=V->St->Hp->(St->Hp->Prop)->Prop
abbrev TGs:=bG->St->Hp->(St->Hp->Prop)->Prop
def PG(X:Cx)(target:Expr)(t:TG):Prop:=
 ∀(wv:cF) (s:ae) (σ:St) (H:Hp) (v:V) (u:aa) (Q:St->Hp->Prop),Inv X wv σ H s->RelV v u->t v σ H Q->
  aj (model X.prog X.w) X.A (assign target X.env u) (λ_ s'=>∃σ' H',Inv X wv σ' H' s'/\Q σ' H') X.xe s
def PGs(X:Cx)(ts:List Expr)(t:TGs):Prop:=
 ∀(wv:cF) (s:ae) (σ:St) (H:Hp) (vs:bG) (us:List aa) (Q:St->Hp->Prop),Inv X wv σ H s->Vals vs us->t vs σ H Q->
  aj (model X.prog X.w) X.A (assignInOrder ((c3 ts X.env).map (·.2)) us) (λ_ s'=>∃σ' H',Inv X wv σ' H' s'/\Q σ' H') X.xe s
section
variable{X:Cx}{pos:Pos}
def yO(i:Nat):TG:=λv σ H Q=>Q (σ.set i (some v)) H
theorem LD(hN:X.N.Nodup)(hi:X.N[i]?=some x)(hx:Loc X.env.scope x)(hf:X.fn x=true\/X.env.scope.names.lookup x=some .local:=by first|exact .inl rfl|exact .inr rfl|assumption):PG X (.Name x pos) (yO i):=by intro wv s σ H v u Q I r h;exact wpAny_assign_Name (Ja I hN hi hx r (λs' I'=>⟨_,H,I',h⟩) hf)
def Zp:TGs:=λvs σ H Q=>vs=[]/\Q σ H
def UJ(t:TG)(u:TGs):TGs:=λvs σ H Q=>∃v r,vs=v::r/\t v σ H λσ' H'=>u r σ' H' Q
theorem RF:PGs X [] Zp:=by intro wv s σ H vs us Q I r h;obtain⟨e,h⟩:=h;subst e;cases r;exact assignInOrder_nil ⟨σ,H,I,h⟩
theorem Oi(h1:PG X e t)(h2:PGs X es u)
  (hs:(c3 (e::es) X.env).map (·.2)=assign e X.env::(c3 es X.env).map (·.2):=by rfl):PGs X (e::es) (UJ t u):=by
 intro wv s σ H vs us Q I r h;obtain⟨v,vr,e1,h⟩:=h;subst e1;cases r with
 |cons r rr=>rw[hs];refine assignInOrder_cons (thn (h1 wv s σ H _ _ _ I r h) λ_ s1 zz=>?_);obtain⟨σ1,H1,I1,q1⟩:=zz;exact h2 wv s1 σ1 H1 _ _ Q I1 rr q1
def Vr(K:au)(n:Nat)(t:TGs):TG:=λv σ H Q=>∃a xs,v=.ref a/\SqT K H a xs/\xs.length=n/\t xs σ H Q
theorem Vs(hc:X.calm=true)(h:PGs X es t)
  (hn:(c3 es X.env).length=n:=by rfl) (hst:(c3 es X.env).findIdx? (·.1)=none:=by rfl):PG X (.Tuple es k pos) (Vr X.K n t):=by
 intro wv s σ H v u Q I r hw;obtain⟨a,xs,e1,hq,hl,hw⟩:=hw;subst e1;cases r;obtain⟨its,rv,ht,hz⟩:=I.tuple hq;refine assign_Tuple_tuple (I.ok.hd hc) ht (by simp[hn,<- hl,rv.length]) hst λh' hx=>?_;have I1:Inv X wv σ H { s with heap:=h' }:=I.kept (t':=s.toks) λb o e=>hx b o (aR (aK e)) e;exact h wv _ σ H xs _ Q I1 (by simpa using rv) hw
def BN(te:TE)(g:TG):TS:=λD σ H=>te σ H λx H1=>g x σ H1 D.nx
theorem Vt(he:PE X e te)(hg:PG X tg g)(hs:swapsWithSole [tg] e pos.line X.env=pure false:=by rfl)(hw:swappedStores [tg] e X.env=pure none:=by rfl)
  (h1:(c3 [tg] X.env).map (·.2)=[assign tg X.env]:=by rfl):PS X (.Assign [tg] e pos) (BN te g):=by
 intro wv s σ H D I h;refine wpAny_Assign_stores (thn (he wv s σ H _ I h) λv s1 zz=>?_) hs hw;obtain⟨x,H1,I1,r1,q1⟩:=zz;rw[h1];exact thn (hg wv s1 σ H1 x v _ I1 r1 q1) λ_ s2 q=>q
theorem Vu(hN:X.N.Nodup)(hi:X.N[i]?=some x)(hx:Loc X.env.scope x)(he:PE X e te)(hs:dR e (some (.Name x pos')) pos.line X.env=pure false:=by rfl)(hf:X.fn x=true\/X.env.scope.names.lookup x=some .local:=by first|exact .inl rfl|exact .inr rfl|assumption):
  PS X (.Assign [.Name x pos'] e pos) (BN te (yO i)):=by
 intro wv s σ H D I h;refine wpAny_Assign_Name (thn (he wv s σ H _ I h) λv s1 zz=>?_) hs;obtain⟨y,H1,I1,r1,q1⟩:=zz;exact Ja I1 hN hi hx r1 (λs2 I2=>⟨_,H1,I2,q1⟩) hf
end
section
variable{X:Cx}{pos:Pos}
def Oj(c:TT)(tb:TS):TS:=λD σ H=>∃W:Nat->St->Hp->Prop,(∃m,W m σ H)/\∀m σ H,W m σ H->
 c σ H λb H1=>if b=true then ∃N:St->Hp->Prop,(∀σ' H',N σ' H'->∃m',m'<m/\W m' σ' H')/\tb { D with nx:=N,ct:=N,bk:=D.nx } σ H1 else D.nx σ H1
theorem Ol(hp:j6 (model X.prog X.w) X.A X.env X.xe)(hc:PT X c tc)(hb:PSs X body tb):PS X (.While c body [] pos) (Oj tc tb):=by
 intro wv s σ H D I h;obtain⟨W,⟨m0,w0⟩,turn⟩:=h;refine wpAny_While (codeAny_whileLoop (λn s'=>∃σ' H',Inv X wv σ' H' s'/\W n σ' H') ?_ m0 ⟨σ,H,I,w0⟩);rintro n s1 ⟨σ1,H1,I1,w1⟩;refine fW hp (thn (hc wv s1 σ1 H1 _ I1 (turn n σ1 H1 w1)) λb s2 zz=>?_);obtain⟨H2,I2,q2⟩:=zz;cases b with
 |true=>
  obtain⟨N,hN,q2⟩:=q2;rw[ah rfl];refine fW hp (thn (hb wv s2 σ1 H2 _ I2 q2) λf s3 q3=>?_);cases f with
  |next=>obtain⟨σ3,H3,I3,n3⟩:=q3;obtain⟨m',hm,w3⟩:=hN σ3 H3 n3;exact⟨m',hm,σ3,H3,I3,w3⟩
  |cont=>obtain⟨σ3,H3,I3,n3⟩:=q3;obtain⟨m',hm,w3⟩:=hN σ3 H3 n3;exact⟨m',hm,σ3,H3,I3,w3⟩
  |brk=>exact q3
  |ret v=>exact q3
 |false=>rw[ai bj];exact jN ⟨σ1,H2,I2,q2⟩
end
structure It where
 go:Nat->Hp->Prop
 yld:Nat->Hp->V->Hp->Prop
 stop:Nat->Hp->Prop
def Gc(X:Cx)(wv:cF)(H:Hp)(b:Addr):Prop:=
 H b=none/\b≠X.env.locals/\b∉X.fs/\(b∈X.ex\/X.s₀.heap.objs.size<=b)/\(∀x c,X.env.cells.lookup x=some c->c≠b)/\∀p∈X.pn++wv,p.1≠b
theorem Inv.fpOk(I:Inv X wv σ H s)(hb:s.heap.objs.size<=b)(hn:H' b=none):Gc X wv H' b:=by
 refine⟨hn,dG (b0 I.lt hb),I.nofs hb,.inr (bM I.sz hb),λx c e z=>?_,λp hp z=>?_⟩
 ·obtain⟨v,q⟩:=I.cell x c e;exact aq (b0 q.lt (by rw[z];exact hb)) (dE _)
 ·exact aq (b0 (aK (I.pin p hp).1) (by rw[z];exact hb)) (dE _)
structure Turn(P:aH)(w:aA)(K:au)(tg:Expr)(J:It)(fp:List Addr)(it:Addr)(tn:Nat->Heap->Prop):Prop where
 mem:it∈fp
 obj:∀i h,tn i h->∀b∈fp,∃o,h.get? b=some o/\∀v,o.data≠.cell v
 keep:∀i h h',tn i h->(∀b∈fp,∀o,h.get? b=some o->h'.get? b=some o)->tn i h'
 item:∀(X:Cx),X.prog=P->X.w=w->X.K=K->X.calm=true->∀(i:Nat) (wv:cF) (s:ae) (σ:St) (H:Hp) (E:aa->ae->Prop),Inv X wv σ H s->(∀b∈fp,Gc X wv H b)->tn i s.heap->J.go i H->
  aj (model P w) X.A (pyNext (.ref it)) (λr s1=>∃u,r=some u/\
   aj (model P w) X.A (gU tg (.ref it) u) (λ_ s2=>∃x H',Inv X wv σ H' s2/\RelV x u/\J.yld i H x H'/\tn (i+1) s2.heap/\∀b∈fp,H' b=none) E s1) E s
 done:∀(X:Cx),X.prog=P->X.w=w->X.K=K->X.calm=true->∀(i:Nat) (wv:cF) (s:ae) (σ:St) (H:Hp) (E:aa->ae->Prop),Inv X wv σ H s->(∀b∈fp,Gc X wv H b)->tn i s.heap->J.stop i H->
  aj (model P w) X.A (pyNext (.ref it)) (λr s1=>r=none/\Inv X wv σ H s1) E s
 self:∀(A:aI) (i:Nat) (s:ae) (Q:aa->ae->Prop) (E:aa->ae->Prop),tn i s.heap->Q (.ref it) s->aj (model P w) A (pyIter (.ref it)) Q E s
abbrev TI:=St->Hp->(It->Hp->Prop)->Prop
def PIE(X:Cx)(wv:cF)(σ:St)(tg:Expr)(R:It->Hp->Prop)(itv:aa)(s2:ae):Prop:=
 ∃(it:Addr) (fp:List Addr) (tn:Nat->Heap->Prop) (J:It) (H':Hp),itv=.ref it/\Inv X wv σ H' s2/\Turn X.prog X.w X.K tg J fp it tn/\tn 0 s2.heap/\(∀b∈fp,Gc X wv H' b)/\R J H'
def PI(X:Cx)(tg iter:Expr)(wi:TI):Prop:=
 ∀(wv:cF) (s:ae) (σ:St) (H:Hp) (R:It->Hp->Prop),Inv X wv σ H s->wi σ H R->
  aj (model X.prog X.w) X.A (eval iter X.env) (λv s1=>aj (model X.prog X.w) X.A (pyIter v) (PIE X wv σ tg R) X.xe s1) X.xe s
theorem LF{s:ae}(ho:s.heap.get? it=some o)(hc:o.cls=.type n)(hd:o.data=.fields vs)
  (hn:["enumerate", "zip", "dict_itemiterator", "dict_reverseitemiterator", "odict_iterator", "itertools.zip_longest", "itertools.pairwise"].contains n=false) (hQ:Q () s):aj M A (gU tg (.ref it) u) Q E s:=by
 unfold gU;cases tg<;>first
  |exact ar hQ
  |(cases u<;>first
    |exact ar hQ
    |(refine ag (mf ho ?_)
      rw[hc,hd];show aj M A (if (["enumerate", "zip", "dict_itemiterator", "dict_reverseitemiterator", "odict_iterator", "itertools.zip_longest", "itertools.pairwise"].contains n&&vs[0]?==some (rawInt _))=true then _ else _) Q E s;rw[ai (by intro h;rw[hn,Bool.false_and]at h;cases h)];exact ar hQ))
def Itl(K:au)(a:Addr):It:=
 ⟨λi H=>∃xs x,SqL K H a xs/\xs[i]?=some x,λi H x H'=>H'=H/\∀xs,SqL K H a xs->xs[i]?=some x,λi H=>∃xs,SqL K H a xs/\xs.length<=i⟩
def Itt(K:au)(a:Addr):It:=
 ⟨λi H=>∃xs x,SqT K H a xs/\xs[i]?=some x,λi H x H'=>H'=H/\∀xs,SqT K H a xs->xs[i]?=some x,λi H=>∃xs,SqT K H a xs/\xs.length<=i⟩
def Itr(lo:Int)(n:Nat):It:=⟨λi _=>i<n,λi H x H'=>H'=H/\x=.int (lo+i),λi _=>n<=i⟩
theorem M4{K:au}(a it:Addr):Turn P w K tg (Itl K a) [it] it (λi h=>h.IsListIter it a i) where
 mem:=by simp
 obj:=λi h st b hb=>by
  have e:b=it:=by simpa using hb
  subst e;obtain⟨o,e,c,d⟩:=st;exact⟨o,e,λv z=>by rw[d]at z;cases z⟩
 keep:=λi h h' st k=>st.at λo e=>k it (by simp) o e
 item:=by intro X hP hw hK hc i wv s σ H E I hf st hg;subst hP hw hK;obtain⟨xs,x,hq,hx⟩:=hg;obtain⟨its,rv,p,hz⟩:=I.list hq;obtain⟨u,hu,ru⟩:=rv.get hx;obtain⟨f0,f1,f2,f3,f4,f5⟩:=hf it (by simp);refine wpAny_pyNext_list_item st p.isList (x:=u) (by simpa using hu) λh' st' sb=>?_;have I1:Inv X wv σ H { s with heap:=h' }:=I.turned (t':=s.toks) (λb o hb e=>(sb.2 b hb).trans e) f0 f1 f3 f4 f5;obtain⟨o,e,c,d⟩:=id st';exact⟨u,rfl,LF (s:={ s with heap:=h' }) e c d (by decide) ⟨x,H,I1,ru,⟨rfl,λys hy=>by rw[I.list_inj hy hq];exact hx⟩,st',λb hb=>(hf b hb).1⟩⟩
 done:=by intro X hP hw hK hc i wv s σ H E I hf st hg;subst hP hw hK;obtain⟨xs,hq,hx⟩:=hg;obtain⟨its,rv,p,hz⟩:=I.list hq;obtain⟨f0,f1,f2,f3,f4,f5⟩:=hf it (by simp);have hl:=rv.length;exact wpAny_pyNext_list_end (I.ok.hd hc) st p.isList (by simp;omega) λh' eb=>⟨rfl,I.turned (t':=s.toks) (λb o hb e=>eb b o hb e) f0 f1 f3 f4 f5⟩
 self:=λ_ _ _ _ _ st h=>wpAny_pyIter_listiter st h
theorem KA{K:au}(a it:Addr):Turn P w K tg (Itt K a) [it] it (λi h=>h.IsTupleIter it a i) where
 mem:=by simp
 obj:=λi h st b hb=>by
  have e:b=it:=by simpa using hb
  subst e;obtain⟨o,e,c,d⟩:=st;exact⟨o,e,λv z=>by rw[d]at z;cases z⟩
 keep:=λi h h' st k=>st.at λo e=>k it (by simp) o e
 item:=by intro X hP hw hK hc i wv s σ H E I hf st hg;subst hP hw hK;obtain⟨xs,x,hq,hx⟩:=hg;obtain⟨its,rv,p,hz⟩:=I.tuple hq;obtain⟨u,hu,ru⟩:=rv.get hx;obtain⟨f0,f1,f2,f3,f4,f5⟩:=hf it (by simp);refine wpAny_pyNext_tuple_item st (show s.heap.IsTuple a its.toArray from p) (x:=u) (by simpa using hu) λh' st' sb=>?_;have I1:Inv X wv σ H { s with heap:=h' }:=I.turned (t':=s.toks) (λb o hb e=>(sb.2 b hb).trans e) f0 f1 f3 f4 f5;obtain⟨o,e,c,d⟩:=id st';exact⟨u,rfl,LF (s:={ s with heap:=h' }) e c d (by decide) ⟨x,H,I1,ru,⟨rfl,λys hy=>by rw[I.tuple_inj hy hq];exact hx⟩,st',λb hb=>(hf b hb).1⟩⟩
 done:=by intro X hP hw hK hc i wv s σ H E I hf st hg;subst hP hw hK;obtain⟨xs,hq,hx⟩:=hg;obtain⟨its,rv,p,hz⟩:=I.tuple hq;obtain⟨f0,f1,f2,f3,f4,f5⟩:=hf it (by simp);have hl:=rv.length;exact wpAny_pyNext_tuple_end (I.ok.hd hc) st (show s.heap.IsTuple a its.toArray from p) (by simp;omega) λh' eb=>⟨rfl,I.turned (t':=s.toks) (λb o hb e=>eb b o hb e) f0 f1 f3 f4 f5⟩
 self:=λ_ _ _ _ _ st h=>wpAny_pyIter_tupleiter st h
theorem KB{K:au}(it:Addr)(lo:Int)(n:Nat):Turn P w K tg (Itr lo n) [it] it (λi h=>IsRangeIter h it (lo+(i:Nat) * 1) ((n:Int) - (i:Nat)) 1) where
 mem:=by simp
 obj:=λi h st b hb=>by
  have e:b=it:=by simpa using hb
  subst e;exact⟨_,st,λv z=>by
   have z':Data.fields _=Data.cell v:=z;cases z'⟩
 keep:=λi h h' st k=>k it (by simp) _ st
 item:=by intro X hP hw hK hc i wv s σ H E I hf st hg;subst hP hw hK;obtain⟨f0,f1,f2,f3,f4,f5⟩:=hf it (by simp);have W:=Walks.range (prog:=X.prog) (w:=X.w) (I.ok.hd hc) it lo 1 n;refine W.item i s _ _ hg st λv h' tk hv st' kk=>?_;obtain⟨t,rfl⟩:=hv;have I1:Inv X wv σ H { s with heap:=h',toks:=tk }:=I.turned (λb o hb e=>kk b o (by simpa using hb) e) f0 f1 f3 f4 f5;refine⟨_,rfl,LF (s:={ s with heap:=h',toks:=tk }) (n:="range_iterator") st' rfl rfl (by decide) ⟨.int (lo+i),H,I1,⟨t,?_⟩,⟨rfl,rfl⟩,st',λb hb=>(hf b hb).1⟩⟩;rw[Int.mul_one]
 done:=by intro X hP hw hK hc i wv s σ H E I hf st hg;subst hP hw hK;obtain⟨f0,f1,f2,f3,f4,f5⟩:=hf it (by simp);exact wpAny_pyNext_range_end (I.ok.hd hc) st (by have:n<=i:=hg;omega) λh' eb=>⟨rfl,I.turned (t':=s.toks) (λb o hb e=>eb b o hb e) f0 f1 f3 f4 f5⟩
 self:=λ_ _ _ _ _ st h=>wpAny_pyIter_rangeiter st h
section
variable{X:Cx}{tg:Expr}
def Om(K:au)(tl:TE):TI:=λσ H R=>tl σ H λx H1=>∃a,x=.ref a/\(∃xs,SqL K H1 a xs)/\R (Itl K a) H1
def Vv(K:au)(tl:TE):TI:=λσ H R=>tl σ H λx H1=>∃a,x=.ref a/\(∃xs,SqT K H1 a xs)/\R (Itt K a) H1
theorem RG(hl:PE X l tl):PI X tg l (Om X.K tl):=by
 intro wv s σ H R I h;refine thn (hl wv s σ H _ I h) λv s1 zz=>?_;obtain⟨x,H1,I1,r1,q1⟩:=zz;obtain⟨a,e,⟨xs,hq⟩,q⟩:=q1;subst e;cases r1;obtain⟨its,rv,p,hz⟩:=I1.list hq;refine iH p.isList ?_;refine⟨s1.heap.objs.size,[s1.heap.objs.size],_,_,H1,rfl,I1.kept (t':=s1.toks) λb o e=>aC _ e,M4 a _,⟨_,bp _ rfl,rfl,rfl⟩,λb hb=>?_,q⟩;have e:b=s1.heap.objs.size:=by simpa using hb
 subst e;exact I1.fpOk (ay _) (I1.hok.fresh (ay _))
theorem Vw(hl:PE X l tl):PI X tg l (Vv X.K tl):=by
 intro wv s σ H R I h;refine thn (hl wv s σ H _ I h) λv s1 zz=>?_;obtain⟨x,H1,I1,r1,q1⟩:=zz;obtain⟨a,e,⟨xs,hq⟩,q⟩:=q1;subst e;cases r1;obtain⟨its,rv,p,hz⟩:=I1.tuple hq;refine kH (show s1.heap.IsTuple a its.toArray from p) ?_;refine⟨s1.heap.objs.size,[s1.heap.objs.size],_,_,H1,rfl,I1.kept (t':=s1.toks) λb o e=>aC _ e,KA a _,⟨_,bp _ rfl,rfl,rfl⟩,λb hb=>?_,q⟩;have e:b=s1.heap.objs.size:=by simpa using hb
 subst e;exact I1.fpOk (ay _) (I1.hok.fresh (ay _))
theorem On{lo:Int}{tk:Nat}(I:Inv X wv σ H s)(h1:-(2 ^ 62)<=lo)(h2:lo<2 ^ 62)(h3:-(2 ^ 62)<=hi)(h4:hi<2 ^ 62)
  (q:R (Itr lo (hi - lo).toNat) H):aj (model X.prog X.w) X.A (pyIter (.ref s.heap.objs.size)) (PIE X wv σ tg R) E { s with heap:=s.heap.push { cls:=.type "range", data:=.fields #[.int lo t,.int hi u,.int 1 v] },toks:=tk }:=by
 refine wpAny_pyIter_range (IsRange.new ..) (small_one h1 h2 h3 h4) ?_;have I1:Inv X wv σ H { s with heap:=s.heap.push { cls:=.type "range", data:=.fields #[.int lo t,.int hi u,.int 1 v] },toks:=tk }:=I.kept λb o e=>aC _ e;refine⟨(s.heap.push { cls:=.type "range", data:=.fields #[.int lo t,.int hi u,.int 1 v] }).objs.size,[(s.heap.push { cls:=.type "range", data:=.fields #[.int lo t,.int hi u,.int 1 v] }).objs.size],_,_,H,rfl,
  I1.kept (t':=tk) λb o e=>aC _ e,KB _ lo (hi - lo).toNat,?_,λb hb=>?_,q⟩
 ·have e1:lo+((0:Nat):Int) * 1=lo:=by simp
  have e2:(((hi - lo).toNat:Nat):Int) - ((0:Nat):Int)=rW lo hi 1:=by rw[rangeSize_one];split<;>omega
  show IsRangeIter _ _ (lo+((0:Nat):Int) * 1) ((((hi - lo).toNat:Nat):Int) - ((0:Nat):Int)) 1;rw[e1,e2];exact bp _ rfl
 ·have e:b=(s.heap.push { cls:=.type "range", data:=.fields #[.int lo t,.int hi u,.int 1 v] }).objs.size:=by simpa using hb
  subst e;exact I1.fpOk (ay _) (I1.hok.fresh (ay _))
def UK(ta:TA):TI:=λσ H R=>ta σ H λvs H1=>∃j:Int,vs=[.int j]/\-(2 ^ 62)<=j/\j<2 ^ 62/\R (Itr 0 j.toNat) H1
theorem M5(hg:Gl X "range")(hm:X.mg "range" = none)(ha:PA X [a] ta)(hs:aw [a] X.env=[(false,eval a X.env)]:=by rfl):PI X tg (.Call (.Name "range" p) [a] [] pos) (UK ta):=by
 intro wv s σ H R I h;refine Call_ (zE I hg hm boot_range (callWith_type1 (thn (ha pos wv s σ H _ I h) λus s1 zz=>?_) hs rfl));obtain⟨vs,H1,I1,r1,q1⟩:=zz;obtain⟨j,e,q1,q2,q⟩:=q1;subst e;cases r1 with
 |cons r rr=>cases rr;obtain⟨t,rfl⟩:=r;exact call_range_1 (On I1 (by omega) (by omega) q1 q2 (by simpa using q))
def Vx(wi:TI)(g:TG)(tb:TS):TS:=λD σ H=>wi σ H λJ H1=>∃W:Nat->Nat->St->Hp->Prop,(∃m,W 0 m σ H1)/\∀i m σ H,W i m σ H->
 (J.stop i H/\D.nx σ H)\/(J.go i H/\∃N:St->Hp->Prop,(∀σ' H',N σ' H'->∃m',m'<m/\W (i+1) m' σ' H')/\∀x H',J.yld i H x H'->g x σ H' λσ2 H2=>tb { D with nx:=N,ct:=N,bk:=D.nx } σ2 H2)
def EJ(fp:List Addr)(h:Heap):cF:=fp.filterMap λb=>(h.get? b).map λo=>(b,o)
theorem yq{h:Heap}(hb:b∈fp)(e:h.get? b=some o):(b,o)∈EJ fp h:=iG.mpr ⟨b,hb,by rw[e];rfl⟩
theorem M6(hp:p∈EJ fp h):p.1∈fp/\h.get? p.1=some p.2:=by
 obtain⟨b,hb,e⟩:=iG.mp hp;cases q:h.get? b with
 |none=>rw[q]at e;cases e
 |some o=>rw[q]at e;have e':(b,o)=p:=cU e;subst e';exact⟨hb,q⟩
theorem Inv.pinned(I:Inv X wv σ H s)(hf:∀b∈fp,Gc X wv H b)(ho:∀b∈fp,∃o,s.heap.get? b=some o/\∀v,o.data≠.cell v):Inv X (wv++EJ fp s.heap) σ H s:=
 I.pins_of λp hp=>(bx.mp hp).elim (λz=>I.pin p (cy _ z)) λz=>by obtain⟨hb,e⟩:=M6 z;obtain⟨f0,f1,f2,_⟩:=hf p.1 hb;obtain⟨o,e',d⟩:=ho p.1 hb;rw[e]at e';cases e';exact⟨e,f0,f1,f2,d⟩
theorem Inv.unpinned(I:Inv X (wv++pl) σ H s):Inv X wv σ H s:=I.pins_of λp hp=>I.pin p (cy _ (ck _ hp))
theorem Oq(hp:j6 (model X.prog X.w) X.A X.env X.xe)(hc:X.calm=true)(hi:PI X tg iter wi)(hg:PG X tg g)(hb:PSs X body tb)
  (hs:∀x,iI iter X.env x=pure x:=by intro _;rfl):PS X (.For tg iter body [] pos) (Vx wi g tb):=by
 intro wv s σ H D I h;refine wpAny_For (thn (hi wv s σ H _ I h) λv s1 h1=>thn h1 λitv s2 h2=>?_) hs;obtain⟨it,fp,tn,J,H2,e,I2,T,st2,f2,W,⟨m0,w0⟩,turn⟩:=h2;subst e;have stat:∀{H':Hp},(∀b∈fp,H' b=none)->∀b∈fp,Gc X wv H' b:=λhn b hb=>⟨hn b hb,(f2 b hb).2⟩;refine codeAny_forLoop_any (λn s'=>∃i σ' H',Inv X wv σ' H' s'/\tn i s'.heap/\(∀b∈fp,H' b=none)/\W i n σ' H') ?_ m0 ⟨0,σ,H2,I2,st2,λb hb=>(f2 b hb).1,w0⟩;rintro n s3 ⟨i,σ3,H3,I3,st3,fr3,w3⟩;rcases turn i n σ3 H3 w3 with ⟨stop,qn⟩|⟨go,N,hN,step⟩
 ·refine fW hp (thn (T.done X rfl rfl rfl hc i wv s3 σ3 H3 X.xe I3 (stat fr3) st3 stop) λr s4 zz=>?_);obtain⟨hr,I4⟩:=zz;subst hr;exact jN ⟨σ3,H3,I4,qn⟩
 ·refine fW hp (thn (T.item X rfl rfl rfl hc i wv s3 σ3 H3 X.xe I3 (stat fr3) st3 go) λr s4 zz=>?_);obtain⟨u,hr,h4⟩:=zz;subst hr;refine fW hp (thn h4 λ_ s5 zz=>?_);obtain⟨x,H5,I5,r5,y5,st5,fr5⟩:=zz;have I5':=I5.pinned (stat fr5) (T.obj _ _ st5);refine fW hp (thn (hg _ s5 σ3 H5 x u _ I5' r5 (step x H5 y5)) λ_ s6 zz=>?_);obtain⟨σ6,H6,I6,q6⟩:=zz;refine fW hp (thn (hb _ s6 σ6 H6 _ I6 q6) λf s7 q7=>?_);have again:∀{σ7:St} {H7:Hp},Inv X (wv++EJ fp s5.heap) σ7 H7 s7->N σ7 H7->∃m,m<n/\∃i σ' H',Inv X wv σ' H' s7/\tn i s7.heap/\(∀b∈fp,H' b=none)/\W i m σ' H':=λ{σ7 H7} I7 n7=>by obtain⟨m',hm,w7⟩:=hN σ7 H7 n7;refine⟨m',hm,i+1,σ7,H7,I7.unpinned,T.keep _ _ _ st5 λb hb o e=>(I7.pin (b,o) (cy _ (cy _ (yq hb e)))).1,λb hb=>?_,w7⟩;obtain⟨o,e,d⟩:=T.obj _ _ st5 b hb;exact(I7.pin (b,o) (cy _ (cy _ (yq hb e)))).2.1
  cases f with
  |next=>obtain⟨σ7,H7,I7,n7⟩:=q7;exact again I7 n7
  |cont=>obtain⟨σ7,H7,I7,n7⟩:=q7;exact again I7 n7
  |brk=>obtain⟨σ7,H7,I7,q7⟩:=q7;exact⟨σ7,H7,I7.unpinned,q7⟩
  |ret v=>obtain⟨x7,σ7,H7,I7,r7,q7⟩:=q7;exact⟨x7,σ7,H7,I7.unpinned,r7,q7⟩
end
abbrev R2:=V->V->Hp->VK->Prop
def OpR(X:Cx)(f:aa->aa->Sem aa)(r:R2):Prop:=
 ∀(wv:cF) (s:ae) (σ:St) (H:Hp) (x y:V) (v u:aa) (Q:VK),Inv X wv σ H s->RelV x v->RelV y u->r x y H Q->
  aj (model X.prog X.w) X.A (f v u) (EP X wv σ Q) X.xe s
def vq(X:Cx)(f:aa)(r:bG->Hp->VK->Prop):Prop:=
 ∀(wv:cF) (s:ae) (σ:St) (H:Hp) (xs:bG) (us:List aa) (Q:VK),Inv X wv σ H s->Vals xs us->r xs H Q->
  aj (model X.prog X.w) X.A (call f us) (EP X wv σ Q) X.xe s
def tOp(r:R2)(ta tb:TE):TE:=λσ H Q=>ta σ H λx H1=>tb σ H1 λy H2=>r x y H2 Q
def rI(C:Int->Int->Prop)(g:Int->Int->V):R2:=λx y H Q=>∃i j,x=.int i/\y=.int j/\C i j/\Q (g i j) H
def rI0(g:Int->Int->V):R2:=λx y H Q=>∃i j,x=.int i/\y=.int j/\Q (g i j) H
section
variable{X:Cx}{a b c:Expr}{ta tb tc:TE}{pos:Pos}
theorem Vy(ha:PE X a ta)(hb:PE X b tb){wv:cF}{s:ae}{σ:St}{H:Hp}{R:V->V->Hp->Prop}(I:Inv X wv σ H s)
  (h:ta σ H λx H1=>tb σ H1 λy H2=>R x y H2) {Q:aa->ae->Prop} {f:aa->aa->Sem aa}
  (hf:∀v u s2 x y H2,Inv X wv σ H2 s2->RelV x v->RelV y u->R x y H2->aj (model X.prog X.w) X.A (f v u) Q X.xe s2):
  aj (model X.prog X.w) X.A (eval a X.env) (λv s₁=>aj (model X.prog X.w) X.A (eval b X.env) (λu s₂=>aj (model X.prog X.w) X.A (f v u) Q X.xe s₂) X.xe s₁) X.xe s:=by
 refine thn (ha wv s σ H _ I h) λv s1 zz=>?_;obtain⟨x,H1,I1,r1,q1⟩:=zz;refine thn (hb wv s1 σ H1 _ I1 q1) λu s2 zz=>?_;obtain⟨y,H2,I2,r2,q2⟩:=zz;exact hf v u s2 x y H2 I2 r1 r2 q2
theorem LG(ho:OpR X (cO op) r)(ha:PE X a ta)(hb:PE X b tb):PE X (.BinOp a op b pos) (tOp r ta tb):=by intro wv s σ H Q I h;exact wpAny_BinOp (Vy ha hb I h λv u s2 x y H2 I2 rx ry q=>ho wv s2 σ H2 x y v u Q I2 rx ry q)
theorem opI{f:aa->aa->Sem aa}{C:Int->Int->Prop}{g:Int->Int->Int}
  (rule:∀(i j:Int) (t u:Tok) (s:ae) (Q:aa->ae->Prop) (E:aa->ae->Prop),C i j->Q (.int (g i j) s.toks) { s with toks:=s.toks+1 }->aj (model X.prog X.w) X.A (f (.int i t) (.int j u)) Q E s):
  OpR X f (rI C λi j=>.int (g i j)):=by
 intro wv s σ H x y v u Q I rx ry h;obtain⟨i,j,rfl,rfl,hc,q⟩:=h;obtain⟨t,rfl⟩:=rx;obtain⟨t',rfl⟩:=ry;exact rule i j t t' s _ _ hc ⟨.int (g i j),H,I.tok _,⟨_,rfl⟩,q⟩
theorem Zq{f:aa->aa->Sem aa}{g:Int->Int->Int}
  (rule:∀(i j:Int) (t u:Tok) (s:ae) (Q:aa->ae->Prop) (E:aa->ae->Prop),Q (.int (g i j) s.toks) { s with toks:=s.toks+1 }->aj (model X.prog X.w) X.A (f (.int i t) (.int j u)) Q E s):
  OpR X f (rI0 λi j=>.int (g i j)):=by
 intro wv s σ H x y v u Q I rx ry h;obtain⟨i,j,rfl,rfl,q⟩:=h;obtain⟨t,rfl⟩:=rx;obtain⟨t',rfl⟩:=ry;exact rule i j t t' s _ _ ⟨.int (g i j),H,I.tok _,⟨_,rfl⟩,q⟩
theorem RH{f:aa->aa->Sem aa}{g:Int->Int->Bool}
  (rule:∀(i j:Int) (t u:Tok) (s:ae) (Q:aa->ae->Prop) (E:aa->ae->Prop),Q (.bool (g i j)) s->aj (model X.prog X.w) X.A (f (.int i t) (.int j u)) Q E s):
  OpR X f (rI0 λi j=>.bl (g i j)):=by
 intro wv s σ H x y v u Q I rx ry h;obtain⟨i,j,rfl,rfl,q⟩:=h;obtain⟨t,rfl⟩:=rx;obtain⟨t',rfl⟩:=ry;exact rule i j t t' s _ _ ⟨.bl (g i j),H,I,rfl,q⟩
def Vz(i j:Int):Prop:=0<j/\j<1073741824
def Zr(i j:Int):Prop:=0<=j/\j<=1000000/\i.natAbs<2 ^ 64
def RI(i j:Int):Prop:=(-(2 ^ 64)<i/\i<2 ^ 64)\/(-(2 ^ 64)<j/\j<2 ^ 64)
theorem RI.ok(h:RI i j):IntMulOk i j:=by
 rcases h with ⟨h1,h2⟩|⟨h1,h2⟩
 ·exact .of_left (pS h1 h2)
 ·exact .of_right (pS h1 h2)
theorem VA:OpR X (cO .Add) (rI0 λi j=>.int (i+j)):=Zq λ_ _ _ _ _ _ _ q=>add_int q
theorem VB:OpR X (cO .Sub) (rI0 λi j=>.int (i - j)):=Zq λ_ _ _ _ _ _ _ q=>sub_int q
theorem VC:OpR X (cO .Mult) (rI RI λi j=>.int (i * j)):=opI λ_ _ _ _ _ _ _ hc q=>mul_int q hc.ok
theorem RJ:OpR X (cO .FloorDiv) (rI Vz λi j=>.int (i / j)):=opI λi j _ _ _ _ _ hc q=>by have h1:(0:Int)<j:=hc.1;have h2:j<1073741824:=hc.2;exact floordiv_int (by omega) (by rw[Int.fdiv_eq_ediv_of_nonneg i (by omega)];exact q) (.inl (PyProof.noPylong_small (by omega)))
theorem VD:OpR X (cO .Mod) (rI (λ_ j=>0<j) λi j=>.int (i % j)):=opI λi j _ _ _ _ _ hc q=>by have h1:(0:Int)<j:=hc;exact mod_int' (by omega) (by rw[Int.fmod_eq_emod_of_nonneg i (by omega)];exact q)
theorem VE:OpR X (cO .Pow) (rI Zr λi j=>.int (i ^ j.toNat)):=opI λ_ _ _ _ _ _ _ hc q=>pow_int_small hc.1 hc.2.1 hc.2.2 q
end
def Os:V->V->Bool
 |.non,.non=>true|.non,.int _=>true|.int _,.non=>true|.non,.bl _=>true|.bl _,.non=>true|.non,.str _=>true|.str _,.non=>true
 |.int _,.int _=>true|.bl _,.bl _=>true|.str _,.str _=>true|.byt _,.byt _=>true
 |.int _,.str _=>true|.str _,.int _=>true|.bl _,.str _=>true|.str _,.bl _=>true
 |_,_=>false
def rEq:R2:=λx y H Q=>Os x y=true/\Q (.bl (decide (x=y))) H
def rNe:R2:=λx y H Q=>Os x y=true/\Q (.bl (!decide (x=y))) H
theorem LH:decide (V.int i=V.int j)=(i==j):=by rw[eZ];simp
theorem Ot:decide (V.bl i=V.bl j)=(i==j):=by rw[eZ];simp
theorem LI:decide (V.str i=V.str j)=(i==j):=by rw[eZ];simp
theorem LJ:decide (V.byt i=V.byt j)=(i.toList==j.toList):=by rw[eZ];cases i;cases j;simp
section
variable{X:Cx}{a b c:Expr}{ta tb tc:TE}{pos:Pos}
theorem uy(I:Inv X wv σ H s)(q:Q (.bl k) H)(e:k=k'):EP X wv σ Q (.bool k') s:=by subst e;exact⟨.bl k,H,I,rfl,q⟩
theorem Zs:OpR X (br .Eq) rEq:=by
 intro wv s σ H x y v u Q I rx ry h;obtain⟨hs,q⟩:=h;cases x with
 |non=>
  cases rx;cases y with
  |non=>cases ry;exact ri (uy I q (by simp))
  |bl j=>cases ry;exact rj (uy I q (by simp))
  |int j=>obtain⟨t',rfl⟩:=ry;exact rH (uy I q (by simp))
  |str j=>obtain⟨t',rfl⟩:=ry;exact rJ (uy I q (by simp))
  |_=>exact aq (show false=true from hs) bj
 |bl i=>
  cases rx;cases y with
  |non=>cases ry;exact rl (uy I q (by simp))
  |bl j=>cases ry;exact eq_bool (uy I q Ot)
  |str j=>obtain⟨t',rfl⟩:=ry;exact rp (uy I q (by simp))
  |_=>exact aq (show false=true from hs) bj
 |int i=>
  obtain⟨t,rfl⟩:=rx;cases y with
  |non=>cases ry;exact rK (uy I q (by simp))
  |int j=>obtain⟨t',rfl⟩:=ry;exact eq_int (uy I q LH)
  |str j=>obtain⟨t',rfl⟩:=ry;exact rL (uy I q (by simp))
  |_=>exact aq (show false=true from hs) bj
 |str i=>
  obtain⟨t,rfl⟩:=rx;cases y with
  |non=>cases ry;exact rM (uy I q (by simp))
  |bl j=>cases ry;exact rq (uy I q (by simp))
  |int j=>obtain⟨t',rfl⟩:=ry;exact rN (uy I q (by simp))
  |str j=>obtain⟨t',rfl⟩:=ry;exact eq_str (uy I q LI)
  |_=>exact aq (show false=true from hs) bj
 |byt i=>
  obtain⟨t,rfl⟩:=rx;cases y with
  |byt j=>obtain⟨t',rfl⟩:=ry;exact W.eq_bytes (uy I q LJ)
  |_=>exact aq (show false=true from hs) bj
 |_=>cases y<;>exact aq (show false=true from hs) bj
theorem Zt:OpR X (br .NotEq) rNe:=by
 intro wv s σ H x y v u Q I rx ry h;obtain⟨hs,q⟩:=h;cases x with
 |non=>
  cases rx;cases y with
  |non=>cases ry;exact rA (uy I q (by simp))
  |bl j=>cases ry;exact rB (uy I q (by simp))
  |int j=>obtain⟨t',rfl⟩:=ry;exact rO (uy I q (by simp))
  |str j=>obtain⟨t',rfl⟩:=ry;exact rP (uy I q (by simp))
  |_=>exact aq (show false=true from hs) bj
 |bl i=>
  cases rx;cases y with
  |non=>cases ry;exact rD (uy I q (by simp))
  |bl j=>cases ry;exact ne_bool (uy I q (ba not Ot))
  |str j=>obtain⟨t',rfl⟩:=ry;exact rE (uy I q (by simp))
  |_=>exact aq (show false=true from hs) bj
 |int i=>
  obtain⟨t,rfl⟩:=rx;cases y with
  |non=>cases ry;exact rQ (uy I q (by simp))
  |int j=>obtain⟨t',rfl⟩:=ry;exact ne_int (uy I q (ba not LH))
  |str j=>obtain⟨t',rfl⟩:=ry;exact rR (uy I q (by simp))
  |_=>exact aq (show false=true from hs) bj
 |str i=>
  obtain⟨t,rfl⟩:=rx;cases y with
  |non=>cases ry;exact rS (uy I q (by simp))
  |bl j=>cases ry;exact rF (uy I q (by simp))
  |int j=>obtain⟨t',rfl⟩:=ry;exact rT (uy I q (by simp))
  |str j=>obtain⟨t',rfl⟩:=ry;exact ne_str (uy I q (ba not LI))
  |_=>exact aq (show false=true from hs) bj
 |byt i=>
  obtain⟨t,rfl⟩:=rx;cases y with
  |byt j=>obtain⟨t',rfl⟩:=ry;exact W.ne_bytes (uy I q (ba not LJ))
  |_=>exact aq (show false=true from hs) bj
 |_=>cases y<;>exact aq (show false=true from hs) bj
theorem Zu:OpR X (br .Lt) (rI0 λi j=>.bl (decide (i<j))):=RH λ_ _ _ _ _ _ _ q=>lt_int q
theorem Zv:OpR X (br .LtE) (rI0 λi j=>.bl (decide (i<=j))):=RH λ_ _ _ _ _ _ _ q=>le_int q
theorem Zw:OpR X (br .Gt) (rI0 λi j=>.bl (decide (j<i))):=RH λ_ _ _ _ _ _ _ q=>gt_int q
theorem Zx:OpR X (br .GtE) (rI0 λi j=>.bl (decide (j<=i))):=RH λ_ _ _ _ _ _ _ q=>ge_int q
theorem VF:OpR X (br .Is) (λx y H Q=>y=.non/\Q (.bl (decide (x=.non))) H):=by
 intro wv s σ H x y v u Q I rx ry h;obtain⟨rfl,q⟩:=h;cases ry;refine is_none_gen (uy I q ?_);cases x<;>first
  |(cases rx;rfl)
  |(obtain⟨t,rfl⟩:=rx;rfl)
theorem RK:OpR X (br .IsNot) (λx y H Q=>y=.non/\Q (.bl (!decide (x=.non))) H):=by
 intro wv s σ H x y v u Q I rx ry h;obtain⟨rfl,q⟩:=h;cases ry;refine isnot_none_gen (uy I q ?_);cases x<;>first
  |(cases rx;rfl)
  |(obtain⟨t,rfl⟩:=rx;rfl)
theorem RM(ho:OpR X (br op) r)(ha:PE X a ta)(hb:PE X b tb)(hm:fX op b=false):PE X (.Compare a [op] [b] pos) (tOp r ta tb):=by intro wv s σ H Q I h;exact wpAny_Compare1 (Vy ha hb I h λv u s2 x y H2 I2 rx ry q=>ho wv s2 σ H2 x y v u Q I2 rx ry q) hm
def Ou(t:TE):TT:=λσ H Q=>t σ H λx H'=>∃k,x=.bl k/\Q k H'
theorem RN(ho:OpR X (br op) r)(ha:PE X a ta)(hb:PE X b tb)(hm:fX op b=false):PT X (.Compare a [op] [b] pos) (Ou (tOp r ta tb)):=by
 intro wv s σ H Q I h;refine nG (thn (ha wv s σ H _ I h) λv s1 ⟨x,H1,I1,r1,q1⟩=>thn (hb wv s1 σ H1 _ I1 q1) λu s2 ⟨y,H2,I2,r2,q2⟩=>
  thn (ho wv s2 σ H2 x y v u _ I2 r1 r2 q2) λc s3 ⟨z,H3,I3,r3,k,e,q3⟩=>?_) hm
 subst e;cases r3;exact dg ⟨H3,I3,q3⟩
def KC(r r':R2)(ta tb tc:TE):TE:=λσ H Q=>ta σ H λx H1=>tb σ H1 λy H2=>r x y H2 λz H3=>∃k,z=.bl k/\
 (if k=true then tc σ H3 λw' H4=>r' y w' H4 Q else Q (.bl false) H3)
theorem Ov(ho:OpR X (br op) r)(ho':OpR X (br op') r')(ha:PE X a ta)(hb:PE X b tb)(hc:PE X c tc)
  (hm:lastMarks [op,op'] [b,c]=false:=by with_unfolding_all rfl):PE X (.Compare a [op,op'] [b,c] pos) (KC r r' ta tb tc):=by
 intro wv s σ H Q I h;refine Compare_chain (thn (ha wv s σ H _ I h) λv s1 ⟨x,H1,I1,r1,q1⟩=>chain_link (thn (hb wv s1 σ H1 _ I1 q1) λu s2 ⟨y,H2,I2,r2,q2⟩=>
  thn (ho wv s2 σ H2 x y v u _ I2 r1 r2 q2) λd s3 ⟨z,H3,I3,r3,k,e,q3⟩=>?_)) hm
 subst e;cases r3;refine dg ?_;cases k with
 |false=>exact ite_ff ⟨.bl false,H3,I3,rfl,q3⟩
 |true=>exact ite_tt (chain_last (thn (hc wv s3 σ H3 _ I3 q3) λw' s4 ⟨z',H4,I4,r4,q4⟩=>ho' wv s4 σ H4 y z' u w' Q I4 r2 r4 q4))
theorem Ow(ho:OpR X (br op) r)(ho':OpR X (br op') r')(ha:PE X a ta)(hb:PE X b tb)(hc:PE X c tc)
  (hm:lastMarks [op,op'] [b,c]=false:=by with_unfolding_all rfl):PT X (.Compare a [op,op'] [b,c] pos) (Ou (KC r r' ta tb tc)):=by
 intro wv s σ H Q I h;refine isTrue_chain (thn (ha wv s σ H _ I h) λv s1 ⟨x,H1,I1,r1,q1⟩=>test_link (thn (hb wv s1 σ H1 _ I1 q1) λu s2 ⟨y,H2,I2,r2,q2⟩=>
  thn (ho wv s2 σ H2 x y v u _ I2 r1 r2 q2) λd s3 ⟨z,H3,I3,r3,k,e,q3⟩=>?_)) hm
 subst e;cases r3;refine dg ?_;cases k with
 |false=>obtain⟨k',e',q'⟩:=q3;cases e';exact ite_ff ⟨H3,I3,q'⟩
 |true=>refine ite_tt (test_last (thn (hc wv s3 σ H3 _ I3 q3) λw' s4 ⟨z',H4,I4,r4,q4⟩=>thn (ho' wv s4 σ H4 y z' u w' _ I4 r2 r4 q4) λd' s5 ⟨z2,H5,I5,r5,k2,e2,q5⟩=>?_));subst e2;cases r5;exact dg ⟨H5,I5,q5⟩
theorem EK:(aG:Nat)<2 ^ 63:=by rw[bN];decide
theorem vals1(r:Vals [x] us):∃u,us=[u]/\RelV x u:=by
 cases r with
 |cons r1 r2=>cases r2;exact⟨_,rfl,r1⟩
theorem vals2(r:Vals [x,y] us):∃u w',us=[u,w']/\RelV x u/\RelV y w':=by
 cases r with
 |cons r1 r2=>
  cases r2 with
  |cons r3 r4=>cases r4;exact⟨_,_,rfl,r1,r3⟩
theorem M7:vq X (.type "int") (λxs H Q=>(∃i,xs=[.int i]/\Q (.int i) H)\/∃k,xs=[.bl k]/\Q (.int (if k then 1 else 0)) H):=by
 intro wv s σ H xs us Q I r h;rcases h with ⟨i,rfl,q⟩|⟨k,rfl,q⟩
 ·obtain⟨u,rfl,t,rfl⟩:=vals1 r;exact call_int_int ⟨.int i,H,I,⟨_,rfl⟩,q⟩
 ·obtain⟨u,rfl,r1⟩:=vals1 r;cases r1;exact call_int_bool ⟨.int (if k then 1 else 0),H,I.tok _,⟨_,rfl⟩,q⟩
end
structure KD(h:Heap)(x dx C:Addr)(mA:Str->Option aa):Prop where
 obj:h.get? x=some (eJ C dx)
 ns:h.Ns1 dx mA
 ne:dx≠x
theorem M8{h:Heap}(n:h.Ns1 dx mA):∃od,h.get? dx=some od/\∀name,j7 name od=some (mA name):=by
 obtain⟨o,es,ep,ho,hd,hk,_,hm⟩:=n;refine⟨o,ho,λname=>?_⟩;have e:=hm name;unfold nsFind findBy at e;rw[<-Array.find?_toList]at e;unfold j7;rw[hd];dsimp only;split
 ·rename_i y q;rw[q]at e;exact ba some e
 ·rename_i q;rw[q]at e;have a:es.toList.any (·.refKey)=false:=by rw[oE];intro y hy;obtain⟨z,t,hkey⟩:=hk y (Array.mem_toList_iff.mp hy);simp[DictEntry.refKey,hkey]
  have a':¬es.toList.any (·.refKey)=true:=by rw[a];exact bj
  rw[ai a'];exact ba some e
theorem KD.look(I:KD h x dx C mA):∃od,W.InstAt h x (eJ C dx) C (some od)/\∀name,j7 name od=some (mA name):=
 let ⟨od,ho,hl⟩:=M8 I.ns
 ⟨od,⟨I.obj,rfl,rfl,ho⟩,hl⟩
section
variable{prog:aH}{w:aA}{A:aI}{E:aa->ae->Prop}{s:ae}{K:au}{x dx C f:Addr}{mA:Str->Option aa}{name:Str}{v:aa}
theorem get_map(X:K.In s.heap)(I:KD s.heap x dx C mA)(hg:jY K C name=true)(hh:l4 K C=true)
  (ha:cP K (.ref C) name=some none) (hv:mA name=some v) (hv':W.handedIn v=true) (h:Q v { s with toks:=s.toks+1 }):
  aj (model prog w) A (getAttr (.ref x) name expr) Q E s:=by
 obtain⟨od,J,hl⟩:=I.look;exact W.get_value X J (lK hg).1 (W.findObj_own hh ha rfl (by rw[hl,hv])) hv' h
theorem Ox(X:K.In s.heap)(I:KD s.heap x dx C mA)(hg:jY K C name=true)
  (hf:cP K (.ref C) name=some (some (.ref f))) (ht:j9 K (.ref f)=true) (hv:mA name=none) (h:Q (.ref f,[.ref x]) s):
  aj (model prog w) A (getMethod (.ref x) name pl) Q E s:=by
 obtain⟨od,J,hl⟩:=I.look;exact W.method_fn X J (lK hg).1 (lK hg).2 hf (beq_iff_eq.mp ht) (by show (j7 name od).map (·.isSome)=some false;rw[hl,hv];rfl) h
theorem RO(X:K.In s.heap)(I:KD s.heap x dx C mA)
  (hs:cP K (.ref C) "__setattr__" = some (some (.builtin "object.__setattr__"))) (hp:qm K C=true) (ht:mw K C name=some none) (hh:l4 K C=true)
  (hw:lU mA ns) (hsz:ns.length<=aG)
  (h:∀h',KD h' x dx C (λy=>if y=name then some v else mA y)->f9 dx s.heap h'->Q () { s with heap:=h',toks:=s.toks+2 }):
  aj (model prog w) A (setAttr (.ref x) name v) Q E s:=by
 obtain⟨od,J,hl⟩:=I.look;refine W.set_plain X J hs (W.osa_open (s:={ s with toks:=s.toks+1 }) (r:=none) X J hp ht λb=>?_);obtain⟨cd,hc,hd'⟩:=W.any_some hh;have hx:s.heap.get? x=some ⟨.ref C,some dx,.plain,#[]⟩:=I.obj;refine ag (ar (ag (ag (wpAny_loadPart hx (ag (W.Looks.here (s:={ s with toks:=s.toks+1 }) (W.looks_clsIn X hc) ?_))))));rw[hd'];refine ar (a:=some dx) (ag (ar (ag ?_)));refine wpAny_nsSet1 (s:={ s with toks:=s.toks+1 }) I.ns λh' hn2 hs2=>?_;obtain⟨oD,esD,epD,hoD,hdD,hcD⟩:=hn2.count (sT name v hw);refine ag (wpAny_lookBehind hoD (by rw[hdD];exact pastItsLine_dict (bM hcD (by rw[aM];omega))) ?_);exact ar (h _ ⟨(hs2.2 _ (cD I.ne)).trans I.obj,hn2,I.ne⟩ hs2)
theorem Oy(X:K.In s.heap)(hm:mx K C=true)
  (hi:cP K (.ref C) "__init__" = some (some (.ref f))) (hf:W.typeIn K (.ref f)=some (.type "function"))
  (h:cq (model prog w) (A.under (.builtin "type.__call__" ⟨.ref C::vs,kw⟩)) (.call (.ref f) ⟨.ref (s.heap.objs.size+1)::vs,kw⟩) (W.InitBack (s.heap.objs.size+1) R)
   { s with heap:=(s.heap.push dJ).push (eJ C s.heap.objs.size) }):
  cq (model prog w) A (.call (.ref C) ⟨vs,kw⟩) R s:=by
 obtain⟨hh,g,d,t,os⟩:=s;exact qo (mr X hm) (pB X hi) (λself=>W.bind_fn X self hf) (.inl rfl) h
theorem M9(X:K.In s.heap)(hm:mx K C=true)
  (hi:cP K (.ref C) "__init__" = some (some (.builtin "object.__init__")))
  (hb:∀self,W.Looks (model prog w) s.heap (bindSpecial (.builtin "object.__init__") self) (.builtin "object.__init__", [self]))
  (h:cq (model prog w) (A.under (.builtin "type.__call__" ⟨[.ref C],[]⟩)) (.call (.builtin "object.__init__") ⟨[.ref (s.heap.objs.size+1)],[]⟩) (W.InitBack (s.heap.objs.size+1) R)
   { s with heap:=(s.heap.push dJ).push (eJ C s.heap.objs.size) }):
  cq (model prog w) A (.call (.ref C) ⟨[],[]⟩) R s:=by
 obtain⟨hh,g,d,t,os⟩:=s;exact qo (mr X hm) (pB X hi) hb (.inr ⟨rfl,rfl⟩) h
end
def zl(f:Str)(v:V):List (Str×V)->List (Str×V)
 |[]=>[(f,v)]
 |(g,x)::r=>if g=f then (g,v)::r else (g,x)::zl f v r
theorem Dv(f g:Str)(v:V):∀fs:List (Str×V),(zl f v fs).lookup g=if g=f then some v else fs.lookup g
 |[]=>by
  show dr g [(f,v)]=_;by_cases h:g=f
  ·have hb:(g==f)=true:=beq_iff_eq.mpr h;simp only[dr,hb,ah h]
  ·have hb:(g==f)=false:=beq_eq_false_iff_ne.mpr h;simp only[dr,hb,ai h]
 |(k,x)::r=>by
  have ih:=Dv f g v r;rw[show zl f v ((k,x)::r)=(if k=f then (k,v)::r else (k,x)::zl f v r) from rfl];by_cases hk:k=f
  ·rw[ah hk];by_cases h:g=k
   ·have hb:(g==k)=true:=beq_iff_eq.mpr h;simp only[dr,hb,ah (h.trans hk)]
   ·have hb:(g==k)=false:=beq_eq_false_iff_ne.mpr h;simp only[dr,hb,ai (λe:g=f=>h (e.trans hk.symm))]
  ·rw[ai hk];by_cases h:g=k
   ·have hb:(g==k)=true:=beq_iff_eq.mpr h;simp only[dr,hb,ai (λe:g=f=>hk (h.symm.trans e))]
   ·have hb:(g==k)=false:=beq_eq_false_iff_ne.mpr h;simp only[dr,hb];exact ih
theorem CP(f:Str)(v:V):∀fs:List (Str×V),f∈(zl f v fs).map (·.1)/\∀g,g∈fs.map (·.1)->g∈(zl f v fs).map (·.1)
 |[]=>⟨by simp[zl],λg h=>by simp at h⟩
 |(k,x)::r=>by
  obtain⟨i1,i2⟩:=CP f v r;rw[show zl f v ((k,x)::r)=(if k=f then (k,v)::r else (k,x)::zl f v r) from rfl];by_cases hk:k=f
  ·rw[ah hk];subst hk;exact⟨by simp,λg h=>by simpa using h⟩
  ·rw[ai hk];refine⟨?_,λg h=>?_⟩
   ·rw[aE];exact bu _ i1
   ·rw[aE]at h ⊢;rcases aN.mp h with e|e
    ·exact aN.mpr (.inl e)
    ·exact bu _ (i2 g e)
theorem Dw(f:Str)(v:V):∀fs:List (Str×V),(zl f v fs).length<=fs.length+1
 |[]=>by simp[zl]
 |(k,x)::r=>by
  have ih:=Dw f v r;rw[show zl f v ((k,x)::r)=(if k=f then (k,v)::r else (k,x)::zl f v r) from rfl];by_cases hk:k=f
  ·rw[ah hk,aM,aM];omega
  ·rw[ai hk,aM,aM];omega
theorem As.some_of(r:As (some v) o):∃u,o=some u/\RelV v u:=by
 cases o with
 |none=>exact(show False from r).elim
 |some u=>exact⟨u,rfl,r⟩
theorem As.none_of(r:As none o):o=none:=by
 cases o with
 |none=>rfl
 |some u=>exact(show False from r).elim
theorem Na(r:RelV v u):W.handedIn u=true:=by
 cases v with
 |non=>cases (show u=Value.none from r);rfl
 |bl b=>cases (show u=Value.bool b from r);rfl
 |int i=>obtain⟨t,e⟩:=(show ∃t,u=Value.int i t from r);cases e;rfl
 |str x=>obtain⟨t,e⟩:=(show ∃t,u=Value.str x t from r);cases e;rfl
 |byt b=>obtain⟨t,e⟩:=(show ∃t,u=Value.bytes b t from r);cases e;rfl
 |flt b=>obtain⟨t,e⟩:=(show ∃t,u=Value.float b t from r);cases e;rfl
 |ref a=>cases (show u=Value.ref a from r);rfl
 |ty n=>cases (show u=Value.type n from r);rfl
section
variable{P:aH}{w:aA}{H H':Hp}{h h':Heap}{a C dx:Addr}{fs fs':List (Str×V)}
theorem zF(hok:HOk P w H h)(e:H a=some (.ins C dx fs)):∃mA,KD h a dx C mA/\(∀f,As (fs.lookup f) (mA f))/\lU mA (fs.map (·.1))/\fs.length<=1000/\H dx=some (.own a):=by obtain⟨d,z,ne,ob,mA,n,r,q⟩:=(show uQ P w H h a (.ins C dx fs) from hok a _ e);exact⟨mA,⟨ob,n,ne⟩,r,q,z,d⟩
end
structure Cls(K:au)(C:Addr):Prop where
 pg:jY K C Str.empty=true
 hd:l4 K C=true
 po:qm K C=true
 sa:cP K (.ref C) "__setattr__" = some (some (.builtin "object.__setattr__"))
theorem Cls.get{K:au}(c:Cls K C)(f:Str):jY K C f=true:=c.pg
def yt(K:au)(C:Addr)(f:Str):Prop:=cP K (.ref C) f=some none
theorem yt.taker{K:au}(n:yt K C f):mw K C f=some none:=by unfold mw;rw[show cP K (.ref C) f=some none from n];rfl
structure Meth(K:au)(C:Addr)(m:Str)(f:Addr):Prop where
 at_:cP K (.ref C) m=some (some (.ref f))
 fn:j9 K (.ref f)=true
 kp:dS K (.ref f)=true
section
variable{X:Cx}{wv:cF}{σ:St}{H:Hp}{s:ae}{a C dx:Addr}{fs:List (Str×V)}{f:Str}{v:V}{A:aI}{E:aa->ae->Prop}
theorem KE(I:Inv X wv σ H s)(e:H a=some (.ins C dx fs))(c:Cls X.K C)(n:yt X.K C f)(l:fs.lookup f=some v)
  (h:∀u s',Inv X wv σ H s'->RelV v u->Q u s'):aj (model X.prog X.w) A (getAttr (.ref a) f b) Q E s:=by
 obtain⟨mA,O,r,_,_,_⟩:=zF I.hok e;obtain⟨u,hu,ru⟩:=As.some_of (v:=v) (o:=mA f) (by rw[<-l];exact r f);exact get_map I.kIn O (c.get f) c.hd n hu (Na ru) (h u _ (I.tok _) ru)
theorem EL(I:Inv X wv σ H s)(e:H a=some (.ins C dx fs))(c:Cls X.K C)(k:Meth X.K C m g)(l:fs.lookup m=none)
  (h:Q (.ref g,[.ref a]) s):aj (model X.prog X.w) A (getMethod (.ref a) m pl) Q E s:=by
 obtain⟨mA,O,r,_,_,_⟩:=zF I.hok e;have hn:mA m=none:=As.none_of (by rw[<-l];exact r m);exact Ox I.kIn O (c.get m) k.at_ k.fn hn h
theorem KF(I:Inv X wv σ H s)(e:H a=some (.ins C dx fs))(c:Cls X.K C)(n:yt X.K C f)(hl:fs.length<1000)(ry:RelV y u)
  (h:∀s',Inv X wv σ (upd H a (.ins C dx (zl f y fs))) s'->Q () s'):aj (model X.prog X.w) A (setAttr (.ref a) f u) Q E s:=by
 obtain⟨mA,O,r,wi,_,ho⟩:=zF I.hok e;have hz:(fs.map (·.1)).length<=aG:=by rw[af,bN];omega
 refine RO I.kIn O c.sa c.po n.taker c.hd wi hz λh' O' sb=>h _ ?_;have hd:∃o,h'.get? dx=some o:=let ⟨o,_,_,e',_⟩:=O'.ns;⟨o,e'⟩;refine I.write (x:=a) (e:=dx) (by rw[e];exact True.intro) (.inr ho) (λb q hb z=>(sb.2 b hb).trans z) hd ?_;refine⟨by rw[tR O.ne];exact ho,?_,O.ne,O'.obj,_,O'.ns,λg=>?_,λg hg=>?_⟩
 ·have:=Dw f y fs;omega
 ·show As ((zl f y fs).lookup g) (if g=f then some u else mA g);rw[Dv];by_cases q:g=f
  ·rw[ah q,ah q];exact ry
  ·rw[ai q,ai q];exact r g
 ·by_cases q:g=f
  ·rw[q];exact(CP f y fs).1
  ·refine(CP f y fs).2 g (wi g λz=>hg ?_);show (if g=f then some u else mA g)=none;rw[ai q];exact z
theorem Inv.made(I:Inv X wv σ H s):Inv X wv σ (upd (upd H s.heap.objs.size (.own (s.heap.objs.size+1))) (s.heap.objs.size+1) (.ins C s.heap.objs.size []))
  { s with heap:=(s.heap.push dJ).push (eJ C s.heap.objs.size) }:=by
 have e1:(s.heap.push dJ).get? s.heap.objs.size=some dJ:=bp s.heap rfl;have e2:((s.heap.push dJ).push (eJ C s.heap.objs.size)).get? (s.heap.objs.size+1)=some (eJ C s.heap.objs.size):=by
  have:=bp (s.heap.push dJ) (o:=eJ C s.heap.objs.size) rfl
  rwa [cK]at this
 have e3:(s.heap.push dJ).Ns s.heap.objs.size (λ_=>none):=⟨dJ,#[],_,e1,rfl,(λe he=>aq he (by simp)),λ_=>rfl⟩;have I1:=I.laid (a:=s.heap.objs.size) (o:=.own (s.heap.objs.size+1)) (h':=s.heap.push dJ) (t':=s.toks) (λb u q=>aC _ q) (ay _) ⟨_,e1⟩;refine I1.laid (a:=s.heap.objs.size+1) (o:=.ins C s.heap.objs.size []) (t':=s.toks) (λb u q=>aC _ q) (lV (cK _ _)) ?_;have ne:s.heap.objs.size≠s.heap.objs.size+1:=aR (cR _);refine⟨by rw[tR ne,tP],bA _,ne,e2,λ_=>none,(Heap.Ns1.of_empty e3).at λo q=>aC _ q,λ_=>True.intro,λy hy=>aq rfl hy⟩
theorem RP(hb:fz e f env (eval e env)=eval e env)
  (h:aj (model prog w) A (eval e env) (λo s₁=>aj (model prog w) A (getAttr o f true) Q E s₁) E s):aj (model prog w) A (eval (.Attribute e f pos) env) Q E s:=
 Attribute_any_ h (by rw[arm_eval_Attribute,hb])
end
def tFld(K:au)(ta:TE)(f:Str):TE:=λσ H Q=>ta σ H λx H1=>∃a C dx fs v,x=.ref a/\H1 a=some (.ins C dx fs)/\Cls K C/\yt K C f/\fs.lookup f=some v/\Q v H1
def Zy(K:au)(ta tv:TE)(f:Str):TS:=λD σ H=>tv σ H λy H1=>ta σ H1 λx H2=>∃a C dx fs,x=.ref a/\H2 a=some (.ins C dx fs)/\Cls K C/\yt K C f/\fs.length<1000/\
 D.nx σ (upd H2 a (.ins C dx (zl f y fs)))
section
variable{X:Cx}{o e value:Expr}{f:Str}{pos pos' tpos:Pos}{ta tv:TE}
theorem VG(he:PE X e ta)(hb:fz e f X.env (eval e X.env)=eval e X.env):PE X (.Attribute e f pos) (tFld X.K ta f):=by intro wv s σ H Q I h;refine RP hb (thn (he wv s σ H _ I h) λu s1 zz=>?_);obtain⟨x,H1,I1,rx,a,C,dx,fs,v,ex,ea,c,n,l,q⟩:=zz;subst ex;obtain rfl:u=Value.ref a:=rx;exact KE I1 ea c n l λu' s2 I2 ru=>⟨v,H1,I2,ru,q⟩
theorem VH(ha:PE X o ta)(hv:PE X value tv)(hs:dR value (some (.Attribute o f pos')) pos.line X.env=pure false):PS X (.Assign [.Attribute o f pos'] value pos) (Zy X.K ta tv f):=by intro wv s σ H D I h;refine plainObj_wpAny_Assign_Attribute (thn (hv wv s σ H _ I h) λu s1 ⟨y,H1,I1,ry,q⟩=>thn (ha wv s1 σ H1 _ I1 q) λov s2 zz=>?_) hs;obtain⟨x,H2,I2,rx,a,C,dx,fs,ex,ea,c,n,l,q2⟩:=zz;subst ex;obtain rfl:ov=Value.ref a:=rx;exact KF I2 ea c n l ry λs3 I3=>⟨σ,_,I3,q2⟩
end
section
variable{X:Cx}{wv:cF}{σ:St}{H:Hp}{s:ae}{A:aI}{E:aa->ae->Prop}{Q:aa->ae->Prop}{c:aa}{b:Bool}
inductive Ep(K:au) (H:Hp):V->aa->Prop where
 |non:Ep K H .non (.type "NoneType")
 |bl (x:Bool):Ep K H (.bl x) (.type "bool")
 |int (i:Int):Ep K H (.int i) (.type "int")
 |str (x:Str):Ep K H (.str x) (.type "str")
 |flt (x:UInt64):Ep K H (.flt x) (.type "float")
 |lst {a:Addr} {xs:bG} (e:H a=some (.lst xs)):Ep K H (.ref a) (.type "list")
 |frz {a:Addr} {o:Obj} {xs:bG} (e:H a=some (.frz o (.lst xs))):Ep K H (.ref a) (.type "list")
 |tup {a:Addr} {xs:bG} (e:H a=some (.tup xs)):Ep K H (.ref a) (.type "tuple")
 |dK {a:Addr} {kvs:List (Key×V)} (e:H a=some (.dK kvs)):Ep K H (.ref a) (.type "dict")
 |dT {a:Addr} {kvs:List (List Key×V)} (e:H a=some (.dT kvs)):Ep K H (.ref a) (.type "dict")
 |ins {a C dx:Addr} {fs:List (Str×V)} (e:H a=some (.ins C dx fs)) (cl:Cls K C) (ha:cP K (.ref C) "__class__" = some (some (.builtin "object.__class__")))
   (hn:qp K (.builtin "object.__class__") "__get__" = some (some (.builtin "getset_descriptor.__get__"))) (htk:W.takesIn K (.builtin "object.__class__")=some true)
   (hm:W.mroIn K C (.type "object")=some true):Ep K H (.ref a) (.ref C)
theorem yj(I:Inv X wv σ H s)(rx:RelV x u)(ty:Ep X.K H x t)(e:c8 X.K t c=some b)(h:∀tk,Q (.bool b) { s with toks:=tk }):
  aj (model X.prog X.w) A (call (.builtin "isinstance") [u,c]) Q E s:=by
 cases ty with
 |non=>cases (show u=Value.none from rx);exact cN W.kitx_none I.kIn True.intro e (λz=>nomatch z) h
 |bl y=>cases (show u=Value.bool y from rx);exact cN W.kitx_bool I.kIn True.intro e (λz=>nomatch z) h
 |int i=>obtain⟨t,q⟩:=(show ∃t,u=Value.int i t from rx);cases q;exact cN W.kitx_int I.kIn True.intro e (λz=>nomatch z) h
 |str y=>obtain⟨t,q⟩:=(show ∃t,u=Value.str y t from rx);cases q;exact cN W.kitx_str I.kIn True.intro e (λz=>nomatch z) h
 |flt y=>obtain⟨t,q⟩:=(show ∃t,u=Value.float y t from rx);cases q;exact cN W.kitx_float I.kIn True.intro e (λz=>nomatch z) h
 |@lst a xs ea=>cases (show u=Value.ref a from rx);obtain⟨_,_,n,_,h1⟩:=(show uQ X.prog X.w H s.heap a (.lst xs) from I.hok a _ ea);exact cN l5 I.kIn ⟨_,h1,rfl⟩ e (λz=>nomatch z) h
 |@frz a ob xs ea=>cases (show u=Value.ref a from rx);obtain⟨_,_,_,n,_,h1⟩:=(show uQ X.prog X.w H s.heap a (.frz ob (.lst xs)) from I.hok a _ ea);exact cN l5 I.kIn ⟨_,h1,rfl⟩ e (λz=>nomatch z) h
 |@tup a xs ea=>cases (show u=Value.ref a from rx);obtain⟨_,_,_,p⟩:=(show uQ X.prog X.w H s.heap a (.tup xs) from I.hok a _ ea);obtain⟨o,h1,h2,_⟩:=p;exact cN qd I.kIn ⟨o,h1,h2⟩ e (λz=>nomatch z) h
 |@dK a kvs ea=>cases (show u=Value.ref a from rx);obtain⟨_,_,vs,_,p⟩:=(show uQ X.prog X.w H s.heap a (.dK kvs) from I.hok a _ ea);obtain⟨o,es,ep,h1,h2,_⟩:=p;exact cN l6 I.kIn ⟨o,h1,h2.1⟩ e (λz=>nomatch z) h
 |@dT a kvs ea=>cases (show u=Value.ref a from rx);obtain⟨_,_,xs,_,o,es,ep,h1,h2,_⟩:=(show uQ X.prog X.w H s.heap a (.dT kvs) from I.hok a _ ea);exact cN l6 I.kIn ⟨o,h1,h2.1⟩ e (λz=>nomatch z) h
 |@ins a C dx fs ea cl ha hn htk hm=>cases (show u=Value.ref a from rx);obtain⟨mA,O,_⟩:=zF I.hok ea;obtain⟨od,J,_⟩:=O.look;exact cN (W.kitx_own (cl.get _) cl.hd ha hn htk hm) I.kIn J e (λz=>nomatch z) h
end
structure u9(k:Nat)(A:aI):Prop where
 hd:A.handled=none
 dp:A.depth+3 * k+5<recursionLimit
 un:A.units+16 * k+200<cLine
theorem u9.mono(r:u9 k A)(h:j<=k):u9 j A:=⟨r.hd,by have:=r.dp;omega,by have:=r.un;omega⟩
theorem u9.deeper(r:u9 (k+1) A)(env:Env):u9 k (A.deeper env):=
 ⟨r.hd,by have:=r.dp;show A.depth+1+3 * k+5<_;omega,by have:=r.un;show A.units+3+16 * k+200<_;omega⟩
theorem KG{A:aI}:(A.under (.builtin "type.__call__" ⟨.ref C::us,kw⟩)).depth=A.depth+1:=by
 first|rfl|simp[lW,Code.weight,Code.isCreation,Code.isGuard,Code.isCaller,qq,lX,guardIds]
theorem KH{A:aI}:(A.under (.builtin "type.__call__" ⟨.ref C::us,kw⟩)).units=A.units+1:=by
 first|rfl|simp[lW,Code.cUnits,qq,lX]
theorem u9.make(r:u9 (k+1) A)(C:Addr)(us:List aa)(kw:List (Str×aa)):u9 k (A.under (.builtin "type.__call__" ⟨.ref C::us,kw⟩)):=
 ⟨r.hd,by have:=r.dp;rw[KG];omega,by have:=r.un;rw[KH];omega⟩
theorem u9.depth(r:u9 k A):A.depth<recursionLimit:=by have:=r.dp;omega
theorem u9.units(r:u9 k A):A.units+64<cLine:=by have:=r.un;omega
def Jb:TA:=λ_ H Q=>Q [] H
def EM(ta:TE)(tr:TA):TA:=λσ H Q=>ta σ H λx H1=>tr σ H1 λxs H2=>Q (x::xs) H2
section
variable{X:Cx}{e:Expr}{es:List Expr}{te:TE}{t:TA}{pos:Pos}
theorem xP:PA X [] Jb:=λ_ _ _ _ H Q I h=>fR ⟨[],H,I,.nil,h⟩
theorem u5(ha:PE X e te)(hr:PA X es t)(hs:aw (e::es) X.env=(false,eval e X.env)::aw es X.env:=by rfl):PA X (e::es) (EM te t):=by intro pos wv s σ H Q I h;rw[hs];show aj _ _ (spliced ((false,eval e X.env)::bt pos (aw es X.env))) _ _ s;refine eF (thn (ha wv s σ H _ I h) λu s1 zz=>?_);obtain⟨x,H1,I1,r1,q1⟩:=zz;exact thn (hr pos wv s1 σ H1 _ I1 q1) λus s2 ⟨xs,H2,I2,r2,q2⟩=>⟨x::xs,H2,I2,.cons r1 r2,q2⟩
def tTup(t:TA):TE:=λσ H Q=>t σ H λxs H1=>xs.length<=aG/\∀p,H1 p=none->Q (.ref p) (upd H1 p (.tup xs))
def Zz(t:TA):TE:=λσ H Q=>t σ H λxs H1=>xs.length<=aG/\∀p,H1 p=none->Q (.ref p) (upd H1 p (.lst xs))
theorem VI{x1}(h:PA X es t):PE X (.Tuple es x1 pos) (tTup t):=by intro wv s σ H Q I hq;refine wpAny_Tuple_spliced (thn (h pos wv s σ H _ I hq) λus s1 ⟨xs,H1,I1,r,z,q⟩=>⟨by rw[<-r.length];exact z,?_⟩);have hf:H1 s1.heap.objs.size=none:=I1.hok.fresh (ay _);refine⟨.ref s1.heap.objs.size,upd H1 s1.heap.objs.size (.tup xs),I1.laid (t':=s1.toks) (λb u e=>aC _ e) (ay _) ?_,rfl,q _ hf⟩;exact⟨z,us,r,⟨_,bp _ rfl,rfl,_,rfl⟩⟩
theorem Oz(h:PA X es t):PE X (.List es pos) (Zz t):=by intro wv s σ H Q I hq;refine wpAny_List_spliced (thn (h pos wv s σ H _ I hq) λus s1 ⟨xs,H1,I1,r,z,q⟩=>⟨by rw[<-r.length];exact z,?_⟩);have hf:H1 s1.heap.objs.size=none:=I1.hok.fresh (ay _);refine⟨.ref s1.heap.objs.size,upd H1 s1.heap.objs.size (.lst xs),I1.laid (t':=s1.toks) (λb u e=>aC _ e) (ay _) ?_,rfl,q _ hf⟩;exact⟨z,us,0,r,bp _ rfl⟩
end
abbrev Sp:=bG->Hp->VK->XK->Prop
abbrev CXT:=List Env->Hp->ae->XK->aa->ae->Prop
structure KI(P:aH)(w:aA)(K:au)(mg:Str->Option aa)(base:Heap)(A:aI)(outer:List Env)(s:ae)(H:Hp):Prop where
 frames:A.frames=some outer
 mod:Mod K mg base
 bs:∀b o,base.get? b=some o->s.heap.get? b=some o/\H b=none
 bsz:base.objs.size<=s.heap.objs.size
 funs:s.heap.FunFrames base outer
 frf:∀b∈frs outer,H b=none
 hok:HOk P w H s.heap
 bare:eM s.gens
def CE(outer:List Env)(P:aH)(w:aA)(H:Hp)(s:ae)(Q:VK)(u:aa)(s':ae):Prop:=
 ∃v H',s'.os=s.os/\eM s'.gens/\Un (frs outer) [] H H' s.heap s'.heap/\HOk P w H' s'.heap/\RelV v u/\Q v H'
def CR(CX:CXT)(outer:List Env)(P:aH)(w:aA)(H:Hp)(s:ae)(Q:VK)(E:XK)(r:fF)(s':ae):Prop:=
 match r with
 |.ok (.ret u)=>CE outer P w H s Q u s'
 |.ok _=>False
 |.error e=>CX outer H s E e s'
structure wY(P:aH)(w:aA)(K:au)(mg:Str->Option aa)(base:Heap)(CX:CXT)(k:Nat)(f:Addr)(fd:cg)(ps:aD)(sp:Sp):Prop where
 len:∀vs H Q E,sp vs H Q E->vs.length=ps.length
 run:∀(A:aI) (outer:List Env) (s:ae) (H:Hp) (args:Args) (us:List aa) (vs:bG) (Q:VK) (E:XK),u9 k A->KI P w K mg base A outer s H->ip s fd args (ps.zip us)->Vals vs us->sp vs H Q E->
  cq (model P w) A (.call (.ref f) args) (CR CX outer P w H s Q E) s
theorem wY.mono{K:au}(F:wY P w K mg base CX j f fd ps sp)(h:j<=k):
  wY P w K mg base CX k f fd ps sp:=⟨F.len,λA outer s H args us vs Q E hr=>F.run A outer s H args us vs Q E (hr.mono h)⟩
theorem wY.imp{K:au}(F:wY P w K mg base CX k f fd ps sp)
  (h:∀vs H Q E,sp' vs H Q E->sp vs H Q E):wY P w K mg base CX k f fd ps sp':=
 ⟨λvs H Q E q=>F.len vs H Q E (h _ _ _ _ q),λA outer s H args us vs Q E hr he hb hv hs=>F.run A outer s H args us vs Q E hr he hb hv (h _ _ _ _ hs)⟩
theorem KI.make{K:au}(e:KI P w K mg base A outer s H)(C:Addr)(us:List aa)(kw:List (Str×aa)):
  KI P w K mg base (A.under (.builtin "type.__call__" ⟨.ref C::us,kw⟩)) outer s H:=⟨by first|exact e.frames|(simpa [lW,Code.envs,lX,pushEnvs]using e.frames),e.mod,e.bs,e.bsz,e.funs,e.frf,e.hok,e.bare⟩
section
variable{X:Cx}{wv:cF}{σ:St}{H:Hp}{s s':ae}
theorem Inv.env0(I:Inv X wv σ H s):KI X.prog X.w X.K X.mg X.base X.A X.stack s H:=
 ⟨I.ok.frames,I.ok.mod,I.bs,bM I.ok.bsz I.sz,I.stack,I.stkFree,I.hok,I.bare⟩
theorem Inv.after(I:Inv X wv σ H s)(h:CE X.stack X.prog X.w H s Q u s'):EP X wv σ Q u s':=by obtain⟨v,H',os,bare,un,hok,r,q⟩:=h;obtain⟨hh,g,d,t,os'⟩:=s';obtain rfl:os'=s.os:=os;exact⟨v,H',I.call (h':=hh) (g':=g) (d':=d) (t':=t) (ch:=[]) un hok bare (λb z=>aq z (by simp)),r,q⟩
end
def Av(sp:Sp)(dvs:bG)(E:XK)(t:TA):TE:=λσ H Q=>t σ H λvs H1=>sp (vs++dvs) H1 Q E
def UL(C:Addr)(sp:Sp)(dvs:bG)(E:XK)(t:TA):TE:=λσ H Q=>t σ H λvs H1=>∀x dx,H1 x=none->H1 dx=none->dx≠x->
 sp (.ref x::(vs++dvs)) (upd (upd H1 dx (.own x)) x (.ins C dx [])) (λv H2=>v=.non/\Q (.ref x) H2) E
def Binds(K:au)(fd:cg)(ps:aD)(ds:List aa):Prop:=
 ∀(s:ae) (us:List aa),K.In s.heap->(us++ds).length=ps.length->ip s fd ⟨us,[]⟩ (ps.zip (us++ds))
theorem Binds.all{K:au}{ps:aD}(h:∀us:List aa,us.length=ps.length->bindArgs fd ⟨us,[]⟩=pure (ps.zip us)):Binds K fd ps []:=λs us _ hl=>by rw[bq]at hl ⊢;exact .of_eq (h us hl)
def Passes(CX:CXT)(X:Cx)(E:XK):Prop:=∀(wv:cF) (σ:St) (H:Hp) (s:ae) (e:aa) (s':ae),Inv X wv σ H s->CX X.stack H s E e s'->X.xe e s'
section
variable{X:Cx}{CX:CXT}{k:Nat}{f C:Addr}{fd:cg}{ps:aD}{sp:Sp}{dvs:bG}{ds:List aa}{E:XK}{x m:Str}{p pos apos:Pos}{e o:Expr}{es:List Expr}{ta:TE}{t:TA}
theorem HB(F:wY X.prog X.w X.K X.mg X.base CX k f fd ps sp)(hr:u9 k X.A)(hb:Binds X.K fd ps ds)(hd:Vals dvs ds)(hx:Passes CX X E)
  (I:Inv X wv σ H s) (r:Vals vs us) (h:sp (vs++dvs) H Q E):aj (model X.prog X.w) X.A (call (.ref f) us) (EP X wv σ Q) X.xe s:=by
 have r2:Vals (vs++dvs) (us++ds):=r.append hd;have hl:(us++ds).length=ps.length:=by rw[<-r2.length];exact F.len _ _ _ _ h
 refine jZ (hG (F.run X.A X.stack s H ⟨us,[]⟩ (us++ds) (vs++dvs) Q E hr I.env0 (hb s us I.kIn hl) r2 h) λr s' hq=>?_);cases r with
 |error e=>exact hx wv σ H s e s' I hq
 |ok fl=>
  cases fl with
  |ret u=>exact I.after hq
  |next=>exact cZ hq
  |brk=>exact cZ hq
  |cont=>exact cZ hq
theorem BO(F:wY X.prog X.w X.K X.mg X.base CX k f fd ps sp)(hr:u9 k X.A)(hg:Gl X x)(hm:X.mg x=some (.ref f))(hk:dS X.K (.ref f)=true)(hb:Binds X.K fd ps ds)(hd:Vals dvs ds)(hx:Passes CX X E)
  (ha:PA X (e::es) t) (hdb:(x==("__debug__" : Str))=false:=by decide) (he:aw (e::es) X.env=(false,eval e X.env)::aw es X.env:=by rfl) (hpl:(bt pos (aw es X.env)).any (·.1)=false:=by rfl):
  PE X (.Call (.Name x p) (e::es) [] pos) (Av sp dvs E t):=by
 intro wv s σ H Q I h;refine dA (BM I hg hm ?_ hdb);refine lY (h₀:=X.base) I.ok.mod.kin hk (thn (ha pos wv s σ H _ I h) λus s1 ⟨vs,H1,I1,r,q⟩=>⟨I1.kIn,?_⟩) he hpl;exact HB F hr hb hd hx I1 r q
theorem OA(F:wY X.prog X.w X.K X.mg X.base CX k f fd ps sp)(hr:u9 k X.A)(hg:Gl X x)(hm:X.mg x=some (.ref f))(hk:dS X.K (.ref f)=true)(hb:Binds X.K fd ps ds)(hd:Vals dvs ds)(hx:Passes CX X E)
  (hdb:(x==("__debug__" : Str))=false:=by decide):PE X (.Call (.Name x p) [] [] pos) (Av sp dvs E Jb):=by
 intro wv s σ H Q I h;refine dA (BM I hg hm ?_ hdb);exact lL I.kIn hk (HB (us:=[]) F hr hb hd hx I .nil h)
structure Mk(K:au)(C f:Addr):Prop where
 makes:mx K C=true
 init:cP K (.ref C) "__init__" = some (some (.ref f))
 fn:j9 K (.ref f)=true
 kp:dS K (.ref C)=true
theorem OB(M:Mk X.K C f)(F:wY X.prog X.w X.K X.mg X.base CX k f fd ps sp)(hr:u9 (k+1) X.A)(hb:Binds X.K fd ps ds)(hd:Vals dvs ds)
  (hx:Passes CX X E) (I:Inv X wv σ H s) (r:Vals vs us)
  (h:∀x dx,H x=none->H dx=none->dx≠x->sp (.ref x::(vs++dvs)) (upd (upd H dx (.own x)) x (.ins C dx [])) (λv H2=>v=.non/\Q (.ref x) H2) E):
  aj (model X.prog X.w) X.A (call (.ref C) us) (EP X wv σ Q) X.xe s:=by
 have hq:=h (s.heap.objs.size+1) s.heap.objs.size (I.hok.fresh (ic _)) (I.hok.fresh (ay _)) (aR (cR _));have I2:=Inv.made (C:=C) I;have r2:Vals (V.ref (s.heap.objs.size+1)::(vs++dvs)) (Value.ref (s.heap.objs.size+1)::(us++ds)):=.cons rfl (r.append hd);have hl:(Value.ref (s.heap.objs.size+1)::us++ds).length=ps.length:=by have e:=r2.length;rw[F.len _ _ _ _ hq]at e;exact e.symm
 refine jZ (Oy (f:=f) I.kIn M.makes M.init (beq_iff_eq.mp M.fn) (hG (F.run _ X.stack _ _ ⟨Value.ref (s.heap.objs.size+1)::us,[]⟩ (Value.ref (s.heap.objs.size+1)::(us++ds)) _ _ E (hr.make C us [])
  (I2.env0.make C us []) (hb _ (Value.ref (s.heap.objs.size+1)::us) I2.kIn hl) r2 hq) λr s' hq'=>?_))
 cases r with
 |error e=>exact hx wv σ _ _ e s' I2 hq'
 |ok fl=>
  cases fl with
  |ret u=>obtain⟨v,H',I3,rv,ev,q3⟩:=I2.after hq';subst ev;exact⟨rv,⟨V.ref (s.heap.objs.size+1),H',I3,rfl,q3⟩⟩
  |next=>exact cZ hq'
  |brk=>exact cZ hq'
  |cont=>exact cZ hq'
theorem RQ(M:Mk X.K C f)(F:wY X.prog X.w X.K X.mg X.base CX k f fd ps sp)(hr:u9 (k+1) X.A)(hg:Gl X x)(hm:X.mg x=some (.ref C))(hb:Binds X.K fd ps ds)(hd:Vals dvs ds)(hx:Passes CX X E)
  (ha:PA X (e::es) t) (hdb:(x==("__debug__" : Str))=false:=by decide) (he:aw (e::es) X.env=(false,eval e X.env)::aw es X.env:=by rfl) (hpl:(bt pos (aw es X.env)).any (·.1)=false:=by rfl):
  PE X (.Call (.Name x p) (e::es) [] pos) (UL C sp dvs E t):=by
 intro wv s σ H Q I h;refine dA (BM I hg hm ?_ hdb);refine lY (h₀:=X.base) I.ok.mod.kin M.kp (thn (ha pos wv s σ H _ I h) λus s1 ⟨vs,H1,I1,r,q⟩=>⟨I1.kIn,?_⟩) he hpl;exact OB M F hr hb hd hx I1 r q
end
structure u6(N P:aD)(sc:c4):Prop where
 kind:sc.kind=.function
 co:sc.isCoroutine=false
 gen:sc.isGenerator=false
 nd:N.Nodup
 pre:N.take P.length=P
 par:∀x∈P,sc.names.lookup x=some .local\/sc.names.lookup x=some .cell
 nofree:∀y∈sc.names,y.2≠.free
theorem Gw{kindOf:Str->Option dU}:∀{binds:List (Str×aa)} {m:Str->Option aa},(∀v,(x,v)∉binds)->bindL kindOf binds m x=m x
 |[],_,_=>rfl
 |(n,v)::r,m,h=>by
  unfold bindL;rw[Gw λw hw=>h w (bu _ hw)];split
  ·have:x≠n:=by rintro rfl;exact h v bg
   simp[this]
  ·rfl
theorem Gx{kindOf:Str->Option dU}:∀{binds:List (Str×aa)} {m:Str->Option aa},(∀v,(x,v)∉binds)->bindC kindOf binds m x=m x
 |[],_,_=>rfl
 |(n,v)::r,m,h=>by
  unfold bindC;rw[Gx λw hw=>h w (bu _ hw)];split
  ·rfl
  ·have:x≠n:=by rintro rfl;exact h v bg
   simp[this]
theorem Gy{kindOf:Str->Option dU}:∀{P:aD} {vs:List aa} {i:Nat} {m:Str->Option aa},P.Nodup->P[i]?=some x->vs[i]?=some v->kindOf x=some .local->
  bindL kindOf (P.zip vs) m x=some v
 |[],_,_,_,_,h,_,_=>by simp at h
 |_::_,[],_,_,_,_,h,_=>by simp at h
 |p::P,w::vs,0,m,nd,h1,h2,hk=>by simp at h1 h2;subst h1;subst h2;show bindL kindOf ((p,w)::P.zip vs) m p=_;unfold bindL;rw[Gw λv hv=>(dq.mp nd).1 (jO hv).1,ah hk];simp
 |p::P,w::vs,i+1,m,nd,h1,h2,hk=>by show bindL kindOf ((p,w)::P.zip vs) m x=_;unfold bindL;exact Gy (i:=i) (dq.mp nd).2 (by simpa using h1) (by simpa using h2) hk
theorem GA{kindOf:Str->Option dU}:∀{P:aD} {vs:List aa} {i:Nat} {m:Str->Option aa},P.Nodup->P[i]?=some x->vs[i]?=some v->kindOf x≠some .local->
  bindC kindOf (P.zip vs) m x=some v
 |[],_,_,_,_,h,_,_=>by simp at h
 |_::_,[],_,_,_,_,h,_=>by simp at h
 |p::P,w::vs,0,m,nd,h1,h2,hk=>by simp at h1 h2;subst h1;subst h2;show bindC kindOf ((p,w)::P.zip vs) m p=_;unfold bindC;rw[Gx λv hv=>(dq.mp nd).1 (jO hv).1,ai hk];simp
 |p::P,w::vs,i+1,m,nd,h1,h2,hk=>by show bindC kindOf ((p,w)::P.zip vs) m x=_;unfold bindC;exact GA (i:=i) (dq.mp nd).2 (by simpa using h1) (by simpa using h2) hk
def start(N:aD)(vs:bG):St:=vs.map some++fw (N.length - vs.length) none
def Jc(CX:CXT)(P:aH)(w:aA)(K:au)(mg:Str->Option aa)(base:Heap)(N:aD)(qual:Str)(scope:c4)(f:Addr)(cd:aa)(A:aI)(outer:List Env)(s:ae)(H:Hp)(E:XK):Cx where
 prog:=P
 w:=w
 K:=K
 mg:=mg
 base:=base
 A:=A.deeper (envOfC qual scope s.heap.objs.size f cd)
 N:=N
 s₀:=s
 H₀:=H
 env:=envOfC qual scope s.heap.objs.size f cd
 outer:=outer
 stack:=envOfC qual scope s.heap.objs.size f cd::outer
 ex:=[]
 calm:=true
 fn:=λ_=>true
 pn:=[]
 xe:=λe s'=>aj (model P w) (A.deeper (envOfC qual scope s.heap.objs.size f cd)) (leaving (envOfC qual scope s.heap.objs.size f cd) e) (λ_ s''=>CX outer H s E e s'') (λe' s''=>CX outer H s E e' s'') s'
theorem Jd{sc:c4}(h:sc.names.lookup x=some .cell):∃c,(cellsFrom n sc.names []).lookup x=some c:=by have q:=oT sc.names n [] (.inl h);exact Option.isSome_iff_exists.mp q
theorem Nc{K:au}{A:aI}{vs:bG}
  (S:u6 N ps scope) (hd:A.handled=none) (e0:KI P w K mg base A outer s H) (hl:vs.length=ps.length) (r:Vals vs us)
  (x:InCallC s s.heap.objs.size (bindL (envOfC qual scope s.heap.objs.size f cd).kindOf (ps.zip us) λ_=>none) (cellsFrom (s.heap.objs.size+1) scope.names []) (bindC (envOfC qual scope s.heap.objs.size f cd).kindOf (ps.zip us) λ_=>none) s1):
  Inv (Jc CX P w K mg base N qual scope f cd A outer s H E) [] (start N vs) H s1:=by
 have hpl:ps.length<=N.length:=by have:=ba cc S.pre;rw[bo]at this;omega
 obtain⟨h1,tk,rfl,hk⟩:=x.done;have noA:∀b:Addr,b∉(Jc CX P w K mg base N qual scope f cd A outer s H E).ex:=λb z=>aq (show b∈([]:List Addr) from z) (by simp);refine⟨⟨e0.mod,S.kind,rfl,rfl,ay _,λy z c h1 h2=>?_,λy hy=>?_,λy c _ h=>?_,λ_=>hd,Around.frames_deeper e0.frames,.inr ⟨rfl,rfl⟩,λb z=>aq z (noA b),e0.bs,e0.bsz,λb _ _=>noA b,λb z=>aq z (noA b),e0.funs,e0.frf⟩,
  rfl,e0.bare,Un.kept hk,⟨_,x.toInCall.ns,λi y v h1 h2 h3=>?_⟩,λy c h=>⟨_,x.cell y c h⟩,e0.hok.fresh (ay _),λy c h=>?_,λp hp=>aq (show p∈([]:cF) from hp) (by simp),e0.hok.kept hk,?_⟩
 ·exact name_of_addr x.apart (iF h1) (iF h2)
 ·have hy:scope.names.lookup y=some .cell\/scope.names.lookup y=some .free:=hy;rcases hy with hy|hy
  ·exact Jd hy
  ·exact aq rfl (S.nofree _ (iF hy))
 ·exact hE (x.above y c (iF h))
 ·have hi:i<vs.length:=by
   unfold start at h2;by_cases hi:i<vs.length
   ·exact hi
   ·rw[cG (by simpa using hi)]at h2;rw[gE]at h2;split at h2<;>cases h2
  have ha:vs[i]?=some v:=by
   unfold start at h2;rw[cH (by simpa using hi),bc]at h2;cases e:vs[i]? with
   |none=>rw[e]at h2;cases h2
   |some a=>rw[e]at h2;cases h2;rfl
  obtain⟨u,hu,rv⟩:=r.get ha;have hp:ps[i]?=some y:=by rw[<-S.pre,List.getElem?_take_of_lt (by omega)];exact h1
  have ndP:ps.Nodup:=by rw[<-S.pre];exact S.nd.sublist (iJ _ _)
  refine⟨u,rv,?_⟩;rcases S.par y (bU hp)with k|k
  ·exact .inl ⟨k,Gy ndP hp hu k⟩
  ·obtain⟨c,e⟩:=Jd (n:=s.heap.objs.size+1) k;refine .inr ⟨.inl k,c,e,?_⟩;have q:=x.cell y c e;rw[GA ndP hp hu (by show scope.names.lookup y≠_;rw[k];decide)]at q;exact q
 ·exact e0.hok.fresh (hE (x.above y c (iF h)))
 ·unfold start;show _=N.length;rw[aB,af,cz];omega
theorem UM{K:au}{kV:aa}
 (lk:K.lookup f=some ⟨oc,od,.func (eO name qual params body scope dV kV doc pm an cdv ct),osl⟩) (hcd:ig K cdv qual=true) (S:u6 N ps scope)
  (len:∀vs H Q E,sp vs H Q E->vs.length=ps.length)
  (hbody:∀(A:aI) (outer:List Env) (s:ae) (H:Hp) (vs:bG) (Q:VK) (E:XK),u9 k (A.deeper (envOfC qual scope s.heap.objs.size f cdv))->sp vs H Q E->
   ∃t,PSs (Jc CX P w K mg base N qual scope f cdv A outer s H E) body t/\t { nx:=λ_ H'=>Q .non H',rt:=Q } (start N vs) H):
  wY P w K mg base CX (k+1) f (eO name qual params body scope dV kV doc pm an cdv ct) ps sp:=by
 refine⟨len,λA outer s H args us vs Q E hr e0 hb r hsp=>?_⟩;have hl:=len _ _ _ _ hsp;have KX:K.In s.heap:=e0.mod.kin.keeps λb o e=>(e0.bs b o e).1;have lim:s.heap.NoLimit:=e0.mod.nolimit.keeps λb o e=>(e0.bs b o e).1;have hkind:∀y∈ps.zip us,scope.names.lookup y.1=some .local\/(scope.names.lookup y.1=some .cell/\((cellsFrom (s.heap.objs.size+1) scope.names []).lookup y.1).isSome=true):=λ⟨n,v⟩ hy=>by
  rcases S.par n (jO hy).1 with q|q
  ·exact .inl q
  ·exact .inr ⟨q,oT _ _ _ (.inl q)⟩
 refine codeAny_call_function hr.depth (KX _ _ lk) rfl S.co S.gen rfl (W.codeRec_of KX hcd) (hb _ _ _ _ ?_);refine wpAny_newFunctionEnv_cells S.kind hkind λenv he s1 x=>?_;subst he;refine⟨lim.keeps x.toInCall.keep,codeAny_func ?_⟩;obtain⟨t,ht,hq⟩:=hbody A outer s H vs Q E (hr.deeper _) hsp;have I:Inv (Jc CX P w K mg base N qual scope f cdv A outer s H E) [] (start N vs) H s1:=Nc S hr.hd e0 hl r x;refine bZ (ht [] s1 (start N vs) H _ I hq) (λfl s' hs=>?_) λe s' hs=>hs;have fin:∀{σ':St} {H':Hp} {v:V} {u:aa},Inv (Jc CX P w K mg base N qual scope f cdv A outer s H E) [] σ' H' s'->RelV v u->Q v H'->CE outer P w H s Q u s':=
  λ{σ' H' v u} J rv q=>⟨v,H',J.os,J.bare,J.base,J.hok,rv,q⟩
 cases fl with
 |ret u=>obtain⟨v,σ',H',J,rv,q⟩:=hs;exact fin J rv q
 |next=>obtain⟨σ',H',J,q⟩:=hs;exact fin (v:=V.non) (u:=Value.none) J rfl q
 |brk=>obtain⟨_,_,_,q⟩:=hs;exact cZ q
 |cont=>obtain⟨_,_,_,q⟩:=hs;exact cZ q
section
variable{X:Cx}{x:Str}{p pos:Pos}{e:Expr}{es:List Expr}{t:TA}{id T:String}{r:bG->Hp->VK->Prop}
def tCB(r:bG->Hp->VK->Prop)(t:TA):TE:=λσ H Q=>t σ H λvs H1=>r vs H1 Q
theorem EN(hc:vq X (.builtin id) r)(hg:Gl X x)(hm:X.mg x=none)(hv:dF x=some (.builtin id))(ha:PA X (e::es) t)(hn:x≠"__name__" := by decide)(hdb:(x==("__debug__" : Str))=false:=by decide)
  (he:aw (e::es) X.env=(false,eval e X.env)::aw es X.env:=by rfl) (hpl:(bt pos (aw es X.env)).any (·.1)=false:=by rfl):PE X (.Call (.Name x p) (e::es) [] pos) (tCB r t):=by
 intro wv s σ H Q I h;refine dA (zE I hg hm hv ?_ hn hdb);exact callWith_builtin1 (thn (ha pos wv s σ H _ I h) λus s1 ⟨vs,H1,I1,r1,q1⟩=>hc wv s1 σ H1 vs us Q I1 r1 q1) he hpl
theorem Nd(hc:vq X (.type T) r)(hg:Gl X x)(hm:X.mg x=none)(hv:dF x=some (.type T))(ha:PA X (e::es) t)(hn:x≠"__name__" := by decide)(hdb:(x==("__debug__" : Str))=false:=by decide)
  (he:aw (e::es) X.env=(false,eval e X.env)::aw es X.env:=by rfl) (hpl:(bt pos (aw es X.env)).any (·.1)=false:=by rfl):PE X (.Call (.Name x p) (e::es) [] pos) (tCB r t):=by
 intro wv s σ H Q I h;refine dA (zE I hg hm hv ?_ hn hdb);exact callWith_type1 (thn (ha pos wv s σ H _ I h) λus s1 ⟨vs,H1,I1,r1,q1⟩=>hc wv s1 σ H1 vs us Q I1 r1 q1) he hpl
end
end L2
namespace HT
open PySem PyProof.Rows
section
variable{prog:aH}{w:aA}{A:aI}{E:aa->ae->Prop}{s:ae}
theorem RR{vs ws:List aa}(ht:fH s.heap t vs.toArray)(hb:fH s.heap b ws.toArray)(hv:vs≠[])
  (h1:ws=[]->Q (.ref t) s) (h2:ws≠[]->Q (.ref s.heap.objs.size) { s with heap:=s.heap.push { cls:=.type "tuple", data:=.seq (vs++ws).toArray } })
  (hsz:vs.length+ws.length<=aG):aj (model prog w) A (cO .Add (.ref t) (.ref b)) Q E s:=by
 obtain⟨⟨cls,dd,data,sl⟩,ho,hc,n,hd⟩:=id ht;obtain⟨⟨cls2,dd2,data2,sl2⟩,ho2,hc2,n2,hd2⟩:=id hb;simp only at hc hd hc2 hd2;subst hc hd hc2 hd2;have e:vs.toArray++ws.toArray=(vs++ws).toArray:=by simp
 by_cases hw:ws=[]
 ·exact lZ ⟨_,ho,rfl⟩ ⟨_,ho2,rfl⟩ lb lM lg kR (kI _ _)
   (tuple_addW1 t b vs.toArray ws.toArray n n2 dd dd2 sl sl2 (by simpa using hv) (by simp[hw])) ⟨ho,ho2,h1 hw⟩
 ·refine lZ ⟨_,ho,rfl⟩ ⟨_,ho2,rfl⟩ lb lM lg kR (kI _ _)
   (tuple_addW2 t b vs.toArray ws.toArray n n2 dd dd2 sl sl2 (by simpa using hv) (by simpa using hw) (by rw[bf,bf];exact hsz)) ⟨ho,ho2,?_⟩
  rw[e];exact h2 hw
def sIx(n d:Nat):Option Int->Nat
 |none=>d
 |some v=>if v<0 then (v+(n:Int)).toNat else min v.toNat n
theorem Je(n d:Nat):sIx n d none=d:=rfl
theorem Ew(n d k:Nat):sIx n d (some (k:Int))=min k n:=by show (if (k:Int)<0 then ((k:Int)+(n:Int)).toNat else min (k:Int).toNat n)=min k n;rw[ai (by omega),iK]
theorem VJ(n d:Nat)(hd:d<=n)(o:Option Int):sIx n d o<=n:=by
 cases o with
 |none=>exact hd
 |some v=>
  show (if v<0 then (v+(n:Int)).toNat else min v.toNat n)<=n;by_cases hv:v<0
  ·rw[ah hv];omega
  ·rw[ai hv];exact Nat.min_le_right _ _
theorem LK(v:Int)(n d:Nat):(if v<0 then max (v+(n:Int)) 0 else min v (n:Int))=((sIx n d (some v):Nat):Int):=by
 show (if v<0 then max (v+(n:Int)) 0 else min v (n:Int))=(((if v<0 then (v+(n:Int)).toNat else min v.toNat n):Nat):Int);by_cases hv:v<0
 ·simp only[ah hv];omega
 ·simp only[ai hv];omega
theorem KJ(lo hi:Option Int)(n:Nat):ku lo hi 1 (n:Int)=(((sIx n 0 lo:Nat):Int),((sIx n n hi:Nat):Int)):=by
 have h1:¬((1:Int)<0):=by omega
 unfold ku;simp only[h1,if_false];refine Prod.ext ?_ ?_
 ·cases lo with
  |none=>rfl
  |some v=>exact LK v n 0
 ·cases hi with
  |none=>rfl
  |some v=>exact LK v n n
theorem KL(i j:Nat):js (i:Int) (j:Int) 1=j - i:=by
 unfold js;have h1:(1:Int) > 0:=by omega
 simp only[h1,if_true,Int.ediv_one];split<;>omega
theorem EO(p:fG v o)(h:Q o s):aj (model prog w) A (ra v) Q E s:=by
 cases p with
 |none=>exact pC h
 |int i t=>exact slicePart_int h
theorem CQ{sl:Addr}{vl vu:aa}{lo hi:Option Int}{n:Nat}{Q:Int×Int×Nat->ae->Prop}(hs:s.heap.IsSliceOf sl vl vu .none)(pl:fG vl lo)(pu:fG vu hi)
  (h:Q (((sIx n 0 lo:Nat):Int),1,sIx n n hi - sIx n 0 lo) s):aj (model prog w) A (m3 (.ref sl) (pure (n:Int))) Q E s:=by
 obtain⟨os,hos,hcs,hds⟩:=id hs;unfold m3 rG;refine ag (ag (l7 hos hds (x:=vl) rfl (ag (l7 hos hds (x:=vu) rfl (ag (l7 hos hds (x:=.none) rfl (ar ?_)))))));refine ag (pC ?_);show aj _ _ (if ((1:Int)==0)=true then _ else _) _ _ s;rw[ai (by decide)];refine ag (EO pl (ag (EO pu (ag (ar ?_)))));show aj _ _ (match ku lo hi 1 (n:Int)with|(lo,hi)=>pure (lo,(1:Int),js lo hi 1)) _ _ s;rw[KJ lo hi n];show aj _ _ (pure (((sIx n 0 lo:Nat):Int),(1:Int),js ((sIx n 0 lo:Nat):Int) ((sIx n n hi:Nat):Int) 1)) _ _ s;rw[KL];exact ar h
theorem OC(xs:Array aa)(i k:Nat):((aQ k).filterMap λ(m:Nat)=>xs[((i:Int)+(m:Int) * 1).toNat]?).toArray=((xs.toList.drop i).take k).toArray:=by
 have e:(λ(m:Nat)=>xs[((i:Int)+(m:Int) * 1).toNat]?)=λm=>xs[i+m]?:=by
  funext m
  have:((i:Int)+(m:Int) * 1).toNat=i+m:=by omega
  rw[this]
 rw[e];have:=pick_run xs i k;rw[List.filterMap_map]at this;have e2:((λx=>xs[x]?)∘λx=>i+x)=λm=>xs[i+m]?:=rfl;rw[e2]at this;rw[this]
theorem BP{lo:Option Int}(ht:fH s.heap t items)(hs:s.heap.IsSliceOf sl vl vu .none)(pl:fG vl lo)(pu:fG vu hi)
  (hw:¬(sIx items.size 0 lo=0/\sIx items.size items.size hi=items.size))
  (h:Q (.ref s.heap.objs.size) { s with heap:=s.heap.push { cls:=.type "tuple", data:=.seq ((items.toList.drop (sIx items.size 0 lo)).take (sIx items.size items.size hi - sIx items.size 0 lo)).toArray } })
  (hsz:items.size<=aG):aj (model prog w) A (getItem (.ref t) (.ref sl)) Q E s:=by
 have htake:sizeOk (.seq ((items.toList.drop (sIx items.size 0 lo)).take (sIx items.size items.size hi - sIx items.size 0 lo)).toArray):=by show ((items.toList.drop (sIx items.size 0 lo)).take (sIx items.size items.size hi - sIx items.size 0 lo)).toArray.size<=aG;rw[bf,bo,cb,bw];omega
 have hj:sIx items.size items.size hi<=items.size:=VJ _ _ (ay _) hi;obtain⟨os,hos,hcs,hds⟩:=id hs;have hTs:s.TypeIs (.ref sl) "slice" := ⟨os,hos,hcs⟩;unfold getItem
 try with_reducible refine cW ?_
 first|refine ag (ar ?_)|skip
 refine ag (wpAny_sequenceKey ht.typeIs (by decide) ?_);refine ag (nh (name:=jT "__getitem__") ht.typeIs jk
  (fU jk ht.typeIs entry_tuple_getitem ?_ (args_tuple_getitem _ _)))
 show aj _ _ (rf (.ref t)>>=_) _ _ s;refine ag (tupleItemsOf_ ht ?_);refine ag (hJ hTs ?_);rw[ah (by decide)];refine ag (CQ hs pl pu ?_);have hno:¬((((sIx items.size 0 lo:Nat):Int)==0&&(1:Int)==1&&(sIx items.size items.size hi - sIx items.size 0 lo)==items.size)=true):=by intro q;rw[aZ,aZ]at q;have q1:((sIx items.size 0 lo:Nat):Int)=0:=eK q.1.1;have q2:sIx items.size items.size hi - sIx items.size 0 lo=items.size:=eK q.2;exact hw ⟨by omega,by omega⟩
 show aj _ _ (if (((sIx items.size 0 lo:Nat):Int)==0&&(1:Int)==1&&(sIx items.size items.size hi - sIx items.size 0 lo)==items.size)=true then _ else _) _ _ s;rw[ai hno,OC]
 first
  |exact ag (m:=ju _) (dh (ar ⟨_,rfl,ar h⟩) htake)
  |exact ag (m:=ju _) (dh (ag (ar (ar ⟨_,rfl,ar h⟩))) htake)
  |exact ag (ag (m:=ju _) (dh (ar (ar ⟨_,rfl,ar h⟩)) htake))
  |exact ag (ag (m:=ju _) (dh (ar ⟨_,rfl,ar h⟩) htake))
end
end HT
namespace L2
open PySem PySem.Spec PyProof.Rows
abbrev TO:=St->Hp->(Option Int->Hp->Prop)->Prop
def PO(X:Cx)(e:Option Expr)(t:TO):Prop:=
 ∀(wv:cF) (s:ae) (σ:St) (H:Hp) (Q:Option Int->Hp->Prop),Inv X wv σ H s->t σ H Q->
  aj (model X.prog X.w) X.A (evalPart e X.env) (λu s'=>∃o H',Inv X wv σ H' s'/\fG u o/\Q o H') X.xe s
def RS:TO:=λ_ H Q=>Q none H
def ZC(t:TE):TO:=λσ H Q=>t σ H λx H1=>∃i,x=.int i/\Q (some i) H1
section
variable{X:Cx}{e:Expr}{te:TE}{lo hi:Option Expr}{tl th:TO}{pos p2:Pos}
theorem LL:PO X none RS:=by intro wv s σ H Q I h;rw[pT];exact ar ⟨none,H,I,.none,h⟩
theorem LM(h:PE X e te):PO X (some e) (ZC te):=by intro wv s σ H Q I hw;rw[evalPart_some];refine thn (h wv s σ H _ I hw) λu s1 zz=>?_;obtain⟨x,H1,I1,r1,q1⟩:=zz;obtain⟨i,rfl,q⟩:=q1;obtain⟨t,rfl⟩:=r1;exact⟨some i,H1,I1,.int i t,q⟩
def SlR(X:Cx)(r:V->Option Int->Option Int->Hp->VK->Prop):Prop:=
 ∀(wv:cF) (s:ae) (σ:St) (H:Hp) (x:V) (v vl vu:aa) (lo hi:Option Int) (sl:Addr) (Q:VK),Inv X wv σ H s->RelV x v->s.heap.IsSliceOf sl vl vu .none->fG vl lo->fG vu hi->r x lo hi H Q->
  ∃T id,typeLookup (.type T) "__getitem__" = pure (some (.builtin id))/\s.TypeIs v T/\aj (model X.prog X.w) X.A (getItem v (.ref sl)) (EP X wv σ Q) X.xe s
def tSl(r:V->Option Int->Option Int->Hp->VK->Prop)(te:TE)(tl th:TO):TE:=λσ H Q=>te σ H λx H1=>tl σ H1 λl H2=>th σ H2 λu H3=>r x l u H3 Q
theorem ER(hr:SlR X r)(he:PE X e te)(hl:PO X lo tl)(hu:PO X hi th):PE X (.Subscript e (.Slice lo hi none p2) pos) (tSl r te tl th):=by intro wv s σ H Q I h;refine mh (thn (he wv s σ H _ I h) λv s1 zz=>?_);obtain⟨x,H1,I1,r1,q1⟩:=zz;refine wpAny_Slice (thn (hl wv s1 σ H1 _ I1 q1) λvl s2 ⟨l,H2,I2,pl,q2⟩=>thn (hu wv s2 σ H2 _ I2 q2) λvu s3 zz=>?_);obtain⟨u,H3,I3,pu,q3⟩:=zz;rw[pT];refine ar ?_;have I4:Inv X wv σ H3 { s3 with heap:=s3.heap.push { cls:=.type "slice", data:=.fields #[vl,vu,.none] } }:=I3.kept (t':=s3.toks) λb ob q=>aC _ q;obtain⟨T,id,hT,ht,hg⟩:=hr wv { s3 with heap:=s3.heap.push { cls:=.type "slice", data:=.fields #[vl,vu,.none] } } σ H3 x v vl vu l u s3.heap.objs.size Q I4 r1 (sQ ..) pl pu q3;show aj (model X.prog X.w) X.A (subscriptTail e (.Slice lo hi none p2) v (.ref s3.heap.objs.size)) (EP X wv σ Q) X.xe { s3 with heap:=s3.heap.push { cls:=.type "slice", data:=.fields #[vl,vu,.none] } };exact tail_any (ops:=[.ref s3.heap.objs.size,v]) ht hT hg (by with_unfolding_all rfl)
def Jf(xs:bG)(lo hi:Option Int):bG:=(xs.drop (HT.sIx xs.length 0 lo)).take (HT.sIx xs.length xs.length hi - HT.sIx xs.length 0 lo)
theorem Dx(xs:bG)(lo hi:Option Int):(Jf xs lo hi).length<=xs.length:=by unfold Jf;rw[bo,cb];omega
def VL(K:au):V->Option Int->Option Int->Hp->VK->Prop:=λx lo hi H Q=>∃a xs,x=.ref a/\SqT K H a xs/\
 ¬(HT.sIx xs.length 0 lo=0/\HT.sIx xs.length xs.length hi=xs.length)/\∀p,H p=none->Q (.ref p) (upd H p (.tup (Jf xs lo hi)))
theorem VM:SlR X (VL X.K):=by
 intro wv s σ H x v vl vu lo hi sl Q I rx hs pl pu h;obtain⟨a,xs,rfl,hx,hw,q⟩:=h;cases rx;obtain⟨its,r,ht,hz⟩:=I.tuple hx;have hlen:its.toArray.size=xs.length:=by rw[bf];exact r.length.symm
 refine⟨"tuple", _,jk.lookup,ht.typeIs,?_⟩;refine HT.BP ht hs pl pu (by rw[hlen];exact hw) ?_ (by rw[hlen];exact hz);rw[hlen];refine⟨.ref s.heap.objs.size,_,I.laid (t':=s.toks) (o:=.tup (Jf xs lo hi)) (λb ob q=>aC _ q) (ay _) ?_,rfl,q _ (I.hok.fresh (ay _))⟩;exact⟨bM (Dx xs lo hi) hz,_,(r.drop (HT.sIx xs.length 0 lo)).take (HT.sIx xs.length xs.length hi - HT.sIx xs.length 0 lo),my _ _⟩
def ZD(K:au):R2:=λx y H Q=>∃a b xs ys,x=.ref a/\y=.ref b/\SqT K H a xs/\SqT K H b ys/\xs≠[]/\xs.length+ys.length<=aG/\
 (ys=[]->Q (.ref a) H)/\(ys≠[]->∀p,H p=none->Q (.ref p) (upd H p (.tup (xs++ys))))
theorem Vals.nil_iff(r:Vals xs us):us=[] ↔ xs=[]:=by
 cases r with
 |nil=>simp
 |cons _ _=>simp
theorem LN:OpR X (cO .Add) (ZD X.K):=by intro wv s σ H x y v u Q I rx ry h;obtain⟨a,b,xs,ys,rfl,rfl,ha,hb,hx,hz,q1,q2⟩:=h;cases rx;cases ry;obtain⟨its,r1,p1,_⟩:=I.tuple ha;obtain⟨its2,r2,p2,_⟩:=I.tuple hb;refine HT.RR p1 p2 (λz=>hx (r1.nil_iff.mp z)) (λz=>⟨.ref a,H,I,rfl,q1 (r2.nil_iff.mp z)⟩) (λz=>?_) (by rw[<-r1.length,<- r2.length];exact hz);refine⟨.ref s.heap.objs.size,_,I.laid (t':=s.toks) (o:=.tup (xs++ys)) (λb ob q=>aC _ q) (ay _) ?_,rfl,q2 (λw=>z (r2.nil_iff.mpr w)) _ (I.hok.fresh (ay _))⟩;exact⟨by rw[aB];exact hz,_,r1.append r2,my _ _⟩
end
def ixN(n:Nat)(i:Int):Option Nat:=if 0<=i then (if i<n then some i.toNat else none)else if -(n:Int)<=i then some (i+n).toNat else none
def atI{α:Type}(xs:List α)(i:Int):Option α:=(ixN xs.length i).bind λj=>xs[j]?
theorem RT(h:ixN n i=some j):seqIndex? i n=some j/\j<n/\-(n:Int)<=i/\i<n:=by
 unfold ixN at h;by_cases h0:0<=i
 ·rw[ah h0]at h;by_cases h1:i<n
  ·rw[ah h1]at h;have e:i.toNat=j:=cU h;exact⟨by rw[seqIndex_of h0 h1,e],by omega,by omega,h1⟩
  ·rw[ai h1]at h;cases h
 ·rw[ai h0]at h;by_cases h1:-(n:Int)<=i
  ·rw[ah h1]at h;have e:(i+n).toNat=j:=cU h;exact⟨by rw[seqIndex_neg (by omega) h1,e],by omega,h1,by omega⟩
  ·rw[ai h1]at h;cases h
theorem HC{α:Type}{xs:List α}{i:Int}{v:α}(h:atI xs i=some v):∃j,seqIndex? i xs.length=some j/\xs[j]?=some v/\j<xs.length/\-(xs.length:Int)<=i/\i<xs.length:=by
 unfold atI at h;cases e:ixN xs.length i with
 |none=>rw[e]at h;cases h
 |some j=>rw[e]at h;obtain⟨h1,h2,h3,h4⟩:=RT e;exact⟨j,h1,h,h2,h3,h4⟩
theorem LO{α:Type}{xs:List α}{j:Nat}{v:α}(h:xs[j]?=some v):atI xs (j:Int)=some v:=by
 have hj:j<xs.length:=(bO.mp h).1;have e:ixN xs.length (j:Int)=some j:=by unfold ixN;rw[ah (by omega),ah (by omega)];simp
 unfold atI;rw[e];exact h
def LP(b:Expr):Prop:=∀o i,subscripted b false o i=operate [o,i] (getItem o i)
def IxR(X:Cx)(r:R2):Prop:=
 ∀(value slice:Expr) (wv:cF) (s:ae) (σ:St) (H:Hp) (x y:V) (v u:aa) (Q:VK),Inv X wv σ H s->RelV x v->RelV y u->r x y H Q->
  subscripted slice false v u=operate [v,u] (getItem v u)->aj (model X.prog X.w) X.A (subscriptTail value slice v u) (EP X wv σ Q) X.xe s
def MtR(X:Cx)(id:String)(r:V->bG->Hp->VK->Prop):Prop:=
 ∀(wv:cF) (s:ae) (σ:St) (H:Hp) (x:V) (xs:bG) (v:aa) (us:List aa) (Q:VK),Inv X wv σ H s->RelV x v->Vals xs us->r x xs H Q->
  aj (model X.prog X.w) X.A (call (.builtin id) (v::us)) (EP X wv σ Q) X.xe s
section
variable{X:Cx}{a b:Expr}{ta tb:TE}{pos:Pos}
theorem IxR.or(h:IxR X r)(h':IxR X r'):IxR X (λx y H Q=>r x y H Q\/r' x y H Q):=by
 intro value slice wv s σ H x y v u Q I rx ry q hs;rcases q with q|q
 ·exact h value slice wv s σ H x y v u Q I rx ry q hs
 ·exact h' value slice wv s σ H x y v u Q I rx ry q hs
theorem UN(hr:IxR X r)(ha:PE X a ta)(hb:PE X b tb)(hs:LP b):PE X (.Subscript a b pos) (tOp r ta tb):=by intro wv s σ H Q I h;exact mh (Vy ha hb I h λv u s2 x y H2 I2 rx ry q=>hr a b wv s2 σ H2 x y v u Q I2 rx ry q (hs _ _))
def RU(K:au):R2:=λx y H Q=>∃p xs i v,x=.ref p/\y=.int i/\SqL K H p xs/\atI xs i=some v/\Q v H
def ZL(K:au):R2:=λx y H Q=>∃p xs i v,x=.ref p/\y=.int i/\SqT K H p xs/\atI xs i=some v/\Q v H
def ZQ:R2:=λx y H Q=>∃z i c,x=.str z/\y=.int i/\z.length<=aG/\atI z.cps.toList i=some c/\Q (.str ⟨#[c]⟩) H
theorem LQ:IxR X (RU X.K):=by
 intro value slice wv s σ H x y v u Q I rx ry h hs;obtain⟨p,xs,i,z,rfl,rfl,hq,he,q⟩:=h;cases rx;obtain⟨t,rfl⟩:=ry;obtain⟨its,r,pl,hz⟩:=I.list hq;obtain⟨j,h1,h2,h3,h4,h5⟩:=HC he;obtain⟨w,ew,rw'⟩:=r.get h2;have hl:=r.length;have hn:=EK;have fin:EP X wv σ Q w s:=⟨z,H,I,rw',q⟩;by_cases h0:0<=i
 ·have hj:i.toNat=j:=by rw[seqIndex_of h0 h5]at h1;exact cU h1
  exact item_listR pl.isList h0 (by omega) (by rw[hj];simpa using ew) fin hs
 ·have hj:(i+(its.toArray.size:Int)).toNat=j:=by rw[seqIndex_neg (by omega) h4]at h1;rw[bf,<- hl];exact cU h1
  exact nu (x:=w) pl.isList.typeIs oF.lookup
   (wpAny_getItem_list_neg (Q:=λr s'=>r=w/\EP X wv σ Q r s') pl.isList (by omega) (by rw[bf]<;>omega) (by omega) (by rw[hj];simpa using ew) ⟨rfl,fin⟩) hs
theorem VN:IxR X (ZL X.K):=by
 intro value slice wv s σ H x y v u Q I rx ry h hs;obtain⟨p,xs,i,z,rfl,rfl,hq,he,q⟩:=h;cases rx;obtain⟨t,rfl⟩:=ry;obtain⟨its,r,pl,hz⟩:=I.tuple hq;obtain⟨j,h1,h2,h3,h4,h5⟩:=HC he;obtain⟨w,ew,rw'⟩:=r.get h2;have hl:=r.length;have hn:=EK;have fin:EP X wv σ Q w s:=⟨z,H,I,rw',q⟩;exact nu (x:=w) pl.typeIs jk.lookup
  (getItem_tuple (j:=j) (Q:=λr s'=>r=w/\EP X wv σ Q r s') pl (by omega) (by omega) (by rw[bf,<- hl];exact h1) (by simpa using ew) ⟨rfl,fin⟩) hs
theorem VO:IxR X ZQ:=by
 intro value slice wv s σ H x y v u Q I rx ry h hs;obtain⟨z,i,c,rfl,rfl,hz,he,q⟩:=h;obtain⟨t,rfl⟩:=rx;obtain⟨t',rfl⟩:=ry;obtain⟨j,h1,h2,h3,h4,h5⟩:=HC he;have hl:z.cps.toList.length=z.length:=by simp[qB]
 rw[hl]at h1 h4 h5;have hn:=EK;exact tail_any (typeIs_str s z t) slot_str_getitem.lookup (getItem_str (c:=c) (by
  have e1:decide (i < -(2 ^ 63:Int))=false:=aT (by omega);have e2:decide (i >= 2 ^ 63)=false:=aT (by omega);rw[e1,e2,Bool.or_false]) (by rw[h1];simpa using h2) ⟨.str ⟨#[c]⟩,H,I.tok _,⟨_,rfl⟩,q⟩) hs
def rIx(K:au):R2:=λx y H Q=>RU K x y H Q\/ZL K x y H Q\/ZQ x y H Q
theorem VP:IxR X (rIx X.K):=LQ.or (VN.or VO)
theorem HD(lo hi:Option Int)(n:Nat):(sliceBounds lo hi none n).1=((HT.sIx n 0 lo:Nat):Int)/\(sliceBounds lo hi none n).2.1=((HT.sIx n n hi:Nat):Int)/\(sliceBounds lo hi none n).2.2=1:=by
 refine⟨?_,?_,rfl⟩
 ·cases lo with
  |none=>simp[sliceBounds,HT.sIx]
  |some i=>
   simp only[sliceBounds,HT.sIx,jL,show (1:Int) > 0 by decide,if_true];by_cases h:i<0
   ·simp only[h,if_true]<;>omega
   ·simp only[h,if_false]<;>omega
 ·cases hi with
  |none=>simp[sliceBounds,HT.sIx]
  |some i=>
   simp only[sliceBounds,HT.sIx,jL,show (1:Int) > 0 by decide,if_true];by_cases h:i<0
   ·simp only[h,if_true]<;>omega
   ·simp only[h,if_false]<;>omega
theorem Gd(its:List aa)(lo hi:Option Int):slicePick its.toArray lo hi none=((its.drop (HT.sIx its.length 0 lo)).take (HT.sIx its.length its.length hi - HT.sIx its.length 0 lo)).toArray:=by obtain⟨h1,h2,h3⟩:=HD lo hi its.toArray.size;unfold slicePick;rw[h1,h2,h3];simp only[sliceRange_one,pick_run,bf]<;>rfl
def Nf(K:au):V->Option Int->Option Int->Hp->VK->Prop:=λx lo hi H Q=>∃a xs,x=.ref a/\SqL K H a xs/\∀p,H p=none->Q (.ref p) (upd H p (.lst (Jf xs lo hi)))
theorem RV:SlR X (Nf X.K):=by intro wv s σ H x v vl vu lo hi sl Q I rx hs pl pu h;obtain⟨a,xs,rfl,hx,q⟩:=h;cases rx;obtain⟨its,r,ht,hz⟩:=I.list hx;have hlen:=r.length;refine⟨"list", _,oF.lookup,ht.isList.typeIs,?_⟩;refine wpAny_getItem_list_slice ht.isList hs pl pu .none (by simp) ?_ (by rw[bf]<;>omega);rw[Gd,<- hlen];refine⟨.ref s.heap.objs.size,_,I.laid (t':=s.toks) (o:=.lst (Jf xs lo hi)) (λb ob q=>aC _ q) (ay _) ?_,rfl,q _ (I.hok.fresh (ay _))⟩;exact⟨bM (Dx xs lo hi) hz,_,0,(r.drop (HT.sIx xs.length 0 lo)).take (HT.sIx xs.length xs.length hi - HT.sIx xs.length 0 lo),bp _ rfl⟩
def Bk:V->Bool
 |.non=>true
 |.bl _=>true
 |.int _=>true
 |.str _=>true
 |_=>false
def eqV:V->V->Bool
 |.non,.non=>true
 |.bl a,.bl b=>a==b
 |.bl a,.int b=>(if a then 1 else 0)==b
 |.int a,.bl b=>a==(if b then 1 else 0)
 |.int a,.int b=>a==b
 |.str a,.str b=>a==b
 |_,_=>false
theorem ES(ry:RelV y u)(rx:RelV x v)(fy:Bk y=true)(fx:Bk x=true):j3 A s u v (eqV y x):=by
 cases y with
 |non=>
  cases ry;cases x with
  |non=>cases rx;exact lA _
  |bl b=>cases rx;exact sh b
  |int b=>obtain⟨t,rfl⟩:=rx;exact nY b t
  |str b=>obtain⟨t,rfl⟩:=rx;exact nZ b t
  |_=>exact aq (show false=true from fx) bj
 |bl a=>
  cases ry;cases x with
  |non=>cases rx;exact sj a
  |bl b=>cases rx;exact sq a b
  |int b=>obtain⟨t,rfl⟩:=rx;exact sF a b t
  |str b=>obtain⟨t,rfl⟩:=rx;exact sG a b t
  |_=>exact aq (show false=true from fx) bj
 |int a=>
  obtain⟨t',rfl⟩:=ry;cases x with
  |non=>cases rx;exact n4 a t'
  |bl b=>cases rx;exact sH a t' b
  |int b=>obtain⟨t,rfl⟩:=rx;exact sR a t' b t
  |str b=>obtain⟨t,rfl⟩:=rx;exact oh a t' b t
  |_=>exact aq (show false=true from fx) bj
 |str a=>
  obtain⟨t',rfl⟩:=ry;cases x with
  |non=>cases rx;exact n8 a t'
  |bl b=>cases rx;exact sI a t' b
  |int b=>obtain⟨t,rfl⟩:=rx;exact oj a t' b t
  |str b=>obtain⟨t,rfl⟩:=rx;exact kJ a t' b t
  |_=>exact aq (show false=true from fx) bj
 |_=>exact aq (show false=true from fy) bj
def eqU(x:V)(u:aa):Bool:=match u with
 |.none=>eqV .non x
 |.bool b=>eqV (.bl b) x
 |.int i _=>eqV (.int i) x
 |.str z _=>eqV (.str z) x
 |_=>false
theorem OD(r:RelV y u)(f:Bk y=true):eqU x u=eqV y x:=by
 cases y with
 |non=>cases r;rfl
 |bl b=>cases r;rfl
 |int i=>obtain⟨t,rfl⟩:=r;rfl
 |str z=>obtain⟨t,rfl⟩:=r;rfl
 |_=>exact aq (show false=true from f) bj
theorem BQ:∀{xs:bG} {us:List aa},Vals xs us->xs.all Bk=true->us.any (eqU x)=xs.any λy=>eqV y x
 |_,_,.nil,_=>rfl
 |y::xs,u::us,.cons r t,f=>by rw[gY,aZ]at f;rw[fY,fY,OD r f.1,BQ t f.2]
theorem Aw(rx:RelV x v)(fx:Bk x=true):∀{xs:bG} {us:List aa},Vals xs us->xs.all Bk=true->∀u∈us,j3 A s u v (eqU x u)
 |_,_,.nil,_=>λu hu=>by cases hu
 |y::xs,u::us,.cons r t,f=>λu' hu=>by
  rw[gY,aZ]at f;rcases aN.mp hu with rfl|hu
  ·rw[OD r f.1];exact ES r rx f.1 fx
  ·exact Aw rx fx t f.2 u' hu
def inV(x:V)(xs:bG):Bool:=xs.any λy=>eqV y x
def rIn(K:au)(neg:Bool):R2:=λx y H Q=>∃p xs,y=.ref p/\(SqL K H p xs\/SqT K H p xs)/\Bk x=true/\xs.all Bk=true/\Q (.bl (if neg then !inV x xs else inV x xs)) H
theorem Ng:OpR X (br .In) (rIn X.K false):=by
 intro wv s σ H x y v u Q I rx ry h;obtain⟨p,xs,rfl,hq,fx,fs,q⟩:=h;cases ry;rcases hq with hq|hq
 ·obtain⟨its,r,pl,hz⟩:=I.list hq;refine SeqAt.in_listAt (eqU x) pl.isList (λw hw=>Aw rx fx r fs w (by simpa using hw)) ⟨.bl _,H,I,rfl,?_⟩;rw[show its.toArray.any (eqU x)=its.any (eqU x) by simp,BQ r fs];exact q
 ·obtain⟨its,r,pl,hz⟩:=I.tuple hq;refine SeqAt.in_tupleAt (eqU x) pl (λw hw=>Aw rx fx r fs w (by simpa using hw)) ⟨.bl _,H,I,rfl,?_⟩;rw[show its.toArray.any (eqU x)=its.any (eqU x) by simp,BQ r fs];exact q
theorem HE:OpR X (br .NotIn) (rIn X.K true):=by
 intro wv s σ H x y v u Q I rx ry h;obtain⟨p,xs,rfl,hq,fx,fs,q⟩:=h;cases ry;rcases hq with hq|hq
 ·obtain⟨its,r,pl,hz⟩:=I.list hq;refine SeqAt.notIn_listAt (eqU x) pl.isList (λw hw=>Aw rx fx r fs w (by simpa using hw)) ⟨.bl _,H,I,rfl,?_⟩;rw[show its.toArray.any (eqU x)=its.any (eqU x) by simp,BQ r fs];exact q
 ·obtain⟨its,r,pl,hz⟩:=I.tuple hq;refine SeqAt.notIn_tupleAt (eqU x) pl (λw hw=>Aw rx fx r fs w (by simpa using hw)) ⟨.bl _,H,I,rfl,?_⟩;rw[show its.toArray.any (eqU x)=its.any (eqU x) by simp,BQ r fs];exact q
theorem HF:vq X (.builtin "len") (λxs H Q=>∃p ys,xs=[.ref p]/\(SqL X.K H p ys\/SqT X.K H p ys)/\Q (.int ys.length) H):=by
 intro wv s σ H xs us Q I r h;obtain⟨p,ys,rfl,hq,q⟩:=h;obtain⟨u,rfl,rx⟩:=vals1 r;cases rx;have hn:=EK;rcases hq with hq|hq
 ·obtain⟨its,r',pl,hz⟩:=I.list hq;have hlen:=r'.length;exact Calls.call_len_list pl.isList (by simp only[bf]<;>omega) ⟨.int ys.length,H,I.tok _,⟨s.toks+1,by rw[bf,hlen]⟩,q⟩
 ·obtain⟨its,r',pl,hz⟩:=I.tuple hq;have hlen:=r'.length;exact len_tuple pl (by simp only[bf]<;>omega) ⟨.int ys.length,H,I.tok _,⟨s.toks+1,by rw[bf,hlen]⟩,q⟩
theorem HG:vq X (.builtin "len") (λxs H Q=>∃z,xs=[.str z]/\z.length<=aG/\Q (.int z.length) H):=by intro wv s σ H xs us Q I r h;obtain⟨z,rfl,hz,q⟩:=h;obtain⟨u,rfl,t,rfl⟩:=vals1 r;have hn:=EK;exact len_str (by omega) ⟨.int z.length,H,I.tok _,⟨_,rfl⟩,q⟩
theorem HH:vq X (.type "list") (λxs H Q=>∃p ys,xs=[.ref p]/\(SqL X.K H p ys\/SqT X.K H p ys)/\∀l,H l=none->Q (.ref l) (upd H l (.lst ys))):=by
 intro wv s σ H xs us Q I r h;obtain⟨p,ys,rfl,hq,q⟩:=h;obtain⟨u,rfl,rx⟩:=vals1 r;cases rx;have fin:∀(its:List aa),Vals ys its->ys.length<=aG->∀(h':Heap) (c':Nat),(∀b o',s.heap.get? b=some o'->h'.get? b=some o')->
   h'.get? s.heap.objs.size=some { cls:=.type "list", dict:=none,data:=.seq its.toArray c',slots:=#[] }->EP X wv σ Q (.ref s.heap.objs.size) { s with heap:=h' }:=λits r' hz h' c' kp e=>
  ⟨.ref s.heap.objs.size,_,I.laid (t':=s.toks) kp (ay _) (show uQ X.prog X.w _ h' _ (.lst ys) from⟨hz,its,c',r',e⟩),rfl,q _ (I.hok.fresh (ay _))⟩
 rcases hq with hq|hq
 ·obtain⟨its,r',pl,hz⟩:=I.list hq;have hlen:=r'.length;obtain⟨o,ho,hc,n,hd⟩:=pl.isList;exact pU p (.inl rfl) ho hc hd (λh' c' kp e=>fin its r' hz h' c' kp e) (by simp only[bf]<;>omega)
 ·obtain⟨its,r',pl,hz⟩:=I.tuple hq;have hlen:=r'.length;obtain⟨o,ho,hc,n,hd⟩:=pl;exact pU p (.inr rfl) ho hc hd (λh' c' kp e=>fin its r' hz h' c' kp e) (by simp only[bf]<;>omega)
theorem Ge:vq X (.type "tuple") (λxs H Q=>∃p ys,xs=[.ref p]/\((SqL X.K H p ys/\∀l,H l=none->Q (.ref l) (upd H l (.tup ys)))\/(SqT X.K H p ys/\Q (.ref p) H))):=by
 intro wv s σ H xs us Q I r h;obtain⟨p,ys,rfl,h⟩:=h;obtain⟨u,rfl,rx⟩:=vals1 r;cases rx;rcases h with ⟨hq,q⟩|⟨hq,q⟩
 ·obtain⟨its,r',pl,hz⟩:=I.list hq;have hlen:=r'.length;refine call_tuple_list pl.isList (λh' kp=>?_) (by simp only[bf]<;>omega);have I1:Inv X wv σ H { s with heap:=h' }:=I.kept (t':=s.toks) kp;have I2:Inv X wv σ (upd H h'.objs.size (.tup ys)) { s with heap:=h'.push { cls:=.type "tuple", data:=.seq its.toArray } }:=
   I1.laid (t':=s.toks) (λb o e=>aC _ e) (ay _) (show uQ X.prog X.w _ _ _ (.tup ys) from⟨hz,its,r',my _ _⟩)
  exact⟨.ref h'.objs.size,_,I2,rfl,q _ (I1.hok.fresh (ay _))⟩
 ·obtain⟨its,r',pl,hz⟩:=I.tuple hq;exact call_tuple_same pl ⟨.ref p,H,I,rfl,q⟩
def tyV(K:au)(T:String)(x:V)(H:Hp):Prop:=match x with
 |.str _=>T="str"
 |.int _=>T="int"
 |.ref p=>(T="list" /\ ∃xs,SqL K H p xs)\/(T="tuple" /\ ∃o,K.lookup p=some o/\o.cls=.type "tuple" /\ o.dict=none)\/
   (T="dict" /\ ((∃kvs,H p=some (.dK kvs))\/∃kvs,H p=some (.dT kvs)))\/(T="set" /\ ∃S n,H p=some (.set S n))
 |_=>False
theorem VQ(I:Inv X wv σ H s)(r:RelV x v)(ty:tyV X.K T x H):
  s.TypeIs v T/\∀a,v=.ref a->∃ob,s.heap.get? a=some ob/\ob.dict=none:=by
 cases x with
 |str z=>obtain⟨t,rfl⟩:=r;cases (show T="str" from ty);exact⟨typeIs_str s z t,λ_ e=>nomatch e⟩
 |int i=>obtain⟨t,rfl⟩:=r;cases (show T="int" from ty);exact⟨typeIs_int s i t,λ_ e=>nomatch e⟩
 |ref p=>
  cases r;rcases ty with ⟨rfl,xs,hq⟩|⟨rfl,o,hk,hc,hd⟩|⟨rfl,hk⟩|⟨rfl,S,n,hk⟩
  ·obtain⟨its,_,pl,_⟩:=I.list hq;refine⟨pl.isList.typeIs,λa e=>?_⟩;cases e;obtain⟨o,n,e,c,hd,_⟩:=pl;exact⟨o,e,hd⟩
  ·refine⟨⟨o,I.kIn p o hk,hc⟩,λa e=>?_⟩;cases e;exact⟨o,I.kIn _ o hk,hd⟩
  ·have z:∃o,s.heap.get? p=some o/\o.ExactDict:=by
    rcases hk with ⟨kvs,hk⟩|⟨kvs,hk⟩
    ·obtain⟨_,_,_,_,o,_,_,e,ex,_⟩:=I.hok p _ hk;exact⟨o,e,ex⟩
    ·obtain⟨_,_,_,_,o,_,_,e,ex,_⟩:=I.hok p _ hk;exact⟨o,e,ex⟩
   obtain⟨o,e,ex⟩:=z;refine⟨⟨o,e,ex.1⟩,λa e2=>?_⟩;cases e2;exact⟨o,e,ex.2.1⟩
  ·obtain⟨o,_,_,_,e,ex,_⟩:=I.hok p _ hk;refine⟨⟨o,e,ex.1⟩,λa e2=>?_⟩;cases e2;exact⟨o,e,ex.2.1⟩
 |_=>exact cZ ty
def tBM(K:au)(T:String)(r:V->bG->Hp->VK->Prop)(to:TE)(t:TA):TE:=λσ H Q=>to σ H λx H1=>tyV K T x H1/\t σ H1 λxs H2=>r x xs H2 Q
variable{o e:Expr}{es:List Expr}{to:TE}{t:TA}{name:Str}{apos cpos:Pos}{T id:String}{r:V->bG->Hp->VK->Prop}
theorem ZR(pa:mi T)(slot:Slot T name id)(hty:typeOf (.builtin id)=pure (.type "method_descriptor"))(hm:MtR X id r)(ho:PE X o to)(ha:PA X (e::es) t)
  (hbase:fz o name X.env (eval o X.env)=eval o X.env:=by rfl)
  (hfew:((bt cpos (aw (e::es) X.env)).all (λx=>!x.1)&&(backToKw cpos (dO [] X.env)).all (λx=>x.1.isSome)
   && decide ((e::es).length+([]:List fE).length+(if ([]:List fE).isEmpty then 0 else 1)<30))=true:=by rfl)
  (hline:(apos.endLine==cpos.line)=true:=by rfl) (hs:aw (e::es) X.env=(false,eval e X.env)::aw es X.env:=by rfl) (hplain:(bt cpos (aw es X.env)).any (·.1)=false:=by rfl):
  PE X (.Call (.Attribute o name apos) (e::es) [] cpos) (tBM X.K T r to t):=by
 intro wv s σ H Q I h;refine wpAny_Call_method_late hbase hfew hline rfl (thn (ho wv s σ H _ I h) λv s1 zz=>?_);obtain⟨x,H1,I1,r1,ty,q1⟩:=zz;obtain⟨h1,h2⟩:=VQ I1 r1 ty;refine⟨T,id,pa,slot,hty,h1,h2,?_⟩;have hA:=ha cpos wv s1 σ H1 _ I1 q1;rw[hs]at hA ⊢;refine iB (by show (false||(bt cpos (aw es X.env)).any (·.1))=false;rw[hplain]<;>rfl) (iE ?_)
 exact thn hA λus s2 ⟨vs,H2,I2,r2,q2⟩=>hm wv s2 σ H2 x vs v us Q I2 r1 r2 q2
end
def MtM(X:Cx)(id:String)(r:V->bG->Hp->VK->Prop):Prop:=
 ∀(wv:cF) (s:ae) (σ:St) (H:Hp) (x:V) (xs:bG) (v:aa) (us:List aa) (Q:VK),Inv X wv σ H s->RelV x v->Vals xs us->r x xs H Q->
  aj (model X.prog X.w) X.A (call (.builtin id) (v::us)) (EP X wv σ Q) X.xe s
theorem Vals.one:∀{x:V} {us:List aa},Vals [x] us->∃u,us=[u]/\RelV x u
 |_,_,.cons r .nil=>⟨_,rfl,r⟩
theorem Vals.eraseIdx:∀{xs:bG} {us:List aa} (i:Nat),Vals xs us->Vals (xs.eraseIdx i) (us.eraseIdx i)
 |_,_,_,.nil=>.nil
 |_,_,0,.cons _ t=>t
 |_,_,i+1,.cons r t=>.cons r (Vals.eraseIdx i t)
theorem GB{α:Type}:∀(l:List α) (i:Nat),(l.eraseIdx i).length<=l.length
 |[],_=>ay _
 |_::_,0=>ic _
 |_::r,i+1=>Nat.succ_le_succ (GB r i)
section
variable{X:Cx}{wv:cF}{σ:St}{H:Hp}{s:ae}{l b:Addr}{xs ys zs:bG}
theorem Inv.lset{its its':List aa}(I:Inv X wv σ H s)(hH:H l=some (.lst xs))
  (e:s.heap.get? l=some { cls:=.type "list", data:=.seq its.toArray n }) (hf:f its.toArray=its'.toArray) (hv:Vals ys its') (hz:ys.length<=aG):
  Inv X wv σ (upd H l (.lst ys)) { s with heap:=s.heap.update l (cB f),toks:=t' }:=by
 have q:=PySem.IsL.update e f;rw[hf]at q;refine I.write (x:=l) (e:=l) (by rw[hH];exact trivial) (.inl rfl) (λb' u hb hu=>(fQ s.heap (cB f) (cD hb)).trans hu) ⟨_,q⟩ ?_;exact⟨hz,its',_,hv,q⟩
theorem Inv.lnew(I:Inv X wv σ H s)(hv:Vals ys its)(hz:ys.length<=aG):
  Inv X wv σ (upd H s.heap.objs.size (.lst ys)) { s with heap:=s.heap.push { cls:=.type "list", data:=.seq its.toArray },toks:=t' }:=
 I.laid (λ_ _ q=>aC _ q) (ay _) ⟨hz,its,0,hv,bp _ rfl⟩
theorem Inv.fresh(I:Inv X wv σ H s):H s.heap.objs.size=none:=I.hok.fresh (ay _)
theorem Inv.lstM(I:Inv X wv σ H s)(hH:H l=some (.lst xs)):xs.length<=aG/\∃(its:List aa) (n:Nat),Vals xs its/\xs.length=its.length/\s.heap.get? l=some { cls:=.type "list", data:=.seq its.toArray n }:=by obtain⟨z,its,n,r,e⟩:=I.hok l _ hH;exact⟨z,its,n,r,r.length,e⟩
theorem Jg(h:n<=aG):iy n=false:=by unfold iy;exact aT (by omega)
end
section
variable{X:Cx}
def HI:V->bG->Hp->VK->Prop:=λx vs H Q=>∃l xs y,x=.ref l/\vs=[y]/\H l=some (.lst xs)/\xs.length<aG/\Q .non (upd H l (.lst (xs++[y])))
theorem CS:MtM X "list.append" HI:=by intro wv s σ H x vs v us Q I rx rv h;obtain⟨l,xs,y,rfl,rfl,hH,hz,q⟩:=h;cases rx;obtain⟨u,rfl,ru⟩:=rv.one;obtain⟨z,its,n,r,hl,e⟩:=I.lstM hH;refine j4 kK ⟨_,e,rfl⟩ F.entry_list_append (F.args_list_append_2 _ _) (PySem.list_append l its.toArray n u (by rw[bf];omega)) ⟨e,?_⟩;refine⟨.non,_,I.lset (its':=its++[u]) hH e (by simp) (r.append (.cons ru .nil)) ?_,rfl,q⟩;rw[aB,bh];omega
def RW:V->bG->Hp->VK->Prop:=λx vs H Q=>∃l b xs zs,x=.ref l/\vs=[.ref b]/\H l=some (.lst xs)/\H b=some (.lst zs)/\xs.length+zs.length<=aG/\Q .non (upd H l (.lst (xs++zs)))
theorem Zc:MtM X "list.extend" RW:=by
 intro wv s σ H x vs v us Q I rx rv h;obtain⟨l,b,xs,zs,rfl,rfl,hH,hB,hz,q⟩:=h;cases rx;obtain⟨u,rfl,ru⟩:=rv.one;cases ru;obtain⟨z,its,n,r,hl,e⟩:=I.lstM hH;obtain⟨z2,its2,n2,r2,hl2,e2⟩:=I.lstM hB;have hsz:its.toArray.size+its2.toArray.size<=aG:=by rw[bf,bf];omega
 have hlong:¬(!its.toArray.isEmpty&&iy (its.toArray.size+its2.toArray.size))=true:=by rw[Jg hsz,pD];exact bj
 refine j4 kL ⟨_,e,rfl⟩ oa (nQ _ _)
  (AutoSeq1.list_extend_list_list_0 l its.toArray n b its2.toArray n2 hlong (by rw[bf];omega) (by omega)) ⟨e,e2,?_⟩
 refine⟨.non,_,I.lset (its':=its++its2) hH e (by simp) (r.append r2) ?_,rfl,q⟩;rw[aB];omega
def OE:V->bG->Hp->VK->Prop:=λx vs H Q=>∃l xs i k y,x=.ref l/\vs=[.int i]/\H l=some (.lst xs)/\-(2 ^ 63)<=i/\i<2 ^ 63/\seqIndex? i xs.length=some k/\xs[k]?=some y/\Q y (upd H l (.lst (xs.eraseIdx k)))
theorem OF:MtM X "list.pop" OE:=by
 intro wv s σ H x vs v us Q I rx rv h;obtain⟨l,xs,i,k,y,rfl,rfl,hH,h1,h2,hk,hy,q⟩:=h;cases rx;obtain⟨u,rfl,ru⟩:=rv.one;obtain⟨t,rfl⟩:=ru;obtain⟨z,its,n,r,hl,e⟩:=I.lstM hH;obtain⟨w,hw,rw'⟩:=r.get hy;refine j4 oZ ⟨_,e,rfl⟩ F.entry_list_pop (F.args_list_pop_2 _ _)
  (MeetsSeq.list_pop_at l its.toArray n i t k w (fitsIndex_both h1 h2) (by rw[bf,<- hl];exact hk) (by rw[<-bT];exact hw) (by rw[bf];omega)) ⟨e,?_⟩
 refine⟨y,_,I.lset (its':=its.eraseIdx k) hH e ?_ (r.eraseIdx k) ?_,rw',q⟩
 ·show its.toArray.eraseIdxIfInBounds k=(its.eraseIdx k).toArray;rw[List.eraseIdxIfInBounds_toArray]
 ·have:=GB xs k;omega
def rCat:R2:=λx y H Q=>∃l b xs zs,x=.ref l/\y=.ref b/\H l=some (.lst xs)/\H b=some (.lst zs)/\xs.length+zs.length<=aG/\∀p,H p=none->Q (.ref p) (upd H p (.lst (xs++zs)))
theorem VR:OpR X (cO .Add) rCat:=by
 intro wv s σ H x y v u Q I rx ry h;obtain⟨l,b,xs,zs,rfl,rfl,hH,hB,hz,q⟩:=h;cases rx;cases ry;obtain⟨z,its,n,r,hl,e⟩:=I.lstM hH;obtain⟨z2,its2,n2,r2,hl2,e2⟩:=I.lstM hB;refine PySem.P.add_list e e2 ?_ (by rw[bf,bf];omega);have ea:its.toArray++its2.toArray=(its++its2).toArray:=by simp
 rw[ea];exact⟨.ref _,_,I.lnew (t':=s.toks) (r.append r2) (by rw[aB];omega),rfl,q _ I.fresh⟩
end
section
variable{prog:aH}{w:aA}{A:aI}{E:aa->ae->Prop}{s:ae}
set_option maxRecDepth 100000 in
end
section
variable{κ:Type}[DecidableEq κ]
def wZ(kvs:List (κ×V))(k:κ):Option V:=(kvs.find? λkv=>decide (kv.1=k)).map (·.2)
def putK(kvs:List (κ×V))(k:κ)(v:V):List (κ×V):=
 if (kvs.any λkv=>decide (kv.1=k))=true then kvs.map (λkv=>if kv.1=k then (kv.1,v)else kv)else kvs++[(k,v)]
theorem BR{p:κ×V}(e:p.1=k):wZ (p::r) k=some p.2:=by simp[wZ,fi,e]
theorem BS{p:κ×V}(e:¬p.1=k):wZ (p::r) k=wZ r k:=by simp[wZ,fi,e]
theorem ET(k:κ):∀kvs:List (κ×V),(kvs.any λkv=>decide (kv.1=k))=(wZ kvs k).isSome
 |[]=>rfl
 |p::r=>by
  rw[fY];by_cases e:p.1=k
  ·simp only[BR e,aY e,Bool.true_or,Option.isSome_some]
  ·rw[BS e,aT e,Bool.false_or];exact ET k r
theorem yP(kvs:List (κ×V))(k:κ)(v:V):(putK kvs k v).length<=kvs.length+1:=by
 unfold putK;split
 ·rw[af];omega
 ·rw[aB,aM,fj];omega
theorem OG{kvs:List (κ×V)}{k:κ}(v:V)(h:wZ kvs k=none):putK kvs k v=kvs++[(k,v)]:=by unfold putK;rw[ET,h];exact ai (by decide)
theorem As.isSome_eq(r:As o u):o.isSome=u.isSome:=by
 cases o with
 |none=>cases u with
  |none=>rfl
  |some _=>exact(show False from r).elim
 |some _=>cases u with
  |none=>exact(show False from r).elim
  |some _=>rfl
theorem As.getD(r:As o u)(rd:RelV d d'):RelV (o.getD d) (u.getD d'):=by
 cases o with
 |none=>cases u with
  |none=>exact rd
  |some _=>exact(show False from r).elim
 |some _=>cases u with
  |none=>exact(show False from r).elim
  |some _=>exact r
theorem KV.val(r:KV kvs vs)(k:κ):As (wZ kvs k) (valueAt vs k):=by
 unfold KV at r
 induction r with
 |nil=>exact True.intro
 |@cons p q ps qs h t ih=>
  obtain⟨h1,h2⟩:=h;by_cases e:p.1=k
  ·have e':q.1=k:=h1.symm.trans e;have b:valueAt (q::qs) k=some q.2:=by simp[valueAt,fi,e']
   rw[BR e,b];exact h2
  ·have e':¬q.1=k:=λz=>e (h1.trans z);have b:valueAt (q::qs) k=valueAt qs k:=by simp[valueAt,fi,e']
   rw[BS e,b];exact ih
theorem KV.any(r:KV kvs vs)(k:κ):(kvs.any λkv=>decide (kv.1=k))=vs.any λkv=>decide (kv.1=k):=by
 unfold KV at r
 induction r with
 |nil=>rfl
 |cons h t ih=>rw[fY,fY,ih,h.1]
theorem KV.repl(r:KV kvs vs)(k:κ)(ry:RelV y u):
  KV (kvs.map λkv=>if kv.1=k then (kv.1,y)else kv) (vs.map λkv=>if kv.1=k then (kv.1,u)else kv):=by
 unfold KV at r ⊢
 induction r with
 |nil=>exact .nil
 |@cons p q ps qs h t ih=>
  rw[aE,aE];refine .cons ?_ ih;obtain⟨h1,h2⟩:=h;by_cases e:p.1=k
  ·rw[ah e,ah (h1.symm.trans e)];exact⟨h1,ry⟩
  ·rw[ai e,ai (λz=>e (h1.trans z))];exact⟨h1,h2⟩
theorem KV.put{kvs:List (κ×V)}{vs:List (κ×aa)}(r:KV kvs vs)(k:κ){y:V}{u:aa}(ry:RelV y u):KV (putK kvs k y) (stored vs k u):=by
 unfold putK stored;rw[r.any k];by_cases e:(vs.any λkv=>decide (kv.1=k))=true
 ·rw[ah e,ah e];exact r.repl k ry
 ·rw[ai e,ai e];exact qr r ⟨rfl,ry⟩
theorem KV.length(r:KV kvs vs):kvs.length=vs.length:=lJ r
end
theorem BU(r:RelV (kV k) u):(tU P w).is k u=true:=by
 cases k with
 |inl i=>obtain⟨t,e⟩:=(show ∃t,u=Value.int i t from r);subst e;exact IY P w i t
 |inr x=>obtain⟨t,e⟩:=(show ∃t,u=Value.str x t from r);subst e;exact IZ P w x t
theorem GE:∀{ks:List Key} {us:List aa},Vals (ks.map kV) us->ItemsAre (tU P w) ks us
 |[],_,r=>by rw[cM]at r;cases r;exact .nil
 |k::ks,_,r=>by
  rw[aE]at r;cases r with
  |cons h t=>exact .cons (BU h) (GE t)
abbrev KT(H:Hp):List (List Key×V)->List (List Key×Addr×aa)->Prop:=gd λp q=>p.1=q.1/\H q.2.1=some (.tup (p.1.map kV))/\RelV p.2 q.2.2
theorem KT.val(r:KT H kvs xs)(k:List Key):As (wZ kvs k) ((atKey xs k).map (·.2)):=by
 induction r with
 |nil=>exact True.intro
 |@cons p q ps qs h t ih=>
  obtain⟨h1,_,h2⟩:=h;by_cases e:p.1=k
  ·have e':q.1=k:=h1.symm.trans e;have b:atKey (q::qs) k=some q.2:=by simp[atKey,fi,e']
   rw[BR e,b];exact h2
  ·have e':¬q.1=k:=λz=>e (h1.trans z);have b:atKey (q::qs) k=atKey qs k:=by simp[atKey,fi,e']
   rw[BS e,b];exact ih
theorem KT.repl(r:KT H kvs xs)(k:List Key)(ry:RelV y u):
  KT H (kvs.map λkv=>if kv.1=k then (kv.1,y)else kv) (xs.map (putAt k u)):=by
 induction r with
 |nil=>exact .nil
 |@cons p q ps qs h t ih=>
  rw[aE,aE];refine .cons ?_ ih;obtain⟨h1,h2,h3⟩:=h;unfold putAt;by_cases e:p.1=k
  ·rw[ah e,ah (h1.symm.trans e)];exact⟨h1,h2,ry⟩
  ·rw[ai e,ai (λz=>e (h1.trans z))];exact⟨h1,h2,h3⟩
theorem KT.put{H:Hp}{kvs:List (List Key×V)}{xs:List (List Key×Addr×aa)}(r:KT H kvs xs)(k:List Key){b:Addr}{y:V}{u:aa}(hb:H b=some (.tup (k.map kV)))(ry:RelV y u):
  KT H (putK kvs k y) (storedH xs k b u):=by
 have e:(kvs.any λkv=>decide (kv.1=k))=(atKey xs k).isSome:=by rw[ET,(r.val k).isSome_eq,Option.isSome_map]
 unfold putK storedH;rw[e];by_cases q:(atKey xs k).isSome=true
 ·rw[ah q,ah q];exact r.repl k ry
 ·rw[ai q,ai q];exact qr r ⟨rfl,hb,ry⟩
theorem KT.keeps(r:KT H kvs xs)(ht:∀b ys,H b=some (.tup ys)->H' b=some (.tup ys)):KT H' kvs xs:=
 Paired.mapP r λ_ _ z=>⟨z.1,ht _ _ z.2.1,z.2.2⟩
section
variable{P:aH}{w:aA}{H:Hp}{h:Heap}{a:Addr}
theorem UO(ok:HOk P w H h)(e:Rd H a u):uQ P w H h a u:=e.ok ok
theorem Bl(ok:HOk P w H h)(e:Rd H a (.dK kvs)):kvs.length<=aG/\(a==cY)=false/\∃vs,KV kvs vs/\h.DictOf (tU P w) a vs:=
 show uQ P w H h a (.dK kvs) from UO ok e
theorem OH(ok:HOk P w H h)(e:H a=some (.dK kvs)):kvs.length<=aG/\(a==cY)=false/\∃vs,KV kvs vs/\h.DictOf (tU P w) a vs:=Bl ok (.inl e)
theorem EU{ks:List Key}(ok:HOk P w H h)(e:H a=some (.tup (ks.map kV))):(tupleKind (tU P w)).is h ks a:=by obtain⟨_,its,r,o,h1,h2,n,h3⟩:=(show uQ P w H h a (.tup (ks.map kV)) from ok a _ e);exact⟨o,its.toArray,n,h1,h2,h3,by simpa using GE r⟩
theorem GF(ok:HOk P w H h)(e:Rd H a (.dT kvs)):kvs.length<=aG/\(a==cY)=false/\
  ∃xs,KT H kvs xs/\h.DictOfH (tupleKind (tU P w)) a xs:=by
 obtain⟨z,y,xs,r,o,es,ep,h1,h2,h3,h4,h5⟩:=(show uQ P w H h a (.dT kvs) from UO ok e);refine⟨z,y,xs,r,o,es,ep,h1,h2,h3,h4,λx hx=>?_,h5⟩;have all:∀{l:List (List Key×V)} {m:List (List Key×Addr×aa)},KT H l m->∀x∈m,(tupleKind (tU P w)).is h x.1 x.2.1:=by
  intro l m q
  induction q with
  |nil=>intro x hx;exact nomatch hx
  |@cons p q ps qs hq t ih=>
   intro x hx;rcases aN.mp hx with e|hx
   ·subst e;exact EU ok (by rw[<-hq.1];exact hq.2.1)
   ·exact ih x hx
 exact all r x hx
theorem ZU(ok:HOk P w H h)(e:H a=some (.dT kvs)):kvs.length<=aG/\(a==cY)=false/\
  ∃xs,KT H kvs xs/\h.DictOfH (tupleKind (tU P w)) a xs:=GF ok (.inl e)
end
def DGet(H:Hp)(a:Addr)(y:V)(r:Option V):Prop:=
 (∃kvs k,Rd H a (.dK kvs)/\y=kV k/\r=wZ kvs k)\/∃kvs k b,Rd H a (.dT kvs)/\y=.ref b/\H b=some (.tup (k.map kV))/\r=wZ kvs k
def OI(H:Hp)(a:Addr)(y v:V)(H':Hp):Prop:=
 (∃kvs k,H a=some (.dK kvs)/\y=kV k/\kvs.length<aG/\H'=upd H a (.dK (putK kvs k v)))\/
 ∃kvs k b,H a=some (.dT kvs)/\y=.ref b/\H b=some (.tup (k.map kV))/\kvs.length<aG/\H'=upd H a (.dT (putK kvs k v))
theorem OI.k{H:Hp}{a:Addr}{kvs:List (Key×V)}{k:Key}{v:V}(e:H a=some (.dK kvs))(hl:kvs.length<aG):OI H a (kV k) v (upd H a (.dK (putK kvs k v))):=.inl ⟨kvs,k,e,rfl,hl,rfl⟩
section
variable{X:Cx}{wv:cF}{σ:St}{H:Hp}{s:ae}{a:Addr}{y v:V}{u r:aa}{o:Option V}{A:aI}{E:aa->ae->Prop}
theorem Inv.big(I:Inv X wv σ H s):cY<s.heap.objs.size:=by have h:aW<s.heap.objs.size:=(I.mod.glob.keeps I.bk).lt;exact jU (by decide) h
theorem Nh(hu:A.units+1<cLine)(I:Inv X wv σ H s)(g:DGet H a y (some v))(ry:RelV y u)(h:∀w' s',Inv X wv σ H s'->RelV v w'->Q w' s'):
  aj (model X.prog X.w) A (getItem (.ref a) u) Q E s:=by
 rcases g with ⟨kvs,k,e,ey,l⟩|⟨kvs,k,b,e,ey,eb,l⟩
 ·subst ey;obtain⟨z,hd,vs,rel,dd⟩:=Bl I.hok e;obtain⟨w',hw,rw'⟩:=As.some_of (v:=v) (o:=valueAt vs k) (by rw[l];exact rel.val k);exact wpAny_getItem_of (BU ry) dd.mapOf hw (h w' _ (I.tok _) rw')
 ·subst ey;cases (show u=Value.ref b from ry);obtain⟨z,hd,xs,rel,dd⟩:=GF I.hok e;obtain⟨w',hw,rw'⟩:=As.some_of (v:=v) (o:=(atKey xs k).map (·.2)) (by rw[l];exact rel.val k)
  obtain⟨p,hp,hp2⟩:=ny.mp hw;refine wpAny_getItem_heap (jE hu) (EU I.hok eb) dd hp ?_;rw[hp2];exact h w' _ (I.tok _) rw'
theorem Ex(I:Inv X wv σ H s)(mu:Mut (H a))(hs:f9 a s.heap h')(he:∃q,h'.get? a=some q)(new:uQ X.prog X.w (upd H a ob) h' a ob):
  Inv X wv σ (upd H a ob) { s with heap:=h',toks:=t' }:=
 I.write (x:=a) (e:=a) mu (.inl rfl) (λb q hb z=>(hs.2 b hb).trans z) he new
theorem KM{h':Heap}{kvs:List (Key×V)}(z:kvs.length<=aG)(hd:(a==cY)=false)(rel:KV kvs vs)(dd:h'.DictOf (tU P w) a vs):
  uQ P w H' h' a (.dK kvs):=⟨z,hd,vs,rel,dd⟩
theorem Ni(hu:A.units+1<cLine)(I:Inv X wv σ H s)(g:OI H a y v H')(ry:RelV y u)(rv:RelV v r)(h:∀s',Inv X wv σ H' s'->Q () s'):
  aj (model X.prog X.w) A (setItem (.ref a) u r) Q E s:=by
 rcases g with ⟨kvs,k,e,ey,l,eH⟩|⟨kvs,k,b,e,ey,eb,l,eH⟩
 ·subst ey eH;obtain⟨z,hd,vs,rel,dd⟩:=OH I.hok e;have hz:vs.length<=aG:=by rw[<-rel.length];exact z
  have hl:(putK kvs k v).length<=aG:=by have:=yP kvs k v;omega
  refine wpAny_setItem_pairs (hsz:=hz) (BU ry) dd λh' dd' hs=>h _ ?_;have he:∃q,h'.get? a=some q:=let ⟨q,_,_,hq,_⟩:=dd';⟨q,hq⟩;exact Ex I (by rw[e];exact True.intro) hs he (KM hl hd (rel.put k rv) dd')
 ·subst ey eH;cases (show u=Value.ref b from ry);obtain⟨z,hd,xs,rel,dd⟩:=ZU I.hok e;have hz:xs.length<=aG:=by rw[<-lJ rel];exact z
  have hl:(putK kvs k v).length<=aG:=by have:=yP kvs k v;omega
  refine wpAny_setItem_heap (hsz:=hz) (jE hu) (EU I.hok eb) dd λh' dd' hs=>h _ ?_;obtain⟨q,es,ep,hq,h2,h3,h4,_,h5⟩:=dd';refine Ex I (by rw[e];exact True.intro) hs ⟨q,hq⟩ ⟨hl,hd,_,(rel.put k eb rv).keeps λc ys ec=>?_,q,es,ep,hq,h2,h3,h4,h5⟩;rw[tR (Zf ec e (λz=>nomatch z))];exact ec
end
section
variable{X:Cx}{wv:cF}{σ:St}{H:Hp}{s:ae}{a:Addr}{kvs:List (Key×V)}{k:Key}{u:aa}{A:aI}{E:aa->ae->Prop}
theorem ZX(I:Inv X wv σ H s)(e:Rd H a (.dK kvs))(h:∀t s',Inv X wv σ H s'->Q (.int kvs.length t) s'):aj (model X.prog X.w) A (call (.builtin "len") [.ref a]) Q E s:=by obtain⟨z,hd,vs,rel,dd⟩:=Bl I.hok e;refine call_len_dict hd dd (by rw[<-rel.length];rw[bN]at z;omega) ?_;rw[<-rel.length];exact h _ _ (I.tok _)
end
def VS(i:Expr):Prop:=∀ov iv,subscripted i false ov iv=operate [ov,iv] (getItem ov iv)
theorem RX{id:String}
  (hl:typeLookup (.type T) "__getitem__" = pure (some (.builtin id))) (hs:VS slice)
  (h:aj (model prog w) A (eval value env) (λo s₁=>aj (model prog w) A (eval slice env) (λi s₂=>s₂.TypeIs o T/\aj (model prog w) A (getItem o i) Q E s₂) E s₁) E s):
  aj (model prog w) A (eval (.Subscript value slice pos) env) Q E s:=by
 refine mh (bZ h (λo s₁ h₁=>bZ h₁ (λi s₂ h₂=>?_) λ_ _ x=>x) λ_ _ x=>x);obtain⟨hT,h₂⟩:=h₂;unfold subscriptTail;refine ag ?_;rw[getitemInPython_of_ne hT.not_modules];refine ag (gV hT hl ?_);have fin:aj (model prog w) A (subscripted slice false o i) (λr s₃=>aj (model prog w) A (letTemporaryGo value o r>>=λ_=>pure r) Q E s₃) E s₂:=by rw[hs o i];exact wpAny_operating (bZ h₂ (λr s₃ h₃=>ag (wpAny_letTemporaryGo (ar h₃))) λ_ _ x=>x)
 first
  |exact ar (ag fin)
  |exact ag (ar (ag fin))
  |exact ag fin
theorem Jh(I:Inv X wv σ H s)(g:DGet H a y o):s.TypeIs (.ref a) "dict" := by
 rcases g with ⟨kvs,k,e,_,_⟩|⟨kvs,k,b,e,_,_,_⟩
 ·obtain⟨_,_,vs,_,dd⟩:=Bl I.hok e;exact dd.typeIs
 ·obtain⟨_,_,xs,_,dd⟩:=GF I.hok e;exact dd.typeIs
def ZY(td ty:TE):TE:=λσ H Q=>td σ H λx H1=>ty σ H1 λy H2=>∃a v,x=.ref a/\DGet H2 a y (some v)/\Q v H2
def UP(td ty tv:TE):TS:=λD σ H=>tv σ H λv H1=>td σ H1 λx H2=>ty σ H2 λy H3=>∃a H4,x=.ref a/\OI H3 a y v H4/\D.nx σ H4
section
variable{X:Cx}{o i e value:Expr}{pos pos' tpos:Pos}{td ty tv:TE}
theorem RY(hu:X.A.units+1<cLine)(ho:PE X o td)(hi:PE X i ty)(hs:VS i):PE X (.Subscript o i pos) (ZY td ty):=by intro wv s σ H Q I h;refine RX F.slot_dict_getitem.lookup hs (thn (ho wv s σ H _ I h) λu s1 ⟨x,H1,I1,rx,q1⟩=>thn (hi wv s1 σ H1 _ I1 q1) λiv s2 zz=>?_);obtain⟨y,H2,I2,ry,a,v,ex,g,q2⟩:=zz;subst ex;obtain rfl:u=Value.ref a:=rx;exact⟨Jh I2 g,Nh hu I2 g ry λw' s3 I3 rw'=>⟨v,H2,I3,rw',q2⟩⟩
theorem RZ(hu:X.A.units+1<cLine)(ho:PE X o td)(hi:PE X i ty)(hv:PE X value tv)(hs:dR value (some (.Subscript o i pos')) pos.line X.env=pure false):
  PS X (.Assign [.Subscript o i pos'] value pos) (UP td ty tv):=by
 intro wv s σ H D I h;refine wpAny_Assign_Subscript (thn (hv wv s σ H _ I h) λr s1 ⟨v,H1,I1,rv,q1⟩=>thn (ho wv s1 σ H1 _ I1 q1) λu s2 ⟨x,H2,I2,rx,q2⟩=>thn (hi wv s2 σ H2 _ I2 q2) λiv s3 zz=>?_) hs;obtain⟨y,H3,I3,ry,a,H4,ex,g,q3⟩:=zz;subst ex;obtain rfl:u=Value.ref a:=rx;exact Ni hu I3 g ry rv λs4 I4=>⟨σ,H4,I4,q3⟩
end
theorem Ji(h:Heap)(hb:cY<h.objs.size):uQ P w H (h.push { cls:=.type "dict", data:=.dict #[] }) h.objs.size (.dK []):=
 ⟨bA _,beq_eq_false_iff_ne.mpr (cD (aR hb)),[],.nil,sY h⟩
def KN:TE:=λ_ H Q=>∀p,H p=none->Q (.ref p) (upd H p (.dK []))
section
variable{X:Cx}{pos:Pos}
theorem EV:PE X (.Dict [] [] pos) KN:=λwv s σ H Q I h=>
 wpAny_Dict_empty ⟨.ref s.heap.objs.size,_,I.laid (a:=s.heap.objs.size) (o:=.dK []) (t':=s.toks) (λ_ _ q=>aC _ q) (ay _) (Ji s.heap I.big),rfl,h _ (I.hok.fresh (ay _))⟩
end
def HJ:List (TE×TE)->St->Hp->(List (V×V)->Hp->Prop)->Prop
 |[],_,H,Q=>Q [] H
 |(tk,tv)::r,σ,H,Q=>tk σ H λx H1=>tv σ H1 λy H2=>HJ r σ H2 λps H3=>Q ((x,y)::ps) H3
abbrev VV:List (V×V)->List (aa×aa)->Prop:=gd λp q=>RelV p.1 q.1/\RelV p.2 q.2
def PPs(X:Cx)(pos:Pos)(keys:List (Option Expr))(values:List Expr)(trs:List (TE×TE)):Prop:=
 ∀(wv:cF) (s:ae) (σ:St) (H:Hp) (Q:List (V×V)->Hp->Prop),Inv X wv σ H s->HJ trs σ H Q->
  aj (model X.prog X.w) X.A (evalPairs (pairTrees keys values X.env pos)) (λvs s'=>∃ps H',Inv X wv σ H' s'/\VV ps vs/\Q ps H') X.xe s
theorem R0:PPs X pos [] [] []:=λwv s σ H Q I h=>pairTrees_nil_walk ⟨[],H,I,.nil,h⟩
theorem OJ{tk:TE}(hk:PE X k tk)(hv:PE X v tv)(hr:PPs X pos ks vs trs):
  PPs X pos (some k::ks) (v::vs) ((tk,tv)::trs):=λwv s σ H Q I h=>
 pairTrees_cons_walk (thn (hk wv s σ H _ I h) λu s1 ⟨x,H1,I1,rx,q1⟩=>thn (hv wv s1 σ H1 _ I1 q1) λw2 s2 ⟨y,H2,I2,ry,q2⟩=>
  thn (hr wv s2 σ H2 _ I2 q2) λws s3 ⟨ps,H3,I3,rel,q3⟩=>⟨(x,y)::ps,H3,I3,.cons ⟨rx,ry⟩ rel,q3⟩)
def Ax(kvs more:List (Key×V)):List (Key×V):=more.foldl (λacc kv=>putK acc kv.1 kv.2) kvs
theorem KV.merge:∀{more:List (Key×V)} {rs:List (Key×aa)} {kvs:List (Key×V)} {vs:List (Key×aa)},KV more rs->KV kvs vs->KV (Ax kvs more) (merged vs rs):=by
 intro more rs kvs vs r;unfold KV at r
 induction r generalizing kvs vs with
 |nil=>intro q;exact q
 |@cons p q ps qs h t ih=>
  intro r0;have e:KV (putK kvs p.1 p.2) (stored vs q.1 q.2):=by have:=r0.put p.1 h.2;rw[<-h.1];exact this
  exact ih e
theorem Bm:∀(more kvs:List (Key×V)),(Ax kvs more).length<=kvs.length+more.length
 |[],kvs=>by show kvs.length<=kvs.length+0;omega
 |p::r,kvs=>by have h1:=Bm r (putK kvs p.1 p.2);have h2:=yP kvs p.1 p.2;show (Ax (putK kvs p.1 p.2) r).length<=_;rw[aM];omega
theorem EW:∀{kvs:List (Key×V)} {ws:List (aa×aa)},VV (kvs.map λkv=>(kV kv.1,kv.2)) ws->∃rs,Carries (tU P w) ws rs/\KV kvs rs
 |[],_,r=>by rw[cM]at r;cases r;exact⟨[],True.intro,.nil⟩
 |p::kvs,_,r=>by
  rw[aE]at r;cases r with
  |@cons a b as bs h t=>obtain⟨rs,c,q⟩:=EW (P:=P) (w:=w) t;obtain⟨b1,b2⟩:=b;exact⟨(p.1,b2)::rs,⟨BU h.1,rfl,c⟩,.cons ⟨rfl,h.2⟩ q⟩
def OK(trs:List (TE×TE)):TE:=λσ H Q=>∀p,H p=none->HJ trs σ (upd H p (.dK [])) λps H2=>H2 p=some (.dK [])/\∃kvs:List (Key×V),ps=kvs.map (λkv=>(kV kv.1,kv.2))/\kvs.length<=15/\Q (.ref p) (upd H2 p (.dK (Ax [] kvs)))
theorem R7(h:PPs X pos keys values trs)(hall:keys.all (·.isSome)=true)(hl:keys.length=values.length)(h0:keys≠[])
  (h15:keys.length<=15):PE X (.Dict keys values pos) (OK trs):=by
 intro wv s σ H Q I q;have hn:=I.hok.fresh (ay s.heap.objs.size);have I1:=I.laid (a:=s.heap.objs.size) (o:=.dK []) (h':=s.heap.push { cls:=.type "dict", data:=.dict #[] }) (t':=s.toks) (λ_ _ q=>aC _ q) (ay _) (Ji s.heap I.big);refine wpAny_Dict_walk (knd:=tU X.prog X.w) hall hl h0 h15 (thn (h wv _ σ _ _ I1 (q _ hn)) λws s2 zz=>?_);obtain⟨ps,H2,I2,rel,e,kvs,ep,lk,q2⟩:=zz;subst ep;obtain⟨rs,c,rk⟩:=EW (P:=X.prog) (w:=X.w) rel;obtain⟨z,hd,vs0,r0,dd⟩:=OH I2.hok e;cases r0;refine⟨rs,c,dd,λh' dd' hs=>⟨.ref s.heap.objs.size,_,?_,rfl,q2⟩⟩;have hz:(Ax [] kvs).length<=aG:=by have h1:=Bm kvs [];rw[fj]at h1;rw[bN];omega
 have he:∃q,h'.get? s.heap.objs.size=some q:=let ⟨q,_,_,hq,_⟩:=dd';⟨q,hq⟩;exact Ex I2 (by rw[e];exact True.intro) hs he (KM hz hd (rk.merge .nil) dd')
structure M1(X:Cx)(o:Expr)(m:Str)(apos:Pos)(e:Expr)(cpos:Pos):Prop where
 base:fz o m X.env (eval o X.env)=eval o X.env
 few:((bt cpos (aw [e] X.env)).all (λx=>!x.1)&&(backToKw cpos (dO [] X.env)).all (λx=>x.1.isSome)
  && decide (([e]:List Expr).length+([]:List fE).length+(if ([]:List fE).isEmpty then 0 else 1)<30))=true
 line:(apos.endLine==cpos.line)=true
 trees:bt cpos (aw [e] X.env)=[(false,eval e X.env)]
structure M2(X:Cx)(o:Expr)(m:Str)(apos:Pos)(e f:Expr)(cpos:Pos):Prop where
 base:fz o m X.env (eval o X.env)=eval o X.env
 few:((bt cpos (aw [e,f] X.env)).all (λx=>!x.1)&&(backToKw cpos (dO [] X.env)).all (λx=>x.1.isSome)
  && decide (([e,f]:List Expr).length+([]:List fE).length+(if ([]:List fE).isEmpty then 0 else 1)<30))=true
 line:(apos.endLine==cpos.line)=true
 trees:bt cpos (aw [e,f] X.env)=[(false,eval e X.env),(false,eval f X.env)]
def IsD(H:Hp)(a:Addr):Prop:=(∃kvs,Rd H a (.dK kvs))\/∃kvs,Rd H a (.dT kvs)
theorem HK(I:Inv X wv σ H s)(d:IsD H a):
  s.TypeIs (.ref a) "dict" /\ (∀b,Value.ref a=.ref b->∃ob,s.heap.get? b=some ob/\ob.dict=none)/\(a==cY)=false:=by
 rcases d with ⟨kvs,e⟩|⟨kvs,e⟩
 ·obtain⟨_,hd,vs,_,dd⟩:=Bl I.hok e;refine⟨dd.typeIs,λb q=>?_,hd⟩;cases q;obtain⟨ob,_,_,h1,h2,_⟩:=dd;exact⟨ob,h1,h2.2.1⟩
 ·obtain⟨_,hd,xs,_,dd⟩:=GF I.hok e;refine⟨dd.typeIs,λb q=>?_,hd⟩;cases q;obtain⟨ob,_,_,h1,h2,_⟩:=dd;exact⟨ob,h1,h2.2.1⟩
section
variable{X:Cx}{wv:cF}{σ:St}{H:Hp}{s:ae}{a:Addr}{y d:V}{u r:aa}{o:Option V}{A:aI}{E:aa->ae->Prop}
theorem OL(hu:A.units+1<cLine)(I:Inv X wv σ H s)(g:DGet H a y o)(ry:RelV y u)(h:∀w' s',Inv X wv σ H s'->RelV (o.getD .non) w'->Q w' s'):
  aj (model X.prog X.w) A (call (.builtin "dict.get") [.ref a,u]) Q E s:=by
 rcases g with ⟨kvs,k,e,ey,l⟩|⟨kvs,k,b,e,ey,eb,l⟩
 ·subst ey;obtain⟨z,hd,vs,rel,dd⟩:=Bl I.hok e;refine hU fm dd.typeIs iN (kU _ _) (pE (tU X.prog X.w) a (BU ry) hd) ⟨_,dd.mapOf,h _ _ (I.tok _) ?_⟩;rw[l];exact(rel.val k).getD rfl
 ·subst ey;cases (show u=Value.ref b from ry);obtain⟨z,hd,xs,rel,dd⟩:=GF I.hok e;refine hU fm dd.typeIs iN (kU _ _) (meetsH_dict_get (tupleKind (tU X.prog X.w)) a b hd) ⟨jE hu,k,xs,EU I.hok eb,dd,h _ _ (I.tok _) ?_⟩;rw[l];exact(rel.val k).getD rfl
theorem VT(hu:A.units+1<cLine)(I:Inv X wv σ H s)(g:DGet H a y o)(ry:RelV y u)(rd:RelV d r)(h:∀w' s',Inv X wv σ H s'->RelV (o.getD d) w'->Q w' s'):
  aj (model X.prog X.w) A (call (.builtin "dict.get") [.ref a,u,r]) Q E s:=by
 rcases g with ⟨kvs,k,e,ey,l⟩|⟨kvs,k,b,e,ey,eb,l⟩
 ·subst ey;obtain⟨z,hd,vs,rel,dd⟩:=Bl I.hok e;refine hU fm dd.typeIs iN (oG _ _ _) (meets_dict_get_default (tU X.prog X.w) a (BU ry) hd r) ⟨_,dd.mapOf,h _ _ (I.tok _) ?_⟩;rw[l];exact(rel.val k).getD rd
 ·subst ey;cases (show u=Value.ref b from ry);obtain⟨z,hd,xs,rel,dd⟩:=GF I.hok e;refine hU fm dd.typeIs iN (oG _ _ _) (meetsH_dict_get_default (tupleKind (tU X.prog X.w)) a b hd r) ⟨jE hu,k,xs,EU I.hok eb,dd,h _ _ (I.tok _) ?_⟩;rw[l];exact(rel.val k).getD rd
end
def VU(td ty:TE):TE:=λσ H Q=>td σ H λx H1=>∃a,x=.ref a/\IsD H1 a/\ty σ H1 λy H2=>∃o,DGet H2 a y o/\Q (o.getD .non) H2
def VW(td ty tx:TE):TE:=λσ H Q=>td σ H λx H1=>∃a,x=.ref a/\IsD H1 a/\ty σ H1 λy H2=>tx σ H2 λz H3=>∃o,DGet H3 a y o/\Q (o.getD z) H3
section
variable{X:Cx}{o e f:Expr}{apos cpos:Pos}{td ty tx:TE}
theorem OM(hu:X.A.units+1<cLine)(ho:PE X o td)(he:PE X e ty)(m:M1 X o "get" apos e cpos):PE X (.Call (.Attribute o "get" apos) [e] [] cpos) (VU td ty):=by intro wv s σ H Q I h;refine jF m.base m.few m.line jG fm lC (thn (ho wv s σ H _ I h) λu s1 zz=>?_);obtain⟨x,H1,I1,rx,a,ex,d,q1⟩:=zz;subst ex;obtain rfl:u=Value.ref a:=rx;obtain⟨t1,t2,_⟩:=HK I1 d;refine⟨t1,t2,?_⟩;rw[m.trees];refine iB rfl (iE (eF (thn (he wv s1 σ H1 _ I1 q1) λiv s2 ⟨y,H2,I2,ry,ov,g,q2⟩=>fR ?_)));exact OL hu I2 g ry λw' s3 I3 rw'=>⟨_,H2,I3,rw',q2⟩
theorem ON(hu:X.A.units+1<cLine)(ho:PE X o td)(he:PE X e ty)(hf:PE X f tx)(m:M2 X o "get" apos e f cpos):PE X (.Call (.Attribute o "get" apos) [e,f] [] cpos) (VW td ty tx):=by
 intro wv s σ H Q I h;refine jF m.base m.few m.line jG fm lC (thn (ho wv s σ H _ I h) λu s1 zz=>?_);obtain⟨x,H1,I1,rx,a,ex,d,q1⟩:=zz;subst ex;obtain rfl:u=Value.ref a:=rx;obtain⟨t1,t2,_⟩:=HK I1 d;refine⟨t1,t2,?_⟩;rw[m.trees];refine iB rfl (iE (eF (thn (he wv s1 σ H1 _ I1 q1) λiv s2 ⟨y,H2,I2,ry,q2⟩=>
  eF (thn (hf wv s2 σ H2 _ I2 q2) λfv s3 ⟨z,H3,I3,rz,ov,g,q3⟩=>fR ?_))))
 exact VT hu I3 g ry rz λw' s4 I4 rw'=>⟨_,H3,I4,rw',q3⟩
end
end L2
namespace Att
open PySem PySem.W PySem.Calls PyProof.Rows
theorem Er:∀(ns:List Int) (vs:List aa),WellAll P h vs (ns.map WData.int)->iY vs ns:=by
 intro ns
 induction ns with
 |nil=>intro vs w;rw[cM]at w;cases w;exact .nil
 |cons n ns ih=>
  intro vs w;rw[aE]at w;cases w with
  |cons a b=>cases a;exact .cons _ _ (ih _ b)
theorem Nj{l:ik}(hn:l.most=some n)
  (hpre:l.row.toRowW.claim.pre args=true) (hwl:WellAll P h vals args):
  ∃a vs ns,vals=[Value.ref a]/\args=[WData.list (ns.map WData.int)]/\h.get? a=some { cls:=.type "list", data:=.seq vs.toArray }/\iY vs ns/\ns.length<=n:=by
 have hsh:WShape.hasAll [] args [.list .int]=true:=(pre_splitW hpre).1;have hc:l.pre.holds [] { args:=args }=true:=(pre_splitW hpre).2;obtain⟨d,r,rfl,h1,h2⟩:=hasAllW_cons hsh;obtain rfl:=hasAllW_nil h2;obtain⟨xs,rfl,h3⟩:=hasW_list h1;obtain⟨ns,rfl⟩:=items_int h3;have hlen:ns.length<=n:=by
  unfold OpenLaw.pre at hc;have h4:(WTm.not (.lt (.lit (.int (n:Int))) (.len (.arg 0)))).holds [] { args:=[.list (ns.map .int)] }=true:=by have h4:=(holds_andW hc).1;rw[hn]at h4;exact h4
  have h5:=condW_of h4 (w_not (w_lt w_lit (w_len_list (w_arg rfl))));rw[af]at h5;refine oU λq=>?_;have q':(n:Int)<((ns.length:Nat):Int):=by omega
  first
   |(rw[aY q']at h5;exact aq h5 (by decide))
   |(simp at h5;omega)
 cases hwl with
 |cons w1 w2=>
  cases w2;cases w1 with
  |list ho hall=>exact⟨_,_,ns,rfl,rfl,ho,Er ns _ hall,hlen⟩
theorem Nk(l:ik)(args:List WData):l.row.toRowW.claim.post args (.bool true) args=true:=
 postW_of (r:=l.row.toRowW) (X:=(true==true))
  (show qC [] (.bool true) .bool=true by first|rfl|decide|simp[qC,WShape.arms,WShape.armsAll])
  (show (WTm.eq .res (.lit (.bool true))).value [] { args:=args,res:=some (.bool true),after:=args }=some (.bool (true==true)) from w_eq_bool (w_res rfl) w_lit) rfl
theorem attach_call{l:ik}{d:DefRec}
  (hn:l.most=some n) (hdf:d.params.defaults=[])
  (call:∀(w:aA) (s₀ s₁:ae) (mg mb:Str->Option aa) (fa:Addr) (o:Obj) (pm cd doc:aa) (a:Addr) (vs:List aa) (ns:List Int),
   Ground q loose [] XP w s₀ mg mb s₁.heap->YP w s₁.heap->
   s₁.heap.get? fa=some o->o.data=.func (docDef d.name d.params d.body d.scope pm cd doc)->s₁.heap.CodeRec cd d.name->mg d.name=some (.ref fa)->
   s₁.heap.get? a=some { cls:=.type "list", data:=.seq vs.toArray }->iY vs ns->ns.length<=n->s₁.gens=#[]->
   cq (model l.prog w) callerA (.call (.ref fa) ⟨[.ref a],[]⟩) (λr s'=>r=.ok (.ret (.bool true))/\OldK s₁.heap s'.heap/\s'.os=s₁.os/\eM s'.gens) s₁):
  WalkO q loose XP YP l.row.toRowW d [] (λf vs=>mj f vs):=by
 intro w s₀ s₁ mg mb G Y fa o pm cd doc dV kV ho hd hcd hD hmg hg args vals as hpre hlay hrd hwl hlo;obtain rfl:dV=.none:=Dflts.none hD hdf;obtain rfl:kV=.none:=Dflts.noKw hD;obtain⟨a,vs,ns,rfl,rfl,hobj,hints,hlen⟩:=Nj hn hpre hwl;refine enter_call (hG (call w s₀ s₁ mg mb fa o pm cd doc a vs ns G Y ho (fd_plain hd) hcd hmg hobj hints hlen hg) λr s' hq=>?_);obtain⟨rfl,h2,h3,h4⟩:=hq;exact⟨.inl ⟨.bool true,.bool true,[],rfl,λ_=>rfl,.bool true,Nk l _,λ_=>⟨List.Pairwise.nil,λ_ hm=>(nomatch hm)⟩⟩,h2,h3,h4⟩
end Att
namespace L2
open PySem PySem.Spec PyProof.Rows
theorem GH:∀{vs:List aa} {ns:List Int},iY vs ns->Vals (ns.map V.int) vs
 |_,_,.nil=>.nil
 |_,_,.cons n t h=>.cons ⟨t,rfl⟩ (GH h)
def VX(H:Hp):Prop:=∀b,H b=none\/∃o xs,H b=some (.frz o (.lst xs))
theorem OO{K:au}{s₁:ae}{vs:List aa}
  (KX:K.In s₁.heap) (hns:s₁.heap.Ns aW mg) (hb:s₁.heap.Ns builtinsNs mb) (hbb:∀x:Str,x≠"__name__" -> mb x=dF x) (hlim:s₁.heap.NoLimit) (hg:s₁.gens=#[])
  (ha:s₁.heap.get? a=some { cls:=.type "list", data:=.seq vs.toArray }) (hi:iY vs ns) (hl:ns.length<=aG) (hr:u9 k callerA)
  (F:∀base:Heap,K.In base->base.Ns aW mg->wY P w K mg base CX k fa fd [x] sp) (hbind:∀(s:ae) (u:aa),ip s fd ⟨[u],[]⟩ [(x,u)])
  (hsp:∀H:Hp,VX H->SqL K H a (ns.map V.int)->sp [.ref a] H (λv _=>v=.bl true) λ_ _ _=>False)
  (hCX:∀H e s',CX [] H s₁ (λ_ _ _=>False) e s'->False):
  cq (model P w) callerA (.call (.ref fa) ⟨[.ref a],[]⟩) (λr s'=>r=.ok (.ret (.bool true))/\OldK s₁.heap s'.heap/\s'.os=s₁.os/\eM s'.gens) s₁:=by
 have rv:=GH hi;have lenV:=hi.length;have core:∀H:Hp,VX H->SqL K H a (ns.map V.int)->HOk P w H s₁.heap->(∀b,H b≠none->b=a)->(H a≠none->K.lookup a=none)->
   cq (model P w) callerA (.call (.ref fa) ⟨[.ref a],[]⟩) (λr s'=>r=.ok (.ret (.bool true))/\OldK s₁.heap s'.heap/\s'.os=s₁.os/\eM s'.gens) s₁:=by
  intro H hO hS hok hA hK;have base_of:∀{b:Addr} {o:Obj},s₁.heap.get? b=some o->H b=none->(Hz s₁.heap H).get? b=some o:=λe n=>Of e n;have noA:∀{b:Addr} {o:Obj} {es:Array DictEntry} {ep:Nat},s₁.heap.get? b=some o->o.data=.dict es ep->H b=none:=λ{b o es ep} e d=>by
   cases q:H b with
   |none=>rfl
   |some u=>have e':b=a:=hA b (by rw[q];simp);subst e';rw[ha]at e;cases e;have d':Data.seq vs.toArray _=Data.dict es ep:=d;cases d'
  have nsK:∀{b:Addr} {m:Str->Option aa},s₁.heap.Ns b m->(Hz s₁.heap H).Ns b m:=λ{b m} ⟨o,es,ep,e,d,r⟩=>⟨o,es,ep,base_of e (noA e d),d,r⟩;have hKb:K.In (Hz s₁.heap H):=λb o e=>base_of (KX b o e) (by
   cases q:H b with
   |none=>rfl
   |some u=>
    have e':b=a:=hA b (by rw[q];simp);subst e';rw[hK (by rw[q];simp)]at e;cases e)
  have hM:Mod K mg (Hz s₁.heap H):=⟨hKb,nsK hns,⟨mb,nsK hb,hbb⟩,let ⟨mc,h1,h2⟩:=hlim;⟨mc,nsK h1,h2⟩⟩;have e0:KI P w K mg (Hz s₁.heap H) callerA [] s₁ H:=⟨rfl,hM,λb o e=>Ry e,lV (MZ _ _),trivial,λb hb=>aq (show b∈([]:List Addr) from hb) (by simp),hok,.of_eq hg⟩;refine hG ((F _ hKb (nsK hns)).run callerA [] s₁ H ⟨[.ref a],[]⟩ [.ref a] [.ref a] _ _ hr e0 (hbind s₁ (.ref a)) (.cons rfl .nil) (hsp H hO hS)) λr s' h=>?_;cases r with
  |error e=>exact(hCX H e s' h).elim
  |ok fl=>
   cases fl with
   |next=>exact cZ h
   |brk=>exact cZ h
   |cont=>exact cZ h
   |ret u=>
    obtain⟨v,H',os,bare,un,hok',r',q⟩:=h;have q':v=.bl true:=q;subst q';obtain rfl:u=Value.bool true:=r';refine⟨rfl,OldK.of_keep λb o e=>?_,os,bare⟩;cases q:H b with
    |none=>exact un.keep b o e q (by intro z;exact aq (show b∈([]:List Addr) from z) (by simp)) (by simp)
    |some u=>
     rcases hO b with z|⟨ob,xs,z⟩
     ·rw[q]at z;cases z
     ·have z2:=un.frzs b ob _ z;obtain⟨e1,_⟩:=hok b _ z;obtain⟨e2,_⟩:=hok' b _ z2;rw[e]at e1;cases e1;exact e2
 cases hk:K.lookup a with
 |some o=>have e:=KX a o hk;rw[ha]at e;cases e;refine core (λ_=>none) (λ_=>.inl rfl) (.inr ⟨_,vs.toArray,_,hk,rfl,rfl,rfl,by rw[bf,lenV];exact hl,by simpa using rv⟩) (λb u z=>by have z':(none:Option HO)=some u:=z;cases z') (λb z=>aq rfl z) λz=>aq rfl z
 |none=>
  refine core (λb=>if b=a then some (.frz { cls:=.type "list", data:=.seq vs.toArray } (.lst (ns.map V.int)))else none) (λb=>?_) (.inl (.inr ⟨{ cls:=.type "list", data:=.seq vs.toArray },ah rfl⟩)) (λb u z=>?_) (λb z=>?_) λ_=>hk
  ·by_cases hb:b=a
   ·exact .inr ⟨_,_,ah hb⟩
   ·exact .inl (ai hb)
  ·by_cases hb:b=a
   ·have z':=(ah hb).symm.trans z;cases z';subst hb;exact⟨ha,by rw[af];exact hl,vs,_,rv,ha⟩
   ·have z':=(ai hb).symm.trans z;cases z'
  ·by_cases hb:b=a
   ·exact hb
   ·exact aq (ai hb) z
theorem R8{l:ik}{n k:Nat}{q:aH}{loose:aD}{XP:(Str->Option aa)->Heap->Prop}{YP:aA->Heap->Prop}{d:DefRec}{K:Params->au}{CX:aA->CXT}{sp:aA->Sp}{x:Str}
  (hn:l.most=some n) (hn2:n<=aG) (hdf:d.params.defaults=[]) (hr:u9 k callerA)
  (hY:∀(w:aA) (h:Heap),YP w h->(K w.params).In h)
  (F:∀(w:aA) (mg:Str->Option aa) (fa:Addr) (h:Heap),(K w.params).In h->h.Ns aW mg->mg d.name=some (.ref fa)->
   ∃fd:cg,(∀(s:ae) (u:aa),ip s fd ⟨[u],[]⟩ [(x,u)])/\
    ∀base:Heap,(K w.params).In base->base.Ns aW mg->wY l.prog w (K w.params) mg base (CX w) k fa fd [x] (sp w))
  (hsp:∀(w:aA) (H:Hp) (a:Addr) (ns:List Int),ns.length<=n->VX H->SqL (K w.params) H a (ns.map V.int)->sp w [.ref a] H (λv _=>v=.bl true) λ_ _ _=>False)
  (hCX:∀(w:aA) (H:Hp) (s:ae) (e:aa) (s':ae),CX w [] H s (λ_ _ _=>False) e s'->False):
  W.WalkO q loose XP YP l.row.toRowW d [] (λf vs=>mj f vs):=by
 refine Att.attach_call hn hdf λw s₀ s₁ mg mb fa o pm cd doc a vs ns G Y ho hd hcd hmg hobj hints hlen hg=>?_;have KX:=hY w _ Y;obtain⟨fd,hb,hF⟩:=F w mg fa _ KX G.T.g hmg;exact OO KX G.T.g G.T.b G.T.builtins G.T.nolimit hg hobj hints (bM hlen hn2) hr hF hb (λH hO hS=>hsp w H a ns hlen hO hS) λH e s'=>hCX w H s₁ e s'
def inClass(s:Stmt)(j:Nat):Stmt:=match s with
 |.ClassDef _ _ _ body _ _ _ _ _ _ _=>body.getD j (.Pass ⟨0,0,0,0⟩)
 |_=>.Pass ⟨0,0,0,0⟩
def w5(s:Stmt):Arguments:=match s with
 |.FunctionDef _ a _ _ _ _ _ _ _ _=>a
 |_=>{ posonlyargs:=[],args:=[],vararg:=none,kwonlyargs:=[],kw_defaults:=[],kwarg:=none,defaults:=[] }
def uw(s:Stmt):List Stmt:=match s with
 |.FunctionDef _ _ b _ _ _ _ _ _ _=>b
 |_=>[]
def tX(s:Stmt):c4:=match s with
 |.FunctionDef _ _ _ _ _ _ sc _ _ _=>sc
 |_=>{ kind:=.function,names:=[],isGenerator:=false,isCoroutine:=false }
abbrev CX0:CXT:=λ_ _ _ _ _ _=>False
abbrev E0:XK:=λ_ _ _=>False
theorem Dy:Passes CX0 X E0:=λ_ _ _ _ _ _ _ h=>h.elim
structure Fun(K:au)(x qual:Str)(st:Stmt)(f:Addr)(fd:cg):Prop where
 ex:∃(oc:aa) (od:Option Addr) (kV doc pm:aa) (an:Option Addr) (cdv ct:aa) (osl:Array (Option aa)),
  fd=eO x qual (w5 st) (uw st) (tX st) .none kV doc pm an cdv ct/\K.lookup f=some ⟨oc,od,.func fd,osl⟩/\ig K cdv qual=true
 kp:dS K (.ref f)=true
section
variable{P:aH}{w:aA}{K:au}{mg:Str->Option aa}{base:Heap}
theorem Fun.ok{st:Stmt}(F:Fun K x qual st f fd)(S:u6 N ps (tX st))(len:∀vs H Q E,sp vs H Q E->vs.length=ps.length)
  (hbody:∀(cdv:aa) (A:aI) (outer:List Env) (s:ae) (H:Hp) (vs:bG) (Q:VK) (E:XK),u9 k (A.deeper (envOfC qual (tX st) s.heap.objs.size f cdv))->sp vs H Q E->
   ∃t,PSs (Jc CX0 P w K mg base N qual (tX st) f cdv A outer s H E).nox (uw st) t/\t { nx:=λ_ H'=>Q .non H',rt:=Q } (start N vs) H):wY P w K mg base CX0 (k+1) f fd ps sp:=by
 obtain⟨oc,od,kV,doc,pm,an,cdv,ct,osl,rfl,lk,hcd⟩:=F.ex;refine UM lk hcd S len λA outer s H vs Q E hr hsp=>?_;obtain⟨t,h,q⟩:=hbody cdv A outer s H vs Q E hr hsp;exact⟨t,h.nox,q⟩
theorem Fun.binds{st:Stmt}{ps:aD}(F:Fun K x qual st f fd)
  (h:∀(kV doc pm:aa) (an:Option Addr) (cdv ct:aa) (us:List aa),us.length=ps.length->bindArgs (eO x qual (w5 st) (uw st) (tX st) .none kV doc pm an cdv ct) ⟨us,[]⟩=pure (ps.zip us)):Binds K fd ps []:=by
 obtain⟨oc,od,kV,doc,pm,an,cdv,ct,osl,rfl,lk,hcd⟩:=F.ex;exact .all (h kV doc pm an cdv ct)
end
theorem Jj(hr:u9 k A):A.units+1<cLine:=kM (Nat.add_le_add_left (by decide:1<=64) _) hr.units
theorem A5(h:n<=1000):n<aG:=kM h (by decide)
section
variable{X:Cx}
theorem pv(i:Nat)(hN:X.N[i]?=some x:=by rfl)(hv:Vis X.env.scope x:=by first|exact Or.inl rfl|exact Or.inr (Or.inl rfl)|exact Or.inr (Or.inr rfl))(hd:(x==("__debug__" : Str))=false:=by decide)
  (hcd:(x==("__classdict__" : Str))=false:=by decide):PE X (.Name x pos) (zk i):=Vi hN hv hd hcd
end
theorem HL{A B:Prop}(h:B):if false=true then A else B:=by rw[ai bj];exact h
theorem HM{A B:Prop}(h:A):if true=true then A else B:=by rw[ah rfl];exact h
def tT(H H':Hp):Prop:=∀b o,H b=some o->H' b=some o
theorem tT.refl(H:Hp):tT H H:=λ_ _ h=>h
theorem tT.trans(a:tT H H1)(b:tT H1 H2):tT H H2:=λc o h=>b c o (a c o h)
theorem tT.seq{K:au}(e:tT H H')(h:SqL K H a xs):SqL K H' a xs:=by
 rcases h with (h|⟨o,h⟩)|h
 ·exact .inl (.inl (e _ _ h))
 ·exact .inl (.inr ⟨o,e _ _ h⟩)
 ·exact .inr h
end L2
set_option maxHeartbeats 4000000
namespace L3
open PySem PySem.Spec PyProof.Rows L2
abbrev St:=L2.St
theorem EX{α β:Type}{f:α->β->Sem (ForInStep β)}{g:β->α->β}:∀(l:List α) (b:β),(∀x∈l,∀c,f x c=pure (ForInStep.yield (g c x)))->(forIn l b f:Sem β)=pure (l.foldl g b)
 |[],b,_=>by simp
 |x::r,b,h=>by rw[List.forIn_cons,h x bg b];show (forIn r (g b x) f:Sem β)=_;rw[EX r (g b x) λy hy c=>h y (bu _ hy) c];rfl
def Ai(cells:List (Str×Addr))(cs:List (Str×Addr))(x:Str×dU):List (Str×Addr):=if (x.2==NameKind.free)=true then (x.1,(cells.lookup x.1).getD 0)::cs else cs
def xQ(cells:List (Str×Addr))(names:List (Str×dU)):List (Str×Addr):=names.foldl (Ai cells) []
theorem Gf{scope:c4}{env:Env}(h:∀x∈scope.names,x.2=.free->∃c,env.cells.lookup x.1=some c):
  closureFor scope env=pure (xQ env.cells scope.names):=by
 simp only[closureFor];rw[EX (g:=Ai env.cells) scope.names [] λx hx c=>by
  obtain⟨n,k⟩:=x;by_cases hk:k=.free
  ·subst hk;obtain⟨a,e⟩:=h _ hx rfl;have e':env.cells.lookup n=some a:=e;simp only[Ai,cellOf,e',beq_self_eq_true,if_true,lh];rfl
  ·have hb:(k==NameKind.free)=false:=by simpa using hk
   simp only[Ai,hb,gK,if_false]]
 rfl
theorem Jk{cells:List (Str×Addr)}:∀(names:List (Str×dU)) (acc:List (Str×Addr)),(∀x∈names,x.2=.free->∃c,cells.lookup x.1=some c)->(∀x c,acc.lookup x=some c->cells.lookup x=some c)->
  ∀x c,(names.foldl (Ai cells) acc).lookup x=some c->cells.lookup x=some c
 |[],acc,_,ha,x,c,e=>ha x c e
 |y::r,acc,h,ha,x,c,e=>by
  refine Jk r (Ai cells acc y) (λz hz=>h z (bu _ hz)) (λz d ez=>?_) x c e;obtain⟨n,k⟩:=y;unfold Ai at ez;split at ez
  ·rename_i hk;obtain⟨a,ea⟩:=h (n,k) bg (by simpa using hk);have ea':cells.lookup n=some a:=ea;rw[eX]at ez;cases hb:z==n with
   |true=>rw[hb]at ez;have ez':some ((cells.lookup n).getD 0)=some d:=ez;rw[ea']at ez';rw[eK hb,ea'];exact ez'
   |false=>rw[hb]at ez;exact ha z d ez
  ·exact ha z d ez
theorem GK:∀(names:List (Str×dU)) (acc:List (Str×Addr)) (x:Str),(∃c,acc.lookup x=some c)->∃c,(names.foldl (Ai cells) acc).lookup x=some c
 |[],_,_,h=>h
 |y::r,acc,x,h=>by
  refine GK r (Ai cells acc y) x ?_;unfold Ai;split
  ·rw[eX];cases x==y.1 with
   |true=>exact⟨_,rfl⟩
   |false=>exact h
  ·exact h
theorem EY:∀(names:List (Str×dU)) (acc:List (Str×Addr)) (x:Str),(x,NameKind.free)∈names->∃c,(names.foldl (Ai cells) acc).lookup x=some c
 |[],_,_,h=>by cases h
 |y::r,acc,x,h=>by
  rcases aN.mp h with e|h
  ·subst e;refine GK r _ x ?_;unfold Ai;rw[ah (by simp),eX];simp
  ·exact EY r _ x h
theorem zG{env:Env}(x:Str):∀(names:List (Str×dU)),
  (names.map λ(n,k)=>if (k==NameKind.free&&env.scope.kind==.function&&env.kindOf n==some .cell)then (n,NameKind.cell)else (n,k)).lookup x=
   (names.lookup x).map λk=>if (k==NameKind.free&&env.scope.kind==.function&&env.kindOf x==some .cell)=true then NameKind.cell else k
 |[]=>rfl
 |(n,k)::r=>by
  have ih:=zG (env:=env) x r;rw[aE,eX (k:=n)];show dr x ((if (k==NameKind.free&&env.scope.kind==.function&&env.kindOf n==some .cell)=true then (n,NameKind.cell)else (n,k))::_)=_;cases hx:x==n with
  |true=>
   have e:=eK hx;subst e;split
   ·rename_i hc;simp only[eX,hx,fV,hc,if_true]
   ·rename_i hc;simp only[eX,hx,fV];rw[ai hc]
  |false=>
   rw[<-ih];split
   ·simp only[eX,hx]
   ·simp only[eX,hx]
theorem KO{scope:c4}(hcell:∀y∈scope.names,y.2≠.cell)(h:(relabel scope env).names.lookup x=some .cell\/(relabel scope env).names.lookup x=some .free):(x,NameKind.free)∈scope.names:=by
 have e:=zG (env:=env) x scope.names;have h':(scope.names.lookup x).map (λk=>if (k==NameKind.free&&env.scope.kind==.function&&env.kindOf x==some .cell)=true then NameKind.cell else k)=some .cell\/
   (scope.names.lookup x).map (λk=>if (k==NameKind.free&&env.scope.kind==.function&&env.kindOf x==some .cell)=true then NameKind.cell else k)=some .free:=by
  rw[<-e];exact h
 cases q:scope.names.lookup x with
 |none=>rw[q]at h';rcases h' with z|z<;>cases z
 |some k=>
  rw[q]at h';have hm:=mem_of_lookup q;have hc:=hcell _ hm;cases k with
  |free=>exact hm
  |cell=>exact aq rfl hc
  |_=>rcases h' with z|z<;>cases z
theorem Gg{scope:c4}(h:scope.names.lookup x=some .free):(relabel scope env).names.lookup x=some .cell\/(relabel scope env).names.lookup x=some .free:=by
 have e:=zG (env:=env) x scope.names;have e':(relabel scope env).names.lookup x=(scope.names.lookup x).map λk=>if (k==NameKind.free&&env.scope.kind==.function&&env.kindOf x==some .cell)=true then NameKind.cell else k:=e
 rw[e',h,fV];split
 ·exact .inl rfl
 ·exact .inr rfl
def va(X:Cx)(N':aD)(scope:c4)(cl:List (Str×Addr))(C:Addr)(fp:List Addr)(s:ae)(H:Hp):Cx:=
 { X with N:=N',s₀:=s,H₀:=H,env:=compEnvC scope cl C X.env,outer:=X.stack,ex:=fp,fn:=λ_=>false,pn:=[],xe:=λ_ _=>False }
def PIf(X:Cx)(ifs:List Expr)(t:TT):Prop:=
 ∀(wv:cF) (s:ae) (σ:St) (H:Hp) (Q:Bool->Hp->Prop),Inv X wv σ H s->t σ H Q->
  aj (model X.prog X.w) X.A (forIn ifs true λc r=>if r=true then do let ok<-isTrue c X.env (eval c X.env);pure (ForInStep.yield ok)else pure (ForInStep.yield r)) (TP X wv σ Q) X.xe s
def tIf0:TT:=λ_ H Q=>Q true H
theorem R9:PIf X [] tIf0:=λ_ _ _ H _ I h=>wpAny_tests_nil ⟨H,I,h⟩
theorem Sa(h:PT X c t):PIf X [c] t:=λwv s σ H Q I hq=>wpAny_tests_one (h wv s σ H Q I hq)
section
variable{prog:aH}{w:aA}{A:aI}{R:fF->ae->Prop}{s:ae}
theorem HN(J:Nat->ae->Prop)
  (turn:∀n s,J n s->aj (model prog w) A (pyNext it) (λr s₁=>match r with
   |none=>R (.ok .next) s₁
   |some v=>aj (model prog w) A (gU target it v) (λ_ s₁'=>aj (model prog w) A (assign target env v) (λ_ s₂=>
     aj (model prog w) A (forIn ifs true λc r=>if r=true then do let ok<-isTrue c env (eval c env);pure (ForInStep.yield ok)else pure (ForInStep.yield r)) (λok s₃=>
      if ok=true then aj (model prog w) A (eval elt env) (λx s₄=>
       aj (model prog w) A (call (.builtin "list.append") [acc,x]) (λ_ s₅=>∃m,m<n/\J m s₅) (notedBy (model prog w) A env λe s'=>R (.error e) s') s₄) (notedBy (model prog w) A env λe s'=>R (.error e) s') s₃
      else ∃m,m<n/\J m s₃) (notedBy (model prog w) A env λe s'=>R (.error e) s') s₂) (notedBy (model prog w) A env λe s'=>R (.error e) s') s₁')
      (notedBy (model prog w) A env λe s'=>R (.error e) s') s₁) (notedBy (model prog w) A env λe s'=>R (.error e) s') s)
  (n:Nat) (h:J n s):
  cq (model prog w) A (.compLoop (.ListComp elt [⟨target,iter,ifs,0⟩] scope pos) 0 it acc env) R s:=by
 refine codeAny_loop rfl J (λn s hI=>?_) n h;show aj _ A ((compTurn (.ListComp elt [⟨target,iter,ifs,0⟩] scope pos) 0 it acc env).onRaise (λx=>do noteFrame x env;theTreesLotGoes x)) _ _ s;refine wpAny_noted ?_;rw[compTurn_list];refine ag (pV (ag (bZ (turn n s hI) (λr s₁ h₁=>?_) λ_ _ h'=>h')));cases r with
 |none=>exact ar h₁
 |some v=>
  refine ag (bZ h₁ (λ_ s₁' h₁'=>?_) λ_ _ h'=>h');refine ag (bZ h₁' (λ_ s₂ h₂=>ag (bZ h₂ (λok s₃ h₃=>?_) λ_ _ h'=>h')) λ_ _ h'=>h');cases ok with
  |false=>exact ar ⟨rfl,h₃⟩
  |true=>exact ag (ag (bZ h₃ (λx s₄ h₄=>ag (bZ h₄ (λ_ s₅ h₅=>ar (ar ⟨rfl,h₅⟩)) λ_ _ h'=>h')) λ_ _ h'=>h'))
end
def w6(k:Nat)(cap:List Nat)(σ:St):St:=fw k none++cap.map λj=>(σ[j]?).join
theorem GL(h:(w6 k cap σ)[i]?=some (some v)):k<=i:=by
 by_cases hi:k<=i
 ·exact hi
 ·unfold w6 at h;rw[cH (by rw[cz];omega),gE]at h;split at h<;>cases h
theorem Nl{k:Nat}{cap:List Nat}{σ:St}{N N':aD}{i:Nat}{v:V}{x:Str}(hcap:(N'.drop k).map some=cap.map λj=>N[j]?)(hx:N'[i]?=some x)(h:(w6 k cap σ)[i]?=some (some v)):
  ∃j:Nat,N[j]?=some x/\σ[j]?=some (some v)/\x∈N'.drop k:=by
 have hi:=GL h;unfold w6 at h;rw[cG (by rw[cz];exact hi),cz,bc]at h;have hd:(N'.drop k)[i - k]?=some x:=by rw[df,show k+(i - k)=i by omega];exact hx
 have e:=ba (λl=>l[i - k]?) hcap;simp only[bc,hd,fV]at e;cases q:cap[i - k]? with
 |none=>rw[q]at h;cases h
 |some j=>
  rw[q]at h e;simp only[fV,sU]at h e;refine⟨j,e.symm,?_,bU hd⟩;cases z:σ[j]? with
  |none=>rw[z]at h;cases h
  |some o=>rw[z]at h;have h':o=some v:=h;rw[h']
def EZ(wi:TI)(g:TG)(tt:TT)(te:TE)(k:Nat)(cap:List Nat):TE:=λσ H Q=>wi σ H λJ H1=>∀p,H1 p=none->
 ∃W:Nat->Nat->bG->Hp->Prop,(∃m,W 0 m [] (upd H1 p (.lst [])))/\∀i m acc H2,W i m acc H2->
  (J.stop i H2/\Q (.ref p) H2)\/
   (J.go i H2/\∀x H3,J.yld i H2 x H3->g x (w6 k cap σ) H3 λσ4 H4=>σ4.drop k=(w6 k cap σ).drop k/\tt σ4 H4 λb H5=>
    if b=true then te σ4 H5 λy H6=>∃acc',H6 p=some (.lst acc')/\acc'.length<aG/\∃m',m'<m/\W (i+1) m' (acc'++[y]) (upd H6 p (.lst (acc'++[y])))
    else ∃m',m'<m/\W (i+1) m' acc H5)
theorem GN{X:Cx}{cap:List Nat}
  (hc:X.calm=true) (hi:PI X tg iter wi)
  (body:∀(cl:List (Str×Addr)) (C:Addr) (fp:List Addr) (s:ae) (H:Hp),PG (va X N' scope cl C fp s H) tg g/\PIf (va X N' scope cl C fp s H) ifs tt/\PE (va X N' scope cl C fp s H) elt te)
  (hkind:scope.kind=.function) (hcell:(scope.names.all λy=>y.2 != .cell)=true)
  (hloc:(scope.names.all λy=>y.2 != .local||scope.names.lookup y.1==some .local)=true)
  (hfree:(scope.names.all λy=>y.2 != .free||(X.env.kindOf y.1==some .cell||X.env.kindOf y.1==some .free))=true)
  (hlen:N'.length=k+cap.length) (hcap:(N'.drop k).map some=cap.map λj=>X.N[j]?)
  (hcf:((N'.drop k).all λx=>scope.names.lookup x==some .free)=true)
  (hs:∀x,iI iter X.env x=pure x)
  (I:Inv X wv σ H s) (h:EZ wi g tt te k cap σ H Q)
  (fin:∀a C m u s4 H3,s4.heap.Ns C m->Inv X wv σ H3 s4->Gc X wv H3 C->Q (.ref a) H3->compPost (model X.prog X.w) X.A X.xe use P (.ref a) C (.ok u) s4):
  aj (model X.prog X.w) X.A (comprehension (.ListComp elt [⟨tg,iter,ifs,0⟩] scope pos) scope X.env (firstIterPos [⟨tg,iter,ifs,0⟩] pos) (newList []) false (eval iter X.env) use) P X.xe s:=by
 have hcell':∀y∈scope.names,y.2≠.cell:=λy hy e=>by have z:=bH.mp hcell y hy;rw[e]at z;exact aq z (by decide)
 have hloc':∀y∈scope.names,y.2=.local->scope.names.lookup y.1=some .local:=λy hy e=>by have z:=bH.mp hloc y hy;rw[e]at z;simpa using z
 have hfree':∀y∈scope.names,y.2=.free->X.env.kindOf y.1=some .cell\/X.env.kindOf y.1=some .free:=λy hy e=>by have z:=bH.mp hfree y hy;rw[e]at z;simpa using z
 have hcl:∀y∈scope.names,y.2=.free->∃c,X.env.cells.lookup y.1=some c:=λy hy e=>I.ok.has y.1 (hfree' y hy e);refine wpAny_comprehension_free rfl hs (Gf hcl) hkind hloc' (thn (hi wv s σ H _ I h) λxv s₁ h₁=>thn h₁ λit s₂ h₂=>?_);obtain⟨ita,fp,tn,J,H2,e,I2,T,st2,f2,R2⟩:=h₂;subst e;obtain⟨W,⟨m0,w0⟩,turn⟩:=R2 s₂.heap.objs.size (I2.hok.fresh (ay _));refine dh (wpAny_newFunctionEnv hcell' (by intro y hy;simp at hy) (λh₁ hns₁ hsb₁=>?_) hkind);dsimp only at hns₁ hsb₁ ⊢;generalize hp:s₂.heap.push { cls:=.type "list", dict:=none,data:=.seq ([]:List aa).toArray }=hpL at hns₁ hsb₁ ⊢;have hsz:hpL.objs.size=s₂.heap.objs.size+1:=by rw[<-hp,cK]
 have I3:Inv X wv σ (upd H2 s₂.heap.objs.size (.lst [])) { s₂ with heap:=hpL }:=by rw[<-hp];exact I2.laid (t':=s₂.toks) (λb u e=>aC _ e) (ay _) ⟨bA _,[],0,.nil,bp _ rfl⟩
 have old:∀b o,hpL.get? b=some o->h₁.get? b=some o:=λb o e=>hsb₁.extBut b o (aR (aK e)) (aC _ e);have older:∀b o,s₂.heap.get? b=some o->hpL.get? b=some o:=λb o e=>by rw[<-hp];exact aC _ e
 have hfpS:∀b∈fp,b<s₂.heap.objs.size:=λb hb=>let ⟨o,e,_⟩:=T.obj _ _ st2 b hb;aK e;have sub:∀x c,(xQ X.env.cells scope.names).lookup x=some c->X.env.cells.lookup x=some c:=Jk scope.names [] hcl (λx c e=>by cases e);have ok':(va X N' scope (xQ X.env.cells scope.names) hpL.objs.size fp { s₂ with heap:=hpL } (upd H2 s₂.heap.objs.size (.lst []))).Ok:={
  mod:=I3.ok.mod
  kind:=hkind
  glob:=I3.ok.glob
  blt:=I3.ok.blt
  above:=ay _
  inj:=λx y c h1 h2=>I3.ok.inj x y c (sub x c h1) (sub y c h2)
  has:=λx hx=>EY scope.names [] x (KO hcell' hx)
  cab:=λx c hf _=>aq (show false=true from hf) bj
  hd:=I3.ok.hd
  frames:=I3.ok.frames
  stk:=.inl rfl
  exf:=λb hb=>⟨(by
   show b≠hpL.objs.size;rw[hsz];exact aR (di (hfpS b hb))),λx c e=>(f2 b hb).2.2.2.2.1 x c (sub x c e)⟩
  bs:=I3.bs
  bsz:=bM I3.ok.bsz I3.sz
  noex:=λb o e hb=>by
   rcases(f2 b hb).2.2.2.1 with z|z
   ·exact I3.ok.noex b o e z
   ·exact aq (b0 (aK e) (bM I3.ok.bsz z)) (dE _)
  exfs:=λb hb z=>(aN.mp (I3.stkSub b z)).elim (f2 b hb).2.1 (f2 b hb).2.2.1
  funs:=I3.stack
  frf:=I3.stkFree }
 have IX:Inv (va X N' scope (xQ X.env.cells scope.names) hpL.objs.size fp { s₂ with heap:=hpL } (upd H2 s₂.heap.objs.size (.lst []))) [] (w6 k cap σ) (upd H2 s₂.heap.objs.size (.lst []))
   { s₂ with heap:=h₁,toks:=s₂.toks+([]:List (Str×aa)).length }:={
  ok:=ok'
  os:=rfl
  bare:=I3.bare
  base:=Un.kept old
  loc:=⟨_,hns₁,λi x v e1 e2 _=>by
   obtain⟨j,hj,hσ,hm⟩:=Nl hcap e1 e2;have hx:scope.names.lookup x=some .free:=by simpa using bH.mp hcf x hm
   have hk:=hfree' (x,.free) (mem_of_lookup hx) rfl;obtain⟨m,hn,hl⟩:=I3.loc;obtain⟨u,r,lk⟩:=hl j x v hj hσ (hk.elim (λz=>.inr (.inl z)) λz=>.inr (.inr z));refine⟨u,r,.inr ⟨Gg hx,?_⟩⟩;rcases lk with ⟨z,_⟩|⟨_,c,e,o,ho,hd⟩
   ·rcases hk with y|y
    ·rw[y]at z;cases z
    ·rw[y]at z;cases z
   ·obtain⟨c',e'⟩:=EY (cells:=X.env.cells) scope.names [] x (mem_of_lookup hx);have ec:=sub x c' e';rw[e]at ec;have ec':c=c':=cU ec;subst ec';exact⟨c,e',o,old _ _ ho,hd⟩⟩
  cell:=λx c e=>by obtain⟨v,o,ho,hd⟩:=I3.cell x c (sub x c e);exact⟨v,o,old _ _ ho,hd⟩
  free:=I3.hok.fresh (ay _)
  freeC:=λx c e=>I3.freeC x c (sub x c e)
  pin:=λp hp=>aq (show p∈([]:cF) from hp) (by simp)
  hok:=I3.hok.kept old
  len:=by
   show (w6 k cap σ).length=N'.length;rw[hlen];unfold w6;rw[aB,cz,af] }
 have stat:∀{H':Hp},(∀b∈fp,H' b=none)->∀b∈fp,Gc (va X N' scope (xQ X.env.cells scope.names) hpL.objs.size fp { s₂ with heap:=hpL } (upd H2 s₂.heap.objs.size (.lst []))) [] H' b:=λhn b hb=>⟨hn b hb,(ok'.exf b hb).1,ok'.exfs b hb,.inl hb,(ok'.exf b hb).2,λp hp=>aq (show p∈([]:cF) from hp) (by simp)⟩
 have st4:tn 0 h₁:=T.keep _ _ _ st2 λb _ o e=>old b o (older b o e);have loop:cq (model X.prog X.w) X.A (.compLoop (.ListComp elt [⟨tg,iter,ifs,0⟩] scope pos) 0 (.ref ita) (.ref s₂.heap.objs.size) (compEnvC scope (xQ X.env.cells scope.names) hpL.objs.size X.env))
   (compPost (model X.prog X.w) X.A X.xe use P (.ref s₂.heap.objs.size) hpL.objs.size) { s₂ with heap:=h₁,toks:=s₂.toks+([]:List (Str×aa)).length }:=by
  refine HN (λn s'=>∃i acc H',Inv (va X N' scope (xQ X.env.cells scope.names) hpL.objs.size fp { s₂ with heap:=hpL } (upd H2 s₂.heap.objs.size (.lst []))) [] (w6 k cap σ) H' s'/\tn i s'.heap/\(∀b∈fp,H' b=none)/\W i n acc H')
   ?_ m0 ⟨0,[],_,IX,st4,λb hb=>?_,w0⟩
  ·rintro n s3 ⟨i,acc,H3,I4,st3,fr3,w3⟩;rcases turn i n acc H3 w3 with ⟨stop,qn⟩|⟨go,step⟩
   ·refine thn (T.done (va X N' scope (xQ X.env.cells scope.names) hpL.objs.size fp { s₂ with heap:=hpL } (upd H2 s₂.heap.objs.size (.lst []))) rfl rfl rfl hc i [] s3 _ H3 _ I4 (stat fr3) st3 stop) λr s4 zz=>?_;obtain⟨hr,I5⟩:=zz;subst hr;obtain⟨m,hn,_⟩:=id I5.loc;have U:=I5.base;refine fin _ _ m _ _ _ hn (I3.call' (s':=s4) (ch:=fp) I5.os ⟨λb o e n hb hx=>U.keep b o e n hb hx,λb o e n hb hx=>U.slot b o e n hb hx,U.free,λb o e hx=>U.there b o e hx,U.tups,U.frzs,U.tbls⟩ I5.hok I5.bare
     λb hb=>⟨(f2 b hb).2.2.2.1,(f2 b hb).2.1,(f2 b hb).2.2.2.2.1,(f2 b hb).2.2.2.2.2⟩) (I3.fpOk (ay _) I5.free) qn
   ·refine thn (T.item (va X N' scope (xQ X.env.cells scope.names) hpL.objs.size fp { s₂ with heap:=hpL } (upd H2 s₂.heap.objs.size (.lst []))) rfl rfl rfl hc i [] s3 _ H3 _ I4 (stat fr3) st3 go) λr s4 zz=>?_;obtain⟨u,hr,h4⟩:=zz;subst hr;refine thn h4 λ_ s5 zz=>?_;obtain⟨x,H5,I5,r5,y5,st5,fr5⟩:=zz;have I5':=I5.pinned (stat fr5) (T.obj _ _ st5);have again:∀{H8:Hp} {s8:ae} {σ8:St} {acc8:bG} {m':Nat},Inv (va X N' scope (xQ X.env.cells scope.names) hpL.objs.size fp { s₂ with heap:=hpL } (upd H2 s₂.heap.objs.size (.lst []))) ([]++EJ fp s5.heap) σ8 H8 s8->σ8.drop k=(w6 k cap σ).drop k->m'<n->W (i+1) m' acc8 H8->
      ∃m,m<n/\∃i acc H',Inv (va X N' scope (xQ X.env.cells scope.names) hpL.objs.size fp { s₂ with heap:=hpL } (upd H2 s₂.heap.objs.size (.lst []))) [] (w6 k cap σ) H' s8/\tn i s8.heap/\(∀b∈fp,H' b=none)/\W i m acc H':=λ{H8 s8 σ8 acc8 m'} I8 hd8 hm8 w8=>by
     refine⟨m',hm8,i+1,acc8,H8,I8.unpinned.weak (IX.len.trans I8.len.symm) (λj v e=>?_),T.keep _ _ _ st5 λb hb o e=>(I8.pin (b,o) (cy _ (cy _ (yq hb e)))).1,λb hb=>?_,w8⟩
     ·have hj:=GL e;have q:(σ8.drop k)[j - k]?=((w6 k cap σ).drop k)[j - k]?:=by rw[hd8]
      rw[df,df,show k+(j - k)=j by omega]at q;rw[q];exact e
     ·obtain⟨o,e,d⟩:=T.obj _ _ st5 b hb;exact(I8.pin (b,o) (cy _ (cy _ (yq hb e)))).2.1
    refine bZ ((body _ _ _ _ _).1 _ s5 _ H5 x u _ I5' r5 (step x H5 y5)) (λ_ s6 h6=>?_) λ_ _ f=>f.elim;obtain⟨σ6,H6,I6,hd6,q6⟩:=h6;refine bZ ((body _ _ _ _ _).2.1 _ s6 σ6 H6 _ I6 q6) (λb s7 h7=>?_) λ_ _ f=>f.elim;obtain⟨H7,I7,q7⟩:=h7;cases b with
    |false=>rw[ai bj]at q7;rw[ai bj];obtain⟨m',hm',w7⟩:=q7;exact again I7 hd6 hm' w7
    |true=>rw[ah rfl]at q7;rw[ah rfl];refine bZ ((body _ _ _ _ _).2.2 _ s7 σ6 H7 _ I7 q7) (λyv s8 h8=>?_) λ_ _ f=>f.elim;obtain⟨y,H8,I8,r8,acc',hp8,hl8,m',hm',w8⟩:=h8;refine bZ (CS (X:=va X N' scope (xQ X.env.cells scope.names) hpL.objs.size fp { s₂ with heap:=hpL } (upd H2 s₂.heap.objs.size (.lst []))) _ s8 σ6 H8 (.ref s₂.heap.objs.size) [y] (.ref s₂.heap.objs.size) [yv] (λ_ Hx=>Hx=upd H8 s₂.heap.objs.size (.lst (acc'++[y]))) I8 rfl (.cons r8 .nil) ⟨_,acc',y,rfl,rfl,hp8,hl8,rfl⟩) (λ_ s9 h9=>?_) λ_ _ f=>f.elim;obtain⟨_,H9,I9,_,e9⟩:=h9;subst e9;exact again I9 hd6 hm' w8
  ·have z:b≠s₂.heap.objs.size:=aR (hfpS b hb);rw[tR z];exact(f2 b hb).1
 exact codeAny_compStart_list loop (T.self _ 0 _ _ _ st4 loop)
theorem Sd{X:Cx}{cap:List Nat}
  (hc:X.calm=true) (hi:PI X tg iter wi)
  (body:∀(cl:List (Str×Addr)) (C:Addr) (fp:List Addr) (s:ae) (H:Hp),PG (va X N' scope cl C fp s H) tg g/\PIf (va X N' scope cl C fp s H) ifs tt/\PE (va X N' scope cl C fp s H) elt te)
  (hkind:scope.kind=.function:=by rfl) (hcell:(scope.names.all λy=>y.2 != .cell)=true:=by rfl)
  (hloc:(scope.names.all λy=>y.2 != .local||scope.names.lookup y.1==some .local)=true:=by rfl)
  (hfree:(scope.names.all λy=>y.2 != .free||(X.env.kindOf y.1==some .cell||X.env.kindOf y.1==some .free))=true:=by rfl)
  (hlen:N'.length=k+cap.length:=by rfl) (hcap:(N'.drop k).map some=cap.map λj=>X.N[j]?:=by rfl)
  (hcf:((N'.drop k).all λx=>scope.names.lookup x==some .free)=true:=by rfl)
  (hs:∀x,iI iter X.env x=pure x:=by intro _;rfl):
  PE X (.ListComp elt [⟨tg,iter,ifs,0⟩] scope pos) (EZ wi g tt te k cap):=by
 intro wv s σ H Q I h;exact GN hc hi body hkind hcell hloc hfree hlen hcap hcf hs I h λa C m u s4 H3 hn back fpC qn=>⟨m,hn,λh' hs'=>⟨.ref a,H3,back.turned (t':=s4.toks) (λb o hb e=>(hs'.2 b hb).trans e) fpC.1 fpC.2.1 fpC.2.2.2.1 fpC.2.2.2.2.1 fpC.2.2.2.2.2,rfl,qn⟩⟩
def Its(x:Str):It:=⟨λi _=>i<x.cps.size,λi H v H'=>H'=H/\∃c,x.cps[i]?=some c/\v=.str ⟨#[c]⟩,λi _=>i=x.cps.size⟩
theorem VY(hQ:Q () s):aj M A (gU tg (.ref it) (.str c t)) Q E s:=by unfold gU;cases tg<;>exact ar hQ
theorem Jl{K:au}(it:Addr)(ty:String)(x:Str)(t:Tok)
  (hW:∀A:aI,A.handled=none->Walks P w A it [it] [it] x.cps.size (SignAt x) (λi h=>h.IsStrIter it ty x t i))
  (hS:∀(A:aI) (i:Nat) (s:ae) (Q:aa->ae->Prop) (E:aa->ae->Prop),s.heap.IsStrIter it ty x t i->Q (.ref it) s->aj (model P w) A (pyIter (.ref it)) Q E s):
  Turn P w K tg (Its x) [it] it (λi h=>h.IsStrIter it ty x t i) where
 mem:=by simp
 obj:=λi h st b hb=>by
  have e:b=it:=by simpa using hb
  subst e;obtain⟨o,e,c,d⟩:=st;exact⟨o,e,λv z=>by rw[d]at z;cases z⟩
 keep:=λi h h' st k=>by obtain⟨o,e,r⟩:=st;exact⟨o,k it (by simp) o e,r⟩
 item:=by intro X hP hw hK hc i wv s σ H E I hf st hg;subst hP hw hK;obtain⟨f0,f1,f2,f3,f4,f5⟩:=hf it (by simp);refine(hW _ (I.ok.hd hc)).item i s _ _ hg st λv h' tk hv st' kk=>?_;obtain⟨c,t',hc',rfl⟩:=hv;have I1:Inv X wv σ H { s with heap:=h',toks:=tk }:=I.turned (λb o hb e=>kk b o (by simpa using hb) e) f0 f1 f3 f4 f5;exact⟨_,rfl,VY ⟨.str ⟨#[c]⟩,H,I1,⟨t',rfl⟩,⟨rfl,c,hc',rfl⟩,st',λb hb=>(hf b hb).1⟩⟩
 done:=by intro X hP hw hK hc i wv s σ H E I hf st hg;subst hP hw hK;obtain⟨f0,f1,f2,f3,f4,f5⟩:=hf it (by simp);have hg':i=x.cps.size:=hg;subst hg';exact(hW _ (I.ok.hd hc)).done s _ _ st λh' tk kk=>⟨rfl,I.turned (λb o hb e=>kk b o (by simpa using hb) e) f0 f1 f3 f4 f5⟩
 self:=hS
section
variable{X:Cx}{tg:Expr}
def ZZ(tl:TE):TI:=λσ H R=>tl σ H λv H1=>∃x,v=.str x/\R (Its x) H1
theorem VZ(hl:PE X l tl):PI X tg l (ZZ tl):=by
 intro wv s σ H R I h;refine thn (hl wv s σ H _ I h) λv s1 zz=>?_;obtain⟨x,H1,I1,r1,q1⟩:=zz;obtain⟨z,e,q⟩:=q1;subst e;obtain⟨t,rfl⟩:=r1;have fp:∀b∈[s1.heap.objs.size],Gc X wv H1 b:=λb hb=>by
  have e:b=s1.heap.objs.size:=by simpa using hb
  subst e;exact I1.fpOk (ay _) (I1.hok.fresh (ay _))
 cases ha:z.cps.all (· < 128)
 ·refine wpAny_pyIter_wide ha ⟨s1.heap.objs.size,[s1.heap.objs.size],_,_,H1,rfl,I1.kept (t':=s1.toks) λb o e=>aC _ e,Jl _ "str_iterator" z t (λA hA=>Walks.strWide hA _ z t) (λA i s Q E st hQ=>wpAny_pyIter_striter_wide st hQ),⟨_,bp _ rfl,rfl,rfl⟩,fp,q⟩
 ·refine wpAny_pyIter_ascii ha ⟨s1.heap.objs.size,[s1.heap.objs.size],_,_,H1,rfl,I1.kept (t':=s1.toks) λb o e=>aC _ e,Jl _ "str_ascii_iterator" z t (λA hA=>Walks.strAscii hA _ z t) (λA i s Q E st hQ=>wpAny_pyIter_striter_ascii st hQ),⟨_,bp _ rfl,rfl,rfl⟩,fp,q⟩
end
section
variable{X:Cx}
theorem Np:OpR X (br .LtE) (λx y H Q=>∃i j,x=.str i/\y=.str j/\Q (.bl (!decide (j.cps.toList<i.cps.toList))) H):=by intro wv s σ H x y v u Q I rx ry h;obtain⟨i,j,rfl,rfl,q⟩:=h;obtain⟨t,rfl⟩:=rx;obtain⟨t',rfl⟩:=ry;exact PySem.P.le_str (uy I q rfl)
theorem OP(hc:X.calm=true):vq X (.builtin "all") (λxs H Q=>∃(p:Addr) (bs:List Bool),xs=[.ref p]/\SqL X.K H p (bs.map V.bl)/\Q (.bl (bs.all id)) H):=by
 intro wv s σ H xs us Q I r h;obtain⟨p,bs,rfl,hq,q⟩:=h;obtain⟨u,rfl,ru⟩:=vals1 r;cases ru;obtain⟨its,rv,pl,hz⟩:=I.list hq;have hlt:p<s.heap.objs.size:=by obtain⟨o,ho,_⟩:=pl.isList;exact aK ho
 have hl:bs.length=its.length:=by have:=rv.length;rw[af]at this;exact this
 refine call_all_walk (iH pl.isList ⟨s.heap.objs.size,_,_,_,_,_,λi=>(bs[i]?).getD true,rfl,j5 (show X.A.in1.handled=none from I.ok.hd hc) _ p (aR hlt) its.toArray,⟨⟨_,bp _ rfl,rfl,rfl⟩,?_⟩,?_,λh' tk hk=>?_⟩)
 ·exact pl.isList.at λo e=>aC _ e
 ·intro i v s' Q' E' hv hQ';have hv':its[i]?=some v:=by simpa using hv
  have hi:i<its.length:=(bO.mp hv').1;have hb:(bs.map V.bl)[i]?=some (.bl (bs[i]'(by omega))):=by simp[show i<bs.length by omega]
  obtain⟨u,hu,ru⟩:=rv.get hb;rw[hv']at hu;cases hu;cases ru;refine dg ?_;have e:(bs[i]?).getD true=bs[i]'(by omega):=by simp[show i<bs.length by omega]
  rw[<-e];exact hQ'
 ·refine⟨.bl (bs.all id),H,?_,?_,q⟩
  ·exact I.kept (t':=tk) λb o e=>hk b o (by simp;exact aR (aK e)) (aC _ e)
  ·show Value.bool _=Value.bool _;congr 1;rw[bf,<- hl];rw[eZ];simp only[bH,bI,id];constructor
   ·intro hh b hb;obtain⟨i,hi,rfl⟩:=eB.mp hb;have:=hh i hi;simpa [hi]using this
   ·intro hh i hi;simp only[aJ hi,lh];exact hh _ (cv hi)
end
inductive Dq where
 |non|bl (b:Bool)|int (i:Int)|str (x:Str)|tup (ds:List Dq)|lst (ds:List Dq)
mutual
def Rep(K:au)(H:Hp):Dq->V->Prop
 |.non,v=>v=.non
 |.bl b,v=>v=.bl b
 |.int i,v=>v=.int i
 |.str x,v=>v=.str x
 |.tup ds,v=>∃a xs,v=.ref a/\SqT K H a xs/\tL K H ds xs
 |.lst ds,v=>∃a xs,v=.ref a/\SqL K H a xs/\tL K H ds xs
def tL(K:au)(H:Hp):List Dq->bG->Prop
 |[],xs=>xs=[]
 |d::ds,xs=>∃v r,xs=v::r/\Rep K H d v/\tL K H ds r
end
mutual
def eqD:Dq->Dq->Bool
 |.non,.non=>true
 |.bl a,.bl b=>a==b
 |.bl a,.int b=>(if a then 1 else 0)==b
 |.int a,.bl b=>a==(if b then 1 else 0)
 |.int a,.int b=>a==b
 |.str a,.str b=>a==b
 |.tup a,.tup b=>zH a b
 |.lst a,.lst b=>zH a b
 |_,_=>false
def zH:List Dq->List Dq->Bool
 |[],[]=>true
 |a::r,b::q=>eqD a b&&zH r q
 |_,_=>false
end
mutual
def dpt:Dq->Nat
 |.tup ds=>vn ds+1
 |.lst ds=>vn ds+1
 |_=>0
def vn:List Dq->Nat
 |[]=>0
 |d::r=>max (dpt d) (vn r)
end
mutual
theorem Jm:∀d:Dq,eqD d d=true
 |.non=>by unfold eqD;rfl
 |.bl b=>by unfold eqD;simp
 |.int i=>by unfold eqD;simp
 |.str x=>by unfold eqD;simp
 |.tup ds=>by unfold eqD;exact CT ds
 |.lst ds=>by unfold eqD;exact CT ds
theorem CT:∀ds:List Dq,zH ds ds=true
 |[]=>by unfold zH;rfl
 |d::r=>by unfold zH;rw[Jm d,CT r];rfl
end
theorem tN{K:au}:∀{ds:List Dq} {xs:bG},tL K H ds xs->ds.length=xs.length
 |[],xs,h=>by unfold tL at h;subst h;rfl
 |d::ds,xs,h=>by unfold tL at h;obtain⟨v,r,rfl,_,h2⟩:=h;rw[aM,aM,tN h2]
def eAt(ds ds':List Dq)(j:Nat):Bool:=match ds[j]?,ds'[j]? with
 |some a,some b=>eqD a b
 |_,_=>true
theorem E1:∀(ds ds':List Dq),zH ds ds'=true ↔ ds.length=ds'.length/\∀j,j<ds.length->eAt ds ds' j=true
 |[],[]=>by simp[zH]
 |[],b::q=>by simp[zH]
 |a::r,[]=>by simp[zH]
 |a::r,b::q=>by
  have ih:=E1 r q;unfold zH;rw[aZ,ih,aM,aM];constructor
  ·rintro⟨h1,h2,h3⟩;refine⟨by omega,λj hj=>?_⟩;cases j with
   |zero=>exact h1
   |succ j=>exact h3 j (by omega)
  ·rintro⟨h1,h2⟩;exact⟨h2 0 (by omega),by omega,λj hj=>h2 (j+1) (by omega)⟩
theorem zI{ds ds':List Dq}(hn:ds.length=n)(hm:ds'.length=m):((aQ (min n m)).all (eAt ds ds')&&n==m)=zH ds ds':=by
 rw[eZ,E1,aZ,bH];subst hn hm;constructor
 ·rintro⟨h1,h2⟩;have e:ds.length=ds'.length:=by simpa using h2
  exact⟨e,λj hj=>h1 j (bI.mpr (by omega))⟩
 ·rintro⟨e,h⟩;exact⟨λj hj=>h j (by have:=bI.mp hj;omega),by simpa using e⟩
theorem Ay{ds ds':List Dq}(hn:ds.length=n)(hm:ds'.length=n):(aQ n).all (eAt ds ds')=zH ds ds':=by rw[<-zI hn hm];simp
theorem E2{ds ds':List Dq}(h:ds.length≠ds'.length):zH ds ds'=false:=by
 cases e:zH ds ds' with
 |false=>rfl
 |true=>exact aq ((E1 ds ds').mp e).1 h
section
variable{X:Cx}{wv:cF}{σ:St}{H:Hp}{s:ae}
theorem UQ(I:Inv X wv σ H s)(h:SqL X.K H a xs)(h':SqT X.K H a ys):False:=by obtain⟨its,_,p,_⟩:=I.list h;obtain⟨its',_,p',_⟩:=I.tuple h';exact SeqAt.ne_of_list_tuple p.isList (show s.heap.IsTuple a its'.toArray from p') rfl
mutual
theorem E3(I:Inv X wv σ H s):∀(d d':Dq) (v:V),Rep X.K H d v->Rep X.K H d' v->eqD d d'=true
 |.non,d',v,h,h'=>by unfold Rep at h;subst h;cases d'<;>unfold Rep at h'<;>first|rfl|(exact nomatch h')|(obtain⟨_,_,e,_⟩:=h';exact nomatch e)
 |.bl b,d',v,h,h'=>by unfold Rep at h;subst h;cases d'<;>unfold Rep at h'<;>first|(obtain⟨_,_,e,_⟩:=h';cases e)|(cases h'<;>simp[eqD])
 |.int b,d',v,h,h'=>by unfold Rep at h;subst h;cases d'<;>unfold Rep at h'<;>first|(obtain⟨_,_,e,_⟩:=h';cases e)|(cases h'<;>simp[eqD])
 |.str b,d',v,h,h'=>by unfold Rep at h;subst h;cases d'<;>unfold Rep at h'<;>first|(obtain⟨_,_,e,_⟩:=h';cases e)|(cases h'<;>simp[eqD])
 |.tup ds,d',v,h,h'=>by
  unfold Rep at h;obtain⟨a,xs,rfl,hq,hr⟩:=h;cases d' with
  |tup ds'=>unfold Rep at h';obtain⟨a',xs',e,hq',hr'⟩:=h';cases e;have ex:=I.tuple_inj hq hq';subst ex;unfold eqD;exact CU I ds ds' xs hr hr'
  |lst ds'=>unfold Rep at h';obtain⟨a',xs',e,hq',hr'⟩:=h';cases e;exact(UQ I hq' hq).elim
  |_=>unfold Rep at h';exact nomatch h'
 |.lst ds,d',v,h,h'=>by
  unfold Rep at h;obtain⟨a,xs,rfl,hq,hr⟩:=h;cases d' with
  |lst ds'=>unfold Rep at h';obtain⟨a',xs',e,hq',hr'⟩:=h';cases e;have ex:=I.list_inj hq hq';subst ex;unfold eqD;exact CU I ds ds' xs hr hr'
  |tup ds'=>unfold Rep at h';obtain⟨a',xs',e,hq',hr'⟩:=h';cases e;exact(UQ I hq hq').elim
  |_=>unfold Rep at h';exact nomatch h'
theorem CU(I:Inv X wv σ H s):∀(ds ds':List Dq) (xs:bG),tL X.K H ds xs->tL X.K H ds' xs->zH ds ds'=true
 |[],ds',xs,h,h'=>by
  unfold tL at h;subst h;cases ds' with
  |nil=>rfl
  |cons d r=>unfold tL at h';obtain⟨_,_,e,_⟩:=h';exact nomatch e
 |d::ds,ds',xs,h,h'=>by
  unfold tL at h;obtain⟨v,r,rfl,h1,h2⟩:=h;cases ds' with
  |nil=>unfold tL at h';exact nomatch h'
  |cons d' r'=>unfold tL at h';obtain⟨v',q,e,h1',h2'⟩:=h';cases e;unfold zH;rw[E3 I d d' v h1 h1',CU I ds r' r h2 h2'];rfl
end
mutual
theorem V0(I:Inv X wv σ H s):∀(d d':Dq) (x y:V) (u v:aa) (A:aI),Rep X.K H d x->Rep X.K H d' y->RelV x u->RelV y v->A.units+dpt d+dpt d'<cLine->j3 A s u v (eqD d d')
 |.tup ds,d',x,y,u,v,A,hx,hy,ru,rv,hu=>by
  unfold Rep at hx;obtain⟨a,xs,rfl,hq,hr⟩:=hx;cases ru;obtain⟨its,rx,p,_⟩:=I.tuple hq;have p:s.heap.IsTuple a its.toArray:=p;cases d' with
  |non=>unfold Rep at hy;subst hy;cases rv;exact rY p (by omega)
  |bl b=>unfold Rep at hy;subst hy;cases rv;exact rZ b p (by omega)
  |int b=>unfold Rep at hy;subst hy;obtain⟨t,rfl⟩:=rv;exact sr b t p (by omega)
  |str b=>unfold Rep at hy;subst hy;obtain⟨t,rfl⟩:=rv;exact su b t p (by omega)
  |lst ds'=>unfold Rep at hy;obtain⟨b,ys,rfl,hq',hr'⟩:=hy;cases rv;obtain⟨its',ry,p',_⟩:=I.list hq';exact r6 p p'.isList (by omega)
  |tup ds'=>
   have hy0:=hy;unfold Rep at hy;obtain⟨b,ys,rfl,hq',hr'⟩:=hy;cases rv;obtain⟨its',ry,p',_⟩:=I.tuple hq';have p':s.heap.IsTuple b its'.toArray:=p';by_cases hab:a=b
   ·subst hab;have e:eqD (.tup ds) (.tup ds')=true:=E3 I _ _ (.ref a) (by unfold Rep;exact⟨a,xs,rfl,hq,hr⟩) hy0;rw[e];exact lA _
   ·have hd:dpt (.tup ds)=vn ds+1:=by rw[dpt]
    have hd':dpt (.tup ds')=vn ds'+1:=by rw[dpt]
    have q:=sV (A:=A) (e:=eAt ds ds') p p' (by omega) λj h1 h2=>by have z:=zJ I ds ds' xs ys its its' A.in1 hr hr' rx ry (by show A.units+1+vn ds+vn ds'<cLine;omega) j (by simpa using h1) (by simpa using h2);simpa using z
    rw[zI (by rw[tN hr,rx.length];simp) (by rw[tN hr',ry.length];simp)]at q;exact kN hab (by unfold eqD;exact q)
 |.lst ds,d',x,y,u,v,A,hx,hy,ru,rv,hu=>by
  unfold Rep at hx;obtain⟨a,xs,rfl,hq,hr⟩:=hx;cases ru;obtain⟨its,rx,p,_⟩:=I.list hq;have p:=p.isList;cases d' with
  |non=>unfold Rep at hy;subst hy;cases rv;exact sv p (by omega)
  |bl b=>unfold Rep at hy;subst hy;cases rv;exact sy b p (by omega)
  |int b=>unfold Rep at hy;subst hy;obtain⟨t,rfl⟩:=rv;exact sJ b t p (by omega)
  |str b=>unfold Rep at hy;subst hy;obtain⟨t,rfl⟩:=rv;exact sL b t p (by omega)
  |tup ds'=>unfold Rep at hy;obtain⟨b,ys,rfl,hq',hr'⟩:=hy;cases rv;obtain⟨its',ry,p',_⟩:=I.tuple hq';exact r9 p (show s.heap.IsTuple b its'.toArray from p') (by omega)
  |lst ds'=>
   have hy0:=hy;unfold Rep at hy;obtain⟨b,ys,rfl,hq',hr'⟩:=hy;cases rv;obtain⟨its',ry,p',_⟩:=I.list hq';have p':=p'.isList;by_cases hab:a=b
   ·subst hab;have e:eqD (.lst ds) (.lst ds')=true:=E3 I _ _ (.ref a) (by unfold Rep;exact⟨a,xs,rfl,hq,hr⟩) hy0;rw[e];exact lA _
   ·have hd:dpt (.lst ds)=vn ds+1:=by rw[dpt]
    have hd':dpt (.lst ds')=vn ds'+1:=by rw[dpt]
    by_cases hl:its.length=its'.length
    ·have q:=sW (A:=A) (e:=eAt ds ds') p p' (by simpa using hl) (by omega) λj h1 h2=>by have z:=zJ I ds ds' xs ys its its' A.in1 hr hr' rx ry (by show A.units+1+vn ds+vn ds'<cLine;omega) j (by simpa using h1) (by simpa using h2);simpa using z
     rw[Ay (by rw[tN hr,rx.length];simp) (by rw[tN hr',ry.length,<- hl];simp)]at q;exact kN hab (by unfold eqD;exact q)
    ·have e:eqD (.lst ds) (.lst ds')=false:=by unfold eqD;exact E2 (by rw[tN hr,tN hr',rx.length,ry.length];exact hl)
     rw[e];exact kN hab (rU p p' (by simpa using hl) (by omega))
 |.non,d',x,y,u,v,A,hx,hy,ru,rv,hu=>by
  unfold Rep at hx;subst hx;cases d' with
  |tup ds'=>unfold Rep at hy;obtain⟨b,ys,rfl,hq',hr'⟩:=hy;cases rv;cases ru;obtain⟨its',ry,p',_⟩:=I.tuple hq';exact sd (show s.heap.IsTuple b its'.toArray from p') (by omega)
  |lst ds'=>unfold Rep at hy;obtain⟨b,ys,rfl,hq',hr'⟩:=hy;cases rv;cases ru;obtain⟨its',ry,p',_⟩:=I.list hq';exact sA p'.isList (by omega)
  |_=>unfold Rep at hy;subst hy;exact ES ru rv rfl rfl
 |.bl c,d',x,y,u,v,A,hx,hy,ru,rv,hu=>by
  unfold Rep at hx;subst hx;cases d' with
  |tup ds'=>unfold Rep at hy;obtain⟨b,ys,rfl,hq',hr'⟩:=hy;cases rv;cases ru;obtain⟨its',ry,p',_⟩:=I.tuple hq';exact se c (show s.heap.IsTuple b its'.toArray from p') (by omega)
  |lst ds'=>unfold Rep at hy;obtain⟨b,ys,rfl,hq',hr'⟩:=hy;cases rv;cases ru;obtain⟨its',ry,p',_⟩:=I.list hq';exact sC c p'.isList (by omega)
  |_=>unfold Rep at hy;subst hy;exact ES ru rv rfl rfl
 |.int c,d',x,y,u,v,A,hx,hy,ru,rv,hu=>by
  unfold Rep at hx;subst hx;cases d' with
  |tup ds'=>unfold Rep at hy;obtain⟨b,ys,rfl,hq',hr'⟩:=hy;cases rv;obtain⟨t,rfl⟩:=ru;obtain⟨its',ry,p',_⟩:=I.tuple hq';exact sD c t (show s.heap.IsTuple b its'.toArray from p') (by omega)
  |lst ds'=>unfold Rep at hy;obtain⟨b,ys,rfl,hq',hr'⟩:=hy;cases rv;obtain⟨t,rfl⟩:=ru;obtain⟨its',ry,p',_⟩:=I.list hq';exact sM c t p'.isList (by omega)
  |_=>unfold Rep at hy;subst hy;exact ES ru rv rfl rfl
 |.str c,d',x,y,u,v,A,hx,hy,ru,rv,hu=>by
  unfold Rep at hx;subst hx;cases d' with
  |tup ds'=>unfold Rep at hy;obtain⟨b,ys,rfl,hq',hr'⟩:=hy;cases rv;obtain⟨t,rfl⟩:=ru;obtain⟨its',ry,p',_⟩:=I.tuple hq';exact sE c t (show s.heap.IsTuple b its'.toArray from p') (by omega)
  |lst ds'=>unfold Rep at hy;obtain⟨b,ys,rfl,hq',hr'⟩:=hy;cases rv;obtain⟨t,rfl⟩:=ru;obtain⟨its',ry,p',_⟩:=I.list hq';exact sN c t p'.isList (by omega)
  |_=>unfold Rep at hy;subst hy;exact ES ru rv rfl rfl
theorem zJ(I:Inv X wv σ H s):∀(ds ds':List Dq) (xs ys:bG) (us vs:List aa) (A:aI),tL X.K H ds xs->tL X.K H ds' ys->Vals xs us->Vals ys vs->A.units+vn ds+vn ds'<cLine->
  ∀(j:Nat) (h1:j<us.length) (h2:j<vs.length),j3 A s us[j] vs[j] (eAt ds ds' j)
 |[],ds',xs,ys,us,vs,A,hx,hy,ru,rv,hu,j,h1,h2=>by
  have:=tN hx;have:=ru.length;simp only[fj]at *
  omega
 |d::ds,[],xs,ys,us,vs,A,hx,hy,ru,rv,hu,j,h1,h2=>by
  have:=tN hy;have:=rv.length;simp only[fj]at *
  omega
 |d::ds,d'::ds',xs,ys,us,vs,A,hx,hy,ru,rv,hu,j,h1,h2=>by
  unfold tL at hx hy;obtain⟨x,xr,rfl,hx1,hx2⟩:=hx;obtain⟨y,yr,rfl,hy1,hy2⟩:=hy;have e1:vn (d::ds)=max (dpt d) (vn ds):=by rw[vn]
  have e2:vn (d'::ds')=max (dpt d') (vn ds'):=by rw[vn]
  cases ru with
  |cons r1 r2=>
   cases rv with
   |cons q1 q2=>
    cases j with
    |zero=>exact V0 I d d' x y _ _ A hx1 hy1 r1 q1 (by omega)
    |succ j=>exact zJ I ds ds' xr yr _ _ A hx2 hy2 r2 q2 (by omega) j (by simpa using h1) (by simpa using h2)
end
def Jn:Dq->Dq->Bool
 |.tup _,.tup _=>true
 |.lst _,.lst _=>true
 |_,_=>false
def KP(K:au)(neg:Bool):R2:=λx y H Q=>∃d d',Rep K H d x/\Rep K H d' y/\Jn d d'=true/\dpt d<=20/\dpt d'<=20/\Q (.bl (if neg then !eqD d d' else eqD d d')) H
theorem V1(hu:X.A.units+64<cLine):OpR X (br .Eq) (KP X.K false):=by
 intro wv s σ H x y u v Q I ru rv h;obtain⟨d,d',hx,hy,hd,h1,h2,q⟩:=h;cases d with
 |tup ds=>
  cases d' with
  |tup ds'=>
   have hd1:dpt (.tup ds)=vn ds+1:=by rw[dpt]
   have hd2:dpt (.tup ds')=vn ds'+1:=by rw[dpt]
   unfold Rep at hx hy;obtain⟨a,xs,rfl,hq,hr⟩:=hx;obtain⟨b,ys,rfl,hq',hr'⟩:=hy;cases ru;cases rv;obtain⟨its,rx,p,_⟩:=I.tuple hq;obtain⟨its',ry,p',_⟩:=I.tuple hq';refine SeqAt.eq_tupleAt (e:=eAt ds ds') (show s.heap.IsTuple a its.toArray from p) (show s.heap.IsTuple b its'.toArray from p') (by omega) (λj h1 h2=>?_) ?_
   ·have z:=zJ I ds ds' xs ys its its' X.A.in1 hr hr' rx ry (by show X.A.units+1+vn ds+vn ds'<cLine;omega) j (by simpa using h1) (by simpa using h2);simpa using z
   ·rw[zI (by rw[tN hr,rx.length];simp) (by rw[tN hr',ry.length];simp)];unfold eqD at q;exact uy I q rfl
  |_=>exact nomatch hd
 |lst ds=>
  cases d' with
  |lst ds'=>
   have hd1:dpt (.lst ds)=vn ds+1:=by rw[dpt]
   have hd2:dpt (.lst ds')=vn ds'+1:=by rw[dpt]
   unfold Rep at hx hy;obtain⟨a,xs,rfl,hq,hr⟩:=hx;obtain⟨b,ys,rfl,hq',hr'⟩:=hy;cases ru;cases rv;obtain⟨its,rx,p,_⟩:=I.list hq;obtain⟨its',ry,p',_⟩:=I.list hq';by_cases hl:its.length=its'.length
   ·refine SeqAt.eq_listAt (e:=eAt ds ds') p.isList p'.isList (by simpa using hl) (by omega) (λj h1 h2=>?_) ?_
    ·have z:=zJ I ds ds' xs ys its its' X.A.in1 hr hr' rx ry (by show X.A.units+1+vn ds+vn ds'<cLine;omega) j (by simpa using h1) (by simpa using h2);simpa using z
    ·rw[Ay (by rw[tN hr,rx.length];simp) (by rw[tN hr',ry.length,<- hl];simp)];unfold eqD at q;exact uy I q rfl
   ·refine SeqAt.eq_list_lengthsAt p.isList p'.isList (by simpa using hl) (by omega) ?_;have e:zH ds ds'=false:=E2 (by rw[tN hr,tN hr',rx.length,ry.length];exact hl);unfold eqD at q;rw[e]at q;exact uy I q rfl
  |_=>exact nomatch hd
 |_=>exact nomatch hd
theorem V2(hu:X.A.units+64<cLine):OpR X (br .NotEq) (KP X.K true):=by
 intro wv s σ H x y u v Q I ru rv h;obtain⟨d,d',hx,hy,hd,h1,h2,q⟩:=h;cases d with
 |tup ds=>
  cases d' with
  |tup ds'=>
   have hd1:dpt (.tup ds)=vn ds+1:=by rw[dpt]
   have hd2:dpt (.tup ds')=vn ds'+1:=by rw[dpt]
   unfold Rep at hx hy;obtain⟨a,xs,rfl,hq,hr⟩:=hx;obtain⟨b,ys,rfl,hq',hr'⟩:=hy;cases ru;cases rv;obtain⟨its,rx,p,_⟩:=I.tuple hq;obtain⟨its',ry,p',_⟩:=I.tuple hq';have w:=sO (A:=X.A) (e:=eAt ds ds') (show s.heap.IsTuple a its.toArray from p) (show s.heap.IsTuple b its'.toArray from p') (by omega) (λj h1 h2=>by
    have z:=zJ I ds ds' xs ys its its' X.A.in1 hr hr' rx ry (by show X.A.units+1+vn ds+vn ds'<cLine;omega) j (by simpa using h1) (by simpa using h2);simpa using z)
   rw[zI (by rw[tN hr,rx.length];simp) (by rw[tN hr',ry.length];simp)]at w;unfold eqD at q;exact w X.prog X.w X.xe _ (uy I q rfl)
  |_=>exact nomatch hd
 |lst ds=>
  cases d' with
  |lst ds'=>
   have hd1:dpt (.lst ds)=vn ds+1:=by rw[dpt]
   have hd2:dpt (.lst ds')=vn ds'+1:=by rw[dpt]
   unfold Rep at hx hy;obtain⟨a,xs,rfl,hq,hr⟩:=hx;obtain⟨b,ys,rfl,hq',hr'⟩:=hy;cases ru;cases rv;obtain⟨its,rx,p,_⟩:=I.list hq;obtain⟨its',ry,p',_⟩:=I.list hq';by_cases hl:its.length=its'.length
   ·have w:=sS (A:=X.A) (e:=eAt ds ds') p.isList p'.isList (by simpa using hl) (by omega) (λj h1 h2=>by
     have z:=zJ I ds ds' xs ys its its' X.A.in1 hr hr' rx ry (by show X.A.units+1+vn ds+vn ds'<cLine;omega) j (by simpa using h1) (by simpa using h2);simpa using z)
    rw[Ay (by rw[tN hr,rx.length];simp) (by rw[tN hr',ry.length,<- hl];simp)]at w;unfold eqD at q;exact w X.prog X.w X.xe _ (uy I q rfl)
   ·have e:zH ds ds'=false:=E2 (by rw[tN hr,tN hr',rx.length,ry.length];exact hl);unfold eqD at q;rw[e]at q;exact rg p.isList p'.isList (by simpa using hl) (by omega) X.prog X.w X.xe _ (uy I q rfl)
  |_=>exact nomatch hd
 |_=>exact nomatch hd
end
theorem Nq{K:au}:∀l:aD,tL K H (l.map Dq.str) (l.map V.str)
 |[]=>by rw[cM,cM];unfold tL;rfl
 |x::r=>by rw[aE,aE];unfold tL;exact⟨_,_,rfl,(by unfold Rep;rfl),Nq r⟩
theorem CV:∀l:aD,vn (l.map Dq.str)=0
 |[]=>by rw[cM,vn]
 |x::r=>by rw[aE];unfold vn;rw[CV r];unfold dpt;rfl
inductive StrsAre:List Expr->bG->Prop
 |nil:StrsAre [] []
 |cons {x:Str} {j:Nat} {pos:Pos} {es:List Expr} {vs:bG} (h:StrsAre es vs):StrsAre (.Constant (.str x) j pos::es) (.str x::vs)
theorem xw(h:n<=1000):n<=aG:=hE (A5 h)
theorem tT.new(x:tT H H1)(hp:H1 p=none)(o:HO):tT H (upd H1 p o):=λb u e=>by have z:=x b u e;rw[tR (v3 z hp)];exact z
structure Nr(K:au)(x qual:Str)(st:Stmt)(f:Addr)(fd:cg)(T:Addr):Prop where
 ex:∃(oc:aa) (od:Option Addr) (kV doc pm:aa) (an:Option Addr) (cdv ct:aa) (osl:Array (Option aa)),
  fd=eO x qual (w5 st) (uw st) (tX st) (.ref T) kV doc pm an cdv ct/\K.lookup f=some ⟨oc,od,.func fd,osl⟩/\ig K cdv qual=true
 kp:dS K (.ref f)=true
section
variable{P:aH}{w:aA}{K:au}{mg:Str->Option aa}{base:Heap}
theorem Nr.ok{st:Stmt}(F:Nr K x qual st f fd T)(S:u6 N ps (tX st))(len:∀vs H Q E,sp vs H Q E->vs.length=ps.length)
  (hbody:∀(cdv:aa) (A:aI) (outer:List Env) (s:ae) (H:Hp) (vs:bG) (Q:VK) (E:XK),u9 k (A.deeper (envOfC qual (tX st) s.heap.objs.size f cdv))->sp vs H Q E->
   ∃t,PSs (Jc CX0 P w K mg base N qual (tX st) f cdv A outer s H E).nox (uw st) t/\t { nx:=λ_ H'=>Q .non H',rt:=Q } (L2.start N vs) H):wY P w K mg base CX0 (k+1) f fd ps sp:=by
 obtain⟨oc,od,kV,doc,pm,an,cdv,ct,osl,rfl,lk,hcd⟩:=F.ex;refine UM lk hcd S len λA outer s H vs Q E hr hsp=>?_;obtain⟨t,h,q⟩:=hbody cdv A outer s H vs Q E hr hsp;exact⟨t,h.nox,q⟩
end
theorem Nr.binds{K:au}{st:Stmt}{ps:aD}{ds:List aa}(F:Nr K x qual st f fd T)(ho:K.lookup T=some o)(hs:o.data=.seq items n)
  (h:∀(kV doc pm:aa) (an:Option Addr) (cdv ct:aa) (us:List aa),us.length=ps.length - ds.length->∃k,bindArgs (eO x qual (w5 st) (uw st) (tX st) (.ref T) kV doc pm an cdv ct) ⟨us,[]⟩=seqItems? (.ref T)>>=k/\k (some items)=pure (ps.zip (us++ds))):Binds K fd ps ds:=by
 obtain⟨oc,od,kV,doc,pm,an,cdv,ct,osl,rfl,lk,hcd⟩:=F.ex;intro s us KX hl;obtain⟨k,h1,h2⟩:=h kV doc pm an cdv ct us (by rw[aB]at hl;omega);exact BindsTo.of_defaults (k:=k) rfl (KX _ _ ho) hs h1 h2
section
variable{X:Cx}
theorem KQ:OpR X (cO .Mult) (λx y H Q=>∃z n,x=.str z/\y=.int n/\MulOk z n/\Q (.str (ja z n)) H):=by intro wv s σ H x y v u Q I rx ry h;obtain⟨z,n,rfl,rfl,hm,q⟩:=h;obtain⟨t,rfl⟩:=rx;obtain⟨t',rfl⟩:=ry;exact SB.mul hm λt2 k=>⟨.str _,H,I.tok _,⟨t2,rfl⟩,q⟩
end
section
variable{X:Cx}(K:au)
theorem OQ(hK:X.K=K:=by rfl):IxR X (RU K):=by subst hK;exact LQ
theorem Jo(hl:PE X l tl)(hK:X.K=K:=by rfl):PI X tg l (Om K tl):=by subst hK;exact RG hl
theorem Se(hl:PE X l tl)(hK:X.K=K:=by rfl):PI X tg l (Vv K tl):=by subst hK;exact Vw hl
theorem Sf(hc:X.calm=true)(h:PGs X es t)(hn:(c3 es X.env).length=n:=by rfl)(hst:(c3 es X.env).findIdx? (·.1)=none:=by rfl)(hK:X.K=K:=by rfl):PG X (.Tuple es k pos) (Vr K n t):=by subst hK;exact Vs hc h hn hst
variable{o e:Expr}{es:List Expr}{to:TE}{t:TA}{name:Str}{apos cpos:Pos}{T id:String}{r:V->bG->Hp->VK->Prop}
theorem OR(pa:mi T)(slot:Slot T name id)(hty:typeOf (.builtin id)=pure (.type "method_descriptor"))(hm:MtR X id r)(ho:PE X o to)(ha:PA X (e::es) t)
  (hbase:fz o name X.env (eval o X.env)=eval o X.env:=by rfl)
  (hfew:((bt cpos (aw (e::es) X.env)).all (λx=>!x.1)&&(backToKw cpos (dO [] X.env)).all (λx=>x.1.isSome)
   && decide ((e::es).length+([]:List fE).length+(if ([]:List fE).isEmpty then 0 else 1)<30))=true:=by rfl)
  (hline:(apos.endLine==cpos.line)=true:=by rfl) (hs:aw (e::es) X.env=(false,eval e X.env)::aw es X.env:=by rfl) (hplain:(bt cpos (aw es X.env)).any (·.1)=false:=by rfl) (hK:X.K=K:=by rfl):
  PE X (.Call (.Attribute o name apos) (e::es) [] cpos) (tBM K T r to t):=by subst hK;exact ZR pa slot hty hm ho ha hbase hfew hline hs hplain
end
end L3
namespace L2
open PySem PySem.Spec PyProof.Rows
section
variable{X:Cx}{wv:cF}{σ:St}{H:Hp}{s:ae}
theorem zm(e:H a=some u)(q:H c=some v)(d:u≠v)(n:HO):upd H a n c=some v:=by rw[tR (λz=>by subst z;rw[e]at q;exact d (cU q))];exact q
theorem Inv.freeze(I:Inv X wv σ H s)(e:H a=some (.dK kvs)):∃o,Inv X wv σ (upd H a (.frz o (.dK kvs))) s:=by
 obtain⟨z,y,vs,r,ob,es,ep,e1,c⟩:=(show uQ X.prog X.w H s.heap a (.dK kvs) from I.hok a _ e);refine⟨ob,?_⟩;have I':=I.step (H':=upd H a (.frz ob (.dK kvs))) (h':=s.heap) (g':=s.gens) (d':=s.drawn) (t':=s.toks) (ch:=[]) (λ_ z=>nomatch z) (λb o _ _ _ q _=>q) (λb o _ _ _ q _=>⟨o.slots,q⟩)
  (λb o _ _ n=>by rw[tR (λz=>by subst z;rw[e]at n;cases n)];exact n) (λb o _ q=>⟨o,q⟩) (λb xs q=>zm e q (λz=>nomatch z) _) (λb o u q=>zm e q (λz=>nomatch z) _)
  (λb ps q=>⟨#[],by rw[zm e q (λz=>nomatch z) _];simp⟩) (λm q=>q) ?_ I.bare
 ·obtain⟨h,g,d,t,os⟩:=s;exact I'
 ·intro b u q;have st:∀{b:Addr} {u:HO},uQ X.prog X.w H s.heap b u->uQ X.prog X.w (upd H a (.frz ob (.dK kvs))) s.heap b u:=λ{b u} x=>x.stay (λ_ _ _ q=>q) (λc q=>zm e q (λz=>nomatch z) _) λc xs q=>zm e q (λz=>nomatch z) _
  by_cases hb:b=a
  ·subst hb;rw[tP]at q;cases q;exact⟨e1,st (I.hok b _ e)⟩
  ·rw[tR hb]at q;exact st (I.hok b u q)
theorem PE.ghost(h:PE X e t):PE X e (λσ H Q=>t σ H λx H1=>Q x H1\/∃a kvs,H1 a=some (.dK kvs)/\∀o,Q x (upd H1 a (.frz o (.dK kvs)))):=λwv s σ H Q I hq=>
 thn (h wv s σ H _ I hq) λu s1 ⟨x,H1,I1,r1,q1⟩=>by
  rcases q1 with q|⟨a,kvs,e,q⟩
  ·exact⟨x,H1,I1,r1,q⟩
  ·obtain⟨o,I2⟩:=I1.freeze e;exact⟨x,_,I2,r1,q o⟩
end
end L2
namespace L4
open PySem PySem.Spec PyProof.Rows L2 L3
abbrev St:=L2.St
inductive D where
 |non|bl (b:Bool)|int (i:Int)|str (x:Str)
 |tup (ds:List D)|lst (ds:List D)
 |fzl (ds:List D)
 |obj (c:Nat) (ns:aD) (ds:List D)
 |dic (ks:List Key) (ds:List D)
abbrev aS:=List D
structure Bg where
 K:au
 ca:Nat->Addr
mutual
def Rep(G:Bg)(H:Hp):D->V->Prop
 |.non,v=>v=.non
 |.bl b,v=>v=.bl b
 |.int i,v=>v=.int i
 |.str x,v=>v=.str x
 |.tup ds,v=>∃a xs,v=.ref a/\SqT G.K H a xs/\tL G H ds xs
 |.lst ds,v=>∃a xs,v=.ref a/\H a=some (.lst xs)/\tL G H ds xs
 |.fzl ds,v=>∃a xs,v=.ref a/\SqL G.K H a xs/\tL G H ds xs
 |.obj c ns ds,v=>∃a dx xs,v=.ref a/\H a=some (.ins (G.ca c) dx (ns.zip xs))/\ns.length=xs.length/\tL G H ds xs
 |.dic ks ds,v=>∃a o xs,v=.ref a/\H a=some (.frz o (.dK (ks.zip xs)))/\ks.length=xs.length/\tL G H ds xs
def tL(G:Bg)(H:Hp):aS->bG->Prop
 |[],xs=>xs=[]
 |d::ds,xs=>∃v r,xs=v::r/\Rep G H d v/\tL G H ds r
end
theorem SqT.mono{K:au}(e:tT H H')(h:SqT K H a xs):SqT K H' a xs:=by
 rcases h with (h|⟨o,h⟩)|h
 ·exact .inl (.inl (e _ _ h))
 ·exact .inl (.inr ⟨o,e _ _ h⟩)
 ·exact .inr h
mutual
theorem Rep.mono(e:tT H H'):∀(d:D) (v:V),Rep G H d v->Rep G H' d v
 |.non,v,h=>by unfold Rep at h ⊢;exact h
 |.bl b,v,h=>by unfold Rep at h ⊢;exact h
 |.int i,v,h=>by unfold Rep at h ⊢;exact h
 |.str x,v,h=>by unfold Rep at h ⊢;exact h
 |.tup ds,v,h=>by unfold Rep at h ⊢;obtain⟨a,xs,rfl,h1,h2⟩:=h;exact⟨a,xs,rfl,SqT.mono e h1,tL.mono e ds xs h2⟩
 |.lst ds,v,h=>by unfold Rep at h ⊢;obtain⟨a,xs,rfl,h1,h2⟩:=h;exact⟨a,xs,rfl,e _ _ h1,tL.mono e ds xs h2⟩
 |.fzl ds,v,h=>by unfold Rep at h ⊢;obtain⟨a,xs,rfl,h1,h2⟩:=h;exact⟨a,xs,rfl,e.seq h1,tL.mono e ds xs h2⟩
 |.obj c ns ds,v,h=>by unfold Rep at h ⊢;obtain⟨a,dx,xs,rfl,h1,h2,h3⟩:=h;exact⟨a,dx,xs,rfl,e _ _ h1,h2,tL.mono e ds xs h3⟩
 |.dic ks ds,v,h=>by unfold Rep at h ⊢;obtain⟨a,o,xs,rfl,h1,h2,h3⟩:=h;exact⟨a,o,xs,rfl,e _ _ h1,h2,tL.mono e ds xs h3⟩
theorem tL.mono(e:tT H H'):∀(ds:aS) (xs:bG),tL G H ds xs->tL G H' ds xs
 |[],xs,h=>by unfold tL at h ⊢;exact h
 |d::ds,xs,h=>by unfold tL at h ⊢;obtain⟨v,r,rfl,h1,h2⟩:=h;exact⟨v,r,rfl,Rep.mono e d v h1,tL.mono e ds r h2⟩
end
section
variable{G:Bg}{H:Hp}
theorem uj:tL G H [] []:=by unfold tL;rfl
theorem uk(h:Rep G H d v)(r:tL G H ds xs):tL G H (d::ds) (v::xs):=by unfold tL;exact⟨v,xs,rfl,h,r⟩
theorem tN:∀{ds:aS} {xs:bG},tL G H ds xs->ds.length=xs.length
 |[],xs,h=>by unfold tL at h;subst h;rfl
 |d::ds,xs,h=>by unfold tL at h;obtain⟨v,r,rfl,_,h2⟩:=h;rw[aM,aM,tN h2]
theorem vt:∀{ds es:aS} {xs ys:bG},tL G H ds xs->tL G H es ys->tL G H (ds++es) (xs++ys)
 |[],es,xs,ys,h,h'=>by unfold tL at h;subst h;exact h'
 |d::ds,es,xs,ys,h,h'=>by unfold tL at h;obtain⟨v,r,rfl,h1,h2⟩:=h;exact uk h1 (vt h2 h')
theorem v5:∀{ds:aS} {xs:bG} {i:Nat} {d:D},tL G H ds xs->ds[i]?=some d->∃v,xs[i]?=some v/\Rep G H d v
 |[],xs,i,d,h,e=>by simp at e
 |d'::ds,xs,i,d,h,e=>by
  unfold tL at h;obtain⟨v,r,rfl,h1,h2⟩:=h;cases i with
  |zero=>simp at e;subst e;exact⟨v,rfl,h1⟩
  |succ i=>simpa using v5 (i:=i) (d:=d) h2 (by simpa using e)
theorem GO:∀{ds:aS} {xs:bG} (n:Nat),tL G H ds xs->tL G H (ds.drop n) (xs.drop n)
 |ds,xs,0,h=>h
 |[],xs,n+1,h=>by unfold tL at h;subst h;exact uj
 |d::ds,xs,n+1,h=>by unfold tL at h;obtain⟨v,r,rfl,h1,h2⟩:=h;exact GO n h2
theorem GP:∀{ds:aS} {xs:bG} (n:Nat),tL G H ds xs->tL G H (ds.take n) (xs.take n)
 |ds,xs,0,h=>uj
 |[],xs,n+1,h=>by unfold tL at h;subst h;exact uj
 |d::ds,xs,n+1,h=>by unfold tL at h;obtain⟨v,r,rfl,h1,h2⟩:=h;exact uk h1 (GP n h2)
theorem yQ(h:SqT G.K H a xs)(r:tL G H ds xs):Rep G H (.tup ds) (.ref a):=by unfold Rep;exact⟨a,xs,rfl,h,r⟩
theorem yR(h:H a=some (.lst xs))(r:tL G H ds xs):Rep G H (.lst ds) (.ref a):=by unfold Rep;exact⟨a,xs,rfl,h,r⟩
theorem vW(i:Int):Rep G H (.int i) (.int i):=by unfold Rep;rfl
theorem wC(i:Bool):Rep G H (.bl i) (.bl i):=by unfold Rep;rfl
theorem xW(i:Str):Rep G H (.str i) (.str i):=by unfold Rep;rfl
theorem zK:Rep G H .non .non:=by unfold Rep;rfl
end
inductive Sl where
 |un
 |im (d:D)
 |ls (ds:aS)
 |pm (ds:aS)
 |dk (ks:List Key) (ds:aS)
 |ob (c:Nat) (ns:aD) (ds:aS)
abbrev bb:=List Sl
def Sl.own:Sl->Bool
 |.ls _=>true
 |.pm _=>true
 |.dk _ _=>true
 |.ob _ _ _=>true
 |_=>false
structure Fr where
 B0:Hp
 B:Hp
 A:List Addr
def By(G:Bg)(F:Fr)(H0 H:Hp)(o:Option V):Sl->Prop
 |.un=>True
 |.im d=>∃v,o=some v/\Rep G H0 d v
 |.ls ds=>∃a xs,o=some (.ref a)/\H a=some (.lst xs)/\H0 a=none/\F.B a=none/\tL G H0 ds xs
 |.pm ds=>∃a xs,o=some (.ref a)/\H a=some (.lst xs)/\H0 a=none/\a∈F.A/\tL G H0 ds xs
 |.dk ks ds=>∃a xs,o=some (.ref a)/\H a=some (.dK (ks.zip xs))/\H0 a=none/\F.B a=none/\ks.length=xs.length/\tL G H0 ds xs
 |.ob c ns ds=>∃a dx xs,o=some (.ref a)/\H a=some (.ins (G.ca c) dx (ns.zip xs))/\H0 a=none/\a∈F.A/\ns.length=xs.length/\tL G H0 ds xs
structure tW(G:Bg)(F:Fr)(σ:St)(ρ:bb)(H0 H:Hp):Prop where
 sub:tT H0 H
 g0:tT F.B0 H0
 keep:∀b o,F.B b=some o->b∉F.A->H b=some o
 fr:∀b o,H0 b=some o->F.B0 b=some o\/F.B b=none
 am:∀a∈F.A,∃o,H a=some o
 len:σ.length=ρ.length
 sl:∀(i:Nat) (s:Sl),ρ[i]?=some s->By G F H0 H (σ[i]?).join s
 ap:∀(i j:Nat) (s t:Sl) (a:Addr),i≠j->ρ[i]?=some s->ρ[j]?=some t->s.own=true->t.own=true->(σ[i]?).join=some (.ref a)->(σ[j]?).join=some (.ref a)->False
theorem By.at(h:By G F H0 H o s)(e:s.own=true):∃a u,o=some (.ref a)/\H a=some u/\H0 a=none/\(F.B a=none\/a∈F.A):=by
 cases s with
 |un=>cases e
 |im d=>cases e
 |ls ds=>obtain⟨a,xs,h1,h2,h3,h4,_⟩:=h;exact⟨a,_,h1,h2,h3,.inl h4⟩
 |pm ds=>obtain⟨a,xs,h1,h2,h3,h4,_⟩:=h;exact⟨a,_,h1,h2,h3,.inr h4⟩
 |dk ks ds=>obtain⟨a,xs,h1,h2,h3,h4,_⟩:=h;exact⟨a,_,h1,h2,h3,.inl h4⟩
 |ob c ns ds=>obtain⟨a,dx,xs,h1,h2,h3,h4,_⟩:=h;exact⟨a,_,h1,h2,h3,.inr h4⟩
theorem By.grow(h:By G F H0 H o s)(h0:tT H0 H0')(hk:∀a u,o=some (.ref a)->s.own=true->H a=some u->H' a=some u)
  (hn:∀a u,o=some (.ref a)->s.own=true->H a=some u->H0 a=none->H0' a=none):By G F H0' H' o s:=by
 cases s with
 |un=>trivial
 |im d=>obtain⟨v,h1,h2⟩:=h;exact⟨v,h1,Rep.mono h0 _ _ h2⟩
 |ls ds=>obtain⟨a,xs,h1,h2,h3,h4,h5⟩:=h;exact⟨a,xs,h1,hk _ _ h1 rfl h2,hn _ _ h1 rfl h2 h3,h4,tL.mono h0 _ _ h5⟩
 |pm ds=>obtain⟨a,xs,h1,h2,h3,h4,h5⟩:=h;exact⟨a,xs,h1,hk _ _ h1 rfl h2,hn _ _ h1 rfl h2 h3,h4,tL.mono h0 _ _ h5⟩
 |dk ks ds=>obtain⟨a,xs,h1,h2,h3,h4,h5,h6⟩:=h;exact⟨a,xs,h1,hk _ _ h1 rfl h2,hn _ _ h1 rfl h2 h3,h4,h5,tL.mono h0 _ _ h6⟩
 |ob c ns ds=>obtain⟨a,dx,xs,h1,h2,h3,h4,h5,h6⟩:=h;exact⟨a,dx,xs,h1,hk _ _ h1 rfl h2,hn _ _ h1 rfl h2 h3,h4,h5,tL.mono h0 _ _ h6⟩
section
variable{G:Bg}{F:Fr}{σ:St}{ρ:bb}{H0 H H0' H':Hp}
theorem tW.bNone(R:tW G F σ ρ H0 H)(h:H b=none):F.B b=none:=by
 cases e:F.B b with
 |none=>rfl
 |some o=>
  by_cases ha:b∈F.A
  ·obtain⟨xs,q⟩:=R.am b ha;rw[q]at h;cases h
  ·have q:=R.keep b o e ha;rw[q]at h;cases h
theorem tW.grow(R:tW G F σ ρ H0 H)(hs:tT H H')(h0:tT H0 H0')(sub':tT H0' H')(hf:∀b o,H0' b=some o->H0 b=some o\/H b=none):tW G F σ ρ H0' H' where
 sub:=sub'
 g0:=R.g0.trans h0
 keep:=λb o e n=>hs _ _ (R.keep b o e n)
 fr:=λb o e=>by
  rcases hf b o e with q|q
  ·exact R.fr b o q
  ·exact .inr (R.bNone q)
 am:=λa ha=>let ⟨xs,q⟩:=R.am a ha;⟨xs,hs _ _ q⟩
 len:=R.len
 sl:=λi s e=>(R.sl i s e).grow h0 (λa u _ _ q=>hs _ _ q) λa u _ _ q q0=>by
  cases z:H0' a with
  |none=>rfl
  |some o=>
   rcases hf a o z with y|y
   ·rw[y]at q0;cases q0
   ·rw[y]at q;cases q
 ap:=R.ap
theorem tV(hp:H p=none)(o:HO):tT H (upd H p o):=tT.new (tT.refl H) hp o
theorem tW.h0none(R:tW G F σ ρ H0 H)(hp:H p=none):H0 p=none:=by
 cases e:H0 p with
 |none=>rfl
 |some o=>have:=R.sub _ _ e;rw[this]at hp;cases hp
theorem OS(s:tT H0 H)(p:Addr)(o:HO):tT (upd H0 p o) (upd H p o):=λb u e=>by
 by_cases hb:b=p
 ·subst hb;rw[tP]at e ⊢;exact e
 ·rw[tR hb]at e ⊢;exact s _ _ e
theorem tW.newIm(R:tW G F σ ρ H0 H)(hp:H p=none)(o:HO):tW G F σ ρ (upd H0 p o) (upd H p o):=
 R.grow (tV hp o) (tV (R.h0none hp) o) (OS R.sub p o) λb u e=>by
  by_cases hb:b=p
  ·subst hb;exact .inr hp
  ·rw[tR hb]at e;exact .inl e
theorem tW.newOwn(R:tW G F σ ρ H0 H)(hp:H p=none)(o:HO):tW G F σ ρ H0 (upd H p o):=
 R.grow (tV hp o) (tT.refl _) (λb u e=>by rw[tR (v3 (R.sub _ _ e) hp)];exact R.sub _ _ e) λb u e=>.inl e
def Apart(σ:St)(ρ:bb)(p:Addr):Prop:=∀(i:Nat) (s:Sl),ρ[i]?=some s->s.own=true->(σ[i]?).join≠some (.ref p)
theorem tW.apart(R:tW G F σ ρ H0 H)(hp:H p=none):Apart σ ρ p:=λi s e so z=>by obtain⟨a,u,h1,h2,_⟩:=(R.sl i s e).at so;rw[z]at h1;cases h1;rw[hp]at h2;cases h2
theorem tW.freeze(R:tW G F σ ρ H0 H)(hp:H p=some o)(h0:H0 p=none)(hb:F.B p=none)(ap:Apart σ ρ p):tW G F σ ρ (upd H0 p o) H where
 sub:=λb u e=>by
  by_cases hb:b=p
  ·subst hb;rw[tP]at e;cases e;exact hp
  ·rw[tR hb]at e;exact R.sub _ _ e
 g0:=R.g0.trans (tV h0 o)
 keep:=R.keep
 fr:=λb u e=>by
  by_cases hb':b=p
  ·subst hb';exact .inr hb
  ·rw[tR hb']at e;exact R.fr _ _ e
 am:=R.am
 len:=R.len
 sl:=λi s e=>(R.sl i s e).grow (tV h0 o) (λa u _ _ q=>q) λa u z so q q0=>by rw[tR (λy=>ap i s e so (by rw[z,y]))];exact q0
 ap:=R.ap
theorem Jp{σ:St}(hi:i<σ.length):((σ.set i v)[j]?).join=if j=i then v else (σ[j]?).join:=by
 rw[bX];by_cases h:i=j
 ·subst h;simp[hi]
 ·rw[ai h,ai (λz=>h z.symm)]
theorem tW.set(R:tW G F σ ρ H0 H)(hs:By G F H0 H (some v) s)(ap:s.own=true->∀a,v=.ref a->∀(j:Nat) (t:Sl),j≠i->ρ[j]?=some t->t.own=true->(σ[j]?).join≠some (.ref a)):
  tW G F (σ.set i (some v)) (ρ.set i s) H0 H where
 sub:=R.sub
 g0:=R.g0
 keep:=R.keep
 fr:=R.fr
 am:=R.am
 len:=by rw[fo,fo,R.len]
 sl:=λj t e=>by
  rw[bX]at e;by_cases h:i=j
  ·subst h;rw[ah rfl]at e;split at e
   ·rename_i hi;cases e;rw[Jp (by rw[R.len];exact hi),ah rfl];exact hs
   ·cases e
  ·rw[ai h]at e;have hh:=R.sl j t e;rw[bX,ai h];exact hh
 ap:=λj k t u a hjk ej ek tj tk vj vk=>by
  have gen:∀{m:Nat} {x:Sl},(ρ.set i s)[m]?=some x->m≠i->ρ[m]?=some x/\((σ.set i (some v))[m]?).join=(σ[m]?).join:=λ{m x} e hm=>by rw[bX,ai (λz=>hm z.symm)]at e;exact⟨e,by rw[bX,ai (λz=>hm z.symm)]⟩
  have self:∀{x:Sl},(ρ.set i s)[i]?=some x->x=s/\((σ.set i (some v))[i]?).join=some v:=λ{x} e=>by
   rw[bX,ah rfl]at e;split at e
   ·rename_i hi;cases e;exact⟨rfl,by rw[Jp (by rw[R.len];exact hi),ah rfl]⟩
   ·cases e
  by_cases hj:j=i
  ·subst hj;obtain⟨rfl,ev⟩:=self ej;rw[ev]at vj;cases vj;obtain⟨e2,e3⟩:=gen ek (λz=>hjk z.symm);rw[e3]at vk;exact ap tj a rfl k u (λz=>hjk z.symm) e2 tk vk
  ·obtain⟨e2,e3⟩:=gen ej hj;by_cases hk:k=i
   ·subst hk;obtain⟨rfl,ev⟩:=self ek;rw[ev]at vk;cases vk;rw[e3]at vj;exact ap tk a rfl j t hj e2 tj vj
   ·obtain⟨e4,e5⟩:=gen ek hk;rw[e3]at vj;rw[e5]at vk;exact R.ap j k t u a hjk e2 e4 tj tk vj vk
theorem tW.setIm(R:tW G F σ ρ H0 H)(i:Nat)(h:Rep G H0 d v):tW G F (σ.set i (some v)) (ρ.set i (.im d)) H0 H:=R.set ⟨v,rfl,h⟩ λz=>by cases z
theorem tW.setLs(R:tW G F σ ρ H0 H)(i:Nat)(hp:H p=some (.lst xs))(h0:H0 p=none)(hb:F.B p=none)(ap:Apart σ ρ p)(h:tL G H0 ds xs):tW G F (σ.set i (some (.ref p))) (ρ.set i (.ls ds)) H0 H:=
 R.set ⟨p,xs,rfl,hp,h0,hb,h⟩ λ_ a e j t _ ej tj=>by cases e;exact ap j t ej tj
theorem tW.mut(R:tW G F σ ρ H0 H)(hi:ρ[i]?=some s)(so:s.own=true)(ha:(σ[i]?).join=some (.ref a))(ok:∀H',H' a=some o->By G F H0 H' (some (.ref a)) s')
  (so':s'.own=true):tW G F σ (ρ.set i s') H0 (upd H a o):=by
 obtain⟨a',u,e1,e2,e3,e4⟩:=(R.sl i s hi).at so;rw[ha]at e1;cases e1;exact {
  sub:=λb w e=>by rw[tR (λz=>by rw[z,e3]at e;cases e)];exact R.sub _ _ e
  g0:=R.g0
  keep:=λb w e n=>by
   have nb:b≠a:=λz=>by
    subst z;rcases e4 with q|q
    ·rw[q]at e;cases e
    ·exact n q
   rw[tR nb];exact R.keep b w e n
  fr:=R.fr
  am:=λb hb=>by
   by_cases z:b=a
   ·subst z;exact⟨o,tP⟩
   ·rw[tR z];exact R.am b hb
  len:=by rw[fo];exact R.len
  sl:=λj t e=>by
   rw[bX]at e;by_cases h:i=j
   ·subst h;rw[ah rfl]at e;split at e
    ·cases e;rw[ha];exact ok _ tP
    ·cases e
   ·rw[ai h]at e;refine(R.sl j t e).grow (tT.refl _) (λb w z to q=>?_) λb w _ _ _ q=>q;rw[tR (λy=>by subst y;exact R.ap j i t s b (λy=>h y.symm) e hi to so z ha)];exact q
  ap:=λj k t u b hjk ej ek tj tk vj vk=>by
   have gen:∀{m:Nat} {x:Sl},(ρ.set i s')[m]?=some x->∃y,ρ[m]?=some y/\(x.own=true->y.own=true):=λ{m x} e=>by
    rw[bX]at e;by_cases h:i=m
    ·subst h;exact⟨s,hi,λ_=>so⟩
    ·rw[ai h]at e;exact⟨x,e,λq=>q⟩
   obtain⟨y,ey,oy⟩:=gen ej;obtain⟨z,ez,oz⟩:=gen ek;exact R.ap j k y z b hjk ey ez (oy tj) (oz tk) vj vk }
end
abbrev FE:=bb->Option (D×bb)
abbrev FT:=bb->Option (Bool×bb)
abbrev FA:=bb->Option (aS×bb)
def tF(G:Bg)(f:FE):TE:=λσ H Q=>∃F ρ H0 d ρ',tW G F σ ρ H0 H/\f ρ=some (d,ρ')/\∀v H0' H',tT H0 H0'->tW G F σ ρ' H0' H'->Rep G H0' d v->Q v H'
def tFT(G:Bg)(f:FT):TT:=λσ H Q=>∃F ρ H0 d ρ',tW G F σ ρ H0 H/\f ρ=some (d,ρ')/\∀H0' H',tT H0 H0'->tW G F σ ρ' H0' H'->Q d H'
def tFA(G:Bg)(f:FA):TA:=λσ H Q=>∃F ρ H0 ds ρ',tW G F σ ρ H0 H/\f ρ=some (ds,ρ')/\∀xs H0' H',tT H0 H0'->tW G F σ ρ' H0' H'->tL G H0' ds xs->Q xs H'
def tFN(G:Bg)(f:FA):TE:=λσ H Q=>∃F ρ H0 ds ρ',tW G F σ ρ H0 H/\f ρ=some (ds,ρ')/\∀p xs H0' H',tT H0 H0'->tW G F σ ρ' H0' H'->H' p=some (.lst xs)->H0' p=none->F.B p=none->Apart σ ρ' p->tL G H0' ds xs->Q (.ref p) H'
theorem PE.weak(h:PE X e t)(w:∀σ H Q,t' σ H Q->t σ H Q):PE X e t':=λwv s σ H Q I hq=>h wv s σ H Q I (w _ _ _ hq)
theorem PT.weak(h:PT X e t)(w:∀σ H Q,t' σ H Q->t σ H Q):PT X e t':=λwv s σ H Q I hq=>h wv s σ H Q I (w _ _ _ hq)
theorem PW.weak(h:PW X e t)(w:∀σ H Q,t' σ H Q->t σ H Q):PW X e t':=λwh wv s σ H Q I hq=>h wh wv s σ H Q I (w _ _ _ hq)
theorem PA.weak(h:PA X e t)(w:∀σ H Q,t' σ H Q->t σ H Q):PA X e t':=λpos wv s σ H Q I hq=>h pos wv s σ H Q I (w _ _ _ hq)
noncomputable def cC(d:D):FE:=λρ=>some (d,ρ)
noncomputable def cV(i:Nat):FE:=λρ=>match ρ[i]? with
 |some (.im d)=>some (d,ρ)
 |_=>none
noncomputable def c1(g:D->Option D) (f:FE):FE:=λρ=>match f ρ with
 |some (d,ρ')=>match g d with
  |some x=>some (x,ρ')
  |none=>none
 |none=>none
noncomputable def c2(g:D->D->Option D) (f f':FE):FE:=λρ=>match f ρ with
 |some (x,ρ1)=>match f' ρ1 with
  |some (y,ρ2)=>match g x y with
   |some z=>some (z,ρ2)
   |none=>none
  |none=>none
 |none=>none
theorem Ey(h:c1 g f ρ=some (z,ρ')):∃d,f ρ=some (d,ρ')/\g d=some z:=by
 unfold c1 at h;cases e:f ρ with
 |none=>rw[e]at h;cases h
 |some p=>
  obtain⟨d,ρ1⟩:=p;rw[e]at h;cases e2:g d with
  |none=>simp only[e2]at h;cases h
  |some x=>simp only[e2]at h;cases h;exact⟨d,rfl,e2⟩
theorem EA(h:c2 g f f' ρ=some (z,ρ')):∃x y ρ1,f ρ=some (x,ρ1)/\f' ρ1=some (y,ρ')/\g x y=some z:=by
 unfold c2 at h;cases e:f ρ with
 |none=>rw[e]at h;cases h
 |some p=>
  obtain⟨x,ρ1⟩:=p;simp only[e]at h;cases e2:f' ρ1 with
  |none=>simp only[e2]at h;cases h
  |some q=>
   obtain⟨y,ρ2⟩:=q;simp only[e2]at h;cases e3:g x y with
   |none=>simp only[e3]at h;cases h
   |some w=>simp only[e3]at h;cases h;exact⟨x,y,ρ1,rfl,e2,e3⟩
section
variable{X:Cx}{G:Bg}
theorem V3{i j pos}:PE X (.Constant (.int i) j pos) (tF G (cC (.int i))):=PE.weak Kx λσ H Q h=>by obtain⟨F,ρ,H0,d,ρ',R,e,k⟩:=h;cases e;exact k _ _ _ (tT.refl _) R (vW i)
theorem Z0{i j pos}:PE X (.Constant (.bool i) j pos) (tF G (cC (.bl i))):=PE.weak Zg λσ H Q h=>by obtain⟨F,ρ,H0,d,ρ',R,e,k⟩:=h;cases e;exact k _ _ _ (tT.refl _) R (wC i)
theorem V4{i j pos}:PE X (.Constant (.str i) j pos) (tF G (cC (.str i))):=PE.weak Og λσ H Q h=>by obtain⟨F,ρ,H0,d,ρ',R,e,k⟩:=h;cases e;exact k _ _ _ (tT.refl _) R (xW i)
theorem V5{j pos}:PE X (.Constant .none j pos) (tF G (cC .non)):=PE.weak Vj λσ H Q h=>by obtain⟨F,ρ,H0,d,ρ',R,e,k⟩:=h;cases e;exact k _ _ _ (tT.refl _) R zK
theorem Sg(h:cV i ρ=some (d,ρ')):ρ[i]?=some (.im d)/\ρ'=ρ:=by
 unfold cV at h;split at h
 ·rename_i e;cases h;exact⟨e,rfl⟩
 ·cases h
theorem v7{α:Type}{o:Option (Option α)}{v:α}(h:o.join=some v):o=some (some v):=by
 cases o with
 |none=>cases h
 |some u=>cases u with
  |none=>cases h
  |some w=>cases h;rfl
theorem KR(h:PE X e (zk i)):PE X e (tF G (cV i)):=PE.weak h λσ H Q hh=>by
 sleep 1
 obtain⟨e1,rfl⟩:=Sg e;obtain⟨v,e2,e3⟩:=R.sl i _ e1;exact⟨v,v7 e2,k _ _ _ (tT.refl _) R e3⟩
theorem Sh(h:PE X e (tC v))(r:∀H,Rep G H d v):PE X e (tF G (cC d)):=PE.weak h λσ H Q hh=>by obtain⟨F,ρ,H0,d',ρ',R,e,k⟩:=hh;cases e;exact k _ _ _ (tT.refl _) R (r _)
def OpD(G:Bg)(r:R2)(g:D->D->Option D):Prop:=∀x y z H0 H v u (Q:VK),g x y=some z->tT H0 H->Rep G H0 x v->Rep G H0 y u->(∀w,(∀H0',tT H0 H0'->Rep G H0' z w)->Q w H)->r v u H Q
theorem LR(ho:OpD G r g):∀σ H Q,tF G (c2 g f f') σ H Q->tOp r (tF G f) (tF G f') σ H Q:=λσ H Q hh=>by
 sleep 1
 obtain⟨x,y,ρ1,e1,e2,e3⟩:=EA e;refine⟨F,ρ,H0,x,ρ1,R,e1,λv H1 H1' s1 R1 r1=>⟨F,ρ1,H1,y,ρ',R1,e2,λu H2 H2' s2 R2 r2=>?_⟩⟩;exact ho x y d H2 H2' v u Q e3 R2.sub (Rep.mono s2 _ _ r1) r2 λw hw=>k w H2 H2' (s1.trans s2) R2 (hw _ (tT.refl _))
theorem Z1(hr:OpR X (cO op) r)(ho:OpD G r g)(ha:PE X a (tF G f))(hb:PE X b (tF G f')):PE X (.BinOp a op b pos) (tF G (c2 g f f')):=PE.weak (LG hr ha hb) (LR ho)
theorem V6(hr:OpR X (br op) r)(ho:OpD G r g)(ha:PE X a (tF G f))(hb:PE X b (tF G f'))(hm:fX op b=false):PE X (.Compare a [op] [b] pos) (tF G (c2 g f f')):=PE.weak (RM hr ha hb hm) (LR ho)
theorem Z2(hr:IxR X r)(ho:OpD G r g)(ha:PE X a (tF G f))(hb:PE X b (tF G f'))(hs:LP b):PE X (.Subscript a b pos) (tF G (c2 g f f')):=PE.weak (UN hr ha hb hs) (LR ho)
def cT(f:FE):FT:=λρ=>match f ρ with
 |some (.bl b,ρ')=>some (b,ρ')
 |_=>none
theorem LS(h:cT f ρ=some (b,ρ')):f ρ=some (.bl b,ρ'):=by
 unfold cT at h;split at h
 ·rename_i e;cases h;exact e
 ·cases h
theorem LU:∀σ H Q,tFT G (cT f) σ H Q->Ou (tF G f) σ H Q:=λσ H Q hh=>by
 sleep 1
 refine⟨F,ρ,H0,_,ρ',R,LS e,λv H0' H' s R' r=>?_⟩;unfold Rep at r;exact⟨d,r,k _ _ s R'⟩
theorem Si(hr:OpR X (br op) r)(ho:OpD G r g)(ha:PE X a (tF G f))(hb:PE X b (tF G f'))(hm:fX op b=false):
  PT X (.Compare a [op] [b] pos) (tFT G (cT (c2 g f f'))):=PT.weak (RN hr ha hb hm) λσ H Q hh=>by
 obtain⟨F,ρ,H0,d,ρ',R,e,k⟩:=LU σ H Q hh;exact LR ho σ H _ ⟨F,ρ,H0,d,ρ',R,e,k⟩
theorem Sj(h:PE X e (tF G f))(he:∀whole,isTrue e X.env whole=(do let v<-whole;standAt e.pos;holding [v] (truthy v)):=by intro _;rfl):PT X e (tFT G (cT f)):=PT.weak (Vk h he) λσ H Q hh=>by
 sleep 1
 refine⟨F,ρ,H0,_,ρ',R,LS e,λv H0' H' s R' r=>?_⟩;unfold Rep at r;exact⟨d,r,k _ _ s R'⟩
def yS(f:FT):FT:=λρ=>match f ρ with
 |some (b,ρ')=>some (!b,ρ')
 |none=>none
def xI(f g:FT):FT:=λρ=>match f ρ with
 |some (true,ρ')=>g ρ'
 |r=>r
def xX(f g:FT):FT:=λρ=>match f ρ with
 |some (false,ρ')=>g ρ'
 |r=>r
theorem Sk(h:PT X a (tFT G f)):PT X (.UnaryOp .Not a pos) (tFT G (yS f)):=PT.weak (Vn h) λσ H Q hh=>by
 sleep 1
 unfold yS at e;cases e1:f ρ with
 |none=>simp only[e1]at e;cases e
 |some p=>obtain⟨b,ρ1⟩:=p;simp only[e1]at e;cases e;exact⟨F,ρ,H0,b,_,R,e1,λH0' H' s R'=>k _ _ s R'⟩
theorem V7:∀σ H Q,tFT G (xI f g) σ H Q->Zh (tFT G f) (tFT G g) σ H Q:=λσ H Q hh=>by
 sleep 1
 unfold xI at e;cases e1:f ρ with
 |none=>simp only[e1]at e;cases e
 |some p=>
  obtain⟨b,ρ1⟩:=p;cases b with
  |true=>simp only[e1]at e;exact⟨F,ρ,H0,true,ρ1,R,e1,λH0' H' s R'=>HM ⟨F,ρ1,H0',d,ρ',R',e,λH2 H2' s2 R2=>k _ _ (s.trans s2) R2⟩⟩
  |false=>simp only[e1]at e;cases e;exact⟨F,ρ,H0,false,_,R,e1,λH0' H' s R'=>HL (k _ _ s R')⟩
theorem Z3:∀σ H Q,tFT G (xX f g) σ H Q->tOr (tFT G f) (tFT G g) σ H Q:=λσ H Q hh=>by
 sleep 1
 unfold xX at e;cases e1:f ρ with
 |none=>simp only[e1]at e;cases e
 |some p=>
  obtain⟨b,ρ1⟩:=p;cases b with
  |false=>simp only[e1]at e;exact⟨F,ρ,H0,false,ρ1,R,e1,λH0' H' s R'=>HL ⟨F,ρ1,H0',d,ρ',R',e,λH2 H2' s2 R2=>k _ _ (s.trans s2) R2⟩⟩
  |true=>simp only[e1]at e;cases e;exact⟨F,ρ,H0,true,_,R,e1,λH0' H' s R'=>HM (k _ _ s R')⟩
theorem OT(h:PT X a (tFT G f)):PW X (.BoolOp .And [a] pos) (tFT G f):=RD h
theorem Sm(h:PT X a (tFT G f)):PW X (.BoolOp .Or [a] pos) (tFT G f):=Vl h
theorem Sn{rest:List Expr}(ha:PT X a (tFT G f))(hb:PW X (.BoolOp .And (b::rest) pos) (tFT G g)):PW X (.BoolOp .And (a::b::rest) pos) (tFT G (xI f g)):=PW.weak (Vm ha hb) V7
theorem OU{rest:List Expr}(ha:PT X a (tFT G f))(hb:PW X (.BoolOp .Or (b::rest) pos) (tFT G g)):PW X (.BoolOp .Or (a::b::rest) pos) (tFT G (xX f g)):=PW.weak (Zi ha hb) Z3
def xx(f g:FE):FE:=λρ=>match f ρ with
 |some (.bl true,ρ')=>g ρ'
 |some (.bl false,ρ')=>some (.bl false,ρ')
 |_=>none
def cOr(f g:FE):FE:=λρ=>match f ρ with
 |some (.bl false,ρ')=>g ρ'
 |some (.bl true,ρ')=>some (.bl true,ρ')
 |_=>none
def HP(f:FE):FE:=λρ=>match f ρ with
 |some (.bl b,ρ')=>some (.bl !b,ρ')
 |_=>none
def cIf(c:FT)(f g:FE):FE:=λρ=>match c ρ with
 |some (true,ρ')=>f ρ'
 |some (false,ρ')=>g ρ'
 |none=>none
theorem V8{op}(h:PE X a (tF G f)):PE X (.BoolOp op [a] pos) (tF G f):=Vo h
theorem Jq{f:FE}{ρ:bb}:(∃ρ1,f ρ=some (.bl true,ρ1))\/(∃ρ1,f ρ=some (.bl false,ρ1))\/(∀b ρ1,f ρ≠some (.bl b,ρ1)):=by
 by_cases h1:∃ρ1,f ρ=some (.bl true,ρ1)
 ·exact .inl h1
 by_cases h2:∃ρ1,f ρ=some (.bl false,ρ1)
 ·exact .inr (.inl h2)
 refine .inr (.inr λb ρ1 z=>?_);cases b with
 |true=>exact h1 ⟨ρ1,z⟩
 |false=>exact h2 ⟨ρ1,z⟩
theorem Nt(h:∀b ρ1,f ρ≠some (.bl b,ρ1)):xx f g ρ=none:=by
 unfold xx;split
 ·rename_i e;exact aq e (h _ _)
 ·rename_i e;exact aq e (h _ _)
 ·rfl
theorem OV(h:∀b ρ1,f ρ≠some (.bl b,ρ1)):cOr f g ρ=none:=by
 unfold cOr;split
 ·rename_i e;exact aq e (h _ _)
 ·rename_i e;exact aq e (h _ _)
 ·rfl
theorem V9{rest:List Expr}(ha:PE X a (tF G f))(hb:PE X (.BoolOp .And (b::rest) pos) (tF G g)):PE X (.BoolOp .And (a::b::rest) pos) (tF G (xx f g)):=PE.weak (Vp ha hb) λσ H Q hh=>by
 sleep 1
 rcases Jq (f:=f) (ρ:=ρ)with ⟨ρ1,e1⟩|⟨ρ1,e1⟩|e1
 ·have e':g ρ1=some (d,ρ'):=by unfold xx at e;simp only[e1]at e;exact e
  refine⟨F,ρ,H0,_,ρ1,R,e1,λv H1 H1' s R' r=>?_⟩;unfold Rep at r;refine⟨true,r,?_⟩;exact HM ⟨F,ρ1,H1,d,ρ',R',e',λv H2 H2' s2 R2 r2=>k _ _ _ (s.trans s2) R2 r2⟩
 ·have e':some (D.bl false,ρ1)=some (d,ρ'):=by unfold xx at e;simp only[e1]at e;exact e
  cases e';refine⟨F,ρ,H0,_,_,R,e1,λv H1 H1' s R' r=>?_⟩;have r':=r;unfold Rep at r';refine⟨false,r',?_⟩;exact HL (k _ _ _ s R' (wC false))
 ·rw[Nt e1]at e;cases e
theorem Z4{rest:List Expr}(ha:PE X a (tF G f))(hb:PE X (.BoolOp .Or (b::rest) pos) (tF G g)):PE X (.BoolOp .Or (a::b::rest) pos) (tF G (cOr f g)):=PE.weak (Zl ha hb) λσ H Q hh=>by
 sleep 1
 rcases Jq (f:=f) (ρ:=ρ)with ⟨ρ1,e1⟩|⟨ρ1,e1⟩|e1
 ·have e':some (D.bl true,ρ1)=some (d,ρ'):=by unfold cOr at e;simp only[e1]at e;exact e
  cases e';refine⟨F,ρ,H0,_,_,R,e1,λv H1 H1' s R' r=>?_⟩;unfold Rep at r;refine⟨true,r,?_⟩;exact HM (k _ _ _ s R' (wC true))
 ·have e':g ρ1=some (d,ρ'):=by unfold cOr at e;simp only[e1]at e;exact e
  refine⟨F,ρ,H0,_,ρ1,R,e1,λv H1 H1' s R' r=>?_⟩;unfold Rep at r;refine⟨false,r,?_⟩;exact HL ⟨F,ρ1,H1,d,ρ',R',e',λv H2 H2' s2 R2 r2=>k _ _ _ (s.trans s2) R2 r2⟩
 ·rw[OV e1]at e;cases e
theorem Wa(ha:PE X a (tF G f)):PE X (.UnaryOp .Not a pos) (tF G (HP f)):=PE.weak (Vq ha) λσ H Q hh=>by
 sleep 1
 unfold HP at e;split at e
 ·rename_i b ρ1 e1;cases e;refine⟨F,ρ,H0,_,_,R,e1,λv H1 H1' s R' r=>?_⟩;unfold Rep at r;exact⟨b,r,k _ _ _ s R' (wC _)⟩
 ·cases e
theorem Z5(hc:PT X c (tFT G h))(ha:PE X a (tF G f))(hb:PE X b (tF G g)):PE X (.IfExp c a b pos) (tF G (cIf h f g)):=PE.weak (Oh hc ha hb) λσ H Q hh=>by
 sleep 1
 unfold cIf at e;cases e1:h ρ with
 |none=>simp only[e1]at e;cases e
 |some p=>
  obtain⟨b,ρ1⟩:=p;refine⟨F,ρ,H0,b,ρ1,R,e1,λH1 H1' s R'=>?_⟩;cases b with
  |true=>simp only[e1]at e;exact HM ⟨F,ρ1,H1,d,ρ',R',e,λv H2 H2' s2 R2 r2=>k _ _ _ (s.trans s2) R2 r2⟩
  |false=>simp only[e1]at e;exact HL ⟨F,ρ1,H1,d,ρ',R',e,λv H2 H2' s2 R2 r2=>k _ _ _ (s.trans s2) R2 r2⟩
noncomputable def tY:FA:=λρ=>some ([],ρ)
noncomputable def tD(f:FE) (g:FA):FA:=λρ=>match f ρ with
 |some (d,ρ1)=>match g ρ1 with
  |some (ds,ρ2)=>some (d::ds,ρ2)
  |none=>none
 |none=>none
theorem zL(h:tD f g ρ=some (ds,ρ')):∃d r ρ1,f ρ=some (d,ρ1)/\g ρ1=some (r,ρ')/\ds=d::r:=by
 unfold tD at h;cases e:f ρ with
 |none=>rw[e]at h;cases h
 |some p=>
  obtain⟨x,ρ1⟩:=p;simp only[e]at h;cases e2:g ρ1 with
  |none=>simp only[e2]at h;cases h
  |some q=>obtain⟨y,ρ2⟩:=q;simp only[e2]at h;cases h;exact⟨x,y,ρ1,rfl,e2,rfl⟩
theorem xY:PA X [] (tFA G tY):=PA.weak xP λσ H Q hh=>by
 sleep 1
 cases e;exact k _ _ _ (tT.refl _) R uj
theorem w9(ha:PE X e (tF G f))(hr:PA X es (tFA G g))(hs:aw (e::es) X.env=(false,eval e X.env)::aw es X.env:=by rfl):PA X (e::es) (tFA G (tD f g)):=PA.weak (u5 ha hr hs) λσ H Q hh=>by
 sleep 1
 obtain⟨x,r,ρ1,e1,e2,rfl⟩:=zL e;exact⟨F,ρ,H0,x,ρ1,R,e1,λv H1 H1' s R' rv=>⟨F,ρ1,H1,r,ρ',R',e2,λxs H2 H2' s2 R2 rs=>k _ _ _ (s.trans s2) R2 (uk (Rep.mono s2 _ _ rv) rs)⟩⟩
def uA(g:FA):FE:=λρ=>match g ρ with
 |some (ds,ρ')=>if ds.length<=1000 then some (.tup ds,ρ')else none
 |none=>none
def tZ(g:FA):FA:=λρ=>match g ρ with
 |some (ds,ρ')=>if ds.length<=1000 then some (ds,ρ')else none
 |none=>none
theorem Wb{x1}(h:PA X es (tFA G g)):PE X (.Tuple es x1 pos) (tF G (uA g)):=PE.weak (VI h) λσ H Q hh=>by
 sleep 1
 unfold uA at e;cases e1:g ρ with
 |none=>simp only[e1]at e;cases e
 |some p=>
  obtain⟨ds,ρ1⟩:=p;simp only[e1]at e;split at e
  ·rename_i hl;cases e;refine⟨F,ρ,H0,_,_,R,e1,λxs H1 H1' s R' rs=>⟨by rw[<-tN rs];exact xw hl,λp hp=>?_⟩⟩;exact k _ _ _ (s.trans (tV (R'.h0none hp) _)) (R'.newIm hp _) (yQ (SqT.of tP) (tL.mono (tV (R'.h0none hp) _) _ _ rs))
  ·cases e
theorem So(h:PA X es (tFA G g)):PE X (.List es pos) (tFN G (tZ g)):=PE.weak (Oz h) λσ H Q hh=>by
 sleep 1
 unfold tZ at e;cases e1:g ρ with
 |none=>simp only[e1]at e;cases e
 |some p=>
  obtain⟨ds,ρ1⟩:=p;simp only[e1]at e;split at e
  ·rename_i hl;cases e;refine⟨F,ρ,H0,_,_,R,e1,λxs H1 H1' s R' rs=>⟨by rw[<-tN rs];exact xw hl,λp hp=>?_⟩⟩;exact k _ _ _ _ s (R'.newOwn hp _) tP (R'.h0none hp) (R'.bNone hp) (R'.apart hp) rs
  ·cases e
def cL(g:FA):FE:=λρ=>match g ρ with
 |some (ds,ρ')=>some (.lst ds,ρ')
 |none=>none
theorem Sq(h:cL g ρ=some (d,ρ')):∃ds,g ρ=some (ds,ρ')/\d=.lst ds:=by
 unfold cL at h;cases e:g ρ with
 |none=>simp only[e]at h;cases h
 |some p=>obtain⟨ds,ρ1⟩:=p;simp only[e]at h;cases h;exact⟨ds,rfl,rfl⟩
theorem Z6:∀σ H Q,tF G (cL g) σ H Q->tFN G g σ H Q:=λσ H Q hh=>by
 sleep 1
 obtain⟨ds,e1,rfl⟩:=Sq e;refine⟨F,ρ,H0,ds,ρ',R,e1,λp xs H1 H1' s R' hp h0 hb ap rs=>?_⟩;exact k _ _ _ (s.trans (tV h0 _)) (R'.freeze hp h0 hb ap) (yR tP (tL.mono (tV h0 _) _ _ rs))
theorem Wc(h:PE X e (tFN G g)):PE X e (tF G (cL g)):=PE.weak h Z6
end
inductive Out where
 |nx (ρ:bb)|bk (ρ:bb)|ct (ρ:bb)
 |rt (d:D) (ρ:bb)
 |rn (ds:aS) (ρ:bb)
abbrev FS:=bb->Option Out
def LV(G:Bg)(F:Fr)(H0:Hp)(E:Ends):Out->Prop
 |.nx ρ'=>∀σ' H0' H',tT H0 H0'->tW G F σ' ρ' H0' H'->E.nx σ' H'
 |.bk ρ'=>∀σ' H0' H',tT H0 H0'->tW G F σ' ρ' H0' H'->E.bk σ' H'
 |.ct ρ'=>∀σ' H0' H',tT H0 H0'->tW G F σ' ρ' H0' H'->E.ct σ' H'
 |.rt d ρ'=>∀v σ' H0' H',tT H0 H0'->tW G F σ' ρ' H0' H'->Rep G H0' d v->E.rt v H'
 |.rn ds ρ'=>∀p xs σ' H0' H',tT H0 H0'->tW G F σ' ρ' H0' H'->H' p=some (.lst xs)->H0' p=none->F.B p=none->Apart σ' ρ' p->tL G H0' ds xs->E.rt (.ref p) H'
def tFS(G:Bg)(f:FS):TS:=λE σ H=>∃F ρ H0 o,tW G F σ ρ H0 H/\f ρ=some o/\LV G F H0 E o/\(∀p,E.rt p=E.rt p)
theorem LV.back(h:LV G F H0 E o)(s:tT H0 H1):LV G F H1 E o:=by
 cases o with
 |nx ρ=>exact λσ' H0' H' s' R=>h σ' H0' H' (s.trans s') R
 |bk ρ=>exact λσ' H0' H' s' R=>h σ' H0' H' (s.trans s') R
 |ct ρ=>exact λσ' H0' H' s' R=>h σ' H0' H' (s.trans s') R
 |rt d ρ=>exact λv σ' H0' H' s' R=>h v σ' H0' H' (s.trans s') R
 |rn ds ρ=>exact λp xs σ' H0' H' s' R=>h p xs σ' H0' H' (s.trans s') R
theorem PS.weak(h:PS X e t)(w:∀E σ H,t' E σ H->t E σ H):PS X e t':=λwv s σ H D I hq=>h wv s σ H D I (w _ _ _ hq)
theorem PSs.weak(h:PSs X e t)(w:∀E σ H,t' E σ H->t E σ H):PSs X e t':=λwv s σ H D I hq=>h wv s σ H D I (w _ _ _ hq)
def uc:FS:=λρ=>some (.nx ρ)
noncomputable def tI(f g:FS):FS:=λρ=>match f ρ with
 |some (.nx ρ')=>g ρ'
 |r=>r
section
variable{X:Cx}{G:Bg}
theorem Wd(h:tFS G uc E σ H):E.nx σ H:=by obtain⟨F,ρ,H0,o,R,e,k,_⟩:=h;cases e;exact k _ _ _ (tT.refl _) R
theorem Sr:PSs X [] (tFS G uc):=PSs.weak RE λE σ H h=>Wd h
theorem OW{st:Stmt}{rest:List Stmt}(h1:PS X st (tFS G f))(h2:PSs X rest (tFS G g)):PSs X (st::rest) (tFS G (tI f g)):=PSs.weak (EI h1 h2) λE σ H h=>by
 obtain⟨F,ρ,H0,o,R,e,k,k2⟩:=h;unfold tI at e;cases e1:f ρ with
 |none=>simp only[e1]at e;cases e
 |some o1=>
  cases o1 with
  |nx ρ1=>simp only[e1]at e;exact⟨F,ρ,H0,_,R,e1,λσ' H0' H' s R'=>⟨F,ρ1,H0',o,R',e,k.back s,k2⟩,k2⟩
  |bk ρ1=>simp only[e1]at e;cases e;exact⟨F,ρ,H0,_,R,e1,k,k2⟩
  |ct ρ1=>simp only[e1]at e;cases e;exact⟨F,ρ,H0,_,R,e1,k,k2⟩
  |rt d ρ1=>simp only[e1]at e;cases e;exact⟨F,ρ,H0,_,R,e1,k,k2⟩
  |rn d ρ1=>simp only[e1]at e;cases e;exact⟨F,ρ,H0,_,R,e1,k,k2⟩
theorem Ss{st:Stmt}(h1:PS X st (tFS G f)):PSs X [st] (tFS G f):=HA h1
noncomputable def ub(f:FE):FS:=λρ=>match f ρ with
 |some (d,ρ')=>some (.rt d ρ')
 |none=>none
noncomputable def uT(f:FA):FS:=λρ=>match f ρ with
 |some (d,ρ')=>some (.rn d ρ')
 |none=>none
theorem uf{α:Type}{f:bb->Option (α×bb)}{ρ:bb}:f ρ=none\/∃d ρ',f ρ=some (d,ρ'):=by
 cases e:f ρ with
 |none=>exact .inl rfl
 |some p=>exact .inr ⟨p.1,p.2,rfl⟩
theorem Su(h:PE X e (tF G f)):PS X (.Return (some e) pos) (tFS G (ub f)):=PS.weak (Kz h) λE σ H hh=>by
 obtain⟨F,ρ,H0,o,R,e,k,k2⟩:=hh;unfold ub at e;rcases uf (f:=f) (ρ:=ρ)with e1|⟨d,ρ',e1⟩<;>simp only[e1]at e
 ·cases e
 ·cases e;exact⟨F,ρ,H0,d,ρ',R,e1,λv H0' H' s R' r=>k _ _ _ _ s R' r⟩
theorem OX(h:PE X e (tFN G f)):PS X (.Return (some e) pos) (tFS G (uT f)):=PS.weak (Kz h) λE σ H hh=>by
 obtain⟨F,ρ,H0,o,R,e,k,k2⟩:=hh;unfold uT at e;rcases uf (f:=f) (ρ:=ρ)with e1|⟨d,ρ',e1⟩<;>simp only[e1]at e
 ·cases e
 ·cases e;exact⟨F,ρ,H0,d,ρ',R,e1,λp xs H0' H' s R' h1 h2 h3 h4 h5=>k _ _ _ _ _ s R' h1 h2 h3 h4 h5⟩
noncomputable def uu(f:FE):FS:=λρ=>match f ρ with
 |some (_,ρ')=>some (.nx ρ')
 |none=>none
theorem OY{pos:Pos}(h:PE X e (tF G f))(hs:dR e none pos.line X.env=pure false:=by rfl):PS X (.Expr e pos) (tFS G (uu f)):=PS.weak (LC h hs) λE σ H hh=>by
 obtain⟨F,ρ,H0,o,R,e,k,k2⟩:=hh;unfold uu at e;rcases uf (f:=f) (ρ:=ρ)with e1|⟨d,ρ',e1⟩<;>simp only[e1]at e
 ·cases e
 ·cases e;exact⟨F,ρ,H0,d,ρ',R,e1,λv H0' H' s R' r=>k _ _ _ s R'⟩
noncomputable def sIf(c:FT) (f g:FS):FS:=λρ=>match c ρ with
 |some (true,ρ')=>f ρ'
 |some (false,ρ')=>g ρ'
 |none=>none
theorem We(hc:PT X c (tFT G h))(ha:PSs X a (tFS G f))(hb:PSs X b (tFS G g)):PS X (.If c a b pos) (tFS G (sIf h f g)):=PS.weak (Zo hc ha hb) λE σ H hh=>by
 obtain⟨F,ρ,H0,o,R,e,k,k2⟩:=hh;unfold sIf at e;rcases uf (f:=h) (ρ:=ρ)with e1|⟨d,ρ',e1⟩
 ·simp only[e1]at e;cases e
 ·refine⟨F,ρ,H0,d,ρ',R,e1,λH0' H' s R'=>?_⟩;cases d with
  |true=>simp only[e1]at e;exact HM ⟨F,ρ',H0',o,R',e,k.back s,k2⟩
  |false=>simp only[e1]at e;exact HL ⟨F,ρ',H0',o,R',e,k.back s,k2⟩
abbrev FG:=D->bb->Option bb
def tFG(G:Bg)(n:Nat)(g:FG):TG:=λv σ H Q=>∃F ρ H0 d ρ',tW G F σ ρ H0 H/\Rep G H0 d v/\g d ρ=some ρ'/\∀σ',σ'.drop n=σ.drop n->tW G F σ' ρ' H0 H->Q σ' H
def OZ(G:Bg)(n:Nat)(g:aS->bb->Option bb):TGs:=λvs σ H Q=>∃F ρ H0 ds ρ',tW G F σ ρ H0 H/\tL G H0 ds vs/\g ds ρ=some ρ'/\∀σ',σ'.drop n=σ.drop n->tW G F σ' ρ' H0 H->Q σ' H
theorem PG.weak(h:PG X e t)(w:∀v σ H Q,t' v σ H Q->t v σ H Q):PG X e t':=λwv s σ H x u Q I r hq=>h wv s σ H x u Q I r (w _ _ _ _ hq)
theorem PGs.weak(h:PGs X e t)(w:∀v σ H Q,t' v σ H Q->t v σ H Q):PGs X e t':=λwv s σ H x u Q I r hq=>h wv s σ H x u Q I r (w _ _ _ _ hq)
def gN(i:Nat):FG:=λd ρ=>some (ρ.set i (.im d))
theorem Jr{α:Type}{l:List α}{i n:Nat}{x:α}(h:i<n):(l.set i x).drop n=l.drop n:=by apply kQ;intro j;rw[df,df,bX,ai (by omega)]
theorem O0(n:Nat)(h:PG X tg (yO i))(hi:i<n):PG X tg (tFG G n (gN i)):=PG.weak h λv σ H Q hh=>by obtain⟨F,ρ,H0,d,ρ',R,r,e,k⟩:=hh;cases e;exact k _ (Jr hi) (R.setIm i r)
def DA:aS->bb->Option bb:=λds ρ=>match ds with
 |[]=>some ρ
 |_=>none
def vH(g:FG)(gs:aS->bb->Option bb):aS->bb->Option bb:=λds ρ=>match ds with
 |d::r=>match g d ρ with
  |some ρ'=>gs r ρ'
  |none=>none
 |[]=>none
theorem Sv(h:PGs X [] Zp):PGs X [] (OZ G n DA):=PGs.weak h λv σ H Q hh=>by
 obtain⟨F,ρ,H0,ds,ρ',R,r,e,k⟩:=hh;cases ds with
 |nil=>cases e;unfold tL at r;exact⟨r,k _ rfl R⟩
 |cons d ds=>cases e
theorem O1(h:PGs X (e::es) (UJ (tFG G n g) (OZ G n gs))):PGs X (e::es) (OZ G n (vH g gs)):=PGs.weak h λv σ H Q hh=>by
 obtain⟨F,ρ,H0,ds,ρ',R,r,e,k⟩:=hh;cases ds with
 |nil=>cases e
 |cons d ds=>
  unfold tL at r;obtain⟨v1,r1,rfl,q1,q2⟩:=r;unfold vH at e;cases e1:g d ρ with
  |none=>simp only[e1]at e;cases e
  |some ρ1=>simp only[e1]at e;exact⟨v1,r1,rfl,F,ρ,H0,d,ρ1,R,q1,e1,λσ' s R'=>⟨F,ρ1,H0,ds,ρ',R',q2,e,λσ'' s' R''=>k _ (s'.trans s) R''⟩⟩
def gT(gs:aS->bb->Option bb)(n:Nat):FG:=λd ρ=>match d with
 |.tup ds=>if ds.length=n then gs ds ρ else none
 |_=>none
theorem Sw(h:PG X (.Tuple es k pos) (Vr G.K m (OZ G n gs))):PG X (.Tuple es k pos) (tFG G n (gT gs m)):=PG.weak h λv σ H Q hh=>by
 obtain⟨F,ρ,H0,d,ρ',R,r,e,k⟩:=hh;cases d with
 |tup ds=>
  unfold gT at e;simp only at e;split at e
  ·rename_i hl;unfold Rep at r;obtain⟨a,xs,rfl,h1,h2⟩:=r;exact⟨a,xs,rfl,SqT.mono R.sub h1,by rw[<-tN h2];exact hl,F,ρ,H0,ds,ρ',R,h2,e,k⟩
  ·cases e
 |_=>cases e
def HQ(f:FE)(g:FG):FS:=λρ=>match f ρ with
 |some (d,ρ')=>match g d ρ' with
  |some ρ2=>some (.nx ρ2)
  |none=>none
 |none=>none
theorem Sx{st:Stmt}(h:PS X st (BN (tF G f) (tFG G n g))):PS X st (tFS G (HQ f g)):=PS.weak h λE σ H hh=>by
 obtain⟨F,ρ,H0,o,R,e,k,k2⟩:=hh;unfold HQ at e;rcases uf (f:=f) (ρ:=ρ)with e1|⟨d,ρ',e1⟩<;>simp only[e1]at e
 ·cases e
 ·cases e2:g d ρ' with
  |none=>simp only[e2]at e;cases e
  |some ρ2=>simp only[e2]at e;cases e;exact⟨F,ρ,H0,d,ρ',R,e1,λv H0' H' s R' r=>⟨F,ρ',H0',d,ρ2,R',r,e2,λσ' _ R2=>k _ _ _ s R2⟩⟩
def um(i:Nat)(f:FE):FS:=λρ=>match f ρ with
 |some (d,ρ')=>some (.nx (ρ'.set i (.im d)))
 |none=>none
theorem LW{st:Stmt}(h:PS X st (BN (tF G f) (yO i))):PS X st (tFS G (um i f)):=PS.weak h λE σ H hh=>by
 obtain⟨F,ρ,H0,o,R,e,k,k2⟩:=hh;unfold um at e;rcases uf (f:=f) (ρ:=ρ)with e1|⟨d,ρ',e1⟩<;>simp only[e1]at e
 ·cases e
 ·cases e;exact⟨F,ρ,H0,d,ρ',R,e1,λv H0' H' s R' r=>k _ _ _ s (R'.setIm i r)⟩
def xa(i:Nat)(f:FA):FS:=λρ=>match f ρ with
 |some (d,ρ')=>some (.nx (ρ'.set i (.ls d)))
 |none=>none
theorem O2{st:Stmt}(h:PS X st (BN (tFN G f) (yO i))):PS X st (tFS G (xa i f)):=PS.weak h λE σ H hh=>by
 obtain⟨F,ρ,H0,o,R,e,k,k2⟩:=hh;unfold xa at e;rcases uf (f:=f) (ρ:=ρ)with e1|⟨d,ρ',e1⟩<;>simp only[e1]at e
 ·cases e
 ·cases e;exact⟨F,ρ,H0,d,ρ',R,e1,λp xs H0' H' s R' h1 h2 h3 h4 h5=>k _ _ _ s (R'.setLs i h1 h2 h3 h4 h5)⟩
def stE(n:Nat)(ds:aS):bb:=ds.map Sl.im++fw (n - ds.length) .un
def fnD(np n:Nat)(f:FS):aS->Option D:=λds=>if ds.length=np then match f (stE n ds)with
 |some (.rt d _)=>some d
 |some (.rn ds _)=>some (.lst ds)
 |some (.nx _)=>some .non
 |_=>none
 else none
def fnN(np n:Nat)(f:FS):aS->Option aS:=λds=>if ds.length=np then match f (stE n ds)with
 |some (.rn ds _)=>some ds
 |_=>none
 else none
def spF(G:Bg)(g:aS->Option D):Sp:=λvs H Q _=>∃H0 ds d,tT H0 H/\tL G H0 ds vs/\g ds=some d/\
 ∀v H0' H',tT H0 H0'->tT H0' H'->tT H H'->(∀b o,H0' b=some o->H0 b=some o\/H b=none)->Rep G H0' d v->Q v H'
def spN(G:Bg)(g:aS->Option aS):Sp:=λvs H Q _=>∃H0 ds d,tT H0 H/\tL G H0 ds vs/\g ds=some d/\
 ∀p xs H0' H',tT H0 H0'->tT H0' H'->tT H H'->(∀b o,H0' b=some o->H0 b=some o\/H b=none)->H p=none->H' p=some (.lst xs)->H0' p=none->tL G H0' d xs->Q (.ref p) H'
theorem EB{n:Nat}{ds:aS}{i:Nat}{s:Sl}(h:(stE n ds)[i]?=some s):s=.un\/∃d,ds[i]?=some d/\s=.im d:=by
 unfold stE at h;by_cases hi:i<ds.length
 ·rw[cH (by simpa using hi),bc,aJ hi]at h;cases h;exact .inr ⟨_,aJ hi,rfl⟩
 ·rw[cG (by simpa using hi),gE]at h;split at h
  ·cases h;exact .inl rfl
  ·cases h
theorem wq{N:aD}{vs:bG}{i:Nat}{v:V}(h:vs[i]?=some v):((L2.start N vs)[i]?).join=some v:=by unfold L2.start;have hi:=(bO.mp h).1;rw[cH (by simpa using hi),bc,h];rfl
theorem GQ{N:aD}(s:tT H0 H)(r:tL G H0 ds vs)(hl:vs.length<=N.length):tW G ⟨H0,H,[]⟩ (L2.start N vs) (stE N.length ds) H0 H where
 sub:=s
 g0:=tT.refl _
 keep:=λb o e _=>e
 fr:=λb o e=>.inl e
 am:=λa h=>by cases h
 len:=by unfold L2.start stE;rw[aB,aB,af,af,cz,cz,tN r]
 sl:=λi t e=>by
  rcases EB e with rfl|⟨d,e1,rfl⟩
  ·trivial
  ·obtain⟨v,e2,e3⟩:=v5 r e1;exact⟨v,wq e2,e3⟩
 ap:=λi j t u a _ e _ ht=>by rcases EB e with rfl|⟨d,_,rfl⟩<;>cases ht
theorem Js(h:fnD np n f ds=some d):ds.length=np/\((∃ρ,f (stE n ds)=some (.rt d ρ))\/(∃xs ρ,f (stE n ds)=some (.rn xs ρ)/\d=.lst xs)\/∃ρ,f (stE n ds)=some (.nx ρ)/\d=.non):=by
 unfold fnD at h;split at h
 ·rename_i hl;refine⟨hl,?_⟩;split at h
  ·rename_i e;cases h;exact .inl ⟨_,e⟩
  ·rename_i e;cases h;exact .inr (.inl ⟨_,_,e,rfl⟩)
  ·rename_i e;cases h;exact .inr (.inr ⟨_,e,rfl⟩)
  ·cases h
 ·cases h
theorem Jt(h:fnN np n f ds=some xs):ds.length=np/\∃ρ,f (stE n ds)=some (.rn xs ρ):=by
 unfold fnN at h;split at h
 ·rename_i hl;refine⟨hl,?_⟩;split at h
  ·rename_i e;cases h;exact⟨_,e⟩
  ·cases h
 ·cases h
end
theorem Sy{N:aD}(hN:np<=N.length)(h:spF G (fnD np N.length f) vs H Q E):tFS G f { nx:=λ_ H'=>Q .non H',rt:=Q } (L2.start N vs) H:=by
 obtain⟨H0,ds,d,s,r,e,k⟩:=h;obtain⟨hl,e'⟩:=Js e;clear e;have R:=GQ (N:=N) s r (by rw[<-tN r,hl];exact hN);have fin:∀{σ':St} {ρ':bb} {H0' H':Hp},tW G ⟨H0,H,[]⟩ σ' ρ' H0' H'->tT H H'/\tT H0' H'/\∀b o,H0' b=some o->H0 b=some o\/H b=none:=λR'=>⟨λb o e=>R'.keep b o e (by simp),R'.sub,R'.fr⟩;rcases e' with ⟨ρ,e⟩|⟨xs,ρ,e,rfl⟩|⟨ρ,e,rfl⟩
 ·refine⟨_,_,H0,_,R,e,λv σ' H0' H' s' R' rv=>?_,λ_=>rfl⟩;obtain⟨h1,h2,h3⟩:=fin R';exact k v H0' H' s' h2 h1 h3 rv
 ·refine⟨_,_,H0,_,R,e,λp ys σ' H0' H' s' R' hp h0 hb ap rs=>?_,λ_=>rfl⟩;have R2:=R'.freeze hp h0 hb ap;obtain⟨h1,h2,h3⟩:=fin R2;exact k _ _ H' (s'.trans (tV h0 _)) h2 h1 h3 (yR tP (tL.mono (tV h0 _) _ _ rs))
 ·refine⟨_,_,H0,_,R,e,λσ' H0' H' s' R'=>?_,λ_=>rfl⟩;obtain⟨h1,h2,h3⟩:=fin R';exact k _ H0' H' s' h2 h1 h3 zK
theorem SA{N:aD}(hN:np<=N.length)(h:spN G (fnN np N.length f) vs H Q E):tFS G f { nx:=λ_ H'=>Q .non H',rt:=Q } (L2.start N vs) H:=by obtain⟨H0,ds,d,s,r,e,k⟩:=h;obtain⟨hl,ρ,e⟩:=Jt e;have R:=GQ (N:=N) s r (by rw[<-tN r,hl];exact hN);refine⟨_,_,H0,_,R,e,λp ys σ' H0' H' s' R' hp h0 hb ap rs=>?_,λ_=>rfl⟩;exact k p ys H0' H' s' R'.sub (λb o e=>R'.keep b o e (by simp)) R'.fr hb hp h0 rs
theorem Z7(hg:∀ds d,g ds=some d->ds.length=np):∀vs H Q E,spF G g vs H Q E->vs.length=np:=λvs H Q E h=>by obtain⟨H0,ds,d,_,r,e,_⟩:=h;rw[<-tN r];exact hg _ _ e
theorem Z8(hg:∀ds d,g ds=some d->ds.length=np):∀vs H Q E,spN G g vs H Q E->vs.length=np:=λvs H Q E h=>by obtain⟨H0,ds,d,_,r,e,_⟩:=h;rw[<-tN r];exact hg _ _ e
theorem SC:∀ds d,fnD np n f ds=some d->ds.length=np:=λ_ _ h=>(Js h).1
theorem SD:∀ds d,fnN np n f ds=some d->ds.length=np:=λ_ _ h=>(Jt h).1
def CW{α:Type}(g:aS->Option α)(a:FA):bb->Option (α×bb):=λρ=>match a ρ with
 |some (ds,ρ')=>match g ds with
  |some d=>some (d,ρ')
  |none=>none
 |none=>none
abbrev tJ(g:aS->Option D)(a:FA):FE:=CW g a
abbrev uF(g:aS->Option aS)(a:FA):FA:=CW g a
theorem BA{α:Type}{g:aS->Option α}{a:FA}{ρ ρ':bb}{d:α}(h:CW g a ρ=some (d,ρ')):∃ds,a ρ=some (ds,ρ')/\g ds=some d:=by
 unfold CW at h;rcases uf (f:=a) (ρ:=ρ)with e1|⟨ds,ρ1,e1⟩<;>simp only[e1]at h
 ·cases h
 ·cases e2:g ds with
  |none=>simp only[e2]at h;cases h
  |some x=>simp only[e2]at h;cases h;exact⟨ds,e1,e2⟩
section
variable{X:Cx}{G:Bg}
theorem SE(hd:∀H,tL G H dds dvs):∀σ H Q,tF G (tJ (λds=>g (ds++dds)) a) σ H Q->Av (spF G g) dvs E (tFA G a) σ H Q:=λσ H Q hh=>by
 sleep 1
 obtain⟨ds,e1,e2⟩:=BA e;refine⟨F,ρ,H0,ds,ρ',R,e1,λxs H1 H1' s R' rs=>⟨H1,ds++dds,d,R'.sub,vt rs (hd _),e2,λv H2 H2' s1 s2 s3 fr rv=>?_⟩⟩;exact k v H2 H2' (s.trans s1) (R'.grow s3 s1 s2 fr) rv
theorem SF(hd:∀H,tL G H dds dvs):∀σ H Q,tFN G (uF (λds=>g (ds++dds)) a) σ H Q->Av (spN G g) dvs E (tFA G a) σ H Q:=λσ H Q hh=>by
 sleep 1
 obtain⟨ds,e1,e2⟩:=BA e;refine⟨F,ρ,H0,ds,ρ',R,e1,λxs H1 H1' s R' rs=>⟨H1,ds++dds,d,R'.sub,vt rs (hd _),e2,λp ys H2 H2' s1 s2 s3 fr hn hp h0 rv=>?_⟩⟩;exact k p ys H2 H2' (s.trans s1) (R'.grow s3 s1 s2 fr) hp h0 (R'.bNone hn) (R'.apart hn) rv
end
section
variable{X:Cx}{G:Bg}
theorem SG(hd:∀H,tL G H dds dvs)(h:PE X e (Av (spF G g) dvs E (tFA G a))):PE X e (tF G (tJ (λds=>g (ds++dds)) a)):=PE.weak h (SE hd)
theorem O3(hd:∀H,tL G H dds dvs)(h:PE X e (Av (spN G g) dvs E (tFA G a))):PE X e (tFN G (uF (λds=>g (ds++dds)) a)):=PE.weak h (SF hd)
theorem Nu(h:PE X e (Av (spN G g) [] E Jb)):PE X e (tFN G (uF g tY)):=PE.weak h λσ H Q hh=>by
 sleep 1
 obtain⟨ds,e1,e2⟩:=BA e;cases e1;exact⟨H0,[],d,R.sub,uj,e2,λp ys H2 H2' s1 s2 s3 fr hn hp h0 rv=>k p ys H2 H2' s1 (R.grow s3 s1 s2 fr) hp h0 (R.bNone hn) (R.apart hn) rv⟩
def Nv:aD->aS->Str->Option D
 |n::ns,d::ds,f=>if n=f then some d else Nv ns ds f
 |_,_,_=>none
theorem GR:∀{ns:aD} {ds:aS} {xs:bG} {f:Str} {d:D},tL G H ds xs->Nv ns ds f=some d->∃v,(ns.zip xs).lookup f=some v/\Rep G H d v
 |[],ds,xs,f,d,r,e=>by simp[Nv]at e
 |n::ns,[],xs,f,d,r,e=>by simp[Nv]at e
 |n::ns,d'::ds,xs,f,d,r,e=>by
  unfold tL at r;obtain⟨v,q,rfl,h1,h2⟩:=r;unfold Nv at e;by_cases hn:n=f
  ·rw[ah hn]at e;cases e;subst hn;exact⟨v,by simp[dr],h1⟩
  ·rw[ai hn]at e;obtain⟨w,e1,e2⟩:=GR h2 e;refine⟨w,?_,e2⟩;have hb:(f==n)=false:=beq_eq_false_iff_ne.mpr λz=>hn z.symm;simp only[eV,dr,hb];exact e1
def uh(ok:Nat->Bool)(f:Str):D->Option D
 |.obj c ns ds=>if ok c=true then Nv ns ds f else none
 |_=>none
theorem O4(he:PE X e (tF G ff))(hc:∀c,ok c=true->Cls X.K (G.ca c)/\yt X.K (G.ca c) f)(hb:fz e f X.env (eval e X.env)=eval e X.env:=by rfl):PE X (.Attribute e f pos) (tF G (c1 (uh ok f) ff)):=PE.weak (VG he hb) λσ H Q hh=>by
 sleep 1
 obtain⟨x,e1,e2⟩:=Ey e;cases x with
 |obj c ns ds=>
  unfold uh at e2;simp only at e2;split at e2
  ·rename_i hk;refine⟨F,ρ,H0,_,ρ',R,e1,λv H1 H1' s R' r=>?_⟩;unfold Rep at r;obtain⟨a,dx,xs,rfl,h1,h2,h3⟩:=r;obtain⟨w,l1,l2⟩:=GR h3 e2;exact⟨a,_,dx,_,w,rfl,R'.sub _ _ h1,(hc c hk).1,(hc c hk).2,l1,k _ _ _ s R' l2⟩
  ·cases e2
 |_=>cases e2
def MOk(X:Cx)(C:Addr)(m:Str)(sp:Sp)(dvs:bG)(E:XK):Prop:=∃(k:Nat) (f:Addr) (fd:cg) (ps:aD) (ds:List aa),Cls X.K C/\Meth X.K C m f/\wY X.prog X.w X.K X.mg X.base CX0 k f fd ps sp/\u9 k X.A/\Binds X.K fd ps ds/\Vals dvs ds/\Passes CX0 X E
def uJ(g:Nat->Option (aS->Option D))(m:Str)(f:FE)(a:FA):FE:=λρ=>match f ρ with
 |some (.obj c ns ds,ρ1)=>match g c with
  |some h=>if ns.contains m=true then none else match a ρ1 with
   |some (es,ρ2)=>match h (.obj c ns ds::es)with
    |some d=>some (d,ρ2)
    |none=>none
   |none=>none
  |none=>none
 |_=>none
theorem E4(h:uJ g m f a ρ=some (d,ρ')):
  ∃c ns ds ρ1 hh es,f ρ=some (.obj c ns ds,ρ1)/\g c=some hh/\ns.contains m=false/\a ρ1=some (es,ρ')/\hh (.obj c ns ds::es)=some d:=by
 unfold uJ at h;split at h
 ·rename_i c ns ds ρ1 e1;cases e2:g c with
  |none=>simp only[e2]at h;cases h
  |some hh=>
   simp only[e2]at h;cases e3:ns.contains m with
   |true=>simp only[e3,if_true]at h;cases h
   |false=>
    simp only[e3,gK,if_false]at h;rcases uf (f:=a) (ρ:=ρ1)with e4|⟨es,ρ2,e4⟩<;>simp only[e4]at h
    ·cases h
    ·cases e5:hh (.obj c ns ds::es)with
     |none=>simp only[e5]at h;cases h
     |some x=>simp only[e5]at h;cases h;exact⟨c,ns,ds,ρ1,hh,es,e1,e2,e3,e4,e5⟩
 ·cases h
theorem BB:∀{ns:aD} {xs:bG},ns.contains m=false->(ns.zip xs).lookup m=none
 |[],xs,h=>rfl
 |n::ns,[],h=>rfl
 |n::ns,x::xs,h=>by rw[om,kA]at h;simp only[eV,dr,h.1];exact BB h.2
theorem O5(T:Addr->Sp->Prop)(hT:∀C sp,T C sp->MOk X C m sp dvs E)(he:PE X o ta)(ha:PA X (e::es) t)
  (hst:aw (e::es) X.env=(false,eval e X.env)::aw es X.env:=by rfl) (hpl:(bt pos (aw es X.env)).any (·.1)=false:=by rfl)
  (ht:eval (.Call (.Attribute o m apos) (e::es) [] pos) X.env=(do
   let ov<-eval o X.env
   standAt apos.atName
   let (f,first)<-holding [ov] (getMethod ov m pl)
   callWith pos f first (bt pos (aw (e::es) X.env)) (backToKw pos (dO [] X.env))):=by rfl):
  PE X (.Call (.Attribute o m apos) (e::es) [] pos) (λσ H Q=>ta σ H λx H1=>∃a C dx fs sp,x=.ref a/\H1 a=some (.ins C dx fs)/\T C sp/\fs.lookup m=none/\t σ H1 λvs H2=>sp (x::(vs++dvs)) H2 Q E):=by
 intro wv s σ H Q I h;refine o5 (pl:=pl) (thn (he wv s σ H _ I h) λu s1 zz=>?_) ht;obtain⟨x,H1,I1,rx,a,C,dx,fs,sp,ex,ea,ht,l,q⟩:=zz;obtain⟨k,f,fd,ps,ds,c,hm,F,hr,hb,hd,hx⟩:=hT C sp ht;subst ex;obtain rfl:u=Value.ref a:=rx;refine EL I1 ea c hm l ?_;refine lY (first:=[.ref a]) (h₀:=X.base) I.ok.mod.kin hm.kp (thn (ha pos wv s1 σ H1 _ I1 q) λus s2 ⟨vs,H2,I2,r,q2⟩=>⟨I2.kIn,?_⟩) hst hpl;exact HB (us:=.ref a::us) (vs:=.ref a::vs) F hr hb hd hx I2 (.cons rfl r) q2
theorem Nw(T:Addr->Sp->Prop)(hT:∀C sp,T C sp->MOk X C m sp dvs E)(he:PE X o ta)
  (ht:eval (.Call (.Attribute o m apos) [] [] pos) X.env=(do
   let ov<-eval o X.env
   standAt apos.atName
   let (f,first)<-holding [ov] (getMethod ov m pl)
   callWith pos f first (bt pos (aw [] X.env)) (backToKw pos (dO [] X.env))):=by rfl):
  PE X (.Call (.Attribute o m apos) [] [] pos) (λσ H Q=>ta σ H λx H1=>∃a C dx fs sp,x=.ref a/\H1 a=some (.ins C dx fs)/\T C sp/\fs.lookup m=none/\sp (x::dvs) H1 Q E):=by
 intro wv s σ H Q I h;refine o5 (pl:=pl) (thn (he wv s σ H _ I h) λu s1 zz=>?_) ht;obtain⟨x,H1,I1,rx,a,C,dx,fs,sp,ex,ea,ht,l,q⟩:=zz;obtain⟨k,f,fd,ps,ds,c,hm,F,hr,hb,hd,hx⟩:=hT C sp ht;subst ex;obtain rfl:u=Value.ref a:=rx;refine EL I1 ea c hm l ?_;exact lL (first:=[.ref a]) I1.kIn hm.kp (HB (us:=[.ref a]) (vs:=[.ref a]) F hr hb hd hx I1 (.cons rfl .nil) q)
def MT(G:Bg)(g:Nat->Option (aS->Option D)):Addr->Sp->Prop:=λC sp=>∃c h,g c=some h/\C=G.ca c/\sp=spF G h
theorem SH(h:PE X (.Call (.Attribute o m apos) (e::es) [] pos) (λσ H Q=>tF G f σ H λx H1=>∃a' C dx fs sp,x=.ref a'/\H1 a'=some (.ins C dx fs)/\MT G g C sp/\fs.lookup m=none/\tFA G a σ H1 λvs H2=>sp (x::(vs++[])) H2 Q E)):
  PE X (.Call (.Attribute o m apos) (e::es) [] pos) (tF G (uJ g m f a)):=PE.weak h λσ H Q hh=>by
 sleep 1
 obtain⟨c,ns,ds,ρ1,hh,es',e1,e2,e3,e4,e5⟩:=E4 e;refine⟨F,ρ,H0,_,ρ1,R,e1,λv H1 H1' s R' r=>?_⟩;have r0:=r;unfold Rep at r;obtain⟨a',dx,xs,rfl,h1,h2,h3⟩:=r;refine⟨a',_,dx,_,_,rfl,R'.sub _ _ h1,⟨c,hh,e2,rfl,rfl⟩,BB e3,F,ρ1,H1,es',ρ',R',e4,λys H2 H2' s2 R2 rs=>?_⟩;show spF G hh (V.ref a'::(ys++[])) H2' Q E;rw[bq];exact⟨H2,_,d,R2.sub,uk (Rep.mono s2 _ _ r0) rs,e5,λv H3 H3' t1 t2 t3 fr rv=>k v H3 H3' (s.trans (s2.trans t1)) (R2.grow t3 t1 t2 fr) rv⟩
theorem O6(h:PE X (.Call (.Attribute o m apos) [] [] pos) (λσ H Q=>tF G f σ H λx H1=>∃a' C dx fs sp,x=.ref a'/\H1 a'=some (.ins C dx fs)/\MT G g C sp/\fs.lookup m=none/\sp (x::[]) H1 Q E)):
  PE X (.Call (.Attribute o m apos) [] [] pos) (tF G (uJ g m f tY)):=PE.weak h λσ H Q hh=>by
 sleep 1
 obtain⟨c,ns,ds,ρ1,hh,es',e1,e2,e3,e4,e5⟩:=E4 e;cases e4;refine⟨F,ρ,H0,_,_,R,e1,λv H1 H1' s R' r=>?_⟩;have r0:=r;unfold Rep at r;obtain⟨a',dx,xs,rfl,h1,h2,h3⟩:=r;refine⟨a',_,dx,_,_,rfl,R'.sub _ _ h1,⟨c,hh,e2,rfl,rfl⟩,BB e3,?_⟩;exact⟨H1,_,d,R'.sub,uk r0 uj,e5,λv H3 H3' t1 t2 t3 fr rv=>k v H3 H3' (s.trans t1) (R'.grow t3 t1 t2 fr) rv⟩
def spI(G:Bg)(c:Nat)(g:aS->Option (aD×aS)):Sp:=λvs H Q _=>∃(p dx:Addr) (us:bG) (H0:Hp) (ds:aS) (ns:aD) (es:aS),vs=.ref p::us/\H p=some (.ins (G.ca c) dx [])/\H0 p=none/\tT H0 H/\tL G H0 ds us/\g ds=some (ns,es)/\
 ∀ys dx' H0' H',tT H0 H0'->tT H0' H'->(∀b o,H b=some o->b≠p->H' b=some o)->(∀b o,H0' b=some o->H0 b=some o\/H b=none)->H0' p=none->H' p=some (.ins (G.ca c) dx' (ns.zip ys))->ns.length=ys.length->tL G H0' es ys->Q .non H'
def uv(c:Nat)(g:aS->Option (aD×aS))(a:FA):FE:=λρ=>match a ρ with
 |some (ds,ρ')=>match g ds with
  |some (ns,es)=>some (.obj c ns es,ρ')
  |none=>none
 |none=>none
theorem SI(hd:∀H,tL G H dds dvs)(h:PE X e (UL (G.ca c) (spI G c g) dvs E (tFA G a))):PE X e (tF G (uv c (λds=>g (ds++dds)) a)):=PE.weak h λσ H Q hh=>by
 sleep 1
 unfold uv at e;rcases uf (f:=a) (ρ:=ρ)with e1|⟨ds,ρ1,e1⟩<;>simp only[e1]at e
 ·cases e
 ·cases e2:g (ds++dds)with
  |none=>simp only[e2]at e;cases e
  |some q=>
   obtain⟨ns,es⟩:=q;simp only[e2]at e;cases e;refine⟨F,ρ,H0,ds,ρ',R,e1,λxs H1 H1' s R' rs x dx hx hdx ne=>?_⟩;have hx2:(upd H1' dx (.own x)) x=none:=by rw[tR (λz=>ne z.symm)];exact hx
   have sx:tT H1' (upd (upd H1' dx (.own x)) x (.ins (G.ca c) dx [])):=(tV hdx _).trans (tV hx2 _);refine⟨x,dx,_,H1,ds++dds,ns,es,rfl,tP,R'.h0none hx,R'.sub.trans sx,vt rs (hd _),e2,λys dx' H2 H2' t1 t2 t3 fr h0 hp hl ry=>⟨rfl,?_⟩⟩;have t4:tT H1' H2':=λb o e=>t3 b o (sx b o e) (v3 e hx);have fr1:∀b o,H2 b=some o->H1 b=some o\/H1' b=none:=λb o e=>by
    rcases fr b o e with q|q
    ·exact .inl q
    ·cases z:H1' b with
     |none=>exact .inr rfl
     |some u=>rw[sx b u z]at q;cases q
   have R2:=R'.grow t4 t1 t2 fr1;have hb:F.B x=none:=R'.bNone hx;have R3:=R2.freeze hp h0 hb (λi t ei to z=>R'.apart hx i t ei to z);refine k _ _ _ (s.trans (t1.trans (tV h0 _))) R3 ?_;unfold Rep;exact⟨x,dx',ys,rfl,tP,hl,tL.mono (tV h0 _) _ _ ry⟩
def uz(c0:Nat)(i:Nat)(f:Str)(ff:FE):FS:=λρ=>match ff ρ with
 |some (d,ρ1)=>match ρ1[i]? with
  |some (.ob c ns ds)=>if c=c0 then if ns.contains f=true then none else if ds.length=ns.length then if ns.length<900 then some (.nx (ρ1.set i (.ob c (ns++[f]) (ds++[d]))))else none else none else none
  |_=>none
 |none=>none
theorem Ju:∀{ns:aD} {xs:bG},ns.contains f=false->ns.length=xs.length->zl f v (ns.zip xs)=(ns++[f]).zip (xs++[v])
 |[],[],h,l=>rfl
 |[],x::xs,h,l=>by cases l
 |n::ns,[],h,l=>by cases l
 |n::ns,x::xs,h,l=>by
  rw[om,kA]at h;have hn:¬n=f:=λz=>by rw[z]at h;simp at h
  have ih:=Ju (f:=f) (v:=v) (ns:=ns) (xs:=xs) h.2 (by simpa using l);show zl f v ((n,x)::ns.zip xs)=_;rw[show zl f v ((n,x)::ns.zip xs)=(if n=f then (n,v)::ns.zip xs else (n,x)::zl f v (ns.zip xs)) from rfl,ai hn,ih];rfl
theorem SJ{st:Stmt}(h:PS X st (Zy X.K (zk i) (tF G ff) f))(hc:Cls X.K (G.ca c0)/\yt X.K (G.ca c0) f):PS X st (tFS G (uz c0 i f ff)):=PS.weak h λE σ H hh=>by
 obtain⟨F,ρ,H0,o,R,e,k,k2⟩:=hh;unfold uz at e;rcases uf (f:=ff) (ρ:=ρ)with e1|⟨d,ρ1,e1⟩<;>simp only[e1]at e
 ·cases e
 ·split at e
  ·rename_i c ns ds e2;split at e
   ·rename_i hcc;subst hcc;split at e
    ·cases e
    rename_i hnc;split at e
    ·rename_i hl;split at e
     ·rename_i h9;cases e;refine⟨F,ρ,H0,d,ρ1,R,e1,λv H1 H1' s R' r=>?_⟩;obtain⟨a,dx,xs,e3,e4,e5,e6,e7,e8⟩:=R'.sl i _ e2;refine⟨_,v7 e3,a,_,dx,_,rfl,e4,hc.1,hc.2,by rw[gW];omega,?_⟩;have hnf:ns.contains f=false:=by simpa using hnc
      rw[Ju hnf e7];refine k _ _ _ s (R'.mut e2 rfl e3 (λH' hH=>?_) rfl);exact⟨a,dx,xs++[v],rfl,hH,e5,e6,by rw[aB,aB,e7];rfl,vt e8 (uk r uj)⟩
     ·cases e
    ·cases e
   ·cases e
  ·cases e
def stI(c n:Nat)(ds:aS):bb:=.ob c [] []::stE (n - 1) ds
def fnI(c np n:Nat)(f:FS):aS->Option (aD×aS):=λds=>if ds.length=np then match f (stI c n ds)with
 |some (.nx ρ)=>match (ρ:bb)[0]? with
  |some (Sl.ob c' ns es)=>if c'=c then if ns.length=es.length then some (ns,es)else none else none
  |_=>none
 |_=>none
 else none
theorem E5(h:fnI c np n f ds=some q):ds.length=np/\∃ρ,f (stI c n ds)=some (.nx ρ)/\ρ[0]?=some (.ob c q.1 q.2)/\q.1.length=q.2.length:=by
 unfold fnI at h;split at h
 ·rename_i hl;refine⟨hl,?_⟩;split at h
  ·rename_i ρ e;split at h
   ·rename_i c' ns es e2;split at h
    ·rename_i hc;split at h
     ·rename_i h3;subst hc;cases h;exact⟨ρ,e,e2,h3⟩
     ·cases h
    ·cases h
   ·cases h
  ·cases h
 ·cases h
theorem LX{N:aD}(hN:np+1<=N.length)(h:spI G c (fnI c np N.length f) vs H Q E):tFS G f { nx:=λ_ H'=>Q .non H',rt:=Q } (L2.start N vs) H:=by
 obtain⟨p,dx,us,H0,ds,ns,es,rfl,hp,h0,s,r,e,k⟩:=h;obtain⟨hl,ρ,e1,e2,e3⟩:=E5 e;have hul:us.length=np:=by rw[<-tN r];exact hl
 have gets:∀{i:Nat} {t:Sl},(stI c N.length ds)[i]?=some t->(i=0/\t=.ob c [] [])\/t=.un\/∃(j:Nat) (d:D),i=j+1/\ds[j]?=some d/\t=.im d:=λ{i t} e=>by
  cases i with
  |zero=>cases e;exact .inl ⟨rfl,rfl⟩
  |succ j=>
   have e':(stE (N.length - 1) ds)[j]?=some t:=e;rcases EB e' with rfl|⟨d,e1,rfl⟩
   ·exact .inr (.inl rfl)
   ·exact .inr (.inr ⟨j,d,rfl,e1,rfl⟩)
 have R:tW G ⟨H0,H,[p]⟩ (L2.start N (.ref p::us)) (stI c N.length ds) H0 H:={
  sub:=s
  g0:=tT.refl _
  keep:=λb o e _=>e
  fr:=λb o e=>.inl e
  am:=λa ha=>by
   have ea:a=p:=by simpa using ha
   subst ea;exact⟨_,hp⟩
  len:=by unfold L2.start stI stE;simp only[aB,af,cz,aM];have:=tN r;omega
  sl:=λi t e=>by
   rcases gets e with ⟨rfl,rfl⟩|rfl|⟨j,d,rfl,e1,rfl⟩
   ·exact⟨p,dx,[],wq rfl,hp,h0,by simp,rfl,uj⟩
   ·trivial
   ·obtain⟨v,e2,e3⟩:=v5 r e1;exact⟨v,wq (by simpa using e2),e3⟩
  ap:=λi j t u a hij ei ej ht hu=>by
   rcases gets ei with ⟨rfl,rfl⟩|rfl|⟨_,_,_,_,rfl⟩
   ·rcases gets ej with ⟨rfl,rfl⟩|rfl|⟨_,_,_,_,rfl⟩
    ·exact aq rfl hij
    ·cases hu
    ·cases hu
   ·cases ht
   ·cases ht }
 refine⟨_,_,H0,_,R,e1,λσ' H0' H' s' R'=>?_,λ_=>rfl⟩;obtain⟨a,dx',ys,q1,q2,q3,q4,q5,q6⟩:=R'.sl 0 _ e2;have ea:a=p:=by simpa using q4
 subst ea;exact k ys dx' H0' H' s' R'.sub (λb o e n=>R'.keep b o e (by simpa using n)) R'.fr q3 q2 q5 q6
end
def Sl.L:Sl->Option aS
 |.ls ds=>some ds
 |.pm ds=>some ds
 |_=>none
def Sl.putL:Sl->aS->Sl
 |.pm _,ds=>.pm ds
 |_,ds=>.ls ds
theorem Sl.L_own{s:Sl}(h:s.L=some ds):s.own=true:=by cases s<;>first|rfl|cases h
theorem Sl.putL_L{s:Sl}:(s.putL ds).L=some ds:=by cases s<;>rfl
section
variable{G:Bg}{F:Fr}{σ:St}{ρ:bb}{H0 H:Hp}
theorem By.lst{o:Option V}{s:Sl}{ds:aS}(h:By G F H0 H o s)(e:s.L=some ds):∃a xs,o=some (.ref a)/\H a=some (.lst xs)/\H0 a=none/\tL G H0 ds xs:=by
 cases s with
 |ls ds'=>cases e;obtain⟨a,xs,h1,h2,h3,h4,h5⟩:=h;exact⟨a,xs,h1,h2,h3,h5⟩
 |pm ds'=>cases e;obtain⟨a,xs,h1,h2,h3,h4,h5⟩:=h;exact⟨a,xs,h1,h2,h3,h5⟩
 |_=>cases e
theorem tW.mutL(R:tW G F σ ρ H0 H)(hi:ρ[i]?=some s)(hs:s.L=some ds)(ha:(σ[i]?).join=some (.ref a))(r:tL G H0 ds' xs'):
  tW G F σ (ρ.set i (s.putL ds')) H0 (upd H a (.lst xs')):=by
 have ok:=R.sl i s hi;rw[ha]at ok;refine R.mut hi (Sl.L_own hs) ha (λH' hH=>?_) (Sl.L_own Sl.putL_L);cases s with
 |ls ds0=>obtain⟨b,xs,h1,h2,h3,h4,h5⟩:=ok;cases h1;exact⟨a,xs',rfl,hH,h3,h4,r⟩
 |pm ds0=>obtain⟨b,xs,h1,h2,h3,h4,h5⟩:=ok;cases h1;exact⟨a,xs',rfl,hH,h3,h4,r⟩
 |_=>cases hs
end
def vv(ρ:bb)(i:Nat):Option aS:=match ρ[i]? with
 |some s=>s.L
 |none=>none
theorem wt(h:vv ρ i=some ds):∃s,ρ[i]?=some s/\s.L=some ds:=by
 unfold vv at h;cases e:ρ[i]? with
 |none=>rw[e]at h;cases h
 |some s=>rw[e]at h;exact⟨s,rfl,h⟩
def putAt(ρ:bb)(i:Nat)(ds:aS):bb:=match ρ[i]? with
 |some s=>ρ.set i (s.putL ds)
 |none=>ρ
def zp(i:Nat)(f:FE):FE:=λρ=>match vv ρ i with
 |some _=>match f ρ with
  |some (d,ρ1)=>match vv ρ1 i with
   |some ds=>if ds.length<1000 then some (.non,putAt ρ1 i (ds++[d]))else none
   |none=>none
  |none=>none
 |none=>none
section
variable{X:Cx}{G:Bg}
theorem v8(R:tW G F σ ρ H0 H)(h:vv ρ i=some ds):∃a xs,σ[i]?=some (some (.ref a))/\H a=some (.lst xs)/\tL G H0 ds xs/\
  (∀ds' xs',tL G H0 ds' xs'->tW G F σ (putAt ρ i ds') H0 (upd H a (.lst xs'))):=by
 obtain⟨s,e1,e2⟩:=wt h;obtain⟨a,xs,e3,e4,e5,e6⟩:=(R.sl i s e1).lst e2;refine⟨a,xs,v7 e3,e4,e6,λds' xs' r=>?_⟩;unfold putAt;rw[e1];exact R.mutL e1 e2 e3 r
theorem Nx(h:PE X e (tBM G.K "list" HI (zk i) (tFA G (tD f tY)))):PE X e (tF G (zp i f)):=PE.weak h λσ H Q hh=>by
 sleep 1
 unfold zp at e;cases e0:vv ρ i with
 |none=>simp only[e0]at e;cases e
 |some ds0=>
  simp only[e0]at e;rcases uf (f:=f) (ρ:=ρ)with e1|⟨x,ρ1,e1⟩<;>simp only[e1]at e
  ·cases e
  ·cases e2:vv ρ1 i with
   |none=>simp only[e2]at e;cases e
   |some ds=>
    simp only[e2]at e;split at e
    ·rename_i hl;cases e;obtain⟨a,xs,s1,s2,s3,_⟩:=v8 R e0;refine⟨.ref a,s1,.inl ⟨rfl,xs,SqL.of s2⟩,F,ρ,H0,[x],ρ1,R,by unfold tD;rw[e1];rfl,λys H1 H1' s R' rs=>?_⟩;unfold tL at rs;obtain⟨v,r0,rfl,rv,rn⟩:=rs;unfold tL at rn;subst rn;obtain⟨a',xs',t1,t2,t3,t4⟩:=v8 R' e2;rw[s1]at t1;cases t1;exact⟨a,xs',v,rfl,rfl,t2,by rw[<-tN t3];exact A5 (by omega),k _ _ _ s (t4 _ _ (vt t3 (uk rv uj))) zK⟩
    ·cases e
def LY(i:Nat):FE:=λρ=>match vv ρ i with
 |some (d::ds)=>some (d,putAt ρ i ds)
 |_=>none
theorem SK(h:PE X e (tBM G.K "list" OE (zk i) (EM (tC (.int 0)) Jb))):PE X e (tF G (LY i)):=PE.weak h λσ H Q hh=>by
 sleep 1
 unfold LY at e;split at e
 ·rename_i d' ds e0;cases e;obtain⟨a,xs,s1,s2,s3,s4⟩:=v8 R e0;unfold tL at s3;obtain⟨v,r,rfl,r1,r2⟩:=s3;refine⟨.ref a,s1,.inl ⟨rfl,_,SqL.of s2⟩,a,v::r,0,0,v,rfl,rfl,s2,by decide,by decide,?_,rfl,?_⟩
  ·unfold seqIndex?;simp
  ·exact k _ _ _ (tT.refl _) (s4 _ _ r2) r1
 ·cases e
theorem BV(r:tL G H0 ds xs)(h:atI ds i=some d):∃v,atI xs i=some v/\Rep G H0 d v:=by
 unfold atI at h ⊢;rw[<-tN r];cases e:ixN ds.length i with
 |none=>rw[e]at h;cases h
 |some j=>rw[e]at h;exact v5 r h
def Jv(i:Nat)(f:FE):FE:=λρ=>match vv ρ i with
 |some _=>match f ρ with
  |some (.int j,ρ1)=>match vv ρ1 i with
   |some ds=>match atI ds j with
    |some d=>some (d,ρ1)
    |none=>none
   |none=>none
  |_=>none
 |none=>none
theorem Wf(h:PE X e (tOp (RU G.K) (zk i) (tF G f))):PE X e (tF G (Jv i f)):=PE.weak h λσ H Q hh=>by
 sleep 1
 unfold Jv at e;cases e9:vv ρ i with
 |none=>simp only[e9]at e;cases e
 |some ds9=>
  simp only[e9]at e;obtain⟨a9,xs9,ev,_⟩:=v8 R e9;split at e
  ·rename_i j ρ1 e1;cases e0:vv ρ1 i with
   |none=>simp only[e0]at e;cases e
   |some ds=>
    simp only[e0]at e;cases e2:atI ds j with
    |none=>simp only[e2]at e;cases e
    |some x=>simp only[e2]at e;cases e;refine⟨.ref a9,ev,F,ρ,H0,_,_,R,e1,λu H1 H1' s R' r=>?_⟩;unfold Rep at r;subst r;obtain⟨a,xs,s1,s2,s3,s4⟩:=v8 R' e0;rw[ev]at s1;cases s1;obtain⟨w,w1,w2⟩:=BV s3 e2;exact⟨_,xs,j,w,rfl,rfl,SqL.of s2,w1,k _ _ _ s R' w2⟩
  ·cases e
def cFz(i:Nat):FE:=λρ=>match ρ[i]? with
 |some (.ls ds)=>some (.lst ds,ρ.set i (.im (.lst ds)))
 |some (.dk ks ds)=>some (.dic ks ds,ρ.set i (.im (.dic ks ds)))
 |some (.im d)=>some (d,ρ)
 |_=>none
theorem tW.toIm(R:tW G F σ ρ H0 H)(hi:ρ[i]?=some s)(hs:(σ[i]?).join=some (.ref p))(so:s.own=true)(hp:H p=some o)(h0:H0 p=none)(hb:F.B p=none)(r:Rep G (upd H0 p o) d (.ref p)):
  tW G F σ (ρ.set i (.im d)) (upd H0 p o) H where
 sub:=λb u e=>by
  by_cases hb:b=p
  ·subst hb;rw[tP]at e;cases e;exact hp
  ·rw[tR hb]at e;exact R.sub _ _ e
 g0:=R.g0.trans (tV h0 o)
 keep:=R.keep
 fr:=λb u e=>by
  by_cases hb':b=p
  ·subst hb';exact .inr hb
  ·rw[tR hb']at e;exact R.fr _ _ e
 am:=R.am
 len:=by rw[fo];exact R.len
 sl:=λj t e=>by
  rw[bX]at e;by_cases h:i=j
  ·subst h;rw[ah rfl]at e;split at e
   ·cases e;exact⟨_,hs,r⟩
   ·cases e
  ·rw[ai h]at e;refine(R.sl j t e).grow (tV h0 o) (λa u _ _ q=>q) λa u z to q q0=>?_;rw[tR (λy=>by subst y;exact R.ap j i t s a (λy=>h y.symm) e hi to so z hs)];exact q0
 ap:=λj k t u b hjk ej ek tj tk vj vk=>by
  have gen:∀{m:Nat} {x:Sl},(ρ.set i (.im d))[m]?=some x->x.own=true->ρ[m]?=some x:=λ{m x} e xo=>by
   rw[bX]at e;by_cases h:i=m
   ·subst h;rw[ah rfl]at e;split at e
    ·cases e;cases xo
    ·cases e
   ·rw[ai h]at e;exact e
  exact R.ap j k t u b hjk (gen ej tj) (gen ek tk) tj tk vj vk
theorem tW.toImD(R:tW G F σ ρ H0 H)(hi:ρ[i]?=some s)(hs:(σ[i]?).join=some (.ref p))(so:s.own=true)(h0:H0 p=none)(hb:F.B p=none)(r:Rep G (upd H0 p o) d (.ref p)):
  tW G F σ (ρ.set i (.im d)) (upd H0 p o) (upd H p o) where
 sub:=λb u e=>by
  by_cases hb:b=p
  ·subst hb;rw[tP]at e ⊢;exact e
  ·rw[tR hb]at e ⊢;exact R.sub _ _ e
 g0:=R.g0.trans (tV h0 o)
 keep:=λb u e n=>by rw[tR (λz=>by subst z;rw[hb]at e;cases e)];exact R.keep b u e n
 fr:=λb u e=>by
  by_cases hb':b=p
  ·subst hb';exact .inr hb
  ·rw[tR hb']at e;exact R.fr _ _ e
 am:=λb hm=>by
  by_cases hb':b=p
  ·subst hb';exact⟨o,tP⟩
  ·rw[tR hb'];exact R.am b hm
 len:=by rw[fo];exact R.len
 sl:=λj t e=>by
  rw[bX]at e;by_cases h:i=j
  ·subst h;rw[ah rfl]at e;split at e
   ·cases e;exact⟨_,hs,r⟩
   ·cases e
  ·rw[ai h]at e;refine(R.sl j t e).grow (tV h0 o) (λa u z to q=>?_) λa u z to q q0=>?_
   ·rw[tR (λy=>by subst y;exact R.ap j i t s a (λy=>h y.symm) e hi to so z hs)];exact q
   ·rw[tR (λy=>by subst y;exact R.ap j i t s a (λy=>h y.symm) e hi to so z hs)];exact q0
 ap:=λj k t u b hjk ej ek tj tk vj vk=>by
  have gen:∀{m:Nat} {x:Sl},(ρ.set i (.im d))[m]?=some x->x.own=true->ρ[m]?=some x:=λ{m x} e xo=>by
   rw[bX]at e;by_cases h:i=m
   ·subst h;rw[ah rfl]at e;split at e
    ·cases e;cases xo
    ·cases e
   ·rw[ai h]at e;exact e
  exact R.ap j k t u b hjk (gen ej tj) (gen ek tk) tj tk vj vk
theorem Z9(h:PE X e (zk i)):PE X e (tF G (cFz i)):=PE.weak (PE.ghost h) λσ H Q hh=>by
 sleep 1
 unfold cFz at e;split at e
 ·rename_i ds e0;cases e;obtain⟨a,xs,h1,h2,h3,h4,h5⟩:=R.sl i _ e0;have rr:Rep G (upd H0 a (.lst xs)) (.lst ds) (.ref a):=yR tP (tL.mono (tV h3 _) _ _ h5);exact⟨_,v7 h1,.inl (k _ _ _ (tV h3 _) (R.toIm e0 h1 rfl h2 h3 h4 rr) rr)⟩
 ·rename_i ks ds e0;cases e;obtain⟨a,xs,h1,h2,h3,h4,h5,h6⟩:=R.sl i _ e0;refine⟨_,v7 h1,.inr ⟨a,_,h2,λo=>?_⟩⟩;have rr:Rep G (upd H0 a (.frz o (.dK (ks.zip xs)))) (.dic ks ds) (.ref a):=by unfold Rep;exact⟨a,o,xs,rfl,tP,h5,tL.mono (tV h3 _) _ _ h6⟩
  exact k _ _ _ (tV h3 _) (R.toImD e0 h1 rfl h3 h4 rr) rr
 ·rename_i d' e0;cases e;obtain⟨v,e2,e3⟩:=R.sl i _ e0;exact⟨v,v7 e2,.inl (k _ _ _ (tT.refl _) R e3)⟩
 ·cases e
def O7(i:Nat):FA:=λρ=>match ρ[i]? with
 |some (.ls ds)=>some (ds,ρ.set i .un)
 |_=>none
theorem SL(h:PE X e (zk i)):PE X e (tFN G (O7 i)):=PE.weak h λσ H Q hh=>by
 sleep 1
 unfold O7 at e;split at e
 ·rename_i ds e0;cases e;obtain⟨a,xs,h1,h2,h3,h4,h5⟩:=R.sl i _ e0;have gen:∀{m:Nat} {x:Sl},(ρ.set i .un)[m]?=some x->x.own=true->m≠i/\ρ[m]?=some x:=λ{m x} e xo=>by
   rw[bX]at e;by_cases h:i=m
   ·subst h;rw[ah rfl]at e;split at e
    ·cases e;cases xo
    ·cases e
   ·rw[ai h]at e;exact⟨λz=>h z.symm,e⟩
  have R':tW G F σ (ρ.set i .un) H0 H:={
   sub:=R.sub,g0:=R.g0,keep:=R.keep,fr:=R.fr,am:=R.am
   len:=by rw[fo];exact R.len
   sl:=λj t e=>by
    rw[bX]at e;by_cases h:i=j
    ·subst h;rw[ah rfl]at e;split at e
     ·cases e;trivial
     ·cases e
    ·rw[ai h]at e;exact R.sl j t e
   ap:=λj k t u b hjk ej ek tj tk vj vk=>R.ap j k t u b hjk (gen ej tj).2 (gen ek tk).2 tj tk vj vk }
  refine⟨_,v7 h1,k a xs _ _ (tT.refl _) R' h2 h3 h4 (λj t ej to z=>?_) h5⟩;obtain⟨nj,ej'⟩:=gen ej to;exact R.ap j i t _ a nj ej' e0 to rfl z h1
 ·cases e
end
def spM(G:Bg)(g:aS->aS->Option (D×aS)):Sp:=λvs H Q _=>∃(a:Addr) (us xs:bG) (H0:Hp) (es ds:aS) (d:D) (es':aS),vs=.ref a::us/\H a=some (.lst xs)/\H0 a=none/\tT H0 H/\tL G H0 es xs/\tL G H0 ds us/\g es ds=some (d,es')/\
 ∀v xs' H0' H',tT H0 H0'->tT H0' H'->(∀b o,H b=some o->b≠a->H' b=some o)->(∀b o,H0' b=some o->H0 b=some o\/H b=none)->H0' a=none->H' a=some (.lst xs')->tL G H0' es' xs'->Rep G H0' d v->Q v H'
def stM(n:Nat)(es ds:aS):bb:=.pm es::stE (n - 1) ds
def DB(ρ:bb):Option aS:=match ρ with
 |.pm es::_=>some es
 |_=>none
def fnM(np n:Nat)(f:FS):aS->aS->Option (D×aS):=λes ds=>if ds.length=np then match f (stM n es ds)with
 |some (.rt d ρ)=>match DB ρ with
  |some es'=>some (d,es')
  |none=>none
 |some (.rn xs ρ)=>match DB ρ with
  |some es'=>some (.lst xs,es')
  |none=>none
 |_=>none
 else none
theorem E6(h:DB ρ=some es):ρ[0]?=some (.pm es):=by
 unfold DB at h;split at h
 ·cases h;rfl
 ·cases h
theorem Jw(h:fnM np n f es ds=some (d,es')):ds.length=np/\((∃ρ,f (stM n es ds)=some (.rt d ρ)/\ρ[0]?=some (.pm es'))\/∃xs ρ,f (stM n es ds)=some (.rn xs ρ)/\ρ[0]?=some (.pm es')/\d=.lst xs):=by
 unfold fnM at h;split at h
 ·rename_i hl;refine⟨hl,?_⟩;split at h
  ·rename_i x ρ e;cases e2:DB ρ with
   |none=>simp only[e2]at h;cases h
   |some q=>simp only[e2]at h;cases h;exact .inl ⟨ρ,e,E6 e2⟩
  ·rename_i x ρ e;cases e2:DB ρ with
   |none=>simp only[e2]at h;cases h
   |some q=>simp only[e2]at h;cases h;exact .inr ⟨x,ρ,e,E6 e2,rfl⟩
  ·cases h
 ·cases h
section
variable{X:Cx}{G:Bg}
theorem SM{N:aD}(hN:np+1<=N.length)(h:spM G (fnM np N.length f) vs H Q E):tFS G f { nx:=λ_ H'=>Q .non H',rt:=Q } (L2.start N vs) H:=by
 obtain⟨a,us,xs,H0,es,ds,d,es',rfl,ha,h0,s,r1,r,e,k⟩:=h;obtain⟨hl,e1⟩:=Jw e;have hul:us.length=np:=by rw[<-tN r];exact hl
 have gets:∀{i:Nat} {t:Sl},(stM N.length es ds)[i]?=some t->(i=0/\t=.pm es)\/t=.un\/∃(j:Nat) (d:D),i=j+1/\ds[j]?=some d/\t=.im d:=λ{i t} e=>by
  cases i with
  |zero=>cases e;exact .inl ⟨rfl,rfl⟩
  |succ j=>
   have e':(stE (N.length - 1) ds)[j]?=some t:=e;rcases EB e' with rfl|⟨d,e1,rfl⟩
   ·exact .inr (.inl rfl)
   ·exact .inr (.inr ⟨j,d,rfl,e1,rfl⟩)
 have R:tW G ⟨H0,H,[a]⟩ (L2.start N (.ref a::us)) (stM N.length es ds) H0 H:={
  sub:=s
  g0:=tT.refl _
  keep:=λb o e _=>e
  fr:=λb o e=>.inl e
  am:=λb hb=>by
   have eb:b=a:=by simpa using hb
   subst eb;exact⟨_,ha⟩
  len:=by unfold L2.start stM stE;simp only[aB,af,cz,aM];have:=tN r;omega
  sl:=λi t e=>by
   rcases gets e with ⟨rfl,rfl⟩|rfl|⟨j,d,rfl,e1,rfl⟩
   ·exact⟨a,xs,wq rfl,ha,h0,by simp,r1⟩
   ·trivial
   ·obtain⟨v,e2,e3⟩:=v5 r e1;exact⟨v,wq (by simpa using e2),e3⟩
  ap:=λi j t u b hij ei ej ht hu=>by
   rcases gets ei with ⟨rfl,rfl⟩|rfl|⟨_,_,_,_,rfl⟩
   ·rcases gets ej with ⟨rfl,rfl⟩|rfl|⟨_,_,_,_,rfl⟩
    ·exact aq rfl hij
    ·cases hu
    ·cases hu
   ·cases ht
   ·cases ht }
 have fin:∀{v:V} {σ':St} {ρ':bb} {H0' H':Hp},tT H0 H0'->tW G ⟨H0,H,[a]⟩ σ' ρ' H0' H'->ρ'[0]?=some (.pm es')->Rep G H0' d v->Q v H':=λs' R' e2 rv=>by
  obtain⟨a',ys,q1,q2,q3,q4,q5⟩:=R'.sl 0 _ e2;have ea:a'=a:=by simpa using q4
  subst ea;exact k _ ys _ _ s' R'.sub (λb o e n=>R'.keep b o e (by simpa using n)) R'.fr q3 q2 q5 rv
 rcases e1 with ⟨ρ,e1,e2⟩|⟨zs,ρ,e1,e2,rfl⟩
 ·exact⟨_,_,H0,_,R,e1,λv σ' H0' H' s' R' rv=>fin s' R' e2 rv,λ_=>rfl⟩
 ·refine⟨_,_,H0,_,R,e1,λp ys σ' H0' H' s' R' hp hp0 hb ap rs=>?_,λ_=>rfl⟩;exact fin (s'.trans (tV hp0 _)) (R'.freeze hp hp0 hb ap) e2 (yR tP (tL.mono (tV hp0 _) _ _ rs))
theorem O8(hg:∀es ds d,g es ds=some d->ds.length=np):∀vs H Q E,spM G g vs H Q E->vs.length=np+1:=λvs H Q E h=>by obtain⟨a,us,xs,H0,es,ds,d,es',rfl,_,_,_,_,r,e,_⟩:=h;rw[aM,<- tN r,hg _ _ _ e]
theorem SN:∀es ds d,fnM np n f es ds=some d->ds.length=np:=λ_ _ d h=>(Jw (d:=d.1) (es':=d.2) h).1
theorem tW.call1(R:tW G F σ ρ H0 H)(hi:ρ[i]?=some s)(hs:s.L=some es)(hb:(σ[i]?).join=some (.ref b))
  (s1:tT H0 H0') (s2:tT H0' H') (s3:∀c o,H c=some o->c≠b->H' c=some o) (fr:∀c o,H0' c=some o->H0 c=some o\/H c=none) (h0:H0' b=none) (hz:H' b=some (.lst zs)) (r:tL G H0' es' zs):
  tW G F σ (ρ.set i (s.putL es')) H0' H':=by
 have so:=Sl.L_own hs;obtain⟨b',u,e1,e2,e3,e4⟩:=(R.sl i s hi).at so;rw[hb]at e1;cases e1;exact {
  sub:=s2
  g0:=R.g0.trans s1
  keep:=λc o e n=>by
   refine s3 c o (R.keep c o e n) λz=>?_;subst z;rcases e4 with q|q
   ·rw[q]at e;cases e
   ·exact n q
  fr:=λc o e=>by
   rcases fr c o e with q|q
   ·exact R.fr c o q
   ·exact .inr (R.bNone q)
  am:=λc hc=>by
   by_cases z:c=b
   ·subst z;exact⟨_,hz⟩
   ·obtain⟨o,q⟩:=R.am c hc;exact⟨o,s3 c o q z⟩
  len:=by rw[fo];exact R.len
  sl:=λj t e=>by
   rw[bX]at e;by_cases h:i=j
   ·subst h;rw[ah rfl]at e;split at e
    ·cases e;rw[hb];have ok:=R.sl i s hi;rw[hb]at ok;cases s with
     |ls ds0=>obtain⟨c,xs,h1,h2,h3,h4,h5⟩:=ok;cases h1;exact⟨b,zs,rfl,hz,h0,h4,r⟩
     |pm ds0=>obtain⟨c,xs,h1,h2,h3,h4,h5⟩:=ok;cases h1;exact⟨b,zs,rfl,hz,h0,h4,r⟩
     |_=>cases hs
    ·cases e
   ·rw[ai h]at e;refine(R.sl j t e).grow s1 (λc w z to q=>s3 c w q λy=>?_) λc w z to q q0=>?_
    ·subst y;exact R.ap j i t s c (λy=>h y.symm) e hi to so z hb
    ·cases y:H0' c with
     |none=>rfl
     |some o=>
      rcases fr c o y with x|x
      ·rw[x]at q0;cases q0
      ·rw[x]at q;cases q
  ap:=λj k t u c hjk ej ek tj tk vj vk=>by
   have gen:∀{m:Nat} {x:Sl},(ρ.set i (s.putL es'))[m]?=some x->∃y,ρ[m]?=some y/\(x.own=true->y.own=true):=λ{m x} e=>by
    rw[bX]at e;by_cases h:i=m
    ·subst h;exact⟨s,hi,λ_=>so⟩
    ·rw[ai h]at e;exact⟨x,e,λq=>q⟩
   obtain⟨y,ey,oy⟩:=gen ej;obtain⟨z,ez,oz⟩:=gen ek;exact R.ap j k y z c hjk ey ez (oy tj) (oz tk) vj vk }
def uG(g:aS->aS->Option (D×aS))(i:Nat)(a:FA):FE:=λρ=>match vv ρ i with
 |some _=>match a ρ with
  |some (ds,ρ1)=>match vv ρ1 i with
   |some es=>match g es ds with
    |some (d,es')=>some (d,putAt ρ1 i es')
    |none=>none
   |none=>none
  |none=>none
 |none=>none
theorem Wg(h:PE X e (Av (spM G g) [] E (EM (zk i) (tFA G a)))):PE X e (tF G (uG g i a)):=PE.weak h λσ H Q hh=>by
 sleep 1
 unfold uG at e;cases e0:vv ρ i with
 |none=>simp only[e0]at e;cases e
 |some ds0=>
  simp only[e0]at e;rcases uf (f:=a) (ρ:=ρ)with e1|⟨ds,ρ1,e1⟩<;>simp only[e1]at e
  ·cases e
  ·cases e2:vv ρ1 i with
   |none=>simp only[e2]at e;cases e
   |some es=>
    simp only[e2]at e;cases e3:g es ds with
    |none=>simp only[e3]at e;cases e
    |some q=>
     obtain⟨d1,es'⟩:=q;simp only[e3]at e;cases e;obtain⟨b,xs,s1,s2,s3,_⟩:=v8 R e0;refine⟨.ref b,s1,F,ρ,H0,ds,ρ1,R,e1,λys H1 H1' s R' rs=>?_⟩;obtain⟨s,es0,es1⟩:=wt e2;obtain⟨b',xs',t1,t2,t3,t4⟩:=(R'.sl i s es0).lst es1;rw[v7 t1]at s1;cases s1;refine⟨b,ys,xs',H1,es,ds,d,es',?_,t2,t3,R'.sub,t4,rs,e3,λv zs H2 H2' u1 u2 u3 fr w0 w1 w2 w3=>?_⟩
     ·show V.ref b::ys++[]=_;rw[bq]
     ·refine k _ _ _ (tT.trans ‹tT H0 H1› u1) ?_ w3;unfold putAt;rw[es0];exact R'.call1 es0 es1 t1 u1 u2 u3 fr w0 w1 w2
def Walk(G:Bg)(J:It)(ds:aS)(H0:Hp):Prop:=∀(i:Nat) (H1 H1':Hp),tT H0 H1->tT H1 H1'->
 (∀d,ds[i]?=some d->J.go i H1'/\∀x H2',J.yld i H1' x H2'->∃H2,tT H1 H2/\tT H2 H2'/\tT H1' H2'/\(∀b o,H2 b=some o->H1 b=some o\/H1' b=none)/\Rep G H2 d x)/\(i=ds.length->J.stop i H1')
def tFI(G:Bg)(f:FA):TI:=λσ H R=>∃F ρ H0 ds ρ',tW G F σ ρ H0 H/\f ρ=some (ds,ρ')/\∀J H0' H',tT H0 H0'->tW G F σ ρ' H0' H'->Walk G J ds H0'->R J H'
theorem PI.weak(h:PI X tg e t)(w:∀σ H R,t' σ H R->t σ H R):PI X tg e t':=λwv s σ H R I hq=>h wv s σ H R I (w _ _ _ hq)
theorem E7(h:SqL G.K H0 a xs)(r:tL G H0 ds xs):Walk G (Itl G.K a) ds H0:=λi H1 H1' s s'=>by have h1:SqL G.K H1' a xs:=(s.trans s').seq h;refine⟨λd e=>?_,λhl=>⟨xs,h1,by rw[<-tN r,hl];exact ay _⟩⟩;obtain⟨v,e1,e2⟩:=v5 r e;refine⟨⟨xs,v,h1,e1⟩,λx H2' y=>?_⟩;obtain⟨e3,e4⟩:=y;have e5:=e4 xs h1;rw[e1]at e5;cases e5;subst e3;exact⟨H1,tT.refl _,s',tT.refl _,λb o e=>.inl e,Rep.mono s _ _ e2⟩
theorem O9(h:SqT G.K H0 a xs)(r:tL G H0 ds xs):Walk G (Itt G.K a) ds H0:=λi H1 H1' s s'=>by have h1:SqT G.K H1' a xs:=SqT.mono (s.trans s') h;refine⟨λd e=>?_,λhl=>⟨xs,h1,by rw[<-tN r,hl];exact ay _⟩⟩;obtain⟨v,e1,e2⟩:=v5 r e;refine⟨⟨xs,v,h1,e1⟩,λx H2' y=>?_⟩;obtain⟨e3,e4⟩:=y;have e5:=e4 xs h1;rw[e1]at e5;cases e5;subst e3;exact⟨H1,tT.refl _,s',tT.refl _,λb o e=>.inl e,Rep.mono s _ _ e2⟩
def iL(f:FE):FA:=λρ=>match f ρ with
 |some (.lst ds,ρ')=>some (ds,ρ')
 |some (.fzl ds,ρ')=>some (ds,ρ')
 |_=>none
def iT(f:FE):FA:=λρ=>match f ρ with
 |some (.tup ds,ρ')=>some (ds,ρ')
 |_=>none
theorem Jx(h:PI X tg e (Om G.K (tF G f))):PI X tg e (tFI G (iL f)):=PI.weak h λσ H R hh=>by
 obtain⟨F,ρ,H0,ds,ρ',R,e,k⟩:=hh;unfold iL at e;split at e
 ·rename_i ds' ρ1 e1;cases e;refine⟨F,ρ,H0,_,_,R,e1,λv H1 H1' s R' r=>?_⟩;unfold Rep at r;obtain⟨a,xs,rfl,r1,r2⟩:=r;exact⟨a,rfl,⟨xs,R'.sub.seq (SqL.of r1)⟩,k _ _ _ s R' (E7 (SqL.of r1) r2)⟩
 ·rename_i ds' ρ1 e1;cases e;refine⟨F,ρ,H0,_,_,R,e1,λv H1 H1' s R' r=>?_⟩;unfold Rep at r;obtain⟨a,xs,rfl,r1,r2⟩:=r;exact⟨a,rfl,⟨xs,R'.sub.seq r1⟩,k _ _ _ s R' (E7 r1 r2)⟩
 ·cases e
theorem SO(h:PI X tg e (Vv G.K (tF G f))):PI X tg e (tFI G (iT f)):=PI.weak h λσ H R hh=>by
 obtain⟨F,ρ,H0,ds,ρ',R,e,k⟩:=hh;unfold iT at e;split at e
 ·rename_i ds' ρ1 e1;cases e;refine⟨F,ρ,H0,_,_,R,e1,λv H1 H1' s R' r=>?_⟩;unfold Rep at r;obtain⟨a,xs,rfl,r1,r2⟩:=r;exact⟨a,rfl,⟨xs,SqT.mono R'.sub r1⟩,k _ _ _ s R' (O9 r1 r2)⟩
 ·cases e
def E8(lo:Int)(n:Nat):aS:=(aQ n).map λ(i:Nat)=>D.int (lo+(i:Int))
theorem Pa{lo:Int}:Walk G (Itr lo n) (E8 lo n) H0:=λi H1 H1' s s'=>by
 refine⟨λd e=>?_,λhl=>by show n<=i;rw[hl];simp[E8]⟩;unfold E8 at e;rw[bc]at e;by_cases hi:i<n
 ·rw[kB hi]at e;cases e;refine⟨hi,λx H2' y=>?_⟩;obtain⟨e3,rfl⟩:=y;subst e3;exact⟨H1,tT.refl _,s',tT.refl _,λb o e=>.inl e,vW _⟩
 ·rw[gG (by simpa using hi)]at e;cases e
def iR1(f:FE):FA:=λρ=>match f ρ with
 |some (.int n,ρ')=>if -1000000<=n/\n<=1000000 then some (E8 0 n.toNat,ρ')else none
 |_=>none
theorem KU(h:PI X tg e (UK (tFA G (tD f tY)))):PI X tg e (tFI G (iR1 f)):=PI.weak h λσ H R hh=>by
 obtain⟨F,ρ,H0,ds,ρ',R,e,k⟩:=hh;unfold iR1 at e;split at e
 ·rename_i n ρ1 e1;split at e
  ·rename_i hn;cases e;refine⟨F,ρ,H0,[.int n],_,R,by unfold tD;rw[e1];rfl,λxs H1 H1' s R' rs=>?_⟩;unfold tL at rs;obtain⟨v,r0,rfl,rv,rn⟩:=rs;unfold tL at rn;unfold Rep at rv;subst rn rv;exact⟨n,rfl,by omega,by omega,k _ _ _ s R' Pa⟩
  ·cases e
 ·cases e
def forL(g:FG)(b:FS):aS->FS
 |[],ρ=>some (.nx ρ)
 |d::r,ρ=>match g d ρ with
  |none=>none
  |some ρ1=>match b ρ1 with
   |some (.nx ρ2)=>forL g b r ρ2
   |some (.ct ρ2)=>forL g b r ρ2
   |some (.bk ρ2)=>some (.nx ρ2)
   |some (.rt d ρ2)=>some (.rt d ρ2)
   |some (.rn d ρ2)=>some (.rn d ρ2)
   |none=>none
def yu(s:FA)(g:FG)(b:FS):FS:=λρ=>match s ρ with
 |some (ds,ρ')=>forL g b ds ρ'
 |none=>none
theorem SQ{st:Stmt}(h:PS X st (Vx (tFI G s) (tFG G n g) (tFS G b))):PS X st (tFS G (yu s g b)):=PS.weak h λE σ H hh=>by
 obtain⟨F,ρ,H0,o,R,e,k,k2⟩:=hh;unfold yu at e;rcases uf (f:=s) (ρ:=ρ)with e1|⟨ds,ρ1,e1⟩<;>simp only[e1]at e
 ·cases e
 ·refine⟨F,ρ,H0,ds,ρ1,R,e1,λJ H1 H1' s1 R1 wk=>?_⟩;refine⟨λi m σ H=>m=ds.length - i/\i<=ds.length/\∃ρi Hi,tT H1 Hi/\tW G F σ ρi Hi H/\forL g b (ds.drop i) ρi=some o,⟨_,rfl,bA _,ρ1,H1,tT.refl _,R1,e⟩,?_⟩;rintro i m σi Hi' ⟨rfl,hi,ρi,Hi,si,Ri,ei⟩;by_cases hlt:i<ds.length
  ·have ed:ds.drop i=ds[i]::ds.drop (i+1):=jt hlt;rw[ed]at ei;unfold forL at ei;obtain⟨go,yl⟩:=(wk i Hi Hi' si Ri.sub).1 ds[i] (aJ hlt);refine .inr ⟨go,λσ' H'=>∃ρi Hi,tT H1 Hi/\tW G F σ' ρi Hi H'/\forL g b (ds.drop (i+1)) ρi=some o,λσ' H' q=>⟨ds.length - (i+1),by omega,rfl,hlt,q⟩,λx H' y=>?_⟩;obtain⟨H2,t1,t2,t3,t4,t5⟩:=yl x H' y;have R2:=Ri.grow t3 t1 t2 t4;cases e2:g ds[i] ρi with
   |none=>simp only[e2]at ei;cases ei
   |some ρ2=>
    simp only[e2]at ei;refine⟨F,ρi,H2,_,ρ2,R2,t5,e2,λσ3 _ R3=>?_⟩;have kk:=k.back (s1.trans (si.trans t1));cases e3:b ρ2 with
    |none=>simp only[e3]at ei;cases ei
    |some q=>
     refine⟨F,ρ2,H2,q,R3,e3,?_,λ_=>rfl⟩;cases q with
     |nx ρ3=>simp only[e3]at ei;exact λσ' H0' H' s' R'=>⟨ρ3,H0',si.trans (t1.trans s'),R',ei⟩
     |ct ρ3=>simp only[e3]at ei;exact λσ' H0' H' s' R'=>⟨ρ3,H0',si.trans (t1.trans s'),R',ei⟩
     |bk ρ3=>simp only[e3]at ei;cases ei;exact kk
     |rt d ρ3=>simp only[e3]at ei;cases ei;exact kk
     |rn d ρ3=>simp only[e3]at ei;cases ei;exact kk
  ·have ez:ds.drop i=[]:=nz (by omega);rw[ez]at ei;unfold forL at ei;cases ei;exact .inl ⟨(wk i Hi Hi' si Ri.sub).2 (by omega),k _ _ _ (s1.trans si) Ri⟩
def whL(c:FT)(b:FS):Nat->FS
 |0,_=>none
 |n+1,ρ=>match c ρ with
  |some (false,ρ1)=>some (.nx ρ1)
  |some (true,ρ1)=>match b ρ1 with
   |some (.nx ρ2)=>whL c b n ρ2
   |some (.ct ρ2)=>whL c b n ρ2
   |some (.bk ρ2)=>some (.nx ρ2)
   |some (.rt d ρ2)=>some (.rt d ρ2)
   |some (.rn d ρ2)=>some (.rn d ρ2)
   |none=>none
  |none=>none
theorem Ny{st:Stmt}(n:Nat)(h:PS X st (Oj (tFT G c) (tFS G b))):PS X st (tFS G (whL c b n)):=PS.weak h λE σ H hh=>by
 obtain⟨F,ρ,H0,o,R,e,k,k2⟩:=hh;refine⟨λm σ H=>∃ρi Hi,tT H0 Hi/\tW G F σ ρi Hi H/\whL c b m ρi=some o,⟨n,ρ,H0,tT.refl _,R,e⟩,?_⟩;rintro m σi Hi' ⟨ρi,Hi,si,Ri,ei⟩;cases m with
 |zero=>cases ei
 |succ m=>
  unfold whL at ei;rcases uf (f:=c) (ρ:=ρi)with e1|⟨t,ρ1,e1⟩
  ·simp only[e1]at ei;cases ei
  ·refine⟨F,ρi,Hi,t,ρ1,Ri,e1,λH1 H1' s1 R1=>?_⟩;cases t with
   |false=>simp only[e1]at ei;cases ei;exact HL (k _ _ _ (si.trans s1) R1)
   |true=>
    simp only[e1]at ei;refine HM ⟨λσ' H'=>∃ρi Hi,tT H0 Hi/\tW G F σ' ρi Hi H'/\whL c b m ρi=some o,λσ' H' q=>⟨m,cR m,q⟩,?_⟩;have kk:=k.back (si.trans s1);cases e3:b ρ1 with
    |none=>simp only[e3]at ei;cases ei
    |some q=>
     refine⟨F,ρ1,H1,q,R1,e3,?_,λ_=>rfl⟩;cases q with
     |nx ρ3=>simp only[e3]at ei;exact λσ' H0' H' s' R'=>⟨ρ3,H0',si.trans (s1.trans s'),R',ei⟩
     |ct ρ3=>simp only[e3]at ei;exact λσ' H0' H' s' R'=>⟨ρ3,H0',si.trans (s1.trans s'),R',ei⟩
     |bk ρ3=>simp only[e3]at ei;cases ei;exact kk
     |rt d ρ3=>simp only[e3]at ei;cases ei;exact kk
     |rn d ρ3=>simp only[e3]at ei;cases ei;exact kk
end
def Sl.cap:Sl->Sl
 |.im d=>.im d
 |.ls ds=>.pm ds
 |.pm ds=>.pm ds
 |_=>.un
def BC(k:Nat)(cap:List Nat)(ρ:bb):bb:=fw k .un++cap.map λj=>((ρ[j]?).getD .un).cap
def wD:List Nat->bb->bb->Option bb
 |[],_,ρ=>some ρ
 |j::cap,t::ts,ρ=>match vv ρ j with
  |some _=>match t with
   |.pm ds=>wD cap ts (putAt ρ j ds)
   |_=>none
  |none=>wD cap ts ρ
 |_::_,[],_=>none
def xq(k:Nat)(cap:List Nat)(g:FG)(ft:FT)(fe:FE):aS->bb->Option (aS×bb)
 |[],ρ=>some ([],ρ)
 |d::r,ρ=>match g d (BC k cap ρ)with
  |none=>none
  |some ρ1=>match ft ρ1 with
   |some (true,ρ2)=>match fe ρ2 with
    |some (x,ρ3)=>match wD cap (ρ3.drop k) ρ with
     |some ρ'=>match xq k cap g ft fe r ρ' with
      |some (xs,ρ'')=>some (x::xs,ρ'')
      |none=>none
     |none=>none
    |none=>none
   |some (false,ρ2)=>match wD cap (ρ2.drop k) ρ with
    |some ρ'=>xq k cap g ft fe r ρ'
    |none=>none
   |none=>none
def ue(k:Nat)(cap:List Nat)(s:FA)(g:FG)(ft:FT)(fe:FE):FA:=λρ=>match s ρ with
 |some (ds,ρ')=>if ds.length<=1000 then xq k cap g ft fe ds ρ' else none
 |none=>none
def uS:FT:=λρ=>some (true,ρ)
theorem zM:∀{cap:List Nat} {ts ρ ρ':bb},wD cap ts ρ=some ρ'->ρ'.length=ρ.length/\
  (∀(j:Nat) (s':Sl),ρ'[j]?=some s'->∃s,ρ[j]?=some s/\((s'=s/\(s.L≠none->j∉cap))\/∃(m:Nat) (ds ds0:aS),cap[m]?=some j/\ts[m]?=some (Sl.pm ds)/\s.L=some ds0/\s'=s.putL ds))
 |[],ts,ρ,ρ',h=>by cases h;exact⟨rfl,λj s' e=>⟨s',e,.inl ⟨rfl,λ_ z=>by cases z⟩⟩⟩
 |j0::cap,[],ρ,ρ',h=>by cases h
 |j0::cap,t::ts,ρ,ρ',h=>by
  unfold wD at h;cases e0:vv ρ j0 with
  |none=>
   simp only[e0]at h;obtain⟨h1,h2⟩:=zM h;refine⟨h1,λj s' e=>?_⟩;obtain⟨s,e1,q⟩:=h2 j s' e;refine⟨s,e1,?_⟩;rcases q with ⟨rfl,q⟩|⟨m,ds,ds0,q1,q2,q3,q4⟩
   ·refine .inl ⟨rfl,λz y=>?_⟩;rcases aN.mp y with y|y
    ·subst y;unfold vv at e0;rw[e1]at e0;exact z e0
    ·exact q z y
   ·exact .inr ⟨m+1,ds,ds0,q1,q2,q3,q4⟩
  |some ds1=>
   simp only[e0]at h;cases t with
   |pm ds=>
    simp only at h;obtain⟨s0,e1,e2⟩:=wt e0;unfold putAt at h;rw[e1]at h;simp only at h;obtain⟨h1,h2⟩:=zM h;refine⟨by rw[h1,fo],λj s' e=>?_⟩;obtain⟨s,e3,q⟩:=h2 j s' e;by_cases hj:j0=j
    ·subst hj;rw[bX,ah rfl]at e3;split at e3
     ·cases e3;refine⟨s0,e1,.inr ?_⟩;rcases q with ⟨rfl,q⟩|⟨m,ds',ds0,q1,q2,q3,q4⟩
      ·exact⟨0,ds,ds1,rfl,rfl,e2,rfl⟩
      ·refine⟨m+1,ds',ds1,q1,q2,e2,?_⟩;rw[q4];cases s0<;>rfl
     ·cases e3
    ·rw[bX,ai hj]at e3;refine⟨s,e3,?_⟩;rcases q with ⟨rfl,q⟩|⟨m,ds',ds0,q1,q2,q3,q4⟩
     ·refine .inl ⟨rfl,λz y=>?_⟩;rcases aN.mp y with y|y
      ·exact hj y.symm
      ·exact q z y
     ·exact .inr ⟨m+1,ds',ds0,q1,q2,q3,q4⟩
   |_=>cases h
def Gh(cap:List Nat)(σ:St)(ρ:bb):List Addr:=cap.filterMap λj=>match vv ρ j,(σ[j]?).join with
 |some _,some (.ref a)=>some a
 |_,_=>none
theorem AA:a∈Gh cap σ ρ ↔ ∃j∈cap,(∃ds,vv ρ j=some ds)/\(σ[j]?).join=some (.ref a):=by
 unfold Gh;rw[iG];constructor
 ·rintro⟨j,hj,e⟩;refine⟨j,hj,?_⟩;split at e
  ·rename_i ds a' e1 e2;cases e;exact⟨⟨ds,e1⟩,e2⟩
  ·cases e
 ·rintro⟨j,hj,⟨ds,e1⟩,e2⟩;refine⟨j,hj,?_⟩;rw[e1,e2]
section
variable{X:Cx}{G:Bg}{F:Fr}{σ:St}{ρ:bb}{H0 H:Hp}
theorem E9(h:(BC k cap ρ)[i]?=some s):s=.un\/∃m j,i=k+m/\cap[m]?=some j/\s=((ρ[j]?).getD .un).cap:=by
 unfold BC at h;by_cases hi:i<k
 ·rw[cH (by simpa using hi),gE,ah hi]at h;cases h;exact .inl rfl
 ·rw[cG (by simpa using oU hi),cz,bc]at h;cases e:cap[i - k]? with
  |none=>rw[e]at h;cases h
  |some j=>rw[e]at h;cases h;exact .inr ⟨i - k,j,by omega,e,rfl⟩
theorem BW(h:cap[m]?=some j):((w6 k cap σ)[k+m]?).join=(σ[j]?).join:=by unfold w6;rw[cG (by simp),cz,show k+m - k=m by omega,bc,h];rfl
theorem tW.cap(R:tW G F σ ρ H0 H)(k:Nat)(cap:List Nat)(nd:cap.Nodup):tW G ⟨H0,H,Gh cap σ ρ⟩ (w6 k cap σ) (BC k cap ρ) H0 H where
 sub:=R.sub
 g0:=tT.refl _
 keep:=λb o e _=>e
 fr:=λb o e=>.inl e
 am:=λa ha=>by obtain⟨j,hj,⟨ds,e1⟩,e2⟩:=AA.mp ha;obtain⟨s,e3,e4⟩:=wt e1;obtain⟨a',xs,h1,h2,_⟩:=(R.sl j s e3).lst e4;rw[e2]at h1;cases h1;exact⟨_,h2⟩
 len:=by unfold w6 BC;rw[aB,aB,cz,cz,af,af]
 sl:=λi s e=>by
  rcases E9 e with rfl|⟨m,j,rfl,e1,rfl⟩
  ·trivial
  ·rw[BW e1];cases e2:ρ[j]? with
   |none=>trivial
   |some s=>
    have ok:=R.sl j s e2;have mem:∀{a:Addr} {ds:aS},s.L=some ds->(σ[j]?).join=some (.ref a)->a∈Gh cap σ ρ:=λh1 h2=>AA.mpr ⟨j,bU e1,⟨_,by unfold vv;rw[e2];exact h1⟩,h2⟩;cases s with
    |un=>trivial
    |im d=>exact ok
    |ls ds=>obtain⟨a,xs,h1,h2,h3,h4,h5⟩:=ok;exact⟨a,xs,h1,h2,h3,mem rfl h1,h5⟩
    |pm ds=>obtain⟨a,xs,h1,h2,h3,h4,h5⟩:=ok;exact⟨a,xs,h1,h2,h3,mem rfl h1,h5⟩
    |dk ks ds=>trivial
    |ob c ns ds=>trivial
 ap:=λi i' s t a hii e e' so to v v'=>by
  rcases E9 e with rfl|⟨m,j,rfl,e1,rfl⟩
  ·cases so
  rcases E9 e' with rfl|⟨m',j',rfl,e1',rfl⟩
  ·cases to
  rw[BW e1]at v;rw[BW e1']at v';have own:∀{j:Nat},(((ρ[j]?).getD Sl.un).cap).own=true->∃s,ρ[j]?=some s/\s.own=true:=λ{j} h=>by
   cases z:ρ[j]? with
   |none=>rw[z]at h;cases h
   |some s=>rw[z]at h;refine⟨s,rfl,?_⟩;cases s<;>first|rfl|cases h
  obtain⟨s,z,zo⟩:=own so;obtain⟨s',z',zo'⟩:=own to;by_cases hj:j=j'
  ·subst hj;have:m=m':=(List.getElem?_inj (bO.mp e1).1 nd).mp (e1.trans e1'.symm);exact hii (by rw[this])
  ·exact R.ap j j' s s' a hj z z' zo zo' v v'
theorem tW.uncap(R:tW G F σ ρ H0 H){k:Nat}{cap:List Nat}{σ4:St}{ρ4 ρ':bb}{H1 H1':Hp}(R4:tW G ⟨H0,H,Gh cap σ ρ⟩ σ4 ρ4 H1 H1')(hd:σ4.drop k=(w6 k cap σ).drop k)(hu:wD cap (ρ4.drop k) ρ=some ρ'):tW G F σ ρ' H1 H1':=by
 obtain⟨hl,hc⟩:=zM hu;have at4:∀{m j:Nat},cap[m]?=some j->(σ4[k+m]?).join=(σ[j]?).join:=λ{m j} e=>by
  have q:(σ4.drop k)[m]?=((w6 k cap σ).drop k)[m]?:=by rw[hd]
  rw[df,df]at q;rw[q];exact BW e
 have nA:∀{j:Nat} {s:Sl} {a:Addr},ρ[j]?=some s->s.own=true->(σ[j]?).join=some (.ref a)->(s.L≠none->j∉cap)->a∉Gh cap σ ρ:=λ{j s a} e so z hn ha=>by
  obtain⟨i,hi,⟨ds,e1⟩,e2⟩:=AA.mp ha;obtain⟨t,e3,e4⟩:=wt e1;by_cases hij:i=j
  ·subst hij;rw[e]at e3;cases e3;exact hn (by rw[e4];simp) hi
  ·exact R.ap i j t s a hij e3 e (Sl.L_own e4) so e2 z
 have hA:∀a∈Gh cap σ ρ,F.B a=none\/a∈F.A:=λa ha=>by obtain⟨i,hi,⟨ds,e1⟩,e2⟩:=AA.mp ha;obtain⟨t,e3,e4⟩:=wt e1;obtain⟨a',u,h1,h2,h3,h4⟩:=(R.sl i t e3).at (Sl.L_own e4);rw[e2]at h1;cases h1;exact h4
 have own':∀{j:Nat} {s':Sl},ρ'[j]?=some s'->s'.own=true->∃s,ρ[j]?=some s/\s.own=true:=λ{j s'} e so=>by
  obtain⟨s,e1,q⟩:=hc j s' e;rcases q with ⟨rfl,q⟩|⟨m,ds,ds0,q1,q2,q3,q4⟩
  ·exact⟨s',e1,so⟩
  ·exact⟨s,e1,Sl.L_own q3⟩
 exact {
  sub:=R4.sub
  g0:=R.g0.trans R4.g0
  keep:=λb o e n=>by
   refine R4.keep b o (R.keep b o e n) λha=>?_;rcases hA b ha with q|q
   ·rw[q]at e;cases e
   ·exact n q
  fr:=λb o e=>by
   rcases R4.fr b o e with q|q
   ·exact R.fr b o q
   ·exact .inr (R.bNone q)
  am:=λa ha=>by
   obtain⟨o,q⟩:=R.am a ha;by_cases z:a∈Gh cap σ ρ
   ·exact R4.am a z
   ·exact⟨o,R4.keep a o q z⟩
  len:=by rw[hl];exact R.len
  sl:=λj s' e=>by
   obtain⟨s,e1,q⟩:=hc j s' e;rcases q with ⟨rfl,q⟩|⟨m,ds,ds0,q1,q2,q3,q4⟩
   ·refine(R.sl j s' e1).grow R4.g0 (λa u z so y=>R4.keep a u y (nA e1 so z q)) λa u z so y y0=>?_;cases w:H1 a with
    |none=>rfl
    |some o=>
     rcases R4.fr a o w with x|x
     ·have x':H0 a=some o:=x;rw[x']at y0;cases y0
     ·have x':H a=none:=x;rw[x']at y;cases y
   ·rw[df]at q2;obtain⟨a,xs,h1,h2,h3,h4,h5⟩:=R4.sl _ _ q2;rw[at4 q1]at h1;have ok:=R.sl j s e1;subst q4;cases s with
    |ls ds1=>obtain⟨a',xs',g1,g2,g3,g4,g5⟩:=ok;rw[h1]at g1;cases g1;exact⟨a,xs,h1,h2,h3,g4,h5⟩
    |pm ds1=>obtain⟨a',xs',g1,g2,g3,g4,g5⟩:=ok;rw[h1]at g1;cases g1;exact⟨a,xs,h1,h2,h3,g4,h5⟩
    |_=>cases q3
  ap:=λi j s t a hij ei ej so to v v'=>by
   obtain⟨s0,z,zo⟩:=own' ei so;obtain⟨t0,y,yo⟩:=own' ej to;exact R.ap i j s0 t0 a hij z y zo yo v v' }
theorem AB{k:Nat}(h:Apart σ ρ p)(hu:wD cap ts ρ=some ρ'):Apart σ ρ' p:=λi s' e so=>by
 obtain⟨s,e1,q⟩:=(zM hu).2 i s' e;rcases q with ⟨rfl,q⟩|⟨m,ds,ds0,q1,q2,q3,q4⟩
 ·exact h i s' e1 so
 ·exact h i s e1 (Sl.L_own q3)
inductive CI(G:Bg) (F:Fr) (σ:St) (H1:Hp) (p:Addr) (k:Nat) (cap:List Nat) (g:FG) (ft:FT) (fe:FE) (ds es:aS) (ρ':bb) (i m:Nat) (acc:bG) (H2:Hp):Prop
 |mk (ρi:bb) (Hi:Hp) (dn rest:aS):m=ds.length - i->i<=ds.length->tT H1 Hi->tW G F σ ρi Hi H2->H2 p=some (.lst acc)->Hi p=none->Apart σ ρi p->tL G Hi dn acc->dn.length<=i->xq k cap g ft fe (ds.drop i) ρi=some (rest,ρ')->es=dn++rest->CI G F σ H1 p k cap g ft fe ds es ρ' i m acc H2
theorem LZ{cap:List Nat}(nd:cap.Nodup):∀σ H Q,tFN G (ue k cap s g ft fe) σ H Q->EZ (tFI G s) (tFG G k g) (tFT G ft) (tF G fe) k cap σ H Q:=λσ H Q hh=>by
 obtain⟨F,ρ,H0,es,ρ',R,e,kk⟩:=hh;unfold ue at e;rcases uf (f:=s) (ρ:=ρ)with e1|⟨ds,ρ1,e1⟩<;>simp only[e1]at e
 ·cases e
 ·split at e
  ·rename_i hlen;refine⟨F,ρ,H0,ds,ρ1,R,e1,λJ H1 H1' s1 R1 wk p hp=>?_⟩;refine⟨CI G F σ H1 p k cap g ft fe ds es ρ',
    ⟨_,ρ1,H1,[],es,rfl,bA _,tT.refl _,R1.newOwn hp _,tP,R1.h0none hp,R1.apart hp,uj,ay _,e,rfl⟩,?_⟩
   rintro i m acc H2 ⟨ρi,Hi,dn,rest,rfl,hi,si,Ri,hp2,hp0,apt,rs,hdn,ei,rfl⟩;by_cases hlt:i<ds.length
   ·have ed:ds.drop i=ds[i]::ds.drop (i+1):=jt hlt;rw[ed]at ei;unfold xq at ei;obtain⟨go,yl⟩:=(wk i Hi H2 si Ri.sub).1 ds[i] (aJ hlt);refine .inr ⟨go,λx H3 y=>?_⟩;obtain⟨Hj,t1,t2,t3,t4,t5⟩:=yl x H3 y;have R2:=Ri.grow t3 t1 t2 t4;have hp3:H3 p=some (.lst acc):=t3 _ _ hp2;have hpj:Hj p=none:=by
     cases w:Hj p with
     |none=>rfl
     |some o=>
      rcases t4 p o w with z|z
      ·rw[hp0]at z;cases z
      ·rw[hp2]at z;cases z
    have RC:=R2.cap k cap nd;have npA:p∉Gh cap σ ρi:=λz=>by obtain⟨j,_,⟨ds',q1⟩,q2⟩:=AA.mp z;obtain⟨t,q3,q4⟩:=wt q1;exact apt j t q3 (Sl.L_own q4) q2
    cases e2:g ds[i] (BC k cap ρi)with
    |none=>simp only[e2]at ei;cases ei
    |some ρ2=>
     simp only[e2]at ei;refine⟨_,_,Hj,ds[i],ρ2,RC,t5,e2,λσ4 hd4 R4=>⟨hd4,?_⟩⟩;rcases uf (f:=ft) (ρ:=ρ2)with e3|⟨b,ρ3,e3⟩
     ·simp only[e3]at ei;cases ei
     ·refine⟨_,ρ2,Hj,b,ρ3,R4,e3,λH5 H5' s5 R5=>?_⟩;have keepP:∀{σ':St} {ρ'':bb} {Ha Ha':Hp},tW G ⟨Hj,H3,Gh cap σ ρi⟩ σ' ρ'' Ha Ha'->Ha' p=some (.lst acc)/\Ha p=none:=λRz=>by
       refine⟨Rz.keep p _ hp3 npA,?_⟩;refine Option.eq_none_iff_forall_ne_some.mpr λo w2=>?_;rcases Rz.fr p o w2 with z|z
       ·have z':Hj p=some o:=z;rw[hpj]at z';cases z'
       ·have z':H3 p=none:=z;rw[hp3]at z';cases z'
      cases b with
      |false=>
       simp only[e3]at ei;refine HL ?_;cases e4:wD cap (ρ3.drop k) ρi with
       |none=>simp only[e4]at ei;cases ei
       |some ρn=>simp only[e4]at ei;obtain⟨w1,w2⟩:=keepP R5;exact⟨ds.length - (i+1),by omega,ρn,H5,dn,rest,rfl,hlt,si.trans (t1.trans s5),R2.uncap R5 hd4 e4,w1,w2,AB (k:=k) apt e4,tL.mono (t1.trans s5) _ _ rs,by omega,ei,rfl⟩
      |true=>
       simp only[e3]at ei;refine HM ?_;rcases uf (f:=fe) (ρ:=ρ3)with e5|⟨x5,ρ5,e5⟩
       ·simp only[e5]at ei;cases ei
       ·simp only[e5]at ei;refine⟨_,ρ3,H5,x5,ρ5,R5,e5,λv H6 H6' s6 R6 rv=>?_⟩;obtain⟨w1,w2⟩:=keepP R6;cases e4:wD cap (ρ5.drop k) ρi with
        |none=>simp only[e4]at ei;cases ei
        |some ρn=>
         simp only[e4]at ei;cases e6:xq k cap g ft fe (ds.drop (i+1)) ρn with
         |none=>simp only[e6]at ei;cases ei
         |some q=>
          obtain⟨rest',ρz⟩:=q;simp only[e6]at ei;cases ei;have Rn:=R2.uncap R6 hd4 e4;have lacc:acc.length=dn.length:=(tN rs).symm;refine⟨acc,w1,A5 (by omega),ds.length - (i+1),by omega,ρn,H6,dn++[x5],rest',rfl,hlt,si.trans (t1.trans (s5.trans s6)),?_,tP,w2,AB (k:=k) apt e4,vt (tL.mono (t1.trans (s5.trans s6)) _ _ rs) (uk rv uj),by rw[aB,bh];omega,e6,by rw[bD];rfl⟩;exact {
           sub:=λb o e=>by rw[tR (λz=>by rw[z,w2]at e;cases e)];exact Rn.sub b o e
           g0:=Rn.g0
           keep:=λb o e n=>by rw[tR (λz=>by subst z;rw[R1.bNone hp]at e;cases e)];exact Rn.keep b o e n
           fr:=Rn.fr
           am:=λb hb=>by
            by_cases z:b=p
            ·subst z;exact⟨_,tP⟩
            ·rw[tR z];exact Rn.am b hb
           len:=Rn.len
           sl:=λj t ej=>(Rn.sl j t ej).grow (tT.refl _) (λb u z to q=>by rw[tR (λy=>AB (k:=k) apt e4 j t ej to (by rw[z,y]))];exact q) λb u _ _ _ q=>q
           ap:=Rn.ap }
   ·have ez:ds.drop i=[]:=nz (by omega);rw[ez]at ei;unfold xq at ei;cases ei;rw[bq]at kk;exact .inl ⟨(wk i Hi H2 si Ri.sub).2 (by omega),kk p acc Hi H2 (s1.trans si) Ri hp2 hp0 (R1.bNone hp) apt rs⟩
  ·cases e
theorem Pb{cap:List Nat}(nd:cap.Nodup)(h:PE X e (EZ (tFI G s) (tFG G k g) (tFT G ft) (tF G fe) k cap)):PE X e (tFN G (ue k cap s g ft fe)):=PE.weak h (LZ nd)
theorem Pc:PIf X [] (tFT G uS):=λwv s σ H Q I h=>by obtain⟨F,ρ,H0,b,ρ',R,e,k⟩:=h;cases e;exact R9 wv s σ H Q I (k _ _ (tT.refl _) R)
end
def v9:D->Bool
 |.non=>true|.bl _=>true|.int _=>true|.str _=>true|_=>false
def vD:D->V
 |.non=>.non|.bl b=>.bl b|.int i=>.int i|.str x=>.str x|_=>.non
section
variable{X:Cx}{G:Bg}{H:Hp}
theorem xJ(h:Rep G H d v)(f:v9 d=true):v=vD d:=by cases d<;>first|(unfold Rep at h;exact h)|cases f
theorem BX(f:v9 d=true):∀H,Rep G H d (vD d):=λH=>by cases d<;>first|(unfold Rep;rfl)|cases f
theorem CY:∀{ds:aS} {xs:bG},tL G H ds xs->ds.all v9=true->xs=ds.map vD
 |[],xs,h,f=>by unfold tL at h;exact h
 |d::ds,xs,h,f=>by unfold tL at h;obtain⟨v,r,rfl,h1,h2⟩:=h;rw[gY,aZ]at f;rw[aE,xJ h1 f.1,CY h2 f.2]
theorem Jy(f:v9 d=true):Bk (vD d)=true:=by cases d<;>first|rfl|cases f
theorem GT:∀{ds:aS},ds.all v9=true->(ds.map vD).all Bk=true
 |[],_=>rfl
 |d::ds,f=>by rw[gY,aZ]at f;rw[aE,gY,Jy f.1,GT f.2];rfl
theorem OpR.or(h:OpR X f r)(h':OpR X f r'):OpR X f (λx y H Q=>r x y H Q\/r' x y H Q):=λwv s σ H x y v u Q I rx ry q=>q.elim (h wv s σ H x y v u Q I rx ry) (h' wv s σ H x y v u Q I rx ry)
theorem OpD.or(h:OpD G r g)(h':OpD G r' g'):OpD G (λx y H Q=>r x y H Q\/r' x y H Q) (λx y=>match g x y with|some z=>some z|none=>g' x y):=λx y z H0 H v u Q e s rx ry k=>by
 cases e1:g x y with
 |some w=>simp only[e1]at e;cases e;exact .inl (h x y _ H0 H v u Q e1 s rx ry k)
 |none=>simp only[e1]at e;exact .inr (h' x y z H0 H v u Q e s rx ry k)
def dI(C:Int->Int->Bool)(g:Int->Int->D):D->D->Option D
 |.int a,.int b=>if C a b=true then some (g a b)else none
 |_,_=>none
theorem L0(hC:∀a b,C a b=true->C' a b)(hf:∀a b,v9 (g a b)=true/\vD (g a b)=g' a b):OpD G (rI C' g') (dI C g):=λx y z H0 H v u Q e s rx ry k=>by
 unfold dI at e;split at e
 ·rename_i a b;split at e
  ·rename_i hc;cases e;unfold Rep at rx ry;exact⟨a,b,rx,ry,hC _ _ hc,by rw[<-(hf a b).2];exact k _ λH0' _=>BX (hf a b).1 H0'⟩
  ·cases e
 ·cases e
theorem CZ(hf:∀a b,v9 (g a b)=true/\vD (g a b)=g' a b):OpD G (rI0 g') (dI (λ_ _=>true) g):=λx y z H0 H v u Q e s rx ry k=>by
 unfold dI at e;split at e
 ·rename_i a b;split at e
  ·cases e;unfold Rep at rx ry;exact⟨a,b,rx,ry,by rw[<-(hf a b).2];exact k _ λH0' _=>BX (hf a b).1 H0'⟩
  ·cases e
 ·cases e
def uP:=dI (λ_ _=>true) λa b=>.int (a+b)
def Jz:=dI (λ_ _=>true) λa b=>.int (a - b)
def BD(a:Int):Bool:=decide (-(2 ^ 64)<a)&&decide (a<2 ^ 64)
def xK:=dI (λa b=>BD a||BD b) λa b=>.int (a * b)
def wa:=dI (λ_ b=>decide (0<b)) λa b=>.int (a % b)
def Bn:=dI (λ_ b=>decide (0<b)&&decide (b<1073741824)) λa b=>.int (a / b)
def DC:=dI (λa b=>decide (0<=b)&&decide (b<=1000000)&&decide (a.natAbs<2 ^ 64)) λa b=>.int (a ^ b.toNat)
def Bh:=dI (λ_ _=>true) λa b=>.bl (decide (a<b))
def yZ:=dI (λ_ _=>true) λa b=>.bl (decide (a<=b))
def Fb:=dI (λ_ _=>true) λa b=>.bl (decide (b<a))
def Wh:=dI (λ_ _=>true) λa b=>.bl (decide (b<=a))
theorem Wi:OpD G (rI0 λi j=>.int (i+j)) uP:=CZ λ_ _=>⟨rfl,rfl⟩
theorem Wj:OpD G (rI0 λi j=>.int (i - j)) Jz:=CZ λ_ _=>⟨rfl,rfl⟩
theorem Wk:OpD G (rI RI λi j=>.int (i * j)) xK:=L0 (λa b h=>by
 unfold BD at h;simp only[jP,aZ,bR]at h;exact h) λ_ _=>⟨rfl,rfl⟩
theorem Wl:OpD G (rI (λ_ j=>0<j) λi j=>.int (i % j)) wa:=L0 (λa b h=>by simpa using h) λ_ _=>⟨rfl,rfl⟩
theorem Wm:OpD G (rI Vz λi j=>.int (i / j)) Bn:=L0 (λa b h=>by unfold Vz;simpa using h) λ_ _=>⟨rfl,rfl⟩
theorem Wn:OpD G (rI Zr λi j=>.int (i ^ j.toNat)) DC:=L0 (λa b h=>by
 simp only[aZ,bR]at h;exact⟨h.1.1,h.1.2,h.2⟩) λ_ _=>⟨rfl,rfl⟩
theorem aaa:OpD G (rI0 λi j=>.bl (decide (i<j))) Bh:=CZ λ_ _=>⟨rfl,rfl⟩
theorem aab:OpD G (rI0 λi j=>.bl (decide (i<=j))) yZ:=CZ λ_ _=>⟨rfl,rfl⟩
theorem aac:OpD G (rI0 λi j=>.bl (decide (j<i))) Fb:=CZ λ_ _=>⟨rfl,rfl⟩
theorem aad:OpD G (rI0 λi j=>.bl (decide (j<=i))) Wh:=CZ λ_ _=>⟨rfl,rfl⟩
def abt:D->D->Option D
 |.str a,.str b=>if a.length+b.length<=100000 then some (.str (a++b))else none
 |_,_=>none
theorem JA(h:n<=100000):n<=aG:=bM h (by rw[bN];decide)
def Pd:D->D->Option D
 |.str a,.str b=>some (.bl (!decide (b.cps.toList<a.cps.toList)))
 |_,_=>none
theorem Wo:OpD G (λx y H Q=>∃i j,x=.str i/\y=.str j/\Q (.bl (!decide (j.cps.toList<i.cps.toList))) H) Pd:=λx y z H0 H v u Q e s rx ry k=>by
 unfold Pd at e;split at e
 ·rename_i a b;cases e;unfold Rep at rx ry;exact⟨a,b,rx,ry,k _ λ_ _=>wC _⟩
 ·cases e
def Bi:D->D->Option D
 |.non,.non=>some (.bl true)
 |_,.non=>some (.bl false)
 |_,_=>none
def L1:D->D->Option D
 |.non,.non=>some (.bl false)
 |_,.non=>some (.bl true)
 |_,_=>none
theorem L6(h:Rep G H d v):decide (v=.non)=(match d with|.non=>true|_=>false):=by
 cases d<;>unfold Rep at h
 ·subst h;rfl
 ·subst h;rfl
 ·subst h;rfl
 ·subst h;rfl
 ·obtain⟨a,xs,rfl,_⟩:=h;rfl
 ·obtain⟨a,xs,rfl,_⟩:=h;rfl
 ·obtain⟨a,xs,rfl,_⟩:=h;rfl
 ·obtain⟨a,dx,xs,rfl,_⟩:=h;rfl
 ·obtain⟨a,ob,xs,rfl,_⟩:=h;rfl
theorem Wp:OpD G (λx y H Q=>y=.non/\Q (.bl (decide (x=.non))) H) Bi:=λx y z H0 H v u Q e s rx ry k=>by
 have e0:=L6 rx;cases y<;>first|(cases x<;>cases e)|skip
 all_goals (unfold Rep at ry;refine⟨ry,?_⟩;rw[e0];exact k _ λ_ _=>wC _)
theorem SR:OpD G (λx y H Q=>y=.non/\Q (.bl (!decide (x=.non))) H) L1:=λx y z H0 H v u Q e s rx ry k=>by
 have e0:=L6 rx;cases y<;>first|(cases x<;>cases e)|skip
 all_goals (unfold Rep at ry;refine⟨ry,?_⟩;rw[e0];exact k _ λ_ _=>wC _)
def aa6:D->D->Option D
 |.bl a,.bl b=>some (.bl (a != b))
 |_,_=>none
mutual
def toD:D->Option L3.Dq
 |.non=>some .non
 |.bl b=>some (.bl b)
 |.int i=>some (.int i)
 |.str x=>some (.str x)
 |.tup ds=>match BE ds with
  |some l=>some (.tup l)
  |none=>none
 |.lst ds=>match BE ds with
  |some l=>some (.lst l)
  |none=>none
 |.fzl _=>none
 |.obj _ _ _=>none
 |.dic _ _=>none
def BE:aS->Option (List L3.Dq)
 |[]=>some []
 |d::ds=>match toD d with
  |some x=>match BE ds with
   |some l=>some (x::l)
   |none=>none
  |none=>none
end
mutual
theorem HR:∀(d:D) (v:V) (x:L3.Dq),Rep G H d v->toD d=some x->L3.Rep G.K H x v
 |.non,v,x,h,e=>by unfold toD at e;cases e;unfold Rep at h;unfold L3.Rep;exact h
 |.bl b,v,x,h,e=>by unfold toD at e;cases e;unfold Rep at h;unfold L3.Rep;exact h
 |.int b,v,x,h,e=>by unfold toD at e;cases e;unfold Rep at h;unfold L3.Rep;exact h
 |.str b,v,x,h,e=>by unfold toD at e;cases e;unfold Rep at h;unfold L3.Rep;exact h
 |.tup ds,v,x,h,e=>by
  unfold toD at e;cases e1:BE ds with
  |none=>simp only[e1]at e;cases e
  |some l=>simp only[e1]at e;cases e;unfold Rep at h;obtain⟨a,xs,rfl,h1,h2⟩:=h;unfold L3.Rep;exact⟨a,xs,rfl,h1,Fc ds xs l h2 e1⟩
 |.lst ds,v,x,h,e=>by
  unfold toD at e;cases e1:BE ds with
  |none=>simp only[e1]at e;cases e
  |some l=>simp only[e1]at e;cases e;unfold Rep at h;obtain⟨a,xs,rfl,h1,h2⟩:=h;unfold L3.Rep;exact⟨a,xs,rfl,SqL.of h1,Fc ds xs l h2 e1⟩
 |.fzl _,v,x,h,e=>by unfold toD at e;cases e
 |.obj _ _ _,v,x,h,e=>by unfold toD at e;cases e
 |.dic _ _,v,x,h,e=>by unfold toD at e;cases e
theorem Fc:∀(ds:aS) (xs:bG) (l:List L3.Dq),tL G H ds xs->BE ds=some l->L3.tL G.K H l xs
 |[],xs,l,h,e=>by unfold BE at e;cases e;unfold tL at h;unfold L3.tL;exact h
 |d::ds,xs,l,h,e=>by
  unfold BE at e;cases e1:toD d with
  |none=>simp only[e1]at e;cases e
  |some x=>
   simp only[e1]at e;cases e2:BE ds with
   |none=>simp only[e2]at e;cases e
   |some l'=>simp only[e2]at e;cases e;unfold tL at h;obtain⟨v,r,rfl,h1,h2⟩:=h;unfold L3.tL;exact⟨v,r,rfl,HR d v x h1 e1,Fc ds r l' h2 e2⟩
end
def Gi(neg:Bool):D->D->Option D:=λx y=>match v9 x&&v9 y&&Os (vD x) (vD y)with
 |true=>some (.bl (if neg then !decide (vD x=vD y)else decide (vD x=vD y)))
 |false=>none
def JB(neg:Bool):D->D->Option D:=λx y=>match toD x,toD y with
 |some a,some b=>if Jn a b&&decide (dpt a<=20)&&decide (dpt b<=20)then some (.bl (if neg then !eqD a b else eqD a b))else none
 |_,_=>none
def dEq(neg:Bool):D->D->Option D:=λx y=>match Gi neg x y with
 |some z=>some z
 |none=>JB neg x y
theorem Wq:OpD G rEq (Gi false):=λx y z H0 H v u Q e s rx ry k=>by
 unfold Gi at e;cases e1:v9 x&&v9 y&&Os (vD x) (vD y)with
 |false=>simp only[e1]at e;cases e
 |true=>simp only[e1]at e;cases e;simp only[aZ]at e1;rw[xJ rx e1.1.1,xJ ry e1.1.2];exact⟨e1.2,k _ λ_ _=>wC _⟩
theorem Wr:OpD G rNe (Gi true):=λx y z H0 H v u Q e s rx ry k=>by
 unfold Gi at e;cases e1:v9 x&&v9 y&&Os (vD x) (vD y)with
 |false=>simp only[e1]at e;cases e
 |true=>simp only[e1]at e;cases e;simp only[aZ]at e1;rw[xJ rx e1.1.1,xJ ry e1.1.2];exact⟨e1.2,k _ λ_ _=>wC _⟩
theorem Pe:OpD G (KP G.K neg) (JB neg):=λx y z H0 H v u Q e s rx ry k=>by
 unfold JB at e;cases e1:toD x with
 |none=>simp only[e1]at e;cases e
 |some a=>
  cases e2:toD y with
  |none=>simp only[e1,e2]at e;cases e
  |some b=>
   simp only[e1,e2]at e;split at e
   ·rename_i hc;cases e;simp only[aZ,bR]at hc;exact⟨a,b,HR x v a (Rep.mono s _ _ rx) e1,HR y u b (Rep.mono s _ _ ry) e2,hc.1.1,hc.1.2,hc.2,k _ λ_ _=>wC _⟩
   ·cases e
theorem Ws(hu:X.A.units+64<cLine)(hK:X.K=G.K:=by rfl):OpR X (br .Eq) (λx y H Q=>rEq x y H Q\/KP G.K false x y H Q):=by rw[<-hK];exact OpR.or Zs (V1 hu)
theorem Wt(hu:X.A.units+64<cLine)(hK:X.K=G.K:=by rfl):OpR X (br .NotEq) (λx y H Q=>rNe x y H Q\/KP G.K true x y H Q):=by rw[<-hK];exact OpR.or Zt (V2 hu)
theorem aae:OpD G (λx y H Q=>rEq x y H Q\/KP G.K false x y H Q) (dEq false):=OpD.or Wq Pe
theorem aaf:OpD G (λx y H Q=>rNe x y H Q\/KP G.K true x y H Q) (dEq true):=OpD.or Wr Pe
def Pf:D->Option aS
 |.tup ds=>some ds
 |.lst ds=>some ds
 |.fzl ds=>some ds
 |_=>none
theorem L7(h:Rep G H d v)(e:Pf d=some ds):∃p xs,v=.ref p/\(SqL G.K H p xs\/SqT G.K H p xs)/\tL G H ds xs:=by
 cases d with
 |tup l=>cases e;unfold Rep at h;obtain⟨a,xs,rfl,h1,h2⟩:=h;exact⟨a,xs,rfl,.inr h1,h2⟩
 |lst l=>cases e;unfold Rep at h;obtain⟨a,xs,rfl,h1,h2⟩:=h;exact⟨a,xs,rfl,.inl (SqL.of h1),h2⟩
 |fzl l=>cases e;unfold Rep at h;obtain⟨a,xs,rfl,h1,h2⟩:=h;exact⟨a,xs,rfl,.inl h1,h2⟩
 |_=>cases e
def dIn(neg:Bool):D->D->Option D:=λx y=>match Pf y with
 |some ds=>if v9 x&&ds.all v9 then some (.bl (if neg then !inV (vD x) (ds.map vD)else inV (vD x) (ds.map vD)))else none
 |none=>none
theorem L8{K:au}(s:tT H H')(h:SqL K H p xs\/SqT K H p xs):SqL K H' p xs\/SqT K H' p xs:=h.imp s.seq (SqT.mono s)
theorem UR:OpD G (rIn G.K neg) (dIn neg):=λx y z H0 H v u Q e s rx ry k=>by
 unfold dIn at e;cases e1:Pf y with
 |none=>simp only[e1]at e;cases e
 |some ds=>
  simp only[e1]at e;split at e
  ·rename_i hc;cases e;simp only[aZ]at hc;obtain⟨p,xs,rfl,h1,h2⟩:=L7 ry e1;refine⟨p,xs,rfl,L8 s h1,?_,?_,?_⟩
   ·rw[xJ rx hc.1];exact Jy hc.1
   ·rw[CY h2 hc.2];exact GT hc.2
   ·rw[xJ rx hc.1,CY h2 hc.2];exact k _ λ_ _=>wC _
  ·cases e
theorem Wu(hK:X.K=G.K:=by rfl):OpR X (br .In) (rIn G.K false):=by rw[<-hK];exact Ng
theorem NA(hK:X.K=G.K:=by rfl):OpR X (br .NotIn) (rIn G.K true):=by rw[<-hK];exact HE
def dIx:D->D->Option D
 |.tup ds,.int i=>atI ds i
 |.lst ds,.int i=>atI ds i
 |.fzl ds,.int i=>atI ds i
 |.str x,.int i=>if x.length<=100000 then (atI x.cps.toList i).map λc=>.str ⟨#[c]⟩else none
 |_,_=>none
theorem aag:OpD G (rIx G.K) dIx:=λx y z H0 H v u Q e s rx ry k=>by
 cases y with
 |int i=>
  unfold Rep at ry;subst ry;cases x with
  |tup ds=>unfold Rep at rx;obtain⟨a,xs,rfl,h1,h2⟩:=rx;obtain⟨w,w1,w2⟩:=BV h2 (show atI ds i=some z from e);exact .inr (.inl ⟨a,xs,i,w,rfl,rfl,SqT.mono s h1,w1,k _ λH0' s'=>Rep.mono s' _ _ w2⟩)
  |lst ds=>unfold Rep at rx;obtain⟨a,xs,rfl,h1,h2⟩:=rx;obtain⟨w,w1,w2⟩:=BV h2 (show atI ds i=some z from e);exact .inl ⟨a,xs,i,w,rfl,rfl,s.seq (SqL.of h1),w1,k _ λH0' s'=>Rep.mono s' _ _ w2⟩
  |fzl ds=>unfold Rep at rx;obtain⟨a,xs,rfl,h1,h2⟩:=rx;obtain⟨w,w1,w2⟩:=BV h2 (show atI ds i=some z from e);exact .inl ⟨a,xs,i,w,rfl,rfl,s.seq h1,w1,k _ λH0' s'=>Rep.mono s' _ _ w2⟩
  |str t=>
   unfold Rep at rx;subst rx;unfold dIx at e;simp only at e;split at e
   ·rename_i hl;cases e1:atI t.cps.toList i with
    |none=>rw[e1]at e;cases e
    |some c=>rw[e1]at e;cases e;exact .inr (.inr ⟨t,i,c,rfl,rfl,JA hl,e1,k _ λ_ _=>xW _⟩)
   ·cases e
  |_=>cases e
 |_=>cases x<;>cases e
theorem ix_X(hK:X.K=G.K:=by rfl):IxR X (rIx G.K):=by rw[<-hK];exact VP
def GU(G:Bg)(r:bG->Hp->VK->Prop)(g:D->Option D):Prop:=∀x z H0 H v (Q:VK),g x=some z->tT H0 H->Rep G H0 x v->(∀w,(∀H0',tT H0 H0'->Rep G H0' z w)->Q w H)->r [v] H Q
theorem US(hr:GU G r g)(h:PE X e (tCB r (tFA G (tD f tY)))):PE X e (tF G (c1 g f)):=PE.weak h λσ H Q hh=>by
 sleep 1
 obtain⟨x,e1,e2⟩:=Ey e;refine⟨F,ρ,H0,[x],ρ',R,by unfold tD;rw[e1];rfl,λys H1 H1' s R' rs=>?_⟩;unfold tL at rs;obtain⟨v,r0,rfl,rv,rn⟩:=rs;unfold tL at rn;subst rn;exact hr x d H1 H1' v Q e2 R'.sub rv λw hw=>k _ _ _ s R' (hw _ (tT.refl _))
theorem vq.or(h:vq X f r)(h':vq X f r'):vq X f (λx H Q=>r x H Q\/r' x H Q):=λwv s σ H xs us Q I rv q=>q.elim (h wv s σ H xs us Q I rv) (h' wv s σ H xs us Q I rv)
def vw:D->Option D
 |.tup ds=>some (.int ds.length)
 |.lst ds=>some (.int ds.length)
 |.fzl ds=>some (.int ds.length)
 |.str x=>if x.length<=100000 then some (.int x.length)else none
 |.dic ks ds=>some (.int ks.length)
 |_=>none
theorem NB:vq X (.builtin "len") (λxs H Q=>∃a kvs,xs=[V.ref a]/\Rd H a (.dK kvs)/\Q (.int kvs.length) H):=by intro wv s σ H xs us Q I r h;obtain⟨a,kvs,rfl,ha,q⟩:=h;obtain⟨u,rfl,ru⟩:=vals1 r;cases ru;exact ZX I ha λt s' I'=>⟨.int kvs.length,H,I',⟨t,rfl⟩,q⟩
def UT(K:au):bG->Hp->VK->Prop:=λxs H Q=>(∃p ys,xs=[.ref p]/\(SqL K H p ys\/SqT K H p ys)/\Q (.int ys.length) H)\/((∃z,xs=[.str z]/\z.length<=aG/\Q (.int z.length) H)\/(∃a kvs,xs=[V.ref a]/\Rd H a (.dK kvs)/\Q (.int kvs.length) H))
theorem NC(hK:X.K=G.K:=by rfl):vq X (.builtin "len") (UT G.K):=by rw[<-hK];exact vq.or HF (vq.or HG NB)
theorem Wv:GU G (UT G.K) vw:=λx z H0 H v Q e s rx k=>by
 cases x with
 |tup ds=>cases e;unfold Rep at rx;obtain⟨a,xs,rfl,h1,h2⟩:=rx;refine .inl ⟨a,xs,rfl,.inr (SqT.mono s h1),?_⟩;rw[<-tN h2];exact k _ λ_ _=>vW _
 |lst ds=>cases e;unfold Rep at rx;obtain⟨a,xs,rfl,h1,h2⟩:=rx;refine .inl ⟨a,xs,rfl,.inl (s.seq (SqL.of h1)),?_⟩;rw[<-tN h2];exact k _ λ_ _=>vW _
 |fzl ds=>cases e;unfold Rep at rx;obtain⟨a,xs,rfl,h1,h2⟩:=rx;refine .inl ⟨a,xs,rfl,.inl (s.seq h1),?_⟩;rw[<-tN h2];exact k _ λ_ _=>vW _
 |str t=>
  unfold vw at e;simp only at e;split at e
  ·rename_i hl;cases e;unfold Rep at rx;exact .inr (.inl ⟨t,by rw[rx],JA hl,k _ λ_ _=>vW _⟩)
  ·cases e
 |dic ks ds=>cases e;unfold Rep at rx;obtain⟨a,o,xs,rfl,h1,h2,h3⟩:=rx;refine .inr (.inr ⟨a,_,rfl,.inr ⟨o,s _ _ h1⟩,?_⟩);rw[gW,<- h2,hX];exact k _ λ_ _=>vW _
 |_=>cases e
def JC:D->Option D
 |.int i=>some (.int i)
 |.bl b=>some (.int (if b then 1 else 0))
 |_=>none
theorem Ww:GU G (λxs H Q=>(∃i,xs=[.int i]/\Q (.int i) H)\/∃k,xs=[.bl k]/\Q (.int (if k then 1 else 0)) H) JC:=λx z H0 H v Q e s rx k=>by
 cases x with
 |int i=>cases e;unfold Rep at rx;subst rx;exact .inl ⟨i,rfl,k _ λ_ _=>vW _⟩
 |bl b=>cases e;unfold Rep at rx;subst rx;exact .inr ⟨b,rfl,k _ λ_ _=>vW _⟩
 |_=>cases e
def Gj:aS->Option (List Bool)
 |[]=>some []
 |.bl b::r=>(Gj r).map (b::·)
 |_=>none
theorem Fd:∀{ds:aS} {xs:bG} {bs:List Bool},tL G H ds xs->Gj ds=some bs->xs=bs.map V.bl
 |[],xs,bs,h,e=>by cases e;unfold tL at h;exact h
 |.bl b::r,xs,bs,h,e=>by
  unfold tL at h;obtain⟨v,q,rfl,h1,h2⟩:=h;unfold Gj at e;cases e1:Gj r with
  |none=>rw[e1]at e;cases e
  |some l=>rw[e1]at e;cases e;unfold Rep at h1;subst h1;rw[Fd h2 e1];rfl
 |.non::r,xs,bs,h,e=>by cases e
 |.int _::r,xs,bs,h,e=>by cases e
 |.str _::r,xs,bs,h,e=>by cases e
 |.tup _::r,xs,bs,h,e=>by cases e
 |.lst _::r,xs,bs,h,e=>by cases e
 |.fzl _::r,xs,bs,h,e=>by cases e
 |.obj _ _ _::r,xs,bs,h,e=>by cases e
 |.dic _ _::r,xs,bs,h,e=>by cases e
def yL:D->Option D
 |.lst ds=>(Gj ds).map λbs=>.bl (bs.all id)
 |_=>none
theorem Wx:GU G (λxs H Q=>∃(p:Addr) (bs:List Bool),xs=[.ref p]/\SqL G.K H p (bs.map V.bl)/\Q (.bl (bs.all id)) H) yL:=λx z H0 H v Q e s rx k=>by
 cases x with
 |lst ds=>
  unfold yL at e;simp only at e;cases e1:Gj ds with
  |none=>rw[e1]at e;cases e
  |some bs=>rw[e1]at e;cases e;unfold Rep at rx;obtain⟨a,xs,rfl,h1,h2⟩:=rx;rw[Fd h2 e1]at h1;exact⟨a,bs,rfl,s.seq (SqL.of h1),k _ λ_ _=>wC _⟩
 |_=>cases e
theorem ND(hc:X.calm=true)(hK:X.K=G.K:=by rfl):vq X (.builtin "all") (λxs H Q=>∃(p:Addr) (bs:List Bool),xs=[.ref p]/\SqL G.K H p (bs.map V.bl)/\Q (.bl (bs.all id)) H):=by rw[<-hK];exact OP hc
inductive Ty where
 |b (n:String)|c (k:Nat)
def Ty.val(G:Bg):Ty->aa
 |.b n=>.type n
 |.c k=>.ref (G.ca k)
def Ty.v(G:Bg):Ty->V
 |.b n=>.ty n
 |.c k=>.ref (G.ca k)
def tyD:D->Ty
 |.non=>.b "NoneType" |.bl _=>.b "bool" |.int _=>.b "int" |.str _=>.b "str" |.tup _=>.b "tuple" |.lst _=>.b "list" |.fzl _=>.b "list" |.dic _ _=>.b "dict" |.obj c _ _=>.c c
structure NF(K:au)(C:Addr):Prop where
 cl:Cls K C
 ha:cP K (.ref C) "__class__" = some (some (.builtin "object.__class__"))
 hn:qp K (.builtin "object.__class__") "__get__" = some (some (.builtin "getset_descriptor.__get__"))
 htk:W.takesIn K (.builtin "object.__class__")=some true
 hm:W.mroIn K C (.type "object")=some true
theorem Pg(I:Inv X wv σ H s)(hK:X.K=G.K)(hd:Rep G H d v)(rv:RelV v u)(hc:∀k ns ds,d=.obj k ns ds->NF X.K (G.ca k))
  (e:c8 X.K ((tyD d).val G) c=some b) (h:∀tk,Q (.bool b) { s with toks:=tk }):aj (model X.prog X.w) A (call (.builtin "isinstance") [u,c]) Q E s:=by
 cases d with
 |non=>unfold Rep at hd;subst hd;exact yj I rv .non e h
 |bl x=>unfold Rep at hd;subst hd;exact yj I rv (.bl x) e h
 |int x=>unfold Rep at hd;subst hd;exact yj I rv (.int x) e h
 |str x=>unfold Rep at hd;subst hd;exact yj I rv (.str x) e h
 |tup ds=>unfold Rep at hd;obtain⟨a,xs,rfl,h1,h2⟩:=hd;cases rv;rw[<-hK]at h1;obtain⟨its,_,p,_⟩:=I.tuple h1;obtain⟨o,q1,q2,_⟩:=p;exact cN qd I.kIn ⟨o,q1,q2⟩ e (λz=>nomatch z) h
 |lst ds=>unfold Rep at hd;obtain⟨a,xs,rfl,h1,h2⟩:=hd;exact yj I rv (.lst h1) e h
 |fzl ds=>unfold Rep at hd;obtain⟨a,xs,rfl,h1,h2⟩:=hd;cases rv;rw[<-hK]at h1;obtain⟨its,_,p,_⟩:=I.list h1;obtain⟨o,n,q1,q2,_⟩:=p;exact cN l5 I.kIn ⟨o,q1,q2⟩ e (λz=>nomatch z) h
 |dic ks ds=>unfold Rep at hd;obtain⟨a,o,xs,rfl,h1,h2,h3⟩:=hd;cases rv;obtain⟨q0,_,_,vs,_,ob,es,ep,q1,q2,_⟩:=(show uQ X.prog X.w H s.heap a (.frz o (.dK (ks.zip xs))) from I.hok a _ h1);exact cN l6 I.kIn ⟨ob,q1,q2.1⟩ e (λz=>nomatch z) h
 |obj k ns ds=>have ci:=hc k ns ds rfl;unfold Rep at hd;obtain⟨a,dx,xs,rfl,h1,h2,h3⟩:=hd;exact yj I rv (.ins h1 ci.cl ci.ha ci.hn ci.htk ci.hm) e h
def xt(t:Ty->Option Bool):D->Option D:=λd=>(t (tyD d)).map .bl
theorem GV(c:Ty){t:Ty->Option Bool}(ht:∀y b,t y=some b->c8 X.K (y.val G) (c.val G)=some b)(hc:∀k b,t (.c k)=some b->NF X.K (G.ca k))(hK:X.K=G.K:=by rfl):
  vq X (.builtin "isinstance") (λxs H Q=>∃d x b,xs=[x,c.v G]/\Rep G H d x/\t (tyD d)=some b/\Q (.bl b) H):=by
 intro wv s σ H xs us Q I r h;obtain⟨d,x,b,rfl,hd,e,q⟩:=h;obtain⟨u,w',rfl,ru,rw'⟩:=vals2 r;have ew:w'=c.val G:=by cases c<;>exact rw'
 subst ew;exact Pg I hK hd ru (λk ns ds z=>by subst z;exact hc k b e) (ht _ _ e) λtk=>⟨.bl b,H,I.tok _,rfl,q⟩
theorem L9{c:Ty}(h:PE X e (tCB (λxs H Q=>∃d x b,xs=[x,c.v G]/\Rep G H d x/\t (tyD d)=some b/\Q (.bl b) H) (EM (tF G f) (EM (tC (c.v G)) Jb)))):PE X e (tF G (c1 (xt t) f)):=PE.weak h λσ H Q hh=>by
 sleep 1
 obtain⟨x,e1,e2⟩:=Ey e;unfold xt at e2;cases e3:t (tyD x)with
 |none=>rw[e3]at e2;cases e2
 |some b=>rw[e3]at e2;cases e2;exact⟨F,ρ,H0,x,ρ',R,e1,λv H1 H1' s R' r=>⟨x,v,b,rfl,Rep.mono R'.sub _ _ r,e3,k _ _ _ s R' (wC b)⟩⟩
def uU(f g:FE):FA:=λρ=>match f ρ with
 |some (.lst xs,ρ1)=>match g ρ1 with
  |some (.lst ys,ρ2)=>if xs.length+ys.length<=1000 then some (xs++ys,ρ2)else none
  |_=>none
 |_=>none
theorem SU(ha:PE X a (tF G f))(hb:PE X b (tF G g)):PE X (.BinOp a .Add b pos) (tFN G (uU f g)):=PE.weak (LG VR ha hb) λσ H Q hh=>by
 sleep 1
 unfold uU at e;split at e
 ·rename_i xs ρ1 e1;split at e
  ·rename_i ys ρ2 e2;split at e
   ·rename_i hl;cases e;refine⟨F,ρ,H0,_,ρ1,R,e1,λv H1 H1' s R' r=>⟨F,ρ1,H1,_,_,R',e2,λu H2 H2' s2 R2 r2=>?_⟩⟩;have r':=Rep.mono s2 _ _ r;unfold Rep at r' r2;obtain⟨a1,xs1,rfl,h1,h2⟩:=r';obtain⟨a2,xs2,rfl,h3,h4⟩:=r2;refine⟨a1,a2,xs1,xs2,rfl,rfl,R2.sub _ _ h1,R2.sub _ _ h3,by rw[<-tN h2,<- tN h4];exact xw hl,λp hp=>?_⟩;exact k p _ _ _ (s.trans s2) (R2.newOwn hp _) tP (R2.h0none hp) (R2.bNone hp) (R2.apart hp) (vt h2 h4)
   ·cases e
  ·cases e
 ·cases e
def AC(f:FE):FA:=λρ=>match f ρ with
 |some (d,ρ1)=>match Pf d with
  |some ds=>some (ds,ρ1)
  |none=>none
 |none=>none
theorem Ph(h:PE X e (tCB (λxs H Q=>∃p ys,xs=[.ref p]/\(SqL G.K H p ys\/SqT G.K H p ys)/\∀l,H l=none->Q (.ref l) (upd H l (.lst ys))) (tFA G (tD f tY)))):PE X e (tFN G (AC f)):=PE.weak h λσ H Q hh=>by
 obtain⟨F,ρ,H0,ds,ρ',R,e,k⟩:=hh;unfold AC at e;rcases uf (f:=f) (ρ:=ρ)with e1|⟨d,ρ1,e1⟩<;>simp only[e1]at e
 ·cases e
 ·cases e2:Pf d with
  |none=>simp only[e2]at e;cases e
  |some ds'=>simp only[e2]at e;cases e;refine⟨F,ρ,H0,[d],_,R,by unfold tD;rw[e1];rfl,λys H1 H1' s R' rs=>?_⟩;unfold tL at rs;obtain⟨v,r0,rfl,rv,rn⟩:=rs;unfold tL at rn;subst rn;obtain⟨p,xs,rfl,h1,h2⟩:=L7 rv e2;exact⟨p,xs,rfl,L8 R'.sub h1,λl hl=>k l _ _ _ s (R'.newOwn hl _) tP (R'.h0none hl) (R'.bNone hl) (R'.apart hl) h2⟩
theorem KW(hK:X.K=G.K:=by rfl):vq X (.type "list") (λxs H Q=>∃p ys,xs=[.ref p]/\(SqL G.K H p ys\/SqT G.K H p ys)/\∀l,H l=none->Q (.ref l) (upd H l (.lst ys))):=by rw[<-hK];exact HH
def Fe(f:FE):FE:=λρ=>match f ρ with
 |some (.lst ds,ρ1)=>some (.tup ds,ρ1)
 |some (.tup ds,ρ1)=>some (.tup ds,ρ1)
 |_=>none
theorem Pi(h:PE X e (tCB (λxs H Q=>∃p ys,xs=[.ref p]/\((SqL G.K H p ys/\∀l,H l=none->Q (.ref l) (upd H l (.tup ys)))\/(SqT G.K H p ys/\Q (.ref p) H))) (tFA G (tD f tY)))):PE X e (tF G (Fe f)):=PE.weak h λσ H Q hh=>by
 obtain⟨F,ρ,H0,ds,ρ',R,e,k⟩:=hh;unfold Fe at e;split at e
 ·rename_i xs ρ1 e1;cases e;refine⟨F,ρ,H0,[_],_,R,by unfold tD;rw[e1];rfl,λys H1 H1' s R' rs=>?_⟩;unfold tL at rs;obtain⟨v,r0,rfl,rv,rn⟩:=rs;unfold tL at rn;subst rn;unfold Rep at rv;obtain⟨p,zs,rfl,h1,h2⟩:=rv;refine⟨p,zs,rfl,.inl ⟨SqL.of (R'.sub _ _ h1),λl hl=>?_⟩⟩;exact k _ _ _ (s.trans (tV (R'.h0none hl) _)) (R'.newIm hl _) (yQ (SqT.of tP) (tL.mono (tV (R'.h0none hl) _) _ _ h2))
 ·rename_i xs ρ1 e1;cases e;refine⟨F,ρ,H0,[_],_,R,by unfold tD;rw[e1];rfl,λys H1 H1' s R' rs=>?_⟩;unfold tL at rs;obtain⟨v,r0,rfl,rv,rn⟩:=rs;unfold tL at rn;subst rn;have rv0:=rv;unfold Rep at rv;obtain⟨p,zs,rfl,h1,h2⟩:=rv;exact⟨p,zs,rfl,.inr ⟨SqT.mono R'.sub h1,k _ _ _ s R' rv0⟩⟩
 ·cases e
theorem NG(hK:X.K=G.K:=by rfl):vq X (.type "tuple") (λxs H Q=>∃p ys,xs=[.ref p]/\((SqL G.K H p ys/\∀l,H l=none->Q (.ref l) (upd H l (.tup ys)))\/(SqT G.K H p ys/\Q (.ref p) H))):=by rw[<-hK];exact Ge
def cutD(xs:aS)(lo hi:Option Int):aS:=(xs.drop (HT.sIx xs.length 0 lo)).take (HT.sIx xs.length xs.length hi - HT.sIx xs.length 0 lo)
theorem Fg{lo:Option Int}(r:tL G H0 ds xs):tL G H0 (cutD ds lo hi) (Jf xs lo hi):=by unfold cutD Jf;rw[<-tN r];exact GP _ (GO _ r)
def cSl(f:FE)(lo hi:Option Int):FA:=λρ=>match f ρ with
 |some (.lst ds,ρ1)=>some (cutD ds lo hi,ρ1)
 |some (.fzl ds,ρ1)=>some (cutD ds lo hi,ρ1)
 |_=>none
def tO(o:Option Int):TO:=λ_ H Q=>Q o H
theorem NH{lo:Option Int}(h:PE X e (tSl (Nf G.K) (tF G f) (tO lo) (tO hi))):PE X e (tFN G (cSl f lo hi)):=PE.weak h λσ H Q hh=>by
 obtain⟨F,ρ,H0,ds,ρ',R,e,k⟩:=hh;have gen:∀{a:Addr} {xs:bG} {ds':aS} {H1 H1':Hp},tT H0 H1->tW G F σ ρ' H1 H1'->SqL G.K H1 a xs->tL G H1 ds' xs->ds=cutD ds' lo hi->Nf G.K (.ref a) lo hi H1' Q:=λ{a xs ds' H1 H1'} s R' h1 h2 e=>by subst e;exact⟨a,xs,rfl,R'.sub.seq h1,λp hp=>k p _ _ _ s (R'.newOwn hp _) tP (R'.h0none hp) (R'.bNone hp) (R'.apart hp) (Fg h2)⟩
 unfold cSl at e;split at e
 ·rename_i xs ρ1 e1;cases e;refine⟨F,ρ,H0,_,_,R,e1,λv H1 H1' s R' r=>?_⟩;unfold Rep at r;obtain⟨a,ys,rfl,h1,h2⟩:=r;exact gen s R' (SqL.of h1) h2 rfl
 ·rename_i xs ρ1 e1;cases e;refine⟨F,ρ,H0,_,_,R,e1,λv H1 H1' s R' r=>?_⟩;unfold Rep at r;obtain⟨a,ys,rfl,h1,h2⟩:=r;exact gen s R' h1 h2 rfl
 ·cases e
theorem Pj{j pos}:PO X (some (.Constant (.int n) j pos)) (tO (some n)):=λwv s σ H Q I h=>LM Kx wv s σ H Q I ⟨n,rfl,h⟩
theorem aah:PO X none (tO none):=LL
theorem sl_X(hK:X.K=G.K:=by rfl):SlR X (Nf G.K):=by rw[<-hK];exact RV
end
def Sl.bor:Sl->Sl
 |.un=>.un
 |.im d=>.im d
 |.ls ds=>.im (.lst ds)
 |.pm ds=>.im (.lst ds)
 |.dk _ _=>.un
 |.ob c ns ds=>.im (.obj c ns ds)
section
variable{X:Cx}{G:Bg}
theorem tW.bor(R:tW G F σ ρ H0 H):tW G ⟨H,H,[]⟩ σ (ρ.map Sl.bor) H H where
 sub:=tT.refl _
 g0:=tT.refl _
 keep:=λb o e _=>e
 fr:=λb o e=>.inl e
 am:=λa h=>by cases h
 len:=by rw[af];exact R.len
 sl:=λi s e=>by
  rw[bc]at e;cases e1:ρ[i]? with
  |none=>rw[e1]at e;cases e
  |some t=>
   rw[e1]at e;cases e;have ok:=R.sl i t e1;cases t with
   |un=>trivial
   |im d=>obtain⟨v,h1,h2⟩:=ok;exact⟨v,h1,Rep.mono R.sub _ _ h2⟩
   |ls ds=>obtain⟨a,xs,h1,h2,h3,h4,h5⟩:=ok;exact⟨_,h1,yR h2 (tL.mono R.sub _ _ h5)⟩
   |pm ds=>obtain⟨a,xs,h1,h2,h3,h4,h5⟩:=ok;exact⟨_,h1,yR h2 (tL.mono R.sub _ _ h5)⟩
   |dk ks ds=>trivial
   |ob c ns ds=>obtain⟨a,dx,xs,h1,h2,h3,h4,h5,h6⟩:=ok;exact⟨_,h1,by unfold Rep;exact⟨a,dx,xs,rfl,h2,h5,tL.mono R.sub _ _ h6⟩⟩
 ap:=λi j s t a _ e _ so=>by
  rw[bc]at e;cases e1:ρ[i]? with
  |none=>rw[e1]at e;cases e
  |some t=>rw[e1]at e;cases e;cases t<;>cases so
theorem tW.unbor(R:tW G F σ ρ H0 H)(R':tW G ⟨H,H,[]⟩ σ' ρ' H1 H1'):tW G F σ ρ H0 H1':=
 R.grow (λb o e=>R'.keep b o e (by simp)) (tT.refl _) (λb o e=>R'.keep b o (R.sub _ _ e) (by simp)) λb o e=>.inl e
def Es(f:FE):FE:=λρ=>match f (ρ.map Sl.bor)with
 |some (d,_)=>if v9 d=true then some (d,ρ)else none
 |none=>none
def DE(f:FT):FT:=λρ=>match f (ρ.map Sl.bor)with
 |some (d,_)=>some (d,ρ)
 |none=>none
theorem WA(h:PE X e (tF G f)):PE X e (tF G (Es f)):=PE.weak h λσ H Q hh=>by
 sleep 1
 unfold Es at e;rcases uf (f:=f) (ρ:=ρ.map Sl.bor)with e1|⟨x,ρ1,e1⟩<;>simp only[e1]at e
 ·cases e
 ·split at e
  ·rename_i hf;cases e;refine⟨_,_,H,d,ρ1,R.bor,e1,λv H1 H1' s R' r=>?_⟩;rw[xJ r hf];exact k _ _ _ (tT.refl _) (R.unbor R') (BX hf _)
  ·cases e
theorem SV(h:PT X e (tFT G f)):PT X e (tFT G (DE f)):=PT.weak h λσ H Q hh=>by
 sleep 1
 unfold DE at e;rcases uf (f:=f) (ρ:=ρ.map Sl.bor)with e1|⟨x,ρ1,e1⟩<;>simp only[e1]at e
 ·cases e
 ·cases e;exact⟨_,_,H,d,ρ1,R.bor,e1,λH1 H1' s R'=>k _ _ (tT.refl _) (R.unbor R')⟩
def wJ(g g':D->D->Option D)(fa fb fc:FE):FE:=λρ=>match fa ρ with
 |some (x,ρ1)=>match fb ρ1 with
  |some (y,ρ2)=>match g x y with
   |some (.bl true)=>match fc ρ2 with
    |some (z,ρ3)=>match g' y z with
     |some w=>some (w,ρ3)
     |none=>none
    |none=>none
   |some (.bl false)=>some (.bl false,ρ2)
   |_=>none
  |none=>none
 |none=>none
theorem JD(ho:OpD G r g)(ho':OpD G r' g'):∀σ H Q,tF G (wJ g g' fa fb fc) σ H Q->KC r r' (tF G fa) (tF G fb) (tF G fc) σ H Q:=λσ H Q hh=>by
 sleep 1
 unfold wJ at e;rcases uf (f:=fa) (ρ:=ρ)with e1|⟨x,ρ1,e1⟩<;>simp only[e1]at e
 ·cases e
 rcases uf (f:=fb) (ρ:=ρ1)with e2|⟨y,ρ2,e2⟩<;>simp only[e2]at e
 ·cases e
 refine⟨F,ρ,H0,x,ρ1,R,e1,λv H1 H1' s1 R1 r1=>⟨F,ρ1,H1,y,ρ2,R1,e2,λu H2 H2' s2 R2 r2=>?_⟩⟩;split at e
 ·rename_i e3;refine ho x y _ H2 H2' v u _ e3 R2.sub (Rep.mono s2 _ _ r1) r2 λw hw=>?_;have hw':=hw H2 (tT.refl _);unfold Rep at hw';refine⟨true,hw',HM ?_⟩;rcases uf (f:=fc) (ρ:=ρ2)with e4|⟨z,ρ3,e4⟩<;>simp only[e4]at e
  ·cases e
  cases e5:g' y z with
  |none=>simp only[e5]at e;cases e
  |some q=>simp only[e5]at e;cases e;refine⟨F,ρ2,H2,z,_,R2,e4,λt H3 H3' s3 R3 r3=>?_⟩;exact ho' y z _ H3 H3' u t Q e5 R3.sub (Rep.mono s3 _ _ r2) r3 λw hw=>k w H3 H3' (s1.trans (s2.trans s3)) R3 (hw _ (tT.refl _))
 ·rename_i e3;cases e;refine ho x y _ H2 H2' v u _ e3 R2.sub (Rep.mono s2 _ _ r1) r2 λw hw=>?_;have hw':=hw H2 (tT.refl _);unfold Rep at hw';exact⟨false,hw',HL (k _ _ _ (s1.trans s2) R2 (wC false))⟩
 ·cases e
theorem Pk(hr:OpR X (br op) r)(hr':OpR X (br op') r')(ho:OpD G r g)(ho':OpD G r' g')(ha:PE X a (tF G fa))(hb:PE X b (tF G fb))(hc:PE X c (tF G fc))
  (hm:lastMarks [op,op'] [b,c]=false:=by with_unfolding_all rfl):PE X (.Compare a [op,op'] [b,c] pos) (tF G (wJ g g' fa fb fc)):=PE.weak (Ov hr hr' ha hb hc hm) (JD ho ho')
theorem NI(hr:OpR X (br op) r)(hr':OpR X (br op') r')(ho:OpD G r g)(ho':OpD G r' g')(ha:PE X a (tF G fa))(hb:PE X b (tF G fb))(hc:PE X c (tF G fc))
  (hm:lastMarks [op,op'] [b,c]=false:=by with_unfolding_all rfl):PT X (.Compare a [op,op'] [b,c] pos) (tFT G (cT (wJ g g' fa fb fc))):=PT.weak (Ow hr hr' ha hb hc hm) λσ H Q hh=>by
 obtain⟨F,ρ,H0,d,ρ',R,e,k⟩:=LU σ H Q hh;exact JD ho ho' σ H _ ⟨F,ρ,H0,d,ρ',R,e,k⟩
end
def zq(P:aH)(w:aA)(K:au)(mg:Str->Option aa)(base:Heap)(k:Nat)(x:Str)(ps:aD)(sp:Sp):Prop:=
 ∃(f:Addr) (fd:cg),mg x=some (.ref f)/\dS K (.ref f)=true/\Binds K fd ps []/\wY P w K mg base CX0 k f fd ps sp
def HS(G:Bg)(P:aH)(w:aA)(mg:Str->Option aa)(base:Heap)(k:Nat)(x:Str)(c:Nat)(ps:aD)(dvs:bG)(g:aS->Option (aD×aS)):Prop:=
 ∃(f:Addr) (fd:cg) (ds:List aa),Mk G.K (G.ca c) f/\mg x=some (.ref (G.ca c))/\Binds G.K fd ps ds/\Vals dvs ds/\wY P w G.K mg base CX0 k f fd ps (spI G c g)
def zN(G:Bg)(P:aH)(w:aA)(mg:Str->Option aa)(base:Heap)(k:Nat)(m:Str)(c:Nat)(h:aS->Option D):Prop:=
 ∃(f:Addr) (fd:cg) (ps:aD),Cls G.K (G.ca c)/\Meth G.K (G.ca c) m f/\Binds G.K fd ps []/\wY P w G.K mg base CX0 k f fd ps (spF G h)
section
variable{X:Cx}{G:Bg}{k:Nat}{x m:Str}{p pos apos:Pos}{e o:Expr}{es:List Expr}{a:FA}{ps:aD}
theorem DF{α:Type}(g:aS->α):(λds=>g (ds++[]))=g:=funext λds=>by rw[bq]
theorem WB(D:zq X.prog X.w X.K X.mg X.base k x ps (spF G g))(hr:u9 k X.A)(ha:PA X (e::es) (tFA G a))(hg:Gl X x:=by rfl)(hdb:(x==("__debug__" : Str))=false:=by decide)(he:aw (e::es) X.env=(false,eval e X.env)::aw es X.env:=by rfl)(hpl:(bt pos (aw es X.env)).any (·.1)=false:=by rfl):
  PE X (.Call (.Name x p) (e::es) [] pos) (tF G (tJ g a)):=by
 obtain⟨f,fd,h1,h2,h3,h4⟩:=D;have q:=SG (dvs:=[]) (dds:=[]) (λ_=>uj) (BO (p:=p) (pos:=pos) h4 hr hg h1 h2 h3 .nil Dy ha hdb he hpl);rw[DF]at q;exact q
theorem SW(D:zq X.prog X.w X.K X.mg X.base k x ps (spN G g))(hr:u9 k X.A)(ha:PA X (e::es) (tFA G a))(hg:Gl X x:=by rfl)(hdb:(x==("__debug__" : Str))=false:=by decide)(he:aw (e::es) X.env=(false,eval e X.env)::aw es X.env:=by rfl)(hpl:(bt pos (aw es X.env)).any (·.1)=false:=by rfl):
  PE X (.Call (.Name x p) (e::es) [] pos) (tFN G (uF g a)):=by
 obtain⟨f,fd,h1,h2,h3,h4⟩:=D;have q:=O3 (dvs:=[]) (dds:=[]) (λ_=>uj) (BO (p:=p) (pos:=pos) h4 hr hg h1 h2 h3 .nil Dy ha hdb he hpl);rw[DF]at q;exact q
theorem Pl(D:zq X.prog X.w X.K X.mg X.base k x ps (spN G g))(hr:u9 k X.A)(hg:Gl X x:=by rfl)(hdb:(x==("__debug__" : Str))=false:=by decide):PE X (.Call (.Name x p) [] [] pos) (tFN G (uF g tY)):=by obtain⟨f,fd,h1,h2,h3,h4⟩:=D;exact Nu (OA h4 hr hg h1 h2 h3 .nil Dy hdb)
theorem SX(D:zq X.prog X.w X.K X.mg X.base k x ps (spM G g))(hr:u9 k X.A)(hv:PE X e (zk i))(ha:PA X es (tFA G a))(hg:Gl X x:=by rfl)(hdb:(x==("__debug__" : Str))=false:=by decide)(he:aw (e::es) X.env=(false,eval e X.env)::aw es X.env:=by rfl)(hpl:(bt pos (aw es X.env)).any (·.1)=false:=by rfl):
  PE X (.Call (.Name x p) (e::es) [] pos) (tF G (uG g i a)):=by
 obtain⟨f,fd,h1,h2,h3,h4⟩:=D;exact Wg (BO (p:=p) (pos:=pos) h4 hr hg h1 h2 h3 .nil Dy (u5 hv ha he) hdb he hpl)
theorem SY(M:HS G X.prog X.w X.mg X.base k x c ps dvs g)(hd:∀H,tL G H dds dvs)(hr:u9 (k+1) X.A)(ha:PA X (e::es) (tFA G a))(hK:X.K=G.K:=by rfl)(hg:Gl X x:=by rfl)(hdb:(x==("__debug__" : Str))=false:=by decide)
  (he:aw (e::es) X.env=(false,eval e X.env)::aw es X.env:=by rfl) (hpl:(bt pos (aw es X.env)).any (·.1)=false:=by rfl):
  PE X (.Call (.Name x p) (e::es) [] pos) (tF G (uv c (λds=>g (ds++dds)) a)):=by
 obtain⟨f,fd,ds,h1,h2,h3,h4,h5⟩:=M;rw[<-hK]at h1 h3 h5;exact SI hd (RQ (p:=p) (pos:=pos) h1 h5 hr hg h2 h3 h4 Dy ha hdb he hpl)
theorem UU(M:∀c h,g c=some h->zN G X.prog X.w X.mg X.base k m c h)(hr:u9 k X.A)(hK:X.K=G.K):∀C sp,MT G g C sp->MOk X C m sp [] E0:=λC sp h=>by obtain⟨c,h,e,rfl,rfl⟩:=h;obtain⟨f,fd,ps,q1,q2,q3,q4⟩:=M c h e;rw[<-hK]at q1 q2 q3 q4;exact⟨k,f,fd,ps,[],q1,q2,q4,hr,q3,.nil,Dy⟩
theorem NJ(M:∀c h,g c=some h->zN G X.prog X.w X.mg X.base k m c h)(hr:u9 k X.A)(ho:PE X o (tF G f))(ha:PA X (e::es) (tFA G a))(hK:X.K=G.K:=by rfl)
  (hst:aw (e::es) X.env=(false,eval e X.env)::aw es X.env:=by rfl) (hpl:(bt pos (aw es X.env)).any (·.1)=false:=by rfl)
  (ht:eval (.Call (.Attribute o m apos) (e::es) [] pos) X.env=(do
   let ov<-eval o X.env
   standAt apos.atName
   let (f,first)<-holding [ov] (getMethod ov m pl)
   callWith pos f first (bt pos (aw (e::es) X.env)) (backToKw pos (dO [] X.env))):=by rfl):
  PE X (.Call (.Attribute o m apos) (e::es) [] pos) (tF G (uJ g m f a)):=SH (E:=E0) (O5 (dvs:=[]) (MT G g) (UU M hr hK) ho ha hst hpl ht)
theorem KY(M:∀c h,g c=some h->zN G X.prog X.w X.mg X.base k m c h)(hr:u9 k X.A)(ho:PE X o (tF G f))(hK:X.K=G.K:=by rfl)
  (ht:eval (.Call (.Attribute o m apos) [] [] pos) X.env=(do
   let ov<-eval o X.env
   standAt apos.atName
   let (f,first)<-holding [ov] (getMethod ov m pl)
   callWith pos f first (bt pos (aw [] X.env)) (backToKw pos (dO [] X.env))):=by rfl):
  PE X (.Call (.Attribute o m apos) [] [] pos) (tF G (uJ g m f tY)):=O6 (E:=E0) (Nw (dvs:=[]) (MT G g) (UU M hr hK) ho ht)
end
section
variable{P:aH}{w:aA}{K:au}{mg:Str->Option aa}{base:Heap}{x qual:Str}{st:Stmt}{f T:Addr}{fd:cg}{N ps:aD}{k:Nat}{G:Bg}
abbrev Bo(P:aH)(w:aA)(K:au)(mg:Str->Option aa)(base:Heap)(N:aD)(qual:Str)(st:Stmt)(f:Addr)(cdv:aa)(A:aI)(outer:List Env)(s:ae)(H:Hp)(E:XK):Cx:=(Jc CX0 P w K mg base N qual (tX st) f cdv A outer s H E).nox
theorem Pm(hg:g=fnD np n b)(hp:ps.length=np)(hN:N.length=n)(F:Fun K x qual st f fd)(S:u6 N ps (tX st))(body:∀(cdv:aa) (A:aI) (outer:List Env) (s:ae) (H:Hp) (E:XK),u9 k (A.deeper (envOfC qual (tX st) s.heap.objs.size f cdv))->PSs (Bo P w K mg base N qual st f cdv A outer s H E) (uw st) (tFS G b)):
  wY P w K mg base CX0 (k+1) f fd ps (spF G g):=by
 subst hg hp hN;exact F.ok S (Z7 SC) λcdv A outer s H vs Q E hr h=>⟨_,body cdv A outer s H E hr,Sy (by have:=ba cc S.pre;rw[bo]at this;omega) h⟩
theorem aaj(hg:g=fnN np n b)(hp:ps.length=np)(hN:N.length=n)(F:Fun K x qual st f fd)(S:u6 N ps (tX st))(body:∀(cdv:aa) (A:aI) (outer:List Env) (s:ae) (H:Hp) (E:XK),u9 k (A.deeper (envOfC qual (tX st) s.heap.objs.size f cdv))->PSs (Bo P w K mg base N qual st f cdv A outer s H E) (uw st) (tFS G b)):
  wY P w K mg base CX0 (k+1) f fd ps (spN G g):=by
 subst hg hp hN;exact F.ok S (Z8 SD) λcdv A outer s H vs Q E hr h=>⟨_,body cdv A outer s H E hr,SA (by have:=ba cc S.pre;rw[bo]at this;omega) h⟩
theorem aak{ps:aD}(hg:g=fnM np n b)(hp:ps.length=np)(hN:N.length=n)(F:Fun K x qual st f fd)(S:u6 N (p::ps) (tX st))(body:∀(cdv:aa) (A:aI) (outer:List Env) (s:ae) (H:Hp) (E:XK),u9 k (A.deeper (envOfC qual (tX st) s.heap.objs.size f cdv))->PSs (Bo P w K mg base N qual st f cdv A outer s H E) (uw st) (tFS G b)):
  wY P w K mg base CX0 (k+1) f fd (p::ps) (spM G g):=by
 subst hg hp hN;exact F.ok S (O8 SN) λcdv A outer s H vs Q E hr h=>⟨_,body cdv A outer s H E hr,SM (by have:=ba cc S.pre;rw[bo,aM]at this;omega) h⟩
theorem UV(hg:∀ds q,g ds=some q->ds.length=np):∀vs H Q E,spI G c g vs H Q E->vs.length=np+1:=λvs H Q E h=>by obtain⟨p,dx,us,H0,ds,ns,es,rfl,_,_,_,r,e,_⟩:=h;rw[aM,<- tN r,hg _ _ e]
theorem aal{ps:aD}(hg:g=fnI c np n b)(hp:ps.length=np)(hN:N.length=n)(F:Fun K x qual st f fd)(S:u6 N (p::ps) (tX st))(body:∀(cdv:aa) (A:aI) (outer:List Env) (s:ae) (H:Hp) (E:XK),u9 k (A.deeper (envOfC qual (tX st) s.heap.objs.size f cdv))->PSs (Bo P w K mg base N qual st f cdv A outer s H E) (uw st) (tFS G b)):
  wY P w K mg base CX0 (k+1) f fd (p::ps) (spI G c g):=by
 subst hg hp hN;exact F.ok S (UV λds q h=>(E5 h).1) λcdv A outer s H vs Q E hr h=>⟨_,body cdv A outer s H E hr,LX (by have:=ba cc S.pre;rw[bo,aM]at this;omega) h⟩
theorem WC{ps:aD}(hg:g=fnI c np n b)(hp:ps.length=np)(hN:N.length=n)(F:Nr K x qual st f fd T)(S:u6 N (p::ps) (tX st))(body:∀(cdv:aa) (A:aI) (outer:List Env) (s:ae) (H:Hp) (E:XK),u9 k (A.deeper (envOfC qual (tX st) s.heap.objs.size f cdv))->PSs (Bo P w K mg base N qual st f cdv A outer s H E) (uw st) (tFS G b)):
  wY P w K mg base CX0 (k+1) f fd (p::ps) (spI G c g):=by
 subst hg hp hN;exact F.ok S (UV λds q h=>(E5 h).1) λcdv A outer s H vs Q E hr h=>⟨_,body cdv A outer s H E hr,LX (by have:=ba cc S.pre;rw[bo,aM]at this;omega) h⟩
end
section
variable{X:Cx}{G:Bg}
def A6(G:Bg)(mg:Str->Option aa)(x:Str)(d:D):Prop:=∃(v:V) (u:aa),mg x=some u/\RelV v u/\∀H,Rep G H d v
theorem Pn(h:A6 G X.mg x d)(hg:Gl X x:=by rfl)(hd:(x==("__debug__" : Str))=false:=by decide):PE X (.Name x pos) (tF G (cC d)):=by obtain⟨v,u,h1,h2,h3⟩:=h;exact Sh (LB hg h1 h2 hd) h3
def Po:FS:=λ_=>none
def vL(T:String):Ty->Option Bool
 |.b n=>if n="NoneType" then some false else if n="bool" then some (T=="bool" ||T=="int")else if n="int" then some (T=="int")else if n="str" then some (T=="str")else if n="tuple" then some (T=="tuple")else if n="list" then some (T=="list")else if n="dict" then some (T=="dict")else none
 |.c _=>none
theorem Pp:∀k b,vL T (.c k)=some b->NF X.K (G.ca k):=λk b h=>by cases h
theorem Pq:∀y b,vL "list" y=some b->c8 X.K (y.val G) (.type "list")=some b:=λy b h=>by
 cases y with
 |c k=>cases h
 |b n=>
  unfold vL at h;simp only at h
  iterate 7 (split at h;· rename_i e;subst e;cases h;first|rfl|kernel_rfl)
  cases h
theorem SZ:∀y b,vL "str" y=some b->c8 X.K (y.val G) (.type "str")=some b:=λy b h=>by
 cases y with
 |c k=>cases h
 |b n=>
  unfold vL at h;simp only at h
  iterate 7 (split at h;· rename_i e;subst e;cases h;first|rfl|kernel_rfl)
  cases h
end
end L4
namespace L3
open PySem PySem.Spec PyProof.Rows L2
theorem S0{X:Cx}{spos:Pos}{cap:List Nat}
  (hc:X.calm=true) (hN:X.N.Nodup) (hy:X.N[i]?=some y) (hyl:Loc X.env.scope y) (hi:PI X tg iter wi)
  (body:∀(cl:List (Str×Addr)) (C:Addr) (fp:List Addr) (s:ae) (H:Hp),PG (va X N' scope cl C fp s H) tg g/\PIf (va X N' scope cl C fp s H) ifs tt/\PE (va X N' scope cl C fp s H) elt te)
  (hkind:scope.kind=.function:=by rfl) (hcell:(scope.names.all λy=>y.2 != .cell)=true:=by rfl)
  (hloc:(scope.names.all λy=>y.2 != .local||scope.names.lookup y.1==some .local)=true:=by rfl)
  (hfree:(scope.names.all λy=>y.2 != .free||(X.env.kindOf y.1==some .cell||X.env.kindOf y.1==some .free))=true:=by rfl)
  (hlen:N'.length=k+cap.length:=by rfl) (hcap:(N'.drop k).map some=cap.map λj=>X.N[j]?:=by rfl)
  (hcf:((N'.drop k).all λx=>scope.names.lookup x==some .free)=true:=by rfl)
  (hs:∀x,iI iter X.env x=pure x:=by intro _;rfl)
  (hsw:dR (.ListComp elt [⟨tg,iter,ifs,0⟩] scope pos) (some (.Name y py)) spos.line X.env=pure true:=by rfl)
  (hfy:X.fn y=true\/X.env.scope.names.lookup y=some .local:=by first|exact .inl rfl|exact .inr rfl|assumption):
  PS X (.Assign [.Name y py] (.ListComp elt [⟨tg,iter,ifs,0⟩] scope pos) spos) (BN (EZ wi g tt te k cap) (yO i)):=by
 intro wv s σ H D I h;rw[exec_Assign_Name_used _ _ _ _ hsw];refine ag (pV (ag ?_));show aj _ X.A (do let _<-comprehension (.ListComp elt [⟨tg,iter,ifs,0⟩] scope pos) scope X.env _ (newList []) false (eval iter X.env) (some (assign (.Name y py) X.env))) _ _ s;refine ag (bZ (GN (P:=λ_ s'=>SP X wv D .next s') hc hi body hkind hcell hloc hfree hlen hcap hcf hs I h λa C m u s4 H3 hn back fpC qn=>?_) (λ_ s' hq=>ar (ar hq)) λ_ _ e=>e);obtain⟨oC,esC,nC,gC,dC,rC⟩:=id hn;have I7:=back.pinned (fp:=[C]) (λb hb=>aV.mp hb▸fpC) (λb hb=>aV.mp hb▸⟨oC,gC,λv z=>by rw[dC]at z;cases z⟩);show aj _ X.A (assign (.Name y py) X.env (.ref a)) _ _ s4;refine thn (LD (pos:=py) hN hy hyl hfy _ s4 σ H3 (.ref a) (.ref a) (λσ' H'=>D.nx σ' H') I7 rfl qn) λ_ s6 zz=>?_;obtain⟨σ6,H6,I8,q6⟩:=zz;obtain⟨p1,p2,_⟩:=I8.pin (C,oC) (cy _ (cy _ (yq (by simp) gC)));exact⟨m,⟨oC,esC,nC,p1,dC,rC⟩,λh' hs'=>⟨σ6,H6,I8.unpinned.turned (t':=s6.toks) (λb o hb e=>(hs'.2 b hb).trans e) p2 fpC.2.1 fpC.2.2.2.1 fpC.2.2.2.2.1 fpC.2.2.2.2.2,q6⟩⟩
end L3
namespace L4
open PySem PySem.Spec PyProof.Rows L2 L3
section
variable{X:Cx}{G:Bg}
theorem JE{st:Stmt}(h:PS X st (BN te g))(w:∀σ H Q,te' σ H Q->te σ H Q):PS X st (BN te' g):=PS.weak h λE σ H hh=>w _ _ _ hh
theorem Pr{st:Stmt}{cap:List Nat}(nd:cap.Nodup)(h:PS X st (BN (EZ (tFI G s) (tFG G k g) (tFT G ft) (tF G fe) k cap) (yO i))):PS X st (tFS G (um i (cL (ue k cap s g ft fe)))):=LW (JE (JE h (LZ nd)) Z6)
end
section
variable{f g h:FS}{c:FT}{e e' e2:FE}{a a':FA}{ρ ρ' ρ1 ρ2 ρ3:bb}{d x y z:D}{o:Out}{ds xs ys:aS}
theorem tE(h:f ρ=some (.nx ρ')):tI f g ρ=g ρ':=by unfold tI;rw[h]
theorem uC(h:f ρ=some (.rt d ρ')):tI f g ρ=some (.rt d ρ'):=by unfold tI;rw[h]
theorem ux(h:c ρ=some (true,ρ')):sIf c f g ρ=f ρ':=by unfold sIf;rw[h]
theorem ur(h:c ρ=some (false,ρ')):sIf c f g ρ=g ρ':=by unfold sIf;rw[h]
theorem t8(h:e ρ=some (d,ρ')):um i e ρ=some (.nx (ρ'.set i (.im d))):=by unfold um;rw[h]
theorem BY(h:a ρ=some (ds,ρ')):xa i a ρ=some (.nx (ρ'.set i (.ls ds))):=by unfold xa;rw[h]
theorem ug(h:e ρ=some (d,ρ')):ub e ρ=some (.rt d ρ'):=by unfold ub;rw[h]
theorem wu(h:a ρ=some (ds,ρ')):uT a ρ=some (.rn ds ρ'):=by unfold uT;rw[h]
theorem u7(h:e ρ=some (d,ρ')):uu e ρ=some (.nx ρ'):=by unfold uu;rw[h]
theorem tQ{g:D->D->Option D}(h1:e ρ=some (x,ρ1))(h2:e' ρ1=some (y,ρ2))(h3:g x y=some z):c2 g e e' ρ=some (z,ρ2):=by unfold c2;rw[h1];simp only[h2,h3]
theorem uD{g:D->Option D}(h1:e ρ=some (x,ρ1))(h3:g x=some z):c1 g e ρ=some (z,ρ1):=by unfold c1;rw[h1];simp only[h3]
theorem Pt(h1:e (ρ.map Sl.bor)=some (d,ρ1))(hf:v9 d=true):Es e ρ=some (d,ρ):=by unfold Es;rw[h1];simp only[hf,if_true]
theorem Ma(h1:c (ρ.map Sl.bor)=some (b,ρ1)):DE c ρ=some (b,ρ):=by unfold DE;rw[h1]
theorem uR(h1:e ρ=some (.bl b,ρ1)):cT e ρ=some (b,ρ1):=by unfold cT;rw[h1]
theorem Mb(h1:c ρ=some (b,ρ1)):yS c ρ=some (!b,ρ1):=by unfold yS;rw[h1]
theorem y3(h1:c ρ=some (false,ρ1))(h2:c' ρ1=some (b,ρ2)):xX c c' ρ=some (b,ρ2):=by unfold xX;rw[h1];exact h2
theorem tG(h1:e ρ=some (d,ρ1))(h2:a ρ1=some (ds,ρ2)):tD e a ρ=some (d::ds,ρ2):=by unfold tD;rw[h1];simp only[h2]
theorem tK{α:Type}{g:aS->Option α}{r:α}(h1:a ρ=some (ds,ρ1))(h2:g ds=some r):CW g a ρ=some (r,ρ1):=by unfold CW;rw[h1];simp only[h2]
theorem uE(h1:a ρ=some (ds,ρ1)):cL a ρ=some (.lst ds,ρ1):=by unfold cL;rw[h1]
theorem AD(h1:a ρ=some (ds,ρ1))(hl:ds.length<=1000):tZ a ρ=some (ds,ρ1):=by unfold tZ;rw[h1];simp only[hl,if_true]
theorem wb(h1:a ρ=some (ds,ρ1))(hl:ds.length<=1000):uA a ρ=some (.tup ds,ρ1):=by unfold uA;rw[h1];simp only[hl,if_true]
theorem u4(h1:e ρ=some (.lst xs,ρ1))(h2:e' ρ1=some (.lst ys,ρ2))(hl:xs.length+ys.length<=1000):uU e e' ρ=some (xs++ys,ρ2):=by unfold uU;rw[h1];simp only[h2,hl,if_true]
theorem xb{g:aS->aS->Option (D×aS)}{i:Nat}{es es0 es':aS}(h0:vv ρ i=some es0)(h1:a ρ=some (ds,ρ1))(h2:vv ρ1 i=some es)(h3:g es ds=some (d,es')):uG g i a ρ=some (d,putAt ρ1 i es'):=by unfold uG;rw[h0];simp only[h1,h2,h3]
theorem Da(h0:vv ρ i=some es0)(h1:e ρ=some (d,ρ1))(h2:vv ρ1 i=some es)(hl:es.length<1000):zp i e ρ=some (.non,putAt ρ1 i (es++[d])):=by unfold zp;rw[h0];simp only[h1,h2,hl,if_true]
theorem wK{s:FA}{g:FG}(h1:s ρ=some (ds,ρ1)):yu s g f ρ=forL g f ds ρ1:=by unfold yu;rw[h1]
theorem BZ{k:Nat}{cap:List Nat}{s:FA}{g:FG}{ft:FT}{fe:FE}(h1:s ρ=some (ds,ρ1))(hl:ds.length<=1000):ue k cap s g ft fe ρ=xq k cap g ft fe ds ρ1:=by unfold ue;rw[h1];simp only[hl,if_true]
theorem WD(hl:ds.length=np)(h:b (L4.stM n es ds)=some (.rt d ρ))(h0:DB ρ=some es'):fnM np n b es ds=some (d,es'):=by unfold fnM;rw[ah hl,h];simp only[h0]
theorem WE(hl:ds.length=np)(h:b (L4.stM n es ds)=some (.rn xs ρ))(h0:DB ρ=some es'):fnM np n b es ds=some (.lst xs,es'):=by unfold fnM;rw[ah hl,h];simp only[h0]
theorem Dc(hl:ds.length=np)(h:b (L4.stE n ds)=some (.rn xs ρ)):fnN np n b ds=some xs:=by unfold fnN;rw[ah hl,h]
theorem uq(hl:ds.length=np)(h:b (L4.stE n ds)=some (.rt d ρ)):fnD np n b ds=some d:=by unfold fnD;rw[ah hl,h]
end
theorem yk(h:BD a=true\/BD b=true):xK (.int a) (.int b)=some (.int (a * b)):=by unfold xK dI;simp only;rw[ah (by simpa using h)]
theorem xZ(h:0<b):wa (.int a) (.int b)=some (.int (a % b)):=by unfold wa dI;simp only;rw[ah (by simpa using h)]
theorem div_pos(h:0<b)(h':b<1073741824):Bn (.int a) (.int b)=some (.int (a / b)):=by unfold Bn dI;simp only;rw[ah (by simp[h,h'])]
theorem JF(h:0<=a)(h':a<2147483647):BD a=true:=by unfold BD;simp only[aZ,bR];omega
def Bj:D->Option Key
 |.int i=>some (.inl i)
 |.str x=>some (.inr x)
 |_=>none
def vp:List Key->aS->Key->Option D
 |k::ks,d::ds,j=>if k=j then some d else vp ks ds j
 |_,_,_=>none
def S4(ks:List Key)(ds:aS)(k:Key)(d:D):aS:=dH (λk' d'=>if k'=k then d else d') ks ds
def Fh(ks:List Key)(k:Key):Bool:=ks.any λk'=>decide (k'=k)
section
variable{X:Cx}{G:Bg}{H:Hp}
theorem zO(h:Rep G H d v)(e:Bj d=some k):v=kV k:=by
 cases d<;>first|cases e|skip
 all_goals (unfold Rep at h;exact h)
theorem AE:∀{ks:List Key} {ds:aS} {xs:bG} (j:Key),tL G H ds xs->ks.length=xs.length->match vp ks ds j with
  |some d=>∃v,wZ (ks.zip xs) j=some v/\Rep G H d v
  |none=>wZ (ks.zip xs) j=none
 |[],ds,xs,j,r,l=>by cases ds<;>rfl
 |k::ks,ds,[],j,r,l=>by cases l
 |k::ks,[],x::xs,j,r,l=>by unfold tL at r;cases r
 |k::ks,d::ds,x::xs,j,r,l=>by
  unfold tL at r;obtain⟨v,q,e,h1,h2⟩:=r;cases e;unfold vp;by_cases hk:k=j
  ·rw[ah hk];exact⟨x,BR (p:=(k,x)) hk,h1⟩
  ·rw[ai hk];have ih:=AE (ks:=ks) (ds:=ds) (xs:=xs) j h2 (by simpa using l);have e1:wZ ((k::ks).zip (x::xs)) j=wZ (ks.zip xs) j:=BS (p:=(k,x)) hk;rw[e1];exact ih
theorem HU:∀{ks:List Key} {xs:bG},ks.length=xs.length->((ks.zip xs).any λkv=>decide (kv.1=k))=Fh ks k
 |[],xs,_=>by cases xs<;>rfl
 |k'::ks,[],l=>by cases l
 |k'::ks,x::xs,l=>by unfold Fh;rw[eV,fY,fY,HU (by simpa using l)];rfl
theorem Mc:∀{ks:List Key} {xs:bG},ks.length=xs.length->(ks.zip xs).map (λkv=>if kv.1=k then (kv.1,v)else kv)=ks.zip (dH (λk' x=>if k'=k then v else x) ks xs)
 |[],xs,_=>by cases xs<;>rfl
 |k'::ks,[],l=>by cases l
 |k'::ks,x::xs,l=>by
  rw[eV,aE,Mc (by simpa using l),iC,eV];congr 1;by_cases hk:k'=k
  ·rw[ah hk,ah hk]
  ·rw[ai hk,ai hk]
theorem JG(hd:Rep G H d v):∀{ks:List Key} {ds:aS} {xs:bG},tL G H ds xs->ks.length=xs.length->tL G H (S4 ks ds k d) (dH (λk' x=>if k'=k then v else x) ks xs)
 |[],ds,xs,r,l=>by unfold S4;cases ds<;>cases xs<;>exact uj
 |k'::ks,ds,[],r,l=>by cases l
 |k'::ks,[],x::xs,r,l=>by unfold tL at r;cases r
 |k'::ks,d'::ds,x::xs,r,l=>by
  unfold tL at r;obtain⟨w,q,e,h1,h2⟩:=r;cases e;unfold S4;rw[iC,iC];refine uk ?_ (JG hd h2 (by simpa using l));by_cases hk:k'=k
  ·rw[ah hk,ah hk];exact hd
  ·rw[ai hk,ai hk];exact h1
theorem _root_.L2.DGet.kf(e:H a=some (.frz o (.dK kvs))):DGet H a (kV k) (wZ kvs k):=.inl ⟨kvs,k,.inr ⟨o,e⟩,rfl,rfl⟩
def vd:D->D->Option D:=λx y=>match x,Bj y with
 |.dic ks ds,some k=>vp ks ds k
 |_,_=>none
theorem S5(hu:X.A.units+1<cLine)(ha:PE X a (tF G f))(hb:PE X b (tF G f'))(hs:VS b:=by exact λ_ _=>rfl):PE X (.Subscript a b pos) (tF G (c2 vd f f')):=PE.weak (RY hu ha hb hs) λσ H Q hh=>by
 sleep 1
 obtain⟨x,y,ρ1,e1,e2,e3⟩:=EA e;refine⟨F,ρ,H0,x,ρ1,R,e1,λv H1 H1' s1 R1 r1=>⟨F,ρ1,H1,y,ρ',R1,e2,λu H2 H2' s2 R2 r2=>?_⟩⟩;have r1':=Rep.mono s2 _ _ r1;cases x with
 |dic ks ds=>
  unfold vd at e3;cases ek:Bj y with
  |none=>simp only[ek]at e3;cases e3
  |some j=>simp only[ek]at e3;unfold Rep at r1';obtain⟨p,ob,xs,rfl,h1,h2,h3⟩:=r1';have lv:=AE (ks:=ks) j h3 h2;rw[e3]at lv;obtain⟨w,w1,w2⟩:=lv;refine⟨p,w,rfl,?_,k w H2 H2' (s1.trans s2) R2 w2⟩;rw[zO r2 ek,<- w1];exact DGet.kf (R2.sub _ _ h1)
 |_=>unfold vd at e3;cases e3
def B2:D->D->Option D:=λx y=>match x,Bj y with
 |.dic ks ds,some k=>some ((vp ks ds k).getD .non)
 |_,_=>none
theorem Pu(hu:X.A.units+1<cLine)(ha:PE X a (tF G f))(hb:PE X b (tF G f'))(m:M1 X a "get" apos b cpos):PE X (.Call (.Attribute a "get" apos) [b] [] cpos) (tF G (c2 B2 f f')):=PE.weak (OM hu ha hb m) λσ H Q hh=>by
 sleep 1
 obtain⟨x,y,ρ1,e1,e2,e3⟩:=EA e;cases x with
 |dic ks ds=>
  refine⟨F,ρ,H0,_,ρ1,R,e1,λv H1 H1' s1 R1 r1=>?_⟩;have r1':=r1;unfold Rep at r1';obtain⟨p,ob,xs,rfl,h1,h2,h3⟩:=r1';refine⟨p,rfl,.inl ⟨_,.inr ⟨_,R1.sub _ _ h1⟩⟩,F,ρ1,H1,y,ρ',R1,e2,λu H2 H2' s2 R2 r2=>?_⟩;unfold B2 at e3;cases ek:Bj y with
  |none=>simp only[ek]at e3;cases e3
  |some j=>
   simp only[ek]at e3;cases e3;have lv:=AE (ks:=ks) j (tL.mono s2 _ _ h3) h2;refine⟨wZ (ks.zip xs) j,?_,?_⟩
   ·rw[zO r2 ek];exact DGet.kf (R2.sub _ _ (s2 _ _ h1))
   ·cases el:vp ks ds j with
    |none=>rw[el]at lv k;rw[lv];exact k _ H2 H2' (s1.trans s2) R2 zK
    |some z=>rw[el]at lv k;obtain⟨w,w1,w2⟩:=lv;rw[w1];exact k _ H2 H2' (s1.trans s2) R2 w2
 |_=>unfold B2 at e3;cases e3
def Fi(i:Nat):FS:=λρ=>some (.nx (ρ.set i (.dk [] [])))
theorem Pw{st:Stmt}(h:PS X st (BN KN (yO i))):PS X st (tFS G (Fi i)):=PS.weak h λE σ H hh=>by obtain⟨F,ρ,H0,o,R,e,k,k2⟩:=hh;cases e;intro p hp;have R1:=R.newOwn hp (.dK []);refine k _ _ _ (tT.refl _) (R1.set (s:=.dk [] []) ⟨p,[],rfl,tP,R.h0none hp,R.bNone hp,rfl,uj⟩ λ_ a ea j t _ ej to=>?_);cases ea;exact R.apart hp j t ej to
def vV(i:Nat)(fk fv:FE):FS:=λρ=>match fv ρ with
 |some (d,ρ1)=>match ρ1[i]? with
  |some (.dk _ _)=>match fk ρ1 with
   |some (y,ρ2)=>match Bj y with
    |some k=>match ρ2[i]? with
     |some (.dk ks ds)=>if ks.length<1000 then if ds.length=ks.length then some (.nx (ρ2.set i (if Fh ks k=true then .dk ks (S4 ks ds k d)else .dk (ks++[k]) (ds++[d]))))else none else none
     |_=>none
    |none=>none
   |none=>none
  |_=>none
 |none=>none
theorem Px{st:Stmt}(h:PS X st (UP (zk i) (tF G fk) (tF G fv))):PS X st (tFS G (vV i fk fv)):=PS.weak h λE σ H hh=>by
 obtain⟨F,ρ,H0,o,R,e,k,k2⟩:=hh;unfold vV at e;rcases uf (f:=fv) (ρ:=ρ)with e1|⟨d,ρ1,e1⟩<;>simp only[e1]at e
 ·cases e
 split at e
 ·rename_i ks0 ds0 ei;rcases uf (f:=fk) (ρ:=ρ1)with e2|⟨y,ρ2,e2⟩<;>simp only[e2]at e
  ·cases e
  cases ek:Bj y with
  |none=>simp only[ek]at e;cases e
  |some j=>
   simp only[ek]at e;split at e
   ·rename_i ks ds ei2;split at e
    ·rename_i hl;split at e
     ·rename_i hl2;cases e;refine⟨F,ρ,H0,d,ρ1,R,e1,λv H1 H1' s1 R1 r1=>?_⟩;obtain⟨a0,xs0,a1,_⟩:=R1.sl i _ ei;refine⟨_,v7 a1,F,ρ1,H1,y,ρ2,R1,e2,λu H2 H2' s2 R2 r2=>?_⟩;obtain⟨a,xs,b1,b2,b3,b4,b5,b6⟩:=R2.sl i _ ei2;rw[a1]at b1;cases b1;refine⟨a0,upd H2' a0 (.dK (putK (ks.zip xs) j v)),rfl,?_,?_⟩
      ·rw[zO r2 ek];exact OI.k b2 (by rw[gW];exact kM (Nat.min_le_left _ _) (A5 (by omega)))
      ·have rv:=Rep.mono s2 _ _ r1;refine k _ _ _ (s1.trans s2) (R2.mut ei2 rfl a1 (λH' hH=>?_) ?_)
       ·by_cases hk:Fh ks j=true
        ·rw[ah hk];refine⟨a0,dH (λk' x=>if k'=j then v else x) ks xs,rfl,?_,b3,b4,by rw[kC,b5,hX],JG rv b6 b5⟩;rw[hH];unfold putK;rw[HU b5,ah hk,Mc b5]
        ·rw[ai hk];refine⟨a0,xs++[v],rfl,?_,b3,b4,by rw[aB,aB,b5];rfl,vt b6 (uk rv uj)⟩;rw[hH];unfold putK;rw[HU b5,ai hk,o6 b5];rfl
       ·split<;>rfl
     ·cases e
    ·cases e
   ·cases e
 ·cases e
def Fj:D->Option D
 |.lst ds=>(Gj ds).map λbs=>.bl (bs.any id)
 |_=>none
theorem NK(hc:X.calm=true)(hK:X.K=G.K:=by rfl):vq X (.builtin "any") (λxs H Q=>∃(p:Addr) (bs:List Bool),xs=[.ref p]/\SqL G.K H p (bs.map V.bl)/\Q (.bl (bs.any id)) H):=by
 rw[<-hK];intro wv s σ H xs us Q I r h;obtain⟨p,bs,rfl,hq,q⟩:=h;obtain⟨u,rfl,ru⟩:=vals1 r;cases ru;obtain⟨its,rv,pl,hz⟩:=I.list hq;have hlt:p<s.heap.objs.size:=by obtain⟨o,ho,_⟩:=pl.isList;exact aK ho
 have hl:bs.length=its.length:=by have:=rv.length;rw[af]at this;exact this
 refine call_any_walk (iH pl.isList ⟨s.heap.objs.size,_,_,_,_,_,λi=>(bs[i]?).getD false,rfl,j5 (show X.A.in1.handled=none from I.ok.hd hc) _ p (aR hlt) its.toArray,⟨⟨_,bp _ rfl,rfl,rfl⟩,?_⟩,?_,λh' tk hk=>?_⟩)
 ·exact pl.isList.at λo e=>aC _ e
 ·intro i v s' Q' E' hv hQ';have hv':its[i]?=some v:=by simpa using hv
  have hi:i<its.length:=(bO.mp hv').1;have hb:(bs.map V.bl)[i]?=some (.bl (bs[i]'(by omega))):=by simp[show i<bs.length by omega]
  obtain⟨u,hu,ru⟩:=rv.get hb;rw[hv']at hu;cases hu;cases ru;refine dg ?_;have e:(bs[i]?).getD false=bs[i]'(by omega):=by simp[show i<bs.length by omega]
  rw[<-e];exact hQ'
 ·refine⟨.bl (bs.any id),H,?_,?_,q⟩
  ·exact I.kept (t':=tk) λb o e=>hk b o (by simp;exact aR (aK e)) (aC _ e)
  ·show Value.bool _=Value.bool _;congr 1;rw[bf,<- hl];rw[eZ];simp only[gR,bI,id];constructor
   ·rintro⟨i,hi,h⟩;exact⟨bs[i],cv hi,by simpa [hi]using h⟩
   ·rintro⟨b,hb,h⟩;obtain⟨i,hi,rfl⟩:=eB.mp hb;exact⟨i,hi,by simpa [hi]using h⟩
theorem WG:GU G (λxs H Q=>∃(p:Addr) (bs:List Bool),xs=[.ref p]/\SqL G.K H p (bs.map V.bl)/\Q (.bl (bs.any id)) H) Fj:=λx z H0 H v Q e s rx k=>by
 cases x with
 |lst ds=>
  unfold Fj at e;simp only at e;cases e1:Gj ds with
  |none=>rw[e1]at e;cases e
  |some bs=>rw[e1]at e;cases e;unfold Rep at rx;obtain⟨a,xs,rfl,h1,h2⟩:=rx;rw[Fd h2 e1]at h1;exact⟨a,bs,rfl,s.seq (SqL.of h1),k _ λ_ _=>wC _⟩
 |_=>cases e
def iS(f:FE):FA:=λρ=>match f ρ with
 |some (.str x,ρ')=>some (x.cps.toList.map λc=>D.str ⟨#[c]⟩,ρ')
 |_=>none
theorem S6(h:PI X tg e (ZZ (tF G f))):PI X tg e (tFI G (iS f)):=PI.weak h λσ H R hh=>by
 obtain⟨F,ρ,H0,ds,ρ',R,e,k⟩:=hh;unfold iS at e;split at e
 ·rename_i x ρ1 e1;cases e;refine⟨F,ρ,H0,_,_,R,e1,λv H1 H1' s R' r=>?_⟩;unfold Rep at r;refine⟨x,r,k _ _ _ s R' λi H2 H2' t t'=>⟨λd ed=>?_,λhl=>?_⟩⟩
  ·rw[bc]at ed;cases ec:x.cps.toList[i]? with
   |none=>rw[ec]at ed;cases ed
   |some c=>
    rw[ec]at ed;cases ed;have ec':x.cps[i]?=some c:=by simpa using ec
    refine⟨(jo.mp ec').1,λz H3 y=>?_⟩;obtain⟨e3,c',hc',rfl⟩:=y;rw[ec']at hc';cases hc';subst e3;exact⟨H2,tT.refl _,t',tT.refl _,λb o e=>.inl e,xW _⟩
  ·show i=x.cps.size;rw[hl,af];simp
 ·cases e
def DG(f g:FE):FE:=λρ=>match f ρ with
 |some (.tup (x::xs),ρ1)=>match g ρ1 with
  |some (.tup ys,ρ2)=>if xs.length+ys.length<=900 then some (.tup (x::xs++ys),ρ2)else none
  |_=>none
 |_=>none
theorem S7(ha:PE X a (tF G f))(hb:PE X b (tF G g))(hK:X.K=G.K:=by rfl):PE X (.BinOp a .Add b pos) (tF G (DG f g)):=PE.weak (LG LN ha hb) λσ H Q hh=>by
 rw[hK]
 sleep 1
 unfold DG at e;split at e
 ·rename_i x xs ρ1 e1;split at e
  ·rename_i ys ρ2 e2;split at e
   ·rename_i hl;cases e;refine⟨F,ρ,H0,_,ρ1,R,e1,λv H1 H1' s R' r=>⟨F,ρ1,H1,_,_,R',e2,λu H2 H2' s2 R2 r2=>?_⟩⟩;have r':=Rep.mono s2 _ _ r;have r0:=r';unfold Rep at r' r2;obtain⟨a1,xs1,rfl,h1,h2⟩:=r';obtain⟨a2,xs2,rfl,h3,h4⟩:=r2;have l1:=tN h2;have l2:=tN h4;rw[aM]at l1;refine⟨a1,a2,xs1,xs2,rfl,rfl,SqT.mono R2.sub h1,SqT.mono R2.sub h3,(λz=>by rw[z]at l1;cases l1),by rw[<-l1,<- l2];exact xw (by omega),λz=>?_,λ_ p hp=>?_⟩
    ·have ey:ys=[]:=by rw[z]at l2;exact iz.mp l2
     subst ey;rw[bq]at k;exact k _ _ _ (s.trans s2) R2 r0
    ·exact k _ _ _ ((s.trans s2).trans (tV (R2.h0none hp) _)) (R2.newIm hp _) (yQ (SqT.of tP) (tL.mono (tV (R2.h0none hp) _) _ _ (vt h2 h4)))
   ·cases e
  ·cases e
 ·cases e
end
section
variable{X:Cx}{G:Bg}
abbrev FO:=bb->Option (Option Int×bb)
def tFO(G:Bg)(f:FO):TO:=λσ H Q=>∃F ρ H0 d ρ',tW G F σ ρ H0 H/\f ρ=some (d,ρ')/\∀H0' H',tT H0 H0'->tW G F σ ρ' H0' H'->Q d H'
def oNo:FO:=λρ=>some (none,ρ)
def oAt(f:FE):FO:=λρ=>match f ρ with
 |some (.int i,ρ')=>some (some i,ρ')
 |_=>none
theorem PO.weak(h:PO X e t)(w:∀σ H Q,t' σ H Q->t σ H Q):PO X e t':=λwv s σ H Q I hq=>h wv s σ H Q I (w _ _ _ hq)
theorem WH:PO X none (tFO G oNo):=PO.weak LL λσ H Q hh=>by
 sleep 1
 cases e;exact k _ _ (tT.refl _) R
theorem WI(h:PE X e (tF G f)):PO X (some e) (tFO G (oAt f)):=PO.weak (LM h) λσ H Q hh=>by
 sleep 1
 unfold oAt at e;split at e
 ·rename_i i ρ1 e1;cases e;refine⟨F,ρ,H0,_,_,R,e1,λv H1 H1' s R' r=>?_⟩;unfold Rep at r;exact⟨i,r,k _ _ s R'⟩
 ·cases e
def y4(f:FE)(lo hi:FO):FA:=λρ=>match f ρ with
 |some (d,ρ1)=>match d with
  |.lst ds=>match lo ρ1 with
   |some (l,ρ2)=>match hi ρ2 with
    |some (h,ρ3)=>some (cutD ds l h,ρ3)
    |none=>none
   |none=>none
  |.fzl ds=>match lo ρ1 with
   |some (l,ρ2)=>match hi ρ2 with
    |some (h,ρ3)=>some (cutD ds l h,ρ3)
    |none=>none
   |none=>none
  |_=>none
 |none=>none
theorem KZ{lo:FO}(h:PE X e (tSl (Nf G.K) (tF G f) (tFO G lo) (tFO G hi))):PE X e (tFN G (y4 f lo hi)):=PE.weak h λσ H Q hh=>by
 obtain⟨F,ρ,H0,ds,ρ',R,e,k⟩:=hh;unfold y4 at e;rcases uf (f:=f) (ρ:=ρ)with e1|⟨d,ρ1,e1⟩<;>simp only[e1]at e
 ·cases e
 have gen:∀(xs:aS),(∀{H1:Hp} {v:V},Rep G H1 d v->∃a ys,v=.ref a/\SqL G.K H1 a ys/\tL G H1 xs ys)->(match lo ρ1 with
   |some (l,ρ2)=>match hi ρ2 with
    |some (h,ρ3)=>some (cutD xs l h,ρ3)
    |none=>none
   |none=>none)=some (ds,ρ')->tSl (Nf G.K) (tF G f) (tFO G lo) (tFO G hi) σ H Q:=λxs rd e=>by
  rcases uf (f:=lo) (ρ:=ρ1)with e2|⟨l,ρ2,e2⟩<;>simp only[e2]at e
  ·cases e
  rcases uf (f:=hi) (ρ:=ρ2)with e3|⟨u,ρ3,e3⟩<;>simp only[e3]at e
  ·cases e
  cases e;refine⟨F,ρ,H0,d,ρ1,R,e1,λv H1 H1' s1 R1 r1=>⟨F,ρ1,H1,l,ρ2,R1,e2,λH2 H2' s2 R2=>⟨F,ρ2,H2,u,_,R2,e3,λH3 H3' s3 R3=>?_⟩⟩⟩;obtain⟨a,ys,rfl,q1,q2⟩:=rd (Rep.mono (s2.trans s3) _ _ r1);exact⟨a,ys,rfl,R3.sub.seq q1,λp hp=>k p _ _ _ (s1.trans (s2.trans s3)) (R3.newOwn hp _) tP (R3.h0none hp) (R3.bNone hp) (R3.apart hp) (Fg q2)⟩
 cases d with
 |lst xs=>exact gen xs (λr=>by unfold Rep at r;obtain⟨a,ys,rfl,q1,q2⟩:=r;exact⟨a,ys,rfl,SqL.of q1,q2⟩) e
 |fzl xs=>exact gen xs (λr=>by unfold Rep at r;exact r) e
 |_=>cases e
def JH:D->D->Option D
 |.str x,.int n=>if 0<=n/\n<=1000/\x.length<=100 then some (.str (ja x n))else none
 |_,_=>none
end
section
variable{X:Cx}{G:Bg}
def Fk:FE:=λ_=>none
theorem Py:PE X e (tF G Fk):=λwv s σ H Q I h=>by obtain⟨F,ρ,H0,d,ρ',R,e,_⟩:=h;cases e
def Fl(f f' f2:FE):FE:=λρ=>match f ρ with
 |some (.dic ks ds,ρ1)=>match f' ρ1 with
  |some (y,ρ2)=>match f2 ρ2 with
   |some (x,ρ3)=>match Bj y with
    |some k=>some ((vp ks ds k).getD x,ρ3)
    |none=>none
   |none=>none
  |none=>none
 |_=>none
theorem Pz(hu:X.A.units+1<cLine)(ha:PE X a (tF G f))(hb:PE X b (tF G f'))(hc:PE X c (tF G f2))(m:M2 X a "get" apos b c cpos):PE X (.Call (.Attribute a "get" apos) [b,c] [] cpos) (tF G (Fl f f' f2)):=PE.weak (ON hu ha hb hc m) λσ H Q hh=>by
 sleep 1
 unfold Fl at e;split at e
 ·rename_i ks ds ρ1 e1;rcases uf (f:=f') (ρ:=ρ1)with e2|⟨y,ρ2,e2⟩<;>simp only[e2]at e
  ·cases e
  rcases uf (f:=f2) (ρ:=ρ2)with e3|⟨x,ρ3,e3⟩<;>simp only[e3]at e
  ·cases e
  cases ek:Bj y with
  |none=>simp only[ek]at e;cases e
  |some j=>
   simp only[ek]at e;cases e;refine⟨F,ρ,H0,_,ρ1,R,e1,λv H1 H1' s1 R1 r1=>?_⟩;unfold Rep at r1;obtain⟨p,ob,xs,rfl,h1,h2,h3⟩:=r1;refine⟨p,rfl,.inl ⟨_,.inr ⟨_,R1.sub _ _ h1⟩⟩,F,ρ1,H1,y,ρ2,R1,e2,λu H2 H2' s2 R2 r2=>⟨F,ρ2,H2,x,_,R2,e3,λz H3 H3' s3 R3 r3=>?_⟩⟩;have lv:=AE (ks:=ks) j (tL.mono (s2.trans s3) _ _ h3) h2;refine⟨wZ (ks.zip xs) j,?_,?_⟩
   ·rw[zO r2 ek];exact DGet.kf (R3.sub _ _ (s3 _ _ (s2 _ _ h1)))
   ·cases el:vp ks ds j with
    |none=>rw[el]at lv k;rw[lv];exact k _ H3 H3' (s1.trans (s2.trans s3)) R3 r3
    |some w=>rw[el]at lv k;obtain⟨w',w1,w2⟩:=lv;rw[w1];exact k _ H3 H3' (s1.trans (s2.trans s3)) R3 w2
 ·cases e
def K0(G:Bg)(c:Nat)(t:Ty->Option Bool):Prop:=(∀y b,t y=some b->c8 G.K (y.val G) (.ref (G.ca c))=some b)/\∀j b,t (.c j)=some b->NF G.K (G.ca j)
theorem K1(h:K0 G c t)(hK:X.K=G.K:=by rfl):vq X (.builtin "isinstance") (λxs H Q=>∃d x b,xs=[x,(Ty.c c).v G]/\Rep G H d x/\t (tyD d)=some b/\Q (.bl b) H):=
 GV (X:=X) (.c c) (by rw[hK];exact h.1) (by rw[hK];exact h.2) hK
end
def ddp(acc:List Key)(k:Key):List Key:=if acc.any (λz=>decide (z=k))then acc else acc++[k]
def yM(ks:List Key):List Key:=ks.foldl ddp []
theorem S8(acc:List Key)(k j:Key):(ddp acc k).any (λz=>decide (z=j))=(acc.any (λz=>decide (z=j))||decide (j=k)):=by
 unfold ddp;by_cases h:acc.any (λz=>decide (z=k))=true
 ·rw[ah h];by_cases e:j=k
  ·subst e;rw[h];simp
  ·simp[e]
 ·rw[ai h,List.any_append];by_cases e:j=k
  ·subst e;simp
  ·have hb:¬k=j:=λz=>e z.symm;simp[hb,e]
theorem Me(acc:List Key)(k:Key):(ddp acc k).length=if acc.any (λz=>decide (z=k))=true then acc.length else acc.length+1:=by unfold ddp;split<;>simp
theorem GW(ks:List Key)(i:Nat)(h:i<ks.length):yM (ks.take (i+1))=ddp (yM (ks.take i)) ks[i]:=by unfold yM;rw[oH,aJ h,kW];rfl
theorem PB(ks:List Key):(yM ks).length<=ks.length:=by
 have gen:∀(l:List Key) (acc:List Key),(l.foldl ddp acc).length<=acc.length+l.length:=by
  intro l
  induction l with
  |nil=>intro acc;simp
  |cons k l ih=>
   intro acc;rw[dB,aM];have h1:=ih (ddp acc k);have h2:(ddp acc k).length<=acc.length+1:=by rw[Me];split<;>omega
   omega
 have:=gen ks [];simpa [yM]using this
theorem set_same{h:Heap}(hS:h.SetOf (tU prog w) a S n)(e:∀k,S k=S' k)(en:n=n'):h.SetOf (tU prog w) a S' n':=by obtain rfl:S=S':=funext e;subst en;exact hS
section
variable{prog:aH}{w:aA}{A:aI}{R:fF->ae->Prop}{I:Addr}{fp wr:List Addr}{GG:Array gf->Array gf->Prop}{n:Nat}{PP:Nat->aa->Prop}{SS:Nat->ae->Prop}
theorem PD(W:WalksS prog w A.in1 I fp wr GG n PP SS)(S:Addr)(hSf:S∉fp)(ks:List Key)(hn:ks.length=n)
  (hval:∀i v (h:i<ks.length),PP i v->(tU prog w).is ks[i] v=true/\v.scannable=true) (hb:n+1<scanBound):∀(k i:Nat) (s:ae),n - i=k->i<=n->SS i s->
   s.heap.SetOf (tU prog w) S (λj=>(yM (ks.take i)).any (λz=>decide (z=j))) (yM (ks.take i)).length->
   (∀s',Moved (S::wr) GG s s'->s'.heap.SetOf (tU prog w) S (λj=>(yM ks).any (λz=>decide (z=j))) (yM ks).length->R (.ok (.ret .none)) s')->
   cq (model prog w) A (.builtin "set.update.loop" ⟨[.ref S,.ref I],[]⟩) R s:=by
 have hSw:S∉wr:=λz=>hSf (W.sub _ z);have up:∀b∈wr,b∈S::wr:=λb z=>bu _ z;intro k
 induction k with
 |zero=>
  intro i s hk hi hst hS hR;obtain rfl:i=n:=by omega
  refine dD jw ?_;rw[eC fP _];show aj _ A.in1 (pyNext (.ref I)>>=_) _ _ s;refine ag (W.done s _ _ hst λs' hm=>?_);show aj _ A.in1 (ret Value.none) _ _ s';rw[jy (by omega)]at hS;refine ar (hR s' (hm.mono up) ?_);obtain⟨o,es,ep,t,ho,more⟩:=hS;exact⟨o,es,ep,t,hm.heap S _ hSw ho,more⟩
 |succ k ih=>
  intro i s hk hi hst hS hR;have hlt:i<n:=by omega
  have hlk:i<ks.length:=by omega
  refine dD jw ?_;rw[eC fP _];show aj _ A.in1 (pyNext (.ref I)>>=_) _ _ s;refine ag (W.item i s _ _ hlt hst λv s' hP hst' hm=>?_);obtain⟨kv,sc⟩:=hval i v hlk hP;have hS':s'.heap.SetOf (tU prog w) S (λj=>(yM (ks.take i)).any (λz=>decide (z=j))) (yM (ks.take i)).length:=by obtain⟨o,es,ep,t,ho,more⟩:=hS;exact⟨o,es,ep,t,hm.heap S _ hSw ho,more⟩
  show aj _ A.in1 (holding [v] (setAdd S v)>>=_) _ _ s';refine ag (cW ?_);unfold setAdd;refine cW ?_;refine ag ((tU prog w).pyHash (k:=ks[i]) kv ?_);have room:(yM (ks.take i)).length+1<scanBound:=by have:=PB (ks.take i);rw[bo]at this;omega
  refine wpAny_setAddHashed_of (knd:=tU prog w) (s:={ s' with toks:=s'.toks+1 }) kv sc hS' room λh' hsb hS2=>?_;have hSi:h'.SetOf (tU prog w) S (λj=>(yM (ks.take (i+1))).any (λz=>decide (z=j))) (yM (ks.take (i+1))).length:=
   set_same hS2 (λj=>by rw[GW ks i hlk,S8]) (by rw[GW ks i hlk,Me])
  refine ar ⟨fA fP _,ih (i+1) _ (by omega) hlt (W.frame _ s' _ _ hst' (ic _) λb z o e=>?_) hSi λs'' hm'' hS''=>?_⟩
  ·rw[hsb.2 b (λy:b=S=>hSf (by rw[<-y];exact z))];exact e
  ·refine hR s'' (l8 W.gtrans ((hm.mono up).then_heap (ic _) λb o z e=>?_) hm'') hS'';rw[hsb.2 b (λy:b=S=>z (by rw[y];exact bg))];exact e
end
theorem S9(l:Addr)(us:Array aa)(m:Nat)(b:Addr)(o:Obj)(ws:Array aa)(m2:Nat)(hc:o.cls=.type "tuple")(hd:o.data=.seq ws m2)(z0:¬(!us.isEmpty&&iy (us.size+ws.size))=true)(z1:us.size<=aG)(z2:us.size+ws.size<=aG+1):
  Meets (c9.«list.extend» ⟨[.ref l,.ref b],[]⟩) (λ_ R s=>s.heap.get? l=some { cls:=.type "list", data:=.seq us m }/\s.heap.get? b=some o/\R (.ok (.ret Value.none)) { s with heap:=s.heap.update l (cB λx=>x++ws),toks:=s.toks }):=by
 obtain⟨c,dd,data,sl⟩:=o;cases hc;cases hd;refine .of_wp λprog w A R s h=>?_;obtain⟨hp,g,d,tk,os⟩:=s;obtain⟨hl,hb,h⟩:=h;have f2:=AutoSeq1.sub_tuple_tuple;have f3:=AutoSeq1.sub_list_list;have f4:=AutoSeq1.sub_tuple_list;have f5:=AutoSeq1.sub_list_tuple;have z3:(us++ws).size<=aG+1:=Array.size_append (xs:=us) (ys:=ws)▸z2
 wp_walk using (iP hl rfl (hz:=z1) (_hz':=z3)),m8 hl,m8 hb
 exact⟨_,rfl,h⟩
section
variable{X:Cx}{G:Bg}
def JI(K:au):V->bG->Hp->VK->Prop:=λx vs H Q=>∃l b xs zs,x=.ref l/\vs=[.ref b]/\H l=some (.lst xs)/\SqT K H b zs/\xs.length+zs.length<=aG/\Q .non (upd H l (.lst (xs++zs)))
theorem K2:MtM X "list.extend" (JI X.K):=by
 intro wv s σ H x vs v us Q I rx rv h;obtain⟨l,b,xs,zs,rfl,rfl,hH,hB,hz,q⟩:=h;cases rx;obtain⟨u,rfl,ru⟩:=rv.one;cases ru;obtain⟨z,its,n,r,hl,e⟩:=I.lstM hH;obtain⟨its2,r2,⟨o,e2,hc,n2,hd⟩,hz2⟩:=I.tuple hB;have hl2:=r2.length;have hsz:its.toArray.size+its2.toArray.size<=aG:=by rw[bf,bf];omega
 have hlong:¬(!its.toArray.isEmpty&&iy (its.toArray.size+its2.toArray.size))=true:=by rw[Jg hsz,pD];exact bj
 refine j4 kL ⟨_,e,rfl⟩ oa (nQ _ _)
  (S9 l its.toArray n b o its2.toArray n2 hc hd hlong (by rw[bf];omega) (by omega)) ⟨e,e2,?_⟩
 refine⟨.non,_,I.lset (its':=its++its2) hH e (by simp) (r.append r2) ?_,rfl,q⟩;rw[aB];omega
def DH(i:Nat)(f:FE):FE:=λρ=>match vv ρ i with
 |some _=>match f ρ with
  |some (.tup es,ρ1)=>match vv ρ1 i with
   |some ds=>if ds.length+es.length<=1000 then some (.non,putAt ρ1 i (ds++es))else none
   |none=>none
  |_=>none
 |none=>none
theorem K4(h:PE X e (tBM G.K "list" (JI G.K) (zk i) (EM (tF G f) Jb))):PE X e (tF G (DH i f)):=PE.weak h λσ H Q hh=>by
 sleep 1
 unfold DH at e;cases e0:vv ρ i with
 |none=>simp only[e0]at e;cases e
 |some ds0=>
  simp only[e0]at e;rcases uf (f:=f) (ρ:=ρ)with e1|⟨x,ρ1,e1⟩<;>simp only[e1]at e
  ·cases e
  ·cases x with
   |tup es=>
    cases e2:vv ρ1 i with
    |none=>simp only[e2]at e;cases e
    |some ds=>
     simp only[e2]at e;split at e
     ·rename_i hl;cases e;obtain⟨a,xs,s1,s2,s3,_⟩:=v8 R e0;refine⟨.ref a,s1,.inl ⟨rfl,xs,SqL.of s2⟩,F,ρ,H0,_,ρ1,R,e1,λv H1 H1' s R' rs=>?_⟩;unfold Rep at rs;obtain⟨p,ys,rfl,hp,rs⟩:=rs;obtain⟨a',xs',t1,t2,t3,t4⟩:=v8 R' e2;rw[s1]at t1;cases t1;refine⟨a,p,xs',ys,rfl,rfl,t2,SqT.mono R'.sub hp,?_,k _ _ _ s (t4 _ _ (vt t3 rs)) zK⟩;rw[<-tN t3,<- tN rs];exact xw hl
     ·cases e
   |_=>cases e
end
abbrev one(j:Nat)(led pl:Bool):bJ:=⟨7,#[j],#[],0,led,0,pl⟩
section
variable{prog:aH}{w:aA}{A:aI}{E:aa->ae->Prop}{s:ae}
abbrev TK(prog:aH)(w:aA):=IsTupleKey (tU prog w)
theorem cls_val(n:Nat)(h:lF v=true):iM n v=pure false:=by
 cases v with
 |ref a=>simp[lF]at h
 |_=>first|rfl|simp[iM]|(unfold iM;rfl)
theorem Mg(hk:TK prog w s.heap ks a)(h:Q false s):aj (model prog w) A (iM 8 (.ref a)) Q E s:=by
 have hT:=hk.typeIs;obtain⟨o,items,n,ho,_,hd,hi⟩:=hk;unfold iM;refine ag (hJ hT ?_);show aj _ _ (pure true>>=_) _ _ s;refine ag (ar ?_);simp only[Bool.not_true,gK,if_false];refine ag (lG ho hd ?_);refine ag ?_;show aj _ _ (forIn items _ _) _ _ s;rw[<-oo];refine lj _ (λrest r s'=>r.1=none/\s'=s/\∀v∈rest,lF v=true) _ ?_ ?_ _ _ ⟨rfl,rfl,hi.byValue⟩
 ·rintro v rest r s' ⟨hr,rfl,hall⟩;rw[cls_val _ (hall v bg)];refine ag (ar ?_);simp only[gK,if_false];exact ar ⟨rfl,rfl,λu hu'=>hall u (bu _ hu')⟩
 ·rintro⟨r1,r2⟩ s' ⟨hr,rfl,_⟩;simp only at hr;subst hr;exact ar h
end
section
variable{prog:aH}{w:aA}{A:aI}{E:aa->ae->Prop}{s:ae}
theorem PF{hp:Heap}(ho:hp.get? S=some o)(hd:o.data=.set es ep t):(hp.update S (ml es' t')).get? S=some { o with data:=.set es' (ep+1) t' }:=by have:=eA (ml es' t') ho (by rw[putSet_of es' t' hd];rfl);rw[putSet_of es' t' hd]at this;exact this
end
section
variable{prog:aH}{w:aA}{A:aI}{R:fF->ae->Prop}{I:Addr}{fp wr:List Addr}{GG:Array gf->Array gf->Prop}{PP:Nat->aa->Prop}{SS:Nat->ae->Prop}
theorem TK.kept{h':Heap}(t:TK prog w h ks a)(e:∀o,h.get? a=some o->h'.get? a=some o):TK prog w h' ks a:=by obtain⟨o,its,n,ho,m⟩:=t;exact⟨o,its,n,e o ho,m⟩
def Set2(h:Heap)(S:Addr)(n:Nat):Prop:=∃o es ep t,h.get? S=some o/\o.ExactSet/\o.data=.set es ep t/\es.size<scanBound/\t.fits es.size=true/\es.size=n
end
theorem sub_tuple_set:isSubtype (.type "tuple") (.type "set")=pure false:=by rw[iQ];kernel_rfl
theorem sub_tuple_frozenset:isSubtype (.type "tuple") (.type "frozenset")=pure false:=by rw[iQ];kernel_rfl
section
variable{prog:aH}{w:aA}{A:aI}{E:aa->ae->Prop}{s:ae}{Q:aa->ae->Prop}
abbrev y6(led:Bool):Obj:={ cls:=.type "set", dict:=none,data:=.set #[] 0 (.fresh 0 0 led) }
abbrev inK(ks:List Key):Key->Bool:=λj=>(yM ks).any (λz=>decide (z=j))
structure SrcK(prog:aH)(w:aA)(h:Heap)(a:Addr)(items:Array aa)(ks:List Key):Prop where
 len:ks.length=items.size
 key:∀i v (hi:i<ks.length),items[i]?=some v->(tU prog w).is ks[i] v=true/\v.scannable=true
 bnd:items.size+1<scanBound
def Ta(s:ae)(PS:Heap->Prop)(E:aa->ae->Prop):fF->ae->Prop:=
 wants (λr s2=>r=.none/\∃h2 k2,s2={ s with heap:=h2,toks:=k2 }/\PS h2/\∀b o,b<s.heap.objs.size->s.heap.get? b=some o->h2.get? b=some o) E
theorem JJ(K:SrcK prog w s.heap ax items ks)(hlt:ax<s.heap.objs.size)
  (W:Walks prog w A.in1 (s.heap.objs.size+1) [s.heap.objs.size+1,ax] [s.heap.objs.size+1] items.size (λi v=>items[i]?=some v) SS) (st:SS 0 ((s.heap.push (y6 led)).push itO))
  (hR:∀h2 k2,h2.SetOf (tU prog w) s.heap.objs.size (inK ks) (yM ks).length->(∀b o,b<s.heap.objs.size->s.heap.get? b=some o->h2.get? b=some o)->R (.ok (.ret .none)) { s with heap:=h2,toks:=k2 }) (tk:Nat):
  cq (model prog w) A (.builtin "set.update.loop" ⟨[.ref s.heap.objs.size,.ref (s.heap.objs.size+1)],[]⟩) R { s with heap:=(s.heap.push (y6 led)).push itO,toks:=tk }:=by
 have notin:s.heap.objs.size∉[s.heap.objs.size+1,ax]:=by
  intro z;rcases aN.mp z with z|z
  ·exact aq z (aR (cR _))
  ·exact aq (aV.mp z) (dG hlt)
 have e0:((s.heap.push (y6 led)).push itO).get? s.heap.objs.size=some (y6 led):=aC _ (bp _ rfl);refine PD W.toS s.heap.objs.size notin ks K.len (λi v hi hv=>K.key i v hi hv) K.bnd (items.size - 0) 0 _ (by omega) (bA _) st ?_ λs2 mv S2=>?_
 ·exact⟨_,#[],0,_,e0,⟨rfl,rfl,rfl⟩,rfl,λe he=>by simp at he,λk=>by simp[yM],by unfold scanBound;decide,by rfl,rfl⟩
 ·obtain⟨h2,g2,d2,k2,o2⟩:=s2;have eg:g2=s.gens:=mv.gens;have ed:d2=s.drawn:=mv.drawn;have eo:o2=s.os:=mv.os;subst eg ed eo;refine hR h2 k2 S2 λb o hb e=>mv.heap b o (λz=>?_) (aC _ (aC _ e));rcases aN.mp z with z|z
  ·exact aq z (aR hb)
  ·exact aq (aV.mp z) (aR (di hb))
theorem K5(a:aa)(h:Q₁ (.ref s.heap.objs.size) { s with heap:=s.heap.push (y6 (!w.params.followText "set-order")) }):
  cq (model prog w) A (.call (.builtin "set.__new__") ⟨[.type "set", a],[]⟩) (wants Q₁ E) s:=by
 refine o7 ?_;show aj _ A.in1 (do checkBuiltinCall "set.__new__" ⟨[.type "set", a],[]⟩;again (.builtin "set.__new__" ⟨[.type "set", a],[]⟩)) _ _ s;refine ag (wpAny_of_eq (F.newCall_set_1 a) (ar ⟨fA o8 _,dD F.entry_set_new ?_⟩));rw[eC o8 _];unfold c9.«set.__new__» rh;have hsub:=sub_set_self;obtain⟨hp,g,d,tk,os⟩:=s;dsimp only
 wp_walk
 refine lp (ar ?_);dsimp only;simp only[newObj];refine ag (wpAny_alloc (ar ?_));exact ar h
theorem B3{PS:Heap->Prop}(ho:s.heap.get? ax=some o)(hc:o.cls=.type T)
  (u1:isSubtype (.type T) (.type "set")=pure false) (u2:isSubtype (.type T) (.type "frozenset")=pure false) (u3:(Value.type T==Value.type "dict")=false)
  (itr:∀(A:aI) (Q:aa->ae->Prop) (E:aa->ae->Prop) (s1:ae),s1.heap.get? ax=some o->Q (.ref s1.heap.objs.size) { s1 with heap:=s1.heap.push itO }->aj (model prog w) A (pyIter (.ref ax)) Q E s1)
  (fil:∀tk (R:fF->ae->Prop),(∀h2 k2,PS h2->(∀b o,b<s.heap.objs.size->s.heap.get? b=some o->h2.get? b=some o)->R (.ok (.ret .none)) { s with heap:=h2,toks:=k2 })->
   cq (model prog w) A.in1.in1 (.builtin "set.update.loop" ⟨[.ref s.heap.objs.size,.ref (s.heap.objs.size+1)],[]⟩) R { s with heap:=(s.heap.push (y6 (!w.params.followText "set-order"))).push itO,toks:=tk })
  (h:∀h2 k2,PS h2->(∀b o,b<s.heap.objs.size->s.heap.get? b=some o->h2.get? b=some o)->Q (.ref s.heap.objs.size) { s with heap:=h2,toks:=k2 }):
  aj (model prog w) A (call (.type "set") [.ref ax]) Q E s:=by
 have hlt:ax<s.heap.objs.size:=aK ho;obtain⟨c,tl,hmro⟩:=fC.mro;have made:=fC.made;have subs:=fC.sub;refine jZ (o7 ?_);show aj _ _ (callAny (.type "set") _) _ _ _;refine ar ⟨Code.quiet_builtin _ (by decide +kernel),dD F.entry_type_call ?_⟩;rw[Around.under_plain (weight_type_call_type "set" [.ref ax] []) rfl];have n1:=fC.notType;have n2:=fC.canCreate;have n3:=F.typeCall_set_1 (.ref ax)
 repeat (any_goals (first|assumption|wp_step))
 let led:Bool:=!w.params.followText "set-order";refine hG (K5 (.ref ax) (E:=E) (Q₁:=λv s1=>v=.ref s.heap.objs.size/\s1={ s with heap:=s.heap.push (y6 led) }) ⟨rfl,rfl⟩) λr s1 hr=>?_;cases r with
 |error e=>exact hr
 |ok fl=>
  cases fl with
  |ret v=>
   obtain⟨rfl,rfl⟩:=hr;have e0:(s.heap.push (y6 led)).get? s.heap.objs.size=some (y6 led):=bp _ rfl;have ty0:iU { s with heap:=s.heap.push (y6 led) } (.ref s.heap.objs.size) "set" := ⟨_,e0,rfl⟩;have l1:=fC.init.lookup;have l2:=fC.init.bind (.ref s.heap.objs.size)
   repeat (any_goals (first|assumption|wp_step))
   refine hG (nR (R:=Ta s PS E) fC.init.plain F.entry_set_init (check_set_init_1 ty0 ?_)) λr2 s2 hr2=>?_
   ·obtain⟨oc,od,oda,osl⟩:=o;cases hc;have e1:(s.heap.push (y6 led)).get? ax=some { cls:=.type T,dict:=od,data:=oda,slots:=osl }:=aC _ ho;unfold c9.«set.__init__» noKeywords rb;generalize gP:pyIter=PP
    wp_walk
    subst gP;refine itr _ _ _ _ e1 ?_;refine ag (lH ?_);have ez:(s.heap.push (y6 led)).objs.size=s.heap.objs.size+1:=cK _ _;show cq _ _ (.builtin "set.update.loop" ⟨[.ref s.heap.objs.size,.ref (s.heap.push (y6 led)).objs.size],[]⟩) _ _;rw[ez];refine fil _ _ λh2 k2 S2 kk=>?_;show aj _ _ _ _ _ _;refine ar ?_;show aj _ _ (ret Value.none) _ _ _;exact ar ⟨rfl,h2,k2,rfl,S2,kk⟩
   ·cases r2 with
    |error e=>exact hr2
    |ok fl2=>
     cases fl2 with
     |ret r=>
      obtain⟨rfl,h2,k2,rfl,S2,kk⟩:=hr2
      repeat (any_goals (first|assumption|wp_step))
      exact h _ _ S2 kk
     |_=>exact hr2.elim
  |_=>exact hr.elim
end
section
variable{X:Cx}{G:Bg}{H:Hp}{wv:cF}{σ:St}{s:ae}
theorem PH(h:(tU P w).is k v=true):v.scannable=true:=by rcases uK h with ⟨i,t,_,rfl⟩|⟨x,t,_,rfl⟩<;>rfl
theorem PJ{ks:List Key}(r:Vals (ks.map kV) its)(hb:ks.length+1<scanBound):SrcK X.prog X.w s.heap a its.toArray ks:=by
 have hl:ks.length=its.length:=by have:=r.length;rw[af]at this;exact this
 refine⟨by rw[bf];exact hl,λi v hi hv=>?_,by rw[bf];omega⟩;have e:(ks.map kV)[i]?=some (kV ks[i]):=by rw[bc,aJ hi];rfl
 obtain⟨u,hu,ru⟩:=r.get e;have eu:v=u:=by rw[jz]at hv;rw[hv]at hu;exact cU hu
 subst eu;have:=BU (P:=X.prog) (w:=X.w) ru;exact⟨this,PH this⟩
theorem UW{ks:List Key}(I:Inv X wv σ H s)(h:SqT X.K H a (ks.map kV)):TK X.prog X.w s.heap ks a:=by
 obtain⟨its,r,p,_⟩:=I.tuple h;obtain⟨o,ho,hc,n,hd⟩:=p;refine⟨o,_,n,ho,hc,hd,?_⟩;have gen:∀(ks:List Key) (its:List aa),Vals (ks.map kV) its->PySem.ItemsAre (tU X.prog X.w) ks its:=λks=>by
  induction ks with
  |nil=>intro its r;cases r;exact .nil
  |cons k ks ih=>intro its r;cases r with|cons h1 h2=>exact .cons (BU h1) (ih _ h2)
 exact gen ks its r
def WJ(K:au)(H:Hp)(a:Addr)(n:Nat):Prop:=∃ks,(SqL K H a (ks.map kV)\/SqT K H a (ks.map kV))/\ks.length+1<scanBound/\n=(yM ks).length
def WK(X:Cx)(S:au->Hp->Addr->Nat->Prop):Prop:=∀{wv:cF} {σ:St} {H:Hp} {s:ae} {A:aI} {E:aa->ae->Prop} {Q:aa->ae->Prop} {a:Addr} {n:Nat},Inv X wv σ H s->A.handled=none->A.units+8<cLine->S X.K H a n->
 (∀h2 k2,Set2 h2 s.heap.objs.size n->(∀b o,b<s.heap.objs.size->s.heap.get? b=some o->h2.get? b=some o)->Q (.ref s.heap.objs.size) { s with heap:=h2,toks:=k2 })->aj (model X.prog X.w) A (call (.type "set") [.ref a]) Q E s
theorem aao:WK X (WJ):=by
 intro wv σ H s A E Q a n I hh hu hq h;have h3:A.in1.in1.in1.handled=none:=by simp[hh]
 have gt:∀{h2:Heap} {ks:List Key},h2.SetOf (tU X.prog X.w) s.heap.objs.size (inK ks) (yM ks).length->Set2 h2 s.heap.objs.size (yM ks).length:=λS=>by obtain⟨o,es,ep,t,ho,hex,hd,_,_,hz,hf,hn⟩:=S;exact⟨o,es,ep,t,ho,hex,hd,hz,hf,hn⟩
 have it:∀{o:Obj} {led:Bool},o.isFreed=false->((s.heap.push (y6 led)).push o).get? (s.heap.objs.size+1)=some o:=λ{o led} z=>by rw[show s.heap.objs.size+1=(s.heap.push (y6 led)).objs.size from(cK _ _).symm];exact bp _ z
 obtain⟨ks,hq|hq,hb,rfl⟩:=hq
 ·obtain⟨its,r,p,_⟩:=I.list hq;obtain⟨o,ho,hc,n,hd⟩:=p.isList;have hne:a≠s.heap.objs.size+1:=aR (di (aK ho));refine B3 ho hc pF nS (by decide) (itO:={ cls:=.type "list_iterator", data:=.fields #[.ref a,.int 0 0] })
   (λA Q E s1 e k=>iH ⟨o,e,hc,n,hd⟩ k) (λtk R hR=>JJ (PJ r hb) (aK ho) (j5 h3 _ a hne its.toArray) ⟨⟨_,it rfl,rfl,rfl⟩,⟨o,aC _ (aC _ ho),hc,n,hd⟩⟩ (λh2 k2 S=>hR h2 k2 (gt S)) tk) h
 ·obtain⟨its,r,p,_⟩:=I.tuple hq;obtain⟨o,ho,hc,n,hd⟩:=p;have hne:a≠s.heap.objs.size+1:=aR (di (aK ho));refine B3 ho hc sub_tuple_set sub_tuple_frozenset (by decide) (itO:={ cls:=.type "tuple_iterator", data:=.fields #[.ref a,.int 0 0] })
   (λA Q E s1 e k=>kH ⟨o,e,hc,n,hd⟩ k) (λtk R hR=>JJ (PJ r hb) (aK ho) (qt h3 _ a hne its.toArray) ⟨⟨_,it rfl,rfl,rfl⟩,⟨o,aC _ (aC _ ho),hc,n,hd⟩⟩ (λh2 k2 S=>hR h2 k2 (gt S)) tk) h
def Mh(S:au->Hp->Addr->Nat->Prop)(K:au)(te:TE):TE:=λσ H Q=>te σ H λx H1=>∃a n,x=.ref a/\S K H1 a n/\Q (.int n) H1
theorem NL(hV:WK X S)(hu:X.A.units+64<cLine)(hc:X.calm=true)(g1:Gl X "len")(m1:X.mg "len" = none)(g2:Gl X "set")(m2:X.mg "set" = none)(he:PE X e te)
  (z1:aw [Expr.Call (.Name "set" p2) [e] [] p3] X.env=[(false,eval (.Call (.Name "set" p2) [e] [] p3) X.env)]:=by rfl) (z2:aw [e] X.env=[(false,eval e X.env)]:=by rfl):PE X (.Call (.Name "len" p1) [.Call (.Name "set" p2) [e] [] p3] [] p4) (Mh S X.K te):=by
 intro wv s σ H Q I h;refine dA (zE I g1 m1 pG ?_ (by decide) (by decide));refine callWith_builtin1 ?_ z1 rfl;rw[z1];show aj _ _ (spliced [(false,eval (.Call (.Name "set" p2) [e] [] p3) X.env)]) _ _ s;refine eF ?_;refine dA (zE I g2 m2 qu ?_ (by decide) (by decide));refine callWith_type1 (thn (u5 he xP z2 p3 wv s σ H (λvs H1=>match vs with
  |[x]=>∃a n,x=.ref a/\S X.K H1 a n/\Q (.int n) H1
  |_=>False) I h) λus s1 ⟨vs,H1,I1,r1,q1⟩=>?_) z2 rfl
 match vs,r1,q1 with
 |[x],r1,q1=>
 obtain⟨a,n,e1,hq,q⟩:=q1;subst e1;obtain⟨u,rfl,ru⟩:=vals1 r1;cases ru;refine hV I1 (I1.ok.hd hc) (by omega) hq λh2 k2 S2 kk=>?_;refine fR ?_;obtain⟨o,es,ep,t,ho,hex,hd,hz,hf,hn⟩:=S2;have I2:Inv X wv σ H1 { s1 with heap:=h2,toks:=k2 }:=I1.kept λb o e=>kk b o (aK e) e;refine call_len_set ho hex hd hf (by unfold scanBound at hz;omega) ⟨.int n,H1,I2.tok _,⟨_,by rw[hn]⟩,q⟩
def DI:aS->Option (List Key)
 |[]=>some []
 |d::ds=>match Bj d,DI ds with
  |some k,some ks=>some (k::ks)
  |_,_=>none
theorem GX:∀{ds:aS} {xs:bG} {ks:List Key},tL G H ds xs->DI ds=some ks->xs=ks.map kV
 |[],xs,ks,r,e=>by cases e;unfold tL at r;exact r
 |d::ds,xs,ks,r,e=>by
  unfold DI at e;cases e1:Bj d with
  |none=>rw[e1]at e;cases e
  |some k=>
   cases e2:DI ds with
   |none=>rw[e1,e2]at e;cases e
   |some ks'=>rw[e1,e2]at e;cases e;unfold tL at r;obtain⟨v,r',rfl,h1,h2⟩:=r;rw[zO h1 e1,GX h2 e2];rfl
def xc(ds:aS):Option D:=match DI ds with
 |some ks=>if ks.length<=1000 then some (.int (yM ks).length)else none
 |none=>none
def B4(g:aS->Option D):D->Option D
 |.lst ds=>match xc ds with
  |some r=>some r
  |none=>g ds
 |.tup ds=>xc ds
 |.fzl ds=>xc ds
 |_=>none
theorem Tc(h:xc ds=some r):B4 g (.lst ds)=some r:=by show (match xc ds with|some r=>some r|none=>g ds)=some r;rw[h]
theorem K6(hK:X.K=G.K)(hO:∀{H a n},WJ X.K H a n->S X.K H a n)
  (hg:∀{ds d H1 H1' a xs},g ds=some d->SqL X.K H1' a xs->tL G H1 ds xs->tT H1 H1'->∃n:Nat,S X.K H1' a n/\d=.int n)
  (h:PE X e (Mh S X.K (tF G f))):PE X e (tF G (c1 (B4 g) f)):=PE.weak h λσ H Q hh=>by
 sleep 1
 obtain⟨x,e1,e2⟩:=Ey e;have key:∀{ds:aS} {xs:bG} {a:Addr} {H1 H1':Hp},xc ds=some d->tL G H1 ds xs->tT H0 H1->tW G F σ ρ' H1 H1'->(SqL X.K H1' a xs\/SqT X.K H1' a xs)->
   ∃a' n,V.ref a=.ref a'/\S X.K H1' a' n/\Q (.int n) H1':=λ{ds xs a H1 H1'} ed rs s R' hq=>by
  unfold xc at ed;cases ek:DI ds with
  |none=>rw[ek]at ed;cases ed
  |some ks=>
   rw[ek]at ed;simp only at ed;split at ed
   ·rename_i hl;cases ed;rw[GX rs ek]at hq;exact⟨a,_,rfl,hO ⟨ks,hq,by unfold scanBound;omega,rfl⟩,k _ _ _ s R' (vW _)⟩
   ·cases ed
 refine⟨F,ρ,H0,x,ρ',R,e1,λv H1 H1' s R' r=>?_⟩;cases x with
 |lst ds=>
  unfold Rep at r;obtain⟨a,xs,rfl,h1,h2⟩:=r;have hq:SqL X.K H1' a xs:=SqL.of (R'.sub _ _ h1);replace e2:(match xc ds with|some r=>some r|none=>g ds)=some d:=e2;cases e3:xc ds with
  |some r=>rw[e3]at e2;cases e2;exact key e3 h2 s R' (.inl hq)
  |none=>rw[e3]at e2;obtain⟨n,h3,rfl⟩:=hg e2 hq h2 R'.sub;exact⟨a,n,rfl,h3,k _ _ _ s R' (vW _)⟩
 |tup ds=>unfold Rep at r;obtain⟨a,xs,rfl,h1,h2⟩:=r;rw[<-hK]at h1;exact key e2 h2 s R' (.inr (SqT.mono R'.sub h1))
 |fzl ds=>unfold Rep at r;obtain⟨a,xs,rfl,h1,h2⟩:=r;rw[<-hK]at h1;exact key e2 h2 s R' (.inl (R'.sub.seq h1))
 |_=>cases e2
end
theorem B5(h:(tU P w).is k v=true):RelV (kV k) v:=by
 rcases uK h with ⟨i,t,rfl,rfl⟩|⟨x,t,rfl,rfl⟩
 ·exact⟨t,rfl⟩
 ·exact⟨t,rfl⟩
def Itd(a:Addr)(o:Obj)(kvs:List (Key×V)):It:=
 ⟨λi H=>i<kvs.length/\H a=some (.frz o (.dK kvs)),λi H x H'=>H'=H/\∃k z,kvs[i]?=some (k,z)/\x=kV k,λi H=>kvs.length<=i/\H a=some (.frz o (.dK kvs))⟩
section
variable{X:Cx}{wv:cF}{σ:St}{H:Hp}{s:ae}
theorem DJ(I:Inv X wv σ H s)(e:H a=some (.frz o (.dK kvs)))(hd:o.data=.dict es ep):
  (a==cY)=false/\s.heap.get? a=some o/\∃vs,KV kvs vs/\s.heap.DictAt (tU X.prog X.w) a vs ep:=by
 obtain⟨q0,_,y,vs,r,ob,es',ep',q1,q2,q3,q4⟩:=(show uQ X.prog X.w H s.heap a (.frz o (.dK kvs)) from I.hok a _ e);rw[q0]at q1;cases q1;rw[hd]at q3;cases q3;exact⟨y,q0,vs,r,o,es,q0,q2,hd,q4⟩
theorem WL{kvs:List (Key×V)}{vs:List (Key×aa)}(r:KV kvs vs){i:Nat}{k:Key}{x:aa}(e:vs[i]?=some (k,x)):∃z,kvs[i]?=some (k,z):=by
 induction r generalizing i with
 |nil=>cases e
 |@cons p q l l' h _ ih=>
  cases i with
  |zero=>obtain⟨pk,pv⟩:=p;cases e;exact⟨pv,by rw[show pk=k from h.1];rfl⟩
  |succ i=>exact ih e
end
theorem NM{K:au}(a it:Addr)(o:Obj)(kvs:List (Key×V)):Turn P w K tg (Itd a o kvs) [it] it (λi h=>∃es ep,o.data=.dict es ep/\h.IsKeyIter it a i kvs.length ep) where
 mem:=by simp
 obj:=λi h st b hb=>by
  have e:b=it:=by simpa using hb
  subst e;obtain⟨es,ep,hd,ob,e,c,d⟩:=st;exact⟨ob,e,λv z=>by rw[d]at z;cases z⟩
 keep:=λi h h' st k=>by obtain⟨es,ep,hd,x⟩:=st;exact⟨es,ep,hd,x.at λo e=>k it (by simp) o e⟩
 item:=by
  intro X hP hw hK hc i wv s σ H E I hf st hg;subst hP hw hK;obtain⟨hi,he⟩:=hg;obtain⟨es,ep,hd,ki⟩:=st;obtain⟨f0,f1,f2,f3,f4,f5⟩:=hf it (by simp);obtain⟨_,_,vs,r,da⟩:=DJ I he hd;have hl:kvs.length=vs.length:=r.length;have hne:a≠it:=λz=>by subst z;rw[he]at f0;cases f0
  have W:=pH (knd:=tU X.prog X.w) (A:=X.A) (I.ok.hd hc) it a hne vs ep;refine W.item i s _ _ (by omega) ⟨by rw[<-hl];exact ki,da⟩ λv h' tk hv st' kk=>?_;obtain⟨k,x,hx,hk⟩:=hv;obtain⟨z,hz⟩:=WL r hx;have I1:Inv X wv σ H { s with heap:=h',toks:=tk }:=I.turned (λb o hb e=>kk b o (by simpa using hb) e) f0 f1 f3 f4 f5;obtain⟨ki',_⟩:=st';rw[<-hl]at ki';obtain⟨ob,e,c,d⟩:=id ki';exact⟨v,rfl,LF (s:={ s with heap:=h',toks:=tk }) e c d (by decide) ⟨kV k,H,I1,B5 hk,⟨rfl,k,z,hz,rfl⟩,⟨es,ep,hd,ki'⟩,λb hb=>(hf b hb).1⟩⟩
 done:=by intro X hP hw hK hc i wv s σ H E I hf st hg;subst hP hw hK;obtain⟨hi,he⟩:=hg;obtain⟨es,ep,hd,ki⟩:=st;obtain⟨f0,f1,f2,f3,f4,f5⟩:=hf it (by simp);obtain⟨_,_,vs,r,da⟩:=DJ I he hd;have hl:kvs.length=vs.length:=r.length;exact wpAny_pyNext_dict_end (I.ok.hd hc) (by rw[<-hl];exact ki) da (gG (by rw[<-hl];exact hi)) λh' eb=>⟨rfl,I.turned (t':=s.toks) (λb o hb e=>eb b o hb e) f0 f1 f3 f4 f5⟩
 self:=λ_ _ _ _ _ st h=>by obtain⟨es,ep,hd,ki⟩:=st;exact wpAny_pyIter_keyiter ki h
section
variable{X:Cx}{G:Bg}{tg:Expr}
def iDic(tl:TE):TI:=λσ H R=>tl σ H λx H1=>∃a o kvs,x=.ref a/\H1 a=some (.frz o (.dK kvs))/\R (Itd a o kvs) H1
theorem Td(hl:PE X l tl):PI X tg l (iDic tl):=by
 intro wv s σ H R I h;refine thn (hl wv s σ H _ I h) λv s1 zz=>?_;obtain⟨x,H1,I1,r1,q1⟩:=zz;obtain⟨a,o,kvs,e,he,q⟩:=q1;subst e;cases r1;obtain⟨q0,_,y,vs,r,ob,es,ep,e1,e2,e3,e4⟩:=(show uQ X.prog X.w H1 s1.heap a (.frz o (.dK kvs)) from I1.hok a _ he);rw[q0]at e1;cases e1;have hl:kvs.length=vs.length:=r.length;refine oI (knd:=tU X.prog X.w) (kvs:=vs) (ep:=ep) y ⟨o,es,q0,e2,e3,e4⟩ ?_;refine⟨s1.heap.objs.size,[s1.heap.objs.size],_,_,H1,rfl,I1.kept (t':=s1.toks) λb o e=>aC _ e,NM a _ o kvs,⟨es,ep,e3,⟨_,bp _ rfl,rfl,by rw[hl];rfl⟩⟩,λb hb=>?_,q⟩;have e:b=s1.heap.objs.size:=by simpa using hb
 subst e;exact I1.fpOk (ay _) (I1.hok.fresh (ay _))
def WM:Key->D
 |.inl i=>.int i
 |.inr x=>.str x
theorem Te(k:Key):Rep G H (WM k) (kV k):=by
 cases k with
 |inl i=>exact vW i
 |inr x=>exact xW x
def iD(f:FE):FA:=λρ=>match f ρ with
 |some (.dic ks ds,ρ1)=>if ks.length=ds.length then some (ks.map WM,ρ1)else none
 |_=>none
theorem PK(h:PI X tg e (iDic (tF G f))):PI X tg e (tFI G (iD f)):=PI.weak h λσ H R hh=>by
 obtain⟨F,ρ,H0,ds,ρ',R,e,k⟩:=hh;unfold iD at e;split at e
 ·rename_i ks ds' ρ1 e1;split at e
  ·rename_i hlen;cases e;refine⟨F,ρ,H0,_,_,R,e1,λv H1 H1' s R' r=>?_⟩;unfold Rep at r;obtain⟨a,o,xs,rfl,r1,r2,r3⟩:=r;have hz:(ks.zip xs).length=ks.length:=by rw[gW,<- r2,hX]
   refine⟨a,o,_,rfl,R'.sub _ _ r1,k _ _ _ s R' λi H2 H2' t t'=>⟨λd ed=>?_,λhl=>?_⟩⟩
   ·rw[bc]at ed;cases ek:ks[i]? with
    |none=>rw[ek]at ed;cases ed
    |some j=>
     rw[ek]at ed;cases ed;have hi:i<ks.length:=(bO.mp ek).1;refine⟨⟨by rw[hz];exact hi,t' _ _ (t _ _ r1)⟩,λz H3 y=>?_⟩;obtain⟨e3,k',z',hk',rfl⟩:=y;subst e3;have:k'=j:=by rw[List.getElem?_zip_eq_some]at hk';have:=hk'.1;rw[ek]at this;exact(cU this).symm
     subst this;exact⟨H2,tT.refl _,t',tT.refl _,λb o e=>.inl e,Te _⟩
   ·refine⟨by rw[hz,hl,af];exact ay _,t' _ _ (t _ _ r1)⟩
  ·cases e
 ·cases e
end
section
variable{X:Cx}{wv:cF}{σ:St}{H:Hp}{s:ae}
theorem Inv.turnedLaid{h':Heap}{T:Addr}{xs:bG}{t':Nat}{ch:List Addr}(I:Inv X wv σ H s)(hf:∀b∈ch,Gc X wv H b)(k:∀b o,b∉ch->s.heap.get? b=some o->h'.get? b=some o)
  (hT:s.heap.objs.size<=T) (new:uQ X.prog X.w (upd H T (.tup xs)) h' T (.tup xs)):Inv X wv σ (upd H T (.tup xs)) { s with heap:=h',toks:=t' }:=by
 have nT:H T=none:=I.hok.fresh hT;have ne:∀{b:Addr} {u:HO},H b=some u->b≠T:=λe z=>by subst z;rw[nT]at e;cases e
 have nch:∀{b:Addr} {u:HO},H b=some u->b∉ch:=λe z=>by have:=(hf _ z).1;rw[e]at this;cases this
 have lt:∀{b:Addr} {o:Obj},s.heap.get? b=some o->b≠T:=λe z=>by subst z;exact aq (b0 (aK e) hT) (dE _)
 refine I.step (g':=s.gens) (d':=s.drawn) (ch:=ch) (λb hb=>?_) (λb o _ _ hc e _=>k b o hc e) (λb o _ _ hc e _=>⟨o.slots,k b o hc e⟩) (λb o _ e n=>by rw[tR (lt e)];exact n) (λb o hc e=>⟨o,k b o hc e⟩)
  (λb ys e=>by rw[tR (ne e)];exact e) (λb o u e=>by rw[tR (ne e)];exact e) (λb ps e=>⟨#[],by rw[tR (ne e),e];simp⟩) (λm hm=>?_) (λb u e=>?_) I.bare
 ·obtain⟨f0,f1,f2,f3,f4,f5⟩:=hf b hb;exact⟨f3,f1,f4,f5⟩
 ·exact hm.at' λo e=>k _ o (λz=>(hf _ z).2.1 rfl) e
 ·by_cases hb:b=T
  ·subst hb;rw[tP]at e;cases e;exact new
  ·rw[tR hb]at e;refine(I.hok b u e).stay (λc v hc q=>k c v ?_ q) (λc q=>by rw[tR (ne q)];exact q) λc ys q=>by rw[tR (ne q)];exact q
   rcases hc with rfl|hc
   ·exact nch e
   ·exact nch hc
def Itz(l1 l2:Addr):It:=
 ⟨λi H=>∃xs ys x y,H l1=some (.lst xs)/\H l2=some (.lst ys)/\xs[i]?=some x/\ys[i]?=some y,
  λi H v H'=>∃p x y,H p=none/\v=.ref p/\H'=upd H p (.tup [x,y])/\(∀xs,H l1=some (.lst xs)->xs[i]?=some x)/\∀ys,H l2=some (.lst ys)->ys[i]?=some y,
  λi H=>∃xs ys,H l1=some (.lst xs)/\H l2=some (.lst ys)/\(xs.length<=i\/ys.length<=i)⟩
end
structure PL(z TI TO i1 i2:Addr):Prop where
 a:TI≠z
 b:TO≠z
 c:i1≠z
 d:i2≠z
 e:TI≠TO
 f:TI≠i1
 g:TI≠i2
 h:TO≠i1
 i:TO≠i2
 j:i1≠i2
theorem WN(n:Nat):PL (n+4) (n+2) (n+3) n (n+1) where
 a:=(by omega:(n+2:Nat)≠n+4)
 b:=(by omega:(n+3:Nat)≠n+4)
 c:=(by omega:(n:Nat)≠n+4)
 d:=(by omega:(n+1:Nat)≠n+4)
 e:=(by omega:(n+2:Nat)≠n+3)
 f:=(by omega:(n+2:Nat)≠n)
 g:=(by omega:(n+2:Nat)≠n+1)
 h:=(by omega:(n+3:Nat)≠n)
 i:=(by omega:(n+3:Nat)≠n+1)
 j:=(by omega:(n:Nat)≠n+1)
def zTn(z TI TO i1 i2 l1 l2:Addr)(i:Nat)(h:Heap):Prop:=IsZip h z TI TO .none/\IsPair h TI (.ref i1) (.ref i2)/\(∃a b,IsPair h TO a b)/\h.IsListIter i1 l1 i/\h.IsListIter i2 l2 i
theorem PM{P:aH}{w:aA}{K:au}{elts:List Expr}{x1}{pos:Pos}{z TI TO i1 i2 l1 l2:Addr}(D:PL z TI TO i1 i2):Turn P w K (.Tuple elts x1 pos) (Itz l1 l2) [z,TI,TO,i1,i2] z (zTn z TI TO i1 i2 l1 l2) where
 mem:=by simp
 obj:=λi h st b hb=>by
  obtain⟨hz,h1,⟨a,c,h2⟩,⟨o3,h3,_,d3⟩,⟨o4,h4,_,d4⟩⟩:=st;simp only[aN,cn,or_false]at hb;rcases hb with rfl|rfl|rfl|rfl|rfl
  ·exact⟨_,hz,λv y=>nomatch y⟩
  ·exact⟨_,h1,λv y=>nomatch y⟩
  ·exact⟨_,h2,λv y=>nomatch y⟩
  ·exact⟨o3,h3,λv y=>by rw[d3]at y;cases y⟩
  ·exact⟨o4,h4,λv y=>by rw[d4]at y;cases y⟩
 keep:=λi h h' st k=>by obtain⟨hz,h1,⟨a,c,h2⟩,h3,h4⟩:=st;exact⟨k z (by simp) _ hz,k TI (by simp) _ h1,⟨a,c,k TO (by simp) _ h2⟩,h3.at λo e=>k i1 (by simp) o e,h4.at λo e=>k i2 (by simp) o e⟩
 item:=by
  intro X hP hw hK hc i wv s σ H E I hf st hg;subst hP hw hK;obtain⟨xs,ys,x,y,q1,q2,qx,qy⟩:=hg;obtain⟨hz,hTI,⟨a,b,hTO⟩,h1,h2⟩:=st;obtain⟨its,r1,p1,_⟩:=I.list (SqL.of q1);obtain⟨jts,r2,p2,_⟩:=I.list (SqL.of q2);obtain⟨u1,hu1,ru1⟩:=r1.get qx;obtain⟨u2,hu2,ru2⟩:=r2.get qy;have nf:∀{l:Addr} {u:HO} {c:Addr},H l=some u->c∈[z,TI,TO,i1,i2]->l≠c:=λe hm w=>by subst w;have:=(hf _ hm).1;rw[e]at this;cases this
  have DD:ZipApart z TI TO i1 i2 l1 l2:=⟨D.a,D.b,D.c,D.d,D.e,D.f,D.g,D.h,D.i,D.j,nf q1 (by simp),nf q1 (by simp),nf q1 (by simp),nf q1 (by simp),nf q2 (by simp),nf q2 (by simp),nf q2 (by simp),nf q2 (by simp)⟩;refine wpAny_pyNext_zip_item DD hz hTI hTO h1 h2 p1.isList p2.isList (x:=u1) (y:=u2) (by simpa using hu1) (by simpa using hu2) λh' a1 a2 a3 a4 a5 a6 kk=>?_;refine⟨_,rfl,wpAny_letOwnedTupleGo_zip (s:={ s with heap:=h' }) a1 λh2' hz' sb=>?_⟩;have lt:∀{c:Addr} {o:Obj},s.heap.get? c=some o->s.heap.objs.size≠c:=λe w=>aq (aK e) (by rw[w];exact dE _);have Tz:s.heap.objs.size≠z:=lt hz;have hp:IsPair h2' s.heap.objs.size u1 u2:=sb.extBut _ _ Tz a5;have ch4:∀b∈[z,TO,i1,i2],b∈[z,TI,TO,i1,i2]:=λb hb=>by simp at hb ⊢;rcases hb with rfl|rfl|rfl|rfl<;>simp
  have ok:uQ X.prog X.w (upd H s.heap.objs.size (.tup [x,y])) h2' s.heap.objs.size (.tup [x,y]):=⟨by rw[bN];show 2<=16777216;decide,[u1,u2],.cons ru1 (.cons ru2 .nil),_,hp,rfl,_,rfl⟩;have I1:=Inv.turnedLaid (h':=h2') (t':=s.toks) (T:=s.heap.objs.size) (xs:=[x,y]) (ch:=[z,TO,i1,i2]) I (λb hb=>hf b (ch4 b hb))
   (λb o hb e=>sb.extBut _ _ (λw=>hb (by simp[w])) (kk b o (λw=>hb (by simp[w])) (λw=>hb (by simp[w])) (λw=>hb (by simp[w])) (λw=>hb (by simp[w])) e)) (ay _) ok
  refine⟨.ref s.heap.objs.size,_,I1,rfl,⟨_,x,y,I.hok.fresh (ay _),rfl,rfl,λxs' e=>?_,λys' e=>?_⟩,⟨hz',sb.extBut _ _ D.a (kk _ _ D.a D.e D.f D.g hTI),⟨_,_,sb.extBut _ _ D.b a2⟩,a3.extBut sb.extBut D.c,a4.extBut sb.extBut D.d⟩,λb hb=>?_⟩
  ·rw[q1]at e;cases e;exact qx
  ·rw[q2]at e;cases e;exact qy
  ·rw[tR (λw=>?_)]
   ·exact(hf b hb).1
   ·simp only[aN,cn,or_false]at hb;rcases hb with hb|hb|hb|hb|hb
    ·exact lt hz (w.symm.trans hb)
    ·exact lt hTI (w.symm.trans hb)
    ·exact lt hTO (w.symm.trans hb)
    ·obtain⟨o,e,_⟩:=h1;exact lt e (w.symm.trans hb)
    ·obtain⟨o,e,_⟩:=h2;exact lt e (w.symm.trans hb)
 done:=by
  intro X hP hw hK hc i wv s σ H E I hf st hg;subst hP hw hK;obtain⟨xs,ys,q1,q2,hend⟩:=hg;obtain⟨hz,hTI,⟨a,b,hTO⟩,h1,h2⟩:=st;obtain⟨its,r1,p1,_⟩:=I.list (SqL.of q1);obtain⟨jts,r2,p2,_⟩:=I.list (SqL.of q2);have nf:∀{l:Addr} {u:HO} {c:Addr},H l=some u->c∈[z,TI,TO,i1,i2]->l≠c:=λe hm w=>by subst w;have:=(hf _ hm).1;rw[e]at this;cases this
  have DD:ZipApart z TI TO i1 i2 l1 l2:=⟨D.a,D.b,D.c,D.d,D.e,D.f,D.g,D.h,D.i,D.j,nf q1 (by simp),nf q1 (by simp),nf q1 (by simp),nf q1 (by simp),nf q2 (by simp),nf q2 (by simp),nf q2 (by simp),nf q2 (by simp)⟩;have e1:=r1.length;have e2:=r2.length;refine wpAny_pyNext_zip_end (I.ok.hd hc) DD hz hTI hTO h1 h2 p1.isList p2.isList ?_ λh' kk=>⟨rfl,?_⟩
  ·rcases hend with w|w
   ·exact .inl (by simp;omega)
   ·exact .inr (by simp;omega)
  ·have ch4:∀b∈[z,TO,i1,i2],b∈[z,TI,TO,i1,i2]:=λb hb=>by simp at hb ⊢;rcases hb with rfl|rfl|rfl|rfl<;>simp
   have nch:∀{b:Addr} {u:HO},H b=some u->b∉[z,TO,i1,i2]:=λe w=>by have:=(hf _ (ch4 _ w)).1;rw[e]at this;cases this
   have k:∀b o,b∉[z,TO,i1,i2]->s.heap.get? b=some o->h'.get? b=some o:=λb o hb e=>kk b o (λw=>hb (by simp[w])) (λw=>hb (by simp[w])) (λw=>hb (by simp[w])) (λw=>hb (by simp[w])) e;refine I.step (g':=s.gens) (d':=s.drawn) (t':=s.toks) (ch:=[z,TO,i1,i2]) (λb hb=>?_) (λb o _ _ hc e _=>k b o hc e) (λb o _ _ hc e _=>⟨o.slots,k b o hc e⟩) (λb o _ e n=>n) (λb o hc e=>⟨o,k b o hc e⟩)
    (λb ys e=>e) (λb o u e=>e) (λb ps e=>⟨#[],by rw[e];simp⟩) (λm hm=>?_) (λb u e=>?_) I.bare
   ·obtain⟨f0,f1,f2,f3,f4,f5⟩:=hf b (ch4 b hb);exact⟨f3,f1,f4,f5⟩
   ·exact hm.at' λo e=>k _ o (λw=>(hf _ (ch4 _ w)).2.1 rfl) e
   ·refine(I.hok b u e).stay (λc v hc q=>k c v ?_ q) (λc q=>q) λc ys q=>q;rcases hc with rfl|hc
    ·exact nch e
    ·exact nch hc
 self:=λ_ _ _ _ _ st h=>oV st.1 h
section
variable{X:Cx}{G:Bg}{elts:List Expr}{x1:Nat}{tpos:Pos}
def iZip(ta:TA):TI:=λσ H R=>ta σ H λvs H1=>∃a b xs ys,vs=[.ref a,.ref b]/\H1 a=some (.lst xs)/\H1 b=some (.lst ys)/\R (Itz a b) H1
theorem WO(hg:Gl X "zip")(hm:X.mg "zip" = none)(ha:PA X [a,b] ta)(hs:aw [a,b] X.env=[(false,eval a X.env),(false,eval b X.env)]:=by rfl)(hs2:aw [b] X.env=[(false,eval b X.env)]:=by rfl):
  PI X (.Tuple elts x1 tpos) (.Call (.Name "zip" p) [a,b] [] pos) (iZip ta):=by
 intro wv s σ H R I h;refine Call_ (zE I hg hm boot_zip (callWith_type1 (thn (ha pos wv s σ H _ I h) λus s1 zz=>?_) (by rw[hs,hs2]) (by rw[hs2];rfl)));obtain⟨vs,H1,I1,r1,q1⟩:=zz;obtain⟨a',b',xs,ys,rfl,e1,e2,q⟩:=q1;obtain⟨u,v,rfl,ru,rv⟩:=vals2 r1;cases ru;cases rv;obtain⟨its,_,p1,_⟩:=I1.list (SqL.of e1);obtain⟨jts,_,p2,_⟩:=I1.list (SqL.of e2);refine call_zip_2 p1.isList p2.isList λh' z1 z2 z3 z4 z5 z6 kk=>?_;refine oV z1 ?_;have I2:Inv X wv σ H1 { s1 with heap:=h' }:=I1.kept (t':=s1.toks) kk;have D:=WN s1.heap.objs.size;refine⟨_,_,_,_,H1,rfl,I2,PM D,⟨z1,z2,⟨_,_,z3⟩,z4,z5⟩,λc hc=>?_,q⟩;have hc':s1.heap.objs.size<=c:=by simp only[aN,cn,or_false]at hc;rcases hc with rfl|rfl|rfl|rfl|rfl<;>first|exact iO _ _|exact ay _
 exact I1.fpOk hc' (I1.hok.fresh hc')
def K7(ds es:aS):aS:=dH (λd e=>D.tup [d,e]) ds es
def iZ(f:FA):FA:=λρ=>match f ρ with
 |some ([.lst ds,.lst es],ρ1)=>some (K7 ds es,ρ1)
 |_=>none
theorem PN(ds es:aS):(K7 ds es).length=min ds.length es.length:=by unfold K7;rw[kC]
theorem Tf(h:PI X tg e (iZip (tFA G f))):PI X tg e (tFI G (iZ f)):=PI.weak h λσ H R hh=>by
 obtain⟨F,ρ,H0,ds,ρ',R,e,k⟩:=hh;unfold iZ at e;split at e
 ·rename_i ds' es' ρ1 e1;cases e;refine⟨F,ρ,H0,_,_,R,e1,λvs H1 H1' s R' rs=>?_⟩;unfold tL at rs;obtain⟨v1,r1,rfl,h1,rs⟩:=rs;unfold tL at rs;obtain⟨v2,r2,rfl,h2,rs⟩:=rs;unfold tL at rs;subst rs;unfold Rep at h1 h2;obtain⟨a,xs,rfl,a1,a2⟩:=h1;obtain⟨b,ys,rfl,b1,b2⟩:=h2;refine⟨a,b,xs,ys,rfl,R'.sub _ _ a1,R'.sub _ _ b1,k _ _ _ s R' λi H2 H2' t t'=>?_⟩;have g1:H2' a=some (.lst xs):=t' _ _ (t _ _ a1);have g2:H2' b=some (.lst ys):=t' _ _ (t _ _ b1);refine⟨λd ed=>?_,λhl=>⟨xs,ys,g1,g2,?_⟩⟩
  ·unfold K7 at ed;rw[nH]at ed;cases ex:ds'[i]? with
   |none=>rw[ex]at ed;cases ed
   |some dx=>
    cases ey:es'[i]? with
    |none=>rw[ex,ey]at ed;cases ed
    |some dy=>
     rw[ex,ey]at ed;cases ed;obtain⟨vx,x1',x2⟩:=v5 a2 ex;obtain⟨vy,y1',y2⟩:=v5 b2 ey;refine⟨⟨xs,ys,vx,vy,g1,g2,x1',y1'⟩,λx H3 y=>?_⟩;obtain⟨p,x',y',hp,rfl,rfl,w1,w2⟩:=y;have e1':=w1 xs g1;have e2':=w2 ys g2;rw[x1']at e1';rw[y1']at e2';cases e1';cases e2';have p0:H2 p=none:=by
      cases q:H2 p with
      |none=>rfl
      |some o=>have:=t' _ _ q;rw[hp]at this;cases this
     refine⟨upd H2 p (.tup [vx,vy]),tV p0 _,λb o e=>?_,tV hp _,λb o e=>?_,yQ (SqT.of tP) ?_⟩
     ·by_cases hb:b=p
      ·subst hb;rw[tP]at e ⊢;exact e
      ·rw[tR hb]at e ⊢;exact t' _ _ e
     ·by_cases hb:b=p
      ·subst hb;exact .inr hp
      ·rw[tR hb]at e;exact .inl e
     ·have m:=t.trans (tV p0 (.tup [vx,vy]));exact uk (Rep.mono m _ _ x2) (uk (Rep.mono m _ _ y2) uj)
  ·rw[PN]at hl;rw[<-tN a2,<- tN b2];omega
 ·cases e
end
mutual
def noC(N c:Nat):D->Bool
 |.non=>true
 |.bl _=>true
 |.int _=>true
 |.str _=>true
 |.tup ds=>JK N c ds
 |.lst ds=>JK N c ds
 |.fzl ds=>JK N c ds
 |.obj k _ ds=>decide (k<N)&&decide (k≠c)&&JK N c ds
 |.dic _ ds=>JK N c ds
def JK(N c:Nat):aS->Bool
 |[]=>true
 |d::ds=>noC N c d&&JK N c ds
end
def without(H:Hp)(a:Addr):Hp:=λb=>if b=a then none else H b
theorem Fm(h:b≠a):without H a b=H b:=by unfold without;rw[ai h]
theorem B6(h:without H a b=some o):b≠a/\H b=some o:=by
 unfold without at h;by_cases hb:b=a
 ·rw[ah hb]at h;cases h
 ·rw[ai hb]at h;exact⟨hb,h⟩
theorem wN(ha:H a=some u)(hb:H b=some v)(d:u≠v):without H a b=some v:=by rw[Fm (λz=>by subst z;rw[ha]at hb;exact d (cU hb))];exact hb
section
variable{G:Bg}{H:Hp}{a dx:Addr}{fs:List (Str×V)}{N c:Nat}
theorem JL(ha:H a=some (.ins (G.ca c) dx fs))(h:SqT G.K H p xs):SqT G.K (without H a) p xs:=by
 rcases h with (h|⟨o,h⟩)|h
 ·exact .inl (.inl (wN ha h (λz=>nomatch z)))
 ·exact .inl (.inr ⟨o,wN ha h (λz=>nomatch z)⟩)
 ·exact .inr h
theorem JM(ha:H a=some (.ins (G.ca c) dx fs))(h:SqL G.K H p xs):SqL G.K (without H a) p xs:=by
 rcases h with (h|⟨o,h⟩)|h
 ·exact .inl (.inl (wN ha h (λz=>nomatch z)))
 ·exact .inl (.inr ⟨o,wN ha h (λz=>nomatch z)⟩)
 ·exact .inr h
mutual
theorem DK(inj:∀j k,j<N->k<N->G.ca j=G.ca k->j=k)(hc:c<N)(ha:H a=some (.ins (G.ca c) dx fs)):∀(d:D) (v:V),noC N c d=true->Rep G H d v->Rep G (without H a) d v
 |.non,v,_,h=>by unfold Rep at h ⊢;exact h
 |.bl _,v,_,h=>by unfold Rep at h ⊢;exact h
 |.int _,v,_,h=>by unfold Rep at h ⊢;exact h
 |.str _,v,_,h=>by unfold Rep at h ⊢;exact h
 |.tup ds,v,n,h=>by unfold noC at n;unfold Rep at h ⊢;obtain⟨p,xs,e,h1,h2⟩:=h;exact⟨p,xs,e,JL ha h1,wx inj hc ha ds xs n h2⟩
 |.lst ds,v,n,h=>by unfold noC at n;unfold Rep at h ⊢;obtain⟨p,xs,e,h1,h2⟩:=h;exact⟨p,xs,e,wN ha h1 (λz=>nomatch z),wx inj hc ha ds xs n h2⟩
 |.fzl ds,v,n,h=>by unfold noC at n;unfold Rep at h ⊢;obtain⟨p,xs,e,h1,h2⟩:=h;exact⟨p,xs,e,JM ha h1,wx inj hc ha ds xs n h2⟩
 |.obj k ns ds,v,n,h=>by unfold noC at n;simp only[aZ,bR]at n;unfold Rep at h ⊢;obtain⟨p,dx',xs,e,h1,h2,h3⟩:=h;refine⟨p,dx',xs,e,wN ha h1 (λz=>?_),h2,wx inj hc ha ds xs n.2 h3⟩;injection z with z1;exact n.1.2 (inj k c n.1.1 hc z1.symm)
 |.dic ks ds,v,n,h=>by unfold noC at n;unfold Rep at h ⊢;obtain⟨p,o,xs,e,h1,h2,h3⟩:=h;exact⟨p,o,xs,e,wN ha h1 (λz=>nomatch z),h2,wx inj hc ha ds xs n h3⟩
theorem wx(inj:∀j k,j<N->k<N->G.ca j=G.ca k->j=k)(hc:c<N)(ha:H a=some (.ins (G.ca c) dx fs)):∀(ds:aS) (xs:bG),JK N c ds=true->tL G H ds xs->tL G (without H a) ds xs
 |[],xs,_,h=>by unfold tL at h ⊢;exact h
 |d::ds,xs,n,h=>by unfold JK at n;simp only[aZ]at n;unfold tL at h ⊢;obtain⟨v,r,e,h1,h2⟩:=h;exact⟨v,r,e,DK inj hc ha d v n.1 h1,wx inj hc ha ds r n.2 h2⟩
end
end
def BF:Sl->Sl
 |.im d=>.im d
 |_=>.un
def yT(N:Nat)(f:FE):FE:=λρ=>match ρ with
 |.ob c ns ds::r=>match f (.im (.obj c ns ds)::r.map BF)with
  |some (d,_)=>if (decide (c<N)&&noC N c d)=true then some (d,ρ)else none
  |none=>none
 |_=>none
section
variable{X:Cx}{G:Bg}
theorem K8:(BF s).own=false:=by cases s<;>rfl
theorem Tg(inj:∀j k,j<N->k<N->G.ca j=G.ca k->j=k)(h:PE X e (tF G f)):PE X e (tF G (yT N f)):=PE.weak h λσ H Q hh=>by
 sleep 1
 unfold yT at e;split at e
 ·rename_i c ns ds r;rcases uf (f:=f) (ρ:=.im (.obj c ns ds)::r.map BF)with e1|⟨x,ρ1,e1⟩<;>simp only[e1]at e
  ·cases e
  split at e
  ·rename_i hn;cases e;simp only[aZ,bR]at hn;obtain⟨a,dx,xs,h1,h2,h3,h4,h5,h6⟩:=R.sl 0 _ rfl;have RL:tW G ⟨upd H0 a (.ins (G.ca c) dx (ns.zip xs)),H,[]⟩ σ (.im (.obj c ns ds)::r.map BF) (upd H0 a (.ins (G.ca c) dx (ns.zip xs))) H:={
    sub:=λb o q=>by
     by_cases hb:b=a
     ·subst hb;rw[tP]at q;cases q;exact h2
     ·rw[tR hb]at q;exact R.sub _ _ q
    g0:=tT.refl _
    keep:=λb o q _=>q
    fr:=λb o q=>.inl q
    am:=λb q=>by cases q
    len:=by have:=R.len;simpa using this
    sl:=λi s q=>by
     cases i with
     |zero=>cases q;exact⟨.ref a,h1,by unfold Rep;exact⟨a,dx,xs,rfl,tP,h5,tL.mono (tV h3 _) _ _ h6⟩⟩
     |succ i=>
      have q':(r.map BF)[i]?=some s:=q;rw[bc]at q';cases q1:r[i]? with
      |none=>rw[q1]at q';cases q'
      |some t=>
       rw[q1]at q';cases q';have ok:=R.sl (i+1) t q1;cases t with
       |im d=>obtain⟨v,g1,g2⟩:=ok;exact⟨v,g1,Rep.mono (tV h3 _) _ _ g2⟩
       |_=>trivial
    ap:=λi j s t b _ qi _ so=>by
     cases i with
     |zero=>cases qi;cases so
     |succ i=>
      have q':(r.map BF)[i]?=some s:=qi;rw[bc]at q';cases q1:r[i]? with
      |none=>rw[q1]at q';cases q'
      |some t=>rw[q1]at q';cases q';rw[K8]at so;cases so }
   refine⟨_,_,_,d,ρ1,RL,e1,λv H1 H1' s R' rd=>?_⟩;have ha:H1 a=some (.ins (G.ca c) dx (ns.zip xs)):=s _ _ tP;have s0:tT H0 (without H1 a):=λb o q=>by
    have hb:b≠a:=λz=>by subst z;rw[h3]at q;cases q
    rw[Fm hb];exact s b o (by rw[tR hb];exact q)
   refine k v (without H1 a) H1' s0 ?_ (DK inj hn.1 ha d v hn.2 rd);refine R.grow (λb o q=>R'.keep b o q (by simp)) s0 (λb o q=>R'.sub _ _ (B6 q).2) λb o q=>?_;obtain⟨hb,q⟩:=B6 q;rcases R'.fr b o q with z|z
   ·have z':upd H0 a (.ins (G.ca c) dx (ns.zip xs)) b=some o:=z;rw[tR hb]at z';exact .inl z'
   ·exact .inr z
  ·cases e
 ·cases e
end
section
variable{X:Cx}{wv:cF}{σ:St}{H:Hp}{s:ae}{a:Addr}{A:aI}{E:aa->ae->Prop}
theorem WQ(I:Inv X wv σ H s)(e:H a=some (.dK kvs))(ry:RelV (kV k) u)(rz:RelV z r)(hl:kvs.length<aG)
  (h1:∀v w s',wZ kvs k=some v->Inv X wv σ H s'->RelV v w->Q w s') (h2:∀s',wZ kvs k=none->Inv X wv σ (upd H a (.dK (putK kvs k z))) s'->Q r s'):
  aj (model X.prog X.w) A (call (.builtin "dict.setdefault") [.ref a,u,r]) Q E s:=by
 obtain⟨y,hd,vs,rel,dd⟩:=OH I.hok e;have hz:vs.length<=aG:=by rw[<-rel.length];exact y
 have hp:(putK kvs k z).length<=aG:=by have:=yP kvs k z;omega
 have rv:=rel.val k;refine hU nD dd.typeIs F.entry_dict_setdefault (F.args_dict_setdefault_3 _ _ _) (kt_meets_setdefault (tU X.prog X.w) a (BU ry) hd r) ⟨vs,dd,hz,λw hw=>?_,λhn h' dd' hs=>?_⟩
 ·rw[hw]at rv;cases ev:wZ kvs k with
  |none=>rw[ev]at rv;exact rv.elim
  |some v=>rw[ev]at rv;exact h1 v w _ ev (I.tok _) rv
 ·rw[hn]at rv;cases ev:wZ kvs k with
  |some v=>rw[ev]at rv;exact rv.elim
  |none=>have he:∃q,h'.get? a=some q:=let ⟨q,_,_,hq,_⟩:=dd';⟨q,hq⟩;exact h2 _ ev (Ex I (by rw[e];exact True.intro) hs he (KM hp hd (rel.put k rz) dd'))
def PQ(td ty tx:TE):TE:=λσ H Q=>td σ H λx H1=>∃a,x=.ref a/\IsD H1 a/\ty σ H1 λy H2=>tx σ H2 λz H3=>∃kvs k,H3 a=some (.dK kvs)/\y=kV k/\kvs.length<aG/\
 (∀v,wZ kvs k=some v->Q v H3)/\(wZ kvs k=none->Q z (upd H3 a (.dK (putK kvs k z))))
theorem PR(ho:PE X o td)(he:PE X e ty)(hf:PE X f tx)(m:M2 X o "setdefault" apos e f cpos):PE X (.Call (.Attribute o "setdefault" apos) [e,f] [] cpos) (PQ td ty tx):=by
 intro wv s σ H Q I h;refine jF m.base m.few m.line jG nD F.type_dict_setdefault (thn (ho wv s σ H _ I h) λu s1 zz=>?_);obtain⟨x,H1,I1,rx,a,ex,d,q1⟩:=zz;subst ex;obtain rfl:u=Value.ref a:=rx;obtain⟨t1,t2,_⟩:=HK I1 d;refine⟨t1,t2,?_⟩;rw[m.trees];refine iB rfl (iE (eF (thn (he wv s1 σ H1 _ I1 q1) λiv s2 ⟨y,H2,I2,ry,q2⟩=>
  eF (thn (hf wv s2 σ H2 _ I2 q2) λfv s3 ⟨z,H3,I3,rz,kvs,k,e3,ey,hl,g1,g2⟩=>fR ?_))))
 subst ey;exact WQ I3 e3 ry rz hl (λv w s' ev I' rw'=>⟨v,H3,I',rw',g1 v ev⟩) λs' ev I'=>⟨z,_,I',rz,g2 ev⟩
end
def Gk(ks:List Key)(dss:List aS)(k:Key)(d:D):List Key×List aS:=
 if Fh ks k=true then (ks,dH (λk' ds=>if k'=k then ds++[d]else ds) ks dss)else (ks++[k],dss++[[d]])
theorem JN:Fh ks k=true ↔ k∈ks:=by unfold Fh;rw[gR];exact⟨λ⟨x,h1,h2⟩=>bK h2▸h1,λh=>⟨k,h,aY rfl⟩⟩
theorem PU{ks:List Key}{vs:bG}:ks.length=vs.length->wZ (ks.zip vs) k=some v->∃j:Nat,ks[j]?=some k/\vs[j]?=some v:=by
 induction ks generalizing vs with
 |nil=>intro _ h;cases h
 |cons k0 ks ih=>
  intro hl h;cases vs with
  |nil=>cases hl
  |cons v0 vs=>
   unfold wZ at h;rw[eV,fi]at h;by_cases e:k0=k
   ·subst e;simp only[decide_true]at h;cases h;exact⟨0,rfl,rfl⟩
   ·simp only[e,decide_false]at h;obtain⟨j,h1,h2⟩:=ih (by simpa using hl) h;exact⟨j+1,h1,h2⟩
theorem PV{ks:List Key}{vs:bG}:ks.length=vs.length->wZ (ks.zip vs) k=none->k∉ks:=by
 induction ks generalizing vs with
 |nil=>intro _ _ h;cases h
 |cons k0 ks ih=>
  intro hl h hm;cases vs with
  |nil=>cases hl
  |cons v0 vs=>
   unfold wZ at h;rw[eV,fi]at h;by_cases e:k0=k
   ·subst e;simp only[decide_true]at h;cases h
   ·simp only[e,decide_false]at h;rcases aN.mp hm with z|z
    ·exact e z.symm
    ·exact ih (by simpa using hl) h z
structure Grp(G:Bg)(F:Fr)(H0 H:Hp)(a:Addr)(ks:List Key)(dss:List aS)(bs:List Addr):Prop where
 at_:H a=some (.dK (ks.zip (bs.map V.ref)))
 n0:H0 a=none
 nB:F.B a=none
 len:ks.length=bs.length
 len':bs.length=dss.length
 nd:bs.Nodup
 kd:ks.Nodup
 each:∀(i:Nat) (b:Addr) (ds:aS),bs[i]?=some b->dss[i]?=some ds->∃xs,H b=some (.lst xs)/\H0 b=none/\F.B b=none/\tL G H0 ds xs
section
variable{G:Bg}{F:Fr}{σ:St}{ρ:bb}{H0 H H0' H':Hp}{a:Addr}{ks:List Key}{dss:List aS}{bs:List Addr}
theorem Grp.grow(g:Grp G F H0 H a ks dss bs)(hs:tT H H')(h0:tT H0 H0')(hf:∀b o,H0' b=some o->H0 b=some o\/H b=none):Grp G F H0' H' a ks dss bs where
 at_:=hs _ _ g.at_
 n0:=by
  cases q:H0' a with
  |none=>rfl
  |some o=>
   rcases hf a o q with z|z
   ·rw[g.n0]at z;cases z
   ·rw[g.at_]at z;cases z
 nB:=g.nB
 len:=g.len
 len':=g.len'
 nd:=g.nd
 kd:=g.kd
 each:=λi b ds e1 e2=>by
  obtain⟨xs,q1,q2,q3,q4⟩:=g.each i b ds e1 e2;refine⟨xs,hs _ _ q1,?_,q3,tL.mono h0 _ _ q4⟩;cases q:H0' b with
  |none=>rfl
  |some o=>
   rcases hf b o q with z|z
   ·rw[q2]at z;cases z
   ·rw[q1]at z;cases z
theorem tW.still(R:tW G F σ ρ H0 H)(no:∀s∈ρ,s.own=false):tW G ⟨H0,H,[]⟩ σ ρ H0 H where
 sub:=R.sub
 g0:=tT.refl _
 keep:=λb o e _=>e
 fr:=λb o e=>.inl e
 am:=λa h=>by cases h
 len:=R.len
 sl:=λi s e=>by
  have ok:=R.sl i s e;have n:=no s (bU e);cases s with
  |un=>trivial
  |im d=>exact ok
  |_=>cases n
 ap:=λi j s t b _ e _ so=>by rw[no s (bU e)]at so;cases so
theorem tW.touch(R:tW G F σ ρ H0 H)(no:∀s∈ρ,s.own=false)(hk:∀b o,H b=some o->(H0 b≠none\/F.B b≠none)->H' b=some o)(ha:∀b o,H b=some o->∃o',H' b=some o'):tW G F σ ρ H0 H' where
 sub:=λb o e=>hk b o (R.sub _ _ e) (.inl (by rw[e];exact λz=>nomatch z))
 g0:=R.g0
 keep:=λb o e n=>hk b o (R.keep b o e n) (.inr (by rw[e];exact λz=>nomatch z))
 fr:=R.fr
 am:=λb hb=>by obtain⟨o,e⟩:=R.am b hb;exact ha b o e
 len:=R.len
 sl:=λi s e=>by
  have ok:=R.sl i s e;have n:=no s (bU e);cases s with
  |un=>trivial
  |im d=>exact ok
  |_=>cases n
 ap:=λi j s t b _ e _ so=>by rw[no s (bU e)]at so;cases so
theorem WR{bs:List Addr}(h:bs.Nodup){i j:Nat}{b:Addr}(e1:bs[i]?=some b)(e2:bs[j]?=some b):i=j:=by obtain⟨h1,q1⟩:=bO.mp e1;obtain⟨h2,q2⟩:=bO.mp e2;exact(la h).mp (q1.trans q2.symm)
theorem WS{ks:List Key}(h:ks.Nodup){i j:Nat}{b:Key}(e1:ks[i]?=some b)(e2:ks[j]?=some b):i=j:=by obtain⟨h1,q1⟩:=bO.mp e1;obtain⟨h2,q2⟩:=bO.mp e2;exact(la h).mp (q1.trans q2.symm)
theorem Grp.more(g:Grp G F H0 H a ks dss bs){j:Nat}{k:Key}{b:Addr}{d:D}{v:V}{xs:bG}(ek:ks[j]?=some k)(eb:bs[j]?=some b)(hx:H b=some (.lst xs))(rd:Rep G H0 d v):
  Grp G F H0 (upd H b (.lst (xs++[v]))) a (Gk ks dss k d).1 (Gk ks dss k d).2 bs:=by
 have hm:Fh ks k=true:=JN.mpr (bU ek);unfold Gk;rw[ah hm];have ne:a≠b:=λz=>by subst z;rw[g.at_]at hx;cases hx
 refine⟨by rw[tR ne];exact g.at_,g.n0,g.nB,g.len,?_,g.nd,g.kd,λi c ds e1 e2=>?_⟩
 ·rw[kC,<- g.len',<- g.len,hX,g.len]
 ·rw[nH]at e2;cases q1:ks[i]? with
  |none=>rw[q1]at e2;cases e2
  |some k'=>
   cases q2:dss[i]? with
   |none=>rw[q1,q2]at e2;cases e2
   |some ds'=>
    rw[q1,q2]at e2;cases e2;obtain⟨ys,w1,w2,w3,w4⟩:=g.each i c ds' e1 q2;by_cases hk:k'=k
    ·subst hk;have ij:=WS g.kd q1 ek;subst ij;rw[e1]at eb;cases eb;rw[w1]at hx;cases hx;rw[ah rfl];exact⟨_,tP,w2,w3,vt w4 (uk rd uj)⟩
    ·rw[ai hk];have nc:c≠b:=λz=>by subst z;have ij:=WR g.nd e1 eb;subst ij;rw[q1]at ek;cases ek;exact hk rfl
     exact⟨ys,by rw[tR nc];exact w1,w2,w3,w4⟩
theorem Grp.fresh(g:Grp G F H0 H a ks dss bs)(hk:k∉ks)(hp:H p=none)(h0:H0 p=none)(hB:F.B p=none)(rd:Rep G H0 d v):
  Grp G F H0 (upd (upd (upd H p (.lst [])) a (.dK ((ks++[k]).zip ((bs++[p]).map V.ref)))) p (.lst [v])) a (Gk ks dss k d).1 (Gk ks dss k d).2 (bs++[p]):=by
 have hm:¬Fh ks k=true:=λz=>hk (JN.mp z);unfold Gk;rw[ai hm];have ne:a≠p:=λz=>by subst z;rw[g.at_]at hp;cases hp
 have np:p∉bs:=λz=>by
  obtain⟨i,hi,e⟩:=kE z;have e1:bs[i]?=some p:=by rw[aJ hi,e]
  obtain⟨ds,e2⟩:∃ds,dss[i]?=some ds:=⟨dss[i]'(by rw[<-g.len'];exact hi),aJ _⟩;obtain⟨ys,w1,_⟩:=g.each i p ds e1 e2;rw[hp]at w1;cases w1
 refine⟨by rw[tR ne,tP],g.n0,g.nB,by simp[g.len],by simp[g.len'],?_,?_,λi c ds e1 e2=>?_⟩
 ·rw[cA];refine⟨g.nd,by simp,λx hx y hy=>?_⟩;rw[aV]at hy;subst hy;exact λz=>np (z▸hx)
 ·rw[cA];refine⟨g.kd,by simp,λx hx y hy=>?_⟩;rw[aV]at hy;subst hy;exact λz=>hk (z▸hx)
 ·by_cases hi:i<bs.length
  ·rw[cH hi]at e1;rw[cH (by rw[<-g.len'];exact hi)]at e2;obtain⟨ys,w1,w2,w3,w4⟩:=g.each i c ds e1 e2;have nc:c≠p:=λz=>np (z▸bU e1);have na:c≠a:=λz=>by subst z;rw[g.at_]at w1;cases w1
   exact⟨ys,by rw[tR nc,tR na,tR nc];exact w1,w2,w3,w4⟩
  ·have hi':i=bs.length:=by have:i<(bs++[p]).length:=(bO.mp e1).1;rw[aB,bh]at this;omega
   subst hi';rw[cG (ay _),ib]at e1;rw[g.len',cG (ay _),ib]at e2;cases e1;cases e2;exact⟨[v],tP,h0,hB,uk rd uj⟩
def JO(G:Bg)(fk:FE):TS:=UI (tBM G.K "list" HI (PQ (zk 1) (tF G fk) (Zz Jb)) (EM (zk 2) Jb))
theorem PX{D0:Ends}{vr:V}(R:tW G F σ ρ H0 H)(no:∀s∈ρ,s.own=false)(h1:σ[1]?=some (some (.ref a)))(h2:σ[2]?=some (some vr))(rd:Rep G H0 d vr)
  (g:Grp G F H0 H a ks dss bs) (hk:fk ρ=some (x,ρ)) (ek:Bj x=some k) (l1:ks.length<1000) (l2:∀ds∈dss,ds.length<1000)
  (kont:∀Hi Hj bs',tT H0 Hi->tW G F σ ρ Hi Hj->Grp G F Hi Hj a (Gk ks dss k d).1 (Gk ks dss k d).2 bs'->D0.nx σ Hj):JO G fk D0 σ H:=by
 refine⟨.ref a,h1,a,rfl,.inl ⟨_,.inl g.at_⟩,_,_,_,x,ρ,tW.still R no,hk,λv H1 H1' s R1 r=>?_⟩;have hs:tT H H1':=λb o e=>R1.keep b o e (by simp);have hf:∀b o,H1 b=some o->H0 b=some o\/H b=none:=R1.fr;have R2:tW G F σ ρ H1 H1':=R.grow hs s R1.sub hf;have g2:Grp G F H1 H1' a ks dss bs:=g.grow hs s hf;have rd2:=Rep.mono s _ _ rd;refine⟨bA _,λp hp=>?_⟩;have np:a≠p:=λz=>by subst z;rw[g2.at_]at hp;cases hp
 have R3:tW G F σ ρ H1 (upd H1' p (.lst [])):=R2.newOwn hp _;have g3:Grp G F H1 (upd H1' p (.lst [])) a ks dss bs:=g2.grow (tV hp _) (tT.refl _) λb o e=>.inl e;have lz:(ks.zip (bs.map V.ref)).length<aG:=by rw[gW,af,<- g.len,hX,bN];omega
 refine⟨_,k,g3.at_,zO r ek,lz,λw ev=>?_,λev=>?_⟩
 ·obtain⟨j,e1,e2⟩:=PU (by rw[af];exact g.len) ev;rw[bc]at e2;cases eb:bs[j]? with
  |none=>rw[eb]at e2;cases e2
  |some b=>
   rw[eb]at e2;cases e2;obtain⟨ds,ed⟩:∃ds,dss[j]?=some ds:=⟨dss[j]'(by rw[<-g.len'];exact(bO.mp eb).1),aJ _⟩;obtain⟨xs,w1,w2,w3,w4⟩:=g3.each j b ds eb ed;have lx:xs.length<aG:=by rw[<-tN w4,bN];have:=l2 ds (bU ed);omega
   refine⟨.inl ⟨rfl,xs,SqL.of w1⟩,vr,h2,b,xs,vr,rfl,rfl,w1,lx,?_⟩;refine kont H1 _ bs s (tW.touch R3 no (λc o e z=>?_) λc o e=>?_) (g3.more e1 eb w1 rd2)
   ·have nc:c≠b:=λy=>by
     subst y;rcases z with z|z
     ·exact z w2
     ·exact z w3
    rw[tR nc];exact e
   ·by_cases y:c=b
    ·subst y;exact⟨_,tP⟩
    ·rw[tR y];exact⟨o,e⟩
 ·have nk:=PV (by rw[af];exact g.len) ev;have h0p:H1 p=none:=R2.h0none hp;have hBp:F.B p=none:=R2.bNone hp;have ez:putK (ks.zip (bs.map V.ref)) k (.ref p)=(ks++[k]).zip ((bs++[p]).map V.ref):=by rw[OG _ ev,aX,o6 (by rw[af];exact g.len)];rfl
  rw[ez];have q0:upd (upd H1' p (.lst [])) a (.dK ((ks++[k]).zip ((bs++[p]).map V.ref))) p=some (.lst []):=by rw[tR (λz=>np z.symm),tP]
  refine⟨.inl ⟨rfl,[],SqL.of q0⟩,vr,h2,p,[],vr,rfl,rfl,q0,by rw[bN];decide,?_⟩;refine kont H1 _ (bs++[p]) s (tW.touch R3 no (λc o e z=>?_) λc o e=>?_) (g2.fresh nk hp h0p hBp rd2)
  ·have n1:c≠p:=λy=>by
    subst y;rcases z with z|z
    ·exact z h0p
    ·exact z hBp
   have n2:c≠a:=λy=>by
    subst y;rcases z with z|z
    ·exact z g2.n0
    ·exact z g2.nB
   rw[bY,tR n1,tR n2];exact e
  ·by_cases y:c=p
   ·subst y;exact⟨_,tP⟩
   ·rw[tR y];by_cases y2:c=a
    ·subst y2;exact⟨_,tP⟩
    ·rw[tR y2];exact⟨o,e⟩
end
def Fn(vk:D->Option D):aS->List Key->List aS->Option (List Key×List aS)
 |[],ks,dss=>some (ks,dss)
 |d::r,ks,dss=>match vk d with
  |some x=>match Bj x with
   |some k=>if (decide (ks.length<1000)&&dss.all λds=>decide (ds.length<1000))=true then Fn vk r (Gk ks dss k d).1 (Gk ks dss k d).2 else none
   |none=>none
  |none=>none
def K9(vk:D->Option D):FS:=λρ=>match ρ with
 |[.im (.lst L),.un,.un]=>match Fn vk L [] []with
  |some (ks,dss)=>some (.rt (.dic ks (dss.map .lst)) [.im (.lst L),.un,.un])
  |none=>none
 |_=>none
section
variable{X:Cx}{G:Bg}
theorem DL:∀(bs:List Addr) (dss:List aS),bs.length=dss.length->(∀(i:Nat) (b:Addr) (ds:aS),bs[i]?=some b->dss[i]?=some ds->∃xs,Hq b=some (.lst xs)/\tL G Hq ds xs)->
  tL G Hq (dss.map .lst) (bs.map V.ref)
 |[],[],_,_=>uj
 |[],_::_,h,_=>by cases h
 |_::_,[],h,_=>by cases h
 |b::bs,ds::dss,h,k=>by obtain⟨xs,h1,h2⟩:=k 0 b ds rfl rfl;exact uk (yR h1 h2) (DL bs dss (by simpa using h) λi b ds e1 e2=>k (i+1) b ds e1 e2)
theorem Ti(R:tW G F σ [.im (.lst L),.un,s2] H0 H)(g:Grp G F H0 H a ks dss bs)(o:Obj):
  ∃Hq,tT H0 Hq/\tW G F σ [.im (.lst L),.un,.un] Hq (upd H a (.frz o (.dK (ks.zip (bs.map V.ref)))))/\Rep G Hq (.dic ks (dss.map .lst)) (.ref a):=by
 have mb:∀{b:Addr},b∈bs->∃xs,H b=some (.lst xs)/\H0 b=none/\F.B b=none:=λ{b} hb=>by obtain⟨i,hi,e⟩:=kE hb;obtain⟨xs,w1,w2,w3,_⟩:=g.each i b (dss[i]'(by rw[<-g.len'];exact hi)) (by rw[aJ hi,e]) (aJ _);exact⟨xs,w1,w2,w3⟩
 have na:a∉bs:=λz=>by obtain⟨xs,w1,_⟩:=mb z;rw[g.at_]at w1;cases w1
 have s0:tT H0 (λc=>if c=a then some (.frz o (.dK (ks.zip (bs.map V.ref))))else if c∈bs then H c else H0 c):=λc u e=>by
  have n1:c≠a:=λz=>by subst z;rw[g.n0]at e;cases e
  have n2:c∉bs:=λz=>by obtain⟨_,_,w2,_⟩:=mb z;rw[w2]at e;cases e
  show (if c=a then _ else if c∈bs then H c else H0 c)=_;rw[ai n1,ai n2];exact e
 refine⟨_,s0,?_,?_⟩
 ·exact {
   sub:=λc u e=>by
    have e':(if c=a then some (HO.frz o (.dK (ks.zip (bs.map V.ref))))else if c∈bs then H c else H0 c)=some u:=e;by_cases n1:c=a
    ·subst n1;rw[ah rfl]at e';rw[tP];exact e'
    ·rw[ai n1]at e';rw[tR n1];by_cases n2:c∈bs
     ·rw[ah n2]at e';exact e'
     ·rw[ai n2]at e';exact R.sub _ _ e'
   g0:=R.g0.trans s0
   keep:=λc u e n=>by rw[tR (λz=>by subst z;rw[g.nB]at e;cases e)];exact R.keep c u e n
   fr:=λc u e=>by
    have e':(if c=a then some (HO.frz o (.dK (ks.zip (bs.map V.ref))))else if c∈bs then H c else H0 c)=some u:=e;by_cases n1:c=a
    ·subst n1;exact .inr g.nB
    ·rw[ai n1]at e';by_cases n2:c∈bs
     ·obtain⟨_,_,_,w3⟩:=mb n2;exact .inr w3
     ·rw[ai n2]at e';exact R.fr _ _ e'
   am:=λc hc=>by
    by_cases n1:c=a
    ·subst n1;exact⟨_,tP⟩
    ·rw[tR n1];exact R.am c hc
   len:=R.len
   sl:=λi s e=>by
    match i,e with
    |0,e=>cases e;obtain⟨v,w1,w2⟩:=R.sl 0 _ rfl;exact⟨v,w1,Rep.mono s0 _ _ w2⟩
    |1,e=>cases e;trivial
    |2,e=>cases e;trivial
    |i+3,e=>cases e
   ap:=λi j s t b _ e _ so=>by
    match i,e with
    |0,e=>cases e;cases so
    |1,e=>cases e;cases so
    |2,e=>cases e;cases so
    |i+3,e=>cases e }
 ·unfold Rep;refine⟨a,o,bs.map V.ref,rfl,by show (if a=a then _ else _)=_;rw[ah rfl],by rw[af];exact g.len,DL bs dss g.len' λi b ds e1 e2=>?_⟩;obtain⟨xs,w1,w2,w3,w4⟩:=g.each i b ds e1 e2;have hb:=bU e1;refine⟨xs,?_,tL.mono s0 _ _ w4⟩;show (if b=a then _ else if b∈bs then H b else H0 b)=_;have nb:b≠a:=λz=>na (by rw[<-z];exact hb);rw[ai nb,ah hb];exact w1
def PY{L:aS}{s2:Sl}(h:s2.own=false):∀s∈[Sl.im (.lst L),.un,s2],s.own=false:=λs hs=>by
 simp only[aN,cn,or_false]at hs;rcases hs with rfl|rfl|rfl
 ·rfl
 ·rfl
 ·exact h
inductive GI(G:Bg) (F:Fr) (Ha:Hp) (p:Addr) (L:aS) (vk:D->Option D) (KS:List Key) (DSS:List aS) (i:Nat) (σ':St) (H':Hp):Prop
 |mk (Hi:Hp) (ks:List Key) (dss:List aS) (bs:List Addr) (s2:Sl):tT Ha Hi->Sl.own s2=false->tW G F σ' [.im (.lst L),.un,s2] Hi H'->σ'[1]?=some (some (.ref p))->Grp G F Hi H' p ks dss bs->Fn vk (L.drop i) ks dss=some (KS,DSS)->GI G F Ha p L vk KS DSS i σ' H'
theorem NN(h1:PS X st1 (BN KN (yO 1)))(h2:PS X st2 (Vx (tFI G (iL (cV 0))) (yO 2) (JO G (c1 vk (cV 2)))))
  (h3:PS X st3 (Zn (λσ H Q=>zk 1 σ H λx H1=>Q x H1\/∃a kvs,H1 a=some (.dK kvs)/\∀o,Q x (upd H1 a (.frz o (.dK kvs)))))):PSs X [st1,st2,st3] (tFS G (K9 vk)):=
 PSs.weak (EI h1 (EI h2 (HA h3))) λE σ H hh=>by
  obtain⟨F,ρ,H0,o,R,e,k,k2⟩:=hh;unfold K9 at e;split at e
  ·rename_i L;cases eg:Fn vk L [] []with
   |none=>simp only[eg]at e;cases e
   |some p=>
    obtain⟨KS,DSS⟩:=p;simp only[eg]at e;cases e;intro p hp;have R1:tW G F (σ.set 1 (some (.ref p))) [.im (.lst L),.un,.un] H0 (upd H p (.dK [])):=(R.newOwn hp (.dK [])).set (i:=1) (v:=.ref p) (s:=.un) trivial (λz=>by cases z);have hlen:σ.length=3:=R.len;have g1:Grp G F H0 (upd H p (.dK [])) p [] [] []:=⟨tP,R.h0none hp,R.bNone hp,rfl,rfl,jQ,jQ,λi b ds e1=>by cases e1⟩;have v1:(σ.set 1 (some (V.ref p)))[1]?=some (some (.ref p)):=by rw[jx (by rw[hlen];decide)]
    refine⟨_,_,_,L,_,tW.still R1 (PY rfl),rfl,λJ Ha Hb s Ra wk=>?_⟩;have hs:tT (upd H p (.dK [])) Hb:=λb o e=>Ra.keep b o e (by simp);have R2:=R1.grow hs s Ra.sub Ra.fr;have g2:=g1.grow hs s Ra.fr;refine⟨λi m σ' H'=>m=L.length - i/\i<=L.length/\GI G F Ha p L vk KS DSS i σ' H',
     ⟨_,rfl,bA _,Ha,[],[],[],.un,tT.refl _,rfl,R2,v1,g2,eg⟩,?_⟩
    rintro i m σi Hi' ⟨rfl,hi,Hi,ks,dss,bs,s2,si,n2,Ri,vi,gi,ei⟩;by_cases hlt:i<L.length
    ·have ed:L.drop i=L[i]::L.drop (i+1):=jt hlt;rw[ed]at ei;unfold Fn at ei;cases ev:vk L[i]with
     |none=>simp only[ev]at ei;cases ei
     |some x=>
      simp only[ev]at ei;cases ek:Bj x with
      |none=>simp only[ek]at ei;cases ei
      |some kk=>
       simp only[ek]at ei;split at ei
       ·rename_i hb;simp only[aZ,bR,bH]at hb;obtain⟨go,yl⟩:=(wk i Hi Hi' si Ri.sub).1 L[i] (aJ hlt);refine .inr ⟨go,GI G F Ha p L vk KS DSS (i+1),
         λσ' H' q=>⟨L.length - (i+1),by omega,rfl,hlt,q⟩,λxv H' y=>?_⟩
        obtain⟨H2,t1,t2,t3,t4,t5⟩:=yl xv H' y;have hl3:σi.length=3:=Ri.len;have R3:tW G F (σi.set 2 (some xv)) [.im (.lst L),.un,.im L[i]] H2 H':=(Ri.grow t3 t1 t2 t4).setIm 2 t5;have w1:(σi.set 2 (some xv))[1]?=some (some (.ref p)):=by rw[kz (by decide)];exact vi
        have w2:(σi.set 2 (some xv))[2]?=some (some xv):=by rw[jx (by rw[hl3];decide)]
        refine PX R3 (PY rfl) w1 w2 t5 (gi.grow t3 t1 t4) (by show c1 vk (cV 2) _=_;unfold c1 cV;simp only[iA,List.getElem?_cons_zero,ev]) ek hb.1 (λds hd=>hb.2 ds hd) λHc Hd bs' sc Rc gc=>?_;exact⟨Hc,_,_,bs',_,si.trans (t1.trans sc),rfl,Rc,w1,gc,ei⟩
       ·cases ei
    ·have hi':i=L.length:=by omega
     refine .inl ⟨(wk i Hi Hi' si Ri.sub).2 hi',?_⟩;subst hi';rw[List.drop_length]at ei;cases ei;refine⟨.ref p,vi,.inr ⟨p,_,gi.at_,λo=>?_⟩⟩;obtain⟨Hq,q1,q2,q3⟩:=Ti Ri gi o;exact k _ _ Hq _ (s.trans (si.trans q1)) q2 q3
  ·cases e
end
section
variable{X:Cx}{G:Bg}
theorem Tj:∀y b,vL "int" y=some b->c8 X.K (y.val G) (.type "int")=some b:=λy b h=>by
 cases y with
 |c k=>cases h
 |b n=>
  unfold vL at h;simp only at h
  iterate 7 (split at h;· rename_i e;subst e;cases h;first|rfl|kernel_rfl)
  cases h
theorem PZ:∀y b,vL "bool" y=some b->c8 X.K (y.val G) (.type "bool")=some b:=λy b h=>by
 cases y with
 |c k=>cases h
 |b n=>
  unfold vL at h;simp only at h
  iterate 7 (split at h;· rename_i e;subst e;cases h;first|rfl|kernel_rfl)
  cases h
theorem kit_tuple:∀y b,vL "tuple" y=some b->c8 X.K (y.val G) (.type "tuple")=some b:=λy b h=>by
 cases y with
 |c k=>cases h
 |b n=>
  unfold vL at h;simp only at h
  iterate 7 (split at h;· rename_i e;subst e;cases h;first|rfl|kernel_rfl)
  cases h
end
def hold(F:Fr)(p:Addr)(o:HO):Fr:=⟨F.B0,λb=>if b=p then some o else F.B b,F.A⟩
theorem EC:(hold F p o).B p=some o:=by show (if p=p then _ else _)=_;rw[ah rfl]
theorem A7(h:b≠p):(hold F p o).B b=F.B b:=by show (if b=p then _ else _)=_;rw[ai h]
theorem By.frame{F':Fr}(h:By G F H0 H o s)(hA:F'.A=F.A)(hB:∀a,o=some (.ref a)->s.own=true->F.B a=none->F'.B a=none):By G F' H0 H o s:=by
 cases s with
 |un=>trivial
 |im d=>exact h
 |ls ds=>obtain⟨a,xs,h1,h2,h3,h4,h5⟩:=h;exact⟨a,xs,h1,h2,h3,hB a h1 rfl h4,h5⟩
 |pm ds=>obtain⟨a,xs,h1,h2,h3,h4,h5⟩:=h;exact⟨a,xs,h1,h2,h3,by rw[hA];exact h4,h5⟩
 |dk ks ds=>obtain⟨a,xs,h1,h2,h3,h4,h5,h6⟩:=h;exact⟨a,xs,h1,h2,h3,hB a h1 rfl h4,h5,h6⟩
 |ob c ns ds=>obtain⟨a,dx,xs,h1,h2,h3,h4,h5,h6⟩:=h;exact⟨a,dx,xs,h1,h2,h3,by rw[hA];exact h4,h5,h6⟩
section
variable{X:Cx}{G:Bg}{F:Fr}{σ:St}{ρ:bb}{H0 H:Hp}{p:Addr}{o:HO}
theorem tW.hold(R:tW G F σ ρ H0 H)(hp:H p=none)(o:HO):tW G (L4.hold F p o) σ ρ H0 (upd H p o) where
 sub:=(R.newOwn hp o).sub
 g0:=R.g0
 keep:=λb u e n=>by
  by_cases hb:b=p
  ·subst hb;rw[EC]at e;rw[tP];exact e
  ·rw[A7 hb]at e;exact(R.newOwn hp o).keep b u e n
 fr:=λb u e=>by
  have hb:b≠p:=λz=>by subst z;rw[R.h0none hp]at e;cases e
  rw[A7 hb];exact R.fr b u e
 am:=(R.newOwn hp o).am
 len:=R.len
 sl:=λi s e=>by refine By.frame ((R.newOwn hp o).sl i s e) rfl λa h1 so hB=>?_;obtain⟨a',u,q1,q2,_⟩:=(R.sl i s e).at so;rw[h1]at q1;cases q1;rw[A7 (λz=>by subst z;rw[hp]at q2;cases q2)];exact hB
 ap:=R.ap
theorem tW.unhold(R:tW G (L4.hold F p o) σ ρ H0 H)(hB:F.B p=none):tW G F σ ρ H0 H where
 sub:=R.sub
 g0:=R.g0
 keep:=λb u e n=>R.keep b u (by rw[A7 (λz=>by subst z;rw[hB]at e;cases e)];exact e) n
 fr:=λb u e=>by
  rcases R.fr b u e with z|z
  ·exact .inl z
  ·by_cases hb:b=p
   ·subst hb;exact .inr hB
   ·rw[A7 hb]at z;exact .inr z
 am:=R.am
 len:=R.len
 sl:=λi s e=>By.frame (R.sl i s e) rfl λa h1 so q=>by
  by_cases hb:a=p
  ·subst hb;exact hB
  ·rw[A7 hb]at q;exact q
 ap:=R.ap
theorem tW.layHeld(R:tW G (L4.hold F p o) σ ρ H0 H)(hB:F.B p=none)(h0:H0 p=none)(nA:p∉F.A)(u:HO):tW G F σ ρ (upd H0 p u) (upd H p u) where
 sub:=λb v e=>by
  by_cases hb:b=p
  ·subst hb;rw[tP]at e ⊢;exact e
  ·rw[tR hb]at e ⊢;exact R.sub _ _ e
 g0:=(tW.unhold R hB).g0.trans (tV h0 u)
 keep:=λb v e n=>by rw[tR (λz=>by subst z;rw[hB]at e;cases e)];exact(tW.unhold R hB).keep b v e n
 fr:=λb v e=>by
  by_cases hb:b=p
  ·subst hb;exact .inr hB
  ·rw[tR hb]at e;exact(tW.unhold R hB).fr _ _ e
 am:=λb hb=>by
  have hb':b≠p:=λz=>by subst z;exact nA hb
  rw[tR hb'];exact R.am b hb
 len:=R.len
 sl:=λj t e=>by
  have ne:∀a,(σ[j]?).join=some (.ref a)->t.own=true->a≠p:=λa z to y=>by
   subst y;obtain⟨a',v,q1,_,_,q4⟩:=(R.sl j t e).at to;rw[z]at q1;cases q1;rcases q4 with q|q
   ·rw[EC]at q;cases q
   ·exact nA q
  refine((tW.unhold R hB).sl j t e).grow (tV h0 u) (λa v z to q=>?_) λa v z to q q0=>?_
  ·rw[tR (ne a z to)];exact q
  ·rw[tR (ne a z to)];exact q0
 ap:=R.ap
def xy:List (Str×FE)->bb->Option (aS×bb)
 |[],ρ=>some ([],ρ)
 |(_,f)::r,ρ=>match f ρ with
  |some (d,ρ1)=>match xy r ρ1 with
   |some (ds,ρ2)=>some (d::ds,ρ2)
   |none=>none
  |none=>none
def P3(G:Bg)(kfs:List (Str×FE)):List (TE×TE):=kfs.map λq=>(tC (.str q.1),tF G q.2)
theorem JP:∀(kfs:List (Str×FE)) (ρ ρ':bb) (ds:aS) (H0 H:Hp) (Q:List (V×V)->Hp->Prop),tW G F σ ρ H0 H->xy kfs ρ=some (ds,ρ')->
  (∀vs H1 H1',tT H0 H1->tW G F σ ρ' H1 H1'->tL G H1 ds vs->Q (dH (λk v=>(V.str k,v)) (kfs.map (·.1)) vs) H1')->HJ (P3 G kfs) σ H Q
 |[],ρ,ρ',ds,H0,H,Q,R,e,k=>by cases e;exact k [] H0 H (tT.refl _) R uj
 |(x,f)::r,ρ,ρ',ds,H0,H,Q,R,e,k=>by
  unfold xy at e;cases e1:f ρ with
  |none=>simp only[e1]at e;cases e
  |some q=>
   obtain⟨d,ρ1⟩:=q;simp only[e1]at e;cases e2:xy r ρ1 with
   |none=>simp only[e2]at e;cases e
   |some q=>obtain⟨ds',ρ2⟩:=q;simp only[e2]at e;cases e;refine⟨F,ρ,H0,d,ρ1,R,e1,λv H1 H1' s R1 rv=>?_⟩;exact JP r ρ1 _ ds' H1 H1' _ R1 e2 λvs H2 H2' s2 R2 rs=>k (v::vs) H2 H2' (s.trans s2) R2 (uk (Rep.mono s2 _ _ rv) rs)
theorem JQ:∀(more acc:List (Key×V)),((acc++more).map (·.1)).Nodup->Ax acc more=acc++more
 |[],acc,_=>by rw[bq];rfl
 |q::r,acc,h=>by
  have nq:(acc.any λkv=>decide (kv.1=q.1))=false:=by rw[jH];intro z;obtain⟨y,hy,ey⟩:=gR.mp z;rw[aX,cA]at h;exact h.2.2 y.1 (bQ hy) q.1 (bQ bg) (bK ey)
  have e:putK acc q.1 q.2=acc++[q]:=by unfold putK;rw[nq];rfl
  show Ax (putK acc q.1 q.2) r=_;rw[e,JQ r (acc++[q]) (by simpa using h)];simp
theorem NO:upd (upd H p x) p y=upd H p y:=by
 funext b
 by_cases hb:b=p
 ·subst hb;rw[tP,tP]
 ·rw[tR hb,tR hb,tR hb]
def yw(kfs:List (Str×FE)):FE:=λρ=>match xy kfs ρ with
 |some (ds,ρ')=>some (.dic (kfs.map λq=>Sum.inr q.1) ds,ρ')
 |none=>none
theorem Fo:∀{kfs:List (Str×FE)} {ρ ρ':bb} {ds:aS},xy kfs ρ=some (ds,ρ')->ds.length=kfs.length
 |[],ρ,ρ',ds,e=>by cases e;rfl
 |(x,f)::r,ρ,ρ',ds,e=>by
  unfold xy at e;cases e1:f ρ with
  |none=>simp only[e1]at e;cases e
  |some q=>
   obtain⟨d,ρ1⟩:=q;simp only[e1]at e;cases e2:xy r ρ1 with
   |none=>simp only[e2]at e;cases e
   |some q=>obtain⟨ds',ρ2⟩:=q;simp only[e2]at e;cases e;rw[aM,aM,Fo e2]
theorem JR:∀(ks:aD) (vs:bG),dH (λk v=>(V.str k,v)) ks vs=((ks.map λk=>(Sum.inr k:Key)).zip vs).map λkv=>(kV kv.1,kv.2)
 |[],vs=>rfl
 |k::ks,[]=>rfl
 |k::ks,v::vs=>by show (V.str k,v)::_=_;rw[JR ks vs];rfl
theorem Mi(h:PE X e (OK (P3 G kfs)))(nd:(kfs.map λq=>(Sum.inr q.1:Key)).Nodup)(h15:kfs.length<=15):PE X e (tF G (yw kfs)):=PE.weak (PE.ghost h) λσ H Q hh=>by
 sleep 1
 unfold yw at e;cases e1:xy kfs ρ with
 |none=>simp only[e1]at e;cases e
 |some q=>
  obtain⟨ds,ρ1⟩:=q;simp only[e1]at e;cases e;intro p hp;have hB:F.B p=none:=R.bNone hp;have nA:p∉F.A:=λz=>by obtain⟨u,q⟩:=R.am p z;rw[hp]at q;cases q
  refine JP kfs ρ _ ds H0 _ _ (tW.hold R hp (.dK [])) e1 λvs H1 H1' s R1 rs=>?_;have q0:H1' p=some (.dK []):=R1.keep p _ EC nA;have h0:H1 p=none:=by
   cases q:H1 p with
   |none=>rfl
   |some u=>
    rcases R1.fr p u q with z|z
    ·have:=R.g0 _ _ z;rw[R.h0none hp]at this;cases this
    ·rw[EC]at z;cases z
  have lv:(kfs.map λq=>(Sum.inr q.1:Key)).length=vs.length:=by rw[af,<- Fo e1,tN rs]
  have kn:(((kfs.map λq=>(Sum.inr q.1:Key)).zip vs).map (·.1))=kfs.map λq=>(Sum.inr q.1:Key):=oW (by rw[lv];exact ay _)
  refine⟨q0,(kfs.map λq=>(Sum.inr q.1:Key)).zip vs,?_,?_,.inr ⟨p,_,tP,λob=>?_⟩⟩
  ·rw[JR,aU];rfl
  ·rw[gW,<- lv,hX,af];exact h15
  ·rw[NO,JQ _ [] (by rw[bY,kn];exact nd),bY];refine k _ _ _ (s.trans (tV h0 _)) (tW.layHeld R1 hB h0 nA _) ?_;unfold Rep;exact⟨p,ob,vs,rfl,tP,lv,tL.mono (tV h0 _) _ _ rs⟩
end
def spL(G:Bg)(g:aS->aS->Option (D×aS)):Sp:=λvs H Q E=>∃(a:Addr) (us:bG),vs=us++[.ref a]/\spM G g (.ref a::us) H Q E
def stL(n:Nat)(es ds:aS):bb:=ds.map Sl.im++.pm es::fw (n - ds.length - 1) .un
def JS(i:Nat)(ρ:bb):Option aS:=match ρ[i]? with
 |some (.pm es)=>some es
 |_=>none
def fnL(np n:Nat)(f:FS):aS->aS->Option (D×aS):=λes ds=>if ds.length=np then match f (stL n es ds)with
 |some (.rt d ρ)=>match JS np ρ with
  |some es'=>some (d,es')
  |none=>none
 |some (.rn xs ρ)=>match JS np ρ with
  |some es'=>some (.lst xs,es')
  |none=>none
 |_=>none
 else none
theorem Dd(h:JS i ρ=some es):ρ[i]?=some (.pm es):=by
 unfold JS at h;split at h
 ·rename_i e;cases h;exact e
 ·cases h
theorem JT(h:fnL np n f es ds=some (d,es')):ds.length=np/\((∃ρ,f (stL n es ds)=some (.rt d ρ)/\ρ[np]?=some (.pm es'))\/∃xs ρ,f (stL n es ds)=some (.rn xs ρ)/\ρ[np]?=some (.pm es')/\d=.lst xs):=by
 unfold fnL at h;split at h
 ·rename_i hl;refine⟨hl,?_⟩;split at h
  ·rename_i x ρ e;cases e2:JS np ρ with
   |none=>simp only[e2]at h;cases h
   |some q=>simp only[e2]at h;cases h;exact .inl ⟨ρ,e,Dd e2⟩
  ·rename_i x ρ e;cases e2:JS np ρ with
   |none=>simp only[e2]at h;cases h
   |some q=>simp only[e2]at h;cases h;exact .inr ⟨x,ρ,e,Dd e2,rfl⟩
  ·cases h
 ·cases h
theorem HV(h:(stL n es ds)[i]?=some t):(i=ds.length/\t=.pm es)\/t=.un\/∃d,ds[i]?=some d/\t=.im d:=by
 unfold stL at h;by_cases hi:i<ds.length
 ·rw[cH (by simpa using hi),bc,aJ hi]at h;cases h;exact .inr (.inr ⟨_,aJ hi,rfl⟩)
 ·rw[cG (by simpa using hi),af]at h;cases q:i - ds.length with
  |zero=>rw[q]at h;cases h;exact .inl ⟨by omega,rfl⟩
  |succ m=>
   rw[q,iA,gE]at h;split at h
   ·cases h;exact .inr (.inl rfl)
   ·cases h
section
variable{X:Cx}{G:Bg}
theorem Tn{N:aD}(ha:H a=some (.lst xs))(h0:H0 a=none)(s:tT H0 H)(r1:tL G H0 es xs)(r:tL G H0 ds us)(hN:us.length+1<=N.length):tW G ⟨H0,H,[a]⟩ (L2.start N (us++[.ref a])) (stL N.length es ds) H0 H:={
  sub:=s
  g0:=tT.refl _
  keep:=λb o e _=>e
  fr:=λb o e=>.inl e
  am:=λb hb=>by rw[aV]at hb;subst hb;exact⟨_,ha⟩
  len:=by unfold L2.start stL;simp only[aB,af,cz,aM,fj];have:=tN r;omega
  sl:=λi t e=>by
   rcases HV e with ⟨rfl,rfl⟩|rfl|⟨d,e1,rfl⟩
   ·exact⟨a,xs,wq (by rw[tN r,cG (ay _),ib];rfl),ha,h0,aV.mpr rfl,r1⟩
   ·trivial
   ·obtain⟨v,e2,e3⟩:=v5 r e1;exact⟨v,wq (by rw[cH (bO.mp e2).1];exact e2),e3⟩
  ap:=λi j t u b hij ei ej ht hu=>by
   rcases HV ei with ⟨rfl,rfl⟩|rfl|⟨_,_,rfl⟩
   ·rcases HV ej with ⟨rfl,rfl⟩|rfl|⟨_,_,rfl⟩
    ·exact aq rfl hij
    ·cases hu
    ·cases hu
   ·cases ht
   ·cases ht }
theorem To{N:aD}(hN:np+1<=N.length)(h:spL G (fnL np N.length f) vs H Q E):tFS G f { nx:=λ_ H'=>Q .non H',rt:=Q } (L2.start N vs) H:=by
 obtain⟨a,us,rfl,b,us',xs,H0,es,ds,d,es',e0,ha,h0,s,r1,r,e,k⟩:=h;cases e0;obtain⟨hl,e1⟩:=JT e;have R:=Tn (N:=N) ha h0 s r1 r (by rw[<-tN r,hl];exact hN);have fin:∀{v:V} {σ':St} {ρ':bb} {H0' H':Hp},tT H0 H0'->tW G ⟨H0,H,[a]⟩ σ' ρ' H0' H'->ρ'[np]?=some (.pm es')->Rep G H0' d v->Q v H':=λs' R' e2 rv=>by obtain⟨a',ys,q1,q2,q3,q4,q5⟩:=R'.sl np _ e2;have ea:a'=a:=aV.mp q4;subst ea;exact k _ ys _ _ s' R'.sub (λb o e n=>R'.keep b o e (λz=>n (aV.mp z))) R'.fr q3 q2 q5 rv
 rcases e1 with ⟨ρ,e1,e2⟩|⟨zs,ρ,e1,e2,rfl⟩
 ·exact⟨_,_,H0,_,R,e1,λv σ' H0' H' s' R' rv=>fin s' R' e2 rv,λ_=>rfl⟩
 ·refine⟨_,_,H0,_,R,e1,λp ys σ' H0' H' s' R' hp hp0 hb ap rs=>?_,λ_=>rfl⟩;exact fin (s'.trans (tV hp0 _)) (R'.freeze hp hp0 hb ap) e2 (yR tP (tL.mono (tV hp0 _) _ _ rs))
theorem aar(hg:∀es ds d,g es ds=some d->ds.length=np):∀vs H Q E,spL G g vs H Q E->vs.length=np+1:=λvs H Q E h=>by obtain⟨a,us,rfl,h⟩:=h;have:=O8 hg _ _ _ _ h;rw[aB];exact this
theorem Tq:∀es ds d,fnL np n f es ds=some d->ds.length=np:=λ_ _ d h=>(JT (d:=d.1) (es':=d.2) h).1
def La(G:Bg)(i:Nat)(a:FA):TA:=λσ H Q=>∃F ρ H0 ds ρ' es,tW G F σ ρ H0 H/\a ρ=some (ds,ρ')/\vv ρ' i=some es/\∀xs b H0' H',tT H0 H0'->tW G F σ ρ' H0' H'->tL G H0' ds xs->σ[i]?=some (some (.ref b))->Q (xs++[.ref b]) H'
theorem P4(hv:PE X e (zk i))(hs:aw [e] X.env=[(false,eval e X.env)]:=by rfl):PA X [e] (La G i tY):=PA.weak (u5 hv xP hs) λσ H Q hh=>by obtain⟨F,ρ,H0,ds,ρ',es,R,e,el,k⟩:=hh;cases e;obtain⟨b,xs,s1,_⟩:=v8 R el;exact⟨.ref b,s1,k [] b _ _ (tT.refl _) R uj s1⟩
theorem NP(ha:PE X e (tF G f))(hr:PA X es (La G i g))(hs:aw (e::es) X.env=(false,eval e X.env)::aw es X.env:=by rfl):PA X (e::es) (La G i (tD f g)):=PA.weak (u5 ha hr hs) λσ H Q hh=>by obtain⟨F,ρ,H0,d,ρ',es,R,e,el,k⟩:=hh;obtain⟨x,r,ρ1,e1,e2,rfl⟩:=zL e;exact⟨F,ρ,H0,x,ρ1,R,e1,λv H1 H1' s R' rv=>⟨F,ρ1,H1,r,ρ',es,R',e2,el,λxs b H2 H2' s2 R2 rs sb=>k _ _ _ _ (s.trans s2) R2 (uk (Rep.mono s2 _ _ rv) rs) sb⟩⟩
def uY(g:aS->aS->Option (D×aS))(i:Nat)(a:FA):FE:=λρ=>match a ρ with
 |some (ds,ρ1)=>match vv ρ1 i with
  |some es=>match g es ds with
   |some (d,es')=>some (d,putAt ρ1 i es')
   |none=>none
  |none=>none
 |none=>none
theorem Tr(h:PE X e (Av (spL G g) [] E (La G i a))):PE X e (tF G (uY g i a)):=PE.weak h λσ H Q hh=>by
 sleep 1
 unfold uY at e;rcases uf (f:=a) (ρ:=ρ)with e1|⟨ds,ρ1,e1⟩<;>simp only[e1]at e
 ·cases e
 ·cases e2:vv ρ1 i with
  |none=>simp only[e2]at e;cases e
  |some es=>
   simp only[e2]at e;cases e3:g es ds with
   |none=>simp only[e3]at e;cases e
   |some q=>obtain⟨d1,es'⟩:=q;simp only[e3]at e;cases e;refine⟨F,ρ,H0,ds,ρ1,es,R,e1,e2,λys b H1 H1' s R' rs sb=>?_⟩;obtain⟨s,es0,es1⟩:=wt e2;obtain⟨b',xs',t1,t2,t3,t4⟩:=(R'.sl i s es0).lst es1;rw[v7 t1]at sb;cases sb;refine⟨b,ys,bq _,b,ys,xs',H1,es,ds,d,es',rfl,t2,t3,R'.sub,t4,rs,e3,λv zs H2 H2' u1 u2 u3 fr w0 w1 w2 w3=>?_⟩;refine k _ _ _ (tT.trans ‹tT H0 H1› u1) ?_ w3;unfold putAt;rw[es0];exact R'.call1 es0 es1 t1 u1 u2 u3 fr w0 w1 w2
theorem Ts(D:zq X.prog X.w X.K X.mg X.base k x ps (spL G g))(hr:u9 k X.A)(ha:PA X (e::es) (La G i a))(hg:Gl X x:=by rfl)(hdb:(x==("__debug__" : Str))=false:=by decide)(he:aw (e::es) X.env=(false,eval e X.env)::aw es X.env:=by rfl)(hpl:(bt pos (aw es X.env)).any (·.1)=false:=by rfl):
  PE X (.Call (.Name x p) (e::es) [] pos) (tF G (uY g i a)):=by
 obtain⟨f,fd,h1,h2,h3,h4⟩:=D;exact Tr (BO (p:=p) (pos:=pos) h4 hr hg h1 h2 h3 .nil Dy ha hdb he hpl)
end
section
variable{P:aH}{w:aA}{K:au}{mg:Str->Option aa}{base:Heap}{x qual:Str}{st:Stmt}{f T:Addr}{fd:cg}{N ps:aD}{k:Nat}{G:Bg}
theorem aas(hg:g=fnL np n b)(hp:ps.length=np+1)(hN:N.length=n)(F:Fun K x qual st f fd)(S:u6 N ps (tX st))(body:∀(cdv:aa) (A:aI) (outer:List Env) (s:ae) (H:Hp) (E:XK),u9 k (A.deeper (envOfC qual (tX st) s.heap.objs.size f cdv))->PSs (Bo P w K mg base N qual st f cdv A outer s H E) (uw st) (tFS G b)):
  wY P w K mg base CX0 (k+1) f fd ps (spL G g):=by
 subst hg hN;refine F.ok S (λvs H Q E h=>?_) λcdv A outer s H vs Q E hr h=>⟨_,body cdv A outer s H E hr,To (by have:=ba cc S.pre;rw[bo]at this;omega) h⟩;rw[hp];exact aar Tq vs H Q E h
end
end L4
namespace L4
open PySem PySem.Spec PySem.Calls PyProof.Rows PySem.W L2 L3
def uV{α:Type}(c:Nat->Nat->Bool):KasT α->α
 |.ret a=>a
 |.ask i j k=>uV c (k (c i j))
def xA{α:Type}(P:Nat->Nat->Prop)(R:α->Prop):KasT α->Prop
 |.ret a=>R a
 |.ask i j k=>P i j/\∀b,xA P R (k b)
theorem xA.run{α:Type}{P:Nat->Nat->Prop}{R:α->Prop}(c:Nat->Nat->Bool):∀(t:KasT α),xA P R t->R (uV c t)
 |.ret a,h=>h
 |.ask i j k,h=>xA.run c (k (c i j)) (h.2 (c i j))
theorem xA.bind{α β:Type}{P:Nat->Nat->Prop}{R:α->Prop}{S:β->Prop}{f:α->KasT β}(hf:∀a,R a->xA P S (f a)):∀{t:KasT α},xA P R t->xA P S (t.bind f)
 |.ret a,h=>hf a h
 |.ask i j k,h=>⟨h.1,λb=>xA.bind hf (h.2 b)⟩
theorem Mj{α:Type}{cmp:Nat->Nat->(Bool->ae->Prop)->ae->Prop}{c:Nat->Nat->Bool}{P:Nat->Nat->Prop}{s:ae}{Q:α->ae->Prop}(hc:∀i j C,P i j->C (c i j) s->cmp i j C s):
  ∀{R:α->Prop} {t:KasT α},xA P R t->Q (uV c t) s->t.kasWp cmp Q s
 |R,.ret a,_,q=>q
 |R,.ask i j k,h,q=>hc i j _ h.1 (Mj hc (h.2 (c i j)) q)
def uH(n:Nat)(p:Array Nat):Prop:=p.toList.Perm (aQ n)
theorem uH.getD(h:uH n p)(hn:0<n)(i:Nat):p.getD i 0<n:=by
 unfold Array.getD;split
 ·rename_i hi;have:p[i]∈p.toList:=by simp
  exact bI.mp (h.mem_iff.mp this)
 ·exact hn
theorem uH.rev(h:uH n p)(i j:Nat):uH n (dW p i j):=by unfold uH dW mirror;exact(m5.mp (foldl_swaps_perm _ _ _ _)).trans h
theorem uH.bub(h:uH n p)(i j:Nat):uH n (bubble p i j):=(m5.mp (bubble_perm _ _ _)).trans h
abbrev In2(n:Nat):Nat->Nat->Prop:=λi j=>i<n/\j<n
theorem HW(hn:0<n)(h:uH n p):∀f k,xA (In2 n) (λ_=>True) (dt p f k)
 |0,k=>trivial
 |f+1,k=>⟨⟨h.getD hn _,h.getD hn _⟩,λb=>by cases b<;>first|exact trivial|exact HW hn h f (k+1)⟩
theorem B7(hn:0<n):∀f (p:Array Nat) k q,uH n p->xA (In2 n) (λr=>uH n r.1) (il f p k q)
 |0,p,k,q,h=>h
 |f+1,p,k,q,h=>⟨⟨h.getD hn _,h.getD hn _⟩,λb=>by
   cases b with
   |true=>
    show xA _ _ (if q > 0 then _ else _);split
    ·exact B7 hn f _ _ _ (h.rev _ _)
    ·exact B7 hn f _ _ _ h
   |false=>
    refine⟨⟨h.getD hn _,h.getD hn _⟩,λd=>?_⟩;cases d with
    |true=>exact h
    |false=>exact B7 hn f _ _ _ h⟩
theorem JU(hn:0<n)(h:uH n p)(k m:Nat):xA (In2 n) (λr=>uH n r.2) (gb k m p):=
 xA.bind (P:=In2 n) (R:=λ_=>True) (S:=λ(r:Nat×Array Nat)=>uH n r.2) (f:=λm=>.ret (m,dW p 0 k)) (λa _=>h.rev 0 k) (HW hn (h.rev 0 k) _ _)
theorem B8(hn:0<n)(h:uH n p)(k m:Nat):xA (In2 n) (λr=>uH n r.2) (fD k m p):=
 xA.bind (λr hr=>by
  show xA _ _ (if r.2.2 > 0 then _ else _);split
  ·exact JU hn (hr.rev _ _) _ _
  ·exact JU hn hr _ _) (B7 hn _ p _ _ h)
theorem GY(hn:0<n)(h:uH n p)(m:Nat):xA (In2 n) (λr=>uH n r.2) (eL m p):=
 xA.bind (λk _=>by
  show xA _ _ (if (k==m)=true then _ else _);split
  ·exact h
  ·split
   ·refine⟨⟨h.getD hn _,h.getD hn _⟩,λb=>?_⟩;cases b with
    |true=>exact h
    |false=>exact B8 hn (h.rev _ _) _ _
   ·exact B8 hn h _ _) (HW hn h _ _)
theorem De(hn:0<n)(h:uH n p)(k:Nat):∀f l r,xA (In2 n) (λ_=>True) (ie p k f l r)
 |0,l,r=>trivial
 |f+1,l,r=>by
  unfold ie;split
  ·trivial
  ·refine⟨⟨h.getD hn _,h.getD hn _⟩,λb=>?_⟩;cases b with
   |true=>exact De hn h k f _ _
   |false=>exact De hn h k f _ _
theorem Ml(hn:0<n):∀f (p:Array Nat) k,uH n p->xA (In2 n) (uH n) (kas_bin f p k)
 |0,p,k,h=>h
 |f+1,p,k,h=>xA.bind (λl _=>Ml hn f _ _ (h.bub _ _)) (De hn h k _ _ _)
theorem B9(hn:0<n):xA (In2 n) (uH n) (gh n):=
 xA.bind (λr hr=>by
  show xA _ _ (if r.1<n then _ else _);split
  ·exact Ml hn _ _ _ hr
  ·exact hr) (GY hn (p:=iV (aQ n)) (by unfold uH;exact lI _) n)
def zP(a:Addr)(h h':Heap):Prop:=∀b o,b≠a->h.get? b=some o->h'.get? b=some o
section
variable{prog:aH}{w:aA}{A:aI}{E:aa->ae->Prop}{s:ae}
def Dg(c:Nat->Nat->Bool)(vs:List aa):List aa:=(uV c (gh vs.length)).toList.map λi=>vs.getD i Value.none
theorem P5(c:Nat->Nat->Bool)(vs:List aa)(h:0<vs.length):(Dg c vs).length=vs.length:=by unfold Dg;rw[af];have:=(B9 h).run c _;rw[this.length_eq,cI]
theorem P6(c:Nat->Nat->Bool)(v:aa):Dg c [v]=[v]:=rfl
theorem P7{vs:List aa}(ho:s.heap.get? a=some (seqObj "list" vs.toArray n))(h1:0<vs.length)(h64:vs.length<64)
  (hk:∀(h':Heap) (C:SortKind->ae->Prop),zP a s.heap h'->C κ { s with heap:=h' }->aj (model prog w) A (keyKind' vs.toArray) C (λ_ _=>False) { s with heap:=h' })
  (hc:∀(h':Heap) (i j:Nat) (C:Bool->ae->Prop),zP a s.heap h'->i<vs.length/\j<vs.length->C (c i j) { s with heap:=h' }->kas_ask prog w A κ vs i j C { s with heap:=h' })
  (h:∀h' e,zP a s.heap h'->h'.get? a=some (seqObj "list" (Dg c vs).toArray e)->P (.done (.ret .none)) { s with heap:=h' }):
  aj (model prog w) A (c9.«list.sort» ⟨[.ref a],[]⟩) P E s:=by
 have ha:a<s.heap.objs.size:=aK ho;obtain⟨e1,o1⟩:∃e1,(s.heap.update a (cB λ_=>(#[]:Array aa))).get? a=some (seqObj "list" #[] e1):=⟨_,o9 ho λ_=>#[]⟩;generalize hw:((s.heap.update a (cB λ_=>(#[]:Array aa))).push (seqObj "tuple" vs.toArray 0)).push (seqObj "list" #[] 0)=h3;have kb:zP a s.heap h3:=λb o hb q=>by rw[<-hw];exact aC _ (aC _ ((fQ s.heap _ (cD hb)).trans q))
 have o3:h3.get? a=some (seqObj "list" #[] e1):=by rw[<-hw];exact aC _ (aC _ o1)
 rw[list_sort_plain];refine ag (listItems_at ho rfl (ag (lQ ho rfl ?_ (by rw[bf,bN];omega) (bA _))));refine ag (l9 o1 rfl (ag (pI ?_ (by show vs.length<=_;rw[bN];omega))));refine ag (lR (cW ?_) (bA _));show aj (model prog w) A _ P E { s with heap:=((s.heap.update a (cB λ_=>(#[]:Array aa))).push (seqObj "tuple" vs.toArray 0)).push (seqObj "list" #[] 0) };rw[hw];dsimp only;obtain⟨c2,hc2⟩:∃c2,(h3.update a (cB λ_=>(Dg c vs).toArray)).get? a=some (seqObj "list" (Dg c vs).toArray c2):=⟨_,o9 o3 λ_=>(Dg c vs).toArray⟩;have fin:=h _ c2 (λb o hb q=>(fQ h3 _ (cD hb)).trans (kb b o hb q)) hc2;have szo:(Dg c vs).toArray.size<=aG+1:=by rw[bf,P5 c vs h1,bN];omega
 by_cases h2:2<=vs.length
 ·have hn2:¬vs.toArray.size<2:=by rw[bf];omega
  rw[ai hn2,ai hn2];refine ag (bZ (hk h3 (λk s'=>k=κ/\s'={ s with heap:=h3 }) kb ⟨rfl,rfl⟩) ?_ λ_ _ x=>x.elim);rintro k s' ⟨rfl,rfl⟩;refine ag (bZ (kat_run (Q:=λst' s'=>s'={ s with heap:=h3 }/\(arrOf st').map (·.2)=(Dg c vs).toArray/\failedOf st'=none) (G:=λp s'=>p=uV c (gh vs.length)/\s'={ s with heap:=h3 }) rfl h2 h64 ?_ ?_) ?_ λ_ _ e=>e)
  ·rintro p st' s' _ har hf ⟨rfl,rfl⟩;exact⟨rfl,kat_snds rfl har,hf⟩
  ·exact Mj (P:=In2 vs.length) (λi j C q r=>hc h3 i j C kb q r) (B9 h1) ⟨rfl,rfl⟩
  ·rintro⟨⟨⟩,st'⟩ s' ⟨rfl,ha2,hf⟩;dsimp only;refine ag (l9 o3 rfl ?_);rw[ha2,hf];refine ag (lQ o3 rfl ?_ (bA _) szo);simp only[bne_self_eq_false,gK,if_false];exact ar fin
 ·obtain⟨v,rfl⟩:∃v,vs=[v]:=by
   cases vs with
   |nil=>cases h1
   |cons v r=>
    cases r with
    |nil=>exact⟨v,rfl⟩
    |cons x y=>exact aq (by simp) h2
  refine ag (ar ?_);refine ag (ar ?_);refine ag (l9 o3 rfl ?_);have eo:qE (λx=>x.snd) (arrOf ((),SortSt.mk' general' (#[v].zip #[v]) #[] 7 none).snd)=(Dg c [v]).toArray:=by rw[P6];show qE (λx=>x.snd) (#[v].zip #[v])=#[v];simp
  rw[eo];refine ag (lQ o3 rfl ?_ (bA _) szo);simp only[bne_self_eq_false,gK,if_false];exact ar fin
end
def ltS(a b:Str):Bool:=decide (a.cps.toList<b.cps.toList)
def xp:aD->aD->Bool
 |[],[]=>false
 |[],_::_=>true
 |_::_,[]=>false
 |x::xs,y::ys=>if x=y then xp xs ys else ltS x y
inductive StrsAre:List aa->aD->Prop
 |nil:StrsAre [] []
 |cons (x:Str) (t:Tok) {vs:List aa} {xs:aD} (h:StrsAre vs xs):StrsAre (.str x t::vs) (x::xs)
def HX(c:Nat->Nat->Bool)(n:Nat):List Nat:=(uV c (gh n)).toList
theorem zr(c:Nat->Nat->Bool)(h:0<n):(HX c n).Perm (aQ n):=(B9 h).run c _
theorem HY(c:Nat->Nat->Bool)(h:0<n):∀i∈HX c n,i<n:=λi hi=>bI.mp ((zr c h).mem_iff.mp hi)
theorem GZ(r:Vals xs us):∀(is:List Nat),(∀i∈is,i<xs.length)->Vals (is.map λi=>xs.getD i V.non) (is.map λi=>us.getD i Value.none)
 |[],_=>.nil
 |i::is,h=>by have hi:=h i (.head _);obtain⟨u,e,ru⟩:=r.get (aJ hi);refine .cons ?_ (GZ r is λj hj=>h j (.tail _ hj));show RelV (xs.getD i V.non) (us.getD i Value.none);rw[cj,cj,e,aJ hi];exact ru
end L4
namespace L4
open PySem PySem.Spec PyProof.Rows L2 L3
section
variable{X:Cx}{G:Bg}
theorem Tt:OpD G (λx y H Q=>∃z n,x=.str z/\y=.int n/\MulOk z n/\Q (.str (ja z n)) H) JH:=λx y z H0 H v u Q e s rx ry k=>by
 unfold JH at e;split at e
 ·rename_i a n;split at e
  ·rename_i hl;obtain⟨h0,h1,h2⟩:=hl;cases e;unfold Rep at rx ry;refine⟨a,n,rx,ry,⟨?_,λh3 h4 h5=>?_,λh3 h4=>?_⟩,k _ λ_ _=>xW _⟩
   ·rw[kA];exact⟨aT (by omega),aT (by omega)⟩
   ·have hn:(0:Int)<n:=by omega
    have q:(9223372036854775807:Int) / n >= 9223372036854775:=by have:=Int.le_ediv_of_mul_le (a:=9223372036854775) (b:=9223372036854775807) hn (by omega);exact this
    have:((2:Int) ^ 63 - 1)=9223372036854775807:=by decide
    rw[this]at h5;omega
   ·have hn:n.toNat<=1000:=by omega
    have:a.length * n.toNat<=100 * 1000:=Nat.mul_le_mul h2 hn;refine aT ?_;rw[bN];omega
  ·cases e
 ·cases e
end
def Mn:List String:=["NoneType", "bool", "int", "str", "tuple", "list", "dict"]
def G0(n c:Nat):Ty->Option Bool:=λy=>match y with
 |.b x=>if Mn.contains x=true then some false else none
 |.c k=>if k<n then some (k==c)else none
def ED(K:au)(cs:List Addr)(C:Addr)(c:Nat):Bool:=
 Mn.all (λx=>c8 K (.type x) (.ref C)==some false)&&(aQ cs.length).all λk=>c8 K (.ref (cs.getD k 0)) (.ref C)==some (k==c)
theorem G1{B:Bg}(h:ED B.K cs (B.ca c) c=true)(hn:cs.length=n)(hc:∀k,k<n->cs.getD k 0=B.ca k)(hI:∀k,k<n->NF B.K (B.ca k)):K0 B c (G0 n c):=by
 unfold ED at h;rw[aZ,bH,bH]at h;refine⟨λy b e=>?_,λj b e=>?_⟩
 ·cases y with
  |b x=>
   unfold G0 at e;simp only at e;split at e
   ·rename_i hx;cases e;exact eK (h.1 x (nI.mp hx))
   ·cases e
  |c k=>
   unfold G0 at e;simp only at e;split at e
   ·rename_i hk;cases e;have:=eK (h.2 k (bI.mpr (by omega)));rw[hc k hk]at this;exact this
   ·cases e
 ·unfold G0 at e;simp only at e;split at e
  ·rename_i hk;exact hI j hk
  ·cases e
theorem WT{l:List Addr}(h:l.Nodup)(hj:j<l.length)(hk:k<l.length)(e:l.getD j 0=l.getD k 0):j=k:=by
 rw[cj,cj,aJ hj,aJ hk]at e;have pw:=iw.mp h;rcases jI j k with y|y|y
 ·exact aq e (pw j k hj hk y)
 ·exact y
 ·exact aq e.symm (pw k j hk hj y)
section
variable{B:Bg}{K:au}{mg:Str->Option aa}{h:Heap}
theorem const_int(X:K.In h)(Gn:h.Ns aW mg)(e:jb K aW x=some (some (.int i t))):A6 B mg x (.int i):=
 ⟨.int i,_,j8 X Gn e,⟨_,rfl⟩,λ_=>vW _⟩
inductive zQ:List aa->aD->Prop
 |nil:zQ [] []
 |cons {v:aa} {x:Str} {t:Tok} {vs:List aa} {xs:aD} (e:v=.str x t) (h:zQ vs xs):zQ (v::vs) (x::xs)
theorem zQ.vals(h:zQ vs xs):Vals (xs.map V.str) vs:=by
 induction h with
 |nil=>exact .nil
 |cons e h ih=>exact .cons ⟨_,e⟩ ih
theorem Fp:∀xs:aD,tL B H (xs.map D.str) (xs.map V.str)
 |[]=>uj
 |x::xs=>uk (xW x) (Fp xs)
theorem Lb(xs:aD)(X:B.K.In h)(Gn:h.Ns aW mg)(e:jb B.K aW x=some (some (.ref a)))(l:B.K.lookup a=some o)(hc:o.cls=.type "tuple")(hd:o.data=.seq its n)(hz:its.size<=1000)
  (r:zQ its.toList xs):A6 B mg x (.tup (xs.map D.str)):=
 ⟨.ref a,_,j8 X Gn e,rfl,λH=>yQ (.inr ⟨o,its,n,l,hc,hd,by rw[bN];omega,r.vals⟩) (Fp xs)⟩
end
section
variable{f g' h:FS}{c:FT}{e e' e2:FE}{a a':FA}{ρ ρ' ρ1 ρ2 ρ3:bb}{d x y z:D}{ds xs ys:aS}{k:Nat}{cap:List Nat}{g:FG}{ft:FT}{fe:FE}
theorem Fq{α:Type}(dd:α->D)(p:α->Bool)(h:α->D):∀l:List α,
  (∀a∈l,∃ρ1 ρ2,g (dd a) (BC k cap ρ)=some ρ1/\ft ρ1=some (p a,ρ2)/\(p a=true->∃ρ3,fe ρ2=some (h a,ρ3)/\wD cap (ρ3.drop k) ρ=some ρ)/\(p a=false->wD cap (ρ2.drop k) ρ=some ρ))->
  xq k cap g ft fe (l.map dd) ρ=some ((l.filter p).map h,ρ)
 |[],_=>rfl
 |a::l,st=>by
  obtain⟨ρ1,ρ2,h1,h2,h3,h4⟩:=st a bg;have ih:=Fq dd p h l λa' ha=>st a' (bu _ ha);rw[aE];unfold xq;rw[h1];simp only[h2];cases hp:p a with
  |true=>obtain⟨ρ3,h5,h6⟩:=h3 hp;simp only[h5,h6,ih,eY,hp,if_true,aE]
  |false=>simp only[h4 hp,ih,eY,hp];rfl
theorem Tv{α:Type}(dd:α->D)(h:α->D)(l:List α)(st:∀a∈l,∃ρ1 ρ3,g (dd a) (BC k cap ρ)=some ρ1/\fe ρ1=some (h a,ρ3)/\wD cap (ρ3.drop k) ρ=some ρ):xq k cap g uS fe (l.map dd) ρ=some (l.map h,ρ):=by have:=Fq (ft:=uS) dd (λ_=>true) h l λa ha=>let ⟨ρ1,ρ3,h1,h2,h3⟩:=st a ha;⟨ρ1,ρ1,h1,rfl,λ_=>⟨ρ3,h2,h3⟩,λz=>by cases z⟩;rw[this,kF.mpr λ_ _=>rfl]
theorem A8(neg:Bool)(a b:Str):dEq neg (.str a) (.str b)=some (.bl (if neg then !decide (a=b)else decide (a=b))):=by
 have e:Gi neg (.str a) (.str b)=some (.bl (if neg then !decide (V.str a=V.str b)else decide (V.str a=V.str b))):=rfl;have e2:decide (V.str a=V.str b)=decide (a=b):=by
  by_cases h:a=b
  ·subst h;simp
  ·rw[aT h,aT (λz=>h (by injection z))]
 unfold dEq;rw[e,e2]
theorem P8(a:Str)(l:aD):inV (V.str a) (l.map V.str)=decide (a∈l):=by
 unfold inV;rw[eZ,gR,bR];constructor
 ·rintro⟨v,hv,he⟩;obtain⟨b,hb,rfl⟩:=aP.mp hv;have:b=a:=by unfold eqV at he;simpa using he
  rw[<-this];exact hb
 ·intro ha;refine⟨.str a,bQ ha,?_⟩;unfold eqV;simp
theorem NQ(l:aD):(l.map D.str).all v9=true:=by rw[qe,bH];intro x _;rfl
theorem Tw(l:aD):(l.map D.str).map vD=l.map V.str:=by rw[aU];rfl
theorem AF(neg:Bool)(a:Str)(l:aD):dIn neg (.str a) (.lst (l.map D.str))=some (.bl (if neg then !decide (a∈l)else decide (a∈l))):=by unfold dIn;show (if v9 (.str a)&&(l.map D.str).all v9 then some (D.bl (if neg then !inV (vD (.str a)) ((l.map D.str).map vD)else inV (vD (.str a)) ((l.map D.str).map vD)))else none)=_;rw[NQ,Tw];show some (D.bl (if neg then !inV (V.str a) (l.map V.str)else inV (V.str a) (l.map V.str)))=_;rw[P8]
theorem Fs(neg:Bool)(a:Str)(l:aD):dIn neg (.str a) (.tup (l.map D.str))=some (.bl (if neg then !decide (a∈l)else decide (a∈l))):=AF neg a l
theorem HZ:∀bs:List Bool,Gj (bs.map D.bl)=some bs
 |[]=>rfl
 |b::bs=>by rw[aE];unfold Gj;rw[HZ bs];rfl
theorem P9(bs:List Bool):yL (.lst (bs.map D.bl))=some (.bl (bs.all id)):=by unfold yL;simp only[HZ];rfl
theorem Qa(bs:List Bool):Fj (.lst (bs.map D.bl))=some (.bl (bs.any id)):=by unfold Fj;simp only[HZ];rfl
theorem Mo{α:Type}(l:List α)(p:α->Bool):yL (.lst (l.map λa=>D.bl (p a)))=some (.bl (l.all p)):=by rw[show (l.map λa=>D.bl (p a))=(l.map p).map D.bl by rw[aU];rfl,P9,qe];rfl
theorem Tx{α:Type}(l:List α)(p:α->Bool):Fj (.lst (l.map λa=>D.bl (p a)))=some (.bl (l.any p)):=by rw[show (l.map λa=>D.bl (p a))=(l.map p).map D.bl by rw[aU];rfl,Qa,List.any_map];rfl
theorem Ft:∀l:aD,DI (l.map D.str)=some (l.map Sum.inr)
 |[]=>rfl
 |x::l=>by rw[aE];unfold DI;rw[Ft l];rfl
theorem Qb:∀(l acc:List Key),(acc++l).Nodup->l.foldl ddp acc=acc++l
 |[],acc,_=>by rw[bq];rfl
 |k::l,acc,h=>by
  have hn:acc.any (λz=>decide (z=k))=false:=by rw[jH];intro z;obtain⟨y,hy,ey⟩:=gR.mp z;rw[cA]at h;exact h.2.2 y hy k bg (bK ey)
  rw[dB,show ddp acc k=acc++[k] by unfold ddp;rw[hn];rfl,Qb l (acc++[k]) (by simpa using h)];simp
theorem zt{l:aD}(h:l.Nodup):(l.map (Sum.inr:Str->Key)).Nodup:=by unfold List.Nodup at h ⊢;rw[oJ];exact h.imp λhne z=>hne (jW z)
theorem DM{l:aD}(h:l.Nodup)(hl:l.length<=1000):xc (l.map D.str)=some (.int l.length):=by unfold xc;rw[Ft];simp only[af,hl,if_true];unfold yM;rw[Qb _ [] (by simpa using zt h)];simp
theorem zR(neg:Bool)(a b:Int):dEq neg (.int a) (.int b)=some (.bl (if neg then !decide (a=b)else decide (a=b))):=by
 have e:Gi neg (.int a) (.int b)=some (.bl (if neg then !decide (V.int a=V.int b)else decide (V.int a=V.int b))):=rfl;have e2:decide (V.int a=V.int b)=decide (a=b):=by
  by_cases h:a=b
  ·subst h;simp
  ·rw[aT h,aT (λz=>h (by injection z))]
 unfold dEq;rw[e,e2]
theorem vM(h1:e ρ=some (.bl true,ρ1)):xx e e' ρ=e' ρ1:=by unfold xx;rw[h1]
theorem ve{g:Nat->Option (aS->Option D)}{m:Str}{c:Nat}{ns:aD}{hh:aS->Option D}(h1:e ρ=some (.obj c ns xs,ρ1))(h2:g c=some hh)(h3:ns.contains m=false)(h4:a ρ1=some (ys,ρ2))(h5:hh (.obj c ns xs::ys)=some d):uJ g m e a ρ=some (d,ρ2):=by unfold uJ;rw[h1];simp only[h2,h3,h4,h5];rfl
theorem Ia{c:Nat}{g:aS->Option (aD×aS)}{ns:aD}(h1:a ρ=some (ds,ρ1))(h2:g ds=some (ns,xs)):uv c g a ρ=some (.obj c ns xs,ρ1):=by unfold uv;rw[h1];simp only[h2]
theorem zS(hl:ds.length=np)(h:b (L4.stE n ds)=some (.nx ρ)):fnD np n b ds=some .non:=by unfold fnD;rw[ah hl,h]
theorem yx(hl:ds.length=np)(h:b (L4.stE n ds)=some (.rn xs ρ)):fnD np n b ds=some (.lst xs):=by unfold fnD;rw[ah hl,h]
theorem Ca:∀{ks:List Key} {ds:aS} {k:Key} {d:D},ks.Nodup->(k,d)∈ks.zip ds->vp ks ds k=some d
 |[],_,k,d,_,h=>by simp at h
 |k'::ks,[],k,d,_,h=>by simp at h
 |k'::ks,d'::ds,k,d,nd,h=>by
  unfold vp;rw[eV]at h;rcases aN.mp h with e|h
  ·cases e;rw[ah rfl]
  ·rw[dq]at nd;rw[ai (λz=>nd.1 (by subst z;exact(jO h).1))];exact Ca nd.2 h
theorem Dh:∀{ks:List Key} {ds:aS} {k:Key},k∉ks->vp ks ds k=none
 |[],ds,k,_=>by unfold vp;rfl
 |k'::ks,[],k,_=>by unfold vp;rfl
 |k'::ks,d'::ds,k,h=>by unfold vp;rw[ai (λz=>h (by subst z;exact bg))];exact Dh λz=>h (bu _ z)
end
end L4
namespace L4
open PySem PySem.Spec PyProof.Rows L2 L3
open PySem.W (nsIn findIn keepIn isFn makesIn fnOf)
def Lc{α:Type}:Nat->(List α->Prop)->Prop
 |0,P=>P []
 |n+1,P=>∀a,Lc n λl=>P (a::l)
theorem EE{α:Type}:∀{n:Nat} {P:List α->Prop},Lc n P->∀l,l.length=n->P l
 |0,P,h,[],_=>h
 |n+1,P,h,a::l,e=>EE (P:=λl=>P (a::l)) (h a) l (iW e)
structure CF(K:au)(C:Addr)(xs:aD):Prop where
 ci:NF K C
 mks:makesIn K C=true
 kp:keepIn K (.ref C)=true
 na:(xs.all λx=>match findIn K (.ref C) x with|some none=>true|_=>false)=true
theorem CF.at{K:au}(c:CF K C xs)(i:Nat)(h:xs[i]?=some x):Cls K C/\yt K C x:=⟨c.ci.cl,by
 have e:=bH.mp c.na x (bU h);unfold yt;split at e
 ·rename_i e1;exact e1
 ·cases e⟩
theorem yN{Q:Nat->Prop}{i:Nat}(h:Q i):∀c,(c==i)=true->Q c:=λc e=>by rw[beq_iff_eq]at e;subst e;exact h
theorem orQ{Q:Nat->Prop}{p:Nat->Bool}{i:Nat}(h:∀c,p c=true->Q c)(h':Q i):∀c,(p c||c==i)=true->Q c:=λc e=>by
 rw[jP]at e;rcases e with e|e
 ·exact h c e
 ·exact yN h' c e
structure Yw(P:aH)(w:aA)(mg:Str->Option aa)(base:Heap)(G:Bg):Prop where
 m:∃h:Heap,G.K.In h/\h.Ns aW mg
section
variable{P:aH}{w:aA}{mg:Str->Option aa}{base:Heap}{G:Bg}{x m qual:Str}{st:Stmt}{N ps:aD}{k c:Nat}{K:au}
theorem Yw.g(y:Yw P w mg base G)(e:nsIn G.K aW x=some (some v)):mg x=some v:=by obtain⟨h,X,Gn⟩:=y.m;exact j8 X Gn e
theorem Yw.n(y:Yw P w mg base G){xs:aD}(h:(xs.all λx=>match nsIn G.K aW x with|some none=>true|_=>false)=true)(i:Nat)(hi:xs[i]?=some x):mg x=none:=by
 obtain⟨hh,X,Gn⟩:=y.m;have e:=bH.mp h x (bU hi);split at e
 ·rename_i e1;exact W.mg_none_of X Gn e1
 ·cases e
def GC(K:au)(x:Str)(i:Int):Prop:=∃t:Tok,nsIn K aW x=some (some (.int i t))
theorem Yw.ci(y:Yw P w mg base G)(q:GC G.K x i):A6 G mg x (.int i):=by obtain⟨h,X,Gn⟩:=y.m;obtain⟨t,e⟩:=q;exact const_int X Gn e
def GS(K:au)(x:Str)(xs:aD):Prop:=∃(a:Addr) (o:Obj) (its:Array aa) (n:Nat),nsIn K aW x=some (some (.ref a))/\K.lookup a=some o/\o.cls=.type "tuple" /\ o.data=.seq its n/\its.size<=1000/\zQ its.toList xs
theorem Yw.cs(y:Yw P w mg base G)(q:GS G.K x xs):A6 G mg x (.tup (xs.map D.str)):=by obtain⟨h,X,Gn⟩:=y.m;obtain⟨a,o,its,n,e,l,h1,h2,h3,h4⟩:=q;exact Lb xs X Gn e l h1 h2 h3 h4
def GD(K:au)(x:Str)(st:Stmt):Prop:=∃(f:Addr) (fd:cg),nsIn K aW x=some (some (.ref f))/\Fun K x x st f fd
def GM(K:au)(C:Addr)(m qual:Str)(st:Stmt):Prop:=∃(f:Addr) (fd:cg),findIn K (.ref C) m=some (some (.ref f))/\isFn K (.ref f)=true/\Fun K m qual st f fd
def GJ(K:au)(C:Addr)(qual:Str)(st:Stmt)(vs:bG):Prop:=∃(f:Addr) (fd:cg) (T:Addr) (o:Obj) (dl:List aa) (n:Nat),findIn K (.ref C) "__init__" = some (some (.ref f))/\isFn K (.ref f)=true/\Nr K "__init__" qual st f fd T/\K.lookup T=some o/\o.data=.seq dl.toArray n/\Vals vs dl
abbrev Bdy(P:aH)(w:aA)(K:au)(mg:Str->Option aa)(base:Heap)(N:aD)(qual:Str)(st:Stmt)(k:Nat)(t:TS):Prop:=∀(f:Addr) (cdv:aa) (A:aI) (outer:List Env) (s:ae) (H:Hp) (E:XK),u9 k (A.deeper (envOfC qual (tX st) s.heap.objs.size f cdv))->PSs (Bo P w K mg base N qual st f cdv A outer s H E) (uw st) t
abbrev Bds(x qual:Str)(st:Stmt)(ps:aD):Prop:=Lc ps.length λus=>∀(kV doc pm:aa) (an:Option Addr) (cdv ct:aa),bindArgs (fnOf x qual (w5 st) (uw st) (tX st) .none kV doc pm an cdv ct) ⟨us,[]⟩=pure (ps.zip us)
theorem Bds.ok(b:Bds x qual st ps)(F:Fun K x qual st f fd):Binds K fd ps []:=F.binds λkV doc pm an cdv ct us hl=>EE b us hl kV doc pm an cdv ct
theorem gD(y:Yw P w mg base G)(q:GD G.K x st)(bd:Bds x x st ps)(ok:∀f fd,Fun G.K x x st f fd->wY P w G.K mg base CX0 k f fd ps sp):zq P w G.K mg base k x ps sp:=by obtain⟨f,fd,a,F⟩:=q;exact⟨f,fd,y.g a,F.kp,bd.ok F,ok f fd F⟩
theorem gF(hg:g=fnD np n b)(y:Yw P w mg base G)(q:GD G.K x st)(S:u6 N ps (tX st))(body:Bdy P w G.K mg base N x st k (tFS G b))(hp:ps.length=np:=by rfl)(hN:N.length=n:=by rfl)(bd:Bds x x st ps:=by (repeat intro _);rfl):zq P w G.K mg base (k+1) x ps (spF G g):=
 gD y q bd λf fd F=>Pm hg hp hN F S (body f)
theorem gN'(hg:g=fnN np n b)(y:Yw P w mg base G)(q:GD G.K x st)(S:u6 N ps (tX st))(body:Bdy P w G.K mg base N x st k (tFS G b))(hp:ps.length=np:=by rfl)(hN:N.length=n:=by rfl)(bd:Bds x x st ps:=by (repeat intro _);rfl):zq P w G.K mg base (k+1) x ps (spN G g):=
 gD y q bd λf fd F=>aaj hg hp hN F S (body f)
theorem gM(hg:g=fnM np n b)(y:Yw P w mg base G)(q:GD G.K x st)(S:u6 N (p::ps) (tX st))(body:Bdy P w G.K mg base N x st k (tFS G b))(hp:ps.length=np:=by rfl)(hN:N.length=n:=by rfl)(bd:Bds x x st (p::ps):=by (repeat intro _);rfl):zq P w G.K mg base (k+1) x (p::ps) (spM G g):=
 gD y q bd λf fd F=>aak hg hp hN F S (body f)
theorem gL(hg:g=fnL np n b)(y:Yw P w mg base G)(q:GD G.K x st)(S:u6 N ps (tX st))(body:Bdy P w G.K mg base N x st k (tFS G b))(hp:ps.length=np+1:=by rfl)(hN:N.length=n:=by rfl)(bd:Bds x x st ps:=by (repeat intro _);rfl):zq P w G.K mg base (k+1) x ps (spL G g):=
 gD y q bd λf fd F=>aas hg hp hN F S (body f)
theorem gI(hg:g=fnI c np n b)(y:Yw P w mg base G)(C:CF G.K (G.ca c) xs)(a:nsIn G.K aW x=some (some (.ref (G.ca c))))(q:GM G.K (G.ca c) "__init__" qual st)(S:u6 N (p::ps) (tX st))(body:Bdy P w G.K mg base N qual st k (tFS G b))(hp:ps.length=np:=by rfl)(hN:N.length=n:=by rfl)(bd:Bds "__init__" qual st (p::ps):=by (repeat intro _);rfl):HS G P w mg base (k+1) x c (p::ps) [] g:=by obtain⟨f,fd,i,i',F⟩:=q;exact⟨f,fd,[],⟨C.mks,i,i',C.kp⟩,y.g a,bd.ok F,.nil,aal hg hp hN F S (body f)⟩
theorem JV(h:Vals vs us):us.length=vs.length:=by
 induction h with
 |nil=>rfl
 |cons _ _ ih=>rw[aM,aM,ih]
theorem NR(h:Vals vs us):∀j,Vals (vs.drop j) (us.drop j):=by
 induction h with
 |nil=>intro j;rw[pW,pW];exact .nil
 |cons a b ih=>
  intro j;cases j with
  |zero=>exact .cons a b
  |succ j=>exact ih j
theorem gJ(hg:g=fnI c np n b)(y:Yw P w mg base G)(C:CF G.K (G.ca c) xs)(a:nsIn G.K aW x=some (some (.ref (G.ca c))))(q:GJ G.K (G.ca c) qual st vs)(S:u6 N (p::ps) (tX st))(body:Bdy P w G.K mg base N qual st k (tFS G b))(j:Nat)(hp:ps.length=np:=by rfl)(hN:N.length=n:=by rfl)
  (bd:Lc vs.length λdl=>Lc ((p::ps).length - (vs.drop j).length) λus=>∀(T:Addr) (kV doc pm:aa) (an:Option Addr) (cdv ct:aa),∃k,bindArgs (fnOf "__init__" qual (w5 st) (uw st) (tX st) (.ref T) kV doc pm an cdv ct) ⟨us,[]⟩=seqItems? (.ref T)>>=k/\k (some dl.toArray)=pure ((p::ps).zip (us++dl.drop j)):=by (repeat intro _);exact⟨_,rfl,rfl⟩):HS G P w mg base (k+1) x c (p::ps) (vs.drop j) g:=by
 obtain⟨f,fd,T,o,dl,n,i,i',F,l,e,r⟩:=q;refine⟨f,fd,dl.drop j,⟨C.mks,i,i',C.kp⟩,y.g a,F.binds l e λkV doc pm an cdv ct us hl=>?_,NR r j,WC hg hp hN F S (body f)⟩;exact EE (EE bd dl (JV r)) us (by rw[hl,cb,cb,JV r]) T kV doc pm an cdv ct
end
end L4
namespace L4
open PySem PySem.Spec PyProof.Rows L2 L3
def leS(a b:Str):Bool:=decide (a.cps.toList<=b.cps.toList)
def DN(ss:aD):aD:=ss.mergeSort leS
theorem Qc(a b c:Str)(h:leS a b=true)(h':leS b c=true):leS a c=true:=aY (List.le_trans (bK h) (bK h'))
theorem TB(a b:Str):(leS a b||leS b a)=true:=by
 rw[jP];rcases List.le_total a.cps.toList b.cps.toList with h|h
 ·exact .inl (aY h)
 ·exact .inr (aY h)
theorem Qd(a b:Str)(h:leS a b=true)(h':leS b a=true):a=b:=by have e:=oX (bK h) (bK h');cases a with|mk a=>cases b with|mk b=>cases a;cases b;simp only at e;rw[e]
theorem Di:∀(r:aD) (x:Str),risingS x r=true->(∀y∈r,leS x y=true)/\r.Pairwise λa b=>leS a b=true
 |[],x,_=>⟨λy h=>(cn h).elim,.nil⟩
 |z::r,x,h=>by
  unfold risingS at h;rw[aZ,gO,ltCps_eq]at h;obtain⟨h1,h2⟩:=h;obtain⟨g1,g2⟩:=Di r z h2;have h3:leS x z=true:=aY (of_decide_eq_false h1);refine⟨λy hy=>?_,.cons g1 g2⟩;rcases aN.mp hy with e|hy
  ·rw[e];exact h3
  ·exact Qc _ _ _ h3 (g1 y hy)
theorem Ld:∀l:aD,sortedS l=true->l.Pairwise λa b=>leS a b=true
 |[],_=>.nil
 |x::r,h=>.cons (Di r x h).1 (Di r x h).2
theorem Le{l:aD}(p:l.Perm ss)(h:sortedS l=true):l=DN ss:=
 m9 (λa b _ _=>Qd a b) (Ld l h) (List.pairwise_mergeSort Qc TB ss) (p.trans (kG ss leS).symm)
theorem UX:∀{vs:List aa} {xs:aD},jB vs xs->Vals (xs.map V.str) vs
 |_,_,.nil=>.nil
 |_,_,.cons x t h=>.cons ⟨t,rfl⟩ (UX h)
section
variable{X:Cx}{G:Bg}{wv:cF}{σ:St}{H:Hp}{s:ae}
theorem Fu:∀xs:aD,tL G H (xs.map D.str) (xs.map V.str)
 |[]=>uj
 |x::xs=>uk (xW x) (Fu xs)
end
end L4
namespace L4
open PySem PySem.Spec PySem.Calls PyProof.Rows PySem.W L2 L3
theorem ym{α β:Type}{c:Nat->Nat->Bool}{f:α->KasT β}:∀t:KasT α,uV c (t.bind f)=uV c (f (uV c t))
 |.ret a=>rfl
 |.ask i j k=>ym (k (c i j))
structure Sto(c:Nat->Nat->Bool)(n:Nat):Prop where
 tr:∀i j k,i<n->j<n->k<n->c i j=true->c j k=true->c i k=true
 tot:∀i j,i<n->j<n->i≠j->c i j=false->c j i=true
def Asc(c:Nat->Nat->Bool)(p:Array Nat)(k:Nat):Prop:=∀i j,i<j->j<k->c (p.getD i 0) (p.getD j 0)=true
def Dsc(c:Nat->Nat->Bool)(p:Array Nat)(k:Nat):Prop:=∀i j,i<j->j<k->c (p.getD j 0) (p.getD i 0)=true
theorem DO{p:Array Nat}(i:Nat):p.getD i 0=p[i]?.getD 0:=eS ..
theorem uH.size(h:uH n p):p.size=n:=by have:=h.length_eq;rw[cI,bw]at this;exact this
theorem uH.ne(h:uH n p)(hi:i<n)(hj:j<n)(e:i≠j):p.getD i 0≠p.getD j 0:=by
 have nd:p.toList.Nodup:=h.nodup_iff.mpr lr;have hs:=h.size;rw[DO,DO,cQ (by omega),cQ (by omega)];have pw:=iw.mp nd;intro z;rcases jI i j with y|y|y
 ·exact pw i j (by rw[bw];omega) (by rw[bw];omega) y (by simpa using z)
 ·exact e y
 ·exact pw j i (by rw[bw];omega) (by rw[bw];omega) y (by simpa using z.symm)
section
variable{c:Nat->Nat->Bool}{n:Nat}(o:Sto c n)(hn:0<n)
include o hn
theorem Asc.snoc{p:Array Nat}(h:uH n p){k:Nat}(h1:1<=k)(hk:k<n)(a:Asc c p k)(e:c (p.getD (k - 1) 0) (p.getD k 0)=true):Asc c p (k+1):=λi j hij hj=>by
 by_cases hjk:j=k
 ·subst hjk;by_cases hi:i=j - 1
  ·rw[hi];exact e
  ·exact o.tr _ _ _ (h.getD hn _) (h.getD hn _) (h.getD hn _) (a i (j - 1) (by omega) (by omega)) e
 ·exact a i j hij (by omega)
theorem Dsc.snoc{p:Array Nat}(h:uH n p){k:Nat}(h1:1<=k)(hk:k<n)(a:Dsc c p k)(e:c (p.getD k 0) (p.getD (k - 1) 0)=true):Dsc c p (k+1):=λi j hij hj=>by
 by_cases hjk:j=k
 ·subst hjk;by_cases hi:i=j - 1
  ·rw[hi];exact e
  ·exact o.tr _ _ _ (h.getD hn _) (h.getD hn _) (h.getD hn _) e (a i (j - 1) (by omega) (by omega))
 ·exact a i j hij (by omega)
theorem Ib(h:uH n p):∀f k,1<=k->k+f=n->Asc c p k->k<=uV c (dt p f k)/\uV c (dt p f k)<=n/\Asc c p (uV c (dt p f k))/\(uV c (dt p f k)<n->c (p.getD (uV c (dt p f k)) 0) (p.getD (uV c (dt p f k) - 1) 0)=true)
 |0,k,h1,e,a=>⟨ay _,by show k<=n;omega,a,λz=>aq z (by show ¬k<n;omega)⟩
 |f+1,k,h1,e,a=>by
  have er:uV c (dt p (f+1) k)=uV c (if c (p.getD k 0) (p.getD (k - 1) 0)=true then .ret k else dt p f (k+1)):=rfl;rw[er];cases q:c (p.getD k 0) (p.getD (k - 1) 0)with
  |true=>rw[ah rfl];exact⟨ay _,by show k<=n;omega,a,λ_=>q⟩
  |false=>rw[ai (by decide)];have q':=o.tot _ _ (h.getD hn _) (h.getD hn _) (h.ne (by omega) (by omega) (by omega)) q;obtain⟨g1,g2⟩:=Ib h f (k+1) (by omega) (by omega) (Asc.snoc o hn h h1 (by omega) a q');exact⟨by omega,g2⟩
theorem JW(h:uH n p):∀f k,1<=k->k+f=n->Dsc c p k->∃m,uV c (il f p k 0)=(p,m,0)/\k<=m/\m<=n/\Dsc c p m
 |0,k,h1,e,a=>⟨k,rfl,ay _,by omega,a⟩
 |f+1,k,h1,e,a=>by
  have er:uV c (il (f+1) p k 0)=uV c (if c (p.getD k 0) (p.getD (k - 1) 0)=true then (if 0 > 0 then il f (dW p (k - (0+1)) k) (k+1) 0 else il f p (k+1) 0)else .ask (p.getD (k - 1) 0) (p.getD k 0) λd=>if d=true then .ret (p,k,0)else il f p (k+1) (0+1)):=rfl;rw[er];cases q:c (p.getD k 0) (p.getD (k - 1) 0)with
  |true=>rw[ah rfl,ai (by decide)];obtain⟨m,g1,g2,g3,g4⟩:=JW h f (k+1) (by omega) (by omega) (Dsc.snoc o hn h h1 (by omega) a q);exact⟨m,g1,by omega,g3,g4⟩
  |false=>rw[ai (by decide)];have q':=o.tot _ _ (h.getD hn _) (h.getD hn _) (h.ne (by omega) (by omega) (by omega)) q;refine⟨k,?_,ay _,by omega,a⟩;show uV c (if c (p.getD (k - 1) 0) (p.getD k 0)=true then _ else _)=_;rw[ah q'];rfl
theorem TC(h:uH n p)(hk:k<=n)(d:Dsc c p k):Asc c (dW p 0 k) k:=λi j hij hj=>by
 have hs:=h.size;have e:∀t,t<k->(dW p 0 k).getD t 0=p.getD (k - 1 - t) 0:=λt ht=>by rw[DO,DO];unfold dW;rw[getElem?_mirror_all (by omega),ah ⟨bA _,ht⟩,jS]
 rw[e i (by omega),e j hj];exact d _ _ (by omega) (by omega)
theorem Qe(h:uH n p)(h1:1<=k)(hk:k<=n)(d:Dsc c p k):1<=(uV c (gb k n p)).1/\(uV c (gb k n p)).1<=n/\Asc c (uV c (gb k n p)).2 (uV c (gb k n p)).1:=by unfold gb;rw[ym];obtain⟨g1,g2,g3,_⟩:=Ib o hn (h.rev 0 k) (n - k) k h1 (by omega) (TC o hn h hk d);exact⟨by show 1<=uV c (dt (dW p 0 k) (n - k) k);omega,g2,g3⟩
theorem Ie(h:uH n p)(h1:1<=k)(hk:k+1<=n)(d:Dsc c p (k+1)):1<=(uV c (fD k n p)).1/\(uV c (fD k n p)).1<=n/\Asc c (uV c (fD k n p)).2 (uV c (fD k n p)).1:=by unfold fD;rw[ym];obtain⟨m,g1,g2,g3,g4⟩:=JW o hn h (n - (k+1)) (k+1) (by omega) (by omega) d;rw[g1];show 1<=(uV c (if 0 > 0 then _ else gb m n p)).1/\_;rw[ai (by decide)];exact Qe o hn h (by omega) g3 g4
theorem NS(h:uH n p):1<=(uV c (eL n p)).1/\(uV c (eL n p)).1<=n/\Asc c (uV c (eL n p)).2 (uV c (eL n p)).1:=by
 unfold eL;rw[ym];obtain⟨g1,g2,g3,g4⟩:=Ib o hn h (n - 1) 1 (ay _) (by omega) (λi j hij hj=>by omega);generalize uV c (dt p (n - 1) 1)=m at g1 g2 g3 g4;by_cases e:m=n
 ·rw[ah (by rw[beq_iff_eq];exact e)];exact⟨g1,g2,g3⟩
 ·rw[ai (by rw[beq_iff_eq];exact e)];by_cases e1:m > 1
  ·rw[ah e1];have er:uV c (.ask (p.getD 0 0) (p.getD (m - 1) 0) λb=>if b=true then .ret (m,p)else fD m n (dW p 0 m))=uV c (if c (p.getD 0 0) (p.getD (m - 1) 0)=true then .ret (m,p)else fD m n (dW p 0 m)):=rfl;rw[er,ah (g3 0 (m - 1) (by omega) (by omega))];exact⟨g1,g2,g3⟩
  ·rw[ai e1];have e2:m=1:=by omega
   subst e2;refine Ie o hn h (ay _) (by omega) λi j hij hj=>?_;have:i=0/\j=1:=by omega
   obtain⟨rfl,rfl⟩:=this;exact g4 (by omega)
theorem Dk(h:uH n p)(hk:k<n)(a:Asc c p k):∀f l r,l<=r->r<=k->r - l<=f->(∀i,i<l->c (p.getD i 0) (p.getD k 0)=true)->(∀i,r<=i->i<k->c (p.getD k 0) (p.getD i 0)=true)->
  uV c (ie p k f l r)<=k/\(∀i,i<uV c (ie p k f l r)->c (p.getD i 0) (p.getD k 0)=true)/\∀i,uV c (ie p k f l r)<=i->i<k->c (p.getD k 0) (p.getD i 0)=true
 |0,l,r,h1,h2,h3,h4,h5=>⟨by show l<=k;omega,h4,λi hi=>h5 i (by have:l<=i:=hi;omega)⟩
 |f+1,l,r,h1,h2,h3,h4,h5=>by
  unfold ie;by_cases e:l >= r
  ·rw[ah e];exact⟨by show l<=k;omega,h4,λi hi=>h5 i (by have:l<=i:=hi;omega)⟩
  ·rw[ai e];show uV c (if c (p.getD k 0) (p.getD ((l+r) / 2) 0)=true then _ else _)<=k/\(∀i,i<uV c (if c (p.getD k 0) (p.getD ((l+r) / 2) 0)=true then _ else _)->_)/\∀i,uV c (if c (p.getD k 0) (p.getD ((l+r) / 2) 0)=true then _ else _)<=i->_;have hm:(l+r) / 2<r:=by omega
   have hm':l<=(l+r) / 2:=by omega
   generalize (l+r) / 2=m at hm hm';cases q:c (p.getD k 0) (p.getD m 0)with
   |true=>
    rw[ah rfl];refine Dk h hk a f l m hm' (by omega) (by omega) h4 λi hi hik=>?_;by_cases z:i=m
    ·rw[z];exact q
    ·exact o.tr _ _ _ (h.getD hn _) (h.getD hn _) (h.getD hn _) q (a m i (by omega) hik)
   |false=>
    rw[ai (by decide)];have q':=o.tot _ _ (h.getD hn _) (h.getD hn _) (h.ne hk (by omega) (by omega)) q;refine Dk h hk a f (m+1) r (by omega) h2 (by omega) (λi hi=>?_) h5;by_cases z:i=m
    ·rw[z];exact q'
    ·exact o.tr _ _ _ (h.getD hn _) (h.getD hn _) (h.getD hn _) (a i m (by omega) (by omega)) q'
theorem TF(h:uH n p)(hk:k<n)(hm:m<=k)(a:Asc c p k)(h4:∀i,i<m->c (p.getD i 0) (p.getD k 0)=true)(h5:∀i,m<=i->i<k->c (p.getD k 0) (p.getD i 0)=true):Asc c (bubble p k (k - m)) (k+1):=λi j hij hj=>by
 have hs:=h.size;have e:∀t,(bubble p k (k - m)).getD t 0=if t=m then p.getD k 0 else if m<t/\t<=k then p.getD (t - 1) 0 else p.getD t 0:=λt=>by
  rw[DO,getElem?_bubble (by omega) _ (by omega),show k - (k - m)=m by omega]
  repeat' split
  all_goals rw[DO]
 rw[e,e];by_cases i1:i=m
 ·rw[ah i1,ai (by omega),ah (by omega)];exact h5 _ (by omega) (by omega)
 ·rw[ai i1];by_cases j1:j=m
  ·rw[ah j1,ai (by omega)];exact h4 _ (by omega)
  ·rw[ai j1];by_cases i2:m<i/\i<=k
   ·rw[ah i2,ah (by omega)];exact a _ _ (by omega) (by omega)
   ·rw[ai i2];by_cases j2:m<j/\j<=k
    ·rw[ah j2];exact a _ _ (by omega) (by omega)
    ·rw[ai j2];exact a _ _ (by omega) (by omega)
theorem Mp:∀f (p:Array Nat) k,uH n p->1<=k->k+f=n->Asc c p k->Asc c (uV c (kas_bin f p k)) n
 |0,p,k,h,h1,e,a=>by have:k=n:=e;subst this;exact a
 |f+1,p,k,h,h1,e,a=>by unfold kas_bin;rw[ym];obtain⟨g1,g2,g3⟩:=Dk o hn h (k:=k) (by omega) a k 0 k (bA _) (ay _) (by omega) (λi hi=>by omega) (λi hi hik=>by omega);exact Mp f _ (k+1) (h.bub _ _) (by omega) (by omega) (TF o hn h (by omega) g1 a g2 g3)
theorem Qf:Asc c (uV c (gh n)) n:=by
 unfold gh;rw[ym];have h0:uH n (iV (aQ n)):=by unfold uH;exact lI _
 obtain⟨g1,g2,g3⟩:=NS o hn h0;have hp:uH n (uV c (eL n (iV (aQ n)))).2:=(GY hn h0 n).run c _;by_cases e:(uV c (eL n (iV (aQ n)))).1<n
 ·rw[ah e,Nat.max_eq_left g1];exact Mp o hn _ _ _ hp g1 (by omega) g3
 ·rw[ai e];have e2:(uV c (eL n (iV (aQ n)))).1=n:=by omega
  rw[e2]at g3;exact g3
end
section
variable{X:Cx}{G:Bg}{wv:cF}{σ:St}{H:Hp}{s:ae}
def Tup2(K:au)(H:Hp)(y:V)(k:aD):Prop:=∃a p q,y=.ref a/\k=[p,q]/\SqT K H a [.str p,.str q]
end
section
variable{prog:aH}{w:aA}{A:aI}{s:ae}
def It2(h:Heap)(its:List aa)(ks:List aD):Prop:=∀i,i<its.length->∃a p q t v,its.getD i Value.none=.ref a/\ks.getD i []=[p,q]/\fH h a #[.str p t,.str q v]/\its[i]?=some (.ref a)
theorem NT(item:It2 s.heap its ks)(h1:0<its.length)(hC:C (tuples' true) s):aj (model prog w) A (keyKind' its.toArray) C (λ_ _=>False) s:=by
 have tups:∀(l:List aa),(∀v∈l,∃i,i<its.length/\its[i]?=some v)->∃fs,KatTups s.heap l fs/\fs.length=l.length/\∀f∈fs,∃(x:Str) (t:Tok),f=.str x t:=λl=>by
  induction l with
  |nil=>exact λ_=>⟨[],KatTups.nil,rfl,λf hf=>by cases hf⟩
  |cons v l ih=>
   intro hv;obtain⟨fs,f1,f2,f3⟩:=ih λw hw=>hv w (.tail _ hw);obtain⟨i,hi,ei⟩:=hv v (.head _);obtain⟨a,p,q,t,w,_,_,⟨o,t1,t2,n,t3⟩,t5⟩:=item i hi;rw[ei]at t5;cases t5;refine⟨.str p t::fs,KatTups.cons t1 t2 t3 (by simp) f1,by rw[aM,aM,f2],λf hf=>?_⟩;rcases aN.mp hf with rfl|hf
   ·exact⟨p,t,rfl⟩
   ·exact f3 f hf
 obtain⟨fs,f1,f2,f3⟩:=tups its λv hv=>by obtain⟨i,hi,e⟩:=eB.mp hv;exact⟨i,hi,by rw[aJ hi,e]⟩
 refine kat_kind (T:=.type "str") f1 (by omega) (λv hv=>?_) (by decide) ?_
 ·obtain⟨x,t,rfl⟩:=f3 v hv;exact .now
 ·rw[show (Value.type "str" != Value.type "tuple")=true by decide];exact hC
theorem Qg(item:It2 s.heap its ks)(hij:i<its.length/\j<its.length)(hC:C (xp (ks.getD i []) (ks.getD j [])) s):kas_ask prog w A (tuples' true) its i j C s:=by
 obtain⟨a1,p1,q1,t1,v1,e1,k1,⟨o1,g1,c1,n1,d1⟩,_⟩:=item i hij.1;obtain⟨a2,p2,q2,t2,v2,e2,k2,⟨o2,g2,c2,n2,d2⟩,_⟩:=item j hij.2;unfold kas_ask;rw[e1,e2];rw[k1,k2]at hC;refine kat_lt g1 d1 g2 d2 ?_;show KatLex _ _ _ _ _ _ [(Value.str p1 t1,Value.str p2 t2),(Value.str q1 v1,Value.str q2 v2)] 0 _;refine kat_cons (kJ p1 t1 p2 t2 _ _ _ _ ?_);unfold xp at hC;by_cases hpp:p1=p2
 ·subst hpp;rw[ah rfl]at hC;rw[beq_self_eq_true];refine kat_yes (kat_cons (kJ q1 v1 q2 v2 _ _ _ _ ?_));unfold xp at hC;by_cases hqq:q1=q2
  ·subst hqq;rw[ah rfl]at hC;rw[beq_self_eq_true];exact kat_yes (kat_nil hC)
  ·rw[ai hqq]at hC;rw[beq_false_of_ne hqq];exact kat_no (kat_one _ _ (sP hC))
 ·rw[ai hpp]at hC;rw[beq_false_of_ne hpp];exact kat_no (oneLt_str hC)
end
def TH:D->Option aD
 |.tup [.str p,.str q]=>some [p,q]
 |_=>none
def Bp:aS->Option (List aD)
 |[]=>some []
 |d::ds=>match TH d,Bp ds with
  |some k,some ks=>some (k::ks)
  |_,_=>none
section
variable{X:Cx}{G:Bg}{H:Hp}
theorem Qh(r:Rep G H d v)(e:TH d=some k):Tup2 G.K H v k:=by
 unfold TH at e;split at e
 ·rename_i p q;cases e;unfold Rep at r;obtain⟨a,xs,rfl,h1,h2⟩:=r;unfold tL at h2;obtain⟨v1,r1,rfl,q1,q2⟩:=h2;unfold tL at q2;obtain⟨v2,r2,rfl,q3,q4⟩:=q2;unfold tL at q4;unfold Rep at q1 q3;subst q4 q1 q3;exact⟨a,p,q,rfl,rfl,h1⟩
 ·cases e
end
theorem Qi(h:ltS a b=true)(h':ltS b c=true):ltS a c=true:=aY (List.lt_trans (bK h) (bK h'))
theorem Mq(e:a≠b)(h:ltS a b=false):ltS b a=true:=by have h1:b.cps.toList<=a.cps.toList:=of_decide_eq_false h;refine aY (Decidable.byContradiction λz=>e ?_);have h2:a.cps.toList<=b.cps.toList:=z;have q:=oX h2 h1;cases a with|mk a=>cases b with|mk b=>cases a;cases b;simp only at q;rw[q]
theorem Mr(a:Str):ltS a a=false:=aT (List.lt_irrefl _)
theorem Lf(p q p' q':Str):xp [p,q] [p',q']=if p=p' then (if q=q' then false else ltS q q')else ltS p p':=by unfold xp;unfold xp;unfold xp;rfl
theorem Qj(h:xp [p,q] [p',q']=true)(h':xp [p',q'] [p2,q2]=true):xp [p,q] [p2,q2]=true:=by
 rw[Lf]at h h' ⊢;by_cases e1:p=p'
 ·subst e1;rw[ah rfl]at h;by_cases e2:p=p2
  ·subst e2;rw[ah rfl]at h' ⊢;split at h
   ·cases h
   ·split at h'
    ·cases h'
    ·rename_i n1 n2;have:=Qi h h';rw[ai (λz=>by subst z;rw[Mr]at this;cases this)];exact this
  ·rw[ai e2]at h' ⊢;exact h'
 ·rw[ai e1]at h;by_cases e2:p'=p2
  ·subst e2;rw[ai e1];exact h
  ·rw[ai e2]at h';have:=Qi h h';rw[ai (λz=>by subst z;rw[Mr]at this;cases this)];exact this
theorem TJ(e:([p,q]:aD)≠[p',q'])(h:xp [p,q] [p',q']=false):xp [p',q'] [p,q]=true:=by
 rw[Lf]at h ⊢;by_cases e1:p=p'
 ·subst e1;rw[ah rfl]at h ⊢;by_cases e2:q=q'
  ·subst e2;exact aq rfl e
  ·rw[ai e2]at h;rw[ai (cD e2)];exact Mq e2 h
 ·rw[ai e1]at h;rw[ai (cD e1)];exact Mq e1 h
theorem TL(p q:Str):xp [p,q] [p,q]=false:=by rw[Lf,ah rfl,ah rfl]
theorem sto2{ks:List aD}(nd:ks.Nodup)(h2:∀k∈ks,∃p q,k=[p,q]):Sto (λi j=>xp (ks.getD i []) (ks.getD j [])) ks.length where
 tr:=λi j k hi hj hk h h'=>by rw[cj,aJ hi]at h ⊢;rw[cj,aJ hj]at h h';rw[cj,aJ hk]at h' ⊢;obtain⟨p1,q1,e1⟩:=h2 _ (cv hi);obtain⟨p2,q2,e2⟩:=h2 _ (cv hj);obtain⟨p3,q3,e3⟩:=h2 _ (cv hk);simp only[lh]at h h' ⊢;rw[e1,e2]at h;rw[e2,e3]at h';rw[e1,e3];exact Qj h h'
 tot:=λi j hi hj ne h=>by
  have gi:ks.getD i []=ks[i]:=by rw[cj,aJ hi];rfl
  have gj:ks.getD j []=ks[j]:=by rw[cj,aJ hj];rfl
  rw[gi,gj]at h;rw[gi,gj];have nq:ks[i]≠ks[j]:=λz=>by
   have pw:=iw.mp nd;rcases jI i j with y|y|y
   ·exact pw i j hi hj y z
   ·exact ne y
   ·exact pw j i hj hi y z.symm
  obtain⟨p1,q1,e1⟩:=h2 _ (cv hi);obtain⟨p2,q2,e2⟩:=h2 _ (cv hj);rw[e1,e2]at h nq;rw[e1,e2];exact TJ nq h
theorem Qk{ks:List aD}(nd:ks.Nodup)(h2:∀k∈ks,∃p q,k=[p,q])(h0:0<ks.length):((HX (λi j=>xp (ks.getD i []) (ks.getD j [])) ks.length).map λi=>ks.getD i []).Pairwise λa b=>xp a b=true:=by have a:=Qf (sto2 nd h2) h0;have hs:=(B9 h0).run (λi j=>xp (ks.getD i []) (ks.getD j [])) (gh ks.length);have sz:=uH.size hs;rw[oJ,iw];intro i j hi hj hij;unfold HX at hi hj ⊢;rw[bw]at hi hj;have:=a i j hij (by omega);rw[DO,DO,cQ hi,cQ hj]at this;simpa using this
theorem Ql{ks:List aD}(p:ks.Perm ks')(nd:ks.Nodup)(h2:∀k∈ks,∃p q,k=[p,q])(h0:0<ks.length):
  (HX (λi j=>xp (ks.getD i []) (ks.getD j [])) ks.length).map (λi=>ks.getD i [])=(HX (λi j=>xp (ks'.getD i []) (ks'.getD j [])) ks'.length).map λi=>ks'.getD i []:=by
 have nd':ks'.Nodup:=p.nodup_iff.mp nd;have h2':∀k∈ks',∃p q,k=[p,q]:=λk hk=>h2 k (p.mem_iff.mpr hk);have h0':0<ks'.length:=by rw[<-p.length_eq];exact h0
 have gr:∀l:List aD,(aQ l.length).map (λi=>l.getD i [])=l:=λl=>by
  apply List.ext_getElem
  ·rw[af,cI]
  ·intro i a b;rw[List.getElem_map,oq,cj,aJ b];rfl
 have pm:∀l:List aD,0<l.length->((HX (λi j=>xp (l.getD i []) (l.getD j [])) l.length).map λi=>l.getD i []).Perm l:=λl hl=>by have:=(zr (λi j=>xp (l.getD i []) (l.getD j [])) hl).map λi=>l.getD i [];rw[gr]at this;exact this
 refine m9 (le:=λa b=>xp a b=true) (λa b ha hb h h'=>?_) (Qk nd h2 h0) (Qk nd' h2' h0') ((pm ks h0).trans (p.trans (pm ks' h0').symm));obtain⟨p1,q1,rfl⟩:=h2 a ((pm ks h0).mem_iff.mp ha);obtain⟨p2,q2,rfl⟩:=h2' b ((pm ks' h0').mem_iff.mp hb);have:=Qj h h';rw[TL]at this;cases this
end L4
namespace L4
open PySem PySem.Spec PyProof.Rows L2 L3
section
variable{X:Cx}{G:Bg}
def rDCp:bG->Hp->VK->Prop:=λxs H Q=>∃(a:Addr) (o:Obj) (kvs:List (Key×V)),xs=[.ref a]/\H a=some (.frz o (.dK kvs))/\∀p,H p=none->Q (.ref p) (upd H p (.dK kvs))
theorem Lg:vq X (.type "dict") rDCp:=by intro wv s σ H xs us Q I r h;obtain⟨a,o,kvs,rfl,ha,q⟩:=h;obtain⟨u,rfl,ru⟩:=vals1 r;cases ru;obtain⟨_,z,y,vs,rv,d⟩:=I.hok a _ ha;have hl:kvs.length=vs.length:=rv.length;refine kt_call_dict y d (by omega) λh' d' sb=>?_;refine⟨.ref s.heap.objs.size,_,I.laid (a:=s.heap.objs.size) (o:=.dK kvs) (t':=s.toks) (λb w e=>sb.extBut _ _ (λe'=>aq (aK e) (by rw[e'];exact dE _)) (aC _ e)) (ay _) ⟨z,?_,vs,rv,d'⟩,rfl,q _ (I.hok.fresh (ay _))⟩;exact beq_eq_false_iff_ne.mpr (dG I.big)
def TM(i:Nat)(f:FE):FS:=λρ=>match f ρ with
 |some (.dic ks ds,ρ1)=>some (.nx (ρ1.set i (.dk ks ds)))
 |_=>none
theorem TN{st:Stmt}(h:PS X st (BN (tCB rDCp (tFA G (tD f tY))) (yO i))):PS X st (tFS G (TM i f)):=PS.weak h λE σ H hh=>by
 obtain⟨F,ρ,H0,o,R,e,k,k2⟩:=hh;unfold TM at e;split at e
 ·rename_i ks ds ρ1 e1;cases e;refine⟨F,ρ,H0,[.dic ks ds],ρ1,R,by unfold tD;rw[e1];rfl,λvs H1 H1' s R' rs=>?_⟩;unfold tL at rs;obtain⟨v,r0,rfl,rv,rn⟩:=rs;unfold tL at rn;subst rn;unfold Rep at rv;obtain⟨a,ob,xs,rfl,h1,h2,h3⟩:=rv;refine⟨a,ob,ks.zip xs,rfl,R'.sub _ _ h1,λp hp=>?_⟩;have R1:=R'.newOwn hp (.dK (ks.zip xs));refine k _ _ _ s (R1.set (s:=.dk ks ds) ⟨p,xs,rfl,tP,R'.h0none hp,R'.bNone hp,h2,h3⟩ λ_ a ea j t _ ej to=>?_);cases ea;exact R'.apart hp j t ej to
 ·cases e
end
structure Bz where
 P:aH
 w:aA
 mg:Str->Option aa
 base:Heap
 G:Bg
structure ZE(X:Cx)(B:Bz)(e:Expr)(f:FE):Prop where p:PE X e (tF B.G f)
structure ZN(X:Cx)(B:Bz)(e:Expr)(f:FA):Prop where p:PE X e (tFN B.G f)
structure ZT(X:Cx)(B:Bz)(e:Expr)(f:FT):Prop where p:PT X e (tFT B.G f)
structure ZW(X:Cx)(B:Bz)(e:Expr)(f:FT):Prop where p:PW X e (tFT B.G f)
structure ZF(X:Cx)(B:Bz)(e:List Expr)(f:FT):Prop where p:PIf X e (tFT B.G f)
structure ZA(X:Cx)(B:Bz)(e:List Expr)(f:FA):Prop where p:PA X e (tFA B.G f)
structure ZM(X:Cx)(B:Bz)(e:List Expr)(i:Nat)(f:FA):Prop where p:PA X e (La B.G i f)
structure ZS(X:Cx)(B:Bz)(e:Stmt)(f:FS):Prop where p:PS X e (tFS B.G f)
structure ZB(X:Cx)(B:Bz)(e:List Stmt)(f:FS):Prop where p:PSs X e (tFS B.G f)
structure ZI(X:Cx)(B:Bz)(tg e:Expr)(f:FA):Prop where p:PI X tg e (tFI B.G f)
structure ZO(X:Cx)(B:Bz)(e:Option Expr)(f:FO):Prop where p:PO X e (tFO B.G f)
structure ZG(X:Cx)(B:Bz)(e:Expr)(n:Nat)(f:FG):Prop where p:PG X e (tFG B.G n f)
structure ZH(X:Cx)(B:Bz)(e:List Expr)(n:Nat)(f:aS->bb->Option bb):Prop where p:PGs X e (OZ B.G n f)
structure ZK(X:Cx)(e:Option Expr)(i:Option Int):Prop where p:PO X e (tO i)
structure ZP(X:Cx)(B:Bz)(pos:Pos)(ks:List (Option Expr))(vs:List Expr)(l:List (Str×FE)):Prop where p:PPs X pos ks vs (P3 B.G l)
structure ZV(X:Cx)(e:Expr)(i:Nat):Prop where p:PE X e (zk i)
abbrev Gz(X:Cx)(x:Str):Prop:=X.env.kindOf x=some .globalImplicit
abbrev Dz(x:Str):Prop:=(x==("__debug__" : Str))=false
abbrev Nz(x:Str):Prop:=(decide (x≠"__name__")&&!(x==("__debug__" : Str)))=true
abbrev Sz(X:Cx)(e:Expr)(es:List Expr):Prop:=aw (e::es) X.env=(false,eval e X.env)::aw es X.env
abbrev S1(X:Cx)(e:Expr):Prop:=aw [e] X.env=[(false,eval e X.env)]
abbrev Lz(X:Cx)(pos:Pos)(es:List Expr):Prop:=(bt pos (aw es X.env)).any (·.1)=false
abbrev Wz(X:Cx)(e o:Expr)(pos:Pos):Prop:=dR e (some o) pos.line X.env=pure false
abbrev Az(X:Cx)(o:Expr)(m:Str):Prop:=fz o m X.env (eval o X.env)=eval o X.env
abbrev Ez(p pos:Pos):Prop:=(p.endLine==pos.line)=true
abbrev Iz(e:Expr):Prop:=(λo i=>subscripted e false o i)=λo i=>operate [o,i] (getItem o i)
abbrev Fz(X:Cx)(e:Expr):Prop:=(λx=>iI e X.env x)=λx=>pure x
class Cz(X:Cx)(B:outParam Bz)(k:outParam Nat):Prop where
 P:X.prog=B.P
 w:X.w=B.w
 K:X.K=B.G.K
 mg:X.mg=B.mg
 b:X.base=B.base
 c:X.calm=true
 r:u9 k X.A
class Yb(B:Bz):Prop where y:Yw B.P B.w B.mg B.base B.G
class Df(B:Bz)(j:outParam Nat)(x:Str)(sp:Sp):Prop where p:∃ps,zq B.P B.w B.G.K B.mg B.base j x ps sp
class Kf(B:Bz)(j:outParam Nat)(x:Str)(c:Nat)(g:aS->Option (aD×aS))(dds:aS):Prop where
 p:∃ps,HS B.G B.P B.w B.mg B.base j x c ps (dds.map vD) g
 f:dds.all v9=true
class Mf(B:Bz)(j:outParam Nat)(m:Str)(g:Nat->Option (aS->Option D)):Prop where p:∀c h,g c=some h->zN B.G B.P B.w B.mg B.base j m c h
class Ff(B:Bz)(ok:Nat->Bool)(f:Str):Prop where p:∀c,ok c=true->Cls B.G.K (B.G.ca c)/\yt B.G.K (B.G.ca c) f
class Af(B:Bz)(c:Nat)(xs:outParam aD):Prop where p:CF B.G.K (B.G.ca c) xs
class Nb(B:Bz)(x:Str):Prop where p:B.mg x=none
class Co(B:Bz)(x:Str)(d:D):Prop where p:A6 B.G B.mg x d
class Ic(B:Bz)(x:Str)(t:Ty->Option Bool):Prop where p:∃c,K0 B.G c t/\B.mg x=some (.ref (B.G.ca c))
class Ij(B:Bz)(n:Nat):Prop where p:∀j k,j<n->k<n->B.G.ca j=B.G.ca k->j=k
class OpC(op:Operator)(g:D->D->Option D):Prop where p:∀(X:Cx) (G:Bg),∃r,OpR X (cO op) r/\OpD G r g
instance in1:OpC .Mod wa:=⟨λ_ _=>⟨_,VD,Wl⟩⟩
instance in2:OpC .FloorDiv Bn:=⟨λ_ _=>⟨_,RJ,Wm⟩⟩
instance in3:OpC .Mult xK:=⟨λ_ _=>⟨_,VC,Wk⟩⟩
instance in4:OpC .Sub Jz:=⟨λ_ _=>⟨_,VB,Wj⟩⟩
instance in5:OpC .Pow DC:=⟨λ_ _=>⟨_,VE,Wn⟩⟩
instance in6:OpC .Add uP:=⟨λ_ _=>⟨_,VA,Wi⟩⟩
instance in8:OpC .Mult JH:=⟨λ_ _=>⟨_,KQ,Tt⟩⟩
class CmC(op:CmpOp)(g:D->D->Option D):Prop where p:∀(X:Cx) (G:Bg),X.K=G.K->X.A.units+64<cLine->∃r,OpR X (br op) r/\OpD G r g
instance in9:CmC .Eq (dEq false):=⟨λ_ _ h u=>⟨_,Ws u h,aae⟩⟩
instance in10:CmC .NotEq (dEq true):=⟨λ_ _ h u=>⟨_,Wt u h,aaf⟩⟩
instance in11:CmC .In (dIn false):=⟨λ_ _ h _=>⟨_,Wu h,UR⟩⟩
instance Re:CmC .NotIn (dIn true):=⟨λ_ _ h _=>⟨_,NA h,UR⟩⟩
instance in13:CmC .Is Bi:=⟨λ_ _ _ _=>⟨_,VF,Wp⟩⟩
instance in14:CmC .IsNot L1:=⟨λ_ _ _ _=>⟨_,RK,SR⟩⟩
instance in16:CmC .Lt Bh:=⟨λ_ _ _ _=>⟨_,Zu,aaa⟩⟩
instance in17:CmC .LtE yZ:=⟨λ_ _ _ _=>⟨_,Zv,aab⟩⟩
instance in18:CmC .Gt Fb:=⟨λ_ _ _ _=>⟨_,Zw,aac⟩⟩
instance in19:CmC .GtE Wh:=⟨λ_ _ _ _=>⟨_,Zx,aad⟩⟩
instance in20:CmC .LtE Pd:=⟨λ_ _ _ _=>⟨_,Np,Wo⟩⟩
class B1(x:Str)(g:D->Option D):Prop where p:∀(X:Cx) (G:Bg),X.K=G.K->X.calm=true->∃(id:String) (r:bG->Hp->VK->Prop),vq X (.builtin id) r/\GU G r g/\dF x=some (.builtin id)
instance in21:B1 "len" vw:=⟨λ_ _ h _=>⟨_,_,NC h,Wv,pG⟩⟩
instance in22:B1 "all" yL:=⟨λ_ _ h c=>⟨_,_,ND c h,Wx,boot_all⟩⟩
instance in23:B1 "any" Fj:=⟨λ_ _ h c=>⟨_,_,NK c h,WG,boot_any⟩⟩
class KtC(x:Str)(T:outParam String):Prop where p:(∀(X:Cx) (G:Bg) y b,vL T y=some b->c8 X.K (y.val G) (.type T)=some b)/\dF x=some (.type T)
instance in24:KtC "str" "str" := ⟨λ_ _=>SZ,Pv.boot_str⟩
instance in25:KtC "int" "int" := ⟨λ_ _=>Tj,qv⟩
instance in26:KtC "bool" "bool" := ⟨λ_ _=>PZ,Pv.boot_bool⟩
instance in27:KtC "list" "list" := ⟨λ_ _=>Pq,qf⟩
instance in28:KtC "tuple" "tuple" := ⟨λ_ _=>kit_tuple,pX⟩
theorem UY:∀{dds:aS},dds.all v9=true->tL G H dds (dds.map vD)
 |[],_=>uj
 |d::ds,h=>by rw[gY,aZ]at h;exact uk (BX h.1 H) (UY h.2)
theorem eqI{α:Sort u}{a b:α}(h:a=b):a=b:=h
def sees(X:Cx)(i:Nat)(x:Str):Bool:=decide (X.N[i]?=some x)&&(match X.env.scope.names.lookup x with|some .local=>true|some .cell=>true|some .free=>true|_=>false)&&!(x==("__debug__" : Str))&&!(x==("__classdict__" : Str))
def sets(X:Cx)(i:Nat)(x:Str):Bool:=decide X.N.Nodup&&decide (X.N[i]?=some x)&&(match X.env.scope.names.lookup x with|some .local=>true|some .cell=>X.fn x|_=>false)
section
variable{X:Cx}{B:Bz}{k j i n c0:Nat}{x m:Str}{e e' o tg it:Expr}{es:List Expr}{p p2 p3 pos apos:Pos}{f f' f2:FE}{a:FA}{g:D->D->Option D}
theorem pvI(h:sees X i x=true):PE X (.Name x p) (zk i):=by
 unfold sees at h;simp only[aZ,bR,gO]at h;obtain⟨⟨⟨h1,h2⟩,h3⟩,h4⟩:=h;refine pv i h1 ?_ h3 h4;unfold Vis;split at h2
 ·rename_i e;exact .inl e
 ·rename_i e;exact .inr (.inl e)
 ·rename_i e;exact .inr (.inr e)
 ·cases h2
theorem aau(h:sees X i x=true):ZE X B (.Name x p) (cV i):=⟨KR (pvI h)⟩
theorem WU(h:sees X i x=true):ZE X B (.Name x p) (cFz i):=⟨Z9 (pvI h)⟩
theorem TQ(h:sees X i x=true):ZN X B (.Name x p) (O7 i):=⟨SL (pvI h)⟩
theorem Ig(h:sets X i x=true):X.N.Nodup/\X.N[i]?=some x/\L2.Loc X.env.scope x/\(X.fn x=true\/X.env.scope.names.lookup x=some .local):=by
 unfold sets at h;simp only[aZ,bR]at h;obtain⟨⟨h1,h2⟩,h3⟩:=h;unfold L2.Loc;split at h3
 ·rename_i e;exact⟨h1,h2,.inl e,.inr e⟩
 ·rename_i e;exact⟨h1,h2,.inr e,.inl h3⟩
 ·cases h3
theorem pgI(h:sets X i x=true):PG X (.Name x p) (yO i):=by obtain⟨h1,h2,h3,h4⟩:=Ig h;exact LD h1 h2 h3 h4
theorem WV(h:sets X i x=true)(hi:Nat.blt i n=true):ZG X B (.Name x p) n (gN i):=⟨O0 n (pgI h) (Nat.blt_eq.mp hi)⟩
theorem stW(h:sets X i x=true)(he:PE X e te)(hs:Wz X e (.Name x p) pos):PS X (.Assign [.Name x p] e pos) (BN te (yO i)):=by obtain⟨h1,h2,h3,h4⟩:=Ig h;exact Vu h1 h2 h3 he hs h4
theorem WW(h:sets X i x=true)(he:ZE X B e f)(hs:Wz X e (.Name x p) pos):ZS X B (.Assign [.Name x p] e pos) (um i f):=⟨LW (stW h he.p hs)⟩
theorem WX(h:sets X i x=true)(he:ZN X B e a)(hs:Wz X e (.Name x p) pos):ZS X B (.Assign [.Name x p] e pos) (xa i a):=⟨O2 (stW h he.p hs)⟩
theorem WY(h:sets X i x=true)(hs:Wz X (.Dict [] [] p2) (.Name x p) pos):ZS X B (.Assign [.Name x p] (.Dict [] [] p2) pos) (Fi i):=⟨Pw (stW h EV hs)⟩
theorem WZ [O:OpC op g](ha:ZE X B e f)(hb:ZE X B e' f'):ZE X B (.BinOp e op e' pos) (c2 g f f'):=by obtain⟨r,h1,h2⟩:=O.p X B.G;exact⟨Z1 h1 h2 ha.p hb.p⟩
theorem W0 [C:Cz X B k](ha:ZE X B e f)(hb:ZE X B e' f')(hs:Iz e'):ZE X B (.Subscript e e' pos) (c2 dIx f f'):=⟨Z2 (ix_X C.K) aag ha.p hb.p λo i=>congrFun (congrFun hs o) i⟩
theorem TR [C:Cz X B k](h:sees X i x=true)(hb:ZE X B e' f')(hs:Iz e'):ZE X B (.Subscript (.Name x p) e' pos) (Jv i f'):=⟨Wf (UN (OQ B.G.K C.K) (pvI h) hb.p λo i=>congrFun (congrFun hs o) i)⟩
theorem W3 [C:Cz X B k](ha:ZE X B e f)(hb:ZE X B e' f')(hs:Iz e'):ZE X B (.Subscript e e' pos) (c2 vd f f'):=⟨S5 (Jj C.r) ha.p hb.p λo i=>congrFun (congrFun hs o) i⟩
section
variable{op op':CmpOp}{g':D->D->Option D}
theorem W4 [O:CmC op g][C:Cz X B k](ha:ZE X B e f)(hb:ZE X B e' f')(hm:fX op e'=false):ZE X B (.Compare e [op] [e'] pos) (c2 g f f'):=by obtain⟨r,h1,h2⟩:=O.p X B.G C.K C.r.units;exact⟨V6 h1 h2 ha.p hb.p hm⟩
theorem W5 [O:CmC op g][C:Cz X B k](ha:ZE X B e f)(hb:ZE X B e' f')(hm:fX op e'=false):ZT X B (.Compare e [op] [e'] pos) (cT (c2 g f f')):=by obtain⟨r,h1,h2⟩:=O.p X B.G C.K C.r.units;exact⟨Si h1 h2 ha.p hb.p hm⟩
theorem W6 [O:CmC op g][O':CmC op' g'][C:Cz X B k](ha:ZE X B e f)(hb:ZE X B e' f')(hc:ZE X B o f2)(hm:lastMarks [op,op'] [e',o]=false):ZE X B (.Compare e [op,op'] [e',o] pos) (wJ g g' f f' f2):=by obtain⟨r,h1,h2⟩:=O.p X B.G C.K C.r.units;obtain⟨r',h3,h4⟩:=O'.p X B.G C.K C.r.units;exact⟨Pk h1 h3 h2 h4 ha.p hb.p hc.p hm⟩
theorem W7 [O:CmC op g][O':CmC op' g'][C:Cz X B k](ha:ZE X B e f)(hb:ZE X B e' f')(hc:ZE X B o f2)(hm:lastMarks [op,op'] [e',o]=false):ZT X B (.Compare e [op,op'] [e',o] pos) (cT (wJ g g' f f' f2)):=by obtain⟨r,h1,h2⟩:=O.p X B.G C.K C.r.units;obtain⟨r',h3,h4⟩:=O'.p X B.G C.K C.r.units;exact⟨NI h1 h3 h2 h4 ha.p hb.p hc.p hm⟩
end
theorem W8(h:ZE X B e f)(he:(λwhole=>isTrue e X.env whole)=λwhole=>(do let v<-whole;standAt e.pos;holding [v] (truthy v))):ZT X B e (cT f):=⟨Sj h.p λw=>congrFun he w⟩
theorem W9(ha:ZT X B e ft)(hb:ZW X B (.BoolOp .Or (e'::es) pos) fu):ZT X B (.BoolOp .Or (e::e'::es) pos) (xX ft fu):=⟨PW.pt (OU ha.p hb.p)⟩
theorem Xa(ha:ZT X B e ft)(hb:ZW X B (.BoolOp .And (e'::es) pos) fu):ZT X B (.BoolOp .And (e::e'::es) pos) (xI ft fu):=⟨PW.pt (Sn ha.p hb.p)⟩
theorem Xb [C:Cz X B k][Q:Co B x d](hg:Gz X x)(hd:Dz x):ZE X B (.Name x pos) (cC d):=⟨Pn (C.mg▸Q.p) hg hd⟩
theorem Xc [C:Cz X B k][Q:Ff B ok m](he:ZE X B e f)(hb:Az X e m):ZE X B (.Attribute e m pos) (c1 (uh ok m) f):=⟨O4 he.p (C.K▸Q.p) hb⟩
section
variable(hg:Gz X x)(hd:Dz x)(hs:Sz X e es)(hl:Lz X pos es)
include hg hd
theorem dz [C:Cz X B k][Q:Df B j x sp]:∃ps,zq X.prog X.w X.K X.mg X.base j x ps sp:=by rw[C.P,C.w,C.K,C.mg,C.b];exact Q.p
theorem Xd{g:aS->Option aS}[C:Cz X B k][Q:Df B j x (spN B.G g)](hj:dX j k=true):ZN X B (.Call (.Name x p) [] [] pos) (uF g tY):=by obtain⟨ps,q⟩:=dz hg hd (X:=X) (Q:=Q);exact⟨Pl q (C.r.mono (dP.mp hj)) hg hd⟩
include hs hl
theorem Xe{g:aS->Option D}[C:Cz X B k][Q:Df B j x (spF B.G g)](ha:ZA X B (e::es) a)(hj:dX j k=true):ZE X B (.Call (.Name x p) (e::es) [] pos) (tJ g a):=by obtain⟨ps,q⟩:=dz hg hd (X:=X) (Q:=Q);exact⟨WB q (C.r.mono (dP.mp hj)) ha.p hg hd hs hl⟩
theorem Xf{g:aS->Option aS}[C:Cz X B k][Q:Df B j x (spN B.G g)](ha:ZA X B (e::es) a)(hj:dX j k=true):ZN X B (.Call (.Name x p) (e::es) [] pos) (uF g a):=by obtain⟨ps,q⟩:=dz hg hd (X:=X) (Q:=Q);exact⟨SW q (C.r.mono (dP.mp hj)) ha.p hg hd hs hl⟩
theorem Xg{g:aS->aS->Option (D×aS)}[C:Cz X B k][Q:Df B j x (spM B.G g)](hv:ZV X e i)(ha:ZA X B es a)(hj:dX j k=true):ZE X B (.Call (.Name x p) (e::es) [] pos) (uG g i a):=by obtain⟨ps,q⟩:=dz hg hd (X:=X) (Q:=Q);exact⟨SX q (C.r.mono (dP.mp hj)) hv.p ha.p hg hd hs hl⟩
theorem Xh{g:aS->aS->Option (D×aS)}[C:Cz X B k][Q:Df B j x (spL B.G g)](ha:ZM X B (e::es) i a)(hj:dX j k=true):ZE X B (.Call (.Name x p) (e::es) [] pos) (uY g i a):=by obtain⟨ps,q⟩:=dz hg hd (X:=X) (Q:=Q);exact⟨Ts q (C.r.mono (dP.mp hj)) ha.p hg hd hs hl⟩
theorem Xi{g:aS->Option (aD×aS)}{dds:aS}[C:Cz X B k][Q:Kf B j x c0 g dds](ha:ZA X B (e::es) a)(hj:dX (j+1) k=true):ZE X B (.Call (.Name x p) (e::es) [] pos) (uv c0 (λds=>g (ds++dds)) a):=by obtain⟨ps,q⟩:=Q.p;exact⟨SY (by rw[C.P,C.w,C.mg,C.b];exact q) (λH=>UY Q.f) (C.r.mono (dP.mp hj)) ha.p C.K hg hd hs hl⟩
end
theorem mz{g:Nat->Option (aS->Option D)}[C:Cz X B k][Q:Mf B j m g]:∀c h,g c=some h->zN B.G X.prog X.w X.mg X.base j m c h:=by rw[C.P,C.w,C.mg,C.b];exact Q.p
theorem Xj{g:Nat->Option (aS->Option D)}{pl:Sem Bool}[C:Cz X B k][Q:Mf B j m g](ho:ZE X B o f)(hj:dX j k=true)
  (ht:eval (.Call (.Attribute o m apos) [] [] pos) X.env=(do
   let ov<-eval o X.env
   standAt apos.atName
   let (f,first)<-holding [ov] (getMethod ov m pl)
   callWith pos f first (bt pos (aw [] X.env)) (backToKw pos (dO [] X.env)))):ZE X B (.Call (.Attribute o m apos) [] [] pos) (uJ g m f tY):=⟨KY mz (C.r.mono (dP.mp hj)) ho.p C.K ht⟩
theorem Xk{g:Nat->Option (aS->Option D)}{pl:Sem Bool}[C:Cz X B k][Q:Mf B j m g](ho:ZE X B o f)(ha:ZA X B (e::es) a)(hj:dX j k=true)(hs:Sz X e es)(hl:Lz X pos es)
  (ht:eval (.Call (.Attribute o m apos) (e::es) [] pos) X.env=(do
   let ov<-eval o X.env
   standAt apos.atName
   let (f,first)<-holding [ov] (getMethod ov m pl)
   callWith pos f first (bt pos (aw (e::es) X.env)) (backToKw pos (dO [] X.env)))):ZE X B (.Call (.Attribute o m apos) (e::es) [] pos) (uJ g m f a):=⟨NJ mz (C.r.mono (dP.mp hj)) ho.p ha.p C.K hs hl ht⟩
section
variable(hg:Gz X x)(hd:Nz x)(hs:S1 X e)
include hg hd hs
theorem cbI{id:String}[C:Cz X B k][N:Nb B x](hc:vq X (.builtin id) r)(hv:dF x=some (.builtin id))(ha:PA X [e] t):PE X (.Call (.Name x p) [e] [] pos) (tCB r t):=by simp only[aZ,bR,gO]at hd;exact EN hc hg (C.mg▸N.p) hv ha hd.1 hd.2 hs rfl
theorem ctI [C:Cz X B k][N:Nb B x](hc:vq X (.type T) r)(hv:dF x=some (.type T))(ha:PA X [e] t):PE X (.Call (.Name x p) [e] [] pos) (tCB r t):=by simp only[aZ,bR,gO]at hd;exact Nd hc hg (C.mg▸N.p) hv ha hd.1 hd.2 hs rfl
theorem Xl{g:D->Option D}[Q:B1 x g][C:Cz X B k][N:Nb B x](ha:ZE X B e f):ZE X B (.Call (.Name x p) [e] [] pos) (c1 g f):=by obtain⟨id,r,h1,h2,h3⟩:=Q.p X B.G C.K C.c;exact⟨US h2 (cbI hg hd hs h1 h3 (w9 ha.p xY hs))⟩
end
section
variable(hs:S1 X e)
include hs
theorem Xm [C:Cz X B k][N:Nb B "list"](hg:Gz X "list")(ha:ZE X B e f):ZN X B (.Call (.Name "list" p) [e] [] pos) (AC f):=⟨Ph (ctI hg (by decide) hs (KW C.K) qf (w9 ha.p xY hs))⟩
theorem Xn [C:Cz X B k][N:Nb B "tuple"](hg:Gz X "tuple")(ha:ZE X B e f):ZE X B (.Call (.Name "tuple" p) [e] [] pos) (Fe f):=⟨Pi (ctI hg (by decide) hs (NG C.K) pX (w9 ha.p xY hs))⟩
theorem Xo [C:Cz X B k][N:Nb B "dict"](h:sets X i x=true)(hg:Gz X "dict")(ha:ZE X B e f)(hw:Wz X (.Call (.Name "dict" p2) [e] [] p3) (.Name x p) pos):ZS X B (.Assign [.Name x p] (.Call (.Name "dict" p2) [e] [] p3) pos) (TM i f):=⟨TN (stW h (ctI hg (by decide) hs Lg Pv.boot_dict (w9 ha.p xY hs)) hw)⟩
theorem Xp [C:Cz X B k][N:Nb B "range"](hg:Gz X "range")(ha:ZE X B e f):ZI X B tg (.Call (.Name "range" p) [e] [] pos) (iR1 f):=⟨KU (M5 hg (C.mg▸N.p) (w9 ha.p xY hs) hs)⟩
end
section
variable(hi:Gz X "isinstance")(hg:Gz X x)(hs:aw [e,.Name x p2] X.env=[(false,eval e X.env),(false,eval (.Name x p2) X.env)])(hs':S1 X (.Name x p2))
include hi hg hs hs'
theorem Xq [Q:KtC x T][C:Cz X B k][N:Nb B "isinstance"][N':Nb B x](ha:ZE X B e f)(hd:Nz x):ZE X B (.Call (.Name "isinstance" p) [e,.Name x p2] [] pos) (c1 (xt (vL T)) f):=by
 simp only[aZ,bR,gO]at hd;refine⟨L9 (c:=.b T) (EN (GV (.b T) (Q.p.1 X B.G) Pp C.K) hi (C.mg▸N.p) pb (u5 ha.p (u5 (RB (v:=.ty T) hg (C.mg▸N'.p) Q.p.2 rfl hd.1 hd.2) xP ?_) ?_) (by decide) (by decide) ?_ ?_)⟩
 ·exact hs'
 ·rw[hs,hs']
 ·rw[hs,hs']
 ·rw[hs'];rfl
theorem Xr [Q:Ic B x t][C:Cz X B k][N:Nb B "isinstance"](ha:ZE X B e f)(hd:Dz x):ZE X B (.Call (.Name "isinstance" p) [e,.Name x p2] [] pos) (c1 (xt t) f):=by
 obtain⟨c,q1,q2⟩:=Q.p;refine⟨L9 (c:=.c c) (EN (K1 q1 C.K) hi (C.mg▸N.p) pb (u5 ha.p (u5 (LB (v:=.ref (B.G.ca c)) hg (C.mg▸q2) rfl hd) xP ?_) ?_) (by decide) (by decide) ?_ ?_)⟩
 ·exact hs'
 ·rw[hs,hs']
 ·rw[hs,hs']
 ·rw[hs'];rfl
end
section
variable(hb:Az X o m)(hl:Ez apos pos)(hs:S1 X e)
include hb hl hs
theorem bmI{id:String}[C:Cz X B k](pa:mi T)(slot:Slot T m id)(hty:typeOf (.builtin id)=pure (.type "method_descriptor"))(hm:MtR X id r)(ho:PE X o to)(ha:PA X [e] t):PE X (.Call (.Attribute o m apos) [e] [] pos) (tBM B.G.K T r to t):=
 OR B.G.K pa slot hty hm ho ha hb (by rw[hs];rfl) hl hs rfl C.K
end
section
variable(h:sees X i x=true)(hb:Az X (.Name x p) m)(hl:Ez apos pos)(hs:S1 X e)
include h hb hl hs
theorem Xs [C:Cz X B k](hm:m="append")(ha:ZE X B e f):ZE X B (.Call (.Attribute (.Name x p) m apos) [e] [] pos) (zp i f):=by subst hm;exact⟨Nx (bmI hb hl hs jJ kK ou CS (pvI h) (w9 ha.p xY hs))⟩
theorem Xt [C:Cz X B k](hm:m="extend")(ha:ZE X B e f):ZE X B (.Call (.Attribute (.Name x p) m apos) [e] [] pos) (DH i f):=by subst hm;exact⟨K4 (bmI hb hl hs jJ kL F.type_list_extend (C.K▸K2) (pvI h) (u5 ha.p xP hs))⟩
end
theorem Xu [C:Cz X B k](h:sees X i x=true)(hb:Az X (.Name x p) "pop")(hl:Ez apos pos)(hs:S1 X (.Constant (.int 0) j p2)):ZE X B (.Call (.Attribute (.Name x p) "pop" apos) [.Constant (.int 0) j p2] [] pos) (LY i):=⟨SK (bmI hb hl hs jJ oZ F.type_list_pop OF (pvI h) (u5 Kx xP hs))⟩
theorem Xv [C:Cz X B k](ha:ZE X B e f)(hb:ZE X B e' f')(h1:Az X e "get")(h2:Ez apos pos)(h3:S1 X e'):ZE X B (.Call (.Attribute e "get" apos) [e'] [] pos) (c2 B2 f f'):=⟨Pu (Jj C.r) ha.p hb.p ⟨h1,by rw[h3];rfl,h2,by rw[h3];rfl⟩⟩
theorem Xw [C:Cz X B k][Q:Af B c0 xs](hx:xs.contains m=true)(h:sees X i x=true)(hv:ZE X B e f)(hs:Wz X e (.Attribute (.Name x p) m apos) pos):ZS X B (.Assign [.Attribute (.Name x p) m apos] e pos) (uz c0 i m f):=⟨SJ (VH (pvI h) hv.p hs) (by obtain⟨i,_,e⟩:=kE (nI.mp hx);exact C.K▸Q.p.at i (bO.mpr ⟨_,e⟩))⟩
theorem Xx [C:Cz X B k](h:sees X i x=true)(hk:ZE X B e' f')(hv:ZE X B e f)(hs:Wz X e (.Subscript (.Name x p) e' apos) pos):ZS X B (.Assign [.Subscript (.Name x p) e' apos] e pos) (vV i f' f):=⟨Px (RZ (Jj C.r) (pvI h) hk.p hv.p hs)⟩
theorem Xy [Q:Ij B n](h:ZE X B e f):ZE X B e (yT n f):=⟨Tg Q.p h.p⟩
section
variable{ks:List (Option Expr)}{kfs:List (Str×FE)}
theorem Xz:ZP X B pos [] [] []:=⟨R0⟩
theorem XA(hv:ZE X B e f)(hr:ZP X B pos ks es kfs):ZP X B pos (some (.Constant (.str y) j p)::ks) (e::es) ((y,f)::kfs):=⟨OJ Og hv.p hr.p⟩
theorem XB(h:ZP X B pos ks es kfs)(h1:(ks.all (·.isSome)&&decide (ks.length=es.length)&&!ks.isEmpty&&decide (ks.length<=15)&&decide (kfs.map λq=>(Sum.inr q.1:Key)).Nodup&&decide (kfs.length<=15))=true):ZE X B (.Dict ks es pos) (yw kfs):=by simp only[aZ,bR,gO]at h1;obtain⟨⟨⟨⟨⟨a1,a2⟩,a3⟩,a4⟩,a5⟩,a6⟩:=h1;exact⟨Mi (R7 h.p a1 a2 (λz=>by rw[z]at a3;cases a3) a4) a5 a6⟩
end
theorem XC{lo:Option Expr}{fl:FO}[C:Cz X B k](he:ZE X B e f)(hl:ZO X B lo fl)(hh:ZO X B hi fh):ZN X B (.Subscript e (.Slice lo hi none p) pos) (y4 f fl fh):=⟨KZ (ER (sl_X C.K) he.p hl.p hh.p)⟩
theorem XD{lo:Option Expr}[C:Cz X B k](he:ZE X B e f)(hl:ZK X lo l)(hh:ZK X hi h):ZN X B (.Subscript e (.Slice lo hi none p) pos) (cSl f l h):=⟨NH (ER (sl_X C.K) he.p hl.p hh.p)⟩
theorem XE:ZK X (some (.Constant (.int y) j pos)) (some y):=⟨Pj⟩
theorem XF:ZK X none none:=⟨aah⟩
theorem XG [C:Cz X B k](h:ZE X B e f):ZI X B tg e (iL f):=⟨Jx (Jo B.G.K h.p C.K)⟩
theorem XH [C:Cz X B k](h:ZE X B e f):ZI X B tg e (iT f):=⟨SO (Se B.G.K h.p C.K)⟩
theorem XI(h:ZE X B e f):ZI X B tg e (iD f):=⟨PK (Td h.p)⟩
theorem XJ(h:ZE X B e f):ZI X B tg e (iS f):=⟨S6 (VZ h.p)⟩
section
variable(hg:Gz X "zip")(hs:aw [e,e'] X.env=[(false,eval e X.env),(false,eval e' X.env)])(hs2:S1 X e')
include hg hs hs2
theorem XM [C:Cz X B k][N:Nb B "zip"](ha:ZA X B [e,e'] a):ZI X B (.Tuple es i p2) (.Call (.Name "zip" p) [e,e'] [] pos) (iZ a):=⟨Tf (WO hg (C.mg▸N.p) ha.p hs hs2)⟩
end
section
variable{gg:FG}{gs:aS->bb->Option bb}
theorem TU:ZH X B [] n DA:=⟨Sv RF⟩
theorem TV(h1:ZG X B e n gg)(h2:ZH X B es n gs)(hs:(c3 (e::es) X.env).map (·.2)=assign e X.env::(c3 es X.env).map (·.2)):ZH X B (e::es) n (vH gg gs):=⟨O1 (Oi h1.p h2.p hs)⟩
theorem TX [C:Cz X B k](h:ZH X B es n gs)(hn:(c3 es X.env).length=n')(ht:(c3 es X.env).findIdx? (·.1)=none):ZG X B (.Tuple es k' pos) n (gT gs n'):=⟨Sw (Sf B.G.K C.c h.p hn ht C.K)⟩
end
def tgN:Expr->aD
 |.Name x _=>[x]
 |.Tuple es _ _=>es.filterMap λe=>match e with|.Name x _=>some x|_=>none
 |_=>[]
def cpN(X:Cx)(tg:Expr)(cap:List Nat):aD:=tgN tg++cap.map λj=>X.N.getD j ""
instance inCz [C:Cz X B k]{N':aD}{sc:c4}{cl:List (Str×Addr)}{A:Addr}{fp:List Addr}{s:ae}{H:Hp}:Cz (va X N' sc cl A fp s H) B k:=⟨C.P,C.w,C.K,C.mg,C.b,C.c,C.r⟩
def XN(X:Cx)(N':aD)(sc:c4)(n:Nat)(cap:List Nat):Bool:=decide cap.Nodup&&decide (sc.kind=.function)&&(sc.names.all λy=>y.2 != .cell)&&(sc.names.all λy=>y.2 != .local||sc.names.lookup y.1==some .local)&&(sc.names.all λy=>y.2 != .free||(X.env.kindOf y.1==some .cell||X.env.kindOf y.1==some .free))&&decide (N'.length=n+cap.length)&&decide ((N'.drop n).map some=cap.map λj=>X.N[j]?)&&((N'.drop n).all λx=>sc.names.lookup x==some .free)
section
variable{sc:c4}{cap:List Nat}{ifs:List Expr}{gg:FG}{ft:FT}{s:FA}
 (h0:XN X (cpN X tg cap) sc n cap=true) (hs:Fz X it) (hi:ZI X B tg it s)
 (h1:∀(cl:List (Str×Addr)) (A:Addr) (fp:List Addr) (s:ae) (H:Hp),ZG (va X (cpN X tg cap) sc cl A fp s H) B tg n gg)
 (h2:∀(cl:List (Str×Addr)) (A:Addr) (fp:List Addr) (s:ae) (H:Hp),ZF (va X (cpN X tg cap) sc cl A fp s H) B ifs ft)
 (h3:∀(cl:List (Str×Addr)) (A:Addr) (fp:List Addr) (s:ae) (H:Hp),ZE (va X (cpN X tg cap) sc cl A fp s H) B e f)
include h0 hs hi h1 h2 h3
theorem XO [C:Cz X B k]:ZN X B (.ListComp e [⟨tg,it,ifs,0⟩] sc pos) (ue n cap s gg ft f):=by unfold XN at h0;simp only[aZ,bR]at h0;obtain⟨⟨⟨⟨⟨⟨⟨a1,a2⟩,a3⟩,a4⟩,a5⟩,a6⟩,a7⟩,a8⟩:=h0;exact⟨Pb a1 (Sd (N':=cpN X tg cap) C.c hi.p (λcl A fp s H=>⟨(h1 cl A fp s H).p,(h2 cl A fp s H).p,(h3 cl A fp s H).p⟩) a2 a3 a4 a5 a6 a7 a8 λx=>congrFun hs x)⟩
theorem cpW [C:Cz X B k](h:sets X i x=true)(hw:dR (.ListComp e [⟨tg,it,ifs,0⟩] sc pos) (some (.Name x p)) apos.line X.env=pure true):PS X (.Assign [.Name x p] (.ListComp e [⟨tg,it,ifs,0⟩] sc pos) apos) (BN (EZ (tFI B.G s) (tFG B.G n gg) (tFT B.G ft) (tF B.G f) n cap) (yO i))/\cap.Nodup:=by unfold XN at h0;simp only[aZ,bR]at h0;obtain⟨⟨⟨⟨⟨⟨⟨a1,a2⟩,a3⟩,a4⟩,a5⟩,a6⟩,a7⟩,a8⟩:=h0;obtain⟨b1,b2,b3,b4⟩:=Ig h;exact⟨S0 (N':=cpN X tg cap) C.c b1 b2 b3 hi.p (λcl A fp s H=>⟨(h1 cl A fp s H).p,(h2 cl A fp s H).p,(h3 cl A fp s H).p⟩) a2 a3 a4 a5 a6 a7 a8 (λx=>congrFun hs x) hw b4,a1⟩
theorem XQ [C:Cz X B k](h:sets X i x=true)(hw:dR (.ListComp e [⟨tg,it,ifs,0⟩] sc pos) (some (.Name x p)) apos.line X.env=pure true):ZS X B (.Assign [.Name x p] (.ListComp e [⟨tg,it,ifs,0⟩] sc pos) apos) (um i (cL (ue n cap s gg ft f))):=by have z:=cpW (k:=k) h0 hs hi h1 h2 h3 h hw;exact⟨Pr z.2 z.1⟩
end
section
variable{st:Stmt}{sts:List Stmt}{fs fs':FS}{ft:FT}{a':FA}{z1:Nat}
theorem aav(ha:ZE X B e f)(hr:ZA X B es a)(hs:Sz X e es):ZA X B (e::es) (tD f a):=⟨w9 ha.p hr.p hs⟩
theorem aaw:ZA X B [] tY:=⟨xY⟩
theorem XR(ha:ZE X B e f)(hr:ZM X B es i a)(hs:Sz X e es):ZM X B (e::es) i (tD f a):=⟨NP ha.p hr.p hs⟩
theorem XS(h:sees X i x=true)(hs:S1 X (.Name x p)):ZM X B [.Name x p] i tY:=⟨P4 (pvI h) hs⟩
theorem XT(h:sees X i x=true):ZV X (.Name x p) i:=⟨pvI h⟩
theorem XU(h:ZN X B e a):ZE X B e (cL a):=⟨Wc h.p⟩
theorem aax:ZE X B (.Constant (.str y) j pos) (cC (.str y)):=⟨V4⟩
theorem aay:ZE X B (.Constant (.int y) j pos) (cC (.int y)):=⟨V3⟩
theorem aaz:ZE X B (.Constant (.bool y) j pos) (cC (.bl y)):=⟨Z0⟩
theorem aaA:ZE X B (.Constant .none j pos) (cC .non):=⟨V5⟩
theorem Qm(h1:ZS X B st fs)(h2:ZB X B sts fs'):ZB X B (st::sts) (tI fs fs'):=⟨OW h1.p h2.p⟩
theorem aaB(h1:ZS X B st fs):ZB X B [st] fs:=⟨Ss h1.p⟩
theorem aaC:ZB X B [] uc:=⟨Sr⟩
theorem XW(h:ZE X B e f):ZS X B (.Return (some e) pos) (ub f):=⟨Su h.p⟩
theorem XX(h:ZN X B e a):ZS X B (.Return (some e) pos) (uT a):=⟨OX h.p⟩
theorem XY(h:ZE X B e f)(hs:dR e none pos.line X.env=pure false):ZS X B (.Expr e pos) (uu f):=⟨OY h.p hs⟩
theorem XZ(h:ZT X B e ft)(h1:ZB X B sts fs)(h2:ZB X B sts' fs'):ZS X B (.If e sts sts' pos) (sIf ft fs fs'):=⟨We h.p h1.p h2.p⟩
theorem X0:ZE X B e Fk:=⟨Py⟩
theorem X1(h:ZA X B es a):ZN X B (.List es pos) (tZ a):=⟨So h.p⟩
theorem X2(h:ZA X B es a):ZE X B (.Tuple es z1 pos) (uA a):=⟨Wb h.p⟩
theorem X3(ha:ZE X B e f)(hb:ZE X B e' f'):ZN X B (.BinOp e .Add e' pos) (uU f f'):=⟨SU ha.p hb.p⟩
theorem X4 [C:Cz X B k](ha:ZE X B e f)(hb:ZE X B e' f'):ZE X B (.BinOp e .Add e' pos) (DG f f'):=⟨S7 ha.p hb.p C.K⟩
theorem X5(ha:ZE X B e f)(hb:ZE X B (.BoolOp .And (e'::es) pos) f'):ZE X B (.BoolOp .And (e::e'::es) pos) (xx f f'):=⟨V9 ha.p hb.p⟩
theorem X6(ha:ZE X B e f)(hb:ZE X B (.BoolOp .Or (e'::es) pos) f'):ZE X B (.BoolOp .Or (e::e'::es) pos) (cOr f f'):=⟨Z4 ha.p hb.p⟩
theorem X7{op}(ha:ZE X B e f):ZE X B (.BoolOp op [e] pos) f:=⟨V8 ha.p⟩
theorem X8(ha:ZE X B e f):ZE X B (.UnaryOp .Not e pos) (HP f):=⟨Wa ha.p⟩
theorem X9(ha:ZT X B e ft):ZT X B (.UnaryOp .Not e pos) (yS ft):=⟨Sk ha.p⟩
theorem Ya(h:ZT X B o ft)(ha:ZE X B e f)(hb:ZE X B e' f'):ZE X B (.IfExp o e e' pos) (cIf ft f f'):=⟨Z5 h.p ha.p hb.p⟩
theorem aaD(h:ZT X B e ft):ZF X B [e] ft:=⟨Sa h.p⟩
theorem aaE:ZF X B [] uS:=⟨Pc⟩
theorem Yc(h:ZE X B e f):ZE X B e (Es f):=⟨WA h.p⟩
theorem Yd(h:ZT X B e ft):ZT X B e (DE ft):=⟨SV h.p⟩
theorem Ye(h:ZE X B e f):ZO X B (some e) (oAt f):=⟨WI h.p⟩
theorem Yf:ZO X B none oNo:=⟨WH⟩
theorem Yg(ha:ZT X B e ft)(hb:ZW X B (.BoolOp .Or (e'::es) pos) fu):ZW X B (.BoolOp .Or (e::e'::es) pos) (xX ft fu):=⟨OU ha.p hb.p⟩
theorem Yh(h:ZT X B e ft):ZW X B (.BoolOp .Or [e] pos) ft:=⟨Sm h.p⟩
theorem Yi(h:ZT X B e ft):ZW X B (.BoolOp .And [e] pos) ft:=⟨OT h.p⟩
end
theorem Yj [C:Cz X B k](hp:j6 (model X.prog X.w) X.A X.env X.xe)(hn:X.N.length=n)(hi:ZI X B tg it s)(hg:ZG X B tg n gg)(hb:ZB X B body b)(hs:Fz X it):ZS X B (.For tg it body [] pos) (yu s gg b):=⟨SQ (Oq hp C.c hi.p hg.p hb.p λx=>congrFun hs x)⟩
theorem Yk(hp:j6 (model X.prog X.w) X.A X.env X.xe)(hc:ZT X B e ft)(hb:ZB X B body b):ZS X B (.While e body [] pos) (whL ft b n):=⟨Ny n (Ol hp hc.p hb.p)⟩
end
end L4
namespace L4
open PySem PySem.Spec PyProof.Rows L2 L3
open PySem.W (fnOf)
def nmO(st:Stmt):aD:=(tX st).names.filterMap λy=>match y.2 with|.local=>some y.1|.cell=>some y.1|_=>none
def psO(st:Stmt):aD:=(w5 st).args.map (·.arg)
def okO(N ps:aD)(st:Stmt)(np n:Nat):Bool:=decide ((tX st).kind=.function)&&(tX st).isCoroutine==false&&(tX st).isGenerator==false&&decide N.Nodup&&decide (N.take ps.length=ps)&&(ps.all λx=>match (tX st).names.lookup x with|some .local=>true|some .cell=>true|_=>false)&&((tX st).names.all λy=>y.2 != .free)&&decide (ps.length=np)&&decide (N.length=n)
theorem okk{st:Stmt}(h:okO N ps st np n=true):u6 N ps (tX st)/\ps.length=np/\N.length=n:=by
 unfold okO at h;simp only[aZ,bR,beq_iff_eq]at h;obtain⟨⟨⟨⟨⟨⟨⟨⟨h1,h2⟩,h3⟩,h4⟩,h5⟩,h6⟩,h7⟩,h8⟩,h9⟩:=h;refine⟨⟨h1,h2,h3,h4,h5,λx hx=>?_,λy hy e=>?_⟩,h8,h9⟩
 ·have z:=bH.mp h6 x hx;split at z
  ·rename_i e;exact .inl e
  ·rename_i e;exact .inr e
  ·cases z
 ·have z:=bH.mp h7 y hy;rw[e]at z;exact aq z (by decide)
section
variable{B:Bz}[Y:Yb B]{x m qual:Str}{st s0:Stmt}{l:List Stmt}{k c np n:Nat}{b:FS}{p:Str}{ps xs:aD}{N:aD}
abbrev Bdz(B:Bz)(N:aD)(qual:Str)(st:Stmt)(l:List Stmt)(k:Nat)(b:FS):Prop:=∀{f:Addr} {cdv:aa} {A:aI} {outer:List Env} {s:ae} {H:Hp} {E:XK} [Cz (Bo B.P B.w B.G.K B.mg B.base N qual st f cdv A outer s H E) B k],ZB (Bo B.P B.w B.G.K B.mg B.base N qual st f cdv A outer s H E) B l b
omit Y in
theorem Bdz.ok(h:Bdz B N qual st l k b)(hl:uw st=l):Bdy B.P B.w B.G.K B.mg B.base N qual st k (tFS B.G b):=λf cdv A outer s H E hr=>by subst hl;exact(@h f cdv A outer s H E ⟨rfl,rfl,rfl,rfl,rfl,rfl,hr⟩).p
theorem gF4(hg:g=fnD np n b)(q:GD B.G.K x st)(hl:uw st=s0::l)(body:Bdz B (nmO st) x st (s0::l) k b)(S:okO (nmO st) (psO st) st np n=true:=by kernel_rfl)(bd:Bds x x st (psO st):=by (repeat intro _);rfl):Df B (k+1) x (spF B.G g):=
 ⟨_,gF hg Y.y q (okk S).1 (body.ok hl) (okk S).2.1 (okk S).2.2 bd⟩
theorem gF5(N:aD)(hg:g=fnD np n b)(q:GD B.G.K x st)(hl:uw st=s0::l)(body:Bdz B N x st (s0::l) k b)(S:okO N (psO st) st np n=true:=by kernel_rfl)(bd:Bds x x st (psO st):=by (repeat intro _);rfl):Df B (k+1) x (spF B.G g):=
 ⟨_,gF hg Y.y q (okk S).1 (body.ok hl) (okk S).2.1 (okk S).2.2 bd⟩
theorem gN4(hg:g=fnN np n b)(q:GD B.G.K x st)(hl:uw st=s0::l)(body:Bdz B (nmO st) x st (s0::l) k b)(S:okO (nmO st) (psO st) st np n=true:=by kernel_rfl)(bd:Bds x x st (psO st):=by (repeat intro _);rfl):Df B (k+1) x (spN B.G g):=
 ⟨_,gN' hg Y.y q (okk S).1 (body.ok hl) (okk S).2.1 (okk S).2.2 bd⟩
theorem gL4(hg:g=fnL np n b)(q:GD B.G.K x st)(hl:uw st=s0::l)(body:Bdz B (nmO st) x st (s0::l) k b)(S:okO (nmO st) (psO st) st (np+1) n=true:=by kernel_rfl)(bd:Bds x x st (psO st):=by (repeat intro _);rfl):Df B (k+1) x (spL B.G g):=
 ⟨_,gL hg Y.y q (okk S).1 (body.ok hl) (okk S).2.1 (okk S).2.2 bd⟩
theorem gM4(hg:g=fnM np n b)(q:GD B.G.K x st)(hl:uw st=s0::l)(hp:psO st=p::ps)(body:Bdz B (nmO st) x st (s0::l) k b)(S:okO (nmO st) (p::ps) st (np+1) n=true:=by kernel_rfl)(bd:Bds x x st (p::ps):=by (repeat intro _);rfl):Df B (k+1) x (spM B.G g):=
 ⟨_,gM hg Y.y q (okk S).1 (body.ok hl) (iW (okk S).2.1) (okk S).2.2 bd⟩
theorem hF4(C:CF B.G.K (B.G.ca c) xs)(hg:g=fnD np n b)(q:GM B.G.K (B.G.ca c) m qual st)(hl:uw st=s0::l)(body:Bdz B (nmO st) qual st (s0::l) k b)(S:okO (nmO st) (psO st) st np n=true:=by kernel_rfl)(bd:Bds m qual st (psO st):=by (repeat intro _);rfl):zN B.G B.P B.w B.mg B.base (k+1) m c g:=by obtain⟨f,fd,a,i,F⟩:=q;exact⟨f,fd,_,C.ci.cl,⟨a,i,F.kp⟩,bd.ok F,Pm hg (okk S).2.1 (okk S).2.2 F (okk S).1 (body.ok hl f)⟩
theorem gI4(C:CF B.G.K (B.G.ca c) xs)(a:jb B.G.K aW x=some (some (.ref (B.G.ca c))))(hg:g=fnI c np n b)(q:GM B.G.K (B.G.ca c) "__init__" qual st)(hl:uw st=s0::l)(hp:psO st=p::ps)(body:Bdz B (nmO st) qual st (s0::l) k b)(S:okO (nmO st) (p::ps) st (np+1) n=true:=by kernel_rfl)(bd:Bds "__init__" qual st (p::ps):=by (repeat intro _);rfl):Kf B (k+1) x c g []:=
 ⟨⟨_,gI hg Y.y C a q (okk S).1 (body.ok hl) (iW (okk S).2.1) (okk S).2.2 bd⟩,rfl⟩
theorem gJ4{dds:aS}(C:CF B.G.K (B.G.ca c) xs)(a:jb B.G.K aW x=some (some (.ref (B.G.ca c))))(hg:g=fnI c np n b)(q:GJ B.G.K (B.G.ca c) qual st (dds.map vD))(hl:uw st=s0::l)(hp:psO st=p::ps)(body:Bdz B (nmO st) qual st (s0::l) k b)(j:Nat)(S:okO (nmO st) (p::ps) st (np+1) n=true:=by kernel_rfl)(hf:dds.all v9=true:=by rfl)
  (bd:Lc (dds.map vD).length λdl=>Lc ((p::ps).length - ((dds.map vD).drop j).length) λus=>∀(T:Addr) (kV doc pm:aa) (an:Option Addr) (cdv ct:aa),∃k,bindArgs (fnOf "__init__" qual (w5 st) (uw st) (tX st) (.ref T) kV doc pm an cdv ct) ⟨us,[]⟩=seqItems? (.ref T)>>=k/\k (some dl.toArray)=pure ((p::ps).zip (us++dl.drop j)):=by (repeat intro _);exact⟨_,rfl,rfl⟩):Kf B (k+1) x c g (dds.drop j):=
 ⟨⟨_,by rw[fZ];exact gJ hg Y.y C a q (okk S).1 (body.ok hl) j (iW (okk S).2.1) (okk S).2.2 bd⟩,by
  rw[bH]at hf ⊢;exact λd h=>hf d (jC h)⟩
theorem TY(n:Nat)(ca:Nat->Addr):∀k,k<n->((aQ n).map ca).getD k 0=ca k:=λk h=>by rw[cj,bc,kB h];rfl
theorem injR{n:Nat}{ca:Nat->Addr}(h:decide ((aQ n).map ca).Nodup=true):∀j k,j<n->k<n->ca j=ca k->j=k:=λj k hj hk e=>by rw[<-TY n ca j hj,<- TY n ca k hk]at e;exact WT (bK h) (by simpa using hj) (by simpa using hk) e
def NU:Nat->(Nat->Prop)->Prop
 |0,_=>True
 |n+1,Q=>Q 0/\NU n λk=>Q (k+1)
theorem NU.at:∀{n:Nat} {Q:Nat->Prop},NU n Q->∀k,k<n->Q k
 |_+1,_,h,0,_=>h.1
 |_+1,_,h,k+1,hk=>NU.at (Q:=λk=>_) h.2 k (Nat.lt_of_succ_lt_succ hk)
end
section
variable{X:Cx}{B:Bz}{k j i n:Nat}{x y:Str}{e e' tg:Expr}{es:List Expr}{p p2 p3 pos apos:Pos}{f f':FE}{a:FA}{st:Stmt}{sts:List Stmt}{fs fs':FS}{ft:FT}
theorem Yl [C:Cz X B k](ha:ZE X B e f)(hb:ZE X B e' f')(hc:ZE X B e2 f2)(h1:Az X e "get")(h2:Ez apos pos)(h3:aw [e',e2] X.env=[(false,eval e' X.env),(false,eval e2 X.env)]):ZE X B (.Call (.Attribute e "get" apos) [e',e2] [] pos) (Fl f f' f2):=⟨Pz (Jj C.r) ha.p hb.p hc.p ⟨h1,by rw[h3];rfl,h2,by rw[h3];rfl⟩⟩
theorem Ym(hn:X.N.length=n)(he:ZE X B e f)(hg:ZG X B tg n gg)(hs:swapsWithSole [tg] e pos.line X.env=pure false)(hw:swappedStores [tg] e X.env=pure none)(h1:(c3 [tg] X.env).map (·.2)=[assign tg X.env]):ZS X B (.Assign [tg] e pos) (HQ f gg):=⟨Sx (Vt he.p hg.p hs hw h1)⟩
theorem Yn [C:Cz X B k][N:Nb B "int"](hg:Gz X "int")(hs:S1 X e)(ha:ZE X B e f):ZE X B (.Call (.Name "int" p) [e] [] pos) (c1 JC f):=⟨US Ww (ctI hg (by decide) hs M7 qv (w9 ha.p xY hs))⟩
end
end L4
namespace L4
open PySem PySem.Spec PyProof.Rows L2 L3
section
variable{X:Cx}{G:Bg}
def TZ:D->D->Option D
 |.dic ks _,.dic [] _=>some (.bl (!ks.isEmpty))
 |_,_=>none
def rNeE:R2:=λx y H Q=>∃a b kvs,x=.ref a/\y=.ref b/\Rd H a (.dK kvs)/\Rd H b (.dK [])/\Q (.bl (!kvs.isEmpty)) H
theorem Yo(hu:X.A.units<cLine):OpR X (br .NotEq) rNeE:=by
 intro wv s σ H x y v u Q I rx ry h;obtain⟨a,b,kvs,ex,ey,ea,eb,q⟩:=h;subst ex ey;cases (show v=Value.ref a from rx);cases (show u=Value.ref b from ry);obtain⟨z,hd,vs,rel,dd⟩:=Bl I.hok ea;obtain⟨z',hd',vs',rel',dd'⟩:=Bl I.hok eb;cases rel';refine W.keq_ne hd hd' dd dd' hu (r:=true) (λe=>?_) ?_
 ·cases vs with
  |nil=>exact .nil
  |cons _ _=>cases e
 ·refine⟨.bl (!kvs.isEmpty),H,I,?_,q⟩;show Value.bool _=Value.bool _;cases rel<;>rfl
theorem Yp:OpD G rNeE TZ:=λx y z H0 H v u Q e s rx ry k=>by
 cases x with
 |dic ks ds=>
  cases y with
  |dic ks' ds'=>
   cases ks' with
   |nil=>
    cases e;unfold Rep at rx ry;obtain⟨p,ob,xs,rfl,h1,h2,h3⟩:=rx;obtain⟨p',ob',xs',rfl,h1',h2',h3'⟩:=ry;refine⟨p,p',ks.zip xs,rfl,rfl,.inr ⟨ob,s _ _ h1⟩,.inr ⟨ob',?_⟩,?_⟩
    ·exact s _ _ h1'
    ·have:(ks.zip xs).isEmpty=ks.isEmpty:=by
      cases ks with
      |nil=>rfl
      |cons a r=>cases xs with
       |nil=>cases h2
       |cons _ _=>rfl
     rw[this];exact k _ λ_ _=>wC _
   |cons _ _=>cases e
  |_=>cases e
 |_=>cases e
theorem Qn:PE X (.Dict [] [] pos) (OK []):=PE.weak EV λσ H Q hh p e=>by
 obtain⟨_,kvs,e1,_,q⟩:=hh p e;cases kvs with
 |nil=>
  have:upd (upd H p (.dK [])) p (.dK (Ax [] []))=upd H p (.dK []):=by
   funext a
   unfold upd;split<;>rfl
  rw[this]at q;exact q
 |cons _ _=>cases e1
theorem Qo:PE X (.Dict [] [] pos) (tF G (yw [])):=Mi Qn jQ (bA _)
end
instance inNeE:CmC .NotEq TZ:=⟨λ_ _ _ u=>⟨_,Yo (by omega),Yp⟩⟩
theorem Yq:ZE X B (.Dict [] [] pos) (yw []):=⟨Qo⟩
theorem sub_dict_dict:isSubtype (.type "dict") (.type "dict")=pure true:=by rw[iQ];kernel_rfl
section
variable{prog:aH}{w:aA}{A:aI}{E:aa->ae->Prop}{s:ae}
theorem Ih(hh:A.handled=none)(hd:(d==cY)=false)(ho:s.heap.get? d=some o)(hc:o.cls=.type "dict")(hm:s.heap.DictAt (tU prog w) d kvs ep)(hn:kvs.length<=1000)
  (hQ:∀h2 k2 acc,s.heap.objs.size<=h2.objs.size->(∀b o,s.heap.get? b=some o->h2.get? b=some o)->ItemsOf (λi v=>∃k x,kvs[i]?=some (k,x)/\(tU prog w).is k v=true) acc kvs.length->Q acc.toList { s with heap:=h2,toks:=k2 }):aj (model prog w) A (collect (.ref d)) Q E s:=by
 have hlt:=aK ho;let lO:Obj:={ cls:=.type "list", data:=.seq ([]:List aa).toArray };unfold collect;refine ag (lH (dD nJ ?_));rw[eC nL _];show aj _ A.in1 (newList []>>=λl=>again (.builtin "list.__iadd__" ⟨[l,.ref d],[]⟩)) _ _ s;refine ag (dh ?_);refine ar ⟨fA jK _,dD oK ?_⟩;rw[eC jK _];show aj _ A.in1 (jm (.ref s.heap.objs.size) (.ref d) (.ref s.heap.objs.size)) _ _ _;have o1:(s.heap.push lO).get? d=some o:=aC _ ho;have T1:iU { s with heap:=s.heap.push lO } (.ref d) "dict" := ⟨o,o1,hc⟩;unfold jm;refine ag (hJ T1 ?_);rw[ai (by
  have:jv (.ref s.heap.objs.size) (.ref d)=false:=by simp[jv];exact λe=>aq e (dG hlt)
  rw[this];decide)]
 have m1:(s.heap.push lO).DictAt (tU prog w) d kvs ep:=hm.at' λo e=>aC _ e;refine ag (oI (knd:=tU prog w) (kvs:=kvs) (ep:=ep) hd m1 ?_);let h3:=(s.heap.push lO).push { cls:=.type "dict_keyiterator", data:=.fields #[.ref d,.int 0 0,.int kvs.length 0,.int ep 0] };have T3:iU { s with heap:=h3 } (.ref d) "dict" := ⟨o,aC _ o1,hc⟩;have ez:(s.heap.push lO).objs.size=s.heap.objs.size+1:=cK _ _;have L3:h3.get? s.heap.objs.size=some lO:=aC _ (bp _ rfl);have I3:h3.IsKeyIter (s.heap.objs.size+1) d 0 kvs.length ep:=⟨_,by rw[<-ez];exact bp _ rfl,rfl,rfl⟩;have M3:h3.DictAt (tU prog w) d kvs ep:=m1.at' λo e=>aC _ e;have K3:∀b o,s.heap.get? b=some o->h3.get? b=some o:=λb o e=>aC _ (aC _ e);show aj _ A.in1 (holding [.ref (s.heap.push lO).objs.size] (jn (.ref d))>>=_) _ _ { s with heap:=h3 };rw[ez];refine ag (cW ?_);unfold jn;refine ag (gV T3 F.slot_dict_len.lookup ?_);generalize hid:("dict.__len__" : String)=id0;wp_delta;rw[show splitId id0=some ("dict", "__len__") from by subst hid;decide +kernel];subst hid;refine ag (lu T3 sub_dict_dict ?_);dsimp only;rw[ai (by decide),ah (by decide +kernel)];refine ag (hJ T3 ?_);refine ar ?_;rw[ah (by decide +kernel)];refine ag (mm ?_);refine ag ?_;show aj _ A.in1 (updateSeq s.heap.objs.size (·.push .none)>>=λ_=>updateSeq s.heap.objs.size (·.pop)) _ _ _
 refine ag (iP L3 rfl ?_);have S2:=eA (cB (·.push Value.none)) L3 rfl
 refine iP S2 rfl ?_;have S3:=eA (cB (·.pop)) S2 rfl
 have oth:∀b o,b≠s.heap.objs.size->h3.get? b=some o->((h3.update s.heap.objs.size (cB (·.push Value.none))).update s.heap.objs.size (cB (·.pop))).get? b=some o:=
  λb o hb e=>(fQ _ _ (cD hb)).trans ((fQ _ _ (cD hb)).trans e)
 have hne:d≠s.heap.objs.size+1:=aR (di hlt);have hSf:s.heap.objs.size∉[s.heap.objs.size+1,d]:=by
  intro z;rcases aN.mp z with z|z
  ·exact aq z (aR (cR _))
  ·exact aq (aV.mp z) (dG hlt)
 have W:=(pH (prog:=prog) (w:=w) (knd:=tU prog w) (A:=A.in1) (by simp[hh]) (s.heap.objs.size+1) d hne kvs ep).toS;refine ar ⟨fA oe _,nU W (by rw[bN];omega) _ hSf _ kvs.length 0 _ _ _ rfl (bA _)
  ⟨I3.at λo e=>oth _ o (dG (cR _)) e,M3.at' λo e=>oth _ o (aR hlt) e⟩ S3 (qw _) λs' acc' c' hm hS' hacc=>?_⟩
 show aj _ A (load s.heap.objs.size>>=_) _ _ s';refine ag (mf hS' ?_);obtain⟨h2,g2,d2,k2,o2⟩:=s';have eg:g2=s.gens:=hm.gens;have ed:d2=s.drawn:=hm.drawn;have eo:o2=s.os:=hm.os;subst eg ed eo;refine ar (hQ h2 k2 acc' (hE (aK hS')) (λb o e=>?_) hacc);have hb:=aK e;exact hm.heap b o (λz=>by
  rcases aN.mp z with z|z
  ·exact aq z (aR hb)
  ·exact aq (aV.mp z) (aR (di hb))) (oth b o (aR hb) (K3 b o e))
theorem Ms:∀(vs:List aa) (ss:aD),vs.length=ss.length->(∀(j:Nat) (v:aa) (z:Str),vs[j]?=some v->ss[j]?=some z->∃t,v=.str z t)->jB vs ss
 |[],[],_,_=>.nil
 |v::vs,z::ss,h,k=>by obtain⟨t,rfl⟩:=k 0 v z rfl rfl;exact .cons z t (Ms vs ss (iW h) λj=>k (j+1))
 |[],_::_,h,_=>by cases h
 |_::_,[],h,_=>by cases h
theorem JX{ss:aD}(hh:A.handled=none)(hd:(d==cY)=false)(ho:s.heap.get? d=some o)(hc:o.cls=.type "dict")(hm:s.heap.DictAt (tU prog w) d kvs ep)(hn:kvs.length<64)(hk:kvs.map aO=ss.map Sum.inr)
  (hQ:∀p h2 k2 out e,s.heap.objs.size<=p->(∀b o,s.heap.get? b=some o->h2.get? b=some o)->jB out (DN ss)->h2.get? p=some (seqObj "list" out.toArray e)->Q (.ref p) { s with heap:=h2,toks:=k2 }):aj (model prog w) A (call (.builtin "sorted") [.ref d]) Q E s:=by
 refine m6 kind_sorted plain_sorted entry_sorted (args_sorted1 _) ?_;unfold c9.«sorted»;refine ag (m:=checkCount "sorted" 1 1 _) (ar ?_);refine ag (Ih (by simp[hh]) hd ho hc hm (by omega) λh2 k2 acc hz kk ia=>?_);have hl:acc.toList.length=ss.length:=by have:=ba cc hk;rw[af,af]at this;rw[bw,ia.1,this]
 have hS:jB acc.toList ss:=Ms _ _ hl λj v z e1 e2=>by
  rw[bT]at e1;obtain⟨k,x,e3,e4⟩:=ia.2 j v e1;have e5:(kvs.map aO)[j]?=some k:=by rw[bc,e3];rfl
  rw[hk,bc,e2]at e5;cases e5;exact B5 e4
 have h64:acc.toList.length<64:=by rw[bw,ia.1];exact hn
 refine ag (lR ?_);have hoL:(h2.push (seqObj "list" acc.toList.toArray 0)).get? h2.objs.size=some (seqObj "list" acc.toList.toArray 0):=bp _ rfl;show aj _ _ _ _ _ { s with heap:=h2.push (seqObj "list" acc.toList.toArray 0),toks:=k2 };refine ag (cW (fU pJ ⟨_,hoL,rfl⟩ pd (pf pY hoL hS.keysOf (λv₁ v₂ rest e=>keyKind_strs (by rw[<-e];exact hS)) h64 λst' a1 a2=>⟨_,rfl,?_⟩) (pK _)));obtain⟨ss',b1,b2,b3⟩:=pM hS a1 a2;rw[Le b2 b3]at b1;obtain⟨e,he⟩:=pZ (vs:=acc.toList) (out:=(arrOf st').map (·.2)) hoL
 refine ar ⟨_,rfl,hQ h2.objs.size _ k2 _ e hz (λb o z=>?_) b1 he⟩;have:=kk b o z;rw[pN (aR (aK this)) (by rw[cK];exact di (aK this))];exact aC _ this
end
section
variable{X:Cx}{G:Bg}{B:Bz}{k:Bool}{wv:cF}{σ:St}{H:Hp}{s:ae}
theorem Ii(hc:X.calm=true):vq X (.builtin "sorted") (λxs H Q=>∃(a:Addr) (o:Obj) (kvs:List (Key×V)) (ss:aD),xs=[.ref a]/\H a=some (.frz o (.dK kvs))/\kvs.map aO=ss.map Sum.inr/\ss.length<64/\∀p,H p=none->Q (.ref p) (upd H p (.lst ((DN ss).map V.str)))):=by
 intro wv s σ H xs us Q I r h;obtain⟨a,o,kvs,ss,rfl,he,hk,h64,q⟩:=h;obtain⟨u,rfl,ru⟩:=vals1 r;cases ru;obtain⟨q0,_,y,vs,r,ob,es,ep,e1,e2,e3,e4⟩:=(show uQ X.prog X.w H s.heap a (.frz o (.dK kvs)) from I.hok a _ he);rw[q0]at e1;cases e1;have hl:kvs.length=vs.length:=r.length;have hl2:=ba cc hk;rw[af,af]at hl2;have kv:∀{kvs:List (Key×V)} {vs:List (Key×aa)},KV kvs vs->vs.map aO=kvs.map aO:=λ{kvs vs} r=>by
  induction r with
  |nil=>rfl
  |cons h _ ih=>rw[aE,aE,ih,show _=_ from h.1]
 refine JX (I.ok.hd hc) y q0 e2.1 ⟨o,es,q0,e2,e3,e4⟩ (by omega) ((kv r).trans hk) λp h2 k2 out e hp kk hs hg=>?_;refine⟨.ref p,_,I.laid (t':=k2) kk hp ?_,rfl,q _ (I.hok.fresh hp)⟩;refine⟨?_,out,e,UX hs,hg⟩;rw[af,show (DN ss).length=ss.length from(kG ss leS).length_eq,bN];omega
def DP:List Key->Option aD
 |[]=>some []
 |.inr x::ks=>(DP ks).map (x::·)
 |_=>none
theorem JY:∀{ks:List Key} {ss:aD},DP ks=some ss->ks=ss.map Sum.inr
 |[],ss,e=>by cases e;rfl
 |.inl _::_,ss,e=>by cases e
 |.inr x::ks,ss,e=>by
  unfold DP at e;cases e1:DP ks with
  |none=>rw[e1]at e;cases e
  |some l=>rw[e1]at e;cases e;rw[JY e1];rfl
def Dl(f:FE):FA:=λρ=>match f ρ with
 |some (.dic ks ds,ρ')=>match DP ks with
  |some ss=>if ss.length<64 then some ((DN ss).map D.str,ρ')else none
  |none=>none
 |_=>none
theorem JZ(h:PE X e (tCB (λxs H Q=>∃(a:Addr) (o:Obj) (kvs:List (Key×V)) (ss:aD),xs=[.ref a]/\H a=some (.frz o (.dK kvs))/\kvs.map aO=ss.map Sum.inr/\ss.length<64/\∀p,H p=none->Q (.ref p) (upd H p (.lst ((DN ss).map V.str)))) (tFA G (tD f tY)))):PE X e (tFN G (Dl f)):=PE.weak h λσ H Q hh=>by
 obtain⟨F,ρ,H0,es,ρ',R,e,k⟩:=hh;unfold Dl at e;split at e
 ·rename_i ks ds ρ1 e1;cases e2:DP ks with
  |none=>simp only[e2]at e;cases e
  |some ss=>
   simp only[e2]at e;split at e
   ·rename_i h64;cases e;refine⟨F,ρ,H0,[.dic ks ds],_,R,by unfold tD;rw[e1];rfl,λys H1 H1' s R' rs=>?_⟩;unfold tL at rs;obtain⟨v,r0,rfl,rv,rn⟩:=rs;unfold tL at rn;subst rn;unfold Rep at rv;obtain⟨a,o,xs,rfl,r1,r2,r3⟩:=rv;refine⟨a,o,_,ss,rfl,R'.sub _ _ r1,?_,h64,λp hp=>?_⟩
    ·rw[oW (lV r2)];exact JY e2
    ·exact k p _ _ _ s (R'.newOwn hp _) tP (R'.h0none hp) (R'.bNone hp) (R'.apart hp) (Fu _)
   ·cases e
 ·cases e
end
section
variable{X:Cx}{B:Bz}{k:Nat}{e:Expr}{f:FE}{p pos:Pos}
theorem Yr [C:Cz X B k][N:Nb B "sorted"](hs:S1 X e)(hg:Gz X "sorted")(ha:ZE X B e f):ZN X B (.Call (.Name "sorted" p) [e] [] pos) (Dl f):=⟨JZ (cbI hg (by decide) hs (Ii C.c) boot_sorted (w9 ha.p xY hs))⟩
end
def Qp(f:FE)(lo hi:Option Int):FE:=λρ=>match f ρ with
 |some (.tup ds,ρ1)=>if HT.sIx ds.length 0 lo=0/\HT.sIx ds.length ds.length hi=ds.length then none else some (.tup (cutD ds lo hi),ρ1)
 |_=>none
section
variable{X:Cx}{G:Bg}
theorem NV{lo:Option Int}(h:PE X e (tSl (VL G.K) (tF G f) (tO lo) (tO hi))):PE X e (tF G (Qp f lo hi)):=PE.weak h λσ H Q hh=>by
 obtain⟨F,ρ,H0,ds,ρ',R,e,k⟩:=hh;unfold Qp at e;split at e
 ·rename_i xs ρ1 e1;split at e
  ·cases e
  ·rename_i hn;cases e;refine⟨F,ρ,H0,_,_,R,e1,λv H1 H1' s R' r=>?_⟩;unfold Rep at r;obtain⟨a,ys,rfl,h1,h2⟩:=r;rw[tN h2]at hn;exact⟨a,ys,rfl,SqT.mono R'.sub h1,hn,λp hp=>k _ _ _ (s.trans (tV (R'.h0none hp) _)) (R'.newIm hp _) (yQ (SqT.of tP) (tL.mono (tV (R'.h0none hp) _) _ _ (Fg h2)))⟩
 ·cases e
theorem sl_T(hK:X.K=G.K:=by rfl):SlR X (VL G.K):=by rw[<-hK];exact VM
end
section
variable{X:Cx}{B:Bz}{k:Nat}{e:Expr}{f:FE}{p pos:Pos}
theorem Ys{lo:Option Expr}[C:Cz X B k](he:ZE X B e f)(hl:ZK X lo l)(hh:ZK X hi h):ZE X B (.Subscript e (.Slice lo hi none p) pos) (Qp f l h):=⟨NV (ER (sl_T C.K) he.p hl.p hh.p)⟩
end
theorem Qq{α:Type}[DecidableEq α]:∀{l L:List α},l.Nodup->(∀x∈l,x∈L)->l.length<=L.length
 |[],L,_,_=>bA _
 |a::l,L,nd,h=>by have h1:=h a bg;have nd':=dq.mp nd;have:=Qq (l:=l) (L:=L.erase a) nd'.2 λx hx=>(List.mem_erase_of_ne (λe:x=a=>nd'.1 (by rw[<-e];exact hx))).mpr (h x (bu _ hx));rw[List.length_erase_of_mem h1]at this;have:=List.length_pos_of_mem h1;rw[aM];omega
structure Tb(t:bJ)(m n:Nat):Prop where
 mask:t.mask=m
 dm:t.dummies=#[]
 pl:t.place.size=n
section
variable{t:bJ}{m n:Nat}
theorem Tb.slot(T:Tb t m n)(j:Nat):(∃i,t.slot j=.live i/\t.place[i]?=some j)\/t.slot j=.empty:=by
 unfold p6;by_cases h:(t.place[bz t.place j]?==some j)=true
 ·left;simp only[h,if_true];exact⟨_,rfl,eK h⟩
 ·right;rw[oY]at h;rw[T.dm];simp[h,qg]
theorem Tb.free(T:Tb t m n)(h:n<=m):∃r,r<=m/\t.slot r=.empty:=by
 apply gB;intro no;have:(aQ (m+1)).length<=t.place.toList.length:=Qq lr λr hr=>by
  rcases T.slot r with ⟨i,_,e⟩|e
  ·rw[<-bT]at e;exact bU e
  ·exact aq ⟨r,by have:=bI.mp hr;omega,e⟩ no
 rw[cI,bw,T.pl]at this;omega
def Emp(t:bJ):Nat->c7->Prop
 |0,_=>False
 |f+1,p=>t.slot p.j=.empty\/Emp t f (t.advance p)
theorem Emp.mono:∀{f f':Nat} {p:c7},Emp t f p->f<=f'->Emp t f' p
 |0,_,_,h,_=>h.elim
 |f+1,0,_,_,h=>aq h (by omega)
 |f+1,f'+1,p,h,hl=>h.imp id λh=>h.mono (by omega)
def rs(m i q:Nat):c7:=⟨i,cx m i - i,i,q,none⟩
theorem Yt(m i:Nat):cx m i - i<=9:=by unfold cx;split<;>omega
theorem Emp.run(T:Tb t m n)(h:Emp t f (rs m ((i * 5+1+q / 32) % (m+1)) (q / 32))):∀(k j:Nat),Emp t (f+k+1) ⟨j,k,i,q,none⟩
 |0,j=>.inr (by
   have e:t.advance ⟨j,0,i,q,none⟩=rs m ((i * 5+1+q / 32) % (m+1)) (q / 32):=by unfold gS p9;rw[T.mask];rfl
   rw[e];exact h)
 |k+1,j=>.inr (by
   have e:t.advance ⟨j,k+1,i,q,none⟩=⟨j+1,k,i,q,none⟩:=by unfold gS;rw[ah (eI k)];rfl
   rw[e];exact Emp.run T h k (j+1))
theorem Emp.leap(T:Tb t m n)(h:Emp t f (rs m ((i * 5+1+q / 32) % (m+1)) (q / 32))):Emp t (f+10) (rs m i q):=
 (Emp.run T h (cx m i - i) i).mono (by have:=Yt m i;omega)
def orb(m:Nat):Nat->Nat->List Nat
 |0,_=>[]
 |k+1,i=>i::orb m k ((i * 5+1) % (m+1))
theorem Emp.orb(T:Tb t m n)(hr:t.slot r=.empty):∀(k i:Nat),r∈orb m k i->Emp t (10 * k) (rs m i 0)
 |0,i,h=>by cases h
 |k+1,i,h=>by
  rcases aN.mp h with e|h
  ·exact Emp.mono (f:=1) (.inl (by rw[e]at hr;exact hr)) (by omega)
  ·have:=Emp.leap T (q:=0) (i:=i) (Emp.orb T hr k _ h);exact this.mono (by omega)
theorem Ik{p:c7}(h:p.dummy=none):(t.advance p).dummy=none:=by unfold gS;split<;>exact h
end
theorem Yu(e:∀i,F i=F' i)(g:Nat)(p:c7):eG t F h g p=eG t F' h g p:=by obtain rfl:F=F':=funext e;rfl
section
variable{prog:aH}{w:aA}{A:aI}{E:aa->ae->Prop}{s:ae}
theorem Qr(h1:∀v∈l,∃k a,v=.ref a/\TK prog w s.heap k a)(h2:TK prog w s.heap k2 a2)(h:Q false s):aj (model prog w) A (searchCouldBeSeen (.ref a2) l) Q E s:=by
 unfold searchCouldBeSeen;refine ag ?_;show aj _ _ (forIn l _ _) _ _ s;refine lj _ (λrest r s'=>r=(none,())/\s'=s/\∀v∈rest,∃k a,v=.ref a/\TK prog w s.heap k a) _ ?_ ?_ _ _ ⟨rfl,rfl,h1⟩
 ·rintro v rest r s' ⟨rfl,rfl,hall⟩;obtain⟨k,a1,rfl,h1⟩:=hall v bg;have go:∀v∈rest,∃k a,v=Value.ref a/\TK prog w s'.heap k a:=λu hu'=>hall u (bu _ hu');dsimp only;split
  ·exact ar ⟨rfl,rfl,go⟩
  ·refine ag (nM h2 ?_);refine ag (nM h1 ?_);refine ag (Mg h2 ?_);refine ag (Mg h1 ?_);exact ar ⟨rfl,rfl,go⟩
 ·rintro r s' ⟨rfl,rfl,_⟩;exact ar h
end
def Nn(ow:Array (Option Nat))(j:Nat):Prop:=(ow.getD j (some 0)).isNone=true
section
variable{ow:Array (Option Nat)}
def lv(ow:Array (Option Nat)):List (Nat×Nat):=(aQ 32).filterMap λj=>(ow.getD j none).map (j,·)
end
def Cz2(m n:Nat):Prop:=(m=7/\n<=4)\/(m=31/\n<=18)\/(m=127/\19<=n/\n<=63)
section
variable{prog:aH}{w:aA}{A:aI}{E:aa->ae->Prop}{s:ae}
theorem Qs(hk:TK prog w s.heap (Sum.inr x::ks) a)(h:Q false s):aj (model prog w) A (hashByValue 8 (.ref a)) Q E s:=by
 have hT:=hk.typeIs;obtain⟨o,items,n,ho,_,hd,hi⟩:=hk;unfold hashByValue;refine ag (gV hT F.slot_tuple_hash.lookup ?_);show aj _ _ (seqItems? (.ref a)>>=_) _ _ s;refine ag (lG ho hd ?_);refine ag ?_;show aj _ _ (forIn items _ _) _ _ s;rw[<-oo];generalize items.toList=l at hi ⊢;cases hi with
 |@cons _ v _ vs h1 h2=>
  obtain⟨t,rfl⟩:∃t,v=.str x t:=B5 h1;refine lj _ (λrest r s'=>s'=s/\∃u,rest=.str x t::u) _ ?_ ?_ _ _ ⟨rfl,vs,rfl⟩
  ·rintro v rest r s' ⟨rfl,u,e⟩;cases e;refine ag (m:=hashByValue 7 (.str x t)) (ar ?_);exact ar (ar h)
  ·rintro r s' ⟨rfl,u,e⟩;cases e
end
structure AG(h:Heap)(S:Addr)(L:List (List Key×Addr))(led:Bool)(n:Nat)(o:Obj)(es:Array (Int×aa))(ep:Nat)(t:bJ):Prop where
 at_:h.get? S=some o
 ex:o.ExactSet
 d:o.data=.set es ep t
 c:∃m,Tb t m n/\Cz2 m n
 led:t.led=led
 pl:0<n->t.plain=false
 p:(es.toList.map cp).Perm (L.map λq=>Value.ref q.2)
theorem AG.sz{h:Heap}{S:Addr}{L:List (List Key×Addr)}{led:Bool}{n:Nat}{o:Obj}{es:Array (Int×aa)}{ep:Nat}{t:bJ}(x:AG h S L led n o es ep t):es.size=L.length:=by have:=x.p.length_eq;rw[af,af,bw]at this;exact this
theorem AG.fits{h:Heap}{S:Addr}{L:List (List Key×Addr)}{led:Bool}{n:Nat}{o:Obj}{es:Array (Int×aa)}{ep:Nat}{t:bJ}(x:AG h S L led n o es ep t)(hl:L.length=n):t.fits es.size=true:=by obtain⟨m,T,c⟩:=x.c;unfold gZ lS;rw[x.sz,hl,T.pl,T.dm,T.mask,aZ];exact⟨by simp,aY (by unfold Cz2 at c;simp;omega)⟩
theorem Il{α:Type}:∀(l:List α) (j:Nat) (x:α),l[j]?=some x->(x::l.eraseIdx j).Perm l
 |[],j,x,h=>by cases h
 |a::l,0,x,h=>by cases h;exact .refl _
 |a::l,j+1,x,h=>(List.Perm.swap a x _).trans (List.Perm.cons a (Il l j x h))
theorem Mt{α:Type}(nx:Nat->Nat):∀(f k:Nat) (l:List α) (out:Array α),l.length=f->(qh nx f k l out).toList.Perm (out.toList++l)
 |0,k,l,out,h=>by obtain rfl:=iz.mp h;rw[bq];exact .refl _
 |f+1,k,l,out,h=>by have hlt:nx k % l.length<l.length:=dQ _ (by omega);have e:l[nx k % l.length]?=some l[nx k % l.length]:=aJ hlt;unfold qh;rw[e];refine(Mt nx f (k+1) _ _ (by rw[nV,ah hlt];omega)).trans ?_;rw[kX,bD];exact List.Perm.append_left _ (Il l _ _ e)
theorem G2{α:Type}(nx:Nat->Nat)(xs:Array α):(pickOrder nx xs).toList.Perm xs.toList:=Mt nx xs.size 0 xs.toList #[] bw
section
variable{prog:aH}{w:aA}{A:aI}{E:aa->ae->Prop}{s:ae}
theorem T4(hn:n≠0)(h:∀i d,i<n->Q i { s with drawn:=d }):aj (model prog w) A (choose src n) Q E s:=λΓ p hΓ=>by show Sem.wp _ Γ (.choose src n .pure) _ _ p s;rw[Sem.wp_choose];exact⟨hn,h _ _ (dQ _ (Nat.pos_of_ne_zero hn))⟩
theorem Mu{α:Type}:∀(n:Nat) (xs:List α) (s:ae) {Q:List α->ae->Prop},xs.length=n->(∀ys d,ys.Perm xs->Q ys { s with drawn:=d })->aj (model prog w) A (drawOrder n xs) Q E s
 |0,xs,s,Q,hl,h=>by obtain rfl:=iz.mp hl;unfold drawOrder;exact ar (h [] s.drawn (.refl _))
 |n+1,[],s,Q,hl,h=>by cases hl
 |n+1,a::xs,s,Q,hl,h=>by unfold drawOrder;refine ag (T4 (by simp) λi d hi=>?_);have e:(a::xs)[i]?=some (a::xs)[i]:=aJ hi;rw[e];refine ag (Mu n _ _ (by rw[nV,ah hi];omega) λys d' p=>?_);exact ar (h _ d' ((List.Perm.cons _ p).trans (Il _ _ _ e)))
end
theorem xf:Slot "set_iterator" "__next__" "set_iterator.__next__" :=
 .of (owner:="set_iterator") (n:="__next__") (by rw[ph,nN];kernel_rfl) (by decide +kernel) (by decide +kernel) (by decide +kernel)
  (by first|exact .inl (by decide +kernel)|exact .inr (by decide +kernel)) (by rw[iQ];kernel_rfl)
theorem Cb:Slot "set_iterator" "__iter__" "set_iterator.__iter__" :=
 .of (owner:="set_iterator") (n:="__iter__") (by rw[ph,nN];kernel_rfl) (by decide +kernel) (by decide +kernel) (by decide +kernel)
  (by first|exact .inl (by decide +kernel)|exact .inr (by decide +kernel)) (by rw[iQ];kernel_rfl)
theorem Gm:entryFor table "set_iterator.__next__" = some c9.«set_iterator.__next__»:=entryFor_of_tree (by kernel_rfl)
theorem J0:Manifest.owners.lookup (String.ofList ['r','o','t','a','r','e','t','i','_','t','e','s'].reverse)=some Manifest.sig_set_iterator:=by kernel_rfl
theorem Im(a:aa):argsOk "set_iterator.__next__" ⟨[a],[]⟩:=by unfold argsOk;rw[qa (id:="set_iterator.__next__") (n:=['_','_','t','x','e','n','_','_']) (o:=['r','o','t','a','r','e','t','i','_','t','e','s']) (by kernel_rfl) J0];kernel_rfl
theorem Io:entryFor table "set.__iter__" = some c9.«frozenset.__iter__»:=pO (id':="frozenset.__iter__") (by kernel_rfl) rfl (by decide +kernel) (by kernel_rfl)
inductive Md(w:aA) (h:Heap) (S TP:Addr) (i:Nat) (ord:List aa) (es:Array (Int×aa)) (ep:Nat) (t:bJ):aa->Prop
 |txt {sl:Int} {tk:Tok}:w.params.followText "set-order" = true->ord=(pickOrder (w.params.setOrder S ep) es).toList.map cp->Md w h S TP i ord es ep t (.int sl tk)
 |drw {ps:List Nat} {vs:Array aa} {ot:Obj} {nt:Nat}:w.params.followText "set-order" = false->h.get? TP=some ot->ot.cls=.type "tuple" -> ot.data=.seq vs nt->vs=(ps.map λp:Nat=>rawInt p).toArray->ps.Perm (aQ es.size)->ord=ps.filterMap (λp=>es[p]?.map cp)->Md w h S TP i ord es ep t (.ref TP)
 |one {sl:Int}:w.params.followText "set-order" = false->es.size<=1->t.led=true->(i=0->sl=0)->(∀j,i=1->t.place=#[j]->sl=(j+1:Nat))->ord=es.toList.map cp->Md w h S TP i ord es ep t (.int sl 0)
structure ItS(w:aA)(I S TP:Addr)(ord:List aa)(o:Obj)(es:Array (Int×aa))(ep:Nat)(t:bJ)(i:Nat)(h:Heap):Prop where
 it:∃oi first,h.get? I=some oi/\oi.cls=.type "set_iterator" /\ oi.data=.fields #[first,.int i 0,.ref S,.int es.size 0,.int ep 0]/\Md w h S TP i ord es ep t first
 at_:h.get? S=some o
 d:o.data=.set es ep t
 f:t.fits es.size=true
section
variable{prog:aH}{w:aA}{A:aI}{E:aa->ae->Prop}{s:ae}{I S TP:Addr}{ord:List aa}{o:Obj}{es:Array (Int×aa)}{ep:Nat}{t:bJ}{i:Nat}
theorem Dm(h:Q (w.params.followText "set-order") s):aj (model prog w) A setsByText Q E s:=by unfold setsByText;exact ag (lp (ar h))
theorem Lh{tk:Tok}(x:ItS w I S TP ord o es ep t i s.heap)(hm:Md w s.heap S TP i ord es ep t (.int sl tk))(hi:i<=1\/w.params.followText "set-order" = true)
  (hQ:∀(v:aa) (nx:Nat),ord[i]?=some v->Md w s.heap S TP (i+1) ord es ep t (.int nx 0)->Q (some (v,nx)) s) (hN:ord[i]?=none->Q none s):aj (model prog w) A (setNext S sl.toNat i ep) Q E s:=by
 unfold setNext;refine ag (dj x.at_ x.d x.f ?_);dsimp only;refine ag (Dm ?_);cases hm with
 |txt h1 h2=>
  rw[h1,ah rfl];rw[ai (by simp)];refine ag ?_;unfold setWalk;refine ag (dj x.at_ x.d x.f ?_);dsimp only;refine ag (Dm ?_);rw[h1,ah rfl];refine ag (lp ?_);refine ar ?_;refine ar ?_;show Q (qD (λe=>(e.snd,sl.toNat)) (pickOrder (w.params.setOrder S ep) es)[i]?) s;have e:ord[i]?=((pickOrder (w.params.setOrder S ep) es)[i]?).map cp:=by rw[h2,bc,bT]
  cases hp:(pickOrder (w.params.setOrder S ep) es)[i]? with
  |none=>rw[hp]at e;exact hN e
  |some q=>rw[hp]at e;exact hQ q.2 _ e (.txt h1 h2)
 |one h1 h2 h3 h4 h5 h6=>
  have fs:t.place.size=es.size:=by have:=x.f;unfold gZ at this;rw[aZ,beq_iff_eq]at this;exact this.1
  rw[h1,ai (by decide)];rw[ai (λhh=>by
   have:(!t.plain&&decide (es.size > 1))=true:=hh;simp at this;omega)]
  refine ag ?_;wp_delta;rw[ai (by rw[h3];simp)];refine ar ?_;refine ar ?_;have c:es.size=0\/es.size=1:=by omega
  rcases c with c|c
  ·have e1:es=#[]:=Array.eq_empty_of_size_eq_zero c;subst e1;exact hN (by rw[h6];rfl)
  ·obtain⟨e,rfl⟩:=nO.mp c;obtain⟨j,ej⟩:=nO.mp (fs.trans c);rw[ej];have hi1:i<=1:=hi.resolve_right λe=>by rw[h1]at e;cases e
   have:i=0\/i=1:=by omega
   rcases this with rfl|rfl
   ·rw[h4 rfl];show Q (match #[e][bz #[j] 0]?,#[j][bz #[j] 0]? with|some (_,x),some j=>some (x,j+1)|_,_=>none) s;rw[show bz #[j] 0=0 from by simp[bz,gQ]];exact hQ e.2 (j+1) (by rw[h6];rfl) (.one h1 h2 h3 (λz=>by cases z) (λj' _ e'=>by rw[ej]at e';cases e';rfl) h6)
   ·rw[h5 j rfl ej];show Q (match #[e][bz #[j] (j+1)]?,#[j][bz #[j] (j+1)]? with|some (_,x),some j=>some (x,j+1)|_,_=>none) s;rw[show bz #[j] (j+1)=1 from by simp[bz,gQ]];exact hN (by rw[h6];rfl)
theorem ItS.ty(x:ItS w I S TP ord o es ep t i s.heap):s.TypeIs (.ref I) "set_iterator" := let ⟨⟨oi,_,h1,h2,_⟩,_,_,_⟩:=x;⟨oi,h1,h2⟩
theorem ItS.ordlen(x:ItS w I S TP ord o es ep t i s.heap):ord.length=es.size:=by
 obtain⟨⟨oi,first,_,_,_,hm⟩,_,_,_⟩:=x;cases hm with
 |txt h1 h2=>rw[h2,af,(G2 _ es).length_eq,bw]
 |drw h1 h2 h3 h4 h5 h6 h7=>rw[h7,(h6.filterMap _).length_eq];have:=kx es;rw[show (aQ es.size).filterMap (λp=>es[p]?.map cp)=((aQ es.size).filterMap λp=>es[p]?).map cp from(ox ..).symm,this,af,bw]
 |one h1 h2 h3 h4 h5 h6=>rw[h6,af,bw]
theorem Qt{α β:Type}(f:α->Option β):∀(ps:List α),(∀p∈ps,∃v,f p=some v)->∀i:Nat,(ps.filterMap f)[i]?=ps[i]?.bind f
 |[],_,i=>rfl
 |p::ps,h,i=>by
  obtain⟨v,e⟩:=h p bg;rw[de,e];cases i with
  |zero=>show some v=f p;rw[e]
  |succ i=>exact Qt f ps (λq hq=>h q (bu _ hq)) i
theorem Md.mv{tk:Tok}(m:Md w h S TP i ord es ep t (.int sl tk)):Md w h' S TP i ord es ep t (.int sl tk):=by
 cases m with
 |txt h1 h2=>exact .txt h1 h2
 |one h1 h2 h3 h4 h5 h6=>exact .one h1 h2 h3 h4 h5 h6
theorem Mv{B:aI}{R:Fin->ae->Prop}{s0:ae}{Q:Option aa->ae->Prop}(hh:B.handled=none)(hN:∀h',(∀b o,s0.heap.get? b=some o->h'.get? b=some o)->Q none { s0 with heap:=h' }):
  aj (model prog w) B (do let e<-newExc (.type "StopIteration") [];raiseNew e) R (λe s'=>aj (model prog w) A (do if<-isInstance e (.type "StopIteration")then pure none else throw e) Q E s') s0:=by
 refine ag ?_;simp only[newExc,newTuple];refine ag (dh ?_ (by size_fits));refine ag (m:=firstArgMember _ _) (wpAny_of_eq (a:=Value.none) (by first|rfl|(simp only[firstArgMember];rfl)) ?_);refine dh ?_ (by size_fits);simp only[raiseNew];refine ag (wpAny_handled ?_);rw[hh];refine ag (ar (wpAny_throw ?_));refine ag (lu (T:="StopIteration") (b:=true) ⟨_,bp _ rfl,rfl⟩ isSubtype_stop ?_);exact ar (hN _ λb o e=>aC _ (aC _ e))
theorem Qu(hh:A.handled=none)(x:ItS w I S TP ord o es ep t i s.heap)(hi:i<=ord.length)(hS:S≠I)(hT:TP≠I)
  (hQ:∀v h',ord[i]?=some v->f9 I s.heap h'->ItS w I S TP ord o es ep t (i+1) h'->Q (some v) { s with heap:=h' }) (hN:∀h',ord[i]?=none->Heap.ExtBut I s.heap h'->Q none { s with heap:=h' }):
  aj (model prog w) A (pyNext (.ref I)) Q E s:=by
 have ol:=x.ordlen;obtain⟨oi,first,hoi,hci,hdi,hm⟩:=x.it;unfold pyNext;refine ag (wpAny_attempt (nh (name:=jT "__next__") x.ty xf (fU xf x.ty Gm ?_ (Im _))));show aj _ _ (fieldsOf (.ref I)>>=_) _ _ s;refine ag (wpAny_fieldsOf hoi hdi ?_);show aj _ _ (setEntries S>>=_) _ _ s;refine ag ?_;unfold setEntries;refine ag (dj x.at_ x.d x.f ?_);refine ar ?_;dsimp only;rw[ai (by simp)];simp only[iK];have byint:∀(sl:Int) (tk:Tok),first=.int sl tk->(i<=1\/w.params.followText "set-order" = true)->aj (model prog w) A.in1 (do
   let r<-setNext S sl.toNat i ep
   match r with
    |some (x,next)=>do
     setField (Value.ref I) 0 (rawInt ↑next)
     setField (Value.ref I) 1 (rawInt (↑i+1))
     ret x
    |none=>do
     setField (Value.ref I) 2 Value.none
     let e<-newExc (Value.type "StopIteration") []
     raiseNew e) (λfin s'=>∃v,fin=Fin.done (Flow.ret v)/\aj (model prog w) A (pure (some v)) Q E s') (λe s'=>aj (model prog w) A (do if<-isInstance e (.type "StopIteration")then pure none else throw e) Q E s') s:=λsl tk e hi'=>by
  subst e;refine ag (Lh x hm hi' (λv nx ev m=>?_) λev=>?_)
  ·refine ag (gX hoi hdi (by simp) ?_);have g1:=eA (h:=s.heap) (f6 (·.setIfInBounds 0 (rawInt (nx:Int)))) hoi (jA (eW hdi _))
   have d1:=eW hdi (·.setIfInBounds 0 (rawInt (nx:Int)))
   refine ag (gX g1 d1 (by simp) ?_);have g2:=eA (f6 (·.setIfInBounds 1 (rawInt ((i:Int)+1)))) g1 (jA (eW d1 _))
   have d2:=eW d1 (·.setIfInBounds 1 (rawInt ((i:Int)+1)))
   have sb:=(eD s.heap I (f6 (·.setIfInBounds 0 (rawInt (nx:Int))))).trans (eD _ I (f6 (·.setIfInBounds 1 (rawInt ((i:Int)+1)))))
   refine ar ⟨v,rfl,ar (hQ v _ ev sb ⟨⟨_,.int nx 0,g2,(kY ..).trans ((kY ..).trans hci),?_,m.mv⟩,?_,x.d,x.f⟩)⟩
   ·rw[d2];simp[rawInt]
   ·rw[sb.2 S hS];exact x.at_
  ·refine ag (gX hoi hdi (by simp) ?_);exact Mv (by simp[hh]) λh' k=>hN h' ev λb o hb e=>k b o (by rw[(eD ..).2 b hb];exact e)
 cases hm with
 |txt h1 h2=>exact byint _ _ rfl (.inr h1)
 |one h1 h2 h3 h4 h5 h6=>exact byint _ _ rfl (.inl (by omega))
 |@drw ps vs ot nt h1 h2 h3 h4 h5 h6 h7=>
  show aj _ _ (seqItems? (.ref TP)>>=_) _ _ s;refine ag (lG h2 h4 ?_);have al:∀p∈ps,∃v,(es[p]?.map cp)=some v:=λp hp=>by have:=bI.mp (h6.mem_iff.mp hp);exact⟨es[p].2,by rw[cQ this];rfl⟩
  have eg:ord[i]?=ps[i]?.bind λp=>es[p]?.map cp:=by rw[h7];exact Qt _ ps al i
  have ev:vs[i]?=ps[i]?.map λp:Nat=>rawInt p:=by rw[h5,jz,bc]
  cases ep':ps[i]? with
  |none=>
   rw[ep']at ev eg;dsimp only;rw[ev];refine ag (gX hoi hdi (by simp) ?_);have g1:=eA (h:=s.heap) (f6 (·.setIfInBounds 0 (rawInt 0))) hoi (jA (eW hdi _))
   have d1:=eW hdi (·.setIfInBounds 0 (rawInt 0))
   refine ag (gX g1 d1 (by simp) ?_);exact Mv (by simp[hh]) λh' k=>hN h' eg λb o hb e=>k b o (by rw[(eD ..).2 b hb,(eD ..).2 b hb];exact e)
  |some p=>
   rw[ep']at ev eg;obtain⟨v,e1⟩:=al p (bU ep');dsimp only;rw[ev];show aj _ _ (setNextDrawn S (p:Int).toNat ep>>=_) _ _ s;rw[iK];refine ag ?_;unfold setNextDrawn;refine ag (dj x.at_ x.d x.f ?_);dsimp only;rw[ai (by simp)];cases e2:es[p]? with
   |none=>rw[e2]at e1;cases e1
   |some q=>
    rw[e2]at e1;refine ar ?_;refine ag (gX hoi hdi (by simp) ?_);have g1:=eA (h:=s.heap) (f6 (·.setIfInBounds 1 (rawInt ((i:Int)+1)))) hoi (jA (eW hdi _))
    have d1:=eW hdi (·.setIfInBounds 1 (rawInt ((i:Int)+1)))
    have sb:=eD s.heap I (f6 (·.setIfInBounds 1 (rawInt ((i:Int)+1))))
    refine ar ⟨_,rfl,ar (hQ _ _ (by rw[eg];show es[p]?.map cp=_;rw[e2];rfl) sb ⟨⟨_,.ref TP,g1,(kY ..).trans hci,?_,.drw h1 (by rw[sb.2 TP hT];exact h2) h3 h4 h5 h6 h7⟩,?_,x.d,x.f⟩)⟩
    ·rw[d1];simp[rawInt]
    ·rw[sb.2 S hS];exact x.at_
end
theorem Gp:entryFor table "set_iterator.__iter__" = some c9.«dict_keyiterator.__iter__»:=pO (id':="dict_keyiterator.__iter__") (by kernel_rfl) rfl (by decide +kernel) (by kernel_rfl)
theorem Ip(a:aa):argsOk "set_iterator.__iter__" ⟨[a],[]⟩:=by unfold argsOk;rw[qa (id:="set_iterator.__iter__") (n:=['_','_','r','e','t','i','_','_']) (o:=['r','o','t','a','r','e','t','i','_','t','e','s']) (by kernel_rfl) J0];kernel_rfl
section
variable{prog:aH}{w:aA}{A:aI}{E:aa->ae->Prop}{s:ae}{I S TP:Addr}{ord:List aa}{o:Obj}{es:Array (Int×aa)}{ep:Nat}{t:bJ}
theorem Md.at{h':Heap}(m:Md w h S TP i ord es ep t f)(k:∀o,h.get? TP=some o->h'.get? TP=some o):Md w h' S TP i ord es ep t f:=by
 cases m with
 |txt h1 h2=>exact .txt h1 h2
 |one h1 h2 h3 h4 h5 h6=>exact .one h1 h2 h3 h4 h5 h6
 |drw h1 h2 h3 h4 h5 h6 h7=>exact .drw h1 (k _ h2) h3 h4 h5 h6 h7
theorem Yv(hh:A.handled=none)(hS:S≠I)(hT:TP≠I):Walks prog w A I [I,S,TP] [I] ord.length (λi v=>ord[i]?=some v) (λi h=>ItS w I S TP ord o es ep t i h/\i<=ord.length) where
 sub:=λb hb=>by simp at hb;simp[hb]
 frame:=λi h h' st hk=>by obtain⟨⟨⟨oi,f,h1,h2,h3,hm⟩,h4,h5,h6⟩,h7⟩:=st;exact⟨⟨⟨oi,f,hk I (by simp) _ h1,h2,h3,hm.at λo e=>hk TP (by simp) o e⟩,hk S (by simp) _ h4,h5,h6⟩,h7⟩
 item:=λi s Q E hi st hQ=>Qu hh st.1 st.2 hS hT (λv h' ev sb x=>hQ v h' s.toks ev ⟨x,by omega⟩ λb o hb e=>by rw[sb.2 b λz=>hb (by simp[z])];exact e) λh' en _=>by rw[aJ hi]at en;cases en
 done:=λs Q E st hQ=>Qu hh st.1 st.2 hS hT (λv h' ev _ _=>by rw[gG (ay _)]at ev;cases ev) λh' _ k=>hQ h' s.toks λb o hb e=>k b o (λz=>hb (by simp[z])) e
 self:=λi s Q E st h=>by refine oM st.1.ty Cb (fU Cb st.1.ty Gp ?_ (Ip _));show aj _ _ (ret (.ref I)) _ _ s;exact ar ⟨_,rfl,"set_iterator", _,st.1.ty,xf.lookup,h⟩
theorem Yy(x:AG s.heap S L (!w.params.followText "set-order") n o es ep t)(hl:L.length=n)
  (hQ:∀(h':Heap) (I TP:Addr) (ord:List aa) (d:Drawn),s.heap.objs.size<=I->I<h'.objs.size->TP≠I->(TP=S\/s.heap.objs.size<=TP)->(∀b o,s.heap.get? b=some o->h'.get? b=some o)->ItS w I S TP ord o es ep t 0 h'->ord.Perm (L.map λq=>Value.ref q.2)->Q (.ref I) { s with heap:=h',drawn:=d }):
  aj (model prog w) A (pyIter (.ref S)) Q E s:=by
 have hf:=x.fits hl;have ty:s.TypeIs (.ref S) "set" := ⟨o,x.at_,x.ex.1⟩;have hlt:=aK x.at_;refine oM ty pj (fU pj ty Io ?_ (F.args_set_iter_1 _));unfold c9.«frozenset.__iter__»;refine ag (m:=rX _ _) (ar ?_);refine ag ?_;unfold rV setEntries;refine ag (ag (dj x.at_ x.d hf (ar ?_)));refine ar ?_;refine ag ?_;unfold setDrawn;refine ag (dj x.at_ x.d hf ?_);dsimp only;refine ag (Dm ?_);refine ar ?_;have plain0:(w.params.followText "set-order" = true\/(w.params.followText "set-order" = false/\es.size<=1))->aj (model prog w) A.in1 (do
   let first<-pure (rawInt 0)
   let e<-setEpoch S;let r<-newFields "set_iterator" [first,rawInt 0,Value.ref S,rawInt ↑es.size,rawInt ↑e]
   ret r) (λfin s'=>∃v,fin=Fin.done (Flow.ret v)/\∃T' r,s'.TypeIs v T'/\typeLookup (Value.type T') (jT "__next__")=pure (some r)/\Q v s') E s:=λc=>by
  refine ag (ar ?_);refine ag (oN x.at_ x.d hf ?_);refine ag (dh ?_);have kk:∀(o':Obj) (b:Addr) (o:Obj),s.heap.get? b=some o->(s.heap.push o').get? b=some o:=λo' b o e=>aC _ e;have it:∀ord,Md w (s.heap.push { cls:=.type "set_iterator", data:=.fields [rawInt 0,rawInt 0,Value.ref S,rawInt ↑es.size,rawInt ↑ep].toArray }) S S 0 ord es ep t (.int 0 0)->ord.Perm (L.map λq=>Value.ref q.2)->_:=λord m p=>ar (M:=model prog w) (A:=A.in1) (E:=E) (Q:=λfin s'=>∃v,fin=Fin.done (Flow.ret v)/\∃T' r,s'.TypeIs v T'/\typeLookup (Value.type T') (jT "__next__")=pure (some r)/\Q v s') ⟨.ref s.heap.objs.size,rfl,"set_iterator", _,⟨_,bp _ rfl,rfl⟩,xf.lookup,hQ _ s.heap.objs.size S ord s.drawn (ay _) (by rw[cK];exact cR _) (aR hlt) (.inl rfl) (kk _) ⟨⟨_,.int 0 0,bp _ rfl,rfl,rfl,m⟩,kk _ _ _ x.at_,x.d,hf⟩ p⟩;rcases c with c|⟨c1,c2⟩
  ·exact it _ (.txt c rfl) (((G2 _ es).map _).trans x.p)
  ·exact it _ (.one c1 c2 (by rw[x.led,c1];rfl) (λ_=>rfl) (λj e=>by cases e) rfl) x.p
 cases c:w.params.followText "set-order" with
 |true=>rw[ai (by simp)];exact plain0 (.inl c)
 |false=>
  by_cases h1:es.size<=1
  ·rw[ai λhh=>by
    have:(!false&&(!t.plain&&decide (es.size > 1)))=true:=hh;simp at this;omega]
   exact plain0 (.inr ⟨c,h1⟩)
  ·have pl:t.plain=false:=x.pl (by have:=x.sz;omega);rw[ah (by show (!false&&(!t.plain&&decide (es.size > 1)))=true;rw[pl];simp;omega)];refine ag (Mu es.size _ s cI λys d p=>?_);refine ag (pI ?_ (by
    rw[af,p.length_eq,cI,x.sz,hl,bN];obtain⟨m,T,c⟩:=x.c;unfold Cz2 at c;omega))
   refine ag (oN (aC _ x.at_) x.d hf ?_);refine ag (dh ?_);have kk:∀(o1 o2:Obj) (b:Addr) (o:Obj),s.heap.get? b=some o->((s.heap.push o1).push o2).get? b=some o:=λo1 o2 b o e=>aC _ (aC _ e);have ord:(ys.filterMap λp=>es[p]?.map cp).Perm (L.map λq=>Value.ref q.2):=by refine(p.filterMap _).trans ?_;rw[show (aQ es.size).filterMap (λp=>es[p]?.map cp)=((aQ es.size).filterMap λp=>es[p]?).map cp from(ox ..).symm,kx];exact x.p
   refine ar ⟨_,rfl,"set_iterator", _,⟨_,bp _ rfl,rfl⟩,xf.lookup,hQ _ _ s.heap.objs.size _ d ?_ ?_ ?_ (.inr (ay _)) (kk _ _) ⟨⟨_,.ref s.heap.objs.size,bp _ rfl,rfl,rfl,.drw c (aC _ (bp _ rfl)) rfl rfl rfl p rfl⟩,kk _ _ _ _ x.at_,x.d,hf⟩ ord⟩
   ·rw[cK];exact ic _
   ·exact Nat.lt_of_lt_of_eq (cR _) (cK _ _).symm
   ·rw[cK];exact aR (cR _)
end
section
variable{prog:aH}{w:aA}{A:aI}{E:aa->ae->Prop}{s:ae}{S:Addr}{o:Obj}{es:Array (Int×aa)}{ep:Nat}{t:bJ}{L:List (List Key×Addr)}{n:Nat}
theorem AG.kept{h h':Heap}{led:Bool}(x:AG h S L led n o es ep t)(k:∀o,h.get? S=some o->h'.get? S=some o):AG h' S L led n o es ep t:={ x with at_:=k _ x.at_ }
theorem J1(hh:A.handled=none)(x:AG s.heap S L (!w.params.followText "set-order") n o es ep t)(hl:L.length=n)
  (hQ:∀h2 k2 d2 acc,s.heap.objs.size<=h2.objs.size->(∀b o,s.heap.get? b=some o->h2.get? b=some o)->acc.Perm (L.map λq=>Value.ref q.2)->Q acc { s with heap:=h2,toks:=k2,drawn:=d2 }):aj (model prog w) A (collect (.ref S)) Q E s:=by
 have hlt:=aK x.at_;have n9:n<=63:=by obtain⟨m,T,c⟩:=x.c;unfold Cz2 at c;omega
 let lO:Obj:={ cls:=.type "list", data:=.seq ([]:List aa).toArray };unfold collect;refine ag (lH (dD nJ ?_));rw[eC nL _];show aj _ A.in1 (newList []>>=λl=>again (.builtin "list.__iadd__" ⟨[l,.ref S],[]⟩)) _ _ s;refine ag (dh ?_);refine ar ⟨fA jK _,dD oK ?_⟩;rw[eC jK _];show aj _ A.in1 (jm (.ref s.heap.objs.size) (.ref S) (.ref s.heap.objs.size)) _ _ _;have ez:(s.heap.push lO).objs.size=s.heap.objs.size+1:=cK _ _;have x1:AG (s.heap.push lO) S L (!w.params.followText "set-order") n o es ep t:=x.kept λo e=>aC _ e;have T1:iU { s with heap:=s.heap.push lO } (.ref S) "set" := ⟨o,x1.at_,x.ex.1⟩;unfold jm;refine ag (hJ T1 ?_);rw[ai (by
  have:jv (.ref s.heap.objs.size) (.ref S)=false:=by simp[jv];exact λe=>aq e (dG hlt)
  rw[this];decide)]
 refine ag (Yy (s:={ s with heap:=s.heap.push lO }) x1 hl λh3 I TP ord d3 hI1 hI2 hTI hTP kk it po=>?_);have hI:s.heap.objs.size+1<=I:=by rw[<-ez];exact hI1
 have L3:h3.get? s.heap.objs.size=some lO:=kk _ _ (bp _ rfl);have T3:iU { s with heap:=h3,drawn:=d3 } (.ref S) "set" := ⟨o,it.at_,x.ex.1⟩;have K3:∀b o,s.heap.get? b=some o->h3.get? b=some o:=λb o e=>kk b o (aC _ e);show aj _ A.in1 (holding [.ref I] (jn (.ref S))>>=_) _ _ { s with heap:=h3,drawn:=d3 };refine ag (cW ?_);unfold jn;refine ag (gV T3 F.slot_set_len.lookup ?_);generalize hid:("set.__len__" : String)=id0;wp_delta;rw[show splitId id0=some ("set", "__len__") from by subst hid;decide +kernel];subst hid;refine ag (lu T3 sub_set_self ?_);dsimp only;rw[ai (by decide),ah (by decide +kernel)];refine ag (hJ T3 ?_);refine ar ?_;rw[ah (by decide +kernel)];refine ag (mm ?_);refine ag ?_;show aj _ A.in1 (updateSeq s.heap.objs.size (·.push .none)>>=λ_=>updateSeq s.heap.objs.size (·.pop)) _ _ _
 refine ag (iP L3 rfl ?_);have S2:=eA (cB (·.push Value.none)) L3 rfl
 refine iP S2 rfl ?_;have S3:=eA (cB (·.pop)) S2 rfl
 have oth:∀b o,b≠s.heap.objs.size->h3.get? b=some o->((h3.update s.heap.objs.size (cB (·.push Value.none))).update s.heap.objs.size (cB (·.pop))).get? b=some o:=
  λb o hb e=>(fQ _ _ (cD hb)).trans ((fQ _ _ (cD hb)).trans e)
 have hSI:S≠I:=aR (b0 hlt (oO hI));have hSf:s.heap.objs.size∉[I,S,TP]:=by
  intro z;rcases aN.mp z with z|z
  ·exact aq z (aR hI)
  ·rcases aN.mp z with z|z
   ·exact aq z (dG hlt)
   ·rw[aV]at z;rcases hTP with e|e
    ·exact aq (z.trans e) (dG hlt)
    ·rw[<-z,ez]at e;exact aq e (Nat.not_succ_le_self _)
 have W:=Yv (prog:=prog) (w:=w) (A:=A.in1) (I:=I) (S:=S) (TP:=TP) (ord:=ord) (o:=o) (es:=es) (ep:=ep) (t:=t) (by simp[hh]) hSI hTI;have ol:ord.length<=63:=by rw[po.length_eq,af,hl];exact n9
 refine ar ⟨fA oe _,nU W.toS (by rw[bN];omega) _ hSf _ ord.length 0 _ _ _ rfl (bA _)
  (W.frame 0 h3 _ ⟨it,bA _⟩ λb hb o e=>oth b o (λz=>hSf (by rw[<-z];exact hb)) e) S3 (qw _) λs' acc' c' hm hS' hacc=>?_⟩
 show aj _ A (load s.heap.objs.size>>=_) _ _ s';refine ag (mf hS' ?_);have ea:acc'.toList=ord:=by
  apply kQ;intro j;cases e:acc'.toList[j]? with
  |none=>rw[List.getElem?_eq_none_iff,bw,hacc.1]at e;exact(gG e).symm
  |some v=>rw[bT]at e;exact(hacc.2 j v e).symm
 obtain⟨h2,g2,d2,k2,o2⟩:=s';have eg:g2=s.gens:=hm.gens;have eo:o2=s.os:=hm.os;subst eg eo;refine ar (hQ h2 k2 d2 acc'.toList (hE (aK hS')) (λb o e=>?_) (by rw[ea];exact po));have hb:=aK e;exact hm.heap b o (λz=>by
  rcases aN.mp z with z|z
  ·exact aq z (aR hb)
  ·exact aq (aV.mp z) (aR (b0 hb (oO hI)))) (oth b o (aR hb) (K3 b o e))
end
end L4
namespace L4
open PySem PySem.Spec PySem.Calls PyProof.Rows PySem.W L2 L3
theorem J2{α β:Type}(f:α->β):∀{L:List α} {l:List β},l.Perm (L.map f)->∃L':List α,L'.Perm L/\l=L'.map f
 |[],l,h=>⟨[],.refl _,by rw[cM]at h;exact h.eq_nil⟩
 |a::L,l,h=>by
  have ha:f a∈l:=h.mem_iff.mpr (by rw[aE];exact bg);obtain⟨s,t,rfl⟩:=oA ha;have h2:(s++t).Perm (L.map f):=by have:=(jM (l₁:=s) (l₂:=t) (a:=f a)).symm.trans h;rw[aE]at this;exact this.cons_inv
  obtain⟨L',p,e⟩:=J2 f h2;refine⟨L'.take s.length++a::L'.drop s.length,?_,?_⟩
  ·refine jM.trans (List.Perm.cons a ?_);rw[gH];exact p
  ·rw[aX,aE,f7,fZ,<- e];simp
section
variable{prog:aH}{w:aA}{A:aI}{E:aa->ae->Prop}{s:ae}
theorem NW{its:List aa}{ks:List aD}(hu:A.units+8<cLine)(h1:0<its.length)(h64:its.length<64)
  (item:∀i,i<its.length->∃a p q t v,its[i]?=some (.ref a)/\ks.getD i []=[p,q]/\fH s.heap a #[.str p t,.str q v]) (ho:s.heap.get? l=some (seqObj "list" its.toArray n))
  (h:∀h' e,zP l s.heap h'->h'.get? l=some (seqObj "list" (Dg (λi j=>xp (ks.getD i []) (ks.getD j [])) its).toArray e)->P (.done (.ret .none)) { s with heap:=h' }):
  aj (model prog w) A (c9.«list.sort» ⟨[.ref l],[]⟩) P E s:=by
 have item':∀{h':Heap},zP l s.heap h'->It2 h' its ks:=λ{h'} kk i hi=>by
  obtain⟨a,p,q,t,v,e1,e2,o,o1,o2,n,o3⟩:=item i hi;have hne:a≠l:=λe=>by subst e;rw[ho]at o1;cases o1;exact aq (sZ o2) (by decide)
  exact⟨a,p,q,t,v,by rw[cj,e1];rfl,e2,⟨o,kk a o hne o1,o2,n,o3⟩,e1⟩
 refine P7 (κ:=tuples' true) (c:=λi j=>xp (ks.getD i []) (ks.getD j [])) ho h1 h64 (λh' C kk hC=>NT (s:={ s with heap:=h' }) (item' kk) h1 hC) (λh' i j C kk hij hC=>Qg (s:={ s with heap:=h' }) (item' kk) hij hC) h
abbrev TkS(k:aD):List Key:=k.map Sum.inr
def Qv(ks:List aD)(vs:List aa):List aa:=if vs=[]then []else Dg (λi j=>xp (ks.getD i []) (ks.getD j [])) vs
theorem Qw{its:List aa}{ks:List aD}(hu:A.units+8<cLine)(h64:its.length<64)
  (item:∀i,i<its.length->∃a p q t v,its[i]?=some (.ref a)/\ks.getD i []=[p,q]/\fH s.heap a #[.str p t,.str q v]) (ho:s.heap.get? l=some (seqObj "list" its.toArray n))
  (h:∀h' e,zP l s.heap h'->h'.get? l=some (seqObj "list" (Qv ks its).toArray e)->P (.done (.ret .none)) { s with heap:=h' }):
  aj (model prog w) A (c9.«list.sort» ⟨[.ref l],[]⟩) P E s:=by
 unfold Qv at h;by_cases h0:its=[]
 ·subst h0;rw[ah rfl]at h;refine pf pY ho PyProof.Rows.StrsAre.nil.keysOf (λv₁ v₂ rest e=>by cases e) (by decide) λst' a1 a2=>?_;obtain⟨ss',b1,b2,b3⟩:=pM PyProof.Rows.StrsAre.nil a1 a2;have e0:ss'=[]:=b2.eq_nil;subst e0;have e1:((arrOf st').map (·.2))=#[]:=by cases b1':((arrOf st').map (·.2)).toList with
   |nil=>exact Array.toList_eq_nil_iff.mp b1'
   |cons a b=>rw[b1']at b1;cases b1
  obtain⟨e,he⟩:=pZ (vs:=[]) (out:=(arrOf st').map (·.2)) ho
  rw[e1]at he ⊢;exact h _ e (λb o hb z=>by rw[pN hb (aK z)];exact z) he
 ·rw[ai h0]at h;exact NW hu (eE.mpr h0) h64 item ho h
end
section
variable{prog:aH}{w:aA}{A:aI}{E:aa->ae->Prop}{s:ae}
theorem Li{L:List (aD×Addr)}(hh:A.handled=none)(hu:A.units+64<cLine)(hl:L.length=n)(x:AG s.heap S (L.map λq=>(TkS q.1,q.2)) (!w.params.followText "set-order") n o es ep t)
  (tk:∀q∈L,∃p r,q.1=[p,r]/\TK prog w s.heap (TkS q.1) q.2)
  (hQ:∀(L':List (aD×Addr)) (p:Addr) (h2:Heap) (k2:Nat) (d2:Drawn) (e:Nat),L'.Perm L->s.heap.objs.size<=p->(∀b o,s.heap.get? b=some o->h2.get? b=some o)->h2.get? p=some (seqObj "list" (Qv (L'.map aO) (L'.map λq=>Value.ref q.2)).toArray e)->Q (.ref p) { s with heap:=h2,toks:=k2,drawn:=d2 }):
  aj (model prog w) A (call (.builtin "sorted") [.ref S]) Q E s:=by
 have n9:n<=63:=by obtain⟨m,T,c⟩:=x.c;unfold Cz2 at c;omega
 refine m6 kind_sorted plain_sorted entry_sorted (args_sorted1 _) ?_;unfold c9.«sorted»;refine ag (m:=checkCount "sorted" 1 1 _) (ar ?_);refine ag (J1 (by simp[hh]) x (by rw[af];exact hl) λg k2 d2 acc hz kk pa=>?_);rw[aU]at pa;obtain⟨L',pL,rfl⟩:=J2 (λq:aD×Addr=>Value.ref q.2) pa;have len:(L'.map λq=>Value.ref q.2).length=n:=by rw[af,pL.length_eq,hl]
 refine ag (lR ?_ (by rw[len,bN];omega));have on:(g.push (seqObj "list" (L'.map λq=>Value.ref q.2).toArray 0)).get? g.objs.size=some (seqObj "list" (L'.map λq=>Value.ref q.2).toArray 0):=bp _ rfl;show aj _ _ _ _ _ { s with heap:=g.push (seqObj "list" (L'.map λq=>Value.ref q.2).toArray 0),toks:=k2,drawn:=d2 };refine ag (cW (fU pJ ⟨_,on,rfl⟩ pd ?_ (pK _)));refine Qw (s:={ s with heap:=g.push (seqObj "list" (L'.map λq=>Value.ref q.2).toArray 0),toks:=k2,drawn:=d2 }) (ks:=L'.map aO) (by show A.units+1+1+8<cLine;omega) (by omega) (λi hi=>?_) on λh' e kb he=>?_
 ·rw[af]at hi;obtain⟨p,r,e1,t1⟩:=tk L'[i] (pL.mem_iff.mp (cv hi));obtain⟨ob,its,nn,o1,o2,o3,ia⟩:=t1;rw[e1]at ia;cases hl:its.toList with
  |nil=>rw[hl]at ia;cases ia
  |cons v1 r1=>
   rw[hl]at ia;cases ia with
   |cons a1 a2=>
    cases a2 with
    |@cons _ v2 _ r2 b1 b2=>
     cases b2;obtain⟨u1,rfl⟩:∃t,v1=.str p t:=B5 a1;obtain⟨u2,rfl⟩:∃t,v2=.str r t:=B5 b1;have ei:its=#[.str p u1,.str r u2]:=by rw[<-Array.toList_inj,hl]
     refine⟨L'[i].2,p,r,u1,u2,by rw[bc,aJ hi];rfl,by rw[cj,bc,aJ hi];exact e1,ob,aC _ (kk _ _ o1),o2,nn,by rw[o3,ei]⟩
 ·exact⟨_,rfl,ar ⟨_,rfl,hQ L' g.objs.size h' k2 d2 e pL hz (λb o z=>kb b o (aR (aK (kk b o z))) (aC _ (kk b o z))) he⟩⟩
end
section
variable{X:Cx}{G:Bg}{H:Hp}{wv:cF}{σ:St}{s:ae}
theorem Inv.drw(I:Inv X wv σ H s)(d:Drawn):Inv X wv σ H { s with drawn:=d }:=⟨I.ok,I.os,I.bare,I.base,I.loc,I.cell,I.free,I.freeC,I.pin,I.hok,I.len⟩
def Fv(ks:List aD)(xs:bG):bG:=if xs=[]then []else (HX (λi j=>xp (ks.getD i []) (ks.getD j [])) xs.length).map λi=>xs.getD i V.non
end
section
variable{X:Cx}{G:Bg}{H:Hp}{wv:cF}{σ:St}{s:ae}
theorem G3:∀l:List (aD×Addr),Vals (l.map λq=>V.ref q.2) (l.map λq=>Value.ref q.2)
 |[]=>.nil
 |q::l=>.cons rfl (G3 l)
def pairD(k:aD):D:=.tup (k.map D.str)
def Au(ks:List aD):List aD:=if ks=[]then []else (HX (λi j=>xp (ks.getD i []) (ks.getD j [])) ks.length).map λi=>ks.getD i []
theorem Iq:∀{ds:aS} {ks:List aD} {xs:bG},tL G H ds xs->Bp ds=some ks->∃L:List (aD×Addr),xs=L.map (λq=>V.ref q.2)/\ks=L.map aO/\∀q∈L,∃p r,q.1=[p,r]/\SqT G.K H q.2 [.str p,.str r]
 |[],ks,xs,r,e=>by cases e;unfold tL at r;subst r;exact⟨[],rfl,rfl,λq hq=>by cases hq⟩
 |d::ds,ks,xs,r,e=>by
  unfold Bp at e;cases e1:TH d with
  |none=>rw[e1]at e;cases e
  |some k=>
   cases e2:Bp ds with
   |none=>rw[e1,e2]at e;cases e
   |some ks'=>
    rw[e1,e2]at e;cases e;unfold tL at r;obtain⟨v,r',rfl,q1,q2⟩:=r;obtain⟨L,rfl,rfl,h3⟩:=Iq q2 e2;obtain⟨a,p,q,rfl,rfl,h1⟩:=Qh q1 e1;refine⟨([p,q],a)::L,rfl,rfl,λz hz=>?_⟩;rcases aN.mp hz with rfl|hz
    ·exact⟨p,q,rfl,h1⟩
    ·exact h3 z hz
theorem J3{ι:Type}{f:ι->D}{g:ι->V}:∀is:List ι,(∀i∈is,Rep G H (f i) (g i))->tL G H (is.map f) (is.map g)
 |[],_=>uj
 |i::is,h=>uk (h i bg) (J3 is λj hj=>h j (bu _ hj))
theorem Mw{ks':List aD}(p:ks'.Perm ks)(nd:ks.Nodup)(h2:∀k∈ks,∃p q,k=[p,q]):Au ks'=Au ks:=by
 unfold Au;by_cases h:ks=[]
 ·subst h;rw[p.eq_nil]
 ·have h':ks'≠[]:=λe=>h (by subst e;exact p.symm.eq_nil);rw[ai h,ai h'];exact(Ql p (p.nodup_iff.mpr nd) (λk hk=>h2 k (p.mem_iff.mp hk)) (eE.mpr h'))
theorem Qx{L:List (aD×Addr)}(h:∀q∈L,∃p r,q.1=[p,r]/\SqT G.K H q.2 [.str p,.str r]):tL G H ((Au (L.map aO)).map pairD) (Fv (L.map aO) (L.map λq=>V.ref q.2)):=by
 unfold Au Fv;by_cases hL:L=[]
 ·subst hL;exact uj
 ·rw[ai (by simpa using hL),ai (by simpa using hL),aU,af,af];have hn:0<L.length:=eE.mpr hL;refine J3 _ λi hi=>?_;have hi:=HY _ hn i hi;show Rep G H (pairD ((L.map aO).getD i [])) ((L.map λq=>V.ref q.2).getD i V.non);rw[cj,cj,bc,bc,aJ hi];show Rep G H (pairD L[i].1) (V.ref L[i].2);obtain⟨p,r,e,h1⟩:=h L[i] (cv hi);rw[e];exact yQ h1 (uk (xW p) (uk (xW r) uj))
end
end L4
namespace L4
open PySem PySem.Spec PyProof.Rows L2 L3
section
variable{X:Cx}{G:Bg}
theorem Qy(hh:tF G (uY g i a) σ H Q):Av (spL G g) [] E (La G i a) σ H Q:=by
 sleep 1
 unfold uY at e;rcases uf (f:=a) (ρ:=ρ)with e1|⟨ds,ρ1,e1⟩<;>simp only[e1]at e
 ·cases e
 ·cases e2:vv ρ1 i with
  |none=>simp only[e2]at e;cases e
  |some es=>
   simp only[e2]at e;cases e3:g es ds with
   |none=>simp only[e3]at e;cases e
   |some q=>obtain⟨d1,es'⟩:=q;simp only[e3]at e;cases e;refine⟨F,ρ,H0,ds,ρ1,es,R,e1,e2,λys b H1 H1' s R' rs sb=>?_⟩;obtain⟨s,es0,es1⟩:=wt e2;obtain⟨b',xs',t1,t2,t3,t4⟩:=(R'.sl i s es0).lst es1;rw[v7 t1]at sb;cases sb;refine⟨b,ys,bq _,b,ys,xs',H1,es,ds,d,es',rfl,t2,t3,R'.sub,t4,rs,e3,λv zs H2 H2' u1 u2 u3 fr w0 w1 w2 w3=>?_⟩;refine k _ _ _ (tT.trans ‹tT H0 H1› u1) ?_ w3;unfold putAt;rw[es0];exact R'.call1 es0 es1 t1 u1 u2 u3 fr w0 w1 w2
end
end L4
namespace L4
open PySem PySem.Spec PySem.Calls PyProof.Rows PySem.W L2 L3
noncomputable abbrev cS(s:Str):FE:=cC (.str s)
noncomputable abbrev a1(e:FE):FA:=tD e tY
section
variable{X:Cx}{G:Bg}{H:Hp}{wv:cF}{σ:St}{s:ae}
def SrcG(K:au)(H:Hp)(a:Addr)(n:Nat):Prop:=WJ K H a n\/
 ∃L:List (aD×Addr),SqL K H a (L.map λq=>V.ref q.2)/\L.length<=8/\(L.map aO).Nodup/\(∀q∈L,∃p r,q.1=[p,r]/\SqT K H q.2 [.str p,.str r])/\n=L.length
def Ir(ds:aS):Option D:=match Bp ds with
 |some ks=>if ks.Nodup/\ds.length<=8 then some (.int ds.length)else none
 |none=>none
theorem NX(hK:X.K=G.K):∀{ds d H1 H1' a xs},Ir ds=some d->SqL X.K H1' a xs->tL G H1 ds xs->tT H1 H1'->∃n:Nat,SrcG X.K H1' a n/\d=.int n:=λ{ds d H1 H1' a xs} e hq h2 s=>by
 unfold Ir at e;cases e2:Bp ds with
 |none=>simp only[e2]at e;cases e
 |some ks=>
  simp only[e2]at e;split at e
  ·rename_i hc;cases e;obtain⟨L,rfl,rfl,h3⟩:=Iq h2 e2;have hl:=tN h2;rw[af]at hl;refine⟨_,.inr ⟨L,hq,by omega,hc.1,λq hq=>?_,hl⟩,rfl⟩;obtain⟨p,r,e,h4⟩:=h3 q hq;rw[<-hK]at h4;exact⟨p,r,e,SqT.mono s h4⟩
  ·cases e
end
section
variable{X:Cx}{G:Bg}{C:Addr}{x:Str}{p pos:Pos}{e:Expr}{c:Nat}
structure Mk0(K:au)(C:Addr):Prop where
 makes:makesIn K C=true
 init:findIn K (.ref C) "__init__" = some (some (.builtin "object.__init__"))
 kp:keepIn K (.ref C)=true
theorem NY(M:Mk0 X.K C)(hg:Gl X x)(hm:X.mg x=some (.ref C))(hdb:(x==("__debug__" : Str))=false):PE X (.Call (.Name x p) [] [] pos) (λσ H Q=>∀y dx,H y=none->H dx=none->dx≠y->Q (.ref y) (upd (upd H dx (.own y)) y (.ins C dx []))):=by
 intro wv s σ H Q I h;refine dA (BM I hg hm ?_ hdb);refine lL I.kIn M.kp ?_;have hq:=h (s.heap.objs.size+1) s.heap.objs.size (I.hok.fresh (ic _)) (I.hok.fresh (ay _)) (aR (cR _));have I2:=Inv.made (C:=C) I;have Y:=mr (M:=model X.prog X.w) I.kIn M.makes;refine jZ (M9 I.kIn M.makes M.init (λself=>Looks.of_pure (oi_bind self)) ?_);have e2:((s.heap.push emptyDict).push (instObj C s.heap.objs.size)).get? (s.heap.objs.size+1)=some (instObj C s.heap.objs.size):=by rw[<-cK s.heap emptyDict];exact bp _ rfl
 have t2:Looks (model X.prog X.w) ((s.heap.push emptyDict).push (instObj C s.heap.objs.size)) (isInstance (.ref (s.heap.objs.size+1)) (.type "object")) true:=
  ((Looks.ld e2).andThen .now:Looks (model X.prog X.w) _ (typeOf (.ref (s.heap.objs.size+1))) (.ref C)).andThen (Y.top.keeps λb o e=>aC _ (aC _ e))
 refine nR oi_plain entry_oi (check_slot oi_kind oi_split t2 (oi_args _) ?_);rw[oi_run];exact ar (And.intro rfl ⟨V.ref (s.heap.objs.size+1),_,I2,rfl,hq⟩)
def Yz(c:Nat):FE:=λρ=>some (.obj c [] [],ρ)
theorem NZ(h:PE X e (λσ H Q=>∀y dx,H y=none->H dx=none->dx≠y->Q (.ref y) (upd (upd H dx (.own y)) y (.ins (G.ca c) dx [])))):PE X e (tF G (Yz c)):=PE.weak h λσ H Q hh=>by
 sleep 1
 cases e;intro x dx hx hdx ne;have hx2:(upd H dx (.own x)) x=none:=by rw[tR (λz=>ne z.symm)];exact hx
 have sx:tT H (upd (upd H dx (.own x)) x (.ins (G.ca c) dx [])):=(tV hdx _).trans (tV hx2 _);have R2:=R.grow sx (λ_ _ e=>e) (R.sub.trans sx) (λb o e=>.inl e);have h0:=R.h0none hx;have R3:=R2.freeze tP h0 (R.bNone hx) (λi t ei to z=>R.apart hx i t ei to z);refine k _ _ _ (tV h0 _) R3 ?_;unfold Rep;exact⟨x,dx,[],rfl,tP,rfl,uj⟩
end
section
variable{X:Cx}{B:Bz}{k:Nat}{p pos:Pos}{x:Str}{c:Nat}
class K0f(B:Bz)(x:Str)(c:Nat):Prop where p:Mk0 B.G.K (B.G.ca c)/\B.mg x=some (.ref (B.G.ca c))
theorem YA [C:Cz X B k][Q:K0f B x c](hg:Gz X x)(hd:(x==("__debug__" : Str))=false):ZE X B (.Call (.Name x p) [] [] pos) (Yz c):=⟨NZ (NY (by rw[C.K];exact Q.p.1) hg (by rw[C.mg];exact Q.p.2) hd)⟩
end
end L4
namespace L4
open PySem PySem.Spec PyProof.Rows L2 L3
def spJ(G:Bg)(j:Nat)(g:aS->aS->Option (D×aS)):Sp:=λvs H Q E=>∃(a:Addr) (us:bG),vs=us.take j++.ref a::us.drop j/\spM G g (.ref a::us) H Q E
def stJ(j n:Nat)(es ds:aS):bb:=(ds.take j).map Sl.im++.pm es::((ds.drop j).map Sl.im++fw (n - ds.length - 1) .un)
def fnJ(j np n:Nat)(f:FS):aS->aS->Option (D×aS):=λes ds=>if ds.length=np then match f (stJ j n es ds)with
 |some (.rt d ρ)=>match JS j ρ with
  |some es'=>some (d,es')
  |none=>none
 |_=>none
 else none
theorem J4(h:fnJ j np n f es ds=some (d,es')):ds.length=np/\∃ρ,f (stJ j n es ds)=some (.rt d ρ)/\ρ[j]?=some (.pm es'):=by
 unfold fnJ at h;split at h
 ·rename_i hl;refine⟨hl,?_⟩;split at h
  ·rename_i x ρ e;cases e2:JS j ρ with
   |none=>simp only[e2]at h;cases h
   |some q=>simp only[e2]at h;cases h;exact⟨ρ,e,Dd e2⟩
  ·cases h
 ·cases h
theorem Iu{ds:aS}(hj:j<=ds.length)(h:(stJ j n es ds)[i]?=some t):(i=j/\t=.pm es)\/t=.un\/∃(m:Nat) (d:D),ds[m]?=some d/\t=.im d/\∀(us:bG) (v w:V),us.length=ds.length->us[m]?=some v->(us.take j++w::us.drop j)[i]?=some v:=by
 unfold stJ at h;have lt:(ds.take j).length=j:=by rw[bo];omega
 by_cases hi:i<j
 ·rw[cH (by rw[af,lt];exact hi),bc,kO,ah hi,aJ (by omega)]at h;cases h;refine .inr (.inr ⟨i,_,aJ (by omega),rfl,λus v w hl hv=>?_⟩);rw[cH (by rw[bo];omega),kO,ah hi];exact hv
 ·rw[cG (by rw[af,lt];omega),af,lt]at h;cases q:i - j with
  |zero=>rw[q]at h;cases h;exact .inl ⟨by omega,rfl⟩
  |succ m=>
   rw[q,iA]at h;by_cases hm:m<(ds.drop j).length
   ·have hm':j+m<ds.length:=by rw[cb]at hm;omega
    rw[cH (by rw[af];exact hm),bc,df,aJ hm']at h;cases h;refine .inr (.inr ⟨j+m,_,aJ hm',rfl,λus v w hl hv=>?_⟩);rw[cG (by rw[bo];omega),bo,fq (by omega),q,iA,df];exact hv
   ·rw[cG (by rw[af];omega),gE]at h;split at h
    ·cases h;exact .inr (.inl rfl)
    ·cases h
section
variable{X:Cx}{G:Bg}
theorem T5{N:aD}{ds:aS}(hj:j<=ds.length)(ha:H a=some (.lst xs))(h0:H0 a=none)(s:tT H0 H)(r1:tL G H0 es xs)(r:tL G H0 ds us)(hN:us.length+1<=N.length):tW G ⟨H0,H,[a]⟩ (L2.start N (us.take j++.ref a::us.drop j)) (stJ j N.length es ds) H0 H:={
  sub:=s
  g0:=tT.refl _
  keep:=λb o e _=>e
  fr:=λb o e=>.inl e
  am:=λb hb=>by rw[aV]at hb;subst hb;exact⟨_,ha⟩
  len:=by
   have hl:=tN r;unfold L2.start stJ;simp only[aB,af,cz,aM,fj,bo,cb,<- hl];rw[fq hj];rw[<-hl]at hN;clear hl ha h0 s r1 r;generalize ds.length=x at *
   generalize N.length=y at *
   omega
  sl:=λi t e=>by
   have hl:=tN r;rcases Iu hj e with ⟨rfl,rfl⟩|rfl|⟨m,d,e1,rfl,e4⟩
   ·exact⟨a,xs,wq (by rw[cG (by rw[bo];omega),bo,fq (by omega),ib];rfl),ha,h0,aV.mpr rfl,r1⟩
   ·trivial
   ·obtain⟨v,e2,e3⟩:=v5 r e1;exact⟨v,wq (e4 us v _ hl.symm e2),e3⟩
  ap:=λi k t u b hij ei ej ht hu=>by
   rcases Iu hj ei with ⟨rfl,rfl⟩|rfl|⟨_,_,_,rfl,_⟩
   ·rcases Iu hj ej with ⟨rfl,rfl⟩|rfl|⟨_,_,_,rfl,_⟩
    ·exact aq rfl hij
    ·cases hu
    ·cases hu
   ·cases ht
   ·cases ht }
theorem T6{N:aD}(hj:j<=np)(hN:np+1<=N.length)(h:spJ G j (fnJ j np N.length f) vs H Q E):tFS G f { nx:=λ_ H'=>Q .non H',rt:=Q } (L2.start N vs) H:=by obtain⟨a,us,rfl,b,us',xs,H0,es,ds,d,es',e0,ha,h0,s,r1,r,e,k⟩:=h;cases e0;obtain⟨hl,ρ,e1,e2⟩:=J4 e;have R:=T5 (N:=N) (j:=j) (by omega) ha h0 s r1 r (by rw[<-tN r,hl];exact hN);refine⟨_,_,H0,_,R,e1,λv σ' H0' H' s' R' rv=>?_,λ_=>rfl⟩;obtain⟨a',ys,q1,q2,q3,q4,q5⟩:=R'.sl j _ e2;have ea:a'=a:=aV.mp q4;subst ea;exact k _ ys _ _ s' R'.sub (λb o e n=>R'.keep b o e (λz=>n (aV.mp z))) R'.fr q3 q2 q5 rv
def N0(G:Bg)(j i:Nat)(a:FA):TA:=λσ H Q=>∃F ρ H0 ds ρ' es,tW G F σ ρ H0 H/\a ρ=some (ds,ρ')/\vv ρ' i=some es/\∀xs b H0' H',tT H0 H0'->tW G F σ ρ' H0' H'->tL G H0' ds xs->σ[i]?=some (some (.ref b))->Q (xs.take j++.ref b::xs.drop j) H'
theorem Qz(hv:PE X e (zk i))(hc:PE X e' (tF G (cC d)))(hs:aw [e,e'] X.env=(false,eval e X.env)::aw [e'] X.env)(hs':aw [e'] X.env=[(false,eval e' X.env)]):PA X [e,e'] (N0 G 0 i (tD (cC d) tY)):=PA.weak (u5 hv (u5 hc xP hs') hs) λσ H Q hh=>by obtain⟨F,ρ,H0,ds,ρ',es,R,e,el,k⟩:=hh;cases e;obtain⟨b,xs,s1,_⟩:=v8 R el;exact⟨.ref b,s1,F,ρ,H0,d,ρ,R,rfl,λv H1 H1' s R' rv=>k [v] b _ _ s R' (uk rv uj) s1⟩
theorem N1(ha:PE X e (tF G f))(hr:PA X es (N0 G j i g))(hs:aw (e::es) X.env=(false,eval e X.env)::aw es X.env:=by rfl):PA X (e::es) (N0 G (j+1) i (tD f g)):=PA.weak (u5 ha hr hs) λσ H Q hh=>by obtain⟨F,ρ,H0,d,ρ',es,R,e,el,k⟩:=hh;obtain⟨x,r,ρ1,e1,e2,rfl⟩:=zL e;exact⟨F,ρ,H0,x,ρ1,R,e1,λv H1 H1' s R' rv=>⟨F,ρ1,H1,r,ρ',es,R',e2,el,λxs b H2 H2' s2 R2 rs sb=>k (v::xs) _ _ _ (s.trans s2) R2 (uk (Rep.mono s2 _ _ rv) rs) sb⟩⟩
theorem QA(hh:tF G (uY g i a) σ H Q):Av (spJ G j g) [] E (N0 G j i a) σ H Q:=by obtain⟨F,ρ,H0,ds,ρ',es,R,e,el,k⟩:=Qy (E:=E) hh;refine⟨F,ρ,H0,ds,ρ',es,R,e,el,λxs b H1 H1' s R' rs sb=>?_⟩;obtain⟨a',us,e1,q⟩:=k xs b H1 H1' s R' rs sb;rw[bq]at e1;obtain⟨rfl,e2⟩:=List.append_inj' e1 rfl;cases e2;exact⟨b,xs,bq _,q⟩
theorem T7(D:zq X.prog X.w X.K X.mg X.base k x ps (spJ G j g))(hr:u9 k X.A)(ha:PA X (e::es) (N0 G j i a))(hg:Gl X x)(hdb:(x==("__debug__" : Str))=false)(he:aw (e::es) X.env=(false,eval e X.env)::aw es X.env)(hpl:(bt pos (aw es X.env)).any (·.1)=false):
  PE X (.Call (.Name x p) (e::es) [] pos) (tF G (uY g i a)):=by
 obtain⟨f,fd,h1,h2,h3,h4⟩:=D;exact PE.weak (BO (p:=p) (pos:=pos) h4 hr hg h1 h2 h3 .nil Dy ha hdb he hpl) λσ H Q hh=>QA hh
end
section
variable{P:aH}{w:aA}{K:au}{mg:Str->Option aa}{base:Heap}{x qual:Str}{st:Stmt}{f T:Addr}{fd:cg}{N ps:aD}{k:Nat}{G:Bg}
theorem aaH(hg:g=fnJ j np n b)(hj:j<=np)(hp:ps.length=np+1)(hN:N.length=n)(F:Fun K x qual st f fd)(S:u6 N ps (tX st))(body:∀(cdv:aa) (A:aI) (outer:List Env) (s:ae) (H:Hp) (E:XK),u9 k (A.deeper (envOfC qual (tX st) s.heap.objs.size f cdv))->PSs (Bo P w K mg base N qual st f cdv A outer s H E) (uw st) (tFS G b)):
  wY P w K mg base CX0 (k+1) f fd ps (spJ G j g):=by
 subst hg hN;refine F.ok S (λvs H Q E h=>?_) λcdv A outer s H vs Q E hr h=>⟨_,body cdv A outer s H E hr,T6 hj (by have:=ba cc S.pre;rw[bo]at this;omega) h⟩;obtain⟨a,us,rfl,h⟩:=h;have:=O8 (λ_ _ d h=>(J4 (d:=d.1) (es':=d.2) h).1) _ _ _ _ h;simp only[aB,aM,bo,cb]at this ⊢;omega
end
section
variable{X:Cx}{B:Bz}{k j i j' np n:Nat}{x y:Str}{e e':Expr}{es:List Expr}{a:FA}{f:FE}{d:D}{p pos:Pos}{g:aS->aS->Option (D×aS)}
structure ZJ(X:Cx)(B:Bz)(e:List Expr)(j i:Nat)(f:FA):Prop where p:PA X e (N0 B.G j i f)
theorem YB(h:sees X i x=true)(hc:ZE X B e' (cC d))(hs:Sz X (.Name x p) [e'])(hs':S1 X e'):ZJ X B [.Name x p,e'] 0 i (tD (cC d) tY):=⟨Qz (pvI h) hc.p hs hs'⟩
theorem YC(ha:ZE X B e f)(hr:ZJ X B es j i a)(hs:Sz X e es):ZJ X B (e::es) (j+1) i (tD f a):=⟨N1 ha.p hr.p hs⟩
class Dj(B:Bz)(j':outParam Nat)(x:Str)(j:outParam Nat)(g:aS->aS->Option (D×aS)):Prop where p:Df B j' x (spJ B.G j g)
theorem YD [C:Cz X B k][Q:Dj B j' x j g](hg:Gz X x)(hd:Dz x)(hs:Sz X e es)(hl:Lz X pos es)(ha:ZJ X B (e::es) j i a)(hj:dX j' k=true):ZE X B (.Call (.Name x p) (e::es) [] pos) (uY g i a):=by obtain⟨ps,q⟩:=dz hg hd (X:=X) (Q:=Q.p);exact⟨T7 q (C.r.mono (dP.mp hj)) ha.p hg hd hs hl⟩
end
section
variable{B:Bz}[Y:Yb B]{x:Str}{st s0:Stmt}{l:List Stmt}{j np n k:Nat}{b:FS}
theorem gJ5(hg:g=fnJ j np n b)(hj:j<=np)(q:GD B.G.K x st)(hl:uw st=s0::l)(body:Bdz B (nmO st) x st (s0::l) k b)(S:okO (nmO st) (psO st) st (np+1) n=true:=by kernel_rfl)(bd:Bds x x st (psO st):=by (repeat intro _);rfl):Df B (k+1) x (spJ B.G j g):=
 ⟨_,gD Y.y q bd λf fd F=>aaH hg hj (okk S).2.1 (okk S).2.2 F (okk S).1 (body.ok hl f)⟩
end
section
variable{X:Cx}{B:Bz}{k j i m:Nat}{x:Str}{e e':Expr}{es:List Expr}{d:D}{p pos:Pos}{g:D->D->Option D}
theorem aaI:ZB X B l Po:=⟨λwv s σ H D I h=>by
 obtain⟨F,ρ,H0,o,R,e,_⟩:=h;cases e⟩
theorem aaJ(h:c2 g (cV m) (cC d) ρ=some (z,ρ')):ρ'=ρ:=by
 unfold c2 cV at h;split at h
 ·rename_i e;split at e
  ·cases e;unfold cC at h;simp only at h;split at h
   ·cases h;rfl
   ·cases h
  ·cases e
 ·cases h
theorem YE(h:sees X i x=true)(hc:ZE X B e' (c2 g (cV m) (cC d)))(hs:Sz X (.Name x p) [e'])(hs':S1 X e'):ZJ X B [.Name x p,e'] 0 i (tD (c2 g (cV m) (cC d)) tY):=⟨PA.weak (u5 (pvI h) (u5 hc.p xP hs') hs) λσ H Q hh=>by
 obtain⟨F,ρ,H0,ds,ρ',es,R,e,el,k⟩:=hh;obtain⟨z,r,ρ1,e1,e2,rfl⟩:=zL e;cases e2;have q:=aaJ e1;subst q;obtain⟨b,xs,s1,_⟩:=v8 R el;exact⟨.ref b,s1,F,_,H0,z,_,R,e1,λv H1 H1' s R' rv=>k [v] b _ _ s R' (uk rv uj) s1⟩⟩
end
theorem zN.mono(M:zN G P w mg base j m c h)(hk:dX j k=true):zN G P w mg base k m c h:=by obtain⟨f,fd,ps,a,b,c,F⟩:=M;exact⟨f,fd,ps,a,b,c,F.mono (dP.mp hk)⟩
end L4
namespace L2
open PySem PySem.Spec PyProof.Rows
section
variable{X:Cx}
def aaK(K:au):R2:=λx y H Q=>∃a b xs ys,x=.ref a/\y=.ref b/\SqT K H a xs/\SqT K H b ys/\xs.length+ys.length<=aG/\
 (xs=[]->Q (.ref b) H)/\(ys=[]->Q (.ref a) H)/\∀p,H p=none->Q (.ref p) (upd H p (.tup (xs++ys)))
theorem T8:OpR X (cO .Add) (aaK X.K):=by
 intro wv s σ H x y v u Q I rx ry h;obtain⟨a,b,xs,ys,rfl,rfl,ha,hb,hz,q0,q1,q2⟩:=h;by_cases hx:xs=[]
 ·cases rx;cases ry;obtain⟨its,r1,p1,_⟩:=I.tuple ha;obtain⟨its2,r2,p2,_⟩:=I.tuple hb;have hv:=r1.nil_iff.mpr hx;obtain⟨⟨cls,dd,data,sl⟩,ho,hc,n,hd⟩:=id p1;obtain⟨⟨cls2,dd2,data2,sl2⟩,ho2,hc2,n2,hd2⟩:=id p2;simp only at hc hd hc2 hd2;subst hc hd hc2 hd2;exact lZ ⟨_,ho,rfl⟩ ⟨_,ho2,rfl⟩ lb lM lg kR (kI _ _)
   (tuple_addW0 _ _ its.toArray its2.toArray n n2 dd dd2 sl sl2 (by simp[hv])) ⟨ho,ho2,⟨.ref b,H,I,rfl,q0 hx⟩⟩
 ·exact LN wv s σ H _ _ v u Q I rx ry ⟨a,b,xs,ys,rfl,rfl,ha,hb,hx,hz,q1,λ_=>q2⟩
end
end L2
namespace L4
open PySem PySem.Spec PyProof.Rows L2 L3
section
variable{X:Cx}{G:Bg}
def cSlU(f:FE)(lo hi:FO):FE:=λρ=>match f ρ with
 |some (.tup ds,ρ1)=>match lo ρ1 with
  |some (l,ρ2)=>match hi ρ2 with
   |some (h,ρ3)=>some (.tup (cutD ds l h),ρ3)
   |none=>none
  |none=>none
 |_=>none
def G4(f g:FE):FE:=λρ=>match f ρ with
 |some (.tup xs,ρ1)=>match g ρ1 with
  |some (.tup ys,ρ2)=>if xs.length+ys.length<=900 then some (.tup (xs++ys),ρ2)else none
  |_=>none
 |_=>none
theorem T9(ha:PE X a (tF G f))(hb:PE X b (tF G g))(hK:X.K=G.K:=by rfl):PE X (.BinOp a .Add b pos) (tF G (G4 f g)):=PE.weak (LG T8 ha hb) λσ H Q hh=>by
 rw[hK]
 sleep 1
 unfold G4 at e;split at e
 ·rename_i xs ρ1 e1;split at e
  ·rename_i ys ρ2 e2;split at e
   ·rename_i hl;cases e;refine⟨F,ρ,H0,_,ρ1,R,e1,λv H1 H1' s R' r=>⟨F,ρ1,H1,_,_,R',e2,λu H2 H2' s2 R2 r2=>?_⟩⟩;have r':=Rep.mono s2 _ _ r;have r0:=r';have r3:=r2;unfold Rep at r' r2;obtain⟨a1,xs1,rfl,h1,h2⟩:=r';obtain⟨a2,xs2,rfl,h3,h4⟩:=r2;have l1:=tN h2;have l2:=tN h4;refine⟨a1,a2,xs1,xs2,rfl,rfl,SqT.mono R2.sub h1,SqT.mono R2.sub h3,by rw[<-l1,<- l2];exact xw (by omega),λz=>?_,λz=>?_,λp hp=>?_⟩
    ·have ex:xs=[]:=by rw[z]at l1;exact iz.mp l1
     subst ex;exact k _ _ _ (s.trans s2) R2 r3
    ·have ey:ys=[]:=by rw[z]at l2;exact iz.mp l2
     subst ey;rw[bq]at k;exact k _ _ _ (s.trans s2) R2 r0
    ·exact k _ _ _ ((s.trans s2).trans (tV (R2.h0none hp) _)) (R2.newIm hp _) (yQ (SqT.of tP) (tL.mono (tV (R2.h0none hp) _) _ _ (vt h2 h4)))
   ·cases e
  ·cases e
 ·cases e
end
section
variable{X:Cx}{B:Bz}{k j:Nat}{x:Str}{e e':Expr}{es:List Expr}{f f':FE}{a n:FA}{p pos:Pos}{g:aS->aS->Option (D×aS)}
theorem YF [C:Cz X B k](ha:ZE X B e f)(hb:ZE X B e' f'):ZE X B (.BinOp e .Add e' pos) (G4 f f'):=⟨T9 ha.p hb.p C.K⟩
end
mutual
def Fw:D->Bool
 |.non=>true
 |.bl _=>true
 |.int _=>true
 |.str _=>true
 |.tup ds=>Fy ds
 |.lst ds=>Fy ds
 |_=>false
def Fy:aS->Bool
 |[]=>true
 |d::ds=>Fw d&&Fy ds
end
mutual
theorem Rep.but(e:∀b o,H b=some o->(∀u kvs,o≠HO.frz u (.dK kvs))->H1 b=some o):∀(d:D) (v:V),Fw d=true->Rep G H d v->Rep G H1 d v
 |.non,v,_,h=>by unfold Rep at h ⊢;exact h
 |.bl b,v,_,h=>by unfold Rep at h ⊢;exact h
 |.int i,v,_,h=>by unfold Rep at h ⊢;exact h
 |.str x,v,_,h=>by unfold Rep at h ⊢;exact h
 |.tup ds,v,n,h=>by
  unfold Rep at h ⊢;unfold Fw at n;obtain⟨a,xs,rfl,h1,h2⟩:=h;refine⟨a,xs,rfl,?_,tL.but e ds xs n h2⟩;rcases h1 with (h|⟨o,h⟩)|h
  ·exact .inl (.inl (e _ _ h λ_ _ z=>nomatch z))
  ·exact .inl (.inr ⟨o,e _ _ h λ_ _ z=>nomatch z⟩)
  ·exact .inr h
 |.lst ds,v,n,h=>by unfold Rep at h ⊢;unfold Fw at n;obtain⟨a,xs,rfl,h1,h2⟩:=h;exact⟨a,xs,rfl,e _ _ h1 (λ_ _ z=>nomatch z),tL.but e ds xs n h2⟩
 |.fzl ds,v,n,h=>by unfold Fw at n;cases n
 |.obj c ns ds,v,n,h=>by unfold Fw at n;cases n
 |.dic ks ds,v,n,h=>by unfold Fw at n;cases n
theorem tL.but(e:∀b o,H b=some o->(∀u kvs,o≠HO.frz u (.dK kvs))->H1 b=some o):∀(ds:aS) (xs:bG),Fy ds=true->tL G H ds xs->tL G H1 ds xs
 |[],xs,_,h=>by unfold tL at h ⊢;exact h
 |d::ds,xs,n,h=>by unfold tL at h ⊢;unfold Fy at n;rw[aZ]at n;obtain⟨v,r,rfl,h1,h2⟩:=h;exact⟨v,r,rfl,Rep.but e d v n.1 h1,tL.but e ds r n.2 h2⟩
end
abbrev Upw(xs:Array Nat):Prop:=xs.toList.Pairwise (· < ·)
theorem Lj{xs:Array Nat}(h:Upw xs){i k a b:Nat}(hik:i<k)(ha:xs[i]?=some a)(hb:xs[k]?=some b):a<b:=by rw[<-bT]at ha hb;obtain⟨h1,rfl⟩:=bO.mp ha;obtain⟨h2,rfl⟩:=bO.mp hb;exact iw.mp h i k h1 h2 hik
theorem FB(h:Upw xs)(j:Nat):∀(f lo hi:Nat),hi<=xs.size->lo<=hi->hi - lo<=f->(∀i a,i<lo->xs[i]?=some a->a<j)->(∀i a,hi<=i->xs[i]?=some a->j<=a)->
  gQ xs j f lo hi<=xs.size/\(∀i a,i<gQ xs j f lo hi->xs[i]?=some a->a<j)/\∀i a,gQ xs j f lo hi<=i->xs[i]?=some a->j<=a
 |0,lo,hi,h1,h2,h3,h4,h5=>⟨bM h2 h1,h4,λi a hi'=>h5 i a (bM (by omega) (show lo<=i from hi'))⟩
 |f+1,lo,hi,h1,h2,h3,h4,h5=>by
  unfold gQ;by_cases hl:lo<hi
  ·rw[ah hl];have hm:(lo+hi) / 2<xs.size:=by omega
   have e:xs[(lo+hi) / 2]?=some xs[(lo+hi) / 2]:=cQ hm;have g:xs.getD ((lo+hi) / 2) j=xs[(lo+hi) / 2]:=by rw[eS,e];rfl
   dsimp only;rw[g];by_cases hc:xs[(lo+hi) / 2]<j
   ·rw[ah hc];refine FB h j f _ hi h1 (by omega) (by omega) (λi a hi' ea=>?_) h5;rcases qj i ((lo+hi) / 2)with z|z
    ·exact jU (Lj h z ea e) hc
    ·have:i=(lo+hi) / 2:=by omega
     rw[this,e]at ea;cases ea;exact hc
   ·rw[ai hc];refine FB h j f lo _ (by omega) (by omega) (by omega) h4 λi a hi' ea=>?_;rcases qj ((lo+hi) / 2) i with z|z
    ·have:=Lj h z e ea;omega
    ·have:i=(lo+hi) / 2:=by omega
     rw[this,e]at ea;cases ea;omega
  ·rw[ai hl];exact⟨by omega,h4,λi a hi'=>h5 i a (by omega)⟩
theorem FC(h:Upw xs)(j:Nat):bz xs j<=xs.size/\(∀i a,i<bz xs j->xs[i]?=some a->a<j)/\∀i a,bz xs j<=i->xs[i]?=some a->j<=a:=
 FB h j xs.size 0 xs.size (ay _) (bA _) (by omega) (λi a z=>aq z (by omega)) λi a z e=>by have:=(jo.mp e).1;omega
theorem below_at(h:Upw xs)(e:xs[i]?=some j):bz xs j=i:=by
 obtain⟨h1,h2,h3⟩:=FC h j;rcases jI (bz xs j) i with z|z|z
 ·have hb:bz xs j<xs.size:=jU z (jo.mp e).1;have eb:xs[bz xs j]?=some xs[bz xs j]:=cQ hb;have:=h3 _ _ (ay _) eb;have:=Lj h z eb e;omega
 ·exact z
 ·have:=h2 i j z e;omega
theorem J5{α:Type}(xs:Array α)(p:Nat)(x:α):(cJ xs p x).toList=xs.toList.take p++x::xs.toList.drop p:=by unfold cJ;simp;rw[jy];rw[cb,bw];exact ay _
theorem zF{α:Type}(xs:Array α){p:Nat}(hp:p<=xs.size)(x:α)(i:Nat):(cJ xs p x)[i]?=if i<p then xs[i]? else if i=p then some x else xs[i - 1]?:=by
 have len:(xs.toList.take p).length=p:=by rw[bo,bw];omega
 rw[<-bT,J5,List.getElem?_append,len];by_cases h:i<p
 ·rw[ah h,ah h,kO,ah h,bT]
 ·rw[ai h,ai h];by_cases h2:i=p
  ·subst h2;rw[ah rfl,ib];rfl
  ·rw[ai h2];obtain⟨k,rfl⟩:∃k,i=p+(k+1):=⟨i - p - 1,by omega⟩;rw[show p+(k+1) - p=k+1 by omega,iA,df,bT];congr 1
theorem YG(h:Upw xs)(hj:j∉xs.toList):Upw (cJ xs (bz xs j) j):=by
 obtain⟨h1,h2,h3⟩:=FC h j;have h':=h;unfold Upw at h' ⊢;rw[J5,nW];rw[<-gH (bz xs j) xs.toList,nW]at h';have lo:∀a∈xs.toList.take (bz xs j),a<j:=λa ha=>by obtain⟨i,hi,rfl⟩:=eB.mp ha;have hi':=hi;rw[bo]at hi';refine h2 i _ (by omega) ?_;rw[<-bT,List.getElem_take,aJ]
 have hg:∀a∈xs.toList.drop (bz xs j),j<a:=λa ha=>by
  have ma:a∈xs.toList:=jC ha;obtain⟨i,hi,rfl⟩:=eB.mp ha;have hi':=hi;rw[cb]at hi';have:=h3 (bz xs j+i) (xs.toList.drop (bz xs j))[i] (by omega) (by rw[<-bT,List.getElem_drop,aJ]);rcases Nat.lt_or_eq_of_le this with z|z
  ·exact z
  ·exact aq (z▸ma) hj
 refine⟨h'.1,List.pairwise_cons.mpr ⟨hg,h'.2.1⟩,λa ha b hb=>?_⟩;rcases aN.mp hb with rfl|hb
 ·exact lo a ha
 ·exact jU (lo a ha) (hg b hb)
structure Tu(t:bJ)(m n:Nat):Prop extends Tb t m n where
 up:Upw t.place
section
variable{t:bJ}{m n:Nat}
theorem Tu.live(T:Tu t m n)(e:t.place[i]?=some j):t.slot j=.live i:=by unfold p6;rw[below_at T.up e];dsimp only;rw[e];simp
theorem Tu.emp(T:Tu t m n)(e:t.slot j=.empty):j∉t.place.toList:=λh=>by obtain⟨i,hi,rfl⟩:=eB.mp h;rw[T.live (i:=i) (by rw[<-bT,aJ hi])]at e;cases e
def tM(m:Nat):bJ:=⟨m,#[],#[],0,false,0,false⟩
def Wy(m:Nat)(O:Nat->Prop)(j:Nat):Nat->c7->Prop
 |0,_=>False
 |f+1,p=>p.j=j\/(O p.j/\Wy m O j f ((tM m).advance p))
theorem Wy.mono(h:∀x,O x->O' x):∀{f f':Nat} {p:c7},Wy m O j f p->f<=f'->Wy m O' j f' p
 |0,_,_,w,_=>w.elim
 |f+1,0,_,_,l=>aq l (by omega)
 |f+1,f'+1,p,w,l=>w.imp id λw=>⟨h _ w.1,w.2.mono h (by omega)⟩
theorem Iv(T:Tb t m n)(p:c7):t.advance p=(tM m).advance p:=by obtain⟨rfl,_,_⟩:=T;rfl
theorem UZ(T:Tb t m n)(h:Int):t.probeStart h=(tM m).probeStart h:=by obtain⟨rfl,_,_⟩:=T;rfl
abbrev Oc(t:bJ)(x:Nat):Prop:=x∈t.place.toList
theorem YH(h:Oc t x):∃i:Nat,t.place[i]?=some x:=by obtain⟨i,hi,rfl⟩:=eB.mp h;exact⟨i,by rw[<-bT,aJ hi]⟩
theorem U0(T:Tu t m n)(F:Nat->Int)(h:Int)(e0:t.place[i0]?=some j0)(h0:F i0=h):∀(f:Nat) (p:c7),p.dummy=none->Wy m (Oc t) j0 f p->∀g,f<=g->
  ∃j i next f',f'<f/\t.slot j=.live i/\t.place[i]?=some j/\F i=h/\eG t F h g p=some (.candidate j i next)/\next.dummy=none/\(i=i0\/Wy m (Oc t) j0 f' next)
 |0,p,_,he,g,_=>he.elim
 |f+1,p,hd,he,0,hg=>aq hg (by omega)
 |f+1,p,hd,he,g+1,hg=>by
  unfold eG;obtain⟨i,ei,hi⟩:∃i:Nat,t.place[i]?=some p.j/\(i=i0\/Wy m (Oc t) j0 f ((tM m).advance p)):=by
   rcases he with e|⟨e,w⟩
   ·exact⟨i0,by rw[e];exact e0,.inl rfl⟩
   ·obtain⟨i,ei⟩:=YH e;exact⟨i,ei,.inr w⟩
  rw[T.live ei];dsimp only;rw[Iv T.toTb];by_cases hh:F i=h
  ·exact⟨p.j,i,(tM m).advance p,f,cR f,T.live ei,ei,hh,by rw[ah (by rw[hh];simp)],Ik hd,hi⟩
  ·rw[ai (by simpa using hh)];have w:=hi.resolve_left λe=>hh (by rw[e];exact h0);obtain⟨j,i',nx,f',h1,h2⟩:=U0 T F h e0 h0 f _ (Ik hd) w g (by omega);exact⟨j,i',nx,f',by omega,h2⟩
theorem U1(T:Tu t m n)(F:Nat->Int)(h:Int):∀(f:Nat) (p:c7),p.dummy=none->Emp t f p->∀g,f<=g->(∃j,t.slot j=.empty/\eG t F h g p=some (.empty j none)/\Wy m (Oc t) j f p)\/
  ∃j i next f',f'<f/\t.slot j=.live i/\t.place[i]?=some j/\F i=h/\eG t F h g p=some (.candidate j i next)/\next.dummy=none/\Emp t f' next/\∀x,Wy m (Oc t) x f' next->Wy m (Oc t) x f p
 |0,p,_,he,g,_=>he.elim
 |f+1,p,hd,he,0,hg=>aq hg (by omega)
 |f+1,p,hd,he,g+1,hg=>by
  unfold eG;rcases T.slot p.j with ⟨i,e1,e2⟩|e1
  ·have he:Emp t f (t.advance p):=he.resolve_left λe=>by rw[e1]at e;cases e
   have oc:Oc t p.j:=by rw[<-bT]at e2;exact bU e2
   rw[e1];dsimp only;by_cases hh:F i=h
   ·right;exact⟨p.j,i,t.advance p,f,cR f,e1,e2,hh,by rw[ah (by rw[hh];simp)],Ik hd,he,λx w=>.inr ⟨oc,by rw[<-Iv T.toTb];exact w⟩⟩
   ·rw[ai (by simpa using hh)];rcases U1 T F h f (t.advance p) (Ik hd) he g (by omega)with ⟨j,h1,h2,h3⟩|⟨j,i',nx,f',h1,h2,h3,h4,h5,h6,h7,h8⟩
    ·exact .inl ⟨j,h1,h2,.inr ⟨oc,by rw[<-Iv T.toTb];exact h3⟩⟩
    ·exact .inr ⟨j,i',nx,f',by omega,h2,h3,h4,h5,h6,h7,λx w=>.inr ⟨oc,by rw[<-Iv T.toTb];exact h8 x w⟩⟩
  ·left;rw[e1];exact⟨p.j,e1,by rw[hd],.inl rfl⟩
end
noncomputable abbrev hkE(prog:aH) (w:aA) (q:List Key×Addr):Int×aa:=(tupleKeyHash (tU prog w) q.1,.ref q.2)
structure Eh(prog:aH)(w:aA)(h:Heap)(L:List (List Key×Addr))(es:Array (Int×aa)):Prop where
 tk:∀q∈L,TK prog w h q.1 q.2
 p:es.toList.Perm (L.map (hkE prog w))
section
variable{prog:aH}{w:aA}{A:aI}{E:aa->ae->Prop}{s:ae}{L:List (List Key×Addr)}{es:Array (Int×aa)}{t:bJ}{m n ep:Nat}{S a2:Addr}{k2:List Key}{o:Obj}{h:Int}
theorem Eh.at(l:Eh prog w s.heap L es){i:Nat}{e:Int×aa}(he:es[i]?=some e):∃q∈L,e=hkE prog w q:=by rw[<-bT]at he;obtain⟨q,hq,rfl⟩:=aP.mp (l.p.mem_iff.mp (bU he));exact⟨q,hq,rfl⟩
theorem FD{Q:SetFound->ae->Prop}{R:Nat->c7->Prop}{Z:Nat->Prop}(hu:A.units<cLine)(T:Tb t m n)(hm:m % 2=1)(hf:t.fits es.size=true)(l:Eh prog w s.heap L es)(t2:TK prog w s.heap k2 a2)
  (ho:s.heap.get? S=some o) (hd:o.data=.set es ep t) (hZ:∀j,Z j->Q (.free j false) s) (hT:k2∈L.map aO->Q (.there none) s)
  (step:∀f p,p.dummy=none->R f p->f<=10 * bV m->(∃j,eG t (λi=>(es[i]?.map (·.1)).getD 0) h (10 * bV m) p=some (.empty j none)/\Z j)\/∃j i next f',f'<f/\t.slot j=.live i/\t.place[i]?=some j/\
   eG t (λi=>(es[i]?.map (·.1)).getD 0) h (10 * bV m) p=some (.candidate j i next)/\next.dummy=none/\((∃q∈L,es[i]?=some (hkE prog w q)/\q.1=k2)\/R f' next)):∀(fuel f:Nat) (st:Option c7),f<fuel->f<=10 * bV m->(st.getD (t.probeStart h)).dummy=none->R f (st.getD (t.probeStart h))->
   aj (model prog w) A (setSearchFrom S (.ref a2) h true fuel st) Q E s
 |0,f,st,hl,_,_,_=>aq hl (by omega)
 |fuel+1,f,st,hl,hg,hdm,he=>by
  have sz:es.size=n:=by unfold gZ at hf;rw[aZ,beq_iff_eq,T.pl]at hf;exact hf.1.symm
  unfold setSearchFrom;refine ag (dj ho hd hf ?_);dsimp only;rw[ai (by unfold SetTable.gaveWay;rw[T.mask,hm];decide)];unfold SetTable.probe;rw[Yu (F':=λi=>(es[i]?.map (·.1)).getD 0),T.mask]
  rotate_left
  ·intro i;rfl
  rcases step f _ hdm he hg with ⟨j,e2,z⟩|⟨j,i,nx,f',h1,h2,h3,h5,h6,h7⟩
  ·rw[e2];exact ar (hZ j z)
  ·rw[h5];dsimp only;have hi:i<es.size:=by rw[sz,<- T.pl];exact(jo.mp h3).1
   obtain⟨q,hq,ey,c⟩:∃q∈L,es[i]?=some (hkE prog w q)/\(q.1=k2\/R f' nx):=by
    rcases h7 with ⟨q,hq,e,k⟩|h7
    ·exact⟨q,hq,e,.inl k⟩
    ·obtain⟨q,hq,e⟩:=l.at (cQ hi);exact⟨q,hq,by rw[<-e,cQ hi],.inr h7⟩
   have t1:=l.tk q hq;have si:t.sameMemory t.moves m=some true:=by unfold SetTable.sameMemory;simp
   have sb:∀v∈mC (λx:Int×aa=>x.snd) (Array.filter (λx=>x.fst==h) es).toList,∃k a,v=Value.ref a/\TK prog w s.heap k a:=λv hv=>by
    obtain⟨e,he,rfl⟩:=aP.mp hv;have he:e∈es.toList:=by rw[Array.toList_filter]at he;exact(bL.mp he).1
    obtain⟨q,hq,rfl⟩:=aP.mp (l.p.mem_iff.mp he);exact⟨q.1,q.2,rfl,l.tk q hq⟩
   cases hb:t.led;refine ag (Qr sb t2 ?_)
   all_goals
    rw[ey];refine ag (cW (wpAny_eqBool_tuple hu t1 t2 ?_));refine ag (dj ho hd hf ?_);by_cases hk:q.1=k2
    ·rw[aY hk];exact ar (hT (aP.mpr ⟨q,hq,hk⟩))
    rw[aT hk];dsimp only;rw[ai (by decide),si];dsimp only;rw[ah rfl,h2];dsimp only;rw[ey];refine ag (wpAny_isSame_ref_self ?_);refine ag (ar ?_);exact FD hu T hm hf l t2 ho hd hZ hT step fuel f' (some nx) (by omega) (by omega) h6 (c.resolve_left hk)
def Ua(m:Nat)(t:bJ)(es:Array (Int×aa)):Prop:=∀(i:Nat) (e:Int×aa) (j:Nat),es[i]?=some e->t.place[i]?=some j->Wy m (Oc t) j (10 * bV m) ((tM m).probeStart e.1)
theorem QB{Q:SetFound->ae->Prop}(hu:A.units<cLine)(T:Tu t m n)(hm:m % 2=1/\10 * bV m<100000)(hf:t.fits es.size=true)(l:Eh prog w s.heap L es)(W:Ua m t es)(t2:TK prog w s.heap k2 a2)(ho:s.heap.get? S=some o)(hd:o.data=.set es ep t)
  (he:k2∈L.map aO) (hT:Q (.there none) s):aj (model prog w) A (setSearchFrom S (.ref a2) (tupleKeyHash (tU prog w) k2) true 100000 none) Q E s:=by
 obtain⟨q,hq,rfl⟩:=aP.mp he;obtain⟨i0,hi,e0⟩:=eB.mp (l.p.mem_iff.mpr (bQ (f:=hkE prog w) hq));have e0:es[i0]?=some (hkE prog w q):=by rw[<-bT,aJ hi,e0]
 have sz:es.size=t.place.size:=by unfold gZ at hf;rw[aZ,beq_iff_eq]at hf;exact hf.1.symm
 rw[bw]at hi;have p0:t.place[i0]?=some t.place[i0]:=cQ (by omega);refine FD (Z:=λ_=>False) (R:=λf p=>Wy m (Oc t) t.place[i0] f p) hu T.toTb hm.1 hf l t2 ho hd (λj z=>z.elim) (λ_=>hT) (λf p hdm wy hg=>.inr ?_) 100000 _ none hm.2 (ay _) rfl (by
  rw[jL,UZ T.toTb];exact W i0 _ _ e0 p0)
 obtain⟨j,i,nx,f',h1,h2,h3,h4,h5,h6,h7⟩:=U0 T (λi=>(es[i]?.map (·.1)).getD 0) (tupleKeyHash (tU prog w) q.1) p0 (by show (es[i0]?.map (·.1)).getD 0=_;rw[e0];rfl) f p hdm wy _ hg
 refine⟨j,i,nx,f',h1,h2,h3,h5,h6,?_⟩;rcases h7 with rfl|h7
 ·exact .inl ⟨q,hq,e0,rfl⟩
 ·exact .inr h7
theorem QC(hu:A.units<cLine)(T:Tu t m n)(hm:m % 2=1/\10 * bV m<100000)(hf:t.fits es.size=true)(l:Eh prog w s.heap L es)(t2:TK prog w s.heap k2 a2)(ho:s.heap.get? S=some o)(hd:o.data=.set es ep t)
  (he:k2∉L.map aO) (em:Emp t (10 * bV m) (t.probeStart h)) (hZ:∀j,t.slot j=.empty->Wy m (Oc t) j (10 * bV m) ((tM m).probeStart h)->Q (.free j false) s):aj (model prog w) A (setSearchFrom S (.ref a2) h true 100000 none) Q E s:=by
 refine FD (Z:=λj=>t.slot j=.empty/\Wy m (Oc t) j (10 * bV m) ((tM m).probeStart h)) (R:=λf p=>Emp t f p/\∀x,Wy m (Oc t) x f p->Wy m (Oc t) x (10 * bV m) ((tM m).probeStart h)) hu T.toTb hm.1 hf l t2 ho hd (λj z=>hZ j z.1 z.2) (λz=>aq z he) (λf p hdm wy hg=>?_) 100000 _ none hm.2 (ay _) rfl ⟨em,λx w=>by
  rw[jL,UZ T.toTb]at w;exact w⟩
 rcases U1 T (λi=>(es[i]?.map (·.1)).getD 0) h f p hdm wy.1 _ hg with ⟨j,h1,h2,h3⟩|⟨j,i',nx,f',h1,h2,h3,h4,h5,h6,h7,h8⟩
 ·exact .inl ⟨j,h2,h1,wy.2 j h3⟩
 ·exact .inr ⟨j,i',nx,f',h1,h2,h3,h5,h6,.inr ⟨h7,λx z=>wy.2 x (h8 x z)⟩⟩
end
def Mm(m:Nat):Prop:=m=7\/m=31\/m=127
def YI(m:Nat):Nat->Nat->Nat->Nat
 |0,_,z=>z
 |k+1,i,z=>YI m k ((i * 5+1) % (m+1)) (z|||2 ^ i)
theorem Mx:∀(k i z:Nat),(YI m k i z).testBit r=true->r∈orb m k i\/z.testBit r=true
 |0,i,z,h=>.inr h
 |k+1,i,z,h=>by
  rcases Mx k _ _ h with h|h
  ·exact .inl (bu _ h)
  ·rw[Nat.testBit_or,Nat.testBit_two_pow,jP,bR]at h;rcases h with h|rfl
   ·exact .inr h
   ·exact .inl bg
theorem QD(hm:Mm m)(hi:i<=m)(hr:r<=m):r∈orb m (m+1) i:=by
 have h:∀m∈[7,31,127],((aQ (m+1)).all λi=>YI m (m+1) i 0==2 ^ (m+1) - 1)=true:=by decide +kernel
 have:=bH.mp (h m (by rcases hm with rfl|rfl|rfl<;>simp)) i (bI.mpr (by omega));refine(Mx (m+1) i 0 ?_).resolve_right (by simp);rw[eK this,Nat.testBit_two_pow_sub_one,bR];omega
theorem Mm.odd(h:Mm m):m % 2=1/\10 * bV m<100000:=by rcases h with rfl|rfl|rfl<;>decide
section
variable{t:bJ}{m n:Nat}
theorem Emp.al(T:Tb t m n)(hm:Mm m)(hn:n<=m):∀(k i q:Nat),i<=m->q<32 ^ k->Emp t (10 * (k+(m+1))) (rs m i q)
 |0,i,q,hi,hq=>by
  obtain⟨r,hr,e⟩:=T.free hn;have q0:q=0:=by simpa using hq
  rw[q0,jS];exact Emp.orb T e _ _ (QD hm hi hr)
 |k+1,i,q,hi,hq=>by have:=Emp.leap T (Emp.al T hm hn k ((i * 5+1+q / 32) % (m+1)) (q / 32) (fS (dQ _ (eI m))) (by rw[jV]at hq;omega));exact this.mono (by omega)
theorem My(h:Int):cX h<32 ^ 13:=by unfold cX;omega
theorem Emp.st(T:Tb t m n)(hm:Mm m)(hn:n<=m)(h:Int):Emp t (10 * bV m) (t.probeStart h):=by
 have:=Emp.al T hm hn 13 (cX h % (m+1)) (cX h) (fS (dQ _ (eI m))) (My h);have e:t.probeStart h=rs m (cX h % (m+1)) (cX h):=by unfold SetTable.probeStart;rw[T.mask];rfl
 rw[e];exact this.mono (by unfold bV;omega)
variable{ow:Array (Option Nat)}{O:Nat->Prop}{j:Nat}
theorem QE:∀(k mo x:Nat),k<=mo->(∀k',k'<k->O (x+k'))->x+k=j->Wy m O j (k+1) ⟨x,mo,i,q,none⟩
 |0,mo,x,_,_,e=>.inl e
 |k+1,0,x,h,_,_=>aq h (by omega)
 |k+1,mo+1,x,h,ho,e=>.inr ⟨ho 0 (by omega),by
   have e1:(tM m).advance ⟨x,mo+1,i,q,none⟩=⟨x+1,mo,i,q,none⟩:=by unfold gS;rw[ah (eI mo)];rfl
   rw[e1];exact QE k mo (x+1) (by omega) (λk' hk=>by rw[show x+1+k'=x+(k'+1) by omega];exact ho _ (by omega)) (by omega)⟩
theorem Mz(h:Wy m O j f (rs m ((i * 5+1+q / 32) % (m+1)) (q / 32))):∀(mo x:Nat),(∀k,k<=mo->O (x+k))->Wy m O j (f+mo+1) ⟨x,mo,i,q,none⟩
 |0,x,ho=>.inr ⟨ho 0 (ay _),by
   have e:(tM m).advance ⟨x,0,i,q,none⟩=rs m ((i * 5+1+q / 32) % (m+1)) (q / 32):=by unfold gS p9;rfl
   rw[e];exact h⟩
 |mo+1,x,ho=>.inr ⟨ho 0 (by omega),by
   have e1:(tM m).advance ⟨x,mo+1,i,q,none⟩=⟨x+1,mo,i,q,none⟩:=by unfold gS;rw[ah (eI mo)];rfl
   rw[e1];exact Mz h mo (x+1) λk hk=>by rw[show x+1+k=x+(k+1) by omega];exact ho _ (by omega)⟩
abbrev Oo(m:Nat)(ow:Array (Option Nat))(x:Nat):Prop:=x<=m/\¬Nn ow x
theorem U2(hi:i<=m):i<=cx m i/\cx m i<=m/\cx m i<=i+9:=by unfold cx;split<;>omega
theorem Iw(hi:i<=m):(∃k,k<=cx m i - i/\Nn ow (i+k)/\(∀k',k'<k->¬Nn ow (i+k'))/\dw m ow (f+1) i q=some (i+k))\/
  ((∀k,k<=cx m i - i->¬Nn ow (i+k))/\dw m ow (f+1) i q=dw m ow f ((i * 5+1+q / 32) % (m+1)) (q / 32)):=by
 have ef:dw m ow (f+1) i q=match (aQ (cx m i+1 - i)).find? λk=>(ow.getD (i+k) (some 0)).isNone with
  |some k=>some (i+k)
  |none=>dw m ow f ((i * 5+1+q / 32) % (m+1)) (q / 32):=rfl
 have rm:=U2 hi;rw[ef];cases e:(aQ (cx m i+1 - i)).find? λk=>(ow.getD (i+k) (some 0)).isNone with
 |some k=>
  obtain⟨h1,a,b,h2,h3⟩:=List.find?_eq_some_iff_append.mp e;have hl:a.length=k/\∀x,x<k->x∈a:=by
   have ek:(aQ (cx m i+1 - i))[a.length]?=some k:=by rw[h2];simp
   obtain⟨z1,z2⟩:=bO.mp ek;rw[oq]at z2;refine⟨z2,λx hx=>?_⟩;have ex:(aQ (cx m i+1 - i))[x]?=some x:=by rw[kB];rw[cI]at z1;omega
   rw[h2,cH (by omega)]at ex;exact bU ex
  have hk:k∈aQ (cx m i+1 - i):=List.mem_of_find?_eq_some e;rw[bI]at hk;have h5:∀k',k'<k->¬Nn ow (i+k'):=λk' hk' z=>by have:=h3 k' (hl.2 k' hk');unfold Nn at z;rw[z]at this;cases this
  exact .inl ⟨k,by omega,h1,h5,rfl⟩
 |none=>refine .inr ⟨λk hk h=>?_,rfl⟩;have:=List.find?_eq_none.mp e k (bI.mpr (by omega));exact this h
theorem G5(hr:Nn ow r):∀(k f i:Nat),k<=f->i<=m->r∈orb m k i->∃j,dw m ow f i 0=some j
 |0,f,i,_,_,h=>by cases h
 |k+1,0,i,hf,_,_=>aq hf (by omega)
 |k+1,f+1,i,hf,hi,h=>by
  rcases Iw (ow:=ow) (f:=f) (q:=0) hi with ⟨k',_,_,_,e⟩|⟨h1,h2⟩
  ·exact⟨_,e⟩
  ·rcases aN.mp h with e|h
   ·exact aq (e▸hr) (h1 0 (bA _))
   ·rw[h2];exact G5 hr k f _ (by omega) (fS (dQ _ (eI m))) h
theorem MA(hm:Mm m)(hr:Nn ow r)(h32:r<=m):∀(k f i q:Nat),k+(m+1)<=f->i<=m->q<32 ^ k->∃j,dw m ow f i q=some j
 |0,f,i,q,hf,hi,hq=>by
  have q0:q=0:=by simpa using hq
  rw[q0];exact G5 hr (m+1) f i (by omega) hi (QD hm hi h32)
 |k+1,0,i,q,hf,_,_=>aq hf (by omega)
 |k+1,f+1,i,q,hf,hi,hq=>by
  rcases Iw (ow:=ow) (f:=f) (q:=q) hi with ⟨k',_,_,_,e⟩|⟨_,h2⟩
  ·exact⟨_,e⟩
  ·rw[h2];exact MA hm hr h32 k f _ _ (by omega) (fS (dQ _ (eI m))) (by rw[jV]at hq;omega)
theorem MB:∀(f i q:Nat),i<=m->dw m ow f i q=some j->Nn ow j/\Wy m (Oo m ow) j (10 * f) (rs m i q)
 |0,i,q,_,e=>by cases e
 |f+1,i,q,hi,e=>by
  have rm:=U2 hi;rcases Iw (ow:=ow) (f:=f) (q:=q) hi with ⟨k,h1,h2,h3,h4⟩|⟨h1,h2⟩
  ·rw[h4]at e;cases e;exact⟨h2,(QE k _ i h1 (λk' hk=>⟨by omega,h3 k' hk⟩) rfl).mono (λ_ h=>h) (by omega)⟩
  ·rw[h2]at e;obtain⟨h3,h4⟩:=MB f _ _ (fS (dQ _ (eI m))) e;exact⟨h3,(Mz h4 (cx m i - i) i λk hk=>⟨by omega,h1 k hk⟩).mono (λ_ h=>h) (by omega)⟩
def lvm(m:Nat)(ow:Array (Option Nat)):List (Nat×Nat):=(aQ (m+1)).filterMap λj=>(ow.getD j none).map (j,·)
theorem YJ(hs:ow.size=m+1)(h:Nn ow j):j<m+1/\ow.getD j none=none:=by
 unfold Nn at h;by_cases hj:j<ow.size
 ·refine⟨by omega,?_⟩;rw[eS,cQ hj]at h ⊢;simpa using h
 ·rw[eS,Array.getElem?_eq_none (by omega)]at h;cases h
theorem QF(hs:ow.size=m+1)(hj:j<=m)(e:ow.getD j none=none):Nn ow j:=by unfold Nn;rw[eS,cQ (by omega)]at e ⊢;simpa using e
theorem MC(hj:j<ow.size)(i:Nat):(ow.setIfInBounds j (some k)).getD i none=if i=j then some k else ow.getD i none:=by
 rw[eS,eS,Array.getElem?_setIfInBounds];by_cases hi:j=i
 ·subst hi;rw[ah rfl,ah (by omega),ah rfl];rfl
 ·rw[ai hi,ai (λe=>hi e.symm)]
theorem Ub(hs:ow.size=m+1)(h:Nn ow j):(lvm m (ow.setIfInBounds j (some k))).Perm ((j,k)::lvm m ow):=by
 obtain⟨hj,e⟩:=YJ hs h;have get:=MC (ow:=ow) (k:=k) (j:=j) (by omega);obtain⟨a,b,sp⟩:=oA (bI.mpr hj);have nd:(aQ (m+1)).Nodup:=lr;rw[sp,cA,dq]at nd;unfold lvm;rw[sp,nP,nP,de,de,get j,ah rfl,e];have eq:∀l:List Nat,j∉l->l.filterMap (λi=>((ow.setIfInBounds j (some k)).getD i none).map (i,·))=l.filterMap λi=>(ow.getD i none).map (i,·):=λl hl=>by
  induction l with
  |nil=>rfl
  |cons i l ih=>rw[de,de,ih λz=>hl (bu _ z),get i,ai λe=>hl (by rw[<-e];exact bg)]
 rw[eq a λz=>nd.2.2 j z j bg rfl,eq b nd.2.1.1];exact jM
theorem QG(hs:ow.size=m+1)(hl:(lvm m ow).length<=m):∃r,r<=m/\Nn ow r:=by
 apply gB;intro no;have:∀l:List Nat,(∀j∈l,j<=m)->(l.filterMap λj=>(ow.getD j none).map (j,·)).length=l.length:=λl hl=>by
  induction l with
  |nil=>rfl
  |cons j l ih=>
   have hj:=hl j bg;cases e:ow.getD j none with
   |none=>exact aq ⟨j,hj,QF hs hj e⟩ no
   |some x=>rw[de,e];show (List.filterMap _ l).length+1=l.length+1;rw[ih λz hz=>hl z (bu _ hz)]
 have:=this (aQ (m+1)) λj hj=>by have:=bI.mp hj;omega
 unfold lvm at hl;rw[this,cI]at hl;omega
def Lw(m:Nat)(ow:Array (Option Nat))(hs:List Int):Prop:=∀j k,j<=m->ow.getD j none=some k->∃h,hs[k]?=some h/\Wy m (Oo m ow) j (10 * bV m) ((tM m).probeStart h)
theorem U3(hm:Mm m):∀(hs pre:List Int) (ow:Array (Option Nat)),ow.size=m+1->((lvm m ow).map cp).Perm (aQ pre.length)->Lw m ow pre->pre.length+hs.length<=m->∃ow',ow'.size=m+1/\((lvm m ow').map cp).Perm (aQ (pre.length+hs.length))/\Lw m ow' (pre++hs)/\
  (hs.foldl (λacc h=>do
   let (owner,k)<-acc;let j<-dw m owner (bV m) (cX h % (m+1)) (cX h)
   pure (owner.setIfInBounds j (some k),k+1)) (some (ow,pre.length)))=some (ow',pre.length+hs.length)
 |[],pre,ow,h1,h2,h4,_=>⟨ow,h1,h2,by rw[bq];exact h4,rfl⟩
 |h::hs,pre,ow,h1,h2,h4,h3=>by
  rw[aM]at h3;have ll:=h2.length_eq;rw[af,cI]at ll;obtain⟨r,hr,nr⟩:=QG h1 (by omega);have mo:cX h % (m+1)<=m:=fS (dQ _ (eI m));obtain⟨j,ej⟩:=MA hm nr hr 13 (bV m) (cX h % (m+1)) (cX h) (by unfold bV;omega) mo (My h);obtain⟨nj,wj⟩:=MB _ _ _ mo ej;have jl:=(YJ h1 nj).1;have get:=MC (ow:=ow) (k:=pre.length) (j:=j) (by omega);have up:∀x,Oo m ow x->Oo m (ow.setIfInBounds j (some pre.length)) x:=λx hx=>⟨hx.1,λz=>by
   have:=(YJ (m:=m) (by rw[ng];exact h1) z).2;rw[get x]at this;split at this
   ·cases this
   ·exact hx.2 (QF h1 hx.1 this)⟩
  obtain⟨ow',q1,q2,q4,q3⟩:=U3 hm hs (pre++[h]) (ow.setIfInBounds j (some pre.length)) (by rw[ng];exact h1) (by
   refine((Ub h1 nj).map cp).trans ?_;rw[aE,aB,bh,List.range_succ];exact((List.Perm.cons _ h2).trans (jq _ _).symm)) (λx k hx e=>by
    rw[get x]at e;split at e
    ·rename_i ex;cases e;subst ex;exact⟨h,by rw[cG (ay _),ib];rfl,wj.mono up (ay _)⟩
    ·obtain⟨h',e1,w⟩:=h4 x k hx e;exact⟨h',by rw[cH (bO.mp e1).1];exact e1,w.mono up (ay _)⟩) (by rw[aB,bh];omega)
  rw[aB,bh]at q2 q3;refine⟨ow',q1,by rw[aM,show pre.length+(hs.length+1)=pre.length+1+hs.length by omega];exact q2,by rw[bD]at q4;exact q4,?_⟩;rw[dB,aM,show pre.length+(hs.length+1)=pre.length+1+hs.length by omega,<- q3];congr 1;show (dw m ow (bV m) (cX h % (m+1)) (cX h)).bind _=_;rw[ej];rfl
theorem YK(hm:Mm m)(hs:Array Int)(hn:hs.size<=m):∃t order,qb m fg mv led pl hs=some (t,order)/\Tu t m hs.size/\t.led=led/\t.plain=pl/\order.toList.Perm (aQ hs.size)/\
  ∀(i j k:Nat),t.place[i]?=some j->order[i]?=some k->∃h,hs[k]?=some h/\Wy m (Oc t) j (10 * bV m) ((tM m).probeStart h):=by
 have no:∀j,(lD (m+1) (none:Option Nat)).getD j none=none:=λj=>by rw[eS,Array.getElem?_replicate];split<;>rfl
 obtain⟨ow,h1,h2,h4,h3⟩:=U3 hm hs.toList [] (lD (m+1) none) (by simp) (by
  have:lvm m (lD (m+1) none)=[]:=by unfold lvm;rw[List.filterMap_eq_nil_iff];intro j hj;rw[no j];rfl
  rw[this];exact .nil) (λj k _ e=>by rw[no j]at e;cases e) (by rw[bw];simpa using hn)
 rw[fj,jS,bw]at h2 h3;have e:oP m hs=some ow:=by unfold oP;rw[<-Array.foldl_toList];exact ba (qD aO) h3
 have mem:∀q∈lvm m ow,q.1<=m/\ow.getD q.1 none=some q.2:=λq hq=>by
  unfold lvm at hq;obtain⟨j,hj,e⟩:=iG.mp hq;cases e2:ow.getD j none with
  |none=>rw[e2]at e;cases e
  |some x=>rw[e2]at e;cases e;exact⟨fS (bI.mp hj),e2⟩
 refine⟨⟨m,((lvm m ow).map (·.1)).toArray,#[],fg,led,mv,pl⟩,((lvm m ow).map (·.2)).toArray,by unfold qb;rw[e];rfl,⟨⟨rfl,rfl,?_⟩,?_⟩,rfl,rfl,h2,λi j k ej ek=>?_⟩
 ·have:=h2.length_eq;rw[af,cI]at this;rw[bf,af,this]
 ·show List.Pairwise _ ((lvm m ow).map (·.1))
  have sub:∀l:List Nat,((l.filterMap λj=>(ow.getD j none).map (j,·)).map (·.1)).Sublist l:=λl=>by
   induction l with
   |nil=>exact .slnil
   |cons x l ih=>
    rw[de];cases ow.getD x none with
    |none=>exact ih.cons x
    |some y=>exact ih.cons_cons x
  exact sf (sub _) List.pairwise_lt_range
 ·rw[jz,bc]at ej ek;obtain⟨q,e1,rfl⟩:=ny.mp ej;rw[e1]at ek;cases ek;obtain⟨m1,m2⟩:=mem q (bU e1);obtain⟨h,g1,g2⟩:=h4 q.1 q.2 m1 m2;refine⟨h,by rw[bY,bT]at g1;exact g1,g2.mono (λx hx=>?_) (ay _)⟩;show x∈(lvm m ow).map (·.1)
  cases e2:ow.getD x none with
  |none=>exact aq (QF h1 hx.1 e2) hx.2
  |some y=>exact aP.mpr ⟨(x,y),iG.mpr ⟨x,bI.mpr (by have:=hx.1;omega),by rw[e2];rfl⟩,rfl⟩
end
theorem U4{α β:Type}(f:α->Option β):∀(l:List α),(∀k∈l,∃e,f k=some e)->∀i:Nat,(l.filterMap f)[i]?=l[i]?.bind f
 |[],_,i=>rfl
 |a::l,h,i=>by
  obtain⟨e,ea⟩:=h a bg;rw[de,ea];cases i with
  |zero=>exact ea.symm
  |succ i=>exact U4 f l (λk hk=>h k (bu _ hk)) i
section
variable{prog:aH}{w:aA}{A:aI}{E:aa->ae->Prop}{s:ae}{L:List (List Key×Addr)}{es:Array (Int×aa)}{t:bJ}{m n ep:Nat}{S a2:Addr}{k2:List Key}{o:Obj}{h:Int}
theorem Uc(hc:(t.mask=7/\es.size=5/\m=31)\/(t.mask=31/\es.size=19/\m=127))(ho:s.heap.get? S=some o)(hd:o.data=.set es ep t)(hf:t.fits es.size=true)
  (hQ:∀h' es' t',f9 S s.heap h'->h'.get? S=some { o with data:=.set es' (ep+1) t' }->Tu t' m es.size->Ua m t' es'->t'.led=t.led->t'.plain=t.plain->es'.toList.Perm es.toList->Q () { s with heap:=h' }):aj (model prog w) A (setRelay S (iR es.size)) Q E s:=by
 have hm:Mm m:=by unfold Mm;omega
 have hg:oB (iR es.size) - 1=m/\¬oB (iR es.size) > 1000:=by rcases hc with ⟨_,e,rfl⟩|⟨_,e,rfl⟩<;>rw[e]<;>decide
 unfold setRelay;refine ag (dj ho hd hf ?_);dsimp only;rw[ai (by rw[bN];omega)];obtain⟨t',order,e1,T,e2,e3,e4,e5⟩:=YK (fg:=t.finger) (mv:=t.movedTo m) (led:=t.led) (pl:=t.plain) hm (es.map (·.1)) (by rw[pP];omega)
 rw[pP]at T e4;have all:∀k∈order.toList,∃e,es[k]?=some e:=λk hk=>⟨es[k]'(bI.mp (e4.mem_iff.mp hk)),cQ _⟩;have hp:(order.filterMap (es[·]?)).toList.Perm es.toList:=by rw[nE];exact(e4.filterMap _).trans (by rw[kx])
 have er:t.relaid (es.map (·.1)) (iR es.size)=some (t',order):=by unfold SetTable.relaid;rw[hg.1];exact e1
 rw[er];have sz:(order.filterMap (es[·]?)).size=es.size:=by have:=hp.length_eq;rw[bw,bw]at this;exact this
 refine ag ?_;wp_delta;dsimp only;rw[ai (by rw[sz];simp)];refine ar ?_;refine oQ ho hd ?_ (by show (order.filterMap (es[·]?)).size<=aG;rw[sz,bN];omega)
 refine hQ _ _ _ (eD ..) (PF ho hd) T (λi e j he hj=>?_) e2 e3 hp;rw[<-bT,nE,U4 _ _ all]at he;obtain⟨k,ek,he⟩:=ni.mp he;rw[bT]at ek;obtain⟨h,eh,w⟩:=e5 i j k hj ek;rw[Array.getElem?_map,he]at eh;cases eh;exact w
def Cw(m n:Nat)(t:bJ)(es:Array (Int×aa)):Prop:=Tu t m n/\Cz2 m n/\Ua m t es
theorem YL{m n:Nat}(h:Cz2 m n):Mm m/\n<=m/\n+1<=m:=by unfold Cz2 at h;unfold Mm;omega
theorem cz_g{m n:Nat}(h:Cz2 m n)(h0:n<63)(h5:(n+1) * 5 >= m * 3):∃m',((m=7/\n+1=5/\m'=31)\/(m=31/\n+1=19/\m'=127))/\Cz2 m' (n+1):=by
 unfold Cz2 at h ⊢;by_cases z:m=7
 ·exact⟨31,by omega⟩
 ·exact⟨127,by omega⟩
theorem cz_n{m n:Nat}(h:Cz2 m n)(h0:n<63)(h5:¬(n+1) * 5 >= m * 3):Cz2 m (n+1):=by unfold Cz2 at h ⊢;omega
theorem aaL(hu:A.units<cLine)(C:Cw m n t es)(h60:n<63)(hf:t.fits es.size=true)(l:Eh prog w s.heap L es)(t2:TK prog w s.heap (Sum.inr x::k2) a2)
  (ho:s.heap.get? S=some o) (hd:o.data=.set es ep t) (hT:(Sum.inr x::k2)∈L.map aO->Q false s)
  (hQ:(Sum.inr x::k2)∉L.map aO->∀h' es' t' ep' m',f9 S s.heap h'->h'.get? S=some { o with data:=.set es' ep' t' }->Cw m' (n+1) t' es'->t'.led=t.led->t'.plain=false->es'.toList.Perm ((tupleKeyHash (tU prog w) (Sum.inr x::k2),.ref a2)::es.toList)->Q true { s with heap:=h' }):
  aj (model prog w) A (setAddHashed S (.ref a2) (tupleKeyHash (tU prog w) (Sum.inr x::k2))) Q E s:=by
 obtain⟨T,hc,W⟩:=C;have hm:Mm m:=(YL hc).1;have sz:es.size=n:=by unfold gZ at hf;rw[aZ,beq_iff_eq,T.pl]at hf;exact hf.1.symm
 unfold setAddHashed setAddHashedIn;refine cW (ag (dj ho hd hf ?_));dsimp only;rw[ai (by simp[byScan,Value.scannable])];have nm:n<=m:=(YL hc).2.1;by_cases ne:(Sum.inr x::k2)∈L.map aO
 ·refine ag (QB hu T hm.odd hf l W t2 ho hd ne ?_);exact ar (hT ne)
 generalize hh:tupleKeyHash (tU prog w) (Sum.inr x::k2)=h at hQ ⊢;refine ag (QC hu T hm.odd hf l t2 ho hd ne (Emp.st T.toTb hm nm h) λj hj wj=>?_);dsimp only;refine ag (dj ho hd hf ?_);dsimp only;have p1:(t.put j).1.mask=m:=T.mask;have p2:(t.put j).1.dummies=#[]:=by show (if qg t.dummies j then _ else t.dummies)=_;rw[T.dm];rfl
 have bl:=(FC T.up j).1;have p3:(t.put j).1.place.size=n+1:=by have:=(ky t.place (bz t.place j) j).length_eq;rw[bw,bw,Array.size_push,T.pl]at this;exact this
 have p4:(cJ es (t.put j).2 (h,Value.ref a2)).toList.Perm ((h,.ref a2)::es.toList):=by refine(ky es _ _).trans ?_;rw[kX];exact jq _ _
 have p5:(cJ es (t.put j).2 (h,Value.ref a2)).size=n+1:=by have:=p4.length_eq;rw[bw,aM,bw,sz]at this;exact this
 let t1:bJ:={ (t.put j).1 with plain:=false };have T1:Tu t1 m (n+1):=⟨⟨p1,p2,p3⟩,YG T.up (T.emp hj)⟩;have up:∀x,Oc t x->Oc t1 x:=λx hx=>by show x∈(cJ t.place (bz t.place j) j).toList;rw[(ky _ _ _).mem_iff,kX];exact ck _ hx
 have W1:Ua m t1 (cJ es (t.put j).2 (h,Value.ref a2)):=λi e r he hr=>by
  have he:(cJ es (bz t.place j) (h,Value.ref a2))[i]?=some e:=he;have hr:(cJ t.place (bz t.place j) j)[i]?=some r:=hr;rw[zF _ (by rw[sz,<- T.pl];exact bl)]at he;rw[zF _ bl]at hr;by_cases c1:i<bz t.place j
  ·rw[ah c1]at he hr;exact(W i e r he hr).mono up (ay _)
  ·rw[ai c1]at he hr;by_cases c2:i=bz t.place j
   ·rw[ah c2]at he hr;cases he;cases hr;exact wj.mono up (ay _)
   ·rw[ai c2]at he hr;exact(W (i - 1) e r he hr).mono up (ay _)
 have f1:t1.fits (cJ es (t.put j).2 (h,Value.ref a2)).size=true:=by unfold gZ lS;rw[p5,T1.pl,T1.dm,T1.mask,aZ];exact⟨by simp,aY (by have:=(YL hc).2.2;simp;first|exact this|omega)⟩
 have fin:∀t0:bJ,t0=t1->aj (model prog w) A (do
   storeSet S (cJ es (t.put j).2 (h,.ref a2)) t0
   if (!false&&t0.tooFull)=true then do setRelay S (iR (es.size+1));pure true else pure true) Q E s:=λt0 e=>by
  subst e;refine ag (oQ ho hd ?_ (by rw[p5,bN];omega));have g1:=PF (es':=cJ es (t.put j).2 (h,Value.ref a2)) (t':=t1) ho hd;have tf:t1.tooFull=decide ((n+1) * 5 >= m * 3):=by unfold SetTable.tooFull lS;rw[T1.pl,T1.dm,T1.mask];rfl
  rw[tf];by_cases h5:(n+1) * 5 >= m * 3
  ·rw[aY h5,ah (by decide),sz,<- p5];obtain⟨m',hm',hz⟩:=cz_g hc h60 h5;refine ag (Uc (m:=m') (s:={ s with heap:=s.heap.update S (ml (cJ es (t.put j).2 (h,.ref a2)) t1) }) (by rw[p5,T1.mask];exact hm') g1 rfl f1 λh' es' t' b1 b2 b3 b3' b4 b5 b6=>?_);rw[p5]at b3;exact ar (hQ ne h' es' t' _ m' ((eD ..).trans b1) b2 ⟨b3,hz,b3'⟩ b4 b5 (b6.trans p4))
  ·rw[aT h5,ai (by decide)];exact ar (hQ ne _ _ _ _ m (eD ..) g1 ⟨T1,cz_n hc h60 h5,W1⟩ rfl rfl p4)
 split
 ·refine ag (Qs t2 ?_);exact fin _ rfl
 ·rename_i hp;refine ag (ar (fin _ ?_));rw[oY]at hp;rw[ah rfl];show (t.put j).1={ (t.put j).1 with plain:=false };rw[<-hp]
end
section
variable{κ α:Type}[DecidableEq κ]
def ust(acc:List (κ×α))(q:κ×α):List (κ×α):=if q.1∈acc.map aO then acc else acc++[q]
def uqP(l:List (κ×α)):List (κ×α):=l.foldl ust []
def uqK(l:List κ):List κ:=l.foldl (λacc k=>if k∈acc then acc else acc++[k]) []
theorem Iy(acc:List (κ×α)):∀l:List (κ×α),∃r,l.foldl ust acc=acc++r/\∀q∈r,q∈l
 |[]=>⟨[],(bq _).symm,λq hq=>by cases hq⟩
 |q::l=>by
  obtain⟨r,e,h⟩:=Iy (ust acc q) l;rw[dB,e];unfold ust;split
  ·exact⟨r,rfl,λq hq=>bu _ (h q hq)⟩
  ·refine⟨q::r,by rw[bD];rfl,λx hx=>?_⟩;rcases aN.mp hx with rfl|hx
   ·exact bg
   ·exact bu _ (h x hx)
theorem QH(l:List (κ×α))(q:κ×α):uqP (l++[q])=ust (uqP l) q:=by unfold uqP;rw[kW];rfl
theorem ME(l:List (κ×α))(i:Nat):(uqP (l.take i)).length<=(uqP l).length:=by
 have e:uqP l=(l.drop i).foldl ust (uqP (l.take i)):=by unfold uqP;rw[<-kW,gH]
 obtain⟨r,h,_⟩:=Iy (uqP (l.take i)) (l.drop i);rw[e,h,aB];omega
theorem IA{l:List (κ×α)}{q:κ×α}(h:q∈uqP l):q∈l:=by obtain⟨r,e,h'⟩:=Iy ([]:List (κ×α)) l;unfold uqP at h;rw[e]at h;exact h' q h
theorem QI:∀(l:List (κ×α)) (acc:List (κ×α)),(l.foldl ust acc).map aO=(l.map aO).foldl (λacc k=>if k∈acc then acc else acc++[k]) (acc.map aO)
 |[],acc=>rfl
 |q::l,acc=>by
  rw[dB,QI l,aE,dB];congr 1;unfold ust;split
  ·rfl
  ·rw[aX];rfl
theorem Cc(l:List (κ×α)):(uqP l).map aO=uqK (l.map aO):=QI l []
theorem EF:∀(l acc:List κ),acc.Nodup->(l.foldl (λacc k=>if k∈acc then acc else acc++[k]) acc).Nodup/\∀x,x∈l.foldl (λacc k=>if k∈acc then acc else acc++[k]) acc ↔ x∈acc\/x∈l
 |[],acc,h=>⟨h,λx=>⟨.inl,λh=>h.resolve_right (by simp)⟩⟩
 |k::l,acc,h=>by
  rw[dB];split
  ·rename_i hk;obtain⟨h1,h2⟩:=EF l acc h;refine⟨h1,λx=>(h2 x).trans ⟨λh=>h.imp id (bu _),λh=>?_⟩⟩;rcases h with h|h
   ·exact .inl h
   ·rcases aN.mp h with rfl|h
    ·exact .inl hk
    ·exact .inr h
  ·rename_i hk;obtain⟨h1,h2⟩:=EF l (acc++[k]) (cA.mpr ⟨h,dq.mpr ⟨cn,.nil⟩,λa ha b hb e=>hk (by rw[<-aV.mp hb,<- e];exact ha)⟩);refine⟨h1,λx=>(h2 x).trans ?_⟩;rw[bx,aV,aN,or_assoc]
theorem FH(l:List κ):(uqK l).Nodup:=(EF l [] .nil).1
theorem zT{l:List κ}{x:κ}:x∈uqK l ↔ x∈l:=((EF l [] .nil).2 x).trans ⟨λh=>h.resolve_left (by simp),.inr⟩
theorem Ud{κ':Type}[DecidableEq κ']{g:κ->κ'}(hg:∀a b,g a=g b->a=b)(l:List (κ×α)):uqP (l.map λq=>(g q.1,q.2))=(uqP l).map λq=>(g q.1,q.2):=by
 have:∀(l acc:List (κ×α)),(l.map λq=>(g q.1,q.2)).foldl ust (acc.map λq=>(g q.1,q.2))=(l.foldl ust acc).map λq=>(g q.1,q.2):=λl=>by
  induction l with
  |nil=>intro acc;rfl
  |cons q l ih=>
   intro acc;rw[aE,dB,dB,<- ih];congr 1;unfold ust;have:g q.1∈(acc.map λq=>(g q.1,q.2)).map aO ↔ q.1∈acc.map aO:=by rw[aU,aP,aP];exact⟨λ⟨a,h1,h2⟩=>⟨a,h1,hg _ _ h2⟩,λ⟨a,h1,h2⟩=>⟨a,h1,ba g h2⟩⟩
   by_cases hk:q.1∈acc.map aO
   ·rw[ah hk,ah (this.mpr hk)]
   ·rw[ai hk,ai λz=>hk (this.mp z),aX];rfl
 exact this l []
end
structure Ue(prog:aH)(w:aA)(h:Heap)(S:Addr)(L:List (List Key×Addr))(led:Bool)(n:Nat)(o:Obj)(es:Array (Int×aa))(ep:Nat)(t:bJ):Prop extends AG h S L led n o es ep t where
 cw:∃m,Cw m n t es
 pe:es.toList.Perm (L.map (hkE prog w))
section
variable{prog:aH}{w:aA}{A:aI}{R:fF->ae->Prop}{I:Addr}{fp wr:List Addr}{GG:Array gf->Array gf->Prop}{n:Nat}{PP:Nat->aa->Prop}{SS:Nat->ae->Prop}
theorem N2(W:WalksS prog w A.in1 I fp wr GG n PP SS)(hSf:S∉fp)(hu:A.in1.units<cLine)(L:List (List Key×Addr))(hn:L.length=n)(h8:(uqP L).length<63)(hk:∀q∈L,∃x k,q.1=Sum.inr x::k)(far:∀q∈L,q.2∉S::wr)
  (hval:∀i v,PP i v->∃q,L[i]?=some q/\v=.ref q.2):∀(k i:Nat) (s:ae) (o:Obj) (es:Array (Int×aa)) (ep:Nat) (t:bJ),n - i=k->i<=n->SS i s->(∀q∈L,TK prog w s.heap q.1 q.2)->Ue prog w s.heap S (uqP (L.take i)) led (uqP (L.take i)).length o es ep t->
   (∀s' o es ep t,Moved (S::wr) GG s s'->Ue prog w s'.heap S (uqP L) led (uqP L).length o es ep t->R (.ok (.ret .none)) s')->
   cq (model prog w) A (.builtin "set.update.loop" ⟨[.ref S,.ref I],[]⟩) R s:=by
 have hSw:S∉wr:=λz=>hSf (W.sub _ z);have up:∀b∈wr,b∈S::wr:=λb z=>bu _ z;intro k
 induction k with
 |zero=>
  intro i s o es ep t hk' hi hst tk x hR;obtain rfl:i=n:=by omega
  refine dD jw ?_;rw[eC fP _];show aj _ A.in1 (pyNext (.ref I)>>=_) _ _ s;refine ag (W.done s _ _ hst λs' hm=>?_);show aj _ A.in1 (ret Value.none) _ _ s';rw[jy (by omega)]at x;exact ar (hR s' o es ep t (hm.mono up) { x with at_:=hm.heap S _ hSw x.at_ })
 |succ k ih=>
  intro i s o es ep t hk' hi hst tk x hR;have hlt:i<n:=by omega
  refine dD jw ?_;rw[eC fP _];show aj _ A.in1 (pyNext (.ref I)>>=_) _ _ s;refine ag (W.item i s _ _ hlt hst λv s' hP hst' hm=>?_);obtain⟨q,eq,rfl⟩:=hval i v hP;have mq:q∈L:=bU eq;have tk':∀q∈L,TK prog w s'.heap q.1 q.2:=λq hq=>(tk q hq).kept λo=>hm.heap q.2 o λz=>far q hq (up _ z);show aj _ A.in1 (holding _ (setAdd S _)>>=_) _ _ s';refine ag (cW ?_);unfold setAdd;refine cW ?_;refine ag (wpAny_pyHash_tuple hu (tk' q mq) ?_);obtain⟨m,C⟩:=x.cw;obtain⟨z,kk,ez⟩:=hk q mq;have tq:TK prog w s'.heap (Sum.inr z::kk) q.2:=by rw[<-ez];exact tk' q mq
  have split:uqP (L.take (i+1))=ust (uqP (L.take i)) q:=by rw[oH,eq];exact QH _ _
  have sub:∀r∈uqP (L.take i),r∈L:=λr hr=>(iJ _ _).subset (IA hr);have x':Ue prog w s'.heap S (uqP (L.take i)) led (uqP (L.take i)).length o es ep t:={ x with at_:=hm.heap S _ hSw x.at_ };have ul:=ME L i;have ul1:=ME L (i+1);rw[ez];refine aaL (s:={ s' with toks:=s'.toks+((Sum.inr z::kk:List Key).length+1) }) (L:=uqP (L.take i)) hu C (by omega) (AG.fits ⟨x'.at_,x'.ex,x'.d,x'.c,x'.led,x'.pl,x'.p⟩ rfl) ⟨λr hr=>tk' r (sub r hr),x'.pe⟩ tq x'.at_ x'.d (λinn=>?_) λnin h' es' t' ep' m' b1 b2 b3 b5 b6 b7=>?_
  ·rw[<-ez]at inn;have e:uqP (L.take (i+1))=uqP (L.take i):=by rw[split];unfold ust;rw[ah inn]
   refine ar ⟨fA fP _,ih (i+1) _ o es ep t (by omega) hlt (W.frame _ s' s'.heap _ hst' (iO _ _) λb z o e=>e) tk' (by rw[e];exact x') λs'' o2 es2 ep2 t2 hm'' x2=>?_⟩;exact hR s'' o2 es2 ep2 t2 (l8 W.gtrans ((hm.mono up).then_heap (iO _ _) λb o z e=>e) hm'') x2
  rw[<-ez]at nin;have e:uqP (L.take (i+1))=uqP (L.take i)++[q]:=by rw[split];unfold ust;rw[ai nin]
  have y:Ue prog w h' S (uqP (L.take (i+1))) led (uqP (L.take (i+1))).length { o with data:=.set es' ep' t' } es' ep' t':=by
   have pe:es'.toList.Perm ((uqP (L.take (i+1))).map (hkE prog w)):=by rw[e,aX];refine b7.trans (.trans ?_ (jq _ _).symm);rw[show hkE prog w q=(tupleKeyHash (tU prog w) (Sum.inr z::kk),.ref q.2) by unfold hkE;rw[ez]];exact List.Perm.cons _ x.pe
   have hl:(uqP (L.take (i+1))).length=(uqP (L.take i)).length+1:=by rw[e,aB];rfl
   rw[hl];exact⟨⟨b2,x.ex,rfl,⟨m',b3.1.toTb,b3.2.1⟩,b5.trans x.led,λ_=>b6,by have:=pe.map cp;rw[aU]at this;exact this⟩,⟨m',b3⟩,pe⟩
  refine ar ⟨fA fP _,ih (i+1) _ _ _ _ _ (by omega) hlt (W.frame _ s' h' _ hst' (iO _ _) λb z o e=>?_) (λr hr=>(tk' r hr).kept λo e=>?_) y λs'' o2 es2 ep2 t2 hm'' x2=>?_⟩
  ·rw[b1.2 b (λy:b=S=>hSf (by rw[<-y];exact z))];exact e
  ·rw[b1.2 r.2 (λy:r.2=S=>far r hr (by rw[y];exact bg))];exact e
  ·refine hR s'' o2 es2 ep2 t2 (l8 W.gtrans ((hm.mono up).then_heap (iO _ _) λb o z e=>?_) hm'') x2;rw[b1.2 b (λy:b=S=>z (by rw[y];exact bg))];exact e
end
end L4
namespace L4
open PySem PySem.Spec PySem.Calls PyProof.Rows PySem.W L2 L3
section
variable{X:Cx}{G:Bg}{H:Hp}{wv:cF}{σ:St}{s:ae}
theorem U5(L:List (aD×Addr)):uqP (L.map λq=>(TkS q.1,q.2))=(uqP L).map λq=>(TkS q.1,q.2):=Ud (g:=TkS) (λa b h=>(List.map_inj_right λ_ _ h=>jW h).mp h) L
theorem QJ{prog:aH}{w:aA}{A:aI}{ax:Addr}{its:List aa}{L:List (aD×Addr)}{led:Bool}{itO:Obj}{SS:Nat->Heap->Prop}(hlt:ax<s.heap.objs.size)(ht:∀q∈L,∃p r,q.1=[p,r])(tk:∀q∈L,TK prog w s.heap (TkS q.1) q.2)
  (ev:∀(i:Nat) (v:aa),its[i]?=some v->∃q,L[i]?=some q/\v=.ref q.2) (li:L.length=its.length) (h8:(uqP L).length<63) (hu:A.in1.units<cLine)
  (W:Walks prog w A.in1 (s.heap.objs.size+1) [s.heap.objs.size+1,ax] [s.heap.objs.size+1] its.toArray.size (λi v=>its.toArray[i]?=some v) SS) (st:SS 0 ((s.heap.push (y6 led)).push itO)) {R:fF->ae->Prop}
  (hR:∀h2 k2,(∃o es ep t,AG h2 s.heap.objs.size ((uqP L).map λq=>(TkS q.1,q.2)) led (uqP L).length o es ep t)->(∀b o,b<s.heap.objs.size->s.heap.get? b=some o->h2.get? b=some o)->R (.ok (.ret .none)) { s with heap:=h2,toks:=k2 }) (tk':Nat):
  cq (model prog w) A (.builtin "set.update.loop" ⟨[.ref s.heap.objs.size,.ref (s.heap.objs.size+1)],[]⟩) R { s with heap:=(s.heap.push (y6 led)).push itO,toks:=tk' }:=by
 have notin:s.heap.objs.size∉[s.heap.objs.size+1,ax]:=by
  intro z;rcases aN.mp z with z|z
  ·exact aq z (aR (cR _))
  ·exact aq (aV.mp z) (dG hlt)
 have ke:∀{b:Addr} {o':Obj},s.heap.get? b=some o'->((s.heap.push (y6 led)).push itO).get? b=some o':=λe=>aC _ (aC _ e);refine N2 (S:=s.heap.objs.size) (led:=led) W.toS notin hu (L.map λq=>(TkS q.1,q.2)) (by rw[af,bf,li]) (by rw[U5,af];exact h8) ?_ ?_ ?_ (its.toArray.size - 0) 0 _ (y6 led) #[] 0 (.fresh 0 0 led) rfl (bA _) st ?_ ?_ λs2 o2 es2 ep2 t2 mv S2=>?_
 ·intro q hq;obtain⟨r,hr,rfl⟩:=aP.mp hq;obtain⟨p,z,e⟩:=ht r hr;exact⟨p,[.inr z],by show TkS r.1=_;rw[e];rfl⟩
 ·intro q hq z;obtain⟨r,hr,rfl⟩:=aP.mp hq;obtain⟨ob,_,_,e,_⟩:=tk r hr;have:=aK e;rcases aN.mp z with z|z
  ·exact aq z (aR this)
  ·exact aq (aV.mp z) (aR (di this))
 ·intro i v e;rw[jz]at e;obtain⟨q,e1,e2⟩:=ev i v e;exact⟨(TkS q.1,q.2),by rw[bc,e1];rfl,e2⟩
 ·intro q hq;obtain⟨r,hr,rfl⟩:=aP.mp hq;exact(tk r hr).kept λo=>ke
 ·exact⟨⟨aC _ (bp _ rfl),⟨rfl,rfl,rfl⟩,rfl,⟨7,⟨rfl,rfl,rfl⟩,.inl ⟨rfl,bA 4⟩⟩,rfl,λz=>aq z (dE 0),.nil⟩,⟨7,⟨⟨rfl,rfl,rfl⟩,.nil⟩,.inl ⟨rfl,bA 4⟩,λi e j he _=>by cases he⟩,.nil⟩
 ·obtain⟨h2,g2,d2,k2,o2'⟩:=s2;have eg:g2=s.gens:=mv.gens;have ed:d2=s.drawn:=mv.drawn;have eo:o2'=s.os:=mv.os;subst eg ed eo;rw[U5,af]at S2;refine hR h2 k2 ⟨o2,es2,ep2,t2,⟨S2.at_,S2.ex,S2.d,S2.c,S2.led,S2.pl,S2.p⟩⟩ λb o hb e=>mv.heap b o (λz=>?_) (ke e);rcases aN.mp z with z|z
  ·exact aq z (aR hb)
  ·exact aq (aV.mp z) (aR (di hb))
theorem setU{A:aI}{L:List (aD×Addr)}(I:Inv X wv σ H s)(hh:A.handled=none)(hu:A.units+8<cLine)(hq:SqL X.K H a (L.map λq=>V.ref q.2)\/SqT X.K H a (L.map λq=>V.ref q.2))(h8:(uqP L).length<63)
  (ht:∀q∈L,∃p r,q.1=[p,r]/\SqT X.K H q.2 [.str p,.str r])
  (h:∀h2 k2 o es ep t,AG h2 s.heap.objs.size ((uqP L).map λq=>(TkS q.1,q.2)) (!X.w.params.followText "set-order") (uqP L).length o es ep t->(∀b o,b<s.heap.objs.size->s.heap.get? b=some o->h2.get? b=some o)->Q (.ref s.heap.objs.size) { s with heap:=h2,toks:=k2 }):
  aj (model X.prog X.w) A (call (.type "set") [.ref a]) Q E s:=by
 have h3:A.in1.in1.in1.handled=none:=by simp[hh]
 have h4:A.in1.in1.in1.units<cLine:=by show A.units+1+1+1<cLine;omega
 have tk:∀q∈L,TK X.prog X.w s.heap (TkS q.1) q.2:=λq hq=>by obtain⟨p,r,e,h1⟩:=ht q hq;rw[e];exact UW (ks:=[.inr p,.inr r]) I h1
 have ev:∀{its:List aa},Vals (L.map λq=>V.ref q.2) its->L.length=its.length/\∀(i:Nat) (v:aa),its[i]?=some v->∃q,L[i]?=some q/\v=.ref q.2:=λ{its} r=>by
  have li:L.length=its.length:=by have:=r.length;rw[af]at this;exact this
  refine⟨li,λi v e=>?_⟩;have hi:i<L.length:=by rw[li];exact(bO.mp e).1
  obtain⟨u,e2,ru⟩:=r.get (i:=i) (x:=V.ref L[i].2) (by rw[bc,aJ hi];rfl);rw[e]at e2;cases e2;exact⟨L[i],aJ hi,ru⟩
 have it:∀{o:Obj} {led:Bool},o.isFreed=false->((s.heap.push (y6 led)).push o).get? (s.heap.objs.size+1)=some o:=λ{o led} z=>by rw[show s.heap.objs.size+1=(s.heap.push (y6 led)).objs.size from(cK _ _).symm];exact bp _ z
 have ht':∀q∈L,∃p r,q.1=[p,r]:=λq hq=>by obtain⟨p,r,e,_⟩:=ht q hq;exact⟨p,r,e⟩
 rcases hq with hq|hq
 ·obtain⟨its,r,pp,_⟩:=I.list hq;obtain⟨o,ho,hc,n,hd⟩:=pp.isList;have hne:a≠s.heap.objs.size+1:=aR (di (aK ho));exact B3 (PS:=λh2=>∃o es ep t,AG h2 s.heap.objs.size ((uqP L).map λq=>(TkS q.1,q.2)) (!X.w.params.followText "set-order") (uqP L).length o es ep t) ho hc pF nS (by decide) (itO:={ cls:=.type "list_iterator", data:=.fields #[.ref a,.int 0 0] })
   (λA Q E s1 e k=>iH ⟨o,e,hc,n,hd⟩ k) (λtk' R hR=>QJ (aK ho) ht' tk (ev r).2 (ev r).1 h8 h4 (j5 h3 _ a hne its.toArray) ⟨⟨_,it rfl,rfl,rfl⟩,⟨o,aC _ (aC _ ho),hc,n,hd⟩⟩ hR tk') λh2 k2 ⟨o,es,ep,t,x⟩ kk=>h h2 k2 o es ep t x kk
 ·obtain⟨its,r,p,_⟩:=I.tuple hq;obtain⟨o,ho,hc,n,hd⟩:=p;have hne:a≠s.heap.objs.size+1:=aR (di (aK ho));exact B3 (PS:=λh2=>∃o es ep t,AG h2 s.heap.objs.size ((uqP L).map λq=>(TkS q.1,q.2)) (!X.w.params.followText "set-order") (uqP L).length o es ep t) ho hc sub_tuple_set sub_tuple_frozenset (by decide) (itO:={ cls:=.type "tuple_iterator", data:=.fields #[.ref a,.int 0 0] })
   (λA Q E s1 e k=>kH ⟨o,e,hc,n,hd⟩ k) (λtk' R hR=>QJ (aK ho) ht' tk (ev r).2 (ev r).1 h8 h4 (qt h3 _ a hne its.toArray) ⟨⟨_,it rfl,rfl,rfl⟩,⟨o,aC _ (aC _ ho),hc,n,hd⟩⟩ hR tk') λh2 k2 ⟨o,es,ep,t,x⟩ kk=>h h2 k2 o es ep t x kk
def G6(K:au)(te:TE):TE:=λσ H Q=>te σ H λx H1=>∃(a:Addr) (L:List (aD×Addr)),x=.ref a/\(SqL K H1 a (L.map λq=>V.ref q.2)\/SqT K H1 a (L.map λq=>V.ref q.2))/\(uqP L).length<63/\(∀q∈L,∃p r,q.1=[p,r]/\SqT K H1 q.2 [.str p,.str r])/\
 ∀(L':List (aD×Addr)) (p:Addr),L'.Perm (uqP L)->H1 p=none->Q (.ref p) (upd H1 p (.lst (Fv (L'.map aO) (L'.map λq=>V.ref q.2))))
theorem J6{p2:Pos}(hu:X.A.units+64<cLine)(hc:X.calm=true)(g1:Gl X "sorted")(m1:X.mg "sorted" = none)(g2:Gl X "set")(m2:X.mg "set" = none)(he:PE X e te)
  (z1:aw [Expr.Call (.Name "set" p2) [e] [] p3] X.env=[(false,eval (.Call (.Name "set" p2) [e] [] p3) X.env)]:=by rfl) (z2:aw [e] X.env=[(false,eval e X.env)]:=by rfl):PE X (.Call (.Name "sorted" p1) [.Call (.Name "set" p2) [e] [] p3] [] p4) (G6 X.K te):=by
 intro wv s σ H Q I h;refine dA (zE I g1 m1 boot_sorted ?_ (by decide) (by decide));refine callWith_builtin1 ?_ z1 rfl;rw[z1];show aj _ _ (spliced [(false,eval (.Call (.Name "set" p2) [e] [] p3) X.env)]) _ _ s;refine eF ?_;refine dA (zE I g2 m2 qu ?_ (by decide) (by decide));refine callWith_type1 (thn (u5 he xP z2 p3 wv s σ H (λvs H1=>match vs with
  |[x]=>∃(a:Addr) (L:List (aD×Addr)),x=.ref a/\(SqL X.K H1 a (L.map λq=>V.ref q.2)\/SqT X.K H1 a (L.map λq=>V.ref q.2))/\(uqP L).length<63/\(∀q∈L,∃p r,q.1=[p,r]/\SqT X.K H1 q.2 [.str p,.str r])/\
    ∀(L':List (aD×Addr)) (p:Addr),L'.Perm (uqP L)->H1 p=none->Q (.ref p) (upd H1 p (.lst (Fv (L'.map aO) (L'.map λq=>V.ref q.2))))
  |_=>False) I h) λus s1 ⟨vs,H1,I1,r1,q1⟩=>?_) z2 rfl
 match vs,r1,q1 with
 |[x],r1,q1=>
 obtain⟨a,L,e1,hq,h8,ht,q⟩:=q1;subst e1;obtain⟨u,rfl,ru⟩:=vals1 r1;cases ru;refine setU I1 (I1.ok.hd hc) (by omega) hq h8 ht λh2 k2 o es ep t x kk=>?_;refine fR ?_;have I2:Inv X wv σ H1 { s1 with heap:=h2,toks:=k2 }:=I1.kept λb o e=>kk b o (aK e) e;refine Li (s:={ s1 with heap:=h2,toks:=k2 }) (L:=uqP L) (I1.ok.hd hc) hu rfl x (λr hr=>?_) λL' p h3 k3 d3 e pL hp k4 hg=>?_
 ·obtain⟨p,z,e,h1⟩:=ht r (IA hr);refine⟨p,z,e,?_⟩;rw[e];exact UW (ks:=[.inr p,.inr z]) I2 h1
 ·have I3:=I2.laid (t':=k3) (o:=.lst (Fv (L'.map aO) (L'.map λq=>V.ref q.2))) k4 hp (by
   refine⟨?_,Qv (L'.map aO) (L'.map λq=>Value.ref q.2),e,?_,hg⟩
   ·unfold Fv;split
    ·exact bA _
    ·rename_i hne;have hn:0<(L'.map λq=>V.ref q.2).length:=eE.mpr hne;rw[af,(zr _ hn).length_eq,cI,af,pL.length_eq,bN];omega
   ·unfold Fv Qv;by_cases hL:L'=[]
    ·subst hL;exact .nil
    ·rw[ai (by simpa using hL),ai (by simpa using hL)];have hn:0<(L'.map λq=>V.ref q.2).length:=by rw[af];exact eE.mpr hL
     unfold Dg;rw[show (L'.map λq=>Value.ref q.2).length=(L'.map λq=>V.ref q.2).length by rw[af,af]];exact GZ (G3 L') _ λi hi=>HY _ hn i hi)
  exact⟨.ref p,_,Inv.drw I3 d3,rfl,q L' p pL (I2.hok.fresh hp)⟩
def sqD:D->Option aS
 |.lst ds=>some ds
 |.tup ds=>some ds
 |_=>none
def wV(f:FE):FA:=λρ=>match f ρ with
 |some (d,ρ')=>match (sqD d).bind Bp with
  |some ks=>if (uqK ks).length<63 then some ((Au (uqK ks)).map pairD,ρ')else none
  |none=>none
 |_=>none
theorem IB(h:PE X e (G6 G.K (tF G f))):PE X e (tFN G (wV f)):=PE.weak h λσ H Q hh=>by
 obtain⟨F,ρ,H0,es,ρ',R,e,k⟩:=hh;unfold wV at e;split at e
 ·rename_i d ρ1 e1;cases e2:(sqD d).bind Bp with
  |none=>simp only[e2]at e;cases e
  |some ks=>
   simp only[e2]at e;split at e
   ·rename_i hc;cases e;obtain⟨ds,e3,e2⟩:=ni.mp e2;refine⟨F,ρ,H0,_,_,R,e1,λv H1 H1' s R' r=>?_⟩;obtain⟨a,xs,rfl,h1,h2⟩:∃a xs,v=.ref a/\(SqL G.K H1' a xs\/SqT G.K H1' a xs)/\tL G H1 ds xs:=by
     cases d with
     |lst l=>cases e3;unfold Rep at r;obtain⟨a,xs,rfl,h1,h2⟩:=r;exact⟨a,xs,rfl,.inl (SqL.of (R'.sub _ _ h1)),h2⟩
     |tup l=>cases e3;unfold Rep at r;obtain⟨a,xs,rfl,h1,h2⟩:=r;exact⟨a,xs,rfl,.inr (SqT.mono R'.sub h1),h2⟩
     |_=>cases e3
    obtain⟨L,rfl,rfl,h3⟩:=Iq h2 e2;have two:∀k∈L.map aO,∃p q,k=[p,q]:=λk hk=>by obtain⟨q,hq,rfl⟩:=aP.mp hk;obtain⟨p,r,e,_⟩:=h3 q hq;exact⟨p,r,e⟩
    refine⟨a,L,rfl,h1,by rw[<-af (f:=aO),Cc];exact hc,λq hq=>?_,λL' p pL hp=>?_⟩
    ·obtain⟨p,r,e,h4⟩:=h3 q hq;exact⟨p,r,e,SqT.mono R'.sub h4⟩
    ·have ro:=Qx (G:=G) (H:=H1) (L:=L') λq hq=>h3 q (IA (pL.mem_iff.mp hq));rw[Mw (pL.map aO) (by rw[Cc];exact FH _) (λk hk=>two k (by rw[Cc,zT]at hk;exact hk)),Cc]at ro;exact k p _ _ _ s (R'.newOwn hp _) tP (R'.h0none hp) (R'.bNone hp) (R'.apart hp) ro
   ·cases e
 ·cases e
end
section
variable{X:Cx}{B:Bz}{k:Nat}{e:Expr}{f:FE}{p p2 p3 pos:Pos}
theorem YM [C:Cz X B k][N:Nb B "sorted"][N':Nb B "set"](hs:S1 X e)(hg:Gz X "sorted")(hg':Gz X "set")(ha:ZE X B e f)(z:aw [Expr.Call (.Name "set" p2) [e] [] p3] X.env=[(false,eval (.Call (.Name "set" p2) [e] [] p3) X.env)]):ZN X B (.Call (.Name "sorted" p) [.Call (.Name "set" p2) [e] [] p3] [] pos) (wV f):=⟨IB (by rw[<-C.K];exact J6 C.r.units C.c hg (C.mg▸N.p) hg' (C.mg▸N'.p) ha.p z hs)⟩
end
section
variable{prog:aH}{w:aA}{A:aI}{E:aa->ae->Prop}{s:ae}
theorem N3(h:Q 0xFCA86420 { s with toks:=s.toks+1 }):aj (model prog w) A (pyHash .none) Q E s:=by
 show aj _ _ (pyHashByItsType .none) Q E s;unfold pyHashByItsType;refine ag ?_;rw[cRoomFor,ai (by rw[show [Value.none].any Value.onHeap=false from rfl];exact bj)];refine ar ?_;refine ag (gV (jX s) jD.lookup ?_);show aj _ _ (if (some (Value.builtin "NoneType.__hash__")==some Value.none)=true then _ else _) Q E s;rw[ai (by rw[beq_builtin_none];exact bj)];refine ag (gV (jX s) jD.lookup ?_);show aj _ _ (callSpecialIfBoundUnlessNone? .none "__hash__" _>>=_) Q E s;refine ag (wpAny_callSpecialIfBoundUnlessNone?_slot (jX s) jD
  (fU jD (jX s) F.entry_NoneType_hash
   (show aj _ _ (do ret (<-mkInt 0xFCA86420)) _ _ s from wpAny_ret_mkInt ?_) (F.args_NoneType_hash_1 _)))
 exact ar h
theorem Ug(h:Q true s):aj (model prog w) A (eqBool .none .none) Q E s:=by unfold eqBool;refine cW ?_;rw[ah (show (Value.none==Value.none)=true from rfl)];exact ag (mm (ar h))
def oIs:Option Key->aa->Bool
 |none,.none=>true
 |none,_=>false
 |some k,v=>EH k v
theorem yn(h:oIs k v=true):(k=none/\v=.none)\/(∃i t,k=some (Sum.inl i)/\v=Value.int i t)\/∃x t,k=some (Sum.inr x)/\v=Value.str x t:=by
 cases k with
 |none=>cases v<;>first|exact .inl ⟨rfl,rfl⟩|cases h
 |some k=>
  rcases uK (k:=k) h with ⟨i,t,rfl,rfl⟩|⟨x,t,rfl,rfl⟩
  ·exact .inr (.inl ⟨i,t,rfl,rfl⟩)
  ·exact .inr (.inr ⟨x,t,rfl,rfl⟩)
def optKind(prog:aH)(w:aA):pR prog w (Option Key) where
 is:=oIs
 hash:=λk=>match k with|none=>0xFCA86420|some k=>Ze w k
 inj:=λv a b ha hb=>by rcases yn ha with ⟨rfl,rfl⟩|⟨i,t,rfl,rfl⟩|⟨x,t,rfl,rfl⟩<;>rcases yn hb with ⟨rfl,e⟩|⟨j,u,rfl,e⟩|⟨y,u,rfl,e⟩<;>first|rfl|(cases e;rfl)|cases e
 byValue:=λk v h=>by rcases yn h with ⟨rfl,rfl⟩|⟨i,t,rfl,rfl⟩|⟨x,t,rfl,rfl⟩<;>rfl
 pyHash:=λ{A E s k v Q} hv h=>by
  cases k with
  |some k=>exact(tU prog w).pyHash (k:=k) hv h
  |none=>
   rcases yn hv with ⟨_,rfl⟩|⟨i,t,e,_⟩|⟨x,t,e,_⟩
   ·exact N3 h
   ·cases e
   ·cases e
 eqBool:=λ{A E s a b u v Q} hu hv h=>by
  rcases yn hu with ⟨rfl,rfl⟩|⟨i,t,rfl,rfl⟩|⟨x,t,rfl,rfl⟩<;>rcases yn hv with ⟨rfl,rfl⟩|⟨j,u,rfl,rfl⟩|⟨y,u,rfl,rfl⟩
  ·exact Ug h
  ·exact nY j u _ _ _ _ h
  ·exact nZ y u _ _ _ _ h
  ·exact n4 i t _ _ _ _ h
  ·exact(tU prog w).eqBool (a:=Sum.inl i) (b:=Sum.inl j) hu hv (by simpa using h)
  ·exact(tU prog w).eqBool (a:=Sum.inl i) (b:=Sum.inr y) hu hv (by simpa using h)
  ·exact n8 x t _ _ _ _ h
  ·exact(tU prog w).eqBool (a:=Sum.inr x) (b:=Sum.inl j) hu hv (by simpa using h)
  ·exact(tU prog w).eqBool (a:=Sum.inr x) (b:=Sum.inr y) hu hv (by simpa using h)
 «strs»:=λk x t v h=>by
  cases k with
  |none=>cases h
  |some k=>exact(tU prog w).strs k x t v h
theorem Uh{h:Heap}(m:h.MapOf (tU prog w) a f):h.MapOf (optKind prog w) a (λk=>match k with|none=>none|some k=>f k):=by
 obtain⟨o,es,ep,h1,h2,h3,h4,h5⟩:=m;refine⟨o,es,ep,h1,h2,h3,λe he=>?_,λk=>?_⟩
 ·obtain⟨k,k1,k2⟩:=h4 e he;exact⟨some k,k1,k2⟩
 ·cases k with
  |some k=>exact h5 k
  |none=>
   unfold findBy;rw[Array.find?_eq_none.mpr λe he=>?_]
   ·rfl
   ·obtain⟨k,k1,_⟩:=h4 e he;rcases uK k1 with ⟨i,t,_,e1⟩|⟨x,t,_,e1⟩<;>(rw[e1];exact bj)
end
section
variable{X:Cx}{G:Bg}{H:Hp}{wv:cF}{σ:St}{s:ae}
theorem YN(I:Inv X wv σ H s)(e:Rd H a (.dK kvs))(h:∀s',Inv X wv σ H s'->Q .none s'):aj (model X.prog X.w) A (call (.builtin "dict.get") [.ref a,.none]) Q E s:=by obtain⟨z,hd,vs,rel,dd⟩:=Bl I.hok e;exact hU fm dd.typeIs iN (kU _ _) (pE (optKind X.prog X.w) a (k:=none) rfl hd) ⟨_,Uh dd.mapOf,h _ (I.tok _)⟩
def YO(td ty:TE):TE:=λσ H Q=>td σ H λx H1=>∃a,x=.ref a/\IsD H1 a/\ty σ H1 λy H2=>(∃o,DGet H2 a y o/\Q (o.getD .non) H2)\/(y=.non/\(∃kvs,Rd H2 a (.dK kvs))/\Q .non H2)
theorem QK(hu:X.A.units+1<cLine)(ho:PE X o td)(he:PE X e ty)(m:M1 X o "get" apos e cpos):PE X (.Call (.Attribute o "get" apos) [e] [] cpos) (YO td ty):=by
 intro wv s σ H Q I h;refine jF m.base m.few m.line jG fm lC (thn (ho wv s σ H _ I h) λu s1 hh=>?_);obtain⟨x,H1,I1,rx,a,ex,d,q1⟩:=hh;subst ex;obtain rfl:u=Value.ref a:=rx;obtain⟨t1,t2,_⟩:=HK I1 d;refine⟨t1,t2,?_⟩;rw[m.trees];refine iB rfl (iE (eF (thn (he wv s1 σ H1 _ I1 q1) λiv s2 hh=>fR ?_)));obtain⟨y,H2,I2,ry,⟨ov,g,q2⟩|⟨rfl,⟨kvs,e⟩,q2⟩⟩:=hh
 ·exact OL hu I2 g ry λw' s3 I3 rw'=>⟨_,H2,I3,rw',q2⟩
 ·obtain rfl:iv=.none:=ry;exact YN I2 e λs3 I3=>⟨.non,H2,I3,rfl,q2⟩
def J7:D->D->Option D:=λx y=>match y with
 |.non=>match x with
  |.dic _ _=>some .non
  |_=>none
 |y=>B2 x y
theorem QL(hu:X.A.units+1<cLine)(ha:PE X a (tF G f))(hb:PE X b (tF G f'))(m:M1 X a "get" apos b cpos):PE X (.Call (.Attribute a "get" apos) [b] [] cpos) (tF G (c2 J7 f f')):=PE.weak (QK hu ha hb m) λσ H Q hh=>by
 sleep 1
 obtain⟨x,y,ρ1,e1,e2,e3⟩:=EA e;cases x with
 |dic ks ds=>
  refine⟨F,ρ,H0,_,ρ1,R,e1,λv H1 H1' s1 R1 r1=>?_⟩;have r1':=r1;unfold Rep at r1';obtain⟨p,ob,xs,rfl,h1,h2,h3⟩:=r1';refine⟨p,rfl,.inl ⟨_,.inr ⟨_,R1.sub _ _ h1⟩⟩,F,ρ1,H1,y,ρ',R1,e2,λu H2 H2' s2 R2 r2=>?_⟩;by_cases hy:y=.non
  ·subst hy;cases e3;unfold Rep at r2;subst r2;exact .inr ⟨rfl,⟨_,.inr ⟨_,R2.sub _ _ (s2 _ _ h1)⟩⟩,k _ H2 H2' (s1.trans s2) R2 zK⟩
  ·left;have e3:B2 (.dic ks ds) y=some d:=by
    unfold J7 at e3;split at e3
    ·exact aq rfl hy
    ·exact e3
   unfold B2 at e3;cases ek:Bj y with
   |none=>simp only[ek]at e3;cases e3
   |some j=>
    simp only[ek]at e3;cases e3;have lv:=AE (ks:=ks) j (tL.mono s2 _ _ h3) h2;refine⟨wZ (ks.zip xs) j,?_,?_⟩
    ·rw[zO r2 ek];exact DGet.kf (R2.sub _ _ (s2 _ _ h1))
    ·cases el:vp ks ds j with
     |none=>rw[el]at lv k;rw[lv];exact k _ H2 H2' (s1.trans s2) R2 zK
     |some z=>rw[el]at lv k;obtain⟨w,w1,w2⟩:=lv;rw[w1];exact k _ H2 H2' (s1.trans s2) R2 w2
 |_=>
  unfold J7 at e3;split at e3
  ·cases e3
  ·unfold B2 at e3;cases e3
end
section
variable{X:Cx}{B:Bz}{k:Nat}{e e':Expr}{f f':FE}{apos pos:Pos}
theorem YQ [C:Cz X B k](ha:ZE X B e f)(hb:ZE X B e' f')(h1:Az X e "get")(h2:Ez apos pos)(h3:S1 X e'):ZE X B (.Call (.Attribute e "get" apos) [e'] [] pos) (c2 J7 f f'):=⟨QL (Jj C.r) ha.p hb.p ⟨h1,by rw[h3];rfl,h2,by rw[h3];rfl⟩⟩
end
theorem uqP_nd{κ α:Type}[DecidableEq κ]:∀(l acc:List (κ×α)),((acc++l).map aO).Nodup->l.foldl ust acc=acc++l
 |[],acc,_=>(bq _).symm
 |q::l,acc,h=>by
  have hq:q.1∉acc.map aO:=λz=>by rw[aX,cA]at h;exact h.2.2 _ z _ (bQ bg) rfl
  rw[dB,show ust acc q=acc++[q] by unfold ust;rw[ai hq],uqP_nd l _ (by rw[bD];exact h),bD];rfl
section
variable{X:Cx}
theorem set_GU:WK X SrcG:=by
 intro wv σ H s A E Q a n I hh hu hq h;rcases hq with hq|⟨L,h1,h8,nd,ht,rfl⟩
 ·exact aao I hh hu hq h
 ·have e:uqP L=L:=uqP_nd L [] nd;refine setU I hh hu (.inl h1) (by rw[e];omega) ht λh2 k2 o es ep t x kk=>?_;rw[e]at x;refine h h2 k2 ⟨o,es,ep,t,x.at_,x.ex,x.d,?_,x.fits (af _),x.sz.trans (af _)⟩ kk;rw[x.sz,af];unfold scanBound;omega
end
section
variable{X:Cx}{B:Bz}{k:Nat}{e:Expr}{f:FE}{p p2 p3 pos:Pos}
theorem zr_luI [C:Cz X B k][N:Nb B "len"][N':Nb B "set"](hs:S1 X e)(hg:Gz X "len")(hg':Gz X "set")(ha:ZE X B e f)(z:aw [Expr.Call (.Name "set" p2) [e] [] p3] X.env=[(false,eval (.Call (.Name "set" p2) [e] [] p3) X.env)]):ZE X B (.Call (.Name "len" p) [.Call (.Name "set" p2) [e] [] p3] [] pos) (c1 (B4 Ir) f):=⟨K6 C.K .inl (NX C.K) (NL set_GU C.r.units C.c hg (C.mg▸N.p) hg' (C.mg▸N'.p) ha.p z hs)⟩
end
end L4
namespace K23x
open PySem L2 L3 L4
abbrev D:=L4.D
def top(i:Nat):Stmt:=PySem.Challenge.pw_tellworld_k23_reads_of_tests.main.body.getD i (.Pass ⟨0,0,0,0⟩)
def xB:Nat->Bool:=λc=>c==14
def G7:Nat->Bool:=λc=>c==9
def AH:Nat->Bool:=λc=>c==2
def Aj:Nat->Bool:=λc=>c==14
def AI:Nat->Bool:=λc=>c==14
def uL:Nat->Bool:=λc=>c==0||c==7
def yy:Nat->Bool:=λc=>c==1
def yU:Nat->Bool:=λc=>c==14
def ui:Nat->Bool:=λc=>c==0||c==1||c==2
def MF:Nat->Bool:=λc=>c==10
def G8:Nat->Bool:=λc=>c==10
def BG:Nat->Bool:=λc=>c==2
def G9:Nat->Bool:=λc=>c==3||c==11
def xC:Nat->Bool:=λc=>c==14
def zu:Nat->Bool:=λc=>c==14
def vb:Nat->Bool:=λc=>c==0||c==1
def Cd:Nat->Bool:=λc=>c==3||c==4||c==5||c==6||c==7||c==11||c==12
def yz:Nat->Bool:=λc=>c==14
def J8:Nat->Bool:=λc=>c==13
def vS:Nat->Bool:=λc=>c==0
def xE:Nat->Bool:=λc=>c==14
abbrev QM:Ty->Option Bool:=G0 16 1
abbrev MG:Ty->Option Bool:=G0 16 0
def AJ:L4.D:=(D.int 8)
def AK:L4.D:=(D.int 12)
def FI:L4.D:=(D.tup [(D.str "it"),(D.str "other"),(D.str "here"),(D.str "the"),(D.str "a"),(D.str "undo"),(D.str "restart")])
def FJ:L4.D:=(D.tup [(D.str "the"),(D.str "a")])
def IC:L4.D:=(D.tup [(D.str "room"),(D.str "plain"),(D.str "fixed"),(D.str "box"),(D.str "lamp"),(D.str "you")])
def yV:L4.D:=(D.tup [(D.str "room"),(D.str "box"),(D.str "you")])
def yW:L4.D:=(D.tup [(D.str "box"),(D.str "lamp")])
def Bq:L4.D:=(D.tup [(D.str "room"),(D.str "you")])
def Ce:L4.D:=(D.int 5)
def Br:L4.D:=(D.int 7)
def ya:L4.D:=(D.int 4)
def AL:L4.D:=(D.int 3)
def DQ:L4.D:=(D.int 10)
def Cf:L4.D:=(D.int 6)
def zU:L4.D:=(D.int 4)
def yA:L4.D:=(D.tup [(D.str "the"),(D.str "a"),(D.str "undo"),(D.str "restart")])
def Cg:L4.D:=(D.int 20)
abbrev ab:=(cV 0)
abbrev ao:=(cV 1)
abbrev aL:=(cC (.int 1))
def yB:FS:=(ub (xx (c1 (xt (vL "str")) ab) (xx (wJ yZ yZ aL (c1 vw ab) ao) (c1 yL (cL (ue 1 [] (iS ab) (gN 0) uS (wJ Pd Pd (cS "a") ab (cS "z"))))))))
def wQ:=fnD 2 2 yB
def He:FS:=(ub (xx (tJ wQ (tD ab (a1 (cC AJ)))) (c2 (dIn true) ab (cC FI))))
def A9:=fnD 1 1 He
def Hf:FS:=(ub (xx (tJ wQ (tD ab (a1 (cC AK)))) (c2 (dIn true) ab (cC FJ))))
def wW:=fnD 1 1 Hf
def DR:FS:=(ub (xx (c1 (xt (vL "str")) ab) (c2 (dIn false) ab ao)))
def uN:=fnD 2 2 DR
def FK:FS:=(ub (xx (c1 (xt (vL "int")) ab) (HP (c1 (xt (vL "bool")) ab))))
def BH:=fnD 1 1 FK
def Al:FS:=(ub (xx (c1 (xt (vL "list")) ab) (c2 yZ (c1 vw ab) ao)))
def vc:=fnD 2 2 Al
def FL:FS:=(ub (cIf (cT (c1 (xt (vL "list")) ab)) (cL (AC ab)) ab))
def BI:=fnD 1 1 FL
abbrev av:=(cV 2)
abbrev az:=(cV 3)
abbrev aF:=(cV 4)
def Ci:FS:=(tI (uz 0 0 "name" ao)
 (tI (uz 0 0 "words" av)
 (tI (uz 0 0 "kind" az)
 (uz 0 0 "start" aF))))
def Cj:=fnI 0 4 5 Ci
def DS:FS:=(tI (uz 1 0 "name" ao)
 (tI (uz 1 0 "start" av)
 (uz 1 0 "most" az)))
def DT:=fnI 1 3 4 DS
abbrev bF:=(cC D.non)
def AM:FS:=(tI (uz 2 0 "name" ao)
 (tI (uz 2 0 "others" (cIf (cT (c2 Bi av bF)) (uA tY) av))
 (tI (uz 2 0 "form" az)
 (uz 2 0 "joining" aF))))
def wc:=fnI 2 4 5 AM
def Hg:FS:=(tI (uz 3 0 "term" ao)
 (uz 3 0 "place" av))
def Ba:=fnI 3 2 3 Hg
def FM:FS:=(uz 4 0 "term" ao)
def zV:=fnI 4 1 2 FM
def DU:FS:=(uz 5 0 "term" ao)
def DV:=fnI 5 1 2 DU
def Bs:FS:=(tI (uz 6 0 "term" ao)
 (uz 6 0 "value" av))
def uZ:=fnI 6 2 3 Bs
def DW:FS:=(tI (uz 7 0 "term" ao)
 (uz 7 0 "kind" av))
def vG:=fnI 7 2 3 DW
def DX:FS:=(uz 8 0 "word" ao)
def AN:=fnI 8 1 2 DX
def FN:FS:=(uz 9 0 "inner" ao)
def vJ:=fnI 9 1 2 FN
def DY:FS:=(tI (uz 10 0 "one" ao)
 (uz 10 0 "other" av))
def DZ:=fnI 10 2 3 DY
def D1:FS:=(tI (uz 11 0 "term" ao)
 (uz 11 0 "place" av))
def xM:=fnI 11 2 3 D1
def FP:FS:=(tI (uz 12 0 "term" ao)
 (uz 12 0 "value" av))
def yC:=fnI 12 2 3 FP
abbrev bB:=(cV 5)
abbrev jh:=(a1 av)
def D2:FS:=(tI (uz 13 0 "verb" ao)
 (tI (uz 13 0 "tests" (tJ BI jh))
 (tI (uz 13 0 "deeds" (tJ BI (a1 az)))
 (tI (uz 13 0 "text" aF)
 (uz 13 0 "refuses" bB)))))
def AO:=fnI 13 5 6 D2
def zv:FS:=(ub (c2 (dIn false) (c1 (uh uL "kind") ab) (cC yV)))
def zw:=fnD 1 1 zv
def vz:Nat->Option (List D->Option D):=λc=>match c with
 |0=>some zw
 |_=>none
def zx:FS:=(ub (c2 (dIn false) (c1 (uh uL "kind") ab) (cC yW)))
def zy:=fnD 1 1 zx
def vA:Nat->Option (List D->Option D):=λc=>match c with
 |0=>some zy
 |_=>none
def yD:FS:=(ub (c2 (dIn true) (c1 (uh uL "kind") ab) (cC Bq)))
def yE:=fnD 1 1 yD
def xD:Nat->Option (List D->Option D):=λc=>match c with
 |0=>some yE
 |_=>none
def Am:FS:=(sIf (yS (cT ab)) Po uc)
def tS:=fnD 2 2 Am
def FQ:FS:=(ub (c1 vw (cL (ue 1 [1] (iL ab) (gN 0) (cT (c2 (dEq false) (c1 (uh uL "kind") ab) ao)) ab))))
def zW:=fnD 2 2 FQ
def Ck:FS:=(uT (ue 1 [] (iL ab) (gN 0) (cT (uJ xD "is_plainly" ab tY)) ab))
def wz:=fnN 1 1 Ck
abbrev bE:=(cC (.int 0))
abbrev fM:=(cC (.bl false))
def Dn:FS:=(tI (sIf (xX (yS (cT (c1 (xt QM) ab))) (xX (yS (cT (tJ BH (a1 (c1 (uh vb "start") ab))))) (yS (cT (tJ BH (a1 (c1 (uh yy "most") ab))))))) (ub fM) uc)
 (ub (xx (wJ yZ yZ aL (c1 (uh yy "most") ab) (cC AL)) (wJ yZ yZ bE (c1 (uh vb "start") ab) (c1 (uh yy "most") ab)))))
def Do:=fnD 1 1 Dn
abbrev dZ:=(cS "room")
abbrev fN:=(cS "you")
abbrev bC:=(a1 ab)
def yF:FS:=(tI (um 1 (xx (c1 (xt (vL "list")) ab) (c1 yL (cL (ue 1 [] (iL ab) (gN 0) uS (c1 (xt MG) ab))))))
 (tI (uu (tJ tS (tD ao (a1 (cS "things are a list of things")))))
 (tI (uu (tJ tS (tD (c1 yL (cL (ue 1 [] (iL ab) (gN 0) uS (tJ uN (tD (c1 (uh uL "kind") ab) (a1 (cC IC))))))) (a1 (cS "a thing is of no kind")))))
 (tI (uu (tJ tS (tD (wJ yZ yZ aL (tJ zW (tD ab (a1 dZ))) (cC Ce)) (a1 (cS "a world has 1 to 5 rooms")))))
 (tI (uu (tJ tS (tD (c2 (dEq false) (tJ zW (tD ab (a1 fN))) aL) (a1 (cS "a world has just one you")))))
 (uu (tJ tS (tD (c2 yZ (c1 vw (cL (uF wz bC))) (cC Br)) (a1 (cS "a world has at most 7 things beside rooms and you"))))))))))
def yG:=fnD 1 2 yF
def y7:FS:=(tI (um 1 (xx (tJ vc (tD ab (a1 (cC ya)))) (c1 yL (cL (ue 1 [] (iL ab) (gN 0) uS (tJ Do bC))))))
 (uu (tJ tS (tD ao (a1 (cS "marks are a list of at most 4 marks, each from 0 to at most 3"))))))
def y8:=fnD 1 2 y7
def Cn:FS:=(ub (c2 (dEq false) (c1 (B4 Ir) ab) (c1 vw ab)))
def uW:=fnD 1 1 Cn
def y9:FS:=(tI (um 2 (cL (uU (cL (ue 1 [] (iL ab) (gN 0) uS (c1 (uh ui "name") ab))) (cL (ue 1 [] (iL ao) (gN 0) uS (c1 (uh ui "name") ab))))))
 (tI (uu (tJ tS (tD (c1 yL (cL (ue 1 [] (iL av) (gN 0) uS (tJ A9 bC)))) (a1 (cS "a name is no name")))))
 (uu (tJ tS (tD (tJ uW jh) (a1 (cS "two things or marks have one name")))))))
def za:=fnD 2 3 y9
def Cp:FS:=(uT (uU (cL (ue 1 [] (iL ab) (gN 0) (cT (uJ vA "has_mark" ab tY)) (c1 (uh ui "name") ab))) (cL (ue 1 [] (iL ao) (gN 0) uS (c1 (uh ui "name") ab)))))
def yb:=fnN 2 2 Cp
def BJ:FS:=(tI (sIf (cT (c2 (dEq false) (c1 (uh uL "kind") ao) dZ)) (ub (c2 Bi (c1 (uh vb "start") ao) bF)) uc)
 (tI (sIf (cT (c2 (dEq false) (c1 (uh uL "kind") ao) fN)) (ub (tJ uN (tD (c1 (uh vb "start") ao) (a1 (cL (ue 1 [] (iL ab) (gN 0) (cT (c2 (dEq false) (c1 (uh uL "kind") ab) dZ)) (c1 (uh ui "name") ab))))))) uc)
 (ub (tJ uN (tD (c1 (uh vb "start") ao) (a1 (cL (ue 1 [] (iL ab) (gN 0) (cT (uJ vz "can_hold" ab tY)) (c1 (uh ui "name") ab)))))))))
def BK:=fnD 2 2 BJ
abbrev jd:=(cC (.bl true))
def An:FS:=(tI (um 2 (c2 vd ab ao))
 (tI (yu (iR1 (c1 vw ab)) (gN 3) (tI (sIf (cT (c2 Bi av bF)) (ub jd) uc)
 (um 2 (c2 vd ab av))))
 (ub (c2 Bi av bF))))
def xR:=fnD 2 4 An
abbrev kr:=(tD ao bC)
def yH:FS:=(tI (uu (tJ tS (tD (c1 yL (cL (ue 1 [0] (iL ab) (gN 0) uS (tJ BK kr)))) (a1 (cS "a start is none")))))
 (tI (Fi 1)
 (tI (yu (iL ab) (gN 2) (vV 1 (c1 (uh ui "name") av) (c1 (uh vb "start") av)))
 (uu (tJ tS (tD (c1 yL (cL (ue 1 [1] (iD (cFz 1)) (gN 0) uS (tJ xR kr)))) (a1 (cS "a thing starts within itself"))))))))
def yI:=fnD 1 3 yH
def AQ:FS:=(tI (sIf (xX (yS (cT (c1 (xt (vL "tuple")) ab))) (yS (cT (wJ yZ yZ aL (c1 vw ab) (cC zU))))) (ub fM) uc)
 (ub (xx (c1 yL (cL (ue 1 [] (iT ab) (gN 0) uS (tJ wW bC)))) (tJ uW bC))))
def AR:=fnD 1 1 AQ
def Hh:FS:=(ub (c1 yL (cL (ue 1 [0] (iT ao) (gN 0) uS (c2 (dIn false) ab ao)))))
def Bb:=fnD 2 2 Hh
def xS:FS:=(tI (um 2 (cL (ue 1 [1] (iL ab) (gN 0) (cT (c2 (dEq true) (c1 (uh ui "name") ab) (c1 (uh ui "name") ao))) ab)))
 (ub (HP (c1 Fj (cL (ue 1 [1] (iL av) (gN 0) uS (tJ Bb (tD (c1 (uh vS "words") ab) (a1 (c1 (uh vS "words") ao))))))))))
def xT:=fnD 2 3 xS
def vB:FS:=(tI (uu (tJ tS (tD (c1 yL (cL (ue 1 [] (iL ab) (gN 0) uS (tJ AR (a1 (c1 (uh vS "words") ab)))))) (a1 (cS "a thing has 1 to 4 unlike words, as a tuple")))))
 (tI (um 1 (cL (uF wz bC)))
 (uu (tJ tS (tD (c1 yL (cL (ue 1 [1] (iL ao) (gN 0) uS (tJ xT kr)))) (a1 (cS "one thing has all words of another")))))))
def vC:=fnD 1 2 vB
abbrev dv:=(tD ab (a1 ao))
def zX:FS:=(tI (um 2 (xx (c1 (xt (vL "list")) ab) (xx (c1 yL (cL (ue 1 [1] (iL ab) (gN 0) uS (tJ uN dv)))) (tJ uW bC))))
 (uu (tJ tS (tD av (a1 (cS "dark is a list of rooms' names, each once"))))))
def zY:=fnD 2 3 zX
abbrev cu:=(cC (.int 2))
abbrev fJ:=(cC (.int 4))
abbrev fK:=(cC (.int 3))
abbrev cE:=(a1 ao)
abbrev gz:=(a1 (c2 dIx ab aL))
def FR:FS:=(tI (sIf (xX (yS (cT (c1 (xt (vL "tuple")) ab))) (cT (c2 (dEq true) (c1 vw ab) fJ))) (ub fM) uc)
 (tI (um 3 (cOr (c2 Bi (c2 dIx ab fK) bF) (tJ uN (tD (c2 dIx ab fK) jh))))
 (ub (xx (tJ uN (tD (c2 dIx ab bE) cE)) (xx (tJ wW gz) (xx (tJ uN (tD (c2 dIx ab cu) cE)) az))))))
def FU:=fnD 3 4 FR
abbrev kq:=(tD ao jh)
abbrev mX:=(tD ab kq)
def zZ:FS:=(tI (um 3 (xx (tJ vc (tD ab (a1 (cC DQ)))) (c1 yL (cL (ue 1 [1,2] (iL ab) (gN 0) uS (tJ FU mX))))))
 (tI (uu (tJ tS (tD az (a1 (cS "ways are a list of at most 10 tuples (room, word, room, mark)")))))
 (uu (tJ tS (tD (tJ uW (a1 (cL (ue 1 [] (iL ab) (gN 0) uS (uA (tD (c2 dIx ab bE) gz)))))) (a1 (cS "two ways lead from one room by one word")))))))
def yc:=fnD 3 4 zZ
def Bt:FS:=(tI (um 1 (xx (tJ vc (tD ab (a1 (cC Cf)))) (c1 yL (cL (ue 1 [] (iL ab) (gN 0) uS Fk)))))
 (uu (tJ tS (tD ao (a1 (cS "verbs are a list of at most 6 verbs"))))))
def zb:=fnD 1 2 Bt
def D3:FS:=(ub (HP (c1 Fj (cL (ue 1 [1] (iL ab) (gN 0) uS (c2 (dIn false) ab ao))))))
def xN:=fnD 2 2 D3
abbrev bS:=(cV 6)
abbrev du:=(cV 7)
def wU:FS:=(tI (xa 3 (tZ tY))
 (tI (yu (iL (cL (uF wz bC))) (gN 4) (uu (DH 3 (c1 (uh vS "words") aF))))
 (tI (xa 5 (tZ tY))
 (tI (yu (iL av) (gN 6) (uu (DH 5 (DG (uA (a1 (c1 (uh ui "name") bS))) (c1 (uh BG "others") bS)))))
 (tI (um 7 (cL (uU (cL (ue 1 [] (iL av) (gN 0) (cT (c2 L1 (c1 (uh AH "joining") ab) bF)) (c1 (uh AH "joining") ab))) (cL (ue 1 [] (iL ao) (gN 0) uS (c2 dIx ab aL))))))
 (tI (uu (tJ tS (tD (tJ uW (a1 (cFz 5))) (a1 (cS "two verbs' names are alike")))))
 (tI (uu (tJ tS (tD (tJ xN (tD (cL (uU (cFz 5) du)) (a1 (cFz 3)))) (a1 (cS "a verb's, way's or joining word is a word of a thing")))))
 (tI (uu (tJ tS (tD (tJ xN (tD (cL (uU (cFz 5) du)) (a1 (cC yA)))) (a1 (cS "the, a, undo or restart is a word of the world")))))
 (uu (tJ tS (tD (tJ xN (tD du (a1 (cFz 5)))) (a1 (cS "a way's or joining word is a verb's name")))))))))))))
def vK:=fnD 3 8 wU
def zc:FS:=(tI (uu (tJ yG bC))
 (tI (uu (tJ y8 cE))
 (tI (uu (tJ za dv))
 (tI (uu (tJ yI bC))
 (tI (uu (tJ vC bC))
 (tI (um 6 (cL (ue 1 [] (iL ab) (gN 0) (cT (c2 (dEq false) (c1 (uh uL "kind") ab) dZ)) (c1 (uh ui "name") ab))))
 (tI (uu (tJ zY (tD av (a1 bS))))
 (tI (uu (tJ yc (tD az (tD bS (a1 (cL (uF yb dv)))))))
 (tI (uu (tJ zb (a1 aF)))
 (uu (tJ vK (tD ab (tD az (a1 (cL (uU aF bB))))))))))))))))
def zd:=fnD 6 7 zc
def QN:FS:=(ub (uv 13 (λds=>AO (ds++[])) (tD ab (tD ao (tD av (tD az (a1 fM)))))))
def ze:=fnD 4 4 QN
def Hk:FS:=(ub (uv 13 (λds=>AO (ds++[])) (tD ab (tD ao (tD (cL (tZ tY)) (tD av (a1 jd)))))))
def uM:=fnD 3 3 Hk
abbrev bW:=(cS "it")
abbrev eR:=(cS "here")
abbrev je:=(cS "take")
def Cq:FS:=(uT (tZ (tD (tJ uM (tD je (tD (cL (tZ (a1 (uv 7 (λds=>vG (ds++[])) (tD bW (a1 (cS "fixed"))))))) (a1 (cS "That stays."))))) (tD (tJ uM (tD je (tD (cL (tZ (a1 (uv 3 (λds=>Ba (ds++[])) (tD bW bC))))) (a1 (cS "You have that."))))) (tD (tJ ze (tD je (tD (cL (tZ tY)) (tD (cL (tZ (a1 (uv 11 (λds=>xM (ds++[])) (tD bW bC))))) (a1 (cS "Taken.")))))) (tD (tJ ze (tD (cS "drop") (tD (cL (tZ (a1 (uv 4 (λds=>zV (ds++[])) (a1 bW))))) (tD (cL (tZ (a1 (uv 11 (λds=>xM (ds++[])) (tD bW (a1 eR)))))) (a1 (cS "Dropped.")))))) (a1 (tJ uM (tD (cS "drop") (tD (cL (tZ tY)) (a1 (cS "You lack that."))))))))))))
def Cr:=fnN 1 1 Cq
abbrev eP:=(cS "box")
abbrev gn:=(cS "other")
abbrev ir:=(cS "put")
abbrev iu:=(a1 eP)
def D4:FS:=(uT (tZ (tD (tJ uM (tD ir (tD (cL (tZ (a1 (uv 9 (λds=>vJ (ds++[])) (a1 (uv 4 (λds=>zV (ds++[])) (a1 bW))))))) (a1 (cS "You lack that."))))) (tD (tJ uM (tD ir (tD (cL (tZ (a1 (uv 9 (λds=>vJ (ds++[])) (a1 (uv 7 (λds=>vG (ds++[])) (tD gn iu))))))) (a1 (cS "It holds nothing."))))) (tD (tJ uM (tD ir (tD (cL (tZ (a1 (uv 6 (λds=>uZ (ds++[])) (tD gn (a1 bE)))))) (a1 (cS "It is shut."))))) (a1 (tJ ze (tD ir (tD (cL (tZ tY)) (tD (cL (tZ (a1 (uv 11 (λds=>xM (ds++[])) (tD bW (a1 gn)))))) (a1 (cS "Done."))))))))))))
def D5:=fnN 0 0 D4
abbrev km:=(tD bW (a1 aL))
abbrev ko:=(tD bW (a1 bE))
def D6:FS:=(uT (tZ (tD (tJ uM (tD (cS "open") (tD (cL (tZ (a1 (uv 9 (λds=>vJ (ds++[])) (a1 (uv 7 (λds=>vG (ds++[])) (tD bW iu))))))) (a1 (cS "It has no lid."))))) (tD (tJ uM (tD (cS "open") (tD (cL (tZ (a1 (uv 6 (λds=>uZ (ds++[])) km)))) (a1 (cS "It is open."))))) (tD (tJ ze (tD (cS "open") (tD (cL (tZ tY)) (tD (cL (tZ (a1 (uv 12 (λds=>yC (ds++[])) km)))) (a1 (cS "Opened.")))))) (tD (tJ uM (tD (cS "shut") (tD (cL (tZ (a1 (uv 9 (λds=>vJ (ds++[])) (a1 (uv 7 (λds=>vG (ds++[])) (tD bW iu))))))) (a1 (cS "It has no lid."))))) (tD (tJ uM (tD (cS "shut") (tD (cL (tZ (a1 (uv 6 (λds=>uZ (ds++[])) ko)))) (a1 (cS "It is shut."))))) (a1 (tJ ze (tD (cS "shut") (tD (cL (tZ tY)) (tD (cL (tZ (a1 (uv 12 (λds=>yC (ds++[])) ko)))) (a1 (cS "Shut."))))))))))))))
def D7:=fnN 0 0 D6
abbrev fL:=(cS "lamp")
def Bu:FS:=(uT (tZ (tD (tJ uM (tD (cS "light") (tD (cL (tZ (a1 (uv 9 (λds=>vJ (ds++[])) (a1 (uv 7 (λds=>vG (ds++[])) (tD bW (a1 fL)))))))) (a1 (cS "It burns not."))))) (tD (tJ uM (tD (cS "light") (tD (cL (tZ (a1 (uv 6 (λds=>uZ (ds++[])) km)))) (a1 (cS "It is lit."))))) (tD (tJ ze (tD (cS "light") (tD (cL (tZ tY)) (tD (cL (tZ (a1 (uv 12 (λds=>yC (ds++[])) km)))) (a1 (cS "Lit.")))))) (tD (tJ uM (tD (cS "douse") (tD (cL (tZ (a1 (uv 9 (λds=>vJ (ds++[])) (a1 (uv 7 (λds=>vG (ds++[])) (tD bW (a1 fL)))))))) (a1 (cS "It burns not."))))) (tD (tJ uM (tD (cS "douse") (tD (cL (tZ (a1 (uv 6 (λds=>uZ (ds++[])) ko)))) (a1 (cS "It is out."))))) (a1 (tJ ze (tD (cS "douse") (tD (cL (tZ tY)) (tD (cL (tZ (a1 (uv 12 (λds=>yC (ds++[])) ko)))) (a1 (cS "Doused."))))))))))))))
def Bv:=fnN 0 0 Bu
def D8:FS:=(tI (xa 2 (tZ (tD (uv 3 (λds=>Ba (ds++[])) (tD ab (a1 (c2 dIx ao bE)))) (a1 (uv 8 (λds=>AN (ds++[])) (a1 (c2 dIx ao aL)))))))
 (tI (sIf (cT (c2 L1 (c2 dIx ao fK) bF)) (uu (zp 2 (uv 9 (λds=>vJ (ds++[])) (a1 (uv 6 (λds=>uZ (ds++[])) (tD (c2 dIx ao fK) (a1 bE))))))) uc)
 (uT (O7 2))))
def D9:=fnN 2 3 D8
abbrev mS:=(a1 (c2 dIx ab cu))
def FV:FS:=(tI (um 2 (cL (ue 1 [0] (iL ao) (gN 0) uS (tJ ze (tD (cS "go") (tD (cL (uF D9 kr)) (tD (cL (tZ (a1 (uv 11 (λds=>xM (ds++[])) (tD ao mS))))) (a1 (cS "You go.")))))))))
 (uT (uU av (cL (tZ (a1 (tJ uM (tD (cS "go") (tD (cL (tZ tY)) (a1 (cS "No way there.")))))))))))
def FW:=fnN 2 3 FV
def Cs:FS:=(uT (tZ (a1 (tJ ze (tD (cS "wait") (tD (cL (tZ tY)) (tD (cL (tZ tY)) (a1 (cS "Time goes by.")))))))))
def Ct:=fnN 0 0 Cs
def AS:FS:=(uT (uU (cL (uU (cL (uU (cL (uU (cL (uU (cL (uF Cr bC)) (cL (uF D5 tY)))) (cL (uF D7 tY)))) (cL (uF Bv tY)))) (cL (uF FW dv)))) (cL (uF Ct tY))))
def we:=fnN 2 2 AS
abbrev jc:=(cS "two")
def AU:FS:=(uT (uU (cL (ue 1 [] (iT (uA (tD je (tD (cS "drop") (tD (cS "open") (tD (cS "shut") (tD (cS "light") (a1 (cS "douse"))))))))) (gN 0) uS (uv 2 (λds=>wc (ds++[D.non,(D.str "one"),D.non])) bC))) (cL (tZ (tD (uv 2 (λds=>wc (ds++[])) (tD ir (tD (uA tY) (tD jc (a1 (cS "in")))))) (tD (uv 2 (λds=>wc (ds++[D.non])) (tD (cS "go") (tD (uA tY) (a1 (cS "way"))))) (a1 (uv 2 (λds=>wc (ds++[D.non])) (tD (cS "wait") (tD (uA tY) (a1 (cS "alone"))))))))))))
def vE:=fnN 0 0 AU
def Dp:FS:=(tI (Fi 1)
 (tI (yu (iL ab) (gN 2) (vV 1 (c1 (uh ui "name") av) av))
 (ub (cFz 1))))
def Dr:=fnD 1 3 Dp
def xU:FS:=(tI (Fi 2)
 (tI (yu (iL ab) (gN 3) (sIf (cT (uJ vA "has_mark" az tY)) (vV 2 (c1 (uh ui "name") az) aL) uc))
 (tI (yu (iL ao) (gN 4) (vV 2 (c1 (uh ui "name") aF) (c1 (uh yy "most") aF)))
 (ub (cFz 2)))))
def vO:=fnD 2 5 xU
def Ao:FS:=(tI (Fi 1)
 (tI (yu (iL ab) (gN 2) (yu (iT (DG (uA (a1 (c1 (uh ui "name") av))) (c1 (uh BG "others") av))) (gN 3) (vV 1 az av)))
 (ub (cFz 1))))
def vP:=fnD 1 4 Ao
def Hl:FS:=(K9 (uh J8 "verb"))
def zz:=fnD 1 3 Hl
def Ap:FS:=(uT (ue 1 [1] (iL (c1 (uh Aj "kept_things") ab)) (gN 0) (cT (c2 (dEq false) (c1 (uh uL "kind") ab) ao)) (c1 (uh ui "name") ab)))
def vQ:=fnD 2 2 Ap
def u0:Nat->Option (List D->Option D):=λc=>match c with
 |14=>some vQ
 |_=>none
def yX:FS:=(uT (uU (c1 (uh AI "kept_verbs") ab) (c1 (uh zu "shared_verbs") ab)))
def xg:=fnD 1 1 yX
def wI:Nat->Option (List D->Option D):=λc=>match c with
 |14=>some xg
 |_=>none
def xh:FS:=(tI (uu (tJ zd (tD ao (tD av (tD az (tD aF (tD bB (a1 (cL (uF vE tY))))))))))
 (tI (uz 14 0 "kept_things" (cL (AC ao)))
 (tI (uz 14 0 "kept_marks" (cL (AC av)))
 (tI (uz 14 0 "kept_dark" (cL (AC az)))
 (tI (uz 14 0 "kept_ways" (cL (AC aF)))
 (tI (uz 14 0 "kept_verbs" (cL (AC bB)))
 (tI (uz 14 0 "shared_verbs" (cL (uF vE tY)))
 (tI (uz 14 0 "your_name" (yT 16 (c2 dIx (uJ u0 "of_kind" ab (a1 fN)) bE)))
 (tI (uz 14 0 "things_by_name" (tJ Dr cE))
 (tI (uz 14 0 "mosts_by_name" (tJ vO kq))
 (tI (uz 14 0 "verbs_by_word" (yT 16 (tJ vP (a1 (uJ wI "all_verbs" ab tY)))))
 (tI (um 7 (yT 16 (xx (tJ vc (tD bS (a1 (cC Cg)))) (c1 yL (cL (ue 1 [0] (iL bS) (gN 0) uS Fk))))))
 (tI (uu (tJ tS (tD du (a1 (cS "rules are a list of at most 20 rules, each as it may be")))))
 (tI (uz 14 0 "kept_rules" (cL (AC bS)))
 (tI (uz 14 0 "shared_rules" (yT 16 (cL (uF we (tD (c1 (uh xE "your_name") ab) (a1 aF))))))
 (tI (uz 14 0 "copied_rules" (cL (ue 1 [] (iL bS) (gN 0) uS Fk)))
 (uz 14 0 "rules_by_verb" (yT 16 (tJ zz (a1 (cL (uU (c1 (uh xB "copied_rules") ab) (c1 (uh xC "shared_rules") ab)))))))))))))))))))))))
def xi:=fnI 14 6 8 xh
def Ea:FS:=(ub (c1 (uh xE "your_name") ab))
def J9:=fnD 1 1 Ea
def Bc:Nat->Option (List D->Option D):=λc=>match c with
 |14=>some J9
 |_=>none
def zA:FS:=(ub (c2 J7 (c1 (uh yz "things_by_name") ab) ao))
def wA:=fnD 2 2 zA
def yJ:Nat->Option (List D->Option D):=λc=>match c with
 |14=>some wA
 |_=>none
def Aq:FS:=(ub (c2 B2 (c1 (uh yU "mosts_by_name") ab) ao))
def vR:=fnD 2 2 Aq
def wF:Nat->Option (List D->Option D):=λc=>match c with
 |14=>some vR
 |_=>none
def ID:FS:=(tI (sIf (cT (c2 (dEq false) ab bW)) (ub ao) uc)
 (tI (sIf (cT (c2 (dEq false) ab gn)) (ub av) uc)
 (ub (cIf (cT (c2 (dEq false) ab eR)) bF ab))))
def z7:=fnD 3 3 ID
abbrev gw:=(cS "at")
abbrev q8:=(a1 (uA (tD gw cE)))
def z8:FS:=(tI (um 2 (uJ yJ "thing_of" ab cE))
 (ub (cIf (xX (cT (c2 Bi av bF)) (cT (c2 (dEq false) (c1 (uh uL "kind") av) dZ))) (cL (tZ tY)) (cL (tZ q8)))))
def vo:=fnD 2 3 z8
abbrev mF:=(cS "mark")
def Cu:FS:=(ub (cIf (cT (c2 Bi (uJ wF "most_of" ab cE) bF)) (cL (tZ tY)) (cL (tZ (a1 (uA (tD mF cE)))))))
def xj:=fnD 2 2 Cu
abbrev mT:=(tD gw bC)
def Eb:FS:=(uT (ue 1 [] (iL (uJ u0 "of_kind" ab iu)) (gN 0) uS (uA mT)))
def AV:=fnD 1 1 Eb
abbrev qW:=(a1 (uJ Bc "you" ab tY))
abbrev mU:=(tD mF bC)
def zf:FS:=(tI (um 1 (cL (uU (uJ u0 "of_kind" ab iu) (uJ u0 "of_kind" ab (a1 fL)))))
 (tI (um 2 (cL (ue 1 [] (iL ao) (gN 0) uS (uA mU))))
 (uT (uU (cL (ue 1 [] (iL (cL (uU ao (cL (tZ qW))))) (gN 0) uS (uA mT))) av))))
def xF:=fnD 1 3 zf
def QO:FS:=(ub (Fe (cL (wV ab))))
def z9:=fnD 1 1 QO
abbrev jf:=(tD ao (a1 (tJ z7 (tD (c1 (uh Cd "term") ab) (tD av (a1 az))))))
abbrev mJ:=(tD (c1 (uh Cd "term") ab) (a1 (c1 (uh G9 "place") ab)))
abbrev qR:=(tD ao (a1 (uJ Bc "you" ao tY)))
def BL:FS:=(tI (um 4 (tJ vo jf))
 (tI (sIf (cT (c2 (dIn false) eR (uA mJ))) (um 4 (cL (uU aF (tJ vo qR)))) uc)
 (ub (tJ z9 (a1 aF)))))
def FX:=fnD 4 5 BL
def Ec:FS:=(ub (tJ z9 (a1 (cL (uU (tJ vo jf) (tJ AV cE))))))
def Ed:=fnD 4 4 Ec
def Cv:FS:=(ub (tJ z9 (a1 (cL (uU (tJ vo jf) (tJ xF cE))))))
def Cy:=fnD 4 4 Cv
def AW:FS:=(ub (tJ z9 (a1 (tJ xj jf))))
def AX:=fnD 4 4 AW
def CA:FS:=(ub (uA tY))
def CB:=fnD 4 4 CA
def CC:FS:=(ub (uA tY))
def CD:=fnD 4 4 CC
def Ee:FS:=(ub (tJ z9 (a1 (tJ xF cE))))
def Ef:=fnD 4 4 Ee
abbrev qO:=(tD av (a1 az))
abbrev mV:=(tD ao qO)
def yY(g:Nat->Option (List D->Option D)):FS:=(ub (uJ g "reads" (c1 (uh G7 "inner") ab) mV))
def yd(g:Nat->Option (List D->Option D)):FS:=(ub (tJ z9 (a1 (G4 (uJ g "reads" (c1 (uh MF "one") ab) mV) (uJ g "reads" (c1 (uh G8 "other") ab) mV)))))
def Aa:Nat->Option (List D->Option D):=λc=>match c with
 |3=>some FX
 |4=>some Ed
 |5=>some Cy
 |6=>some AX
 |7=>some CB
 |8=>some CD
 |15=>some Ef
 |_=>none
def uo:Nat->Nat->Option (List D->Option D)
 |0=>Aa
 |n+1=>λc=>match c with
  |9=>some (fnD 4 4 (yY (uo n)))
  |10=>some (fnD 4 4 (yd (uo n)))
  |c=>Aa c
def AY:FS:=(tI (sIf (cT (c2 Bh ao (c1 vw ab))) (ub (c2 dIx ab ao)) uc)
 (ub bE))
def xk:=fnD 2 2 AY
abbrev fI:=(cC (.int 2147483647))
abbrev c5:=(cC (.int 6))
abbrev gq:=(cC (.int 10))
abbrev kj:=(cC (.int 48271))
def CG:FS:=(tI (xa 2 (tZ tY))
 (tI (um 3 bE)
 (tI (sIf (cT (c2 Wh ab (c2 DC gq (cC (.int 18))))) (um 3 (c2 Jz ab (c2 DC gq (cC (.int 18))))) uc)
 (tI (whL (DE (xI (cT (c2 Fb az bE)) (cT (c2 Bh (c1 vw av) ao)))) (tI (uu (zp 2 (c2 wa az (c2 DC gq c5))))
 (um 3 (c2 Bn az (c2 DC gq c5)))) 200)
 (tI (um 4 (c2 wa (c2 xK (c2 uP (c2 wa ab fI) aL) kj) fI))
 (tI (yu (iR1 ao) (gN 5) (tI (um 4 (c2 wa (c2 xK (c2 uP (c2 uP aF (c2 xK (cC (.int 7919)) bB)) aL) kj) fI))
 (tI (um 6 (c2 wa (c2 xK aF (c2 uP (c2 Bn aF (cC (.int 1009))) (cC (.int 69621)))) fI))
 (uu (zp 2 (c2 wa (c2 xK bS (c2 uP (c2 Bn bS (cC (.int 2003))) (cC (.int 40692)))) (cC (.int 2147483399))))))))
 (uT (y4 (cFz 2) oNo (oAt ao)))))))))
def xl:=fnN 2 7 CG
def Eg:FS:=(tI (sIf (DE (cT (c2 (dEq false) ab (cL (tZ tY))))) (ub bE) uc)
 (ub (c2 wa (LY 0) ao)))
def tH:=fnM 1 2 Eg
abbrev dY:=(cC (.int 7))
abbrev ti:=(cC (.int 8))
abbrev kl:=(cC (.int 25))
abbrev jj:=(a1 ti)
def Ab:FS:=(tI (um 1 (uG tH 0 (a1 kl)))
 (tI (um 2 (cS "bcdefghijklmnopqrstuvwxyz"))
 (uT (ue 1 [2,0,1] (iR1 (cC (.int 17))) (gN 0) uS (c2 JH (c2 dIx ao (c2 wa (c2 uP az (c2 xK dY ab)) kl)) (c2 uP aL (uG tH 2 jj)))))))
def Ac:=fnM 0 3 Ab
abbrev eQ:=(cC (.int 5))
def xG:FS:=(tI (xa 3 (tZ tY))
 (tI (xa 4 (uU ao (cL (tZ (a1 (c2 dIx ab eQ))))))
 (tI (yu (iL (cL (y4 ab (oAt c5) (oAt (c2 uP c5 (uG tH 2 jj)))))) (gN 5) (tI (um 6 (c2 dIx (cL (tZ (tD (cS "plain") (tD eP (tD fL (tD (cS "fixed") (tD eP (tD fL (tD eP (a1 (cS "plain"))))))))))) (uG tH 2 jj)))
 (tI (uu (zp 3 (uA (tD bB (tD bS (a1 (Jv 4 (uG tH 2 (a1 (Es (c1 vw aF)))))))))))
 (sIf (cT (c2 (dEq false) bS eP)) (uu (zp 4 bB)) uc))))
 (uT (O7 3)))))
def vT:=fnL 2 7 xG
abbrev dc:=(vH (gN 0) (vH (gN 1) (vH (gN 2) DA)))
abbrev ji:=(a1 (c1 vw az))
abbrev gA:=(a1 bF)
def AZ:FS:=(tI (xa 1 (uF xl (tD ab (a1 (cC (.int 110))))))
 (tI (um 2 (uG Ac 1 tY))
 (tI (um 3 (cL (y4 av oNo (oAt (c2 uP aL (uG tH 1 (a1 eQ)))))))
 (tI (um 4 (cL (uU (cL (ue 1 [] (iL az) (gN 0) uS (uA (tD ab (tD dZ gA))))) (cL (tZ (a1 (uA (tD (c2 dIx av eQ) (tD fN (a1 (c2 dIx az (uG tH 1 ji))))))))))))
 (tI (um 5 (cL (tZ tY)))
 (tI (yu (iL (cL (uU aF (uY vT 1 qO)))) (gN 6) (tI (um 7 (uG tH 1 (a1 (c2 uP (c1 vw bB) aL))))
 (um 5 (cL (uU (cL (uU (cL (y4 bB oNo (oAt du))) (cL (tZ (a1 bS))))) (cL (y4 bB (oAt du) oNo)))))))
 (tI (xa 8 (tZ tY))
 (tI (yu (iL (cL (y4 av (oAt (cC (.int 13))) (oAt (c2 uP (cC (.int 13)) (uG tH 1 (a1 eQ))))))) (gN 9) (tI (um 10 (c2 uP aL (uG tH 1 (a1 fK))))
 (uu (zp 8 (uA (tD (cV 9) (tD (uG tH 1 (a1 (c2 uP (cV 10) aL))) (a1 (cV 10)))))))))
 (tI (um 11 (cL (ue 1 [1] (iL az) (gN 0) (cT (c2 (dEq false) (uG tH 1 (a1 cu)) aL)) ab)))
 (tI (um 12 (cL (tZ (tD (uA tY) (tD (uA (a1 (cS "red"))) (a1 (uA (tD (cS "old") (a1 (cS "red"))))))))))
 (tI (um 13 (cL (ue 3 [12,1] (iL bB) (gT dc 3) uS (DG (uA bC) (c2 dIx az (uG tH 4 (a1 fK)))))))
 (ub (yw [("rows", bB),("marks", (cFz 8)),("dark", (cV 11)),("words", (cV 13)),("you", (c2 dIx av eQ))])))))))))))))
def A0:=fnD 1 14 AZ
abbrev fO:=(cS "rows")
def A1:FS:=(tI (um 1 (cL (ue 3 [] (iL (c2 vd ab fO)) (gT dc 3) (cT (c2 (dEq false) ao dZ)) ab)))
 (uT (tZ (tD (uA (tD (c2 dIx ao bE) (tD (cS "north") (tD (c2 dIx ao (c2 Jz (c1 vw ao) aL)) gA)))) (a1 (uA (tD (c2 dIx ao bE) (tD (cS "up") (tD (c2 dIx ao bE) gA)))))))))
def A2:=fnN 1 2 A1
abbrev jg:=(tD (c2 dIx ab aL) mS)
def Ad:FS:=(tI (um 1 (cL (ue 2 [] (iZ (tD (c2 vd ab fO) (a1 (c2 vd ab (cS "words"))))) (gT (vH (gN 0) (vH (gN 1) DA)) 2) uS (uv 0 (λds=>Cj (ds++[])) (tD (c2 dIx ab bE) (tD ao jg))))))
 (tI (um 2 (cL (ue 3 [] (iL (c2 vd ab (cS "marks"))) (gT dc 3) uS (uv 1 (λds=>DT (ds++[])) mX))))
 (ub (uv 14 (λds=>xi (ds++[])) (tD ao (tD av (tD (cL (AC (c2 vd ab (cS "dark")))) (tD (cL (uF A2 bC)) (tD (cL (tZ tY)) (a1 (cL (tZ tY))))))))))))
def ye:=fnD 1 3 Ad
def Hm:FS:=(uT (ue 3 [1] (iL (c2 vd ab fO)) (gT dc 3) (cT (c2 (dIn false) ao az)) ab))
def vU:=fnN 2 2 Hm
abbrev mE:=(vH (gN 2) (vH (gN 3) (vH (gN 4) DA)))
abbrev mM:=(tD eP (a1 fL))
abbrev qZ:=(tD ab (a1 (cL (tZ mM))))
def Ae:FS:=(tI (Fi 1)
 (tI (yu (iL (cL (uF vU qZ))) (gN 2) (vV 1 av aL))
 (tI (yu (iL (c2 vd ab (cS "marks"))) (gT mE 3) (vV 1 av aF))
 (ub (cFz 1)))))
def vg:=fnD 1 5 Ae
def xm:FS:=(tI (um 2 (cL (uF vU (tD ab (a1 (cL (tZ (tD (cS "plain") (tD (cS "fixed") mM)))))))))
 (tI (um 3 (uG tH 1 jj))
 (tI (sIf (xX (cT (c2 (dEq false) av (cL (tZ tY)))) (cT (c2 Fb az eQ))) (ub (c2 dIx (cL (tZ (tD (uA (tD (cS "go") (tD (c2 dIx (cL (tZ (tD (cS "north") (a1 (cS "up"))))) (uG tH 1 (a1 cu))) gA))) (a1 (uA (tD (cS "wait") (tD bF gA))))))) (c2 wa az cu))) uc)
 (tI (um 4 (c2 dIx av (uG tH 1 (a1 (c1 vw av)))))
 (tI (sIf (cT (c2 Bh az cu)) (ub (uA (tD je (tD aF gA)))) uc)
 (ub (uA (tD ir (tD aF (a1 (c2 dIx av (uG tH 1 (a1 (c1 vw av))))))))))))))
def wg:=fnL 1 5 xm
def Ei:FS:=(ub (c2 vd (yw [("go", (cS "way")),("wait", (cS "alone")),("take", (cS "one")),("put", jc)]) (c2 dIx ab bE)))
def A3:=fnD 1 1 Ei
abbrev gk:=(tD (cS "one") (a1 (cS "two")))
abbrev mN:=(tD gn (a1 gn))
abbrev qU:=(tD bW (tD bW (a1 bW)))
def xO:FS:=(tI (um 3 (cL (ue 3 [] (iL (c2 vd ab fO)) (gT dc 3) uS ab)))
 (tI (um 4 (cL (uU (cL (cSl (cL (y4 az (oAt (uG tH 2 ji)) oNo)) none (some 3))) (cL (tZ (a1 eR))))))
 (tI (sIf (cT (c2 (dIn false) ao (cL (tZ gk)))) (um 4 (cL (uU aF (cL (tZ qU))))) uc)
 (tI (sIf (cT (c2 (dEq false) ao jc)) (um 4 (cL (uU aF (cL (tZ mN))))) uc)
 (ub (c2 dIx aF (uG tH 2 (a1 (c1 vw aF)))))))))
def wm:=fnL 2 5 xO
def yf:FS:=(tI (um 3 (cL (uF vU (tD ab (a1 (cL (tZ (tD dZ (tD eP (a1 fN))))))))))
 (tI (xa 4 (tZ (tD (c2 dIx az (uG tH 2 ji)) (tD (c2 dIx az (uG tH 2 ji)) (a1 eR)))))
 (tI (sIf (cT (c2 (dIn false) ao (cL (tZ gk)))) (uu (zp 4 bW)) uc)
 (tI (sIf (cT (c2 (dEq false) ao jc)) (xa 4 (uU (cFz 4) (cL (tZ mN)))) uc)
 (ub (Jv 4 (uG tH 2 (a1 (Es (c1 vw aF))))))))))
def yg:=fnL 2 5 yf
def xH:FS:=(tI (um 3 (tJ vg bC))
 (tI (um 4 (cL (Dl az)))
 (tI (sIf (xI (cT (c2 (dIn false) ao (cL (tZ gk)))) (xX (cT (c2 (dEq false) aF (cL (tZ tY)))) (cT (c2 (dEq false) (uG tH 2 (a1 cu)) bE)))) (ub (uA (tD (c2 dIx (cL (tZ (tD bW (a1 (c2 dIx (cL (tZ (tD bW (a1 gn)))) (c1 JC (c2 (dEq false) ao jc))))))) (uG tH 2 (a1 cu))) (a1 (uG tH 2 (a1 fJ)))))) uc)
 (tI (um 5 (c2 dIx aF (uG tH 2 (a1 (c1 vw aF)))))
 (ub (uA (tD bB (a1 (uG tH 2 (a1 (c2 uP (c2 vd az bB) aL)))))))))))
def wG:=fnL 2 6 xH
abbrev qL:=(vH (gN 6) (vH (gN 7) DA))
abbrev mH:=(cS "marked")
abbrev gx:=(tD ab (tD ao (a1 (c2 Jz az aL))))
abbrev mO:=(tD dY (a1 gq))
abbrev qV:=(tD mH (tD bS (a1 du)))
abbrev q9:=(a1 (uY wm 2 dv))
def uX(g:List D->List D->Option (D×List D)):FS:=(tI (um 4 (uG tH 2 (a1 (c2 dIx (cL (tZ mO)) (c1 JC (c2 Fb az aL))))))
 (tI (sIf (cT (c2 (dEq false) aF bE)) (ub (uA (tD gw (tD (uY wm 2 dv) (a1 (uY yg 2 dv)))))) uc)
 (tI (sIf (cT (c2 (dEq false) aF aL)) (ub (uA (tD (cS "has") q9))) uc)
 (tI (sIf (cT (c2 (dEq false) aF cu)) (ub (uA (tD (cS "seen") q9))) uc)
 (tI (sIf (cT (c2 (dEq false) aF fK)) (tI (um 5 (cL (tZ (tD dZ (tD (cS "plain") (tD (cS "fixed") (tD eP (tD fL (tD fN mM)))))))))
 (ub (uA (tD (cS "kind") (tD (uY wm 2 dv) (a1 (c2 dIx bB (uG tH 2 jj)))))))) uc)
 (tI (sIf (xI (cT (c2 (dEq false) aF fJ)) (cT (c2 (dEq false) ao (cS "way")))) (ub (uA (tD (cS "word") (a1 (c2 dIx (cL (tZ (tD (cS "north") (tD (cS "up") (tD (cS "down") (a1 (cS "upp"))))))) (uG tH 2 (a1 fJ))))))) uc)
 (tI (sIf (xI (cT (c2 Bh aF c5)) (xX (cT (c2 (dIn false) ao (cL (tZ gk)))) (cT (c2 TZ (tJ vg bC) (yw []))))) (tI (HQ (uY wG 2 dv) (gT qL 2))
 (ub (uA qV))) uc)
 (tI (sIf (cT (c2 Bh aF dY)) (ub (uA (a1 (cS "lit")))) uc)
 (tI (sIf (cT (c2 (dEq false) aF dY)) (ub (uA (tD (cS "not") (a1 (uY g 2 gx))))) uc)
 (ub (uA (tD (cS "both") (tD (uY g 2 gx) (a1 (uY g 2 gx)))))))))))))))
def ud:Nat->List D->List D->Option (D×List D)
 |0=>fnJ 2 3 8 Po
 |n+1=>fnJ 2 3 8 (uX (ud n))
def wo(g:List D->Option D):FS:=(tI (um 1 (c2 dIx ab bE))
 (tI (sIf (cT (c2 (dEq false) ao gw)) (ub (uv 3 (λds=>Ba (ds++[])) jg)) uc)
 (tI (sIf (cT (c2 (dEq false) ao (cS "has"))) (ub (uv 4 (λds=>zV (ds++[])) gz)) uc)
 (tI (sIf (cT (c2 (dEq false) ao (cS "seen"))) (ub (uv 5 (λds=>DV (ds++[])) gz)) uc)
 (tI (sIf (cT (c2 (dEq false) ao mH)) (ub (uv 6 (λds=>uZ (ds++[])) jg)) uc)
 (tI (sIf (cT (c2 (dEq false) ao (cS "kind"))) (ub (uv 7 (λds=>vG (ds++[])) jg)) uc)
 (tI (sIf (cT (c2 (dEq false) ao (cS "word"))) (ub (uv 8 (λds=>AN (ds++[])) gz)) uc)
 (tI (sIf (cT (c2 (dEq false) ao (cS "not"))) (ub (uv 9 (λds=>vJ (ds++[])) (a1 (tJ g gz)))) uc)
 (tI (sIf (cT (c2 (dEq false) ao (cS "both"))) (ub (uv 10 (λds=>DZ (ds++[])) (tD (tJ g gz) (a1 (tJ g mS))))) uc)
 (ub (Yz 15)))))))))))
def vh:Nat->List D->Option D
 |0=>fnD 1 2 Po
 |n+1=>fnD 1 2 (wo (vh n))
abbrev qT:=(tD ab (a1 (cL (tZ (a1 dZ)))))
def CH:FS:=(tI (sIf (xX (cT (c2 Bi ao bF)) (cT (c2 (dIn false) ao (cL (uF vU qT))))) (uT (tZ tY)) uc)
 (uT (tZ q8)))
def xn:=fnD 2 2 CH
abbrev mK:=(tD (uA (tD gw (a1 av))) (a1 (uA (tD mF (a1 av)))))
def Ag:FS:=(tI (um 1 (cL (tZ (a1 (uA (tD gw (a1 (c2 vd ab fN))))))))
 (tI (yu (iL (cL (uF vU qZ))) (gN 2) (um 1 (cL (uU ao (cL (tZ mK))))))
 (ub ao)))
def yh:=fnD 1 3 Ag
abbrev qQ:=(tD ab (tD ao (a1 (c2 dIx av aL))))
abbrev mP:=(tD ab (a1 aF))
abbrev qS:=(tD gw (a1 (c2 vd ao fN)))
def uI(g:List D->Option D):FS:=(tI (um 3 (c2 dIx av bE))
 (tI (sIf (cT (c2 (dEq false) az (cS "not"))) (ub (tJ g qQ)) uc)
 (tI (sIf (cT (c2 (dEq false) az (cS "both"))) (uT (uU (tJ g qQ) (tJ g (tD ab (tD ao (a1 (c2 dIx av cu))))))) uc)
 (tI (sIf (cT (c2 (dEq false) az (cS "lit"))) (ub (tJ yh bC)) uc)
 (tI (sIf (xX (cT (c2 (dEq false) az (cS "word"))) (cT (c2 (dEq false) az (cS "kind")))) (uT (tZ tY)) uc)
 (tI (um 4 (Fl (yw [("it", (c2 dIx ao aL)),("other", (c2 dIx ao cu)),("here", bF)]) (c2 dIx av aL) (c2 dIx av aL)))
 (tI (sIf (cT (c2 (dEq false) az mH)) (uT (ue 1 [4] (iD (tJ vg bC)) (gN 0) (cT (c2 (dEq false) ab ao)) (uA mU))) uc)
 (tI (sIf (cT (c2 (dEq false) az (cS "seen"))) (uT (uU (tJ xn mP) (tJ yh bC))) uc)
 (tI (sIf (cT (c2 (dEq false) az (cS "has"))) (uT (uU (tJ xn mP) (cL (ue 1 [] (iL (cL (uF vU (tD ab (a1 (cL (tZ iu))))))) (gN 0) uS (uA mT))))) uc)
 (uT (uU (tJ xn mP) (cL (ue 1 [0] (iT (Qp av (some 1) none)) (gN 0) (cT (c2 (dEq false) ab eR)) (uA qS))))))))))))))
def vm:Nat->List D->Option D
 |0=>fnD 3 5 Po
 |n+1=>fnD 3 5 (uI (vm n))
def CJ:FS:=(ub (Fe (cL (wV (tJ (vm 4) mX)))))
def wB:=fnD 3 3 CJ
def CK:FS:=(tI (sIf (cT (c2 (dEq false) (c2 dIx ab bE) (cS "go"))) (ub (uA (tD bF gA))) uc)
 (ub (uA jg)))
def yi:=fnD 1 1 CK
abbrev qY:=(tD ab (tD (Fl (yw [("plain", fL),("fixed", eP)]) ao ao) jh))
def zg:FS:=(tI (um 1 (cL (ue 3 [] (iL (c2 vd ab fO)) (gT dc 3) uS (uA qY))))
 (tI (TM 2 ab)
 (tI (vV 2 fO ao)
 (ub (cFz 2)))))
def zh:=fnD 1 3 zg
abbrev kg:=(tD (cV 10) (a1 (cV 11)))
abbrev kh:=(tD (cV 8) (a1 (cV 9)))
abbrev qI:=(vH (gN 0) (vH (gN 1) (vH (gN 2) (vH (gN 3) DA))))
abbrev qJ:=(tD (cV 12) (tD (cV 10) (tD (cV 11) (a1 (cV 13)))))
abbrev qK:=(vH (gN 10) (vH (gN 11) DA))
abbrev qP:=(tD ao (tD (tJ A3 (a1 (cV 8))) (a1 fJ)))
abbrev qX:=(tD bS (a1 (cC (.int 60))))
def QP:FS:=(tI (um 1 (tJ A0 (a1 (tJ xk (tD ab (a1 bE))))))
 (tI (um 2 (tJ ye cE))
 (tI (um 3 (tJ zh cE))
 (tI (um 4 (tJ ye (a1 az)))
 (tI (xa 5 (tZ tY))
 (tI (yu (iL (cL (uU (cL (tZ (a1 (tJ xk (tD ab (a1 aL)))))) (cL (cSl ab (some 2) (some 17)))))) (gN 6) (tI (xa 7 (uF xl qX))
 (tI (um 8 (uY wg 7 cE))
 (tI (um 9 (uY (ud 4) 7 qP))
 (tI (HQ (tJ yi (a1 (cV 8))) (gT qK 2))
 (tI (um 12 (tJ (vh 4) (a1 (cV 9))))
 (tI (um 13 (tJ wB (tD ao kh)))
 (tI (um 14 (uJ (uo 3) "reads" (cV 12) (tD av kg)))
 (tI (sIf (xX (yS (cT (c1 (xt (vL "tuple")) (cV 14)))) (cT (c2 (dEq true) (cV 14) (cV 13)))) (ub fM) uc)
 (tI (uu (zp 5 (uA qJ)))
 (sIf (cT (c2 (dEq true) (uJ (uo 3) "reads" (cV 12) (tD aF kg)) (tJ wB (tD az kh)))) (ub fM) uc)))))))))))
 (ub (Es (c2 (dEq false) (cL (ue 4 [2] (iL bB) (gT qI 4) (cT (c2 (dEq true) (uJ (uo 3) "reads" ab (tD aF kq)) az)) aL)) (cL (tZ tY)))))))))))
def U6:=fnD 1 15 QP
section
variable{k:Nat}{cap:List Nat}{g:FG}{ft:FT}{fe e:FE}{s:FA}{ρ ρ1 ρ2:bb}{α:Type}
theorem vF(h:e ρ=some (.bl true,ρ1)):uu (tJ tS (tD e (tD (cC m) tY))) ρ=some (.nx ρ1):=u7 (tK (tG h (tG rfl rfl)) rfl)
theorem Ar(dd h:α->L4.D)(l:List α)(hs:s ρ=some (l.map dd,ρ1))(hl:l.length<=1000)(st:∀a∈l,∃ρ2 ρ3,g (dd a) (BC k cap ρ1)=some ρ2/\fe ρ2=some (h a,ρ3)/\wD cap (ρ3.drop k) ρ1=some ρ1):
  ue k cap s g uS fe ρ=some (l.map h,ρ1):=(BZ hs (by rw[af];exact hl)).trans (Tv dd h l st)
theorem xV(dd h:α->L4.D)(p:α->Bool)(l:List α)(hs:s ρ=some (l.map dd,ρ1))(hl:l.length<=1000)
  (st:∀a∈l,∃ρ2 ρ3,g (dd a) (BC k cap ρ1)=some ρ2/\ft ρ2=some (p a,ρ3)/\(p a=true->∃ρ4,fe ρ3=some (h a,ρ4)/\wD cap (ρ4.drop k) ρ1=some ρ1)/\(p a=false->wD cap (ρ3.drop k) ρ1=some ρ1)):
  ue k cap s g ft fe ρ=some ((l.filter p).map h,ρ1):=(BZ hs (by rw[af];exact hl)).trans (Fq dd p h l st)
theorem yK(dd:α->L4.D)(l:List α)(hs:s ρ=some (l.map dd,ρ1))(hl:l.length<=1000)(st:∀a∈l,∃ρ2 ρ3,g (dd a) (BC k cap ρ1)=some ρ2/\fe ρ2=some (.bl true,ρ3)/\wD cap (ρ3.drop k) ρ1=some ρ1):
  c1 yL (cL (ue k cap s g uS fe)) ρ=some (.bl true,ρ1):=
 uD (uE (Ar dd (λ_=>.bl true) l hs hl st)) ((Mo l λ_=>true).trans (by rw[bH.mpr λ_ _=>rfl]))
theorem QQ(dd:α->L4.D)(l:List α)(hs:s ρ=some (l.map dd,ρ1))(hl:l.length<=1000)(st:∀a∈l,∃ρ2 ρ3,g (dd a) (BC k cap ρ1)=some ρ2/\fe ρ2=some (.bl false,ρ3)/\wD cap (ρ3.drop k) ρ1=some ρ1):
  c1 Fj (cL (ue k cap s g uS fe)) ρ=some (.bl false,ρ1):=
 uD (uE (Ar dd (λ_=>.bl false) l hs hl st)) ((Tx l λ_=>false).trans (by rw[oE.mpr λ_ _=>bj]))
end
inductive Kd where
 |room|you|plain|fixed|box|lamp
deriving DecidableEq
def Kd.s:Kd->Str
 |.room=>"room" |.you=>"you" |.plain=>"plain" |.fixed=>"fixed" |.box=>"box" |.lamp=>"lamp"
def Kd.pl:Kd->Bool
 |.room=>false|.you=>false|_=>true
def Kd.hd:Kd->Bool
 |.room=>true|.you=>true|.box=>true|_=>false
def Kd.mk:Kd->Bool
 |.box=>true|.lamp=>true|_=>false
structure Th where
 n:Str
 w:aD
 k:Kd
 s:Option Str
def oS:Option Str->L4.D
 |none=>.non
 |some x=>.str x
def thD(t:Th):L4.D:=.obj 0 ["name", "words", "kind", "start"] [.str t.n,.tup (t.w.map D.str),.str t.k.s,oS t.s]
theorem zi(t:Th):uh ui "name" (thD t)=some (.str t.n):=rfl
theorem IE(t:Th):uh vS "words" (thD t)=some (.tup (t.w.map D.str)):=rfl
theorem A4(t:Th):uh uL "kind" (thD t)=some (.str t.k.s):=rfl
theorem IF(t:Th):uh vb "start" (thD t)=some (oS t.s):=rfl
theorem CL(a b:Kd):dEq false (.str a.s) (.str b.s)=some (.bl (decide (a=b))):=by cases a<;>cases b<;>kernel_rfl
theorem Ui(t:Th):zw [thD t]=some (.bl t.k.hd):=by obtain⟨n,w,k,s⟩:=t;cases k<;>kernel_rfl
theorem MH(t:Th):zy [thD t]=some (.bl t.k.mk):=by obtain⟨n,w,k,s⟩:=t;cases k<;>kernel_rfl
theorem QR(t:Th):yE [thD t]=some (.bl t.k.pl):=by obtain⟨n,w,k,s⟩:=t;cases k<;>kernel_rfl
theorem Uj(t:Th):uN [.str t.k.s,IC]=some (.bl true):=by obtain⟨n,w,k,s⟩:=t;cases k<;>kernel_rfl
abbrev TD(T:List Th):L4.D:=.lst (T.map thD)
theorem count_eq(T:List Th)(hl:T.length<=1000)(k:Kd):zW [TD T,.str k.s]=some (.int (T.filter λt=>decide (t.k=k)).length):=by refine uq (ρ:=[.im (TD T),.im (.str k.s)]) rfl ?_;refine ug (uD (uE (xV thD thD (λt=>decide (t.k=k)) T (ρ1:=[.im (TD T),.im (.str k.s)]) rfl hl λt _=>⟨[.im (thD t),.im (.str k.s)],[.im (thD t),.im (.str k.s)],rfl,uR (tQ (uD rfl (A4 t)) rfl (CL t.k k)),λ_=>⟨_,rfl,rfl⟩,λ_=>rfl⟩)) ?_);show some (D.int _)=_;rw[af]
theorem zj(T:List Th)(hl:T.length<=1000):wz [TD T]=some ((T.filter λt=>t.k.pl).map thD):=by refine Dc (ρ:=[.im (TD T)]) rfl ?_;exact wu (xV thD thD (λt=>t.k.pl) T (ρ1:=[.im (TD T)]) rfl hl λt _=>⟨[.im (thD t)],[.im (thD t)],rfl,uR (ve (xs:=[.str t.n,.tup (t.w.map D.str),.str t.k.s,oS t.s]) (ys:=[]) rfl rfl rfl rfl (QR t)),λ_=>⟨_,rfl,rfl⟩,λ_=>rfl⟩)
theorem CM(h1:a ρ=some (.int x,ρ))(h2:b ρ=some (.int y,ρ))(h3:c ρ=some (.int z,ρ))(hx:x<=y)(hy:y<=z):wJ yZ yZ a b c ρ=some (.bl true,ρ):=by
 unfold wJ;rw[h1];simp only[h2];have e1:yZ (.int x) (.int y)=some (.bl true):=by show some (D.bl (decide (x<=y)))=_;rw[aY hx]
 have e2:yZ (.int y) (.int z)=some (.bl true):=by show some (D.bl (decide (y<=z)))=_;rw[aY hy]
 simp only[e1,h3,e2]
theorem U7(h1:a ρ=some (.int x,ρ))(h2:b ρ=some (.int y,ρ))(hx:x<=y):c2 yZ a b ρ=some (.bl true,ρ):=tQ h1 h2 (by
 show some (D.bl (decide (x<=y)))=_;rw[aY hx])
theorem Et(T:List Th)(hl:T.length<=1000)(h1:1<=(T.filter λt=>decide (t.k=.room)).length)(h5:(T.filter λt=>decide (t.k=.room)).length<=5)(hy:(T.filter λt=>decide (t.k=.you)).length=1)(h7:(T.filter λt=>t.k.pl).length<=7):
  yG [TD T]=some .non:=by
 let ρ:bb:=[.im (TD T),.im (.bl true)];refine zS (ρ:=ρ) rfl ?_;unfold yF;rw[tE (show _=some (Out.nx ρ) from(t8 ((vM rfl).trans (yK thD T (ρ1:=[.im (TD T),.un]) rfl hl λt _=>⟨_,_,rfl,rfl,rfl⟩))).trans rfl)];rw[tE (vF (ρ1:=ρ) rfl)];rw[tE (vF (ρ1:=ρ) (yK thD T rfl hl λt _=>⟨[.im (thD t)],[.im (thD t)],rfl,tK (tG (uD rfl (A4 t)) (tG rfl rfl)) (Uj t),rfl⟩))];rw[tE (vF (ρ1:=ρ) (CM (x:=1) (y:=(T.filter λt=>decide (t.k=.room)).length) (z:=5) rfl (tK (ds:=[TD T,.str Kd.room.s]) rfl (count_eq T hl .room)) rfl (by omega) (by omega)))];rw[tE (vF (ρ1:=ρ) (tQ (ρ1:=ρ) (x:=.int (T.filter λt=>decide (t.k=.you)).length) (y:=.int 1) (tK (ds:=[TD T,.str Kd.you.s]) rfl (count_eq T hl .you)) rfl (by rw[hy];rfl)))];refine vF (ρ1:=ρ) (U7 (x:=(T.filter λt=>t.k.pl).length) (y:=7) (uD (uE (tK rfl (zj T hl))) ?_) rfl (by omega));show some (D.int _)=_;rw[af]
structure Mk where
 n:Str
 st:Int
 mo:Int
def mkD(m:Mk):L4.D:=.obj 1 ["name", "start", "most"] [.str m.n,.int m.st,.int m.mo]
def Mk.ok(m:Mk):Prop:=1<=m.mo/\m.mo<=3/\0<=m.st/\m.st<=m.mo
abbrev MD(M:List Mk):L4.D:=.lst (M.map mkD)
theorem IG(m:Mk):uh ui "name" (mkD m)=some (.str m.n):=rfl
theorem Lk(m:Mk)(h:m.ok):Do [mkD m]=some (.bl true):=by obtain⟨h1,h2,h3,h4⟩:=h;refine uq (ρ:=[.im (mkD m)]) rfl ?_;unfold Dn;rw[tE (show _=some (Out.nx [.im (mkD m)]) from rfl)];exact ug ((vM (CM (x:=1) (y:=m.mo) (z:=3) rfl rfl rfl h1 h2)).trans (CM (x:=0) (y:=m.st) (z:=m.mo) rfl rfl rfl h3 h4))
theorem FY(M:List Mk)(hl:M.length<=4)(h:∀m∈M,m.ok):y8 [MD M]=some .non:=by
 let ρ:bb:=[.im (MD M),.im (.bl true)];refine zS (ρ:=ρ) rfl ?_;unfold y7;have e0:vc [MD M,ya]=some (.bl true):=by refine uq (ρ:=[.im (MD M),.im (.int 4)]) rfl ?_;refine ug ((vM rfl).trans (U7 (x:=M.length) (y:=4) ?_ rfl (by omega)));refine uD rfl ?_;show some (D.int _)=_;rw[af]
 rw[tE (show _=some (Out.nx ρ) from(t8 ((vM (tK (ds:=[MD M,ya]) rfl e0)).trans (yK mkD M (ρ1:=[.im (MD M),.un]) rfl (by omega) λm hm=>⟨[.im (mkD m)],[.im (mkD m)],rfl,tK rfl (Lk m (h m hm)),rfl⟩))).trans rfl)];exact vF (ρ1:=ρ) rfl
def nmS(l c:Nat):Str:=ja ⟨#[98+l]⟩ (1+(c:Int))
def Nm(x:Str):Prop:=∃l c,l<25/\c<8/\x=nmS l c
def isT:Option L4.D->Bool
 |some (.bl b)=>b
 |_=>false
theorem QS(h:isT o=true):o=some (.bl true):=by
 unfold isT at h;split at h
 ·rw[h]
 ·cases h
theorem IH{p:Str->Bool}(h:((aQ 25).all λl=>(aQ 8).all λc=>p (nmS l c))=true){x:Str}(hx:Nm x):p x=true:=by obtain⟨l,c,hl,hc,rfl⟩:=hx;exact bH.mp (bH.mp h l (bI.mpr hl)) c (bI.mpr hc)
theorem Ll(h:Nm x):A9 [.str x]=some (.bl true):=QS (IH (p:=λx=>isT (A9 [.str x])) (by kernel_rfl) h)
theorem Lm(h:Nm x):wW [.str x]=some (.bl true):=QS (IH (p:=λx=>isT (wW [.str x])) (by kernel_rfl) h)
theorem Ka:wW [.str "red"]=some (.bl true):=by kernel_rfl
theorem Kb:wW [.str "old"]=some (.bl true):=by kernel_rfl
def noW(x:Str):Bool:=decide (x∉(["red", "old", "take", "drop", "open", "shut", "light", "douse", "put", "go", "wait", "in", "north", "up", "the", "a", "undo", "restart"]:aD))
theorem QT(h:Nm x):x∉(["red", "old", "take", "drop", "open", "shut", "light", "douse", "put", "go", "wait", "in", "north", "up", "the", "a", "undo", "restart"]:aD):=bK (IH (p:=noW) (by kernel_rfl) h)
def sg(x:Str):Nat:=x.cps.getD 0 0
theorem aaN(hl:l<25)(hc:c<8):sg (nmS l c)=98+l:=by
 have h:((aQ 25).all λl=>(aQ 8).all λc=>sg (nmS l c)==98+l)=true:=by kernel_rfl
 exact eK (bH.mp (bH.mp h l (bI.mpr hl)) c (bI.mpr hc))
theorem FZ{l:aD}(h:l.Nodup)(hl:l.length<=1000):uW [.lst (l.map D.str)]=some (.bl true):=by
 refine uq (ρ:=[.im (.lst (l.map D.str))]) rfl ?_;refine ug (tQ (x:=.int l.length) (y:=.int l.length) (uD rfl (Tc (DM h hl))) (uD rfl ?_) ?_)
 ·show some (D.int _)=_;rw[af]
 ·rw[zR];simp
theorem Ln{l:aD}(h:l.Nodup)(hl:l.length<=1000):uW [.tup (l.map D.str)]=some (.bl true):=by
 refine uq (ρ:=[.im (.tup (l.map D.str))]) rfl ?_;refine ug (tQ (x:=.int l.length) (y:=.int l.length) (uD rfl (DM h hl)) (uD rfl ?_) ?_)
 ·show some (D.int _)=_;rw[af]
 ·rw[zR];simp
theorem F0(T:List Th)(M:List Mk)(hT:T.length<=400)(hM:M.length<=400)(hn:∀x∈T.map Th.n++M.map Mk.n,Nm x)(nd:(T.map Th.n++M.map Mk.n).Nodup):za [TD T,MD M]=some .non:=by
 have hl:(T.map Th.n++M.map Mk.n).length<=1000:=by rw[aB,af,af];omega
 let ρ0:bb:=[.im (TD T),.im (MD M),.un];let ρ:bb:=[.im (TD T),.im (MD M),.im (.lst ((T.map Th.n++M.map Mk.n).map D.str))];refine zS (ρ:=ρ) rfl ?_;unfold y9;have e1:ue 1 [] (iL ab) (gN 0) uS (c1 (uh ui "name") ab) ρ0=some (T.map λt=>D.str t.n,ρ0):=Ar thD (λt=>D.str t.n) T rfl (by omega) λt _=>⟨_,_,rfl,uD rfl (zi t),rfl⟩;have e2:ue 1 [] (iL ao) (gN 0) uS (c1 (uh ui "name") ab) ρ0=some (M.map λt=>D.str t.n,ρ0):=Ar mkD (λt=>D.str t.n) M rfl (by omega) λt _=>⟨_,_,rfl,uD rfl (IG t),rfl⟩;have e3:=t8 (i:=2) (uE (u4 (uE e1) (uE e2) (by rw[af,af];omega)));refine(tE (ρ':=ρ) (e3.trans (by
  have:(T.map λt=>D.str t.n)++(M.map λt=>D.str t.n)=(T.map Th.n++M.map Mk.n).map D.str:=by rw[aX,aU,aU];rfl
  rw[this];rfl))).trans ?_
 rw[tE (vF (ρ1:=ρ) (yK D.str (T.map Th.n++M.map Mk.n) rfl hl λx hx=>⟨_,_,rfl,tK rfl (Ll (hn x hx)),rfl⟩))];exact vF (ρ1:=ρ) (tK rfl (FZ nd hl))
def rmN(T:List Th):aD:=(T.filter λt=>decide (t.k=.room)).map Th.n
def hdN(T:List Th):aD:=(T.filter λt=>t.k.hd).map Th.n
abbrev gu:=(cC (.str "room"))
theorem Kc(T:List Th)(hl:T.length<=1000)(hi:cV i ρ=some (TD T,ρ)):ue 1 [] (iL (cV i)) (gN 0) (cT (c2 (dEq false) (c1 (uh uL "kind") ab) gu)) (c1 (uh ui "name") ab) ρ=some ((rmN T).map D.str,ρ):=by
 have hs:iL (cV i) ρ=some (T.map thD,ρ):=by unfold iL;rw[hi]
 have:=xV (k:=1) (cap:=[]) (g:=gN 0) (ft:=cT (c2 (dEq false) (c1 (uh uL "kind") ab) gu)) (fe:=c1 (uh ui "name") ab) thD (λt=>D.str t.n) (λt=>decide (t.k=.room)) T hs hl λt _=>⟨[.im (thD t)],[.im (thD t)],rfl,uR (tQ (uD rfl (A4 t)) rfl (CL t.k .room)),λ_=>⟨_,uD rfl (zi t),rfl⟩,λ_=>rfl⟩
 rw[this];unfold rmN;rw[aU];rfl
theorem Lo(T:List Th)(hl:T.length<=1000)(hi:cV i ρ=some (TD T,ρ)):ue 1 [] (iL (cV i)) (gN 0) (cT (uJ vz "can_hold" ab tY)) (c1 (uh ui "name") ab) ρ=some ((hdN T).map D.str,ρ):=by
 have hs:iL (cV i) ρ=some (T.map thD,ρ):=by unfold iL;rw[hi]
 have:=xV (k:=1) (cap:=[]) (g:=gN 0) (ft:=cT (uJ vz "can_hold" ab tY)) (fe:=c1 (uh ui "name") ab) thD (λt=>D.str t.n) (λt=>t.k.hd) T hs hl λt _=>⟨[.im (thD t)],[.im (thD t)],rfl,uR (ve (xs:=[.str t.n,.tup (t.w.map D.str),.str t.k.s,oS t.s]) (ys:=[]) rfl rfl rfl rfl (Ui t)),λ_=>⟨_,uD rfl (zi t),rfl⟩,λ_=>rfl⟩
 rw[this];unfold hdN;rw[aU];rfl
theorem zB{x:Str}{l:aD}(h:x∈l):uN [.str x,.lst (l.map D.str)]=some (.bl true):=by refine uq (ρ:=[.im (.str x),.im (.lst (l.map D.str))]) rfl ?_;refine ug ((vM rfl).trans (tQ rfl rfl ?_));rw[AF];simp[h]
theorem Gq(dk rm:aD)(hl:dk.length<=1000)(nd:dk.Nodup)(h:∀x∈dk,x∈rm):zY [.lst (dk.map D.str),.lst (rm.map D.str)]=some .non:=by let ρ0:bb:=[.im (.lst (dk.map D.str)),.im (.lst (rm.map D.str)),.un];let ρ:bb:=[.im (.lst (dk.map D.str)),.im (.lst (rm.map D.str)),.im (.bl true)];refine zS (ρ:=ρ) rfl ?_;unfold zX;rw[tE (show _=some (Out.nx ρ) from(t8 ((vM (ρ1:=ρ0) rfl).trans ((vM (yK D.str dk (ρ1:=ρ0) rfl hl λx hx=>⟨[.im (.str x),.im (.lst (rm.map D.str))],[.im (.str x),.im (.lst (rm.map D.str))],rfl,tK rfl (zB (h x hx)),rfl⟩)).trans (tK (ρ1:=ρ0) rfl (FZ nd hl))))).trans rfl)];exact vF (ρ1:=ρ) rfl
def II(T:List Th)(t:Th):Prop:=match t.k,t.s with
 |.room,none=>True
 |.room,some _=>False
 |_,none=>False
 |.you,some x=>x∈rmN T
 |_,some x=>x∈hdN T
theorem Ke(T:List Th)(hl:T.length<=1000)(t:Th)(h:II T t):BK [TD T,thD t]=some (.bl true):=by
 refine uq (ρ:=[.im (TD T),.im (thD t)]) rfl ?_;unfold BJ;obtain⟨n,w,k,s⟩:=t;have els:∀k:Kd,k≠.room->k≠.you->∀x,x∈hdN T->(tI (sIf (cT (c2 (dEq false) (c1 (uh uL "kind") ao) gu)) (ub (c2 Bi (c1 (uh vb "start") ao) bF)) uc)
   (tI (sIf (cT (c2 (dEq false) (c1 (uh uL "kind") ao) (cC (.str "you")))) (ub (tJ uN (tD (c1 (uh vb "start") ao) (tD (cL (ue 1 [] (iL ab) (gN 0) (cT (c2 (dEq false) (c1 (uh uL "kind") ab) gu)) (c1 (uh ui "name") ab))) tY)))) uc)
   (ub (tJ uN (tD (c1 (uh vb "start") ao) (tD (cL (ue 1 [] (iL ab) (gN 0) (cT (uJ vz "can_hold" ab tY)) (c1 (uh ui "name") ab))) tY)))))) [.im (TD T),.im (thD ⟨n,w,k,some x⟩)]=some (.rt (.bl true) [.im (TD T),.im (thD ⟨n,w,k,some x⟩)]):=λk h1 h2 x hx=>by
  let ρ:bb:=[.im (TD T),.im (thD ⟨n,w,k,some x⟩)];rw[tE (show _=some (Out.nx ρ) from(ur (ρ':=ρ) (uR (tQ (ρ1:=ρ) (ρ2:=ρ) (uD rfl (A4 _)) rfl ((CL k .room).trans (by rw[aT h1]))))).trans rfl)];rw[tE (show _=some (Out.nx ρ) from(ur (ρ':=ρ) (uR (tQ (ρ1:=ρ) (ρ2:=ρ) (uD rfl (A4 _)) rfl ((CL k .you).trans (by rw[aT h2]))))).trans rfl)];exact ug (tK (tG (uD rfl (IF _)) (tG (uE (Lo T hl rfl)) rfl)) (zB hx))
 cases k with
 |room=>
  cases s with
  |none=>rfl
  |some x=>exact h.elim
 |you=>
  cases s with
  |none=>exact h.elim
  |some x=>let ρ:bb:=[.im (TD T),.im (thD ⟨n,w,.you,some x⟩)];rw[tE (show _=some (Out.nx ρ) from rfl)];refine uC ((ux (ρ':=ρ) rfl).trans ?_);exact ug (tK (tG (uD rfl (IF _)) (tG (uE (Kc T hl rfl)) rfl)) (zB h))
 |plain=>cases s with
  |none=>exact h.elim
  |some x=>exact els .plain (by decide) (by decide) x h
 |fixed=>cases s with
  |none=>exact h.elim
  |some x=>exact els .fixed (by decide) (by decide) x h
 |box=>cases s with
  |none=>exact h.elim
  |some x=>exact els .box (by decide) (by decide) x h
 |lamp=>cases s with
  |none=>exact h.elim
  |some x=>exact els .lamp (by decide) (by decide) x h
def kS(x:Str):Key:=Sum.inr x
theorem F1(h1:fv ρ=some (d,ρ))(h2:ρ[i]?=some (.dk ks ds))(h3:fk ρ=some (.str x,ρ))(hn:kS x∉ks)(hl:ks.length<1000)(he:ds.length=ks.length):
  vV i fk fv ρ=some (.nx (ρ.set i (.dk (ks++[kS x]) (ds++[d])))):=by
 have hk:Fh ks (kS x)=false:=by unfold Fh;rw[jH];intro z;obtain⟨y,hy,ey⟩:=gR.mp z;exact hn (by rw[<-bK ey];exact hy)
 unfold vV;rw[h1];simp only[h2,h3];rw[show Bj (.str x)=some (kS x) from rfl];simp only;rw[ah hl,ah he,hk];rfl
section
variable{α:Type}{g:FG}{i:Nat}{fk fv:FE}
theorem zC(dd:α->L4.D)(kf:α->Str)(vf:α->L4.D)(st:List Key->List L4.D->Sl->bb)
  (hs:∀(a:α) (ks:List Key) (ds:List L4.D) (s:Sl),∃ρ1,g (dd a) (st ks ds s)=some ρ1/\fv ρ1=some (vf a,ρ1)/\ρ1[i]?=some (.dk ks ds)/\fk ρ1=some (.str (kf a),ρ1)/\∀ks' ds',∃s',ρ1.set i (.dk ks' ds')=st ks' ds' s'):
  ∀(l:List α) (ks:List Key) (ds:List L4.D) (s:Sl),(ks++l.map λa=>kS (kf a)).Nodup->ks.length+l.length<=1000->ds.length=ks.length->
   ∃s',forL g (vV i fk fv) (l.map dd) (st ks ds s)=some (.nx (st (ks++l.map λa=>kS (kf a)) (ds++l.map vf) s'))
 |[],ks,ds,s,_,_,_=>⟨s,by rw[cM,cM,cM,bq,bq];rfl⟩
 |a::l,ks,ds,s,nd,hl,he=>by
  obtain⟨ρ1,h1,h2,h3,h4,h5⟩:=hs a ks ds s;obtain⟨s1,h6⟩:=h5 (ks++[kS (kf a)]) (ds++[vf a]);rw[aM]at hl;have nd':((ks++[kS (kf a)])++l.map λa=>kS (kf a)).Nodup:=by rw[bD];exact nd
  have hn:kS (kf a)∉ks:=λz=>by rw[cA]at nd;exact nd.2.2 _ z _ (by rw[aE];exact bg) rfl
  obtain⟨s',h7⟩:=zC dd kf vf st hs l (ks++[kS (kf a)]) (ds++[vf a]) s1 nd' (by rw[aB,bh];omega) (by rw[aB,aB,he,bh,bh]);refine⟨s',?_⟩;rw[aE];unfold forL;rw[h1];simp only[F1 h2 h3 h4 hn (by omega) he,h6];rw[h7,aE,aE,bD,bD];rfl
end
def nK(T:List Th):List Key:=T.map λt=>kS t.n
theorem IJ(h:kS a=kS b):a=b:=jW h
theorem MI{T:List Th}(h:(T.map Th.n).Nodup):(nK T).Nodup:=by have:=zt h;rw[aU]at this;exact this
theorem MJ{T:List Th}(h:(T.map Th.n).Nodup)(vf:Th->L4.D)(ht:t∈T):vp (nK T) (T.map vf) (kS t.n)=some (vf t):=by refine Ca (MI h) ?_;unfold nK;rw[lT];exact bQ (f:=λt=>(kS t.n,vf t)) ht
def Lp(T:List Th)(r:Str->Nat):Prop:=∀t∈T,r t.n<T.length/\∀p,t.s=some p->r p<r t.n/\∃u∈T,u.n=p
def stD(T:List Th):L4.D:=.dic (nK T) (T.map λt=>oS t.s)
theorem QU(T:List Th)(hl:T.length<=1000)(nd:(T.map Th.n).Nodup)(r:Str->Nat)(hr:Lp T r)(t:Th)(ht:t∈T):xR [stD T,.str t.n]=some (.bl true):=by
 have loop:∀(m:Nat) (l:List L4.D),l.length=m->∀(a:Option Str) (s:Sl),(∀x,a=some x->(∃u∈T,u.n=x)/\r x<m)->
   (∃ρ,forL (gN 3) (tI (sIf (cT (c2 Bi av bF)) (ub jd) uc) (um 2 (c2 vd ab av))) l [.im (stD T),.im (.str t.n),.im (oS a),s]=some (.rt (.bl true) ρ))\/
   (∃s',forL (gN 3) (tI (sIf (cT (c2 Bi av bF)) (ub jd) uc) (um 2 (c2 vd ab av))) l [.im (stD T),.im (.str t.n),.im (oS a),s]=some (.nx [.im (stD T),.im (.str t.n),.im .non,s'])):=by
  intro m
  induction m with
  |zero=>
   intro l h a s ha;cases l with
   |cons d l=>cases h
   |nil=>
    cases a with
    |none=>exact .inr ⟨s,rfl⟩
    |some x=>exact aq (ha x rfl).2 (px _)
  |succ m ih=>
   intro l h a s ha;cases l with
   |nil=>cases h
   |cons d l=>
    cases a with
    |none=>refine .inl ⟨[.im (stD T),.im (.str t.n),.im .non,.im d],?_⟩;unfold forL;rw[show gN 3 d [.im (stD T),.im (.str t.n),.im (oS none),s]=some [.im (stD T),.im (.str t.n),.im .non,.im d] from rfl];rfl
    |some x=>
     obtain⟨⟨u,hu,rfl⟩,hx⟩:=ha x rfl;have e:tI (sIf (cT (c2 Bi av bF)) (ub jd) uc) (um 2 (c2 vd ab av)) [.im (stD T),.im (.str t.n),.im (.str u.n),.im d]=some (.nx [.im (stD T),.im (.str t.n),.im (oS u.s),.im d]):=by refine(tE (ρ':=[.im (stD T),.im (.str t.n),.im (.str u.n),.im d]) rfl).trans ?_;exact(t8 (tQ rfl rfl (MJ nd (λt=>oS t.s) hu))).trans rfl
     have key:=ih l (by simpa using h) u.s (.im d) λy hy=>by obtain⟨h1,h2⟩:=hr u hu;obtain⟨h3,h4⟩:=h2 y hy;exact⟨h4,by omega⟩
     unfold forL;rw[show gN 3 d [.im (stD T),.im (.str t.n),.im (oS (some u.n)),s]=some [.im (stD T),.im (.str t.n),.im (.str u.n),.im d] from rfl];simp only[e];exact key
 obtain⟨h1,h2⟩:=hr t ht;have l0:=loop T.length (E8 0 T.length) (by unfold E8;simp) t.s .un λx hx=>⟨(h2 x hx).2,by have:=(h2 x hx).1;omega⟩;have e0:um 2 (c2 vd ab ao) [.im (stD T),.im (.str t.n),.un,.un]=some (.nx [.im (stD T),.im (.str t.n),.im (oS t.s),.un]):=(t8 (tQ rfl rfl (MJ nd (λt=>oS t.s) ht))).trans rfl;have e1:iR1 (c1 vw ab) [.im (stD T),.im (.str t.n),.im (oS t.s),.un]=some (E8 0 T.length,[.im (stD T),.im (.str t.n),.im (oS t.s),.un]):=by unfold iR1;rw[show c1 vw ab [.im (stD T),.im (.str t.n),.im (oS t.s),.un]=some (.int T.length,[.im (stD T),.im (.str t.n),.im (oS t.s),.un]) from uD rfl (by show some (D.int _)=_;unfold nK;rw[af])];simp only;rw[ah (by omega),iK]
 rcases l0 with ⟨ρ,q⟩|⟨s',q⟩
 ·refine uq (ρ:=ρ) rfl ?_;refine(tE e0).trans (uC ((wK e1).trans q))
 ·refine uq (ρ:=[.im (stD T),.im (.str t.n),.im .non,s']) rfl ?_;refine(tE e0).trans ((tE ((wK e1).trans q)).trans rfl)
theorem Eu(T:List Th)(hl:T.length<=900)(nd:(T.map Th.n).Nodup)(r:Str->Nat)(hr:Lp T r)(hs:∀t∈T,II T t):yI [TD T]=some .non:=by
 obtain⟨s',e1⟩:=zC (g:=gN 2) (i:=1) (fk:=c1 (uh ui "name") av) (fv:=c1 (uh vb "start") av) thD Th.n (λt=>oS t.s) (λks ds s=>[.im (TD T),.dk ks ds,s])
  (λt ks ds s=>⟨[.im (TD T),.dk ks ds,.im (thD t)],rfl,uD rfl (IF t),rfl,uD rfl (zi t),λks' ds'=>⟨_,rfl⟩⟩) T [] [] .un (by rw[bY];exact MI nd) (by simp;omega) rfl
 refine zS (ρ:=[.im (TD T),.im (stD T),s']) rfl ?_;unfold yH;refine(tE (vF (ρ1:=[.im (TD T),.un,.un]) (yK thD T rfl (by omega) λt ht=>⟨[.im (thD t),.im (TD T)],[.im (thD t),.im (TD T)],rfl,tK rfl (Ke T (by omega) t (hs t ht)),rfl⟩))).trans ?_;refine(tE (ρ':=[.im (TD T),.dk [] [],.un]) rfl).trans ?_;refine(tE ((wK rfl).trans e1)).trans ?_;have src:iD (cFz 1) [.im (TD T),.dk ([]++T.map λa=>kS a.n) ([]++T.map λt=>oS t.s),s']=some ((T.map λt=>D.str t.n),[.im (TD T),.im (stD T),s']):=by rw[bY,bY];unfold iD;rw[show cFz 1 [.im (TD T),.dk (T.map λa=>kS a.n) (T.map λt=>oS t.s),s']=some (stD T,[.im (TD T),.im (stD T),s']) from rfl];show (if (nK T).length=(T.map λt=>oS t.s).length then some ((nK T).map WM,_)else none)=_;unfold nK;rw[ah (by rw[af,af]),aU];rfl
 exact vF (ρ1:=[.im (TD T),.im (stD T),s']) (yK (λt:Th=>D.str t.n) T src (by omega) λt ht=>⟨[.im (.str t.n),.im (stD T)],[.im (.str t.n),.im (stD T)],rfl,tK rfl (QU T (by omega) nd r hr t ht),rfl⟩)
def Hn:List aD:=[[],["red"],["old", "red"]]
def vX(t:Th):Prop:=Nm t.n/\∃m∈Hn,t.w=t.n::m
theorem wX(h:vX t):t.w=[t.n]\/t.w=[t.n,"red"]\/t.w=[t.n,"old", "red"]:=by
 obtain⟨_,m,hm,e⟩:=h;unfold Hn at hm;simp only[aN,cn,or_false]at hm;rcases hm with rfl|rfl|rfl
 ·exact .inl e
 ·exact .inr (.inl e)
 ·exact .inr (.inr e)
theorem Ds(h:vX t)(hx:x∈t.w):x=t.n\/x="red" \/ x="old" := by
 rcases wX h with e|e|e<;>rw[e]at hx<;>simp only[aN,cn,or_false]at hx
 ·exact .inl hx
 ·rcases hx with h|h
  ·exact .inl h
  ·exact .inr (.inl h)
 ·rcases hx with h|h|h
  ·exact .inl h
  ·exact .inr (.inr h)
  ·exact .inr (.inl h)
theorem U8(h:Nm x):x≠"red" /\ x≠"old" := by have:=QT h;exact⟨λz=>this (by rw[z];decide),λz=>this (by rw[z];decide)⟩
theorem IK(h:vX t):AR [.tup (t.w.map D.str)]=some (.bl true):=by
 have hn:=h.1;obtain⟨n1,n2⟩:=U8 hn;have len:1<=t.w.length/\t.w.length<=4:=by rcases wX h with e|e|e<;>rw[e]<;>simp
 have nd:t.w.Nodup:=by
  rcases wX h with e|e|e<;>rw[e]
  ·simp
  ·simp[n1]
  ·simp[n1,n2];decide
 let ρ:bb:=[.im (.tup (t.w.map D.str))];refine uq (ρ:=ρ) rfl ?_;unfold AQ;have e1:wJ yZ yZ aL (c1 vw ab) (cC zU) ρ=some (.bl true,ρ):=CM (x:=1) (y:=t.w.length) (z:=4) rfl (uD rfl (by show some (D.int _)=_;rw[af])) rfl (by omega) (by omega);refine(tE (ρ':=ρ) ((ur (ρ':=ρ) (y3 (ρ1:=ρ) rfl (Mb (uR e1)))).trans rfl)).trans ?_;refine ug ((vM (yK D.str t.w (ρ1:=ρ) rfl (by omega) λx hx=>⟨_,_,rfl,tK rfl ?_,rfl⟩)).trans (tK rfl (Ln nd (by omega))));rcases Ds h hx with rfl|rfl|rfl
 ·exact Lm hn
 ·exact Ka
 ·exact Kb
theorem Lq(t u:Th)(ht:vX t)(hu:vX u)(hne:u.n≠t.n):Bb [.tup (u.w.map D.str),.tup (t.w.map D.str)]=some (.bl false):=by
 obtain⟨n1,n2⟩:=U8 ht.1;have hl:t.w.length<=1000:=by rcases wX ht with e|e|e<;>rw[e]<;>simp
 let ρ:bb:=[.im (.tup (u.w.map D.str)),.im (.tup (t.w.map D.str))];refine uq (ρ:=ρ) rfl ?_;refine ug (uD (uE (Ar D.str (λx=>.bl (decide (x∈u.w))) t.w (ρ1:=ρ) rfl hl λx _=>⟨_,_,rfl,tQ rfl rfl (Fs false x u.w),rfl⟩)) ?_);rw[Mo];have:t.w.all (λx=>decide (x∈u.w))=false:=by
  rw[jH];intro z;have:=bK (bH.mp z t.n (by rcases wX ht with e|e|e<;>rw[e]<;>simp));rcases Ds hu this with h|h|h
  ·exact hne h.symm
  ·exact n1 h
  ·exact n2 h
 rw[this]
theorem Gr(P:List Th)(hl:P.length<=900)(hw:∀t∈P,vX t)(t:Th)(ht:vX t):xT [TD P,thD t]=some (.bl true):=by
 let O:=P.filter λu=>!decide (u.n=t.n);let ρ:bb:=[.im (TD P),.im (thD t),.im (TD O)];have hO:O.length<=900:=bM (eU _ _) hl;refine uq (ρ:=ρ) rfl ?_;unfold xS;refine(tE (ρ':=ρ) ((t8 (uE (xV thD thD (λu=>!decide (u.n=t.n)) P (ρ1:=[.im (TD P),.im (thD t),.un]) rfl (by omega) λu _=>⟨[.im (thD u),.im (thD t)],[.im (thD u),.im (thD t)],rfl,uR (tQ (uD rfl (zi u)) (uD rfl (zi t)) (A8 true u.n t.n)),λ_=>⟨_,rfl,rfl⟩,λ_=>rfl⟩))).trans rfl)).trans ?_;have e:c1 Fj (cL (ue 1 [1] (iL av) (gN 0) uS (tJ Bb (tD (c1 (uh vS "words") ab) (tD (c1 (uh vS "words") ao) tY))))) ρ=some (.bl false,ρ):=
  QQ thD O rfl (by omega) λu hu=>⟨[.im (thD u),.im (thD t)],[.im (thD u),.im (thD t)],rfl,tK (tG (uD rfl (IE u)) (tG (uD rfl (IE t)) rfl)) (Lq t u ht (hw u (bL.mp hu).1) (by simpa using (bL.mp hu).2)),rfl⟩
 refine ug ?_;unfold HP;rw[e];rfl
theorem F2(T:List Th)(hl:T.length<=900)(hw:∀t∈T,vX t):vC [TD T]=some .non:=by let P:=T.filter λt=>t.k.pl;have hP:P.length<=900:=bM (eU _ _) hl;have hwP:∀t∈P,vX t:=λt ht=>hw t (bL.mp ht).1;let ρ:bb:=[.im (TD T),.im (TD P)];refine zS (ρ:=ρ) rfl ?_;unfold vB;refine(tE (vF (ρ1:=[.im (TD T),.un]) (yK thD T rfl (by omega) λt ht=>⟨[.im (thD t)],[.im (thD t)],rfl,tK (tG (uD rfl (IE t)) rfl) (IK (hw t ht)),rfl⟩))).trans ?_;refine(tE (ρ':=ρ) ((t8 (uE (tK rfl (zj T (by omega))))).trans rfl)).trans ?_;exact vF (ρ1:=ρ) (yK thD P rfl (by omega) λt ht=>⟨[.im (thD t),.im (TD P)],[.im (thD t),.im (TD P)],rfl,tK rfl (Gr P hP hwP t (hwP t ht)),rfl⟩)
def Bw(n f:Str)(j:L4.D):L4.D:=.obj 2 ["name", "others", "form", "joining"] [.str n,.tup [],.str f,j]
def uO:List L4.D:=[Bw "take" "one" .non,Bw "drop" "one" .non,Bw "open" "one" .non,Bw "shut" "one" .non,Bw "light" "one" .non,Bw "douse" "one" .non,Bw "put" "two" (.str "in"),Bw "go" "way" .non,Bw "wait" "alone" .non]
theorem Kg:vE []=some uO:=by kernel_rfl
def vN:aD:=["take", "drop", "open", "shut", "light", "douse", "put", "go", "wait"]
def vI:aD:=["take", "drop", "open", "shut", "light", "douse", "put", "go", "wait", "in", "north", "up"]
theorem Uk(h:e ρ=some (.bl b,ρ1)):HP e ρ=some (.bl !b,ρ1):=by unfold HP;rw[h]
theorem QV{l m:aD}(hd:d=.lst (m.map D.str)\/d=.tup (m.map D.str))(hl:l.length<=900)(h:∀x∈l,x∉m):xN [.lst (l.map D.str),d]=some (.bl true):=by
 let ρ:bb:=[.im (.lst (l.map D.str)),.im d];refine uq (ρ:=ρ) rfl ?_;have e:c1 Fj (cL (ue 1 [1] (iL ab) (gN 0) uS (c2 (dIn false) ab ao))) ρ=some (.bl false,ρ):=QQ D.str l rfl (by omega) λx hx=>⟨[.im (.str x),.im d],[.im (.str x),.im d],rfl,tQ rfl rfl (by
  rcases hd with rfl|rfl
  ·rw[AF];simp[h x hx]
  ·rw[Fs];simp[h x hx]),rfl⟩
 exact ug (Uk e)
theorem N4(h:vX t):t.w.length<=3:=by rcases wX h with e|e|e<;>rw[e]<;>simp
theorem F3:∀(P:List Th) (acc:aD) (s:Sl),acc.length+3 * P.length<=900->(∀t∈P,vX t)->
  ∃s',forL (gN 4) (uu (DH 3 (c1 (uh vS "words") aF))) (P.map thD) [a,b,c,.ls (acc.map D.str),s,s5,s6,s7]=some (.nx [a,b,c,.ls ((acc++P.flatMap Th.w).map D.str),s',s5,s6,s7])
 |[],acc,s,_,_=>⟨s,by simp;rfl⟩
 |t::P,acc,s,hl,hw=>by
  have h3:=N4 (hw t bg);rw[aM]at hl;obtain⟨s',e⟩:=F3 P (acc++t.w) (.im (thD t)) (by rw[aB];omega) λu hu=>hw u (bu _ hu);refine⟨s',?_⟩;rw[aE];unfold forL;have e1:uu (DH 3 (c1 (uh vS "words") aF)) [a,b,c,.ls (acc.map D.str),.im (thD t),s5,s6,s7]=some (.nx [a,b,c,.ls ((acc++t.w).map D.str),.im (thD t),s5,s6,s7]):=by refine(u7 (d:=.non) (ρ':=[a,b,c,.ls ((acc++t.w).map D.str),.im (thD t),s5,s6,s7]) ?_);unfold DH;show (if (acc.map D.str).length+(t.w.map D.str).length<=1000 then some (D.non,[a,b,c,.ls (acc.map D.str++t.w.map D.str),.im (thD t),s5,s6,s7])else none)=_;rw[ah (by rw[af,af];omega),aX]
  rw[show gN 4 (thD t) [a,b,c,.ls (acc.map D.str),s,s5,s6,s7]=some [a,b,c,.ls (acc.map D.str),.im (thD t),s5,s6,s7] from rfl];simp only[e1];rw[e,kZ,bD]
def wyD(r0 r1:Str):List L4.D:=[.tup [.str r0,.str "north", .str r1,.non],.tup [.str r0,.str "up", .str r0,.non]]
def wyT(T:List Th):List L4.D:=wyD ((rmN T).headD "") ((rmN T).getLastD "")
theorem YR{T:List Th}(h:1<=(T.filter λt=>decide (t.k=.room)).length):(rmN T).headD "" ∈ rmN T:=by
 have:1<=(rmN T).length:=by unfold rmN;rw[af];exact h
 cases e:rmN T with
 |nil=>rw[e]at this;cases this
 |cons a r=>exact bg ..
theorem YS{T:List Th}(h:1<=(T.filter λt=>decide (t.k=.room)).length):(rmN T).getLastD "" ∈ rmN T:=by
 have:1<=(rmN T).length:=by unfold rmN;rw[af];exact h
 have hn:rmN T≠[]:=λe=>by rw[e]at this;cases this
 rw[m7,List.getLast?_eq_some_getLast hn];exact List.getLast_mem hn
theorem Lr(r0:Str):uW [.lst [.tup [.str r0,.str "north"],.tup [.str r0,.str "up"]]]=some (.bl true):=by refine uq (ρ:=[.im (.lst [.tup [.str r0,.str "north"],.tup [.str r0,.str "up"]])]) rfl (ug (tQ (x:=.int 2) (y:=.int 2) (uD rfl ?_) rfl rfl));show (if ([[r0,"north"],[r0,"up"]]:List aD).Nodup/\2<=8 then some (D.int 2)else none)=_;rw[ah ⟨by simp;decide,by decide⟩]
theorem N5{a b x:Str}{R:aD}{mn:List L4.D}(h0:a∈R)(h1:b∈R)(hx:wW [.str x]=some (.bl true)):FU [.tup [.str a,.str x,.str b,.non],.lst (R.map D.str),.lst mn]=some (.bl true):=by let ρ:bb:=[.im (.tup [.str a,.str x,.str b,.non]),.im (.lst (R.map D.str)),.im (.lst mn),.im (.bl true)];refine uq (ρ:=ρ) rfl ?_;unfold FR;refine(tE (ρ':=[.im (.tup [.str a,.str x,.str b,.non]),.im (.lst (R.map D.str)),.im (.lst mn),.un]) rfl).trans ?_;refine(tE (ρ':=ρ) rfl).trans ?_;exact ug ((vM (tK (ρ1:=ρ) rfl (zB h0))).trans ((vM (tK (ρ1:=ρ) rfl hx)).trans ((vM (tK (ρ1:=ρ) rfl (zB h1))).trans rfl)))
theorem Gs(R:aD)(mn:List L4.D)(h0:r0∈R)(h1:r1∈R):yc [.lst (wyD r0 r1),.lst (R.map D.str),.lst mn]=some .non:=by
 let ρ0:bb:=[.im (.lst (wyD r0 r1)),.im (.lst (R.map D.str)),.im (.lst mn),.un];let ρ:bb:=[.im (.lst (wyD r0 r1)),.im (.lst (R.map D.str)),.im (.lst mn),.im (.bl true)];refine zS (ρ:=ρ) rfl ?_;unfold zZ;rw[tE (show _=some (Out.nx ρ) from(t8 ((vM (ρ1:=ρ0) rfl).trans (yK (λz:Str×Str=>D.tup [.str r0,.str z.1,.str z.2,.non]) [("north", r1),("up", r0)] (ρ1:=ρ0) rfl (bP rfl) λz hz=>
  ⟨[.im (.tup [.str r0,.str z.1,.str z.2,.non]),.im (.lst (R.map D.str)),.im (.lst mn)],[.im (.tup [.str r0,.str z.1,.str z.2,.non]),.im (.lst (R.map D.str)),.im (.lst mn)],rfl,tK rfl (N5 h0 (by
   rcases aN.mp hz with rfl|hz
   ·exact h1
   ·rw[aV.mp hz];exact h0) (by
   rcases aN.mp hz with rfl|hz
   ·kernel_rfl
   ·rw[aV.mp hz];kernel_rfl)),rfl⟩))).trans rfl)]
 refine(tE (vF (ρ1:=ρ) rfl)).trans ?_;exact vF (ρ1:=ρ) (tK (ds:=[.lst [.tup [.str r0,.str "north"],.tup [.str r0,.str "up"]]]) (tG (by kernel_rfl) rfl) (Lr r0))
theorem F4(T:List Th)(hl:T.length<=200)(hw:∀t∈T,vX t):vK [TD T,.lst (wyT T),.lst uO]=some .non:=by
 let P:=T.filter λt=>t.k.pl;have hP:P.length<=200:=bM (eU _ _) hl;have hwP:∀t∈P,vX t:=λt ht=>hw t (bL.mp ht).1;obtain⟨s',e1⟩:=F3 (a:=.im (TD T)) (b:=.im (.lst (wyT T))) (c:=.im (.lst uO)) (s5:=.un) (s6:=.un) (s7:=.un) P [] .un (by simp;omega) hwP;let O:=P.flatMap Th.w;let m1:Sl:=.ls (O.map D.str);let z:Sl:=.im (Bw "wait" "alone" .non);refine zS (ρ:=[.im (TD T),.im (.lst (wyT T)),.im (.lst uO),.im (.lst (O.map D.str)),s',.im (.lst (vN.map D.str)),z,.im (.lst [.str "in", .str "north", .str "up"])]) rfl ?_;unfold wU;refine(tE (ρ':=[.im (TD T),.im (.lst (wyT T)),.im (.lst uO),.ls [],.un,.un,.un,.un]) rfl).trans ?_;refine(tE (ρ':=[.im (TD T),.im (.lst (wyT T)),.im (.lst uO),m1,s',.un,.un,.un]) ((wK (ds:=P.map thD) (ρ1:=[.im (TD T),.im (.lst (wyT T)),.im (.lst uO),.ls [],.un,.un,.un,.un]) ?_).trans e1)).trans ?_
 ·unfold iL;rw[uE (tK (g:=wz) (ds:=[TD T]) (ρ1:=[.im (TD T),.im (.lst (wyT T)),.im (.lst uO),.ls [],.un,.un,.un,.un]) rfl (zj T (by omega)))]
 refine(tE (ρ':=[.im (TD T),.im (.lst (wyT T)),.im (.lst uO),m1,s',.ls [],.un,.un]) rfl).trans ?_;refine(tE (ρ':=[.im (TD T),.im (.lst (wyT T)),.im (.lst uO),m1,s',.ls (vN.map D.str),z,.un]) (by kernel_rfl)).trans ?_;refine(tE (ρ':=[.im (TD T),.im (.lst (wyT T)),.im (.lst uO),m1,s',.ls (vN.map D.str),z,.im (.lst [.str "in", .str "north", .str "up"])]) (by kernel_rfl)).trans ?_;refine(tE (vF (ρ1:=[.im (TD T),.im (.lst (wyT T)),.im (.lst uO),m1,s',.im (.lst (vN.map D.str)),z,.im (.lst [.str "in", .str "north", .str "up"])]) (by kernel_rfl))).trans ?_;have no:∀x∈vI,x∉O:=λx hx ho=>by
  obtain⟨t,ht,hxt⟩:=ly.mp ho;have hn:=(hwP t ht).1;rcases Ds (hwP t ht) hxt with rfl|rfl|rfl
  ·have sub:∀x∈vI,x∈(["red", "old", "take", "drop", "open", "shut", "light", "douse", "put", "go", "wait", "in", "north", "up", "the", "a", "undo", "restart"]:aD):=by decide
   exact QT hn (sub _ hx)
  ·exact aq hx (by decide)
  ·exact aq hx (by decide)
 have a1:=QV (l:=vI) (m:=O) (.inl rfl) (by decide) no;refine(tE (vF (ρ1:=[.im (TD T),.im (.lst (wyT T)),.im (.lst uO),.im (.lst (O.map D.str)),s',.im (.lst (vN.map D.str)),z,.im (.lst [.str "in", .str "north", .str "up"])]) (tK (tG (d:=.lst (vI.map D.str)) (ρ1:=[.im (TD T),.im (.lst (wyT T)),.im (.lst uO),m1,s',.im (.lst (vN.map D.str)),z,.im (.lst [.str "in", .str "north", .str "up"])]) (by kernel_rfl) (tG rfl rfl)) a1))).trans ?_;refine(tE (vF (ρ1:=[.im (TD T),.im (.lst (wyT T)),.im (.lst uO),.im (.lst (O.map D.str)),s',.im (.lst (vN.map D.str)),z,.im (.lst [.str "in", .str "north", .str "up"])]) (by kernel_rfl))).trans ?_;exact vF (by kernel_rfl)
structure Good(T:List Th)(M:List Mk)(dk:aD):Prop where
 len:T.length<=200
 r1:1<=(T.filter λt=>decide (t.k=.room)).length
 r5:(T.filter λt=>decide (t.k=.room)).length<=5
 y1:(T.filter λt=>decide (t.k=.you)).length=1
 p7:(T.filter λt=>t.k.pl).length<=7
 m4:M.length<=4
 mo:∀m∈M,m.ok
 nm:∀x∈T.map Th.n++M.map Mk.n,Nm x
 nd:(T.map Th.n++M.map Mk.n).Nodup
 st:∀t∈T,II T t
 rk:∃r,Lp T r
 wd:∀t∈T,vX t
 d0:dk.length<=5
 d1:dk.Nodup
 d2:∀x∈dk,x∈rmN T
theorem Good.ndT(g:Good T M dk):(T.map Th.n).Nodup:=(cA.mp g.nd).1
theorem Gu(T:List Th)(M:List Mk)(hl:T.length<=200)(hM:M.length<=4):∃l,yb [TD T,MD M]=some l:=by
 let ρ:bb:=[.im (TD T),.im (MD M)];refine⟨_,Dc (ρ:=ρ) rfl (wu (u4 (uE (xV thD (λt=>D.str t.n) (λt=>t.k.mk) T (ρ1:=ρ) rfl (by omega) λt _=>⟨[.im (thD t)],[.im (thD t)],rfl,uR (ve (xs:=[.str t.n,.tup (t.w.map D.str),.str t.k.s,oS t.s]) (ys:=[]) rfl rfl rfl rfl (MH t)),λ_=>⟨_,uD rfl (zi t),rfl⟩,λ_=>rfl⟩))
  (uE (Ar mkD (λt=>D.str t.n) M rfl (by omega) λt _=>⟨_,_,rfl,uD rfl (IG t),rfl⟩)) ?_))⟩
 have:=eU (λt:Th=>t.k.mk) T;rw[af,af];omega
theorem F5(g:Good T M dk):zd [TD T,MD M,.lst (dk.map D.str),.lst (wyT T),.lst [],.lst uO]=some .non:=by
 have hl:=g.len;have hdk:dk.length<=1000:=by have:=g.d0;omega
 obtain⟨r,hr⟩:=g.rk;obtain⟨mn,emn⟩:=Gu T M hl g.m4;let ρ0:bb:=[.im (TD T),.im (MD M),.im (.lst (dk.map D.str)),.im (.lst (wyT T)),.im (.lst []),.im (.lst uO),.un];let ρ:bb:=[.im (TD T),.im (MD M),.im (.lst (dk.map D.str)),.im (.lst (wyT T)),.im (.lst []),.im (.lst uO),.im (.lst ((rmN T).map D.str))];refine zS (ρ:=ρ) rfl ?_;unfold zc;refine(tE (u7 (ρ':=ρ0) (tK rfl (Et T (by omega) g.r1 g.r5 g.y1 g.p7)))).trans ?_;refine(tE (u7 (ρ':=ρ0) (tK rfl (FY M g.m4 g.mo)))).trans ?_;refine(tE (u7 (ρ':=ρ0) (tK rfl (F0 T M (by omega) (by have:=g.m4;omega) g.nm g.nd)))).trans ?_;refine(tE (u7 (ρ':=ρ0) (tK rfl (Eu T (by omega) g.ndT r hr g.st)))).trans ?_;refine(tE (u7 (ρ':=ρ0) (tK rfl (F2 T (by omega) g.wd)))).trans ?_;refine(tE (ρ':=ρ) ((t8 (uE (Kc T (by omega) rfl))).trans rfl)).trans ?_;refine(tE (u7 (ρ':=ρ) (tK rfl (Gq dk (rmN T) hdk g.d1 g.d2)))).trans ?_;have cw:yc [.lst (wyT T),.lst ((rmN T).map D.str),.lst mn]=some .non:=Gs (rmN T) mn (YR g.r1) (YS g.r1);refine(tE (u7 (ρ':=ρ) (tK (tG rfl (tG rfl (tG (uE (tK (g:=yb) (ds:=[TD T,MD M]) rfl emn)) rfl))) cw))).trans ?_;refine(tE (u7 (ρ':=ρ) (tK (g:=zb) (ds:=[.lst []]) (r:=.non) rfl (by kernel_rfl)))).trans ?_;exact u7 (ρ':=ρ) (tK (g:=vK) (ds:=[TD T,.lst (wyT T),.lst uO]) rfl (F4 T hl g.wd))
theorem Ls(T:List Th)(hl:T.length<=900)(nd:(T.map Th.n).Nodup):Dr [TD T]=some (.dic (nK T) (T.map thD)):=by
 obtain⟨s',e1⟩:=zC (g:=gN 2) (i:=1) (fk:=c1 (uh ui "name") av) (fv:=cV 2) thD Th.n thD (λks ds s=>[.im (TD T),.dk ks ds,s])
  (λt ks ds s=>⟨[.im (TD T),.dk ks ds,.im (thD t)],rfl,rfl,rfl,uD rfl (zi t),λks' ds'=>⟨_,rfl⟩⟩) T [] [] .un (by rw[bY];exact MI nd) (by simp;omega) rfl
 refine uq (ρ:=[.im (TD T),.im (.dic (nK T) (T.map thD)),s']) rfl ?_;unfold Dp;refine(tE (ρ':=[.im (TD T),.dk [] [],.un]) rfl).trans ?_;refine(tE ((wK rfl).trans e1)).trans ?_;rw[bY,bY];rfl
theorem Ul(m:Mk):uh yy "most" (mkD m)=some (.int m.mo):=rfl
theorem F6(T:List Th)(hl:T.length<=1000)(ns:aD)(rest:List L4.D)(k:Kd):vQ [.obj 14 ("kept_things" ::ns) (TD T::rest),.str k.s]=some (.lst ((T.filter λt=>decide (t.k=k)).map λt=>D.str t.n)):=by let ρ:bb:=[.im (.obj 14 ("kept_things" ::ns) (TD T::rest)),.im (.str k.s)];refine yx (ρ:=ρ) rfl ?_;exact wu (xV thD (λt=>D.str t.n) (λt=>decide (t.k=k)) T (ρ1:=ρ) rfl hl λt _=>⟨[.im (thD t),.im (.str k.s)],[.im (thD t),.im (.str k.s)],rfl,uR (tQ (uD rfl (A4 t)) rfl (CL t.k k)),λ_=>⟨_,uD rfl (zi t),rfl⟩,λ_=>rfl⟩)
def shD(T:List Th)(y:Str):List L4.D:=(we [.str y,.lst (wyT T)]).getD []
theorem aaO(T:List Th)(y:Str):we [.str y,.lst (wyT T)]=some (shD T y):=by kernel_rfl
def vwD:L4.D:=(vP [.lst uO]).getD .non
def rbD(T:List Th)(y:Str):L4.D:=(zz [.lst (shD T y)]).getD .non
def wNs:aD:=["kept_things", "kept_marks", "kept_dark", "kept_ways", "kept_verbs", "shared_verbs", "your_name", "things_by_name", "mosts_by_name", "verbs_by_word", "kept_rules", "shared_rules", "copied_rules", "rules_by_verb"]
def wDs(T:List Th)(M:List Mk)(dk:aD)(y:Str)(mo:L4.D):List L4.D:=[TD T,MD M,.lst (dk.map D.str),.lst (wyT T),.lst [],.lst uO,.str y,.dic (nK T) (T.map thD),mo,vwD,.lst [],.lst (shD T y),.lst [],rbD T y]
abbrev wR(T:List Th)(M:List Mk)(dk:aD)(ns:aD)(ds:List L4.D)(q:Sl):bb:=[.ob 14 ns ds,.im (TD T),.im (MD M),.im (.lst (dk.map D.str)),.im (.lst (wyT T)),.im (.lst []),.im (.lst []),q]
abbrev wL(T:List Th)(M:List Mk)(dk:aD)(ns:aD)(ds:List L4.D)(q:Sl):bb:=[.im (.obj 14 ns ds),.im (TD T),.im (MD M),.im (.lst (dk.map D.str)),.im (.lst (wyT T)),.im (.lst []),.im (.lst []),BF q]
section
variable{T:List Th}{M:List Mk}{dk:aD}
theorem w_fl(h1:e (wR T M dk ns ds q)=some (d,wR T M dk ns ds q))(h2:ns.contains nm=false)(h3:ds.length=ns.length)(h4:ns.length<900):uz 14 0 nm e (wR T M dk ns ds q)=some (.nx (wR T M dk (ns++[nm]) (ds++[d]) q)):=by unfold uz;rw[h1];show (if 14=14 then if ns.contains nm=true then none else if ds.length=ns.length then if ns.length<900 then some (Out.nx (wR T M dk (ns++[nm]) (ds++[d]) q))else none else none else none)=_;rw[ah rfl,h2,ai bj,ah h3,ah h4]
theorem QW(h1:e (wL T M dk ns ds q)=some (d,r))(h2:noC 16 14 d=true):yT 16 e (wR T M dk ns ds q)=some (d,wR T M dk ns ds q):=by
 unfold yT;show (match e (wL T M dk ns ds q)with
  |some (d,_)=>if (decide (14<16)&&noC 16 14 d)=true then some (d,wR T M dk ns ds q)else none
  |none=>none)=_
 rw[h1];simp only[h2];rfl
abbrev d6(T:List Th)(M:List Mk)(dk:aD):List L4.D:=[TD T,MD M,.lst (dk.map D.str),.lst (wyT T),.lst [],.lst uO]
abbrev n6:aD:=["kept_things", "kept_marks", "kept_dark", "kept_ways", "kept_verbs", "shared_verbs"]
theorem aaQ(y:Str)(hl:T.length<=1000)(hy:(T.filter λt=>decide (t.k=.you)).map Th.n=[y]):yT 16 (c2 dIx (uJ u0 "of_kind" ab (tD (cC (.str "you")) tY)) bE) (wR T M dk n6 (d6 T M dk) .un)=some (.str y,wR T M dk n6 (d6 T M dk) .un):=by
 refine QW (r:=wL T M dk n6 (d6 T M dk) .un) (tQ (ve (xs:=d6 T M dk) (ys:=[.str Kd.you.s]) (hh:=vQ) rfl rfl rfl rfl (F6 T hl _ _ .you)) rfl ?_) rfl;have:((T.filter λt=>decide (t.k=.you)).map λt=>D.str t.n)=[.str y]:=by rw[show (λt:Th=>D.str t.n)=D.str∘Th.n from rfl,<- aU,hy];rfl
 rw[this];rfl
end
section
variable{T:List Th}{M:List Mk}{dk:aD}
theorem aaR:vP [.lst uO]=some vwD:=by kernel_rfl
theorem aaS(y:Str):zz [.lst (shD T y)]=some (rbD T y):=by kernel_rfl
theorem YT:noC 16 14 vwD=true:=by kernel_rfl
theorem YU(y:Str):noC 16 14 (rbD T y)=true:=by kernel_rfl
theorem YV(y:Str):noC 16 14 (.lst (shD T y))=true:=by kernel_rfl
theorem YW(y:Str):(shD T y).length<=900:=bP (by kernel_rfl)
abbrev n7:aD:=["kept_things", "kept_marks", "kept_dark", "kept_ways", "kept_verbs", "shared_verbs", "your_name"]
abbrev d7(T:List Th)(M:List Mk)(dk:aD)(y:Str):List L4.D:=[TD T,MD M,.lst (dk.map D.str),.lst (wyT T),.lst [],.lst uO,.str y]
theorem aaT(ns:aD)(ds:List L4.D):xg [.obj 14 (n6++ns) (d6 T M dk++ds)]=some (.lst uO):=by kernel_rfl
theorem Um(ns:aD)(ds:List L4.D)(q:Sl)(hc:(n6++ns).contains "all_verbs" = false):yT 16 (tJ vP (tD (uJ wI "all_verbs" ab tY) tY)) (wR T M dk (n6++ns) (d6 T M dk++ds) q)=some (vwD,wR T M dk (n6++ns) (d6 T M dk++ds) q):=
 QW (r:=wL T M dk (n6++ns) (d6 T M dk++ds) q) (tK (tG (ve (xs:=d6 T M dk++ds) (ys:=[]) (hh:=xg) rfl rfl hc rfl (aaT ns ds)) rfl) aaR) YT
theorem QX(y:Str)(ns:aD)(ds:List L4.D)(q:Sl):yT 16 (cL (uF we (tD (c1 (uh xE "your_name") ab) (tD aF tY)))) (wR T M dk (n7++ns) (d7 T M dk y++ds) q)=some (.lst (shD T y),wR T M dk (n7++ns) (d7 T M dk y++ds) q):=
 QW (r:=wL T M dk (n7++ns) (d7 T M dk y++ds) q) (uE (tK (ds:=[.str y,.lst (wyT T)]) rfl (aaO T y))) (YV (T:=T) y)
abbrev n13:aD:=["kept_things", "kept_marks", "kept_dark", "kept_ways", "kept_verbs", "shared_verbs", "your_name", "things_by_name", "mosts_by_name", "verbs_by_word", "kept_rules", "shared_rules", "copied_rules"]
theorem w_rb(y:Str)(a b c d:L4.D)(q:Sl):yT 16 (tJ zz (tD (cL (uU (c1 (uh xB "copied_rules") ab) (c1 (uh xC "shared_rules") ab))) tY)) (wR T M dk n13 [TD T,MD M,.lst (dk.map D.str),.lst (wyT T),.lst [],.lst uO,.str y,a,b,c,d,.lst (shD T y),.lst []] q)=some (rbD T y,wR T M dk n13 [TD T,MD M,.lst (dk.map D.str),.lst (wyT T),.lst [],.lst uO,.str y,a,b,c,d,.lst (shD T y),.lst []] q):=
 QW (r:=wL T M dk n13 [TD T,MD M,.lst (dk.map D.str),.lst (wyT T),.lst [],.lst uO,.str y,a,b,c,d,.lst (shD T y),.lst []] q) (tK (tG (uE (u4 (xs:=[]) (ys:=shD T y) rfl rfl (by have:=YW (T:=T) y;simp;omega))) rfl) (aaS (T:=T) y)) (YU (T:=T) y)
theorem IM(h1:e (wR T M dk ns ds q)=some (d,wR T M dk ns ds q))(h2:ns.contains nm=false)(h3:ds.length=ns.length)(h4:ns.length<900)(h:g (wR T M dk (ns++[nm]) (ds++[d]) q)=r):tI (uz 14 0 nm e) g (wR T M dk ns ds q)=r:=(tE (w_fl h1 h2 h3 h4)).trans h
theorem QY(g:Good T M dk)(y:Str)(hy:(T.filter λt=>decide (t.k=.you)).map Th.n=[y])(emo:vO [TD T,MD M]=some mo):xi [TD T,MD M,.lst (dk.map D.str),.lst (wyT T),.lst [],.lst []]=some (wNs,wDs T M dk y mo):=by
 have hl:=g.len;have e:xh (wR T M dk [] [] .un)=some (.nx (wR T M dk wNs (wDs T M dk y mo) (.im (.bl true)))):=by
  unfold xh;refine(tE (u7 (ρ':=wR T M dk [] [] .un) (tK (tG rfl (tG rfl (tG rfl (tG rfl (tG rfl (tG (uE (tK (g:=vE) (ds:=[]) rfl Kg)) rfl)))))) (F5 g)))).trans ?_
  iterate 5 refine IM rfl rfl rfl (by decide) ?_
  refine IM (uE (tK (g:=vE) (ds:=[]) rfl Kg)) rfl rfl (by decide) (IM (aaQ y (by omega) hy) rfl rfl (by decide) (IM (tK (ds:=[TD T]) rfl (Ls T (by omega) g.ndT)) rfl rfl (by decide) (IM (tK (ds:=[TD T,MD M]) rfl emo) rfl rfl (by decide)
   (IM (Um ["your_name", "things_by_name", "mosts_by_name"] [.str y,.dic (nK T) (T.map thD),mo] .un rfl) rfl rfl (by decide) ?_))))
  refine(tE ((t8 (i:=7) (QW (d:=.bl true) (T:=T) (M:=M) (dk:=dk) rfl rfl)).trans rfl)).trans ((tE (vF (ρ1:=_) rfl)).trans ?_);refine IM rfl rfl rfl (by decide) (IM (QX y ["things_by_name", "mosts_by_name", "verbs_by_word", "kept_rules"] [.dic (nK T) (T.map thD),mo,vwD,.lst []] (.im (.bl true))) rfl rfl (by decide) (IM rfl rfl rfl (by decide) ?_));exact w_fl (w_rb y _ _ _ _ (.im (.bl true))) rfl rfl (by decide)
 unfold xi fnI;rw[ah (show [TD T,MD M,D.lst (dk.map D.str),D.lst (wyT T),D.lst [],D.lst []].length=6 from rfl)];rw[show xh (stI 14 8 [TD T,MD M,.lst (dk.map D.str),.lst (wyT T),.lst [],.lst []])=some (.nx (wR T M dk wNs (wDs T M dk y mo) (.im (.bl true)))) from e];rfl
end
def IL(ds:List L4.D):Prop:=∃xs:List Int,ds=xs.map D.int
theorem IL.nil:IL []:=⟨[],rfl⟩
theorem IL.snoc{ds:List L4.D}(h:IL ds)(i:Int):IL (ds++[.int i]):=by obtain⟨xs,rfl⟩:=h;exact⟨xs++[i],by rw[aX];rfl⟩
theorem IL.sub(h:IL ds)(hs:∀d∈es,d∈ds):IL es:=by
 induction es with
 |nil=>exact IL.nil
 |cons d es ih=>obtain⟨ys,rfl⟩:=ih λd hd=>hs d (bu _ hd);obtain⟨xs,rfl⟩:=h;obtain⟨i,_,rfl⟩:=aP.mp (hs d bg);exact⟨i::ys,rfl⟩
theorem Uo{lo:Option Int}:∀d∈cutD ds lo hi,d∈ds:=λd hd=>by unfold cutD at hd;exact jC (nX hd)
def MK:FS:=(tI (uu (zp 2 (c2 wa az (c2 DC gq c5))))
 (um 3 (c2 Bn az (c2 DC gq c5))))
def QZ:FT:=DE (xI (cT (c2 Fb az bE)) (cT (c2 Bh (c1 vw av) ao)))
theorem Ej(c:Int)(m:Nat)(hm:m<=110):∀(n:Nat) (ds:List L4.D) (r:Int),IL ds->ds.length<=m->m - ds.length<n->∃ds' r',IL ds'/\ds'.length<=m/\
  whL QZ MK n [.im (.int c),.im (.int m),.ls ds,.im (.int r),.un,.un,.un]=some (.nx [.im (.int c),.im (.int m),.ls ds',.im (.int r'),.un,.un,.un])
 |0,ds,r,_,_,h=>aq h (px _)
 |n+1,ds,r,hi,hl,hn=>by
  have ht:QZ [.im (.int c),.im (.int m),.ls ds,.im (.int r),.un,.un,.un]=some (decide (0<r)&&decide (ds.length<m),[.im (.int c),.im (.int m),.ls ds,.im (.int r),.un,.un,.un]):=by
   refine Ma (ρ1:=[.im (.int c),.im (.int m),.im (.lst ds),.im (.int r),.un,.un,.un]) ?_;show xI _ _ [.im (.int c),.im (.int m),.im (.lst ds),.im (.int r),.un,.un,.un]=_;unfold xI;rw[show cT (c2 Fb az bE) [.im (.int c),.im (.int m),.im (.lst ds),.im (.int r),.un,.un,.un]=some (decide (0<r),[.im (.int c),.im (.int m),.im (.lst ds),.im (.int r),.un,.un,.un]) from rfl];cases decide (0<r)with
   |false=>rfl
   |true=>show cT (c2 Bh (c1 vw av) ao) _=some (decide (ds.length<m),_);rw[show cT (c2 Bh (c1 vw av) ao) [.im (.int c),.im (.int m),.im (.lst ds),.im (.int r),.un,.un,.un]=some (decide ((ds.length:Int)<m),[.im (.int c),.im (.int m),.im (.lst ds),.im (.int r),.un,.un,.un]) from rfl];simp only[Int.ofNat_lt]
  unfold whL;rw[ht];cases hq:(decide (0<r)&&decide (ds.length<m))with
  |false=>exact⟨ds,r,hi,hl,rfl⟩
  |true=>
   rw[aZ,bR,bR]at hq;have e1:MK [.im (.int c),.im (.int m),.ls ds,.im (.int r),.un,.un,.un]=some (.nx [.im (.int c),.im (.int m),.ls (ds++[.int (r % 1000000)]),.im (.int (r / 1000000)),.un,.un,.un]):=by unfold MK;refine(tE (ρ':=[.im (.int c),.im (.int m),.ls (ds++[.int (r % 1000000)]),.im (.int r),.un,.un,.un]) ((u7 (Da (es0:=ds) (es:=ds) (ρ1:=[.im (.int c),.im (.int m),.ls ds,.im (.int r),.un,.un,.un]) rfl (tQ rfl rfl (xZ (by decide))) rfl (by omega))).trans rfl)).trans ?_;exact(t8 (tQ rfl rfl (div_pos (by decide) (by decide)))).trans rfl
   simp only[e1];exact Ej c m hm n _ _ (hi.snoc _) (by rw[aB,bh];omega) (by rw[aB,bh];omega)
def fBody:FS:=(tI (um 4 (c2 wa (c2 xK (c2 uP (c2 uP aF (c2 xK (cC (.int 7919)) bB)) aL) kj) fI))
 (tI (um 6 (c2 wa (c2 xK aF (c2 uP (c2 Bn aF (cC (.int 1009))) (cC (.int 69621)))) fI))
 (uu (zp 2 (c2 wa (c2 xK bS (c2 uP (c2 Bn bS (cC (.int 2003))) (cC (.int 40692)))) (cC (.int 2147483399)))))))
theorem modS(a:Int):0<=a % 2147483647/\a % 2147483647<2147483647:=⟨lE _ (by decide),kP _ (by decide)⟩
theorem Ho(a b r:Sl):∀(l:List Int) (ds:List L4.D) (x:Int) (s5 s6:Sl),IL ds->ds.length+l.length<=900->∃ds' x' t5 t6,IL ds'/\
  forL (gN 5) fBody (l.map D.int) [a,b,.ls ds,r,.im (.int x),s5,s6]=some (.nx [a,b,.ls ds',r,.im (.int x'),t5,t6])
 |[],ds,x,s5,s6,hi,_=>⟨ds,x,s5,s6,hi,rfl⟩
 |k::l,ds,x,s5,s6,hi,hl=>by
  rw[aM]at hl;let y:=(x+7919 * k+1) * 48271 % 2147483647;let z:=y * (y / 1009+69621) % 2147483647;let v:=z * (z / 2003+40692) % 2147483399;have hy:=modS ((x+7919 * k+1) * 48271);have hz:=modS (y * (y / 1009+69621));have e1:fBody [a,b,.ls ds,r,.im (.int x),.im (.int k),s6]=some (.nx [a,b,.ls (ds++[.int v]),r,.im (.int y),.im (.int k),.im (.int z)]):=by unfold fBody;refine(tE (ρ':=[a,b,.ls ds,r,.im (.int y),.im (.int k),s6]) ((t8 (tQ (tQ (tQ (tQ rfl (tQ rfl rfl (yk (.inl (by decide)))) rfl) rfl rfl) rfl (yk (.inr (by decide)))) rfl (xZ (by decide)))).trans rfl)).trans ?_;refine(tE (ρ':=[a,b,.ls ds,r,.im (.int y),.im (.int k),.im (.int z)]) ((t8 (tQ (tQ rfl (tQ (tQ rfl rfl (div_pos (by decide) (by decide))) rfl rfl) (yk (.inl (JF hy.1 hy.2)))) rfl (xZ (by decide)))).trans rfl)).trans ?_;exact(u7 (Da (es0:=ds) (es:=ds) (ρ1:=[a,b,.ls ds,r,.im (.int y),.im (.int k),.im (.int z)]) rfl (tQ (tQ rfl (tQ (tQ rfl rfl (div_pos (by decide) (by decide))) rfl rfl) (yk (.inl (JF hz.1 hz.2)))) rfl (xZ (by decide))) rfl (by omega))).trans rfl
  obtain⟨ds',x',t5,t6,h1,h2⟩:=Ho a b r l (ds++[.int v]) y (.im (.int k)) (.im (.int z)) (hi.snoc _) (by rw[aB,bh];omega);refine⟨ds',x',t5,t6,h1,?_⟩;rw[aE];unfold forL;rw[show gN 5 (.int k) [a,b,.ls ds,r,.im (.int x),s5,s6]=some [a,b,.ls ds,r,.im (.int x),.im (.int k),s6] from rfl];simp only[e1];exact h2
theorem Kh(c:Int)(m:Nat)(hm:m<=110):∃ds,IL ds/\xl [.int c,.int m]=some ds:=by
 have fin:∀r0:Int,∃ds,IL ds/\∃ρ,tI (whL QZ MK 200) (tI (um 4 (c2 wa (c2 xK (c2 uP (c2 wa ab fI) aL) kj) fI)) (tI (yu (iR1 ao) (gN 5) fBody) (uT (y4 (cFz 2) oNo (oAt ao))))) [.im (.int c),.im (.int m),.ls [],.im (.int r0),.un,.un,.un]=some (.rn ds ρ):=λr0=>by obtain⟨ds,r,h1,h2,h3⟩:=Ej c m hm 200 [] r0 IL.nil (bA _) (by simp;omega);let x:=(c % 2147483647+1) * 48271 % 2147483647;obtain⟨ds',x',t5,t6,h4,h5⟩:=Ho (.im (.int c)) (.im (.int m)) (.im (.int r)) ((aQ m).map λ(i:Nat)=>(0:Int)+(i:Int)) ds x .un .un h1 (by rw[af,cI];omega);refine⟨cutD ds' none (some m),h4.sub Uo,[.im (.int c),.im (.int m),.im (.lst ds'),.im (.int r),.im (.int x'),t5,t6],?_⟩;refine(tE h3).trans ?_;refine(tE (ρ':=[.im (.int c),.im (.int m),.ls ds,.im (.int r),.im (.int x),.un,.un]) ((t8 (tQ (tQ (tQ (tQ rfl rfl (xZ (by decide))) rfl rfl) rfl (yk (.inr (by decide)))) rfl (xZ (by decide)))).trans rfl)).trans ?_;refine(tE ((wK (ds:=((aQ m).map λ(i:Nat)=>(0:Int)+(i:Int)).map D.int) (ρ1:=[.im (.int c),.im (.int m),.ls ds,.im (.int r),.im (.int x),.un,.un]) ?_).trans h5)).trans rfl;unfold iR1;show (if -1000000<=(m:Int)/\(m:Int)<=1000000 then some (E8 0 (m:Int).toNat,_)else none)=_;rw[ah (by omega),iK];unfold E8;rw[aU];rfl
 by_cases hc:(1000000000000000000:Int)<=c
 ·obtain⟨ds,h1,ρ,h2⟩:=fin (c - 1000000000000000000);refine⟨ds,h1,Dc (ρ:=ρ) rfl ?_⟩;refine(tE (ρ':=[.im (.int c),.im (.int m),.ls [],.un,.un,.un,.un]) rfl).trans ((tE (ρ':=[.im (.int c),.im (.int m),.ls [],.im (.int 0),.un,.un,.un]) rfl).trans ((tE (ρ':=[.im (.int c),.im (.int m),.ls [],.im (.int (c - 1000000000000000000)),.un,.un,.un]) ((ux (ρ':=[.im (.int c),.im (.int m),.ls [],.im (.int 0),.un,.un,.un]) ?_).trans rfl)).trans h2));refine uR (tQ (y:=.int 1000000000000000000) rfl rfl ?_);show some (D.bl (decide _))=_;rw[aY hc]
 ·obtain⟨ds,h1,ρ,h2⟩:=fin 0;refine⟨ds,h1,Dc (ρ:=ρ) rfl ?_⟩;refine(tE (ρ':=[.im (.int c),.im (.int m),.ls [],.un,.un,.un,.un]) rfl).trans ((tE (ρ':=[.im (.int c),.im (.int m),.ls [],.im (.int 0),.un,.un,.un]) rfl).trans ((tE (ρ':=[.im (.int c),.im (.int m),.ls [],.im (.int 0),.un,.un,.un]) ((ur (ρ':=[.im (.int c),.im (.int m),.ls [],.im (.int 0),.un,.un,.un]) ?_).trans rfl)).trans h2));refine uR (tQ (y:=.int 1000000000000000000) rfl rfl ?_);show some (D.bl (decide _))=_;rw[aT hc]
theorem Hr:∀xs:List Int,BE (xs.map D.int)=some (xs.map L3.Dq.int)
 |[]=>rfl
 |x::xs=>by rw[aE];unfold BE;rw[Hr xs];rfl
theorem Ki(x:Int)(xs:List Int):dEq false (.lst ((x::xs).map D.int)) (.lst [])=some (.bl false):=by
 have e0:Gi false (.lst ((x::xs).map D.int)) (.lst [])=none:=rfl;have e1:toD (.lst ((x::xs).map D.int))=some (.lst ((x::xs).map L3.Dq.int)):=by unfold toD;rw[Hr]
 have e2:∀ys:List Int,vn (ys.map L3.Dq.int)=0:=λys=>by
  induction ys with
  |nil=>rfl
  |cons y ys ih=>rw[aE];unfold vn;rw[ih];unfold dpt;rfl
 have e3:dpt (.lst ((x::xs).map L3.Dq.int))=1:=by rw[dpt,e2]
 unfold dEq;rw[e0];show JB false _ _=_;unfold JB;rw[e1,show toD (.lst [])=some (.lst []) from rfl];show (if Jn (.lst ((x::xs).map L3.Dq.int)) (.lst [])&&decide (dpt (.lst ((x::xs).map L3.Dq.int))<=20)&&decide (dpt (.lst [])<=20)then some (D.bl (eqD (.lst ((x::xs).map L3.Dq.int)) (.lst [])))else none)=_;rw[e3];rfl
theorem vY(h:IL es)(n:Int)(hn:0<n):∃r es',IL es'/\0<=r/\r<n/\tH es [.int n]=some (.int r,es'):=by
 obtain⟨xs,rfl⟩:=h;cases xs with
 |nil=>exact⟨0,[],IL.nil,qz _,hn,rfl⟩
 |cons x xs=>refine⟨x % n,xs.map D.int,⟨xs,rfl⟩,lE _ (by omega),kP _ hn,?_⟩;refine WD (ρ:=[.pm (xs.map D.int),.im (.int n)]) rfl ?_ rfl;refine(tE (ρ':=[.pm ((x::xs).map D.int),.im (.int n)]) ((ur (ρ':=[.pm ((x::xs).map D.int),.im (.int n)]) (Ma (ρ1:=[.im (.lst ((x::xs).map D.int)),.im (.int n)]) (uR (tQ (x:=.lst ((x::xs).map D.int)) (y:=.lst []) rfl rfl (Ki x xs))))).trans rfl)).trans ?_;exact ug (tQ (x:=.int x) (ρ1:=[.pm (xs.map D.int),.im (.int n)]) rfl rfl (xZ hn))
def lets:Str:="bcdefghijklmnopqrstuvwxyz"
theorem YX(i:Nat)(h:i<25):dIx (.str lets) (.int i)=some (.str ⟨#[98+i]⟩):=by
 have q:((aQ 25).all λi=>match dIx (.str lets) (.int i)with|some (.str x)=>decide (x=⟨#[98+i]⟩)|_=>false)=true:=by kernel_rfl
 have:=bH.mp q i (bI.mpr h);revert this;split
 ·rename_i x e;intro z;rw[e,bK z]
 ·intro z;cases z
abbrev gm:=(tD (cC (.int 8)) tY)
def nElt:FE:=(c2 JH (c2 dIx ao (c2 wa (c2 uP az (c2 xK dY ab)) kl)) (c2 uP aL (uG tH 2 gm)))
theorem Up(h:IL es)(s k:Nat):∃c es',c<8/\IL es'/\nElt [.im (.int k),.im (.str lets),.pm es,.im (.int s)]=some (.str (nmS ((s+7 * k) % 25) c),[.im (.int k),.im (.str lets),.pm es',.im (.int s)]):=by
 obtain⟨r,es',h1,h2,h3,h4⟩:=vY h 8 (by decide);obtain⟨c,rfl⟩:=c6 h2;refine⟨c,es',by omega,h1,?_⟩;have hm:(s+7 * k) % 25<25:=dQ _ (by decide);let ρ:bb:=[.im (.int k),.im (.str lets),.pm es,.im (.int s)];let ρ':bb:=[.im (.int k),.im (.str lets),.pm es',.im (.int s)];have e1:c2 dIx ao (c2 wa (c2 uP az (c2 xK dY ab)) kl) ρ=some (.str ⟨#[98+(s+7 * k) % 25]⟩,ρ):=by
  refine tQ (y:=.int (((s+7 * k) % 25:Nat):Int)) rfl (tQ (tQ rfl (tQ rfl rfl (yk (.inl (by decide)))) rfl) rfl ((xZ (by decide)).trans ?_)) (YX _ hm);have:((s:Int)+7 * k) % 25=(((s+7 * k) % 25:Nat):Int):=by omega
  rw[this]
 have e2:c2 uP aL (uG tH 2 gm) ρ=some (.int (1+(c:Int)),ρ'):=tQ rfl ((xb (es0:=es) (es:=es) (ρ1:=ρ) rfl rfl rfl h4).trans rfl) rfl;refine tQ e1 e2 ?_;show (if 0<=1+(c:Int)/\1+(c:Int)<=1000/\qB ⟨#[98+(s+7 * k) % 25]⟩<=100 then some (D.str (ja ⟨#[98+(s+7 * k) % 25]⟩ (1+(c:Int))))else none)=_;rw[ah ⟨by omega,by omega,by show 1<=100;decide⟩];rfl
theorem Kj(s:Nat):∀(l:List Nat) (es:List L4.D),IL es->∃cs es',cs.length=l.length/\(∀c∈cs,c<8)/\IL es'/\
  xq 1 [2,0,1] (gN 0) uS nElt (l.map λ(k:Nat)=>D.int k) [.pm es,.im (.int s),.im (.str lets)]=some (dH (λ(k c:Nat)=>D.str (nmS ((s+7 * k) % 25) c)) l cs,[.pm es',.im (.int s),.im (.str lets)])
 |[],es,h=>⟨[],es,rfl,λc hc=>(cn hc).elim,h,rfl⟩
 |k::l,es,h=>by
  obtain⟨c,es1,h1,h2,h3⟩:=Up h s k;obtain⟨cs,es',h4,h5,h6,h7⟩:=Kj s l es1 h2;refine⟨c::cs,es',by rw[aM,aM,h4],λx hx=>?_,h6,?_⟩
  ·rcases aN.mp hx with rfl|hx
   ·exact h1
   ·exact h5 x hx
  ·rw[aE];unfold xq;rw[show gN 0 (.int k) (BC 1 [2,0,1] [.pm es,.im (.int s),.im (.str lets)])=some [.im (.int k),.im (.str lets),.pm es,.im (.int s)] from rfl];simp only[uS,h3];rw[show wD [2,0,1] (([.im (.int k),.im (.str lets),.pm es1,.im (.int s)]:bb).drop 1) [.pm es,.im (.int s),.im (.str lets)]=some [.pm es1,.im (.int s),.im (.str lets)] from rfl];simp only[h7];rfl
theorem Q0(s:Nat)(hs:s<25):∀(l cs:List Nat),cs.length=l.length->(∀c∈cs,c<8)->(l.map λk=>(s+7 * k) % 25).Nodup->∃N:aD,N.length=l.length/\(∀x∈N,Nm x)/\N.Nodup/\(∀x∈N,∃k∈l,sg x=98+(s+7 * k) % 25)/\dH (λ(k c:Nat)=>D.str (nmS ((s+7 * k) % 25) c)) l cs=N.map D.str
 |[],[],_,_,_=>⟨[],rfl,λx h=>(cn h).elim,jQ,λx h=>(cn h).elim,rfl⟩
 |[],c::cs,h,_,_=>by cases h
 |k::l,[],h,_,_=>by cases h
 |k::l,c::cs,h,hc,nd=>by
  rw[aE,dq]at nd;obtain⟨N,h1,h2,h3,h4,h5⟩:=Q0 s hs l cs (by simpa using h) (λx hx=>hc x (bu _ hx)) nd.2;have hm:(s+7 * k) % 25<25:=dQ _ (by decide);have hsg:=aaN hm (hc c bg);refine⟨nmS ((s+7 * k) % 25) c::N,by rw[aM,aM,h1],λx hx=>?_,?_,λx hx=>?_,?_⟩
  ·rcases aN.mp hx with rfl|hx
   ·exact⟨_,_,hm,hc c bg,rfl⟩
   ·exact h2 x hx
  ·rw[dq];refine⟨λz=>?_,h3⟩;obtain⟨j,hj,e⟩:=h4 _ z;rw[hsg]at e;exact nd.1 (aP.mpr ⟨j,hj,by omega⟩)
  ·rcases aN.mp hx with rfl|hx
   ·exact⟨k,bg,hsg⟩
   ·obtain⟨j,hj,e⟩:=h4 x hx;exact⟨j,bu _ hj,e⟩
  ·rw[iC,h5];rfl
structure Nms(N:aD):Prop where
 len:N.length=17
 nm:∀x∈N,Nm x
 nd:N.Nodup
theorem Q1(h:IL es):∃N es',Nms N/\IL es'/\Ac es []=some (.lst (N.map D.str),es'):=by
 obtain⟨r,es1,h1,h2,h3,h4⟩:=vY h 25 (by decide);obtain⟨s,rfl⟩:=c6 h2;have hs:s<25:=by omega
 obtain⟨cs,es2,h5,h6,h7,h8⟩:=Kj s (aQ 17) es1 h1;have nd:((aQ 17).map λk=>(s+7 * k) % 25).Nodup:=by
  have q:((aQ 25).all λs=>decide ((aQ 17).map λk=>(s+7 * k) % 25).Nodup)=true:=by decide +kernel
  exact bK (bH.mp q s (bI.mpr hs))
 obtain⟨N,n1,n2,n3,_,n5⟩:=Q0 s hs (aQ 17) cs h5 h6 nd;refine⟨N,es2,⟨by rw[n1,cI],n2,n3⟩,h7,WE (ρ:=[.pm es2,.im (.int s),.im (.str lets)]) rfl ?_ rfl⟩;unfold Ab;refine(tE (ρ':=[.pm es1,.im (.int s),.un]) ((t8 (xb (es0:=es) (es:=es) (ρ1:=[.pm es,.un,.un]) rfl rfl rfl h4)).trans rfl)).trans ?_;refine(tE (ρ':=[.pm es1,.im (.int s),.im (.str lets)]) rfl).trans ?_;refine wu ((BZ (ds:=(aQ 17).map λ(k:Nat)=>D.int k) (ρ1:=[.pm es1,.im (.int s),.im (.str lets)]) ?_ (by simp)).trans (by rw[<-n5];exact h8));unfold iR1;show (if _ then some (E8 0 17,_)else none)=_;rw[ah (by decide)];unfold E8;simp only[Int.zero_add]
structure Rw where
 n:Str
 k:Kd
 s:Option Str
def ua(r:Rw):L4.D:=.tup [.str r.n,.str r.k.s,oS r.s]
def IP(l:List Rw)(r:Rw):Prop:=(r.k=.room/\r.s=none)\/(r.k=.you/\∃u∈l,r.s=some u.n/\u.k=.room)\/(r.k.pl=true/\∃u∈l,r.s=some u.n/\u.k.hd=true)
inductive Ord:List Rw->Prop
 |nil:Ord []
 |snoc {l:List Rw} {r:Rw} (h:Ord l) (h':IP l r):Ord (l++[r])
theorem IP.mono(h:IP l r)(hs:∀u∈l,u∈l'):IP l' r:=by
 rcases h with h|⟨h1,u,h2,h3⟩|⟨h1,u,h2,h3⟩
 ·exact .inl h
 ·exact .inr (.inl ⟨h1,u,hs u h2,h3⟩)
 ·exact .inr (.inr ⟨h1,u,hs u h2,h3⟩)
theorem Ord.all(h:Ord l):∀r∈l,IP l r:=by
 induction h with
 |nil=>exact λr hr=>(cn hr).elim
 |snoc h h' ih=>
  intro r hr;rcases bx.mp hr with hr|hr
  ·exact(ih r hr).mono λu hu=>ck _ hu
  ·rw[aV]at hr;subst hr;exact h'.mono λu hu=>ck _ hu
theorem IP.start(h:IP l r)(hp:r.s=some p):∃u∈l,u.n=p:=by
 rcases h with ⟨_,h⟩|⟨_,u,h2,h3,_⟩|⟨_,u,h2,h3,_⟩
 ·rw[h]at hp;cases hp
 ·rw[h3]at hp;cases hp;exact⟨u,h2,rfl⟩
 ·rw[h3]at hp;cases hp;exact⟨u,h2,rfl⟩
theorem Ord.rank(h:Ord l):(l.map Rw.n).Nodup->∃rk:Str->Nat,∀t∈l,rk t.n<l.length/\∀p,t.s=some p->rk p<rk t.n/\∃u∈l,u.n=p:=by
 induction h with
 |nil=>exact λ_=>⟨λ_=>0,λt ht=>(cn ht).elim⟩
 |@snoc l r h h' ih=>
  intro nd;rw[aX,cA]at nd;obtain⟨rk,hk⟩:=ih nd.1;have ne:∀u∈l,u.n≠r.n:=λu hu z=>nd.2.2 _ (bQ hu) _ (by simp) z;refine⟨λx=>if x=r.n then l.length else rk x,λt ht=>?_⟩;rw[aB,bh];dsimp only;rcases bx.mp ht with ht|ht
  ·obtain⟨h1,h2⟩:=hk t ht;rw[ai (ne t ht)];refine⟨by omega,λp hp=>?_⟩;obtain⟨h3,u,hu,rfl⟩:=h2 p hp;rw[ai (ne u hu)];exact⟨h3,u,ck _ hu,rfl⟩
  ·rw[aV]at ht;subst ht;rw[ah rfl];refine⟨by omega,λp hp=>?_⟩;obtain⟨u,hu,rfl⟩:=h'.start hp;rw[ai (ne u hu)];exact⟨(hk u hu).1,u,ck _ hu,rfl⟩
theorem wH{l:aD}{j:Nat}{x:Str}(h:l[j]?=some x):atI (l.map D.str) (j:Int)=some (.str x):=LO (by rw[bc,h];rfl)
def kT:List Kd:=[.plain,.box,.lamp,.fixed,.box,.lamp,.box,.plain]
theorem aaV(j:Nat)(h:j<8):∃k,k∈kT/\dIx (.lst [.str "plain", .str "box", .str "lamp", .str "fixed", .str "box", .str "lamp", .str "box", .str "plain"]) (.int j)=some (.str (Kd.s k)):=
 ⟨kT[j]'h,cv _,wH (l:=kT.map Kd.s) (by rw[bc,aJ (show j<kT.length from h)];rfl)⟩
abbrev iq:=(cC (.str "box"))
abbrev mG:=(cC (.str "plain"))
abbrev mI:=(cC (.str "lamp"))
def Q2:FS:=(tI (um 6 (c2 dIx (cL (tZ (tD mG (tD iq (tD mI (tD (cC (.str "fixed")) (tD iq (tD mI (tD iq (tD mG tY)))))))))) (uG tH 2 gm)))
 (tI (uu (zp 3 (uA (tD bB (tD bS (tD (Jv 4 (uG tH 2 (tD (Es (c1 vw aF)) tY))) tY))))))
 (sIf (cT (c2 (dEq false) bS iq)) (uu (zp 4 bB)) uc)))
theorem Q3(h:IL es)(h0:Hs≠[])(hi:vv ρ i=some es)(hj:vv ρ j=some (Hs.map D.str))(hb:cV j (ρ.map Sl.bor)=some (.lst (Hs.map D.str),ρ.map Sl.bor))(hne:∀es',vv (putAt ρ i es') j=some (Hs.map D.str)):
  ∃x es',x∈Hs/\IL es'/\Jv j (uG tH i (tD (Es (c1 vw (cV j))) tY)) ρ=some (.str x,putAt ρ i es'):=by
 have hp:0<Hs.length:=eE.mpr h0;obtain⟨r,es',h1,h2,h3,h4⟩:=vY h Hs.length (by omega);obtain⟨m,rfl⟩:=c6 h2;have hm:m<Hs.length:=by omega
 refine⟨Hs[m],es',cv hm,h1,?_⟩;have e1:Es (c1 vw (cV j)) ρ=some (.int Hs.length,ρ):=Pt (uD hb (by show some (D.int _)=_;rw[af])) rfl;have e2:uG tH i (tD (Es (c1 vw (cV j))) tY) ρ=some (.int m,putAt ρ i es'):=xb hi (tG e1 rfl) hi h4;unfold Jv;rw[hj];simp only[e2,hne es'];rw[show atI (Hs.map D.str) (m:Int)=some (.str Hs[m]) from wH (aJ hm)]
theorem Ek(a b:Sl)(B:List Rw):∀(l:aD) (es:List L4.D) (O:List Rw) (Hs:aD) (s5 s6:Sl),IL es->Hs≠[]->(∀x∈Hs,∃u∈B++O,u.n=x/\u.k.hd=true)->Ord (B++O)->O.length+l.length<=900->Hs.length+l.length<=900->
  ∃(es':List L4.D) (O':List Rw) (Hs':aD) (t5 t6:Sl),IL es'/\Ord (B++(O++O'))/\O'.map Rw.n=l/\(∀r∈O',r.k.pl=true)/\
   forL (gN 5) Q2 (l.map D.str) [a,b,.pm es,.ls (O.map ua),.ls (Hs.map D.str),s5,s6]=some (.nx [a,b,.pm es',.ls ((O++O').map ua),.ls (Hs'.map D.str),t5,t6])
 |[],es,O,Hs,s5,s6,hi,_,_,ho,_,_=>⟨es,[],Hs,s5,s6,hi,by rw[bq];exact ho,rfl,λr hr=>(cn hr).elim,by rw[bq];rfl⟩
 |x::l,es,O,Hs,s5,s6,hi,h0,hH,ho,hl,hl'=>by
  rw[aM]at hl hl';obtain⟨r,es1,h1,h2,h3,h4⟩:=vY hi 8 (by decide);obtain⟨j,rfl⟩:=c6 h2;obtain⟨k,hk,ek⟩:=aaV j (by omega);let ρ1:bb:=[a,b,.pm es1,.ls (O.map ua),.ls (Hs.map D.str),.im (.str x),.im (.str k.s)];obtain⟨p,es2,hp,h5,e2⟩:=Q3 (ρ:=ρ1) (i:=2) (j:=4) h1 h0 rfl rfl rfl (λ_=>rfl);have hpl:k.pl=true:=by
   have:∀k∈kT,Kd.pl k=true:=by decide
   exact this k hk
  let rw0:Rw:=⟨x,k,some p⟩;obtain⟨u,hu,hun,huk⟩:=hH p hp;have ok:IP (B++O) rw0:=.inr (.inr ⟨hpl,u,hu,by rw[hun],huk⟩);let Hs1:aD:=if k=.box then Hs++[x]else Hs
  have e3:Q2 [a,b,.pm es,.ls (O.map ua),.ls (Hs.map D.str),.im (.str x),s6]=some (.nx [a,b,.pm es2,.ls ((O++[rw0]).map ua),.ls (Hs1.map D.str),.im (.str x),.im (.str k.s)]):=by
   unfold Q2;refine(tE (ρ':=ρ1) ((t8 (tQ (x:=.lst [.str "plain", .str "box", .str "lamp", .str "fixed", .str "box", .str "lamp", .str "box", .str "plain"]) (ρ1:=[a,b,.pm es,.ls (O.map ua),.ls (Hs.map D.str),.im (.str x),s6]) rfl (xb (es0:=es) (es:=es) (ρ1:=[a,b,.pm es,.ls (O.map ua),.ls (Hs.map D.str),.im (.str x),s6]) rfl rfl rfl h4) ek)).trans rfl)).trans ?_;let ρ2:bb:=[a,b,.pm es2,.ls (O.map ua),.ls (Hs.map D.str),.im (.str x),.im (.str k.s)];let ρ3:bb:=[a,b,.pm es2,.ls ((O++[rw0]).map ua),.ls (Hs.map D.str),.im (.str x),.im (.str k.s)];refine(tE (ρ':=ρ3) ((u7 (Da (es0:=O.map ua) (es:=O.map ua) (ρ1:=ρ2) (d:=ua rw0) rfl (wb (tG rfl (tG rfl (tG e2 rfl))) (by show 3<=1000;decide)) rfl (by rw[af];omega))).trans ?_)).trans ?_
   ·show some (Out.nx [a,b,.pm es2,.ls (O.map ua++[ua rw0]),.ls (Hs.map D.str),.im (.str x),.im (.str k.s)])=_;rw[show O.map ua++[ua rw0]=(O++[rw0]).map ua by rw[aX];rfl]
   ·have et:cT (c2 (dEq false) bS iq) ρ3=some (decide (k=.box),ρ3):=uR (tQ rfl rfl (CL k .box));by_cases hb:k=.box
    ·rw[aY hb]at et;refine(ux et).trans ((u7 (Da (es0:=Hs.map D.str) (es:=Hs.map D.str) (ρ1:=ρ3) (d:=.str x) rfl rfl rfl (by rw[af];omega))).trans ?_);show some (Out.nx [a,b,.pm es2,.ls ((O++[rw0]).map ua),.ls (Hs.map D.str++[.str x]),.im (.str x),.im (.str k.s)])=_;rw[show Hs1.map D.str=Hs.map D.str++[.str x] by rw[show Hs1=Hs++[x] from ah hb,aX];rfl]
    ·rw[aT hb]at et;refine(ur et).trans ?_;rw[show Hs1=Hs from ai hb];rfl
  have ho1:Ord (B++(O++[rw0])):=by rw[<-bD];exact ho.snoc ok
  have hH1:∀y∈Hs1,∃u∈B++(O++[rw0]),u.n=y/\u.k.hd=true:=λy hy=>by
   have old:y∈Hs->∃u∈B++(O++[rw0]),u.n=y/\u.k.hd=true:=λhy=>by obtain⟨v,hv,h⟩:=hH y hy;exact⟨v,by rw[<-bD];exact ck _ hv,h⟩
   by_cases hb:k=.box
   ·rw[show Hs1=Hs++[x] from ah hb]at hy;rcases bx.mp hy with hy|hy
    ·exact old hy
    ·rw[aV]at hy;refine⟨rw0,by simp,hy.symm,?_⟩;show k.hd=true;rw[hb];rfl
   ·rw[show Hs1=Hs from ai hb]at hy;exact old hy
  have h01:Hs1≠[]:=by
   by_cases hb:k=.box
   ·rw[show Hs1=Hs++[x] from ah hb];simp
   ·rw[show Hs1=Hs from ai hb];exact h0
  have hl1:Hs1.length<=Hs.length+1:=by
   by_cases hb:k=.box
   ·rw[show Hs1=Hs++[x] from ah hb];simp
   ·rw[show Hs1=Hs from ai hb];omega
  obtain⟨es',O',Hs',t5,t6,g1,g2,g3,g4,g5⟩:=Ek a b B l es2 (O++[rw0]) Hs1 (.im (.str x)) (.im (.str k.s)) h5 h01 hH1 ho1 (by rw[aB,bh];omega) (by omega);refine⟨es',rw0::O',Hs',t5,t6,g1,by rw[bD]at g2;exact g2,by rw[aE,g3],λr hr=>?_,?_⟩
  ·rcases aN.mp hr with rfl|hr
   ·exact hpl
   ·exact g4 r hr
  ·rw[aE];unfold forL;rw[show gN 5 (.str x) [a,b,.pm es,.ls (O.map ua),.ls (Hs.map D.str),s5,s6]=some [a,b,.pm es,.ls (O.map ua),.ls (Hs.map D.str),.im (.str x),s6] from rfl];simp only[e3];rw[g5,bD];rfl
theorem Q4{ds:List L4.D}(k:Nat)(h:k<=ds.length):cutD ds none (some (k:Int))=ds.take k:=by unfold cutD;rw[HT.Je,HT.Ew,fq h,List.drop_zero,Nat.sub_zero]
theorem YY{ds:List L4.D}(k:Nat)(h:k<=ds.length):cutD ds (some (k:Int)) none=ds.drop k:=by unfold cutD;rw[HT.Je,HT.Ew,fq h,jy (by rw[cb];omega)]
theorem ML{ds:List L4.D}(k m:Nat)(h:k+m<=ds.length):cutD ds (some (k:Int)) (some ((k+m:Nat):Int))=(ds.drop k).take m:=by unfold cutD;rw[HT.Ew,HT.Ew,fq h,fq (show k<=ds.length by omega)];congr 1;omega
theorem N6{rooms:aD}(hN:Nms N)(B:List Rw)(h:IL es)(hB:Ord B)(hr:rooms.length<=100)(hH:∀x∈rooms++[N[5]'(by rw[hN.len];decide)],∃u∈B,u.n=x/\u.k.hd=true):
  ∃(q:Nat) (es':List L4.D) (O:List Rw),q<8/\IL es'/\Ord (B++O)/\O.map Rw.n=(N.drop 6).take q/\(∀r∈O,r.k.pl=true)/\vT es [.lst (N.map D.str),.lst (rooms.map D.str)]=some (.lst (O.map ua),es'):=by
 have h5:5<N.length:=by rw[hN.len];decide
 obtain⟨r,es1,h1,h2,h3,h4⟩:=vY h 8 (by decide);obtain⟨q,rfl⟩:=c6 h2;let Hs:=rooms++[N[5]];obtain⟨es',O,Hs',t5,t6,g1,g2,g3,g4,g5⟩:=Ek (.im (.lst (N.map D.str))) (.im (.lst (rooms.map D.str))) B ((N.drop 6).take q) es1 [] Hs .un .un h1 (by simp[Hs]) (λx hx=>by rw[bq];exact hH x hx) (by rw[bq];exact hB) (by rw[bo,cb,hN.len];simp;omega) (by rw[bo,cb,hN.len];simp[Hs];omega);rw[bY]at g2 g5;refine⟨q,es',O,by omega,g1,g2,g3,g4,?_⟩;have run:xG (stL 7 es [.lst (N.map D.str),.lst (rooms.map D.str)])=some (.rn (O.map ua) [.im (.lst (N.map D.str)),.im (.lst (rooms.map D.str)),.pm es',.un,.ls (Hs'.map D.str),t5,t6]):=by
  unfold xG;refine(tE (ρ':=[.im (.lst (N.map D.str)),.im (.lst (rooms.map D.str)),.pm es,.ls [],.un,.un,.un]) rfl).trans ?_;refine(tE (ρ':=[.im (.lst (N.map D.str)),.im (.lst (rooms.map D.str)),.pm es,.ls [],.ls (Hs.map D.str),.un,.un]) ((BY (u4 (xs:=rooms.map D.str) (ys:=[.str N[5]]) rfl (uE (AD (tG (tQ rfl rfl (wH (j:=5) (aJ h5))) rfl) (by show 1<=1000;decide))) (by rw[af];simp;omega))).trans ?_)).trans ?_
  ·show some (Out.nx [_,_,_,_,.ls (rooms.map D.str++[.str N[5]]),_,_])=_;rw[show rooms.map D.str++[.str N[5]]=Hs.map D.str by simp[Hs]]
  ·refine(tE ((wK (ds:=((N.drop 6).take q).map D.str) (ρ1:=[.im (.lst (N.map D.str)),.im (.lst (rooms.map D.str)),.pm es1,.ls [],.ls (Hs.map D.str),.un,.un]) ?_).trans g5)).trans rfl;have e:y4 ab (oAt c5) (oAt (c2 uP c5 (uG tH 2 gm))) [.im (.lst (N.map D.str)),.im (.lst (rooms.map D.str)),.pm es,.ls [],.ls (Hs.map D.str),.un,.un]=some (((N.drop 6).take q).map D.str,[.im (.lst (N.map D.str)),.im (.lst (rooms.map D.str)),.pm es1,.ls [],.ls (Hs.map D.str),.un,.un]):=by
    have e1:c2 uP c5 (uG tH 2 gm) [.im (.lst (N.map D.str)),.im (.lst (rooms.map D.str)),.pm es,.ls [],.ls (Hs.map D.str),.un,.un]=some (.int ((6+q:Nat):Int),[.im (.lst (N.map D.str)),.im (.lst (rooms.map D.str)),.pm es1,.ls [],.ls (Hs.map D.str),.un,.un]):=tQ rfl ((xb (es0:=es) (es:=es) (ρ1:=[.im (.lst (N.map D.str)),.im (.lst (rooms.map D.str)),.pm es,.ls [],.ls (Hs.map D.str),.un,.un]) rfl rfl rfl h4).trans rfl) (by show some (D.int (6+(q:Int)))=_;congr 2);have e2:oAt (c2 uP c5 (uG tH 2 gm)) [.im (.lst (N.map D.str)),.im (.lst (rooms.map D.str)),.pm es,.ls [],.ls (Hs.map D.str),.un,.un]=some (some ((6+q:Nat):Int),[.im (.lst (N.map D.str)),.im (.lst (rooms.map D.str)),.pm es1,.ls [],.ls (Hs.map D.str),.un,.un]):=by unfold oAt;rw[e1]
    unfold y4;show (match oAt (c2 uP c5 (uG tH 2 gm)) [.im (.lst (N.map D.str)),.im (.lst (rooms.map D.str)),.pm es,.ls [],.ls (Hs.map D.str),.un,.un]with
     |some (h,ρ3)=>some (cutD (N.map D.str) (some 6) h,ρ3)
     |none=>none)=_
    rw[e2];show some (cutD (N.map D.str) (some ((6:Nat):Int)) (some ((6+q:Nat):Int)),_)=_;rw[ML 6 q (by rw[af,hN.len];omega),f7,fZ]
   unfold iL;rw[uE e]
 unfold vT fnL;rw[ah (show [D.lst (N.map D.str),D.lst (rooms.map D.str)].length=2 from rfl),run];rfl
def YZ:FS:=(tI (um 7 (uG tH 1 (tD (c2 uP (c1 vw bB) aL) tY)))
 (um 5 (cL (uU (cL (uU (cL (y4 bB oNo (oAt du))) (cL (tZ (tD bS tY))))) (cL (y4 bB (oAt du) oNo))))))
theorem Kk:∀(l:List Rw) (es:List L4.D) (R:List Rw) (s6 s7:Sl),IL es->R.length+l.length<=900->∃(es':List L4.D) (R':List Rw) (t6 t7:Sl),IL es'/\R'.Perm (R++l)/\
  forL (gN 6) YZ (l.map ua) [a,.ls es,b,c,d,.im (.lst (R.map ua)),s6,s7,x8,x9,x10,x11,x12,x13]=some (.nx [a,.ls es',b,c,d,.im (.lst (R'.map ua)),t6,t7,x8,x9,x10,x11,x12,x13])
 |[],es,R,s6,s7,hi,_=>⟨es,R,s6,s7,hi,by rw[bq],rfl⟩
 |r::l,es,R,s6,s7,hi,hl=>by
  rw[aM]at hl;obtain⟨v,es1,h1,h2,h3,h4⟩:=vY hi ((R.map ua).length+1:Int) (by omega);obtain⟨k,rfl⟩:=c6 h2;have hk:k<=(R.map ua).length:=by omega
  let R1:=R.take k++r::R.drop k;have p1:R1.Perm (R++[r]):=by have:=(jM (a:=r) (l₁:=R.take k) (l₂:=R.drop k));rw[gH]at this;exact this.trans (jq r R).symm
  have hR1:R1.length=R.length+1:=p1.length_eq.trans (by simp);let ρ1:bb:=[a,.ls es1,b,c,d,.im (.lst (R.map ua)),.im (ua r),.im (.int k),x8,x9,x10,x11,x12,x13];have e1:YZ [a,.ls es,b,c,d,.im (.lst (R.map ua)),.im (ua r),s7,x8,x9,x10,x11,x12,x13]=some (.nx [a,.ls es1,b,c,d,.im (.lst (R1.map ua)),.im (ua r),.im (.int k),x8,x9,x10,x11,x12,x13]):=by
   unfold YZ;refine(tE (ρ':=ρ1) ((t8 (i:=7) (xb (i:=1) (es0:=es) (es:=es) (ρ1:=[a,.ls es,b,c,d,.im (.lst (R.map ua)),.im (ua r),s7,x8,x9,x10,x11,x12,x13]) rfl (show tD (c2 uP (c1 vw bB) aL) tY _=some ([.int ((R.map ua).length+1)],_) from rfl) rfl h4)).trans rfl)).trans ?_;have c1:y4 bB oNo (oAt du) ρ1=some ((R.map ua).take k,ρ1):=by show some (cutD (R.map ua) none (some (k:Int)),ρ1)=_;rw[Q4 k hk]
   have c2:y4 bB (oAt du) oNo ρ1=some ((R.map ua).drop k,ρ1):=by show some (cutD (R.map ua) (some (k:Int)) none,ρ1)=_;rw[YY k hk]
   refine(t8 (uE (u4 (uE (u4 (uE c1) (uE (AD (ds:=[ua r]) rfl (by show 1<=1000;decide))) ?_)) (uE c2) ?_))).trans ?_
   ·rw[bo,af];simp;omega
   ·rw[aB,bo,cb,af];simp;omega
   ·show some (Out.nx [a,.ls es1,b,c,d,.im (.lst ((R.map ua).take k++[ua r]++(R.map ua).drop k)),.im (ua r),.im (.int k),x8,x9,x10,x11,x12,x13])=_;rw[show (R.map ua).take k++[ua r]++(R.map ua).drop k=R1.map ua by simp[R1,f7,fZ]]
  obtain⟨es',R',t6,t7,g1,g2,g3⟩:=Kk (a:=a) (b:=b) (c:=c) (d:=d) (x8:=x8) (x9:=x9) (x10:=x10) (x11:=x11) (x12:=x12) (x13:=x13) l es1 R1 (.im (ua r)) (.im (.int k)) h1 (by omega);refine⟨es',R',t6,t7,g1,g2.trans ((p1.append_right l).trans (by rw[bD];exact lI _)),?_⟩;rw[aE];unfold forL;rw[show gN 6 (ua r) [a,.ls es,b,c,d,.im (.lst (R.map ua)),s6,s7,x8,x9,x10,x11,x12,x13]=some [a,.ls es,b,c,d,.im (.lst (R.map ua)),.im (ua r),s7,x8,x9,x10,x11,x12,x13] from rfl];simp only[e1];exact g3
def mkT(m:Mk):L4.D:=.tup [.str m.n,.int m.st,.int m.mo]
abbrev mQ:=(tD fK tY)
def mkB:FS:=(tI (um 10 (c2 uP aL (uG tH 1 mQ)))
 (uu (zp 8 (uA (tD (cV 9) (tD (uG tH 1 (tD (c2 uP (cV 10) aL) tY)) (tD (cV 10) tY)))))))
theorem MM:∀(l:aD) (es:List L4.D) (M:List Mk) (s9 s10:Sl),IL es->M.length+l.length<=900->∃(es':List L4.D) (M':List Mk) (t9 t10:Sl),IL es'/\M'.map Mk.n=l/\(∀m∈M',m.ok)/\
  forL (gN 9) mkB (l.map D.str) [a,.ls es,b,c,d,x5,x6,x7,.ls (M.map mkT),s9,s10,x11,x12,x13]=some (.nx [a,.ls es',b,c,d,x5,x6,x7,.ls ((M++M').map mkT),t9,t10,x11,x12,x13])
 |[],es,M,s9,s10,hi,_=>⟨es,[],s9,s10,hi,rfl,λm hm=>(cn hm).elim,by rw[bq];rfl⟩
 |x::l,es,M,s9,s10,hi,hl=>by
  rw[aM]at hl;obtain⟨v,es1,h1,h2,h3,h4⟩:=vY hi 3 (by decide);obtain⟨w,es2,h5,h6,h7,h8⟩:=vY h1 (1+v+1) (by omega);let m:Mk:=⟨x,w,1+v⟩;let ρ1:bb:=[a,.ls es1,b,c,d,x5,x6,x7,.ls (M.map mkT),.im (.str x),.im (.int (1+v)),x11,x12,x13];let ρ2:bb:=[a,.ls es2,b,c,d,x5,x6,x7,.ls (M.map mkT),.im (.str x),.im (.int (1+v)),x11,x12,x13];have e1:mkB [a,.ls es,b,c,d,x5,x6,x7,.ls (M.map mkT),.im (.str x),s10,x11,x12,x13]=some (.nx [a,.ls es2,b,c,d,x5,x6,x7,.ls ((M++[m]).map mkT),.im (.str x),.im (.int (1+v)),x11,x12,x13]):=by unfold mkB;refine(tE (ρ':=ρ1) ((t8 (tQ rfl (xb (es0:=es) (es:=es) (ρ1:=[a,.ls es,b,c,d,x5,x6,x7,.ls (M.map mkT),.im (.str x),s10,x11,x12,x13]) rfl rfl rfl h4) rfl)).trans rfl)).trans ?_;refine(u7 (Da (es0:=M.map mkT) (es:=M.map mkT) (ρ1:=ρ2) (d:=mkT m) rfl (wb (tG rfl (tG ((xb (es0:=es1) (es:=es1) (ρ1:=ρ1) rfl (tG (tQ rfl rfl rfl) rfl) rfl h8).trans rfl) rfl)) (by show 3<=1000;decide)) rfl (by rw[af];omega))).trans ?_;show some (Out.nx [a,.ls es2,b,c,d,x5,x6,x7,.ls (M.map mkT++[mkT m]),.im (.str x),.im (.int (1+v)),x11,x12,x13])=_;rw[show M.map mkT++[mkT m]=(M++[m]).map mkT by rw[aX];rfl]
  obtain⟨es',M',t9,t10,g1,g2,g3,g4⟩:=MM (a:=a) (b:=b) (c:=c) (d:=d) (x5:=x5) (x6:=x6) (x7:=x7) (x11:=x11) (x12:=x12) (x13:=x13) l es2 (M++[m]) (.im (.str x)) (.im (.int (1+v))) h5 (by rw[aB,bh];omega);refine⟨es',m::M',t9,t10,g1,by rw[aE,g2],λy hy=>?_,?_⟩
  ·rcases aN.mp hy with rfl|hy
   ·exact⟨by show 1<=1+v;omega,by show 1+v<=3;omega,h6,by show w<=1+v;omega⟩
   ·exact g3 y hy
  ·rw[aE];unfold forL;rw[show gN 9 (.str x) [a,.ls es,b,c,d,x5,x6,x7,.ls (M.map mkT),s9,s10,x11,x12,x13]=some [a,.ls es,b,c,d,x5,x6,x7,.ls (M.map mkT),.im (.str x),s10,x11,x12,x13] from rfl];simp only[e1];rw[g4,bD];rfl
abbrev mW:=(tD cu tY)
abbrev mL:=mW
theorem Ht:∀(l:aD) (es:List L4.D),IL es->∃(dk:aD) (es':List L4.D),dk.Sublist l/\IL es'/\
  xq 1 [1] (gN 0) (cT (c2 (dEq false) (uG tH 1 mL) aL)) ab (l.map D.str) [a,.ls es,b,c,d,x5,x6,x7,x8,x9,x10,x11,x12,x13]=some (dk.map D.str,[a,.ls es',b,c,d,x5,x6,x7,x8,x9,x10,x11,x12,x13])
 |[],es,h=>⟨[],es,fT _,h,rfl⟩
 |x::l,es,h=>by
  obtain⟨v,es1,h1,h2,h3,h4⟩:=vY h 2 (by decide);obtain⟨dk,es',g1,g2,g3⟩:=Ht (a:=a) (b:=b) (c:=c) (d:=d) (x5:=x5) (x6:=x6) (x7:=x7) (x8:=x8) (x9:=x9) (x10:=x10) (x11:=x11) (x12:=x12) (x13:=x13) l es1 h1;have et:cT (c2 (dEq false) (uG tH 1 mL) aL) [.im (.str x),.pm es]=some (decide (v=1),[.im (.str x),.pm es1]):=uR (tQ ((xb (es0:=es) (es:=es) (ρ1:=[.im (.str x),.pm es]) rfl rfl rfl h4).trans rfl) rfl (zR false v 1));have st:xq 1 [1] (gN 0) (cT (c2 (dEq false) (uG tH 1 mL) aL)) ab ((x::l).map D.str) [a,.ls es,b,c,d,x5,x6,x7,x8,x9,x10,x11,x12,x13]=some ((if v=1 then x::dk else dk).map D.str,[a,.ls es',b,c,d,x5,x6,x7,x8,x9,x10,x11,x12,x13]):=by
   rw[aE];unfold xq;rw[show gN 0 (.str x) (BC 1 [1] [a,.ls es,b,c,d,x5,x6,x7,x8,x9,x10,x11,x12,x13])=some [.im (.str x),.pm es] from rfl];simp only[et];have un:wD [1] (([.im (.str x),.pm es1]:bb).drop 1) [a,.ls es,b,c,d,x5,x6,x7,x8,x9,x10,x11,x12,x13]=some [a,.ls es1,b,c,d,x5,x6,x7,x8,x9,x10,x11,x12,x13]:=rfl;by_cases hv:v=1
   ·rw[ah hv,aY hv];simp only;simp only[show cV 0 [.im (.str x),.pm es1]=some (.str x,[.im (.str x),.pm es1]) from rfl,un,g3];rfl
   ·rw[ai hv,aT hv];simp only[un,g3]
  by_cases hv:v=1
  ·rw[ah hv]at st;exact⟨x::dk,es',g1.cons_cons x,g2,st⟩
  ·rw[ai hv]at st;exact⟨dk,es',g1.cons x,g2,st⟩
def moD:L4.D:=.lst [.tup [],.tup [.str "red"],.tup [.str "old", .str "red"]]
theorem Uq(j:Nat)(h:j<3):∃m∈Hn,dIx moD (.int j)=some (.tup (m.map D.str)):=by
 match j,h with
 |0,_=>exact⟨[],by decide,rfl⟩
 |1,_=>exact⟨["red"],by decide,rfl⟩
 |2,_=>exact⟨["old", "red"],by decide,rfl⟩
def Th.rw(t:Th):Rw:=⟨t.n,t.k,t.s⟩
def wdD(t:Th):L4.D:=.tup (t.w.map D.str)
def Y0:FE:=(DG (uA (tD ab tY)) (c2 dIx az (uG tH 4 mQ)))
theorem F7:∀(R:List Rw) (es:List L4.D),IL es->∃(T:List Th) (es':List L4.D),T.map Th.rw=R/\(∀t∈T,∃m∈Hn,t.w=t.n::m)/\IL es'/\
  xq 3 [12,1] (gT dc 3) uS Y0 (R.map ua) [a,.ls es,b,c,d,x5,x6,x7,x8,x9,x10,x11,.im moD,x13]=some (T.map wdD,[a,.ls es',b,c,d,x5,x6,x7,x8,x9,x10,x11,.im moD,x13])
 |[],es,h=>⟨[],es,rfl,λt ht=>(cn ht).elim,h,rfl⟩
 |r::R,es,h=>by
  obtain⟨v,es1,h1,h2,h3,h4⟩:=vY h 3 (by decide);obtain⟨j,rfl⟩:=c6 h2;obtain⟨m,hm,em⟩:=Uq j (by omega);obtain⟨T,es',g1,g2,g3,g4⟩:=F7 (a:=a) (b:=b) (c:=c) (d:=d) (x5:=x5) (x6:=x6) (x7:=x7) (x8:=x8) (x9:=x9) (x10:=x10) (x11:=x11) (x13:=x13) R es1 h1;let t:Th:=⟨r.n,r.n::m,r.k,r.s⟩;have hml:m.length<=2:=by
   have:∀m∈Hn,cc m<=2:=by decide
   exact this m hm
  refine⟨t::T,es',by rw[aE,g1];rfl,λu hu=>?_,g3,?_⟩
  ·rcases aN.mp hu with rfl|hu
   ·exact⟨m,hm,rfl⟩
   ·exact g2 u hu
  ·let ρ2:bb:=[.im (.str r.n),.im (.str r.k.s),.im (oS r.s),.im moD,.pm es];have e1:Y0 ρ2=some (wdD t,[.im (.str r.n),.im (.str r.k.s),.im (oS r.s),.im moD,.pm es1]):=by have e2:c2 dIx az (uG tH 4 mQ) ρ2=some (.tup (m.map D.str),[.im (.str r.n),.im (.str r.k.s),.im (oS r.s),.im moD,.pm es1]):=tQ rfl ((xb (es0:=es) (es:=es) (ρ1:=ρ2) rfl rfl rfl h4).trans rfl) em;unfold Y0 DG;rw[show uA (tD ab tY) ρ2=some (.tup [.str r.n],ρ2) from rfl];simp only[e2];rw[ah (by rw[af];simp;omega)];rfl
   rw[aE];unfold xq;rw[show gT dc 3 (ua r) (BC 3 [12,1] [a,.ls es,b,c,d,x5,x6,x7,x8,x9,x10,x11,.im moD,x13])=some ρ2 from rfl];simp only[uS,e1];rw[show wD [12,1] (([.im (.str r.n),.im (.str r.k.s),.im (oS r.s),.im moD,.pm es1]:bb).drop 3) [a,.ls es,b,c,d,x5,x6,x7,x8,x9,x10,x11,.im moD,x13]=some [a,.ls es1,b,c,d,x5,x6,x7,x8,x9,x10,x11,.im moD,x13] from rfl];simp only[g4];rfl
def xu(x:Str):Rw:=⟨x,.room,none⟩
theorem Ur(N:aD)(h:N.length=17):∃x,N[5]?=some x/\N.take 5++([x]++((N.drop 6).take 7++N.drop 13))=N:=by refine⟨N[5],aJ (by omega),?_⟩;rw[show N.drop 13=(N.drop 6).drop 7 by rw[List.drop_drop],gH,List.singleton_append,<- jt,gH]
theorem Kl{α:Type}(l:List α){a b:Nat}(h:a<=b):(l.take a).Sublist (l.take b):=by
 have:l.take a=(l.take b).take a:=by rw[List.take_take,fq h]
 rw[this];exact iJ _ _
theorem N7{N:aD}(h:N.length=17)(hy:N[5]?=some y)(hr:r<5)(hq:q<8):((N.take (1+r)++([y]++(N.drop 6).take q))++(N.drop 13).take p).Sublist N:=by obtain⟨x,h1,h2⟩:=Ur N h;rw[hy]at h1;cases h1;rw[bD,bD];have:=(Kl N (show 1+r<=5 by omega)).append ((fT [y]).append ((Kl (N.drop 6) (show q<=7 by omega)).append (iJ p (N.drop 13))));rw[h2]at this;exact this
theorem Y1{T:List Th}(h:T.map Th.rw=R)(hu:u∈R):∃t∈T,t.rw=u:=by rw[<-h]at hu;exact aP.mp hu
theorem Us(T:List Th)(p:Kd->Bool):(T.filter λt=>p t.k).map Th.rw=(T.map Th.rw).filter λr=>p r.k:=by rw[pz];rfl
theorem Ut(hN:Nms N)(hy:N[5]?=some y)(hr:r<5)(hq:q<8)(hp:p<5)(hz:z∈N.take (1+r)){T:List Th}{M:List Mk}{dk:aD}
  (ho:Ord (((N.take (1+r)).map xu++[⟨y,.you,some z⟩])++O)) (hO:O.map Rw.n=(N.drop 6).take q) (hOp:∀u∈O,u.k.pl=true) (hT:(T.map Th.rw).Perm (((N.take (1+r)).map xu++[⟨y,.you,some z⟩])++O)) (hw:∀t∈T,∃m∈Hn,t.w=t.n::m)
  (hM:M.map Mk.n=(N.drop 13).take p) (hMo:∀m∈M,m.ok) (hd:dk.Sublist (N.take (1+r))):Good T M dk/\(T.filter λt=>decide (t.k=.you)).map Th.n=[y]:=by
 let B:List Rw:=((N.take (1+r)).map xu++[⟨y,.you,some z⟩])++O;have hl:(N.take (1+r)).length=1+r:=by rw[bo,hN.len];omega
 have hOl:O.length=q:=by have:=ba cc hO;rw[af,bo,cb,hN.len]at this;omega
 have hMl:M.length=min p 4:=by have:=ba cc hM;rw[af,bo,cb,hN.len]at this;exact this
 have hBl:B.length=1+r+1+q:=by simp only[B,aB,af,hl,hOl,bh]
 have hTl:T.length=B.length:=by have:=hT.length_eq;rw[af]at this;exact this
 have hBn:B.map Rw.n=N.take (1+r)++([y]++(N.drop 6).take q):=by simp only[B,aX,hO,aU,bD];rw[show (Rw.n∘xu)=id from rfl,md];rfl
 have hTn:T.map Th.n=(T.map Th.rw).map Rw.n:=by rw[aU];rfl
 have perm:(T.map Th.n++M.map Mk.n).Perm ((N.take (1+r)++([y]++(N.drop 6).take q))++(N.drop 13).take p):=by rw[hTn,hM,<- hBn];exact(hT.map Rw.n).append_right _
 have sub:=N7 hN.len hy hr hq (p:=p);have nd:(T.map Th.n++M.map Mk.n).Nodup:=perm.nodup_iff.mpr (hN.nd.sublist sub);have nm:∀x∈T.map Th.n++M.map Mk.n,Nm x:=λx hx=>hN.nm x (sub.subset (perm.subset hx));have back:∀u∈B,∃t∈T,t.rw=u:=λu hu=>Y1 rfl (hT.mem_iff.mpr hu);have fwd:∀t∈T,IP B t.rw:=λt ht=>ho.all _ (hT.mem_iff.mp (bQ ht));have filt:∀pp:Kd->Bool,((T.filter λt=>pp t.k).map Th.rw).Perm (B.filter λu=>pp u.k):=λpp=>by rw[Us];exact hT.filter _
 have fl:∀pp:Kd->Bool,(T.filter λt=>pp t.k).length=(B.filter λu=>pp u.k).length:=λpp=>by have:=(filt pp).length_eq;rw[af]at this;exact this
 have allF:∀(pp:Kd->Bool) (l:List Rw),(∀u∈l,pp u.k=false)->(l.filter λu=>pp u.k)=[]:=λpp l h=>nF.mpr λu hu=>by rw[h u hu];exact bj
 have rooms:∀(pp:Kd->Bool),∀u∈(N.take (1+r)).map xu,pp u.k=pp .room:=λpp u hu=>by obtain⟨x,_,rfl⟩:=aP.mp hu;rfl
 have oth:∀u∈O,decide (u.k=.room)=false/\decide (u.k=.you)=false:=λu hu=>by have:=hOp u hu;refine⟨aT λh=>?_,aT λh=>?_⟩<;>rw[h]at this<;>cases this
 have fB:∀pp:Kd->Bool,(B.filter λu=>pp u.k)=((N.take (1+r)).map xu).filter (λu=>pp u.k)++([⟨y,.you,some z⟩]:List Rw).filter (λu=>pp u.k)++O.filter (λu=>pp u.k):=λpp=>by simp only[B,List.filter_append]
 have one:∀(pp:Kd->Bool) (b:Bool),pp .you=b->([⟨y,.you,some z⟩]:List Rw).filter (λu=>pp u.k)=if b then [⟨y,.you,some z⟩]else []:=λpp b h=>by rw[eY,List.filter_nil];show (if pp .you=true then _ else _)=_;rw[h]
 have gr:∀pp:Kd->Bool,pp .room=true->pp .you=false->(∀u∈O,pp u.k=false)->(B.filter λu=>pp u.k)=(N.take (1+r)).map xu:=λpp h1 h2 h3=>by rw[fB pp,allF pp O h3,kF.mpr λu hu=>(rooms pp u hu).trans h1,one pp false h2];simp
 have gy:∀pp:Kd->Bool,pp .room=false->pp .you=true->(∀u∈O,pp u.k=false)->(B.filter λu=>pp u.k)=[⟨y,.you,some z⟩]:=λpp h1 h2 h3=>by rw[fB pp,allF pp O h3,allF pp _ λu hu=>(rooms pp u hu).trans h1,one pp true h2];rfl
 have gp:∀pp:Kd->Bool,pp .room=false->pp .you=false->(∀u∈O,pp u.k=true)->(B.filter λu=>pp u.k)=O:=λpp h1 h2 h3=>by rw[fB pp,kF.mpr h3,allF pp _ λu hu=>(rooms pp u hu).trans h1,one pp false h2];rfl
 have fr:=gr (λk=>decide (k=.room)) rfl rfl λu hu=>(oth u hu).1;have fy:=gy (λk=>decide (k=.you)) rfl rfl λu hu=>(oth u hu).2;have fp:=gp Kd.pl rfl rfl hOp;have ndT:(T.map Th.n).Nodup:=(cA.mp nd).1;obtain⟨rk,hk⟩:=ho.rank ((hT.map Rw.n).nodup_iff.mp (by rw[<-hTn];exact ndT));have inR:∀x∈N.take (1+r),x∈rmN T:=λx hx=>by obtain⟨t,ht,e⟩:=back (xu x) (ck _ (ck _ (bQ hx)));have h1:t.n=x:=ba Rw.n e;have h2:t.k=.room:=ba Rw.k e;exact aP.mpr ⟨t,bL.mpr ⟨ht,aY h2⟩,h1⟩
 refine⟨{
  len:=by omega
  r1:=by have:=fl λk=>decide (k=.room);rw[fr,af,hl]at this;omega
  r5:=by have:=fl λk=>decide (k=.room);rw[fr,af,hl]at this;omega
  y1:=by have:=fl λk=>decide (k=.you);rw[fy]at this;exact this
  p7:=by have:=fl Kd.pl;rw[fp,hOl]at this;omega
  m4:=by omega
  mo:=hMo
  nm:=nm
  nd:=nd
  st:=λt ht=>?_
  rk:=⟨rk,λt ht=>?_⟩
  wd:=λt ht=>⟨nm _ (ck _ (bQ ht)),hw t ht⟩
  d0:=by have:=hd.length_le;omega
  d1:=(hN.nd.sublist (iJ _ _)).sublist hd
  d2:=λx hx=>inR x (hd.subset hx) },?_⟩
 ·obtain⟨n,w,k,s⟩:=t;rcases fwd _ ht with ⟨h1,h2⟩|⟨h1,u,hu,h2,h3⟩|⟨h1,u,hu,h2,h3⟩
  ·cases h1;cases h2;trivial
  ·cases h1;cases h2;obtain⟨t',ht',e⟩:=back u hu;refine aP.mpr ⟨t',bL.mpr ⟨ht',aY ?_⟩,ba Rw.n e⟩;rw[<-h3];exact ba Rw.k e
  ·obtain⟨t',ht',e⟩:=back u hu;have mem:u.n∈hdN T:=aP.mpr ⟨t',bL.mpr ⟨ht',by rw[<-h3];exact ba Kd.hd (ba Rw.k e)⟩,ba Rw.n e⟩;have h2':s=some u.n:=h2;subst h2';have h1':k.pl=true:=h1;cases k with
   |room=>cases h1'
   |you=>cases h1'
   |plain=>exact mem
   |fixed=>exact mem
   |box=>exact mem
   |lamp=>exact mem
 ·obtain⟨h1,h2⟩:=hk t.rw (hT.mem_iff.mp (bQ ht));refine⟨by rw[hTl];exact h1,λpq hpq=>?_⟩;obtain⟨h3,u,hu,h4⟩:=h2 pq hpq;obtain⟨t',ht',e⟩:=back u hu;exact⟨h3,t',ht',by rw[<-h4,<- e];rfl⟩
 ·have h:=filt λk=>decide (k=.you);rw[fy]at h;have e:=List.perm_singleton.mp h;have:=ba (mC Rw.n) e;rw[aU]at this;exact this
def uB(T:List Th)(M:List Mk)(dk:aD)(y:Str):L4.D:=.dic [kS "rows", kS "marks", kS "dark", kS "words", kS "you"] [.lst (T.map λt=>ua t.rw),.lst (M.map mkT),.lst (dk.map D.str),.lst (T.map wdD),.str y]
theorem N8:∀l:aD,Ord (l.map xu):=λl=>by
 suffices h:∀(l k:aD),Ord (k.map xu)->Ord ((k++l).map xu) from h l [] .nil
 intro l
 induction l with
 |nil=>intro k h;rw[bq];exact h
 |cons x l ih=>
  intro k h;have:=ih (k++[x]) (by rw[aX];exact h.snoc (.inl ⟨rfl,rfl⟩))
  rwa [bD]at this
theorem El(h:e ρ=some (.lst ds,ρ1)):iL e ρ=some (ds,ρ1):=by unfold iL;rw[h]
theorem Em(h1:f ρ=some (d,ρ1))(h2:xy r ρ1=some (ds,ρ2)):xy ((x,f)::r) ρ=some (d::ds,ρ2):=by unfold xy;rw[h1];simp only[h2]
theorem MN(h:xy kfs ρ=some (ds,ρ1)):yw kfs ρ=some (.dic (kfs.map λq=>kS q.1) ds,ρ1):=by unfold yw;rw[h];rfl
theorem mut1(h:tH es [.int n]=some (.int v,es')):uG tH 1 (tD (cC (.int n)) tY) [a,.ls es,b2,b3,b4,b5,b6,b7,b8,b9,b10,b11,b12,b13]=some (.int v,[a,.ls es',b2,b3,b4,b5,b6,b7,b8,b9,b10,b11,b12,b13]):=
 (xb (es0:=es) (es:=es) (ρ1:=[a,.ls es,b2,b3,b4,b5,b6,b7,b8,b9,b10,b11,b12,b13]) rfl rfl rfl h).trans rfl
theorem Uu(c:Int):∃T M dk y,A0 [.int c]=some (uB T M dk y)/\Good T M dk/\(T.filter λt=>decide (t.k=.you)).map Th.n=[y]:=by
 obtain⟨es0,i0,d0⟩:=Kh c 110 (by decide);obtain⟨N,es1,hN,i1,d1⟩:=Q1 i0;obtain⟨r,es2,i2,r0,r1,d2⟩:=vY i1 5 (by decide);obtain⟨r,rfl⟩:=c6 r0;have hr:r<5:=by omega
 let rooms:=N.take (1+r);have hl:rooms.length=1+r:=by simp only[rooms];rw[bo,hN.len];omega
 obtain⟨i,es3,i3,j0,j1,d3⟩:=vY i2 rooms.length (by omega);obtain⟨i,rfl⟩:=c6 j0;have hi:i<rooms.length:=by omega
 have h5:5<N.length:=by rw[hN.len];decide
 let y:=N[5];let z:=rooms[i];have hz:z∈rooms:=cv hi;let B:List Rw:=rooms.map xu++[⟨y,.you,some z⟩];have hB:Ord B:=(N8 rooms).snoc (.inr (.inl ⟨rfl,xu z,bQ hz,rfl,rfl⟩));obtain⟨q,es4,O,hq,i4,hO,hOn,hOp,d4⟩:=N6 hN B i3 hB (rooms:=rooms) (by omega) λx hx=>by
  rcases bx.mp hx with hx|hx
  ·exact⟨xu x,ck _ (bQ hx),rfl,rfl⟩
  ·rw[aV]at hx;exact⟨⟨y,.you,some z⟩,cy _ (aV.mpr rfl),hx.symm,rfl⟩
 have hOl:O.length<=7:=by have:=ba cc hOn;rw[af,bo]at this;omega
 have hBl:B.length<=6:=by simp only[B,aB,af,bh];omega
 obtain⟨es5,R,t6,t7,i5,hR,d5⟩:=Kk (a:=.im (.int c)) (b:=.im (.lst (N.map D.str))) (c:=.im (.lst (rooms.map D.str))) (d:=.im (.lst (B.map ua))) (x8:=.un) (x9:=.un) (x10:=.un) (x11:=.un) (x12:=.un) (x13:=.un) (B++O) es4 [] .un .un i4 (by rw[aB];simp;omega);rw[bY]at hR;obtain⟨p,es6,i6,p0,p1,d6⟩:=vY i5 5 (by decide);obtain⟨p,rfl⟩:=c6 p0;obtain⟨es7,M,t9,t10,i7,hMn,hMo,d7⟩:=MM (a:=.im (.int c)) (b:=.im (.lst (N.map D.str))) (c:=.im (.lst (rooms.map D.str))) (d:=.im (.lst (B.map ua))) (x5:=.im (.lst (R.map ua))) (x6:=t6) (x7:=t7) (x11:=.un) (x12:=.un) (x13:=.un) ((N.drop 13).take p) es6 [] .un .un i6 (by rw[bo,cb,hN.len];simp;omega);rw[bY]at d7;obtain⟨dk,es8,hdk,i8,d8⟩:=Ht (a:=.im (.int c)) (b:=.im (.lst (N.map D.str))) (c:=.im (.lst (rooms.map D.str))) (d:=.im (.lst (B.map ua))) (x5:=.im (.lst (R.map ua))) (x6:=t6) (x7:=t7) (x8:=.ls (M.map mkT)) (x9:=t9) (x10:=t10) (x11:=.un) (x12:=.un) (x13:=.un) rooms es7 i7;obtain⟨T,es9,hT,hw,i9,d9⟩:=F7 (a:=.im (.int c)) (b:=.im (.lst (N.map D.str))) (c:=.im (.lst (rooms.map D.str))) (d:=.im (.lst (B.map ua))) (x5:=.im (.lst (R.map ua))) (x6:=t6) (x7:=t7) (x8:=.ls (M.map mkT)) (x9:=t9) (x10:=t10) (x11:=.im (.lst (dk.map D.str))) (x13:=.un) R es8 i8;obtain⟨g1,g2⟩:=Ut hN (aJ h5) hr hq (by omega) hz hO hOn hOp (hT▸hR) hw hMn hMo hdk;refine⟨T,M,dk,y,uq (ρ:=[.im (.int c),.ls es9,.im (.lst (N.map D.str)),.im (.lst (rooms.map D.str)),.im (.lst (B.map ua)),.im (.lst (R.map ua)),t6,t7,.im (.lst (M.map mkT)),t9,t10,.im (.lst (dk.map D.str)),.im moD,.im (.lst (T.map wdD))]) rfl ?_,g1,g2⟩;unfold AZ;refine(tE (ρ':=[.im (.int c),.ls es0,.un,.un,.un,.un,.un,.un,.un,.un,.un,.un,.un,.un]) ((BY (tK (ds:=[.int c,.int 110]) rfl d0)).trans rfl)).trans ?_;refine(tE (ρ':=[.im (.int c),.ls es1,.im (.lst (N.map D.str)),.un,.un,.un,.un,.un,.un,.un,.un,.un,.un,.un]) ((t8 (xb (es0:=es0) (es:=es0) (ds:=[]) (ρ1:=[.im (.int c),.ls es0,.un,.un,.un,.un,.un,.un,.un,.un,.un,.un,.un,.un]) rfl rfl rfl d1)).trans rfl)).trans ?_;have cutE:∀{lo hi:FO} {ρ ρ1 ρ2:bb} {l h:Option Int},cV 2 ρ=some (.lst (N.map D.str),ρ)->lo ρ=some (l,ρ1)->hi ρ1=some (h,ρ2)->y4 av lo hi ρ=some (cutD (N.map D.str) l h,ρ2):=λ{lo hi ρ ρ1 ρ2 l h} h1 h2 h3=>by unfold y4;simp only[h1,h2,h3]
 have addE:∀{k:Nat} {v:Nat} {n:Int} {ρ ρ1:bb},uG tH 1 (tD (cC (.int n)) tY) ρ=some (.int v,ρ1)->oAt (c2 uP (cC (.int k)) (uG tH 1 (tD (cC (.int n)) tY))) ρ=some (some ((k+v:Nat):Int),ρ1):=λ{k v n ρ ρ1} h=>by unfold oAt;rw[tQ (g:=uP) (x:=.int k) (z:=.int ((k+v:Nat):Int)) rfl h (by show some (D.int ((k:Int)+(v:Int)))=_;congr 2)]
 refine(tE (ρ':=[.im (.int c),.ls es2,.im (.lst (N.map D.str)),.im (.lst (rooms.map D.str)),.un,.un,.un,.un,.un,.un,.un,.un,.un,.un]) ((t8 (uE (cutE rfl rfl (addE (k:=1) (v:=r) (mut1 d2))))).trans ?_)).trans ?_
 ·rw[Q4 (1+r) (by rw[af,hN.len];omega),<- f7];rfl
 let ρ3:List L4.D->bb:=λes=>[.im (.int c),.ls es,.im (.lst (N.map D.str)),.im (.lst (rooms.map D.str)),.un,.un,.un,.un,.un,.un,.un,.un,.un,.un];refine(tE (ρ':=[.im (.int c),.ls es3,.im (.lst (N.map D.str)),.im (.lst (rooms.map D.str)),.im (.lst (B.map ua)),.un,.un,.un,.un,.un,.un,.un,.un,.un]) ((t8 (uE (u4 (xs:=rooms.map λx=>ua (xu x)) (ys:=[ua ⟨y,.you,some z⟩]) (ρ1:=ρ3 es2) (ρ2:=ρ3 es3)
  (uE (Ar D.str (λx=>ua (xu x)) rooms rfl (by omega) λx _=>⟨_,_,rfl,rfl,rfl⟩))
  (uE (AD (tG (wb (ds:=[.str y,.str "you", .str z]) (tG (tQ rfl rfl (wH (j:=5) (aJ h5))) (tG rfl (tG (tQ (ρ1:=ρ3 es2) (x:=.lst (rooms.map D.str)) (y:=.int i) rfl ((xb (i:=1) (es0:=es2) (es:=es2) (ρ1:=ρ3 es2) (ds:=[.int rooms.length]) rfl (by show some ([D.int ((rooms.map D.str).length:Nat)],_)=_;rw[af]) rfl d3).trans rfl) (wH (aJ hi))) rfl))) (by show 3<=1000;decide)) rfl) (by show 1<=1000;decide))) (by rw[af];simp;omega)))).trans ?_)).trans ?_
 ·show some (Out.nx [.im (.int c),.ls es3,.im (.lst (N.map D.str)),.im (.lst (rooms.map D.str)),.im (.lst ((rooms.map λx=>ua (xu x))++[ua ⟨y,.you,some z⟩])),.un,.un,.un,.un,.un,.un,.un,.un,.un])=_;rw[show (rooms.map λx=>ua (xu x))++[ua ⟨y,.you,some z⟩]=B.map ua by simp only[B,aX,aU];rfl]
 refine(tE (ρ':=[.im (.int c),.ls es3,.im (.lst (N.map D.str)),.im (.lst (rooms.map D.str)),.im (.lst (B.map ua)),.im (.lst []),.un,.un,.un,.un,.un,.un,.un,.un]) rfl).trans ?_;let ρ5:List L4.D->bb:=λes=>[.im (.int c),.ls es,.im (.lst (N.map D.str)),.im (.lst (rooms.map D.str)),.im (.lst (B.map ua)),.im (.lst []),.un,.un,.un,.un,.un,.un,.un,.un];refine(tE ((wK (ds:=(B++O).map ua) (ρ1:=ρ5 es4) ?_).trans d5)).trans ?_
 ·have em:uY vT 1 (tD av (tD az tY)) (ρ5 es3)=some (.lst (O.map ua),ρ5 es4):=by
   unfold uY;show (match vT es3 [.lst (N.map D.str),.lst (rooms.map D.str)]with
    |some (d,es')=>some (d,putAt (ρ5 es3) 1 es')
    |none=>none)=_
   rw[d4];rfl
  exact(El (uE (u4 (xs:=B.map ua) (ys:=O.map ua) rfl em (by rw[af,af];omega)))).trans (by rw[<-aX])
 refine(tE (ρ':=[.im (.int c),.ls es5,.im (.lst (N.map D.str)),.im (.lst (rooms.map D.str)),.im (.lst (B.map ua)),.im (.lst (R.map ua)),t6,t7,.ls [],.un,.un,.un,.un,.un]) rfl).trans ?_;refine(tE ((wK (ds:=((N.drop 13).take p).map D.str) (ρ1:=[.im (.int c),.ls es6,.im (.lst (N.map D.str)),.im (.lst (rooms.map D.str)),.im (.lst (B.map ua)),.im (.lst (R.map ua)),t6,t7,.ls [],.un,.un,.un,.un,.un]) ?_).trans d7)).trans ?_
 ·refine(El (uE (cutE (l:=some ((13:Nat):Int)) rfl rfl (addE (k:=13) (v:=p) (mut1 d6))))).trans ?_;have ec:cutD (N.map D.str) (some ((13:Nat):Int)) (some ((13+p:Nat):Int))=((N.drop 13).take p).map D.str:=by rw[ML 13 p (by rw[af,hN.len];omega),f7,fZ]
  rw[ec]
 refine(tE (ρ':=[.im (.int c),.ls es8,.im (.lst (N.map D.str)),.im (.lst (rooms.map D.str)),.im (.lst (B.map ua)),.im (.lst (R.map ua)),t6,t7,.ls (M.map mkT),t9,t10,.im (.lst (dk.map D.str)),.un,.un]) ((t8 (uE ((BZ (ds:=rooms.map D.str) (ρ1:=[.im (.int c),.ls es7,.im (.lst (N.map D.str)),.im (.lst (rooms.map D.str)),.im (.lst (B.map ua)),.im (.lst (R.map ua)),t6,t7,.ls (M.map mkT),t9,t10,.un,.un,.un]) rfl (by rw[af];omega)).trans d8))).trans rfl)).trans ?_;refine(tE (ρ':=[.im (.int c),.ls es8,.im (.lst (N.map D.str)),.im (.lst (rooms.map D.str)),.im (.lst (B.map ua)),.im (.lst (R.map ua)),t6,t7,.ls (M.map mkT),t9,t10,.im (.lst (dk.map D.str)),.im moD,.un]) rfl).trans ?_;have hRl:R.length<=900:=by have:=hR.length_eq;rw[aB]at this;omega
 refine(tE (ρ':=[.im (.int c),.ls es9,.im (.lst (N.map D.str)),.im (.lst (rooms.map D.str)),.im (.lst (B.map ua)),.im (.lst (R.map ua)),t6,t7,.ls (M.map mkT),t9,t10,.im (.lst (dk.map D.str)),.im moD,.im (.lst (T.map wdD))]) ((t8 (uE ((BZ (ds:=R.map ua) (ρ1:=[.im (.int c),.ls es8,.im (.lst (N.map D.str)),.im (.lst (rooms.map D.str)),.im (.lst (B.map ua)),.im (.lst (R.map ua)),t6,t7,.ls (M.map mkT),t9,t10,.im (.lst (dk.map D.str)),.im moD,.un]) rfl (by rw[af];omega)).trans d9))).trans rfl)).trans ?_;refine ug ?_;have eN:c2 dIx av eQ [.im (.int c),.ls es9,.im (.lst (N.map D.str)),.im (.lst (rooms.map D.str)),.im (.lst (B.map ua)),.im (.lst (R.map ua)),t6,t7,.im (.lst (M.map mkT)),t9,t10,.im (.lst (dk.map D.str)),.im moD,.im (.lst (T.map wdD))]=some (.str y,[.im (.int c),.ls es9,.im (.lst (N.map D.str)),.im (.lst (rooms.map D.str)),.im (.lst (B.map ua)),.im (.lst (R.map ua)),t6,t7,.im (.lst (M.map mkT)),t9,t10,.im (.lst (dk.map D.str)),.im moD,.im (.lst (T.map wdD))]):=tQ rfl rfl (wH (j:=5) (aJ h5));have eT:R.map ua=T.map λt=>ua t.rw:=by rw[<-hT,aU];rfl
 unfold uB;rw[<-eT];exact MN (Em rfl (Em rfl (Em rfl (Em rfl (Em eN rfl)))))
theorem Q5:∀T:List Th,K7 (T.map λt=>ua t.rw) (T.map wdD)=T.map λt=>D.tup [ua t.rw,wdD t]
 |[]=>rfl
 |t::T=>by have:=Q5 T;unfold K7 at this ⊢;rw[aE,aE,iC,this];rfl
theorem Uv(g:Good T M dk):A2 [uB T M dk y]=some (wyT T):=by
 have hl:=g.len;let sp:=uB T M dk y;let ρ:bb:=[.im sp,.im (.lst ((rmN T).map D.str))];have hn:1<=(rmN T).length:=by have:=g.r1;unfold rmN;rw[af];exact this
 have h5:(rmN T).length<=5:=by have:=g.r5;unfold rmN;rw[af];exact this
 have h0:dIx (.lst ((rmN T).map D.str)) (.int 0)=some (.str ((rmN T).headD "")):=by
  refine wH (j:=0) ?_;cases e:rmN T with
  |nil=>rw[e]at hn;cases hn
  |cons a r=>rfl
 have h1:dIx (.lst ((rmN T).map D.str)) (.int (((rmN T).length:Int) - 1))=some (.str ((rmN T).getLastD "")):=by
  rw[show ((rmN T).length:Int) - 1=(((rmN T).length - 1:Nat):Int) by omega];refine wH ?_;have hz:rmN T≠[]:=λe=>by rw[e]at hn;cases hn
  rw[m7,List.getLast?_eq_getElem?,aJ (by omega)];rfl
 refine Dc (ρ:=ρ) rfl ?_;unfold A1;have c:=xV (k:=3) (cap:=[]) (g:=gT dc 3) (ft:=cT (c2 (dEq false) ao gu)) (fe:=cV 0) (s:=iL (c2 vd ab (cC (.str "rows")))) (λt:Th=>ua t.rw) (λt=>D.str t.n) (λt=>decide (t.k=.room)) T (ρ:=[.im sp,.un]) (ρ1:=[.im sp,.un]) rfl (by omega) λt _=>⟨[.im (.str t.n),.im (.str t.k.s),.im (oS t.s)],[.im (.str t.n),.im (.str t.k.s),.im (oS t.s)],rfl,uR (tQ rfl rfl (CL t.k .room)),λ_=>⟨_,rfl,rfl⟩,λ_=>rfl⟩
 refine(tE (ρ':=ρ) ((t8 (uE c)).trans ?_)).trans ?_
 ·have:((T.filter λt=>decide (t.k=.room)).map λt=>D.str t.n)=(rmN T).map D.str:=by unfold rmN;rw[aU];rfl
  rw[this];rfl
 have el:c1 vw ao ρ=some (.int ((rmN T).length:Int),ρ):=uD rfl (by show some (D.int _)=_;rw[af]);refine wu (AD (tG (wb (tG (tQ rfl rfl h0) (tG rfl (tG (tQ (ρ1:=ρ) rfl (tQ el rfl rfl) h1) (tG rfl rfl)))) (bP rfl)) (tG (wb (tG (tQ (ρ1:=ρ) rfl rfl h0) (tG rfl (tG (tQ rfl rfl h0) (tG rfl rfl)))) (bP rfl)) rfl)) (bP rfl))
theorem Km(g:Good T M dk)(hy:(T.filter λt=>decide (t.k=.you)).map Th.n=[y])(emo:vO [TD T,MD M]=some mo):ye [uB T M dk y]=some (.obj 14 wNs (wDs T M dk y mo)):=by
 have e:=QY g y hy emo;have hl:=g.len;have hm:=g.m4;let sp:=uB T M dk y;refine uq (ρ:=[.im sp,.im (TD T),.im (MD M)]) rfl ?_;unfold Ad;refine(tE (ρ':=[.im sp,.im (TD T),.un]) ((t8 (uE (Ar (λt=>D.tup [ua t.rw,wdD t]) thD T (ρ1:=[.im sp,.un,.un]) ?_ (by omega) λt _=>⟨[.im (ua t.rw),.im (wdD t)],[.im (ua t.rw),.im (wdD t)],rfl,rfl,rfl⟩))).trans rfl)).trans ?_
 ·show some (K7 (T.map λt=>ua t.rw) (T.map wdD),[Sl.im sp,.un,.un])=_;rw[Q5]
 refine(tE (ρ':=[.im sp,.im (TD T),.im (MD M)]) ((t8 (uE (Ar mkT mkD M (ρ1:=[.im sp,.im (TD T),.un]) rfl (by omega) λm _=>⟨[.im (.str m.n),.im (.int m.st),.im (.int m.mo)],[.im (.str m.n),.im (.int m.st),.im (.int m.mo)],rfl,rfl,rfl⟩))).trans rfl)).trans ?_;exact ug (Ia (g:=λds=>xi (ds++[])) (ds:=[TD T,MD M,.lst (dk.map D.str),.lst (wyT T),.lst [],.lst []]) (tG rfl (tG rfl (tG rfl (tG (uE (tK (ds:=[sp]) rfl (Uv g))) rfl)))) e)
def nmK(T:List Th)(p:Kd->Bool):aD:=(T.filter λt=>p t.k).map Th.n
theorem of_ok{T:List Th}(hl:T.length<=900){K:L4.D}(p:Kd->Bool)(hp:∀k:Kd,dIn false (.str k.s) K=some (.bl (p k))):vU [uB T M dk y,K]=some ((nmK T p).map D.str):=by
 let sp:=uB T M dk y;refine Dc (ρ:=[.im sp,.im K]) rfl ?_;have:=xV (k:=3) (cap:=[1]) (g:=gT dc 3) (ft:=cT (c2 (dIn false) ao az)) (fe:=cV 0) (s:=iL (c2 vd ab (cC (.str "rows")))) (λt:Th=>ua t.rw) (λt=>D.str t.n) (λt=>p t.k) T (ρ:=[.im sp,.im K]) (ρ1:=[.im sp,.im K]) rfl (by omega) λt _=>⟨[.im (.str t.n),.im (.str t.k.s),.im (oS t.s),.im K],[.im (.str t.n),.im (.str t.k.s),.im (oS t.s),.im K],rfl,uR (tQ rfl rfl (hp t.k)),λ_=>⟨_,rfl,rfl⟩,λ_=>rfl⟩
 refine wu (this.trans ?_);unfold nmK;rw[aU];rfl
theorem Y2(k:Kd):dIn false (.str k.s) (.lst [.str "box"])=some (.bl (decide (k=.box))):=by cases k<;>kernel_rfl
theorem U9(k:Kd):dIn false (.str k.s) (.lst [.str "box", .str "lamp"])=some (.bl k.mk):=by cases k<;>kernel_rfl
theorem Uw(k:Kd):dIn false (.str k.s) (.lst [.str "room"])=some (.bl (decide (k=.room))):=by cases k<;>kernel_rfl
def Kd.ot:Kd->Bool
 |.plain=>true|.fixed=>true|.lamp=>true|_=>false
theorem vZ(T:List Th)(p:Kd->Bool):(nmK T p).Sublist (T.map Th.n):=sX _ List.filter_sublist
abbrev dcI(V:List (Str×Int)):L4.D:=.dic (V.map λq=>kS q.1) (V.map λq=>D.int q.2)
def moL(T:List Th)(M:List Mk):List (Str×Int):=((nmK T Kd.mk).map λx=>(x,(1:Int)))++M.map λm=>(m.n,m.mo)
theorem F8(g:Good T M dk):∃V:List (Str×Int),vg [uB T M dk y]=some (dcI V)/\V.map aO=nmK T Kd.mk++M.map Mk.n/\(∀q∈V,1<=q.2)/\V=moL T M:=by
 have hl:=g.len;have hm:=g.m4;let sp:=uB T M dk y;have nd:(nmK T Kd.mk++M.map Mk.n).Nodup:=g.nd.sublist ((vZ T _).append (fT _));have ndk:(((nmK T Kd.mk).map kS)++M.map λm=>kS m.n).Nodup:=by have:=zt nd;rw[aX,aU]at this;exact this
 have hln:(nmK T Kd.mk).length<=200:=by have:=(vZ T Kd.mk).length_le;rw[af]at this;omega
 obtain⟨s2,e1⟩:=zC (g:=gN 2) (i:=1) (fk:=cV 2) (fv:=cC (.int 1)) D.str id (λ_=>D.int 1) (λks ds s=>[.im sp,.dk ks ds,s,.un,.un])
  (λx ks ds s=>⟨[.im sp,.dk ks ds,.im (.str x),.un,.un],rfl,rfl,rfl,rfl,λks' ds'=>⟨_,rfl⟩⟩) (nmK T Kd.mk) [] [] .un (by rw[bY];exact(cA.mp ndk).1) (by simp;omega) rfl
 rw[bY,bY]at e1;have gen:∀(l:List Mk) (ks:List Key) (ds:List L4.D) (a b c:Sl),(ks++l.map λm=>kS m.n).Nodup->ks.length+l.length<=1000->ds.length=ks.length->∃a' b' c',forL (gT mE 3) (vV 1 av aF) (l.map mkT) [.im sp,.dk ks ds,a,b,c]=some (.nx [.im sp,.dk (ks++l.map λm=>kS m.n) (ds++l.map λm=>D.int m.mo),a',b',c']):=by
  intro l
  induction l with
  |nil=>intro ks ds a b c _ _ _;exact⟨a,b,c,by rw[cM,cM,cM,bq,bq];rfl⟩
  |cons m l ih=>
   intro ks ds a b c nd hl he;rw[aM]at hl;have hn:kS m.n∉ks:=λz=>by rw[cA]at nd;exact nd.2.2 _ z _ (by rw[aE];exact bg) rfl
   obtain⟨a',b',c',h⟩:=ih (ks++[kS m.n]) (ds++[.int m.mo]) (.im (.str m.n)) (.im (.int m.st)) (.im (.int m.mo)) (by rw[bD];exact nd) (by rw[aB,bh];omega) (by rw[aB,aB,he,bh,bh]);refine⟨a',b',c',?_⟩;rw[aE];unfold forL;rw[show gT mE 3 (mkT m) [.im sp,.dk ks ds,a,b,c]=some [.im sp,.dk ks ds,.im (.str m.n),.im (.int m.st),.im (.int m.mo)] from rfl];simp only[F1 (i:=1) (fk:=cV 2) (fv:=cV 4) (ρ:=[.im sp,.dk ks ds,.im (.str m.n),.im (.int m.st),.im (.int m.mo)]) (x:=m.n) (d:=.int m.mo) rfl rfl rfl hn (by omega) he];refine h.trans ?_;rw[aE,aE,bD,bD];rfl
 obtain⟨a',b',c',e2⟩:=gen M ((nmK T Kd.mk).map kS) ((nmK T Kd.mk).map λ_=>D.int 1) s2 .un .un ndk (by rw[af];omega) (by rw[af,af]);let V:List (Str×Int):=((nmK T Kd.mk).map λx=>(x,(1:Int)))++M.map λm=>(m.n,m.mo);refine⟨V,uq (ρ:=[.im sp,.im (dcI V),a',b',c']) rfl ?_,?_,λq hq=>?_,rfl⟩
 ·unfold Ae;refine(tE (ρ':=[.im sp,.dk [] [],.un,.un,.un]) rfl).trans ?_;refine(tE ((wK (El (uE (tK (tG rfl (tG rfl rfl)) (of_ok (by omega) Kd.mk U9))))).trans e1)).trans ?_;refine(tE ((wK rfl).trans e2)).trans ?_;have q1:V.map (λq=>kS q.1)=(nmK T Kd.mk).map kS++M.map λm=>kS m.n:=by simp only[V,aX,aU];rfl
  have q2:V.map (λq=>D.int q.2)=((nmK T Kd.mk).map λ_=>D.int 1)++M.map λm=>D.int m.mo:=by simp only[V,aX,aU];rfl
  unfold dcI;rw[q1,q2];rfl
 ·simp only[V,aX,aU];rw[show (aO∘λx:Str=>(x,(1:Int)))=id from rfl,md];rfl
 ·rcases bx.mp hq with h|h
  ·obtain⟨x,_,rfl⟩:=aP.mp h;exact qz _
  ·obtain⟨m,h1,rfl⟩:=aP.mp h;exact(g.mo m h1).1
theorem Dt:∀xs:aD,BE (xs.map D.str)=some (xs.map L3.Dq.str)
 |[]=>rfl
 |x::xs=>by rw[aE];unfold BE;rw[Dt xs];rfl
theorem Q6{T:List Th}(nd:(T.map Th.n).Nodup)(ht:t∈T)(hu:u∈T)(e:t.n=u.n):t=u:=by
 induction T with
 |nil=>cases ht
 |cons a T ih=>
  rw[aE,dq]at nd;rcases aN.mp ht with h1|h1<;>rcases aN.mp hu with h2|h2
  ·exact h1.trans h2.symm
  ·exact aq (show a.n∈T.map Th.n from h1▸e▸bQ h2) nd.1
  ·exact aq (show a.n∈T.map Th.n from h2▸e▸bQ h1) nd.1
  ·exact ih nd.2 h1 h2
theorem CN(h:x∈nmK T p):∃t∈T,t.n=x/\p t.k=true:=by obtain⟨t,h1,h2⟩:=aP.mp h;obtain⟨h3,h4⟩:=bL.mp h1;exact⟨t,h3,h2,h4⟩
theorem Q7{T:List Th}(nd:(T.map Th.n).Nodup)(h:∀k,p k=true->q k=true->False)(h1:x∈nmK T p)(h2:x∈nmK T q):False:=by obtain⟨t,a1,a2,a3⟩:=CN h1;obtain⟨u,b1,b2,b3⟩:=CN h2;have:=Q6 nd a1 b1 (a2.trans b2.symm);subst this;exact h _ a3 b3
theorem Y3{T:List Th}{p q:Kd->Bool}(h:∀k,p k=true->q k=true):(nmK T p).length<=(T.filter λt=>q t.k).length:=by unfold nmK;rw[af,<- mY,<- mY];exact List.countP_mono_left λt _ ht=>h _ ht
abbrev Ky:=Str×Str
def kD(k:Ky):L4.D:=.tup [.str k.1,.str k.2]
abbrev wO(T:List Th)(M:List Mk)(dk:aD)(y:Str)(mo:L4.D):L4.D:=.obj 14 wNs (wDs T M dk y mo)
section
variable{y:Str}{T:List Th}{M:List Mk}{dk:aD}
theorem Kn(g:Good T M dk):vO [TD T,MD M]=some (dcI (moL T M)):=by
 have hl:=g.len;have hm:=g.m4;have nd:(nmK T Kd.mk++M.map Mk.n).Nodup:=g.nd.sublist ((vZ T _).append (fT _));have ndk:(((nmK T Kd.mk).map kS)++M.map λm=>kS m.n).Nodup:=by have:=zt nd;rw[aX,aU]at this;exact this
 have hln:(nmK T Kd.mk).length<=200:=by have:=(vZ T Kd.mk).length_le;rw[af]at this;omega
 have g1:∀(l:List Th) (ks:List Key) (ds:List L4.D) (s:Sl),(ks++(nmK l Kd.mk).map kS).Nodup->ks.length+l.length<=900->ds.length=ks.length->∃s',forL (gN 3) (sIf (cT (uJ vA "has_mark" az tY)) (vV 2 (c1 (uh ui "name") az) aL) uc) (l.map thD) [.im (TD T),.im (MD M),.dk ks ds,s,.un]=some (.nx [.im (TD T),.im (MD M),.dk (ks++(nmK l Kd.mk).map kS) (ds++(nmK l Kd.mk).map λ_=>D.int 1),s',.un]):=by
  intro l
  induction l with
  |nil=>exact λks ds s _ _ _=>⟨s,by unfold nmK;simp;rfl⟩
  |cons t l ih=>
   intro ks ds s nd hk he;rw[aM]at hk;have em:cT (uJ vA "has_mark" az tY) [.im (TD T),.im (MD M),.dk ks ds,.im (thD t),.un]=some (t.k.mk,[.im (TD T),.im (MD M),.dk ks ds,.im (thD t),.un]):=uR (ve (xs:=[.str t.n,.tup (t.w.map D.str),.str t.k.s,oS t.s]) (ys:=[]) rfl rfl rfl rfl (MH t));cases q:t.k.mk with
   |true=>
    rw[q]at em;have e0:nmK (t::l) Kd.mk=t.n::nmK l Kd.mk:=by unfold nmK;rw[eY,q,ah rfl,aE]
    rw[e0,aE]at nd;rw[e0,aE,aE];have hn:kS t.n∉ks:=λz=>by rw[cA]at nd;exact nd.2.2 _ z _ bg rfl
    obtain⟨s',h⟩:=ih (ks++[kS t.n]) (ds++[.int 1]) (.im (thD t)) (by rw[bD];exact nd) (by rw[aB,bh];omega) (by rw[aB,aB,he,bh,bh]);refine⟨s',?_⟩;rw[aE];unfold forL;rw[show gN 3 (thD t) [.im (TD T),.im (MD M),.dk ks ds,s,.un]=some [.im (TD T),.im (MD M),.dk ks ds,.im (thD t),.un] from rfl];have ev:=(ux (f:=vV 2 (c1 (uh ui "name") az) aL) (g:=uc) em).trans (F1 (i:=2) (fk:=c1 (uh ui "name") az) (fv:=cC (.int 1)) (ρ:=[.im (TD T),.im (MD M),.dk ks ds,.im (thD t),.un]) (x:=t.n) (d:=.int 1) rfl rfl (uD rfl (zi t)) hn (by omega) he);simp only[ev];refine h.trans ?_;rw[bD,bD];rfl
   |false=>
    rw[q]at em;have e0:nmK (t::l) Kd.mk=nmK l Kd.mk:=by unfold nmK;rw[eY,q,ai (by decide)]
    rw[e0]at nd ⊢;obtain⟨s',h⟩:=ih ks ds (.im (thD t)) nd (by omega) he;refine⟨s',?_⟩;rw[aE];unfold forL;rw[show gN 3 (thD t) [.im (TD T),.im (MD M),.dk ks ds,s,.un]=some [.im (TD T),.im (MD M),.dk ks ds,.im (thD t),.un] from rfl];have ev:=(ur (f:=vV 2 (c1 (uh ui "name") az) aL) (g:=uc) em);simp only[ev];exact h
 obtain⟨s1,e1⟩:=g1 T [] [] .un (by rw[bY];exact(cA.mp ndk).1) (by simp;omega) rfl;rw[bY,bY]at e1;obtain⟨s2,e2⟩:=zC (g:=gN 4) (i:=2) (fk:=c1 (uh ui "name") aF) (fv:=c1 (uh yy "most") aF) mkD Mk.n (λm=>D.int m.mo) (λks ds s=>[.im (TD T),.im (MD M),.dk ks ds,s1,s])
  (λm ks ds s=>⟨[.im (TD T),.im (MD M),.dk ks ds,s1,.im (mkD m)],rfl,uD rfl (Ul m),rfl,uD rfl (IG m),λks' ds'=>⟨_,rfl⟩⟩) M ((nmK T Kd.mk).map kS) ((nmK T Kd.mk).map λ_=>D.int 1) .un ndk (by rw[af];omega) (by rw[af,af])
 refine uq (ρ:=[.im (TD T),.im (MD M),.im (dcI (moL T M)),s1,s2]) rfl ?_;unfold xU;refine(tE (ρ':=[.im (TD T),.im (MD M),.dk [] [],.un,.un]) rfl).trans ?_;refine(tE ((wK rfl).trans e1)).trans ((tE ((wK rfl).trans e2)).trans ?_);have q1:(moL T M).map (λq=>kS q.1)=(nmK T Kd.mk).map kS++M.map λm=>kS m.n:=by simp only[moL,aX,aU];rfl
 have q2:(moL T M).map (λq=>D.int q.2)=((nmK T Kd.mk).map λ_=>D.int 1)++M.map λm=>D.int m.mo:=by simp only[moL,aX,aU];rfl
 unfold dcI;rw[q1,q2];rfl
theorem Bd:(moL T M).map aO=nmK T Kd.mk++M.map Mk.n:=by simp only[moL,aX,aU];rw[show (aO∘λx:Str=>(x,(1:Int)))=id from rfl,md];rfl
abbrev wM(T:List Th)(M:List Mk)(dk:aD)(y:Str):L4.D:=wO T M dk y (dcI (moL T M))
theorem Q8{V:List (Str×Int)}(nv:(V.map aO).Nodup)(h:(x,z)∈V):vp (V.map λq=>kS q.1) (V.map λq=>D.int q.2) (kS x)=some (.int z):=
 Ca (by have:=zt nv;rw[aU]at this;exact this) (by rw[lT];exact aP.mpr ⟨_,h,rfl⟩)
theorem Ux(nd:(nmK T Kd.mk++M.map Mk.n).Nodup)(h:(x,m)∈moL T M):vR [wM T M dk y,.str x]=some (.int m):=by refine uq (ρ:=[.im (wM T M dk y),.im (.str x)]) rfl (ug (tQ (x:=dcI (moL T M)) (y:=.str x) rfl rfl ?_));show some ((vp _ _ (kS x)).getD .non)=_;rw[Q8 (by rw[Bd];exact nd) h];rfl
theorem Ko(h:c ρ=some (true,ρ1)):cIf c f g ρ=f ρ1:=by unfold cIf;rw[h]
theorem F9(h:c ρ=some (false,ρ1)):cIf c f g ρ=g ρ1:=by unfold cIf;rw[h]
theorem Uy{V:List (Str×Int)}(h:x∉V.map aO):vp (V.map λq=>kS q.1) (V.map λq=>D.int q.2) (kS x)=none:=by refine Dh λz=>h ?_;obtain⟨q,hq,e⟩:=aP.mp z;exact aP.mpr ⟨q,hq,IJ e⟩
theorem Uz(h:x∉nmK T Kd.mk++M.map Mk.n):vR [wM T M dk y,.str x]=some .non:=by refine uq (ρ:=[.im (wM T M dk y),.im (.str x)]) rfl (ug (tQ (x:=dcI (moL T M)) (y:=.str x) rfl rfl ?_));show some ((vp _ _ (kS x)).getD .non)=_;rw[Uy (by rw[Bd];exact h)];rfl
theorem Q9(h:x∉nmK T Kd.mk++M.map Mk.n):xj [wM T M dk y,.str x]=some (.lst []):=by let ρ:bb:=[.im (wM T M dk y),.im (.str x)];refine uq (ρ:=ρ) rfl (ug ?_);have t:cT (c2 Bi (uJ wF "most_of" ab (tD ao tY)) bF) ρ=some (true,ρ):=uR (tQ (ve (xs:=wDs T M dk y (dcI (moL T M))) (ys:=[.str x]) (hh:=vR) rfl rfl rfl rfl (Uz h)) rfl rfl);exact(Ko t).trans rfl
theorem N9(nd:(nmK T Kd.mk++M.map Mk.n).Nodup)(h:(x,m)∈moL T M):xj [wM T M dk y,.str x]=some (.lst [kD ("mark", x)]):=by let ρ:bb:=[.im (wM T M dk y),.im (.str x)];refine uq (ρ:=ρ) rfl (ug ?_);have t:cT (c2 Bi (uJ wF "most_of" ab (tD ao tY)) bF) ρ=some (false,ρ):=uR (tQ (ve (xs:=wDs T M dk y (dcI (moL T M))) (ys:=[.str x]) (hh:=vR) rfl rfl rfl rfl (Ux nd h)) rfl rfl);exact(F9 t).trans rfl
def noT(x:Str):Bool:=decide (x∉(["here", "it", "other"]:aD))
theorem Y4(h:Nm x):x∉(["here", "it", "other"]:aD):=bK (IH (p:=noT) (by kernel_rfl) h)
end
section
variable{y:Str}{T:List Th}{M:List Mk}{dk:aD}{mo:L4.D}
theorem Kp(nd:(T.map Th.n).Nodup)(ht:t∈T):wA [wO T M dk y mo,.str t.n]=some (thD t):=by refine uq (ρ:=[.im (wO T M dk y mo),.im (.str t.n)]) rfl (ug (tQ (x:=.dic (nK T) (T.map thD)) (y:=.str t.n) rfl rfl ?_));show some ((vp (nK T) (T.map thD) (kS t.n)).getD .non)=_;rw[Ca (MI nd) (d:=thD t) (by unfold nK;rw[lT];exact aP.mpr ⟨t,ht,rfl⟩)];rfl
theorem Lu(nd:(T.map Th.n).Nodup)(ht:t∈T)(hk:t.k≠.room):vo [wO T M dk y mo,.str t.n]=some (.lst [kD ("at", t.n)]):=by let W:=wO T M dk y mo;let ρ:bb:=[.im W,.im (.str t.n),.im (thD t)];refine uq (ρ:=ρ) rfl ?_;unfold z8;refine(tE (ρ':=ρ) ((t8 (ve (xs:=wDs T M dk y mo) (ys:=[.str t.n]) (hh:=wA) rfl rfl rfl rfl (Kp nd ht))).trans rfl)).trans (ug ?_);have e:cT (c2 (dEq false) (c1 (uh uL "kind") av) gu) ρ=some (false,ρ):=uR (tQ (x:=.str t.k.s) (y:=.str "room") (uD rfl (A4 t)) rfl ((CL t.k .room).trans (by rw[aT hk])));exact(F9 (y3 (ρ1:=ρ) rfl e)).trans rfl
end
section
variable{y:Str}{T:List Th}{M:List Mk}{dk:aD}
theorem tk(hn:0<n)(hi:IL es)(h0:vv ρ j=some es)(he:e ρ=some (.int n,ρ)):∃r es',IL es'/\0<=r/\r<n/\uG tH j (tD e tY) ρ=some (.int r,putAt ρ j es'):=by obtain⟨r,es',h1,h2,h3,h4⟩:=vY hi n hn;exact⟨r,es',h1,h2,h3,xb h0 (tG he rfl) h0 h4⟩
theorem pk(hl:l≠[])(hi:IL es)(h0:vv ρ j=some es)(hv:cV i ρ=some (.lst (l.map D.str),ρ)):∃x es',x∈l/\IL es'/\c2 dIx (cV i) (uG tH j (tD (c1 vw (cV i)) tY)) ρ=some (.str x,putAt ρ j es'):=by
 have hp:=eE.mpr hl;obtain⟨r,es',h1,h2,h3,h4⟩:=tk (n:=l.length) (e:=c1 vw (cV i)) (by omega) hi h0 (uD hv (by show some (D.int _)=_;rw[af]));obtain⟨r,rfl⟩:=c6 h2;have hr:r<l.length:=by omega
 exact⟨l[r],es',cv hr,h1,tQ hv h4 (wH (aJ hr))⟩
theorem En(x:Str)(xs:aD):dEq false (.lst ((x::xs).map D.str)) (.lst [])=some (.bl false):=by
 have e0:Gi false (.lst ((x::xs).map D.str)) (.lst [])=none:=rfl;have e1:toD (.lst ((x::xs).map D.str))=some (.lst ((x::xs).map L3.Dq.str)):=by unfold toD;rw[Dt]
 have e3:dpt (.lst ((x::xs).map L3.Dq.str))=1:=by rw[dpt,CV]
 unfold dEq;rw[e0];show JB false _ _=_;unfold JB;rw[e1,show toD (.lst [])=some (.lst []) from rfl];show (if Jn (.lst ((x::xs).map L3.Dq.str)) (.lst [])&&decide (dpt (.lst ((x::xs).map L3.Dq.str))<=20)&&decide (dpt (.lst [])<=20)then some (D.bl (eqD (.lst ((x::xs).map L3.Dq.str)) (.lst [])))else none)=_;rw[e3];rfl
theorem aaX(k:Kd):dIn false (.str k.s) (.lst [.str "plain", .str "fixed", .str "box", .str "lamp"])=some (.bl k.pl):=by cases k<;>kernel_rfl
theorem CO(h:c ρ=some (true,ρ1)):xX c c' ρ=some (true,ρ1):=by unfold xX;rw[h]
inductive Cm(sm:aD):L4.D->Str->Prop
 |go (z:Str):Cm sm (.tup [.str "go", .str z,.non]) "way"
 |wait:Cm sm (.tup [.str "wait", .non,.non]) "alone"
 |take {a:Str}:a∈sm->Cm sm (.tup [.str "take", .str a,.non]) "one"
 |put {a b:Str}:a∈sm->b∈sm->Cm sm (.tup [.str "put", .str a,.str b]) "two"
theorem UA(h:Cm sm c f):A3 [c]=some (.str f):=by cases h<;>kernel_rfl
theorem Lv(h0:0<=r)(h1:r<2):dIx (.lst [a,b]) (.int r)=some (if r=0 then a else b):=by
 have:r=0\/r=1:=by omega
 rcases this with rfl|rfl<;>rfl
abbrev qG:=(tD (cC (.str "north")) (tD (cC (.str "up")) tY))
abbrev qN:=(tD (uA (tD (cC (.str "go")) (tD (c2 dIx (cL (tZ qG)) (uG tH 1 mW)) (tD bF tY)))) (tD (uA (tD (cC (.str "wait")) (tD bF (tD bF tY)))) tY))
theorem Lx(g:Good T M dk)(hi:IL es):∃c f es',IL es'/\Cm (nmK T Kd.pl) c f/\wg es [uB T M dk y]=some (c,es'):=by
 let sp:=uB T M dk y;let sm:=nmK T Kd.pl;let L:L4.D:=.lst (sm.map D.str);have hl:=g.len;have run:∃c f es' x4,IL es'/\Cm sm c f/\∃x3,xm (stL 5 es [sp])=some (.rt c [.im sp,.pm es',.im L,x3,x4]):=by
  unfold xm;have e1:(um 2 (cL (uF vU (tD ab (tD (cL (tZ (tD mG (tD (cC (.str "fixed")) (tD iq (tD mI tY)))))) tY)))):FS) (stL 5 es [sp])=some (.nx [.im sp,.pm es,.im L,.un,.un]):=(t8 (uE (tK (tG rfl (tG rfl rfl)) (of_ok (by omega) Kd.pl aaX)))).trans rfl;rw[tE e1];obtain⟨w,es1,i1,w0,w1,h1⟩:=tk (ρ:=[.im sp,.pm es,.im L,.un,.un]) (j:=1) (e:=cC (.int 8)) (n:=8) (by decide) hi rfl rfl;rw[tE ((t8 h1).trans (show _=some (Out.nx [.im sp,.pm es1,.im L,.im (.int w),.un]) from rfl))];let ρ:bb:=[.im sp,.pm es1,.im L,.im (.int w),.un];have far:∃c f es',IL es'/\Cm sm c f/\(ub (c2 dIx (cL (tZ qN)) (c2 wa az cu)):FS) ρ=some (.rt c [.im sp,.pm es',.im L,.im (.int w),.un]):=by
   obtain⟨r,es2,i2,r0,r1,h2⟩:=tk (ρ:=ρ) (j:=1) (e:=cC (.int 2)) (n:=2) (by decide) i1 rfl rfl;have m0:=lE w (by decide:(2:Int)≠0);have m1:=kP w (by decide:(0:Int)<2);let z:Str:=if r=0 then "north" else "up"
   let ρ2:bb:=[.im sp,.pm es2,.im L,.im (.int w),.un];have ez:(if r=0 then D.str "north" else .str "up")=.str z:=by show _=D.str (if r=0 then "north" else "up");split<;>rfl
   have en:=tQ (g:=dIx) (e:=cL (tZ qG)) (ρ:=ρ) (ρ1:=ρ) rfl h2 ((Lv r0 r1).trans (ba some ez));have er:=ug (tQ (g:=dIx) (e:=cL (tZ qN)) (e':=c2 wa az cu) (x:=.lst [.tup [.str "go", .str z,.non],.tup [.str "wait", .non,.non]]) (y:=.int (w % 2)) (ρ:=ρ) (ρ1:=ρ2) (ρ2:=ρ2) (uE (AD (tG (wb (tG rfl (tG en rfl)) (bP rfl)) rfl) (bP rfl))) (tQ rfl rfl (xZ (by decide))) (Lv m0 m1));by_cases hw:w % 2=0
   ·rw[ah hw]at er;exact⟨_,_,es2,i2,.go z,er⟩
   ·rw[ai hw]at er;exact⟨_,_,es2,i2,.wait,er⟩
  obtain⟨c0,f0,es0,j0,k0,far⟩:=far;by_cases h0:sm=[]
  ·have et:xX (cT (c2 (dEq false) av (cL (tZ tY)))) (cT (c2 Fb az eQ)) ρ=some (true,ρ):=CO (uR (tQ (x:=L) (y:=.lst []) rfl rfl (by show dEq false (.lst (sm.map D.str)) _=_;rw[h0];rfl)));exact⟨c0,f0,es0,_,j0,k0,_,uC ((ux et).trans far)⟩
  ·have ee:cT (c2 (dEq false) av (cL (tZ tY))) ρ=some (false,ρ):=uR (tQ (x:=L) (y:=.lst []) rfl rfl (by
    show dEq false (.lst (sm.map D.str)) _=_;obtain⟨a,r,e⟩:=jr h0;rw[e];exact En a r))
   have et:xX (cT (c2 (dEq false) av (cL (tZ tY)))) (cT (c2 Fb az eQ)) ρ=some (decide (w > 5),ρ):=y3 ee (uR (tQ rfl rfl rfl));by_cases hw:w > 5
   ·rw[aY hw]at et;exact⟨c0,f0,es0,_,j0,k0,_,uC ((ux et).trans far)⟩
   ·rw[aT hw]at et;rw[tE ((ur et).trans (show _=some (Out.nx ρ) from rfl))];obtain⟨a,es2,ha,i2,h2⟩:=pk (ρ:=ρ) (i:=2) (j:=1) h0 i1 rfl rfl;rw[tE ((t8 h2).trans (show _=some (Out.nx [.im sp,.pm es2,.im L,.im (.int w),.im (.str a)]) from rfl))];let ρ2:bb:=[.im sp,.pm es2,.im L,.im (.int w),.im (.str a)];have e2:cT (c2 Bh az cu) ρ2=some (decide (w<2),ρ2):=uR (tQ rfl rfl rfl);by_cases hw:w<2
    ·rw[aY hw]at e2;exact⟨_,_,es2,_,i2,.take ha,_,uC ((ux e2).trans rfl)⟩
    ·rw[aT hw]at e2;rw[tE ((ur e2).trans (show _=some (Out.nx ρ2) from rfl))];obtain⟨b,es3,hb,i3,h3⟩:=pk (ρ:=ρ2) (i:=2) (j:=1) h0 i2 rfl rfl;exact⟨_,_,es3,_,i3,.put ha hb,_,ug (wb (tG rfl (tG rfl (tG h3 rfl))) (bP rfl))⟩
 obtain⟨c,f,es',x4,i',cm,x3,run⟩:=run;refine⟨c,f,es',i',cm,?_⟩;unfold wg fnL;rw[ah (show [sp].length=1 from rfl),run];rfl
end
section
variable{y:Str}{T:List Th}{M:List Mk}{dk:aD}
abbrev mks(T:List Th)(M:List Mk):aD:=nmK T Kd.mk++M.map Mk.n
theorem ndM(g:Good T M dk):(mks T M).Nodup:=g.nd.sublist ((vZ T _).append (fT _))
theorem UB(g:Good T M dk):(mks T M).length<=11:=by
 unfold mks;rw[aB,af];have h2:=Y3 (T:=T) (p:=Kd.mk) (q:=Kd.pl) λk h=>by cases k<;>first|rfl|cases h
 have h3:=g.p7;have h4:=g.m4;omega
inductive Tm:L4.D->Str->Str->Prop
 |it1 (a:Str):Tm (.tup [.str "take", .str a,.non]) "it" a
 |it2 (a b:Str):Tm (.tup [.str "put", .str a,.str b]) "it" a
 |oth (a b:Str):Tm (.tup [.str "put", .str a,.str b]) "other" b
 |nm (c:L4.D) {x:Str}:Nm x->Tm c x x
theorem Hu:∀V:List (Str×Int),DP (V.map λq=>kS q.1)=some (V.map aO)
 |[]=>rfl
 |q::V=>by rw[aE,aE];show (DP _).map _=_;rw[Hu V];rfl
theorem Rb{V:List (Str×Int)}(h:e ρ=some (dcI V,ρ))(hl:V.length<64):Dl e ρ=some ((DN (V.map aO)).map D.str,ρ):=by unfold Dl;rw[h];simp only[Hu,af,hl,if_true]
theorem zD(h:c ρ=some (true,ρ1)):xI c c' ρ=c' ρ1:=by unfold xI;rw[h]
theorem Be(h:c ρ=some (false,ρ1)):xI c c' ρ=some (false,ρ1):=by unfold xI;rw[h]
abbrev ka:=(tD (cC (.str "one")) (tD (cC (.str "two")) tY))
abbrev kc:=(cC (.str "two"))
abbrev mR:=(cC (.str "other"))
abbrev qH:=(tD (cC (.str "it")) (tD mR tY))
abbrev qM:=(tD (c2 dIx (cL (tZ (tD (cC (.str "it")) (tD (c2 dIx (cL (tZ qH)) (c1 JC (c2 (dEq false) ao kc))) tY)))) (uG tH 2 mW)) (tD (uG tH 2 (tD fJ tY)) tY))
theorem Oa(g:Good T M dk)(cm:Cm (nmK T Kd.pl) c f)(hi:IL es)(hf:f="one" \/ f="two" \/ moL T M≠[]):∃t z v es',IL es'/\Tm c t z/\wG es [uB T M dk y,.str f]=some (.tup [.str t,.int v],es'):=by
 let sp:=uB T M dk y;obtain⟨V,em,v1,v2,rfl⟩:=F8 (y:=y) g;let N:=DN ((moL T M).map aO);let L:L4.D:=.lst (N.map D.str);have hN:∀x,x∈N ↔ x∈(moL T M).map aO:=λx=>(kG _ leS).mem_iff;have hl:(moL T M).length<=11:=by have:=UB g;have h:=ba cc v1;rw[af]at h;rw[h];exact this
 let ρ:List L4.D->Sl->bb:=λes s=>[.im sp,.im (.str f),.pm es,.im (dcI (moL T M)),.im L,s];have byit:∀es1,IL es1->(f="one" \/ f="two")->∃t z v es',IL es'/\Tm c t z/\(ub (uA qM):FS) (ρ es1 .un)=some (.rt (.tup [.str t,.int v]) (ρ es' .un)):=λes1 i1 h=>by
  obtain⟨r,es2,i2,r0,r1,h2⟩:=tk (ρ:=ρ es1 .un) (j:=2) (e:=cC (.int 2)) (n:=2) (by decide) i1 rfl rfl;obtain⟨v,es3,i3,_,_,h3⟩:=tk (ρ:=ρ es2 .un) (j:=2) (e:=cC (.int 4)) (n:=4) (by decide) i2 rfl rfl;have fin:∀b:Str,c2 dIx (cL (tZ qH)) (c1 JC (c2 (dEq false) ao kc)) (ρ es1 .un)=some (.str b,ρ es1 .un)->(ub (uA qM):FS) (ρ es1 .un)=some (.rt (.tup [.str (if r=0 then "it" else b),.int v]) (ρ es3 .un)):=λb eb=>by
   have ez:(if r=0 then D.str "it" else .str b)=.str (if r=0 then "it" else b):=by split<;>rfl
   exact ug (wb (tG (tQ (x:=.lst [.str "it", .str b]) (y:=.int r) (ρ1:=ρ es1 .un) (uE (AD (tG rfl (tG eb rfl)) (bP rfl))) h2 ((Lv r0 r1).trans (ba some ez))) (tG h3 rfl)) (bP rfl))
  cases cm with
  |go z=>rcases h with h|h<;>exact aq h (by decide)
  |wait=>rcases h with h|h<;>exact aq h (by decide)
  |@take a ha=>refine⟨_,a,v,es3,i3,?_,fin "it" (by kernel_rfl)⟩;rw[ite_self];exact .it1 a
  |@put a b ha hb=>
   by_cases hr:r=0
   ·refine⟨_,a,v,es3,i3,?_,fin "other" (by kernel_rfl)⟩;rw[ah hr];exact .it2 a b
   ·refine⟨_,b,v,es3,i3,?_,fin "other" (by kernel_rfl)⟩;rw[ai hr];exact .oth a b
 have byname:∀es1,IL es1->N≠[]->∃t z v es' s,IL es'/\Tm c t z/\(tI (um 5 (c2 dIx aF (uG tH 2 (tD (c1 vw aF) tY))))
   (ub (uA (tD bB (tD (uG tH 2 (tD (c2 uP (c2 vd az bB) aL) tY)) tY)))):FS) (ρ es1 .un)=some (.rt (.tup [.str t,.int v]) (ρ es' s)):=λes1 i1 h=>by
  obtain⟨x,es2,hx,i2,h2⟩:=pk (ρ:=ρ es1 .un) (i:=4) (j:=2) h i1 rfl rfl;obtain⟨q,hq,rfl⟩:=aP.mp ((hN x).mp hx);have h1:=v2 q hq;have hm:q.1∈mks T M:=by show q.1∈nmK T Kd.mk++M.map Mk.n;rw[<-v1];exact aP.mpr ⟨q,hq,rfl⟩
  have nm:Nm q.1:=g.nm _ (((vZ T Kd.mk).append (fT _)).subset hm);rw[tE ((t8 h2).trans (show _=some (Out.nx (ρ es2 (.im (.str q.1)))) from rfl))];obtain⟨v,es3,i3,_,_,h3⟩:=tk (ρ:=ρ es2 (.im (.str q.1))) (j:=2) (e:=c2 uP (c2 vd az bB) aL) (n:=q.2+1) (by omega) i2 rfl (tQ (x:=.int q.2) (y:=.int 1) (tQ (x:=dcI (moL T M)) (y:=.str q.1) rfl rfl (Q8 (by rw[v1];exact ndM g) (x:=q.1) (z:=q.2) hq)) rfl rfl);exact⟨q.1,q.1,v,es3,_,i3,.nm c nm,ug (wb (tG rfl (tG h3 rfl)) (bP rfl))⟩
 have run:∃t z v es' s,IL es'/\Tm c t z/\xH (stL 6 es [sp,.str f])=some (.rt (.tup [.str t,.int v]) (ρ es' s)):=by
  unfold xH;rw[tE ((t8 (tK (ds:=[sp]) (ρ1:=[.im sp,.im (.str f),.pm es,.un,.un,.un]) rfl em)).trans (show _=some (Out.nx [.im sp,.im (.str f),.pm es,.im (dcI (moL T M)),.un,.un]) from rfl))];rw[tE ((t8 (uE (Rb (V:=moL T M) rfl (by omega)))).trans (show _=some (Out.nx (ρ es .un)) from rfl))];by_cases h12:f="one" \/ f="two"
  ·have e1:cT (c2 (dIn false) ao (cL (tZ ka))) (ρ es .un)=some (true,ρ es .un):=by rcases h12 with h|h<;>(subst h;kernel_rfl)
   by_cases h0:N=[]
   ·obtain⟨t,z,v,es',i',tm,e⟩:=byit es hi h12;exact⟨t,z,v,es',.un,i',tm,uC ((ux ((zD e1).trans (CO (uR (tQ (x:=L) (y:=.lst []) rfl rfl (by show dEq false (.lst (N.map D.str)) _=_;rw[h0];rfl)))))).trans e)⟩
   ·have e2:cT (c2 (dEq false) aF (cL (tZ tY))) (ρ es .un)=some (false,ρ es .un):=uR (tQ (x:=L) (y:=.lst []) rfl rfl (by
     show dEq false (.lst (N.map D.str)) _=_;obtain⟨a,r,e⟩:=jr h0;rw[e];exact En a r))
    obtain⟨r,es1,i1,_,_,h1⟩:=tk (ρ:=ρ es .un) (j:=2) (e:=cC (.int 2)) (n:=2) (by decide) hi rfl rfl;have e3:=(zD e1).trans (y3 e2 (uR (tQ (e':=cC (.int 0)) h1 rfl (zR false r 0))));by_cases hr:r=0
    ·obtain⟨t,z,v,es',i',tm,e⟩:=byit es1 i1 h12;rw[aY hr]at e3;exact⟨t,z,v,es',.un,i',tm,uC ((ux e3).trans e)⟩
    ·obtain⟨t,z,v,es',s,i',tm,e⟩:=byname es1 i1 h0;rw[aT hr]at e3;exact⟨t,z,v,es',s,i',tm,(tE ((ur e3).trans rfl)).trans e⟩
  ·have h0:N≠[]:=λh=>by
    rcases hf with h'|h'|h'
    ·exact h12 (.inl h')
    ·exact h12 (.inr h')
    ·obtain⟨q,r,e⟩:=jr h';have:q.1∈N:=(hN _).mpr (by rw[e];exact bg ..);rw[h]at this;cases this
   have e1:cT (c2 (dIn false) ao (cL (tZ ka))) (ρ es .un)=some (false,ρ es .un):=uR (tQ (x:=.str f) (y:=.lst [.str "one", .str "two"]) rfl rfl ((AF false f ["one", "two"]).trans (by simp;exact⟨λh=>h12 (.inl h),λh=>h12 (.inr h)⟩)));obtain⟨t,z,v,es',s,i',tm,e⟩:=byname es hi h0;exact⟨t,z,v,es',s,i',tm,(tE ((ur (Be e1)).trans rfl)).trans e⟩
 obtain⟨t,z,v,es',s,i',tm,run⟩:=run;refine⟨t,z,v,es',i',tm,?_⟩;unfold wG fnL;rw[ah (show [sp,D.str f].length=2 from rfl),run];rfl
end
section
variable{y:Str}{T:List Th}{M:List Mk}{dk:aD}
inductive Tp(T:List Th) (c:L4.D):Str->Option Str->Prop
 |here:Tp T c "here" none
 |tm {p w:Str}:Tm c p w->w∈T.map Th.n->Tp T c p (some w)
theorem aaY(k:Kd):dIn false (.str k.s) (.lst [.str "room", .str "box", .str "you"])=some (.bl k.hd):=by cases k<;>kernel_rfl
theorem Re(cm:Cm sm c f):dIn false (.str f) (.lst [.str "one", .str "two"])=some (.bl (decide (f="one" \/ f="two"))):=by cases cm<;>kernel_rfl
theorem is2(cm:Cm sm c f):dEq false (.str f) (.str "two")=some (.bl (decide (f="two"))):=by cases cm<;>kernel_rfl
theorem nmN(g:Good T M dk)(h:x∈nmK T p):Nm x:=g.nm _ (ck _ ((vZ T p).subset h))
theorem MO{sm:aD}{c:L4.D}{f:Str}(cm:Cm sm c f){t:Str}(h:(t="it" /\ (f="one" \/ f="two"))\/(t="other" /\ f="two")):∃z,Tm c t z/\z∈sm:=by
 cases cm with
 |go z=>rcases h with ⟨_,h|h⟩|⟨_,h⟩<;>exact aq h (by decide)
 |wait=>rcases h with ⟨_,h|h⟩|⟨_,h⟩<;>exact aq h (by decide)
 |@take a ha=>
  rcases h with ⟨rfl,_⟩|⟨_,h⟩
  ·exact⟨a,.it1 a,ha⟩
  ·exact aq h (by decide)
 |@put a b ha hb=>
  rcases h with ⟨rfl,_⟩|⟨rfl,_⟩
  ·exact⟨a,.it2 a b,ha⟩
  ·exact⟨b,.oth a b,hb⟩
def itL(n:Nat)(f:Str):aD:=if f="one" \/ f="two" then fw n "it" else []
def otL(f:Str):aD:=if f="two" then ["other", "other"]else []
theorem Rf{sm:aD}{c:L4.D}{f:Str}(cm:Cm sm c f){n:Nat}{t:Str}(h:t∈itL n f\/t∈otL f):∃z,Tm c t z/\z∈sm:=by
 refine MO cm ?_;rcases h with h|h
 ·unfold itL at h;split at h
  ·rename_i e;exact .inl ⟨(List.mem_replicate.mp h).2,e⟩
  ·cases h
 ·unfold otL at h;split at h
  ·rename_i e;refine .inr ⟨?_,e⟩;rcases aN.mp h with h|h
   ·exact h
   ·exact aV.mp h
  ·cases h
theorem Rg(g:Good T M dk)(cm:Cm (nmK T Kd.pl) c f)(hi:IL es):∃p w es',IL es'/\Tp T c p w/\yg es [uB T M dk y,.str f]=some (.str p,es'):=by
 let sp:=uB T M dk y;let hs:=nmK T Kd.hd;let L:L4.D:=.lst (hs.map D.str);have hl:=g.len;have h0:hs≠[]:=λe=>by have:=g.r1;obtain⟨t,ht⟩:=List.exists_mem_of_length_pos (by omega:0<(T.filter λt=>decide (t.k=.room)).length);rw[bL]at ht;have hm:t.n∈hs:=aP.mpr ⟨t,bL.mpr ⟨ht.1,by rw[bK ht.2];rfl⟩,rfl⟩;rw[e]at hm;cases hm
 let ρ:List L4.D->Sl->bb:=λes s=>[.im sp,.im (.str f),.pm es,.im L,s];obtain⟨a,es1,ha,i1,e1⟩:=pk (ρ:=ρ es .un) (i:=3) (j:=2) h0 hi rfl rfl;obtain⟨b,es2,hb,i2,e2⟩:=pk (ρ:=ρ es1 .un) (i:=3) (j:=2) h0 i1 rfl rfl;let P1:aD:=[a,b,"here"]++itL 1 f;let P2:aD:=P1++otL f;have hP:∀t∈P2,∃w,Tp T c t w:=λt ht=>by
  have sub:∀{p:Kd->Bool} {x:Str},x∈nmK T p->x∈T.map Th.n:=λh=>(vZ T _).subset h;rcases bx.mp ht with ht|ht
  ·rcases bx.mp ht with ht|ht
   ·rcases aN.mp ht with rfl|ht
    ·exact⟨_,.tm (.nm c (nmN g ha)) (sub ha)⟩
    ·rcases aN.mp ht with rfl|ht
     ·exact⟨_,.tm (.nm c (nmN g hb)) (sub hb)⟩
     ·rw[aV.mp ht];exact⟨none,.here⟩
   ·obtain⟨z,h1,h2⟩:=Rf cm (.inl ht);exact⟨_,.tm h1 (sub h2)⟩
  ·obtain⟨z,h1,h2⟩:=Rf (n:=1) cm (.inr ht);exact⟨_,.tm h1 (sub h2)⟩
 have lP:P2.length<=10:=by show (([a,b,"here"]++itL 1 f)++otL f).length<=10;unfold itL otL;split<;>split<;>simp
 have s1:(sIf (cT (c2 (dIn false) ao (cL (tZ ka)))) (uu (zp 4 (cC (.str "it")))) uc:FS) (ρ es2 (.ls ([a,b,"here"].map D.str)))=some (.nx (ρ es2 (.ls (P1.map D.str)))):=by
  have et:cT (c2 (dIn false) ao (cL (tZ ka))) (ρ es2 (.ls ([a,b,"here"].map D.str)))=some (decide (f="one" \/ f="two"),ρ es2 (.ls ([a,b,"here"].map D.str))):=uR (tQ (x:=.str f) (y:=.lst [.str "one", .str "two"]) rfl rfl (Re cm));by_cases h:f="one" \/ f="two"
  ·rw[aY h]at et;show _=some (Out.nx (ρ es2 (.ls (([a,b,"here"]++itL 1 f).map D.str))));unfold itL;rw[ah h];exact(ux et).trans rfl
  ·rw[aT h]at et;show _=some (Out.nx (ρ es2 (.ls (([a,b,"here"]++itL 1 f).map D.str))));unfold itL;rw[ai h];exact(ur et).trans rfl
 have s2:(sIf (cT (c2 (dEq false) ao kc)) (xa 4 (uU (cFz 4) (cL (tZ (tD mR (tD mR tY)))))) uc:FS) (ρ es2 (.ls (P1.map D.str)))=some (.nx (ρ es2 (.ls (P2.map D.str)))):=by
  have et:cT (c2 (dEq false) ao kc) (ρ es2 (.ls (P1.map D.str)))=some (decide (f="two"),ρ es2 (.ls (P1.map D.str))):=uR (tQ (x:=.str f) (y:=.str "two") rfl rfl (is2 cm));by_cases h:f="two"
  ·rw[aY h]at et;have e:P2=P1++(["other", "other"]:aD):=by show P1++otL f=_;unfold otL;rw[ah h]
   rw[e]at lP ⊢;rw[aB]at lP;refine(ux et).trans ((BY (u4 (xs:=P1.map D.str) (ys:=[.str "other", .str "other"]) (ρ1:=ρ es2 (.im (.lst (P1.map D.str)))) rfl rfl (by rw[af];simp at lP ⊢;omega))).trans ?_);rw[aX (l₁:=P1)];rfl
  ·rw[aT h]at et;have e:P2=P1:=by show P1++otL f=_;unfold otL;rw[ai h,bq]
   rw[e];exact(ur et).trans rfl
 have hne:P2≠[]:=λe=>by have:=ba cc e;simp[P2,P1]at this
 obtain⟨p,es3,hp,i3,e3⟩:=Q3 (ρ:=ρ es2 (.ls (P2.map D.str))) (i:=2) (j:=4) (Hs:=P2) i2 hne rfl rfl rfl (λes'=>rfl);obtain⟨w,tm⟩:=hP p hp;refine⟨p,w,es3,i3,tm,?_⟩;have run:yf (stL 5 es [sp,.str f])=some (.rt (.str p) (ρ es3 (.ls (P2.map D.str)))):=by unfold yf;refine(tE (ρ':=ρ es .un) ((t8 (uE (tK (ds:=[sp,.lst [.str "room", .str "box", .str "you"]]) (tG rfl (tG rfl rfl)) (of_ok (by omega) Kd.hd aaY)))).trans rfl)).trans ?_;refine(tE (ρ':=ρ es2 (.ls ([a,b,"here"].map D.str))) ((BY (AD (tG e1 (tG e2 (tG rfl rfl))) (bP rfl))).trans rfl)).trans ?_;refine(tE s1).trans ((tE s2).trans ?_);exact(ug e3).trans rfl
 unfold yg fnL;rw[ah (show [sp,D.str f].length=2 from rfl),run];rfl
theorem Bf(h1:a ρ=some (ds,ρ1))(h2:vv ρ1 i=some es)(h3:g es ds=some (d,es')):uY g i a ρ=some (d,putAt ρ1 i es'):=by unfold uY;rw[h1];simp only[h2,h3]
end
section
variable{y:Str}{T:List Th}{M:List Mk}{dk:aD}{A:List (Str×Str)}
theorem MP(l:aD)(lo hi:Option Int):∃l':aD,cutD (l.map D.str) lo hi=l'.map D.str/\(∀x∈l',x∈l)/\l'.length<=l.length:=
 ⟨(l.drop (HT.sIx l.length 0 lo)).take (HT.sIx l.length l.length hi - HT.sIx l.length 0 lo),by unfold cutD;rw[af,<- fZ,<- f7],λx hx=>jC (nX hx),by rw[bo,cb];omega⟩
theorem MQ{ρ:Sl->bb}{c:FT}{b:Bool}{e:FA}{P ys:aD}(hs:∀d s,(ρ s).set 4 (.im d)=ρ (.im d))(h4:∀d,cV 4 (ρ (.im d))=some (d,ρ (.im d)))(hc:∀s,c (ρ s)=some (b,ρ s))(he:∀s,e (ρ s)=some (ys.map D.str,ρ s))(hl:P.length+ys.length<=900):
  (sIf c (um 4 (cL (uU aF (cL e)))) uc:FS) (ρ (.im (.lst (P.map D.str))))=some (.nx (ρ (.im (.lst ((P++if b then ys else []).map D.str))))):=by
 cases b with
 |false=>exact(ur (hc _)).trans (by rw[ai bj,bq];rfl)
 |true=>refine(ux (hc _)).trans ((t8 (uE (u4 (xs:=P.map D.str) (ys:=ys.map D.str) (h4 _) (uE (he _)) (by rw[af,af];omega)))).trans ?_);rw[hs,ah rfl,aX]
theorem UC(g:Good T M dk)(cm:Cm (nmK T Kd.pl) c f)(hi:IL es):∃t z es',IL es'/\Tp T c t z/\wm es [uB T M dk y,.str f]=some (.str t,es'):=by
 let sp:=uB T M dk y;let N:=T.map Th.n;have hl:=g.len;let ρ:List L4.D->Sl->bb:=λes s=>[.im sp,.im (.str f),.pm es,.im (.lst (N.map D.str)),s];have hN:0<N.length:=by have h1:=g.r1;have h2:=eU (λt:Th=>decide (t.k=.room)) T;show 0<(T.map Th.n).length;rw[af];omega
 have lN:N.length=T.length:=af _;obtain⟨r,es1,i1,_,_,e1⟩:=tk (ρ:=ρ es .un) (j:=2) (e:=c1 vw az) (n:=N.length) (by omega) hi rfl (uD rfl (by show some (D.int ((N.map D.str).length:Nat))=_;rw[af]));obtain⟨l1,cq1,m1,n1⟩:=MP N (some r) none;obtain⟨l2,cq2,m2,n2⟩:=MP l1 none (some 3);let P0:aD:=l2++(["here"]:aD);let P1:aD:=P0++if decide (f="one" \/ f="two")then (["it", "it", "it"]:aD)else []
 let P2:aD:=P1++if decide (f="two")then (["other", "other"]:aD)else []
 have lP0:P0.length<=300:=by show (l2++(["here"]:aD)).length<=300;rw[aB];simp;omega
 have lP1:P1.length<=303:=by show (P0++if decide (f="one" \/ f="two")then (["it", "it", "it"]:aD)else []).length<=303;rw[aB];split<;>simp<;>omega
 have hP:∀t∈P2,∃w,Tp T c t w:=λt ht=>by
  have byc:((t="it" /\ (f="one" \/ f="two"))\/(t="other" /\ f="two"))->∃w,Tp T c t w:=λh=>by obtain⟨z,h1,h2⟩:=MO cm h;exact⟨_,.tm h1 ((vZ T _).subset h2)⟩
  rcases bx.mp ht with ht|ht
  ·rcases bx.mp ht with ht|ht
   ·rcases bx.mp ht with ht|ht
    ·have h:=m1 _ (m2 _ ht);exact⟨_,.tm (.nm c (g.nm _ (ck _ h))) h⟩
    ·rw[aV.mp ht];exact⟨none,.here⟩
   ·split at ht
    ·rename_i h;refine byc (.inl ⟨?_,bK h⟩);simpa using ht
    ·cases ht
  ·split at ht
   ·rename_i h;refine byc (.inr ⟨?_,bK h⟩);simpa using ht
   ·cases ht
 have hne:P2≠[]:=λe=>by have:=ba cc e;simp[P2,P1,P0]at this
 obtain⟨t,es2,ht,i2,e2⟩:=pk (ρ:=ρ es1 (.im (.lst (P2.map D.str)))) (i:=4) (j:=2) hne i1 rfl rfl;obtain⟨z,tm⟩:=hP t ht;refine⟨t,z,es2,i2,tm,?_⟩;have run:xO (stL 5 es [sp,.str f])=some (.rt (.str t) (ρ es2 (.im (.lst (P2.map D.str))))):=by
  unfold xO;have ec:=Ar (k:=3) (cap:=[]) (s:=iL (c2 vd ab fO)) (g:=gT dc 3) (fe:=cV 0) (λt:Th=>ua t.rw) (λt=>D.str t.n) T (ρ:=[.im sp,.im (.str f),.pm es,.un,.un]) (ρ1:=[.im sp,.im (.str f),.pm es,.un,.un]) rfl (by omega) λt _=>⟨_,_,rfl,rfl,rfl⟩;refine(tE (ρ':=ρ es .un) ((t8 (uE ec)).trans ?_)).trans ?_
  ·show _=some (Out.nx [.im sp,.im (.str f),.pm es,.im (.lst ((T.map Th.n).map D.str)),.un]);rw[aU];rfl
  refine(tE (ρ':=ρ es1 (.im (.lst (P0.map D.str)))) ((t8 (uE (u4 (xs:=l2.map D.str) (ys:=[.str "here"]) (ρ1:=ρ es1 .un) (ρ2:=ρ es1 .un) (uE ?_) rfl (by rw[af];simp;omega)))).trans ?_)).trans ?_
  ·have h1:y4 az (oAt (uG tH 2 ji)) oNo (ρ es .un)=some (l1.map D.str,ρ es1 .un):=by unfold y4 oAt;show (match (match uG tH 2 (tD (c1 vw az) tY) (ρ es .un)with|some (.int i,ρ')=>some (some i,ρ')|_=>none)with|some (l,ρ2)=>some (cutD (N.map D.str) l none,ρ2)|none=>none)=_;rw[e1];show some (cutD (N.map D.str) (some r) none,ρ es1 .un)=_;rw[cq1]
   unfold cSl;rw[uE h1];show some (cutD (l1.map D.str) none (some 3),ρ es1 .un)=_;rw[cq2]
  ·rw[show P0.map D.str=l2.map D.str++[.str "here"] from aX];rfl
  refine(tE (MQ (ρ:=ρ es1) (P:=P0) (e:=tZ qU) (ys:=["it", "it", "it"]) (λ_ _=>rfl) (λ_=>rfl) (λs=>uR (tQ (x:=.str f) (y:=.lst [.str "one", .str "two"]) rfl rfl (Re cm))) (λ_=>rfl) (by simp;omega))).trans ?_;refine(tE (MQ (ρ:=ρ es1) (P:=P1) (e:=tZ mN) (ys:=["other", "other"]) (λ_ _=>rfl) (λ_=>rfl) (λs=>uR (tQ (x:=.str f) (y:=.str "two") rfl rfl (is2 cm))) (λ_=>rfl) (by simp;omega))).trans ?_;exact(ug e2).trans rfl
 unfold wm fnL;rw[ah (show [sp,D.str f].length=2 from rfl)];rw[show xO (stL 5 es [uB T M dk y,.str f])=_ from run];rfl
end
section
variable{y:Str}{T:List Th}{M:List Mk}{dk:aD}
inductive Ak(T:List Th) (c:L4.D):Nat->L4.D->Prop
 |at {n:Nat} {t p:Str} {z w:Option Str}:Tp T c t z->Tp T c p w->Ak T c n (.tup [.str "at", .str t,.str p])
 |has {n:Nat} {t:Str} {z:Option Str}:Tp T c t z->Ak T c n (.tup [.str "has", .str t])
 |seen {n:Nat} {t:Str} {z:Option Str}:Tp T c t z->Ak T c n (.tup [.str "seen", .str t])
 |kind {n:Nat} (t k:Str):Ak T c n (.tup [.str "kind", .str t,.str k])
 |word {n:Nat} (x:Str):Ak T c n (.tup [.str "word", .str x])
 |marked {n:Nat} {t z:Str} (v:Int):Tm c t z->Ak T c n (.tup [.str "marked", .str t,.int v])
 |lit {n:Nat}:Ak T c n (.tup [.str "lit"])
 |no {n:Nat} {a:L4.D}:Ak T c n a->Ak T c (n+1) (.tup [.str "not", a])
 |both {n:Nat} {a b:L4.D}:Ak T c n a->Ak T c n b->Ak T c (n+1) (.tup [.str "both", a,b])
theorem Rh(h1:f ρ=some (d,ρ1))(h2:gg d ρ1=some ρ2):HQ f gg ρ=some (.nx ρ2):=by unfold HQ;rw[h1];simp only[h2]
theorem MR{l:aD}{r:Int}(h0:0<=r)(h1:r<l.length):∃x,x∈l/\dIx (.lst (l.map D.str)) (.int r)=some (.str x):=by
 obtain⟨m,rfl⟩:=c6 h0;have hm:m<l.length:=by omega
 exact⟨_,cv hm,wH (aJ hm)⟩
theorem UD(h:n<=3)(a b p q r s t:Sl):c2 dIx (cL (tZ mO)) (c1 JC (c2 Fb az aL)) [a,b,p,.im (.int ((n+1:Nat):Int)),q,r,s,t]=some (.int (if n=0 then 7 else 10),[a,b,p,.im (.int ((n+1:Nat):Int)),q,r,s,t]):=by
 match n,h with
 |0,_=>kernel_rfl
 |1,_=>kernel_rfl
 |2,_=>kernel_rfl
 |3,_=>kernel_rfl
def Akr(T:List Th)(c:L4.D)(n:Nat)(ρ:List L4.D->Sl->Sl->Sl->Sl->bb)(x:Option Out):Prop:=∃d es' a b p q,IL es'/\Ak T c n d/\x=some (.rt d (ρ es' a b p q))
theorem akr{T:List Th}{c:L4.D}{n:Nat}{ρ:List L4.D->Sl->Sl->Sl->Sl->bb}{x:Option Out}{d:L4.D}{es':List L4.D}{a b p q:Sl}(h1:IL es')(h2:Ak T c n d)(h3:x=some (.rt d (ρ es' a b p q))):Akr T c n ρ x:=⟨d,es',a,b,p,q,h1,h2,h3⟩
theorem Kq(g:Good T M dk){c:L4.D}{f:Str}(cm:Cm (nmK T Kd.pl) c f){n:Nat}(hn:n<=3)
  (ih:∀m,n=m+1->∀es,IL es->∃d es',IL es'/\Ak T c m d/\ud n es [uB T M dk y,.str f,.int n]=some (d,es')) {es:List L4.D} (hi:IL es):∃d es',IL es'/\Ak T c n d/\ud (n+1) es [uB T M dk y,.str f,.int ((n+1:Nat):Int)]=some (d,es'):=by
 let dp:Int:=((n+1:Nat):Int);let sp:=uB T M dk y;let ρ:List L4.D->Sl->Sl->Sl->Sl->bb:=λes a b p q=>[.im sp,.im (.str f),.pm es,.im (.int dp),a,b,p,q];have suf:∀{d:L4.D} {es':List L4.D} {a b p q:Sl},uX (ud n) (ρ es .un .un .un .un)=some (.rt d (ρ es' a b p q))->ud (n+1) es [uB T M dk y,.str f,.int dp]=some (d,es'):=λ{d es' a b p q} run=>by unfold ud fnJ;rw[ah (show [sp,D.str f,.int dp].length=3 from rfl)];rw[show uX (ud n) (stJ 2 8 es [uB T M dk y,.str f,.int dp])=_ from run];rfl
 obtain⟨r,es1,i1,r0,r1,e1⟩:=tk (ρ:=ρ es .un .un .un .un) (j:=2) (e:=c2 dIx (cL (tZ mO)) (c1 JC (c2 Fb az aL))) (n:=if n=0 then 7 else 10) (by split<;>decide) hi rfl (UD hn _ _ _ _ _ _ _);have fin:Akr T c n ρ (uX (ud n) (ρ es .un .un .un .un))->∃d es',IL es'/\Ak T c n d/\ud (n+1) es [uB T M dk y,.str f,.int dp]=some (d,es'):=λ⟨d,es',a,b,p,q,h1,h2,h3⟩=>⟨d,es',h1,h2,suf h3⟩;refine fin ?_;unfold uX;rw[tE ((t8 e1).trans (show _=some (Out.nx (ρ es1 (.im (.int r)) .un .un .un)) from rfl))];have trm:∀{es0:List L4.D} (s5:Sl),IL es0->∃t z es',IL es'/\Tp T c t z/\uY wm 2 dv (ρ es0 (.im (.int r)) s5 .un .un)=some (.str t,ρ es' (.im (.int r)) s5 .un .un):=λ{es0} s5 h=>by obtain⟨t,z,es',h1,h2,h4⟩:=UC (y:=y) g cm h;exact⟨t,z,es',h1,h2,(Bf (i:=2) (ds:=[sp,.str f]) (ρ1:=ρ es0 (.im (.int r)) s5 .un .un) rfl rfl h4).trans rfl⟩
 have hgo:f="way" -> ∃z,c=.tup [.str "go", .str z,.non]:=λh=>by
  cases cm with
  |go z=>exact⟨z,rfl⟩
  |_=>exact aq h (by decide)
 have rest:(4<=r)->f≠"way" \/ r≠4->∀tl:FS,tl=(tI (sIf (xI (cT (c2 Bh aF c5)) (xX (cT (c2 (dIn false) ao (cL (tZ gk)))) (cT (c2 TZ (tJ vg bC) (yw []))))) (tI (HQ (uY wG 2 dv) (gT qL 2))
   (ub (uA qV))) uc)
   (tI (sIf (cT (c2 Bh aF dY)) (ub (uA (a1 (cS "lit")))) uc)
   (tI (sIf (cT (c2 (dEq false) aF dY)) (ub (uA (tD (cS "not") (a1 (uY (ud n) 2 gx))))) uc)
   (ub (uA (tD (cS "both") (tD (uY (ud n) 2 gx) (a1 (uY (ud n) 2 gx)))))))))->Akr T c n ρ (tl (ρ es1 (.im (.int r)) .un .un .un)):=λh4 hw tl et=>by
  subst et;obtain⟨V,em,v1,v2,rfl⟩:=F8 (y:=y) g;have lit:r<7->∀{tl:FS},(tI (sIf (cT (c2 Bh aF dY)) (ub (uA (a1 (cS "lit")))) uc) tl:FS) (ρ es1 (.im (.int r)) .un .un .un)=some (.rt (.tup [.str "lit"]) (ρ es1 (.im (.int r)) .un .un .un)):=λh7 {tl}=>uC ((ux (ρ':=ρ es1 (.im (.int r)) .un .un .un) (uR (tQ (x:=.int r) (y:=.int 7) rfl rfl (by show some (D.bl (decide (r<7)))=_;rw[aY h7])))).trans rfl);have lt:∀k:Int,cT (c2 Bh aF (cC (.int k))) (ρ es1 (.im (.int r)) .un .un .un)=some (decide (r<k),ρ es1 (.im (.int r)) .un .un .un):=λk=>rfl;by_cases h7:7<=r
  ·have hn0:n≠0:=λe=>by rw[ah e]at r1;omega
   obtain⟨m,em'⟩:=Nat.exists_eq_succ_of_ne_zero hn0;have rcr:∀es0,IL es0->∃d es',IL es'/\Ak T c m d/\uY (ud n) 2 gx (ρ es0 (.im (.int r)) .un .un .un)=some (d,ρ es' (.im (.int r)) .un .un .un):=λes0 h=>by obtain⟨d,es',h1,h2,h3⟩:=ih m em' es0 h;refine⟨d,es',h1,h2,(Bf (i:=2) (ds:=[sp,.str f,.int n]) (ρ1:=ρ es0 (.im (.int r)) .un .un .un) (tG rfl (tG rfl (tG (tQ (x:=.int dp) (y:=.int 1) rfl rfl ?_) rfl))) rfl h3).trans rfl⟩;show some (D.int (((n+1:Nat):Int) - 1))=_;congr 2;omega
   have n6:=lt 6;rw[aT (by omega)]at n6;have n7:=lt 7;rw[aT (by omega)]at n7;rw[tE ((ur (ρ':=ρ es1 (.im (.int r)) .un .un .un) (Be n6)).trans rfl),tE ((ur n7).trans rfl)];obtain⟨d1,es2,i2,k1,e2⟩:=rcr es1 i1;have q7:cT (c2 (dEq false) aF dY) (ρ es1 (.im (.int r)) .un .un .un)=some (decide (r=7),ρ es1 (.im (.int r)) .un .un .un):=uR (tQ (x:=.int r) (y:=.int 7) rfl rfl (zR false r 7));by_cases h8:r=7
   ·rw[aY h8]at q7;exact akr i2 (em'▸.no k1) (uC ((ux q7).trans (ug (wb (tG rfl (tG e2 rfl)) (bP rfl)))))
   ·rw[aT h8]at q7;obtain⟨d2,es3,i3,k2,e3⟩:=rcr es2 i2;exact akr i3 (em'▸.both k1 k2) ((tE ((ur q7).trans rfl)).trans (ug (wb (tG rfl (tG e2 (tG e3 rfl))) (bP rfl))))
  by_cases hb:r<6/\(f="one" \/ f="two" \/ moL T M≠[])
  ·obtain⟨h6,hf⟩:=hb;obtain⟨t,z,v,es',i',tm,e⟩:=Oa (y:=y) g cm i1 hf;refine akr i' (.marked v tm) (uC ((ux (ρ':=ρ es1 (.im (.int r)) .un .un .un) ?_).trans ((tE (Rh (Bf (ds:=[sp,.str f]) rfl rfl e) rfl)).trans rfl)));refine(zD (ρ1:=ρ es1 (.im (.int r)) .un .un .un) ((lt 6).trans (by rw[aY h6]))).trans ?_;have e0:cT (c2 (dIn false) ao (cL (tZ gk))) (ρ es1 (.im (.int r)) .un .un .un)=some (decide (f="one" \/ f="two"),ρ es1 (.im (.int r)) .un .un .un):=uR (tQ (x:=.str f) (y:=.lst [.str "one", .str "two"]) rfl rfl (Re cm));by_cases h12:f="one" \/ f="two"
   ·rw[aY h12]at e0;exact CO e0
   ·rw[aT h12]at e0;have hm:moL T M≠[]:=by
     rcases hf with h|h|h
     ·exact aq (.inl h) h12
     ·exact aq (.inr h) h12
     ·exact h
    refine(y3 e0 (uR (tQ (x:=dcI (moL T M)) (y:=.dic [] []) (tK (ds:=[sp]) rfl em) rfl rfl))).trans ?_;obtain⟨q,l,e⟩:=jr hm;rw[e];rfl
  ·refine akr i1 (.lit) ((tE (ρ':=ρ es1 (.im (.int r)) .un .un .un) ((ur (ρ':=ρ es1 (.im (.int r)) .un .un .un) ?_).trans rfl)).trans (lit (by omega)));by_cases h6:r<6
   ·have hn:¬(f="one" \/ f="two" \/ moL T M≠[]):=λh=>hb ⟨h6,h⟩;have h12:¬(f="one" \/ f="two"):=λh=>hn (h.elim .inl λh=>.inr (.inl h));have hm:moL T M=[]:=gB λh=>hn (.inr (.inr h));refine(zD (ρ1:=ρ es1 (.im (.int r)) .un .un .un) ((lt 6).trans (by rw[aY h6]))).trans ?_;have e0:cT (c2 (dIn false) ao (cL (tZ gk))) (ρ es1 (.im (.int r)) .un .un .un)=some (decide (f="one" \/ f="two"),ρ es1 (.im (.int r)) .un .un .un):=uR (tQ (x:=.str f) (y:=.lst [.str "one", .str "two"]) rfl rfl (Re cm));rw[aT h12]at e0;refine(y3 e0 (uR (tQ (x:=dcI (moL T M)) (y:=.dic [] []) (tK (ds:=[sp]) rfl em) rfl rfl))).trans ?_;rw[hm];rfl
   ·have:r=6:=by omega
    subst this;exact Be rfl
 have cs:r=0\/r=1\/r=2\/r=3\/4<=r:=by omega
 rcases cs with rfl|rfl|rfl|rfl|h4
 ·obtain⟨t,z,es2,i2,tz,e2⟩:=trm .un i1;obtain⟨p,w,es3,i3,tw,e3⟩:=Rg (y:=y) g cm i2;exact akr i3 (.at tz tw) (uC ((ux rfl).trans (ug (wb (tG rfl (tG e2 (tG (Bf (ds:=[sp,.str f]) rfl rfl e3) rfl))) (bP rfl)))))
 ·obtain⟨t,z,es2,i2,tz,e2⟩:=trm .un i1;exact akr i2 (.has tz) ((tE ((ur rfl).trans rfl)).trans (uC ((ux rfl).trans (ug (wb (tG rfl (tG e2 rfl)) (bP rfl))))))
 ·obtain⟨t,z,es2,i2,tz,e2⟩:=trm .un i1;exact akr i2 (.seen tz) ((tE ((ur rfl).trans rfl)).trans ((tE ((ur rfl).trans rfl)).trans (uC ((ux rfl).trans (ug (wb (tG rfl (tG e2 rfl)) (bP rfl)))))))
 ·let ks:aD:=["room", "plain", "fixed", "box", "lamp", "you", "box", "lamp"];obtain⟨t,z,es2,i2,tz,e2⟩:=trm (.im (.lst (ks.map D.str))) i1;obtain⟨q,es3,i3,q0,q1,e3⟩:=tk (ρ:=ρ es2 (.im (.int 3)) (.im (.lst (ks.map D.str))) .un .un) (j:=2) (e:=cC (.int 8)) (n:=8) (by decide) i2 rfl rfl;obtain⟨k,hk,ek⟩:=MR (l:=ks) q0 q1;refine akr i3 (.kind t k) ((tE ((ur rfl).trans rfl)).trans ((tE ((ur rfl).trans rfl)).trans ((tE ((ur rfl).trans rfl)).trans (uC ((ux rfl).trans ((tE (ρ':=ρ es1 (.im (.int 3)) (.im (.lst (ks.map D.str))) .un .un) rfl).trans (ug (wb (tG rfl (tG e2 (tG (tQ (x:=.lst (ks.map D.str)) rfl e3 ek) rfl))) (bP rfl)))))))) )
 ·have n0:∀k:Int,k<4->∀{s t:FS},(tI (sIf (cT (c2 (dEq false) aF (cC (.int k)))) s uc) t:FS) (ρ es1 (.im (.int r)) .un .un .un)=t (ρ es1 (.im (.int r)) .un .un .un):=λk hk s t=>tE ((ur (ρ':=ρ es1 (.im (.int r)) .un .un .un) (uR (tQ (x:=.int r) (y:=.int k) rfl rfl ((zR false r k).trans (by rw[aT (by omega)];rfl))))).trans rfl);rw[n0 0 (by decide),n0 1 (by decide),n0 2 (by decide),n0 3 (by decide)];by_cases hw:f="way" /\ r=4
  ·obtain⟨rfl,rfl⟩:=hw;obtain⟨q,es3,i3,q0,q1,e3⟩:=tk (ρ:=ρ es1 (.im (.int 4)) .un .un .un) (j:=2) (e:=cC (.int 4)) (n:=4) (by decide) i1 rfl rfl;obtain⟨k,_,ek⟩:=MR (l:=["north", "up", "down", "upp"]) q0 q1;exact akr i3 (.word k) (uC ((ux (ρ':=ρ es1 (.im (.int 4)) .un .un .un) (by kernel_rfl)).trans (ug (wb (tG rfl (tG (tQ (x:=.lst [.str "north", .str "up", .str "down", .str "upp"]) rfl e3 ek) rfl)) (bP rfl)))))
  ·have ew:xI (cT (c2 (dEq false) aF fJ)) (cT (c2 (dEq false) ao (cS "way"))) (ρ es1 (.im (.int r)) .un .un .un)=some (false,ρ es1 (.im (.int r)) .un .un .un):=by
    have e4:cT (c2 (dEq false) aF fJ) (ρ es1 (.im (.int r)) .un .un .un)=some (decide (r=4),ρ es1 (.im (.int r)) .un .un .un):=uR (tQ (x:=.int r) (y:=.int 4) rfl rfl (zR false r 4));by_cases h:r=4
    ·rw[aY h]at e4;refine(zD e4).trans (uR (tQ (x:=.str f) (y:=.str "way") rfl rfl ?_));cases cm with
     |go z=>exact aq ⟨rfl,h⟩ hw
     |_=>rfl
    ·rw[aT h]at e4;exact Be e4
   rw[tE ((ur ew).trans (show _=some (Out.nx (ρ es1 (.im (.int r)) .un .un .un)) from rfl))];exact rest h4 (gB λh=>hw ⟨gB λq=>h (.inl q),gB λq=>h (.inr q)⟩) _ rfl
theorem Kr(g:Good T M dk)(cm:Cm (nmK T Kd.pl) c f):∀{n:Nat},n<=3->∀{es:List L4.D},IL es->∃d es',IL es'/\Ak T c n d/\ud (n+1) es [uB T M dk y,.str f,.int ((n+1:Nat):Int)]=some (d,es')
 |0,h,es,hi=>Kq g cm h (λm e=>by cases e) hi
 |n+1,h,es,hi=>Kq g cm h (λm e es' h'=>by cases e;exact Kr g cm (by omega) h') hi
end
section
variable{y:Str}{T:List Th}{M:List Mk}{dk:aD}
theorem IQ(tm:Tm c t z):(c=.tup [.str "take", .str z,.non]/\t="it")\/(∃b,c=.tup [.str "put", .str z,.str b]/\t="it")\/(∃a,c=.tup [.str "put", .str a,.str z]/\t="other")\/(Nm t/\z=t):=by
 cases tm with
 |it1 a=>exact .inl ⟨rfl,rfl⟩
 |it2 a b=>exact .inr (.inl ⟨b,rfl,rfl⟩)
 |oth a b=>exact .inr (.inr (.inl ⟨a,rfl,rfl⟩))
 |nm c hx=>exact .inr (.inr (.inr ⟨hx,rfl⟩))
structure Gv(c it ot a b:L4.D):Prop where
 g:∀t z,Tm c t z->z7 [.str t,it,ot]=some (.str z)
 l:∀t z,Tm c t z->(vp [kS "it", kS "other", kS "here"] [a,b,.non] (kS t)).getD (.str t)=.str z
 c:∃v,c=.tup [v,a,b]
theorem Eo(hx:Nm x):z7 [.str x,it,ot]=some (.str x)/\(vp [kS "it", kS "other", kS "here"] [a,b,.non] (kS x)).getD (.str x)=.str x:=by
 have n:=Y4 hx;have n1:dEq false (.str x) (.str "here")=some (.bl false):=by rw[A8,aT λe=>n (by rw[e];simp)];rfl
 have n2:dEq false (.str x) (.str "it")=some (.bl false):=by rw[A8,aT λe=>n (by rw[e];simp)];rfl
 have n3:dEq false (.str x) (.str "other")=some (.bl false):=by rw[A8,aT λe=>n (by rw[e];simp)];rfl
 let ρ:bb:=[.im (.str x),.im it,.im ot];refine⟨uq (ρ:=ρ) rfl ?_,?_⟩
 ·unfold ID;refine(tE (ρ':=ρ) ((ur (ρ':=ρ) (uR (tQ rfl rfl n2))).trans rfl)).trans ?_;refine(tE (ρ':=ρ) ((ur (ρ':=ρ) (uR (tQ rfl rfl n3))).trans rfl)).trans ?_;exact ug ((F9 (ρ1:=ρ) (uR (tQ rfl rfl n1))).trans rfl)
 ·rw[Dh λw=>?_]
  ·rfl
  ·rcases aN.mp w with w|w
   ·exact n (by rw[IJ w];simp)
   ·rcases aN.mp w with w|w
    ·exact n (by rw[IJ w];simp)
    ·exact n (by rw[IJ (aV.mp w)];simp)
theorem Ks(a b:L4.D):z7 [.str "it", a,b]=some a:=by kernel_rfl
theorem Rj(a b:L4.D):z7 [.str "other", a,b]=some b:=by kernel_rfl
theorem Bx(h:D.tup [a,b,c]=.tup [d,e,f]):a=d/\b=e/\c=f:=by cases h;exact⟨rfl,rfl,rfl⟩
theorem IR(h:¬a=b):D.str a≠.str b:=λe=>h (D.str.inj e)
theorem Ob(cm:Cm sm c f):∃it ot a b,yi [c]=some (.tup [it,ot])/\Gv c it ot a b:=by
 cases cm with
 |go z=>
  refine⟨.non,.non,.str z,.non,by kernel_rfl,λt x tm=>?_,λt x tm=>?_,_,rfl⟩<;>(rcases IQ tm with ⟨h,_⟩|⟨_,h,_⟩|⟨_,h,_⟩|⟨h,rfl⟩)
  all_goals first
   |exact aq (Bx h).1 (IR (by decide))
   |exact(Eo (a:=.non) (b:=.non) h).1
   |exact(Eo (it:=.non) (ot:=.non) h).2
 |wait=>
  refine⟨.non,.non,.non,.non,by kernel_rfl,λt x tm=>?_,λt x tm=>?_,_,rfl⟩<;>(rcases IQ tm with ⟨h,_⟩|⟨_,h,_⟩|⟨_,h,_⟩|⟨h,rfl⟩)
  all_goals first
   |exact aq (Bx h).1 (IR (by decide))
   |exact(Eo (a:=.non) (b:=.non) h).1
   |exact(Eo (it:=.non) (ot:=.non) h).2
 |@take a ha=>
  refine⟨.str a,.non,.str a,.non,by kernel_rfl,λt x tm=>?_,λt x tm=>?_,_,rfl⟩<;>(rcases IQ tm with ⟨h,rfl⟩|⟨_,h,_⟩|⟨_,h,_⟩|⟨h,rfl⟩)
  all_goals first
   |exact aq (Bx h).1 (IR (by decide))
   |exact(Eo (a:=.non) (b:=.non) h).1
   |exact(Eo (it:=.non) (ot:=.non) h).2
   |(rw[(Bx h).2.1];exact Ks _ _)
   |(rw[(Bx h).2.1];rfl)
 |@put a b ha hb=>
  refine⟨.str a,.str b,.str a,.str b,by kernel_rfl,λt x tm=>?_,λt x tm=>?_,_,rfl⟩<;>(rcases IQ tm with ⟨h,rfl⟩|⟨_,h,rfl⟩|⟨_,h,rfl⟩|⟨h,rfl⟩)
  all_goals first
   |exact aq (Bx h).1 (IR (by decide))
   |exact(Eo (a:=.non) (b:=.non) h).1
   |exact(Eo (it:=.non) (ot:=.non) h).2
   |(rw[(Bx h).2.1];exact Ks _ _)
   |(rw[(Bx h).2.2];exact Rj _ _)
   |(rw[(Bx h).2.1];rfl)
   |(rw[(Bx h).2.2];rfl)
def Two(ks:List aD):Prop:=∀k∈ks,∃p q,k=[p,q]
theorem Ga:∀{ks:List aD},Two ks->Bp (ks.map pairD)=some ks
 |[],_=>rfl
 |k::ks,h=>by obtain⟨p,q,rfl⟩:=h k bg;rw[aE];unfold Bp;rw[Ga λk hk=>h k (bu _ hk)];rfl
theorem Va{ks:List aD}(h:e ρ=some (d,ρ1))(hd:sqD d=some (ks.map pairD))(h2:Two ks)(hl:(uqK ks).length<63):Fe (cL (wV e)) ρ=some (.tup ((Au (uqK ks)).map pairD),ρ1):=by
 have e:wV e ρ=some ((Au (uqK ks)).map pairD,ρ1):=by unfold wV;rw[h];simp only[hd,Option.bind_some,Ga h2];rw[ah hl]
 unfold Fe;rw[uE e]
abbrev tdD(ks:List aD):L4.D:=.tup ((Au (uqK ks)).map pairD)
theorem UE{ks:List aD}(hd:sqD d=some (ks.map pairD))(h2:Two ks)(hl:(uqK ks).length<63):z9 [d]=some (tdD ks):=uq (ρ:=[.im d]) rfl (ug (Va rfl hd h2 hl))
theorem Kt:k∈Au ks ↔ k∈ks:=by
 unfold Au;by_cases h:ks=[]
 ·rw[ah h,h]
 ·rw[ai h];have hn:0<ks.length:=eE.mpr h;constructor
  ·intro hk;obtain⟨i,hi,rfl⟩:=aP.mp hk;have hi:=HY _ hn i hi;rw[cj,aJ hi];exact cv hi
  ·intro hk;obtain⟨i,hi,rfl⟩:=eB.mp hk;refine aP.mpr ⟨i,(zr _ hn).mem_iff.mpr (bI.mpr hi),?_⟩;rw[cj,aJ hi];rfl
theorem Ku:(Au ks).length=ks.length:=by
 unfold Au;by_cases h:ks=[]
 ·rw[ah h,h]
 ·rw[ai h,af,(zr _ (eE.mpr h)).length_eq,cI]
theorem aaZ(h2:Two ks)(h:∀k,k∈ks ↔ k∈ls):tdD ks=tdD ls:=by
 have p:(uqK ls).Perm (uqK ks):=(List.perm_ext_iff_of_nodup (FH _) (FH _)).mpr λk=>by rw[zT,zT];exact(h k).symm
 show D.tup _=.tup _;rw[Mw p (FH _) λk hk=>h2 k (zT.mp hk)]
def atK(b:Str):aD:=["at", b]
def mkK(b:Str):aD:=["mark", b]
def prt(T:List Th)(M:List Mk):List aD:=(T.map Th.n).map atK++((moL T M).map aO).map mkK
abbrev Sb(T:List Th)(M:List Mk)(ks:List aD):Prop:=∀k∈ks,k∈prt T M
theorem Ly(h:Sb T M ks):Two ks:=λk hk=>by
 rcases bx.mp (h k hk)with h|h
 ·obtain⟨b,_,rfl⟩:=aP.mp h;exact⟨_,_,rfl⟩
 ·obtain⟨b,_,rfl⟩:=aP.mp h;exact⟨_,_,rfl⟩
theorem len_T(g:Good T M dk):T.length<=13:=by
 have h1:=g.r5;have h2:=g.y1;have h3:=g.p7;have:∀l:List Th,l.length=(l.filter λt=>decide (t.k=.room)).length+(l.filter λt=>decide (t.k=.you)).length+(l.filter λt=>t.k.pl).length:=λl=>by
  induction l with
  |nil=>rfl
  |cons t l ih=>rw[aM,eY,eY,eY];obtain⟨n,w,k,st⟩:=t;cases k<;>simp[show Kd.room.pl=false from rfl,show Kd.you.pl=false from rfl,show Kd.plain.pl=true from rfl,show Kd.fixed.pl=true from rfl,show Kd.box.pl=true from rfl,show Kd.lamp.pl=true from rfl]<;>omega
 have:=this T;omega
theorem IS(g:Good T M dk)(h:Sb T M ks):(uqK ks).length<63:=by have h1:=Qq (FH ks) λk hk=>h k (zT.mp hk);have h2:=len_T g;have h3:=(vZ T Kd.mk).length_le;have h4:=g.m4;unfold prt at h1;rw[Bd]at h1;simp only[aB,af]at h1 h3;omega
end
section
variable{y:Str}{T:List Th}{M:List Mk}{dk:aD}
abbrev rms(T:List Th):aD:=nmK T λk=>decide (k=.room)
abbrev bxs(T:List Th):aD:=nmK T λk=>decide (k=.box)
abbrev lms(T:List Th):aD:=nmK T λk=>decide (k=.lamp)
def apK(T:List Th):Option Str->List aD
 |none=>[]
 |some z=>if z∈rms T then []else [atK z]
def mpK(T:List Th)(M:List Mk)(z:Str):List aD:=if z∈(moL T M).map aO then [mkK z]else []
def liK(T:List Th)(y:Str):List aD:=(bxs T++lms T++[y]).map atK++(bxs T++lms T).map mkK
theorem Vb(g:Good T M dk)(hz:∀x,z=some x->x∈T.map Th.n):vo [wM T M dk y,oS z]=some (.lst ((apK T z).map pairD)):=by
 cases z with
 |none=>kernel_rfl
 |some x=>
  obtain⟨t,ht,rfl⟩:=aP.mp (hz x rfl);show _=some (D.lst ((if t.n∈rms T then []else [atK t.n]).map pairD));by_cases hk:t.k=.room
  ·rw[ah (show t.n∈rms T from aP.mpr ⟨t,bL.mpr ⟨ht,aY hk⟩,rfl⟩)];let ρ:bb:=[.im (wM T M dk y),.im (.str t.n),.im (thD t)];refine uq (ρ:=ρ) rfl ?_;unfold z8;refine(tE (ρ':=ρ) ((t8 (ve (xs:=wDs T M dk y (dcI (moL T M))) (ys:=[.str t.n]) (hh:=wA) rfl rfl rfl rfl (Kp g.ndT ht))).trans rfl)).trans (ug ?_);have e:cT (c2 (dEq false) (c1 (uh uL "kind") av) gu) ρ=some (true,ρ):=uR (tQ (x:=.str t.k.s) (y:=.str "room") (uD rfl (A4 t)) rfl ((CL t.k .room).trans (by rw[aY hk])));exact(Ko (y3 (ρ1:=ρ) rfl e)).trans rfl
  ·rw[ai λh:t.n∈rms T=>by
    obtain⟨u,h1,h2,h3⟩:=CN h;rw[Q6 g.ndT h1 ht h2]at h3;exact hk (bK h3)]
   exact Lu g.ndT ht hk
theorem aa0(g:Good T M dk)(z:Str):xj [wM T M dk y,.str z]=some (.lst ((mpK T M z).map pairD)):=by
 unfold mpK;by_cases h:z∈(moL T M).map aO
 ·rw[ah h];obtain⟨q,hq,rfl⟩:=aP.mp h;exact N9 (g.nd.sublist ((vZ T _).append (fT _))) (m:=q.2) hq
 ·rw[ai h];rw[Bd]at h;exact Q9 h
theorem UF(hl:T.length<=1000)(k:Kd):vQ [wM T M dk y,.str k.s]=some (.lst ((nmK T λj=>decide (j=k)).map D.str)):=by have:=F6 T hl (wNs.tail) ((wDs T M dk y (dcI (moL T M))).tail) k;refine this.trans ?_;unfold nmK;rw[aU];rfl
theorem IT(g:Good T M dk)(p:Kd->Bool):(nmK T p).length<=13:=by have h1:=(vZ T p).length_le;have h2:=len_T g;rw[af]at h1;omega
theorem EG{l:aD}(hs:s ρ=some (l.map D.str,ρ))(hl:l.length<=100):ue 1 [] s (gN 0) uS (uA (tD (cS w) bC)) ρ=some ((l.map λb=>[w,b]).map pairD,ρ):=by rw[aU];exact Ar D.str (λb=>pairD [w,b]) l hs (by omega) λb _=>⟨[.im (.str b)],[.im (.str b)],rfl,rfl,rfl⟩
theorem Y5(g:Good T M dk)(k:Kd)(hw:w=k.s):uJ u0 "of_kind" ab (a1 (cS w)) (.im (wM T M dk y)::r)=some (.lst ((nmK T λj=>decide (j=k)).map D.str),.im (wM T M dk y)::r):=by subst hw;have:=len_T g;exact ve (xs:=wDs T M dk y (dcI (moL T M))) (ys:=[.str k.s]) (hh:=vQ) rfl rfl rfl rfl (UF (by omega) k)
theorem Y6(g:Good T M dk):AV [wM T M dk y]=some (.lst (((bxs T).map atK).map pairD)):=by have:=IT g λk=>decide (k=.box);exact yx (ρ:=[.im (wM T M dk y)]) rfl (wu (EG (w:="at") (El (Y5 g .box rfl)) (bM this (by decide))))
theorem Kv(g:Good T M dk):xF [wM T M dk y]=some (.lst ((liK T y).map pairD)):=by
 let N:=bxs T++lms T;have l1:=IT g λk=>decide (k=.box);have l2:=IT g λk=>decide (k=.lamp);have lN:N.length<=26:=by show (bxs T++lms T).length<=26;rw[aB];exact jR l1 l2
 let W:=wM T M dk y;let ρ:Sl->Sl->bb:=λa b=>[.im W,a,b];let dN:L4.D:=.lst (N.map D.str);let dM:L4.D:=.lst ((N.map mkK).map pairD);refine yx (ρ:=ρ (.im dN) (.im dM)) rfl ?_;unfold zf;refine(tE (ρ':=ρ (.im dN) .un) ((t8 (uE (u4 (ρ1:=ρ .un .un) (ρ2:=ρ .un .un) (Y5 g .box rfl) (Y5 g .lamp rfl) (by rw[af,af];exact bM (jR l1 l2) (by decide))))).trans ?_)).trans ?_
 ·show _=some (Out.nx [.im W,.im (.lst ((bxs T++lms T).map D.str)),.un]);rw[aX];rfl
 refine(tE (ρ':=ρ (.im dN) (.im dM)) ((t8 (uE (EG (w:="mark") (l:=N) (ρ:=ρ (.im dN) .un) rfl (by omega)))).trans rfl)).trans ?_;have c1:=EG (w:="at") (l:=N++[y]) (s:=iL (cL (uU ao (cL (tZ qW))))) (ρ:=ρ (.im dN) (.im dM)) (by
  refine El (uE ((u4 (xs:=N.map D.str) (ys:=[.str y]) (ρ1:=ρ (.im dN) (.im dM)) (ρ2:=ρ (.im dN) (.im dM)) rfl (by kernel_rfl) (by rw[af,bh];omega)).trans ?_));rw[aX (l₁:=N) (l₂:=[y])];rfl) (by rw[aB,bh];omega)
 refine(wu (u4 (uE c1) (ρ2:=ρ (.im dN) (.im dM)) (ys:=(N.map mkK).map pairD) rfl (by simp only[af,aB,bh];omega))).trans ?_;unfold liK;rw[aX (l₁:=mC atK _)];rfl
end
section
variable{y:Str}{T:List Th}{M:List Mk}{dk:aD}{c it ot a b:L4.D}
theorem yp(h:f ρ=some (.rn ds ρ1)):tI f g ρ=some (.rn ds ρ1):=by unfold tI;rw[h]
theorem MS(tp:Tp T c t z):∀x,z=some x->x∈T.map Th.n:=λx e=>by
 cases tp with
 |here=>cases e
 |tm _ h=>cases e;exact h
theorem aa1(gv:Gv c it ot a b)(tp:Tp T c t z):z7 [.str t,it,ot]=some (oS z):=by
 cases tp with
 |here=>kernel_rfl
 |tm h _=>exact gv.g _ _ h
theorem Rk(gv:Gv c it ot a b)(tp:Tp T c t z):(vp [kS "it", kS "other", kS "here"] [a,b,.non] (kS t)).getD (.str t)=oS z:=by
 cases tp with
 |here=>kernel_rfl
 |tm h _=>exact gv.l _ _ h
def llK(T:List Th)(y:Str):List aD:=[atK y]++(nmK T Kd.mk).flatMap λb=>[atK b,mkK b]
def hrK(y:Str)(ts:aD):List aD:=(ts.filter λt:Str=>decide (t="here")).map λ_=>atK y
theorem Du(g:Good T M dk)(z:Option Str):xn [uB T M dk y,oS z]=some (.lst ((apK T z).map pairD)):=by
 have hl:=g.len;let sp:=uB T M dk y;let ρ:bb:=[.im sp,.im (oS z)];cases z with
 |none=>exact yx (ρ:=ρ) rfl (yp ((ux (CO rfl)).trans rfl))
 |some x=>
  have e:cT (c2 (dIn false) ao (cL (uF vU qT))) ρ=some (decide (x∈rms T),ρ):=uR (tQ (x:=.str x) rfl (uE (tK (ds:=[sp,.lst [.str "room"]]) rfl (of_ok (by omega) (λk=>decide (k=.room)) Uw))) (AF false x _));show _=some (D.lst ((if x∈rms T then []else [atK x]).map pairD));by_cases h:x∈rms T
  ·rw[aY h]at e;rw[ah h];exact yx (ρ:=ρ) rfl (yp ((ux (y3 (ρ1:=ρ) rfl e)).trans rfl))
  ·rw[aT h]at e;rw[ai h];exact yx (ρ:=ρ) rfl ((tE (ρ':=ρ) ((ur (y3 (ρ1:=ρ) rfl e)).trans rfl)).trans rfl)
theorem Hv(g:Good T M dk):yh [uB T M dk y]=some (.lst ((llK T y).map pairD)):=by
 have hl:=g.len;have h13:=IT g Kd.mk;let sp:=uB T M dk y;let ρ:List aD->Sl->bb:=λf s=>[.im sp,.im (.lst (f.map pairD)),s];have loop:∀(l:aD) (f:List aD) (s:Sl),f.length+2 * l.length<=900->∃s',forL (gN 2) (um 1 (cL (uU ao (cL (tZ mK))))) (l.map D.str) (ρ f s)=some (.nx (ρ (f++l.flatMap λb=>[atK b,mkK b]) s')):=by
  intro l
  induction l with
  |nil=>exact λf s _=>⟨s,by rw[List.flatMap_nil,bq];rfl⟩
  |cons x l ih=>
   intro f s hf;rw[aM]at hf;obtain⟨s',h⟩:=ih (f++[atK x,mkK x]) (.im (.str x)) (by rw[aB,aM,bh];omega);refine⟨s',?_⟩;rw[aE];unfold forL;rw[show gN 2 (.str x) (ρ f s)=some (ρ f (.im (.str x))) from rfl];have ev:(um 1 (cL (uU ao (cL (tZ mK)))):FS) (ρ f (.im (.str x)))=some (.nx (ρ (f++[atK x,mkK x]) (.im (.str x)))):=by refine(t8 (uE (u4 (xs:=f.map pairD) (ys:=[pairD (atK x),pairD (mkK x)]) (ρ1:=ρ f (.im (.str x))) (ρ2:=ρ f (.im (.str x))) rfl rfl (by rw[af,aM,bh];omega)))).trans ?_;show _=some (Out.nx [.im sp,.im (.lst ((f++[atK x,mkK x]).map pairD)),.im (.str x)]);rw[aX];rfl
   simp only[ev];rw[kZ,<- bD];exact h
 obtain⟨s',e⟩:=loop (nmK T Kd.mk) [atK y] .un (by rw[bh];omega);refine uq (ρ:=ρ (llK T y) s') rfl ?_;unfold Ag;refine(tE (ρ':=ρ [atK y] .un) rfl).trans ((tE ((wK (El (uE (tK (ds:=[sp,.lst [.str "box", .str "lamp"]]) rfl (of_ok (by omega) Kd.mk U9))))).trans e)).trans rfl)
theorem Vc(k:aD):k∈liK T y ↔ k∈llK T y:=by
 have hb:∀b,b∈bxs T++lms T ↔ b∈nmK T Kd.mk:=λb=>by
  rw[bx];constructor
  ·intro h;rcases h with h|h<;>
   ·obtain⟨t,h1,rfl,h3⟩:=CN h;exact aP.mpr ⟨t,bL.mpr ⟨h1,by rw[bK h3];rfl⟩,rfl⟩
  ·intro h;obtain⟨t,h1,rfl,h3⟩:=CN h;have:t.k=.box\/t.k=.lamp:=by cases hk:t.k<;>rw[hk]at h3<;>first|exact .inl rfl|exact .inr rfl|cases h3
   exact this.imp (λe=>aP.mpr ⟨t,bL.mpr ⟨h1,aY e⟩,rfl⟩) λe=>aP.mpr ⟨t,bL.mpr ⟨h1,aY e⟩,rfl⟩
 unfold liK llK;rw[aX (l₁:=bxs T++lms T)];simp only[bx,aP,ly,aE,cM,aN,cn,or_false];constructor
 ·rintro((⟨x,h,rfl⟩|rfl)|⟨x,h,rfl⟩)
  ·exact .inr ⟨x,(hb x).mp (bx.mpr h),.inl rfl⟩
  ·exact .inl rfl
  ·exact .inr ⟨x,(hb x).mp (bx.mpr h),.inr rfl⟩
 ·rintro(rfl|⟨x,h,rfl|rfl⟩)
  ·exact .inl (.inr rfl)
  ·exact .inl (.inl ⟨x,bx.mp ((hb x).mpr h),rfl⟩)
  ·exact .inr ⟨x,bx.mp ((hb x).mpr h),rfl⟩
end
section
variable{y:Str}{T:List Th}{M:List Mk}{dk:aD}{c it ot a b d:L4.D}{n:Nat}
theorem sk{c:FT}{f t:FS}{ρ:bb}(h:c ρ=some (false,ρ)):tI (sIf c f uc) t ρ=t ρ:=tE ((ur h).trans rfl)
theorem IU(h:Sb T M P)(h':Sb T M Q):Sb T M (P++Q):=λk hk=>(bx.mp hk).elim (h k) (h' k)
theorem MU(h:x∈nmK T p):atK x∈prt T M:=ck _ (bQ ((vZ T p).subset h))
theorem Rl(hz:∀x,z=some x->x∈T.map Th.n):Sb T M (apK T z):=λk hk=>by
 cases z with
 |none=>cases hk
 |some x=>
  have hk:k∈(if x∈rms T then []else [atK x]):=hk;split at hk
  ·cases hk
  ·rw[aV.mp hk];exact ck _ (bQ (hz x rfl))
theorem IV(hy:(T.filter λt=>decide (t.k=.you)).map Th.n=[y]):y∈nmK T λk=>decide (k=.you):=by show y∈(T.filter _).map Th.n;rw[hy];exact aV.mpr rfl
theorem Rm(hy:(T.filter λt=>decide (t.k=.you)).map Th.n=[y]):Sb T M (llK T y):=λk hk=>by
 rcases bx.mp hk with hk|hk
 ·rw[aV.mp hk];exact MU (IV hy)
 ·obtain⟨x,hx,hk⟩:=ly.mp hk;rcases aN.mp hk with rfl|hk
  ·exact MU hx
  ·rw[aV.mp hk];exact cy _ (bQ (by rw[Bd];exact ck _ hx))
theorem aa2(hy:(T.filter λt=>decide (t.k=.you)).map Th.n=[y])(ts:aD):Sb T M (hrK y ts):=λk hk=>by obtain⟨_,_,rfl⟩:=aP.mp hk;exact MU (IV hy)
theorem LA(z:Option Str):(apK T z).length<=1:=by
 cases z with
 |none=>exact bA _
 |some x=>show (if x∈rms T then []else [atK x]:List aD).length<=1;split<;>simp
theorem Ro(g:Good T M dk):(llK T y).length<=27:=by
 have h:=IT g Kd.mk;have:∀l:aD,(l.flatMap λb=>[atK b,mkK b]).length=2 * l.length:=λl=>by
  induction l with
  |nil=>rfl
  |cons x l ih=>rw[kZ,aB,ih,aM];simp;omega
 unfold llK;rw[aB,this,bh];omega
theorem apE(g:Good T M dk)(gv:Gv c it ot a b)(tp:Tp T c t z)(ho:uh Cd "term" o=some (.str t)):tJ vo jf (.im o::.im (wM T M dk y)::.im it::.im ot::r)=some (.lst ((apK T z).map pairD),.im o::.im (wM T M dk y)::.im it::.im ot::r):=
 tK (ds:=[wM T M dk y,oS z]) (tG rfl (tG (tK (ds:=[.str t,it,ot]) (tG (uD rfl ho) (tG rfl (tG rfl rfl))) (aa1 gv tp)) rfl)) (Vb g (MS tp))
theorem tdE(g:Good T M dk){P:List aD}(h:e ρ=some (d,ρ1))(hd:sqD d=some (P.map pairD))(sb:Sb T M Q)(pq:∀k,k∈P ↔ k∈Q):tJ z9 (a1 e) ρ=some (tdD Q,ρ1):=by have sp:Sb T M P:=λk hk=>sb k ((pq k).mp hk);rw[<-aaZ (Ly sp) pq];exact tK (ds:=[d]) (tG h rfl) (UE hd (Ly sp) (IS g sp))
theorem hgG(hd:dIx d (.int 1)=some (.str w))(hl:(vp [kS "it", kS "other", kS "here"] [a,b,.non] (kS w)).getD (.str w)=z):Fl (yw [("it", (c2 dIx ao aL)),("other", (c2 dIx ao cu)),("here", bF)]) (c2 dIx av aL) (c2 dIx av aL) (.im sp::.im (.tup [v,a,b])::.im d::r)=some (z,.im sp::.im (.tup [v,a,b])::.im d::r):=by have he:c2 dIx av aL (.im sp::.im (.tup [v,a,b])::.im d::r)=some (.str w,.im sp::.im (.tup [v,a,b])::.im d::r):=tQ (x:=d) (y:=.int 1) rfl rfl hd;have ed:yw [("it", (c2 dIx ao aL)),("other", (c2 dIx ao cu)),("here", bF)] (.im sp::.im (.tup [v,a,b])::.im d::r)=some (.dic [kS "it", kS "other", kS "here"] [a,b,.non],.im sp::.im (.tup [v,a,b])::.im d::r):=MN (Em rfl (Em rfl (Em rfl rfl)));unfold Fl;rw[ed];simp only[he];show some ((vp [kS "it", kS "other", kS "here"] [a,b,.non] (kS w)).getD (.str w),_)=_;rw[hl]
structure Tst(n:Nat)(T:List Th)(M:List Mk)(dk:aD)(y:Str)(c it ot d:L4.D)(k:Nat)(ns:aD)(ds:List L4.D)(Q:List aD):Prop where
 m:vh (n+1) [d]=some (.obj k ns ds)
 r:∃hh,uo n k=some hh/\hh [.obj k ns ds,wM T M dk y,it,ot]=some (tdD Q)
 nn:ns.contains "reads" = false
 sb:Sb T M Q
 h:vm (n+1) [uB T M dk y,c,d]=some (.lst (Q.map pairD))
 ln:Q.length<=40 * 2 ^ n
theorem p2(n:Nat):1<=2 ^ n:=Nat.one_le_two_pow
theorem t_at(g:Good T M dk)(hy:(T.filter λt=>decide (t.k=.you)).map Th.n=[y])(gv:Gv c it ot a b)(tz:Tp T c t z):∃k ns ds Q,Tst n T M dk y c it ot (.tup [.str "at", .str t,.str p]) k ns ds Q:=by
 let sp:=uB T M dk y;let W:=wM T M dk y;let d:L4.D:=.tup [.str "at", .str t,.str p];let o:L4.D:=.obj 3 ["term", "place"] [.str t,.str p];let Q:=apK T z++hrK y [t,p];have hl:=LA (T:=T) z;have ht:=MS tz;have sb:Sb T M Q:=IU (Rl ht) (aa2 hy _);have hr2:(hrK y [t,p]).length<=2:=by unfold hrK;rw[af];exact eU ..
 obtain⟨v,rfl⟩:=gv.c;refine⟨3,["term", "place"],[.str t,.str p],Q,by kernel_rfl,⟨FX,by cases n<;>rfl,?_⟩,by decide,sb,?_,?_⟩
 ·let P2:List aD:=if ("here" : Str)∈[t,p]then [atK y]else []
  let ρ:List aD->bb:=λP=>[.im o,.im W,.im it,.im ot,.im (.lst (P.map pairD))];refine uq (ρ:=ρ (apK T z++P2)) rfl ?_;unfold BL;refine(tE (ρ':=ρ (apK T z)) ((t8 (apE (y:=y) g gv tz (o:=o) rfl)).trans rfl)).trans ?_;have et:cT (c2 (dIn false) eR (uA mJ)) (ρ (apK T z))=some (decide (("here" : Str)∈[t,p]),ρ (apK T z)):=uR (tQ (x:=.str "here") (y:=.tup [.str t,.str p]) rfl rfl (Fs false "here" [t,p]));have s2:(sIf (cT (c2 (dIn false) eR (uA mJ))) (um 4 (cL (uU aF (tJ vo qR)))) uc:FS) (ρ (apK T z))=some (.nx (ρ (apK T z++P2))):=by
   show _=some (Out.nx [.im o,.im W,.im it,.im ot,.im (.lst ((apK T z++if ("here" : Str)∈[t,p]then [atK y]else []).map pairD))]);by_cases h:("here" : Str)∈[t,p]
   ·rw[aY h]at et;rw[ah h,aX];have ap:vo [W,.str y]=some (.lst [pairD (atK y)]):=by
     have:=Vb (y:=y) g (z:=some y) λx e=>by cases e;exact(vZ T _).subset (IV hy)
     refine this.trans ?_;show some (D.lst ((if y∈rms T then []else [atK y]).map pairD))=_;rw[ai λh=>Q7 g.ndT (λk h1 h2=>by rw[bK h1]at h2;cases h2) (IV hy) h];rfl
    exact(ux et).trans ((t8 (uE (u4 (xs:=(apK T z).map pairD) (ys:=[pairD (atK y)]) (ρ1:=ρ (apK T z)) rfl (tK (ρ1:=ρ (apK T z)) (ds:=[W,.str y]) (by kernel_rfl) ap) (by rw[af,bh];omega)))).trans rfl)
   ·rw[aT h]at et;rw[ai h,bq];exact(ur et).trans rfl
  refine(tE s2).trans (ug (tdE g (P:=apK T z++P2) (d:=.lst ((apK T z++P2).map pairD)) rfl rfl sb λk=>?_));rw[bx,bx];refine or_congr mD ?_;show k∈(if ("here" : Str)∈[t,p]then [atK y]else []) ↔ k∈(qA (λt:Str=>decide (t="here")) [t,p]).map λ_=>atK y;rw[aP];constructor
  ·intro h;split at h
   ·rename_i h1;exact⟨"here", bL.mpr ⟨h1,aY rfl⟩,(aV.mp h).symm⟩
   ·cases h
  ·rintro⟨x,hx,rfl⟩;obtain⟨h1,h2⟩:=bL.mp hx;rw[bK h2]at h1;rw[ah h1];exact aV.mpr rfl
 ·let ρ:Sl->bb:=λs=>[.im sp,.im (.tup [v,a,b]),.im d,.im (.str "at"),s];refine yx (ρ:=ρ (.im (oS z))) rfl ?_;unfold uI;refine(tE (ρ':=ρ .un) rfl).trans ?_
  iterate 4 refine(sk rfl).trans ?_
  refine(tE (ρ':=ρ (.im (oS z))) ((t8 (hgG rfl (Rk gv tz))).trans rfl)).trans ?_
  iterate 3 refine(sk rfl).trans ?_
  have ec:=xV (k:=1) (cap:=[0]) (s:=iT (Qp av (some 1) none)) (g:=gN 0) (ft:=cT (c2 (dEq false) ab eR)) (fe:=uA qS) D.str (λ_=>pairD (atK y)) (λt:Str=>decide (t="here")) [t,p] (ρ:=ρ (.im (oS z))) (ρ1:=ρ (.im (oS z))) rfl (bP rfl) λx _=>⟨[.im (.str x),.im sp],[.im (.str x),.im sp],rfl,uR (tQ (x:=.str x) (y:=.str "here") rfl rfl (A8 false x "here")),λ_=>⟨_,rfl,rfl⟩,λ_=>rfl⟩;refine(wu (u4 (xs:=(apK T z).map pairD) (ρ1:=ρ (.im (oS z))) (tK (ds:=[sp,oS z]) rfl (Du g z)) (uE ec) ?_)).trans ?_
  ·rw[af,af];have:=eU (λt:Str=>decide (t="here")) [t,p];simp at this ⊢;omega
  ·show some (Out.rn ((apK T z).map pairD++(qA (λt:Str=>decide (t="here")) [t,p]).map λ_=>pairD (atK y)) _)=some (Out.rn ((apK T z++hrK y [t,p]).map pairD) _);unfold hrK;rw[aX,aU];rfl
 ·have:=p2 n;show (apK T z++hrK y [t,p]).length<=_;rw[aB];omega
end
section
variable{y:Str}{T:List Th}{M:List Mk}{dk:aD}{c it ot a b d:L4.D}{n:Nat}
theorem aa3(g:Good T M dk)(gv:Gv c it ot a b)(tz:Tp T c t z):∃k ns ds Q,Tst n T M dk y c it ot (.tup [.str "has", .str t]) k ns ds Q:=by
 let sp:=uB T M dk y;let W:=wM T M dk y;let d:L4.D:=.tup [.str "has", .str t];let o:L4.D:=.obj 4 ["term"] [.str t];let Q:=apK T z++(bxs T).map atK;have hl:=LA (T:=T) z;have h13:=IT g λk=>decide (k=.box);have hT:=g.len;have sb:Sb T M Q:=IU (Rl (MS tz)) λk hk=>by obtain⟨x,hx,rfl⟩:=aP.mp hk;exact MU hx
 have lq:((apK T z).map pairD).length+(((bxs T).map atK).map pairD).length<=1000:=by rw[af,af,af];exact bM (jR hl h13) (by decide)
 obtain⟨v,rfl⟩:=gv.c;refine⟨4,["term"],[.str t],Q,by kernel_rfl,⟨Ed,by cases n<;>rfl,?_⟩,by decide,sb,?_,?_⟩
 ·let ρ:bb:=[.im o,.im W,.im it,.im ot];exact uq (ρ:=ρ) rfl (ug (tdE g (P:=Q) (ρ1:=ρ) (d:=.lst ((apK T z).map pairD++((bxs T).map atK).map pairD)) (uE (u4 (apE (y:=y) g gv tz (o:=o) rfl) (tK (ds:=[W]) rfl (Y6 g)) lq)) (by rw[<-aX];rfl) sb λk=>mD))
 ·let ρ:Sl->bb:=λs=>[.im sp,.im (.tup [v,a,b]),.im d,.im (.str "has"),s];refine yx (ρ:=ρ (.im (oS z))) rfl ?_;unfold uI;refine(tE (ρ':=ρ .un) rfl).trans ?_
  iterate 4 refine(sk rfl).trans ?_
  refine(tE (ρ':=ρ (.im (oS z))) ((t8 (hgG rfl (Rk gv tz))).trans rfl)).trans ?_
  iterate 2 refine(sk rfl).trans ?_
  refine(yp ((ux (ρ':=ρ (.im (oS z))) rfl).trans (wu (u4 (xs:=(apK T z).map pairD) (ρ1:=ρ (.im (oS z))) (tK (ds:=[sp,oS z]) rfl (Du g z)) (uE (EG (w:="at") (El (uE (tK (ds:=[sp,.lst [.str "box"]]) rfl (of_ok (by omega) (λk=>decide (k=.box)) Y2)))) (bM h13 (by decide)))) lq)))).trans ?_;rw[<-aX];rfl
 ·have:=p2 n;show (apK T z++(bxs T).map atK).length<=_;rw[aB,af];exact bM (jR hl h13) (by omega)
theorem Y7(g:Good T M dk)(hy:(T.filter λt=>decide (t.k=.you)).map Th.n=[y])(gv:Gv c it ot a b)(tz:Tp T c t z):∃k ns ds Q,Tst n T M dk y c it ot (.tup [.str "seen", .str t]) k ns ds Q:=by
 let sp:=uB T M dk y;let W:=wM T M dk y;let d:L4.D:=.tup [.str "seen", .str t];let o:L4.D:=.obj 5 ["term"] [.str t];let Q:=apK T z++llK T y;have hl:=LA (T:=T) z;have h27:=Ro (y:=y) g;have sb:Sb T M Q:=IU (Rl (MS tz)) (Rm hy);have l1:(bxs T).length<=13:=IT g _;have l2:(lms T).length<=13:=IT g _;have lq:((apK T z).map pairD).length+((liK T y).map pairD).length<=1000:=by unfold liK;simp only[af,aB,bh];omega
 obtain⟨v,rfl⟩:=gv.c;refine⟨5,["term"],[.str t],Q,by kernel_rfl,⟨Cy,by cases n<;>rfl,?_⟩,by decide,sb,?_,?_⟩
 ·let ρ:bb:=[.im o,.im W,.im it,.im ot];exact uq (ρ:=ρ) rfl (ug (tdE g (P:=apK T z++liK T y) (ρ1:=ρ) (d:=.lst ((apK T z).map pairD++(liK T y).map pairD)) (uE (u4 (apE (y:=y) g gv tz (o:=o) rfl) (tK (ds:=[W]) rfl (Kv g)) lq)) (by rw[<-aX];rfl) sb λk=>by
   rw[bx,bx];exact or_congr mD (Vc k)))
 ·let ρ:Sl->bb:=λs=>[.im sp,.im (.tup [v,a,b]),.im d,.im (.str "seen"),s];refine yx (ρ:=ρ (.im (oS z))) rfl ?_;unfold uI;refine(tE (ρ':=ρ .un) rfl).trans ?_
  iterate 4 refine(sk rfl).trans ?_
  refine(tE (ρ':=ρ (.im (oS z))) ((t8 (hgG rfl (Rk gv tz))).trans rfl)).trans ?_;refine(sk rfl).trans ?_;refine(yp ((ux (ρ':=ρ (.im (oS z))) rfl).trans (wu (u4 (xs:=(apK T z).map pairD) (ρ1:=ρ (.im (oS z))) (tK (ds:=[sp,oS z]) rfl (Du g z)) (tK (ds:=[sp]) rfl (Hv g)) (by rw[af,af];omega))))).trans ?_;rw[<-aX]
 ·have:=p2 n;show (apK T z++llK T y).length<=_;rw[aB];omega
theorem aa4(g:Good T M dk)(hy:(T.filter λt=>decide (t.k=.you)).map Th.n=[y]):∃k ns ds Q,Tst n T M dk y c it ot (.tup [.str "lit"]) k ns ds Q:=by
 let sp:=uB T M dk y;let W:=wM T M dk y;have h27:=Ro (y:=y) g;refine⟨15,[],[],llK T y,by kernel_rfl,⟨Ef,by cases n<;>rfl,?_⟩,by decide,Rm hy,?_,?_⟩
 ·exact uq (ρ:=[.im (.obj 15 [] []),.im W,.im it,.im ot]) rfl (ug (tdE g (P:=liK T y) (tK (ds:=[W]) rfl (Kv g)) rfl (Rm hy) Vc))
 ·refine uq (ρ:=[.im sp,.im c,.im (.tup [.str "lit"]),.im (.str "lit"),.un]) rfl ?_;unfold uI;refine(tE rfl).trans ?_
  iterate 2 refine(sk rfl).trans ?_
  exact uC ((ux rfl).trans (ug (tK (ds:=[sp]) rfl (Hv g))))
 ·have:=p2 n;omega
theorem Rp:D.tup []=tdD []:=by unfold tdD;rfl
theorem Y8(t k:Str):∃k' ns ds Q,Tst n T M dk y c it ot (.tup [.str "kind", .str t,.str k]) k' ns ds Q:=
 ⟨7,["term", "kind"],[.str t,.str k],[],by kernel_rfl,⟨CB,by cases n<;>rfl,by rw[<-Rp];rfl⟩,by decide,(λ_ h=>by cases h),by kernel_rfl,bA _⟩
theorem Y9(x:Str):∃k' ns ds Q,Tst n T M dk y c it ot (.tup [.str "word", .str x]) k' ns ds Q:=
 ⟨8,["word"],[.str x],[],by kernel_rfl,⟨CD,by cases n<;>rfl,by rw[<-Rp];rfl⟩,by decide,(λ_ h=>by cases h),by kernel_rfl,bA _⟩
theorem Rq(g:Good T M dk)(gv:Gv c it ot a b)(tz:Tm c t z)(v:Int):∃k ns ds Q,Tst n T M dk y c it ot (.tup [.str "marked", .str t,.int v]) k ns ds Q:=by
 let sp:=uB T M dk y;let W:=wM T M dk y;let d:L4.D:=.tup [.str "marked", .str t,.int v];let o:L4.D:=.obj 6 ["term", "value"] [.str t,.int v];obtain⟨V,em,v1,_,rfl⟩:=F8 (y:=y) g;let N:aD:=(moL T M).map aO;let Q:List aD:=(N.filter λx=>decide (x=z)).map mkK;have mem:∀k,k∈mpK T M z ↔ k∈Q:=λk=>by
  show k∈(if z∈N then [mkK z]else []) ↔ k∈(N.filter λx=>decide (x=z)).map mkK;constructor
  ·intro h;split at h
   ·rename_i h1;exact aP.mpr ⟨z,bL.mpr ⟨h1,aY rfl⟩,(aV.mp h).symm⟩
   ·cases h
  ·intro h;obtain⟨x,hx,rfl⟩:=aP.mp h;obtain⟨h1,h2⟩:=bL.mp hx;rw[bK h2]at h1 ⊢;rw[ah h1];exact aV.mpr rfl
 have sb:Sb T M Q:=λk hk=>by obtain⟨x,hx,rfl⟩:=aP.mp hk;exact cy _ (bQ (bL.mp hx).1)
 have h13:=IT g Kd.mk;have h4:=g.m4;have lN:N.length<=17:=by show ((moL T M).map aO).length<=17;rw[Bd,aB,af];omega
 obtain⟨v',rfl⟩:=gv.c;refine⟨6,["term", "value"],[.str t,.int v],Q,by kernel_rfl,⟨AX,by cases n<;>rfl,?_⟩,by decide,sb,?_,?_⟩
 ·exact uq (ρ:=[.im o,.im W,.im it,.im ot]) rfl (ug (tdE g (P:=mpK T M z) (tK (ds:=[W,.str z]) (tG rfl (tG (tK (ds:=[.str t,it,ot]) rfl (gv.g t z tz)) rfl)) (aa0 g z)) rfl sb mem))
 ·let ρ:Sl->bb:=λs=>[.im sp,.im (.tup [v',a,b]),.im d,.im (.str "marked"),s];refine yx (ρ:=ρ (.im (.str z))) rfl ?_;unfold uI;refine(tE (ρ':=ρ .un) rfl).trans ?_
  iterate 4 refine(sk rfl).trans ?_
  refine(tE (ρ':=ρ (.im (.str z))) ((t8 (hgG rfl (gv.l t z tz))).trans rfl)).trans ?_;have ei:iD (tJ vg bC) (ρ (.im (.str z)))=some (N.map D.str,ρ (.im (.str z))):=by unfold iD;rw[show tJ vg bC (ρ (.im (.str z)))=some (dcI (moL T M),ρ (.im (.str z))) from tK (ds:=[sp]) rfl em];unfold dcI;simp only;rw[ah (by rw[af,af]),aU];show some ((moL T M).map (λq=>D.str q.1),_)=some (((moL T M).map aO).map D.str,_);rw[aU];rfl
  have ec:=xV (k:=1) (cap:=[4]) (g:=gN 0) (ft:=cT (c2 (dEq false) ab ao)) (fe:=uA mU) D.str (λx=>pairD (mkK x)) (λx:Str=>decide (x=z)) N ei (by omega) λx _=>⟨[.im (.str x),.im (.str z)],[.im (.str x),.im (.str z)],rfl,uR (tQ (x:=.str x) (y:=.str z) rfl rfl (A8 false x z)),λ_=>⟨_,rfl,rfl⟩,λ_=>rfl⟩;refine(yp ((ux (ρ':=ρ (.im (.str z))) rfl).trans (wu ec))).trans ?_;show some (Out.rn ((N.filter λx=>decide (x=z)).map λx=>pairD (mkK x)) _)=some (Out.rn (((N.filter λx=>decide (x=z)).map mkK).map pairD) _);rw[aU];rfl
 ·have:=p2 n;have h:=eU (λx:Str=>decide (x=z)) N;show ((N.filter λx=>decide (x=z)).map mkK).length<=_;rw[af];omega
end
section
variable{y:Str}{T:List Th}{M:List Mk}{dk:aD}{c it ot a b d:L4.D}{n:Nat}
theorem UG(h1:e ρ=some (.tup xs,ρ1))(h2:e' ρ1=some (.tup ys,ρ2))(hl:xs.length+ys.length<=900):G4 e e' ρ=some (.tup (xs++ys),ρ2):=by unfold G4;rw[h1];simp only[h2];rw[ah hl]
theorem t_no(i:Tst n T M dk y c it ot x k ns ds Q):∃k ns ds Q,Tst (n+1) T M dk y c it ot (.tup [.str "not", x]) k ns ds Q:=by
 obtain⟨hh,r1,r2⟩:=i.r;have hl:=i.ln;refine⟨9,["inner"],[.obj k ns ds],Q,?_,⟨_,rfl,uq (ρ:=[.im (.obj 9 ["inner"] [.obj k ns ds]),.im (wM T M dk y),.im it,.im ot]) rfl (ug (ve (xs:=ds) (ys:=[wM T M dk y,it,ot]) rfl r1 i.nn rfl r2))⟩,by decide,i.sb,?_,by rw[jV];omega⟩
 ·refine uq (ρ:=[.im (.tup [.str "not", x]),.im (.str "not")]) rfl ?_;unfold wo;refine(tE rfl).trans ?_
  iterate 6 refine(sk rfl).trans ?_
  exact uC ((ux rfl).trans (ug (Ia (ds:=[.obj k ns ds]) (tG (tK (ds:=[x]) rfl i.m) rfl) rfl)))
 ·refine uq (ρ:=[.im (uB T M dk y),.im c,.im (.tup [.str "not", x]),.im (.str "not"),.un]) rfl ?_;unfold uI;exact(tE rfl).trans (uC ((ux rfl).trans (ug (tK (ds:=[uB T M dk y,c,x]) rfl i.h))))
theorem Za(g:Good T M dk)(hn:n<=3)(i:Tst n T M dk y c it ot x k ns ds Q)(j:Tst n T M dk y c it ot x' k' ns' ds' Q'):∃k ns ds Q,Tst (n+1) T M dk y c it ot (.tup [.str "both", x,x']) k ns ds Q:=by
 obtain⟨hh,r1,r2⟩:=i.r;obtain⟨hh',u1,u2⟩:=j.r;have hl:=i.ln;have hl':=j.ln;have q1:=IS g i.sb;have q2:=IS g j.sb;have p8:2 ^ n<=8:=Nat.pow_le_pow_right (by decide) hn;have sb:=IU i.sb j.sb;refine⟨10,["one", "other"],[.obj k ns ds,.obj k' ns' ds'],Q++Q',?_,⟨_,rfl,uq (ρ:=[.im (.obj 10 ["one", "other"] [.obj k ns ds,.obj k' ns' ds']),.im (wM T M dk y),.im it,.im ot]) rfl (ug (tdE g (P:=Au (uqK Q)++Au (uqK Q')) (d:=.tup ((Au (uqK Q)).map pairD++(Au (uqK Q')).map pairD)) (UG (ve (xs:=ds) (ys:=[wM T M dk y,it,ot]) rfl r1 i.nn rfl r2) (ve (xs:=ds') (ys:=[wM T M dk y,it,ot]) rfl u1 j.nn rfl u2) (by rw[af,af,Ku,Ku];omega)) (by rw[<-aX];rfl) sb λe=>by
   rw[bx,bx,Kt,Kt,zT,zT]))⟩,by decide,sb,?_,by rw[aB,jV];omega⟩
 ·refine uq (ρ:=[.im (.tup [.str "both", x,x']),.im (.str "both")]) rfl ?_;unfold wo;refine(tE rfl).trans ?_
  iterate 7 refine(sk rfl).trans ?_
  exact uC ((ux rfl).trans (ug (Ia (ds:=[.obj k ns ds,.obj k' ns' ds']) (tG (tK (ds:=[x]) rfl i.m) (tG (tK (ds:=[x']) rfl j.m) rfl)) rfl)))
 ·refine yx (ρ:=[.im (uB T M dk y),.im c,.im (.tup [.str "both", x,x']),.im (.str "both"),.un]) rfl ?_;unfold uI;refine(tE rfl).trans ((sk rfl).trans (yp ((ux rfl).trans ((wu (u4 (tK (ds:=[uB T M dk y,c,x]) rfl i.h) (tK (ds:=[uB T M dk y,c,x']) rfl j.h) (by rw[af,af];omega))).trans ?_))));rw[<-aX];rfl
theorem Vd(g:Good T M dk)(hy:(T.filter λt=>decide (t.k=.you)).map Th.n=[y])(gv:Gv c it ot a b)(ak:Ak T c n d):n<=3->∃k ns ds Q,Tst n T M dk y c it ot d k ns ds Q:=by
 induction ak with
 |«at» tz _=>exact λ_=>t_at g hy gv tz
 |has tz=>exact λ_=>aa3 g gv tz
 |seen tz=>exact λ_=>Y7 g hy gv tz
 |kind t k=>exact λ_=>Y8 t k
 |word x=>exact λ_=>Y9 x
 |marked v tz=>exact λ_=>Rq g gv tz v
 |lit=>exact λ_=>aa4 g hy
 |no _ ih=>intro h;obtain⟨k,ns,ds,Q,i⟩:=ih (by omega);exact t_no i
 |both _ _ ih ih'=>intro h;obtain⟨k,ns,ds,Q,i⟩:=ih (by omega);obtain⟨k',ns',ds',Q',j⟩:=ih' (by omega);exact Za g (by omega) i j
def Kd.k2:Kd->Kd
 |.plain=>.lamp|.fixed=>.box|k=>k
def Th.t2(t:Th):Th:={ t with k:=t.k.k2 }
abbrev T2(T:List Th):List Th:=T.map Th.t2
theorem n2:(T2 T).map Th.n=T.map Th.n:=by rw[aU];rfl
theorem f2{p q:Kd->Bool}(h:∀k:Kd,p k.k2=q k):((T2 T).filter λt=>p t.k)=(T.filter λt=>q t.k).map Th.t2:=by rw[pz];congr 1;refine List.filter_congr λt _=>?_;exact h t.k
theorem good2(g:Good T M dk):Good (T2 T) M dk:=by
 have r2:((T2 T).filter λt=>decide (t.k=.room))=(T.filter λt=>decide (t.k=.room)).map Th.t2:=f2 (p:=λk=>decide (k=.room)) (q:=λk=>decide (k=.room)) λk=>by cases k<;>rfl
 have y2:((T2 T).filter λt=>decide (t.k=.you))=(T.filter λt=>decide (t.k=.you)).map Th.t2:=f2 (p:=λk=>decide (k=.you)) (q:=λk=>decide (k=.you)) λk=>by cases k<;>rfl
 have rm2:rmN (T2 T)=rmN T:=by unfold rmN;rw[r2,aU];rfl
 have hd2:∀x,x∈hdN T->x∈hdN (T2 T):=λx hx=>by obtain⟨t,ht,rfl⟩:=aP.mp hx;obtain⟨h1,h2⟩:=bL.mp ht;refine aP.mpr ⟨t.t2,bL.mpr ⟨bQ h1,?_⟩,rfl⟩;show t.k.k2.hd=true;cases h:t.k<;>rw[h]at h2<;>first|rfl|cases h2
 obtain⟨r,hr⟩:=g.rk;refine⟨by rw[af];exact g.len,by rw[r2,af];exact g.r1,by rw[r2,af];exact g.r5,by rw[y2,af];exact g.y1,?_,g.m4,g.mo,by rw[n2];exact g.nm,by rw[n2];exact g.nd,λt ht=>?_,⟨r,λt ht=>?_⟩,λt ht=>?_,g.d0,g.d1,by rw[rm2];exact g.d2⟩
 ·rw[f2 (p:=Kd.pl) (q:=Kd.pl) λk=>by cases k<;>rfl,af];exact g.p7
 ·obtain⟨u,hu,rfl⟩:=aP.mp ht;have h:=g.st u hu;obtain⟨n,w,k,s⟩:=u;cases k<;>cases s<;>first|exact h|(show _∈rmN (T2 T);rw[rm2];exact h)|exact hd2 _ h
 ·obtain⟨u,hu,rfl⟩:=aP.mp ht;obtain⟨h1,h2⟩:=hr u hu;refine⟨by rw[af];exact h1,λp hp=>?_⟩;obtain⟨h3,v,h4,h5⟩:=h2 p hp;exact⟨h3,v.t2,bQ h4,h5⟩
 ·obtain⟨u,hu,rfl⟩:=aP.mp ht;exact g.wd u hu
theorem you2(hy:(T.filter λt=>decide (t.k=.you)).map Th.n=[y]):((T2 T).filter λt=>decide (t.k=.you)).map Th.n=[y]:=by rw[f2 (p:=λk=>decide (k=.you)) (q:=λk=>decide (k=.you)) λk=>by cases k<;>rfl,aU];exact hy
theorem tp2(h:Tp T c t z):Tp (T2 T) c t z:=by
 cases h with
 |here=>exact .here
 |tm h1 h2=>exact .tm h1 (by rw[n2];exact h2)
theorem ak2(h:Ak T c n d):Ak (T2 T) c n d:=by
 induction h with
 |«at» a b=>exact .at (tp2 a) (tp2 b)
 |has a=>exact .has (tp2 a)
 |seen a=>exact .seen (tp2 a)
 |kind t k=>exact .kind t k
 |word x=>exact .word x
 |marked v a=>exact .marked v a
 |lit=>exact .lit
 |no _ ih=>exact .no ih
 |both _ _ ih ih'=>exact .both ih ih'
theorem aa5(k:Kd):(vp [kS "plain", kS "fixed"] [.str "lamp", .str "box"] (kS k.s)).getD (.str k.s)=.str k.k2.s:=by cases k<;>kernel_rfl
theorem Od(g:Good T M dk):zh [uB T M dk y]=some (uB (T2 T) M dk y):=by
 have hl:=g.len;let sp:=uB T M dk y;let rows:L4.D:=.lst ((T2 T).map λt=>ua t.rw);have ec:=Ar (k:=3) (cap:=[]) (s:=iL (c2 vd ab fO)) (g:=gT dc 3) (fe:=uA qY) (λt:Th=>ua t.rw) (λt=>ua t.t2.rw) T (ρ:=[.im sp,.un,.un]) (ρ1:=[.im sp,.un,.un]) rfl (by omega) λt _=>⟨[.im (.str t.n),.im (.str t.k.s),.im (oS t.s)],[.im (.str t.n),.im (.str t.k.s),.im (oS t.s)],rfl,wb (tG rfl (tG (d:=.str t.k.k2.s) (by
   show some ((vp [kS "plain", kS "fixed"] [.str "lamp", .str "box"] (kS t.k.s)).getD (.str t.k.s),_)=_;rw[aa5]) (tG rfl rfl))) (bP rfl),rfl⟩
 have e2:(T.map λt=>ua t.t2.rw)=(T2 T).map λt=>ua t.rw:=by rw[aU];rfl
 rw[e2]at ec;refine uq (ρ:=[.im sp,.im rows,.im (uB (T2 T) M dk y)]) rfl ?_;unfold zg;refine(tE (ρ':=[.im sp,.im rows,.un]) ((t8 (uE ec)).trans rfl)).trans ?_;have ew:(T2 T).map wdD=T.map wdD:=by rw[aU];rfl
 unfold uB;rw[ew];rfl
end
theorem MV(ns:List Int)(k:Nat):∃c,xk [.fzl (ns.map D.int),.int k]=some (.int c):=by
 let ρ:bb:=[.im (.fzl (ns.map D.int)),.im (.int k)];have ev:cT (c2 Bh ao (c1 vw ab)) ρ=some (decide ((k:Int)<((ns.map D.int).length:Nat)),ρ):=rfl;rw[af]at ev;by_cases h:k<ns.length
 ·rw[aY (by omega)]at ev;refine⟨ns[k],uq (ρ:=ρ) rfl (uC ((ux ev).trans (ug (tQ (x:=.fzl (ns.map D.int)) (y:=.int k) rfl rfl ?_))))⟩;exact LO (by rw[bc,aJ h];rfl)
 ·rw[aT (by omega)]at ev;exact⟨0,uq (ρ:=ρ) rfl ((tE ((ur ev).trans rfl)).trans rfl)⟩
theorem eq_self(e0:Gi true d d=none)(e1:toD d=some x)(h1:Jn x x=true)(h2:dpt x<=20):dEq true d d=some (.bl false):=by unfold dEq;rw[e0];simp only;unfold JB;rw[e1];simp only;rw[h1,Jm,aY h2];rfl
theorem Gb:∀ks:List aD,∃l,BE (ks.map pairD)=some l/\vn l<=1
 |[]=>⟨[],rfl,by unfold vn;omega⟩
 |k::ks=>by
  obtain⟨l,e,h⟩:=Gb ks;have:toD (pairD k)=some (.tup (k.map L3.Dq.str)):=by unfold pairD toD;rw[Dt]
  refine⟨_::l,by rw[aE];unfold BE;rw[this];simp only[e];rfl,?_⟩;rw[vn,dpt,CV];omega
theorem IW(ks:List aD):dEq true (tdD ks) (tdD ks)=some (.bl false):=by obtain⟨l,e,h⟩:=Gb (Au (uqK ks));exact eq_self (x:=.tup l) rfl (by unfold toD;rw[e]) rfl (by rw[dpt];omega)
def lB:FS:=(tI (xa 7 (uF xl qX))
 (tI (um 8 (uY wg 7 cE))
 (tI (um 9 (uY (ud 4) 7 qP))
 (tI (HQ (tJ yi (a1 (cV 8))) (gT qK 2))
 (tI (um 12 (tJ (vh 4) (a1 (cV 9))))
 (tI (um 13 (tJ wB (tD ao kh)))
 (tI (um 14 (uJ (uo 3) "reads" (cV 12) (tD av kg)))
 (tI (sIf (xX (yS (cT (c1 (xt (vL "tuple")) (cV 14)))) (cT (c2 (dEq true) (cV 14) (cV 13)))) (ub fM) uc)
 (tI (uu (zp 5 (uA qJ)))
 (sIf (cT (c2 (dEq true) (uJ (uo 3) "reads" (cV 12) (tD aF kg)) (tJ wB (tD az kh)))) (ub fM) uc))))))))))
section
variable{y:Str}{T:List Th}{M:List Mk}{dk:aD}{c it ot d:L4.D}
theorem Kw(g:Good T M dk)(t:Tst 3 T M dk y c it ot d k ns ds Q):wB [uB T M dk y,c,d]=some (tdD Q):=
 uq (ρ:=[.im (uB T M dk y),.im c,.im d]) rfl (ug (Va (tK (ds:=[uB T M dk y,c,d]) rfl t.h) rfl (Ly t.sb) (IS g t.sb)))
def Hd(W h:L4.D):Prop:=∃(k:Nat) (ns:aD) (ds:List L4.D) (it ot:L4.D) (Q:List aD) (hh:List L4.D->Option L4.D),h=.tup [.obj k ns ds,it,ot,tdD Q]/\uo 3 k=some hh/\ns.contains "reads" = false/\hh [.obj k ns ds,W,it,ot]=some (tdD Q)
theorem Zb(ns:List Int)(hl:ns.length<=63):U6 [.fzl (ns.map D.int)]=some (.bl true):=by
 obtain⟨c0,e0⟩:=MV ns 0;obtain⟨c1,e1⟩:=MV ns 1;obtain⟨T,M,dk,y,es,g,hy⟩:=Uu c0;have g2:=good2 g;have hy2:=you2 hy;have ew:=Km g hy (Kn g);have ew2:=Km g2 hy2 (Kn g2);let sc:=D.fzl (ns.map D.int);let W:=wM T M dk y;let W2:=wM (T2 T) M dk y;let sp:=uB T M dk y;let sp2:=uB (T2 T) M dk y;let R:List L4.D->bb->bb:=λh s=>.im sc::.im sp::.im W::.im sp2::.im W2::.ls h::s;have loop:∀(l:List Int) (h:List L4.D) (s:bb),s.length=9->h.length+l.length<=900->(∀x∈h,Hd W x)->∃h' s',h'.length<=900/\(∀x∈h',Hd W x)/\forL (gN 6) lB (l.map D.int) (R h s)=some (.nx (R h' s')):=by
  intro l
  induction l with
  |nil=>exact λh s _ hn hh=>⟨h,s,by simpa using hn,hh,rfl⟩
  |cons c l ih=>
   intro h s hs hn hh;rw[aM]at hn
   match s,hs with
   |[s6,s7,s8,s9,s10,s11,s12,s13,s14],_=>
   obtain⟨xs,ix,dx⟩:=Kh c 60 (by decide);obtain⟨cm,f,xs1,i1,hc,ec⟩:=Lx (y:=y) g ix;obtain⟨d,xs2,i2,ak,ea⟩:=Kr (y:=y) g hc (n:=3) (by decide) i1;obtain⟨it,ot,a,b,eg,gv⟩:=Ob hc;obtain⟨k,ns',ds,Q,t1⟩:=Vd g hy gv ak (by decide);obtain⟨k',ns'',ds',Q',t2⟩:=Vd g2 hy2 gv (ak2 ak) (by decide);have eo:=t1.m.symm.trans t2.m;injection eo with eo;injection eo with o1 o2 o3;subst o1 o2 o3;obtain⟨hh1,r1,r2⟩:=t1.r;obtain⟨hh2,u1,u2⟩:=t2.r;let o:L4.D:=.obj k ns' ds;let te:L4.D:=.tup [o,it,ot,tdD Q];let S:List L4.D->bb:=λh=>R h [.im (.int c),.ls xs2,.im cm,.im d,.im it,.im ot,.im o,.im (tdD Q),.im (tdD Q)];obtain⟨h',s',q1,q2,q3⟩:=ih (h++[te]) [.im (.int c),.ls xs2,.im cm,.im d,.im it,.im ot,.im o,.im (tdD Q),.im (tdD Q)] rfl (by rw[aB,bh];omega) λx hx=>by
    rcases bx.mp hx with hx|hx
    ·exact hh x hx
    ·rw[aV.mp hx];exact⟨k,ns',ds,it,ot,Q,hh1,rfl,r1,t1.nn,r2⟩
   refine⟨h',s',q1,q2,?_⟩;rw[aE];unfold forL;rw[show gN 6 (.int c) (R h [s6,s7,s8,s9,s10,s11,s12,s13,s14])=some (R h [.im (.int c),s7,s8,s9,s10,s11,s12,s13,s14]) from rfl];have ev:lB (R h [.im (.int c),s7,s8,s9,s10,s11,s12,s13,s14])=some (.nx (S (h++[te]))):=by unfold lB;refine(tE (ρ':=R h [.im (.int c),.ls xs,s8,s9,s10,s11,s12,s13,s14]) ((BY (tK (tG rfl (tG rfl rfl)) dx)).trans rfl)).trans ?_;refine(tE (ρ':=R h [.im (.int c),.ls xs1,.im cm,s9,s10,s11,s12,s13,s14]) ((t8 (Bf (ρ1:=R h [.im (.int c),.ls xs,s8,s9,s10,s11,s12,s13,s14]) rfl rfl ec)).trans rfl)).trans ?_;refine(tE (ρ':=R h [.im (.int c),.ls xs2,.im cm,.im d,s10,s11,s12,s13,s14]) ((t8 (Bf (ds:=[sp,.str f,.int 4]) (ρ1:=R h [.im (.int c),.ls xs1,.im cm,s9,s10,s11,s12,s13,s14]) (tG rfl (tG (tK (ds:=[cm]) rfl (UA hc)) (tG rfl rfl))) rfl ea)).trans rfl)).trans ?_;refine(tE (ρ':=R h [.im (.int c),.ls xs2,.im cm,.im d,.im it,.im ot,s12,s13,s14]) (Rh (tK (ds:=[cm]) rfl eg) rfl)).trans ?_;refine(tE (ρ':=R h [.im (.int c),.ls xs2,.im cm,.im d,.im it,.im ot,.im o,s13,s14]) ((t8 (tK (ds:=[d]) rfl t1.m)).trans rfl)).trans ?_;refine(tE (ρ':=R h [.im (.int c),.ls xs2,.im cm,.im d,.im it,.im ot,.im o,.im (tdD Q),s14]) ((t8 (tK (ds:=[sp,cm,d]) rfl (Kw g t1))).trans rfl)).trans ?_;refine(tE (ρ':=S h) ((t8 (ve (xs:=ds) (ys:=[W,it,ot]) rfl r1 t1.nn rfl r2)).trans rfl)).trans ?_;refine(tE (ρ':=S h) ((ur (y3 (ρ1:=S h) (Mb (b:=true) (uR (uD (x:=tdD Q) rfl rfl))) (uR (tQ (x:=tdD Q) (y:=tdD Q) rfl rfl (IW Q))))).trans rfl)).trans ?_;refine(tE (ρ':=S (h++[te])) ((u7 (Da (es:=h) (es0:=h) (d:=te) (ρ1:=S h) rfl rfl rfl (by omega))).trans rfl)).trans ?_;exact(ur (ρ':=S (h++[te])) (uR (tQ (x:=tdD Q') (y:=tdD Q') (ρ1:=S (h++[te])) (ve (xs:=ds) (ys:=[W2,it,ot]) rfl u1 t2.nn rfl u2) (tK (ds:=[sp2,cm,d]) rfl (Kw g2 t2)) (IW Q')))).trans rfl
   simp only[ev];exact q3
 let cs:List Int:=c1::(ns.drop (HT.sIx ns.length 0 (some 2))).take (HT.sIx ns.length ns.length (some 17) - HT.sIx ns.length 0 (some 2));have ec:[D.int c1]++cutD (ns.map D.int) (some 2) (some 17)=cs.map D.int:=by unfold cutD;rw[af,<- fZ,<- f7];rfl
 have hc:(cutD (ns.map D.int) (some 2) (some 17)).length<=63:=by unfold cutD;rw[bo,cb,af];omega
 let un:bb:=fw 9 .un;obtain⟨h',s',q1,q2,e⟩:=loop cs [] un rfl (by
  have:=ba cc ec;rw[aB,af,bh]at this;rw[fj,<- this];omega) λx hx=>by cases hx
 refine uq (ρ:=R h' s') rfl ?_;refine(tE (ρ':=.im sc::.im sp::.un::.un::.un::.un::un) ((t8 (tK (tG (tK (tG rfl (tG rfl rfl)) e0) rfl) es)).trans rfl)).trans ?_;refine(tE (ρ':=.im sc::.im sp::.im W::.un::.un::.un::un) ((t8 (tK (tG rfl rfl) ew)).trans rfl)).trans ?_;refine(tE (ρ':=.im sc::.im sp::.im W::.im sp2::.un::.un::un) ((t8 (tK (tG rfl rfl) (Od g))).trans rfl)).trans ?_;refine(tE (ρ':=.im sc::.im sp::.im W::.im sp2::.im W2::.un::un) ((t8 (tK (tG rfl rfl) ew2)).trans rfl)).trans ?_;refine(tE (ρ':=R [] un) rfl).trans ?_;refine(tE ((wK (ds:=cs.map D.int) (ρ1:=R [] un) ?_).trans e)).trans ?_
 ·exact(El (uE (u4 (xs:=[.int c1]) (ys:=cutD (ns.map D.int) (some 2) (some 17)) (uE (AD (tG (tK (tG rfl (tG rfl rfl)) e1) rfl) (show 1<=1000 by decide))) rfl (by show 1+_<=1000;omega)))).trans (by rw[ec])
 let ρb:bb:=.im sc::.im sp::.im W::.im sp2::.im W2::.im (.lst h')::s'.map Sl.bor;have cf:=xV (k:=4) (cap:=[2]) (s:=iL bB) (g:=gT qI 4) (ft:=cT (c2 (dEq true) (uJ (uo 3) "reads" ab (tD aF kq)) az)) (fe:=cC (.int 1)) (λd:L4.D=>d) (λ_=>D.int 1) (λ_=>false) h' (ρ:=ρb) (ρ1:=ρb) (by rw[List.map_id'];rfl) (by omega) λx hx=>by obtain⟨k,ns',ds,it,ot,Q,hh,rfl,r1,nn,r2⟩:=q2 x hx;let ρ2:bb:=[.im (.obj k ns' ds),.im it,.im ot,.im (tdD Q),.im W];exact⟨ρ2,ρ2,rfl,uR (tQ (x:=tdD Q) (y:=tdD Q) (ve (xs:=ds) (ys:=[W,it,ot]) rfl r1 nn rfl r2) rfl (IW Q)),λz=>(by cases z),λ_=>rfl⟩
 rw[show h'.filter (λ_=>false)=[] from nF.mpr λ_ _=>bj]at cf;exact ug (Pt (ρ1:=ρb) (tQ (x:=.lst []) (y:=.lst []) (uE cf) rfl rfl) rfl)
end
end K23x
namespace K23x
open PySem L2 L3 L4
open PySem.W (nsIn)
structure Fx(K:au)(C0 C1 C2 C3 C4 C5 C6 C7 C8 C9 C10 C11 C12 C13 C14 C15:Addr):Prop where
 a0:nsIn K aW "Thing" = some (some (.ref C0))
 a1:nsIn K aW "Mark" = some (some (.ref C1))
 a2:nsIn K aW "Verb" = some (some (.ref C2))
 a3:nsIn K aW "At" = some (some (.ref C3))
 a4:nsIn K aW "Has" = some (some (.ref C4))
 a5:nsIn K aW "Seen" = some (some (.ref C5))
 a6:nsIn K aW "Marked" = some (some (.ref C6))
 a7:nsIn K aW "Kind" = some (some (.ref C7))
 a8:nsIn K aW "Word" = some (some (.ref C8))
 a9:nsIn K aW "Not" = some (some (.ref C9))
 a10:nsIn K aW "Both" = some (some (.ref C10))
 a11:nsIn K aW "Move" = some (some (.ref C11))
 a12:nsIn K aW "Put" = some (some (.ref C12))
 a13:nsIn K aW "Rule" = some (some (.ref C13))
 a14:nsIn K aW "World" = some (some (.ref C14))
 a15:nsIn K aW "Lit" = some (some (.ref C15))
 k0:CF K C0 ["kind", "name", "start", "words"]
 k1:CF K C1 ["most", "name", "start"]
 k2:CF K C2 ["joining", "name", "others", "form"]
 k3:CF K C3 ["place", "term"]
 k4:CF K C4 ["term"]
 k5:CF K C5 ["term"]
 k6:CF K C6 ["term", "value"]
 k7:CF K C7 ["kind", "term"]
 k8:CF K C8 ["word"]
 k9:CF K C9 ["inner"]
 k10:CF K C10 ["one", "other"]
 k11:CF K C11 ["place", "term"]
 k12:CF K C12 ["term", "value"]
 k13:CF K C13 ["verb", "deeds", "refuses", "tests", "text"]
 k14:CF K C14 ["copied_rules", "kept_things", "kept_verbs", "mosts_by_name", "shared_rules", "shared_verbs", "things_by_name", "your_name", "kept_dark", "kept_marks", "kept_rules", "kept_ways", "rules_by_verb", "verbs_by_word"]
 k15:CF K C15 []
 i_Mark:ED K [C0,C1,C2,C3,C4,C5,C6,C7,C8,C9,C10,C11,C12,C13,C14,C15] C1 1=true
 i_Thing:ED K [C0,C1,C2,C3,C4,C5,C6,C7,C8,C9,C10,C11,C12,C13,C14,C15] C0 0=true
 n_Lit:cP K (.ref C15) "__init__" = some (some (.builtin "object.__init__"))
 nd:decide ([C0,C1,C2,C3,C4,C5,C6,C7,C8,C9,C10,C11,C12,C13,C14,C15]:List Addr).Nodup=true
 e:((["all", "any", "bool", "dict", "int", "isinstance", "len", "list", "range", "set", "sorted", "str", "tuple", "zip"]:aD).all λx=>match nsIn K aW x with|some none=>true|_=>false)=true
 g0:GS K "KINDS" ["room", "plain", "fixed", "box", "lamp", "you"]
 g1:GS K "KINDS_APART" ["room", "you"]
 g2:GS K "KINDS_THAT_HOLD" ["room", "box", "you"]
 g3:GS K "KINDS_WITH_MARK" ["box", "lamp"]
 g4:GC K "MOST_BESIDE" 7
 g5:GC K "MOST_IN_NAME" 8
 g6:GC K "MOST_IN_WORD" 12
 g7:GC K "MOST_MARKS" 4
 g8:GC K "MOST_OF_MARK" 3
 g9:GC K "MOST_ROOMS" 5
 g10:GC K "MOST_RULES" 20
 g11:GC K "MOST_VERBS" 6
 g12:GC K "MOST_WAYS" 10
 g13:GC K "MOST_WORDS" 4
 g14:GS K "NO_NAMES" ["it", "other", "here", "the", "a", "undo", "restart"]
 g15:GS K "NO_WORDS" ["the", "a"]
 g16:GS K "NO_WORDS_OF_ROWS" ["the", "a", "undo", "restart"]
 q17:GD K "is_small_letters" (top 6)
 q18:GD K "is_name" (top 7)
 q19:GD K "is_word" (top 8)
 q20:GD K "is_one_of" (top 10)
 q21:GD K "is_whole" (top 11)
 q22:GD K "is_list_up_to" (top 12)
 q23:GD K "own_list" (top 102)
 q24:GJ K C0 "Thing.__init__" (inClass (top 52) 0) [V.non]
 q25:GM K C1 "__init__" "Mark.__init__" (inClass (top 53) 0)
 q26:GJ K C2 "Verb.__init__" (inClass (top 54) 0) [V.non,(V.str "one"),V.non]
 q27:GM K C3 "__init__" "At.__init__" (inClass (top 28) 0)
 q28:GM K C4 "__init__" "Has.__init__" (inClass (top 29) 0)
 q29:GM K C5 "__init__" "Seen.__init__" (inClass (top 30) 0)
 q30:GM K C6 "__init__" "Marked.__init__" (inClass (top 31) 0)
 q31:GM K C7 "__init__" "Kind.__init__" (inClass (top 32) 0)
 q32:GM K C8 "__init__" "Word.__init__" (inClass (top 33) 0)
 q33:GM K C9 "__init__" "Not.__init__" (inClass (top 35) 0)
 q34:GM K C10 "__init__" "Both.__init__" (inClass (top 36) 0)
 q35:GM K C11 "__init__" "Move.__init__" (inClass (top 93) 0)
 q36:GM K C12 "__init__" "Put.__init__" (inClass (top 94) 0)
 q37:GJ K C13 "Rule.__init__" (inClass (top 101) 0) [(V.bl false)]
 q38:GM K C0 "can_hold" "Thing.can_hold" (inClass (top 52) 1)
 q39:GM K C0 "has_mark" "Thing.has_mark" (inClass (top 52) 2)
 q40:GM K C0 "is_plainly" "Thing.is_plainly" (inClass (top 52) 3)
 q41:GD K "refuse_unless" (top 67)
 q42:GD K "count_of" (top 70)
 q43:GD K "plain_ones" (top 71)
 q44:GD K "is_mark" (top 73)
 q45:GD K "check_things" (top 69)
 q46:GD K "check_marks" (top 72)
 q47:GD K "are_unlike" (top 75)
 q48:GD K "check_names" (top 74)
 q49:GD K "mark_names" (top 76)
 q50:GD K "is_start" (top 78)
 q51:GD K "comes_to_room" (top 79)
 q52:GD K "check_starts" (top 77)
 q53:GD K "are_words" (top 81)
 q54:GD K "has_all" (top 83)
 q55:GD K "is_told_apart" (top 82)
 q56:GD K "check_words_of_things" (top 80)
 q57:GD K "check_dark" (top 84)
 q58:GD K "is_way" (top 86)
 q59:GD K "check_ways" (top 85)
 q60:GD K "check_verbs" (top 87)
 q61:GD K "are_apart" (top 90)
 q62:GD K "check_vocabulary" (top 89)
 q63:GD K "check_parts" (top 68)
 q64:GD K "does" (top 125)
 q65:GD K "refuses" (top 126)
 q66:GD K "hand_rules" (top 127)
 q67:GD K "put_rules" (top 128)
 q68:GD K "lid_rules" (top 129)
 q69:GD K "flame_rules" (top 130)
 q70:GD K "way_tests" (top 132)
 q71:GD K "go_rules" (top 131)
 q72:GD K "wait_rules" (top 133)
 q73:GD K "common_rules" (top 124)
 q74:GD K "common_verbs" (top 123)
 q75:GD K "by_name" (top 137)
 q76:GD K "mosts_by_name" (top 138)
 q77:GD K "verbs_by_word" (top 139)
 q78:GD K "by_verb" (top 140)
 q79:GM K C14 "of_kind" "World.of_kind" (inClass (top 136) 3)
 q80:GM K C14 "all_verbs" "World.all_verbs" (inClass (top 136) 13)
 q81:GM K C14 "__init__" "World.__init__" (inClass (top 136) 0)
 q82:GM K C14 "you" "World.you" (inClass (top 136) 4)
 q83:GM K C14 "thing_of" "World.thing_of" (inClass (top 136) 2)
 q84:GM K C14 "most_of" "World.most_of" (inClass (top 136) 6)
 q85:GD K "given" (top 40)
 q86:GD K "at_parts" (top 41)
 q87:GD K "mark_parts" (top 42)
 q88:GD K "box_parts" (top 43)
 q89:GD K "light_parts" (top 44)
 q90:GD K "tidy" (top 45)
 q91:GM K C3 "reads" "At.reads" (inClass (top 28) 2)
 q92:GM K C4 "reads" "Has.reads" (inClass (top 29) 2)
 q93:GM K C5 "reads" "Seen.reads" (inClass (top 30) 2)
 q94:GM K C6 "reads" "Marked.reads" (inClass (top 31) 2)
 q95:GM K C7 "reads" "Kind.reads" (inClass (top 32) 2)
 q96:GM K C8 "reads" "Word.reads" (inClass (top 33) 2)
 q97:GM K C15 "reads" "Lit.reads" (inClass (top 34) 1)
 q98:GM K C9 "reads" "Not.reads" (inClass (top 35) 2)
 q99:GM K C10 "reads" "Both.reads" (inClass (top 36) 2)
 q100:GD K "_law_cell_at" (top 142)
 q101:GD K "_law_draws" (top 143)
 q102:GD K "_law_take" (top 144)
 q103:GD K "_law_names" (top 145)
 q104:GD K "_law_others" (top 146)
 q105:GD K "_law_spec" (top 147)
 q106:GD K "_law_ways" (top 148)
 q107:GD K "_law_world" (top 149)
 q108:GD K "_law_of" (top 150)
 q109:GD K "_law_mosts" (top 151)
 q110:GD K "_law_command" (top 152)
 q111:GD K "_law_form" (top 153)
 q112:GD K "_law_term" (top 154)
 q113:GD K "_law_place" (top 155)
 q114:GD K "_law_marked" (top 156)
 q115:GD K "_law_asked" (top 157)
 q116:GD K "_law_test" (top 158)
 q117:GD K "_law_parts" (top 159)
 q118:GD K "_law_light" (top 160)
 q119:GD K "_law_hangs" (top 161)
 q120:GD K "_law_reads" (top 162)
 q121:GD K "_law_given" (top 163)
 q122:GD K "_law_second" (top 164)
 q123:GD K "law" (top 165)
class Yx(B:Bz):Prop where
 y:Yw B.P B.w B.mg B.base B.G
 f:Fx B.G.K (B.G.ca 0) (B.G.ca 1) (B.G.ca 2) (B.G.ca 3) (B.G.ca 4) (B.G.ca 5) (B.G.ca 6) (B.G.ca 7) (B.G.ca 8) (B.G.ca 9) (B.G.ca 10) (B.G.ca 11) (B.G.ca 12) (B.G.ca 13) (B.G.ca 14) (B.G.ca 15)
section
variable{B:Bz}[Y:Yx B]
instance:Yb B:=⟨Y.y⟩
instance:Nb B "all" := ⟨Y.y.n Y.f.e 0 rfl⟩
instance:Nb B "any" := ⟨Y.y.n Y.f.e 1 rfl⟩
instance:Nb B "bool" := ⟨Y.y.n Y.f.e 2 rfl⟩
instance:Nb B "dict" := ⟨Y.y.n Y.f.e 3 rfl⟩
instance:Nb B "int" := ⟨Y.y.n Y.f.e 4 rfl⟩
instance:Nb B "isinstance" := ⟨Y.y.n Y.f.e 5 rfl⟩
instance:Nb B "len" := ⟨Y.y.n Y.f.e 6 rfl⟩
instance:Nb B "list" := ⟨Y.y.n Y.f.e 7 rfl⟩
instance:Nb B "range" := ⟨Y.y.n Y.f.e 8 rfl⟩
instance:Nb B "set" := ⟨Y.y.n Y.f.e 9 rfl⟩
instance:Nb B "sorted" := ⟨Y.y.n Y.f.e 10 rfl⟩
instance:Nb B "str" := ⟨Y.y.n Y.f.e 11 rfl⟩
instance:Nb B "tuple" := ⟨Y.y.n Y.f.e 12 rfl⟩
instance:Nb B "zip" := ⟨Y.y.n Y.f.e 13 rfl⟩
instance:Co B "KINDS" IC:=⟨Y.y.cs Y.f.g0⟩
instance:Co B "KINDS_APART" Bq:=⟨Y.y.cs Y.f.g1⟩
instance:Co B "KINDS_THAT_HOLD" yV:=⟨Y.y.cs Y.f.g2⟩
instance:Co B "KINDS_WITH_MARK" yW:=⟨Y.y.cs Y.f.g3⟩
instance:Co B "MOST_BESIDE" Br:=⟨Y.y.ci Y.f.g4⟩
instance:Co B "MOST_IN_NAME" AJ:=⟨Y.y.ci Y.f.g5⟩
instance:Co B "MOST_IN_WORD" AK:=⟨Y.y.ci Y.f.g6⟩
instance:Co B "MOST_MARKS" ya:=⟨Y.y.ci Y.f.g7⟩
instance:Co B "MOST_OF_MARK" AL:=⟨Y.y.ci Y.f.g8⟩
instance:Co B "MOST_ROOMS" Ce:=⟨Y.y.ci Y.f.g9⟩
instance:Co B "MOST_RULES" Cg:=⟨Y.y.ci Y.f.g10⟩
instance:Co B "MOST_VERBS" Cf:=⟨Y.y.ci Y.f.g11⟩
instance:Co B "MOST_WAYS" DQ:=⟨Y.y.ci Y.f.g12⟩
instance:Co B "MOST_WORDS" zU:=⟨Y.y.ci Y.f.g13⟩
instance:Co B "NO_NAMES" FI:=⟨Y.y.cs Y.f.g14⟩
instance:Co B "NO_WORDS" FJ:=⟨Y.y.cs Y.f.g15⟩
instance:Co B "NO_WORDS_OF_ROWS" yA:=⟨Y.y.cs Y.f.g16⟩
instance:Ff B xB "copied_rules" := ⟨yN (Y.f.k14.at 0 rfl)⟩
instance:Ff B G7 "inner" := ⟨yN (Y.f.k9.at 0 rfl)⟩
instance:Ff B AH "joining" := ⟨yN (Y.f.k2.at 0 rfl)⟩
instance:Ff B Aj "kept_things" := ⟨yN (Y.f.k14.at 1 rfl)⟩
instance:Ff B AI "kept_verbs" := ⟨yN (Y.f.k14.at 2 rfl)⟩
instance:Ff B uL "kind" := ⟨orQ (yN (Y.f.k0.at 0 rfl)) (Y.f.k7.at 0 rfl)⟩
instance:Ff B yy "most" := ⟨yN (Y.f.k1.at 0 rfl)⟩
instance:Ff B yU "mosts_by_name" := ⟨yN (Y.f.k14.at 3 rfl)⟩
instance:Ff B ui "name" := ⟨orQ (orQ (yN (Y.f.k0.at 1 rfl)) (Y.f.k1.at 1 rfl)) (Y.f.k2.at 1 rfl)⟩
instance:Ff B MF "one" := ⟨yN (Y.f.k10.at 0 rfl)⟩
instance:Ff B G8 "other" := ⟨yN (Y.f.k10.at 1 rfl)⟩
instance:Ff B BG "others" := ⟨yN (Y.f.k2.at 2 rfl)⟩
instance:Ff B G9 "place" := ⟨orQ (yN (Y.f.k3.at 0 rfl)) (Y.f.k11.at 0 rfl)⟩
instance:Ff B xC "shared_rules" := ⟨yN (Y.f.k14.at 4 rfl)⟩
instance:Ff B zu "shared_verbs" := ⟨yN (Y.f.k14.at 5 rfl)⟩
instance:Ff B vb "start" := ⟨orQ (yN (Y.f.k0.at 2 rfl)) (Y.f.k1.at 2 rfl)⟩
instance:Ff B Cd "term" := ⟨orQ (orQ (orQ (orQ (orQ (orQ (yN (Y.f.k3.at 1 rfl)) (Y.f.k4.at 0 rfl)) (Y.f.k5.at 0 rfl)) (Y.f.k6.at 0 rfl)) (Y.f.k7.at 1 rfl)) (Y.f.k11.at 1 rfl)) (Y.f.k12.at 0 rfl)⟩
instance:Ff B yz "things_by_name" := ⟨yN (Y.f.k14.at 6 rfl)⟩
instance:Ff B J8 "verb" := ⟨yN (Y.f.k13.at 0 rfl)⟩
instance:Ff B vS "words" := ⟨yN (Y.f.k0.at 3 rfl)⟩
instance:Ff B xE "your_name" := ⟨yN (Y.f.k14.at 7 rfl)⟩
instance:Af B 0 ["kind", "name", "start", "words"]:=⟨Y.f.k0⟩
instance:Af B 1 ["most", "name", "start"]:=⟨Y.f.k1⟩
instance:Af B 2 ["joining", "name", "others", "form"]:=⟨Y.f.k2⟩
instance:Af B 3 ["place", "term"]:=⟨Y.f.k3⟩
instance:Af B 4 ["term"]:=⟨Y.f.k4⟩
instance:Af B 5 ["term"]:=⟨Y.f.k5⟩
instance:Af B 6 ["term", "value"]:=⟨Y.f.k6⟩
instance:Af B 7 ["kind", "term"]:=⟨Y.f.k7⟩
instance:Af B 8 ["word"]:=⟨Y.f.k8⟩
instance:Af B 9 ["inner"]:=⟨Y.f.k9⟩
instance:Af B 10 ["one", "other"]:=⟨Y.f.k10⟩
instance:Af B 11 ["place", "term"]:=⟨Y.f.k11⟩
instance:Af B 12 ["term", "value"]:=⟨Y.f.k12⟩
instance:Af B 13 ["verb", "deeds", "refuses", "tests", "text"]:=⟨Y.f.k13⟩
instance:Af B 14 ["copied_rules", "kept_things", "kept_verbs", "mosts_by_name", "shared_rules", "shared_verbs", "things_by_name", "your_name", "kept_dark", "kept_marks", "kept_rules", "kept_ways", "rules_by_verb", "verbs_by_word"]:=⟨Y.f.k14⟩
instance:Ic B "Mark" QM:=⟨1,G1 Y.f.i_Mark rfl (TY 16 _) (NU.at ⟨Y.f.k0.ci,Y.f.k1.ci,Y.f.k2.ci,Y.f.k3.ci,Y.f.k4.ci,Y.f.k5.ci,Y.f.k6.ci,Y.f.k7.ci,Y.f.k8.ci,Y.f.k9.ci,Y.f.k10.ci,Y.f.k11.ci,Y.f.k12.ci,Y.f.k13.ci,Y.f.k14.ci,Y.f.k15.ci,trivial⟩),Y.y.g Y.f.a1⟩
instance:Ic B "Thing" MG:=⟨0,G1 Y.f.i_Thing rfl (TY 16 _) (NU.at ⟨Y.f.k0.ci,Y.f.k1.ci,Y.f.k2.ci,Y.f.k3.ci,Y.f.k4.ci,Y.f.k5.ci,Y.f.k6.ci,Y.f.k7.ci,Y.f.k8.ci,Y.f.k9.ci,Y.f.k10.ci,Y.f.k11.ci,Y.f.k12.ci,Y.f.k13.ci,Y.f.k14.ci,Y.f.k15.ci,trivial⟩),Y.y.g Y.f.a0⟩
instance:K0f B "Lit" 15:=⟨⟨Y.f.k15.mks,Y.f.n_Lit,Y.f.k15.kp⟩,Y.y.g Y.f.a15⟩
instance:Ij B 16:=⟨injR Y.f.nd⟩
theorem eqL{A:Type}{l:List A}{n:Nat}(h:l.length=n):l.length=n:=h
theorem eqE{e:PySem.Expr}{v:PySem.Env}{r:PySem.Sem PySem.Value}(h:PySem.eval e v=r):PySem.eval e v=r:=h
local macro_rules|`(tactic|trivial)=>do let x:=("aaI aav aau aaw aax Qm aaB Xe XU aay Xc X1 XT WV WW XW XY XO Xi XG Xl X2 W4 W5 W6 W7 WZ XZ aaC X3 W0 Xg X5 X7 XX Yj Xf Xd Xb WU Xq Xr aaz X9 W9 Xa W8 aaD aaE Xw WX WY Xx W3 Yg Yh Yi X6 X8 Ya aaA Xj Xk Yc Yd Xy Xm Xn Ys XC XD XE XF Ye Yf TV TU TX XH XI XJ Xp XM Xs Xt Xu YQ Xv Yq XB XA Xz Xh YF XR XS TR X4 YD YB YE YC YA zr_luI YM Yr Yl Xo Ym Yn TQ Yk X0".splitOn " ").toArray.map fun s=>Lean.mkIdent (.mkSimple s);`(tactic|repeat' first|(with_reducible intro _)|((with_reducible first|apply eqL|apply eqE);rfl)|kernel_rfl|((with_reducible first|apply XQ|apply zr_cpM);rotate_left 7;rfl)|(with_reducible first $[|apply $x]*)|exact pA)
instance:Df B 1 "is_small_letters" (spF B.G wQ):=gF4 rfl Y.f.q17 rfl (by unfold yB;trivial)
instance:Df B 2 "is_name" (spF B.G A9):=gF4 rfl Y.f.q18 rfl (by unfold He;trivial)
instance:Df B 2 "is_word" (spF B.G wW):=gF4 rfl Y.f.q19 rfl (by unfold Hf;trivial)
instance:Df B 1 "is_one_of" (spF B.G uN):=gF4 rfl Y.f.q20 rfl (by unfold DR;trivial)
instance:Df B 1 "is_whole" (spF B.G BH):=gF4 rfl Y.f.q21 rfl (by unfold FK;trivial)
instance:Df B 1 "is_list_up_to" (spF B.G vc):=gF4 rfl Y.f.q22 rfl (by unfold Al;trivial)
instance:Df B 1 "own_list" (spF B.G BI):=gF4 rfl Y.f.q23 rfl (by unfold FL;trivial)
instance:Kf B 1 "Thing" 0 Cj []:=gJ4 (dds:=[D.non]) Y.f.k0 Y.f.a0 rfl Y.f.q24 rfl rfl (by unfold Ci;trivial) 1
instance:Kf B 1 "Mark" 1 DT []:=gI4 Y.f.k1 Y.f.a1 rfl Y.f.q25 rfl rfl (by unfold DS;trivial)
theorem Ah:Bdz B (nmO (inClass (top 54) 0)) "Verb.__init__" (inClass (top 54) 0) (uw (inClass (top 54) 0)) 0 AM:=by
 unfold AM;refine Qm ?_ ?_
 all_goals trivial
instance:Kf B 1 "Verb" 2 wc [D.non,(D.str "one"),D.non]:=gJ4 (dds:=[D.non,(D.str "one"),D.non]) Y.f.k2 Y.f.a2 rfl Y.f.q26 rfl rfl Ah 0
instance:Kf B 1 "Verb" 2 wc [D.non]:=gJ4 (dds:=[D.non,(D.str "one"),D.non]) Y.f.k2 Y.f.a2 rfl Y.f.q26 rfl rfl Ah 2
instance:Kf B 1 "Verb" 2 wc []:=gJ4 (dds:=[D.non,(D.str "one"),D.non]) Y.f.k2 Y.f.a2 rfl Y.f.q26 rfl rfl Ah 3
instance:Kf B 1 "At" 3 Ba []:=gI4 Y.f.k3 Y.f.a3 rfl Y.f.q27 rfl rfl (by unfold Hg;trivial)
instance:Kf B 1 "Has" 4 zV []:=gI4 Y.f.k4 Y.f.a4 rfl Y.f.q28 rfl rfl (by unfold FM;trivial)
instance:Kf B 1 "Seen" 5 DV []:=gI4 Y.f.k5 Y.f.a5 rfl Y.f.q29 rfl rfl (by unfold DU;trivial)
instance:Kf B 1 "Marked" 6 uZ []:=gI4 Y.f.k6 Y.f.a6 rfl Y.f.q30 rfl rfl (by unfold Bs;trivial)
instance:Kf B 1 "Kind" 7 vG []:=gI4 Y.f.k7 Y.f.a7 rfl Y.f.q31 rfl rfl (by unfold DW;trivial)
instance:Kf B 1 "Word" 8 AN []:=gI4 Y.f.k8 Y.f.a8 rfl Y.f.q32 rfl rfl (by unfold DX;trivial)
instance:Kf B 1 "Not" 9 vJ []:=gI4 Y.f.k9 Y.f.a9 rfl Y.f.q33 rfl rfl (by unfold FN;trivial)
instance:Kf B 1 "Both" 10 DZ []:=gI4 Y.f.k10 Y.f.a10 rfl Y.f.q34 rfl rfl (by unfold DY;trivial)
instance:Kf B 1 "Move" 11 xM []:=gI4 Y.f.k11 Y.f.a11 rfl Y.f.q35 rfl rfl (by unfold D1;trivial)
instance:Kf B 1 "Put" 12 yC []:=gI4 Y.f.k12 Y.f.a12 rfl Y.f.q36 rfl rfl (by unfold FP;trivial)
instance:Kf B 2 "Rule" 13 AO []:=gJ4 (dds:=[(D.bl false)]) Y.f.k13 Y.f.a13 rfl Y.f.q37 rfl rfl (by unfold D2;trivial) 1
instance:Mf B 9 "can_hold" vz:=⟨λc h e=>by
 unfold vz at e;split at e
 ·cases e;exact hF4 (k:=8) Y.f.k0 rfl Y.f.q38 rfl (by unfold zv;trivial)
 ·cases e⟩
instance:Mf B 9 "has_mark" vA:=⟨λc h e=>by
 unfold vA at e;split at e
 ·cases e;exact hF4 (k:=8) Y.f.k0 rfl Y.f.q39 rfl (by unfold zx;trivial)
 ·cases e⟩
instance:Mf B 9 "is_plainly" xD:=⟨λc h e=>by
 unfold xD at e;split at e
 ·cases e;exact hF4 (k:=8) Y.f.k0 rfl Y.f.q40 rfl (by unfold yD;trivial)
 ·cases e⟩
instance:Df B 1 "refuse_unless" (spF B.G tS):=gF4 rfl Y.f.q41 rfl (by unfold Am;trivial)
instance:Df B 1 "count_of" (spF B.G zW):=gF4 rfl Y.f.q42 rfl (by unfold FQ;trivial)
instance:Df B 10 "plain_ones" (spN B.G wz):=gN4 rfl Y.f.q43 rfl (by unfold Ck;trivial)
instance:Df B 2 "is_mark" (spF B.G Do):=gF4 rfl Y.f.q44 rfl (by unfold Dn;trivial)
instance:Df B 11 "check_things" (spF B.G yG):=gF4 rfl Y.f.q45 rfl (by unfold yF;trivial)
instance:Df B 3 "check_marks" (spF B.G y8):=gF4 rfl Y.f.q46 rfl (by unfold y7;trivial)
instance:Df B 1 "are_unlike" (spF B.G uW):=gF4 rfl Y.f.q47 rfl (by unfold Cn;trivial)
instance:Df B 3 "check_names" (spF B.G za):=gF4 rfl Y.f.q48 rfl (by unfold y9;trivial)
instance:Df B 10 "mark_names" (spN B.G yb):=gN4 rfl Y.f.q49 rfl (by unfold Cp;trivial)
instance:Df B 10 "is_start" (spF B.G BK):=gF4 rfl Y.f.q50 rfl (by unfold BJ;trivial)
instance:Df B 1 "comes_to_room" (spF B.G xR):=gF4 rfl Y.f.q51 rfl (by unfold An;trivial)
instance:Df B 11 "check_starts" (spF B.G yI):=gF5 ["things", "starts", "thing"] rfl Y.f.q52 rfl (by unfold yH;trivial)
instance:Df B 3 "are_words" (spF B.G AR):=gF4 rfl Y.f.q53 rfl (by unfold AQ;trivial)
instance:Df B 1 "has_all" (spF B.G Bb):=gF4 rfl Y.f.q54 rfl (by unfold Hh;trivial)
instance:Df B 2 "is_told_apart" (spF B.G xT):=gF4 rfl Y.f.q55 rfl (by unfold xS;trivial)
instance:Df B 11 "check_words_of_things" (spF B.G vC):=gF4 rfl Y.f.q56 rfl (by unfold vB;trivial)
instance:Df B 2 "check_dark" (spF B.G zY):=gF4 rfl Y.f.q57 rfl (by unfold zX;trivial)
instance:Df B 3 "is_way" (spF B.G FU):=gF4 rfl Y.f.q58 rfl (by unfold FR;trivial)
instance:Df B 4 "check_ways" (spF B.G yc):=gF4 rfl Y.f.q59 rfl (by unfold zZ;trivial)
instance:Df B 2 "check_verbs" (spF B.G zb):=gF4 rfl Y.f.q60 rfl (by unfold Bt;trivial)
instance:Df B 1 "are_apart" (spF B.G xN):=gF4 rfl Y.f.q61 rfl (by unfold D3;trivial)
instance:Df B 11 "check_vocabulary" (spF B.G vK):=gF4 rfl Y.f.q62 rfl (by unfold wU;trivial)
instance:Df B 12 "check_parts" (spF B.G zd):=gF4 rfl Y.f.q63 rfl (by unfold zc;trivial)
instance:Df B 4 "does" (spF B.G ze):=gF4 rfl Y.f.q64 rfl (by unfold QN;trivial)
instance:Df B 4 "refuses" (spF B.G uM):=gF4 rfl Y.f.q65 rfl (by unfold Hk;trivial)
instance:Df B 5 "hand_rules" (spN B.G Cr):=gN4 rfl Y.f.q66 rfl (by unfold Cq;trivial)
instance:Df B 5 "put_rules" (spN B.G D5):=gN4 rfl Y.f.q67 rfl (by unfold D4;trivial)
instance:Df B 5 "lid_rules" (spN B.G D7):=gN4 rfl Y.f.q68 rfl (by unfold D6;trivial)
instance:Df B 5 "flame_rules" (spN B.G Bv):=gN4 rfl Y.f.q69 rfl (by unfold Bu;trivial)
instance:Df B 3 "way_tests" (spN B.G D9):=gN4 rfl Y.f.q70 rfl (by unfold D8;trivial)
instance:Df B 5 "go_rules" (spN B.G FW):=gN4 rfl Y.f.q71 rfl (by unfold FV;trivial)
instance:Df B 5 "wait_rules" (spN B.G Ct):=gN4 rfl Y.f.q72 rfl (by unfold Cs;trivial)
instance:Df B 6 "common_rules" (spN B.G we):=gN4 rfl Y.f.q73 rfl (by unfold AS;trivial)
instance:Df B 3 "common_verbs" (spN B.G vE):=gN4 rfl Y.f.q74 rfl (by unfold AU;trivial)
instance:Df B 1 "by_name" (spF B.G Dr):=gF4 rfl Y.f.q75 rfl (by unfold Dp;trivial)
instance:Df B 10 "mosts_by_name" (spF B.G vO):=gF4 rfl Y.f.q76 rfl (by unfold xU;trivial)
instance:Df B 1 "verbs_by_word" (spF B.G vP):=gF4 rfl Y.f.q77 rfl (by unfold Ao;trivial)
instance:Df B 1 "by_verb" (spF B.G zz):=gF4 rfl Y.f.q78 rfl (by unfold Hl;refine⟨NN (stW (by kernel_rfl) EV rfl) (Oq pA rfl (Jx (Jo B.G.K (KR (pvI (by kernel_rfl))))) (pgI (by kernel_rfl)) (HA (LC (OR B.G.K jJ kK ou CS (PR (pvI (by kernel_rfl)) (O4 (KR (pvI (by kernel_rfl))) (Ff.p (B:=B))) (Oz xP) ⟨rfl,rfl,rfl,rfl⟩) (u5 (pvI (by kernel_rfl)) xP))))) (Kz (PE.ghost (pvI (by kernel_rfl))))⟩)
instance:Mf B 9 "of_kind" u0:=⟨λc h e=>by
 unfold u0 at e;split at e
 ·cases e;exact hF4 (k:=8) Y.f.k14 rfl Y.f.q79 rfl (by unfold Ap;trivial)
 ·cases e⟩
instance:Mf B 9 "all_verbs" wI:=⟨λc h e=>by
 unfold wI at e;split at e
 ·cases e;exact hF4 (k:=8) Y.f.k14 rfl Y.f.q80 rfl (by unfold yX;trivial)
 ·cases e⟩
instance:Kf B 13 "World" 14 xi []:=gI4 Y.f.k14 Y.f.a14 rfl Y.f.q81 rfl rfl (by unfold xh;trivial)
instance:Mf B 9 "you" Bc:=⟨λc h e=>by
 unfold Bc at e;split at e
 ·cases e;exact hF4 (k:=8) Y.f.k14 rfl Y.f.q82 rfl (by unfold Ea;trivial)
 ·cases e⟩
instance:Mf B 9 "thing_of" yJ:=⟨λc h e=>by
 unfold yJ at e;split at e
 ·cases e;exact hF4 (k:=8) Y.f.k14 rfl Y.f.q83 rfl (by unfold zA;trivial)
 ·cases e⟩
instance:Mf B 9 "most_of" wF:=⟨λc h e=>by
 unfold wF at e;split at e
 ·cases e;exact hF4 (k:=8) Y.f.k14 rfl Y.f.q84 rfl (by unfold Aq;trivial)
 ·cases e⟩
instance:Df B 1 "given" (spF B.G z7):=gF4 rfl Y.f.q85 rfl (by unfold ID;trivial)
instance:Df B 10 "at_parts" (spF B.G vo):=gF4 rfl Y.f.q86 rfl (by unfold z8;trivial)
instance:Df B 10 "mark_parts" (spF B.G xj):=gF4 rfl Y.f.q87 rfl (by unfold Cu;trivial)
instance:Df B 10 "box_parts" (spF B.G AV):=gF4 rfl Y.f.q88 rfl (by unfold Eb;trivial)
instance:Df B 10 "light_parts" (spF B.G xF):=gF4 rfl Y.f.q89 rfl (by unfold zf;trivial)
instance:Df B 1 "tidy" (spF B.G z9):=gF4 rfl Y.f.q90 rfl (by unfold QO;trivial)
instance:Mf B 14 "reads" (uo 0):=⟨λc h e=>by
 unfold uo Aa at e;split at e
 ·cases e;exact hF4 (k:=13) Y.f.k3 rfl Y.f.q91 rfl (by unfold BL;trivial)
 ·cases e;exact hF4 (k:=13) Y.f.k4 rfl Y.f.q92 rfl (by unfold Ec;trivial)
 ·cases e;exact hF4 (k:=13) Y.f.k5 rfl Y.f.q93 rfl (by unfold Cv;trivial)
 ·cases e;exact hF4 (k:=13) Y.f.k6 rfl Y.f.q94 rfl (by unfold AW;trivial)
 ·cases e;exact hF4 (k:=13) Y.f.k7 rfl Y.f.q95 rfl (by unfold CA;trivial)
 ·cases e;exact hF4 (k:=13) Y.f.k8 rfl Y.f.q96 rfl (by unfold CC;trivial)
 ·cases e;exact hF4 (k:=13) Y.f.k15 rfl Y.f.q97 rfl (by unfold Ee;trivial)
 ·cases e⟩
instance:Mf B 15 "reads" (uo 1):=⟨λc h e=>by
 unfold uo at e;split at e
 ·cases e;exact hF4 (k:=14) Y.f.k9 rfl Y.f.q98 rfl (by unfold yY;trivial)
 ·cases e;exact hF4 (k:=14) Y.f.k10 rfl Y.f.q99 rfl (by unfold yd;trivial)
 ·exact(Mf.p (B:=B) (g:=uo 0) c h e).mono rfl⟩
instance:Mf B 16 "reads" (uo 2):=⟨λc h e=>by
 unfold uo at e;split at e
 ·cases e;exact hF4 (k:=15) Y.f.k9 rfl Y.f.q98 rfl (by unfold yY;trivial)
 ·cases e;exact hF4 (k:=15) Y.f.k10 rfl Y.f.q99 rfl (by unfold yd;trivial)
 ·exact(Mf.p (B:=B) (g:=uo 0) c h e).mono rfl⟩
instance:Mf B 17 "reads" (uo 3):=⟨λc h e=>by
 unfold uo at e;split at e
 ·cases e;exact hF4 (k:=16) Y.f.k9 rfl Y.f.q98 rfl (by unfold yY;trivial)
 ·cases e;exact hF4 (k:=16) Y.f.k10 rfl Y.f.q99 rfl (by unfold yd;trivial)
 ·exact(Mf.p (B:=B) (g:=uo 0) c h e).mono rfl⟩
instance:Df B 1 "_law_cell_at" (spF B.G xk):=gF4 rfl Y.f.q100 rfl (by unfold AY;trivial)
instance:Df B 1 "_law_draws" (spN B.G xl):=gN4 rfl Y.f.q101 rfl (by unfold CG;trivial)
instance:Df B 1 "_law_take" (spM B.G tH):=gM4 rfl Y.f.q102 rfl rfl (by unfold Eg;trivial)
instance:Df B 2 "_law_names" (spM B.G Ac):=gM4 rfl Y.f.q103 rfl rfl (by unfold Ab;trivial)
instance:Df B 2 "_law_others" (spL B.G vT):=gL4 rfl Y.f.q104 rfl (by unfold xG;trivial)
instance:Df B 3 "_law_spec" (spF B.G A0):=gF4 rfl Y.f.q105 rfl (by unfold AZ;trivial)
instance:Df B 1 "_law_ways" (spN B.G A2):=gN4 rfl Y.f.q106 rfl (by unfold A1;trivial)
instance:Df B 15 "_law_world" (spF B.G ye):=gF4 rfl Y.f.q107 rfl (by unfold Ad;trivial)
instance:Df B 1 "_law_of" (spN B.G vU):=gN4 rfl Y.f.q108 rfl (by unfold Hm;trivial)
instance:Df B 2 "_law_mosts" (spF B.G vg):=gF4 rfl Y.f.q109 rfl (by unfold Ae;trivial)
instance:Df B 2 "_law_command" (spL B.G wg):=gL4 rfl Y.f.q110 rfl (by unfold xm;trivial)
instance:Df B 1 "_law_form" (spF B.G A3):=gF4 rfl Y.f.q111 rfl (by unfold Ei;trivial)
instance:Df B 2 "_law_term" (spL B.G wm):=gL4 rfl Y.f.q112 rfl (by unfold xO;trivial)
instance:Df B 2 "_law_place" (spL B.G yg):=gL4 rfl Y.f.q113 rfl (by unfold yf;trivial)
instance:Df B 3 "_law_marked" (spL B.G wG):=gL4 rfl Y.f.q114 rfl (by unfold xH;trivial)
instance:Dj B 1 "_law_asked" 2 (ud 0):=⟨gJ5 (k:=0) rfl (by decide) Y.f.q115 rfl (by trivial)⟩
instance:Dj B 4 "_law_asked" 2 (ud 1):=⟨gJ5 (k:=3) rfl (by decide) Y.f.q115 rfl (by unfold uX;trivial)⟩
instance:Dj B 5 "_law_asked" 2 (ud 2):=⟨gJ5 (k:=4) rfl (by decide) Y.f.q115 rfl (by unfold uX;trivial)⟩
instance:Dj B 6 "_law_asked" 2 (ud 3):=⟨gJ5 (k:=5) rfl (by decide) Y.f.q115 rfl (by unfold uX;trivial)⟩
instance:Dj B 7 "_law_asked" 2 (ud 4):=⟨gJ5 (k:=6) rfl (by decide) Y.f.q115 rfl (by unfold uX;trivial)⟩
instance:Df B 1 "_law_test" (spF B.G (vh 0)):=gF4 (k:=0) rfl Y.f.q116 rfl (by trivial)
instance:Df B 3 "_law_test" (spF B.G (vh 1)):=gF4 (k:=2) rfl Y.f.q116 rfl (by unfold wo;trivial)
instance:Df B 4 "_law_test" (spF B.G (vh 2)):=gF4 (k:=3) rfl Y.f.q116 rfl (by unfold wo;trivial)
instance:Df B 5 "_law_test" (spF B.G (vh 3)):=gF4 (k:=4) rfl Y.f.q116 rfl (by unfold wo;trivial)
instance:Df B 6 "_law_test" (spF B.G (vh 4)):=gF4 (k:=5) rfl Y.f.q116 rfl (by unfold wo;trivial)
instance:Df B 2 "_law_parts" (spF B.G xn):=gF4 rfl Y.f.q117 rfl (by unfold CH;trivial)
instance:Df B 2 "_law_light" (spF B.G yh):=gF4 rfl Y.f.q118 rfl (by unfold Ag;trivial)
instance:Df B 1 "_law_hangs" (spF B.G (vm 0)):=gF4 (k:=0) rfl Y.f.q119 rfl (by trivial)
instance:Df B 3 "_law_hangs" (spF B.G (vm 1)):=gF4 (k:=2) rfl Y.f.q119 rfl (by unfold uI;trivial)
instance:Df B 4 "_law_hangs" (spF B.G (vm 2)):=gF4 (k:=3) rfl Y.f.q119 rfl (by unfold uI;trivial)
instance:Df B 5 "_law_hangs" (spF B.G (vm 3)):=gF4 (k:=4) rfl Y.f.q119 rfl (by unfold uI;trivial)
instance:Df B 6 "_law_hangs" (spF B.G (vm 4)):=gF4 (k:=5) rfl Y.f.q119 rfl (by unfold uI;trivial)
instance:Df B 8 "_law_reads" (spF B.G wB):=gF4 rfl Y.f.q120 rfl (by unfold CJ;trivial)
instance:Df B 1 "_law_given" (spF B.G yi):=gF4 rfl Y.f.q121 rfl (by unfold CK;trivial)
instance:Df B 1 "_law_second" (spF B.G zh):=gF4 rfl Y.f.q122 rfl (by unfold zg;trivial)
theorem Rr:Bdz B (nmO (top 165)) "law" (top 165) (uw (top 165)) 17 QP:=by
 unfold QP;refine Qm ?_ ?_
 all_goals trivial
end
end K23x
namespace K23x
open PySem L2 L3 L4
def MW(K:au):Sp:=λvs H Q _=>∃(a:Addr) (ns:List Int),vs=[.ref a]/\SqL K H a (ns.map V.int)/\ns.length<=63/\∀H',Q (.bl true) H'
theorem Hw{G:Bg}{H:Hp}:∀ns:List Int,tL G H (ns.map D.int) (ns.map V.int)
 |[]=>uj
 |n::ns=>uk (vW n) (Hw ns)
theorem UH{G:Bg}:∀vs H Q E,MW G.K vs H Q E->spF G U6 vs H Q E:=λvs H Q E h=>by obtain⟨a,ns,rfl,hs,hl,k⟩:=h;refine⟨H,[.fzl (ns.map D.int)],.bl true,tT.refl _,uk (by unfold L4.Rep;exact⟨a,_,rfl,hs,Hw ns⟩) uj,Zb ns hl,λv H0' H' _ _ _ _ r=>?_⟩;unfold L4.Rep at r;subst r;exact k H'
section
variable{K:au}{x m q:Str}{st:Stmt}{f C:Addr}{oc:aa}{od:Option Addr}{kV doc pm:aa}{an:Option Addr}{cdv ct:aa}{osl:Array (Option aa)}
theorem Rt(lk:K.lookup f=some ⟨oc,od,.func (eO x q (w5 st) (uw st) (tX st) .none kV doc pm an cdv ct),osl⟩)(hc:ig K cdv q=true)(kp:dS K (.ref f)=true):∃fd,Fun K x q st f fd:=⟨_,⟨_,_,_,_,_,_,_,_,_,rfl,lk,hc⟩,kp⟩
theorem gd_mk(h:jb K aW x=some (some (.ref f)))(lk:K.lookup f=some ⟨oc,od,.func (eO x x (w5 st) (uw st) (tX st) .none kV doc pm an cdv ct),osl⟩)(hc:ig K cdv x=true)(kp:dS K (.ref f)=true):GD K x st:=⟨f,(Rt lk hc kp).imp λ_ F=>⟨h,F⟩⟩
theorem gm_mk(h:cP K (.ref C) m=some (some (.ref f)))(hf:j9 K (.ref f)=true)(lk:K.lookup f=some ⟨oc,od,.func (eO m q (w5 st) (uw st) (tX st) .none kV doc pm an cdv ct),osl⟩)(hc:ig K cdv q=true)(kp:dS K (.ref f)=true):GM K C m q st:=⟨f,(Rt lk hc kp).imp λ_ F=>⟨h,hf,F⟩⟩
end
theorem all_mk{l:ik}{w:aA}{K:au}{h:Heap}{mg:Str->Option aa}{fa:Addr}(X:K.In h)(Gn:h.Ns aW mg)(hfa:mg "law" = some (.ref fa)){C0 C1 C2 C3 C4 C5 C6 C7 C8 C9 C10 C11 C12 C13 C14 C15:Addr}(F:Fx K C0 C1 C2 C3 C4 C5 C6 C7 C8 C9 C10 C11 C12 C13 C14 C15):
  ∃fd:cg,(∀(s:ae) (v:aa),ip s fd ⟨[v],[]⟩ [("_law_script", v)])/\∀base:Heap,K.In base->base.Ns aW mg->wY l.prog w K mg base CX0 18 fa fd ["_law_script"] (MW K):=by
 have gen:∃B:Bg,B.K=K/\B.ca 0=C0/\B.ca 1=C1/\B.ca 2=C2/\B.ca 3=C3/\B.ca 4=C4/\B.ca 5=C5/\B.ca 6=C6/\B.ca 7=C7/\B.ca 8=C8/\B.ca 9=C9/\B.ca 10=C10/\B.ca 11=C11/\B.ca 12=C12/\B.ca 13=C13/\B.ca 14=C14/\B.ca 15=C15:=⟨⟨K,λc=>[C0,C1,C2,C3,C4,C5,C6,C7,C8,C9,C10,C11,C12,C13,C14,C15].getD c 0⟩,rfl,rfl,rfl,rfl,rfl,rfl,rfl,rfl,rfl,rfl,rfl,rfl,rfl,rfl,rfl,rfl,rfl⟩;obtain⟨B,rfl,rfl,rfl,rfl,rfl,rfl,rfl,rfl,rfl,rfl,rfl,rfl,rfl,rfl,rfl,rfl,rfl⟩:=gen;have Z:∀base,Yx ⟨l.prog,w,mg,base,B⟩:=λbase=>⟨⟨h,X,Gn⟩,F⟩;obtain⟨f,fd,a,FF⟩:=F.q123;have e:=hfa.symm.trans (j8 X Gn a);cases e;obtain⟨oc,od,kV,doc,pm,an,cdv,ct,osl,rfl,lk,hcd⟩:=FF.ex;exact⟨_,λs v=>.of_eq rfl,λbase _ _=>(Pm rfl rfl rfl FF (okk (N:=nmO (top 165)) (ps:=["_law_script"]) (np:=1) (n:=15) (by kernel_rfl)).1 ((@Rr _ (Z base)).ok rfl _)).imp (UH (G:=B))⟩
theorem walk{l:ik}{q:aH}{loose:aD}{XP:(Str->Option aa)->Heap->Prop}{YP:aA->Heap->Prop}{d:DefRec}{K:Params->au}(hn:l.most=some 63)(hdf:d.params.defaults=[])
  (hY:∀(w:aA) (h:Heap),YP w h->(K w.params).In h)
  (F:∀(w:aA) (mg:Str->Option aa) (fa:Addr) (h:Heap),(K w.params).In h->h.Ns aW mg->mg d.name=some (.ref fa)->
   ∃fd:cg,(∀(s:ae) (u:aa),ip s fd ⟨[u],[]⟩ [("_law_script", u)])/\∀base:Heap,(K w.params).In base->base.Ns aW mg->wY l.prog w (K w.params) mg base CX0 18 fa fd ["_law_script"] (MW (K w.params))):
  W.WalkO q loose XP YP l.row.toRowW d [] (λf vs=>mj f vs):=
 L2.R8 (n:=63) (k:=18) (x:="_law_script") (CX:=λ_=>CX0) (sp:=λw=>MW (K w.params)) hn (by decide) hdf ⟨rfl,by decide,by decide⟩ hY F (λ_ _ a ns hl _ hS=>⟨a,ns,rfl,hS,hl,λ_=>rfl⟩) λ_ _ _ _ _ z=>z
end K23x
set_option maxHeartbeats 0
open PySem PySem.W PyProof.Rows
theorem PySem.Challenge.cw_tellworld_k23_reads_of_tests_holds : PySem.Challenge.rw_tellworld_k23_reads_of_tests.Holds := by
 refine hd ?_
 k_fill
 refine K23x.walk (l:=PySem.Challenge.rw_tellworld_k23_reads_of_tests) rfl rfl (λw h Y=>Y) ?F
 case F=>
  intro w mg fa h KX G hmg;refine' K23x.all_mk KX G hmg ?Q
  case Q=>
   constructor
   all_goals as_aux_lemma=>first
   |k_is
   |kernel_rfl
   |exact⟨⟨⟨by k_is,by k_is,by k_is,by k_is⟩,by k_is,by k_is,by k_is,by k_is⟩,by k_is,by k_is,by kernel_rfl⟩
   |exact⟨_,by k_is⟩
   |exact K23x.gd_mk (by k_is) (by k_is) (by k_is) (by k_is)
   |exact K23x.gm_mk (by k_is) (by k_is) (by k_is) (by k_is) (by k_is)
   |exact⟨_,_,_,_,by k_is,by k_is,by rfl,by rfl,by simp,by repeat' first|exact .nil|exact .cons rfl .nil|refine .cons rfl ?_⟩
   |exact⟨_,_,_,_,[_],_,by k_is,by k_is,⟨⟨_,_,_,_,_,_,_,_,_,rfl,by k_is,by k_is⟩,by k_is⟩,by k_is,by rfl,.cons (by first|rfl|exact⟨_,rfl⟩) .nil⟩
   |exact⟨_,_,_,_,[_,_,_],_,by k_is,by k_is,⟨⟨_,_,_,_,_,_,_,_,_,rfl,by k_is,by k_is⟩,by k_is⟩,by k_is,by rfl,.cons (by first|rfl|exact⟨_,rfl⟩) (.cons (by first|rfl|exact⟨_,rfl⟩) (.cons (by first|rfl|exact⟨_,rfl⟩) .nil))⟩
end
