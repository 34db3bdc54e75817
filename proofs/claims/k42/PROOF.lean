import PyProof.Rows.All
import Open.Pieces
import OpenK.KLine
import PySem.Challenge.RW_tellworld_k42_verbs_and_forms
import PyProof.EqAt
import PyProof.EqKinds
import PyProof.TupleCall
import PyProof.StrWalks
import PyProof.ConsumeWalk
import PyProof.NeKinds
import PyProof.Rows.SetFrom
import KE.KIsAll
import PyProof.WalksMore
import PyProof.TupleKey
import PyProof.DictWalks
import PyProof.Rows.ZipGen
import KE.KDictLaws
import PyProof.DictItems
import KE.KSortTup
import PyProof.TupleOfSeq
import PyProof.Rows.SortStr
import PyProof.Rows.StrInSeq3
import PyProof.TupleIter
import KE.KDictOf
import PyProof.CollectWalk
import PyProof.Rows.SeqMore
import PyProof.IsiH_tuple
import PyProof.AttrMiss
import PyProof.Rows.Tup
import PyProof.WalksS
import PyProof.DictRoadsH
import PyProof.EnumIter
import PyProof.EnumFor
import PyProof.EnumMake
import PyProof.EnumStmt
import PyProof.Rows.StrJoin2
import PyProof.AutoSeq1
set_option genSizeOf false
local macro_rules (kind:=Lean.Parser.Command.declaration)|s=>do
 if s.getPos?.isNone||s[1][1][0].getId.getRoot== `PySem then Lean.Macro.throwUnsupported
 let s:=s.rewriteBottomUp (·.setInfo .none)
 if s[1].getKind∈[``Lean.Parser.Command.definition,``Lean.Parser.Command.abbrev,``Lean.Parser.Command.instance]&&s[0][4].isNone then
  return s.setArg 0 (s[0].setArg 4 (Lean.mkNullNode #[Lean.Syntax.node .none ``Lean.Parser.Command.noncomputable #[Lean.mkAtom "noncomputable"]]))
 return s
set_option compiler.extract_closed false
noncomputable section
open Option renaming some->Z,none->O
open Bool renaming true->γ,false->δ
def U{b:Sort _}{a:b}:a=a:=rfl
open List renaming length_map->af,getElem?_eq_getElem->aM,length_append->aC,all_eq_true->aH,mem_cons_of_mem->ba,mem_cons_self->aY,length_cons->aP,mem_map->aG,getD_eq_getElem?_getD->bN,range->az,map_append->aZ,mem_cons->aO,size_toArray->bj,map_cons->aS,mem_filter->bb,mem_append_right->bG,mem_append_left->bD,getElem?_map->bu,mem_append->bq,map_map->aW,length_range->bF,getElem?_eq_some_iff->ck,mem_range->bA,mem_singleton->bT,mem_map_of_mem->bZ,length_filter_le->cp,append_assoc->b8,mem_of_getElem?->cv,append_nil->b9,nodup_append->cq,length_take->cm,getElem?_set->cw,length_replicate->cU,not_mem_nil->cy,nil_append->cu,length_singleton->c4,getElem?_append_right->fL,getElem?_append_left->fM,filterMap_cons->ee,getElem?_drop->eA,nodup_cons->dj,length_drop->dH,mem_flatMap->dJ,getElem?_eq_none->fN,zip_cons_cons->fi,lookup_cons->eE,take_of_length_le->gL,length->cX,any_eq_true->fw,replicate->eF,length_eq_zero_iff->ip,take_add_one->fT,find?_cons->fz,map_nil->dU,zipWith_cons_cons->iw,lookup->dq,drop_eq_getElem_cons->jg,length_nil->fW,length_set->fX,zipWith->eJ,idxOf_lt_length_iff->jk,getElem_mem->gR,getElem?_replicate->jl,getElem?_set_self->jm,length_pos_of_mem->jo,length_zip->gU,all_cons->fZ,any_cons->f6,getElem?_toArray->jq,take_append_drop->js,flatMap_cons->iH,map->c8,perm_append_singleton->ku,filter_cons->iJ,mem_of_find?_eq_some->kz,mergeSort_perm->ju,map_drop->gY,map_take->gZ,foldl_cons->iN,mem_filterMap->jv,pairwise_mergeSort->kE,filter_cons_of_pos->kF,take_sublist->jx,filter_eq_nil_iff->kG,contains_iff_mem->kH,getElem_inj->jD,cons_append->jG,getElem?_set_ne->kI,mem_iff_getElem->kJ,map_id->hZ,of_mem_zip->jI,range_succ->jJ,getElem?_range->kO,length_zipWith->kP,getElem_of_mem->kQ,filter_sublist->kR,take_sublist_take_left->nh,find?_eq_none->la,ext_getElem?->lb,pairwise_map->lp,length_erase_of_mem->nI,filter_cons_of_neg->nN,take_length->lC,drop_eq_nil_of_le->nS,zip_append->lG,find?_some->lL,filterMap_append->nX,nodup_nil->lY,mem_of_mem_drop->n8,mem_erase_of_ne->oa,length_eraseIdx->oe,filter_eq_self->ou,map_congr_left->ox,length_pos_iff->oA,flatMap_append->oE,zip_map'->mh,contains_cons->oK,map_filterMap->oP,getElem_idxOf->oU,filter_append->oW,getElem_range->oY,any_eq_false->oZ,foldl_append->o8,head?_filter->px,nodup_range->pJ,range'_succ->pM,map_flatMap->pO,ext_getElem->pS,getElem_map->pT,drop_nil->qx,all_map->qE,range'->qU,rec->q8
open PySem renaming wpAny_bind->ag,Value->ab,wpAny_pure->aq,Shared->ae,wpAny->ao,starEach->aF,sizeLine->aI,mainGlobals->bg,Program->aJ,Around->aK,compareOp->bB,World->aA,sizeLine_eq->bU,Spec->uq,wpAny_setState_of->c5,wpAny_holding->cF,SetTable->bO,wpAny_truthy_bool->dh,wpAny_Call_Name_kw->dF,wpAny_mono->cn,wpAny_newObj_type->dG,codeAny_builtin->dO,backTo->bI,FuncData->cg,wpAny_call_entry->fo,assignEach->cZ,bootBuiltins->dR,attributeBase->eG,keywordEach->dr,strKind->eI,sysModules->c6,binaryOp->cG,wpAny_passesOwn->fV,wpAny_pyIter_list->gQ,codeAny->cz,mem_of_lookup->iA,behindInMarks->fY,swapsWith->dt,plainId_quiet->f7,foldedSetIterable->iB,ofAClassStatement->iC,wpAny_setField->gW,filterMap_getElem?_range->kB,letOwnedTupleGo->iK,wpAny_specialOf->iM,tupleKind_room_in1->jw,wpAny_callSpecial?_slot->kC,codeAny_mono->hE,NameKind->dZ,wpAny_typeOf->hG,call_meetsIn->hJ,wpAny_Call_method->jy,wpAny_storeSet_of->jB,call_meets->gm,wpAny_forIn_list->jF,wpAny_rule->gn,wpAny_execs_nil->jH,Keyword->d4,isSubtype_type->jM,Scope->cM,Builtin->eU,Paired->gp,GenState->gq,wpAny_askSetting->ly,IsPart->d5,typeIs_str->iU,wpAny_Call_method_late->nR,wpAny_updateSeq->lI,wpAny_isTrue_Compare1->nV,wpAny_eqIsQuiet_tuple->nW,builtinLookup_eq_fast->nY,carriedByValue->lQ,wpAny_seqItems->lS,codeAny_call_builtin->n4,typeIs_none->jQ,wpAny_newList->l8,wpAny_pyIter_tuple->oH,wpAny_call->jS,PlainAttrs->jT,Within->mj,BindsTo->ie,wpAny_sequenceKey->o5,slot_list_getitem->o6,wpAny_pyIter_slot->pe,fits_of_scanBound->pf,wpAny_setEpoch_of->ph,wpAny_pyHash_str->pz,wpAny_execs_cons->pA,PassesOwn->jV,Result->gu,noFill_tuple_add->pC,wpAny_isInstance->pK,wpAny_field->mF,codeAny_of_tree->pV,typeLookup_type->p0,wpAny_Name->mI,meets_dict_get->qd,call->mK,wpAny_runValue->qe,boot_len->qf,wpAny_newTuple->qg,entryFor_alias->qm,KeyKind->qo,intBits_le_64->qp,seq_tuple_add->qr,evalPart_none->qu,call_list_seq->qv,wpAny_standAt->qw,signature?_of->qA
open PySem.Heap renaming get?_push_of_some->aN,get?_push_size->bx,lt_size->aV,size_push->cW,get?_update_self->fO,SameBut->dS,get?_update_other->ir
open Bool renaming and_eq_true->aQ,false_ne_true->bE,not_eq_true'->eD,eq_iff_iff->dM,false_eq_true->fQ,or_eq_true->fB,eq_false_iff->iF,or_eq_false_iff->kK,false_or->l5,not_eq_true->pI,rec->mQ
open Nat renaming mod_lt->aE,le_of_ble_eq_true->bK,le_refl->aL,ne_of_lt->bc,lt_of_lt_of_le->cf,le_trans->bQ,zero_le->bH,lt_succ_self->di,lt_succ_of_lt->eC,lt_of_le_of_lt->fP,lt_of_succ_lt_succ->iy,lt_irrefl->fE,le_add_right->gS,le_of_lt->gb,ne_of_gt->gf,min_self->gh,min_eq_left->iO,le_succ->gj,succ_pos->hU,zero_add->iQ,add_right_comm->kU,ble_eq->ia,mod_add_mod->lN,ble->gr,eq_zero_or_pos->oX,le_of_lt_succ->o9,le_of_succ_le->pq,le_of_not_lt->pG,succ_le_succ->pQ,not_lt_zero->p8,beq->iX,mul_le_mul->qk,le_of_eq->qC,sub_self->qD,pow_succ->qH,add_mul->qV,max_le->qY
open Array renaming length_toList->bX,getD_eq_getD_getElem?->gE,getElem?_toList->iz,getElem?_eq_getElem->jh,toList_append->kT,getElem?_eq_some_iff->nz,perm_iff_toList_perm->nD,toList_push->lq,size_eq_one_iff->nZ,forIn_toList->oN,replicate->pZ,size_map->ql,toList->qB,map->qZ
open PySem.W renaming Frag->au,kia_one->cK,emptyDict->dW,findIn->cP,kitOne->cQ,instObj->eK,keepIn->dY,kitx_dict->hX,kitx_list->iR,fnOf->eX,codeIn->ib,OpenLaw->ic,plainGet_of->l3,callWith_K0->l4,plainGet->jR,kitx_tuple->mm,callWith_K->mx,cellsFrom_some->pB,methodObj->mC,hasDictIn->mE,methodCall_KW->pU,lookIn->jW,looks_findIn->qb,kas_sort->jX,makes_of->mL,takerIn->mM,makesIn->mN,kas_ask->jZ,nsIn->iZ,mg_of->j3,plainOver->qL,make_core->qM,specialIn->qN,kitx_none->qO,kitx_bool->qP,isFn->j4
open Option.some renaming inj->cc,injEq->uh
open PyProof.Rows.F renaming plain_set_update_loop->dE,entry_set_update_loop->gG
open PyProof.Rows renaming slot_tuple_getitem->fK,StrsAre->gO,AllBare->eO,subscriptTail_builtinR->nQ,boot_isinstance->lK,entry_tuple_getitem->og,listUpdate_at->l7,args_tuple_getitem->oJ,seqEpoch_at->mG,boot_sorted->mH,get?_update_seq->pX,entry_list_sort->pY,IntsAre->iY,split_le->qa,IsTup->fH,slicePart_none->qc,Subscript_->mJ,slot_list_sort->qh,args_list_sort->qj,tupleItemsOf_->qt,ext_toList->sU,split_pos->sV,lt_str->ua
open PySem.Heap.SameBut renaming update->dg
open PySem.SetTable.layClean renaming free->d7
open PySem.Around renaming under_plainId->d9,under->mn
open PySem.SetTable renaming bits->cN,below->dP,grown->dQ,runEnd->fC,Probe->fD,turns->gV,insertAt->jC,fits->iP,advance->lA,insertAt_perm->nU,fill->mf,layClean->pb,laid->qz,has->qG
open PySem.Calls renaming spliced_cons->eh,callWith_builtin->gH,evalArgs_plain->gM,spliced_nil->fR,Name_function_global->ni,call_function_entry->nE
open Prod renaming snd->bY,fst->c7
open PySem.Obj renaming data_mapFields->fj,mapSeq->dX,mapFields->f9,isFreed_of_fields->jr,cls_mapFields->lu,putSet->jU
open Int renaming toNat_natCast->fS,emod_nonneg->jK,fdiv_eq_ediv_of_nonneg->nu,eq_ofNat_of_zero_le->nO,emod_lt_of_pos->oV
open Classical renaming propDecidable->iq,byContradiction->ky,axiomOfChoice->nP
open False renaming elim->cY
open PySem.F renaming slot_dict_get->fA,called_set->fF,slot_NoneType_hash->jt,entry_dict_get->iI,plainAttrs_dict->jz,plainAttrs_list->jA,slot_str_split->jE,sub_list_frozenset->kM,slot_list_append->kX,args_str_split_2->kZ,args_dict_get_2->lg,entry_str_split->lh,slot_dict_setdefault->nT,type_dict_get->lE,sub_list_set->lX,args_tuple_add_2->oI,slot_list_extend->oM,type_list_append->oO,slot_list_insert->oQ,slot_tuple_index->oR,entry_tuple_add->o4,args_dict_get_3->o7,plain_list_iadd->pj,slot_tuple_add->pE,plainAttrs_str->pL,plain_set_new->pW,slot_set_iter->p6
open Option renaming map_eq_some_iff->iu,map_some->fU,isSome_iff_exists->kA,isNone_iff_eq_none->nF,getD_some->pH,map->qX
open PySem.Txt renaming split->cO,mul->eQ,join->jY
open PySem.Builtin.Slice renaming slicePlaces->jf,sliceAdjust->kx,sliceApplied->nv,slicePartIndex->rW,sliceFields->sC
open PySem.Builtin.Tuple renaming tupleExact->ji,tupleItemsOf->ny
open PySem.Builtin.List renaming listTooLong->jj,listSameRef->nJ,listExtendWith->rY
open PySem.SetTable.probe renaming go->iG
open PySem.Value renaming isStrOf->gX,isInt->qK
open LawfulBEq renaming eq_of_beq->fG
open Ne renaming symm->dw
open PySem.Builtin renaming bitAnd->jL
open PySem.SeqAt.EqAt renaming str_str->kW,of_refs->kY,same->lD,none_int->oh,none_str->oj,int_none->om,str_none->oo,int_str->oF,str_int->oG,tuple_none->sW,tuple_bool->sX,tuple_list->sY,list_tuple->sZ,none_tuple->tu,bool_tuple->tw,none_bool->tE,bool_none->tG,bool_bool->tI,tuple_int->tJ,tuple_str->tK,list_none->tL,list_bool->tN,none_list->tP,bool_list->tQ,int_tuple->tR,str_tuple->tS,bool_int->tT,bool_str->tU,int_bool->tV,str_bool->tW,list_int->tY,list_str->tZ,int_list->t6,str_list->t7,int_int->ud
open PySem.AutoSeq1 renaming wpAny_loadPart'->nG
open List.Perm renaming eq_of_pairwise->nH
open PySem.SeqAt renaming eq_list_lengthsAt->nL,EqAt->iV,in_tupleAt->pF
open PySem.Builtin.Str renaming occurrences->nM,strKind->oq,partsBetween->sS
open PySem.Str renaming ofString->jN
open PySem.Walks renaming list->iW
open Sum.inr renaming inj->jO
open PySem.Moved renaming trans->jP
open Std.Legacy.Range renaming forIn_eq_forIn_range'->rV,size->tD
open PySem.Paired renaming length->lZ,snoc->qR
open PySem.Shared renaming TypeIs->l6
open PySem.Code renaming isFrame->mr,frames->qQ
open Nat.succ renaming inj->mB
open PySem.SetTable.below renaming go->pd
open PySem.Builtin.Frozenset renaming updateFrom->rX,newClass->r6
open PySem.PassesOwn renaming never->p9
open PySem.SeqAt.RcNeAt renaming lists_lengths->rZ,tuples->t8,lists->ue
open PySem.EqNone renaming eq_none_none->sd,eq_none_bool->se,eq_bool_none->sf,ne_none_none->sr,ne_none_bool->su,ne_bool_none->sv,eq_none_int->sD,eq_none_str->sE,eq_int_none->sF,eq_str_none->sH,ne_none_int->sJ,ne_none_str->sL,ne_int_none->sM,ne_str_none->sO
open PySem.EqMixed renaming eq_bool_str->sj,eq_str_bool->sk,ne_bool_str->sy,ne_str_bool->sA,eq_int_str->sG,eq_str_int->sI,ne_int_str->sN,ne_str_int->sQ
open PySem.SeqAt.RcAt renaming lists_lengths->sR,tuples->ui,lists->um
open PySem.Pv renaming boot_tuple->qy,boot_list->qF,boot_set->qS,boot_int->qT
open PySem.Builtin.Range renaming rangeSize->sT
open PyProof.Rows.IsTup renaming new->mO
open PySem.pickOrder renaming go->qI
open Prod.mk renaming inj->qJ
open PySem.Heap.IsSliceOf renaming new->uc
open PySem.W.WShape renaming has->qW
open List.Sublist renaming nodup->uf
open PySem.Within renaming cons->ug
open List.Pairwise renaming map->uj
open PySem.Heap.DictOf renaming new->uo
def ah:=@if_pos
def aR:=@decide_eq_false
def aj:=@if_neg
def aT:=@decide_eq_true
def bp:=@of_decide_eq_true
def bz:=@decide_eq_true_eq
def ar:=@absurd
def bL:=@congrArg
def Eq.t:=@Eq.trans
def Iff.t:=@Iff.trans
def List.Perm.t:=@List.Perm.trans
def PySem.Heap.SameBut.t:=@PySem.Heap.SameBut.trans
def PySem.Moved.t:=@PySem.Moved.trans
abbrev cJ:=List (PySem.Addr×PySem.Obj)
abbrev aB:=List PySem.Str
set_option Elab.async false
set_option linter.all false
namespace L5
open PySem PySem.W
noncomputable def xo(l:List Obj):Nat->List Addr->List Obj:=
 @q8 Obj (λ_=>Nat->List Addr->List Obj) (λ_ _=>[])
  (λo _ b i as=>@q8 Addr (λ_=>List Obj) [] (λa r _=>@mQ (λ_=>List Obj) (b (Nat.succ i) as) (o::b (Nat.succ i) r) (iX a i)) as) l
def QS(i:Nat)(as:List Addr):xo [] i as=[]:=rfl
def US(o:Obj)(l:List Obj)(i:Nat)(r:List Addr):xo (o::l) i (i::r)=o::xo l (i+1) r:=by show @mQ (λ_=>List Obj) _ _ (iX i i)=_;rw[Nat.beq_refl];rfl
def UT(o:Obj)(l:List Obj)(i a:Nat)(r:List Addr)(h:a≠i):xo (o::l) i (a::r)=xo l (i+1) (a::r):=by
 show @mQ (λ_=>List Obj) _ _ (iX a i)=_;have:iX a i=δ:=by
  cases q:iX a i with
  |false=>rfl
  |true=>exact ar (Nat.eq_of_beq_eq_true q) h
 rw[this];rfl
theorem Ku:∀(l:List Obj) (i:Nat) (as:List Addr),(xo l i as).length=as.length->∀j (c:j<as.length),∃b,as[j]=i+b/\l[b]?=(xo l i as)[j]?
 |[],i,as,h,j,c=>by rw[QS]at h;simp at h;omega
 |o::l,i,[],h,j,c=>by simp at c
 |o::l,i,a::r,h,j,c=>by
  by_cases q:a=i
  .subst q;rw[US]at h ⊢;cases j with
   |zero=>exact⟨0,U,U⟩
   |succ j=>obtain⟨b,d,e⟩:=Ku l (a+1) r (by simpa using h) j (by simpa using c);exact⟨b+1,by rw[List.getElem_cons_succ,d];exact kU a 1 b,by simpa using e⟩
  .rw[UT _ _ _ _ _ q]at h ⊢;obtain⟨b,d,e⟩:=Ku l (i+1) (a::r) h j c;exact⟨b+1,by rw[d];exact kU i 1 b,by simpa using e⟩
def live(o:Obj):Bool:=match o with|⟨_,_,.freed,_⟩=>δ|_=>γ
def UU{h:Heap}{as:List Addr}{K:Frag}(e:as=K.map (·.1))(x:(xo h.objs.toList 0 as,K.all λp=>live p.2)=(K.map (·.2),γ)):K.In h:=by
 obtain⟨i,r⟩:=qJ x;refine Frag.in_of e (lb λj=>?_);rw[bu,bu];by_cases a:j<as.length
 .have q:(xo h.objs.toList 0 as).length=as.length:=by rw[i,e,af,af]
  obtain⟨b,l,m⟩:=Ku _ _ _ q j a;have f:j<K.length:=by rw[e,af]at a;exact a
  rw[aM a,aM f,fU,fU,l,iQ];have o:h.objs[b]?=Z (K[j].2):=by rw[<-iz,m,i,bu,aM f];rfl
  have lv:live K[j].2=γ:=aH.1 r _ (gR f);refine bL Z ?_;unfold Heap.get?;rw[o];revert lv;cases K[j].2 with
  |mk c d data t=>cases data<;>intro lv<;>first|rfl|cases lv
 .rw[fN (by omega),fN (by rw[e,af]at a;omega)];rfl
noncomputable def acb(K:Params->Frag) (as:List Addr) (e:∀P,as=(K P).map (·.1)):Hook:=
 ⟨List Obj×Bool,λs=>(xo s.heap.objs.toList 0 as,γ),λw=>((K w.params).map (·.2),(K w.params).all λp=>live p.2),InK K,λw s x=>UU (e w.params) (by
  obtain⟨a,b⟩:=qJ x;rw[a,<- b]),InK.keeps⟩
end L5
section
open PySem PySem.W PyProof.Rows
local macro_rules|`(tactic|o_head ($f:ident $k $as $e))=>`(tactic|o_head ((L5.acb $k $as (fun _=>by kernel_rfl)):W.Hook))
local macro_rules|`(command|#where)=>do
 let mut r:=#[]
 for n in [43:1686] do
  let x:=Lean.mkIdent (.mkSimple s!"tw{((Lean.Name.mkSimple "hd").str s!"o_{n}").hash}")
  r:=r.push ((<-`(command|noncomputable def $x:ident:=0)).raw.rewriteBottomUp (·.setInfo .none))
 return Lean.mkNullNode r
noncomputable section
namespace PySem.W.Fast
def tw17563001514609615969:=0
def tw16619731068620839264:=0
def tw13680725939729558880:=0
def tw5164215015781942341:=0
def tw4666538515292985638:=0
def tw4938231688903256454:=0
def tw11434388955981004326:=0
def tw10656201738612077351:=0
def tw10374632558016547081:=0
def tw6902112737364599210:=0
def tw938635154573522699:=0
def tw10471992847872372044:=0
def tw5607698405151115213:=0
def tw16828129974981846989:=0
def tw7774113678449685934:=0
def tw9046706918899111342:=0
def tw5023916636826838767:=0
def tw11477404624653586928:=0
def tw12926932280828267440:=0
def tw11018145951921344529:=0
def tw4078783641558376337:=0
def tw2041109742975770002:=0
def tw2020029945253560339:=0
def tw13359257691425115219:=0
def tw861502493610598483:=0
def tw11284616107681220019:=0
def tw16729077633258034165:=0
def tw3965791119470065270:=0
def tw2495115493620250326:=0
def tw15163409612377130007:=0
def tw8987753127742587480:=0
def tw13625530754347173179:=0
def tw8113765930264741372:=0
def tw5248363676389156062:=0
def tw13049043944605299518:=0
def tw3875433702465186782:=0
def tw8367103232821184762:=0
def tw6472126082760946734:=0
def tw9652111783622755078:=0
def tw1486846090086101256:=0
def tw5427034111212743767:=0
def tw1742570484267992409:=0
def tw6965440757966121213:=0
def tw15528221797031607849:=0
def tw8997383693586321770:=0
def tw703909819008850535:=0
def tw817348097296098815:=0
def tw9476772443176831432:=0
def tw2568134279811012961:=0
def tw592324957102982844:=0
#where
end PySem.W.Fast
end
set_option maxRecDepth 100000 in
set_option maxHeartbeats 0 in
open_top hd for PySem.Challenge.rw_tellworld_k42_verbs_and_forms
end
set_option tactic.hygienic false
set_option maxRecDepth 100000
namespace L2
open PySem PySem.Spec PyProof.Rows
abbrev ey:=Sum Int Str
def Hr:ey->ab->Bool
 |.inl k,v=>qK k v
 |.inr x,v=>gX x v
def keyH(w:aA):ey->Int
 |.inl k=>hashInt k
 |.inr x=>hashStr w x
def vA:∀{k:ey} {v:ab},Hr k v=γ->(∃i t,k=Sum.inl i/\v=Value.int i t)\/(∃x t,k=Sum.inr x/\v=Value.str x t)
 |.inl i,v,h=>by obtain⟨t,e⟩:=Value.isInt_shape (k:=i) (v:=v) h;exact .inl ⟨i,t,U,e⟩
 |.inr x,v,h=>by obtain⟨t,e⟩:=Value.isStrOf_shape (x:=x) (v:=v) h;exact .inr ⟨x,t,U,e⟩
def PF(i:Int)(t:Tok):Hr (.inl i) (.int i t)=γ:=by simp[Hr,qK]
def PH(x:Str)(t:Tok):Hr (.inr x) (.str x t)=γ:=by simp[Hr,gX]
def Ye(a b:Int):decide ((Sum.inl a:ey)=Sum.inl b)=(a==b):=by
 by_cases e:a=b
 .subst e;simp
 .have h:¬(Sum.inl a:ey)=Sum.inl b:=λq=>e (Sum.inl.inj q);rw[aR h];exact(beq_eq_false_iff_ne.2 e).symm
def Yf(a b:Str):decide ((Sum.inr a:ey)=Sum.inr b)=decide (a=b):=by
 by_cases e:a=b
 .subst e;simp
 .have h:¬(Sum.inr a:ey)=Sum.inr b:=λq=>e (jO q);rw[aR h,aR e]
def Yg(a:Int)(b:Str):decide ((Sum.inl a:ey)=Sum.inr b)=δ:=aR (λq=>nomatch q)
def Yh(a:Str)(b:Int):decide ((Sum.inr a:ey)=Sum.inl b)=δ:=aR (λq=>nomatch q)
def uP(prog:aJ)(w:aA):qo prog w ey where
 is:=Hr
 hash:=keyH w
 inj:=λv a b ha f=>by
  rcases vA ha with ⟨i,t,rfl,rfl⟩|⟨x,t,rfl,rfl⟩
  .rcases vA f with ⟨j,u,rfl,e⟩|⟨y,u,rfl,e⟩
   .injection e with c _;rw[c]
   .exact nomatch e
  .rcases vA f with ⟨j,u,rfl,e⟩|⟨y,u,rfl,e⟩
   .exact nomatch e
   .injection e with c _;rw[c]
 byValue:=λk v h=>by rcases vA h with ⟨i,t,rfl,rfl⟩|⟨x,t,rfl,rfl⟩<;>rfl
 pyHash:=λd h=>by
  rcases vA d with ⟨i,t,rfl,rfl⟩|⟨x,t,rfl,rfl⟩
  .exact wpAny_pyHash_int h
  .exact pz h
 eqBool:=λl d h=>by
  rcases vA l with ⟨i,t,rfl,rfl⟩|⟨x,t,rfl,rfl⟩
  .rcases vA d with ⟨j,u,rfl,rfl⟩|⟨y,u,rfl,rfl⟩
   .rw[Ye]at h;exact wpAny_eqBool_int h
   .rw[Yg]at h;exact oF i t y u _ _ _ _ h
  .rcases vA d with ⟨j,u,rfl,rfl⟩|⟨y,u,rfl,rfl⟩
   .rw[Yh]at h;exact oG x t j u _ _ _ _ h
   .rw[Yf]at h;exact wpAny_eqBool_str h
 «strs»:=λk x t v h=>by
  rcases vA h with ⟨i,u,rfl,e⟩|⟨y,u,rfl,e⟩
  .exact nomatch e
  .injection e with c _;subst c;cases v<;>rfl
def Ly(prog:aJ)(w:aA)(i:Int)(t:Tok):(uP prog w).is (.inl i) (.int i t)=γ:=PF i t
def LA(prog:aJ)(w:aA)(x:Str)(t:Tok):(uP prog w).is (.inr x) (.str x t)=γ:=PH x t
inductive V where
 |E|I (b:Bool)|int (i:Int)|str (x:Str)|R (b:Array UInt8)|flt (b:UInt64)|ref (a:Addr)|ty (n:String)
 deriving DecidableEq
abbrev bJ:=List V
def eu:V->ab->Prop
 |.E,u=>u=Value.none
 |.I b,u=>u=Value.bool b
 |.int i,u=>∃t,u=Value.int i t
 |.str x,u=>∃t,u=Value.str x t
 |.R b,u=>∃t,u=Value.bytes b t
 |.flt b,u=>∃t,u=Value.float b t
 |.ref a,u=>u=Value.ref a
 |.ty n,u=>u=Value.type n
abbrev en:bJ->List ab->Prop:=gp eu
theorem en.length(r:en xs a):xs.length=a.length:=lZ r
theorem en.get:∀{b:bJ} {a:List ab} {i:Nat} {x:V},en b a->b[i]?=Z x->∃u,a[i]?=Z u/\eu x u
 |_,_,_,_,.nil,e=>by simp at e
 |_,_,0,_,.cons r _,e=>by simp at e;subst e;exact⟨_,U,r⟩
 |_,_,i+1,x,.cons _ t,e=>by obtain⟨u,c,d⟩:=en.get (i:=i) (x:=x) t (by simpa using e);exact⟨u,by simpa using c,d⟩
theorem en.append:∀{b c:bJ} {a ws:List ab},en b a->en c ws->en (b++c) (a++ws)
 |_,_,_,_,.nil,s=>s
 |_,_,_,_,.cons r t,s=>.cons r (en.append t s)
theorem en.take:∀{xs:bJ} {a:List ab} (n:Nat),en xs a->en (xs.take n) (a.take n)
 |_,_,0,_=>.nil
 |_,_,_+1,.nil=>.nil
 |_,_,n+1,.cons r t=>.cons r (en.take n t)
theorem en.drop:∀{xs:bJ} {a:List ab} (n:Nat),en xs a->en (xs.drop n) (a.drop n)
 |_,_,0,r=>r
 |_,_,_+1,.nil=>.nil
 |_,_,n+1,.cons _ t=>en.drop n t
def Cb:Option V->Option ab->Prop
 |some v,Z u=>eu v u
 |none,O=>True
 |_,_=>False
def KV{a:Type}:List (a×V)->List (a×ab)->Prop:=gp λ(p:a×V) (q:a×ab)=>p.1=q.1/\eu p.2 q.2
def kV:ey->V
 |.inl i=>.int i
 |.inr x=>.str x
inductive HO where
 |b0 (xs:bJ)
 |cx (xs:bJ)
 |dK (kvs:List (ey×V))|dT (kvs:List (List ey×V))
 |set (S:Int->Bool) (n:Nat)
 |mu (C dx:Addr) (fs:List (Str×V))
 |iE (x:Addr)
 |xd (fs:List (Str×V))
 |met (f x:Addr)
 |rng (lo hi:Int)
 |n9 (o:Obj) (u:HO)
 |tbl (ps:Array ab)
 |ext (φ:Heap->Prop)
abbrev Hp:=Addr->Option HO
def e0(H:Hp)(a:Addr)(o:HO):Hp:=λb=>if b=a then Z o else H b
def uz:e0 H a o a=Z o:=by unfold e0;rw[ah U]
def uH(h:b≠a):e0 H a o b=H b:=by unfold e0;rw[aj h]
def ace{H:Hp}{a b:Addr}{o u:HO}(h:H a=Z o)(c:H b=Z u)(d:o≠u):a≠b:=by intro e;subst e;rw[h]at c;exact d (cc c)
def xf{H:Hp}{a b:Addr}{o:HO}(h:H a=Z o)(c:H b=O):a≠b:=by intro e;subst e;rw[h]at c;cases c
section
variable(P:aJ)(w:aA)
def e4(H:Hp)(h:Heap)(a:Addr):HO->Prop
 |.b0 c=>c.length<=aI/\∃(b:List ab) (n:Nat),en c b/\h.get? a=Z { cls:=.type "list", data:=.seq b.toArray n }
 |.cx c=>c.length<=aI/\∃b:List ab,en c b/\fH h a b.toArray/\∀o,h.get? a=Z o->o.dict=O
 |.dK kvs=>kvs.length<=aI/\(a==c6)=δ/\∃m,KV kvs m/\h.DictOf (uP P w) a m
 |.dT kvs=>kvs.length<=aI/\(a==c6)=δ/\∃c:List (List ey×Addr×ab),
   gp (λ(p:List ey×V) (q:List ey×Addr×ab)=>p.1=q.1/\H q.2.1=Z (.cx (p.1.map kV))/\eu p.2 q.2.2) kvs c/\
   ∃o i r,h.get? a=Z o/\o.ExactDict/\o.data=.dict i r/\i.toList=c.map (entryOfKey (tupleKind (uP P w)))/\(c.map (·.1)).Nodup
 |.set S n=>h.SetOf (intKind P w) a S n
 |.mu C d fs=>H d=Z (.iE a)/\fs.length<=1000/\d≠a/\h.get? a=Z (eK C d)/\
   ∃mA,h.Ns1 d mA/\(∀f,Cb (fs.lookup f) (mA f))/\mj mA (fs.map (·.1))
 |.iE _=>∃o,h.get? a=Z o
 |.xd fs=>∃mA,h.Ns1 a mA/\∀f,Cb (fs.lookup f) (mA f)
 |.rng lo y=>∃t u v,h.get? a=Z { cls:=.type "range", data:=.fields #[.int lo t,.int y u,.int 1 v] }
 |.n9 o u=>h.get? a=Z o/\e4 H h a u
 |.tbl z=>h.get? a=Z { cls:=.none,data:=.fields z }
 |.met f x=>h.get? a=Z (mC (.ref f) (.ref x))
 |.ext e=>e h/\(∃o,h.get? a=Z o)/\∀j l:Heap,e j->(∀o,j.get? a=Z o->l.get? a=Z o)->e l
def pk(H:Hp)(h:Heap):Prop:=∀a o,H a=Z o->e4 P w H h a o
end
section
variable{P:aJ}{w:aA}{H H':Hp}{h h':Heap}{a:Addr}{o:HO}
theorem e4.lt(x:e4 P w H h a o):a<h.objs.size:=by
 cases o with
 |b0 b=>obtain⟨_,_,_,_,e⟩:=x;exact aV e
 |cx b=>obtain⟨_,_,_,p,_⟩:=x;exact p.lt
 |dK kvs=>obtain⟨_,_,_,_,o,_,_,e,_⟩:=x;exact aV e
 |dT kvs=>obtain⟨_,_,_,_,o,_,_,e,_⟩:=x;exact aV e
 |set S n=>obtain⟨o,_,_,_,e,_⟩:=x;exact aV e
 |mu C c fs=>obtain⟨_,_,_,e,_⟩:=x;exact aV e
 |iE y=>obtain⟨_,e⟩:=x;exact aV e
 |xd fs=>obtain⟨_,⟨_,_,_,e,_⟩,_⟩:=x;exact aV e
 |rng lo d=>obtain⟨_,_,_,e⟩:=x;exact aV e
 |n9 i u=>obtain⟨e,_⟩:=x;exact aV e
 |tbl j=>exact aV (show h.get? a=Z _ from x)
 |met f y=>exact aV (show h.get? a=Z _ from x)
 |ext l=>obtain⟨_,⟨_,e⟩,_⟩:=x;exact aV e
theorem Paired.mapP{e i:Type}{F G:e->i->Prop}:∀{c:List e} {d:List i},gp F c d->(∀a b,F a b->G a b)->gp G c d
 |_,_,.nil,_=>.nil
 |_,_,.cons r t,f=>.cons (f _ _ r) (Paired.mapP t f)
def e4.Rk(x:e4 P w H h a o)(k:∀b u,(b=a\/H b=Z (.iE a))->h.get? b=Z u->h'.get? b=Z u)
  (I:∀b,H b=Z (.iE a)->H' b=Z (.iE a)) (J:∀b A,H b=Z (.cx A)->H' b=Z (.cx A)):e4 P w H' h' a o:=by
 induction o with
 |b0 A=>obtain⟨z,m,n,r,e⟩:=x;exact⟨z,m,n,r,k _ _ (.inl U) e⟩
 |cx A=>obtain⟨z,m,r,⟨i,e,c⟩,f⟩:=x;exact⟨z,m,r,⟨i,k _ _ (.inl U) e,c⟩,λW E=>by rw[k _ _ (.inl U) e]at E;cases E;exact f _ e⟩
 |dK kvs=>obtain⟨z,y,Q,r,i,l,j,e,c⟩:=x;exact⟨z,y,Q,r,i,l,j,k _ _ (.inl U) e,c⟩
 |dT kvs=>obtain⟨z,y,A,r,i,l,j,e,c⟩:=x;exact⟨z,y,A,Paired.mapP r λp q z=>⟨z.1,J _ _ z.2.1,z.2.2⟩,i,l,j,k _ _ (.inl U) e,c⟩
 |set S n=>obtain⟨i,l,j,t,e,c⟩:=x;exact⟨i,l,j,t,k _ _ (.inl U) e,c⟩
 |mu C R fs=>obtain⟨d,z,N,e,mA,⟨B,l,j,G,c⟩,r⟩:=x;exact⟨I _ d,z,N,k _ _ (.inl U) e,mA,⟨B,l,j,k _ _ (.inr d) G,c⟩,r⟩
 |iE y=>obtain⟨i,e⟩:=x;exact⟨i,k _ _ (.inl U) e⟩
 |xd fs=>obtain⟨mA,⟨B,l,j,e,c⟩,r⟩:=x;exact⟨mA,⟨B,l,j,k _ _ (.inl U) e,c⟩,r⟩
 |rng lo T=>obtain⟨t,u,v,e⟩:=x;exact⟨t,u,v,k _ _ (.inl U) e⟩
 |n9 i u M=>obtain⟨e,q⟩:=x;exact⟨k _ _ (.inl U) e,M q⟩
 |tbl F=>have e:h.get? a=Z { cls:=.none,data:=.fields F }:=x;show h'.get? a=Z { cls:=.none,data:=.fields F };exact k a _ (.inl U) e
 |met f y=>have e:h.get? a=Z (mC (.ref f) (.ref y)):=x;show h'.get? a=Z (mC (.ref f) (.ref y));exact k a _ (.inl U) e
 |ext X=>obtain⟨p,⟨o,e⟩,st⟩:=x;exact⟨st _ _ p λo q=>k _ _ (.inl U) q,⟨o,k _ _ (.inl U) e⟩,st⟩
theorem pk.lt(x:pk P w H h)(e:H a=Z o):a<h.objs.size:=(x a o e).lt
def pk.fresh(x:pk P w H h)(e:h.objs.size<=a):H a=O:=by
 cases q:H a with
 |none=>rfl
 |some u=>exact ar (cf (x.lt q) e) (fE _)
def pk.gw(x:pk P w H h)(k:∀b u,h.get? b=Z u->h'.get? b=Z u):pk P w H h':=λa o e=>
 (x a o e).Rk (λb u z q=>k b u q) (λz q=>q) λz z q=>q
def pk.laid(x:pk P w H h)(k:∀b u,h.get? b=Z u->h'.get? b=Z u)(i:h.objs.size<=a)(new:e4 P w (e0 H a o) h' a o):pk P w (e0 H a o) h':=λb u e=>by
 have f:=x.fresh i;by_cases d:b=a
 .subst d;rw[uz]at e;cases e;exact new
 .rw[uH d]at e;exact(x b u e).Rk (λc v z q=>k c v q) (λc q=>by rw[uH (xf q f)];exact q) λc j q=>by rw[uH (xf q f)];exact q
end
def Rd(H:Hp)(a:Addr)(u:HO):Prop:=H a=Z u\/∃o,H a=Z (.n9 o u)
def Rd.ok(r:Rd H a u)(x:pk P w H h):e4 P w H h a u:=by
 rcases r with r|⟨o,r⟩
 .exact x a u r
 .obtain⟨_,q⟩:=x a _ r;exact q
def Mut:Option HO->Prop
 |some (.b0 _)=>True
 |some (.dK _)=>True
 |some (.dT _)=>True
 |some (.set _ _)=>True
 |some (.mu _ _ _)=>True
 |some (.ext _)=>True
 |_=>False
section
variable{P:aJ}{w:aA}{H:Hp}{h h':Heap}{x e:Addr}{o':HO}
def pk.tp(ok:pk P w H h)(f:Mut (H x))(j:e=x\/H e=Z (.iE x))(k:∀b u,b≠e->h.get? b=Z u->h'.get? b=Z u)(heo:∃u,h'.get? e=Z u)
  (new:e4 P w (e0 H x o') h' x o'):pk P w (e0 H x o') h':=λb u q=>by
 have nown:∀c y,H c=Z (.iE y)->c≠x:=λc y r z=>by subst z;rw[r]at f;exact f
 have ntup:∀c i,H c=Z (.cx i)->c≠x:=λc i r z=>by subst z;rw[r]at f;exact f
 by_cases a:b=x
 .subst a;rw[uz]at q;cases q;exact new
 .rw[uH a]at q;by_cases hbe:b=e
  .have l:H b=Z (.iE x):=by
    rcases j with z|z
    .exact ar (hbe.t z) a
    .rw[hbe];exact z
   rw[q]at l;cases l;obtain⟨v,m⟩:=heo;exact⟨v,by rw[hbe];exact m⟩
  .refine(ok b u q).Rk (λc v d r=>k c v ?_ r) (λc r=>by rw[uH (nown c b r)];exact r) λc i r=>by rw[uH (ntup c i r)];exact r
   rcases d with rfl|d
   .exact hbe
   .rintro rfl;rcases j with z|z
    .exact nown c b d z
    .rw[d]at z;cases z;exact a U
end
structure Un(fs ex:List Addr)(H H':Hp)(h h':Heap):Prop where
 keep:∀b o,h.get? b=Z o->H b=O->b∉fs->b∉ex->h'.get? b=Z o
 slot:∀b o,h.get? b=Z o->H b=O->b∈fs->b∉ex->∃sl,h'.get? b=Z { o with slots:=sl }
 free:∀b o,h.get? b=Z o->H b=O->b∉ex->H' b=O
 there:∀b o,h.get? b=Z o->b∉ex->∃o',h'.get? b=Z o'
 tm:∀b xs,H b=Z (.cx xs)->H' b=Z (.cx xs)
 vu:∀b o u,H b=Z (.n9 o u)->H' b=Z (.n9 o u)
 z?:∀b ps,H b=Z (.tbl ps)->∃more,H' b=Z (.tbl (ps++more))
section
variable{fs fs' ex ex':List Addr}{H H1 H2:Hp}{h h1 h2 h':Heap}{a x e:Addr}{o:HO}
def Un.any(u:Un fs ex H H1 h h1)(q:h.get? b=Z ob)(n:H b=O)(d:b∉ex):∃sl,h1.get? b=Z { ob with slots:=sl }:=by
 by_cases c:b∈fs
 .exact u.slot b ob q n c d
 .exact⟨ob.slots,u.keep b ob q n c d⟩
def Un.gw(k:∀b u,h.get? b=Z u->h'.get? b=Z u):Un fs ex H H h h':=
 ⟨λb c q z z z=>k b c q,λb c q z z z=>⟨c.slots,k b c q⟩,λz z z n z=>n,λb c q z=>⟨c,k b c q⟩,λz z q=>q,λz z z q=>q,λz d q=>⟨#[],by rw[q];simp⟩⟩
def Un.refl:Un fs ex H H h h:=Un.gw λz z q=>q
def Un.laid(k:∀b u,h.get? b=Z u->h'.get? b=Z u)(c:h.objs.size<=a)(hn:H a=O):Un fs ex H (e0 H a o) h h' where
 keep:=λb u q x x x=>k b u q
 slot:=λb u q x x x=>⟨u.slots,k b u q⟩
 free:=λb u q n x=>by rw[uH (bc (cf (aV q) c))];exact n
 there:=λb u q x=>⟨u,k b u q⟩
 tm:=λb xs q=>by rw[uH (xf q hn)];exact q
 vu:=λb u xs q=>by rw[uH (xf q hn)];exact q
 z?:=λb ps q=>⟨#[],by rw[uH (xf q hn),q];simp⟩
def Un.tp(c:Mut (H x))(j:e=x\/H e=Z (.iE x))(k:∀b u,b≠e->h.get? b=Z u->h'.get? b=Z u)(heo:∃u,h'.get? e=Z u):Un fs ex H (e0 H x o) h h':=by
 have i:∀b,H b=O->b≠x:=λb n z=>by subst z;rw[n]at c;exact c
 have f:∀b,H b=O->b≠e:=λb n z=>by
  subst z;rcases j with r|r
  .exact i b n r
  .rw[n]at r;cases r
 have d:∀b u,H b=Z u->¬Mut (Z u)->b≠x:=λb u q l z=>by subst z;rw[q]at c;exact l c
 refine⟨λb u q n v v=>k b u (f b n) q,λb u q n v v=>⟨u.slots,k b u (f b n) q⟩,λb u q n v=>by rw[uH (i b n)];exact n,λb u q v=>?_,
  λb m q=>by rw[uH (d b _ q λz=>z)];exact q,λb u m q=>by rw[uH (d b _ q λz=>z)];exact q,λb p q=>⟨#[],by rw[uH (d b _ q λz=>z),q];simp⟩⟩
 by_cases hbe:b=e
 .subst hbe;exact heo
 .exact⟨u,k b u hbe q⟩
end
def trk(h:Heap)(H:Hp):List Addr:=(az h.objs.size).filter λa=>(H a).isSome
def Kv(h:Heap)(H:Hp):Heap:=W.hideAll h (trk h H)
def PJ(h:Heap)(H:Hp):(Kv h H).objs.size=h.objs.size:=W.hideAll_size _ _
def QT{h:Heap}(e:h.get? b=Z o)(n:H b=O):(Kv h H).get? b=Z o:=
 W.hideAll_get _ e λa=>by have q:(H b).isSome=γ:=(bb.1 a).2;rw[n]at q;simp at q
def UV(e:(Kv h H).get? b=Z o):h.get? b=Z o/\H b=O:=by
 have a:h.get? b=Z o:=W.of_hideAll (trk h H) e;refine⟨a,?_⟩;cases q:H b with
 |none=>rfl
 |some x=>have c:b∈trk h H:=bb.2 ⟨bA.2 (aV a),by simp[q]⟩;have z:(Kv h H).get? b=O:=W.hideAll_none (trk h H) c;rw[z]at e;cases e
def UW(g h:Heap)(L:Addr):cJ:=(az h.objs.size).filterMap λa=>if a=L\/(g.get? a).isSome=γ then O else (h.get? a).map λo=>(a,o)
def fb(g h:Heap)(L d:Addr):cJ:=(UW g h L).filter λp=>decide (p.1≠d)
structure Mod(K:au)(mg:Str->Option ab)(b':Heap):Prop where
 kin:K.In b'
 vj:b'.Ns bg mg
 blt:∃mb,b'.Ns builtinsNs mb/\∀x:Str,x≠"__name__" -> mb x=dR x
 nolimit:b'.NoLimit
structure Cx where
 prog:aJ
 w:aA
 K:au
 mg:Str->Option ab
 b':Heap
 A:aK
 N:aB
 s₀:ae
 H₀:Hp
 b1:Env
 d?:List Env
 stack:List Env
 ex:List Addr
 fn:Str->Bool
 nr:Bool
 pn:cJ
 xe:ab->ae->Prop
def ξ(l:List Env):List Addr:=l.filterMap (·.frame)
abbrev Cx.fs(X:Cx):List Addr:=ξ X.d?
def Vis(a:cM)(x:Str):Prop:=a.names.lookup x=Z .local\/a.names.lookup x=Z .cell\/a.names.lookup x=Z .free
def Loc(a:cM)(x:Str):Prop:=a.names.lookup x=Z .local\/a.names.lookup x=Z .cell
def Look(b1:Env)(h:Heap)(m:Str->Option ab)(x:Str)(u:ab):Prop:=
 (b1.kindOf x=Z .local/\m x=Z u)\/((b1.kindOf x=Z .cell\/b1.kindOf x=Z .free)/\∃c,b1.cells.lookup x=Z c/\h.IsCell c (Z u))
structure Cx.Ok(X:Cx):Prop where
 y':Mod X.K X.mg X.b'
 kind:X.b1.scope.kind=.function
 vj:X.b1.globals=bg
 blt:X.b1.builtins=builtinsNs
 above:X.s₀.heap.objs.size<=X.b1.locals
 inj:∀x y c,X.b1.cells.lookup x=Z c->X.b1.cells.lookup y=Z c->x=y
 has:∀x,(X.b1.kindOf x=Z .cell\/X.b1.kindOf x=Z .free)->∃c,X.b1.cells.lookup x=Z c
 cab:∀x c,X.fn x=γ->X.b1.cells.lookup x=Z c->X.s₀.heap.objs.size<=c
 hd:X.nr=γ->X.A.handled=O
 frames:X.A.frames=Z X.stack
 stk:X.stack=X.d?\/(X.stack=X.b1::X.d?/\X.b1.frame=Z X.b1.locals)
 exf:∀b∈X.ex,b≠X.b1.locals/\∀x c,X.b1.cells.lookup x=Z c->c≠b
 bs:∀b o,X.b'.get? b=Z o->X.s₀.heap.get? b=Z o/\X.H₀ b=O
 ζ:X.b'.objs.size<=X.s₀.heap.objs.size
 U':∀b o,X.b'.get? b=Z o->b∉X.ex
 T':∀b∈X.ex,b∉X.fs
 q0:X.s₀.heap.FunFrames X.b' X.d?
 frf:∀b∈X.fs,X.H₀ b=O
structure d3(X:Cx)(pins:cJ)(σ:List (Option V))(H:Hp)(s:ae):Prop where
 ok:X.Ok
 os:s.os=X.s₀.os
 ke:eO s.gens
 b':Un X.fs X.ex X.H₀ H X.s₀.heap s.heap
 Dv:∃m,s.heap.Ns X.b1.locals m/\∀(i:Nat) (x:Str) (v:V),X.N[i]?=Z x->σ[i]?=Z (Z v)->Vis X.b1.scope x->∃u,eu v u/\Look X.b1 s.heap m x u
 cell:∀x c,X.b1.cells.lookup x=Z c->∃v,s.heap.IsCell c v
 free:H X.b1.locals=O
 l0:∀x c,X.b1.cells.lookup x=Z c->H c=O
 Dx:∀p∈X.pn++pins,s.heap.get? p.1=Z p.2/\H p.1=O/\p.1≠X.b1.locals/\p.1∉X.fs/\∀v,p.2.data≠.cell v
 ff:pk X.prog X.w H s.heap
 len:σ.length=X.N.length
section
variable{X:Cx}{pins:cJ}{σ:List (Option V)}{H H':Hp}{s:ae}{h':Heap}
def Cx.Ok.nofr(ok:X.Ok)(e:X.b'.get? b=Z o):b∉X.fs:=λa=>by have:=(ok.q0.mem a).1;rw[e]at this;cases this
theorem d3.bs(I:d3 X pins σ H s):∀b o,X.b'.get? b=Z o->s.heap.get? b=Z o/\H b=O:=λb o e=>
 ⟨I.b'.keep b o (I.ok.bs b o e).1 (I.ok.bs b o e).2 (I.ok.nofr e) (I.ok.U' b o e),I.b'.free b o (I.ok.bs b o e).1 (I.ok.bs b o e).2 (I.ok.U' b o e)⟩
def d3.bk(I:d3 X pins σ H s):∀b o,X.b'.get? b=Z o->s.heap.get? b=Z o:=λb o e=>(I.bs b o e).1
theorem d3.y'(I:d3 X pins σ H s):Mod X.K X.mg X.b':=I.ok.y'
def d3.nj(I:d3 X pins σ H s):X.K.In s.heap:=I.ok.y'.kin.keeps I.bk
def d3.fr(I:d3 X pins σ H s):∃m,Fr X.b' X.b1.locals s.heap m:=
 let ⟨m,a,_⟩:=I.Dv
 ⟨m,a,I.bk,bQ I.ok.ζ I.ok.above⟩
theorem d3.lt(I:d3 X pins σ H s):X.b1.locals<s.heap.objs.size:=let ⟨_,a,_⟩:=I.Dv;a.lt
def d3.sz(I:d3 X pins σ H s):X.s₀.heap.objs.size<=s.heap.objs.size:=bQ I.ok.above (gb I.lt)
def d3.nofs(I:d3 X pins σ H s)(h:s.heap.objs.size<=a):a∉X.fs:=λb=>by obtain⟨_,o,c,_⟩:=I.ok.q0.mem b;exact ar (cf (aV c) (bQ I.sz h)) (fE _)
def d3.cne(I:d3 X pins σ H s):∀x c,X.b1.cells.lookup x=Z c->c≠X.b1.locals:=λx c e z=>by obtain⟨v,o,d,hd⟩:=I.cell x c e;obtain⟨m,⟨i,h,f,b,a,_⟩,_⟩:=I.Dv;rw[z,b]at d;cases d;rw[a]at hd;cases hd
theorem d3.q0(I:d3 X pins σ H s):s.heap.FunFrames X.b' X.d?:=by
 have all:∀(l:List Env),(∀b∈ξ l,b∈X.fs)->X.s₀.heap.FunFrames X.b' l->s.heap.FunFrames X.b' l:=by
  intro l
  induction l with
  |nil=>intro _ _;trivial
  |cons b1 r p=>intro d h;obtain⟨f,⟨L,o,c,i,j,hd⟩,m⟩:=h;have hL:L∈X.fs:=d L (by unfold ξ;rw[ee,c];exact aY);obtain⟨q,e⟩:=I.b'.slot L o j (I.ok.frf L hL) hL λz=>I.ok.T' L z hL;exact⟨f,⟨L,_,c,i,e,hd⟩,p (λb a=>d b (by unfold ξ;rw[ee,c];exact ba _ a)) m⟩
 exact all X.d? (λx a=>a) I.ok.q0
theorem d3.stack(I:d3 X pins σ H s):s.heap.FunFrames X.b' X.stack:=by
 rcases I.ok.stk with e|⟨e,a⟩
 .rw[e];exact I.q0
 .rw[e];obtain⟨m,b,_⟩:=I.Dv;refine .cons (by rw[I.ok.kind];decide) a b ?_ I.q0;exact Heap.get?_none_of_le (bQ I.ok.ζ I.ok.above)
def d3.I1(I:d3 X pins σ H s):∀b∈ξ X.stack,b∈X.b1.locals::X.fs:=λb a=>by
 rcases I.ok.stk with e|⟨e,c⟩
 .rw[e]at a;exact ba _ a
 .rw[e]at a;unfold ξ at a;rw[ee,c]at a;exact a
def d3.N?(I:d3 X pins σ H s):∀b∈ξ X.stack,H b=O:=λb a=>by
 rcases aO.1 (I.I1 b a)with e|a
 .rw[e];exact I.free
 .obtain⟨_,o,c,_⟩:=I.ok.q0.mem a;exact I.b'.free b o c (I.ok.frf b a) λz=>I.ok.T' b z a
def d3.step{g':Array gq}{t':Nat}{d':Drawn}{ch:List Addr}(I:d3 X pins σ H s)
  (hch:∀b∈ch,(b∈X.ex\/X.s₀.heap.objs.size<=b)/\b≠X.b1.locals/\(∀x c,X.b1.cells.lookup x=Z c->c≠b)/\∀p∈X.pn++pins,p.1≠b)
  (keep:∀b o,b≠X.b1.locals->b∉X.fs->b∉ch->s.heap.get? b=Z o->H b=O->h'.get? b=Z o)
  (slot:∀b o,b≠X.b1.locals->b∈X.fs->b∉ch->s.heap.get? b=Z o->H b=O->∃sl,h'.get? b=Z { o with slots:=sl }) (free:∀b o,b∉ch->s.heap.get? b=Z o->H b=O->H' b=O)
  (there:∀b o,b∉ch->s.heap.get? b=Z o->∃y,h'.get? b=Z y)
  (tm:∀b xs,H b=Z (.cx xs)->H' b=Z (.cx xs)) (vu:∀b o u,H b=Z (.n9 o u)->H' b=Z (.n9 o u)) (z?:∀b ps,H b=Z (.tbl ps)->∃more,H' b=Z (.tbl (ps++more)))
  (ns:∀m,s.heap.Ns X.b1.locals m->h'.Ns X.b1.locals m) (ff:pk X.prog X.w H' h') (hg:eO g'):
  d3 X pins σ H' { s with heap:=h',gens:=g',drawn:=d',toks:=t' }:=by
 have neL:∀b o,X.s₀.heap.get? b=Z o->b≠X.b1.locals:=λb o e=>bc (cf (aV e) I.ok.above);have neC:∀b o,X.s₀.heap.get? b=Z o->b∉X.ex->b∉ch:=λb o e a h=>by
  rcases(hch b h).1 with z|z
  .exact a z
  .exact ar (cf (aV e) z) (fE _)
 have cellK:∀x c,X.b1.cells.lookup x=Z c->∀v,s.heap.IsCell c v->h'.IsCell c v:=λx c e v ⟨o,j,hd⟩=>by
  have nch:c∉ch:=λz=>(hch c z).2.2.1 x c e U;by_cases B:c∈X.fs
  .obtain⟨sl,q⟩:=slot c o (I.cne x c e) B nch j (I.l0 x c e);exact⟨_,q,hd⟩
  .exact⟨o,keep c o (I.cne x c e) B nch j (I.l0 x c e),hd⟩
 refine⟨I.ok,I.os,hg,⟨λb o e n h a=>?_,λb o e n h a=>?_,λb o e n a=>?_,λb o e a=>?_,λb xs e=>tm b xs (I.b'.tm b xs e),λb o xs e=>vu b o xs (I.b'.vu b o xs e),λb ps e=>?_⟩,?_,λx c e=>?_,?_,λx c e=>?_,λp C=>?_,ff,I.len⟩
 .exact keep b o (neL b o e) h (neC b o e a) (I.b'.keep b o e n h a) (I.b'.free b o e n a)
 .obtain⟨sl,f⟩:=I.b'.slot b o e n h a;obtain⟨A,t⟩:=slot b _ (neL b o e) h (neC b o e a) f (I.b'.free b o e n a);exact⟨A,t⟩
 .obtain⟨y,f⟩:=I.b'.there b o e a;exact free b y (neC b o e a) f (I.b'.free b o e n a)
 .obtain⟨y,f⟩:=I.b'.there b o e a;exact there b y (neC b o e a) f
 .obtain⟨J,f⟩:=I.b'.z? b ps e;obtain⟨M,t⟩:=z? b _ f;exact⟨J++M,by rw[t,Array.append_assoc]⟩
 .obtain⟨m,hn,G⟩:=I.Dv;refine⟨m,ns m hn,λi x v f t F=>?_⟩;obtain⟨u,r,l⟩:=G i x v f t F;refine⟨u,r,?_⟩;rcases l with l|⟨k,c,e,z⟩
  .exact .inl l
  .exact .inr ⟨k,c,e,cellK x c e _ z⟩
 .obtain⟨v,z⟩:=I.cell x c e;exact⟨v,cellK x c e v z⟩
 .obtain⟨m,⟨o,_,_,j,_⟩,_⟩:=I.Dv;exact free _ o (λz=>(hch _ z).2.1 U) j I.free
 .obtain⟨v,o,j,hd⟩:=I.cell x c e;exact free c o (λz=>(hch c z).2.2.1 x c e U) j (I.l0 x c e)
 .obtain⟨e,n,ne,E,d⟩:=I.Dx p C;have nch:p.1∉ch:=λz=>(hch p.1 z).2.2.2 p C U;exact⟨keep p.1 p.2 ne E nch e n,free p.1 p.2 nch e n,ne,E,d⟩
def d3.un(I:d3 X pins σ H s)(u:Un X.fs [] H H' s.heap h')(ff:pk X.prog X.w H' h'):d3 X pins σ H' { s with heap:=h',toks:=t' }:=by
 obtain⟨m,⟨o,es,ep,h,r⟩,_⟩:=id I.Dv;obtain⟨sl,hL⟩:=u.any h I.free (by simp);exact I.step (g':=s.gens) (d':=s.drawn) (ch:=[]) (λx z=>nomatch z) (λb o x f x e n=>u.keep b o e n f (by simp)) (λb o x f x e n=>u.slot b o e n f (by simp)) (λb o x e n=>u.free b o e n (by simp)) (λb o x e=>u.there b o e (by simp)) u.tm u.vu u.z? (λp hm=>by
  obtain⟨q,d,c,a,i⟩:=hm;rw[h]at a;cases a;exact⟨_,d,c,hL,i⟩) ff I.ke
def d3.call(I:d3 X pins σ H s)(u:Un (ξ X.stack) ch H H' s.heap h')(ff:pk X.prog X.w H' h')(hg:eO g')
  (hch:∀b∈ch,(b∈X.ex\/X.s₀.heap.objs.size<=b)/\b≠X.b1.locals/\(∀x c,X.b1.cells.lookup x=Z c->c≠b)/\∀p∈X.pn++pins,p.1≠b):
  d3 X pins σ H' { s with heap:=h',gens:=g',drawn:=d',toks:=t' }:=by
 obtain⟨m,⟨o,es,ep,i,r⟩,_⟩:=id I.Dv;obtain⟨sl,hL⟩:=u.any i I.free λz=>(hch _ z).2.1 U;exact I.step (ch:=ch) hch (λb o hL j a e n=>u.keep b o e n (λz=>(aO.1 (I.I1 b z)).elim hL j) a) (λb o v v a e n=>u.any e n a) (λb o a e n=>u.free b o e n a) (λb o a e=>u.there b o e a) u.tm u.vu u.z? (λq hm=>by
  obtain⟨t,h,f,d,l⟩:=hm;rw[i]at d;cases d;exact⟨_,h,f,hL,l⟩) ff hg
def d3.j'(I:d3 X pins σ H s)(k:∀b o,b≠it->s.heap.get? b=Z o->h'.get? b=Z o)(hn:H it=O)(hL:it≠X.b1.locals)
  (d:it∈X.ex\/X.s₀.heap.objs.size<=it) (f:∀x c,X.b1.cells.lookup x=Z c->c≠it) (h:∀p∈X.pn++pins,p.1≠it):d3 X pins σ H { s with heap:=h',toks:=t' }:=by
 have nit:∀b u,H b=Z u->b≠it:=λb u e z=>by rw[z,hn]at e;cases e
 refine I.step (g':=s.gens) (d':=s.drawn) (ch:=[it]) (λb i=>?_) (λb o l l a e l=>k b o (λz=>a (by simp[z])) e) (λb o l l a e l=>⟨o.slots,k b o (λz=>a (by simp[z])) e⟩) (λl l l l n=>n)
  (λb o a e=>⟨o,k b o (λz=>a (by simp[z])) e⟩) (λl l e=>e) (λl l l e=>e) (λb ps e=>⟨#[],by rw[e];simp⟩) (λm hm=>?_) (λb u e=>?_) I.ke
 .have e:b=it:=by simpa using i
  subst e;exact⟨d,hL,f,h⟩
 .obtain⟨o,es,ep,j,r⟩:=hm;exact⟨o,es,ep,k _ o (dw hL) j,r⟩
 .refine(I.ff b u e).Rk (λc v a q=>k c v ?_ q) (λl q=>q) λl l q=>q;rcases a with z|z
  .rw[z];exact nit b u e
  .exact nit c _ z
def d3.rl(I:d3 X pins σ H s)(t:Nat):d3 X pins σ H { s with toks:=t }:=I.un (h':=s.heap) (t':=t) Un.refl I.ff
theorem d3.gw(I:d3 X pins σ H s)(k:∀b u,s.heap.get? b=Z u->h'.get? b=Z u):d3 X pins σ H { s with heap:=h',toks:=t' }:=I.un (Un.gw k) (I.ff.gw k)
theorem d3.laid(I:d3 X pins σ H s)(k:∀b u,s.heap.get? b=Z u->h'.get? b=Z u)(c:s.heap.objs.size<=a)(new:e4 X.prog X.w (e0 H a o) h' a o):
  d3 X pins σ (e0 H a o) { s with heap:=h',toks:=t' }:=I.un (Un.laid k c (I.ff.fresh c)) (I.ff.laid k c new)
theorem d3.tp(I:d3 X pins σ H s)(c:Mut (H x))(a:e=x\/H e=Z (.iE x))(k:∀b u,b≠e->s.heap.get? b=Z u->h'.get? b=Z u)(heo:∃u,h'.get? e=Z u)
  (new:e4 X.prog X.w (e0 H x o) h' x o):d3 X pins σ (e0 H x o) { s with heap:=h',toks:=d }:=I.un (Un.tp c a k heo) (I.ff.tp c a k heo new)
def d3.eb{a:List (Option V)}(I:d3 X pins σ H s)(f:a.length=σ.length)(w:∀(i:Nat) v,a[i]?=Z (Z v)->σ[i]?=Z (Z v)):d3 X pins a H s:=
 ⟨I.ok,I.os,I.ke,I.b',let ⟨m,h,b⟩:=I.Dv;⟨m,h,λi x v c d e=>b i x v c (w i v d) e⟩,I.cell,I.free,I.l0,I.Dx,I.ff,f.t I.len⟩
def d3.O?(I:d3 X pins σ H s)(h:∀p∈a,s.heap.get? p.1=Z p.2/\H p.1=O/\p.1≠X.b1.locals/\p.1∉X.fs/\∀v,p.2.data≠.cell v):d3 X a σ H s:=
 ⟨I.ok,I.os,I.ke,I.b',I.Dv,I.cell,I.free,I.l0,λp b=>(bq.1 b).elim (λz=>I.Dx p (bD _ z)) (h p),I.ff,I.len⟩
def LB{N:aB}(hN:N.Nodup){i j:Nat}{x:Str}(a:N[i]?=Z x)(b:N[j]?=Z x):i=j:=by obtain⟨e,c⟩:=ck.1 a;obtain⟨f,d⟩:=ck.1 b;exact(jD hN).1 (c.t d.symm)
def PK(I:d3 X pins σ H s)(hN:X.N.Nodup)(hi:X.N[i]?=Z x)(t:Loc X.b1.scope x)(r:eu v u)
  (h:∀s',d3 X pins (σ.set i (Z v)) H s'->(∃a,dS a s.heap s'.heap/\(a=X.b1.locals\/X.b1.cells.lookup x=Z a))->Q () s') (hf:X.fn x=γ\/X.b1.scope.names.lookup x=Z .local:=by first|exact .inl U|exact .inr U|assumption):ao M A (storeName X.b1 x u) Q E s:=by
 obtain⟨m,hn,hl⟩:=id I.Dv;have hcls:(X.b1.scope.kind==.class||(X.b1.scope.kind==.module&&X.b1.locals != X.b1.globals))=δ:=by rw[I.ok.kind];rfl
 have hiσ:i<σ.length:=by rw[I.len];exact(ck.1 hi).1
 have cne:=I.cne;have tracked:∀{a:Addr} {h':Heap},(∃o,s.heap.get? a=Z o/\H a=O)->dS a s.heap h'->pk X.prog X.w H h':=λ{a h'} ha hs b ob e=>by
  obtain⟨_,_,hfree⟩:=ha;refine(I.ff b ob e).Rk (λc R l q=>(hs.2 c ?_).t q) (λ_ q=>q) λ_ _ q=>q;rintro rfl;rcases l with rfl|l
  .rw[hfree]at e;cases e
  .rw[hfree]at l;cases l
 rcases t with C|C
 .refine wpAny_storeName_local C hn (λh' T hs=>?_) hcls;obtain⟨oL,_,_,hoL,_⟩:=id hn;refine h _ ⟨I.ok,I.os,I.ke,⟨λb o e n F t=>?_,λb o e n F t=>?_,I.b'.free,λb o e t=>?_,I.b'.tm,I.b'.vu,I.b'.z?⟩,⟨_,T,λj y v' f B S=>?_⟩,λy c e=>?_,I.free,I.l0,λp W=>?_,tracked ⟨oL,hoL,I.free⟩ hs,by simpa using I.len⟩ ⟨_,hs,.inl U⟩
  .exact(hs.2 b (bc (cf (aV e) I.ok.above))).t (I.b'.keep b o e n F t)
  .obtain⟨sl,f⟩:=I.b'.slot b o e n F t;exact⟨sl,(hs.2 b (bc (cf (aV e) I.ok.above))).t f⟩
  .obtain⟨o',f⟩:=I.b'.there b o e t;exact⟨o',(hs.2 b (bc (cf (aV e) I.ok.above))).t f⟩
  .by_cases G:j=i
   .subst G;rw[hi]at f;cases f;rw[jm hiσ]at B;cases B;exact⟨u,r,.inl ⟨C,by simp⟩⟩
   .rw[kI (dw G)]at B;obtain⟨u',r',q⟩:=hl j y v' f B S;refine⟨u',r',?_⟩;rcases q with ⟨k,e⟩|⟨k,c,e,z⟩
    .refine .inl ⟨k,?_⟩;have:y≠x:=λe=>G (LB hN f (e▸hi));simp[this,e]
    .exact .inr ⟨k,c,e,z.sameBut hs (cne y c e)⟩
  .obtain⟨R,z⟩:=I.cell y c e;exact⟨R,z.sameBut hs (cne y c e)⟩
  .obtain⟨e,n,ne,Y,d⟩:=I.Dx p W;exact⟨(hs.2 p.1 ne).t e,n,ne,Y,d⟩
 .have hfn:X.fn x=γ:=by
   rcases hf with z|z
   .exact z
   .rw[z]at C;cases C
  obtain⟨c,l⟩:=I.ok.has x (.inl C);obtain⟨R,z⟩:=I.cell x c l;refine wpAny_storeName_cell I.ok.kind C l z (λh' J hs=>?_);obtain⟨oc,hoc,hocd⟩:=id z;refine h { s with heap:=h' } ⟨I.ok,I.os,I.ke,⟨λb o e n F t=>?_,λb o e n F t=>?_,I.b'.free,λb o e t=>?_,I.b'.tm,I.b'.vu,I.b'.z?⟩,⟨m,hn.sameBut hs (dw (cne x c l)),λj y v' f B S=>?_⟩,λy P e=>?_,I.free,I.l0,λp W=>?_,tracked ⟨oc,hoc,I.l0 x c l⟩ hs,by simpa using I.len⟩ ⟨c,hs,.inr l⟩
  .exact(hs.2 b (bc (cf (aV e) (I.ok.cab x c hfn l)))).t (I.b'.keep b o e n F t)
  .obtain⟨sl,f⟩:=I.b'.slot b o e n F t;exact⟨sl,(hs.2 b (bc (cf (aV e) (I.ok.cab x c hfn l)))).t f⟩
  .obtain⟨o',f⟩:=I.b'.there b o e t;exact⟨o',(hs.2 b (bc (cf (aV e) (I.ok.cab x c hfn l)))).t f⟩
  .by_cases G:j=i
   .subst G;rw[hi]at f;cases f;rw[jm hiσ]at B;cases B;exact⟨u,r,.inr ⟨.inl C,c,l,J⟩⟩
   .rw[kI (dw G)]at B;obtain⟨u',r',q⟩:=hl j y v' f B S;refine⟨u',r',?_⟩;rcases q with q|⟨k,P,e,z'⟩
    .exact .inl q
    .refine .inr ⟨k,P,e,z'.sameBut hs ?_⟩;rintro rfl;exact G (LB hN f (I.ok.inj _ _ _ e l▸hi))
  .by_cases hcc:P=c
   .subst hcc;exact⟨_,J⟩
   .obtain⟨w2,z2⟩:=I.cell y P e;exact⟨w2,z2.sameBut hs hcc⟩
  .obtain⟨e,n,ne,Y,d⟩:=I.Dx p W;refine⟨(hs.2 p.1 ?_).t e,n,ne,Y,d⟩;intro q;rw[q,hoc]at e;have q':oc=p.2:=cc e;exact d R (by rw[<-q'];exact hocd)
def LC(I:d3 X pins σ H s)(hN:X.N.Nodup)(d:X.N[i]?=Z x)(e:Loc X.b1.scope x)(r:eu v u)
  (h:∀a,d3 X pins (σ.set i (Z v)) H a->Q () a) (c:X.fn x=γ\/X.b1.scope.names.lookup x=Z .local:=by first|exact .inl U|exact .inr U|assumption):ao M A (storeName X.b1 x u) Q E s:=
 PK I hN d e r (λa b z=>h a b) c
def d3.call'{a:ae}(I:d3 X pins σ H s)(l:a.os=s.os)(u:Un (ξ X.stack) i H H' s.heap a.heap)(ff:pk X.prog X.w H' a.heap)(j:eO a.gens)
  (hch:∀b∈i,(b∈X.ex\/X.s₀.heap.objs.size<=b)/\b≠X.b1.locals/\(∀x c,X.b1.cells.lookup x=Z c->c≠b)/\∀p∈X.pn++pins,p.1≠b):d3 X pins σ H' a:=by
 obtain⟨h',f,d,h,m⟩:=a;have e:m=s.os:=l;subst e;exact I.call (g':=f) (t':=h) (d':=d) u ff j hch
end
abbrev XK:=ab->Option Addr->Hp->Prop
abbrev St:=List (Option V)
abbrev VK:=V->Hp->Prop
abbrev TE:=St->Hp->VK->Prop
abbrev TT:=St->Hp->(Bool->Hp->Prop)->Prop
abbrev TA:=St->Hp->(bJ->Hp->Prop)->Prop
structure Rn where
 nx:St->Hp->Prop
 rt:VK
 bk:St->Hp->Prop:=λz z=>False
 ct:St->Hp->Prop:=λz z=>False
abbrev TS:=Rn->St->Hp->Prop
def EP(X:Cx)(a:cJ)(d:St)(Q:VK)(u:ab)(c:ae):Prop:=∃v b,d3 X a d b c/\eu v u/\Q v b
def TP(X:Cx)(a:cJ)(e:St)(Q:Bool->Hp->Prop)(b:Bool)(d:ae):Prop:=∃c,d3 X a e c d/\Q b c
def AP(X:Cx)(a:cJ)(f:St)(Q:bJ->Hp->Prop)(e:List ab)(d:ae):Prop:=∃c b,d3 X a f b d/\en c e/\Q c b
def SP(X:Cx)(b:cJ)(D:Rn)(f:Flow)(d:ae):Prop:=
 match f with
 |.next=>∃a c,d3 X b a c d/\D.nx a c
 |.brk=>∃a c,d3 X b a c d/\D.bk a c
 |.cont=>∃a c,d3 X b a c d/\D.ct a c
 |.ret u=>∃v a c,d3 X b a c d/\eu v u/\D.rt v c
def PE(X:Cx)(e:Expr)(t:TE):Prop:=
 ∀(a:cJ) (s:ae) (b:St) (H:Hp) (Q:VK),d3 X a b H s->t b H Q->ao (model X.prog X.w) X.A (eval e X.b1) (EP X a b Q) X.xe s
def PT(X:Cx)(e:Expr)(t:TT):Prop:=
 ∀(a:cJ) (s:ae) (b:St) (H:Hp) (Q:Bool->Hp->Prop),d3 X a b H s->t b H Q->ao (model X.prog X.w) X.A (isTrue e X.b1 (eval e X.b1)) (TP X a b Q) X.xe s
def PW(X:Cx)(e:Expr)(t:TT):Prop:=
 ∀(whole:Sem ab) (a:cJ) (s:ae) (b:St) (H:Hp) (Q:Bool->Hp->Prop),d3 X a b H s->t b H Q->ao (model X.prog X.w) X.A (isTrue e X.b1 whole) (TP X a b Q) X.xe s
def PW.pt(h:PW X e t):PT X e t:=h _
def PA(X:Cx)(c:List Expr)(t:TA):Prop:=
 ∀(pos:Pos) (a:cJ) (s:ae) (b:St) (H:Hp) (Q:bJ->Hp->Prop),d3 X a b H s->t b H Q->ao (model X.prog X.w) X.A (spliced (bI pos (aF c X.b1))) (AP X a b Q) X.xe s
def PS(X:Cx)(st:Stmt)(t:TS):Prop:=
 ∀(a:cJ) (s:ae) (b:St) (H:Hp) (D:Rn),d3 X a b H s->t D b H->ao (model X.prog X.w) X.A (exec st X.b1) (SP X a D) X.xe s
def n?(X:Cx)(st:List Stmt)(t:TS):Prop:=
 ∀(a:cJ) (s:ae) (b:St) (H:Hp) (D:Rn),d3 X a b H s->t D b H->ao (model X.prog X.w) X.A (execs st X.b1) (SP X a D) X.xe s
def fu{c:Type}{t:Sem c}{Q b:c->ae->Prop}{M:Model}{A:aK}{E:ab->ae->Prop}{s:ae}(h:ao M A t Q E s)(hQ:∀a s,Q a s->b a s):ao M A t b E s:=cn h hQ λz z x=>x
section
variable{X:Cx}
def bin{a b:Expr}{o tb:TE}(t:PE X a o)(z:PE X b tb){c:cJ}{s:ae}{e:St}{H:Hp}{R:V->V->Hp->Prop}(I:d3 X c e H s)(h:o e H λx m=>tb e m λy d=>R x y d)
  {p:Type} {Q:p->ae->Prop} {f:ab->ab->Sem p}
  (B:∀v u l x y d,d3 X c e d l->eu x v->eu y u->R x y d->ao (model X.prog X.w) X.A (f v u) Q X.xe l):
  ao (model X.prog X.w) X.A (eval a X.b1) (λv i=>ao (model X.prog X.w) X.A (eval b X.b1) (λu j=>ao (model X.prog X.w) X.A (f v u) Q X.xe j) X.xe i) X.xe s:=by
 refine fu (t c s e H _ I h) λv J zz=>?_;obtain⟨x,m,q,F,C⟩:=zz;refine fu (z c J e m _ q C) λu l zz=>?_;obtain⟨y,d,r,G,E⟩:=zz;exact B v u l x y d r F G E
def Ep(i:Nat):TE:=λa H Q=>∃v,a[i]?=Z (Z v)/\Q v H
def tC(v:V):TE:=λz H Q=>Q v H
def Yi(hN:X.N[i]?=Z x)(p:Vis X.b1.scope x)(hd:(x==("__debug__" : Str))=δ:=by decide)(hcd:(x==("__classdict__" : Str))=δ:=by decide):PE X (.Name x pos) (Ep i):=by
 intro b s q H Q I h;obtain⟨v,e,h⟩:=h;obtain⟨m,o,f⟩:=I.Dv;obtain⟨u,r,l⟩:=f i x v hN e p;have fin:EP X b q Q u s:=⟨v,H,I,r,h⟩;rcases l with ⟨a,j⟩|⟨a,c,d,hcell⟩
 .exact mI (wpAny_loadName_local I.ok.kind a o j fin) hd
 .rcases a with a|a
  .exact mI (wpAny_loadName_cell I.ok.kind a d hcell fin) hd
  .exact mI (wpAny_loadName_free I.ok.kind a d hcell fin hcd) hd
def QU{i j pos}:PE X (.Constant (.int i) j pos) (tC (.int i)):=λz z z H z I h=>wpAny_Constant_int ⟨.int i,H,I.rl _,⟨_,U⟩,h⟩
def acf{b j pos}:PE X (.Constant (.bool b) j pos) (tC (.I b)):=λz z z H z I h=>Constant_bool ⟨.I b,H,I,U,h⟩
def Yj{j pos}:PE X (.Constant .none j pos) (tC .E):=λz z z H z I h=>Constant_none ⟨.E,H,I,U,h⟩
def QV{x j pos}:PE X (.Constant (.str x) j pos) (tC (.str x)):=λz z z H z I h=>Calls.Constant_str ⟨.str x,H,I.rl _,⟨_,U⟩,h⟩
def Gl(X:Cx)(x:Str):Prop:=X.b1.kindOf x=Z .globalImplicit
def Er(I:d3 X a d H s)(b:Gl X x)(c:X.mg x=Z u)(h:Q u s)
  (hd:(x==("__debug__" : Str))=δ:=by decide):ao (model X.prog X.w) X.A (eval (.Name x pos) X.b1) Q E s:=
 ni I.ok.kind b (Calls.loadGlobal_global (by rw[I.ok.vj];exact I.y'.vj.keeps I.bk) c h) hd
def Cc(I:d3 X a l H s)(d:Gl X x)(e:X.mg x=O)(i:dR x=Z u)(h:Q u s)
  (f:x≠"__name__" := by decide) (hd:(x==("__debug__" : Str))=δ:=by decide):ao (model X.prog X.w) X.A (eval (.Name x pos) X.b1) Q E s:=by
 obtain⟨j,b,c⟩:=I.y'.blt;exact ni I.ok.kind d (Calls.loadGlobal_builtin (by rw[I.ok.vj];exact I.y'.vj.keeps I.bk) e (by rw[I.ok.blt];exact b.keeps I.bk) ((c x f).t i) h) hd
def G9(a:Gl X x)(b:X.mg x=Z u)(r:eu v u)(hd:(x==("__debug__" : Str))=δ:=by decide):PE X (.Name x pos) (tC v):=
 λz z z H z I h=>Er I a b ⟨v,H,I,r,h⟩ hd
def UX(a:Gl X x)(b:X.mg x=O)(d:dR x=Z u)(r:eu v u)(c:x≠"__name__" := by decide)(hd:(x==("__debug__" : Str))=δ:=by decide):PE X (.Name x pos) (tC v):=
 λz z z H z I h=>Cc I a b d ⟨v,H,I,r,h⟩ c hd
variable{a b:Expr}{ta tb:TE}{pos:Pos}
def PC(X:Cx)(h:CmpOp)(a b:Expr)(t:TE):Prop:=
 ∀(c:cJ) (s:ae) (f:St) (H:Hp) (Q:VK),d3 X c f H s->t f H Q->
  ao (model X.prog X.w) X.A (eval a X.b1) (λv d=>ao (model X.prog X.w) X.A (eval b X.b1) (λu e=>ao (model X.prog X.w) X.A (bB h v u) (EP X c f Q) X.xe e) X.xe d) X.xe s
def tB(t:TE):TT:=λe H Q=>t e H λx d=>∃c,x=.I c/\Q c d
def ad7(h:PC X i a b t)(f:fY i b=δ:=by first|exact nobehind _ (by decide) (by decide)|rfl):PT X (.Compare a [i] [b] pos) (tB t):=by intro e s w H Q I o;refine nV (fu (h e s w H _ I o) λv y f=>fu f λu z m=>fu m λc A zz=>?_) f;obtain⟨x,j,l,r,p⟩:=zz;obtain⟨d,rfl,q⟩:=p;cases r;exact dh ⟨j,l,q⟩
def Yk(h:PE X e t)(j:∀whole,isTrue e X.b1 whole=(do let v<-whole;standAt e.pos;holding [v] (truthy v)):=by intro _;rfl):PT X e (tB t):=by intro c s p H Q I l;refine isTrue_plain (fu (h c s p H _ I l) λv r zz=>?_) (j _);obtain⟨x,f,i,o,m⟩:=zz;obtain⟨d,rfl,q⟩:=m;cases o;exact dh ⟨f,i,q⟩
variable{tA tB':TT}{fb:List Expr}
def tAnd(t u:TT):TT:=λe H Q=>t e H λc d=>if c=γ then u e d Q else Q δ d
def tOr(t u:TT):TT:=λe H Q=>t e H λc d=>if c=γ then Q γ d else u e d Q
def tNot(t:TT):TT:=λe H Q=>t e H λc d=>Q (!c) d
def UY(f:PT X a tA):PW X (.BoolOp .And [a] pos) tA:=by
 intro l d s i H Q I h;refine isTrue_and (fu (f d s i H Q I h) λc j e=>?_);cases c with
 |true=>exact isTrue_and_nil e
 |false=>exact e
def Yl(f:PT X a tA):PW X (.BoolOp .Or [a] pos) tA:=by
 intro l d s i H Q I h;refine isTrue_or (fu (f d s i H Q I h) λc j e=>?_);cases c with
 |false=>exact isTrue_or_nil e
 |true=>exact e
def Ym(l:PT X a tA)(m:PW X (.BoolOp .And (b::fb) pos) tB'):PW X (.BoolOp .And (a::b::fb) pos) (tAnd tA tB'):=by
 intro p d s j H Q I h;refine isTrue_and (fu (l d s j H _ I h) λc o zz=>?_);obtain⟨e,f,i⟩:=zz;cases c with
 |true=>exact m p d o j e Q f i
 |false=>exact⟨e,f,i⟩
def ach(l:PT X a tA)(m:PW X (.BoolOp .Or (b::fb) pos) tB'):PW X (.BoolOp .Or (a::b::fb) pos) (tOr tA tB'):=by
 intro p d s j H Q I h;refine isTrue_or (fu (l d s j H _ I h) λc o zz=>?_);obtain⟨e,f,i⟩:=zz;cases c with
 |true=>exact⟨e,f,i⟩
 |false=>exact m p d o j e Q f i
def Yn(f:PT X a tA):PT X (.UnaryOp .Not a pos) (tNot tA):=by intro d s i H Q I h;exact isTrue_not (f d s i H (λc e=>Q (!c) e) I h)
def aci(ta tb:TE):TE:=λe H Q=>ta e H λx d=>∃c,x=.I c/\if c=γ then tb e d Q else Q (.I δ) d
def tOrV(ta tb:TE):TE:=λe H Q=>ta e H λx d=>∃c,x=.I c/\if c=γ then Q (.I γ) d else tb e d Q
def acj(ta:TE):TE:=λe H Q=>ta e H λx d=>∃c,x=.I c/\Q (.I (!c)) d
def Yo{e}(h:PE X a t):PE X (.BoolOp e [a] pos) t:=λc s f H Q I d=>BoolOp_one (h c s f H Q I d)
def Yp(l:PE X a ta)(m:PE X (.BoolOp .And (b::fb) pos) tb):PE X (.BoolOp .And (a::b::fb) pos) (aci ta tb):=by
 intro d s j H Q I h;refine BoolOp_and (fu (l d s j H _ I h) λv p zz=>?_);obtain⟨x,f,i,o,e⟩:=zz;obtain⟨c,rfl,e⟩:=e;cases o;refine dh ?_;cases c with
 |true=>exact m d p j f Q i e
 |false=>exact⟨.I δ,f,i,U,e⟩
def ack(l:PE X a ta)(m:PE X (.BoolOp .Or (b::fb) pos) tb):PE X (.BoolOp .Or (a::b::fb) pos) (tOrV ta tb):=by
 intro d s j H Q I h;refine BoolOp_or (fu (l d s j H _ I h) λv p zz=>?_);obtain⟨x,f,i,o,e⟩:=zz;obtain⟨c,rfl,e⟩:=e;cases o;refine dh ?_;cases c with
 |false=>exact m d p j f Q i e
 |true=>exact⟨.I γ,f,i,U,e⟩
def Yq(j:PE X a ta):PE X (.UnaryOp .Not a pos) (acj ta):=by intro d s m H Q I h;refine UnaryOp_ (fu (j d s m H _ I h) λv o zz=>?_);obtain⟨x,f,i,l,e⟩:=zz;obtain⟨c,rfl,e⟩:=e;cases l;exact not_of (dh ⟨.I (!c),f,i,U,e⟩)
def tIf(t:TT)(ta tb:TE):TE:=λd H Q=>t d H λc e=>if c=γ then ta d e Q else tb d e Q
def QW(q:PT X c tA)(o:PE X a ta)(p:PE X b tb):PE X (.IfExp c a b pos) (tIf tA ta tb):=by
 intro e s f H Q I h;refine wpAny_IfExp (fu (q e s f H _ I h) λd m zz=>?_);obtain⟨i,j,l⟩:=zz;cases d with
 |true=>exact o e m f i Q j l
 |false=>exact p e m f i Q j l
end
def fx(K:au)(H:Hp)(a:Addr)(c:bJ):Prop:=
 Rd H a (.b0 c)\/
  ∃(o:Obj) (b:Array ab) (n:Nat),K.lookup a=Z o/\o.cls=.type "list" /\ o.dict=O/\o.data=.seq b n/\b.size<=aI/\en c b.toList
def f3(K:au)(H:Hp)(a:Addr)(c:bJ):Prop:=
 Rd H a (.cx c)\/
  ∃(o:Obj) (b:Array ab) (n:Nat),K.lookup a=Z o/\o.cls=.type "tuple" /\ o.data=.seq b n/\b.size<=aI/\en c b.toList
def absV:ab->Option V
 |.none=>Z .E
 |.bool b=>Z (.I b)
 |.int i _=>Z (.int i)
 |.str x _=>Z (.str x)
 |.bytes b _=>Z (.R b)
 |.float b _=>Z (.flt b)
 |.ref a=>Z (.ref a)
 |.type n=>Z (.ty n)
 |_=>O
def eu.abs(r:eu x u):absV u=Z x:=by
 cases x with
 |E=>cases r;rfl
 |I _=>cases r;rfl
 |int _=>obtain⟨t,rfl⟩:=r;rfl
 |str _=>obtain⟨t,rfl⟩:=r;rfl
 |R _=>obtain⟨t,rfl⟩:=r;rfl
 |flt _=>obtain⟨t,rfl⟩:=r;rfl
 |ref _=>cases r;rfl
 |ty _=>cases r;rfl
def eu.inj(r:eu x u)(q:eu y u):x=y:=cc (r.abs.symm.t q.abs)
theorem en.inj:∀{b c:bJ} {a:List ab},en b a->en c a->b=c
 |_,_,_,.nil,.nil=>rfl
 |_,_,_,.cons r t,.cons d e=>by rw[r.inj d,en.inj t e]
section
variable{X:Cx}{pins:cJ}{σ:St}{H:Hp}{s:ae}{a:Addr}{xs ys:bJ}
def fx.of{K:au}(h:H a=Z (.b0 xs)):fx K H a xs:=.inl (.inl h)
def f3.of{K:au}(h:H a=Z (.cx xs)):f3 K H a xs:=.inl (.inl h)
def d3.list(I:d3 X pins σ H s)(h:fx X.K H a xs):∃its:List ab,en xs its/\PlainL s.heap a its.toArray/\xs.length<=aI:=by
 rcases h with h|⟨o,its,n,c,b,hd,d,f,r⟩
 .obtain⟨z,its,n,r,e⟩:=h.ok I.ff;exact⟨its,r,⟨_,n,e,U,U,U⟩,z⟩
 .refine⟨its.toList,r,⟨o,n,I.nj a o c,b,hd,by simpa using d⟩,?_⟩;have e:=r.length;simp only[bX]at e;omega
def d3.tuple(I:d3 X pins σ H s)(h:f3 X.K H a xs):∃b:List ab,en xs b/\fH s.heap a b.toArray/\xs.length<=aI:=by
 rcases h with h|⟨o,b,n,d,c,f,i,r⟩
 .obtain⟨z,b,r,p,_⟩:=h.ok I.ff;exact⟨b,r,p,z⟩
 .refine⟨b.toList,r,⟨o,I.nj a o d,c,n,by simpa using f⟩,?_⟩;have e:=r.length;simp only[bX]at e;omega
def d3.E?(I:d3 X pins σ H s)(h:fx X.K H a xs)(l:fx X.K H a ys):xs=ys:=by
 obtain⟨c,r,⟨o,n,e,_,_,d⟩,_⟩:=I.list h;obtain⟨b,m,⟨q,p,i,_,_,f⟩,_⟩:=I.list l;rw[e]at i;cases i;rw[d]at f;injection f with j _;have:c=b:=by simpa using bL qB j
 subst this;exact r.inj m
def d3.x?(I:d3 X pins σ H s)(h:f3 X.K H a xs)(l:f3 X.K H a ys):xs=ys:=by
 obtain⟨c,r,⟨o,e,_,n,d⟩,_⟩:=I.tuple h;obtain⟨b,m,⟨q,i,_,p,f⟩,_⟩:=I.tuple l;rw[e]at i;cases i;rw[d]at f;injection f with j _;have:c=b:=by simpa using bL qB j
 subst this;exact r.inj m
end
abbrev Cx.v?(X:Cx)(E:ab->ae->Prop):Cx:={ X with xe:=E }
abbrev Cx.nox(X:Cx):Cx:=X.v? λz z=>False
theorem Cx.Ok.v?{X:Cx}(ok:X.Ok)(E:ab->ae->Prop):(X.v? E).Ok:=
 ⟨ok.y',ok.kind,ok.vj,ok.blt,ok.above,ok.inj,ok.has,ok.cab,ok.hd,ok.frames,ok.stk,ok.exf,ok.bs,ok.ζ,ok.U',ok.T',ok.q0,ok.frf⟩
def Cx.Ok.nq{X:Cx}(ok:(X.v? E).Ok):X.Ok:=
 ⟨ok.y',ok.kind,ok.vj,ok.blt,ok.above,ok.inj,ok.has,ok.cab,ok.hd,ok.frames,ok.stk,ok.exf,ok.bs,ok.ζ,ok.U',ok.T',ok.q0,ok.frf⟩
section
variable{X:Cx}{pins:cJ}{σ:St}{H:Hp}{s:ae}{E:ab->ae->Prop}
theorem d3.v?(I:d3 X pins σ H s)(E:ab->ae->Prop):d3 (X.v? E) pins σ H s:=⟨I.ok.v? E,I.os,I.ke,I.b',I.Dv,I.cell,I.free,I.l0,I.Dx,I.ff,I.len⟩
theorem d3.nq(I:d3 (X.v? E) pins σ H s):d3 X pins σ H s:=⟨I.ok.nq,I.os,I.ke,I.b',I.Dv,I.cell,I.free,I.l0,I.Dx,I.ff,I.len⟩
theorem SP.nq(h:SP (X.v? E) pins D f c):SP X pins D f c:=by
 cases f with
 |next=>obtain⟨a,b,I,q⟩:=h;exact⟨a,b,I.nq,q⟩
 |brk=>obtain⟨a,b,I,q⟩:=h;exact⟨a,b,I.nq,q⟩
 |cont=>obtain⟨a,b,I,q⟩:=h;exact⟨a,b,I.nq,q⟩
 |ret u=>obtain⟨v,a,b,I,r,q⟩:=h;exact⟨v,a,b,I.nq,r,q⟩
theorem n?.nox{st:List Stmt}{t:TS}(h:n? X.nox st t):n? X st t:=λpins s σ H D I a=>
 cn (h pins s σ H D (I.v? _) a) (λx x q=>q.nq) λx x z=>cY z
end
section
variable{X:Cx}{st:Stmt}{fb:List Stmt}{t u:TS}{e:Expr}{te:TE}{pos:Pos}
def acm:TS:=λD a H=>D.nx a H
def tSeq(t u:TS):TS:=λD σ H=>t { D with nx:=u D } σ H
def UZ:n? X [] acm:=λz z a H z I h=>jH ⟨a,H,I,h⟩
def Ht(b:PS X st t)(c:n? X fb u):n? X (st::fb) (tSeq t u):=by
 intro pins s σ H D I h;refine pA (fu (b pins s σ H { D with nx:=u D } I h) λf d q=>?_);cases f with
 |next=>obtain⟨σ',H',a,q⟩:=q;exact c pins d σ' H' D a q
 |ret v=>exact q
 |brk=>exact q
 |cont=>exact q
def Kw(b:PS X st t):n? X [st] t:=by
 intro a s c H D I h;refine pA (fu (b a s c H D I h) λf d q=>?_);cases f with
 |next=>exact jH q
 |ret v=>exact q
 |brk=>exact q
 |cont=>exact q
def d3.quiet(I:d3 X a b H s):interactive X.b1=δ:=by simp[interactive,I.ok.kind]
def Xl(te:TE):TS:=λD a H=>te a H λz b=>D.nx a b
def Ol(f:PE X e te)(i:dt e O pos.line X.b1=pure δ:=by rfl):PS X (.Expr e pos) (Xl te):=by intro a s b H D I h;exact wpAny_Expr_any (fu (f a s b H _ I h) λv m ⟨x,c,d,l,j⟩=>⟨b,c,d,j⟩) I.quiet i
def tRet(te:TE):TS:=λD a H=>te a H D.rt
def M6(f:PE X e te):PS X (.Return (Z e) pos) (tRet te):=by intro a s b H D I h;exact wpAny_Return_some (fu (f a s b H _ I h) λv l ⟨x,c,d,j,i⟩=>⟨x,b,c,d,j,i⟩)
def tIfS(c:TT)(t u:TS):TS:=λD a H=>c a H λb d=>if b=γ then t D a d else u D a d
def aco(r:PT X c tc)(p:n? X a t)(q:n? X b u):PS X (.If c a b pos) (tIfS tc t u):=by
 intro f s i H D I h;refine wpAny_If (fu (r f s i H _ I h) λd o zz=>?_);obtain⟨j,l,m⟩:=zz;cases d with
 |true=>exact p f o i j D l m
 |false=>exact q f o i j D l m
end
abbrev TG:=V->St->Hp->(St->Hp->Prop)->Prop
abbrev TGs:=bJ->St->Hp->(St->Hp->Prop)->Prop
def PG(X:Cx)(target:Expr)(t:TG):Prop:=
 ∀(a:cJ) (s:ae) (d:St) (H:Hp) (v:V) (u:ab) (Q:St->Hp->Prop),d3 X a d H s->eu v u->t v d H Q->
  ao (model X.prog X.w) X.A (assign target X.b1 u) (λz e=>∃b c,d3 X a b c e/\Q b c) X.xe s
def K3(X:Cx)(i:List Expr)(t:TGs):Prop:=
 ∀(a:cJ) (s:ae) (f:St) (H:Hp) (e:bJ) (d:List ab) (Q:St->Hp->Prop),d3 X a f H s->en e d->t e f H Q->
  ao (model X.prog X.w) X.A (assignInOrder ((cZ i X.b1).map (·.2)) d) (λz h=>∃b c,d3 X a b c h/\Q b c) X.xe s
section
variable{X:Cx}{pos:Pos}
def zM(i:Nat):TG:=λv a H Q=>Q (a.set i (Z v)) H
def Om(hN:X.N.Nodup)(d:X.N[i]?=Z x)(e:Loc X.b1.scope x)(c:X.fn x=γ\/X.b1.scope.names.lookup x=Z .local:=by first|exact .inl U|exact .inr U|assumption):PG X (.Name x pos) (zM i):=by intro a s j H v u Q I r h;exact wpAny_assign_Name (LC I hN d e r (λf b=>⟨_,H,b,h⟩) c)
def gNil:TGs:=λa b H Q=>a=[]/\Q b H
def Xm(t:TG)(u:TGs):TGs:=λc d H Q=>∃v r,c=v::r/\t v d H λa b=>u r a b Q
def U0:K3 X [] gNil:=by intro a s b H d c Q I r h;obtain⟨e,h⟩:=h;subst e;cases r;exact assignInOrder_nil ⟨b,H,I,h⟩
def QX(j:PG X e t)(l:K3 X b u)
  (m:(cZ (e::b) X.b1).map (·.2)=assign e X.b1::(cZ b X.b1).map (·.2):=by rfl):K3 X (e::b) (Xm t u):=by
 intro a s w H z x Q I r h;obtain⟨v,y,i,h⟩:=h;subst i;cases r with
 |cons r p=>rw[m];refine assignInOrder_cons (fu (j a s w H _ _ _ I r h) λ_ q zz=>?_);obtain⟨c,d,f,o⟩:=zz;exact l a q c d _ _ Q f p o
def Yr(K:au)(n:Nat)(t:TGs):TG:=λv c H Q=>∃a b,v=.ref a/\f3 K H a b/\b.length=n/\t b c H Q
def Ys(i:X.nr=γ)(h:K3 X es t)
  (hn:(cZ es X.b1).length=n:=by rfl) (hst:(cZ es X.b1).findIdx? (·.1)=O:=by rfl):PG X (.Tuple es k pos) (Yr X.K n t):=by
 intro pins s σ H v u Q I r hw;obtain⟨a,xs,f,l,j,hw⟩:=hw;subst f;cases r;obtain⟨q,c,m,w⟩:=I.tuple l;refine assign_Tuple_tuple (I.ok.hd i) m (by simp[hn,<- j,c.length]) hst λh' p=>?_;have d:d3 X pins σ H { s with heap:=h' }:=I.gw (t':=s.toks) λb o e=>p b o (bc (aV e)) e;exact h pins _ σ H xs _ Q d (by simpa using c) hw
def Es(c:TE)(g:TG):TS:=λD a H=>c a H λx b=>g x a b D.nx
def Yt(j:PE X e u)(l:PG X b g)(m:swapsWithSole [b] e pos.line X.b1=pure δ:=by rfl)(o:swappedStores [b] e X.b1=pure O:=by rfl)
  (i:(cZ [b] X.b1).map (·.2)=[assign b X.b1]:=by rfl):PS X (.Assign [b] e pos) (Es u g):=by
 intro a s c H D I h;refine wpAny_Assign_stores (fu (j a s c H _ I h) λv t zz=>?_) m o;obtain⟨x,d,f,r,p⟩:=zz;rw[i];exact fu (l a t c d x v _ f r p) λz w q=>q
def Yu(hN:X.N.Nodup)(l:X.N[i]?=Z x)(o:Loc X.b1.scope x)(f:PE X e r)(m:dt e (Z (.Name x pos')) pos.line X.b1=pure δ:=by rfl)(j:X.fn x=γ\/X.b1.scope.names.lookup x=Z .local:=by first|exact .inl U|exact .inr U|assumption):
  PS X (.Assign [.Name x pos'] e pos) (Es r (zM i)):=by
 intro a s t H D I h;refine wpAny_Assign_Name (fu (f a s t H _ I h) λv u zz=>?_) m;obtain⟨y,b,c,q,p⟩:=zz;exact LC c hN l o q (λw d=>⟨_,b,d,p⟩) j
end
section
variable{X:Cx}{pos:Pos}
def QY(c:TT)(tb:TS):TS:=λD σ H=>∃W:Nat->St->Hp->Prop,(∃m,W m σ H)/\∀m σ H,W m σ H->
 c σ H λb H1=>if b=γ then ∃N:St->Hp->Prop,(∀σ' H',N σ' H'->∃a,a<m/\W a σ' H')/\tb { D with nx:=N,ct:=N,bk:=D.nx } σ H1 else D.nx σ H1
def QZ(B:jV (model X.prog X.w) X.A X.b1 X.xe)(F:PT X c tc)(E:n? X body tb):PS X (.While c body [] pos) (QY tc tb):=by
 intro a s S H D I h;obtain⟨W,⟨G,Q⟩,turn⟩:=h;refine wpAny_While (codeAny_whileLoop (λn J=>∃j u,d3 X a j u J/\W n j u) ?_ G ⟨S,H,I,Q⟩);rintro n M ⟨e,x,C,R⟩;refine fV B (fu (F a M e x _ C (turn n e x R)) λb P zz=>?_);obtain⟨y,z,l⟩:=zz;cases b with
 |true=>
  obtain⟨N,hN,l⟩:=l;rw[ah U];refine fV B (fu (E a P e y _ z l) λf T m=>?_);cases f with
  |next=>obtain⟨d,i,o,r⟩:=m;obtain⟨q,p,t⟩:=hN d i r;exact⟨q,p,d,i,o,t⟩
  |cont=>obtain⟨d,i,o,r⟩:=m;obtain⟨q,p,t⟩:=hN d i r;exact⟨q,p,d,i,o,t⟩
  |brk=>exact m
  |ret v=>exact m
 |false=>rw[aj bE];exact jH ⟨e,y,z,l⟩
end
structure It where
 go:Nat->Hp->Prop
 yld:Nat->Hp->V->Hp->Prop
 stop:Nat->Hp->Prop
def Kz(X:Cx)(a:cJ)(H:Hp)(b:Addr):Prop:=
 H b=O/\b≠X.b1.locals/\b∉X.fs/\(b∈X.ex\/X.s₀.heap.objs.size<=b)/\(∀x c,X.b1.cells.lookup x=Z c->c≠b)/\∀p∈X.pn++a,p.1≠b
def d3.Q?(I:d3 X d j H s)(a:s.heap.objs.size<=b)(h:f b=O):Kz X d f b:=by
 refine⟨h,gf (cf I.lt a),I.nofs a,.inr (bQ I.sz a),λx c e z=>?_,λp i z=>?_⟩
 .obtain⟨v,q⟩:=I.cell x c e;exact ar (cf q.lt (by rw[z];exact a)) (fE _)
 .exact ar (cf (aV (I.Dx p i).1) (by rw[z];exact a)) (fE _)
structure Q0(P:aJ)(w:aA)(K:au)(tg:Expr)(J:It)(fp:List Addr)(it:Addr)(tn:Nat->Heap->Prop):Prop where
 mem:it∈fp
 obj:∀i h,tn i h->∀b∈fp,∃o,h.get? b=Z o/\∀v,o.data≠.cell v
 keep:∀i h h',tn i h->(∀b∈fp,∀o,h.get? b=Z o->h'.get? b=Z o)->tn i h'
 item:∀(X:Cx),X.prog=P->X.w=w->X.K=K->X.nr=γ->∀(i:Nat) (pins:cJ) (s:ae) (σ:St) (H:Hp) (E:ab->ae->Prop),d3 X pins σ H s->(∀b∈fp,Kz X pins H b)->tn i s.heap->J.go i H->
  ao (model P w) X.A (pyNext (.ref it)) (λr s1=>∃u,r=Z u/\
   ao (model P w) X.A (iK tg (.ref it) u) (λz s2=>∃x H',d3 X pins σ H' s2/\eu x u/\J.yld i H x H'/\tn (i+1) s2.heap/\∀b∈fp,H' b=O) E s1) E s
 done:∀(X:Cx),X.prog=P->X.w=w->X.K=K->X.nr=γ->∀(i:Nat) (pins:cJ) (s:ae) (σ:St) (H:Hp) (E:ab->ae->Prop),d3 X pins σ H s->(∀b∈fp,Kz X pins H b)->tn i s.heap->J.stop i H->
  ao (model P w) X.A (pyNext (.ref it)) (λr s1=>r=O/\d3 X pins σ H s1) E s
 self:∀(A:aK) (i:Nat) (s:ae) (Q:ab->ae->Prop) (E:ab->ae->Prop),tn i s.heap->Q (.ref it) s->ao (model P w) A (pyIter (.ref it)) Q E s
abbrev TI:=St->Hp->(It->Hp->Prop)->Prop
def PIE(X:Cx)(a:cJ)(j:St)(i:Expr)(R:It->Hp->Prop)(itv:ab)(f:ae):Prop:=
 ∃(e:Addr) (d:List Addr) (h:Nat->Heap->Prop) (J:It) (c:Hp),itv=.ref e/\d3 X a j c f/\Q0 X.prog X.w X.K i J d e h/\h 0 f.heap/\(∀b∈d,Kz X a c b)/\R J c
def PI(X:Cx)(d iter:Expr)(e:TI):Prop:=
 ∀(a:cJ) (s:ae) (b:St) (H:Hp) (R:It->Hp->Prop),d3 X a b H s->e b H R->
  ao (model X.prog X.w) X.A (eval iter X.b1) (λv c=>ao (model X.prog X.w) X.A (pyIter v) (PIE X a b d R) X.xe c) X.xe s
def On{s:ae}(c:s.heap.get? d=Z o)(a:o.cls=.type n)(hd:o.data=.fields f)
  (b:["enumerate", "zip", "dict_itemiterator", "dict_reverseitemiterator", "odict_iterator", "itertools.zip_longest", "itertools.pairwise"].contains n=δ) (hQ:Q () s):ao M A (iK e (.ref d) u) Q E s:=by
 unfold iK;cases e<;>first
  |exact aq hQ
  |(cases u<;>first
    |exact aq hQ
    |(refine ag (wpAny_load c ?_)
      rw[a,hd];show ao M A (if (["enumerate", "zip", "dict_itemiterator", "dict_reverseitemiterator", "odict_iterator", "itertools.zip_longest", "itertools.pairwise"].contains n&&f[0]?==Z (rawInt _))=γ then _ else _) Q E s;rw[aj (by intro h;rw[b,Bool.false_and]at h;cases h)];exact aq hQ))
def Itl(K:au)(a:Addr):It:=
 ⟨λi H=>∃b x,fx K H a b/\b[i]?=Z x,λi H x c=>c=H/\∀b,fx K H a b->b[i]?=Z x,λi H=>∃b,fx K H a b/\b.length<=i⟩
def Itt(K:au)(a:Addr):It:=
 ⟨λi H=>∃b x,f3 K H a b/\b[i]?=Z x,λi H x c=>c=H/\∀b,f3 K H a b->b[i]?=Z x,λi H=>∃b,f3 K H a b/\b.length<=i⟩
def Itr(lo:Int)(n:Nat):It:=⟨λi z=>i<n,λi H x a=>a=H/\x=.int (lo+i),λi z=>n<=i⟩
def PL{P:aJ}{w:aA}{K:au}{tg:Expr}(a it:Addr):Q0 P w K tg (Itl K a) [it] it (λi h=>h.IsListIter it a i) where
 mem:=by simp
 obj:=λi h st b f=>by
  have e:b=it:=by simpa using f
  subst e;obtain⟨o,e,c,d⟩:=st;exact⟨o,e,λv z=>by rw[d]at z;cases z⟩
 keep:=λi h h' st k=>st.at λo e=>k it (by simp) o e
 item:=by intro X hP hw hK G i pins s σ H E I l st hg;subst hP hw hK;obtain⟨xs,x,m,B⟩:=hg;obtain⟨C,F,p,S⟩:=I.list m;obtain⟨u,Q,T⟩:=F.get B;obtain⟨q,r,N,t,y,A⟩:=l it (by simp);refine wpAny_pyNext_list_item st p.isList (x:=u) (by simpa using Q) λh' j W=>?_;have J:d3 X pins σ H { s with heap:=h' }:=I.j' (t':=s.toks) (λb o f e=>(W.2 b f).t e) q r t y A;obtain⟨o,e,c,d⟩:=id j;exact⟨u,U,On (s:={ s with heap:=h' }) e c d (by decide) ⟨x,H,J,T,⟨U,λys R=>by rw[I.E? R m];exact B⟩,j,λb f=>(l b f).1⟩⟩
 done:=by intro X hP hw hK G i pins s σ H E I l st hg;subst hP hw hK;obtain⟨xs,m,B⟩:=hg;obtain⟨C,F,p,S⟩:=I.list m;obtain⟨q,r,N,t,y,A⟩:=l it (by simp);have hl:=F.length;exact wpAny_pyNext_list_end (I.ok.hd G) st p.isList (by simp;omega) λh' M=>⟨U,I.j' (t':=s.toks) (λb o f e=>M b o f e) q r t y A⟩
 self:=λ_ _ _ _ _ st h=>wpAny_pyIter_listiter st h
def M7{P:aJ}{w:aA}{K:au}{tg:Expr}(a it:Addr):Q0 P w K tg (Itt K a) [it] it (λi h=>h.IsTupleIter it a i) where
 mem:=by simp
 obj:=λi h st b f=>by
  have e:b=it:=by simpa using f
  subst e;obtain⟨o,e,c,d⟩:=st;exact⟨o,e,λv z=>by rw[d]at z;cases z⟩
 keep:=λi h h' st k=>st.at λo e=>k it (by simp) o e
 item:=by intro X hP hw hK G i pins s σ H E I m st hg;subst hP hw hK;obtain⟨xs,x,q,C⟩:=hg;obtain⟨j,F,p,S⟩:=I.tuple q;obtain⟨u,Q,T⟩:=F.get C;obtain⟨r,t,N,y,A,B⟩:=m it (by simp);refine wpAny_pyNext_tuple_item st (show s.heap.IsTuple a j.toArray from p) (x:=u) (by simpa using Q) λh' l W=>?_;have J:d3 X pins σ H { s with heap:=h' }:=I.j' (t':=s.toks) (λb o f e=>(W.2 b f).t e) r t y A B;obtain⟨o,e,c,d⟩:=id l;exact⟨u,U,On (s:={ s with heap:=h' }) e c d (by decide) ⟨x,H,J,T,⟨U,λys R=>by rw[I.x? R q];exact C⟩,l,λb f=>(m b f).1⟩⟩
 done:=by intro X hP hw hK G i pins s σ H E I m st hg;subst hP hw hK;obtain⟨xs,q,C⟩:=hg;obtain⟨j,F,p,S⟩:=I.tuple q;obtain⟨r,t,N,y,A,B⟩:=m it (by simp);have hl:=F.length;exact wpAny_pyNext_tuple_end (I.ok.hd G) st (show s.heap.IsTuple a j.toArray from p) (by simp;omega) λh' M=>⟨U,I.j' (t':=s.toks) (λb o f e=>M b o f e) r t y A B⟩
 self:=λ_ _ _ _ _ st h=>wpAny_pyIter_tupleiter st h
def M8{P:aJ}{w:aA}{K:au}{tg:Expr}(it:Addr)(lo:Int)(n:Nat):Q0 P w K tg (Itr lo n) [it] it (λi h=>IsRangeIter h it (lo+(i:Nat) * 1) ((n:Int) - (i:Nat)) 1) where
 mem:=by simp
 obj:=λi h st b a=>by
  have e:b=it:=by simpa using a
  subst e;exact⟨_,st,λv z=>by
   have B:Data.fields _=Data.cell v:=z;cases B⟩
 keep:=λi h h' st k=>k it (by simp) _ st
 item:=by intro X hP hw hK q i pins s σ H E I d st hg;subst hP hw hK;obtain⟨f,j,x,l,m,p⟩:=d it (by simp);have W:=Walks.range (prog:=X.prog) (w:=X.w) (I.ok.hd q) it lo 1 n;refine W.item i s _ _ hg st λv h' tk y c A=>?_;obtain⟨t,rfl⟩:=y;have r:d3 X pins σ H { s with heap:=h',toks:=tk }:=I.j' (λb o a e=>A b o (by simpa using a) e) f j l m p;refine⟨_,U,On (s:={ s with heap:=h',toks:=tk }) (n:="range_iterator") c rfl U (by decide) ⟨.int (lo+i),H,r,⟨t,?_⟩,⟨U,U⟩,c,λb a=>(d b a).1⟩⟩;rw[Int.mul_one]
 done:=by intro X hP hw hK q i pins s σ H E I d st hg;subst hP hw hK;obtain⟨f,j,x,l,m,p⟩:=d it (by simp);exact wpAny_pyNext_range_end (I.ok.hd q) st (by have:n<=i:=hg;omega) λh' u=>⟨U,I.j' (t':=s.toks) (λb o a e=>u b o a e) f j l m p⟩
 self:=λ_ _ _ _ _ st h=>wpAny_pyIter_rangeiter st h
section
variable{X:Cx}{tg:Expr}
def Q1(K:au)(c:TE):TI:=λe H R=>c e H λx b=>∃a,x=.ref a/\(∃d,fx K b a d)/\R (Itl K a) b
def Yv(K:au)(c:TE):TI:=λe H R=>c e H λx b=>∃a,x=.ref a/\(∃d,f3 K b a d)/\R (Itt K a) b
def U1{l:Expr}{i:TE}(r:PE X l i):PI X tg l (Q1 X.K i):=by
 intro c s z H R I h;refine fu (r c s z H _ I h) λv f zz=>?_;obtain⟨x,j,d,y,w⟩:=zz;obtain⟨a,e,⟨E,t⟩,q⟩:=w;subst e;cases y;obtain⟨u,B,p,A⟩:=d.list t;refine gQ p.isList ?_;refine⟨f.heap.objs.size,[f.heap.objs.size],_,_,j,U,d.gw (t':=f.toks) λb o e=>aN _ e,PL a _,⟨_,bx _ U,U,U⟩,λb m=>?_,q⟩;have e:b=f.heap.objs.size:=by simpa using m
 subst e;exact d.Q? (aL _) (d.ff.fresh (aL _))
def Yy{l:Expr}{j:TE}(t:PE X l j):PI X tg l (Yv X.K j):=by
 intro c s z H R I h;refine fu (t c s z H _ I h) λv d zz=>?_;obtain⟨x,m,f,y,w⟩:=zz;obtain⟨a,e,⟨E,u⟩,q⟩:=w;subst e;cases y;obtain⟨i,B,p,A⟩:=f.tuple u;refine oH (show d.heap.IsTuple a i.toArray from p) ?_;refine⟨d.heap.objs.size,[d.heap.objs.size],_,_,m,U,f.gw (t':=d.toks) λb o e=>aN _ e,M7 a _,⟨_,bx _ U,U,U⟩,λb r=>?_,q⟩;have e:b=d.heap.objs.size:=by simpa using r
 subst e;exact f.Q? (aL _) (f.ff.fresh (aL _))
def Q2{pins:cJ}{σ:St}{H:Hp}{s:ae}{R:It->Hp->Prop}{E:ab->ae->Prop}{lo hi:Int}{t u v:Tok}{tk:Nat}(I:d3 X pins σ H s)(f:-(2 ^ 62)<=lo)(h:lo<2 ^ 62)(i:-(2 ^ 62)<=hi)(j:hi<2 ^ 62)
  (q:R (Itr lo (hi - lo).toNat) H):ao (model X.prog X.w) X.A (pyIter (.ref s.heap.objs.size)) (PIE X pins σ tg R) E { s with heap:=s.heap.push { cls:=.type "range", data:=.fields #[.int lo t,.int hi u,.int 1 v] },toks:=tk }:=by
 refine wpAny_pyIter_range (IsRange.new ..) (small_one f h i j) ?_;have a:d3 X pins σ H { s with heap:=s.heap.push { cls:=.type "range", data:=.fields #[.int lo t,.int hi u,.int 1 v] },toks:=tk }:=I.gw λb o e=>aN _ e;refine⟨(s.heap.push { cls:=.type "range", data:=.fields #[.int lo t,.int hi u,.int 1 v] }).objs.size,[(s.heap.push { cls:=.type "range", data:=.fields #[.int lo t,.int hi u,.int 1 v] }).objs.size],_,_,H,U,
  a.gw (t':=tk) λb o e=>aN _ e,M8 _ lo (hi - lo).toNat,?_,λb l=>?_,q⟩
 .have c:lo+((0:Nat):Int) * 1=lo:=by simp
  have d:(((hi - lo).toNat:Nat):Int) - ((0:Nat):Int)=sT lo hi 1:=by rw[rangeSize_one];split<;>omega
  show IsRangeIter _ _ (lo+((0:Nat):Int) * 1) ((((hi - lo).toNat:Nat):Int) - ((0:Nat):Int)) 1;rw[c,d];exact bx _ U
 .have e:b=(s.heap.push { cls:=.type "range", data:=.fields #[.int lo t,.int hi u,.int 1 v] }).objs.size:=by simpa using l
  subst e;exact a.Q? (aL _) (a.ff.fresh (aL _))
def Xo(b:TA):TI:=λd H R=>b d H λc a=>∃j:Int,c=[.int j]/\-(2 ^ 62)<=j/\j<2 ^ 62/\R (Itr 0 j.toNat) a
def PM{a:Expr}{d:TA}{p pos:Pos}(l:Gl X "range")(m:X.mg "range" = O)(i:PA X [a] d)(o:aF [a] X.b1=[(δ,eval a X.b1)]:=by rfl):PI X tg (.Call (.Name "range" p) [a] [] pos) (Xo d):=by
 intro b s y H R I h;refine Call_ (Cc I l m boot_range (callWith_type1 (fu (i pos b s y H _ I h) λB A zz=>?_) o U));obtain⟨C,z,f,w,c⟩:=zz;obtain⟨j,e,c,u,q⟩:=c;subst e;cases w with
 |cons r x=>cases x;obtain⟨t,rfl⟩:=r;exact call_range_1 (Q2 f (by omega) (by omega) c u (by simpa using q))
def Yz(c:TI)(g:TG)(tb:TS):TS:=λD σ H=>c σ H λJ H1=>∃W:Nat->Nat->St->Hp->Prop,(∃m,W 0 m σ H1)/\∀i m σ H,W i m σ H->
 (J.stop i H/\D.nx σ H)\/(J.go i H/\∃N:St->Hp->Prop,(∀σ' H',N σ' H'->∃b,b<m/\W (i+1) b σ' H')/\∀x H',J.yld i H x H'->g x σ H' λa H2=>tb { D with nx:=N,ct:=N,bk:=D.nx } a H2)
def Hu(a:List Addr)(h:Heap):cJ:=a.filterMap λb=>(h.get? b).map λo=>(b,o)
def zj{h:Heap}(c:b∈a)(e:h.get? b=Z o):(b,o)∈Hu a h:=jv.2 ⟨b,c,by rw[e];rfl⟩
def PN(f:p∈Hu c h):p.1∈c/\h.get? p.1=Z p.2:=by
 obtain⟨b,d,e⟩:=jv.1 f;cases q:h.get? b with
 |none=>rw[q]at e;cases e
 |some o=>rw[q]at e;have a:(b,o)=p:=cc e;subst a;exact⟨d,q⟩
def d3.K?(I:d3 X a t H s)(m:∀b∈f,Kz X a H b)(q:∀b∈f,∃o,s.heap.get? b=Z o/\∀v,o.data≠.cell v):d3 X (a++Hu f s.heap) t H s:=
 I.O? λp r=>(bq.1 r).elim (λz=>I.Dx p (bG _ z)) λz=>by obtain⟨h,e⟩:=PN z;obtain⟨i,j,l,_⟩:=m p.1 h;obtain⟨o,c,d⟩:=q p.1 h;rw[e]at c;cases c;exact⟨e,i,j,l,d⟩
def d3.n3(I:d3 X (a++pl) c H s):d3 X a c H s:=I.O? λp b=>I.Dx p (bG _ (bD _ b))
def Q3(F:jV (model X.prog X.w) X.A X.b1 X.xe)(hc:X.nr=γ)(hi:PI X tg iter wi)(hg:PG X tg g)(p:n? X body tb)
  (hs:∀x,iB iter X.b1 x=pure x:=by intro _;rfl):PS X (.For tg iter body [] pos) (Yz wi g tb):=by
 intro a s σ H D I h;refine wpAny_For (fu (hi a s σ H _ I h) λv s1 h1=>fu h1 λitv s2 h2=>?_) hs;obtain⟨it,C,tn,J,H2,e,I2,T,st2,f2,W,⟨m0,w0⟩,turn⟩:=h2;subst e;have stat:∀{y:Hp},(∀b∈C,y b=O)->∀b∈C,Kz X a y b:=λhn b p=>⟨hn b p,(f2 b p).2⟩;refine codeAny_forLoop_any (λn s'=>∃i q y,d3 X a q y s'/\tn i s'.heap/\(∀b∈C,y b=O)/\W i n q y) ?_ m0 ⟨0,σ,H2,I2,st2,λb p=>(f2 b p).1,w0⟩;rintro n s3 ⟨i,t,P,I3,M,E,w3⟩;rcases turn i n t P w3 with ⟨stop,qn⟩|⟨go,N,hN,step⟩
 .refine fV F (fu (T.done X U U U hc i a s3 t P X.xe I3 (stat E) M stop) λr s4 zz=>?_);obtain⟨S,I4⟩:=zz;subst S;exact jH ⟨t,P,I4,qn⟩
 .refine fV F (fu (T.item X U U U hc i a s3 t P X.xe I3 (stat E) M go) λr s4 zz=>?_);obtain⟨u,S,h4⟩:=zz;subst S;refine fV F (fu h4 λ_ s5 zz=>?_);obtain⟨x,H5,I5,r5,y5,B,R⟩:=zz;have Q:=I5.K? (stat R) (T.obj _ _ B);refine fV F (fu (hg _ s5 t H5 x u _ Q r5 (step x H5 y5)) λ_ s6 zz=>?_);obtain⟨σ6,H6,I6,q6⟩:=zz;refine fV F (fu (p _ s6 σ6 H6 _ I6 q6) λf Y z=>?_);have again:∀{c:St} {j:Hp},d3 X (a++Hu C s5.heap) c j Y->N c j->∃m,m<n/\∃i q y,d3 X a q y Y/\tn i Y.heap/\(∀b∈C,y b=O)/\W i m q y:=λ{c j} l G=>by obtain⟨m',hm,w7⟩:=hN c j G;refine⟨m',hm,i+1,c,j,l.n3,T.keep _ _ _ B λb p o e=>(l.Dx (b,o) (bG _ (bG _ (zj p e)))).1,λb p=>?_,w7⟩;obtain⟨o,e,d⟩:=T.obj _ _ B b p;exact(l.Dx (b,o) (bG _ (bG _ (zj p e)))).2.1
  cases f with
  |next=>obtain⟨c,j,l,G⟩:=z;exact again l G
  |cont=>obtain⟨c,j,l,G⟩:=z;exact again l G
  |brk=>obtain⟨c,j,l,z⟩:=z;exact⟨c,j,l.n3,z⟩
  |ret v=>obtain⟨x7,c,j,l,r7,z⟩:=z;exact⟨x7,c,j,l.n3,r7,z⟩
end
abbrev R2:=V->V->Hp->VK->Prop
def i0(X:Cx)(f:ab->ab->Sem ab)(r:R2):Prop:=
 ∀(a:cJ) (s:ae) (b:St) (H:Hp) (x y:V) (v u:ab) (Q:VK),d3 X a b H s->eu x v->eu y u->r x y H Q->
  ao (model X.prog X.w) X.A (f v u) (EP X a b Q) X.xe s
def v5(X:Cx)(f:ab)(r:bJ->Hp->VK->Prop):Prop:=
 ∀(a:cJ) (s:ae) (d:St) (H:Hp) (c:bJ) (b:List ab) (Q:VK),d3 X a d H s->en c b->r c H Q->
  ao (model X.prog X.w) X.A (call f b) (EP X a d Q) X.xe s
def tOp(r:R2)(d tb:TE):TE:=λa H Q=>d a H λx b=>tb a b λy c=>r x y c Q
def rI(C:Int->Int->Prop)(g:Int->Int->V):R2:=λx y H Q=>∃i j,x=.int i/\y=.int j/\C i j/\Q (g i j) H
def D?(g:Int->Int->V):R2:=λx y H Q=>∃i j,x=.int i/\y=.int j/\Q (g i j) H
section
variable{X:Cx}{a b c:Expr}{ta tb tc:TE}{pos:Pos}
def YA(r:PE X a ta)(t:PE X b tb){d:cJ}{s:ae}{i:St}{H:Hp}{R:V->V->Hp->Prop}(I:d3 X d i H s)
  (h:ta i H λx o=>tb i o λy e=>R x y e) {Q:ab->ae->Prop} {f:ab->ab->Sem ab}
  (z:∀v u m x y e,d3 X d i e m->eu x v->eu y u->R x y e->ao (model X.prog X.w) X.A (f v u) Q X.xe m):
  ao (model X.prog X.w) X.A (eval a X.b1) (λv j=>ao (model X.prog X.w) X.A (eval b X.b1) (λu l=>ao (model X.prog X.w) X.A (f v u) Q X.xe l) X.xe j) X.xe s:=by
 refine fu (r d s i H _ I h) λv G zz=>?_;obtain⟨x,o,p,E,B⟩:=zz;refine fu (t d G i o _ p B) λu m zz=>?_;obtain⟨y,e,q,F,C⟩:=zz;exact z v u m x y e q E F C
def Q4(l:i0 X (cG m) r)(i:PE X a ta)(j:PE X b tb):PE X (.BinOp a m b pos) (tOp r ta tb):=by intro d s w H Q I h;exact wpAny_BinOp (YA i j I h λv u t x y e f o p q=>l d t w e x y v u Q f o p q)
def opI{f:ab->ab->Sem ab}{C:Int->Int->Prop}{g:Int->Int->Int}
  (rule:∀(i j:Int) (t u:Tok) (s:ae) (Q:ab->ae->Prop) (E:ab->ae->Prop),C i j->Q (.int (g i j) s.toks) { s with toks:=s.toks+1 }->ao (model X.prog X.w) X.A (f (.int i t) (.int j u)) Q E s):
  i0 X f (rI C λi j=>.int (g i j)):=by
 intro pins s σ H x y v u Q I e l h;obtain⟨i,j,rfl,rfl,d,q⟩:=h;obtain⟨t,rfl⟩:=e;obtain⟨m,rfl⟩:=l;exact rule i j t m s _ _ d ⟨.int (g i j),H,I.rl _,⟨_,U⟩,q⟩
def YB{f:ab->ab->Sem ab}{g:Int->Int->Int}
  (rule:∀(i j:Int) (t u:Tok) (s:ae) (Q:ab->ae->Prop) (E:ab->ae->Prop),Q (.int (g i j) s.toks) { s with toks:=s.toks+1 }->ao (model X.prog X.w) X.A (f (.int i t) (.int j u)) Q E s):
  i0 X f (D? λi j=>.int (g i j)):=by
 intro pins s σ H x y v u Q I d e h;obtain⟨i,j,rfl,rfl,q⟩:=h;obtain⟨t,rfl⟩:=d;obtain⟨l,rfl⟩:=e;exact rule i j t l s _ _ ⟨.int (g i j),H,I.rl _,⟨_,U⟩,q⟩
def U2{f:ab->ab->Sem ab}{g:Int->Int->Bool}
  (rule:∀(i j:Int) (t u:Tok) (s:ae) (Q:ab->ae->Prop) (E:ab->ae->Prop),Q (.bool (g i j)) s->ao (model X.prog X.w) X.A (f (.int i t) (.int j u)) Q E s):
  i0 X f (D? λi j=>.I (g i j)):=by
 intro d s o H x y v u Q I e l h;obtain⟨i,j,rfl,rfl,q⟩:=h;obtain⟨t,rfl⟩:=e;obtain⟨m,rfl⟩:=l;exact rule i j t m s _ _ ⟨.I (g i j),H,I,U,q⟩
def YC(i j:Int):Prop:=0<j/\j<1073741824
def CPow(i j:Int):Prop:=0<=j/\j<=1000000/\i.natAbs<2 ^ 64
def U3(i j:Int):Prop:=(-(2 ^ 64)<i/\i<2 ^ 64)\/(-(2 ^ 64)<j/\j<2 ^ 64)
def U3.ok(h:U3 i j):IntMulOk i j:=by
 rcases h with ⟨d,e⟩|⟨d,e⟩
 .exact .of_left (qp d e)
 .exact .of_right (qp d e)
def M9(k:Nat):(0:Int)<=2 ^ k:=by rw[two_pow_cast];exact Int.natCast_nonneg _
def YD:i0 X (cG .Add) (D? λi j=>.int (i+j)):=YB λz z z z z z z q=>add_int q
def YE:i0 X (cG .Sub) (D? λi j=>.int (i - j)):=YB λz z z z z z z q=>sub_int q
def YF:i0 X (cG .Mult) (rI U3 λi j=>.int (i * j)):=opI λz z z z z z z d q=>mul_int q d.ok
def U4:i0 X (cG .FloorDiv) (rI YC λi j=>.int (i / j)):=opI λi j z z z z z d q=>by have e:(0:Int)<j:=d.1;have f:j<1073741824:=d.2;exact floordiv_int (by omega) (by rw[nu i (by omega)];exact q) (.inl (PyProof.noPylong_small (by omega)))
def YG:i0 X (cG .Mod) (rI (λz j=>0<j) λi j=>.int (i % j)):=opI λi j z z z z z d q=>by have e:(0:Int)<j:=d;exact mod_int' (by omega) (by rw[Int.fmod_eq_emod_of_nonneg i (by omega)];exact q)
def YH:i0 X (cG .Pow) (rI CPow λi j=>.int (i ^ j.toNat)):=opI λz z z z z z z d q=>pow_int_small d.1 d.2.1 d.2.2 q
def YI:i0 X (cG .RShift) (rI (λz j=>0<=j) λi j=>.int (i / 2 ^ j.toNat)):=opI λi j z z z z z d q=>
 rshift_int d (by rw[nu i (M9 _)];exact q)
def YJ:i0 X (cG .BitAnd) (D? λi j=>.int (jL i j)):=YB λz z z z z z z q=>and_int q
end
def Q5:V->V->Bool
 |.E,.E=>γ|.E,.int _=>γ|.int _,.E=>γ|.E,.I _=>γ|.I _,.E=>γ|.E,.str _=>γ|.str _,.E=>γ
 |.int _,.int _=>γ|.I _,.I _=>γ|.str _,.str _=>γ|.R _,.R _=>γ
 |.int _,.str _=>γ|.str _,.int _=>γ|.I _,.str _=>γ|.str _,.I _=>γ
 |_,_=>δ
def rEq:R2:=λx y H Q=>Q5 x y=γ/\Q (.I (decide (x=y))) H
def rNe:R2:=λx y H Q=>Q5 x y=γ/\Q (.I (!decide (x=y))) H
def Oo:decide (V.int i=V.int j)=(i==j):=by rw[dM];simp
def Q6:decide (V.I i=V.I j)=(i==j):=by rw[dM];simp
def Oq:decide (V.str i=V.str j)=(i==j):=by rw[dM];simp
def Os:decide (V.R i=V.R j)=(i.toList==j.toList):=by rw[dM];cases i;cases j;simp
section
variable{X:Cx}{a b c:Expr}{ta tb tc:TE}{pos:Pos}
def u9(I:d3 X d h H s)(q:Q (.I k) H)(e:k=f):EP X d h Q (.bool f) s:=by subst e;exact⟨.I k,H,I,U,q⟩
def acr:i0 X (bB .Eq) rEq:=by
 intro m s o H x y v u Q I l d h;obtain⟨f,q⟩:=h;cases x with
 |E=>
  cases l;cases y with
  |E=>cases d;exact sd (u9 I q (by simp))
  |I j=>cases d;exact se (u9 I q (by simp))
  |int j=>obtain⟨e,rfl⟩:=d;exact sD (u9 I q (by simp))
  |str j=>obtain⟨e,rfl⟩:=d;exact sE (u9 I q (by simp))
  |_=>exact ar (show δ=γ from f) bE
 |I i=>
  cases l;cases y with
  |E=>cases d;exact sf (u9 I q (by simp))
  |I j=>cases d;exact eq_bool (u9 I q Q6)
  |str j=>obtain⟨e,rfl⟩:=d;exact sj (u9 I q (by simp))
  |_=>exact ar (show δ=γ from f) bE
 |int i=>
  obtain⟨t,rfl⟩:=l;cases y with
  |E=>cases d;exact sF (u9 I q (by simp))
  |int j=>obtain⟨e,rfl⟩:=d;exact eq_int (u9 I q Oo)
  |str j=>obtain⟨e,rfl⟩:=d;exact sG (u9 I q (by simp))
  |_=>exact ar (show δ=γ from f) bE
 |str i=>
  obtain⟨t,rfl⟩:=l;cases y with
  |E=>cases d;exact sH (u9 I q (by simp))
  |I j=>cases d;exact sk (u9 I q (by simp))
  |int j=>obtain⟨e,rfl⟩:=d;exact sI (u9 I q (by simp))
  |str j=>obtain⟨e,rfl⟩:=d;exact eq_str (u9 I q Oq)
  |_=>exact ar (show δ=γ from f) bE
 |R i=>
  obtain⟨t,rfl⟩:=l;cases y with
  |R j=>obtain⟨e,rfl⟩:=d;exact W.eq_bytes (u9 I q Os)
  |_=>exact ar (show δ=γ from f) bE
 |_=>cases y<;>exact ar (show δ=γ from f) bE
def acs:i0 X (bB .NotEq) rNe:=by
 intro m s o H x y v u Q I l d h;obtain⟨f,q⟩:=h;cases x with
 |E=>
  cases l;cases y with
  |E=>cases d;exact sr (u9 I q (by simp))
  |I j=>cases d;exact su (u9 I q (by simp))
  |int j=>obtain⟨e,rfl⟩:=d;exact sJ (u9 I q (by simp))
  |str j=>obtain⟨e,rfl⟩:=d;exact sL (u9 I q (by simp))
  |_=>exact ar (show δ=γ from f) bE
 |I i=>
  cases l;cases y with
  |E=>cases d;exact sv (u9 I q (by simp))
  |I j=>cases d;exact ne_bool (u9 I q (bL not Q6))
  |str j=>obtain⟨e,rfl⟩:=d;exact sy (u9 I q (by simp))
  |_=>exact ar (show δ=γ from f) bE
 |int i=>
  obtain⟨t,rfl⟩:=l;cases y with
  |E=>cases d;exact sM (u9 I q (by simp))
  |int j=>obtain⟨e,rfl⟩:=d;exact ne_int (u9 I q (bL not Oo))
  |str j=>obtain⟨e,rfl⟩:=d;exact sN (u9 I q (by simp))
  |_=>exact ar (show δ=γ from f) bE
 |str i=>
  obtain⟨t,rfl⟩:=l;cases y with
  |E=>cases d;exact sO (u9 I q (by simp))
  |I j=>cases d;exact sA (u9 I q (by simp))
  |int j=>obtain⟨e,rfl⟩:=d;exact sQ (u9 I q (by simp))
  |str j=>obtain⟨e,rfl⟩:=d;exact ne_str (u9 I q (bL not Oq))
  |_=>exact ar (show δ=γ from f) bE
 |R i=>
  obtain⟨t,rfl⟩:=l;cases y with
  |R j=>obtain⟨e,rfl⟩:=d;exact W.ne_bytes (u9 I q (bL not Os))
  |_=>exact ar (show δ=γ from f) bE
 |_=>cases y<;>exact ar (show δ=γ from f) bE
def acu:i0 X (bB .Lt) (D? λi j=>.I (decide (i<j))):=U2 λz z z z z z z q=>lt_int q
def acv:i0 X (bB .LtE) (D? λi j=>.I (decide (i<=j))):=U2 λz z z z z z z q=>le_int q
def acw:i0 X (bB .Gt) (D? λi j=>.I (decide (j<i))):=U2 λz z z z z z z q=>gt_int q
def acx:i0 X (bB .GtE) (D? λi j=>.I (decide (j<=i))):=U2 λz z z z z z z q=>ge_int q
def YK:i0 X (bB .Is) (λx y H Q=>y=.E/\Q (.I (decide (x=.E))) H):=by
 intro d s i H x y v u Q I e f h;obtain⟨rfl,q⟩:=h;cases f;refine is_none_gen (u9 I q ?_);cases x<;>first
  |(cases e;rfl)
  |(obtain⟨t,rfl⟩:=e;rfl)
def U5:i0 X (bB .IsNot) (λx y H Q=>y=.E/\Q (.I (!decide (x=.E))) H):=by
 intro d s i H x y v u Q I e f h;obtain⟨rfl,q⟩:=h;cases f;refine isnot_none_gen (u9 I q ?_);cases x<;>first
  |(cases e;rfl)
  |(obtain⟨t,rfl⟩:=e;rfl)
def U6(o:i0 X (bB e) r)(j:PE X a ta)(l:PE X b tb)(m:fY e b=δ):PE X (.Compare a [e] [b] pos) (tOp r ta tb):=by intro d s z H Q I h;exact wpAny_Compare1 (YA j l I h λv u w x y f i p t q=>o d w z f x y v u Q i p t q) m
def Q7(t:TE):TT:=λe H Q=>t e H λx d=>∃k,x=.I k/\Q k d
def U7(B:i0 X (bB i) r)(t:PE X a ta)(w:PE X b tb)(A:fY i b=δ):PT X (.Compare a [i] [b] pos) (Q7 (tOp r ta tb)):=by
 intro d s f H Q I h;refine nV (fu (t d s f H _ I h) λv N ⟨x,j,o,G,C⟩=>fu (w d N f j _ o C) λu P ⟨y,l,p,J,E⟩=>
  fu (B d P f l x y v u _ p G J E) λc R ⟨z,m,q,M,k,e,F⟩=>?_) A
 subst e;cases M;exact dh ⟨m,q,F⟩
def Na(r j:R2)(ta tb tc:TE):TE:=λd H Q=>ta d H λx f=>tb d f λy h=>r x y h λz e=>∃k,z=.I k/\
 (if k=γ then tc d e λl i=>j y l i Q else Q (.I δ) e)
def Q8(P:i0 X (bB p) r)(l:i0 X (bB i) W)(G:PE X a ta)(J:PE X b tb)(M:PE X c tc)
  (N:lastMarks [p,i] [b,c]=δ:=by with_unfolding_all rfl):PE X (.Compare a [p,i] [b,c] pos) (Na r W ta tb tc):=by
 intro f s j H Q I h;refine Compare_chain (fu (G f s j H _ I h) λv s1 ⟨x,w,C,Y,R⟩=>chain_link (fu (J f s1 j w _ C R) λu s2 ⟨y,A,E,t,S⟩=>
  fu (P f s2 j A x y v u _ E Y t S) λd s3 ⟨z,m,o,r3,k,e,q⟩=>?_)) N
 subst e;cases r3;refine dh ?_;cases k with
 |false=>exact ite_ff ⟨.I δ,m,o,U,q⟩
 |true=>exact ite_tt (chain_last (fu (M f s3 j m _ o q) λw' s4 ⟨z',B,F,r4,T⟩=>l f s4 j B y z' u w' Q F t r4 T))
def Q9(W:i0 X (bB p) r)(l:i0 X (bB i) r')(P:PE X a ta)(R:PE X b tb)(S:PE X c tc)
  (T:lastMarks [p,i] [b,c]=δ:=by with_unfolding_all rfl):PT X (.Compare a [p,i] [b,c] pos) (Q7 (Na r r' ta tb tc)):=by
 intro f s j H Q I h;refine isTrue_chain (fu (P f s j H _ I h) λv s1 ⟨x,w,E,r1,q1⟩=>test_link (fu (R f s1 j w _ E q1) λu s2 ⟨y,A,F,t,q2⟩=>
  fu (W f s2 j A x y v u _ F r1 t q2) λd s3 ⟨z,m,o,r3,k,e,q⟩=>?_)) T
 subst e;cases r3;refine dh ?_;cases k with
 |false=>obtain⟨k',M,Y⟩:=q;cases M;exact ite_ff ⟨m,o,Y⟩
 |true=>refine ite_tt (test_last (fu (S f s3 j m _ o q) λw' s4 ⟨z',B,G,r4,q4⟩=>fu (l f s4 j B y z' u w' _ G t r4 q4) λd' s5 ⟨z2,C,J,r5,k2,N,q5⟩=>?_));subst N;cases r5;exact dh ⟨C,J,q5⟩
def Hv:(aI:Nat)<2 ^ 63:=by rw[bU];decide
def Nc:i0 X (cG .Add) (λx y H Q=>∃i j,x=.str i/\y=.str j/\i.length+j.length<=aI/\Q (.str (i++j)) H):=by intro d s p H x y v u Q I f l h;obtain⟨i,j,rfl,rfl,e,q⟩:=h;obtain⟨t,rfl⟩:=f;obtain⟨m,rfl⟩:=l;exact add_str (λm o=>⟨.str (i++j),H,I.rl _,⟨_,U⟩,q⟩) e
def l'(r:en [x] f):∃u,f=[u]/\eu x u:=by
 cases r with
 |cons d e=>cases e;exact⟨_,U,d⟩
def vals2(r:en [x,y] j):∃u d,j=[u,d]/\eu x u/\eu y d:=by
 cases r with
 |cons e f=>
  cases f with
  |cons h i=>cases i;exact⟨_,_,U,e,h⟩
def PQ:v5 X (.type "int") (λd H Q=>(∃i,d=[.int i]/\Q (.int i) H)\/∃k,d=[.I k]/\Q (.int (if k then 1 else 0)) H):=by
 intro e s l H d j Q I r h;rcases h with ⟨i,rfl,q⟩|⟨k,rfl,q⟩
 .obtain⟨u,rfl,t,rfl⟩:=l' r;exact call_int_int ⟨.int i,H,I,⟨_,U⟩,q⟩
 .obtain⟨u,rfl,f⟩:=l' r;cases f;exact call_int_bool ⟨.int (if k then 1 else 0),H,I.rl _,⟨_,U⟩,q⟩
end
structure Nd(h:Heap)(x dx C:Addr)(mA:Str->Option ab):Prop where
 obj:h.get? x=Z (eK C dx)
 ns:h.Ns1 dx mA
 ne:dx≠x
set_option tactic.hygienic true
def PR{h:Heap}(n:h.Ns1 f mA):∃c,h.get? f=Z c/\∀name,jW name c=Z (mA name):=by
 obtain⟨o,b,p,l,hd,i,_,j⟩:=n;refine⟨o,l,λname=>?_⟩;have e:=j name;unfold nsFind findBy at e;rw[<-Array.find?_toList]at e;unfold jW;rw[hd];dsimp only;split
 .rename_i y q;rw[q]at e;exact bL Z e
 .rename_i q;rw[q]at e;have a:b.toList.any (·.refKey)=δ:=by rw[oZ];intro y m;obtain⟨z,t,hkey⟩:=i y (Array.mem_toList_iff.1 m);simp[DictEntry.refKey,hkey]
  have d:¬b.toList.any (·.refKey)=γ:=by rw[a];exact bE
  rw[aj d];exact bL Z e
set_option tactic.hygienic false
def Nd.look(I:Nd h x b C mA):∃a,W.InstAt h x (eK C b) C (Z a)/\∀name,jW name a=Z (mA name):=
 let ⟨a,d,c⟩:=PR I.ns
 ⟨a,⟨I.obj,U,U,d⟩,c⟩
section
variable{prog:aJ}{w:aA}{A:aK}{E:ab->ae->Prop}{s:ae}{K:au}{x dx C f:Addr}{mA:Str->Option ab}{name:Str}{v:ab}
def get_map(X:K.In s.heap)(I:Nd s.heap x dx C mA)(hg:jR K C name=γ)(b:mE K C=γ)
  (ha:cP K (.ref C) name=Z O) (d:mA name=Z v) (a:W.handedIn v=γ) (h:Q v { s with toks:=s.toks+1 }):
  ao (model prog w) A (getAttr (.ref x) name expr) Q E s:=by
 obtain⟨od,J,c⟩:=I.look;exact W.get_value X J (l3 hg).1 (W.findObj_own b ha U (by rw[c,d])) a h
def Rb(X:K.In s.heap)(I:Nd s.heap x dx C mA)(a:jR K C name=γ)
  (b:cP K (.ref C) name=Z (Z (.ref f))) (d:j4 K (.ref f)=γ) (e:mA name=O) (h:Q (.ref f,[.ref x]) s):
  ao (model prog w) A (getMethod (.ref x) name pl) Q E s:=by
 obtain⟨i,J,c⟩:=I.look;exact W.method_fn X J (l3 a).1 (l3 a).2 b (beq_iff_eq.mp d) (by show (jW name i).map (·.isSome)=Z δ;rw[c,e];rfl) h
def U8(X:K.In s.heap)(I:Nd s.heap x dx C mA)
  (hs:cP K (.ref C) "__setattr__" = Z (Z (.builtin "object.__setattr__"))) (l:qL K C=γ) (o:mM K C name=Z O) (j:mE K C=γ)
  (hw:mj mA ns) (m:ns.length<=aI)
  (h:∀h',Nd h' x dx C (λy=>if y=name then Z v else mA y)->dS dx s.heap h'->Q () { s with heap:=h',toks:=s.toks+2 }):
  ao (model prog w) A (setAttr (.ref x) name v) Q E s:=by
 obtain⟨od,J,q⟩:=I.look;refine W.set_plain X J hs (W.osa_open (s:={ s with toks:=s.toks+1 }) (r:=O) X J l o λb=>?_);obtain⟨cd,i,e⟩:=W.any_some j;have p:s.heap.get? x=Z ⟨.ref C,Z dx,.plain,#[]⟩:=I.obj;refine ag (aq (ag (ag (wpAny_loadPart p (ag (W.Looks.here (s:={ s with toks:=s.toks+1 }) (W.looks_clsIn X i) ?_))))));rw[e];refine aq (a:=Z dx) (ag (aq (ag ?_)));refine wpAny_nsSet1 (s:={ s with toks:=s.toks+1 }) I.ns λh' c d=>?_;obtain⟨oD,esD,epD,hoD,hdD,hcD⟩:=c.count (ug name v hw);refine ag (wpAny_lookBehind hoD (by rw[hdD];exact pastItsLine_dict (bQ hcD (by rw[aP];omega))) ?_);exact aq (h _ ⟨(d.2 _ (dw I.ne)).t I.obj,c,I.ne⟩ d)
def Re(X:K.In s.heap)(hm:mN K C=γ)
  (hi:cP K (.ref C) "__init__" = Z (Z (.ref f))) (b:W.typeIn K (.ref f)=Z (.type "function"))
  (h:cz (model prog w) (A.under (.builtin "type.__call__" ⟨.ref C::vs,a⟩)) (.call (.ref f) ⟨.ref (s.heap.objs.size+1)::vs,a⟩) (W.InitBack (s.heap.objs.size+1) R)
   { s with heap:=(s.heap.push dW).push (eK C s.heap.objs.size) }):
  cz (model prog w) A (.call (.ref C) ⟨vs,a⟩) R s:=by
 obtain⟨c,g,d,t,os⟩:=s;exact qM (mL X hm) (qb X hi) (λself=>W.bind_fn X self b) (.inl U) h
def PU(X:K.In s.heap)(hm:mN K C=γ)
  (hi:cP K (.ref C) "__init__" = Z (Z (.builtin "object.__init__")))
  (a:∀self,W.Looks (model prog w) s.heap (bindSpecial (.builtin "object.__init__") self) (.builtin "object.__init__", [self]))
  (h:cz (model prog w) (A.under (.builtin "type.__call__" ⟨[.ref C],[]⟩)) (.call (.builtin "object.__init__") ⟨[.ref (s.heap.objs.size+1)],[]⟩) (W.InitBack (s.heap.objs.size+1) R)
   { s with heap:=(s.heap.push dW).push (eK C s.heap.objs.size) }):
  cz (model prog w) A (.call (.ref C) ⟨[],[]⟩) R s:=by
 obtain⟨b,g,d,t,os⟩:=s;exact qM (mL X hm) (qb X hi) a (.inr ⟨U,U⟩) h
end
def AA(f:Str)(v:V):List (Str×V)->List (Str×V)
 |[]=>[(f,v)]
 |(g,x)::r=>if g=f then (g,v)::r else (g,x)::AA f v r
theorem F9(f g:Str)(v:V):∀fs:List (Str×V),(AA f v fs).lookup g=if g=f then Z v else fs.lookup g
 |[]=>by
  show dq g [(f,v)]=_;by_cases h:g=f
  .have a:(g==f)=γ:=beq_iff_eq.mpr h;simp only[dq,a,ah h]
  .have a:(g==f)=δ:=beq_eq_false_iff_ne.2 h;simp only[dq,a,aj h]
 |(k,x)::r=>by
  have c:=F9 f g v r;rw[show AA f v ((k,x)::r)=(if k=f then (k,v)::r else (k,x)::AA f v r) from U];by_cases b:k=f
  .rw[ah b];by_cases h:g=k
   .have a:(g==k)=γ:=beq_iff_eq.mpr h;simp only[dq,a,ah (h.t b)]
   .have a:(g==k)=δ:=beq_eq_false_iff_ne.2 h;simp only[dq,a,aj (λe:g=f=>h (e.t b.symm))]
  .rw[aj b];by_cases h:g=k
   .have a:(g==k)=γ:=beq_iff_eq.mpr h;simp only[dq,a,aj (λe:g=f=>b (h.symm.t e))]
   .have a:(g==k)=δ:=beq_eq_false_iff_ne.2 h;simp only[dq,a];exact c
theorem Ft(f:Str)(v:V):∀fs:List (Str×V),f∈(AA f v fs).map (·.1)/\∀g,g∈fs.map (·.1)->g∈(AA f v fs).map (·.1)
 |[]=>⟨by simp[AA],λg h=>by simp at h⟩
 |(k,x)::r=>by
  obtain⟨b,c⟩:=Ft f v r;rw[show AA f v ((k,x)::r)=(if k=f then (k,v)::r else (k,x)::AA f v r) from U];by_cases a:k=f
  .rw[ah a];subst a;exact⟨by simp,λg h=>by simpa using h⟩
  .rw[aj a];refine⟨?_,λg h=>?_⟩
   .rw[aS];exact ba _ b
   .rw[aS]at h ⊢;rcases aO.1 h with e|e
    .exact aO.2 (.inl e)
    .exact ba _ (c g e)
theorem Ga(f:Str)(v:V):∀fs:List (Str×V),(AA f v fs).length<=fs.length+1
 |[]=>by simp[AA]
 |(k,x)::r=>by
  have b:=Ga f v r;rw[show AA f v ((k,x)::r)=(if k=f then (k,v)::r else (k,x)::AA f v r) from U];by_cases a:k=f
  .rw[ah a,aP,aP];omega
  .rw[aj a,aP,aP];omega
def Cb.B'(r:Cb (Z v) o):∃u,o=Z u/\eu v u:=by
 cases o with
 |none=>exact(show False from r).elim
 |some u=>exact⟨u,U,r⟩
def Cb.none_of(r:Cb O o):o=O:=by
 cases o with
 |none=>rfl
 |some u=>exact(show False from r).elim
def PV(r:eu v u):W.handedIn u=γ:=by
 cases v with
 |E=>cases (show u=Value.none from r);rfl
 |I b=>cases (show u=Value.bool b from r);rfl
 |int i=>obtain⟨t,e⟩:=(show ∃t,u=Value.int i t from r);cases e;rfl
 |str x=>obtain⟨t,e⟩:=(show ∃t,u=Value.str x t from r);cases e;rfl
 |R b=>obtain⟨t,e⟩:=(show ∃t,u=Value.bytes b t from r);cases e;rfl
 |flt b=>obtain⟨t,e⟩:=(show ∃t,u=Value.float b t from r);cases e;rfl
 |ref a=>cases (show u=Value.ref a from r);rfl
 |ty n=>cases (show u=Value.type n from r);rfl
section
variable{P:aJ}{w:aA}{H H':Hp}{h h':Heap}{a C dx:Addr}{fs fs':List (Str×V)}
def Et(ff:pk P w H h)(e:H a=Z (.mu C dx fs)):∃mA,Nd h a dx C mA/\(∀f,Cb (fs.lookup f) (mA f))/\mj mA (fs.map (·.1))/\fs.length<=1000/\H dx=Z (.iE a):=by obtain⟨d,z,b,c,mA,n,r,q⟩:=(show e4 P w H h a (.mu C dx fs) from ff a _ e);exact⟨mA,⟨c,n,b⟩,r,q,z,d⟩
end
structure Mn(K:au)(C:Addr):Prop where
 pg:jR K C Str.empty=γ
 hd:mE K C=γ
 po:qL K C=γ
 sa:cP K (.ref C) "__setattr__" = Z (Z (.builtin "object.__setattr__"))
def Mn.get{K:au}{C:Addr}(c:Mn K C)(f:Str):jR K C f=γ:=c.pg
def Ad(K:au)(C:Addr)(f:Str):Prop:=cP K (.ref C) f=Z O
def Ad.taker{K:au}{C:Addr}{f:Str}(n:Ad K C f):mM K C f=Z O:=by unfold mM;rw[show cP K (.ref C) f=Z O from n];rfl
structure Meth(K:au)(C:Addr)(m:Str)(f:Addr):Prop where
 j1:cP K (.ref C) m=Z (Z (.ref f))
 fn:j4 K (.ref f)=γ
 kp:dY K (.ref f)=γ
section
variable{X:Cx}{pins:cJ}{σ:St}{H:Hp}{s:ae}{a C dx:Addr}{fs:List (Str×V)}{f:Str}{v:V}{A:aK}{E:ab->ae->Prop}
def Nf(I:d3 X pins σ H s)(e:H a=Z (.mu C dx fs))(c:Mn X.K C)(n:Ad X.K C f)(l:fs.lookup f=Z v)
  (h:∀u i,d3 X pins σ H i->eu v u->Q u i):ao (model X.prog X.w) A (getAttr (.ref a) f b) Q E s:=by
 obtain⟨mA,j,r,_,_,_⟩:=Et I.ff e;obtain⟨u,m,d⟩:=Cb.B' (v:=v) (o:=mA f) (by rw[<-l];exact r f);exact get_map I.nj j (c.get f) c.hd n m (PV d) (h u _ (I.rl _) d)
def Hw(I:d3 X pins σ H s)(e:H a=Z (.mu C dx fs))(c:Mn X.K C)(k:Meth X.K C m g)(l:fs.lookup m=O)
  (h:Q (.ref g,[.ref a]) s):ao (model X.prog X.w) A (getMethod (.ref a) m pl) Q E s:=by
 obtain⟨mA,b,r,_,_,_⟩:=Et I.ff e;have d:mA m=O:=Cb.none_of (by rw[<-l];exact r m);exact Rb I.nj b (c.get m) k.j1 k.fn d h
def Ng(I:d3 X pins σ H s)(e:H a=Z (.mu C dx fs))(c:Mn X.K C)(n:Ad X.K C f)(N:fs.length<1000)(J:eu y u)
  (h:∀l,d3 X pins σ (e0 H a (.mu C dx (AA f y fs))) l->Q () l):ao (model X.prog X.w) A (setAttr (.ref a) f u) Q E s:=by
 obtain⟨mA,d,r,m,_,j⟩:=Et I.ff e;have G:(fs.map (·.1)).length<=aI:=by rw[af,bU];omega
 refine U8 I.nj d c.sa c.po n.taker c.hd m G λt i M=>h _ ?_;have hd:∃o,t.get? dx=Z o:=let ⟨o,_,_,p,_⟩:=i.ns;⟨o,p⟩;refine I.tp (x:=a) (e:=dx) (by rw[e];exact True.intro) (.inr j) (λb q B z=>(M.2 b B).t z) hd ?_;refine⟨by rw[uH d.ne];exact j,?_,d.ne,i.obj,_,i.ns,λg=>?_,λg F=>?_⟩
 .have:=Ga f y fs;omega
 .show Cb ((AA f y fs).lookup g) (if g=f then Z u else mA g);rw[F9];by_cases q:g=f
  .rw[ah q,ah q];exact J
  .rw[aj q,aj q];exact r g
 .by_cases q:g=f
  .rw[q];exact(Ft f y fs).1
  .refine(Ft f y fs).2 g (m g λz=>F ?_);show (if g=f then Z u else mA g)=O;rw[aj q];exact z
def d3.made(I:d3 X pins σ H s):d3 X pins σ (e0 (e0 H s.heap.objs.size (.iE (s.heap.objs.size+1))) (s.heap.objs.size+1) (.mu C s.heap.objs.size []))
  { s with heap:=(s.heap.push dW).push (eK C s.heap.objs.size) }:=by
 have c:(s.heap.push dW).get? s.heap.objs.size=Z dW:=bx s.heap U;have h:((s.heap.push dW).push (eK C s.heap.objs.size)).get? (s.heap.objs.size+1)=Z (eK C s.heap.objs.size):=by
  have:=bx (s.heap.push dW) (o:=eK C s.heap.objs.size) U
  rwa [cW]at this
 have i:(s.heap.push dW).Ns s.heap.objs.size (λz=>O):=⟨dW,#[],_,c,U,(λe j=>ar j (by simp)),λz=>U⟩;have d:=I.laid (a:=s.heap.objs.size) (o:=.iE (s.heap.objs.size+1)) (h':=s.heap.push dW) (t':=s.toks) (λb u q=>aN _ q) (aL _) ⟨_,c⟩;refine d.laid (a:=s.heap.objs.size+1) (o:=.mu C s.heap.objs.size []) (t':=s.toks) (λb u q=>aN _ q) (qC (cW _ _)) ?_;have ne:s.heap.objs.size≠s.heap.objs.size+1:=bc (di _);refine⟨by rw[uH ne,uz],bH _,ne,h,λz=>O,(Heap.Ns1.of_empty i).at λo q=>aN _ q,λz=>True.intro,λy l=>ar U l⟩
def U9(c:eG e f b1 (eval e b1)=eval e b1)
  (h:ao (model prog w) A (eval e b1) (λo b=>ao (model prog w) A (getAttr o f γ) Q E b) E s):ao (model prog w) A (eval (.Attribute e f pos) b1) Q E s:=
 Attribute_any_ h (by rw[arm_eval_Attribute,c])
end
def tFld(K:au)(d:TE)(f:Str):TE:=λe H Q=>d e H λx b=>∃a C c fs v,x=.ref a/\b a=Z (.mu C c fs)/\Mn K C/\Ad K C f/\fs.lookup f=Z v/\Q v b
def sFld(K:au)(h i:TE)(f:Str):TS:=λD b H=>i b H λy e=>h b e λx c=>∃a C d fs,x=.ref a/\c a=Z (.mu C d fs)/\Mn K C/\Ad K C f/\fs.length<1000/\
 D.nx b (e0 c a (.mu C d (AA f y fs)))
section
variable{X:Cx}{o e value:Expr}{f:Str}{pos pos' tpos:Pos}{ta tv:TE}
def YL(t:PE X e ta)(r:eG e f X.b1 (eval e X.b1)=eval e X.b1):PE X (.Attribute e f pos) (tFld X.K ta f):=by intro b s z H Q I h;refine U9 r (fu (t b s z H _ I h) λu B zz=>?_);obtain⟨x,d,i,y,a,C,A,fs,v,p,m,c,n,l,q⟩:=zz;subst p;obtain rfl:u=Value.ref a:=y;exact Nf i m c n l λF E j w=>⟨v,d,j,w,q⟩
def YM(w:PE X o ta)(A:PE X value tv)(z:dt value (Z (.Attribute o f pos')) pos.line X.b1=pure δ):PS X (.Assign [.Attribute o f pos'] value pos) (sFld X.K ta tv f):=by intro b s d H D I h;refine plainObj_wpAny_Assign_Attribute (fu (A b s d H _ I h) λu J ⟨y,i,j,G,q⟩=>fu (w b J d i _ j q) λB P zz=>?_) z;obtain⟨x,M,m,F,a,C,N,fs,t,r,c,n,l,E⟩:=zz;subst t;obtain rfl:B=Value.ref a:=F;exact Ng m r c n l G λQ p=>⟨d,_,p,E⟩
end
section
variable{X:Cx}{pins:cJ}{σ:St}{H:Hp}{s:ae}{A:aK}{E:ab->ae->Prop}{Q:ab->ae->Prop}{c:ab}{b:Bool}
inductive G0(K:au) (H:Hp):V->ab->Prop where
 |E:G0 K H .E (.type "NoneType")
 |I (x:Bool):G0 K H (.I x) (.type "bool")
 |int (i:Int):G0 K H (.int i) (.type "int")
 |str (x:Str):G0 K H (.str x) (.type "str")
 |flt (x:UInt64):G0 K H (.flt x) (.type "float")
 |b0 {a:Addr} {xs:bJ} (e:H a=Z (.b0 xs)):G0 K H (.ref a) (.type "list")
 |n9 {a:Addr} {o:Obj} {xs:bJ} (e:H a=Z (.n9 o (.b0 xs))):G0 K H (.ref a) (.type "list")
 |cx {a:Addr} {xs:bJ} (e:H a=Z (.cx xs)):G0 K H (.ref a) (.type "tuple")
 |dK {a:Addr} {kvs:List (ey×V)} (e:H a=Z (.dK kvs)):G0 K H (.ref a) (.type "dict")
 |dT {a:Addr} {kvs:List (List ey×V)} (e:H a=Z (.dT kvs)):G0 K H (.ref a) (.type "dict")
 |mu {a C dx:Addr} {fs:List (Str×V)} (e:H a=Z (.mu C dx fs)) (cl:Mn K C) (ha:cP K (.ref C) "__class__" = Z (Z (.builtin "object.__class__")))
   (hn:qN K (.builtin "object.__class__") "__get__" = Z (Z (.builtin "getset_descriptor.__get__"))) (htk:W.takesIn K (.builtin "object.__class__")=Z γ)
   (hm:W.mroIn K C (.type "object")=Z γ):G0 K H (.ref a) (.ref C)
def ze(I:d3 X pins σ H s)(f:eu x u)(ty:G0 X.K H x t)(e:cQ X.K t c=Z b)(h:∀tk,Q (.bool b) { s with toks:=tk }):
  ao (model X.prog X.w) A (call (.builtin "isinstance") [u,c]) Q E s:=by
 cases ty with
 |E=>cases (show u=Value.none from f);exact cK qO I.nj True.intro e (λz=>nomatch z) h
 |I y=>cases (show u=Value.bool y from f);exact cK qP I.nj True.intro e (λz=>nomatch z) h
 |int i=>obtain⟨t,q⟩:=(show ∃t,u=Value.int i t from f);cases q;exact cK W.kitx_int I.nj True.intro e (λz=>nomatch z) h
 |str y=>obtain⟨t,q⟩:=(show ∃t,u=Value.str y t from f);cases q;exact cK W.kitx_str I.nj True.intro e (λz=>nomatch z) h
 |flt y=>obtain⟨t,q⟩:=(show ∃t,u=Value.float y t from f);cases q;exact cK W.kitx_float I.nj True.intro e (λz=>nomatch z) h
 |@b0 a xs d=>cases (show u=Value.ref a from f);obtain⟨_,_,n,_,j⟩:=(show e4 X.prog X.w H s.heap a (.b0 xs) from I.ff a _ d);exact cK iR I.nj ⟨_,j,U⟩ e (λz=>nomatch z) h
 |@n9 a ob xs d=>cases (show u=Value.ref a from f);obtain⟨_,_,_,n,_,j⟩:=(show e4 X.prog X.w H s.heap a (.n9 ob (.b0 xs)) from I.ff a _ d);exact cK iR I.nj ⟨_,j,U⟩ e (λz=>nomatch z) h
 |@cx a xs d=>cases (show u=Value.ref a from f);obtain⟨_,_,_,p,_⟩:=(show e4 X.prog X.w H s.heap a (.cx xs) from I.ff a _ d);obtain⟨o,j,l,_⟩:=p;exact cK mm I.nj ⟨o,j,l⟩ e (λz=>nomatch z) h
 |@dK a kvs d=>cases (show u=Value.ref a from f);obtain⟨_,_,vs,_,p⟩:=(show e4 X.prog X.w H s.heap a (.dK kvs) from I.ff a _ d);obtain⟨o,es,ep,j,l,_⟩:=p;exact cK hX I.nj ⟨o,j,l.1⟩ e (λz=>nomatch z) h
 |@dT a kvs d=>cases (show u=Value.ref a from f);obtain⟨_,_,xs,_,o,es,ep,j,l,_⟩:=(show e4 X.prog X.w H s.heap a (.dT kvs) from I.ff a _ d);exact cK hX I.nj ⟨o,j,l.1⟩ e (λz=>nomatch z) h
 |@mu a C dx fs d cl ha hn htk hm=>cases (show u=Value.ref a from f);obtain⟨mA,m,_⟩:=Et I.ff d;obtain⟨od,J,_⟩:=m.look;exact cK (W.kitx_own (cl.get _) cl.hd ha hn htk hm) I.nj J e (λz=>nomatch z) h
end
structure wM(k:Nat)(A:aK):Prop where
 hd:A.handled=O
 dp:A.depth+3 * k+5<recursionLimit
 un:A.units+16 * k+200<cLine
def wM.mono(r:wM k A)(h:j<=k):wM j A:=⟨r.hd,by have:=r.dp;omega,by have:=r.un;omega⟩
theorem wM.deeper(r:wM (k+1) A)(b1:Env):wM k (A.deeper b1):=
 ⟨r.hd,by have:=r.dp;show A.depth+1+3 * k+5<_;omega,by have:=r.un;show A.units+3+16 * k+200<_;omega⟩
def Nh{A:aK}:(A.under (.builtin "type.__call__" ⟨.ref C::b,a⟩)).depth=A.depth+1:=by
 first|rfl|simp[mn,Code.weight,Code.isCreation,Code.isGuard,Code.isCaller,qQ,mr,guardIds]
def Ni{A:aK}:(A.under (.builtin "type.__call__" ⟨.ref C::b,a⟩)).units=A.units+1:=by
 first|rfl|simp[mn,Code.cUnits,qQ,mr]
def wM.make(r:wM (k+1) A)(C:Addr)(b:List ab)(a:List (Str×ab)):wM k (A.under (.builtin "type.__call__" ⟨.ref C::b,a⟩)):=
 ⟨r.hd,by have:=r.dp;rw[Nh];omega,by have:=r.un;rw[Ni];omega⟩
theorem wM.depth(r:wM k A):A.depth<recursionLimit:=by have:=r.dp;omega
theorem wM.units(r:wM k A):A.units+64<cLine:=by have:=r.un;omega
def KA:TA:=λz H Q=>Q [] H
def Gb(d:TE)(e:TA):TA:=λa H Q=>d a H λx b=>e a b λf c=>Q (x::f) c
section
variable{X:Cx}{e:Expr}{es:List Expr}{te:TE}{t:TA}{pos:Pos}
def Ae:PA X [] KA:=λz z z z H Q I h=>fR ⟨[],H,I,.nil,h⟩
def xm(j:PE X e te)(l:PA X es t)(m:aF (e::es) X.b1=(δ,eval e X.b1)::aF es X.b1:=by rfl):PA X (e::es) (Gb te t):=by intro pos a s b H Q I h;rw[m];show ao _ _ (spliced ((δ,eval e X.b1)::bI pos (aF es X.b1))) _ _ s;refine eh (fu (j a s b H _ I h) λu w zz=>?_);obtain⟨x,c,f,q,o⟩:=zz;exact fu (l pos a w b c _ f o) λA z ⟨y,d,i,r,p⟩=>⟨x::y,d,i,.cons q r,p⟩
def tTup(t:TA):TE:=λc H Q=>t c H λb a=>b.length<=aI/\∀p,a p=O->Q (.ref p) (e0 a p (.cx b))
def tLst(t:TA):TE:=λc H Q=>t c H λb a=>b.length<=aI/\∀p,a p=O->Q (.ref p) (e0 a p (.b0 b))
def Rf{m}(h:PA X es t):PE X (.Tuple es m pos) (tTup t):=by intro a s w H Q I j;refine wpAny_Tuple_spliced (fu (h pos a s w H _ I j) λl c ⟨p,d,f,r,z,q⟩=>⟨by rw[<-r.length];exact z,?_⟩);have i:d c.heap.objs.size=O:=f.ff.fresh (aL _);refine⟨.ref c.heap.objs.size,e0 d c.heap.objs.size (.cx p),f.laid (t':=c.toks) (λb u e=>aN _ e) (aL _) ?_,U,q _ i⟩;exact⟨z,l,r,⟨_,bx _ U,U,_,U⟩,λo e=>by rw[bx _ U]at e;cases e;rfl⟩
def Rg(h:PA X es t):PE X (.List es pos) (tLst t):=by intro a s o H Q I j;refine wpAny_List_spliced (fu (h pos a s o H _ I j) λl c ⟨m,d,f,r,z,q⟩=>⟨by rw[<-r.length];exact z,?_⟩);have i:d c.heap.objs.size=O:=f.ff.fresh (aL _);refine⟨.ref c.heap.objs.size,e0 d c.heap.objs.size (.b0 m),f.laid (t':=c.toks) (λb u e=>aN _ e) (aL _) ?_,U,q _ i⟩;exact⟨z,l,0,r,bx _ U⟩
end
abbrev Sp:=bJ->Hp->VK->XK->Prop
abbrev CXT:=List Env->Hp->ae->XK->ab->ae->Prop
structure Nj(P:aJ)(w:aA)(K:au)(mg:Str->Option ab)(b':Heap)(A:aK)(d?:List Env)(s:ae)(H:Hp):Prop where
 frames:A.frames=Z d?
 y':Mod K mg b'
 bs:∀b o,b'.get? b=Z o->s.heap.get? b=Z o/\H b=O
 ζ:b'.objs.size<=s.heap.objs.size
 q0:s.heap.FunFrames b' d?
 frf:∀b∈ξ d?,H b=O
 ff:pk P w H s.heap
 ke:eO s.gens
def CE(d?:List Env)(P:aJ)(w:aA)(H:Hp)(s:ae)(Q:VK)(u:ab)(a:ae):Prop:=
 ∃v b,a.os=s.os/\eO a.gens/\Un (ξ d?) [] H b s.heap a.heap/\pk P w b a.heap/\eu v u/\Q v b
def CR(CX:CXT)(d?:List Env)(P:aJ)(w:aA)(H:Hp)(s:ae)(Q:VK)(E:XK)(r:gu)(a:ae):Prop:=
 match r with
 |.ok (.ret u)=>CE d? P w H s Q u a
 |.ok _=>False
 |.error e=>CX d? H s E e a
structure y4(P:aJ)(w:aA)(K:au)(mg:Str->Option ab)(b':Heap)(CX:CXT)(k:Nat)(f:Addr)(fd:cg)(ps:aB)(sp:Sp):Prop where
 len:∀vs H Q E,sp vs H Q E->vs.length=ps.length
 run:∀(A:aK) (d?:List Env) (s:ae) (H:Hp) (args:Args) (us:List ab) (vs:bJ) (Q:VK) (E:XK),wM k A->Nj P w K mg b' A d? s H->ie s fd args (ps.zip us)->en vs us->sp vs H Q E->
  cz (model P w) A (.call (.ref f) args) (CR CX d? P w H s Q E) s
theorem y4.imp{P:aJ}{w:aA}{K:au}{d:Str->Option ab}{b':Heap}{CX:CXT}{k:Nat}{f:Addr}{c:cg}{ps:aB}{e b:Sp}(F:y4 P w K d b' CX k f c ps e)
  (h:∀a H Q E,b a H Q E->e a H Q E):y4 P w K d b' CX k f c ps b:=
 ⟨λa H Q E q=>F.len a H Q E (h _ _ _ _ q),λA d? s H args p a Q E l j i o m=>F.run A d? s H args p a Q E l j i o (h _ _ _ _ m)⟩
def Nj.make{P:aJ}{w:aA}{K:au}{a:Str->Option ab}{b':Heap}{A:aK}{d?:List Env}{s:ae}{H:Hp}(e:Nj P w K a b' A d? s H)(C:Addr)(c:List ab)(b:List (Str×ab)):
  Nj P w K a b' (A.under (.builtin "type.__call__" ⟨.ref C::c,b⟩)) d? s H:=⟨by first|exact e.frames|(simpa [mn,Code.envs,mr,pushEnvs]using e.frames),e.y',e.bs,e.ζ,e.q0,e.frf,e.ff,e.ke⟩
section
variable{X:Cx}{pins:cJ}{σ:St}{H:Hp}{s s':ae}
def d3.env0(I:d3 X pins σ H s):Nj X.prog X.w X.K X.mg X.b' X.A X.stack s H:=
 ⟨I.ok.frames,I.ok.y',I.bs,bQ I.ok.ζ I.sz,I.stack,I.N?,I.ff,I.ke⟩
def d3.after(I:d3 X pins σ H s)(h:CE X.stack X.prog X.w H s Q u s'):EP X pins σ Q u s':=by obtain⟨v,c,os,ke,un,ff,r,q⟩:=h;obtain⟨e,g,d,t,a⟩:=s';obtain rfl:a=s.os:=os;exact⟨v,c,I.call (h':=e) (g':=g) (d':=d) (t':=t) (ch:=[]) un ff ke (λb z=>ar z (by simp)),r,q⟩
end
def Hy(b:Sp)(dvs:bJ)(E:XK)(t:TA):TE:=λd H Q=>t d H λc a=>b (c++dvs) a Q E
def Xp(C:Addr)(d:Sp)(dvs:bJ)(E:XK)(t:TA):TE:=λf H Q=>t f H λe b=>∀x a,b x=O->b a=O->a≠x->
 d (.ref x::(e++dvs)) (e0 (e0 b a (.iE x)) x (.mu C a [])) (λv c=>v=.E/\Q (.ref x) c) E
def k?(K:au)(d:cg)(c:aB)(b:List ab):Prop:=
 ∀(s:ae) (a:List ab),K.In s.heap->(a++b).length=c.length->ie s d ⟨a,[]⟩ (c.zip (a++b))
def k?.all{K:au}{c:cg}{b:aB}(h:∀a:List ab,a.length=b.length->bindArgs c ⟨a,[]⟩=pure (b.zip a)):k? K c b []:=λs a z d=>by rw[b9]at d ⊢;exact .of_eq (h a d)
def pa(CX:CXT)(X:Cx)(E:XK):Prop:=∀(a:cJ) (c:St) (H:Hp) (s:ae) (e:ab) (b:ae),d3 X a c H s->CX X.stack H s E e b->X.xe e b
section
variable{X:Cx}{CX:CXT}{k:Nat}{f C:Addr}{fd:cg}{ps:aB}{sp:Sp}{dvs:bJ}{ds:List ab}{E:XK}{x m:Str}{p pos apos:Pos}{e o:Expr}{es:List Expr}{ta:TE}{t:TA}
theorem KB(F:y4 X.prog X.w X.K X.mg X.b' CX k f fd ps sp)(l:wM k X.A)(i:k? X.K fd ps ds)(hd:en dvs ds)(q:pa CX X E)
  (I:d3 X a d H s) (r:en vs us) (h:sp (vs++dvs) H Q E):ao (model X.prog X.w) X.A (call (.ref f) us) (EP X a d Q) X.xe s:=by
 have c:en (vs++dvs) (us++ds):=r.append hd;have j:(us++ds).length=ps.length:=by rw[<-c.length];exact F.len _ _ _ _ h
 refine jS (hE (F.run X.A X.stack s H ⟨us,[]⟩ (us++ds) (vs++dvs) Q E l I.env0 (i s us I.nj j) c h) λr y b=>?_);cases r with
 |error e=>exact q a d H s e y I b
 |ok fl=>
  cases fl with
  |ret u=>exact I.after b
  |next=>exact cY b
  |brk=>exact cY b
  |cont=>exact cY b
def Ot(F:y4 X.prog X.w X.K X.mg X.b' CX k f fd ps sp)(B:wM k X.A)(u:Gl X x)(z:X.mg x=Z (.ref f))(y:dY X.K (.ref f)=γ)(j:k? X.K fd ps ds)(hd:en dvs ds)(G:pa CX X E)
  (i:PA X (e::es) t) (b:(x==("__debug__" : Str))=δ:=by decide) (l:aF (e::es) X.b1=(δ,eval e X.b1)::aF es X.b1:=by rfl) (hpl:(bI pos (aF es X.b1)).any (·.1)=δ:=by rfl):
  PE X (.Call (.Name x p) (e::es) [] pos) (Hy sp dvs E t):=by
 intro a s J H Q I h;refine dF (Er I u z ?_ b);refine mx (h₀:=X.b') I.ok.y'.kin y (fu (i pos a s J H _ I h) λP N ⟨R,M,c,r,q⟩=>⟨c.nj,?_⟩) l hpl;exact KB F B j hd G c r q
def Rh(F:y4 X.prog X.w X.K X.mg X.b' CX k f fd ps sp)(l:wM k X.A)(d:Gl X x)(j:X.mg x=Z (.ref f))(i:dY X.K (.ref f)=γ)(c:k? X.K fd ps ds)(hd:en dvs ds)(q:pa CX X E)
  (a:(x==("__debug__" : Str))=δ:=by decide):PE X (.Call (.Name x p) [] [] pos) (Hy sp dvs E KA):=by
 intro b s u H Q I h;refine dF (Er I d j ?_ a);exact l4 I.nj i (KB (us:=[]) F l c hd q I .nil h)
structure Mk(K:au)(C f:Addr):Prop where
 Pr:mN K C=γ
 init:cP K (.ref C) "__init__" = Z (Z (.ref f))
 fn:j4 K (.ref f)=γ
 kp:dY K (.ref C)=γ
theorem Rj(M:Mk X.K C f)(F:y4 X.prog X.w X.K X.mg X.b' CX k f fd ps sp)(R:wM (k+1) X.A)(N:k? X.K fd ps ds)(hd:en dvs ds)
  (S:pa CX X E) (I:d3 X b y H s) (r:en q c)
  (h:∀x i,H x=O->H i=O->i≠x->sp (.ref x::(q++dvs)) (e0 (e0 H i (.iE x)) x (.mu C i [])) (λv B=>v=.E/\Q (.ref x) B) E):
  ao (model X.prog X.w) X.A (call (.ref C) c) (EP X b y Q) X.xe s:=by
 have j:=h (s.heap.objs.size+1) s.heap.objs.size (I.ff.fresh (gj _)) (I.ff.fresh (aL _)) (bc (di _));have d:=d3.made (C:=C) I;have l:en (V.ref (s.heap.objs.size+1)::(q++dvs)) (Value.ref (s.heap.objs.size+1)::(c++ds)):=.cons U (r.append hd);have P:(Value.ref (s.heap.objs.size+1)::c++ds).length=ps.length:=by have e:=l.length;rw[F.len _ _ _ _ j]at e;exact e.symm
 refine jS (Re (f:=f) I.nj M.Pr M.init (beq_iff_eq.mp M.fn) (hE (F.run _ X.stack _ _ ⟨Value.ref (s.heap.objs.size+1)::c,[]⟩ (Value.ref (s.heap.objs.size+1)::(c++ds)) _ _ E (R.make C c [])
  (d.env0.make C c []) (N _ (Value.ref (s.heap.objs.size+1)::c) d.nj P) l j) λr Y a=>?_))
 cases r with
 |error e=>exact S b y _ _ e Y d a
 |ok fl=>
  cases fl with
  |ret u=>obtain⟨v,z,G,W,J,T⟩:=d.after a;subst J;exact⟨W,⟨V.ref (s.heap.objs.size+1),z,G,U,T⟩⟩
  |next=>exact cY a
  |brk=>exact cY a
  |cont=>exact cY a
def Va(M:Mk X.K C f)(F:y4 X.prog X.w X.K X.mg X.b' CX k f fd ps sp)(z:wM (k+1) X.A)(u:Gl X x)(y:X.mg x=Z (.ref C))(j:k? X.K fd ps ds)(hd:en dvs ds)(B:pa CX X E)
  (i:PA X (e::es) t) (b:(x==("__debug__" : Str))=δ:=by decide) (l:aF (e::es) X.b1=(δ,eval e X.b1)::aF es X.b1:=by rfl) (hpl:(bI pos (aF es X.b1)).any (·.1)=δ:=by rfl):
  PE X (.Call (.Name x p) (e::es) [] pos) (Xp C sp dvs E t):=by
 intro a s G H Q I h;refine dF (Er I u y ?_ b);refine mx (h₀:=X.b') I.ok.y'.kin M.kp (fu (i pos a s G H _ I h) λP N ⟨R,J,c,r,q⟩=>⟨c.nj,?_⟩) l hpl;exact Rj M F z j hd B c r q
end
structure xn(N P:aB)(sc:cM):Prop where
 kind:sc.kind=.function
 co:sc.isCoroutine=δ
 pw:sc.isGenerator=δ
 nd:N.Nodup
 pre:N.take P.length=P
 par:∀x∈P,sc.names.lookup x=Z .local\/sc.names.lookup x=Z .cell
 nofree:∀y∈sc.names,y.2≠.free
theorem JA{kindOf:Str->Option dZ}{x:Str}:∀{p?:List (Str×ab)} {m:Str->Option ab},(∀v,(x,v)∉p?)->bindL kindOf p? m x=m x
 |[],_,_=>rfl
 |(n,v)::r,m,h=>by
  unfold bindL;rw[JA λw a=>h w (ba _ a)];split
  .have:x≠n:=by rintro rfl;exact h v aY
   simp[this]
  .rfl
theorem JB{kindOf:Str->Option dZ}{x:Str}:∀{p?:List (Str×ab)} {m:Str->Option ab},(∀v,(x,v)∉p?)->bindC kindOf p? m x=m x
 |[],_,_=>rfl
 |(n,v)::r,m,h=>by
  unfold bindC;rw[JB λw a=>h w (ba _ a)];split
  .rfl
  .have:x≠n:=by rintro rfl;exact h v aY
   simp[this]
theorem JC{kindOf:Str->Option dZ}{x:Str}{v:ab}:∀{P:aB} {a:List ab} {i:Nat} {m:Str->Option ab},P.Nodup->P[i]?=Z x->a[i]?=Z v->kindOf x=Z .local->
  bindL kindOf (P.zip a) m x=Z v
 |[],_,_,_,_,h,_,_=>by simp at h
 |_::_,[],_,_,_,_,h,_=>by simp at h
 |p::P,w::a,0,m,e,b,c,d=>by simp at b c;subst b;subst c;show bindL kindOf ((p,w)::P.zip a) m p=_;unfold bindL;rw[JA λv f=>(dj.1 e).1 (jI f).1,ah d];simp
 |p::P,w::a,i+1,m,e,b,c,d=>by show bindL kindOf ((p,w)::P.zip a) m x=_;unfold bindL;exact JC (i:=i) (dj.1 e).2 (by simpa using b) (by simpa using c) d
theorem JD{kindOf:Str->Option dZ}{x:Str}{v:ab}:∀{P:aB} {a:List ab} {i:Nat} {m:Str->Option ab},P.Nodup->P[i]?=Z x->a[i]?=Z v->kindOf x≠Z .local->
  bindC kindOf (P.zip a) m x=Z v
 |[],_,_,_,_,h,_,_=>by simp at h
 |_::_,[],_,_,_,_,h,_=>by simp at h
 |p::P,w::a,0,m,e,b,c,d=>by simp at b c;subst b;subst c;show bindC kindOf ((p,w)::P.zip a) m p=_;unfold bindC;rw[JB λv f=>(dj.1 e).1 (jI f).1,aj d];simp
 |p::P,w::a,i+1,m,e,b,c,d=>by show bindC kindOf ((p,w)::P.zip a) m x=_;unfold bindC;exact JD (i:=i) (dj.1 e).2 (by simpa using b) (by simpa using c) d
def start(N:aB)(a:bJ):St:=a.map Z++eF (N.length - a.length) O
def LD(CX:CXT)(P:aJ)(w:aA)(K:au)(mg:Str->Option ab)(b':Heap)(N:aB)(qual:Str)(scope:cM)(f:Addr)(cd:ab)(A:aK)(d?:List Env)(s:ae)(H:Hp)(E:XK):Cx where
 prog:=P
 w:=w
 K:=K
 mg:=mg
 b':=b'
 A:=A.deeper (envOfC qual scope s.heap.objs.size f cd)
 N:=N
 s₀:=s
 H₀:=H
 b1:=envOfC qual scope s.heap.objs.size f cd
 d?:=d?
 stack:=envOfC qual scope s.heap.objs.size f cd::d?
 ex:=[]
 nr:=γ
 fn:=λz=>γ
 pn:=[]
 xe:=λe c=>ao (model P w) (A.deeper (envOfC qual scope s.heap.objs.size f cd)) (leaving (envOfC qual scope s.heap.objs.size f cd) e) (λz a=>CX d? H s E e a) (λb a=>CX d? H s E b a) c
def LF{a:cM}(h:a.names.lookup x=Z .cell):∃c,(cellsFrom n a.names []).lookup x=Z c:=by have q:=pB a.names n [] (.inl h);exact kA.1 q
def PX{CX:CXT}{P:aJ}{w:aA}{K:au}{F:Str->Option ab}{b':Heap}{N m:aB}{qual:Str}{scope:cM}{f:Addr}{cd:ab}{A:aK}{d?:List Env}{s M:ae}{H:Hp}{E:XK}{G:List ab}{o:bJ}
  (S:xn N m scope) (hd:A.handled=O) (j:Nj P w K F b' A d? s H) (W:o.length=m.length) (r:en o G)
  (x:InCallC s s.heap.objs.size (bindL (envOfC qual scope s.heap.objs.size f cd).kindOf (m.zip G) λ_=>O) (cellsFrom (s.heap.objs.size+1) scope.names []) (bindC (envOfC qual scope s.heap.objs.size f cd).kindOf (m.zip G) λ_=>O) M):
  d3 (LD CX P w K F b' N qual scope f cd A d? s H E) [] (start N o) H M:=by
 have hpl:m.length<=N.length:=by have:=bL cX S.pre;rw[cm]at this;omega
 obtain⟨B,X,rfl,I⟩:=x.done;have noA:∀b:Addr,b∉(LD CX P w K F b' N qual scope f cd A d? s H E).ex:=λb z=>ar (show b∈([]:List Addr) from z) (by simp);refine⟨⟨j.y',S.kind,U,U,aL _,λy z c B d=>?_,λy l=>?_,λy c _ h=>?_,λ_=>hd,Around.frames_deeper j.frames,.inr ⟨U,U⟩,λb z=>ar z (noA b),j.bs,j.ζ,λb _ _=>noA b,λb z=>ar z (noA b),j.q0,j.frf⟩,
  rfl,j.ke,Un.gw I,⟨_,x.toInCall.ns,λi y v B d T=>?_⟩,λy c h=>⟨_,x.cell y c h⟩,j.ff.fresh (aL _),λy c h=>?_,λp t=>ar (show p∈([]:cJ) from t) (by simp),j.ff.gw I,?_⟩
 .exact name_of_addr x.apart (iA B) (iA d)
 .have l:scope.names.lookup y=Z .cell\/scope.names.lookup y=Z .free:=l;rcases l with l|l
  .exact LF l
  .exact ar U (S.nofree _ (iA l))
 .exact gb (x.above y c (iA h))
 .have C:i<o.length:=by
   unfold start at d;by_cases C:i<o.length
   .exact C
   .rw[fL (by simpa using C)]at d;rw[jl]at d;split at d<;>cases d
  have Q:o[i]?=Z v:=by
   unfold start at d;rw[fM (by simpa using C),bu]at d;cases e:o[i]? with
   |none=>rw[e]at d;cases d
   |some a=>rw[e]at d;cases d;rfl
  obtain⟨u,J,R⟩:=r.get Q;have t:m[i]?=Z y:=by rw[<-S.pre,List.getElem?_take_of_lt (by omega)];exact B
  have ndP:m.Nodup:=by rw[<-S.pre];exact S.nd.sublist (jx _ _)
  refine⟨u,R,?_⟩;rcases S.par y (cv t)with k|k
  .exact .inl ⟨k,JC ndP t J k⟩
  .obtain⟨c,e⟩:=LF (n:=s.heap.objs.size+1) k;refine .inr ⟨.inl k,c,e,?_⟩;have q:=x.cell y c e;rw[JD ndP t J (by show scope.names.lookup y≠_;rw[k];decide)]at q;exact q
 .exact j.ff.fresh (gb (x.above y c (iA h)))
 .unfold start;show _=N.length;rw[aC,af,cU];omega
def Xq{CX:CXT}{P:aJ}{w:aA}{K:au}{j:Str->Option ab}{b':Heap}{k:Nat}{f:Addr}{name qual:Str}{params:Arguments}{body:List Stmt}{scope:cM}{dV kV doc pm cdv F oc:ab}{C od:Option Addr}
  {osl:Array (Option ab)} {N l:aB} {B:Sp} (lk:K.lookup f=Z ⟨oc,od,.func (eX name qual params body scope dV kV doc pm C cdv F),osl⟩) (hcd:ib K cdv qual=γ) (S:xn N l scope)
  (len:∀a H Q E,B a H Q E->a.length=l.length)
  (hbody:∀(A:aK) (d?:List Env) (s:ae) (H:Hp) (a:bJ) (Q:VK) (E:XK),wM k (A.deeper (envOfC qual scope s.heap.objs.size f cdv))->B a H Q E->
   ∃t,n? (LD CX P w K j b' N qual scope f cdv A d? s H E) body t/\t { nx:=λ_ d=>Q .E d,rt:=Q } (start N a) H):
  y4 P w K j b' CX (k+1) f (eX name qual params body scope dV kV doc pm C cdv F) l B:=by
 refine⟨len,λA d? s H args us a Q E m i M r hsp=>?_⟩;have T:=len _ _ _ _ hsp;have KX:K.In s.heap:=i.y'.kin.keeps λb o e=>(i.bs b o e).1;have lim:s.heap.NoLimit:=i.y'.nolimit.keeps λb o e=>(i.bs b o e).1;have hkind:∀y∈l.zip us,scope.names.lookup y.1=Z .local\/(scope.names.lookup y.1=Z .cell/\((cellsFrom (s.heap.objs.size+1) scope.names []).lookup y.1).isSome=γ):=λ⟨n,v⟩ hy=>by
  rcases S.par n (jI hy).1 with q|q
  .exact .inl q
  .exact .inr ⟨q,pB _ _ _ (.inl q)⟩
 refine codeAny_call_function m.depth (KX _ _ lk) U S.co S.pw U (W.codeRec_of KX hcd) (M _ _ _ _ ?_);refine wpAny_newFunctionEnv_cells S.kind hkind λb1 R G x=>?_;subst R;refine⟨lim.keeps x.toInCall.keep,codeAny_func ?_⟩;obtain⟨t,Y,X⟩:=hbody A d? s H a Q E (m.deeper _) hsp;have I:d3 (LD CX P w K j b' N qual scope f cdv A d? s H E) [] (start N a) H G:=PX S m.hd i T r x;refine cn (Y [] G (start N a) H _ I X) (λfl z h=>?_) λe z h=>h;have fin:∀{c:St} {d:Hp} {v:V} {u:ab},d3 (LD CX P w K j b' N qual scope f cdv A d? s H E) [] c d z->eu v u->Q v d->CE d? P w H s Q u z:=
  λ{c d v u} J p q=>⟨v,d,J.os,J.ke,J.b',J.ff,p,q⟩
 cases fl with
 |ret u=>obtain⟨v,c,d,J,p,q⟩:=h;exact fin J p q
 |next=>obtain⟨c,d,J,q⟩:=h;exact fin (v:=V.E) (u:=Value.none) J U q
 |brk=>obtain⟨_,_,_,q⟩:=h;exact cY q
 |cont=>obtain⟨_,_,_,q⟩:=h;exact cY q
section
variable{X:Cx}{x:Str}{p pos:Pos}{e:Expr}{es:List Expr}{t:TA}{id T:String}{r:bJ->Hp->VK->Prop}
def ZX(r:bJ->Hp->VK->Prop)(t:TA):TE:=λc H Q=>t c H λb a=>r b a Q
def Eu(j:v5 X (.builtin id) r)(m:Gl X x)(o:X.mg x=O)(u:dR x=Z (.builtin id))(i:PA X (e::es) t)(q:x≠"__name__" := by decide)(b:(x==("__debug__" : Str))=δ:=by decide)
  (l:aF (e::es) X.b1=(δ,eval e X.b1)::aF es X.b1:=by rfl) (hpl:(bI pos (aF es X.b1)).any (·.1)=δ:=by rfl):PE X (.Call (.Name x p) (e::es) [] pos) (ZX r t):=by
 intro a s c H Q I h;refine dF (Cc I m o u ?_ q b);exact callWith_builtin1 (fu (i pos a s c H _ I h) λA z ⟨B,d,f,y,w⟩=>j a z c d B A Q f y w) l hpl
def PY(j:v5 X (.type T) r)(m:Gl X x)(o:X.mg x=O)(u:dR x=Z (.type T))(i:PA X (e::es) t)(q:x≠"__name__" := by decide)(b:(x==("__debug__" : Str))=δ:=by decide)
  (l:aF (e::es) X.b1=(δ,eval e X.b1)::aF es X.b1:=by rfl) (hpl:(bI pos (aF es X.b1)).any (·.1)=δ:=by rfl):PE X (.Call (.Name x p) (e::es) [] pos) (ZX r t):=by
 intro a s c H Q I h;refine dF (Cc I m o u ?_ q b);exact callWith_type1 (fu (i pos a s c H _ I h) λA z ⟨B,d,f,y,w⟩=>j a z c d B A Q f y w) l hpl
end
end L2
namespace HT
open PySem PyProof.Rows
section
variable{prog:aJ}{w:aA}{A:aK}{E:ab->ae->Prop}{s:ae}
def Vc{vs ws:List ab}(x:fH s.heap t vs.toArray)(u:fH s.heap b ws.toArray)(o:vs≠[])
  (q:ws=[]->Q (.ref t) s) (r:ws≠[]->Q (.ref s.heap.objs.size) { s with heap:=s.heap.push { cls:=.type "tuple", data:=.seq (vs++ws).toArray } })
  (j:vs.length+ws.length<=aI):ao (model prog w) A (cG .Add (.ref t) (.ref b)) Q E s:=by
 obtain⟨⟨cls,l,data,sl⟩,i,m,n,hd⟩:=id x;obtain⟨⟨cls2,c,data2,h⟩,a,d,p,f⟩:=id u;simp only at m hd d f;subst m hd d f;have e:vs.toArray++ws.toArray=(vs++ws).toArray:=by simp
 by_cases hw:ws=[]
 .exact concat_meets ⟨_,i,U⟩ ⟨_,a,U⟩ pC qr pE o4 (oI _ _)
   (tuple_addW1 t b vs.toArray ws.toArray n p l c sl h (by simpa using o) (by simp[hw])) ⟨i,a,q hw⟩
 .refine concat_meets ⟨_,i,U⟩ ⟨_,a,U⟩ pC qr pE o4 (oI _ _)
   (tuple_addW2 t b vs.toArray ws.toArray n p l c sl h (by simpa using o) (by simpa using hw) (by rw[bj,bj];exact j)) ⟨i,a,?_⟩
  rw[e];exact r hw
def fy(n d:Nat):Option Int->Nat
 |none=>d
 |some v=>if v<0 then (v+(n:Int)).toNat else min v.toNat n
def LG(n d:Nat):fy n d O=d:=rfl
def He(n d k:Nat):fy n d (Z (k:Int))=min k n:=by show (if (k:Int)<0 then ((k:Int)+(n:Int)).toNat else min (k:Int).toNat n)=min k n;rw[aj (by omega),fS]
def YN(n d:Nat)(hd:d<=n)(o:Option Int):fy n d o<=n:=by
 cases o with
 |none=>exact hd
 |some v=>
  show (if v<0 then (v+(n:Int)).toNat else min v.toNat n)<=n;by_cases a:v<0
  .rw[ah a];omega
  .rw[aj a];exact Nat.min_le_right _ _
def Ou(v:Int)(n d:Nat):(if v<0 then max (v+(n:Int)) 0 else min v (n:Int))=((fy n d (Z v):Nat):Int):=by
 show (if v<0 then max (v+(n:Int)) 0 else min v (n:Int))=(((if v<0 then (v+(n:Int)).toNat else min v.toNat n):Nat):Int);by_cases a:v<0
 .simp only[ah a];omega
 .simp only[aj a];omega
def Nk(lo a:Option Int)(n:Nat):kx lo a 1 (n:Int)=(((fy n 0 lo:Nat):Int),((fy n n a:Nat):Int)):=by
 have b:¬((1:Int)<0):=by omega
 unfold kx;simp only[b,if_false];refine Prod.ext ?_ ?_
 .cases lo with
  |none=>rfl
  |some v=>exact Ou v n 0
 .cases a with
  |none=>rfl
  |some v=>exact Ou v n n
def Nl(i j:Nat):jf (i:Int) (j:Int) 1=j - i:=by
 unfold jf;have a:(1:Int) > 0:=by omega
 simp only[a,if_true,Int.ediv_one];split<;>omega
def HA(p:d5 v o)(h:Q o s):ao (model prog w) A (rW v) Q E s:=by
 cases p with
 |none=>exact qc h
 |int i t=>exact slicePart_int h
def AB{d:Addr}{b c:ab}{lo a:Option Int}{n:Nat}{Q:Int×Int×Nat->ae->Prop}(e:s.heap.IsSliceOf d b c .none)(pl:d5 b lo)(f:d5 c a)
  (h:Q (((fy n 0 lo:Nat):Int),1,fy n n a - fy n 0 lo) s):ao (model prog w) A (nv (.ref d) (pure (n:Int))) Q E s:=by
 obtain⟨os,hos,hcs,hds⟩:=id e;unfold nv sC;refine ag (ag (mF hos hds (x:=b) U (ag (mF hos hds (x:=c) U (ag (mF hos hds (x:=.none) U (aq ?_)))))));refine ag (qc ?_);show ao _ _ (if ((1:Int)==0)=γ then _ else _) _ _ s;rw[aj (by decide)];refine ag (HA pl (ag (HA f (ag (aq ?_)))));show ao _ _ (match kx lo a 1 (n:Int)with|(lo,a)=>pure (lo,(1:Int),jf lo a 1)) _ _ s;rw[Nk lo a n];show ao _ _ (pure (((fy n 0 lo:Nat):Int),(1:Int),jf ((fy n 0 lo:Nat):Int) ((fy n n a:Nat):Int) 1)) _ _ s;rw[Nl];exact aq h
def Rm(a:Array ab)(i k:Nat):((az k).filterMap λ(m:Nat)=>a[((i:Int)+(m:Int) * 1).toNat]?).toArray=((a.toList.drop i).take k).toArray:=by
 have e:(λ(m:Nat)=>a[((i:Int)+(m:Int) * 1).toNat]?)=λm=>a[i+m]?:=by
  funext m
  have:((i:Int)+(m:Int) * 1).toNat=i+m:=by omega
  rw[this]
 rw[e];have:=pick_run a i k;rw[List.filterMap_map]at this;have b:((λx=>a[x]?)∘λx=>i+x)=λm=>a[i+m]?:=rfl;rw[b]at this;rw[this]
def Ew{t sl:Addr}{items:Array ab}{b c:ab}{lo hi:Option Int}{Q:ab->ae->Prop}(a:fH s.heap t items)(hs:s.heap.IsSliceOf sl b c .none)(pl:d5 b lo)(pu:d5 c hi)
  (hw:¬(fy items.size 0 lo=0/\fy items.size items.size hi=items.size))
  (h:Q (.ref s.heap.objs.size) { s with heap:=s.heap.push { cls:=.type "tuple", data:=.seq ((items.toList.drop (fy items.size 0 lo)).take (fy items.size items.size hi - fy items.size 0 lo)).toArray } })
  (d:items.size<=aI):ao (model prog w) A (getItem (.ref t) (.ref sl)) Q E s:=by
 have htake:sizeOk (.seq ((items.toList.drop (fy items.size 0 lo)).take (fy items.size items.size hi - fy items.size 0 lo)).toArray):=by show ((items.toList.drop (fy items.size 0 lo)).take (fy items.size items.size hi - fy items.size 0 lo)).toArray.size<=aI;rw[bj,cm,dH,bX];omega
 have e:fy items.size items.size hi<=items.size:=YN _ _ (aL _) hi;obtain⟨os,hos,hcs,hds⟩:=id hs;have hTs:s.TypeIs (.ref sl) "slice" := ⟨os,hos,hcs⟩;unfold getItem
 try with_reducible refine cF ?_
 first|refine ag (aq ?_)|skip
 refine ag (o5 a.typeIs (by decide) ?_);refine ag (kC (name:=jN "__getitem__") a.typeIs fK
  (fo fK a.typeIs og ?_ (oJ _ _)))
 show ao _ _ (ny (.ref t)>>=_) _ _ s;refine ag (qt a ?_);refine ag (hG hTs ?_);rw[ah (by decide)];refine ag (AB hs pl pu ?_);have hno:¬((((fy items.size 0 lo:Nat):Int)==0&&(1:Int)==1&&(fy items.size items.size hi - fy items.size 0 lo)==items.size)=γ):=by intro q;rw[aQ,aQ]at q;have f:((fy items.size 0 lo:Nat):Int)=0:=fG q.1.1;have i:fy items.size items.size hi - fy items.size 0 lo=items.size:=fG q.2;exact hw ⟨by omega,by omega⟩
 show ao _ _ (if (((fy items.size 0 lo:Nat):Int)==0&&(1:Int)==1&&(fy items.size items.size hi - fy items.size 0 lo)==items.size)=γ then _ else _) _ _ s;rw[aj hno,Rm]
 first
  |exact ag (m:=ji _) (dG (aq ⟨_,U,aq h⟩) htake)
  |exact ag (m:=ji _) (dG (ag (aq (aq ⟨_,U,aq h⟩))) htake)
  |exact ag (ag (m:=ji _) (dG (aq (aq ⟨_,U,aq h⟩)) htake))
  |exact ag (ag (m:=ji _) (dG (aq ⟨_,U,aq h⟩) htake))
end
end HT
namespace L2
open PySem PySem.Spec PyProof.Rows
abbrev TO:=St->Hp->(Option Int->Hp->Prop)->Prop
def PO(X:Cx)(e:Option Expr)(t:TO):Prop:=
 ∀(a:cJ) (s:ae) (b:St) (H:Hp) (Q:Option Int->Hp->Prop),d3 X a b H s->t b H Q->
  ao (model X.prog X.w) X.A (evalPart e X.b1) (λu d=>∃o c,d3 X a b c d/\d5 u o/\Q o c) X.xe s
def Vd:TO:=λz H Q=>Q O H
def acB(t:TE):TO:=λb H Q=>t b H λx a=>∃i,x=.int i/\Q (Z i) a
section
variable{X:Cx}{e:Expr}{te:TE}{lo hi:Option Expr}{tl th:TO}{pos p2:Pos}
def Ov:PO X O Vd:=by intro a s b H Q I h;rw[qu];exact aq ⟨O,H,I,.none,h⟩
def Ow(h:PE X e te):PO X (Z e) (acB te):=by intro a s l H Q I d;rw[evalPart_some];refine fu (h a s l H _ I d) λu m zz=>?_;obtain⟨x,b,c,j,f⟩:=zz;obtain⟨i,rfl,q⟩:=f;obtain⟨t,rfl⟩:=j;exact⟨Z i,b,c,.int i t,q⟩
def SlR(X:Cx)(r:V->Option Int->Option Int->Hp->VK->Prop):Prop:=
 ∀(a:cJ) (s:ae) (f:St) (H:Hp) (x:V) (v c d:ab) (lo hi:Option Int) (b:Addr) (Q:VK),d3 X a f H s->eu x v->s.heap.IsSliceOf b c d .none->d5 c lo->d5 d hi->r x lo hi H Q->
  ∃T id,typeLookup (.type T) "__getitem__" = pure (Z (.builtin id))/\s.TypeIs v T/\ao (model X.prog X.w) X.A (getItem v (.ref b)) (EP X a f Q) X.xe s
def tSl(r:V->Option Int->Option Int->Hp->VK->Prop)(te:TE)(tl th:TO):TE:=λa H Q=>te a H λx b=>tl a b λl c=>th a c λu d=>r x l u d Q
def Ex(hr:SlR X r)(p:PE X e te)(t:PO X lo tl)(z:PO X hi th):PE X (.Subscript e (.Slice lo hi O p2) pos) (tSl r te tl th):=by intro pins s σ H Q I h;refine mJ (fu (p pins s σ H _ I h) λv F zz=>?_);obtain⟨x,H1,i,r1,B⟩:=zz;refine wpAny_Slice (fu (t pins F σ H1 _ i B) λc s2 ⟨l,H2,j,pl,C⟩=>fu (z pins s2 σ H2 _ j C) λd a zz=>?_);obtain⟨u,f,m,pu,E⟩:=zz;rw[qu];refine aq ?_;have o:d3 X pins σ f { a with heap:=a.heap.push { cls:=.type "slice", data:=.fields #[c,d,.none] } }:=m.gw (t':=a.toks) λb ob q=>aN _ q;obtain⟨T,id,hT,y,hg⟩:=hr pins { a with heap:=a.heap.push { cls:=.type "slice", data:=.fields #[c,d,.none] } } σ f x v c d l u a.heap.objs.size Q o r1 (uc ..) pl pu E;show ao (model X.prog X.w) X.A (subscriptTail e (.Slice lo hi O p2) v (.ref a.heap.objs.size)) (EP X pins σ Q) X.xe { a with heap:=a.heap.push { cls:=.type "slice", data:=.fields #[c,d,.none] } };exact tail_any (ops:=[.ref a.heap.objs.size,v]) y hT hg (by with_unfolding_all rfl)
def KC(a:bJ)(lo hi:Option Int):bJ:=(a.drop (HT.fy a.length 0 lo)).take (HT.fy a.length a.length hi - HT.fy a.length 0 lo)
def Gc(a:bJ)(lo hi:Option Int):(KC a lo hi).length<=a.length:=by unfold KC;rw[cm,dH];omega
def YO(K:au):V->Option Int->Option Int->Hp->VK->Prop:=λx lo hi H Q=>∃a b,x=.ref a/\f3 K H a b/\
 ¬(HT.fy b.length 0 lo=0/\HT.fy b.length b.length hi=b.length)/\∀p,H p=O->Q (.ref p) (e0 H p (.cx (KC b lo hi)))
def Ro:SlR X (YO X.K):=by
 intro l s E H x v B C lo hi z Q I w m pl u h;obtain⟨a,d,rfl,t,p,q⟩:=h;cases w;obtain⟨f,r,i,j⟩:=I.tuple t;have c:f.toArray.size=d.length:=by rw[bj];exact r.length.symm
 refine⟨"tuple", _,fK.lookup,i.typeIs,?_⟩;refine HT.Ew i m pl u (by rw[c];exact p) ?_ (by rw[c];exact j);rw[c];refine⟨.ref s.heap.objs.size,_,I.laid (t':=s.toks) (o:=.cx (KC d lo hi)) (λb y q=>aN _ q) (aL _) ?_,U,q _ (I.ff.fresh (aL _))⟩;exact⟨bQ (Gc d lo hi) j,_,(r.drop (HT.fy d.length 0 lo)).take (HT.fy d.length d.length hi - HT.fy d.length 0 lo),mO _ _,λo e=>by rw[bx _ U]at e;cases e;rfl⟩
def acC(K:au):R2:=λx y H Q=>∃a b d c,x=.ref a/\y=.ref b/\f3 K H a d/\f3 K H b c/\d≠[]/\d.length+c.length<=aI/\
 (c=[]->Q (.ref a) H)/\(c≠[]->∀p,H p=O->Q (.ref p) (e0 H p (.cx (d++c))))
def en.A?(r:en b a):a=[] ↔ b=[]:=by
 cases r with
 |nil=>simp
 |cons _ _=>simp
def Ve:i0 X (cG .Add) (acC X.K):=by intro j s N H x y v u Q I C E h;obtain⟨a,b,F,G,rfl,rfl,l,m,p,f,A,B⟩:=h;cases C;cases E;obtain⟨r,d,t,_⟩:=I.tuple l;obtain⟨i,c,p2,_⟩:=I.tuple m;refine HT.Vc t p2 (λz=>p (d.A?.1 z)) (λz=>⟨.ref a,H,I,U,A (c.A?.1 z)⟩) (λz=>?_) (by rw[<-d.length,<- c.length];exact f);refine⟨.ref s.heap.objs.size,_,I.laid (t':=s.toks) (o:=.cx (F++G)) (λb J q=>aN _ q) (aL _) ?_,U,B (λw=>z (c.A?.2 w)) _ (I.ff.fresh (aL _))⟩;exact⟨by rw[aC];exact f,_,d.append c,mO _ _,λo e=>by rw[bx _ U]at e;cases e;rfl⟩
end
def ixN(n:Nat)(i:Int):Option Nat:=if 0<=i then (if i<n then Z i.toNat else O)else if -(n:Int)<=i then Z (i+n).toNat else O
def C?{b:Type}(a:List b)(i:Int):Option b:=(ixN a.length i).bind λj=>a[j]?
def Vf(h:ixN n i=Z j):seqIndex? i n=Z j/\j<n/\-(n:Int)<=i/\i<n:=by
 unfold ixN at h;by_cases b:0<=i
 .rw[ah b]at h;by_cases a:i<n
  .rw[ah a]at h;have e:i.toNat=j:=cc h;exact⟨by rw[seqIndex_of b a,e],by omega,by omega,a⟩
  .rw[aj a]at h;cases h
 .rw[aj b]at h;by_cases a:-(n:Int)<=i
  .rw[ah a]at h;have e:(i+n).toNat=j:=cc h;exact⟨by rw[seqIndex_neg (by omega) a,e],by omega,a,by omega⟩
  .rw[aj a]at h;cases h
def KD{b:Type}{a:List b}{i:Int}{v:b}(h:C? a i=Z v):∃j,seqIndex? i a.length=Z j/\a[j]?=Z v/\j<a.length/\-(a.length:Int)<=i/\i<a.length:=by
 unfold C? at h;cases e:ixN a.length i with
 |none=>rw[e]at h;cases h
 |some j=>rw[e]at h;obtain⟨c,d,f,l⟩:=Vf e;exact⟨j,c,h,d,f,l⟩
def xS{a:Type}{xs:List a}{j:Nat}{v:a}(h:xs[j]?=Z v):C? xs (j:Int)=Z v:=by
 have b:j<xs.length:=(ck.1 h).1;have e:ixN xs.length (j:Int)=Z j:=by unfold ixN;rw[ah (by omega),ah (by omega)];simp
 unfold C?;rw[e];exact h
def Ox(b:Expr):Prop:=∀o i,subscripted b δ o i=operate [o,i] (getItem o i)
def π(X:Cx)(r:R2):Prop:=
 ∀(value slice:Expr) (a:cJ) (s:ae) (b:St) (H:Hp) (x y:V) (v u:ab) (Q:VK),d3 X a b H s->eu x v->eu y u->r x y H Q->
  subscripted slice δ v u=operate [v,u] (getItem v u)->ao (model X.prog X.w) X.A (subscriptTail value slice v u) (EP X a b Q) X.xe s
def MtR(X:Cx)(id:String)(r:V->bJ->Hp->VK->Prop):Prop:=
 ∀(a:cJ) (s:ae) (d:St) (H:Hp) (x:V) (c:bJ) (v:ab) (b:List ab) (Q:VK),d3 X a d H s->eu x v->en c b->r x c H Q->
  ao (model X.prog X.w) X.A (call (.builtin id) (v::b)) (EP X a d Q) X.xe s
section
variable{X:Cx}{a b:Expr}{ta tb:TE}{pos:Pos}
def π.or(h:π X r)(j:π X l):π X (λx y H Q=>r x y H Q\/l x y H Q):=by
 intro value slice c s i H x y v u Q I e f q d;rcases q with q|q
 .exact h value slice c s i H x y v u Q I e f q d
 .exact j value slice c s i H x y v u Q I e f q d
def acD(j:π X r)(f:PE X a ta)(i:PE X b tb)(l:Ox b):PE X (.Subscript a b pos) (tOp r ta tb):=by intro c s t H Q I h;exact mJ (YA f i I h λv u p x y d e m o q=>j a b c p t d x y v u Q e m o q (l _ _))
def rIxL(K:au):R2:=λx y H Q=>∃p c i v,x=.ref p/\y=.int i/\fx K H p c/\C? c i=Z v/\Q v H
def rIxT(K:au):R2:=λx y H Q=>∃p c i v,x=.ref p/\y=.int i/\f3 K H p c/\C? c i=Z v/\Q v H
def rIxS:R2:=λx y H Q=>∃z i c,x=.str z/\y=.int i/\z.length<=aI/\C? z.cps.toList i=Z c/\Q (.str ⟨#[c]⟩) H
def Vg:π X (rIxL X.K):=by
 intro value slice c s B H x y v u Q I N P h A;obtain⟨p,Y,i,z,rfl,rfl,M,G,q⟩:=h;cases N;obtain⟨t,rfl⟩:=P;obtain⟨f,r,pl,W⟩:=I.list M;obtain⟨j,d,C,S,E,F⟩:=KD G;obtain⟨w,m,l⟩:=r.get C;have J:=r.length;have T:=Hv;have fin:EP X c B Q w s:=⟨z,H,I,l,q⟩;by_cases o:0<=i
 .have e:i.toNat=j:=by rw[seqIndex_of o F]at d;exact cc d
  exact item_listR pl.isList o (by omega) (by rw[e];simpa using m) fin A
 .have e:(i+(f.toArray.size:Int)).toNat=j:=by rw[seqIndex_neg (by omega) E]at d;rw[bj,<- J];exact cc d
  exact nQ (x:=w) pl.isList.typeIs o6.lookup
   (wpAny_getItem_list_neg (Q:=λr R=>r=w/\EP X c B Q r R) pl.isList (by omega) (by rw[bj]<;>omega) (by omega) (by rw[e];simpa using m) ⟨U,fin⟩) A
def YQ:π X (rIxT X.K):=by
 intro value slice c s e H x y v u Q I F G h C;obtain⟨p,T,i,z,rfl,rfl,B,o,q⟩:=h;cases F;obtain⟨t,rfl⟩:=G;obtain⟨E,r,pl,S⟩:=I.tuple B;obtain⟨j,l,m,M,N,P⟩:=KD o;obtain⟨w,f,d⟩:=r.get m;have A:=r.length;have R:=Hv;have fin:EP X c e Q w s:=⟨z,H,I,d,q⟩;exact nQ (x:=w) pl.typeIs fK.lookup
  (getItem_tuple (j:=j) (Q:=λr J=>r=w/\EP X c e Q r J) pl (by omega) (by omega) (by rw[bj,<- A];exact l) (by simpa using f) ⟨U,fin⟩) C
def YR:π X rIxS:=by
 intro value slice e s M H x y v u Q I B C h A;obtain⟨z,i,c,rfl,rfl,G,r,q⟩:=h;obtain⟨t,rfl⟩:=B;obtain⟨J,rfl⟩:=C;obtain⟨j,d,m,E,o,p⟩:=KD r;have w:z.cps.toList.length=z.length:=by simp[Str.length]
 rw[w]at d o p;have F:=Hv;exact tail_any (iU s z t) slot_str_getitem.lookup (getItem_str (c:=c) (by
  have f:decide (i < -(2 ^ 63:Int))=δ:=aR (by omega);have l:decide (i >= 2 ^ 63)=δ:=aR (by omega);rw[f,l,Bool.or_false]) (by rw[d];simpa using m) ⟨.str ⟨#[c]⟩,H,I.rl _,⟨_,U⟩,q⟩) A
def rIx(K:au):R2:=λx y H Q=>rIxL K x y H Q\/rIxT K x y H Q\/rIxS x y H Q
def YS:π X (rIx X.K):=Vg.or (YQ.or YR)
def Xr(i:Int)(n d:Nat):max 0 (min (if i<0 then i+(n:Int)else i) n)=((HT.fy n d (Z i):Nat):Int):=by
 simp only[HT.fy];by_cases h:i<0
 .simp only[h,if_true]<;>omega
 .simp only[h,if_false]<;>omega
def KE(lo c:Option Int)(n:Nat):(sliceBounds lo c O n).1=((HT.fy n 0 lo:Nat):Int)/\(sliceBounds lo c O n).2.1=((HT.fy n n c:Nat):Int)/\(sliceBounds lo c O n).2.2=1:=by
 refine⟨?_,?_,U⟩
 .cases lo with
  |none=>simp[sliceBounds,HT.fy]
  |some i=>exact Xr i n _
 .cases c with
  |none=>simp[sliceBounds,HT.fy]
  |some i=>exact Xr i n _
def Jk(c:List ab)(lo d:Option Int):slicePick c.toArray lo d O=((c.drop (HT.fy c.length 0 lo)).take (HT.fy c.length c.length d - HT.fy c.length 0 lo)).toArray:=by obtain⟨e,f,h⟩:=KE lo d c.toArray.size;unfold slicePick;rw[e,f,h];simp only[sliceRange_one,pick_run,bj]<;>rfl
def PZ(K:au):V->Option Int->Option Int->Hp->VK->Prop:=λx lo d H Q=>∃a c,x=.ref a/\fx K H a c/\∀p,H p=O->Q (.ref p) (e0 H p (.b0 (KC c lo d)))
def Vh:SlR X (PZ X.K):=by intro i s C H x v A B lo e y Q I u j pl t h;obtain⟨a,c,rfl,l,q⟩:=h;cases u;obtain⟨p,r,f,m⟩:=I.list l;have d:=r.length;refine⟨"list", _,o6.lookup,f.isList.typeIs,?_⟩;refine wpAny_getItem_list_slice f.isList j pl t .none (by simp) ?_ (by rw[bj]<;>omega);rw[Jk,<- d];refine⟨.ref s.heap.objs.size,_,I.laid (t':=s.toks) (o:=.b0 (KC c lo e)) (λb w q=>aN _ q) (aL _) ?_,U,q _ (I.ff.fresh (aL _))⟩;exact⟨bQ (Gc c lo e) m,_,0,(r.drop (HT.fy c.length 0 lo)).take (HT.fy c.length c.length e - HT.fy c.length 0 lo),bx _ U⟩
def Dy:V->Bool
 |.E=>γ
 |.I _=>γ
 |.int _=>γ
 |.str _=>γ
 |_=>δ
def eqV:V->V->Bool
 |.E,.E=>γ
 |.I a,.I b=>a==b
 |.I a,.int b=>(if a then 1 else 0)==b
 |.int a,.I b=>a==(if b then 1 else 0)
 |.int a,.int b=>a==b
 |.str a,.str b=>a==b
 |_,_=>δ
def HB(f:eu y u)(c:eu x v)(h:Dy y=γ)(e:Dy x=γ):iV A s u v (eqV y x):=by
 cases y with
 |E=>
  cases f;cases x with
  |E=>cases c;exact lD _
  |I b=>cases c;exact tE b
  |int b=>obtain⟨t,rfl⟩:=c;exact oh b t
  |str b=>obtain⟨t,rfl⟩:=c;exact oj b t
  |_=>exact ar (show δ=γ from e) bE
 |I a=>
  cases f;cases x with
  |E=>cases c;exact tG a
  |I b=>cases c;exact tI a b
  |int b=>obtain⟨t,rfl⟩:=c;exact tT a b t
  |str b=>obtain⟨t,rfl⟩:=c;exact tU a b t
  |_=>exact ar (show δ=γ from e) bE
 |int a=>
  obtain⟨d,rfl⟩:=f;cases x with
  |E=>cases c;exact om a d
  |I b=>cases c;exact tV a d b
  |int b=>obtain⟨t,rfl⟩:=c;exact ud a d b t
  |str b=>obtain⟨t,rfl⟩:=c;exact oF a d b t
  |_=>exact ar (show δ=γ from e) bE
 |str a=>
  obtain⟨d,rfl⟩:=f;cases x with
  |E=>cases c;exact oo a d
  |I b=>cases c;exact tW a d b
  |int b=>obtain⟨t,rfl⟩:=c;exact oG a d b t
  |str b=>obtain⟨t,rfl⟩:=c;exact kW a d b t
  |_=>exact ar (show δ=γ from e) bE
 |_=>exact ar (show δ=γ from h) bE
def I?(x:V)(u:ab):Bool:=match u with
 |.none=>eqV .E x
 |.bool b=>eqV (.I b) x
 |.int i _=>eqV (.int i) x
 |.str z _=>eqV (.str z) x
 |_=>δ
def Rp(r:eu y u)(f:Dy y=γ):I? x u=eqV y x:=by
 cases y with
 |E=>cases r;rfl
 |I b=>cases r;rfl
 |int i=>obtain⟨t,rfl⟩:=r;rfl
 |str z=>obtain⟨t,rfl⟩:=r;rfl
 |_=>exact ar (show δ=γ from f) bE
theorem Ey:∀{c:bJ} {d:List ab},en c d->c.all Dy=γ->d.any (I? x)=c.any λy=>eqV y x
 |_,_,.nil,_=>rfl
 |y::c,u::d,.cons r t,f=>by rw[fZ,aQ]at f;rw[f6,f6,Rp r f.1,Ey t f.2]
theorem Cd(i:eu x v)(h:Dy x=γ):∀{e:bJ} {d:List ab},en e d->e.all Dy=γ->∀u∈d,iV A s u v (I? x u)
 |_,_,.nil,_=>λu c=>by cases c
 |y::e,u::d,.cons r t,f=>λj c=>by
  rw[fZ,aQ]at f;rcases aO.1 c with rfl|c
  .rw[Rp r f.1];exact HB r i f.1 h
  .exact Cd i h t f.2 j c
def inV(x:V)(c:bJ):Bool:=c.any λy=>eqV y x
def rIn(K:au)(neg:Bool):R2:=λx y H Q=>∃p c,y=.ref p/\(fx K H p c\/f3 K H p c)/\Dy x=γ/\c.all Dy=γ/\Q (.I (if neg then !inV x c else inV x c)) H
def P1:i0 X (bB .In) (rIn X.K δ):=by
 intro i s t H x y v u Q I j m h;obtain⟨p,o,rfl,d,f,fs,q⟩:=h;cases m;rcases d with d|d
 .obtain⟨c,r,pl,l⟩:=I.list d;refine SeqAt.in_listAt (I? x) pl.isList (λw e=>Cd j f r fs w (by simpa using e)) ⟨.I _,H,I,U,?_⟩;rw[show c.toArray.any (I? x)=c.any (I? x) by simp,Ey r fs];exact q
 .obtain⟨c,r,pl,l⟩:=I.tuple d;refine pF (I? x) pl (λw e=>Cd j f r fs w (by simpa using e)) ⟨.I _,H,I,U,?_⟩;rw[show c.toArray.any (I? x)=c.any (I? x) by simp,Ey r fs];exact q
def KF:i0 X (bB .NotIn) (rIn X.K γ):=by
 intro i s t H x y v u Q I j m h;obtain⟨p,o,rfl,d,f,fs,q⟩:=h;cases m;rcases d with d|d
 .obtain⟨c,r,pl,l⟩:=I.list d;refine SeqAt.notIn_listAt (I? x) pl.isList (λw e=>Cd j f r fs w (by simpa using e)) ⟨.I _,H,I,U,?_⟩;rw[show c.toArray.any (I? x)=c.any (I? x) by simp,Ey r fs];exact q
 .obtain⟨c,r,pl,l⟩:=I.tuple d;refine SeqAt.notIn_tupleAt (I? x) pl (λw e=>Cd j f r fs w (by simpa using e)) ⟨.I _,H,I,U,?_⟩;rw[show c.toArray.any (I? x)=c.any (I? x) by simp,Ey r fs];exact q
def KG:v5 X (.builtin "len") (λl H Q=>∃p d,l=[.ref p]/\(fx X.K H p d\/f3 X.K H p d)/\Q (.int d.length) H):=by
 intro j s x H l w Q I r h;obtain⟨p,d,rfl,e,q⟩:=h;obtain⟨u,rfl,o⟩:=l' r;cases o;have t:=Hv;rcases e with e|e
 .obtain⟨f,i,pl,m⟩:=I.list e;have c:=i.length;exact Calls.call_len_list pl.isList (by simp only[bj]<;>omega) ⟨.int d.length,H,I.rl _,⟨s.toks+1,by rw[bj,c]⟩,q⟩
 .obtain⟨f,i,pl,m⟩:=I.tuple e;have c:=i.length;exact len_tuple pl (by simp only[bj]<;>omega) ⟨.int d.length,H,I.rl _,⟨s.toks+1,by rw[bj,c]⟩,q⟩
def KH:v5 X (.builtin "len") (λd H Q=>∃z,d=[.str z]/\z.length<=aI/\Q (.int z.length) H):=by intro c s j H d i Q I r h;obtain⟨z,rfl,f,q⟩:=h;obtain⟨u,rfl,t,rfl⟩:=l' r;have e:=Hv;exact len_str (by omega) ⟨.int z.length,H,I.rl _,⟨_,U⟩,q⟩
def KI:v5 X (.type "list") (λxs H Q=>∃p i,xs=[.ref p]/\(fx X.K H p i\/f3 X.K H p i)/\∀l,H l=O->Q (.ref l) (e0 H l (.b0 i))):=by
 intro pins s σ H xs us Q I r h;obtain⟨p,i,rfl,m,q⟩:=h;obtain⟨u,rfl,A⟩:=l' r;cases A;have fin:∀(c:List ab),en i c->i.length<=aI->∀(h':Heap) (d:Nat),(∀b z,s.heap.get? b=Z z->h'.get? b=Z z)->
   h'.get? s.heap.objs.size=Z { cls:=.type "list", dict:=O,data:=.seq c.toArray d,slots:=#[] }->EP X pins σ Q (.ref s.heap.objs.size) { s with heap:=h' }:=λc f t h' d kp e=>
  ⟨.ref s.heap.objs.size,_,I.laid (t':=s.toks) kp (aL _) (show e4 X.prog X.w _ h' _ (.b0 i) from⟨t,c,d,f,e⟩),U,q _ (I.ff.fresh (aL _))⟩
 rcases m with m|m
 .obtain⟨c,f,pl,t⟩:=I.list m;have j:=f.length;obtain⟨o,y,x,n,hd⟩:=pl.isList;exact qv p (.inl U) y x hd (λh' d kp e=>fin c f t h' d kp e) (by simp only[bj]<;>omega)
 .obtain⟨c,f,pl,t⟩:=I.tuple m;have j:=f.length;obtain⟨o,y,x,n,hd⟩:=pl;exact qv p (.inr U) y x hd (λh' d kp e=>fin c f t h' d kp e) (by simp only[bj]<;>omega)
def Jl:v5 X (.type "tuple") (λxs H Q=>∃p d,xs=[.ref p]/\((fx X.K H p d/\∀l,H l=O->Q (.ref l) (e0 H l (.cx d)))\/(f3 X.K H p d/\Q (.ref p) H))):=by
 intro pins s σ H xs us Q I r h;obtain⟨p,d,rfl,h⟩:=h;obtain⟨u,rfl,y⟩:=l' r;cases y;rcases h with ⟨f,q⟩|⟨f,q⟩
 .obtain⟨c,i,pl,t⟩:=I.list f;have m:=i.length;refine call_tuple_list pl.isList (λh' kp=>?_) (by simp only[bj]<;>omega);have j:d3 X pins σ H { s with heap:=h' }:=I.gw (t':=s.toks) kp;have x:d3 X pins σ (e0 H h'.objs.size (.cx d)) { s with heap:=h'.push { cls:=.type "tuple", data:=.seq c.toArray } }:=
   j.laid (t':=s.toks) (λb o e=>aN _ e) (aL _) (show e4 X.prog X.w _ _ _ (.cx d) from⟨t,c,i,mO _ _,λo e=>by rw[bx _ U]at e;cases e;rfl⟩)
  exact⟨.ref h'.objs.size,_,x,U,q _ (j.ff.fresh (aL _))⟩
 .obtain⟨c,i,pl,t⟩:=I.tuple f;exact call_tuple_same pl ⟨.ref p,H,I,U,q⟩
def tyV(K:au)(T:String)(x:V)(H:Hp):Prop:=match x with
 |.str _=>T="str"
 |.int _=>T="int"
 |.ref p=>(T="list" /\ ∃c,fx K H p c)\/(T="tuple" /\ ∃o,K.lookup p=Z o/\o.cls=.type "tuple" /\ o.dict=O)\/
   (T="dict" /\ ((∃kvs,H p=Z (.dK kvs))\/∃kvs,H p=Z (.dT kvs)))\/(T="set" /\ ∃S n,H p=Z (.set S n))
 |_=>False
def YT(I:d3 X l y H s)(r:eu x v)(ty:tyV X.K T x H):
  s.TypeIs v T/\∀a,v=.ref a->∃j,s.heap.get? a=Z j/\j.dict=O:=by
 cases x with
 |str z=>obtain⟨t,rfl⟩:=r;cases (show T="str" from ty);exact⟨iU s z t,λ_ e=>nomatch e⟩
 |int i=>obtain⟨t,rfl⟩:=r;cases (show T="int" from ty);exact⟨typeIs_int s i t,λ_ e=>nomatch e⟩
 |ref p=>
  cases r;rcases ty with ⟨rfl,w,q⟩|⟨rfl,o,d,m,hd⟩|⟨rfl,d⟩|⟨rfl,S,n,d⟩
  .obtain⟨u,_,pl,_⟩:=I.list q;refine⟨pl.isList.typeIs,λa e=>?_⟩;cases e;obtain⟨o,n,e,c,hd,_⟩:=pl;exact⟨o,e,hd⟩
  .refine⟨⟨o,I.nj p o d,m⟩,λa e=>?_⟩;cases e;exact⟨o,I.nj _ o d,hd⟩
  .have z:∃o,s.heap.get? p=Z o/\o.ExactDict:=by
    rcases d with ⟨kvs,d⟩|⟨kvs,d⟩
    .obtain⟨_,_,_,_,o,_,_,e,f,_⟩:=I.ff p _ d;exact⟨o,e,f⟩
    .obtain⟨_,_,_,_,o,_,_,e,f,_⟩:=I.ff p _ d;exact⟨o,e,f⟩
   obtain⟨o,e,f⟩:=z;refine⟨⟨o,e,f.1⟩,λa h=>?_⟩;cases h;exact⟨o,e,f.2.1⟩
  .obtain⟨o,_,_,_,e,f,_⟩:=I.ff p _ d;refine⟨⟨o,e,f.1⟩,λa h=>?_⟩;cases h;exact⟨o,e,f.2.1⟩
 |_=>exact cY ty
def tBM(K:au)(T:String)(r:V->bJ->Hp->VK->Prop)(to:TE)(t:TA):TE:=λd H Q=>to d H λx c=>tyV K T x c/\t d c λf e=>r x f e Q
variable{o e:Expr}{es:List Expr}{to:TE}{t:TA}{name:Str}{apos cpos:Pos}{T id:String}{r:V->bJ->Hp->VK->Prop}
def acH(A:jT T)(slot:Slot T name id)(hty:typeOf (.builtin id)=pure (.type "method_descriptor"))(w:MtR X id r)(y:PE X o to)(u:PA X (e::es) t)
  (hbase:eG o name X.b1 (eval o X.b1)=eval o X.b1:=by rfl)
  (hfew:((bI cpos (aF (e::es) X.b1)).all (λx=>!x.1)&&(backToKw cpos (dr [] X.b1)).all (λx=>x.1.isSome)
   && decide ((e::es).length+([]:List d4).length+(if ([]:List d4).isEmpty then 0 else 1)<30))=γ:=by rfl)
  (hline:(apos.endLine==cpos.line)=γ:=by rfl) (z:aF (e::es) X.b1=(δ,eval e X.b1)::aF es X.b1:=by rfl) (hplain:(bI cpos (aF es X.b1)).any (·.1)=δ:=by rfl):
  PE X (.Call (.Attribute o name apos) (e::es) [] cpos) (tBM X.K T r to t):=by
 intro c s d H Q I h;refine nR hbase hfew hline U (fu (y c s d H _ I h) λv F zz=>?_);obtain⟨x,j,f,i,ty,B⟩:=zz;obtain⟨p,q⟩:=YT f i ty;refine⟨T,id,A,slot,hty,p,q,?_⟩;have hA:=u cpos c F d j _ f B;rw[z]at hA ⊢;refine gH (by show (δ||(bI cpos (aF es X.b1)).any (·.1))=δ;rw[hplain]<;>rfl) (gM ?_)
 exact fu hA λJ G ⟨M,l,m,E,C⟩=>w c G d l x M v J Q m i E C
end
def MtM(X:Cx)(id:String)(r:V->bJ->Hp->VK->Prop):Prop:=
 ∀(a:cJ) (s:ae) (d:St) (H:Hp) (x:V) (c:bJ) (v:ab) (b:List ab) (Q:VK),d3 X a d H s->eu x v->en c b->r x c H Q->
  ao (model X.prog X.w) X.A (call (.builtin id) (v::b)) (EP X a d Q) X.xe s
def en.one:∀{x:V} {a:List ab},en [x] a->∃u,a=[u]/\eu x u
 |_,_,.cons r .nil=>⟨_,U,r⟩
section
variable{X:Cx}{pins:cJ}{σ:St}{H:Hp}{s:ae}{l b:Addr}{xs ys zs:bJ}
def d3.lset{a its':List ab}(I:d3 X pins σ H s)(hH:H l=Z (.b0 xs))
  (e:s.heap.get? l=Z { cls:=.type "list", data:=.seq a.toArray n }) (d:f a.toArray=its'.toArray) (i:en ys its') (j:ys.length<=aI):
  d3 X pins σ (e0 H l (.b0 ys)) { s with heap:=s.heap.update l (dX f),toks:=o }:=by
 have q:=PySem.IsL.update e f;rw[d]at q;refine I.tp (x:=l) (e:=l) (by rw[hH];exact trivial) (.inl U) (λm u c h=>(ir s.heap (dX f) (dw c)).t h) ⟨_,q⟩ ?_;exact⟨j,its',_,i,q⟩
def d3.lnew(I:d3 X pins σ H s)(a:en ys its)(c:ys.length<=aI):
  d3 X pins σ (e0 H s.heap.objs.size (.b0 ys)) { s with heap:=s.heap.push { cls:=.type "list", data:=.seq its.toArray },toks:=t' }:=
 I.laid (λz z q=>aN _ q) (aL _) ⟨c,its,0,a,bx _ U⟩
theorem d3.fresh(I:d3 X pins σ H s):H s.heap.objs.size=O:=I.ff.fresh (aL _)
def d3.X?(I:d3 X pins σ H s)(hH:H l=Z (.b0 xs)):xs.length<=aI/\∃(a:List ab) (n:Nat),en xs a/\xs.length=a.length/\s.heap.get? l=Z { cls:=.type "list", data:=.seq a.toArray n }:=by obtain⟨z,a,n,r,e⟩:=I.ff l _ hH;exact⟨z,a,n,r,r.length,e⟩
def Rq(h:n<=aI):jj n=δ:=by unfold jj;exact aR (by omega)
end
section
variable{X:Cx}
def KJ:V->bJ->Hp->VK->Prop:=λx b H Q=>∃l a y,x=.ref l/\b=[y]/\H l=Z (.b0 a)/\a.length<aI/\Q .E (e0 H l (.b0 (a++[y])))
theorem Fu:MtM X "list.append" KJ:=by intro c s w H x p v o Q I i f h;obtain⟨l,t,y,rfl,rfl,hH,m,q⟩:=h;cases i;obtain⟨u,rfl,d⟩:=f.one;obtain⟨z,a,n,r,j,e⟩:=I.X? hH;refine gm kX ⟨_,e,U⟩ F.entry_list_append (F.args_list_append_2 _ _) (PySem.list_append l a.toArray n u (by rw[bj];omega)) ⟨e,?_⟩;refine⟨.E,_,I.lset (its':=a++[u]) hH e (by simp) (r.append (.cons d .nil)) ?_,U,q⟩;rw[aC,c4];omega
def rCat:R2:=λx y H Q=>∃l b a c,x=.ref l/\y=.ref b/\H l=Z (.b0 a)/\H b=Z (.b0 c)/\a.length+c.length<=aI/\∀p,H p=O->Q (.ref p) (e0 H p (.b0 (a++c)))
def YU:i0 X (cG .Add) rCat:=by
 intro d s G H x y v u Q I o p h;obtain⟨l,b,C,F,rfl,rfl,hH,hB,w,q⟩:=h;cases o;cases p;obtain⟨z,c,n,r,t,e⟩:=I.X? hH;obtain⟨E,a,A,m,j,f⟩:=I.X? hB;refine PySem.P.add_list e f ?_ (by rw[bj,bj];omega);have i:c.toArray++a.toArray=(c++a).toArray:=by simp
 rw[i];exact⟨.ref _,_,I.lnew (t':=s.toks) (r.append m) (by rw[aC];omega),U,q _ I.fresh⟩
end
section
variable{prog:aJ}{w:aA}{A:aK}{E:ab->ae->Prop}{s:ae}
set_option maxRecDepth 100000 in
end
section
variable{κ:Type}[DecidableEq κ]
def xT(kvs:List (κ×V))(k:κ):Option V:=(kvs.find? λkv=>decide (kv.1=k)).map (·.2)
def i1(kvs:List (κ×V))(k:κ)(v:V):List (κ×V):=
 if (kvs.any λkv=>decide (kv.1=k))=γ then kvs.map (λkv=>if kv.1=k then (kv.1,v)else kv)else kvs++[(k,v)]
def EA{p:κ×V}(e:p.1=k):xT (p::r) k=Z p.2:=by simp[xT,fz,e]
def EB{p:κ×V}(e:¬p.1=k):xT (p::r) k=xT r k:=by simp[xT,fz,e]
theorem HC(k:κ):∀kvs:List (κ×V),(kvs.any λkv=>decide (kv.1=k))=(xT kvs k).isSome
 |[]=>rfl
 |p::r=>by
  rw[f6];by_cases e:p.1=k
  .simp only[EA e,aT e,Bool.true_or,Option.isSome_some]
  .rw[EB e,aR e,l5];exact HC k r
def zN(kvs:List (κ×V))(k:κ)(v:V):(i1 kvs k v).length<=kvs.length+1:=by
 unfold i1;split
 .rw[af];omega
 .rw[aC,aP,fW];omega
def Rt{kvs:List (κ×V)}{k:κ}(v:V)(h:xT kvs k=O):i1 kvs k v=kvs++[(k,v)]:=by unfold i1;rw[HC,h];exact aj (by decide)
def Cb.Vs(r:Cb o u):o.isSome=u.isSome:=by
 cases o with
 |none=>cases u with
  |none=>rfl
  |some _=>exact(show False from r).elim
 |some _=>cases u with
  |none=>exact(show False from r).elim
  |some _=>rfl
theorem Cb.getD(r:Cb o u)(b:eu d a):eu (o.getD d) (u.getD a):=by
 cases o with
 |none=>cases u with
  |none=>exact b
  |some _=>exact(show False from r).elim
 |some _=>cases u with
  |none=>exact(show False from r).elim
  |some _=>exact r
def KV.val(r:KV kvs j)(k:κ):Cb (xT kvs k) (valueAt j k):=by
 unfold KV at r
 induction r with
 |nil=>exact True.intro
 |@cons p q l c h t i=>
  obtain⟨d,f⟩:=h;by_cases e:p.1=k
  .have a:q.1=k:=d.symm.t e;have b:valueAt (q::c) k=Z q.2:=by simp[valueAt,fz,a]
   rw[EA e,b];exact f
  .have a:¬q.1=k:=λz=>e (d.t z);have b:valueAt (q::c) k=valueAt c k:=by simp[valueAt,fz,a]
   rw[EB e,b];exact i
theorem KV.any(r:KV kvs vs)(k:κ):(kvs.any λkv=>decide (kv.1=k))=vs.any λkv=>decide (kv.1=k):=by
 unfold KV at r
 induction r with
 |nil=>rfl
 |cons h t a=>rw[f6,f6,a,h.1]
def KV.repl(r:KV kvs f)(k:κ)(d:eu y u):
  KV (kvs.map λkv=>if kv.1=k then (kv.1,y)else kv) (f.map λkv=>if kv.1=k then (kv.1,u)else kv):=by
 unfold KV at r ⊢
 induction r with
 |nil=>exact .nil
 |@cons p q i j h t c=>
  rw[aS,aS];refine .cons ?_ c;obtain⟨a,b⟩:=h;by_cases e:p.1=k
  .rw[ah e,ah (a.symm.t e)];exact⟨a,d⟩
  .rw[aj e,aj (λz=>e (a.t z))];exact⟨a,b⟩
def KV.put(r:KV kvs b)(k:κ)(a:eu y u):KV (i1 kvs k y) (stored b k u):=by
 unfold i1 stored;rw[r.any k];by_cases e:(b.any λkv=>decide (kv.1=k))=γ
 .rw[ah e,ah e];exact r.repl k a
 .rw[aj e,aj e];exact qR r ⟨U,a⟩
theorem KV.length(r:KV kvs a):kvs.length=a.length:=lZ r
end
def EC(r:eu (kV k) u):(uP P w).is k u=γ:=by
 cases k with
 |inl i=>obtain⟨t,e⟩:=(show ∃t,u=Value.int i t from r);subst e;exact Ly P w i t
 |inr x=>obtain⟨t,e⟩:=(show ∃t,u=Value.str x t from r);subst e;exact LA P w x t
theorem JE:∀{a:List ey} {b:List ab},en (a.map kV) b->ItemsAre (uP P w) a b
 |[],_,r=>by rw[dU]at r;cases r;exact .nil
 |k::a,_,r=>by
  rw[aS]at r;cases r with
  |cons h t=>exact .cons (EC h) (JE t)
abbrev KT(H:Hp):List (List ey×V)->List (List ey×Addr×ab)->Prop:=gp λp q=>p.1=q.1/\H q.2.1=Z (.cx (p.1.map kV))/\eu p.2 q.2.2
def KT.val(r:KT H kvs j)(k:List ey):Cb (xT kvs k) ((atKey j k).map (·.2)):=by
 induction r with
 |nil=>exact True.intro
 |@cons p q l c h t i=>
  obtain⟨d,_,f⟩:=h;by_cases e:p.1=k
  .have a:q.1=k:=d.symm.t e;have b:atKey (q::c) k=Z q.2:=by simp[atKey,fz,a]
   rw[EA e,b];exact f
  .have a:¬q.1=k:=λz=>e (d.t z);have b:atKey (q::c) k=atKey c k:=by simp[atKey,fz,a]
   rw[EB e,b];exact i
def KT.repl(r:KT H kvs i)(k:List ey)(f:eu y u):
  KT H (kvs.map λkv=>if kv.1=k then (kv.1,y)else kv) (i.map (putAt k u)):=by
 induction r with
 |nil=>exact .nil
 |@cons p q j l h t d=>
  rw[aS,aS];refine .cons ?_ d;obtain⟨a,b,c⟩:=h;unfold putAt;by_cases e:p.1=k
  .rw[ah e,ah (a.symm.t e)];exact⟨a,b,f⟩
  .rw[aj e,aj (λz=>e (a.t z))];exact⟨a,b,c⟩
def KT.put(r:KT H kvs a)(k:List ey)(d:H b=Z (.cx (k.map kV)))(c:eu y u):
  KT H (i1 kvs k y) (storedH a k b u):=by
 have e:(kvs.any λkv=>decide (kv.1=k))=(atKey a k).isSome:=by rw[HC,(r.val k).Vs,Option.isSome_map]
 unfold i1 storedH;rw[e];by_cases q:(atKey a k).isSome=γ
 .rw[ah q,ah q];exact r.repl k c
 .rw[aj q,aj q];exact qR r ⟨U,d,c⟩
def KT.keeps(r:KT H kvs e)(d:∀b a,H b=Z (.cx a)->c b=Z (.cx a)):KT c kvs e:=
 Paired.mapP r λx x z=>⟨z.1,d _ _ z.2.1,z.2.2⟩
section
variable{P:aJ}{w:aA}{H:Hp}{h:Heap}{a:Addr}
def Xs(ok:pk P w H h)(e:Rd H a u):e4 P w H h a u:=e.ok ok
def Gd(ok:pk P w H h)(e:Rd H a (.dK kvs)):kvs.length<=aI/\(a==c6)=δ/\∃b,KV kvs b/\h.DictOf (uP P w) a b:=
 show e4 P w H h a (.dK kvs) from Xs ok e
def Ru(ok:pk P w H h)(e:H a=Z (.dK kvs)):kvs.length<=aI/\(a==c6)=δ/\∃b,KV kvs b/\h.DictOf (uP P w) a b:=Gd ok (.inl e)
def HD{c:List ey}(ok:pk P w H h)(e:H a=Z (.cx (c.map kV))):(tupleKind (uP P w)).is h c a:=by obtain⟨_,b,r,⟨o,d,f,n,i⟩,_⟩:=(show e4 P w H h a (.cx (c.map kV)) from ok a _ e);exact⟨o,b.toArray,n,d,f,i,by simpa using JE r⟩
def JF(ok:pk P w H h)(e:Rd H a (.dT kvs)):kvs.length<=aI/\(a==c6)=δ/\
  ∃c,KT H kvs c/\h.DictOfH (tupleKind (uP P w)) a c:=by
 obtain⟨z,y,c,r,o,i,f,j,u,A,B,C⟩:=(show e4 P w H h a (.dT kvs) from Xs ok e);refine⟨z,y,c,r,o,i,f,j,u,A,B,λx b=>?_,C⟩;have all:∀{l:List (List ey×V)} {m:List (List ey×Addr×ab)},KT H l m->∀x∈m,(tupleKind (uP P w)).is h x.1 x.2.1:=by
  intro l m q
  induction q with
  |nil=>intro x b;exact nomatch b
  |@cons p q F G d t E=>
   intro x b;rcases aO.1 b with e|b
   .subst e;exact HD ok (by rw[<-d.1];exact d.2.1)
   .exact E x b
 exact all r x b
def dt_of(ok:pk P w H h)(e:H a=Z (.dT kvs)):kvs.length<=aI/\(a==c6)=δ/\
  ∃b,KT H kvs b/\h.DictOfH (tupleKind (uP P w)) a b:=JF ok (.inl e)
end
def p'(H:Hp)(a:Addr)(y:V)(r:Option V):Prop:=
 (∃kvs k,Rd H a (.dK kvs)/\y=kV k/\r=xT kvs k)\/∃kvs k b,Rd H a (.dT kvs)/\y=.ref b/\H b=Z (.cx (k.map kV))/\r=xT kvs k
def Rv(H:Hp)(a:Addr)(y v:V)(c:Hp):Prop:=
 (∃kvs k,H a=Z (.dK kvs)/\y=kV k/\kvs.length<aI/\c=e0 H a (.dK (i1 kvs k v)))\/
 ∃kvs k b,H a=Z (.dT kvs)/\y=.ref b/\H b=Z (.cx (k.map kV))/\kvs.length<aI/\c=e0 H a (.dT (i1 kvs k v))
theorem Rv.k{H:Hp}{a:Addr}{kvs:List (ey×V)}{k:ey}{v:V}(e:H a=Z (.dK kvs))(b:kvs.length<aI):Rv H a (kV k) v (e0 H a (.dK (i1 kvs k v))):=.inl ⟨kvs,k,e,U,b,U⟩
section
variable{X:Cx}{pins:cJ}{σ:St}{H:Hp}{s:ae}{a:Addr}{y v:V}{u r:ab}{o:Option V}{A:aK}{E:ab->ae->Prop}
def d3.big(I:d3 X pins σ H s):c6<s.heap.objs.size:=by have h:bg<s.heap.objs.size:=(I.y'.vj.keeps I.bk).lt;exact Nat.lt_trans (by decide) h
def P2(C:A.units+1<cLine)(I:d3 X pins σ H s)(g:p' H a y (Z v))(q:eu y u)(h:∀d t,d3 X pins σ H t->eu v d->Q d t):
  ao (model X.prog X.w) A (getItem (.ref a) u) Q E s:=by
 rcases g with ⟨kvs,k,e,i,l⟩|⟨kvs,k,b,e,i,x,l⟩
 .subst i;obtain⟨z,hd,F,rel,f⟩:=Gd I.ff e;obtain⟨d,m,c⟩:=Cb.B' (v:=v) (o:=valueAt F k) (by rw[l];exact rel.val k);exact wpAny_getItem_of (EC q) f.mapOf m (h d _ (I.rl _) c)
 .subst i;cases (show u=Value.ref b from q);obtain⟨z,hd,G,rel,f⟩:=JF I.ff e;obtain⟨d,m,c⟩:=Cb.B' (v:=v) (o:=(atKey G k).map (·.2)) (by rw[l];exact rel.val k)
  obtain⟨p,B,j⟩:=iu.1 m;refine wpAny_getItem_heap (jw C) (HD I.ff x) f B ?_;rw[j];exact h d _ (I.rl _) c
def Hf(I:d3 X pins σ H s)(f:Mut (H a))(hs:dS a s.heap h')(d:∃q,h'.get? a=Z q)(new:e4 X.prog X.w (e0 H a ob) h' a ob):
  d3 X pins σ (e0 H a ob) { s with heap:=h',toks:=t' }:=
 I.tp (x:=a) (e:=a) f (.inl U) (λb q c z=>(hs.2 b c).t z) d new
def Np{h':Heap}{kvs:List (ey×V)}(z:kvs.length<=aI)(hd:(a==c6)=δ)(rel:KV kvs b)(c:h'.DictOf (uP P w) a b):
  e4 P w d h' a (.dK kvs):=⟨z,hd,b,rel,c⟩
def P3(hu:A.units+1<cLine)(I:d3 X pins σ H s)(g:Rv H a y v N)(J:eu y u)(G:eu v r)(h:∀M,d3 X pins σ N M->Q () M):
  ao (model X.prog X.w) A (setItem (.ref a) u r) Q E s:=by
 rcases g with ⟨kvs,k,e,j,l,eH⟩|⟨kvs,k,b,e,j,B,l,eH⟩
 .subst j eH;obtain⟨z,hd,vs,rel,i⟩:=Ru I.ff e;have x:vs.length<=aI:=by rw[<-rel.length];exact z
  have m:(i1 kvs k v).length<=aI:=by have:=zN kvs k v;omega
  refine wpAny_setItem_pairs (hsz:=x) (EC J) i λF d p=>h _ ?_;have he:∃q,F.get? a=Z q:=let ⟨q,_,_,f,_⟩:=d;⟨q,f⟩;exact Hf I (by rw[e];exact True.intro) p he (Np m hd (rel.put k G) d)
 .subst j eH;cases (show u=Value.ref b from J);obtain⟨z,hd,xs,rel,i⟩:=dt_of I.ff e;have x:xs.length<=aI:=by rw[<-lZ rel];exact z
  have m:(i1 kvs k v).length<=aI:=by have:=zN kvs k v;omega
  refine wpAny_setItem_heap (hsz:=x) (jw hu) (HD I.ff B) i λF d p=>h _ ?_;obtain⟨q,R,P,f,S,T,W,_,Y⟩:=d;refine Hf I (by rw[e];exact True.intro) p ⟨q,f⟩ ⟨m,hd,_,(rel.put k B G).keeps λc ys C=>?_,q,R,P,f,S,T,W,Y⟩;rw[uH (ace C e (λz=>nomatch z))];exact C
end
section
variable{X:Cx}{pins:cJ}{σ:St}{H:Hp}{s:ae}{a:Addr}{kvs:List (ey×V)}{k:ey}{u:ab}{A:aK}{E:ab->ae->Prop}
def acI(I:d3 X pins σ H s)(e:Rd H a (.dK kvs))(h:∀t b,d3 X pins σ H b->Q (.int kvs.length t) b):ao (model X.prog X.w) A (call (.builtin "len") [.ref a]) Q E s:=by obtain⟨z,hd,d,rel,c⟩:=Gd I.ff e;refine call_len_dict hd c (by rw[<-rel.length];rw[bU]at z;omega) ?_;rw[<-rel.length];exact h _ _ (I.rl _)
end
def YV(i:Expr):Prop:=∀b a,subscripted i δ b a=operate [b,a] (getItem b a)
def Vi{prog:aJ}{w:aA}{A:aK}{E:ab->ae->Prop}{s:ae}{b1:Env}{value slice:Expr}{pos:Pos}{T id:String}{Q:ab->ae->Prop}
  (j:typeLookup (.type T) "__getitem__" = pure (Z (.builtin id))) (l:YV slice)
  (h:ao (model prog w) A (eval value b1) (λo c=>ao (model prog w) A (eval slice b1) (λi a=>a.TypeIs o T/\ao (model prog w) A (getItem o i) Q E a) E c) E s):
  ao (model prog w) A (eval (.Subscript value slice pos) b1) Q E s:=by
 refine mJ (cn h (λo c e=>cn e (λi a b=>?_) λz z x=>x) λz z x=>x);obtain⟨hT,b⟩:=b;unfold subscriptTail;refine ag ?_;rw[getitemInPython_of_ne hT.not_modules];refine ag (iM hT j ?_);have fin:ao (model prog w) A (subscripted slice δ o i) (λr d=>ao (model prog w) A (letTemporaryGo value o r>>=λz=>pure r) Q E d) E a:=by rw[l o i];exact wpAny_operating (cn b (λr d f=>ag (wpAny_letTemporaryGo (aq f))) λz z x=>x)
 first
  |exact aq (ag fin)
  |exact ag (aq (ag fin))
  |exact ag fin
def LH(I:d3 X d i H s)(g:p' H a y o):s.TypeIs (.ref a) "dict" := by
 rcases g with ⟨kvs,k,e,_,_⟩|⟨kvs,k,b,e,_,_,_⟩
 .obtain⟨_,_,f,_,c⟩:=Gd I.ff e;exact c.typeIs
 .obtain⟨_,_,h,_,c⟩:=JF I.ff e;exact c.typeIs
def acJ(e ty:TE):TE:=λc H Q=>e c H λx d=>ty c d λy b=>∃a v,x=.ref a/\p' b a y (Z v)/\Q v b
def Xt(h ty i:TE):TS:=λD b H=>i b H λv d=>h b d λx e=>ty b e λy f=>∃a c,x=.ref a/\Rv f a y v c/\D.nx b c
section
variable{X:Cx}{o i e value:Expr}{pos pos' tpos:Pos}{td ty tv:TE}
theorem Vj(z:X.A.units+1<cLine)(t:PE X o td)(r:PE X i ty)(w:YV i):PE X (.Subscript o i pos) (acJ td ty):=by intro b s f H Q I h;refine Vi F.slot_dict_getitem.lookup w (fu (t b s f H _ I h) λu J ⟨x,j,m,E,B⟩=>fu (r b J f j _ m B) λM N zz=>?_);obtain⟨y,l,d,G,a,v,q,g,C⟩:=zz;subst q;obtain rfl:u=Value.ref a:=E;exact⟨LH d g,P2 z d g G λR P p c=>⟨v,l,p,c,C⟩⟩
def Vk(C:X.A.units+1<cLine)(z:PE X o td)(w:PE X i ty)(E:PE X value tv)(B:dt value (Z (.Subscript o i pos')) pos.line X.b1=pure δ):
  PS X (.Assign [.Subscript o i pos'] value pos) (Xt td ty tv):=by
 intro b s c H D I h;refine wpAny_Assign_Subscript (fu (E b s c H _ I h) λr Q ⟨v,d,l,M,F⟩=>fu (z b Q c d _ l F) λu R ⟨x,f,m,N,G⟩=>fu (w b R c f _ m G) λT W zz=>?_) B;obtain⟨y,S,p,P,a,j,t,g,J⟩:=zz;subst t;obtain rfl:u=Value.ref a:=N;exact P3 C p g P M λY q=>⟨c,j,q,J⟩
end
def LI(h:Heap)(a:c6<h.objs.size):e4 P w H (h.push { cls:=.type "dict", data:=.dict #[] }) h.objs.size (.dK []):=
 ⟨bH _,beq_eq_false_iff_ne.2 (dw (bc a)),[],.nil,uo h⟩
def Nq:TE:=λz H Q=>∀p,H p=O->Q (.ref p) (e0 H p (.dK []))
section
variable{X:Cx}{pos:Pos}
def LJ:PE X (.Dict [] [] pos) Nq:=λb s d H Q I h=>
 wpAny_Dict_empty ⟨.ref s.heap.objs.size,_,I.laid (a:=s.heap.objs.size) (o:=.dK []) (t':=s.toks) (λz z q=>aN _ q) (aL _) (LI s.heap I.big),U,h _ (I.ff.fresh (aL _))⟩
end
def KL:List (TE×TE)->St->Hp->(List (V×V)->Hp->Prop)->Prop
 |[],_,H,Q=>Q [] H
 |(f,h)::r,a,H,Q=>f a H λx b=>h a b λy c=>KL r a c λe d=>Q ((x,y)::e) d
abbrev VV:List (V×V)->List (ab×ab)->Prop:=gp λp q=>eu p.1 q.1/\eu p.2 q.2
def PPs(X:Cx)(pos:Pos)(keys:List (Option Expr))(values:List Expr)(trs:List (TE×TE)):Prop:=
 ∀(a:cJ) (s:ae) (b:St) (H:Hp) (Q:List (V×V)->Hp->Prop),d3 X a b H s->KL trs b H Q->
  ao (model X.prog X.w) X.A (evalPairs (pairTrees keys values X.b1 pos)) (λf e=>∃d c,d3 X a b c e/\VV d f/\Q d c) X.xe s
def Vl:PPs X pos [] [] []:=λa s b H Q I h=>pairTrees_nil_walk ⟨[],H,I,.nil,h⟩
def Rw(l:PE X k E)(o:PE X v F)(m:PPs X pos p G trs):
  PPs X pos (Z k::p) (v::G) ((E,F)::trs):=λa s b H Q I h=>
 pairTrees_cons_walk (fu (l a s b H _ I h) λu B ⟨x,c,f,z,r⟩=>fu (o a B b c _ f r) λM C ⟨y,d,i,A,t⟩=>
  fu (m a C b d _ i t) λws J ⟨q,e,j,rel,w⟩=>⟨(x,y)::q,e,j,.cons ⟨z,A⟩ rel,w⟩)
def DX(kvs more:List (ey×V)):List (ey×V):=more.foldl (λacc kv=>i1 acc kv.1 kv.2) kvs
def KV.merge:∀{more:List (ey×V)} {rs:List (ey×ab)} {kvs:List (ey×V)} {a:List (ey×ab)},KV more rs->KV kvs a->KV (DX kvs more) (merged a rs):=by
 intro more rs kvs a r;unfold KV at r
 induction r generalizing kvs a with
 |nil=>intro q;exact q
 |@cons p q d f h t b=>
  intro c;have e:KV (i1 kvs p.1 p.2) (stored a q.1 q.2):=by have:=c.put p.1 h.2;rw[<-h.1];exact this
  exact b e
theorem DA:∀(more kvs:List (ey×V)),(DX kvs more).length<=kvs.length+more.length
 |[],kvs=>by show kvs.length<=kvs.length+0;omega
 |p::r,kvs=>by have a:=DA r (i1 kvs p.1 p.2);have b:=zN kvs p.1 p.2;show (DX (i1 kvs p.1 p.2) r).length<=_;rw[aP];omega
theorem HE:∀{kvs:List (ey×V)} {ws:List (ab×ab)},VV (kvs.map λkv=>(kV kv.1,kv.2)) ws->∃rs,Carries (uP P w) ws rs/\KV kvs rs
 |[],_,r=>by rw[dU]at r;cases r;exact⟨[],True.intro,.nil⟩
 |p::kvs,_,r=>by
  rw[aS]at r;cases r with
  |@cons a b as bs h t=>obtain⟨rs,c,q⟩:=HE (P:=P) (w:=w) t;obtain⟨e,d⟩:=b;exact⟨(p.1,d)::rs,⟨EC h.1,U,c⟩,.cons ⟨U,h.2⟩ q⟩
def Xu(trs:List (TE×TE)):TE:=λc H Q=>∀p,H p=O->KL trs c (e0 H p (.dK [])) λb a=>a p=Z (.dK [])/\∃kvs:List (ey×V),b=kvs.map (λkv=>(kV kv.1,kv.2))/\kvs.length<=15/\Q (.ref p) (e0 a p (.dK (DX [] kvs)))
def Vm(h:PPs X pos keys values trs)(hall:keys.all (·.isSome)=γ)(x:keys.length=values.length)(r:keys≠[])
  (f:keys.length<=15):PE X (.Dict keys values pos) (Xu trs):=by
 intro d s M H Q I q;have y:=I.ff.fresh (aL s.heap.objs.size);have l:=I.laid (a:=s.heap.objs.size) (o:=.dK []) (h':=s.heap.push { cls:=.type "dict", data:=.dict #[] }) (t':=s.toks) (λv v q=>aN _ q) (aL _) (LI s.heap I.big);refine wpAny_Dict_walk (knd:=uP X.prog X.w) hall x r f (fu (h d _ M _ _ l (q _ y)) λws S zz=>?_);obtain⟨R,N,i,rel,e,kvs,p,lk,E⟩:=zz;subst p;obtain⟨rs,c,G⟩:=HE (P:=X.prog) (w:=X.w) rel;obtain⟨z,hd,J,F,m⟩:=Ru i.ff e;cases F;refine⟨rs,c,m,λj b B=>⟨.ref s.heap.objs.size,_,?_,U,E⟩⟩;have C:(DX [] kvs).length<=aI:=by have t:=DA kvs [];rw[fW]at t;rw[bU];omega
 have u:∃q,j.get? s.heap.objs.size=Z q:=let ⟨q,_,_,A,_⟩:=b;⟨q,A⟩;exact Hf i (by rw[e];exact True.intro) B u (Np C hd (G.merge .nil) b)
structure M1(X:Cx)(o:Expr)(m:Str)(apos:Pos)(e:Expr)(cpos:Pos):Prop where
 b':eG o m X.b1 (eval o X.b1)=eval o X.b1
 few:((bI cpos (aF [e] X.b1)).all (λx=>!x.1)&&(backToKw cpos (dr [] X.b1)).all (λx=>x.1.isSome)
  && decide (([e]:List Expr).length+([]:List d4).length+(if ([]:List d4).isEmpty then 0 else 1)<30))=γ
 line:(apos.endLine==cpos.line)=γ
 GX:bI cpos (aF [e] X.b1)=[(δ,eval e X.b1)]
structure M2(X:Cx)(o:Expr)(m:Str)(apos:Pos)(e f:Expr)(cpos:Pos):Prop where
 b':eG o m X.b1 (eval o X.b1)=eval o X.b1
 few:((bI cpos (aF [e,f] X.b1)).all (λx=>!x.1)&&(backToKw cpos (dr [] X.b1)).all (λx=>x.1.isSome)
  && decide (([e,f]:List Expr).length+([]:List d4).length+(if ([]:List d4).isEmpty then 0 else 1)<30))=γ
 line:(apos.endLine==cpos.line)=γ
 GX:bI cpos (aF [e,f] X.b1)=[(δ,eval e X.b1),(δ,eval f X.b1)]
def IsD(H:Hp)(a:Addr):Prop:=(∃kvs,Rd H a (.dK kvs))\/∃kvs,Rd H a (.dT kvs)
def KM(I:d3 X j o H s)(d:IsD H a):
  s.TypeIs (.ref a) "dict" /\ (∀b,Value.ref a=.ref b->∃c,s.heap.get? b=Z c/\c.dict=O)/\(a==c6)=δ:=by
 rcases d with ⟨kvs,e⟩|⟨kvs,e⟩
 .obtain⟨_,hd,l,_,f⟩:=Gd I.ff e;refine⟨f.typeIs,λb q=>?_,hd⟩;cases q;obtain⟨c,_,_,h,i,_⟩:=f;exact⟨c,h,i.2.1⟩
 .obtain⟨_,hd,m,_,f⟩:=JF I.ff e;refine⟨f.typeIs,λb q=>?_,hd⟩;cases q;obtain⟨c,_,_,h,i,_⟩:=f;exact⟨c,h,i.2.1⟩
section
variable{X:Cx}{pins:cJ}{σ:St}{H:Hp}{s:ae}{a:Addr}{y d:V}{u r:ab}{o:Option V}{A:aK}{E:ab->ae->Prop}
def Rx(q:A.units+1<cLine)(I:d3 X pins σ H s)(g:p' H a y o)(i:eu y u)(h:∀m j,d3 X pins σ H j->eu (o.getD .E) m->Q m j):
  ao (model X.prog X.w) A (call (.builtin "dict.get") [.ref a,u]) Q E s:=by
 rcases g with ⟨kvs,k,e,f,l⟩|⟨kvs,k,b,e,f,p,l⟩
 .subst f;obtain⟨z,hd,x,rel,c⟩:=Gd I.ff e;refine hJ fA c.typeIs iI (lg _ _) (qd (uP X.prog X.w) a (EC i) hd) ⟨_,c.mapOf,h _ _ (I.rl _) ?_⟩;rw[l];exact(rel.val k).getD U
 .subst f;cases (show u=Value.ref b from i);obtain⟨z,hd,t,rel,c⟩:=JF I.ff e;refine hJ fA c.typeIs iI (lg _ _) (meetsH_dict_get (tupleKind (uP X.prog X.w)) a b hd) ⟨jw q,k,t,HD I.ff p,c,h _ _ (I.rl _) ?_⟩;rw[l];exact(rel.val k).getD U
def YW(t:A.units+1<cLine)(I:d3 X pins σ H s)(g:p' H a y o)(j:eu y u)(i:eu d r)(h:∀p m,d3 X pins σ H m->eu (o.getD d) p->Q p m):
  ao (model X.prog X.w) A (call (.builtin "dict.get") [.ref a,u,r]) Q E s:=by
 rcases g with ⟨kvs,k,e,f,l⟩|⟨kvs,k,b,e,f,q,l⟩
 .subst f;obtain⟨z,hd,B,rel,c⟩:=Gd I.ff e;refine hJ fA c.typeIs iI (o7 _ _ _) (meets_dict_get_default (uP X.prog X.w) a (EC j) hd r) ⟨_,c.mapOf,h _ _ (I.rl _) ?_⟩;rw[l];exact(rel.val k).getD i
 .subst f;cases (show u=Value.ref b from j);obtain⟨z,hd,x,rel,c⟩:=JF I.ff e;refine hJ fA c.typeIs iI (o7 _ _ _) (meetsH_dict_get_default (tupleKind (uP X.prog X.w)) a b hd r) ⟨jw t,k,x,HD I.ff q,c,h _ _ (I.rl _) ?_⟩;rw[l];exact(rel.val k).getD i
end
def YX(e ty:TE):TE:=λd H Q=>e d H λx b=>∃a,x=.ref a/\IsD b a/\ty d b λy c=>∃o,p' c a y o/\Q (o.getD .E) c
def YY(f ty tx:TE):TE:=λb H Q=>f b H λx c=>∃a,x=.ref a/\IsD c a/\ty b c λy e=>tx b e λz d=>∃o,p' d a y o/\Q (o.getD z) d
section
variable{X:Cx}{o e f:Expr}{apos cpos:Pos}{td ty tx:TE}
def Ry(B:X.A.units+1<cLine)(z:PE X o td)(w:PE X e ty)(m:M1 X o "get" apos e cpos):PE X (.Call (.Attribute o "get" apos) [e] [] cpos) (YX td ty):=by intro b s j H Q I h;refine jy m.b' m.few m.line jz fA lE (fu (z b s j H _ I h) λu J zz=>?_);obtain⟨x,l,i,F,a,t,d,C⟩:=zz;subst t;obtain rfl:u=Value.ref a:=F;obtain⟨M,N,_⟩:=KM i d;refine⟨M,N,?_⟩;rw[m.GX];refine gH U (gM (eh (fu (w b J j l _ i C) λP S ⟨y,p,q,G,R,g,E⟩=>fR ?_)));exact Rx B q g G λW T r c=>⟨_,p,r,c,E⟩
def RA(G:X.A.units+1<cLine)(F:PE X o td)(C:PE X e ty)(E:PE X f tx)(m:M2 X o "get" apos e f cpos):PE X (.Call (.Attribute o "get" apos) [e,f] [] cpos) (YY td ty tx):=by
 intro b s i H Q I h;refine jy m.b' m.few m.line jz fA lE (fu (F b s i H _ I h) λu T zz=>?_);obtain⟨x,l,j,P,a,B,d,J⟩:=zz;subst B;obtain rfl:u=Value.ref a:=P;obtain⟨Y,t2,_⟩:=KM j d;refine⟨Y,t2,?_⟩;rw[m.GX];refine gH U (gM (eh (fu (C b T i l _ j J) λiv W ⟨y,p,r,R,M⟩=>
  eh (fu (E b W i p _ r M) λfv s3 ⟨z,q,t,S,ov,g,N⟩=>fR ?_))))
 exact YW G t g R S λw' s4 w c=>⟨_,q,w,c,N⟩
end
end L2
namespace Att
open PySem PySem.W PySem.Calls PyProof.Rows
def G1:∀(c:List Int) (d:List ab),WellAll P h d (c.map WData.int)->iY d c:=by
 intro c
 induction c with
 |nil=>intro d w;rw[dU]at w;cases w;exact .nil
 |cons n c e=>
  intro d w;rw[aS]at w;cases w with
  |cons a b=>cases a;exact .cons _ _ (e _ b)
def P4{l:ic}(t:l.most=Z n)
  (hpre:l.row.toRowW.claim.pre args=γ) (hwl:WellAll P h vals args):
  ∃a j b,vals=[Value.ref a]/\args=[WData.list (b.map WData.int)]/\h.get? a=Z { cls:=.type "list", data:=.seq j.toArray }/\iY j b/\b.length<=n:=by
 have hsh:WShape.hasAll [] args [.list .int]=γ:=(pre_splitW hpre).1;have i:l.pre.holds [] { args:=args }=γ:=(pre_splitW hpre).2;obtain⟨d,r,rfl,m,o⟩:=hasAllW_cons hsh;obtain rfl:=hasAllW_nil o;obtain⟨z,rfl,p⟩:=hasW_list m;obtain⟨b,rfl⟩:=items_int p;have c:b.length<=n:=by
  unfold OpenLaw.pre at i;have e:(WTm.not (.lt (.lit (.int (n:Int))) (.len (.arg 0)))).holds [] { args:=[.list (b.map .int)] }=γ:=by have e:=(holds_andW i).1;rw[t]at e;exact e
  have f:=condW_of e (w_not (w_lt w_lit (w_len_list (w_arg U))));rw[af]at f;refine pG λq=>?_;have w:(n:Int)<((b.length:Nat):Int):=by omega
  first
   |(rw[aT w]at f;exact ar f (by decide))
   |(simp at f;omega)
 cases hwl with
 |cons x y=>
  cases y;cases x with
  |list u hall=>exact⟨_,_,b,U,U,u,G1 b _ hall,c⟩
def P5(l:ic)(args:List WData):l.row.toRowW.claim.post args (.bool γ) args=γ:=
 postW_of (r:=l.row.toRowW) (X:=(γ==γ))
  (show qW [] (.bool γ) .bool=γ by first|rfl|decide|simp[qW,WShape.arms,WShape.armsAll])
  (show (WTm.eq .res (.lit (.bool γ))).value [] { args:=args,res:=Z (.bool γ),after:=args }=Z (.bool (γ==γ)) from w_eq_bool (w_res U) w_lit) U
def D4{l:ic}{d:DefRec}
  (B:l.most=Z n) (hdf:d.params.defaults=[])
  (call:∀(w:aA) (c b:ae) (j t:Str->Option ab) (h:Addr) (o:Obj) (pm cd doc:ab) (a:Addr) (e:List ab) (m:List Int),
   Ground q loose [] XP w c j t b.heap->YP w b.heap->
   b.heap.get? h=Z o->o.data=.func (docDef d.name d.params d.body d.scope pm cd doc)->b.heap.CodeRec cd d.name->j d.name=Z (.ref h)->
   b.heap.get? a=Z { cls:=.type "list", data:=.seq e.toArray }->iY e m->m.length<=n->b.gens=#[]->
   cz (model l.prog w) callerA (.call (.ref h) ⟨[.ref a],[]⟩) (λr p=>r=.ok (.ret (.bool γ))/\OldK b.heap p.heap/\p.os=b.os/\eO p.gens) b):
  WalkO q loose XP YP l.row.toRowW d [] (λf e=>mK f e):=by
 intro w c b j t G Y h o pm cd doc dV kV C hd hcd hD hmg z args vals as hpre hlay hrd hwl hlo;obtain rfl:dV=.none:=Dflts.none hD hdf;obtain rfl:kV=.none:=Dflts.noKw hD;obtain⟨a,e,m,rfl,rfl,hobj,hints,i⟩:=P4 B hpre hwl;refine enter_call (hE (call w c b j t h o pm cd doc a e m G Y C (fd_plain hd) hcd hmg hobj hints i z) λr p E=>?_);obtain⟨rfl,u,x,y⟩:=E;exact⟨.inl ⟨.bool γ,.bool γ,[],U,λv=>U,.bool γ,P5 l _,λv=>⟨List.Pairwise.nil,λv A=>(nomatch A)⟩⟩,u,x,y⟩
end Att
namespace L2
open PySem PySem.Spec PyProof.Rows
theorem JG:∀{b:List ab} {a:List Int},iY b a->en (a.map V.int) b
 |_,_,.nil=>.nil
 |_,_,.cons n t h=>.cons ⟨t,U⟩ (JG h)
def YZ(H:Hp):Prop:=∀b,H b=O\/∃o a,H b=Z (.n9 o (.b0 a))
def RB{K:au}{c:ae}{j:List ab}
  (KX:K.In c.heap) (hns:c.heap.Ns bg A) (f:c.heap.Ns builtinsNs N) (hbb:∀x:Str,x≠"__name__" -> N x=dR x) (hlim:c.heap.NoLimit) (hg:c.gens=#[])
  (y:c.heap.get? a=Z { cls:=.type "list", data:=.seq j.toArray }) (J:iY j B) (M:B.length<=aI) (hr:wM k callerA)
  (F:∀b':Heap,K.In b'->b'.Ns bg A->y4 P w K A b' CX k I W [x] sp) (hbind:∀(s:ae) (u:ab),ie s W ⟨[u],[]⟩ [(x,u)])
  (hsp:∀H:Hp,YZ H->fx K H a (B.map V.int)->sp [.ref a] H (λv _=>v=.I γ) λ_ _ _=>False)
  (hCX:∀H e i,CX [] H c (λ_ _ _=>False) e i->False):
  cz (model P w) callerA (.call (.ref I) ⟨[.ref a],[]⟩) (λr i=>r=.ok (.ret (.bool γ))/\OldK c.heap i.heap/\i.os=c.os/\eO i.gens) c:=by
 have Q:=JG J;have lenV:=J.length;have core:∀H:Hp,YZ H->fx K H a (B.map V.int)->pk P w H c.heap->(∀b,H b≠O->b=a)->(H a≠O->K.lookup a=O)->
   cz (model P w) callerA (.call (.ref I) ⟨[.ref a],[]⟩) (λr i=>r=.ok (.ret (.bool γ))/\OldK c.heap i.heap/\i.os=c.os/\eO i.gens) c:=by
  intro H hO hS ff hA hK;have base_of:∀{b:Addr} {o:Obj},c.heap.get? b=Z o->H b=O->(Kv c.heap H).get? b=Z o:=λe n=>QT e n;have noA:∀{b:Addr} {o:Obj} {p:Array DictEntry} {l:Nat},c.heap.get? b=Z o->o.data=.dict p l->H b=O:=λ{b o p l} e d=>by
   cases q:H b with
   |none=>rfl
   |some u=>have C:b=a:=hA b (by rw[q];simp);subst C;rw[y]at e;cases e;have R:Data.seq j.toArray _=Data.dict p l:=d;cases R
  have nsK:∀{b:Addr} {m:Str->Option ab},c.heap.Ns b m->(Kv c.heap H).Ns b m:=λ{b m} ⟨o,p,l,e,d,r⟩=>⟨o,p,l,base_of e (noA e d),d,r⟩;have hKb:K.In (Kv c.heap H):=λb o e=>base_of (KX b o e) (by
   cases q:H b with
   |none=>rfl
   |some u=>
    have C:b=a:=hA b (by rw[q];simp);subst C;rw[hK (by rw[q];simp)]at e;cases e)
  have hM:Mod K A (Kv c.heap H):=⟨hKb,nsK hns,⟨N,nsK f,hbb⟩,let ⟨mc,X,Y⟩:=hlim;⟨mc,nsK X,Y⟩⟩;have S:Nj P w K A (Kv c.heap H) callerA [] c H:=⟨U,hM,λb o e=>UV e,qC (PJ _ _),trivial,λb f=>ar (show b∈([]:List Addr) from f) (by simp),ff,.of_eq hg⟩;refine hE ((F _ hKb (nsK hns)).run callerA [] c H ⟨[.ref a],[]⟩ [.ref a] [.ref a] _ _ hr S (hbind c (.ref a)) (.cons U .nil) (hsp H hO hS)) λr i h=>?_;cases r with
  |error e=>exact(hCX H e i h).elim
  |ok fl=>
   cases fl with
   |next=>exact cY h
   |brk=>exact cY h
   |cont=>exact cY h
   |ret u=>
    obtain⟨v,H',os,ke,un,hok',r',q⟩:=h;have q':v=.I γ:=q;subst q';obtain rfl:u=Value.bool γ:=r';refine⟨U,OldK.of_keep λb o e=>?_,os,ke⟩;cases q:H b with
    |none=>exact un.keep b o e q (by intro z;exact ar (show b∈([]:List Addr) from z) (by simp)) (by simp)
    |some u=>
     rcases hO b with z|⟨ob,xs,z⟩
     .rw[q]at z;cases z
     .have z2:=un.vu b ob _ z;obtain⟨G,_⟩:=ff b _ z;obtain⟨T,_⟩:=hok' b _ z2;rw[e]at G;cases G;exact T
 cases E:K.lookup a with
 |some o=>have e:=KX a o E;rw[y]at e;cases e;refine core (λ_=>O) (λ_=>.inl U) (.inr ⟨_,j.toArray,_,E,U,U,U,by rw[bj,lenV];exact M,by simpa using Q⟩) (λb u z=>by have t:(O:Option HO)=Z u:=z;cases t) (λb z=>ar U z) λz=>ar U z
 |none=>
  refine core (λb=>if b=a then Z (.n9 { cls:=.type "list", data:=.seq j.toArray } (.b0 (B.map V.int)))else O) (λb=>?_) (.inl (.inr ⟨{ cls:=.type "list", data:=.seq j.toArray },ah U⟩)) (λb u z=>?_) (λb z=>?_) λ_=>E
  .by_cases f:b=a
   .exact .inr ⟨_,_,ah f⟩
   .exact .inl (aj f)
  .by_cases f:b=a
   .have t:=(ah f).symm.t z;cases t;subst f;exact⟨y,by rw[af];exact M,j,_,Q,y⟩
   .have t:=(aj f).symm.t z;cases t
  .by_cases f:b=a
   .exact f
   .exact ar (aj f) z
def Vn{l:ic}{n k:Nat}{q:aJ}{loose:aB}{XP:(Str->Option ab)->Heap->Prop}{YP:aA->Heap->Prop}{d:DefRec}{K:Params->au}{CX:aA->CXT}{sp:aA->Sp}{x:Str}
  (E:l.most=Z n) (t:n<=aI) (hdf:d.params.defaults=[]) (I:wM k callerA)
  (hY:∀(w:aA) (h:Heap),YP w h->(K w.params).In h)
  (F:∀(w:aA) (i:Str->Option ab) (m:Addr) (h:Heap),(K w.params).In h->h.Ns bg i->i d.name=Z (.ref m)->
   ∃r:cg,(∀(s:ae) (u:ab),ie s r ⟨[u],[]⟩ [(x,u)])/\
    ∀b':Heap,(K w.params).In b'->b'.Ns bg i->y4 l.prog w (K w.params) i b' (CX w) k m r [x] (sp w))
  (hsp:∀(w:aA) (H:Hp) (a:Addr) (p:List Int),p.length<=n->YZ H->fx (K w.params) H a (p.map V.int)->sp w [.ref a] H (λv _=>v=.I γ) λ_ _ _=>False)
  (hCX:∀(w:aA) (H:Hp) (s:ae) (e:ab) (y:ae),CX w [] H s (λ_ _ _=>False) e y->False):
  W.WalkO q loose XP YP l.row.toRowW d [] (λf A=>mK f A):=by
 refine Att.D4 E hdf λw z j i M m o pm cd doc a A p G Y J hd hcd hmg hobj hints c C=>?_;have KX:=hY w _ Y;obtain⟨r,B,hF⟩:=F w i m _ KX G.T.g hmg;exact RB KX G.T.g G.T.b G.T.builtins G.T.nolimit C hobj hints (bQ c t) I hF B (λH hO hS=>hsp w H a p c hO hS) λH e y=>hCX w H j e y
def ef(s:Stmt)(j:Nat):Stmt:=match s with
 |.ClassDef _ _ _ body _ _ _ _ _ _ _=>body.getD j (.Pass ⟨0,0,0,0⟩)
 |_=>.Pass ⟨0,0,0,0⟩
def xU(s:Stmt):Arguments:=match s with
 |.FunctionDef _ a _ _ _ _ _ _ _ _=>a
 |_=>{ posonlyargs:=[],args:=[],vararg:=O,kwonlyargs:=[],kw_defaults:=[],kwarg:=O,defaults:=[] }
def vm(s:Stmt):List Stmt:=match s with
 |.FunctionDef _ _ b _ _ _ _ _ _ _=>b
 |_=>[]
def uS(s:Stmt):cM:=match s with
 |.FunctionDef _ _ _ _ _ _ a _ _ _=>a
 |_=>{ kind:=.function,names:=[],isGenerator:=δ,isCoroutine:=δ }
abbrev B?:CXT:=λz z z z z z=>False
abbrev E0:XK:=λz z z=>False
def LK:pa B? X E0:=λz z z z z z z h=>h.elim
structure V?(K:au)(x qual:Str)(st:Stmt)(f:Addr)(fd:cg):Prop where
 ex:∃(oc:ab) (od:Option Addr) (kV doc pm:ab) (an:Option Addr) (cdv ct:ab) (osl:Array (Option ab)),
  fd=eX x qual (xU st) (vm st) (uS st) .none kV doc pm an cdv ct/\K.lookup f=Z ⟨oc,od,.func fd,osl⟩/\ib K cdv qual=γ
 kp:dY K (.ref f)=γ
section
variable{P:aJ}{w:aA}{K:au}{mg:Str->Option ab}{b':Heap}
theorem V?.ok{x qual:Str}{st:Stmt}{f:Addr}{c:cg}{N ps:aB}{k:Nat}{b:Sp}(F:V? K x qual st f c)(S:xn N ps (uS st))(len:∀a H Q E,b a H Q E->a.length=ps.length)
  (hbody:∀(cdv:ab) (A:aK) (d?:List Env) (s:ae) (H:Hp) (a:bJ) (Q:VK) (E:XK),wM k (A.deeper (envOfC qual (uS st) s.heap.objs.size f cdv))->b a H Q E->
   ∃t,n? (LD B? P w K mg b' N qual (uS st) f cdv A d? s H E).nox (vm st) t/\t { nx:=λz d=>Q .E d,rt:=Q } (start N a) H):y4 P w K mg b' B? (k+1) f c ps b:=by
 obtain⟨l,m,kV,doc,pm,i,cdv,j,osl,rfl,lk,hcd⟩:=F.ex;refine Xq lk hcd S len λA d? s H a Q E e hsp=>?_;obtain⟨t,h,q⟩:=hbody cdv A d? s H a Q E e hsp;exact⟨t,h.nox,q⟩
theorem V?.p?{x qual:Str}{st:Stmt}{f:Addr}{e:cg}{c:aB}(F:V? K x qual st f e)
  (h:∀(kV doc pm:ab) (a:Option Addr) (cdv b:ab) (d:List ab),d.length=c.length->bindArgs (eX x qual (xU st) (vm st) (uS st) .none kV doc pm a cdv b) ⟨d,[]⟩=pure (c.zip d)):k? K e c []:=by
 obtain⟨i,j,kV,doc,pm,a,cdv,b,osl,rfl,lk,hcd⟩:=F.ex;exact .all (h kV doc pm a cdv b)
end
def LL(a:wM k A):A.units+1<cLine:=fP (Nat.add_le_add_left (by decide:1<=64) _) a.units
def AC(h:n<=1000):n<aI:=fP h (by decide)
section
variable{X:Cx}
def pv(i:Nat)(hN:X.N[i]?=Z x:=by rfl)(a:Vis X.b1.scope x:=by first|exact Or.inl U|exact Or.inr (Or.inl U)|exact Or.inr (Or.inr U))(hd:(x==("__debug__" : Str))=δ:=by decide)
  (hcd:(x==("__classdict__" : Str))=δ:=by decide):PE X (.Name x pos) (Ep i):=Yi hN a hd hcd
end
def KN{A B:Prop}(h:B):if δ=γ then A else B:=by rw[aj bE];exact h
def KO{A B:Prop}(h:A):if γ=γ then A else B:=by rw[ah U];exact h
def uL(H a:Hp):Prop:=∀b o,H b=Z o->a b=Z o
def uL.refl(H:Hp):uL H H:=λz z h=>h
def uL.t(a:uL H d)(b:uL d e):uL H e:=λc o h=>b c o (a c o h)
def uL.seq{K:au}{H b:Hp}{a:Addr}{xs:bJ}(e:uL H b)(h:fx K H a xs):fx K b a xs:=by
 rcases h with (h|⟨o,h⟩)|h
 .exact .inl (.inl (e _ _ h))
 .exact .inl (.inr ⟨o,e _ _ h⟩)
 .exact .inr h
end L2
set_option maxHeartbeats 4000000
namespace L3
open PySem PySem.Spec PyProof.Rows L2
abbrev St:=L2.St
theorem HF{d a:Type}{f:d->a->Sem (ForInStep a)}{g:a->d->a}:∀(l:List d) (b:a),(∀x∈l,∀c,f x c=pure (ForInStep.yield (g c x)))->(forIn l b f:Sem a)=pure (l.foldl g b)
 |[],b,_=>by simp
 |x::r,b,h=>by rw[List.forIn_cons,h x aY b];show (forIn r (g b x) f:Sem a)=_;rw[HF r (g b x) λy e c=>h y (ba _ e) c];rfl
def BW(cells:List (Str×Addr))(cs:List (Str×Addr))(x:Str×dZ):List (Str×Addr):=if (x.2==NameKind.free)=γ then (x.1,(cells.lookup x.1).getD 0)::cs else cs
def zk(cells:List (Str×Addr))(names:List (Str×dZ)):List (Str×Addr):=names.foldl (BW cells) []
def Jm{scope:cM}{b1:Env}(h:∀x∈scope.names,x.2=.free->∃c,b1.cells.lookup x.1=Z c):
  closureFor scope b1=pure (zk b1.cells scope.names):=by
 simp only[closureFor];rw[HF (g:=BW b1.cells) scope.names [] λx i c=>by
  obtain⟨n,k⟩:=x;by_cases b:k=.free
  .subst b;obtain⟨a,e⟩:=h _ i U;have d:=e;simp only[BW,cellOf,d,beq_self_eq_true,if_true,pH];rfl
  .have f:(k==NameKind.free)=δ:=by simpa using b
   simp only[BW,f,fQ,if_false]]
 rfl
set_option tactic.hygienic true
theorem LM{cells:List (Str×Addr)}:∀(names:List (Str×dZ)) (acc:List (Str×Addr)),(∀x∈names,x.2=.free->∃c,cells.lookup x.1=Z c)->(∀x c,acc.lookup x=Z c->cells.lookup x=Z c)->
  ∀x c,(names.foldl (BW cells) acc).lookup x=Z c->cells.lookup x=Z c
 |[],acc,_,j,x,c,e=>j x c e
 |y::r,acc,h,j,x,c,e=>by
  refine LM r (BW cells acc y) (λz p=>h z (ba _ p)) (λz d b=>?_) x c e;obtain⟨n,k⟩:=y;unfold BW at b;split at b
  .rename_i o;obtain⟨a,m⟩:=h (n,k) aY (by simpa using o);have f:=m;rw[eE]at b;cases l:z==n with
   |true=>rw[l]at b;have i:=b;rw[f]at i;rw[fG l,f];exact i
   |false=>rw[l]at b;exact j z d b
  .exact j z d b
set_option tactic.hygienic false
theorem JH:∀(names:List (Str×dZ)) (acc:List (Str×Addr)) (x:Str),(∃c,acc.lookup x=Z c)->∃c,(names.foldl (BW cells) acc).lookup x=Z c
 |[],_,_,h=>h
 |y::r,acc,x,h=>by
  refine JH r (BW cells acc y) x ?_;unfold BW;split
  .rw[eE];cases x==y.1 with
   |true=>exact⟨_,U⟩
   |false=>exact h
  .exact h
theorem HG:∀(names:List (Str×dZ)) (acc:List (Str×Addr)) (x:Str),(x,NameKind.free)∈names->∃c,(names.foldl (BW cells) acc).lookup x=Z c
 |[],_,_,h=>by cases h
 |y::r,acc,x,h=>by
  rcases aO.1 h with e|h
  .subst e;refine JH r _ x ?_;unfold BW;rw[ah (by simp),eE];simp
  .exact HG r _ x h
set_option tactic.hygienic true
theorem A2{b1:Env}(x:Str):∀(names:List (Str×dZ)),
  (names.map λ(n,k)=>if (k==NameKind.free&&b1.scope.kind==.function&&b1.kindOf n==Z .cell)then (n,NameKind.cell)else (n,k)).lookup x=
   (names.lookup x).map λk=>if (k==NameKind.free&&b1.scope.kind==.function&&b1.kindOf x==Z .cell)=γ then NameKind.cell else k
 |[]=>rfl
 |(n,k)::r=>by
  have c:=A2 (b1:=b1) x r;rw[aS,eE (k:=n)];show dq x ((if (k==NameKind.free&&b1.scope.kind==.function&&b1.kindOf n==Z .cell)=γ then (n,NameKind.cell)else (n,k))::_)=_;cases a:x==n with
  |true=>
   have e:=fG a;subst e;split
   .rename_i b;simp only[eE,a,fU,b,if_true]
   .rename_i b;simp only[eE,a,fU];rw[aj b]
  |false=>
   rw[<-c];split
   .simp only[eE,a]
   .simp only[eE,a]
set_option tactic.hygienic false
def Nr{scope:cM}(hcell:∀y∈scope.names,y.2≠.cell)(h:(relabel scope b1).names.lookup x=Z .cell\/(relabel scope b1).names.lookup x=Z .free):(x,NameKind.free)∈scope.names:=by
 have e:=A2 (b1:=b1) x scope.names;have a:(scope.names.lookup x).map (λk=>if (k==NameKind.free&&b1.scope.kind==.function&&b1.kindOf x==Z .cell)=γ then NameKind.cell else k)=Z .cell\/
   (scope.names.lookup x).map (λk=>if (k==NameKind.free&&b1.scope.kind==.function&&b1.kindOf x==Z .cell)=γ then NameKind.cell else k)=Z .free:=by
  rw[<-e];exact h
 cases q:scope.names.lookup x with
 |none=>rw[q]at a;rcases a with z|z<;>cases z
 |some k=>
  rw[q]at a;have b:=mem_of_lookup q;have c:=hcell _ b;cases k with
  |free=>exact b
  |cell=>exact ar U c
  |_=>rcases a with z|z<;>cases z
def Jn{scope:cM}(h:scope.names.lookup x=Z .free):(relabel scope b1).names.lookup x=Z .cell\/(relabel scope b1).names.lookup x=Z .free:=by
 have e:=A2 (b1:=b1) x scope.names;have a:(relabel scope b1).names.lookup x=(scope.names.lookup x).map λk=>if (k==NameKind.free&&b1.scope.kind==.function&&b1.kindOf x==Z .cell)=γ then NameKind.cell else k:=e
 rw[a,h,fU];split
 .exact .inl U
 .exact .inr U
def v8(X:Cx)(a:aB)(scope:cM)(cl:List (Str×Addr))(C:Addr)(fp:List Addr)(s:ae)(H:Hp):Cx:=
 { X with N:=a,s₀:=s,H₀:=H,b1:=compEnvC scope cl C X.b1,d?:=X.stack,ex:=fp,fn:=λz=>δ,pn:=[],xe:=λz z=>False }
def PIf(X:Cx)(ifs:List Expr)(t:TT):Prop:=
 ∀(a:cJ) (s:ae) (b:St) (H:Hp) (Q:Bool->Hp->Prop),d3 X a b H s->t b H Q->
  ao (model X.prog X.w) X.A (forIn ifs γ λc r=>if r=γ then do let ok<-isTrue c X.b1 (eval c X.b1);pure (ForInStep.yield ok)else pure (ForInStep.yield r)) (TP X a b Q) X.xe s
def tIf0:TT:=λz H Q=>Q γ H
def Vo:PIf X [] tIf0:=λz z z H z I h=>wpAny_tests_nil ⟨H,I,h⟩
def Vp(h:PT X c t):PIf X [c] t:=λa s d H Q I b=>wpAny_tests_one (h a s d H Q I b)
section
variable{prog:aJ}{w:aA}{A:aK}{R:gu->ae->Prop}{s:ae}
def KP(J:Nat->ae->Prop)
  (turn:∀n s,J n s->ao (model prog w) A (pyNext B) (λr d=>match r with
   |none=>R (.ok .next) d
   |some v=>ao (model prog w) A (iK target B v) (λ_ f=>ao (model prog w) A (assign target b1 v) (λ_ o=>
     ao (model prog w) A (forIn ifs γ λc r=>if r=γ then do let ok<-isTrue c b1 (eval c b1);pure (ForInStep.yield ok)else pure (ForInStep.yield r)) (λok i=>
      if ok=γ then ao (model prog w) A (eval elt b1) (λx p=>
       ao (model prog w) A (call (.builtin "list.append") [acc,x]) (λ_ q=>∃m,m<n/\J m q) (notedBy (model prog w) A b1 λe b=>R (.error e) b) p) (notedBy (model prog w) A b1 λe b=>R (.error e) b) i
      else ∃m,m<n/\J m i) (notedBy (model prog w) A b1 λe b=>R (.error e) b) o) (notedBy (model prog w) A b1 λe b=>R (.error e) b) f)
      (notedBy (model prog w) A b1 λe b=>R (.error e) b) d) (notedBy (model prog w) A b1 λe b=>R (.error e) b) s)
  (n:Nat) (h:J n s):
  cz (model prog w) A (.compLoop (.ListComp elt [⟨target,iter,ifs,0⟩] scope pos) 0 B acc b1) R s:=by
 refine codeAny_loop U J (λn s hI=>?_) n h;refine wpAny_noted ?_;rw[compTurn_list];refine ag (qw (ag (cn (turn n s hI) (λr d j=>?_) λ_ _ a=>a)));cases r with
 |none=>exact aq j
 |some v=>
  refine ag (cn j (λ_ f t=>?_) λ_ _ a=>a);refine ag (cn t (λ_ o u=>ag (cn u (λok i l=>?_) λ_ _ a=>a)) λ_ _ a=>a);cases ok with
  |false=>exact aq ⟨U,l⟩
  |true=>exact ag (ag (cn l (λx p y=>ag (cn y (λ_ q z=>aq (aq ⟨U,z⟩)) λ_ _ a=>a)) λ_ _ a=>a))
end
def xV(k:Nat)(ew:List Nat)(a:St):St:=eF k O++ew.map λj=>(a[j]?).join
def JI(h:(xV k ew b)[i]?=Z (Z v)):k<=i:=by
 by_cases a:k<=i
 .exact a
 .unfold xV at h;rw[fM (by rw[cU];omega),jl]at h;split at h<;>cases h
def P6{k:Nat}{ew:List Nat}{b:St}{N a:aB}{i:Nat}{v:V}{x:Str}(hcap:(a.drop k).map Z=ew.map λj=>N[j]?)(f:a[i]?=Z x)(h:(xV k ew b)[i]?=Z (Z v)):
  ∃j:Nat,N[j]?=Z x/\b[j]?=Z (Z v)/\x∈a.drop k:=by
 have d:=JI h;unfold xV at h;rw[fL (by rw[cU];exact d),cU,bu]at h;have hd:(a.drop k)[i - k]?=Z x:=by rw[eA,show k+(i - k)=i by omega];exact f
 have e:=bL (λl=>l[i - k]?) hcap;simp only[bu,hd,fU]at e;cases q:ew[i - k]? with
 |none=>rw[q]at h;cases h
 |some j=>
  rw[q]at h e;simp only[fU,uh]at h e;refine⟨j,e.symm,?_,cv hd⟩;cases z:b[j]? with
  |none=>rw[z]at h;cases h
  |some o=>rw[z]at h;have c:o=Z v:=h;rw[c]
def Ge(t:TI)(g:TG)(r:TT)(q:TE)(k:Nat)(ew:List Nat):TE:=λe H Q=>t e H λJ f=>∀p,f p=O->
 ∃W:Nat->Nat->bJ->Hp->Prop,(∃m,W 0 m [] (e0 f p (.b0 [])))/\∀i m acc c,W i m acc c->
  (J.stop i c/\Q (.ref p) c)\/
   (J.go i c/\∀x h,J.yld i c x h->g x (xV k ew e) h λa o=>a.drop k=(xV k ew e).drop k/\r a o λb j=>
    if b=γ then q a j λy l=>∃acc',l p=Z (.b0 acc')/\acc'.length<aI/\∃d,d<m/\W (i+1) d (acc'++[y]) (e0 l p (.b0 (acc'++[y])))
    else ∃d,d<m/\W (i+1) d acc j)
def JJ{X:Cx}{ew:List Nat}
  (hc:X.nr=γ) (hi:PI X tg iter wi)
  (body:∀(cl:List (Str×Addr)) (C:Addr) (fp:List Addr) (s:ae) (H:Hp),PG (v8 X E scope cl C fp s H) tg g/\PIf (v8 X E scope cl C fp s H) ifs tt/\PE (v8 X E scope cl C fp s H) elt te)
  (hkind:scope.kind=.function) (hcell:(scope.names.all λy=>y.2 != .cell)=γ)
  (hloc:(scope.names.all λy=>y.2 != .local||scope.names.lookup y.1==Z .local)=γ)
  (hfree:(scope.names.all λy=>y.2 != .free||(X.b1.kindOf y.1==Z .cell||X.b1.kindOf y.1==Z .free))=γ)
  (hlen:E.length=k+ew.length) (hcap:(E.drop k).map Z=ew.map λj=>X.N[j]?)
  (hcf:((E.drop k).all λx=>scope.names.lookup x==Z .free)=γ)
  (hs:∀x,iB iter X.b1 x=pure x)
  (I:d3 X pins σ H s) (h:Ge wi g tt te k ew σ H Q)
  (fin:∀a C m u s4 H3,s4.heap.Ns C m->d3 X pins σ H3 s4->Kz X pins H3 C->Q (.ref a) H3->compPost (model X.prog X.w) X.A X.xe use P (.ref a) C (.ok u) s4):
  ao (model X.prog X.w) X.A (comprehension (.ListComp elt [⟨tg,iter,ifs,0⟩] scope pos) scope X.b1 (firstIterPos [⟨tg,iter,ifs,0⟩] pos) (newList []) δ (eval iter X.b1) use) P X.xe s:=by
 have hcell':∀y∈scope.names,y.2≠.cell:=λy R e=>by have z:=aH.1 hcell y R;rw[e]at z;exact ar z (by decide)
 have hloc':∀y∈scope.names,y.2=.local->scope.names.lookup y.1=Z .local:=λy R e=>by have z:=aH.1 hloc y R;rw[e]at z;simpa using z
 have hfree':∀y∈scope.names,y.2=.free->X.b1.kindOf y.1=Z .cell\/X.b1.kindOf y.1=Z .free:=λy R e=>by have z:=aH.1 hfree y R;rw[e]at z;simpa using z
 have hcl:=λy R e=>I.ok.has y.1 (hfree' y R e);refine wpAny_comprehension_free U hs (Jm hcl) hkind hloc' (fu (hi pins s σ H _ I h) λxv s₁ F=>fu F λit l h₂=>?_);obtain⟨ita,fp,tn,J,H2,e,I2,T,st2,M,R2⟩:=h₂;subst e;obtain⟨W,⟨m0,w0⟩,turn⟩:=R2 l.heap.objs.size (I2.ff.fresh (aL _));refine dG (wpAny_newFunctionEnv hcell' (by intro y R;simp at R) (λF hns₁ hsb₁=>?_) hkind);dsimp only at hns₁ hsb₁ ⊢;generalize hp:l.heap.push { cls:=.type "list", dict:=O,data:=.seq ([]:List ab).toArray }=hpL at hns₁ hsb₁ ⊢;have hsz:hpL.objs.size=l.heap.objs.size+1:=by rw[<-hp,cW]
 have B:d3 X pins σ (e0 H2 l.heap.objs.size (.b0 [])) { l with heap:=hpL }:=by rw[<-hp];exact I2.laid (λb u e=>aN _ e) (aL _) ⟨bH _,[],0,.nil,bx _ U⟩
 have old:=λb o e=>hsb₁.extBut b o (bc (aV e)) (aN _ e);have older:∀b o,l.heap.get? b=Z o->hpL.get? b=Z o:=λb o e=>by rw[<-hp];exact aN _ e
 have hfpS:=λb t=>let ⟨o,e,_⟩:=T.obj _ _ st2 b t;aV e;have sub:=LM scope.names [] hcl (λx c e=>by cases e);have S:(v8 X E scope (zk X.b1.cells scope.names) hpL.objs.size fp { l with heap:=hpL } (e0 H2 l.heap.objs.size (.b0 []))).Ok:={
  y':=B.ok.y'
  kind:=hkind
  vj:=B.ok.vj
  blt:=B.ok.blt
  above:=aL _
  inj:=λx y c h1 h2=>B.ok.inj x y c (sub x c h1) (sub y c h2)
  has:=λx G=>HG scope.names [] x (Nr hcell' G)
  cab:=λx c hf _=>ar (show δ=γ from hf) bE
  hd:=B.ok.hd
  frames:=B.ok.frames
  stk:=.inl U
  exf:=λb t=>⟨(by
   rw[hsz];exact bc (eC (hfpS b t))),λx c e=>(M b t).2.2.2.2.1 x c (sub x c e)⟩
  bs:=B.bs
  ζ:=bQ B.ok.ζ B.sz
  U':=λb o e t=>by
   rcases(M b t).2.2.2.1 with z|z
   .exact B.ok.U' b o e z
   .exact ar (cf (aV e) (bQ B.ok.ζ z)) (fE _)
  T':=λb t z=>(aO.1 (B.I1 b z)).elim (M b t).2.1 (M b t).2.2.1
  q0:=B.stack
  frf:=B.N? }
 have IX:d3 (v8 X E scope (zk X.b1.cells scope.names) hpL.objs.size fp { l with heap:=hpL } (e0 H2 l.heap.objs.size (.b0 []))) [] (xV k ew σ) (e0 H2 l.heap.objs.size (.b0 []))
   { l with heap:=F,toks:=l.toks+([]:List (Str×ab)).length }:={
  ok:=S
  os:=rfl
  ke:=B.ke
  b':=Un.gw old
  Dv:=⟨_,hns₁,λi x v e1 e2 _=>by
   obtain⟨j,hj,hσ,hm⟩:=P6 hcap e1 e2;have G:=by simpa using aH.1 hcf x hm
   have hk:=hfree' (x,.free) (mem_of_lookup G) U;obtain⟨m,hn,hl⟩:=B.Dv;obtain⟨u,r,lk⟩:=hl j x v hj hσ (hk.elim (λz=>.inr (.inl z)) λz=>.inr (.inr z));refine⟨u,r,.inr ⟨Jn G,?_⟩⟩;rcases lk with ⟨z,_⟩|⟨_,c,e,o,ho,hd⟩
   .rcases hk with y|y
    .rw[y]at z;cases z
    .rw[y]at z;cases z
   .obtain⟨c',e'⟩:=HG scope.names [] x (mem_of_lookup G);have ec:=sub x c' e';rw[e]at ec;have ec':=cc ec;subst ec';exact⟨c,e',o,old _ _ ho,hd⟩⟩
  cell:=λx c e=>by obtain⟨v,o,ho,hd⟩:=B.cell x c (sub x c e);exact⟨v,o,old _ _ ho,hd⟩
  free:=B.ff.fresh (aL _)
  l0:=λx c e=>B.l0 x c (sub x c e)
  Dx:=λp hp=>ar (show p∈([]:cJ) from hp) (by simp)
  ff:=B.ff.gw old
  len:=by
   show (xV k ew σ).length=E.length;rw[hlen];unfold xV;rw[aC,cU,af] }
 have stat:∀{H':Hp},(∀b∈fp,H' b=O)->∀b∈fp,Kz (v8 X E scope (zk X.b1.cells scope.names) hpL.objs.size fp { l with heap:=hpL } (e0 H2 l.heap.objs.size (.b0 []))) [] H' b:=λhn b t=>⟨hn b t,(S.exf b t).1,S.T' b t,.inl t,(S.exf b t).2,λp hp=>ar (show p∈([]:cJ) from hp) (by simp)⟩
 have st4:=T.keep _ _ _ st2 λb _ o e=>old b o (older b o e);have loop:cz (model X.prog X.w) X.A (.compLoop (.ListComp elt [⟨tg,iter,ifs,0⟩] scope pos) 0 (.ref ita) (.ref l.heap.objs.size) (compEnvC scope (zk X.b1.cells scope.names) hpL.objs.size X.b1))
   (compPost (model X.prog X.w) X.A X.xe use P (.ref l.heap.objs.size) hpL.objs.size) { l with heap:=F,toks:=l.toks+([]:List (Str×ab)).length }:=by
  refine KP (λn s'=>∃i acc H',d3 (v8 X E scope (zk X.b1.cells scope.names) hpL.objs.size fp { l with heap:=hpL } (e0 H2 l.heap.objs.size (.b0 []))) [] (xV k ew σ) H' s'/\tn i s'.heap/\(∀b∈fp,H' b=O)/\W i n acc H')
   ?_ m0 ⟨0,[],_,IX,st4,λb t=>?_,w0⟩
  .rintro n s3 ⟨i,acc,H3,I4,st3,fr3,w3⟩;rcases turn i n acc H3 w3 with ⟨stop,qn⟩|⟨go,step⟩
   .refine fu (T.done (v8 X E scope (zk X.b1.cells scope.names) hpL.objs.size fp { l with heap:=hpL } (e0 H2 l.heap.objs.size (.b0 []))) U U U hc i [] s3 _ H3 _ I4 (stat fr3) st3 stop) λr s4 zz=>?_;obtain⟨hr,I5⟩:=zz;subst hr;obtain⟨m,hn,_⟩:=id I5.Dv;have A':=I5.b';refine fin _ _ m _ _ _ hn (B.call' I5.os ⟨λb o e n t G=>A'.keep b o e n t G,λb o e n t G=>A'.slot b o e n t G,A'.free,λb o e G=>A'.there b o e G,A'.tm,A'.vu,A'.z?⟩ I5.ff I5.ke
     λb t=>⟨(M b t).2.2.2.1,(M b t).2.1,(M b t).2.2.2.2.1,(M b t).2.2.2.2.2⟩) (B.Q? (aL _) I5.free) qn
   .refine fu (T.item (v8 X E scope (zk X.b1.cells scope.names) hpL.objs.size fp { l with heap:=hpL } (e0 H2 l.heap.objs.size (.b0 []))) U U U hc i [] s3 _ H3 _ I4 (stat fr3) st3 go) λr s4 zz=>?_;obtain⟨u,hr,h4⟩:=zz;subst hr;refine fu h4 λ_ s5 zz=>?_;obtain⟨x,H5,I5,r5,y5,st5,fr5⟩:=zz;have I5':=I5.K? (stat fr5) (T.obj _ _ st5);have again:∀{H8:Hp} {s8:ae} {Y:St} {acc8:bJ} {m':Nat},d3 (v8 X E scope (zk X.b1.cells scope.names) hpL.objs.size fp { l with heap:=hpL } (e0 H2 l.heap.objs.size (.b0 []))) ([]++Hu fp s5.heap) Y H8 s8->Y.drop k=(xV k ew σ).drop k->m'<n->W (i+1) m' acc8 H8->
      ∃m,m<n/\∃i acc H',d3 (v8 X E scope (zk X.b1.cells scope.names) hpL.objs.size fp { l with heap:=hpL } (e0 H2 l.heap.objs.size (.b0 []))) [] (xV k ew σ) H' s8/\tn i s8.heap/\(∀b∈fp,H' b=O)/\W i m acc H':=λ{H8 s8 Y acc8 m'} I8 hd8 hm8 w8=>by
     refine⟨m',hm8,i+1,acc8,H8,I8.n3.eb (IX.len.t I8.len.symm) (λj v e=>?_),T.keep _ _ _ st5 λb t o e=>(I8.Dx (b,o) (bG _ (bG _ (zj t e)))).1,λb t=>?_,w8⟩
     .have hj:=JI e;have q:(Y.drop k)[j - k]?=((xV k ew σ).drop k)[j - k]?:=by rw[hd8]
      rw[eA,eA,show k+(j - k)=j by omega]at q;rw[q];exact e
     .obtain⟨o,e,d⟩:=T.obj _ _ st5 b t;exact(I8.Dx (b,o) (bG _ (bG _ (zj t e)))).2.1
    refine cn ((body _ _ _ _ _).1 _ s5 _ H5 x u _ I5' r5 (step x H5 y5)) (λ_ s6 h6=>?_) λ_ _ f=>f.elim;obtain⟨σ6,H6,I6,hd6,q6⟩:=h6;refine cn ((body _ _ _ _ _).2.1 _ s6 σ6 H6 _ I6 q6) (λb s7 h7=>?_) λ_ _ f=>f.elim;obtain⟨H7,I7,q7⟩:=h7;cases b with
    |false=>rw[aj bE]at q7;rw[aj bE];obtain⟨m',hm',w7⟩:=q7;exact again I7 hd6 hm' w7
    |true=>rw[ah U]at q7;rw[ah U];refine cn ((body _ _ _ _ _).2.2 _ s7 σ6 H7 _ I7 q7) (λyv s8 h8=>?_) λ_ _ f=>f.elim;obtain⟨y,H8,I8,r8,acc',hp8,hl8,m',hm',w8⟩:=h8;refine cn (Fu (X:=v8 X E scope (zk X.b1.cells scope.names) hpL.objs.size fp { l with heap:=hpL } (e0 H2 l.heap.objs.size (.b0 []))) _ s8 σ6 H8 (.ref l.heap.objs.size) [y] (.ref l.heap.objs.size) [yv] (λ_ Hx=>Hx=e0 H8 l.heap.objs.size (.b0 (acc'++[y]))) I8 U (.cons r8 .nil) ⟨_,acc',y,U,U,hp8,hl8,U⟩) (λ_ s9 h9=>?_) λ_ _ f=>f.elim;obtain⟨_,H9,I9,_,e9⟩:=h9;subst e9;exact again I9 hd6 hm' w8
  .have z:=bc (hfpS b t);rw[uH z];exact(M b t).1
 exact codeAny_compStart_list loop (T.self _ 0 _ _ _ st4 loop)
def Vq{X:Cx}{ew:List Nat}
  (w:X.nr=γ) (z:PI X q iter J)
  (body:∀(f:List (Str×Addr)) (C:Addr) (i:List Addr) (s:ae) (H:Hp),PG (v8 X c scope f C i s H) q g/\PIf (v8 X c scope f C i s H) ifs G/\PE (v8 X c scope f C i s H) elt F)
  (hkind:scope.kind=.function:=by rfl) (hcell:(scope.names.all λy=>y.2 != .cell)=γ:=by rfl)
  (hloc:(scope.names.all λy=>y.2 != .local||scope.names.lookup y.1==Z .local)=γ:=by rfl)
  (hfree:(scope.names.all λy=>y.2 != .free||(X.b1.kindOf y.1==Z .cell||X.b1.kindOf y.1==Z .free))=γ:=by rfl)
  (d:c.length=k+ew.length:=by rfl) (hcap:(c.drop k).map Z=ew.map λj=>X.N[j]?:=by rfl)
  (hcf:((c.drop k).all λx=>scope.names.lookup x==Z .free)=γ:=by rfl)
  (B:∀x,iB iter X.b1 x=pure x:=by intro _;rfl):
  PE X (.ListComp elt [⟨q,iter,ifs,0⟩] scope pos) (Ge J g G F k ew):=by
 intro p s R H Q I h;exact JJ w z body hkind hcell hloc hfree d hcap hcf B I h λa C m u P r A A5 fpC E=>⟨m,A,λM l=>⟨.ref a,r,A5.j' (λb o t e=>(l.2 b t).t e) fpC.1 fpC.2.1 fpC.2.2.2.1 fpC.2.2.2.2.1 fpC.2.2.2.2.2,U,E⟩⟩
def Its(x:Str):It:=⟨λi z=>i<x.cps.size,λi H v a=>a=H/\∃c,x.cps[i]?=Z c/\v=.str ⟨#[c]⟩,λi z=>i=x.cps.size⟩
def Y0(hQ:Q () s):ao M A (iK a (.ref b) (.str c t)) Q E s:=by cases a<;>exact aq hQ
def LN{K:au}(it:Addr)(ty:String)(x:Str)(t:Tok)
  (hW:∀A:aK,A.handled=O->Walks P w A it [it] [it] x.cps.size (SignAt x) (λi h=>h.IsStrIter it ty x t i))
  (hS:∀(A:aK) (i:Nat) (s:ae) (Q:ab->ae->Prop) (E:ab->ae->Prop),s.heap.IsStrIter it ty x t i->Q (.ref it) s->ao (model P w) A (pyIter (.ref it)) Q E s):
  Q0 P w K tg (Its x) [it] it (λi h=>h.IsStrIter it ty x t i) where
 mem:=by simp
 obj:=λi h st b a=>by
  have e:=by simpa using a
  subst e;obtain⟨o,e,c,d⟩:=st;exact⟨o,e,λv z=>by rw[d]at z;cases z⟩
 keep:=λi h h' st k=>by obtain⟨o,e,r⟩:=st;exact⟨o,k it (by simp) o e,r⟩
 item:=by intro X hP hw hK u i pins s σ H E I f st hg;subst hP hw hK;obtain⟨j,l,J,m,p,q⟩:=f it (by simp);refine(hW _ (I.ok.hd u)).item i s _ _ hg st λv h' tk M F C=>?_;obtain⟨c,N,y,rfl⟩:=M;have G:d3 X pins σ H { s with heap:=h',toks:=tk }:=I.j' (λb o a e=>C b o (by simpa using a) e) j l m p q;exact⟨_,U,Y0 ⟨.str ⟨#[c]⟩,H,G,⟨N,U⟩,⟨U,c,y,U⟩,F,λb a=>(f b a).1⟩⟩
 done:=by intro X hP hw hK u i pins s σ H E I f st hg;subst hP hw hK;obtain⟨j,l,J,m,p,q⟩:=f it (by simp);have B:=hg;subst B;exact(hW _ (I.ok.hd u)).done s _ _ st λh' tk C=>⟨U,I.j' (λb o a e=>C b o (by simpa using a) e) j l m p q⟩
 self:=hS
section
variable{X:Cx}{tg:Expr}
def iStr(b:TE):TI:=λc H R=>b c H λv a=>∃x,v=.str x/\R (Its x) a
def Y1(r:PE X l y):PI X tg l (iStr y):=by
 intro a s B H R I h;refine fu (r a s B H _ I h) λv c zz=>?_;obtain⟨x,f,d,w,u⟩:=zz;obtain⟨z,e,q⟩:=u;subst e;obtain⟨t,rfl⟩:=w;have j:∀b∈[c.heap.objs.size],Kz X a f b:=λb p=>by
  have e:=by simpa using p
  subst e;exact d.Q? (aL _) (d.ff.fresh (aL _))
 cases m:z.cps.all (· < 128)
 .refine wpAny_pyIter_wide m ⟨c.heap.objs.size,[c.heap.objs.size],_,_,f,U,d.gw λb o e=>aN _ e,LN _ "str_iterator" z t (λA hA=>Walks.strWide hA _ z t) (λA i s Q E st hQ=>wpAny_pyIter_striter_wide st hQ),⟨_,bx _ U,U,U⟩,j,q⟩
 .refine wpAny_pyIter_ascii m ⟨c.heap.objs.size,[c.heap.objs.size],_,_,f,U,d.gw λb o e=>aN _ e,LN _ "str_ascii_iterator" z t (λA hA=>Walks.strAscii hA _ z t) (λA i s Q E st hQ=>wpAny_pyIter_striter_ascii st hQ),⟨_,bx _ U,U,U⟩,j,q⟩
end
section
variable{X:Cx}
def P7:i0 X (bB .LtE) (λx y H Q=>∃i j,x=.str i/\y=.str j/\Q (.I (!decide (j.cps.toList<i.cps.toList))) H):=by intro a s e H x y v u Q I b c h;obtain⟨i,j,rfl,rfl,q⟩:=h;obtain⟨t,rfl⟩:=b;obtain⟨d,rfl⟩:=c;exact PySem.P.le_str (u9 I q U)
def RD(y:X.nr=γ):v5 X (.builtin "all") (λx H Q=>∃(p:Addr) (bs:List Bool),x=[.ref p]/\fx X.K H p (bs.map V.I)/\Q (.I (bs.all id)) H):=by
 intro t s T H x S Q I r h;obtain⟨p,bs,rfl,E,q⟩:=h;obtain⟨u,rfl,l⟩:=l' r;cases l;obtain⟨j,w,pl,N⟩:=I.list E;have hlt:p<s.heap.objs.size:=by obtain⟨o,C,_⟩:=pl.isList;exact aV C
 have B:=by have:=w.length;rw[af]at this;exact this
 refine call_all_walk (gQ pl.isList ⟨s.heap.objs.size,_,_,_,_,_,λi=>(bs[i]?).getD γ,U,iW (show X.A.in1.handled=O from I.ok.hd y) _ p (bc hlt) j.toArray,⟨⟨_,bx _ U,U,U⟩,?_⟩,?_,λM R z=>?_⟩)
 .exact pl.isList.at λo e=>aN _ e
 .intro i v P J G F hQ';have c:=by simpa using F
  have a:=(ck.1 c).1;have d:(bs.map V.I)[i]?=Z (.I (bs[i]'(by omega))):=by simp[show i<bs.length by omega]
  obtain⟨u,m,l⟩:=w.get d;rw[c]at m;cases m;cases l;refine dh ?_;have e:(bs[i]?).getD γ=bs[i]'(by omega):=by simp[show i<bs.length by omega]
  rw[<-e];exact hQ'
 .refine⟨.I (bs.all id),H,?_,?_,q⟩
  .exact I.gw λb o e=>z b o (by simp;exact bc (aV e)) (aN _ e)
  .show Value.bool _=Value.bool _;congr 1;rw[bj,<- B];rw[dM];simp only[aH,bA,id];constructor
   .intro f b d;obtain⟨i,a,rfl⟩:=kJ.1 d;have:=f i a;simpa [a]using this
   .intro f i a;simp only[aM a,pH];exact f _ (gR a)
end
inductive Dq where
 |E|I (b:Bool)|int (i:Int)|str (x:Str)|cx (ds:List Dq)|b0 (ds:List Dq)
mutual
def eg(K:au)(H:Hp):Dq->V->Prop
 |.E,v=>v=.E
 |.I b,v=>v=.I b
 |.int i,v=>v=.int i
 |.str x,v=>v=.str x
 |.cx d,v=>∃a c,v=.ref a/\f3 K H a c/\b? K H d c
 |.b0 d,v=>∃a c,v=.ref a/\fx K H a c/\b? K H d c
def b?(K:au)(H:Hp):List Dq->bJ->Prop
 |[],a=>a=[]
 |d::b,a=>∃v r,a=v::r/\eg K H d v/\b? K H b r
end
mutual
def qq:Dq->Dq->Bool
 |.E,.E=>γ
 |.I a,.I b=>a==b
 |.I a,.int b=>(if a then 1 else 0)==b
 |.int a,.I b=>a==(if b then 1 else 0)
 |.int a,.int b=>a==b
 |.str a,.str b=>a==b
 |.cx a,.cx b=>Du a b
 |.b0 a,.b0 b=>Du a b
 |_,_=>δ
def Du:List Dq->List Dq->Bool
 |[],[]=>γ
 |a::r,b::q=>qq a b&&Du r q
 |_,_=>δ
end
mutual
def g?:Dq->Nat
 |.cx a=>vT a+1
 |.b0 a=>vT a+1
 |_=>0
def vT:List Dq->Nat
 |[]=>0
 |d::r=>max (g? d) (vT r)
end
mutual
theorem Ce:∀d:Dq,qq d d=γ
 |.E=>rfl
 |.I b=>beq_self_eq_true b
 |.int i=>beq_self_eq_true i
 |.str x=>beq_self_eq_true x
 |.cx a=>Fv a
 |.b0 a=>Fv a
theorem Fv:∀a:List Dq,Du a a=γ
 |[]=>rfl
 |d::r=>by show (qq d d&&Du r r)=γ;rw[Ce d,Fv r];rfl
end
theorem uB{K:au}:∀{b:List Dq} {a:bJ},b? K H b a->b.length=a.length
 |[],a,h=>by subst h;rfl
 |d::b,a,h=>by obtain⟨v,r,rfl,_,c⟩:=h;rw[aP,aP,uB c]
def eAt(d c:List Dq)(j:Nat):Bool:=match d[j]?,c[j]? with
 |some a,Z b=>qq a b
 |_,_=>γ
theorem HI:∀(d c:List Dq),Du d c=γ ↔ d.length=c.length/\∀j,j<d.length->eAt d c j=γ
 |[],[]=>by show γ=γ ↔ _;simp
 |[],b::q=>by show δ=γ ↔ _;simp
 |a::r,[]=>by show δ=γ ↔ _;simp
 |a::r,b::q=>by
  have l:=HI r q;show (qq a b&&Du r q)=γ ↔ _;rw[aQ,l,aP,aP];constructor
  .rintro⟨f,e,h⟩;refine⟨by omega,λj i=>?_⟩;cases j with
   |zero=>exact f
   |succ j=>exact h j (by omega)
  .rintro⟨f,e⟩;exact⟨e 0 (by omega),by omega,λj i=>e (j+1) (by omega)⟩
def A3{b a:List Dq}(l:b.length=n)(i:a.length=m):((az (min n m)).all (eAt b a)&&n==m)=Du b a:=by
 rw[dM,HI,aQ,aH];subst l i;constructor
 .rintro⟨d,f⟩;have e:=by simpa using f
  exact⟨e,λj c=>d j (bA.2 (by omega))⟩
 .rintro⟨e,h⟩;exact⟨λj c=>h j (by have:=bA.1 c;omega),by simpa using e⟩
def Cf{b a:List Dq}(d:b.length=n)(c:a.length=n):(az n).all (eAt b a)=Du b a:=by rw[<-A3 d c];simp
def HJ{b a:List Dq}(h:b.length≠a.length):Du b a=δ:=by
 cases e:Du b a with
 |false=>rfl
 |true=>exact ar ((HI b a).1 e).1 h
section
variable{X:Cx}{pins:cJ}{σ:St}{H:Hp}{s:ae}
def Xv(I:d3 X pins σ H s)(h:fx X.K H a f)(c:f3 X.K H a i):False:=by obtain⟨d,_,p,_⟩:=I.list h;obtain⟨b,_,e,_⟩:=I.tuple c;exact SeqAt.ne_of_list_tuple p.isList (show s.heap.IsTuple a b.toArray from e) U
mutual
theorem HK(I:d3 X pins σ H s):∀(d i:Dq) (v:V),eg X.K H d v->eg X.K H i v->qq d i=γ
 |.E,i,v,h,c=>by subst h;cases i<;>first|rfl|(exact nomatch c)|(obtain⟨_,_,e,_⟩:=c;exact nomatch e)
 |.I b,i,v,h,c=>by subst h;cases i<;>first|(obtain⟨_,_,e,_⟩:=c;cases e)|(cases c<;>exact Ce _)
 |.int b,i,v,h,c=>by subst h;cases i<;>first|(obtain⟨_,_,e,_⟩:=c;cases e)|(cases c<;>exact Ce _)
 |.str b,i,v,h,c=>by subst h;cases i<;>first|(obtain⟨_,_,e,_⟩:=c;cases e)|(cases c<;>exact Ce _)
 |.cx q,i,v,h,c=>by
  obtain⟨a,u,rfl,o,t⟩:=h;cases i with
  |cx j=>obtain⟨p,m,e,f,l⟩:=c;cases e;have r:=I.x? o f;subst r;exact Fw I q j u t l
  |b0 j=>obtain⟨p,m,e,f,l⟩:=c;cases e;exact(Xv I f o).elim
  |_=>exact nomatch (show _=_ from c)
 |.b0 q,i,v,h,c=>by
  obtain⟨a,u,rfl,o,t⟩:=h;cases i with
  |b0 j=>obtain⟨p,m,e,f,l⟩:=c;cases e;have r:=I.E? o f;subst r;exact Fw I q j u t l
  |cx j=>obtain⟨p,m,e,f,l⟩:=c;cases e;exact(Xv I o f).elim
  |_=>exact nomatch (show _=_ from c)
theorem Fw(I:d3 X pins σ H s):∀(b a:List Dq) (f:bJ),b? X.K H b f->b? X.K H a f->Du b a=γ
 |[],a,f,h,c=>by
  subst h;cases a with
  |nil=>rfl
  |cons d r=>obtain⟨_,_,e,_⟩:=c;exact nomatch e
 |d::b,a,f,h,c=>by
  obtain⟨v,r,rfl,o,p⟩:=h;cases a with
  |nil=>exact nomatch (show _=_ from c)
  |cons l m=>obtain⟨t,q,e,i,j⟩:=c;cases e;show (qq d l&&Du b m)=γ;rw[HK I d l v o i,Fw I b m r p j];rfl
end
mutual
theorem RE(I:d3 X pins σ H s):∀(d C:Dq) (x y:V) (u v:ab) (A:aK),eg X.K H d x->eg X.K H C y->eu x u->eu y v->A.units+g? d+g? C<cLine->iV A s u v (qq d C)
 |.cx F,C,x,y,u,v,A,G,l,w,o,R=>by
  obtain⟨a,S,rfl,Q,M⟩:=G;cases w;obtain⟨J,P,p,_⟩:=I.tuple Q;cases C with
  |E=>unfold eg at l;subst l;cases o;exact sW p (by omega)
  |I b=>unfold eg at l;subst l;cases o;exact sX b p (by omega)
  |int b=>unfold eg at l;subst l;obtain⟨t,rfl⟩:=o;exact tJ b t p (by omega)
  |str b=>unfold eg at l;subst l;obtain⟨t,rfl⟩:=o;exact tK b t p (by omega)
  |b0 i=>obtain⟨b,E,rfl,h,m⟩:=l;cases o;obtain⟨f,B,r,_⟩:=I.list h;exact sY p r.isList (by omega)
  |cx i=>
   have N:=l;obtain⟨b,E,rfl,h,m⟩:=l;cases o;obtain⟨f,B,r,_⟩:=I.tuple h;by_cases hab:a=b
   .subst hab;have e:qq (.cx F) (.cx i)=γ:=HK I _ _ (.ref a) (by unfold eg;exact⟨a,S,U,Q,M⟩) N;rw[e];exact lD _
   .have hd:g? (.cx F)=vT F+1:=by rw[g?]
    have hd':g? (.cx i)=vT i+1:=by rw[g?]
    have q:=ui (A:=A) p r (by omega) λj W Y=>by have z:=A8 I F i S E J f A.in1 M m P B (by show A.units+1+vT F+vT i<cLine;omega) j (by simpa using W) (by simpa using Y);simpa using z
    rw[A3 (by rw[uB M,P.length];simp) (by rw[uB m,B.length];simp)]at q;exact kY hab q
 |.b0 F,C,x,y,u,v,A,G,l,w,o,R=>by
  obtain⟨a,S,rfl,Q,M⟩:=G;cases w;obtain⟨J,P,p,_⟩:=I.list Q;have p:=p.isList;cases C with
  |E=>unfold eg at l;subst l;cases o;exact tL p (by omega)
  |I b=>unfold eg at l;subst l;cases o;exact tN b p (by omega)
  |int b=>unfold eg at l;subst l;obtain⟨t,rfl⟩:=o;exact tY b t p (by omega)
  |str b=>unfold eg at l;subst l;obtain⟨t,rfl⟩:=o;exact tZ b t p (by omega)
  |cx i=>obtain⟨b,E,rfl,h,m⟩:=l;cases o;obtain⟨f,B,r,_⟩:=I.tuple h;exact sZ p (show s.heap.IsTuple b f.toArray from r) (by omega)
  |b0 i=>
   have N:=l;obtain⟨b,E,rfl,h,m⟩:=l;cases o;obtain⟨f,B,r,_⟩:=I.list h;have r:=r.isList;by_cases hab:a=b
   .subst hab;have e:qq (.b0 F) (.b0 i)=γ:=HK I _ _ (.ref a) (by unfold eg;exact⟨a,S,U,Q,M⟩) N;rw[e];exact lD _
   .have hd:g? (.b0 F)=vT F+1:=by rw[g?]
    have hd':g? (.b0 i)=vT i+1:=by rw[g?]
    by_cases T:J.length=f.length
    .have q:=um (A:=A) p r (by simpa using T) (by omega) λj W Y=>by have z:=A8 I F i S E J f A.in1 M m P B (by show A.units+1+vT F+vT i<cLine;omega) j (by simpa using W) (by simpa using Y);simpa using z
     rw[Cf (by rw[uB M,P.length];simp) (by rw[uB m,B.length,<- T];simp)]at q;exact kY hab q
    .have e:qq (.b0 F) (.b0 i)=δ:=by exact HJ (by rw[uB M,uB m,P.length,B.length];exact T)
     rw[e];exact kY hab (sR p r (by simpa using T) (by omega))
 |.E,C,x,y,u,v,A,G,l,w,o,R=>by
  subst G;cases C with
  |cx i=>obtain⟨b,E,rfl,h,m⟩:=l;cases o;cases w;obtain⟨f,B,r,_⟩:=I.tuple h;exact tu (show s.heap.IsTuple b f.toArray from r) (by omega)
  |b0 i=>obtain⟨b,E,rfl,h,m⟩:=l;cases o;cases w;obtain⟨f,B,r,_⟩:=I.list h;exact tP r.isList (by omega)
  |_=>unfold eg at l;subst l;exact HB w o U U
 |.I c,C,x,y,u,v,A,G,l,w,o,R=>by
  subst G;cases C with
  |cx i=>obtain⟨b,E,rfl,h,m⟩:=l;cases o;cases w;obtain⟨f,B,r,_⟩:=I.tuple h;exact tw c (show s.heap.IsTuple b f.toArray from r) (by omega)
  |b0 i=>obtain⟨b,E,rfl,h,m⟩:=l;cases o;cases w;obtain⟨f,B,r,_⟩:=I.list h;exact tQ c r.isList (by omega)
  |_=>unfold eg at l;subst l;exact HB w o U U
 |.int c,C,x,y,u,v,A,G,l,w,o,R=>by
  subst G;cases C with
  |cx i=>obtain⟨b,E,rfl,h,m⟩:=l;cases o;obtain⟨t,rfl⟩:=w;obtain⟨f,B,r,_⟩:=I.tuple h;exact tR c t (show s.heap.IsTuple b f.toArray from r) (by omega)
  |b0 i=>obtain⟨b,E,rfl,h,m⟩:=l;cases o;obtain⟨t,rfl⟩:=w;obtain⟨f,B,r,_⟩:=I.list h;exact t6 c t r.isList (by omega)
  |_=>unfold eg at l;subst l;exact HB w o U U
 |.str c,C,x,y,u,v,A,G,l,w,o,R=>by
  subst G;cases C with
  |cx i=>obtain⟨b,E,rfl,h,m⟩:=l;cases o;obtain⟨t,rfl⟩:=w;obtain⟨f,B,r,_⟩:=I.tuple h;exact tS c t (show s.heap.IsTuple b f.toArray from r) (by omega)
  |b0 i=>obtain⟨b,E,rfl,h,m⟩:=l;cases o;obtain⟨t,rfl⟩:=w;obtain⟨f,B,r,_⟩:=I.list h;exact t7 c t r.isList (by omega)
  |_=>unfold eg at l;subst l;exact HB w o U U
theorem A8(I:d3 X pins σ H s):∀(b a:List Dq) (f h:bJ) (c e:List ab) (A:aK),b? X.K H b f->b? X.K H a h->en f c->en h e->A.units+vT b+vT a<cLine->
  ∀(j:Nat) (i:j<c.length) (l:j<e.length),iV A s c[j] e[j] (eAt b a j)
 |[],a,f,h,c,e,A,m,o,p,q,B,j,i,l=>by
  have:=uB m;have:=p.length;simp only[fW]at *
  omega
 |d::b,[],f,h,c,e,A,m,o,p,q,B,j,i,l=>by
  have:=uB o;have:=q.length;simp only[fW]at *
  omega
 |d::b,r::a,f,h,c,e,A,m,o,p,q,B,j,i,l=>by
  obtain⟨x,J,rfl,t,u⟩:=m;obtain⟨y,M,rfl,w,z⟩:=o;have N:vT (d::b)=max (g? d) (vT b):=by rw[vT]
  have P:vT (r::a)=max (g? r) (vT a):=by rw[vT]
  cases p with
  |cons F G=>
   cases q with
   |cons C E=>
    cases j with
    |zero=>exact RE I d r x y _ _ A t w F C (by omega)
    |succ j=>exact A8 I b a J M _ _ A u z G E (by omega) j (by simpa using i) (by simpa using l)
end
def RF:Dq->Dq->Bool
 |.cx _,.cx _=>γ
 |.b0 _,.b0 _=>γ
 |_,_=>δ
def Nt(K:au)(neg:Bool):R2:=λx y H Q=>∃d a,eg K H d x/\eg K H a y/\RF d a=γ/\g? d<=20/\g? a<=20/\Q (.I (if neg then !qq d a else qq d a)) H
def Y2(hu:X.A.units+64<cLine):i0 X (bB .Eq) (Nt X.K δ):=by
 intro pins s σ H x y u v Q I W Y h;obtain⟨d,R,S,T,hd,B,C,q⟩:=h;cases d with
 |cx i=>
  cases R with
  |cx c=>
   have G:g? (.cx i)=vT i+1:=by rw[g?]
   have J:g? (.cx c)=vT c+1:=by rw[g?]
   obtain⟨a,N,rfl,M,r⟩:=S;obtain⟨b,P,rfl,o,l⟩:=T;cases W;cases Y;obtain⟨m,t,p,_⟩:=I.tuple M;obtain⟨f,w,F,_⟩:=I.tuple o;refine SeqAt.eq_tupleAt (e:=eAt i c) (show s.heap.IsTuple a m.toArray from p) (show s.heap.IsTuple b f.toArray from F) (by omega) (λj B C=>?_) ?_
   .have z:=A8 I i c N P m f X.A.in1 r l t w (by show X.A.units+1+vT i+vT c<cLine;omega) j (by simpa using B) (by simpa using C);simpa using z
   .rw[A3 (by rw[uB r,t.length];simp) (by rw[uB l,w.length];simp)];exact u9 I q U
  |_=>exact nomatch hd
 |b0 i=>
  cases R with
  |b0 c=>
   have G:g? (.b0 i)=vT i+1:=by rw[g?]
   have J:g? (.b0 c)=vT c+1:=by rw[g?]
   obtain⟨a,N,rfl,M,r⟩:=S;obtain⟨b,P,rfl,o,l⟩:=T;cases W;cases Y;obtain⟨m,t,p,_⟩:=I.list M;obtain⟨f,w,F,_⟩:=I.list o;by_cases E:m.length=f.length
   .refine SeqAt.eq_listAt (e:=eAt i c) p.isList F.isList (by simpa using E) (by omega) (λj B C=>?_) ?_
    .have z:=A8 I i c N P m f X.A.in1 r l t w (by show X.A.units+1+vT i+vT c<cLine;omega) j (by simpa using B) (by simpa using C);simpa using z
    .rw[Cf (by rw[uB r,t.length];simp) (by rw[uB l,w.length,<- E];simp)];exact u9 I q U
   .refine nL p.isList F.isList (by simpa using E) (by omega) ?_;have e:Du i c=δ:=HJ (by rw[uB r,uB l,t.length,w.length];exact E);rw[show qq (.b0 i) (.b0 c)=δ from e]at q;exact u9 I q U
  |_=>exact nomatch hd
 |_=>exact nomatch hd
def Y3(hu:X.A.units+64<cLine):i0 X (bB .NotEq) (Nt X.K γ):=by
 intro pins s σ H x y u v Q I Y rv h;obtain⟨d,S,T,W,hd,C,E,q⟩:=h;cases d with
 |cx l=>
  cases S with
  |cx c=>
   have J:g? (.cx l)=vT l+1:=by rw[g?]
   have M:g? (.cx c)=vT c+1:=by rw[g?]
   obtain⟨a,P,rfl,N,r⟩:=T;obtain⟨b,R,rfl,o,i⟩:=W;cases Y;cases rv;obtain⟨m,t,p,_⟩:=I.tuple N;obtain⟨f,B,G,_⟩:=I.tuple o;have w:=t8 (A:=X.A) (show s.heap.IsTuple a m.toArray from p) (show s.heap.IsTuple b f.toArray from G) (by omega) (λj C E=>by
    have z:=A8 I l c P R m f X.A.in1 r i t B (by show X.A.units+1+vT l+vT c<cLine;omega) j (by simpa using C) (by simpa using E);simpa using z)
   rw[A3 (by rw[uB r,t.length];simp) (by rw[uB i,B.length];simp)]at w;exact w X.prog X.w X.xe _ (u9 I q U)
  |_=>exact nomatch hd
 |b0 l=>
  cases S with
  |b0 c=>
   have J:g? (.b0 l)=vT l+1:=by rw[g?]
   have M:g? (.b0 c)=vT c+1:=by rw[g?]
   obtain⟨a,P,rfl,N,r⟩:=T;obtain⟨b,R,rfl,o,i⟩:=W;cases Y;cases rv;obtain⟨m,t,p,_⟩:=I.list N;obtain⟨f,B,G,_⟩:=I.list o;by_cases F:m.length=f.length
   .have w:=ue (A:=X.A) p.isList G.isList (by simpa using F) (by omega) (λj C E=>by
     have z:=A8 I l c P R m f X.A.in1 r i t B (by show X.A.units+1+vT l+vT c<cLine;omega) j (by simpa using C) (by simpa using E);simpa using z)
    rw[Cf (by rw[uB r,t.length];simp) (by rw[uB i,B.length,<- F];simp)]at w;exact w X.prog X.w X.xe _ (u9 I q U)
   .have e:Du l c=δ:=HJ (by rw[uB r,uB i,t.length,B.length];exact F);rw[show qq (.b0 l) (.b0 c)=δ from e]at q;exact rZ p.isList G.isList (by simpa using F) (by omega) X.prog X.w X.xe _ (u9 I q U)
  |_=>exact nomatch hd
 |_=>exact nomatch hd
end
inductive zO:List Expr->bJ->Prop
 |nil:zO [] []
 |cons {x:Str} {j:Nat} {pos:Pos} {es:List Expr} {vs:bJ} (h:zO es vs):zO (.Constant (.str x) j pos::es) (.str x::vs)
def yn(h:n<=1000):n<=aI:=gb (AC h)
def uL.new(x:uL H a)(c:a p=O)(o:HO):uL H (e0 a p o):=λb u e=>by have z:=x b u e;rw[uH (xf z c)];exact z
structure P8(K:au)(x qual:Str)(st:Stmt)(f:Addr)(fd:cg)(T:Addr):Prop where
 ex:∃(oc:ab) (od:Option Addr) (kV doc pm:ab) (an:Option Addr) (cdv ct:ab) (osl:Array (Option ab)),
  fd=eX x qual (xU st) (vm st) (uS st) (.ref T) kV doc pm an cdv ct/\K.lookup f=Z ⟨oc,od,.func fd,osl⟩/\ib K cdv qual=γ
 kp:dY K (.ref f)=γ
section
variable{P:aJ}{w:aA}{K:au}{mg:Str->Option ab}{b':Heap}
theorem P8.ok{st:Stmt}(F:P8 K x qual st f d T)(S:xn N ps (uS st))(len:∀a H Q E,b a H Q E->a.length=ps.length)
  (hbody:∀(cdv:ab) (A:aK) (d?:List Env) (s:ae) (H:Hp) (a:bJ) (Q:VK) (E:XK),wM k (A.deeper (envOfC qual (uS st) s.heap.objs.size f cdv))->b a H Q E->
   ∃t,n? (LD B? P w K mg b' N qual (uS st) f cdv A d? s H E).nox (vm st) t/\t { nx:=λz c=>Q .E c,rt:=Q } (L2.start N a) H):y4 P w K mg b' B? (k+1) f d ps b:=by
 obtain⟨l,m,kV,doc,pm,i,cdv,j,osl,rfl,lk,hcd⟩:=F.ex;refine Xq lk hcd S len λA d? s H a Q E e hsp=>?_;obtain⟨t,h,q⟩:=hbody cdv A d? s H a Q E e hsp;exact⟨t,h.nox,q⟩
end
theorem P8.p?{K:au}{st:Stmt}{e:aB}{d:List ab}(F:P8 K x qual st f i T)(p:K.lookup T=Z o)(q:o.data=.seq items n)
  (h:∀(kV doc pm:ab) (b:Option Addr) (cdv c:ab) (a:List ab),a.length=e.length - d.length->∃k,bindArgs (eX x qual (xU st) (vm st) (uS st) (.ref T) kV doc pm b cdv c) ⟨a,[]⟩=seqItems? (.ref T)>>=k/\k (Z items)=pure (e.zip (a++d))):k? K i e d:=by
 obtain⟨r,t,kV,doc,pm,b,cdv,c,osl,rfl,lk,hcd⟩:=F.ex;intro s a KX m;obtain⟨k,j,l⟩:=h kV doc pm b cdv c a (by rw[aC]at m;omega);exact BindsTo.of_defaults U (KX _ _ p) q j l
section
variable{X:Cx}
def Nu:i0 X (cG .Mult) (λx y H Q=>∃z n,x=.str z/\y=.int n/\MulOk z n/\Q (.str (eQ z n)) H):=by intro a s i H x y v u Q I c d h;obtain⟨z,n,rfl,rfl,b,q⟩:=h;obtain⟨t,rfl⟩:=c;obtain⟨f,rfl⟩:=d;exact SB.mul b λe k=>⟨.str _,H,I.rl _,⟨e,U⟩,q⟩
theorem DB:∀(tk:Nat) (a:aB),en (a.map V.str) (strValues (numbered tk a))
 |_,[]=>.nil
 |tk,x::r=>.cons ⟨tk,U⟩ (DB (tk+1) r)
def RG:MtR X "str.split" (λx vs H Q=>∃z y:Str,x=.str z/\vs=[.str y]/\(y.length==0)=δ/\z.length+2<=aI/\∀l,H l=O->Q (.ref l) (e0 H l (.b0 ((cO z y).map V.str)))):=by
 intro pins s σ H x vs v us Q I o m h;obtain⟨z,y,rfl,rfl,f,p,q⟩:=h;obtain⟨t,rfl⟩:=o;obtain⟨u,rfl,j⟩:=m.one;obtain⟨d,rfl⟩:=j;have hle:=qa z y;have itself:∀(e:cO z y=[z]),EP X pins σ Q (.ref s.heap.objs.size) { s with heap:=s.heap.push { cls:=.type "list", data:=.seq [Value.str z t].toArray } }:=λe=>by have c:=q s.heap.objs.size (I.ff.fresh (aL _));rw[e]at c;exact⟨.ref _,_,I.lnew (t':=s.toks) (ys:=[V.str z]) (its:=[Value.str z t]) (.cons ⟨t,U⟩ .nil) (by show 1<=aI;decide),U,c⟩
 cases a:(decide (z.length<y.length)||decide (oq z<oq y))
 .cases b:(nM z y 0 z.length (z.length+1)).isEmpty
  .have e:cO z y=sS z (nM z y 0 z.length (z.length+1)) y.length:=by unfold cO;rw[a,b];rfl
   refine gm jE (iU _ _ _) lh (kZ _ _) (meets_str_split_sep z y t d a f b (by omega) (by rw[<-e];omega)) ?_;have c:=q s.heap.objs.size (I.ff.fresh (aL _));rw[<-e,strsFrom_eq];exact⟨.ref _,_,I.lnew (DB s.toks (cO z y)) (by rw[af];omega),U,c⟩
  .refine gm jE (iU _ _ _) lh (kZ _ _) (meets_str_split_not_found z y t d a f b) (itself ?_);unfold cO;rw[a,b];rfl
 .refine gm jE (iU _ _ _) lh (kZ _ _) (meets_str_split_cannot_occur z y t d a) (itself ?_);unfold cO;rw[a];rfl
theorem JK:∀{b:aB} {a:List ab},en (b.map V.str) a->gO a b
 |[],a,h=>by cases h;exact .nil
 |y::r,a,h=>by
  rw[aS]at h;cases h with
  |cons c d=>obtain⟨t,rfl⟩:=c;exact .cons y t (JK d)
end
section
variable{X:Cx}(K:au)
def LO(a:PE X l b)(hK:X.K=K:=by rfl):PI X c l (Q1 K b):=by subst hK;exact U1 a
def Vr(a:PE X l b)(hK:X.K=K:=by rfl):PI X c l (Yv K b):=by subst hK;exact Yy a
def Vt(b:X.nr=γ)(h:K3 X a t)(c:(cZ a X.b1).length=n:=by rfl)(hst:(cZ a X.b1).findIdx? (·.1)=O:=by rfl)(hK:X.K=K:=by rfl):PG X (.Tuple a k pos) (Yr K n t):=by subst hK;exact Ys b h c hst
variable{o e:Expr}{es:List Expr}{to:TE}{t:TA}{name:Str}{apos cpos:Pos}{T id:String}{r:V->bJ->Hp->VK->Prop}
def Nv(f:jT T)(slot:Slot T name id)(hty:typeOf (.builtin id)=pure (.type "method_descriptor"))(b:MtR X id r)(c:PE X o to)(a:PA X (e::es) t)
  (hbase:eG o name X.b1 (eval o X.b1)=eval o X.b1:=by rfl)
  (hfew:((bI cpos (aF (e::es) X.b1)).all (λx=>!x.1)&&(backToKw cpos (dr [] X.b1)).all (λx=>x.1.isSome)
   && decide ((e::es).length+([]:List d4).length+(if ([]:List d4).isEmpty then 0 else 1)<30))=γ:=by rfl)
  (hline:(apos.endLine==cpos.line)=γ:=by rfl) (d:aF (e::es) X.b1=(δ,eval e X.b1)::aF es X.b1:=by rfl) (hplain:(bI cpos (aF es X.b1)).any (·.1)=δ:=by rfl) (hK:X.K=K:=by rfl):
  PE X (.Call (.Attribute o name apos) (e::es) [] cpos) (tBM K T r to t):=by subst hK;exact acH f slot hty b c a hbase hfew hline d hplain
end
end L3
namespace L2
open PySem PySem.Spec PyProof.Rows
section
variable{X:Cx}{pins:cJ}{σ:St}{H:Hp}{s:ae}
def AD(e:H a=Z u)(q:H c=Z v)(d:u≠v)(n:HO):e0 H a n c=Z v:=by rw[uH (λz=>by subst z;rw[e]at q;exact d (cc q))];exact q
def d3.q?(I:d3 X pins σ H s)(e:H a=Z (.dK kvs)):∃o,d3 X pins σ (e0 H a (.n9 o (.dK kvs))) s:=by
 obtain⟨z,y,P,r,f,F,E,l,c⟩:=(show e4 X.prog X.w H s.heap a (.dK kvs) from I.ff a _ e);refine⟨f,?_⟩;have j:=I.step (H':=e0 H a (.n9 f (.dK kvs))) (h':=s.heap) (g':=s.gens) (d':=s.drawn) (t':=s.toks) (ch:=[]) (λv z=>nomatch z) (λb o v v v q v=>q) (λb o v v v q v=>⟨o.slots,q⟩)
  (λb o v v n=>by rw[uH (λz=>by subst z;rw[e]at n;cases n)];exact n) (λb o v q=>⟨o,q⟩) (λb p q=>AD e q (λz=>nomatch z) _) (λb o u q=>AD e q (λz=>nomatch z) _)
  (λb M q=>⟨#[],by rw[AD e q (λz=>nomatch z) _];simp⟩) (λm q=>q) ?_ I.ke
 .obtain⟨h,g,d,t,os⟩:=s;exact j
 .intro b u q;have st:∀{b:Addr} {u:HO},e4 X.prog X.w H s.heap b u->e4 X.prog X.w (e0 H a (.n9 f (.dK kvs))) s.heap b u:=λ{b u} x=>x.Rk (λv v v q=>q) (λc q=>AD e q (λz=>nomatch z) _) λc p q=>AD e q (λz=>nomatch z) _
  by_cases i:b=a
  .subst i;rw[uz]at q;cases q;exact⟨l,st (I.ff b _ e)⟩
  .rw[uH i]at q;exact st (I.ff b u q)
def PE.θ(h:PE X e t):PE X e (λσ H Q=>t σ H λx b=>Q x b\/∃a kvs,b a=Z (.dK kvs)/\∀o,Q x (e0 b a (.n9 o (.dK kvs)))):=λpins s σ H Q I i=>
 fu (h pins s σ H _ I i) λu l ⟨x,b,c,d,j⟩=>by
  rcases j with q|⟨a,kvs,e,q⟩
  .exact⟨x,b,c,d,q⟩
  .obtain⟨o,f⟩:=c.q? e;exact⟨x,_,f,d,q o⟩
end
end L2
namespace L4
open PySem PySem.Spec PyProof.Rows L2 L3
abbrev St:=L2.St
inductive D where
 |E|I (b:Bool)|int (i:Int)|str (x:Str)
 |cx (ds:List D)|b0 (ds:List D)
 |Q (ds:List D)
 |obj (c:Nat) (ns:aB) (ds:List D)
 |J (ks:List ey) (ds:List D)
 |X (ks:List (List ey)) (ds:List D)
abbrev bh:=List D
structure Bg where
 K:au
 ca:Nat->Addr
 hs:List ey->Int
def isO(a:Addr)(o:Obj):Heap->Prop:=λh=>h.get? a=Z o
structure DtE(hs:List ey->Int)(o:Obj)(qs:List (List ey×Addr×ab)):Prop where
 ex:o.ExactDict
 da:∃es ep,o.data=.dict es ep/\es.toList=qs.map λq=>⟨hs q.1,.ref q.2.1,q.2.2⟩
 nd:(qs.map (·.1)).Nodup
 sz:qs.length<=1000
def DtO(G:Bg)(H:Hp)(a:Addr)(c:List (List ey))(d:bJ):Prop:=∃(o:Obj) (b:List (List ey×Addr×ab)),H a=Z (.ext (isO a o))/\(a==c6)=δ/\DtE G.hs o b/\b.map (·.1)=c/\(∀q∈b,f3 G.K H q.2.1 (q.1.map kV))/\en d (b.map (·.2.2))
mutual
def eg(G:Bg)(H:Hp):D->V->Prop
 |.E,v=>v=.E
 |.I b,v=>v=.I b
 |.int i,v=>v=.int i
 |.str x,v=>v=.str x
 |.cx e,v=>∃a d,v=.ref a/\f3 G.K H a d/\b? G H e d
 |.b0 e,v=>∃a d,v=.ref a/\H a=Z (.b0 d)/\b? G H e d
 |.Q e,v=>∃a d,v=.ref a/\fx G.K H a d/\b? G H e d
 |.obj c h e,v=>∃a j d,v=.ref a/\H a=Z (.mu (G.ca c) j (h.zip d))/\h.length=d.length/\b? G H e d
 |.J f e,v=>∃a o d,v=.ref a/\H a=Z (.n9 o (.dK (f.zip d)))/\f.length=d.length/\b? G H e d
 |.X f e,v=>∃a d,v=.ref a/\DtO G H a f d/\b? G H e d
def b?(G:Bg)(H:Hp):bh->bJ->Prop
 |[],a=>a=[]
 |d::b,a=>∃v r,a=v::r/\eg G H d v/\b? G H b r
end
def f3.mono{K:au}{H b:Hp}{a:Addr}{c:bJ}(e:uL H b)(h:f3 K H a c):f3 K b a c:=by
 rcases h with (h|⟨o,h⟩)|h
 .exact .inl (.inl (e _ _ h))
 .exact .inl (.inr ⟨o,e _ _ h⟩)
 .exact .inr h
theorem DtO.mono{G:Bg}{H b:Hp}{a:Addr}{ks:List (List ey)}{c:bJ}(e:uL H b)(h:DtO G H a ks c):DtO G b a ks c:=by obtain⟨o,r,d,f,i,j,l,m⟩:=h;exact⟨o,r,e _ _ d,f,i,j,λq p=>f3.mono e (l q p),m⟩
mutual
theorem eg.mono{G:Bg}{H q:Hp}(e:uL H q):∀(d:D) (v:V),eg G H d v->eg G q d v
 |.E,v,h=>by unfold eg at h ⊢;exact h
 |.I b,v,h=>by unfold eg at h ⊢;exact h
 |.int i,v,h=>by unfold eg at h ⊢;exact h
 |.str x,v,h=>by unfold eg at h ⊢;exact h
 |.cx j,v,h=>by obtain⟨a,f,rfl,l,m⟩:=h;exact⟨a,f,U,f3.mono e l,b?.mono e j f m⟩
 |.b0 j,v,h=>by obtain⟨a,f,rfl,l,m⟩:=h;exact⟨a,f,U,e _ _ l,b?.mono e j f m⟩
 |.Q j,v,h=>by obtain⟨a,f,rfl,l,m⟩:=h;exact⟨a,f,U,e.seq l,b?.mono e j f m⟩
 |.obj c u j,v,h=>by obtain⟨a,r,f,rfl,l,m,p⟩:=h;exact⟨a,r,f,U,e _ _ l,m,b?.mono e j f p⟩
 |.J t j,v,h=>by obtain⟨a,o,f,rfl,l,m,p⟩:=h;exact⟨a,o,f,U,e _ _ l,m,b?.mono e j f p⟩
 |.X t j,v,h=>by obtain⟨a,f,rfl,l,m⟩:=h;exact⟨a,f,U,l.mono e,b?.mono e j f m⟩
theorem b?.mono{G:Bg}{H c:Hp}(e:uL H c):∀(a:bh) (b:bJ),b? G H a b->b? G c a b
 |[],b,h=>by unfold b? at h ⊢;exact h
 |d::a,b,h=>by obtain⟨v,r,rfl,f,i⟩:=h;exact⟨v,r,U,eg.mono e d v f,b?.mono e a r i⟩
end
section
variable{G:Bg}{H:Hp}
def u7:b? G H [] []:=by unfold b?;rfl
def vg{d:D}{v:V}{b:bh}{a:bJ}(h:eg G H d v)(r:b? G H b a):b? G H (d::b) (v::a):=by unfold b?;exact⟨v,a,U,h,r⟩
theorem uB:∀{b:bh} {a:bJ},b? G H b a->b.length=a.length
 |[],a,h=>by unfold b? at h;subst h;rfl
 |d::b,a,h=>by obtain⟨v,r,rfl,_,c⟩:=h;rw[aP,aP,uB c]
theorem wy:∀{e a:bh} {b c:bJ},b? G H e b->b? G H a c->b? G H (e++a) (b++c)
 |[],a,b,c,h,f=>by unfold b? at h;subst h;exact f
 |d::e,a,b,c,h,f=>by obtain⟨v,r,rfl,i,j⟩:=h;exact vg i (wy j f)
theorem zl:∀{b:bh} {a:bJ} {i:Nat} {d:D},b? G H b a->b[i]?=Z d->∃v,a[i]?=Z v/\eg G H d v
 |[],a,i,d,h,e=>by simp at e
 |j::b,a,i,d,h,e=>by
  obtain⟨v,r,rfl,c,f⟩:=h;cases i with
  |zero=>simp at e;subst e;exact⟨v,U,c⟩
  |succ i=>simpa using zl f (by simpa using e)
theorem Fy:∀{ds:bh} {a:bJ} (n:Nat),b? G H ds a->b? G H (ds.drop n) (a.drop n)
 |ds,a,0,h=>h
 |[],a,n+1,h=>by unfold b? at h;subst h;exact u7
 |d::ds,a,n+1,h=>by obtain⟨v,r,rfl,c,b⟩:=h;exact Fy n b
theorem FB:∀{ds:bh} {a:bJ} (n:Nat),b? G H ds a->b? G H (ds.take n) (a.take n)
 |ds,a,0,h=>u7
 |[],a,n+1,h=>by unfold b? at h;subst h;exact u7
 |d::ds,a,n+1,h=>by obtain⟨v,r,rfl,b,c⟩:=h;exact vg b (FB n c)
def Dh{a:Addr}{b:bJ}{c:bh}(h:f3 G.K H a b)(r:b? G H c b):eg G H (.cx c) (.ref a):=by unfold eg;exact⟨a,b,U,h,r⟩
def Di{a:Addr}{b:bJ}{c:bh}(h:H a=Z (.b0 b))(r:b? G H c b):eg G H (.b0 c) (.ref a):=by unfold eg;exact⟨a,b,U,h,r⟩
def wN(i:Int):eg G H (.int i) (.int i):=by unfold eg;rfl
def wZ(i:Bool):eg G H (.I i) (.I i):=by unfold eg;rfl
def y6(i:Str):eg G H (.str i) (.str i):=by unfold eg;rfl
def zP:eg G H .E .E:=by unfold eg;rfl
end
inductive Sl where
 |un
 |q (d:D)
 |M (ds:bh)
 |pm (ds:bh)
 |dk (ks:List ey) (ds:bh)
 |ob (c:Nat) (ns:aB) (ds:bh)
abbrev aU:=List Sl
def Sl.iE:Sl->Bool
 |.M _=>γ
 |.pm _=>γ
 |.dk _ _=>γ
 |.ob _ _ _=>γ
 |_=>δ
structure Fr where
 B0:Hp
 B:Hp
 A:List Addr
def DY(G:Bg)(F:Fr)(e H:Hp)(o:Option V):Sl->Prop
 |.un=>True
 |.q d=>∃v,o=Z v/\eg G e d v
 |.M f=>∃a b,o=Z (.ref a)/\H a=Z (.b0 b)/\e a=O/\F.B a=O/\b? G e f b
 |.pm f=>∃a b,o=Z (.ref a)/\H a=Z (.b0 b)/\e a=O/\a∈F.A/\b? G e f b
 |.dk h f=>∃a b,o=Z (.ref a)/\H a=Z (.dK (h.zip b))/\e a=O/\F.B a=O/\h.length=b.length/\b? G e f b
 |.ob c i f=>∃a j b,o=Z (.ref a)/\H a=Z (.mu (G.ca c) j (i.zip b))/\e a=O/\a∈F.A/\i.length=b.length/\b? G e f b
structure dd(G:Bg)(F:Fr)(σ:St)(ρ:aU)(H0 H:Hp):Prop where
 sub:uL H0 H
 g0:uL F.B0 H0
 keep:∀b o,F.B b=Z o->b∉F.A->H b=Z o
 fr:∀b o,H0 b=Z o->F.B0 b=Z o\/F.B b=O
 am:∀a∈F.A,∃o,H a=Z o
 len:σ.length=ρ.length
 sl:∀(i:Nat) (s:Sl),ρ[i]?=Z s->DY G F H0 H (σ[i]?).join s
 ap:∀(i j:Nat) (s t:Sl) (a:Addr),i≠j->ρ[i]?=Z s->ρ[j]?=Z t->s.iE=γ->t.iE=γ->(σ[i]?).join=Z (.ref a)->(σ[j]?).join=Z (.ref a)->False
theorem DY.at{G:Bg}{F:Fr}{p H:Hp}{o:Option V}{s:Sl}(h:DY G F p H o s)(e:s.iE=γ):∃a u,o=Z (.ref a)/\H a=Z u/\p a=O/\(F.B a=O\/a∈F.A):=by
 cases s with
 |un=>cases e
 |q d=>cases e
 |M l=>obtain⟨a,m,b,f,i,j,_⟩:=h;exact⟨a,_,b,f,i,.inl j⟩
 |pm l=>obtain⟨a,m,b,f,i,j,_⟩:=h;exact⟨a,_,b,f,i,.inr j⟩
 |dk r l=>obtain⟨a,m,b,f,i,j,_⟩:=h;exact⟨a,_,b,f,i,.inl j⟩
 |ob c t l=>obtain⟨a,q,m,b,f,i,j,_⟩:=h;exact⟨a,_,b,f,i,.inr j⟩
def DY.ix{G:Bg}{F:Fr}{t H f y:Hp}{o:Option V}{s:Sl}(h:DY G F t H o s)(p:uL t f)(q:∀a u,o=Z (.ref a)->s.iE=γ->H a=Z u->y a=Z u)
  (r:∀a u,o=Z (.ref a)->s.iE=γ->H a=Z u->t a=O->f a=O):DY G F f y o s:=by
 cases s with
 |un=>trivial
 |q d=>obtain⟨v,b,e⟩:=h;exact⟨v,b,eg.mono p _ _ e⟩
 |M w=>obtain⟨a,m,b,e,i,j,l⟩:=h;exact⟨a,m,b,q _ _ b U e,r _ _ b U e i,j,b?.mono p _ _ l⟩
 |pm w=>obtain⟨a,m,b,e,i,j,l⟩:=h;exact⟨a,m,b,q _ _ b U e,r _ _ b U e i,j,b?.mono p _ _ l⟩
 |dk A w=>obtain⟨a,m,b,e,i,j,l,x⟩:=h;exact⟨a,m,b,q _ _ b U e,r _ _ b U e i,j,l,b?.mono p _ _ x⟩
 |ob c B w=>obtain⟨a,z,m,b,e,i,j,l,x⟩:=h;exact⟨a,z,m,b,q _ _ b U e,r _ _ b U e i,j,l,b?.mono p _ _ x⟩
section
variable{G:Bg}{F:Fr}{σ:St}{ρ:aU}{H0 H H0' H':Hp}
theorem dd.gk(R:dd G F σ ρ H0 H){b:Addr}(h:H b=O):F.B b=O:=by
 cases e:F.B b with
 |none=>rfl
 |some o=>
  by_cases a:b∈F.A
  .obtain⟨c,q⟩:=R.am b a;rw[q]at h;cases h
  .have q:=R.keep b o e a;rw[q]at h;cases h
theorem dd.ix(R:dd G F σ ρ H0 H)(hs:uL H H')(c:uL H0 H0')(sub':uL H0' H')(d:∀b o,H0' b=Z o->H0 b=Z o\/H b=O):dd G F σ ρ H0' H' where
 sub:=sub'
 g0:=R.g0.t c
 keep:=λb o e n=>hs _ _ (R.keep b o e n)
 fr:=λb o e=>by
  rcases d b o e with q|q
  .exact R.fr b o q
  .exact .inr (R.gk q)
 am:=λa ha=>let ⟨xs,q⟩:=R.am a ha;⟨xs,hs _ _ q⟩
 len:=R.len
 sl:=λi s e=>(R.sl i s e).ix c (λa u x x q=>hs _ _ q) λa u x x q f=>by
  cases z:H0' a with
  |none=>rfl
  |some o=>
   rcases d a o z with y|y
   .rw[y]at f;cases f
   .rw[y]at q;cases q
 ap:=R.ap
def uJ{H:Hp}{p:Addr}(a:H p=O)(o:HO):uL H (e0 H p o):=uL.new (uL.refl H) a o
def dd.e7(R:dd G F σ ρ H0 H){p:Addr}(a:H p=O):H0 p=O:=by
 cases e:H0 p with
 |none=>rfl
 |some o=>have:=R.sub _ _ e;rw[this]at a;cases a
def RH{H0 H:Hp}(s:uL H0 H)(p:Addr)(o:HO):uL (e0 H0 p o) (e0 H p o):=λb u e=>by
 by_cases a:b=p
 .subst a;rw[uz]at e ⊢;exact e
 .rw[uH a]at e ⊢;exact s _ _ e
def dd.zE(R:dd G F σ ρ H0 H){p:Addr}(a:H p=O)(o:HO):dd G F σ ρ (e0 H0 p o) (e0 H p o):=
 R.ix (uJ a o) (uJ (R.e7 a) o) (RH R.sub p o) λb u e=>by
  by_cases c:b=p
  .subst c;exact .inr a
  .rw[uH c]at e;exact .inl e
def dd.f?(R:dd G F σ ρ H0 H){p:Addr}(a:H p=O)(o:HO):dd G F σ ρ H0 (e0 H p o):=
 R.ix (uJ a o) (uL.refl _) (λb u e=>by rw[uH (xf (R.sub _ _ e) a)];exact R.sub _ _ e) λb u e=>.inl e
def rm(σ:St)(ρ:aU)(p:Addr):Prop:=∀(i:Nat) (s:Sl),ρ[i]?=Z s->s.iE=γ->(σ[i]?).join≠Z (.ref p)
def dd.apart(R:dd G F σ ρ H0 H){p:Addr}(d:H p=O):rm σ ρ p:=λi s e so z=>by obtain⟨a,u,b,c,_⟩:=(R.sl i s e).at so;rw[z]at b;cases b;rw[d]at c;cases c
theorem dd.q?(R:dd G F σ ρ H0 H){p:Addr}{o:HO}(h:H p=Z o)(f:H0 p=O)(d:F.B p=O)(ap:rm σ ρ p):dd G F σ ρ (e0 H0 p o) H where
 sub:=λb u e=>by
  by_cases d:b=p
  .subst d;rw[uz]at e;cases e;exact h
  .rw[uH d]at e;exact R.sub _ _ e
 g0:=R.g0.t (uJ f o)
 keep:=R.keep
 fr:=λb u e=>by
  by_cases c:b=p
  .subst c;exact .inr d
  .rw[uH c]at e;exact R.fr _ _ e
 am:=R.am
 len:=R.len
 sl:=λi s e=>(R.sl i s e).ix (uJ f o) (λa u x x q=>q) λa u z so q j=>by rw[uH (λy=>ap i s e so (by rw[z,y]))];exact j
 ap:=R.ap
def LP{σ:St}{i j:Nat}{v:Option V}(a:i<σ.length):((σ.set i v)[j]?).join=if j=i then v else (σ[j]?).join:=by
 rw[cw];by_cases h:i=j
 .subst h;simp[a]
 .rw[aj h,aj (λz=>h z.symm)]
set_option tactic.hygienic true
theorem dd.set(R:dd G F σ ρ H0 H){i:Nat}{v:V}{s:Sl}(hs:DY G F H0 H (Z v) s)(ap:s.iE=γ->∀a,v=.ref a->∀(j:Nat) (t:Sl),j≠i->ρ[j]?=Z t->t.iE=γ->(σ[j]?).join≠Z (.ref a)):
  dd G F (σ.set i (Z v)) (ρ.set i s) H0 H where
 sub:=R.sub
 g0:=R.g0
 keep:=R.keep
 fr:=R.fr
 am:=R.am
 len:=by rw[fX,fX,R.len]
 sl:=λj t e=>by
  rw[cw]at e;by_cases h:i=j
  .subst h;rw[ah U]at e;split at e
   .rename_i hi;cases e;rw[LP (by rw[R.len];exact hi),ah U];exact hs
   .cases e
  .rw[aj h]at e;have A:=R.sl j t e;rw[cw,aj h];exact A
 ap:=λj k t u a hjk q f p tk b vk=>by
  have pw:∀{m:Nat} {x:Sl},(ρ.set i s)[m]?=Z x->m≠i->ρ[m]?=Z x/\((σ.set i (Z v))[m]?).join=(σ[m]?).join:=λ{m x} e hm=>by rw[cw,aj (λz=>hm z.symm)]at e;exact⟨e,by rw[cw,aj (λz=>hm z.symm)]⟩
  have self:∀{x:Sl},(ρ.set i s)[i]?=Z x->x=s/\((σ.set i (Z v))[i]?).join=Z v:=λ{x} e=>by
   rw[cw,ah U]at e;split at e
   .rename_i hi;cases e;exact⟨U,by rw[LP (by rw[R.len];exact hi),ah U]⟩
   .cases e
  by_cases o:j=i
  .subst o;obtain⟨rfl,l⟩:=self q;rw[l]at b;cases b;obtain⟨c,d⟩:=pw f (λz=>hjk z.symm);rw[d]at vk;exact ap p a U k u (λz=>hjk z.symm) c tk vk
  .obtain⟨c,d⟩:=pw q o;by_cases r:k=i
   .subst r;obtain⟨rfl,l⟩:=self f;rw[l]at vk;cases vk;rw[d]at b;exact ap tk a U j t o c p b
   .obtain⟨w,y⟩:=pw f r;rw[d]at b;rw[y]at vk;exact R.ap j k t u a hjk c w p tk b vk
set_option tactic.hygienic false
def dd.Z'(R:dd G F σ ρ H0 H)(i:Nat){v:V}{d:D}(h:eg G H0 d v):dd G F (σ.set i (Z v)) (ρ.set i (.q d)) H0 H:=R.set ⟨v,U,h⟩ λz=>by cases z
theorem dd.setLs(R:dd G F σ ρ H0 H)(i:Nat){p:Addr}{b:bJ}{c:bh}(o:H p=Z (.b0 b))(l:H0 p=O)(m:F.B p=O)(d:rm σ ρ p)(h:b? G H0 c b):dd G F (σ.set i (Z (.ref p))) (ρ.set i (.M c)) H0 H:=
 R.set ⟨p,b,U,o,l,m,h⟩ λz a e j t z f q=>by cases e;exact d j t f q
def dd.mut(R:dd G F σ ρ H0 H){i:Nat}{a:Addr}{s c:Sl}{o:HO}(hi:ρ[i]?=Z s)(so:s.iE=γ)(ha:(σ[i]?).join=Z (.ref a))(ok:∀H',H' a=Z o->DY G F H0 H' (Z (.ref a)) c)
  (M:c.iE=γ):dd G F σ (ρ.set i c) H0 (e0 H a o):=by
 obtain⟨Q,u,d,S,f,l⟩:=(R.sl i s hi).at so;rw[ha]at d;cases d;exact {
  sub:=λb w e=>by rw[uH (λz=>by rw[z,f]at e;cases e)];exact R.sub _ _ e
  g0:=R.g0
  keep:=λb w e n=>by
   have E:b≠a:=λz=>by
    subst z;rcases l with q|q
    .rw[q]at e;cases e
    .exact n q
   rw[uH E];exact R.keep b w e n
  fr:=R.fr
  am:=λb C=>by
   by_cases z:b=a
   .subst z;exact⟨o,uz⟩
   .rw[uH z];exact R.am b C
  len:=by rw[fX];exact R.len
  sl:=λj t e=>by
   rw[cw]at e;by_cases h:i=j
   .subst h;rw[ah U]at e;split at e
    .cases e;rw[ha];exact ok _ uz
    .cases e
   .rw[aj h]at e;refine(R.sl j t e).ix (uL.refl _) (λb w z to q=>?_) λb w v v v q=>q;rw[uH (λy=>by subst y;exact R.ap j i t s b (λy=>h y.symm) e hi to so z ha)];exact q
  ap:=λj k t u b hjk p r N tk P vk=>by
   have pw:∀{m:Nat} {x:Sl},(ρ.set i c)[m]?=Z x->∃y,ρ[m]?=Z y/\(x.iE=γ->y.iE=γ):=λ{m x} e=>by
    rw[cw]at e;by_cases h:i=m
    .subst h;exact⟨s,hi,λv=>so⟩
    .rw[aj h]at e;exact⟨x,e,λq=>q⟩
   obtain⟨y,A,I⟩:=pw p;obtain⟨z,B,J⟩:=pw r;exact R.ap j k y z b hjk A B (I N) (J tk) P vk }
end
abbrev FE:=aU->Option (D×aU)
abbrev FT:=aU->Option (Bool×aU)
abbrev FA:=aU->Option (bh×aU)
def tF(G:Bg)(f:FE):TE:=λi H Q=>∃F h e d b,dd G F i h e H/\f h=Z (d,b)/\∀v a c,uL e a->dd G F i b a c->eg G a d v->Q v c
def m?(G:Bg)(f:FT):TT:=λi H Q=>∃F h e d b,dd G F i h e H/\f h=Z (d,b)/\∀a c,uL e a->dd G F i b a c->Q d c
def q9(G:Bg)(f:FA):TA:=λj H Q=>∃F i d e b,dd G F j i d H/\f i=Z (e,b)/\∀h a c,uL d a->dd G F j b a c->b? G a e h->Q h c
def u1(G:Bg)(f:FA):TE:=λd H Q=>∃F j e h b,dd G F d j e H/\f j=Z (h,b)/\∀p i a c,uL e a->dd G F d b a c->c p=Z (.b0 i)->a p=O->F.B p=O->rm d b p->b? G a h i->Q (.ref p) c
def PE.eb(h:PE X e t)(w:∀b H Q,d b H Q->t b H Q):PE X e d:=λa s b H Q I c=>h a s b H Q I (w _ _ _ c)
def PT.eb(h:PT X e t)(w:∀b H Q,d b H Q->t b H Q):PT X e d:=λa s b H Q I c=>h a s b H Q I (w _ _ _ c)
def PW.eb(h:PW X e t)(w:∀b H Q,d b H Q->t b H Q):PW X e d:=λf a s b H Q I c=>h f a s b H Q I (w _ _ _ c)
def PA.eb(h:PA X e t)(w:∀b H Q,d b H Q->t b H Q):PA X e d:=λpos a s b H Q I c=>h pos a s b H Q I (w _ _ _ c)
noncomputable def cC(d:D):FE:=λa=>Z (d,a)
noncomputable def cV(i:Nat):FE:=λa=>match a[i]? with
 |some (.q d)=>Z (d,a)
 |_=>O
noncomputable def c1(g:D->Option D) (f:FE):FE:=λb=>match f b with
 |some (d,a)=>match g d with
  |some x=>Z (x,a)
  |none=>O
 |none=>O
noncomputable def c2(g:D->D->Option D) (f c:FE):FE:=λd=>match f d with
 |some (x,a)=>match c a with
  |some (y,b)=>match g x y with
   |some z=>Z (z,b)
   |none=>O
  |none=>O
 |none=>O
def ED(h:c1 g f c=Z (z,b)):∃d,f c=Z (d,b)/\g d=Z z:=by
 unfold c1 at h;cases e:f c with
 |none=>rw[e]at h;cases h
 |some p=>
  obtain⟨d,i⟩:=p;rw[e]at h;cases a:g d with
  |none=>simp only[a]at h;cases h
  |some x=>simp only[a]at h;cases h;exact⟨d,U,a⟩
def Dj(h:c2 g f i j=Z (z,d)):∃x y a,f j=Z (x,a)/\i a=Z (y,d)/\g x y=Z z:=by
 unfold c2 at h;cases e:f j with
 |none=>rw[e]at h;cases h
 |some p=>
  obtain⟨x,a⟩:=p;simp only[e]at h;cases b:i a with
  |none=>simp only[b]at h;cases h
  |some q=>
   obtain⟨y,l⟩:=q;simp only[b]at h;cases c:g x y with
   |none=>simp only[c]at h;cases h
   |some w=>simp only[c]at h;cases h;exact⟨x,y,a,U,b,c⟩
section
variable{X:Cx}{G:Bg}
def Y4{i j pos}:PE X (.Constant (.int i) j pos) (tF G (cC (.int i))):=PE.eb QU λf H Q h=>by obtain⟨F,c,b,d,a,R,e,k⟩:=h;cases e;exact k _ _ _ (uL.refl _) R (wN i)
def acL{i j pos}:PE X (.Constant (.bool i) j pos) (tF G (cC (.I i))):=PE.eb acf λf H Q h=>by obtain⟨F,c,b,d,a,R,e,k⟩:=h;cases e;exact k _ _ _ (uL.refl _) R (wZ i)
def Y5{i j pos}:PE X (.Constant (.str i) j pos) (tF G (cC (.str i))):=PE.eb QV λf H Q h=>by obtain⟨F,c,b,d,a,R,e,k⟩:=h;cases e;exact k _ _ _ (uL.refl _) R (y6 i)
def Y6{j pos}:PE X (.Constant .none j pos) (tF G (cC .E)):=PE.eb Yj λf H Q h=>by obtain⟨F,c,b,d,a,R,e,k⟩:=h;cases e;exact k _ _ _ (uL.refl _) R zP
set_option tactic.hygienic true
def Vu(h:cV i b=Z (d,a)):b[i]?=Z (.q d)/\a=b:=by
 unfold cV at h;split at h
 .rename_i e;cases h;exact⟨e,U⟩
 .cases h
set_option tactic.hygienic false
def yD{a:Type}{o:Option (Option a)}{v:a}(h:o.join=Z v):o=Z (Z v):=by
 cases o with
 |none=>cases h
 |some u=>cases u with
  |none=>cases h
  |some w=>cases h;rfl
def Nw(h:PE X e (Ep i)):PE X e (tF G (cV i)):=PE.eb h λo H Q f=>by obtain⟨F,m,l,d,j,R,e,k⟩:=f;obtain⟨a,rfl⟩:=Vu e;obtain⟨v,b,c⟩:=R.sl i _ a;exact⟨v,yD b,k _ _ _ (uL.refl _) R c⟩
def Vv(h:PE X e (tC v))(r:∀H,eg G H d v):PE X e (tF G (cC d)):=PE.eb h λj H Q a=>by obtain⟨F,i,c,f,b,R,e,k⟩:=a;cases e;exact k _ _ _ (uL.refl _) R (r _)
def j?(G:Bg)(r:R2)(g:D->D->Option D):Prop:=∀x y z b H v u (Q:VK),g x y=Z z->uL b H->eg G b x v->eg G b y u->(∀w,(∀a,uL b a->eg G a z w)->Q w H)->r v u H Q
def Oy(C:j? G r g):∀h H Q,tF G (c2 g f A) h H Q->tOp r (tF G f) (tF G A) h H Q:=λh H Q B=>by obtain⟨F,N,l,d,c,R,e,k⟩:=B;obtain⟨x,y,b,q,t,z⟩:=Dj e;refine⟨F,N,l,x,b,R,q,λv m o M p I=>⟨F,b,m,y,c,p,t,λu i a j R2 J=>?_⟩⟩;exact C x y d i a v u Q z R2.sub (eg.mono j _ _ I) J λw E=>k w i a (M.t j) R2 (E _ (uL.refl _))
def acM(i:i0 X (cG j) r)(h:j? G r g)(d:PE X a (tF G f))(e:PE X b (tF G c)):PE X (.BinOp a j b pos) (tF G (c2 g f c)):=PE.eb (Q4 i d e) (Oy h)
def Y7(l:i0 X (bB c) r)(j:j? G r g)(e:PE X a (tF G f))(h:PE X b (tF G d))(i:fY c b=δ):PE X (.Compare a [c] [b] pos) (tF G (c2 g f d)):=PE.eb (U6 l e h i) (Oy j)
def acN(i:π X r)(h:j? G r g)(d:PE X a (tF G f))(e:PE X b (tF G c))(j:Ox b):PE X (.Subscript a b pos) (tF G (c2 g f c)):=PE.eb (acD i d e j) (Oy h)
def cT(f:FE):FT:=λc=>match f c with
 |some (.I b,a)=>Z (b,a)
 |_=>O
set_option tactic.hygienic true
def Oz(h:cT f c=Z (b,a)):f c=Z (.I b,a):=by
 unfold cT at h;split at h
 .rename_i e;cases h;exact e
 .cases h
set_option tactic.hygienic false
def OA:∀b H Q,m? G (cT f) b H Q->Q7 (tF G f) b H Q:=λb H Q j=>by obtain⟨F,l,c,d,a,R,e,k⟩:=j;refine⟨F,l,c,_,a,R,Oz e,λv h m s i r=>?_⟩;exact⟨d,r,k _ _ s i⟩
def Vw(u:i0 X (bB h) r)(t:j? G r g)(m:PE X a (tF G f))(o:PE X b (tF G l))(q:fY h b=δ):
  PT X (.Compare a [h] [b] pos) (m? G (cT (c2 g f l))):=PT.eb (U7 u m o q) λi H Q p=>by
 obtain⟨F,w,j,d,c,R,e,k⟩:=OA i H Q p;exact Oy t i H _ ⟨F,w,j,d,c,R,e,k⟩
def Vx(h:PE X e (tF G f))(j:∀whole,isTrue e X.b1 whole=(do let v<-whole;standAt e.pos;holding [v] (truthy v)):=by intro _;rfl):PT X e (m? G (cT f)):=PT.eb (Yk h j) λp H Q l=>by obtain⟨F,m,b,d,a,R,e,k⟩:=l;refine⟨F,m,b,_,a,R,Oz e,λv c o s i r=>?_⟩;exact⟨d,r,k _ _ s i⟩
def vZ(f:FT):FT:=λc=>match f c with
 |some (b,a)=>Z (!b,a)
 |none=>O
def w6(f g:FT):FT:=λb=>match f b with
 |some (γ,a)=>g a
 |r=>r
def wH(f g:FT):FT:=λb=>match f b with
 |some (δ,a)=>g a
 |r=>r
def Vy(h:PT X a (m? G f)):PT X (.UnaryOp .Not a pos) (m? G (vZ f)):=PT.eb (Yn h) λu H Q o=>by
 obtain⟨F,i,j,d,q,R,e,k⟩:=o;unfold vZ at e;cases c:f i with
 |none=>simp only[c]at e;cases e
 |some p=>obtain⟨b,r⟩:=p;simp only[c]at e;cases e;exact⟨F,i,j,b,_,R,c,λl t s m=>k _ _ s m⟩
def Y8:∀m H Q,m? G (w6 f g) m H Q->tAnd (m? G f) (m? G g) m H Q:=λm H Q t=>by
 obtain⟨F,j,o,d,l,R,e,k⟩:=t;unfold w6 at e;cases c:f j with
 |none=>simp only[c]at e;cases e
 |some p=>
  obtain⟨b,h⟩:=p;cases b with
  |true=>simp only[c]at e;exact⟨F,j,o,γ,h,R,c,λa q s i=>KO ⟨F,h,a,d,l,i,e,λw r u R2=>k _ _ (s.t u) R2⟩⟩
  |false=>simp only[c]at e;cases e;exact⟨F,j,o,δ,_,R,c,λa q s i=>KN (k _ _ s i)⟩
def acO:∀m H Q,m? G (wH f g) m H Q->tOr (m? G f) (m? G g) m H Q:=λm H Q t=>by
 obtain⟨F,j,o,d,l,R,e,k⟩:=t;unfold wH at e;cases c:f j with
 |none=>simp only[c]at e;cases e
 |some p=>
  obtain⟨b,h⟩:=p;cases b with
  |false=>simp only[c]at e;exact⟨F,j,o,δ,h,R,c,λa q s i=>KN ⟨F,h,a,d,l,i,e,λw r u R2=>k _ _ (s.t u) R2⟩⟩
  |true=>simp only[c]at e;cases e;exact⟨F,j,o,γ,_,R,c,λa q s i=>KO (k _ _ s i)⟩
def RI(h:PT X a (m? G f)):PW X (.BoolOp .And [a] pos) (m? G f):=UY h
def Vz(h:PT X a (m? G f)):PW X (.BoolOp .Or [a] pos) (m? G f):=Yl h
def VA{fb:List Expr}(c:PT X a (m? G f))(d:PW X (.BoolOp .And (b::fb) pos) (m? G g)):PW X (.BoolOp .And (a::b::fb) pos) (m? G (w6 f g)):=PW.eb (Ym c d) Y8
def RJ{fb:List Expr}(c:PT X a (m? G f))(d:PW X (.BoolOp .Or (b::fb) pos) (m? G g)):PW X (.BoolOp .Or (a::b::fb) pos) (m? G (wH f g)):=PW.eb (ach c d) acO
def vU(f g:FE):FE:=λb=>match f b with
 |some (.I γ,a)=>g a
 |some (.I δ,a)=>Z (.I δ,a)
 |_=>O
def Hs(f g:FE):FE:=λb=>match f b with
 |some (.I δ,a)=>g a
 |some (.I γ,a)=>Z (.I γ,a)
 |_=>O
def HL(f:FE):FE:=λc=>match f c with
 |some (.I b,a)=>Z (.I !b,a)
 |_=>O
def u2(c:FT)(f g:FE):FE:=λb=>match c b with
 |some (γ,a)=>f a
 |some (δ,a)=>g a
 |none=>O
def Y9{b}(h:PE X a (tF G f)):PE X (.BoolOp b [a] pos) (tF G f):=Yo h
def LQ{f:FE}{ρ:aU}:(∃a,f ρ=Z (.I γ,a))\/(∃a,f ρ=Z (.I δ,a))\/(∀b a,f ρ≠Z (.I b,a)):=by
 by_cases c:∃a,f ρ=Z (.I γ,a)
 .exact .inl c
 by_cases d:∃a,f ρ=Z (.I δ,a)
 .exact .inr (.inl d)
 refine .inr (.inr λb a z=>?_);cases b with
 |true=>exact c ⟨a,z⟩
 |false=>exact d ⟨a,z⟩
set_option tactic.hygienic true
def P9(h:∀b a,f ρ≠Z (.I b,a)):vU f g ρ=O:=by
 unfold vU;split
 .rename_i e;exact ar e (h _ _)
 .rename_i e;exact ar e (h _ _)
 .rfl
def RK(h:∀b a,f ρ≠Z (.I b,a)):Hs f g ρ=O:=by
 unfold Hs;split
 .rename_i e;exact ar e (h _ _)
 .rename_i e;exact ar e (h _ _)
 .rfl
set_option tactic.hygienic false
def Za{fb:List Expr}(u:PE X a (tF G f))(w:PE X (.BoolOp .And (b::fb) pos) (tF G g)):PE X (.BoolOp .And (a::b::fb) pos) (tF G (vU f g)):=PE.eb (Yp u w) λC H Q x=>by
 obtain⟨F,i,p,d,o,R,e,k⟩:=x;rcases LQ (f:=f) (ρ:=i)with ⟨h,c⟩|⟨h,c⟩|c
 .have m:=by unfold vU at e;simp only[c]at e;exact e
  refine⟨F,i,p,_,h,R,c,λv q j s l r=>?_⟩;refine⟨γ,r,?_⟩;exact KO ⟨F,h,q,d,o,l,m,λv B t A R2 z=>k _ _ _ (s.t A) R2 z⟩
 .have m:=by unfold vU at e;simp only[c]at e;exact e
  cases m;refine⟨F,i,p,_,_,R,c,λv q j s l r=>?_⟩;have y:=r;refine⟨δ,y,?_⟩;exact KN (k _ _ _ s l (wZ δ))
 .rw[P9 c]at e;cases e
def acP{fb:List Expr}(u:PE X a (tF G f))(w:PE X (.BoolOp .Or (b::fb) pos) (tF G g)):PE X (.BoolOp .Or (a::b::fb) pos) (tF G (Hs f g)):=PE.eb (ack u w) λB H Q x=>by
 obtain⟨F,i,p,d,o,R,e,k⟩:=x;rcases LQ (f:=f) (ρ:=i)with ⟨h,c⟩|⟨h,c⟩|c
 .have m:=by unfold Hs at e;simp only[c]at e;exact e
  cases m;refine⟨F,i,p,_,_,R,c,λv q j s l r=>?_⟩;refine⟨γ,r,?_⟩;exact KO (k _ _ _ s l (wZ γ))
 .have m:=by unfold Hs at e;simp only[c]at e;exact e
  refine⟨F,i,p,_,h,R,c,λv q j s l r=>?_⟩;refine⟨δ,r,?_⟩;exact KN ⟨F,h,q,d,o,l,m,λv A t z R2 y=>k _ _ _ (s.t z) R2 y⟩
 .rw[RK c]at e;cases e
set_option tactic.hygienic true
def Zb(l:PE X a (tF G f)):PE X (.UnaryOp .Not a pos) (tF G (HL f)):=PE.eb (Yq l) λu H Q m=>by
 obtain⟨F,o,c,d,p,R,e,k⟩:=m;unfold HL at e;split at e
 .rename_i b q j;cases e;refine⟨F,o,c,_,_,R,j,λv t h s i r=>?_⟩;exact⟨b,r,k _ _ _ s i (wZ _)⟩
 .cases e
set_option tactic.hygienic false
def acQ(B:PT X c (m? G h))(z:PE X a (tF G f))(A:PE X b (tF G g)):PE X (.IfExp c a b pos) (tF G (u2 h f g)):=PE.eb (QW B z A) λE H Q C=>by
 obtain⟨F,u,w,d,j,R,e,k⟩:=C;unfold u2 at e;cases l:h u with
 |none=>simp only[l]at e;cases e
 |some p=>
  obtain⟨b,i⟩:=p;refine⟨F,u,w,b,i,R,l,λr x s t=>?_⟩;cases b with
  |true=>simp only[l]at e;exact KO ⟨F,i,r,d,j,t,e,λv y m q R2 o=>k _ _ _ (s.t q) R2 o⟩
  |false=>simp only[l]at e;exact KN ⟨F,i,r,d,j,t,e,λv y m q R2 o=>k _ _ _ (s.t q) R2 o⟩
noncomputable def uQ:FA:=λa=>Z ([],a)
noncomputable def ax(f:FE) (g:FA):FA:=λe=>match f e with
 |some (d,a)=>match g a with
  |some (c,b)=>Z (d::c,b)
  |none=>O
 |none=>O
def Nx(h:ax f g i=Z (j,c)):∃d r a,f i=Z (d,a)/\g a=Z (r,c)/\j=d::r:=by
 unfold ax at h;cases e:f i with
 |none=>rw[e]at h;cases h
 |some p=>
  obtain⟨x,a⟩:=p;simp only[e]at h;cases b:g a with
  |none=>simp only[b]at h;cases h
  |some q=>obtain⟨y,l⟩:=q;simp only[b]at h;cases h;exact⟨x,y,a,U,b,U⟩
def xp:PA X [] (q9 G uQ):=PA.eb Ae λh H Q a=>by obtain⟨F,f,c,d,b,R,e,k⟩:=a;cases e;exact k _ _ _ (uL.refl _) R u7
def we(t:PE X e (tF G f))(w:PA X b (q9 G g))(y:aF (e::b) X.b1=(δ,eval e X.b1)::aF b X.b1:=by rfl):PA X (e::b) (q9 G (ax f g)):=PA.eb (xm t w y) λE H Q u=>by obtain⟨F,A,i,d,c,R,e,k⟩:=u;obtain⟨x,r,a,p,q,rfl⟩:=Nx e;exact⟨F,A,i,x,a,R,p,λv j l s o z=>⟨F,a,j,r,c,o,q,λC B m h R2 rs=>k _ _ _ (s.t h) R2 (vg (eg.mono h _ _ z) rs)⟩⟩
def uO(g:FA):FE:=λc=>match g c with
 |some (b,a)=>if b.length<=1000 then Z (.cx b,a)else O
 |none=>O
def uK(g:FA):FA:=λc=>match g c with
 |some (b,a)=>if b.length<=1000 then Z (b,a)else O
 |none=>O
set_option tactic.hygienic true
def Zc{q}(h:PA X l (q9 G g)):PE X (.Tuple l q pos) (tF G (uO g)):=PE.eb (Rf h) λy H Q m=>by
 obtain⟨F,f,i,d,r,R,e,k⟩:=m;unfold uO at e;cases b:g f with
 |none=>simp only[b]at e;cases e
 |some p=>
  obtain⟨w,t⟩:=p;simp only[b]at e;split at e
  .rename_i o;cases e;refine⟨F,f,i,_,_,R,b,λx u j s a rs=>⟨by rw[<-uB rs];exact yn o,λp c=>?_⟩⟩;exact k _ _ _ (s.t (uJ (a.e7 c) _)) (a.zE c _) (Dh (f3.of uz) (b?.mono (uJ (a.e7 c) _) _ _ rs))
  .cases e
def VB(h:PA X l (q9 G g)):PE X (.List l pos) (u1 G (uK g)):=PE.eb (Rg h) λx H Q m=>by
 obtain⟨F,f,i,d,q,R,e,k⟩:=m;unfold uK at e;cases c:g f with
 |none=>simp only[c]at e;cases e
 |some p=>
  obtain⟨u,r⟩:=p;simp only[c]at e;split at e
  .rename_i o;cases e;refine⟨F,f,i,_,_,R,c,λw t j s a rs=>⟨by rw[<-uB rs];exact yn o,λp b=>?_⟩⟩;exact k _ _ _ _ s (a.f? b _) uz (a.e7 b) (a.gk b) (a.apart b) rs
  .cases e
set_option tactic.hygienic false
def cL(g:FA):FE:=λc=>match g c with
 |some (b,a)=>Z (.b0 b,a)
 |none=>O
def VC(h:cL g c=Z (d,b)):∃a,g c=Z (a,b)/\d=.b0 a:=by
 unfold cL at h;cases e:g c with
 |none=>simp only[e]at h;cases h
 |some p=>obtain⟨a,f⟩:=p;simp only[e]at h;cases h;exact⟨a,U,U⟩
def tN_F:∀c H Q,tF G (cL g) c H Q->u1 G g c H Q:=λc H Q q=>by obtain⟨F,t,f,d,b,R,e,k⟩:=q;obtain⟨l,m,rfl⟩:=VC e;refine⟨F,t,f,l,b,R,m,λp w u h s i r a o j rs=>?_⟩;exact k _ _ _ (s.t (uJ a _)) (i.q? r a o j) (Di uz (b?.mono (uJ a _) _ _ rs))
def Zd(h:PE X e (u1 G g)):PE X e (tF G (cL g)):=PE.eb h tN_F
end
inductive F? where
 |nx (ρ:aU)|bk (ρ:aU)|ct (ρ:aU)
 |rt (d:D) (ρ:aU)
 |U (ds:bh) (ρ:aU)
abbrev FS:=aU->Option F?
def OB(G:Bg)(F:Fr)(f:Hp)(E:Rn):F?->Prop
 |.nx c=>∀b a e,uL f a->dd G F b c a e->E.nx b e
 |.bk c=>∀b a e,uL f a->dd G F b c a e->E.bk b e
 |.ct c=>∀b a e,uL f a->dd G F b c a e->E.ct b e
 |.rt d c=>∀v b a e,uL f a->dd G F b c a e->eg G a d v->E.rt v e
 |.U i c=>∀p h b a e,uL f a->dd G F b c a e->e p=Z (.b0 h)->a p=O->F.B p=O->rm b c p->b? G a i h->E.rt (.ref p) e
def ma(G:Bg)(f:FS):TS:=λE c H=>∃F b a o,dd G F c b a H/\f b=Z o/\OB G F a E o/\(∀p,E.rt p=E.rt p)
def OB.A5(h:OB G F i E o)(s:uL i j):OB G F j E o:=by
 cases o with
 |nx f=>exact λb a c e R=>h b a c (s.t e) R
 |bk f=>exact λb a c e R=>h b a c (s.t e) R
 |ct f=>exact λb a c e R=>h b a c (s.t e) R
 |rt d f=>exact λv b a c e R=>h v b a c (s.t e) R
 |U m f=>exact λp l b a c e R=>h p l b a c (s.t e) R
def PS.eb(h:PS X e t)(w:∀E b H,d E b H->t E b H):PS X e d:=λa s b H D I c=>h a s b H D I (w _ _ _ c)
def n?.eb(h:n? X e t)(w:∀E b H,d E b H->t E b H):n? X e d:=λa s b H D I c=>h a s b H D I (w _ _ _ c)
def uD:FS:=λa=>Z (.nx a)
noncomputable def bt(f g:FS):FS:=λb=>match f b with
 |some (.nx a)=>g a
 |r=>r
section
variable{X:Cx}{G:Bg}
def Ze(h:ma G uD E a H):E.nx a H:=by obtain⟨F,c,b,o,R,e,k,_⟩:=h;cases e;exact k _ _ _ (uL.refl _) R
def VE:n? X [] (ma G uD):=n?.eb UZ λE a H h=>Ze h
def RM{st:Stmt}{fb:List Stmt}(p:PS X st (ma G f))(q:n? X fb (ma G g)):n? X (st::fb) (ma G (bt f g)):=n?.eb (Ht p q) λE w H h=>by
 obtain⟨F,i,j,o,R,e,k,c⟩:=h;unfold bt at e;cases a:f i with
 |none=>simp only[a]at e;cases e
 |some r=>
  cases r with
  |nx b=>simp only[a]at e;exact⟨F,i,j,_,R,a,λt l u s m=>⟨F,b,l,o,m,e,k.A5 s,c⟩,c⟩
  |bk b=>simp only[a]at e;cases e;exact⟨F,i,j,_,R,a,k,c⟩
  |ct b=>simp only[a]at e;cases e;exact⟨F,i,j,_,R,a,k,c⟩
  |rt d b=>simp only[a]at e;cases e;exact⟨F,i,j,_,R,a,k,c⟩
  |U d b=>simp only[a]at e;cases e;exact⟨F,i,j,_,R,a,k,c⟩
def VF{st:Stmt}(a:PS X st (ma G f)):n? X [st] (ma G f):=Kw a
noncomputable def uy(f:FE):FS:=λb=>match f b with
 |some (d,a)=>Z (.rt d a)
 |none=>O
noncomputable def vJ(f:FA):FS:=λb=>match f b with
 |some (d,a)=>Z (.U d a)
 |none=>O
def uV{b:Type}{f:aU->Option (b×aU)}{ρ:aU}:f ρ=O\/∃d a,f ρ=Z (d,a):=by
 cases e:f ρ with
 |none=>exact .inl U
 |some p=>exact .inr ⟨p.1,p.2,U⟩
def VG(h:PE X e (tF G f)):PS X (.Return (Z e) pos) (ma G (uy f)):=PS.eb (M6 h) λE t H m=>by
 obtain⟨F,b,i,o,R,e,k,q⟩:=m;unfold uy at e;rcases uV (f:=f) (ρ:=b)with a|⟨d,c,a⟩<;>simp only[a]at e
 .cases e
 .cases e;exact⟨F,b,i,d,c,R,a,λv j p s l r=>k _ _ _ _ s l r⟩
def RN(h:PE X e (u1 G f)):PS X (.Return (Z e) pos) (ma G (vJ f)):=PS.eb (M6 h) λE A H w=>by
 obtain⟨F,b,i,o,R,e,k,y⟩:=w;unfold vJ at e;rcases uV (f:=f) (ρ:=b)with a|⟨d,c,a⟩<;>simp only[a]at e
 .cases e
 .cases e;exact⟨F,b,i,d,c,R,a,λp z j x s l m q r t u=>k _ _ _ _ _ s l m q r t u⟩
noncomputable def uW(f:FE):FS:=λb=>match f b with
 |some (_,a)=>Z (.nx a)
 |none=>O
def RO{pos:Pos}(h:PE X e (tF G f))(p:dt e O pos.line X.b1=pure δ:=by rfl):PS X (.Expr e pos) (ma G (uW f)):=PS.eb (Ol h p) λE u H m=>by
 obtain⟨F,b,i,o,R,e,k,t⟩:=m;unfold uW at e;rcases uV (f:=f) (ρ:=b)with a|⟨d,c,a⟩<;>simp only[a]at e
 .cases e
 .cases e;exact⟨F,b,i,d,c,R,a,λv j q s l r=>k _ _ _ s l⟩
noncomputable def fc(c:FT) (f g:FS):FS:=λb=>match c b with
 |some (γ,a)=>f a
 |some (δ,a)=>g a
 |none=>O
def Zf(w:PT X c (m? G h))(t:n? X a (ma G f))(u:n? X b (ma G g)):PS X (.If c a b pos) (ma G (fc h f g)):=PS.eb (aco w t u) λE z H x=>by
 obtain⟨F,m,r,o,R,e,k,q⟩:=x;unfold fc at e;rcases uV (f:=h) (ρ:=m)with l|⟨d,i,l⟩
 .simp only[l]at e;cases e
 .refine⟨F,m,r,d,i,R,l,λj y s p=>?_⟩;cases d with
  |true=>simp only[l]at e;exact KO ⟨F,i,j,o,p,e,k.A5 s,q⟩
  |false=>simp only[l]at e;exact KN ⟨F,i,j,o,p,e,k.A5 s,q⟩
abbrev FG:=D->aU->Option aU
def χ(G:Bg)(n:Nat)(g:FG):TG:=λv f H Q=>∃F e c d b,dd G F f e c H/\eg G c d v/\g d e=Z b/\∀a,a.drop n=f.drop n->dd G F a b c H->Q a H
def RP(G:Bg)(n:Nat)(g:bh->aU->Option aU):TGs:=λh f H Q=>∃F e c d b,dd G F f e c H/\b? G c d h/\g d e=Z b/\∀a,a.drop n=f.drop n->dd G F a b c H->Q a H
def PG.eb(h:PG X e t)(w:∀v b H Q,d v b H Q->t v b H Q):PG X e d:=λa s b H x u Q I r c=>h a s b H x u Q I r (w _ _ _ _ c)
def K3.eb(h:K3 X e t)(w:∀v b H Q,d v b H Q->t v b H Q):K3 X e d:=λa s b H x u Q I r c=>h a s b H x u Q I r (w _ _ _ _ c)
def gN(i:Nat):FG:=λd a=>Z (a.set i (.q d))
def LR{a:Type}{l:List a}{i n:Nat}{x:a}(h:i<n):(l.set i x).drop n=l.drop n:=by apply lb;intro j;rw[eA,eA,cw,aj (by omega)]
def RQ(n:Nat)(h:PG X c (zM i))(b:i<n):PG X c (χ G n (gN i)):=PG.eb h λv m H Q a=>by obtain⟨F,l,j,d,f,R,r,e,k⟩:=a;cases e;exact k _ (LR b) (R.Z' i r)
def Cg:bh->aU->Option aU:=λa b=>match a with
 |[]=>Z b
 |_=>O
def vc(g:FG)(c:bh->aU->Option aU):bh->aU->Option aU:=λb e=>match b with
 |d::r=>match g d e with
  |some a=>c r a
  |none=>O
 |[]=>O
def VH(h:K3 X [] gNil):K3 X [] (RP G n Cg):=K3.eb h λv j H Q b=>by
 obtain⟨F,i,f,a,c,R,r,e,k⟩:=b;cases a with
 |nil=>cases e;unfold b? at r;exact⟨r,k _ U R⟩
 |cons d a=>cases e
def RR(h:K3 X (e::p) (Xm (χ G n g) (RP G n q))):K3 X (e::p) (RP G n (vc g q)):=K3.eb h λv B H Q t=>by
 obtain⟨F,l,j,c,i,R,r,e,k⟩:=t;cases c with
 |nil=>cases e
 |cons d c=>
  obtain⟨z,x,rfl,u,w⟩:=r;unfold vc at e;cases f:g d l with
  |none=>simp only[f]at e;cases e
  |some a=>simp only[f]at e;exact⟨z,x,U,F,l,j,d,a,R,u,f,λA s o=>⟨F,a,j,c,i,o,w,e,λm y b=>k _ (y.t s) b⟩⟩
def gT(b:bh->aU->Option aU)(n:Nat):FG:=λd c=>match d with
 |.cx a=>if a.length=n then b a c else O
 |_=>O
set_option tactic.hygienic true
def VI(h:PG X (.Tuple j k pos) (Yr G.K m (RP G n l))):PG X (.Tuple j k pos) (χ G n (gT l m)):=PG.eb h λv w H Q p=>by
 obtain⟨F,u,f,d,b,R,r,e,k⟩:=p;cases d with
 |cx i=>
  unfold gT at e;simp only at e;split at e
  .rename_i q;obtain⟨a,t,rfl,o,c⟩:=r;exact⟨a,t,U,f3.mono R.sub o,by rw[<-uB c];exact q,F,u,f,i,b,R,c,e,k⟩
  .cases e
 |_=>cases e
set_option tactic.hygienic false
def FC(f:FE)(g:FG):FS:=λc=>match f c with
 |some (d,a)=>match g d a with
  |some b=>Z (.nx b)
  |none=>O
 |none=>O
def VJ{st:Stmt}(h:PS X st (Es (tF G f) (χ G n g))):PS X st (ma G (FC f g)):=PS.eb h λE x H q=>by
 obtain⟨F,j,m,o,R,e,k,w⟩:=q;unfold FC at e;rcases uV (f:=f) (ρ:=j)with c|⟨d,a,c⟩<;>simp only[c]at e
 .cases e
 .cases i:g d a with
  |none=>simp only[i]at e;cases e
  |some l=>simp only[i]at e;cases e;exact⟨F,j,m,d,a,R,c,λv b u s p r=>⟨F,a,b,d,l,p,r,i,λt z R2=>k _ _ _ s R2⟩⟩
def uM(i:Nat)(f:FE):FS:=λb=>match f b with
 |some (d,a)=>Z (.nx (a.set i (.q d)))
 |none=>O
def OC{st:Stmt}(h:PS X st (Es (tF G f) (zM i))):PS X st (ma G (uM i f)):=PS.eb h λE u H p=>by
 obtain⟨F,b,j,o,R,e,k,t⟩:=p;unfold uM at e;rcases uV (f:=f) (ρ:=b)with a|⟨d,c,a⟩<;>simp only[a]at e
 .cases e
 .cases e;exact⟨F,b,j,d,c,R,a,λv l q s m r=>k _ _ _ s (m.Z' i r)⟩
def xg(i:Nat)(f:FA):FS:=λb=>match f b with
 |some (d,a)=>Z (.nx (a.set i (.M d)))
 |none=>O
def LS{st:Stmt}(h:PS X st (Es (u1 G f) (zM i))):PS X st (ma G (xg i f)):=PS.eb h λE B H x=>by
 obtain⟨F,b,j,o,R,e,k,z⟩:=x;unfold xg at e;rcases uV (f:=f) (ρ:=b)with a|⟨d,c,a⟩<;>simp only[a]at e
 .cases e
 .cases e;exact⟨F,b,j,d,c,R,a,λp A l y s m q r t u w=>k _ _ _ s (m.setLs i q r t u w)⟩
def yr(n:Nat)(a:bh):aU:=a.map Sl.q++eF (n - a.length) .un
def e3(b n:Nat)(f:FS):bh->Option D:=λa=>if a.length=b then match f (yr n a)with
 |some (.rt d _)=>Z d
 |some (.U a _)=>Z (.b0 a)
 |some (.nx _)=>Z .E
 |_=>O
 else O
def r?(b n:Nat)(f:FS):bh->Option bh:=λa=>if a.length=b then match f (yr n a)with
 |some (.U a _)=>Z a
 |_=>O
 else O
def e?(G:Bg)(g:bh->Option D):Sp:=λh H Q z=>∃c f d,uL c H/\b? G c f h/\g f=Z d/\
 ∀v a e,uL c a->uL a e->uL H e->(∀b o,a b=Z o->c b=Z o\/H b=O)->eg G a d v->Q v e
def rh(G:Bg)(g:bh->Option bh):Sp:=λi H Q z=>∃e f d,uL e H/\b? G e f i/\g f=Z d/\
 ∀p h a c,uL e a->uL a c->uL H c->(∀b o,a b=Z o->e b=Z o\/H b=O)->H p=O->c p=Z (.b0 h)->a p=O->b? G a d h->Q (.ref p) c
def KQ{n:Nat}{b:bh}{i:Nat}{s:Sl}(h:(yr n b)[i]?=Z s):s=.un\/∃d,b[i]?=Z d/\s=.q d:=by
 unfold yr at h;by_cases a:i<b.length
 .rw[fM (by simpa using a),bu,aM a]at h;cases h;exact .inr ⟨_,aM a,U⟩
 .rw[fL (by simpa using a),jl]at h;split at h
  .cases h;exact .inl U
  .cases h
def FD{N:aB}{a:bJ}{i:Nat}{v:V}(h:a[i]?=Z v):((L2.start N a)[i]?).join=Z v:=by unfold L2.start;have b:=(ck.1 h).1;rw[fM (by simpa using b),bu,h];rfl
def JL{N:aB}(s:uL H0 H)(r:b? G H0 ds vs)(p:vs.length<=N.length):dd G ⟨H0,H,[]⟩ (L2.start N vs) (yr N.length ds) H0 H where
 sub:=s
 g0:=uL.refl _
 keep:=λb o e z=>e
 fr:=λb o e=>.inl e
 am:=λa h=>by cases h
 len:=by unfold L2.start yr;rw[aC,aC,af,af,cU,cU,uB r]
 sl:=λi t e=>by
  rcases KQ e with rfl|⟨d,c,rfl⟩
  .trivial
  .obtain⟨v,f,l⟩:=zl r c;exact⟨v,FD f,l⟩
 ap:=λi j t u a z e z m=>by rcases KQ e with rfl|⟨d,_,rfl⟩<;>cases m
set_option tactic.hygienic true
def LU(h:e3 j n f b=Z d):b.length=j/\((∃a,f (yr n b)=Z (.rt d a))\/(∃c a,f (yr n b)=Z (.U c a)/\d=.b0 c)\/∃a,f (yr n b)=Z (.nx a)/\d=.E):=by
 unfold e3 at h;split at h
 .rename_i i;refine⟨i,?_⟩;split at h
  .rename_i e;cases h;exact .inl ⟨_,e⟩
  .rename_i e;cases h;exact .inr (.inl ⟨_,_,e,U⟩)
  .rename_i e;cases h;exact .inr (.inr ⟨_,e,U⟩)
  .cases h
 .cases h
def LV(h:r? c n f a=Z d):a.length=c/\∃i,f (yr n a)=Z (.U d i):=by
 unfold r? at h;split at h
 .rename_i b;refine⟨b,?_⟩;split at h
  .rename_i e;cases h;exact⟨_,e⟩
  .cases h
 .cases h
end
set_option tactic.hygienic false
def VL{N:aB}(hN:I<=N.length)(h:e? G (e3 I N.length f) M H Q E):ma G f { nx:=λ_ c=>Q .E c,rt:=Q } (L2.start N M) H:=by
 obtain⟨l,P,d,s,r,e,k⟩:=h;obtain⟨C,A⟩:=LU e;clear e;have R:=JL s r (by rw[<-uB r,C];exact hN);have fin:∀{j:St} {x:aU} {a c:Hp},dd G ⟨l,H,[]⟩ j x a c->uL H c/\uL a c/\∀b o,a b=Z o->l b=Z o\/H b=O:=λi=>⟨λb o e=>i.keep b o e (by simp),i.sub,i.fr⟩;rcases A with ⟨y,e⟩|⟨S,y,e,rfl⟩|⟨y,e,rfl⟩
 .refine⟨_,_,l,_,R,e,λv j a c u i J=>?_,λ_=>U⟩;obtain⟨m,q,t⟩:=fin i;exact k v a c u q m t J
 .refine⟨_,_,l,_,R,e,λp T j a c u i F w B z rs=>?_,λ_=>U⟩;have R2:=i.q? F w B z;obtain⟨m,q,t⟩:=fin R2;exact k _ _ c (u.t (uJ w _)) q m t (Di uz (b?.mono (uJ w _) _ _ rs))
 .refine⟨_,_,l,_,R,e,λj a c u i=>?_,λ_=>U⟩;obtain⟨m,q,t⟩:=fin i;exact k _ a c u q m t zP
def VM{N:aB}(hN:u<=N.length)(h:rh G (r? u N.length f) x H Q E):ma G f { nx:=λv a=>Q .E a,rt:=Q } (L2.start N x) H:=by obtain⟨j,B,d,s,r,e,k⟩:=h;obtain⟨q,C,e⟩:=LV e;have R:=JL s r (by rw[<-uB r,q];exact hN);refine⟨_,_,j,_,R,e,λp y z c a w i t l m A rs=>?_,λv=>U⟩;exact k p y c a w i.sub (λb o e=>i.keep b o e (by simp)) i.fr m t l rs
def acS(c:∀a d,g a=Z d->a.length=f):∀b H Q E,e? G g b H Q E->b.length=f:=λb H Q E h=>by obtain⟨i,a,d,_,r,e,_⟩:=h;rw[<-uB r];exact c _ _ e
def acT(c:∀a d,g a=Z d->a.length=f):∀b H Q E,rh G g b H Q E->b.length=f:=λb H Q E h=>by obtain⟨i,a,d,_,r,e,_⟩:=h;rw[<-uB r];exact c _ _ e
def VN:∀a d,e3 b n f a=Z d->a.length=b:=λz z h=>(LU h).1
def VO:∀a d,r? b n f a=Z d->a.length=b:=λz z h=>(LV h).1
def FH{c:Type}(g:bh->Option c)(a:FA):aU->Option (c×aU):=λf=>match a f with
 |some (e,b)=>match g e with
  |some d=>Z (d,b)
  |none=>O
 |none=>O
abbrev uw(g:bh->Option D)(a:FA):FE:=FH g a
abbrev vw(g:bh->Option bh)(a:FA):FA:=FH g a
def DZ{j:Type}{g:bh->Option j}{a:FA}{ρ c:aU}{d:j}(h:FH g a ρ=Z (d,c)):∃b,a ρ=Z (b,c)/\g b=Z d:=by
 unfold FH at h;rcases uV (f:=a) (ρ:=ρ)with e|⟨b,l,e⟩<;>simp only[e]at h
 .cases h
 .cases i:g b with
  |none=>simp only[i]at h;cases h
  |some x=>simp only[i]at h;cases h;exact⟨b,e,i⟩
section
variable{X:Cx}{G:Bg}
def VP(hd:∀H,b? G H dds dvs):∀h H Q,tF G (uw (λb=>g (b++dds)) a) h H Q->Hy (e? G g) dvs E (q9 G a) h H Q:=λh H Q t=>by obtain⟨F,y,l,d,f,R,e,k⟩:=t;obtain⟨b,q,r⟩:=DZ e;refine⟨F,y,l,b,f,R,q,λz m o s i rs=>⟨m,b++dds,d,i.sub,wy rs (hd _),r,λv p c j w x fr u=>?_⟩⟩;exact k v p c (s.t j) (i.ix x j w fr) u
def VQ(hd:∀H,b? G H dds dvs):∀i H Q,u1 G (vw (λc=>g (c++dds)) a) i H Q->Hy (rh G g) dvs E (q9 G a) i H Q:=λi H Q x=>by obtain⟨F,I,m,d,h,R,e,k⟩:=x;obtain⟨c,t,u⟩:=DZ e;refine⟨F,I,m,c,h,R,t,λJ o q s b rs=>⟨o,c++dds,d,b.sub,wy rs (hd _),u,λp C r f l A B fr j y w z=>?_⟩⟩;exact k p C r f (s.t l) (b.ix B l A fr) y w (b.gk j) (b.apart j) z
end
section
variable{X:Cx}{G:Bg}
def VR(hd:∀H,b? G H dds dvs)(h:PE X e (Hy (e? G g) dvs E (q9 G a))):PE X e (tF G (uw (λb=>g (b++dds)) a)):=PE.eb h (VP hd)
def RT(hd:∀H,b? G H dds dvs)(h:PE X e (Hy (rh G g) dvs E (q9 G a))):PE X e (u1 G (vw (λb=>g (b++dds)) a)):=PE.eb h (VQ hd)
def Qa(h:PE X e (Hy (rh G g) [] E KA)):PE X e (u1 G (vw g uQ)):=PE.eb h λA H Q o=>by obtain⟨F,z,f,d,x,R,e,k⟩:=o;obtain⟨y,j,l⟩:=DZ e;cases j;exact⟨f,[],d,R.sub,u7,l,λp w i a c t u fr b q m r=>k p w i a c (R.ix u c t fr) q m (R.gk b) (R.apart b) r⟩
def Qb:aB->bh->Str->Option D
 |n::b,d::a,f=>if n=f then Z d else Qb b a f
 |_,_,_=>O
theorem JM:∀{h:aB} {b:bh} {a:bJ} {f:Str} {d:D},b? G H b a->Qb h b f=Z d->∃v,(h.zip a).lookup f=Z v/\eg G H d v
 |[],b,a,f,d,r,e=>by simp[Qb]at e
 |n::h,[],a,f,d,r,e=>by simp[Qb]at e
 |n::h,p::b,a,f,d,r,e=>by
  obtain⟨v,q,rfl,l,m⟩:=r;unfold Qb at e;by_cases c:n=f
  .rw[ah c]at e;cases e;subst c;exact⟨v,by simp[dq],l⟩
  .rw[aj c]at e;obtain⟨w,i,j⟩:=JM m e;refine⟨w,?_,j⟩;have o:=beq_eq_false_iff_ne.2 λz=>c z.symm;simp only[fi,dq,o];exact i
def uC(ok:Nat->Bool)(f:Str):D->Option D
 |.obj c b a=>if ok c=γ then Qb b a f else O
 |_=>O
set_option tactic.hygienic true
def RU(A:PE X e (tF G t))(j:∀c,ok c=γ->Mn X.K (G.ca c)/\Ad X.K (G.ca c) f)(z:eG e f X.b1 (eval e X.b1)=eval e X.b1:=by rfl):PE X (.Attribute e f pos) (tF G (c1 (uC ok f) t)):=PE.eb (YL A z) λT H Q B=>by
 obtain⟨F,I,m,d,h,R,e,k⟩:=B;obtain⟨x,q,b⟩:=ED e;cases x with
 |obj c P M=>
  unfold uC at b;simp only at b;split at b
  .rename_i l;refine⟨F,I,m,_,h,R,q,λv J o s i r=>?_⟩;obtain⟨a,p,S,rfl,u,N,y⟩:=r;obtain⟨w,C,E⟩:=JM y b;exact⟨a,_,p,_,w,U,i.sub _ _ u,(j c l).1,(j c l).2,C,k _ _ _ s i E⟩
  .cases b
 |_=>cases b
set_option tactic.hygienic false
def MOk(X:Cx)(C:Addr)(m:Str)(d:Sp)(dvs:bJ)(E:XK):Prop:=∃(k:Nat) (f:Addr) (b:cg) (c:aB) (a:List ab),Mn X.K C/\Meth X.K C m f/\y4 X.prog X.w X.K X.mg X.b' B? k f b c d/\wM k X.A/\k? X.K b c a/\en dvs a/\pa B? X E
def vd(g:Nat->Option (bh->Option D))(m:Str)(f:FE)(a:FA):FE:=λo=>match f o with
 |some (.obj c i j,b)=>match g c with
  |some h=>if i.contains m=γ then O else match a b with
   |some (l,e)=>match h (.obj c i j::l)with
    |some d=>Z (d,e)
    |none=>O
   |none=>O
  |none=>O
 |_=>O
set_option tactic.hygienic true
def HM(h:vd g m f a ρ=Z (d,t)):
  ∃c e i b l j,f ρ=Z (.obj c e i,b)/\g c=Z l/\e.contains m=δ/\a b=Z (j,t)/\l (.obj c e i::j)=Z d:=by
 unfold vd at h;split at h
 .rename_i c e i b u;cases o:g c with
  |none=>simp only[o]at h;cases h
  |some l=>
   simp only[o]at h;cases p:e.contains m with
   |true=>simp only[p,if_true]at h;cases h
   |false=>
    simp only[p,fQ,if_false]at h;rcases uV (f:=a) (ρ:=b)with q|⟨j,w,q⟩<;>simp only[q]at h
    .cases h
    .cases r:l (.obj c e i::j)with
     |none=>simp only[r]at h;cases h
     |some x=>simp only[r]at h;cases h;exact⟨c,e,i,b,l,j,u,o,p,q,r⟩
 .cases h
set_option tactic.hygienic false
theorem D1:∀{a:aB} {b:bJ},a.contains m=δ->(a.zip b).lookup m=O
 |[],b,h=>rfl
 |n::a,[],h=>rfl
 |n::a,x::b,h=>by rw[oK,kK]at h;simp only[fi,dq,h.1];exact D1 h.2
def RV(T:Addr->Sp->Prop)(hT:∀C d,T C d->MOk X C m d dvs E)(W:PE X o ta)(R:PA X (e::i) t)
  (hst:aF (e::i) X.b1=(δ,eval e X.b1)::aF i X.b1:=by rfl) (hpl:(bI pos (aF i X.b1)).any (·.1)=δ:=by rfl)
  (w:eval (.Call (.Attribute o m apos) (e::i) [] pos) X.b1=(do
   let M<-eval o X.b1
   standAt apos.atName
   let (f,first)<-holding [M] (getMethod M m pl)
   callWith pos f first (bI pos (aF (e::i) X.b1)) (backToKw pos (dr [] X.b1))):=by rfl):
  PE X (.Call (.Attribute o m apos) (e::i) [] pos) (λj H Q=>ta j H λx p=>∃a C B fs d,x=.ref a/\p a=Z (.mu C B fs)/\T C d/\fs.lookup m=O/\t j p λvs y=>d (x::(vs++dvs)) y Q E):=by
 intro b s j H Q I h;refine pU (fu (W b s j H _ I h) λu s1 zz=>?_) w;obtain⟨x,p,z,rx,a,C,B,fs,d,P,N,w,l,q⟩:=zz;obtain⟨k,f,fd,ps,ds,c,J,F,Y,S,hd,hx⟩:=hT C d w;subst P;obtain rfl:u=Value.ref a:=rx;refine Hw z N c J l ?_;refine mx I.ok.y'.kin J.kp (fu (R pos b s1 j p _ z q) λus s2 ⟨vs,y,A,r,q2⟩=>⟨A.nj,?_⟩) hst hpl;exact KB (vs:=.ref a::vs) F Y S hd hx A (.cons U r) q2
def Qc(T:Addr->Sp->Prop)(hT:∀C b,T C b->MOk X C m b dvs E)(B:PE X o P)
  (j:eval (.Call (.Attribute o m apos) [] [] pos) X.b1=(do
   let w<-eval o X.b1
   standAt apos.atName
   let (f,first)<-holding [w] (getMethod w m pl)
   callWith pos f first (bI pos (aF [] X.b1)) (backToKw pos (dr [] X.b1))):=by rfl):
  PE X (.Call (.Attribute o m apos) [] [] pos) (λp H Q=>P p H λx e=>∃a C r fs b,x=.ref a/\e a=Z (.mu C r fs)/\T C b/\fs.lookup m=O/\b (x::dvs) e Q E):=by
 intro d s p H Q I h;refine pU (fu (B d s p H _ I h) λu Y zz=>?_) j;obtain⟨x,e,i,N,a,C,r,fs,b,z,y,j,l,q⟩:=zz;obtain⟨k,f,S,W,R,c,t,F,J,A,hd,M⟩:=hT C b j;subst z;obtain rfl:u=Value.ref a:=N;refine Hw i y c t l ?_;exact l4 i.nj t.kp (KB (vs:=[.ref a]) F J A hd M i (.cons U .nil) q)
def MT(G:Bg)(g:Nat->Option (bh->Option D)):Addr->Sp->Prop:=λC a=>∃c h,g c=Z h/\C=G.ca c/\a=e? G h
def VS(h:PE X (.Call (.Attribute o m apos) (e::es) [] pos) (λz H Q=>tF G f z H λx j=>∃b C u fs I,x=.ref b/\j b=Z (.mu C u fs)/\MT G g C I/\fs.lookup m=O/\q9 G a z j λvs p=>I (x::(vs++[])) p Q E)):
  PE X (.Call (.Attribute o m apos) (e::es) [] pos) (tF G (vd g m f a)):=PE.eb h λz H Q l=>by
 obtain⟨F,ρ,M,d,y,R,e,k⟩:=l;obtain⟨c,ns,ds,i,l,w,S,T,W,Y,e5⟩:=HM e;refine⟨F,ρ,M,_,i,R,S,λv j N s A r=>?_⟩;have r0:=r;obtain⟨b,u,xs,rfl,h1,h2,h3⟩:=r;refine⟨b,_,u,_,_,U,A.sub _ _ h1,⟨c,l,T,U,U⟩,D1 W,F,i,j,w,y,A,Y,λys p q B R2 rs=>?_⟩;show e? G l (V.ref b::(ys++[])) q Q E;rw[b9];exact⟨p,_,d,R2.sub,vg (eg.mono B _ _ r0) rs,e5,λv P t J t2 t3 fr rv=>k v P t (s.t (B.t J)) (R2.ix t3 J t2 fr) rv⟩
def RW(h:PE X (.Call (.Attribute o m apos) [] [] pos) (λu H Q=>tF G f u H λx a=>∃b C l fs q,x=.ref b/\a b=Z (.mu C l fs)/\MT G g C q/\fs.lookup m=O/\q (x::[]) a Q E)):
  PE X (.Call (.Attribute o m apos) [] [] pos) (tF G (vd g m f uQ)):=PE.eb h λu H Q p=>by
 obtain⟨F,ρ,w,d,ρ',R,e,k⟩:=p;obtain⟨c,ns,ds,ρ1,p,N,A,B,I,J,M⟩:=HM e;cases J;refine⟨F,ρ,w,_,_,R,A,λv a y s j r=>?_⟩;have S:=r;obtain⟨b,l,xs,rfl,P,h2,h3⟩:=r;refine⟨b,_,l,_,_,U,j.sub _ _ P,⟨c,p,B,U,U⟩,D1 I,?_⟩;exact⟨a,_,d,j.sub,vg S u7,M,λv z i t W Y fr T=>k v z i (s.t t) (j.ix Y t W fr) T⟩
def spI(G:Bg)(c:Nat)(g:bh->Option (aB×bh)):Sp:=λr H Q z=>∃(p q:Addr) (m:bJ) (d:Hp) (j:bh) (h:aB) (l:bh),r=.ref p::m/\H p=Z (.mu (G.ca c) q [])/\d p=O/\uL d H/\b? G d j m/\g j=Z (h,l)/\
 ∀i f a e,uL d a->uL a e->(∀b o,H b=Z o->b≠p->e b=Z o)->(∀b o,a b=Z o->d b=Z o\/H b=O)->a p=O->e p=Z (.mu (G.ca c) f (h.zip i))->h.length=i.length->b? G a l i->Q .E e
def uY(c:Nat)(g:bh->Option (aB×bh))(a:FA):FE:=λh=>match a h with
 |some (d,b)=>match g d with
  |some (f,e)=>Z (.obj c f e,b)
  |none=>O
 |none=>O
def VT(hd:∀H,b? G H dds dvs)(h:PE X e (Xp (G.ca c) (spI G c g) dvs E (q9 G a))):PE X e (tF G (uY c (λm=>g (m++dds)) a)):=PE.eb h λσ H Q hh=>by
 obtain⟨F,M,T,d,N,R,e,k⟩:=hh;unfold uY at e;rcases uV (f:=a) (ρ:=M)with y|⟨m,ρ1,y⟩<;>simp only[y]at e
 .cases e
 .cases A:g (m++dds)with
  |none=>simp only[A]at e;cases e
  |some q=>
   obtain⟨ns,es⟩:=q;simp only[A]at e;cases e;refine⟨F,M,T,m,N,R,y,λxs P j s l rs x r p hdx ne=>?_⟩;have I:(e0 j r (.iE x)) x=O:=by rw[uH (λz=>ne z.symm)];exact p
   have J:uL j (e0 (e0 j r (.iE x)) x (.mu (G.ca c) r [])):=(uJ hdx _).t (uJ I _);refine⟨x,r,_,P,m++dds,ns,es,U,uz,l.e7 p,l.sub.t J,wy rs (hd _),A,λys w W Y S t2 t3 fr C hp hl ry=>⟨U,?_⟩⟩;have t4:=λb o e=>t3 b o (J b o e) (xf e p);have B:∀b o,W b=Z o->P b=Z o\/j b=O:=λb o e=>by
    rcases fr b o e with q|q
    .exact .inl q
    .cases z:j b with
     |none=>exact .inr U
     |some u=>rw[J b u z]at q;cases q
   have R2:=l.ix t4 S t2 B;have hb:=l.gk p;have R3:=R2.q? hp C hb (λi t ei to z=>l.apart p i t ei to z);refine k _ _ _ (s.t (S.t (uJ C _))) R3 ?_;exact⟨x,w,ys,U,uz,hl,b?.mono (uJ C _) _ _ ry⟩
def ve(h:Nat)(i:Nat)(f:Str)(j:FE):FS:=λl=>match j l with
 |some (d,a)=>match a[i]? with
  |some (.ob c b e)=>if c=h then if b.contains f=γ then O else if e.length=b.length then if b.length<900 then Z (.nx (a.set i (.ob c (b++[f]) (e++[d]))))else O else O else O
  |_=>O
 |none=>O
theorem LW:∀{a:aB} {b:bJ},a.contains f=δ->a.length=b.length->AA f v (a.zip b)=(a++[f]).zip (b++[v])
 |[],[],h,l=>rfl
 |[],x::b,h,l=>by cases l
 |n::a,[],h,l=>by cases l
 |n::a,x::b,h,l=>by
  rw[oK,kK]at h;have c:¬n=f:=λz=>by rw[z]at h;simp at h
  have d:=LW (v:=v) h.2 (by simpa using l);show AA f v ((n,x)::a.zip b)=_;rw[show AA f v ((n,x)::a.zip b)=(if n=f then (n,v)::a.zip b else (n,x)::AA f v (a.zip b)) from U,aj c,d];rfl
set_option tactic.hygienic true
def VU{st:Stmt}(h:PS X st (sFld X.K (Ep i) (tF G x) f))(y:Mn X.K (G.ca p)/\Ad X.K (G.ca p) f):PS X st (ma G (ve p i f x)):=PS.eb h λE σ H M=>by
 obtain⟨F,j,z,o,R,e,k,k2⟩:=M;unfold ve at e;rcases uV (f:=x) (ρ:=j)with b|⟨d,l,b⟩<;>simp only[b]at e
 .cases e
 .split at e
  .rename_i c N T t;split at e
   .rename_i hcc;subst hcc;split at e
    .cases e
    rename_i hnc;split at e
    .rename_i Y;split at e
     .rename_i W;cases e;refine⟨F,j,z,d,l,R,b,λv S A s m r=>?_⟩;obtain⟨a,q,P,u,B,C,I,w,J⟩:=m.sl i _ t;refine⟨_,yD u,a,_,q,_,U,B,y.1,y.2,by rw[gU];omega,?_⟩;have hnf:N.contains f=δ:=by simpa using hnc
      rw[LW hnf w];refine k _ _ _ s (m.mut t U u (λQ hH=>?_) U);exact⟨a,q,P++[v],U,hH,C,I,by rw[aC,aC,w];rfl,wy J (vg r u7)⟩
     .cases e
    .cases e
   .cases e
  .cases e
set_option tactic.hygienic false
def stI(c n:Nat)(a:bh):aU:=.ob c [] []::yr (n - 1) a
def sm(c h n:Nat)(f:FS):bh->Option (aB×bh):=λa=>if a.length=h then match f (stI c n a)with
 |some (.nx i)=>match (i:aU)[0]? with
  |some (Sl.ob e d b)=>if e=c then if d.length=b.length then Z (d,b)else O else O
  |_=>O
 |_=>O
 else O
set_option tactic.hygienic true
def HN(h:sm c m n f b=Z q):b.length=m/\∃a,f (stI c n b)=Z (.nx a)/\a[0]?=Z (.ob c q.1 q.2)/\q.1.length=q.2.length:=by
 unfold sm at h;split at h
 .rename_i l;refine⟨l,?_⟩;split at h
  .rename_i a e;split at h
   .rename_i o r p d;split at h
    .rename_i j;split at h
     .rename_i i;subst j;cases h;exact⟨a,e,d,i⟩
     .cases h
    .cases h
   .cases h
  .cases h
 .cases h
set_option tactic.hygienic false
def OD{N:aB}(hN:P+1<=N.length)(h:spI G c (sm c P N.length f) vs H Q E):ma G f { nx:=λ_ H'=>Q .E H',rt:=Q } (L2.start N vs) H:=by
 obtain⟨p,dx,us,H0,ds,ns,es,rfl,A,M,s,r,e,k⟩:=h;obtain⟨hl,ρ,l,x,z⟩:=HN e;have gets:∀{i:Nat} {t:Sl},(stI c N.length ds)[i]?=Z t->(i=0/\t=.ob c [] [])\/t=.un\/∃(j:Nat) (d:D),i=j+1/\ds[j]?=Z d/\t=.q d:=λ{i t} e=>by
  cases i with
  |zero=>cases e;exact .inl ⟨U,U⟩
  |succ j=>
   have F:=e;rcases KQ F with rfl|⟨d,l,rfl⟩
   .exact .inr (.inl U)
   .exact .inr (.inr ⟨j,d,U,l,U⟩)
 have R:dd G ⟨H0,H,[p]⟩ (L2.start N (.ref p::us)) (stI c N.length ds) H0 H:={
  sub:=s
  g0:=uL.refl _
  keep:=λb o e _=>e
  fr:=λb o e=>.inl e
  am:=λa ha=>by
   have y:=by simpa using ha
   subst y;exact⟨_,A⟩
  len:=by unfold L2.start stI yr;simp only[aC,af,cU,aP];rw[<-uB r,kU,Nat.sub_sub,Nat.add_comm 1]
  sl:=λi t e=>by
   rcases gets e with ⟨rfl,rfl⟩|rfl|⟨j,d,rfl,l,rfl⟩
   .exact⟨p,dx,[],FD U,A,M,by simp,U,u7⟩
   .trivial
   .obtain⟨v,x,z⟩:=zl r l;exact⟨v,FD (by simpa using x),z⟩
  ap:=λi j t u a hij I J B C=>by
   rcases gets I with ⟨rfl,rfl⟩|rfl|⟨_,_,_,_,rfl⟩
   .rcases gets J with ⟨rfl,rfl⟩|rfl|⟨_,_,_,_,rfl⟩
    .exact ar U hij
    .cases C
    .cases C
   .cases B
   .cases B }
 refine⟨_,_,H0,_,R,l,λσ' q H' s' m=>?_,λ_=>U⟩;obtain⟨a,w,ys,q1,S,T,W,Y,q6⟩:=m.sl 0 _ x;have y:=by simpa using W
 subst y;exact k ys w q H' s' m.sub (λb o e n=>m.keep b o e (by simpa using n)) m.fr T S Y q6
end
def Sl.L:Sl->Option bh
 |.M a=>Z a
 |.pm a=>Z a
 |_=>O
def Sl.putL:Sl->bh->Sl
 |.pm _,a=>.pm a
 |_,a=>.M a
def Sl.tH{s:Sl}(h:s.L=Z a):s.iE=γ:=by cases s<;>first|rfl|cases h
def Sl.putL_L{s:Sl}:(s.putL a).L=Z a:=by cases s<;>rfl
section
variable{G:Bg}{F:Fr}{σ:St}{ρ:aU}{H0 H:Hp}
theorem DY.b0{o:Option V}{s:Sl}{ds:bh}(h:DY G F H0 H o s)(e:s.L=Z ds):∃a xs,o=Z (.ref a)/\H a=Z (.b0 xs)/\H0 a=O/\b? G H0 ds xs:=by
 cases s with
 |M b=>cases e;obtain⟨a,xs,c,d,f,j,i⟩:=h;exact⟨a,xs,c,d,f,i⟩
 |pm b=>cases e;obtain⟨a,xs,c,d,f,j,i⟩:=h;exact⟨a,xs,c,d,f,i⟩
 |_=>cases e
def dd.mutL(R:dd G F σ ρ H0 H)(m:ρ[i]?=Z s)(o:s.L=Z w)(l:(σ[i]?).join=Z (.ref a))(r:b? G H0 d c):
  dd G F σ (ρ.set i (s.putL d)) H0 (e0 H a (.b0 c)):=by
 have ok:=R.sl i s m;rw[l]at ok;refine R.mut m (Sl.tH o) l (λu hH=>?_) (Sl.tH Sl.putL_L);cases s with
 |M e=>obtain⟨b,t,f,p,h,j,q⟩:=ok;cases f;exact⟨a,c,U,hH,h,j,r⟩
 |pm e=>obtain⟨b,t,f,p,h,j,q⟩:=ok;cases f;exact⟨a,c,U,hH,h,j,r⟩
 |_=>cases o
end
def xW(ρ:aU)(i:Nat):Option bh:=match ρ[i]? with
 |some s=>s.L
 |none=>O
def zf(h:xW ρ i=Z a):∃s,ρ[i]?=Z s/\s.L=Z a:=by
 unfold xW at h;cases e:ρ[i]? with
 |none=>rw[e]at h;cases h
 |some s=>rw[e]at h;exact⟨s,U,h⟩
def putAt(a:aU)(i:Nat)(b:bh):aU:=match a[i]? with
 |some s=>a.set i (s.putL b)
 |none=>a
def y7(i:Nat)(f:FE):FE:=λc=>match xW c i with
 |some _=>match f c with
  |some (d,a)=>match xW a i with
   |some b=>if b.length<1000 then Z (.E,putAt a i (b++[d]))else O
   |none=>O
  |none=>O
 |none=>O
section
variable{X:Cx}{G:Bg}
def AE(R:dd G F m ρ e H)(h:xW ρ i=Z o):∃a d,m[i]?=Z (Z (.ref a))/\H a=Z (.b0 d)/\b? G e o d/\
  (∀b c,b? G e b c->dd G F m (putAt ρ i b) e (e0 H a (.b0 c))):=by
 obtain⟨s,f,j⟩:=zf h;obtain⟨a,d,l,p,t,q⟩:=(R.sl i s f).b0 j;refine⟨a,d,yD l,p,q,λb c r=>?_⟩;unfold putAt;rw[f];exact R.mutL f j l r
set_option tactic.hygienic true
def Qd(h:PE X e (tBM G.K "list" KJ (Ep i) (q9 G (ax f uQ)))):PE X e (tF G (y7 i f)):=PE.eb h λσ H Q z=>by
 obtain⟨F,c,t,d,M,R,e,k⟩:=z;unfold y7 at e;cases j:xW c i with
 |none=>simp only[j]at e;cases e
 |some y=>
  simp only[j]at e;rcases uV (f:=f) (ρ:=c)with l|⟨x,b,l⟩<;>simp only[l]at e
  .cases e
  .cases m:xW b i with
   |none=>simp only[m]at e;cases e
   |some S=>
    simp only[m]at e;split at e
    .rename_i T;cases e;obtain⟨a,J,p,C,Y,_⟩:=AE R j;refine⟨.ref a,p,.inl ⟨U,J,fx.of C⟩,F,c,t,[x],b,R,by unfold ax;rw[l];rfl,λys N u s w rs=>?_⟩;obtain⟨v,W,rfl,B,A⟩:=rs;subst A;obtain⟨P,o,q,E,r,I⟩:=AE w m;rw[p]at q;cases q;exact⟨a,o,v,U,U,E,by rw[<-uB r];exact AC (by omega),k _ _ _ s (I _ _ (wy r (vg B u7))) zP⟩
    .cases e
set_option tactic.hygienic false
def aes(i:Nat):FE:=λa=>match xW a i with
 |some (d::b)=>Z (d,putAt a i b)
 |_=>O
def HP(r:b? G b a c)(h:C? a i=Z d):∃v,C? c i=Z v/\eg G b d v:=by
 unfold C? at h ⊢;rw[<-uB r];cases e:ixN a.length i with
 |none=>rw[e]at h;cases h
 |some j=>rw[e]at h;exact zl r h
def tX(i:Nat):FE:=λb=>match b[i]? with
 |some (.M a)=>Z (.b0 a,b.set i (.q (.b0 a)))
 |some (.dk c a)=>Z (.J c a,b.set i (.q (.J c a)))
 |some (.q d)=>Z (d,b)
 |_=>O
theorem dd.toIm(R:dd G F σ ρ H0 H)(hi:ρ[i]?=Z s)(hs:(σ[i]?).join=Z (.ref p))(so:s.iE=γ)(E:H p=Z o)(l:H0 p=O)(f:F.B p=O)(r:eg G (e0 H0 p o) d (.ref p)):
  dd G F σ (ρ.set i (.q d)) (e0 H0 p o) H where
 sub:=λb u e=>by
  by_cases f:b=p
  .subst f;rw[uz]at e;cases e;exact E
  .rw[uH f]at e;exact R.sub _ _ e
 g0:=R.g0.t (uJ l o)
 keep:=R.keep
 fr:=λb u e=>by
  by_cases c:b=p
  .subst c;exact .inr f
  .rw[uH c]at e;exact R.fr _ _ e
 am:=R.am
 len:=by rw[fX];exact R.len
 sl:=λj t e=>by
  rw[cw]at e;by_cases h:i=j
  .subst h;rw[ah U]at e;split at e
   .cases e;exact⟨_,hs,r⟩
   .cases e
  .rw[aj h]at e;refine(R.sl j t e).ix (uJ l o) (λa u v v q=>q) λa u z to q I=>?_;rw[uH (λy=>by subst y;exact R.ap j i t s a (λy=>h y.symm) e hi to so z hs)];exact I
 ap:=λj k t u b hjk A C w tk J vk=>by
  have pw:∀{m:Nat} {x:Sl},(ρ.set i (.q d))[m]?=Z x->x.iE=γ->ρ[m]?=Z x:=λ{m x} e M=>by
   rw[cw]at e;by_cases h:i=m
   .subst h;rw[ah U]at e;split at e
    .cases e;cases M
    .cases e
   .rw[aj h]at e;exact e
  exact R.ap j k t u b hjk (pw A w) (pw C tk) w tk J vk
theorem dd.toImD(R:dd G F σ ρ H0 H)(hi:ρ[i]?=Z s)(hs:(σ[i]?).join=Z (.ref p))(so:s.iE=γ)(l:H0 p=O)(f:F.B p=O)(r:eg G (e0 H0 p o) d (.ref p)):
  dd G F σ (ρ.set i (.q d)) (e0 H0 p o) (e0 H p o) where
 sub:=λb u e=>by
  by_cases f:b=p
  .subst f;rw[uz]at e ⊢;exact e
  .rw[uH f]at e ⊢;exact R.sub _ _ e
 g0:=R.g0.t (uJ l o)
 keep:=λb u e n=>by rw[uH (λz=>by subst z;rw[f]at e;cases e)];exact R.keep b u e n
 fr:=λb u e=>by
  by_cases c:b=p
  .subst c;exact .inr f
  .rw[uH c]at e;exact R.fr _ _ e
 am:=λb hm=>by
  by_cases c:b=p
  .subst c;exact⟨o,uz⟩
  .rw[uH c];exact R.am b hm
 len:=by rw[fX];exact R.len
 sl:=λj t e=>by
  rw[cw]at e;by_cases h:i=j
  .subst h;rw[ah U]at e;split at e
   .cases e;exact⟨_,hs,r⟩
   .cases e
  .rw[aj h]at e;refine(R.sl j t e).ix (uJ l o) (λa u z to q=>?_) λa u z to q E=>?_
   .rw[uH (λy=>by subst y;exact R.ap j i t s a (λy=>h y.symm) e hi to so z hs)];exact q
   .rw[uH (λy=>by subst y;exact R.ap j i t s a (λy=>h y.symm) e hi to so z hs)];exact E
 ap:=λj k t u b hjk A C w tk I vk=>by
  have pw:∀{m:Nat} {x:Sl},(ρ.set i (.q d))[m]?=Z x->x.iE=γ->ρ[m]?=Z x:=λ{m x} e J=>by
   rw[cw]at e;by_cases h:i=m
   .subst h;rw[ah U]at e;split at e
    .cases e;cases J
    .cases e
   .rw[aj h]at e;exact e
  exact R.ap j k t u b hjk (pw A w) (pw C tk) w tk I vk
set_option tactic.hygienic true
def acU(h:PE X e (Ep i)):PE X e (tF G (tX i)):=PE.eb (PE.θ h) λE H Q z=>by
 obtain⟨F,C,u,d,A,R,e,k⟩:=z;unfold tX at e;split at e
 .rename_i r b;cases e;obtain⟨a,q,f,l,c,m,p⟩:=R.sl i _ b;have j:=Di uz (b?.mono (uJ c _) _ _ p);exact⟨_,yD f,.inl (k _ _ _ (uJ c _) (R.toIm b f U l c m j) j)⟩
 .rename_i t r b;cases e;obtain⟨a,q,f,l,c,m,p,y⟩:=R.sl i _ b;refine⟨_,yD f,.inr ⟨a,_,l,λo=>?_⟩⟩;have j:eg G (e0 u a (.n9 o (.dK (t.zip q)))) (.J t r) (.ref a):=by unfold eg;exact⟨a,o,q,U,uz,p,b?.mono (uJ c _) _ _ y⟩
  exact k _ _ _ (uJ c _) (R.toImD b f U c m j) j
 .rename_i B b;cases e;obtain⟨v,w,x⟩:=R.sl i _ b;exact⟨v,yD w,.inl (k _ _ _ (uL.refl _) R x)⟩
 .cases e
set_option tactic.hygienic false
def HQ(i:Nat):FA:=λa=>match a[i]? with
 |some (.M b)=>Z (b,a.set i .un)
 |_=>O
set_option tactic.hygienic true
def VW(h:PE X e (Ep i)):PE X e (u1 G (HQ i)):=PE.eb h λσ H Q C=>by
 obtain⟨F,ρ,H0,d,ρ',R,e,k⟩:=C;unfold HQ at e;split at e
 .rename_i ds l;cases e;obtain⟨a,xs,o,w,y,A,B⟩:=R.sl i _ l;have pw:∀{m:Nat} {x:Sl},(ρ.set i .un)[m]?=Z x->x.iE=γ->m≠i/\ρ[m]?=Z x:=λ{m x} e J=>by
   rw[cw]at e;by_cases h:i=m
   .subst h;rw[ah U]at e;split at e
    .cases e;cases J
    .cases e
   .rw[aj h]at e;exact⟨λz=>h z.symm,e⟩
  have q:dd G F σ (ρ.set i .un) H0 H:={
   sub:=R.sub,g0:=R.g0,keep:=R.keep,fr:=R.fr,am:=R.am
   len:=by rw[fX];exact R.len
   sl:=λj t e=>by
    rw[cw]at e;by_cases h:i=j
    .subst h;rw[ah U]at e;split at e
     .cases e;trivial
     .cases e
    .rw[aj h]at e;exact R.sl j t e
   ap:=λj k t u b hjk c r p tk I vk=>R.ap j k t u b hjk (pw c p).2 (pw r tk).2 p tk I vk }
  refine⟨_,yD o,k a xs _ _ (uL.refl _) q w y A (λj t c to z=>?_) B⟩;obtain⟨E,f⟩:=pw c to;exact R.ap j i t _ a E f l to U z o
 .cases e
end
set_option tactic.hygienic false
def stM(n:Nat)(b a:bh):aU:=.pm b::yr (n - 1) a
def Xw(b:aU):Option bh:=match b with
 |.pm a::_=>Z a
 |_=>O
def fnM(h n:Nat)(f:FS):bh->bh->Option (D×bh):=λe c=>if c.length=h then match f (stM n e c)with
 |some (.rt d b)=>match Xw b with
  |some a=>Z (d,a)
  |none=>O
 |some (.U i b)=>match Xw b with
  |some a=>Z (.b0 i,a)
  |none=>O
 |_=>O
 else O
section
variable{X:Cx}{G:Bg}
def cMut(g:bh->bh->Option (D×bh))(i:Nat)(a:FA):FE:=λe=>match xW e i with
 |some _=>match a e with
  |some (f,b)=>match xW b i with
   |some h=>match g h f with
    |some (d,c)=>Z (d,putAt b i c)
    |none=>O
   |none=>O
  |none=>O
 |none=>O
def Walk(G:Bg)(J:It)(h:bh)(j:Hp):Prop:=∀(i:Nat) (e a:Hp),uL j e->uL e a->
 (∀d,h[i]?=Z d->J.go i a/\∀x c,J.yld i a x c->∃f,uL e f/\uL f c/\uL a c/\(∀b o,f b=Z o->e b=Z o\/a b=O)/\eg G f d x)/\(i=h.length->J.stop i a)
def Rl(G:Bg)(f:FA):TI:=λi H R=>∃F h d e b,dd G F i h d H/\f h=Z (e,b)/\∀J a c,uL d a->dd G F i b a c->Walk G J e a->R J c
def PI.eb(h:PI X f e t)(w:∀b H R,d b H R->t b H R):PI X f e d:=λa s b H R I c=>h a s b H R I (w _ _ _ c)
def HR(h:fx G.K j a c)(r:b? G j w c):Walk G (Itl G.K a) w j:=λi q t s p=>by have f:=(s.t p).seq h;refine⟨λd e=>?_,λC=>⟨c,f,by rw[<-uB r,C];exact aL _⟩⟩;obtain⟨v,l,z⟩:=zl r e;refine⟨⟨c,v,f,l⟩,λx u y=>?_⟩;obtain⟨A,B⟩:=y;have m:=B c f;rw[l]at m;cases m;subst A;exact⟨q,uL.refl _,p,uL.refl _,λb o e=>.inl e,eg.mono s _ _ z⟩
def RX(h:f3 G.K j a c)(r:b? G j w c):Walk G (Itt G.K a) w j:=λi q t s p=>by have f:=f3.mono (s.t p) h;refine⟨λd e=>?_,λC=>⟨c,f,by rw[<-uB r,C];exact aL _⟩⟩;obtain⟨v,l,z⟩:=zl r e;refine⟨⟨c,v,f,l⟩,λx u y=>?_⟩;obtain⟨A,B⟩:=y;have m:=B c f;rw[l]at m;cases m;subst A;exact⟨q,uL.refl _,p,uL.refl _,λb o e=>.inl e,eg.mono s _ _ z⟩
def iL(f:FE):FA:=λc=>match f c with
 |some (.b0 b,a)=>Z (b,a)
 |some (.Q b,a)=>Z (b,a)
 |_=>O
def iT(f:FE):FA:=λc=>match f c with
 |some (.cx b,a)=>Z (b,a)
 |_=>O
set_option tactic.hygienic true
def LX(h:PI X w e (Q1 G.K (tF G f))):PI X w e (Rl G (iL f)):=PI.eb h λz H R u=>by
 obtain⟨F,q,p,y,x,R,e,k⟩:=u;unfold iL at e;split at e
 .rename_i i o j;cases e;refine⟨F,q,p,_,_,R,j,λv t d s b r=>?_⟩;obtain⟨a,m,rfl,c,l⟩:=r;exact⟨a,U,⟨m,b.sub.seq (fx.of c)⟩,k _ _ _ s b (HR (fx.of c) l)⟩
 .rename_i i o j;cases e;refine⟨F,q,p,_,_,R,j,λv t d s b r=>?_⟩;obtain⟨a,m,rfl,c,l⟩:=r;exact⟨a,U,⟨m,b.sub.seq c⟩,k _ _ _ s b (HR c l)⟩
 .cases e
def VX(h:PI X p e (Yv G.K (tF G f))):PI X p e (Rl G (iT f)):=PI.eb h λz H R m=>by
 obtain⟨F,t,d,y,u,R,e,k⟩:=m;unfold iT at e;split at e
 .rename_i j w l;cases e;refine⟨F,t,d,_,_,R,l,λv x i s b r=>?_⟩;obtain⟨a,q,rfl,c,o⟩:=r;exact⟨a,U,⟨q,f3.mono b.sub c⟩,k _ _ _ s b (RX c o)⟩
 .cases e
set_option tactic.hygienic false
def LY(lo:Int)(n:Nat):bh:=(az n).map λ(i:Nat)=>D.int (lo+(i:Int))
def RY{lo:Int}:Walk G (Itr lo n) (LY lo n) p:=λi c f s m=>by
 refine⟨λd e=>?_,λl=>by show n<=i;rw[l];simp[LY]⟩;unfold LY at e;rw[bu]at e;by_cases a:i<n
 .rw[kO a]at e;cases e;refine⟨a,λx h y=>?_⟩;obtain⟨j,rfl⟩:=y;subst j;exact⟨c,uL.refl _,m,uL.refl _,λb o e=>.inl e,wN _⟩
 .rw[fN (by simpa using a)]at e;cases e
def u3(f:FE):FA:=λb=>match f b with
 |some (.int n,a)=>if -1000000<=n/\n<=1000000 then Z (LY 0 n.toNat,a)else O
 |_=>O
set_option tactic.hygienic true
def Ny(h:PI X m e (Xo (q9 G (ax f uQ)))):PI X m e (Rl G (u3 f)):=PI.eb h λy H R i=>by
 obtain⟨F,o,a,t,p,R,e,k⟩:=i;unfold u3 at e;split at e
 .rename_i n q d;split at e
  .rename_i u;cases e;refine⟨F,o,a,[.int n],_,R,by unfold ax;rw[d];rfl,λx r b s c rs=>?_⟩;obtain⟨v,w,rfl,l,j⟩:=rs;subst j l;exact⟨n,U,by omega,by omega,k _ _ _ s c RY⟩
  .cases e
 .cases e
set_option tactic.hygienic false
def j0(g:FG)(b:FS):bh->FS
 |[],c=>Z (.nx c)
 |d::r,c=>match g d c with
  |none=>O
  |some e=>match b e with
   |some (.nx a)=>j0 g b r a
   |some (.ct a)=>j0 g b r a
   |some (.bk a)=>Z (.nx a)
   |some (.rt d a)=>Z (.rt d a)
   |some (.U d a)=>Z (.U d a)
   |none=>O
def xA(s:FA)(g:FG)(b:FS):FS:=λd=>match s d with
 |some (c,a)=>j0 g b c a
 |none=>O
def VY{st:Stmt}(h:PS X st (Yz (Rl G s) (χ G n g) (ma G b))):PS X st (ma G (xA s g b)):=PS.eb h λE σ H hh=>by
 obtain⟨F,Y,H0,o,R,e,k,k2⟩:=hh;unfold xA at e;rcases uV (f:=s) (ρ:=Y)with Q|⟨l,C,Q⟩<;>simp only[Q]at e
 .cases e
 .refine⟨F,Y,H0,l,C,R,Q,λJ N H1' s1 R1 wk=>?_⟩;refine⟨λi m σ H=>m=l.length - i/\i<=l.length/\∃c r,uL N r/\dd G F σ c r H/\j0 g b (l.drop i) c=Z o,⟨_,U,bH _,C,N,uL.refl _,R1,e⟩,?_⟩;rintro i m σi B ⟨rfl,hi,c,r,A,I,a⟩;by_cases hlt:i<l.length
  .have ed:=jg hlt;rw[ed]at a;unfold j0 at a;obtain⟨go,yl⟩:=(wk i r B A I.sub).1 l[i] (aM hlt);refine .inr ⟨go,λp z=>∃c r,uL N r/\dd G F p c r z/\j0 g b (l.drop (i+1)) c=Z o,λp z q=>⟨l.length - (i+1),by omega,U,hlt,q⟩,λx z y=>?_⟩;obtain⟨H2,M,t2,t3,t4,t5⟩:=yl x z y;have R2:=I.ix t3 M t2 t4;cases S:g l[i] c with
   |none=>simp only[S]at a;cases a
   |some w=>
    simp only[S]at a;refine⟨F,c,H2,_,w,R2,t5,S,λσ3 v R3=>?_⟩;have T:=k.A5 (s1.t (A.t M));cases u:b w with
    |none=>simp only[u]at a;cases a
    |some q=>
     refine⟨F,w,H2,q,R3,u,?_,λv=>U⟩;cases q with
     |nx j=>simp only[u]at a;exact λp t z W P=>⟨j,t,A.t (M.t W),P,a⟩
     |ct j=>simp only[u]at a;exact λp t z W P=>⟨j,t,A.t (M.t W),P,a⟩
     |bk j=>simp only[u]at a;cases a;exact T
     |rt d j=>simp only[u]at a;cases a;exact T
     |U d j=>simp only[u]at a;cases a;exact T
  .have ez:l.drop i=[]:=nS (by omega);rw[ez]at a;cases a;exact .inl ⟨(wk i r B A I.sub).2 (by omega),k _ _ _ (s1.t A) I⟩
def whL(c:FT)(b:FS):Nat->FS
 |0,_=>O
 |n+1,f=>match c f with
  |some (δ,e)=>Z (.nx e)
  |some (γ,e)=>match b e with
   |some (.nx a)=>whL c b n a
   |some (.ct a)=>whL c b n a
   |some (.bk a)=>Z (.nx a)
   |some (.rt d a)=>Z (.rt d a)
   |some (.U d a)=>Z (.U d a)
   |none=>O
  |none=>O
def Qe{st:Stmt}(n:Nat)(h:PS X st (QY (m? G c) (ma G b))):PS X st (ma G (whL c b n)):=PS.eb h λE P H Y=>by
 obtain⟨F,N,B,o,R,e,k,k2⟩:=Y;refine⟨λm P H=>∃i r,uL B r/\dd G F P i r H/\whL c b m i=Z o,⟨n,N,B,uL.refl _,R,e⟩,?_⟩;rintro m σi T ⟨i,r,A,W,a⟩;cases m with
 |zero=>cases a
 |succ m=>
  unfold whL at a;rcases uV (f:=c) (ρ:=i)with x|⟨t,w,x⟩
  .simp only[x]at a;cases a
  .refine⟨F,i,r,t,w,W,x,λQ S z M=>?_⟩;cases t with
   |false=>simp only[x]at a;cases a;exact KN (k _ _ _ (A.t z) M)
   |true=>
    simp only[x]at a;refine KO ⟨λl y=>∃i r,uL B r/\dd G F l i r y/\whL c b m i=Z o,λl y q=>⟨m,di m,q⟩,?_⟩;have I:=k.A5 (A.t z);cases u:b w with
    |none=>simp only[u]at a;cases a
    |some q=>
     refine⟨F,w,Q,q,M,u,?_,λv=>U⟩;cases q with
     |nx j=>simp only[u]at a;exact λl p y J C=>⟨j,p,A.t (z.t J),C,a⟩
     |ct j=>simp only[u]at a;exact λl p y J C=>⟨j,p,A.t (z.t J),C,a⟩
     |bk j=>simp only[u]at a;cases a;exact I
     |rt d j=>simp only[u]at a;cases a;exact I
     |U d j=>simp only[u]at a;cases a;exact I
end
def Sl.ew:Sl->Sl
 |.q d=>.q d
 |.M a=>.pm a
 |.pm a=>.pm a
 |_=>.un
def G2(k:Nat)(ew:List Nat)(ρ:aU):aU:=eF k .un++ew.map λj=>((ρ[j]?).getD .un).ew
def yk:List Nat->aU->aU->Option aU
 |[],_,a=>Z a
 |j::ew,t::b,a=>match xW a j with
  |some _=>match t with
   |.pm c=>yk ew b (putAt a j c)
   |_=>O
  |none=>yk ew b a
 |_::_,[],_=>O
def DC(k:Nat)(ew:List Nat)(g:FG)(ft:FT)(f:FE):bh->aU->Option (bh×aU)
 |[],c=>Z ([],c)
 |d::r,c=>match g d (G2 k ew c)with
  |none=>O
  |some h=>match ft h with
   |some (γ,b)=>match f b with
    |some (x,i)=>match yk ew (i.drop k) c with
     |some a=>match DC k ew g ft f r a with
      |some (j,e)=>Z (x::j,e)
      |none=>O
     |none=>O
    |none=>O
   |some (δ,b)=>match yk ew (b.drop k) c with
    |some a=>DC k ew g ft f r a
    |none=>O
   |none=>O
def uF(k:Nat)(ew:List Nat)(s:FA)(g:FG)(ft:FT)(fe:FE):FA:=λc=>match s c with
 |some (b,a)=>if b.length<=1000 then DC k ew g ft fe b a else O
 |none=>O
def vC:FT:=λa=>Z (γ,a)
theorem A9:∀{ew:List Nat} {B f b:aU},yk ew B f=Z b->b.length=f.length/\
  (∀(j:Nat) (c:Sl),b[j]?=Z c->∃s,f[j]?=Z s/\((c=s/\(s.L≠O->j∉ew))\/∃(m:Nat) (i a:bh),ew[m]?=Z j/\B[m]?=Z (Sl.pm i)/\s.L=Z a/\c=s.putL i))
 |[],B,f,b,h=>by cases h;exact⟨U,λj c e=>⟨c,e,.inl ⟨U,λv z=>by cases z⟩⟩⟩
 |G::ew,[],f,b,h=>by cases h
 |G::ew,t::B,f,b,h=>by
  unfold yk at h;cases l:xW f G with
  |none=>
   simp only[l]at h;obtain⟨C,E⟩:=A9 h;refine⟨C,λj c e=>?_⟩;obtain⟨s,r,q⟩:=E j c e;refine⟨s,r,?_⟩;rcases q with ⟨rfl,q⟩|⟨m,i,a,u,w,A,x⟩
   .refine .inl ⟨U,λz y=>?_⟩;rcases aO.1 y with y|y
    .subst y;unfold xW at l;rw[r]at l;exact z l
    .exact q z y
   .exact .inr ⟨m+1,i,a,u,w,A,x⟩
  |some p=>
   simp only[l]at h;cases t with
   |pm i=>
    simp only at h;obtain⟨I,r,H⟩:=zf l;unfold putAt at h;rw[r]at h;simp only at h;obtain⟨C,E⟩:=A9 h;refine⟨by rw[C,fX],λj c e=>?_⟩;obtain⟨s,o,q⟩:=E j c e;by_cases F:G=j
    .subst F;rw[cw,ah U]at o;split at o
     .cases o;refine⟨I,r,.inr ?_⟩;rcases q with ⟨rfl,q⟩|⟨m,d,a,u,w,A,x⟩
      .exact⟨0,i,p,U,U,H,U⟩
      .refine⟨m+1,d,p,u,w,H,?_⟩;rw[x];cases I<;>rfl
     .cases o
    .rw[cw,aj F]at o;refine⟨s,o,?_⟩;rcases q with ⟨rfl,q⟩|⟨m,d,a,u,w,A,x⟩
     .refine .inl ⟨U,λz y=>?_⟩;rcases aO.1 y with y|y
      .exact F y.symm
      .exact q z y
     .exact .inr ⟨m+1,d,a,u,w,A,x⟩
   |_=>cases h
def Jo(ew:List Nat)(b:St)(ρ:aU):List Addr:=ew.filterMap λj=>match xW ρ j,(b[j]?).join with
 |some _,Z (.ref a)=>Z a
 |_,_=>O
set_option tactic.hygienic true
def Ci:a∈Jo ew i h ↔ ∃j∈ew,(∃b,xW h j=Z b)/\(i[j]?).join=Z (.ref a):=by
 unfold Jo;rw[jv];constructor
 .rintro⟨j,f,e⟩;refine⟨j,f,?_⟩;split at e
  .rename_i b l c d;cases e;exact⟨⟨b,c⟩,d⟩
  .cases e
 .rintro⟨j,f,⟨b,c⟩,d⟩;refine⟨j,f,?_⟩;rw[c,d]
section
variable{X:Cx}{G:Bg}{F:Fr}{σ:St}{ρ:aU}{H0 H:Hp}
set_option tactic.hygienic false
def HS(h:(G2 k ew ρ)[i]?=Z s):s=.un\/∃m j,i=k+m/\ew[m]?=Z j/\s=((ρ[j]?).getD .un).ew:=by
 unfold G2 at h;by_cases a:i<k
 .rw[fM (by simpa using a),jl,ah a]at h;cases h;exact .inl U
 .rw[fL (by simpa using pG a),cU,bu]at h;cases e:ew[i - k]? with
  |none=>rw[e]at h;cases h
  |some j=>rw[e]at h;cases h;exact .inr ⟨i - k,j,by omega,e,U⟩
def EE(h:ew[m]?=Z j):((xV k ew σ)[k+m]?).join=(σ[j]?).join:=by unfold xV;rw[fL (by simp),cU,show k+m - k=m by omega,bu,h];rfl
theorem dd.ew(R:dd G F σ ρ H0 H)(k:Nat)(ew:List Nat)(nd:ew.Nodup):dd G ⟨H0,H,Jo ew σ ρ⟩ (xV k ew σ) (G2 k ew ρ) H0 H where
 sub:=R.sub
 g0:=uL.refl _
 keep:=λb o e _=>e
 fr:=λb o e=>.inl e
 am:=λa ha=>by obtain⟨j,x,⟨ds,l⟩,r⟩:=Ci.1 ha;obtain⟨s,E,I⟩:=zf l;obtain⟨Q,xs,f,p,_⟩:=(R.sl j s E).b0 I;rw[r]at f;cases f;exact⟨_,p⟩
 len:=by unfold xV G2;rw[aC,aC,cU,cU,af,af]
 sl:=λi s e=>by
  rcases HS e with rfl|⟨m,j,rfl,l,rfl⟩
  .trivial
  .rw[EE l];cases r:ρ[j]? with
   |none=>trivial
   |some s=>
    have ok:=R.sl j s r;have mem:∀{a:Addr} {ds:bh},s.L=Z ds->(σ[j]?).join=Z (.ref a)->a∈Jo ew σ ρ:=λf p=>Ci.2 ⟨j,cv l,⟨_,by unfold xW;rw[r];exact f⟩,p⟩;cases s with
    |un=>trivial
    |q d=>exact ok
    |M ds=>obtain⟨a,xs,f,p,u,J,w⟩:=ok;exact⟨a,xs,f,p,u,mem U f,w⟩
    |pm ds=>obtain⟨a,xs,f,p,u,J,w⟩:=ok;exact⟨a,xs,f,p,u,mem U f,w⟩
    |dk ks ds=>trivial
    |ob c ns ds=>trivial
 ap:=λi S s t a hii e C so to v B=>by
  rcases HS e with rfl|⟨m,j,rfl,l,rfl⟩
  .cases so
  rcases HS C with rfl|⟨T,A,rfl,q,rfl⟩
  .cases to
  rw[EE l]at v;rw[EE q]at B;have iE:∀{j:Nat},(((ρ[j]?).getD Sl.un).ew).iE=γ->∃s,ρ[j]?=Z s/\s.iE=γ:=λ{j} h=>by
   cases z:ρ[j]? with
   |none=>rw[z]at h;cases h
   |some s=>rw[z]at h;refine⟨s,U,?_⟩;cases s<;>first|rfl|cases h
  obtain⟨s,z,P⟩:=iE so;obtain⟨M,N,y⟩:=iE to;by_cases x:j=A
  .subst x;have:=(List.getElem?_inj (ck.1 l).1 nd).1 (l.t q.symm);exact hii (by rw[this])
  .exact R.ap j A s M a x z N P y v B
theorem dd.uncap(R:dd G F σ ρ H0 H){k:Nat}{ew:List Nat}{f:St}{C ρ':aU}{H1 p:Hp}(c:dd G ⟨H0,H,Jo ew σ ρ⟩ f C H1 p)(hd:f.drop k=(xV k ew σ).drop k)(hu:yk ew (C.drop k) ρ=Z ρ'):dd G F σ ρ' H1 p:=by
 obtain⟨hl,hc⟩:=A9 hu;have I:∀{m j:Nat},ew[m]?=Z j->(f[k+m]?).join=(σ[j]?).join:=λ{m j} e=>by
  have q:(f.drop k)[m]?=((xV k ew σ).drop k)[m]?:=by rw[hd]
  rw[eA,eA]at q;rw[q];exact EE e
 have nA:∀{j:Nat} {s:Sl} {a:Addr},ρ[j]?=Z s->s.iE=γ->(σ[j]?).join=Z (.ref a)->(s.L≠O->j∉ew)->a∉Jo ew σ ρ:=λ{j s a} e so z hn ha=>by
  obtain⟨i,hi,⟨ds,d⟩,N⟩:=Ci.1 ha;obtain⟨t,r,E⟩:=zf d;by_cases hij:i=j
  .subst hij;rw[e]at r;cases r;exact hn (by rw[E];simp) hi
  .exact R.ap i j t s a hij r e (Sl.tH E) so N z
 have hA:∀a∈Jo ew σ ρ,F.B a=O\/a∈F.A:=λa ha=>by obtain⟨i,hi,⟨ds,d⟩,N⟩:=Ci.1 ha;obtain⟨t,r,E⟩:=zf d;obtain⟨a',u,h,P,Q,h4⟩:=(R.sl i t r).at (Sl.tH E);rw[N]at h;cases h;exact h4
 have own':∀{j:Nat} {l:Sl},ρ'[j]?=Z l->l.iE=γ->∃s,ρ[j]?=Z s/\s.iE=γ:=λ{j l} e so=>by
  obtain⟨s,d,q⟩:=hc j l e;rcases q with ⟨rfl,q⟩|⟨m,ds,J,q1,S,T,q4⟩
  .exact⟨l,d,so⟩
  .exact⟨s,d,Sl.tH T⟩
 exact {
  sub:=c.sub
  g0:=R.g0.t c.g0
  keep:=λb o e n=>by
   refine c.keep b o (R.keep b o e n) λha=>?_;rcases hA b ha with q|q
   .rw[q]at e;cases e
   .exact n q
  fr:=λb o e=>by
   rcases c.fr b o e with q|q
   .exact R.fr b o q
   .exact .inr (R.gk q)
  am:=λa ha=>by
   obtain⟨o,q⟩:=R.am a ha;by_cases z:a∈Jo ew σ ρ
   .exact c.am a z
   .exact⟨o,c.keep a o q z⟩
  len:=by rw[hl];exact R.len
  sl:=λj l e=>by
   obtain⟨s,d,q⟩:=hc j l e;rcases q with ⟨rfl,q⟩|⟨m,ds,J,q1,S,T,q4⟩
   .refine(R.sl j l d).ix c.g0 (λa u z so y=>c.keep a u y (nA d so z q)) λa u z so y y0=>?_;cases w:H1 a with
    |none=>rfl
    |some o=>
     rcases c.fr a o w with x|x
     .have W:H0 a=Z o:=x;rw[W]at y0;cases y0
     .have W:H a=O:=x;rw[W]at y;cases y
   .rw[eA]at S;obtain⟨a,xs,h,P,Q,h4,h5⟩:=c.sl _ _ S;rw[I q1]at h;have ok:=R.sl j s d;subst q4;cases s with
    |M M=>obtain⟨a',Y,g1,g2,g3,g4,g5⟩:=ok;rw[h]at g1;cases g1;exact⟨a,xs,h,P,Q,g4,h5⟩
    |pm M=>obtain⟨a',Y,g1,g2,g3,g4,g5⟩:=ok;rw[h]at g1;cases g1;exact⟨a,xs,h,P,Q,g4,h5⟩
    |_=>cases T
  ap:=λi j s t a hij ei ej so to v v'=>by
   obtain⟨s0,z,zo⟩:=own' ei so;obtain⟨t0,y,yo⟩:=own' ej to;exact R.ap i j s0 t0 a hij z y zo yo v v' }
def Cj{k:Nat}(h:rm σ ρ p)(f:yk ew u ρ=Z a):rm σ a p:=λi c e so=>by
 obtain⟨s,b,q⟩:=(A9 f).2 i c e;rcases q with ⟨rfl,q⟩|⟨m,l,d,o,r,j,t⟩
 .exact h i c b so
 .exact h i s b (Sl.tH j)
inductive CI(G:Bg) (F:Fr) (σ:St) (H1:Hp) (p:Addr) (k:Nat) (ew:List Nat) (g:FG) (ft:FT) (fe:FE) (ds es:bh) (ρ':aU) (i m:Nat) (acc:bJ) (H2:Hp):Prop
 |mk (ρi:aU) (Hi:Hp) (dn fb:bh):m=ds.length - i->i<=ds.length->uL H1 Hi->dd G F σ ρi Hi H2->H2 p=Z (.b0 acc)->Hi p=O->rm σ ρi p->b? G Hi dn acc->dn.length<=i->DC k ew g ft fe (ds.drop i) ρi=Z (fb,ρ')->es=dn++fb->CI G F σ H1 p k ew g ft fe ds es ρ' i m acc H2
set_option tactic.hygienic true
def KR{ew:List Nat}(nd:ew.Nodup):∀σ H Q,u1 G (uF k ew s g ft fe) σ H Q->Ge (Rl G s) (χ G k g) (m? G ft) (tF G fe) k ew σ H Q:=λσ H Q hh=>by
 obtain⟨F,ρ,H0,es,ρ',R,e,kk⟩:=hh;unfold uF at e;rcases uV (f:=s) (ρ:=ρ)with e1|⟨d,ρ1,e1⟩<;>simp only[e1]at e
 .cases e
 .split at e
  .rename_i hlen;refine⟨F,ρ,H0,d,ρ1,R,e1,λJ H1 H1' s1 P wk p T=>?_⟩;refine⟨CI G F σ H1 p k ew g ft fe d es ρ',
    ⟨_,ρ1,H1,[],es,U,bH _,uL.refl _,P.f? T _,uz,P.e7 T,P.apart T,u7,aL _,e,U⟩,?_⟩
   rintro i m acc H2 ⟨c,Hi,dn,fb,rfl,hi,si,Ri,C,W,apt,rs,hdn,a,rfl⟩;by_cases hlt:i<d.length
   .have ed:=jg hlt;rw[ed]at a;unfold DC at a;obtain⟨go,yl⟩:=(wk i Hi H2 si Ri.sub).1 d[i] (aM hlt);refine .inr ⟨go,λx H3 y=>?_⟩;obtain⟨I,t1,t2,t3,t4,t5⟩:=yl x H3 y;have R2:=Ri.ix t3 t1 t2 t4;have Y:=t3 _ _ C;have hpj:I p=O:=by
     cases w:I p with
     |none=>rfl
     |some o=>
      rcases t4 p o w with z|z
      .rw[W]at z;cases z
      .rw[C]at z;cases z
    have RC:=R2.ew k ew nd;have npA:p∉Jo ew σ c:=λz=>by obtain⟨j,_,⟨ds',q1⟩,q2⟩:=Ci.1 z;obtain⟨t,q3,q4⟩:=zf q1;exact apt j t q3 (Sl.tH q4) q2
    cases e2:g d[i] (G2 k ew c)with
    |none=>simp only[e2]at a;cases a
    |some E=>
     simp only[e2]at a;refine⟨_,_,I,d[i],E,RC,t5,e2,λσ4 B R4=>⟨B,?_⟩⟩;rcases uV (f:=ft) (ρ:=E)with S|⟨b,l,S⟩
     .simp only[S]at a;cases a
     .refine⟨_,E,I,b,l,R4,S,λH5 H5' s5 R5=>?_⟩;have keepP:∀{σ':St} {ρ'':aU} {Ha N:Hp},dd G ⟨I,H3,Jo ew σ c⟩ σ' ρ'' Ha N->N p=Z (.b0 acc)/\Ha p=O:=λRz=>by
       refine⟨Rz.keep p _ Y npA,?_⟩;refine Option.eq_none_iff_forall_ne_some.2 λo M=>?_;rcases Rz.fr p o M with z|z
       .have z':I p=Z o:=z;rw[hpj]at z';cases z'
       .have z':H3 p=O:=z;rw[Y]at z';cases z'
      cases b with
      |false=>
       simp only[S]at a;refine KN ?_;cases h:yk ew (l.drop k) c with
       |none=>simp only[h]at a;cases a
       |some r=>simp only[h]at a;obtain⟨w1,M⟩:=keepP R5;exact⟨d.length - (i+1),by omega,r,H5,dn,fb,U,hlt,si.t (t1.t s5),R2.uncap R5 B h,w1,M,Cj (k:=k) apt h,b?.mono (t1.t s5) _ _ rs,by omega,a,U⟩
      |true=>
       simp only[S]at a;refine KO ?_;rcases uV (f:=fe) (ρ:=l)with e5|⟨x5,ρ5,e5⟩
       .simp only[e5]at a;cases a
       .simp only[e5]at a;refine⟨_,l,H5,x5,ρ5,R5,e5,λv H6 H6' s6 R6 rv=>?_⟩;obtain⟨w1,M⟩:=keepP R6;cases h:yk ew (ρ5.drop k) c with
        |none=>simp only[h]at a;cases a
        |some r=>
         simp only[h]at a;cases e6:DC k ew g ft fe (d.drop (i+1)) r with
         |none=>simp only[e6]at a;cases a
         |some q=>
          obtain⟨rest',ρz⟩:=q;simp only[e6]at a;cases a;have A:=R2.uncap R6 B h;have lacc:=(uB rs).symm;refine⟨acc,w1,AC (by omega),d.length - (i+1),by omega,r,H6,dn++[x5],rest',U,hlt,si.t (t1.t (s5.t s6)),?_,uz,M,Cj (k:=k) apt h,wy (b?.mono (t1.t (s5.t s6)) _ _ rs) (vg rv u7),by rw[aC,c4];omega,e6,by rw[b8];rfl⟩;exact {
           sub:=λb o e=>by rw[uH (λz=>by rw[z,M]at e;cases e)];exact A.sub b o e
           g0:=A.g0
           keep:=λb o e n=>by rw[uH (λz=>by subst z;rw[P.gk T]at e;cases e)];exact A.keep b o e n
           fr:=A.fr
           am:=λb hb=>by
            by_cases z:b=p
            .subst z;exact⟨_,uz⟩
            .rw[uH z];exact A.am b hb
           len:=A.len
           sl:=λj t ej=>(A.sl j t ej).ix (uL.refl _) (λb u z to q=>by rw[uH (λy=>Cj (k:=k) apt h j t ej to (by rw[z,y]))];exact q) λb u _ _ _ q=>q
           ap:=A.ap }
   .have ez:d.drop i=[]:=nS (by omega);rw[ez]at a;cases a;rw[b9]at kk;exact .inl ⟨(wk i Hi H2 si Ri.sub).2 (by omega),kk p acc Hi H2 (s1.t si) Ri C W (P.gk T) apt rs⟩
  .cases e
set_option tactic.hygienic false
def RZ{ew:List Nat}(c:ew.Nodup)(h:PE X e (Ge (Rl G s) (χ G k g) (m? G b) (tF G a) k ew)):PE X e (u1 G (uF k ew s g b a)):=PE.eb h (KR c)
def R0:PIf X [] (m? G vC):=λa s σ H Q I h=>by obtain⟨F,ρ,H0,b,c,R,e,k⟩:=h;cases e;exact Vo a s σ H Q I (k _ _ (uL.refl _) R)
end
def xh:D->Bool
 |.E=>γ|.I _=>γ|.int _=>γ|.str _=>γ|_=>δ
def vD:D->V
 |.E=>.E|.I b=>.I b|.int i=>.int i|.str x=>.str x|_=>.E
section
variable{X:Cx}{G:Bg}{H:Hp}
def yE{d:D}{v:V}(h:eg G H d v)(f:xh d=γ):v=vD d:=by cases d<;>first|(unfold eg at h;exact h)|cases f
def EF{d:D}(f:xh d=γ):∀H,eg G H d (vD d):=λH=>by cases d<;>first|(unfold eg;rfl)|cases f
theorem FI:∀{a:bh} {b:bJ},b? G H a b->a.all xh=γ->b=a.map vD
 |[],b,h,f=>by unfold b? at h;exact h
 |d::a,b,h,f=>by obtain⟨v,r,rfl,c,e⟩:=h;rw[fZ,aQ]at f;rw[aS,yE c f.1,FI e f.2]
def LZ{d:D}(f:xh d=γ):Dy (vD d)=γ:=by cases d<;>first|rfl|cases f
theorem JN:∀{a:bh},a.all xh=γ->(a.map vD).all Dy=γ
 |[],_=>rfl
 |d::a,f=>by rw[fZ,aQ]at f;rw[aS,fZ,LZ f.1,JN f.2];rfl
def i0.or{f:ab->ab->Sem ab}{r b:R2}(h:i0 X f r)(i:i0 X f b):i0 X f (λx y H Q=>r x y H Q\/b x y H Q):=λa s e H x y v u Q I c d q=>q.elim (h a s e H x y v u Q I c d) (i a s e H x y v u Q I c d)
def j?.or{r d:R2}{g c:D->D->Option D}(h:j? G r g)(j:j? G d c):j? G (λx y H Q=>r x y H Q\/d x y H Q) (λx y=>match g x y with|some z=>Z z|none=>c x y):=λx y z b H v u Q e s f i k=>by
 cases a:g x y with
 |some w=>simp only[a]at e;cases e;exact .inl (h x y _ b H v u Q a s f i k)
 |none=>simp only[a]at e;exact .inr (j x y z b H v u Q e s f i k)
def dI(C:Int->Int->Bool)(g:Int->Int->D):D->D->Option D
 |.int a,.int b=>if C a b=γ then Z (g a b)else O
 |_,_=>O
set_option tactic.hygienic true
def L0{C:Int->Int->Bool}{d:Int->Int->Prop}{g:Int->Int->D}{f:Int->Int->V}(hC:∀a b,C a b=γ->d a b)(h:∀a b,xh (g a b)=γ/\vD (g a b)=f a b):j? G (rI d f) (dI C g):=λx y z m H v u Q e s j l k=>by
 unfold dI at e;split at e
 .rename_i a b;split at e
  .rename_i i;cases e;exact⟨a,b,j,l,hC _ _ i,by rw[<-(h a b).2];exact k _ λc q=>EF (h a b).1 c⟩
  .cases e
 .cases e
def D2{g:Int->Int->D}{d:Int->Int->V}(f:∀a b,xh (g a b)=γ/\vD (g a b)=d a b):j? G (D? d) (dI (λq q=>γ) g):=λx y z j H v u Q e s h i k=>by
 unfold dI at e;split at e
 .rename_i a b;split at e
  .cases e;exact⟨a,b,h,i,by rw[<-(f a b).2];exact k _ λc q=>EF (f a b).1 c⟩
  .cases e
 .cases e
set_option tactic.hygienic false
def vp:=dI (λz z=>γ) λa b=>.int (a+b)
def DD:=dI (λz z=>γ) λa b=>.int (a - b)
def D3(a:Int):Bool:=decide (-(2 ^ 64)<a)&&decide (a<2 ^ 64)
def xO:=dI (λa b=>D3 a||D3 b) λa b=>.int (a * b)
def uR:=dI (λz b=>decide (0<b)) λa b=>.int (a % b)
def vF:=dI (λz b=>decide (0<b)&&decide (b<1073741824)) λa b=>.int (a / b)
def R7:=dI (λa b=>decide (0<=b)&&decide (b<=1000000)&&decide (a.natAbs<2 ^ 64)) λa b=>.int (a ^ b.toNat)
def NA:=dI (λz z=>γ) λa b=>.I (decide (a<b))
def yK:=dI (λz z=>γ) λa b=>.I (decide (a<=b))
def FJ:=dI (λz z=>γ) λa b=>.I (decide (b<a))
def Zg:=dI (λz z=>γ) λa b=>.I (decide (b<=a))
def Zh:j? G (D? λi j=>.int (i+j)) vp:=D2 λz z=>⟨U,U⟩
def Zi:j? G (D? λi j=>.int (i - j)) DD:=D2 λz z=>⟨U,U⟩
def Zj:j? G (rI U3 λi j=>.int (i * j)) xO:=L0 (λa b h=>by
 unfold D3 at h;simp only[fB,aQ,bz]at h;exact h) λz z=>⟨U,U⟩
def Zk:j? G (rI (λz j=>0<j) λi j=>.int (i % j)) uR:=L0 (λa b h=>by simpa using h) λz z=>⟨U,U⟩
def Zl:j? G (rI YC λi j=>.int (i / j)) vF:=L0 (λa b h=>by unfold YC;simpa using h) λz z=>⟨U,U⟩
def Zm:j? G (rI CPow λi j=>.int (i ^ j.toNat)) R7:=L0 (λa b h=>by
 simp only[aQ,bz]at h;exact⟨h.1.1,h.1.2,h.2⟩) λz z=>⟨U,U⟩
def acV:j? G (D? λi j=>.I (decide (i<j))) NA:=D2 λz z=>⟨U,U⟩
def acW:j? G (D? λi j=>.I (decide (i<=j))) yK:=D2 λz z=>⟨U,U⟩
def acX:j? G (D? λi j=>.I (decide (j<i))) FJ:=D2 λz z=>⟨U,U⟩
def acY:j? G (D? λi j=>.I (decide (j<=i))) Zg:=D2 λz z=>⟨U,U⟩
def Ck:D->D->Option D
 |.str a,.str b=>if a.length+b.length<=100000 then Z (.str (a++b))else O
 |_,_=>O
def HU{n:Nat}(h:n<=100000):n<=aI:=bQ h (by rw[bU];decide)
set_option tactic.hygienic true
def VZ:j? G (λx y H Q=>∃i j,x=.str i/\y=.str j/\i.length+j.length<=aI/\Q (.str (i++j)) H) Ck:=λx y z h H v u Q e s d f k=>by
 unfold Ck at e;split at e
 .rename_i a b;split at e
  .rename_i c;cases e;exact⟨a,b,d,f,HU c,k _ λq q=>y6 _⟩
  .cases e
 .cases e
set_option tactic.hygienic false
def R8:D->D->Option D
 |.str a,.str b=>Z (.I (!decide (b.cps.toList<a.cps.toList)))
 |_,_=>O
set_option tactic.hygienic true
def Zn:j? G (λx y H Q=>∃i j,x=.str i/\y=.str j/\Q (.I (!decide (j.cps.toList<i.cps.toList))) H) R8:=λx y z f H v u Q e s c d k=>by
 unfold R8 at e;split at e
 .rename_i a b;cases e;exact⟨a,b,c,d,k _ λq q=>wZ _⟩
 .cases e
set_option tactic.hygienic false
def D.isN:D->Bool
 |.E=>γ
 |_=>δ
def Ag:D->D->Option D
 |x,.E=>Z (.I x.isN)
 |_,_=>O
def y3:D->D->Option D
 |x,.E=>Z (.I (!x.isN))
 |_,_=>O
def OE{d:D}{v:V}(h:eg G H d v):decide (v=.E)=d.isN:=by
 cases d<;>unfold eg at h
 .subst h;rfl
 .subst h;rfl
 .subst h;rfl
 .subst h;rfl
 .obtain⟨a,b,rfl,_⟩:=h;rfl
 .obtain⟨a,b,rfl,_⟩:=h;rfl
 .obtain⟨a,b,rfl,_⟩:=h;rfl
 .obtain⟨a,c,b,rfl,_⟩:=h;rfl
 .obtain⟨a,e,b,rfl,_⟩:=h;rfl
 .obtain⟨a,b,rfl,_⟩:=h;rfl
def Zo:j? G (λx y H Q=>y=.E/\Q (.I (decide (x=.E))) H) Ag:=λx y z c H v u Q e s b a k=>by
 unfold Ag at e;split at e
 .cases e;unfold eg at a;refine⟨a,?_⟩;rw[OE b];exact k _ λq q=>wZ _
 .cases e
def V0:j? G (λx y H Q=>y=.E/\Q (.I (!decide (x=.E))) H) y3:=λx y z c H v u Q e s b a k=>by
 unfold y3 at e;split at e
 .cases e;unfold eg at a;refine⟨a,?_⟩;rw[OE b];exact k _ λq q=>wZ _
 .cases e
def ad6:D->D->Option D
 |.I a,.I b=>Z (.I (a != b))
 |_,_=>O
mutual
def mq:D->Option L3.Dq
 |.E=>Z .E
 |.I b=>Z (.I b)
 |.int i=>Z (.int i)
 |.str x=>Z (.str x)
 |.cx a=>match xc a with
  |some l=>Z (.cx l)
  |none=>O
 |.b0 a=>match xc a with
  |some l=>Z (.b0 l)
  |none=>O
 |.Q _=>O
 |.obj _ _ _=>O
 |.J _ _=>O
 |.X _ _=>O
def xc:bh->Option (List L3.Dq)
 |[]=>Z []
 |d::a=>match mq d with
  |some x=>match xc a with
   |some l=>Z (x::l)
   |none=>O
  |none=>O
end
mutual
theorem Hg:∀(d:D) (v:V) (x:L3.Dq),eg G H d v->mq d=Z x->L3.eg G.K H x v
 |.E,v,x,h,e=>by unfold mq at e;cases e;unfold eg at h;unfold L3.eg;exact h
 |.I b,v,x,h,e=>by unfold mq at e;cases e;unfold eg at h;unfold L3.eg;exact h
 |.int b,v,x,h,e=>by unfold mq at e;cases e;unfold eg at h;unfold L3.eg;exact h
 |.str b,v,x,h,e=>by unfold mq at e;cases e;unfold eg at h;unfold L3.eg;exact h
 |.cx f,v,x,h,e=>by
  unfold mq at e;cases c:xc f with
  |none=>simp only[c]at e;cases e
  |some l=>simp only[c]at e;cases e;obtain⟨a,i,rfl,j,m⟩:=h;exact⟨a,i,U,j,EG f i l m c⟩
 |.b0 f,v,x,h,e=>by
  unfold mq at e;cases c:xc f with
  |none=>simp only[c]at e;cases e
  |some l=>simp only[c]at e;cases e;obtain⟨a,i,rfl,j,m⟩:=h;exact⟨a,i,U,fx.of j,EG f i l m c⟩
 |.Q _,v,x,h,e=>by unfold mq at e;cases e
 |.obj _ _ _,v,x,h,e=>by unfold mq at e;cases e
 |.J _ _,v,x,h,e=>by unfold mq at e;cases e
 |.X _ _,v,x,h,e=>by unfold mq at e;cases e
theorem EG:∀(a:bh) (b:bJ) (l:List L3.Dq),b? G H a b->xc a=Z l->L3.b? G.K H l b
 |[],b,l,h,e=>by unfold xc at e;cases e;unfold b? at h;unfold L3.b?;exact h
 |d::a,b,l,h,e=>by
  unfold xc at e;cases c:mq d with
  |none=>simp only[c]at e;cases e
  |some x=>
   simp only[c]at e;cases f:xc a with
   |none=>simp only[f]at e;cases e
   |some m=>simp only[f]at e;cases e;obtain⟨v,r,rfl,i,j⟩:=h;exact⟨v,r,U,Hg d v x i c,EG a r m j f⟩
end
def G3(neg:Bool):D->D->Option D:=λx y=>match xh x&&xh y&&Q5 (vD x) (vD y)with
 |true=>Z (.I (if neg then !decide (vD x=vD y)else decide (vD x=vD y)))
 |false=>O
def G4(neg:Bool):D->D->Option D:=λx y=>match mq x,mq y with
 |some a,Z b=>if RF a b&&decide (g? a<=20)&&decide (g? b<=20)then Z (.I (if neg then !qq a b else qq a b))else O
 |_,_=>O
def er(neg:Bool):D->D->Option D:=λx y=>match G3 neg x y with
 |some z=>Z z
 |none=>G4 neg x y
def Zp:j? G rEq (G3 δ):=λx y z d H v u Q e s b c k=>by
 unfold G3 at e;cases a:xh x&&xh y&&Q5 (vD x) (vD y)with
 |false=>simp only[a]at e;cases e
 |true=>simp only[a]at e;cases e;simp only[aQ]at a;rw[yE b a.1.1,yE c a.1.2];exact⟨a.2,k _ λq q=>wZ _⟩
def Zq:j? G rNe (G3 γ):=λx y z d H v u Q e s b c k=>by
 unfold G3 at e;cases a:xh x&&xh y&&Q5 (vD x) (vD y)with
 |false=>simp only[a]at e;cases e
 |true=>simp only[a]at e;cases e;simp only[aQ]at a;rw[yE b a.1.1,yE c a.1.2];exact⟨a.2,k _ λq q=>wZ _⟩
set_option tactic.hygienic true
def R9{neg:Bool}:j? G (Nt G.K neg) (G4 neg):=λx y z j H v u Q e s h i k=>by
 unfold G4 at e;cases c:mq x with
 |none=>simp only[c]at e;cases e
 |some a=>
  cases f:mq y with
  |none=>simp only[c,f]at e;cases e
  |some b=>
   simp only[c,f]at e;split at e
   .rename_i d;cases e;simp only[aQ,bz]at d;exact⟨a,b,Hg x v a (eg.mono s _ _ h) c,Hg y u b (eg.mono s _ _ i) f,d.1.1,d.1.2,d.2,k _ λq q=>wZ _⟩
   .cases e
set_option tactic.hygienic false
def Zr(a:X.A.units+64<cLine)(hK:X.K=G.K:=by rfl):i0 X (bB .Eq) (λx y H Q=>rEq x y H Q\/Nt G.K δ x y H Q):=by rw[<-hK];exact i0.or acr (Y2 a)
def Zs(a:X.A.units+64<cLine)(hK:X.K=G.K:=by rfl):i0 X (bB .NotEq) (λx y H Q=>rNe x y H Q\/Nt G.K γ x y H Q):=by rw[<-hK];exact i0.or acs (Y3 a)
def acZ:j? G (λx y H Q=>rEq x y H Q\/Nt G.K δ x y H Q) (er δ):=j?.or Zp R9
def ac0:j? G (λx y H Q=>rNe x y H Q\/Nt G.K γ x y H Q) (er γ):=j?.or Zq R9
def Sa:D->Option bh
 |.cx a=>Z a
 |.b0 a=>Z a
 |.Q a=>Z a
 |_=>O
def OF{d:D}{i:bh}{v:V}(h:eg G H d v)(e:Sa d=Z i):∃p b,v=.ref p/\(fx G.K H p b\/f3 G.K H p b)/\b? G H i b:=by
 cases d with
 |cx l=>cases e;unfold eg at h;obtain⟨a,b,rfl,c,f⟩:=h;exact⟨a,b,U,.inr c,f⟩
 |b0 l=>cases e;unfold eg at h;obtain⟨a,b,rfl,c,f⟩:=h;exact⟨a,b,U,.inl (fx.of c),f⟩
 |Q l=>cases e;unfold eg at h;obtain⟨a,b,rfl,c,f⟩:=h;exact⟨a,b,U,.inl c,f⟩
 |_=>cases e
def oy(neg:Bool):D->D->Option D:=λx y=>match Sa y with
 |some a=>if xh x&&a.all xh then Z (.I (if neg then !inV (vD x) (a.map vD)else inV (vD x) (a.map vD)))else O
 |none=>O
def OG{K:au}{H b:Hp}{p:Addr}{a:bJ}(s:uL H b)(h:fx K H p a\/f3 K H p a):fx K b p a\/f3 K b p a:=h.imp s.seq (f3.mono s)
set_option tactic.hygienic true
def Xx{neg:Bool}:j? G (rIn G.K neg) (oy neg):=λx y z j H v u Q e s d h k=>by
 unfold oy at e;cases b:Sa y with
 |none=>simp only[b]at e;cases e
 |some l=>
  simp only[b]at e;split at e
  .rename_i a;cases e;simp only[aQ]at a;obtain⟨p,i,rfl,f,c⟩:=OF h b;refine⟨p,i,U,OG s f,?_,?_,?_⟩
   .rw[yE d a.1];exact LZ a.1
   .rw[FI c a.2];exact JN a.2
   .rw[yE d a.1,FI c a.2];exact k _ λq q=>wZ _
  .cases e
set_option tactic.hygienic false
def Zt(hK:X.K=G.K:=by rfl):i0 X (bB .In) (rIn G.K δ):=by rw[<-hK];exact P1
def Qf(hK:X.K=G.K:=by rfl):i0 X (bB .NotIn) (rIn G.K γ):=by rw[<-hK];exact KF
def ea(x y:D):Option D:=match y with
 |.int i=>match x with
  |.cx a=>C? a i
  |.b0 a=>C? a i
  |.Q a=>C? a i
  |.str x=>if x.length<=100000 then (C? x.cps.toList i).map λc=>.str ⟨#[c]⟩else O
  |_=>O
 |_=>O
set_option tactic.hygienic true
def ac1:j? G (rIx G.K) ea:=λx y z B H v u Q e s p A k=>by
 cases y with
 |int i=>
  subst A;cases x with
  |cx d=>obtain⟨a,o,rfl,f,h⟩:=p;obtain⟨w,l,m⟩:=HP h (show C? d i=Z z from e);exact .inr (.inl ⟨a,o,i,w,U,U,f3.mono s f,l,k _ λb j=>eg.mono j _ _ m⟩)
  |b0 d=>obtain⟨a,o,rfl,f,h⟩:=p;obtain⟨w,l,m⟩:=HP h (show C? d i=Z z from e);exact .inl ⟨a,o,i,w,U,U,s.seq (fx.of f),l,k _ λb j=>eg.mono j _ _ m⟩
  |Q d=>obtain⟨a,o,rfl,f,h⟩:=p;obtain⟨w,l,m⟩:=HP h (show C? d i=Z z from e);exact .inl ⟨a,o,i,w,U,U,s.seq f,l,k _ λb j=>eg.mono j _ _ m⟩
  |str t=>
   subst p;unfold ea at e;simp only at e;split at e
   .rename_i r;cases q:C? t.cps.toList i with
    |none=>rw[q]at e;cases e
    |some c=>rw[q]at e;cases e;exact .inr (.inr ⟨t,i,c,U,U,HU r,q,k _ λ_ _=>y6 _⟩)
   .cases e
  |_=>cases e
 |_=>cases e
set_option tactic.hygienic false
def ix_X(hK:X.K=G.K:=by rfl):π X (rIx G.K):=by rw[<-hK];exact YS
def JO(G:Bg)(r:bJ->Hp->VK->Prop)(g:D->Option D):Prop:=∀x z b H v (Q:VK),g x=Z z->uL b H->eg G b x v->(∀w,(∀a,uL b a->eg G a z w)->Q w H)->r [v] H Q
def Xy{e:Expr}{r:bJ->Hp->VK->Prop}{g:D->Option D}{f:FE}(p:JO G r g)(h:PE X e (ZX r (q9 G (ax f uQ)))):PE X e (tF G (c1 g f)):=PE.eb h λB H Q o=>by obtain⟨F,y,i,d,b,R,e,k⟩:=o;obtain⟨x,l,m⟩:=ED e;refine⟨F,y,i,[x],b,R,by unfold ax;rw[l];rfl,λA j a s c rs=>?_⟩;obtain⟨v,z,rfl,u,t⟩:=rs;subst t;exact p x d j a v Q m c.sub u λw q=>k _ _ _ s c (q _ (uL.refl _))
def v5.or{f:ab}{r b:bJ->Hp->VK->Prop}(h:v5 X f r)(j:v5 X f b):v5 X f (λx H Q=>r x H Q\/b x H Q):=λa s i H e d Q I c q=>q.elim (h a s i H e d Q I c) (j a s i H e d Q I c)
def vH:D->Option D
 |.cx a=>Z (.int a.length)
 |.b0 a=>Z (.int a.length)
 |.Q a=>Z (.int a.length)
 |.str x=>if x.length<=100000 then Z (.int x.length)else O
 |.J b a=>Z (.int b.length)
 |_=>O
def Qg:v5 X (.builtin "len") (λc H Q=>∃a kvs,c=[V.ref a]/\Rd H a (.dK kvs)/\Q (.int kvs.length) H):=by intro b s l H c j Q I r h;obtain⟨a,kvs,rfl,e,q⟩:=h;obtain⟨u,rfl,f⟩:=l' r;cases f;exact acI I e λt i d=>⟨.int kvs.length,H,d,⟨t,U⟩,q⟩
def Xz(K:au):bJ->Hp->VK->Prop:=λb H Q=>(∃p c,b=[.ref p]/\(fx K H p c\/f3 K H p c)/\Q (.int c.length) H)\/((∃z,b=[.str z]/\z.length<=aI/\Q (.int z.length) H)\/(∃a kvs,b=[V.ref a]/\Rd H a (.dK kvs)/\Q (.int kvs.length) H))
def Qh(hK:X.K=G.K:=by rfl):v5 X (.builtin "len") (Xz G.K):=by rw[<-hK];exact v5.or KG (v5.or KH Qg)
set_option tactic.hygienic true
def w5:JO G (Xz G.K) vH:=λx z j H v Q e s f k=>by
 cases x with
 |cx h=>cases e;obtain⟨a,d,rfl,b,c⟩:=f;refine .inl ⟨a,d,U,.inr (f3.mono s b),?_⟩;rw[<-uB c];exact k _ λu u=>wN _
 |b0 h=>cases e;obtain⟨a,d,rfl,b,c⟩:=f;refine .inl ⟨a,d,U,.inl (s.seq (fx.of b)),?_⟩;rw[<-uB c];exact k _ λu u=>wN _
 |Q h=>cases e;obtain⟨a,d,rfl,b,c⟩:=f;refine .inl ⟨a,d,U,.inl (s.seq b),?_⟩;rw[<-uB c];exact k _ λu u=>wN _
 |str t=>
  unfold vH at e;simp only at e;split at e
  .rename_i i;cases e;exact .inr (.inl ⟨t,by rw[f],HU i,k _ λu u=>wN _⟩)
  .cases e
 |J m h=>cases e;obtain⟨a,o,d,rfl,b,c,l⟩:=f;refine .inr (.inr ⟨a,_,U,.inr ⟨o,s _ _ b⟩,?_⟩);rw[gU,<- c,gh];exact k _ λu u=>wN _
 |_=>cases e
set_option tactic.hygienic false
def V1:D->Option D
 |.int i=>Z (.int i)
 |.I b=>Z (.int (if b then 1 else 0))
 |_=>O
def Zu:JO G (λc H Q=>(∃i,c=[.int i]/\Q (.int i) H)\/∃k,c=[.I k]/\Q (.int (if k then 1 else 0)) H) V1:=λx z d H v Q e s a k=>by
 cases x with
 |int i=>cases e;unfold eg at a;subst a;exact .inl ⟨i,U,k _ λu u=>wN _⟩
 |I b=>cases e;unfold eg at a;subst a;exact .inr ⟨b,U,k _ λu u=>wN _⟩
 |_=>cases e
def Jp:bh->Option (List Bool)
 |[]=>Z []
 |.I b::r=>(Jp r).map (b::·)
 |_=>O
theorem HV:∀{d:bh} {a:bJ} {bs:List Bool},b? G H d a->Jp d=Z bs->a=bs.map V.I
 |[],a,bs,h,e=>by cases e;unfold b? at h;exact h
 |.I b::r,a,bs,h,e=>by
  obtain⟨v,q,rfl,f,i⟩:=h;unfold Jp at e;cases c:Jp r with
  |none=>rw[c]at e;cases e
  |some l=>rw[c]at e;cases e;unfold eg at f;subst f;rw[HV i c];rfl
 |.E::r,a,bs,h,e=>by cases e
 |.int _::r,a,bs,h,e=>by cases e
 |.str _::r,a,bs,h,e=>by cases e
 |.cx _::r,a,bs,h,e=>by cases e
 |.b0 _::r,a,bs,h,e=>by cases e
 |.Q _::r,a,bs,h,e=>by cases e
 |.obj _ _ _::r,a,bs,h,e=>by cases e
 |.J _ _::r,a,bs,h,e=>by cases e
 |.X _ _::r,a,bs,h,e=>by cases e
def yL:D->Option D
 |.b0 a=>(Jp a).map λbs=>.I (bs.all id)
 |_=>O
def Zv:JO G (λd H Q=>∃(p:Addr) (bs:List Bool),d=[.ref p]/\fx G.K H p (bs.map V.I)/\Q (.I (bs.all id)) H) yL:=λx z j H v Q e s i k=>by
 cases x with
 |b0 f=>
  unfold yL at e;simp only at e;cases b:Jp f with
  |none=>rw[b]at e;cases e
  |some bs=>rw[b]at e;cases e;obtain⟨a,d,rfl,c,h⟩:=i;rw[HV h b]at c;exact⟨a,bs,U,s.seq (fx.of c),k _ λu u=>wZ _⟩
 |_=>cases e
def Qi(a:X.nr=γ)(hK:X.K=G.K:=by rfl):v5 X (.builtin "all") (λb H Q=>∃(p:Addr) (bs:List Bool),b=[.ref p]/\fx G.K H p (bs.map V.I)/\Q (.I (bs.all id)) H):=by rw[<-hK];exact RD a
inductive Ty where
 |b (n:String)|c (k:Nat)
def Ty.val(G:Bg):Ty->ab
 |.b n=>.type n
 |.c k=>.ref (G.ca k)
def Ty.v(G:Bg):Ty->V
 |.b n=>.ty n
 |.c k=>.ref (G.ca k)
def tyD:D->Ty
 |.E=>.b "NoneType" |.I _=>.b "bool" |.int _=>.b "int" |.str _=>.b "str" |.cx _=>.b "tuple" |.b0 _=>.b "list" |.Q _=>.b "list" |.J _ _=>.b "dict" |.X _ _=>.b "dict" |.obj c _ _=>.c c
structure L1(K:au)(C:Addr):Prop where
 cl:Mn K C
 ha:cP K (.ref C) "__class__" = Z (Z (.builtin "object.__class__"))
 hn:qN K (.builtin "object.__class__") "__get__" = Z (Z (.builtin "getset_descriptor.__get__"))
 htk:W.takesIn K (.builtin "object.__class__")=Z γ
 hm:W.mroIn K C (.type "object")=Z γ
def Sb{pins:cJ}{σ:St}{s:ae}{A:aK}{E:ab->ae->Prop}{Q:ab->ae->Prop}{c:ab}{b:Bool}{d:D}{v:V}{u:ab}(I:d3 X pins σ H s)(hK:X.K=G.K)(hd:eg G H d v)(i:eu v u)(t:∀k ns ds,d=.obj k ns ds->L1 X.K (G.ca k))
  (e:cQ X.K ((tyD d).val G) c=Z b) (h:∀tk,Q (.bool b) { s with toks:=tk }):ao (model X.prog X.w) A (call (.builtin "isinstance") [u,c]) Q E s:=by
 cases d with
 |E=>unfold eg at hd;subst hd;exact ze I i .E e h
 |I x=>unfold eg at hd;subst hd;exact ze I i (.I x) e h
 |int x=>unfold eg at hd;subst hd;exact ze I i (.int x) e h
 |str x=>unfold eg at hd;subst hd;exact ze I i (.str x) e h
 |cx ds=>obtain⟨a,xs,rfl,f,m⟩:=hd;cases i;rw[<-hK]at f;obtain⟨r,_,p,_⟩:=I.tuple f;obtain⟨o,j,l,_⟩:=p;exact cK mm I.nj ⟨o,j,l⟩ e (λz=>nomatch z) h
 |b0 ds=>obtain⟨a,xs,rfl,f,m⟩:=hd;exact ze I i (.b0 f) e h
 |Q ds=>obtain⟨a,xs,rfl,f,m⟩:=hd;cases i;rw[<-hK]at f;obtain⟨r,_,p,_⟩:=I.list f;obtain⟨o,n,j,l,_⟩:=p;exact cK iR I.nj ⟨o,j,l⟩ e (λz=>nomatch z) h
 |J ks ds=>obtain⟨a,o,xs,rfl,f,m,q⟩:=hd;cases i;obtain⟨y,_,_,vs,_,ob,es,ep,j,l,_⟩:=(show e4 X.prog X.w H s.heap a (.n9 o (.dK (ks.zip xs))) from I.ff a _ f);exact cK hX I.nj ⟨ob,j,l.1⟩ e (λz=>nomatch z) h
 |X ks ds=>obtain⟨a,xs,rfl,⟨o,qs,f,_,q,_⟩,_⟩:=hd;cases i;exact cK hX I.nj ⟨o,(show e4 X.prog X.w H s.heap a (.ext (isO a o)) from I.ff a _ f).1,q.ex.1⟩ e (λz=>nomatch z) h
 |obj k ns ds=>have ci:=t k ns ds U;obtain⟨a,dx,xs,rfl,f,m,q⟩:=hd;exact ze I i (.mu f ci.cl ci.ha ci.hn ci.htk ci.hm) e h
def vz(t:Ty->Option Bool):D->Option D:=λd=>(t (tyD d)).map .I
def JP(c:Ty){t:Ty->Option Bool}(m:∀y b,t y=Z b->cQ X.K (y.val G) (c.val G)=Z b)(l:∀k b,t (.c k)=Z b->L1 X.K (G.ca k))(hK:X.K=G.K:=by rfl):
  v5 X (.builtin "isinstance") (λi H Q=>∃d x b,i=[x,c.v G]/\eg G H d x/\t (tyD d)=Z b/\Q (.I b) H):=by
 intro f s E H i C Q I r h;obtain⟨d,x,b,rfl,hd,e,q⟩:=h;obtain⟨u,p,rfl,o,a⟩:=vals2 r;have j:p=c.val G:=by cases c<;>exact a
 subst j;exact Sb I hK hd o (λk A w z=>by subst z;exact l k b e) (m _ _ e) λB=>⟨.I b,H,I.rl _,U,q⟩
def OH{e:Expr}{c:Ty}{t:Ty->Option Bool}{f:FE}(h:PE X e (ZX (λu H Q=>∃d x b,u=[x,c.v G]/\eg G H d x/\t (tyD d)=Z b/\Q (.I b) H) (Gb (tF G f) (Gb (tC (c.v G)) KA)))):PE X e (tF G (c1 (vz t) f)):=PE.eb h λz H Q q=>by
 obtain⟨F,w,m,d,j,R,e,k⟩:=q;obtain⟨x,p,a⟩:=ED e;unfold vz at a;cases i:t (tyD x)with
 |none=>rw[i]at a;cases a
 |some b=>rw[i]at a;cases a;exact⟨F,w,m,x,j,R,p,λv y o s l r=>⟨x,v,b,U,eg.mono l.sub _ _ r,i,k _ _ _ s l (wZ b)⟩⟩
def vV(f g:FE):FA:=λe=>match f e with
 |some (.b0 c,a)=>match g a with
  |some (.b0 d,b)=>if c.length+d.length<=1000 then Z (c++d,b)else O
  |_=>O
 |_=>O
set_option tactic.hygienic true
def V2{a b:Expr}{f g:FE}{pos:Pos}(I:PE X a (tF G f))(J:PE X b (tF G g)):PE X (.BinOp a .Add b pos) (u1 G (vV f g)):=PE.eb (Q4 YU I J) λσ H Q M=>by
 obtain⟨F,T,q,d,W,R,e,k⟩:=M;unfold vV at e;split at e
 .rename_i xs c A;split at e
  .rename_i ys Y B;split at e
   .rename_i N;cases e;refine⟨F,T,q,_,c,R,A,λv t w s y r=>⟨F,c,t,_,_,y,B,λu H2 x o R2 S=>?_⟩⟩;have P:=eg.mono o _ _ r;obtain⟨a1,i,rfl,C,l⟩:=P;obtain⟨z,j,rfl,E,m⟩:=S;refine⟨a1,z,i,j,U,U,R2.sub _ _ C,R2.sub _ _ E,by rw[<-uB l,<- uB m];exact yn N,λp h=>?_⟩;exact k p _ _ _ (s.t o) (R2.f? h _) uz (R2.e7 h) (R2.gk h) (R2.apart h) (wy l m)
   .cases e
  .cases e
 .cases e
set_option tactic.hygienic false
def zm(f:FE):FA:=λc=>match f c with
 |some (d,a)=>match Sa d with
  |some b=>Z (b,a)
  |none=>O
 |none=>O
def Sd{e:Expr}{f:FE}(h:PE X e (ZX (λm H Q=>∃p c,m=[.ref p]/\(fx G.K H p c\/f3 G.K H p c)/\∀l,H l=O->Q (.ref l) (e0 H l (.b0 c))) (q9 G (ax f uQ)))):PE X e (u1 G (zm f)):=PE.eb h λJ H Q x=>by
 obtain⟨F,o,q,E,A,R,e,k⟩:=x;unfold zm at e;rcases uV (f:=f) (ρ:=o)with i|⟨d,B,i⟩<;>simp only[i]at e
 .cases e
 .cases j:Sa d with
  |none=>simp only[j]at e;cases e
  |some t=>simp only[j]at e;cases e;refine⟨F,o,q,[d],_,R,by unfold ax;rw[i];rfl,λc C r s a rs=>?_⟩;obtain⟨v,I,rfl,z,y⟩:=rs;subst y;obtain⟨p,m,rfl,u,w⟩:=OF z j;exact⟨p,m,U,OG a.sub u,λl b=>k l _ _ _ s (a.f? b _) uz (a.e7 b) (a.gk b) (a.apart b) w⟩
def NB(hK:X.K=G.K:=by rfl):v5 X (.type "list") (λb H Q=>∃p a,b=[.ref p]/\(fx G.K H p a\/f3 G.K H p a)/\∀l,H l=O->Q (.ref l) (e0 H l (.b0 a))):=by rw[<-hK];exact KI
def zQ(f:FE):FE:=λc=>match f c with
 |some (.b0 b,a)=>Z (.cx b,a)
 |some (.cx b,a)=>Z (.cx b,a)
 |_=>O
set_option tactic.hygienic true
def Se{e:Expr}{f:FE}(h:PE X e (ZX (λr H Q=>∃p b,r=[.ref p]/\((fx G.K H p b/\∀l,H l=O->Q (.ref l) (e0 H l (.cx b)))\/(f3 G.K H p b/\Q (.ref p) H))) (q9 G (ax f uQ)))):PE X e (tF G (zQ f)):=PE.eb h λI H Q A=>by
 obtain⟨F,y,w,E,C,R,e,k⟩:=A;unfold zQ at e;split at e
 .rename_i r u i;cases e;refine⟨F,y,w,[_],_,R,by unfold ax;rw[i];rfl,λb z d s a rs=>?_⟩;obtain⟨v,B,rfl,c,o⟩:=rs;subst o;obtain⟨p,t,rfl,j,x⟩:=c;refine⟨p,t,U,.inl ⟨fx.of (a.sub _ _ j),λl m=>?_⟩⟩;exact k _ _ _ (s.t (uJ (a.e7 m) _)) (a.zE m _) (Dh (f3.of uz) (b?.mono (uJ (a.e7 m) _) _ _ x))
 .rename_i r u i;cases e;refine⟨F,y,w,[_],_,R,by unfold ax;rw[i];rfl,λb z d s a rs=>?_⟩;obtain⟨v,B,rfl,c,o⟩:=rs;subst o;have q:=c;obtain⟨p,t,rfl,j,x⟩:=c;exact⟨p,t,U,.inr ⟨f3.mono a.sub j,k _ _ _ s a q⟩⟩
 .cases e
set_option tactic.hygienic false
def Qj(hK:X.K=G.K:=by rfl):v5 X (.type "tuple") (λb H Q=>∃p a,b=[.ref p]/\((fx G.K H p a/\∀l,H l=O->Q (.ref l) (e0 H l (.cx a)))\/(f3 G.K H p a/\Q (.ref p) H))):=by rw[<-hK];exact Jl
def gi(xs:bh)(lo a:Option Int):bh:=(xs.drop (HT.fy xs.length 0 lo)).take (HT.fy xs.length xs.length a - HT.fy xs.length 0 lo)
def EH{a:Hp}{b:bh}{d:bJ}{lo c:Option Int}(r:b? G a b d):b? G a (gi b lo c) (KC d lo c):=by unfold gi KC;rw[<-uB r];exact FB _ (Fy _ r)
def XC(f:FE)(lo c:Option Int):FA:=λd=>match f d with
 |some (.b0 b,a)=>Z (gi b lo c,a)
 |some (.Q b,a)=>Z (gi b lo c,a)
 |_=>O
def tO(o:Option Int):TO:=λz H Q=>Q o H
set_option tactic.hygienic true
def Qk{e:Expr}{f:FE}{lo o:Option Int}(h:PE X e (tSl (PZ G.K) (tF G f) (tO lo) (tO o))):PE X e (u1 G (XC f lo o)):=PE.eb h λC H Q A=>by
 obtain⟨F,y,t,z,w,R,e,k⟩:=A;have pw:∀{a:Addr} {j:bJ} {i:bh} {d b:Hp},uL t d->dd G F C w d b->fx G.K d a j->b? G d i j->z=gi i lo o->PZ G.K (.ref a) lo o b Q:=λ{a j i d b} s c l m e=>by subst e;exact⟨a,j,U,c.sub.seq l,λp q=>k p _ _ _ s (c.f? q _) uz (c.e7 q) (c.gk q) (c.apart q) (EH m)⟩
 unfold XC at e;split at e
 .rename_i j x u;cases e;refine⟨F,y,t,_,_,R,u,λv d b s c r=>?_⟩;obtain⟨a,B,rfl,l,m⟩:=r;exact pw s c (fx.of l) m U
 .rename_i j x u;cases e;refine⟨F,y,t,_,_,R,u,λv d b s c r=>?_⟩;obtain⟨a,B,rfl,l,m⟩:=r;exact pw s c l m U
 .cases e
set_option tactic.hygienic false
def Sf{n:Int}{j pos}:PO X (Z (.Constant (.int n) j pos)) (tO (Z n)):=λa s b H Q I h=>Ow QU a s b H Q I ⟨n,U,h⟩
def ac2:PO X O (tO O):=Ov
def sl_X(hK:X.K=G.K:=by rfl):SlR X (PZ G.K):=by rw[<-hK];exact Vh
end
def Sl.bor:Sl->Sl
 |.un=>.un
 |.q d=>.q d
 |.M a=>.q (.b0 a)
 |.pm a=>.q (.b0 a)
 |.dk _ _=>.un
 |.ob c b a=>.q (.obj c b a)
section
variable{X:Cx}{G:Bg}
theorem dd.bor(R:dd G F σ ρ H0 H):dd G ⟨H,H,[]⟩ σ (ρ.map Sl.bor) H H where
 sub:=uL.refl _
 g0:=uL.refl _
 keep:=λb o e z=>e
 fr:=λb o e=>.inl e
 am:=λa h=>by cases h
 len:=by rw[af];exact R.len
 sl:=λi s e=>by
  rw[bu]at e;cases m:ρ[i]? with
  |none=>rw[m]at e;cases e
  |some t=>
   rw[m]at e;cases e;have ok:=R.sl i t m;cases t with
   |un=>trivial
   |q d=>obtain⟨v,f,l⟩:=ok;exact⟨v,f,eg.mono R.sub _ _ l⟩
   |M ds=>obtain⟨a,xs,f,l,q,r,p⟩:=ok;exact⟨_,f,Di l (b?.mono R.sub _ _ p)⟩
   |pm ds=>obtain⟨a,xs,f,l,q,r,p⟩:=ok;exact⟨_,f,Di l (b?.mono R.sub _ _ p)⟩
   |dk ks ds=>trivial
   |ob c ns ds=>obtain⟨a,dx,xs,f,l,q,r,p,u⟩:=ok;exact⟨_,f,by unfold eg;exact⟨a,dx,xs,U,l,p,b?.mono R.sub _ _ u⟩⟩
 ap:=λi j s t a z e z so=>by
  rw[bu]at e;cases m:ρ[i]? with
  |none=>rw[m]at e;cases e
  |some t=>rw[m]at e;cases e;cases t<;>cases so
def dd.unbor(R:dd G F h ρ d H)(c:dd G ⟨H,H,[]⟩ i f j a):dd G F h ρ d a:=
 R.ix (λb o e=>c.keep b o e (by simp)) (uL.refl _) (λb o e=>c.keep b o (R.sub _ _ e) (by simp)) λb o e=>.inl e
def KU(f:FE):FE:=λa=>match f (a.map Sl.bor)with
 |some (d,_)=>if xh d=γ then Z (d,a)else O
 |none=>O
def Gf(f:FT):FT:=λa=>match f (a.map Sl.bor)with
 |some (d,_)=>Z (d,a)
 |none=>O
set_option tactic.hygienic true
def Zw(h:PE X e (tF G f)):PE X e (tF G (KU f)):=PE.eb h λt H Q m=>by
 obtain⟨F,i,p,d,o,R,e,k⟩:=m;unfold KU at e;rcases uV (f:=f) (ρ:=i.map Sl.bor)with a|⟨x,b,a⟩<;>simp only[a]at e
 .cases e
 .split at e
  .rename_i c;cases e;refine⟨_,_,H,d,b,R.bor,a,λv q j s l r=>?_⟩;rw[yE r c];exact k _ _ _ (uL.refl _) (R.unbor l) (EF c _)
  .cases e
set_option tactic.hygienic false
def V3(h:PT X e (m? G f)):PT X e (m? G (Gf f)):=PT.eb h λq H Q l=>by
 obtain⟨F,c,o,d,m,R,e,k⟩:=l;unfold Gf at e;rcases uV (f:=f) (ρ:=c.map Sl.bor)with a|⟨x,b,a⟩<;>simp only[a]at e
 .cases e
 .cases e;exact⟨_,_,H,d,b,R.bor,a,λp i s j=>k _ _ (uL.refl _) (R.unbor j)⟩
def xx(g h:D->D->Option D)(d e f:FE):FE:=λi=>match d i with
 |some (x,b)=>match e b with
  |some (y,a)=>match g x y with
   |some (.I γ)=>match f a with
    |some (z,c)=>match h y z with
     |some w=>Z (w,c)
     |none=>O
    |none=>O
   |some (.I δ)=>Z (.I δ,a)
   |_=>O
  |none=>O
 |none=>O
set_option tactic.hygienic true
def L6(ho:j? G r g)(I:j? G r' Y):∀M H Q,tF G (xx g Y S T W) M H Q->Na r r' (tF G S) (tF G T) (tF G W) M H Q:=λM H Q hh=>by
 obtain⟨F,m,H0,d,ρ',R,e,k⟩:=hh;unfold xx at e;rcases uV (f:=S) (ρ:=m)with p|⟨x,b,p⟩<;>simp only[p]at e
 .cases e
 rcases uV (f:=T) (ρ:=b)with A|⟨y,c,A⟩<;>simp only[A]at e
 .cases e
 refine⟨F,m,H0,x,b,R,p,λv H1 H1' s1 R1 r1=>⟨F,b,H1,y,c,R1,A,λu h i o R2 J=>?_⟩⟩;split at e
 .rename_i B;refine ho x y _ h i v u _ B R2.sub (eg.mono o _ _ r1) J λw l=>?_;have a:=l h (uL.refl _);refine⟨γ,a,KO ?_⟩;rcases uV (f:=W) (ρ:=c)with C|⟨z,ρ3,C⟩<;>simp only[C]at e
  .cases e
  cases E:Y y z with
  |none=>simp only[E]at e;cases e
  |some q=>simp only[E]at e;cases e;refine⟨F,c,h,z,_,R2,C,λt N j s3 P r3=>?_⟩;exact I y z _ N j u t Q E P.sub (eg.mono s3 _ _ J) r3 λw l=>k w N j (s1.t (o.t s3)) P (l _ (uL.refl _))
 .rename_i B;cases e;refine ho x y _ h i v u _ B R2.sub (eg.mono o _ _ r1) J λw l=>?_;have a:=l h (uL.refl _);exact⟨δ,a,KN (k _ _ _ (s1.t o) R2 (wZ δ))⟩
 .cases e
set_option tactic.hygienic false
def Sg(w:i0 X (bB h) r)(f:i0 X (bB d) x)(u:j? G r g)(e:j? G x m)(o:PE X a (tF G i))(p:PE X b (tF G j))(q:PE X c (tF G l))
  (t:lastMarks [h,d] [b,c]=δ:=by with_unfolding_all rfl):PE X (.Compare a [h,d] [b,c] pos) (tF G (xx g m i j l)):=PE.eb (Q8 w f o p q t) (L6 u e)
def Ql(C:i0 X (bB l) r)(i:i0 X (bB f) E)(B:j? G r g)(h:j? G E u)(w:PE X a (tF G p))(x:PE X b (tF G q))(y:PE X c (tF G t))
  (A:lastMarks [l,f] [b,c]=δ:=by with_unfolding_all rfl):PT X (.Compare a [l,f] [b,c] pos) (m? G (cT (xx g u p q t))):=PT.eb (Q9 C i w x y A) λm H Q z=>by
 obtain⟨F,I,o,d,j,R,e,k⟩:=OA m H Q z;exact L6 B h m H _ ⟨F,I,o,d,j,R,e,k⟩
end
def Gg(P:aJ)(w:aA)(K:au)(b:Str->Option ab)(b':Heap)(k:Nat)(x:Str)(c:aB)(d:Sp):Prop:=
 ∃(f:Addr) (a:cg),b x=Z (.ref f)/\dY K (.ref f)=γ/\k? K a c []/\y4 P w K b b' B? k f a c d
def KW(G:Bg)(P:aJ)(w:aA)(d:Str->Option ab)(b':Heap)(k:Nat)(x:Str)(c:Nat)(e:aB)(dvs:bJ)(g:bh->Option (aB×bh)):Prop:=
 ∃(f:Addr) (b:cg) (a:List ab),Mk G.K (G.ca c) f/\d x=Z (.ref (G.ca c))/\k? G.K b e a/\en dvs a/\y4 P w G.K d b' B? k f b e (spI G c g)
def FK(G:Bg)(P:aJ)(w:aA)(d:Str->Option ab)(b':Heap)(k:Nat)(m:Str)(c:Nat)(h:bh->Option D):Prop:=
 ∃(f:Addr) (a:cg) (b:aB),Mn G.K (G.ca c)/\Meth G.K (G.ca c) m f/\k? G.K a b []/\y4 P w G.K d b' B? k f a b (e? G h)
section
variable{X:Cx}{G:Bg}{k:Nat}{x m:Str}{p pos apos:Pos}{e o:Expr}{es:List Expr}{a:FA}{ps:aB}
def Gh{c:Type}(g:bh->c):(λb=>g (b++[]))=g:=funext λb=>by rw[b9]
def Zx(D:Gg X.prog X.w X.K X.mg X.b' k x ps (e? G g))(t:wM k X.A)(j:PA X (e::es) (q9 G a))(r:Gl X x:=by rfl)(b:(x==("__debug__" : Str))=δ:=by decide)(l:aF (e::es) X.b1=(δ,eval e X.b1)::aF es X.b1:=by rfl)(hpl:(bI pos (aF es X.b1)).any (·.1)=δ:=by rfl):
  PE X (.Call (.Name x p) (e::es) [] pos) (tF G (uw g a)):=by
 obtain⟨f,u,c,d,h,i⟩:=D;have q:=VR (λz=>u7) (Ot (p:=p) i t r c d h .nil LK j b l hpl);rw[Gh]at q;exact q
def V4(D:Gg X.prog X.w X.K X.mg X.b' k x ps (rh G g))(t:wM k X.A)(j:PA X (e::es) (q9 G a))(r:Gl X x:=by rfl)(b:(x==("__debug__" : Str))=δ:=by decide)(l:aF (e::es) X.b1=(δ,eval e X.b1)::aF es X.b1:=by rfl)(hpl:(bI pos (aF es X.b1)).any (·.1)=δ:=by rfl):
  PE X (.Call (.Name x p) (e::es) [] pos) (u1 G (vw g a)):=by
 obtain⟨f,u,c,d,h,i⟩:=D;have q:=RT (λz=>u7) (Ot (p:=p) i t r c d h .nil LK j b l hpl);rw[Gh]at q;exact q
def Sh(D:Gg X.prog X.w X.K X.mg X.b' k x ps (rh G g))(l:wM k X.A)(j:Gl X x:=by rfl)(b:(x==("__debug__" : Str))=δ:=by decide):PE X (.Call (.Name x p) [] [] pos) (u1 G (vw g uQ)):=by obtain⟨f,q,c,d,h,i⟩:=D;exact Qa (Rh i l j c d h .nil LK b)
def V5(M:KW G X.prog X.w X.mg X.b' k x c ps dvs g)(hd:∀H,b? G H dds dvs)(y:wM (k+1) X.A)(r:PA X (e::es) (q9 G a))(hK:X.K=G.K:=by rfl)(u:Gl X x:=by rfl)(b:(x==("__debug__" : Str))=δ:=by decide)
  (t:aF (e::es) X.b1=(δ,eval e X.b1)::aF es X.b1:=by rfl) (hpl:(bI pos (aF es X.b1)).any (·.1)=δ:=by rfl):
  PE X (.Call (.Name x p) (e::es) [] pos) (tF G (uY c (λd=>g (d++dds)) a)):=by
 obtain⟨f,z,d,h,l,i,q,j⟩:=M;rw[<-hK]at h i j;exact VT hd (Va h j y u l i q LK r b t hpl)
def XA(M:∀c h,g c=Z h->FK G X.prog X.w X.mg X.b' k m c h)(r:wM k X.A)(hK:X.K=G.K):∀C b,MT G g C b->MOk X C m b [] E0:=λC b h=>by obtain⟨c,h,e,rfl,rfl⟩:=h;obtain⟨f,q,ps,d,i,j,l⟩:=M c h e;rw[<-hK]at d i j l;exact⟨k,f,q,ps,[],d,i,l,r,j,.nil,LK⟩
def Qm(M:∀c h,g c=Z h->FK G X.prog X.w X.mg X.b' k m c h)(j:wM k X.A)(i:PE X o (tF G f))(d:PA X (e::es) (q9 G a))(hK:X.K=G.K:=by rfl)
  (hst:aF (e::es) X.b1=(δ,eval e X.b1)::aF es X.b1:=by rfl) (hpl:(bI pos (aF es X.b1)).any (·.1)=δ:=by rfl)
  (l:eval (.Call (.Attribute o m apos) (e::es) [] pos) X.b1=(do
   let b<-eval o X.b1
   standAt apos.atName
   let (f,first)<-holding [b] (getMethod b m pl)
   callWith pos f first (bI pos (aF (e::es) X.b1)) (backToKw pos (dr [] X.b1))):=by rfl):
  PE X (.Call (.Attribute o m apos) (e::es) [] pos) (tF G (vd g m f a)):=VS (RV (MT G g) (XA M j hK) i d hst hpl l)
def NC(M:∀c h,g c=Z h->FK G X.prog X.w X.mg X.b' k m c h)(i:wM k X.A)(d:PE X o (tF G f))(hK:X.K=G.K:=by rfl)
  (j:eval (.Call (.Attribute o m apos) [] [] pos) X.b1=(do
   let b<-eval o X.b1
   standAt apos.atName
   let (f,first)<-holding [b] (getMethod b m pl)
   callWith pos f first (bI pos (aF [] X.b1)) (backToKw pos (dr [] X.b1))):=by rfl):
  PE X (.Call (.Attribute o m apos) [] [] pos) (tF G (vd g m f uQ)):=RW (Qc (MT G g) (XA M i hK) d j)
end
section
variable{P:aJ}{w:aA}{K:au}{mg:Str->Option ab}{b':Heap}{x qual:Str}{st:Stmt}{f T:Addr}{fd:cg}{N ps:aB}{k:Nat}{G:Bg}
abbrev HW(P:aJ)(w:aA)(K:au)(mg:Str->Option ab)(b':Heap)(N:aB)(qual:Str)(st:Stmt)(f:Addr)(cdv:ab)(A:aK)(d?:List Env)(s:ae)(H:Hp)(E:XK):Cx:=(LD B? P w K mg b' N qual (uS st) f cdv A d? s H E).nox
theorem Si(a:g=e3 np n b)(c:ps.length=np)(hN:N.length=n)(F:V? K x qual st f fd)(S:xn N ps (uS st))(body:∀(cdv:ab) (A:aK) (d?:List Env) (s:ae) (H:Hp) (E:XK),wM k (A.deeper (envOfC qual (uS st) s.heap.objs.size f cdv))->n? (HW P w K mg b' N qual st f cdv A d? s H E) (vm st) (ma G b)):
  y4 P w K mg b' B? (k+1) f fd ps (e? G g):=by
 subst a c hN;exact F.ok S (acS VN) λcdv A d? s H e Q E d h=>⟨_,body cdv A d? s H E d,VL (by have:=bL cX S.pre;rw[cm]at this;omega) h⟩
theorem ac4(a:g=r? e n b)(c:ps.length=e)(hN:N.length=n)(F:V? K x qual st f fd)(S:xn N ps (uS st))(body:∀(cdv:ab) (A:aK) (d?:List Env) (s:ae) (H:Hp) (E:XK),wM k (A.deeper (envOfC qual (uS st) s.heap.objs.size f cdv))->n? (HW P w K mg b' N qual st f cdv A d? s H E) (vm st) (ma G b)):
  y4 P w K mg b' B? (k+1) f fd ps (rh G g):=by
 subst a c hN;exact F.ok S (acT VO) λcdv A d? s H i Q E d h=>⟨_,body cdv A d? s H E d,VM (by have:=bL cX S.pre;rw[cm]at this;omega) h⟩
def XB(d:∀a q,g a=Z q->a.length=i):∀b H Q E,spI G c g b H Q E->b.length=i+1:=λb H Q E h=>by obtain⟨p,l,t,j,a,o,m,rfl,_,_,_,r,e,_⟩:=h;rw[aP,<- uB r,d _ _ e]
theorem ac5{ps:aB}(a:g=sm c i n b)(d:ps.length=i)(hN:N.length=n)(F:V? K x qual st f fd)(S:xn N (p::ps) (uS st))(body:∀(cdv:ab) (A:aK) (d?:List Env) (s:ae) (H:Hp) (E:XK),wM k (A.deeper (envOfC qual (uS st) s.heap.objs.size f cdv))->n? (HW P w K mg b' N qual st f cdv A d? s H E) (vm st) (ma G b)):
  y4 P w K mg b' B? (k+1) f fd (p::ps) (spI G c g):=by
 subst a d hN;exact F.ok S (XB λj q h=>(HN h).1) λcdv A d? s H l Q E e h=>⟨_,body cdv A d? s H E e,OD (by have:=bL cX S.pre;rw[cm,aP]at this;omega) h⟩
theorem Zy{ps:aB}(a:g=sm c i n b)(d:ps.length=i)(hN:N.length=n)(F:P8 K x qual st f fd T)(S:xn N (p::ps) (uS st))(body:∀(cdv:ab) (A:aK) (d?:List Env) (s:ae) (H:Hp) (E:XK),wM k (A.deeper (envOfC qual (uS st) s.heap.objs.size f cdv))->n? (HW P w K mg b' N qual st f cdv A d? s H E) (vm st) (ma G b)):
  y4 P w K mg b' B? (k+1) f fd (p::ps) (spI G c g):=by
 subst a d hN;exact F.ok S (XB λj q h=>(HN h).1) λcdv A d? s H l Q E e h=>⟨_,body cdv A d? s H E e,OD (by have:=bL cX S.pre;rw[cm,aP]at this;omega) h⟩
end
section
variable{X:Cx}{G:Bg}
def Dl(G:Bg)(a:Str->Option ab)(x:Str)(d:D):Prop:=∃(v:V) (u:ab),a x=Z u/\eu v u/\∀H,eg G H d v
def Sj(h:Dl G X.mg x d)(e:Gl X x:=by rfl)(hd:(x==("__debug__" : Str))=δ:=by decide):PE X (.Name x pos) (tF G (cC d)):=by obtain⟨v,u,a,b,c⟩:=h;exact Vv (G9 e a b hd) c
def Sk:FS:=λz=>O
def v7(T:String):Ty->Option Bool
 |.b n=>if n="NoneType" then Z δ else if n="bool" then Z (T=="bool" ||T=="int")else if n="int" then Z (T=="int")else if n="str" then Z (T=="str")else if n="tuple" then Z (T=="tuple")else if n="list" then Z (T=="list")else if n="dict" then Z (T=="dict")else O
 |.c _=>O
def Sm:∀k b,v7 T (.c k)=Z b->L1 X.K (G.ca k):=λk b h=>by cases h
def ND:List String:=["NoneType", "bool", "int", "str", "tuple", "list", "dict"]
def HX{T:String}(h:(ND.all λn=>decide (cQ X.K ((Ty.b n).val G) (.type T)=v7 T (.b n)))=γ):∀y b,v7 T y=Z b->cQ X.K (y.val G) (.type T)=Z b:=λy b e=>by
 cases y with
 |c k=>cases e
 |b n=>
  by_cases a:n∈ND
  .rw[bp (aH.1 h n a)];exact e
  .simp only[ND,aO,cy,or_false,not_or]at a;simp[v7,a]at e
def Sn:∀y b,v7 "list" y=Z b->cQ X.K (y.val G) (.type "list")=Z b:=HX (by kernel_rfl)
def V6:∀y b,v7 "str" y=Z b->cQ X.K (y.val G) (.type "str")=Z b:=HX (by kernel_rfl)
end
end L4
namespace L3
open PySem PySem.Spec PyProof.Rows L2
def V7{X:Cx}{spos:Pos}{ew:List Nat}
  (M:X.nr=γ) (hN:X.N.Nodup) (T:X.N[i]?=Z y) (hyl:Loc X.b1.scope y) (P:PI X r iter wi)
  (body:∀(l:List (Str×Addr)) (C:Addr) (p:List Addr) (s:ae) (H:Hp),PG (v8 X c scope l C p s H) r g/\PIf (v8 X c scope l C p s H) ifs tt/\PE (v8 X c scope l C p s H) elt te)
  (hkind:scope.kind=.function:=by rfl) (hcell:(scope.names.all λy=>y.2 != .cell)=γ:=by rfl)
  (hloc:(scope.names.all λy=>y.2 != .local||scope.names.lookup y.1==Z .local)=γ:=by rfl)
  (hfree:(scope.names.all λy=>y.2 != .free||(X.b1.kindOf y.1==Z .cell||X.b1.kindOf y.1==Z .free))=γ:=by rfl)
  (f:c.length=k+ew.length:=by rfl) (hcap:(c.drop k).map Z=ew.map λj=>X.N[j]?:=by rfl)
  (hcf:((c.drop k).all λx=>scope.names.lookup x==Z .free)=γ:=by rfl)
  (S:∀x,iB iter X.b1 x=pure x:=by intro _;rfl)
  (hsw:dt (.ListComp elt [⟨r,iter,ifs,0⟩] scope pos) (Z (.Name y py)) spos.line X.b1=pure γ:=by rfl)
  (hfy:X.fn y=γ\/X.b1.scope.names.lookup y=Z .local:=by first|exact .inl U|exact .inr U|assumption):
  PS X (.Assign [.Name y py] (.ListComp elt [⟨r,iter,ifs,0⟩] scope pos) spos) (Es (Ge wi g tt te k ew) (zM i)):=by
 intro B s σ H D I h;rw[exec_Assign_Name_used _ _ _ _ hsw];refine ag (qw (ag ?_));refine ag (cn (JJ M P body hkind hcell hloc hfree f hcap hcf S I h λa C m u s4 F Q A5 fpC qn=>?_) (λ_ s' R=>aq (aq R)) λ_ _ e=>e);obtain⟨oC,esC,nC,gC,dC,rC⟩:=id Q;have J:=A5.K? (λb d=>bT.1 d▸fpC) (λb d=>bT.1 d▸⟨oC,gC,λv z=>by rw[dC]at z;cases z⟩);refine fu (Om hN T hyl hfy _ s4 σ F (.ref a) (.ref a) (λt E=>D.nx t E) J U qn) λ_ s6 zz=>?_;obtain⟨w,G,A,q6⟩:=zz;obtain⟨W,Y,_⟩:=A.Dx (C,oC) (bG _ (bG _ (zj (by simp) gC)));exact⟨m,⟨oC,esC,nC,W,dC,rC⟩,λh' q=>⟨w,G,A.n3.j' (λb o d e=>(q.2 b d).t e) Y fpC.2.1 fpC.2.2.2.1 fpC.2.2.2.2.1 fpC.2.2.2.2.2,q6⟩⟩
end L3
namespace L4
open PySem PySem.Spec PyProof.Rows L2 L3
section
variable{X:Cx}{G:Bg}
def HY{st:Stmt}(h:PS X st (Es d g))(w:∀b H Q,a b H Q->d b H Q):PS X st (Es a g):=PS.eb h λE b H c=>w _ _ _ c
def Qn{st:Stmt}{ew:List Nat}(c:ew.Nodup)(h:PS X st (Es (Ge (Rl G s) (χ G k g) (m? G b) (tF G a) k ew) (zM i))):PS X st (ma G (xg i (uF k ew s g b a))):=LS (HY h (KR c))
def So{st:Stmt}{ew:List Nat}(c:ew.Nodup)(h:PS X st (Es (Ge (Rl G s) (χ G k g) (m? G b) (tF G a) k ew) (zM i))):PS X st (ma G (uM i (cL (uF k ew s g b a)))):=OC (HY (HY h (KR c)) tN_F)
end
section
variable{f g h:FS}{c:FT}{e e' e2:FE}{a a':FA}{ρ ρ' ρ1 ρ2 ρ3:aU}{d x y z:D}{o:F?}{ds xs ys:bh}
def ux(h:f ρ=Z (.nx ρ')):bt f g ρ=g ρ':=by unfold bt;rw[h]
def uZ(h:f ρ=Z (.rt d ρ')):bt f g ρ=Z (.rt d ρ'):=by unfold bt;rw[h]
def vv(h:c ρ=Z (γ,ρ')):fc c f g ρ=f ρ':=by unfold fc;rw[h]
def vE(h:c ρ=Z (δ,ρ')):fc c f g ρ=g ρ':=by unfold fc;rw[h]
def vP(h:e ρ=Z (d,ρ')):uM i e ρ=Z (.nx (ρ'.set i (.q d))):=by unfold uM;rw[h]
def V8(h:a ρ=Z (ds,ρ')):xg i a ρ=Z (.nx (ρ'.set i (.M ds))):=by unfold xg;rw[h]
def uT(h:e ρ=Z (d,ρ')):uy e ρ=Z (.rt d ρ'):=by unfold uy;rw[h]
def w9(h:a ρ=Z (ds,ρ')):vJ a ρ=Z (.U ds ρ'):=by unfold vJ;rw[h]
def wQ(h:e ρ=Z (d,ρ')):uW e ρ=Z (.nx ρ'):=by unfold uW;rw[h]
def uv{g:D->D->Option D}(b:e ρ=Z (x,ρ1))(i:e' ρ1=Z (y,ρ2))(j:g x y=Z z):c2 g e e' ρ=Z (z,ρ2):=by unfold c2;rw[b];simp only[i,j]
def u5{g:D->Option D}(b:e ρ=Z (x,ρ1))(i:g x=Z z):c1 g e ρ=Z (z,ρ1):=by unfold c1;rw[b];simp only[i]
def Sq(b:e (ρ.map Sl.bor)=Z (d,ρ1))(i:xh d=γ):KU e ρ=Z (d,ρ):=by unfold KU;rw[b];simp only[i,if_true]
def V9(i:c (ρ.map Sl.bor)=Z (b,ρ1)):Gf c ρ=Z (b,ρ):=by unfold Gf;rw[i]
def u6(i:e ρ=Z (.I b,ρ1)):cT e ρ=Z (b,ρ1):=by unfold cT;rw[i]
def zR(i:c ρ=Z (b,ρ1)):vZ c ρ=Z (!b,ρ1):=by unfold vZ;rw[i]
def xX(j:c ρ=Z (δ,ρ1))(l:i ρ1=Z (b,ρ2)):wH c i ρ=Z (b,ρ2):=by unfold wH;rw[j];exact l
def uu(b:e ρ=Z (d,ρ1))(i:a ρ1=Z (ds,ρ2)):ax e a ρ=Z (d::ds,ρ2):=by unfold ax;rw[b];simp only[i]
def ur{b:Type}{g:bh->Option b}{r:b}(i:a ρ=Z (ds,ρ1))(j:g ds=Z r):FH g a ρ=Z (r,ρ1):=by unfold FH;rw[i];simp only[j]
def u4(b:a ρ=Z (ds,ρ1)):cL a ρ=Z (.b0 ds,ρ1):=by unfold cL;rw[b]
def NF(b:a ρ=Z (ds,ρ1))(i:ds.length<=1000):uK a ρ=Z (ds,ρ1):=by unfold uK;rw[b];simp only[i,if_true]
def wb(b:a ρ=Z (ds,ρ1))(i:ds.length<=1000):uO a ρ=Z (.cx ds,ρ1):=by unfold uO;rw[b];simp only[i,if_true]
def vK(b:e ρ=Z (.b0 xs,ρ1))(i:e' ρ1=Z (.b0 ys,ρ2))(j:xs.length+ys.length<=1000):vV e e' ρ=Z (xs++ys,ρ2):=by unfold vV;rw[b];simp only[i,j,if_true]
def Ah(j:xW ρ i=Z b)(l:e ρ=Z (d,ρ1))(m:xW ρ1 i=Z es)(p:es.length<1000):y7 i e ρ=Z (.E,putAt ρ1 i (es++[d])):=by unfold y7;rw[j];simp only[l,m,p,if_true]
def xY{s:FA}{g:FG}(b:s ρ=Z (ds,ρ1)):xA s g f ρ=j0 g f ds ρ1:=by unfold xA;rw[b]
def OI{k:Nat}{ew:List Nat}{s:FA}{g:FG}{i:FT}{b:FE}(j:s ρ=Z (ds,ρ1))(l:ds.length<=1000):uF k ew s g i b ρ=DC k ew g i b ds ρ1:=by unfold uF;rw[j];simp only[l,if_true]
def D5(i:ds.length=j)(h:b (L4.yr n ds)=Z (.U xs ρ)):r? j n b ds=Z xs:=by unfold r?;rw[ah i,h]
def uI(i:ds.length=j)(h:b (L4.yr n ds)=Z (.rt d ρ)):e3 j n b ds=Z d:=by unfold e3;rw[ah i,h]
end
def xq(h:D3 a=γ\/D3 b=γ):xO (.int a) (.int b)=Z (.int (a * b)):=by unfold xO dI;simp only;rw[ah (by simpa using h)]
def Ba(h:0<b):uR (.int a) (.int b)=Z (.int (a % b)):=by unfold uR dI;simp only;rw[ah (by simpa using h)]
def sx(h:0<b)(c:b<1073741824):vF (.int a) (.int b)=Z (.int (a / b)):=by unfold vF dI;simp only;rw[ah (by simp[h,c])]
def Cm(h:0<=a)(b:a<2147483647):D3 a=γ:=by unfold D3;simp only[aQ,bz];omega
def AF:D->Option ey
 |.int i=>Z (.inl i)
 |.str x=>Z (.inr x)
 |_=>O
def wI:List ey->bh->ey->Option D
 |k::b,d::a,j=>if k=j then Z d else wI b a j
 |_,_,_=>O
def Wa(e:List ey)(b:bh)(k:ey)(d:D):bh:=eJ (λc a=>if c=k then d else a) e b
def Jq(b:List ey)(k:ey):Bool:=b.any λa=>decide (a=k)
section
variable{X:Cx}{G:Bg}{H:Hp}
def Bb(h:eg G H d v)(e:AF d=Z k):v=kV k:=by
 cases d<;>first|cases e|skip
 all_goals (unfold eg at h;exact h)
theorem Cn:∀{ks:List ey} {b:bh} {a:bJ} (j:ey),b? G H b a->ks.length=a.length->match wI ks b j with
  |some d=>∃v,xT (ks.zip a) j=Z v/\eg G H d v
  |none=>xT (ks.zip a) j=O
 |[],b,a,j,r,l=>by cases b<;>rfl
 |k::ks,b,[],j,r,l=>by cases l
 |k::ks,[],x::a,j,r,l=>by unfold b? at r;cases r
 |k::ks,d::b,x::a,j,r,l=>by
  obtain⟨v,q,e,h,i⟩:=r;cases e;unfold wI;by_cases c:k=j
  .rw[ah c];exact⟨x,EA c,h⟩
  .rw[aj c];have m:=Cn j i (by simpa using l);have f:xT ((k::ks).zip (x::a)) j=xT (ks.zip a) j:=EB c;rw[f];exact m
theorem KY:∀{a:List ey} {b:bJ},a.length=b.length->((a.zip b).any λkv=>decide (kv.1=k))=Jq a k
 |[],b,_=>by cases b<;>rfl
 |c::a,[],l=>by cases l
 |c::a,x::b,l=>by unfold Jq;rw[fi,f6,f6,KY (by simpa using l)];rfl
theorem OJ:∀{a:List ey} {b:bJ},a.length=b.length->(a.zip b).map (λkv=>if kv.1=k then (kv.1,v)else kv)=a.zip (eJ (λd x=>if d=k then v else x) a b)
 |[],b,_=>by cases b<;>rfl
 |d::a,[],l=>by cases l
 |d::a,x::b,l=>by
  rw[fi,aS,OJ (by simpa using l),iw,fi];congr 1;by_cases c:d=k
  .rw[ah c,ah c]
  .rw[aj c,aj c]
theorem L7(hd:eg G H d v):∀{c:List ey} {b:bh} {a:bJ},b? G H b a->c.length=a.length->b? G H (Wa c b k d) (eJ (λf x=>if f=k then v else x) c a)
 |[],b,a,r,l=>by unfold Wa;cases b<;>cases a<;>exact u7
 |f::c,b,[],r,l=>by cases l
 |f::c,[],x::a,r,l=>by unfold b? at r;cases r
 |f::c,m::b,x::a,r,l=>by
  obtain⟨w,q,e,i,j⟩:=r;cases e;unfold Wa;rw[iw,iw];refine vg ?_ (L7 hd j (by simpa using l));by_cases h:f=k
  .rw[ah h,ah h];exact hd
  .rw[aj h,aj h];exact i
def _root_.L2.p'.kf(e:H a=Z (.n9 o (.dK kvs))):p' H a (kV k) (xT kvs k):=.inl ⟨kvs,k,.inr ⟨o,e⟩,U,U⟩
def DE:D->D->Option D:=λx y=>match x,AF y with
 |.J b a,Z k=>wI b a k
 |_,_=>O
def Wb(hu:X.A.units+1<cLine)(S:PE X a (tF G f))(T:PE X b (tF G J))(Y:YV b:=by exact λs s=>U):PE X (.Subscript a b pos) (tF G (c2 DE f J)):=PE.eb (Vj hu S T Y) λσ H Q W=>by
 obtain⟨F,ρ,r,d,o,R,e,k⟩:=W;obtain⟨x,y,h,E,I,c⟩:=Dj e;refine⟨F,ρ,r,x,h,R,E,λv t z s1 C r1=>⟨F,h,t,y,o,C,I,λu B i q R2 r2=>?_⟩⟩;have m:=eg.mono q _ _ r1;cases x with
 |J ks ds=>
  unfold DE at c;cases l:AF y with
  |none=>simp only[l]at c;cases c
  |some j=>simp only[l]at c;obtain⟨p,ob,xs,rfl,M,N,P⟩:=m;have lv:=Cn j P N;rw[c]at lv;obtain⟨w,w1,w2⟩:=lv;refine⟨p,w,U,?_,k w B i (s1.t q) R2 w2⟩;rw[Bb r2 l,<- w1];exact p'.kf (R2.sub _ _ M)
 |_=>unfold DE at c;cases c
def BX:D->D->Option D:=λx y=>match x,AF y with
 |.J b a,Z k=>Z ((wI b a k).getD .E)
 |_,_=>O
def Sr(hu:X.A.units+1<cLine)(ha:PE X a (tF G f))(hb:PE X b (tF G Y))(m:M1 X a "get" apos b cpos):PE X (.Call (.Attribute a "get" apos) [b] [] cpos) (tF G (c2 BX f Y)):=PE.eb (Ry hu ha hb m) λσ H Q hh=>by
 obtain⟨F,ρ,M,d,r,R,e,k⟩:=hh;obtain⟨x,y,i,T,W,c⟩:=Dj e;cases x with
 |J I S=>
  refine⟨F,ρ,M,_,i,R,T,λv N P J B r1=>?_⟩;have q:=r1;obtain⟨p,ob,xs,rfl,E,h2,h3⟩:=q;refine⟨p,U,.inl ⟨_,.inr ⟨_,B.sub _ _ E⟩⟩,F,i,N,y,r,B,W,λu t h l R2 r2=>?_⟩;unfold BX at c;cases o:AF y with
  |none=>simp only[o]at c;cases c
  |some j=>
   simp only[o]at c;cases c;have lv:=Cn j (b?.mono l _ _ h3) h2;refine⟨xT (I.zip xs) j,?_,?_⟩
   .rw[Bb r2 o];exact p'.kf (R2.sub _ _ (l _ _ E))
   .cases C:wI I S j with
    |none=>rw[C]at lv k;rw[lv];exact k _ t h (J.t l) R2 zP
    |some z=>rw[C]at lv k;obtain⟨w,w1,w2⟩:=lv;rw[w1];exact k _ t h (J.t l) R2 w2
 |_=>unfold BX at c;cases c
def HZ(i:Nat):FS:=λa=>Z (.nx (a.set i (.dk [] [])))
def Ss{st:Stmt}(h:PS X st (Es Nq (zM i))):PS X st (ma G (HZ i)):=PS.eb h λE u H l=>by obtain⟨F,r,m,o,R,e,k,q⟩:=l;cases e;intro p b;have c:=R.f? b (.dK []);refine k _ _ _ (uL.refl _) (c.set ⟨p,[],U,uz,R.e7 b,R.gk b,U,u7⟩ λz a d j t z f to=>?_);cases d;exact R.apart b j t f to
def yp(i:Nat)(fk fv:FE):FS:=λf=>match fv f with
 |some (d,b)=>match b[i]? with
  |some (.dk _ _)=>match fk b with
   |some (y,c)=>match AF y with
    |some k=>match c[i]? with
     |some (.dk a e)=>if a.length<1000 then if e.length=a.length then Z (.nx (c.set i (if Jq a k=γ then .dk a (Wa a e k d)else .dk (a++[k]) (e++[d]))))else O else O
     |_=>O
    |none=>O
   |none=>O
  |_=>O
 |none=>O
set_option tactic.hygienic true
def Su{st:Stmt}(h:PS X st (Xt (Ep i) (tF G Q) (tF G S))):PS X st (ma G (yp i Q S)):=PS.eb h λE σ H hh=>by
 obtain⟨F,q,Y,o,R,e,k,k2⟩:=hh;unfold yp at e;rcases uV (f:=S) (ρ:=q)with t|⟨d,c,t⟩<;>simp only[t]at e
 .cases e
 split at e
 .rename_i ks0 ds0 ei;rcases uV (f:=Q) (ρ:=c)with w|⟨y,C,w⟩<;>simp only[w]at e
  .cases e
  cases z:AF y with
  |none=>simp only[z]at e;cases e
  |some j=>
   simp only[z]at e;split at e
   .rename_i A ds l;split at e
    .rename_i hl;split at e
     .rename_i hl2;cases e;refine⟨F,q,Y,d,c,R,t,λv H1 H1' s1 I r1=>?_⟩;obtain⟨m,xs0,a1,_⟩:=I.sl i _ ei;refine⟨_,yD a1,F,c,H1,y,C,I,w,λu H2 r W R2 r2=>?_⟩;obtain⟨a,B,J,b2,M,N,b,P⟩:=R2.sl i _ l;rw[a1]at J;cases J;refine⟨m,e0 r m (.dK (i1 (A.zip B) j v)),U,?_,?_⟩
      .rw[Bb r2 z];exact Rv.k b2 (by rw[gU];exact fP (Nat.min_le_left _ _) (AC (by omega)))
      .have T:=eg.mono W _ _ r1;refine k _ _ _ (s1.t W) (R2.mut l U a1 (λH' hH=>?_) ?_)
       .by_cases p:Jq A j=γ
        .rw[ah p];refine⟨m,eJ (λk' x=>if k'=j then v else x) A B,U,?_,M,N,by rw[kP,b,gh],L7 T P b⟩;rw[hH];unfold i1;rw[KY b,ah p,OJ b]
        .rw[aj p];refine⟨m,B++[v],U,?_,M,N,by rw[aC,aC,b];rfl,wy P (vg T u7)⟩;rw[hH];unfold i1;rw[KY b,aj p,lG b];rfl
       .split<;>rfl
     .cases e
    .cases e
   .cases e
 .cases e
set_option tactic.hygienic false
def G5:D->Option D
 |.b0 a=>(Jp a).map λbs=>.I (bs.any id)
 |_=>O
def Qo(x:X.nr=γ)(hK:X.K=G.K:=by rfl):v5 X (.builtin "any") (λw H Q=>∃(p:Addr) (bs:List Bool),w=[.ref p]/\fx G.K H p (bs.map V.I)/\Q (.I (bs.any id)) H):=by
 rw[<-hK];intro m s T H w S Q I r h;obtain⟨p,bs,rfl,C,q⟩:=h;obtain⟨u,rfl,j⟩:=l' r;cases j;obtain⟨f,t,pl,N⟩:=I.list C;have hlt:p<s.heap.objs.size:=by obtain⟨o,B,_⟩:=pl.isList;exact aV B
 have z:=by have:=t.length;rw[af]at this;exact this
 refine call_any_walk (gQ pl.isList ⟨s.heap.objs.size,_,_,_,_,_,λi=>(bs[i]?).getD δ,U,iW (show X.A.in1.handled=O from I.ok.hd x) _ p (bc hlt) f.toArray,⟨⟨_,bx _ U,U,U⟩,?_⟩,?_,λM R y=>?_⟩)
 .exact pl.isList.at λo e=>aN _ e
 .intro i v P J F E hQ';have c:=by simpa using E
  have a:=(ck.1 c).1;have d:(bs.map V.I)[i]?=Z (.I (bs[i]'(by omega))):=by simp[show i<bs.length by omega]
  obtain⟨u,l,j⟩:=t.get d;rw[c]at l;cases l;cases j;refine dh ?_;have e:(bs[i]?).getD δ=bs[i]'(by omega):=by simp[show i<bs.length by omega]
  rw[<-e];exact hQ'
 .refine⟨.I (bs.any id),H,?_,?_,q⟩
  .exact I.gw λb o e=>y b o (by simp;exact bc (aV e)) (aN _ e)
  .show Value.bool _=Value.bool _;congr 1;rw[bj,<- z];rw[dM];simp only[fw,bA,id];constructor
   .rintro⟨i,a,h⟩;exact⟨bs[i],gR a,by simpa [a]using h⟩
   .rintro⟨b,d,h⟩;obtain⟨i,a,rfl⟩:=kJ.1 d;exact⟨i,a,by simpa [a]using h⟩
def Zz:JO G (λd H Q=>∃(p:Addr) (bs:List Bool),d=[.ref p]/\fx G.K H p (bs.map V.I)/\Q (.I (bs.any id)) H) G5:=λx z j H v Q e s i k=>by
 cases x with
 |b0 f=>
  unfold G5 at e;simp only at e;cases b:Jp f with
  |none=>rw[b]at e;cases e
  |some bs=>rw[b]at e;cases e;obtain⟨a,d,rfl,c,h⟩:=i;rw[HV h b]at c;exact⟨a,bs,U,s.seq (fx.of c),k _ λu u=>wZ _⟩
 |_=>cases e
def iS(f:FE):FA:=λb=>match f b with
 |some (.str x,a)=>Z (x.cps.toList.map λc=>D.str ⟨#[c]⟩,a)
 |_=>O
set_option tactic.hygienic true
def Wc(h:PI X M e (iStr (tF G f))):PI X M e (Rl G (iS f)):=PI.eb h λσ H R E=>by
 obtain⟨F,N,p,Y,P,R,e,k⟩:=E;unfold iS at e;split at e
 .rename_i x Q B;cases e;refine⟨F,N,p,_,_,R,B,λv S q s A r=>?_⟩;refine⟨x,r,k _ _ _ s A λi u w t J=>⟨λd j=>?_,λI=>?_⟩⟩
  .rw[bu]at j;cases m:x.cps.toList[i]? with
   |none=>rw[m]at j;cases j
   |some c=>
    rw[m]at j;cases j;have a:=by simpa using m
    refine⟨(nz.1 a).1,λz T y=>?_⟩;obtain⟨C,W,l,rfl⟩:=y;rw[a]at l;cases l;subst C;exact⟨u,uL.refl _,J,uL.refl _,λb o e=>.inl e,y6 _⟩
  .show i=x.cps.size;rw[I,af];simp
 .cases e
set_option tactic.hygienic false
def EI(f g:FE):FE:=λe=>match f e with
 |some (.cx (x::c),a)=>match g a with
  |some (.cx d,b)=>if c.length+d.length<=900 then Z (.cx (x::c++d),b)else O
  |_=>O
 |_=>O
set_option tactic.hygienic true
def We(T:PE X a (tF G f))(W:PE X b (tF G g))(hK:X.K=G.K:=by rfl):PE X (.BinOp a .Add b pos) (tF G (EI f g)):=PE.eb (Q4 Ve T W) λσ H Q Y=>by
 rw[hK];obtain⟨F,ρ,y,d,ρ',R,e,k⟩:=Y;unfold EI at e;split at e
 .rename_i x xs c J;split at e
  .rename_i ys ρ2 M;split at e
   .rename_i hl;cases e;refine⟨F,ρ,y,_,c,R,J,λv A B s E r=>⟨F,c,A,_,_,E,M,λu H2 C l R2 r2=>?_⟩⟩;have w:=eg.mono l _ _ r;have r0:=w;obtain⟨a1,m,rfl,P,q⟩:=w;obtain⟨I,o,rfl,S,t⟩:=r2;have h:=uB q;have j:=uB t;rw[aP]at h;refine⟨a1,I,m,o,U,U,f3.mono R2.sub P,f3.mono R2.sub S,(λz=>by rw[z]at h;cases h),by rw[<-h,<- j];exact yn (by omega),λz=>?_,λ_ p i=>?_⟩
    .have N:=by rw[z]at j;exact ip.1 j
     subst N;rw[b9]at k;exact k _ _ _ (s.t l) R2 r0
    .exact k _ _ _ ((s.t l).t (uJ (R2.e7 i) _)) (R2.zE i _) (Dh (f3.of uz) (b?.mono (uJ (R2.e7 i) _) _ _ (wy q t)))
   .cases e
  .cases e
 .cases e
end
set_option tactic.hygienic false
section
variable{X:Cx}{G:Bg}
abbrev FO:=aU->Option (Option Int×aU)
def tFO(G:Bg)(f:FO):TO:=λi H Q=>∃F h e d b,dd G F i h e H/\f h=Z (d,b)/\∀a c,uL e a->dd G F i b a c->Q d c
def oNo:FO:=λa=>Z (O,a)
def sh(f:FE):FO:=λb=>match f b with
 |some (.int i,a)=>Z (Z i,a)
 |_=>O
def PO.eb(h:PO X e t)(w:∀b H Q,d b H Q->t b H Q):PO X e d:=λa s b H Q I c=>h a s b H Q I (w _ _ _ c)
def ZC:PO X O (tFO G oNo):=PO.eb Ov λh H Q a=>by obtain⟨F,f,c,d,b,R,e,k⟩:=a;cases e;exact k _ _ (uL.refl _) R
set_option tactic.hygienic true
def ZD(h:PE X e (tF G f)):PO X (Z e) (tFO G (sh f)):=PO.eb (Ow h) λt H Q l=>by
 obtain⟨F,m,a,d,o,R,e,k⟩:=l;unfold sh at e;split at e
 .rename_i i p j;cases e;refine⟨F,m,a,_,_,R,j,λv q b s c r=>?_⟩;unfold eg at r;exact⟨i,r,k _ _ s c⟩
 .cases e
set_option tactic.hygienic false
def EJ(f:FE)(lo hi:FO):FA:=λi=>match f i with
 |some (d,c)=>match d with
  |.b0 e=>match lo c with
   |some (l,a)=>match hi a with
    |some (h,b)=>Z (gi e l h,b)
    |none=>O
   |none=>O
  |.Q e=>match lo c with
   |some (l,a)=>match hi a with
    |some (h,b)=>Z (gi e l h,b)
    |none=>O
   |none=>O
  |_=>O
 |none=>O
def NG{lo:FO}(h:PE X e (tSl (PZ G.K) (tF G f) (tFO G lo) (tFO G w))):PE X e (u1 G (EJ f lo w)):=PE.eb h λσ H Q hh=>by
 obtain⟨F,q,M,Y,E,R,e,k⟩:=hh;unfold EJ at e;rcases uV (f:=f) (ρ:=q)with y|⟨d,c,y⟩<;>simp only[y]at e
 .cases e
 have pw:∀(i:bh),(∀{m:Hp} {v:V},eg G m d v->∃a j,v=.ref a/\fx G.K m a j/\b? G m i j)->(match lo c with
   |some (l,b)=>match w b with
    |some (h,t)=>Z (gi i l h,t)
    |none=>O
   |none=>O)=Z (Y,E)->tSl (PZ G.K) (tF G f) (tFO G lo) (tFO G w) σ H Q:=λi rd e=>by
  rcases uV (f:=lo) (ρ:=c)with z|⟨l,b,z⟩<;>simp only[z]at e
  .cases e
  rcases uV (f:=w) (ρ:=b)with A|⟨u,t,A⟩<;>simp only[A]at e
  .cases e
  cases e;refine⟨F,q,M,d,c,R,y,λv m N s1 W r1=>⟨F,c,m,l,b,W,z,λP S I R2=>⟨F,b,P,u,_,R2,A,λH3 T J o=>?_⟩⟩⟩;obtain⟨a,j,rfl,B,C⟩:=rd (eg.mono (I.t J) _ _ r1);exact⟨a,j,U,o.sub.seq B,λp x=>k p _ _ _ (s1.t (I.t J)) (o.f? x _) uz (o.e7 x) (o.gk x) (o.apart x) (EH C)⟩
 cases d with
 |b0 i=>exact pw i (λr=>by unfold eg at r;obtain⟨a,j,rfl,B,C⟩:=r;exact⟨a,j,U,fx.of B,C⟩) e
 |Q i=>exact pw i (λr=>by unfold eg at r;exact r) e
 |_=>cases e
def Ia:D->D->Option D
 |.str x,.int n=>if 0<=n/\n<=1000/\x.length<=100 then Z (.str (eQ x n))else O
 |_,_=>O
end
section
variable{X:Cx}{G:Bg}
def NH:FE:=λz=>O
def Sv:PE X e (tF G NH):=λa s i H Q I h=>by obtain⟨F,f,c,d,b,R,e,_⟩:=h;cases e
def EK(f e h:FE):FE:=λj=>match f j with
 |some (.J i d,a)=>match e a with
  |some (y,b)=>match h b with
   |some (x,c)=>match AF y with
    |some k=>Z ((wI i d k).getD x,c)
    |none=>O
   |none=>O
  |none=>O
 |_=>O
set_option tactic.hygienic true
def Sw(hu:X.A.units+1<cLine)(ha:PE X a (tF G f))(hb:PE X b (tF G P))(hc:PE X c (tF G S))(m:M2 X a "get" apos b c cpos):PE X (.Call (.Attribute a "get" apos) [b,c] [] cpos) (tF G (EK f P S)):=PE.eb (RA hu ha hb hc m) λσ H Q hh=>by
 obtain⟨F,I,H0,d,ρ',R,e,k⟩:=hh;unfold EK at e;split at e
 .rename_i o ds h e1;rcases uV (f:=P) (ρ:=h)with B|⟨y,i,B⟩<;>simp only[B]at e
  .cases e
  rcases uV (f:=S) (ρ:=i)with C|⟨x,ρ3,C⟩<;>simp only[C]at e
  .cases e
  cases E:AF y with
  |none=>simp only[E]at e;cases e
  |some j=>
   simp only[E]at e;cases e;refine⟨F,I,H0,_,h,R,e1,λv H1 H1' Y M W=>?_⟩;unfold eg at W;obtain⟨p,ob,xs,rfl,T,h2,h3⟩:=W;refine⟨p,U,.inl ⟨_,.inr ⟨_,M.sub _ _ T⟩⟩,F,h,H1,y,i,M,B,λu H2 H2' q R2 r2=>⟨F,i,H2,x,_,R2,C,λz J l r t r3=>?_⟩⟩;have lv:=Cn (ks:=o) j (b?.mono (q.t r) _ _ h3) h2;refine⟨xT (o.zip xs) j,?_,?_⟩
   .rw[Bb r2 E];exact p'.kf (t.sub _ _ (r _ _ (q _ _ T)))
   .cases N:wI o ds j with
    |none=>rw[N]at lv k;rw[lv];exact k _ J l (Y.t (q.t r)) t r3
    |some w=>rw[N]at lv k;obtain⟨w',w1,w2⟩:=lv;rw[w1];exact k _ J l (Y.t (q.t r)) t w2
 .cases e
set_option tactic.hygienic false
def Ib(G:Bg)(c:Nat)(t:Ty->Option Bool):Prop:=(∀y b,t y=Z b->cQ G.K (y.val G) (.ref (G.ca c))=Z b)/\∀j b,t (.c j)=Z b->L1 G.K (G.ca j)
def NI(h:Ib G c t)(hK:X.K=G.K:=by rfl):v5 X (.builtin "isinstance") (λa H Q=>∃d x b,a=[x,(Ty.c c).v G]/\eg G H d x/\t (tyD d)=Z b/\Q (.I b) H):=
 JP (X:=X) (.c c) (by rw[hK];exact h.1) (by rw[hK];exact h.2) hK
end
def W'(acc:List ey)(k:ey):List ey:=if acc.any (λz=>decide (z=k))then acc else acc++[k]
def zL(a:List ey):List ey:=a.foldl W' []
def Wf(acc:List ey)(k j:ey):(W' acc k).any (λz=>decide (z=j))=(acc.any (λz=>decide (z=j))||decide (j=k)):=by
 unfold W';by_cases h:acc.any (λz=>decide (z=k))=γ
 .rw[ah h];by_cases e:j=k
  .subst e;rw[h];simp
  .simp[e]
 .rw[aj h,List.any_append];by_cases e:j=k
  .subst e;simp
  .have a:¬k=j:=λz=>e z.symm;simp[a,e]
def OK(acc:List ey)(k:ey):(W' acc k).length=if acc.any (λz=>decide (z=k))=γ then acc.length else acc.length+1:=by unfold W';split<;>simp
def JQ(a:List ey)(i:Nat)(h:i<a.length):zL (a.take (i+1))=W' (zL (a.take i)) a[i]:=by unfold zL;rw[fT,aM h,o8];rfl
def Sx(a:List ey):(zL a).length<=a.length:=by
 have pw:∀(l:List ey) (acc:List ey),(l.foldl W' acc).length<=acc.length+l.length:=by
  intro l
  induction l with
  |nil=>intro acc;simp
  |cons k l b=>
   intro acc;rw[iN,aP];have c:=b (W' acc k);have d:(W' acc k).length<=acc.length+1:=by rw[OK];split<;>omega
   omega
 have:=pw a [];simpa [zL]using this
def Z?{h:Heap}(hS:h.SetOf (uP prog w) a S n)(e:∀k,S k=b k)(c:n=d):h.SetOf (uP prog w) a b d:=by obtain rfl:S=b:=funext e;subst c;exact hS
section
variable{prog:aJ}{w:aA}{A:aK}{R:gu->ae->Prop}{I:Addr}{fp wr:List Addr}{GG:Array gq->Array gq->Prop}{n:Nat}{PP:Nat->ab->Prop}{SS:Nat->ae->Prop}
def Sy(W:WalksS prog w A.in1 I fp wr GG n PP SS)(S:Addr)(hSf:S∉fp)(a:List ey)(G:a.length=n)
  (hval:∀i v (h:i<a.length),PP i v->(uP prog w).is a[i] v=γ/\v.scannable=γ) (F:n+1<scanBound):∀(k i:Nat) (s:ae),n - i=k->i<=n->SS i s->
   s.heap.SetOf (uP prog w) S (λj=>(zL (a.take i)).any (λz=>decide (z=j))) (zL (a.take i)).length->
   (∀c,Moved (S::wr) GG s c->c.heap.SetOf (uP prog w) S (λj=>(zL a).any (λz=>decide (z=j))) (zL a).length->R (.ok (.ret .none)) c)->
   cz (model prog w) A (.builtin "set.update.loop" ⟨[.ref S,.ref I],[]⟩) R s:=by
 have hSw:=λz=>hSf ((W).sub _ z);have r:∀b∈wr,b∈S::wr:=λb z=>ba _ z;intro k
 induction k with
 |zero=>
  intro i s B x hst hS hR;obtain rfl:i=n:=by omega
  refine dO gG ?_;rw[d9 dE _];show ao _ A.in1 (pyNext (.ref I)>>=_) _ _ s;refine ag (W.done s _ _ hst λc d=>?_);rw[gL (by omega)]at hS;refine aq (hR c (d.mono r) ?_);obtain⟨o,m,l,t,p,more⟩:=hS;exact⟨o,m,l,t,d.heap S _ hSw p,more⟩
 |succ k C=>
  intro i s B x hst hS hR;have hlt:i<n:=by omega
  have hlk:i<a.length:=by omega
  refine dO gG ?_;rw[d9 dE _];show ao _ A.in1 (pyNext (.ref I)>>=_) _ _ s;refine ag (W.item i s _ _ hlt hst λv c hP hst' d=>?_);obtain⟨kv,E⟩:=hval i v hlk hP;have hS':c.heap.SetOf (uP prog w) S (λj=>(zL (a.take i)).any (λz=>decide (z=j))) (zL (a.take i)).length:=by obtain⟨o,m,l,t,p,more⟩:=hS;exact⟨o,m,l,t,d.heap S _ hSw p,more⟩
  refine ag (cF ?_);unfold setAdd;refine cF ?_;refine ag ((uP prog w).pyHash kv ?_);have room:(zL (a.take i)).length+1<scanBound:=by have:=Sx (a.take i);rw[cm]at this;omega
  refine wpAny_setAddHashed_of kv E hS' room λu hsb hS2=>?_;have hSi:u.SetOf (uP prog w) S (λj=>(zL (a.take (i+1))).any (λz=>decide (z=j))) (zL (a.take (i+1))).length:=
   Z? hS2 (λj=>by rw[JQ a i hlk,Wf]) (by rw[JQ a i hlk,OK])
  refine aq ⟨f7 dE _,C (i+1) _ (by omega) hlt (W.frame _ c _ _ hst' (gj _) λb z o e=>?_) hSi λq f hS''=>?_⟩
  .rw[hsb.2 b (λy:b=S=>hSf (by rw[<-y];exact z))];exact e
  .refine hR q (jP W.gtrans ((d.mono r).then_heap (gj _) λb o z e=>?_) f) hS'';rw[hsb.2 b (λy:b=S=>z (by rw[y];exact aY))];exact e
end
def Wg(l:Addr)(us:Array ab)(m:Nat)(b:Addr)(o:Obj)(ws:Array ab)(i:Nat)(f:o.cls=.type "tuple")(hd:o.data=.seq ws i)(F:¬(!us.isEmpty&&jj (us.size+ws.size))=γ)(j:us.size<=aI)(p:us.size+ws.size<=aI+1):
  Meets (eU.«list.extend» ⟨[.ref l,.ref b],[]⟩) (λv R s=>s.heap.get? l=Z { cls:=.type "list", data:=.seq us m }/\s.heap.get? b=Z o/\R (.ok (.ret Value.none)) { s with heap:=s.heap.update l (dX λx=>x++ws),toks:=s.toks }):=by
 obtain⟨c,r,data,sl⟩:=o;cases f;cases hd;refine .of_wp λprog w A R s h=>?_;obtain⟨B,g,d,tk,os⟩:=s;obtain⟨a,e,h⟩:=h;have t:=AutoSeq1.sub_tuple_tuple;have u:=AutoSeq1.sub_list_list;have y:=AutoSeq1.sub_tuple_list;have z:=AutoSeq1.sub_list_tuple;have q:(us++ws).size<=aI+1:=Array.size_append (xs:=us) (ys:=ws)▸p
 wp_walk using (lI a U (hz:=j) (_hz':=q)),nG a,nG e
 exact⟨_,U,h⟩
section
variable{X:Cx}{G:Bg}
def L8(K:au):V->bJ->Hp->VK->Prop:=λx d H Q=>∃l b a c,x=.ref l/\d=[.ref b]/\H l=Z (.b0 a)/\f3 K H b c/\a.length+c.length<=aI/\Q .E (e0 H l (.b0 (a++c)))
theorem NJ:MtM X "list.extend" (L8 X.K):=by
 intro i s S H x N v M Q I C B h;obtain⟨l,b,P,R,rfl,rfl,hH,hB,J,q⟩:=h;cases C;obtain⟨u,rfl,A⟩:=B.one;cases A;obtain⟨z,c,n,r,E,e⟩:=I.X? hH;obtain⟨a,j,⟨o,m,p,y,hd⟩,w⟩:=I.tuple hB;have t:=j.length;have d:c.toArray.size+a.toArray.size<=aI:=by rw[bj,bj];omega
 have hlong:¬(!c.toArray.isEmpty&&jj (c.toArray.size+a.toArray.size))=γ:=by rw[Rq d,Bool.and_false];exact bE
 refine gm oM ⟨_,e,U⟩ F.entry_list_extend (F.args_list_extend_2 _ _)
  (Wg l c.toArray n b o a.toArray y p hd hlong (by rw[bj];omega) (by omega)) ⟨e,m,?_⟩
 refine⟨.E,_,I.lset (its':=c++a) hH e (by simp) (r.append j) ?_,U,q⟩;rw[aC];omega
def Cp(i:Nat)(f:FE):FE:=λd=>match xW d i with
 |some _=>match f d with
  |some (.cx c,a)=>match xW a i with
   |some b=>if b.length+c.length<=1000 then Z (.E,putAt a i (b++c))else O
   |none=>O
  |_=>O
 |none=>O
set_option tactic.hygienic true
def NK(h:PE X e (tBM G.K "list" (L8 G.K) (Ep i) (Gb (tF G f) KA))):PE X e (tF G (Cp i f)):=PE.eb h λσ H Q A=>by
 obtain⟨F,c,w,d,P,R,e,k⟩:=A;unfold Cp at e;cases j:xW c i with
 |none=>simp only[j]at e;cases e
 |some z=>
  simp only[j]at e;rcases uV (f:=f) (ρ:=c)with l|⟨x,b,l⟩<;>simp only[l]at e
  .cases e
  .cases x with
   |cx Y=>
    cases m:xW b i with
    |none=>simp only[m]at e;cases e
    |some W=>
     simp only[m]at e;split at e
     .rename_i B;cases e;obtain⟨a,M,r,E,s3,_⟩:=AE R j;refine⟨.ref a,r,.inl ⟨U,M,fx.of E⟩,F,c,w,_,b,R,l,λv S y s q rs=>?_⟩;unfold eg at rs;obtain⟨p,N,rfl,C,rs⟩:=rs;obtain⟨T,o,t,I,u,J⟩:=AE q m;rw[r]at t;cases t;refine⟨a,p,o,N,U,U,I,f3.mono q.sub C,?_,k _ _ _ s (J _ _ (wy u rs)) zP⟩;rw[<-uB u,<- uB rs];exact yn B
     .cases e
   |_=>cases e
end
set_option tactic.hygienic false
section
variable{X:Cx}{G:Bg}{H:Hp}
def ZJ{h:cJ}{E:St}{s:ae}{d:D}{v:V}{u:ab}(I:d3 X h E H s)(hK:X.K=G.K)(hd:eg G H d v)(c:eu v u)(B:∀k r e,d=.obj k r e->L1 X.K (G.ca k)):
  ∃HH:Heap->Prop,W.KitX X.K u ((tyD d).val G) HH/\HH s.heap/\u≠.builtin "__main__.__loader__#opaque" := by
 cases d with
 |E=>unfold eg at hd;subst hd;cases (show u=Value.none from c);exact⟨_,qO,True.intro,λz=>nomatch z⟩
 |I x=>unfold eg at hd;subst hd;cases (show u=Value.bool x from c);exact⟨_,qP,True.intro,λz=>nomatch z⟩
 |int x=>unfold eg at hd;subst hd;obtain⟨t,q⟩:=(show ∃t,u=Value.int x t from c);cases q;exact⟨_,W.kitx_int,True.intro,λz=>nomatch z⟩
 |str x=>unfold eg at hd;subst hd;obtain⟨t,q⟩:=(show ∃t,u=Value.str x t from c);cases q;exact⟨_,W.kitx_str,True.intro,λz=>nomatch z⟩
 |cx e=>obtain⟨a,f,rfl,b,l⟩:=hd;cases c;rw[<-hK]at b;obtain⟨p,_,⟨o,i,j,_⟩,_⟩:=I.tuple b;exact⟨_,mm,⟨o,i,j⟩,λz=>nomatch z⟩
 |b0 e=>obtain⟨a,f,rfl,b,l⟩:=hd;cases c;obtain⟨_,_,n,_,q⟩:=(show e4 X.prog X.w H s.heap a (.b0 f) from I.ff a _ b);exact⟨_,iR,⟨_,q,U⟩,λz=>nomatch z⟩
 |Q e=>obtain⟨a,f,rfl,b,l⟩:=hd;cases c;rw[<-hK]at b;obtain⟨p,_,⟨o,n,i,j,_⟩,_⟩:=I.list b;exact⟨_,iR,⟨o,i,j⟩,λz=>nomatch z⟩
 |J y e=>obtain⟨a,C,f,rfl,b,l,m⟩:=hd;cases c;obtain⟨_,_,_,R,_,o,N,M,i,j,_⟩:=(show e4 X.prog X.w H s.heap a (.n9 C (.dK (y.zip f))) from I.ff a _ b);exact⟨_,hX,⟨o,i,j.1⟩,λz=>nomatch z⟩
 |X y e=>obtain⟨a,f,rfl,⟨o,Q,b,_,m,_⟩,_⟩:=hd;cases c;exact⟨_,hX,⟨o,(show e4 X.prog X.w H s.heap a (.ext (isO a o)) from I.ff a _ b).1,m.ex.1⟩,λz=>nomatch z⟩
 |obj k r e=>have ci:=B k r e U;obtain⟨a,F,f,rfl,b,l,m⟩:=hd;cases c;obtain⟨mA,A,_⟩:=Et I.ff b;obtain⟨P,J,_⟩:=A.look;exact⟨_,W.kitx_own (ci.cl.get _) ci.cl.hd ci.ha ci.hn ci.htk ci.hm,J,λz=>nomatch z⟩
def Qp(G:Bg)(cs:List Nat):bJ:=cs.map λc=>.ref (G.ca c)
def SA(G:Bg)(cs:List Nat):List ab:=cs.map λc=>.ref (G.ca c)
def SC(cs:List Nat){a:List ab}(r:en (Qp G cs) a):a=SA G cs:=by
 induction cs generalizing a with
 |nil=>cases r;rfl
 |cons c cs b=>
  cases r with
  |cons r d=>cases r;exact bL _ (b d)
def OL(G:Bg)(cs:List Nat)(t:Ty->Option Bool):Prop:=(∀y b,t y=Z b->W.kitAny G.K (y.val G) (SA G cs)=Z b)/\∀j b,t (.c j)=Z b->L1 G.K (G.ca j)
def NL{cs:List Nat}{t:Ty->Option Bool}(i:OL G cs t)(hK:X.K=G.K:=by rfl):v5 X (.builtin "isinstance") (λl H Q=>∃d x b a,l=[x,.ref a]/\H a=Z (.cx (Qp G cs))/\eg G H d x/\t (tyD d)=Z b/\Q (.I b) H):=by
 intro j s σ H l Y Q I r h;obtain⟨d,x,b,a,rfl,o,hd,e,q⟩:=h;obtain⟨u,w',rfl,F,f⟩:=vals2 r;cases f;obtain⟨HH,AT,z,A⟩:=ZJ I hK hd F λk R P y=>by subst y;rw[hK];exact i.2 k b e
 obtain⟨_,p,J,⟨⟨c,N,M,S⟩,B,C,n,E⟩,_⟩:=(show e4 X.prog X.w H s.heap a (.cx (Qp G cs)) from I.ff a _ o);cases C;cases E;have m:=SC cs J;subst m;exact W.kia_tup AT I.nj z B (by rw[hK];exact i.1 _ _ e) A λT=>⟨.I b,H,I.rl _,U,q⟩
def ZL(G:Bg):List Nat->TA
 |[]=>KA
 |c::r=>Gb (tC (.ref (G.ca c))) (ZL G r)
theorem OM:∀(cs:List Nat) (a:St) (H:Hp) (Q:bJ->Hp->Prop),Q (Qp G cs) H->ZL G cs a H Q
 |[],_,_,_,h=>h
 |c::r,a,H,Q,h=>OM r a H (λd b=>Q (.ref (G.ca c)::d) b) h
def SD{e:Expr}{cs:List Nat}{t:Ty->Option Bool}{f:FE}(h:PE X e (ZX (λz H Q=>∃d x b m,z=[x,.ref m]/\H m=Z (.cx (Qp G cs))/\eg G H d x/\t (tyD d)=Z b/\Q (.I b) H) (Gb (tF G f) (Gb (tTup (ZL G cs)) KA))))(y:cs.length<=1000:=by decide):PE X e (tF G (c1 (vz t) f)):=PE.eb h λC H Q w=>by
 obtain⟨F,A,o,d,l,R,e,k⟩:=w;obtain⟨x,u,a⟩:=ED e;unfold vz at a;cases i:t (tyD x)with
 |none=>rw[i]at a;cases a
 |some b=>
  rw[i]at a;cases a;refine⟨F,A,o,x,l,R,u,λv B q s c r=>OM cs _ _ _ ⟨?_,λp j=>?_⟩⟩
  .unfold Qp;rw[af];exact yn y
  .exact⟨x,v,b,p,U,uz,eg.mono (c.sub.t (uJ j _)) _ _ r,i,k _ _ _ (s.t (uJ (c.e7 j) _)) (c.zE j _) (wZ b)⟩
end
abbrev one(j:Nat)(led pl:Bool):bO:=⟨7,#[j],#[],0,led,0,pl⟩
section
variable{prog:aJ}{w:aA}{A:aK}{E:ab->ae->Prop}{s:ae}
abbrev TK(prog:aJ)(w:aA):=IsTupleKey (uP prog w)
def cls_val(n:Nat)(h:lQ v=γ):iC n v=pure δ:=by
 cases v with
 |ref a=>simp[lQ]at h
 |_=>first|rfl|simp[iC]|(unfold iC;rfl)
def ON(e:TK prog w s.heap j a)(h:Q δ s):ao (model prog w) A (iC 8 (.ref a)) Q E s:=by
 have hT:=e.typeIs;obtain⟨o,items,n,i,_,hd,f⟩:=e;unfold iC;refine ag (hG hT ?_);show ao _ _ (pure γ>>=_) _ _ s;refine ag (aq ?_);simp only[Bool.not_true,fQ,if_false];refine ag (lS i hd ?_);refine ag ?_;show ao _ _ (forIn items _ _) _ _ s;rw[<-oN];refine jF _ (λfb r d=>r.1=O/\d=s/\∀v∈fb,lQ v=γ) _ ?_ ?_ _ _ ⟨U,U,f.byValue⟩
 .rintro v fb r d ⟨b,rfl,hall⟩;rw[cls_val _ (hall v aY)];refine ag (aq ?_);simp only[fQ,if_false];exact aq ⟨U,U,λu c=>hall u (ba _ c)⟩
 .rintro⟨l,m⟩ d ⟨b,rfl,_⟩;simp only at b;subst b;exact aq h
end
section
variable{prog:aJ}{w:aA}{A:aK}{E:ab->ae->Prop}{s:ae}
def NM{a:Heap}(b:a.get? S=Z o)(hd:o.data=.set es ep t):(a.update S (jU es' t')).get? S=Z { o with data:=.set es' (ep+1) t' }:=by have:=fO (jU es' t') b (by rw[putSet_of es' t' hd];rfl);rw[putSet_of es' t' hd]at this;exact this
end
section
variable{prog:aJ}{w:aA}{A:aK}{R:gu->ae->Prop}{I:Addr}{fp wr:List Addr}{GG:Array gq->Array gq->Prop}{PP:Nat->ab->Prop}{SS:Nat->ae->Prop}
def TK.gw{c:Heap}(t:TK prog w h f a)(e:∀o,h.get? a=Z o->c.get? a=Z o):TK prog w c f a:=by obtain⟨o,b,n,d,m⟩:=t;exact⟨o,b,n,e o d,m⟩
def Set2(h:Heap)(S:Addr)(n:Nat):Prop:=∃o a b t,h.get? S=Z o/\o.ExactSet/\o.data=.set a b t/\a.size<scanBound/\t.fits a.size=γ/\a.size=n
end
def wh:isSubtype (.type "tuple") (.type "set")=pure δ:=by rw[jM];kernel_rfl
def oz:isSubtype (.type "tuple") (.type "frozenset")=pure δ:=by rw[jM];kernel_rfl
section
variable{prog:aJ}{w:aA}{A:aK}{E:ab->ae->Prop}{s:ae}{Q:ab->ae->Prop}
abbrev zp(led:Bool):Obj:={ cls:=.type "set", dict:=O,data:=.set #[] 0 (.fresh 0 0 led) }
abbrev inK(a:List ey):ey->Bool:=λj=>(zL a).any (λz=>decide (z=j))
structure SrcK(prog:aJ)(w:aA)(h:Heap)(a:Addr)(items:Array ab)(ks:List ey):Prop where
 len:ks.length=items.size
 key:∀i v (hi:i<ks.length),items[i]?=Z v->(uP prog w).is ks[i] v=γ/\v.scannable=γ
 bnd:items.size+1<scanBound
def Wh(s:ae)(PS:Heap->Prop)(E:ab->ae->Prop):gu->ae->Prop:=
 wants (λr s2=>r=.none/\∃a k2,s2={ s with heap:=a,toks:=k2 }/\PS a/\∀b o,b<s.heap.objs.size->s.heap.get? b=Z o->a.get? b=Z o) E
def L9(K:SrcK prog w s.heap c items ks)(hlt:c<s.heap.objs.size)
  (W:Walks prog w A.in1 (s.heap.objs.size+1) [s.heap.objs.size+1,c] [s.heap.objs.size+1] items.size (λi v=>items[i]?=Z v) SS) (st:SS 0 ((s.heap.push (zp led)).push itO))
  (hR:∀a k2,a.SetOf (uP prog w) s.heap.objs.size (inK ks) (zL ks).length->(∀b o,b<s.heap.objs.size->s.heap.get? b=Z o->a.get? b=Z o)->R (.ok (.ret .none)) { s with heap:=a,toks:=k2 }) (tk:Nat):
  cz (model prog w) A (.builtin "set.update.loop" ⟨[.ref s.heap.objs.size,.ref (s.heap.objs.size+1)],[]⟩) R { s with heap:=(s.heap.push (zp led)).push itO,toks:=tk }:=by
 have notin:s.heap.objs.size∉[s.heap.objs.size+1,c]:=by
  intro z;rcases aO.1 z with z|z
  .exact ar z (bc (di _))
  .exact ar (bT.1 z) (gf hlt)
 have h:((s.heap.push (zp led)).push itO).get? s.heap.objs.size=Z (zp led):=aN _ (bx _ U);refine Sy W.toS s.heap.objs.size notin ks K.len (λi v hi q=>K.key i v hi q) K.bnd (items.size - 0) 0 _ (by omega) (bH _) st ?_ λs2 mv f=>?_
 .exact⟨_,#[],0,_,h,⟨U,U,U⟩,U,λe p=>by simp at p,λk=>by simp[zL],by unfold scanBound;decide,by rfl,U⟩
 .obtain⟨a,g2,d2,k2,r⟩:=s2;have l:g2=s.gens:=mv.gens;have j:d2=s.drawn:=mv.drawn;have m:r=s.os:=mv.os;subst l j m;refine hR a k2 f λb o d e=>mv.heap b o (λz=>?_) (aN _ (aN _ e));rcases aO.1 z with z|z
  .exact ar z (bc d)
  .exact ar (bT.1 z) (bc (eC d))
theorem NN(a:ab)(h:Q₁ (.ref s.heap.objs.size) { s with heap:=s.heap.push (zp (!w.params.followText "set-order")) }):
  cz (model prog w) A (.call (.builtin "set.__new__") ⟨[.type "set", a],[]⟩) (wants Q₁ E) s:=by
 refine pV ?_;show ao _ A.in1 (do checkBuiltinCall "set.__new__" ⟨[.type "set", a],[]⟩;again (.builtin "set.__new__" ⟨[.type "set", a],[]⟩)) _ _ s;refine ag (wpAny_of_eq (F.newCall_set_1 a) (aq ⟨f7 pW _,dO F.entry_set_new ?_⟩));rw[d9 pW _];unfold eU.«set.__new__» r6;have hsub:=sub_set_self;obtain⟨b,g,d,tk,os⟩:=s;dsimp only
 wp_walk
 refine ly (aq ?_);dsimp only;simp only[newObj];refine ag (wpAny_alloc (aq ?_));exact aq h
theorem EL{PS:Heap->Prop}(t:s.heap.get? d=Z o)(z:o.cls=.type T)
  (N:isSubtype (.type T) (.type "set")=pure δ) (P:isSubtype (.type T) (.type "frozenset")=pure δ) (S:(Value.type T==Value.type "dict")=δ)
  (itr:∀(A:aK) (Q:ab->ae->Prop) (E:ab->ae->Prop) (f:ae),f.heap.get? d=Z o->Q (.ref f.heap.objs.size) { f with heap:=f.heap.push itO }->ao (model prog w) A (pyIter (.ref d)) Q E f)
  (fil:∀tk (R:gu->ae->Prop),(∀a k2,PS a->(∀b o,b<s.heap.objs.size->s.heap.get? b=Z o->a.get? b=Z o)->R (.ok (.ret .none)) { s with heap:=a,toks:=k2 })->
   cz (model prog w) A.in1.in1 (.builtin "set.update.loop" ⟨[.ref s.heap.objs.size,.ref (s.heap.objs.size+1)],[]⟩) R { s with heap:=(s.heap.push (zp (!w.params.followText "set-order"))).push itO,toks:=tk })
  (h:∀a k2,PS a->(∀b o,b<s.heap.objs.size->s.heap.get? b=Z o->a.get? b=Z o)->Q (.ref s.heap.objs.size) { s with heap:=a,toks:=k2 }):
  ao (model prog w) A (call (.type "set") [.ref d]) Q E s:=by
 have hlt:d<s.heap.objs.size:=aV t;obtain⟨c,M,hmro⟩:=fF.mro;have made:=fF.made;have subs:=fF.sub;refine jS (pV ?_);show ao _ _ (callAny (.type "set") _) _ _ _;refine aq ⟨Code.quiet_builtin _ (by decide +kernel),dO F.entry_type_call ?_⟩;rw[Around.under_plain (weight_type_call_type "set" [.ref d] []) U];have H:=fF.notType;have I:=fF.canCreate;have J:=F.typeCall_set_1 (.ref d)
 repeat (any_goals (first|assumption|wp_step))
 let led:Bool:=!w.params.followText "set-order";refine hE (NN (.ref d) (E:=E) (Q₁:=λv f=>v=.ref s.heap.objs.size/\f={ s with heap:=s.heap.push (zp led) }) ⟨U,U⟩) λr f hr=>?_;cases r with
 |error e=>exact hr
 |ok fl=>
  cases fl with
  |ret v=>
   obtain⟨rfl,rfl⟩:=hr;have u:(s.heap.push (zp led)).get? s.heap.objs.size=Z (zp led):=bx _ U;have p:l6 { s with heap:=s.heap.push (zp led) } (.ref s.heap.objs.size) "set" := ⟨_,u,U⟩;have C:=fF.init.lookup;have G:=fF.init.bind (.ref s.heap.objs.size)
   repeat (any_goals (first|assumption|wp_step))
   refine hE (n4 (R:=Wh s PS E) fF.init.plain F.entry_set_init (check_set_init_1 p ?_)) λB s2 i=>?_
   .obtain⟨oc,od,oda,osl⟩:=o;cases z;have x:(s.heap.push (zp led)).get? d=Z { cls:=.type T,dict:=od,data:=oda,slots:=osl }:=aN _ t;unfold eU.«set.__init__» noKeywords rX;generalize gP:pyIter=PP
    wp_walk
    subst gP;refine itr _ _ _ _ x ?_;refine ag (qe ?_);have y:(s.heap.push (zp led)).objs.size=s.heap.objs.size+1:=cW _ _;show cz _ _ (.builtin "set.update.loop" ⟨[.ref s.heap.objs.size,.ref (s.heap.push (zp led)).objs.size],[]⟩) _ _;rw[y];refine fil _ _ λa k2 j m=>?_;show ao _ _ _ _ _ _;refine aq ?_;show ao _ _ (ret Value.none) _ _ _;exact aq ⟨U,a,k2,U,j,m⟩
   .cases B with
    |error e=>exact i
    |ok l=>
     cases l with
     |ret r=>
      obtain⟨rfl,a,k2,rfl,j,m⟩:=i
      repeat (any_goals (first|assumption|wp_step))
      exact h _ _ j m
     |_=>exact i.elim
  |_=>exact hr.elim
end
section
variable{X:Cx}{G:Bg}{H:Hp}{pins:cJ}{σ:St}{s:ae}
def SE(h:(uP P w).is k v=γ):v.scannable=γ:=by rcases vA h with ⟨i,t,_,rfl⟩|⟨x,t,_,rfl⟩<;>rfl
def SF{b:List ey}(r:en (b.map kV) c)(o:b.length+1<scanBound):SrcK X.prog X.w s.heap a c.toArray b:=by
 have l:=by have:=r.length;rw[af]at this;exact this
 refine⟨by rw[bj];exact l,λi v j f=>?_,by rw[bj];omega⟩;have e:(b.map kV)[i]?=Z (kV b[i]):=by rw[bu,aM j];rfl
 obtain⟨u,d,m⟩:=r.get e;have h:=by rw[jq]at f;rw[f]at d;exact cc d
 subst h;have:=EC (P:=X.prog) (w:=X.w) m;exact⟨this,SE this⟩
def ac8{c:List ey}(I:d3 X pins σ H s)(h:f3 X.K H a (c.map kV)):TK X.prog X.w s.heap c a:=by
 obtain⟨b,r,p,_⟩:=I.tuple h;obtain⟨o,i,f,n,hd⟩:=p;refine⟨o,_,n,i,f,hd,?_⟩;have pw:∀(c:List ey) (b:List ab),en (c.map kV) b->PySem.ItemsAre (uP X.prog X.w) c b:=λc=>by
  induction c with
  |nil=>intro b r;cases r;exact .nil
  |cons k c j=>intro b r;cases r with|cons d e=>exact .cons (EC d) (j _ e)
 exact pw c b r
def ZM(K:au)(H:Hp)(a:Addr)(n:Nat):Prop:=∃b,(fx K H a (b.map kV)\/f3 K H a (b.map kV))/\b.length+1<scanBound/\n=(zL b).length
def ZQ(X:Cx)(S:au->Hp->Addr->Nat->Prop):Prop:=∀{pins:cJ} {σ:St} {H:Hp} {s:ae} {A:aK} {E:ab->ae->Prop} {Q:ab->ae->Prop} {a:Addr} {n:Nat},d3 X pins σ H s->A.handled=O->A.units+8<cLine->S X.K H a n->
 (∀c k2,Set2 c s.heap.objs.size n->(∀b o,b<s.heap.objs.size->s.heap.get? b=Z o->c.get? b=Z o)->Q (.ref s.heap.objs.size) { s with heap:=c,toks:=k2 })->ao (model X.prog X.w) A (call (.type "set") [.ref a]) Q E s
def ac9:ZQ X (ZM):=by
 intro pins σ H s A E Q a n I J T i h;have u:A.in1.in1.in1.handled=O:=by simp[J]
 have q:∀{f:Heap} {j:List ey},f.SetOf (uP X.prog X.w) s.heap.objs.size (inK j) (zL j).length->Set2 f s.heap.objs.size (zL j).length:=λS=>by obtain⟨o,C,B,t,b,hex,hd,_,_,N,F,M⟩:=S;exact⟨o,C,B,t,b,hex,hd,N,F,M⟩
 have y:∀{o:Obj} {led:Bool},o.isFreed=δ->((s.heap.push (zp led)).push o).get? (s.heap.objs.size+1)=Z o:=λ{o led} z=>by rw[show s.heap.objs.size+1=(s.heap.push (zp led)).objs.size from(cW _ _).symm];exact bx _ z
 obtain⟨j,i|i,x,rfl⟩:=i
 .obtain⟨d,r,p,_⟩:=I.list i;obtain⟨o,b,c,n,hd⟩:=p.isList;have hne:=bc (eC (aV b));refine EL b c lX kM (by decide)
   (λA Q E P e k=>gQ ⟨o,e,c,n,hd⟩ k) (λm R hR=>L9 (SF r x) (aV b) (iW u _ a hne d.toArray) ⟨⟨_,y U,U,U⟩,⟨o,aN _ (aN _ b),c,n,hd⟩⟩ (λf l S=>hR f l (q S)) m) h
 .obtain⟨d,r,p,_⟩:=I.tuple i;obtain⟨o,b,c,n,hd⟩:=p;have hne:=bc (eC (aV b));refine EL b c wh oz (by decide)
   (λA Q E P e k=>oH ⟨o,e,c,n,hd⟩ k) (λm R hR=>L9 (SF r x) (aV b) (Walks.tuple u _ a hne d.toArray) ⟨⟨_,y U,U,U⟩,⟨o,aN _ (aN _ b),c,n,hd⟩⟩ (λf l S=>hR f l (q S)) m) h
def OO(S:au->Hp->Addr->Nat->Prop)(K:au)(c:TE):TE:=λσ H Q=>c σ H λx b=>∃a n,x=.ref a/\S K b a n/\Q (.int n) b
def Qq{f c:Pos}(hV:ZQ X S)(W:X.A.units+64<cLine)(y:X.nr=γ)(g1:Gl X "len")(M:X.mg "len" = O)(g2:Gl X "set")(N:X.mg "set" = O)(z:PE X e T)
  (j:aF [Expr.Call (.Name "set" f) [e] [] c] X.b1=[(δ,eval (.Call (.Name "set" f) [e] [] c) X.b1)]:=by rfl) (l:aF [e] X.b1=[(δ,eval e X.b1)]:=by rfl):PE X (.Call (.Name "len" Y) [.Call (.Name "set" f) [e] [] c] [] p4) (OO S X.K T):=by
 intro pins s σ H Q I h;refine dF (Cc I g1 M qf ?_ (by decide) (by decide));refine callWith_builtin1 ?_ j U;rw[j];refine eh ?_;refine dF (Cc I g2 N qS ?_ (by decide) (by decide));refine callWith_type1 (fu (xm z Ae l c pins s σ H (λvs H1=>match vs with
  |[x]=>∃a n,x=.ref a/\S X.K H1 a n/\Q (.int n) H1
  |_=>False) I h) λus R ⟨vs,H1,d,r1,i⟩=>?_) l U
 match vs,r1,i with
 |[x],r1,i=>
 obtain⟨a,n,r,E,q⟩:=i;subst r;obtain⟨u,rfl,P⟩:=l' r1;cases P;refine hV d (d.ok.hd y) (by omega) E λw k2 p J=>?_;refine fR ?_;obtain⟨o,es,ep,t,C,hex,hd,F,B,hn⟩:=p;have m:d3 X pins σ H1 { R with heap:=w,toks:=k2 }:=d.gw λb o e=>J b o (aV e) e;refine call_len_set C hex hd B (by unfold scanBound at F;omega) ⟨.int n,H1,m.rl _,⟨_,by rw[hn]⟩,q⟩
def Gi:bh->Option (List ey)
 |[]=>Z []
 |d::a=>match AF d,Gi a with
  |some k,Z b=>Z (k::b)
  |_,_=>O
theorem JR:∀{a:bh} {f:bJ} {c:List ey},b? G H a f->Gi a=Z c->f=c.map kV
 |[],f,c,r,e=>by cases e;unfold b? at r;exact r
 |d::a,f,c,r,e=>by
  unfold Gi at e;cases b:AF d with
  |none=>rw[b]at e;cases e
  |some k=>
   cases h:Gi a with
   |none=>rw[b,h]at e;cases e
   |some l=>rw[b,h]at e;cases e;obtain⟨v,m,rfl,i,j⟩:=r;rw[Bb i b,JR j h];rfl
def xa(b:bh):Option D:=match Gi b with
 |some a=>if a.length<=1000 then Z (.int (zL a).length)else O
 |none=>O
def EM(g:bh->Option D):D->Option D
 |.b0 a=>match xa a with
  |some r=>Z r
  |none=>g a
 |.cx a=>xa a
 |.Q a=>xa a
 |_=>O
def Wi(h:xa a=Z r):EM g (.b0 a)=Z r:=by show (match xa a with|some r=>Z r|none=>g a)=Z r;rw[h]
set_option tactic.hygienic true
def NO(hK:X.K=G.K)(hO:∀{H a n},ZM X.K H a n->S X.K H a n)
  (E:∀{c d m b a i},g c=Z d->fx X.K b a i->b? G m c i->uL m b->∃n:Nat,S X.K b a n/\d=.int n)
  (h:PE X e (OO S X.K (tF G f))):PE X e (tF G (c1 (EM g) f)):=PE.eb h λσ H Q I=>by
 obtain⟨F,M,z,d,u,R,e,k⟩:=I;obtain⟨x,B,l⟩:=ED e;have key:∀{c:bh} {i:bJ} {a:Addr} {m b:Hp},xa c=Z d->b? G m c i->uL z m->dd G F σ u m b->(fx X.K b a i\/f3 X.K b a i)->
   ∃A n,V.ref a=.ref A/\S X.K b A n/\Q (.int n) b:=λ{c i a m b} o rs s j t=>by
  unfold xa at o;cases y:Gi c with
  |none=>rw[y]at o;cases o
  |some J=>
   rw[y]at o;simp only at o;split at o
   .rename_i N;cases o;rw[JR rs y]at t;exact⟨a,_,U,hO ⟨J,t,by unfold scanBound;omega,U⟩,k _ _ _ s j (wN _)⟩
   .cases o
 refine⟨F,M,z,x,u,R,B,λv m b s j r=>?_⟩;cases x with
 |b0 c=>
  obtain⟨a,i,rfl,p,q⟩:=r;have t:fx X.K b a i:=fx.of (j.sub _ _ p);replace l:(match xa c with|some r=>Z r|none=>g c)=Z d:=l;cases w:xa c with
  |some r=>rw[w]at l;cases l;exact key w q s j (.inl t)
  |none=>rw[w]at l;obtain⟨n,C,rfl⟩:=E l t q j.sub;exact⟨a,n,U,C,k _ _ _ s j (wN _)⟩
 |cx c=>obtain⟨a,i,rfl,p,q⟩:=r;rw[<-hK]at p;exact key l q s j (.inr (f3.mono j.sub p))
 |Q c=>obtain⟨a,i,rfl,p,q⟩:=r;rw[<-hK]at p;exact key l q s j (.inl (j.sub.seq p))
 |_=>cases l
end
set_option tactic.hygienic false
def OP(h:(uP P w).is k v=γ):eu (kV k) v:=by
 rcases vA h with ⟨i,t,rfl,rfl⟩|⟨x,t,rfl,rfl⟩
 .exact⟨t,U⟩
 .exact⟨t,U⟩
def Itd(a:Addr)(o:Obj)(kvs:List (ey×V)):It:=
 ⟨λi H=>i<kvs.length/\H a=Z (.n9 o (.dK kvs)),λi H x b=>b=H/\∃k z,kvs[i]?=Z (k,z)/\x=kV k,λi H=>kvs.length<=i/\H a=Z (.n9 o (.dK kvs))⟩
section
variable{X:Cx}{pins:cJ}{σ:St}{H:Hp}{s:ae}
def Gj(I:d3 X pins σ H s)(e:H a=Z (.n9 o (.dK kvs)))(hd:o.data=.dict j h):
  (a==c6)=δ/\s.heap.get? a=Z o/\∃b,KV kvs b/\s.heap.DictAt (uP X.prog X.w) a b h:=by
 obtain⟨c,_,y,b,r,q,l,i,d,m,f,p⟩:=(show e4 X.prog X.w H s.heap a (.n9 o (.dK kvs)) from I.ff a _ e);rw[c]at d;cases d;rw[hd]at f;cases f;exact⟨y,c,b,r,o,j,c,m,hd,p⟩
def ZR{kvs:List (ey×V)}{a:List (ey×ab)}(r:KV kvs a){i:Nat}{k:ey}{x:ab}(e:a[i]?=Z (k,x)):∃z,kvs[i]?=Z (k,z):=by
 induction r generalizing i with
 |nil=>cases e
 |@cons p q l d h _ b=>
  cases i with
  |zero=>obtain⟨c,pv⟩:=p;cases e;exact⟨pv,by rw[show c=k from h.1];rfl⟩
  |succ i=>exact b e
end
def Qr{K:au}(a it:Addr)(o:Obj)(kvs:List (ey×V)):Q0 P w K tg (Itd a o kvs) [it] it (λi h=>∃es ep,o.data=.dict es ep/\h.IsKeyIter it a i kvs.length ep) where
 mem:=by simp
 obj:=λi h st b f=>by
  have e:=by simpa using f
  subst e;obtain⟨es,ep,hd,ob,e,c,d⟩:=st;exact⟨ob,e,λv z=>by rw[d]at z;cases z⟩
 keep:=λi h h' st k=>by obtain⟨es,ep,hd,x⟩:=st;exact⟨es,ep,hd,x.at λo e=>k it (by simp) o e⟩
 item:=by
  intro X hP hw hK C i pins s σ H E I t st hg;subst hP hw hK;obtain⟨hi,q⟩:=hg;obtain⟨es,ep,hd,p⟩:=st;obtain⟨l,u,M,y,A,B⟩:=t it (by simp);obtain⟨_,_,vs,r,da⟩:=Gj I q hd;have m:=r.length;have hne:a≠it:=λz=>by subst z;rw[q]at l;cases l
  have W:=Walks.dictKeys (knd:=uP X.prog X.w) (I.ok.hd C) it a hne vs ep;refine W.item i s _ _ (by omega) ⟨by rw[<-m];exact p,da⟩ λv h' tk Q F T=>?_;obtain⟨k,x,R,N⟩:=Q;obtain⟨z,S⟩:=ZR r R;have G:d3 X pins σ H { s with heap:=h',toks:=tk }:=I.j' (λb o f e=>T b o (by simpa using f) e) l u y A B;obtain⟨j,_⟩:=F;rw[<-m]at j;obtain⟨ob,e,c,d⟩:=id j;exact⟨v,U,On e c d (by decide) ⟨kV k,H,G,OP N,⟨U,k,z,S,U⟩,⟨es,ep,hd,j⟩,λb f=>(t b f).1⟩⟩
 done:=by intro X hP hw hK C i pins s σ H E I t st hg;subst hP hw hK;obtain⟨hi,q⟩:=hg;obtain⟨es,ep,hd,p⟩:=st;obtain⟨l,u,M,y,A,B⟩:=t it (by simp);obtain⟨_,_,vs,r,da⟩:=Gj I q hd;have m:=r.length;exact wpAny_pyNext_dict_end (I.ok.hd C) (by rw[<-m];exact p) da (fN (by rw[<-m];exact hi)) λh' J=>⟨U,I.j' (λb o f e=>J b o f e) l u y A B⟩
 self:=λ_ _ _ _ _ st h=>by obtain⟨es,ep,hd,p⟩:=st;exact wpAny_pyIter_keyiter p h
section
variable{X:Cx}{G:Bg}{tg:Expr}
def iDic(c:TE):TI:=λd H R=>c d H λx b=>∃a o kvs,x=.ref a/\b a=Z (.n9 o (.dK kvs))/\R (Itd a o kvs) b
def Wj(f:PE X l M):PI X tg l (iDic M):=by
 intro c s N H R I h;refine fu (f c s N H _ I h) λv i zz=>?_;obtain⟨x,j,d,J,F⟩:=zz;obtain⟨a,o,kvs,e,E,q⟩:=F;subst e;cases J;obtain⟨u,_,y,Q,r,P,t,B,m,z,p,A⟩:=(show e4 X.prog X.w j i.heap a (.n9 o (.dK kvs)) from d.ff a _ E);rw[u]at m;cases m;have f:=r.length;refine wpAny_pyIter_dict y ⟨o,t,u,z,p,A⟩ ?_;refine⟨i.heap.objs.size,[i.heap.objs.size],_,_,j,U,d.gw λb o e=>aN _ e,Qr a _ o kvs,⟨t,B,p,⟨_,bx _ U,U,by rw[f];rfl⟩⟩,λb C=>?_,q⟩;have e:=by simpa using C
 subst e;exact d.Q? (aL _) (d.ff.fresh (aL _))
def ZU:ey->D
 |.inl i=>.int i
 |.inr x=>.str x
def Wk(k:ey):eg G H (ZU k) (kV k):=by
 cases k with
 |inl i=>exact wN i
 |inr x=>exact y6 x
def iD(f:FE):FA:=λd=>match f d with
 |some (.J b c,a)=>if b.length=c.length then Z (b.map ZU,a)else O
 |_=>O
set_option tactic.hygienic true
def SG(h:PI X tg e (iDic (tF G f))):PI X tg e (Rl G (iD f)):=PI.eb h λσ H R P=>by
 obtain⟨F,Y,B,ds,ρ',R,e,k⟩:=P;unfold iD at e;split at e
 .rename_i p J ρ1 M;split at e
  .rename_i x;cases e;refine⟨F,Y,B,_,_,R,M,λv H1 C s w r=>?_⟩;obtain⟨a,o,W,rfl,q,T,r3⟩:=r;have A:(p.zip W).length=p.length:=by rw[gU,<- T,gh]
   refine⟨a,o,_,U,w.sub _ _ q,k _ _ _ s w λi E I t u=>⟨λd c=>?_,λS=>?_⟩⟩
   .rw[bu]at c;cases m:p[i]? with
    |none=>rw[m]at c;cases c
    |some j=>
     rw[m]at c;cases c;have Q:=(ck.1 m).1;refine⟨⟨by rw[A];exact Q,u _ _ (t _ _ q)⟩,λz H3 y=>?_⟩;obtain⟨N,k',z',l,rfl⟩:=y;subst N;have:=by rw[List.getElem?_zip_eq_some]at l;have:=l.1;rw[m]at this;exact(cc this).symm
     subst this;exact⟨E,uL.refl _,u,uL.refl _,λb o e=>.inl e,Wk _⟩
   .refine⟨by rw[A,S,af];exact aL _,u _ _ (t _ _ q)⟩
  .cases e
 .cases e
end
set_option tactic.hygienic false
mutual
def vl(N c:Nat):D->Bool
 |.E=>γ
 |.I _=>γ
 |.int _=>γ
 |.str _=>γ
 |.cx a=>yM N c a
 |.b0 a=>yM N c a
 |.Q a=>yM N c a
 |.obj k _ a=>decide (k<N)&&decide (k≠c)&&yM N c a
 |.J _ a=>yM N c a
 |.X _ a=>yM N c a
def yM(N c:Nat):bh->Bool
 |[]=>γ
 |d::a=>vl N c d&&yM N c a
end
def without(H:Hp)(a:Addr):Hp:=λb=>if b=a then O else H b
def Ie{H:Hp}{a b:Addr}(h:b≠a):without H a b=H b:=by unfold without;rw[aj h]
def EN{H:Hp}{a b:Addr}{o:HO}(h:without H a b=Z o):b≠a/\H b=Z o:=by
 unfold without at h;by_cases c:b=a
 .rw[ah c]at h;cases h
 .rw[aj c]at h;exact⟨c,h⟩
def xi{H:Hp}{a b:Addr}{u v:HO}(e:H a=Z u)(c:H b=Z v)(d:u≠v):without H a b=Z v:=by rw[Ie (λz=>by subst z;rw[e]at c;exact d (cc c))];exact c
section
variable{G:Bg}{H:Hp}{a dx:Addr}{fs:List (Str×V)}{N c:Nat}
def Gk(b:H a=Z (.mu (G.ca c) dx fs)){p:Addr}{d:bJ}(h:f3 G.K H p d):f3 G.K (without H a) p d:=by
 rcases h with (h|⟨o,h⟩)|h
 .exact .inl (.inl (xi b h (λz=>nomatch z)))
 .exact .inl (.inr ⟨o,xi b h (λz=>nomatch z)⟩)
 .exact .inr h
def Ma(b:H a=Z (.mu (G.ca c) dx fs)){p:Addr}{d:bJ}(h:fx G.K H p d):fx G.K (without H a) p d:=by
 rcases h with (h|⟨o,h⟩)|h
 .exact .inl (.inl (xi b h (λz=>nomatch z)))
 .exact .inl (.inr ⟨o,xi b h (λz=>nomatch z)⟩)
 .exact .inr h
mutual
theorem Gm(inj:∀j k,j<N->k<N->G.ca j=G.ca k->j=k)(t:c<N)(i:H a=Z (.mu (G.ca c) dx fs)):∀(d:D) (v:V),vl N c d=γ->eg G H d v->eg G (without H a) d v
 |.E,v,_,h=>by unfold eg at h ⊢;exact h
 |.I _,v,_,h=>by unfold eg at h ⊢;exact h
 |.int _,v,_,h=>by unfold eg at h ⊢;exact h
 |.str _,v,_,h=>by unfold eg at h ⊢;exact h
 |.cx l,v,n,h=>by obtain⟨p,f,e,m,r⟩:=h;exact⟨p,f,e,Gk i m,wR inj t i l f n r⟩
 |.b0 l,v,n,h=>by obtain⟨p,f,e,m,r⟩:=h;exact⟨p,f,e,xi i m (λz=>nomatch z),wR inj t i l f n r⟩
 |.Q l,v,n,h=>by obtain⟨p,f,e,m,r⟩:=h;exact⟨p,f,e,Ma i m,wR inj t i l f n r⟩
 |.obj k J l,v,n,h=>by unfold vl at n;simp only[aQ,bz]at n;obtain⟨p,w,f,e,m,r,u⟩:=h;refine⟨p,w,f,e,xi i m (λz=>?_),r,wR inj t i l f n.2 u⟩;injection z with I;exact n.1.2 (inj k c n.1.1 t I.symm)
 |.J E l,v,n,h=>by obtain⟨p,o,f,e,m,r,u⟩:=h;exact⟨p,o,f,e,xi i m (λz=>nomatch z),r,wR inj t i l f n u⟩
 |.X E l,v,n,h=>by obtain⟨b,f,rfl,⟨o,F,m,r,u,x,y,A⟩,B⟩:=h;exact⟨b,f,U,⟨o,F,xi i m (λz=>nomatch z),r,u,x,λq C=>Gk i (y q C),A⟩,wR inj t i l f n B⟩
theorem wR(inj:∀j k,j<N->k<N->G.ca j=G.ca k->j=k)(l:c<N)(i:H a=Z (.mu (G.ca c) dx fs)):∀(b:bh) (f:bJ),yM N c b=γ->b? G H b f->b? G (without H a) b f
 |[],f,_,h=>by unfold b? at h ⊢;exact h
 |d::b,f,n,h=>by unfold yM at n;simp only[aQ]at n;obtain⟨v,r,e,m,o⟩:=h;exact⟨v,r,e,Gm inj l i d v n.1 m,wR inj l i b r n.2 o⟩
end
end
def D6:Sl->Sl
 |.q d=>.q d
 |_=>.un
def DF(N:Nat)(f:FE):FE:=λa=>match a with
 |.ob c e b::r=>match f (.q (.obj c e b)::r.map D6)with
  |some (d,_)=>if (decide (c<N)&&vl N c d)=γ then Z (d,a)else O
  |none=>O
 |_=>O
section
variable{X:Cx}{G:Bg}
def NP{s:Sl}:(D6 s).iE=δ:=by cases s<;>rfl
set_option tactic.hygienic true
def Wl{e:Expr}{f:FE}{N:Nat}(inj:∀j k,j<N->k<N->G.ca j=G.ca k->j=k)(h:PE X e (tF G f)):PE X e (tF G (DF N f)):=PE.eb h λσ H Q T=>by
 obtain⟨F,ρ,H0,d,ρ',R,e,k⟩:=T;unfold DF at e;split at e
 .rename_i c ns ds r;rcases uV (f:=f) (ρ:=.q (.obj c ns ds)::r.map D6)with y|⟨x,B,y⟩<;>simp only[y]at e
  .cases e
  split at e
  .rename_i hn;cases e;simp only[aQ,bz]at hn;obtain⟨a,dx,xs,J,M,A,Y,P,S⟩:=R.sl 0 _ U;have RL:dd G ⟨e0 H0 a (.mu (G.ca c) dx (ns.zip xs)),H,[]⟩ σ (.q (.obj c ns ds)::r.map D6) (e0 H0 a (.mu (G.ca c) dx (ns.zip xs))) H:={
    sub:=λb o q=>by
     by_cases m:b=a
     .subst m;rw[uz]at q;cases q;exact M
     .rw[uH m]at q;exact R.sub _ _ q
    g0:=uL.refl _
    keep:=λb o q _=>q
    fr:=λb o q=>.inl q
    am:=λb q=>by cases q
    len:=by have:=R.len;simpa using this
    sl:=λi s q=>by
     cases i with
     |zero=>cases q;exact⟨.ref a,J,by unfold eg;exact⟨a,dx,xs,U,uz,P,b?.mono (uJ A _) _ _ S⟩⟩
     |succ i=>
      have l:(r.map D6)[i]?=Z s:=q;rw[bu]at l;cases p:r[i]? with
      |none=>rw[p]at l;cases l
      |some t=>
       rw[p]at l;cases l;have ok:=R.sl (i+1) t p;cases t with
       |q d=>obtain⟨v,g1,g2⟩:=ok;exact⟨v,g1,eg.mono (uJ A _) _ _ g2⟩
       |_=>trivial
    ap:=λi j s t b _ C _ so=>by
     cases i with
     |zero=>cases C;cases so
     |succ i=>
      have l:(r.map D6)[i]?=Z s:=C;rw[bu]at l;cases p:r[i]? with
      |none=>rw[p]at l;cases l
      |some t=>rw[p]at l;cases l;rw[NP]at so;cases so }
   refine⟨_,_,_,d,B,RL,y,λv H1 u s w W=>?_⟩;have ha:=s _ _ uz;have E:uL H0 (without H1 a):=λb o q=>by
    have m:b≠a:=λz=>by subst z;rw[A]at q;cases q
    rw[Ie m];exact s b o (by rw[uH m];exact q)
   refine k v (without H1 a) u E ?_ (Gm inj hn.1 ha d v hn.2 W);refine R.ix (λb o q=>w.keep b o q (by simp)) E (λb o q=>w.sub _ _ (EN q).2) λb o q=>?_;obtain⟨m,q⟩:=EN q;rcases w.fr b o q with z|z
   .have I:e0 H0 a (.mu (G.ca c) dx (ns.zip xs)) b=Z o:=z;rw[uH m]at I;exact .inl I
   .exact .inr z
  .cases e
 .cases e
end
set_option tactic.hygienic false
section
variable{X:Cx}{pins:cJ}{σ:St}{H:Hp}{s:ae}{a:Addr}{A:aK}{E:ab->ae->Prop}
theorem ZV(I:d3 X pins σ H s)(e:H a=Z (.dK kvs))(J:eu (kV k) u)(M:eu z r)(N:kvs.length<aI)
  (l:∀v w f,xT kvs k=Z v->d3 X pins σ H f->eu v w->Q w f) (m:∀f,xT kvs k=O->d3 X pins σ (e0 H a (.dK (i1 kvs k z))) f->Q r f):
  ao (model X.prog X.w) A (call (.builtin "dict.setdefault") [.ref a,u,r]) Q E s:=by
 obtain⟨y,hd,i,rel,h⟩:=Ru I.ff e;have G:i.length<=aI:=by rw[<-rel.length];exact y
 have t:(i1 kvs k z).length<=aI:=by have:=zN kvs k z;omega
 have b:=rel.val k;refine hJ nT h.typeIs F.entry_dict_setdefault (F.args_dict_setdefault_3 _ _ _) (kt_meets_setdefault (uP X.prog X.w) a (EC J) hd r) ⟨i,h,G,λw C=>?_,λp j d B=>?_⟩
 .rw[C]at b;cases c:xT kvs k with
  |none=>rw[c]at b;exact b.elim
  |some v=>rw[c]at b;exact l v w _ c (I.rl _) b
 .rw[p]at b;cases c:xT kvs k with
  |some v=>rw[c]at b;exact b.elim
  |none=>have o:∃q,j.get? a=Z q:=let ⟨q,_,_,x,_⟩:=d;⟨q,x⟩;exact m _ c (Hf I (by rw[e];exact True.intro) B o (Np t hd (rel.put k M) d))
def SI(e ty tx:TE):TE:=λσ H Q=>e σ H λx c=>∃a,x=.ref a/\IsD c a/\ty σ c λy d=>tx σ d λz b=>∃kvs k,b a=Z (.dK kvs)/\y=kV k/\kvs.length<aI/\
 (∀v,xT kvs k=Z v->Q v b)/\(xT kvs k=O->Q z (e0 b a (.dK (i1 kvs k z))))
theorem SJ(T:PE X o td)(P:PE X e ty)(R:PE X f tx)(m:M2 X o "setdefault" apos e f cpos):PE X (.Call (.Attribute o "setdefault" apos) [e,f] [] cpos) (SI td ty tx):=by
 intro pins s σ H Q I h;refine jy m.b' m.few m.line jz nT F.type_dict_setdefault (fu (T pins s σ H _ I h) λu s1 zz=>?_);obtain⟨x,p,j,rx,a,G,d,W⟩:=zz;subst G;obtain rfl:u=Value.ref a:=rx;obtain⟨t1,t2,_⟩:=KM j d;refine⟨t1,t2,?_⟩;rw[m.GX];refine gH U (gM (eh (fu (P pins s1 σ p _ j W) λiv s2 ⟨y,q,t,ry,Y⟩=>
  eh (fu (R pins s2 σ q _ t Y) λfv s3 ⟨z,r,B,l,kvs,k,C,J,S,M,N⟩=>fR ?_))))
 subst J;exact ZV B C ry l S (λv w s' c b i=>⟨v,r,b,i,M v c⟩) λs' c b=>⟨z,_,b,l,N c⟩
end
def Bc(a:List ey)(dss:List bh)(k:ey)(d:D):List ey×List bh:=
 if Jq a k=γ then (a,eJ (λc b=>if c=k then b++[d]else b) a dss)else (a++[k],dss++[[d]])
def EO:Jq c k=γ ↔ k∈c:=by unfold Jq;rw[fw];exact⟨λ⟨x,a,b⟩=>bp b▸a,λh=>⟨k,h,aT U⟩⟩
def SK{b:List ey}{a:bJ}:b.length=a.length->xT (b.zip a) k=Z v->∃j:Nat,b[j]?=Z k/\a[j]?=Z v:=by
 induction b generalizing a with
 |nil=>intro _ h;cases h
 |cons l b i=>
  intro c h;cases a with
  |nil=>cases c
  |cons v0 a=>
   unfold xT at h;rw[fi,fz]at h;by_cases e:l=k
   .subst e;simp only[decide_true]at h;cases h;exact⟨0,U,U⟩
   .simp only[e,decide_false]at h;obtain⟨j,d,f⟩:=i (by simpa using c) h;exact⟨j+1,d,f⟩
def SL{a:List ey}{b:bJ}:a.length=b.length->xT (a.zip b) k=O->k∉a:=by
 induction a generalizing b with
 |nil=>intro _ _ h;cases h
 |cons i a f=>
  intro c h d;cases b with
  |nil=>cases c
  |cons v0 b=>
   unfold xT at h;rw[fi,fz]at h;by_cases e:i=k
   .subst e;simp only[decide_true]at h;cases h
   .simp only[e,decide_false]at h;rcases aO.1 d with z|z
    .exact e z.symm
    .exact f (by simpa using c) h z
structure K'(G:Bg)(F:Fr)(H0 H:Hp)(a:Addr)(ks:List ey)(dss:List bh)(bs:List Addr):Prop where
 j1:H a=Z (.dK (ks.zip (bs.map V.ref)))
 n0:H0 a=O
 nB:F.B a=O
 len:ks.length=bs.length
 u?:bs.length=dss.length
 nd:bs.Nodup
 kd:ks.Nodup
 each:∀(i:Nat) (b:Addr) (ds:bh),bs[i]?=Z b->dss[i]?=Z ds->∃xs,H b=Z (.b0 xs)/\H0 b=O/\F.B b=O/\b? G H0 ds xs
section
variable{G:Bg}{F:Fr}{σ:St}{ρ:aU}{H0 H H0' H':Hp}{a:Addr}{ks:List ey}{dss:List bh}{bs:List Addr}
def K'.ix(g:K' G F H0 H a ks dss bs)(hs:uL H H')(h:uL H0 H0')(c:∀b o,H0' b=Z o->H0 b=Z o\/H b=O):K' G F H0' H' a ks dss bs where
 j1:=hs _ _ g.j1
 n0:=by
  cases q:H0' a with
  |none=>rfl
  |some o=>
   rcases c a o q with z|z
   .rw[g.n0]at z;cases z
   .rw[g.j1]at z;cases z
 nB:=g.nB
 len:=g.len
 u?:=g.u?
 nd:=g.nd
 kd:=g.kd
 each:=λi b ds e f=>by
  obtain⟨xs,d,j,l,m⟩:=g.each i b ds e f;refine⟨xs,hs _ _ d,?_,l,b?.mono h _ _ m⟩;cases q:H0' b with
  |none=>rfl
  |some o=>
   rcases c b o q with z|z
   .rw[j]at z;cases z
   .rw[d]at z;cases z
def dd.still(R:dd G F σ ρ H0 H)(no:∀s∈ρ,s.iE=δ):dd G ⟨H0,H,[]⟩ σ ρ H0 H where
 sub:=R.sub
 g0:=uL.refl _
 keep:=λb o e z=>e
 fr:=λb o e=>.inl e
 am:=λa h=>by cases h
 len:=R.len
 sl:=λi s e=>by
  have ok:=R.sl i s e;have n:=no s (cv e);cases s with
  |un=>trivial
  |q d=>exact ok
  |_=>cases n
 ap:=λi j s t b z e z so=>by rw[no s (cv e)]at so;cases so
theorem dd.touch(R:dd G F σ ρ H0 H)(no:∀s∈ρ,s.iE=δ)(c:∀b o,H b=Z o->(H0 b≠O\/F.B b≠O)->H' b=Z o)(ha:∀b o,H b=Z o->∃h,H' b=Z h):dd G F σ ρ H0 H' where
 sub:=λb o e=>c b o (R.sub _ _ e) (.inl (by rw[e];exact λz=>nomatch z))
 g0:=R.g0
 keep:=λb o e n=>c b o (R.keep b o e n) (.inr (by rw[e];exact λz=>nomatch z))
 fr:=R.fr
 am:=λb f=>by obtain⟨o,e⟩:=R.am b f;exact ha b o e
 len:=R.len
 sl:=λi s e=>by
  have ok:=R.sl i s e;have n:=no s (cv e);cases s with
  |un=>trivial
  |q d=>exact ok
  |_=>cases n
 ap:=λi j s t b x e x so=>by rw[no s (cv e)]at so;cases so
def ZZ{bs:List Addr}(h:bs.Nodup){i j:Nat}{b:Addr}(c:bs[i]?=Z b)(d:bs[j]?=Z b):i=j:=by obtain⟨l,e⟩:=ck.1 c;obtain⟨m,f⟩:=ck.1 d;exact(jD h).1 (e.t f.symm)
def Z0{ks:List ey}(h:ks.Nodup){i j:Nat}{b:ey}(c:ks[i]?=Z b)(d:ks[j]?=Z b):i=j:=by obtain⟨l,e⟩:=ck.1 c;obtain⟨m,f⟩:=ck.1 d;exact(jD h).1 (e.t f.symm)
def K'.more(g:K' G F H0 H a ks dss bs){j:Nat}{k:ey}{b:Addr}{d:D}{v:V}{A:bJ}(h:ks[j]?=Z k)(p:bs[j]?=Z b)(l:H b=Z (.b0 A))(J:eg G H0 d v):
  K' G F H0 (e0 H b (.b0 (A++[v]))) a (Bc ks dss k d).1 (Bc ks dss k d).2 bs:=by
 have B:=EO.2 (cv h);unfold Bc;rw[ah B];have I:a≠b:=λz=>by subst z;rw[g.j1]at l;cases l
 refine⟨by rw[uH I];exact g.j1,g.n0,g.nB,g.len,?_,g.nd,g.kd,λi c N o e=>?_⟩
 .rw[kP,<- g.u?,<- g.len,gh,g.len]
 .rw[List.getElem?_zipWith]at e;cases f:ks[i]? with
  |none=>rw[f]at e;cases e
  |some C=>
   cases t:dss[i]? with
   |none=>rw[f,t]at e;cases e
   |some m=>
    rw[f,t]at e;cases e;obtain⟨M,u,w,x,y⟩:=g.each i c m o t;by_cases q:C=k
    .subst q;have r:=Z0 g.kd f h;subst r;rw[o]at p;cases p;rw[u]at l;cases l;rw[ah U];exact⟨_,uz,w,x,wy y (vg J u7)⟩
    .rw[aj q];have E:c≠b:=λz=>by subst z;have r:=ZZ g.nd o p;subst r;rw[f]at h;cases h;exact q U
     exact⟨M,by rw[uH E];exact u,w,x,y⟩
theorem K'.fresh(g:K' G F H0 H a ks dss bs)(t:k∉ks)(q:H p=O)(C:H0 p=O)(hB:F.B p=O)(M:eg G H0 d v):
  K' G F H0 (e0 (e0 (e0 H p (.b0 [])) a (.dK ((ks++[k]).zip ((bs++[p]).map V.ref)))) p (.b0 [v])) a (Bc ks dss k d).1 (Bc ks dss k d).2 (bs++[p]):=by
 have E:=λz=>t (EO.1 z);unfold Bc;rw[aj E];have J:a≠p:=λz=>by subst z;rw[g.j1]at q;cases q
 have w:p∉bs:=λz=>by
  obtain⟨i,l,e⟩:=kQ z;have b:bs[i]?=Z p:=by rw[aM l,e]
  obtain⟨j,f⟩:∃j,dss[i]?=Z j:=⟨dss[i]'(by rw[<-g.u?];exact l),aM _⟩;obtain⟨A,h,_⟩:=g.each i p j b f;rw[q]at h;cases h
 refine⟨by rw[uH J,uz],g.n0,g.nB,by simp[g.len],by simp[g.u?],?_,?_,λi c j b f=>?_⟩
 .rw[cq];refine⟨g.nd,by simp,λx r y m=>?_⟩;rw[bT]at m;subst m;exact λz=>w (z▸r)
 .rw[cq];refine⟨g.kd,by simp,λx r y m=>?_⟩;rw[bT]at m;subst m;exact λz=>t (z▸r)
 .by_cases l:i<bs.length
  .rw[fM l]at b;rw[fM (by rw[<-g.u?];exact l)]at f;obtain⟨A,h,N,P,Q⟩:=g.each i c j b f;have u:c≠p:=λz=>w (z▸cv b);have I:c≠a:=λz=>by subst z;rw[g.j1]at h;cases h
   exact⟨A,by rw[uH u,uH I,uH u];exact h,N,P,Q⟩
  .have o:i=bs.length:=by have:=(ck.1 b).1;rw[aC,c4]at this;omega
   subst o;rw[fL (aL _),qD]at b;rw[g.u?,fL (aL _),qD]at f;cases b;cases f;exact⟨[v],uz,C,hB,vg M u7⟩
def Mb(G:Bg)(b:FE):TS:=Xl (tBM G.K "list" KJ (SI (Ep 1) (tF G b) (tLst KA)) (Gb (Ep 2) KA))
def SM{P:Rn}{l:V}(R:dd G F σ ρ H0 H)(no:∀s∈ρ,s.iE=δ)(h1:σ[1]?=Z (Z (.ref a)))(T:σ[2]?=Z (Z l))(rd:eg G H0 d l)
  (g:K' G F H0 H a ks dss bs) (hk:fk ρ=Z (x,ρ)) (ek:AF x=Z k) (l1:ks.length<1000) (l2:∀i∈dss,i.length<1000)
  (kont:∀C E J,uL H0 C->dd G F σ ρ C E->K' G F C E a (Bc ks dss k d).1 (Bc ks dss k d).2 J->P.nx σ E):Mb G fk P σ H:=by
 refine⟨.ref a,h1,a,U,.inl ⟨_,.inl g.j1⟩,_,_,_,x,ρ,dd.still R no,hk,λv A f s I r=>?_⟩;have X:=λb o e=>I.keep b o e (by simp);have W:=I.fr;have R2:=R.ix X s I.sub W;have t:=g.ix X s W;have u:=eg.mono s _ _ rd;refine⟨bH _,λp h=>?_⟩;have np:a≠p:=λz=>by subst z;rw[t.j1]at h;cases h
 have Q:dd G F σ ρ A (e0 f p (.b0 [])):=R2.f? h _;have g3:K' G F A (e0 f p (.b0 [])) a ks dss bs:=t.ix (uJ h _) (uL.refl _) λb o e=>.inl e;have lz:(ks.zip (bs.map V.ref)).length<aI:=by rw[gU,af,<- g.len,gh,bU];omega
 refine⟨_,k,g3.j1,Bb r ek,lz,λw B=>?_,λB=>?_⟩
 .obtain⟨j,e1,m⟩:=SK (by rw[af];exact g.len) B;rw[bu]at m;cases q:bs[j]? with
  |none=>rw[q]at m;cases m
  |some b=>
   rw[q]at m;cases m;obtain⟨i,S⟩:∃i,dss[j]?=Z i:=⟨dss[j]'(by rw[<-g.u?];exact(ck.1 q).1),aM _⟩;obtain⟨N,M,w2,w3,w4⟩:=g3.each j b i q S;have lx:N.length<aI:=by rw[<-uB w4,bU];have:=l2 i (cv S);omega
   refine⟨.inl ⟨U,N,fx.of M⟩,l,T,b,N,l,U,U,M,lx,?_⟩;refine kont A _ bs s (dd.touch Q no (λc o e z=>?_) λc o e=>?_) (g3.more e1 q M u)
   .have nc:c≠b:=λy=>by
     subst y;rcases z with z|z
     .exact z w2
     .exact z w3
    rw[uH nc];exact e
   .by_cases y:c=b
    .subst y;exact⟨_,uz⟩
    .rw[uH y];exact⟨o,e⟩
 .have nk:=SL (by rw[af];exact g.len) B;have h0p:=R2.e7 h;have hBp:=R2.gk h;have ez:i1 (ks.zip (bs.map V.ref)) k (.ref p)=(ks++[k]).zip ((bs++[p]).map V.ref):=by rw[Rt _ B,aZ,lG (by rw[af];exact g.len)];rfl
  rw[ez];have Y:e0 (e0 f p (.b0 [])) a (.dK ((ks++[k]).zip ((bs++[p]).map V.ref))) p=Z (.b0 []):=by rw[uH (λz=>np z.symm),uz]
  refine⟨.inl ⟨U,[],fx.of Y⟩,l,T,p,[],l,U,U,Y,by rw[bU];decide,?_⟩;refine kont A _ (bs++[p]) s (dd.touch Q no (λc o e z=>?_) λc o e=>?_) (t.fresh nk h h0p hBp u)
  .have n1:c≠p:=λy=>by
    subst y;rcases z with z|z
    .exact z h0p
    .exact z hBp
   have n2:c≠a:=λy=>by
    subst y;rcases z with z|z
    .exact z t.n0
    .exact z t.nB
   rw[cu,uH n1,uH n2];exact e
  .by_cases y:c=p
   .subst y;exact⟨_,uz⟩
   .rw[uH y];by_cases y2:c=a
    .subst y2;exact⟨_,uz⟩
    .rw[uH y2];exact⟨o,e⟩
end
def Cq(b:D->Option D):bh->List ey->List bh->Option (List ey×List bh)
 |[],a,dss=>Z (a,dss)
 |d::r,a,dss=>match b d with
  |some x=>match AF x with
   |some k=>if (decide (a.length<1000)&&dss.all λc=>decide (c.length<1000))=γ then Cq b r (Bc a dss k d).1 (Bc a dss k d).2 else O
   |none=>O
  |none=>O
def NQ(b:D->Option D):FS:=λc=>match c with
 |[.q (.b0 L),.un,.un]=>match Cq b L [] []with
  |some (a,dss)=>Z (.rt (.J a (dss.map .b0)) [.q (.b0 L),.un,.un])
  |none=>O
 |_=>O
section
variable{X:Cx}{G:Bg}
theorem Gp:∀(bs:List Addr) (dss:List bh),bs.length=dss.length->(∀(i:Nat) (b:Addr) (a:bh),bs[i]?=Z b->dss[i]?=Z a->∃c,d b=Z (.b0 c)/\b? G d a c)->
  b? G d (dss.map .b0) (bs.map V.ref)
 |[],[],_,_=>u7
 |[],_::_,h,_=>by cases h
 |_::_,[],h,_=>by cases h
 |b::bs,a::dss,h,k=>by obtain⟨c,j,l⟩:=k 0 b a U U;exact vg (Di j l) (Gp bs dss (by simpa using h) λi b a e f=>k (i+1) b a e f)
theorem Wm(R:dd G F σ [.q (.b0 L),.un,s2] H0 H)(g:K' G F H0 H a ks dss bs)(o:Obj):
  ∃w,uL H0 w/\dd G F σ [.q (.b0 L),.un,.un] w (e0 H a (.n9 o (.dK (ks.zip (bs.map V.ref)))))/\eg G w (.J ks (dss.map .b0)) (.ref a):=by
 have x:∀{b:Addr},b∈bs->∃xs,H b=Z (.b0 xs)/\H0 b=O/\F.B b=O:=λ{b} p=>by obtain⟨i,hi,e⟩:=kQ p;obtain⟨xs,h,m,r,_⟩:=g.each i b (dss[i]'(by rw[<-g.u?];exact hi)) (by rw[aM hi,e]) (aM _);exact⟨xs,h,m,r⟩
 have na:a∉bs:=λz=>by obtain⟨xs,h,_⟩:=x z;rw[g.j1]at h;cases h
 have q:uL H0 (λc=>if c=a then Z (.n9 o (.dK (ks.zip (bs.map V.ref))))else if c∈bs then H c else H0 c):=λc u e=>by
  have f:c≠a:=λz=>by subst z;rw[g.n0]at e;cases e
  have l:c∉bs:=λz=>by obtain⟨_,_,m,_⟩:=x z;rw[m]at e;cases e
  show (if c=a then _ else if c∈bs then H c else H0 c)=_;rw[aj f,aj l];exact e
 refine⟨_,q,?_,?_⟩
 .exact {
   sub:=λc u e=>by
    have d:(if c=a then Z (HO.n9 o (.dK (ks.zip (bs.map V.ref))))else if c∈bs then H c else H0 c)=Z u:=e;by_cases f:c=a
    .subst f;rw[ah U]at d;rw[uz];exact d
    .rw[aj f]at d;rw[uH f];by_cases l:c∈bs
     .rw[ah l]at d;exact d
     .rw[aj l]at d;exact R.sub _ _ d
   g0:=R.g0.t q
   keep:=λc u e n=>by rw[uH (λz=>by subst z;rw[g.nB]at e;cases e)];exact R.keep c u e n
   fr:=λc u e=>by
    have d:=e;by_cases f:c=a
    .subst f;exact .inr g.nB
    .rw[aj f]at d;by_cases l:c∈bs
     .obtain⟨_,_,_,r⟩:=x l;exact .inr r
     .rw[aj l]at d;exact R.fr _ _ d
   am:=λc C=>by
    by_cases f:c=a
    .subst f;exact⟨_,uz⟩
    .rw[uH f];exact R.am c C
   len:=R.len
   sl:=λi s e=>by
    match i,e with
    |0,e=>cases e;obtain⟨v,h,m⟩:=R.sl 0 _ U;exact⟨v,h,eg.mono q _ _ m⟩
    |1,e=>cases e;trivial
    |2,e=>cases e;trivial
    |i+3,e=>cases e
   ap:=λi j s t b _ e _ so=>by
    match i,e with
    |0,e=>cases e;cases so
    |1,e=>cases e;cases so
    |2,e=>cases e;cases so
    |i+3,e=>cases e }
 .unfold eg;refine⟨a,o,bs.map V.ref,U,by show (if a=a then _ else _)=_;rw[ah U],by rw[af];exact g.len,Gp bs dss g.u? λi b ds y A=>?_⟩;obtain⟨xs,h,m,r,I⟩:=g.each i b ds y A;have p:=cv y;refine⟨xs,?_,b?.mono q _ _ I⟩;have E:b≠a:=λz=>na (by rw[<-z];exact p);rw[aj E,ah p];exact h
def SN{L:bh}{b:Sl}(h:b.iE=δ):∀s∈[Sl.q (.b0 L),.un,b],s.iE=δ:=λs a=>by
 simp only[aO,cy,or_false]at a;rcases a with rfl|rfl|rfl
 .rfl
 .rfl
 .exact h
inductive GI(G:Bg) (F:Fr) (Ha:Hp) (p:Addr) (L:bh) (vk:D->Option D) (KS:List ey) (DSS:List bh) (i:Nat) (σ':St) (H':Hp):Prop
 |mk (Hi:Hp) (ks:List ey) (dss:List bh) (bs:List Addr) (s2:Sl):uL Ha Hi->Sl.iE s2=δ->dd G F σ' [.q (.b0 L),.un,s2] Hi H'->σ'[1]?=Z (Z (.ref p))->K' G F Hi H' p ks dss bs->Cq vk (L.drop i) ks dss=Z (KS,DSS)->GI G F Ha p L vk KS DSS i σ' H'
set_option tactic.hygienic true
def Qs(h1:PS X st1 (Es Nq (zM 1)))(h2:PS X st2 (Yz (Rl G (iL (cV 0))) (zM 2) (Mb G (c1 f (cV 2)))))
  (h3:PS X st3 (tRet (λC H Q=>Ep 1 C H λx I=>Q x I\/∃a kvs,I a=Z (.dK kvs)/\∀o,Q x (e0 I a (.n9 o (.dK kvs)))))):n? X [st1,st2,st3] (ma G (NQ f)):=
 n?.eb (Ht h1 (Ht h2 (Kw h3))) λE C H hh=>by
  obtain⟨F,ρ,H0,o,R,e,k,k2⟩:=hh;unfold NQ at e;split at e
  .rename_i L;cases P:Cq f L [] []with
   |none=>simp only[P]at e;cases e
   |some p=>
    obtain⟨KS,DSS⟩:=p;simp only[P]at e;cases e;intro p hp;have R1:=(R.f? hp (.dK [])).set (i:=1) (v:=.ref p) (s:=.un) trivial (λz=>by cases z);have t:C.length=3:=R.len;have g1:K' G F H0 (e0 H p (.dK [])) p [] [] []:=⟨uz,R.e7 hp,R.gk hp,U,U,lY,lY,λi b ds e1=>by cases e1⟩;have v1:(C.set 1 (Z (V.ref p)))[1]?=Z (Z (.ref p)):=by rw[jm (by rw[t];decide)]
    refine⟨_,_,_,L,_,dd.still R1 (SN U),U,λJ M Hb s A wk=>?_⟩;have hs:=λb o e=>A.keep b o e (by simp);have R2:=R1.ix hs s A.sub A.fr;have g2:=g1.ix hs s A.fr;refine⟨λi m w h=>m=L.length - i/\i<=L.length/\GI G F M p L f KS DSS i w h,
     ⟨_,U,bH _,M,[],[],[],.un,uL.refl _,U,R2,v1,g2,P⟩,?_⟩
    rintro i m d j ⟨rfl,hi,Hi,ks,dss,bs,s2,B,n2,l,vi,W,c⟩;by_cases hlt:i<L.length
    .have ed:=jg hlt;rw[ed]at c;unfold Cq at c;cases T:f L[i]with
     |none=>simp only[T]at c;cases c
     |some x=>
      simp only[T]at c;cases S:AF x with
      |none=>simp only[S]at c;cases c
      |some kk=>
       simp only[S]at c;split at c
       .rename_i Y;simp only[aQ,bz,aH]at Y;obtain⟨go,yl⟩:=(wk i Hi j B l.sub).1 L[i] (aM hlt);refine .inr ⟨go,GI G F M p L f KS DSS (i+1),
         λw h q=>⟨L.length - (i+1),by omega,U,hlt,q⟩,λu h y=>?_⟩
        obtain⟨H2,t1,t2,t3,t4,t5⟩:=yl u h y;have hl3:d.length=3:=l.len;have R3:dd G F (d.set 2 (Z u)) [.q (.b0 L),.un,.q L[i]] H2 h:=(l.ix t3 t1 t2 t4).Z' 2 t5;have w1:(d.set 2 (Z u))[1]?=Z (Z (.ref p)):=by rw[kI (by decide)];exact vi
        have w2:(d.set 2 (Z u))[2]?=Z (Z u):=by rw[jm (by rw[hl3];decide)]
        refine SM R3 (SN U) w1 w2 t5 (W.ix t3 t1 t4) (by show c1 f (cV 2) _=_;unfold c1 cV;simp only[List.getElem?_cons_succ,List.getElem?_cons_zero,T]) S Y.1 (λds hd=>Y.2 ds hd) λHc Hd N sc Rc gc=>?_;exact⟨Hc,_,_,N,_,B.t (t1.t sc),U,Rc,w1,gc,c⟩
       .cases c
    .have r:i=L.length:=by omega
     refine .inl ⟨(wk i Hi j B l.sub).2 r,?_⟩;subst r;rw[List.drop_length]at c;cases c;refine⟨.ref p,vi,.inr ⟨p,_,W.j1,λo=>?_⟩⟩;obtain⟨Hq,q1,q2,q3⟩:=Wm l W o;exact k _ _ Hq _ (s.t (B.t q1)) q2 q3
  .cases e
end
set_option tactic.hygienic false
section
variable{X:Cx}{G:Bg}
def Wn:∀y b,v7 "int" y=Z b->cQ X.K (y.val G) (.type "int")=Z b:=HX (by kernel_rfl)
def SO:∀y b,v7 "bool" y=Z b->cQ X.K (y.val G) (.type "bool")=Z b:=HX (by kernel_rfl)
def U?:∀y b,v7 "tuple" y=Z b->cQ X.K (y.val G) (.type "tuple")=Z b:=HX (by kernel_rfl)
end
def J'(F:Fr)(p:Addr)(o:HO):Fr:=⟨F.B0,λb=>if b=p then Z o else F.B b,F.A⟩
def Hh:(J' F p o).B p=Z o:=by show (if p=p then _ else _)=_;rw[ah U]
theorem Dm(h:b≠p):(J' F p o).B b=F.B b:=by show (if b=p then _ else _)=_;rw[aj h]
theorem DY.frame{m:Fr}(h:DY G F r H o s)(hA:m.A=F.A)(hB:∀a,o=Z (.ref a)->s.iE=γ->F.B a=O->m.B a=O):DY G m r H o s:=by
 cases s with
 |un=>trivial
 |q d=>exact h
 |M p=>obtain⟨a,l,b,e,f,i,j⟩:=h;exact⟨a,l,b,e,f,hB a b U i,j⟩
 |pm p=>obtain⟨a,l,b,e,f,i,j⟩:=h;exact⟨a,l,b,e,f,by rw[hA];exact i,j⟩
 |dk u p=>obtain⟨a,l,b,e,f,i,j,q⟩:=h;exact⟨a,l,b,e,f,hB a b U i,j,q⟩
 |ob c w p=>obtain⟨a,t,l,b,e,f,i,j,q⟩:=h;exact⟨a,t,l,b,e,f,by rw[hA];exact i,j,q⟩
section
variable{X:Cx}{G:Bg}{F:Fr}{σ:St}{ρ:aU}{H0 H:Hp}{p:Addr}{o:HO}
theorem dd.J'(R:dd G F σ ρ H0 H)(c:H p=O)(o:HO):dd G (L4.J' F p o) σ ρ H0 (e0 H p o) where
 sub:=(R.f? c o).sub
 g0:=R.g0
 keep:=λb u e n=>by
  by_cases d:b=p
  .subst d;rw[Hh]at e;rw[uz];exact e
  .rw[Dm d]at e;exact(R.f? c o).keep b u e n
 fr:=λb u e=>by
  have d:b≠p:=λz=>by subst z;rw[R.e7 c]at e;cases e
  rw[Dm d];exact R.fr b u e
 am:=(R.f? c o).am
 len:=R.len
 sl:=λi s e=>by refine DY.frame ((R.f? c o).sl i s e) U λa j so hB=>?_;obtain⟨l,u,f,h,_⟩:=(R.sl i s e).at so;rw[j]at f;cases f;rw[Dm (λz=>by subst z;rw[c]at h;cases h)];exact hB
 ap:=R.ap
theorem dd.C'(R:dd G (L4.J' F p o) σ ρ H0 H)(hB:F.B p=O):dd G F σ ρ H0 H where
 sub:=R.sub
 g0:=R.g0
 keep:=λb u e n=>R.keep b u (by rw[Dm (λz=>by subst z;rw[hB]at e;cases e)];exact e) n
 fr:=λb u e=>by
  rcases R.fr b u e with z|z
  .exact .inl z
  .by_cases c:b=p
   .subst c;exact .inr hB
   .rw[Dm c]at z;exact .inr z
 am:=R.am
 len:=R.len
 sl:=λi s e=>DY.frame (R.sl i s e) U λa d so q=>by
  by_cases c:a=p
  .subst c;exact hB
  .rw[Dm c]at q;exact q
 ap:=R.ap
theorem dd.layHeld(R:dd G (L4.J' F p o) σ ρ H0 H)(hB:F.B p=O)(f:H0 p=O)(nA:p∉F.A)(u:HO):dd G F σ ρ (e0 H0 p u) (e0 H p u) where
 sub:=λb v e=>by
  by_cases c:b=p
  .subst c;rw[uz]at e ⊢;exact e
  .rw[uH c]at e ⊢;exact R.sub _ _ e
 g0:=(dd.C' R hB).g0.t (uJ f u)
 keep:=λb v e n=>by rw[uH (λz=>by subst z;rw[hB]at e;cases e)];exact(dd.C' R hB).keep b v e n
 fr:=λb v e=>by
  by_cases c:b=p
  .subst c;exact .inr hB
  .rw[uH c]at e;exact(dd.C' R hB).fr _ _ e
 am:=λb c=>by
  have d:b≠p:=λz=>by subst z;exact nA c
  rw[uH d];exact R.am b c
 len:=R.len
 sl:=λj t e=>by
  have ne:∀a,(σ[j]?).join=Z (.ref a)->t.iE=γ->a≠p:=λa z to y=>by
   subst y;obtain⟨m,v,h,_,_,l⟩:=(R.sl j t e).at to;rw[z]at h;cases h;rcases l with q|q
   .rw[Hh]at q;cases q
   .exact nA q
  refine((dd.C' R hB).sl j t e).ix (uJ f u) (λa v z to q=>?_) λa v z to q i=>?_
  .rw[uH (ne a z to)];exact q
  .rw[uH (ne a z to)];exact i
 ap:=R.ap
def Bd:List (Str×FE)->aU->Option (bh×aU)
 |[],ρ=>Z ([],ρ)
 |(_,f)::r,ρ=>match f ρ with
  |some (d,a)=>match Bd r a with
   |some (c,b)=>Z (d::c,b)
   |none=>O
  |none=>O
def SQ(G:Bg)(kfs:List (Str×FE)):List (TE×TE):=kfs.map λq=>(tC (.str q.1),tF G q.2)
theorem Mc:∀(kfs:List (Str×FE)) (ρ b:aU) (i:bh) (H0 H:Hp) (Q:List (V×V)->Hp->Prop),dd G F σ ρ H0 H->Bd kfs ρ=Z (i,b)->
  (∀j h a,uL H0 h->dd G F σ b h a->b? G h i j->Q (eJ (λk v=>(V.str k,v)) (kfs.map (·.1)) j) a)->KL (SQ G kfs) σ H Q
 |[],ρ,b,i,H0,H,Q,R,e,k=>by cases e;exact k [] H0 H (uL.refl _) R u7
 |(x,f)::r,ρ,b,i,H0,H,Q,R,e,k=>by
  unfold Bd at e;cases t:f ρ with
  |none=>simp only[t]at e;cases e
  |some q=>
   obtain⟨d,c⟩:=q;simp only[t]at e;cases u:Bd r c with
   |none=>simp only[u]at e;cases e
   |some q=>obtain⟨m,B⟩:=q;simp only[u]at e;cases e;refine⟨F,ρ,H0,d,c,R,t,λv h a s z A=>?_⟩;exact Mc r c _ m h a _ z u λj y l w R2 rs=>k (v::j) y l (s.t w) R2 (vg (eg.mono w _ _ A) rs)
theorem Mg:∀(more acc:List (ey×V)),((acc++more).map (·.1)).Nodup->DX acc more=acc++more
 |[],acc,_=>by rw[b9];rfl
 |q::r,acc,h=>by
  have c:(acc.any λkv=>decide (kv.1=q.1))=δ:=by rw[iF];intro z;obtain⟨y,b,a⟩:=fw.1 z;rw[aZ,cq]at h;exact h.2.2 y.1 (bZ b) q.1 (bZ aY) (bp a)
  have e:i1 acc q.1 q.2=acc++[q]:=by unfold i1;rw[c];rfl
  show DX (i1 acc q.1 q.2) r=_;rw[e,Mg r (acc++[q]) (by simpa using h)];simp
def Qt:e0 (e0 H p x) p y=e0 H p y:=by
 funext b
 by_cases a:b=p
 .subst a;rw[uz,uz]
 .rw[uH a,uH a,uH a]
def Gq(kfs:List (Str×FE)):FE:=λρ=>match Bd kfs ρ with
 |some (b,a)=>Z (.J (kfs.map λq=>Sum.inr q.1) b,a)
 |none=>O
theorem Ig:∀{kfs:List (Str×FE)} {ρ a:aU} {b:bh},Bd kfs ρ=Z (b,a)->b.length=kfs.length
 |[],ρ,a,b,e=>by cases e;rfl
 |(x,f)::r,ρ,a,b,e=>by
  unfold Bd at e;cases i:f ρ with
  |none=>simp only[i]at e;cases e
  |some q=>
   obtain⟨d,h⟩:=q;simp only[i]at e;cases c:Bd r h with
   |none=>simp only[c]at e;cases e
   |some q=>obtain⟨j,l⟩:=q;simp only[c]at e;cases e;rw[aP,aP,Ig c]
theorem Mh:∀(a:aB) (b:bJ),eJ (λk v=>(V.str k,v)) a b=((a.map λk=>(Sum.inr k:ey)).zip b).map λkv=>(kV kv.1,kv.2)
 |[],b=>rfl
 |k::a,[]=>rfl
 |k::a,v::b=>by show (V.str k,v)::_=_;rw[Mh a b];rfl
theorem Wp(h:PE X e (Xu (SQ G kfs)))(x:(kfs.map λq=>(Sum.inr q.1:ey)).Nodup)(l:kfs.length<=15):PE X e (tF G (Gq kfs)):=PE.eb (PE.θ h) λσ H Q t=>by
 obtain⟨F,ρ,H0,d,E,R,e,k⟩:=t;unfold Gq at e;cases a:Bd kfs ρ with
 |none=>simp only[a]at e;cases e
 |some q=>
  obtain⟨r,I⟩:=q;simp only[a]at e;cases e;intro p b;have hB:F.B p=O:=R.gk b;have nA:p∉F.A:=λz=>by obtain⟨u,q⟩:=R.am p z;rw[b]at q;cases q
  refine Mc kfs ρ _ r H0 _ _ (dd.J' R b (.dK [])) a λc m f s i rs=>?_;have C:f p=Z (.dK []):=i.keep p _ Hh nA;have j:m p=O:=by
   cases q:m p with
   |none=>rfl
   |some u=>
    rcases i.fr p u q with z|z
    .have:=R.g0 _ _ z;rw[R.e7 b]at this;cases this
    .rw[Hh]at z;cases z
  have lv:(kfs.map λq=>(Sum.inr q.1:ey)).length=c.length:=by rw[af,<- Ig a,uB rs]
  have w:(((kfs.map λq=>(Sum.inr q.1:ey)).zip c).map (·.1))=kfs.map λq=>(Sum.inr q.1:ey):=List.map_fst_zip (by rw[lv];exact aL _)
  refine⟨C,(kfs.map λq=>(Sum.inr q.1:ey)).zip c,?_,?_,.inr ⟨p,_,uz,λy=>?_⟩⟩
  .rw[Mh,aW];rfl
  .rw[gU,<- lv,gh,af];exact l
  .rw[Qt,Mg _ [] (by rw[cu,w];exact x),cu];refine k _ _ _ (s.t (uJ j _)) (dd.layHeld i hB j nA _) ?_;unfold eg;exact⟨p,y,c,U,uz,lv,b?.mono (uJ j _) _ _ rs⟩
end
end L4
namespace L4
open PySem PySem.Spec PySem.Calls PyProof.Rows PySem.W L2 L3
def Qu{b:Type}(c:Nat->Nat->Bool):KasT b->b
 |.ret a=>a
 |.ask i j k=>Qu c (k (c i j))
def zq{c:Type}(P:Nat->Nat->Prop)(R:c->Prop):KasT c->Prop
 |.ret a=>R a
 |.ask i j k=>P i j/\∀b,zq P R (k b)
theorem zq.run{b:Type}{P:Nat->Nat->Prop}{R:b->Prop}(c:Nat->Nat->Bool):∀(t:KasT b),zq P R t->R (Qu c t)
 |.ret a,h=>h
 |.ask i j k,h=>zq.run c (k (c i j)) (h.2 (c i j))
theorem zq.bind{c e:Type}{P:Nat->Nat->Prop}{R:c->Prop}{S:e->Prop}{f:c->KasT e}(d:∀a,R a->zq P S (f a)):∀{t:KasT c},zq P R t->zq P S (t.bind f)
 |.ret a,h=>d a h
 |.ask i j k,h=>⟨h.1,λb=>zq.bind d (h.2 b)⟩
theorem OQ{b:Type}{cmp:Nat->Nat->(Bool->ae->Prop)->ae->Prop}{c:Nat->Nat->Bool}{P:Nat->Nat->Prop}{s:ae}{Q:b->ae->Prop}(d:∀i j C,P i j->C (c i j) s->cmp i j C s):
  ∀{R:b->Prop} {t:KasT b},zq P R t->Q (Qu c t) s->t.kasWp cmp Q s
 |R,.ret a,_,q=>q
 |R,.ask i j k,h,q=>d i j _ h.1 (OQ d (h.2 (c i j)) q)
def xj(n:Nat)(p:Array Nat):Prop:=p.toList.Perm (az n)
set_option tactic.hygienic true
theorem xj.getD(h:xj n p)(a:0<n)(i:Nat):p.getD i 0<n:=by
 unfold Array.getD;split
 .rename_i b;have:p[i]∈p.toList:=by simp
  exact bA.1 (h.mem_iff.1 this)
 .exact a
set_option tactic.hygienic false
def xj.rev(h:xj n p)(i j:Nat):xj n (kas_rev p i j):=by exact(nD.1 (foldl_swaps_perm _ _ _ _)).t h
def xj.bub(h:xj n p)(i j:Nat):xj n (bubble p i j):=(nD.1 (bubble_perm _ _ _)).t h
abbrev In2(n:Nat):Nat->Nat->Prop:=λi j=>i<n/\j<n
theorem KZ(a:0<n)(h:xj n p):∀f k,zq (In2 n) (λz=>True) (kas_asc p f k)
 |0,k=>trivial
 |f+1,k=>⟨⟨h.getD a _,h.getD a _⟩,λb=>by cases b<;>first|exact trivial|exact KZ a h f (k+1)⟩
theorem ER(a:0<n):∀f (p:Array Nat) k q,xj n p->zq (In2 n) (λr=>xj n r.1) (kas_desc f p k q)
 |0,p,k,q,h=>h
 |f+1,p,k,q,h=>⟨⟨h.getD a _,h.getD a _⟩,λb=>by
   cases b with
   |true=>
    split
    .exact ER a f _ _ _ (h.rev _ _)
    .exact ER a f _ _ _ h
   |false=>
    refine⟨⟨h.getD a _,h.getD a _⟩,λd=>?_⟩;cases d with
    |true=>exact h
    |false=>exact ER a f _ _ _ h⟩
def Mi(b:0<n)(h:xj n p)(k m:Nat):zq (In2 n) (λr=>xj n r.2) (kas_tail3 k m p):=
 zq.bind (S:=λ(r:Nat×Array Nat)=>xj n r.2) (f:=λm=>.ret (m,kas_rev p 0 k)) (λa z=>h.rev 0 k) (KZ b (h.rev 0 k) _ _)
def ES(a:0<n)(h:xj n p)(k m:Nat):zq (In2 n) (λr=>xj n r.2) (kas_descPart k m p):=
 zq.bind (λr b=>by
  split
  .exact Mi a (b.rev _ _) _ _
  .exact Mi a b _ _) (ER a _ p _ _ h)
def Qv(a:0<n)(h:xj n p)(m:Nat):zq (In2 n) (λr=>xj n r.2) (kas_count m p):=
 zq.bind (λk z=>by
  split
  .exact h
  .split
   .refine⟨⟨h.getD a _,h.getD a _⟩,λb=>?_⟩;cases b with
    |true=>exact h
    |false=>exact ES a (h.rev _ _) _ _
   .exact ES a h _ _) (KZ a h _ _)
theorem FL(a:0<n)(h:xj n p)(k:Nat):∀f l r,zq (In2 n) (λz=>True) (kas_place p k f l r)
 |0,l,r=>trivial
 |f+1,l,r=>by
  unfold kas_place;split
  .trivial
  .refine⟨⟨h.getD a _,h.getD a _⟩,λb=>?_⟩;cases b with
   |true=>exact FL a h k f _ _
   |false=>exact FL a h k f _ _
theorem OR(a:0<n):∀f (p:Array Nat) k,xj n p->zq (In2 n) (xj n) (kas_bin f p k)
 |0,p,k,h=>h
 |f+1,p,k,h=>zq.bind (λl z=>OR a f _ _ (h.bub _ _)) (FL a h k _ _ _)
def Ih(a:0<n):zq (In2 n) (xj n) (jX n):=
 zq.bind (λr b=>by
  split
  .exact OR a _ _ _ b
  .exact b) (Qv a (by unfold xj;exact List.Perm.refl _) n)
def Dn(a:Addr)(h c:Heap):Prop:=∀b o,b≠a->h.get? b=Z o->c.get? b=Z o
section
variable{prog:aJ}{w:aA}{A:aK}{E:ab->ae->Prop}{s:ae}
def FM(c:Nat->Nat->Bool)(a:List ab):List ab:=(Qu c (jX a.length)).toList.map λi=>a.getD i Value.none
def SR(c:Nat->Nat->Bool)(a:List ab)(h:0<a.length):(FM c a).length=a.length:=by unfold FM;rw[af];have:=(Ih h).run c _;rw[this.length_eq,bF]
def SU(c:Nat->Nat->Bool)(v:ab):FM c [v]=[v]:=rfl
def SV{vs:List ab}(M:s.heap.get? a=Z (seqObj "list" vs.toArray n))(B:0<vs.length)(F:vs.length<64)
  (Y:∀(h':Heap) (C:SortKind->ae->Prop),Dn a s.heap h'->C T { s with heap:=h' }->ao (model prog w) A (keyKind' vs.toArray) C (λ_ _=>False) { s with heap:=h' })
  (X:∀(h':Heap) (i j:Nat) (C:Bool->ae->Prop),Dn a s.heap h'->i<vs.length/\j<vs.length->C (c i j) { s with heap:=h' }->jZ prog w A T vs i j C { s with heap:=h' })
  (h:∀h' e,Dn a s.heap h'->h'.get? a=Z (seqObj "list" (FM c vs).toArray e)->P (.done (.ret .none)) { s with heap:=h' }):
  ao (model prog w) A (eU.«list.sort» ⟨[.ref a],[]⟩) P E s:=by
 obtain⟨z,S⟩:∃z,(s.heap.update a (dX λ_=>(#[]:Array ab))).get? a=Z (seqObj "list" #[] z):=⟨_,pX M λ_=>#[]⟩;generalize hw:((s.heap.update a (dX λ_=>(#[]:Array ab))).push (seqObj "tuple" vs.toArray 0)).push (seqObj "list" #[] 0)=d;have N:Dn a s.heap d:=λb o u q=>by rw[<-hw];exact aN _ (aN _ ((ir s.heap _ (dw u)).t q))
 have t:d.get? a=Z (seqObj "list" #[] z):=by rw[<-hw];exact aN _ (aN _ S)
 rw[list_sort_plain];refine ag (listItems_at M U (ag (l7 M U ?_ (by rw[bj,bU];omega) (bH _))));refine ag (mG S U (ag (qg ?_ (by show vs.length<=_;rw[bU];omega))));refine ag (l8 (cF ?_) (bH _));rw[hw];obtain⟨c2,I⟩:∃c2,(d.update a (dX λ_=>(FM c vs).toArray)).get? a=Z (seqObj "list" (FM c vs).toArray c2):=⟨_,pX t λ_=>(FM c vs).toArray⟩;have fin:=h _ c2 (λb o u q=>(ir d _ (dw u)).t (N b o u q)) I;have szo:(FM c vs).toArray.size<=aI+1:=by rw[bj,SR c vs B,bU];omega
 by_cases R:2<=vs.length
 .have m:¬vs.toArray.size<2:=by rw[bj];omega
  rw[aj m,aj m];refine ag (cn (Y d (λk l=>k=T/\l={ s with heap:=d }) N ⟨U,U⟩) ?_ λ_ _ x=>x.elim);rintro k l ⟨rfl,rfl⟩;refine ag (cn (kat_run (Q:=λf l=>l={ s with heap:=d }/\(arrOf f).map (·.2)=(FM c vs).toArray/\failedOf f=O) (G:=λp l=>p=Qu c (jX vs.length)/\l={ s with heap:=d }) U R F ?_ ?_) ?_ λ_ _ e=>e)
  .rintro p f l _ har J ⟨rfl,rfl⟩;exact⟨U,kat_snds U har,J⟩
  .exact OQ (λi j C q r=>X d i j C N q r) (Ih B) ⟨U,U⟩
  .rintro⟨⟨⟩,f⟩ l ⟨rfl,H,J⟩;refine ag (mG t U ?_);rw[H,J];refine ag (l7 t U ?_ (bH _) szo);simp only[bne_self_eq_false,fQ,if_false];exact aq fin
 .obtain⟨v,rfl⟩:∃v,vs=[v]:=by
   cases vs with
   |nil=>cases B
   |cons v r=>
    cases r with
    |nil=>exact⟨v,U⟩
    |cons x y=>exact ar (by simp) R
  refine ag (aq ?_);refine ag (aq ?_);refine ag (mG t U ?_);have W:qZ (λx=>x.snd) (arrOf ((),SortSt.mk' general' (#[v].zip #[v]) #[] 7 O).snd)=(FM c [v]).toArray:=by rw[SU];show qZ (λx=>x.snd) (#[v].zip #[v])=#[v];simp
  rw[W];refine ag (l7 t U ?_ (bH _) szo);simp only[bne_self_eq_false,fQ,if_false];exact aq fin
def NR{vs:List ab}(hT:T="list" \/ T="tuple")(u:s.heap.get? l=Z o)(hcl:o.cls=.type T)(hd:o.data=.seq vs.toArray n)(m:0<vs.length)(f:vs.length<64)
  (t:∀(h':Heap) (C:SortKind->ae->Prop),(∀b o,s.heap.get? b=Z o->h'.get? b=Z o)->C κ { s with heap:=h' }->ao (model prog w) A.in1.in1 (keyKind' vs.toArray) C (λx x=>False) { s with heap:=h' })
  (p:∀(h':Heap) (i j:Nat) (C:Bool->ae->Prop),(∀b o,s.heap.get? b=Z o->h'.get? b=Z o)->i<vs.length/\j<vs.length->C (c i j) { s with heap:=h' }->jZ prog w A.in1.in1 κ vs i j C { s with heap:=h' })
  (h:∀(g h':Heap) e,(∀b o,s.heap.get? b=Z o->g.get? b=Z o)->(∀b o,g.get? b=Z o->h'.get? b=Z o)->h'.get? g.objs.size=Z (seqObj "list" (FM c vs).toArray e)->Q (.ref g.objs.size) { s with heap:=h' }):
  ao (model prog w) A (call (.builtin "sorted") [.ref l]) Q E s:=by
 refine nE kind_sorted plain_sorted entry_sorted (args_sorted1 _) ?_;refine ag (aq (ag (wpAny_collect_seq l hT u hcl hd (λg d=>?_) (by rw[bU];simp;omega))));refine ag (l8 ?_ (by rw[bU];simp;omega));have on:(g.push (seqObj "list" vs.toArray 0)).get? g.objs.size=Z (seqObj "list" vs.toArray 0):=bx _ U;have all:∀h',Dn g.objs.size (g.push (seqObj "list" vs.toArray 0)) h'->∀b o,g.get? b=Z o->h'.get? b=Z o:=λh' a b o q=>a b o (bc (aV q)) (aN _ q)
 refine ag (cF (fo qh ⟨_,on,U⟩ pY ?_ (qj _)));refine SV on m f (λh' C a q=>t h' C (λb o z=>all h' a b o (d b o z)) q) (λh' i j C a q r=>p h' i j C (λb o z=>all h' a b o (d b o z)) q r) λh' e a q=>?_;exact⟨_,U,aq ⟨_,U,h g h' e d (all h' a) q⟩⟩
end
def ltS(a b:Str):Bool:=decide (a.cps.toList<b.cps.toList)
def Jr:aB->aB->Bool
 |[],[]=>δ
 |[],_::_=>γ
 |_::_,[]=>δ
 |x::a,y::b=>if x=y then Jr a b else ltS x y
inductive zO:List ab->aB->Prop
 |nil:zO [] []
 |cons (x:Str) (t:Tok) {vs:List ab} {xs:aB} (h:zO vs xs):zO (.str x t::vs) (x::xs)
def NS(c:Nat->Nat->Bool)(n:Nat):List Nat:=(Qu c (jX n)).toList
def FN(c:Nat->Nat->Bool)(h:0<n):(NS c n).Perm (az n):=(Ih h).run c _
def K0(c:Nat->Nat->Bool)(h:0<n):∀i∈NS c n,i<n:=λi a=>bA.1 ((FN c h).mem_iff.1 a)
theorem JS(r:en a c):∀(is:List Nat),(∀i∈is,i<a.length)->en (is.map λi=>a.getD i V.E) (is.map λi=>c.getD i Value.none)
 |[],_=>.nil
 |i::is,h=>by have b:=h i (.head _);obtain⟨u,e,f⟩:=r.get (aM b);refine .cons ?_ (JS r is λj d=>h j (.tail _ d));show eu (a.getD i V.E) (c.getD i Value.none);rw[bN,bN,e,aM b];exact f
section
variable{X:Cx}{G:Bg}{pins:cJ}{σ:St}{H:Hp}{s:ae}
def seq_val(I:d3 X pins σ H s)(c:fx X.K H a h\/f3 X.K H a h):∃b,en h b/\∃T o n,(T="list" \/ T="tuple")/\s.heap.get? a=Z o/\o.cls=.type T/\o.data=.seq b.toArray n:=by
 rcases c with c|c
 .obtain⟨b,f,pl,_⟩:=I.list c;obtain⟨o,a1,d,n,e⟩:=pl.isList;exact⟨b,f,_,o,n,.inl U,a1,d,e⟩
 .obtain⟨b,f,⟨o,a1,d,n,e⟩,_⟩:=I.tuple c;exact⟨b,f,_,o,n,.inr U,a1,d,e⟩
def zS:bh->Option aB
 |[]=>Z []
 |.str x::a=>match zS a with
  |some b=>Z (x::b)
  |none=>O
 |_=>O
theorem zr:∀{a:bh} {b:bJ} {l:aB},b? G H a b->zS a=Z l->b=l.map V.str
 |[],b,l,r,e=>by cases e;unfold b? at r;exact r
 |d::a,b,l,r,e=>by
  cases d with
  |str x=>
   unfold zS at e;cases c:zS a with
   |none=>rw[c]at e;cases e
   |some i=>rw[c]at e;cases e;unfold b? at r;obtain⟨v,j,rfl,f,h⟩:=r;unfold eg at f;subst f;rw[zr h c,aS]
  |_=>cases e
theorem JT(r:b? G H a c):∀(is:List Nat),(∀i∈is,i<a.length)->b? G H (is.map λi=>a.getD i .E) (is.map λi=>c.getD i V.E)
 |[],_=>u7
 |i::is,h=>by have b:=h i (.head _);obtain⟨v,e,f⟩:=zl r (aM b);refine vg ?_ (JT r is λj d=>h j (.tail _ d));show eg G H (a.getD i .E) (c.getD i V.E);rw[bN,bN,e,aM b];exact f
end
end L4
namespace L4
open PySem PySem.Spec PyProof.Rows L2 L3
section
variable{X:Cx}{G:Bg}
set_option tactic.hygienic true
def Wq:j? G (λx y H Q=>∃z n,x=.str z/\y=.int n/\MulOk z n/\Q (.str (eQ z n)) H) Ia:=λx y z o H v u Q e s d f k=>by
 unfold Ia at e;split at e
 .rename_i a n;split at e
  .rename_i m;obtain⟨p,r,h⟩:=m;cases e;unfold eg at d f;refine⟨a,n,d,f,⟨?_,λi j l=>?_,λi j=>?_⟩,k _ λ_ _=>y6 _⟩
   .rw[kK];exact⟨aR (by omega),aR (by omega)⟩
   .have c:(0:Int)<n:=by omega
    have q:(9223372036854775807:Int) / n >= 9223372036854775:=by have:=Int.le_ediv_of_mul_le (a:=9223372036854775) (b:=9223372036854775807) c (by omega);exact this
    have:((2:Int) ^ 63 - 1)=9223372036854775807:=by decide
    rw[this]at l;omega
   .have c:n.toNat<=1000:=by omega
    have:a.length * n.toNat<=100 * 1000:=qk h c;refine aR ?_;rw[bU];omega
  .cases e
 .cases e
end
set_option tactic.hygienic false
def OS:List String:=["NoneType", "bool", "int", "str", "tuple", "list", "dict"]
def xZ(n c:Nat):Ty->Option Bool:=λy=>match y with
 |.b x=>if OS.contains x=γ then Z δ else O
 |.c k=>if k<n then Z (k==c)else O
def wg(K:au)(cs:List Addr)(C:Addr)(c:Nat):Bool:=
 OS.all (λx=>cQ K (.type x) (.ref C)==Z δ)&&(az cs.length).all λk=>cQ K (.ref (cs.getD k 0)) (.ref C)==Z (k==c)
set_option tactic.hygienic true
def vM{B:Bg}(h:wg B.K cs (B.ca c) c=γ)(i:cs.length=n)(d:∀k,k<n->cs.getD k 0=B.ca k)(hI:∀k,k<n->L1 B.K (B.ca k)):Ib B c (xZ n c):=by
 unfold wg at h;rw[aQ,aH,aH]at h;refine⟨λy b e=>?_,λj b e=>?_⟩
 .cases y with
  |b x=>
   unfold xZ at e;simp only at e;split at e
   .rename_i f;cases e;exact fG (h.1 x (kH.1 f))
   .cases e
  |c k=>
   unfold xZ at e;simp only at e;split at e
   .rename_i a;cases e;have:=fG (h.2 k (bA.2 (by omega)));rw[d k a]at this;exact this
   .cases e
 .unfold xZ at e;simp only at e;split at e
  .rename_i a;exact hI j a
  .cases e
set_option tactic.hygienic false
def Z1{l:List Addr}(h:l.Nodup)(a:j<l.length)(b:k<l.length)(e:l.getD j 0=l.getD k 0):j=k:=by
 rw[bN,bN,aM a,aM b]at e;have c:=List.pairwise_iff_getElem.1 h;rcases Nat.lt_trichotomy j k with y|y|y
 .exact ar e (c j k a b y)
 .exact y
 .exact ar e.symm (c k j b a y)
section
variable{B:Bg}{K:au}{mg:Str->Option ab}{h:Heap}
def Rr(X:K.In h)(a:h.Ns bg mg)(e:iZ K bg x=Z (Z (.int i t))):Dl B mg x (.int i):=
 ⟨.int i,_,j3 X a e,⟨_,U⟩,λz=>wN _⟩
inductive Be:List ab->aB->Prop
 |nil:Be [] []
 |cons {v:ab} {x:Str} {t:Tok} {vs:List ab} {xs:aB} (e:v=.str x t) (h:Be vs xs):Be (v::vs) (x::xs)
def Be.vals(h:Be b c):en (c.map V.str) b:=by
 induction h with
 |nil=>exact .nil
 |cons e h a=>exact .cons ⟨_,e⟩ a
theorem Ii:∀a:aB,b? B H (a.map D.str) (a.map V.str)
 |[]=>u7
 |x::a=>vg (y6 x) (Ii a)
def NT(c:aB)(X:B.K.In h)(d:h.Ns bg mg)(e:iZ B.K bg x=Z (Z (.ref a)))(l:B.K.lookup a=Z o)(f:o.cls=.type "tuple")(hd:o.data=.seq b n)(i:b.size<=1000)
  (r:Be b.toList c):Dl B mg x (.cx (c.map D.str)):=
 ⟨.ref a,_,j3 X d e,U,λH=>Dh (.inr ⟨o,b,n,l,f,hd,by rw[bU];omega,r.vals⟩) (Ii c)⟩
end
section
variable{f g' h:FS}{c:FT}{e e' e2:FE}{a a':FA}{ρ ρ' ρ1 ρ2 ρ3:aU}{d x y z:D}{ds xs ys:bh}{k:Nat}{ew:List Nat}{g:FG}{ft:FT}{fe:FE}
theorem Ik{i:Type}(j:i->D)(p:i->Bool)(h:i->D):∀l:List i,
  (∀a∈l,∃ρ1 ρ2,g (j a) (G2 k ew ρ)=Z ρ1/\ft ρ1=Z (p a,ρ2)/\(p a=γ->∃ρ3,fe ρ2=Z (h a,ρ3)/\yk ew (ρ3.drop k) ρ=Z ρ)/\(p a=δ->yk ew (ρ2.drop k) ρ=Z ρ))->
  DC k ew g ft fe (l.map j) ρ=Z ((l.filter p).map h,ρ)
 |[],_=>rfl
 |a::l,st=>by
  obtain⟨ρ1,ρ2,o,q,r,t⟩:=st a aY;have m:=Ik j p h l λa' A=>st a' (ba _ A);rw[aS];unfold DC;rw[o];simp only[q];cases b:p a with
  |true=>obtain⟨ρ3,u,w⟩:=r b;simp only[u,w,m,iJ,b,if_true,aS]
  |false=>simp only[t b,m,iJ,b];rfl
def Wr{i:Type}(b:i->D)(h:i->D)(l:List i)(st:∀a∈l,∃ρ1 ρ3,g (b a) (G2 k ew ρ)=Z ρ1/\fe ρ1=Z (h a,ρ3)/\yk ew (ρ3.drop k) ρ=Z ρ):DC k ew g vC fe (l.map b) ρ=Z (l.map h,ρ):=by have:=Ik (ft:=vC) b (λx=>γ) h l λa p=>let ⟨ρ1,ρ3,j,m,o⟩:=st a p;⟨ρ1,ρ1,j,U,λx=>⟨ρ3,m,o⟩,λz=>by cases z⟩;rw[this,ou.2 λx x=>U]
def wj(neg:Bool)(a b:Str):er neg (.str a) (.str b)=Z (.I (if neg then !decide (a=b)else decide (a=b))):=by
 have e:G3 neg (.str a) (.str b)=Z (.I (if neg then !decide (V.str a=V.str b)else decide (V.str a=V.str b))):=rfl;have e2:decide (V.str a=V.str b)=decide (a=b):=by
  by_cases h:a=b
  .subst h;simp
  .rw[aR h,aR (λz=>h (by injection z))]
 unfold er;rw[e,e2]
def SW(a:Str)(l:aB):inV (V.str a) (l.map V.str)=decide (a∈l):=by
 unfold inV;rw[dM,fw,bz];constructor
 .rintro⟨v,o,i⟩;obtain⟨b,m,rfl⟩:=aG.1 o;have:=by unfold eqV at i;simpa using i
  rw[<-this];exact m
 .intro j;refine⟨.str a,bZ j,?_⟩;unfold eqV;simp
def Qw(l:aB):(l.map D.str).all xh=γ:=by rw[qE,aH];intro x _;rfl
def Wt(l:aB):(l.map D.str).map vD=l.map V.str:=by rw[aW];rfl
def AG(neg:Bool)(a:Str)(l:aB):oy neg (.str a) (.b0 (l.map D.str))=Z (.I (if neg then !decide (a∈l)else decide (a∈l))):=by show (if xh (.str a)&&(l.map D.str).all xh then Z (D.I (if neg then !inV (vD (.str a)) ((l.map D.str).map vD)else inV (vD (.str a)) ((l.map D.str).map vD)))else O)=_;rw[Qw,Wt];show Z (D.I (if neg then !inV (V.str a) (l.map V.str)else inV (V.str a) (l.map V.str)))=_;rw[SW]
def Cr(neg:Bool)(a:Str)(l:aB):oy neg (.str a) (.cx (l.map D.str))=Z (.I (if neg then !decide (a∈l)else decide (a∈l))):=AG neg a l
theorem K1:∀bs:List Bool,Jp (bs.map D.I)=Z bs
 |[]=>rfl
 |b::bs=>by rw[aS];unfold Jp;rw[K1 bs];rfl
def SX(bs:List Bool):yL (.b0 (bs.map D.I))=Z (.I (bs.all id)):=by unfold yL;simp only[K1];rfl
def SY(bs:List Bool):G5 (.b0 (bs.map D.I))=Z (.I (bs.any id)):=by unfold G5;simp only[K1];rfl
def OT{b:Type}(l:List b)(p:b->Bool):yL (.b0 (l.map λa=>D.I (p a)))=Z (.I (l.all p)):=by rw[show (l.map λa=>D.I (p a))=(l.map p).map D.I by rw[aW];rfl,SX,qE];rfl
def OU{b:Type}(l:List b)(p:b->Bool):G5 (.b0 (l.map λa=>D.I (p a)))=Z (.I (l.any p)):=by rw[show (l.map λa=>D.I (p a))=(l.map p).map D.I by rw[aW];rfl,SY,List.any_map];rfl
theorem Il:∀l:aB,Gi (l.map D.str)=Z (l.map Sum.inr)
 |[]=>rfl
 |x::l=>by rw[aS];unfold Gi;rw[Il l];rfl
theorem SZ:∀(l acc:List ey),(acc++l).Nodup->l.foldl W' acc=acc++l
 |[],acc,_=>by rw[b9];rfl
 |k::l,acc,h=>by
  have i:acc.any (λz=>decide (z=k))=δ:=by rw[iF];intro z;obtain⟨y,j,b⟩:=fw.1 z;rw[cq]at h;exact h.2.2 y j k aY (bp b)
  rw[iN,show W' acc k=acc++[k] by unfold W';rw[i];rfl,SZ l (acc++[k]) (by simpa using h)];simp
def AH{l:aB}(h:l.Nodup):(l.map (Sum.inr:Str->ey)).Nodup:=by unfold List.Nodup at h ⊢;rw[lp];exact h.imp λhne z=>hne (jO z)
def Gr{l:aB}(h:l.Nodup)(b:l.length<=1000):xa (l.map D.str)=Z (.int l.length):=by unfold xa;rw[Il];simp only[af,b,if_true];unfold zL;rw[SZ _ [] (by simpa using AH h)];simp
def xb(neg:Bool)(a b:Int):er neg (.int a) (.int b)=Z (.I (if neg then !decide (a=b)else decide (a=b))):=by
 have e:G3 neg (.int a) (.int b)=Z (.I (if neg then !decide (V.int a=V.int b)else decide (V.int a=V.int b))):=rfl;have e2:decide (V.int a=V.int b)=decide (a=b):=by
  by_cases h:a=b
  .subst h;simp
  .rw[aR h,aR (λz=>h (by injection z))]
 unfold er;rw[e,e2]
def uX(b:e ρ=Z (.I γ,ρ1)):vU e e' ρ=e' ρ1:=by unfold vU;rw[b]
def vx{g:Nat->Option (bh->Option D)}{m:Str}{c:Nat}{b:aB}{i:bh->Option D}(j:e ρ=Z (.obj c b xs,ρ1))(l:g c=Z i)(o:b.contains m=δ)(p:a ρ1=Z (ys,ρ2))(q:i (.obj c b xs::ys)=Z d):vd g m e a ρ=Z (d,ρ2):=by unfold vd;rw[j];simp only[l,o,p,q];rfl
def ET{c:Nat}{g:bh->Option (aB×bh)}{ns:aB}(b:a ρ=Z (ds,ρ1))(i:g ds=Z (ns,xs)):uY c g a ρ=Z (.obj c ns xs,ρ1):=by unfold uY;rw[b];simp only[i]
def Bf(i:ds.length=j)(h:b (L4.yr n ds)=Z (.nx ρ)):e3 j n b ds=Z .E:=by unfold e3;rw[ah i,h]
def Cs(i:ds.length=j)(h:b (L4.yr n ds)=Z (.U xs ρ)):e3 j n b ds=Z (.b0 xs):=by unfold e3;rw[ah i,h]
theorem Ct:∀{b:List ey} {ds:bh} {k:ey} {d:D},b.Nodup->(k,d)∈b.zip ds->wI b ds k=Z d
 |[],_,k,d,_,h=>by simp at h
 |j::b,[],k,d,_,h=>by simp at h
 |j::b,l::ds,k,d,i,h=>by
  unfold wI;rw[fi]at h;rcases aO.1 h with e|h
  .cases e;rw[ah U]
  .rw[dj]at i;rw[aj (λz=>i.1 (by subst z;exact(jI h).1))];exact Ct i.2 h
theorem JU:∀{b:List ey} {ds:bh} {k:ey},k∉b->wI b ds k=O
 |[],ds,k,_=>by unfold wI;rfl
 |i::b,[],k,_=>by unfold wI;rfl
 |i::b,j::ds,k,h=>by unfold wI;rw[aj (λz=>h (by subst z;exact aY))];exact JU λz=>h (ba _ z)
end
end L4
namespace L4
open PySem PySem.Spec PyProof.Rows L2 L3
open PySem.W (nsIn findIn keepIn isFn makesIn fnOf)
def NU{b:Type}:Nat->(List b->Prop)->Prop
 |0,P=>P []
 |n+1,P=>∀a,NU n λl=>P (a::l)
theorem Hk{b:Type}:∀{n:Nat} {P:List b->Prop},NU n P->∀l,l.length=n->P l
 |0,P,h,[],_=>h
 |n+1,P,h,a::l,e=>Hk (h a) l (mB e)
structure CF(K:au)(C:Addr)(xs:aB):Prop where
 ci:L1 K C
 mks:makesIn K C=γ
 kp:keepIn K (.ref C)=γ
 na:(xs.all λx=>match findIn K (.ref C) x with|some O=>γ|_=>δ)=γ
set_option tactic.hygienic true
theorem CF.at{K:au}(c:CF K C xs)(i:Nat)(h:xs[i]?=Z x):Mn K C/\Ad K C x:=⟨c.ci.cl,by
 have e:=aH.1 c.na x (cv h);split at e
 .rename_i a;exact a
 .cases e⟩
set_option tactic.hygienic false
def xy{Q:Nat->Prop}{i:Nat}(h:Q i):∀c,(c==i)=γ->Q c:=λc e=>by rw[beq_iff_eq]at e;subst e;exact h
def W?{Q:Nat->Prop}{p:Nat->Bool}{i:Nat}(h:∀c,p c=γ->Q c)(a:Q i):∀c,(p c||c==i)=γ->Q c:=λc e=>by
 rw[fB]at e;rcases e with e|e
 .exact h c e
 .exact xy a c e
structure Yw(P:aJ)(w:aA)(mg:Str->Option ab)(b':Heap)(G:Bg):Prop where
 m:∃h:Heap,G.K.In h/\h.Ns bg mg
section
variable{P:aJ}{w:aA}{mg:Str->Option ab}{b':Heap}{G:Bg}{x m qual:Str}{st:Stmt}{N ps:aB}{k c:Nat}{K:au}
def Yw.g(y:Yw P w mg b' G)(e:nsIn G.K bg x=Z (Z v)):mg x=Z v:=by obtain⟨h,X,a⟩:=y.m;exact j3 X a e
set_option tactic.hygienic true
def Yw.n(y:Yw P w mg b' G){xs:aB}(h:(xs.all λx=>match nsIn G.K bg x with|some O=>γ|_=>δ)=γ)(i:Nat)(hi:xs[i]?=Z x):mg x=O:=by
 obtain⟨d,X,a⟩:=y.m;have e:=aH.1 h x (cv hi);split at e
 .rename_i b;exact W.mg_none_of X a b
 .cases e
set_option tactic.hygienic false
def GC(K:au)(x:Str)(i:Int):Prop:=∃t:Tok,nsIn K bg x=Z (Z (.int i t))
def Yw.ci(y:Yw P w mg b' G)(q:GC G.K x i):Dl G mg x (.int i):=by obtain⟨h,X,a⟩:=y.m;obtain⟨t,e⟩:=q;exact Rr X a e
def GS(K:au)(x:Str)(d:aB):Prop:=∃(a:Addr) (o:Obj) (b:Array ab) (n:Nat),nsIn K bg x=Z (Z (.ref a))/\K.lookup a=Z o/\o.cls=.type "tuple" /\ o.data=.seq b n/\b.size<=1000/\Be b.toList d
def Yw.cs(y:Yw P w mg b' G)(q:GS G.K x b):Dl G mg x (.cx (b.map D.str)):=by obtain⟨h,X,d⟩:=y.m;obtain⟨a,o,r,n,e,l,f,i,j,p⟩:=q;exact NT b X d e l f i j p
def GD(K:au)(x:Str)(st:Stmt):Prop:=∃(f:Addr) (a:cg),nsIn K bg x=Z (Z (.ref f))/\V? K x x st f a
def GM(K:au)(C:Addr)(m qual:Str)(st:Stmt):Prop:=∃(f:Addr) (a:cg),findIn K (.ref C) m=Z (Z (.ref f))/\isFn K (.ref f)=γ/\V? K m qual st f a
def GJ(K:au)(C:Addr)(qual:Str)(st:Stmt)(b:bJ):Prop:=∃(f:Addr) (a:cg) (T:Addr) (o:Obj) (dl:List ab) (n:Nat),findIn K (.ref C) "__init__" = Z (Z (.ref f))/\isFn K (.ref f)=γ/\P8 K "__init__" qual st f a T/\K.lookup T=Z o/\o.data=.seq dl.toArray n/\en b dl
abbrev Bdy(P:aJ)(w:aA)(K:au)(mg:Str->Option ab)(b':Heap)(N:aB)(qual:Str)(st:Stmt)(k:Nat)(t:TS):Prop:=∀(f:Addr) (cdv:ab) (A:aK) (d?:List Env) (s:ae) (H:Hp) (E:XK),wM k (A.deeper (envOfC qual (uS st) s.heap.objs.size f cdv))->n? (HW P w K mg b' N qual st f cdv A d? s H E) (vm st) t
abbrev Bds(x qual:Str)(st:Stmt)(ps:aB):Prop:=NU ps.length λa=>∀(kV doc pm:ab) (b:Option Addr) (cdv d:ab),bindArgs (fnOf x qual (xU st) (vm st) (uS st) .none kV doc pm b cdv d) ⟨a,[]⟩=pure (ps.zip a)
theorem Bds.ok(b:Bds x qual st ps)(F:V? K x qual st f e):k? K e ps []:=F.p? λkV doc pm a cdv d i h=>Hk b i h kV doc pm a cdv d
theorem gD(y:Yw P w mg b' G)(q:GD G.K x st)(d:Bds x x st ps)(ok:∀f b,V? G.K x x st f b->y4 P w G.K mg b' B? k f b ps e):Gg P w G.K mg b' k x ps e:=by obtain⟨f,b,a,F⟩:=q;exact⟨f,b,y.g a,F.kp,d.ok F,ok f b F⟩
def gF(d:g=e3 h n b)(y:Yw P w mg b' G)(q:GD G.K x st)(S:xn N ps (uS st))(body:Bdy P w G.K mg b' N x st k (ma G b))(e:ps.length=h:=by rfl)(hN:N.length=n:=by rfl)(a:Bds x x st ps:=by (repeat intro _);rfl):Gg P w G.K mg b' (k+1) x ps (e? G g):=
 gD y q a λf i F=>Si d e hN F S (body f)
def gN'(d:g=r? h n b)(y:Yw P w mg b' G)(q:GD G.K x st)(S:xn N ps (uS st))(body:Bdy P w G.K mg b' N x st k (ma G b))(e:ps.length=h:=by rfl)(hN:N.length=n:=by rfl)(a:Bds x x st ps:=by (repeat intro _);rfl):Gg P w G.K mg b' (k+1) x ps (rh G g):=
 gD y q a λf i F=>ac4 d e hN F S (body f)
def gI(h:g=sm c o n b)(y:Yw P w mg b' G)(C:CF G.K (G.ca c) r)(a:nsIn G.K bg x=Z (Z (.ref (G.ca c))))(q:GM G.K (G.ca c) "__init__" qual st)(S:xn N (p::ps) (uS st))(body:Bdy P w G.K mg b' N qual st k (ma G b))(j:ps.length=o:=by rfl)(hN:N.length=n:=by rfl)(d:Bds "__init__" qual st (p::ps):=by (repeat intro _);rfl):KW G P w mg b' (k+1) x c (p::ps) [] g:=by obtain⟨f,e,i,l,F⟩:=q;exact⟨f,e,[],⟨C.mks,i,l,C.kp⟩,y.g a,d.ok F,.nil,ac5 h j hN F S (body f)⟩
def Mj(h:en d b):b.length=d.length:=by
 induction h with
 |nil=>rfl
 |cons _ _ a=>rw[aP,aP,a]
def Qx(h:en f e):∀j,en (f.drop j) (e.drop j):=by
 induction h with
 |nil=>intro j;rw[qx,qx];exact .nil
 |cons a b d=>
  intro j;cases j with
  |zero=>exact .cons a b
  |succ j=>exact d j
theorem gJ(B:g=sm c J n b)(y:Yw P w mg b' G)(C:CF G.K (G.ca c) M)(a:nsIn G.K bg x=Z (Z (.ref (G.ca c))))(q:GJ G.K (G.ca c) qual st u)(S:xn N (p::ps) (uS st))(body:Bdy P w G.K mg b' N qual st k (ma G b))(j:Nat)(H:ps.length=J:=by rfl)(hN:N.length=n:=by rfl)
  (z:NU u.length λdl=>NU ((p::ps).length - (u.drop j).length) λd=>∀(T:Addr) (kV doc pm:ab) (h:Option Addr) (cdv t:ab),∃k,bindArgs (fnOf "__init__" qual (xU st) (vm st) (uS st) (.ref T) kV doc pm h cdv t) ⟨d,[]⟩=seqItems? (.ref T)>>=k/\k (Z dl.toArray)=pure ((p::ps).zip (d++dl.drop j)):=by (repeat intro _);exact⟨_,U,U⟩):KW G P w mg b' (k+1) x c (p::ps) (u.drop j) g:=by
 obtain⟨f,A,T,o,dl,n,i,I,F,l,e,r⟩:=q;refine⟨f,A,dl.drop j,⟨C.mks,i,I,C.kp⟩,y.g a,F.p? l e λkV doc pm h cdv t d E=>?_,Qx r j,Zy B H hN F S (body f)⟩;exact Hk (Hk z dl (Mj r)) d (by rw[E,dH,dH,Mj r]) T kV doc pm h cdv t
end
end L4
namespace L4
open PySem PySem.Spec PyProof.Rows L2 L3
def Hj(a b:Str):Bool:=decide (a.cps.toList<=b.cps.toList)
def yF(a:aB):aB:=a.mergeSort Hj
def K2(a b c:Str)(h:Hj a b=γ)(d:Hj b c=γ):Hj a c=γ:=aT (List.le_trans (bp h) (bp d))
def K4(a b:Str):(Hj a b||Hj b a)=γ:=by
 rw[fB];rcases List.le_total a.cps.toList b.cps.toList with h|h
 .exact .inl (aT h)
 .exact .inr (aT h)
def Ml(a b:Str)(h:Hj a b=γ)(c:Hj b a=γ):a=b:=by have e:=List.le_antisymm (bp h) (bp c);cases a with|mk a=>cases b with|mk b=>cases a;cases b;simp only at e;rw[e]
theorem FP:∀(r:aB) (x:Str),risingS x r=γ->(∀y∈r,Hj x y=γ)/\r.Pairwise λa b=>Hj a b=γ
 |[],x,_=>⟨λy h=>(cy h).elim,.nil⟩
 |z::r,x,h=>by
  unfold risingS at h;rw[aQ,eD,ltCps_eq]at h;obtain⟨j,l⟩:=h;obtain⟨d,i⟩:=FP r z l;have f:Hj x z=γ:=aT (of_decide_eq_false j);refine⟨λy c=>?_,.cons d i⟩;rcases aO.1 c with e|c
  .rw[e];exact f
  .exact K2 _ _ _ f (d y c)
def NV:∀l:aB,sortedS l=γ->l.Pairwise λa b=>Hj a b=γ
 |[],_=>.nil
 |x::r,h=>.cons (FP r x h).1 (FP r x h).2
def Im{l:aB}(p:l.Perm c)(h:sortedS l=γ):l=yF c:=
 nH (λa b z z=>Ml a b) (NV l h) (kE K2 K4 c) (p.t (ju c Hj).symm)
theorem Io:∀{b:aB} {a:List ab},en (b.map V.str) a->gO a b
 |[],a,h=>by cases h;exact .nil
 |x::b,a,h=>by
  cases h with
  |cons r c=>obtain⟨t,rfl⟩:=r;exact .cons x t (Io c)
theorem S0:∀{a:List ab} {b:aB},gO a b->en (b.map V.str) a
 |_,_,.nil=>.nil
 |_,_,.cons x t h=>.cons ⟨t,U⟩ (S0 h)
section
variable{X:Cx}{G:Bg}{pins:cJ}{σ:St}{H:Hp}{s:ae}
def K5:v5 X (.builtin "sorted") (λj H Q=>∃(a:Addr) (c:aB),j=[.ref a]/\fx X.K H a (c.map V.str)/\c.length<64/\∀p,H p=O->Q (.ref p) (e0 H p (.b0 ((yF c).map V.str)))):=by
 intro pins s σ H j A Q I r h;obtain⟨a,c,rfl,w,m,q⟩:=h;obtain⟨u,rfl,x⟩:=l' r;cases x;obtain⟨b,i,pl,_⟩:=I.list w;have t:(c.map V.str).length=b.length:=i.length;rw[af]at t;refine sorted_strs pl.isList (Io i) (by omega) λout y a1 d l=>?_;obtain⟨e,o⟩:=sortedAll_at s.heap b out;have f:=Im d l;refine⟨.ref (s.heap.objs.size+1),_,I.laid (t':=s.toks) (λz z=>sortedAll_old) (gj _) ?_,U,q _ (I.ff.fresh (gj _))⟩;refine⟨?_,out.toList,e,?_,o⟩
 .rw[af,<- f,d.length_eq,bU];omega
 .rw[<-f];exact S0 a1
def D7(f:FE):FA:=λd=>match f d with
 |some (.b0 c,a)=>match zS c with
  |some b=>if b.length<64 then Z ((yF b).map D.str,a)else O
  |none=>O
 |_=>O
theorem Bh:∀a:aB,b? G H (a.map D.str) (a.map V.str)
 |[]=>u7
 |x::a=>vg (y6 x) (Bh a)
set_option tactic.hygienic true
def Mm(h:PE X e (ZX (λq H Q=>∃(a:Addr) (c:aB),q=[.ref a]/\fx G.K H a (c.map V.str)/\c.length<64/\∀p,H p=O->Q (.ref p) (e0 H p (.b0 ((yF c).map V.str)))) (q9 G (ax f uQ)))):PE X e (u1 G (D7 f)):=PE.eb h λσ H Q y=>by
 obtain⟨F,A,r,I,B,R,e,k⟩:=y;unfold D7 at e;split at e
 .rename_i l C u;cases i:zS l with
  |none=>simp only[i]at e;cases e
  |some c=>
   simp only[i]at e;split at e
   .rename_i j;cases e;refine⟨F,A,r,[.b0 l],_,R,by unfold ax;rw[u];rfl,λM E t s b rs=>?_⟩;unfold b? at rs;obtain⟨v,J,rfl,o,m⟩:=rs;unfold b? at m;subst m;unfold eg at o;obtain⟨a,q,rfl,w,x⟩:=o;have z:=zr x i;subst z;refine⟨a,c,U,fx.of (b.sub _ _ w),j,λp d=>?_⟩;exact k p _ _ _ s (b.f? d _) uz (b.e7 d) (b.gk d) (b.apart d) (Bh _)
   .cases e
 .cases e
set_option tactic.hygienic false
def Js(hK:X.K=G.K:=by rfl):v5 X (.builtin "sorted") (λc H Q=>∃(a:Addr) (b:aB),c=[.ref a]/\fx G.K H a (b.map V.str)/\b.length<64/\∀p,H p=O->Q (.ref p) (e0 H p (.b0 ((yF b).map V.str)))):=by rw[<-hK];exact K5
theorem D8(k:Str):∀{b:List ab} {a:aB},gO b a->∀(j:Nat) (c:j<b.length) (d:j<a.length),isStrOf k b[j]=(a[j]==k)
 |_,_,.cons n t _,0,_,_=>rfl
 |_,_,.cons n t r,j+1,c,d=>D8 k r j (iy c) (iy d)
theorem Ip:∀{a:aB} {j:Nat},j<a.idxOf k->∀(b:j<a.length),(a[j]==k)=δ
 |n::r,0,h,_=>by
  by_cases e:n=k
  .subst e;simp at h
  .simpa using e
 |n::r,j+1,h,b=>by
  by_cases e:n=k
  .subst e;simp at h
  .have d:(n==k)=δ:=by simpa using e
   have c:j<r.idxOf k:=by rw[List.idxOf_cons,d]at h;exact iy h
   exact Ip c (iy b)
end
end L4
namespace L4
open PySem PySem.Spec PySem.Calls PyProof.Rows PySem.W L2 L3
structure Sto(c:Nat->Nat->Bool)(n:Nat):Prop where
 tr:∀i j k,i<n->j<n->k<n->c i j=γ->c j k=γ->c i k=γ
 tot:∀i j,i<n->j<n->i≠j->c i j=δ->c j i=γ
section
variable{X:Cx}{G:Bg}{pins:cJ}{σ:St}{H:Hp}{s:ae}
def Jt(K:au)(H:Hp)(y:V)(k:aB):Prop:=∃a p q,y=.ref a/\k=[p,q]/\f3 K H a [.str p,.str q]
def S4(I:d3 X pins σ H s)(h:Jt X.K H y k)(r:eu y u):∃a p q t v,u=.ref a/\k=[p,q]/\fH s.heap a #[.str p t,.str q v]:=by
 obtain⟨a,p,q,rfl,rfl,b⟩:=h;cases r;obtain⟨c,j,l,_⟩:=I.tuple b;cases j with
 |cons d e=>
  obtain⟨t,rfl⟩:=d;cases e with
  |cons f i=>obtain⟨v,rfl⟩:=f;cases i;exact⟨a,p,q,t,v,U,U,l⟩
end
section
variable{prog:aJ}{w:aA}{A:aK}{s:ae}
def It2(h:Heap)(b:List ab)(c:List aB):Prop:=∀i,i<b.length->∃a p q t v,b.getD i Value.none=.ref a/\c.getD i []=[p,q]/\fH h a #[.str p t,.str q v]/\b[i]?=Z (.ref a)
def Qy(item:It2 s.heap b I)(H:0<b.length)(hC:C (tuples' γ) s):ao (model prog w) A (keyKind' b.toArray) C (λ_ _=>False) s:=by
 have tm:∀(l:List ab),(∀v∈l,∃i,i<b.length/\b[i]?=Z v)->∃fs,KatTups s.heap l fs/\fs.length=l.length/\∀f∈fs,∃(x:Str) (t:Tok),f=.str x t:=λl=>by
  induction l with
  |nil=>exact λ_=>⟨[],KatTups.nil,U,λf d=>by cases d⟩
  |cons v l B=>
   intro c;obtain⟨fs,j,r,m⟩:=B λw z=>c w (.tail _ z);obtain⟨i,h,y⟩:=c v (.head _);obtain⟨a,p,q,t,w,_,_,⟨o,E,F,n,G⟩,u⟩:=item i h;rw[y]at u;cases u;refine⟨.str p t::fs,KatTups.cons E F G (by simp) j,by rw[aP,aP,r],λf d=>?_⟩;rcases aO.1 d with rfl|d
   .exact⟨p,t,U⟩
   .exact m f d
 obtain⟨fs,j,r,m⟩:=tm b λv c=>by obtain⟨i,h,e⟩:=kJ.1 c;exact⟨i,h,by rw[aM h,e]⟩
 refine kat_kind (T:=.type "str") j (by omega) (λv c=>?_) (by decide) ?_
 .obtain⟨x,t,rfl⟩:=m v c;exact .now
 .rw[show (Value.type "str" != Value.type "tuple")=γ by decide];exact hC
def S5(item:It2 s.heap a f)(hij:i<a.length/\j<a.length)(hC:C (Jr (f.getD i []) (f.getD j [])) s):jZ prog w A (tuples' γ) a i j C s:=by
 obtain⟨a1,b,d,h,m,r,y,⟨G,u,c1,E,p⟩,_⟩:=item i hij.1;obtain⟨B,c,e,l,o,t,z,⟨H,x,c2,F,q⟩,_⟩:=item j hij.2;unfold jZ;rw[r,t];rw[y,z]at hC;refine kat_lt u p x q ?_;show KatLex _ _ _ _ _ _ [(Value.str b h,Value.str c l),(Value.str d m,Value.str e o)] 0 _;refine kat_cons (kW b h c l _ _ _ _ ?_);unfold Jr at hC;by_cases hpp:b=c
 .subst hpp;rw[ah U]at hC;rw[beq_self_eq_true];refine kat_yes (kat_cons (kW d m e o _ _ _ _ ?_));unfold Jr at hC;by_cases hqq:d=e
  .subst hqq;rw[ah U]at hC;rw[beq_self_eq_true];exact kat_yes (kat_nil hC)
  .rw[aj hqq]at hC;rw[beq_false_of_ne hqq];exact kat_no (kat_one _ _ (ua hC))
 .rw[aj hpp]at hC;rw[beq_false_of_ne hpp];exact kat_no (oneLt_str hC)
end
section
variable{X:Cx}{G:Bg}{pins:cJ}{σ:St}{H:Hp}{s:ae}
def K6(hu:X.A.units+64<cLine):v5 X (.builtin "sorted") (λxs H Q=>∃(a:Addr) (d:bJ) (ks:List aB),xs=[.ref a]/\fx X.K H a d/\0<d.length/\d.length<64/\ks.length=d.length/\(∀(i:Nat) (y:V) (k:aB),d[i]?=Z y->ks[i]?=Z k->Jt X.K H y k)/\
  ∀p,H p=O->Q (.ref p) (e0 H p (.b0 ((NS (λi j=>Jr (ks.getD i []) (ks.getD j [])) d.length).map λi=>d.getD i V.E)))):=by
 intro pins s σ H xs us Q I r h;obtain⟨a,d,ks,rfl,hq,P,R,hkl,Y,q⟩:=h;obtain⟨u,rfl,w⟩:=l' r;cases w;obtain⟨f,m,T,ob,nn,hT,F,J,M⟩:=seq_val I (.inl hq);have S:d.length=f.length:=m.length;have item:∀{h':Heap},(∀b o,s.heap.get? b=Z o->h'.get? b=Z o)->It2 h' f ks:=λ{h'} l i hi=>by
  have E:d3 X pins σ H { s with heap:=h',toks:=s.toks }:=I.gw l;have B:i<d.length:=by omega
  have z:i<ks.length:=by omega
  obtain⟨u,e,w⟩:=m.get (aM B);obtain⟨a,p,q,t,v,rfl,N,ti⟩:=S4 E (Y i _ _ (aM B) (aM z)) w;refine⟨a,p,q,t,v,?_,?_,ti,e⟩
  .rw[bN,e];rfl
  .rw[bN,aM z];exact N
 refine NR (κ:=tuples' γ) (c:=λi j=>Jr (ks.getD i []) (ks.getD j [])) hT F J M (by omega) (by omega) (λh' C l hC=>Qy (s:={ s with heap:=h' }) (item l) (by omega) hC) (λh' i j C l hij hC=>S5 (s:={ s with heap:=h' }) (item l) hij hC) λg h' e k1 k2 W=>?_
 .have x:d3 X pins σ H { s with heap:=g,toks:=s.toks }:=I.gw k1;refine⟨.ref g.objs.size,_,x.laid (t':=s.toks) k2 (aL _) ?_,U,q _ (x.ff.fresh (aL _))⟩;have hn:0<d.length:=P;refine⟨?_,FM _ f,e,?_,W⟩
  .rw[af,(FN _ hn).length_eq,bF,bU];omega
  .unfold FM;rw[<-S];exact JS m _ λi hi=>K0 _ hn i hi
end
def Qz:D->Option aB
 |.cx [.str p,.str q]=>Z [p,q]
 |_=>O
def ym:bh->Option (List aB)
 |[]=>Z []
 |d::a=>match Qz d,ym a with
  |some k,Z b=>Z (k::b)
  |_,_=>O
def D9(a:bh):Option bh:=match ym a with
 |some b=>if 0<a.length/\a.length<64 then Z ((NS (λi j=>Jr (b.getD i []) (b.getD j [])) a.length).map λi=>a.getD i .E)else O
 |none=>O
def FQ(f:FE):FA:=λd=>match f d with
 |some (.b0 b,a)=>match D9 b with
  |some c=>Z (c,a)
  |none=>O
 |_=>O
section
variable{X:Cx}{G:Bg}{H:Hp}
set_option tactic.hygienic true
def Mo(r:eg G H d v)(e:Qz d=Z k):Jt G.K H v k:=by
 unfold Qz at e;split at e
 .rename_i p q;cases e;unfold eg at r;obtain⟨a,u,rfl,j,b⟩:=r;unfold b? at b;obtain⟨o,l,rfl,c,f⟩:=b;unfold b? at f;obtain⟨t,m,rfl,h,i⟩:=f;unfold b? at i;unfold eg at c h;subst i c h;exact⟨a,p,q,U,U,j⟩
 .cases e
set_option tactic.hygienic false
theorem JV:∀{a:bh} {b:List aB},ym a=Z b->b.length=a.length
 |[],b,e=>by cases e;rfl
 |d::a,b,e=>by
  unfold ym at e;cases c:Qz d with
  |none=>rw[c]at e;cases e
  |some k=>
   cases f:ym a with
   |none=>rw[c,f]at e;cases e
   |some h=>rw[c,f]at e;cases e;rw[aP,aP,JV f]
theorem JW:∀{a:bh} {f:List aB} {h:bJ},b? G H a h->ym a=Z f->∀(i:Nat) (y:V) (k:aB),h[i]?=Z y->f[i]?=Z k->Jt G.K H y k
 |[],f,h,r,e,i,y,k,l,c=>by cases e;cases c
 |d::a,f,h,r,e,i,y,k,l,c=>by
  unfold ym at e;cases b:Qz d with
  |none=>rw[b]at e;cases e
  |some q=>
   cases j:ym a with
   |none=>rw[b,j]at e;cases e
   |some m=>
    rw[b,j]at e;cases e;unfold b? at r;obtain⟨v,t,rfl,o,p⟩:=r;cases i with
    |zero=>cases l;cases c;exact Mo o b
    |succ i=>exact JW p j i y k l c
theorem Jt.mono{K:au}(s:uL b c)(h:Jt K b y k):Jt K c y k:=by obtain⟨a,p,q,d,e,f⟩:=h;exact⟨a,p,q,d,e,f3.mono s f⟩
set_option tactic.hygienic true
def Mp(h:PE X e (ZX (λu H Q=>∃(a:Addr) (c:bJ) (l:List aB),u=[.ref a]/\fx G.K H a c/\0<c.length/\c.length<64/\l.length=c.length/\(∀(i:Nat) (y:V) (k:aB),c[i]?=Z y->l[i]?=Z k->Jt G.K H y k)/\
  ∀p,H p=O->Q (.ref p) (e0 H p (.b0 ((NS (λi j=>Jr (l.getD i []) (l.getD j [])) c.length).map λi=>c.getD i V.E)))) (q9 G (ax f uQ)))):PE X e (u1 G (FQ f)):=PE.eb h λσ H Q t=>by
 obtain⟨F,W,A,es,Y,R,e,k⟩:=t;unfold FQ at e;split at e
 .rename_i q ρ1 C;cases b:D9 q with
  |none=>simp only[b]at e;cases e
  |some E=>
   simp only[b]at e;cases e;unfold D9 at b;cases m:ym q with
   |none=>simp only[m]at b;cases b
   |some l=>
    simp only[m]at b;split at b
    .rename_i t;obtain⟨N,J⟩:=t;cases b;refine⟨F,W,A,[.b0 q],_,R,by unfold ax;rw[C];rfl,λc H1 B s d rs=>?_⟩;unfold b? at rs;obtain⟨v,r0,rfl,z,x⟩:=rs;unfold b? at x;subst x;unfold eg at z;obtain⟨a,u,rfl,I,r⟩:=z;have w:=uB r;refine⟨a,u,l,U,fx.of (d.sub _ _ I),by omega,by omega,by rw[JV m,w],λi y P S T=>Jt.mono d.sub (JW r m i y P S T),λp o=>?_⟩;refine k p _ _ _ s (d.f? o _) uz (d.e7 o) (d.gk o) (d.apart o) ?_;rw[<-w];exact JT r _ λi M=>K0 _ N i M
    .cases b
 .cases e
set_option tactic.hygienic false
def Ju(d:X.A.units+64<cLine)(hK:X.K=G.K:=by rfl):v5 X (.builtin "sorted") (λe H Q=>∃(a:Addr) (b:bJ) (c:List aB),e=[.ref a]/\fx G.K H a b/\0<b.length/\b.length<64/\c.length=b.length/\(∀(i:Nat) (y:V) (k:aB),b[i]?=Z y->c[i]?=Z k->Jt G.K H y k)/\
  ∀p,H p=O->Q (.ref p) (e0 H p (.b0 ((NS (λi j=>Jr (c.getD i []) (c.getD j [])) b.length).map λi=>b.getD i V.E)))):=by rw[<-hK];exact K6 d
end
end L4
namespace L4
open PySem PySem.Spec PyProof.Rows L2 L3
structure Bz where
 P:aJ
 w:aA
 mg:Str->Option ab
 b':Heap
 G:Bg
structure ZE(X:Cx)(B:Bz)(e:Expr)(f:FE):Prop where p:PE X e (tF B.G f)
structure ZN(X:Cx)(B:Bz)(e:Expr)(f:FA):Prop where p:PE X e (u1 B.G f)
structure ZT(X:Cx)(B:Bz)(e:Expr)(f:FT):Prop where p:PT X e (m? B.G f)
structure ZW(X:Cx)(B:Bz)(e:Expr)(f:FT):Prop where p:PW X e (m? B.G f)
structure ZF(X:Cx)(B:Bz)(e:List Expr)(f:FT):Prop where p:PIf X e (m? B.G f)
structure ZA(X:Cx)(B:Bz)(e:List Expr)(f:FA):Prop where p:PA X e (q9 B.G f)
structure ZS(X:Cx)(B:Bz)(e:Stmt)(f:FS):Prop where p:PS X e (ma B.G f)
structure ZB(X:Cx)(B:Bz)(e:List Stmt)(f:FS):Prop where p:n? X e (ma B.G f)
structure ZI(X:Cx)(B:Bz)(tg e:Expr)(f:FA):Prop where p:PI X tg e (Rl B.G f)
structure ZO(X:Cx)(B:Bz)(e:Option Expr)(f:FO):Prop where p:PO X e (tFO B.G f)
structure ZG(X:Cx)(B:Bz)(e:Expr)(n:Nat)(f:FG):Prop where p:PG X e (χ B.G n f)
structure ZH(X:Cx)(B:Bz)(e:List Expr)(n:Nat)(f:bh->aU->Option aU):Prop where p:K3 X e (RP B.G n f)
structure ZK(X:Cx)(e:Option Expr)(i:Option Int):Prop where p:PO X e (tO i)
structure ZP(X:Cx)(B:Bz)(pos:Pos)(ks:List (Option Expr))(vs:List Expr)(l:List (Str×FE)):Prop where p:PPs X pos ks vs (SQ B.G l)
abbrev Gz(X:Cx)(x:Str):Prop:=X.b1.kindOf x=Z .globalImplicit
abbrev Dz(x:Str):Prop:=(x==("__debug__" : Str))=δ
abbrev Nz(x:Str):Prop:=(decide (x≠"__name__")&&!(x==("__debug__" : Str)))=γ
abbrev Sz(X:Cx)(e:Expr)(a:List Expr):Prop:=aF (e::a) X.b1=(δ,eval e X.b1)::aF a X.b1
abbrev S1(X:Cx)(e:Expr):Prop:=aF [e] X.b1=[(δ,eval e X.b1)]
abbrev Lz(X:Cx)(pos:Pos)(a:List Expr):Prop:=(bI pos (aF a X.b1)).any (·.1)=δ
abbrev Wz(X:Cx)(e o:Expr)(pos:Pos):Prop:=dt e (Z o) pos.line X.b1=pure δ
abbrev Az(X:Cx)(o:Expr)(m:Str):Prop:=eG o m X.b1 (eval o X.b1)=eval o X.b1
abbrev Ez(p pos:Pos):Prop:=(p.endLine==pos.line)=γ
abbrev Iz(e:Expr):Prop:=(λo i=>subscripted e δ o i)=λo i=>operate [o,i] (getItem o i)
abbrev Fz(X:Cx)(e:Expr):Prop:=(λx=>iB e X.b1 x)=λx=>pure x
class Cz(X:Cx)(B:outParam Bz)(k:outParam Nat):Prop where
 P:X.prog=B.P
 w:X.w=B.w
 K:X.K=B.G.K
 mg:X.mg=B.mg
 b:X.b'=B.b'
 c:X.nr=γ
 r:wM k X.A
class Yb(B:Bz):Prop where y:Yw B.P B.w B.mg B.b' B.G
class Df(B:Bz)(j:outParam Nat)(x:Str)(sp:Sp):Prop where p:∃ps,Gg B.P B.w B.G.K B.mg B.b' j x ps sp
class Kf(B:Bz)(j:outParam Nat)(x:Str)(c:Nat)(g:bh->Option (aB×bh))(dds:bh):Prop where
 p:∃ps,KW B.G B.P B.w B.mg B.b' j x c ps (dds.map vD) g
 f:dds.all xh=γ
class Mf(B:Bz)(j:outParam Nat)(m:Str)(g:Nat->Option (bh->Option D)):Prop where p:∀c h,g c=Z h->FK B.G B.P B.w B.mg B.b' j m c h
class Ff(B:Bz)(ok:Nat->Bool)(f:Str):Prop where p:∀c,ok c=γ->Mn B.G.K (B.G.ca c)/\Ad B.G.K (B.G.ca c) f
class Af(B:Bz)(c:Nat)(xs:outParam aB):Prop where p:CF B.G.K (B.G.ca c) xs
class Nb(B:Bz)(x:Str):Prop where p:B.mg x=O
class Co(B:Bz)(x:Str)(d:D):Prop where p:Dl B.G B.mg x d
class Ic(B:Bz)(x:Str)(t:Ty->Option Bool):Prop where p:∃c,Ib B.G c t/\B.mg x=Z (.ref (B.G.ca c))
class Ij(B:Bz)(n:Nat):Prop where p:∀j k,j<n->k<n->B.G.ca j=B.G.ca k->j=k
class μ(op:Operator)(g:D->D->Option D):Prop where p:∀(X:Cx) (G:Bg),∃r,i0 X (cG op) r/\j? G r g
instance in1:μ .Mod uR:=⟨λz z=>⟨_,YG,Zk⟩⟩
instance in2:μ .FloorDiv vF:=⟨λz z=>⟨_,U4,Zl⟩⟩
instance in3:μ .Mult xO:=⟨λz z=>⟨_,YF,Zj⟩⟩
instance in4:μ .Sub DD:=⟨λz z=>⟨_,YE,Zi⟩⟩
instance in5:μ .Pow R7:=⟨λz z=>⟨_,YH,Zm⟩⟩
instance in6:μ .Add vp:=⟨λz z=>⟨_,YD,Zh⟩⟩
instance in7:μ .Add Ck:=⟨λz z=>⟨_,Nc,VZ⟩⟩
instance in8:μ .Mult Ia:=⟨λz z=>⟨_,Nu,Wq⟩⟩
class A7(op:CmpOp)(g:D->D->Option D):Prop where p:∀(X:Cx) (G:Bg),X.K=G.K->X.A.units+64<cLine->∃r,i0 X (bB op) r/\j? G r g
instance in9:A7 .Eq (er δ):=⟨λz z h u=>⟨_,Zr u h,acZ⟩⟩
instance in10:A7 .NotEq (er γ):=⟨λz z h u=>⟨_,Zs u h,ac0⟩⟩
instance in11:A7 .In (oy δ):=⟨λz z h z=>⟨_,Zt h,Xx⟩⟩
instance in12:A7 .NotIn (oy γ):=⟨λz z h z=>⟨_,Qf h,Xx⟩⟩
instance in13:A7 .Is Ag:=⟨λz z z z=>⟨_,YK,Zo⟩⟩
instance in14:A7 .IsNot y3:=⟨λz z z z=>⟨_,U5,V0⟩⟩
instance in16:A7 .Lt NA:=⟨λz z z z=>⟨_,acu,acV⟩⟩
instance in17:A7 .LtE yK:=⟨λz z z z=>⟨_,acv,acW⟩⟩
instance in18:A7 .Gt FJ:=⟨λz z z z=>⟨_,acw,acX⟩⟩
instance in19:A7 .GtE Zg:=⟨λz z z z=>⟨_,acx,acY⟩⟩
instance in20:A7 .LtE R8:=⟨λz z z z=>⟨_,P7,Zn⟩⟩
class B1(x:Str)(g:D->Option D):Prop where p:∀(X:Cx) (G:Bg),X.K=G.K->X.nr=γ->∃(id:String) (r:bJ->Hp->VK->Prop),v5 X (.builtin id) r/\JO G r g/\dR x=Z (.builtin id)
instance in21:B1 "len" vH:=⟨λz z h z=>⟨_,_,Qh h,w5,qf⟩⟩
instance in22:B1 "all" yL:=⟨λz z h c=>⟨_,_,Qi c h,Zv,boot_all⟩⟩
instance in23:B1 "any" G5:=⟨λz z h c=>⟨_,_,Qo c h,Zz,boot_any⟩⟩
class KtC(x:Str)(T:outParam String):Prop where p:(∀(X:Cx) (G:Bg) y b,v7 T y=Z b->cQ X.K (y.val G) (.type T)=Z b)/\dR x=Z (.type T)
instance in24:KtC "str" "str" := ⟨λz z=>V6,Pv.boot_str⟩
instance in25:KtC "int" "int" := ⟨λz z=>Wn,qT⟩
instance in26:KtC "bool" "bool" := ⟨λz z=>SO,Pv.boot_bool⟩
instance in27:KtC "list" "list" := ⟨λz z=>Sn,qF⟩
instance in28:KtC "tuple" "tuple" := ⟨λz z=>U?,qy⟩
theorem XD:∀{dds:bh},dds.all xh=γ->b? G H dds (dds.map vD)
 |[],_=>u7
 |d::a,h=>by rw[fZ,aQ]at h;exact vg (EF h.1 H) (XD h.2)
def eqI{c:Sort u}{a b:c}(h:a=b):a=b:=h
def A6(X:Cx)(i:Nat)(x:Str):Bool:=decide (X.N[i]?=Z x)&&(match X.b1.scope.names.lookup x with|some .local=>γ|some .cell=>γ|some .free=>γ|_=>δ)&&!(x==("__debug__" : Str))&&!(x==("__classdict__" : Str))
def ub(X:Cx)(i:Nat)(x:Str):Bool:=decide X.N.Nodup&&decide (X.N[i]?=Z x)&&(match X.b1.scope.names.lookup x with|some .local=>γ|some .cell=>X.fn x|_=>δ)
section
variable{X:Cx}{B:Bz}{k j i n c0:Nat}{x m:Str}{e e' o tg it:Expr}{es:List Expr}{p p2 p3 pos apos:Pos}{f f' f2:FE}{a:FA}{g:D->D->Option D}
set_option tactic.hygienic true
def P?(h:A6 X i x=γ):PE X (.Name x p) (Ep i):=by
 unfold A6 at h;simp only[aQ,bz,eD]at h;obtain⟨⟨⟨c,b⟩,d⟩,l⟩:=h;refine pv i c ?_ d l;split at b
 .rename_i e;exact .inl e
 .rename_i e;exact .inr (.inl e)
 .rename_i e;exact .inr (.inr e)
 .cases b
set_option tactic.hygienic false
def adb(h:A6 X i x=γ):ZE X B (.Name x p) (cV i):=⟨Nw (P? h)⟩
def Z2(h:A6 X i x=γ):ZE X B (.Name x p) (tX i):=⟨acU (P? h)⟩
def Wu(h:A6 X i x=γ):ZN X B (.Name x p) (HQ i):=⟨VW (P? h)⟩
set_option tactic.hygienic true
def K7(h:ub X i x=γ):X.N.Nodup/\X.N[i]?=Z x/\L2.Loc X.b1.scope x/\(X.fn x=γ\/X.b1.scope.names.lookup x=Z .local):=by
 unfold ub at h;simp only[aQ,bz]at h;obtain⟨⟨c,d⟩,b⟩:=h;split at b
 .rename_i e;exact⟨c,d,.inl e,.inr e⟩
 .rename_i e;exact⟨c,d,.inr e,.inl b⟩
 .cases b
set_option tactic.hygienic false
def pgI(h:ub X i x=γ):PG X (.Name x p) (zM i):=by obtain⟨b,c,d,l⟩:=K7 h;exact Om b c d l
def Z3(h:ub X i x=γ)(b:Nat.blt i n=γ):ZG X B (.Name x p) n (gN i):=⟨RQ n (pgI h) (Nat.blt_eq.mp b)⟩
def stW(h:ub X i x=γ)(q:PE X e t)(r:Wz X e (.Name x p) pos):PS X (.Assign [.Name x p] e pos) (Es t (zM i)):=by obtain⟨b,c,d,l⟩:=K7 h;exact Yu b c d q r l
def Z4(h:ub X i x=γ)(b:ZE X B e f)(c:Wz X e (.Name x p) pos):ZS X B (.Assign [.Name x p] e pos) (uM i f):=⟨OC (stW h b.p c)⟩
def Z5(h:ub X i x=γ)(b:ZN X B e a)(c:Wz X e (.Name x p) pos):ZS X B (.Assign [.Name x p] e pos) (xg i a):=⟨LS (stW h b.p c)⟩
def Z6(h:ub X i x=γ)(b:Wz X (.Dict [] [] p2) (.Name x p) pos):ZS X B (.Assign [.Name x p] (.Dict [] [] p2) pos) (HZ i):=⟨Ss (stW h LJ b)⟩
def Z7 [b:μ q g](h:ZE X B e f)(l:ZE X B e' f'):ZE X B (.BinOp e q e' pos) (c2 g f f'):=by obtain⟨r,c,d⟩:=b.p X B.G;exact⟨acM c d h.p l.p⟩
def Z8 [C:Cz X B k](b:ZE X B e f)(c:ZE X B e' f')(d:Iz e'):ZE X B (.Subscript e e' pos) (c2 ea f f'):=⟨acN (ix_X C.K) ac1 b.p c.p λo i=>congrFun (congrFun d o) i⟩
def Z9 [C:Cz X B k](b:ZE X B e f)(c:ZE X B e' f')(d:Iz e'):ZE X B (.Subscript e e' pos) (c2 DE f f'):=⟨Wb (LL C.r) b.p c.p λo i=>congrFun (congrFun d o) i⟩
section
variable{op op':CmpOp}{g':D->D->Option D}
def aaa [b:A7 op g][C:Cz X B k](h:ZE X B e f)(l:ZE X B e' f')(q:fY op e'=δ):ZE X B (.Compare e [op] [e'] pos) (c2 g f f'):=by obtain⟨r,c,d⟩:=b.p X B.G C.K C.r.units;exact⟨Y7 c d h.p l.p q⟩
def aab [b:A7 op g][C:Cz X B k](h:ZE X B e f)(l:ZE X B e' f')(q:fY op e'=δ):ZT X B (.Compare e [op] [e'] pos) (cT (c2 g f f')):=by obtain⟨r,c,d⟩:=b.p X B.G C.K C.r.units;exact⟨Vw c d h.p l.p q⟩
def aac [b:A7 op g][c:A7 op' g'][C:Cz X B k](t:ZE X B e f)(u:ZE X B e' f')(w:ZE X B o f2)(y:lastMarks [op,op'] [e',o]=δ):ZE X B (.Compare e [op,op'] [e',o] pos) (xx g g' f f' f2):=by obtain⟨r,d,h⟩:=b.p X B.G C.K C.r.units;obtain⟨z,l,q⟩:=c.p X B.G C.K C.r.units;exact⟨Sg d l h q t.p u.p w.p y⟩
def aad [b:A7 op g][c:A7 op' g'][C:Cz X B k](t:ZE X B e f)(u:ZE X B e' f')(w:ZE X B o f2)(y:lastMarks [op,op'] [e',o]=δ):ZT X B (.Compare e [op,op'] [e',o] pos) (cT (xx g g' f f' f2)):=by obtain⟨r,d,h⟩:=b.p X B.G C.K C.r.units;obtain⟨z,l,q⟩:=c.p X B.G C.K C.r.units;exact⟨Ql d l h q t.p u.p w.p y⟩
end
def aae(h:ZE X B e f)(b:(λwhole=>isTrue e X.b1 whole)=λwhole=>(do let v<-whole;standAt e.pos;holding [v] (truthy v))):ZT X B e (cT f):=⟨Vx h.p λw=>congrFun b w⟩
def aaf(d:ZT X B e b)(h:ZW X B (.BoolOp .Or (e'::es) pos) c):ZT X B (.BoolOp .Or (e::e'::es) pos) (wH b c):=⟨PW.pt (RJ d.p h.p)⟩
def aag(d:ZT X B e b)(h:ZW X B (.BoolOp .And (e'::es) pos) c):ZT X B (.BoolOp .And (e::e'::es) pos) (w6 b c):=⟨PW.pt (VA d.p h.p)⟩
def aah [C:Cz X B k][Q:Co B x d](b:Gz X x)(hd:Dz x):ZE X B (.Name x pos) (cC d):=⟨Sj (C.mg▸Q.p) b hd⟩
def aai [C:Cz X B k][Q:Ff B ok m](c:ZE X B e f)(b:Az X e m):ZE X B (.Attribute e m pos) (c1 (uC ok m) f):=⟨RU c.p (C.K▸Q.p) b⟩
section
variable(hg:Gz X x)(hd:Dz x)(hs:Sz X e es)(hl:Lz X pos es)
include hg hd
theorem dz [C:Cz X B k][Q:Df B j x d]:∃c,Gg X.prog X.w X.K X.mg X.b' j x c d:=by rw[C.P,C.w,C.K,C.mg,C.b];exact Q.p
theorem aaj{g:bh->Option bh}[C:Cz X B k][Q:Df B j x (rh B.G g)](b:gr j k=γ):ZN X B (.Call (.Name x p) [] [] pos) (vw g uQ):=by obtain⟨c,q⟩:=dz hg hd (Q:=Q);exact⟨Sh q (C.r.mono (ia.mp b)) hg hd⟩
include hs hl
theorem aak{g:bh->Option D}[C:Cz X B k][Q:Df B j x (e? B.G g)](b:ZA X B (e::es) a)(c:gr j k=γ):ZE X B (.Call (.Name x p) (e::es) [] pos) (uw g a):=by obtain⟨d,q⟩:=dz hg hd (Q:=Q);exact⟨Zx q (C.r.mono (ia.mp c)) b.p hg hd hs hl⟩
theorem aal{g:bh->Option bh}[C:Cz X B k][Q:Df B j x (rh B.G g)](b:ZA X B (e::es) a)(c:gr j k=γ):ZN X B (.Call (.Name x p) (e::es) [] pos) (vw g a):=by obtain⟨d,q⟩:=dz hg hd (Q:=Q);exact⟨V4 q (C.r.mono (ia.mp c)) b.p hg hd hs hl⟩
theorem aam{g:bh->Option (aB×bh)}{dds:bh}[C:Cz X B k][Q:Kf B j x c0 g dds](d:ZA X B (e::es) a)(h:gr (j+1) k=γ):ZE X B (.Call (.Name x p) (e::es) [] pos) (uY c0 (λc=>g (c++dds)) a):=by obtain⟨l,q⟩:=Q.p;exact⟨V5 (by rw[C.P,C.w,C.mg,C.b];exact q) (λH=>XD Q.f) (C.r.mono (ia.mp h)) d.p C.K hg hd hs hl⟩
end
def mz{g:Nat->Option (bh->Option D)}[C:Cz X B k][Q:Mf B j m g]:∀c h,g c=Z h->FK B.G X.prog X.w X.mg X.b' j m c h:=by rw[C.P,C.w,C.mg,C.b];exact Q.p
def aan{g:Nat->Option (bh->Option D)}{pl:Sem Bool}[C:Cz X B k][Q:Mf B j m g](d:ZE X B o f)(c:gr j k=γ)
  (h:eval (.Call (.Attribute o m apos) [] [] pos) X.b1=(do
   let b<-eval o X.b1
   standAt apos.atName
   let (f,first)<-holding [b] (getMethod b m pl)
   callWith pos f first (bI pos (aF [] X.b1)) (backToKw pos (dr [] X.b1)))):ZE X B (.Call (.Attribute o m apos) [] [] pos) (vd g m f uQ):=⟨NC mz (C.r.mono (ia.mp c)) d.p C.K h⟩
def aao{g:Nat->Option (bh->Option D)}{pl:Sem Bool}[C:Cz X B k][Q:Mf B j m g](l:ZE X B o f)(c:ZA X B (e::es) a)(d:gr j k=γ)(q:Sz X e es)(h:Lz X pos es)
  (t:eval (.Call (.Attribute o m apos) (e::es) [] pos) X.b1=(do
   let b<-eval o X.b1
   standAt apos.atName
   let (f,first)<-holding [b] (getMethod b m pl)
   callWith pos f first (bI pos (aF (e::es) X.b1)) (backToKw pos (dr [] X.b1)))):ZE X B (.Call (.Attribute o m apos) (e::es) [] pos) (vd g m f a):=⟨Qm mz (C.r.mono (ia.mp d)) l.p c.p C.K q h t⟩
section
variable(hg:Gz X x)(hd:Nz x)(hs:S1 X e)
include hg hd hs
theorem cbI{id:String}[C:Cz X B k][N:Nb B x](c:v5 X (.builtin id) r)(d:dR x=Z (.builtin id))(b:PA X [e] t):PE X (.Call (.Name x p) [e] [] pos) (ZX r t):=by simp only[aQ,bz,eD]at hd;exact Eu c hg (C.mg▸N.p) d b hd.1 hd.2 hs U
theorem ctI [C:Cz X B k][N:Nb B x](c:v5 X (.type T) r)(d:dR x=Z (.type T))(b:PA X [e] t):PE X (.Call (.Name x p) [e] [] pos) (ZX r t):=by simp only[aQ,bz,eD]at hd;exact PY c hg (C.mg▸N.p) d b hd.1 hd.2 hs U
theorem aap{g:D->Option D}[Q:B1 x g][C:Cz X B k][N:Nb B x](l:ZE X B e f):ZE X B (.Call (.Name x p) [e] [] pos) (c1 g f):=by obtain⟨id,r,b,d,h⟩:=Q.p X B.G C.K C.c;exact⟨Xy d (cbI hg hd hs b h (we l.p xp hs))⟩
end
section
variable(hs:S1 X e)
include hs
theorem aaq [C:Cz X B k][N:Nb B "list"](c:Gz X "list")(b:ZE X B e f):ZN X B (.Call (.Name "list" p) [e] [] pos) (zm f):=⟨Sd (ctI c (by decide) hs (NB C.K) qF (we b.p xp hs))⟩
theorem aar [C:Cz X B k][N:Nb B "tuple"](c:Gz X "tuple")(b:ZE X B e f):ZE X B (.Call (.Name "tuple" p) [e] [] pos) (zQ f):=⟨Se (ctI c (by decide) hs (Qj C.K) qy (we b.p xp hs))⟩
theorem aas [C:Cz X B k][N:Nb B "sorted"](c:Gz X "sorted")(b:ZE X B e f):ZN X B (.Call (.Name "sorted" p) [e] [] pos) (FQ f):=⟨Mp (cbI c (by decide) hs (Ju C.r.units C.K) mH (we b.p xp hs))⟩
theorem aat [C:Cz X B k][N:Nb B "sorted"](c:Gz X "sorted")(b:ZE X B e f):ZN X B (.Call (.Name "sorted" p) [e] [] pos) (D7 f):=⟨Mm (cbI c (by decide) hs (Js C.K) mH (we b.p xp hs))⟩
theorem aau [C:Cz X B k][N:Nb B "range"](c:Gz X "range")(b:ZE X B e f):ZI X B tg (.Call (.Name "range" p) [e] [] pos) (u3 f):=⟨Ny (PM c (C.mg▸N.p) (we b.p xp hs) hs)⟩
end
section
variable(hi:Gz X "isinstance")(hg:Gz X x)(hs:aF [e,.Name x p2] X.b1=[(δ,eval e X.b1),(δ,eval (.Name x p2) X.b1)])(hs':S1 X (.Name x p2))
include hi hg hs hs'
theorem aav [Q:KtC x T][C:Cz X B k][N:Nb B "isinstance"][c:Nb B x](d:ZE X B e f)(hd:Nz x):ZE X B (.Call (.Name "isinstance" p) [e,.Name x p2] [] pos) (c1 (vz (v7 T)) f):=by
 simp only[aQ,bz,eD]at hd;refine⟨OH (Eu (JP (.b T) (Q.p.1 X B.G) Sm C.K) hi (C.mg▸N.p) lK (xm d.p (xm (UX hg (C.mg▸c.p) Q.p.2 U hd.1 hd.2) Ae ?_) ?_) (by decide) (by decide) ?_ ?_)⟩
 .exact hs'
 .rw[hs,hs']
 .rw[hs,hs']
 .rw[hs'];rfl
theorem aaw [Q:Ic B x t][C:Cz X B k][N:Nb B "isinstance"](b:ZE X B e f)(hd:Dz x):ZE X B (.Call (.Name "isinstance" p) [e,.Name x p2] [] pos) (c1 (vz t) f):=by
 obtain⟨c,d,h⟩:=Q.p;refine⟨OH (Eu (NI d C.K) hi (C.mg▸N.p) lK (xm b.p (xm (G9 hg (C.mg▸h) U hd) Ae ?_) ?_) (by decide) (by decide) ?_ ?_)⟩
 .exact hs'
 .rw[hs,hs']
 .rw[hs,hs']
 .rw[hs'];rfl
end
section
variable(hb:Az X o m)(hl:Ez apos pos)(hs:S1 X e)
include hb hl hs
theorem bmI{id:String}[C:Cz X B k](h:jT T)(slot:Slot T m id)(hty:typeOf (.builtin id)=pure (.type "method_descriptor"))(c:MtR X id r)(d:PE X o to)(b:PA X [e] t):PE X (.Call (.Attribute o m apos) [e] [] pos) (tBM B.G.K T r to t):=
 Nv B.G.K h slot hty c d b hb (by rw[hs];rfl) hl hs U C.K
end
section
variable(h:A6 X i x=γ)(hb:Az X (.Name x p) m)(hl:Ez apos pos)(hs:S1 X e)
include h hb hl hs
theorem aax [C:Cz X B k](c:m="append")(b:ZE X B e f):ZE X B (.Call (.Attribute (.Name x p) m apos) [e] [] pos) (y7 i f):=by subst c;exact⟨Qd (bmI hb hl hs jA kX oO Fu (P? h) (we b.p xp hs))⟩
theorem aay [C:Cz X B k](c:m="extend")(b:ZE X B e f):ZE X B (.Call (.Attribute (.Name x p) m apos) [e] [] pos) (Cp i f):=by subst c;exact⟨NK (bmI hb hl hs jA oM F.type_list_extend (C.K▸NJ) (P? h) (xm b.p Ae hs))⟩
end
def aaz [C:Cz X B k](h:ZE X B e f)(l:ZE X B e' f')(c:Az X e "get")(d:Ez apos pos)(b:S1 X e'):ZE X B (.Call (.Attribute e "get" apos) [e'] [] pos) (c2 BX f f'):=⟨Sr (LL C.r) h.p l.p ⟨c,by rw[b];rfl,d,by rw[b];rfl⟩⟩
def aaA [C:Cz X B k][Q:Af B c0 l](d:l.contains m=γ)(h:A6 X i x=γ)(c:ZE X B e f)(b:Wz X e (.Attribute (.Name x p) m apos) pos):ZS X B (.Assign [.Attribute (.Name x p) m apos] e pos) (ve c0 i m f):=⟨VU (YM (P? h) c.p b) (by obtain⟨i,_,e⟩:=kQ (kH.1 d);exact C.K▸Q.p.at i (ck.2 ⟨_,e⟩))⟩
def aaB [C:Cz X B k](h:A6 X i x=γ)(b:ZE X B e' f')(d:ZE X B e f)(c:Wz X e (.Subscript (.Name x p) e' apos) pos):ZS X B (.Assign [.Subscript (.Name x p) e' apos] e pos) (yp i f' f):=⟨Su (Vk (LL C.r) (P? h) b.p d.p c)⟩
def aaC [Q:Ij B n](h:ZE X B e f):ZE X B e (DF n f):=⟨Wl Q.p h.p⟩
section
variable{ks:List (Option Expr)}{kfs:List (Str×FE)}
def aaD:ZP X B pos [] [] []:=⟨Vl⟩
def aaE(c:ZE X B e f)(b:ZP X B pos ks es kfs):ZP X B pos (Z (.Constant (.str y) j p)::ks) (e::es) ((y,f)::kfs):=⟨Rw QV c.p b.p⟩
def aaF(h:ZP X B pos ks es kfs)(c:(ks.all (·.isSome)&&decide (ks.length=es.length)&&!ks.isEmpty&&decide (ks.length<=15)&&decide (kfs.map λq=>(Sum.inr q.1:ey)).Nodup&&decide (kfs.length<=15))=γ):ZE X B (.Dict ks es pos) (Gq kfs):=by simp only[aQ,bz,eD]at c;obtain⟨⟨⟨⟨⟨a1,d⟩,b⟩,l⟩,r⟩,t⟩:=c;exact⟨Wp (Vm h.p a1 d (λz=>by rw[z]at b;cases b) l) r t⟩
end
def aaG{lo:Option Expr}{fl:FO}[C:Cz X B k](c:ZE X B e f)(l:ZO X B lo fl)(d:ZO X B h b):ZN X B (.Subscript e (.Slice lo h O p) pos) (EJ f fl b):=⟨NG (Ex (sl_X C.K) c.p l.p d.p)⟩
def aaH{lo:Option Expr}[C:Cz X B k](b:ZE X B e f)(q:ZK X lo l)(c:ZK X d h):ZN X B (.Subscript e (.Slice lo d O p) pos) (XC f l h):=⟨Qk (Ex (sl_X C.K) b.p q.p c.p)⟩
def aaI:ZK X (Z (.Constant (.int y) j pos)) (Z y):=⟨Sf⟩
def aaJ:ZK X O O:=⟨ac2⟩
def aaK [C:Cz X B k](h:ZE X B e f):ZI X B tg e (iL f):=⟨LX (LO B.G.K h.p C.K)⟩
def aaL [C:Cz X B k](h:ZE X B e f):ZI X B tg e (iT f):=⟨VX (Vr B.G.K h.p C.K)⟩
def aaM(h:ZE X B e f):ZI X B tg e (iD f):=⟨SG (Wj h.p)⟩
def aaN(h:ZE X B e f):ZI X B tg e (iS f):=⟨Wc (Y1 h.p)⟩
section
variable{gg:FG}{gs:bh->aU->Option aU}
def Wv:ZH X B [] n Cg:=⟨VH U0⟩
def Ww(b:ZG X B e n gg)(c:ZH X B es n gs)(d:(cZ (e::es) X.b1).map (·.2)=assign e X.b1::(cZ es X.b1).map (·.2)):ZH X B (e::es) n (vc gg gs):=⟨RR (QX b.p c.p d)⟩
def Wx [C:Cz X B k](h:ZH X B es n gs)(b:(cZ es X.b1).length=l)(d:(cZ es X.b1).findIdx? (·.1)=O):ZG X B (.Tuple es q pos) n (gT gs l):=⟨VI (Vt B.G.K C.c h.p b d C.K)⟩
end
def tgN:Expr->aB
 |.Name x _=>[x]
 |.Tuple es _ _=>es.filterMap λe=>match e with|.Name x _=>Z x|_=>O
 |_=>[]
def cpN(X:Cx)(tg:Expr)(ew:List Nat):aB:=tgN tg++ew.map λj=>X.N.getD j ""
instance inCz [C:Cz X B k]{d:aB}{q:cM}{h:List (Str×Addr)}{A:Addr}{l:List Addr}{s:ae}{H:Hp}:Cz (v8 X d q h A l s H) B k:=⟨C.P,C.w,C.K,C.mg,C.b,C.c,C.r⟩
def cpOk(X:Cx)(b:aB)(sc:cM)(n:Nat)(ew:List Nat):Bool:=decide ew.Nodup&&decide (sc.kind=.function)&&(sc.names.all λy=>y.2 != .cell)&&(sc.names.all λy=>y.2 != .local||sc.names.lookup y.1==Z .local)&&(sc.names.all λy=>y.2 != .free||(X.b1.kindOf y.1==Z .cell||X.b1.kindOf y.1==Z .free))&&decide (b.length=n+ew.length)&&decide ((b.drop n).map Z=ew.map λj=>X.N[j]?)&&((b.drop n).all λx=>sc.names.lookup x==Z .free)
section
variable{sc:cM}{ew:List Nat}{ifs:List Expr}{gg:FG}{ft:FT}{s:FA}
 (h0:cpOk X (cpN X tg ew) sc n ew=γ) (hs:Fz X it) (hi:ZI X B tg it s)
 (h1:∀(cl:List (Str×Addr)) (A:Addr) (fp:List Addr) (s:ae) (H:Hp),ZG (v8 X (cpN X tg ew) sc cl A fp s H) B tg n gg)
 (h2:∀(cl:List (Str×Addr)) (A:Addr) (fp:List Addr) (s:ae) (H:Hp),ZF (v8 X (cpN X tg ew) sc cl A fp s H) B ifs ft)
 (h3:∀(cl:List (Str×Addr)) (A:Addr) (fp:List Addr) (s:ae) (H:Hp),ZE (v8 X (cpN X tg ew) sc cl A fp s H) B e f)
include h0 hs hi h1 h2 h3
theorem aaP [C:Cz X B k]:ZN X B (.ListComp e [⟨tg,it,ifs,0⟩] sc pos) (uF n ew s gg ft f):=by unfold cpOk at h0;simp only[aQ,bz]at h0;obtain⟨⟨⟨⟨⟨⟨⟨a1,b⟩,d⟩,h⟩,l⟩,q⟩,r⟩,t⟩:=h0;exact⟨RZ a1 (Vq C.c hi.p (λcl A fp s H=>⟨(h1 cl A fp s H).p,(h2 cl A fp s H).p,(h3 cl A fp s H).p⟩) b d h l q r t λx=>congrFun hs x)⟩
theorem cpW [C:Cz X B k](h:ub X i x=γ)(F:dt (.ListComp e [⟨tg,it,ifs,0⟩] sc pos) (Z (.Name x p)) apos.line X.b1=pure γ):PS X (.Assign [.Name x p] (.ListComp e [⟨tg,it,ifs,0⟩] sc pos) apos) (Es (Ge (Rl B.G s) (χ B.G n gg) (m? B.G ft) (tF B.G f) n ew) (zM i))/\ew.Nodup:=by unfold cpOk at h0;simp only[aQ,bz]at h0;obtain⟨⟨⟨⟨⟨⟨⟨a1,b⟩,d⟩,l⟩,q⟩,r⟩,t⟩,u⟩:=h0;obtain⟨w,y,z,E⟩:=K7 h;exact⟨V7 C.c w y z hi.p (λcl A fp s H=>⟨(h1 cl A fp s H).p,(h2 cl A fp s H).p,(h3 cl A fp s H).p⟩) b d l q r t u (λx=>congrFun hs x) F E,a1⟩
theorem aaQ [C:Cz X B k](h:ub X i x=γ)(b:dt (.ListComp e [⟨tg,it,ifs,0⟩] sc pos) (Z (.Name x p)) apos.line X.b1=pure γ):ZS X B (.Assign [.Name x p] (.ListComp e [⟨tg,it,ifs,0⟩] sc pos) apos) (uM i (cL (uF n ew s gg ft f))):=by have z:=cpW h0 hs hi h1 h2 h3 h b;exact⟨So z.2 z.1⟩
theorem aaR [C:Cz X B k](h:ub X i x=γ)(b:dt (.ListComp e [⟨tg,it,ifs,0⟩] sc pos) (Z (.Name x p)) apos.line X.b1=pure γ):ZS X B (.Assign [.Name x p] (.ListComp e [⟨tg,it,ifs,0⟩] sc pos) apos) (xg i (uF n ew s gg ft f)):=by have z:=cpW h0 hs hi h1 h2 h3 h b;exact⟨Qn z.2 z.1⟩
end
section
variable{st:Stmt}{sts:List Stmt}{fs fs':FS}{ft:FT}{a':FA}{z1:Nat}
def ade(b:ZE X B e f)(c:ZA X B es a)(d:Sz X e es):ZA X B (e::es) (ax f a):=⟨we b.p c.p d⟩
def adf:ZA X B [] uQ:=⟨xp⟩
def aaS(h:ZN X B e a):ZE X B e (cL a):=⟨Zd h.p⟩
def adg:ZE X B (.Constant (.str y) j pos) (cC (.str y)):=⟨Y5⟩
def adh:ZE X B (.Constant (.int y) j pos) (cC (.int y)):=⟨Y4⟩
def adi:ZE X B (.Constant (.bool y) j pos) (cC (.I y)):=⟨acL⟩
def adj:ZE X B (.Constant .none j pos) (cC .E):=⟨Y6⟩
def Mq(b:ZS X B st fs)(c:ZB X B sts fs'):ZB X B (st::sts) (bt fs fs'):=⟨RM b.p c.p⟩
def adk(b:ZS X B st fs):ZB X B [st] fs:=⟨VF b.p⟩
def adl:ZB X B [] uD:=⟨VE⟩
def aaT(h:ZE X B e f):ZS X B (.Return (Z e) pos) (uy f):=⟨VG h.p⟩
def aaU(h:ZN X B e a):ZS X B (.Return (Z e) pos) (vJ a):=⟨RN h.p⟩
def aaV(h:ZE X B e f)(b:dt e O pos.line X.b1=pure δ):ZS X B (.Expr e pos) (uW f):=⟨RO h.p b⟩
def aaW(h:ZT X B e ft)(b:ZB X B sts fs)(c:ZB X B sts' fs'):ZS X B (.If e sts sts' pos) (fc ft fs fs'):=⟨Zf h.p b.p c.p⟩
def aaX:ZE X B e NH:=⟨Sv⟩
def aaY(h:ZA X B es a):ZN X B (.List es pos) (uK a):=⟨VB h.p⟩
def aaZ(h:ZA X B es a):ZE X B (.Tuple es z1 pos) (uO a):=⟨Zc h.p⟩
def aa0(b:ZE X B e f)(c:ZE X B e' f'):ZN X B (.BinOp e .Add e' pos) (vV f f'):=⟨V2 b.p c.p⟩
def aa1 [C:Cz X B k](b:ZE X B e f)(c:ZE X B e' f'):ZE X B (.BinOp e .Add e' pos) (EI f f'):=⟨We b.p c.p C.K⟩
def aa2(b:ZE X B e f)(c:ZE X B (.BoolOp .And (e'::es) pos) f'):ZE X B (.BoolOp .And (e::e'::es) pos) (vU f f'):=⟨Za b.p c.p⟩
def aa3(b:ZE X B e f)(c:ZE X B (.BoolOp .Or (e'::es) pos) f'):ZE X B (.BoolOp .Or (e::e'::es) pos) (Hs f f'):=⟨acP b.p c.p⟩
def aa4{c}(b:ZE X B e f):ZE X B (.BoolOp c [e] pos) f:=⟨Y9 b.p⟩
def aa5(b:ZE X B e f):ZE X B (.UnaryOp .Not e pos) (HL f):=⟨Zb b.p⟩
def aa6(b:ZT X B e ft):ZT X B (.UnaryOp .Not e pos) (vZ ft):=⟨Vy b.p⟩
def aa7(h:ZT X B o ft)(b:ZE X B e f)(c:ZE X B e' f'):ZE X B (.IfExp o e e' pos) (u2 ft f f'):=⟨acQ h.p b.p c.p⟩
def adm(h:ZT X B e ft):ZF X B [e] ft:=⟨Vp h.p⟩
def adn:ZF X B [] vC:=⟨R0⟩
def aa8(h:ZE X B e f):ZE X B e (KU f):=⟨Zw h.p⟩
def aa9(h:ZT X B e ft):ZT X B e (Gf ft):=⟨V3 h.p⟩
def aba(h:ZE X B e f):ZO X B (Z e) (sh f):=⟨ZD h.p⟩
def abb:ZO X B O oNo:=⟨ZC⟩
def abc(c:ZT X B e ft)(d:ZW X B (.BoolOp .Or (e'::es) pos) b):ZW X B (.BoolOp .Or (e::e'::es) pos) (wH ft b):=⟨RJ c.p d.p⟩
def abd(h:ZT X B e ft):ZW X B (.BoolOp .Or [e] pos) ft:=⟨Vz h.p⟩
def abe(h:ZT X B e ft):ZW X B (.BoolOp .And [e] pos) ft:=⟨RI h.p⟩
end
def abf [C:Cz X B k](r:jV (model X.prog X.w) X.A X.b1 X.xe)(u:X.N.length=n)(q:ZI X B tg it s)(l:ZG X B tg n d)(h:ZB X B body b)(t:Fz X it):ZS X B (.For tg it body [] pos) (xA s d b):=⟨VY (Q3 r C.c q.p l.p h.p λx=>congrFun t x)⟩
def abg(l:jV (model X.prog X.w) X.A X.b1 X.xe)(h:ZT X B e c)(d:ZB X B body b):ZS X B (.While e body [] pos) (whL c b n):=⟨Qe n (QZ l h.p d.p)⟩
end
end L4
namespace L4
open PySem PySem.Spec PyProof.Rows L2 L3
open PySem.W (fnOf)
def H?(st:Stmt):aB:=(uS st).names.filterMap λy=>match y.2 with|.local=>Z y.1|.cell=>Z y.1|_=>O
def psO(st:Stmt):aB:=(xU st).args.map (·.arg)
def okO(N a:aB)(st:Stmt)(b n:Nat):Bool:=decide ((uS st).kind=.function)&&(uS st).isCoroutine==δ&&(uS st).isGenerator==δ&&decide N.Nodup&&decide (N.take a.length=a)&&(a.all λx=>match (uS st).names.lookup x with|some .local=>γ|some .cell=>γ|_=>δ)&&((uS st).names.all λy=>y.2 != .free)&&decide (a.length=b)&&decide (N.length=n)
set_option tactic.hygienic true
def Bx{st:Stmt}(h:okO N ps st np n=γ):xn N ps (uS st)/\ps.length=np/\N.length=n:=by
 unfold okO at h;simp only[aQ,bz,beq_iff_eq]at h;obtain⟨⟨⟨⟨⟨⟨⟨⟨a,b⟩,c⟩,d⟩,f⟩,i⟩,j⟩,l⟩,m⟩:=h;refine⟨⟨a,b,c,d,f,λx o=>?_,λy p e=>?_⟩,l,m⟩
 .have z:=aH.1 i x o;split at z
  .rename_i e;exact .inl e
  .rename_i e;exact .inr e
  .cases z
 .have z:=aH.1 j y p;rw[e]at z;exact ar z (by decide)
section
variable{B:Bz}[Y:Yb B]{x m qual:Str}{st s0:Stmt}{l:List Stmt}{k c np n:Nat}{b:FS}{p:Str}{ps xs:aB}{N:aB}
set_option tactic.hygienic false
abbrev V'(B:Bz)(N:aB)(qual:Str)(st:Stmt)(l:List Stmt)(k:Nat)(b:FS):Prop:=∀{f:Addr} {cdv:ab} {A:aK} {d?:List Env} {s:ae} {H:Hp} {E:XK} [Cz (HW B.P B.w B.G.K B.mg B.b' N qual st f cdv A d? s H E) B k],ZB (HW B.P B.w B.G.K B.mg B.b' N qual st f cdv A d? s H E) B l b
omit Y in
def V'.ok(h:V' B N qual st l k b)(a:vm st=l):Bdy B.P B.w B.G.K B.mg B.b' N qual st k (ma B.G b):=λf cdv A d? s H E d=>by subst a;exact(@h f cdv A d? s H E ⟨U,U,U,U,U,U,d⟩).p
def fm(d:g=e3 np n b)(q:GD B.G.K x st)(e:vm st=s0::l)(body:V' B (H? st) x st (s0::l) k b)(S:okO (H? st) (psO st) st np n=γ:=by kernel_rfl)(a:Bds x x st (psO st):=by (repeat intro _);rfl):Df B (k+1) x (e? B.G g):=
 ⟨_,gF d Y.y q (Bx S).1 (body.ok e) (Bx S).2.1 (Bx S).2.2 a⟩
def gF5(N:aB)(d:g=e3 np n b)(q:GD B.G.K x st)(e:vm st=s0::l)(body:V' B N x st (s0::l) k b)(S:okO N (psO st) st np n=γ:=by kernel_rfl)(a:Bds x x st (psO st):=by (repeat intro _);rfl):Df B (k+1) x (e? B.G g):=
 ⟨_,gF d Y.y q (Bx S).1 (body.ok e) (Bx S).2.1 (Bx S).2.2 a⟩
def L?(d:g=r? np n b)(q:GD B.G.K x st)(e:vm st=s0::l)(body:V' B (H? st) x st (s0::l) k b)(S:okO (H? st) (psO st) st np n=γ:=by kernel_rfl)(a:Bds x x st (psO st):=by (repeat intro _);rfl):Df B (k+1) x (rh B.G g):=
 ⟨_,gN' d Y.y q (Bx S).1 (body.ok e) (Bx S).2.1 (Bx S).2.2 a⟩
theorem MS(C:CF B.G.K (B.G.ca c) xs)(h:g=e3 np n b)(q:GM B.G.K (B.G.ca c) m qual st)(j:vm st=s0::l)(body:V' B (H? st) qual st (s0::l) k b)(S:okO (H? st) (psO st) st np n=γ:=by kernel_rfl)(d:Bds m qual st (psO st):=by (repeat intro _);rfl):FK B.G B.P B.w B.mg B.b' (k+1) m c g:=by obtain⟨f,e,a,i,F⟩:=q;exact⟨f,e,_,C.ci.cl,⟨a,i,F.kp⟩,d.ok F,Si h (Bx S).2.1 (Bx S).2.2 F (Bx S).1 (body.ok j f)⟩
def Wo(C:CF B.G.K (B.G.ca c) xs)(a:iZ B.G.K bg x=Z (Z (.ref (B.G.ca c))))(e:g=sm c np n b)(q:GM B.G.K (B.G.ca c) "__init__" qual st)(f:vm st=s0::l)(h:psO st=p::ps)(body:V' B (H? st) qual st (s0::l) k b)(S:okO (H? st) (p::ps) st (np+1) n=γ:=by kernel_rfl)(d:Bds "__init__" qual st (p::ps):=by (repeat intro _);rfl):Kf B (k+1) x c g []:=
 ⟨⟨_,gI e Y.y C a q (Bx S).1 (body.ok f) (mB (Bx S).2.1) (Bx S).2.2 d⟩,U⟩
def gJ4{dds:bh}(C:CF B.G.K (B.G.ca c) xs)(a:iZ B.G.K bg x=Z (Z (.ref (B.G.ca c))))(t:g=sm c np n b)(q:GJ B.G.K (B.G.ca c) qual st (dds.map vD))(u:vm st=s0::l)(w:psO st=p::ps)(body:V' B (H? st) qual st (s0::l) k b)(j:Nat)(S:okO (H? st) (p::ps) st (np+1) n=γ:=by kernel_rfl)(e:dds.all xh=γ:=by rfl)
  (o:NU (dds.map vD).length λdl=>NU ((p::ps).length - ((dds.map vD).drop j).length) λf=>∀(T:Addr) (kV doc pm:ab) (i:Option Addr) (cdv r:ab),∃k,bindArgs (fnOf "__init__" qual (xU st) (vm st) (uS st) (.ref T) kV doc pm i cdv r) ⟨f,[]⟩=seqItems? (.ref T)>>=k/\k (Z dl.toArray)=pure ((p::ps).zip (f++dl.drop j)):=by (repeat intro _);exact⟨_,U,U⟩):Kf B (k+1) x c g (dds.drop j):=
 ⟨⟨_,by rw[gY];exact gJ t Y.y C a q (Bx S).1 (body.ok u) j (mB (Bx S).2.1) (Bx S).2.2 o⟩,by
  rw[aH]at e ⊢;exact λd h=>e d (n8 h)⟩
def Cu(n:Nat)(a:Nat->Addr):∀k,k<n->((az n).map a).getD k 0=a k:=λk h=>by rw[bN,bu,kO h];rfl
def injR{n:Nat}{a:Nat->Addr}(h:decide ((az n).map a).Nodup=γ):∀j k,j<n->k<n->a j=a k->j=k:=λj k d f e=>by rw[<-Cu n a j d,<- Cu n a k f]at e;exact Z1 (bp h) (by simpa using d) (by simpa using f) e
def Bi:Nat->(Nat->Prop)->Prop
 |0,_=>True
 |n+1,Q=>Q 0/\Bi n λk=>Q (k+1)
theorem Bi.at:∀{n:Nat} {Q:Nat->Prop},Bi n Q->∀k,k<n->Q k
 |_+1,_,h,0,_=>h.1
 |_+1,_,h,k+1,a=>Bi.at h.2 k (iy a)
end
section
variable{X:Cx}{B:Bz}{k j i n:Nat}{x y:Str}{e e' tg:Expr}{es:List Expr}{p p2 p3 pos apos:Pos}{f f':FE}{a:FA}{st:Stmt}{sts:List Stmt}{fs fs':FS}{ft:FT}
def abh [C:Cz X B k](m:ZE X B e f)(o:ZE X B e' f')(q:ZE X B b d)(h:Az X e "get")(l:Ez apos pos)(c:aF [e',b] X.b1=[(δ,eval e' X.b1),(δ,eval b X.b1)]):ZE X B (.Call (.Attribute e "get" apos) [e',b] [] pos) (EK f f' d):=⟨Sw (LL C.r) m.p o.p q.p ⟨h,by rw[c];rfl,l,by rw[c];rfl⟩⟩
def abi(o:X.N.length=n)(d:ZE X B e f)(h:ZG X B tg n b)(l:swapsWithSole [tg] e pos.line X.b1=pure δ)(m:swappedStores [tg] e X.b1=pure O)(c:(cZ [tg] X.b1).map (·.2)=[assign tg X.b1]):ZS X B (.Assign [tg] e pos) (FC f b):=⟨VJ (Yt d.p h.p l m c)⟩
def abj [C:Cz X B k][N:Nb B "int"](d:Gz X "int")(b:S1 X e)(c:ZE X B e f):ZE X B (.Call (.Name "int" p) [e] [] pos) (c1 V1 f):=⟨Xy Zu (ctI d (by decide) b PQ qT (we c.p xp b))⟩
end
end L4
namespace L4
open PySem PySem.Spec PyProof.Rows L2 L3
def K8(f:FE)(lo c:Option Int):FE:=λd=>match f d with
 |some (.cx a,b)=>if HT.fy a.length 0 lo=0/\HT.fy a.length a.length c=a.length then O else Z (.cx (gi a lo c),b)
 |_=>O
section
variable{X:Cx}{G:Bg}
set_option tactic.hygienic true
def QA{lo:Option Int}(h:PE X e (tSl (YO G.K) (tF G f) (tO lo) (tO t))):PE X e (tF G (K8 f lo t)):=PE.eb h λC H Q q=>by
 obtain⟨F,w,j,A,x,R,e,k⟩:=q;unfold K8 at e;split at e
 .rename_i B y m;split at e
  .cases e
  .rename_i i;cases e;refine⟨F,w,j,_,_,R,m,λv z l s b r=>?_⟩;unfold eg at r;obtain⟨a,u,rfl,o,d⟩:=r;rw[uB d]at i;exact⟨a,u,U,f3.mono b.sub o,i,λp c=>k _ _ _ (s.t (uJ (b.e7 c) _)) (b.zE c _) (Dh (f3.of uz) (b?.mono (uJ (b.e7 c) _) _ _ (EH d)))⟩
 .cases e
set_option tactic.hygienic false
def sl_T(hK:X.K=G.K:=by rfl):SlR X (YO G.K):=by rw[<-hK];exact Ro
end
section
variable{X:Cx}{B:Bz}{k:Nat}{e:Expr}{f:FE}{p pos:Pos}
def abk{lo:Option Expr}[C:Cz X B k](a:ZE X B e f)(d:ZK X lo l)(b:ZK X c h):ZE X B (.Subscript e (.Slice lo c O p) pos) (K8 f l h):=⟨QA (Ex (sl_T C.K) a.p d.p b.p)⟩
end
theorem Mr{f:Type}[DecidableEq f]:∀{l L:List f},l.Nodup->(∀x∈l,x∈L)->l.length<=L.length
 |[],L,_,_=>bH _
 |a::l,L,i,h=>by have c:=h a aY;have b:=dj.1 i;have:=Mr b.2 λx d=>(oa (λe:x=a=>b.1 (by rw[<-e];exact d))).2 (h x (ba _ d));rw[nI c]at this;have:=jo c;rw[aP];omega
structure Tb(t:bO)(m n:Nat):Prop where
 mask:t.mask=m
 dm:t.dummies=#[]
 pl:t.place.size=n
section
variable{t:bO}{m n:Nat}
theorem Tb.slot(T:Tb t m n)(j:Nat):(∃i,t.slot j=.live i/\t.place[i]?=Z j)\/t.slot j=.empty:=by
 unfold SetTable.slot;by_cases h:(t.place[dP t.place j]?==Z j)=γ
 .left;simp only[h,if_true];exact⟨_,U,fG h⟩
 .right;rw[pI]at h;rw[T.dm];simp[h,qG]
def Tb.free(T:Tb t m n)(h:n<=m):∃r,r<=m/\t.slot r=.empty:=by
 apply ky;intro no;have:(az (m+1)).length<=t.place.toList.length:=Mr pJ λr a=>by
  rcases T.slot r with ⟨i,_,e⟩|e
  .rw[<-iz]at e;exact cv e
  .exact ar ⟨r,by have:=bA.1 a;omega,e⟩ no
 rw[bF,bX,T.pl]at this;omega
def p5(t:bO):Nat->fD->Prop
 |0,_=>False
 |f+1,p=>t.slot p.j=.empty\/p5 t f (t.advance p)
theorem p5.mono:∀{f a:Nat} {p:fD},p5 t f p->f<=a->p5 t a p
 |0,_,_,h,_=>h.elim
 |f+1,0,_,_,h=>ar h (by omega)
 |f+1,a+1,p,h,b=>h.imp id λh=>h.mono (by omega)
def rs(m i q:Nat):fD:=⟨i,fC m i - i,i,q,O⟩
def abl(m i:Nat):fC m i - i<=9:=by unfold fC;split<;>omega
theorem p5.run(T:Tb t m n)(h:p5 t f (rs m ((i * 5+1+q / 32) % (m+1)) (q / 32))):∀(k j:Nat),p5 t (f+k+1) ⟨j,k,i,q,O⟩
 |0,j=>.inr (by
   have e:t.advance ⟨j,0,i,q,O⟩=rs m ((i * 5+1+q / 32) % (m+1)) (q / 32):=by unfold lA SetTable.leap;rw[T.mask];rfl
   rw[e];exact h)
 |k+1,j=>.inr (by
   have e:t.advance ⟨j,k+1,i,q,O⟩=⟨j+1,k,i,q,O⟩:=by unfold lA;rw[ah (hU k)];rfl
   rw[e];exact p5.run T h k (j+1))
def p5.leap(T:Tb t m n)(h:p5 t f (rs m ((i * 5+1+q / 32) % (m+1)) (q / 32))):p5 t (f+10) (rs m i q):=
 (p5.run T h (fC m i - i) i).mono (by have:=abl m i;omega)
def orb(m:Nat):Nat->Nat->List Nat
 |0,_=>[]
 |k+1,i=>i::orb m k ((i * 5+1) % (m+1))
theorem p5.orb(T:Tb t m n)(a:t.slot r=.empty):∀(k i:Nat),r∈orb m k i->p5 t (10 * k) (rs m i 0)
 |0,i,h=>by cases h
 |k+1,i,h=>by
  rcases aO.1 h with e|h
  .exact p5.mono (f:=1) (.inl (by rw[e]at a;exact a)) (by omega)
  .have:=p5.leap T (q:=0) (p5.orb T a k _ h);exact this.mono (by omega)
def OV(a:m=7\/m=31)(b:i<=m)(c:r<=m):r∈orb m (m+1) i:=by
 have h:∀m∈[7,31],((az (m+1)).all λi=>(az (m+1)).all λr=>(orb m (m+1) i).contains r)=γ:=by decide +kernel
 have:=aH.1 (aH.1 (h m (by rcases a with rfl|rfl<;>simp)) i (bA.2 (by omega))) r (bA.2 (by omega));exact kH.1 this
theorem p5.all(T:Tb t m n)(c:m=7\/m=31)(d:n<=m):∀(k i q:Nat),i<=m->q<32 ^ k->p5 t (10 * (k+(m+1))) (rs m i q)
 |0,i,q,b,a=>by
  obtain⟨r,f,e⟩:=T.free d;have h:=by simpa using a
  rw[h,iQ];exact p5.orb T e _ _ (OV c b f)
 |k+1,i,q,b,a=>by have:=p5.leap T (p5.all T c d k ((i * 5+1+q / 32) % (m+1)) (q / 32) (o9 (aE _ (hU m))) (by rw[qH]at a;omega));exact this.mono (by omega)
def p5.start(T:Tb t m n)(b:m=7\/m=31)(c:n<=m)(h:Int):p5 t (10 * (m+14)) (t.probeStart h):=by
 have a:cN h<32 ^ 13:=by unfold cN;omega
 have:=p5.all T b c 13 (cN h % (m+1)) (cN h) (o9 (aE _ (hU m))) a;have e:t.probeStart h=rs m (cN h % (m+1)) (cN h):=by unfold SetTable.probeStart;rw[T.mask];rfl
 rw[e];exact this.mono (by omega)
def S6{p:fD}(h:p.dummy=O):(t.advance p).dummy=O:=by unfold lA;split<;>exact h
theorem S7(T:Tb t m n)(F:Nat->Int)(h:Int):∀(f:Nat) (p:fD),p.dummy=O->p5 t f p->∀g,f<=g->(∃j,t.slot j=.empty/\iG t F h g p=Z (.empty j O))\/
  ∃j i next c,c<f/\t.slot j=.live i/\t.place[i]?=Z j/\F i=h/\iG t F h g p=Z (.candidate j i next)/\next.dummy=O/\p5 t c next
 |0,p,_,a,g,_=>a.elim
 |f+1,p,hd,a,0,o=>ar o (by omega)
 |f+1,p,hd,a,g+1,o=>by
  unfold iG;rcases T.slot p.j with ⟨i,b,q⟩|b
  .have a:=a.resolve_left λe=>by rw[b]at e;cases e
   rw[b];dsimp only;by_cases d:F i=h
   .right;exact⟨p.j,i,t.advance p,f,di f,b,q,d,by rw[ah (by rw[d];simp)],S6 hd,a⟩
   .rw[aj (by simpa using d)];rcases S7 T F h f (t.advance p) (S6 hd) a g (by omega)with l|⟨j,w,x,c,l,r,u⟩
    .exact .inl l
    .exact .inr ⟨j,w,x,c,by omega,r,u⟩
  .left;rw[b];exact⟨p.j,b,by rw[hd]⟩
end
def abm(e:∀i,F i=F' i)(g:Nat)(p:fD):iG t F h g p=iG t F' h g p:=by obtain rfl:F=F':=funext e;rfl
section
variable{prog:aJ}{w:aA}{A:aK}{E:ab->ae->Prop}{s:ae}
def Iq(b:∀v∈l,∃k a,v=.ref a/\TK prog w s.heap k a)(f:TK prog w s.heap j i)(h:Q δ s):ao (model prog w) A (searchCouldBeSeen (.ref i) l) Q E s:=by
 refine ag ?_;refine jF _ (λfb r d=>r=(O,())/\d=s/\∀v∈fb,∃k a,v=.ref a/\TK prog w s.heap k a) _ ?_ ?_ _ _ ⟨U,U,b⟩
 .rintro v fb r d ⟨rfl,rfl,hall⟩;obtain⟨k,a1,rfl,b⟩:=hall v aY;have e:=λu c=>hall u (ba _ c);dsimp only;split
  .exact aq ⟨U,U,e⟩
  .refine ag (nW f ?_);refine ag (nW b ?_);refine ag (ON f ?_);refine ag (ON b ?_);exact aq ⟨U,U,e⟩
 .rintro r d ⟨rfl,rfl,_⟩;exact aq h
structure Els(prog:aJ)(w:aA)(h:Heap)(L:List (List ey×Addr))(es:Array (Int×ab)):Prop where
 tk:∀q∈L,TK prog w h q.1 q.2
 p:(es.toList.map bY).Perm (L.map λq=>Value.ref q.2)
variable{L:List (List ey×Addr)}{es:Array (Int×ab)}{t:bO}{m n ep:Nat}{S a2:Addr}{k2:List ey}{o:Obj}{h:Int}
theorem Mu(G:A.units<cLine)(T:Tb t m n)(F:m=7\/m=31)(c:t.fits es.size=γ)(l:Els prog w s.heap L es)(B:TK prog w s.heap k2 a2)(H:k2∉L.map c7)
  (z:s.heap.get? S=Z o) (hd:o.data=.set es ep t) (hQ:∀j,t.slot j=.empty->Q (.free j δ) s):∀(fuel f:Nat) (st:Option fD),f<fuel->f<=10 * gV m->(st.getD (t.probeStart h)).dummy=O->p5 t f (st.getD (t.probeStart h))->
   ao (model prog w) A (setSearchFrom S (.ref a2) h γ fuel st) Q E s
 |0,f,st,C,_,_,_=>ar C (by omega)
 |fuel+1,f,st,C,Y,hdm,b=>by
  have sz:=by unfold iP at c;rw[aQ,beq_iff_eq,T.pl]at c;exact c.1.symm
  refine ag (c5 z hd c ?_);dsimp only;rw[aj (by unfold SetTable.gaveWay;rw[T.mask];rcases F with rfl|rfl<;>decide)];unfold SetTable.probe;rw[abm (F':=λi=>(es[i]?.map (·.1)).getD 0),T.mask]
  rotate_left
  .intro i;rfl
  rcases S7 T (λi=>(es[i]?.map (·.1)).getD 0) h f _ hdm b (10 * gV m) Y with ⟨j,I,u⟩|⟨j,i,nx,J,h1,N,P,h4,R,W,X⟩
  .rw[u];exact aq (hQ j I)
  .rw[R];dsimp only;have hi:i<es.size:=by rw[sz,<- T.pl];exact(nz.1 P).1
   obtain⟨⟨M,y⟩,d⟩:∃e,es[i]?=Z e:=⟨es[i],jh hi⟩;have my:y∈es.toList.map bY:=aG.2 ⟨(M,y),by rw[<-iz]at d;exact cv d,U⟩;obtain⟨q,r,rfl⟩:=aG.1 (l.p.mem_iff.1 my);have t1:=l.tk q r;have nk:=λe=>H (aG.2 ⟨q,r,e⟩);have si:t.sameMemory t.moves m=Z γ:=by unfold SetTable.sameMemory;simp
   have fb:=Mu G T F c l B H z hd hQ fuel J (Z nx) (by omega) (by omega) W X;have sb:∀v∈c8 (λx:Int×ab=>x.snd) (Array.filter (λx=>x.fst==h) es).toList,∃k a,v=Value.ref a/\TK prog w s.heap k a:=λv hv=>by
    obtain⟨e,b,rfl⟩:=aG.1 hv;have b:=by rw[Array.toList_filter]at b;exact(bb.1 b).1
    obtain⟨q,r,u⟩:=aG.1 (l.p.mem_iff.1 (aG.2 ⟨e,b,U⟩));exact⟨q.1,q.2,u.symm,l.tk q r⟩
   cases hb:t.led;refine ag (Iq sb B ?_)
   all_goals
    rw[d];refine ag (cF (wpAny_eqBool_tuple G t1 B ?_));refine ag (c5 z hd c ?_);rw[aR nk];rw[aj (by decide),si];dsimp only;rw[ah U,N];dsimp only;rw[d];refine ag (wpAny_isSame_ref_self ?_);refine ag (aq ?_);exact fb
end
def Nn(a:Array (Option Nat))(j:Nat):Prop:=(a.getD j (Z 0)).isNone=γ
section
variable{ow:Array (Option Nat)}
def abn(i:Nat):0<fC 31 i+1 - i:=by unfold fC;split<;>omega
def JX:(∃j,Nn ow j/\d7 31 ow (f+1) i q=Z j)\/(¬Nn ow i/\d7 31 ow (f+1) i q=d7 31 ow f ((i * 5+1+q / 32) % 32) (q / 32)):=by
 have a:d7 31 ow (f+1) i q=match (az (fC 31 i+1 - i)).find? λk=>(ow.getD (i+k) (Z 0)).isNone with
  |some k=>Z (i+k)
  |none=>d7 31 ow f ((i * 5+1+q / 32) % 32) (q / 32):=rfl
 rw[a];cases e:(az (fC 31 i+1 - i)).find? λk=>(ow.getD (i+k) (Z 0)).isNone with
 |some k=>exact .inl ⟨i+k,lL (p:=λk=>(ow.getD (i+k) (Z 0)).isNone) e,U⟩
 |none=>refine .inr ⟨λh=>?_,U⟩;have:=la.1 e 0 (bA.2 (abn i));exact this h
theorem Mw(c:Nn ow r):∀(k f i:Nat),k<=f->r∈orb 31 k i->∃j,Nn ow j/\d7 31 ow f i 0=Z j
 |0,f,i,_,h=>by cases h
 |k+1,0,i,b,_=>ar b (by omega)
 |k+1,f+1,i,b,h=>by
  rcases JX with a|⟨a,d⟩
  .exact a
  .rcases aO.1 h with e|h
   .exact ar (e▸c) a
   .rw[d];exact Mw c k f _ (by omega) h
theorem Mx(e:Nn ow r)(a:r<=31):∀(k f i q:Nat),k+32<=f->i<=31->q<32 ^ k->∃j,Nn ow j/\d7 31 ow f i q=Z j
 |0,f,i,q,b,d,c=>by
  have m:=by simpa using c
  rw[m];exact Mw e 32 f i (by omega) (OV (.inr U) d a)
 |k+1,0,i,q,b,_,_=>ar b (by omega)
 |k+1,f+1,i,q,b,d,c=>by
  rcases JX with h|⟨_,l⟩
  .exact h
  .rw[l];exact Mx e a k f _ _ (by omega) (by omega) (by rw[qH]at c;omega)
def lv(ow:Array (Option Nat)):List (Nat×Nat):=(az 32).filterMap λj=>(ow.getD j O).map (j,·)
def ado(b:ow.size=32)(h:Nn ow j):j<32/\ow.getD j O=O:=by
 unfold Nn at h;by_cases a:j<ow.size
 .refine⟨by omega,?_⟩;rw[gE,jh a]at h ⊢;simpa using h
 .rw[gE,Array.getElem?_eq_none (by omega)]at h;cases h
def abo(p:ow.size=32)(h:Nn ow j):(lv (ow.setIfInBounds j (Z k))).Perm ((j,k)::lv ow):=by
 obtain⟨o,e⟩:=ado p h;have get:∀i,(ow.setIfInBounds j (Z k)).getD i O=if i=j then Z k else ow.getD i O:=λi=>by
  rw[gE,gE,Array.getElem?_setIfInBounds];by_cases c:j=i
  .subst c;rw[ah U,ah (by omega),ah U];rfl
  .rw[aj c,aj (λe=>c e.symm)]
 obtain⟨a,b,m⟩:=List.append_of_mem (bA.2 o);have d:(az 32).Nodup:=pJ;rw[m,cq,dj]at d;unfold lv;rw[m,nX,nX,ee,ee,get j,ah U,e];have eq:∀l:List Nat,j∉l->l.filterMap (λi=>((ow.setIfInBounds j (Z k)).getD i O).map (i,·))=l.filterMap λi=>(ow.getD i O).map (i,·):=λl f=>by
  induction l with
  |nil=>rfl
  |cons i l q=>rw[ee,ee,q λz=>f (ba _ z),get i,aj λe=>f (by rw[<-e];exact aY)]
 rw[eq a λz=>d.2.2 j z j aY U,eq b d.2.1.1];exact List.perm_middle
theorem S8:∀(b:List Int) (ow:Array (Option Nat)) (k:Nat),ow.size=32->((lv ow).map bY).Perm (az k)->k+b.length<=31->∃a,a.size=32/\((lv a).map bY).Perm (az (k+b.length))/\
  (b.foldl (λacc h=>do
   let (owner,k)<-acc;let j<-d7 31 owner (gV 31) (cN h % (31+1)) (cN h)
   pure (owner.setIfInBounds j (Z k),k+1)) (Z (ow,k)))=Z (a,k+b.length)
 |[],ow,k,c,d,_=>⟨ow,c,d,U⟩
 |h::b,ow,k,c,d,o=>by
  rw[aP]at o ⊢;have fr:∃r,r<=31/\Nn ow r:=by
   apply ky;intro no;have len:(lv ow).length=32:=by
    have:∀l:List Nat,(∀j∈l,j<=31)->(l.filterMap λj=>(ow.getD j O).map (j,·)).length=l.length:=λl i=>by
     induction l with
     |nil=>rfl
     |cons j l w=>
      have f:=i j aY;have q:=λe=>no ⟨j,f,e⟩;cases e:ow.getD j O with
      |none=>refine ar ?_ q;unfold Nn;rw[gE,jh (by omega)]at e ⊢;simpa using e
      |some x=>rw[ee,e];show (List.filterMap _ l).length+1=l.length+1;rw[w λz u=>i z (ba _ u)]
    exact(this (az 32) λj f=>by have:=bA.1 f;omega).t bF
   have:=d.length_eq;rw[af,bF,len]at this;omega
  obtain⟨r,t,A⟩:=fr;have p:cN h<32 ^ 13:=by unfold cN;omega
  obtain⟨j,y,m⟩:=Mx A t 13 (gV 31) (cN h % (31+1)) (cN h) (by decide) (by omega) p;obtain⟨a,B,C,E⟩:=S8 b (ow.setIfInBounds j (Z k)) (k+1) (by rw[Array.size_setIfInBounds];exact c) (by
   refine((abo c y).map bY).t ?_;rw[aS,jJ];exact((List.Perm.cons k d).t (ku k _).symm)) (by omega)
  refine⟨a,B,by rw[show k+(b.length+1)=k+1+b.length by omega];exact C,?_⟩;rw[iN,show k+(b.length+1)=k+1+b.length by omega,<- E];congr 1;show (d7 31 ow (gV 31) (cN h % (31+1)) (cN h)).bind _=_;rw[m];rfl
def WA(a:Array Int)(i:a.size<=31):∃t order,qz 31 f mv led pl a=Z (t,order)/\Tb t 31 a.size/\t.led=led/\t.plain=pl/\order.toList.Perm (az a.size):=by
 obtain⟨ow,h,b,c⟩:=S8 a.toList (pZ 32 O) 0 (by simp) (by
  have:lv (pZ 32 O)=[]:=by unfold lv;rw[List.filterMap_eq_nil_iff];intro j d;rw[gE,Array.getElem?_replicate,ah (bA.1 d)];rfl
  rw[this];exact .nil) (by rw[bX];omega)
 rw[iQ,bX]at b c;have e:pb 31 a=Z ow:=by unfold pb;rw[<-Array.foldl_toList];exact bL (qX c7) c
 refine⟨_,_,by unfold qz;rw[e];rfl,⟨U,U,?_⟩,U,U,?_⟩
 .have:=b.length_eq;rw[af,bF]at this;show (c8 _ (lv ow)).toArray.size=_;rw[bj,af,this]
 .exact b
end
def Cz2(m n:Nat):Prop:=(m=7/\n<=4)\/(m=31/\n<=18)\/(m=127/\19<=n/\n<=63)
section
variable{prog:aJ}{w:aA}{A:aK}{E:ab->ae->Prop}{s:ae}
theorem S9(d:TK prog w s.heap (Sum.inr x::p) a)(h:Q δ s):ao (model prog w) A (hashByValue 8 (.ref a)) Q E s:=by
 have hT:=d.typeIs;obtain⟨o,items,n,i,_,hd,c⟩:=d;refine ag (iM hT F.slot_tuple_hash.lookup ?_);refine ag (lS i hd ?_);refine ag ?_;show ao _ _ (forIn items _ _) _ _ s;rw[<-oN];generalize items.toList=l at c ⊢;cases c with
 |@cons _ v _ j f m=>
  obtain⟨t,rfl⟩:∃t,v=.str x t:=OP f;refine jF _ (λfb r b=>b=s/\∃u,fb=.str x t::u) _ ?_ ?_ _ _ ⟨U,j,U⟩
  .rintro v fb r b ⟨rfl,u,e⟩;cases e;refine ag (aq ?_);exact aq (aq h)
  .rintro r b ⟨rfl,u,e⟩;cases e
variable{L:List (List ey×Addr)}{es:Array (Int×ab)}{t:bO}{m n ep:Nat}{S a2:Addr}{k2:List ey}{o:Obj}{h:Int}
def Ta(p:t.mask=7)(a:s.heap.get? S=Z o)(hd:o.data=.set es ep t)(l:t.fits es.size=γ)(j:es.size=5)
  (hQ:∀h' es' t',dS S s.heap h'->h'.get? S=Z { o with data:=.set es' (ep+1) t' }->Tb t' 31 5->t'.led=t.led->t'.plain=t.plain->es'.toList.Perm es.toList->Q () { s with heap:=h' }):ao (model prog w) A (setRelay S (dQ 5)) Q E s:=by
 refine ag (c5 a hd l ?_);dsimp only;rw[aj (by rw[bU];decide)];obtain⟨t',order,d,T,e,f,b⟩:=WA (es.map (·.1)) (by rw[ql];omega)
 rw[ql]at T b;have c:(order.filterMap (es[·]?)).toList.Perm es.toList:=by rw[Array.toList_filterMap];exact(b.filterMap _).t (by rw[kB])
 have i:t.relaid (es.map (·.1)) (dQ 5)=Z (t',order):=d
 rw[i];have sz:=by have:=c.length_eq;rw[bX,bX]at this;exact this
 refine ag ?_;wp_delta;rw[aj (by rw[sz];simp)];refine aq ?_;refine jB a hd ?_ (by show (order.filterMap (es[·]?)).size<=aI;rw[sz,bU];omega)
 exact hQ _ _ _ (dg ..) (NM a hd) (by rw[j]at T;exact T) e f c
set_option tactic.hygienic true
def add_n(N:A.units<cLine)(T:Tb t m n)(b:Cz2 m n)(Y:n<=8)(c:t.fits es.size=γ)(l:Els prog w s.heap L es)(B:TK prog w s.heap (Sum.inr x::k2) a2)(ne:(Sum.inr x::k2)∉L.map c7)
  (d:s.heap.get? S=Z o) (hd:o.data=.set es ep t)
  (hQ:∀h' es' t' p z,dS S s.heap h'->h'.get? S=Z { o with data:=.set es' p t' }->Tb t' z (n+1)->Cz2 z (n+1)->t'.led=t.led->t'.plain=δ->(es'.toList.map bY).Perm (.ref a2::es.toList.map bY)->Q γ { s with heap:=h' }):
  ao (model prog w) A (setAddHashed S (.ref a2) h) Q E s:=by
 have b:(m=7/\n<=4)\/(m=31/\n<=9):=by unfold Cz2 at b;omega
 have hm:=b.imp And.left And.left;have sz:=by unfold iP at c;rw[aQ,beq_iff_eq,T.pl]at c;exact c.1.symm
 refine cF (ag (c5 d hd c ?_));dsimp only;rw[aj (by simp[byScan,Value.scannable])];have nm:n<=m:=by rcases b with ⟨rfl,h⟩|⟨rfl,h⟩<;>omega
 refine ag (Mu N T hm c l B ne d hd (λj hj=>?_) 100000 (10 * (m+14)) O (by rcases hm with rfl|rfl<;>decide) (by unfold gV;omega) U (p5.start T hm nm h));refine ag (c5 d hd c ?_);have P:=T.mask;have R:(t.put j).1.dummies=#[]:=by show (if qG t.dummies j then _ else t.dummies)=_;rw[T.dm];rfl
 have W:=by have:=(nU t.place (dP t.place j) j).length_eq;rw[bX,bX,Array.size_push,T.pl]at this;exact this
 have q:(jC es (t.put j).2 (h,Value.ref a2)).toList.Perm ((h,.ref a2)::es.toList):=by refine(nU es _ _).t ?_;rw[lq];exact ku _ _
 have r:=by have:=q.length_eq;rw[bX,aP,bX,sz]at this;exact this
 let f:={ (t.put j).1 with plain:=δ };have a:Tb f m (n+1):=⟨P,R,W⟩;have M:f.fits (jC es (t.put j).2 (h,Value.ref a2)).size=γ:=by unfold iP mf;rw[r,a.pl,a.dm,a.mask,aQ];exact⟨by simp,aT (by rcases b with ⟨rfl,h⟩|⟨rfl,h⟩<;>simp<;>omega)⟩
 have fin:∀i:bO,i=f->ao (model prog w) A (do
   storeSet S (jC es (t.put j).2 (h,.ref a2)) i
   if (!δ&&i.tooFull)=γ then do setRelay S (dQ (es.size+1));pure γ else pure γ) Q E s:=λi e=>by
  subst e;refine ag (jB d hd ?_ (by rw[r,bU];omega));have g1:=NM (es':=jC es (t.put j).2 (h,Value.ref a2)) (t':=f) d hd;have X:f.tooFull=decide ((n+1) * 5 >= m * 3):=by unfold SetTable.tooFull mf;rw[a.pl,a.dm,a.mask];rfl
  rw[X];by_cases u:(n+1) * 5 >= m * 3
  .rw[aT u,ah (by decide)];obtain⟨rfl,rfl⟩:m=7/\n=4:=by rcases b with ⟨rfl,h⟩|⟨rfl,h⟩<;>omega
   rw[sz];refine ag (Ta a.mask g1 U M r λh' es' t' C F G H I J=>?_);refine aq (hQ h' es' t' _ 31 ((dg ..).t C) F G (.inr (.inl ⟨U,by decide⟩)) H I ?_);exact(J.map _).t (q.map _)
  .rw[aR u,aj (by decide)];refine aq (hQ _ _ _ _ m (dg ..) g1 a ?_ U U (q.map _));rcases b with ⟨rfl,h⟩|⟨rfl,h⟩
   .exact .inl ⟨U,by omega⟩
   .exact .inr (.inl ⟨U,by omega⟩)
 split
 .refine ag (S9 B ?_);exact fin _ U
 .rename_i y;refine ag (aq (fin _ ?_));rw[pI]at y;rw[ah U];show (t.put j).1={ (t.put j).1 with plain:=δ };rw[<-y]
end
set_option tactic.hygienic false
structure K9(h:Heap)(S:Addr)(L:List (List ey×Addr))(led:Bool)(n:Nat)(o:Obj)(es:Array (Int×ab))(ep:Nat)(t:bO):Prop where
 j1:h.get? S=Z o
 ex:o.ExactSet
 d:o.data=.set es ep t
 c:∃m,Tb t m n/\Cz2 m n
 led:t.led=led
 pl:0<n->t.plain=δ
 p:(es.toList.map bY).Perm (L.map λq=>Value.ref q.2)
def K9.sz{h:Heap}{S:Addr}{L:List (List ey×Addr)}{led:Bool}{n:Nat}{o:Obj}{es:Array (Int×ab)}{ep:Nat}{t:bO}(x:K9 h S L led n o es ep t):es.size=L.length:=by have:=x.p.length_eq;rw[af,af,bX]at this;exact this
theorem K9.fits{h:Heap}{S:Addr}{L:List (List ey×Addr)}{led:Bool}{n:Nat}{o:Obj}{a:Array (Int×ab)}{b:Nat}{t:bO}(x:K9 h S L led n o a b t)(d:L.length=n):t.fits a.size=γ:=by obtain⟨m,T,c⟩:=x.c;unfold iP mf;rw[x.sz,d,T.pl,T.dm,T.mask,aQ];exact⟨by simp,aT (by unfold Cz2 at c;simp;omega)⟩
section
variable{prog:aJ}{w:aA}{A:aK}{R:gu->ae->Prop}{I:Addr}{fp wr:List Addr}{GG:Array gq->Array gq->Prop}{n:Nat}{PP:Nat->ab->Prop}{SS:Nat->ae->Prop}
def QB(W:WalksS prog w A.in1 I fp wr GG n PP SS){S:Addr}{led:Bool}(hSf:S∉fp)(Q:A.in1.units<cLine)(L:List (List ey×Addr))(hn:L.length=n)(h8:n<=8)(nd:(L.map c7).Nodup)(hk:∀q∈L,∃x k,q.1=Sum.inr x::k)(far:∀q∈L,q.2∉S::wr)
  (hval:∀i v,PP i v->∃q,L[i]?=Z q/\v=.ref q.2):∀(k i:Nat) (s:ae) (o:Obj) (es:Array (Int×ab)) (ep:Nat) (t:bO),n - i=k->i<=n->SS i s->(∀q∈L,TK prog w s.heap q.1 q.2)->K9 s.heap S (L.take i) led i o es ep t->
   (∀f o es ep t,Moved (S::wr) GG s f->K9 f.heap S L led n o es ep t->R (.ok (.ret .none)) f)->
   cz (model prog w) A (.builtin "set.update.loop" ⟨[.ref S,.ref I],[]⟩) R s:=by
 have hSw:=λz=>hSf ((W).sub _ z);have J:∀b∈wr,b∈S::wr:=λb z=>ba _ z;intro k
 induction k with
 |zero=>
  intro i s o es ep t F hi hst tk x hR;obtain rfl:i=n:=by omega
  refine dO gG ?_;rw[d9 dE _];refine ag (W.done s _ _ hst λf hm=>?_);rw[gL (by omega)]at x;exact aq (hR f o es ep t (hm.mono J) { x with j1:=hm.heap S _ hSw x.j1 })
 |succ k ih=>
  intro i s o es ep t F hi hst tk x hR;have hlt:i<n:=by omega
  refine dO gG ?_;rw[d9 dE _];refine ag (W.item i s _ _ hlt hst λv f hP hst' hm=>?_);obtain⟨q,eq,rfl⟩:=hval i v hP;have G:=cv eq;have a:=λq P=>(tk q P).gw λo=>hm.heap q.2 o λz=>far q P (J _ z);refine ag (cF ?_);unfold setAdd;refine cF ?_;refine ag (wpAny_pyHash_tuple Q (a q G) ?_);obtain⟨m,T,c⟩:=x.c;obtain⟨z,kk,M⟩:=hk q G;have tq:TK prog w f.heap (Sum.inr z::kk) q.2:=by rw[<-M];exact a q G
  have split:L.take (i+1)=L.take i++[q]:=by rw[fT,eq];rfl
  have ne:=λw'=>by have N:((L.take (i+1)).map c7).Nodup:=nd.sublist ((jx _ _).map _);rw[split,aZ,cq]at N;exact N.2.2 _ w' _ (bT.2 M.symm) U
  have sub:∀r∈L.take i,r∈L:=λr hr=>(jx _ _).subset hr;have u:={ x with j1:=hm.heap S _ hSw x.j1 };refine add_n Q T c (by omega) (u.fits (by rw[cm];omega)) ⟨λr hr=>a r (sub r hr),u.p⟩ tq ne u.j1 u.d λh' j X h m' B Y b3 b4 b5 b6 b7=>?_;have y:K9 h' S (L.take (i+1)) led (i+1) { o with data:=.set j h X } j h X:=by refine⟨Y,x.ex,U,⟨m',b3,b4⟩,b5.t x.led,λ_=>b6,b7.t ?_⟩;rw[split,aZ];exact(List.Perm.cons _ x.p).t (ku _ _).symm
  refine aq ⟨f7 dE _,ih (i+1) _ _ _ _ _ (by omega) hlt (W.frame _ f h' _ hst' (gS _ _) λb z o e=>?_) (λr hr=>(a r hr).gw λo e=>?_) y λH o2 E C t2 l x2=>?_⟩
  .rw[B.2 b (λy:b=S=>hSf (by rw[<-y];exact z))];exact e
  .rw[B.2 r.2 (λy:r.2=S=>far r hr (by rw[y];exact aY))];exact e
  .refine hR H o2 E C t2 (jP W.gtrans ((hm.mono J).then_heap (gS _ _) λb o z e=>?_) l) x2;rw[B.2 b (λy:b=S=>z (by rw[y];exact aY))];exact e
end
theorem La{b:Type}:∀(l:List b) (j:Nat) (x:b),l[j]?=Z x->(x::l.eraseIdx j).Perm l
 |[],j,x,h=>by cases h
 |a::l,0,x,h=>by cases h;exact .refl _
 |a::l,j+1,x,h=>(List.Perm.swap a x _).t (List.Perm.cons a (La l j x h))
theorem OW{b:Type}(a:Nat->Nat):∀(f k:Nat) (l:List b) (out:Array b),l.length=f->(qI a f k l out).toList.Perm (out.toList++l)
 |0,k,l,out,h=>by obtain rfl:=ip.1 h;rw[b9];exact .refl _
 |f+1,k,l,out,h=>by have hlt:a k % l.length<l.length:=aE _ (by omega);have e:l[a k % l.length]?=Z l[a k % l.length]:=aM hlt;unfold qI;rw[e];refine(OW a f (k+1) _ _ (by rw[oe,ah hlt];omega)).t ?_;rw[lq,b8];exact List.Perm.append_left _ (La l _ _ e)
def JY{c:Type}(b:Nat->Nat)(a:Array c):(pickOrder b a).toList.Perm a.toList:=OW b a.size 0 a.toList #[] bX
section
variable{prog:aJ}{w:aA}{A:aK}{E:ab->ae->Prop}{s:ae}
def WB(hn:n≠0)(h:∀i d,i<n->Q i { s with drawn:=d }):ao (model prog w) A (choose src n) Q E s:=λΓ p hΓ=>by show Sem.wp _ Γ (.choose src n .pure) _ _ p s;rw[Sem.wp_choose];exact⟨hn,h _ _ (aE _ (Nat.pos_of_ne_zero hn))⟩
theorem OX{f:Type}:∀(n:Nat) (xs:List f) (s:ae) {Q:List f->ae->Prop},xs.length=n->(∀c d,c.Perm xs->Q c { s with drawn:=d })->ao (model prog w) A (drawOrder n xs) Q E s
 |0,xs,s,Q,b,h=>by obtain rfl:=ip.1 b;unfold drawOrder;exact aq (h [] s.drawn (.refl _))
 |n+1,[],s,Q,b,h=>by cases b
 |n+1,a::xs,s,Q,b,h=>by unfold drawOrder;refine ag (WB (by simp) λi d hi=>?_);have e:(a::xs)[i]?=Z (a::xs)[i]:=aM hi;rw[e];refine ag (OX n _ _ (by rw[oe,ah hi];omega) λc j p=>?_);exact aq (h _ j ((List.Perm.cons _ p).t (La _ _ _ e)))
end
def x3:Slot "set_iterator" "__next__" "set_iterator.__next__" :=
 .of (owner:="set_iterator") (n:="__next__") (by rw[p0,nY];kernel_rfl) (by decide +kernel) (by decide +kernel) (by decide +kernel)
  (by first|exact .inl (by decide +kernel)|exact .inr (by decide +kernel)) (by rw[jM];kernel_rfl)
def EU:Slot "set_iterator" "__iter__" "set_iterator.__iter__" :=
 .of (owner:="set_iterator") (n:="__iter__") (by rw[p0,nY];kernel_rfl) (by decide +kernel) (by decide +kernel) (by decide +kernel)
  (by first|exact .inl (by decide +kernel)|exact .inr (by decide +kernel)) (by rw[jM];kernel_rfl)
def Jv:entryFor table "set_iterator.__next__" = Z eU.«set_iterator.__next__»:=entryFor_of_tree (by kernel_rfl)
def My:Manifest.owners.lookup (String.ofList ['r','o','t','a','r','e','t','i','_','t','e','s'].reverse)=Z Manifest.sig_set_iterator:=by kernel_rfl
def Lb(a:ab):argsOk "set_iterator.__next__" ⟨[a],[]⟩:=by unfold argsOk;rw[qA (id:="set_iterator.__next__") (n:=['_','_','t','x','e','n','_','_']) (o:=['r','o','t','a','r','e','t','i','_','t','e','s']) (by kernel_rfl) My];kernel_rfl
def Lc:entryFor table "set.__iter__" = Z eU.«frozenset.__iter__»:=qm (id':="frozenset.__iter__") (by kernel_rfl) U (by decide +kernel) (by kernel_rfl)
inductive Md(w:aA) (h:Heap) (S TP:Addr) (i:Nat) (j2:List ab) (es:Array (Int×ab)) (ep:Nat) (t:bO):ab->Prop
 |txt {sl:Int} {tk:Tok}:w.params.followText "set-order" = γ->j2=(pickOrder (w.params.setOrder S ep) es).toList.map bY->Md w h S TP i j2 es ep t (.int sl tk)
 |drw {ps:List Nat} {vs:Array ab} {ot:Obj} {nt:Nat}:w.params.followText "set-order" = δ->h.get? TP=Z ot->ot.cls=.type "tuple" -> ot.data=.seq vs nt->vs=(ps.map λp:Nat=>rawInt p).toArray->ps.Perm (az es.size)->j2=ps.filterMap (λp=>es[p]?.map bY)->Md w h S TP i j2 es ep t (.ref TP)
 |one {sl:Int}:w.params.followText "set-order" = δ->es.size<=1->t.led=γ->(i=0->sl=0)->(∀j,i=1->t.place=#[j]->sl=(j+1:Nat))->j2=es.toList.map bY->Md w h S TP i j2 es ep t (.int sl 0)
structure ItS(w:aA)(I S TP:Addr)(j2:List ab)(o:Obj)(es:Array (Int×ab))(ep:Nat)(t:bO)(i:Nat)(h:Heap):Prop where
 it:∃oi first,h.get? I=Z oi/\oi.cls=.type "set_iterator" /\ oi.data=.fields #[first,.int i 0,.ref S,.int es.size 0,.int ep 0]/\Md w h S TP i j2 es ep t first
 j1:h.get? S=Z o
 d:o.data=.set es ep t
 f:t.fits es.size=γ
section
variable{prog:aJ}{w:aA}{A:aK}{E:ab->ae->Prop}{s:ae}{I S TP:Addr}{j2:List ab}{o:Obj}{es:Array (Int×ab)}{ep:Nat}{t:bO}{i:Nat}
def FR(h:Q (w.params.followText "set-order") s):ao (model prog w) A setsByText Q E s:=by exact ag (ly (aq h))
def NW(x:ItS w I S TP j2 o es ep t i s.heap)(M:Md w s.heap S TP i j2 es ep t (.int y P))(H:i<=1\/w.params.followText "set-order" = γ)
  (hQ:∀(v:ab) (u:Nat),j2[i]?=Z v->Md w s.heap S TP (i+1) j2 es ep t (.int u 0)->Q (Z (v,u)) s) (hN:j2[i]?=O->Q O s):ao (model prog w) A (setNext S y.toNat i ep) Q E s:=by
 refine ag (c5 x.j1 x.d x.f ?_);refine ag (FR ?_);cases M with
 |txt a b=>
  rw[a,ah U];rw[aj (by simp)];refine ag ?_;refine ag (c5 x.j1 x.d x.f ?_);refine ag (FR ?_);rw[a,ah U];refine ag (ly ?_);refine aq ?_;refine aq ?_;show Q (qX (λe=>(e.snd,y.toNat)) (pickOrder (w.params.setOrder S ep) es)[i]?) s;have e:j2[i]?=((pickOrder (w.params.setOrder S ep) es)[i]?).map bY:=by rw[b,bu,iz]
  cases r:(pickOrder (w.params.setOrder S ep) es)[i]? with
  |none=>rw[r]at e;exact hN e
  |some q=>rw[r]at e;exact hQ q.2 _ e (.txt a b)
 |one a b p C F h=>
  have fs:=by have:=x.f;unfold iP at this;rw[aQ,beq_iff_eq]at this;exact this.1
  rw[a,aj (by decide)];rw[aj (λG=>by
   have:(!t.plain&&decide (es.size > 1))=γ:=G;simp at this;omega)]
  refine ag ?_;wp_delta;rw[aj (by rw[p];simp)];refine aq ?_;refine aq ?_;have c:es.size=0\/es.size=1:=by omega
  rcases c with c|c
  .have B:=Array.eq_empty_of_size_eq_zero c;subst B;exact hN (by rw[h];rfl)
  .obtain⟨e,rfl⟩:=nZ.1 c;obtain⟨j,l⟩:=nZ.1 (fs.t c);rw[l];have J:=H.resolve_right λe=>by rw[a]at e;cases e
   have:i=0\/i=1:=by omega
   rcases this with rfl|rfl
   .rw[C U];show Q (match #[e][dP #[j] 0]?,#[j][dP #[j] 0]? with|some (_,x),Z j=>Z (x,j+1)|_,_=>O) s;rw[show dP #[j] 0=0 from by simp[dP,pd]];exact hQ e.2 (j+1) (by rw[h];rfl) (.one a b p (λz=>by cases z) (λN _ m=>by rw[l]at m;cases m;rfl) h)
   .rw[F j U l];show Q (match #[e][dP #[j] (j+1)]?,#[j][dP #[j] (j+1)]? with|some (_,x),Z j=>Z (x,j+1)|_,_=>O) s;rw[show dP #[j] (j+1)=1 from by simp[dP,pd]];exact hN (by rw[h];rfl)
def ItS.ty(x:ItS w I S TP j2 o es ep t i s.heap):s.TypeIs (.ref I) "set_iterator" := let ⟨⟨c,_,a,b,_⟩,_,_,_⟩:=x;⟨c,a,b⟩
def ItS.ordlen(x:ItS w I S TP j2 o es ep t i s.heap):j2.length=es.size:=by
 obtain⟨⟨l,first,_,_,_,j⟩,_,_,_⟩:=x;cases j with
 |txt c a=>rw[a,af,(JY _ es).length_eq,bX]
 |drw c a d e f b h=>rw[h,(b.filterMap _).length_eq];have:=kB es;rw[show (az es.size).filterMap (λp=>es[p]?.map bY)=((az es.size).filterMap λp=>es[p]?).map bY from(oP ..).symm,this,af,bX]
 |one c a d e f b=>rw[b,af,bX]
theorem Tc{b d:Type}(f:b->Option d):∀(a:List b),(∀p∈a,∃v,f p=Z v)->∀i:Nat,(a.filterMap f)[i]?=a[i]?.bind f
 |[],_,i=>rfl
 |p::a,h,i=>by
  obtain⟨v,e⟩:=h p aY;rw[ee,e];cases i with
  |zero=>show Z v=f p;rw[e]
  |succ i=>exact Tc f a (λq c=>h q (ba _ c)) i
def Md.mv(m:Md w h S TP i j2 es ep t (.int j l)):Md w p S TP i j2 es ep t (.int j l):=by
 cases m with
 |txt a b=>exact .txt a b
 |one a b c d e f=>exact .one a b c d e f
def OY{B:aK}{R:Fin->ae->Prop}{a:ae}{Q:Option ab->ae->Prop}(c:B.handled=O)(hN:∀h',(∀b o,a.heap.get? b=Z o->h'.get? b=Z o)->Q O { a with heap:=h' }):
  ao (model prog w) B (do let e<-newExc (.type "StopIteration") [];raiseNew e) R (λe d=>ao (model prog w) A (do if<-isInstance e (.type "StopIteration")then pure O else throw e) Q E d) a:=by
 refine ag ?_;simp only[newExc,newTuple];refine ag (dG ?_ (by size_fits));refine ag (wpAny_of_eq (by first|rfl|(simp only[firstArgMember];rfl)) ?_);refine dG ?_ (by size_fits);simp only[raiseNew];refine ag (wpAny_handled ?_);rw[c];refine ag (aq (wpAny_throw ?_));refine ag (pK ⟨_,bx _ U,U⟩ isSubtype_stop ?_);exact aq (hN _ λb o e=>aN _ (aN _ e))
def Td(R:A.handled=O)(x:ItS w I S TP j2 o es ep t i s.heap)(hi:i<=j2.length)(hS:S≠I)(hT:TP≠I)
  (hQ:∀v h',j2[i]?=Z v->dS I s.heap h'->ItS w I S TP j2 o es ep t (i+1) h'->Q (Z v) { s with heap:=h' }) (hN:∀h',j2[i]?=O->Heap.ExtBut I s.heap h'->Q O { s with heap:=h' }):
  ao (model prog w) A (pyNext (.ref I)) Q E s:=by
 have X:=x.ordlen;obtain⟨W,first,hoi,hci,hdi,hm⟩:=x.it;refine ag (wpAny_attempt (kC x.ty x3 (fo x3 x.ty Jv ?_ (Lb _))));show ao _ _ (fieldsOf (.ref I)>>=_) _ _ s;refine ag (wpAny_fieldsOf hoi hdi ?_);refine ag ?_;refine ag (c5 x.j1 x.d x.f ?_);refine aq ?_;rw[aj (by simp)];simp only[fS];have byint:∀(sl:Int) (tk:Tok),first=.int sl tk->(i<=1\/w.params.followText "set-order" = γ)->ao (model prog w) A.in1 (do
   let r<-setNext S sl.toNat i ep
   match r with
    |some (x,next)=>do
     setField (Value.ref I) 0 (rawInt ↑next)
     setField (Value.ref I) 1 (rawInt (↑i+1))
     ret x
    |none=>do
     setField (Value.ref I) 2 Value.none
     let e<-newExc (Value.type "StopIteration") []
     raiseNew e) (λfin J=>∃v,fin=Fin.done (Flow.ret v)/\ao (model prog w) A (pure (Z v)) Q E J) (λe J=>ao (model prog w) A (do if<-isInstance e (.type "StopIteration")then pure O else throw e) Q E J) s:=λsl tk e H=>by
  subst e;refine ag (NW x hm H (λv nx a m=>?_) λa=>?_)
  .refine ag (gW hoi hdi (by simp) ?_);have g1:=fO (f9 (·.setIfInBounds 0 (rawInt (nx:Int)))) hoi (jr (fj hdi _))
   have d1:=fj hdi (·.setIfInBounds 0 (rawInt (nx:Int)))
   refine ag (gW g1 d1 (by simp) ?_);have g2:=fO (f9 (·.setIfInBounds 1 (rawInt ((i:Int)+1)))) g1 (jr (fj d1 _))
   have d2:=fj d1 (·.setIfInBounds 1 (rawInt ((i:Int)+1)))
   have h:=(dg s.heap I (f9 (·.setIfInBounds 0 (rawInt (nx:Int))))).t (dg _ I (f9 (·.setIfInBounds 1 (rawInt ((i:Int)+1)))))
   refine aq ⟨v,U,aq (hQ v _ a h ⟨⟨_,.int nx 0,g2,(lu ..).t ((lu ..).t hci),?_,m.mv⟩,?_,x.d,x.f⟩)⟩
   .rw[d2];simp[rawInt]
   .rw[h.2 S hS];exact x.j1
  .refine ag (gW hoi hdi (by simp) ?_);exact OY (by simp[R]) λh' k=>hN h' a λb o y e=>k b o (by rw[(dg ..).2 b y];exact e)
 cases hm with
 |txt l u=>exact byint _ _ U (.inr l)
 |one l u N C F G=>exact byint _ _ U (.inl (by omega))
 |@drw ps vs ot nt l u N C F G P=>
  refine ag (lS u C ?_);have M:∀p∈ps,∃v,(es[p]?.map bY)=Z v:=λp T=>by have:=bA.1 (G.mem_iff.1 T);exact⟨es[p].2,by rw[jh this];rfl⟩
  have j:j2[i]?=ps[i]?.bind λp=>es[p]?.map bY:=by rw[P];exact Tc _ ps M i
  have a:vs[i]?=ps[i]?.map λp:Nat=>rawInt p:=by rw[F,jq,bu]
  cases c:ps[i]? with
  |none=>
   rw[c]at a j;dsimp only;rw[a];refine ag (gW hoi hdi (by simp) ?_);have g1:=fO (f9 (·.setIfInBounds 0 (rawInt 0))) hoi (jr (fj hdi _))
   have d1:=fj hdi (·.setIfInBounds 0 (rawInt 0))
   refine ag (gW g1 d1 (by simp) ?_);exact OY (by simp[R]) λh' k=>hN h' j λb o y e=>k b o (by rw[(dg ..).2 b y,(dg ..).2 b y];exact e)
  |some p=>
   rw[c]at a j;obtain⟨v,z⟩:=M p (cv c);dsimp only;rw[a];show ao _ _ (setNextDrawn S (p:Int).toNat ep>>=_) _ _ s;rw[fS];refine ag ?_;refine ag (c5 x.j1 x.d x.f ?_);dsimp only;rw[aj (by simp)];cases B:es[p]? with
   |none=>rw[B]at z;cases z
   |some q=>
    rw[B]at z;refine aq ?_;refine ag (gW hoi hdi (by simp) ?_);have g1:=fO (f9 (·.setIfInBounds 1 (rawInt ((i:Int)+1)))) hoi (jr (fj hdi _))
    have d1:=fj hdi (·.setIfInBounds 1 (rawInt ((i:Int)+1)))
    have h:=dg s.heap I (f9 (·.setIfInBounds 1 (rawInt ((i:Int)+1))))
    refine aq ⟨_,U,aq (hQ _ _ (by rw[j];show es[p]?.map bY=_;rw[B];rfl) h ⟨⟨_,.ref TP,g1,(lu ..).t hci,?_,.drw l (by rw[h.2 TP hT];exact u) N C F G P⟩,?_,x.d,x.f⟩)⟩
    .rw[d1];simp[rawInt]
    .rw[h.2 S hS];exact x.j1
end
def Jw:entryFor table "set_iterator.__iter__" = Z eU.«dict_keyiterator.__iter__»:=qm (id':="dict_keyiterator.__iter__") (by kernel_rfl) U (by decide +kernel) (by kernel_rfl)
def Ld(a:ab):argsOk "set_iterator.__iter__" ⟨[a],[]⟩:=by unfold argsOk;rw[qA (id:="set_iterator.__iter__") (n:=['_','_','r','e','t','i','_','_']) (o:=['r','o','t','a','r','e','t','i','_','t','e','s']) (by kernel_rfl) My];kernel_rfl
section
variable{prog:aJ}{w:aA}{A:aK}{E:ab->ae->Prop}{s:ae}{I S TP:Addr}{j2:List ab}{o:Obj}{es:Array (Int×ab)}{ep:Nat}{t:bO}
def Md.at{h':Heap}(m:Md w h S TP i j2 es ep t f)(k:∀o,h.get? TP=Z o->h'.get? TP=Z o):Md w h' S TP i j2 es ep t f:=by
 cases m with
 |txt a b=>exact .txt a b
 |one a b c d e j=>exact .one a b c d e j
 |drw a b c d e j l=>exact .drw a (k _ b) c d e j l
def abp(l:A.handled=O)(hS:S≠I)(hT:TP≠I):Walks prog w A I [I,S,TP] [I] j2.length (λi v=>j2[i]?=Z v) (λi h=>ItS w I S TP j2 o es ep t i h/\i<=j2.length) where
 sub:=λb a=>by simp at a;simp[a]
 frame:=λi h h' st d=>by obtain⟨⟨⟨C,f,m,p,q,hm⟩,r,u,y⟩,B⟩:=st;exact⟨⟨⟨C,f,d I (by simp) _ m,p,q,hm.at λo e=>d TP (by simp) o e⟩,d S (by simp) _ r,u,y⟩,B⟩
 item:=λi s Q E hi st hQ=>Td l st.1 st.2 hS hT (λv h' c F x=>hQ v h' s.toks c ⟨x,by omega⟩ λb o a e=>by rw[F.2 b λz=>a (by simp[z])];exact e) λh' j _=>by rw[aM hi]at j;cases j
 done:=λs Q E st hQ=>Td l st.1 st.2 hS hT (λv h' c _ _=>by rw[fN (aL _)]at c;cases c) λh' _ k=>hQ h' s.toks λb o a e=>k b o (λz=>a (by simp[z])) e
 self:=λi s Q E st h=>by refine pe st.1.ty EU (fo EU st.1.ty Jw ?_ (Ld _));show ao _ _ (ret (.ref I)) _ _ s;exact aq ⟨_,U,"set_iterator", _,st.1.ty,x3.lookup,h⟩
end
end L4
namespace L4
open PySem PySem.Spec PySem.Calls PyProof.Rows PySem.W L2 L3
section
variable{prog:aJ}{w:aA}{A:aK}{E:ab->ae->Prop}{s:ae}
abbrev TkS(k:aB):List ey:=k.map Sum.inr
end
section
variable{X:Cx}{G:Bg}{H:Hp}{pins:cJ}{σ:St}{s:ae}
def d3.drw(I:d3 X pins σ H s)(d:Drawn):d3 X pins σ H { s with drawn:=d }:=⟨I.ok,I.os,I.ke,I.b',I.Dv,I.cell,I.free,I.l0,I.Dx,I.ff,I.len⟩
def setP{A:aK}{L:List (aB×Addr)}(I:d3 X pins σ H s)(hh:A.handled=O)(hu:A.units+8<cLine)(d:fx X.K H a (L.map λq=>V.ref q.2))(h8:L.length<=8)(nd:(L.map c7).Nodup)
  (P:∀q∈L,∃p r,q.1=[p,r]/\f3 X.K H q.2 [.str p,.str r])
  (h:∀c k2 o es ep t,K9 c s.heap.objs.size (L.map λq=>(TkS q.1,q.2)) (!X.w.params.followText "set-order") L.length o es ep t->(∀b o,b<s.heap.objs.size->s.heap.get? b=Z o->c.get? b=Z o)->Q (.ref s.heap.objs.size) { s with heap:=c,toks:=k2 }):
  ao (model X.prog X.w) A (call (.type "set") [.ref a]) Q E s:=by
 have h3:A.in1.in1.in1.handled=O:=by simp[hh]
 obtain⟨f,r,pp,_⟩:=I.list d;obtain⟨o,l,C,n,hd⟩:=pp.isList;have hne:=bc (eC (aV l));have tk:∀q∈L,TK X.prog X.w s.heap (TkS q.1) q.2:=λq d=>by obtain⟨p,r,e,h1⟩:=P q d;rw[e];exact ac8 I h1
 have J:=by have:=r.length;rw[af]at this;exact this
 have ev:∀(i:Nat) (v:ab),f[i]?=Z v->∃q,L[i]?=Z q/\v=.ref q.2:=λi v e=>by
  have hi:i<L.length:=by rw[J];exact(ck.1 e).1
  obtain⟨u,j,ru⟩:=r.get (by rw[bu,aM hi];rfl);rw[e]at j;cases j;exact⟨L[i],aM hi,ru⟩
 have notin:s.heap.objs.size∉[s.heap.objs.size+1,a]:=by
  intro z;rcases aO.1 z with z|z
  .exact ar z (bc (di _))
  .exact ar (bT.1 z) (gf (aV l))
 let PS:=λc=>∃o es ep t,K9 c s.heap.objs.size (L.map λq=>(TkS q.1,q.2)) (!X.w.params.followText "set-order") L.length o es ep t;refine EL (PS:=PS) l C lX kM (by decide)
  (λA Q E s1 e k=>gQ ⟨o,e,C,n,hd⟩ k) (λtk' R hR=>?_) λc k2 ⟨o,es,ep,t,x⟩ kk=>h c k2 o es ep t x kk
 have F:∀{b:Addr} {S:Obj},s.heap.get? b=Z S->((s.heap.push (zp (!X.w.params.followText "set-order"))).push { cls:=.type "list_iterator", data:=.fields #[.ref a,.int 0 0] }).get? b=Z S:=λe=>aN _ (aN _ e);have it:((s.heap.push (zp (!X.w.params.followText "set-order"))).push { cls:=.type "list_iterator", data:=.fields #[.ref a,.int 0 0] }).get? (s.heap.objs.size+1)=Z { cls:=.type "list_iterator", data:=.fields #[.ref a,.int 0 0] }:=by rw[show s.heap.objs.size+1=(s.heap.push (zp (!X.w.params.followText "set-order"))).objs.size from(cW _ _).symm];exact bx _ U
 refine QB (led:=!X.w.params.followText "set-order") (iW h3 _ a hne f.toArray).toS notin (by show A.units+1+1+1<cLine;omega) (L.map λq=>(TkS q.1,q.2)) (by rw[af,bj,J]) (by rw[bj];omega) ?_ ?_ ?_ ?_ (f.toArray.size - 0) 0 _ (zp (!X.w.params.followText "set-order")) #[] 0 (.fresh 0 0 (!X.w.params.followText "set-order")) U (bH _) ⟨⟨_,it,U,U⟩,⟨o,F l,C,n,hd⟩⟩ ?_ ?_ λs2 o2 B m t2 mv M=>?_
 .rw[aW,show (c7∘λq:aB×Addr=>(TkS q.1,q.2))=λq=>TkS q.1 from U];have:(L.map λq=>TkS q.1)=(L.map c7).map TkS:=by rw[aW];rfl
  rw[this];exact uj _ (λx y hxy e=>hxy ((List.map_inj_right λ_ _ h=>jO h).1 e)) nd
 .intro q d;obtain⟨r,hr,rfl⟩:=aG.1 d;obtain⟨p,z,e,_⟩:=P r hr;exact⟨p,[.inr z],by show TkS r.1=_;rw[e];rfl⟩
 .intro q d z;obtain⟨r,hr,rfl⟩:=aG.1 d;obtain⟨ob,_,_,e,_⟩:=tk r hr;have:=aV e;rcases aO.1 z with z|z
  .exact ar z (bc this)
  .exact ar (bT.1 z) (bc (eC this))
 .intro i v e;rw[jq]at e;obtain⟨q,T,j⟩:=ev i v e;exact⟨(TkS q.1,q.2),by rw[bu,T];rfl,j⟩
 .intro q d;obtain⟨r,hr,rfl⟩:=aG.1 d;exact(tk r hr).gw λo=>F
 .exact⟨aN _ (bx _ U),⟨U,U,U⟩,U,⟨7,⟨U,U,U⟩,.inl ⟨U,by decide⟩⟩,U,λz=>ar z (by decide),.nil⟩
 .obtain⟨c,g2,d2,k2,o2'⟩:=s2;have Y:=mv.gens;have W:=mv.drawn;have eo:=mv.os;subst Y W eo;have el:f.toArray.size=L.length:=by rw[bj,J]
  rw[el]at M;refine hR c k2 ⟨o2,B,m,t2,M⟩ λb o N e=>mv.heap b o (λz=>?_) (F e);rcases aO.1 z with z|z
  .exact ar z (bc N)
  .exact ar (bT.1 z) (bc (eC N))
end
section
variable{X:Cx}{G:Bg}{H:Hp}{pins:cJ}{σ:St}{s:ae}
theorem OZ:∀{b:bh} {f:List aB} {h:bJ},b? G H b h->ym b=Z f->∃L:List (aB×Addr),h=L.map (λq=>V.ref q.2)/\f=L.map c7/\∀q∈L,∃p r,q.1=[p,r]/\f3 G.K H q.2 [.str p,.str r]
 |[],f,h,r,e=>by cases e;unfold b? at r;subst r;exact⟨[],U,U,λq o=>by cases o⟩
 |d::b,f,h,r,e=>by
  unfold ym at e;cases c:Qz d with
  |none=>rw[c]at e;cases e
  |some k=>
   cases i:ym b with
   |none=>rw[c,i]at e;cases e
   |some t=>
    rw[c,i]at e;cases e;unfold b? at r;obtain⟨v,x,rfl,u,w⟩:=r;obtain⟨L,rfl,rfl,m⟩:=OZ w i;obtain⟨a,p,q,rfl,rfl,l⟩:=Mo u c;refine⟨([p,q],a)::L,U,U,λz j=>?_⟩;rcases aO.1 j with rfl|j
    .exact⟨p,q,U,l⟩
    .exact m z j
end
noncomputable abbrev cS(s:Str):FE:=cC (.str s)
noncomputable abbrev a1(e:FE):FA:=ax e uQ
section
variable{X:Cx}{G:Bg}{H:Hp}{pins:cJ}{σ:St}{s:ae}
def SrcG(K:au)(H:Hp)(a:Addr)(n:Nat):Prop:=ZM K H a n\/
 ∃L:List (aB×Addr),fx K H a (L.map λq=>V.ref q.2)/\L.length<=8/\(L.map c7).Nodup/\(∀q∈L,∃p r,q.1=[p,r]/\f3 K H q.2 [.str p,.str r])/\n=L.length
def adq:ZQ X SrcG:=by
 intro pins σ H s A E Q a n I c e b h;rcases b with b|⟨L,j,m,u,p,rfl⟩
 .exact ac9 I c e b h
 .refine setP I c e j m u p λl q o i f t x r=>h l q ⟨o,i,f,t,x.j1,x.ex,x.d,?_,x.fits (af _),x.sz.t (af _)⟩ r;rw[x.sz,af];unfold scanBound;omega
def Ea(a:bh):Option D:=match ym a with
 |some b=>if b.Nodup/\a.length<=8 then Z (.int a.length)else O
 |none=>O
set_option tactic.hygienic true
def QC(hK:X.K=G.K):∀{c d f b a j},Ea c=Z d->fx X.K b a j->b? G f c j->uL f b->∃n:Nat,SrcG X.K b a n/\d=.int n:=λ{c d f b a j} e i l s=>by
 unfold Ea at e;cases h:ym c with
 |none=>simp only[h]at e;cases e
 |some w=>
  simp only[h]at e;split at e
  .rename_i u;cases e;obtain⟨L,rfl,rfl,t⟩:=OZ l h;have o:=uB l;rw[af]at o;refine⟨_,.inr ⟨L,i,by omega,u.1,λq i=>?_,o⟩,U⟩;obtain⟨p,r,e,m⟩:=t q i;rw[<-hK]at m;exact⟨p,r,e,f3.mono s m⟩
  .cases e
end
set_option tactic.hygienic false
section
variable{X:Cx}{B:Bz}{k:Nat}{e:Expr}{f:FE}{p p2 p3 pos:Pos}
def abq [C:Cz X B k][N:Nb B "len"][b:Nb B "set"](i:S1 X e)(h:Gz X "len")(a:Gz X "set")(d:ZE X B e f)(z:aF [Expr.Call (.Name "set" p2) [e] [] p3] X.b1=[(δ,eval (.Call (.Name "set" p2) [e] [] p3) X.b1)]):ZE X B (.Call (.Name "len" p) [.Call (.Name "set" p2) [e] [] p3] [] pos) (c1 (EM Ea) f):=⟨NO C.K .inl (QC C.K) (Qq adq C.r.units C.c h (C.mg▸N.p) a (C.mg▸b.p) d.p z i)⟩
end
section
variable{X:Cx}{G:Bg}{C:Addr}{x:Str}{p pos:Pos}{e:Expr}{c:Nat}
structure Mk0(K:au)(C:Addr):Prop where
 Pr:makesIn K C=γ
 init:findIn K (.ref C) "__init__" = Z (Z (.builtin "object.__init__"))
 kp:keepIn K (.ref C)=γ
def QD(M:Mk0 X.K C)(l:Gl X x)(m:X.mg x=Z (.ref C))(d:(x==("__debug__" : Str))=δ):PE X (.Call (.Name x p) [] [] pos) (λt H Q=>∀y a,H y=O->H a=O->a≠y->Q (.ref y) (e0 (e0 H a (.iE y)) y (.mu C a []))):=by
 intro f s t H Q I h;refine dF (Er I l m ?_ d);refine l4 I.nj M.kp ?_;have q:=h (s.heap.objs.size+1) s.heap.objs.size (I.ff.fresh (gj _)) (I.ff.fresh (aL _)) (bc (di _));have i:=d3.made (C:=C) I;have Y:=mL (M:=model X.prog X.w) I.nj M.Pr;refine jS (PU I.nj M.Pr M.init (λself=>Looks.of_pure (oi_bind self)) ?_);have j:((s.heap.push emptyDict).push (instObj C s.heap.objs.size)).get? (s.heap.objs.size+1)=Z (instObj C s.heap.objs.size):=by rw[<-cW s.heap emptyDict];exact bx _ U
 have r:Looks (model X.prog X.w) ((s.heap.push emptyDict).push (instObj C s.heap.objs.size)) (isInstance (.ref (s.heap.objs.size+1)) (.type "object")) γ:=
  ((Looks.ld j).andThen .now:Looks (model X.prog X.w) _ (typeOf (.ref (s.heap.objs.size+1))) (.ref C)).andThen (Y.top.keeps λb o e=>aN _ (aN _ e))
 refine n4 oi_plain entry_oi (check_slot oi_kind oi_split r (oi_args _) ?_);rw[oi_run];exact aq (And.intro rfl ⟨V.ref (s.heap.objs.size+1),_,i,rfl,q⟩)
def cNew(c:Nat):FE:=λa=>Z (.obj c [] [],a)
def QE(h:PE X e (λB H Q=>∀y a,H y=O->H a=O->a≠y->Q (.ref y) (e0 (e0 H a (.iE y)) y (.mu (G.ca c) a [])))):PE X e (tF G (cNew c)):=PE.eb h λB H Q u=>by
 obtain⟨F,I,E,d,A,R,e,k⟩:=u;cases e;intro x a f hdx w;have j:(e0 H a (.iE x)) x=O:=by rw[uH (λz=>w z.symm)];exact f
 have m:uL H (e0 (e0 H a (.iE x)) x (.mu (G.ca c) a [])):=(uJ hdx _).t (uJ j _);have R2:=R.ix m (λv v e=>e) (R.sub.t m) (λb o e=>.inl e);have l:=R.e7 f;have q:=R2.q? uz l (R.gk f) (λi t r to z=>R.apart f i t r to z);refine k _ _ _ (uJ l _) q ?_;unfold eg;exact⟨x,a,[],U,uz,U,u7⟩
end
section
variable{X:Cx}{B:Bz}{k:Nat}{p pos:Pos}{x:Str}{c:Nat}
class K0f(B:Bz)(x:Str)(c:Nat):Prop where p:Mk0 B.G.K (B.G.ca c)/\B.mg x=Z (.ref (B.G.ca c))
def abt [C:Cz X B k][Q:K0f B x c](a:Gz X x)(hd:(x==("__debug__" : Str))=δ):ZE X B (.Call (.Name x p) [] [] pos) (cNew c):=⟨QE (QD (by rw[C.K];exact Q.p.1) a (by rw[C.mg];exact Q.p.2) hd)⟩
end
end L4
namespace L4
open PySem PySem.Spec PyProof.Rows L2 L3
section
variable{X:Cx}{B:Bz}{k j i m:Nat}{x:Str}{e e':Expr}{es:List Expr}{d:D}{p pos:Pos}{g:D->D->Option D}
def ads:ZB X B l Sk:=⟨λa s f H D I h=>by
 obtain⟨F,c,b,o,R,e,_⟩:=h;cases e⟩
end
end L4
namespace HT
open PySem PySem.Spec PyProof.Rows
section
variable{prog:aJ}{w:aA}{A:aK}{E:ab->ae->Prop}{s:ae}
def Dw{lo:Option Int}(a:fH s.heap t items)(c:s.heap.IsSliceOf e i j .none)(pl:d5 i lo)(f:d5 j b)
  (d:fy items.size 0 lo=0/\fy items.size items.size b=items.size)
  (h:Q (.ref t) s):ao (model prog w) A (getItem (.ref t) (.ref e)) Q E s:=by
 obtain⟨os,hos,hcs,hds⟩:=id c;have hTs:s.TypeIs (.ref e) "slice" := ⟨os,hos,hcs⟩;unfold getItem
 try with_reducible refine cF ?_
 first|refine ag (aq ?_)|skip
 refine ag (o5 a.typeIs (by decide) ?_);refine ag (kC (name:=jN "__getitem__") a.typeIs fK
  (fo fK a.typeIs og ?_ (oJ _ _)))
 show ao _ _ (ny (.ref t)>>=_) _ _ s;refine ag (qt a ?_);refine ag (hG hTs ?_);rw[ah (by decide)];refine ag (AB c pl f ?_);have hno:((((fy items.size 0 lo:Nat):Int)==0&&(1:Int)==1&&(fy items.size items.size b - fy items.size 0 lo)==items.size)=γ):=by rw[d.1,d.2];simp
 show ao _ _ (if (((fy items.size 0 lo:Nat):Int)==0&&(1:Int)==1&&(fy items.size items.size b - fy items.size 0 lo)==items.size)=γ then _ else _) _ _ s;rw[ah hno];refine ag (ag (hG a.typeIs (aq ?_)));rw[ah (by decide)];exact ag (gn (aq ⟨_,U,aq h⟩))
end
end HT
namespace L2
open PySem PySem.Spec PyProof.Rows
section
variable{X:Cx}
def rSlU(K:au):V->Option Int->Option Int->Hp->VK->Prop:=λx lo c H Q=>∃a b,x=.ref a/\f3 K H a b/\
 ((HT.fy b.length 0 lo=0/\HT.fy b.length b.length c=b.length)->Q (.ref a) H)/\(¬(HT.fy b.length 0 lo=0/\HT.fy b.length b.length c=b.length)->∀p,H p=O->Q (.ref p) (e0 H p (.cx (KC b lo c))))
def WC:SlR X (rSlU X.K):=by
 intro d s z H x v w y lo i u Q I p j pl o h;obtain⟨a,b,rfl,m,q,t⟩:=h;by_cases e:HT.fy b.length 0 lo=0/\HT.fy b.length b.length i=b.length
 .cases p;obtain⟨f,r,l,A⟩:=I.tuple m;have c:f.toArray.size=b.length:=by rw[bj];exact r.length.symm
  exact⟨"tuple", _,fK.lookup,l.typeIs,HT.Dw l j pl o (by rw[c];exact e) ⟨.ref a,H,I,U,q e⟩⟩
 .exact Ro d s z H _ v w y lo i u Q I p j pl o ⟨a,b,U,m,e,t e⟩
end
end L2
namespace L4
open PySem PySem.Spec PyProof.Rows L2 L3
section
variable{X:Cx}{G:Bg}
def Le(f:FE)(lo e:FO):FE:=λi=>match f i with
 |some (.cx d,a)=>match lo a with
  |some (l,b)=>match e b with
   |some (h,c)=>Z (.cx (gi d l h),c)
   |none=>O
  |none=>O
 |_=>O
set_option tactic.hygienic true
def QF{lo:FO}(h:PE X e (tSl (rSlU G.K) (tF G f) (tFO G lo) (tFO G W))):PE X e (tF G (Le f lo W)):=PE.eb h λσ H Q T=>by
 obtain⟨F,ρ,y,d,ρ',R,e,k⟩:=T;unfold Le at e;split at e
 .rename_i u t J;split at e
  .rename_i l c M;split at e
   .rename_i x ρ3 N;cases e;refine⟨F,ρ,y,_,_,R,J,λv z A s I r=>⟨F,t,z,l,c,I,M,λB C o R2=>⟨F,c,B,x,_,R2,N,λH3 E q b=>?_⟩⟩⟩;have m:=eg.mono (o.t q) _ _ r;have Y:=m;unfold eg at m;obtain⟨a,ys,rfl,S,w⟩:=m;refine⟨a,ys,U,f3.mono b.sub S,λj=>?_,λ_ p i=>k _ _ _ ((s.t (o.t q)).t (uJ (b.e7 i) _)) (b.zE i _) (Dh (f3.of uz) (b?.mono (uJ (b.e7 i) _) _ _ (EH w)))⟩;have P:gi u l x=u:=by unfold gi;rw[<-uB w]at j;rw[j.1,j.2];simp
    rw[P]at k;exact k _ _ _ (s.t (o.t q)) b Y
   .cases e
  .cases e
 .cases e
set_option tactic.hygienic false
def sl_U(hK:X.K=G.K:=by rfl):SlR X (rSlU G.K):=by rw[<-hK];exact WC
end
section
variable{X:Cx}{B:Bz}{k j:Nat}{x:Str}{e e':Expr}{es:List Expr}{f f':FE}{a n:FA}{p pos:Pos}{g:bh->bh->Option (D×bh)}
def abv{lo:Option Expr}{fl:FO}[C:Cz X B k](c:ZE X B e f)(i:ZO X B lo fl)(d:ZO X B h b):ZE X B (.Subscript e (.Slice lo h O p) pos) (Le f fl b):=⟨QF (Ex (sl_U C.K) c.p i.p d.p)⟩
end
mutual
def adt:D->Bool
 |.E=>γ
 |.I _=>γ
 |.int _=>γ
 |.str _=>γ
 |.cx a=>NX a
 |.b0 a=>NX a
 |_=>δ
def NX:bh->Bool
 |[]=>γ
 |d::a=>adt d&&NX a
end
section
variable{t:bO}{m n:Nat}
def tM(m:Nat):bO:=⟨m,#[],#[],0,δ,0,δ⟩
def Wy(m:Nat)(a:Nat->Prop)(j:Nat):Nat->fD->Prop
 |0,_=>False
 |f+1,p=>p.j=j\/(a p.j/\Wy m a j f ((tM m).advance p))
end
section
variable{κ α:Type}[DecidableEq κ]
def x1(l:List κ):List κ:=l.foldl (λacc k=>if k∈acc then acc else acc++[k]) []
set_option tactic.hygienic true
theorem Hl:∀(l acc:List κ),acc.Nodup->(l.foldl (λacc k=>if k∈acc then acc else acc++[k]) acc).Nodup/\∀x,x∈l.foldl (λacc k=>if k∈acc then acc else acc++[k]) acc ↔ x∈acc\/x∈l
 |[],acc,h=>⟨h,λx=>⟨.inl,λh=>h.resolve_right (by simp)⟩⟩
 |k::l,acc,h=>by
  rw[iN];split
  .rename_i f;obtain⟨c,d⟩:=Hl l acc h;refine⟨c,λx=>(d x).t ⟨λh=>h.imp id (ba _),λh=>?_⟩⟩;rcases h with h|h
   .exact .inl h
   .rcases aO.1 h with rfl|h
    .exact .inl f
    .exact .inr h
  .rename_i f;obtain⟨c,d⟩:=Hl l (acc++[k]) (cq.2 ⟨h,dj.2 ⟨cy,.nil⟩,λa i b j e=>f (by rw[<-bT.1 j,<- e];exact i)⟩);refine⟨c,λx=>(d x).t ?_⟩;rw[bq,bT,aO,or_assoc]
set_option tactic.hygienic false
def Te(l:List κ):(x1 l).Nodup:=(Hl l [] .nil).1
def Lf{l:List κ}{x:κ}:x∈x1 l ↔ x∈l:=((Hl l [] .nil).2 x).t ⟨λh=>h.resolve_left (by simp),.inr⟩
end
end L4
namespace L4
open PySem PySem.Spec PySem.Calls PyProof.Rows PySem.W L2 L3
section
variable{prog:aJ}{w:aA}{A:aK}{E:ab->ae->Prop}{s:ae}
theorem QG(h:Q 0xFCA86420 { s with toks:=s.toks+1 }):ao (model prog w) A (pyHash .none) Q E s:=by
 refine ag ?_;rw[cRoomFor,aj (by rw[show [Value.none].any Value.onHeap=δ from U];exact bE)];refine aq ?_;refine ag (iM (jQ s) jt.lookup ?_);rw[aj (by rw[beq_builtin_none];exact bE)];refine ag (iM (jQ s) jt.lookup ?_);refine ag (wpAny_callSpecialIfBoundUnlessNone?_slot (jQ s) jt
  (fo jt (jQ s) F.entry_NoneType_hash
   (show ao _ _ (do ret (<-mkInt 0xFCA86420)) _ _ s from wpAny_ret_mkInt ?_) (F.args_NoneType_hash_1 _)))
 exact aq h
def WE(h:Q γ s):ao (model prog w) A (eqBool .none .none) Q E s:=by refine cF ?_;rw[ah (show (Value.none==Value.none)=γ from U)];exact ag (gn (aq h))
def oIs:Option ey->ab->Bool
 |none,.none=>γ
 |none,_=>δ
 |some k,v=>Hr k v
def zg(h:oIs k v=γ):(k=O/\v=.none)\/(∃i t,k=Z (Sum.inl i)/\v=Value.int i t)\/∃x t,k=Z (Sum.inr x)/\v=Value.str x t:=by
 cases k with
 |none=>cases v<;>first|exact .inl ⟨U,U⟩|cases h
 |some k=>
  rcases vA h with ⟨i,t,rfl,rfl⟩|⟨x,t,rfl,rfl⟩
  .exact .inr (.inl ⟨i,t,U,U⟩)
  .exact .inr (.inr ⟨x,t,U,U⟩)
def Ms(prog:aJ)(w:aA):qo prog w (Option ey) where
 is:=oIs
 hash:=λk=>match k with|none=>0xFCA86420|some k=>keyH w k
 inj:=λv a b ha f=>by rcases zg ha with ⟨rfl,rfl⟩|⟨i,t,rfl,rfl⟩|⟨x,t,rfl,rfl⟩<;>rcases zg f with ⟨rfl,e⟩|⟨j,u,rfl,e⟩|⟨y,u,rfl,e⟩<;>first|rfl|(cases e;rfl)|cases e
 byValue:=λk v h=>by rcases zg h with ⟨rfl,rfl⟩|⟨i,t,rfl,rfl⟩|⟨x,t,rfl,rfl⟩<;>rfl
 pyHash:=λ{A E s k v Q} c h=>by
  cases k with
  |some k=>exact(uP prog w).pyHash (k:=k) c h
  |none=>
   rcases zg c with ⟨_,rfl⟩|⟨i,t,e,_⟩|⟨x,t,e,_⟩
   .exact QG h
   .cases e
   .cases e
 eqBool:=λ{A E s a b u v Q} d c h=>by
  rcases zg d with ⟨rfl,rfl⟩|⟨i,t,rfl,rfl⟩|⟨x,t,rfl,rfl⟩<;>rcases zg c with ⟨rfl,rfl⟩|⟨j,u,rfl,rfl⟩|⟨y,u,rfl,rfl⟩
  .exact WE h
  .exact oh j u _ _ _ _ h
  .exact oj y u _ _ _ _ h
  .exact om i t _ _ _ _ h
  .exact(uP prog w).eqBool (a:=Sum.inl i) (b:=Sum.inl j) d c (by simpa using h)
  .exact(uP prog w).eqBool (a:=Sum.inl i) (b:=Sum.inr y) d c (by simpa using h)
  .exact oo x t _ _ _ _ h
  .exact(uP prog w).eqBool (a:=Sum.inr x) (b:=Sum.inl j) d c (by simpa using h)
  .exact(uP prog w).eqBool (a:=Sum.inr x) (b:=Sum.inr y) d c (by simpa using h)
 «strs»:=λk x t v h=>by
  cases k with
  |none=>cases h
  |some k=>exact(uP prog w).strs k x t v h
def WG{h:Heap}(m:h.MapOf (uP prog w) a f):h.MapOf (Ms prog w) a (λk=>match k with|none=>O|some k=>f k):=by
 obtain⟨o,p,l,q,r,u,j,y⟩:=m;refine⟨o,p,l,q,r,u,λe b=>?_,λk=>?_⟩
 .obtain⟨k,c,z⟩:=j e b;exact⟨Z k,c,z⟩
 .cases k with
  |some k=>exact y k
  |none=>
   unfold findBy;rw[Array.find?_eq_none.2 λe b=>?_]
   .rfl
   .obtain⟨k,c,_⟩:=j e b;rcases vA c with ⟨i,t,_,d⟩|⟨x,t,_,d⟩<;>(rw[d];exact bE)
end
section
variable{X:Cx}{G:Bg}{H:Hp}{pins:cJ}{σ:St}{s:ae}
def abw(I:d3 X pins σ H s)(e:Rd H a (.dK kvs))(h:∀c,d3 X pins σ H c->Q .none c):ao (model X.prog X.w) A (call (.builtin "dict.get") [.ref a,.none]) Q E s:=by obtain⟨z,hd,d,rel,b⟩:=Gd I.ff e;exact hJ fA b.typeIs iI (lg _ _) (qd (Ms X.prog X.w) a (k:=O) U hd) ⟨_,WG b.mapOf,h _ (I.rl _)⟩
def abx(d ty:TE):TE:=λσ H Q=>d σ H λx c=>∃a,x=.ref a/\IsD c a/\ty σ c λy b=>(∃o,p' b a y o/\Q (o.getD .E) b)\/(y=.E/\(∃kvs,Rd b a (.dK kvs))/\Q .E b)
def Tf(B:X.A.units+1<cLine)(z:PE X o R)(w:PE X e ty)(m:M1 X o "get" apos e cpos):PE X (.Call (.Attribute o "get" apos) [e] [] cpos) (abx R ty):=by
 intro pins s σ H Q I h;refine jy m.b' m.few m.line jz fA lE (fu (z pins s σ H _ I h) λu J c=>?_);obtain⟨x,r,l,F,a,t,d,E⟩:=c;subst t;obtain rfl:u=Value.ref a:=F;obtain⟨N,P,_⟩:=KM l d;refine⟨N,P,?_⟩;rw[m.GX];refine gH U (gM (eh (fu (w pins J σ r _ l E) λC T c=>fR ?_)));obtain⟨y,j,p,q,⟨S,g,f⟩|⟨rfl,⟨kvs,e⟩,f⟩⟩:=c
 .exact Rx B p g q λW M b i=>⟨_,j,b,i,f⟩
 .obtain rfl:C=.none:=q;exact abw p e λM b=>⟨.E,j,b,U,f⟩
def Mz:D->D->Option D:=λx y=>match y with
 |.E=>match x with
  |.J _ _=>Z .E
  |_=>O
 |y=>BX x y
def Tg(hu:X.A.units+1<cLine)(ha:PE X a (tF G f))(hb:PE X b (tF G f'))(m:M1 X a "get" apos b cpos):PE X (.Call (.Attribute a "get" apos) [b] [] cpos) (tF G (c2 Mz f f')):=PE.eb (Tf hu ha hb m) λσ H Q hh=>by
 obtain⟨F,ρ,P,d,C,R,e,k⟩:=hh;obtain⟨x,y,l,Y,e2,c⟩:=Dj e;cases x with
 |J M W=>
  refine⟨F,ρ,P,_,l,R,Y,λv S T B E r1=>?_⟩;have t:=r1;obtain⟨p,ob,xs,rfl,r,h2,h3⟩:=t;refine⟨p,U,.inl ⟨_,.inr ⟨_,E.sub _ _ r⟩⟩,F,l,S,y,C,E,e2,λu o h i R2 N=>?_⟩;by_cases J:y=.E
  .subst J;cases c;subst N;exact .inr ⟨U,⟨_,.inr ⟨_,R2.sub _ _ (i _ _ r)⟩⟩,k _ o h (B.t i) R2 zP⟩
  .left;have c:=by
    unfold Mz at c;split at c
    .exact ar U J
    .exact c
   unfold BX at c;cases q:AF y with
   |none=>simp only[q]at c;cases c
   |some j=>
    simp only[q]at c;cases c;have lv:=Cn j (b?.mono i _ _ h3) h2;refine⟨xT (M.zip xs) j,?_,?_⟩
    .rw[Bb N q];exact p'.kf (R2.sub _ _ (i _ _ r))
    .cases I:wI M W j with
     |none=>rw[I]at lv k;rw[lv];exact k _ o h (B.t i) R2 zP
     |some z=>rw[I]at lv k;obtain⟨w,w1,w2⟩:=lv;rw[w1];exact k _ o h (B.t i) R2 w2
 |_=>
  unfold Mz at c;split at c
  .cases c
  .unfold BX at c;cases c
end
section
variable{X:Cx}{B:Bz}{k:Nat}{e e':Expr}{f f':FE}{apos pos:Pos}
def aby [C:Cz X B k](d:ZE X B e f)(h:ZE X B e' f')(b:Az X e "get")(c:Ez apos pos)(a:S1 X e'):ZE X B (.Call (.Attribute e "get" apos) [e'] [] pos) (c2 Mz f f'):=⟨Tg (LL C.r) d.p h.p ⟨b,by rw[a];rfl,c,by rw[a];rfl⟩⟩
end
def tOr(t a:Ty->Option Bool):Ty->Option Bool:=λy=>match t y with
 |some γ=>match a y with
  |some _=>Z γ
  |none=>O
 |some δ=>a y
 |none=>O
def inst_or(h:Ib G c t)(l:Ib G d i):OL G [c,d] (tOr t i):=by
 refine⟨λy b e=>?_,λj b e=>?_⟩
 .unfold tOr at e;show kitAny G.K (y.val G) [.ref (G.ca c),.ref (G.ca d)]=Z b;unfold kitAny;cases a:t y with
  |none=>simp only[a]at e;cases e
  |some v=>
   simp only[a]at e;rw[h.1 y v a];cases v with
   |true=>
    cases f:i y with
    |none=>simp only[f]at e;cases e
    |some w=>simp only[f]at e;cases e;rfl
   |false=>simp only at e;unfold kitAny;simp only;rw[l.1 y b e];cases b<;>rfl
 .unfold tOr at e;cases a:t (.c j)with
  |none=>simp only[a]at e;cases e
  |some v=>exact h.2 j v a
section
variable{X:Cx}{B:Bz}{k:Nat}{e:Expr}{f:FE}{p p2 p3 p4 pos:Pos}{x y:Str}
def zr_i2I{d}[Q:Ic B x t][o:Ic B y F][C:Cz X B k][N:Nb B "isinstance"](u:Gz X "isinstance")(r:Gz X x)(i:Gz X y)(m:aF [e,.Tuple [.Name x p2,.Name y p3] d p4] X.b1=[(δ,eval e X.b1),(δ,eval (.Tuple [.Name x p2,.Name y p3] d p4) X.b1)])(a:S1 X (.Tuple [.Name x p2,.Name y p3] d p4))(j:aF [.Name x p2,.Name y p3] X.b1=[(δ,eval (.Name x p2) X.b1),(δ,eval (.Name y p3) X.b1)])(b:S1 X (.Name y p3))(q:ZE X B e f)(hd:Dz x)(h:Dz y):ZE X B (.Call (.Name "isinstance" p) [e,.Tuple [.Name x p2,.Name y p3] d p4] [] pos) (c1 (vz (tOr t F)) f):=by
 obtain⟨c,w,z⟩:=Q.p;obtain⟨l,A,E⟩:=o.p;refine⟨SD (cs:=[c,l]) (Eu (NL (inst_or w A) C.K) u (C.mg▸N.p) lK (xm q.p (xm (Rf (xm (G9 (v:=.ref (B.G.ca c)) r (C.mg▸z) U hd) (xm (G9 (v:=.ref (B.G.ca l)) i (C.mg▸E) U h) Ae b) ?_)) Ae a) ?_) (by decide) (by decide) ?_ ?_) (by show 2<=1000;decide)⟩
 .rw[j,b]
 .rw[m,a]
 .rw[m,a]
 .rw[a];rfl
end
section
variable{X:Cx}{G:Bg}
theorem D'{K:au}:∀{l:List L3.Dq} {f:bJ} {c:List ab},L3.b? K H l f->en f c->(∀u∈c,∃e∈l,∃x,L3.eg K H e x/\eu x u)/\∀e∈l,∃u∈c,∃x,L3.eg K H e x/\eu x u
 |[],f,c,r,v=>by unfold L3.b? at r;subst r;cases v;exact⟨λu b=>(by cases b),λe a=>(by cases a)⟩
 |d::l,f,c,r,v=>by
  unfold L3.b? at r;obtain⟨x,q,rfl,h,j⟩:=r;cases v with
  |cons i p=>
   obtain⟨m,o⟩:=D' j p;refine⟨λu b=>?_,λe a=>?_⟩
   .rcases aO.1 b with rfl|b
    .exact⟨d,aY,x,h,i⟩
    .obtain⟨e,a,z⟩:=m u b;exact⟨e,ba _ a,z⟩
   .rcases aO.1 a with rfl|a
    .exact⟨_,aY,x,h,i⟩
    .obtain⟨u,b,z⟩:=o e a;exact⟨u,ba _ b,z⟩
end
def sOf:ab->Str
 |.str x _=>x
 |_=>""
structure i?(w:aA)(h:Heap)(S:Addr)(ss:aB)(led:Bool)(o:Obj)(es:Array (Int×ab))(ep:Nat)(t:bO):Prop where
 j1:h.get? S=Z o
 ex:o.ExactSet
 d:o.data=.set es ep t
 f:t.fits es.size=γ
 led:t.led=led
 pl:0<ss.length->t.plain=δ
 el:∀e∈es.toList,∃x tk,e=(hashStr w x,Value.str x tk)
 p:(es.toList.map λe=>sOf e.2).Perm ss
def i?.sz{w:aA}{h:Heap}{S:Addr}{a:aB}{led:Bool}{o:Obj}{es:Array (Int×ab)}{ep:Nat}{t:bO}(x:i? w h S a led o es ep t):es.size=a.length:=by have:=x.p.length_eq;rw[af,bX]at this;exact this
set_option tactic.hygienic true
def lay_led(t:bO)(a:Array (Int×ab))(h:Int)(x:ab):(layNew t a h x).2.1.led=t.led/\(t.plain=δ->(layNew t a h x).2.1.plain=δ):=by
 unfold layNew;split
 .rename_i b c e;show ((t.put b).1.orStandIn _).led=_/\(_->((t.put b).1.orStandIn _).plain=δ);unfold SetTable.orStandIn;split
  .exact⟨U,id⟩
  .exact⟨U,λz=>U⟩
 .exact⟨U,λz=>U⟩
def T3(t:bO)(a:Array (Int×ab))(n:Nat):(relayAll t a n).2.1.led=t.led/\(t.plain=δ->(relayAll t a n).2.1.plain=δ):=by
 unfold relayAll;split
 .rename_i c order e;obtain⟨b,_,e⟩:=Option.bind_eq_some_iff.1 e;cases e;dsimp only;split
  .exact⟨U,id⟩
  .exact⟨U,λz=>U⟩
 .exact⟨U,λz=>U⟩
section
variable{prog:aJ}{w:aA}{A:aK}{E:ab->ae->Prop}{s:ae}{S:Addr}{o:Obj}{es:Array (Int×ab)}{ep:Nat}{t:bO}{ss:aB}{led:Bool}
set_option tactic.hygienic false
def i?.elems(x:i? w s.heap S ss led o es ep t):ElemsOf (eI prog w) es.toList:=λe a=>by obtain⟨z,b,rfl⟩:=x.el e a;exact⟨⟨z,by simp[eI,gX],U⟩,U⟩
def i?.mem(x:i? w s.heap S ss led o es ep t)(z:Str):z∈ss ↔ ∃e∈es.toList,(eI prog w).is z e.2=γ:=by
 rw[<-x.p.mem_iff,aG];constructor
 .rintro⟨e,a,rfl⟩;obtain⟨y,b,rfl⟩:=x.el e a;exact⟨_,a,by simp[eI,gX,sOf]⟩
 .rintro⟨e,a,h⟩;obtain⟨y,b,rfl⟩:=x.el e a;exact⟨_,a,by simpa [eI,gX,sOf]using h⟩
def i?.stored(x:i? w s.heap S ss led o es ep t){a:Array (Int×ab)}{c:bO}{b:aB}(f:c.fits a.size=γ)(l:c.led=led)(pl:0<b.length->c.plain=δ)(el:∀e∈a.toList,∃x tk,e=(hashStr w x,Value.str x tk))(p:(a.toList.map λe=>sOf e.2).Perm b):
  i? w (s.heap.update S (jU a c)) S b led { o with data:=.set a (ep+1) c } a (ep+1) c:=
 ⟨NM x.j1 x.d,x.ex,U,f,l,pl,el,p⟩
def tail_x{g:Bool->Sem Unit}(hg:∀(b:Bool) (i:ae) (C:Unit->ae->Prop),C () i->ao (model prog w) A (g b) C E i)(X:i? w s.heap S ss led o es ep t)
  {a:Array (Int×ab)} {c:bO} {m:aB} (f:c.fits a.size=γ) (l:c.led=led) (pl:c.plain=δ) (el:∀e∈a.toList,∃x tk,e=(hashStr w x,Value.str x tk)) (p:(a.toList.map λe=>sOf e.2).Perm m) (F:a.size<scanBound)
  {wasDummy:Bool} {R:Option Bool->ae->Prop} (h:∀h' I y u J,dS S s.heap h'->i? w h' S m led I y u J->R (Z γ) { s with heap:=h' }):
  ao (model prog w) A (do
    storeSet S a c
    if (!wasDummy&&c.tooFull)=γ then do
      g (relayAll c a (dQ a.size)).2.2
      storeSet S (relayAll c a (dQ a.size)).1 (relayAll c a (dQ a.size)).2.1
      pure (Z γ)
     else pure (Z γ)) R E s:=by
 refine ag (jB X.j1 X.d ?_ (pf F));have q:=X.stored f l (λv=>pl) el p;have hsb1:=dg s.heap S (jU a c);split
 .have j:=relayAll_perm c a (dQ a.size);have hfr:=relayAll_fits c a (dQ a.size);have r:=T3 c a (dQ a.size);generalize relayAll c a (dQ a.size)=G at j hfr r ⊢;obtain⟨z,M,gave2⟩:=G;dsimp only at j hfr r ⊢;have B:z.size=a.size:=by rw[<-bX,j.length_eq,bX]
  refine ag (hg _ _ _ ?_);refine ag (jB q.j1 q.d ?_ (pf (by rw[B];exact F)));exact aq (h _ _ _ _ _ (hsb1.t (dg _ S _)) (i?.stored q hfr (r.1.t l) (λv=>r.2 pl) (λe H=>el e (j.mem_iff.1 H)) ((j.map _).t p)))
 .exact aq (h _ _ _ _ _ hsb1 q)
set_option tactic.hygienic true
def add_x(X:i? w s.heap S ss led o es ep t)(I:ss.length+1<scanBound)
  (G:x∈ss->Q δ s)
  (H:x∉ss->∀h' m h c q,dS S s.heap h'->i? w h' S (ss++[x]) led m h c q->Q γ { s with heap:=h' }):ao (model prog w) A (setAddHashed S (.str x tk) (hashStr w x)) Q E s:=by
 have sz:=X.sz;have hkey:(eI prog w).is x (.str x tk)=γ:=by simp[eI,gX]
 refine cF (ag (c5 X.j1 X.d X.f ?_));dsimp only;rw[byScan_of (knd:=eI prog w) U (by omega) X.elems];simp only[↓reduceIte];refine ag ?_;refine ag (gn ?_);refine ag (wpAny_setScan_of hkey X.j1 X.d X.f X.elems ?_);cases hr:List.findIdx? (λe=>(eI prog w).is x e.2) es.toList with
 |some j=>obtain⟨J,hpj,_⟩:=List.findIdx?_eq_some_iff_getElem.1 hr;exact aq (aq (G ((X.mem x).2 ⟨es.toList[j],gR J,hpj⟩)))
 |none=>
  dsimp only;have nin:x∉ss:=λN=>by obtain⟨e,i,M⟩:=(X.mem x).1 N;have:=List.findIdx?_eq_none_iff.1 hr e i;rw[M]at this;exact Bool.noConfusion this
  have hgw:∀(b:Bool) {a:ae} {r:Unit->ae->Prop},r () a->ao (model prog w) A (match b with|true=>rule "set.scan.the-table-gave-way" |false=>pure ()) r E a:=
   λb a r l=>by cases b<;>first|exact aq l|exact gn l
  have hperm:=layNew_perm t es (hashStr w x) (.str x tk);have hfits:=layNew_fits t es (hashStr w x) (.str x tk);have hled:=lay_led t es (hashStr w x) (.str x tk);generalize layNew t es (hashStr w x) (.str x tk)=L at hperm hfits hled ⊢;obtain⟨y,P,wasDummy,gave⟩:=L;dsimp only at hperm hfits hled ⊢;rw[lq]at hperm;have u:∀e∈y.toList,∃x tk,e=(hashStr w x,Value.str x tk):=λe i=>by
   rcases bq.1 (hperm.mem_iff.1 i)with i|i
   .exact X.el e i
   .rw[bT]at i;exact⟨x,tk,i⟩
  have F:=by have:=hperm.map λe:Int×ab=>sOf e.2;rw[aZ]at this;exact this.t (X.p.append_right _)
  have z:y.size<scanBound:=by rw[<-bX,hperm.length_eq,aC,bX,sz];exact I
  refine ag (hgw _ ?_);have end_:∀(h':Heap) (m:Obj) (h:Array (Int×ab)) (c:Nat) (q:bO),dS S s.heap h'->i? w h' S (ss++[x]) led m h c q->Q γ { s with heap:=h' }:=H nin;split
  .refine ag ?_;rw[hashByValue_scannable 8 U];refine aq ?_;refine tail_x ?_ X (SetTable.fits_plain_off hfits) (hled.1.t X.led) U u F z ?_
   .intro b a r l;cases b<;>first|exact aq l|exact gn l
   .intro h' m h c q C B;dsimp only;exact aq (end_ h' m h c q C B)
  .rename_i hpl;refine ag (aq ?_);simp only[↓reduceIte];refine tail_x ?_ X hfits (hled.1.t X.led) (by simpa using hpl) u F z ?_
   .intro b a r l;cases b<;>first|exact aq l|exact gn l
   .intro h' m h c q C B;dsimp only;exact aq (end_ h' m h c q C B)
end
set_option tactic.hygienic false
section
variable{prog:aJ}{w:aA}{A:aK}{E:ab->ae->Prop}{s:ae}{S:Addr}{o:Obj}{es:Array (Int×ab)}{ep:Nat}{t:bO}
theorem iter_X(x:i? w s.heap S ss (!w.params.followText "set-order") o es ep t)(G:ss.length<64)
  (hQ:∀(h':Heap) (I TP:Addr) (j2:List ab) (d:Drawn),s.heap.objs.size<=I->I<h'.objs.size->TP≠I->(TP=S\/s.heap.objs.size<=TP)->(∀b o,s.heap.get? b=Z o->h'.get? b=Z o)->ItS w I S TP j2 o es ep t 0 h'->j2.Perm (es.toList.map bY)->Q (.ref I) { s with heap:=h',drawn:=d }):
  ao (model prog w) A (pyIter (.ref S)) Q E s:=by
 have a:=x.f;have ty:s.TypeIs (.ref S) "set" := ⟨o,x.j1,x.ex.1⟩;have hlt:=aV x.j1;refine pe ty p6 (fo p6 ty Lc ?_ (F.args_set_iter_1 _));refine ag (aq ?_);refine ag ?_;refine ag (ag (c5 x.j1 x.d a (aq ?_)));refine aq ?_;refine ag ?_;refine ag (c5 x.j1 x.d a ?_);refine ag (FR ?_);refine aq ?_;have plain0:(w.params.followText "set-order" = γ\/(w.params.followText "set-order" = δ/\es.size<=1))->ao (model prog w) A.in1 (do
   let first<-pure (rawInt 0)
   let e<-setEpoch S;let r<-newFields "set_iterator" [first,rawInt 0,Value.ref S,rawInt ↑es.size,rawInt ↑e]
   ret r) (λfin l=>∃v,fin=Fin.done (Flow.ret v)/\∃h r,l.TypeIs v h/\typeLookup (Value.type h) (jN "__next__")=pure (Z r)/\Q v l) E s:=λc=>by
  refine ag (aq ?_);refine ag (ph x.j1 x.d a ?_);refine ag (dG ?_);have i:∀(q:Obj) (b:Addr) (o:Obj),s.heap.get? b=Z o->(s.heap.push q).get? b=Z o:=λq b o e=>aN _ e;have it:∀j2,Md w (s.heap.push { cls:=.type "set_iterator", data:=.fields [rawInt 0,rawInt 0,Value.ref S,rawInt ↑es.size,rawInt ↑ep].toArray }) S S 0 j2 es ep t (.int 0 0)->j2.Perm (es.toList.map bY)->_:=λj2 m p=>aq (M:=model prog w) (A:=A.in1) (E:=E) (Q:=λfin l=>∃v,fin=Fin.done (Flow.ret v)/\∃h r,l.TypeIs v h/\typeLookup (Value.type h) (jN "__next__")=pure (Z r)/\Q v l) ⟨.ref s.heap.objs.size,U,"set_iterator", _,⟨_,bx _ U,U⟩,x3.lookup,hQ _ s.heap.objs.size S j2 s.drawn (aL _) (by rw[cW];exact di _) (bc hlt) (.inl U) (i _) ⟨⟨_,.int 0 0,bx _ U,U,U,m⟩,i _ _ _ x.j1,x.d,a⟩ p⟩;rcases c with c|⟨c1,c2⟩
  .exact it _ (.txt c U) ((JY _ es).map _)
  .exact it _ (.one c1 c2 (by rw[x.led,c1];rfl) (λ_=>U) (λj e=>by cases e) U) (.refl _)
 cases c:w.params.followText "set-order" with
 |true=>rw[aj (by simp)];exact plain0 (.inl c)
 |false=>
  by_cases z:es.size<=1
  .rw[aj λB=>by
    have:(!δ&&(!t.plain&&decide (es.size > 1)))=γ:=B;simp at this;omega]
   exact plain0 (.inr ⟨c,z⟩)
  .have pl:=x.pl (by have:=x.sz;omega);rw[ah (by show (!δ&&(!t.plain&&decide (es.size > 1)))=γ;rw[pl];simp;omega)];refine ag (OX es.size _ s bF λC d p=>?_);refine ag (qg ?_ (by
    rw[af,p.length_eq,bF,x.sz,bU];omega))
   refine ag (ph (aN _ x.j1) x.d a ?_);refine ag (dG ?_);have i:∀(u y:Obj) (b:Addr) (o:Obj),s.heap.get? b=Z o->((s.heap.push u).push y).get? b=Z o:=λu y b o e=>aN _ (aN _ e);have j2:(C.filterMap λp=>es[p]?.map bY).Perm (es.toList.map bY):=by refine(p.filterMap _).t ?_;rw[show (az es.size).filterMap (λp=>es[p]?.map bY)=((az es.size).filterMap λp=>es[p]?).map bY from(oP ..).symm,kB]
   refine aq ⟨_,U,"set_iterator", _,⟨_,bx _ U,U⟩,x3.lookup,hQ _ _ s.heap.objs.size _ d ?_ ?_ ?_ (.inr (aL _)) (i _ _) ⟨⟨_,.ref s.heap.objs.size,bx _ U,U,U,.drw c (aN _ (bx _ U)) U U U p U⟩,i _ _ _ _ x.j1,x.d,a⟩ j2⟩
   .rw[cW];exact gj _
   .exact Nat.lt_of_lt_of_eq (di _) (cW _ _).symm
   .rw[cW];exact bc (di _)
end
section
variable{prog:aJ}{w:aA}{A:aK}{E:ab->ae->Prop}{s:ae}{S:Addr}{o:Obj}{es:Array (Int×ab)}{ep:Nat}{t:bO}{ss:aB}
def i?.gw{h h':Heap}{led:Bool}(x:i? w h S ss led o es ep t)(k:∀o,h.get? S=Z o->h'.get? S=Z o):i? w h' S ss led o es ep t:={ x with j1:=k _ x.j1 }
theorem Ra(H:A.handled=O)(x:i? w s.heap S ss (!w.params.followText "set-order") o es ep t)(J:ss.length<64)
  (hQ:∀c k2 d2 acc,s.heap.objs.size<=c.objs.size->(∀b o,s.heap.get? b=Z o->c.get? b=Z o)->acc.Perm (es.toList.map bY)->Q acc { s with heap:=c,toks:=k2,drawn:=d2 }):ao (model prog w) A (collect (.ref S)) Q E s:=by
 have hlt:=aV x.j1;have M:es.size<=63:=by have:=x.sz;omega
 let lO:Obj:={ cls:=.type "list", data:=.seq ([]:List ab).toArray };refine ag (qe (dO F.entry_proto_collect ?_));rw[d9 F.plain_proto_collect _];refine ag (dG ?_);refine aq ⟨f7 pj _,dO F.entry_list_iadd ?_⟩;rw[d9 pj _];show ao _ A.in1 (rY (.ref s.heap.objs.size) (.ref S) (.ref s.heap.objs.size)) _ _ _;have l:(s.heap.push lO).objs.size=s.heap.objs.size+1:=cW _ _;have p:i? w (s.heap.push lO) S ss (!w.params.followText "set-order") o es ep t:=x.gw λo e=>aN _ e;have u:l6 { s with heap:=s.heap.push lO } (.ref S) "set" := ⟨o,p.j1,x.ex.1⟩;refine ag (hG u ?_);rw[aj (by
  have:nJ (.ref s.heap.objs.size) (.ref S)=δ:=by simp[nJ];exact λe=>ar e (gf hlt)
  rw[this];decide)]
 refine ag (iter_X p J λd I TP j2 y hI1 hI2 hTI hTP m it po=>?_);have hI:s.heap.objs.size+1<=I:=by rw[<-l];exact hI1
 have L3:=m _ _ (bx _ U);have f:l6 { s with heap:=d,drawn:=y } (.ref S) "set" := ⟨o,it.j1,x.ex.1⟩;have q:=λb o e=>m b o (aN _ e);refine ag (cF ?_);refine ag (iM f F.slot_set_len.lookup ?_);generalize hid:("set.__len__" : String)=h;wp_delta;rw[show splitId h=Z ("set", "__len__") from by subst hid;decide +kernel];subst hid;refine ag (pK f sub_set_self ?_);rw[aj (by decide),ah (by decide +kernel)];refine ag (hG f ?_);refine aq ?_;rw[ah (by decide +kernel)];refine ag (gn ?_);refine ag ?_;refine ag (lI L3 U ?_);have i:=fO (dX (·.push Value.none)) L3 U
 refine lI i U ?_;have r:=fO (dX (·.pop)) i U
 have oth:∀b o,b≠s.heap.objs.size->d.get? b=Z o->((d.update s.heap.objs.size (dX (·.push Value.none))).update s.heap.objs.size (dX (·.pop))).get? b=Z o:=
  λb o a e=>(ir _ _ (dw a)).t ((ir _ _ (dw a)).t e)
 have hSI:=bc (cf hlt (pq hI));have hSf:s.heap.objs.size∉[I,S,TP]:=by
  intro z;rcases aO.1 z with z|z
  .exact ar z (bc hI)
  .rcases aO.1 z with z|z
   .exact ar z (gf hlt)
   .rw[bT]at z;rcases hTP with e|e
    .exact ar (z.t e) (gf hlt)
    .rw[<-z,l]at e;exact ar e (Nat.not_succ_le_self _)
 have W:=abp (prog:=prog) (w:=w) (A:=A.in1) (j2:=j2) (o:=o) (es:=es) (ep:=ep) (t:=t) (by simp[H]) hSI hTI;have T:j2.length<=63:=by rw[po.length_eq,af,bX];exact M
 refine aq ⟨f7 F.plain_extend_loop _,codeAny_extend_loopS W.toS (by rw[bU];omega) _ hSf _ j2.length 0 _ _ _ U (bH _)
  (W.frame 0 d _ ⟨it,bH _⟩ λb a o e=>oth b o (λz=>hSf (by rw[<-z];exact a)) e) r (ItemsOf.nil _) λN acc' P hm hS' hacc=>?_⟩
 refine ag (wpAny_load hS' ?_);have B:acc'.toList=j2:=by
  apply lb;intro j;cases e:acc'.toList[j]? with
  |none=>rw[List.getElem?_eq_none_iff,bX,hacc.1]at e;exact(fN e).symm
  |some v=>rw[iz]at e;exact(hacc.2 j v e).symm
 obtain⟨c,g2,d2,k2,R⟩:=N;have C:=hm.gens;have G:=hm.os;subst C G;refine aq (hQ c k2 d2 acc'.toList (gb (aV hS')) (λb o e=>?_) (by rw[B];exact po));have a:=aV e;exact hm.heap b o (λz=>by
  rcases aO.1 z with z|z
  .exact ar z (bc a)
  .exact ar (bT.1 z) (bc (cf a (pq hI)))) (oth b o (bc a) (q b o e))
def S'(W:WalksS prog w A.in1 I fp p GG n PP SS)(hSf:S∉fp)(ks:aB)(hn:ks.length=n)(J:n<64)
  (hval:∀i v,PP i v->∃x tk,ks[i]?=Z x/\v=.str x tk):∀(k i:Nat) (s:ae) (o:Obj) (es:Array (Int×ab)) (ep:Nat) (t:bO),n - i=k->i<=n->SS i s->i? w s.heap S (x1 (ks.take i)) led o es ep t->
   (∀c o es ep t,Moved (S::p) GG s c->i? w c.heap S (x1 ks) led o es ep t->R (.ok (.ret .none)) c)->
   cz (model prog w) A (.builtin "set.update.loop" ⟨[.ref S,.ref I],[]⟩) R s:=by
 have hSw:=λz=>hSf ((W).sub _ z);have m:∀b∈p,b∈S::p:=λb z=>ba _ z;intro k
 induction k with
 |zero=>
  intro i s o es ep t M hi hst x hR;obtain rfl:i=n:=by omega
  refine dO gG ?_;rw[d9 dE _];refine ag (W.done s _ _ hst λc hm=>?_);rw[gL (by omega)]at x;exact aq (hR c o es ep t (hm.mono m) { x with j1:=hm.heap S _ hSw x.j1 })
 |succ k B=>
  intro i s o es ep t M hi hst x hR;have hlt:i<n:=by omega
  refine dO gG ?_;rw[d9 dE _];refine ag (W.item i s _ _ hlt hst λv c hP hst' hm=>?_);obtain⟨q,tk,eq,rfl⟩:=hval i v hP;refine ag (cF ?_);unfold setAdd;refine cF ?_;refine ag (pz ?_);have split:x1 (ks.take (i+1))=if q∈x1 (ks.take i)then x1 (ks.take i)else x1 (ks.take i)++[q]:=by unfold x1;rw[fT,eq,o8];rfl
  have C:={ x with j1:=hm.heap S _ hSw x.j1 };have T:=by have H:=Mr (Te (ks.take i)) λz N=>Lf.1 N;rw[cm]at H;omega
  refine add_x C (by unfold scanBound;omega) (λinn=>?_) λnin h' P G F Q u y=>?_
  .have e:x1 (ks.take (i+1))=x1 (ks.take i):=by rw[split,ah inn]
   refine aq ⟨f7 dE _,B (i+1) _ o es ep t (by omega) hlt (W.frame _ c c.heap _ hst' (gS _ _) λb z o e=>e) (by rw[e];exact C) λh j f d l a r=>?_⟩;exact hR h j f d l (jP W.gtrans ((hm.mono m).then_heap (gS _ _) λb o z e=>e) a) r
  have e:x1 (ks.take (i+1))=x1 (ks.take i)++[q]:=by rw[split,aj nin]
  refine aq ⟨f7 dE _,B (i+1) _ _ _ _ _ (by omega) hlt (W.frame _ c h' _ hst' (gS _ _) λb z o e=>?_) (by rw[e];exact y) λh j f d l a r=>?_⟩
  .rw[u.2 b (λy:b=S=>hSf (by rw[<-y];exact z))];exact e
  .refine hR h j f d l (jP W.gtrans ((hm.mono m).then_heap (gS _ _) λb o z e=>?_) a) r;rw[u.2 b (λy:b=S=>z (by rw[y];exact aY))];exact e
def set_X{ks:aB}(I:d3 X pins σ H s)(T:A.handled=O)(Y:fx X.K H a (ks.map V.str))(l:ks.length<64)
  (h:∀c k2 o es ep t,i? X.w c s.heap.objs.size (x1 ks) (!X.w.params.followText "set-order") o es ep t->(∀b o,b<s.heap.objs.size->s.heap.get? b=Z o->c.get? b=Z o)->Q (.ref s.heap.objs.size) { s with heap:=c,toks:=k2 }):
  ao (model X.prog X.w) A (call (.type "set") [.ref a]) Q E s:=by
 have N:A.in1.in1.in1.handled=O:=by simp[T]
 obtain⟨d,r,pp,_⟩:=I.list Y;obtain⟨o,p,m,n,hd⟩:=pp.isList;have hlt:=aV p;have hne:=bc (eC hlt);have q:=by have:=r.length;rw[af]at this;exact this
 refine EL (PS:=λc=>∃o es ep t,i? X.w c s.heap.objs.size (x1 ks) (!X.w.params.followText "set-order") o es ep t) p m lX kM (by decide)
  (λA Q E s1 e k=>gQ ⟨o,e,m,n,hd⟩ k) (λtk' R hR=>?_) λc k2 ⟨o,es,ep,t,x'⟩ kk=>h c k2 o es ep t x' kk
 have B:∀{b:Addr} {C:Obj},s.heap.get? b=Z C->((s.heap.push (zp (!X.w.params.followText "set-order"))).push { cls:=.type "list_iterator", data:=.fields #[.ref a,.int 0 0] }).get? b=Z C:=λe=>aN _ (aN _ e);have it:((s.heap.push (zp (!X.w.params.followText "set-order"))).push { cls:=.type "list_iterator", data:=.fields #[.ref a,.int 0 0] }).get? (s.heap.objs.size+1)=Z { cls:=.type "list_iterator", data:=.fields #[.ref a,.int 0 0] }:=by rw[show s.heap.objs.size+1=(s.heap.push (zp (!X.w.params.followText "set-order"))).objs.size from(cW _ _).symm];exact bx _ U
 have W:=(iW (prog:=X.prog) (w:=X.w) N (s.heap.objs.size+1) a hne d.toArray).toS;have notin:s.heap.objs.size∉[s.heap.objs.size+1,a]:=by
  intro z;rcases aO.1 z with z|z
  .exact ar z (bc (di _))
  .exact ar (bT.1 z) (gf hlt)
 refine S' W notin ks (by rw[bj,q]) (by rw[bj,<- q];exact l) ?_ (d.toArray.size - 0) 0 _ (zp (!X.w.params.followText "set-order")) #[] 0 (.fresh 0 0 (!X.w.params.followText "set-order")) U (bH _) ⟨⟨_,it,U,U⟩,⟨o,B p,m,n,hd⟩⟩ ⟨aN _ (bx _ U),⟨U,U,U⟩,U,U,U,λz=>ar z (fE 0),λe P=>(by cases P),.nil⟩ λs2 o2 j f t2 mv F=>?_
 .intro i v e;rw[jq]at e;have hi:i<ks.length:=by rw[q];exact(ck.1 e).1
  obtain⟨u,x,tk,ru⟩:=r.get (by rw[bu,aM hi];rfl);rw[e]at x;cases x;exact⟨ks[i],tk,aM hi,ru⟩
 .obtain⟨c,g2,d2,k2,o2'⟩:=s2;have J:=mv.gens;have G:=mv.drawn;have M:=mv.os;subst J G M;refine hR c k2 ⟨o2,j,f,t2,F⟩ λb o y e=>mv.heap b o (λz=>?_) (B e);rcases aO.1 z with z|z
  .exact ar z (bc y)
  .exact ar (bT.1 z) (bc (eC y))
end
section
variable{prog:aJ}{w:aA}{A:aK}{E:ab->ae->Prop}{s:ae}
theorem E':∀(l:List ab),(∀v∈l,∃x a,v=.str x a)->gO l (l.map sOf)
 |[],_=>.nil
 |v::l,h=>by obtain⟨x,a,rfl⟩:=h v aY;exact .cons x a (E' l λu b=>h u (ba _ b))
def S?(sa:gO vs ss)(a:vs.length<64)(d:s.heap.get? l=Z (seqObj "list" vs.toArray n))
  (h:∀h' e out,Dn l s.heap h'->en ((yF ss).map V.str) out->h'.get? l=Z (seqObj "list" out.toArray e)->P (.done (.ret .none)) { s with heap:=h' }):
  ao (model prog w) A (eU.«list.sort» ⟨[.ref l],[]⟩) P E s:=by
 refine list_sort_treeK strKind_oneLt d sa.keysOf (λf i fb e=>keyKind_strs (by rw[<-e];exact sa)) a λc a1 a2=>?_;obtain⟨t,j,m,p⟩:=sorted_out_str sa a1 a2;obtain⟨e,r⟩:=sortedHeap_at d;refine h _ e ((arrOf c).map (·.2)).toList (λb o q z=>by rw[sortedHeap_old q (aV z)];exact z) ?_ (by rw[Array.toArray_toList];exact r)
 rw[<-Im m p];exact S0 j
def Y?(m:A.handled=O)(X:i? w s.heap S ss (!w.params.followText "set-order") o es ep t)(h:ss.length<64)
  (hQ:∀(p:Addr) (c:Heap) (k2:Nat) (d2:Drawn) (e:Nat) (out:List ab),s.heap.objs.size<=p->(∀b o,s.heap.get? b=Z o->c.get? b=Z o)->en ((yF ss).map V.str) out->c.get? p=Z (seqObj "list" out.toArray e)->Q (.ref p) { s with heap:=c,toks:=k2,drawn:=d2 }):
  ao (model prog w) A (call (.builtin "sorted") [.ref S]) Q E s:=by
 refine nE kind_sorted plain_sorted entry_sorted (args_sorted1 _) ?_;refine ag (aq ?_);refine ag (Ra (by simp[m]) X h λg k2 d2 acc r i f=>?_);have l:acc.length<64:=by rw[f.length_eq,af,bX,X.sz];exact h
 have sa:=E' acc λv q=>by obtain⟨e,d,rfl⟩:=aG.1 (f.mem_iff.1 q);obtain⟨x,tk,rfl⟩:=X.el e d;exact⟨x,tk,U⟩
 have es:yF (acc.map sOf)=yF ss:=by
  have y:=by have:=f.map sOf;rw[aW]at this;exact this.t X.p
  exact nH (λa b _ _=>Ml a b) (kE K2 K4 _) (kE K2 K4 ss) ((ju _ Hj).t (y.t (ju ss Hj).symm))
 refine ag (l8 ?_ (by rw[bU];omega));have on:(g.push (seqObj "list" acc.toArray 0)).get? g.objs.size=Z (seqObj "list" acc.toArray 0):=bx _ U;refine ag (cF (fo qh ⟨_,on,U⟩ pY ?_ (qj _)));refine S? sa l on λh' e out u j d=>?_;rw[es]at j;exact⟨_,U,aq ⟨_,U,hQ g.objs.size h' k2 d2 e out r (λb o z=>u b o (bc (aV (i b o z))) (aN _ (i b o z))) j d⟩⟩
end
section
variable{X:Cx}{G:Bg}
def Y'(K:au)(d:TE):TE:=λe H Q=>d e H λx b=>∃(a:Addr) (c:aB),x=.ref a/\fx K b a (c.map V.str)/\c.length<64/\∀(p:Addr),b p=O->Q (.ref p) (e0 b p (.b0 ((yF (x1 c)).map V.str)))
def ψ{i f:Pos}(m:X.nr=γ)(g1:Gl X "sorted")(R:X.mg "sorted" = O)(g2:Gl X "set")(S:X.mg "set" = O)(F:PE X e Y)
  (w:aF [Expr.Call (.Name "set" i) [e] [] f] X.b1=[(δ,eval (.Call (.Name "set" i) [e] [] f) X.b1)]:=by rfl) (y:aF [e] X.b1=[(δ,eval e X.b1)]:=by rfl):PE X (.Call (.Name "sorted" p1) [.Call (.Name "set" i) [e] [] f] [] p4) (Y' X.K Y):=by
 intro pins s σ H Q I h;refine dF (Cc I g1 R mH ?_ (by decide) (by decide));refine callWith_builtin1 ?_ w U;rw[w];refine eh ?_;refine dF (Cc I g2 S qS ?_ (by decide) (by decide));refine callWith_type1 (fu (xm F Ae y f pins s σ H (λvs H1=>match vs with
  |[x]=>∃(a:Addr) (ks:aB),x=.ref a/\fx X.K H1 a (ks.map V.str)/\ks.length<64/\∀(p:Addr),H1 p=O->Q (.ref p) (e0 H1 p (.b0 ((yF (x1 ks)).map V.str)))
  |_=>False) I h) λus W J=>?_) y U
 obtain⟨vs,H1,d,r1,j⟩:=J
 match vs,r1,j with
 |[x],r1,j=>
 obtain⟨a,ks,C,M,c,q⟩:=j;subst C;obtain⟨u,rfl,T⟩:=l' r1;cases T;have ul:=fP (Mr (Te ks) λz N=>Lf.1 N) c;refine set_X d (d.ok.hd m) M c λE k2 o es ep t x P=>?_;refine fR ?_;have l:d3 X pins σ H1 { W with heap:=E,toks:=k2 }:=d.gw λb o e=>P b o (aV e) e;refine Y? (d.ok.hd m) x ul λp h3 k3 B e out r k4 vo hg=>?_;have A:=l.laid (t':=k3) (o:=.b0 ((yF (x1 ks)).map V.str)) k4 r ⟨by
  rw[af,bU,show (yF (x1 ks)).length=_ from(ju _ Hj).length_eq];omega,out,e,vo,hg⟩
 exact⟨.ref p,_,d3.drw A B,U,q p (l.ff.fresh r)⟩
def ri(f:FE):FA:=λd=>match f d with
 |some (.b0 c,a)=>match zS c with
  |some b=>if b.length<64 then Z ((yF (x1 b)).map D.str,a)else O
  |none=>O
 |_=>O
set_option tactic.hygienic true
def R'(h:PE X e (Y' G.K (tF G f))):PE X e (u1 G (ri f)):=PE.eb h λI H Q u=>by
 obtain⟨F,y,j,C,z,R,e,k⟩:=u;unfold ri at e;split at e
 .rename_i m A o;cases d:zS m with
  |none=>simp only[d]at e;cases e
  |some x=>
   simp only[d]at e;split at e
   .rename_i i;cases e;refine⟨F,y,j,_,_,R,o,λv B l s b r=>?_⟩;obtain⟨a,E,rfl,q,t⟩:=r;have w:=zr t d;subst w;exact⟨a,x,U,fx.of (b.sub _ _ q),i,λp c=>k p _ _ _ s (b.f? c _) uz (b.e7 c) (b.gk c) (b.apart c) (Bh _)⟩
   .cases e
 .cases e
end
set_option tactic.hygienic false
section
variable{X:Cx}{B:Bz}{k:Nat}{e:Expr}{f:FE}{p p2 p3 pos:Pos}
def zr_wxI [C:Cz X B k][N:Nb B "sorted"][b:Nb B "set"](i:S1 X e)(h:Gz X "sorted")(a:Gz X "set")(d:ZE X B e f)(z:aF [Expr.Call (.Name "set" p2) [e] [] p3] X.b1=[(δ,eval (.Call (.Name "set" p2) [e] [] p3) X.b1)]):ZN X B (.Call (.Name "sorted" p) [.Call (.Name "set" p2) [e] [] p3] [] pos) (ri f):=⟨R' (by rw[<-C.K];exact ψ C.c h (C.mg▸N.p) a (C.mg▸b.p) d.p z i)⟩
end
end L4
namespace L4
open PySem PySem.Spec PyProof.Rows L2 L3
section
variable{B:Bz}[Y:Yb B]{x m qual:Str}{st s0:Stmt}{l:List Stmt}{k c c0 np n:Nat}{b:FS}{p:Str}{ps xs:aB}{N:aB}
omit Y in
end
end L4
namespace L4
open PySem PySem.Spec PySem.Calls PyProof.Rows PySem.W L2 L3
section
variable{X:Cx}{G:Bg}
def rEqN(K:au)(r:R2):R2:=λx y H Q=>(∃a b c,x=.ref a/\y=.ref b/\H a=Z (.b0 c)/\H b=Z (.b0 [])/\c≠[]/\Q (.I δ) H)\/r x y H Q
def op_eqN{r:R2}(C:X.A.units+64<cLine)(i:i0 X (bB .Eq) r):i0 X (bB .Eq) (rEqN X.K r):=by
 intro c s B H x y v u Q I e f h;rcases h with ⟨a,b,E,rfl,rfl,j,l,m,q⟩|h
 .cases e;cases f;obtain⟨o,w,p,_⟩:=I.list (.inl (.inl j));obtain⟨d,z,t,_⟩:=I.list (.inl (.inl l));cases z;refine nL p.isList t.isList ?_ (by omega) (u9 I q U);cases w with
  |nil=>exact ar U m
  |cons _ _=>simp
 .exact i c s B H x y v u Q I e f h
def w?:D->D->Option D
 |.b0 (_::_),.b0 []=>Z (.I δ)
 |x,y=>er δ x y
def od_eqN{r:R2}(j:j? G r (er δ)):j? G (rEqN G.K r) w?:=λx y z i H v u Q e s c d k=>by
 unfold w? at e;split at e
 .cases e;have c:=eg.mono s _ _ c;have d:=eg.mono s _ _ d;unfold eg at c d;obtain⟨a,o,rfl,l,f⟩:=c;obtain⟨b,p,rfl,m,h⟩:=d;unfold b? at f h;subst h;obtain⟨_,_,rfl,_⟩:=f;exact .inl ⟨a,b,_,U,U,l,m,(by intro z;cases z),k _ λq q=>wZ _⟩
 .exact .inr (j x y z i H v u Q e s c d k)
instance inN9:A7 .Eq w?:=⟨λX G h u=>by
 obtain⟨r,a,b⟩:=in9.p X G h u;exact⟨rEqN G.K r,by rw[<-h];exact op_eqN u a,od_eqN b⟩⟩
end
end L4
namespace L4
open PySem PySem.Spec PyProof.Rows L2 L3
def dV(g:bh->Option (Option D)):bh->Option D:=λa=>match g a with
 |some (Z d)=>Z d
 |_=>O
mutual
def noFz:D->Bool
 |.Q _=>δ
 |.X _ _=>δ
 |.cx a=>Gn a
 |.b0 a=>Gn a
 |.obj _ _ a=>Gn a
 |.J _ a=>Gn a
 |_=>γ
def Gn:bh->Bool
 |[]=>γ
 |d::a=>noFz d&&Gn a
end
section
variable{G:Bg}
def dShrI:=dI (λz b=>decide (0<=b)) λa b=>.int (a / 2 ^ b.toNat)
def ω:=dI (λz z=>γ) λa b=>.int (jL a b)
def od_shr:j? G (rI (λz j=>0<=j) λi j=>.int (i / 2 ^ j.toNat)) dShrI:=L0 (λa b h=>by simpa using h) λz z=>⟨U,U⟩
def od_and:j? G (D? λi j=>.int (jL i j)) ω:=D2 λz z=>⟨U,U⟩
end
instance in104:μ .RShift dShrI:=⟨λz z=>⟨_,YI,od_shr⟩⟩
instance in105:μ .BitAnd ω:=⟨λz z=>⟨_,YJ,od_and⟩⟩
end L4
namespace L4
open PySem PySem.Spec PySem.Calls PyProof.Rows PySem.W L2 L3
def kN(K:au):Bool:=K.all λp=>p.2.dict.isNone
section
variable{X:Cx}{pins:cJ}{σ:St}{H:Hp}{s:ae}
set_option tactic.hygienic true
def J?(I:d3 X pins σ H s)(i:kN X.K=γ){a:Addr}{d:bJ}(h:f3 X.K H a d):∀o,s.heap.get? a=Z o->o.dict=O:=by
 rcases h with (h|⟨j,h⟩)|⟨o,p,n,c,_⟩
 .obtain⟨_,_,_,_,f⟩:=(show e4 X.prog X.w H s.heap a (.cx d) from I.ff a _ h);exact f
 .obtain⟨_,_,_,_,_,f⟩:=(show e4 X.prog X.w H s.heap a (.n9 j (.cx d)) from I.ff a _ h);exact f
 .intro r e;rw[I.nj a o c]at e;cases e;have l:(a,o)∈X.K:=by
   clear i;generalize X.K=K at c
   induction K with
   |nil=>cases c
   |cons q K m=>
    obtain⟨b,j⟩:=q;rw[eE]at c;split at c
    .rename_i e;cases c;rw[fG e];exact aY
    .exact ba _ (m c)
  have:=aH.1 i _ l;exact nF.1 this
end
set_option tactic.hygienic false
class Hz(B:Bz):Prop where
 h:B.G.hs=tupleKeyHash (uP B.P B.w)
 k:kN B.G.K=γ
section
variable{X:Cx}{G:Bg}
def rJoin(K:au):V->bJ->Hp->VK->Prop:=λx c H Q=>∃(z:Str) (a:Addr) (b:aB),x=.str z/\c=[.ref a]/\fx K H a (b.map V.str)/\(b.map (·.length)).sum+b.length * z.length<=16777216/\Q (.str (jY z b)) H
def η:MtR X "str.join" (rJoin X.K):=by intro b s y H x o v m Q I j i h;obtain⟨z,a,w,rfl,rfl,c,d,q⟩:=h;obtain⟨t,rfl⟩:=j;obtain⟨u,rfl,f⟩:=i.one;cases f;obtain⟨e,r,p,_⟩:=I.list c;exact join_list p.isList (by simpa using JK r) d λl k=>⟨.str _,H,I.rl _,⟨l,U⟩,q⟩
def t?:D->D->Option D:=λx y=>match x,y with
 |.str z,.b0 b=>match zS b with
  |some a=>if (a.map (·.length)).sum+a.length * z.length<=16777216 then Z (.str (jY z a))else O
  |none=>O
 |_,_=>O
set_option tactic.hygienic true
def pf_join(h:PE X e (tBM G.K "str" (rJoin G.K) (tF G f) (q9 G (ax E uQ)))):PE X e (tF G (c2 t? f E)):=PE.eb h λσ H Q I=>by
 obtain⟨F,Y,p,d,j,R,e,k⟩:=I;obtain⟨x,y,c,A,B,b⟩:=Dj e;unfold t? at b;split at b
 .rename_i z w;split at b
  .rename_i T C;split at b
   .rename_i J;cases b;refine⟨F,Y,p,_,c,R,A,λv q r P u m=>?_⟩;unfold eg at m;subst m;refine⟨U,F,c,q,[.b0 w],j,u,by unfold ax;rw[B];rfl,λW t i S R2 rs=>?_⟩;unfold b? at rs;obtain⟨v,r0,rfl,N,o⟩:=rs;unfold b? at o;subst o;obtain⟨a,xs,rfl,l,M⟩:=N;rw[zr M C]at l;exact⟨z,a,T,U,U,fx.of (R2.sub _ _ l),J,k _ t i (P.t S) R2 (y6 _)⟩
   .cases b
  .cases b
 .cases b
set_option tactic.hygienic false
def mw{a:Type}(l:List a)(n:Nat)(y:a):List a:=l.take n++y::l.drop n
def rIns:V->bJ->Hp->VK->Prop:=λx b H Q=>∃l a y n,x=.ref l/\b=[.int n,y]/\H l=Z (.b0 a)/\0<=n/\n.toNat<=a.length/\a.length<aI/\Q .E (e0 H l (.b0 (mw a n.toNat y)))
def XF{b:bJ}{a:List ab}(h:en b a){y:V}{u:ab}(r:eu y u)(n:Nat):en (mw b n y) (mw a n u):=(h.take n).append (.cons r (h.drop n))
def en.two{x y:V}{e:List ab}(h:en [x,y] e):∃u v,e=[u,v]/\eu x u/\eu y v:=by
 cases h with
 |cons a b=>cases b with
  |cons c d=>cases d;exact⟨_,_,U,a,c⟩
theorem R?:MtM X "list.insert" rIns:=by
 intro i s N H x M v J Q I p o h;obtain⟨l,w,y,n,rfl,rfl,hH,A,C,E,q⟩:=h;cases p;obtain⟨u,c,rfl,j,b⟩:=en.two o;obtain⟨t,rfl⟩:=j;obtain⟨z,a,m,r,B,e⟩:=I.X? hH;have d:a.length=w.length:=by have:=r.length;omega
 refine gm oQ ⟨_,e,U⟩ F.entry_list_insert (F.args_list_insert_3 _ _ _) (AutoSeq1.list_insert_list_int_val_1 l a.toArray m n t c (by simp[fitsIndex_both (show -(2 ^ 63)<=n by omega) (show n<2 ^ 63 by have:=bU;omega)]) (by rw[bj];omega)) ⟨e,?_⟩;refine⟨.E,_,I.lset (its':=mw a n.toNat c) hH e ?_ (XF r b _) ?_,U,q⟩
 .show (a.toArray.extract 0 (if n<0 then (n+(a.toArray.size:Int)).toNat else min n.toNat a.toArray.size)).push c++a.toArray.extract (if n<0 then (n+(a.toArray.size:Int)).toNat else min n.toNat a.toArray.size)=_;rw[aj (by omega),bj,iO (by omega)];apply Array.toList_inj.1;simp[mw];exact gL (by simp)
 .unfold mw;rw[aC,aP,cm,dH];omega
def P'(i:Nat)(f e:FE):FE:=λd=>match xW d i with
 |some _=>match f d with
  |some (.int n,c)=>match e c with
   |some (y,a)=>match xW a i with
    |some b=>if 0<=n/\n.toNat<=b.length/\b.length<1000 then Z (.E,putAt a i (mw b n.toNat y))else O
    |none=>O
   |none=>O
  |_=>O
 |none=>O
def ι{H:Hp}{a:bh}{b:bJ}{d:D}{v:V}(n:Nat)(h:b? G H a b)(r:eg G H d v):b? G H (mw a n d) (mw b n v):=wy (FB n h) (vg r (Fy n h))
set_option tactic.hygienic true
def T?(h:PE X e (tBM G.K "list" rIns (Ep i) (q9 G (ax f (ax J uQ))))):PE X e (tF G (P' i f J)):=PE.eb h λσ H Q M=>by
 obtain⟨F,w,x,d,Y,R,e,k⟩:=M;unfold P' at e;cases c:xW w i with
 |none=>simp only[c]at e;cases e
 |some B=>
  simp only[c]at e;split at e
  .rename_i n ρ1 C;split at e
   .rename_i y p E;split at e
    .rename_i ds I;split at e
     .rename_i j;cases e;obtain⟨a,W,t,N,s3,_⟩:=AE R c;refine⟨.ref a,t,.inl ⟨U,W,fx.of N⟩,F,w,x,[.int n,y],p,R,by unfold ax;rw[C];simp only[E];rfl,λys H1 z s A rs=>?_⟩;unfold b? at rs;obtain⟨v,r0,rfl,r,q⟩:=rs;unfold b? at q;obtain⟨T,r1,rfl,l,b⟩:=q;unfold b? at b;subst b;unfold eg at r;subst r;obtain⟨a',o,u,P,m,S⟩:=AE A I;rw[t]at u;cases u;exact⟨a,o,T,n,U,U,P,j.1,by rw[<-uB m];exact j.2.1,by rw[<-uB m];exact AC (gb j.2.2),k _ _ _ s (S _ _ (ι _ m l)) zP⟩
     .cases e
    .cases e
   .cases e
  .cases e
end
set_option tactic.hygienic false
section
variable{X:Cx}{B:Bz}{k i:Nat}{x:Str}{e e':Expr}{f f':FE}{p p2 pos apos:Pos}
theorem zr_jnI [C:Cz X B k](d:ZE X B e f)(h:ZE X B e' f')(b:Az X e "join")(c:Ez apos pos)(a:S1 X e'):ZE X B (.Call (.Attribute e "join" apos) [e'] [] pos) (c2 t? f f'):=⟨pf_join (bmI b c a pL F.slot_str_join F.type_str_join (C.K▸η) d.p (we h.p xp a))⟩
theorem zr_insI [C:Cz X B k](h:A6 X i x=γ)(j:ZE X B e f)(l:ZE X B e' f')(c:Az X (.Name x p) "insert")(d:Ez apos pos)(b:aF [e,e'] X.b1=[(δ,eval e X.b1),(δ,eval e' X.b1)])(a:S1 X e'):ZE X B (.Call (.Attribute (.Name x p) "insert" apos) [e,e'] [] pos) (P' i f f'):=
 ⟨T? (Nv B.G.K jA oQ F.type_list_insert R? (P? h) (we j.p (we l.p xp a) (by rw[b,a])) c (by rw[b];rfl) d (by rw[b,a]) (by rw[a];rfl) C.K)⟩
end
end L4
namespace L4
open PySem PySem.Spec PySem.Calls PySem.SeqAt PyProof.Rows PySem.W L2 L3
section
variable{X:Cx}{G:Bg}
def rSpl:V->bJ->Hp->VK->Prop:=λx a H Q=>∃z y:Str,x=.str z/\a=[.str y]/\(y.length==0)=δ/\z.length+2<=aI/\∀l,H l=O->Q (.ref l) (e0 H l (.b0 ((cO z y).map V.str)))
def cSpl(f c:FE):FA:=λd=>match f d with
 |some (.str z,a)=>match c a with
  |some (.str y,b)=>if (y.length==0)=δ/\z.length<=100000 then Z ((cO z y).map D.str,b)else O
  |_=>O
 |_=>O
set_option tactic.hygienic true
def pfn_spl(h:PE X e (tBM G.K "str" rSpl (tF G f) (q9 G (ax u uQ)))):PE X e (u1 G (cSpl f u)):=PE.eb h λS H Q x=>by
 obtain⟨F,C,j,M,E,R,e,k⟩:=x;unfold cSpl at e;split at e
 .rename_i z a r;split at e
  .rename_i y I t;split at e
   .rename_i w;cases e;refine⟨F,C,j,.str z,a,R,r,λv l m A q c=>?_⟩;unfold eg at c;subst c;refine⟨U,F,a,l,[.str y],_,q,by unfold ax;rw[t];rfl,λP J o B R2 rs=>?_⟩;unfold b? at rs;obtain⟨v,N,rfl,i,d⟩:=rs;unfold b? at d;subst d;unfold eg at i;subst i;exact⟨z,y,U,U,w.1,by rw[bU];omega,λp b=>k p _ _ _ (A.t B) (R2.f? b _) uz (R2.e7 b) (R2.gk b) (R2.apart b) (Bh _)⟩
   .cases e
  .cases e
 .cases e
set_option tactic.hygienic false
def xr(l:Addr)(items:Array ab)(n:Nat)(q:Option Addr)(sl:Array (Option ab))(x:ab)(e:ab->Bool)(j:Nat)(C:j<items.size)(hit:e items[j]=γ)(hno:∀m (hm:m<items.size),m<j->e items[m]=δ):
  Meets (eU.«tuple.index» ⟨[.ref l,x],[]⟩)
   (λA R s=>s.heap.get? l=Z { cls:=.type "tuple", dict:=q,data:=.seq items n,slots:=sl }/\(∀y,y∈items->EqAt A.in1 s y x (e y))/\R (.ok (.ret (.int j s.toks))) { s with toks:=s.toks+1 }):=
 .of_wp λprog w A R s h=>by
  obtain⟨F,g,d,tk,os⟩:=s;obtain⟨E,B,h⟩:=h
  wp_walk using wpAny_loadPart' E
  show ao _ _ (forIn [:_] _ _) _ _ _;have hr:∀{p:Type} (n:Nat) (b:p) (f:Nat->p->Sem (ForInStep p)),forIn [:n] b f=forIn (qU 0 n 1) b f:=λn b f=>by rw[rV];simp[tD]
  rw[hr,gh];refine jF _ (λfb b o=>b.1=O/\o=⟨F,g,d,tk,os⟩/\∃i,fb=qU i (items.size - i)/\i<=j) _ ?_ ?_ _ _ ⟨U,U,0,U,bH _⟩
  .rintro m fb ⟨b,u⟩ o ⟨z,rfl,i,a,hi⟩;have hlt:i<items.size:=fP hi C;obtain⟨k,c⟩:∃k,items.size - i=k+1:=⟨items.size - i - 1,by omega⟩;rw[c,pM]at a;injection a with r t;subst r t;have hg:items[m]?=Z items[m]:=by simp[hlt]
   simp only[hg];refine ag (B _ (Array.getElem_mem hlt) prog w _ _ ?_);rcases Nat.lt_or_ge m j with hm|hm
   .rw[hno m hlt hm]
    wp_walk
    exact⟨U,U,m+1,by rw[show items.size - (m+1)=k by omega],hm⟩
   .have:m=j:=by omega
    subst this;rw[hit]
    wp_walk
    exact⟨_,U,h⟩
  .rintro⟨b,u⟩ o ⟨z,rfl,i,a,hi⟩;obtain⟨k,c⟩:∃k,items.size - i=k+1:=⟨items.size - i - 1,by omega⟩;rw[c,pM]at a;cases a
def P0(K:au):V->bJ->Hp->VK->Prop:=λx b H Q=>∃(l:Addr) (a:aB) (k:Str),x=.ref l/\b=[.str k]/\f3 K H l (a.map V.str)/\a.length<=1000/\k∈a/\Q (.int (a.idxOf k:Nat)) H
theorem S3:MtR X "tuple.index" (P0 X.K):=by
 intro m s P H x N v M Q I C B h;obtain⟨l,b,k,rfl,rfl,w,J,r,q⟩:=h;cases C;obtain⟨u,rfl,A⟩:=B.one;obtain⟨t,rfl⟩:=A;obtain⟨a,o,pl,_⟩:=I.tuple w;have d:=Io o;have c:b.length=a.length:=by have:=o.length;rw[af]at this;exact this
 obtain⟨⟨cls,p,data,E⟩,i,f,n,hd⟩:=id pl;simp only at f hd;subst f hd;have e:b.idxOf k<b.length:=jk.2 r;refine gm oR ⟨_,i,U⟩ F.entry_tuple_index (F.args_tuple_index_2 _ _)
  (xr l a.toArray n p E (.str k t) (isStrOf k) (b.idxOf k) (by simpa [c]using e) ?_ ?_) ⟨i,λy z=>(eq_isStrOf k t d y (by simpa using z)).at _ _,?_⟩
 .show isStrOf k a[b.idxOf k]=γ;rw[D8 k d _ (by omega) e];simpa using oU e
 .intro j hjs hlt;show isStrOf k a[j]=δ;rw[D8 k d j (by simpa using hjs) (by omega)];exact Ip hlt _
 .exact⟨.int (b.idxOf k:Nat),_,I.rl _,⟨_,U⟩,q⟩
def tBU(K:au)(r:V->bJ->Hp->VK->Prop)(to:TE)(t:TA):TE:=λc H Q=>to c H λx b=>(∃p a,x=.ref p/\f3 K b p a)/\t c b λa d=>r x a d Q
def pe_bu{id:String}(C:kN X.K=γ)(E:jT "tuple")(slot:Slot "tuple" name id)(hty:typeOf (.builtin id)=pure (.type "method_descriptor"))(w:MtR X id r)(y:PE X o to)(q:PA X (e::c) t)
  (hbase:eG o name X.b1 (eval o X.b1)=eval o X.b1)
  (hfew:((bI cpos (aF (e::c) X.b1)).all (λx=>!x.1)&&(backToKw cpos (dr [] X.b1)).all (λx=>x.1.isSome)
   && decide ((e::c).length+([]:List d4).length+(if ([]:List d4).isEmpty then 0 else 1)<30))=γ)
  (hline:(apos.endLine==cpos.line)=γ) (z:aF (e::c) X.b1=(δ,eval e X.b1)::aF c X.b1) (hplain:(bI cpos (aF c X.b1)).any (·.1)=δ):
  PE X (.Call (.Attribute o name apos) (e::c) [] cpos) (tBU X.K r to t):=by
 intro b s i H Q I h;refine nR hbase hfew hline U (fu (y b s i H _ I h) λv P zz=>?_);obtain⟨x,j,d,M,⟨p,Y,A,hT⟩,F⟩:=zz;subst A;cases M;obtain⟨B,W,pl,_⟩:=d.tuple hT;obtain⟨f,hob,u,_⟩:=pl;refine⟨"tuple", id,E,slot,hty,⟨f,hob,u⟩,λa e=>by cases e;exact⟨f,hob,J? d C hT f hob⟩,?_⟩;have hA:=q cpos b P i j _ d F;rw[z]at hA ⊢;refine gH (by show (δ||(bI cpos (aF c X.b1)).any (·.1))=δ;rw[hplain]<;>rfl) (gM ?_)
 exact fu hA λS R ⟨T,l,m,N,J⟩=>w b R i l (.ref p) T _ S Q m U N J
def qi:D->D->Option D:=λx y=>match x,y with
 |.cx b,.str k=>match zS b with
  |some a=>if k∈a/\a.length<=1000 then Z (.int (a.idxOf k:Nat))else O
  |none=>O
 |_,_=>O
set_option tactic.hygienic true
def Q'(h:PE X e (tBU G.K (P0 G.K) (tF G f) (q9 G (ax J uQ)))):PE X e (tF G (c2 qi f J)):=PE.eb h λσ H Q N=>by
 obtain⟨F,W,w,d,j,R,e,k⟩:=N;obtain⟨x,y,c,E,I,b⟩:=Dj e;unfold qi at b;split at b
 .rename_i C p;cases eq:zS C with
  |none=>simp only[eq]at b;cases b
  |some T=>
   simp only[eq]at b;split at b
   .rename_i o;cases b;refine⟨F,W,w,_,c,R,E,λv z A S l q=>?_⟩;unfold eg at q;obtain⟨a,xs,rfl,m,M⟩:=q;have P:=zr M eq;subst P;refine⟨⟨a,_,U,f3.mono l.sub m⟩,F,c,z,[.str p],j,l,by unfold ax;rw[I];rfl,λys B i u R2 rs=>?_⟩;unfold b? at rs;obtain⟨v,Y,rfl,t,r⟩:=rs;unfold b? at r;unfold eg at t;subst r t;exact⟨a,T,p,U,U,f3.mono (u.t R2.sub) m,o.2,o.1,k _ B i (S.t u) R2 (wN _)⟩
   .cases b
 .cases b
set_option tactic.hygienic false
def rInU(K:au):R2:=λx y H Q=>∃p a d l,y=.ref p/\f3 K H p a/\L3.eg K H d x/\L3.b? K H l a/\g? d<=20/\(∀e∈l,g? e<=20)/\Q (.I (l.any λe=>qq e d)) H
def op_inU(T:X.A.units+64<cLine):i0 X (bB .In) (rInU X.K):=by
 intro C s σ H x y v u Q I R S h;obtain⟨p,Y,d,l,rfl,F,N,P,hd,E,q⟩:=h;cases S;obtain⟨j,r,pl,W⟩:=I.tuple F;obtain⟨J,M⟩:=D' P r;have B:∀e∈l,∀z w,L3.eg X.K H e z->eu z w->iV X.A.in1 s w v (qq e d):=λe a z w b c=>RE I e d z x w v X.A.in1 b N c R (by have:=E e a;show X.A.units+1+_+_<_;omega);let f:ab->Bool:=λw=>@decide (∃e∈l,∃z,L3.eg X.K H e z/\eu z w/\qq e d=γ) (iq _);refine pF f pl (λw o=>?_) ⟨.I _,H,I,U,?_⟩
 .by_cases m:∃e∈l,∃z,L3.eg X.K H e z/\eu z w/\qq e d=γ
  .have t:f w=γ:=@aT _ (iq _) m;obtain⟨e,a,z,b,c,i⟩:=m;have:=B e a z w b c;rw[i]at this;rw[t];exact this
  .have t:f w=δ:=@aR _ (iq _) m;obtain⟨e,a,z,b,c⟩:=J w (by simpa using o);have:=B e a z w b c;rw[iF.2 λi=>m ⟨e,a,z,b,c,i⟩]at this;rw[t];exact this
 .have eq:j.toArray.any f=l.any λe=>qq e d:=by
   rw[show j.toArray.any f=j.any f by simp];refine dM.2 ?_;rw[fw,fw];constructor
   .rintro⟨w,o,m⟩;obtain⟨e,a,z,b,c,i⟩:=@bp _ (iq _) m;exact⟨e,a,i⟩
   .rintro⟨e,a,i⟩;obtain⟨w,o,z,b,c⟩:=M e a;exact⟨w,o,@aT _ (iq _) ⟨e,a,z,b,c,i⟩⟩
  rw[eq];exact q
def T1:D->D->Option D:=λx y=>match y with
 |.cx a=>match mq x,xc a with
  |some d,Z l=>if decide (g? d<=20)&&l.all (λe=>decide (g? e<=20))then Z (.I (l.any λe=>qq e d))else O
  |_,_=>O
 |_=>O
set_option tactic.hygienic true
def od_inU:j? G (rInU G.K) T1:=λx y z r H v u Q e s q c k=>by
 unfold T1 at e;split at e
 .rename_i i;cases b:mq x with
  |none=>simp only[b]at e;cases e
  |some d=>
   cases f:xc i with
   |none=>simp only[b,f]at e;cases e
   |some l=>
    simp only[b,f]at e;split at e
    .rename_i h;cases e;rw[aQ,bz,aH]at h;have c:=eg.mono s _ _ c;unfold eg at c;obtain⟨a,j,rfl,m,o⟩:=c;exact⟨a,j,d,l,U,m,Hg x v d (eg.mono s _ _ q) b,EG i j l o f,h.1,λe p=>bp (h.2 e p),k _ λ_ _=>wZ _⟩
    .cases e
 .cases e
set_option tactic.hygienic false
instance inU2:A7 .In T1:=⟨λX G h a=>⟨_,by rw[<-h];exact op_inU a,od_inU⟩⟩
end
section
variable{X:Cx}{B:Bz}{k i:Nat}{x:Str}{e e':Expr}{f f':FE}{p p2 pos apos:Pos}
theorem zr_plI [C:Cz X B k](d:ZE X B e f)(h:ZE X B e' f')(b:Az X e "split")(c:Ez apos pos)(a:S1 X e'):ZN X B (.Call (.Attribute e "split" apos) [e'] [] pos) (cSpl f f'):=⟨pfn_spl (bmI b c a pL jE F.type_str_split RG d.p (we h.p xp a))⟩
theorem zr_iuI [C:Cz X B k][N:Hz B](d:ZE X B e f)(h:ZE X B e' f')(b:Az X e "index")(c:Ez apos pos)(a:S1 X e'):ZE X B (.Call (.Attribute e "index" apos) [e'] [] pos) (c2 qi f f'):=⟨Q' (C.K▸pe_bu (by rw[C.K];exact N.k) F.plainAttrs_tuple oR F.type_tuple_index S3 d.p (we h.p xp a) b (by rw[a];rfl) c a U)⟩
end
end L4
namespace K42x
open PySem L2 L3 L4
abbrev D:=L4.D
def top(i:Nat):Stmt:=PySem.Challenge.pw_tellworld_k42_verbs_and_forms.main.body.getD i (.Pass ⟨0,0,0,0⟩)
def AI:Nat->Bool:=λc=>c==14
def Do:Nat->Bool:=λc=>c==13
def xB:Nat->Bool:=λc=>c==2
def JZ:Nat->Bool:=λc=>c==9
def xk:Nat->Bool:=λc=>c==2
def DG:Nat->Bool:=λc=>c==14
def zt:Nat->Bool:=λc=>c==14
def wc:Nat->Bool:=λc=>c==14
def Cv:Nat->Bool:=λc=>c==14
def Ai:Nat->Bool:=λc=>c==14
def vq:Nat->Bool:=λc=>c==0||c==7
def zu:Nat->Bool:=λc=>c==1
def zT:Nat->Bool:=λc=>c==14
def uN:Nat->Bool:=λc=>c==0||c==1||c==2
def O0:Nat->Bool:=λc=>c==10
def J0:Nat->Bool:=λc=>c==10
def xl:Nat->Bool:=λc=>c==2
def FU:Nat->Bool:=λc=>c==3||c==11
def zU:Nat->Bool:=λc=>c==13
def AJ:Nat->Bool:=λc=>c==14
def AK:Nat->Bool:=λc=>c==14
def vN:Nat->Bool:=λc=>c==0||c==1
def Cw:Nat->Bool:=λc=>c==3||c==4||c==5||c==6||c==7||c==11||c==12
def FV:Nat->Bool:=λc=>c==13
def Ir:Nat->Bool:=λc=>c==13
def zv:Nat->Bool:=λc=>c==14
def J1:Nat->Bool:=λc=>c==6||c==12
def x4:Nat->Bool:=λc=>c==13
def zV:Nat->Bool:=λc=>c==14
def MA:Nat->Bool:=λc=>c==8
def wX:Nat->Bool:=λc=>c==0
def Aj:Nat->Bool:=λc=>c==14
abbrev t_At:Ty->Option Bool:=xZ 16 3
abbrev NY:Ty->Option Bool:=xZ 16 10
abbrev XE:Ty->Option Bool:=xZ 16 4
abbrev Ti:Ty->Option Bool:=xZ 16 7
abbrev XG:Ty->Option Bool:=xZ 16 15
abbrev Tj:Ty->Option Bool:=xZ 16 1
abbrev MB:Ty->Option Bool:=xZ 16 6
abbrev Tn:Ty->Option Bool:=xZ 16 11
abbrev To:Ty->Option Bool:=xZ 16 9
abbrev XH:Ty->Option Bool:=xZ 16 12
abbrev Tp:Ty->Option Bool:=xZ 16 13
abbrev Tq:Ty->Option Bool:=xZ 16 5
abbrev O1:Ty->Option Bool:=xZ 16 0
abbrev Tr:Ty->Option Bool:=xZ 16 2
abbrev Ts:Ty->Option Bool:=xZ 16 8
def Cy:L4.D:=(D.int 8)
def CA:L4.D:=(D.int 12)
def Iu:L4.D:=(D.cx [(D.str "it"),(D.str "other"),(D.str "here"),(D.str "the"),(D.str "a"),(D.str "undo"),(D.str "restart")])
def Iv:L4.D:=(D.cx [(D.str "the"),(D.str "a")])
def Dp:L4.D:=(D.cx [(D.str "room"),(D.str "plain"),(D.str "fixed"),(D.str "box"),(D.str "lamp"),(D.str "you")])
def O2:L4.D:=(D.cx [(D.str "alone"),(D.str "one"),(D.str "two"),(D.str "way")])
def zW:L4.D:=(D.cx [(D.str "room"),(D.str "box"),(D.str "you")])
def zX:L4.D:=(D.cx [(D.str "box"),(D.str "lamp")])
def DH:L4.D:=(D.cx [(D.str "room"),(D.str "you")])
def EV:L4.D:=(D.int 5)
def EW:L4.D:=(D.int 4)
def Gs:L4.D:=(D.int 4)
def EX:L4.D:=(D.int 60)
def zY:L4.D:=(D.int 3)
def EY:L4.D:=(D.int 5)
def DI:L4.D:=(D.int 7)
def Bj:L4.D:=(D.int 4)
def CB:L4.D:=(D.int 3)
def Gu:L4.D:=(D.int 10)
def EZ:L4.D:=(D.int 6)
def Bk:L4.D:=(D.int 4)
def zw:L4.D:=(D.cx [(D.str "the"),(D.str "a"),(D.str "undo"),(D.str "restart")])
def E1:L4.D:=(D.int 20)
abbrev aa:=(cV 0)
abbrev ay:=(cC (.int 1))
abbrev ai:=(cV 1)
def zx:FS:=(uy (vU (c1 (vz (v7 "str")) aa) (vU (xx yK yK ay (c1 vH aa) ai) (c1 yL (cL (uF 1 [] (iS aa) (gN 0) vC (xx R8 R8 (cS "a") aa (cS "z"))))))))
def xJ:=e3 2 2 zx
def J2:FS:=(uy (vU (uw xJ (ax aa (a1 (cC Cy)))) (c2 (oy γ) aa (cC Iu))))
def xt:=e3 1 1 J2
abbrev ka:=(cC Iv)
def J3:FS:=(uy (vU (uw xJ (ax aa (a1 (cC CA)))) (c2 (oy γ) aa ka)))
def wz:=e3 1 1 J3
def Gv:FS:=(uy (vU (c1 (vz (v7 "str")) aa) (c2 (oy δ) aa ai)))
def vb:=e3 2 2 Gv
def Iw:FS:=(uy (vU (c1 (vz (v7 "int")) aa) (HL (c1 (vz (v7 "bool")) aa))))
def zy:=e3 1 1 Iw
def BY:FS:=(uy (vU (c1 (vz (v7 "list")) aa) (c2 yK (c1 vH aa) ai)))
def vt:=e3 2 2 BY
def Iy:FS:=(uy (u2 (cT (c1 (vz (v7 "list")) aa)) (cL (zm aa)) aa))
def Ec:=e3 1 1 Iy
abbrev ak:=(cV 2)
abbrev av:=(cV 3)
abbrev aX:=(cV 4)
def Bl:FS:=(bt (ve 0 0 "name" ai)
 (bt (ve 0 0 "words" ak)
 (bt (ve 0 0 "kind" av)
 (ve 0 0 "start" aX))))
def y8:=sm 0 4 5 Bl
def Gw:FS:=(bt (ve 1 0 "name" ai)
 (bt (ve 1 0 "start" ak)
 (ve 1 0 "most" av)))
def Gx:=sm 1 3 4 Gw
abbrev bf:=(cC D.E)
def CC:FS:=(bt (ve 2 0 "name" ai)
 (bt (ve 2 0 "others" (u2 (cT (c2 Ag ak bf)) (uO uQ) ak))
 (bt (ve 2 0 "form" av)
 (ve 2 0 "joining" aX))))
def wJ:=sm 2 4 5 CC
def J4:FS:=(bt (ve 3 0 "term" ai)
 (ve 3 0 "place" ak))
def Dr:=sm 3 2 3 J4
def IA:FS:=(ve 4 0 "term" ai)
def Bm:=sm 4 1 2 IA
def Gy:FS:=(ve 5 0 "term" ai)
def GA:=sm 5 1 2 Gy
def DJ:FS:=(bt (ve 6 0 "term" ai)
 (ve 6 0 "value" ak))
def vX:=sm 6 2 3 DJ
def GB:FS:=(bt (ve 7 0 "term" ai)
 (ve 7 0 "kind" ak))
def wK:=sm 7 2 3 GB
def GE:FS:=(ve 8 0 "word" ai)
def CD:=sm 8 1 2 GE
def IB:FS:=(ve 9 0 "inner" ai)
def wU:=sm 9 1 2 IB
def GF:FS:=(bt (ve 10 0 "one" ai)
 (ve 10 0 "other" ak))
def GH:=sm 10 2 3 GF
def GK:FS:=(bt (ve 11 0 "term" ai)
 (ve 11 0 "place" ak))
def xP:=sm 11 2 3 GK
def IC:FS:=(bt (ve 12 0 "term" ai)
 (ve 12 0 "value" ak))
def yq:=sm 12 2 3 IC
abbrev br:=(cV 5)
abbrev cD:=(a1 ak)
abbrev il:=(a1 av)
def CG:FS:=(bt (ve 13 0 "verb" ai)
 (bt (ve 13 0 "tests" (uw Ec cD))
 (bt (ve 13 0 "deeds" (uw Ec il))
 (bt (ve 13 0 "text" aX)
 (ve 13 0 "refuses" br)))))
def wL:=sm 13 5 6 CG
def AL:FS:=(uy (c2 (oy δ) (c1 (uC vq "kind") aa) (cC zW)))
def AM:=e3 1 1 AL
def vQ:Nat->Option (List D->Option D):=λc=>match c with
 |0=>Z AM
 |_=>O
def AN:FS:=(uy (c2 (oy δ) (c1 (uC vq "kind") aa) (cC zX)))
def AO:=e3 1 1 AN
def wB:Nat->Option (List D->Option D):=λc=>match c with
 |0=>Z AO
 |_=>O
def zz:FS:=(uy (c2 (oy γ) (c1 (uC vq "kind") aa) (cC DH)))
def zA:=e3 1 1 zz
def wC:Nat->Option (List D->Option D):=λc=>match c with
 |0=>Z zA
 |_=>O
def BZ:FS:=(fc (vZ (cT aa)) Sk uD)
def uG:=e3 2 2 BZ
def ID:FS:=(uy (c1 vH (cL (uF 1 [1] (iL aa) (gN 0) (cT (c2 (er δ) (c1 (uC vq "kind") aa) ai)) aa))))
def Bn:=e3 2 2 ID
def E2:FS:=(vJ (uF 1 [] (iL aa) (gN 0) (cT (vd wC "is_plainly" aa uQ)) aa))
def x8:=r? 1 1 E2
abbrev aw:=(cC (.int 0))
abbrev cj:=(cC (.I δ))
def FW:FS:=(bt (fc (wH (vZ (cT (c1 (vz Tj) aa))) (wH (vZ (cT (uw zy (a1 (c1 (uC vN "start") aa))))) (vZ (cT (uw zy (a1 (c1 (uC zu "most") aa))))))) (uy cj) uD)
 (uy (vU (xx yK yK ay (c1 (uC zu "most") aa) (cC CB)) (xx yK yK aw (c1 (uC vN "start") aa) (c1 (uC zu "most") aa)))))
def FX:=e3 1 1 FW
abbrev cR:=(cS "room")
abbrev i7:=(cS "you")
abbrev bS:=(a1 aa)
def zB:FS:=(bt (uM 1 (vU (c1 (vz (v7 "list")) aa) (c1 yL (cL (uF 1 [] (iL aa) (gN 0) vC (c1 (vz O1) aa))))))
 (bt (uW (uw uG (ax ai (a1 (cS "things are a list of things")))))
 (bt (uW (uw uG (ax (c1 yL (cL (uF 1 [] (iL aa) (gN 0) vC (uw vb (ax (c1 (uC vq "kind") aa) (a1 (cC Dp))))))) (a1 (cS "a thing is of no kind")))))
 (bt (uW (uw uG (ax (xx yK yK ay (uw Bn (ax aa (a1 cR))) (cC EY)) (a1 (cS "a world has 1 to 5 rooms")))))
 (bt (uW (uw uG (ax (c2 (er δ) (uw Bn (ax aa (a1 i7))) ay) (a1 (cS "a world has just one you")))))
 (uW (uw uG (ax (c2 yK (c1 vH (cL (vw x8 bS))) (cC DI)) (a1 (cS "a world has at most 7 things beside rooms and you"))))))))))
def zC:=e3 1 2 zB
def Ak:FS:=(bt (uM 1 (vU (uw vt (ax aa (a1 (cC Bj)))) (c1 yL (cL (uF 1 [] (iL aa) (gN 0) vC (uw FX bS))))))
 (uW (uw uG (ax ai (a1 (cS "marks are a list of at most 4 marks, each from 0 to at most 3"))))))
def Al:=e3 1 2 Ak
def E3:FS:=(uy (c2 (er δ) (c1 (EM Ea) aa) (c1 vH aa)))
def wm:=e3 1 1 E3
def Am:FS:=(bt (uM 2 (cL (vV (cL (uF 1 [] (iL aa) (gN 0) vC (c1 (uC uN "name") aa))) (cL (uF 1 [] (iL ai) (gN 0) vC (c1 (uC uN "name") aa))))))
 (bt (uW (uw uG (ax (c1 yL (cL (uF 1 [] (iL ak) (gN 0) vC (uw xt bS)))) (a1 (cS "a name is no name")))))
 (uW (uw uG (ax (uw wm cD) (a1 (cS "two things or marks have one name")))))))
def An:=e3 2 3 Am
def E4:FS:=(vJ (vV (cL (uF 1 [] (iL aa) (gN 0) (cT (vd wB "has_mark" aa uQ)) (c1 (uC uN "name") aa))) (cL (uF 1 [] (iL ai) (gN 0) vC (c1 (uC uN "name") aa)))))
def x9:=r? 2 2 E4
def Ed:FS:=(bt (fc (cT (c2 (er δ) (c1 (uC vq "kind") ai) cR)) (uy (c2 Ag (c1 (uC vN "start") ai) bf)) uD)
 (bt (fc (cT (c2 (er δ) (c1 (uC vq "kind") ai) i7)) (uy (uw vb (ax (c1 (uC vN "start") ai) (a1 (cL (uF 1 [] (iL aa) (gN 0) (cT (c2 (er δ) (c1 (uC vq "kind") aa) cR)) (c1 (uC uN "name") aa))))))) uD)
 (uy (uw vb (ax (c1 (uC vN "start") ai) (a1 (cL (uF 1 [] (iL aa) (gN 0) (cT (vd vQ "can_hold" aa uQ)) (c1 (uC uN "name") aa)))))))))
def Ee:=e3 2 2 Ed
abbrev dy:=(cC (.I γ))
def B2:FS:=(bt (uM 2 (c2 DE aa ai))
 (bt (xA (u3 (c1 vH aa)) (gN 3) (bt (fc (cT (c2 Ag ak bf)) (uy dy) uD)
 (uM 2 (c2 DE aa ak))))
 (uy (c2 Ag ak bf))))
def yO:=e3 2 4 B2
abbrev jc:=(ax ai bS)
def zD:FS:=(bt (uW (uw uG (ax (c1 yL (cL (uF 1 [0] (iL aa) (gN 0) vC (uw Ee jc)))) (a1 (cS "a start is none")))))
 (bt (HZ 1)
 (bt (xA (iL aa) (gN 2) (yp 1 (c1 (uC uN "name") ak) (c1 (uC vN "start") ak)))
 (uW (uw uG (ax (c1 yL (cL (uF 1 [1] (iD (tX 1)) (gN 0) vC (uw yO jc)))) (a1 (cS "a thing starts within itself"))))))))
def zF:=e3 1 3 zD
def CH:FS:=(bt (fc (wH (vZ (cT (c1 (vz (v7 "tuple")) aa))) (vZ (cT (xx yK yK ay (c1 vH aa) (cC Bk))))) (uy cj) uD)
 (uy (vU (c1 yL (cL (uF 1 [] (iT aa) (gN 0) vC (uw wz bS)))) (uw wm bS))))
def yG:=e3 1 1 CH
def J5:FS:=(uy (c1 yL (cL (uF 1 [0] (iT ai) (gN 0) vC (c2 (oy δ) aa ai)))))
def zh:=e3 2 2 J5
def yP:FS:=(bt (uM 2 (cL (uF 1 [1] (iL aa) (gN 0) (cT (c2 (er γ) (c1 (uC uN "name") aa) (c1 (uC uN "name") ai))) aa)))
 (uy (HL (c1 G5 (cL (uF 1 [1] (iL ak) (gN 0) vC (uw zh (ax (c1 (uC wX "words") aa) (a1 (c1 (uC wX "words") ai))))))))))
def yQ:=e3 2 3 yP
def wD:FS:=(bt (uW (uw uG (ax (c1 yL (cL (uF 1 [] (iL aa) (gN 0) vC (uw yG (a1 (c1 (uC wX "words") aa)))))) (a1 (cS "a thing has 1 to 4 unlike words, as a tuple")))))
 (bt (uM 1 (cL (vw x8 bS)))
 (uW (uw uG (ax (c1 yL (cL (uF 1 [1] (iL ai) (gN 0) vC (uw yQ jc)))) (a1 (cS "one thing has all words of another")))))))
def wF:=e3 1 2 wD
abbrev dD:=(ax aa (a1 ai))
def Bo:FS:=(bt (uM 2 (vU (c1 (vz (v7 "list")) aa) (vU (c1 yL (cL (uF 1 [1] (iL aa) (gN 0) vC (uw vb dD)))) (uw wm bS))))
 (uW (uw uG (ax ak (a1 (cS "dark is a list of rooms' names, each once"))))))
def Bp:=e3 2 3 Bo
abbrev bC:=(cC (.int 3))
abbrev bV:=(cC (.int 2))
abbrev cA:=(cC (.int 4))
abbrev cE:=(a1 ai)
abbrev gB:=(a1 (c2 ea aa ay))
abbrev rT:=(ax (c2 ea aa bC) cD)
def IE:FS:=(bt (fc (wH (vZ (cT (c1 (vz (v7 "tuple")) aa))) (cT (c2 (er γ) (c1 vH aa) cA))) (uy cj) uD)
 (bt (uM 3 (Hs (c2 Ag (c2 ea aa bC) bf) (uw vb rT)))
 (uy (vU (uw vb (ax (c2 ea aa aw) cE)) (vU (uw wz gB) (vU (uw vb (ax (c2 ea aa bV) cE)) av))))))
def IF:=e3 3 4 IE
abbrev cB:=(ax ai (a1 ak))
abbrev jd:=(ax aa cB)
def Bq:FS:=(bt (uM 3 (vU (uw vt (ax aa (a1 (cC Gu)))) (c1 yL (cL (uF 1 [1,2] (iL aa) (gN 0) vC (uw IF jd))))))
 (bt (uW (uw uG (ax av (a1 (cS "ways are a list of at most 10 tuples (room, word, room, mark)")))))
 (uW (uw uG (ax (uw wm (a1 (cL (uF 1 [] (iL aa) (gN 0) vC (uO (ax (c2 ea aa aw) gB)))))) (a1 (cS "two ways lead from one room by one word")))))))
def Br:=e3 3 4 Bq
abbrev gv:=(cS "two")
abbrev mZ:=(a1 (c1 (uC uN "name") aa))
abbrev rL:=(a1 (c1 (uC xk "joining") aa))
def J6:FS:=(bt (fc (wH (vZ (cT (c1 (vz Tr) aa))) (wH (vZ (cT (uw xt mZ))) (vZ (cT (c1 (vz (v7 "tuple")) (c1 (uC xl "others") aa)))))) (uy cj) uD)
 (bt (fc (wH (vZ (cT (c1 yL (cL (uF 1 [] (iT (c1 (uC xl "others") aa)) (gN 0) vC (uw xt bS)))))) (vZ (cT (uw vb (ax (c1 (uC xB "form") aa) (a1 (cC O2))))))) (uy cj) uD)
 (uy (u2 (cT (c2 (er δ) (c1 (uC xB "form") aa) gv)) (uw wz rL) (c2 Ag (c1 (uC xk "joining") aa) bf)))))
def J7:=e3 1 1 J6
def DK:FS:=(bt (uM 1 (vU (uw vt (ax aa (a1 (cC EZ)))) (c1 yL (cL (uF 1 [] (iL aa) (gN 0) vC (uw J7 bS))))))
 (uW (uw uG (ax ai (a1 (cS "verbs are a list of at most 6 verbs"))))))
def yy:=e3 1 2 DK
def GL:FS:=(uy (HL (c1 G5 (cL (uF 1 [1] (iL aa) (gN 0) vC (c2 (oy δ) aa ai))))))
def yH:=e3 2 2 GL
abbrev bw:=(cV 6)
abbrev bR:=(cV 7)
abbrev kj:=(a1 (c1 (uC uN "name") bw))
def xK:FS:=(bt (xg 3 (uK uQ))
 (bt (xA (iL (cL (vw x8 bS))) (gN 4) (uW (Cp 3 (c1 (uC wX "words") aX))))
 (bt (xg 5 (uK uQ))
 (bt (xA (iL ak) (gN 6) (uW (Cp 5 (EI (uO kj) (c1 (uC xl "others") bw)))))
 (bt (uM 7 (cL (vV (cL (uF 1 [] (iL ak) (gN 0) (cT (c2 y3 (c1 (uC xk "joining") aa) bf)) (c1 (uC xk "joining") aa))) (cL (uF 1 [] (iL ai) (gN 0) vC (c2 ea aa ay))))))
 (bt (uW (uw uG (ax (uw wm (a1 (tX 5))) (a1 (cS "two verbs' names are alike")))))
 (bt (uW (uw uG (ax (uw yH (ax (cL (vV (tX 5) bR)) (a1 (tX 3)))) (a1 (cS "a verb's, way's or joining word is a word of a thing")))))
 (bt (uW (uw uG (ax (uw yH (ax (cL (vV (tX 5) bR)) (a1 (cC zw)))) (a1 (cS "the, a, undo or restart is a word of the world")))))
 (uW (uw uG (ax (uw yH (ax bR (a1 (tX 5)))) (a1 (cS "a way's or joining word is a verb's name")))))))))))))
def xM:=e3 3 8 xK
abbrev de:=(a1 aX)
def Ao:FS:=(bt (uW (uw zC bS))
 (bt (uW (uw Al cE))
 (bt (uW (uw An dD))
 (bt (uW (uw zF bS))
 (bt (uW (uw wF bS))
 (bt (uM 6 (cL (uF 1 [] (iL aa) (gN 0) (cT (c2 (er δ) (c1 (uC vq "kind") aa) cR)) (c1 (uC uN "name") aa))))
 (bt (uW (uw Bp (ax ak (a1 bw))))
 (bt (uW (uw Br (ax av (ax bw (a1 (cL (vw x9 dD)))))))
 (bt (uW (uw yy de))
 (uW (uw xM (ax aa (ax av (a1 (cL (vV aX br))))))))))))))))
def Ap:=e3 6 7 Ao
def Tt:FS:=(uy (uY 13 (λa=>wL (a++[])) (ax aa (ax ai (ax ak (ax av (a1 cj)))))))
def zG:=e3 4 4 Tt
def J8:FS:=(uy (uY 13 (λa=>wL (a++[])) (ax aa (ax ai (ax (cL (uK uQ)) (ax ak (a1 dy)))))))
def vG:=e3 3 3 J8
abbrev cH:=(cS "it")
abbrev i4:=(cS "take")
abbrev fJ:=(a1 cH)
def E5:FS:=(vJ (uK (ax (uw vG (ax i4 (ax (cL (uK (a1 (uY 7 (λa=>wK (a++[])) (ax cH (a1 (cS "fixed"))))))) (a1 (cS "That stays."))))) (ax (uw vG (ax i4 (ax (cL (uK (a1 (uY 3 (λa=>Dr (a++[])) (ax cH bS))))) (a1 (cS "You have that."))))) (ax (uw zG (ax i4 (ax (cL (uK uQ)) (ax (cL (uK (a1 (uY 11 (λa=>xP (a++[])) (ax cH bS))))) (a1 (cS "Taken.")))))) (ax (uw zG (ax (cS "drop") (ax (cL (uK (a1 (uY 4 (λa=>Bm (a++[])) fJ)))) (ax (cL (uK (a1 (uY 11 (λa=>xP (a++[])) (ax cH (a1 (cS "here"))))))) (a1 (cS "Dropped.")))))) (a1 (uw vG (ax (cS "drop") (ax (cL (uK uQ)) (a1 (cS "You lack that."))))))))))))
def Bs:=r? 1 1 E5
abbrev i3:=(cS "other")
abbrev dA:=(cS "box")
abbrev gz:=(cS "put")
def GN:FS:=(vJ (uK (ax (uw vG (ax gz (ax (cL (uK (a1 (uY 9 (λa=>wU (a++[])) (a1 (uY 4 (λa=>Bm (a++[])) fJ)))))) (a1 (cS "You lack that."))))) (ax (uw vG (ax gz (ax (cL (uK (a1 (uY 9 (λa=>wU (a++[])) (a1 (uY 7 (λa=>wK (a++[])) (ax i3 (a1 dA)))))))) (a1 (cS "It holds nothing."))))) (ax (uw vG (ax gz (ax (cL (uK (a1 (uY 6 (λa=>vX (a++[])) (ax i3 (a1 aw)))))) (a1 (cS "It is shut."))))) (a1 (uw zG (ax gz (ax (cL (uK uQ)) (ax (cL (uK (a1 (uY 11 (λa=>xP (a++[])) (ax cH (a1 i3)))))) (a1 (cS "Done."))))))))))))
def CJ:=r? 0 0 GN
abbrev km:=(ax cH (a1 ay))
abbrev ko:=(ax cH (a1 aw))
abbrev ja:=(cS "open")
def GO:FS:=(vJ (uK (ax (uw vG (ax ja (ax (cL (uK (a1 (uY 9 (λa=>wU (a++[])) (a1 (uY 7 (λa=>wK (a++[])) (ax cH (a1 dA)))))))) (a1 (cS "It has no lid."))))) (ax (uw vG (ax ja (ax (cL (uK (a1 (uY 6 (λa=>vX (a++[])) km)))) (a1 (cS "It is open."))))) (ax (uw zG (ax ja (ax (cL (uK uQ)) (ax (cL (uK (a1 (uY 12 (λa=>yq (a++[])) km)))) (a1 (cS "Opened.")))))) (ax (uw vG (ax (cS "shut") (ax (cL (uK (a1 (uY 9 (λa=>wU (a++[])) (a1 (uY 7 (λa=>wK (a++[])) (ax cH (a1 dA)))))))) (a1 (cS "It has no lid."))))) (ax (uw vG (ax (cS "shut") (ax (cL (uK (a1 (uY 6 (λa=>vX (a++[])) ko)))) (a1 (cS "It is shut."))))) (a1 (uw zG (ax (cS "shut") (ax (cL (uK uQ)) (ax (cL (uK (a1 (uY 12 (λa=>yq (a++[])) ko)))) (a1 (cS "Shut."))))))))))))))
def CK:=r? 0 0 GO
abbrev fI:=(cS "lamp")
def DL:FS:=(vJ (uK (ax (uw vG (ax (cS "light") (ax (cL (uK (a1 (uY 9 (λa=>wU (a++[])) (a1 (uY 7 (λa=>wK (a++[])) (ax cH (a1 fI)))))))) (a1 (cS "It burns not."))))) (ax (uw vG (ax (cS "light") (ax (cL (uK (a1 (uY 6 (λa=>vX (a++[])) km)))) (a1 (cS "It is lit."))))) (ax (uw zG (ax (cS "light") (ax (cL (uK uQ)) (ax (cL (uK (a1 (uY 12 (λa=>yq (a++[])) km)))) (a1 (cS "Lit.")))))) (ax (uw vG (ax (cS "douse") (ax (cL (uK (a1 (uY 9 (λa=>wU (a++[])) (a1 (uY 7 (λa=>wK (a++[])) (ax cH (a1 fI)))))))) (a1 (cS "It burns not."))))) (ax (uw vG (ax (cS "douse") (ax (cL (uK (a1 (uY 6 (λa=>vX (a++[])) ko)))) (a1 (cS "It is out."))))) (a1 (uw zG (ax (cS "douse") (ax (cL (uK uQ)) (ax (cL (uK (a1 (uY 12 (λa=>yq (a++[])) ko)))) (a1 (cS "Doused."))))))))))))))
def Aq:=r? 0 0 DL
def GP:FS:=(bt (xg 2 (uK (ax (uY 3 (λa=>Dr (a++[])) (ax aa (a1 (c2 ea ai aw)))) (a1 (uY 8 (λa=>CD (a++[])) (a1 (c2 ea ai ay)))))))
 (bt (fc (cT (c2 y3 (c2 ea ai bC) bf)) (uW (y7 2 (uY 9 (λa=>wU (a++[])) (a1 (uY 6 (λa=>vX (a++[])) (ax (c2 ea ai bC) (a1 aw))))))) uD)
 (vJ (HQ 2))))
def CL:=r? 2 3 GP
abbrev mV:=(a1 (c2 ea aa bV))
def Ef:FS:=(bt (uM 2 (cL (uF 1 [0] (iL ai) (gN 0) vC (uw zG (ax (cS "go") (ax (cL (vw CL jc)) (ax (cL (uK (a1 (uY 11 (λa=>xP (a++[])) (ax ai mV))))) (a1 (cS "You go.")))))))))
 (vJ (vV ak (cL (uK (a1 (uw vG (ax (cS "go") (ax (cL (uK uQ)) (a1 (cS "No way there.")))))))))))
def Eg:=r? 2 3 Ef
abbrev ig:=(cS "wait")
def E6:FS:=(vJ (uK (a1 (uw zG (ax ig (ax (cL (uK uQ)) (ax (cL (uK uQ)) (a1 (cS "Time goes by.")))))))))
def E7:=r? 0 0 E6
def CM:FS:=(vJ (vV (cL (vV (cL (vV (cL (vV (cL (vV (cL (vw Bs bS)) (cL (vw CJ uQ)))) (cL (vw CK uQ)))) (cL (vw Aq uQ)))) (cL (vw Eg dD)))) (cL (vw E7 uQ))))
def zH:=r? 2 2 CM
abbrev rb:=(ax (cS "take") (ax (cS "drop") (ax ja (ax (cS "shut") (ax (cS "light") (a1 (cS "douse")))))))
abbrev c9:=(cS "way")
abbrev j9:=(cS "alone")
abbrev rJ:=(ax gz (ax (uO uQ) (ax gv (a1 (cS "in")))))
def CN:FS:=(vJ (vV (cL (uF 1 [] (iT (uO rb)) (gN 0) vC (uY 2 (λa=>wJ (a++[D.E,(D.str "one"),D.E])) bS))) (cL (uK (ax (uY 2 (λa=>wJ (a++[])) rJ) (ax (uY 2 (λa=>wJ (a++[D.E])) (ax (cS "go") (ax (uO uQ) (a1 c9)))) (a1 (uY 2 (λa=>wJ (a++[D.E])) (ax ig (ax (uO uQ) (a1 j9)))))))))))
def ya:=r? 0 0 CN
def FY:FS:=(bt (HZ 1)
 (bt (xA (iL aa) (gN 2) (yp 1 (c1 (uC uN "name") ak) ak))
 (uy (tX 1))))
def FZ:=e3 1 3 FY
def yR:FS:=(bt (HZ 2)
 (bt (xA (iL aa) (gN 3) (fc (cT (vd wB "has_mark" av uQ)) (yp 2 (c1 (uC uN "name") av) ay) uD))
 (bt (xA (iL ai) (gN 4) (yp 2 (c1 (uC uN "name") aX) (c1 (uC zu "most") aX)))
 (uy (tX 2)))))
def yS:=e3 2 5 yR
def B3:FS:=(bt (HZ 1)
 (bt (xA (iL aa) (gN 2) (xA (iT (EI (uO (a1 (c1 (uC uN "name") ak))) (c1 (uC xl "others") ak))) (gN 3) (yp 1 av ak)))
 (uy (tX 1))))
def xE:=e3 1 4 B3
def J9:FS:=(NQ (uC x4 "verb"))
def Ka:=e3 1 3 J9
def B4:FS:=(vJ (uF 1 [1] (iL (c1 (uC wc "kept_things") aa)) (gN 0) (cT (c2 (er δ) (c1 (uC vq "kind") aa) ai)) (c1 (uC uN "name") aa)))
def B5:=e3 2 2 B4
def xC:Nat->Option (List D->Option D):=λc=>match c with
 |14=>Z B5
 |_=>O
def zZ:FS:=(vJ (vV (c1 (uC Cv "kept_verbs") aa) (c1 (uC AK "shared_verbs") aa)))
def z4:=e3 1 1 zZ
def yT:Nat->Option (List D->Option D):=λc=>match c with
 |14=>Z z4
 |_=>O
def CO:FS:=(uy (vU (c1 (vz (v7 "str")) aa) (c2 (er δ) aa ai)))
def yb:=e3 2 2 CO
def Kb:FS:=(uy (uY 13 (λa=>wL (a++[])) (ax (c1 (uC x4 "verb") aa) (ax (c1 (uC FV "tests") aa) (ax (c1 (uC Do "deeds") aa) (ax (c1 (uC Ir "text") aa) (a1 (c1 (uC zU "refuses") aa))))))))
def F0:=e3 1 1 Kb
def AQ:FS:=(uy (c2 Mz (c1 (uC zv "things_by_name") aa) ai))
def xu:=e3 2 2 AQ
def vR:Nat->Option (List D->Option D):=λc=>match c with
 |14=>Z xu
 |_=>O
def B6:FS:=(uy (c2 BX (c1 (uC zT "mosts_by_name") aa) ai))
def yU:=e3 2 2 B6
def yz:Nat->Option (List D->Option D):=λc=>match c with
 |14=>Z yU
 |_=>O
def B7:FS:=(uy (c2 BX (c1 (uC zV "verbs_by_word") aa) ai))
def xF:=e3 2 2 B7
def wq:Nat->Option (List D->Option D):=λc=>match c with
 |14=>Z xF
 |_=>O
def GQ:FS:=(uy (c1 (uC Aj "your_name") aa))
def MC:=e3 1 1 GQ
def AR:Nat->Option (List D->Option D):=λc=>match c with
 |14=>Z MC
 |_=>O
abbrev j5:=(ax (cS "one") (a1 (cS "two")))
def B8:FS:=(bt (fc (cT (uw yb (ax ai fJ))) (uy (c2 (oy δ) aa (uO j5))) uD)
 (uy (vU (uw yb (ax ai (a1 i3))) (c2 (er δ) aa gv))))
def vy:=e3 2 2 B8
def Kc:FS:=(uy (vU (c2 y3 aa bf) (uw yb (ax ai (a1 (cS "here"))))))
def yt:=e3 2 2 Kc
def O3:FS:=(uy (u2 (cT (c1 (vz (v7 "str")) ai)) (vd vR "thing_of" aa cE) bf))
def z5:=e3 2 2 O3
def E8:FS:=(uy (vU (c2 y3 (uw z5 dD) bf) (c2 (er δ) (c1 (uC vq "kind") (uw z5 dD)) ak)))
def y9:=e3 3 3 E8
abbrev kr:=(ax aa cD)
def Ke:FS:=(uy (Hs (uw vy cB) (Hs (uw yt cB) (c2 y3 (uw z5 kr) bf))))
def AS:=e3 3 3 Ke
def Eh:FS:=(bt (fc (wH (cT (uw vy cB)) (cT (uw yt cB))) (uy dy) uD)
 (uy (vU (c2 y3 (uw z5 kr) bf) (vd vQ "can_hold" (uw z5 kr) uQ))))
def Bt:=e3 3 3 Eh
def Ei:FS:=(bt (fc (cT (uw vy cB)) (uy dy) uD)
 (uy (vU (c2 y3 (uw z5 kr) bf) (HL (uw y9 (ax aa (ax ak (a1 cR))))))))
def Ej:=e3 3 3 Ei
def xG:FS:=(bt (fc (wH (vZ (cT (uw zy il))) (cT (c2 NA av aw))) (uy cj) uD)
 (bt (fc (cT (uw vy cB)) (uy (c2 yK av (cC zY))) uD)
 (bt (uM 4 (u2 (cT (c1 (vz (v7 "str")) ak)) (vd yz "most_of" aa cD) bf))
 (uy (vU (c2 y3 aX bf) (c2 yK av aX))))))
def xH:=e3 4 5 xG
abbrev kh:=(ax aa (ax ai (a1 (c1 (uC Cw "term") ak))))
abbrev rH:=(ax aa (ax ai (a1 (c1 (uC FU "place") ak))))
def F1:FS:=(bt (fc (wH (vZ (cT (uw Ej kh))) (vZ (cT (uw Bt rH)))) (uy cj) uD)
 (uy (Hs (c2 (er γ) (c1 (uC Cw "term") ak) (vd AR "you" aa uQ)) (uw y9 (ax aa (ax (c1 (uC FU "place") ak) (a1 cR)))))))
def F2:=e3 3 3 F1
def Kg:FS:=(uy (vU (c1 (vz (v7 "str")) aa) (xx yK yK ay (c1 vH aa) (cC EX))))
def AU:=e3 1 1 Kg
def CP:FS:=(uy (vU (uw xt cE) (vU (c2 y3 (vd wq "verb_of" aa cE) bf) (c2 (er δ) (c1 (uC uN "name") (vd wq "verb_of" aa cE)) ai))))
def zI:=e3 2 2 CP
def z6:FS:=(uy (vU (c1 (vz (v7 "bool")) (c1 (uC zU "refuses") aa)) (Hs (HL (c1 (uC zU "refuses") aa)) (c2 w? (c1 (uC Do "deeds") aa) (cL (uK uQ))))))
def yc:=e3 1 1 z6
abbrev rA:=(ax aa (ax ai (ax (c1 (uC Cw "term") ak) (a1 (c1 (uC J1 "value") ak)))))
def vI:FS:=(bt (fc (cT (c1 (vz t_At) ak)) (uy (vU (uw AS kh) (uw Bt rH))) uD)
 (bt (fc (cT (c1 (vz (tOr XE Tq)) ak)) (uy (uw AS kh)) uD)
 (bt (fc (cT (c1 (vz MB) ak)) (uy (uw xH rA)) uD)
 (bt (fc (cT (c1 (vz Ti) ak)) (uy (vU (uw AS kh) (uw vb (ax (c1 (uC vq "kind") ak) (a1 (cC Dp)))))) uD)
 (bt (fc (cT (c1 (vz Ts) ak)) (uy (vU (c2 (er δ) ai c9) (uw wz (a1 (c1 (uC MA "word") ak))))) uD)
 (uy (c1 (vz XG) ak)))))))
def yV:=e3 3 3 vI
abbrev m6:=(a1 (c2 DD av ay))
def xQ(g:List D->Option D):FS:=(bt (fc (cT (c2 (er δ) av aw)) (uy cj) uD)
 (bt (fc (cT (c1 (vz To) ak)) (uy (uw g (ax aa (ax ai (ax (c1 (uC JZ "inner") ak) m6))))) uD)
 (bt (fc (cT (c1 (vz NY) ak)) (uy (vU (uw g (ax aa (ax ai (ax (c1 (uC O0 "one") ak) m6)))) (uw g (ax aa (ax ai (ax (c1 (uC J0 "other") ak) m6)))))) uD)
 (uy (uw yV jd)))))
def xR:Nat->List D->Option D
 |0=>e3 4 4 Sk
 |n+1=>e3 4 4 (xQ (xR n))
def Ds:FS:=(bt (fc (cT (c1 (vz XH) ak)) (uy (uw xH rA)) uD)
 (uy (vU (c1 (vz Tn) ak) (uw F2 jd))))
def F3:=e3 3 3 Ds
def GR:FS:=(uy (vU (uw vt (ax ak (a1 (cC EV)))) (c1 yL (cL (uF 1 [0,1] (iL ak) (gN 0) vC (uw (xR 4) (ax ai (ax ak (ax aa (a1 (cC Gs)))))))))))
def CQ:=e3 3 3 GR
abbrev kq:=(ax ai (ax ak bS))
def GT:FS:=(uy (vU (uw vt (ax ak (a1 (cC EW)))) (c1 yL (cL (uF 1 [0,1] (iL ak) (gN 0) vC (uw F3 kq))))))
def CS:=e3 3 3 GT
abbrev rN:=(a1 (c1 (uC x4 "verb") ai))
def F4:FS:=(bt (fc (wH (vZ (cT (c1 (vz Tp) ai))) (wH (vZ (cT (uw zI (ax aa rN)))) (vZ (cT (uw AU (a1 (c1 (uC Ir "text") ai))))))) (uy cj) uD)
 (bt (uM 2 (c1 (uC xB "form") (vd wq "verb_of" aa rN)))
 (uy (vU (uw CQ (ax aa (ax ak (a1 (c1 (uC FV "tests") ai))))) (vU (uw CS (ax aa (ax ak (a1 (c1 (uC Do "deeds") ai))))) (uw yc cE))))))
def F5:=e3 2 3 F4
def yd:FS:=(bt (uW (uw Ap (ax ai (ax ak (ax av (ax aX (ax br (a1 (cL (vw ya uQ))))))))))
 (bt (ve 14 0 "kept_things" (cL (zm ai)))
 (bt (ve 14 0 "kept_marks" (cL (zm ak)))
 (bt (ve 14 0 "kept_dark" (cL (zm av)))
 (bt (ve 14 0 "kept_ways" (cL (zm aX)))
 (bt (ve 14 0 "kept_verbs" (cL (zm br)))
 (bt (ve 14 0 "shared_verbs" (cL (vw ya uQ)))
 (bt (ve 14 0 "your_name" (DF 16 (c2 ea (vd xC "of_kind" aa (a1 i7)) aw)))
 (bt (ve 14 0 "things_by_name" (uw FZ cE))
 (bt (ve 14 0 "mosts_by_name" (uw yS cB))
 (bt (ve 14 0 "verbs_by_word" (DF 16 (uw xE (a1 (vd yT "all_verbs" aa uQ)))))
 (bt (uM 7 (DF 16 (vU (uw vt (ax bw (a1 (cC E1)))) (c1 yL (cL (uF 1 [0] (iL bw) (gN 0) vC (uw F5 jc)))))))
 (bt (uW (uw uG (ax bR (a1 (cS "rules are a list of at most 20 rules, each as it may be")))))
 (bt (ve 14 0 "kept_rules" (cL (zm bw)))
 (bt (ve 14 0 "shared_rules" (DF 16 (cL (vw zH (ax (c1 (uC Aj "your_name") aa) de)))))
 (bt (ve 14 0 "copied_rules" (cL (uF 1 [] (iL bw) (gN 0) vC (uw F0 bS))))
 (ve 14 0 "rules_by_verb" (DF 16 (uw Ka (a1 (cL (vV (c1 (uC AI "copied_rules") aa) (c1 (uC AJ "shared_rules") aa)))))))))))))))))))))))
def za:=sm 14 6 8 yd
def B9:FS:=(uy (c2 (oy δ) ai (c1 (uC DG "kept_dark") aa)))
def G6:=e3 2 2 B9
def yA:Nat->Option (List D->Option D):=λc=>match c with
 |14=>Z G6
 |_=>O
def z7:FS:=(vJ (zm (c1 (uC zt "kept_marks") aa)))
def E9:=e3 1 1 z7
def yW:Nat->Option (List D->Option D):=λc=>match c with
 |14=>Z E9
 |_=>O
def DM:FS:=(vJ (uF 1 [] (iL (c1 (uC wc "kept_things") aa)) (gN 0) vC (c1 (uC uN "name") aa)))
def DN:=e3 1 1 DM
def z8:Nat->Option (List D->Option D):=λc=>match c with
 |14=>Z DN
 |_=>O
def z9:FS:=(vJ (ri (cL (uF 1 [] (iL (c1 (uC Ai "kept_ways") aa)) (gN 0) vC (c2 ea aa ay)))))
def Aa:=e3 1 1 z9
def xI:Nat->Option (List D->Option D):=λc=>match c with
 |14=>Z Aa
 |_=>O
abbrev ik:=(cS "at")
abbrev rB:=(ax (c1 (uC wc "kept_things") aa) (a1 (c1 (uC zt "kept_marks") aa)))
def DO:FS:=(bt (uM 1 (cL (uF 1 [] (iL (c1 (uC wc "kept_things") aa)) (gN 0) (cT (c2 (er γ) (c1 (uC vq "kind") aa) cR)) (uO (ax ik mZ)))))
 (bt (uM 2 (cL (uF 1 [] (iL (cL (vw x9 rB))) (gN 0) vC (uO (ax (cS "mark") bS)))))
 (vJ (FQ (cL (vV ai ak))))))
def Ar:=e3 1 3 DO
def Ab:Nat->Option (List D->Option D):=λc=>match c with
 |14=>Z Ar
 |_=>O
def Fb:FS:=(bt (HZ 1)
 (bt (xA (iL (vd yW "own_marks" aa uQ)) (gN 2) (yp 1 (c1 (uC uN "name") ak) (c1 (uC vN "start") ak)))
 (uy (tX 1))))
def Bu:=e3 1 3 Fb
def DP:FS:=(bt (fc (cT (c2 (er δ) (c2 ea ak aw) ik)) (uy (c1 (uC vN "start") (vd vR "thing_of" aa (a1 (c2 ea ak ay))))) uD)
 (uy (EK ai (c2 ea ak ay) aw)))
def xD:=e3 3 3 DP
abbrev rU:=(ax aa (a1 (uw xD kq)))
def DQ:FS:=(bt (uM 1 (uw Bu bS))
 (uy (zQ (cL (uF 1 [0,1] (iL (vd Ab "parts" aa uQ)) (gN 0) vC (uO rU))))))
def As:=e3 1 2 DQ
def IG:FS:=(bt (xA (iT aa) (gN 2) (fc (cT (c2 (er δ) (c2 ea ak aw) ai)) (uy (c2 ea ak ay)) uD))
 (uy bf))
def Bv:=e3 2 3 IG
def O4:FS:=(uy (uw Bv (ax aa (a1 (uO (ax ik cE))))))
def Bw:=e3 2 2 O4
def Kh:FS:=(uy (uw Bv (ax aa (a1 (uO (ax (cS "mark") cE))))))
def AV:=e3 2 2 Kh
abbrev jb:=(ax ai de)
def Fc:FS:=(bt (xg 3 (uK uQ))
 (bt (uM 4 (uw Bw cB))
 (bt (whL (cT (c2 y3 aX bf)) (bt (uW (y7 3 aX))
 (uM 4 (uw Bw jb))) 50)
 (vJ (HQ 3)))))
def BA:=r? 3 5 Fc
abbrev rS:=(a1 (vd AR "you" aa uQ))
def Ki:FS:=(uy (uw Bw (ax ai rS)))
def AW:=e3 2 2 Ki
def Kj:FS:=(uy (vU (c2 (er δ) (c1 (uC vq "kind") (vd vR "thing_of" aa cD)) dA) (c2 (er δ) (uw AV cB) aw)))
def yu:=e3 3 3 Kj
abbrev ng:=(ax aa jb)
def Kk:FS:=(bt (xA (iL (cL (vw BA jd))) (gN 4) (bt (fc (cT (c2 (er δ) aX av)) (uy dy) uD)
 (fc (cT (uw yu ng)) (uy cj) uD)))
 (uy cj))
def yw:=e3 4 5 Kk
abbrev rP:=(ax aa (ax ai (ax ak il)))
def IH:FS:=(uy (vU (c2 (er δ) (uw AV cB) ay) (uw yw rP)))
def zJ:=e3 4 4 IH
abbrev rQ:=(ax ai (ax ak (ax aa il)))
def ME:FS:=(bt (uM 2 (uw AW dD))
 (bt (fc (vZ (cT (vd yA "is_dark" aa cD))) (uy dy) uD)
 (uy (c1 G5 (cL (uF 1 [0,1,2] (iL (vd xC "of_kind" aa (a1 fI))) (gN 0) vC (uw zJ rQ)))))))
def II:=e3 2 3 ME
abbrev rE:=(ax aa (ax ai (ax ak rS)))
abbrev rO:=(ax aa (ax ai (ax ak (a1 (uw AW dD)))))
def Kl:FS:=(bt (uM 3 (vd vR "thing_of" aa cD))
 (bt (fc (wH (cT (c2 Ag av bf)) (vZ (cT (vd wC "is_plainly" av uQ)))) (uy cj) uD)
 (bt (fc (cT (uw yw rE)) (uy dy) uD)
 (uy (vU (uw yw rO) (uw II dD))))))
def AX:=e3 3 4 Kl
def Tu:FS:=(vJ (D7 (cL (uF 1 [0,1] (iL (vd z8 "names" aa uQ)) (gN 0) (cT (uw AX kq)) aa))))
def NZ:=r? 2 2 Tu
abbrev cI:=(cS "")
def IJ:FS:=(uy (zQ (cL (uF 1 [] (iL (cL (cSpl aa (cS " ")))) (gN 0) (w6 (cT (c2 (er γ) aa cI)) (cT (c2 (oy γ) aa ka))) aa))))
def BB:=e3 1 1 IJ
abbrev rD:=(ax (Le aa oNo (sh ak)) (a1 (Le aa (sh (c2 vp ak ay)) oNo)))
def yX:FS:=(bt (fc (cT (c2 (oy γ) ai aa)) (uy bf) uD)
 (bt (uM 2 (c2 qi aa ai))
 (bt (uM 3 (uO rD))
 (uy (u2 (cT (c2 T1 (uO uQ) av)) bf av)))))
def yY:=e3 2 4 yX
def Fd:FS:=(bt (fc (cT (c2 (er δ) (c1 (uC xB "form") aa) j9)) (uy (u2 (cT (c2 (er δ) (c1 vH ai) aw)) (uO uQ) bf)) uD)
 (bt (fc (cT (c2 (er δ) (c1 (uC xB "form") aa) gv)) (uy (uw yY (ax ai rL))) uD)
 (bt (fc (cT (c2 (er δ) (c1 (uC xB "form") aa) c9)) (uy (u2 (cT (c2 (er δ) (c1 vH ai) ay)) (uO cE) bf)) uD)
 (uy (u2 (cT (c2 FJ (c1 vH ai) aw)) (uO cE) bf)))))
def vO:=e3 2 2 Fd
abbrev i6:=(cS "command")
abbrev eZ:=(a1 bf)
def IK:FS:=(bt (fc (cT (c2 (oy γ) ak (vd xI "way_words" aa uQ))) (uy (uO (ax (cS "noway") cD))) uD)
 (uy (uO (ax i6 (a1 (uO (ax (c1 (uC uN "name") ai) (ax ak eZ))))))))
def BC:=e3 3 3 IK
abbrev bP:=(cV 8)
abbrev je:=(ax bf eZ)
def DR:FS:=(bt (uM 4 (cL (vw NZ dD)))
 (bt (xg 5 (uK uQ))
 (bt (xA (iT av) (gN 6) (bt (uM 7 (cL (uF 1 [0,6] (iL aX) (gN 0) (cT NH) aa)))
 (bt (fc (cT (c2 (er δ) (c1 vH bR) aw)) (uy (uO (ax (cS "none") (a1 bw)))) uD)
 (bt (fc (cT (c2 FJ (c1 vH bR) ay)) (uy (uO (ax (cS "which") (ax bw (a1 (zQ bR)))))) uD)
 (uW (y7 5 (c2 ea bR aw)))))))
 (bt (uM 8 (cL (vV (tX 5) (cL (uK je)))))
 (uy (uO (ax i6 (a1 (uO (ax (c1 (uC uN "name") ak) (ax (c2 ea bP aw) (a1 (c2 ea bP ay)))))))))))))
def yB:=e3 4 9 DR
abbrev mX:=(ax br (a1 bw))
abbrev mY:=(ax br (a1 (K8 av (Z 1) O)))
abbrev rG:=(ax aa (ax br (a1 (c2 ea (c2 ea bw aw) aw))))
abbrev rK:=(ax (cS "noform") (a1 (c1 (uC uN "name") br)))
abbrev m9:=(ax ai mX)
def Tv:FS:=(bt (uM 3 (uw BB cD))
 (bt (uM 4 (u2 (cT (c2 FJ (c1 vH av) aw)) (c2 ea av aw) cI))
 (bt (uM 5 (vd wq "verb_of" aa de))
 (bt (fc (cT (c2 Ag br bf)) (uy (uO (ax (cS "noverb") de))) uD)
 (bt (uM 6 (uw vO mY))
 (bt (fc (cT (c2 Ag bw bf)) (uy (uO rK)) uD)
 (bt (fc (cT (c2 (er δ) (c1 (uC xB "form") br) c9)) (uy (uw BC rG)) uD)
 (uy (uw yB (ax aa m9))))))))))
def Au:=e3 3 7 Tv
def CT:FS:=(bt (fc (cT (c2 NA ai (c1 vH aa))) (uy (c2 ea aa ai)) uD)
 (uy aw))
def ye:=e3 2 2 CT
abbrev mS:=(cC (.int 2147483647))
def BD:FS:=(bt (xg 2 (uK uQ))
 (bt (uM 3 aa)
 (bt (xA (u3 ai) (gN 4) (fc (w6 (cT (c2 Zg aa (c2 R7 (cC (.int 10)) (cC (.int 18))))) (cT (c2 FJ av aw))) (bt (uW (y7 2 (c2 uR av (cC (.int 10007)))))
 (uM 3 (c2 vF av (cC (.int 10007))))) (bt (uM 5 (c2 uR (c2 xO (c2 vp (c2 vp (c2 uR aa mS) (c2 xO (cC (.int 7919)) aX)) ay) (cC (.int 48271))) mS))
 (bt (uM 5 (c2 uR (c2 xO br (c2 vp (c2 vF br (cC (.int 1009))) (cC (.int 69621)))) mS))
 (uW (y7 2 (c2 uR (c2 xO br (c2 vp (c2 vF br (cC (.int 2003))) (cC (.int 40692)))) (cC (.int 2147483399)))))))))
 (vJ (HQ 2)))))
def xw:=r? 2 6 BD
def BE:FS:=(bt (uM 1 (cL (uK (ax (cS "b") (ax (cS "ba") (ax (cS "bab") (ax (cS "babe") (ax (cS "c") (ax (cS "cab") (ax (cS "not") (ax i4 (ax (cS "lit") (ax fI (ax (cS "x") (ax (cS "xx") (ax ja (ax (cS "both") (a1 (cS "zz")))))))))))))))))))
 (bt (uM 1 (cL (vV ai (cL (uK (ax (cS "hall") (a1 (cS "seen"))))))))
 (bt (uM 2 (c2 ea (cL (uK (ax cI (ax cI (ax (cS "q") (a1 (cS "ek"))))))) (c2 uR (c2 ea aa aw) cA)))
 (vJ (uF 1 [2,1,0] (u3 (cC (.int 14))) (gN 0) vC (c2 Ck ai (c2 ea ak (c2 uR (c2 vp (c2 ea av ay) (c2 xO aa (c2 vp ay (c2 uR (c2 ea av bV) (cC (.int 16)))))) (cC (.int 17))))))))))
def BF:=e3 1 3 BE
abbrev cb:=(cC (.int 5))
abbrev c3:=(cC (.int 7))
abbrev gx:=(cC (.int 6))
abbrev gy:=(cC (.int 8))
abbrev rq:=(ax ay (ax ay (ax bV (ax bV (ax cA (ax gx (ax c3 (a1 (cC (.int 24))))))))))
def Fe:FS:=(bt (uM 2 (cL (uK (ax (cS "red") (ax (cS "re") (ax (cS "taken") (ax (cS "old") (a1 (cS "openly")))))))))
 (bt (uM 3 (cL (uK (ax (cS "key") (ax (cS "keys") (ax (cS "bowl") (ax (cS "b") (a1 (cS "nothing")))))))))
 (bt (uM 4 (c2 uR (c2 vp (c2 ea aa bC) (c2 xO ai (c2 ea (cL (uK rq)) (c2 uR (c2 ea aa cA) gy)))) (cC (.int 25))))
 (bt (uM 5 (c2 ea (cL (uK (ax cI (ax (cS "q") (a1 (cS "zu")))))) (c2 uR (c2 ea aa cb) bC)))
 (bt (xg 6 (uK (ax (c2 Ck (c2 ea ak (c2 uR aX cb)) br) (a1 (c2 Ck (c2 ea av (c2 vF aX cb)) br)))))
 (bt (fc (cT (c2 (er δ) (c2 uR (c2 vF (c2 ea aa gx) (c2 vp ay ai)) bC) aw)) (uW (P' 6 (c2 uR (c2 vF (c2 ea aa c3) (c2 vp ay ai)) bC) (c2 ea (cL (uK (ax (cS "x") (ax (cS "dusty") (a1 (cS "most")))))) (c2 uR (c2 vF (c2 ea aa gy) (c2 vp ay ai)) bC)))) uD)
 (uy (zQ (tX 6)))))))))
def BG:=e3 2 7 Fe
abbrev dB:=(cV 9)
abbrev kc:=(cC (.int 12))
def DS:FS:=(bt (uM 2 (cL (EJ ai oNo (sh (c2 vp ay (c2 uR (c2 ea aa (cC (.int 9))) bC))))))
 (bt (uM 3 (c2 ea ai bC))
 (bt (xg 4 (uF 1 [] (iL ak) (gN 0) vC (uO (ax aa (ax (uO (a1 cR)) (ax cR eZ))))))
 (bt (uM 5 (c2 ea ak (c2 uR (c2 ea aa (cC (.int 10))) (c1 vH ak))))
 (bt (uW (y7 4 (uO (ax av (ax (uO (ax (cS "me") (a1 (cS "myself")))) (ax i7 (a1 br)))))))
 (bt (xg 6 (vV ak (cL (uK (ax av (ax br (ax br il)))))))
 (bt (xA (u3 (c2 uR (c2 ea aa (cC (.int 11))) gx)) (gN 7) (bt (uM 8 (c2 ea (cL (uK (ax (cS "plain") (ax dA (ax fI (ax (cS "fixed") (a1 dA))))))) (c2 uR (c2 ea aa (c2 vp kc bR)) cb)))
 (bt (uW (y7 4 (uO (ax (c2 ea ai (c2 vp cA bR)) (ax (uw BG (ax aa (a1 bR))) (ax bP (a1 (KU (c2 ea bw (c2 uR (c2 vF (c2 ea aa (c2 vp kc bR)) cb) (c1 vH bw)))))))))))
 (fc (cT (c2 (er δ) bP dA)) (uW (y7 6 (c2 ea ai (c2 vp cA bR)))) uD))))
 (bt (uM 9 (KU (c2 uR (c2 ea aa (cC (.int 18))) (c1 vH aX))))
 (vJ (vV (cL (EJ (tX 4) (sh dB) oNo)) (cL (EJ (tX 4) oNo (sh dB)))))))))))))
def yC:=e3 2 10 DS
def Fg:FS:=(bt (xg 2 (uK uQ))
 (bt (xA (u3 (c2 uR (c2 ea aa (cC (.int 19))) bC)) (gN 3) (bt (uM 4 (c2 vp ay (c2 uR (c2 ea aa (c2 vp (cC (.int 20)) av)) bC)))
 (uW (y7 2 (uO (ax (c2 ea ai (c2 vp (cC (.int 10)) av)) (ax (c2 uR (c2 vF (c2 ea aa (c2 vp (cC (.int 20)) av)) bC) (c2 vp aX ay)) de)))))))
 (vJ (HQ 2))))
def zb:=e3 2 5 Fg
def AY:FS:=(bt (uM 2 (cL (uF 1 [] (iL aa) (gN 0) (wH (cT (c2 (er δ) (c2 ea aa bV) dA)) (cT (c2 (er δ) (c2 ea aa bV) fI))) (uO (ax (c2 ea aa aw) (a1 ay))))))
 (vJ (vV ak (cL (uF 1 [] (iL ai) (gN 0) vC (uO (ax (c2 ea aa aw) mV)))))))
def yx:=e3 2 3 AY
abbrev gA:=(cV 10)
abbrev rM:=(ax bP (ax dB (a1 gA)))
def GU:FS:=(bt (uM 3 (cL (uK (ax (cS "north") (ax (cS "up") (ax (cS "in") (ax (cS "n") (a1 (cS "upward")))))))))
 (bt (xg 4 (uK uQ))
 (bt (xA (u3 (c2 uR (c2 ea aa (cC (.int 22))) cb)) (gN 5) (bt (uM 6 (c2 ea aa (c2 vp (cC (.int 23)) br)))
 (bt (FC (uO (ax (c2 ea ai (c2 uR bw (c1 vH ai))) (ax (c2 ea av (c2 uR (c2 vF bw bC) cb)) (a1 (c2 ea ai (c2 uR (c2 vF bw (cC (.int 15))) (c1 vH ai))))))) (gT (vc (gN 7) (vc (gN 8) (vc (gN 9) Cg))) 3))
 (bt (uM 10 (c2 ea (cL (vV (cL (uK je)) (cL (uF 1 [] (iL ak) (gN 0) vC (c2 ea aa aw))))) (c2 uR (c2 vF bw (cC (.int 45))) (c2 vp bV (c1 vH ak)))))
 (fc (Gf (cT (c2 w? (cL (uF 1 [7,8] (iL aX) (gN 0) (cT (c2 (er δ) (K8 aa O (Z 2)) (uO cB))) aa)) (cL (uK uQ))))) (uW (y7 4 (uO (ax bR rM)))) uD)))))
 (vJ (HQ 4)))))
def Ac:=e3 3 11 GU
abbrev m8:=(ax (cS "one") eZ)
abbrev rR:=(ax (uO uQ) (ax j9 eZ))
def Fh:FS:=(bt (uM 1 (cL (uK (ax (uO (ax (cS "give") (ax (uO (ax (cS "hand") (a1 (cS "g")))) (ax gv (a1 (cS "to")))))) (ax (uO (ax (cS "hum") rR)) (a1 (uO (ax (cS "push") (ax (uO (a1 (cS "shove"))) m8)))))))))
 (bt (uM 1 (cL (vV ai (cL (uK (ax (uO (ax (cS "sail") (ax (uO (a1 (cS "s"))) (ax c9 eZ)))) (ax (uO (ax (cS "tie") (ax (uO uQ) (ax gv (a1 (cS "with")))))) (a1 (uO (ax (cS "l") (ax (uO (ax (cS "look") (a1 (cS "peer")))) m8)))))))))))
 (vJ (uF 1 [1,0] (u3 gx) (gN 0) (cT (c2 (er δ) (c2 ω (c2 dShrI (c2 ea ak (cC (.int 28))) aa) ay) ay)) (c2 ea ai aa)))))
def BH:=e3 1 2 Fh
def DT:FS:=(bt (uM 0 (cL (uK rb)))
 (bt (uM 1 (cL (uF 1 [] (iL aa) (gN 0) vC (uO (ax aa (ax (uO uQ) m8))))))
 (vJ (vV ai (cL (uK (ax (uO rJ) (ax (uO (ax (cS "go") (ax (uO uQ) (ax c9 eZ)))) (a1 (uO (ax ig rR)))))))))))
def wY:=r? 0 2 DT
abbrev dc:=(cV 11)
abbrev kg:=(cC (.int 90))
abbrev ro:=(vc (gN 9) (vc (gN 10) Cg))
abbrev mW:=(ax ai (ax ak (ax av (ax aX (a1 (c2 DD br ay))))))
abbrev i9:=(ax cH (ax i3 (a1 cH)))
def yI(g:List D->Option D):FS:=(bt (uM 6 (cL (vV ak (EK (Gq [("one", (cL (uK fJ))),("two", (cL (uK i9)))]) ai (cL (uK uQ))))))
 (bt (uM 7 (c2 ea bw (c2 uR (c2 vF aa (cC (.int 9))) (c1 vH bw))))
 (bt (uM 8 (c2 uR aa (cC (.int 9))))
 (bt (fc (cT (c2 (er δ) bP aw)) (uy (uO (ax ik (ax bR (a1 (c2 ea av (c2 uR (c2 vF aa kg) (c1 vH av)))))))) uD)
 (bt (fc (wH (cT (c2 (er δ) bP ay)) (cT (c2 (er δ) bP bV))) (uy (uO (ax (c2 ea (cL (uK (ax (cS "has") (a1 (cS "seen"))))) (c2 DD bP ay)) (a1 bR)))) uD)
 (bt (fc (w6 (cT (c2 (er δ) bP bC)) (cT (c2 (er γ) aX (cL (uK uQ))))) (bt (FC (c2 ea aX (c2 uR (c2 vF aa kg) (c1 vH aX))) (gT ro 2))
 (uy (uO (ax (cS "marked") (ax dB (a1 (c2 uR (c2 vF aa (cC (.int 900))) (c2 vp gA ay)))))))) uD)
 (bt (fc (cT (c2 (er δ) bP cA)) (uy (uO (ax (cS "kind") (ax bR (a1 (c2 ea (cL (uK (ax (cS "plain") (ax dA (ax fI (a1 (cS "fixed"))))))) (c2 uR (c2 vF aa kg) cA))))))) uD)
 (bt (fc (w6 (cT (c2 (er δ) bP cb)) (cT (c2 (er δ) ai c9))) (uy (uO (ax (cS "word") (a1 (c2 ea (cL (uK (ax (cS "north") (ax (cS "up") (a1 (cS "in")))))) (c2 uR (c2 vF aa kg) bC)))))) uD)
 (bt (fc (w6 (cT (c2 (er δ) bP gx)) (cT (c2 FJ br ay))) (uy (uO (ax (cS "not") (a1 (uw g (ax (c2 vF aa c3) mW)))))) uD)
 (bt (fc (w6 (cT (c2 (er δ) bP c3)) (cT (c2 FJ br ay))) (bt (uM 11 (uw g (ax (c2 vF aa (cC (.int 11))) mW)))
 (uy (uO (ax (cS "both") (ax dc (a1 (uw g (ax (c2 vF aa (cC (.int 13))) mW)))))))) uD)
 (uy (uO (a1 (cS "lit"))))))))))))))
def vS:Nat->List D->Option D
 |0=>e3 6 12 Sk
 |n+1=>e3 6 12 (yI (vS n))
abbrev j6:=(cC (.int 50))
abbrev mR:=(cS "move")
abbrev mT:=(ax mR (ax bw (a1 (c2 ea br (c2 uR (c2 vF aa j6) (c1 vH br))))))
abbrev mU:=(ax mR (ax bP (a1 (c2 ea av (c2 uR (c2 vF aa j6) (c1 vH av))))))
abbrev rF:=(ax gz (ax cH (a1 (c2 uR (c2 vF aa j6) cA))))
def CU:FS:=(bt (uM 7 (cL (vV ak (EK (Gq [("one", (cL (uK fJ))),("two", (cL (uK i9)))]) ai (cL (uK uQ))))))
 (bt (uM 8 (c2 ea bR (c2 uR (c2 vF aa cb) (c1 vH bR))))
 (bt (fc (w6 (cT (c2 (er δ) (c2 uR aa cb) aw)) (cT (c2 (er γ) aX (cL (uK uQ))))) (bt (FC (c2 ea aX (c2 uR (c2 vF aa j6) (c1 vH aX))) (gT ro 2))
 (uy (uO (ax gz (ax dB (a1 (c2 uR (c2 vF aa (cC (.int 500))) (c2 vp gA ay)))))))) uD)
 (bt (fc (w6 (cT (c2 (er δ) (c2 uR aa cb) ay)) (cT (c2 (oy δ) ai (uO j5)))) (uy (uO rF)) uD)
 (bt (fc (cT (c2 (er δ) bP bw)) (uy (uO mT)) uD)
 (uy (uO mU)))))))
def yJ:=e3 7 11 CU
abbrev ra:=(ax (cS "So be it.") (ax (cS " two  blanks ") (ax (cS "x") (ax (cS "refuses at it") (a1 (c2 Ia (cS "~") (cC (.int 60))))))))
abbrev rg:=(ax (cV 13) (ax (cV 17) (ax (cV 19) (ax (cV 20) (a1 (cV 18))))))
abbrev d6:=(cV 12)
def BI:FS:=(bt (uM 4 (cL (vw xw (ax aa (a1 (cC (.int 40)))))))
 (bt (uM 5 (cL (uF 1 [] (iL ai) (gN 0) (cT (c2 (er δ) (c2 ea aa bV) cR)) (c2 ea aa aw))))
 (bt (uM 6 (c2 ea (cL (uF 1 [] (iL ai) (gN 0) (cT (c2 (er δ) (c2 ea aa bV) i7)) (c2 ea aa aw))) aw))
 (bt (uM 7 (cL (uF 1 [] (iL ai) (gN 0) (cT (c2 (er γ) (c2 ea aa bV) cR)) (c2 ea aa aw))))
 (bt (uM 8 (cL (vV (cL (vV br (cL (uK (ax bw (a1 (cS "here"))))))) (cL (uF 1 [] (iL ai) (gN 0) (cT (c2 (er δ) (c2 ea aa bV) dA)) (c2 ea aa aw))))))
 (bt (uM 9 (cL (vV av (cL (vw wY uQ)))))
 (bt (xg 10 (uK uQ))
 (bt (xA (u3 (c2 uR (c2 ea aX aw) cb)) (gN 11) (bt (uM 12 (cL (EJ aX (sh (c2 vp ay (c2 xO c3 dc))) (sh (c2 vp gy (c2 xO c3 dc))))))
 (bt (FC (c2 ea dB (c2 uR (c2 ea d6 aw) (c1 vH dB))) (gT (vc (gN 13) (vc (gN 14) (vc (gN 15) (vc (gN 16) Cg)))) 4))
 (bt (uM 17 (cL (uF 1 [15,7,8,2,12] (u3 (c2 uR (c2 ea d6 ay) bC)) (gN 0) vC (uw (vS 3) (ax (c2 ea br (c2 vp bV aa)) (ax ai (ax ak (ax av (ax aX (a1 bC))))))))))
 (bt (uM 18 (c2 (er δ) (c2 uR (c2 vF (c2 ea d6 ay) bC) cA) aw))
 (bt (uM 19 (cL (uF 1 [15,7,8,2,5,6,12] (u3 (c2 uR (c2 vF (c2 ea d6 ay) kc) bC)) (gN 0) vC (uw yJ (ax (c2 ea bR (c2 vp cA aa)) (ax ai (ax ak (ax av (ax aX mX)))))))))
 (bt (fc (cT (cV 18)) (uM 19 (cL (uK uQ))) uD)
 (bt (uM 20 (c2 ea (cL (uK ra)) (c2 uR (c2 ea d6 gx) cb)))
 (uW (y7 10 (uO rg)))))))))))
 (vJ (HQ 10))))))))))
def zc:=e3 4 21 BI
def BJ:FS:=(bt (uM 1 (cL (vw xw (ax (uw ye (ax aa (a1 aw))) (a1 (cC (.int 32)))))))
 (bt (uM 2 (uw BF cE))
 (bt (uM 3 (uw yC cB))
 (bt (uM 4 (uw zb cB))
 (bt (uM 5 (cL (uF 1 [] (iL av) (gN 0) (cT (c2 (er δ) (c2 ea aa bV) cR)) (c2 ea aa aw))))
 (bt (uM 6 (uw yx (ax av de)))
 (bt (uM 7 (cL (uF 1 [5,1] (u3 (c1 vH br)) (gN 0) (cT (c2 (er δ) (c2 uR (c2 vF (c2 ea ak (cC (.int 29))) (c2 ea (cL (uK (ax ay (ax cA (a1 (cC (.int 16))))))) aa)) cA) ay)) (c2 ea ai aa))))
 (bt (uM 8 (uw BH cE))
 (bt (uM 9 (uw zc (ax (uw ye (ax aa (a1 ay))) (ax av (ax bw (a1 bP))))))
 (uy (uO (ax av (ax aX (ax bR (ax (uw Ac m9) (ax bP (a1 dB)))))))))))))))))
def BK:=e3 1 10 BJ
abbrev i8:=(ax (c2 ea aa ay) (a1 (c2 ea aa bV)))
def zd(g:List D->Option D):FS:=(bt (fc (cT (c2 (er δ) (c2 ea aa aw) ik)) (uy (uY 3 (λa=>Dr (a++[])) i8)) uD)
 (bt (fc (cT (c2 (er δ) (c2 ea aa aw) (cS "has"))) (uy (uY 4 (λa=>Bm (a++[])) gB)) uD)
 (bt (fc (cT (c2 (er δ) (c2 ea aa aw) (cS "seen"))) (uy (uY 5 (λa=>GA (a++[])) gB)) uD)
 (bt (fc (cT (c2 (er δ) (c2 ea aa aw) (cS "marked"))) (uy (uY 6 (λa=>vX (a++[])) i8)) uD)
 (bt (fc (cT (c2 (er δ) (c2 ea aa aw) (cS "kind"))) (uy (uY 7 (λa=>wK (a++[])) i8)) uD)
 (bt (fc (cT (c2 (er δ) (c2 ea aa aw) (cS "word"))) (uy (uY 8 (λa=>CD (a++[])) gB)) uD)
 (bt (fc (cT (c2 (er δ) (c2 ea aa aw) (cS "not"))) (uy (uY 9 (λa=>wU (a++[])) (a1 (uw g gB)))) uD)
 (bt (fc (cT (c2 (er δ) (c2 ea aa aw) (cS "both"))) (uy (uY 10 (λa=>GH (a++[])) (ax (uw g gB) (a1 (uw g mV))))) uD)
 (uy (cNew 15))))))))))
def wV:Nat->List D->Option D
 |0=>e3 1 1 Sk
 |n+1=>e3 1 1 (zd (wV n))
def GV:FS:=(bt (fc (cT (c2 (er δ) (c2 ea aa aw) mR)) (uy (uY 11 (λa=>xP (a++[])) i8)) uD)
 (uy (uY 12 (λa=>yq (a++[])) i8)))
def CV:=e3 1 1 GV
def CW:FS:=(bt (FC aa (gT (vc (gN 1) (vc (gN 2) (vc (gN 3) (vc (gN 4) (vc (gN 5) Cg))))) 5))
 (bt (uM 6 (cL (uF 1 [] (iL ak) (gN 0) vC (uw (wV 3) bS))))
 (bt (fc (vZ (cT br)) (uy (uY 13 (λa=>wL (a++[(D.I δ)])) (ax ai (ax bw (ax (cL (uF 1 [] (iL av) (gN 0) vC (uw CV bS))) de))))) uD)
 (uy (uY 13 (λa=>wL (a++[])) (ax ai (ax bw (ax (cL (uK uQ)) (ax aX (a1 br))))))))))
def CY:=e3 1 7 CW
abbrev rp:=(vc (gN 5) (vc (gN 6) Cg))
def BL:FS:=(bt (FC aa (gT (vc (gN 1) (vc (gN 2) (vc (gN 3) (vc (gN 4) rp)))) 6))
 (bt (xg 7 (uK uQ))
 (bt (xA (iL ai) (gT (vc (gN 8) (vc (gN 9) (vc (gN 10) (vc (gN 11) Cg)))) 4) (fc (cT (c2 Ag dc bf)) (uW (y7 7 (uY 0 (λa=>y8 (a++[D.E])) rM))) (uW (y7 7 (uY 0 (λa=>y8 (a++[])) (ax bP (ax dB (ax gA (a1 dc)))))))))
 (bt (uM 12 (cL (uF 3 [] (iL ak) (gT (vc (gN 0) (vc (gN 1) (vc (gN 2) Cg))) 3) vC (uY 1 (λa=>Gx (a++[])) jd))))
 (bt (uM 13 (cL (uF 4 [] (iL br) (gT (vc (gN 0) (vc (gN 1) (vc (gN 2) (vc (gN 3) Cg)))) 4) vC (uY 2 (λa=>wJ (a++[])) rP))))
 (uy (uY 14 (λa=>za (a++[])) (ax (tX 7) (ax d6 (ax (cL (zm av)) (ax (cL (zm aX)) (ax (cV 13) (a1 (cL (uF 1 [] (iL bw) (gN 0) vC (uw CY bS))))))))))))))))
def BM:=e3 1 14 BL
def CZ:FS:=(bt (uM 2 (c2 Ia (cS " ") (c2 uR ai bC)))
 (bt (xA (u3 (c1 vH aa)) (gN 3) (bt (uM 4 (c2 ea (cL (uK (ax cI (ax (cS "the ") (ax cI (ax (cS "a  ") (ax (cS "the a ") (ax cI (a1 cI))))))))) (c2 uR (c2 vF ai (c2 vp cb (c2 xO bC av))) c3)))
 (uM 2 (c2 Ck (c2 Ck (c2 Ck ak aX) (c2 ea aa av)) (c2 Ia (cS " ") (c2 vp ay (c2 uR (c2 vF ai (c2 vp c3 (c2 xO cb av))) bV)))))))
 (uy (c2 Ck ak (c2 ea (cL (uK (ax cI (ax (cS "the") (a1 (cS " a ")))))) (c2 uR (c2 vF ai bC) bC))))))
def yf:=e3 2 5 CZ
def Da:FS:=(bt (fc (cT (c2 (er δ) aa j9)) (uy (c2 ea (cL (uK (ax (cL (uK uQ)) eZ))) (c1 V1 (c2 (er γ) ak (uO uQ))))) uD)
 (bt (fc (cT (c2 (er δ) aa gv)) (bt (uM 3 (cL (uF 1 [1,2] (u3 (c1 vH ak)) (gN 0) (cT (c2 (er δ) (c2 ea ak aa) ai)) aa)))
 (bt (fc (wH (cT (c2 (er δ) av (cL (uK uQ)))) (wH (cT (c2 (er δ) (c2 ea av aw) aw)) (cT (c2 (er δ) (c2 ea av aw) (c2 DD (c1 vH ak) ay))))) (uy bf) uD)
 (vJ (uK (ax (Le ak oNo (sh (c2 ea av aw))) (a1 (Le ak (sh (c2 vp (c2 ea av aw) ay)) oNo))))))) uD)
 (bt (fc (wH (cT (c2 (er δ) ak (uO uQ))) (w6 (cT (c2 (er δ) aa c9)) (cT (c2 FJ (c1 vH ak) ay)))) (uy bf) uD)
 (vJ (uK cD)))))
def wG:=e3 3 4 Da
abbrev j7:=(ax (cS "noverb") (a1 (cS "")))
abbrev rj:=(vc (gN 4) (vc (gN 5) (vc (gN 6) (vc (gN 7) Cg))))
def GY:FS:=(bt (fc (cT (c2 (er δ) ak (uO uQ))) (uy (uO j7)) uD)
 (bt (uM 3 (cL (uF 1 [2] (iL (cL (vV (c2 ea aa cA) (cL (vw wY uQ))))) (gN 0) (wH (cT (c2 (er δ) (c2 ea ai aw) (c2 ea aa aw))) (cT (c2 (oy δ) (c2 ea ai aw) (c2 ea aa ay)))) aa)))
 (bt (fc (cT (c2 (er δ) av (cL (uK uQ)))) (uy (uO (ax (cS "noverb") (a1 (c2 ea ak aw))))) uD)
 (bt (FC (c2 ea av aw) (gT rj 4))
 (bt (uM 8 (uw wG (ax bw (ax bR (a1 (K8 ak (Z 1) O))))))
 (bt (fc (cT (c2 Ag bP bf)) (uy (uO (ax (cS "noform") de))) uD)
 (bt (fc (cT (c2 (er δ) bw c9)) (bt (fc (cT (c2 w? (cL (uF 1 [2] (iL (c2 ea aa bC)) (gN 0) (cT (c2 (er δ) (c2 ea aa ay) (c2 ea ai ay))) aa)) (cL (uK uQ)))) (uy (uO (ax (cS "noway") (a1 (c2 ea ak ay))))) uD)
 (uy (uO (ax i6 (a1 (uO (ax aX (ax (c2 ea ak ay) eZ)))))))) uD)
 (bt (xg 9 (uK uQ))
 (bt (xA (iL bP) (gN 10) (bt (xg 11 (uK uQ))
 (bt (xA (iL (c2 ea aa aw)) (gN 12) (fc (w6 (cT (c2 (oy δ) (c2 ea d6 aw) ai)) (cT (c2 w? (cL (uF 1 [12] (iT gA) (gN 0) (cT (c2 (oy γ) aa (c2 ea ai ay))) aa)) (cL (uK uQ))))) (uW (y7 11 (c2 ea d6 aw))) uD))
 (bt (fc (Gf (cT (c2 (er γ) (c1 vH dc) ay))) (uy (c2 ea (cL (uK (ax (uO (ax (cS "none") (a1 gA))) (a1 (uO (ax (cS "which") (ax gA (a1 (zQ (cL (D7 (tX 11)))))))))))) (KU (c1 V1 (c2 (er γ) dc (cL (uK uQ))))))) uD)
 (uW (y7 9 (KU (c2 ea dc aw))))))))
 (uy (uO (ax i6 (a1 (EI (uO de) (zQ (cL (XC (cL (vV (tX 9) (cL (uK je)))) O (Z 2))))))))))))))))))
def Dc:=e3 3 13 GY
def IL:FS:=(bt (uM 2 (cL (vw xw (ax ai (a1 gy)))))
 (bt (uM 3 (cL (uK (a1 cI))))
 (bt (xA (iL (cL (vV (c2 ea aa cA) (cL (vw wY uQ))))) (gT rj 4) (uM 3 (cL (vV (cL (vV av (cL (uK de)))) (cL (zm br))))))
 (bt (uM 8 (cL (vV (cL (uK (ax (cS "in") (ax (cS "to") (ax (cS "with") (ax (cS "zzz") (ax cH (ax (cS "here") (ax i4 (ax ig (a1 (cS "putting")))))))))))) (cL (uF 1 [] (iL (c2 ea aa bC)) (gN 0) vC (c2 ea aa ay))))))
 (bt (uM 9 (cL (vV (cL (uK (a1 (c2 ea av (c2 uR (c2 ea ak aw) (c1 vH av)))))) (cL (uF 1 [8] (iL (cL (EJ ak (sh bV) (sh (c2 vp bV (c2 uR (c2 ea ak ay) cb)))))) (gN 0) vC (c2 ea ai (c2 uR aa (c1 vH ai))))))))
 (uy (uO (ax (cL (uF 1 [] (iL dB) (gN 0) (cT (c2 (er γ) aa cI)) aa)) (a1 (c2 ea ak c3))))))))))
def BN:=e3 2 10 IL
abbrev m7:=(ax aw (a1 cb))
def O5:FS:=(bt (uM 1 (uw BK bS))
 (bt (uM 2 (uw BM cE))
 (bt (uM 3 (uw As cD))
 (bt (xA (iL (cL (XC (cL (vV (cL (XC aa (Z 2) (Z 14))) (cL (uK m7)))) O (Z 12)))) (gN 4) (bt (FC (uw BN jb) (gT rp 2))
 (bt (uM 7 (uw Dc (ax ai (ax (cL (uK uQ)) (a1 (zQ br))))))
 (fc (cT (c2 (er γ) (c2 ea bR aw) (cS "none"))) (bt (uM 8 (uw Au (ax ak (ax av (a1 (uw yf mX))))))
 (bt (fc (wH (vZ (cT (c1 (vz (v7 "tuple")) bP))) (cT (c2 (er γ) bP bR))) (uy cj) uD)
 (fc (cT (c2 (er γ) bP (uw Au (ax ak (ax av (a1 (c2 t? (cS " ") br))))))) (uy cj) uD))) uD))))
 (bt (fc (wH (cT (c2 (er γ) (uw Au (ax ak (ax av (a1 cI)))) (uO j7))) (cT (c2 (er γ) (uw Au (ax ak (ax av (a1 (cS "  the a  "))))) (uO j7)))) (uy cj) uD)
 (uy (c2 (er δ) (uw Au (ax ak (ax av (a1 ig)))) (uO (ax i6 (a1 (uO (ax ig je))))))))))))
def XI:=e3 1 9 O5
section
variable{k:Nat}{ew:List Nat}{g:FG}{ft:FT}{fe e:FE}{s:FA}{ρ ρ1 ρ2:aU}{α:Type}
def wW{m:L4.D}(h:e ρ=Z (.I γ,ρ1)):uW (uw uG (ax e (ax (cC m) uQ))) ρ=Z (.nx ρ1):=wQ (ur (uu h U) U)
def wu(c h:α->L4.D)(l:List α)(f:s ρ=Z (l.map c,ρ1))(d:l.length<=1000)(st:∀a∈l,∃ρ2 b,g (c a) (G2 k ew ρ1)=Z ρ2/\fe ρ2=Z (h a,b)/\yk ew (b.drop k) ρ1=Z ρ1):
  uF k ew s g vC fe ρ=Z (l.map h,ρ1):=(OI f (by rw[af];exact d)).t (Wr c h l st)
def wt(d h:α->L4.D)(p:α->Bool)(l:List α)(i:s ρ=Z (l.map d,ρ1))(f:l.length<=1000)
  (st:∀a∈l,∃ρ2 b,g (d a) (G2 k ew ρ1)=Z ρ2/\ft ρ2=Z (p a,b)/\(p a=γ->∃c,fe b=Z (h a,c)/\yk ew (c.drop k) ρ1=Z ρ1)/\(p a=δ->yk ew (b.drop k) ρ1=Z ρ1)):
  uF k ew s g ft fe ρ=Z ((l.filter p).map h,ρ1):=(OI i (by rw[af];exact f)).t (Ik d p h l st)
def yg(c:α->L4.D)(l:List α)(f:s ρ=Z (l.map c,ρ1))(d:l.length<=1000)(st:∀a∈l,∃ρ2 b,g (c a) (G2 k ew ρ1)=Z ρ2/\fe ρ2=Z (.I γ,b)/\yk ew (b.drop k) ρ1=Z ρ1):
  c1 yL (cL (uF k ew s g vC fe)) ρ=Z (.I γ,ρ1):=
 u5 (u4 (wu c (λz=>.I γ) l f d st)) ((OT l λz=>γ).t (by rw[aH.2 λz z=>U]))
def Tw(c:α->L4.D)(l:List α)(f:s ρ=Z (l.map c,ρ1))(d:l.length<=1000)(st:∀a∈l,∃ρ2 b,g (c a) (G2 k ew ρ1)=Z ρ2/\fe ρ2=Z (.I δ,b)/\yk ew (b.drop k) ρ1=Z ρ1):
  c1 G5 (cL (uF k ew s g vC fe)) ρ=Z (.I δ,ρ1):=
 u5 (u4 (wu c (λz=>.I δ) l f d st)) ((OU l λz=>δ).t (by rw[oZ.2 λz z=>bE]))
end
inductive Kd where
 |room|you|plain|fixed|box|lamp
deriving DecidableEq
def Kd.s:Kd->Str
 |.room=>"room" |.you=>"you" |.plain=>"plain" |.fixed=>"fixed" |.box=>"box" |.lamp=>"lamp"
def Kd.pl:Kd->Bool
 |.room=>δ|.you=>δ|_=>γ
def Kd.hd:Kd->Bool
 |.room=>γ|.you=>γ|.box=>γ|_=>δ
def Kd.mk:Kd->Bool
 |.box=>γ|.lamp=>γ|_=>δ
structure Th where
 n:Str
 w:aB
 k:Kd
 s:Option Str
def oS:Option Str->L4.D
 |none=>.E
 |some x=>.str x
def fg(t:Th):L4.D:=.obj 0 ["name", "words", "kind", "start"] [.str t.n,.cx (t.w.map D.str),.str t.k.s,oS t.s]
def Av(t:Th):uC uN "name" (fg t)=Z (.str t.n):=rfl
def Lg(t:Th):uC wX "words" (fg t)=Z (.cx (t.w.map D.str)):=rfl
def BO(t:Th):uC vq "kind" (fg t)=Z (.str t.k.s):=rfl
def Hm(t:Th):uC vN "start" (fg t)=Z (oS t.s):=rfl
def Fi(a b:Kd):er δ (.str a.s) (.str b.s)=Z (.I (decide (a=b))):=by cases a<;>cases b<;>kernel_rfl
def O6(t:Th):AM [fg t]=Z (.I t.k.hd):=by obtain⟨n,w,k,s⟩:=t;cases k<;>kernel_rfl
def O7(t:Th):AO [fg t]=Z (.I t.k.mk):=by obtain⟨n,w,k,s⟩:=t;cases k<;>kernel_rfl
def MF(t:Th):zA [fg t]=Z (.I t.k.pl):=by obtain⟨n,w,k,s⟩:=t;cases k<;>kernel_rfl
def WH(t:Th):vb [.str t.k.s,Dp]=Z (.I γ):=by obtain⟨n,w,k,s⟩:=t;cases k<;>kernel_rfl
abbrev TD(T:List Th):L4.D:=.b0 (T.map fg)
def D0(T:List Th)(a:T.length<=1000)(k:Kd):Bn [TD T,.str k.s]=Z (.int (T.filter λt=>decide (t.k=k)).length):=by refine uI (ρ:=[.q (TD T),.q (.str k.s)]) U ?_;refine uT (u5 (u4 (wt fg fg (λt=>decide (t.k=k)) T U a λt z=>⟨[.q (fg t),.q (.str k.s)],[.q (fg t),.q (.str k.s)],U,u6 (uv (u5 U (BO t)) U (Fi t.k k)),λz=>⟨_,U,U⟩,λz=>U⟩)) ?_);show Z (D.int _)=_;rw[af]
def Aw(T:List Th)(a:T.length<=1000):x8 [TD T]=Z ((T.filter λt=>t.k.pl).map fg):=by refine D5 (ρ:=[.q (TD T)]) U ?_;exact w9 (wt fg fg (λt=>t.k.pl) T U a λt z=>⟨[.q (fg t)],[.q (fg t)],U,u6 (vx U U U U (MF t)),λz=>⟨_,U,U⟩,λz=>U⟩)
def Fj{a b c:FE}{ρ d:aU}{x y z:Int}(h:a ρ=Z (.int x,ρ))(i:b ρ=Z (.int y,ρ))(j:c ρ=Z (.int z,d))(l:x<=y)(m:y<=z):xx yK yK a b c ρ=Z (.I γ,d):=by
 unfold xx;rw[h];simp only[i];have e:yK (.int x) (.int y)=Z (.I γ):=by show Z (D.I (decide (x<=y)))=_;rw[aT l]
 have f:yK (.int y) (.int z)=Z (.I γ):=by show Z (D.I (decide (y<=z)))=_;rw[aT m]
 simp only[e,j,f]
def O8{a b:FE}{ρ:aU}{x y:Int}(c:a ρ=Z (.int x,ρ))(d:b ρ=Z (.int y,ρ))(e:x<=y):c2 yK a b ρ=Z (.I γ,ρ):=uv c d (by
 show Z (D.I (decide (x<=y)))=_;rw[aT e])
def G7(T:List Th)(a:T.length<=1000)(d:1<=(T.filter λt=>decide (t.k=.room)).length)(e:(T.filter λt=>decide (t.k=.room)).length<=5)(c:(T.filter λt=>decide (t.k=.you)).length=1)(f:(T.filter λt=>t.k.pl).length<=7):
  zC [TD T]=Z .E:=by
 let b:aU:=[.q (TD T),.q (.I γ)];refine Bf (ρ:=b) U ?_;unfold zB;rw[ux (show _=Z (F?.nx b) from(vP ((uX U).t (yg fg T U a λt z=>⟨_,_,U,U,U⟩))).t U)];rw[ux (wW U)];rw[ux (wW (yg fg T U a λt z=>⟨[.q (fg t)],[.q (fg t)],U,ur (uu (u5 U (BO t)) U) (WH t),U⟩))];rw[ux (wW (Fj U (ur U (D0 T a .room)) U (by omega) (by omega)))];rw[ux (wW (uv (ur U (D0 T a .you)) U (by rw[c];rfl)))];refine wW (O8 (x:=(T.filter λt=>t.k.pl).length) (u5 (u4 (ur U (Aw T a))) ?_) U (by omega));show Z (D.int _)=_;rw[af]
structure Mk where
 n:Str
 st:Int
 mo:Int
def H4(m:Mk):L4.D:=.obj 1 ["name", "start", "most"] [.str m.n,.int m.st,.int m.mo]
def Mk.ok(m:Mk):Prop:=1<=m.mo/\m.mo<=3/\0<=m.st/\m.st<=m.mo
abbrev MD(M:List Mk):L4.D:=.b0 (M.map H4)
def Lh(m:Mk):uC uN "name" (H4 m)=Z (.str m.n):=rfl
def N0(m:Mk)(h:m.ok):FX [H4 m]=Z (.I γ):=by obtain⟨a,b,c,d⟩:=h;refine uI (ρ:=[.q (H4 m)]) U ?_;unfold FW;rw[ux (show _=Z (F?.nx [.q (H4 m)]) from U)];exact uT ((uX (Fj U U U a b)).t (Fj U U U c d))
def IM(M:List Mk)(d:M.length<=4)(h:∀m∈M,m.ok):Al [MD M]=Z .E:=by
 let a:aU:=[.q (MD M),.q (.I γ)];refine Bf (ρ:=a) U ?_;unfold Ak;have b:vt [MD M,Bj]=Z (.I γ):=by refine uI (ρ:=[.q (MD M),.q (.int 4)]) U ?_;refine uT ((uX U).t (O8 (x:=M.length) ?_ U (by omega)));refine u5 U ?_;show Z (D.int _)=_;rw[af]
 rw[ux (show _=Z (F?.nx a) from(vP ((uX (ur U b)).t (yg H4 M U (by omega) λm c=>⟨[.q (H4 m)],[.q (H4 m)],U,ur U (N0 m (h m c)),U⟩))).t U)];exact wW U
def ZY:aB:=["b", "ba", "bab", "babe", "c", "cab", "not", "take", "lit", "lamp", "x", "xx", "open", "both", "zz", "hall", "seen"]
def ahL:aB:=["", "", "q", "ek"]
def υ(a:Str):aB:=ZY.map λx=>a++x
def nmL:aB:=υ "" ++ υ "q" ++ υ "ek"
def Nm(x:Str):Prop:=x∈nmL
def τ:Option L4.D->Bool
 |some (.I b)=>b
 |_=>δ
def BP{o:Option L4.D}(h:τ o=γ):o=Z (.I γ):=by
 unfold τ at h;split at h
 .rw[h]
 .cases h
def isF:Option L4.D->Bool
 |some (.I b)=>!b
 |_=>δ
def Tx{o:Option L4.D}(h:isF o=γ):o=Z (.I δ):=by
 unfold isF at h;split at h
 .rw[eD]at h;rw[h]
 .cases h
def N1{x:Str}(h:Nm x):xt [.str x]=Z (.I γ):=BP (aH.1 (show (nmL.all λx=>τ (xt [.str x]))=γ by kernel_rfl) x h)
def Ek{l:aB}(h:l.Nodup)(a:l.length<=1000):wm [.b0 (l.map D.str)]=Z (.I γ):=by
 refine uI (ρ:=[.q (.b0 (l.map D.str))]) U ?_;refine uT (uv (y:=.int l.length) (u5 U (Wi (Gr h a))) (u5 U ?_) ?_)
 .show Z (D.int _)=_;rw[af]
 .rw[xb];simp
def N2{l:aB}(h:l.Nodup)(a:l.length<=1000):wm [.cx (l.map D.str)]=Z (.I γ):=by
 refine uI (ρ:=[.q (.cx (l.map D.str))]) U ?_;refine uT (uv (y:=.int l.length) (u5 U (Gr h a)) (u5 U ?_) ?_)
 .show Z (D.int _)=_;rw[af]
 .rw[xb];simp
def IP(T:List Th)(M:List Mk)(hT:T.length<=400)(hM:M.length<=400)(h:∀x∈T.map Th.n++M.map Mk.n,Nm x)(l:(T.map Th.n++M.map Mk.n).Nodup):An [TD T,MD M]=Z .E:=by
 have c:(T.map Th.n++M.map Mk.n).length<=1000:=by rw[aC,af,af];omega
 let a:aU:=[.q (TD T),.q (MD M),.un];let b:aU:=[.q (TD T),.q (MD M),.q (.b0 ((T.map Th.n++M.map Mk.n).map D.str))];refine Bf (ρ:=b) U ?_;unfold Am;have d:uF 1 [] (iL aa) (gN 0) vC (c1 (uC uN "name") aa) a=Z (T.map λt=>D.str t.n,a):=wu fg (λt=>D.str t.n) T U (by omega) λt z=>⟨_,_,U,u5 U (Av t),U⟩;have e:uF 1 [] (iL ai) (gN 0) vC (c1 (uC uN "name") aa) a=Z (M.map λt=>D.str t.n,a):=wu H4 (λt=>D.str t.n) M U (by omega) λt z=>⟨_,_,U,u5 U (Lh t),U⟩;have f:=vP (i:=2) (u4 (vK (u4 d) (u4 e) (by rw[af,af];omega)));refine(ux (ρ':=b) (f.t (by
  have:(T.map λt=>D.str t.n)++(M.map λt=>D.str t.n)=(T.map Th.n++M.map Mk.n).map D.str:=by rw[aZ,aW,aW];rfl
  rw[this];rfl))).t ?_
 rw[ux (wW (yg D.str (T.map Th.n++M.map Mk.n) U c λx j=>⟨_,_,U,ur U (N1 (h x j)),U⟩))];exact wW (ur U (Ek l c))
def i2(T:List Th):aB:=(T.filter λt=>decide (t.k=.room)).map Th.n
def rz(T:List Th):aB:=(T.filter λt=>t.k.hd).map Th.n
abbrev j8:=(cC (.str "room"))
def MG{ρ:aU}(T:List Th)(b:T.length<=1000){i:Nat}(a:cV i ρ=Z (TD T,ρ)):uF 1 [] (iL (cV i)) (gN 0) (cT (c2 (er δ) (c1 (uC vq "kind") aa) j8)) (c1 (uC uN "name") aa) ρ=Z ((i2 T).map D.str,ρ):=by
 have c:iL (cV i) ρ=Z (T.map fg,ρ):=by unfold iL;rw[a]
 have:=wt (k:=1) (ew:=[]) (g:=gN 0) (ft:=cT (c2 (er δ) (c1 (uC vq "kind") aa) j8)) (fe:=c1 (uC uN "name") aa) fg (λt=>D.str t.n) (λt=>decide (t.k=.room)) T c b λt z=>⟨[.q (fg t)],[.q (fg t)],U,u6 (uv (u5 U (BO t)) U (Fi t.k .room)),λz=>⟨_,u5 U (Av t),U⟩,λz=>U⟩
 rw[this];unfold i2;rw[aW];rfl
def N3{ρ:aU}(T:List Th)(b:T.length<=1000){i:Nat}(a:cV i ρ=Z (TD T,ρ)):uF 1 [] (iL (cV i)) (gN 0) (cT (vd vQ "can_hold" aa uQ)) (c1 (uC uN "name") aa) ρ=Z ((rz T).map D.str,ρ):=by
 have c:iL (cV i) ρ=Z (T.map fg,ρ):=by unfold iL;rw[a]
 have:=wt (k:=1) (ew:=[]) (g:=gN 0) (ft:=cT (vd vQ "can_hold" aa uQ)) (fe:=c1 (uC uN "name") aa) fg (λt=>D.str t.n) (λt=>t.k.hd) T c b λt z=>⟨[.q (fg t)],[.q (fg t)],U,u6 (vx U U U U (O6 t)),λz=>⟨_,u5 U (Av t),U⟩,λz=>U⟩
 rw[this];unfold rz;rw[aW];rfl
def zi{x:Str}{l:aB}(h:x∈l):vb [.str x,.b0 (l.map D.str)]=Z (.I γ):=by refine uI (ρ:=[.q (.str x),.q (.b0 (l.map D.str))]) U ?_;refine uT ((uX U).t (uv U U ?_));rw[AG];simp[h]
def Jx(a b:aB)(d:a.length<=1000)(f:a.Nodup)(h:∀x∈a,x∈b):Bp [.b0 (a.map D.str),.b0 (b.map D.str)]=Z .E:=by let i:aU:=[.q (.b0 (a.map D.str)),.q (.b0 (b.map D.str)),.un];let c:aU:=[.q (.b0 (a.map D.str)),.q (.b0 (b.map D.str)),.q (.I γ)];refine Bf (ρ:=c) U ?_;unfold Bo;rw[ux (show _=Z (F?.nx c) from(vP ((uX U).t ((uX (yg D.str a U d λx e=>⟨[.q (.str x),.q (.b0 (b.map D.str))],[.q (.str x),.q (.b0 (b.map D.str))],U,ur U (zi (h x e)),U⟩)).t (ur U (Ek f d))))).t U)];exact wW U
def Fk(T:List Th)(t:Th):Prop:=match t.k,t.s with
 |.room,O=>True
 |.room,Z _=>False
 |_,O=>False
 |.you,Z x=>x∈i2 T
 |_,Z x=>x∈rz T
def MH(T:List Th)(b:T.length<=1000)(t:Th)(h:Fk T t):Ee [TD T,fg t]=Z (.I γ):=by
 refine uI (ρ:=[.q (TD T),.q (fg t)]) U ?_;unfold Ed;obtain⟨n,w,k,s⟩:=t;have els:∀k:Kd,k≠.room->k≠.you->∀x,x∈rz T->(bt (fc (cT (c2 (er δ) (c1 (uC vq "kind") ai) j8)) (uy (c2 Ag (c1 (uC vN "start") ai) bf)) uD)
   (bt (fc (cT (c2 (er δ) (c1 (uC vq "kind") ai) (cC (.str "you")))) (uy (uw vb (ax (c1 (uC vN "start") ai) (ax (cL (uF 1 [] (iL aa) (gN 0) (cT (c2 (er δ) (c1 (uC vq "kind") aa) j8)) (c1 (uC uN "name") aa))) uQ)))) uD)
   (uy (uw vb (ax (c1 (uC vN "start") ai) (ax (cL (uF 1 [] (iL aa) (gN 0) (cT (vd vQ "can_hold" aa uQ)) (c1 (uC uN "name") aa))) uQ)))))) [.q (TD T),.q (fg ⟨n,w,k,Z x⟩)]=Z (.rt (.I γ) [.q (TD T),.q (fg ⟨n,w,k,Z x⟩)]):=λk c d x e=>by
  let a:aU:=[.q (TD T),.q (fg ⟨n,w,k,Z x⟩)];rw[ux (show _=Z (F?.nx a) from(vE (u6 (uv (u5 U (BO _)) U ((Fi k .room).t (by rw[aR c]))))))];rw[ux (show _=Z (F?.nx a) from(vE (u6 (uv (u5 U (BO _)) U ((Fi k .you).t (by rw[aR d]))))))];exact uT (ur (uu (u5 U (Hm _)) (uu (u4 (N3 T b U)) U)) (zi e))
 cases k with
 |room=>
  cases s with
  |none=>rfl
  |some x=>exact h.elim
 |you=>
  cases s with
  |none=>exact h.elim
  |some x=>let a:aU:=[.q (TD T),.q (fg ⟨n,w,.you,Z x⟩)];rw[ux (show _=Z (F?.nx a) from U)];refine uZ ((vv U).t ?_);exact uT (ur (uu (u5 U (Hm _)) (uu (u4 (MG T b U)) U)) (zi h))
 |plain=>cases s with
  |none=>exact h.elim
  |some x=>exact els .plain (by decide) (by decide) x h
 |fixed=>cases s with
  |none=>exact h.elim
  |some x=>exact els .fixed (by decide) (by decide) x h
 |box=>cases s with
  |none=>exact h.elim
  |some x=>exact els .box (by decide) (by decide) x h
 |lamp=>cases s with
  |none=>exact h.elim
  |some x=>exact els .lamp (by decide) (by decide) x h
def kS(x:Str):ey:=Sum.inr x
def MI{i:Nat}{fk fv:FE}{a:aU}{b:List ey}{c:List L4.D}{x:Str}{d:L4.D}(f:fv a=Z (d,a))(h:a[i]?=Z (.dk b c))(j:fk a=Z (.str x,a))(p:kS x∉b)(o:b.length<1000)(l:c.length=b.length):
  yp i fk fv a=Z (.nx (a.set i (.dk (b++[kS x]) (c++[d])))):=by
 have m:Jq b (kS x)=δ:=by unfold Jq;rw[iF];intro z;obtain⟨y,q,e⟩:=fw.1 z;exact p (by rw[<-bp e];exact q)
 unfold yp;rw[f];simp only[h,j];rw[show AF (.str x)=Z (kS x) from U];simp only;rw[ah o,ah l,m];rfl
section
variable{α:Type}{g:FG}{i:Nat}{fk fv:FE}
theorem AZ(m:α->L4.D)(kf:α->Str)(j:α->L4.D)(st:List ey->List L4.D->Sl->aU)
  (r:∀(a:α) (c:List ey) (d:List L4.D) (s:Sl),∃b,g (m a) (st c d s)=Z b/\fv b=Z (j a,b)/\b[i]?=Z (.dk c d)/\fk b=Z (.str (kf a),b)/\∀f e,∃h,b.set i (.dk f e)=st f e h):
  ∀(l:List α) (c:List ey) (d:List L4.D) (s:Sl),(c++l.map λa=>kS (kf a)).Nodup->c.length+l.length<=1000->d.length=c.length->
   ∃h,j0 g (yp i fk fv) (l.map m) (st c d s)=Z (.nx (st (c++l.map λa=>kS (kf a)) (d++l.map j) h))
 |[],c,d,s,_,_,_=>⟨s,by rw[dU,dU,dU,b9,b9];rfl⟩
 |a::l,c,d,s,o,C,q=>by
  obtain⟨b,t,u,w,x,y⟩:=r a c d s;obtain⟨F,A⟩:=y (c++[kS (kf a)]) (d++[j a]);rw[aP]at C;have p:((c++[kS (kf a)])++l.map λa=>kS (kf a)).Nodup:=by rw[b8];exact o
  have E:kS (kf a)∉c:=λz=>by rw[cq]at o;exact o.2.2 _ z _ (by rw[aS];exact aY) U
  obtain⟨h,B⟩:=AZ m kf j st r l (c++[kS (kf a)]) (d++[j a]) F p (by rw[aC,c4];omega) (by rw[aC,aC,q,c4,c4]);refine⟨h,?_⟩;rw[aS];unfold j0;rw[t];simp only[MI u w x E (by omega) q,A];rw[B,aS,aS,b8,b8];rfl
end
def nK(T:List Th):List ey:=T.map λt=>kS t.n
def abz{a b:Str}(h:kS a=kS b):a=b:=jO h
def Tz{T:List Th}(h:(T.map Th.n).Nodup):(nK T).Nodup:=by have:=AH h;rw[aW]at this;exact this
def Hn{T:List Th}(h:(T.map Th.n).Nodup)(a:Th->L4.D){t:Th}(b:t∈T):wI (nK T) (T.map a) (kS t.n)=Z (a t):=by refine Ct (Tz h) ?_;unfold nK;rw[mh];exact bZ b
def N4(T:List Th)(r:Str->Nat):Prop:=∀t∈T,r t.n<T.length/\∀p,t.s=Z p->r p<r t.n/\∃u∈T,u.n=p
def tj(T:List Th):L4.D:=.J (nK T) (T.map λt=>oS t.s)
def TB(T:List Th)(J:T.length<=1000)(B:(T.map Th.n).Nodup)(r:Str->Nat)(w:N4 T r)(t:Th)(z:t∈T):yO [tj T,.str t.n]=Z (.I γ):=by
 have loop:∀(m:Nat) (l:List L4.D),l.length=m->∀(a:Option Str) (s:Sl),(∀x,a=Z x->(∃u∈T,u.n=x)/\r x<m)->
   (∃b,j0 (gN 3) (bt (fc (cT (c2 Ag ak bf)) (uy dy) uD) (uM 2 (c2 DE aa ak))) l [.q (tj T),.q (.str t.n),.q (oS a),s]=Z (.rt (.I γ) b))\/
   (∃j,j0 (gN 3) (bt (fc (cT (c2 Ag ak bf)) (uy dy) uD) (uM 2 (c2 DE aa ak))) l [.q (tj T),.q (.str t.n),.q (oS a),s]=Z (.nx [.q (tj T),.q (.str t.n),.q .E,j])):=by
  intro m
  induction m with
  |zero=>
   intro l h a s f;cases l with
   |cons d l=>cases h
   |nil=>
    cases a with
    |none=>exact .inr ⟨s,U⟩
    |some x=>exact ar (f x U).2 (p8 _)
  |succ m G=>
   intro l h a s f;cases l with
   |nil=>cases h
   |cons d l=>
    cases a with
    |none=>refine .inl ⟨[.q (tj T),.q (.str t.n),.q .E,.q d],?_⟩;unfold j0;rw[show gN 3 d [.q (tj T),.q (.str t.n),.q (oS O),s]=Z [.q (tj T),.q (.str t.n),.q .E,.q d] from U];rfl
    |some x=>
     obtain⟨⟨u,A,rfl⟩,i⟩:=f x U;have e:bt (fc (cT (c2 Ag ak bf)) (uy dy) uD) (uM 2 (c2 DE aa ak)) [.q (tj T),.q (.str t.n),.q (.str u.n),.q d]=Z (.nx [.q (tj T),.q (.str t.n),.q (oS u.s),.q d]):=by refine(ux U).t ?_;exact(vP (uv U U (Hn B (λt=>oS t.s) A))).t U
     have key:=G l (by simpa using h) u.s (.q d) λy F=>by obtain⟨C,c⟩:=w u A;obtain⟨I,E⟩:=c y F;exact⟨E,by omega⟩
     unfold j0;rw[show gN 3 d [.q (tj T),.q (.str t.n),.q (oS (Z u.n)),s]=Z [.q (tj T),.q (.str t.n),.q (.str u.n),.q d] from U];simp only[e];exact key
 obtain⟨C,c⟩:=w t z;have H:=loop T.length (LY 0 T.length) (by unfold LY;simp) t.s .un λx i=>⟨(c x i).2,by have:=(c x i).1;omega⟩;have o:uM 2 (c2 DE aa ai) [.q (tj T),.q (.str t.n),.un,.un]=Z (.nx [.q (tj T),.q (.str t.n),.q (oS t.s),.un]):=(vP (uv U U (Hn B (λt=>oS t.s) z))).t U;have p:u3 (c1 vH aa) [.q (tj T),.q (.str t.n),.q (oS t.s),.un]=Z (LY 0 T.length,[.q (tj T),.q (.str t.n),.q (oS t.s),.un]):=by unfold u3;rw[show c1 vH aa [.q (tj T),.q (.str t.n),.q (oS t.s),.un]=Z (.int T.length,[.q (tj T),.q (.str t.n),.q (oS t.s),.un]) from u5 U (by show Z (D.int _)=_;unfold nK;rw[af])];simp only;rw[ah (by omega),fS]
 rcases H with ⟨b,q⟩|⟨j,q⟩
 .refine uI (ρ:=b) U ?_;refine(ux o).t (uZ ((xY p).t q))
 .refine uI (ρ:=[.q (tj T),.q (.str t.n),.q .E,j]) U ?_;refine(ux o).t ((ux ((xY p).t q)))
def G8(T:List Th)(u:T.length<=900)(f:(T.map Th.n).Nodup)(r:Str->Nat)(l:N4 T r)(m:∀t∈T,Fk T t):zF [TD T]=Z .E:=by
 obtain⟨b,j⟩:=AZ (g:=gN 2) (i:=1) (fk:=c1 (uC uN "name") ak) (fv:=c1 (uC vN "start") ak) fg Th.n (λt=>oS t.s) (λe c s=>[.q (TD T),.dk e c,s])
  (λt e c s=>⟨[.q (TD T),.dk e c,.q (fg t)],U,u5 U (Hm t),U,u5 U (Av t),λo h=>⟨_,U⟩⟩) T [] [] .un (by rw[cu];exact Tz f) (by simp;omega) U
 refine Bf (ρ:=[.q (TD T),.q (tj T),b]) U ?_;unfold zD;refine(ux (wW (yg fg T U (by omega) λt d=>⟨[.q (fg t),.q (TD T)],[.q (fg t),.q (TD T)],U,ur U (MH T (by omega) t (m t d)),U⟩))).t ?_;refine(ux U).t ?_;refine(ux ((xY U).t j)).t ?_;have src:iD (tX 1) [.q (TD T),.dk ([]++T.map λa=>kS a.n) ([]++T.map λt=>oS t.s),b]=Z ((T.map λt=>D.str t.n),[.q (TD T),.q (tj T),b]):=by rw[cu,cu];unfold iD;rw[show tX 1 [.q (TD T),.dk (T.map λa=>kS a.n) (T.map λt=>oS t.s),b]=Z (tj T,[.q (TD T),.q (tj T),b]) from U];show (if (nK T).length=(T.map λt=>oS t.s).length then Z ((nK T).map ZU,_)else O)=_;unfold nK;rw[ah (by rw[af,af]),aW];rfl
 exact wW (yg (λt:Th=>D.str t.n) T src (by omega) λt d=>⟨[.q (.str t.n),.q (tj T)],[.q (.str t.n),.q (tj T)],U,ur U (TB T (by omega) f r l t d),U⟩)
def MJ(l:List Th)(r:Th):Prop:=(r.k=.room/\r.s=O)\/(r.k=.you/\∃u∈l,r.s=Z u.n/\u.k=.room)\/(r.k.pl=γ/\∃u∈l,r.s=Z u.n/\u.k.hd=γ)
inductive Ord:List Th->Prop
 |nil:Ord []
 |snoc {l:List Th} {r:Th} (h:Ord l) (h':MJ l r):Ord (l++[r])
def MJ.mono{l e:List Th}{r:Th}(h:MJ l r)(d:∀u∈l,u∈e):MJ e r:=by
 rcases h with h|⟨a,u,b,c⟩|⟨a,u,b,c⟩
 .exact .inl h
 .exact .inr (.inl ⟨a,u,d u b,c⟩)
 .exact .inr (.inr ⟨a,u,d u b,c⟩)
def Ord.all{l:List Th}(h:Ord l):∀r∈l,MJ l r:=by
 induction h with
 |nil=>exact λr hr=>(cy hr).elim
 |snoc h b c=>
  intro r hr;rcases bq.1 hr with hr|hr
  .exact(c r hr).mono λu a=>bD _ a
  .rw[bT]at hr;subst hr;exact b.mono λu a=>bD _ a
def MJ.start{l:List Th}{r:Th}(h:MJ l r){p:Str}(a:r.s=Z p):∃u∈l,u.n=p:=by
 rcases h with ⟨_,h⟩|⟨_,u,b,c,_⟩|⟨_,u,b,c,_⟩
 .rw[h]at a;cases a
 .rw[c]at a;cases a;exact⟨u,b,U⟩
 .rw[c]at a;cases a;exact⟨u,b,U⟩
def Ord.rank{l:List Th}(h:Ord l):(l.map Th.n).Nodup->∃c:Str->Nat,∀t∈l,c t.n<l.length/\∀p,t.s=Z p->c p<c t.n/\∃u∈l,u.n=p:=by
 induction h with
 |nil=>exact λv=>⟨λv=>0,λt a=>(cy a).elim⟩
 |@snoc l r h j q=>
  intro e;rw[aZ,cq]at e;obtain⟨c,i⟩:=q e.1;have f:∀u∈l,u.n≠r.n:=λu b z=>e.2.2 _ (bZ b) _ (by simp) z;refine⟨λx=>if x=r.n then l.length else c x,λt a=>?_⟩;rw[aC,c4];dsimp only;rcases bq.1 a with a|a
  .obtain⟨w,m⟩:=i t a;rw[aj (f t a)];refine⟨by omega,λp d=>?_⟩;obtain⟨o,u,b,rfl⟩:=m p d;rw[aj (f u b)];exact⟨o,u,bD _ b,U⟩
  .rw[bT]at a;subst a;rw[ah U];refine⟨by omega,λp d=>?_⟩;obtain⟨u,b,rfl⟩:=j.start d;rw[aj (f u b)];exact⟨(i u b).1,u,bD _ b,U⟩
def TC{ds:List L4.D}(k:Nat)(h:k<=ds.length):gi ds O (Z (k:Int))=ds.take k:=by unfold gi;rw[HT.LG,HT.He,iO h,List.drop_zero,Nat.sub_zero]
def abA{ds:List L4.D}(k:Nat)(h:k<=ds.length):gi ds (Z (k:Int)) O=ds.drop k:=by unfold gi;rw[HT.LG,HT.He,iO h,gL (by rw[dH];omega)]
def O9(u t:Th):Prop:=zh [.cx (u.w.map D.str),.cx (t.w.map D.str)]=Z (.I δ)
def Jy(P:List Th)(d:P.length<=900)(t:Th)(f:∀u∈P,u.n≠t.n->O9 u t):yQ [TD P,fg t]=Z (.I γ):=by
 let b:=P.filter λu=>!decide (u.n=t.n);let a:aU:=[.q (TD P),.q (fg t),.q (TD b)];have hO:b.length<=900:=bQ (cp _ _) d;refine uI (ρ:=a) U ?_;unfold yP;refine(ux (ρ':=a) ((vP (u4 (wt fg fg (λu=>!decide (u.n=t.n)) P U (by omega) λu z=>⟨[.q (fg u),.q (fg t)],[.q (fg u),.q (fg t)],U,u6 (uv (u5 U (Av u)) (u5 U (Av t)) (wj γ u.n t.n)),λz=>⟨_,U,U⟩,λz=>U⟩))).t U)).t ?_;have e:c1 G5 (cL (uF 1 [1] (iL ak) (gN 0) vC (uw zh (ax (c1 (uC wX "words") aa) (ax (c1 (uC wX "words") ai) uQ))))) a=Z (.I δ,a):=
  Tw fg b U (by omega) λu c=>⟨[.q (fg u),.q (fg t)],[.q (fg u),.q (fg t)],U,ur (uu (u5 U (Lg u)) (uu (u5 U (Lg t)) U)) (f u (bb.1 c).1 (by simpa using (bb.1 c).2)),U⟩
 refine uT ?_;unfold HL;rw[e];rfl
def IQ(T:List Th)(e:T.length<=900)(h:∀t∈T,yG [.cx (t.w.map D.str)]=Z (.I γ))(d:∀t∈T,∀u∈T,t.k.pl=γ->u.k.pl=γ->u.n≠t.n->O9 u t):wF [TD T]=Z .E:=by let P:=T.filter λt=>t.k.pl;have hP:P.length<=900:=bQ (cp _ _) e;have pP:∀t∈P,t∈T/\t.k.pl=γ:=λt a=>bb.1 a;let c:aU:=[.q (TD T),.q (TD P)];refine Bf (ρ:=c) U ?_;unfold wD;refine(ux (wW (yg fg T U (by omega) λt a=>⟨[.q (fg t)],[.q (fg t)],U,ur (uu (u5 U (Lg t)) U) (h t a),U⟩))).t ?_;refine(ux ((vP (u4 (ur U (Aw T (by omega))))))).t ?_;exact wW (yg fg P U (by omega) λt a=>⟨[.q (fg t),.q (TD P)],[.q (fg t),.q (TD P)],U,ur U (Jy P hP t λu b f=>d t (pP t a).1 u (pP u b).1 (pP t a).2 (pP u b).2 f),U⟩)
def Pb{e:FE}{b:Bool}{ρ a:aU}(h:e ρ=Z (.I b,a)):HL e ρ=Z (.I !b,a):=by unfold HL;rw[h]
def IR{l m:aB}{d:L4.D}(hd:d=.b0 (m.map D.str)\/d=.cx (m.map D.str))(c:l.length<=900)(h:∀x∈l,x∉m):yH [.b0 (l.map D.str),d]=Z (.I γ):=by
 let a:aU:=[.q (.b0 (l.map D.str)),.q d];refine uI (ρ:=a) U ?_;have e:c1 G5 (cL (uF 1 [1] (iL aa) (gN 0) vC (c2 (oy δ) aa ai))) a=Z (.I δ,a):=Tw D.str l U (by omega) λx b=>⟨[.q (.str x),.q d],[.q (.str x),.q d],U,uv U U (by
  rcases hd with rfl|rfl
  .rw[AG];simp[h x b]
  .rw[Cr];simp[h x b]),U⟩
 exact uT (Pb e)
structure Vb where
 n:Str
 o:aB
 f:Str
 j:Option Str
def m5(v:Vb):L4.D:=.obj 2 ["name", "others", "form", "joining"] [.str v.n,.cx (v.o.map D.str),.str v.f,oS v.j]
def v6:List Vb:=[⟨"give", ["hand", "g"],"two", Z "to"⟩,⟨"hum", [],"alone", O⟩,⟨"push", ["shove"],"one", O⟩,⟨"sail", ["s"],"way", O⟩,⟨"tie", [],"two", Z "with"⟩,⟨"l", ["look", "peer"],"one", O⟩]
def v9:List Vb:=[⟨"take", [],"one", O⟩,⟨"drop", [],"one", O⟩,⟨"open", [],"one", O⟩,⟨"shut", [],"one", O⟩,⟨"light", [],"one", O⟩,⟨"douse", [],"one", O⟩,⟨"put", [],"two", Z "in"⟩,⟨"go", [],"way", O⟩,⟨"wait", [],"alone", O⟩]
abbrev VD(V:List Vb):L4.D:=.b0 (V.map m5)
def vB(m k:Nat):Bool:=m / 2 ^ k % 2==1
def vL(m:Nat):List Vb:=((az 6).filter λk=>vB m k).map λk=>v6.getD k ⟨"", [],"", O⟩
def TF:ya []=Z (v9.map m5):=by kernel_rfl
def Vb.ws(v:Vb):aB:=v.n::v.o
def vW:aB:=(v6++v9).flatMap Vb.ws
def O':aB:=["north", "up", "in", "n", "upward"]
def bW:aB:="to" ::"with" ::O'
def v64{p:List Vb->Bool}(h:((az 64).all λm=>p (vL m))=γ){m:Nat}(a:m<64):p (vL m)=γ:=aH.1 h m (bA.2 a)
def El{m:Nat}{v:Vb}(h:v∈vL m):v∈v6:=by obtain⟨k,b,rfl⟩:=aG.1 h;have a:k<v6.length:=bA.1 (bb.1 b).1;rw[bN,aM a];exact gR a
def Em(m:Nat):(vL m).length<=6:=by unfold vL;rw[af];exact bQ (cp _ _) (by rw[bF];exact aL _)
def isN:Option L4.D->Bool
 |some .E=>γ
 |_=>δ
def abB{o:Option L4.D}(h:isN o=γ):o=Z .E:=by
 unfold isN at h;split at h
 .rfl
 .cases h
def IS{m:Nat}(a:m<64):yy [VD (vL m)]=Z .E:=abB (v64 (p:=λV=>isN (yy [VD V])) (by kernel_rfl) a)
def Pc{m:Nat}(a:m<64):((vL m++v9).flatMap Vb.ws).Nodup:=bp (v64 (p:=λV=>decide ((V++v9).flatMap Vb.ws).Nodup) (by kernel_rfl) a)
def vws{V:List Vb}(h:∀v∈V,v∈v6):∀x∈(V++v9).flatMap Vb.ws,x∈vW:=λx b=>by
 obtain⟨v,a,b⟩:=dJ.1 b;refine dJ.2 ⟨v,?_,b⟩;rcases bq.1 a with a|a
 .exact bD _ (h v a)
 .exact bG _ a
structure Wy where
 r:Str
 w:Str
 g:Str
 m:Option Str
def ll(w:Wy):L4.D:=.cx [.str w.r,.str w.w,.str w.g,oS w.m]
abbrev WD(W:List Wy):L4.D:=.b0 (W.map ll)
def tz(T:List Th)(M:List Mk):aB:=(T.filter λt=>t.k.mk).map Th.n++M.map Mk.n
structure N5(T:List Th)(M:List Mk)(w:Wy):Prop where
 hr:w.r∈i2 T
 hw:w.w∈O'
 hg:w.g∈i2 T
 hm:∀x,w.m=Z x->x∈tz T M
def Pd(l:List L4.D)(n:Int)(h:(l.length:Int)<=n):vt [.b0 l,.int n]=Z (.I γ):=by
 have e:vt [.b0 l,.int n]=Z (.I (decide ((l.length:Int)<=n))):=by kernel_rfl
 rw[e,aT h]
def Fl{e b:FE}{ρ a:aU}(c:e ρ=Z (.I δ,a)):Hs e b ρ=b a:=by unfold Hs;rw[c]
def Li{e b:FE}{ρ a:aU}(c:e ρ=Z (.I γ,a)):Hs e b ρ=Z (.I γ,a):=by unfold Hs;rw[c]
def QH{T:List Th}{M:List Mk}{w:Wy}(h:N5 T M w):IF [ll w,.b0 ((i2 T).map D.str),.b0 ((tz T M).map D.str)]=Z (.I γ):=by
 let R:L4.D:=.b0 ((i2 T).map D.str);let K:L4.D:=.b0 ((tz T M).map D.str);let a:aU:=[.q (ll w),.q R,.q K,.un];let d:aU:=[.q (ll w),.q R,.q K,.q (.I γ)];refine uI (ρ:=d) U ?_;unfold IE;refine(ux U).t ?_;have b:Hs (c2 Ag (c2 ea aa bC) bf) (uw vb rT) a=Z (.I γ,a):=by
  obtain⟨r,x,g,m⟩:=w;cases m with
  |none=>rfl
  |some y=>exact(Fl U).t (ur U (zi (h.hm y U)))
 refine(ux ((vP b))).t (uT ?_);have c:wz [.str w.w]=Z (.I γ):=BP (aH.1 (show (O'.all λx=>τ (wz [.str x]))=γ by kernel_rfl) w.w h.hw);exact(uX (ur U (zi h.hr))).t ((uX (ur U c)).t ((uX (ur U (zi h.hg))).t U))
theorem Pe:∀W:List Wy,ym (W.map λw=>D.cx [.str w.r,.str w.w])=Z (W.map λw=>[w.r,w.w])
 |[]=>rfl
 |w::W=>by rw[aS];unfold ym;rw[Pe W];rfl
def Jz{T:List Th}{M:List Mk}{W:List Wy}(b:W.length<=8)(h:∀w∈W,N5 T M w)(d:(W.map λw=>[w.r,w.w]).Nodup):Br [WD W,.b0 ((i2 T).map D.str),.b0 ((tz T M).map D.str)]=Z .E:=by
 let R:L4.D:=.b0 ((i2 T).map D.str);let K:L4.D:=.b0 ((tz T M).map D.str);let e:aU:=[.q (WD W),.q R,.q K,.un];let f:aU:=[.q (WD W),.q R,.q K,.q (.I γ)];refine Bf (ρ:=f) U ?_;unfold Bq;refine(ux ((vP ((uX (ur U (Pd _ _ (by rw[af];omega)))).t (yg ll W U (by omega) λw c=>⟨[.q (ll w),.q R,.q K],[.q (ll w),.q R,.q K],U,ur U (QH (h w c)),U⟩))))).t ?_;refine(ux (wW U)).t (wW (ur (uu (u4 (wu ll (λw=>.cx [.str w.r,.str w.w]) W U (by omega) λw z=>⟨[.q (ll w)],[.q (ll w)],U,U,U⟩)) U) ?_));refine uI U (uT (uv (x:=.int W.length) (y:=.int W.length) (u5 U ?_) (u5 U ?_) ?_))
 .have a:xa (W.map λw=>D.cx [.str w.r,.str w.w])=O\/xa (W.map λw=>D.cx [.str w.r,.str w.w])=Z (.int W.length):=by
   cases W with
   |nil=>exact .inr U
   |cons w W=>exact .inl U
  show (match xa (W.map λw:Wy=>D.cx [.str w.r,.str w.w])with|some r=>Z r|none=>Ea (W.map λw:Wy=>D.cx [.str w.r,.str w.w]))=_;rcases a with a|a
  .rw[a];show Ea _=_;unfold Ea;rw[Pe];dsimp only;rw[ah ⟨d,by rw[af];exact b⟩,af]
  .rw[a]
 .show Z (D.int _)=_;rw[af]
 .rw[xb];simp
def Kx:aB:=["red", "re", "taken", "old", "openly"]
def I':aB:=["key", "keys", "bowl", "b", "nothing"]
def tlL:aB:=["", "q", "zu"]
def exL:aB:=["x", "dusty", "most"]
def wpL:aB:=exL++tlL.flatMap λt=>(Kx++I').map λx=>x++t
theorem IT{a b c f h i:Sl}:∀(P:List Th) (acc:aB) (s:Sl),acc.length+3 * P.length<=900->(∀t∈P,t.w.length<=3)->
  ∃j,j0 (gN 4) (uW (Cp 3 (c1 (uC wX "words") aX))) (P.map fg) [a,b,c,.M (acc.map D.str),s,f,h,i]=Z (.nx [a,b,c,.M ((acc++P.flatMap Th.w).map D.str),j,f,h,i])
 |[],acc,s,_,_=>⟨s,by simp;rfl⟩
 |t::P,acc,s,o,l=>by
  have q:=l t aY;rw[aP]at o;obtain⟨j,e⟩:=IT P (acc++t.w) (.q (fg t)) (by rw[aC];omega) λu p=>l u (ba _ p);refine⟨j,?_⟩;rw[aS];unfold j0;have m:uW (Cp 3 (c1 (uC wX "words") aX)) [a,b,c,.M (acc.map D.str),.q (fg t),f,h,i]=Z (.nx [a,b,c,.M ((acc++t.w).map D.str),.q (fg t),f,h,i]):=by refine(wQ (d:=.E) ?_);unfold Cp;show (if (acc.map D.str).length+(t.w.map D.str).length<=1000 then Z (D.E,[a,b,c,.M (acc.map D.str++t.w.map D.str),.q (fg t),f,h,i])else O)=_;rw[ah (by rw[af,af];omega),aZ]
  rw[show gN 4 (fg t) [a,b,c,.M (acc.map D.str),s,f,h,i]=Z [a,b,c,.M (acc.map D.str),.q (fg t),f,h,i] from U];simp only[m];rw[e,iH,b8]
theorem Pf{a b c f h i:Sl}:∀(V:List Vb) (acc:aB) (s:Sl),acc.length+3 * V.length<=900->(∀v∈V,v.o.length<=2)->
  ∃l,j0 (gN 6) (uW (Cp 5 (EI (uO kj) (c1 (uC xl "others") bw)))) (V.map m5) [a,b,c,f,h,.M (acc.map D.str),s,i]=Z (.nx [a,b,c,f,h,.M ((acc++V.flatMap Vb.ws).map D.str),l,i])
 |[],acc,s,_,_=>⟨s,by simp;rfl⟩
 |v::V,acc,s,r,m=>by
  have w:=m v aY;rw[aP]at r;have x:v.ws.length<=3:=by unfold Vb.ws;rw[aP];omega
  obtain⟨l,e⟩:=Pf V (acc++v.ws) (.q (m5 v)) (by rw[aC];omega) λu t=>m u (ba _ t);refine⟨l,?_⟩;rw[aS];unfold j0;let j:aU:=[a,b,c,f,h,.M (acc.map D.str),.q (m5 v),i];have p:EI (uO kj) (c1 (uC xl "others") bw) j=Z (.cx (v.ws.map D.str),j):=by show (if ([]:List L4.D).length+(v.o.map D.str).length<=900 then Z (D.cx (.str v.n::[]++v.o.map D.str),j)else O)=_;rw[ah (by rw[af];simp only[fW];omega)];rfl
  have q:uW (Cp 5 (EI (uO kj) (c1 (uC xl "others") bw))) j=Z (.nx [a,b,c,f,h,.M ((acc++v.ws).map D.str),.q (m5 v),i]):=by refine wQ (d:=.E) ?_;unfold Cp;rw[p];show (if (acc.map D.str).length+(v.ws.map D.str).length<=1000 then Z (D.E,[a,b,c,f,h,.M (acc.map D.str++v.ws.map D.str),.q (m5 v),i])else O)=_;rw[ah (by rw[af,af];omega),aZ]
  rw[show gN 6 (m5 v) [a,b,c,f,h,.M (acc.map D.str),s,i]=Z j from U];simp only[q];rw[e,iH,b8]
def jsN(V:List Vb):aB:=V.filterMap Vb.j
def v_o2{V:List Vb}(h:∀v∈V,v∈v6):∀v∈V++v9,v.o.length<=2:=λv b=>by
 have a:=aH.1 (show ((v6++v9).all λv=>decide (v.o.length<=2))=γ by kernel_rfl) v (by
  rcases bq.1 b with b|b
  .exact bD _ (h v b)
  .exact bG _ b)
 exact bp a
def TH{e:FE}{c a:aU}{b:List L4.D}(h:e c=Z (.b0 b,a)):iL e c=Z (b,a):=by unfold iL;rw[h]
def adv{ρ:aU}(V:List Vb)(d:V.length<=900)(a:cV 2 ρ=Z (VD V,ρ)):uF 1 [] (iL ak) (gN 0) (cT (c2 y3 (c1 (uC xk "joining") aa) bf)) (c1 (uC xk "joining") aa) ρ=Z ((jsN V).map D.str,ρ):=by
 have b:iL ak ρ=Z (V.map m5,ρ):=TH a;refine(wt m5 (λv=>oS v.j) (λv=>v.j.isSome) V b (by omega) λv z=>⟨[.q (m5 v)],[.q (m5 v)],U,?_,λz=>⟨[.q (m5 v)],U,U⟩,λz=>U⟩).t ?_
 .obtain⟨n,o,f,j⟩:=v;cases j<;>rfl
 .congr 2;unfold jsN;clear b a d
  induction V with
  |nil=>rfl
  |cons v V c=>
   obtain⟨n,o,f,j⟩:=v;cases j with
   |none=>rw[nN (by simp),List.filterMap_cons_none U];exact c
   |some x=>rw[kF (by simp)];exact bL (D.str x::·) c
def IU{T:List Th}{W:List Wy}{m:Nat}(J:T.length<=200)(p:∀t∈T,t.k.pl=γ->t.w.length<=3/\∀x∈t.w,x∈wpL)(hW:W.length<=8)(X:∀w∈W,w.w∈O')(E:m<64):xM [TD T,WD W,VD (vL m++v9)]=Z .E:=by
 let V:=vL m++v9;have v6m:∀v∈vL m,v∈v6:=λv f=>El f;have lV:V.length<=15:=by show (vL m++v9).length<=15;rw[aC];have:=Em m;show (vL m).length+9<=15;omega
 let P:=T.filter λt=>t.k.pl;have hP:P.length<=200:=bQ (cp _ _) J;have hwP:∀t∈P,t.w.length<=3/\∀x∈t.w,x∈wpL:=λt i=>p t (bb.1 i).1 (bb.1 i).2;let A:Sl:=.q (TD T);let B:Sl:=.q (WD W);let C:Sl:=.q (VD V);obtain⟨l,G⟩:=IT P [] .un (by simp;omega) λt i=>(hwP t i).1;let o:=P.flatMap Th.w;let c:=V.flatMap Vb.ws;let r:Sl:=.M (o.map D.str);obtain⟨z,H⟩:=Pf V [] .un (by simp;omega) (v_o2 v6m);let d:aB:=jsN V++W.map Wy.w;let AT:Sl:=.q (.b0 (d.map D.str));have lU:c.length<=100:=by have h:=vws v6m;have I:=Mr (Pc E) h;exact bQ I (bK (by kernel_rfl))
 have lJ:(jsN V).length<=15:=bQ (List.length_filterMap_le _ _) lV;have lB:d.length<=100:=by show (jsN V++W.map Wy.w).length<=100;rw[aC,af];omega
 have bIn:∀x∈d,x∈bW:=λx b=>by
  rcases bq.1 b with b|b
  .obtain⟨v,f,e⟩:=jv.1 b;have a:=aH.1 (show ((v6++v9).all λv=>match v.j with|some x=>decide (x∈bW)|none=>γ)=γ by kernel_rfl) v (by
    rcases bq.1 f with f|f
    .exact bD _ (v6m v f)
    .exact bG _ f)
   rw[e]at a;exact bp a
  .obtain⟨w,p,rfl⟩:=aG.1 b;exact(show ∀x∈O',x∈bW by decide) _ (X w p)
 have oIn:∀x∈o,x∈wpL:=λx b=>by obtain⟨t,i,hxt⟩:=dJ.1 b;exact(hwP t i).2 x hxt
 have uIn:∀x∈c,x∈vW:=vws v6m;have Q:∀x∈vW++bW,x∉wpL:=by decide +kernel
 have R:∀x∈vW++bW,x∉(["the", "a", "undo", "restart"]:aB):=by decide +kernel
 have S:∀x∈bW,x∉vW:=by decide +kernel
 have F:∀x∈c++d,x∈vW++bW:=λx b=>by
  rcases bq.1 b with b|b
  .exact bD _ (uIn x b)
  .exact bG _ (bIn x b)
 have lUB:(c++d).length<=900:=by rw[aC];omega
 let UL:L4.D:=.b0 (c.map D.str);refine Bf (ρ:=[A,B,C,.q (.b0 (o.map D.str)),l,.q UL,z,AT]) U ?_;unfold xK;refine(ux U).t ?_;refine(ux ((xY (ρ1:=[A,B,C,.M [],.un,.un,.un,.un]) ?_).t G)).t ?_
 .unfold iL;rw[u4 (ur (ρ1:=[A,B,C,.M [],.un,.un,.un,.un]) U (Aw T (by omega)))]
 refine(ux U).t ?_;refine(ux ((xY U).t H)).t ?_;refine(ux (ρ':=[A,B,C,r,l,.M (c.map D.str),z,AT]) ((vP (u4 (vK (u4 (adv V (by omega) U)) (u4 (wu ll (λw=>.str w.w) W U (by omega) λw u=>⟨[.q (ll w)],[.q (ll w)],U,U,U⟩)) (by rw[af,af];omega)))).t ?_)).t ?_
 .show Z (F?.nx [A,B,C,r,l,.M (c.map D.str),z,.q (.b0 ((jsN V).map D.str++W.map λw=>.str w.w))])=_;rw[show (jsN V).map D.str++(W.map λw=>D.str w.w)=d.map D.str by show _=(jsN V++W.map Wy.w).map D.str;rw[aZ,aW];rfl]
 refine(ux (wW (ur (ds:=[UL]) U (Ek (Pc E) (by omega))))).t ?_;have y:∀(q:Sl),cL (vV (tX 5) bR) [A,B,C,q,l,.q UL,z,AT]=Z (.b0 ((c++d).map D.str),[A,B,C,q,l,.q UL,z,AT]):=λq=>(u4 (vK U U (by rw[af,af];omega))).t (by rw[<-aZ]);refine(ux (wW (ur (uu (y r) U) (IR (.inl U) lUB λx b M=>Q x (F x b) (oIn x M))))).t ?_;refine(ux (wW (ur (uu (y _) U) (IR (.inr U) lUB λx b=>R x (F x b))))).t ?_;exact wW (ur U (IR (.inl U) (by omega) λx b N=>S x (bIn x b) (uIn x N)))
def yN(T:List Th):Str:=((T.filter λt=>decide (t.k=.you)).map Th.n).headD ""
structure fh(T:List Th)(M:List Mk)(dk:aB)(W:List Wy):Prop where
 len:T.length<=13
 r1:1<=(T.filter λt=>decide (t.k=.room)).length
 r5:(T.filter λt=>decide (t.k=.room)).length<=5
 y1:(T.filter λt=>decide (t.k=.you)).map Th.n=[yN T]
 p7:(T.filter λt=>t.k.pl).length<=7
 m4:M.length<=4
 mo:∀m∈M,m.ok
 nm:∀x∈T.map Th.n++M.map Mk.n,Nm x
 nd:(T.map Th.n++M.map Mk.n).Nodup
 st:∀t∈T,Fk T t
 rk:∃r,N4 T r
 wd:∀t∈T,yG [.cx (t.w.map D.str)]=Z (.I γ)
 wa:∀t∈T,∀u∈T,t.k.pl=γ->u.k.pl=γ->u.n≠t.n->O9 u t
 wl:∀t∈T,t.k.pl=γ->t.w.length<=3/\∀x∈t.w,x∈wpL
 d0:dk.length<=5
 d1:dk.Nodup
 d2:∀x∈dk,x∈i2 T
 w8:W.length<=8
 wo:∀w∈W,N5 T M w
 wn:(W.map λw=>[w.r,w.w]).Nodup
section
variable{T:List Th}{M:List Mk}{dk:aB}{W:List Wy}
def fh.Xi(g:fh T M dk W):(T.map Th.n).Nodup:=(cq.1 g.nd).1
def DU(T:List Th)(M:List Mk)(a:T.length<=200)(hM:M.length<=4):x9 [TD T,MD M]=Z ((tz T M).map D.str):=by
 let b:aU:=[.q (TD T),.q (MD M)];have h:=cp (λt:Th=>t.k.mk) T;refine(D5 U (w9 (vK (u4 (wt fg (λt=>D.str t.n) (λt=>t.k.mk) T U (by omega) λt z=>⟨[.q (fg t)],[.q (fg t)],U,u6 (vx U U U U (O7 t)),λz=>⟨_,u5 U (Av t),U⟩,λz=>U⟩))
  (u4 (wu H4 (λt=>D.str t.n) M U (by omega) λt z=>⟨_,_,U,u5 U (Lh t),U⟩)) (by rw[af,af];omega)))).t ?_
 unfold tz;rw[aZ,aW,aW];rfl
def IV(g:fh T M dk W){m:Nat}(c:m<64):Ap [TD T,MD M,.b0 (dk.map D.str),WD W,VD (vL m),VD v9]=Z .E:=by
 have j:=g.len;have a:=g.m4;have hdk:dk.length<=1000:=by have:=g.d0;omega
 have f:(T.filter λt=>decide (t.k=.you)).length=1:=by have:=bL cX g.y1;rw[af]at this;exact this
 obtain⟨r,d⟩:=g.rk;let h:aU:=[.q (TD T),.q (MD M),.q (.b0 (dk.map D.str)),.q (WD W),.q (VD (vL m)),.q (VD v9),.un];let b:aU:=[.q (TD T),.q (MD M),.q (.b0 (dk.map D.str)),.q (WD W),.q (VD (vL m)),.q (VD v9),.q (.b0 ((i2 T).map D.str))];refine Bf (ρ:=b) U ?_;unfold Ao;refine(ux (wQ (ur U (G7 T (by omega) g.r1 g.r5 f g.p7)))).t ?_;refine(ux (wQ (ur U (IM M g.m4 g.mo)))).t ?_;refine(ux (wQ (ur U (IP T M (by omega) (by omega) g.nm g.nd)))).t ?_;refine(ux (wQ (ur U (G8 T (by omega) g.Xi r d g.st)))).t ?_;refine(ux (wQ (ur U (IQ T (by omega) g.wd g.wa)))).t ?_;refine(ux ((vP (u4 (MG T (by omega) U))))).t ?_;refine(ux (wQ (ur U (Jx dk (i2 T) hdk g.d1 g.d2)))).t ?_;refine(ux (wQ (ur (uu U (uu U (uu (u4 (ur U (DU T M (by omega) a))) U))) (Jz g.w8 g.wo g.wn)))).t ?_;refine(ux (wQ (ur U (IS c)))).t ?_;refine wQ (ur (uu U (uu U (uu ((u4 (vK (ρ1:=b) U U ?_)).t (by rw[<-aZ])) U))) (IU (by omega) g.wl g.w8 (λw e=>(g.wo w e).hw) c));have:=Em m;rw[af,af];show (vL m).length+9<=1000;omega
def N6(T:List Th)(m:T.length<=900)(f:(T.map Th.n).Nodup):FZ [TD T]=Z (.J (nK T) (T.map fg)):=by
 obtain⟨h,d⟩:=AZ (g:=gN 2) (i:=1) (fk:=c1 (uC uN "name") ak) (fv:=cV 2) fg Th.n fg (λb a s=>[.q (TD T),.dk b a,s])
  (λt b a s=>⟨[.q (TD T),.dk b a,.q (fg t)],U,U,U,u5 U (Av t),λe c=>⟨_,U⟩⟩) T [] [] .un (by rw[cu];exact Tz f) (by simp;omega) U
 refine uI (ρ:=[.q (TD T),.q (.J (nK T) (T.map fg)),h]) U ?_;unfold FY;refine(ux U).t ?_;refine(ux ((xY U).t d)).t ?_;rw[cu,cu];rfl
def mP(T:List Th)(M:List Mk):List (Str×Int):=(T.filter λt=>t.k.mk).map (λt=>(t.n,1))++M.map λm=>(m.n,m.mo)
def N7(T:List Th)(M:List Mk):(mP T M).map c7=tz T M:=by unfold mP tz;rw[aZ,aW,aW];rfl
def WI(m:Mk):uC zu "most" (H4 m)=Z (.int m.mo):=rfl
theorem F6{a b e:Sl}:∀(l:List Th) (c:List ey) (d:List L4.D) (s:Sl),(c++(l.filter λt=>t.k.mk).map λt=>kS t.n).Nodup->c.length+l.length<=900->d.length=c.length->
  ∃j,j0 (gN 3) (fc (cT (vd wB "has_mark" av uQ)) (yp 2 (c1 (uC uN "name") av) ay) uD) (l.map fg) [a,b,.dk c d,s,e]=Z (.nx [a,b,.dk (c++(l.filter λt=>t.k.mk).map λt=>kS t.n) (d++(l.filter λt=>t.k.mk).map λx=>.int 1),j,e])
 |[],c,d,s,_,_,_=>⟨s,by simp;rfl⟩
 |t::l,c,d,s,f,u,o=>by
  rw[aP]at u;let r:aU:=[a,b,.dk c d,.q (fg t),e];have m:cT (vd wB "has_mark" av uQ) r=Z (t.k.mk,r):=u6 (vx U U U U (O7 t));rw[aS];unfold j0;rw[show gN 3 (fg t) [a,b,.dk c d,s,e]=Z r from U];cases h:t.k.mk with
  |true=>
   rw[h]at m;rw[kF (p:=λt:Th=>t.k.mk) h,aS]at f;rw[kF (p:=λt:Th=>t.k.mk) h];have w:kS t.n∉c:=λz=>by rw[cq]at f;exact f.2.2 _ z _ aY U
   obtain⟨j,q⟩:=F6 l (c++[kS t.n]) (d++[.int 1]) (.q (fg t)) (by rw[b8];exact f) (by rw[aC,c4];omega) (by simp[o]);refine⟨j,?_⟩;simp only[(vv m).t (MI (i:=2) (fk:=c1 (uC uN "name") av) (fv:=cC (.int 1)) U U (u5 U (Av t)) w (by omega) o)];refine Eq.t q ?_;rw[b8,b8];rfl
  |false=>rw[h]at m;rw[nN (by rw[h];exact bE)]at f ⊢;obtain⟨j,q⟩:=F6 l c d (.q (fg t)) f (by omega) o;refine⟨j,?_⟩;simp only[vE m,uD];exact q
def mD(T:List Th)(M:List Mk):L4.D:=.J ((mP T M).map λq=>kS q.1) ((mP T M).map λq=>.int q.2)
def fh.ndK(g:fh T M dk W):(tz T M).Nodup:=by unfold tz;have h:=cq.1 g.nd;refine cq.2 ⟨uf (kR.map _) h.1,h.2.1,λx b y c=>h.2.2 x ?_ y c⟩;obtain⟨t,a,rfl⟩:=aG.1 b;exact bZ (bb.1 a).1
def XJ(g:fh T M dk W):((mP T M).map λq=>kS q.1).Nodup:=by have:=AH g.ndK;rw[<-N7,aW]at this;exact this
def TJ(g:fh T M dk W):yS [TD T,MD M]=Z (mD T M):=by
 have d:=XJ g;have x:=g.len;have y:=g.m4;have f:(mP T M).map (λq=>kS q.1)=(T.filter λt=>t.k.mk).map (λt=>kS t.n)++M.map λm=>kS m.n:=by unfold mP;rw[aZ,aW,aW];rfl
 have b:(mP T M).map (λq=>D.int q.2)=(T.filter λt=>t.k.mk).map (λz=>D.int 1)++M.map λm=>D.int m.mo:=by unfold mP;rw[aZ,aW,aW];rfl
 rw[f]at d;have w:=cp (λt:Th=>t.k.mk) T;obtain⟨e,h⟩:=F6 T [] [] .un (by rw[cu];exact(cq.1 d).1) (by simp;omega) U;rw[cu,cu]at h;obtain⟨p,l⟩:=AZ (g:=gN 4) (i:=2) (fk:=c1 (uC uN "name") aX) (fv:=c1 (uC zu "most") aX) H4 Mk.n (λm=>.int m.mo) (λc a s=>[.q (TD T),.q (MD M),.dk c a,e,s])
  (λm c a s=>⟨[.q (TD T),.q (MD M),.dk c a,e,.q (H4 m)],U,u5 U (WI m),U,u5 U (Lh m),λo j=>⟨_,U⟩⟩) M ((T.filter λt=>t.k.mk).map λt=>kS t.n) ((T.filter λt=>t.k.mk).map λz=>.int 1) .un d (by rw[af];omega) (by rw[af,af])
 refine uI (ρ:=[.q (TD T),.q (MD M),.q (mD T M),e,p]) U ?_;unfold yR;refine(ux U).t ?_;refine(ux ((xY U).t h)).t ((ux ((xY U).t l)).t ?_);unfold mD;rw[f,b];rfl
def IW(T:List Th)(c:T.length<=1000)(a:aB)(fb:List L4.D)(k:Kd):B5 [.obj 14 ("kept_things" ::a) (TD T::fb),.str k.s]=Z (.b0 ((T.filter λt=>decide (t.k=k)).map λt=>D.str t.n)):=by let b:aU:=[.q (.obj 14 ("kept_things" ::a) (TD T::fb)),.q (.str k.s)];refine Cs (ρ:=b) U ?_;exact w9 (wt fg (λt=>D.str t.n) (λt=>decide (t.k=k)) T U c λt z=>⟨[.q (fg t),.q (.str k.s)],[.q (fg t),.q (.str k.s)],U,u6 (uv (u5 U (BO t)) U (Fi t.k k)),λz=>⟨_,u5 U (Av t),U⟩,λz=>U⟩)
end
def vwD(V:List Vb):L4.D:=.J (V.flatMap λv=>v.ws.map kS) (V.flatMap λv=>v.ws.map λz=>m5 v)
def abC:((az 64).map λm=>xE [VD (vL m++v9)])=(az 64).map λm=>Z (vwD (vL m++v9)):=by kernel_rfl
def adw{m:Nat}(a:m<64):xE [VD (vL m++v9)]=Z (vwD (vL m++v9)):=List.map_inj_left.1 abC m (bA.2 a)
theorem N8:∀V:List Vb,(V.flatMap λv=>v.ws.map kS).zip (V.flatMap λv=>v.ws.map λz=>m5 v)=V.flatMap λv=>v.ws.map λx=>(kS x,m5 v)
 |[]=>rfl
 |v::V=>by rw[iH,iH,iH,lG (by rw[af,af]),N8 V,mh]
def abD{V:List Vb}(b:(V.flatMap Vb.ws).Nodup){v:Vb}(a:v∈V):BX (vwD V) (.str v.n)=Z (m5 v):=by
 show Z ((wI (V.flatMap λv=>v.ws.map kS) (V.flatMap λv=>v.ws.map λz=>m5 v) (kS v.n)).getD .E)=_;rw[Ct]
 .rfl
 .have:=AH b;rw[pO]at this;exact this
 .rw[N8];exact dJ.2 ⟨v,a,aG.2 ⟨v.n,aY,U⟩⟩
def wNs:aB:=["kept_things", "kept_marks", "kept_dark", "kept_ways", "kept_verbs", "shared_verbs", "your_name", "things_by_name", "mosts_by_name", "verbs_by_word", "kept_rules", "shared_rules", "copied_rules", "rules_by_verb"]
def ij(T:List Th)(M:List Mk)(dk:aB)(W:List Wy)(V:List Vb):L4.D:=.obj 14 (wNs.take 10) [TD T,MD M,.b0 (dk.map D.str),WD W,VD V,VD v9,.str (yN T),.J (nK T) (T.map fg),mD T M,vwD (V++v9)]
def o?:aB:=["one", "two", "alone", "way"]
def xL:aB:="here" ::nmL
def abE:(o?.all λf=>xL.all λx=>isF (vy [.str f,.str x]))=γ:=by kernel_rfl
def Km{f x:Str}(a:f∈o?)(b:x∈xL):vy [.str f,.str x]=Z (.I δ):=Tx (aH.1 (aH.1 abE f a) x b)
def abF:(o?.all λf=>nmL.all λx=>isF (yt [.str f,.str x]))=γ:=by kernel_rfl
def XM{f x:Str}(a:f∈o?)(b:x∈nmL):yt [.str f,.str x]=Z (.I δ):=Tx (aH.1 (aH.1 abF f a) x b)
def TL{f:Str}(a:f∈o?):yt [.str f,.str "here"]=Z (.I γ):=BP (aH.1 (show (o?.all λf=>τ (yt [.str f,.str "here"]))=γ by kernel_rfl) f a)
def By(f x:Str):Prop:=(x="it" /\ f∈(["one", "two"]:aB))\/(x="other" /\ f="two")
def Lj{f x:Str}(h:By f x):vy [.str f,.str x]=Z (.I γ):=by
 rcases h with ⟨rfl,h⟩|⟨rfl,rfl⟩
 .exact BP (aH.1 (show ((["one", "two"]:aB).all λf=>τ (vy [.str f,.str "it"]))=γ by kernel_rfl) f h)
 .kernel_rfl
def Tm(f:Str)(N:aB)(x:Str):Prop:=x∈N\/x="here" \/ By f x
section
variable{T:List Th}{M:List Mk}{dk:aB}{W:List Wy}{V:List Vb}{f:Str}
def TM(g:fh T M dk W){t:Th}(h:t∈T):t.n∈nmL:=g.nm _ (bD _ (bZ h))
def adx(g:fh T M dk W){t:Th}(h:t∈T):xu [ij T M dk W V,.str t.n]=Z (fg t):=by
 have e:xu [ij T M dk W V,.str t.n]=Z ((wI (nK T) (T.map fg) (kS t.n)).getD .E):=by kernel_rfl
 rw[e,Hn g.Xi fg h];rfl
def ady(g:fh T M dk W){q:Str×Int}(h:q∈mP T M):yU [ij T M dk W V,.str q.1]=Z (.int q.2):=by
 have e:yU [ij T M dk W V,.str q.1]=Z ((wI ((mP T M).map λq=>kS q.1) ((mP T M).map λq=>.int q.2) (kS q.1)).getD .E):=by kernel_rfl
 rw[e,Ct (XJ g)]
 .rfl
 .rw[mh];exact bZ h
def MK{c:FT}{e b:FE}{ρ a:aU}(h:c ρ=Z (γ,a)):u2 c e b ρ=e a:=by unfold u2;rw[h]
def nmd(g:fh T M dk W){t:Th}(h:t∈T):z5 [ij T M dk W V,.str t.n]=Z (fg t):=by let a:aU:=[.q (ij T M dk W V),.q (.str t.n)];refine uI (ρ:=a) U (uT ?_);refine(MK U).t ?_;exact vx U U U U (adx g h)
def BQ(g:fh T M dk W)(a:f∈o?){x:Str}(h:Tm f (T.map Th.n) x):AS [ij T M dk W V,.str f,.str x]=Z (.I γ):=by
 let c:aU:=[.q (ij T M dk W V),.q (.str f),.q (.str x)];refine uI (ρ:=c) U (uT ?_);rcases h with h|rfl|h
 .obtain⟨t,b,rfl⟩:=aG.1 h;refine(Fl (ur U (Km a (ba _ (TM g b))))).t ((Fl (ur U (XM a (TM g b)))).t ?_);exact uv (ur U (nmd g b)) U U
 .exact(Fl (ur U (Km a aY))).t (Li (ur U (TL a)))
 .exact Li (ur U (Lj h))
def hd_T{x:Str}(h:x∈rz T):∃t∈T,t.n=x/\t.k.hd=γ:=by obtain⟨t,a,rfl⟩:=aG.1 h;exact⟨t,(bb.1 a).1,U,(bb.1 a).2⟩
def TN{c b:FT}{ρ a:aU}(d:c ρ=Z (γ,a)):wH c b ρ=Z (γ,a):=by unfold wH;rw[d]
def GZ(g:fh T M dk W)(b:f∈o?){x:Str}(h:Tm f (rz T) x):Bt [ij T M dk W V,.str f,.str x]=Z (.I γ):=by
 let c:aU:=[.q (ij T M dk W V),.q (.str f),.q (.str x)];refine uI (ρ:=c) U ?_;unfold Eh;rcases h with h|rfl|h
 .obtain⟨t,d,rfl,j⟩:=hd_T h;refine(ux ((vE (xX (u6 (ur U (Km b (ba _ (TM g d))))) (u6 (ur U (XM b (TM g d)))))))).t (uT ?_);have e:=nmd (V:=V) g d;refine(uX (uv (ur U e) U U)).t ?_;have i:=vx (g:=vQ) (m:="can_hold") (a:=uQ) (ur (a:=ax aa cD) (ρ:=c) U e) U U U (O6 t);rw[j]at i;exact i
 .exact uZ ((vv (xX (u6 (ur U (Km b aY))) (u6 (ur U (TL b))))))
 .exact uZ ((vv (TN (u6 (ur U (Lj h))))))
def XN(g:fh T M dk W){t:Th}(h:t∈T)(k:Kd):y9 [ij T M dk W V,.str t.n,.str k.s]=Z (.I (decide (t.k=k))):=by let a:aU:=[.q (ij T M dk W V),.q (.str t.n),.q (.str k.s)];refine uI (ρ:=a) U (uT ?_);have e:=nmd (V:=V) g h;exact(uX (uv (ur U e) U U)).t (uv (u5 (ur U e) (BO t)) U (Fi t.k k))
def Mv(T:List Th)(f x:Str):Prop:=(∃t∈T,t.n=x/\t.k≠.room)\/By f x
def ML(g:fh T M dk W)(c:f∈o?){x:Str}(h:Mv T f x):Ej [ij T M dk W V,.str f,.str x]=Z (.I γ):=by
 let b:aU:=[.q (ij T M dk W V),.q (.str f),.q (.str x)];refine uI (ρ:=b) U ?_;unfold Ei;rcases h with ⟨t,a,rfl,d⟩|h
 .refine(ux ((vE (u6 (ur U (Km c (ba _ (TM g a)))))))).t (uT ?_);refine(uX (uv (ur U (nmd g a)) U U)).t ((Pb (ur U (XN g a .room))).t ?_);rw[aR d];rfl
 .exact uZ ((vv (u6 (ur U (Lj h)))))
def Mt(T:List Th)(M:List Mk)(f:Str)(q:Str×Int):Prop:=q∈mP T M\/(By f q.1/\q.2<=3)
def TQ(g:fh T M dk W){q:Str×Int}(h:q∈mP T M):q.1∈nmL:=by
 refine g.nm _ ?_;have a:q.1∈tz T M:=by rw[<-N7];exact bZ h
 rcases bq.1 a with a|a
 .obtain⟨t,b,e⟩:=aG.1 a;exact bD _ (by rw[<-e];exact bZ (bb.1 b).1)
 .exact bG _ a
def DV(g:fh T M dk W)(j:f∈o?){q:Str×Int}(h:Mt T M f q){v:Int}(m:0<=v)(i:v<=q.2):xH [ij T M dk W V,.str f,.str q.1,.int v]=Z (.I γ):=by
 let a:aU:=[.q (ij T M dk W V),.q (.str f),.q (.str q.1),.q (.int v),.un];have d:cT (c2 NA av aw) a=Z (δ,a):=by show Z (decide (v<0),a)=_;rw[aR (by omega)]
 have c:fc (wH (vZ (cT (uw zy il))) (cT (c2 NA av aw))) (uy cj) uD a=Z (.nx a):=(vE (xX (zR (b:=γ) (u6 (ur U (by kernel_rfl)))) d));rcases h with h|⟨h,o⟩
 .let l:aU:=[.q (ij T M dk W V),.q (.str f),.q (.str q.1),.q (.int v),.q (.int q.2)];refine uI (ρ:=l) U ?_;unfold xG;refine(ux c).t ((ux ((vE (u6 (ur U (Km j (ba _ (TQ g h)))))))).t ?_);have e:u2 (cT (c1 (vz (v7 "str")) ak)) (vd yz "most_of" aa cD) bf a=Z (.int q.2,a):=by refine(MK U).t ?_;exact vx U U U U (ady g h)
  refine(ux ((vP e))).t (uT ((uX U).t (O8 U U i)))
 .refine uI (ρ:=a) U ?_;unfold xG;refine(ux c).t (uZ ((vv (u6 (ur U (Lj h)))).t (uT (O8 U U (by omega)))))
def atO(a b:Str):L4.D:=.obj 3 ["term", "place"] [.str a,.str b]
def hsO(a:Str):L4.D:=.obj 4 ["term"] [.str a]
def seO(a:Str):L4.D:=.obj 5 ["term"] [.str a]
def mkO(a:Str)(v:Int):L4.D:=.obj 6 ["term", "value"] [.str a,.int v]
def kiO(a k:Str):L4.D:=.obj 7 ["term", "kind"] [.str a,.str k]
def woO(a:Str):L4.D:=.obj 8 ["word"] [.str a]
def noO(d:L4.D):L4.D:=.obj 9 ["inner"] [d]
def boO(d e:L4.D):L4.D:=.obj 10 ["one", "other"] [d,e]
def mvO(a b:Str):L4.D:=.obj 11 ["term", "place"] [.str a,.str b]
def puO(a:Str)(v:Int):L4.D:=.obj 12 ["term", "value"] [.str a,.int v]
def liO:L4.D:=.obj 15 [] []
def Tk(w:L4.D)(f:Str)(n:Nat)(d:L4.D):Prop:=vl 16 14 d=γ/\∀j:Nat,n<j->j<=4->xR j [w,.str f,d,.int j]=Z (.I γ)
def TR{w:L4.D}{a b:Sl}(j:Nat):fc (cT (c2 (er δ) av aw)) (uy cj) uD [.q w,a,b,.q (.int ((j+1:Nat):Int))]=Z (.nx [.q w,a,b,.q (.int ((j+1:Nat):Int))]):=
 (vE (u6 (uv U U ((xb δ _ 0).t (by rw[aR (by omega:¬((j+1:Nat):Int)=0)];rfl)))))
def xN{w d:L4.D}{n:Nat}(b:vz To d=Z (.I δ))(c:vz NY d=Z (.I δ))(e:vl 16 14 d=γ)(h:yV [w,.str f,d]=Z (.I γ)):Tk w f n d:=⟨e,λj i z=>by
 obtain⟨j,rfl⟩:∃k,j=k+1:=⟨j - 1,by omega⟩;let a:aU:=[.q w,.q (.str f),.q d,.q (.int ((j+1:Nat):Int))];refine uI (ρ:=a) U ?_;unfold xQ;exact(ux (TR j)).t ((ux ((vE (u6 (u5 U b))))).t ((ux ((vE (u6 (u5 U c))))).t (uT (ur U h))))⟩
def sub1{ρ:aU}{j:Nat}(h:cV 3 ρ=Z (.int ((j+1:Nat):Int),ρ)):c2 DD av ay ρ=Z (.int j,ρ):=(uv h U U).t (by
 show Z (D.int (((j+1:Nat):Int) - 1),ρ)=_;rw[show ((j+1:Nat):Int) - 1=j by omega])
def TU{w d:L4.D}{n:Nat}(h:Tk w f n d):Tk w f (n+1) (noO d):=⟨by
 have e:vl 16 14 (noO d)=(vl 16 14 d&&γ):=by kernel_rfl
 rw[e,h.1];rfl,λj c b=>by
 obtain⟨j,rfl⟩:∃k,j=k+1:=⟨j - 1,by omega⟩;let a:aU:=[.q w,.q (.str f),.q (noO d),.q (.int ((j+1:Nat):Int))];refine uI (ρ:=a) U ?_;unfold xQ;refine(ux (TR j)).t (uZ ((vv U).t (uT ?_)));exact ur (uu U (uu U (uu U (uu (sub1 U) U)))) (h.2 j (by omega) (by omega))⟩
def QI{w d e:L4.D}{n:Nat}(h:Tk w f n d)(b:Tk w f n e):Tk w f (n+1) (boO d e):=⟨by
 have q:vl 16 14 (boO d e)=(vl 16 14 d&&(vl 16 14 e&&γ)):=by kernel_rfl
 rw[q,h.1,b.1];rfl,λj l i=>by
 obtain⟨j,rfl⟩:∃k,j=k+1:=⟨j - 1,by omega⟩;let a:aU:=[.q w,.q (.str f),.q (boO d e),.q (.int ((j+1:Nat):Int))];refine uI (ρ:=a) U ?_;unfold xQ;refine(ux (TR j)).t ((ux ((vE U))).t (uZ ((vv U).t (uT ((uX (ρ1:=a) ?_).t ?_)))))
 .exact ur (uu U (uu U (uu U (uu (sub1 U) U)))) (h.2 j (by omega) (by omega))
 .exact ur (uu U (uu U (uu U (uu (sub1 U) U)))) (b.2 j (by omega) (by omega))⟩
end
section
variable{T:List Th}{M:List Mk}{dk:aB}{W:List Wy}{V:List Vb}{f:Str}{n:Nat}
def adz(g:fh T M dk W)(c:f∈o?){a b:Str}(e:Tm f (T.map Th.n) a)(h:Tm f (rz T) b):Tk (ij T M dk W V) f n (atO a b):=xN U U U (by
 let d:aU:=[.q (ij T M dk W V),.q (.str f),.q (atO a b)];refine uI (ρ:=d) U ?_;unfold vI;exact uZ ((vv U).t (uT ((uX (ur U (BQ g c e))).t (ur U (GZ g c h))))))
def wx{c:FT}{e:FS}{ρ:aU}{h:FS}(q:c ρ=Z (δ,ρ)):bt (fc c e uD) h ρ=h ρ:=ux ((vE q))
def abH(g:fh T M dk W)(d:f∈o?){a:Str}(c:Tm f (T.map Th.n) a):Tk (ij T M dk W V) f n (hsO a):=xN U U U (by
 let b:aU:=[.q (ij T M dk W V),.q (.str f),.q (hsO a)];refine uI (ρ:=b) U ?_;unfold vI;exact(wx U).t (uZ ((vv U).t (uT (ur U (BQ g d c))))))
def WJ(g:fh T M dk W)(d:f∈o?){a:Str}(c:Tm f (T.map Th.n) a):Tk (ij T M dk W V) f n (seO a):=xN U U U (by
 let b:aU:=[.q (ij T M dk W V),.q (.str f),.q (seO a)];refine uI (ρ:=b) U ?_;unfold vI;exact(wx U).t (uZ ((vv U).t (uT (ur U (BQ g d c))))))
def WK(g:fh T M dk W)(d:f∈o?){q:Str×Int}(h:Mt T M f q){v:Int}(b:0<=v)(c:v<=q.2):Tk (ij T M dk W V) f n (mkO q.1 v):=xN U U U (by
 let a:aU:=[.q (ij T M dk W V),.q (.str f),.q (mkO q.1 v)];refine uI (ρ:=a) U ?_;unfold vI;exact(wx U).t ((wx U).t (uZ ((vv U).t (uT (ur U (DV g d h b c)))))))
def WL(g:fh T M dk W)(e:f∈o?){a k:Str}(d:Tm f (T.map Th.n) a)(h:k∈(["plain", "fixed", "box", "lamp", "room", "you"]:aB)):Tk (ij T M dk W V) f n (kiO a k):=xN U U U (by
 let b:aU:=[.q (ij T M dk W V),.q (.str f),.q (kiO a k)];refine uI (ρ:=b) U ?_;unfold vI;have c:vb [.str k,Dp]=Z (.I γ):=BP (aH.1 (show ((["plain", "fixed", "box", "lamp", "room", "you"]:aB).all λx=>τ (vb [.str x,Dp]))=γ by kernel_rfl) k h);exact(wx U).t ((wx U).t ((wx U).t (uZ ((vv U).t (uT ((uX (ur U (BQ g e d))).t (ur U c))))))))
def WM{w:L4.D}{x:Str}(c:x∈O'):Tk w "way" n (woO x):=xN U U U (by
 let a:aU:=[.q w,.q (.str "way"),.q (woO x)];refine uI (ρ:=a) U ?_;unfold vI;have b:wz [.str x]=Z (.I γ):=BP (aH.1 (show (O'.all λx=>τ (wz [.str x]))=γ by kernel_rfl) x c);exact(wx U).t ((wx U).t ((wx U).t ((wx U).t (uZ ((vv U).t (uT ((uX U).t (ur U b)))))))))
def abI{w:L4.D}:Tk w f n liO:=xN U U U (by kernel_rfl)
def Dd(w:L4.D)(f:Str)(d:L4.D):Prop:=vl 16 14 d=γ/\F3 [w,.str f,d]=Z (.I γ)
def TV(g:fh T M dk W)(d:f∈o?){q:Str×Int}(h:Mt T M f q){v:Int}(b:0<=v)(c:v<=q.2):Dd (ij T M dk W V) f (puO q.1 v):=⟨U,by
 let a:aU:=[.q (ij T M dk W V),.q (.str f),.q (puO q.1 v)];refine uI (ρ:=a) U ?_;unfold Ds;exact uZ ((vv U).t (uT (ur U (DV g d h b c))))⟩
def Pg(g:fh T M dk W)(i:f∈o?){a b:Str}(m:Mv T f a)(o:Tm f (rz T) b)(p:a=(yN T)->∃t∈T,t.n=b/\t.k=.room):Dd (ij T M dk W V) f (mvO a b):=⟨U,by
 let c:aU:=[.q (ij T M dk W V),.q (.str f),.q (mvO a b)];have e:F2 [ij T M dk W V,.str f,mvO a b]=Z (.I γ):=by
  refine uI (ρ:=c) U ?_;unfold F1;refine(wx (xX (zR (u6 (ur U (ML g i m)))) (zR (u6 (ur U (GZ g i o)))))).t (uT ?_);have d:c2 (er γ) (c1 (uC Cw "term") ak) (vd AR "you" aa uQ) c=Z (.I (!decide (a=(yN T))),c):=uv U U (wj γ a (yN T));by_cases h:a=(yN T)
  .obtain⟨t,q,j,l⟩:=p h;rw[aT h]at d;refine(Fl d).t (ur (ds:=[ij T M dk W V,.str b,.str Kd.room.s]) U ?_);rw[<-j,XN g q .room,aT l]
  .rw[aR h]at d;exact Li d
 refine uI (ρ:=c) U ?_;unfold Ds;exact(wx U).t (uT ((uX U).t (ur U e)))⟩
end
def gl:List ey->List (List L4.D)->ey->List L4.D
 |k::b,a::dss,j=>if k=j then a else gl b dss j
 |_,_,_=>[]
theorem TX{d:L4.D}{k j:ey}:∀(a:List ey) (dss:List (List L4.D)),a.length=dss.length->(k=j->k∈a)->gl a (eJ (λi c=>if i=k then c++[d]else c) a dss) j=gl a dss j++if k=j then [d]else []
 |[],[],_,f=>by rw[aj λh=>(by cases f h)];rfl
 |[],_::_,h,_=>by cases h
 |_::_,[],h,_=>by cases h
 |k0::a,c::dss,h,f=>by
  rw[iw];unfold gl;by_cases e:k0=j
  .subst e;rw[ah U,ah U];by_cases b:k0=k
   .rw[ah b,ah b.symm]
   .rw[aj b,aj λz=>b z.symm,b9]
  .rw[aj e,aj e];exact TX a dss (by simpa using h) λz=>by
    rcases aO.1 (f z)with y|y
    .exact ar (y.symm.t z) e
    .exact y
theorem TY{d:L4.D}{k j:ey}:∀(a:List ey) (dss:List (List L4.D)),a.length=dss.length->k∉a->gl (a++[k]) (dss++[[d]]) j=gl a dss j++if k=j then [d]else []
 |[],[],_,_=>rfl
 |[],_::_,h,_=>by cases h
 |_::_,[],h,_=>by cases h
 |k0::a,c::dss,h,b=>by
  rw[jG,jG];unfold gl;by_cases e:k0=j
  .rw[ah e,ah e,aj λz=>b (by rw[z,e];exact aY),b9]
  .rw[aj e,aj e];exact TY a dss (by simpa using h) λz=>b (ba _ z)
theorem TZ{d:L4.D}{k:ey}{P Q:List L4.D->Prop}(e:∀a,P a->Q a)(f:∀a,P a->Q (a++[d])):∀(c:List ey) (dss:List (List L4.D)),(∀a∈dss,P a)->∀x∈eJ (λi a=>if i=k then a++[d]else a) c dss,Q x
 |[],_,_,x,b=>by cases b
 |_::_,[],_,x,b=>by cases b
 |k0::c,a::dss,h,x,b=>by
  rw[iw]at b;rcases aO.1 b with rfl|b
  .have:=h a aY;split
   .exact f _ this
   .exact e _ this
  .exact TZ e f c dss (λa hd=>h a (ba _ hd)) x b
theorem IY{d:L4.D}(hd:vl 16 14 d=γ):∀a:List L4.D,yM 16 14 a=γ->yM 16 14 (a++[d])=γ
 |[],_=>by rw[cu];unfold yM;rw[hd];rfl
 |x::a,h=>by rw[jG];unfold yM at h ⊢;rw[aQ]at h ⊢;exact⟨h.1,IY hd a h.2⟩
theorem A0:∀a:List L4.D,(∀d∈a,vl 16 14 d=γ)->yM 16 14 a=γ
 |[],_=>by unfold yM;rfl
 |x::a,h=>by unfold yM;rw[aQ];exact⟨h x aY,A0 a λd hd=>h d (ba _ hd)⟩
def kv(d:L4.D):ey:=match uC x4 "verb" d with
 |some x=>(AF x).getD (.inl 0)
 |none=>.inl 0
def gK(d:L4.D):Bool:=(match uC x4 "verb" d with
 |some x=>(AF x).isSome
 |none=>δ)&&vl 16 14 d
set_option tactic.hygienic true
def adA{d:L4.D}(h:gK d=γ):∃x,uC x4 "verb" d=Z x/\AF x=Z (kv d):=by
 unfold gK at h;rw[aQ]at h;obtain⟨h,_⟩:=h;unfold kv;split at h
 .rename_i x e;rw[e];cases a:AF x with
  |none=>rw[a]at h;cases h
  |some y=>exact⟨x,U,a⟩
 .cases h
set_option tactic.hygienic false
theorem T2:∀(L:List L4.D) (b:List ey) (dss:List (List L4.D)),(∀d∈L,gK d=γ)->b.length=dss.length->b.length+L.length<1000->(∀a∈dss,a.length+L.length<1000/\yM 16 14 a=γ)->
  ∃e dss',Cq (uC x4 "verb") L b dss=Z (e,dss')/\(∀j,gl e dss' j=gl b dss j++L.filter λd=>decide (kv d=j))/\∀a∈dss',yM 16 14 a=γ
 |[],b,dss,_,_,_,h=>⟨b,dss,U,λj=>by rw[List.filter_nil,b9],λa hd=>(h a hd).2⟩
 |d::L,b,dss,i,f,p,h=>by
  rw[aP]at p;have hL:∀a∈dss,a.length+L.length+1<1000/\yM 16 14 a=γ:=λa hd=>⟨by have:=(h a hd).1;rw[aP]at this;omega,(h a hd).2⟩;have gd:=i d aY;have l:vl 16 14 d=γ:=by unfold gK at gd;rw[aQ]at gd;exact gd.2
  obtain⟨x,m,o⟩:=adA gd;have st:(Bc b dss (kv d) d).1.length=(Bc b dss (kv d) d).2.length/\(Bc b dss (kv d) d).1.length+L.length<1000/\(∀a∈(Bc b dss (kv d) d).2,a.length+L.length<1000/\yM 16 14 a=γ)/\∀j,gl (Bc b dss (kv d) d).1 (Bc b dss (kv d) d).2 j=gl b dss j++if kv d=j then [d]else []:=by
   unfold Bc;by_cases c:Jq b (kv d)=γ
   .rw[ah c];refine⟨by simp only[kP];omega,by simp only;omega,TZ (λa h=>⟨by omega,h.2⟩) (λa h=>⟨by rw[aC,c4];omega,IY l a h.2⟩) b dss hL,λj=>TX b dss f λv=>EO.1 c⟩
   .rw[aj c];refine⟨by simp[f],by simp only[aC,c4];omega,λa hd=>?_,λj=>TY b dss f λz=>c (EO.2 z)⟩;rcases bq.1 hd with hd|hd
    .exact⟨by have:=(hL a hd).1;omega,(hL a hd).2⟩
    .rw[bT.1 hd];exact⟨by simp only[c4];omega,IY l [] (by unfold yM;rfl)⟩
  obtain⟨w,y,A,B⟩:=st;obtain⟨e,dss',r,t,u⟩:=T2 L (Bc b dss (kv d) d).1 (Bc b dss (kv d) d).2 (λx q=>i x (ba _ q)) w y A;refine⟨e,dss',?_,λj=>?_,u⟩
  .unfold Cq;simp only[m,o];rw[ah]
   .exact r
   .rw[aQ];refine⟨aT (by omega),aH.2 λa hd=>aT (by have:=(hL a hd).1;omega)⟩
  .rw[t j,B j,iJ,b8];by_cases c:kv d=j
   .simp[c]
   .simp[c]
def ruN:aB:=["verb", "tests", "deeds", "text", "refuses"]
def ruO(v:Str)(c a:List L4.D)(tx:Str)(b:Bool):L4.D:=.obj 13 ruN [.str v,.b0 c,.b0 a,.str tx,.I b]
structure RuOk(w d:L4.D):Prop where
 r:F5 [w,d]=Z (.I γ)
 g:gK d=γ
 c:F0 [d]=Z d
section
variable{T:List Th}{M:List Mk}{dk:aB}{W:List Wy}{V:List Vb}{f:Str}{es:List L4.D}
def N9(b:((V++v9).flatMap Vb.ws).Nodup){v:Vb}(a:v∈V++v9):xF [ij T M dk W V,.str v.n]=Z (m5 v):=by
 have e:xF [ij T M dk W V,.str v.n]=BX (vwD (V++v9)) (.str v.n):=by kernel_rfl
 rw[e,abD b a]
def WN(x:∀v∈V,v∈v6)(B:((V++v9).flatMap Vb.ws).Nodup){v:Vb}(c:v∈V++v9){a ds:List L4.D}(m:∀t∈a,Tk (ij T M dk W V) v.f 2 t)(lt:a.length<=3)(hd:∀d∈ds,Dd (ij T M dk W V) v.f d)(ld:ds.length<=3){i:Bool}(y:i=γ->ds=[]){tx:Str}(A:AU [.str tx]=Z (.I γ)):RuOk (ij T M dk W V) (ruO v.n a ds tx i):=by
 let w:=ij T M dk W V;let r:=ruO v.n a ds tx i;have l:v∈v6++v9:=by
  rcases bq.1 c with c|c
  .exact bD _ (x v c)
  .exact bG _ c
 have evo:=N9 (T:=T) (M:=M) (dk:=dk) (W:=W) B c;have u:zI [w,.str v.n]=Z (.I γ):=by let j:aU:=[.q w,.q (.str v.n)];have C:xt [.str v.n]=Z (.I γ):=BP (aH.1 (show ((v6++v9).all λv=>τ (xt [.str v.n]))=γ by kernel_rfl) v l);have mt:vd wq "verb_of" aa cE j=Z (m5 v,j):=vx U U U U evo;refine uI U (uT ((uX (ur U C)).t ((uX (uv mt U U)).t (uv (u5 mt U) U ?_))));rw[wj];simp
 refine⟨?_,?_,by kernel_rfl⟩
 .let j:aU:=[.q w,.q r,.un];let E:aU:=[.q w,.q r,.q (.str v.f)];refine uI (ρ:=E) U ?_;unfold F4;refine(wx (xX U (xX (zR (u6 (ur U u))) (zR (u6 (ur U A)))))).t ?_;refine(ux ((vP (u5 (z:=.str v.f) (vx U U U U evo) U)))).t (uT ?_);have o:CQ [w,.str v.f,.b0 a]=Z (.I γ):=uI U (uT ((uX (ur U (Pd _ _ (by omega)))).t (yg id a (by rw[hZ];rfl) (by omega) λt b=>⟨[.q t,.q w,.q (.str v.f)],[.q t,.q w,.q (.str v.f)],U,ur U ((m t b).2 4 (by decide) (by decide)),U⟩)));have p:CS [w,.str v.f,.b0 ds]=Z (.I γ):=uI U (uT ((uX (ur U (Pd _ _ (by omega)))).t (yg id ds (by rw[hZ];rfl) (by omega) λt b=>⟨[.q t,.q w,.q (.str v.f)],[.q t,.q w,.q (.str v.f)],U,ur U (hd t b).2,U⟩)));have q:yc [r]=Z (.I γ):=by
   cases i with
   |false=>kernel_rfl
   |true=>rw[show r=ruO v.n a [] tx γ from by show ruO v.n a ds tx γ=_;rw[y U]];kernel_rfl
  exact(uX (ur U o)).t ((uX (ur U p)).t (ur U q))
 .have e:gK r=(yM 16 14 a&&(yM 16 14 ds&&γ)):=by kernel_rfl
  rw[e,A0 a λt h=>(m t h).1,A0 ds λt h=>(hd t h).1];rfl
end
def wtL(u:Str)(w:Wy):List L4.D:=[atO u w.r,woO w.w]++match w.m with|none=>[]|some m=>[noO (mkO m 0)]
def goO(u:Str)(w:Wy):L4.D:=ruO "go" (wtL u w) [mvO u w.g] "You go." δ
def A21(u:Str):List L4.D:=(Bs [.str u]).getD []++(CJ []).getD []++(CK []).getD []++(Aq []).getD []
def SH(u:Str)(W:List Wy):List L4.D:=A21 u++(W.map (goO u)++[ruO "go" [] [] "No way there." γ])++[ruO "wait" [] [] "Time goes by." δ]
def adC(u:Str)(w:Wy):CL [.str u,ll w]=Z (wtL u w):=by obtain⟨r,x,g,m⟩:=w;cases m<;>kernel_rfl
def WO(u:Str)(w:Wy):zG [.str "go", .b0 (wtL u w),.b0 [mvO u w.g],.str "You go."]=Z (goO u w):=by kernel_rfl
def adD(u:Str)(W:List Wy)(c:W.length<=8):Eg [.str u,WD W]=Z (W.map (goO u)++[ruO "go" [] [] "No way there." γ]):=by
 let a:aU:=[.q (.str u),.q (WD W),.un];let b:aU:=[.q (.str u),.q (WD W),.q (.b0 (W.map (goO u)))];refine D5 (ρ:=b) U ?_;unfold Ef;refine(ux ((vP (u4 (wu ll (goO u) W U (by omega) λw z=>⟨[.q (ll w),.q (.str u)],[.q (ll w),.q (.str u)],U,?_,U⟩))))).t ?_
 .exact ur (uu U (uu (u4 (ur U (adC u w))) U)) (WO u w)
 .exact w9 (vK U (by kernel_rfl) (by rw[af];show W.length+1<=1000;omega))
def Ph(u:Str):(A21 u).length<=50:=bK (by kernel_rfl)
def abJ(u:Str){W:List Wy}(a:W.length<=8):(SH u W).length<=100:=by have:=Ph u;unfold SH;rw[aC,aC,aC,af];show (A21 u).length+(W.length+1)+1<=100;omega
def QJ(u:Str)(W:List Wy)(b:W.length<=8):zH [.str u,WD W]=Z (SH u W):=by
 have:=Ph u;let a:aU:=[.q (.str u),.q (WD W)];refine D5 (ρ:=a) U (w9 (vK (u4 (vK (ρ1:=a) (by kernel_rfl) (u4 (ur U (adD u W b))) ?_)) (by kernel_rfl) ?_))
 .rw[aC,af];show (A21 u).length+(W.length+1)<=1000;omega
 .rw[aC,aC,af];show (A21 u).length+(W.length+1)+1<=1000;omega
def XO(u:Str)(W:List Wy):∀d∈SH u W,gK d=γ:=λd hd=>by
 unfold SH at hd;rcases bq.1 hd with hd|hd
 .rcases bq.1 hd with hd|hd
  .exact aH.1 (show (A21 u).all gK=γ by kernel_rfl) d hd
  .rcases bq.1 hd with hd|hd
   .obtain⟨w,_,rfl⟩:=aG.1 hd;obtain⟨r,x,g,m⟩:=w;cases m<;>kernel_rfl
   .rw[bT.1 hd];kernel_rfl
 .rw[bT.1 hd];kernel_rfl
def abK{d:L4.D}(h:gK d=γ):vl 16 14 d=γ:=by unfold gK at h;rw[aQ]at h;exact h.2
section
variable{T:List Th}{M:List Mk}{dk:aB}{W:List Wy}{V:List Vb}{R:List L4.D}
def wA(T:List Th)(M:List Mk)(dk:aB)(W:List Wy)(V:List Vb)(R:List L4.D)(c:L4.D):List L4.D:=[TD T,MD M,.b0 (dk.map D.str),WD W,VD V,VD v9,.str (yN T),.J (nK T) (T.map fg),mD T M,vwD (V++v9),.b0 R,.b0 (SH (yN T) W),.b0 R,c]
def wS(T:List Th)(M:List Mk)(dk:aB)(W:List Wy)(V:List Vb)(R:List L4.D)(c:L4.D)(q:Sl)(k:Nat):aU:=[.ob 14 (wNs.take k) ((wA T M dk W V R c).take k),.q (TD T),.q (MD M),.q (.b0 (dk.map D.str)),.q (WD W),.q (VD V),.q (.b0 R),q]
def MM{e:FE}{d:L4.D}{b:aB}{a:List L4.D}{r:aU}{h:aU}(c:e (.q (.obj 14 b a)::r.map D6)=Z (d,h))(f:vl 16 14 d=γ):DF 16 e (.ob 14 b a::r)=Z (d,.ob 14 b a::r):=by unfold DF;simp only[c,f];rfl
def IZ{c:Str}{e:FE}{d:L4.D}{a:aB}{b:List L4.D}{r:aU}(f:e (.ob 14 a b::r)=Z (d,.ob 14 a b::r))(h:a.contains c=δ)(i:b.length=a.length)(j:a.length<900):ve 14 0 c e (.ob 14 a b::r)=Z (.nx (.ob 14 (a++[c]) (b++[d])::r)):=by unfold ve;rw[f];show (if 14=14 then if a.contains c=γ then O else if b.length=a.length then if a.length<900 then Z (F?.nx (.ob 14 (a++[c]) (b++[d])::r))else O else O else O)=_;rw[ah U,h,aj bE,ah i,ah j]
def Lk(V:List Vb)(lV:V.length<=6)(a b c d:L4.D)(f:aB)(e:List L4.D):z4 [.obj 14 ("kept_things" ::"kept_marks" ::"kept_dark" ::"kept_ways" ::"kept_verbs" ::"shared_verbs" ::f) (a::b::c::d::VD V::VD v9::e)]=Z (VD (V++v9)):=by refine(Cs U (w9 (vK U U (by rw[af];show V.length+9<=1000;omega)))).t ?_;rw[<-aZ]
def abL(b:∀v∈V,v∈v6):vl 16 14 (vwD (V++v9))=γ:=by
 show yM 16 14 _=γ;refine A0 _ λd hd=>?_;obtain⟨v,a,hd⟩:=dJ.1 hd;obtain⟨x,_,rfl⟩:=aG.1 hd;refine aH.1 (show ((v6++v9).all λv=>vl 16 14 (m5 v))=γ by kernel_rfl) v ?_;rcases bq.1 a with a|a
 .exact bD _ (b v a)
 .exact bG _ a
def T4(g:fh T M dk W){m:Nat}(l:m<64)(hR:∀r∈R,RuOk (ij T M dk W (vL m)) r)(lR:R.length<=12):∃b dss,za [TD T,MD M,.b0 (dk.map D.str),WD W,VD (vL m),.b0 R]=Z (wNs,wA T M dk W (vL m) R (.J b (dss.map .b0)))/\∀j,gl b dss j=(R++SH (yN T) W).filter λd=>decide (kv d=j):=by
 have z:=abJ (yN T) g.w8;have y:=g.len;let V:=vL m;have lV:V.length<=6:=Em m;have q:∀d∈R++SH (yN T) W,gK d=γ:=λd hd=>by
  rcases bq.1 hd with hd|hd
  .exact(hR d hd).g
  .exact XO (yN T) W d hd
 obtain⟨b,dss,o,p,g3⟩:=T2 (R++SH (yN T) W) [] [] q U (by rw[aC];simp only[fW];omega) λi h=>(by cases h);let c:L4.D:=.J b (dss.map .b0);refine⟨b,dss,?_,λj=>(p j).t (cu _)⟩;let B:Sl:=.q (.I γ);have w:vl 16 14 c=γ:=by show yM 16 14 (dss.map .b0)=γ;exact A0 _ λd hd=>by obtain⟨i,h,rfl⟩:=aG.1 hd;exact g3 i h
 let S:=wS T M dk W V R c;have e:yd (S .un 0)=Z (.nx (S B 14)):=by
  unfold yd;refine(ux (wQ (ur (uu U (uu U (uu U (uu U (uu U (uu (u4 (ur U TF)) U)))))) (IV g l)))).t ?_;refine(ux (ρ':=S .un 1) (by kernel_rfl)).t ((ux (ρ':=S .un 2) (by kernel_rfl)).t ((ux (ρ':=S .un 3) (by kernel_rfl)).t ((ux (ρ':=S .un 4) (by kernel_rfl)).t ((ux (ρ':=S .un 5) (by kernel_rfl)).t ((ux (ρ':=S .un 6) (by kernel_rfl)).t ?_)))));have eY:((T.filter λt=>decide (t.k=.you)).map λt=>D.str t.n)=[.str (yN T)]:=by rw[show (λt:Th=>D.str t.n)=D.str∘Th.n from U,<- aW,g.y1];rfl
  refine(ux (IZ (MM (uv (vx U U U U ((IW T (by omega) _ _ .you).t (by rw[eY]))) U U) U) U U (by decide))).t ?_;refine(ux (IZ (ur U (N6 T (by omega) g.Xi)) U U (by decide))).t ?_;refine(ux (IZ (ur U (TJ g)) U U (by decide))).t ?_;refine(ux (IZ (MM (ur (uu (vx U U U U (Lk V lV _ _ _ _ _ _)) U) (adw l)) (abL λv u=>El u)) U U (by decide))).t ?_;refine(ux ((vP (MM ((uX (ur U (Pd _ _ (by omega)))).t (yg id R (by rw[hZ];rfl) (by omega) λr f=>?_)) U)))).t ?_
  .exact⟨[.q r,.q (ij T M dk W V)],[.q r,.q (ij T M dk W V)],U,ur U (hR r f).r,U⟩
  refine(ux (ρ':=S B 10) (by kernel_rfl)).t ((ux (ρ':=S B 11) (by kernel_rfl)).t ?_);refine(ux (IZ (MM (u4 (ur U (QJ (yN T) W g.w8))) (A0 _ λd hd=>abK (XO (yN T) W d hd))) U U (by decide))).t ?_;refine(ux (IZ ((u4 (wu (ρ1:=S B 12) id id R (by rw[hZ];rfl) (by omega) λr f=>⟨[.q r],[.q r],U,ur U (hR r f).c,U⟩)).t (by rw[hZ];rfl)) U U (by decide))).t ?_;refine IZ (MM (ur (uu (u4 (vK U U (by omega))) U) ?_) w) U U (by decide);refine uI (ρ:=[.q (.b0 (R++SH (yN T) W)),.un,.un]) U ?_;show (match Cq (uC x4 "verb") (R++SH (yN T) W) [] []with
   |some (b,dss)=>Z (F?.rt (.J b (dss.map .b0)) [.q (.b0 (R++SH (yN T) W)),.un,.un])
   |none=>O)=_
  rw[o]
 unfold za sm;rw[ah (show [TD T,MD M,.b0 (dk.map D.str),WD W,VD V,.b0 R].length=6 from U)];rw[show yd (stI 14 8 [TD T,MD M,.b0 (dk.map D.str),WD W,VD V,.b0 R])=Z (.nx (S B 14)) from e];rfl
end
def W2{c d:Type}(x:Option (c×d))(k:c->d->Prop):Prop:=∃a b,x=Z (a,b)/\k a b
def Ws(x:Option F?)(n:aU->Prop)(r:L4.D->aU->Prop):Prop:=∃o,x=Z o/\match o with
 |.nx a=>n a
 |.rt d a=>r d a
 |.U l a=>r (.b0 l) a
 |_=>False
def uA{c d:Type}{x:Option (c×d)}{a:c}{b:d}{k:c->d->Prop}(h:x=Z (a,b))(p:k a b):W2 x k:=⟨a,b,h,p⟩
section
variable{f g:FS}{c c':FT}{e e':FE}{a:FA}{ρ ρ':aU}{n:aU->Prop}{r k:L4.D->aU->Prop}{kb:Bool->aU->Prop}{kl:List L4.D->aU->Prop}{i:Nat}
def uE(w:Ws (f ρ) (λρ=>Ws (g ρ) n r) r):Ws (bt f g ρ) n r:=by
 obtain⟨o,e,p⟩:=w;cases o with
 |nx ρ=>obtain⟨o,b,p⟩:=p;exact⟨o,(ux e).t b,p⟩
 |rt d ρ=>exact⟨_,uZ e,p⟩
 |U d ρ=>exact⟨_,by unfold bt;rw[e],p⟩
 |_=>exact p.elim
def zK(h:f ρ=Z (.nx ρ'))(p:n ρ'):Ws (f ρ) n r:=⟨_,h,p⟩
def s_y(h:c ρ=Z (γ,ρ'))(w:Ws (f ρ') n r):Ws (fc c f g ρ) n r:=by unfold Ws;rw[vv h];exact w
def s_n(h:c ρ=Z (δ,ρ'))(w:Ws (g ρ') n r):Ws (fc c f g ρ) n r:=by unfold Ws;rw[vE h];exact w
def T5(w:W2 (c ρ) λb ρ=>(b=γ->Ws (f ρ) n r)/\(b=δ->Ws (g ρ) n r)):Ws (fc c f g ρ) n r:=by
 obtain⟨b,ρ',e,y,z⟩:=w;cases b with
 |true=>exact s_y e (y U)
 |false=>exact s_n e (z U)
def uU(w:W2 (e ρ) λd ρ=>n (ρ.set i (.q d))):Ws (uM i e ρ) n r:=by obtain⟨d,ρ',h,p⟩:=w;exact⟨_,vP h,p⟩
def s_sn(w:W2 (a ρ) λd ρ=>n (ρ.set i (.M d))):Ws (xg i a ρ) n r:=by obtain⟨d,ρ',h,p⟩:=w;exact⟨_,V8 h,p⟩
def I0(w:W2 (e ρ) λz ρ=>n ρ):Ws (uW e ρ) n r:=by obtain⟨d,ρ',h,p⟩:=w;exact⟨_,wQ h,p⟩
def vY(w:W2 (e ρ) r):Ws (uy e ρ) n r:=by obtain⟨d,ρ',h,p⟩:=w;exact⟨_,uT h,p⟩
def Oa(w:W2 (a ρ) λd=>r (.b0 d)):Ws (vJ a ρ) n r:=by obtain⟨d,ρ',h,p⟩:=w;exact⟨_,w9 h,p⟩
def MN{g:FG}(w:W2 (e ρ) λd ρ=>∃ρ',g d ρ=Z ρ'/\n ρ'):Ws (FC e g ρ) n r:=by obtain⟨d,ρ',h,b,j,p⟩:=w;exact⟨.nx b,by unfold FC;rw[h];simp only[j],p⟩
def w_L(w:W2 (a ρ) λd ρ=>k (.b0 d) ρ):W2 (cL a ρ) k:=by obtain⟨d,ρ',h,p⟩:=w;exact⟨_,_,u4 h,p⟩
def w_ap{j:List L4.D}(l:xW ρ i=Z j)(w:W2 (e ρ) λd ρ=>∃b,xW ρ i=Z b/\b.length<1000/\k .E (putAt ρ i (b++[d]))):W2 (y7 i e ρ) k:=by obtain⟨d,q,h,b,m,o,p⟩:=w;exact⟨_,_,Ah l h m o,p⟩
def QK(w:W2 (e ρ) λd ρ=>∃m:Nat,d=.int m/\m<=100/\kl ((az m).map λj:Nat=>D.int j) ρ):W2 (u3 e ρ) kl:=by obtain⟨_,b,h,m,rfl,l,p⟩:=w;refine⟨_,b,?_,p⟩;unfold u3;rw[h];dsimp only;rw[ah (by omega),fS];unfold LY;simp
def Ca{ds:List L4.D}(h:e ρ=Z (.b0 ds,ρ')):iL e ρ=Z (ds,ρ'):=by unfold iL;rw[h]
def X'{R:aU->Prop}(p:R ρ)(k:∀ρ,R ρ->Ws (f ρ) n r):Ws (f ρ) n r:=k _ p
def f5{h:FS}(q:c ρ=Z (δ,ρ'))(w:Ws (g ρ') n r):Ws (bt (fc c h uD) g ρ) n r:=uE (s_n q (zK U w))
def o3{h:FS}(q:c ρ=Z (γ,ρ'))(w:Ws (f ρ') (λρ=>Ws (g ρ) n r) r):Ws (bt (fc c f h) g ρ) n r:=uE (s_y q w)
def w_oA{k:Option Int->aU->Prop}(w:W2 (e ρ) λd ρ=>∃j,d=.int j/\k (Z j) ρ):W2 (sh e ρ) k:=by obtain⟨_,ρ',h,j,rfl,p⟩:=w;exact⟨Z j,ρ',by unfold sh;rw[h],p⟩
def w_sx{lo hi:FO}(w:W2 (e ρ) λd ρ=>∃ds,d=.b0 ds/\W2 (lo ρ) λl ρ=>W2 (hi ρ) λu ρ=>kl (gi ds l u) ρ):W2 (EJ e lo hi ρ) kl:=by obtain⟨_,m,h,ds,rfl,l,o,b,u,q,j,p⟩:=w;exact⟨_,_,by unfold EJ;rw[h];simp only[b,j],p⟩
def w_an(w:W2 (c ρ) λb ρ=>(b=γ->W2 (c' ρ) kb)/\(b=δ->kb δ ρ)):W2 (w6 c c' ρ) kb:=by
 obtain⟨b,d,h,y,z⟩:=w;unfold w6;rw[h];cases b with
 |true=>exact y U
 |false=>exact⟨_,_,U,z U⟩
theorem s_fl{a:FG}{J:Nat->aU->Prop}:∀(b:List L4.D) (i:Nat) (ρ:aU),J i ρ->(∀m d ρ,b[m]?=Z d->J (i+m) ρ->∃l,a d ρ=Z l/\Ws (f l) (J (i+m+1)) r)->Ws (j0 a f b ρ) (J (i+b.length)) r
 |[],i,ρ,j,_=>⟨_,U,j⟩
 |d::b,i,ρ,j,st=>by
  obtain⟨l,t,o,u,p⟩:=st 0 d ρ U j;unfold Ws j0;simp only[t,u];cases o with
  |nx q=>rw[aP,show i+(b.length+1)=i+1+b.length by omega];exact s_fl b (i+1) q p λm d ρ h j=>by rw[show i+1+m=i+(m+1) by omega]at j ⊢;exact st (m+1) d ρ h j
  |rt d ρ=>exact⟨_,U,p⟩
  |U d ρ=>exact⟨_,U,p⟩
  |_=>exact p.elim
def Ja{s:FA}{a:FG}(w:W2 (s ρ) λds ρ=>∃J:Nat->aU->Prop,J 0 ρ/\(∀m d ρ,ds[m]?=Z d->J m ρ->∃ρ1,a d ρ=Z ρ1/\Ws (f ρ1) (J (m+1)) r)/\∀ρ,J ds.length ρ->n ρ):Ws (xA s a f ρ) n r:=by
 obtain⟨ds,ρ',q,J,j,st,fin⟩:=w;obtain⟨o,e,p⟩:=s_fl ds 0 ρ' j λm d ρ h j=>by rw[iQ]at j ⊢;exact st m d ρ h j
 rw[iQ]at p;refine⟨o,(xY q).t e,?_⟩;cases o with
 |nx ρ=>exact fin ρ p
 |_=>exact p
end
section
variable{es:List L4.D}{k:L4.D->aU->Prop}{s:aU}{e a:FE}
def Jb{f n:Nat}{b:FS}{ds:List L4.D}{Q:L4.D->Prop}(c:ds.length=f)(w:Ws (b (yr n ds)) (λz=>False) λd z=>Q d):∃d,e3 f n b ds=Z d/\Q d:=by
 obtain⟨o,e,p⟩:=w;cases o with
 |rt d h=>exact⟨d,uI c e,p⟩
 |U d h=>exact⟨_,Cs c e,p⟩
 |_=>exact p.elim
def Dg{c n:Nat}{b:FS}{ds:List L4.D}{z:L4.D}(f:ds.length=c)(w:Ws (b (yr n ds)) (λx=>False) λd x=>d=z):e3 c n b ds=Z z:=by obtain⟨_,e,rfl⟩:=Jb f w;exact e
end
def snoc{b:Type}{P:b->Prop}{l:List b}{x:b}(h:∀y∈l,P y)(c:P x):∀y∈l++[x],P y:=λy a=>(bq.1 a).elim (h y) λa=>by rw[bT.1 a];exact c
def F7{n m:Nat}{d:L4.D}(h:((az n).map λj:Nat=>D.int j)[m]?=Z d):m<n/\d=.int m:=by
 rw[bu]at h;by_cases a:m<n
 .rw[kO a]at h;exact⟨a,(cc h).symm⟩
 .rw[fN (by rw[bF];omega)]at h;cases h
abbrev dN(k:Nat):L4.D:=.int (k:Nat)
def dl(l:List Nat):L4.D:=.b0 (l.map dN)
def gd(l:List Nat)(i:Nat):Nat:=l.getD i 0
def yh{l:List Nat}{i:Nat}(h:i<l.length):ea (dl l) (dN i)=Z (dN (gd l i)):=xS (by
 rw[bu,aM h];unfold gd;rw[bN,aM h];rfl)
def md{a b:Nat}(h:0<b):uR (dN a) (dN b)=Z (dN (a % b)):=Ba (by omega)
def dv{a b:Nat}(h:0<b)(c:b<1073741824):vF (dN a) (dN b)=Z (dN (a / b)):=sx (by omega) (by omega)
def BR{L:aB}{i:Nat}(h:i<L.length):ea (.b0 (L.map D.str)) (dN i)=Z (.str (L.getD i "")):=xS (by
 rw[bu,aM h,bN,aM h];rfl)
def vh{a:Type}{L:List a}{i:Nat}{z:a}(h:i<L.length):L.getD i z∈L:=by rw[bN,aM h];exact gR h
def adH{m n i:Nat}{b A B f:FS}{s:FA}{a:FG}{l:List L4.D}{h j:aU}{Q:List L4.D->Prop}(y:b=bt A (bt B (bt (xA s a f) (vJ (HQ i)))))(z:l.length=m)(u:A (yr n l)=Z (.nx h))(x:B h=Z (.nx j))(w:Ws (xA s a f j) (λr=>∃c d,HQ i r=Z (c,d)/\Q c) λv v=>False):∃c,r? m n b l=Z c/\Q c:=by
 subst y;obtain⟨o,e,p⟩:=w;cases o with
 |nx r=>obtain⟨c,d,t,q⟩:=p;exact⟨c,D5 z ((ux u).t ((ux x).t ((ux e).t (w9 t)))),q⟩
 |_=>exact p.elim
def Jc(c:Int)(n:Nat)(t:n<=100):∃l:List Nat,l.length=n/\xw [.int c,dN n]=Z (l.map dN):=by
 let J:=λ(i:Nat) (u:aU)=>∃(l:List Nat) (fb:Int) (f j:Sl),u=[.q (.int c),.q (dN n),.M (l.map dN),.q (.int fb),f,j]/\l.length=i
 suffices h:∃m,xw [.int c,dN n]=Z m/\∃l:List Nat,m=l.map dN/\l.length=n by obtain⟨m,e,l,rfl,a⟩:=h;exact⟨l,a,e⟩
 refine adH (n:=6) (b:=BD) U U U U (Ja (QK (uA U ⟨n,U,t,J,⟨[],c,.un,.un,U,U⟩,?_,?_⟩)))
 .rintro i _ _ hd ⟨l,fb,f,j,rfl,a⟩;obtain⟨w,rfl⟩:=F7 hd;have hll:(l.map dN).length<1000:=by rw[af];omega
  have app:∀v:Nat,l.map dN++[dN v]=(l++[v]).map dN:=λv=>by rw[aZ];rfl
  refine⟨_,U,T5 (w_an (uA (u6 (uv U U U)) ⟨λs=>uA (u6 (uv U U U)) ⟨λr=>?_,λs=>?_⟩,λs=>⟨λz=>(by cases z),λs=>?_⟩⟩))⟩
  .have y:0<fb:=bp r;obtain⟨v,d⟩:=nO (jK fb (show (10007:Int)≠0 by decide));exact uE (I0 (w_ap U (uA (uv U U (Ba (by decide))) ⟨_,U,hll,uU (uA (uv U U (sx (by decide) (by decide))) ⟨l++[v],_,_,_,by rw[<-app,show dN v=.int (fb % 10007) from bL D.int d.symm];rfl,by rw[aC,a];rfl⟩)⟩)))
  all_goals
   have key:∀x:Int,0<=x % 2147483647/\x % 2147483647<2147483647:=λx=>⟨jK _ (by decide),oV _ (by decide)⟩;let o:Int:=(c % 2147483647+7919 * i+1) * 48271 % 2147483647;let p:Int:=o * (o / 1009+69621) % 2147483647;let q:Int:=p * (p / 2003+40692) % 2147483399;obtain⟨v,d⟩:=nO (show 0<=q from jK _ (by decide));refine uE (uU (uA (uv (uv (uv (uv (uv U U (Ba (by decide))) (uv U U (xq (.inl (by decide)))) U) U U) U (xq (.inr (by decide)))) U (Ba (by decide))) ?_));refine uE (uU (uA (uv (uv U (uv (uv U U (sx (by decide) (by decide))) U U) (xq (.inl (Cm (key _).1 (key _).2)))) U (Ba (by decide))) ?_));exact I0 (w_ap U (uA (uv (uv U (uv (uv U U (sx (by decide) (by decide))) U U) (xq (.inl (Cm (key _).1 (key _).2)))) U (Ba (by decide))) ⟨_,U,hll,l++[v],fb,_,_,by rw[<-app,show dN v=.int q from bL D.int d.symm];rfl,by rw[aC,a];rfl⟩))
 .rintro _ ⟨l,fb,f,j,rfl,a⟩;rw[af,bF]at a;exact⟨_,_,U,l,U,a⟩
def adI{a x:Str}(b:a∈ahL)(c:x∈ZY):a++x∈nmL:=by
 have h:a++x∈υ a:=aG.2 ⟨x,c,U⟩;simp only[ahL,aO,cy,or_false]at b;rcases b with rfl|rfl|rfl|rfl
 .exact bD _ (bD _ h)
 .exact bD _ (bD _ h)
 .exact bD _ (bG _ h)
 .exact bG _ h
def adJ:(ahL.all λa=>decide (υ a).Nodup)=γ:=by kernel_rfl
def adK:((az 17).all λs=>(az 16).all λt=>decide ((az 14).map λk=>(s+k * (1+t)) % 17).Nodup)=γ:=by kernel_rfl
def nmF(a:Str)(x t k:Nat):Str:=a++ZY.getD ((x+k * (1+t)) % 17) ""
def abO(a:Str)(x t k:Nat):nmF a x t k=(υ a).getD ((x+k * (1+t)) % 17) "" := by have h:(x+k * (1+t)) % 17<ZY.length:=aE _ (by decide);unfold nmF υ;rw[bN,bN,bu,aM h];rfl
def adL{a:Str}(h:a∈ahL)(x:Nat){t:Nat}(o:t<16):((az 14).map (nmF a x t)).Nodup:=by
 have d:=bp (aH.1 (aH.1 adK (x % 17) (bA.2 (aE _ (by decide)))) t (bA.2 o));have f:=bp (aH.1 adJ a h);rw[show (λk=>(x % 17+k * (1+t)) % 17)=λk=>(x+k * (1+t)) % 17 from funext λk=>lN _ _ _]at d;have e:(az 14).map (nmF a x t)=((az 14).map λk=>(x+k * (1+t)) % 17).map λi=>(υ a).getD i "" := by rw[aW];exact ox λk v=>abO a x t k
 rw[e];have c:(υ a).length=17:=by unfold υ;rw[af];rfl
 have b:∀z,z % 17<(υ a).length:=λz=>by rw[c];exact aE _ (by decide)
 refine lp.2 (d.imp_of_mem λ{i j} l m p q=>p ?_);obtain⟨_,_,rfl⟩:=aG.1 l;obtain⟨_,_,rfl⟩:=aG.1 m;rw[bN,aM (b _),bN,aM (b _)]at q;exact(jD f).1 q
structure Nms(N:aB):Prop where
 len:N.length=14
 nd:N.Nodup
 nm:∀x∈N,x∈nmL
def T6{l:List Nat}(j:l.length=32):∃N,BF [dl l]=Z (.b0 (N.map D.str))/\Nms N:=by
 let a:=ahL.getD (gd l 0 % 4) "";have d:a∈ahL:=vh (aE _ (by decide));let N:=(az 14).map (nmF a (gd l 1) (gd l 2 % 16));refine⟨N,?_,by show ((az 14).map _).length=14;rw[af];rfl,adL d _ (aE _ (by decide)),λx e=>?_⟩
 .let c:aU:=[.q (dl l),.q (.b0 (ZY.map D.str)),.q (.str a)];refine Cs (ρ:=c) U ?_;unfold BE;refine(ux U).t ((ux U).t ((ux (vP (uv (y:=dN (gd l 0 % 4)) U (uv (uv U U (yh (i:=0) (by omega))) U (md (b:=4) (by decide))) (BR (L:=ahL) (show gd l 0 % 4<4 from aE _ (by decide)))))).t ?_));refine(w9 (wu (λk:Nat=>dN k) (λk=>.str (nmF a (gd l 1) (gd l 2 % 16) k)) (az 14) (ρ1:=c) (by kernel_rfl) (by rw[bF];decide) λk f=>⟨[.q (dN k),.q (.str a),.q (.b0 (ZY.map D.str)),.q (dl l)],_,U,uv (x:=.str a) U (uv U (uv (y:=dN 17) (uv (y:=dN (k * (1+gd l 2 % 16))) (uv U U (yh (i:=1) (by omega))) (uv U (uv U (uv (uv U U (yh (i:=2) (by omega))) U (md (b:=16) (by decide))) U) (xq (.inl ?_))) U) U (md (b:=17) (by decide))) (BR (L:=ZY) (show (gd l 1+k * (1+gd l 2 % 16)) % 17<17 from aE _ (by decide)))) ?_,U⟩)).t (by show _=Z (F?.U (((az 14).map (nmF a (gd l 1) (gd l 2 % 16))).map D.str) c);rw[aW];rfl)
  .have:=bA.1 f;exact Cm (by omega) (by omega)
  .have e:ZY.getD ((gd l 1+k * (1+gd l 2 % 16)) % 17) "" ∈ ZY:=vh (aE _ (by decide));have m:=bp (aH.1 (show (ahL.all λx=>decide (x.length<=8))=γ by kernel_rfl) a d);have o:=bp (aH.1 (show (ZY.all λx=>decide (x.length<=8))=γ by kernel_rfl) _ e);show (if a.length+(ZY.getD ((gd l 1+k * (1+gd l 2 % 16)) % 17) "").length<=100000 then Z (D.str _)else O)=_;rw[ah (by omega)];rfl
 .obtain⟨k,_,rfl⟩:=aG.1 e;exact adI d (vh (aE _ (by decide)))
def muL:List Nat:=[1,1,2,2,4,6,7,24]
def Dk(l:List Nat)(k:Nat):Nat:=(gd l 3+k * muL.getD (gd l 4 % 8) 0) % 25
def Pa(l:List Nat):Str:=tlL.getD (gd l 5 % 3) ""
def clF(l:List Nat)(k:Nat):Str:=Kx.getD (Dk l k % 5) "" ++ Pa l
def laF(l:List Nat)(k:Nat):Str:=I'.getD (Dk l k / 5) "" ++ Pa l
def exF(l:List Nat)(k:Nat):Str:=exL.getD (gd l 8 / (1+k) % 3) ""
def rr(l:List Nat)(k:Nat):aB:=if gd l 6 / (1+k) % 3=0 then mw [clF l k,laF l k] (gd l 7 / (1+k) % 3) (exF l k)else [clF l k,laF l k]
def MO(l:List Nat):Pa l∈tlL:=vh (aE _ (by decide))
def XQ(l:List Nat)(k:Nat):exF l k∈exL:=vh (aE _ (by decide))
def T7(l:List Nat)(k:Nat):Dk l k<25:=aE _ (by decide)
def Pi(l:List Nat)(k:Nat):Dk l k % 5<Kx.length:=aE _ (by decide)
def Pj(l:List Nat)(k:Nat):Dk l k / 5<I'.length:=by have:=T7 l k;show _<5;omega
def Ob{l:List Nat}{k:Nat}{x:Str}(h:x∈rr l k):x=clF l k\/x=laF l k\/x∈exL:=by
 unfold rr at h;split at h
 .unfold mw at h;rcases bq.1 h with h|h
  .have:=List.mem_of_mem_take h;simp only[aO,cy,or_false]at this;exact this.elim .inl λh=>.inr (.inl h)
  .rcases aO.1 h with rfl|h
   .exact .inr (.inr (XQ l k))
   .have:=n8 h;simp only[aO,cy,or_false]at this;exact this.elim .inl λh=>.inr (.inl h)
 .simp only[aO,cy,or_false]at h;exact h.elim .inl λh=>.inr (.inl h)
def adM(l:List Nat)(k:Nat):clF l k∈rr l k:=by
 unfold rr;split
 .have h:gd l 7 / (1+k) % 3<3:=aE _ (by decide);generalize gd l 7 / (1+k) % 3=p at h;rcases(by omega:p=0\/p=1\/p=2)with rfl|rfl|rfl<;>simp[mw]
 .simp
def adN(l:List Nat)(k:Nat):laF l k∈rr l k:=by
 unfold rr;split
 .have h:gd l 7 / (1+k) % 3<3:=aE _ (by decide);generalize gd l 7 / (1+k) % 3=p at h;rcases(by omega:p=0\/p=1\/p=2)with rfl|rfl|rfl<;>simp[mw]
 .simp
def Ll(l:List Nat)(k:Nat):2<=(rr l k).length/\(rr l k).length<=3:=by
 unfold rr;split
 .have h:gd l 7 / (1+k) % 3<3:=aE _ (by decide);generalize gd l 7 / (1+k) % 3=p at h;rcases(by omega:p=0\/p=1\/p=2)with rfl|rfl|rfl<;>exact⟨by simp[mw],by simp[mw]⟩
 .exact⟨by simp,by simp⟩
def XR{x t:Str}(b:x∈Kx++I')(a:t∈tlL):x++t∈wpL:=bG _ (dJ.2 ⟨t,a,aG.2 ⟨x,b,U⟩⟩)
def T8{l:List Nat}{k:Nat}{x:Str}(h:x∈rr l k):x∈wpL:=by
 rcases Ob h with rfl|rfl|h
 .exact XR (bD _ (vh (Pi l k))) (MO l)
 .exact XR (bG _ (vh (Pj l k))) (MO l)
 .exact bD _ h
def tb:(tlL.all λt=>Kx.all λx=>I'.all λy=>decide (x++t≠y++t)&&decide (x++t∉exL)&&decide (y++t∉exL))=γ:=by kernel_rfl
def tc:(tlL.all λt=>(az 5).all λi=>(az 5).all λj=>decide (i=j)||(decide (Kx.getD i "" ++ t≠Kx.getD j "" ++ t)&&decide (I'.getD i "" ++ t≠I'.getD j "" ++ t)))=γ:=by kernel_rfl
def un3(l:List Nat)(k a:Nat):clF l k≠laF l a/\clF l k∉exL/\laF l a∉exL:=by have h:=aH.1 (aH.1 (aH.1 tb _ (MO l)) _ (vh (z:=("" : Str)) (Pi l k))) _ (vh (z:=("" : Str)) (Pj l a));simp only[aQ,bz]at h;exact⟨h.1.1,h.1.2,h.2⟩
def adO(l:List Nat)(k:Nat):(rr l k).Nodup:=by
 obtain⟨c,e,f⟩:=un3 l k k;have d:=XQ l k;have a:exF l k≠clF l k:=λz=>e (z▸d);have b:exF l k≠laF l k:=λz=>f (z▸d);unfold rr;split
 .have h:gd l 7 / (1+k) % 3<3:=aE _ (by decide);generalize gd l 7 / (1+k) % 3=p at h;rcases(by omega:p=0\/p=1\/p=2)with rfl|rfl|rfl<;>simp[mw,c,a,b,a.symm,b.symm]
 .simp[c]
def wqL:aB:="room" ::"me" ::"myself" ::wpL
def Oc{x:Str}(h:x∈wqL):wz [.str x]=Z (.I γ):=BP (aH.1 (show (wqL.all λx=>τ (wz [.str x]))=γ by kernel_rfl) x h)
def BS{w:aB}(f:1<=w.length)(h:w.length<=4)(b:∀x∈w,x∈wqL)(d:w.Nodup):yG [.cx (w.map D.str)]=Z (.I γ):=by let a:aU:=[.q (.cx (w.map D.str))];refine uI (ρ:=a) U ?_;unfold CH;have e:xx yK yK ay (c1 vH aa) (cC Bk) a=Z (.I γ,a):=Fj U (u5 U (by show Z (D.int _)=_;rw[af])) U (by omega) (by show (w.length:Int)<=4;omega);refine(wx (xX U (zR (u6 e)))).t (uT ((uX (yg D.str w U (by omega) λx c=>⟨_,_,U,ur U (Oc (b x c)),U⟩)).t (ur U (N2 d (by omega)))))
def Od(a b:aB)(d:b.length<=100):zh [.cx (a.map D.str),.cx (b.map D.str)]=Z (.I (b.all λx=>decide (x∈a))):=by let c:aU:=[.q (.cx (a.map D.str)),.q (.cx (b.map D.str))];refine uI (ρ:=c) U (uT (u5 (u4 (wu D.str (λx=>.I (decide (x∈a))) b U (by omega) λx z=>⟨[.q (.str x),.q (.cx (a.map D.str))],_,U,uv U U (Cr δ x a),U⟩)) (OT b λx=>decide (x∈a))))
def adP:((az 25).all λs=>muL.all λm=>(az 5).all λk=>(az 5).all λj=>decide (k=j)||decide ((s+k * m) % 25≠(s+j * m) % 25))=γ:=by kernel_rfl
def abP(l:List Nat){k j:Nat}(r:k<5)(p:j<5)(h:k≠j):zh [.cx ((rr l j).map D.str),.cx ((rr l k).map D.str)]=Z (.I δ):=by
 have t:Dk l k≠Dk l j:=by have q:=aH.1 (aH.1 (aH.1 (aH.1 adP (gd l 3 % 25) (bA.2 (aE _ (by decide)))) _ (vh (z:=0) (show gd l 4 % 8<muL.length from aE _ (by decide)))) k (bA.2 r)) j (bA.2 p);rw[fB,bz,bz,lN,lN]at q;exact q.resolve_left h
 have e:=T7 l k;have d:=T7 l j;have tcs:=λ{a b:Nat} (m:a<5) (o:b<5) (hab:a≠b)=>(by
  have q:=aH.1 (aH.1 (aH.1 tc _ (MO l)) a (bA.2 m)) b (bA.2 o);simp only[fB,aQ,bz]at q;exact q.resolve_left hab:Kx.getD a "" ++ Pa l≠Kx.getD b "" ++ Pa l/\I'.getD a "" ++ Pa l≠I'.getD b "" ++ Pa l)
 rw[Od _ _ (by have:=Ll l k;omega)];have key:∃x∈rr l k,x∉rr l j:=by
  by_cases c:Dk l k % 5=Dk l j % 5
  .have q:=(tcs (a:=Dk l k / 5) (b:=Dk l j / 5) (by omega) (by omega) (by omega)).2;refine⟨_,adN l k,λz=>?_⟩;rcases Ob z with z|z|z
   .exact(un3 l j k).1 z.symm
   .exact q z
   .exact(un3 l k k).2.2 z
  .have q:=(tcs (a:=Dk l k % 5) (b:=Dk l j % 5) (by omega) (by omega) c).1;refine⟨_,adM l k,λz=>?_⟩;rcases Ob z with z|z|z
   .exact q z
   .exact(un3 l k j).1 z
   .exact(un3 l k k).2.1 z
 obtain⟨x,f,i⟩:=key;congr 2;exact iF.2 λz=>i (bp (aH.1 z x f))
def Fm{L:aB}{x:Str}(h:(L.all λx=>decide (x.length<=60))=γ)(a:x∈L):x.length<=60:=bp (aH.1 h x a)
def Kn{a b:Str}(c:a.length<=20000)(d:b.length<=20000):Ck (.str a) (.str b)=Z (.str (a++b)):=by show (if a.length+b.length<=100000 then Z (D.str (a++b))else O)=_;rw[ah (by omega)]
def abQ{i n:Nat}{e f:FE}{d b a:aU}{c ds:List L4.D}{y:L4.D}(h:xW d i=Z c)(j:e d=Z (dN n,b))(l:f b=Z (y,a))(m:xW a i=Z ds)(p:n<=ds.length)(o:ds.length<1000):P' i e f d=Z (.E,putAt a i (mw ds n y)):=by unfold P';rw[h];simp only[j,l,m];rw[ah ⟨by omega,by rw[fS];exact p,o⟩,fS]
def T9{l:List Nat}(p:l.length=32){k:Nat}(o:k<5):BG [dl l,dN k]=Z (.cx ((rr l k).map D.str)):=by
 have d:(Pa l).length<=60:=Fm (by kernel_rfl) (MO l);have Me:=Fm (L:=Kx) (by kernel_rfl) (vh (z:=("" : Str)) (Pi l k));have h:=Fm (L:=I') (by kernel_rfl) (vh (z:=("" : Str)) (Pj l k));have q:0<1+k:=by omega
 have e:c2 uR (c2 vp (c2 ea aa bC) (c2 xO ai (c2 ea (cL (uK rq)) (c2 uR (c2 ea aa cA) gy)))) (cC (.int 25)) [.q (dl l),.q (dN k),.q (.b0 (Kx.map D.str)),.q (.b0 (I'.map D.str)),.un,.un,.un]=Z (dN (Dk l k),[.q (dl l),.q (dN k),.q (.b0 (Kx.map D.str)),.q (.b0 (I'.map D.str)),.un,.un,.un]):=
  uv (x:=dN (gd l 3+k * muL.getD (gd l 4 % 8) 0)) (uv (y:=dN (k * muL.getD (gd l 4 % 8) 0)) (uv U U (yh (i:=3) (by omega))) (uv (y:=dN (muL.getD (gd l 4 % 8) 0)) U (uv (x:=dl muL) U (uv (uv U U (yh (i:=4) (by omega))) U (md (b:=8) (by decide))) (yh (l:=muL) (show gd l 4 % 8<8 from aE _ (by decide)))) (xq (.inl (Cm (by omega) (by omega))))) U) U (md (b:=25) (by decide))
 let A:Sl:=.q (.b0 (Kx.map D.str));let B:Sl:=.q (.b0 (I'.map D.str));refine Dg U (uE (zK U (uE (zK U (uE (uU (uA e (uE (uU (uA (uv (x:=.b0 (tlL.map D.str)) U (uv (uv U U (yh (i:=5) (by omega))) U (md (b:=3) (by decide))) (BR (L:=tlL) (show gd l 5 % 3<3 from aE _ (by decide)))) ?_))))))))));refine uE (s_sn (uA (NF (uu (uv (uv (x:=.b0 (Kx.map D.str)) U (uv U U (md (b:=5) (by decide))) (BR (L:=Kx) (Pi l k))) U (Kn (b:=Pa l) (by omega) (by omega))) (uu (uv (uv (x:=.b0 (I'.map D.str)) U (uv U U (dv (b:=5) (by decide) (by decide))) (BR (L:=I') (Pj l k))) U (Kn (b:=Pa l) (by omega) (by omega))) U)) (bK U)) ?_));have a:∀(i:Nat),i<l.length->∀c:Sl,c2 uR (c2 vF (c2 ea aa (cC (dN i))) (c2 vp ay ai)) bC [.q (dl l),.q (dN k),A,B,.q (dN (Dk l k)),.q (.str (Pa l)),c]=Z (dN (gd l i / (1+k) % 3),[.q (dl l),.q (dN k),A,B,.q (dN (Dk l k)),.q (.str (Pa l)),c]):=λi f c=>uv (uv (y:=dN (1+k)) (uv U U (yh f)) U (dv (by omega) (by omega))) U (md (b:=3) (by decide));refine uE (T5 (uA (u6 (uv (a 6 (by omega) _) U (xb δ _ 0))) ⟨λb=>?_,λb=>?_⟩))
 .have b:gd l 6 / (1+k) % 3=0:=by have:=bp b;omega
  have m:gd l 7 / (1+k) % 3<3:=aE _ (by decide);refine I0 (uA (abQ (n:=gd l 7 / (1+k) % 3) (y:=.str (exF l k)) (ds:=[.str (clF l k),.str (laF l k)]) U (a 7 (by omega) _) (uv (x:=.b0 (exL.map D.str)) U (a 8 (by omega) _) (BR (L:=exL) (show _ % 3<3 from aE _ (by decide)))) U (show _<=2 by omega) (fP (aL 2) (by decide))) (vY (uA (b:=[.q (dl l),.q (dN k),A,B,.q (dN (Dk l k)),.q (.str (Pa l)),.q (.b0 (mw [.str (clF l k),.str (laF l k)] (gd l 7 / (1+k) % 3) (.str (exF l k))))]) U ?_)))
  .show D.cx _=_;unfold rr;rw[ah b];unfold mw;rw[aZ,aS,gZ,gY];rfl
 .have b:gd l 6 / (1+k) % 3≠0:=λz=>by have:=of_decide_eq_false b;omega
  refine zK U (vY (uA (b:=[.q (dl l),.q (dN k),A,B,.q (dN (Dk l k)),.q (.str (Pa l)),.q (.b0 [.str (clF l k),.str (laF l k)])]) U ?_));show D.cx _=_;unfold rr;rw[aj b];rfl
def L'(x:Str):Th:=⟨x,["room"],.room,O⟩
def Th.nw(t:Th):Str×aB:=(t.n,t.w)
def m3(t:Th):L4.D:=.cx [.str t.n,.cx (t.w.map D.str),.str t.k.s,oS t.s]
def kL:List Kd:=[.plain,.box,.lamp,.fixed,.box]
def nA(N:aB)(i:Nat):Str:=N.getD i ""
structure Lm(l:List Nat)(N:aB)(T:List Th):Prop where
 j2:Ord T
 ex:∃(r n:Nat) (y:Str) (P:List Th),1<=r/\r<=3/\n<=5/\T=(N.take r).map L'++⟨nA N 3,["me", "myself"],.you,Z y⟩::P/\P.map Th.nw=(az n).map (λk=>(nA N (4+k),rr l k))/\∀t∈P,t.k.pl=γ
theorem Ko:∀(l:aB) (B:List Th),Ord B->Ord (B++l.map L')
 |[],B,h=>by rw[dU,b9];exact h
 |x::l,B,h=>by rw[aS,List.append_cons];exact Ko l _ (h.snoc (.inl ⟨U,U⟩))
def WQ{a:Type}{L:List a}(f:a->L4.D){i:Nat}(z:a)(h:i<L.length):ea (.b0 (L.map f)) (dN i)=Z (f (L.getD i z)):=xS (by
 rw[bu,aM h,bN,aM h];rfl)
def kdD(k:Kd):L4.D:=.str k.s
def WR{N:aB}{i:Nat}(h:i<N.length):ea (.b0 (N.map D.str)) (dN i)=Z (.str (nA N i)):=BR h
def QL{l:List Nat}{N:aB}(hl:l.length=32)(hN:Nms N):∃T j,Lm l N T/\yC [dl l,.b0 (N.map D.str)]=Z (.b0 ((T.drop j++T.take j).map m3)):=by
 suffices h:∃d,yC [dl l,.b0 (N.map D.str)]=Z d/\∃T j,Lm l N T/\d=.b0 ((T.drop j++T.take j).map m3) by obtain⟨_,e,T,j,h,rfl⟩:=h;exact⟨T,j,h,e⟩
 have l14:=hN.len;let r:=1+gd l 9 % 3;have r3:r<=3:=by have:=aE (gd l 9) (show 0<3 by decide);show 1+_<=3;omega
 have r1:1<=r:=by show 1<=1+_;omega
 let R:aB:=N.take r;have lR:R.length=r:=by show (N.take r).length=r;rw[cm];omega
 let f:=nA N 3;let y:=R.getD (gd l 10 % R.length) "";have yi:gd l 10 % R.length<R.length:=aE _ (by omega);have M:y∈R:=vh yi;let w:Th:=⟨f,["me", "myself"],.you,Z y⟩;let a:List Th:=R.map L'++[w];have o1:Ord a:=(by have:=Ko R [] .nil;rw[cu]at this;exact this:Ord (R.map L')).snoc (.inr (.inl ⟨U,L' y,bZ M,U,U⟩));have lP:a.length=r+1:=by show (R.map L'++[w]).length=_;rw[aC,af,lR];rfl
 let A:Sl:=.q (dl l);let B:Sl:=.q (.b0 (N.map D.str));let C:Sl:=.q (.b0 (R.map D.str));refine Jb U (uE (uU (w_L (w_sx (uA U ⟨N.map D.str,U,uA U (w_oA (uA (uv (y:=dN (gd l 9 % 3)) U (uv (uv U U (yh (i:=9) (by omega))) U (md (b:=3) (by decide))) U) ⟨_,U,?_⟩))⟩)))));rw[show (1+((gd l 9 % 3:Nat):Int))=((r:Nat):Int) from U,TC r (by rw[af];omega),<- gZ];refine uE (uU (uA (uv U U (WR (i:=3) (by omega))) ?_));refine uE (s_sn (uA (wu D.str (λx=>m3 (L' x)) R U (by omega) λx s=>⟨_,_,U,U,U⟩) ?_));refine uE (uU (uA (uv (x:=.b0 (R.map D.str)) U (uv (y:=dN R.length) (uv U U (yh (i:=10) (by omega))) (u5 U (by show Z (D.int (c8 D.str R).length)=_;rw[af])) (md (by omega))) (BR yi)) ?_));refine uE (I0 (uA (Ah (es:=R.map λx=>m3 (L' x)) U (wb (uu U (uu U (uu U (uu U U)))) (bK U)) U (by rw[af];omega)) ?_));refine uE (s_sn (uA (vK (xs:=R.map D.str) (ys:=[.str f,.str y,.str y,.str f]) U U (by rw[af];show R.length+4<=1000;omega)) ?_));refine X' (R:=λQ=>Q=[A,B,C,.q (.str f),.M (a.map m3),.q (.str y),.M ((R++[f,y,y,f]).map D.str),.un,.un,.un]) ?_ ?_
 .rw[show a.map m3=(R.map λx=>m3 (L' x))++[m3 w] by show (R.map L'++[w]).map m3=_;rw[aZ,aW];rfl,aZ];rfl
 rintro _ rfl;let J:=λ(i:Nat) (Q:aU)=>∃P c G q,Q=[A,B,C,.q (.str f),.M (c8 m3 (a++P)),.q (.str y),.M (c8 D.str c),G,q,.un]/\Ord (a++P)/\P.map Th.nw=(az i).map (λk=>(nA N (4+k),rr l k))/\(∀t∈P,t.k.pl=γ)/\c≠[]/\c.length<=7+i/\∀x∈c,∃u∈a++P,u.n=x/\u.k.hd=γ;have n6:gd l 11 % 6<6:=aE _ (by decide);refine uE (Ja (QK (uA (uv (uv U U (yh (i:=11) (by omega))) U (md (b:=6) (by decide))) ⟨gd l 11 % 6,U,by omega,J,⟨[],R++[f,y,y,f],_,_,by rw[b9],by rw[b9];exact o1,U,λt ht=>(by cases ht),by simp,by rw[aC,lR];show r+4<=7;omega,?_⟩,?_,?_⟩)))
 .rw[b9];have Y:∃u∈a,u.n=f/\u.k.hd=γ:=⟨w,bG _ (bT.2 U),U,U⟩;have I:∀x∈R,∃u∈a,u.n=x/\u.k.hd=γ:=λx m=>⟨L' x,bD _ (bZ m),U,U⟩;intro x m;rcases bq.1 m with m|m
  .exact I x m
  .simp only[aO,cy,or_false]at m;rcases m with rfl|rfl|rfl|rfl
   .exact Y
   .exact I _ M
   .exact I _ M
   .exact Y
 .rintro i _ _ hd ⟨P,c,G,q,rfl,o,eP,pl,H,lH,hH⟩;obtain⟨hi,rfl⟩:=F7 hd;have lP':P.length=i:=by have:=bL cX eP;rw[af,af,bF]at this;exact this
  let E:=kL.getD (gd l (12+i) % 5) .plain;have ki:gd l (12+i) % 5<kL.length:=aE _ (by decide);have hkd:E∈kL:=vh ki;have hpl:E.pl=γ:=(show ∀k∈kL,Kd.pl k=γ by decide) _ hkd;have z:0<c.length:=oA.2 H;let p:=c.getD (gd l (12+i) / 5 % c.length) "";have pi:gd l (12+i) / 5 % c.length<c.length:=aE _ z;have hp:p∈c:=vh pi;obtain⟨u,hu,hun,huk⟩:=hH p hp;let t:Th:=⟨nA N (4+i),rr l i,E,Z p⟩;have o':Ord (a++(P++[t])):=by rw[<-b8];exact o.snoc (.inr (.inr ⟨hpl,u,hu,by rw[hun],huk⟩))
  have S:(P++[t]).map Th.nw=(az (i+1)).map λk=>(nA N (4+k),rr l k):=by rw[aZ,eP,jJ,aZ];rfl
  have eT:(a++P).map m3++[m3 t]=(a++(P++[t])).map m3:=by rw[<-b8,aZ (l₂:=[t])];rfl
  have hH':∀x∈c,∃u∈a++(P++[t]),u.n=x/\u.k.hd=γ:=λx m=>by obtain⟨v,hv,h⟩:=hH x m;exact⟨v,by rw[<-b8];exact bD _ hv,h⟩
  have W:∀(s4 s6 q:Sl),c2 ea aa (c2 vp kc bR) [A,B,C,.q (.str f),s4,.q (.str y),s6,.q (dN i),q,.un]=Z (dN (gd l (12+i)),[A,B,C,.q (.str f),s4,.q (.str y),s6,.q (dN i),q,.un]):=λs s s=>uv (x:=dl l) (y:=dN (12+i)) U U (yh (by omega));refine⟨_,U,uE (uU (uA (uv (x:=.b0 (kL.map kdD)) U (uv (W _ _ _) U (md (b:=5) (by decide))) (WQ kdD .plain ki)) ?_))⟩;refine uE (I0 (uA (Ah (es:=(a++P).map m3) U (wb (uu (uv (x:=.b0 (N.map D.str)) (y:=dN (4+i)) U U (WR (by omega))) (uu (ur (ds:=[dl l,dN i]) U (T9 hl (by omega))) (uu U (uu (Sq (uv (x:=.b0 (c.map D.str)) U (uv (y:=dN c.length) (uv (W _ _ _) U (dv (b:=5) (by decide) (by decide))) (u5 U (by show Z (D.int (c.map D.str).length)=_;rw[af])) (md z)) (BR pi)) U) U)))) (bK U)) U (by rw[af,aC];omega)) ?_));refine T5 (uA (u6 (uv U U (Fi E .box))) ⟨λb=>I0 (uA (Ah (es:=c.map D.str) U (uv (x:=.b0 (N.map D.str)) (y:=dN (4+i)) U U (WR (by omega))) U (by rw[af];omega)) ⟨P++[t],c++[nA N (4+i)],_,_,by rw[<-eT,aZ (l₂:=[nA N (4+i)])];rfl,o',S,snoc pl hpl,by simp,by rw[aC];show _+1<=_;omega,snoc hH' ⟨t,by simp,U,?_⟩⟩),λs=>zK U ⟨P++[t],c,_,_,by rw[<-eT];rfl,o',S,snoc pl hpl,H,by omega,hH'⟩⟩);show E.hd=γ;rw[bp b];rfl
 .rintro _ ⟨P,c,G,q,rfl,o,eP,pl,H,lH,hH⟩;rw[af,bF]at eP;have lT:(a++P).length=r+1+gd l 11 % 6:=by have:=bL cX eP;rw[af,af,bF]at this;rw[aC,lP,this]
  let j:=gd l 18 % (a++P).length;have hj:j<(a++P).length:=aE _ (by omega);let σ:aU:=[A,B,C,.q (.str f),.q (.b0 (c8 m3 (a++P))),.q (.str y),.M (c8 D.str c),G,q,.q (dN j)];refine uE (uU (uA (Sq (uv (y:=dN (a++P).length) (uv (x:=dl l) U U (yh (i:=18) (by omega))) (u5 U (by show Z (D.int _)=_;rw[af])) (md (by omega))) U) (Oa (uA (b:=σ) (vK (xs:=((a++P).map m3).drop j) (ys:=((a++P).map m3).take j) (ρ1:=σ) (u4 ?_) (u4 ?_) ?_) ?_))))
  .show Z (gi ((a++P).map m3) (Z (j:Int)) O,_)=_;rw[abA j (by rw[af];omega)];rfl
  .show Z (gi ((a++P).map m3) O (Z (j:Int)),_)=_;rw[TC j (by rw[af];omega)]
  .rw[dH,cm,af];omega
  .rw[<-gY,<- gZ,<- aZ];exact⟨a++P,j,⟨o,r,gd l 11 % 6,y,P,r1,r3,by omega,by show (R.map L'++[w])++P=_;rw[b8];rfl,eP,pl⟩,U⟩
def mkS(m:Mk):L4.D:=.cx [.str m.n,.int m.st,.int m.mo]
def pD(q:Str×Int):L4.D:=.cx [.str q.1,.int q.2]
def Ua{l:List Nat}{N:aB}(G:l.length=32)(hN:Nms N):∃(M:List Mk) (q:Nat),q<=2/\M.map Mk.n=(az q).map (λk=>nA N (10+k))/\(∀m∈M,m.ok)/\zb [dl l,.b0 (N.map D.str)]=Z (.b0 (M.map mkS)):=by
 suffices h:∃d,zb [dl l,.b0 (N.map D.str)]=Z d/\∃(M:List Mk) (q:Nat),q<=2/\M.map Mk.n=(az q).map (λk=>nA N (10+k))/\(∀m∈M,m.ok)/\d=.b0 (M.map mkS) by obtain⟨_,e,M,q,p,r,t,rfl⟩:=h;exact⟨M,q,p,r,t,e⟩
 have w:=hN.len;let A:Sl:=.q (dl l);let B:Sl:=.q (.b0 (N.map D.str));let J:=λ(i:Nat) (C:aU)=>∃(M:List Mk) (f c:Sl),C=[A,B,.M (c8 mkS M),f,c]/\M.map Mk.n=(az i).map (λk=>nA N (10+k))/\∀m∈M,m.ok;have P:gd l 19 % 3<3:=aE _ (by decide);refine Jb U (uE (zK U (uE (Ja (QK (uA (uv (uv U U (yh (i:=19) (by omega))) U (md (b:=3) (by decide))) ⟨gd l 19 % 3,U,by omega,J,⟨[],_,_,U,U,λm u=>(by cases u)⟩,?_,?_⟩))))))
 .rintro i _ _ hd ⟨M,f,c,rfl,eM,ok⟩;obtain⟨F,rfl⟩:=F7 hd;have lM:M.length=i:=by have:=bL cX eM;rw[af,af,bF]at this;exact this
  let a:=1+gd l (20+i) % 3;let st:=gd l (20+i) / 3 % (a+1);have I:gd l (20+i) % 3<3:=aE _ (by decide);have H:st<a+1:=aE _ (by omega);let m:Mk:=⟨nA N (10+i),(st:Nat),(a:Nat)⟩;have j:∀(o c:Sl),c2 ea aa (c2 vp (cC (.int 20)) av) [A,B,o,.q (dN i),c]=Z (dN (gd l (20+i)),[A,B,o,.q (dN i),c]):=λv v=>uv (x:=dl l) (y:=dN (20+i)) U U (yh (by omega));refine⟨_,U,uE (uU (uA (uv (z:=dN a) U (uv (j _ _) U (md (b:=3) (by decide))) U) (I0 (uA (Ah (es:=M.map mkS) U (wb (uu (uv (x:=.b0 (N.map D.str)) (y:=dN (10+i)) U U (WR (by omega))) (uu (uv (y:=dN (a+1)) (uv (j _ _) U (dv (b:=3) (by decide) (by decide))) U (md (by omega))) (uu U U))) (bK U)) U (by rw[af];omega)) ⟨M++[m],_,_,by rw[aZ];rfl,by rw[aZ,eM,jJ,aZ];rfl,snoc ok ⟨?_,?_,?_,?_⟩⟩))))⟩
  .show 1<=((1+gd l (20+i) % 3:Nat):Int);omega
  .show ((1+gd l (20+i) % 3:Nat):Int)<=3;omega
  .show (0:Int)<=(st:Nat);omega
  .show ((st:Nat):Int)<=(a:Nat);omega
 .rintro _ ⟨M,f,c,rfl,eM,ok⟩;rw[af,bF]at eM;exact Oa (uA U ⟨M,gd l 19 % 3,by omega,eM,ok,U⟩)
def kt{a:aU}(t:Th)(c:Kd)(h:cV 0 a=Z (m3 t,a)):cT (c2 (er δ) (c2 ea aa bV) (cC (.str c.s))) a=Z (decide (t.k=c),a):=u6 (uv (uv h U U) U (Fi t.k c))
def of_eq{ρ:aU}(T:List Th)(a:T.length<=1000){i:Nat}(hi:cV i ρ=Z (.b0 (T.map m3),ρ))(c:Kd):uF 1 [] (iL (cV i)) (gN 0) (cT (c2 (er δ) (c2 ea aa bV) (cC (.str c.s)))) (c2 ea aa aw) ρ=Z (((T.filter λt=>decide (t.k=c)).map Th.n).map D.str,ρ):=by refine(wt m3 (λt=>.str t.n) (λt=>decide (t.k=c)) T (TH hi) a λt z=>⟨[.q (m3 t)],_,U,kt t c U,λz=>⟨_,U,U⟩,λz=>U⟩).t ?_;rw[aW];rfl
def Ln(T:List Th)(M:List Mk)(hT:T.length<=100)(hM:M.length<=100):yx [.b0 (T.map m3),.b0 (M.map mkS)]=Z (.b0 ((mP T M).map pD)):=by
 have h:=cp (λt:Th=>t.k.mk) T;refine(Cs (ρ:=[.q (.b0 (T.map m3)),.q (.b0 (M.map mkS)),.q (.b0 ((T.filter λt=>t.k.mk).map λt=>pD (t.n,1)))]) U ((ux (vP (u4 (wt m3 (λt=>pD (t.n,1)) (λt=>t.k.mk) T U (by omega) λt z=>⟨[.q (m3 t)],[.q (m3 t)],U,?_,λz=>⟨_,U,U⟩,λz=>U⟩)))).t (w9 (vK U (u4 (wu mkS (λm=>pD (m.n,m.mo)) M U (by omega) λm z=>⟨_,_,U,U,U⟩)) (by rw[af,af];omega))))).t ?_
 .obtain⟨n,w,k,s⟩:=t;cases k<;>kernel_rfl
 .unfold mP;rw[aZ,aW,aW];rfl
def nf(v:Vb):L4.D:=.cx [.str v.n,.cx (v.o.map D.str),.str v.f,oS v.j]
def bM(a b c d e f:Bool):Nat:=a.toNat+2 * b.toNat+4 * c.toNat+8 * d.toNat+16 * e.toNat+32 * f.toNat
def adQ:∀a b c d e f:Bool,bM a b c d e f<64/\vB (bM a b c d e f) 0=a/\vB (bM a b c d e f) 1=b/\vB (bM a b c d e f) 2=c/\vB (bM a b c d e f) 3=d/\vB (bM a b c d e f) 4=e/\vB (bM a b c d e f) 5=f:=by decide
def mask(p:Nat->Bool):∃m,m<64/\(az 6).filter p=(az 6).filter λk=>vB m k:=by
 obtain⟨h,a,b,c,d,e,f⟩:=adQ (p 0) (p 1) (p 2) (p 3) (p 4) (p 5);refine⟨_,h,List.filter_congr λk i=>?_⟩;have:=bA.1 i;rcases(by omega:k=0\/k=1\/k=2\/k=3\/k=4\/k=5)with rfl|rfl|rfl|rfl|rfl|rfl
 .exact a.symm
 .exact b.symm
 .exact c.symm
 .exact d.symm
 .exact e.symm
 .exact f.symm
def v0:Vb:=⟨"", [],"", O⟩
def Ub{l:List Nat}(f:l.length=32):∃m,m<64/\BH [dl l]=Z (.b0 ((vL m).map nf)):=by
 let p:Nat->Bool:=λk=>decide (jL (((gd l 28:Nat):Int) / 2 ^ ((k:Nat):Int).toNat) 1=1);obtain⟨m,c,e⟩:=mask p;refine⟨m,c,?_⟩;let a:aU:=[.q (dl l),.q (.b0 (v6.map nf))];refine(Cs (ρ:=a) U ((ux U).t ((ux U).t (w9 (wt (λk:Nat=>dN k) (λk=>nf (v6.getD k v0)) p (az 6) (ρ1:=a) (by kernel_rfl) (by rw[bF];decide) λk b=>⟨[.q (dN k),.q (.b0 (v6.map nf)),.q (dl l)],_,U,u6 (uv (uv (x:=.int (((gd l 28:Nat):Int) / 2 ^ ((k:Nat):Int).toNat)) (y:=dN 1) (uv (x:=dN (gd l 28)) (y:=dN k) (uv (x:=dl l) U U (yh (i:=28) (by omega))) U ?_) U U) U (xb δ _ 1)),λz=>⟨_,uv (x:=.b0 (v6.map nf)) U U (WQ nf v0 (show k<6 from bA.1 b)),U⟩,λz=>U⟩))))).t ?_
 .show (if decide (0<=((k:Nat):Int))=γ then Z (D.int _)else O)=_;rw[ah (aT (by omega))]
 .unfold vL;rw[e,aW];rfl
def adR(a b c d:Str):er δ (.cx [.str a,.str b]) (.cx [.str c,.str d])=Z (.I ((a==c)&&((b==d)&&γ))):=by kernel_rfl
def drL(T:List Th)(M:List Mk):List (Option Str):=O::O::(mP T M).map λq=>Z q.1
def WS{l:List Nat}(hl:l.length=32)(T:List Th)(M:List Mk)(hT:T.length<=13)(hM:M.length<=4)(hr:i2 T≠[]):∃W:List Wy,W.length<=4/\(∀x∈W,N5 T M x)/\(W.map λw=>[w.r,w.w]).Nodup/\Ac [dl l,.b0 ((i2 T).map D.str),.b0 ((mP T M).map pD)]=Z (.b0 (W.map ll)):=by
 suffices h:∃d,Ac [dl l,.b0 ((i2 T).map D.str),.b0 ((mP T M).map pD)]=Z d/\∃W:List Wy,W.length<=4/\(∀x∈W,N5 T M x)/\(W.map λw=>[w.r,w.w]).Nodup/\d=.b0 (W.map ll) by obtain⟨_,e,W,u,h2,h3,rfl⟩:=h;exact⟨W,u,h2,h3,e⟩
 let R:=i2 T;have j:0<R.length:=oA.2 hr;have lr:R.length<=13:=by show (c8 Th.n _).length<=13;rw[af];exact bQ (cp _ _) hT
 have lm:(mP T M).length<=20:=by unfold mP;rw[aC,af,af];have:=cp (λt:Th=>t.k.mk) T;omega
 let A:Sl:=.q (dl l);let B:Sl:=.q (.b0 (R.map D.str));let C:Sl:=.q (.b0 ((mP T M).map pD));let E:Sl:=.q (.b0 (O'.map D.str));let J:=λ(i:Nat) (f:aU)=>∃(W:List Wy) (H I N P Q a:Sl),f=[A,B,C,E,.M (c8 ll W),H,I,N,P,Q,a]/\W.length<=i/\(∀x∈W,N5 T M x)/\(W.map λw=>[w.r,w.w]).Nodup;have n5:gd l 22 % 5<5:=aE _ (by decide);refine Jb U (uE (zK U (uE (zK U (uE (Ja (QK (uA (uv (uv (x:=dl l) U U (yh (i:=22) (by omega))) U (md (b:=5) (by decide))) ⟨gd l 22 % 5,U,by omega,J,⟨[],_,_,_,_,_,_,U,aL _,λw G=>(by cases G),.nil⟩,?_,?_⟩))))))))
 .rintro i _ _ hd ⟨W,H,I,N,P,Q,a,rfl,lW,ok,F⟩;obtain⟨hi,rfl⟩:=F7 hd;let z:=gd l (23+i);let r:=R.getD (z % R.length) "";let x:=O'.getD (z / 3 % 5) "";let g:=R.getD (z / 15 % R.length) "";let mi:=z / 45 % (2+(mP T M).length);let m:=(drL T M).getD mi O;have ld:(drL T M).length=2+(mP T M).length:=by unfold drL;rw[aP,aP,af];omega
  have hmi:mi<(drL T M).length:=by rw[ld];exact aE _ (by omega)
  have o:m∈drL T M:=vh hmi;have lenR:∀f:aU,cV 1 f=Z (.b0 (R.map D.str),f)->c1 vH ai f=Z (dN R.length,f):=λf h=>u5 h (by show Z (D.int (R.map D.str).length)=_;rw[af]);refine⟨_,U,uE (uU (uA (uv (x:=dl l) (y:=dN (23+i)) U U (yh (by omega))) ?_))⟩;refine uE (MN (uA (wb (uu (uv (x:=.b0 (R.map D.str)) U (uv (x:=dN z) U (lenR _ U) (md j)) (BR (aE _ j))) (uu (uv (x:=.b0 (O'.map D.str)) U (uv (uv (x:=dN z) U U (dv (b:=3) (by decide) (by decide))) U (md (b:=5) (by decide))) (BR (L:=O') (show _ % 5<5 from aE _ (by decide)))) (uu (uv (x:=.b0 (R.map D.str)) U (uv (uv (x:=dN z) U U (dv (b:=15) (by decide) (by decide))) (lenR _ U) (md j)) (BR (aE _ j))) U))) (bK U)) ⟨_,U,?_⟩));let S:aU:=[A,B,C,E,.M (W.map ll),.q (dN i),.q (dN z),.q (.str r),.q (.str x),.q (.str g),a];refine X' (R:=λf=>f=S) U ?_;rintro _ rfl;have em:cL (vV (cL (uK je)) (cL (uF 1 [] (iL ak) (gN 0) vC (c2 ea aa aw)))) S=Z (.b0 ((drL T M).map oS),S):=(u4 (vK (xs:=[.E,.E]) U (u4 (wu pD (λq=>.str q.1) (mP T M) U (by omega) λq v=>⟨_,_,U,U,U⟩)) (by rw[af];show 2+_<=1000;omega))).t (by unfold drL;rw[aS,aS,aW];rfl);refine uE (uU (uA (uv em (uv (y:=dN (2+(mP T M).length)) (uv (x:=dN z) U U (dv (b:=45) (by decide) (by decide))) (uv (y:=dN (mP T M).length) U (u5 U (by show Z (D.int ((mP T M).map pD).length)=_;rw[af])) U) (md (by omega))) (WQ oS O hmi)) ?_));let p:Wy->Bool:=λw=>(w.r==r)&&((w.w==x)&&γ);have ec:Gf (cT (c2 w? (cL (uF 1 [7,8] (iL aX) (gN 0) (cT (c2 (er δ) (K8 aa O (Z 2)) (uO cB))) aa)) (cL (uK uQ)))) [A,B,C,E,.M (W.map ll),.q (dN i),.q (dN z),.q (.str r),.q (.str x),.q (.str g),.q (oS m)]=Z ((W.filter p).isEmpty,[A,B,C,E,.M (W.map ll),.q (dN i),.q (dN z),.q (.str r),.q (.str x),.q (.str g),.q (oS m)]):=by refine V9 (u6 (uv (u4 (wt ll ll p W (ρ1:=[A,B,C,E,.q (.b0 (W.map ll)),.q (dN i),.q (dN z),.q (.str r),.q (.str x),.q (.str g),.q (oS m)]) U (by omega) λw v=>⟨[.q (ll w),.q (.str r),.q (.str x)],_,U,u6 (uv U U (adR w.r w.w r x)),λv=>⟨_,U,U⟩,λv=>U⟩)) U ?_));cases W.filter p<;>rfl
  refine T5 (uA ec ⟨λc=>I0 (uA (Ah (es:=W.map ll) U (d:=ll ⟨r,x,g,m⟩) U U (by rw[af];omega)) ⟨W++[⟨r,x,g,m⟩],_,_,_,_,_,_,by rw[aZ];rfl,by rw[aC];exact pQ lW,snoc ok ⟨vh (aE _ j),vh (show _ % 5<5 from aE _ (by decide)),vh (aE _ j),λy e=>?_⟩,?_⟩),λv=>zK U ⟨W,_,_,_,_,_,_,U,by omega,ok,F⟩⟩)
  .have o:Z y∈drL T M:=by rw[<-e];exact o
   have o:Z y∈(mP T M).map λq=>Z q.1:=by simpa [drL]using o
   obtain⟨q,hq,e⟩:=aG.1 o;cases e;rw[<-N7];exact bZ hq
  .rw[aZ,cq];refine⟨F,by simp,λy X z' Y e=>?_⟩;rw[aS,dU,bT]at Y;rw[e,Y]at X;obtain⟨w,G,e2⟩:=aG.1 X;have u:w.r=r/\w.w=x:=by simpa using e2
   have:w∈W.filter p:=bb.2 ⟨G,by show ((w.r==r)&&((w.w==x)&&γ))=γ;rw[u.1,u.2];simp⟩;rw[List.isEmpty_iff.1 c]at this;cases this
 .rintro _ ⟨W,H,I,N,P,Q,a,rfl,lW,ok,F⟩;rw[af,bF]at lW;exact Oa (uA U ⟨W,by omega,ok,F,U⟩)
def Kp{a:Type}(l:List a)(j:Nat):(l.drop j++l.take j).Perm l:=(List.perm_append_comm).t (by rw[js])
def Uc{T T0:List Th}(p:T.Perm T0){t:Th}(h:MJ T0 t):Fk T t:=by
 have i:∀u∈T0,u.k=.room->u.n∈i2 T:=λu a f=>bZ (bb.2 ⟨p.mem_iff.2 a,aT f⟩);have e:∀u∈T0,u.k.hd=γ->u.n∈rz T:=λu a f=>bZ (bb.2 ⟨p.mem_iff.2 a,f⟩);obtain⟨n,w,k,s⟩:=t;rcases h with ⟨b,c⟩|⟨b,u,a,c,d⟩|⟨b,u,a,c,d⟩
 .simp only at b c;subst b c;exact trivial
 .simp only at b c;subst b c;exact i u a d
 .simp only at b c;subst c;cases k with
  |room=>cases b
  |you=>cases b
  |plain=>exact e u a d
  |fixed=>exact e u a d
  |box=>exact e u a d
  |lamp=>exact e u a d
def abR{P:Kd->Prop}(a:P .room)(b:P .you)(c:P .plain)(d:P .fixed)(e:P .box)(f:P .lamp):∀k,P k:=λk=>by cases k<;>assumption
theorem seg{N:aB}(a:Nat):∀n,a+n<=N.length->(az n).map (λk=>nA N (a+k))=(N.drop a).take n
 |0,_=>by simp
 |n+1,h=>by rw[jJ,aZ,seg a n (by omega),fT,eA,aM (by omega)];unfold nA;rw[aS,dU,bN,aM (by omega)];rfl
def big{N:aB}(h:N.length=14){r n q:Nat}(f:r<=3)(c:n<=5)(d:q<=2):((N.take r++nA N 3::(az n).map λk=>nA N (4+k))++(az q).map λk=>nA N (10+k)).Sublist N:=by
 rw[seg 4 n (by omega),seg 10 q (by omega),b8];have e:N.take 3++(nA N 3::((N.drop 4).take 6++N.drop 10))=N:=by
  have a:(N.drop 4).take 6++N.drop 10=N.drop 4:=by have:=js 6 (N.drop 4);rw[List.drop_drop]at this;exact this
  rw[a];have b:N.drop 3=nA N 3::N.drop 4:=by rw[jg (by omega:3<N.length)];unfold nA;rw[bN,aM (by omega)];rfl
  rw[<-b,js]
 have s:(N.take r++(nA N 3::((N.drop 4).take n++(N.drop 10).take q))).Sublist (N.take 3++(nA N 3::((N.drop 4).take 6++N.drop 10))):=
  (nh (by omega)).append (.cons₂ _ ((nh (by omega)).append (jx _ _)))
 rw[e]at s;exact s
def Pk{l:List Nat}{N:aB}{T0:List Th}{M:List Mk}{dk:aB}{W:List Wy}{q:Nat}(hN:Nms N)(d:Lm l N T0)(j:Nat)(G:q<=2)(eM:M.map Mk.n=(az q).map λk=>nA N (10+k))(mo:∀m∈M,m.ok)(hd:dk.Sublist (i2 (T0.drop j++T0.take j)))(w4:W.length<=4)(wo:∀w∈W,N5 (T0.drop j++T0.take j) M w)(wn:(W.map λw=>[w.r,w.w]).Nodup):
  fh (T0.drop j++T0.take j) M dk W/\(T0.drop j++T0.take j).length<=9/\M.length<=2/\(i2 (T0.drop j++T0.take j)).length<=3:=by
 have p:=Kp T0 j;obtain⟨r,n,y,P,r1,r3,hn,C,eP,hP⟩:=d.ex;have I:=hN.len;let R:=(N.take r).map L';let o:Th:=⟨nA N 3,["me", "myself"],.you,Z y⟩;have lR:R.length=r:=by show ((N.take r).map L').length=r;rw[af,cm];omega
 have lP:P.length=n:=by have:=bL cX eP;rw[af,af,bF]at this;exact this
 have lM:M.length=q:=by have:=bL cX eM;rw[af,af,bF]at this;exact this
 have B:∀t∈R,t.k=.room:=λt h=>by obtain⟨x,_,rfl⟩:=aG.1 h;rfl
 have v3:∀p:Th->Bool,T0.filter p=R.filter p++((if p o=γ then [o]else [])++P.filter p):=λp=>by rw[C,oW,iJ];show R.filter p++(if p o=γ then o::P.filter p else P.filter p)=_;split<;>rfl
 have all_:∀(p:Kd->Bool) (L:List Th),(∀t∈L,p t.k=γ)->L.filter (λt=>p t.k)=L:=λp L h=>ou.2 h;have non_:∀(p:Kd->Bool) (L:List Th),(∀t∈L,p t.k=δ)->L.filter (λt=>p t.k)=[]:=λp L h=>kG.2 λt a z=>by rw[h t a]at z;cases z
 have plk:∀k:Kd,k.pl=γ->decide (k=.room)=δ/\decide (k=.you)=δ:=abR (λz=>by cases z) (λz=>by cases z) (λv=>⟨U,U⟩) (λv=>⟨U,U⟩) (λv=>⟨U,U⟩) (λv=>⟨U,U⟩);have fr:T0.filter (λt=>decide (t.k=.room))=R:=by rw[v3,all_ (λk=>decide (k=.room)) R λt h=>by rw[B t h];rfl,non_ (λk=>decide (k=.room)) P λt h=>(plk t.k (hP t h)).1];exact b9 R
 have Y:T0.filter (λt=>decide (t.k=.you))=[o]:=by rw[v3,non_ (λk=>decide (k=.you)) R λt h=>by rw[B t h];rfl,non_ (λk=>decide (k=.you)) P λt h=>(plk t.k (hP t h)).2];rfl
 have Q:T0.filter (λt=>t.k.pl)=P:=by rw[v3,non_ Kd.pl R λt h=>by rw[B t h];rfl,all_ Kd.pl P hP];rfl
 have eN:T0.map Th.n=N.take r++nA N 3::(az n).map λk=>nA N (4+k):=by
  rw[C,aZ,aS];have c:((N.take r).map L').map Th.n=N.take r:=by rw[aW];exact hZ _
  have f:P.map Th.n=(az n).map λk=>nA N (4+k):=by have:=bL (c8 c7) eP;rw[aW,aW]at this;exact this
  rw[c,f]
 have sub:(T0.map Th.n++M.map Mk.n).Sublist N:=by rw[eN,eM];exact big I r3 hn G
 have pN:((T0.drop j++T0.take j).map Th.n++M.map Mk.n).Perm (T0.map Th.n++M.map Mk.n):=(p.map _).append_right _;have A:(T0.map Th.n).Nodup:=(cq.1 (hN.nd.sublist sub)).1;have wP:∀t∈P,∃k,k<5/\t.n=nA N (4+k)/\t.w=rr l k:=λt h=>by have E:t.nw∈P.map Th.nw:=bZ h;rw[eP]at E;obtain⟨k,F,e⟩:=aG.1 E;have S:(nA N (4+k),rr l k)=(t.n,t.w):=e;injection S with c f;exact⟨k,by have:=bA.1 F;omega,c.symm,f.symm⟩
 have wT:∀t∈T0.drop j++T0.take j,t.k.pl=γ->t∈P:=λt a F=>by
  have:t∈T0.filter (λt=>t.k.pl):=bb.2 ⟨p.mem_iff.1 a,F⟩
  rwa [Q]at this
 have lT:(T0.drop j++T0.take j).length=r+1+n:=by rw[p.length_eq,C,aC,aP,lP];show R.length+_=_;rw[lR];omega
 have lr:(i2 (T0.drop j++T0.take j)).length=r:=by unfold i2;rw[af,(p.filter _).length_eq,fr,lR]
 have y1:((T0.drop j++T0.take j).filter λt=>decide (t.k=.you)).map Th.n=[nA N 3]:=by have:=p.filter λt=>decide (t.k=.you);rw[Y]at this;rw[List.perm_singleton.1 this];rfl
 refine⟨?_,by omega,by omega,by omega⟩;constructor
 .omega
 .rw[(p.filter _).length_eq,fr,lR];exact r1
 .rw[(p.filter _).length_eq,fr,lR];omega
 .unfold yN;rw[y1];rfl
 .rw[(p.filter _).length_eq,Q,lP];omega
 .omega
 .exact mo
 .exact λx b=>hN.nm x (sub.subset (pN.mem_iff.1 b))
 .exact pN.nodup_iff.2 (hN.nd.sublist sub)
 .exact λt a=>Uc p (d.j2.all t (p.mem_iff.1 a))
 .obtain⟨B,h⟩:=d.j2.rank A;refine⟨B,λt a=>?_⟩;obtain⟨E,h2⟩:=h t (p.mem_iff.1 a);refine⟨by rw[p.length_eq];exact E,λq G=>?_⟩;obtain⟨h3,u,H,e⟩:=h2 q G;exact⟨h3,u,p.mem_iff.2 H,e⟩
 .intro t a;have h:=p.mem_iff.1 a;rw[C]at h;rcases bq.1 h with h|h
  .obtain⟨x,b,rfl⟩:=aG.1 h;exact BS (w:=["room"]) (by decide) (by decide) (by decide +kernel) (by decide)
  .rcases aO.1 h with rfl|h
   .exact BS (w:=["me", "myself"]) (by decide) (by decide) (by decide +kernel) (by decide +kernel)
   .obtain⟨k,_,_,e⟩:=wP t h;rw[e];have:=Ll l k;exact BS (by omega) (by omega) (λx b=>ba _ (ba _ (ba _ (T8 b)))) (adO l k)
 .intro t a u H J uk hne;obtain⟨k,k5,c,f⟩:=wP t (wT t a J);obtain⟨i,i5,T,X⟩:=wP u (wT u H uk);unfold O9;rw[f,X];exact abP l k5 i5 λz=>hne (by rw[c,T,z])
 .intro t a J;obtain⟨k,_,_,e⟩:=wP t (wT t a J);rw[e];exact⟨(Ll l k).2,λx b=>T8 b⟩
 .have:=hd.length_le;omega
 .refine hd.nodup ?_;unfold i2;exact(kR.map _).nodup ((p.map _).nodup_iff.2 A)
 .exact λx b=>hd.subset b
 .omega
 .exact wo
 .exact wn
def cd(x:Str):List Nat:=x.cps.toList
def Ax(x y:Str):cd (x++y)=cd x++cd y:=by show (x.cps++y.cps).toList=_;exact kT
def Ud{x y:Str}(h:cd x=cd y):x=y:=sU h
def w5(x:Str):x.length=(cd x).length:=rfl
def fl(l:aB):List Nat:=(l.map λp=>32::cd p).flatten
abbrev jn(l:aB):Str:=jY " " l
def Oe(a:aB):∀(acc:Array Nat),((a.foldl (λacc p=>acc++(" " : Str).cps++p.cps) acc).toList)=acc.toList++fl a:=by
 induction a with
 |nil=>intro acc;simp[fl]
 |cons p r b=>
  intro acc;rw[iN,b];have e:(" " : Str).cps.toList=[32]:=by decide +kernel
  unfold fl;rw[kT,kT,e,aS,List.flatten_cons];show acc.toList++[32]++cd p++_=acc.toList++(32::cd p++_);simp
def XS(p:Str)(r:aB):cd (jn (p::r))=cd p++fl r:=Oe r p.cps
def Lo(a:Str)(b:aB):fl (a::b)=32::(cd a++fl b):=rfl
def abS:fl []=[]:=rfl
def adS{W:aB}(h:W≠[]):32::cd (jn W)=fl W:=by
 cases W with
 |nil=>exact ar U h
 |cons w W=>rw[XS,Lo]
theorem Ue{c:Nat}:∀{l:aB},(∀x∈l,x.length<=c)->(l.map (·.length)).sum<=l.length * c
 |[],_=>by simp
 |x::l,h=>by have b:=h x aY;have d:=Ue λy a=>h y (ba _ a);rw[aS,List.sum_cons,aP,qV];omega
theorem Ug{c:Nat}:∀{l:aB},(∀x∈l,x.length<=c)->(fl l).length<=l.length * (c+1)
 |[],_=>by simp[fl]
 |x::l,h=>by have a:=h x aY;have d:=Ug λy b=>h y (ba _ b);rw[w5]at a;rw[Lo,aP,aC,aP,qV];omega
def abT{c:Nat}{l:aB}(h:∀x∈l,x.length<=c)(a:l≠[]):(jn l).length<=l.length * (c+1):=by have:=Ug h;rw[<-adS a,aP]at this;rw[w5];omega
theorem A1:∀l:aB,zS (l.map D.str)=Z l
 |[]=>rfl
 |x::l=>by rw[aS];unfold zS;rw[A1 l]
def WT{z:Str}(b:z.length<=1){l:aB}(a:l.length<=200)(h:∀x∈l,x.length<=20000):t? (.str z) (.b0 (l.map D.str))=Z (.str (jY z l)):=by unfold t?;dsimp only;rw[A1];dsimp only;rw[ah];have c:=Ue h;have d:l.length * 20000<=200 * 20000:=Nat.mul_le_mul_right _ a;have e:l.length * z.length<=200 * 1:=qk a b;omega
def Pt:L4.D->Prop
 |.str x=>x.length<=60
 |.int v=>0<=v/\v<=3
 |.E=>True
 |_=>False
inductive Tst where
 |at (a b:Str)|has (a:Str)|seen (a:Str)|mark (a:Str) (v:Int)|kind (a k:Str)|word (w:Str)|lit|no (s:Tst)|bo (s t:Tst)
def vr:Tst->L4.D
 |.at a b=>.cx [.str "at", .str a,.str b]
 |.has a=>.cx [.str "has", .str a]
 |.seen a=>.cx [.str "seen", .str a]
 |.mark a v=>.cx [.str "marked", .str a,.int v]
 |.kind a k=>.cx [.str "kind", .str a,.str k]
 |.word w=>.cx [.str "word", .str w]
 |.lit=>.cx [.str "lit"]
 |.no s=>.cx [.str "not", vr s]
 |.bo s t=>.cx [.str "both", vr s,vr t]
def spO:Tst->L4.D
 |.at a b=>atO a b
 |.has a=>hsO a
 |.seen a=>seO a
 |.mark a v=>mkO a v
 |.kind a k=>kiO a k
 |.word w=>woO w
 |.lit=>liO
 |.no s=>noO (spO s)
 |.bo s t=>boO (spO s) (spO t)
def spW:Tst->List L4.D
 |.at a b=>[.str "at", .str a,.str b]
 |.has a=>[.str "has", .str a]
 |.seen a=>[.str "seen", .str a]
 |.mark a v=>[.str "marked", .str a,.int v]
 |.kind a k=>[.str "kind", .str a,.str k]
 |.word w=>[.str "word", .str w]
 |.lit=>[.str "lit"]
 |.no s=>.str "not" ::spW s
 |.bo s t=>.str "both" ::(spW s++spW t)
def dp:Tst->Nat
 |.no s=>dp s+1
 |.bo s t=>max (dp s) (dp t)+1
 |_=>0
theorem Fn:∀(s:Tst) (n:Nat),dp s<n->wV n [vr s]=Z (spO s)
 |s,0,h=>ar h (p8 _)
 |.at _ _,n+1,_=>by kernel_rfl
 |.has _,n+1,_=>by kernel_rfl
 |.seen _,n+1,_=>by kernel_rfl
 |.mark _ _,n+1,_=>by kernel_rfl
 |.kind _ _,n+1,_=>by kernel_rfl
 |.word _,n+1,_=>by kernel_rfl
 |.lit,n+1,_=>by kernel_rfl
 |.no s,n+1,h=>by have c:=Fn s n (by simp only[dp]at h;omega);exact uI U ((wx U).t ((wx U).t ((wx U).t ((wx U).t ((wx U).t ((wx U).t (uZ ((vv U).t (uT (ET (uu (ur U c) U) U))))))))))
 |.bo s t,n+1,h=>by have a:=Fn s n (by simp only[dp]at h;omega);have b:=Fn t n (by simp only[dp]at h;omega);exact uI U ((wx U).t ((wx U).t ((wx U).t ((wx U).t ((wx U).t ((wx U).t ((wx U).t (uZ ((vv U).t (uT (ET (uu (ur U a) (uu (ur U b) U)) U)))))))))))
def M?(a:List L4.D):Prop:=∀d∈a,Pt d/\d≠.E
def Fo{x:Str}(h:x.length<=60):Pt (.str x)/\D.str x≠.E:=⟨h,λz=>by cases z⟩
inductive De where
 |mv (a b:Str)|pu (a:Str) (v:Int)
def deW:De->List L4.D
 |.mv a b=>[.str "move", .str a,.str b]
 |.pu a v=>[.str "put", .str a,.int v]
def G?(d:De):L4.D:=.cx (deW d)
def deO:De->L4.D
 |.mv a b=>mvO a b
 |.pu a v=>puO a v
def WU(d:De):CV [G? d]=Z (deO d):=by cases d<;>kernel_rfl
def ne_nil{b:List L4.D}{l:List L3.Dq}(h:xc b=Z l)(hd:vT l<=19):er γ (.b0 b) (.b0 [])=Z (.I (!decide (b=[]))):=by
 cases b with
 |nil=>rfl
 |cons x c=>
  rw[aR (List.cons_ne_nil x c)];obtain⟨y,a,rfl⟩:∃y a,l=y::a:=by
   unfold xc at h;split at h
   .split at h
    .cases h;exact⟨_,_,U⟩
    .cases h
   .cases h
  have d:G3 γ (.b0 (x::c)) (.b0 [])=O:=rfl;have e:mq (.b0 (x::c))=Z (.b0 (y::a)):=by unfold mq;rw[h]
  have f:g? (.b0 (y::a))<=20:=by rw[g?];omega
  unfold er;rw[d];show G4 γ _ _=_;unfold G4;rw[e,show mq (.b0 [])=Z (.b0 []) from U];show (if RF (.b0 (y::a)) (.b0 [])&&decide (g? (.b0 (y::a))<=20)&&decide (g? (.b0 [])<=20)then Z (D.I (!qq (.b0 (y::a)) (.b0 [])))else O)=_;rw[aT f];rfl
theorem Jd:∀l:List (Str×Int),∃m,xc (l.map pD)=Z m/\vT m<=1
 |[]=>⟨[],U,by decide⟩
 |x::l=>by obtain⟨m,a,b⟩:=Jd l;refine⟨.cx [.str x.1,.int x.2]::m,by rw[aS];unfold xc;rw[a];rfl,?_⟩;unfold vT;exact qY.2 ⟨aL 1,b⟩
def tx(f:Str):aB:=if f="one" then ["it"]else if f="two" then ["it", "other", "it"]else []
def n7(T:List Th):aB:=(T.filter λt=>!decide (t.k=.room)).map Th.n
def y?(T:List Th):aB:=i2 T++[yN T,"here"]++(T.filter λt=>decide (t.k=.box)).map Th.n
def fm4{P:Str->Prop}(b:P "one")(c:P "two")(d:P "alone")(e:P "way"):∀f∈o?,P f:=λf a=>by simp only[o?,aO,cy,or_false]at a;rcases a with rfl|rfl|rfl|rfl<;>assumption
section
variable{T:List Th}{M:List Mk}{dk:aB}{W:List Wy}{V:List Vb}{f:Str}
def XT(b:f∈o?):∀x∈tx f,By f x:=by
 refine fm4 (P:=λf=>∀x∈tx f,By f x) ?_ ?_ ?_ ?_ f b
 .intro x a;have:x="it" := by simpa [tx]using a
  subst this;exact .inl ⟨U,by decide⟩
 .intro x a;have:x∈(["it", "other", "it"]:aB):=a;simp only[aO,cy,or_false]at this;rcases this with rfl|rfl|rfl
  .exact .inl ⟨U,by decide⟩
  .exact .inr ⟨U,U⟩
  .exact .inl ⟨U,by decide⟩
 .intro x a;have:x∈([]:aB):=a;cases this
 .intro x a;have:x∈([]:aB):=a;cases this
def XU(a:f∈o?){x:Str}(h:x∈n7 T++tx f):Tm f (T.map Th.n) x:=by
 rcases bq.1 h with h|h
 .obtain⟨t,b,rfl⟩:=aG.1 h;exact .inl (bZ (bb.1 b).1)
 .exact .inr (.inr (XT a x h))
def y_T(g:fh T M dk W):∃t∈T,t.n=yN T/\t.k=.you:=by
 have h:yN T∈(T.filter λt=>decide (t.k=.you)).map Th.n:=by rw[g.y1];exact bT.2 U
 obtain⟨t,a,e⟩:=aG.1 h;exact⟨t,(bb.1 a).1,e,bp (bb.1 a).2⟩
def XW(g:fh T M dk W){x:Str}(h:x∈y? T):Tm f (rz T) x:=by
 have b:∀t∈T,t.k.hd=γ->t.n∈rz T:=λt a c=>bZ (bb.2 ⟨a,c⟩);rcases bq.1 h with h|h
 .rcases bq.1 h with h|h
  .obtain⟨t,a,rfl⟩:=aG.1 h;exact .inl (b t (bb.1 a).1 (by rw[bp (bb.1 a).2];rfl))
  .simp only[aO,cy,or_false]at h;rcases h with rfl|rfl
   .obtain⟨t,a,e,k⟩:=y_T g;rw[<-e];exact .inl (b t a (by rw[k];rfl))
   .exact .inr (.inl U)
 .obtain⟨t,a,rfl⟩:=aG.1 h;exact .inl (b t (bb.1 a).1 (by rw[bp (bb.1 a).2];rfl))
def nm60{x:Str}(h:x∈nmL):x.length<=60:=Fm (by kernel_rfl) h
def by60{x:Str}(h:By f x):x.length<=60:=by rcases h with ⟨rfl,_⟩|⟨rfl,_⟩<;>exact bK (by kernel_rfl)
def Uh(g:fh T M dk W){N:aB}(hN:∀x∈N,x∈T.map Th.n){x:Str}(h:Tm f N x):x.length<=60:=by
 rcases h with h|rfl|h
 .exact nm60 (g.nm x (bD _ (hN x h)))
 .exact bK (by kernel_rfl)
 .exact by60 h
def Of:∀x∈rz T,x∈T.map Th.n:=λx h=>by obtain⟨t,a,rfl⟩:=aG.1 h;exact bZ (bb.1 a).1
def WV(g:fh T M dk W){q:Str×Int}(h:q∈mP T M):0<=q.2/\q.2<=3:=by
 rcases bq.1 h with h|h
 .obtain⟨t,_,rfl⟩:=aG.1 h;exact⟨(by show (0:Int)<=1;decide),(by show (1:Int)<=3;decide)⟩
 .obtain⟨m,b,rfl⟩:=aG.1 h;obtain⟨c,a,_,_⟩:=g.mo m b;exact⟨by show 0<=m.mo;omega,a⟩
def Me(x:Str)(h:gr x.length 60=γ):Pt (.str x)/\D.str x≠.E:=Fo (bK h)
def yj:M? []:=λd h=>by cases h
def u0{d:L4.D}{b:List L4.D}(h:Pt d/\d≠.E)(c:M? b):M? (d::b):=λe a=>by
 rcases aO.1 a with rfl|a
 .exact h
 .exact c e a
def TOk(w:L4.D)(f:Str)(n:Nat)(d:L4.D):Prop:=∃s,d=vr s/\Tk w f n (spO s)/\dp s<=n/\M? (spW s)
def XX(a:f∈o?){ρ:aU}(h:cV 1 ρ=Z (.str f,ρ)):EK (Gq [("one", (cL (uK fJ))),("two", (cL (uK i9)))]) ai (cL (uK uQ)) ρ=Z (.b0 ((tx f).map D.str),ρ):=by
 have key:∀f∈o?,∀ρ:aU,cV 1 ρ=Z (.str f,ρ)->EK (Gq [("one", (cL (uK fJ))),("two", (cL (uK i9)))]) ai (cL (uK uQ)) ρ=Z (.b0 ((tx f).map D.str),ρ):=by refine fm4 ?_ ?_ ?_ ?_<;>intro ρ h<;>(unfold EK;rw[show Gq [("one", (cL (uK fJ))),("two", (cL (uK i9)))] ρ=Z (.J [Sum.inr "one", Sum.inr "two"] [.b0 [.str "it"],.b0 [.str "it", .str "other", .str "it"]],ρ) from by kernel_rfl];simp only[h];kernel_rfl)
 exact key f a ρ h
end
def BU{c d:FT}{ρ ρ1 a:aU}{b:Bool}(e:c ρ=Z (γ,ρ1))(f:d ρ1=Z (b,a)):w6 c d ρ=Z (b,a):=by unfold w6;rw[e];exact f
def MP{a:Type}{L:List a}(F:a->L4.D){i:Nat}{ρ:aU}(h:cV i ρ=Z (.b0 (L.map F),ρ)):c1 vH (cV i) ρ=Z (dN L.length,ρ):=u5 h (by show Z (D.int (L.map F).length)=_;rw[af])
def MQ{a:Type}{L:List a}(F:a->L4.D)(y:a){i z:Nat}{e:FE}{ρ:aU}(b:0<L.length)(h:cV i ρ=Z (.b0 (L.map F),ρ))(c:e ρ=Z (dN z,ρ)):c2 ea (cV i) (c2 uR e (c1 vH (cV i))) ρ=Z (F (L.getD (z % L.length) y),ρ):=
 uv h (uv c (MP F h) (md b)) (WQ F y (aE _ b))
def pk_c{L:aB}{i z k:Nat}{e:FE}{c:FE}{ρ:aU}(a:0<k)(d:L.length=k)(h:c ρ=Z (.b0 (L.map D.str),ρ))(b:e ρ=Z (dN z,ρ)):c2 ea c (c2 uR e (cC (.int k))) ρ=Z (.str (L.getD (z % k) ""),ρ):=
 uv h (uv b U (md a)) (BR (by rw[d];exact aE _ a))
def En{c k:Nat}{ρ:aU}(h:cV 0 ρ=Z (dN c,ρ))(b:0<k)(a:k<1073741824):c2 vF aa (cC (.int k)) ρ=Z (dN (c / k),ρ):=uv h U (dv b a)
section
variable{T:List Th}{M:List Mk}{dk:aB}{W:List Wy}{V:List Vb}{f:Str}
def XY(g:fh T M dk W):0<(n7 T).length:=by obtain⟨t,a,_,k⟩:=y_T g;exact jo (bZ (bb.2 ⟨a,by rw[k];rfl⟩))
def XZ(g:fh T M dk W):(n7 T).length<=20:=by unfold n7;rw[af];have:=cp (λt:Th=>!decide (t.k=.room)) T;have:=g.len;omega
def X0:(tx f).length<=3:=by
 unfold tx;split
 .decide
 .split<;>decide
def Pl:0<(y? T).length:=by unfold y?;rw[aC,aC];show 0<_+2+_;omega
def pm{k c:Nat}{q:Str×Int}(h:0<=q.2/\q.2<=3):∃v:Int,uR (dN (c / k)) (.int (q.2+1))=Z (.int v)/\0<=v/\v<=q.2:=
 ⟨_,Ba (by omega),jK _ (by omega),by have:=oV ((c / k:Nat):Int) (show 0<q.2+1 by omega);omega⟩
def Kq(g:fh T M dk W)(u:f∈o?)(n c:Nat)(w:n=0\/∃m,n=m+1/\∀c,∃d,vS (m+1) [dN c,.str f,.b0 ((n7 T).map D.str),.b0 ((y? T).map D.str),.b0 ((mP T M).map pD),dN (m+1)]=Z d/\TOk (ij T M dk W V) f m d):∃d,vS (n+1) [dN c,.str f,.b0 ((n7 T).map D.str),.b0 ((y? T).map D.str),.b0 ((mP T M).map pD),dN (n+1)]=Z d/\TOk (ij T M dk W V) f n d:=by
 let X:=n7 T++tx f;have lx:X.length=(n7 T).length+(tx f).length:=aC;have x0:0<X.length:=by rw[lx];have:=XY g;omega
 let a:=X.getD (c / 9 % X.length) "";have hat:Tm f (T.map Th.n) a:=XU u (vh (aE _ x0));have o:=Uh g (λ_ h=>h) hat;let p:=(y? T).getD (c / 90 % (y? T).length) "";have hpt:Tm f (rz T) p:=XW g (vh (aE _ Pl));have S:=Uh g Of hpt;let A:Sl:=.q (dN c);let F:Sl:=.q (.str f);let l:Sl:=.q (.b0 ((n7 T).map D.str));let P:Sl:=.q (.b0 ((y? T).map D.str));let K:Sl:=.q (.b0 ((mP T M).map pD));let Y:Sl:=.q (.b0 (X.map D.str));refine Jb U ?_;unfold yI;refine uE (uU (uA (a:=.b0 (X.map D.str)) (b:=[A,F,l,P,K,.q (dN (n+1)),.un,.un,.un,.un,.un,.un]) ((u4 (vK U (XX u U) (by rw[af,af];have:=XZ g;have:=X0 (f:=f);omega))).t (by rw[<-aZ];rfl)) ?_));refine uE (uU (uA (a:=.str a) (b:=[A,F,l,P,K,.q (dN (n+1)),Y,.un,.un,.un,.un,.un]) (MQ D.str "" x0 U (En (k:=9) U (by decide) (by decide))) ?_));refine uE (uU (uA (a:=dN (c % 9)) (b:=[A,F,l,P,K,.q (dN (n+1)),Y,.q (.str a),.un,.un,.un,.un]) (uv U U (md (b:=9) (by decide))) ?_));obtain⟨r,hr⟩:∃r,c % 9=r:=⟨_,U⟩;have r9:r<9:=by rw[<-hr];exact aE _ (by decide)
 rw[hr];refine X' (R:=λt=>t=[A,F,l,P,K,.q (dN (n+1)),Y,.q (.str a),.q (dN r),.un,.un,.un]) U ?_;rintro _ rfl;have lit:∀r:Nat,Ws (uy (uO (a1 (cS "lit"))) [A,F,l,P,K,.q (dN (n+1)),Y,.q (.str a),.q (dN r),.un,.un,.un]) (λ_=>False) λd _=>TOk (ij T M dk W V) f n d:=λr=>vY (uA U ⟨.lit,U,abI,bH _,u0 (Me "lit" (by kernel_rfl)) yj⟩);have gt:∀(m r:Nat),n=m+1->cT (c2 FJ br ay) [A,F,l,P,K,.q (dN (n+1)),Y,.q (.str a),.q (dN r),.un,.un,.un]=Z (γ,[A,F,l,P,K,.q (dN (n+1)),Y,.q (.str a),.q (dN r),.un,.un,.un]):=λm r j=>by show Z (decide ((1:Int)<((n+1:Nat):Int)),_)=_;rw[aT (by omega)]
 have sb:∀(m:Nat) (t:aU),n=m+1->cV 5 t=Z (dN (n+1),t)->c2 DD br ay t=Z (dN (m+1),t):=λm t j h=>(uv h U U).t (by
  show Z (D.int (((n+1:Nat):Int) - 1),t)=_;rw[show ((n+1:Nat):Int) - 1=((m+1:Nat):Int) by omega])
 have cases9:r=0\/r=1\/r=2\/r=3\/r=4\/r=5\/r=6\/r=7\/r=8:=by omega
 clear hr r9;rcases cases9 with rfl|rfl|rfl|rfl|rfl|rfl|rfl|rfl|rfl
 .refine o3 U (vY (uA (wb (uu U (uu U (uu (MQ D.str "" Pl U (En (k:=90) U (by decide) (by decide))) U))) (bK U)) ?_));exact⟨.at a p,U,adz g u hat hpt,bH _,u0 (Me "at" (by kernel_rfl)) (u0 (Fo o) (u0 (Fo S) yj))⟩
 .exact f5 U (o3 U (vY (uA U ⟨.has a,U,abH g u hat,bH _,u0 (Me "has" (by kernel_rfl)) (u0 (Fo o) yj)⟩)))
 .exact f5 U (o3 U (vY (uA U ⟨.seen a,U,WJ g u hat,bH _,u0 (Me "seen" (by kernel_rfl)) (u0 (Fo o) yj)⟩)))
 .obtain⟨ml,m1,m2⟩:=Jd (mP T M);have C:=ne_nil m1 (by omega);refine f5 U (f5 U ?_);by_cases E:(mP T M).map pD=[]
  .rw[aT E]at C;exact f5 (BU U (u6 (uv U U C))) (f5 U (f5 U (f5 U (f5 U (lit 3)))))
  .rw[aR E]at C;have y:0<(mP T M).length:=by
    rcases oX (mP T M).length with z|z
    .exact ar (by rw[ip.1 z];rfl) E
    .exact z
   let q:=(mP T M).getD (c / 90 % (mP T M).length) ("", 0);have B:q∈mP T M:=vh (aE _ y);obtain⟨v,e1,v0,v1⟩:=pm (k:=900) (c:=c) (WV g B);have:=WV g B;refine o3 (BU U (u6 (uv U U C))) (uE (MN (uA (MQ pD ("", 0) y U (En (k:=90) U (by decide) (by decide))) ⟨[A,F,l,P,K,.q (dN (n+1)),Y,.q (.str a),.q (dN 3),.q (.str q.1),.q (.int q.2),.un],U,?_⟩)));refine vY (uA (wb (uu U (uu U (uu (uv (En (k:=900) U (by decide) (by decide)) U e1) U))) (bK U)) ?_);exact⟨.mark q.1 v,U,WK g u (.inl B) v0 v1,bH _,u0 (Me "marked" (by kernel_rfl)) (u0 (Fo (nm60 (TQ g B))) (u0 ⟨⟨v0,by omega⟩,λz=>by cases z⟩ yj))⟩
 .let k:=(["plain", "box", "lamp", "fixed"]:aB).getD (c / 90 % 4) "";have N:k∈(["plain", "box", "lamp", "fixed"]:aB):=vh (show _<4 from aE _ (by decide));have Q:k∈(["plain", "fixed", "box", "lamp", "room", "you"]:aB):=by simp only[aO,cy,or_false]at N ⊢;rcases N with h|h|h|h<;>simp[h]
  have k6:k.length<=60:=Fm (by kernel_rfl) N;refine f5 U (f5 U (f5 U (o3 U (vY (uA (wb (uu U (uu U (uu (pk_c (L:=["plain", "box", "lamp", "fixed"]) (i:=0) (k:=4) (by decide) U U (En (k:=90) U (by decide) (by decide))) U))) (bK U)) ?_)))));exact⟨.kind a k,U,WL g u hat Q,bH _,u0 (Me "kind" (by kernel_rfl)) (u0 (Fo o) (u0 (Fo k6) yj))⟩
 .refine f5 U (f5 U (f5 U (f5 U ?_)));by_cases hw:f="way"
  .subst hw;let x:=(["north", "up", "in"]:aB).getD (c / 90 % 3) "";have hx:x∈(["north", "up", "in"]:aB):=vh (show _<3 from aE _ (by decide));have hx':x∈O':=by
    have:((["north", "up", "in"]:aB).all λx=>decide (x∈O'))=γ:=by kernel_rfl
    exact bp (aH.1 this x hx)
   have x6:x.length<=60:=Fm (by kernel_rfl) hx;refine o3 U (vY (uA (wb (uu U (uu (pk_c (L:=["north", "up", "in"]) (i:=0) (k:=3) (by decide) U U (En (k:=90) U (by decide) (by decide))) U)) (bK U)) ?_));exact⟨.word x,U,WM hx',bH _,u0 (Me "word" (by kernel_rfl)) (u0 (Fo x6) yj)⟩
  .have e:er δ (.str f) (.str "way")=Z (.I δ):=by rw[wj,aR hw];rfl
   exact f5 (BU U (u6 (uv U U e))) (f5 U (f5 U (lit 5)))
 .refine f5 U (f5 U (f5 U (f5 U (f5 U ?_))));rcases w with rfl|⟨m,j,w⟩
  .exact f5 U (f5 U (lit 6))
  .obtain⟨d,e,s,rfl,G,h2,I⟩:=w (c / 7);refine o3 (BU U (gt m 6 j)) (vY (uA (wb (uu U (uu (ur (uu (En (k:=7) U (by decide) (by decide)) (uu U (uu U (uu U (uu U (uu (sb m _ j U) U)))))) (by rw[j];exact e)) U)) (bK U)) ?_));subst j;exact⟨.no s,U,TU G,by show dp s+1<=m+1;omega,u0 (Me "not" (by kernel_rfl)) I⟩
 .refine f5 U (f5 U (f5 U (f5 U (f5 U (f5 U ?_)))));rcases w with rfl|⟨m,j,w⟩
  .exact f5 U (lit 7)
  .obtain⟨d,e,s,rfl,G,h2,I⟩:=w (c / 11);obtain⟨d',e',s',rfl,H,h2',J⟩:=w (c / 13);refine o3 (BU U (gt m 7 j)) (uE (uU (uA (b:=[A,F,l,P,K,.q (dN (n+1)),Y,.q (.str a),.q (dN 7),.un,.un,.un]) (ur (uu (En (k:=11) U (by decide) (by decide)) (uu U (uu U (uu U (uu U (uu (sb m _ j U) U)))))) (by rw[j];exact e)) ?_)));refine vY (uA (wb (uu U (uu U (uu (ur (uu (En (k:=13) U (by decide) (by decide)) (uu U (uu U (uu U (uu U (uu (sb m _ j U) U)))))) (by rw[j];exact e')) U))) (bK U)) ?_);subst j;refine⟨.bo s s',U,QI G H,by show max (dp s) (dp s')+1<=m+1;omega,u0 (Me "both" (by kernel_rfl)) λd hd=>?_⟩;rcases bq.1 hd with hd|hd
   .exact I d hd
   .exact J d hd
 .exact f5 U (f5 U (f5 U (f5 U (f5 U (f5 U (f5 U (lit 8)))))))
theorem Pm(g:fh T M dk W)(a:f∈o?):∀(n c:Nat),∃d,vS (n+1) [dN c,.str f,.b0 ((n7 T).map D.str),.b0 ((y? T).map D.str),.b0 ((mP T M).map pD),dN (n+1)]=Z d/\TOk (ij T M dk W V) f n d
 |0,c=>Kq g a 0 c (.inl U)
 |n+1,c=>Kq g a (n+1) c (.inr ⟨n,U,λc=>Pm g a n c⟩)
end
def Lp{c a:FT}{ρ ρ1:aU}(b:c ρ=Z (δ,ρ1)):w6 c a ρ=Z (δ,ρ1):=by unfold w6;rw[b]
def DOk(w:L4.D)(f:Str)(d:L4.D):Prop:=∃s,d=G? s/\Dd w f (deO s)/\M? (deW s)
section
variable{T:List Th}{M:List Mk}{dk:aB}{W:List Wy}{V:List Vb}{f:Str}
def X2(b:f∈o?){x:Str}(h:x∈n7 T++tx f):Mv T f x:=by
 rcases bq.1 h with h|h
 .obtain⟨t,a,rfl⟩:=aG.1 h;exact .inl ⟨t,(bb.1 a).1,U,by simpa using (bb.1 a).2⟩
 .exact .inr (XT b x h)
def d12(a:f∈o?):∃b,oy δ (.str f) (.cx [.str "one", .str "two"])=Z (.I b)/\(b=γ->f∈(["one", "two"]:aB)):=
 fm4 (P:=λf=>∃b,oy δ (.str f) (.cx [.str "one", .str "two"])=Z (.I b)/\(b=γ->f∈(["one", "two"]:aB))) ⟨γ,by kernel_rfl,λx=>by decide⟩ ⟨γ,by kernel_rfl,λx=>by decide⟩ ⟨δ,by kernel_rfl,λz=>by cases z⟩ ⟨δ,by kernel_rfl,λz=>by cases z⟩ f a
def rm_T(g:fh T M dk W){x:Str}(h:x∈i2 T):Tm f (rz T) x/\∃t∈T,t.n=x/\t.k=.room:=by obtain⟨t,a,rfl⟩:=aG.1 h;have b:t.k=.room:=bp (bb.1 a).2;exact⟨.inl (bZ (bb.2 ⟨(bb.1 a).1,by rw[b];rfl⟩)),t,(bb.1 a).1,U,b⟩
def WW(g:fh T M dk W)(j:f∈o?)(c:Nat):∃d,yJ [dN c,.str f,.b0 ((n7 T).map D.str),.b0 ((y? T).map D.str),.b0 ((mP T M).map pD),.b0 ((i2 T).map D.str),.str (yN T)]=Z d/\DOk (ij T M dk W V) f d:=by
 let X:=n7 T++tx f;have lx:X.length=(n7 T).length+(tx f).length:=aC;have H:0<X.length:=by rw[lx];have:=XY g;omega
 have G:0<(i2 T).length:=by unfold i2;rw[af];exact g.r1
 let a:=X.getD (c / 5 % X.length) "";have hax:a∈X:=vh (aE _ H);have l:=Uh g (λs h=>h) (XU j hax);let p:=(y? T).getD (c / 50 % (y? T).length) "";have hpt:Tm f (rz T) p:=XW g (vh (aE _ Pl));let b:=(i2 T).getD (c / 50 % (i2 T).length) "";obtain⟨hbt,hbr⟩:=rm_T (f:=f) g (vh (aE _ G):b∈i2 T);let A:Sl:=.q (dN c);let F:Sl:=.q (.str f);let o:Sl:=.q (.b0 ((n7 T).map D.str));let P:Sl:=.q (.b0 ((y? T).map D.str));let K:Sl:=.q (.b0 ((mP T M).map pD));let R:Sl:=.q (.b0 ((i2 T).map D.str));let r:Sl:=.q (.str (yN T));let Y:Sl:=.q (.b0 (X.map D.str));let i:aU:=[A,F,o,P,K,R,r,Y,.q (.str a),.un,.un];refine Jb U ?_;unfold CU;refine uE (uU (uA (a:=.b0 (X.map D.str)) (b:=[A,F,o,P,K,R,r,.un,.un,.un,.un]) ((u4 (vK U (XX j U) (by rw[af,af];have:=XZ g;have:=X0 (f:=f);omega))).t (by rw[<-aZ];rfl)) ?_));refine uE (uU (uA (a:=.str a) (b:=[A,F,o,P,K,R,r,Y,.un,.un,.un]) (MQ D.str "" H U (En (k:=5) U (by decide) (by decide))) ?_));refine X' (R:=λI=>I=i) U ?_;rintro _ rfl;have E:∀k:Nat,c2 (er δ) (c2 uR aa cb) (cC (.int k)) i=Z (.I (decide (((c % 5:Nat):Int)=k)),i):=λk=>uv (uv (x:=dN c) U U (md (b:=5) (by decide))) U ((xb δ _ _).t (by cases decide (((c % 5:Nat):Int)=(k:Int))<;>rfl));have tail:Ws (bt (fc (cT (c2 (er δ) bP bw)) (uy (uO mT)) uD)
   (uy (uO mU)) i) (λs=>False) λd s=>DOk (ij T M dk W V) f d:=by
  have e:c2 (er δ) bP bw i=Z (.I (decide (a=yN T)),i):=uv U U ((wj δ a (yN T)).t (by cases decide (a=yN T)<;>rfl));by_cases h:a=yN T
  .rw[aT h]at e;refine o3 (u6 e) (vY (uA (wb (uu U (uu U (uu (MQ D.str "" G U (En (k:=50) U (by decide) (by decide))) U))) (bK U)) ?_));have S:Mv T f (yN T):=by rw[<-h];exact X2 j hax
   exact⟨.mv (yN T) b,U,Pg g j S hbt (λs=>hbr),u0 (Me "move" (by kernel_rfl)) (u0 (Fo (by rw[<-h];exact l)) (u0 (Fo (Uh g Of hbt)) yj))⟩
  .rw[aR h]at e;refine f5 (u6 e) (vY (uA (wb (uu U (uu U (uu (MQ D.str "" Pl U (En (k:=50) U (by decide) (by decide))) U))) (bK U)) ?_));exact⟨.mv a p,U,Pg g j (X2 j hax) hpt (λz=>ar z h),u0 (Me "move" (by kernel_rfl)) (u0 (Fo l) (u0 (Fo (Uh g Of hpt)) yj))⟩
 have C:Ws (bt (fc (w6 (cT (c2 (er δ) (c2 uR aa cb) ay)) (cT (c2 (oy δ) ai (uO j5)))) (uy (uO rF)) uD)
  (bt (fc (cT (c2 (er δ) bP bw)) (uy (uO mT)) uD)
   (uy (uO mU))) i) (λs=>False) λd s=>DOk (ij T M dk W V) f d:=by
  have e:=E 1;cases h:decide (((c % 5:Nat):Int)=(1:Nat))
  .rw[h]at e;exact f5 (Lp (u6 e)) tail
  .rw[h]at e;obtain⟨b,N,Q⟩:=d12 j;have B:=BU (u6 e) (u6 (uv (ρ:=i) (e:=cV 1) (e':=uO j5) U U N));cases b with
   |false=>exact f5 B tail
   |true=>have h4:c / 50 % 4<4:=aE _ (by decide);refine o3 B (vY (uA (wb (uu U (uu U (uu (uv (En (k:=50) U (by decide) (by decide)) U (md (b:=4) (by decide))) U))) (bK U)) ?_));exact⟨.pu "it" (c / 50 % 4:Nat),U,TV (q:=("it", 3)) g j (.inr ⟨.inl ⟨U,Q U⟩,Int.le_refl 3⟩) (by omega) (by show ((c / 50 % 4:Nat):Int)<=3;omega),u0 (Me "put" (by kernel_rfl)) (u0 (Me "it" (by kernel_rfl)) (u0 ⟨⟨by omega,by omega⟩,λz=>by cases z⟩ yj))⟩
 have e:=E 0;cases h:decide (((c % 5:Nat):Int)=(0:Nat))
 .rw[h]at e;exact f5 (Lp (u6 e)) C
 .rw[h]at e;obtain⟨ml,m1,m2⟩:=Jd (mP T M);have u:=ne_nil m1 (by omega);by_cases w:(mP T M).map pD=[]
  .rw[aT w]at u;exact f5 (BU (ρ1:=i) (u6 e) (u6 (uv U U u))) C
  .rw[aR w]at u;have m:0<(mP T M).length:=by
    rcases oX (mP T M).length with z|z
    .exact ar (by rw[ip.1 z];rfl) w
    .exact z
   let q:=(mP T M).getD (c / 50 % (mP T M).length) ("", 0);have t:q∈mP T M:=vh (aE _ m);obtain⟨v,J,v0,v1⟩:=pm (k:=500) (c:=c) (WV g t);have:=WV g t;refine o3 (BU (ρ1:=i) (u6 e) (u6 (uv U U u))) (uE (MN (uA (MQ pD ("", 0) m U (En (k:=50) U (by decide) (by decide))) ⟨[A,F,o,P,K,R,r,Y,.q (.str a),.q (.str q.1),.q (.int q.2)],U,?_⟩)));refine vY (uA (wb (uu U (uu U (uu (uv (En (k:=500) U (by decide) (by decide)) U J) U))) (bK U)) ?_);exact⟨.pu q.1 v,U,TV g j (.inl t) v0 v1,u0 (Me "put" (by kernel_rfl)) (u0 (Fo (nm60 (TQ g t))) (u0 ⟨⟨v0,by omega⟩,λz=>by cases z⟩ yj))⟩
end
def Je:wY []=Z (v9.map nf):=by kernel_rfl
def txL:aB:=["So be it.", " two  blanks ", "x", "refuses at it", eQ "~" 60]
def WX{x:Str}(h:x∈txL):AU [.str x]=Z (.I γ):=BP (aH.1 (show (txL.all λx=>τ (AU [.str x]))=γ by kernel_rfl) x h)
structure Rs where
 v:Vb
 ts:List Tst
 ds:List De
 tx:Str
 rf:Bool
def M'(r:Rs):L4.D:=.cx [.str r.v.n,.b0 (r.ts.map vr),.b0 (r.ds.map G?),.str r.tx,.I r.rf]
structure Og(w:L4.D)(V:List Vb)(r:Rs):Prop where
 v:r.v∈V++v9
 lt:r.ts.length<=2
 t:∀t∈r.ts,Tk w r.v.f 2 (spO t)/\dp t<=2/\M? (spW t)
 ld:r.ds.length<=2
 d:∀d∈r.ds,Dd w r.v.f (deO d)/\M? (deW d)
 x:r.tx∈txL
 rf:r.rf=γ->r.ds=[]
def adT{v:Vb}(h:v∈v6++v9):v.f∈o?:=bp (aH.1 (show ((v6++v9).all λv=>decide (v.f∈o?))=γ by kernel_rfl) v h)
def MR{e:FE}{ρ a:aU}{m:Nat}(h:e ρ=Z (dN m,a))(f:m<=100):u3 e ρ=Z ((az m).map λj:Nat=>D.int j,a):=by obtain⟨c,b,d,rfl,rfl⟩:=QK (kl:=λc b=>c=(az m).map (λj:Nat=>D.int j)/\b=a) (uA h ⟨m,U,f,U,U⟩);exact d
def X3(k:Kd):er γ (.str k.s) (.str "room")=Z (.I (!decide (k=.room))):=by cases k<;>kernel_rfl
def adU{ρ:aU}(T:List Th)(a:T.length<=1000){i:Nat}(hi:cV i ρ=Z (.b0 (T.map m3),ρ)):uF 1 [] (iL (cV i)) (gN 0) (cT (c2 (er γ) (c2 ea aa bV) cR)) (c2 ea aa aw) ρ=Z ((n7 T).map D.str,ρ):=by refine(wt m3 (λt=>.str t.n) (λt=>!decide (t.k=.room)) T (TH hi) a λt z=>⟨[.q (m3 t)],_,U,u6 (uv (uv U U U) U (X3 t.k)),λz=>⟨_,U,U⟩,λz=>U⟩).t ?_;unfold n7;rw[aW];rfl
def Ui{c:Type}(F:c->L4.D){l:List c}{a b:Nat}(h:a<=b)(f:b<=l.length):gi (l.map F) (Z (a:Int)) (Z (b:Int))=((l.drop a).take (b - a)).map F:=by
 unfold gi;have d:HT.fy (l.map F).length 0 (Z (a:Int))=a:=by rw[HT.He,af,iO (by omega)]
 have e:HT.fy (l.map F).length (l.map F).length (Z (b:Int))=b:=by rw[HT.He,af,iO f]
 rw[d,e,gZ,gY]
section
variable{T:List Th}{M:List Mk}{dk:aB}{W:List Wy}{V:List Vb}{f:Str}
def WY(g:fh T M dk W)(b:f∈o?):∃a:Nat->Tst,∀c,vS 3 [dN c,.str f,.b0 ((n7 T).map D.str),.b0 ((y? T).map D.str),.b0 ((mP T M).map pD),dN 3]=Z (vr (a c))/\Tk (ij T M dk W V) f 2 (spO (a c))/\dp (a c)<=2/\M? (spW (a c)):=
 nP (r:=λc s=>vS 3 [dN c,.str f,.b0 ((n7 T).map D.str),.b0 ((y? T).map D.str),.b0 ((mP T M).map pD),dN 3]=Z (vr s)/\Tk (ij T M dk W V) f 2 (spO s)/\dp s<=2/\M? (spW s)) λc=>by obtain⟨d,e,s,rfl,h⟩:=Pm (V:=V) g b 2 c;exact⟨s,e,h⟩
def WZ(g:fh T M dk W)(b:f∈o?):∃a:Nat->De,∀c,yJ [dN c,.str f,.b0 ((n7 T).map D.str),.b0 ((y? T).map D.str),.b0 ((mP T M).map pD),.b0 ((i2 T).map D.str),.str (yN T)]=Z (G? (a c))/\Dd (ij T M dk W V) f (deO (a c))/\M? (deW (a c)):=
 nP (r:=λc s=>yJ [dN c,.str f,.b0 ((n7 T).map D.str),.b0 ((y? T).map D.str),.b0 ((mP T M).map pD),.b0 ((i2 T).map D.str),.str (yN T)]=Z (G? s)/\Dd (ij T M dk W V) f (deO s)/\M? (deW s)) λc=>by obtain⟨d,e,s,rfl,h⟩:=WW (V:=V) g b c;exact⟨s,e,h⟩
def Uj(g:fh T M dk W){m:Nat}(hm:m<64)(c:Int):∃RS:List Rs,RS.length<=4/\(∀r∈RS,Og (ij T M dk W (vL m)) (vL m) r)/\zc [.int c,.b0 (T.map m3),.b0 ((mP T M).map pD),.b0 ((vL m).map nf)]=Z (.b0 (RS.map M')):=by
 suffices h:∃d,zc [.int c,.b0 (T.map m3),.b0 ((mP T M).map pD),.b0 ((vL m).map nf)]=Z d/\∃RS:List Rs,RS.length<=4/\(∀r∈RS,Og (ij T M dk W (vL m)) (vL m) r)/\d=.b0 (RS.map M') by obtain⟨_,e,RS,h1,h2,rfl⟩:=h;exact⟨RS,h1,h2,e⟩
 obtain⟨l,hl,el⟩:=Jc c 40 (by decide);have lT:=g.len;have lV:=Em m;let V:=vL m++v9;have v0:0<V.length:=by show 0<(vL m++v9).length;rw[aC];show 0<_+9;omega
 let A:Sl:=.q (.int c);let S:Sl:=.q (.b0 (T.map m3));let K:Sl:=.q (.b0 ((mP T M).map pD));let B:Sl:=.q (.b0 ((vL m).map nf));let C:Sl:=.q (dl l);let R:Sl:=.q (.b0 ((i2 T).map D.str));let q:Sl:=.q (.str (yN T));let p:Sl:=.q (.b0 ((n7 T).map D.str));let P:Sl:=.q (.b0 ((y? T).map D.str));let E:Sl:=.q (.b0 (V.map nf));have lbx:((T.filter λt=>decide (t.k=.box)).map Th.n).length<=13:=by rw[af];exact bQ (cp _ _) lT
 have lrm:(i2 T).length<=13:=by unfold i2;rw[af];exact bQ (cp _ _) lT
 let J:=λ(i:Nat) (ρ:aU)=>∃(RS:List Rs) (s1 s2 s3 s4 s5 s6 Y N H u:Sl),ρ=[A,S,K,B,C,R,q,p,P,E,.M (RS.map M'),s1,s2,s3,s4,s5,s6,Y,N,H,u]/\RS.length<=i/\∀r∈RS,Og (ij T M dk W (vL m)) (vL m) r;refine Jb U ?_;unfold BI;refine uE (uU (uA (a:=dl l) (u4 (ur U el)) ?_));refine uE (uU (uA (u4 (of_eq T (by omega) U .room)) ?_));refine uE (uU (uA (a:=.str (yN T)) (uv ((u4 (of_eq T (by omega) U .you)).t (by rw[g.y1])) U U) ?_));refine uE (uU (uA (u4 (adU T (by omega) U)) ?_));refine uE (uU (uA (a:=.b0 ((y? T).map D.str)) (u4 ((vK (u4 (vK (ys:=[.str (yN T),.str "here"]) U U (by rw[af];show (i2 T).length+2<=1000;omega))) (u4 (of_eq T (by omega) U .box)) (by rw[aC,af,af (as:=c8 Th.n _)];show (i2 T).length+2+_<=1000;omega)).t (by unfold y?;rw[aZ,aZ];rfl))) ?_));refine uE (uU (uA (a:=.b0 (V.map nf)) (u4 ((vK U (u4 (ur U Je)) (by rw[af,af];show _+9<=1000;omega)).t (by rw[<-aZ]))) ?_));refine uE (zK U ?_);refine uE (Ja (QK (uA (uv (uv (x:=dl l) U U (yh (i:=0) (by omega))) U (md (b:=5) (by decide))) ⟨gd l 0 % 5,U,by have:gd l 0 % 5<5:=aE _ (by decide);omega,J,⟨[],_,_,_,_,_,_,_,_,_,_,U,aL _,λw hw=>(by cases hw)⟩,?_,?_⟩)))
 .rintro i _ _ hd ⟨RS,s1,s2,s3,s4,s5,s6,Y,N,H,u,rfl,lR,ok⟩;obtain⟨hi,rfl⟩:=F7 hd;have i5:i<5:=cf hi (gb (aE _ (by decide)));let z:=(l.drop (1+7 * i)).take 7;have lz:z.length=7:=by show ((l.drop (1+7 * i)).take 7).length=7;rw[cm,dH];omega
  let v:=V.getD (gd z 0 % V.length) ⟨"", [],"", O⟩;have hv:v∈vL m++v9:=vh (aE _ v0);have hv6:v∈v6++v9:=by
   rcases bq.1 hv with h|h
   .exact bD _ (El h)
   .exact bG _ h
  have hf:=adT hv6;obtain⟨tf,htf⟩:=WY (V:=vL m) g hf;obtain⟨df,hdf⟩:=WZ (V:=vL m) g hf;let nt:=gd z 1 % 3;have nt3:nt<3:=aE _ (by decide);let nd:=gd z 1 / 12 % 3;have nd3:nd<3:=aE _ (by decide);let Q:=(az nt).map λk=>tf (gd z (2+k));let F:=(az nd).map λk=>df (gd z (4+k));let G:=decide (((gd z 1 / 3 % 4:Nat):Int)=0);let x:=txL.getD (gd z 6 % 5) "";have hx:x∈txL:=vh (show _<5 from aE _ (by decide));let I:Sl:=.q (dN i);let AT:Sl:=.q (dl z);let v1:Sl:=.q (.str v.n);let v2:Sl:=.q (.cx (v.o.map D.str));let X:Sl:=.q (.str v.f);let v4:Sl:=.q (oS v.j);let L:Sl:=.M (RS.map M');have ez:cL (EJ aX (sh (c2 vp ay (c2 xO c3 dc))) (sh (c2 vp gy (c2 xO c3 dc)))) [A,S,K,B,C,R,q,p,P,E,L,I,s2,s3,s4,s5,s6,Y,N,H,u]=Z (dl z,[A,S,K,B,C,R,q,p,P,E,L,I,s2,s3,s4,s5,s6,Y,N,H,u]):=by obtain⟨d,ρ,e,rfl,rfl⟩:=w_L (k:=λd ρ=>d=dl z/\ρ=[A,S,K,B,C,R,q,p,P,E,L,I,s2,s3,s4,s5,s6,Y,N,H,u]) (w_sx (e:=cV 4) (ρ:=[A,S,K,B,C,R,q,p,P,E,L,I,s2,s3,s4,s5,s6,Y,N,H,u]) (lo:=sh (c2 vp ay (c2 xO c3 dc))) (hi:=sh (c2 vp gy (c2 xO c3 dc))) (uA U ⟨l.map dN,U,w_oA (uA (uv U (uv U U (xq (.inl (by decide)))) U) ⟨((1+7 * i:Nat):Int),U,w_oA (uA (uv U (uv U U (xq (.inl (by decide)))) U) ⟨((8+7 * i:Nat):Int),U,by rw[Ui dN (by omega) (by omega),show 8+7 * i - (1+7 * i)=7 by omega];rfl,U⟩)⟩)⟩));exact e
  refine⟨_,U,uE (uU (uA ez ?_))⟩;refine uE (MN (uA (b:=[A,S,K,B,C,R,q,p,P,E,L,I,AT,s3,s4,s5,s6,Y,N,H,u]) (MQ nf ⟨"", [],"", O⟩ v0 U (uv (x:=dl z) U U (yh (i:=0) (by omega)))) ⟨[A,S,K,B,C,R,q,p,P,E,L,I,AT,v1,v2,X,v4,Y,N,H,u],U,?_⟩));have z1:∀ρ:aU,cV 12 ρ=Z (dl z,ρ)->c2 ea d6 ay ρ=Z (dN (gd z 1),ρ):=λρ h=>uv h U (yh (i:=1) (by omega));refine uE (uU (uA (a:=.b0 (Q.map vr)) (b:=[A,S,K,B,C,R,q,p,P,E,L,I,AT,v1,v2,X,v4,Y,N,H,u]) (u4 ((wu (λj:Nat=>D.int j) (λk=>vr (tf (gd z (2+k)))) (az nt) (MR (uv (z1 _ U) U (md (b:=3) (by decide))) (by show nt<=100;omega)) (by rw[bF];omega) λk hk=>⟨[.q (dN k),X,p,P,K,AT],[.q (dN k),X,p,P,K,AT],U,ur (uu (uv (x:=dl z) (y:=dN (2+k)) U U (yh (by have:=bA.1 hk;omega))) U) (htf _).1,U⟩).t (by rw[show Q.map vr=(az nt).map λk=>vr (tf (gd z (2+k))) from aW]))) ?_));refine uE (uU (uA (a:=.I G) (b:=[A,S,K,B,C,R,q,p,P,E,L,I,AT,v1,v2,X,v4,.q (.b0 (Q.map vr)),N,H,u]) (uv (uv (uv (z1 _ U) U (dv (b:=3) (by decide) (by decide))) U (md (b:=4) (by decide))) U ((xb δ _ _).t (by show Z (D.I _)=Z (D.I G);cases h:G<;>simp[G]at h<;>simp[h]))) ?_));refine uE (uU (uA (a:=.b0 (F.map G?)) (b:=[A,S,K,B,C,R,q,p,P,E,L,I,AT,v1,v2,X,v4,.q (.b0 (Q.map vr)),.q (.I G),H,u]) (u4 ((wu (λj:Nat=>D.int j) (λk=>G? (df (gd z (4+k)))) (az nd) (MR (uv (uv (z1 _ U) U (dv (b:=12) (by decide) (by decide))) U (md (b:=3) (by decide))) (by show nd<=100;omega)) (by rw[bF];omega) λk hk=>⟨[.q (dN k),X,p,P,K,R,q,AT],[.q (dN k),X,p,P,K,R,q,AT],U,ur (uu (uv (x:=dl z) (y:=dN (4+k)) U U (yh (by have:=bA.1 hk;omega))) U) (hdf _).1,U⟩).t (by rw[show F.map G?=(az nd).map λk=>G? (df (gd z (4+k))) from aW];rfl))) ?_));have oT:∀t∈Q,Tk (ij T M dk W (vL m)) v.f 2 (spO t)/\dp t<=2/\M? (spW t):=λt ht=>by obtain⟨k,_,rfl⟩:=aG.1 ht;exact(htf _).2
  have oD:∀d∈F,Dd (ij T M dk W (vL m)) v.f (deO d)/\M? (deW d):=λd hd=>by obtain⟨k,_,rfl⟩:=aG.1 hd;exact(hdf _).2
  have lt:Q.length<=2:=by show ((az nt).map _).length<=2;rw[af,bF];omega
  have ld:F.length<=2:=by show ((az nd).map _).length<=2;rw[af,bF];omega
  have fin:∀ds:List De,ds.length<=2->(∀d∈ds,Dd (ij T M dk W (vL m)) v.f (deO d)/\M? (deW d))->(G=γ->ds=[])->Ws (bt (uM 20 (c2 ea (cL (uK ra)) (c2 uR (c2 ea d6 gx) cb)))
    (uW (y7 10 (uO rg)))
    [A,S,K,B,C,R,q,p,P,E,L,I,AT,v1,v2,X,v4,.q (.b0 (Q.map vr)),.q (.I G),.q (.b0 (ds.map G?)),u]) (J (i+1)) λd s=>∃RS:List Rs,RS.length<=4/\(∀r∈RS,Og (ij T M dk W (vL m)) (vL m) r)/\d=.b0 (RS.map M'):=λds hl2 ff hrf=>by
   refine uE (uU (uA (a:=.str x) (b:=[A,S,K,B,C,R,q,p,P,E,L,I,AT,v1,v2,X,v4,.q (.b0 (Q.map vr)),.q (.I G),.q (.b0 (ds.map G?)),u]) (pk_c (L:=txL) (i:=0) (k:=5) (by decide) U (by kernel_rfl) (uv (x:=dl z) U U (yh (i:=6) (by omega)))) ?_));refine I0 (uA (Ah (es:=RS.map M') U (d:=M' ⟨v,Q,ds,x,G⟩) U U (by rw[af];omega)) ⟨RS++[⟨v,Q,ds,x,G⟩],_,_,_,_,_,_,_,_,_,_,by rw[aZ];rfl,by rw[aC];exact pQ lR,snoc ok ⟨hv,lt,oT,hl2,ff,hx,hrf⟩⟩)
  refine uE (T5 (uA (a:=G) (b:=[A,S,K,B,C,R,q,p,P,E,L,I,AT,v1,v2,X,v4,.q (.b0 (Q.map vr)),.q (.I G),.q (.b0 (F.map G?)),u]) U ⟨λh=>zK U (fin [] (by decide) (λd hd=>by cases hd) λs=>U),λh=>zK U (fin F ld oD λz=>by rw[h]at z;cases z)⟩))
 .rintro _ ⟨RS,s1,s2,s3,s4,s5,s6,Y,N,H,u,rfl,lR,ok⟩;rw[af,bF]at lR;exact Oa (uA U ⟨RS,by have:gd l 0 % 5<5:=aE _ (by decide);omega,ok,U⟩)
end
def Pn(b:List Int)(k:Nat):∃c,ye [.Q (b.map D.int),.int k]=Z (.int c):=by
 let d:aU:=[.q (.Q (b.map D.int)),.q (.int k)];have a:cT (c2 NA ai (c1 vH aa)) d=Z (decide ((k:Int)<((b.map D.int).length:Nat)),d):=rfl;rw[af]at a;by_cases h:k<b.length
 .rw[aT (by omega)]at a;refine⟨b[k],uI U (uZ ((vv a).t (uT (uv U U ?_))))⟩;exact xS (by rw[bu,aM h];rfl)
 .rw[aR (by omega)]at a;exact⟨0,uI U ((ux ((vE a))))⟩
def PD(T:List Th)(M:List Mk)(dk:aB)(W:List Wy)(m:Nat)(RS:List Rs):L4.D:=.cx [.b0 (T.map m3),.b0 (M.map mkS),.b0 (dk.map D.str),.b0 (W.map ll),.b0 ((vL m).map nf),.b0 (RS.map M')]
def W0(R:aB):(az R.length).map (λk=>R.getD k "")=R:=by refine pS (by rw[af,bF]) λi b a=>?_;rw[pT,oY,bN,aM a];rfl
def g3{k:Nat}(h:k<3):0<gd [1,4,16] k/\gd [1,4,16] k<1073741824:=by
 obtain rfl|rfl|rfl:k=0\/k=1\/k=2:=by omega
 all_goals decide
def Uk{l:List Nat}{N:aB}{T:List Th}(d:Lm l N T):∀t∈T,t.w.length<=3/\∀x∈t.w,x.length<=60:=λt c=>by
 obtain⟨r,n,y,P,_,_,_,i,eP,_⟩:=d.ex;rw[i]at c;rcases bq.1 c with h|h
 .obtain⟨x,_,rfl⟩:=aG.1 h;exact⟨by show 1<=3;decide,λx a=>Fm (L:=["room"]) (by kernel_rfl) a⟩
 .rcases aO.1 h with rfl|h
  .exact⟨by show 2<=3;decide,λx a=>Fm (L:=["me", "myself"]) (by kernel_rfl) a⟩
  .have b:t.nw∈P.map Th.nw:=bZ h;rw[eP]at b;obtain⟨k,_,e⟩:=aG.1 b;have f:(nA N (4+k),rr l k)=(t.n,t.w):=e;injection f with _ j;rw[<-j];exact⟨(Ll l k).2,λx a=>Fm (L:=wpL) (by kernel_rfl) (T8 a)⟩
def Ul(o:List Int):∃T M dk W m RS,fh T M dk W/\(∀t∈T,t.w.length<=3/\∀x∈t.w,x.length<=60)/\T.length<=9/\M.length<=2/\dk.length<=3/\W.length<=4/\m<64/\RS.length<=4/\(∀r∈RS,Og (ij T M dk W (vL m)) (vL m) r)/\BK [.Q (o.map D.int)]=Z (PD T M dk W m RS):=by
 obtain⟨Q,X⟩:=Pn o 0;obtain⟨u,Y⟩:=Pn o 1;obtain⟨l,d,el⟩:=Jc Q 32 (by decide);obtain⟨N,eN,hN⟩:=T6 d;obtain⟨T0,j,B,eT⟩:=QL d hN;obtain⟨M,q,F,eMn,G,eM⟩:=Ua d hN;let T:=T0.drop j++T0.take j;obtain⟨g0,C,m2,e⟩:=Pk (dk:=[]) (W:=[]) hN B j F eMn G (List.nil_sublist _) (by decide) (λw hw=>by cases hw) .nil;have C:T.length<=9:=C;have e:(i2 T).length<=3:=e;have rne:i2 T≠[]:=λz=>by
  have h:1<=(T.filter λt=>decide (t.k=.room)).length:=g0.r1;have:(i2 T).length=0:=by rw[z];rfl
  unfold i2 at this;rw[af]at this;omega
 obtain⟨W,H,wo,wn,eW⟩:=WS d T M (by omega) (by omega) rne;obtain⟨m,E,eV⟩:=Ub d;let p:Nat->Bool:=λk=>decide (((gd l 29 / gd [1,4,16] k % 4:Nat):Int)=1);let dk:=((az (i2 T).length).filter p).map λk=>(i2 T).getD k "";have sub:dk.Sublist (i2 T):=by have:=(kR (p:=p) (l:=az (i2 T).length)).map λk=>(i2 T).getD k "";rw[W0]at this;exact this
 obtain⟨g,_,_,_⟩:=Pk hN B j F eMn G sub H wo wn;obtain⟨RS,r4,ok,eR⟩:=Uj g E u;refine⟨T,M,dk,W,m,RS,g,λt ht=>Uk B t ((Kp T0 j).mem_iff.1 ht),C,m2,bQ sub.length_le e,H,E,r4,ok,?_⟩;let A:Sl:=.q (.Q (o.map D.int));let f:Sl:=.q (dl l);let n:Sl:=.q (.b0 (N.map D.str));let S:Sl:=.q (.b0 (T.map m3));let I:Sl:=.q (.b0 (M.map mkS));let R:Sl:=.q (.b0 ((i2 T).map D.str));let K:Sl:=.q (.b0 ((mP T M).map pD));refine Dg U ?_;unfold BJ;refine uE (uU (uA (a:=dl l) (b:=[A,.un,.un,.un,.un,.un,.un,.un,.un,.un]) (u4 (ur (uu (ur U X) U) el)) ?_));refine uE (uU (uA (ur U eN) ?_));refine uE (uU (uA (ur U eT) ?_));refine uE (uU (uA (ur U eM) ?_));refine uE (uU (uA (u4 (of_eq T (by omega) U .room)) ?_));refine uE (uU (uA (ur U (Ln T M (by omega) (by omega))) ?_));refine uE (uU (uA (a:=.b0 (dk.map D.str)) (b:=[A,f,n,S,I,R,K,.un,.un,.un]) (u4 ((wt (λj:Nat=>D.int j) (λk=>.str ((i2 T).getD k "")) p (az (i2 T).length) (MR (MP D.str U) (by omega)) (by rw[bF];omega) λk c=>?_).t (by rw[show dk.map D.str=((az (i2 T).length).filter p).map λk=>.str ((i2 T).getD k "") from aW];rfl))) ?_))
 .have c:=bA.1 c;obtain⟨J,P⟩:=g3 (cf c e);refine⟨[.q (dN k),R,f],[.q (dN k),R,f],U,u6 (uv (uv (uv (uv (x:=dl l) U U (yh (i:=29) (by omega))) (uv (x:=dl [1,4,16]) (y:=dN k) U U (yh (cf c e))) (dv J P)) U (md (b:=4) (by decide))) U ((xb δ _ _).t ?_)),λv=>⟨[.q (dN k),R,f],uv U U (BR c),U⟩,λv=>U⟩;show Z (D.I _)=Z (D.I (p k));cases h:p k<;>simp[p]at h<;>simp[h]
 refine uE (uU (uA (ur U eV) ?_));refine uE (uU (uA (ur (uu (ur U Y) U) eR) ?_));exact vY (uA (wb (uu U (uu U (uu U (uu (ur U eW) U)))) (bK U)) U)
def rsO(r:Rs):L4.D:=ruO r.v.n (r.ts.map spO) (r.ds.map deO) r.tx r.rf
def X4(v:Str)(c a:List L4.D)(x:Str)(b:Bool):wL [.str v,.b0 c,.b0 a,.str x,.I b]=Z (ruN,[.str v,.b0 c,.b0 a,.str x,.I b]):=by kernel_rfl
def Um{w:L4.D}{V:List Vb}{r:Rs}(h:Og w V r):CY [M' r]=Z (rsO r):=by
 obtain⟨v,c,a,x,e⟩:=r;have lt:c.length<=2:=h.lt;have ld:a.length<=2:=h.ld;let A:Sl:=.q (M' ⟨v,c,a,x,e⟩);let B:Sl:=.q (.str v.n);let C:Sl:=.q (.b0 (c.map vr));let f:Sl:=.q (.b0 (a.map G?));let E:Sl:=.q (.str x);let F:Sl:=.q (.I e);refine Dg U ?_;unfold CW;refine uE (MN (uA U ⟨[A,B,C,f,E,F,.un],U,?_⟩));refine uE (uU (uA (b:=[A,B,C,f,E,F,.un]) (u4 (wu vr spO c U (by omega) λt i=>⟨[.q (vr t)],[.q (vr t)],U,ur U (Fn t 3 (by have:=(h.t t i).2.1;omega)),U⟩)) ?_));cases e with
 |false=>exact o3 U (vY (uA (ET (uu U (uu U (uu (u4 (wu G? deO a U (by omega) λd z=>⟨[.q (G? d)],[.q (G? d)],U,ur U (WU d),U⟩)) U))) (X4 _ _ _ _ _)) U))
 |true=>have:a=[]:=h.rf U;subst this;exact f5 U (vY (uA (ET U (X4 _ _ _ _ _)) U))
def QM{T:List Th}{M:List Mk}{c:aB}{W:List Wy}{m:Nat}{RS:List Rs}(g:fh T M c W)(I:m<64)(r4:RS.length<=4)(ok:∀r∈RS,Og (ij T M c W (vL m)) (vL m) r):∃(H:List ey) (dss:List (List L4.D)),BM [PD T M c W m RS]=Z (.obj 14 wNs (wA T M c W (vL m) (RS.map rsO) (.J H (dss.map .b0)))):=by
 obtain⟨H,dss,X,_⟩:=T4 (R:=RS.map rsO) g I (λr F=>by
  obtain⟨r,h,rfl⟩:=aG.1 F;have o:=ok r h;exact WN (λv Y=>El Y) (Pc I) o.v (λt u=>by obtain⟨s,G,rfl⟩:=aG.1 u;exact(o.t s G).1) (by rw[af];have:=o.lt;omega) (λt u=>by obtain⟨s,G,rfl⟩:=aG.1 u;exact(o.d s G).1) (by rw[af];have:=o.ld;omega) (λz=>by rw[o.rf z];rfl) (WX o.x)) (by rw[af];omega)
 refine⟨H,dss,?_⟩;have lT:=g.len;have lM:=g.m4;have lV:=Em m;let A:Sl:=.q (PD T M c W m RS);let S:Sl:=.q (.b0 (T.map m3));let l:Sl:=.q (.b0 (M.map mkS));let e:Sl:=.q (.b0 (c.map D.str));let a:Sl:=.q (.b0 (W.map ll));let q:Sl:=.q (.b0 ((vL m).map nf));let p:Sl:=.q (.b0 (RS.map M'));let J:=λ(i:Nat) (ρ:aU)=>∃y B C E:Sl,ρ=[A,S,l,e,a,q,p,.M ((T.take i).map fg),y,B,C,E,.un,.un];refine Dg U ?_;unfold BL;refine uE (MN (uA U ⟨[A,S,l,e,a,q,p,.un,.un,.un,.un,.un,.un,.un],U,?_⟩));refine uE (zK U (uE (Ja (uA U ⟨J,⟨_,_,_,_,U⟩,?_,?_⟩))))
 .rintro i d _ hd ⟨y,B,C,E,rfl⟩;rw[bu]at hd;obtain⟨t,u,rfl⟩:=iu.1 hd;obtain⟨hi,et⟩:=ck.1 u;have P:(T.take (i+1)).map fg=(T.take i).map fg++[fg t]:=by rw[fT,u,aZ];rfl
  have N:((T.take i).map fg).length<1000:=by rw[af,cm];omega
  obtain⟨n,w,k,s⟩:=t;cases s with
  |none=>refine⟨[A,S,l,e,a,q,p,.M ((T.take i).map fg),.q (.str n),.q (.cx (w.map D.str)),.q (.str k.s),.q .E,.un,.un],U,s_y U (I0 (uA (Ah (es:=(T.take i).map fg) U (d:=fg ⟨n,w,k,O⟩) U U N) ⟨_,_,_,_,by rw[P];rfl⟩))⟩
  |some x=>refine⟨[A,S,l,e,a,q,p,.M ((T.take i).map fg),.q (.str n),.q (.cx (w.map D.str)),.q (.str k.s),.q (.str x),.un,.un],U,s_n U (I0 (uA (Ah (es:=(T.take i).map fg) U (d:=fg ⟨n,w,k,Z x⟩) U U N) ⟨_,_,_,_,by rw[P];rfl⟩))⟩
 .rintro _ ⟨y,B,C,E,rfl⟩;rw[af,lC];refine uE (uU (uA (b:=[A,S,l,e,a,q,p,.M (T.map fg),y,B,C,E,.un,.un]) (u4 (wu mkS H4 M U (by omega) λx _=>⟨[.q (.str x.n),.q (.int x.st),.q (.int x.mo)],_,U,U,U⟩)) ?_));refine uE (uU (uA (b:=[A,S,l,e,a,q,p,.M (T.map fg),y,B,C,E,.q (MD M),.un]) (u4 (wu nf m5 (vL m) U (by omega) λx _=>⟨[.q (.str x.n),.q (.cx (x.o.map D.str)),.q (.str x.f),.q (oS x.j)],_,U,U,U⟩)) ?_));refine vY (uA (ET (ds:=[TD T,MD M,.b0 (c.map D.str),WD W,VD (vL m),.b0 (RS.map rsO)]) (uu U (uu U (uu U (uu U (uu U (uu (u4 (wu M' rsO RS U (by omega) λr F=>⟨[.q (M' r)],[.q (M' r)],U,ur U (Um (ok r F)),U⟩)) U)))))) (ns:=wNs) ?_) U);exact X
abbrev Ky:=Str×Str
def kD(k:Ky):L4.D:=.cx [.str k.1,.str k.2]
def sP(P:List Ky)(v:Ky->L4.D):L4.D:=.cx (P.map λk=>.cx [kD k,v k])
def W1(k j:Ky):er δ (kD k) (kD j)=Z (.I (decide (k=j))):=by obtain⟨a,b⟩:=k;obtain⟨c,d⟩:=j;have e:G3 δ (.cx [.str a,.str b]) (.cx [.str c,.str d])=O:=rfl;have f:G4 δ (.cx [.str a,.str b]) (.cx [.str c,.str d])=Z (.I (L3.qq (.cx [.str a,.str b]) (.cx [.str c,.str d]))):=rfl;unfold er kD;rw[e];simp only;rw[f];congr 2;rw[dM];simp[L3.qq,L3.Du]
theorem Jf(p:Sl)(k:Ky)(v:Ky->L4.D):∀(P:List Ky) (s:Sl),∃c,j0 (gN 2) (fc (cT (c2 (er δ) (c2 ea ak aw) ai)) (uy (c2 ea ak ay)) uD) (P.map λk=>.cx [kD k,v k]) [p,.q (kD k),s]=Z (if k∈P then .rt (v k) [p,.q (kD k),c]else .nx [p,.q (kD k),c])
 |[],s=>⟨s,by rw[aj cy];rfl⟩
 |q::P,s=>by
  let Q:Sl:=.q (.cx [kD q,v q]);have a:cT (c2 (er δ) (c2 ea ak aw) ai) [p,.q (kD k),Q]=Z (decide (q=k),[p,.q (kD k),Q]):=u6 (uv U U (W1 _ _));rw[aS];unfold j0;rw[show gN 2 (.cx [kD q,v q]) [p,.q (kD k),s]=Z [p,.q (kD k),Q] from U];by_cases h:q=k
  .rw[aT h]at a;refine⟨Q,?_⟩;simp only[vv a];rw[ah (by rw[h];exact aY),<- h];rfl
  .rw[aR h]at a;obtain⟨c,d⟩:=Jf p k v P Q;refine⟨c,?_⟩;simp only[vE a,uD];rw[d];by_cases b:k∈P
   .rw[ah b,ah (ba _ b)]
   .rw[aj b,aj λz=>by rcases aO.1 z with z|z;exact h z.symm;exact b z]
def MU(P:List Ky)(v:Ky->L4.D)(k:Ky):Bv [sP P v,kD k]=Z (if k∈P then v k else .E):=by
 obtain⟨b,h⟩:=Jf (.q (sP P v)) k v P .un;by_cases a:k∈P
 .rw[ah a]at h ⊢;exact uI U (uZ ((xY U).t h))
 .rw[aj a]at h ⊢;exact uI U ((ux ((xY U).t h)))
def va(j1:Str->Str)(mk:Str->Int):Ky->L4.D:=λk=>if k.1="at" then .str (j1 k.2)else .int (mk k.2)
def ε{c d:Type}(f:c->d)(a:c)(b:d)(l:List c){i:Nat}(h:i<l.length):(l.map f).getD i b=f (l.getD i a):=by rw[bN,bN,bu,aM h];rfl
def Oh{a:Type}(d:a):∀l:List a,(az l.length).map (λi=>l.getD i d)=l:=λl=>by
 apply pS
 .rw[af,bF]
 .intro i c b;rw[pT,oY,bN,aM b];rfl
def kL2(k:Ky):aB:=[k.1,k.2]
theorem MV:∀P:List Ky,ym (P.map kD)=Z (P.map kL2)
 |[]=>rfl
 |q::P=>by rw[aS];unfold ym;rw[MV P];rfl
def Uo(P:List Ky)(a:0<P.length)(d:P.length<64):∃b:List Ky,b.Perm P/\D9 (P.map kD)=Z (b.map kD):=by
 let c:Nat->Nat->Bool:=λi j=>Jr ((P.map kL2).getD i []) ((P.map kL2).getD j []);refine⟨(NS c P.length).map λi=>P.getD i ("", ""),?_,?_⟩
 .have:=(FN c a).map λi=>P.getD i ("", "");rw[Oh]at this;exact this
 .unfold D9;rw[MV];simp only[af];rw[ah ⟨a,d⟩,aW];congr 1;exact ox λi e=>ε kD ("", "") .E P (K0 c a i e)
def PT(T:List Th)(M:List Mk):List Ky:=((n7 T).map λx=>(("at", x):Ky))++(tz T M).map λx=>(("mark", x):Ky)
abbrev wO(T:List Th)(M:List Mk)(dk:aB)(W:List Wy)(V:List Vb)(R:List L4.D)(c:L4.D):L4.D:=.obj 14 wNs (wA T M dk W V R c)
section
variable{T:List Th}{M:List Mk}{dk:aB}{W:List Wy}{V:List Vb}{R:List L4.D}{c:L4.D}{P:List Ky}
def Up(T:List Th):(n7 T).length<=T.length:=by unfold n7;rw[af];exact cp _ _
def Uq(T:List Th)(M:List Mk):(tz T M).length<=T.length+M.length:=by unfold tz;rw[aC,af,af];have:=cp (λt:Th=>t.k.mk) T;omega
def Ur{T:List Th}(f:(T.map Th.n).Nodup){t u:Th}(h:t∈T)(i:u∈T)(e:t.n=u.n):t=u:=by
 induction T with
 |nil=>cases h
 |cons a T j=>
  rw[aS,dj]at f;rcases aO.1 h with b|b<;>rcases aO.1 i with d|d
  .rw[b,d]
  .exact ar (show a.n∈T.map Th.n from by rw[<-b,e];exact aG.2 ⟨_,d,U⟩) f.1
  .exact ar (show a.n∈T.map Th.n from by rw[<-d,<- e];exact aG.2 ⟨_,b,U⟩) f.1
  .exact j f.2 b d
def Us(d:(T.map Th.n).Nodup)(p:Th->Bool){t:Th}(b:t∈T):t.n∈(T.filter p).map Th.n ↔ p t=γ:=by
 constructor
 .intro h;obtain⟨u,a,e⟩:=aG.1 h;rw[bb]at a;rw[<-Ur d a.1 b e];exact a.2
 .exact λh=>aG.2 ⟨t,bb.2 ⟨b,h⟩,U⟩
def X5(g:fh T M dk W):(yN T)∈n7 T:=by obtain⟨t,a,e,k⟩:=y_T g;rw[<-e];exact(Us g.Xi _ a).2 (by rw[k];rfl)
def Ut(g:fh T M dk W):0<(PT T M).length/\(PT T M).length<64:=by have a:=Up T;have b:=Uq T M;have d:=jo (X5 g);have e:=g.len;have f:=g.m4;unfold PT;rw[aC,af,af];omega
def Uu(h:P.Perm (PT T M))(x:Str):(("at", x):Ky)∈P ↔ x∈n7 T:=by
 rw[h.mem_iff];unfold PT;rw[bq,aG,aG];constructor
 .rintro(⟨y,a,e⟩|⟨y,a,e⟩)
  .injection e with _ e;rw[<-e];exact a
  .injection e with e _;exact ar e (by decide)
 .exact λh=>.inl ⟨x,h,U⟩
def X6(h:P.Perm (PT T M))(x:Str):(("mark", x):Ky)∈P ↔ x∈tz T M:=by
 rw[h.mem_iff];unfold PT;rw[bq,aG,aG];constructor
 .rintro(⟨y,a,e⟩|⟨y,a,e⟩)
  .injection e with e _;exact ar e (by decide)
  .injection e with _ e;rw[<-e];exact a
 .exact λh=>.inr ⟨x,h,U⟩
def adV(h:P.Perm (PT T M)):∀k∈P,k.1="at" \/ k.1="mark" := λk a=>by
 have a:=h.mem_iff.1 a;unfold PT at a;rw[bq,aG,aG]at a;rcases a with ⟨y,_,rfl⟩|⟨y,_,rfl⟩
 .exact .inl U
 .exact .inr U
def QN(g:fh T M dk W):∃f:List Ky,f.Perm (PT T M)/\D9 ((PT T M).map kD)=Z (f.map kD)/\Ar [wO T M dk W V R c]=Z (.b0 (f.map kD)):=by
 have hT:=g.len;have hM:=g.m4;obtain⟨l,m⟩:=Ut g;obtain⟨f,pR,e⟩:=Uo (PT T M) l m;refine⟨f,pR,e,?_⟩;let w:=wO T M dk W V R c;let a:L4.D:=.b0 ((n7 T).map λx=>kD ("at", x));let b:L4.D:=.b0 ((tz T M).map λx=>kD ("mark", x));let d:Sl->Sl->aU:=λp q=>[.q w,p,q];have o:=Up T;have r:=Uq T M;have h:uF 1 [] (iL (c1 (uC wc "kept_things") aa)) (gN 0) (cT (c2 (er γ) (c1 (uC vq "kind") aa) cR)) (uO (ax ik mZ)) (d .un .un)=Z ((T.filter λt=>!decide (t.k=.room)).map λt=>kD ("at", t.n),d .un .un):=
  wt fg (λt=>kD ("at", t.n)) (λt=>!decide (t.k=.room)) T U (by omega) λt z=>⟨[.q (fg t)],[.q (fg t)],U,u6 (uv (u5 U (BO t)) U (X3 t.k)),λz=>⟨_,U,U⟩,λz=>U⟩
 have i:uF 1 [] (iL (cL (vw x9 rB))) (gN 0) vC (uO (ax (cS "mark") bS)) (d (.q a) .un)=Z ((tz T M).map λx=>kD ("mark", x),d (.q a) .un):=
  wu D.str (λx=>kD ("mark", x)) (tz T M) (Ca (u4 (ur U (DU T M (by omega) hM)))) (by omega) λx z=>⟨[.q (.str x)],[.q (.str x)],U,U,U⟩
 have j:FQ (cL (vV ai ak)) (d (.q a) (.q b))=Z (f.map kD,d (.q a) (.q b)):=by
  have q:cL (vV ai ak) (d (.q a) (.q b))=Z (.b0 ((PT T M).map kD),d (.q a) (.q b)):=by refine(u4 (vK U U (by rw[af,af];omega))).t ?_;unfold PT;rw[aZ,aW,aW];rfl
  unfold FQ;rw[q];simp only[e]
 refine Cs (ρ:=d (.q a) (.q b)) U ?_;refine(ux ((vP (u4 h)).t ?_)).t ((ux ((vP (u4 i)))).t (w9 j));show Z (F?.nx [Sl.q w,.q (.b0 ((T.filter λt=>!decide (t.k=.room)).map λt=>kD ("at", t.n))),.un])=Z (F?.nx [Sl.q w,.q (.b0 (((T.filter λt=>!decide (t.k=.room)).map Th.n).map λx=>kD ("at", x))),.un]);rw[aW];rfl
def Jg(b:(T.map Th.n).Nodup){t:Th}(a:t∈T):xu [wO T M dk W V R c,.str t.n]=Z (fg t):=by refine uI U (uT (uv U U ?_));show Z ((wI (nK T) (T.map fg) (kS t.n)).getD .E)=_;rw[Hn b fg a];rfl
def QO(g:fh T M dk W):Bu [wO T M dk W V R c]=Z (.J (M.map λm=>kS m.n) (M.map λm=>D.int m.st)):=by
 let w:=wO T M dk W V R c;have j:((M.map λm=>kS m.n)).Nodup:=by have:=(cq.1 g.nd).2.1;rw[show (λm:Mk=>kS m.n)=kS∘Mk.n from U,<- aW];exact lp.2 (this.imp λh e=>h (abz e))
 have q:=g.m4;obtain⟨l,e⟩:=AZ (g:=gN 2) (i:=1) (fk:=c1 (uC uN "name") ak) (fv:=c1 (uC vN "start") ak) H4 Mk.n (λm=>D.int m.st) (λb a s=>[.q w,.dk b a,s])
  (λm b a s=>⟨[.q w,.dk b a,.q (H4 m)],U,U,U,U,λf d=>⟨_,U⟩⟩) M [] [] .un (by rw[cu];exact j) (by simp;omega) U
 rw[cu,cu]at e;refine uI (ρ:=[.q w,.q (.J (M.map λm=>kS m.n) (M.map λm=>D.int m.st)),l]) U ?_;refine(ux U).t ?_;refine(ux ((xY ?_).t e));exact Ca (vx U U U U U)
def Uv(g:fh T M dk W){t:Th}(a:t∈T)(st:L4.D):xD [wO T M dk W V R c,st,kD ("at", t.n)]=Z (oS t.s):=by refine uI U (uZ ((vv (u6 (uv U U (by rw[wj];rfl)))).t (uT (u5 (vx U U U U (Jg g.Xi a)) (Hm t)))))
def Oi(x:Str)(b:List ey)(a:List L4.D):xD [wO T M dk W V R c,.J b a,kD ("mark", x)]=Z ((wI b a (kS x)).getD (.int 0)):=by refine uI U ((ux ((vE (u6 (uv U U (by rw[wj];rfl)))))).t U)
theorem MW{d:Type}(kf:d->ey)(b:d->Int)(k:ey):∀l:List d,∃z,(wI (l.map kf) (l.map λa=>D.int (b a)) k).getD (.int 0)=.int z
 |[]=>⟨0,U⟩
 |a::l=>by
  rw[aS,aS];unfold wI;split
  .exact⟨b a,U⟩
  .exact MW kf b k l
def at0(T:List Th)(x:Str):Str:=((T.find? λt=>decide (t.n=x)).bind Th.s).getD ""
def Lq(b:(T.map Th.n).Nodup){t:Th}(a:t∈T):at0 T t.n=t.s.getD "" := by
 unfold at0;cases h:T.find? λu=>decide (u.n=t.n)with
 |none=>exact ar (la.1 h t a) (by simp)
 |some u=>rw[Ur b (kz h) a (bp (lL (p:=λu:Th=>decide (u.n=t.n)) h))];rfl
def Po(g:fh T M dk W){t:Th}(j:t∈T)(h:t.k≠.room):∃p,t.s=Z p/\p∈rz T/\(t.k=.you->p∈i2 T):=by
 have a:=g.st t j;unfold Fk at a;have l:∀p,p∈i2 T->p∈rz T:=λp i=>by obtain⟨u,d,e⟩:=aG.1 i;rw[bb]at d;exact aG.2 ⟨u,bb.2 ⟨d.1,by rw[bp d.2];rfl⟩,e⟩
 cases f:t.s with
 |none=>rw[f]at a;cases b:t.k<;>rw[b]at a h<;>first|exact ar U h|exact a.elim
 |some p=>rw[f]at a;refine⟨p,U,?_⟩;cases b:t.k<;>rw[b]at a h<;>first|exact ar U h|exact⟨l p a,λx=>a⟩|exact⟨a,λz=>by cases z⟩
def Uw(g:fh T M dk W):∃(P:List Ky) (m:Str->Int),P.Perm (PT T M)/\D9 ((PT T M).map kD)=Z (P.map kD)/\Ar [wO T M dk W V R c]=Z (.b0 (P.map kD))/\(∀x,(wI (M.map λm=>kS m.n) (M.map λm=>D.int m.st) (kS x)).getD (.int 0)=.int (m x))/\As [wO T M dk W V R c]=Z (sP P (va (at0 T) m)):=by
 obtain⟨i,pR,eS,eR⟩:=QN g;have d:∀x,∃z,(wI (M.map λm=>kS m.n) (M.map λm=>D.int m.st) (kS x)).getD (.int 0)=.int z:=λx=>MW (λm:Mk=>kS m.n) Mk.st (kS x) M;refine⟨i,λx=>(d x).choose,pR,eS,eR,λx=>(d x).choose_spec,?_⟩;let w:=wO T M dk W V R c;let st:L4.D:=.J (M.map λm=>kS m.n) (M.map λm=>D.int m.st);have hR:i.length<64:=by rw[pR.length_eq];exact(Ut g).2
 have val:∀k∈i,xD [w,st,kD k]=Z (va (at0 T) (λx=>(d x).choose) k):=λk j=>by
  obtain⟨a,x⟩:=k;rcases adV pR _ j with h|h
  .have h:a="at" := h;subst h;have o:=(Uu pR x).1 j;obtain⟨t,b,rfl⟩:=aG.1 o;rw[bb]at b;obtain⟨p,l,_⟩:=Po g b.1 (λz=>by rw[z]at b;exact ar b.2 (by decide));rw[Uv g b.1];unfold va;rw[ah U,Lq g.Xi b.1,l];rfl
  .have h:a="mark" := h;subst h;rw[Oi,(d x).choose_spec];unfold va;rw[aj (show ¬("mark" : Str)="at" by decide)]
 let f:aU:=[.q w,.q st];refine uI (ρ:=f) U ((ux ((vP (ur U (QO g))))).t (uT ?_));have e:=wu (k:=1) (ew:=[0,1]) (g:=gN 0) (fe:=uO rU) (s:=iL (vd Ab "parts" aa uQ)) (ρ:=f) kD (λk=>.cx [kD k,va (at0 T) (λx=>(d x).choose) k]) i
  (Ca (vx U U U U eR)) (by omega) λk j=>⟨[.q (kD k),.q w,.q st],[.q (kD k),.q w,.q st],U,wb (uu U (uu (ur U (val k j)) U)) (show 2<=1000 by decide),U⟩
 show zQ _ f=_;unfold zQ;rw[u4 e];rfl
end
inductive Ch(T:List Th) (a:Str->Str):Str->aB->Prop
 |nil {x:Str} (h:x∉n7 T):Ch T a x []
 |cons {x:Str} {l:aB} (h:x∈n7 T) (c:Ch T a (a x) l):Ch T a x (a x::l)
structure d3(T:List Th)(a:Str->Str):Prop where
 me:a (yN T)∈i2 T
 hd:∀x∈n7 T,a x∈rz T
 ch:∀x,∃l,Ch T a x l
section
variable{T:List Th}{M:List Mk}{dk:aB}{W:List Wy}{V:List Vb}{R:List L4.D}{c:L4.D}{P:List Ky}{a:Str->Str}{m:Str->Int}
def abW{x:Str}{l e:aB}(h:Ch T a x l):Ch T a x e->l=e:=by
 induction h generalizing e with
 |nil h=>intro b;cases b with
  |nil _=>rfl
  |cons b _=>exact ar b h
 |cons h _ f=>intro b;cases b with
  |nil b=>exact ar h b
  |cons _ d=>rw[f d]
def abX{x:Str}{l:aB}(h:Ch T a x l):∀y∈l,∃f,Ch T a y f/\f.length<l.length:=by
 induction h with
 |nil _=>intro y b;cases b
 |@cons x l h d j=>
  intro y b;rcases aO.1 b with e|b
  .rw[e];exact⟨l,d,by rw[aP];omega⟩
  .obtain⟨f,i,o⟩:=j y b;exact⟨f,i,by rw[aP];omega⟩
def W3{x:Str}{l:aB}(h:Ch T a x l):x∉l:=λe=>by obtain⟨f,d,b⟩:=abX h x e;rw[abW h d]at b;exact fE _ b
def adW{x:Str}{l:aB}(h:Ch T a x l):l.Nodup:=by
 induction h with
 |nil _=>exact lY
 |@cons x l h d b=>exact dj.2 ⟨W3 d,b⟩
def X7(i:d3 T a){x:Str}{l:aB}(h:Ch T a x l):∀y∈l,y∈rz T:=by
 induction h with
 |nil _=>intro y b;cases b
 |@cons x l h d f=>
  intro y b;rcases aO.1 b with e|b
  .rw[e];exact i.hd x h
  .exact f y b
theorem Ux:∀{l L:aB},l.Nodup->(∀x∈l,x∈L)->l.length<=L.length
 |[],L,_,_=>bH _
 |a::l,L,b,e=>by rw[dj]at b;have d:=e a aY;have:=Ux b.2 λz f=>(oa (show z≠a from λw=>b.1 (w▸f))).2 (e z (ba _ f));rw[nI d]at this;have:=jo d;rw[aP];omega
def abY(g:fh T M dk W)(i:d3 T a){x:Str}{l:aB}(h:Ch T a x l):l.length<=13:=by
 have b:=Ux (adW h) (X7 i h);have d:(rz T).length<=T.length:=by unfold rz;rw[af];exact cp _ _
 have:=g.len;omega
def Uy(p:P.Perm (PT T M))(x:Str):Bw [sP P (va a m),.str x]=Z (if x∈n7 T then .str (a x)else .E):=by
 refine uI U (uT (ur U ((MU P (va a m) ("at", x)).t ?_)));congr 1;by_cases h:x∈n7 T
 .rw[ah h,ah ((Uu p x).2 h)];unfold va;rw[ah U]
 .rw[aj h,aj λz=>h ((Uu p x).1 z)]
def Pp(p:P.Perm (PT T M))(x:Str):AV [sP P (va a m),.str x]=Z (if x∈tz T M then .int (m x)else .E):=by
 refine uI U (uT (ur U ((MU P (va a m) ("mark", x)).t ?_)));congr 1;by_cases h:x∈tz T M
 .rw[ah h,ah ((X6 p x).2 h)];unfold va;rw[aj (show ¬("mark" : Str)="at" by decide)]
 .rw[aj h,aj λz=>h ((X6 p x).1 z)]
def aD(T:List Th)(a:Str->Str)(x:Str):L4.D:=if x∈n7 T then .str (a x)else .E
def QP(p:P.Perm (PT T M))(w e:Sl){x:Str}{l:aB}(h:Ch T a x l):∀(n:Nat) (b:List L4.D),l.length<n->b.length+l.length<=1000->
  whL (cT (c2 y3 aX bf)) (bt (uW (y7 3 aX)) (uM 4 (uw Bw jb))) n [w,.q (sP P (va a m)),e,.M b,.q (aD T a x)]=Z (.nx [w,.q (sP P (va a m)),e,.M (b++l.map D.str),.q .E]):=by
 let S:=sP P (va a m)
 induction h with
 |@nil x h=>
  intro n b f _;rw[show aD T a x=.E from aj h];cases n with
  |zero=>cases f
  |succ n=>rw[dU,b9];rfl
 |@cons x l h d o=>
  intro n b f j;rw[show aD T a x=.str (a x) from ah h];rw[aP]at f j;cases n with
  |zero=>cases f
  |succ n=>
   have i:bt (uW (y7 3 aX)) (uM 4 (uw Bw jb)) [w,.q S,e,.M b,.q (.str (a x))]=Z (.nx [w,.q S,e,.M (b++[.str (a x)]),.q (aD T a (a x))]):=by refine(ux (wQ ((Ah U U U (by omega))))).t ?_;exact(vP (ur U (Uy p (a x)))).t U
   rw[aS];unfold whL;rw[show cT (c2 y3 aX bf) [w,.q (sP P (va a m)),e,.M b,.q (.str (a x))]=Z (γ,[w,.q S,e,.M b,.q (.str (a x))]) from U];simp only[i];refine(o n (b++[.str (a x)]) (by omega) (by rw[aC,c4];omega)).t ?_;rw[b8];rfl
def W4(p:P.Perm (PT T M))(w:L4.D){x:Str}{l:aB}(h:Ch T a x l)(b:l.length<=13):BA [w,sP P (va a m),.str x]=Z (l.map D.str):=by let S:=sP P (va a m);refine D5 (ρ:=[.q w,.q S,.q (.str x),.un,.q .E]) U ?_;refine(ux U).t ?_;refine(ux ((vP (ur U (Uy p x))))).t ?_;exact(ux (QP p (.q w) (.q (.str x)) h 50 [] (by omega) (by simp;omega)))
def inv0(g:fh T M dk W):d3 T (at0 T) where
 me:=by obtain⟨t,b,e,k⟩:=y_T g;obtain⟨q,f,_,j⟩:=Po g b (by rw[k];exact λz=>by cases z);rw[<-e,Lq g.Xi b,f];exact j k
 hd:=λx i=>by obtain⟨t,b,rfl⟩:=aG.1 i;rw[bb]at b;obtain⟨q,f,j,_⟩:=Po g b.1 (λz=>by rw[z]at b;exact ar b.2 (by decide));rw[Lq g.Xi b.1,f];exact j
 ch:=λx=>by
  obtain⟨r,hr⟩:=g.rk;have:∀(n:Nat) (x:Str),r x<n->∃l,Ch T (at0 T) x l:=by
   intro n
   induction n with
   |zero=>intro x h;cases h
   |succ n o=>
    intro x h;by_cases i:x∈n7 T
    .obtain⟨t,b,rfl⟩:=aG.1 i;rw[bb]at b;obtain⟨q,f,_,_⟩:=Po g b.1 (λz=>by rw[z]at b;exact ar b.2 (by decide));have e:at0 T t.n=q:=by rw[Lq g.Xi b.1,f];rfl
     have j:=((hr t b.1).2 q f).1;obtain⟨l,d⟩:=o q (by omega);rw[<-e]at d;exact⟨_,.cons i d⟩
    .exact⟨_,.nil i⟩
  exact this (r x+1) x (by omega)
end
def Jh{e c:FE}{b a:aU}(d:e b=Z (.I δ,a)):vU e c b=Z (.I δ,a):=by unfold vU;rw[d]
section
variable{T:List Th}{M:List Mk}{dk:aB}{W:List Wy}{V:List Vb}{R:List L4.D}{c:L4.D}{P:List Ky}{a:Str->Str}{m:Str->Int}
structure Sit(T:List Th)(M:List Mk)(dk:aB)(W:List Wy)(P:List Ky)(a:Str->Str):Prop where
 g:fh T M dk W
 p:P.Perm (PT T M)
 i:d3 T a
def adX{x:Str}(h:x∈rz T):∃t∈T,t.n=x/\t.k.hd=γ:=by obtain⟨t,b,e⟩:=aG.1 h;rw[bb]at b;exact⟨t,b.1,e,b.2⟩
def X8(g:fh T M dk W){t:Th}(b:t∈T):t.n∈tz T M ↔ t.k.mk=γ:=by
 unfold tz;rw[bq,Us g.Xi _ b];constructor
 .rintro(h|h)
  .exact h
  .exact ar U ((cq.1 g.nd).2.2 _ (aG.2 ⟨t,b,U⟩) _ h)
 .exact .inl
def W5(t:Th)(k:Kd):er δ (.str t.k.s) (.str k.s)=Z (.I (decide (t.k=k))):=Fi t.k k
def W6(s:Sit T M dk W P a){x:Str}(i:x∈rz T):∃b,yu [wO T M dk W V R c,sP P (va a m),.str x]=Z (.I b):=by
 obtain⟨t,e,rfl,_⟩:=adX i;let f:aU:=[.q (wO T M dk W V R c),.q (sP P (va a m)),.q (.str t.n)];have d:c2 (er δ) (c1 (uC vq "kind") (vd vR "thing_of" aa cD)) dA f=Z (.I (decide (t.k=.box)),f):=
  uv (u5 (vx U U U U (Jg s.g.Xi e)) (BO t)) U (W5 t .box)
 by_cases h:t.k=.box
 .rw[aT h]at d;refine⟨decide (m t.n=0),uI U (uT ((uX d).t (uv (ur U ((Pp s.p t.n).t (by rw[ah ((X8 s.g e).2 (by rw[h];rfl))]))) U ?_)))⟩;rw[xb];rfl
 .rw[aR h]at d;exact⟨δ,uI U (uT (Jh d))⟩
def opn(b:Str->Bool)(h:Str):aB->Bool
 |[]=>δ
 |a::l=>if a=h then γ else if b a then δ else opn b h l
def Uz{b:Str->Bool}{h a:Str}{l:aB}:opn b h (a::l)=if a=h then γ else if b a then δ else opn b h l:=rfl
def oB:FS:=(bt (fc (cT (c2 (er δ) aX av)) (uy dy) uD)
 (fc (cT (uw yu ng)) (uy cj) uD))
theorem Kr{w st x:L4.D}{e:Str->Bool}(h:Str):∀(l:aB) (s:Sl),(∀a∈l,yu [w,st,.str a]=Z (.I (e a)))->∃o,j0 (gN 4) oB (l.map D.str) [.q w,.q st,.q x,.q (.str h),s]=Z (.rt (.I (opn e h l)) [.q w,.q st,.q x,.q (.str h),o])\/(opn e h l=δ/\j0 (gN 4) oB (l.map D.str) [.q w,.q st,.q x,.q (.str h),s]=Z (.nx [.q w,.q st,.q x,.q (.str h),o]))
 |[],s,_=>⟨s,.inr ⟨U,U⟩⟩
 |a::l,s,r=>by
  let d:aU:=[.q w,.q st,.q x,.q (.str h),.q (.str a)];have f:cT (c2 (er δ) aX av) d=Z (decide (a=h),d):=u6 (uv U U (wj δ a h));have i:cT (uw yu ng) d=Z (e a,d):=u6 (ur U (r a aY));rw[aS];unfold j0;rw[show gN 4 (.str a) [.q w,.q st,.q x,.q (.str h),s]=Z d from U];rw[Uz];by_cases j:a=h
  .rw[aT j]at f;rw[ah j];refine⟨.q (.str a),.inl ?_⟩;have p:oB d=Z (.rt (.I γ) d):=uZ ((vv f));simp only[p];rfl
  .rw[aR j]at f;rw[aj j];have p:oB d=_:=ux ((vE f));simp only[p];cases q:e a with
   |true=>rw[q]at i;refine⟨.q (.str a),.inl ?_⟩;simp only[(vv i).t (U:uy cj d=Z (.rt (.I δ) d)),if_true];rfl
   |false=>rw[q]at i;obtain⟨o,g⟩:=Kr h l (.q (.str a)) λb t=>r b (ba _ t);refine⟨o,?_⟩;simp only[(vE i).t (U:uD d=Z (.nx d)),fQ,if_false];exact g
def Lr(s:Sit T M dk W P a)(x h:Str):∃b,yw [wO T M dk W V R c,sP P (va a m),.str x,.str h]=Z (.I b):=by
 obtain⟨l,d⟩:=s.i.ch x;have o:∀y:Str,∃b:Bool,y∈rz T->yu [wO T M dk W V R c,sP P (va a m),.str y]=Z (.I b):=λy=>by
  by_cases f:y∈rz T
  .obtain⟨b,e⟩:=W6 s f;exact⟨b,λv=>e⟩
  .exact⟨δ,λz=>ar z f⟩
 refine⟨opn (λy=>(o y).choose) h l,?_⟩;obtain⟨t,q⟩:=Kr h l .un λy f=>(o y).choose_spec (X7 s.i d y f);have j:=u4 (ur (a:=ax aa cB) (ρ:=[.q (wO T M dk W V R c),.q (sP P (va a m)),.q (.str x),.q (.str h),.un]) U (W4 s.p _ d (abY s.g s.i d)));rcases q with q|⟨r,q⟩
 .exact uI U (uZ ((xY (Ca j)).t q))
 .rw[r];exact uI U ((ux ((xY (Ca j)).t q)))
def Pq(s:Sit T M dk W P a):AW [wO T M dk W V R c,sP P (va a m)]=Z (.str (a (yN T))):=
 uI U (uT (ur (uu U (uu (vx U U U U U) U)) ((Uy s.p (yN T)).t (by rw[ah (X5 s.g)]))))
def UA(s:Sit T M dk W P a){t:Th}(i:t∈T)(h:t.k=.lamp)(r:Str):∃b,zJ [wO T M dk W V R c,sP P (va a m),.str t.n,.str r]=Z (.I b):=by
 let e:aU:=[.q (wO T M dk W V R c),.q (sP P (va a m)),.q (.str t.n),.q (.str r)];have d:c2 (er δ) (uw AV cB) ay e=Z (.I (decide (m t.n=1)),e):=uv (ur U ((Pp s.p t.n).t (by rw[ah ((X8 s.g i).2 (by rw[h];rfl))]))) U (by rw[xb];rfl);obtain⟨b,f⟩:=Lr s t.n r;cases q:decide (m t.n=1)with
 |true=>rw[q]at d;exact⟨b,uI U (uT ((uX d).t (ur U f)))⟩
 |false=>rw[q]at d;exact⟨δ,uI U (uT (Jh d))⟩
def abZ(s:Sit T M dk W P a):∃b,II [wO T M dk W V R c,sP P (va a m)]=Z (.I b):=by
 let w:=wO T M dk W V R c;let r:=a (yN T);let S:=sP P (va a m);let f:aU:=[.q w,.q S,.q (.str r)];have o:uM 2 (uw AW dD) [.q w,.q S,.un]=Z (.nx f):=(vP (ur U (Pq s))).t U;have i:vZ (cT (vd yA "is_dark" aa cD)) f=Z (!decide (r∈dk),f):=zR (u6 (vx U U U U (uI U (uT (uv U U (AG δ r dk))))));cases q:decide (r∈dk)with
 |false=>rw[q]at i;exact⟨γ,uI U ((ux o).t (uZ ((vv i))))⟩
 |true=>
  rw[q]at i;have u:=s.g.len;let L:=T.filter λt=>decide (t.k=.lamp);have l:∀t:Th,∃b:Bool,t∈L->zJ [w,S,.str t.n,.str r]=Z (.I b):=λt=>by
   by_cases j:t∈L
   .have h:=bb.1 j;obtain⟨b,e⟩:=UA s h.1 (bp h.2) r;exact⟨b,λx=>e⟩
   .exact⟨δ,λz=>ar z j⟩
  have p:uF 1 [0,1,2] (iL (vd xC "of_kind" aa (a1 fI))) (gN 0) vC (uw zJ rQ) f=Z (L.map λt=>D.I (l t).choose,f):=by have d:L.length<=1000:=bQ (cp _ _) (by omega);exact wu (λt:Th=>D.str t.n) (λt=>D.I (l t).choose) L (Ca (vx U U U U (IW T (by omega) _ _ .lamp))) d λt j=>⟨[.q (.str t.n),.q w,.q S,.q (.str r)],[.q (.str t.n),.q w,.q S,.q (.str r)],U,ur U ((l t).choose_spec j),U⟩
  exact⟨_,uI U ((ux o).t ((ux ((vE i))).t (uT (u5 (u4 p) (OU _ _)))))⟩
def W7(s:Sit T M dk W P a){t:Th}(u:t∈T):∃b,AX [wO T M dk W V R c,sP P (va a m),.str t.n]=Z (.I b):=by
 let w:=wO T M dk W V R c;let S:=sP P (va a m);let d:aU:=[.q w,.q S,.q (.str t.n),.q (fg t)];have f:uM 3 (vd vR "thing_of" aa cD) [.q w,.q S,.q (.str t.n),.un]=Z (.nx d):=(vP (vx U U U U (Jg s.g.Xi u))).t U;have e:wH (cT (c2 Ag av bf)) (vZ (cT (vd wC "is_plainly" av uQ))) d=Z (!t.k.pl,d):=xX U (zR (u6 (vx U U U U (MF t))));obtain⟨i,p⟩:=Lr s t.n (yN T);obtain⟨j,q⟩:=Lr s t.n (a (yN T));obtain⟨x,r⟩:=abZ s;have h:cT (uw yw rE) d=Z (i,d):=u6 (ur (uu U (uu U (uu U (uu (vx U U U U U) U)))) p);have l:uw yw rO d=Z (.I j,d):=ur (uu U (uu U (uu U (uu (ur U (Pq s)) U)))) q;cases o:t.k.pl with
 |false=>rw[o]at e;exact⟨_,uI U ((ux f).t (uZ ((vv e))))⟩
 |true=>
  rw[o]at e;cases i with
  |true=>exact⟨_,uI U ((ux f).t ((ux ((vE e))).t (uZ ((vv h)))))⟩
  |false=>
   cases j with
   |true=>exact⟨_,uI U ((ux f).t ((ux ((vE e))).t ((ux ((vE h))).t (uT ((uX l).t (ur U r))))))⟩
   |false=>exact⟨_,uI U ((ux f).t ((ux ((vE e))).t ((ux ((vE h))).t (uT (Jh l)))))⟩
end
def v3:List Nat->List (List Nat)
 |[]=>[[]]
 |x::r=>if x=32 then []::v3 r else match v3 r with
  |[]=>[[x]]
  |h::t=>(x::h)::t
theorem MX:∀l,∃h t,v3 l=h::t
 |[]=>⟨[],[],U⟩
 |x::r=>by
  obtain⟨h,t,q⟩:=MX r;unfold v3;rw[q];split
  .exact⟨_,_,U⟩
  .exact⟨_,_,U⟩
theorem Ls:∀a b,v3 (a++32::b)=v3 a++v3 b
 |[],b=>by show v3 (32::b)=[]::v3 b;rw[v3,ah U]
 |x::a,b=>by rw[jG,v3,v3,Ls a b];obtain⟨h,t,q⟩:=MX a;rw[q];split<;>rfl
theorem Fp:∀w,¬32∈w->v3 w=[w]
 |[],_=>rfl
 |x::r,h=>by rw[v3,aj λz=>h (by rw[z];exact aY),Fp r λm=>h (ba _ m)]
def MY:List (List Nat)->List Nat
 |[]=>[]
 |[p]=>p
 |p::q::r=>p++32::MY (q::r)
theorem Ks:∀a:List (List Nat),a≠[]->(∀p∈a,¬32∈p)->v3 (MY a)=a
 |[],h,_=>ar U h
 |[p],_,h=>Fp p (h p aY)
 |p::q::r,_,h=>by rw[MY,Ls,Fp p (h p aY),Ks (q::r) (by simp) λx b=>h x (ba _ b)];rfl
theorem Ji:∀a:aB,cd (Str.join " " a)=MY (a.map cd)
 |[]=>rfl
 |[p]=>rfl
 |p::q::r=>by show cd (p++" " ++ Str.join " " (q::r))=_;rw[Ax,Ax,Ji (q::r),show cd " " = [32] by decide +kernel,b8];rfl
def MZ(x:Str):(cO x " ").map cd=v3 (cd x):=by
 have b:(" " : Str)=⟨#[32]⟩:=by decide +kernel
 have d:=StrLaws.join_split x " ";have c:=StrLaws.split_free x 32;rw[<-b]at c;have h:=sV x " ";have e:cd x=MY ((cO x " ").map cd):=by rw[<-Ji,d]
 rw[e,Ks]
 .intro z;have:=bL cX z;rw[af,fW]at this;omega
 .intro p a;obtain⟨q,f,rfl⟩:=aG.1 a;exact c q f
def kpB(p:List Nat):Bool:=!decide (p=[])&&!decide (p∈[cd "the", cd "a"])
def Wd(l:List Nat):List (List Nat):=(v3 l).filter kpB
def F8(a b:List Nat):Wd (a++32::b)=Wd a++Wd b:=by unfold Wd;rw[Ls,oW]
def Oj:Wd []=[]:=rfl
def Eb(l:List Nat):Prop:=l=[]\/∃r,l=r++[32]
def UB{l:List Nat}(h:Eb l)(x:List Nat):Wd (l++x)=Wd l++Wd x:=by
 rcases h with rfl|⟨r,rfl⟩
 .rfl
 .rw[b8,List.singleton_append,F8,F8,Oj,b9]
def W8{w:List Nat}(h:¬32∈w)(k:kpB w=γ):Wd w=[w]:=by unfold Wd;rw[Fp w h,iJ,ah k];rfl
structure GW(w:Str):Prop where
 fr:¬32∈cd w
 kp:kpB (cd w)=γ
 le:w.length<=12
def gwB(w:Str):Bool:=!decide (32∈cd w)&&(kpB (cd w)&&decide (w.length<=12))
def adY{w:Str}(h:gwB w=γ):GW w:=by unfold gwB at h;simp only[aQ,eD,decide_eq_false_iff_not,bz]at h;exact⟨h.1,h.2.1,h.2.2⟩
def X9(n:Nat)(h:n<=2):cd (eQ " " (n:Int))=eF n 32/\(eQ " " (n:Int)).length=n:=by
 obtain rfl|rfl|rfl:n=0\/n=1\/n=2:=by omega
 all_goals exact⟨by decide +kernel,by decide +kernel⟩
def W9{l a w:List Nat}{n:Nat}(h:Eb l)(f:Eb a)(d:Wd a=[])(c:¬32∈w)(k:kpB w=γ)(b:n=1\/n=2):Wd (l++a++w++eF n 32)=Wd l++[w]/\Eb (l++a++w++eF n 32):=by
 have e:Wd (w++eF n 32)=[w]:=by
  rcases b with rfl|rfl
  .show Wd (w++32::[])=_;rw[F8,W8 c k,Oj];rfl
  .show Wd (w++32::([]++32::[]))=_;rw[F8,F8,W8 c k,Oj];rfl
 refine⟨by rw[b8,b8,UB h,UB f,e,d];rfl,.inr ?_⟩;rcases b with rfl|rfl
 .exact⟨_,U⟩
 .exact⟨l++a++w++[32],by rw[b8 (l++a++w)];rfl⟩
theorem Ya:∀(r:aB) (p:Str),(∀w∈p::r,GW w)->Wd (cd p++fl r)=(p::r).map cd
 |[],p,h=>by rw[abS,b9];exact W8 (h p aY).fr (h p aY).kp
 |q::r,p,h=>by rw[Lo,F8,W8 (h p aY).fr (h p aY).kp,Ya r q λw a=>h w (ba _ a)];rfl
def ab0{ws:aB}(h:∀w∈ws,GW w):Wd (cd (jn ws))=ws.map cd:=by
 cases ws with
 |nil=>rfl
 |cons p r=>rw[XS];exact Ya r p h
theorem UC:∀{a b:aB},a.map cd=b.map cd->a=b
 |[],[],_=>rfl
 |[],_::_,h=>by cases h
 |_::_,[],h=>by cases h
 |x::a,y::b,h=>by rw[aS,aS]at h;injection h with c d;rw[Ud c,UC d]
def kpS(x:Str):Bool:=!decide (x="")&&!decide (x∈(["the", "a"]:aB))
def adZ(x:Str):kpS x=kpB (cd x):=by
 have e:∀y:Str,(cd x=cd y)=(x=y):=λy=>propext ⟨Ud,λh=>by rw[h]⟩;have a:(cd x=[])=(x=""):=by rw[<-e ""];rfl
 unfold kpS kpB;simp only[aO,cy,or_false,e,a]
def M0{x:Str}{ws:aB}(l:x.length<=500)(h:Wd (cd x)=ws.map cd):BB [.str x]=Z (.cx (ws.map D.str)):=by
 have hle:=qa x " ";have e:(cO x " ").filter kpS=ws:=by refine UC ?_;rw[<-h];unfold Wd;rw[<-MZ,List.filter_map];congr 2;exact funext adZ
 let b:aU:=[.q (.str x)];have d:iL (cL (cSpl aa (cS " "))) b=Z ((cO x " ").map D.str,b):=by refine Ca (u4 ?_);show (if _ then _ else _)=_;rw[ah ⟨by decide +kernel,by omega⟩]
 have f:=wt (k:=1) (ew:=[]) (g:=gN 0) (ft:=w6 (cT (c2 (er γ) aa cI)) (cT (c2 (oy γ) aa ka))) (fe:=cV 0) D.str D.str kpS (cO x " ") d (by omega) λw z=>⟨[.q (.str w)],[.q (.str w)],U,?_,λz=>⟨_,U,U⟩,λz=>U⟩
 .refine uI (ρ:=b) U (uT ?_);show zQ _ b=_;unfold zQ;rw[u4 f,e]
 .have a1:cT (c2 (er γ) aa cI) [.q (.str w)]=Z (!decide (w=""),[.q (.str w)]):=u6 (uv U U (wj γ w ""));have c:cT (c2 (oy γ) aa ka) [.q (.str w)]=Z (!decide (w∈(["the", "a"]:aB)),[.q (.str w)]):=u6 (uv U U (Cr γ w ["the", "a"]));unfold w6 kpS;rw[a1];cases m:!decide (w="")with
  |true=>exact c
  |false=>rfl
theorem Dt:∀l:aB,xc (l.map D.str)=Z (l.map L3.Dq.str)/\vT (l.map L3.Dq.str)=0
 |[]=>⟨U,U⟩
 |x::l=>by obtain⟨a,b⟩:=Dt l;rw[aS,aS];refine⟨by unfold xc;rw[a];rfl,by unfold vT;rw[b];unfold g?;rfl⟩
def Lu(l:aB):mq (.cx (l.map D.str))=Z (.cx (l.map L3.Dq.str))/\g? (.cx (l.map L3.Dq.str))=1:=by obtain⟨a,b⟩:=Dt l;exact⟨by unfold mq;rw[a],by rw[g?,b]⟩
def UD{neg:Bool}{a b:List L4.D}{x y:List L3.Dq}(e:xc a=Z x)(f:xc b=Z y)(h:vT x<=19)(i:vT y<=19):er neg (.cx a) (.cx b)=Z (.I (if neg then !L3.qq (.cx x) (.cx y)else L3.qq (.cx x) (.cx y))):=by
 have c:mq (.cx a)=Z (.cx x):=by unfold mq;rw[e]
 have d:mq (.cx b)=Z (.cx y):=by unfold mq;rw[f]
 unfold er;rw[show G3 neg (.cx a) (.cx b)=O from U];show G4 neg _ _=_;unfold G4;rw[c,d];simp only;rw[ah (by simp only[aQ,bz];exact⟨⟨U,by rw[g?];omega⟩,by rw[g?];omega⟩)]
def Lv(neg:Bool)(l:aB):er neg (.cx (l.map D.str)) (.cx [])=Z (.I (if neg then !decide (l=[])else decide (l=[]))):=by obtain⟨a,b⟩:=Dt l;rw[UD (y:=[]) a U (by omega) (bH _)];cases l<;>rfl
def ab1(a b:aB):T1 (.cx []) (.cx [.cx (a.map D.str),.cx (b.map D.str)])=Z (.I (decide (a=[])||decide (b=[]))):=by
 obtain⟨a1,f⟩:=Lu a;obtain⟨c,h⟩:=Lu b;have e:xc [.cx (a.map D.str),.cx (b.map D.str)]=Z [.cx (a.map L3.Dq.str),.cx (b.map L3.Dq.str)]:=by unfold xc;rw[a1];unfold xc;rw[c];rfl
 show (match mq (.cx []),xc [.cx (a.map D.str),.cx (b.map D.str)]with
  |some d,Z l=>if decide (g? d<=20)&&l.all (λe=>decide (g? e<=20))then Z (D.I (l.any λe=>qq e d))else O
  |_,_=>O)=_
 rw[e,show mq (.cx [])=Z (.cx []) from U];simp only;rw[ah (by simp only[fZ,List.all_nil,aQ,bz];exact⟨by rw[g?];show 0+1<=20;decide,by omega,by omega,trivial⟩)];cases a<;>cases b<;>rfl
def Fs(V:List Vb)(x:Str):Option Vb:=V.find? λv=>decide (x∈v.ws)
def vD:Option Vb->L4.D
 |some v=>m5 v
 |none=>.E
def UE{V:List Vb}(f:(V.flatMap Vb.ws).Nodup)(x:Str):BX (vwD V) (.str x)=Z (vD (Fs V x)):=by
 show Z ((wI (V.flatMap λv=>v.ws.map kS) (V.flatMap λv=>v.ws.map λu=>m5 v) (kS x)).getD .E)=_;cases h:Fs V x with
 |some v=>
  rw[Ct (d:=m5 v)]
  .rfl
  .have:=AH f;rw[pO]at this;exact this
  .rw[N8];exact dJ.2 ⟨v,kz h,aG.2 ⟨x,bp (lL (p:=λv:Vb=>decide (x∈v.ws)) h),U⟩⟩
 |none=>
  rw[JU]
  .rfl
  .intro z;obtain⟨v,a,c⟩:=dJ.1 z;obtain⟨y,b,e⟩:=aG.1 c;have:=la.1 h v a;rw[<-show y=x by injection e]at this;exact this (aT b)
def N'(j:Str)(r:aB):Bool:=decide (j∉r)||(decide (r.idxOf j=0)||decide (r.idxOf j+1=r.length))
def Ay(x:Str):L4.D:=.cx [.str "noverb", .str x]
def Eo(x:Str):L4.D:=.cx [.str "noform", .str x]
def Pu(x:Str):L4.D:=.cx [.str "noway", .str x]
def Lw(x:Str)(w:Option Str):L4.D:=.cx [.str "command", .cx [.str x,oS w,.E]]
def Xn(W:List Wy)(x:Str):List Wy:=W.filter λw=>decide (w.w=x)
def yZ(W:List Wy)(v:Vb)(r:aB):Option L4.D:=
 if v.f="alone" then (if r=[]then Z (Lw v.n O)else Z (Eo v.n))
 else if v.f="two" then (if N' (v.j.getD "") r then Z (Eo v.n)else O)
 else if v.f="way" then match r with
  |[w]=>if Xn W w=[]then Z (Pu w)else Z (Lw v.n (Z w))
  |_=>Z (Eo v.n)
 else if r=[]then Z (Eo v.n)else O
def due(V:List Vb)(W:List Wy):aB->Option L4.D
 |[]=>Z (Ay "")
 |x::r=>match Fs V x with
  |none=>Z (Ay x)
  |some v=>yZ W v r
def UF{a:List L4.D}(i:Nat)(h:i<=a.length):gi a O (Z (i:Int))=a.take i:=by
 unfold gi;have e:HT.fy a.length a.length (Z (i:Int))=i:=by unfold HT.fy;simp only;split<;>omega
 rw[e];simp[HT.fy]
def M3{ds:List L4.D}(i:Nat)(h:i<=ds.length):gi ds (Z (i:Int)) O=ds.drop i:=by
 unfold gi;have e:HT.fy ds.length 0 (Z (i:Int))=i:=by unfold HT.fy;simp only;split<;>omega
 rw[e];refine gL ?_;rw[dH];simp[HT.fy]
def Yc{e:FE}{ρ ρ1:aU}{x:L4.D}{ds:List L4.D}(h:e ρ=Z (.cx (x::ds),ρ1)):K8 e (Z 1) O ρ=Z (.cx ds,ρ1):=by
 have c:=M3 (ds:=x::ds) 1 (Nat.le_add_left 1 _);unfold K8;rw[h];simp only;rw[aj (by
  rintro⟨z,_⟩;have e:HT.fy (ds.length+1) 0 (Z ((1:Nat):Int))=1:=by unfold HT.fy;simp only;split<;>omega
  exact ar (e.symm.t z) (by decide)),show gi (x::ds) (Z 1) O=ds from c]
def UG{e:FE}{ρ ρ1:aU}{i:Int}(h:e ρ=Z (.int i,ρ1)):sh e ρ=Z (Z i,ρ1):=by unfold sh;rw[h]
def UH{e:FE}{lo d:FO}{f ρ1 a b:aU}{c:List L4.D}{l u:Option Int}(h:e f=Z (.cx c,ρ1))(i:lo ρ1=Z (l,a))(j:d a=Z (u,b)):Le e lo d f=Z (.cx (gi c l u),b):=by unfold Le;rw[h];simp only[i,j]
def ab2{e:FE}{lo b:FO}{ρ ρ1 ρ2 a:aU}{ds:List L4.D}{l u:Option Int}(c:e ρ=Z (.b0 ds,ρ1))(d:lo ρ1=Z (l,ρ2))(f:b ρ2=Z (u,a)):EJ e lo b ρ=Z (gi ds l u,a):=by unfold EJ;rw[c];simp only[d,f]
def UI{r:aB}{j:Str}(t:r.length<=100)(h:N' j r=γ):yY [.cx (r.map D.str),.str j]=Z .E:=by
 let A:Sl:=.q (.cx (r.map D.str));let J:Sl:=.q (.str j);have d:cT (c2 (oy γ) ai aa) [A,J,.un,.un]=Z (!decide (j∈r),[A,J,.un,.un]):=u6 (uv U U (Cr γ j r));refine Dg U ?_;unfold yX;by_cases c:j∈r
 .rw[aT c]at d;have q:r.idxOf j<r.length:=jk.2 c;have l:c2 qi aa ai [A,J,.un,.un]=Z (.int (r.idxOf j:Nat),[A,J,.un,.un]):=uv U U (by
   show (match zS (r.map D.str)with
    |some e=>if j∈e/\e.length<=1000 then Z (D.int (e.idxOf j:Nat))else O
    |none=>O)=_
   rw[A1];exact ah ⟨c,by omega⟩)
  let I:Sl:=.q (dN (r.idxOf j));have m:uO rD [A,J,I,.un]=Z (.cx [.cx ((r.take (r.idxOf j)).map D.str),.cx ((r.drop (r.idxOf j+1)).map D.str)],[A,J,I,.un]):=by
   refine wb (uu (ρ1:=[A,J,I,.un]) ?_ (uu (ρ1:=[A,J,I,.un]) ?_ U)) (bK U)
   .show Z (D.cx (gi (r.map D.str) O (Z ((r.idxOf j:Nat):Int))),_)=_;rw[UF _ (by rw[af];omega),gZ]
   .show Z (D.cx (gi (r.map D.str) (Z ((r.idxOf j:Int)+1)) O),_)=_;rw[show (r.idxOf j:Int)+1=((r.idxOf j+1:Nat):Int) from U,M3 _ (by rw[af];omega),gY]
  have o:(decide (r.take (r.idxOf j)=[])||decide (r.drop (r.idxOf j+1)=[]))=γ:=by
   unfold N' at h;rw[aR (λz=>z c),l5,fB,bz,bz]at h;rw[fB,bz,bz];rcases h with h|h
   .exact .inl (by rw[h];rfl)
   .exact .inr (List.drop_of_length_le (by omega))
  let K:Sl:=.q (.cx [.cx ((r.take (r.idxOf j)).map D.str),.cx ((r.drop (r.idxOf j+1)).map D.str)]);refine f5 d (uE (uU (uA l (uE (uU (uA m (vY (uA (a:=.E) (b:=[A,J,I,K]) ?_ U))))))));have i:=ab1 (r.take (r.idxOf j)) (r.drop (r.idxOf j+1));rw[o]at i;have p:cT (c2 T1 (uO uQ) av) [A,J,I,K]=Z (γ,[A,J,I,K]):=u6 (uv U U i);show u2 _ _ _ [A,J,I,K]=_;unfold u2;rw[p];rfl
 .rw[aR c]at d;exact o3 d (vY (uA U U))
def fq(v:Vb)(c:Str){i:Nat}{ρ:aU}(h:cV i ρ=Z (m5 v,ρ)):cT (c2 (er δ) (c1 (uC xB "form") (cV i)) (cS c)) ρ=Z (decide (v.f=c),ρ):=u6 (uv (u5 h U) U (wj δ _ _))
def UJ{l:aB}{i:Nat}{a:aU}(h:cV i a=Z (.cx (l.map D.str),a)):c1 vH (cV i) a=Z (dN l.length,a):=u5 h (by show Z (D.int _)=_;rw[af])
def len0{l:aB}{i:Nat}{ρ:aU}(h:cV i ρ=Z (.cx (l.map D.str),ρ)):cT (c2 FJ (c1 vH (cV i)) aw) ρ=Z (!decide (l=[]),ρ):=u6 (uv (UJ h) U (by
 show Z (D.I (decide ((l.length:Int) > 0)))=_;cases l with
 |nil=>rfl
 |cons x l=>rw[aT (by rw[aP];omega)];rfl))
def lenQ{l:aB}{i:Nat}(n:Nat){ρ:aU}(h:cV i ρ=Z (.cx (l.map D.str),ρ)):cT (c2 (er δ) (c1 vH (cV i)) (cC (dN n))) ρ=Z (decide (l.length=n),ρ):=u6 (uv (UJ h) U (by
 rw[xb];show Z (D.I (decide ((l.length:Int)=n)))=_;congr 2;exact decide_eq_decide.2 (by omega)))
def Lx{q:FT}{f g:FE}{ρ a:aU}(h:q ρ=Z (γ,a)):u2 q f g ρ=f a:=by unfold u2;rw[h]
def Ho{q:FT}{f g:FE}{ρ a:aU}(h:q ρ=Z (δ,a)):u2 q f g ρ=g a:=by unfold u2;rw[h]
def M4(v:Vb)(r:aB)(h:v.f="alone"):vO [m5 v,.cx (r.map D.str)]=Z (if r=[]then .cx []else .E):=by
 refine Dg U (o3 ((fq v "alone" U).t (by rw[aT h])) (vY ?_));have e:=lenQ (l:=r) (i:=1) 0 (ρ:=[.q (m5 v),.q (.cx (r.map D.str))]) U;cases r with
 |nil=>exact uA ((Lx e).t U) U
 |cons x r=>exact uA ((Ho e).t U) U
def ab3(v:Vb)(r:aB)(b:r.length<=100)(h:v.f="two"){j:Str}(a:v.j=Z j)(n:N' j r=γ):vO [m5 v,.cx (r.map D.str)]=Z .E:=by refine Dg U (f5 ((fq v "alone" U).t (by rw[h];rfl)) (o3 ((fq v "two" U).t (by rw[aT h])) (vY (uA (ur (uu U (uu (d:=.str j) (u5 U ?_) U)) (UI b n)) U))));show Z (oS v.j)=_;rw[a];rfl
def ab4(v:Vb)(r:aB)(h:v.f="way"):vO [m5 v,.cx (r.map D.str)]=Z (if r.length=1 then .cx [.cx (r.map D.str)]else .E):=by
 refine Dg U (f5 ((fq v "alone" U).t (by rw[h];rfl)) (f5 ((fq v "two" U).t (by rw[h];rfl)) (o3 ((fq v "way" U).t (by rw[aT h])) (vY ?_))));have e:=lenQ (l:=r) (i:=1) 1 (ρ:=[.q (m5 v),.q (.cx (r.map D.str))]) U;by_cases q:r.length=1
 .rw[aT q]at e;rw[ah q];exact uA ((Lx e).t U) U
 .rw[aR q]at e;rw[aj q];exact uA ((Ho e).t U) U
def ab5(v:Vb)(a:v.f≠"alone")(b:v.f≠"two")(c:v.f≠"way"):vO [m5 v,.cx (([]:aB).map D.str)]=Z .E:=
 Dg U (f5 ((fq v "alone" U).t (by rw[aR a])) (f5 ((fq v "two" U).t (by rw[aR b])) (f5 ((fq v "way" U).t (by rw[aR c])) (vY (uA ((Ho (len0 (l:=[]) U)).t U) U)))))
section
variable{T:List Th}{M:List Mk}{dk:aB}{W:List Wy}{V:List Vb}{R:List L4.D}{c:L4.D}{P:List Ky}{a:Str->Str}{m:Str->Int}
def Xa(hW:W.length<=60):∃l:aB,Aa [wO T M dk W V R c]=Z (.b0 (l.map D.str))/\∀x,x∈l ↔ x∈W.map Wy.w:=by let b:aU:=[.q (wO T M dk W V R c)];refine⟨yF (x1 (W.map Wy.w)),Cs (ρ:=b) U (w9 ?_),λx=>(List.mem_mergeSort).t Lf⟩;have e:cL (uF 1 [] (iL (c1 (uC Ai "kept_ways") aa)) (gN 0) vC (c2 ea aa ay)) b=Z (.b0 ((W.map Wy.w).map D.str),b):=(u4 (wu ll (λw=>.str w.w) W U (by omega) λw z=>⟨[.q (ll w)],[.q (ll w)],U,U,U⟩)).t (by rw[aW];rfl);show ri _ b=_;unfold ri;rw[e];dsimp only;rw[A1];dsimp only;rw[ah (by rw[af];omega)]
def ab6(hW:W.length<=60)(v:Vb)(x:Str):BC [wO T M dk W V R c,m5 v,.str x]=Z (if Xn W x=[]then Pu x else Lw v.n (Z x)):=by
 obtain⟨l,e,d⟩:=Xa (T:=T) (M:=M) (dk:=dk) (V:=V) (R:=R) (c:=c) hW;have q:cT (c2 (oy γ) ak (vd xI "way_words" aa uQ)) [.q (wO T M dk W V R c),.q (m5 v),.q (.str x)]=Z (!decide (x∈l),_):=u6 (uv U (vx U U U U e) (AG γ x l));have z:(x∈l) ↔ ¬Xn W x=[]:=by
  rw[d];unfold Xn;rw[kG];constructor
  .rintro h k;obtain⟨w,b,e⟩:=aG.1 h;exact k w b (aT e)
  .intro h;refine ky λk=>h λw b e=>k (aG.2 ⟨w,b,bp e⟩)
 refine Dg U ?_;by_cases h:Xn W x=[]
 .rw[aR (λy=>z.1 y h)]at q;rw[ah h];exact o3 q (vY (uA U U))
 .rw[aT (z.2 h)]at q;rw[aj h];exact f5 q (vY (uA U U))
def QQ(hT:T.length<=900):DN [wO T M dk W V R c]=Z (.b0 ((T.map Th.n).map D.str)):=
 Dg U (Oa (uA (wu fg (λt=>.str t.n) T U (by omega) λt z=>⟨[.q (fg t)],[.q (fg t)],U,U,U⟩) (by rw[aW];rfl)))
def Iq(s:Sit T M dk W P a):∃l:aB,NZ [wO T M dk W V R c,sP P (va a m)]=Z (l.map D.str):=by
 let w:=wO T M dk W V R c;let S:=sP P (va a m);have hT:=s.g.len;have f:∀t:Th,∃b:Bool,t∈T->AX [w,S,.str t.n]=Z (.I b):=λt=>by
  by_cases d:t∈T
  .obtain⟨b,e⟩:=W7 s d;exact⟨b,λx=>e⟩
  .exact⟨δ,λz=>ar z d⟩
 let p:Th->Bool:=λt=>(f t).choose;have e:=wt (k:=1) (ew:=[0,1]) (g:=gN 0) (ft:=cT (uw AX kq)) (fe:=cV 0) (ρ:=[.q w,.q S]) (s:=iL (vd z8 "names" aa uQ)) (λt:Th=>D.str t.n) (λt:Th=>D.str t.n) p T ((Ca (vx U U U U (QQ (by omega)))).t (by rw[aW];rfl)) (by omega) λt d=>⟨[.q (.str t.n),.q w,.q S],[.q (.str t.n),.q w,.q S],U,u6 (ur U ((f t).choose_spec d)),λx=>⟨_,U,U⟩,λx=>U⟩;refine⟨yF ((T.filter p).map Th.n),D5 (ρ:=[.q w,.q S]) U (w9 ?_)⟩;show D7 _ [.q w,.q S]=_;unfold D7;rw[u4 e];simp only;rw[show ((T.filter p).map λt=>D.str t.n)=((T.filter p).map Th.n).map D.str by rw[aW];rfl,A1];simp only;rw[ah (by rw[af];exact fP (cp _ _) (by omega))]
def Xb(s:Sit T M dk W P a)(v:Vb):yB [wO T M dk W V R c,sP P (va a m),m5 v,.cx []]=Z (Lw v.n O):=by obtain⟨l,e⟩:=Iq (V:=V) (R:=R) (c:=c) (m:=m) s;refine Dg U (uE (uU (uA (u4 (ur U e)) ?_)));exact uE (zK U (uE (zK U (uE (uU (uA U (vY (uA U U))))))))
def Xc(s:Sit T M dk W P a)(nd:((V++v9).flatMap Vb.ws).Nodup)(n0:Fs (V++v9) "" = O)(hv:∀v∈V++v9,v∈v6++v9){ws:aB}{x:Str}(hx:BB [.str x]=Z (.cx (ws.map D.str)))(hl:ws.length<=100){d:L4.D}(hd:due (V++v9) W ws=Z d):Au [wO T M dk W V R c,sP P (va a m),.str x]=Z d:=by
 let w:=wO T M dk W V R c;let A:Sl:=.q w;let S:Sl:=.q (sP P (va a m));let X:Sl:=.q (.str x);have N:∀y:Str,xF [w,.str y]=Z (vD (Fs (V++v9) y)):=λy=>Dg U (vY (uA (uv U U (UE nd y)) U));refine Dg U (uE (uU (uA (ur U hx) ?_)));let p:Sl:=.q (.cx (ws.map D.str));refine X' (R:=λF=>F=[A,S,X,p,.un,.un,.un]) U ?_;rintro _ rfl;have J:=len0 (l:=ws) (i:=3) (ρ:=[A,S,X,p,.un,.un,.un]) U;cases ws with
 |nil=>cases hd;refine uE (uU (uA ((Ho J).t U) (uE (uU (uA (vx U U U U (N "")) ?_)))));rw[n0];exact o3 U (vY (uA U U))
 |cons y r=>
  refine uE (uU (uA ((Lx J).t (uv U U (z:=D.str y) (xS (xs:=(y::r).map D.str) (j:=0) U))) (uE (uU (uA (vx U U U U (N y)) ?_)))));replace hd:(match Fs (V++v9) y with
   |none=>Z (Ay y)
   |some v=>yZ W v r)=Z d:=hd
  cases H:Fs (V++v9) y with
  |none=>rw[H]at hd;cases hd;exact o3 U (vY (uA U U))
  |some v=>
   rw[H]at hd;replace hd:yZ W v r=Z d:=hd;have mv:=hv v (kz H);refine f5 U ?_;let B:Sl:=.q (m5 v);let Y:Sl:=.q (.str y);refine X' (R:=λF=>F=[A,S,X,p,Y,B,.un]) U ?_;rintro _ rfl;have G:∀{z:L4.D},vO [m5 v,.cx (r.map D.str)]=Z z->uw vO mY [A,S,X,p,Y,B,.un]=Z (z,[A,S,X,p,Y,B,.un]):=λh=>ur (uu U (uu (Yc U) U)) h;have nof:d=Eo v.n->vO [m5 v,.cx (r.map D.str)]=Z .E->Ws ((bt (uM 6 (uw vO mY)) (bt (fc (cT (c2 Ag bw bf)) (uy (uO rK)) uD) (bt (fc (cT (c2 (er δ) (c1 (uC xB "form") br) c9)) (uy (uw BC rG)) uD) (uy (uw yB (ax aa m9)))))) [A,S,X,p,Y,B,.un]) (λ_=>False) (λe _=>e=d):=λQ b=>by subst Q;exact uE (uU (uA (G b) (o3 U (vY (uA U U)))))
   unfold yZ at hd;by_cases t:v.f="alone"
   .rw[ah t]at hd;by_cases o:r=[]
    .rw[ah o]at hd;cases hd;have b:=M4 v r t;rw[ah o]at b;exact uE (uU (uA (G b) (f5 U (f5 ((fq v "way" U).t (by rw[t];rfl)) (vY (uA (ur U (Xb s v)) U))))))
    .rw[aj o]at hd;have b:=M4 v r t;rw[aj o]at b;exact nof (cc hd).symm b
   .rw[aj t]at hd;by_cases u:v.f="two"
    .rw[ah u]at hd;by_cases E:N' (v.j.getD "") r=γ
     .rw[ah E]at hd;obtain⟨j,I⟩:∃j,v.j=Z j:=kA.1 (bp (aH.1 (show ((v6++v9).all λv=>decide (v.f="two" -> v.j.isSome=γ))=γ by kernel_rfl) v mv) u);rw[I]at E;exact nof (cc hd).symm (ab3 v r (by rw[aP]at hl;omega) u I E)
     .rw[aj E]at hd;cases hd
    .rw[aj u]at hd;by_cases C:v.f="way"
     .rw[ah C]at hd;have b:=ab4 v r C
      match r,hd,b with
      |[],hd,b=>exact nof (cc hd).symm b
      |[z],hd,b=>
       refine uE (uU (uA (G b) (f5 U (o3 ((fq v "way" U).t (by rw[aT C])) (vY (uA (ur U (ab6 (bQ s.g.w8 (by decide)) v z)) ?_))))));replace hd:(if Xn W z=[]then Z (Pu z)else Z (Lw v.n (Z z)))=Z d:=hd;by_cases q:Xn W z=[]
       .rw[ah q]at hd ⊢;exact cc hd
       .rw[aj q]at hd ⊢;exact cc hd
      |_::_::_,hd,b=>exact nof (cc hd).symm b
     .rw[aj C]at hd;by_cases o:r=[]
      .rw[ah o]at hd;subst o;exact nof (cc hd).symm (ab5 v t u C)
      .rw[aj o]at hd;cases hd
end
def sq(f c:Str){i:Nat}{ρ:aU}(h:cV i ρ=Z (.str f,ρ)):cT (c2 (er δ) (cV i) (cS c)) ρ=Z (decide (f=c),ρ):=u6 (uv h U (wj δ _ _))
def UK(j:L4.D)(r:aB):wG [.str "alone", j,.cx (r.map D.str)]=Z (if r=[]then .b0 []else .E):=by
 refine Dg U (o3 (sq "alone" "alone" U) (vY ?_));have e:=Lv γ r;cases r with
 |nil=>exact uA (uv U (u5 (uv U U e) U) U) U
 |cons x r=>exact uA (uv U (u5 (uv U U e) U) U) U
def atL(r:aB)(j:Str):List Nat:=(az r.length).filter λk=>decide (r.getD k "" = j)
def ab7(r:aB)(j:Str)(h:j∉r):atL r j=[]:=by unfold atL;rw[kG];intro k a e;have a:=bA.1 a;exact h (bp e▸vh a)
def Xd(r:aB)(j:Str)(h:j∈r):∃l,atL r j=r.idxOf j::l:=by
 have a:r.idxOf j<r.length:=jk.2 h;have e:(atL r j).head?=Z (r.idxOf j):=by
  unfold atL;rw[px];refine List.find?_range_eq_some.2 ⟨?_,bA.2 a,λk c=>?_⟩
  .rw[bz,bN,aM a];show r[r.idxOf j]=j;simpa using oU a
  .have b:k<r.length:=by omega
   have:=Ip c b;rw[eD,decide_eq_false_iff_not,bN,aM b];intro z;rw[show r[k]=j from z]at this;simp at this
 cases q:atL r j with
 |nil=>rw[q]at e;cases e
 |cons x l=>rw[q]at e;cases e;exact⟨l,U⟩
def Xe:∀l:List Nat,er δ (.b0 (l.map dN)) (.b0 [])=Z (.I (decide (l=[]))):=by
 have h:∀l:List Nat,∃m,xc (l.map dN)=Z m/\vT m=0/\m.length=l.length:=λl=>by
  induction l with
  |nil=>exact⟨[],U,U,U⟩
  |cons x l e=>obtain⟨m,a,b,c⟩:=e;refine⟨.int x::m,by rw[aS];unfold xc;rw[a];rfl,by unfold vT;rw[b];unfold g?;rfl,by rw[aP,aP,c]⟩
 intro l;obtain⟨m,a,b,c⟩:=h l;have d:mq (.b0 (l.map dN))=Z (.b0 m):=by unfold mq;rw[a]
 unfold er;rw[show G3 δ (.b0 (l.map dN)) (.b0 [])=O from U];show G4 δ _ _=_;unfold G4;rw[d,show mq (.b0 [])=Z (.b0 []) from U];simp only;rw[ah (by simp only[aQ,bz];exact⟨⟨U,by rw[g?,b];decide⟩,by rw[g?];show 0+1<=20;decide⟩)];cases l<;>cases m<;>first|rfl|cases c
def n_eq(a b:Nat):er δ (dN a) (dN b)=Z (.I (decide (a=b))):=by rw[xb];show Z (D.I (decide ((a:Int)=b)))=_;congr 2;exact decide_eq_decide.2 (by omega)
def ab8(j:Str)(r:aB)(y:r.length<=100):∃d,wG [.str "two", .str j,.cx (r.map D.str)]=Z d/\(N' j r=γ->d=.E)/\(N' j r=δ->∃x l,d=.b0 (x::l)):=by
 let A:Sl:=.q (.str "two");let J:Sl:=.q (.str j);let a:Sl:=.q (.cx (r.map D.str));have p:cL (uF 1 [1,2] (u3 (c1 vH ak)) (gN 0) (cT (c2 (er δ) (c2 ea ak aa) ai)) aa) [A,J,a,.un]=Z (.b0 ((atL r j).map dN),[A,J,a,.un]):=by refine u4 (wt (λk:Nat=>dN k) dN (λk=>decide (r.getD k "" = j)) (az r.length) (MR (UJ U) (by omega)) (by rw[bF];omega) λk e=>⟨[.q (dN k),J,a],[.q (dN k),J,a],U,u6 (uv (uv U U (xS ?_)) U (wj δ _ _)),λv=>⟨_,U,U⟩,λv=>U⟩);have e:=bA.1 e;rw[bu,aM e,bN,aM e];rfl
 refine Jb U (f5 (sq "two" "alone" U) (o3 (sq "two" "two" U) (uE (uU (uA p ?_)))));let L:Sl:=.q (.b0 ((atL r j).map dN));refine X' (R:=λt=>t=[A,J,a,L]) U ?_;rintro _ rfl;have b:cT (c2 (er δ) av (cL (uK uQ))) [A,J,a,L]=Z (decide (atL r j=[]),[A,J,a,L]):=u6 (uv U U (Xe _));by_cases c:j∈r
 .obtain⟨l,m⟩:=Xd r j c;have w:r.idxOf j<r.length:=jk.2 c;rw[m]at b;have b:cT (c2 (er δ) av (cL (uK uQ))) [A,J,a,L]=Z (δ,[A,J,a,L]):=b;have f:c2 ea av aw [A,J,a,L]=Z (dN (r.idxOf j),[A,J,a,L]):=uv U U (by rw[m];exact xS (xs:=(r.idxOf j::l).map dN) (j:=0) U);have h:cT (c2 (er δ) (c2 ea av aw) aw) [A,J,a,L]=Z (decide (r.idxOf j=0),[A,J,a,L]):=u6 (uv f U (n_eq _ 0));have q:cT (c2 (er δ) (c2 ea av aw) (c2 DD (c1 vH ak) ay)) [A,J,a,L]=Z (decide (r.idxOf j+1=r.length),[A,J,a,L]):=by refine u6 (uv f (uv (UJ U) U U) ?_);rw[xb];show Z (D.I (decide _))=_;congr 2;exact decide_eq_decide.2 (by omega)
  have i:wH (cT (c2 (er δ) av (cL (uK uQ)))) (wH (cT (c2 (er δ) (c2 ea av aw) aw)) (cT (c2 (er δ) (c2 ea av aw) (c2 DD (c1 vH ak) ay)))) [A,J,a,L]=Z (N' j r,[A,J,a,L]):=by
   unfold N';rw[aR (λz=>z c),l5];refine(xX b (ρ1:=[A,J,a,L]) ?_);by_cases z:r.idxOf j=0
   .rw[aT z]at h ⊢;unfold wH;rw[h];rfl
   .rw[aR z]at h ⊢;exact xX h q
  cases o:N' j r with
  |true=>rw[o]at i;exact o3 i (vY (uA U ⟨λv=>U,λz=>by cases z⟩))
  |false=>rw[o]at i;exact f5 i (Oa (uA (NF (uu (UH U U (UG f)) (uu (UH U (UG (uv f U U)) U) U)) (bK U)) ⟨(λz=>by cases z),λv=>⟨_,_,U⟩⟩))
 .rw[ab7 r j c]at b;have n:N' j r=γ:=by unfold N';rw[aT c];rfl
  refine o3 (by unfold wH;rw[b];rfl) (vY (uA U ⟨λv=>U,λz=>by rw[n]at z;cases z⟩))
def Xf(f:Str)(j:L4.D)(r:aB)(i:f≠"alone")(l:f≠"two"):wG [.str f,j,.cx (r.map D.str)]=Z (if r=[]\/f="way" /\ 1<r.length then .E else .b0 [.cx (r.map D.str)]):=by
 let A:Sl:=.q (.str f);let J:Sl:=.q j;let c:Sl:=.q (.cx (r.map D.str));have d:cT (c2 (er δ) ak (uO uQ)) [A,J,c,.un]=Z (decide (r=[]),[A,J,c,.un]):=u6 (uv U U (Lv δ r));have e:cT (c2 (er δ) aa c9) [A,J,c,.un]=Z (decide (f="way"),[A,J,c,.un]):=sq f "way" U;have m:cT (c2 FJ (c1 vH ak) ay) [A,J,c,.un]=Z (decide (1<r.length),[A,J,c,.un]):=u6 (uv (UJ U) U (by
  show Z (D.I (decide ((r.length:Int) > 1)))=_;congr 2;exact decide_eq_decide.2 (by omega)))
 have h:wH (cT (c2 (er δ) ak (uO uQ))) (w6 (cT (c2 (er δ) aa c9)) (cT (c2 FJ (c1 vH ak) ay))) [A,J,c,.un]=Z (decide (r=[]\/f="way" /\ 1<r.length),[A,J,c,.un]):=by
  by_cases a:r=[]
  .rw[aT a]at d;rw[aT (.inl a)];unfold wH;rw[d]
  .rw[aR a]at d;refine xX d ?_;by_cases b:f="way"
   .rw[aT b]at e;refine(BU e m).t ?_;congr 2;exact decide_eq_decide.2 ⟨λz=>.inr ⟨b,z⟩,λz=>(z.resolve_left a).2⟩
   .rw[aR b]at e;rw[aR λz=>b (z.resolve_left a).1];exact Lp e
 refine Dg U (f5 ((sq f "alone" U).t (by rw[aR i])) (f5 ((sq f "two" U).t (by rw[aR l])) ?_));by_cases z:r=[]\/f="way" /\ 1<r.length
 .rw[aT z]at h;rw[ah z];exact o3 h (vY (uA U U))
 .rw[aR z]at h;rw[aj z];exact f5 h (Oa (uA U U))
def Xg{x:L4.D}{xs:List L4.D}{l:List L3.Dq}(h:xc (x::xs)=Z l)(hd:vT l<=19):er δ (.b0 (x::xs)) (.b0 [])=Z (.I δ):=by
 have a:mq (.b0 (x::xs))=Z (.b0 l):=by unfold mq;rw[h]
 unfold er;rw[show G3 δ (.b0 (x::xs)) (.b0 [])=O from U];show G4 δ _ _=_;unfold G4;rw[a,show mq (.b0 [])=Z (.b0 []) from U];simp only;rw[ah (by simp only[aQ,bz];exact⟨⟨U,by rw[g?];omega⟩,by rw[g?];show 0+1<=20;decide⟩)];cases l with
 |nil=>
  unfold xc at h;split at h
  .split at h<;>cases h
  .cases h
 |cons y l=>rfl
theorem Pw:∀l:List Vb,∃m,xc (l.map nf)=Z m/\vT m<=2
 |[]=>⟨[],U,by decide⟩
 |v::l=>by
  obtain⟨m,b,c⟩:=Pw l;obtain⟨i,p⟩:=Lu v.o;have a:∃j,mq (oS v.j)=Z j/\g? j=0:=by cases v.j with
   |none=>exact⟨_,U,by unfold g?;rfl⟩
   |some x=>exact⟨_,U,by unfold g?;rfl⟩
  obtain⟨j,d,h⟩:=a;have e:mq (nf v)=Z (.cx [.str v.n,.cx (v.o.map L3.Dq.str),.str v.f,j]):=by
   show (match xc [.str v.n,.cx (v.o.map D.str),.str v.f,oS v.j]with
    |some l=>Z (L3.Dq.cx l)
    |none=>O)=_
   have:xc [.str v.n,.cx (v.o.map D.str),.str v.f,oS v.j]=Z [.str v.n,.cx (v.o.map L3.Dq.str),.str v.f,j]:=by unfold xc;rw[show mq (.str v.n)=Z (.str v.n) from U];unfold xc;rw[i];unfold xc;rw[show mq (.str v.f)=Z (.str v.f) from U];unfold xc;rw[d];rfl
   rw[this]
  refine⟨.cx [.str v.n,.cx (v.o.map L3.Dq.str),.str v.f,j]::m,by rw[aS];unfold xc;rw[e,b],?_⟩;unfold vT;refine qY.2 ⟨?_,c⟩;rw[g?];simp only[vT,(Dt v.o).2,h,g?];decide
def Phr(W:List Wy)(v:Vb)(r:aB)(d:L4.D):Prop:=(d=.E/\yZ W v r=Z (Eo v.n))\/(v.f="way" /\ (∃w,r=[w])/\∃l,d=.b0 l)\/(v.f="alone" /\ r=[]/\d=.b0 [])\/(v.f≠"way" /\ yZ W v r=O/\∃x l,d=.b0 (x::l))
def ab9(W:List Wy){v:Vb}(mv:v∈v6++v9){r:aB}(c:r.length<=100):∃d,wG [.str v.f,oS v.j,.cx (r.map D.str)]=Z d/\Phr W v r d:=by
 by_cases h:v.f="alone"
 .rw[h];refine⟨_,UK _ r,?_⟩;by_cases c:r=[]
  .rw[ah c];exact .inr (.inr (.inl ⟨h,c,U⟩))
  .rw[aj c];exact .inl ⟨U,by unfold yZ;rw[ah h,aj c]⟩
 by_cases i:v.f="two"
 .obtain⟨j,o⟩:∃j,v.j=Z j:=kA.1 (bp (aH.1 (show ((v6++v9).all λv=>decide (v.f="two" -> v.j.isSome=γ))=γ by kernel_rfl) v mv) i);obtain⟨d,e,p,q⟩:=ab8 j r c;rw[i,o];refine⟨d,e,?_⟩;have dv:yZ W v r=if N' j r then Z (Eo v.n)else O:=by unfold yZ;rw[aj h,ah i,o];rfl
  cases m:N' j r with
  |true=>exact .inl ⟨p m,by rw[dv,m];rfl⟩
  |false=>exact .inr (.inr (.inr ⟨by rw[i];decide,by rw[dv,m];rfl,q m⟩))
 refine⟨_,Xf v.f _ r h i,?_⟩;by_cases l:v.f="way"
 .match r with
  |[]=>rw[ah (.inl U)];exact .inl ⟨U,by unfold yZ;rw[aj h,aj i,ah l]⟩
  |[w]=>rw[aj (by rintro(z|⟨_,z⟩);cases z;exact ar z (by show ¬1<1;decide))];exact .inr (.inl ⟨l,⟨w,U⟩,_,U⟩)
  |a::b::r=>rw[ah (.inr ⟨l,by show 1<r.length+1+1;omega⟩)];exact .inl ⟨U,by unfold yZ;rw[aj h,aj i,ah l]⟩
 .by_cases c:r=[]
  .rw[ah (.inl c)];exact .inl ⟨U,by unfold yZ;rw[aj h,aj i,aj l,ah c]⟩
  .rw[aj (by rintro(z|⟨z,_⟩);exact c z;exact l z)];exact .inr (.inr (.inr ⟨l,by unfold yZ;rw[aj h,aj i,aj l,aj c],_,_,U⟩))
section
variable{T:List Th}{M:List Mk}{dk:aB}{W:List Wy}{m:Nat}{RS:List Rs}
def ad1(d:L4.D):Prop:=∃r,d=.cx (.str "none" ::r)
def M5(g:fh T M dk W)(hm:m<64){ws:aB}(hl:ws.length<=100):∃d,Dc [PD T M dk W m RS,.b0 [],.cx (ws.map D.str)]=Z d/\(ad1 d/\due (vL m++v9) W ws=O\/due (vL m++v9) W ws=Z d):=by
 let V:=vL m++v9;have lV:=Em m;have lW:=g.w8;have lT:=g.len;have l9:v9.length=9:=rfl;let P:Sl:=.q (PD T M dk W m RS);let B:Sl:=.q (.b0 []);let c:Sl:=.q (.cx (ws.map D.str));refine Jb U ?_;have Q:cT (c2 (er δ) ak (uO uQ)) [P,B,c,.un,.un,.un,.un,.un,.un,.un,.un,.un,.un]=Z (decide (ws=[]),[P,B,c,.un,.un,.un,.un,.un,.un,.un,.un,.un,.un]):=u6 (uv U U (Lv δ ws));cases ws with
 |nil=>exact o3 Q (vY (uA U (.inr U)))
 |cons y r=>
  refine f5 Q ?_;let p:Vb->Bool:=λv=>decide (y∈v.ws);have I:∀{ρ:aU} {i:Nat},cV i ρ=Z (.cx ((y::r).map D.str),ρ)->c2 ea (cV i) aw ρ=Z (.str y,ρ):=λh=>uv h U (xS (xs:=(y::r).map D.str) (j:=0) U);have e1:=wt (k:=1) (ew:=[2]) (g:=gN 0) (ft:=wH (cT (c2 (er δ) (c2 ea ai aw) (c2 ea aa aw))) (cT (c2 (oy δ) (c2 ea ai aw) (c2 ea aa ay)))) (fe:=cV 0) (s:=iL (cL (vV (c2 ea aa cA) (cL (vw wY uQ))))) (ρ:=[P,B,c,.un,.un,.un,.un,.un,.un,.un,.un,.un,.un]) (ρ1:=[P,B,c,.un,.un,.un,.un,.un,.un,.un,.un,.un,.un]) nf nf p V
   (Ca ((u4 (vK (xs:=(vL m).map nf) (ys:=v9.map nf) U (u4 (ur U Je)) (by rw[af,af];omega))).t (by rw[<-aZ]))) (by rw[aC];omega) λv _=>⟨[.q (nf v),c],[.q (nf v),c],U,?_,λ_=>⟨_,U,U⟩,λ_=>U⟩
  .refine uE (uU (uA (u4 e1) ?_));have G:Fs V y=(V.filter p).head?:=(px ..).symm;refine X' (R:=λρ=>ρ=[P,B,c,.q (.b0 ((V.filter p).map nf)),.un,.un,.un,.un,.un,.un,.un,.un,.un]) U ?_;rintro _ rfl;cases hF:V.filter p with
   |nil=>
    rw[hF]at G;refine o3 U (vY (uA (wb (uu U (uu (I U) U)) (bK U)) (.inr ?_)));show (match Fs V y with
     |none=>Z (Ay y)
     |some v=>yZ W v r)=_
    rw[G];rfl
   |cons v F=>
    rw[hF]at G;have du:due V W (y::r)=yZ W v r:=by
     show (match Fs V y with
      |none=>Z (Ay y)
      |some v=>yZ W v r)=_
     rw[G];rfl
    have mv:v∈v6++v9:=by have:v∈V:=(bb.1 (hF▸aY:v∈V.filter p)).1;exact(bq.1 this).elim (λh=>bD _ (El h)) (bG _)
    obtain⟨k,k1,k2⟩:=Pw (v::F);refine f5 (u6 (uv U U (Xg k1 (by omega)))) ?_;let L:Sl:=.q (.b0 ((v::F).map nf));let e:Sl:=.q (.str v.n);let q:Sl:=.q (.cx (v.o.map D.str));let u:Sl:=.q (.str v.f);let A:Sl:=.q (oS v.j);refine uE (MN (uA (a:=nf v) (b:=[P,B,c,L,.un,.un,.un,.un,.un,.un,.un,.un,.un]) (uv U U (xS (xs:=(v::F).map nf) (j:=0) U)) ⟨[P,B,c,L,e,q,u,A,.un,.un,.un,.un,.un],U,?_⟩));obtain⟨d8,e8,h8⟩:=ab9 W mv (r:=r) (by rw[aP]at hl;omega);refine uE (uU (uA (ur (uu U (uu U (uu (Yc U) U))) e8) ?_));refine X' (R:=λρ=>ρ=[P,B,c,L,e,q,u,A,.q d8,.un,.un,.un,.un]) U ?_;rintro _ rfl;rw[show vL m++v9=V from U,du];rcases h8 with ⟨rfl,h⟩|⟨C,⟨w,rfl⟩,l,rfl⟩|⟨N,rfl,rfl⟩|⟨C,h,x,l,rfl⟩
    .exact o3 U (vY (uA U (.inr h)))
    .have H:∀{ρ:aU} {i:Nat},cV i ρ=Z (.cx ([y,w].map D.str),ρ)->c2 ea (cV i) ay ρ=Z (.str w,ρ):=λh=>uv h U U;have e9:=wt (k:=1) (ew:=[2]) (g:=gN 0) (ft:=cT (c2 (er δ) (c2 ea aa ay) (c2 ea ai ay))) (fe:=cV 0) (s:=iL (c2 ea aa bC)) (ρ:=[P,B,c,L,e,q,u,A,.q (.b0 l),.un,.un,.un,.un]) (ρ1:=[P,B,c,L,e,q,u,A,.q (.b0 l),.un,.un,.un,.un]) ll ll (λx=>decide (x.w=w)) W U (by omega) λx _=>⟨[.q (ll x),c],[.q (ll x),c],U,u6 (uv U (H U) (wj δ _ _)),λ_=>⟨_,U,U⟩,λ_=>U⟩;have dv:yZ W v [w]=if Xn W w=[]then Z (Pu w)else Z (Lw v.n (Z w)):=by unfold yZ;rw[aj (by rw[C];decide),aj (by rw[C];decide),ah C]
     refine f5 U (o3 ((sq v.f "way" U).t (by rw[aT C])) ?_);have S:∀b,decide (Xn W w=[])=b->cT (c2 w? (cL (uF 1 [2] (iL (c2 ea aa bC)) (gN 0) (cT (c2 (er δ) (c2 ea aa ay) (c2 ea ai ay))) aa)) (cL (uK uQ))) [P,B,c,L,e,q,u,A,.q (.b0 l),.un,.un,.un,.un]=Z (b,[P,B,c,L,e,q,u,A,.q (.b0 l),.un,.un,.un,.un]):=λb hb=>by refine u6 (uv (u4 e9) U ?_);rw[<-hb];show w? (.b0 ((Xn W w).map ll)) (.b0 [])=_;cases Xn W w<;>rfl
     by_cases z:Xn W w=[]
     .exact o3 (S γ (aT z)) (vY (uA (wb (uu U (uu (H U) U)) (bK U)) (.inr (by rw[dv,ah z];rfl))))
     .refine f5 (S δ (aR z)) (vY (uA (wb (uu U (uu (wb (uu U (uu (H U) (uu U U))) (bK U)) U)) (bK U)) (.inr (by rw[dv,aj z];rfl))))
    .refine f5 U (f5 ((sq v.f "way" U).t (by rw[N];rfl)) (uE (zK U (uE (zK U (vY (uA U (.inr ?_))))))));unfold yZ;rw[ah N,ah U];rfl
    .refine f5 U (f5 ((sq v.f "way" U).t (by rw[aR C])) (uE (zK U (uE (Ja (uA (a:=x::l) U ⟨λi ρ=>i=0/\ρ=[P,B,c,L,e,q,u,A,.q (.b0 (x::l)),.M [],.un,.un,.un],⟨U,U⟩,?_,λρ hz=>by cases hz.1⟩))))));rintro i d _ hd ⟨rfl,rfl⟩;cases hd;let E:=[P,B,c,L,e,q,u,A,.q (.b0 (x::l)),.M [],.q x,.M []];refine⟨_,U,uE (zK U (uE (Ja (uA (a:=T.map m3) U ⟨λ_ ρ=>∃s:Sl,ρ=E++[s],⟨_,U⟩,?_,?_⟩))))⟩
     .rintro i d _ hd ⟨s,rfl⟩;rw[bu]at hd;obtain⟨t,ht,rfl⟩:=iu.1 hd;exact⟨E++[.q (m3 t)],U,s_n (Lp (u6 (uv (uv U U U) U (AG δ t.n [])))) (zK U ⟨_,U⟩)⟩
     .rintro _ ⟨s,rfl⟩;refine o3 U (vY (uA (uv (x:=.b0 [.cx [.str "none", x],.cx [.str "which", x,.cx ((yF []).map D.str)]]) U U U) (.inl ⟨⟨_,U⟩,h⟩)))
  .have a1:cT (c2 (er δ) (c2 ea ai aw) (c2 ea aa aw)) [.q (nf v),c]=Z (decide (y=v.n),[.q (nf v),c]):=u6 (uv (I U) U (wj δ _ _));have Y:cT (c2 (oy δ) (c2 ea ai aw) (c2 ea aa ay)) [.q (nf v),c]=Z (decide (y∈v.o),[.q (nf v),c]):=u6 (uv (I U) U (Cr δ _ _));by_cases z:y=v.n
   .rw[aT z]at a1;unfold wH;rw[a1];show _=Z (decide (y∈v.n::v.o),_);rw[aT (by rw[z];exact aY)]
   .rw[aR z]at a1;refine(xX a1 Y).t ?_;show _=Z (decide (y∈v.n::v.o),_);congr 2;exact decide_eq_decide.2 ⟨ba _,λh=>(aO.1 h).resolve_left z⟩
end
def fxL:aB:=["in", "to", "with", "zzz", "it", "here", "take", "wait", "putting"]
def Px:aB:=(v6++v9).flatMap Vb.ws++fxL++O'
def Xh{x:Str}(h:x∈Px):GW x:=adY (aH.1 (show (Px.all gwB)=γ by kernel_rfl) x h)
def S2(V:List Vb):aB:="" ::V.flatMap Vb.ws
def Py{V:List Vb}{i:Nat}{v:Vb}(h:V[i]?=Z v):S2 (V.take (i+1))=S2 (V.take i)++[v.n]++v.o:=by unfold S2;rw[fT,h,oE];show ("" : Str)::((V.take i).flatMap Vb.ws++[v].flatMap Vb.ws)=(("" : Str)::(V.take i).flatMap Vb.ws)++[v.n]++v.o;simp[Vb.ws]
def UM{m:Nat}(a:m<64)(i:Nat):(S2 ((vL m++v9).take i)).length<=60:=by
 have h:=bp (v64 (p:=λV=>decide ((S2 (V++v9)).length<=60)) (by kernel_rfl) a);refine bQ ?_ h;show (((vL m++v9).take i).flatMap Vb.ws).length+1<=((vL m++v9).flatMap Vb.ws).length+1;have e:(vL m++v9).flatMap Vb.ws=((vL m++v9).take i).flatMap Vb.ws++((vL m++v9).drop i).flatMap Vb.ws:=by rw[<-oE,js]
 rw[e,aC];omega
section
variable{T:List Th}{M:List Mk}{dk:aB}{W:List Wy}{m:Nat}{RS:List Rs}
theorem Xj(g:fh T M dk W)(hm:m<64)(c:Int):∃(ws:aB) (n:Nat),BN [PD T M dk W m RS,.int c]=Z (.cx [.b0 (ws.map D.str),dN n])/\ws.length<=5/\∀w∈ws,w∈Px:=by
 let V:=vL m++v9;have lV:=Em m;have lW:=g.w8;have l9:v9.length=9:=rfl;obtain⟨l,hl,el⟩:=Jc c 8 (by decide);let P:Sl:=.q (PD T M dk W m RS);let C:Sl:=.q (.int c);let q:Sl:=.q (dl l)
 suffices h:∃d,BN [PD T M dk W m RS,.int c]=Z d/\∃(ws:aB) (n:Nat),d=.cx [.b0 (ws.map D.str),dN n]/\ws.length<=5/\∀w∈ws,w∈Px by obtain⟨_,e,ws,n,rfl,h⟩:=h;exact⟨ws,n,e,h⟩
 refine Jb U (uE (uU (uA (u4 (ur U el)) (uE (zK U (uE (Ja (uA (a:=V.map nf) (b:=[P,C,q,.q (.b0 ((S2 []).map D.str)),.un,.un,.un,.un,.un,.un]) (Ca ((u4 (vK (xs:=(vL m).map nf) (ys:=v9.map nf) U (u4 (ur U Je)) (by rw[af,af];omega))).t (by rw[<-aZ];rfl))) ⟨λi Y=>∃r t u y:Sl,Y=[P,C,q,.q (.b0 ((S2 (V.take i)).map D.str)),r,t,u,y,.un,.un],⟨_,_,_,_,U⟩,?_,?_⟩))))))))
 .rintro i d _ hd ⟨r,t,u,y,rfl⟩;rw[bu]at hd;obtain⟨v,S,rfl⟩:=iu.1 hd;have h1:=UM hm i;have h2:=UM hm (i+1);rw[Py S,aC,aC]at h2;let A:=[P,C,q,.q (.b0 ((S2 (V.take i)).map D.str)),.q (.str v.n),.q (.cx (v.o.map D.str)),.q (.str v.f),.q (oS v.j),.un,.un];have c1:cL (vV av (cL (uK de))) A=Z (.b0 ((S2 (V.take i)++[v.n]).map D.str),A):=(u4 (vK (xs:=(S2 (V.take i)).map D.str) (ys:=[.str v.n]) U U (by rw[af];show _+1<=1000;omega))).t (by rw[aZ];rfl);have c2:cL (zm br) A=Z (.b0 (v.o.map D.str),A):=rfl;refine⟨A,U,uU (uA (a:=.b0 ((S2 (V.take i)++[v.n]++v.o).map D.str)) (b:=A) ((u4 (vK c1 c2 (by rw[af,af,aC];omega))).t (by rw[aZ (l₁:=S2 (V.take i)++[v.n])])) ⟨_,_,_,_,by rw[Py S];rfl⟩)⟩
 rintro _ ⟨r,t,u,y,rfl⟩;rw[af,lC];let H:=S2 V;let F:aB:=fxL++W.map Wy.w;have lF:0<F.length:=by show 0<(fxL++_).length;rw[aC];show 0<9+_;omega
 let B:Sl:=.q (.b0 (H.map D.str));let Q:Sl:=.q (.b0 (F.map D.str));have e1:=wu (k:=1) (ew:=[]) (g:=gN 0) (fe:=c2 ea aa ay) (s:=iL (c2 ea aa bC)) (ρ:=[P,C,q,B,r,t,u,y,.un,.un]) (ρ1:=[P,C,q,B,r,t,u,y,.un,.un]) ll (λw=>.str w.w) W U (by omega) λw _=>⟨[.q (ll w)],[.q (ll w)],U,U,U⟩;refine uE (uU (uA (a:=.b0 (F.map D.str)) (b:=[P,C,q,B,r,t,u,y,.un,.un]) ((u4 (vK (xs:=fxL.map D.str) (ys:=(W.map Wy.w).map D.str) U ((u4 e1).t (by rw[aW];rfl)) (by rw[af,af,af];show 9+_<=1000;omega))).t (by rw[<-aZ])) ?_));let k:=gd l 1 % 5;have hk:k<5:=aE _ (by decide);let J:=(l.drop 2).take k;let I:=H.getD (gd l 0 % H.length) "";let f:Nat->Str:=λn=>F.getD (n % F.length) "";let R:=[P,C,q,B,r,t,u,y,Q,Sl.un];have h0:c2 ea av (c2 uR (c2 ea ak aw) (c1 vH av)) R=Z (.str I,R):=uv (x:=.b0 (H.map D.str)) U (uv (uv U U (yh (i:=0) (by omega))) (MP D.str U) (md (b:=H.length) (hU _))) (BR (L:=H) (aE _ (hU _)));have h1:iL (cL (EJ ak (sh bV) (sh (c2 vp bV (c2 uR (c2 ea ak ay) cb))))) R=Z (J.map dN,R):=by have a:c2 vp bV (c2 uR (c2 ea ak ay) cb) R=Z (dN (2+k),R):=uv U (uv (uv U U (yh (i:=1) (by omega))) U (md (b:=5) (by decide))) U;refine Ca (u4 ?_);have b:=ab2 (e:=cV 2) (lo:=sh bV) (ds:=l.map dN) (l:=Z ((2:Nat):Int)) (ρ:=R) (ρ1:=R) (ρ2:=R) U U (UG a);rw[b,Ui dN (by omega) (by omega),show 2+k - 2=k by omega]
 have h2:=wu (k:=1) (ew:=[8]) (g:=gN 0) (fe:=c2 ea ai (c2 uR aa (c1 vH ai))) dN (λn=>.str (f n)) J h1 (by show ((l.drop 2).take k).length<=1000;rw[cm];omega) λn _=>⟨[.q (dN n),Q],[.q (dN n),Q],U,uv U (uv U (MP D.str U) (md (b:=F.length) lF)) (BR (L:=F) (aE _ lF)),U⟩;have lJ:J.length<=4:=by show ((l.drop 2).take k).length<=4;rw[cm];omega
 refine uE (uU (uA (a:=.b0 ((I::J.map f).map D.str)) (b:=R) ((u4 (vK (xs:=[.str I]) (ys:=(J.map f).map D.str) (u4 (NF (uu h0 U) (bK U))) ((u4 h2).t (by rw[aW];rfl)) (by rw[af,af];show 1+_<=1000;omega))).t U) ?_));let X:=I::J.map f;let p:Str->Bool:=λx=>!decide (x="");let E:=[P,C,q,B,r,t,u,y,Q,Sl.q (.b0 (X.map D.str))];have h3:=wt (k:=1) (ew:=[]) (g:=gN 0) (ft:=cT (c2 (er γ) aa cI)) (fe:=cV 0) (s:=iL dB) (ρ:=E) (ρ1:=E) D.str D.str p X U (by show (J.map f).length+1<=1000;rw[af];omega) λx _=>⟨[.q (.str x)],[.q (.str x)],U,u6 (uv U U (wj γ x "")),λ_=>⟨_,U,U⟩,λ_=>U⟩;refine vY (uA (wb (uu (u4 h3) (uu (uv U U (yh (i:=7) (by omega))) U)) (bK U)) ⟨X.filter p,gd l 7,U,?_,λw hw=>?_⟩)
 .refine bQ (cp _ _) ?_;show (J.map f).length+1<=5;rw[af];omega
 .obtain⟨h,hn⟩:=bb.1 hw;rcases aO.1 h with rfl|h
  .have G:I∈H:=vh (aE _ (hU _));rcases aO.1 G with e|G
   .rw[e]at hn;cases hn
   .refine bD _ (bD _ ?_);obtain⟨v,S,z⟩:=dJ.1 G;exact dJ.2 ⟨v,(bq.1 S).elim (λh=>bD _ (El h)) (bG _),z⟩
  .obtain⟨n,_,rfl⟩:=aG.1 h;have G:f n∈F:=vh (aE _ lF);rcases bq.1 G with h|h
   .exact bD _ (bG _ h)
   .obtain⟨w,hw,e⟩:=aG.1 h;rw[<-e];exact bG _ (g.wo w hw).hw
end
def arL:aB:=["", "the ", "", "a  ", "the a ", "", ""]
def tsL:aB:=["", "the", " a "]
def ad2{a:Str}(h:a∈arL):Eb (cd a)/\Wd (cd a)=[]/\a.length<=6:=by have h:=aH.1 (show (arL.all λa=>(decide (cd a=[])||decide (cd a=(cd a).dropLast++[32]))&&(decide (Wd (cd a)=[])&&decide (a.length<=6)))=γ by kernel_rfl) a h;simp only[aQ,fB,bz]at h;exact⟨h.1.imp_right λz=>⟨_,z⟩,h.2.1,h.2.2⟩
def ad3{a:Str}(h:a∈tsL):Wd (cd a)=[]/\a.length<=6:=by have h:=aH.1 (show (tsL.all λa=>decide (Wd (cd a)=[])&&decide (a.length<=6))=γ by kernel_rfl) a h;simp only[aQ,bz]at h;exact h
def UN{k:Nat}(h:k<=2):Ia (.str " ") (dN k)=Z (.str (eQ " " (k:Int))):=by show (if _ then _ else _)=_;rw[ah ⟨by omega,by omega,by decide +kernel⟩]
def UO{ws:aB}(n:Nat)(Y:ws.length<=5)(H:∀w∈ws,GW w):∃x,yf [.b0 (ws.map D.str),dN n]=Z (.str x)/\Wd (cd x)=ws.map cd/\x.length<=200:=by
 let m:Sl:=.q (.b0 (ws.map D.str));let N:Sl:=.q (dN n)
 suffices h:∃d,yf [.b0 (ws.map D.str),dN n]=Z d/\∃x,d=.str x/\Wd (cd x)=ws.map cd/\x.length<=200 by obtain⟨_,e,x,rfl,h⟩:=h;exact⟨x,e,h⟩
 have C:n % 3<=2:=by have:=aE n (show 0<3 by decide);omega
 obtain⟨B,X⟩:=X9 (n % 3) C;refine Jb U (uE (uU (uA (uv U (uv (x:=dN n) U U (md (b:=3) (by decide))) (UN C)) (uE (Ja (uA (MR (MP D.str U) (by omega)) ⟨λi f=>∃(x:Str) (q l:Sl),f=[m,N,.q (.str x),q,l]/\Wd (cd x)=(ws.take i).map cd/\Eb (cd x)/\x.length<=2+20 * i,⟨_,_,_,U,?_,?_,by omega⟩,?_,?_⟩))))))
 .rw[B];obtain h|h|h:n % 3=0\/n % 3=1\/n % 3=2:=by omega
  all_goals rw[h];rfl
 .rw[B];obtain h|h|h:n % 3=0\/n % 3=1\/n % 3=2:=by omega
  .rw[h];exact .inl U
  .rw[h];exact .inr ⟨[],U⟩
  .rw[h];exact .inr ⟨[32],U⟩
 .rintro i _ _ hd ⟨x,q,l,rfl,p,A,E⟩;obtain⟨o,rfl⟩:=F7 hd;let a:=arL.getD (n / (5+3 * i) % 7) "";have R:a∈arL:=vh (aE _ (by decide));obtain⟨a1,G,W⟩:=ad2 R;let w:=ws.getD i "";have S:w∈ws:=vh o;have z:=H w S;have wl:=z.le;let k:=1+n / (7+5 * i) % 2;have I:k=1\/k=2:=by have:=aE (n / (7+5 * i)) (show 0<2 by decide);show 1+n / (7+5 * i) % 2=1\/1+n / (7+5 * i) % 2=2;omega
  obtain⟨J,M⟩:=X9 k (by omega);have F:∀(c e j:Nat),c<100->e<100->∀f:aU,cV 3 f=Z (dN i,f)->c2 vp (cC (dN c)) (c2 xO (cC (dN e)) av) f=Z (dN (c+e * i),f):=λc e j hc he f h=>uv U (uv (y:=dN i) U h (xq (.inl (Cm (by omega) (by omega))))) U;refine⟨_,U,uE (uU (uA (a:=.str a) (b:=[m,N,.q (.str x),.q (dN i),l]) (uv (x:=.b0 (arL.map D.str)) U (uv (x:=dN (n / (5+3 * i))) (uv (x:=dN n) U (F 5 3 0 (by decide) (by decide) _ U) (dv (by omega) (by omega))) U (md (b:=7) (by decide))) (BR (L:=arL) (aE _ (by decide)))) (uU (uA (a:=.str (x++a++w++eQ " " (k:Int))) (b:=[m,N,.q (.str x),.q (dN i),.q (.str a)]) ?_ ?_))))⟩
  .refine uv (uv (uv U U (Kn (a:=x) (b:=a) (by omega) (by omega))) (uv (x:=.b0 (ws.map D.str)) U U (BR o)) (Kn (by rw[w5,Ax,aC,<- w5,<- w5];omega) (by show w.length<=20000;omega))) (uv U (uv (y:=dN (n / (7+5 * i) % 2)) U (uv (x:=dN (n / (7+5 * i))) (uv (x:=dN n) U (F 7 5 0 (by decide) (by decide) _ U) (dv (by omega) (by omega))) U (md (b:=2) (by decide))) U) (UN (k:=k) (by omega))) (Kn ?_ (by rw[M];omega));rw[w5,Ax,Ax,aC,aC,<- w5,<- w5,<- w5];show _+_+w.length<=20000;omega
  .have u:cd (x++a++w++eQ " " (k:Int))=cd x++cd a++cd w++eF k 32:=by rw[Ax,Ax,Ax,J]
   obtain⟨P,Q⟩:=W9 A a1 G z.fr z.kp I;refine⟨_,_,_,U,?_,by rw[u];exact Q,?_⟩
   .rw[u,P,p,fT,aZ];rw[show ws[i]?=Z w by rw[aM o];show _=Z (ws.getD i "");rw[bN,aM o];rfl];rfl
   .have r:=bL cX u;rw[aC,aC,aC,cU]at r;rw[<-w5,<- w5,<- w5,<- w5]at r;rw[r];omega
 .rintro _ ⟨x,q,l,rfl,p,A,E⟩;rw[af,bF]at p E;let t:=tsL.getD (n / 3 % 3) "";obtain⟨T,t2⟩:=ad3 (a:=t) (vh (aE _ (by decide)));refine vY (uA (a:=.str (x++t)) (b:=[m,N,.q (.str x),q,l]) (uv U (uv (x:=.b0 (tsL.map D.str)) U (uv (uv (x:=dN n) U U (dv (b:=3) (by decide) (by decide))) U (md (b:=3) (by decide))) (BR (L:=tsL) (aE _ (by decide)))) (Kn (by omega) (by show t.length<=20000;omega))) ⟨_,U,?_,?_⟩)
  .rw[Ax,UB A,T,b9,p,lC]
  .rw[w5,Ax,aC,<- w5,<- w5];omega
def QR(d:L4.D):Prop:=∃s r l,d=.cx (.str s::r)/\s≠"none" /\ xc (.str s::r)=Z l/\vT l<=19
def Jj(s x:Str)(h:s≠"none"):QR (.cx [.str s,.str x]):=⟨s,_,[.str s,.str x],U,h,U,by simp[vT,g?]⟩
def Yd(x:Str)(w:Option Str):QR (Lw x w):=by
 cases w with
 |none=>exact⟨"command", _,[.str "command", .cx [.str x,.E,.E]],U,by decide,U,by simp[vT,g?]⟩
 |some w=>exact⟨"command", _,[.str "command", .cx [.str x,.str w,.E]],U,by decide,U,by simp[vT,g?]⟩
def UP{V:List Vb}{W:List Wy}{ws:aB}{d:L4.D}(h:due V W ws=Z d):QR d:=by
 have key:∀v r,yZ W v r=Z d->QR d:=λv r h=>by
  unfold yZ at h;split at h
  .split at h<;>cases h
   .exact Yd _ _
   .exact Jj _ _ (by decide)
  split at h
  .split at h<;>cases h;exact Jj _ _ (by decide)
  split at h
  .split at h
   .split at h<;>cases h
    .exact Jj _ _ (by decide)
    .exact Yd _ _
   .cases h;exact Jj _ _ (by decide)
  .split at h<;>cases h;exact Jj _ _ (by decide)
 cases ws with
 |nil=>cases h;exact Jj _ _ (by decide)
 |cons x r=>
  replace h:(match Fs V x with
   |none=>Z (Ay x)
   |some v=>yZ W v r)=Z d:=h
  split at h
  .cases h;exact Jj _ _ (by decide)
  .exact key _ _ h
def QR.eq{d:L4.D}(h:QR d)(neg:Bool):er neg d d=Z (.I (!neg)):=by obtain⟨s,r,l,rfl,_,a,b⟩:=h;rw[UD a a b b,L3.Ce];cases neg<;>rfl
def ad4{m:Nat}(a:m<64):Fs (vL m++v9) "" = O:=nF.1 (v64 (p:=λV=>(Fs (V++v9) "").isNone) (by kernel_rfl) a)
set_option tactic.hygienic true
def ad5{m:Nat}(a:m<64):∃v,Fs (vL m++v9) "wait" = Z v/\v.n="wait" /\ v.f="alone" := by
 have h:=v64 (p:=λV=>match Fs (V++v9) "wait" with|some v=>decide (v.n="wait")&&decide (v.f="alone")|none=>δ) (by kernel_rfl) a;split at h
 .rename_i v e;rw[aQ,bz,bz]at h;exact⟨v,e,h.1,h.2⟩
 .cases h
set_option tactic.hygienic false
def Pz(l:List Int)(a b:Option Int):∃c:List Int,gi (l.map D.int) a b=c.map D.int/\c.length<=l.length:=⟨(l.drop _).take _,by unfold gi;rw[gZ,gY],by rw[cm,dH];omega⟩
def aca(F:List Int)(hl:F.length<=63):XI [.Q (F.map D.int)]=Z (.I γ):=by
 obtain⟨T,M,dk,W,m,RS,g,_,_,_,_,_,B,r4,ok,eP⟩:=Ul F;obtain⟨ks,dss,eW⟩:=QM g B r4 ok;obtain⟨P,ms,pP,_,_,_,eS⟩:=Uw (V:=vL m) (R:=RS.map rsO) (c:=.J ks (dss.map .b0)) g;let V:=vL m++v9;let w:=wO T M dk W (vL m) (RS.map rsO) (.J ks (dss.map .b0));let st:=sP P (va (at0 T) ms);have s:Sit T M dk W P (at0 T):=⟨g,pP,inv0 g⟩;have G:∀{ws:aB} {x:Str} {d:L4.D},x.length<=500->Wd (cd x)=ws.map cd->ws.length<=100->due V W ws=Z d->Au [w,st,.str x]=Z d:=λz hw hl hd=>Xc s (Pc B) (ad4 B) (λv hv=>(bq.1 hv).elim (λh=>bD _ (El h)) (bG _)) (M0 z hw) hl hd
 let A:Sl:=.q (.Q (F.map D.int));let f:Sl:=.q (PD T M dk W m RS);let o:Sl:=.q w;let St:Sl:=.q st;obtain⟨l1,S,n1⟩:=Pz F (Z 2) (Z 14);obtain⟨l2,Q,n2⟩:=Pz (l1++[0,5]) O (Z 12);have src:iL (cL (XC (cL (vV (cL (XC aa (Z 2) (Z 14))) (cL (uK m7)))) O (Z 12))) [A,f,o,St,.un,.un,.un,.un,.un]=Z (l2.map D.int,[A,f,o,St,.un,.un,.un,.un,.un]):=by
  have a:cL (XC aa (Z 2) (Z 14)) [A,f,o,St,.un,.un,.un,.un,.un]=Z (.b0 (l1.map D.int),[A,f,o,St,.un,.un,.un,.un,.un]):=by rw[<-S];rfl
  have b:=u4 (vK (e':=cL (uK m7)) (ys:=[0,5].map D.int) a U (by rw[af];show _+2<=1000;omega));rw[<-aZ]at b;refine Ca (u4 ?_);have k:∀{e:FE} {p:aU} {ds:List L4.D},e p=Z (.b0 ds,p)->XC e O (Z 12) p=Z (gi ds O (Z 12),p):=λh=>by unfold XC;rw[h]
  exact(k b).t (by rw[<-Q])
 refine Dg U ?_;unfold O5;refine uE (uU (uA (ur U eP) (uE (uU (uA (ur U eW) (uE (uU (uA (ur U eS) (uE (Ja (uA src ⟨λ_ p=>∃N H I C y:Sl,p=[A,f,o,St,N,H,I,C,y],⟨_,_,_,_,_,U⟩,?_,?_⟩)))))))))))
 .rintro i d _ hd ⟨N,H,I,C,y,rfl⟩;rw[bu]at hd;obtain⟨c,_,rfl⟩:=iu.1 hd;obtain⟨ws,n,eR,h5,hp⟩:=Xj g B c (RS:=RS);obtain⟨d,eL,hD⟩:=M5 g B (RS:=RS) (ws:=ws) (by omega);have J:∀w∈ws,GW w:=λw hw=>Xh (hp w hw);obtain⟨x,eB,z,lx⟩:=UO n h5 J;let u:Sl:=.q (.b0 (ws.map D.str));refine⟨[A,f,o,St,.q (.int c),H,I,C,y],U,uE (MN (uA (ur U eR) ⟨[A,f,o,St,.q (.int c),u,.q (dN n),C,y],U,uE (uU (uA (ur (uu U (uu U (uu U U))) eL) ?_))⟩))⟩;refine X' (R:=λp=>p=[A,f,o,St,.q (.int c),u,.q (dN n),.q d,y]) U ?_;rintro _ rfl;rcases hD with ⟨⟨r,rfl⟩,_⟩|hD
  .exact s_n (u6 (uv (x:=.str "none") (uv U U (xS (xs:=D.str "none" ::r) (j:=0) U)) U (by rw[wj];rfl))) (zK U ⟨_,_,_,_,_,U⟩)
  .have Y:=UP hD;obtain⟨sg,r,k,e,hs,_,_⟩:=id Y;have q:cT (c2 (er γ) (c2 ea bR aw) (cS "none")) [A,f,o,St,.q (.int c),u,.q (dN n),.q d,y]=Z (γ,[A,f,o,St,.q (.int c),u,.q (dN n),.q d,y]):=by rw[e];exact u6 (uv (uv U U (xS (xs:=D.str sg::r) (j:=0) U)) U (by rw[wj,aR hs];rfl))
   refine s_y q (uE (uU (uA (ur (uu U (uu U (uu (ur U eB) U))) (G (by omega) z (by omega) hD)) ?_)));refine X' (R:=λp=>p=[A,f,o,St,.q (.int c),u,.q (dN n),.q d,.q d]) U ?_;rintro _ rfl;have t:cT (c1 (vz (v7 "tuple")) bP) [A,f,o,St,.q (.int c),u,.q (dN n),.q d,.q d]=Z (γ,[A,f,o,St,.q (.int c),u,.q (dN n),.q d,.q d]):=by rw[e];rfl
   refine f5 (xX (by unfold vZ;rw[t];rfl) (u6 (uv U U (Y.eq γ)))) ?_;have j:c2 t? (cS " ") br [A,f,o,St,.q (.int c),u,.q (dN n),.q d,.q d]=Z (.str (jn ws),[A,f,o,St,.q (.int c),u,.q (dN n),.q d,.q d]):=uv U U (WT (by decide +kernel) (by omega) λx z=>by have:=(J x z).le;omega);have lj:(jn ws).length<=500:=by
    by_cases h0:ws=[]
    .rw[h0];exact bH _
    .have:=abT (l:=ws) (c:=12) (λx z=>(J x z).le) h0;omega
   exact s_n (u6 (uv U (ur (uu U (uu U (uu j U))) (G lj (ab0 J) (by omega) hD)) (Y.eq γ))) (zK U ⟨_,_,_,_,_,U⟩)
 .rintro _ ⟨N,H,I,C,y,rfl⟩;have X:due V W []=Z (Ay ""):=rfl;have r0:=G (x:="") (by decide +kernel) (ws:=[]) U (bH _) X;have r1:=G (x:="  the a  ") (by decide +kernel) (ws:=[]) (by kernel_rfl) (bH _) X;obtain⟨v,ev,vn,vf⟩:=ad5 B;have d2:due V W ["wait"]=Z (Lw "wait" O):=by
   show (match Fs V "wait" with
    |none=>Z (Ay "wait")
    |some v=>yZ W v [])=_
   rw[show Fs V "wait" = Z v from ev];show yZ W v []=_;unfold yZ;rw[ah vf,ah U,vn]
  have r2:=G (x:="wait") (by decide +kernel) (ws:=["wait"]) (by kernel_rfl) (by decide) d2;let E:=[A,f,o,St,N,H,I,C,y];have q:∀x:Str,Au [w,st,.str x]=Z (Ay "")->cT (c2 (er γ) (uw Au (ax ak (ax av (a1 (cS x))))) (uO j7)) E=Z (δ,E):=λx h=>u6 (uv (ur U h) (show uO _ E=Z (Ay "", E) from U) ((UP X).eq γ));refine f5 (xX (q _ r0) (q _ r1)) (vY (uA (uv (ur U r2) (show uO _ E=Z (Lw "wait" O,E) from U) ((UP d2).eq δ)) U))
end K42x
namespace K42x
open PySem L2 L3 L4
open PySem.W (nsIn)
structure FxA(K:au)(C0 C1 C2 C3 C4 C5 C6 C7 C8 C9 C10 C11 C12 C13 C14 C15:Addr):Prop where
 a0:nsIn K bg "Thing" = Z (Z (.ref C0))
 a1:nsIn K bg "Mark" = Z (Z (.ref C1))
 a2:nsIn K bg "Verb" = Z (Z (.ref C2))
 a3:nsIn K bg "At" = Z (Z (.ref C3))
 a4:nsIn K bg "Has" = Z (Z (.ref C4))
 a5:nsIn K bg "Seen" = Z (Z (.ref C5))
 a6:nsIn K bg "Marked" = Z (Z (.ref C6))
 a7:nsIn K bg "Kind" = Z (Z (.ref C7))
 a8:nsIn K bg "Word" = Z (Z (.ref C8))
 a9:nsIn K bg "Not" = Z (Z (.ref C9))
 a10:nsIn K bg "Both" = Z (Z (.ref C10))
 a11:nsIn K bg "Move" = Z (Z (.ref C11))
 a12:nsIn K bg "Put" = Z (Z (.ref C12))
 a13:nsIn K bg "Rule" = Z (Z (.ref C13))
 a14:nsIn K bg "World" = Z (Z (.ref C14))
 a15:nsIn K bg "Lit" = Z (Z (.ref C15))
 k0:CF K C0 ["kind", "name", "start", "words"]
 k1:CF K C1 ["most", "name", "start"]
 k2:CF K C2 ["form", "joining", "name", "others"]
 k3:CF K C3 ["place", "term"]
 k4:CF K C4 ["term"]
 k5:CF K C5 ["term"]
 k6:CF K C6 ["term", "value"]
 k7:CF K C7 ["kind", "term"]
 k8:CF K C8 ["word"]
 k9:CF K C9 ["inner"]
 z3:CF K C10 ["one", "other"]
 A4:CF K C11 ["place", "term"]
 z0:CF K C12 ["term", "value"]
 t9:CF K C13 ["deeds", "refuses", "tests", "text", "verb"]
 l?:CF K C14 ["copied_rules", "kept_dark", "kept_marks", "kept_things", "kept_verbs", "kept_ways", "mosts_by_name", "shared_rules", "shared_verbs", "things_by_name", "verbs_by_word", "your_name", "kept_rules", "rules_by_verb"]
 G':CF K C15 []
 i_At:wg K [C0,C1,C2,C3,C4,C5,C6,C7,C8,C9,C10,C11,C12,C13,C14,C15] C3 3=γ
 i_Both:wg K [C0,C1,C2,C3,C4,C5,C6,C7,C8,C9,C10,C11,C12,C13,C14,C15] C10 10=γ
 i_Has:wg K [C0,C1,C2,C3,C4,C5,C6,C7,C8,C9,C10,C11,C12,C13,C14,C15] C4 4=γ
 i_Kind:wg K [C0,C1,C2,C3,C4,C5,C6,C7,C8,C9,C10,C11,C12,C13,C14,C15] C7 7=γ
 i_Lit:wg K [C0,C1,C2,C3,C4,C5,C6,C7,C8,C9,C10,C11,C12,C13,C14,C15] C15 15=γ
 i_Mark:wg K [C0,C1,C2,C3,C4,C5,C6,C7,C8,C9,C10,C11,C12,C13,C14,C15] C1 1=γ
 ν:wg K [C0,C1,C2,C3,C4,C5,C6,C7,C8,C9,C10,C11,C12,C13,C14,C15] C6 6=γ
 i_Move:wg K [C0,C1,C2,C3,C4,C5,C6,C7,C8,C9,C10,C11,C12,C13,C14,C15] C11 11=γ
 i_Not:wg K [C0,C1,C2,C3,C4,C5,C6,C7,C8,C9,C10,C11,C12,C13,C14,C15] C9 9=γ
 i_Put:wg K [C0,C1,C2,C3,C4,C5,C6,C7,C8,C9,C10,C11,C12,C13,C14,C15] C12 12=γ
 i_Rule:wg K [C0,C1,C2,C3,C4,C5,C6,C7,C8,C9,C10,C11,C12,C13,C14,C15] C13 13=γ
structure FxB(K:au)(C0 C1 C2 C3 C4 C5 C6 C7 C8 C9 C10 C11 C12 C13 C14 C15:Addr):Prop where
 i_Seen:wg K [C0,C1,C2,C3,C4,C5,C6,C7,C8,C9,C10,C11,C12,C13,C14,C15] C5 5=γ
 i_Thing:wg K [C0,C1,C2,C3,C4,C5,C6,C7,C8,C9,C10,C11,C12,C13,C14,C15] C0 0=γ
 i_Verb:wg K [C0,C1,C2,C3,C4,C5,C6,C7,C8,C9,C10,C11,C12,C13,C14,C15] C2 2=γ
 i_Word:wg K [C0,C1,C2,C3,C4,C5,C6,C7,C8,C9,C10,C11,C12,C13,C14,C15] C8 8=γ
 n_Lit:cP K (.ref C15) "__init__" = Z (Z (.builtin "object.__init__"))
 nd:decide ([C0,C1,C2,C3,C4,C5,C6,C7,C8,C9,C10,C11,C12,C13,C14,C15]:List Addr).Nodup=γ
 kn:kN K=γ
 e:((["all", "any", "bool", "int", "isinstance", "len", "list", "range", "set", "sorted", "str", "tuple"]:aB).all λx=>match nsIn K bg x with|some O=>γ|_=>δ)=γ
 g0:GS K "FORMS" ["alone", "one", "two", "way"]
 g1:GS K "KINDS" ["room", "plain", "fixed", "box", "lamp", "you"]
 g2:GS K "KINDS_APART" ["room", "you"]
 g3:GS K "KINDS_THAT_HOLD" ["room", "box", "you"]
 g4:GS K "KINDS_WITH_MARK" ["box", "lamp"]
 g5:GC K "MOST_BESIDE" 7
 g6:GC K "MOST_BY_COMMAND" 3
 g7:GC K "MOST_DEEDS" 4
 g8:GC K "MOST_DEEP" 4
 g9:GC K "MOST_IN_NAME" 8
 g10:GC K "MOST_IN_WORD" 12
 g11:GC K "MOST_MARKS" 4
 g12:GC K "MOST_OF_MARK" 3
 g13:GC K "MOST_ROOMS" 5
 g14:GC K "MOST_RULES" 20
 g15:GC K "MOST_SIGNS" 60
 g16:GC K "MOST_TESTS" 5
 g17:GC K "MOST_VERBS" 6
 g18:GC K "MOST_WAYS" 10
 g19:GC K "MOST_WORDS" 4
 g20:GS K "NO_NAMES" ["it", "other", "here", "the", "a", "undo", "restart"]
 g21:GS K "NO_WORDS" ["the", "a"]
 g22:GS K "NO_WORDS_OF_ROWS" ["the", "a", "undo", "restart"]
 q23:GD K "is_small_letters" (top 6)
 q24:GD K "is_name" (top 7)
 q25:GD K "is_word" (top 8)
 q26:GD K "is_one_of" (top 10)
 q27:GD K "is_whole" (top 11)
 q28:GD K "is_list_up_to" (top 12)
 q29:GD K "own_list" (top 75)
 q30:GJ K C0 "Thing.__init__" (ef (top 65) 0) [V.E]
 q31:GM K C1 "__init__" "Mark.__init__" (ef (top 66) 0)
 q32:GJ K C2 "Verb.__init__" (ef (top 67) 0) [V.E,(V.str "one"),V.E]
 q33:GM K C3 "__init__" "At.__init__" (ef (top 33) 0)
 q34:GM K C4 "__init__" "Has.__init__" (ef (top 34) 0)
structure FxC(K:au)(C0 C1 C2 C3 C4 C5 C6 C7 C8 C9 C10 C11 C12 C13 C14 C15:Addr):Prop where
 q35:GM K C5 "__init__" "Seen.__init__" (ef (top 35) 0)
 q36:GM K C6 "__init__" "Marked.__init__" (ef (top 36) 0)
 q37:GM K C7 "__init__" "Kind.__init__" (ef (top 37) 0)
 q38:GM K C8 "__init__" "Word.__init__" (ef (top 38) 0)
 q39:GM K C9 "__init__" "Not.__init__" (ef (top 40) 0)
 q40:GM K C10 "__init__" "Both.__init__" (ef (top 41) 0)
 q41:GM K C11 "__init__" "Move.__init__" (ef (top 57) 0)
 q42:GM K C12 "__init__" "Put.__init__" (ef (top 58) 0)
 q43:GJ K C13 "Rule.__init__" (ef (top 74) 0) [(V.I δ)]
 q44:GM K C0 "can_hold" "Thing.can_hold" (ef (top 65) 1)
 q45:GM K C0 "has_mark" "Thing.has_mark" (ef (top 65) 2)
 q46:GM K C0 "is_plainly" "Thing.is_plainly" (ef (top 65) 3)
 q47:GD K "refuse_unless" (top 104)
 q48:GD K "count_of" (top 107)
 q49:GD K "plain_ones" (top 108)
 q50:GD K "is_mark" (top 110)
 q51:GD K "check_things" (top 106)
 q52:GD K "check_marks" (top 109)
 q53:GD K "are_unlike" (top 112)
 q54:GD K "check_names" (top 111)
 q55:GD K "mark_names" (top 113)
 q56:GD K "is_start" (top 115)
 q57:GD K "comes_to_room" (top 116)
 q58:GD K "check_starts" (top 114)
 q59:GD K "are_words" (top 118)
 q60:GD K "has_all" (top 120)
 q61:GD K "is_told_apart" (top 119)
 q62:GD K "check_words_of_things" (top 117)
 q63:GD K "check_dark" (top 121)
 q64:GD K "is_way" (top 123)
 q65:GD K "check_ways" (top 122)
 q66:GD K "is_verb" (top 125)
 q67:GD K "check_verbs" (top 124)
 q68:GD K "are_apart" (top 127)
 q69:GD K "check_vocabulary" (top 126)
 q70:GD K "check_parts" (top 105)
 q71:GD K "does" (top 131)
 q72:GD K "refuses" (top 132)
 q73:GD K "hand_rules" (top 133)
 q74:GD K "put_rules" (top 134)
 q75:GD K "lid_rules" (top 135)
 q76:GD K "flame_rules" (top 136)
 q77:GD K "way_tests" (top 138)
structure FxD(K:au)(C0 C1 C2 C3 C4 C5 C6 C7 C8 C9 C10 C11 C12 C13 C14 C15:Addr):Prop where
 q78:GD K "go_rules" (top 137)
 q79:GD K "wait_rules" (top 139)
 q80:GD K "common_rules" (top 130)
 q81:GD K "common_verbs" (top 129)
 q82:GD K "by_name" (top 143)
 q83:GD K "mosts_by_name" (top 144)
 q84:GD K "verbs_by_word" (top 145)
 q85:GD K "by_verb" (top 146)
 q86:GM K C14 "of_kind" "World.of_kind" (ef (top 142) 3)
 q87:GM K C14 "all_verbs" "World.all_verbs" (ef (top 142) 13)
 q88:GD K "is_same_text" (top 9)
 q89:GD K "copy_of" (top 76)
 q90:GM K C14 "thing_of" "World.thing_of" (ef (top 142) 2)
 q91:GM K C14 "most_of" "World.most_of" (ef (top 142) 6)
 q92:GM K C14 "verb_of" "World.verb_of" (ef (top 142) 14)
 q93:GM K C14 "you" "World.you" (ef (top 142) 4)
 q94:GD K "is_by_command" (top 87)
 q95:GD K "is_here" (top 88)
 q96:GD K "named" (top 89)
 q97:GD K "is_of_kind" (top 90)
 q98:GD K "is_term" (top 91)
 q99:GD K "is_place" (top 92)
 q100:GD K "is_moved" (top 93)
 q101:GD K "is_mark_value" (top 94)
 q102:GD K "is_move" (top 86)
 q103:GD K "is_said" (top 79)
 q104:GD K "is_verb_name" (top 78)
 q105:GD K "does_or_refuses" (top 80)
 q106:GD K "is_plain_test" (top 84)
 X1:GD K "is_test" (top 83)
 q108:GD K "is_deed" (top 85)
 q109:GD K "are_tests" (top 81)
 q110:GD K "are_deeds" (top 82)
 q111:GD K "is_rule" (top 77)
 q112:GM K C14 "__init__" "World.__init__" (ef (top 142) 0)
 q113:GM K C14 "is_dark" "World.is_dark" (ef (top 142) 5)
 q114:GM K C14 "own_marks" "World.own_marks" (ef (top 142) 7)
 q115:GM K C14 "names" "World.names" (ef (top 142) 1)
 q116:GM K C14 "way_words" "World.way_words" (ef (top 142) 12)
 q117:GM K C14 "parts" "World.parts" (ef (top 142) 18)
 q118:GD K "own_starts" (top 16)
 q119:GD K "first_value" (top 17)
 q120:GD K "first_stand" (top 15)
structure FxE(K:au)(C0 C1 C2 C3 C4 C5 C6 C7 C8 C9 C10 C11 C12 C13 C14 C15:Addr):Prop where
 q121:GD K "value_of" (top 18)
 q122:GD K "at_of" (top 19)
 q123:GD K "mark_of" (top 20)
 q124:GD K "holders_of" (top 22)
 q125:GD K "room_of" (top 23)
 q126:GD K "is_shut" (top 25)
 q127:GD K "in_open" (top 24)
 q128:GD K "burns_in" (top 28)
 q129:GD K "is_lit" (top 27)
 q130:GD K "is_seen" (top 29)
 q131:GD K "seen" (top 30)
 q132:GD K "words_of" (top 13)
 q133:GD K "phrases_about" (top 51)
 q134:GD K "phrases_of" (top 50)
 q135:GD K "read_way" (top 52)
 q136:GD K "read_things" (top 53)
 q137:GD K "read" (top 49)
 q138:GD K "_law_cell_at" (top 148)
 q139:GD K "_law_draws" (top 149)
 q140:GD K "_law_names" (top 150)
 q141:GD K "_law_words" (top 151)
 q142:GD K "_law_things" (top 152)
 q143:GD K "_law_marks" (top 153)
 q144:GD K "_law_all_marks" (top 154)
 q145:GD K "_law_ways" (top 155)
 q146:GD K "_law_verbs" (top 156)
 q147:GD K "_law_common" (top 157)
 q148:GD K "_law_test" (top 158)
 q149:GD K "_law_deed" (top 159)
 q150:GD K "_law_rules" (top 160)
 q151:GD K "_law_parts" (top 161)
 q152:GD K "_law_asked" (top 162)
 q153:GD K "_law_done" (top 163)
 q154:GD K "_law_rule" (top 164)
 q155:GD K "_law_world" (top 165)
 q156:GD K "_law_blanked" (top 167)
 q157:GD K "_law_phrases" (top 168)
 q158:GD K "_law_read" (top 169)
 q159:GD K "_law_row" (top 170)
 q160:GD K "law" (top 171)
structure Fx(K:au)(C0 C1 C2 C3 C4 C5 C6 C7 C8 C9 C10 C11 C12 C13 C14 C15:Addr):Prop extends FxA K C0 C1 C2 C3 C4 C5 C6 C7 C8 C9 C10 C11 C12 C13 C14 C15,FxB K C0 C1 C2 C3 C4 C5 C6 C7 C8 C9 C10 C11 C12 C13 C14 C15,FxC K C0 C1 C2 C3 C4 C5 C6 C7 C8 C9 C10 C11 C12 C13 C14 C15,FxD K C0 C1 C2 C3 C4 C5 C6 C7 C8 C9 C10 C11 C12 C13 C14 C15,FxE K C0 C1 C2 C3 C4 C5 C6 C7 C8 C9 C10 C11 C12 C13 C14 C15
class Yx(B:Bz):Prop where
 y:Yw B.P B.w B.mg B.b' B.G
 z:B.G.hs=tupleKeyHash (uP B.P B.w)
 f:Fx B.G.K (B.G.ca 0) (B.G.ca 1) (B.G.ca 2) (B.G.ca 3) (B.G.ca 4) (B.G.ca 5) (B.G.ca 6) (B.G.ca 7) (B.G.ca 8) (B.G.ca 9) (B.G.ca 10) (B.G.ca 11) (B.G.ca 12) (B.G.ca 13) (B.G.ca 14) (B.G.ca 15)
section
variable{B:Bz}[Y:Yx B]
instance:Yb B:=⟨Y.y⟩
instance:Hz B:=⟨Y.z,Y.f.kn⟩
instance:Nb B "all" := ⟨Y.y.n Y.f.e 0 U⟩
instance:Nb B "any" := ⟨Y.y.n Y.f.e 1 U⟩
instance:Nb B "bool" := ⟨Y.y.n Y.f.e 2 U⟩
instance:Nb B "int" := ⟨Y.y.n Y.f.e 3 U⟩
instance:Nb B "isinstance" := ⟨Y.y.n Y.f.e 4 U⟩
instance:Nb B "len" := ⟨Y.y.n Y.f.e 5 U⟩
instance:Nb B "list" := ⟨Y.y.n Y.f.e 6 U⟩
instance:Nb B "range" := ⟨Y.y.n Y.f.e 7 U⟩
instance:Nb B "set" := ⟨Y.y.n Y.f.e 8 U⟩
instance:Nb B "sorted" := ⟨Y.y.n Y.f.e 9 U⟩
instance:Nb B "str" := ⟨Y.y.n Y.f.e 10 U⟩
instance:Nb B "tuple" := ⟨Y.y.n Y.f.e 11 U⟩
instance:Co B "FORMS" O2:=⟨Y.y.cs Y.f.g0⟩
instance:Co B "KINDS" Dp:=⟨Y.y.cs Y.f.g1⟩
instance:Co B "KINDS_APART" DH:=⟨Y.y.cs Y.f.g2⟩
instance:Co B "KINDS_THAT_HOLD" zW:=⟨Y.y.cs Y.f.g3⟩
instance:Co B "KINDS_WITH_MARK" zX:=⟨Y.y.cs Y.f.g4⟩
instance:Co B "MOST_BESIDE" DI:=⟨Y.y.ci Y.f.g5⟩
instance:Co B "MOST_BY_COMMAND" zY:=⟨Y.y.ci Y.f.g6⟩
instance:Co B "MOST_DEEDS" EW:=⟨Y.y.ci Y.f.g7⟩
instance:Co B "MOST_DEEP" Gs:=⟨Y.y.ci Y.f.g8⟩
instance:Co B "MOST_IN_NAME" Cy:=⟨Y.y.ci Y.f.g9⟩
instance:Co B "MOST_IN_WORD" CA:=⟨Y.y.ci Y.f.g10⟩
instance:Co B "MOST_MARKS" Bj:=⟨Y.y.ci Y.f.g11⟩
instance:Co B "MOST_OF_MARK" CB:=⟨Y.y.ci Y.f.g12⟩
instance:Co B "MOST_ROOMS" EY:=⟨Y.y.ci Y.f.g13⟩
instance:Co B "MOST_RULES" E1:=⟨Y.y.ci Y.f.g14⟩
instance:Co B "MOST_SIGNS" EX:=⟨Y.y.ci Y.f.g15⟩
instance:Co B "MOST_TESTS" EV:=⟨Y.y.ci Y.f.g16⟩
instance:Co B "MOST_VERBS" EZ:=⟨Y.y.ci Y.f.g17⟩
instance:Co B "MOST_WAYS" Gu:=⟨Y.y.ci Y.f.g18⟩
instance:Co B "MOST_WORDS" Bk:=⟨Y.y.ci Y.f.g19⟩
instance:Co B "NO_NAMES" Iu:=⟨Y.y.cs Y.f.g20⟩
instance:Co B "NO_WORDS" Iv:=⟨Y.y.cs Y.f.g21⟩
instance:Co B "NO_WORDS_OF_ROWS" zw:=⟨Y.y.cs Y.f.g22⟩
instance:Ff B AI "copied_rules" := ⟨xy (Y.f.l?.at 0 U)⟩
instance:Ff B Do "deeds" := ⟨xy (Y.f.t9.at 0 U)⟩
instance:Ff B xB "form" := ⟨xy (Y.f.k2.at 0 U)⟩
instance:Ff B JZ "inner" := ⟨xy (Y.f.k9.at 0 U)⟩
instance:Ff B xk "joining" := ⟨xy (Y.f.k2.at 1 U)⟩
instance:Ff B DG "kept_dark" := ⟨xy (Y.f.l?.at 1 U)⟩
instance:Ff B zt "kept_marks" := ⟨xy (Y.f.l?.at 2 U)⟩
instance:Ff B wc "kept_things" := ⟨xy (Y.f.l?.at 3 U)⟩
instance:Ff B Cv "kept_verbs" := ⟨xy (Y.f.l?.at 4 U)⟩
instance:Ff B Ai "kept_ways" := ⟨xy (Y.f.l?.at 5 U)⟩
instance:Ff B vq "kind" := ⟨W? (xy (Y.f.k0.at 0 U)) (Y.f.k7.at 0 U)⟩
instance:Ff B zu "most" := ⟨xy (Y.f.k1.at 0 U)⟩
instance:Ff B zT "mosts_by_name" := ⟨xy (Y.f.l?.at 6 U)⟩
instance:Ff B uN "name" := ⟨W? (W? (xy (Y.f.k0.at 1 U)) (Y.f.k1.at 1 U)) (Y.f.k2.at 2 U)⟩
instance:Ff B O0 "one" := ⟨xy (Y.f.z3.at 0 U)⟩
instance:Ff B J0 "other" := ⟨xy (Y.f.z3.at 1 U)⟩
instance:Ff B xl "others" := ⟨xy (Y.f.k2.at 3 U)⟩
instance:Ff B FU "place" := ⟨W? (xy (Y.f.k3.at 0 U)) (Y.f.A4.at 0 U)⟩
instance:Ff B zU "refuses" := ⟨xy (Y.f.t9.at 1 U)⟩
instance:Ff B AJ "shared_rules" := ⟨xy (Y.f.l?.at 7 U)⟩
instance:Ff B AK "shared_verbs" := ⟨xy (Y.f.l?.at 8 U)⟩
instance:Ff B vN "start" := ⟨W? (xy (Y.f.k0.at 2 U)) (Y.f.k1.at 2 U)⟩
instance:Ff B Cw "term" := ⟨W? (W? (W? (W? (W? (W? (xy (Y.f.k3.at 1 U)) (Y.f.k4.at 0 U)) (Y.f.k5.at 0 U)) (Y.f.k6.at 0 U)) (Y.f.k7.at 1 U)) (Y.f.A4.at 1 U)) (Y.f.z0.at 0 U)⟩
instance:Ff B FV "tests" := ⟨xy (Y.f.t9.at 2 U)⟩
instance:Ff B Ir "text" := ⟨xy (Y.f.t9.at 3 U)⟩
instance:Ff B zv "things_by_name" := ⟨xy (Y.f.l?.at 9 U)⟩
instance:Ff B J1 "value" := ⟨W? (xy (Y.f.k6.at 1 U)) (Y.f.z0.at 1 U)⟩
instance:Ff B x4 "verb" := ⟨xy (Y.f.t9.at 4 U)⟩
instance:Ff B zV "verbs_by_word" := ⟨xy (Y.f.l?.at 10 U)⟩
instance:Ff B MA "word" := ⟨xy (Y.f.k8.at 0 U)⟩
instance:Ff B wX "words" := ⟨xy (Y.f.k0.at 3 U)⟩
instance:Ff B Aj "your_name" := ⟨xy (Y.f.l?.at 11 U)⟩
instance:Af B 0 ["kind", "name", "start", "words"]:=⟨Y.f.k0⟩
instance:Af B 1 ["most", "name", "start"]:=⟨Y.f.k1⟩
instance:Af B 2 ["form", "joining", "name", "others"]:=⟨Y.f.k2⟩
instance:Af B 3 ["place", "term"]:=⟨Y.f.k3⟩
instance:Af B 4 ["term"]:=⟨Y.f.k4⟩
instance:Af B 5 ["term"]:=⟨Y.f.k5⟩
instance:Af B 6 ["term", "value"]:=⟨Y.f.k6⟩
instance:Af B 7 ["kind", "term"]:=⟨Y.f.k7⟩
instance:Af B 8 ["word"]:=⟨Y.f.k8⟩
instance:Af B 9 ["inner"]:=⟨Y.f.k9⟩
instance:Af B 10 ["one", "other"]:=⟨Y.f.z3⟩
instance:Af B 11 ["place", "term"]:=⟨Y.f.A4⟩
instance:Af B 12 ["term", "value"]:=⟨Y.f.z0⟩
instance:Af B 13 ["deeds", "refuses", "tests", "text", "verb"]:=⟨Y.f.t9⟩
instance:Af B 14 ["copied_rules", "kept_dark", "kept_marks", "kept_things", "kept_verbs", "kept_ways", "mosts_by_name", "shared_rules", "shared_verbs", "things_by_name", "verbs_by_word", "your_name", "kept_rules", "rules_by_verb"]:=⟨Y.f.l?⟩
instance:Ic B "At" t_At:=⟨3,vM Y.f.i_At U (Cu 16 _) (Bi.at ⟨Y.f.k0.ci,Y.f.k1.ci,Y.f.k2.ci,Y.f.k3.ci,Y.f.k4.ci,Y.f.k5.ci,Y.f.k6.ci,Y.f.k7.ci,Y.f.k8.ci,Y.f.k9.ci,Y.f.z3.ci,Y.f.A4.ci,Y.f.z0.ci,Y.f.t9.ci,Y.f.l?.ci,Y.f.G'.ci,trivial⟩),Y.y.g Y.f.a3⟩
instance:Ic B "Both" NY:=⟨10,vM Y.f.i_Both U (Cu 16 _) (Bi.at ⟨Y.f.k0.ci,Y.f.k1.ci,Y.f.k2.ci,Y.f.k3.ci,Y.f.k4.ci,Y.f.k5.ci,Y.f.k6.ci,Y.f.k7.ci,Y.f.k8.ci,Y.f.k9.ci,Y.f.z3.ci,Y.f.A4.ci,Y.f.z0.ci,Y.f.t9.ci,Y.f.l?.ci,Y.f.G'.ci,trivial⟩),Y.y.g Y.f.a10⟩
instance:Ic B "Has" XE:=⟨4,vM Y.f.i_Has U (Cu 16 _) (Bi.at ⟨Y.f.k0.ci,Y.f.k1.ci,Y.f.k2.ci,Y.f.k3.ci,Y.f.k4.ci,Y.f.k5.ci,Y.f.k6.ci,Y.f.k7.ci,Y.f.k8.ci,Y.f.k9.ci,Y.f.z3.ci,Y.f.A4.ci,Y.f.z0.ci,Y.f.t9.ci,Y.f.l?.ci,Y.f.G'.ci,trivial⟩),Y.y.g Y.f.a4⟩
instance:Ic B "Kind" Ti:=⟨7,vM Y.f.i_Kind U (Cu 16 _) (Bi.at ⟨Y.f.k0.ci,Y.f.k1.ci,Y.f.k2.ci,Y.f.k3.ci,Y.f.k4.ci,Y.f.k5.ci,Y.f.k6.ci,Y.f.k7.ci,Y.f.k8.ci,Y.f.k9.ci,Y.f.z3.ci,Y.f.A4.ci,Y.f.z0.ci,Y.f.t9.ci,Y.f.l?.ci,Y.f.G'.ci,trivial⟩),Y.y.g Y.f.a7⟩
instance:Ic B "Lit" XG:=⟨15,vM Y.f.i_Lit U (Cu 16 _) (Bi.at ⟨Y.f.k0.ci,Y.f.k1.ci,Y.f.k2.ci,Y.f.k3.ci,Y.f.k4.ci,Y.f.k5.ci,Y.f.k6.ci,Y.f.k7.ci,Y.f.k8.ci,Y.f.k9.ci,Y.f.z3.ci,Y.f.A4.ci,Y.f.z0.ci,Y.f.t9.ci,Y.f.l?.ci,Y.f.G'.ci,trivial⟩),Y.y.g Y.f.a15⟩
instance:Ic B "Mark" Tj:=⟨1,vM Y.f.i_Mark U (Cu 16 _) (Bi.at ⟨Y.f.k0.ci,Y.f.k1.ci,Y.f.k2.ci,Y.f.k3.ci,Y.f.k4.ci,Y.f.k5.ci,Y.f.k6.ci,Y.f.k7.ci,Y.f.k8.ci,Y.f.k9.ci,Y.f.z3.ci,Y.f.A4.ci,Y.f.z0.ci,Y.f.t9.ci,Y.f.l?.ci,Y.f.G'.ci,trivial⟩),Y.y.g Y.f.a1⟩
instance:Ic B "Marked" MB:=⟨6,vM Y.f.ν U (Cu 16 _) (Bi.at ⟨Y.f.k0.ci,Y.f.k1.ci,Y.f.k2.ci,Y.f.k3.ci,Y.f.k4.ci,Y.f.k5.ci,Y.f.k6.ci,Y.f.k7.ci,Y.f.k8.ci,Y.f.k9.ci,Y.f.z3.ci,Y.f.A4.ci,Y.f.z0.ci,Y.f.t9.ci,Y.f.l?.ci,Y.f.G'.ci,trivial⟩),Y.y.g Y.f.a6⟩
instance:Ic B "Move" Tn:=⟨11,vM Y.f.i_Move U (Cu 16 _) (Bi.at ⟨Y.f.k0.ci,Y.f.k1.ci,Y.f.k2.ci,Y.f.k3.ci,Y.f.k4.ci,Y.f.k5.ci,Y.f.k6.ci,Y.f.k7.ci,Y.f.k8.ci,Y.f.k9.ci,Y.f.z3.ci,Y.f.A4.ci,Y.f.z0.ci,Y.f.t9.ci,Y.f.l?.ci,Y.f.G'.ci,trivial⟩),Y.y.g Y.f.a11⟩
instance:Ic B "Not" To:=⟨9,vM Y.f.i_Not U (Cu 16 _) (Bi.at ⟨Y.f.k0.ci,Y.f.k1.ci,Y.f.k2.ci,Y.f.k3.ci,Y.f.k4.ci,Y.f.k5.ci,Y.f.k6.ci,Y.f.k7.ci,Y.f.k8.ci,Y.f.k9.ci,Y.f.z3.ci,Y.f.A4.ci,Y.f.z0.ci,Y.f.t9.ci,Y.f.l?.ci,Y.f.G'.ci,trivial⟩),Y.y.g Y.f.a9⟩
instance:Ic B "Put" XH:=⟨12,vM Y.f.i_Put U (Cu 16 _) (Bi.at ⟨Y.f.k0.ci,Y.f.k1.ci,Y.f.k2.ci,Y.f.k3.ci,Y.f.k4.ci,Y.f.k5.ci,Y.f.k6.ci,Y.f.k7.ci,Y.f.k8.ci,Y.f.k9.ci,Y.f.z3.ci,Y.f.A4.ci,Y.f.z0.ci,Y.f.t9.ci,Y.f.l?.ci,Y.f.G'.ci,trivial⟩),Y.y.g Y.f.a12⟩
instance:Ic B "Rule" Tp:=⟨13,vM Y.f.i_Rule U (Cu 16 _) (Bi.at ⟨Y.f.k0.ci,Y.f.k1.ci,Y.f.k2.ci,Y.f.k3.ci,Y.f.k4.ci,Y.f.k5.ci,Y.f.k6.ci,Y.f.k7.ci,Y.f.k8.ci,Y.f.k9.ci,Y.f.z3.ci,Y.f.A4.ci,Y.f.z0.ci,Y.f.t9.ci,Y.f.l?.ci,Y.f.G'.ci,trivial⟩),Y.y.g Y.f.a13⟩
instance:Ic B "Seen" Tq:=⟨5,vM Y.f.i_Seen U (Cu 16 _) (Bi.at ⟨Y.f.k0.ci,Y.f.k1.ci,Y.f.k2.ci,Y.f.k3.ci,Y.f.k4.ci,Y.f.k5.ci,Y.f.k6.ci,Y.f.k7.ci,Y.f.k8.ci,Y.f.k9.ci,Y.f.z3.ci,Y.f.A4.ci,Y.f.z0.ci,Y.f.t9.ci,Y.f.l?.ci,Y.f.G'.ci,trivial⟩),Y.y.g Y.f.a5⟩
instance:Ic B "Thing" O1:=⟨0,vM Y.f.i_Thing U (Cu 16 _) (Bi.at ⟨Y.f.k0.ci,Y.f.k1.ci,Y.f.k2.ci,Y.f.k3.ci,Y.f.k4.ci,Y.f.k5.ci,Y.f.k6.ci,Y.f.k7.ci,Y.f.k8.ci,Y.f.k9.ci,Y.f.z3.ci,Y.f.A4.ci,Y.f.z0.ci,Y.f.t9.ci,Y.f.l?.ci,Y.f.G'.ci,trivial⟩),Y.y.g Y.f.a0⟩
instance:Ic B "Verb" Tr:=⟨2,vM Y.f.i_Verb U (Cu 16 _) (Bi.at ⟨Y.f.k0.ci,Y.f.k1.ci,Y.f.k2.ci,Y.f.k3.ci,Y.f.k4.ci,Y.f.k5.ci,Y.f.k6.ci,Y.f.k7.ci,Y.f.k8.ci,Y.f.k9.ci,Y.f.z3.ci,Y.f.A4.ci,Y.f.z0.ci,Y.f.t9.ci,Y.f.l?.ci,Y.f.G'.ci,trivial⟩),Y.y.g Y.f.a2⟩
instance:Ic B "Word" Ts:=⟨8,vM Y.f.i_Word U (Cu 16 _) (Bi.at ⟨Y.f.k0.ci,Y.f.k1.ci,Y.f.k2.ci,Y.f.k3.ci,Y.f.k4.ci,Y.f.k5.ci,Y.f.k6.ci,Y.f.k7.ci,Y.f.k8.ci,Y.f.k9.ci,Y.f.z3.ci,Y.f.A4.ci,Y.f.z0.ci,Y.f.t9.ci,Y.f.l?.ci,Y.f.G'.ci,trivial⟩),Y.y.g Y.f.a8⟩
instance:K0f B "Lit" 15:=⟨⟨Y.f.G'.mks,Y.f.n_Lit,Y.f.G'.kp⟩,Y.y.g Y.f.a15⟩
instance:Ij B 16:=⟨injR Y.f.nd⟩
theorem eqL{A:Type}{l:List A}{n:Nat}(h:l.length=n):l.length=n:=h
theorem eqE{e:PySem.Expr}{v:PySem.Env}{r:PySem.Sem PySem.Value}(h:PySem.eval e v=r):PySem.eval e v=r:=h
local macro_rules|`(tactic|trivial)=>do let x:=("zr_plI zr_iuI zr_jnI zr_insI ads ade adb adf adg Mq adk aak aaS adh aai aaY Z3 Z4 aaT aaV aaP aam aaK aap aaZ aaa aab aac aad Z7 aaW adl aa0 Z8 aa2 aa4 aaU abf aal aaj aah Z2 zr_i2I aav aaw adi aa6 aaf aag aae adm adn aaA Z5 Z6 aaB Z9 abc abd abe aa3 aa5 aa7 adj aan aao aa8 aa9 aaC aaq aar abk aaG aaH aaI aaJ aba abb Ww Wv Wx aaL aaM aaN aau aax aay aby aaz aaF aaE aaD abv aa1 abt abq zr_wxI aas aat abh abi abj Wu abg aaX".splitOn " ").toArray.map fun s=>Lean.mkIdent (.mkSimple s);`(tactic|repeat' first|(with_reducible intro _)|((with_reducible first|apply eqL|apply eqE);rfl)|((with_reducible apply eqI);kernel_rfl)|((with_reducible first|apply aaQ|apply aaR);rotate_left 7;rfl)|(with_reducible first $[|apply $x]*)|exact p9)
instance:Df B 1 "is_small_letters" (e? B.G xJ):=fm U Y.f.q23 U (by unfold zx;trivial)
instance:Df B 2 "is_name" (e? B.G xt):=fm U Y.f.q24 U (by unfold J2;trivial)
instance:Df B 2 "is_word" (e? B.G wz):=fm U Y.f.q25 U (by unfold J3;trivial)
instance:Df B 1 "is_one_of" (e? B.G vb):=fm U Y.f.q26 U (by unfold Gv;trivial)
instance:Df B 1 "is_whole" (e? B.G zy):=fm U Y.f.q27 U (by unfold Iw;trivial)
instance:Df B 1 "is_list_up_to" (e? B.G vt):=fm U Y.f.q28 U (by unfold BY;trivial)
instance:Df B 1 "own_list" (e? B.G Ec):=fm U Y.f.q29 U (by unfold Iy;trivial)
def DW:V' B (H? (ef (top 65) 0)) "Thing.__init__" (ef (top 65) 0) (vm (ef (top 65) 0)) 0 Bl:=by
 unfold Bl;refine Mq ?_ ?_
 all_goals trivial
instance:Kf B 1 "Thing" 0 y8 [D.E]:=gJ4 (dds:=[D.E]) Y.f.k0 Y.f.a0 U Y.f.q30 U U DW 0
instance:Kf B 1 "Thing" 0 y8 []:=gJ4 (dds:=[D.E]) Y.f.k0 Y.f.a0 U Y.f.q30 U U DW 1
instance:Kf B 1 "Mark" 1 Gx []:=Wo Y.f.k1 Y.f.a1 U Y.f.q31 U U (by unfold Gw;trivial)
def BV:V' B (H? (ef (top 67) 0)) "Verb.__init__" (ef (top 67) 0) (vm (ef (top 67) 0)) 0 CC:=by
 unfold CC;refine Mq ?_ ?_
 all_goals trivial
instance:Kf B 1 "Verb" 2 wJ [D.E,(D.str "one"),D.E]:=gJ4 (dds:=[D.E,(D.str "one"),D.E]) Y.f.k2 Y.f.a2 U Y.f.q32 U U BV 0
instance:Kf B 1 "Verb" 2 wJ [D.E]:=gJ4 (dds:=[D.E,(D.str "one"),D.E]) Y.f.k2 Y.f.a2 U Y.f.q32 U U BV 2
instance:Kf B 1 "Verb" 2 wJ []:=gJ4 (dds:=[D.E,(D.str "one"),D.E]) Y.f.k2 Y.f.a2 U Y.f.q32 U U BV 3
instance:Kf B 1 "At" 3 Dr []:=Wo Y.f.k3 Y.f.a3 U Y.f.q33 U U (by unfold J4;trivial)
instance:Kf B 1 "Has" 4 Bm []:=Wo Y.f.k4 Y.f.a4 U Y.f.q34 U U (by unfold IA;trivial)
instance:Kf B 1 "Seen" 5 GA []:=Wo Y.f.k5 Y.f.a5 U Y.f.q35 U U (by unfold Gy;trivial)
instance:Kf B 1 "Marked" 6 vX []:=Wo Y.f.k6 Y.f.a6 U Y.f.q36 U U (by unfold DJ;trivial)
instance:Kf B 1 "Kind" 7 wK []:=Wo Y.f.k7 Y.f.a7 U Y.f.q37 U U (by unfold GB;trivial)
instance:Kf B 1 "Word" 8 CD []:=Wo Y.f.k8 Y.f.a8 U Y.f.q38 U U (by unfold GE;trivial)
instance:Kf B 1 "Not" 9 wU []:=Wo Y.f.k9 Y.f.a9 U Y.f.q39 U U (by unfold IB;trivial)
instance:Kf B 1 "Both" 10 GH []:=Wo Y.f.z3 Y.f.a10 U Y.f.q40 U U (by unfold GF;trivial)
instance:Kf B 1 "Move" 11 xP []:=Wo Y.f.A4 Y.f.a11 U Y.f.q41 U U (by unfold GK;trivial)
instance:Kf B 1 "Put" 12 yq []:=Wo Y.f.z0 Y.f.a12 U Y.f.q42 U U (by unfold IC;trivial)
def Fq:V' B (H? (ef (top 74) 0)) "Rule.__init__" (ef (top 74) 0) (vm (ef (top 74) 0)) 1 CG:=by
 unfold CG;refine Mq ?_ ?_
 all_goals trivial
instance:Kf B 2 "Rule" 13 wL [(D.I δ)]:=gJ4 (dds:=[(D.I δ)]) Y.f.t9 Y.f.a13 U Y.f.q43 U U Fq 0
instance:Kf B 2 "Rule" 13 wL []:=gJ4 (dds:=[(D.I δ)]) Y.f.t9 Y.f.a13 U Y.f.q43 U U Fq 1
instance:Mf B 9 "can_hold" vQ:=⟨λc h e=>by
 unfold vQ at e;split at e
 .cases e;exact MS (k:=8) Y.f.k0 U Y.f.q44 U (by unfold AL;trivial)
 .cases e⟩
instance:Mf B 9 "has_mark" wB:=⟨λc h e=>by
 unfold wB at e;split at e
 .cases e;exact MS (k:=8) Y.f.k0 U Y.f.q45 U (by unfold AN;trivial)
 .cases e⟩
instance:Mf B 9 "is_plainly" wC:=⟨λc h e=>by
 unfold wC at e;split at e
 .cases e;exact MS (k:=8) Y.f.k0 U Y.f.q46 U (by unfold zz;trivial)
 .cases e⟩
instance:Df B 1 "refuse_unless" (e? B.G uG):=fm U Y.f.q47 U (by unfold BZ;trivial)
instance:Df B 1 "count_of" (e? B.G Bn):=fm U Y.f.q48 U (by unfold ID;trivial)
instance:Df B 10 "plain_ones" (rh B.G x8):=L? U Y.f.q49 U (by unfold E2;trivial)
instance:Df B 2 "is_mark" (e? B.G FX):=fm U Y.f.q50 U (by unfold FW;trivial)
instance:Df B 11 "check_things" (e? B.G zC):=fm U Y.f.q51 U (by unfold zB;trivial)
instance:Df B 3 "check_marks" (e? B.G Al):=fm U Y.f.q52 U (by unfold Ak;trivial)
instance:Df B 1 "are_unlike" (e? B.G wm):=fm U Y.f.q53 U (by unfold E3;trivial)
instance:Df B 3 "check_names" (e? B.G An):=fm U Y.f.q54 U (by unfold Am;trivial)
instance:Df B 10 "mark_names" (rh B.G x9):=L? U Y.f.q55 U (by unfold E4;trivial)
instance:Df B 10 "is_start" (e? B.G Ee):=fm U Y.f.q56 U (by unfold Ed;trivial)
instance:Df B 1 "comes_to_room" (e? B.G yO):=fm U Y.f.q57 U (by unfold B2;trivial)
instance:Df B 11 "check_starts" (e? B.G zF):=gF5 ["things", "starts", "thing"] U Y.f.q58 U (by unfold zD;trivial)
instance:Df B 3 "are_words" (e? B.G yG):=fm U Y.f.q59 U (by unfold CH;trivial)
instance:Df B 1 "has_all" (e? B.G zh):=fm U Y.f.q60 U (by unfold J5;trivial)
instance:Df B 2 "is_told_apart" (e? B.G yQ):=fm U Y.f.q61 U (by unfold yP;trivial)
instance:Df B 11 "check_words_of_things" (e? B.G wF):=fm U Y.f.q62 U (by unfold wD;trivial)
instance:Df B 2 "check_dark" (e? B.G Bp):=fm U Y.f.q63 U (by unfold Bo;trivial)
instance:Df B 3 "is_way" (e? B.G IF):=fm U Y.f.q64 U (by unfold IE;trivial)
instance:Df B 4 "check_ways" (e? B.G Br):=fm U Y.f.q65 U (by unfold Bq;trivial)
instance:Df B 3 "is_verb" (e? B.G J7):=fm U Y.f.q66 U (by unfold J6;trivial)
instance:Df B 4 "check_verbs" (e? B.G yy):=fm U Y.f.q67 U (by unfold DK;trivial)
instance:Df B 1 "are_apart" (e? B.G yH):=fm U Y.f.q68 U (by unfold GL;trivial)
instance:Df B 11 "check_vocabulary" (e? B.G xM):=fm U Y.f.q69 U (by unfold xK;trivial)
instance:Df B 12 "check_parts" (e? B.G Ap):=fm U Y.f.q70 U (by unfold Ao;trivial)
instance:Df B 4 "does" (e? B.G zG):=fm U Y.f.q71 U (by unfold Tt;trivial)
instance:Df B 4 "refuses" (e? B.G vG):=fm U Y.f.q72 U (by unfold J8;trivial)
instance:Df B 5 "hand_rules" (rh B.G Bs):=L? U Y.f.q73 U (by unfold E5;trivial)
instance:Df B 5 "put_rules" (rh B.G CJ):=L? U Y.f.q74 U (by unfold GN;trivial)
instance:Df B 5 "lid_rules" (rh B.G CK):=L? U Y.f.q75 U (by unfold GO;trivial)
instance:Df B 5 "flame_rules" (rh B.G Aq):=L? U Y.f.q76 U (by unfold DL;trivial)
instance:Df B 3 "way_tests" (rh B.G CL):=L? U Y.f.q77 U (by unfold GP;trivial)
instance:Df B 5 "go_rules" (rh B.G Eg):=L? U Y.f.q78 U (by unfold Ef;trivial)
instance:Df B 5 "wait_rules" (rh B.G E7):=L? U Y.f.q79 U (by unfold E6;trivial)
instance:Df B 6 "common_rules" (rh B.G zH):=L? U Y.f.q80 U (by unfold CM;trivial)
instance:Df B 3 "common_verbs" (rh B.G ya):=L? U Y.f.q81 U (by unfold CN;trivial)
instance:Df B 1 "by_name" (e? B.G FZ):=fm U Y.f.q82 U (by unfold FY;trivial)
instance:Df B 10 "mosts_by_name" (e? B.G yS):=fm U Y.f.q83 U (by unfold yR;trivial)
instance:Df B 1 "verbs_by_word" (e? B.G xE):=fm U Y.f.q84 U (by unfold B3;trivial)
instance:Df B 1 "by_verb" (e? B.G Ka):=fm U Y.f.q85 U (by unfold J9;refine⟨Qs (stW (by kernel_rfl) LJ U) (Q3 p9 U (LX (LO B.G.K (Nw (P? (by kernel_rfl))))) (pgI (by kernel_rfl)) (Kw (Ol (Nv B.G.K jA kX oO Fu (SJ (P? (by kernel_rfl)) (RU (Nw (P? (by kernel_rfl))) (Ff.p (B:=B))) (Rg Ae) ⟨U,U,U,U⟩) (xm (P? (by kernel_rfl)) Ae))))) (M6 (PE.θ (P? (by kernel_rfl))))⟩)
instance:Mf B 9 "of_kind" xC:=⟨λc h e=>by
 unfold xC at e;split at e
 .cases e;exact MS (k:=8) Y.f.l? U Y.f.q86 U (by unfold B4;trivial)
 .cases e⟩
instance:Mf B 9 "all_verbs" yT:=⟨λc h e=>by
 unfold yT at e;split at e
 .cases e;exact MS (k:=8) Y.f.l? U Y.f.q87 U (by unfold zZ;trivial)
 .cases e⟩
instance:Df B 1 "is_same_text" (e? B.G yb):=fm U Y.f.q88 U (by unfold CO;trivial)
instance:Df B 4 "copy_of" (e? B.G F0):=fm U Y.f.q89 U (by unfold Kb;trivial)
instance:Mf B 9 "thing_of" vR:=⟨λc h e=>by
 unfold vR at e;split at e
 .cases e;exact MS (k:=8) Y.f.l? U Y.f.q90 U (by unfold AQ;trivial)
 .cases e⟩
instance:Mf B 9 "most_of" yz:=⟨λc h e=>by
 unfold yz at e;split at e
 .cases e;exact MS (k:=8) Y.f.l? U Y.f.q91 U (by unfold B6;trivial)
 .cases e⟩
instance:Mf B 9 "verb_of" wq:=⟨λc h e=>by
 unfold wq at e;split at e
 .cases e;exact MS (k:=8) Y.f.l? U Y.f.q92 U (by unfold B7;trivial)
 .cases e⟩
instance:Mf B 9 "you" AR:=⟨λc h e=>by
 unfold AR at e;split at e
 .cases e;exact MS (k:=8) Y.f.l? U Y.f.q93 U (by unfold GQ;trivial)
 .cases e⟩
instance:Df B 2 "is_by_command" (e? B.G vy):=fm U Y.f.q94 U (by unfold B8;trivial)
instance:Df B 2 "is_here" (e? B.G yt):=fm U Y.f.q95 U (by unfold Kc;trivial)
instance:Df B 10 "named" (e? B.G z5):=fm U Y.f.q96 U (by unfold O3;trivial)
instance:Df B 11 "is_of_kind" (e? B.G y9):=fm U Y.f.q97 U (by unfold E8;trivial)
instance:Df B 11 "is_term" (e? B.G AS):=fm U Y.f.q98 U (by unfold Ke;trivial)
instance:Df B 11 "is_place" (e? B.G Bt):=fm U Y.f.q99 U (by unfold Eh;trivial)
instance:Df B 12 "is_moved" (e? B.G Ej):=fm U Y.f.q100 U (by unfold Ei;trivial)
instance:Df B 10 "is_mark_value" (e? B.G xH):=fm U Y.f.q101 U (by unfold xG;trivial)
instance:Df B 13 "is_move" (e? B.G F2):=fm U Y.f.q102 U (by unfold F1;trivial)
instance:Df B 1 "is_said" (e? B.G AU):=fm U Y.f.q103 U (by unfold Kg;trivial)
instance:Df B 10 "is_verb_name" (e? B.G zI):=fm U Y.f.q104 U (by unfold CP;trivial)
instance:Df B 1 "does_or_refuses" (e? B.G yc):=fm U Y.f.q105 U (by unfold z6;trivial)
instance:Df B 12 "is_plain_test" (e? B.G yV):=fm U Y.f.q106 U (by unfold vI;trivial)
instance:Df B 1 "is_test" (e? B.G (xR 0)):=fm (k:=0) U Y.f.X1 U (by trivial)
instance:Df B 13 "is_test" (e? B.G (xR 1)):=fm (k:=12) U Y.f.X1 U (by unfold xQ;trivial)
instance:Df B 14 "is_test" (e? B.G (xR 2)):=fm (k:=13) U Y.f.X1 U (by unfold xQ;trivial)
instance:Df B 15 "is_test" (e? B.G (xR 3)):=fm (k:=14) U Y.f.X1 U (by unfold xQ;trivial)
instance:Df B 16 "is_test" (e? B.G (xR 4)):=fm (k:=15) U Y.f.X1 U (by unfold xQ;trivial)
instance:Df B 14 "is_deed" (e? B.G F3):=fm U Y.f.q108 U (by unfold Ds;trivial)
instance:Df B 18 "are_tests" (e? B.G CQ):=fm U Y.f.q109 U (by unfold GR;trivial)
instance:Df B 15 "are_deeds" (e? B.G CS):=fm U Y.f.q110 U (by unfold GT;trivial)
instance:Df B 19 "is_rule" (e? B.G F5):=fm U Y.f.q111 U (by unfold F4;trivial)
instance:Kf B 20 "World" 14 za []:=Wo Y.f.l? Y.f.a14 U Y.f.q112 U U (by unfold yd;trivial)
instance:Mf B 9 "is_dark" yA:=⟨λc h e=>by
 unfold yA at e;split at e
 .cases e;exact MS (k:=8) Y.f.l? U Y.f.q113 U (by unfold B9;trivial)
 .cases e⟩
instance:Mf B 9 "own_marks" yW:=⟨λc h e=>by
 unfold yW at e;split at e
 .cases e;exact MS (k:=8) Y.f.l? U Y.f.q114 U (by unfold z7;trivial)
 .cases e⟩
instance:Mf B 9 "names" z8:=⟨λc h e=>by
 unfold z8 at e;split at e
 .cases e;exact MS (k:=8) Y.f.l? U Y.f.q115 U (by unfold DM;trivial)
 .cases e⟩
instance:Mf B 9 "way_words" xI:=⟨λc h e=>by
 unfold xI at e;split at e
 .cases e;exact MS (k:=8) Y.f.l? U Y.f.q116 U (by unfold z9;trivial)
 .cases e⟩
instance:Mf B 12 "parts" Ab:=⟨λc h e=>by
 unfold Ab at e;split at e
 .cases e;exact MS (k:=11) Y.f.l? U Y.f.q117 U (by unfold DO;trivial)
 .cases e⟩
instance:Df B 10 "own_starts" (e? B.G Bu):=fm U Y.f.q118 U (by unfold Fb;trivial)
instance:Df B 10 "first_value" (e? B.G xD):=fm U Y.f.q119 U (by unfold DP;trivial)
instance:Df B 13 "first_stand" (e? B.G As):=fm U Y.f.q120 U (by unfold DQ;trivial)
instance:Df B 1 "value_of" (e? B.G Bv):=fm U Y.f.q121 U (by unfold IG;trivial)
instance:Df B 2 "at_of" (e? B.G Bw):=fm U Y.f.q122 U (by unfold O4;trivial)
instance:Df B 2 "mark_of" (e? B.G AV):=fm U Y.f.q123 U (by unfold Kh;trivial)
instance:Df B 3 "holders_of" (rh B.G BA):=L? U Y.f.q124 U (by unfold Fc;trivial)
instance:Df B 10 "room_of" (e? B.G AW):=fm U Y.f.q125 U (by unfold Ki;trivial)
instance:Df B 10 "is_shut" (e? B.G yu):=fm U Y.f.q126 U (by unfold Kj;trivial)
instance:Df B 11 "in_open" (e? B.G yw):=fm U Y.f.q127 U (by unfold Kk;trivial)
instance:Df B 12 "burns_in" (e? B.G zJ):=fm U Y.f.q128 U (by unfold IH;trivial)
instance:Df B 13 "is_lit" (e? B.G II):=fm U Y.f.q129 U (by unfold ME;trivial)
instance:Df B 14 "is_seen" (e? B.G AX):=fm U Y.f.q130 U (by unfold Kl;trivial)
instance:Df B 15 "seen" (rh B.G NZ):=L? U Y.f.q131 U (by unfold Tu;trivial)
instance:Df B 1 "words_of" (e? B.G BB):=fm U Y.f.q132 U (by unfold IJ;trivial)
instance:Df B 1 "phrases_about" (e? B.G yY):=fm U Y.f.q133 U (by unfold yX;trivial)
instance:Df B 2 "phrases_of" (e? B.G vO):=fm U Y.f.q134 U (by unfold Fd;trivial)
instance:Df B 10 "read_way" (e? B.G BC):=fm U Y.f.q135 U (by unfold IK;trivial)
instance:Df B 16 "read_things" (e? B.G yB):=fm U Y.f.q136 U (by unfold DR;trivial)
instance:Df B 17 "read" (e? B.G Au):=fm U Y.f.q137 U (by unfold Tv;trivial)
instance:Df B 1 "_law_cell_at" (e? B.G ye):=fm U Y.f.q138 U (by unfold CT;trivial)
instance:Df B 1 "_law_draws" (rh B.G xw):=L? U Y.f.q139 U (by unfold BD;trivial)
instance:Df B 1 "_law_names" (e? B.G BF):=fm U Y.f.q140 U (by unfold BE;trivial)
instance:Df B 1 "_law_words" (e? B.G BG):=fm U Y.f.q141 U (by unfold Fe;trivial)
instance:Df B 2 "_law_things" (e? B.G yC):=fm U Y.f.q142 U (by unfold DS;trivial)
instance:Df B 1 "_law_marks" (e? B.G zb):=fm U Y.f.q143 U (by unfold Fg;trivial)
instance:Df B 1 "_law_all_marks" (e? B.G yx):=fm U Y.f.q144 U (by unfold AY;trivial)
instance:Df B 1 "_law_ways" (e? B.G Ac):=fm U Y.f.q145 U (by unfold GU;trivial)
instance:Df B 1 "_law_verbs" (e? B.G BH):=fm U Y.f.q146 U (by unfold Fh;trivial)
instance:Df B 1 "_law_common" (rh B.G wY):=L? U Y.f.q147 U (by unfold DT;trivial)
instance:Df B 1 "_law_test" (e? B.G (vS 0)):=fm (k:=0) U Y.f.q148 U (by trivial)
instance:Df B 2 "_law_test" (e? B.G (vS 1)):=fm (k:=1) U Y.f.q148 U (by unfold yI;trivial)
instance:Df B 3 "_law_test" (e? B.G (vS 2)):=fm (k:=2) U Y.f.q148 U (by unfold yI;trivial)
instance:Df B 4 "_law_test" (e? B.G (vS 3)):=fm (k:=3) U Y.f.q148 U (by unfold yI;trivial)
instance:Df B 1 "_law_deed" (e? B.G yJ):=fm U Y.f.q149 U (by unfold CU;trivial)
instance:Df B 5 "_law_rules" (e? B.G zc):=fm U Y.f.q150 U (by unfold BI;trivial)
instance:Df B 6 "_law_parts" (e? B.G BK):=fm U Y.f.q151 U (by unfold BJ;trivial)
instance:Df B 1 "_law_asked" (e? B.G (wV 0)):=fm (k:=0) U Y.f.q152 U (by trivial)
instance:Df B 3 "_law_asked" (e? B.G (wV 1)):=fm (k:=2) U Y.f.q152 U (by unfold zd;trivial)
instance:Df B 4 "_law_asked" (e? B.G (wV 2)):=fm (k:=3) U Y.f.q152 U (by unfold zd;trivial)
instance:Df B 5 "_law_asked" (e? B.G (wV 3)):=fm (k:=4) U Y.f.q152 U (by unfold zd;trivial)
instance:Df B 3 "_law_done" (e? B.G CV):=fm U Y.f.q153 U (by unfold GV;trivial)
instance:Df B 7 "_law_rule" (e? B.G CY):=fm U Y.f.q154 U (by unfold CW;trivial)
instance:Df B 22 "_law_world" (e? B.G BM):=fm U Y.f.q155 U (by unfold BL;trivial)
instance:Df B 1 "_law_blanked" (e? B.G yf):=fm U Y.f.q156 U (by unfold CZ;trivial)
instance:Df B 1 "_law_phrases" (e? B.G wG):=fm U Y.f.q157 U (by unfold Da;trivial)
instance:Df B 2 "_law_read" (e? B.G Dc):=fm U Y.f.q158 U (by unfold GY;trivial)
instance:Df B 2 "_law_row" (e? B.G BN):=fm U Y.f.q159 U (by unfold IL;trivial)
def UQ:V' B (H? (top 171)) "law" (top 171) (vm (top 171)) 22 O5:=by
 unfold O5;refine Mq ?_ ?_
 all_goals trivial
end
end K42x
namespace K42x
open PySem L2 L3 L4
def PB(K:au):Sp:=λd H Q z=>∃(a:Addr) (b:List Int),d=[.ref a]/\fx K H a (b.map V.int)/\b.length<=63/\∀c,Q (.I γ) c
theorem Kt{G:Bg}{H:Hp}:∀a:List Int,b? G H (a.map D.int) (a.map V.int)
 |[]=>u7
 |n::a=>vg (wN n) (Kt a)
def Xk{G:Bg}:∀c H Q E,PB G.K c H Q E->e? G XI c H Q E:=λc H Q E h=>by obtain⟨a,b,rfl,i,f,k⟩:=h;refine⟨H,[.Q (b.map D.int)],.I γ,uL.refl _,vg (by unfold L4.eg;exact⟨a,_,U,i,Kt b⟩) u7,aca b f,λv e d z z z z r=>?_⟩;unfold L4.eg at r;subst r;exact k d
section
variable{K:au}{x m q:Str}{st:Stmt}{f C:Addr}{oc:ab}{od:Option Addr}{kV doc pm:ab}{an:Option Addr}{cdv ct:ab}{osl:Array (Option ab)}
def UR(lk:K.lookup f=Z ⟨oc,od,.func (eX x q (xU st) (vm st) (uS st) .none kV doc pm an cdv ct),osl⟩)(b:ib K cdv q=γ)(c:dY K (.ref f)=γ):∃a,V? K x q st f a:=⟨_,⟨_,_,_,_,_,_,_,_,_,U,lk,b⟩,c⟩
def gd_mk(h:iZ K bg x=Z (Z (.ref f)))(lk:K.lookup f=Z ⟨oc,od,.func (eX x x (xU st) (vm st) (uS st) .none kV doc pm an cdv ct),osl⟩)(a:ib K cdv x=γ)(b:dY K (.ref f)=γ):GD K x st:=⟨f,(UR lk a b).imp λz F=>⟨h,F⟩⟩
def gm_mk(h:cP K (.ref C) m=Z (Z (.ref f)))(b:j4 K (.ref f)=γ)(lk:K.lookup f=Z ⟨oc,od,.func (eX m q (xU st) (vm st) (uS st) .none kV doc pm an cdv ct),osl⟩)(a:ib K cdv q=γ)(c:dY K (.ref f)=γ):GM K C m q st:=⟨f,(UR lk a c).imp λz F=>⟨h,b,F⟩⟩
end
theorem all_mk{l:ic}{w:aA}{K:au}{h:Heap}{p:Str->Option ab}{J:Addr}(X:K.In h)(I:h.Ns bg p)(hfa:p "law" = Z (.ref J)){q r t u x y z A C E b d i j m o:Addr}(F:Fx K q r t u x y z A C E b d i j m o):
  ∃H:cg,(∀(s:ae) (v:ab),ie s H ⟨[v],[]⟩ [("_law_script", v)])/\∀b':Heap,K.In b'->b'.Ns bg p->y4 l.prog w K p b' B? 23 J H ["_law_script"] (PB K):=by
 have pw:∃B:Bg,B.K=K/\B.ca 0=q/\B.ca 1=r/\B.ca 2=t/\B.ca 3=u/\B.ca 4=x/\B.ca 5=y/\B.ca 6=z/\B.ca 7=A/\B.ca 8=C/\B.ca 9=E/\B.ca 10=b/\B.ca 11=d/\B.ca 12=i/\B.ca 13=j/\B.ca 14=m/\B.ca 15=o/\B.hs=tupleKeyHash (uP l.prog w):=⟨⟨K,λc=>[q,r,t,u,x,y,z,A,C,E,b,d,i,j,m,o].getD c 0,_⟩,U,U,U,U,U,U,U,U,U,U,U,U,U,U,U,U,U,U⟩;obtain⟨B,rfl,rfl,rfl,rfl,rfl,rfl,rfl,rfl,rfl,rfl,rfl,rfl,rfl,rfl,rfl,rfl,rfl,M⟩:=pw;have AT:∀b',Yx ⟨l.prog,w,p,b',B⟩:=λb'=>⟨⟨h,X,I⟩,M,F⟩;obtain⟨f,H,a,FF⟩:=F.q160;have e:=hfa.symm.t (j3 X I a);cases e;obtain⟨S,T,kV,doc,pm,P,cdv,Q,osl,rfl,lk,hcd⟩:=FF.ex;exact⟨_,λs v=>.of_eq U,λb' _ _=>(Si U U U FF (Bx (N:=H? (top 171)) (ps:=["_law_script"]) (np:=1) (n:=9) (by kernel_rfl)).1 ((@UQ _ (AT b')).ok U _)).imp (Xk (G:=B))⟩
def walk{l:ic}{q:aJ}{loose:aB}{XP:(Str->Option ab)->Heap->Prop}{YP:aA->Heap->Prop}{d:DefRec}{K:Params->au}(j:l.most=Z 63)(hdf:d.params.defaults=[])
  (hY:∀(w:aA) (h:Heap),YP w h->(K w.params).In h)
  (F:∀(w:aA) (b:Str->Option ab) (c:Addr) (h:Heap),(K w.params).In h->h.Ns bg b->b d.name=Z (.ref c)->
   ∃e:cg,(∀(s:ae) (u:ab),ie s e ⟨[u],[]⟩ [("_law_script", u)])/\∀b':Heap,(K w.params).In b'->b'.Ns bg b->y4 l.prog w (K w.params) b b' B? 23 c e ["_law_script"] (PB (K w.params))):
  W.WalkO q loose XP YP l.row.toRowW d [] (λf o=>mK f o):=
 L2.Vn (n:=63) (k:=23) (x:="_law_script") (CX:=λv=>B?) (sp:=λw=>PB (K w.params)) j (by decide) hdf ⟨U,by decide,by decide⟩ hY F (λv v a m i v hS=>⟨a,m,U,hS,i,λv=>U⟩) λv v v v v z=>z
end K42x
set_option maxHeartbeats 0
open PySem PySem.W PyProof.Rows
set_option tactic.hygienic true
theorem PySem.Challenge.cw_tellworld_k42_verbs_and_forms_holds : PySem.Challenge.rw_tellworld_k42_verbs_and_forms.Holds := by
 refine hd ?_
 k_fill
 refine K42x.walk (l:=PySem.Challenge.rw_tellworld_k42_verbs_and_forms) rfl rfl (λw h Y=>Y) ?F
 case F=>
  intro w mg fa h KX G hmg;refine' K42x.all_mk KX G hmg ?Q
  case Q=>
   constructor
   all_goals as_aux_lemma=>
    constructor
    all_goals first
    |k_is
    |kernel_rfl
    |exact⟨⟨⟨by k_is,by k_is,by k_is,by k_is⟩,by k_is,by k_is,by k_is,by k_is⟩,by k_is,by k_is,by kernel_rfl⟩
    |exact⟨_,by k_is⟩
    |exact K42x.gd_mk (by k_is) (by k_is) (by k_is) (by k_is)
    |exact K42x.gm_mk (by k_is) (by k_is) (by k_is) (by k_is) (by k_is)
    |exact⟨_,_,_,_,by k_is,by k_is,by rfl,by rfl,by simp,by repeat' first|exact .nil|exact .cons rfl .nil|refine .cons rfl ?_⟩
    |exact⟨_,_,_,_,[_],_,by k_is,by k_is,⟨⟨_,_,_,_,_,_,_,_,_,rfl,by k_is,by k_is⟩,by k_is⟩,by k_is,by rfl,.cons (by first|rfl|exact⟨_,rfl⟩) .nil⟩
    |exact⟨_,_,_,_,[_,_,_],_,by k_is,by k_is,⟨⟨_,_,_,_,_,_,_,_,_,rfl,by k_is,by k_is⟩,by k_is⟩,by k_is,by rfl,.cons (by first|rfl|exact⟨_,rfl⟩) (.cons (by first|rfl|exact⟨_,rfl⟩) (.cons (by first|rfl|exact⟨_,rfl⟩) .nil))⟩
end
