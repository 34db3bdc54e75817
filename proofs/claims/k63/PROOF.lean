import PyProof.Rows.All
import Open.Pieces
import OpenK.KLine
import PySem.Challenge.RW_tellworld_k63_folds_and_lifted
import Wide.All
import OpenK.AllK
import Wide.FinOn
import PyProof.EqAt
import PyProof.EqKinds
import PyProof.TupleCall
import PyProof.StrWalks
import PyProof.ConsumeWalk
import PyProof.NeKinds
import PyProof.Rows.SetFrom
import KE.KIsAll
import PyProof.WalksMore
import PyProof.TupleKey
import PyProof.DictWalks
import PyProof.Rows.ZipGen
import KE.KDictLaws
import PyProof.DictItems
import KE.KSortTup
import PyProof.TupleOfSeq
import PyProof.Rows.SortStr
import PyProof.Rows.StrInSeq3
import PyProof.TupleIter
import KE.KDictOf
import PyProof.CollectWalk
import PyProof.Rows.SeqMore
import PyProof.IsiH_tuple
import PyProof.AttrMiss
import PyProof.Rows.Tup
import PyProof.WalksS
import PyProof.DictRoadsH
import PyProof.EnumIter
import PyProof.EnumFor
import PyProof.EnumMake
import PyProof.EnumStmt
set_option genSizeOf false
local macro_rules (kind:=Lean.Parser.Command.declaration)|s=>do
 if s.getPos?.isNone||s[1][1][0].getId.getRoot== `PySem then Lean.Macro.throwUnsupported
 let s:=s.rewriteBottomUp (·.setInfo .none)
 if s[1].getKind∈[``Lean.Parser.Command.definition,``Lean.Parser.Command.abbrev,``Lean.Parser.Command.instance]&&s[0][4].isNone then
  return s.setArg 0 (s[0].setArg 4 (Lean.mkNullNode #[Lean.Syntax.node .none ``Lean.Parser.Command.noncomputable #[Lean.mkAtom "noncomputable"]]))
 return s
set_option compiler.extract_closed false
noncomputable section
open Option renaming some->Z,none->J
open Bool renaming true->γ,false->δ
def O{b:Sort _}{a:b}:a=a:=rfl
open List renaming length_map->aq,mem_cons_of_mem->aQ,getElem?_eq_getElem->aY,mem_cons_self->aN,length_append->aR,mem_map->av,map_cons->aA,length_cons->aS,mem_singleton->aW,mem_cons->aK,all_eq_true->ba,mem_append->bb,mem_append_right->bE,mem_filter->bc,size_toArray->bw,map_map->aV,getElem?_map->bD,getElem?_eq_some_iff->bX,mem_append_left->bL,mem_map_of_mem->bP,getD_eq_getElem?_getD->cD,map_append->bK,mem_of_getElem?->cq,append_nil->bR,nodup_append->bZ,append_assoc->cc,not_mem_nil->b0,range->bz,getElem?_set->cf,length_singleton->cR,length_filter_le->cU,length_take->cg,length_replicate->dc,nil_append->cv,mem_range->cw,length_range->dj,getElem?_append_right->fL,getElem?_append_left->fM,nodup_cons->dm,find?_cons->dE,any_eq_true->dS,filter_sublist->fi,getElem?_drop->fo,zip_cons_cons->fq,lookup_cons->eK,mem_flatMap->eM,map_congr_left->fP,getElem?_eq_none->gx,getElem_mem->fz,map_nil->dH,flatMap_cons->fV,getElem?_set_self->ir,zipWith_cons_cons->iw,lookup->dJ,length->dM,filter_cons->fW,length_nil->fZ,length_set->f6,mergeSort_perm->iy,getElem?_replicate->i8,length_eq_zero_iff->i9,getElem?_cons_succ->ja,pairwise_mergeSort->jb,mem_filterMap->iz,any_cons->gb,getElem?_toArray->je,pairwise_map->iC,getElem?_set_ne->ji,mem_of_mem_take->jl,map_id->fF,zipWith->gh,drop_eq_getElem_cons->kl,filterMap_cons->jm,filter_eq_self->jn,length_pos_iff->jo,all_cons->gQ,length_zip->iF,foldl_cons->iG,filter_cons_of_pos->kq,take_add_one->jt,take_of_length_le->ku,map->eA,nodup_nil->iI,length_pos_of_mem->kx,filter_eq_nil_iff->ky,length_drop->jx,zip_map'->iJ,mem_iff_getElem->kA,of_mem_zip->jA,length_zipWith->kC,getElem_of_mem->kE,replicate->jE,ext_getElem?->kK,take_sublist->kM,foldl_append->kQ,length_erase_of_mem->mT,getElem_inj->kW,getElem?_cons_zero->mZ,filter_cons_of_neg->m5,cons_append->kZ,drop_eq_nil_of_le->m8,zip_append->lg,contains_iff_mem->nv,mem_of_mem_drop->nG,mem_erase_of_ne->nH,length_eraseIdx->nI,getElem?_range->nU,map_drop->lI,map_take->lK,contains_cons->n8,map_filterMap->oh,find?_eq_none->om,filter_append->oq,any_eq_false->ou,range'_succ->o7,drop_nil->pU,all_map->qb,rec->qz
open PySem renaming wpAny_bind->af,Value->ab,Shared->ae,wpAny_pure->ar,wpAny->ag,mainGlobals->aZ,starEach->aC,sizeLine->aI,Program->aF,World->ay,wpAny_holding->bS,Around->aM,compareOp->bA,sizeLine_eq->bN,codeAny_builtin->cF,wpAny_setState_of->di,Spec->rA,wpAny_truthy_bool->dB,wpAny_Call_Name_kw->dQ,wpAny_mono->b8,sysModules->cj,FuncData->bU,plainId_quiet->dF,SetTable->bV,bootBuiltins->dG,strKind->dX,backTo->bI,wpAny_pyIter_list->fQ,putAt->dN,codeAny->b9,wpAny_passesOwn->fY,keywordEach->d7,wpAny_Call_method->gy,wpAny_newObj_type->gA,assignEach->dO,attributeBase->fC,mem_of_lookup->ix,Builtin->ck,swapsWith->dq,binaryOp->cO,wpAny_call_entry->gE,call_meetsIn->fD,letOwnedTupleGo->gG,wpAny_specialOf->gH,behindInMarks->f9,builtinLookup_eq_fast->jf,foldedSetIterable->iA,ofAClassStatement->iB,carriedByValue->gL,wpAny_setField->gM,wpAny_rule->eO,tupleKind_room_in1->jr,codeAny_mono->gS,NameKind->d9,wpAny_typeOf->gU,wpAny_dictEntries->jw,IsTupleKey->gn,wpAny_forIn_list->jy,GenState->eU,wpAny_execs_nil->jz,typeLookup_type->jD,wpAny_pyIter_tuple->kF,wpAny_seqItems->jF,wpAny_pyHash_tuple->kJ,isSubtype_type->jH,Scope->cJ,wpAny_storeSet_of->kR,Paired->gq,filterMap_getElem?_range->mU,meetsH_dict_get_default->mY,wpAny_askSetting->kX,wpAny_isInstance->kY,Keyword->fG,wpAny_updateSeq->lh,size_of_entries->lr,wpAny_isTrue_Compare1->ni,wpAny_eqIsQuiet_tuple->nu,wpAny_notOrdered_dict->nz,codeAny_call_builtin->nF,typeIs_none->jL,wpAny_newList->lG,Result->fH,wpAny_call->jN,call_meets->jO,wpAny_getItem_heap->n6,Within->lL,BindsTo->hE,slot_list_getitem->oA,wpAny_pyIter_slot->oF,fits_of_scanBound->oG,wpAny_setEpoch_of->oH,atKey_none_of_get->oK,wpAny_pyIter_enum->oM,wpAny_pyHash_str->oN,wpAny_execs_cons->oO,PassesOwn->jP,noFill_tuple_add->oQ,entryFor_of_tree->oY,codeAny_of_tree->pb,wpAny_dictEpoch->pq,wpAny_Name->l8,PlainAttrs->ma,meets_dict_get->pB,call->mf,Moved->fI,wpAny_runValue->pC,boot_len->pD,wpAny_newTuple->pF,entryFor_alias->pI,keys_map_putAt->pJ,KeyKind->pK,intBits_le_64->pL,seq_tuple_add->pM,evalPart_none->pN,call_list_seq->pO,wpAny_standAt->pP,signature?_of->pW,WalksS->iX
open PySem.Heap renaming get?_push_of_some->aJ,get?_push_size->bg,lt_size->aL,get?_update_self->eG,size_push->cN,SameBut->cG,get?_update_other->iu
open Bool renaming and_eq_true->aX,false_ne_true->bx,eq_iff_iff->cX,not_eq_true'->eJ,false_eq_true->fj,eq_false_iff->ju,or_eq_true->jC,or_eq_false_iff->nE,and_false->pA,not_true->pS,rec->mm
open Nat renaming ne_of_lt->aT,le_refl->aO,lt_of_lt_of_le->bY,le_trans->bM,le_add_right->cW,lt_succ_of_lt->dh,zero_le->b7,lt_succ_self->dD,lt_irrefl->dW,ne_of_gt->dY,le_of_ble_eq_true->jh,lt_of_le_of_lt->js,le_of_lt->gR,ble_eq->gp,min_self->iK,le_succ->iO,zero_add->jK,ble->gr,add_right_comm->nW,le_of_succ_le->oJ,le_of_not_lt->oU,beq->iU,le_of_eq->pY,lt_trans->pZ,pow_succ->p9,sub_self->qa,sub_zero->qe,mod_lt->qv
open PySem.W renaming Frag->au,kia_one->cH,emptyDict->dZ,findIn->cP,kitOne->du,instObj->eS,keepIn->d8,kitx_dict->gV,kitx_list->iN,fnOf->eW,codeIn->gY,OpenLaw->gZ,plainGet_of->lA,callWith_K0->lC,plainGet->jM,kitx_tuple->lM,callWith_K->lW,cellsFrom_some->oP,methodObj->l5,hasDictIn->l6,methodCall_KW->o9,mg_of->iW,lookIn->jQ,looks_findIn->pz,kas_sort->jR,makes_of->mh,takerIn->mi,makesIn->mj,kas_ask->jS,nsIn->iY,plainOver->qh,make_core->qj,specialIn->qk,kitx_none->ql,kitx_bool->qm,isFn->jT
open PyProof.Rows.F renaming plain_set_update_loop->cE,entry_set_update_loop->eE
open PySem.Around renaming under_plainId->cK,under->lS
open Array renaming length_toList->cM,getElem?_toList->kz,perm_iff_toList_perm->mO,size_eq_one_iff->ny,forIn_toList->oa,toList_push->oE,toList->pX,map->qy
open Option.some renaming inj->cu,injEq->tL
open PySem.Calls renaming spliced_cons->dg,callWith_builtin->fN,spliced_nil->eI,evalArgs_plain->fO,Name_function_global->mK,call_function_entry->mQ
open PySem.Heap.SameBut renaming update->dA,refl->tP
open PySem.SetTable renaming below->cY,insertAt->fT,grown->fA,Probe->iH,has->iM,fresh->jG,bits->jJ,runEnd->lj,fill->lD,put->lX,gaveWay->oW,tooFull->oX,slot->pQ,fits->pT
open PySem.SetTable.probe renaming go->dR
open Prod renaming snd->bO,fst->eB,ext->qA
open PySem.F renaming slot_dict_get->dU,plainAttrs_dict->gz,entry_dict_get->gB,called_set->fE,sub_list_frozenset->jj,slot_NoneType_hash->jk,slot_tuple_getattribute->km,slot_list_extend->jq,plainAttrs_list->jv,type_dict_get->jB,slot_list_append->kH,sub_list_set->jI,args_dict_get_2->kO,args_dict_get_3->kP,slot_dict_setdefault->m9,args_list_extend_2->nD,entry_list_extend->nQ,slot_dict_getitem->nS,args_tuple_add_2->n5,type_list_append->oe,type_list_extend->og,slot_dict_update->oj,entry_tuple_add->ox,plain_list_iadd->oI,slot_tuple_add->oR,plain_set_new->pe,slot_set_iter->pj
open PySem.Obj renaming data_mapFields->fw,mapSeq->dP,mapFields->gf,isFreed_of_fields->jg,putSet->gX,cls_mapFields->kT,data_mapDictKeys->nJ,isFreed_of_dict->nV,data_mapDict->oZ
open PySem.Builtin.List renaming listTooLong->ip,listExtendWith->mI,listLengthHint->mJ,listSameRef->mV
open Int renaming toNat_natCast->fR,eq_ofNat_of_zero_le->jd,fdiv_eq_ediv_of_nonneg->mM,le_refl->iP,natCast_nonneg->nZ
open PySem.SetTable.below renaming go->fS
open Classical renaming propDecidable->iq,byContradiction->mR
open False renaming elim->cZ
open Option renaming map_some->fX,map_eq_some_iff->m7,getD_none->oT,getD_some->oV
open PySem.Builtin renaming bitAnd->f7
open PySem.Builtin.Dict renaming updateFrom->jc,addKeywords->mW,selfAndRest->mX,pairItems->ng,mergeDict->nh,readDirectly->rS,showsAll->sE,merge->tG
open Ne renaming symm->cI
open PySem.Value renaming isStrOf->gO,isInt->qg
open List.Perm renaming eq_of_pairwise->ko,refl->pE
open Sum.inr renaming inj->gj
open PySem.Moved renaming trans->gm
open PyProof.Rows renaming StrsAre->kB,AllBare->eV,subscriptTail_builtinR->m6,boot_isinstance->lp,listUpdate_at->lF,IsTup->eX,seqEpoch_at->l7,get?_update_seq->pf,entry_list_sort->ph,IntsAre->iV,Subscript_->l9,slot_list_sort->pG,args_list_sort->pH,lt_str->tu
open PySem.SeqAt.EqAt renaming str_str->kG,of_refs->kI,same->la,none_int->nL,none_str->nM,int_none->nO,str_none->nP,int_str->nX,str_int->nY,tuple_none->sr,tuple_bool->su,tuple_list->sv,list_tuple->sy,none_tuple->sA,bool_tuple->sC,none_bool->sG,bool_none->sH,bool_bool->sI,tuple_int->sJ,tuple_str->sL,list_none->sM,list_bool->sN,none_list->sO,bool_list->sP,int_tuple->sQ,str_tuple->sR,bool_int->sS,bool_str->sT,int_bool->sU,str_bool->sV,list_int->sW,list_str->sX,int_list->sY,str_list->sZ,int_int->tD
open PySem.Walks renaming list->gW,tuple->qr
open List.Sublist renaming refl->kU,nodup->tI,map->tR
open PySem.AutoSeq1 renaming wpAny_loadPart'->mS
open PySem.SeqAt renaming EqAt->iQ,in_listAt->o8
open Std.Legacy.Range renaming forIn_eq_forIn_range'->rD,size->sF
open LawfulBEq renaming eq_of_beq->iR
open PySem.Paired renaming length->lu,snoc->qp
open PySem.Shared renaming TypeIs->lE
open PySem.Code renaming isFrame->lT,frames->qo
open Nat.succ renaming inj->lY
open PySem.Str renaming ofString->lZ
open PySem.Builtin.Frozenset renaming updateFrom->rE,newClass->rG,sizeOf->sk,slot0->sq
open PySem.PassesOwn renaming never->px
open PySem.SeqAt.RcNeAt renaming lists_lengths->rF,tuples->tf,lists->tE
open PySem.EqNone renaming eq_none_none->rH,eq_none_bool->rJ,eq_bool_none->rK,ne_none_none->rN,ne_none_bool->rO,ne_bool_none->rP,eq_none_int->rT,eq_none_str->rV,eq_int_none->rW,eq_str_none->rY,ne_none_int->r6,ne_none_str->r9,ne_int_none->sd,ne_str_none->sf
open PySem.EqMixed renaming eq_bool_str->rL,eq_str_bool->rM,ne_bool_str->rQ,ne_str_bool->rR,eq_int_str->rX,eq_str_int->rZ,ne_int_str->se,ne_str_int->sg
open PySem.SeqAt.RcAt renaming lists_lengths->sj,tuples->tN,lists->tQ
open PySem.Pv renaming boot_tuple->pV,boot_list->qc,boot_set->qt
open PySem.Builtin.Range renaming rangeSize->sm
open PySem.pickOrder renaming go->qd
open Prod.mk renaming inj->qf
open PySem.Heap.IsSliceOf renaming new->tw
open PySem.W.WShape renaming has->qu
open PySem.Within renaming cons->tJ
open PyProof.Rows.IsTup renaming new->qw
open PySem.Heap.DictOf renaming new->tS
def ai:=@if_neg
def aj:=@if_pos
def ao:=@absurd
def bj:=@decide_eq_false
def bf:=@decide_eq_true
def bF:=@of_decide_eq_true
def bQ:=@decide_eq_true_eq
def bp:=@congrArg
def Eq.t:=@Eq.trans
def Iff.t:=@Iff.trans
def List.Perm.t:=@List.Perm.trans
def PySem.Heap.SameBut.t:=@PySem.Heap.SameBut.trans
def PySem.Moved.t:=@PySem.Moved.trans
abbrev cB:=List (PySem.Addr×PySem.Obj)
abbrev aH:=List PySem.Str
set_option Elab.async false
set_option linter.all false
namespace L5
open PySem PySem.W
noncomputable def D'(l:List Obj):Nat->List Addr->List Obj:=
 @qz Obj (λ_=>Nat->List Addr->List Obj) (λ_ _=>[])
  (λo _ b i as=>@qz Addr (λ_=>List Obj) [] (λa r _=>@mm (λ_=>List Obj) (b (Nat.succ i) as) (o::b (Nat.succ i) r) (iU a i)) as) l
def P5(i:Nat)(as:List Addr):D' [] i as=[]:=rfl
def TB(o:Obj)(l:List Obj)(i:Nat)(r:List Addr):D' (o::l) i (i::r)=o::D' l (i+1) r:=by show @mm (λ_=>List Obj) _ _ (iU i i)=_;rw[Nat.beq_refl];rfl
def TC(o:Obj)(l:List Obj)(i a:Nat)(r:List Addr)(h:a≠i):D' (o::l) i (a::r)=D' l (i+1) (a::r):=by
 show @mm (λ_=>List Obj) _ _ (iU a i)=_;have:iU a i=δ:=by
  cases q:iU a i with
  |false=>rfl
  |true=>exact ao (Nat.eq_of_beq_eq_true q) h
 rw[this];rfl
theorem J0:∀(l:List Obj) (i:Nat) (as:List Addr),(D' l i as).length=as.length->∀j (c:j<as.length),∃b,as[j]=i+b/\l[b]?=(D' l i as)[j]?
 |[],i,as,h,j,c=>by rw[P5]at h;simp at h;omega
 |o::l,i,[],h,j,c=>by simp at c
 |o::l,i,a::r,h,j,c=>by
  by_cases q:a=i
  .subst q;rw[TB]at h ⊢;cases j with
   |zero=>exact⟨0,O,O⟩
   |succ j=>obtain⟨b,d,e⟩:=J0 l (a+1) r (by simpa using h) j (by simpa using c);exact⟨b+1,by rw[List.getElem_cons_succ,d];exact nW a 1 b,by simpa using e⟩
  .rw[TC _ _ _ _ _ q]at h ⊢;obtain⟨b,d,e⟩:=J0 l (i+1) (a::r) h j c;exact⟨b+1,by rw[d];exact nW i 1 b,by simpa using e⟩
def live(o:Obj):Bool:=match o with|⟨_,_,.freed,_⟩=>δ|_=>γ
def TF{h:Heap}{as:List Addr}{K:Frag}(e:as=K.map (·.1))(x:(D' h.objs.toList 0 as,K.all λp=>live p.2)=(K.map (·.2),γ)):K.In h:=by
 obtain⟨i,r⟩:=qf x;refine Frag.in_of e (kK λj=>?_);rw[bD,bD];by_cases a:j<as.length
 .have q:(D' h.objs.toList 0 as).length=as.length:=by rw[i,e,aq,aq]
  obtain⟨b,l,m⟩:=J0 _ _ _ q j a;have f:j<K.length:=by rw[e,aq]at a;exact a
  rw[aY a,aY f,fX,fX,l,jK];have o:h.objs[b]?=Z (K[j].2):=by rw[<-kz,m,i,bD,aY f];rfl
  have lv:live K[j].2=γ:=ba.1 r _ (fz f);refine bp Z ?_;unfold Heap.get?;rw[o];revert lv;cases K[j].2 with
  |mk c d data t=>cases data<;>intro lv<;>first|rfl|cases lv
 .rw[gx (by omega),gx (by rw[e,aq]at a;omega)];rfl
noncomputable def aai(K:Params->Frag) (as:List Addr) (e:∀P,as=(K P).map (·.1)):Hook:=
 ⟨List Obj×Bool,λs=>(D' s.heap.objs.toList 0 as,γ),λw=>((K w.params).map (·.2),(K w.params).all λp=>live p.2),InK K,λw s x=>TF (e w.params) (by
  obtain⟨a,b⟩:=qf x;rw[a,<- b]),InK.keeps⟩
end L5
section
open PySem PySem.W PyProof.Rows
local macro_rules|`(tactic|o_head ($f:ident $k $as $e))=>`(tactic|o_head ((L5.aai $k $as (fun _=>by kernel_rfl)):W.Hook))
local macro_rules|`(command|#where)=>do
 let mut r:=#[]
 for n in [43:1675] do
  let x:=Lean.mkIdent (.mkSimple s!"tw{((Lean.Name.mkSimple "hd").str s!"o_{n}").hash}")
  r:=r.push ((<-`(command|noncomputable def $x:ident:=0)).raw.rewriteBottomUp (·.setInfo .none))
 return Lean.mkNullNode r
noncomputable section
namespace PySem.W.Fast
def tw16704068925610530037:=0
def tw14019881755177166336:=0
def tw15645314262156773920:=0
def tw10843986835698864096:=0
def tw7118054607924466081:=0
def tw8345182588942859713:=0
def tw9471975957513084386:=0
def tw60299001472515714:=0
def tw8479069092035166179:=0
def tw4738809144493168741:=0
def tw16288130148447953894:=0
def tw12428158363243832775:=0
def tw10374632558016547081:=0
def tw951994091122078441:=0
def tw938635154573522699:=0
def tw8726500145642417389:=0
def tw16828129974981846989:=0
def tw7774113678449685934:=0
def tw10203300007123444082:=0
def tw861502493610598483:=0
def tw785687812312579603:=0
def tw55536753830339475:=0
def tw10674973256528402420:=0
def tw12304906562562347733:=0
def tw8787369257342119190:=0
def tw15269037066893585270:=0
def tw8917917961894373751:=0
def tw12433822493148893528:=0
def tw13084661642996705785:=0
def tw15868113528992853466:=0
def tw2706584449700448635:=0
def tw13229313578723083676:=0
def tw7816700072542752220:=0
def tw5114918623987374716:=0
def tw1745904855532632988:=0
def tw329941283463616030:=0
def tw10283138395194639038:=0
def tw14192706110295867071:=0
def tw13812948216770415551:=0
def tw130141467980371695:=0
def tw1619618353620158508:=0
def tw6162503120301977900:=0
def tw3030784366723954130:=0
def tw12264902939531455360:=0
def tw9794633275854264654:=0
def tw8997383693586321770:=0
def tw13347621489011750686:=0
def tw12948654167985675701:=0
def tw14765400516757040795:=0
def tw4442916322319127334:=0
def tw1557068044175049091:=0
def tw7990135213862412714:=0
#where
end PySem.W.Fast
end
set_option maxRecDepth 100000 in
set_option maxHeartbeats 0 in
open_top hd for PySem.Challenge.rw_tellworld_k63_folds_and_lifted
end
set_option maxRecDepth 100000
namespace L2
open PySem PySem.Spec PyProof.Rows
abbrev dt:=Sum Int Str
def GL:dt->ab->Bool
 |.inl k,v=>qg k v
 |.inr x,v=>gO x v
def keyH(w:ay):dt->Int
 |.inl k=>hashInt k
 |.inr x=>hashStr w x
def vh:∀{k:dt} {v:ab},GL k v=γ->(∃i t,k=Sum.inl i/\v=Value.int i t)\/(∃x t,k=Sum.inr x/\v=Value.str x t)
 |.inl i,v,h=>by obtain⟨t,e⟩:=Value.isInt_shape (k:=i) (v:=v) h;exact .inl ⟨i,t,O,e⟩
 |.inr x,v,h=>by obtain⟨t,e⟩:=Value.isStrOf_shape (x:=x) (v:=v) h;exact .inr ⟨x,t,O,e⟩
def OL(i:Int)(t:Tok):GL (.inl i) (.int i t)=γ:=by simp[GL,qg]
def OM(x:Str)(t:Tok):GL (.inr x) (.str x t)=γ:=by simp[GL,gO]
def Ws(a b:Int):decide ((Sum.inl a:dt)=Sum.inl b)=(a==b):=by
 by_cases e:a=b
 .subst e;simp
 .have h:¬(Sum.inl a:dt)=Sum.inl b:=λq=>e (Sum.inl.inj q);rw[bj h];exact(beq_eq_false_iff_ne.2 e).symm
def Wt(a b:Str):decide ((Sum.inr a:dt)=Sum.inr b)=decide (a=b):=by
 by_cases e:a=b
 .subst e;simp
 .have h:¬(Sum.inr a:dt)=Sum.inr b:=λq=>e (gj q);rw[bj h,bj e]
def Wu(a:Int)(b:Str):decide ((Sum.inl a:dt)=Sum.inr b)=δ:=bj (λq=>nomatch q)
def Wv(a:Str)(b:Int):decide ((Sum.inr a:dt)=Sum.inl b)=δ:=bj (λq=>nomatch q)
def ur(prog:aF)(w:ay):pK prog w dt where
 is:=GL
 hash:=keyH w
 inj:=λv a b ha hb=>by
  rcases vh ha with ⟨i,t,rfl,rfl⟩|⟨x,t,rfl,rfl⟩
  .rcases vh hb with ⟨j,u,rfl,e⟩|⟨y,u,rfl,e⟩
   .injection e with c _;rw[c]
   .exact nomatch e
  .rcases vh hb with ⟨j,u,rfl,e⟩|⟨y,u,rfl,e⟩
   .exact nomatch e
   .injection e with c _;rw[c]
 byValue:=λk v h=>by rcases vh h with ⟨i,t,rfl,rfl⟩|⟨x,t,rfl,rfl⟩<;>rfl
 pyHash:=λd h=>by
  rcases vh d with ⟨i,t,rfl,rfl⟩|⟨x,t,rfl,rfl⟩
  .exact wpAny_pyHash_int h
  .exact oN h
 eqBool:=λf d h=>by
  rcases vh f with ⟨i,t,rfl,rfl⟩|⟨x,t,rfl,rfl⟩
  .rcases vh d with ⟨j,u,rfl,rfl⟩|⟨y,u,rfl,rfl⟩
   .rw[Ws]at h;exact wpAny_eqBool_int h
   .rw[Wu]at h;exact nX i t y u _ _ _ _ h
  .rcases vh d with ⟨j,u,rfl,rfl⟩|⟨y,u,rfl,rfl⟩
   .rw[Wv]at h;exact nY x t j u _ _ _ _ h
   .rw[Wt]at h;exact wpAny_eqBool_str h
 «strs»:=λk x t v h=>by
  rcases vh h with ⟨i,u,rfl,e⟩|⟨y,u,rfl,e⟩
  .exact nomatch e
  .injection e with c _;subst c;cases v<;>rfl
def KZ(prog:aF)(w:ay)(i:Int)(t:Tok):(ur prog w).is (.inl i) (.int i t)=γ:=OL i t
def K0(prog:aF)(w:ay)(x:Str)(t:Tok):(ur prog w).is (.inr x) (.str x t)=γ:=OM x t
inductive V where
 |I|O (b:Bool)|int (i:Int)|str (x:Str)|X (b:Array UInt8)|flt (b:UInt64)|ref (a:Addr)|ty (n:String)
 deriving DecidableEq
abbrev bC:=List V
def df:V->ab->Prop
 |.I,u=>u=Value.none
 |.O b,u=>u=Value.bool b
 |.int i,u=>∃t,u=Value.int i t
 |.str x,u=>∃t,u=Value.str x t
 |.X b,u=>∃t,u=Value.bytes b t
 |.flt b,u=>∃t,u=Value.float b t
 |.ref a,u=>u=Value.ref a
 |.ty n,u=>u=Value.type n
abbrev c9:bC->List ab->Prop:=gq df
theorem c9.length(r:c9 xs a):xs.length=a.length:=lu r
theorem c9.get:∀{xs:bC} {a:List ab} {i:Nat} {x:V},c9 xs a->xs[i]?=Z x->∃u,a[i]?=Z u/\df x u
 |_,_,_,_,.nil,e=>by simp at e
 |_,_,0,_,.cons r _,e=>by simp at e;subst e;exact⟨_,O,r⟩
 |_,_,i+1,x,.cons _ t,e=>by obtain⟨u,b,c⟩:=c9.get (i:=i) (x:=x) t (by simpa using e);exact⟨u,by simpa using b,c⟩
theorem c9.append:∀{b c:bC} {a ws:List ab},c9 b a->c9 c ws->c9 (b++c) (a++ws)
 |_,_,_,_,.nil,s=>s
 |_,_,_,_,.cons r t,s=>.cons r (c9.append t s)
theorem c9.take:∀{xs:bC} {a:List ab} (n:Nat),c9 xs a->c9 (xs.take n) (a.take n)
 |_,_,0,_=>.nil
 |_,_,_+1,.nil=>.nil
 |_,_,n+1,.cons r t=>.cons r (c9.take n t)
theorem c9.drop:∀{b:bC} {a:List ab} (n:Nat),c9 b a->c9 (b.drop n) (a.drop n)
 |_,_,0,r=>r
 |_,_,_+1,.nil=>.nil
 |_,_,n+1,.cons _ t=>c9.drop n t
def BL:Option V->Option ab->Prop
 |some v,Z u=>df v u
 |none,J=>True
 |_,_=>False
def KV{a:Type}:List (a×V)->List (a×ab)->Prop:=gq λ(p:a×V) (q:a×ab)=>p.1=q.1/\df p.2 q.2
def kV:dt->V
 |.inl i=>.int i
 |.inr x=>.str x
inductive HO where
 |b3 (xs:bC)
 |c3 (xs:bC)
 |dK (kvs:List (dt×V))|dT (kvs:List (List dt×V))
 |set (S:Int->Bool) (n:Nat)
 |l? (C dx:Addr) (fs:List (Str×V))
 |gk (x:Addr)
 |xd (fs:List (Str×V))
 |met (f x:Addr)
 |rng (lo hi:Int)
 |mu (o:Obj) (u:HO)
 |tbl (ps:Array ab)
 |ext (φ:Heap->Prop)
abbrev Hp:=Addr->Option HO
def en(H:Hp)(a:Addr)(o:HO):Hp:=λb=>if b=a then Z o else H b
def uh:en H a o a=Z o:=by unfold en;rw[aj O]
def uj(h:b≠a):en H a o b=H b:=by unfold en;rw[ai h]
def aak{H:Hp}{a b:Addr}{o u:HO}(h:H a=Z o)(c:H b=Z u)(d:o≠u):a≠b:=by intro e;subst e;rw[h]at c;exact d (cu c)
def wI{H:Hp}{a b:Addr}{o:HO}(h:H a=Z o)(c:H b=J):a≠b:=by intro e;subst e;rw[h]at c;cases c
section
variable(P:aF)(w:ay)
def ee(H:Hp)(h:Heap)(a:Addr):HO->Prop
 |.b3 c=>c.length<=aI/\∃(b:List ab) (n:Nat),c9 c b/\h.get? a=Z { cls:=.type "list", data:=.seq b.toArray n }
 |.c3 c=>c.length<=aI/\∃b:List ab,c9 c b/\eX h a b.toArray/\∀o,h.get? a=Z o->o.dict=J
 |.dK kvs=>kvs.length<=aI/\(a==cj)=δ/\∃m,KV kvs m/\h.DictOf (ur P w) a m
 |.dT kvs=>kvs.length<=aI/\(a==cj)=δ/\∃c:List (List dt×Addr×ab),
   gq (λ(p:List dt×V) (q:List dt×Addr×ab)=>p.1=q.1/\H q.2.1=Z (.c3 (p.1.map kV))/\df p.2 q.2.2) kvs c/\
   ∃o i r,h.get? a=Z o/\o.ExactDict/\o.data=.dict i r/\i.toList=c.map (entryOfKey (tupleKind (ur P w)))/\(c.map (·.1)).Nodup
 |.set S n=>h.SetOf (intKind P w) a S n
 |.l? C d fs=>H d=Z (.gk a)/\fs.length<=1000/\d≠a/\h.get? a=Z (eS C d)/\
   ∃mA,h.Ns1 d mA/\(∀f,BL (fs.lookup f) (mA f))/\lL mA (fs.map (·.1))
 |.gk _=>∃o,h.get? a=Z o
 |.xd fs=>∃mA,h.Ns1 a mA/\∀f,BL (fs.lookup f) (mA f)
 |.rng lo y=>∃t u v,h.get? a=Z { cls:=.type "range", data:=.fields #[.int lo t,.int y u,.int 1 v] }
 |.mu o u=>h.get? a=Z o/\ee H h a u
 |.tbl z=>h.get? a=Z { cls:=.none,data:=.fields z }
 |.met f x=>h.get? a=Z (l5 (.ref f) (.ref x))
 |.ext e=>e h/\(∃o,h.get? a=Z o)/\∀j l:Heap,e j->(∀o,j.get? a=Z o->l.get? a=Z o)->e l
def q?(H:Hp)(h:Heap):Prop:=∀a o,H a=Z o->ee P w H h a o
end
section
variable{P:aF}{w:ay}{H H':Hp}{h h':Heap}{a:Addr}{o:HO}
theorem ee.lt(x:ee P w H h a o):a<h.objs.size:=by
 cases o with
 |b3 b=>obtain⟨_,_,_,_,e⟩:=x;exact aL e
 |c3 b=>obtain⟨_,_,_,p,_⟩:=x;exact p.lt
 |dK kvs=>obtain⟨_,_,_,_,o,_,_,e,_⟩:=x;exact aL e
 |dT kvs=>obtain⟨_,_,_,_,o,_,_,e,_⟩:=x;exact aL e
 |set S n=>obtain⟨o,_,_,_,e,_⟩:=x;exact aL e
 |l? C c fs=>obtain⟨_,_,_,e,_⟩:=x;exact aL e
 |gk y=>obtain⟨_,e⟩:=x;exact aL e
 |xd fs=>obtain⟨_,⟨_,_,_,e,_⟩,_⟩:=x;exact aL e
 |rng lo d=>obtain⟨_,_,_,e⟩:=x;exact aL e
 |mu i u=>obtain⟨e,_⟩:=x;exact aL e
 |tbl j=>exact aL (show h.get? a=Z _ from x)
 |met f y=>exact aL (show h.get? a=Z _ from x)
 |ext l=>obtain⟨_,⟨_,e⟩,_⟩:=x;exact aL e
theorem Paired.mapP{e i:Type}{F G:e->i->Prop}:∀{c:List e} {d:List i},gq F c d->(∀a b,F a b->G a b)->gq G c d
 |_,_,.nil,_=>.nil
 |_,_,.cons r t,f=>.cons (f _ _ r) (Paired.mapP t f)
def ee.T'(x:ee P w H h a o)(k:∀b u,(b=a\/H b=Z (.gk a))->h.get? b=Z u->h'.get? b=Z u)
  (G:∀b,H b=Z (.gk a)->H' b=Z (.gk a)) (I:∀b xs,H b=Z (.c3 xs)->H' b=Z (.c3 xs)):ee P w H' h' a o:=by
 induction o with
 |b3 xs=>obtain⟨z,m,n,r,e⟩:=x;exact⟨z,m,n,r,k _ _ (.inl O) e⟩
 |c3 xs=>obtain⟨z,m,r,⟨i,e,c⟩,f⟩:=x;exact⟨z,m,r,⟨i,k _ _ (.inl O) e,c⟩,λU B=>by rw[k _ _ (.inl O) e]at B;cases B;exact f _ e⟩
 |dK kvs=>obtain⟨z,y,Q,r,i,l,j,e,c⟩:=x;exact⟨z,y,Q,r,i,l,j,k _ _ (.inl O) e,c⟩
 |dT kvs=>obtain⟨z,y,xs,r,i,l,j,e,c⟩:=x;exact⟨z,y,xs,Paired.mapP r λp q z=>⟨z.1,I _ _ z.2.1,z.2.2⟩,i,l,j,k _ _ (.inl O) e,c⟩
 |set S n=>obtain⟨i,l,j,t,e,c⟩:=x;exact⟨i,l,j,t,k _ _ (.inl O) e,c⟩
 |l? C R fs=>obtain⟨d,z,N,e,mA,⟨A,l,j,F,c⟩,r⟩:=x;exact⟨G _ d,z,N,k _ _ (.inl O) e,mA,⟨A,l,j,k _ _ (.inr d) F,c⟩,r⟩
 |gk y=>obtain⟨i,e⟩:=x;exact⟨i,k _ _ (.inl O) e⟩
 |xd fs=>obtain⟨mA,⟨A,l,j,e,c⟩,r⟩:=x;exact⟨mA,⟨A,l,j,k _ _ (.inl O) e,c⟩,r⟩
 |rng lo T=>obtain⟨t,u,v,e⟩:=x;exact⟨t,u,v,k _ _ (.inl O) e⟩
 |mu i u M=>obtain⟨e,q⟩:=x;exact⟨k _ _ (.inl O) e,M q⟩
 |tbl E=>have e:h.get? a=Z { cls:=.none,data:=.fields E }:=x;show h'.get? a=Z { cls:=.none,data:=.fields E };exact k a _ (.inl O) e
 |met f y=>have e:h.get? a=Z (l5 (.ref f) (.ref y)):=x;show h'.get? a=Z (l5 (.ref f) (.ref y));exact k a _ (.inl O) e
 |ext W=>obtain⟨p,⟨o,e⟩,st⟩:=x;exact⟨st _ _ p λo q=>k _ _ (.inl O) q,⟨o,k _ _ (.inl O) e⟩,st⟩
theorem q?.lt(x:q? P w H h)(e:H a=Z o):a<h.objs.size:=(x a o e).lt
def q?.fresh(x:q? P w H h)(e:h.objs.size<=a):H a=J:=by
 cases q:H a with
 |none=>rfl
 |some u=>exact ao (bY (x.lt q) e) (dW _)
def q?.f5(x:q? P w H h)(k:∀b u,h.get? b=Z u->h'.get? b=Z u):q? P w H h':=λa o e=>
 (x a o e).T' (λb u _ q=>k b u q) (λ_ q=>q) λ_ _ q=>q
def q?.laid(x:q? P w H h)(k:∀b u,h.get? b=Z u->h'.get? b=Z u)(i:h.objs.size<=a)(new:ee P w (en H a o) h' a o):q? P w (en H a o) h':=λb u e=>by
 have f:=x.fresh i;by_cases d:b=a
 .subst d;rw[uh]at e;cases e;exact new
 .rw[uj d]at e;exact(x b u e).T' (λc v _ q=>k c v q) (λc q=>by rw[uj (wI q f)];exact q) λc j q=>by rw[uj (wI q f)];exact q
end
def Rd(H:Hp)(a:Addr)(u:HO):Prop:=H a=Z u\/∃o,H a=Z (.mu o u)
def Rd.ok(r:Rd H a u)(x:q? P w H h):ee P w H h a u:=by
 rcases r with r|⟨o,r⟩
 .exact x a u r
 .obtain⟨_,q⟩:=x a _ r;exact q
def Mut:Option HO->Prop
 |some (.b3 _)=>True
 |some (.dK _)=>True
 |some (.dT _)=>True
 |some (.set _ _)=>True
 |some (.l? _ _ _)=>True
 |some (.ext _)=>True
 |_=>False
section
variable{P:aF}{w:ay}{H:Hp}{h h':Heap}{x e:Addr}{o':HO}
def q?.B?(ok:q? P w H h)(f:Mut (H x))(j:e=x\/H e=Z (.gk x))(k:∀b u,b≠e->h.get? b=Z u->h'.get? b=Z u)(heo:∃u,h'.get? e=Z u)
  (new:ee P w (en H x o') h' x o'):q? P w (en H x o') h':=λb u q=>by
 have nown:∀c y,H c=Z (.gk y)->c≠x:=λc y r z=>by subst z;rw[r]at f;exact f
 have ntup:∀c i,H c=Z (.c3 i)->c≠x:=λc i r z=>by subst z;rw[r]at f;exact f
 by_cases a:b=x
 .subst a;rw[uh]at q;cases q;exact new
 .rw[uj a]at q;by_cases hbe:b=e
  .have l:H b=Z (.gk x):=by
    rcases j with z|z
    .exact ao (hbe.t z) a
    .rw[hbe];exact z
   rw[q]at l;cases l;obtain⟨v,m⟩:=heo;exact⟨v,by rw[hbe];exact m⟩
  .refine(ok b u q).T' (λc v d r=>k c v ?_ r) (λc r=>by rw[uj (nown c b r)];exact r) λc i r=>by rw[uj (ntup c i r)];exact r
   rcases d with rfl|d
   .exact hbe
   .rintro rfl;rcases j with z|z
    .exact nown c b d z
    .rw[d]at z;cases z;exact a O
end
structure Un(fs ex:List Addr)(H H':Hp)(h h':Heap):Prop where
 keep:∀b o,h.get? b=Z o->H b=J->b∉fs->b∉ex->h'.get? b=Z o
 slot:∀b o,h.get? b=Z o->H b=J->b∈fs->b∉ex->∃sl,h'.get? b=Z { o with slots:=sl }
 free:∀b o,h.get? b=Z o->H b=J->b∉ex->H' b=J
 there:∀b o,h.get? b=Z o->b∉ex->∃o',h'.get? b=Z o'
 A':∀b xs,H b=Z (.c3 xs)->H' b=Z (.c3 xs)
 Dw:∀b o u,H b=Z (.mu o u)->H' b=Z (.mu o u)
 K':∀b ps,H b=Z (.tbl ps)->∃more,H' b=Z (.tbl (ps++more))
section
variable{fs fs' ex ex':List Addr}{H H1 H2:Hp}{h h1 h2 h':Heap}{a x e:Addr}{o:HO}
def Un.any(u:Un fs ex H H1 h h1)(q:h.get? b=Z ob)(n:H b=J)(c:b∉ex):∃sl,h1.get? b=Z { ob with slots:=sl }:=by
 by_cases hb:b∈fs
 .exact u.slot b ob q n hb c
 .exact⟨ob.slots,u.keep b ob q n hb c⟩
def Un.f5(k:∀b u,h.get? b=Z u->h'.get? b=Z u):Un fs ex H H h h':=
 ⟨λb c q _ _ _=>k b c q,λb c q _ _ _=>⟨c.slots,k b c q⟩,λ_ _ _ n _=>n,λb c q _=>⟨c,k b c q⟩,λ_ _ q=>q,λ_ _ _ q=>q,λ_ d q=>⟨#[],by rw[q];simp⟩⟩
def Un.refl:Un fs ex H H h h:=Un.f5 λ_ _ q=>q
def Un.laid(k:∀b u,h.get? b=Z u->h'.get? b=Z u)(c:h.objs.size<=a)(hn:H a=J):Un fs ex H (en H a o) h h' where
 keep:=λb u q _ _ _=>k b u q
 slot:=λb u q _ _ _=>⟨u.slots,k b u q⟩
 free:=λb u q n _=>by rw[uj (aT (bY (aL q) c))];exact n
 there:=λb u q _=>⟨u,k b u q⟩
 A':=λb xs q=>by rw[uj (wI q hn)];exact q
 Dw:=λb u xs q=>by rw[uj (wI q hn)];exact q
 K':=λb ps q=>⟨#[],by rw[uj (wI q hn),q];simp⟩
def Un.B?(c:Mut (H x))(j:e=x\/H e=Z (.gk x))(k:∀b u,b≠e->h.get? b=Z u->h'.get? b=Z u)(heo:∃u,h'.get? e=Z u):Un fs ex H (en H x o) h h':=by
 have i:∀b,H b=J->b≠x:=λb n z=>by subst z;rw[n]at c;exact c
 have f:∀b,H b=J->b≠e:=λb n z=>by
  subst z;rcases j with r|r
  .exact i b n r
  .rw[n]at r;cases r
 have d:∀b u,H b=Z u->¬Mut (Z u)->b≠x:=λb u q l z=>by subst z;rw[q]at c;exact l c
 refine⟨λb u q n _ _=>k b u (f b n) q,λb u q n _ _=>⟨u.slots,k b u (f b n) q⟩,λb u q n _=>by rw[uj (i b n)];exact n,λb u q _=>?_,
  λb m q=>by rw[uj (d b _ q λz=>z)];exact q,λb u m q=>by rw[uj (d b _ q λz=>z)];exact q,λb p q=>⟨#[],by rw[uj (d b _ q λz=>z),q];simp⟩⟩
 by_cases hbe:b=e
 .subst hbe;exact heo
 .exact⟨u,k b u hbe q⟩
end
def trk(h:Heap)(H:Hp):List Addr:=(bz h.objs.size).filter λa=>(H a).isSome
def J1(h:Heap)(H:Hp):Heap:=W.hideAll h (trk h H)
def ON(h:Heap)(H:Hp):(J1 h H).objs.size=h.objs.size:=W.hideAll_size _ _
def P6{h:Heap}(e:h.get? b=Z o)(n:H b=J):(J1 h H).get? b=Z o:=
 W.hideAll_get _ e λa=>by have q:(H b).isSome=γ:=(bc.1 a).2;rw[n]at q;simp at q
def TH(e:(J1 h H).get? b=Z o):h.get? b=Z o/\H b=J:=by
 have a:h.get? b=Z o:=W.of_hideAll (trk h H) e;refine⟨a,?_⟩;cases q:H b with
 |none=>rfl
 |some x=>have c:b∈trk h H:=bc.2 ⟨cw.2 (aL a),by simp[q]⟩;have z:(J1 h H).get? b=J:=W.hideAll_none (trk h H) c;rw[z]at e;cases e
def TJ(g h:Heap)(L:Addr):cB:=(bz h.objs.size).filterMap λa=>if a=L\/(g.get? a).isSome=γ then J else (h.get? a).map λo=>(a,o)
def fm(g h:Heap)(L d:Addr):cB:=(TJ g h L).filter λp=>decide (p.1≠d)
structure Mod(K:au)(mg:Str->Option ab)(b4:Heap):Prop where
 kin:K.In b4
 D?:b4.Ns aZ mg
 blt:∃mb,b4.Ns builtinsNs mb/\∀x:Str,x≠"__name__" -> mb x=dG x
 nolimit:b4.NoLimit
structure Cx where
 prog:aF
 w:ay
 K:au
 mg:Str->Option ab
 b4:Heap
 A:aM
 N:aH
 s₀:ae
 H₀:Hp
 b5:Env
 c4:List Env
 stack:List Env
 ex:List Addr
 fn:Str->Bool
 nr:Bool
 pn:cB
 xe:ab->ae->Prop
def frs(l:List Env):List Addr:=l.filterMap (·.frame)
abbrev Cx.fs(X:Cx):List Addr:=frs X.c4
def Vis(a:cJ)(x:Str):Prop:=a.names.lookup x=Z .local\/a.names.lookup x=Z .cell\/a.names.lookup x=Z .free
def Loc(a:cJ)(x:Str):Prop:=a.names.lookup x=Z .local\/a.names.lookup x=Z .cell
def Look(b5:Env)(h:Heap)(m:Str->Option ab)(x:Str)(u:ab):Prop:=
 (b5.kindOf x=Z .local/\m x=Z u)\/((b5.kindOf x=Z .cell\/b5.kindOf x=Z .free)/\∃c,b5.cells.lookup x=Z c/\h.IsCell c (Z u))
structure Cx.Ok(X:Cx):Prop where
 Hj:Mod X.K X.mg X.b4
 kind:X.b5.scope.kind=.function
 D?:X.b5.globals=aZ
 blt:X.b5.builtins=builtinsNs
 above:X.s₀.heap.objs.size<=X.b5.locals
 inj:∀x y c,X.b5.cells.lookup x=Z c->X.b5.cells.lookup y=Z c->x=y
 has:∀x,(X.b5.kindOf x=Z .cell\/X.b5.kindOf x=Z .free)->∃c,X.b5.cells.lookup x=Z c
 cab:∀x c,X.fn x=γ->X.b5.cells.lookup x=Z c->X.s₀.heap.objs.size<=c
 hd:X.nr=γ->X.A.handled=J
 frames:X.A.frames=Z X.stack
 stk:X.stack=X.c4\/(X.stack=X.b5::X.c4/\X.b5.frame=Z X.b5.locals)
 exf:∀b∈X.ex,b≠X.b5.locals/\∀x c,X.b5.cells.lookup x=Z c->c≠b
 bs:∀b o,X.b4.get? b=Z o->X.s₀.heap.get? b=Z o/\X.H₀ b=J
 bsz:X.b4.objs.size<=X.s₀.heap.objs.size
 noex:∀b o,X.b4.get? b=Z o->b∉X.ex
 exfs:∀b∈X.ex,b∉X.fs
 tH:X.s₀.heap.FunFrames X.b4 X.c4
 frf:∀b∈X.fs,X.H₀ b=J
structure b?(X:Cx)(pins:cB)(σ:List (Option V))(H:Hp)(s:ae):Prop where
 ok:X.Ok
 os:s.os=X.s₀.os
 ka:eV s.gens
 b4:Un X.fs X.ex X.H₀ H X.s₀.heap s.heap
 O?:∃m,s.heap.Ns X.b5.locals m/\∀(i:Nat) (x:Str) (v:V),X.N[i]?=Z x->σ[i]?=Z (Z v)->Vis X.b5.scope x->∃u,df v u/\Look X.b5 s.heap m x u
 cell:∀x c,X.b5.cells.lookup x=Z c->∃v,s.heap.IsCell c v
 free:H X.b5.locals=J
 l':∀x c,X.b5.cells.lookup x=Z c->H c=J
 pin:∀p∈X.pn++pins,s.heap.get? p.1=Z p.2/\H p.1=J/\p.1≠X.b5.locals/\p.1∉X.fs/\∀v,p.2.data≠.cell v
 e?:q? X.prog X.w H s.heap
 len:σ.length=X.N.length
section
variable{X:Cx}{pins:cB}{σ:List (Option V)}{H H':Hp}{s:ae}{h':Heap}
def Cx.Ok.nofr(ok:X.Ok)(e:X.b4.get? b=Z o):b∉X.fs:=λa=>by have:=(ok.tH.mem a).1;rw[e]at this;cases this
theorem b?.bs(I:b? X pins σ H s):∀b o,X.b4.get? b=Z o->s.heap.get? b=Z o/\H b=J:=λb o e=>
 ⟨I.b4.keep b o (I.ok.bs b o e).1 (I.ok.bs b o e).2 (I.ok.nofr e) (I.ok.noex b o e),I.b4.free b o (I.ok.bs b o e).1 (I.ok.bs b o e).2 (I.ok.noex b o e)⟩
def b?.bk(I:b? X pins σ H s):∀b o,X.b4.get? b=Z o->s.heap.get? b=Z o:=λb o e=>(I.bs b o e).1
theorem b?.Hj(I:b? X pins σ H s):Mod X.K X.mg X.b4:=I.ok.Hj
def b?.n?(I:b? X pins σ H s):X.K.In s.heap:=I.ok.Hj.kin.keeps I.bk
def b?.fr(I:b? X pins σ H s):∃m,Fr X.b4 X.b5.locals s.heap m:=
 let ⟨m,a,_⟩:=I.O?
 ⟨m,a,I.bk,bM I.ok.bsz I.ok.above⟩
theorem b?.lt(I:b? X pins σ H s):X.b5.locals<s.heap.objs.size:=let ⟨_,a,_⟩:=I.O?;a.lt
def b?.sz(I:b? X pins σ H s):X.s₀.heap.objs.size<=s.heap.objs.size:=bM I.ok.above (gR I.lt)
def b?.nofs(I:b? X pins σ H s)(h:s.heap.objs.size<=a):a∉X.fs:=λb=>by obtain⟨_,o,c,_⟩:=I.ok.tH.mem b;exact ao (bY (aL c) (bM I.sz h)) (dW _)
def b?.cne(I:b? X pins σ H s):∀x c,X.b5.cells.lookup x=Z c->c≠X.b5.locals:=λx c e z=>by obtain⟨v,o,d,hd⟩:=I.cell x c e;obtain⟨m,⟨i,h,f,b,a,_⟩,_⟩:=I.O?;rw[z,b]at d;cases d;rw[a]at hd;cases hd
theorem b?.tH(I:b? X pins σ H s):s.heap.FunFrames X.b4 X.c4:=by
 have all:∀(l:List Env),(∀b∈frs l,b∈X.fs)->X.s₀.heap.FunFrames X.b4 l->s.heap.FunFrames X.b4 l:=by
  intro l
  induction l with
  |nil=>intro _ _;trivial
  |cons b5 r p=>intro d h;obtain⟨f,⟨L,o,c,i,j,hd⟩,m⟩:=h;have hL:L∈X.fs:=d L (by unfold frs;rw[jm,c];exact aN);obtain⟨q,e⟩:=I.b4.slot L o j (I.ok.frf L hL) hL λz=>I.ok.exfs L z hL;exact⟨f,⟨L,_,c,i,e,hd⟩,p (λb a=>d b (by unfold frs;rw[jm,c];exact aQ _ a)) m⟩
 exact all X.c4 (λ_ a=>a) I.ok.tH
theorem b?.stack(I:b? X pins σ H s):s.heap.FunFrames X.b4 X.stack:=by
 rcases I.ok.stk with e|⟨e,a⟩
 .rw[e];exact I.tH
 .rw[e];obtain⟨m,b,_⟩:=I.O?;refine .cons (by rw[I.ok.kind];decide) a b ?_ I.tH;exact Heap.get?_none_of_le (bM I.ok.bsz I.ok.above)
def b?.ζ(I:b? X pins σ H s):∀b∈frs X.stack,b∈X.b5.locals::X.fs:=λb a=>by
 rcases I.ok.stk with e|⟨e,c⟩
 .rw[e]at a;exact aQ _ a
 .rw[e]at a;unfold frs at a;rw[jm,c]at a;exact a
def b?.χ(I:b? X pins σ H s):∀b∈frs X.stack,H b=J:=λb hb=>by
 rcases aK.1 (I.ζ b hb)with e|hb
 .rw[e];exact I.free
 .obtain⟨_,o,a,_⟩:=I.ok.tH.mem hb;exact I.b4.free b o a (I.ok.frf b hb) λz=>I.ok.exfs b z hb
def b?.step{g':Array eU}{t':Nat}{d':Drawn}{ch:List Addr}(I:b? X pins σ H s)
  (hch:∀b∈ch,(b∈X.ex\/X.s₀.heap.objs.size<=b)/\b≠X.b5.locals/\(∀x c,X.b5.cells.lookup x=Z c->c≠b)/\∀p∈X.pn++pins,p.1≠b)
  (keep:∀b o,b≠X.b5.locals->b∉X.fs->b∉ch->s.heap.get? b=Z o->H b=J->h'.get? b=Z o)
  (slot:∀b o,b≠X.b5.locals->b∈X.fs->b∉ch->s.heap.get? b=Z o->H b=J->∃sl,h'.get? b=Z { o with slots:=sl }) (free:∀b o,b∉ch->s.heap.get? b=Z o->H b=J->H' b=J)
  (there:∀b o,b∉ch->s.heap.get? b=Z o->∃t,h'.get? b=Z t)
  (A':∀b xs,H b=Z (.c3 xs)->H' b=Z (.c3 xs)) (Dw:∀b o u,H b=Z (.mu o u)->H' b=Z (.mu o u)) (K':∀b ps,H b=Z (.tbl ps)->∃more,H' b=Z (.tbl (ps++more)))
  (ns:∀m,s.heap.Ns X.b5.locals m->h'.Ns X.b5.locals m) (e?:q? X.prog X.w H' h') (hg:eV g'):
  b? X pins σ H' { s with heap:=h',gens:=g',drawn:=d',toks:=t' }:=by
 have neL:∀b o,X.s₀.heap.get? b=Z o->b≠X.b5.locals:=λb o e=>aT (bY (aL e) I.ok.above);have neC:∀b o,X.s₀.heap.get? b=Z o->b∉X.ex->b∉ch:=λb o e a hb=>by
  rcases(hch b hb).1 with z|z
  .exact a z
  .exact ao (bY (aL e) z) (dW _)
 have cellK:∀x c,X.b5.cells.lookup x=Z c->∀v,s.heap.IsCell c v->h'.IsCell c v:=λx c e v ⟨o,h,hd⟩=>by
  have nch:c∉ch:=λz=>(hch c z).2.2.1 x c e O;by_cases A:c∈X.fs
  .obtain⟨sl,q⟩:=slot c o (I.cne x c e) A nch h (I.l' x c e);exact⟨_,q,hd⟩
  .exact⟨o,keep c o (I.cne x c e) A nch h (I.l' x c e),hd⟩
 refine⟨I.ok,I.os,hg,⟨λb o e n hb a=>?_,λb o e n hb a=>?_,λb o e n a=>?_,λb o e a=>?_,λb xs e=>A' b xs (I.b4.A' b xs e),λb o xs e=>Dw b o xs (I.b4.Dw b o xs e),λb ps e=>?_⟩,?_,λx c e=>?_,?_,λx c e=>?_,λp B=>?_,e?,I.len⟩
 .exact keep b o (neL b o e) hb (neC b o e a) (I.b4.keep b o e n hb a) (I.b4.free b o e n a)
 .obtain⟨sl,f⟩:=I.b4.slot b o e n hb a;obtain⟨y,j⟩:=slot b _ (neL b o e) hb (neC b o e a) f (I.b4.free b o e n a);exact⟨y,j⟩
 .obtain⟨t,f⟩:=I.b4.there b o e a;exact free b t (neC b o e a) f (I.b4.free b o e n a)
 .obtain⟨t,f⟩:=I.b4.there b o e a;exact there b t (neC b o e a) f
 .obtain⟨F,f⟩:=I.b4.K' b ps e;obtain⟨m2,j⟩:=K' b _ f;exact⟨F++m2,by rw[j,Array.append_assoc]⟩
 .obtain⟨m,hn,E⟩:=I.O?;refine⟨m,ns m hn,λi x v f j C=>?_⟩;obtain⟨u,r,l⟩:=E i x v f j C;refine⟨u,r,?_⟩;rcases l with l|⟨k,c,e,z⟩
  .exact .inl l
  .exact .inr ⟨k,c,e,cellK x c e _ z⟩
 .obtain⟨v,z⟩:=I.cell x c e;exact⟨v,cellK x c e v z⟩
 .obtain⟨m,⟨o,_,_,h,_⟩,_⟩:=I.O?;exact free _ o (λz=>(hch _ z).2.1 O) h I.free
 .obtain⟨v,o,h,hd⟩:=I.cell x c e;exact free c o (λz=>(hch c z).2.2.1 x c e O) h (I.l' x c e)
 .obtain⟨e,n,ne,nf,d⟩:=I.pin p B;have nch:p.1∉ch:=λz=>(hch p.1 z).2.2.2 p B O;exact⟨keep p.1 p.2 ne nf nch e n,free p.1 p.2 nch e n,ne,nf,d⟩
def b?.un(I:b? X pins σ H s)(u:Un X.fs [] H H' s.heap h')(e?:q? X.prog X.w H' h'):b? X pins σ H' { s with heap:=h',toks:=t' }:=by
 obtain⟨m,⟨o,es,ep,f,r⟩,_⟩:=id I.O?;obtain⟨sl,hL⟩:=u.any f I.free (by simp);exact I.step (g':=s.gens) (d':=s.drawn) (ch:=[]) (λ_ z=>nomatch z) (λb o _ hb _ e n=>u.keep b o e n hb (by simp)) (λb o _ hb _ e n=>u.slot b o e n hb (by simp)) (λb o _ e n=>u.free b o e n (by simp)) (λb o _ e=>u.there b o e (by simp)) u.A' u.Dw u.K' (λl hm=>by
  obtain⟨p,d,c,a,h⟩:=hm;rw[f]at a;cases a;exact⟨_,d,c,hL,h⟩) e? I.ka
def b?.call(I:b? X pins σ H s)(u:Un (frs X.stack) ch H H' s.heap h')(e?:q? X.prog X.w H' h')(hg:eV g')
  (hch:∀b∈ch,(b∈X.ex\/X.s₀.heap.objs.size<=b)/\b≠X.b5.locals/\(∀x c,X.b5.cells.lookup x=Z c->c≠b)/\∀p∈X.pn++pins,p.1≠b):
  b? X pins σ H' { s with heap:=h',gens:=g',drawn:=d',toks:=t' }:=by
 obtain⟨m,⟨o,es,ep,i,r⟩,_⟩:=id I.O?;obtain⟨sl,hL⟩:=u.any i I.free λz=>(hch _ z).2.1 O;exact I.step (ch:=ch) hch (λb o hL hb a e n=>u.keep b o e n (λz=>(aK.1 (I.ζ b z)).elim hL hb) a) (λb o _ _ a e n=>u.any e n a) (λb o a e n=>u.free b o e n a) (λb o a e=>u.there b o e a) u.A' u.Dw u.K' (λl hm=>by
  obtain⟨q,h,f,d,j⟩:=hm;rw[i]at d;cases d;exact⟨_,h,f,hL,j⟩) e? hg
def b?.j?(I:b? X pins σ H s)(k:∀b o,b≠it->s.heap.get? b=Z o->h'.get? b=Z o)(hn:H it=J)(hL:it≠X.b5.locals)
  (d:it∈X.ex\/X.s₀.heap.objs.size<=it) (f:∀x c,X.b5.cells.lookup x=Z c->c≠it) (h:∀p∈X.pn++pins,p.1≠it):b? X pins σ H { s with heap:=h',toks:=t' }:=by
 have nit:∀b u,H b=Z u->b≠it:=λb u e z=>by rw[z,hn]at e;cases e
 refine I.step (g':=s.gens) (d':=s.drawn) (ch:=[it]) (λb hb=>?_) (λb o _ _ a e _=>k b o (λz=>a (by simp[z])) e) (λb o _ _ a e _=>⟨o.slots,k b o (λz=>a (by simp[z])) e⟩) (λ_ _ _ _ n=>n)
  (λb o a e=>⟨o,k b o (λz=>a (by simp[z])) e⟩) (λ_ _ e=>e) (λ_ _ _ e=>e) (λb ps e=>⟨#[],by rw[e];simp⟩) (λm hm=>?_) (λb u e=>?_) I.ka
 .have e:b=it:=by simpa using hb
  subst e;exact⟨d,hL,f,h⟩
 .obtain⟨o,es,ep,i,r⟩:=hm;exact⟨o,es,ep,k _ o (cI hL) i,r⟩
 .refine(I.e? b u e).T' (λc v a q=>k c v ?_ q) (λ_ q=>q) λ_ _ q=>q;rcases a with z|z
  .rw[z];exact nit b u e
  .exact nit c _ z
def b?.x?(I:b? X pins σ H s)(t:Nat):b? X pins σ H { s with toks:=t }:=I.un (h':=s.heap) (t':=t) Un.refl I.e?
theorem b?.f5(I:b? X pins σ H s)(k:∀b u,s.heap.get? b=Z u->h'.get? b=Z u):b? X pins σ H { s with heap:=h',toks:=t' }:=I.un (Un.f5 k) (I.e?.f5 k)
theorem b?.laid(I:b? X pins σ H s)(k:∀b u,s.heap.get? b=Z u->h'.get? b=Z u)(c:s.heap.objs.size<=a)(new:ee X.prog X.w (en H a o) h' a o):
  b? X pins σ (en H a o) { s with heap:=h',toks:=t' }:=I.un (Un.laid k c (I.e?.fresh c)) (I.e?.laid k c new)
theorem b?.B?(I:b? X pins σ H s)(c:Mut (H x))(a:e=x\/H e=Z (.gk x))(k:∀b u,b≠e->s.heap.get? b=Z u->h'.get? b=Z u)(heo:∃u,h'.get? e=Z u)
  (new:ee X.prog X.w (en H x o) h' x o):b? X pins σ (en H x o) { s with heap:=h',toks:=d }:=I.un (Un.B? c a k heo) (I.e?.B? c a k heo new)
def b?.c6{a:List (Option V)}(I:b? X pins σ H s)(f:a.length=σ.length)(w:∀(i:Nat) v,a[i]?=Z (Z v)->σ[i]?=Z (Z v)):b? X pins a H s:=
 ⟨I.ok,I.os,I.ka,I.b4,let ⟨m,h,b⟩:=I.O?;⟨m,h,λi x v c d e=>b i x v c (w i v d) e⟩,I.cell,I.free,I.l',I.pin,I.e?,f.t I.len⟩
def b?.τ(I:b? X pins σ H s)(h:∀p∈a,s.heap.get? p.1=Z p.2/\H p.1=J/\p.1≠X.b5.locals/\p.1∉X.fs/\∀v,p.2.data≠.cell v):b? X a σ H s:=
 ⟨I.ok,I.os,I.ka,I.b4,I.O?,I.cell,I.free,I.l',λp b=>(bb.1 b).elim (λz=>I.pin p (bL _ z)) (h p),I.e?,I.len⟩
def K1{N:aH}(hN:N.Nodup){i j:Nat}{x:Str}(a:N[i]?=Z x)(b:N[j]?=Z x):i=j:=by obtain⟨e,c⟩:=bX.1 a;obtain⟨f,d⟩:=bX.1 b;exact(kW hN).1 (c.t d.symm)
def OO(I:b? X pins σ H s)(hN:X.N.Nodup)(hi:X.N[i]?=Z x)(t:Loc X.b5.scope x)(r:df v u)
  (h:∀s',b? X pins (σ.set i (Z v)) H s'->(∃a,cG a s.heap s'.heap/\(a=X.b5.locals\/X.b5.cells.lookup x=Z a))->Q () s') (hf:X.fn x=γ\/X.b5.scope.names.lookup x=Z .local:=by first|exact .inl O|exact .inr O|assumption):ag M A (storeName X.b5 x u) Q E s:=by
 obtain⟨m,hn,hl⟩:=id I.O?;have hcls:(X.b5.scope.kind==.class||(X.b5.scope.kind==.module&&X.b5.locals != X.b5.globals))=δ:=by rw[I.ok.kind];rfl
 have hiσ:i<σ.length:=by rw[I.len];exact(bX.1 hi).1
 have cne:=I.cne;have tracked:∀{a:Addr} {h':Heap},(∃o,s.heap.get? a=Z o/\H a=J)->cG a s.heap h'->q? X.prog X.w H h':=λ{a h'} ha hs b ob e=>by
  obtain⟨_,_,hfree⟩:=ha;refine(I.e? b ob e).T' (λc R l q=>(hs.2 c ?_).t q) (λ_ q=>q) λ_ _ q=>q;rintro rfl;rcases l with rfl|l
  .rw[hfree]at e;cases e
  .rw[hfree]at l;cases l
 rcases t with C|C
 .refine wpAny_storeName_local C hn (λh' T hs=>?_) hcls;obtain⟨oL,_,_,hoL,_⟩:=id hn;refine h _ ⟨I.ok,I.os,I.ka,⟨λb o e n hb t=>?_,λb o e n hb t=>?_,I.b4.free,λb o e t=>?_,I.b4.A',I.b4.Dw,I.b4.K'⟩,⟨_,T,λj y v' f B S=>?_⟩,λy c e=>?_,I.free,I.l',λp U=>?_,tracked ⟨oL,hoL,I.free⟩ hs,by simpa using I.len⟩ ⟨_,hs,.inl O⟩
  .exact(hs.2 b (aT (bY (aL e) I.ok.above))).t (I.b4.keep b o e n hb t)
  .obtain⟨sl,f⟩:=I.b4.slot b o e n hb t;exact⟨sl,(hs.2 b (aT (bY (aL e) I.ok.above))).t f⟩
  .obtain⟨W,f⟩:=I.b4.there b o e t;exact⟨W,(hs.2 b (aT (bY (aL e) I.ok.above))).t f⟩
  .by_cases F:j=i
   .subst F;rw[hi]at f;cases f;rw[ir hiσ]at B;cases B;exact⟨u,r,.inl ⟨C,by simp⟩⟩
   .rw[ji (cI F)]at B;obtain⟨u',Y,q⟩:=hl j y v' f B S;refine⟨u',Y,?_⟩;rcases q with ⟨k,e⟩|⟨k,c,e,z⟩
    .refine .inl ⟨k,?_⟩;have:y≠x:=λe=>F (K1 hN f (e▸hi));simp[this,e]
    .exact .inr ⟨k,c,e,z.sameBut hs (cne y c e)⟩
  .obtain⟨R,z⟩:=I.cell y c e;exact⟨R,z.sameBut hs (cne y c e)⟩
  .obtain⟨e,n,ne,nf,d⟩:=I.pin p U;exact⟨(hs.2 p.1 ne).t e,n,ne,nf,d⟩
 .have hfn:X.fn x=γ:=by
   rcases hf with z|z
   .exact z
   .rw[z]at C;cases C
  obtain⟨c,l⟩:=I.ok.has x (.inl C);obtain⟨R,z⟩:=I.cell x c l;refine wpAny_storeName_cell I.ok.kind C l z (λh' G hs=>?_);obtain⟨oc,hoc,hocd⟩:=id z;refine h { s with heap:=h' } ⟨I.ok,I.os,I.ka,⟨λb o e n hb t=>?_,λb o e n hb t=>?_,I.b4.free,λb o e t=>?_,I.b4.A',I.b4.Dw,I.b4.K'⟩,⟨m,hn.sameBut hs (cI (cne x c l)),λj y v' f B S=>?_⟩,λy P e=>?_,I.free,I.l',λp U=>?_,tracked ⟨oc,hoc,I.l' x c l⟩ hs,by simpa using I.len⟩ ⟨c,hs,.inr l⟩
  .exact(hs.2 b (aT (bY (aL e) (I.ok.cab x c hfn l)))).t (I.b4.keep b o e n hb t)
  .obtain⟨sl,f⟩:=I.b4.slot b o e n hb t;exact⟨sl,(hs.2 b (aT (bY (aL e) (I.ok.cab x c hfn l)))).t f⟩
  .obtain⟨W,f⟩:=I.b4.there b o e t;exact⟨W,(hs.2 b (aT (bY (aL e) (I.ok.cab x c hfn l)))).t f⟩
  .by_cases F:j=i
   .subst F;rw[hi]at f;cases f;rw[ir hiσ]at B;cases B;exact⟨u,r,.inr ⟨.inl C,c,l,G⟩⟩
   .rw[ji (cI F)]at B;obtain⟨u',Y,q⟩:=hl j y v' f B S;refine⟨u',Y,?_⟩;rcases q with q|⟨k,P,e,z'⟩
    .exact .inl q
    .refine .inr ⟨k,P,e,z'.sameBut hs ?_⟩;rintro rfl;exact F (K1 hN f (I.ok.inj _ _ _ e l▸hi))
  .by_cases hcc:P=c
   .subst hcc;exact⟨_,G⟩
   .obtain⟨w2,z2⟩:=I.cell y P e;exact⟨w2,z2.sameBut hs hcc⟩
  .obtain⟨e,n,ne,nf,d⟩:=I.pin p U;refine⟨(hs.2 p.1 ?_).t e,n,ne,nf,d⟩;intro q;rw[q,hoc]at e;have q':oc=p.2:=cu e;exact d R (by rw[<-q'];exact hocd)
def K2(I:b? X pins σ H s)(hN:X.N.Nodup)(d:X.N[i]?=Z x)(e:Loc X.b5.scope x)(r:df v u)
  (h:∀a,b? X pins (σ.set i (Z v)) H a->Q () a) (c:X.fn x=γ\/X.b5.scope.names.lookup x=Z .local:=by first|exact .inl O|exact .inr O|assumption):ag M A (storeName X.b5 x u) Q E s:=
 OO I hN d e r (λa b _=>h a b) c
def b?.call'{s':ae}(I:b? X pins σ H s)(i:s'.os=s.os)(u:Un (frs X.stack) ch H H' s.heap s'.heap)(e?:q? X.prog X.w H' s'.heap)(h:eV s'.gens)
  (hch:∀b∈ch,(b∈X.ex\/X.s₀.heap.objs.size<=b)/\b≠X.b5.locals/\(∀x c,X.b5.cells.lookup x=Z c->c≠b)/\∀p∈X.pn++pins,p.1≠b):b? X pins σ H' s':=by
 obtain⟨h',d,a,f,j⟩:=s';have e:j=s.os:=i;subst e;exact I.call (g':=d) (t':=f) (d':=a) u e? h hch
end
abbrev XK:=ab->Option Addr->Hp->Prop
abbrev St:=List (Option V)
abbrev VK:=V->Hp->Prop
abbrev TE:=St->Hp->VK->Prop
abbrev TT:=St->Hp->(Bool->Hp->Prop)->Prop
abbrev TA:=St->Hp->(bC->Hp->Prop)->Prop
structure Ends where
 nx:St->Hp->Prop
 rt:VK
 bk:St->Hp->Prop:=λ_ _=>False
 ct:St->Hp->Prop:=λ_ _=>False
abbrev TS:=Ends->St->Hp->Prop
def EP(X:Cx)(a:cB)(d:St)(Q:VK)(u:ab)(c:ae):Prop:=∃v b,b? X a d b c/\df v u/\Q v b
def TP(X:Cx)(a:cB)(e:St)(Q:Bool->Hp->Prop)(b:Bool)(d:ae):Prop:=∃c,b? X a e c d/\Q b c
def AP(X:Cx)(a:cB)(f:St)(Q:bC->Hp->Prop)(e:List ab)(d:ae):Prop:=∃c b,b? X a f b d/\c9 c e/\Q c b
def SP(X:Cx)(b:cB)(D:Ends)(f:Flow)(d:ae):Prop:=
 match f with
 |.next=>∃a c,b? X b a c d/\D.nx a c
 |.brk=>∃a c,b? X b a c d/\D.bk a c
 |.cont=>∃a c,b? X b a c d/\D.ct a c
 |.ret u=>∃v a c,b? X b a c d/\df v u/\D.rt v c
def PE(X:Cx)(e:Expr)(t:TE):Prop:=
 ∀(a:cB) (s:ae) (b:St) (H:Hp) (Q:VK),b? X a b H s->t b H Q->ag (model X.prog X.w) X.A (eval e X.b5) (EP X a b Q) X.xe s
def PT(X:Cx)(e:Expr)(t:TT):Prop:=
 ∀(a:cB) (s:ae) (b:St) (H:Hp) (Q:Bool->Hp->Prop),b? X a b H s->t b H Q->ag (model X.prog X.w) X.A (isTrue e X.b5 (eval e X.b5)) (TP X a b Q) X.xe s
def PW(X:Cx)(e:Expr)(t:TT):Prop:=
 ∀(whole:Sem ab) (a:cB) (s:ae) (b:St) (H:Hp) (Q:Bool->Hp->Prop),b? X a b H s->t b H Q->ag (model X.prog X.w) X.A (isTrue e X.b5 whole) (TP X a b Q) X.xe s
def PW.pt(h:PW X e t):PT X e t:=h _
def PA(X:Cx)(c:List Expr)(t:TA):Prop:=
 ∀(pos:Pos) (a:cB) (s:ae) (b:St) (H:Hp) (Q:bC->Hp->Prop),b? X a b H s->t b H Q->ag (model X.prog X.w) X.A (spliced (bI pos (aC c X.b5))) (AP X a b Q) X.xe s
def PS(X:Cx)(st:Stmt)(t:TS):Prop:=
 ∀(a:cB) (s:ae) (b:St) (H:Hp) (D:Ends),b? X a b H s->t D b H->ag (model X.prog X.w) X.A (exec st X.b5) (SP X a D) X.xe s
def n9(X:Cx)(st:List Stmt)(t:TS):Prop:=
 ∀(a:cB) (s:ae) (b:St) (H:Hp) (D:Ends),b? X a b H s->t D b H->ag (model X.prog X.w) X.A (execs st X.b5) (SP X a D) X.xe s
def ff{c:Type}{t:Sem c}{Q b:c->ae->Prop}{M:Model}{A:aM}{E:ab->ae->Prop}{s:ae}(h:ag M A t Q E s)(hQ:∀a s,Q a s->b a s):ag M A t b E s:=b8 h hQ λ_ _ x=>x
section
variable{X:Cx}
def bin{a b:Expr}{o p:TE}(z:PE X a o)(B:PE X b p){c:cB}{s:ae}{e:St}{H:Hp}{R:V->V->Hp->Prop}(I:b? X c e H s)(h:o e H λx m=>p e m λy d=>R x y d)
  {q:Type} {Q:q->ae->Prop} {f:ab->ab->Sem q}
  (C:∀v u l x y d,b? X c e d l->df x v->df y u->R x y d->ag (model X.prog X.w) X.A (f v u) Q X.xe l):
  ag (model X.prog X.w) X.A (eval a X.b5) (λv i=>ag (model X.prog X.w) X.A (eval b X.b5) (λu j=>ag (model X.prog X.w) X.A (f v u) Q X.xe j) X.xe i) X.xe s:=by
 refine ff (z c s e H _ I h) λv N zz=>?_;obtain⟨x,m,r,G,E⟩:=zz;refine ff (B c N e m _ r E) λu l zz=>?_;obtain⟨y,d,t,M,F⟩:=zz;exact C v u l x y d t G M F
def CP(i:Nat):TE:=λa H Q=>∃v,a[i]?=Z (Z v)/\Q v H
def tC(v:V):TE:=λ_ H Q=>Q v H
def Ww(hN:X.N[i]?=Z x)(p:Vis X.b5.scope x)(hd:(x==("__debug__" : Str))=δ:=by decide)(hcd:(x==("__classdict__" : Str))=δ:=by decide):PE X (.Name x pos) (CP i):=by
 intro b s q H Q I h;obtain⟨v,e,h⟩:=h;obtain⟨m,o,f⟩:=I.O?;obtain⟨u,r,l⟩:=f i x v hN e p;have fin:EP X b q Q u s:=⟨v,H,I,r,h⟩;rcases l with ⟨a,j⟩|⟨a,c,d,hcell⟩
 .exact l8 (wpAny_loadName_local I.ok.kind a o j fin) hd
 .rcases a with a|a
  .exact l8 (wpAny_loadName_cell I.ok.kind a d hcell fin) hd
  .exact l8 (wpAny_loadName_free I.ok.kind a d hcell fin hcd) hd
def P7{i j pos}:PE X (.Constant (.int i) j pos) (tC (.int i)):=λ_ _ _ H _ I h=>wpAny_Constant_int ⟨.int i,H,I.x? _,⟨_,O⟩,h⟩
def aal{b j pos}:PE X (.Constant (.bool b) j pos) (tC (.O b)):=λ_ _ _ H _ I h=>Constant_bool ⟨.O b,H,I,O,h⟩
def Wx{j pos}:PE X (.Constant .none j pos) (tC .I):=λ_ _ _ H _ I h=>Constant_none ⟨.I,H,I,O,h⟩
def WA{x j pos}:PE X (.Constant (.str x) j pos) (tC (.str x)):=λ_ _ _ H _ I h=>Calls.Constant_str ⟨.str x,H,I.x? _,⟨_,O⟩,h⟩
def Gl(X:Cx)(x:Str):Prop:=X.b5.kindOf x=Z .globalImplicit
def DS(I:b? X a d H s)(b:Gl X x)(c:X.mg x=Z u)(h:Q u s)
  (hd:(x==("__debug__" : Str))=δ:=by decide):ag (model X.prog X.w) X.A (eval (.Name x pos) X.b5) Q E s:=
 mK I.ok.kind b (Calls.loadGlobal_global (by rw[I.ok.D?];exact I.Hj.D?.keeps I.bk) c h) hd
def AW(I:b? X a l H s)(d:Gl X x)(e:X.mg x=J)(i:dG x=Z u)(h:Q u s)
  (f:x≠"__name__" := by decide) (hd:(x==("__debug__" : Str))=δ:=by decide):ag (model X.prog X.w) X.A (eval (.Name x pos) X.b5) Q E s:=by
 obtain⟨j,b,c⟩:=I.Hj.blt;exact mK I.ok.kind d (Calls.loadGlobal_builtin (by rw[I.ok.D?];exact I.Hj.D?.keeps I.bk) e (by rw[I.ok.blt];exact b.keeps I.bk) ((c x f).t i) h) hd
def Gp(a:Gl X x)(b:X.mg x=Z u)(r:df v u)(hd:(x==("__debug__" : Str))=δ:=by decide):PE X (.Name x pos) (tC v):=
 λ_ _ _ H _ I h=>DS I a b ⟨v,H,I,r,h⟩ hd
def TL(a:Gl X x)(b:X.mg x=J)(d:dG x=Z u)(r:df v u)(c:x≠"__name__" := by decide)(hd:(x==("__debug__" : Str))=δ:=by decide):PE X (.Name x pos) (tC v):=
 λ_ _ _ H _ I h=>AW I a b d ⟨v,H,I,r,h⟩ c hd
variable{a b:Expr}{ta tb:TE}{pos:Pos}
def PC(X:Cx)(h:CmpOp)(a b:Expr)(t:TE):Prop:=
 ∀(c:cB) (s:ae) (f:St) (H:Hp) (Q:VK),b? X c f H s->t f H Q->
  ag (model X.prog X.w) X.A (eval a X.b5) (λv d=>ag (model X.prog X.w) X.A (eval b X.b5) (λu e=>ag (model X.prog X.w) X.A (bA h v u) (EP X c f Q) X.xe e) X.xe d) X.xe s
def tB(t:TE):TT:=λe H Q=>t e H λx d=>∃c,x=.O c/\Q c d
def abZ(h:PC X i a b t)(f:f9 i b=δ:=by first|exact nobehind _ (by decide) (by decide)|rfl):PT X (.Compare a [i] [b] pos) (tB t):=by intro e s w H Q I o;refine ni (ff (h e s w H _ I o) λv y f=>ff f λu z m=>ff m λc A zz=>?_) f;obtain⟨x,j,l,r,p⟩:=zz;obtain⟨d,rfl,q⟩:=p;cases r;exact dB ⟨j,l,q⟩
def WB(h:PE X e t)(j:∀whole,isTrue e X.b5 whole=(do let v<-whole;standAt e.pos;holding [v] (truthy v)):=by intro _;rfl):PT X e (tB t):=by intro c s p H Q I l;refine isTrue_plain (ff (h c s p H _ I l) λv r zz=>?_) (j _);obtain⟨x,f,i,o,m⟩:=zz;obtain⟨d,rfl,q⟩:=m;cases o;exact dB ⟨f,i,q⟩
variable{tA tB':TT}{fm:List Expr}
def tAnd(t u:TT):TT:=λe H Q=>t e H λc d=>if c=γ then u e d Q else Q δ d
def tOr(t u:TT):TT:=λe H Q=>t e H λc d=>if c=γ then Q γ d else u e d Q
def tNot(t:TT):TT:=λe H Q=>t e H λc d=>Q (!c) d
def TM(f:PT X a tA):PW X (.BoolOp .And [a] pos) tA:=by
 intro l d s i H Q I h;refine isTrue_and (ff (f d s i H Q I h) λc j e=>?_);cases c with
 |true=>exact isTrue_and_nil e
 |false=>exact e
def WC(f:PT X a tA):PW X (.BoolOp .Or [a] pos) tA:=by
 intro l d s i H Q I h;refine isTrue_or (ff (f d s i H Q I h) λc j e=>?_);cases c with
 |false=>exact isTrue_or_nil e
 |true=>exact e
def WE(l:PT X a tA)(m:PW X (.BoolOp .And (b::fm) pos) tB'):PW X (.BoolOp .And (a::b::fm) pos) (tAnd tA tB'):=by
 intro p d s j H Q I h;refine isTrue_and (ff (l d s j H _ I h) λc o zz=>?_);obtain⟨e,f,i⟩:=zz;cases c with
 |true=>exact m p d o j e Q f i
 |false=>exact⟨e,f,i⟩
def aan(l:PT X a tA)(m:PW X (.BoolOp .Or (b::fm) pos) tB'):PW X (.BoolOp .Or (a::b::fm) pos) (tOr tA tB'):=by
 intro p d s j H Q I h;refine isTrue_or (ff (l d s j H _ I h) λc o zz=>?_);obtain⟨e,f,i⟩:=zz;cases c with
 |true=>exact⟨e,f,i⟩
 |false=>exact m p d o j e Q f i
def WG(f:PT X a tA):PT X (.UnaryOp .Not a pos) (tNot tA):=by intro d s i H Q I h;exact isTrue_not (f d s i H (λc e=>Q (!c) e) I h)
def aao(ta tb:TE):TE:=λe H Q=>ta e H λx d=>∃c,x=.O c/\if c=γ then tb e d Q else Q (.O δ) d
def tOrV(ta tb:TE):TE:=λe H Q=>ta e H λx d=>∃c,x=.O c/\if c=γ then Q (.O γ) d else tb e d Q
def aap(ta:TE):TE:=λe H Q=>ta e H λx d=>∃c,x=.O c/\Q (.O (!c)) d
def WH{e}(h:PE X a t):PE X (.BoolOp e [a] pos) t:=λc s f H Q I d=>BoolOp_one (h c s f H Q I d)
def WI(l:PE X a ta)(m:PE X (.BoolOp .And (b::fm) pos) tb):PE X (.BoolOp .And (a::b::fm) pos) (aao ta tb):=by
 intro d s j H Q I h;refine BoolOp_and (ff (l d s j H _ I h) λv p zz=>?_);obtain⟨x,f,i,o,e⟩:=zz;obtain⟨c,rfl,e⟩:=e;cases o;refine dB ?_;cases c with
 |true=>exact m d p j f Q i e
 |false=>exact⟨.O δ,f,i,O,e⟩
def aaq(l:PE X a ta)(m:PE X (.BoolOp .Or (b::fm) pos) tb):PE X (.BoolOp .Or (a::b::fm) pos) (tOrV ta tb):=by
 intro d s j H Q I h;refine BoolOp_or (ff (l d s j H _ I h) λv p zz=>?_);obtain⟨x,f,i,o,e⟩:=zz;obtain⟨c,rfl,e⟩:=e;cases o;refine dB ?_;cases c with
 |false=>exact m d p j f Q i e
 |true=>exact⟨.O γ,f,i,O,e⟩
def WJ(j:PE X a ta):PE X (.UnaryOp .Not a pos) (aap ta):=by intro d s m H Q I h;refine UnaryOp_ (ff (j d s m H _ I h) λv o zz=>?_);obtain⟨x,f,i,l,e⟩:=zz;obtain⟨c,rfl,e⟩:=e;cases l;exact not_of (dB ⟨.O (!c),f,i,O,e⟩)
def tIf(t:TT)(ta tb:TE):TE:=λd H Q=>t d H λc e=>if c=γ then ta d e Q else tb d e Q
def P8(q:PT X c tA)(o:PE X a ta)(p:PE X b tb):PE X (.IfExp c a b pos) (tIf tA ta tb):=by
 intro e s f H Q I h;refine wpAny_IfExp (ff (q e s f H _ I h) λd m zz=>?_);obtain⟨i,j,l⟩:=zz;cases d with
 |true=>exact o e m f i Q j l
 |false=>exact p e m f i Q j l
end
def f3(K:au)(H:Hp)(a:Addr)(c:bC):Prop:=
 Rd H a (.b3 c)\/
  ∃(o:Obj) (b:Array ab) (n:Nat),K.lookup a=Z o/\o.cls=.type "list" /\ o.dict=J/\o.data=.seq b n/\b.size<=aI/\c9 c b.toList
def fu(K:au)(H:Hp)(a:Addr)(c:bC):Prop:=
 Rd H a (.c3 c)\/
  ∃(o:Obj) (b:Array ab) (n:Nat),K.lookup a=Z o/\o.cls=.type "tuple" /\ o.data=.seq b n/\b.size<=aI/\c9 c b.toList
def absV:ab->Option V
 |.none=>Z .I
 |.bool b=>Z (.O b)
 |.int i _=>Z (.int i)
 |.str x _=>Z (.str x)
 |.bytes b _=>Z (.X b)
 |.float b _=>Z (.flt b)
 |.ref a=>Z (.ref a)
 |.type n=>Z (.ty n)
 |_=>J
def df.abs(r:df x u):absV u=Z x:=by
 cases x with
 |I=>cases r;rfl
 |O _=>cases r;rfl
 |int _=>obtain⟨t,rfl⟩:=r;rfl
 |str _=>obtain⟨t,rfl⟩:=r;rfl
 |X _=>obtain⟨t,rfl⟩:=r;rfl
 |flt _=>obtain⟨t,rfl⟩:=r;rfl
 |ref _=>cases r;rfl
 |ty _=>cases r;rfl
def df.inj(r:df x u)(q:df y u):x=y:=cu (r.abs.symm.t q.abs)
theorem c9.inj:∀{b c:bC} {a:List ab},c9 b a->c9 c a->b=c
 |_,_,_,.nil,.nil=>rfl
 |_,_,_,.cons r t,.cons d e=>by rw[r.inj d,c9.inj t e]
section
variable{X:Cx}{pins:cB}{σ:St}{H:Hp}{s:ae}{a:Addr}{xs ys:bC}
def f3.of{K:au}(h:H a=Z (.b3 xs)):f3 K H a xs:=.inl (.inl h)
def fu.of{K:au}(h:H a=Z (.c3 xs)):fu K H a xs:=.inl (.inl h)
def b?.list(I:b? X pins σ H s)(h:f3 X.K H a xs):∃b:List ab,c9 xs b/\PlainL s.heap a b.toArray/\xs.length<=aI:=by
 rcases h with h|⟨o,b,n,d,c,hd,f,i,r⟩
 .obtain⟨z,b,n,r,e⟩:=h.ok I.e?;exact⟨b,r,⟨_,n,e,O,O,O⟩,z⟩
 .refine⟨b.toList,r,⟨o,n,I.n? a o d,c,hd,by simpa using f⟩,?_⟩;have e:=r.length;simp only[cM]at e;omega
def b?.tuple(I:b? X pins σ H s)(h:fu X.K H a xs):∃b:List ab,c9 xs b/\eX s.heap a b.toArray/\xs.length<=aI:=by
 rcases h with h|⟨o,b,n,d,c,f,i,r⟩
 .obtain⟨z,b,r,p,_⟩:=h.ok I.e?;exact⟨b,r,p,z⟩
 .refine⟨b.toList,r,⟨o,I.n? a o d,c,n,by simpa using f⟩,?_⟩;have e:=r.length;simp only[cM]at e;omega
def b?.S2(I:b? X pins σ H s)(h:f3 X.K H a xs)(l:f3 X.K H a ys):xs=ys:=by
 obtain⟨c,r,⟨o,n,e,_,_,d⟩,_⟩:=I.list h;obtain⟨b,m,⟨q,p,i,_,_,f⟩,_⟩:=I.list l;rw[e]at i;cases i;rw[d]at f;injection f with j _;have:c=b:=by simpa using bp pX j
 subst this;exact r.inj m
def b?.G'(I:b? X pins σ H s)(h:fu X.K H a xs)(l:fu X.K H a ys):xs=ys:=by
 obtain⟨c,r,⟨o,e,_,n,d⟩,_⟩:=I.tuple h;obtain⟨b,m,⟨q,i,_,p,f⟩,_⟩:=I.tuple l;rw[e]at i;cases i;rw[d]at f;injection f with j _;have:c=b:=by simpa using bp pX j
 subst this;exact r.inj m
end
abbrev Cx.F'(X:Cx)(E:ab->ae->Prop):Cx:={ X with xe:=E }
abbrev Cx.nox(X:Cx):Cx:=X.F' λ_ _=>False
theorem Cx.Ok.F'{X:Cx}(ok:X.Ok)(E:ab->ae->Prop):(X.F' E).Ok:=
 ⟨ok.Hj,ok.kind,ok.D?,ok.blt,ok.above,ok.inj,ok.has,ok.cab,ok.hd,ok.frames,ok.stk,ok.exf,ok.bs,ok.bsz,ok.noex,ok.exfs,ok.tH,ok.frf⟩
def Cx.Ok.oy{X:Cx}(ok:(X.F' E).Ok):X.Ok:=
 ⟨ok.Hj,ok.kind,ok.D?,ok.blt,ok.above,ok.inj,ok.has,ok.cab,ok.hd,ok.frames,ok.stk,ok.exf,ok.bs,ok.bsz,ok.noex,ok.exfs,ok.tH,ok.frf⟩
section
variable{X:Cx}{pins:cB}{σ:St}{H:Hp}{s:ae}{E:ab->ae->Prop}
theorem b?.F'(I:b? X pins σ H s)(E:ab->ae->Prop):b? (X.F' E) pins σ H s:=⟨I.ok.F' E,I.os,I.ka,I.b4,I.O?,I.cell,I.free,I.l',I.pin,I.e?,I.len⟩
theorem b?.oy(I:b? (X.F' E) pins σ H s):b? X pins σ H s:=⟨I.ok.oy,I.os,I.ka,I.b4,I.O?,I.cell,I.free,I.l',I.pin,I.e?,I.len⟩
theorem SP.oy(h:SP (X.F' E) pins D f c):SP X pins D f c:=by
 cases f with
 |next=>obtain⟨a,b,I,q⟩:=h;exact⟨a,b,I.oy,q⟩
 |brk=>obtain⟨a,b,I,q⟩:=h;exact⟨a,b,I.oy,q⟩
 |cont=>obtain⟨a,b,I,q⟩:=h;exact⟨a,b,I.oy,q⟩
 |ret u=>obtain⟨v,a,b,I,r,q⟩:=h;exact⟨v,a,b,I.oy,r,q⟩
theorem n9.nox{st:List Stmt}{t:TS}(h:n9 X.nox st t):n9 X st t:=λpins s σ H D I a=>
 b8 (h pins s σ H D (I.F' _) a) (λ_ _ q=>q.oy) λ_ _ z=>cZ z
end
section
variable{X:Cx}{st:Stmt}{fm:List Stmt}{t u:TS}{e:Expr}{te:TE}{pos:Pos}
def aar:TS:=λD a H=>D.nx a H
def tSeq(t u:TS):TS:=λD σ H=>t { D with nx:=u D } σ H
def TN:n9 X [] aar:=λ_ _ a H _ I h=>jz ⟨a,H,I,h⟩
def BM(b:PS X st t)(c:n9 X fm u):n9 X (st::fm) (tSeq t u):=by
 intro pins s σ H D I h;refine oO (ff (b pins s σ H { D with nx:=u D } I h) λf d q=>?_);cases f with
 |next=>obtain⟨σ',H',a,q⟩:=q;exact c pins d σ' H' D a q
 |ret v=>exact q
 |brk=>exact q
 |cont=>exact q
def J2(b:PS X st t):n9 X [st] t:=by
 intro a s c H D I h;refine oO (ff (b a s c H D I h) λf d q=>?_);cases f with
 |next=>exact jz q
 |ret v=>exact q
 |brk=>exact q
 |cont=>exact q
def b?.quiet(I:b? X a b H s):interactive X.b5=δ:=by simp[interactive,I.ok.kind]
def P9(te:TE):TS:=λD a H=>te a H λ_ b=>D.nx a b
def J3(f:PE X e te)(i:dq e J pos.line X.b5=pure δ:=by rfl):PS X (.Expr e pos) (P9 te):=by intro a s b H D I h;exact wpAny_Expr_any (ff (f a s b H _ I h) λv m ⟨x,c,d,l,j⟩=>⟨b,c,d,j⟩) I.quiet i
def tRet(te:TE):TS:=λD a H=>te a H D.rt
def Mj(f:PE X e te):PS X (.Return (Z e) pos) (tRet te):=by intro a s b H D I h;exact wpAny_Return_some (ff (f a s b H _ I h) λv l ⟨x,c,d,j,i⟩=>⟨x,b,c,d,j,i⟩)
def tIfS(c:TT)(t u:TS):TS:=λD a H=>c a H λb d=>if b=γ then t D a d else u D a d
def aat(r:PT X c w)(p:n9 X a t)(q:n9 X b u):PS X (.If c a b pos) (tIfS w t u):=by
 intro f s i H D I h;refine wpAny_If (ff (r f s i H _ I h) λd o zz=>?_);obtain⟨j,l,m⟩:=zz;cases d with
 |true=>exact p f o i j D l m
 |false=>exact q f o i j D l m
end
abbrev TG:=V->St->Hp->(St->Hp->Prop)->Prop
abbrev TGs:=bC->St->Hp->(St->Hp->Prop)->Prop
def PG(X:Cx)(target:Expr)(t:TG):Prop:=
 ∀(a:cB) (s:ae) (d:St) (H:Hp) (v:V) (u:ab) (Q:St->Hp->Prop),b? X a d H s->df v u->t v d H Q->
  ag (model X.prog X.w) X.A (assign target X.b5 u) (λ_ e=>∃b c,b? X a b c e/\Q b c) X.xe s
def ZY(X:Cx)(i:List Expr)(t:TGs):Prop:=
 ∀(a:cB) (s:ae) (f:St) (H:Hp) (e:bC) (d:List ab) (Q:St->Hp->Prop),b? X a f H s->c9 e d->t e f H Q->
  ag (model X.prog X.w) X.A (assignInOrder ((dO i X.b5).map (·.2)) d) (λ_ h=>∃b c,b? X a b c h/\Q b c) X.xe s
section
variable{X:Cx}{pos:Pos}
def zp(i:Nat):TG:=λv a H Q=>Q (a.set i (Z v)) H
def Nu(hN:X.N.Nodup)(d:X.N[i]?=Z x)(e:Loc X.b5.scope x)(c:X.fn x=γ\/X.b5.scope.names.lookup x=Z .local:=by first|exact .inl O|exact .inr O|assumption):PG X (.Name x pos) (zp i):=by intro a s j H v u Q I r h;exact wpAny_assign_Name (K2 I hN d e r (λf b=>⟨_,H,b,h⟩) c)
def gNil:TGs:=λa b H Q=>a=[]/\Q b H
def VU(t:TG)(u:TGs):TGs:=λc d H Q=>∃v r,c=v::r/\t v d H λa b=>u r a b Q
def TQ:ZY X [] gNil:=by intro a s b H d c Q I r h;obtain⟨e,h⟩:=h;subst e;cases r;exact assignInOrder_nil ⟨b,H,I,h⟩
def Qa(j:PG X e t)(l:ZY X b u)
  (m:(dO (e::b) X.b5).map (·.2)=assign e X.b5::(dO b X.b5).map (·.2):=by rfl):ZY X (e::b) (VU t u):=by
 intro a s w H z x Q I r h;obtain⟨v,y,i,h⟩:=h;subst i;cases r with
 |cons r p=>rw[m];refine assignInOrder_cons (ff (j a s w H _ _ _ I r h) λ_ q zz=>?_);obtain⟨c,d,f,o⟩:=zz;exact l a q c d _ _ Q f p o
def WK(K:au)(n:Nat)(t:TGs):TG:=λv c H Q=>∃a b,v=.ref a/\fu K H a b/\b.length=n/\t b c H Q
def WL(i:X.nr=γ)(h:ZY X es t)
  (hn:(dO es X.b5).length=n:=by rfl) (hst:(dO es X.b5).findIdx? (·.1)=J:=by rfl):PG X (.Tuple es k pos) (WK X.K n t):=by
 intro pins s σ H v u Q I r hw;obtain⟨a,xs,f,l,j,hw⟩:=hw;subst f;cases r;obtain⟨q,c,m,w⟩:=I.tuple l;refine assign_Tuple_tuple (I.ok.hd i) m (by simp[hn,<- j,c.length]) hst λh' p=>?_;have d:b? X pins σ H { s with heap:=h' }:=I.f5 (t':=s.toks) λb o e=>p b o (aT (aL e)) e;exact h pins _ σ H xs _ Q d (by simpa using c) hw
def EK(c:TE)(g:TG):TS:=λD a H=>c a H λx b=>g x a b D.nx
def WM(hN:X.N.Nodup)(l:X.N[i]?=Z x)(o:Loc X.b5.scope x)(f:PE X e r)(m:dq e (Z (.Name x pos')) pos.line X.b5=pure δ:=by rfl)(j:X.fn x=γ\/X.b5.scope.names.lookup x=Z .local:=by first|exact .inl O|exact .inr O|assumption):
  PS X (.Assign [.Name x pos'] e pos) (EK r (zp i)):=by
 intro a s t H D I h;refine wpAny_Assign_Name (ff (f a s t H _ I h) λv u zz=>?_) m;obtain⟨y,b,c,q,p⟩:=zz;exact K2 c hN l o q (λw d=>⟨_,b,d,p⟩) j
end
section
variable{X:Cx}{pos:Pos}
def Qb(c:TT)(d:TS):TS:=λD σ H=>∃W:Nat->St->Hp->Prop,(∃m,W m σ H)/\∀m σ H,W m σ H->
 c σ H λb H1=>if b=γ then ∃N:St->Hp->Prop,(∀σ' H',N σ' H'->∃a,a<m/\W a σ' H')/\d { D with nx:=N,ct:=N,bk:=D.nx } σ H1 else D.nx σ H1
def Qc(y:jP (model X.prog X.w) X.A X.b5 X.xe)(C:PT X c Q)(B:n9 X body P):PS X (.While c body [] pos) (Qb Q P):=by
 intro a s T H D I h;obtain⟨W,⟨E,R⟩,turn⟩:=h;refine wpAny_While (codeAny_whileLoop (λn F=>∃j r,b? X a j r F/\W n j r) ?_ E ⟨T,H,I,R⟩);rintro n G ⟨e,t,z,S⟩;refine fY y (ff (C a G e t _ z (turn n e t S)) λb M zz=>?_);obtain⟨u,x,l⟩:=zz;cases b with
 |true=>
  obtain⟨N,hN,l⟩:=l;rw[aj O];refine fY y (ff (B a M e u _ x l) λf U q3=>?_);cases f with
  |next=>obtain⟨d,i,m,q⟩:=q3;obtain⟨p,o,w3⟩:=hN d i q;exact⟨p,o,d,i,m,w3⟩
  |cont=>obtain⟨d,i,m,q⟩:=q3;obtain⟨p,o,w3⟩:=hN d i q;exact⟨p,o,d,i,m,w3⟩
  |brk=>exact q3
  |ret v=>exact q3
 |false=>rw[ai bx];exact jz ⟨e,u,x,l⟩
end
structure It where
 go:Nat->Hp->Prop
 yld:Nat->Hp->V->Hp->Prop
 stop:Nat->Hp->Prop
def IF(X:Cx)(a:cB)(H:Hp)(b:Addr):Prop:=
 H b=J/\b≠X.b5.locals/\b∉X.fs/\(b∈X.ex\/X.s₀.heap.objs.size<=b)/\(∀x c,X.b5.cells.lookup x=Z c->c≠b)/\∀p∈X.pn++a,p.1≠b
def b?.Y'(I:b? X d j H s)(a:s.heap.objs.size<=b)(h:f b=J):IF X d f b:=by
 refine⟨h,dY (bY I.lt a),I.nofs a,.inr (bM I.sz a),λx c e z=>?_,λp i z=>?_⟩
 .obtain⟨v,q⟩:=I.cell x c e;exact ao (bY q.lt (by rw[z];exact a)) (dW _)
 .exact ao (bY (aL (I.pin p i).1) (by rw[z];exact a)) (dW _)
structure Z?(P:aF)(w:ay)(K:au)(tg:Expr)(At:It)(fp:List Addr)(it:Addr)(tn:Nat->Heap->Prop):Prop where
 mem:it∈fp
 obj:∀i h,tn i h->∀b∈fp,∃o,h.get? b=Z o/\∀v,o.data≠.cell v
 keep:∀i h h',tn i h->(∀b∈fp,∀o,h.get? b=Z o->h'.get? b=Z o)->tn i h'
 item:∀(X:Cx),X.prog=P->X.w=w->X.K=K->X.nr=γ->∀(i:Nat) (pins:cB) (s:ae) (σ:St) (H:Hp) (E:ab->ae->Prop),b? X pins σ H s->(∀b∈fp,IF X pins H b)->tn i s.heap->At.go i H->
  ag (model P w) X.A (pyNext (.ref it)) (λr s1=>∃u,r=Z u/\
   ag (model P w) X.A (gG tg (.ref it) u) (λ_ s2=>∃x H',b? X pins σ H' s2/\df x u/\At.yld i H x H'/\tn (i+1) s2.heap/\∀b∈fp,H' b=J) E s1) E s
 done:∀(X:Cx),X.prog=P->X.w=w->X.K=K->X.nr=γ->∀(i:Nat) (pins:cB) (s:ae) (σ:St) (H:Hp) (E:ab->ae->Prop),b? X pins σ H s->(∀b∈fp,IF X pins H b)->tn i s.heap->At.stop i H->
  ag (model P w) X.A (pyNext (.ref it)) (λr s1=>r=J/\b? X pins σ H s1) E s
 self:∀(A:aM) (i:Nat) (s:ae) (Q:ab->ae->Prop) (E:ab->ae->Prop),tn i s.heap->Q (.ref it) s->ag (model P w) A (pyIter (.ref it)) Q E s
abbrev TI:=St->Hp->(It->Hp->Prop)->Prop
def PIE(X:Cx)(a:cB)(l:St)(j:Expr)(R:It->Hp->Prop)(itv:ab)(h:ae):Prop:=
 ∃(f:Addr) (e:List Addr) (i:Nat->Heap->Prop) (d:It) (c:Hp),itv=.ref f/\b? X a l c h/\Z? X.prog X.w X.K j d e f i/\i 0 h.heap/\(∀b∈e,IF X a c b)/\R d c
def PI(X:Cx)(d iter:Expr)(e:TI):Prop:=
 ∀(a:cB) (s:ae) (b:St) (H:Hp) (R:It->Hp->Prop),b? X a b H s->e b H R->
  ag (model X.prog X.w) X.A (eval iter X.b5) (λv c=>ag (model X.prog X.w) X.A (pyIter v) (PIE X a b d R) X.xe c) X.xe s
def Nv{s:ae}(c:s.heap.get? d=Z o)(a:o.cls=.type n)(hd:o.data=.fields f)
  (b:["enumerate", "zip", "dict_itemiterator", "dict_reverseitemiterator", "odict_iterator", "itertools.zip_longest", "itertools.pairwise"].contains n=δ) (hQ:Q () s):ag M A (gG e (.ref d) u) Q E s:=by
 unfold gG;cases e<;>first
  |exact ar hQ
  |(cases u<;>first
    |exact ar hQ
    |(refine af (wpAny_load c ?_)
      rw[a,hd];show ag M A (if (["enumerate", "zip", "dict_itemiterator", "dict_reverseitemiterator", "odict_iterator", "itertools.zip_longest", "itertools.pairwise"].contains n&&f[0]?==Z (rawInt _))=γ then _ else _) Q E s;rw[ai (by intro h;rw[b,Bool.false_and]at h;cases h)];exact ar hQ))
def Itl(K:au)(a:Addr):It:=
 ⟨λi H=>∃b x,f3 K H a b/\b[i]?=Z x,λi H x c=>c=H/\∀b,f3 K H a b->b[i]?=Z x,λi H=>∃b,f3 K H a b/\b.length<=i⟩
def Itt(K:au)(a:Addr):It:=
 ⟨λi H=>∃b x,fu K H a b/\b[i]?=Z x,λi H x c=>c=H/\∀b,fu K H a b->b[i]?=Z x,λi H=>∃b,fu K H a b/\b.length<=i⟩
def Itr(lo:Int)(n:Nat):It:=⟨λi _=>i<n,λi H x a=>a=H/\x=.int (lo+i),λi _=>n<=i⟩
def OP{P:aF}{w:ay}{K:au}{tg:Expr}(a it:Addr):Z? P w K tg (Itl K a) [it] it (λi h=>h.IsListIter it a i) where
 mem:=by simp
 obj:=λi h st b hb=>by
  have e:b=it:=by simpa using hb
  subst e;obtain⟨o,e,c,d⟩:=st;exact⟨o,e,λv z=>by rw[d]at z;cases z⟩
 keep:=λi h h' st k=>st.at λo e=>k it (by simp) o e
 item:=by intro X hP hw hK C i pins s σ H E I hf st hg;subst hP hw hK;obtain⟨xs,x,j,y⟩:=hg;obtain⟨A,B,p,R⟩:=I.list j;obtain⟨u,N,S⟩:=B.get y;obtain⟨l,m,M,q,r,t⟩:=hf it (by simp);refine wpAny_pyNext_list_item st p.isList (x:=u) (by simpa using N) λh' f T=>?_;have F:b? X pins σ H { s with heap:=h' }:=I.j? (t':=s.toks) (λb o hb e=>(T.2 b hb).t e) l m q r t;obtain⟨o,e,c,d⟩:=id f;exact⟨u,O,Nv (s:={ s with heap:=h' }) e c d (by decide) ⟨x,H,F,S,⟨O,λY Q=>by rw[I.S2 Q j];exact y⟩,f,λb hb=>(hf b hb).1⟩⟩
 done:=by intro X hP hw hK C i pins s σ H E I hf st hg;subst hP hw hK;obtain⟨xs,j,y⟩:=hg;obtain⟨A,B,p,R⟩:=I.list j;obtain⟨l,m,M,q,r,t⟩:=hf it (by simp);have W:=B.length;exact wpAny_pyNext_list_end (I.ok.hd C) st p.isList (by simp;omega) λh' G=>⟨O,I.j? (t':=s.toks) (λb o hb e=>G b o hb e) l m q r t⟩
 self:=λ_ _ _ _ _ st h=>wpAny_pyIter_listiter st h
def Ml{P:aF}{w:ay}{K:au}{tg:Expr}(a it:Addr):Z? P w K tg (Itt K a) [it] it (λi h=>h.IsTupleIter it a i) where
 mem:=by simp
 obj:=λi h st b hb=>by
  have e:b=it:=by simpa using hb
  subst e;obtain⟨o,e,c,d⟩:=st;exact⟨o,e,λv z=>by rw[d]at z;cases z⟩
 keep:=λi h h' st k=>st.at λo e=>k it (by simp) o e
 item:=by intro X hP hw hK C i pins s σ H E I hf st hg;subst hP hw hK;obtain⟨xs,x,l,A⟩:=hg;obtain⟨f,B,p,R⟩:=I.tuple l;obtain⟨u,N,S⟩:=B.get A;obtain⟨m,q,M,r,t,y⟩:=hf it (by simp);refine wpAny_pyNext_tuple_item st (show s.heap.IsTuple a f.toArray from p) (x:=u) (by simpa using N) λh' j T=>?_;have F:b? X pins σ H { s with heap:=h' }:=I.j? (t':=s.toks) (λb o hb e=>(T.2 b hb).t e) m q r t y;obtain⟨o,e,c,d⟩:=id j;exact⟨u,O,Nv (s:={ s with heap:=h' }) e c d (by decide) ⟨x,H,F,S,⟨O,λY Q=>by rw[I.G' Q l];exact A⟩,j,λb hb=>(hf b hb).1⟩⟩
 done:=by intro X hP hw hK C i pins s σ H E I hf st hg;subst hP hw hK;obtain⟨xs,l,A⟩:=hg;obtain⟨f,B,p,R⟩:=I.tuple l;obtain⟨m,q,M,r,t,y⟩:=hf it (by simp);have W:=B.length;exact wpAny_pyNext_tuple_end (I.ok.hd C) st (show s.heap.IsTuple a f.toArray from p) (by simp;omega) λh' G=>⟨O,I.j? (t':=s.toks) (λb o hb e=>G b o hb e) m q r t y⟩
 self:=λ_ _ _ _ _ st h=>wpAny_pyIter_tupleiter st h
def Mn{P:aF}{w:ay}{K:au}{tg:Expr}(it:Addr)(lo:Int)(n:Nat):Z? P w K tg (Itr lo n) [it] it (λi h=>IsRangeIter h it (lo+(i:Nat) * 1) ((n:Int) - (i:Nat)) 1) where
 mem:=by simp
 obj:=λi h st b hb=>by
  have e:b=it:=by simpa using hb
  subst e;exact⟨_,st,λv z=>by
   have y:Data.fields _=Data.cell v:=z;cases y⟩
 keep:=λi h h' st k=>k it (by simp) _ st
 item:=by intro X hP hw hK m i pins s σ H E I hf st hg;subst hP hw hK;obtain⟨c,d,r,f,j,l⟩:=hf it (by simp);have W:=Walks.range (prog:=X.prog) (w:=X.w) (I.ok.hd m) it lo 1 n;refine W.item i s _ _ hg st λv h' tk u a x=>?_;obtain⟨t,rfl⟩:=u;have p:b? X pins σ H { s with heap:=h',toks:=tk }:=I.j? (λb o hb e=>x b o (by simpa using hb) e) c d f j l;refine⟨_,O,Nv (s:={ s with heap:=h',toks:=tk }) (n:="range_iterator") a rfl O (by decide) ⟨.int (lo+i),H,p,⟨t,?_⟩,⟨O,O⟩,a,λb hb=>(hf b hb).1⟩⟩;rw[Int.mul_one]
 done:=by intro X hP hw hK m i pins s σ H E I hf st hg;subst hP hw hK;obtain⟨c,d,r,f,j,l⟩:=hf it (by simp);exact wpAny_pyNext_range_end (I.ok.hd m) st (by have:n<=i:=hg;omega) λh' q=>⟨O,I.j? (t':=s.toks) (λb o hb e=>q b o hb e) c d f j l⟩
 self:=λ_ _ _ _ _ st h=>wpAny_pyIter_rangeiter st h
section
variable{X:Cx}{tg:Expr}
def Qd(K:au)(c:TE):TI:=λe H R=>c e H λx b=>∃a,x=.ref a/\(∃d,f3 K b a d)/\R (Itl K a) b
def WN(K:au)(c:TE):TI:=λe H R=>c e H λx b=>∃a,x=.ref a/\(∃d,fu K b a d)/\R (Itt K a) b
def TR{l:Expr}{i:TE}(r:PE X l i):PI X tg l (Qd X.K i):=by
 intro c s z H R I h;refine ff (r c s z H _ I h) λv f zz=>?_;obtain⟨x,j,d,y,w⟩:=zz;obtain⟨a,e,⟨E,t⟩,q⟩:=w;subst e;cases y;obtain⟨u,B,p,A⟩:=d.list t;refine fQ p.isList ?_;refine⟨f.heap.objs.size,[f.heap.objs.size],_,_,j,O,d.f5 (t':=f.toks) λb o e=>aJ _ e,OP a _,⟨_,bg _ O,O,O⟩,λb m=>?_,q⟩;have e:b=f.heap.objs.size:=by simpa using m
 subst e;exact d.Y' (aO _) (d.e?.fresh (aO _))
def WO{l:Expr}{j:TE}(t:PE X l j):PI X tg l (WN X.K j):=by
 intro c s z H R I h;refine ff (t c s z H _ I h) λv d zz=>?_;obtain⟨x,m,f,y,w⟩:=zz;obtain⟨a,e,⟨E,u⟩,q⟩:=w;subst e;cases y;obtain⟨i,B,p,A⟩:=f.tuple u;refine kF (show d.heap.IsTuple a i.toArray from p) ?_;refine⟨d.heap.objs.size,[d.heap.objs.size],_,_,m,O,f.f5 (t':=d.toks) λb o e=>aJ _ e,Ml a _,⟨_,bg _ O,O,O⟩,λb r=>?_,q⟩;have e:b=d.heap.objs.size:=by simpa using r
 subst e;exact f.Y' (aO _) (f.e?.fresh (aO _))
def Qe{pins:cB}{σ:St}{H:Hp}{s:ae}{R:It->Hp->Prop}{E:ab->ae->Prop}{lo hi:Int}{t u v:Tok}{tk:Nat}(I:b? X pins σ H s)(f:-(2 ^ 62)<=lo)(h:lo<2 ^ 62)(i:-(2 ^ 62)<=hi)(j:hi<2 ^ 62)
  (q:R (Itr lo (hi - lo).toNat) H):ag (model X.prog X.w) X.A (pyIter (.ref s.heap.objs.size)) (PIE X pins σ tg R) E { s with heap:=s.heap.push { cls:=.type "range", data:=.fields #[.int lo t,.int hi u,.int 1 v] },toks:=tk }:=by
 refine wpAny_pyIter_range (IsRange.new ..) (small_one f h i j) ?_;have a:b? X pins σ H { s with heap:=s.heap.push { cls:=.type "range", data:=.fields #[.int lo t,.int hi u,.int 1 v] },toks:=tk }:=I.f5 λb o e=>aJ _ e;refine⟨(s.heap.push { cls:=.type "range", data:=.fields #[.int lo t,.int hi u,.int 1 v] }).objs.size,[(s.heap.push { cls:=.type "range", data:=.fields #[.int lo t,.int hi u,.int 1 v] }).objs.size],_,_,H,O,
  a.f5 (t':=tk) λb o e=>aJ _ e,Mn _ lo (hi - lo).toNat,?_,λb hb=>?_,q⟩
 .have c:lo+((0:Nat):Int) * 1=lo:=by simp
  have d:(((hi - lo).toNat:Nat):Int) - ((0:Nat):Int)=sm lo hi 1:=by rw[rangeSize_one];split<;>omega
  show IsRangeIter _ _ (lo+((0:Nat):Int) * 1) ((((hi - lo).toNat:Nat):Int) - ((0:Nat):Int)) 1;rw[c,d];exact bg _ O
 .have e:b=(s.heap.push { cls:=.type "range", data:=.fields #[.int lo t,.int hi u,.int 1 v] }).objs.size:=by simpa using hb
  subst e;exact a.Y' (aO _) (a.e?.fresh (aO _))
def VW(b:TA):TI:=λd H R=>b d H λc a=>∃j:Int,c=[.int j]/\-(2 ^ 62)<=j/\j<2 ^ 62/\R (Itr 0 j.toNat) a
def OQ{a:Expr}{d:TA}{p pos:Pos}(l:Gl X "range")(m:X.mg "range" = J)(i:PA X [a] d)(o:aC [a] X.b5=[(δ,eval a X.b5)]:=by rfl):PI X tg (.Call (.Name "range" p) [a] [] pos) (VW d):=by
 intro b s y H R I h;refine Call_ (AW I l m boot_range (callWith_type1 (ff (i pos b s y H _ I h) λB A zz=>?_) o O));obtain⟨C,z,f,w,c⟩:=zz;obtain⟨j,e,c,u,q⟩:=c;subst e;cases w with
 |cons r x=>cases x;obtain⟨t,rfl⟩:=r;exact call_range_1 (Qe f (by omega) (by omega) c u (by simpa using q))
def WQ(d:TI)(g:TG)(c:TS):TS:=λD σ H=>d σ H λAt H1=>∃W:Nat->Nat->St->Hp->Prop,(∃m,W 0 m σ H1)/\∀i m σ H,W i m σ H->
 (At.stop i H/\D.nx σ H)\/(At.go i H/\∃N:St->Hp->Prop,(∀σ' H',N σ' H'->∃b,b<m/\W (i+1) b σ' H')/\∀x H',At.yld i H x H'->g x σ H' λa H2=>c { D with nx:=N,ct:=N,bk:=D.nx } a H2)
def GN(a:List Addr)(h:Heap):cB:=a.filterMap λb=>(h.get? b).map λo=>(b,o)
def zq{h:Heap}(a:b∈fp)(e:h.get? b=Z o):(b,o)∈GN fp h:=iz.2 ⟨b,a,by rw[e];rfl⟩
def OR(f:p∈GN c h):p.1∈c/\h.get? p.1=Z p.2:=by
 obtain⟨b,d,e⟩:=iz.1 f;cases q:h.get? b with
 |none=>rw[q]at e;cases e
 |some o=>rw[q]at e;have a:(b,o)=p:=cu e;subst a;exact⟨d,q⟩
def b?.Z'(I:b? X a r H s)(l:∀b∈fp,IF X a H b)(m:∀b∈fp,∃o,s.heap.get? b=Z o/\∀v,o.data≠.cell v):b? X (a++GN fp s.heap) r H s:=
 I.τ λp q=>(bb.1 q).elim (λz=>I.pin p (bE _ z)) λz=>by obtain⟨f,e⟩:=OR z;obtain⟨h,i,j,_⟩:=l p.1 f;obtain⟨o,c,d⟩:=m p.1 f;rw[e]at c;cases c;exact⟨e,h,i,j,d⟩
def b?.oo(I:b? X (a++pl) c H s):b? X a c H s:=I.τ λp b=>I.pin p (bE _ (bL _ b))
def Qf(F:jP (model X.prog X.w) X.A X.b5 X.xe)(hc:X.nr=γ)(hi:PI X tg iter wi)(hg:PG X tg g)(p:n9 X body tb)
  (hs:∀x,iA iter X.b5 x=pure x:=by intro _;rfl):PS X (.For tg iter body [] pos) (WQ wi g tb):=by
 intro a s σ H D I h;refine wpAny_For (ff (hi a s σ H _ I h) λv s1 h1=>ff h1 λitv s2 h2=>?_) hs;obtain⟨it,C,tn,At,H2,e,I2,T,Y,f2,W,⟨m0,w0⟩,turn⟩:=h2;subst e;have stat:∀{y:Hp},(∀b∈C,y b=J)->∀b∈C,IF X a y b:=λhn b p=>⟨hn b p,(f2 b p).2⟩;refine codeAny_forLoop_any (λn s'=>∃i q y,b? X a q y s'/\tn i s'.heap/\(∀b∈C,y b=J)/\W i n q y) ?_ m0 ⟨0,σ,H2,I2,Y,λb p=>(f2 b p).1,w0⟩;rintro n s3 ⟨i,t,P,I3,M,E,w3⟩;rcases turn i n t P w3 with ⟨stop,qn⟩|⟨go,N,hN,step⟩
 .refine fY F (ff (T.done X O O O hc i a s3 t P X.xe I3 (stat E) M stop) λr s4 zz=>?_);obtain⟨S,I4⟩:=zz;subst S;exact jz ⟨t,P,I4,qn⟩
 .refine fY F (ff (T.item X O O O hc i a s3 t P X.xe I3 (stat E) M go) λr s4 zz=>?_);obtain⟨u,S,h4⟩:=zz;subst S;refine fY F (ff h4 λ_ s5 zz=>?_);obtain⟨x,H5,I5,r5,y5,B,R⟩:=zz;have Q:=I5.Z' (stat R) (T.obj _ _ B);refine fY F (ff (hg _ s5 t H5 x u _ Q r5 (step x H5 y5)) λ_ s6 zz=>?_);obtain⟨σ6,H6,I6,q6⟩:=zz;refine fY F (ff (p _ s6 σ6 H6 _ I6 q6) λf U z=>?_);have again:∀{c:St} {j:Hp},b? X (a++GN C s5.heap) c j U->N c j->∃m,m<n/\∃i q y,b? X a q y U/\tn i U.heap/\(∀b∈C,y b=J)/\W i m q y:=λ{c j} l G=>by obtain⟨m',hm,w7⟩:=hN c j G;refine⟨m',hm,i+1,c,j,l.oo,T.keep _ _ _ B λb p o e=>(l.pin (b,o) (bE _ (bE _ (zq p e)))).1,λb p=>?_,w7⟩;obtain⟨o,e,d⟩:=T.obj _ _ B b p;exact(l.pin (b,o) (bE _ (bE _ (zq p e)))).2.1
  cases f with
  |next=>obtain⟨c,j,l,G⟩:=z;exact again l G
  |cont=>obtain⟨c,j,l,G⟩:=z;exact again l G
  |brk=>obtain⟨c,j,l,z⟩:=z;exact⟨c,j,l.oo,z⟩
  |ret v=>obtain⟨x7,c,j,l,r7,z⟩:=z;exact⟨x7,c,j,l.oo,r7,z⟩
end
abbrev R2:=V->V->Hp->VK->Prop
def i1(X:Cx)(f:ab->ab->Sem ab)(r:R2):Prop:=
 ∀(a:cB) (s:ae) (b:St) (H:Hp) (x y:V) (v u:ab) (Q:VK),b? X a b H s->df x v->df y u->r x y H Q->
  ag (model X.prog X.w) X.A (f v u) (EP X a b Q) X.xe s
def UnR(X:Cx)(f:ab->Sem ab)(r:V->Hp->VK->Prop):Prop:=
 ∀(a:cB) (s:ae) (b:St) (H:Hp) (x:V) (v:ab) (Q:VK),b? X a b H s->df x v->r x H Q->
  ag (model X.prog X.w) X.A (f v) (EP X a b Q) X.xe s
def vZ(X:Cx)(f:ab)(r:bC->Hp->VK->Prop):Prop:=
 ∀(a:cB) (s:ae) (d:St) (H:Hp) (c:bC) (b:List ab) (Q:VK),b? X a d H s->c9 c b->r c H Q->
  ag (model X.prog X.w) X.A (call f b) (EP X a d Q) X.xe s
def tOp(r:R2)(d e:TE):TE:=λa H Q=>d a H λx b=>e a b λy c=>r x y c Q
def tUn(r:V->Hp->VK->Prop)(b:TE):TE:=λc H Q=>b c H λx a=>r x a Q
def rI(C:Int->Int->Prop)(g:Int->Int->V):R2:=λx y H Q=>∃i j,x=.int i/\y=.int j/\C i j/\Q (g i j) H
def S3(g:Int->Int->V):R2:=λx y H Q=>∃i j,x=.int i/\y=.int j/\Q (g i j) H
def rU(g:Int->V):V->Hp->VK->Prop:=λx H Q=>∃i,x=.int i/\Q (g i) H
section
variable{X:Cx}{a b c:Expr}{ta tb tc:TE}{pos:Pos}
def WR(r:PE X a ta)(t:PE X b tb){d:cB}{s:ae}{i:St}{H:Hp}{R:V->V->Hp->Prop}(I:b? X d i H s)
  (h:ta i H λx o=>tb i o λy e=>R x y e) {Q:ab->ae->Prop} {f:ab->ab->Sem ab}
  (z:∀v u m x y e,b? X d i e m->df x v->df y u->R x y e->ag (model X.prog X.w) X.A (f v u) Q X.xe m):
  ag (model X.prog X.w) X.A (eval a X.b5) (λv j=>ag (model X.prog X.w) X.A (eval b X.b5) (λu l=>ag (model X.prog X.w) X.A (f v u) Q X.xe l) X.xe j) X.xe s:=by
 refine ff (r d s i H _ I h) λv G zz=>?_;obtain⟨x,o,p,E,B⟩:=zz;refine ff (t d G i o _ p B) λu m zz=>?_;obtain⟨y,e,q,F,C⟩:=zz;exact z v u m x y e q E F C
def Qg(l:i1 X (cO m) r)(i:PE X a ta)(j:PE X b tb):PE X (.BinOp a m b pos) (tOp r ta tb):=by intro d s w H Q I h;exact wpAny_BinOp (WR i j I h λv u t x y e f o p q=>l d t w e x y v u Q f o p q)
def aav(l:UnR X (unaryOp m) r)(j:PE X a ta):PE X (.UnaryOp m a pos) (tUn r ta):=by intro d s e H Q I h;exact UnaryOp_ (ff (j d s e H _ I h) λv q ⟨x,f,i,p,o⟩=>l d q e f x v Q i p o)
def opI{f:ab->ab->Sem ab}{C:Int->Int->Prop}{g:Int->Int->Int}
  (rule:∀(i j:Int) (t u:Tok) (s:ae) (Q:ab->ae->Prop) (E:ab->ae->Prop),C i j->Q (.int (g i j) s.toks) { s with toks:=s.toks+1 }->ag (model X.prog X.w) X.A (f (.int i t) (.int j u)) Q E s):
  i1 X f (rI C λi j=>.int (g i j)):=by
 intro pins s σ H x y v u Q I e l h;obtain⟨i,j,rfl,rfl,d,q⟩:=h;obtain⟨t,rfl⟩:=e;obtain⟨m,rfl⟩:=l;exact rule i j t m s _ _ d ⟨.int (g i j),H,I.x? _,⟨_,O⟩,q⟩
def WS{f:ab->ab->Sem ab}{g:Int->Int->Int}
  (rule:∀(i j:Int) (t u:Tok) (s:ae) (Q:ab->ae->Prop) (E:ab->ae->Prop),Q (.int (g i j) s.toks) { s with toks:=s.toks+1 }->ag (model X.prog X.w) X.A (f (.int i t) (.int j u)) Q E s):
  i1 X f (S3 λi j=>.int (g i j)):=by
 intro pins s σ H x y v u Q I d e h;obtain⟨i,j,rfl,rfl,q⟩:=h;obtain⟨t,rfl⟩:=d;obtain⟨l,rfl⟩:=e;exact rule i j t l s _ _ ⟨.int (g i j),H,I.x? _,⟨_,O⟩,q⟩
def TU{f:ab->ab->Sem ab}{g:Int->Int->Bool}
  (rule:∀(i j:Int) (t u:Tok) (s:ae) (Q:ab->ae->Prop) (E:ab->ae->Prop),Q (.bool (g i j)) s->ag (model X.prog X.w) X.A (f (.int i t) (.int j u)) Q E s):
  i1 X f (S3 λi j=>.O (g i j)):=by
 intro d s o H x y v u Q I e l h;obtain⟨i,j,rfl,rfl,q⟩:=h;obtain⟨t,rfl⟩:=e;obtain⟨m,rfl⟩:=l;exact rule i j t m s _ _ ⟨.O (g i j),H,I,O,q⟩
def WT(i j:Int):Prop:=0<j/\j<1073741824
def CPow(i j:Int):Prop:=0<=j/\j<=1000000/\i.natAbs<2 ^ 64
def TV(i j:Int):Prop:=(-(2 ^ 64)<i/\i<2 ^ 64)\/(-(2 ^ 64)<j/\j<2 ^ 64)
def TV.ok(h:TV i j):IntMulOk i j:=by
 rcases h with ⟨d,e⟩|⟨d,e⟩
 .exact .of_left (pL d e)
 .exact .of_right (pL d e)
def Mo(k:Nat):(0:Int)<=2 ^ k:=by rw[two_pow_cast];exact nZ _
def WU:i1 X (cO .Add) (S3 λi j=>.int (i+j)):=WS λ_ _ _ _ _ _ _ q=>add_int q
def WV:i1 X (cO .Sub) (S3 λi j=>.int (i - j)):=WS λ_ _ _ _ _ _ _ q=>sub_int q
def WX:i1 X (cO .Mult) (rI TV λi j=>.int (i * j)):=opI λ_ _ _ _ _ _ _ d q=>mul_int q d.ok
def TX:i1 X (cO .FloorDiv) (rI WT λi j=>.int (i / j)):=opI λi j _ _ _ _ _ d q=>by have e:(0:Int)<j:=d.1;have f:j<1073741824:=d.2;exact floordiv_int (by omega) (by rw[mM i (by omega)];exact q) (.inl (PyProof.noPylong_small (by omega)))
def WY:i1 X (cO .Mod) (rI (λ_ j=>0<j) λi j=>.int (i % j)):=opI λi j _ _ _ _ _ d q=>by have e:(0:Int)<j:=d;exact mod_int' (by omega) (by rw[Int.fmod_eq_emod_of_nonneg i (by omega)];exact q)
def WZ:i1 X (cO .Pow) (rI CPow λi j=>.int (i ^ j.toNat)):=opI λ_ _ _ _ _ _ _ d q=>pow_int_small d.1 d.2.1 d.2.2 q
def W0:i1 X (cO .RShift) (rI (λ_ j=>0<=j) λi j=>.int (i / 2 ^ j.toNat)):=opI λi j _ _ _ _ _ d q=>
 rshift_int d (by rw[mM i (Mo _)];exact q)
def W2:i1 X (cO .BitAnd) (S3 λi j=>.int (f7 i j)):=WS λ_ _ _ _ _ _ _ q=>and_int q
def unI{f:ab->Sem ab}{g:Int->Int}
  (rule:∀(i:Int) (t:Tok) (s:ae) (Q:ab->ae->Prop) (E:ab->ae->Prop),Q (.int (g i) s.toks) { s with toks:=s.toks+1 }->ag (model X.prog X.w) X.A (f (.int i t)) Q E s):
  UnR X f (rU λi=>.int (g i)):=by
 intro pins s σ H x v Q I d h;obtain⟨i,rfl,q⟩:=h;obtain⟨t,rfl⟩:=d;exact rule i t s _ _ ⟨.int (g i),H,I.x? _,⟨_,O⟩,q⟩
def W3:UnR X (unaryOp .USub) (rU λi=>.int (-i)):=unI λ_ _ _ _ _ q=>neg_int q
end
def Qh:V->V->Bool
 |.I,.I=>γ|.I,.int _=>γ|.int _,.I=>γ|.I,.O _=>γ|.O _,.I=>γ|.I,.str _=>γ|.str _,.I=>γ
 |.int _,.int _=>γ|.O _,.O _=>γ|.str _,.str _=>γ|.X _,.X _=>γ
 |.int _,.str _=>γ|.str _,.int _=>γ|.O _,.str _=>γ|.str _,.O _=>γ
 |_,_=>δ
def rEq:R2:=λx y H Q=>Qh x y=γ/\Q (.O (decide (x=y))) H
def rNe:R2:=λx y H Q=>Qh x y=γ/\Q (.O (!decide (x=y))) H
def Nw:decide (V.int i=V.int j)=(i==j):=by rw[cX];simp
def Qi:decide (V.O i=V.O j)=(i==j):=by rw[cX];simp
def Nx:decide (V.str i=V.str j)=(i==j):=by rw[cX];simp
def Ny:decide (V.X i=V.X j)=(i.toList==j.toList):=by rw[cX];cases i;cases j;simp
section
variable{X:Cx}{a b c:Expr}{ta tb tc:TE}{pos:Pos}
def uR(I:b? X d h H s)(q:Q (.O k) H)(e:k=f):EP X d h Q (.bool f) s:=by subst e;exact⟨.O k,H,I,O,q⟩
def aax:i1 X (bA .Eq) rEq:=by
 intro m s o H x y v u Q I l d h;obtain⟨f,q⟩:=h;cases x with
 |I=>
  cases l;cases y with
  |I=>cases d;exact rH (uR I q (by simp))
  |O j=>cases d;exact rJ (uR I q (by simp))
  |int j=>obtain⟨e,rfl⟩:=d;exact rT (uR I q (by simp))
  |str j=>obtain⟨e,rfl⟩:=d;exact rV (uR I q (by simp))
  |_=>exact ao (show δ=γ from f) bx
 |O i=>
  cases l;cases y with
  |I=>cases d;exact rK (uR I q (by simp))
  |O j=>cases d;exact eq_bool (uR I q Qi)
  |str j=>obtain⟨e,rfl⟩:=d;exact rL (uR I q (by simp))
  |_=>exact ao (show δ=γ from f) bx
 |int i=>
  obtain⟨t,rfl⟩:=l;cases y with
  |I=>cases d;exact rW (uR I q (by simp))
  |int j=>obtain⟨e,rfl⟩:=d;exact eq_int (uR I q Nw)
  |str j=>obtain⟨e,rfl⟩:=d;exact rX (uR I q (by simp))
  |_=>exact ao (show δ=γ from f) bx
 |str i=>
  obtain⟨t,rfl⟩:=l;cases y with
  |I=>cases d;exact rY (uR I q (by simp))
  |O j=>cases d;exact rM (uR I q (by simp))
  |int j=>obtain⟨e,rfl⟩:=d;exact rZ (uR I q (by simp))
  |str j=>obtain⟨e,rfl⟩:=d;exact eq_str (uR I q Nx)
  |_=>exact ao (show δ=γ from f) bx
 |X i=>
  obtain⟨t,rfl⟩:=l;cases y with
  |X j=>obtain⟨e,rfl⟩:=d;exact W.eq_bytes (uR I q Ny)
  |_=>exact ao (show δ=γ from f) bx
 |_=>cases y<;>exact ao (show δ=γ from f) bx
def aay:i1 X (bA .NotEq) rNe:=by
 intro m s o H x y v u Q I l d h;obtain⟨f,q⟩:=h;cases x with
 |I=>
  cases l;cases y with
  |I=>cases d;exact rN (uR I q (by simp))
  |O j=>cases d;exact rO (uR I q (by simp))
  |int j=>obtain⟨e,rfl⟩:=d;exact r6 (uR I q (by simp))
  |str j=>obtain⟨e,rfl⟩:=d;exact r9 (uR I q (by simp))
  |_=>exact ao (show δ=γ from f) bx
 |O i=>
  cases l;cases y with
  |I=>cases d;exact rP (uR I q (by simp))
  |O j=>cases d;exact ne_bool (uR I q (bp not Qi))
  |str j=>obtain⟨e,rfl⟩:=d;exact rQ (uR I q (by simp))
  |_=>exact ao (show δ=γ from f) bx
 |int i=>
  obtain⟨t,rfl⟩:=l;cases y with
  |I=>cases d;exact sd (uR I q (by simp))
  |int j=>obtain⟨e,rfl⟩:=d;exact ne_int (uR I q (bp not Nw))
  |str j=>obtain⟨e,rfl⟩:=d;exact se (uR I q (by simp))
  |_=>exact ao (show δ=γ from f) bx
 |str i=>
  obtain⟨t,rfl⟩:=l;cases y with
  |I=>cases d;exact sf (uR I q (by simp))
  |O j=>cases d;exact rR (uR I q (by simp))
  |int j=>obtain⟨e,rfl⟩:=d;exact sg (uR I q (by simp))
  |str j=>obtain⟨e,rfl⟩:=d;exact ne_str (uR I q (bp not Nx))
  |_=>exact ao (show δ=γ from f) bx
 |X i=>
  obtain⟨t,rfl⟩:=l;cases y with
  |X j=>obtain⟨e,rfl⟩:=d;exact W.ne_bytes (uR I q (bp not Ny))
  |_=>exact ao (show δ=γ from f) bx
 |_=>cases y<;>exact ao (show δ=γ from f) bx
def aaz:i1 X (bA .Lt) (S3 λi j=>.O (decide (i<j))):=TU λ_ _ _ _ _ _ _ q=>lt_int q
def aaA:i1 X (bA .LtE) (S3 λi j=>.O (decide (i<=j))):=TU λ_ _ _ _ _ _ _ q=>le_int q
def aaB:i1 X (bA .Gt) (S3 λi j=>.O (decide (j<i))):=TU λ_ _ _ _ _ _ _ q=>gt_int q
def aaC:i1 X (bA .GtE) (S3 λi j=>.O (decide (j<=i))):=TU λ_ _ _ _ _ _ _ q=>ge_int q
def W4:i1 X (bA .Is) (λx y H Q=>y=.I/\Q (.O (decide (x=.I))) H):=by
 intro d s i H x y v u Q I e f h;obtain⟨rfl,q⟩:=h;cases f;refine is_none_gen (uR I q ?_);cases x<;>first
  |(cases e;rfl)
  |(obtain⟨t,rfl⟩:=e;rfl)
def TY:i1 X (bA .IsNot) (λx y H Q=>y=.I/\Q (.O (!decide (x=.I))) H):=by
 intro d s i H x y v u Q I e f h;obtain⟨rfl,q⟩:=h;cases f;refine isnot_none_gen (uR I q ?_);cases x<;>first
  |(cases e;rfl)
  |(obtain⟨t,rfl⟩:=e;rfl)
def TZ(o:i1 X (bA e) r)(j:PE X a ta)(l:PE X b tb)(m:f9 e b=δ):PE X (.Compare a [e] [b] pos) (tOp r ta tb):=by intro d s z H Q I h;exact wpAny_Compare1 (WR j l I h λv u w x y f i p t q=>o d w z f x y v u Q i p t q) m
def Qj(t:TE):TT:=λe H Q=>t e H λx d=>∃k,x=.O k/\Q k d
def T2(B:i1 X (bA i) r)(t:PE X a ta)(w:PE X b tb)(A:f9 i b=δ):PT X (.Compare a [i] [b] pos) (Qj (tOp r ta tb)):=by
 intro d s f H Q I h;refine ni (ff (t d s f H _ I h) λv N ⟨x,j,o,F,C⟩=>ff (w d N f j _ o C) λu P ⟨y,l,p,G,E⟩=>
  ff (B d P f l x y v u _ p F G E) λc R ⟨z,m,q,M,k,e,q3⟩=>?_) A
 subst e;cases M;exact dB ⟨m,q,q3⟩
def Mp(r j:R2)(ta tb tc:TE):TE:=λd H Q=>ta d H λx f=>tb d f λy h=>r x y h λz e=>∃k,z=.O k/\
 (if k=γ then tc d e λl i=>j y l i Q else Q (.O δ) e)
def Qk(P:i1 X (bA p) r)(l:i1 X (bA i) U)(F:PE X a ta)(G:PE X b tb)(M:PE X c tc)
  (N:lastMarks [p,i] [b,c]=δ:=by with_unfolding_all rfl):PE X (.Compare a [p,i] [b,c] pos) (Mp r U ta tb tc):=by
 intro f s j H Q I h;refine Compare_chain (ff (F f s j H _ I h) λv s1 ⟨x,t,B,W,R⟩=>chain_link (ff (G f s1 j t _ B R) λu s2 ⟨y,w,C,q,S⟩=>
  ff (P f s2 j w x y v u _ C W q S) λd s3 ⟨z,m,o,Y,k,e,q3⟩=>?_)) N
 subst e;cases Y;refine dB ?_;cases k with
 |false=>exact ite_ff ⟨.O δ,m,o,O,q3⟩
 |true=>exact ite_tt (chain_last (ff (M f s3 j m _ o q3) λw' s4 ⟨z',A,E,r4,T⟩=>l f s4 j A y z' u w' Q E q r4 T))
def Ql(U:i1 X (bA p) r)(l:i1 X (bA i) r')(P:PE X a ta)(R:PE X b tb)(S:PE X c tc)
  (T:lastMarks [p,i] [b,c]=δ:=by with_unfolding_all rfl):PT X (.Compare a [p,i] [b,c] pos) (Qj (Mp r r' ta tb tc)):=by
 intro f s j H Q I h;refine isTrue_chain (ff (P f s j H _ I h) λv s1 ⟨x,t,C,r1,Y⟩=>test_link (ff (R f s1 j t _ C Y) λu s2 ⟨y,w,E,q,q2⟩=>
  ff (U f s2 j w x y v u _ E r1 q q2) λd s3 ⟨z,m,o,r3,k,e,q3⟩=>?_)) T
 subst e;cases r3;refine dB ?_;cases k with
 |false=>obtain⟨k',M,W⟩:=q3;cases M;exact ite_ff ⟨m,o,W⟩
 |true=>refine ite_tt (test_last (ff (S f s3 j m _ o q3) λw' s4 ⟨z',A,F,r4,q4⟩=>ff (l f s4 j A y z' u w' _ F q r4 q4) λd' s5 ⟨z2,B,G,r5,k2,N,q5⟩=>?_));subst N;cases r5;exact dB ⟨B,G,q5⟩
def GO:(aI:Nat)<2 ^ 63:=by rw[bN];decide
def m?(r:c9 [x] f):∃u,f=[u]/\df x u:=by
 cases r with
 |cons d e=>cases e;exact⟨_,O,d⟩
def vals2(r:c9 [x,y] j):∃u d,j=[u,d]/\df x u/\df y d:=by
 cases r with
 |cons e f=>
  cases f with
  |cons h i=>cases i;exact⟨_,_,O,e,h⟩
end
structure Mq(h:Heap)(x dx C:Addr)(mA:Str->Option ab):Prop where
 obj:h.get? x=Z (eS C dx)
 ns:h.Ns1 dx mA
 ne:dx≠x
def OS{h:Heap}(n:h.Ns1 f mA):∃c,h.get? f=Z c/\∀name,jQ name c=Z (mA name):=by
 obtain⟨o,b,p,l,hd,i,_,j⟩:=n;refine⟨o,l,λname=>?_⟩;have e:=j name;unfold nsFind findBy at e;rw[<-Array.find?_toList]at e;unfold jQ;rw[hd];dsimp only;split
 .rename_i y q;rw[q]at e;exact bp Z e
 .rename_i q;rw[q]at e;have a:b.toList.any (·.refKey)=δ:=by rw[ou];intro y m;obtain⟨z,t,hkey⟩:=i y (Array.mem_toList_iff.1 m);simp[DictEntry.refKey,hkey]
  have d:¬b.toList.any (·.refKey)=γ:=by rw[a];exact bx
  rw[ai d];exact bp Z e
def Mq.look(I:Mq h x b C mA):∃a,W.InstAt h x (eS C b) C (Z a)/\∀name,jQ name a=Z (mA name):=
 let ⟨a,d,c⟩:=OS I.ns
 ⟨a,⟨I.obj,O,O,d⟩,c⟩
section
variable{prog:aF}{w:ay}{A:aM}{E:ab->ae->Prop}{s:ae}{K:au}{x dx C f:Addr}{mA:Str->Option ab}{name:Str}{v:ab}
def get_map(X:K.In s.heap)(I:Mq s.heap x dx C mA)(hg:jM K C name=γ)(b:l6 K C=γ)
  (ha:cP K (.ref C) name=Z J) (d:mA name=Z v) (a:W.handedIn v=γ) (h:Q v { s with toks:=s.toks+1 }):
  ag (model prog w) A (getAttr (.ref x) name expr) Q E s:=by
 obtain⟨od,At,c⟩:=I.look;exact W.get_value X At (lA hg).1 (W.findObj_own b ha O (by rw[c,d])) a h
def Qm(X:K.In s.heap)(I:Mq s.heap x dx C mA)(a:jM K C name=γ)
  (c:cP K (.ref C) name=Z (Z (.ref f))) (e:jT K (.ref f)=γ) (i:mA name=J) (h:Q (.ref f,[.ref x]) s):
  ag (model prog w) A (getMethod (.ref x) name pl) Q E s:=by
 obtain⟨j,b,d⟩:=I.look;exact W.method_fn X b (lA a).1 (lA a).2 c (beq_iff_eq.mp e) (by show (jQ name j).map (·.isSome)=Z δ;rw[d,i];rfl) h
def Gq(X:K.In s.heap)(I:Mq s.heap x dx C mA)
  (hs:cP K (.ref C) "__setattr__" = Z (Z (.builtin "object.__setattr__"))) (l:qh K C=γ) (o:mi K C name=Z J) (j:l6 K C=γ)
  (hw:lL mA ns) (m:ns.length<=aI)
  (h:∀h',Mq h' x dx C (λy=>if y=name then Z v else mA y)->cG dx s.heap h'->Q () { s with heap:=h',toks:=s.toks+2 }):
  ag (model prog w) A (setAttr (.ref x) name v) Q E s:=by
 obtain⟨od,At,t⟩:=I.look;refine W.set_plain X At hs (W.osa_open (s:={ s with toks:=s.toks+1 }) (r:=J) X At l o λb=>?_);obtain⟨q,i,e⟩:=W.any_some j;have p:s.heap.get? x=Z ⟨.ref C,Z dx,.plain,#[]⟩:=I.obj;refine af (ar (af (af (wpAny_loadPart p (af (W.Looks.here (s:={ s with toks:=s.toks+1 }) (W.looks_clsIn X i) ?_))))));rw[e];refine ar (a:=Z dx) (af (ar (af ?_)));refine wpAny_nsSet1 (s:={ s with toks:=s.toks+1 }) I.ns λh' c d=>?_;obtain⟨oD,esD,epD,hoD,hdD,hcD⟩:=c.count (tJ name v hw);refine af (wpAny_lookBehind hoD (by rw[hdD];exact pastItsLine_dict (bM hcD (by rw[aS];omega))) ?_);exact ar (h _ ⟨(d.2 _ (cI I.ne)).t I.obj,c,I.ne⟩ d)
def Qn(X:K.In s.heap)(hm:mj K C=γ)
  (hi:cP K (.ref C) "__init__" = Z (Z (.ref f))) (hf:W.typeIn K (.ref f)=Z (.type "function"))
  (h:b9 (model prog w) (A.under (.builtin "type.__call__" ⟨.ref C::vs,a⟩)) (.call (.ref f) ⟨.ref (s.heap.objs.size+1)::vs,a⟩) (W.InitBack (s.heap.objs.size+1) R)
   { s with heap:=(s.heap.push dZ).push (eS C s.heap.objs.size) }):
  b9 (model prog w) A (.call (.ref C) ⟨vs,a⟩) R s:=by
 obtain⟨b,g,d,t,os⟩:=s;exact qj (mh X hm) (pz X hi) (λself=>W.bind_fn X self hf) (.inl O) h
def OT(X:K.In s.heap)(hm:mj K C=γ)
  (hi:cP K (.ref C) "__init__" = Z (Z (.builtin "object.__init__")))
  (hb:∀self,W.Looks (model prog w) s.heap (bindSpecial (.builtin "object.__init__") self) (.builtin "object.__init__", [self]))
  (h:b9 (model prog w) (A.under (.builtin "type.__call__" ⟨[.ref C],[]⟩)) (.call (.builtin "object.__init__") ⟨[.ref (s.heap.objs.size+1)],[]⟩) (W.InitBack (s.heap.objs.size+1) R)
   { s with heap:=(s.heap.push dZ).push (eS C s.heap.objs.size) }):
  b9 (model prog w) A (.call (.ref C) ⟨[],[]⟩) R s:=by
 obtain⟨a,g,d,t,os⟩:=s;exact qj (mh X hm) (pz X hi) hb (.inr ⟨O,O⟩) h
end
def Av(f:Str)(v:V):List (Str×V)->List (Str×V)
 |[]=>[(f,v)]
 |(g,x)::r=>if g=f then (g,v)::r else (g,x)::Av f v r
theorem Fh(f g:Str)(v:V):∀fs:List (Str×V),(Av f v fs).lookup g=if g=f then Z v else fs.lookup g
 |[]=>by
  show dJ g [(f,v)]=_;by_cases h:g=f
  .have a:(g==f)=γ:=beq_iff_eq.mpr h;simp only[dJ,a,aj h]
  .have a:(g==f)=δ:=beq_eq_false_iff_ne.2 h;simp only[dJ,a,ai h]
 |(k,x)::r=>by
  have c:=Fh f g v r;rw[show Av f v ((k,x)::r)=(if k=f then (k,v)::r else (k,x)::Av f v r) from O];by_cases b:k=f
  .rw[aj b];by_cases h:g=k
   .have a:(g==k)=γ:=beq_iff_eq.mpr h;simp only[dJ,a,aj (h.t b)]
   .have a:(g==k)=δ:=beq_eq_false_iff_ne.2 h;simp only[dJ,a,ai (λe:g=f=>h (e.t b.symm))]
  .rw[ai b];by_cases h:g=k
   .have a:(g==k)=γ:=beq_iff_eq.mpr h;simp only[dJ,a,ai (λe:g=f=>b (h.symm.t e))]
   .have a:(g==k)=δ:=beq_eq_false_iff_ne.2 h;simp only[dJ,a];exact c
theorem EL(f:Str)(v:V):∀fs:List (Str×V),f∈(Av f v fs).map (·.1)/\∀g,g∈fs.map (·.1)->g∈(Av f v fs).map (·.1)
 |[]=>⟨by simp[Av],λg h=>by simp at h⟩
 |(k,x)::r=>by
  obtain⟨b,c⟩:=EL f v r;rw[show Av f v ((k,x)::r)=(if k=f then (k,v)::r else (k,x)::Av f v r) from O];by_cases a:k=f
  .rw[aj a];subst a;exact⟨by simp,λg h=>by simpa using h⟩
  .rw[ai a];refine⟨?_,λg h=>?_⟩
   .rw[aA];exact aQ _ b
   .rw[aA]at h ⊢;rcases aK.1 h with e|e
    .exact aK.2 (.inl e)
    .exact aQ _ (c g e)
theorem Fi(f:Str)(v:V):∀fs:List (Str×V),(Av f v fs).length<=fs.length+1
 |[]=>by simp[Av]
 |(k,x)::r=>by
  have b:=Fi f v r;rw[show Av f v ((k,x)::r)=(if k=f then (k,v)::r else (k,x)::Av f v r) from O];by_cases a:k=f
  .rw[aj a,aS,aS];omega
  .rw[ai a,aS,aS];omega
def BL.J'(r:BL (Z v) o):∃u,o=Z u/\df v u:=by
 cases o with
 |none=>exact(show False from r).elim
 |some u=>exact⟨u,O,r⟩
def BL.none_of(r:BL J o):o=J:=by
 cases o with
 |none=>rfl
 |some u=>exact(show False from r).elim
def OU(r:df v u):W.handedIn u=γ:=by
 cases v with
 |I=>cases (show u=Value.none from r);rfl
 |O b=>cases (show u=Value.bool b from r);rfl
 |int i=>obtain⟨t,e⟩:=(show ∃t,u=Value.int i t from r);cases e;rfl
 |str x=>obtain⟨t,e⟩:=(show ∃t,u=Value.str x t from r);cases e;rfl
 |X b=>obtain⟨t,e⟩:=(show ∃t,u=Value.bytes b t from r);cases e;rfl
 |flt b=>obtain⟨t,e⟩:=(show ∃t,u=Value.float b t from r);cases e;rfl
 |ref a=>cases (show u=Value.ref a from r);rfl
 |ty n=>cases (show u=Value.type n from r);rfl
section
variable{P:aF}{w:ay}{H H':Hp}{h h':Heap}{a C dx:Addr}{fs fs':List (Str×V)}
def DT(e?:q? P w H h)(e:H a=Z (.l? C dx fs)):∃mA,Mq h a dx C mA/\(∀f,BL (fs.lookup f) (mA f))/\lL mA (fs.map (·.1))/\fs.length<=1000/\H dx=Z (.gk a):=by obtain⟨d,z,b,c,mA,n,r,q⟩:=(show ee P w H h a (.l? C dx fs) from e? a _ e);exact⟨mA,⟨c,n,b⟩,r,q,z,d⟩
end
structure ZX(K:au)(C:Addr):Prop where
 pg:jM K C Str.empty=γ
 hd:l6 K C=γ
 po:qh K C=γ
 sa:cP K (.ref C) "__setattr__" = Z (Z (.builtin "object.__setattr__"))
def ZX.get{K:au}{C:Addr}(c:ZX K C)(f:Str):jM K C f=γ:=c.pg
def zr(K:au)(C:Addr)(f:Str):Prop:=cP K (.ref C) f=Z J
def zr.taker{K:au}{C:Addr}{f:Str}(n:zr K C f):mi K C f=Z J:=by unfold mi;rw[show cP K (.ref C) f=Z J from n];rfl
structure Meth(K:au)(C:Addr)(m:Str)(f:Addr):Prop where
 i?:cP K (.ref C) m=Z (Z (.ref f))
 fn:jT K (.ref f)=γ
 kp:d8 K (.ref f)=γ
section
variable{X:Cx}{pins:cB}{σ:St}{H:Hp}{s:ae}{a C dx:Addr}{fs:List (Str×V)}{f:Str}{v:V}{A:aM}{E:ab->ae->Prop}
def Ms(I:b? X pins σ H s)(e:H a=Z (.l? C dx fs))(c:ZX X.K C)(n:zr X.K C f)(l:fs.lookup f=Z v)
  (h:∀u i,b? X pins σ H i->df v u->Q u i):ag (model X.prog X.w) A (getAttr (.ref a) f b) Q E s:=by
 obtain⟨mA,j,r,_,_,_⟩:=DT I.e? e;obtain⟨u,m,d⟩:=BL.J' (v:=v) (o:=mA f) (by rw[<-l];exact r f);exact get_map I.n? j (c.get f) c.hd n m (OU d) (h u _ (I.x? _) d)
def GP(I:b? X pins σ H s)(e:H a=Z (.l? C dx fs))(c:ZX X.K C)(k:Meth X.K C m g)(l:fs.lookup m=J)
  (h:Q (.ref g,[.ref a]) s):ag (model X.prog X.w) A (getMethod (.ref a) m pl) Q E s:=by
 obtain⟨mA,b,r,_,_,_⟩:=DT I.e? e;have d:mA m=J:=BL.none_of (by rw[<-l];exact r m);exact Qm I.n? b (c.get m) k.i? k.fn d h
def Mu(I:b? X pins σ H s)(e:H a=Z (.l? C dx fs))(c:ZX X.K C)(n:zr X.K C f)(P:fs.length<1000)(M:df y u)
  (h:∀l,b? X pins σ (en H a (.l? C dx (Av f y fs))) l->Q () l):ag (model X.prog X.w) A (setAttr (.ref a) f u) Q E s:=by
 obtain⟨mA,d,r,m,_,j⟩:=DT I.e? e;have G:(fs.map (·.1)).length<=aI:=by rw[aq,bN];omega
 refine Gq I.n? d c.sa c.po n.taker c.hd m G λt i N=>h _ ?_;have hd:∃o,t.get? dx=Z o:=let ⟨o,_,_,p,_⟩:=i.ns;⟨o,p⟩;refine I.B? (x:=a) (e:=dx) (by rw[e];exact True.intro) (.inr j) (λb q B z=>(N.2 b B).t z) hd ?_;refine⟨by rw[uj d.ne];exact j,?_,d.ne,i.obj,_,i.ns,λg=>?_,λg F=>?_⟩
 .have:=Fi f y fs;omega
 .show BL ((Av f y fs).lookup g) (if g=f then Z u else mA g);rw[Fh];by_cases q:g=f
  .rw[aj q,aj q];exact M
  .rw[ai q,ai q];exact r g
 .by_cases q:g=f
  .rw[q];exact(EL f y fs).1
  .refine(EL f y fs).2 g (m g λz=>F ?_);show (if g=f then Z u else mA g)=J;rw[ai q];exact z
def b?.made(I:b? X pins σ H s):b? X pins σ (en (en H s.heap.objs.size (.gk (s.heap.objs.size+1))) (s.heap.objs.size+1) (.l? C s.heap.objs.size []))
  { s with heap:=(s.heap.push dZ).push (eS C s.heap.objs.size) }:=by
 have c:(s.heap.push dZ).get? s.heap.objs.size=Z dZ:=bg s.heap O;have h:((s.heap.push dZ).push (eS C s.heap.objs.size)).get? (s.heap.objs.size+1)=Z (eS C s.heap.objs.size):=by
  have:=bg (s.heap.push dZ) (o:=eS C s.heap.objs.size) O
  rwa [cN]at this
 have i:(s.heap.push dZ).Ns s.heap.objs.size (λ_=>J):=⟨dZ,#[],_,c,O,(λe j=>ao j (by simp)),λ_=>O⟩;have d:=I.laid (a:=s.heap.objs.size) (o:=.gk (s.heap.objs.size+1)) (h':=s.heap.push dZ) (t':=s.toks) (λb u q=>aJ _ q) (aO _) ⟨_,c⟩;refine d.laid (a:=s.heap.objs.size+1) (o:=.l? C s.heap.objs.size []) (t':=s.toks) (λb u q=>aJ _ q) (pY (cN _ _)) ?_;have ne:s.heap.objs.size≠s.heap.objs.size+1:=aT (dD _);refine⟨by rw[uj ne,uh],b7 _,ne,h,λ_=>J,(Heap.Ns1.of_empty i).at λo q=>aJ _ q,λ_=>True.intro,λy l=>ao O l⟩
def T4(c:fC e f b5 (eval e b5)=eval e b5)
  (h:ag (model prog w) A (eval e b5) (λo b=>ag (model prog w) A (getAttr o f γ) Q E b) E s):ag (model prog w) A (eval (.Attribute e f pos) b5) Q E s:=
 Attribute_any_ h (by rw[arm_eval_Attribute,c])
end
def tFld(K:au)(d:TE)(f:Str):TE:=λe H Q=>d e H λx b=>∃a C c fs v,x=.ref a/\b a=Z (.l? C c fs)/\ZX K C/\zr K C f/\fs.lookup f=Z v/\Q v b
def sFld(K:au)(h i:TE)(f:Str):TS:=λD b H=>i b H λy e=>h b e λx c=>∃a C d fs,x=.ref a/\c a=Z (.l? C d fs)/\ZX K C/\zr K C f/\fs.length<1000/\
 D.nx b (en c a (.l? C d (Av f y fs)))
section
variable{X:Cx}{o e value:Expr}{f:Str}{pos pos' tpos:Pos}{ta tv:TE}
def W5(t:PE X e ta)(r:fC e f X.b5 (eval e X.b5)=eval e X.b5):PE X (.Attribute e f pos) (tFld X.K ta f):=by intro b s z H Q I h;refine T4 r (ff (t b s z H _ I h) λu B zz=>?_);obtain⟨x,d,i,y,a,C,A,fs,v,p,m,c,n,l,q⟩:=zz;subst p;obtain rfl:u=Value.ref a:=y;exact Ms i m c n l λF E j w=>⟨v,d,j,w,q⟩
def W6(w:PE X o ta)(A:PE X value tv)(z:dq value (Z (.Attribute o f pos')) pos.line X.b5=pure δ):PS X (.Assign [.Attribute o f pos'] value pos) (sFld X.K ta tv f):=by intro b s d H D I h;refine plainObj_wpAny_Assign_Attribute (ff (A b s d H _ I h) λu M ⟨y,i,j,G,q⟩=>ff (w b M d i _ j q) λB Q zz=>?_) z;obtain⟨x,N,m,F,a,C,P,fs,t,r,c,n,l,E⟩:=zz;subst t;obtain rfl:B=Value.ref a:=F;exact Mu m r c n l G λR p=>⟨d,_,p,E⟩
end
section
variable{X:Cx}{pins:cB}{σ:St}{H:Hp}{s:ae}{A:aM}{E:ab->ae->Prop}{Q:ab->ae->Prop}{c:ab}{b:Bool}
inductive Ge(K:au) (H:Hp):V->ab->Prop where
 |I:Ge K H .I (.type "NoneType")
 |O (x:Bool):Ge K H (.O x) (.type "bool")
 |int (i:Int):Ge K H (.int i) (.type "int")
 |str (x:Str):Ge K H (.str x) (.type "str")
 |flt (x:UInt64):Ge K H (.flt x) (.type "float")
 |b3 {a:Addr} {xs:bC} (e:H a=Z (.b3 xs)):Ge K H (.ref a) (.type "list")
 |mu {a:Addr} {o:Obj} {xs:bC} (e:H a=Z (.mu o (.b3 xs))):Ge K H (.ref a) (.type "list")
 |c3 {a:Addr} {xs:bC} (e:H a=Z (.c3 xs)):Ge K H (.ref a) (.type "tuple")
 |dK {a:Addr} {kvs:List (dt×V)} (e:H a=Z (.dK kvs)):Ge K H (.ref a) (.type "dict")
 |dT {a:Addr} {kvs:List (List dt×V)} (e:H a=Z (.dT kvs)):Ge K H (.ref a) (.type "dict")
 |l? {a C dx:Addr} {fs:List (Str×V)} (e:H a=Z (.l? C dx fs)) (cl:ZX K C) (ha:cP K (.ref C) "__class__" = Z (Z (.builtin "object.__class__")))
   (hn:qk K (.builtin "object.__class__") "__get__" = Z (Z (.builtin "getset_descriptor.__get__"))) (htk:W.takesIn K (.builtin "object.__class__")=Z γ)
   (hm:W.mroIn K C (.type "object")=Z γ):Ge K H (.ref a) (.ref C)
def zf(I:b? X pins σ H s)(f:df x u)(ty:Ge X.K H x t)(e:du X.K t c=Z b)(h:∀tk,Q (.bool b) { s with toks:=tk }):
  ag (model X.prog X.w) A (call (.builtin "isinstance") [u,c]) Q E s:=by
 cases ty with
 |I=>cases (show u=Value.none from f);exact cH ql I.n? True.intro e (λz=>nomatch z) h
 |O y=>cases (show u=Value.bool y from f);exact cH qm I.n? True.intro e (λz=>nomatch z) h
 |int i=>obtain⟨t,q⟩:=(show ∃t,u=Value.int i t from f);cases q;exact cH W.kitx_int I.n? True.intro e (λz=>nomatch z) h
 |str y=>obtain⟨t,q⟩:=(show ∃t,u=Value.str y t from f);cases q;exact cH W.kitx_str I.n? True.intro e (λz=>nomatch z) h
 |flt y=>obtain⟨t,q⟩:=(show ∃t,u=Value.float y t from f);cases q;exact cH W.kitx_float I.n? True.intro e (λz=>nomatch z) h
 |@b3 a xs d=>cases (show u=Value.ref a from f);obtain⟨_,_,n,_,j⟩:=(show ee X.prog X.w H s.heap a (.b3 xs) from I.e? a _ d);exact cH iN I.n? ⟨_,j,O⟩ e (λz=>nomatch z) h
 |@mu a ob xs d=>cases (show u=Value.ref a from f);obtain⟨_,_,_,n,_,j⟩:=(show ee X.prog X.w H s.heap a (.mu ob (.b3 xs)) from I.e? a _ d);exact cH iN I.n? ⟨_,j,O⟩ e (λz=>nomatch z) h
 |@c3 a xs d=>cases (show u=Value.ref a from f);obtain⟨_,_,_,p,_⟩:=(show ee X.prog X.w H s.heap a (.c3 xs) from I.e? a _ d);obtain⟨o,j,l,_⟩:=p;exact cH lM I.n? ⟨o,j,l⟩ e (λz=>nomatch z) h
 |@dK a kvs d=>cases (show u=Value.ref a from f);obtain⟨_,_,vs,_,p⟩:=(show ee X.prog X.w H s.heap a (.dK kvs) from I.e? a _ d);obtain⟨o,es,ep,j,l,_⟩:=p;exact cH gV I.n? ⟨o,j,l.1⟩ e (λz=>nomatch z) h
 |@dT a kvs d=>cases (show u=Value.ref a from f);obtain⟨_,_,xs,_,o,es,ep,j,l,_⟩:=(show ee X.prog X.w H s.heap a (.dT kvs) from I.e? a _ d);exact cH gV I.n? ⟨o,j,l.1⟩ e (λz=>nomatch z) h
 |@l? a C dx fs d cl ha hn htk hm=>cases (show u=Value.ref a from f);obtain⟨mA,m,_⟩:=DT I.e? d;obtain⟨od,At,_⟩:=m.look;exact cH (W.kitx_own (cl.get _) cl.hd ha hn htk hm) I.n? At e (λz=>nomatch z) h
end
structure wb(k:Nat)(A:aM):Prop where
 hd:A.handled=J
 dp:A.depth+3 * k+5<recursionLimit
 un:A.units+16 * k+200<cLine
def wb.mono(r:wb k A)(h:j<=k):wb j A:=⟨r.hd,by have:=r.dp;omega,by have:=r.un;omega⟩
theorem wb.deeper(r:wb (k+1) A)(b5:Env):wb k (A.deeper b5):=
 ⟨r.hd,by have:=r.dp;show A.depth+1+3 * k+5<_;omega,by have:=r.un;show A.units+3+16 * k+200<_;omega⟩
def Mw{A:aM}:(A.under (.builtin "type.__call__" ⟨.ref C::b,a⟩)).depth=A.depth+1:=by
 first|rfl|simp[lS,Code.weight,Code.isCreation,Code.isGuard,Code.isCaller,qo,lT,guardIds]
def Mx{A:aM}:(A.under (.builtin "type.__call__" ⟨.ref C::b,a⟩)).units=A.units+1:=by
 first|rfl|simp[lS,Code.cUnits,qo,lT]
def wb.make(r:wb (k+1) A)(C:Addr)(b:List ab)(a:List (Str×ab)):wb k (A.under (.builtin "type.__call__" ⟨.ref C::b,a⟩)):=
 ⟨r.hd,by have:=r.dp;rw[Mw];omega,by have:=r.un;rw[Mx];omega⟩
theorem wb.depth(r:wb k A):A.depth<recursionLimit:=by have:=r.dp;omega
theorem wb.units(r:wb k A):A.units+64<cLine:=by have:=r.un;omega
def GQ:TA:=λ_ H Q=>Q [] H
def CS(d:TE)(e:TA):TA:=λa H Q=>d a H λx b=>e a b λf c=>Q (x::f) c
section
variable{X:Cx}{e:Expr}{es:List Expr}{te:TE}{t:TA}{pos:Pos}
def yM:PA X [] GQ:=λ_ _ _ _ H Q I h=>eI ⟨[],H,I,.nil,h⟩
def wc(j:PE X e te)(l:PA X es t)(m:aC (e::es) X.b5=(δ,eval e X.b5)::aC es X.b5:=by rfl):PA X (e::es) (CS te t):=by intro pos a s b H Q I h;rw[m];show ag _ _ (spliced ((δ,eval e X.b5)::bI pos (aC es X.b5))) _ _ s;refine dg (ff (j a s b H _ I h) λu w zz=>?_);obtain⟨x,c,f,q,o⟩:=zz;exact ff (l pos a w b c _ f o) λA z ⟨y,d,i,r,p⟩=>⟨x::y,d,i,.cons q r,p⟩
def tTup(t:TA):TE:=λc H Q=>t c H λb a=>b.length<=aI/\∀p,a p=J->Q (.ref p) (en a p (.c3 b))
def tLst(t:TA):TE:=λc H Q=>t c H λb a=>b.length<=aI/\∀p,a p=J->Q (.ref p) (en a p (.b3 b))
def Qo{m}(h:PA X es t):PE X (.Tuple es m pos) (tTup t):=by intro a s w H Q I j;refine wpAny_Tuple_spliced (ff (h pos a s w H _ I j) λl c ⟨p,d,f,r,z,q⟩=>⟨by rw[<-r.length];exact z,?_⟩);have i:d c.heap.objs.size=J:=f.e?.fresh (aO _);refine⟨.ref c.heap.objs.size,en d c.heap.objs.size (.c3 p),f.laid (t':=c.toks) (λb u e=>aJ _ e) (aO _) ?_,O,q _ i⟩;exact⟨z,l,r,⟨_,bg _ O,O,_,O⟩,λo e=>by rw[bg _ O]at e;cases e;rfl⟩
def Qp(h:PA X es t):PE X (.List es pos) (tLst t):=by intro a s o H Q I j;refine wpAny_List_spliced (ff (h pos a s o H _ I j) λl c ⟨m,d,f,r,z,q⟩=>⟨by rw[<-r.length];exact z,?_⟩);have i:d c.heap.objs.size=J:=f.e?.fresh (aO _);refine⟨.ref c.heap.objs.size,en d c.heap.objs.size (.b3 m),f.laid (t':=c.toks) (λb u e=>aJ _ e) (aO _) ?_,O,q _ i⟩;exact⟨z,l,0,r,bg _ O⟩
end
abbrev Sp:=bC->Hp->VK->XK->Prop
abbrev CXT:=List Env->Hp->ae->XK->ab->ae->Prop
structure My(P:aF)(w:ay)(K:au)(mg:Str->Option ab)(b4:Heap)(A:aM)(c4:List Env)(s:ae)(H:Hp):Prop where
 frames:A.frames=Z c4
 Hj:Mod K mg b4
 bs:∀b o,b4.get? b=Z o->s.heap.get? b=Z o/\H b=J
 bsz:b4.objs.size<=s.heap.objs.size
 tH:s.heap.FunFrames b4 c4
 frf:∀b∈frs c4,H b=J
 e?:q? P w H s.heap
 ka:eV s.gens
def CE(c4:List Env)(P:aF)(w:ay)(H:Hp)(s:ae)(Q:VK)(u:ab)(a:ae):Prop:=
 ∃v b,a.os=s.os/\eV a.gens/\Un (frs c4) [] H b s.heap a.heap/\q? P w b a.heap/\df v u/\Q v b
def CR(CX:CXT)(c4:List Env)(P:aF)(w:ay)(H:Hp)(s:ae)(Q:VK)(E:XK)(r:fH)(a:ae):Prop:=
 match r with
 |.ok (.ret u)=>CE c4 P w H s Q u a
 |.ok _=>False
 |.error e=>CX c4 H s E e a
structure yb(P:aF)(w:ay)(K:au)(mg:Str->Option ab)(b4:Heap)(CX:CXT)(k:Nat)(f:Addr)(fd:bU)(ps:aH)(sp:Sp):Prop where
 len:∀vs H Q E,sp vs H Q E->vs.length=ps.length
 run:∀(A:aM) (c4:List Env) (s:ae) (H:Hp) (args:Args) (us:List ab) (vs:bC) (Q:VK) (E:XK),wb k A->My P w K mg b4 A c4 s H->hE s fd args (ps.zip us)->c9 vs us->sp vs H Q E->
  b9 (model P w) A (.call (.ref f) args) (CR CX c4 P w H s Q E) s
theorem yb.mono{P:aF}{w:ay}{K:au}{b:Str->Option ab}{b4:Heap}{CX:CXT}{j k:Nat}{f:Addr}{a:bU}{c:aH}{d:Sp}(F:yb P w K b b4 CX j f a c d)(h:j<=k):
  yb P w K b b4 CX k f a c d:=⟨F.len,λA c4 s H args i l Q E e=>F.run A c4 s H args i l Q E (e.mono h)⟩
theorem yb.imp{P:aF}{w:ay}{K:au}{d:Str->Option ab}{b4:Heap}{CX:CXT}{k:Nat}{f:Addr}{c:bU}{ps:aH}{e b:Sp}(F:yb P w K d b4 CX k f c ps e)
  (h:∀a H Q E,b a H Q E->e a H Q E):yb P w K d b4 CX k f c ps b:=
 ⟨λa H Q E q=>F.len a H Q E (h _ _ _ _ q),λA c4 s H args p a Q E l j i o m=>F.run A c4 s H args p a Q E l j i o (h _ _ _ _ m)⟩
def My.make{P:aF}{w:ay}{K:au}{a:Str->Option ab}{b4:Heap}{A:aM}{c4:List Env}{s:ae}{H:Hp}(e:My P w K a b4 A c4 s H)(C:Addr)(c:List ab)(b:List (Str×ab)):
  My P w K a b4 (A.under (.builtin "type.__call__" ⟨.ref C::c,b⟩)) c4 s H:=⟨by first|exact e.frames|(simpa [lS,Code.envs,lT,pushEnvs]using e.frames),e.Hj,e.bs,e.bsz,e.tH,e.frf,e.e?,e.ka⟩
section
variable{X:Cx}{pins:cB}{σ:St}{H:Hp}{s s':ae}
def b?.env0(I:b? X pins σ H s):My X.prog X.w X.K X.mg X.b4 X.A X.stack s H:=
 ⟨I.ok.frames,I.ok.Hj,I.bs,bM I.ok.bsz I.sz,I.stack,I.χ,I.e?,I.ka⟩
def b?.after(I:b? X pins σ H s)(h:CE X.stack X.prog X.w H s Q u s'):EP X pins σ Q u s':=by obtain⟨v,c,os,ka,un,e?,r,q⟩:=h;obtain⟨e,g,d,t,a⟩:=s';obtain rfl:a=s.os:=os;exact⟨v,c,I.call (h':=e) (g':=g) (d':=d) (t':=t) (ch:=[]) un e? ka (λb z=>ao z (by simp)),r,q⟩
end
def GR(b:Sp)(dvs:bC)(E:XK)(t:TA):TE:=λd H Q=>t d H λc a=>b (c++dvs) a Q E
def VX(C:Addr)(d:Sp)(dvs:bC)(E:XK)(t:TA):TE:=λf H Q=>t f H λe b=>∀x a,b x=J->b a=J->a≠x->
 d (.ref x::(e++dvs)) (en (en b a (.gk x)) x (.l? C a [])) (λv c=>v=.I/\Q (.ref x) c) E
def ki(K:au)(d:bU)(c:aH)(b:List ab):Prop:=
 ∀(s:ae) (a:List ab),K.In s.heap->(a++b).length=c.length->hE s d ⟨a,[]⟩ (c.zip (a++b))
def ki.all{K:au}{c:bU}{b:aH}(h:∀a:List ab,a.length=b.length->bindArgs c ⟨a,[]⟩=pure (b.zip a)):ki K c b []:=λs a _ d=>by rw[bR]at d ⊢;exact .of_eq (h a d)
def qx(CX:CXT)(X:Cx)(E:XK):Prop:=∀(a:cB) (c:St) (H:Hp) (s:ae) (e:ab) (b:ae),b? X a c H s->CX X.stack H s E e b->X.xe e b
section
variable{X:Cx}{CX:CXT}{k:Nat}{f C:Addr}{fd:bU}{ps:aH}{sp:Sp}{dvs:bC}{ds:List ab}{E:XK}{x m:Str}{p pos apos:Pos}{e o:Expr}{es:List Expr}{ta:TE}{t:TA}
theorem J4(F:yb X.prog X.w X.K X.mg X.b4 CX k f fd ps sp)(l:wb k X.A)(i:ki X.K fd ps ds)(hd:c9 dvs ds)(q:qx CX X E)
  (I:b? X a d H s) (r:c9 vs us) (h:sp (vs++dvs) H Q E):ag (model X.prog X.w) X.A (call (.ref f) us) (EP X a d Q) X.xe s:=by
 have c:c9 (vs++dvs) (us++ds):=r.append hd;have j:(us++ds).length=ps.length:=by rw[<-c.length];exact F.len _ _ _ _ h
 refine jN (gS (F.run X.A X.stack s H ⟨us,[]⟩ (us++ds) (vs++dvs) Q E l I.env0 (i s us I.n? j) c h) λr y b=>?_);cases r with
 |error e=>exact q a d H s e y I b
 |ok fl=>
  cases fl with
  |ret u=>exact I.after b
  |next=>exact cZ b
  |brk=>exact cZ b
  |cont=>exact cZ b
def NA(F:yb X.prog X.w X.K X.mg X.b4 CX k f fd ps sp)(B:wb k X.A)(u:Gl X x)(z:X.mg x=Z (.ref f))(y:d8 X.K (.ref f)=γ)(j:ki X.K fd ps ds)(hd:c9 dvs ds)(G:qx CX X E)
  (i:PA X (e::es) t) (b:(x==("__debug__" : Str))=δ:=by decide) (l:aC (e::es) X.b5=(δ,eval e X.b5)::aC es X.b5:=by rfl) (hpl:(bI pos (aC es X.b5)).any (·.1)=δ:=by rfl):
  PE X (.Call (.Name x p) (e::es) [] pos) (GR sp dvs E t):=by
 intro a s M H Q I h;refine dQ (DS I u z ?_ b);refine lW (h₀:=X.b4) I.ok.Hj.kin y (ff (i pos a s M H _ I h) λR P ⟨S,N,c,r,q⟩=>⟨c.n?,?_⟩) l hpl;exact J4 F B j hd G c r q
def Qq(F:yb X.prog X.w X.K X.mg X.b4 CX k f fd ps sp)(l:wb k X.A)(d:Gl X x)(j:X.mg x=Z (.ref f))(i:d8 X.K (.ref f)=γ)(c:ki X.K fd ps ds)(hd:c9 dvs ds)(q:qx CX X E)
  (a:(x==("__debug__" : Str))=δ:=by decide):PE X (.Call (.Name x p) [] [] pos) (GR sp dvs E GQ):=by
 intro b s u H Q I h;refine dQ (DS I d j ?_ a);exact lC I.n? i (J4 (us:=[]) F l c hd q I .nil h)
structure Mk(K:au)(C f:Addr):Prop where
 ξ:mj K C=γ
 init:cP K (.ref C) "__init__" = Z (Z (.ref f))
 fn:jT K (.ref f)=γ
 kp:d8 K (.ref C)=γ
theorem Qr(M:Mk X.K C f)(F:yb X.prog X.w X.K X.mg X.b4 CX k f fd ps sp)(S:wb (k+1) X.A)(P:ki X.K fd ps ds)(hd:c9 dvs ds)
  (T:qx CX X E) (I:b? X b y H s) (r:c9 q c)
  (h:∀x i,H x=J->H i=J->i≠x->sp (.ref x::(q++dvs)) (en (en H i (.gk x)) x (.l? C i [])) (λv B=>v=.I/\Q (.ref x) B) E):
  ag (model X.prog X.w) X.A (call (.ref C) c) (EP X b y Q) X.xe s:=by
 have j:=h (s.heap.objs.size+1) s.heap.objs.size (I.e?.fresh (iO _)) (I.e?.fresh (aO _)) (aT (dD _));have d:=b?.made (C:=C) I;have l:c9 (V.ref (s.heap.objs.size+1)::(q++dvs)) (Value.ref (s.heap.objs.size+1)::(c++ds)):=.cons O (r.append hd);have R:(Value.ref (s.heap.objs.size+1)::c++ds).length=ps.length:=by have e:=l.length;rw[F.len _ _ _ _ j]at e;exact e.symm
 refine jN (Qn (f:=f) I.n? M.ξ M.init (beq_iff_eq.mp M.fn) (gS (F.run _ X.stack _ _ ⟨Value.ref (s.heap.objs.size+1)::c,[]⟩ (Value.ref (s.heap.objs.size+1)::(c++ds)) _ _ E (S.make C c [])
  (d.env0.make C c []) (P _ (Value.ref (s.heap.objs.size+1)::c) d.n? R) l j) λr W a=>?_))
 cases r with
 |error e=>exact T b y _ _ e W d a
 |ok fl=>
  cases fl with
  |ret u=>obtain⟨v,z,G,U,N,q3⟩:=d.after a;subst N;exact⟨U,⟨V.ref (s.heap.objs.size+1),z,G,O,q3⟩⟩
  |next=>exact cZ a
  |brk=>exact cZ a
  |cont=>exact cZ a
def T5(M:Mk X.K C f)(F:yb X.prog X.w X.K X.mg X.b4 CX k f fd ps sp)(z:wb (k+1) X.A)(u:Gl X x)(y:X.mg x=Z (.ref C))(j:ki X.K fd ps ds)(hd:c9 dvs ds)(B:qx CX X E)
  (i:PA X (e::es) t) (b:(x==("__debug__" : Str))=δ:=by decide) (l:aC (e::es) X.b5=(δ,eval e X.b5)::aC es X.b5:=by rfl) (hpl:(bI pos (aC es X.b5)).any (·.1)=δ:=by rfl):
  PE X (.Call (.Name x p) (e::es) [] pos) (VX C sp dvs E t):=by
 intro a s G H Q I h;refine dQ (DS I u y ?_ b);refine lW (h₀:=X.b4) I.ok.Hj.kin M.kp (ff (i pos a s G H _ I h) λR P ⟨S,N,c,r,q⟩=>⟨c.n?,?_⟩) l hpl;exact Qr M F z j hd B c r q
end
structure wU(N P:aH)(sc:cJ):Prop where
 kind:sc.kind=.function
 co:sc.isCoroutine=δ
 rf:sc.isGenerator=δ
 nd:N.Nodup
 pre:N.take P.length=P
 par:∀x∈P,sc.names.lookup x=Z .local\/sc.names.lookup x=Z .cell
 nofree:∀y∈sc.names,y.2≠.free
theorem I0{kindOf:Str->Option d9}{x:Str}:∀{rl:List (Str×ab)} {m:Str->Option ab},(∀v,(x,v)∉rl)->bindL kindOf rl m x=m x
 |[],_,_=>rfl
 |(n,v)::r,m,h=>by
  unfold bindL;rw[I0 λw a=>h w (aQ _ a)];split
  .have:x≠n:=by rintro rfl;exact h v aN
   simp[this]
  .rfl
theorem Ja{kindOf:Str->Option d9}{x:Str}:∀{rl:List (Str×ab)} {m:Str->Option ab},(∀v,(x,v)∉rl)->bindC kindOf rl m x=m x
 |[],_,_=>rfl
 |(n,v)::r,m,h=>by
  unfold bindC;rw[Ja λw a=>h w (aQ _ a)];split
  .rfl
  .have:x≠n:=by rintro rfl;exact h v aN
   simp[this]
theorem Jb{kindOf:Str->Option d9}{x:Str}{v:ab}:∀{P:aH} {a:List ab} {i:Nat} {m:Str->Option ab},P.Nodup->P[i]?=Z x->a[i]?=Z v->kindOf x=Z .local->
  bindL kindOf (P.zip a) m x=Z v
 |[],_,_,_,_,h,_,_=>by simp at h
 |_::_,[],_,_,_,_,h,_=>by simp at h
 |p::P,w::a,0,m,e,b,c,d=>by simp at b c;subst b;subst c;show bindL kindOf ((p,w)::P.zip a) m p=_;unfold bindL;rw[I0 λv f=>(dm.1 e).1 (jA f).1,aj d];simp
 |p::P,w::a,i+1,m,e,b,c,d=>by show bindL kindOf ((p,w)::P.zip a) m x=_;unfold bindL;exact Jb (i:=i) (dm.1 e).2 (by simpa using b) (by simpa using c) d
theorem Jc{kindOf:Str->Option d9}{x:Str}{v:ab}:∀{P:aH} {a:List ab} {i:Nat} {m:Str->Option ab},P.Nodup->P[i]?=Z x->a[i]?=Z v->kindOf x≠Z .local->
  bindC kindOf (P.zip a) m x=Z v
 |[],_,_,_,_,h,_,_=>by simp at h
 |_::_,[],_,_,_,_,h,_=>by simp at h
 |p::P,w::a,0,m,e,b,c,d=>by simp at b c;subst b;subst c;show bindC kindOf ((p,w)::P.zip a) m p=_;unfold bindC;rw[Ja λv f=>(dm.1 e).1 (jA f).1,ai d];simp
 |p::P,w::a,i+1,m,e,b,c,d=>by show bindC kindOf ((p,w)::P.zip a) m x=_;unfold bindC;exact Jc (i:=i) (dm.1 e).2 (by simpa using b) (by simpa using c) d
def start(N:aH)(a:bC):St:=a.map Z++jE (N.length - a.length) J
def K4(CX:CXT)(P:aF)(w:ay)(K:au)(mg:Str->Option ab)(b4:Heap)(N:aH)(qual:Str)(scope:cJ)(f:Addr)(b:ab)(A:aM)(c4:List Env)(s:ae)(H:Hp)(E:XK):Cx where
 prog:=P
 w:=w
 K:=K
 mg:=mg
 b4:=b4
 A:=A.deeper (envOfC qual scope s.heap.objs.size f b)
 N:=N
 s₀:=s
 H₀:=H
 b5:=envOfC qual scope s.heap.objs.size f b
 c4:=c4
 stack:=envOfC qual scope s.heap.objs.size f b::c4
 ex:=[]
 nr:=γ
 fn:=λ_=>γ
 pn:=[]
 xe:=λe d=>ag (model P w) (A.deeper (envOfC qual scope s.heap.objs.size f b)) (leaving (envOfC qual scope s.heap.objs.size f b) e) (λ_ a=>CX c4 H s E e a) (λc a=>CX c4 H s E c a) d
def K5{a:cJ}(h:a.names.lookup x=Z .cell):∃c,(cellsFrom n a.names []).lookup x=Z c:=by have q:=oP a.names n [] (.inl h);exact Option.isSome_iff_exists.1 q
def OV{CX:CXT}{P:aF}{w:ay}{K:au}{G:Str->Option ab}{b4:Heap}{N m:aH}{qual:Str}{scope:cJ}{f:Addr}{B:ab}{A:aM}{c4:List Env}{s R:ae}{H:Hp}{E:XK}{I:List ab}{o:bC}
  (S:wU N m scope) (hd:A.handled=J) (j:My P w K G b4 A c4 s H) (X:o.length=m.length) (r:c9 o I)
  (x:InCallC s s.heap.objs.size (bindL (envOfC qual scope s.heap.objs.size f B).kindOf (m.zip I) λ_=>J) (cellsFrom (s.heap.objs.size+1) scope.names []) (bindC (envOfC qual scope s.heap.objs.size f B).kindOf (m.zip I) λ_=>J) R):
  b? (K4 CX P w K G b4 N qual scope f B A c4 s H E) [] (start N o) H R:=by
 have hpl:m.length<=N.length:=by have:=bp dM S.pre;rw[cg]at this;omega
 obtain⟨C,Y,rfl,M⟩:=x.done;have noA:∀b:Addr,b∉(K4 CX P w K G b4 N qual scope f B A c4 s H E).ex:=λb z=>ao (show b∈([]:List Addr) from z) (by simp);refine⟨⟨j.Hj,S.kind,O,O,aO _,λy z c C d=>?_,λy l=>?_,λy c _ h=>?_,λ_=>hd,Around.frames_deeper j.frames,.inr ⟨O,O⟩,λb z=>ao z (noA b),j.bs,j.bsz,λb _ _=>noA b,λb z=>ao z (noA b),j.tH,j.frf⟩,
  rfl,j.ka,Un.f5 M,⟨_,x.toInCall.ns,λi y v C d W=>?_⟩,λy c h=>⟨_,x.cell y c h⟩,j.e?.fresh (aO _),λy c h=>?_,λp t=>ao (show p∈([]:cB) from t) (by simp),j.e?.f5 M,?_⟩
 .exact name_of_addr x.apart (ix C) (ix d)
 .have l:scope.names.lookup y=Z .cell\/scope.names.lookup y=Z .free:=l;rcases l with l|l
  .exact K5 l
  .exact ao O (S.nofree _ (ix l))
 .exact gR (x.above y c (ix h))
 .have F:i<o.length:=by
   unfold start at d;by_cases F:i<o.length
   .exact F
   .rw[fL (by simpa using F)]at d;rw[i8]at d;split at d<;>cases d
  have T:o[i]?=Z v:=by
   unfold start at d;rw[fM (by simpa using F),bD]at d;cases e:o[i]? with
   |none=>rw[e]at d;cases d
   |some a=>rw[e]at d;cases d;rfl
  obtain⟨u,Q,U⟩:=r.get T;have t:m[i]?=Z y:=by rw[<-S.pre,List.getElem?_take_of_lt (by omega)];exact C
  have ndP:m.Nodup:=by rw[<-S.pre];exact S.nd.sublist (kM _ _)
  refine⟨u,U,?_⟩;rcases S.par y (cq t)with k|k
  .exact .inl ⟨k,Jb ndP t Q k⟩
  .obtain⟨c,e⟩:=K5 (n:=s.heap.objs.size+1) k;refine .inr ⟨.inl k,c,e,?_⟩;have q:=x.cell y c e;rw[Jc ndP t Q (by show scope.names.lookup y≠_;rw[k];decide)]at q;exact q
 .exact j.e?.fresh (gR (x.above y c (ix h)))
 .unfold start;show _=N.length;rw[aR,aq,dc];omega
def VY{CX:CXT}{P:aF}{w:ay}{K:au}{l:Str->Option ab}{b4:Heap}{k:Nat}{f:Addr}{name qual:Str}{params:Arguments}{body:List Stmt}{scope:cJ}{dV kV doc M cdv G oc:ab}{F od:Option Addr}
  {osl:Array (Option ab)} {N m:aH} {C:Sp} (lk:K.lookup f=Z ⟨oc,od,.func (eW name qual params body scope dV kV doc M F cdv G),osl⟩) (hcd:gY K cdv qual=γ) (S:wU N m scope)
  (len:∀a H Q E,C a H Q E->a.length=m.length)
  (hbody:∀(A:aM) (c4:List Env) (s:ae) (H:Hp) (a:bC) (Q:VK) (E:XK),wb k (A.deeper (envOfC qual scope s.heap.objs.size f cdv))->C a H Q E->
   ∃t,n9 (K4 CX P w K l b4 N qual scope f cdv A c4 s H E) body t/\t { nx:=λ_ h=>Q .I h,rt:=Q } (start N a) H):
  yb P w K l b4 CX (k+1) f (eW name qual params body scope dV kV doc M F cdv G) m C:=by
 refine⟨len,λA c4 s H args us a Q E p j T r hsp=>?_⟩;have X:=len _ _ _ _ hsp;have KX:K.In s.heap:=j.Hj.kin.keeps λb o e=>(j.bs b o e).1;have lim:s.heap.NoLimit:=j.Hj.nolimit.keeps λb o e=>(j.bs b o e).1;have hkind:∀y∈m.zip us,scope.names.lookup y.1=Z .local\/(scope.names.lookup y.1=Z .cell/\((cellsFrom (s.heap.objs.size+1) scope.names []).lookup y.1).isSome=γ):=λ⟨n,v⟩ hy=>by
  rcases S.par n (jA hy).1 with q|q
  .exact .inl q
  .exact .inr ⟨q,oP _ _ _ (.inl q)⟩
 refine codeAny_call_function p.depth (KX _ _ lk) O S.co S.rf O (W.codeRec_of KX hcd) (T _ _ _ _ ?_);refine wpAny_newFunctionEnv_cells S.kind hkind λb5 U R x=>?_;subst U;refine⟨lim.keeps x.toInCall.keep,codeAny_func ?_⟩;obtain⟨t,ht,Y⟩:=hbody A c4 s H a Q E (p.deeper _) hsp;have I:b? (K4 CX P w K l b4 N qual scope f cdv A c4 s H E) [] (start N a) H R:=OV S p.hd j X r x;refine b8 (ht [] R (start N a) H _ I Y) (λfl B i=>?_) λe B i=>i;have fin:∀{c:St} {h:Hp} {v:V} {u:ab},b? (K4 CX P w K l b4 N qual scope f cdv A c4 s H E) [] c h B->df v u->Q v h->CE c4 P w H s Q u B:=
  λ{c h v u} d z q=>⟨v,h,d.os,d.ka,d.b4,d.e?,z,q⟩
 cases fl with
 |ret u=>obtain⟨v,c,h,d,z,q⟩:=i;exact fin d z q
 |next=>obtain⟨c,h,d,q⟩:=i;exact fin (v:=V.I) (u:=Value.none) d O q
 |brk=>obtain⟨_,_,_,q⟩:=i;exact cZ q
 |cont=>obtain⟨_,_,_,q⟩:=i;exact cZ q
section
variable{X:Cx}{x:Str}{p pos:Pos}{e:Expr}{es:List Expr}{t:TA}{id T:String}{r:bC->Hp->VK->Prop}
def ι(r:bC->Hp->VK->Prop)(t:TA):TE:=λc H Q=>t c H λb a=>r b a Q
def DU(j:vZ X (.builtin id) r)(m:Gl X x)(o:X.mg x=J)(u:dG x=Z (.builtin id))(i:PA X (e::es) t)(q:x≠"__name__" := by decide)(b:(x==("__debug__" : Str))=δ:=by decide)
  (l:aC (e::es) X.b5=(δ,eval e X.b5)::aC es X.b5:=by rfl) (hpl:(bI pos (aC es X.b5)).any (·.1)=δ:=by rfl):PE X (.Call (.Name x p) (e::es) [] pos) (ι r t):=by
 intro a s c H Q I h;refine dQ (AW I m o u ?_ q b);exact callWith_builtin1 (ff (i pos a s c H _ I h) λA z ⟨B,d,f,y,w⟩=>j a z c d B A Q f y w) l hpl
def OW(j:vZ X (.type T) r)(m:Gl X x)(o:X.mg x=J)(u:dG x=Z (.type T))(i:PA X (e::es) t)(q:x≠"__name__" := by decide)(b:(x==("__debug__" : Str))=δ:=by decide)
  (l:aC (e::es) X.b5=(δ,eval e X.b5)::aC es X.b5:=by rfl) (hpl:(bI pos (aC es X.b5)).any (·.1)=δ:=by rfl):PE X (.Call (.Name x p) (e::es) [] pos) (ι r t):=by
 intro a s c H Q I h;refine dQ (AW I m o u ?_ q b);exact callWith_type1 (ff (i pos a s c H _ I h) λA z ⟨B,d,f,y,w⟩=>j a z c d B A Q f y w) l hpl
end
end L2
namespace HT
open PySem PyProof.Rows
section
variable{prog:aF}{w:ay}{A:aM}{E:ab->ae->Prop}{s:ae}
def T6{vs ws:List ab}(u:eX s.heap t vs.toArray)(hb:eX s.heap b ws.toArray)(o:vs≠[])
  (q:ws=[]->Q (.ref t) s) (r:ws≠[]->Q (.ref s.heap.objs.size) { s with heap:=s.heap.push { cls:=.type "tuple", data:=.seq (vs++ws).toArray } })
  (j:vs.length+ws.length<=aI):ag (model prog w) A (cO .Add (.ref t) (.ref b)) Q E s:=by
 obtain⟨⟨cls,l,data,sl⟩,i,m,n,hd⟩:=id u;obtain⟨⟨cls2,c,data2,h⟩,a,d,p,f⟩:=id hb;simp only at m hd d f;subst m hd d f;have e:vs.toArray++ws.toArray=(vs++ws).toArray:=by simp
 by_cases hw:ws=[]
 .exact concat_meets ⟨_,i,O⟩ ⟨_,a,O⟩ oQ pM oR ox (n5 _ _)
   (tuple_addW1 t b vs.toArray ws.toArray n p l c sl h (by simpa using o) (by simp[hw])) ⟨i,a,q hw⟩
 .refine concat_meets ⟨_,i,O⟩ ⟨_,a,O⟩ oQ pM oR ox (n5 _ _)
   (tuple_addW2 t b vs.toArray ws.toArray n p l c sl h (by simpa using o) (by simpa using hw) (by rw[bw,bw];exact j)) ⟨i,a,?_⟩
  rw[e];exact r hw
def y?(n d:Nat):Option Int->Nat
 |none=>d
 |some v=>if v<0 then (v+(n:Int)).toNat else min v.toNat n
def Qs(n d:Nat):y? n d J=d:=rfl
def T7(n d k:Nat):y? n d (Z (k:Int))=min k n:=by show (if (k:Int)<0 then ((k:Int)+(n:Int)).toNat else min (k:Int).toNat n)=min k n;rw[ai (by omega),fR]
end
end HT
namespace L2
open PySem PySem.Spec PyProof.Rows
abbrev TO:=St->Hp->(Option Int->Hp->Prop)->Prop
def PO(X:Cx)(e:Option Expr)(t:TO):Prop:=
 ∀(a:cB) (s:ae) (b:St) (H:Hp) (Q:Option Int->Hp->Prop),b? X a b H s->t b H Q->
  ag (model X.prog X.w) X.A (evalPart e X.b5) (λu d=>∃o c,b? X a b c d/\IsPart u o/\Q o c) X.xe s
def T8:TO:=λ_ H Q=>Q J H
def aaG(t:TE):TO:=λb H Q=>t b H λx a=>∃i,x=.int i/\Q (Z i) a
section
variable{X:Cx}{e:Expr}{te:TE}{lo hi:Option Expr}{tl th:TO}{pos p2:Pos}
def T9:PO X J T8:=by intro a s b H Q I h;rw[pN];exact ar ⟨J,H,I,.none,h⟩
def NB(h:PE X e te):PO X (Z e) (aaG te):=by intro a s l H Q I d;rw[evalPart_some];refine ff (h a s l H _ I d) λu m zz=>?_;obtain⟨x,b,c,j,f⟩:=zz;obtain⟨i,rfl,q⟩:=f;obtain⟨t,rfl⟩:=j;exact⟨Z i,b,c,.int i t,q⟩
def SlR(X:Cx)(r:V->Option Int->Option Int->Hp->VK->Prop):Prop:=
 ∀(a:cB) (s:ae) (f:St) (H:Hp) (x:V) (v c d:ab) (lo hi:Option Int) (b:Addr) (Q:VK),b? X a f H s->df x v->s.heap.IsSliceOf b c d .none->IsPart c lo->IsPart d hi->r x lo hi H Q->
  ∃T id,typeLookup (.type T) "__getitem__" = pure (Z (.builtin id))/\s.TypeIs v T/\ag (model X.prog X.w) X.A (getItem v (.ref b)) (EP X a f Q) X.xe s
def tSl(r:V->Option Int->Option Int->Hp->VK->Prop)(te:TE)(tl th:TO):TE:=λa H Q=>te a H λx b=>tl a b λl c=>th a c λu d=>r x l u d Q
def K6(hr:SlR X r)(p:PE X e te)(t:PO X lo tl)(z:PO X hi th):PE X (.Subscript e (.Slice lo hi J p2) pos) (tSl r te tl th):=by intro pins s σ H Q I h;refine l9 (ff (p pins s σ H _ I h) λv F zz=>?_);obtain⟨x,H1,i,r1,C⟩:=zz;refine wpAny_Slice (ff (t pins F σ H1 _ i C) λc s2 ⟨l,H2,j,pl,E⟩=>ff (z pins s2 σ H2 _ j E) λd a zz=>?_);obtain⟨u,f,m,B,q3⟩:=zz;rw[pN];refine ar ?_;have o:b? X pins σ f { a with heap:=a.heap.push { cls:=.type "slice", data:=.fields #[c,d,.none] } }:=m.f5 (t':=a.toks) λb ob q=>aJ _ q;obtain⟨T,id,hT,y,hg⟩:=hr pins { a with heap:=a.heap.push { cls:=.type "slice", data:=.fields #[c,d,.none] } } σ f x v c d l u a.heap.objs.size Q o r1 (tw ..) pl B q3;show ag (model X.prog X.w) X.A (subscriptTail e (.Slice lo hi J p2) v (.ref a.heap.objs.size)) (EP X pins σ Q) X.xe { a with heap:=a.heap.push { cls:=.type "slice", data:=.fields #[c,d,.none] } };exact tail_any (ops:=[.ref a.heap.objs.size,v]) y hT hg (by with_unfolding_all rfl)
def OX(a:bC)(lo hi:Option Int):bC:=(a.drop (HT.y? a.length 0 lo)).take (HT.y? a.length a.length hi - HT.y? a.length 0 lo)
def K7(a:bC)(lo hi:Option Int):(OX a lo hi).length<=a.length:=by unfold OX;rw[cg,jx];omega
def aaH(K:au):R2:=λx y H Q=>∃a b d c,x=.ref a/\y=.ref b/\fu K H a d/\fu K H b c/\d≠[]/\d.length+c.length<=aI/\
 (c=[]->Q (.ref a) H)/\(c≠[]->∀p,H p=J->Q (.ref p) (en H p (.c3 (d++c))))
def c9.K3(r:c9 b a):a=[] ↔ b=[]:=by
 cases r with
 |nil=>simp
 |cons _ _=>simp
def Ua:i1 X (cO .Add) (aaH X.K):=by intro j s P H x y v u Q I C E h;obtain⟨a,b,F,G,rfl,rfl,l,m,p,f,A,B⟩:=h;cases C;cases E;obtain⟨r,d,t,_⟩:=I.tuple l;obtain⟨i,c,p2,_⟩:=I.tuple m;refine HT.T6 t p2 (λz=>p (d.K3.1 z)) (λz=>⟨.ref a,H,I,O,A (c.K3.1 z)⟩) (λz=>?_) (by rw[<-d.length,<- c.length];exact f);refine⟨.ref s.heap.objs.size,_,I.laid (t':=s.toks) (o:=.c3 (F++G)) (λb M q=>aJ _ q) (aO _) ?_,O,B (λw=>z (c.K3.2 w)) _ (I.e?.fresh (aO _))⟩;exact⟨by rw[aR];exact f,_,d.append c,qw _ _,λo e=>by rw[bg _ O]at e;cases e;rfl⟩
end
def ixN(n:Nat)(i:Int):Option Nat:=if 0<=i then (if i<n then Z i.toNat else J)else if -(n:Int)<=i then Z (i+n).toNat else J
def N?{b:Type}(a:List b)(i:Int):Option b:=(ixN a.length i).bind λj=>a[j]?
def Ub(h:ixN n i=Z j):seqIndex? i n=Z j/\j<n/\-(n:Int)<=i/\i<n:=by
 unfold ixN at h;by_cases b:0<=i
 .rw[aj b]at h;by_cases a:i<n
  .rw[aj a]at h;have e:i.toNat=j:=cu h;exact⟨by rw[seqIndex_of b a,e],by omega,by omega,a⟩
  .rw[ai a]at h;cases h
 .rw[ai b]at h;by_cases a:-(n:Int)<=i
  .rw[aj a]at h;have e:(i+n).toNat=j:=cu h;exact⟨by rw[seqIndex_neg (by omega) a,e],by omega,a,by omega⟩
  .rw[ai a]at h;cases h
def J5{b:Type}{a:List b}{i:Int}{v:b}(h:N? a i=Z v):∃j,seqIndex? i a.length=Z j/\a[j]?=Z v/\j<a.length/\-(a.length:Int)<=i/\i<a.length:=by
 unfold N? at h;cases e:ixN a.length i with
 |none=>rw[e]at h;cases h
 |some j=>rw[e]at h;obtain⟨c,d,f,l⟩:=Ub e;exact⟨j,c,h,d,f,l⟩
def AX{b:Type}{a:List b}{j:Nat}{v:b}(h:a[j]?=Z v):N? a (j:Int)=Z v:=by
 have c:j<a.length:=(bX.1 h).1;have e:ixN a.length (j:Int)=Z j:=by unfold ixN;rw[aj (by omega),aj (by omega)];simp
 unfold N?;rw[e];exact h
def NC(b:Expr):Prop:=∀o i,subscripted b δ o i=operate [o,i] (getItem o i)
def IxR(X:Cx)(r:R2):Prop:=
 ∀(value slice:Expr) (a:cB) (s:ae) (b:St) (H:Hp) (x y:V) (v u:ab) (Q:VK),b? X a b H s->df x v->df y u->r x y H Q->
  subscripted slice δ v u=operate [v,u] (getItem v u)->ag (model X.prog X.w) X.A (subscriptTail value slice v u) (EP X a b Q) X.xe s
def MtR(X:Cx)(id:String)(r:V->bC->Hp->VK->Prop):Prop:=
 ∀(a:cB) (s:ae) (d:St) (H:Hp) (x:V) (c:bC) (v:ab) (b:List ab) (Q:VK),b? X a d H s->df x v->c9 c b->r x c H Q->
  ag (model X.prog X.w) X.A (call (.builtin id) (v::b)) (EP X a d Q) X.xe s
section
variable{X:Cx}{a b:Expr}{ta tb:TE}{pos:Pos}
def IxR.or(h:IxR X r)(j:IxR X l):IxR X (λx y H Q=>r x y H Q\/l x y H Q):=by
 intro value slice c s i H x y v u Q I e f q d;rcases q with q|q
 .exact h value slice c s i H x y v u Q I e f q d
 .exact j value slice c s i H x y v u Q I e f q d
def aaI(j:IxR X r)(f:PE X a ta)(i:PE X b tb)(l:NC b):PE X (.Subscript a b pos) (tOp r ta tb):=by intro c s t H Q I h;exact l9 (WR f i I h λv u p x y d e m o q=>j a b c p t d x y v u Q e m o q (l _ _))
def rIxL(K:au):R2:=λx y H Q=>∃p c i v,x=.ref p/\y=.int i/\f3 K H p c/\N? c i=Z v/\Q v H
def rIxT(K:au):R2:=λx y H Q=>∃p c i v,x=.ref p/\y=.int i/\fu K H p c/\N? c i=Z v/\Q v H
def rIxS:R2:=λx y H Q=>∃z i c,x=.str z/\y=.int i/\z.length<=aI/\N? z.cps.toList i=Z c/\Q (.str ⟨#[c]⟩) H
def Uc:IxR X (rIxL X.K):=by
 intro value slice c s B H x y v u Q I P R h A;obtain⟨p,Y,i,z,rfl,rfl,N,G,q⟩:=h;cases P;obtain⟨t,rfl⟩:=R;obtain⟨f,r,pl,W⟩:=I.list N;obtain⟨j,d,C,T,E,F⟩:=J5 G;obtain⟨w,m,l⟩:=r.get C;have M:=r.length;have U:=GO;have fin:EP X c B Q w s:=⟨z,H,I,l,q⟩;by_cases o:0<=i
 .have e:i.toNat=j:=by rw[seqIndex_of o F]at d;exact cu d
  exact item_listR pl.isList o (by omega) (by rw[e];simpa using m) fin A
 .have e:(i+(f.toArray.size:Int)).toNat=j:=by rw[seqIndex_neg (by omega) E]at d;rw[bw,<- M];exact cu d
  exact m6 (x:=w) pl.isList.typeIs oA.lookup
   (wpAny_getItem_list_neg (Q:=λr S=>r=w/\EP X c B Q r S) pl.isList (by omega) (by rw[bw]<;>omega) (by omega) (by rw[e];simpa using m) ⟨O,fin⟩) A
def W7:IxR X (rIxT X.K):=by
 intro value slice c s e H x y v u Q I F G h C;obtain⟨p,U,i,z,rfl,rfl,B,o,q⟩:=h;cases F;obtain⟨t,rfl⟩:=G;obtain⟨E,r,pl,T⟩:=I.tuple B;obtain⟨j,l,m,N,P,R⟩:=J5 o;obtain⟨w,f,d⟩:=r.get m;have A:=r.length;have S:=GO;have fin:EP X c e Q w s:=⟨z,H,I,d,q⟩;exact m6 (x:=w) pl.typeIs slot_tuple_getitem.lookup
  (getItem_tuple (j:=j) (Q:=λr M=>r=w/\EP X c e Q r M) pl (by omega) (by omega) (by rw[bw,<- A];exact l) (by simpa using f) ⟨O,fin⟩) C
def W8:IxR X rIxS:=by
 intro value slice e s N H x y v u Q I B C h A;obtain⟨z,i,c,rfl,rfl,G,r,q⟩:=h;obtain⟨t,rfl⟩:=B;obtain⟨M,rfl⟩:=C;obtain⟨j,d,m,E,o,p⟩:=J5 r;have w:z.cps.toList.length=z.length:=by simp[Str.length]
 rw[w]at d o p;have F:=GO;exact tail_any (typeIs_str s z t) slot_str_getitem.lookup (getItem_str (c:=c) (by
  have f:decide (i < -(2 ^ 63:Int))=δ:=bj (by omega);have l:decide (i >= 2 ^ 63)=δ:=bj (by omega);rw[f,l,Bool.or_false]) (by rw[d];simpa using m) ⟨.str ⟨#[c]⟩,H,I.x? _,⟨_,O⟩,q⟩) A
def rIx(K:au):R2:=λx y H Q=>rIxL K x y H Q\/rIxT K x y H Q\/rIxS x y H Q
def W9:IxR X (rIx X.K):=Uc.or (W7.or W8)
def J6(lo c:Option Int)(n:Nat):(sliceBounds lo c J n).1=((HT.y? n 0 lo:Nat):Int)/\(sliceBounds lo c J n).2.1=((HT.y? n n c:Nat):Int)/\(sliceBounds lo c J n).2.2=1:=by
 refine⟨?_,?_,O⟩
 .cases lo with
  |none=>simp[sliceBounds,HT.y?]
  |some i=>
   simp only[sliceBounds,HT.y?,oT,show (1:Int) > 0 by decide,if_true];by_cases h:i<0
   .simp only[h,if_true]<;>omega
   .simp only[h,if_false]<;>omega
 .cases c with
  |none=>simp[sliceBounds,HT.y?]
  |some i=>
   simp only[sliceBounds,HT.y?,oT,show (1:Int) > 0 by decide,if_true];by_cases h:i<0
   .simp only[h,if_true]<;>omega
   .simp only[h,if_false]<;>omega
def IG(c:List ab)(lo d:Option Int):slicePick c.toArray lo d J=((c.drop (HT.y? c.length 0 lo)).take (HT.y? c.length c.length d - HT.y? c.length 0 lo)).toArray:=by obtain⟨e,f,h⟩:=J6 lo d c.toArray.size;unfold slicePick;rw[e,f,h];simp only[sliceRange_one,pick_run,bw]<;>rfl
def OY(K:au):V->Option Int->Option Int->Hp->VK->Prop:=λx lo d H Q=>∃a c,x=.ref a/\f3 K H a c/\∀p,H p=J->Q (.ref p) (en H p (.b3 (OX c lo d)))
def Ud:SlR X (OY X.K):=by intro i s C H x v A B lo e y Q I u j pl t h;obtain⟨a,c,rfl,l,q⟩:=h;cases u;obtain⟨p,r,f,m⟩:=I.list l;have d:=r.length;refine⟨"list", _,oA.lookup,f.isList.typeIs,?_⟩;refine wpAny_getItem_list_slice f.isList j pl t .none (by simp) ?_ (by rw[bw]<;>omega);rw[IG,<- d];refine⟨.ref s.heap.objs.size,_,I.laid (t':=s.toks) (o:=.b3 (OX c lo e)) (λb w q=>aJ _ q) (aO _) ?_,O,q _ (I.e?.fresh (aO _))⟩;exact⟨bM (K7 c lo e) m,_,0,(r.drop (HT.y? c.length 0 lo)).take (HT.y? c.length c.length e - HT.y? c.length 0 lo),bg _ O⟩
def CT:V->Bool
 |.I=>γ
 |.O _=>γ
 |.int _=>γ
 |.str _=>γ
 |_=>δ
def eqV:V->V->Bool
 |.I,.I=>γ
 |.O a,.O b=>a==b
 |.O a,.int b=>(if a then 1 else 0)==b
 |.int a,.O b=>a==(if b then 1 else 0)
 |.int a,.int b=>a==b
 |.str a,.str b=>a==b
 |_,_=>δ
def GT(f:df y u)(c:df x v)(h:CT y=γ)(e:CT x=γ):iQ A s u v (eqV y x):=by
 cases y with
 |I=>
  cases f;cases x with
  |I=>cases c;exact la _
  |O b=>cases c;exact sG b
  |int b=>obtain⟨t,rfl⟩:=c;exact nL b t
  |str b=>obtain⟨t,rfl⟩:=c;exact nM b t
  |_=>exact ao (show δ=γ from e) bx
 |O a=>
  cases f;cases x with
  |I=>cases c;exact sH a
  |O b=>cases c;exact sI a b
  |int b=>obtain⟨t,rfl⟩:=c;exact sS a b t
  |str b=>obtain⟨t,rfl⟩:=c;exact sT a b t
  |_=>exact ao (show δ=γ from e) bx
 |int a=>
  obtain⟨d,rfl⟩:=f;cases x with
  |I=>cases c;exact nO a d
  |O b=>cases c;exact sU a d b
  |int b=>obtain⟨t,rfl⟩:=c;exact tD a d b t
  |str b=>obtain⟨t,rfl⟩:=c;exact nX a d b t
  |_=>exact ao (show δ=γ from e) bx
 |str a=>
  obtain⟨d,rfl⟩:=f;cases x with
  |I=>cases c;exact nP a d
  |O b=>cases c;exact sV a d b
  |int b=>obtain⟨t,rfl⟩:=c;exact nY a d b t
  |str b=>obtain⟨t,rfl⟩:=c;exact kG a d b t
  |_=>exact ao (show δ=γ from e) bx
 |_=>exact ao (show δ=γ from h) bx
def XC(x:V)(u:ab):Bool:=match u with
 |.none=>eqV .I x
 |.bool b=>eqV (.O b) x
 |.int i _=>eqV (.int i) x
 |.str z _=>eqV (.str z) x
 |_=>δ
def Qt(r:df y u)(f:CT y=γ):XC x u=eqV y x:=by
 cases y with
 |I=>cases r;rfl
 |O b=>cases r;rfl
 |int i=>obtain⟨t,rfl⟩:=r;rfl
 |str z=>obtain⟨t,rfl⟩:=r;rfl
 |_=>exact ao (show δ=γ from f) bx
theorem DV:∀{c:bC} {d:List ab},c9 c d->c.all CT=γ->d.any (XC x)=c.any λy=>eqV y x
 |_,_,.nil,_=>rfl
 |y::c,u::d,.cons r t,f=>by rw[gQ,aX]at f;rw[gb,gb,Qt r f.1,DV t f.2]
theorem BN(i:df x v)(h:CT x=γ):∀{e:bC} {d:List ab},c9 e d->e.all CT=γ->∀u∈d,iQ A s u v (XC x u)
 |_,_,.nil,_=>λu c=>by cases c
 |y::e,u::d,.cons r t,f=>λj c=>by
  rw[gQ,aX]at f;rcases aK.1 c with rfl|c
  .rw[Qt r f.1];exact GT r i f.1 h
  .exact BN i h t f.2 j c
def inV(x:V)(c:bC):Bool:=c.any λy=>eqV y x
def rIn(K:au)(neg:Bool):R2:=λx y H Q=>∃p c,y=.ref p/\(f3 K H p c\/fu K H p c)/\CT x=γ/\c.all CT=γ/\Q (.O (if neg then !inV x c else inV x c)) H
def OZ:i1 X (bA .In) (rIn X.K δ):=by
 intro i s t H x y v u Q I j m h;obtain⟨p,o,rfl,d,f,fs,q⟩:=h;cases m;rcases d with d|d
 .obtain⟨c,r,pl,l⟩:=I.list d;refine o8 (XC x) pl.isList (λw e=>BN j f r fs w (by simpa using e)) ⟨.O _,H,I,O,?_⟩;rw[show c.toArray.any (XC x)=c.any (XC x) by simp,DV r fs];exact q
 .obtain⟨c,r,pl,l⟩:=I.tuple d;refine SeqAt.in_tupleAt (XC x) pl (λw e=>BN j f r fs w (by simpa using e)) ⟨.O _,H,I,O,?_⟩;rw[show c.toArray.any (XC x)=c.any (XC x) by simp,DV r fs];exact q
def J7:i1 X (bA .NotIn) (rIn X.K γ):=by
 intro i s t H x y v u Q I j m h;obtain⟨p,o,rfl,d,f,fs,q⟩:=h;cases m;rcases d with d|d
 .obtain⟨c,r,pl,l⟩:=I.list d;refine SeqAt.notIn_listAt (XC x) pl.isList (λw e=>BN j f r fs w (by simpa using e)) ⟨.O _,H,I,O,?_⟩;rw[show c.toArray.any (XC x)=c.any (XC x) by simp,DV r fs];exact q
 .obtain⟨c,r,pl,l⟩:=I.tuple d;refine SeqAt.notIn_tupleAt (XC x) pl (λw e=>BN j f r fs w (by simpa using e)) ⟨.O _,H,I,O,?_⟩;rw[show c.toArray.any (XC x)=c.any (XC x) by simp,DV r fs];exact q
def J8:vZ X (.builtin "len") (λl H Q=>∃p d,l=[.ref p]/\(f3 X.K H p d\/fu X.K H p d)/\Q (.int d.length) H):=by
 intro j s x H l w Q I r h;obtain⟨p,d,rfl,e,q⟩:=h;obtain⟨u,rfl,o⟩:=m? r;cases o;have t:=GO;rcases e with e|e
 .obtain⟨f,i,pl,m⟩:=I.list e;have c:=i.length;exact Calls.call_len_list pl.isList (by simp only[bw]<;>omega) ⟨.int d.length,H,I.x? _,⟨s.toks+1,by rw[bw,c]⟩,q⟩
 .obtain⟨f,i,pl,m⟩:=I.tuple e;have c:=i.length;exact len_tuple pl (by simp only[bw]<;>omega) ⟨.int d.length,H,I.x? _,⟨s.toks+1,by rw[bw,c]⟩,q⟩
def J9:vZ X (.builtin "len") (λd H Q=>∃z,d=[.str z]/\z.length<=aI/\Q (.int z.length) H):=by intro c s j H d i Q I r h;obtain⟨z,rfl,f,q⟩:=h;obtain⟨u,rfl,t,rfl⟩:=m? r;have e:=GO;exact len_str (by omega) ⟨.int z.length,H,I.x? _,⟨_,O⟩,q⟩
def Ka:vZ X (.type "list") (λxs H Q=>∃p i,xs=[.ref p]/\(f3 X.K H p i\/fu X.K H p i)/\∀l,H l=J->Q (.ref l) (en H l (.b3 i))):=by
 intro pins s σ H xs us Q I r h;obtain⟨p,i,rfl,m,q⟩:=h;obtain⟨u,rfl,A⟩:=m? r;cases A;have fin:∀(c:List ab),c9 i c->i.length<=aI->∀(h':Heap) (d:Nat),(∀b z,s.heap.get? b=Z z->h'.get? b=Z z)->
   h'.get? s.heap.objs.size=Z { cls:=.type "list", dict:=J,data:=.seq c.toArray d,slots:=#[] }->EP X pins σ Q (.ref s.heap.objs.size) { s with heap:=h' }:=λc f t h' d kp e=>
  ⟨.ref s.heap.objs.size,_,I.laid (t':=s.toks) kp (aO _) (show ee X.prog X.w _ h' _ (.b3 i) from⟨t,c,d,f,e⟩),O,q _ (I.e?.fresh (aO _))⟩
 rcases m with m|m
 .obtain⟨c,f,pl,t⟩:=I.list m;have j:=f.length;obtain⟨o,y,x,n,hd⟩:=pl.isList;exact pO p (.inl O) y x hd (λh' d kp e=>fin c f t h' d kp e) (by simp only[bw]<;>omega)
 .obtain⟨c,f,pl,t⟩:=I.tuple m;have j:=f.length;obtain⟨o,y,x,n,hd⟩:=pl;exact pO p (.inr O) y x hd (λh' d kp e=>fin c f t h' d kp e) (by simp only[bw]<;>omega)
def IH:vZ X (.type "tuple") (λxs H Q=>∃p d,xs=[.ref p]/\((f3 X.K H p d/\∀l,H l=J->Q (.ref l) (en H l (.c3 d)))\/(fu X.K H p d/\Q (.ref p) H))):=by
 intro pins s σ H xs us Q I r h;obtain⟨p,d,rfl,h⟩:=h;obtain⟨u,rfl,y⟩:=m? r;cases y;rcases h with ⟨f,q⟩|⟨f,q⟩
 .obtain⟨c,i,pl,t⟩:=I.list f;have m:=i.length;refine call_tuple_list pl.isList (λh' kp=>?_) (by simp only[bw]<;>omega);have j:b? X pins σ H { s with heap:=h' }:=I.f5 (t':=s.toks) kp;have x:b? X pins σ (en H h'.objs.size (.c3 d)) { s with heap:=h'.push { cls:=.type "tuple", data:=.seq c.toArray } }:=
   j.laid (t':=s.toks) (λb o e=>aJ _ e) (aO _) (show ee X.prog X.w _ _ _ (.c3 d) from⟨t,c,i,qw _ _,λo e=>by rw[bg _ O]at e;cases e;rfl⟩)
  exact⟨.ref h'.objs.size,_,x,O,q _ (j.e?.fresh (aO _))⟩
 .obtain⟨c,i,pl,t⟩:=I.tuple f;exact call_tuple_same pl ⟨.ref p,H,I,O,q⟩
def tyV(K:au)(T:String)(x:V)(H:Hp):Prop:=match x with
 |.str _=>T="str"
 |.int _=>T="int"
 |.ref p=>(T="list" /\ ∃c,f3 K H p c)\/(T="tuple" /\ ∃o,K.lookup p=Z o/\o.cls=.type "tuple" /\ o.dict=J)\/
   (T="dict" /\ ((∃kvs,H p=Z (.dK kvs))\/∃kvs,H p=Z (.dT kvs)))\/(T="set" /\ ∃S n,H p=Z (.set S n))
 |_=>False
def Xa(I:b? X l y H s)(r:df x v)(ty:tyV X.K T x H):
  s.TypeIs v T/\∀a,v=.ref a->∃j,s.heap.get? a=Z j/\j.dict=J:=by
 cases x with
 |str z=>obtain⟨t,rfl⟩:=r;cases (show T="str" from ty);exact⟨typeIs_str s z t,λ_ e=>nomatch e⟩
 |int i=>obtain⟨t,rfl⟩:=r;cases (show T="int" from ty);exact⟨typeIs_int s i t,λ_ e=>nomatch e⟩
 |ref p=>
  cases r;rcases ty with ⟨rfl,w,q⟩|⟨rfl,o,d,m,hd⟩|⟨rfl,d⟩|⟨rfl,S,n,d⟩
  .obtain⟨u,_,pl,_⟩:=I.list q;refine⟨pl.isList.typeIs,λa e=>?_⟩;cases e;obtain⟨o,n,e,c,hd,_⟩:=pl;exact⟨o,e,hd⟩
  .refine⟨⟨o,I.n? p o d,m⟩,λa e=>?_⟩;cases e;exact⟨o,I.n? _ o d,hd⟩
  .have z:∃o,s.heap.get? p=Z o/\o.ExactDict:=by
    rcases d with ⟨kvs,d⟩|⟨kvs,d⟩
    .obtain⟨_,_,_,_,o,_,_,e,f,_⟩:=I.e? p _ d;exact⟨o,e,f⟩
    .obtain⟨_,_,_,_,o,_,_,e,f,_⟩:=I.e? p _ d;exact⟨o,e,f⟩
   obtain⟨o,e,f⟩:=z;refine⟨⟨o,e,f.1⟩,λa h=>?_⟩;cases h;exact⟨o,e,f.2.1⟩
  .obtain⟨o,_,_,_,e,f,_⟩:=I.e? p _ d;refine⟨⟨o,e,f.1⟩,λa h=>?_⟩;cases h;exact⟨o,e,f.2.1⟩
 |_=>exact cZ ty
def tBM(K:au)(T:String)(r:V->bC->Hp->VK->Prop)(to:TE)(t:TA):TE:=λd H Q=>to d H λx c=>tyV K T x c/\t d c λf e=>r x f e Q
variable{o e:Expr}{es:List Expr}{to:TE}{t:TA}{name:Str}{apos cpos:Pos}{T id:String}{r:V->bC->Hp->VK->Prop}
def aaM(A:ma T)(slot:Slot T name id)(hty:typeOf (.builtin id)=pure (.type "method_descriptor"))(w:MtR X id r)(y:PE X o to)(u:PA X (e::es) t)
  (hbase:fC o name X.b5 (eval o X.b5)=eval o X.b5:=by rfl)
  (hfew:((bI cpos (aC (e::es) X.b5)).all (λx=>!x.1)&&(backToKw cpos (d7 [] X.b5)).all (λx=>x.1.isSome)
   && decide ((e::es).length+([]:List fG).length+(if ([]:List fG).isEmpty then 0 else 1)<30))=γ:=by rfl)
  (hline:(apos.endLine==cpos.line)=γ:=by rfl) (z:aC (e::es) X.b5=(δ,eval e X.b5)::aC es X.b5:=by rfl) (hplain:(bI cpos (aC es X.b5)).any (·.1)=δ:=by rfl):
  PE X (.Call (.Attribute o name apos) (e::es) [] cpos) (tBM X.K T r to t):=by
 intro c s d H Q I h;refine wpAny_Call_method_late hbase hfew hline O (ff (y c s d H _ I h) λv F zz=>?_);obtain⟨x,j,f,i,ty,B⟩:=zz;obtain⟨p,q⟩:=Xa f i ty;refine⟨T,id,A,slot,hty,p,q,?_⟩;have hA:=u cpos c F d j _ f B;rw[z]at hA ⊢;refine fN (by show (δ||(bI cpos (aC es X.b5)).any (·.1))=δ;rw[hplain]<;>rfl) (fO ?_)
 exact ff hA λM G ⟨N,l,m,E,C⟩=>w c G d l x N v M Q m i E C
end
def MtM(X:Cx)(id:String)(r:V->bC->Hp->VK->Prop):Prop:=
 ∀(a:cB) (s:ae) (d:St) (H:Hp) (x:V) (c:bC) (v:ab) (b:List ab) (Q:VK),b? X a d H s->df x v->c9 c b->r x c H Q->
  ag (model X.prog X.w) X.A (call (.builtin id) (v::b)) (EP X a d Q) X.xe s
def c9.one:∀{x:V} {a:List ab},c9 [x] a->∃u,a=[u]/\df x u
 |_,_,.cons r .nil=>⟨_,O,r⟩
section
variable{X:Cx}{pins:cB}{σ:St}{H:Hp}{s:ae}{l b:Addr}{xs ys zs:bC}
def b?.lset{a its':List ab}(I:b? X pins σ H s)(hH:H l=Z (.b3 xs))
  (e:s.heap.get? l=Z { cls:=.type "list", data:=.seq a.toArray n }) (hf:f a.toArray=its'.toArray) (d:c9 ys its') (h:ys.length<=aI):
  b? X pins σ (en H l (.b3 ys)) { s with heap:=s.heap.update l (dP f),toks:=j }:=by
 have q:=PySem.IsL.update e f;rw[hf]at q;refine I.B? (x:=l) (e:=l) (by rw[hH];exact trivial) (.inl O) (λi u hb c=>(iu s.heap (dP f) (cI hb)).t c) ⟨_,q⟩ ?_;exact⟨h,its',_,d,q⟩
def b?.lnew(I:b? X pins σ H s)(c:c9 ys a)(d:ys.length<=aI):
  b? X pins σ (en H s.heap.objs.size (.b3 ys)) { s with heap:=s.heap.push { cls:=.type "list", data:=.seq a.toArray },toks:=t' }:=
 I.laid (λ_ _ q=>aJ _ q) (aO _) ⟨d,a,0,c,bg _ O⟩
theorem b?.fresh(I:b? X pins σ H s):H s.heap.objs.size=J:=I.e?.fresh (aO _)
def b?.lstM(I:b? X pins σ H s)(hH:H l=Z (.b3 xs)):xs.length<=aI/\∃(a:List ab) (n:Nat),c9 xs a/\xs.length=a.length/\s.heap.get? l=Z { cls:=.type "list", data:=.seq a.toArray n }:=by obtain⟨z,a,n,r,e⟩:=I.e? l _ hH;exact⟨z,a,n,r,r.length,e⟩
def K8(h:n<=aI):ip n=δ:=by unfold ip;exact bj (by omega)
end
section
variable{X:Cx}
def Kb:V->bC->Hp->VK->Prop:=λx b H Q=>∃l a y,x=.ref l/\b=[y]/\H l=Z (.b3 a)/\a.length<aI/\Q .I (en H l (.b3 (a++[y])))
theorem EM:MtM X "list.append" Kb:=by intro c s w H x p v o Q I i f h;obtain⟨l,t,y,rfl,rfl,hH,m,q⟩:=h;cases i;obtain⟨u,rfl,d⟩:=f.one;obtain⟨z,a,n,r,j,e⟩:=I.lstM hH;refine jO kH ⟨_,e,O⟩ F.entry_list_append (F.args_list_append_2 _ _) (PySem.list_append l a.toArray n u (by rw[bw];omega)) ⟨e,?_⟩;refine⟨.I,_,I.lset (its':=a++[u]) hH e (by simp) (r.append (.cons d .nil)) ?_,O,q⟩;rw[aR,cR];omega
def ND:V->bC->Hp->VK->Prop:=λx d H Q=>∃l b a c,x=.ref l/\d=[.ref b]/\H l=Z (.b3 a)/\H b=Z (.b3 c)/\a.length+c.length<=aI/\Q .I (en H l (.b3 (a++c)))
def O0:MtM X "list.extend" ND:=by
 intro i s N H x E v C Q I y w h;obtain⟨l,b,F,M,rfl,rfl,hH,hB,B,q⟩:=h;cases y;obtain⟨u,rfl,t⟩:=w.one;cases t;obtain⟨z,c,n,r,A,e⟩:=I.lstM hH;obtain⟨G,a,o,p,m,j⟩:=I.lstM hB;have d:c.toArray.size+a.toArray.size<=aI:=by rw[bw,bw];omega
 have hlong:¬(!c.toArray.isEmpty&&ip (c.toArray.size+a.toArray.size))=γ:=by rw[K8 d,pA];exact bx
 refine jO jq ⟨_,e,O⟩ nQ (nD _ _)
  (AutoSeq1.list_extend_list_list_0 l c.toArray n b a.toArray o hlong (by rw[bw];omega) (by omega)) ⟨e,j,?_⟩
 refine⟨.I,_,I.lset (its':=c++a) hH e (by simp) (r.append p) ?_,O,q⟩;rw[aR];omega
def rCat:R2:=λx y H Q=>∃l b a c,x=.ref l/\y=.ref b/\H l=Z (.b3 a)/\H b=Z (.b3 c)/\a.length+c.length<=aI/\∀p,H p=J->Q (.ref p) (en H p (.b3 (a++c)))
def Xb:i1 X (cO .Add) rCat:=by
 intro d s G H x y v u Q I o p h;obtain⟨l,b,C,F,rfl,rfl,hH,hB,w,q⟩:=h;cases o;cases p;obtain⟨z,c,n,r,t,e⟩:=I.lstM hH;obtain⟨E,a,A,m,j,f⟩:=I.lstM hB;refine PySem.P.add_list e f ?_ (by rw[bw,bw];omega);have i:c.toArray++a.toArray=(c++a).toArray:=by simp
 rw[i];exact⟨.ref _,_,I.lnew (t':=s.toks) (r.append m) (by rw[aR];omega),O,q _ I.fresh⟩
end
section
variable{prog:aF}{w:ay}{A:aM}{E:ab->ae->Prop}{s:ae}
set_option maxRecDepth 100000 in
end
section
variable{κ:Type}[DecidableEq κ]
def xP(kvs:List (κ×V))(k:κ):Option V:=(kvs.find? λkv=>decide (kv.1=k)).map (·.2)
def l3(kvs:List (κ×V))(k:κ)(v:V):List (κ×V):=
 if (kvs.any λkv=>decide (kv.1=k))=γ then kvs.map (λkv=>if kv.1=k then (kv.1,v)else kv)else kvs++[(k,v)]
def DW{p:κ×V}(e:p.1=k):xP (p::r) k=Z p.2:=by simp[xP,dE,e]
def DX{p:κ×V}(e:¬p.1=k):xP (p::r) k=xP r k:=by simp[xP,dE,e]
theorem GU(k:κ):∀kvs:List (κ×V),(kvs.any λkv=>decide (kv.1=k))=(xP kvs k).isSome
 |[]=>rfl
 |p::r=>by
  rw[gb];by_cases e:p.1=k
  .simp only[DW e,bf e,Bool.true_or,Option.isSome_some]
  .rw[DX e,bj e,Bool.false_or];exact GU k r
def BO(kvs:List (κ×V))(k:κ)(v:V):(l3 kvs k v).length<=kvs.length+1:=by
 unfold l3;split
 .rw[aq];omega
 .rw[aR,aS,fZ];omega
def Qu{kvs:List (κ×V)}{k:κ}(v:V)(h:xP kvs k=J):l3 kvs k v=kvs++[(k,v)]:=by unfold l3;rw[GU,h];exact ai (by decide)
def BL.isSome_eq(r:BL o u):o.isSome=u.isSome:=by
 cases o with
 |none=>cases u with
  |none=>rfl
  |some _=>exact(show False from r).elim
 |some _=>cases u with
  |none=>exact(show False from r).elim
  |some _=>rfl
theorem BL.getD(r:BL o u)(b:df d a):df (o.getD d) (u.getD a):=by
 cases o with
 |none=>cases u with
  |none=>exact b
  |some _=>exact(show False from r).elim
 |some _=>cases u with
  |none=>exact(show False from r).elim
  |some _=>exact r
def KV.val(r:KV kvs j)(k:κ):BL (xP kvs k) (valueAt j k):=by
 unfold KV at r
 induction r with
 |nil=>exact True.intro
 |@cons p q l c h t i=>
  obtain⟨d,f⟩:=h;by_cases e:p.1=k
  .have a:q.1=k:=d.symm.t e;have b:valueAt (q::c) k=Z q.2:=by simp[valueAt,dE,a]
   rw[DW e,b];exact f
  .have a:¬q.1=k:=λz=>e (d.t z);have b:valueAt (q::c) k=valueAt c k:=by simp[valueAt,dE,a]
   rw[DX e,b];exact i
theorem KV.any(r:KV kvs vs)(k:κ):(kvs.any λkv=>decide (kv.1=k))=vs.any λkv=>decide (kv.1=k):=by
 unfold KV at r
 induction r with
 |nil=>rfl
 |cons h t a=>rw[gb,gb,a,h.1]
def KV.repl(r:KV kvs f)(k:κ)(d:df y u):
  KV (kvs.map λkv=>if kv.1=k then (kv.1,y)else kv) (f.map λkv=>if kv.1=k then (kv.1,u)else kv):=by
 unfold KV at r ⊢
 induction r with
 |nil=>exact .nil
 |@cons p q i j h t c=>
  rw[aA,aA];refine .cons ?_ c;obtain⟨a,b⟩:=h;by_cases e:p.1=k
  .rw[aj e,aj (a.symm.t e)];exact⟨a,d⟩
  .rw[ai e,ai (λz=>e (a.t z))];exact⟨a,b⟩
def KV.put(r:KV kvs b)(k:κ)(a:df y u):KV (l3 kvs k y) (stored b k u):=by
 unfold l3 stored;rw[r.any k];by_cases e:(b.any λkv=>decide (kv.1=k))=γ
 .rw[aj e,aj e];exact r.repl k a
 .rw[ai e,ai e];exact qp r ⟨O,a⟩
theorem KV.length(r:KV kvs vs):kvs.length=vs.length:=lu r
end
def Fj(r:df (kV k) u):(ur P w).is k u=γ:=by
 cases k with
 |inl i=>obtain⟨t,e⟩:=(show ∃t,u=Value.int i t from r);subst e;exact KZ P w i t
 |inr x=>obtain⟨t,e⟩:=(show ∃t,u=Value.str x t from r);subst e;exact K0 P w x t
theorem Jd:∀{a:List dt} {b:List ab},c9 (a.map kV) b->ItemsAre (ur P w) a b
 |[],_,r=>by rw[dH]at r;cases r;exact .nil
 |k::a,_,r=>by
  rw[aA]at r;cases r with
  |cons h t=>exact .cons (Fj h) (Jd t)
abbrev KT(H:Hp):List (List dt×V)->List (List dt×Addr×ab)->Prop:=gq λp q=>p.1=q.1/\H q.2.1=Z (.c3 (p.1.map kV))/\df p.2 q.2.2
def KT.val(r:KT H kvs xs)(k:List dt):BL (xP kvs k) ((atKey xs k).map (·.2)):=by
 induction r with
 |nil=>exact True.intro
 |@cons p q j c h t i=>
  obtain⟨d,_,f⟩:=h;by_cases e:p.1=k
  .have a:q.1=k:=d.symm.t e;have b:atKey (q::c) k=Z q.2:=by simp[atKey,dE,a]
   rw[DW e,b];exact f
  .have a:¬q.1=k:=λz=>e (d.t z);have b:atKey (q::c) k=atKey c k:=by simp[atKey,dE,a]
   rw[DX e,b];exact i
def KT.repl(r:KT H kvs i)(k:List dt)(f:df y u):
  KT H (kvs.map λkv=>if kv.1=k then (kv.1,y)else kv) (i.map (putAt k u)):=by
 induction r with
 |nil=>exact .nil
 |@cons p q j l h t d=>
  rw[aA,aA];refine .cons ?_ d;obtain⟨a,b,c⟩:=h;unfold putAt;by_cases e:p.1=k
  .rw[aj e,aj (a.symm.t e)];exact⟨a,b,f⟩
  .rw[ai e,ai (λz=>e (a.t z))];exact⟨a,b,c⟩
def KT.put(r:KT H kvs xs)(k:List dt)(c:H b=Z (.c3 (k.map kV)))(a:df y u):
  KT H (l3 kvs k y) (storedH xs k b u):=by
 have e:(kvs.any λkv=>decide (kv.1=k))=(atKey xs k).isSome:=by rw[GU,(r.val k).isSome_eq,Option.isSome_map]
 unfold l3 storedH;rw[e];by_cases q:(atKey xs k).isSome=γ
 .rw[aj q,aj q];exact r.repl k a
 .rw[ai q,ai q];exact qp r ⟨O,c,a⟩
def KT.keeps(r:KT H kvs e)(d:∀b a,H b=Z (.c3 a)->c b=Z (.c3 a)):KT c kvs e:=
 Paired.mapP r λ_ _ z=>⟨z.1,d _ _ z.2.1,z.2.2⟩
section
variable{P:aF}{w:ay}{H:Hp}{h:Heap}{a:Addr}
def VZ(ok:q? P w H h)(e:Rd H a u):ee P w H h a u:=e.ok ok
def Fk(ok:q? P w H h)(e:Rd H a (.dK kvs)):kvs.length<=aI/\(a==cj)=δ/\∃b,KV kvs b/\h.DictOf (ur P w) a b:=
 show ee P w H h a (.dK kvs) from VZ ok e
def V0(ok:q? P w H h)(e:H a=Z (.dK kvs)):kvs.length<=aI/\(a==cj)=δ/\∃b,KV kvs b/\h.DictOf (ur P w) a b:=Fk ok (.inl e)
def GV{c:List dt}(ok:q? P w H h)(e:H a=Z (.c3 (c.map kV))):(tupleKind (ur P w)).is h c a:=by obtain⟨_,b,r,⟨o,d,f,n,i⟩,_⟩:=(show ee P w H h a (.c3 (c.map kV)) from ok a _ e);exact⟨o,b.toArray,n,d,f,i,by simpa using Jd r⟩
def Je(ok:q? P w H h)(e:Rd H a (.dT kvs)):kvs.length<=aI/\(a==cj)=δ/\
  ∃c,KT H kvs c/\h.DictOfH (tupleKind (ur P w)) a c:=by
 obtain⟨z,y,c,r,o,i,f,j,u,A,B,C⟩:=(show ee P w H h a (.dT kvs) from VZ ok e);refine⟨z,y,c,r,o,i,f,j,u,A,B,λx b=>?_,C⟩;have all:∀{l:List (List dt×V)} {m:List (List dt×Addr×ab)},KT H l m->∀x∈m,(tupleKind (ur P w)).is h x.1 x.2.1:=by
  intro l m q
  induction q with
  |nil=>intro x b;exact nomatch b
  |@cons p q F G d t E=>
   intro x b;rcases aK.1 b with e|b
   .subst e;exact GV ok (by rw[<-d.1];exact d.2.1)
   .exact E x b
 exact all r x b
def I1(ok:q? P w H h)(e:H a=Z (.dT kvs)):kvs.length<=aI/\(a==cj)=δ/\
  ∃b,KT H kvs b/\h.DictOfH (tupleKind (ur P w)) a b:=Je ok (.inl e)
end
def r?(H:Hp)(a:Addr)(y:V)(r:Option V):Prop:=
 (∃kvs k,Rd H a (.dK kvs)/\y=kV k/\r=xP kvs k)\/∃kvs k b,Rd H a (.dT kvs)/\y=.ref b/\H b=Z (.c3 (k.map kV))/\r=xP kvs k
def Qv(H:Hp)(a:Addr)(y v:V)(c:Hp):Prop:=
 (∃kvs k,H a=Z (.dK kvs)/\y=kV k/\kvs.length<aI/\c=en H a (.dK (l3 kvs k v)))\/
 ∃kvs k b,H a=Z (.dT kvs)/\y=.ref b/\H b=Z (.c3 (k.map kV))/\kvs.length<aI/\c=en H a (.dT (l3 kvs k v))
theorem Qv.k{H:Hp}{a:Addr}{kvs:List (dt×V)}{k:dt}{v:V}(e:H a=Z (.dK kvs))(b:kvs.length<aI):Qv H a (kV k) v (en H a (.dK (l3 kvs k v))):=.inl ⟨kvs,k,e,O,b,O⟩
section
variable{X:Cx}{pins:cB}{σ:St}{H:Hp}{s:ae}{a:Addr}{y v:V}{u r:ab}{o:Option V}{A:aM}{E:ab->ae->Prop}
def b?.big(I:b? X pins σ H s):cj<s.heap.objs.size:=by have h:aZ<s.heap.objs.size:=(I.Hj.D?.keeps I.bk).lt;exact pZ (by decide) h
def O1(C:A.units+1<cLine)(I:b? X pins σ H s)(g:r? H a y (Z v))(q:df y u)(h:∀d t,b? X pins σ H t->df v d->Q d t):
  ag (model X.prog X.w) A (getItem (.ref a) u) Q E s:=by
 rcases g with ⟨kvs,k,e,i,l⟩|⟨kvs,k,b,e,i,x,l⟩
 .subst i;obtain⟨z,hd,F,rel,f⟩:=Fk I.e? e;obtain⟨d,m,c⟩:=BL.J' (v:=v) (o:=valueAt F k) (by rw[l];exact rel.val k);exact wpAny_getItem_of (Fj q) f.mapOf m (h d _ (I.x? _) c)
 .subst i;cases (show u=Value.ref b from q);obtain⟨z,hd,G,rel,f⟩:=Je I.e? e;obtain⟨d,m,c⟩:=BL.J' (v:=v) (o:=(atKey G k).map (·.2)) (by rw[l];exact rel.val k)
  obtain⟨p,B,j⟩:=m7.1 m;refine n6 (jr C) (GV I.e? x) f B ?_;rw[j];exact h d _ (I.x? _) c
def Gr(I:b? X pins σ H s)(d:Mut (H a))(hs:cG a s.heap h')(c:∃q,h'.get? a=Z q)(new:ee X.prog X.w (en H a ob) h' a ob):
  b? X pins σ (en H a ob) { s with heap:=h',toks:=f }:=
 I.B? (x:=a) (e:=a) d (.inl O) (λb q hb z=>(hs.2 b hb).t z) c new
def Qw{b:Heap}{kvs:List (dt×V)}(z:kvs.length<=aI)(hd:(a==cj)=δ)(rel:KV kvs c)(d:b.DictOf (ur P w) a c):
  ee P w e b a (.dK kvs):=⟨z,hd,c,rel,d⟩
def O2(hu:A.units+1<cLine)(I:b? X pins σ H s)(g:Qv H a y v P)(M:df y u)(G:df v r)(h:∀N,b? X pins σ P N->Q () N):
  ag (model X.prog X.w) A (setItem (.ref a) u r) Q E s:=by
 rcases g with ⟨kvs,k,e,j,l,eH⟩|⟨kvs,k,b,e,j,B,l,eH⟩
 .subst j eH;obtain⟨z,hd,vs,rel,i⟩:=V0 I.e? e;have x:vs.length<=aI:=by rw[<-rel.length];exact z
  have m:(l3 kvs k v).length<=aI:=by have:=BO kvs k v;omega
  refine wpAny_setItem_pairs (hsz:=x) (Fj M) i λF d p=>h _ ?_;have he:∃q,F.get? a=Z q:=let ⟨q,_,_,f,_⟩:=d;⟨q,f⟩;exact Gr I (by rw[e];exact True.intro) p he (Qw m hd (rel.put k G) d)
 .subst j eH;cases (show u=Value.ref b from M);obtain⟨z,hd,xs,rel,i⟩:=I1 I.e? e;have x:xs.length<=aI:=by rw[<-lu rel];exact z
  have m:(l3 kvs k v).length<=aI:=by have:=BO kvs k v;omega
  refine wpAny_setItem_heap (hsz:=x) (jr hu) (GV I.e? B) i λF d p=>h _ ?_;obtain⟨q,S,R,f,T,U,W,_,Y⟩:=d;refine Gr I (by rw[e];exact True.intro) p ⟨q,f⟩ ⟨m,hd,_,(rel.put k B G).keeps λc ys C=>?_,q,S,R,f,T,U,W,Y⟩;rw[uj (aak C e (λz=>nomatch z))];exact C
end
section
variable{X:Cx}{pins:cB}{σ:St}{H:Hp}{s:ae}{a:Addr}{kvs:List (dt×V)}{k:dt}{u:ab}{A:aM}{E:ab->ae->Prop}
def aaN(I:b? X pins σ H s)(e:Rd H a (.dK kvs))(h:∀t b,b? X pins σ H b->Q (.int kvs.length t) b):ag (model X.prog X.w) A (call (.builtin "len") [.ref a]) Q E s:=by obtain⟨z,hd,d,rel,c⟩:=Fk I.e? e;refine call_len_dict hd c (by rw[<-rel.length];rw[bN]at z;omega) ?_;rw[<-rel.length];exact h _ _ (I.x? _)
end
def Qx(i:Expr):Prop:=∀b a,subscripted i δ b a=operate [b,a] (getItem b a)
def NF{prog:aF}{w:ay}{A:aM}{E:ab->ae->Prop}{s:ae}{b5:Env}{value slice:Expr}{pos:Pos}{T id:String}{Q:ab->ae->Prop}
  (j:typeLookup (.type T) "__getitem__" = pure (Z (.builtin id))) (l:Qx slice)
  (h:ag (model prog w) A (eval value b5) (λo c=>ag (model prog w) A (eval slice b5) (λi a=>a.TypeIs o T/\ag (model prog w) A (getItem o i) Q E a) E c) E s):
  ag (model prog w) A (eval (.Subscript value slice pos) b5) Q E s:=by
 refine l9 (b8 h (λo c e=>b8 e (λi a b=>?_) λ_ _ x=>x) λ_ _ x=>x);obtain⟨hT,b⟩:=b;unfold subscriptTail;refine af ?_;rw[getitemInPython_of_ne hT.not_modules];refine af (gH hT j ?_);have fin:ag (model prog w) A (subscripted slice δ o i) (λr d=>ag (model prog w) A (letTemporaryGo value o r>>=λ_=>pure r) Q E d) E a:=by rw[l o i];exact wpAny_operating (b8 b (λr d f=>af (wpAny_letTemporaryGo (ar f))) λ_ _ x=>x)
 first
  |exact ar (af fin)
  |exact af (ar (af fin))
  |exact af fin
def K9(I:b? X d i H s)(g:r? H a y o):s.TypeIs (.ref a) "dict" := by
 rcases g with ⟨kvs,k,e,_,_⟩|⟨kvs,k,b,e,_,_,_⟩
 .obtain⟨_,_,f,_,c⟩:=Fk I.e? e;exact c.typeIs
 .obtain⟨_,_,h,_,c⟩:=Je I.e? e;exact c.typeIs
def aaO(e ty:TE):TE:=λc H Q=>e c H λx d=>ty c d λy b=>∃a v,x=.ref a/\r? b a y (Z v)/\Q v b
def V1(h ty i:TE):TS:=λD b H=>i b H λv d=>h b d λx e=>ty b e λy f=>∃a c,x=.ref a/\Qv f a y v c/\D.nx b c
section
variable{X:Cx}{o i e value:Expr}{pos pos' tpos:Pos}{td ty tv:TE}
def Ue(z:X.A.units+1<cLine)(t:PE X o td)(r:PE X i ty)(w:Qx i):PE X (.Subscript o i pos) (aaO td ty):=by intro b s f H Q I h;refine NF nS.lookup w (ff (t b s f H _ I h) λu G ⟨x,j,m,E,B⟩=>ff (r b G f j _ m B) λM N zz=>?_);obtain⟨y,l,d,F,a,v,q,g,C⟩:=zz;subst q;obtain rfl:u=Value.ref a:=E;exact⟨K9 d g,O1 z d g F λR P p c=>⟨v,l,p,c,C⟩⟩
def Ug(C:X.A.units+1<cLine)(z:PE X o td)(w:PE X i ty)(E:PE X value tv)(B:dq value (Z (.Subscript o i pos')) pos.line X.b5=pure δ):
  PS X (.Assign [.Subscript o i pos'] value pos) (V1 td ty tv):=by
 intro b s c H D I h;refine wpAny_Assign_Subscript (ff (E b s c H _ I h) λr Q ⟨v,d,l,M,F⟩=>ff (z b Q c d _ l F) λu R ⟨x,f,m,N,G⟩=>ff (w b R c f _ m G) λT U zz=>?_) B;obtain⟨y,S,p,P,a,j,t,g,q3⟩:=zz;subst t;obtain rfl:u=Value.ref a:=N;exact O2 C p g P M λW q=>⟨c,j,q,q3⟩
end
def Qy(h:Heap)(a:cj<h.objs.size):ee P w H (h.push { cls:=.type "dict", data:=.dict #[] }) h.objs.size (.dK []):=
 ⟨b7 _,beq_eq_false_iff_ne.2 (cI (aT a)),[],.nil,tS h⟩
def Mz:TE:=λ_ H Q=>∀p,H p=J->Q (.ref p) (en H p (.dK []))
section
variable{X:Cx}{pos:Pos}
def La:PE X (.Dict [] [] pos) Mz:=λb s d H Q I h=>
 wpAny_Dict_empty ⟨.ref s.heap.objs.size,_,I.laid (a:=s.heap.objs.size) (o:=.dK []) (t':=s.toks) (λ_ _ q=>aJ _ q) (aO _) (Qy s.heap I.big),O,h _ (I.e?.fresh (aO _))⟩
end
abbrev VV:List (V×V)->List (ab×ab)->Prop:=gq λp q=>df p.1 q.1/\df p.2 q.2
structure M1(X:Cx)(o:Expr)(m:Str)(apos:Pos)(e:Expr)(cpos:Pos):Prop where
 b4:fC o m X.b5 (eval o X.b5)=eval o X.b5
 few:((bI cpos (aC [e] X.b5)).all (λx=>!x.1)&&(backToKw cpos (d7 [] X.b5)).all (λx=>x.1.isSome)
  && decide (([e]:List Expr).length+([]:List fG).length+(if ([]:List fG).isEmpty then 0 else 1)<30))=γ
 line:(apos.endLine==cpos.line)=γ
 Bx:bI cpos (aC [e] X.b5)=[(δ,eval e X.b5)]
structure M2(X:Cx)(o:Expr)(m:Str)(apos:Pos)(e f:Expr)(cpos:Pos):Prop where
 b4:fC o m X.b5 (eval o X.b5)=eval o X.b5
 few:((bI cpos (aC [e,f] X.b5)).all (λx=>!x.1)&&(backToKw cpos (d7 [] X.b5)).all (λx=>x.1.isSome)
  && decide (([e,f]:List Expr).length+([]:List fG).length+(if ([]:List fG).isEmpty then 0 else 1)<30))=γ
 line:(apos.endLine==cpos.line)=γ
 Bx:bI cpos (aC [e,f] X.b5)=[(δ,eval e X.b5),(δ,eval f X.b5)]
def IsD(H:Hp)(a:Addr):Prop:=(∃kvs,Rd H a (.dK kvs))\/∃kvs,Rd H a (.dT kvs)
def Kc(I:b? X j o H s)(d:IsD H a):
  s.TypeIs (.ref a) "dict" /\ (∀b,Value.ref a=.ref b->∃c,s.heap.get? b=Z c/\c.dict=J)/\(a==cj)=δ:=by
 rcases d with ⟨kvs,e⟩|⟨kvs,e⟩
 .obtain⟨_,hd,l,_,f⟩:=Fk I.e? e;refine⟨f.typeIs,λb q=>?_,hd⟩;cases q;obtain⟨c,_,_,h,i,_⟩:=f;exact⟨c,h,i.2.1⟩
 .obtain⟨_,hd,m,_,f⟩:=Je I.e? e;refine⟨f.typeIs,λb q=>?_,hd⟩;cases q;obtain⟨c,_,_,h,i,_⟩:=f;exact⟨c,h,i.2.1⟩
section
variable{X:Cx}{pins:cB}{σ:St}{H:Hp}{s:ae}{a:Addr}{y d:V}{u r:ab}{o:Option V}{A:aM}{E:ab->ae->Prop}
def Qz(q:A.units+1<cLine)(I:b? X pins σ H s)(g:r? H a y o)(i:df y u)(h:∀m j,b? X pins σ H j->df (o.getD .I) m->Q m j):
  ag (model X.prog X.w) A (call (.builtin "dict.get") [.ref a,u]) Q E s:=by
 rcases g with ⟨kvs,k,e,f,l⟩|⟨kvs,k,b,e,f,p,l⟩
 .subst f;obtain⟨z,hd,x,rel,c⟩:=Fk I.e? e;refine fD dU c.typeIs gB (kO _ _) (pB (ur X.prog X.w) a (Fj i) hd) ⟨_,c.mapOf,h _ _ (I.x? _) ?_⟩;rw[l];exact(rel.val k).getD O
 .subst f;cases (show u=Value.ref b from i);obtain⟨z,hd,t,rel,c⟩:=Je I.e? e;refine fD dU c.typeIs gB (kO _ _) (meetsH_dict_get (tupleKind (ur X.prog X.w)) a b hd) ⟨jr q,k,t,GV I.e? p,c,h _ _ (I.x? _) ?_⟩;rw[l];exact(rel.val k).getD O
def Xc(t:A.units+1<cLine)(I:b? X pins σ H s)(g:r? H a y o)(j:df y u)(i:df d r)(h:∀p m,b? X pins σ H m->df (o.getD d) p->Q p m):
  ag (model X.prog X.w) A (call (.builtin "dict.get") [.ref a,u,r]) Q E s:=by
 rcases g with ⟨kvs,k,e,f,l⟩|⟨kvs,k,b,e,f,q,l⟩
 .subst f;obtain⟨z,hd,B,rel,c⟩:=Fk I.e? e;refine fD dU c.typeIs gB (kP _ _ _) (meets_dict_get_default (ur X.prog X.w) a (Fj j) hd r) ⟨_,c.mapOf,h _ _ (I.x? _) ?_⟩;rw[l];exact(rel.val k).getD i
 .subst f;cases (show u=Value.ref b from j);obtain⟨z,hd,x,rel,c⟩:=Je I.e? e;refine fD dU c.typeIs gB (kP _ _ _) (mY (tupleKind (ur X.prog X.w)) a b hd r) ⟨jr t,k,x,GV I.e? q,c,h _ _ (I.x? _) ?_⟩;rw[l];exact(rel.val k).getD i
end
def Xd(e ty:TE):TE:=λd H Q=>e d H λx b=>∃a,x=.ref a/\IsD b a/\ty d b λy c=>∃o,r? c a y o/\Q (o.getD .I) c
def Xe(f ty h:TE):TE:=λb H Q=>f b H λx c=>∃a,x=.ref a/\IsD c a/\ty b c λy e=>h b e λz d=>∃o,r? d a y o/\Q (o.getD z) d
section
variable{X:Cx}{o e f:Expr}{apos cpos:Pos}{td ty tx:TE}
def QA(B:X.A.units+1<cLine)(z:PE X o td)(w:PE X e ty)(m:M1 X o "get" apos e cpos):PE X (.Call (.Attribute o "get" apos) [e] [] cpos) (Xd td ty):=by intro b s j H Q I h;refine gy m.b4 m.few m.line gz dU jB (ff (z b s j H _ I h) λu M zz=>?_);obtain⟨x,l,i,F,a,t,d,C⟩:=zz;subst t;obtain rfl:u=Value.ref a:=F;obtain⟨N,P,_⟩:=Kc i d;refine⟨N,P,?_⟩;rw[m.Bx];refine fN O (fO (dg (ff (w b M j l _ i C) λR T ⟨y,p,q,G,S,g,E⟩=>eI ?_)));exact Qz B q g G λW U r c=>⟨_,p,r,c,E⟩
def QB(G:X.A.units+1<cLine)(F:PE X o td)(C:PE X e ty)(E:PE X f tx)(m:M2 X o "get" apos e f cpos):PE X (.Call (.Attribute o "get" apos) [e,f] [] cpos) (Xe td ty tx):=by
 intro b s i H Q I h;refine gy m.b4 m.few m.line gz dU jB (ff (F b s i H _ I h) λu T zz=>?_);obtain⟨x,l,j,P,a,B,d,M⟩:=zz;subst B;obtain rfl:u=Value.ref a:=P;obtain⟨W,Y,_⟩:=Kc j d;refine⟨W,Y,?_⟩;rw[m.Bx];refine fN O (fO (dg (ff (C b T i l _ j M) λiv U ⟨y,p,r,R,N⟩=>
  dg (ff (E b U i p _ r N) λfv s3 ⟨z,q,t,S,ov,g,q3⟩=>eI ?_))))
 exact Xc G t g R S λw' s4 w c=>⟨_,q,w,c,q3⟩
end
end L2
namespace Att
open PySem PySem.W PySem.Calls PyProof.Rows
def Gf:∀(c:List Int) (d:List ab),WellAll P h d (c.map WData.int)->iV d c:=by
 intro c
 induction c with
 |nil=>intro d w;rw[dH]at w;cases w;exact .nil
 |cons n c e=>
  intro d w;rw[aA]at w;cases w with
  |cons a b=>cases a;exact .cons _ _ (e _ b)
def O3{l:gZ}(t:l.most=Z n)
  (hpre:l.row.toRowW.claim.pre args=γ) (hwl:WellAll P h vals args):
  ∃a j b,vals=[Value.ref a]/\args=[WData.list (b.map WData.int)]/\h.get? a=Z { cls:=.type "list", data:=.seq j.toArray }/\iV j b/\b.length<=n:=by
 have hsh:WShape.hasAll [] args [.list .int]=γ:=(pre_splitW hpre).1;have i:l.pre.holds [] { args:=args }=γ:=(pre_splitW hpre).2;obtain⟨d,r,rfl,m,o⟩:=hasAllW_cons hsh;obtain rfl:=hasAllW_nil o;obtain⟨z,rfl,p⟩:=hasW_list m;obtain⟨b,rfl⟩:=items_int p;have c:b.length<=n:=by
  unfold OpenLaw.pre at i;have e:(WTm.not (.lt (.lit (.int (n:Int))) (.len (.arg 0)))).holds [] { args:=[.list (b.map .int)] }=γ:=by have e:=(holds_andW i).1;rw[t]at e;exact e
  have f:=condW_of e (w_not (w_lt w_lit (w_len_list (w_arg O))));rw[aq]at f;refine oU λq=>?_;have w:(n:Int)<((b.length:Nat):Int):=by omega
  first
   |(rw[bf w]at f;exact ao f (by decide))
   |(simp at f;omega)
 cases hwl with
 |cons x y=>
  cases y;cases x with
  |list u hall=>exact⟨_,_,b,O,O,u,Gf b _ hall,c⟩
def O4(l:gZ)(args:List WData):l.row.toRowW.claim.post args (.bool γ) args=γ:=
 postW_of (r:=l.row.toRowW) (X:=(γ==γ))
  (show qu [] (.bool γ) .bool=γ by first|rfl|decide|simp[qu,WShape.arms,WShape.armsAll])
  (show (WTm.eq .res (.lit (.bool γ))).value [] { args:=args,res:=Z (.bool γ),after:=args }=Z (.bool (γ==γ)) from w_eq_bool (w_res O) w_lit) O
def R?{l:gZ}{d:DefRec}
  (E:l.most=Z n) (hdf:d.params.defaults=[])
  (call:∀(w:ay) (c b:ae) (m u:Str->Option ab) (h:Addr) (o:Obj) (x j doc:ab) (a:Addr) (e:List ab) (p:List Int),
   Ground q loose [] XP w c m u b.heap->YP w b.heap->
   b.heap.get? h=Z o->o.data=.func (docDef d.name d.params d.body d.scope x j doc)->b.heap.CodeRec j d.name->m d.name=Z (.ref h)->
   b.heap.get? a=Z { cls:=.type "list", data:=.seq e.toArray }->iV e p->p.length<=n->b.gens=#[]->
   b9 (model l.prog w) callerA (.call (.ref h) ⟨[.ref a],[]⟩) (λr t=>r=.ok (.ret (.bool γ))/\OldK b.heap t.heap/\t.os=b.os/\eV t.gens) b):
  WalkO q loose XP YP l.row.toRowW d [] (λf e=>mf f e):=by
 intro w c b m u G Y h o x j doc dV kV F hd hcd hD hmg B args vals as hpre hlay hrd hwl hlo;obtain rfl:dV=.none:=Dflts.none hD hdf;obtain rfl:kV=.none:=Dflts.noKw hD;obtain⟨a,e,p,rfl,rfl,hobj,hints,i⟩:=O3 E hpre hwl;refine enter_call (gS (call w c b m u h o x j doc a e p G Y F (fd_plain hd) hcd hmg hobj hints i B) λr t H=>?_);obtain⟨rfl,y,z,A⟩:=H;exact⟨.inl ⟨.bool γ,.bool γ,[],O,λ_=>O,.bool γ,O4 l _,λ_=>⟨List.Pairwise.nil,λ_ C=>(nomatch C)⟩⟩,y,z,A⟩
end Att
namespace L2
open PySem PySem.Spec PyProof.Rows
theorem Jf:∀{b:List ab} {a:List Int},iV b a->c9 (a.map V.int) b
 |_,_,.nil=>.nil
 |_,_,.cons n t h=>.cons ⟨t,O⟩ (Jf h)
def Xf(H:Hp):Prop:=∀b,H b=J\/∃o a,H b=Z (.mu o (.b3 a))
def QC{K:au}{c:ae}{j:List ab}
  (KX:K.In c.heap) (hns:c.heap.Ns aZ A) (f:c.heap.Ns builtinsNs Q) (hbb:∀x:Str,x≠"__name__" -> Q x=dG x) (hlim:c.heap.NoLimit) (hg:c.gens=#[])
  (y:c.heap.get? a=Z { cls:=.type "list", data:=.seq j.toArray }) (M:iV j B) (N:B.length<=aI) (hr:wb k callerA)
  (F:∀b4:Heap,K.In b4->b4.Ns aZ A->yb P w K A b4 CX k I W [x] sp) (hbind:∀(s:ae) (u:ab),hE s W ⟨[u],[]⟩ [(x,u)])
  (hsp:∀H:Hp,Xf H->f3 K H a (B.map V.int)->sp [.ref a] H (λv _=>v=.O γ) λ_ _ _=>False)
  (hCX:∀H e i,CX [] H c (λ_ _ _=>False) e i->False):
  b9 (model P w) callerA (.call (.ref I) ⟨[.ref a],[]⟩) (λr i=>r=.ok (.ret (.bool γ))/\OldK c.heap i.heap/\i.os=c.os/\eV i.gens) c:=by
 have R:=Jf M;have lenV:=M.length;have core:∀H:Hp,Xf H->f3 K H a (B.map V.int)->q? P w H c.heap->(∀b,H b≠J->b=a)->(H a≠J->K.lookup a=J)->
   b9 (model P w) callerA (.call (.ref I) ⟨[.ref a],[]⟩) (λr i=>r=.ok (.ret (.bool γ))/\OldK c.heap i.heap/\i.os=c.os/\eV i.gens) c:=by
  intro H hO hS e? hA hK;have base_of:∀{b:Addr} {o:Obj},c.heap.get? b=Z o->H b=J->(J1 c.heap H).get? b=Z o:=λe n=>P6 e n;have noA:∀{b:Addr} {o:Obj} {p:Array DictEntry} {l:Nat},c.heap.get? b=Z o->o.data=.dict p l->H b=J:=λ{b o p l} e d=>by
   cases q:H b with
   |none=>rfl
   |some u=>have C:b=a:=hA b (by rw[q];simp);subst C;rw[y]at e;cases e;have S:Data.seq j.toArray _=Data.dict p l:=d;cases S
  have nsK:∀{b:Addr} {m:Str->Option ab},c.heap.Ns b m->(J1 c.heap H).Ns b m:=λ{b m} ⟨o,p,l,e,d,r⟩=>⟨o,p,l,base_of e (noA e d),d,r⟩;have hKb:K.In (J1 c.heap H):=λb o e=>base_of (KX b o e) (by
   cases q:H b with
   |none=>rfl
   |some u=>
    have C:b=a:=hA b (by rw[q];simp);subst C;rw[hK (by rw[q];simp)]at e;cases e)
  have hM:Mod K A (J1 c.heap H):=⟨hKb,nsK hns,⟨Q,nsK f,hbb⟩,let ⟨mc,X,Y⟩:=hlim;⟨mc,nsK X,Y⟩⟩;have T:My P w K A (J1 c.heap H) callerA [] c H:=⟨O,hM,λb o e=>TH e,pY (ON _ _),trivial,λb f=>ao (show b∈([]:List Addr) from f) (by simp),e?,.of_eq hg⟩;refine gS ((F _ hKb (nsK hns)).run callerA [] c H ⟨[.ref a],[]⟩ [.ref a] [.ref a] _ _ hr T (hbind c (.ref a)) (.cons O .nil) (hsp H hO hS)) λr i h=>?_;cases r with
  |error e=>exact(hCX H e i h).elim
  |ok fl=>
   cases fl with
   |next=>exact cZ h
   |brk=>exact cZ h
   |cont=>exact cZ h
   |ret u=>
    obtain⟨v,H',os,ka,un,hok',r',q⟩:=h;have q':v=.O γ:=q;subst q';obtain rfl:u=Value.bool γ:=r';refine⟨O,OldK.of_keep λb o e=>?_,os,ka⟩;cases q:H b with
    |none=>exact un.keep b o e q (by intro z;exact ao (show b∈([]:List Addr) from z) (by simp)) (by simp)
    |some u=>
     rcases hO b with z|⟨ob,xs,z⟩
     .rw[q]at z;cases z
     .have z2:=un.Dw b ob _ z;obtain⟨G,_⟩:=e? b _ z;obtain⟨U,_⟩:=hok' b _ z2;rw[e]at G;cases G;exact U
 cases E:K.lookup a with
 |some o=>have e:=KX a o E;rw[y]at e;cases e;refine core (λ_=>J) (λ_=>.inl O) (.inr ⟨_,j.toArray,_,E,O,O,O,by rw[bw,lenV];exact N,by simpa using R⟩) (λb u z=>by have t:(J:Option HO)=Z u:=z;cases t) (λb z=>ao O z) λz=>ao O z
 |none=>
  refine core (λb=>if b=a then Z (.mu { cls:=.type "list", data:=.seq j.toArray } (.b3 (B.map V.int)))else J) (λb=>?_) (.inl (.inr ⟨{ cls:=.type "list", data:=.seq j.toArray },aj O⟩)) (λb u z=>?_) (λb z=>?_) λ_=>E
  .by_cases f:b=a
   .exact .inr ⟨_,_,aj f⟩
   .exact .inl (ai f)
  .by_cases f:b=a
   .have t:=(aj f).symm.t z;cases t;subst f;exact⟨y,by rw[aq];exact N,j,_,R,y⟩
   .have t:=(ai f).symm.t z;cases t
  .by_cases f:b=a
   .exact f
   .exact ao (ai f) z
def Uh{l:gZ}{n k:Nat}{q:aF}{loose:aH}{XP:(Str->Option ab)->Heap->Prop}{YP:ay->Heap->Prop}{d:DefRec}{K:Params->au}{CX:ay->CXT}{sp:ay->Sp}{x:Str}
  (E:l.most=Z n) (t:n<=aI) (hdf:d.params.defaults=[]) (I:wb k callerA)
  (hY:∀(w:ay) (h:Heap),YP w h->(K w.params).In h)
  (F:∀(w:ay) (i:Str->Option ab) (m:Addr) (h:Heap),(K w.params).In h->h.Ns aZ i->i d.name=Z (.ref m)->
   ∃r:bU,(∀(s:ae) (u:ab),hE s r ⟨[u],[]⟩ [(x,u)])/\
    ∀b4:Heap,(K w.params).In b4->b4.Ns aZ i->yb l.prog w (K w.params) i b4 (CX w) k m r [x] (sp w))
  (hsp:∀(w:ay) (H:Hp) (a:Addr) (p:List Int),p.length<=n->Xf H->f3 (K w.params) H a (p.map V.int)->sp w [.ref a] H (λv _=>v=.O γ) λ_ _ _=>False)
  (hCX:∀(w:ay) (H:Hp) (s:ae) (e:ab) (y:ae),CX w [] H s (λ_ _ _=>False) e y->False):
  W.WalkO q loose XP YP l.row.toRowW d [] (λf A=>mf f A):=by
 refine Att.R? E hdf λw z j i P m o Q M doc a A p G Y N hd hcd hmg hobj hints c C=>?_;have KX:=hY w _ Y;obtain⟨r,B,hF⟩:=F w i m _ KX G.T.g hmg;exact QC KX G.T.g G.T.b G.T.builtins G.T.nolimit C hobj hints (bM c t) I hF B (λH hO hS=>hsp w H a p c hO hS) λH e y=>hCX w H j e y
def cb(s:Stmt)(j:Nat):Stmt:=match s with
 |.ClassDef _ _ _ body _ _ _ _ _ _ _=>body.getD j (.Pass ⟨0,0,0,0⟩)
 |_=>.Pass ⟨0,0,0,0⟩
def xQ(s:Stmt):Arguments:=match s with
 |.FunctionDef _ a _ _ _ _ _ _ _ _=>a
 |_=>{ posonlyargs:=[],args:=[],vararg:=J,kwonlyargs:=[],kw_defaults:=[],kwarg:=J,defaults:=[] }
def u0(s:Stmt):List Stmt:=match s with
 |.FunctionDef _ _ b _ _ _ _ _ _ _=>b
 |_=>[]
def uG(s:Stmt):cJ:=match s with
 |.FunctionDef _ _ _ _ _ _ a _ _ _=>a
 |_=>{ kind:=.function,names:=[],isGenerator:=δ,isCoroutine:=δ }
abbrev K?:CXT:=λ_ _ _ _ _ _=>False
abbrev E0:XK:=λ_ _ _=>False
def Lb:qx K? X E0:=λ_ _ _ _ _ _ _ h=>h.elim
structure Fun(K:au)(x qual:Str)(st:Stmt)(f:Addr)(fd:bU):Prop where
 ex:∃(oc:ab) (od:Option Addr) (kV doc pm:ab) (an:Option Addr) (cdv ct:ab) (osl:Array (Option ab)),
  fd=eW x qual (xQ st) (u0 st) (uG st) .none kV doc pm an cdv ct/\K.lookup f=Z ⟨oc,od,.func fd,osl⟩/\gY K cdv qual=γ
 kp:d8 K (.ref f)=γ
section
variable{P:aF}{w:ay}{K:au}{mg:Str->Option ab}{b4:Heap}
theorem Fun.ok{x qual:Str}{st:Stmt}{f:Addr}{c:bU}{N ps:aH}{k:Nat}{b:Sp}(F:Fun K x qual st f c)(S:wU N ps (uG st))(len:∀a H Q E,b a H Q E->a.length=ps.length)
  (hbody:∀(cdv:ab) (A:aM) (c4:List Env) (s:ae) (H:Hp) (a:bC) (Q:VK) (E:XK),wb k (A.deeper (envOfC qual (uG st) s.heap.objs.size f cdv))->b a H Q E->
   ∃t,n9 (K4 K? P w K mg b4 N qual (uG st) f cdv A c4 s H E).nox (u0 st) t/\t { nx:=λ_ d=>Q .I d,rt:=Q } (start N a) H):yb P w K mg b4 K? (k+1) f c ps b:=by
 obtain⟨m,o,kV,doc,p,j,cdv,l,osl,rfl,i,hcd⟩:=F.ex;refine VY i hcd S len λA c4 s H a Q E e hsp=>?_;obtain⟨t,h,q⟩:=hbody cdv A c4 s H a Q E e hsp;exact⟨t,h.nox,q⟩
theorem Fun.rl{x qual:Str}{st:Stmt}{f:Addr}{i:bU}{d:aH}(F:Fun K x qual st f i)
  (h:∀(kV doc c:ab) (a:Option Addr) (cdv b:ab) (e:List ab),e.length=d.length->bindArgs (eW x qual (xQ st) (u0 st) (uG st) .none kV doc c a cdv b) ⟨e,[]⟩=pure (d.zip e)):ki K i d []:=by
 obtain⟨l,m,kV,doc,c,a,cdv,b,osl,rfl,j,hcd⟩:=F.ex;exact .all (h kV doc c a cdv b)
end
def Lc(a:wb k A):A.units+1<cLine:=js (Nat.add_le_add_left (by decide:1<=64) _) a.units
def Cy(h:n<=1000):n<aI:=js h (by decide)
section
variable{X:Cx}
def pv(i:Nat)(hN:X.N[i]?=Z x:=by rfl)(a:Vis X.b5.scope x:=by first|exact Or.inl O|exact Or.inr (Or.inl O)|exact Or.inr (Or.inr O))(hd:(x==("__debug__" : Str))=δ:=by decide)
  (hcd:(x==("__classdict__" : Str))=δ:=by decide):PE X (.Name x pos) (CP i):=Ww hN a hd hcd
end
def Ke{A B:Prop}(h:B):if δ=γ then A else B:=by rw[ai bx];exact h
def Kg{A B:Prop}(h:A):if γ=γ then A else B:=by rw[aj O];exact h
def ux(H a:Hp):Prop:=∀b o,H b=Z o->a b=Z o
def ux.refl(H:Hp):ux H H:=λ_ _ h=>h
def ux.t(a:ux H d)(b:ux d e):ux H e:=λc o h=>b c o (a c o h)
def ux.seq{K:au}{H b:Hp}{a:Addr}{xs:bC}(e:ux H b)(h:f3 K H a xs):f3 K b a xs:=by
 rcases h with (h|⟨o,h⟩)|h
 .exact .inl (.inl (e _ _ h))
 .exact .inl (.inr ⟨o,e _ _ h⟩)
 .exact .inr h
end L2
set_option maxHeartbeats 4000000
namespace L3
open PySem PySem.Spec PyProof.Rows L2
abbrev St:=L2.St
theorem GW{d a:Type}{f:d->a->Sem (ForInStep a)}{g:a->d->a}:∀(l:List d) (b:a),(∀x∈l,∀c,f x c=pure (ForInStep.yield (g c x)))->(forIn l b f:Sem a)=pure (l.foldl g b)
 |[],b,_=>by simp
 |x::r,b,h=>by rw[List.forIn_cons,h x aN b];show (forIn r (g b x) f:Sem a)=_;rw[GW r (g b x) λy e c=>h y (aQ _ e) c];rfl
def Bv(cells:List (Str×Addr))(cs:List (Str×Addr))(x:Str×d9):List (Str×Addr):=if (x.2==NameKind.free)=γ then (x.1,(cells.lookup x.1).getD 0)::cs else cs
def yN(cells:List (Str×Addr))(names:List (Str×d9)):List (Str×Addr):=names.foldl (Bv cells) []
def II{scope:cJ}{b5:Env}(h:∀x∈scope.names,x.2=.free->∃c,b5.cells.lookup x.1=Z c):
  closureFor scope b5=pure (yN b5.cells scope.names):=by
 simp only[closureFor];rw[GW (g:=Bv b5.cells) scope.names [] λx i c=>by
  obtain⟨n,k⟩:=x;by_cases b:k=.free
  .subst b;obtain⟨a,e⟩:=h _ i O;have d:b5.cells.lookup n=Z a:=e;simp only[Bv,cellOf,d,beq_self_eq_true,if_true,oV];rfl
  .have f:(k==NameKind.free)=δ:=by simpa using b
   simp only[Bv,f,fj,if_false]]
 rfl
theorem Ld{cells:List (Str×Addr)}:∀(names:List (Str×d9)) (acc:List (Str×Addr)),(∀x∈names,x.2=.free->∃c,cells.lookup x.1=Z c)->(∀x c,acc.lookup x=Z c->cells.lookup x=Z c)->
  ∀x c,(names.foldl (Bv cells) acc).lookup x=Z c->cells.lookup x=Z c
 |[],acc,_,j,x,c,e=>j x c e
 |y::r,acc,h,j,x,c,e=>by
  refine Ld r (Bv cells acc y) (λz p=>h z (aQ _ p)) (λz d b=>?_) x c e;obtain⟨n,k⟩:=y;unfold Bv at b;split at b
  .rename_i o;obtain⟨a,m⟩:=h (n,k) aN (by simpa using o);have f:cells.lookup n=Z a:=m;rw[eK]at b;cases l:z==n with
   |true=>rw[l]at b;have i:Z ((cells.lookup n).getD 0)=Z d:=b;rw[f]at i;rw[iR l,f];exact i
   |false=>rw[l]at b;exact j z d b
  .exact j z d b
theorem Jg:∀(names:List (Str×d9)) (acc:List (Str×Addr)) (x:Str),(∃c,acc.lookup x=Z c)->∃c,(names.foldl (Bv cells) acc).lookup x=Z c
 |[],_,_,h=>h
 |y::r,acc,x,h=>by
  refine Jg r (Bv cells acc y) x ?_;unfold Bv;split
  .rw[eK];cases x==y.1 with
   |true=>exact⟨_,O⟩
   |false=>exact h
  .exact h
theorem GY:∀(names:List (Str×d9)) (acc:List (Str×Addr)) (x:Str),(x,NameKind.free)∈names->∃c,(names.foldl (Bv cells) acc).lookup x=Z c
 |[],_,_,h=>by cases h
 |y::r,acc,x,h=>by
  rcases aK.1 h with e|h
  .subst e;refine Jg r _ x ?_;unfold Bv;rw[aj (by simp),eK];simp
  .exact GY r _ x h
theorem AY{b5:Env}(x:Str):∀(names:List (Str×d9)),
  (names.map λ(n,k)=>if (k==NameKind.free&&b5.scope.kind==.function&&b5.kindOf n==Z .cell)then (n,NameKind.cell)else (n,k)).lookup x=
   (names.lookup x).map λk=>if (k==NameKind.free&&b5.scope.kind==.function&&b5.kindOf x==Z .cell)=γ then NameKind.cell else k
 |[]=>rfl
 |(n,k)::r=>by
  have c:=AY (b5:=b5) x r;rw[aA,eK (k:=n)];show dJ x ((if (k==NameKind.free&&b5.scope.kind==.function&&b5.kindOf n==Z .cell)=γ then (n,NameKind.cell)else (n,k))::_)=_;cases a:x==n with
  |true=>
   have e:=iR a;subst e;split
   .rename_i b;simp only[eK,a,fX,b,if_true]
   .rename_i b;simp only[eK,a,fX];rw[ai b]
  |false=>
   rw[<-c];split
   .simp only[eK,a]
   .simp only[eK,a]
def MA{scope:cJ}(hcell:∀y∈scope.names,y.2≠.cell)(h:(relabel scope b5).names.lookup x=Z .cell\/(relabel scope b5).names.lookup x=Z .free):(x,NameKind.free)∈scope.names:=by
 have e:=AY (b5:=b5) x scope.names;have a:(scope.names.lookup x).map (λk=>if (k==NameKind.free&&b5.scope.kind==.function&&b5.kindOf x==Z .cell)=γ then NameKind.cell else k)=Z .cell\/
   (scope.names.lookup x).map (λk=>if (k==NameKind.free&&b5.scope.kind==.function&&b5.kindOf x==Z .cell)=γ then NameKind.cell else k)=Z .free:=by
  rw[<-e];exact h
 cases q:scope.names.lookup x with
 |none=>rw[q]at a;rcases a with z|z<;>cases z
 |some k=>
  rw[q]at a;have b:=mem_of_lookup q;have c:=hcell _ b;cases k with
  |free=>exact b
  |cell=>exact ao O c
  |_=>rcases a with z|z<;>cases z
def IJ{scope:cJ}(h:scope.names.lookup x=Z .free):(relabel scope b5).names.lookup x=Z .cell\/(relabel scope b5).names.lookup x=Z .free:=by
 have e:=AY (b5:=b5) x scope.names;have a:(relabel scope b5).names.lookup x=(scope.names.lookup x).map λk=>if (k==NameKind.free&&b5.scope.kind==.function&&b5.kindOf x==Z .cell)=γ then NameKind.cell else k:=e
 rw[a,h,fX];split
 .exact .inl O
 .exact .inr O
def vQ(X:Cx)(a:aH)(scope:cJ)(cl:List (Str×Addr))(C:Addr)(fp:List Addr)(s:ae)(H:Hp):Cx:=
 { X with N:=a,s₀:=s,H₀:=H,b5:=compEnvC scope cl C X.b5,c4:=X.stack,ex:=fp,fn:=λ_=>δ,pn:=[],xe:=λ_ _=>False }
def PIf(X:Cx)(ifs:List Expr)(t:TT):Prop:=
 ∀(a:cB) (s:ae) (b:St) (H:Hp) (Q:Bool->Hp->Prop),b? X a b H s->t b H Q->
  ag (model X.prog X.w) X.A (forIn ifs γ λc r=>if r=γ then do let ok<-isTrue c X.b5 (eval c X.b5);pure (ForInStep.yield ok)else pure (ForInStep.yield r)) (TP X a b Q) X.xe s
def tIf0:TT:=λ_ H Q=>Q γ H
def Ui:PIf X [] tIf0:=λ_ _ _ H _ I h=>wpAny_tests_nil ⟨H,I,h⟩
def Uj(h:PT X c t):PIf X [c] t:=λa s d H Q I b=>wpAny_tests_one (h a s d H Q I b)
section
variable{prog:aF}{w:ay}{A:aM}{R:fH->ae->Prop}{s:ae}
def Kh(t:Nat->ae->Prop)
  (turn:∀n s,t n s->ag (model prog w) A (pyNext B) (λr b=>match r with
   |none=>R (.ok .next) b
   |some v=>ag (model prog w) A (gG target B v) (λ_ d=>ag (model prog w) A (assign target b5 v) (λ_ l=>
     ag (model prog w) A (forIn ifs γ λc r=>if r=γ then do let ok<-isTrue c b5 (eval c b5);pure (ForInStep.yield ok)else pure (ForInStep.yield r)) (λok f=>
      if ok=γ then ag (model prog w) A (eval elt b5) (λx o=>
       ag (model prog w) A (call (.builtin "list.append") [acc,x]) (λ_ p=>∃m,m<n/\t m p) (notedBy (model prog w) A b5 λe s'=>R (.error e) s') o) (notedBy (model prog w) A b5 λe s'=>R (.error e) s') f
      else ∃m,m<n/\t m f) (notedBy (model prog w) A b5 λe s'=>R (.error e) s') l) (notedBy (model prog w) A b5 λe s'=>R (.error e) s') d)
      (notedBy (model prog w) A b5 λe s'=>R (.error e) s') b) (notedBy (model prog w) A b5 λe s'=>R (.error e) s') s)
  (n:Nat) (h:t n s):
  b9 (model prog w) A (.compLoop (.ListComp elt [⟨target,iter,ifs,0⟩] scope pos) 0 B acc b5) R s:=by
 refine codeAny_loop O t (λn s hI=>?_) n h;show ag _ A ((compTurn (.ListComp elt [⟨target,iter,ifs,0⟩] scope pos) 0 B acc b5).onRaise (λx=>do noteFrame x b5;theTreesLotGoes x)) _ _ s;refine wpAny_noted ?_;rw[compTurn_list];refine af (pP (af (b8 (turn n s hI) (λr b i=>?_) λ_ _ a=>a)));cases r with
 |none=>exact ar i
 |some v=>
  refine af (b8 i (λ_ d q=>?_) λ_ _ a=>a);refine af (b8 q (λ_ l u=>af (b8 u (λok f j=>?_) λ_ _ a=>a)) λ_ _ a=>a);cases ok with
  |false=>exact ar ⟨O,j⟩
  |true=>exact af (af (b8 j (λx o y=>af (b8 y (λ_ p z=>ar (ar ⟨O,z⟩)) λ_ _ a=>a)) λ_ _ a=>a))
end
def xR(k:Nat)(d4:List Nat)(a:St):St:=jE k J++d4.map λj=>(a[j]?).join
def Jh(h:(xR k d4 b)[i]?=Z (Z v)):k<=i:=by
 by_cases a:k<=i
 .exact a
 .unfold xR at h;rw[fM (by rw[dc];omega),i8]at h;split at h<;>cases h
def O5{k:Nat}{d4:List Nat}{b:St}{N a:aH}{i:Nat}{v:V}{x:Str}(hcap:(a.drop k).map Z=d4.map λj=>N[j]?)(f:a[i]?=Z x)(h:(xR k d4 b)[i]?=Z (Z v)):
  ∃j:Nat,N[j]?=Z x/\b[j]?=Z (Z v)/\x∈a.drop k:=by
 have d:=Jh h;unfold xR at h;rw[fL (by rw[dc];exact d),dc,bD]at h;have hd:(a.drop k)[i - k]?=Z x:=by rw[fo,show k+(i - k)=i by omega];exact f
 have e:=bp (λl=>l[i - k]?) hcap;simp only[bD,hd,fX]at e;cases q:d4[i - k]? with
 |none=>rw[q]at h;cases h
 |some j=>
  rw[q]at h e;simp only[fX,tL]at h e;refine⟨j,e.symm,?_,cq hd⟩;cases z:b[j]? with
  |none=>rw[z]at h;cases h
  |some o=>rw[z]at h;have c:o=Z v:=h;rw[c]
def Fl(u:TI)(g:TG)(t:TT)(r:TE)(k:Nat)(d4:List Nat):TE:=λf H Q=>u f H λe h=>∀p,h p=J->
 ∃W:Nat->Nat->bC->Hp->Prop,(∃m,W 0 m [] (en h p (.b3 [])))/\∀i m acc c,W i m acc c->
  (e.stop i c/\Q (.ref p) c)\/
   (e.go i c/\∀x j,e.yld i c x j->g x (xR k d4 f) j λa q=>a.drop k=(xR k d4 f).drop k/\t a q λb l=>
    if b=γ then r a l λy o=>∃acc',o p=Z (.b3 acc')/\acc'.length<aI/\∃d,d<m/\W (i+1) d (acc'++[y]) (en o p (.b3 (acc'++[y])))
    else ∃d,d<m/\W (i+1) d acc l)
def Ji{X:Cx}{d4:List Nat}
  (hc:X.nr=γ) (hi:PI X tg iter wi)
  (body:∀(cl:List (Str×Addr)) (C:Addr) (fp:List Addr) (s:ae) (H:Hp),PG (vQ X E scope cl C fp s H) tg g/\PIf (vQ X E scope cl C fp s H) ifs tt/\PE (vQ X E scope cl C fp s H) elt te)
  (hkind:scope.kind=.function) (hcell:(scope.names.all λy=>y.2 != .cell)=γ)
  (hloc:(scope.names.all λy=>y.2 != .local||scope.names.lookup y.1==Z .local)=γ)
  (hfree:(scope.names.all λy=>y.2 != .free||(X.b5.kindOf y.1==Z .cell||X.b5.kindOf y.1==Z .free))=γ)
  (hlen:E.length=k+d4.length) (hcap:(E.drop k).map Z=d4.map λj=>X.N[j]?)
  (hcf:((E.drop k).all λx=>scope.names.lookup x==Z .free)=γ)
  (hs:∀x,iA iter X.b5 x=pure x)
  (I:b? X pins σ H s) (h:Fl wi g tt te k d4 σ H Q)
  (fin:∀a C m u s4 H3,s4.heap.Ns C m->b? X pins σ H3 s4->IF X pins H3 C->Q (.ref a) H3->compPost (model X.prog X.w) X.A X.xe use P (.ref a) C (.ok u) s4):
  ag (model X.prog X.w) X.A (comprehension (.ListComp elt [⟨tg,iter,ifs,0⟩] scope pos) scope X.b5 (firstIterPos [⟨tg,iter,ifs,0⟩] pos) (newList []) δ (eval iter X.b5) use) P X.xe s:=by
 have hcell':∀y∈scope.names,y.2≠.cell:=λy M e=>by have z:=ba.1 hcell y M;rw[e]at z;exact ao z (by decide)
 have hloc':∀y∈scope.names,y.2=.local->scope.names.lookup y.1=Z .local:=λy M e=>by have z:=ba.1 hloc y M;rw[e]at z;simpa using z
 have hfree':∀y∈scope.names,y.2=.free->X.b5.kindOf y.1=Z .cell\/X.b5.kindOf y.1=Z .free:=λy M e=>by have z:=ba.1 hfree y M;rw[e]at z;simpa using z
 have hcl:∀y∈scope.names,y.2=.free->∃c,X.b5.cells.lookup y.1=Z c:=λy M e=>I.ok.has y.1 (hfree' y M e);refine wpAny_comprehension_free O hs (II hcl) hkind hloc' (ff (hi pins s σ H _ I h) λxv s₁ B=>ff B λit l h₂=>?_);obtain⟨ita,fp,tn,At,H2,e,I2,T,st2,G,R2⟩:=h₂;subst e;obtain⟨W,⟨m0,w0⟩,turn⟩:=R2 l.heap.objs.size (I2.e?.fresh (aO _));refine gA (wpAny_newFunctionEnv hcell' (by intro y M;simp at M) (λB hns₁ hsb₁=>?_) hkind);dsimp only at hns₁ hsb₁ ⊢;generalize hp:l.heap.push { cls:=.type "list", dict:=J,data:=.seq ([]:List ab).toArray }=hpL at hns₁ hsb₁ ⊢;have hsz:hpL.objs.size=l.heap.objs.size+1:=by rw[<-hp,cN]
 have t:b? X pins σ (en H2 l.heap.objs.size (.b3 [])) { l with heap:=hpL }:=by rw[<-hp];exact I2.laid (t':=l.toks) (λb u e=>aJ _ e) (aO _) ⟨b7 _,[],0,.nil,bg _ O⟩
 have old:∀b o,hpL.get? b=Z o->B.get? b=Z o:=λb o e=>hsb₁.extBut b o (aT (aL e)) (aJ _ e);have older:∀b o,l.heap.get? b=Z o->hpL.get? b=Z o:=λb o e=>by rw[<-hp];exact aJ _ e
 have hfpS:∀b∈fp,b<l.heap.objs.size:=λb hb=>let ⟨o,e,_⟩:=T.obj _ _ st2 b hb;aL e;have sub:∀x c,(yN X.b5.cells scope.names).lookup x=Z c->X.b5.cells.lookup x=Z c:=Ld scope.names [] hcl (λx c e=>by cases e);have R:(vQ X E scope (yN X.b5.cells scope.names) hpL.objs.size fp { l with heap:=hpL } (en H2 l.heap.objs.size (.b3 []))).Ok:={
  Hj:=t.ok.Hj
  kind:=hkind
  D?:=t.ok.D?
  blt:=t.ok.blt
  above:=aO _
  inj:=λx y c h1 h2=>t.ok.inj x y c (sub x c h1) (sub y c h2)
  has:=λx F=>GY scope.names [] x (MA hcell' F)
  cab:=λx c hf _=>ao (show δ=γ from hf) bx
  hd:=t.ok.hd
  frames:=t.ok.frames
  stk:=.inl O
  exf:=λb hb=>⟨(by
   show b≠hpL.objs.size;rw[hsz];exact aT (dh (hfpS b hb))),λx c e=>(G b hb).2.2.2.2.1 x c (sub x c e)⟩
  bs:=t.bs
  bsz:=bM t.ok.bsz t.sz
  noex:=λb o e hb=>by
   rcases(G b hb).2.2.2.1 with z|z
   .exact t.ok.noex b o e z
   .exact ao (bY (aL e) (bM t.ok.bsz z)) (dW _)
  exfs:=λb hb z=>(aK.1 (t.ζ b z)).elim (G b hb).2.1 (G b hb).2.2.1
  tH:=t.stack
  frf:=t.χ }
 have IX:b? (vQ X E scope (yN X.b5.cells scope.names) hpL.objs.size fp { l with heap:=hpL } (en H2 l.heap.objs.size (.b3 []))) [] (xR k d4 σ) (en H2 l.heap.objs.size (.b3 []))
   { l with heap:=B,toks:=l.toks+([]:List (Str×ab)).length }:={
  ok:=R
  os:=rfl
  ka:=t.ka
  b4:=Un.f5 old
  O?:=⟨_,hns₁,λi x v e1 e2 _=>by
   obtain⟨j,hj,hσ,hm⟩:=O5 hcap e1 e2;have F:scope.names.lookup x=Z .free:=by simpa using ba.1 hcf x hm
   have hk:=hfree' (x,.free) (mem_of_lookup F) O;obtain⟨m,hn,hl⟩:=t.O?;obtain⟨u,r,lk⟩:=hl j x v hj hσ (hk.elim (λz=>.inr (.inl z)) λz=>.inr (.inr z));refine⟨u,r,.inr ⟨IJ F,?_⟩⟩;rcases lk with ⟨z,_⟩|⟨_,c,e,o,ho,hd⟩
   .rcases hk with y|y
    .rw[y]at z;cases z
    .rw[y]at z;cases z
   .obtain⟨c',e'⟩:=GY (cells:=X.b5.cells) scope.names [] x (mem_of_lookup F);have ec:=sub x c' e';rw[e]at ec;have ec':c=c':=cu ec;subst ec';exact⟨c,e',o,old _ _ ho,hd⟩⟩
  cell:=λx c e=>by obtain⟨v,o,ho,hd⟩:=t.cell x c (sub x c e);exact⟨v,o,old _ _ ho,hd⟩
  free:=t.e?.fresh (aO _)
  l':=λx c e=>t.l' x c (sub x c e)
  pin:=λp hp=>ao (show p∈([]:cB) from hp) (by simp)
  e?:=t.e?.f5 old
  len:=by
   show (xR k d4 σ).length=E.length;rw[hlen];unfold xR;rw[aR,dc,aq] }
 have stat:∀{H':Hp},(∀b∈fp,H' b=J)->∀b∈fp,IF (vQ X E scope (yN X.b5.cells scope.names) hpL.objs.size fp { l with heap:=hpL } (en H2 l.heap.objs.size (.b3 []))) [] H' b:=λhn b hb=>⟨hn b hb,(R.exf b hb).1,R.exfs b hb,.inl hb,(R.exf b hb).2,λp hp=>ao (show p∈([]:cB) from hp) (by simp)⟩
 have st4:tn 0 B:=T.keep _ _ _ st2 λb _ o e=>old b o (older b o e);have loop:b9 (model X.prog X.w) X.A (.compLoop (.ListComp elt [⟨tg,iter,ifs,0⟩] scope pos) 0 (.ref ita) (.ref l.heap.objs.size) (compEnvC scope (yN X.b5.cells scope.names) hpL.objs.size X.b5))
   (compPost (model X.prog X.w) X.A X.xe use P (.ref l.heap.objs.size) hpL.objs.size) { l with heap:=B,toks:=l.toks+([]:List (Str×ab)).length }:=by
  refine Kh (λn s'=>∃i acc H',b? (vQ X E scope (yN X.b5.cells scope.names) hpL.objs.size fp { l with heap:=hpL } (en H2 l.heap.objs.size (.b3 []))) [] (xR k d4 σ) H' s'/\tn i s'.heap/\(∀b∈fp,H' b=J)/\W i n acc H')
   ?_ m0 ⟨0,[],_,IX,st4,λb hb=>?_,w0⟩
  .rintro n s3 ⟨i,acc,H3,I4,st3,fr3,w3⟩;rcases turn i n acc H3 w3 with ⟨stop,qn⟩|⟨go,step⟩
   .refine ff (T.done (vQ X E scope (yN X.b5.cells scope.names) hpL.objs.size fp { l with heap:=hpL } (en H2 l.heap.objs.size (.b3 []))) O O O hc i [] s3 _ H3 _ I4 (stat fr3) st3 stop) λr s4 zz=>?_;obtain⟨hr,Y⟩:=zz;subst hr;obtain⟨m,hn,_⟩:=id Y.O?;have U:=Y.b4;refine fin _ _ m _ _ _ hn (t.call' (s':=s4) (ch:=fp) Y.os ⟨λb o e n hb F=>U.keep b o e n hb F,λb o e n hb F=>U.slot b o e n hb F,U.free,λb o e F=>U.there b o e F,U.A',U.Dw,U.K'⟩ Y.e? Y.ka
     λb hb=>⟨(G b hb).2.2.2.1,(G b hb).2.1,(G b hb).2.2.2.2.1,(G b hb).2.2.2.2.2⟩) (t.Y' (aO _) Y.free) qn
   .refine ff (T.item (vQ X E scope (yN X.b5.cells scope.names) hpL.objs.size fp { l with heap:=hpL } (en H2 l.heap.objs.size (.b3 []))) O O O hc i [] s3 _ H3 _ I4 (stat fr3) st3 go) λr s4 zz=>?_;obtain⟨u,hr,h4⟩:=zz;subst hr;refine ff h4 λ_ s5 zz=>?_;obtain⟨x,H5,Y,r5,y5,st5,fr5⟩:=zz;have I5':=Y.Z' (stat fr5) (T.obj _ _ st5);have again:∀{H8:Hp} {s8:ae} {S:St} {acc8:bC} {m':Nat},b? (vQ X E scope (yN X.b5.cells scope.names) hpL.objs.size fp { l with heap:=hpL } (en H2 l.heap.objs.size (.b3 []))) ([]++GN fp s5.heap) S H8 s8->S.drop k=(xR k d4 σ).drop k->m'<n->W (i+1) m' acc8 H8->
      ∃m,m<n/\∃i acc H',b? (vQ X E scope (yN X.b5.cells scope.names) hpL.objs.size fp { l with heap:=hpL } (en H2 l.heap.objs.size (.b3 []))) [] (xR k d4 σ) H' s8/\tn i s8.heap/\(∀b∈fp,H' b=J)/\W i m acc H':=λ{H8 s8 S acc8 m'} I8 hd8 hm8 w8=>by
     refine⟨m',hm8,i+1,acc8,H8,I8.oo.c6 (IX.len.t I8.len.symm) (λj v e=>?_),T.keep _ _ _ st5 λb hb o e=>(I8.pin (b,o) (bE _ (bE _ (zq hb e)))).1,λb hb=>?_,w8⟩
     .have hj:=Jh e;have q:(S.drop k)[j - k]?=((xR k d4 σ).drop k)[j - k]?:=by rw[hd8]
      rw[fo,fo,show k+(j - k)=j by omega]at q;rw[q];exact e
     .obtain⟨o,e,d⟩:=T.obj _ _ st5 b hb;exact(I8.pin (b,o) (bE _ (bE _ (zq hb e)))).2.1
    refine b8 ((body _ _ _ _ _).1 _ s5 _ H5 x u _ I5' r5 (step x H5 y5)) (λ_ s6 h6=>?_) λ_ _ f=>f.elim;obtain⟨σ6,H6,I6,hd6,q6⟩:=h6;refine b8 ((body _ _ _ _ _).2.1 _ s6 σ6 H6 _ I6 q6) (λb s7 h7=>?_) λ_ _ f=>f.elim;obtain⟨H7,I7,q7⟩:=h7;cases b with
    |false=>rw[ai bx]at q7;rw[ai bx];obtain⟨m',hm',w7⟩:=q7;exact again I7 hd6 hm' w7
    |true=>rw[aj O]at q7;rw[aj O];refine b8 ((body _ _ _ _ _).2.2 _ s7 σ6 H7 _ I7 q7) (λyv s8 h8=>?_) λ_ _ f=>f.elim;obtain⟨y,H8,I8,r8,acc',hp8,hl8,m',hm',w8⟩:=h8;refine b8 (EM (X:=vQ X E scope (yN X.b5.cells scope.names) hpL.objs.size fp { l with heap:=hpL } (en H2 l.heap.objs.size (.b3 []))) _ s8 σ6 H8 (.ref l.heap.objs.size) [y] (.ref l.heap.objs.size) [yv] (λ_ Hx=>Hx=en H8 l.heap.objs.size (.b3 (acc'++[y]))) I8 O (.cons r8 .nil) ⟨_,acc',y,O,O,hp8,hl8,O⟩) (λ_ s9 h9=>?_) λ_ _ f=>f.elim;obtain⟨_,H9,I9,_,e9⟩:=h9;subst e9;exact again I9 hd6 hm' w8
  .have z:b≠l.heap.objs.size:=aT (hfpS b hb);rw[uj z];exact(G b hb).1
 exact codeAny_compStart_list loop (T.self _ 0 _ _ _ st4 loop)
def Uk{X:Cx}{d4:List Nat}
  (t:X.nr=γ) (w:PI X p iter M)
  (body:∀(d:List (Str×Addr)) (C:Addr) (f:List Addr) (s:ae) (H:Hp),PG (vQ X N' scope d C f s H) p g/\PIf (vQ X N' scope d C f s H) ifs G/\PE (vQ X N' scope d C f s H) elt F)
  (hkind:scope.kind=.function:=by rfl) (hcell:(scope.names.all λy=>y.2 != .cell)=γ:=by rfl)
  (hloc:(scope.names.all λy=>y.2 != .local||scope.names.lookup y.1==Z .local)=γ:=by rfl)
  (hfree:(scope.names.all λy=>y.2 != .free||(X.b5.kindOf y.1==Z .cell||X.b5.kindOf y.1==Z .free))=γ:=by rfl)
  (c:N'.length=k+d4.length:=by rfl) (hcap:(N'.drop k).map Z=d4.map λj=>X.N[j]?:=by rfl)
  (hcf:((N'.drop k).all λx=>scope.names.lookup x==Z .free)=γ:=by rfl)
  (A:∀x,iA iter X.b5 x=pure x:=by intro _;rfl):
  PE X (.ListComp elt [⟨p,iter,ifs,0⟩] scope pos) (Fl M g G F k d4):=by
 intro l s S H Q I h;exact Ji t w body hkind hcell hloc hfree c hcap hcf A I h λa C m u E q z E? fpC B=>⟨m,z,λP i=>⟨.ref a,q,E?.j? (t':=E.toks) (λb o r e=>(i.2 b r).t e) fpC.1 fpC.2.1 fpC.2.2.2.1 fpC.2.2.2.2.1 fpC.2.2.2.2.2,O,B⟩⟩
def Its(x:Str):It:=⟨λi _=>i<x.cps.size,λi H v a=>a=H/\∃c,x.cps[i]?=Z c/\v=.str ⟨#[c]⟩,λi _=>i=x.cps.size⟩
def Xg(hQ:Q () s):ag M A (gG a (.ref b) (.str c t)) Q E s:=by unfold gG;cases a<;>exact ar hQ
def Le{K:au}(it:Addr)(ty:String)(x:Str)(t:Tok)
  (hW:∀A:aM,A.handled=J->Walks P w A it [it] [it] x.cps.size (SignAt x) (λi h=>h.IsStrIter it ty x t i))
  (hS:∀(A:aM) (i:Nat) (s:ae) (Q:ab->ae->Prop) (E:ab->ae->Prop),s.heap.IsStrIter it ty x t i->Q (.ref it) s->ag (model P w) A (pyIter (.ref it)) Q E s):
  Z? P w K tg (Its x) [it] it (λi h=>h.IsStrIter it ty x t i) where
 mem:=by simp
 obj:=λi h st b hb=>by
  have e:b=it:=by simpa using hb
  subst e;obtain⟨o,e,c,d⟩:=st;exact⟨o,e,λv z=>by rw[d]at z;cases z⟩
 keep:=λi h h' st k=>by obtain⟨o,e,r⟩:=st;exact⟨o,k it (by simp) o e,r⟩
 item:=by intro X hP hw hK p i pins s σ H E I hf st hg;subst hP hw hK;obtain⟨a,f,F,j,l,m⟩:=hf it (by simp);refine(hW _ (I.ok.hd p)).item i s _ _ hg st λv h' tk G B y=>?_;obtain⟨c,M,q,rfl⟩:=G;have C:b? X pins σ H { s with heap:=h',toks:=tk }:=I.j? (λb o hb e=>y b o (by simpa using hb) e) a f j l m;exact⟨_,O,Xg ⟨.str ⟨#[c]⟩,H,C,⟨M,O⟩,⟨O,c,q,O⟩,B,λb hb=>(hf b hb).1⟩⟩
 done:=by intro X hP hw hK p i pins s σ H E I hf st hg;subst hP hw hK;obtain⟨a,f,F,j,l,m⟩:=hf it (by simp);have u:i=x.cps.size:=hg;subst u;exact(hW _ (I.ok.hd p)).done s _ _ st λh' tk y=>⟨O,I.j? (λb o hb e=>y b o (by simpa using hb) e) a f j l m⟩
 self:=hS
section
variable{X:Cx}{tg:Expr}
def iStr(b:TE):TI:=λc H R=>b c H λv a=>∃x,v=.str x/\R (Its x) a
def Xh(r:PE X l B):PI X tg l (iStr B):=by
 intro a s C H R I h;refine ff (r a s C H _ I h) λv c zz=>?_;obtain⟨x,f,d,w,u⟩:=zz;obtain⟨z,e,q⟩:=u;subst e;obtain⟨t,rfl⟩:=w;have j:∀b∈[c.heap.objs.size],IF X a f b:=λb p=>by
  have e:b=c.heap.objs.size:=by simpa using p
  subst e;exact d.Y' (aO _) (d.e?.fresh (aO _))
 cases m:z.cps.all (· < 128)
 .refine wpAny_pyIter_wide m ⟨c.heap.objs.size,[c.heap.objs.size],_,_,f,O,d.f5 (t':=c.toks) λb o e=>aJ _ e,Le _ "str_iterator" z t (λA hA=>Walks.strWide hA _ z t) (λA i s Q E st hQ=>wpAny_pyIter_striter_wide st hQ),⟨_,bg _ O,O,O⟩,j,q⟩
 .refine wpAny_pyIter_ascii m ⟨c.heap.objs.size,[c.heap.objs.size],_,_,f,O,d.f5 (t':=c.toks) λb o e=>aJ _ e,Le _ "str_ascii_iterator" z t (λA hA=>Walks.strAscii hA _ z t) (λA i s Q E st hQ=>wpAny_pyIter_striter_ascii st hQ),⟨_,bg _ O,O,O⟩,j,q⟩
end
section
variable{X:Cx}
def O6:i1 X (bA .LtE) (λx y H Q=>∃i j,x=.str i/\y=.str j/\Q (.O (!decide (j.cps.toList<i.cps.toList))) H):=by intro a s e H x y v u Q I b c h;obtain⟨i,j,rfl,rfl,q⟩:=h;obtain⟨t,rfl⟩:=b;obtain⟨d,rfl⟩:=c;exact PySem.P.le_str (uR I q O)
def QD(y:X.nr=γ):vZ X (.builtin "all") (λx H Q=>∃(p:Addr) (bs:List Bool),x=[.ref p]/\f3 X.K H p (bs.map V.O)/\Q (.O (bs.all id)) H):=by
 intro t s W H x U Q I r h;obtain⟨p,bs,rfl,E,q⟩:=h;obtain⟨u,rfl,l⟩:=m? r;cases l;obtain⟨a,w,pl,R⟩:=I.list E;have hlt:p<s.heap.objs.size:=by obtain⟨o,C,_⟩:=pl.isList;exact aL C
 have B:bs.length=a.length:=by have:=w.length;rw[aq]at this;exact this
 refine call_all_walk (fQ pl.isList ⟨s.heap.objs.size,_,_,_,_,_,λi=>(bs[i]?).getD γ,O,gW (show X.A.in1.handled=J from I.ok.hd y) _ p (aT hlt) a.toArray,⟨⟨_,bg _ O,O,O⟩,?_⟩,?_,λP G z=>?_⟩)
 .exact pl.isList.at λo e=>aJ _ e
 .intro i v S N M F hQ';have d:a[i]?=Z v:=by simpa using F
  have c:i<a.length:=(bX.1 d).1;have f:(bs.map V.O)[i]?=Z (.O (bs[i]'(by omega))):=by simp[show i<bs.length by omega]
  obtain⟨u,m,l⟩:=w.get f;rw[d]at m;cases m;cases l;refine dB ?_;have e:(bs[i]?).getD γ=bs[i]'(by omega):=by simp[show i<bs.length by omega]
  rw[<-e];exact hQ'
 .refine⟨.O (bs.all id),H,?_,?_,q⟩
  .exact I.f5 (t':=G) λb o e=>z b o (by simp;exact aT (aL e)) (aJ _ e)
  .show Value.bool _=Value.bool _;congr 1;rw[bw,<- B];rw[cX];simp only[ba,cw,id];constructor
   .intro j b f;obtain⟨i,c,rfl⟩:=kA.1 f;have:=j i c;simpa [c]using this
   .intro j i c;simp only[aY c,oV];exact j _ (fz c)
end
inductive Dq where
 |I|O (b:Bool)|int (i:Int)|str (x:Str)|c3 (ds:List Dq)|b3 (ds:List Dq)
mutual
def b6(K:au)(H:Hp):Dq->V->Prop
 |.I,v=>v=.I
 |.O b,v=>v=.O b
 |.int i,v=>v=.int i
 |.str x,v=>v=.str x
 |.c3 d,v=>∃a c,v=.ref a/\fu K H a c/\b1 K H d c
 |.b3 d,v=>∃a c,v=.ref a/\f3 K H a c/\b1 K H d c
def b1(K:au)(H:Hp):List Dq->bC->Prop
 |[],a=>a=[]
 |d::b,a=>∃v r,a=v::r/\b6 K H d v/\b1 K H b r
end
mutual
def k?:Dq->Dq->Bool
 |.I,.I=>γ
 |.O a,.O b=>a==b
 |.O a,.int b=>(if a then 1 else 0)==b
 |.int a,.O b=>a==(if b then 1 else 0)
 |.int a,.int b=>a==b
 |.str a,.str b=>a==b
 |.c3 a,.c3 b=>Aw a b
 |.b3 a,.b3 b=>Aw a b
 |_,_=>δ
def Aw:List Dq->List Dq->Bool
 |[],[]=>γ
 |a::r,b::q=>k? a b&&Aw r q
 |_,_=>δ
end
mutual
def kb:Dq->Nat
 |.c3 a=>vP a+1
 |.b3 a=>vP a+1
 |_=>0
def vP:List Dq->Nat
 |[]=>0
 |d::r=>max (kb d) (vP r)
end
mutual
theorem Lf:∀d:Dq,k? d d=γ
 |.I=>by unfold k?;rfl
 |.O b=>by unfold k?;simp
 |.int i=>by unfold k?;simp
 |.str x=>by unfold k?;simp
 |.c3 a=>by unfold k?;exact EN a
 |.b3 a=>by unfold k?;exact EN a
theorem EN:∀a:List Dq,Aw a a=γ
 |[]=>by unfold Aw;rfl
 |d::r=>by unfold Aw;rw[Lf d,EN r];rfl
end
theorem ug{K:au}:∀{b:List Dq} {a:bC},b1 K H b a->b.length=a.length
 |[],a,h=>by unfold b1 at h;subst h;rfl
 |d::b,a,h=>by unfold b1 at h;obtain⟨v,r,rfl,_,c⟩:=h;rw[aS,aS,ug c]
def eAt(d c:List Dq)(j:Nat):Bool:=match d[j]?,c[j]? with
 |some a,Z b=>k? a b
 |_,_=>γ
theorem GZ:∀(d c:List Dq),Aw d c=γ ↔ d.length=c.length/\∀j,j<d.length->eAt d c j=γ
 |[],[]=>by simp[Aw]
 |[],b::q=>by simp[Aw]
 |a::r,[]=>by simp[Aw]
 |a::r,b::q=>by
  have l:=GZ r q;unfold Aw;rw[aX,l,aS,aS];constructor
  .rintro⟨f,e,h⟩;refine⟨by omega,λj i=>?_⟩;cases j with
   |zero=>exact f
   |succ j=>exact h j (by omega)
  .rintro⟨f,e⟩;exact⟨e 0 (by omega),by omega,λj i=>e (j+1) (by omega)⟩
def AZ{b a:List Dq}(l:b.length=n)(i:a.length=m):((bz (min n m)).all (eAt b a)&&n==m)=Aw b a:=by
 rw[cX,GZ,aX,ba];subst l i;constructor
 .rintro⟨d,f⟩;have e:b.length=a.length:=by simpa using f
  exact⟨e,λj c=>d j (cw.2 (by omega))⟩
 .rintro⟨e,h⟩;exact⟨λj c=>h j (by have:=cw.1 c;omega),by simpa using e⟩
def BP{b a:List Dq}(d:b.length=n)(c:a.length=n):(bz n).all (eAt b a)=Aw b a:=by rw[<-AZ d c];simp
def G0{b a:List Dq}(h:b.length≠a.length):Aw b a=δ:=by
 cases e:Aw b a with
 |false=>rfl
 |true=>exact ao ((GZ b a).1 e).1 h
section
variable{X:Cx}{pins:cB}{σ:St}{H:Hp}{s:ae}
def V2(I:b? X pins σ H s)(h:f3 X.K H a f)(c:fu X.K H a i):False:=by obtain⟨d,_,p,_⟩:=I.list h;obtain⟨b,_,e,_⟩:=I.tuple c;exact SeqAt.ne_of_list_tuple p.isList (show s.heap.IsTuple a b.toArray from e) O
mutual
theorem G1(I:b? X pins σ H s):∀(d i:Dq) (v:V),b6 X.K H d v->b6 X.K H i v->k? d i=γ
 |.I,i,v,h,c=>by unfold b6 at h;subst h;cases i<;>unfold b6 at c<;>first|rfl|(exact nomatch c)|(obtain⟨_,_,e,_⟩:=c;exact nomatch e)
 |.O b,i,v,h,c=>by unfold b6 at h;subst h;cases i<;>unfold b6 at c<;>first|(obtain⟨_,_,e,_⟩:=c;cases e)|(cases c<;>simp[k?])
 |.int b,i,v,h,c=>by unfold b6 at h;subst h;cases i<;>unfold b6 at c<;>first|(obtain⟨_,_,e,_⟩:=c;cases e)|(cases c<;>simp[k?])
 |.str b,i,v,h,c=>by unfold b6 at h;subst h;cases i<;>unfold b6 at c<;>first|(obtain⟨_,_,e,_⟩:=c;cases e)|(cases c<;>simp[k?])
 |.c3 q,i,v,h,c=>by
  unfold b6 at h;obtain⟨a,u,rfl,o,t⟩:=h;cases i with
  |c3 j=>unfold b6 at c;obtain⟨p,m,e,f,l⟩:=c;cases e;have r:=I.G' o f;subst r;unfold k?;exact EO I q j u t l
  |b3 j=>unfold b6 at c;obtain⟨p,m,e,f,l⟩:=c;cases e;exact(V2 I f o).elim
  |_=>unfold b6 at c;exact nomatch c
 |.b3 q,i,v,h,c=>by
  unfold b6 at h;obtain⟨a,u,rfl,o,t⟩:=h;cases i with
  |b3 j=>unfold b6 at c;obtain⟨p,m,e,f,l⟩:=c;cases e;have r:=I.S2 o f;subst r;unfold k?;exact EO I q j u t l
  |c3 j=>unfold b6 at c;obtain⟨p,m,e,f,l⟩:=c;cases e;exact(V2 I o f).elim
  |_=>unfold b6 at c;exact nomatch c
theorem EO(I:b? X pins σ H s):∀(c a:List Dq) (f:bC),b1 X.K H c f->b1 X.K H a f->Aw c a=γ
 |[],a,f,h,b=>by
  unfold b1 at h;subst h;cases a with
  |nil=>rfl
  |cons d r=>unfold b1 at b;obtain⟨_,_,e,_⟩:=b;exact nomatch e
 |d::c,a,f,h,b=>by
  unfold b1 at h;obtain⟨v,r,rfl,m,o⟩:=h;cases a with
  |nil=>unfold b1 at b;exact nomatch b
  |cons l p=>unfold b1 at b;obtain⟨t,q,e,i,j⟩:=b;cases e;unfold Aw;rw[G1 I d l v m i,EO I c p r o j];rfl
end
mutual
theorem QE(I:b? X pins σ H s):∀(d E:Dq) (x y:V) (u v:ab) (A:aM),b6 X.K H d x->b6 X.K H E y->df x u->df y v->A.units+kb d+kb E<cLine->iQ A s u v (k? d E)
 |.c3 F,E,x,y,u,v,A,B,h,w,o,S=>by
  unfold b6 at B;obtain⟨a,T,rfl,R,N⟩:=B;cases w;obtain⟨M,Q,p,_⟩:=I.tuple R;have p:s.heap.IsTuple a M.toArray:=p;cases E with
  |I=>unfold b6 at h;subst h;cases o;exact sr p (by omega)
  |O b=>unfold b6 at h;subst h;cases o;exact su b p (by omega)
  |int b=>unfold b6 at h;subst h;obtain⟨t,rfl⟩:=o;exact sJ b t p (by omega)
  |str b=>unfold b6 at h;subst h;obtain⟨t,rfl⟩:=o;exact sL b t p (by omega)
  |b3 i=>unfold b6 at h;obtain⟨b,G,rfl,l,m⟩:=h;cases o;obtain⟨f,C,r,_⟩:=I.list l;exact sv p r.isList (by omega)
  |c3 i=>
   have P:=h;unfold b6 at h;obtain⟨b,G,rfl,l,m⟩:=h;cases o;obtain⟨f,C,r,_⟩:=I.tuple l;have r:s.heap.IsTuple b f.toArray:=r;by_cases hab:a=b
   .subst hab;have e:k? (.c3 F) (.c3 i)=γ:=G1 I _ _ (.ref a) (by unfold b6;exact⟨a,T,O,R,N⟩) P;rw[e];exact la _
   .have hd:kb (.c3 F)=vP F+1:=by rw[kb]
    have hd':kb (.c3 i)=vP i+1:=by rw[kb]
    have q:=tN (A:=A) (e:=eAt F i) p r (by omega) λj W Y=>by have z:=A0 I F i T G M f A.in1 N m Q C (by show A.units+1+vP F+vP i<cLine;omega) j (by simpa using W) (by simpa using Y);simpa using z
    rw[AZ (by rw[ug N,Q.length];simp) (by rw[ug m,C.length];simp)]at q;exact kI hab (by unfold k?;exact q)
 |.b3 F,E,x,y,u,v,A,B,h,w,o,S=>by
  unfold b6 at B;obtain⟨a,T,rfl,R,N⟩:=B;cases w;obtain⟨M,Q,p,_⟩:=I.list R;have p:=p.isList;cases E with
  |I=>unfold b6 at h;subst h;cases o;exact sM p (by omega)
  |O b=>unfold b6 at h;subst h;cases o;exact sN b p (by omega)
  |int b=>unfold b6 at h;subst h;obtain⟨t,rfl⟩:=o;exact sW b t p (by omega)
  |str b=>unfold b6 at h;subst h;obtain⟨t,rfl⟩:=o;exact sX b t p (by omega)
  |c3 i=>unfold b6 at h;obtain⟨b,G,rfl,l,m⟩:=h;cases o;obtain⟨f,C,r,_⟩:=I.tuple l;exact sy p (show s.heap.IsTuple b f.toArray from r) (by omega)
  |b3 i=>
   have P:=h;unfold b6 at h;obtain⟨b,G,rfl,l,m⟩:=h;cases o;obtain⟨f,C,r,_⟩:=I.list l;have r:=r.isList;by_cases hab:a=b
   .subst hab;have e:k? (.b3 F) (.b3 i)=γ:=G1 I _ _ (.ref a) (by unfold b6;exact⟨a,T,O,R,N⟩) P;rw[e];exact la _
   .have hd:kb (.b3 F)=vP F+1:=by rw[kb]
    have hd':kb (.b3 i)=vP i+1:=by rw[kb]
    by_cases U:M.length=f.length
    .have q:=tQ (A:=A) (e:=eAt F i) p r (by simpa using U) (by omega) λj W Y=>by have z:=A0 I F i T G M f A.in1 N m Q C (by show A.units+1+vP F+vP i<cLine;omega) j (by simpa using W) (by simpa using Y);simpa using z
     rw[BP (by rw[ug N,Q.length];simp) (by rw[ug m,C.length,<- U];simp)]at q;exact kI hab (by unfold k?;exact q)
    .have e:k? (.b3 F) (.b3 i)=δ:=by unfold k?;exact G0 (by rw[ug N,ug m,Q.length,C.length];exact U)
     rw[e];exact kI hab (sj p r (by simpa using U) (by omega))
 |.I,E,x,y,u,v,A,B,h,w,o,S=>by
  unfold b6 at B;subst B;cases E with
  |c3 i=>unfold b6 at h;obtain⟨b,G,rfl,l,m⟩:=h;cases o;cases w;obtain⟨f,C,r,_⟩:=I.tuple l;exact sA (show s.heap.IsTuple b f.toArray from r) (by omega)
  |b3 i=>unfold b6 at h;obtain⟨b,G,rfl,l,m⟩:=h;cases o;cases w;obtain⟨f,C,r,_⟩:=I.list l;exact sO r.isList (by omega)
  |_=>unfold b6 at h;subst h;exact GT w o O O
 |.O c,E,x,y,u,v,A,B,h,w,o,S=>by
  unfold b6 at B;subst B;cases E with
  |c3 i=>unfold b6 at h;obtain⟨b,G,rfl,l,m⟩:=h;cases o;cases w;obtain⟨f,C,r,_⟩:=I.tuple l;exact sC c (show s.heap.IsTuple b f.toArray from r) (by omega)
  |b3 i=>unfold b6 at h;obtain⟨b,G,rfl,l,m⟩:=h;cases o;cases w;obtain⟨f,C,r,_⟩:=I.list l;exact sP c r.isList (by omega)
  |_=>unfold b6 at h;subst h;exact GT w o O O
 |.int c,E,x,y,u,v,A,B,h,w,o,S=>by
  unfold b6 at B;subst B;cases E with
  |c3 i=>unfold b6 at h;obtain⟨b,G,rfl,l,m⟩:=h;cases o;obtain⟨t,rfl⟩:=w;obtain⟨f,C,r,_⟩:=I.tuple l;exact sQ c t (show s.heap.IsTuple b f.toArray from r) (by omega)
  |b3 i=>unfold b6 at h;obtain⟨b,G,rfl,l,m⟩:=h;cases o;obtain⟨t,rfl⟩:=w;obtain⟨f,C,r,_⟩:=I.list l;exact sY c t r.isList (by omega)
  |_=>unfold b6 at h;subst h;exact GT w o O O
 |.str c,E,x,y,u,v,A,B,h,w,o,S=>by
  unfold b6 at B;subst B;cases E with
  |c3 i=>unfold b6 at h;obtain⟨b,G,rfl,l,m⟩:=h;cases o;obtain⟨t,rfl⟩:=w;obtain⟨f,C,r,_⟩:=I.tuple l;exact sR c t (show s.heap.IsTuple b f.toArray from r) (by omega)
  |b3 i=>unfold b6 at h;obtain⟨b,G,rfl,l,m⟩:=h;cases o;obtain⟨t,rfl⟩:=w;obtain⟨f,C,r,_⟩:=I.list l;exact sZ c t r.isList (by omega)
  |_=>unfold b6 at h;subst h;exact GT w o O O
theorem A0(I:b? X pins σ H s):∀(b a:List Dq) (i l:bC) (c e:List ab) (A:aM),b1 X.K H b i->b1 X.K H a l->c9 i c->c9 l e->A.units+vP b+vP a<cLine->
  ∀(j:Nat) (m:j<c.length) (o:j<e.length),iQ A s c[j] e[j] (eAt b a j)
 |[],a,i,l,c,e,A,f,h,p,q,B,j,m,o=>by
  have:=ug f;have:=p.length;simp only[fZ]at *
  omega
 |d::b,[],i,l,c,e,A,f,h,p,q,B,j,m,o=>by
  have:=ug h;have:=q.length;simp only[fZ]at *
  omega
 |d::b,r::a,i,l,c,e,A,f,h,p,q,B,j,m,o=>by
  unfold b1 at f h;obtain⟨x,M,rfl,t,u⟩:=f;obtain⟨y,N,rfl,w,z⟩:=h;have P:vP (d::b)=max (kb d) (vP b):=by rw[vP]
  have Q:vP (r::a)=max (kb r) (vP a):=by rw[vP]
  cases p with
  |cons F G=>
   cases q with
   |cons C E=>
    cases j with
    |zero=>exact QE I d r x y _ _ A t w F C (by omega)
    |succ j=>exact A0 I b a M N _ _ A u z G E (by omega) j (by simpa using m) (by simpa using o)
end
def QF:Dq->Dq->Bool
 |.c3 _,.c3 _=>γ
 |.b3 _,.b3 _=>γ
 |_,_=>δ
def MB(K:au)(neg:Bool):R2:=λx y H Q=>∃d a,b6 K H d x/\b6 K H a y/\QF d a=γ/\kb d<=20/\kb a<=20/\Q (.O (if neg then !k? d a else k? d a)) H
def Xj(hu:X.A.units+64<cLine):i1 X (bA .Eq) (MB X.K δ):=by
 intro pins s σ H x y u v Q I W Y h;obtain⟨d,U,F,G,hd,B,C,q⟩:=h;cases d with
 |c3 l=>
  cases U with
  |c3 c=>
   have N:kb (.c3 l)=vP l+1:=by rw[kb]
   have P:kb (.c3 c)=vP c+1:=by rw[kb]
   unfold b6 at F G;obtain⟨a,S,rfl,R,r⟩:=F;obtain⟨b,T,rfl,o,i⟩:=G;cases W;cases Y;obtain⟨m,t,p,_⟩:=I.tuple R;obtain⟨f,w,M,_⟩:=I.tuple o;refine SeqAt.eq_tupleAt (e:=eAt l c) (show s.heap.IsTuple a m.toArray from p) (show s.heap.IsTuple b f.toArray from M) (by omega) (λj B C=>?_) ?_
   .have z:=A0 I l c S T m f X.A.in1 r i t w (by show X.A.units+1+vP l+vP c<cLine;omega) j (by simpa using B) (by simpa using C);simpa using z
   .rw[AZ (by rw[ug r,t.length];simp) (by rw[ug i,w.length];simp)];unfold k? at q;exact uR I q O
  |_=>exact nomatch hd
 |b3 l=>
  cases U with
  |b3 c=>
   have N:kb (.b3 l)=vP l+1:=by rw[kb]
   have P:kb (.b3 c)=vP c+1:=by rw[kb]
   unfold b6 at F G;obtain⟨a,S,rfl,R,r⟩:=F;obtain⟨b,T,rfl,o,i⟩:=G;cases W;cases Y;obtain⟨m,t,p,_⟩:=I.list R;obtain⟨f,w,M,_⟩:=I.list o;by_cases E:m.length=f.length
   .refine SeqAt.eq_listAt (e:=eAt l c) p.isList M.isList (by simpa using E) (by omega) (λj B C=>?_) ?_
    .have z:=A0 I l c S T m f X.A.in1 r i t w (by show X.A.units+1+vP l+vP c<cLine;omega) j (by simpa using B) (by simpa using C);simpa using z
    .rw[BP (by rw[ug r,t.length];simp) (by rw[ug i,w.length,<- E];simp)];unfold k? at q;exact uR I q O
   .refine SeqAt.eq_list_lengthsAt p.isList M.isList (by simpa using E) (by omega) ?_;have e:Aw l c=δ:=G0 (by rw[ug r,ug i,t.length,w.length];exact E);unfold k? at q;rw[e]at q;exact uR I q O
  |_=>exact nomatch hd
 |_=>exact nomatch hd
def Xk(hu:X.A.units+64<cLine):i1 X (bA .NotEq) (MB X.K γ):=by
 intro pins s σ H x y u v Q I Y rv h;obtain⟨d,W,G,M,hd,C,E,q⟩:=h;cases d with
 |c3 l=>
  cases W with
  |c3 c=>
   have P:kb (.c3 l)=vP l+1:=by rw[kb]
   have R:kb (.c3 c)=vP c+1:=by rw[kb]
   unfold b6 at G M;obtain⟨a,T,rfl,S,r⟩:=G;obtain⟨b,U,rfl,o,i⟩:=M;cases Y;cases rv;obtain⟨m,t,p,_⟩:=I.tuple S;obtain⟨f,B,N,_⟩:=I.tuple o;have w:=tf (A:=X.A) (e:=eAt l c) (show s.heap.IsTuple a m.toArray from p) (show s.heap.IsTuple b f.toArray from N) (by omega) (λj C E=>by
    have z:=A0 I l c T U m f X.A.in1 r i t B (by show X.A.units+1+vP l+vP c<cLine;omega) j (by simpa using C) (by simpa using E);simpa using z)
   rw[AZ (by rw[ug r,t.length];simp) (by rw[ug i,B.length];simp)]at w;unfold k? at q;exact w X.prog X.w X.xe _ (uR I q O)
  |_=>exact nomatch hd
 |b3 l=>
  cases W with
  |b3 c=>
   have P:kb (.b3 l)=vP l+1:=by rw[kb]
   have R:kb (.b3 c)=vP c+1:=by rw[kb]
   unfold b6 at G M;obtain⟨a,T,rfl,S,r⟩:=G;obtain⟨b,U,rfl,o,i⟩:=M;cases Y;cases rv;obtain⟨m,t,p,_⟩:=I.list S;obtain⟨f,B,N,_⟩:=I.list o;by_cases F:m.length=f.length
   .have w:=tE (A:=X.A) (e:=eAt l c) p.isList N.isList (by simpa using F) (by omega) (λj C E=>by
     have z:=A0 I l c T U m f X.A.in1 r i t B (by show X.A.units+1+vP l+vP c<cLine;omega) j (by simpa using C) (by simpa using E);simpa using z)
    rw[BP (by rw[ug r,t.length];simp) (by rw[ug i,B.length,<- F];simp)]at w;unfold k? at q;exact w X.prog X.w X.xe _ (uR I q O)
   .have e:Aw l c=δ:=G0 (by rw[ug r,ug i,t.length,B.length];exact F);unfold k? at q;rw[e]at q;exact rF p.isList N.isList (by simpa using F) (by omega) X.prog X.w X.xe _ (uR I q O)
  |_=>exact nomatch hd
 |_=>exact nomatch hd
end
inductive zQ:List Expr->bC->Prop
 |nil:zQ [] []
 |cons {x:Str} {j:Nat} {pos:Pos} {es:List Expr} {vs:bC} (h:zQ es vs):zQ (.Constant (.str x) j pos::es) (.str x::vs)
def xw(h:n<=1000):n<=aI:=gR (Cy h)
def ux.new(x:ux H a)(c:a p=J)(o:HO):ux H (en a p o):=λb u e=>by have z:=x b u e;rw[uj (wI z c)];exact z
structure O7(K:au)(x qual:Str)(st:Stmt)(f:Addr)(fd:bU)(T:Addr):Prop where
 ex:∃(oc:ab) (od:Option Addr) (kV doc pm:ab) (an:Option Addr) (cdv ct:ab) (osl:Array (Option ab)),
  fd=eW x qual (xQ st) (u0 st) (uG st) (.ref T) kV doc pm an cdv ct/\K.lookup f=Z ⟨oc,od,.func fd,osl⟩/\gY K cdv qual=γ
 kp:d8 K (.ref f)=γ
section
variable{P:aF}{w:ay}{K:au}{mg:Str->Option ab}{b4:Heap}
theorem O7.ok{st:Stmt}(F:O7 K x qual st f d T)(S:wU N ps (uG st))(len:∀a H Q E,b a H Q E->a.length=ps.length)
  (hbody:∀(cdv:ab) (A:aM) (c4:List Env) (s:ae) (H:Hp) (a:bC) (Q:VK) (E:XK),wb k (A.deeper (envOfC qual (uG st) s.heap.objs.size f cdv))->b a H Q E->
   ∃t,n9 (K4 K? P w K mg b4 N qual (uG st) f cdv A c4 s H E).nox (u0 st) t/\t { nx:=λ_ c=>Q .I c,rt:=Q } (L2.start N a) H):yb P w K mg b4 K? (k+1) f d ps b:=by
 obtain⟨m,o,kV,doc,p,j,cdv,l,osl,rfl,i,hcd⟩:=F.ex;refine VY i hcd S len λA c4 s H a Q E e hsp=>?_;obtain⟨t,h,q⟩:=hbody cdv A c4 s H a Q E e hsp;exact⟨t,h.nox,q⟩
end
theorem O7.rl{K:au}{st:Stmt}{i:aH}{d:List ab}(F:O7 K x qual st f j T)(q:K.lookup T=Z o)(r:o.data=.seq items n)
  (h:∀(kV doc e:ab) (b:Option Addr) (cdv c:ab) (a:List ab),a.length=i.length - d.length->∃k,bindArgs (eW x qual (xQ st) (u0 st) (uG st) (.ref T) kV doc e b cdv c) ⟨a,[]⟩=seqItems? (.ref T)>>=k/\k (Z items)=pure (i.zip (a++d))):ki K j i d:=by
 obtain⟨u,w,kV,doc,e,b,cdv,c,osl,rfl,t,hcd⟩:=F.ex;intro s a KX p;obtain⟨k,l,m⟩:=h kV doc e b cdv c a (by rw[aR]at p;omega);exact BindsTo.of_defaults (k:=k) O (KX _ _ q) r l m
section
variable{X:Cx}(K:au)
def Lg(a:PE X l b)(hK:X.K=K:=by rfl):PI X c l (Qd K b):=by subst hK;exact TR a
def Ul(a:PE X l b)(hK:X.K=K:=by rfl):PI X c l (WN K b):=by subst hK;exact WO a
def Um(b:X.nr=γ)(h:ZY X a t)(c:(dO a X.b5).length=n:=by rfl)(hst:(dO a X.b5).findIdx? (·.1)=J:=by rfl)(hK:X.K=K:=by rfl):PG X (.Tuple a k pos) (WK K n t):=by subst hK;exact WL b h c hst
variable{o e:Expr}{es:List Expr}{to:TE}{t:TA}{name:Str}{apos cpos:Pos}{T id:String}{r:V->bC->Hp->VK->Prop}
def QG(f:ma T)(slot:Slot T name id)(hty:typeOf (.builtin id)=pure (.type "method_descriptor"))(b:MtR X id r)(c:PE X o to)(a:PA X (e::es) t)
  (hbase:fC o name X.b5 (eval o X.b5)=eval o X.b5:=by rfl)
  (hfew:((bI cpos (aC (e::es) X.b5)).all (λx=>!x.1)&&(backToKw cpos (d7 [] X.b5)).all (λx=>x.1.isSome)
   && decide ((e::es).length+([]:List fG).length+(if ([]:List fG).isEmpty then 0 else 1)<30))=γ:=by rfl)
  (hline:(apos.endLine==cpos.line)=γ:=by rfl) (d:aC (e::es) X.b5=(δ,eval e X.b5)::aC es X.b5:=by rfl) (hplain:(bI cpos (aC es X.b5)).any (·.1)=δ:=by rfl) (hK:X.K=K:=by rfl):
  PE X (.Call (.Attribute o name apos) (e::es) [] cpos) (tBM K T r to t):=by subst hK;exact aaM f slot hty b c a hbase hfew hline d hplain
end
end L3
namespace L2
open PySem PySem.Spec PyProof.Rows
section
variable{X:Cx}{pins:cB}{σ:St}{H:Hp}{s:ae}
def Ax(e:H a=Z u)(q:H c=Z v)(d:u≠v)(n:HO):en H a n c=Z v:=by rw[uj (λz=>by subst z;rw[e]at q;exact d (cu q))];exact q
def b?.ts(I:b? X pins σ H s)(e:H a=Z (.dK kvs)):∃o,b? X pins σ (en H a (.mu o (.dK kvs))) s:=by
 obtain⟨z,y,Q,r,f,F,E,l,c⟩:=(show ee X.prog X.w H s.heap a (.dK kvs) from I.e? a _ e);refine⟨f,?_⟩;have j:=I.step (H':=en H a (.mu f (.dK kvs))) (h':=s.heap) (g':=s.gens) (d':=s.drawn) (t':=s.toks) (ch:=[]) (λ_ z=>nomatch z) (λb o _ _ _ q _=>q) (λb o _ _ _ q _=>⟨o.slots,q⟩)
  (λb o _ _ n=>by rw[uj (λz=>by subst z;rw[e]at n;cases n)];exact n) (λb o _ q=>⟨o,q⟩) (λb p q=>Ax e q (λz=>nomatch z) _) (λb o u q=>Ax e q (λz=>nomatch z) _)
  (λb N q=>⟨#[],by rw[Ax e q (λz=>nomatch z) _];simp⟩) (λm q=>q) ?_ I.ka
 .obtain⟨h,g,d,t,os⟩:=s;exact j
 .intro b u q;have st:∀{b:Addr} {u:HO},ee X.prog X.w H s.heap b u->ee X.prog X.w (en H a (.mu f (.dK kvs))) s.heap b u:=λ{b u} x=>x.T' (λ_ _ _ q=>q) (λc q=>Ax e q (λz=>nomatch z) _) λc p q=>Ax e q (λz=>nomatch z) _
  by_cases i:b=a
  .subst i;rw[uh]at q;cases q;exact⟨l,st (I.e? b _ e)⟩
  .rw[uj i]at q;exact st (I.e? b u q)
def PE.ghost(h:PE X e t):PE X e (λσ H Q=>t σ H λx b=>Q x b\/∃a kvs,b a=Z (.dK kvs)/\∀o,Q x (en b a (.mu o (.dK kvs)))):=λpins s σ H Q I i=>
 ff (h pins s σ H _ I i) λu l ⟨x,b,c,d,j⟩=>by
  rcases j with q|⟨a,kvs,e,q⟩
  .exact⟨x,b,c,d,q⟩
  .obtain⟨o,f⟩:=c.ts e;exact⟨x,_,f,d,q o⟩
end
end L2
namespace L4
open PySem PySem.Spec PyProof.Rows L2 L3
abbrev St:=L2.St
inductive D where
 |I|O (b:Bool)|int (i:Int)|str (x:Str)
 |c3 (ds:List D)|b3 (ds:List D)
 |R (ds:List D)
 |obj (c:Nat) (ns:aH) (ds:List D)
 |Q (ks:List dt) (ds:List D)
 |U (ks:List (List dt)) (ds:List D)
abbrev bh:=List D
structure Bg where
 K:au
 ca:Nat->Addr
 hs:List dt->Int
def tz(a:Addr)(o:Obj):Heap->Prop:=λh=>h.get? a=Z o
structure DtE(hs:List dt->Int)(o:Obj)(qs:List (List dt×Addr×ab)):Prop where
 ex:o.ExactDict
 da:∃es ep,o.data=.dict es ep/\es.toList=qs.map λq=>⟨hs q.1,.ref q.2.1,q.2.2⟩
 nd:(qs.map (·.1)).Nodup
 sz:qs.length<=1000
def DtO(G:Bg)(H:Hp)(a:Addr)(c:List (List dt))(d:bC):Prop:=∃(o:Obj) (b:List (List dt×Addr×ab)),H a=Z (.ext (tz a o))/\(a==cj)=δ/\DtE G.hs o b/\b.map (·.1)=c/\(∀q∈b,fu G.K H q.2.1 (q.1.map kV))/\c9 d (b.map (·.2.2))
mutual
def b6(G:Bg)(H:Hp):D->V->Prop
 |.I,v=>v=.I
 |.O b,v=>v=.O b
 |.int i,v=>v=.int i
 |.str x,v=>v=.str x
 |.c3 e,v=>∃a d,v=.ref a/\fu G.K H a d/\b1 G H e d
 |.b3 e,v=>∃a d,v=.ref a/\H a=Z (.b3 d)/\b1 G H e d
 |.R e,v=>∃a d,v=.ref a/\f3 G.K H a d/\b1 G H e d
 |.obj c h e,v=>∃a j d,v=.ref a/\H a=Z (.l? (G.ca c) j (h.zip d))/\h.length=d.length/\b1 G H e d
 |.Q f e,v=>∃a o d,v=.ref a/\H a=Z (.mu o (.dK (f.zip d)))/\f.length=d.length/\b1 G H e d
 |.U f e,v=>∃a d,v=.ref a/\DtO G H a f d/\b1 G H e d
def b1(G:Bg)(H:Hp):bh->bC->Prop
 |[],a=>a=[]
 |d::b,a=>∃v r,a=v::r/\b6 G H d v/\b1 G H b r
end
def fu.mono{K:au}{H b:Hp}{a:Addr}{xs:bC}(e:ux H b)(h:fu K H a xs):fu K b a xs:=by
 rcases h with (h|⟨o,h⟩)|h
 .exact .inl (.inl (e _ _ h))
 .exact .inl (.inr ⟨o,e _ _ h⟩)
 .exact .inr h
theorem DtO.mono{G:Bg}{H b:Hp}{a:Addr}{ks:List (List dt)}{xs:bC}(e:ux H b)(h:DtO G H a ks xs):DtO G b a ks xs:=by obtain⟨o,p,c,d,f,i,j,l⟩:=h;exact⟨o,p,e _ _ c,d,f,i,λq m=>fu.mono e (j q m),l⟩
mutual
theorem b6.mono{G:Bg}{H q:Hp}(e:ux H q):∀(d:D) (v:V),b6 G H d v->b6 G q d v
 |.I,v,h=>by unfold b6 at h ⊢;exact h
 |.O b,v,h=>by unfold b6 at h ⊢;exact h
 |.int i,v,h=>by unfold b6 at h ⊢;exact h
 |.str x,v,h=>by unfold b6 at h ⊢;exact h
 |.c3 j,v,h=>by unfold b6 at h ⊢;obtain⟨a,f,rfl,l,m⟩:=h;exact⟨a,f,O,fu.mono e l,b1.mono e j f m⟩
 |.b3 j,v,h=>by unfold b6 at h ⊢;obtain⟨a,f,rfl,l,m⟩:=h;exact⟨a,f,O,e _ _ l,b1.mono e j f m⟩
 |.R j,v,h=>by unfold b6 at h ⊢;obtain⟨a,f,rfl,l,m⟩:=h;exact⟨a,f,O,e.seq l,b1.mono e j f m⟩
 |.obj c u j,v,h=>by unfold b6 at h ⊢;obtain⟨a,r,f,rfl,l,m,p⟩:=h;exact⟨a,r,f,O,e _ _ l,m,b1.mono e j f p⟩
 |.Q t j,v,h=>by unfold b6 at h ⊢;obtain⟨a,o,f,rfl,l,m,p⟩:=h;exact⟨a,o,f,O,e _ _ l,m,b1.mono e j f p⟩
 |.U t j,v,h=>by unfold b6 at h ⊢;obtain⟨a,f,rfl,l,m⟩:=h;exact⟨a,f,O,l.mono e,b1.mono e j f m⟩
theorem b1.mono{G:Bg}{H b:Hp}(e:ux H b):∀(a:bh) (xs:bC),b1 G H a xs->b1 G b a xs
 |[],xs,h=>by unfold b1 at h ⊢;exact h
 |d::a,xs,h=>by unfold b1 at h ⊢;obtain⟨v,r,rfl,c,f⟩:=h;exact⟨v,r,O,b6.mono e d v c,b1.mono e a r f⟩
end
section
variable{G:Bg}{H:Hp}
def uP:b1 G H [] []:=by unfold b1;rfl
def uT{d:D}{v:V}{b:bh}{a:bC}(h:b6 G H d v)(r:b1 G H b a):b1 G H (d::b) (v::a):=by unfold b1;exact⟨v,a,O,h,r⟩
theorem ug:∀{b:bh} {a:bC},b1 G H b a->b.length=a.length
 |[],a,h=>by unfold b1 at h;subst h;rfl
 |d::b,a,h=>by unfold b1 at h;obtain⟨v,r,rfl,_,c⟩:=h;rw[aS,aS,ug c]
theorem v3:∀{e a:bh} {b c:bC},b1 G H e b->b1 G H a c->b1 G H (e++a) (b++c)
 |[],a,b,c,h,f=>by unfold b1 at h;subst h;exact f
 |d::e,a,b,c,h,f=>by unfold b1 at h;obtain⟨v,r,rfl,i,j⟩:=h;exact uT i (v3 j f)
theorem yx:∀{b:bh} {a:bC} {i:Nat} {d:D},b1 G H b a->b[i]?=Z d->∃v,a[i]?=Z v/\b6 G H d v
 |[],a,i,d,h,e=>by simp at e
 |j::b,a,i,d,h,e=>by
  unfold b1 at h;obtain⟨v,r,rfl,c,f⟩:=h;cases i with
  |zero=>simp at e;subst e;exact⟨v,O,c⟩
  |succ i=>simpa using yx (i:=i) (d:=d) f (by simpa using e)
theorem Jj:∀{ds:bh} {a:bC} (n:Nat),b1 G H ds a->b1 G H (ds.drop n) (a.drop n)
 |ds,a,0,h=>h
 |[],a,n+1,h=>by unfold b1 at h;subst h;exact uP
 |d::ds,a,n+1,h=>by unfold b1 at h;obtain⟨v,r,rfl,c,b⟩:=h;exact Jj n b
theorem Jk:∀{ds:bh} {a:bC} (n:Nat),b1 G H ds a->b1 G H (ds.take n) (a.take n)
 |ds,a,0,h=>uP
 |[],a,n+1,h=>by unfold b1 at h;subst h;exact uP
 |d::ds,a,n+1,h=>by unfold b1 at h;obtain⟨v,r,rfl,b,c⟩:=h;exact uT b (Jk n c)
def DY{a:Addr}{b:bC}{c:bh}(h:fu G.K H a b)(r:b1 G H c b):b6 G H (.c3 c) (.ref a):=by unfold b6;exact⟨a,b,O,h,r⟩
def CA{a:Addr}{b:bC}{c:bh}(h:H a=Z (.b3 b))(r:b1 G H c b):b6 G H (.b3 c) (.ref a):=by unfold b6;exact⟨a,b,O,h,r⟩
def wD(i:Int):b6 G H (.int i) (.int i):=by unfold b6;rfl
def wJ(i:Bool):b6 G H (.O i) (.O i):=by unfold b6;rfl
def A1(i:Str):b6 G H (.str i) (.str i):=by unfold b6;rfl
def zR:b6 G H .I .I:=by unfold b6;rfl
end
inductive Sl where
 |un
 |E (d:D)
 |ls (ds:bh)
 |pm (ds:bh)
 |dk (ks:List dt) (ds:bh)
 |ob (c:Nat) (ns:aH) (ds:bh)
abbrev aP:=List Sl
def Sl.gk:Sl->Bool
 |.ls _=>γ
 |.pm _=>γ
 |.dk _ _=>γ
 |.ob _ _ _=>γ
 |_=>δ
structure Fr where
 B0:Hp
 B:Hp
 A:List Addr
def IK(G:Bg)(F:Fr)(e H:Hp)(o:Option V):Sl->Prop
 |.un=>True
 |.E d=>∃v,o=Z v/\b6 G e d v
 |.ls f=>∃a b,o=Z (.ref a)/\H a=Z (.b3 b)/\e a=J/\F.B a=J/\b1 G e f b
 |.pm f=>∃a b,o=Z (.ref a)/\H a=Z (.b3 b)/\e a=J/\a∈F.A/\b1 G e f b
 |.dk h f=>∃a b,o=Z (.ref a)/\H a=Z (.dK (h.zip b))/\e a=J/\F.B a=J/\h.length=b.length/\b1 G e f b
 |.ob c i f=>∃a j b,o=Z (.ref a)/\H a=Z (.l? (G.ca c) j (i.zip b))/\e a=J/\a∈F.A/\i.length=b.length/\b1 G e f b
structure c5(G:Bg)(F:Fr)(σ:St)(ρ:aP)(H0 H:Hp):Prop where
 sub:ux H0 H
 g0:ux F.B0 H0
 keep:∀b o,F.B b=Z o->b∉F.A->H b=Z o
 fr:∀b o,H0 b=Z o->F.B0 b=Z o\/F.B b=J
 am:∀a∈F.A,∃o,H a=Z o
 len:σ.length=ρ.length
 sl:∀(i:Nat) (s:Sl),ρ[i]?=Z s->IK G F H0 H (σ[i]?).join s
 ap:∀(i j:Nat) (s t:Sl) (a:Addr),i≠j->ρ[i]?=Z s->ρ[j]?=Z t->s.gk=γ->t.gk=γ->(σ[i]?).join=Z (.ref a)->(σ[j]?).join=Z (.ref a)->False
theorem IK.at{G:Bg}{F:Fr}{p H:Hp}{o:Option V}{s:Sl}(h:IK G F p H o s)(e:s.gk=γ):∃a u,o=Z (.ref a)/\H a=Z u/\p a=J/\(F.B a=J\/a∈F.A):=by
 cases s with
 |un=>cases e
 |E d=>cases e
 |ls l=>obtain⟨a,m,b,f,i,j,_⟩:=h;exact⟨a,_,b,f,i,.inl j⟩
 |pm l=>obtain⟨a,m,b,f,i,j,_⟩:=h;exact⟨a,_,b,f,i,.inr j⟩
 |dk r l=>obtain⟨a,m,b,f,i,j,_⟩:=h;exact⟨a,_,b,f,i,.inl j⟩
 |ob c t l=>obtain⟨a,q,m,b,f,i,j,_⟩:=h;exact⟨a,_,b,f,i,.inr j⟩
def IK.gi{G:Bg}{F:Fr}{t H f y:Hp}{o:Option V}{s:Sl}(h:IK G F t H o s)(p:ux t f)(q:∀a u,o=Z (.ref a)->s.gk=γ->H a=Z u->y a=Z u)
  (r:∀a u,o=Z (.ref a)->s.gk=γ->H a=Z u->t a=J->f a=J):IK G F f y o s:=by
 cases s with
 |un=>trivial
 |E d=>obtain⟨v,b,e⟩:=h;exact⟨v,b,b6.mono p _ _ e⟩
 |ls w=>obtain⟨a,m,b,e,i,j,l⟩:=h;exact⟨a,m,b,q _ _ b O e,r _ _ b O e i,j,b1.mono p _ _ l⟩
 |pm w=>obtain⟨a,m,b,e,i,j,l⟩:=h;exact⟨a,m,b,q _ _ b O e,r _ _ b O e i,j,b1.mono p _ _ l⟩
 |dk A w=>obtain⟨a,m,b,e,i,j,l,x⟩:=h;exact⟨a,m,b,q _ _ b O e,r _ _ b O e i,j,l,b1.mono p _ _ x⟩
 |ob c B w=>obtain⟨a,z,m,b,e,i,j,l,x⟩:=h;exact⟨a,z,m,b,q _ _ b O e,r _ _ b O e i,j,l,b1.mono p _ _ x⟩
section
variable{G:Bg}{F:Fr}{σ:St}{ρ:aP}{H0 H H0' H':Hp}
theorem c5.g?(R:c5 G F σ ρ H0 H){b:Addr}(h:H b=J):F.B b=J:=by
 cases e:F.B b with
 |none=>rfl
 |some o=>
  by_cases a:b∈F.A
  .obtain⟨c,q⟩:=R.am b a;rw[q]at h;cases h
  .have q:=R.keep b o e a;rw[q]at h;cases h
theorem c5.gi(R:c5 G F σ ρ H0 H)(hs:ux H H')(h0:ux H0 H0')(sub':ux H0' H')(hf:∀b o,H0' b=Z o->H0 b=Z o\/H b=J):c5 G F σ ρ H0' H' where
 sub:=sub'
 g0:=R.g0.t h0
 keep:=λb o e n=>hs _ _ (R.keep b o e n)
 fr:=λb o e=>by
  rcases hf b o e with q|q
  .exact R.fr b o q
  .exact .inr (R.g? q)
 am:=λa ha=>let ⟨xs,q⟩:=R.am a ha;⟨xs,hs _ _ q⟩
 len:=R.len
 sl:=λi s e=>(R.sl i s e).gi h0 (λa u _ _ q=>hs _ _ q) λa u _ _ q c=>by
  cases z:H0' a with
  |none=>rfl
  |some o=>
   rcases hf a o z with y|y
   .rw[y]at c;cases c
   .rw[y]at q;cases q
 ap:=R.ap
def uy{H:Hp}{p:Addr}(a:H p=J)(o:HO):ux H (en H p o):=ux.new (ux.refl H) a o
def c5.fx(R:c5 G F σ ρ H0 H){p:Addr}(a:H p=J):H0 p=J:=by
 cases e:H0 p with
 |none=>rfl
 |some o=>have:=R.sub _ _ e;rw[this]at a;cases a
def QH{H0 H:Hp}(s:ux H0 H)(p:Addr)(o:HO):ux (en H0 p o) (en H p o):=λb u e=>by
 by_cases a:b=p
 .subst a;rw[uh]at e ⊢;exact e
 .rw[uj a]at e ⊢;exact s _ _ e
def c5.I'(R:c5 G F σ ρ H0 H){p:Addr}(a:H p=J)(o:HO):c5 G F σ ρ (en H0 p o) (en H p o):=
 R.gi (uy a o) (uy (R.fx a) o) (QH R.sub p o) λb u e=>by
  by_cases c:b=p
  .subst c;exact .inr a
  .rw[uj c]at e;exact .inl e
def c5.j0(R:c5 G F σ ρ H0 H){p:Addr}(a:H p=J)(o:HO):c5 G F σ ρ H0 (en H p o):=
 R.gi (uy a o) (ux.refl _) (λb u e=>by rw[uj (wI (R.sub _ _ e) a)];exact R.sub _ _ e) λb u e=>.inl e
def vj(σ:St)(ρ:aP)(p:Addr):Prop:=∀(i:Nat) (s:Sl),ρ[i]?=Z s->s.gk=γ->(σ[i]?).join≠Z (.ref p)
def c5.apart(R:c5 G F σ ρ H0 H){p:Addr}(d:H p=J):vj σ ρ p:=λi s e so z=>by obtain⟨a,u,b,c,_⟩:=(R.sl i s e).at so;rw[z]at b;cases b;rw[d]at c;cases c
theorem c5.ts(R:c5 G F σ ρ H0 H){p:Addr}{o:HO}(d:H p=Z o)(h0:H0 p=J)(hb:F.B p=J)(ap:vj σ ρ p):c5 G F σ ρ (en H0 p o) H where
 sub:=λb u e=>by
  by_cases hb:b=p
  .subst hb;rw[uh]at e;cases e;exact d
  .rw[uj hb]at e;exact R.sub _ _ e
 g0:=R.g0.t (uy h0 o)
 keep:=R.keep
 fr:=λb u e=>by
  by_cases c:b=p
  .subst c;exact .inr hb
  .rw[uj c]at e;exact R.fr _ _ e
 am:=R.am
 len:=R.len
 sl:=λi s e=>(R.sl i s e).gi (uy h0 o) (λa u _ _ q=>q) λa u z so q f=>by rw[uj (λy=>ap i s e so (by rw[z,y]))];exact f
 ap:=R.ap
def Lh{σ:St}{i j:Nat}{v:Option V}(a:i<σ.length):((σ.set i v)[j]?).join=if j=i then v else (σ[j]?).join:=by
 rw[cf];by_cases h:i=j
 .subst h;simp[a]
 .rw[ai h,ai (λz=>h z.symm)]
theorem c5.set(R:c5 G F σ ρ H0 H){i:Nat}{v:V}{s:Sl}(hs:IK G F H0 H (Z v) s)(ap:s.gk=γ->∀a,v=.ref a->∀(j:Nat) (t:Sl),j≠i->ρ[j]?=Z t->t.gk=γ->(σ[j]?).join≠Z (.ref a)):
  c5 G F (σ.set i (Z v)) (ρ.set i s) H0 H where
 sub:=R.sub
 g0:=R.g0
 keep:=R.keep
 fr:=R.fr
 am:=R.am
 len:=by rw[f6,f6,R.len]
 sl:=λj t e=>by
  rw[cf]at e;by_cases h:i=j
  .subst h;rw[aj O]at e;split at e
   .rename_i hi;cases e;rw[Lh (by rw[R.len];exact hi),aj O];exact hs
   .cases e
  .rw[ai h]at e;have A:=R.sl j t e;rw[cf,ai h];exact A
 ap:=λj k t u a hjk q f p tk b vk=>by
  have rf:∀{m:Nat} {x:Sl},(ρ.set i s)[m]?=Z x->m≠i->ρ[m]?=Z x/\((σ.set i (Z v))[m]?).join=(σ[m]?).join:=λ{m x} e hm=>by rw[cf,ai (λz=>hm z.symm)]at e;exact⟨e,by rw[cf,ai (λz=>hm z.symm)]⟩
  have self:∀{x:Sl},(ρ.set i s)[i]?=Z x->x=s/\((σ.set i (Z v))[i]?).join=Z v:=λ{x} e=>by
   rw[cf,aj O]at e;split at e
   .rename_i hi;cases e;exact⟨O,by rw[Lh (by rw[R.len];exact hi),aj O]⟩
   .cases e
  by_cases o:j=i
  .subst o;obtain⟨rfl,l⟩:=self q;rw[l]at b;cases b;obtain⟨c,d⟩:=rf f (λz=>hjk z.symm);rw[d]at vk;exact ap p a O k u (λz=>hjk z.symm) c tk vk
  .obtain⟨c,d⟩:=rf q o;by_cases r:k=i
   .subst r;obtain⟨rfl,l⟩:=self f;rw[l]at vk;cases vk;rw[d]at b;exact ap tk a O j t o c p b
   .obtain⟨w,y⟩:=rf f r;rw[d]at b;rw[y]at vk;exact R.ap j k t u a hjk c w p tk b vk
def c5.θ(R:c5 G F σ ρ H0 H)(i:Nat){v:V}{d:D}(h:b6 G H0 d v):c5 G F (σ.set i (Z v)) (ρ.set i (.E d)) H0 H:=R.set ⟨v,O,h⟩ λz=>by cases z
theorem c5.setLs(R:c5 G F σ ρ H0 H)(i:Nat){p:Addr}{b:bC}{c:bh}(o:H p=Z (.b3 b))(l:H0 p=J)(m:F.B p=J)(d:vj σ ρ p)(h:b1 G H0 c b):c5 G F (σ.set i (Z (.ref p))) (ρ.set i (.ls c)) H0 H:=
 R.set ⟨p,b,O,o,l,m,h⟩ λ_ a e j t _ f q=>by cases e;exact d j t f q
def c5.mut(R:c5 G F σ ρ H0 H){i:Nat}{a:Addr}{s c:Sl}{o:HO}(hi:ρ[i]?=Z s)(so:s.gk=γ)(ha:(σ[i]?).join=Z (.ref a))(ok:∀H',H' a=Z o->IK G F H0 H' (Z (.ref a)) c)
  (M:c.gk=γ):c5 G F σ (ρ.set i c) H0 (en H a o):=by
 obtain⟨Q,u,d,S,f,l⟩:=(R.sl i s hi).at so;rw[ha]at d;cases d;exact {
  sub:=λb w e=>by rw[uj (λz=>by rw[z,f]at e;cases e)];exact R.sub _ _ e
  g0:=R.g0
  keep:=λb w e n=>by
   have C:b≠a:=λz=>by
    subst z;rcases l with q|q
    .rw[q]at e;cases e
    .exact n q
   rw[uj C];exact R.keep b w e n
  fr:=R.fr
  am:=λb hb=>by
   by_cases z:b=a
   .subst z;exact⟨o,uh⟩
   .rw[uj z];exact R.am b hb
  len:=by rw[f6];exact R.len
  sl:=λj t e=>by
   rw[cf]at e;by_cases h:i=j
   .subst h;rw[aj O]at e;split at e
    .cases e;rw[ha];exact ok _ uh
    .cases e
   .rw[ai h]at e;refine(R.sl j t e).gi (ux.refl _) (λb w z to q=>?_) λb w _ _ _ q=>q;rw[uj (λy=>by subst y;exact R.ap j i t s b (λy=>h y.symm) e hi to so z ha)];exact q
  ap:=λj k t u b hjk p r N tk P vk=>by
   have rf:∀{m:Nat} {x:Sl},(ρ.set i c)[m]?=Z x->∃y,ρ[m]?=Z y/\(x.gk=γ->y.gk=γ):=λ{m x} e=>by
    rw[cf]at e;by_cases h:i=m
    .subst h;exact⟨s,hi,λ_=>so⟩
    .rw[ai h]at e;exact⟨x,e,λq=>q⟩
   obtain⟨y,A,E⟩:=rf p;obtain⟨z,B,I⟩:=rf r;exact R.ap j k y z b hjk A B (E N) (I tk) P vk }
end
abbrev FE:=aP->Option (D×aP)
abbrev FT:=aP->Option (Bool×aP)
abbrev FA:=aP->Option (bh×aP)
def tF(G:Bg)(f:FE):TE:=λi H Q=>∃F h e d b,c5 G F i h e H/\f h=Z (d,b)/\∀v a c,ux e a->c5 G F i b a c->b6 G a d v->Q v c
def n7(G:Bg)(f:FT):TT:=λi H Q=>∃F h e d b,c5 G F i h e H/\f h=Z (d,b)/\∀a c,ux e a->c5 G F i b a c->Q d c
def v?(G:Bg)(f:FA):TA:=λj H Q=>∃F i d e b,c5 G F j i d H/\f i=Z (e,b)/\∀h a c,ux d a->c5 G F j b a c->b1 G a e h->Q h c
def F?(G:Bg)(f:FA):TE:=λd H Q=>∃F j e h b,c5 G F d j e H/\f j=Z (h,b)/\∀p i a c,ux e a->c5 G F d b a c->c p=Z (.b3 i)->a p=J->F.B p=J->vj d b p->b1 G a h i->Q (.ref p) c
def PE.c6(h:PE X e t)(w:∀b H Q,t' b H Q->t b H Q):PE X e t':=λa s b H Q I c=>h a s b H Q I (w _ _ _ c)
def PT.c6(h:PT X e t)(w:∀b H Q,t' b H Q->t b H Q):PT X e t':=λa s b H Q I c=>h a s b H Q I (w _ _ _ c)
def PW.c6(h:PW X e t)(w:∀b H Q,t' b H Q->t b H Q):PW X e t':=λd a s b H Q I c=>h d a s b H Q I (w _ _ _ c)
def PA.c6(h:PA X e t)(w:∀b H Q,t' b H Q->t b H Q):PA X e t':=λpos a s b H Q I c=>h pos a s b H Q I (w _ _ _ c)
noncomputable def cC(d:D):FE:=λa=>Z (d,a)
noncomputable def cV(i:Nat):FE:=λa=>match a[i]? with
 |some (.E d)=>Z (d,a)
 |_=>J
noncomputable def c1(g:D->Option D) (f:FE):FE:=λb=>match f b with
 |some (d,a)=>match g d with
  |some x=>Z (x,a)
  |none=>J
 |none=>J
noncomputable def c2(g:D->D->Option D) (f c:FE):FE:=λd=>match f d with
 |some (x,a)=>match c a with
  |some (y,b)=>match g x y with
   |some z=>Z (z,b)
   |none=>J
  |none=>J
 |none=>J
def DZ(h:c1 g f c=Z (z,b)):∃d,f c=Z (d,b)/\g d=Z z:=by
 unfold c1 at h;cases e:f c with
 |none=>rw[e]at h;cases h
 |some p=>
  obtain⟨d,i⟩:=p;rw[e]at h;cases a:g d with
  |none=>simp only[a]at h;cases h
  |some x=>simp only[a]at h;cases h;exact⟨d,O,a⟩
def Gs(h:c2 g f i j=Z (z,d)):∃x y a,f j=Z (x,a)/\i a=Z (y,d)/\g x y=Z z:=by
 unfold c2 at h;cases e:f j with
 |none=>rw[e]at h;cases h
 |some p=>
  obtain⟨x,a⟩:=p;simp only[e]at h;cases b:i a with
  |none=>simp only[b]at h;cases h
  |some q=>
   obtain⟨y,l⟩:=q;simp only[b]at h;cases c:g x y with
   |none=>simp only[c]at h;cases h
   |some w=>simp only[c]at h;cases h;exact⟨x,y,a,O,b,c⟩
section
variable{X:Cx}{G:Bg}
def Xl{i j pos}:PE X (.Constant (.int i) j pos) (tF G (cC (.int i))):=PE.c6 P7 λf H Q h=>by obtain⟨F,c,b,d,a,R,e,k⟩:=h;cases e;exact k _ _ _ (ux.refl _) R (wD i)
def aaQ{i j pos}:PE X (.Constant (.bool i) j pos) (tF G (cC (.O i))):=PE.c6 aal λf H Q h=>by obtain⟨F,c,b,d,a,R,e,k⟩:=h;cases e;exact k _ _ _ (ux.refl _) R (wJ i)
def Xm{i j pos}:PE X (.Constant (.str i) j pos) (tF G (cC (.str i))):=PE.c6 WA λf H Q h=>by obtain⟨F,c,b,d,a,R,e,k⟩:=h;cases e;exact k _ _ _ (ux.refl _) R (A1 i)
def Xo{j pos}:PE X (.Constant .none j pos) (tF G (cC .I)):=PE.c6 Wx λf H Q h=>by obtain⟨F,c,b,d,a,R,e,k⟩:=h;cases e;exact k _ _ _ (ux.refl _) R zR
def Uo(h:cV i b=Z (d,a)):b[i]?=Z (.E d)/\a=b:=by
 unfold cV at h;split at h
 .rename_i e;cases h;exact⟨e,O⟩
 .cases h
def yy{a:Type}{o:Option (Option a)}{v:a}(h:o.join=Z v):o=Z (Z v):=by
 cases o with
 |none=>cases h
 |some u=>cases u with
  |none=>cases h
  |some w=>cases h;rfl
def MC(h:PE X e (CP i)):PE X e (tF G (cV i)):=PE.c6 h λo H Q f=>by obtain⟨F,m,l,d,j,R,e,k⟩:=f;obtain⟨a,rfl⟩:=Uo e;obtain⟨v,b,c⟩:=R.sl i _ a;exact⟨v,yy b,k _ _ _ (ux.refl _) R c⟩
def Up(h:PE X e (tC v))(r:∀H,b6 G H d v):PE X e (tF G (cC d)):=PE.c6 h λj H Q a=>by obtain⟨F,i,c,f,b,R,e,k⟩:=a;cases e;exact k _ _ _ (ux.refl _) R (r _)
def ke(G:Bg)(r:R2)(g:D->D->Option D):Prop:=∀x y z b H v u (Q:VK),g x y=Z z->ux b H->b6 G b x v->b6 G b y u->(∀w,(∀a,ux b a->b6 G a z w)->Q w H)->r v u H Q
def Li(C:ke G r g):∀h H Q,tF G (c2 g f A) h H Q->tOp r (tF G f) (tF G A) h H Q:=λh H Q B=>by obtain⟨F,P,l,d,c,R,e,k⟩:=B;obtain⟨x,y,b,q,t,z⟩:=Gs e;refine⟨F,P,l,x,b,R,q,λv m o N p I=>⟨F,b,m,y,c,p,t,λu i a j R2 M=>?_⟩⟩;exact C x y d i a v u Q z R2.sub (b6.mono j _ _ I) M λw E=>k w i a (N.t j) R2 (E _ (ux.refl _))
def aaR(i:i1 X (cO j) r)(h:ke G r g)(d:PE X a (tF G f))(e:PE X b (tF G c)):PE X (.BinOp a j b pos) (tF G (c2 g f c)):=PE.c6 (Qg i d e) (Li h)
def Xp(l:i1 X (bA c) r)(j:ke G r g)(e:PE X a (tF G f))(h:PE X b (tF G d))(i:f9 c b=δ):PE X (.Compare a [c] [b] pos) (tF G (c2 g f d)):=PE.c6 (TZ l e h i) (Li j)
def aaS(i:IxR X r)(h:ke G r g)(d:PE X a (tF G f))(e:PE X b (tF G c))(j:NC b):PE X (.Subscript a b pos) (tF G (c2 g f c)):=PE.c6 (aaI i d e j) (Li h)
def cT(f:FE):FT:=λc=>match f c with
 |some (.O b,a)=>Z (b,a)
 |_=>J
def NG(h:cT f c=Z (b,a)):f c=Z (.O b,a):=by
 unfold cT at h;split at h
 .rename_i e;cases h;exact e
 .cases h
def NH:∀b H Q,n7 G (cT f) b H Q->Qj (tF G f) b H Q:=λb H Q j=>by obtain⟨F,l,c,d,a,R,e,k⟩:=j;refine⟨F,l,c,_,a,R,NG e,λv h m s i r=>?_⟩;unfold b6 at r;exact⟨d,r,k _ _ s i⟩
def Uq(u:i1 X (bA h) r)(t:ke G r g)(m:PE X a (tF G f))(o:PE X b (tF G l))(q:f9 h b=δ):
  PT X (.Compare a [h] [b] pos) (n7 G (cT (c2 g f l))):=PT.c6 (T2 u m o q) λi H Q p=>by
 obtain⟨F,w,j,d,c,R,e,k⟩:=NH i H Q p;exact Li t i H _ ⟨F,w,j,d,c,R,e,k⟩
def Ur(h:PE X e (tF G f))(j:∀whole,isTrue e X.b5 whole=(do let v<-whole;standAt e.pos;holding [v] (truthy v)):=by intro _;rfl):PT X e (n7 G (cT f)):=PT.c6 (WB h j) λp H Q l=>by obtain⟨F,m,b,d,a,R,e,k⟩:=l;refine⟨F,m,b,_,a,R,NG e,λv c o s i r=>?_⟩;unfold b6 at r;exact⟨d,r,k _ _ s i⟩
def vF(f:FT):FT:=λc=>match f c with
 |some (b,a)=>Z (!b,a)
 |none=>J
def wF(f g:FT):FT:=λb=>match f b with
 |some (γ,a)=>g a
 |r=>r
def xg(f g:FT):FT:=λb=>match f b with
 |some (δ,a)=>g a
 |r=>r
def Us(h:PT X a (n7 G f)):PT X (.UnaryOp .Not a pos) (n7 G (vF f)):=PT.c6 (WG h) λu H Q o=>by
 obtain⟨F,i,j,d,q,R,e,k⟩:=o;unfold vF at e;cases c:f i with
 |none=>simp only[c]at e;cases e
 |some p=>obtain⟨b,r⟩:=p;simp only[c]at e;cases e;exact⟨F,i,j,b,_,R,c,λl t s m=>k _ _ s m⟩
def Xq:∀m H Q,n7 G (wF f g) m H Q->tAnd (n7 G f) (n7 G g) m H Q:=λm H Q t=>by
 obtain⟨F,j,o,d,l,R,e,k⟩:=t;unfold wF at e;cases c:f j with
 |none=>simp only[c]at e;cases e
 |some p=>
  obtain⟨b,h⟩:=p;cases b with
  |true=>simp only[c]at e;exact⟨F,j,o,γ,h,R,c,λa q s i=>Kg ⟨F,h,a,d,l,i,e,λw r u R2=>k _ _ (s.t u) R2⟩⟩
  |false=>simp only[c]at e;cases e;exact⟨F,j,o,δ,_,R,c,λa q s i=>Ke (k _ _ s i)⟩
def aaT:∀m H Q,n7 G (xg f g) m H Q->tOr (n7 G f) (n7 G g) m H Q:=λm H Q t=>by
 obtain⟨F,j,o,d,l,R,e,k⟩:=t;unfold xg at e;cases c:f j with
 |none=>simp only[c]at e;cases e
 |some p=>
  obtain⟨b,h⟩:=p;cases b with
  |false=>simp only[c]at e;exact⟨F,j,o,δ,h,R,c,λa q s i=>Ke ⟨F,h,a,d,l,i,e,λw r u R2=>k _ _ (s.t u) R2⟩⟩
  |true=>simp only[c]at e;cases e;exact⟨F,j,o,γ,_,R,c,λa q s i=>Kg (k _ _ s i)⟩
def QI(h:PT X a (n7 G f)):PW X (.BoolOp .And [a] pos) (n7 G f):=TM h
def Ut(h:PT X a (n7 G f)):PW X (.BoolOp .Or [a] pos) (n7 G f):=WC h
def Uu{fm:List Expr}(c:PT X a (n7 G f))(d:PW X (.BoolOp .And (b::fm) pos) (n7 G g)):PW X (.BoolOp .And (a::b::fm) pos) (n7 G (wF f g)):=PW.c6 (WE c d) Xq
def QJ{fm:List Expr}(c:PT X a (n7 G f))(d:PW X (.BoolOp .Or (b::fm) pos) (n7 G g)):PW X (.BoolOp .Or (a::b::fm) pos) (n7 G (xg f g)):=PW.c6 (aan c d) aaT
def u9(f g:FE):FE:=λb=>match f b with
 |some (.O γ,a)=>g a
 |some (.O δ,a)=>Z (.O δ,a)
 |_=>J
def U'(f g:FE):FE:=λb=>match f b with
 |some (.O δ,a)=>g a
 |some (.O γ,a)=>Z (.O γ,a)
 |_=>J
def Gg(f:FE):FE:=λc=>match f c with
 |some (.O b,a)=>Z (.O !b,a)
 |_=>J
def xr(c:FT)(f g:FE):FE:=λb=>match c b with
 |some (γ,a)=>f a
 |some (δ,a)=>g a
 |none=>J
def Xr{b}(h:PE X a (tF G f)):PE X (.BoolOp b [a] pos) (tF G f):=WH h
def Lj{f:FE}{ρ:aP}:(∃a,f ρ=Z (.O γ,a))\/(∃a,f ρ=Z (.O δ,a))\/(∀b a,f ρ≠Z (.O b,a)):=by
 by_cases c:∃a,f ρ=Z (.O γ,a)
 .exact .inl c
 by_cases d:∃a,f ρ=Z (.O δ,a)
 .exact .inr (.inl d)
 refine .inr (.inr λb a z=>?_);cases b with
 |true=>exact c ⟨a,z⟩
 |false=>exact d ⟨a,z⟩
def O8(h:∀b a,f ρ≠Z (.O b,a)):u9 f g ρ=J:=by
 unfold u9;split
 .rename_i e;exact ao e (h _ _)
 .rename_i e;exact ao e (h _ _)
 .rfl
def QK(h:∀b a,f ρ≠Z (.O b,a)):U' f g ρ=J:=by
 unfold U';split
 .rename_i e;exact ao e (h _ _)
 .rename_i e;exact ao e (h _ _)
 .rfl
def Xs{fm:List Expr}(w:PE X a (tF G f))(x:PE X (.BoolOp .And (b::fm) pos) (tF G g)):PE X (.BoolOp .And (a::b::fm) pos) (tF G (u9 f g)):=PE.c6 (WI w x) λC H Q y=>by
 obtain⟨F,j,p,d,i,R,e,k⟩:=y;rcases Lj (f:=f) (ρ:=j)with ⟨c,h⟩|⟨c,h⟩|h
 .have o:g c=Z (d,i):=by unfold u9 at e;simp only[h]at e;exact e
  refine⟨F,j,p,_,c,R,h,λv q l s m r=>?_⟩;unfold b6 at r;refine⟨γ,r,?_⟩;exact Kg ⟨F,c,q,d,i,m,o,λv B u A R2 z=>k _ _ _ (s.t A) R2 z⟩
 .have o:Z (D.O δ,c)=Z (d,i):=by unfold u9 at e;simp only[h]at e;exact e
  cases o;refine⟨F,j,p,_,_,R,h,λv q l s m r=>?_⟩;have t:=r;unfold b6 at t;refine⟨δ,t,?_⟩;exact Ke (k _ _ _ s m (wJ δ))
 .rw[O8 h]at e;cases e
def aaU{fm:List Expr}(u:PE X a (tF G f))(w:PE X (.BoolOp .Or (b::fm) pos) (tF G g)):PE X (.BoolOp .Or (a::b::fm) pos) (tF G (U' f g)):=PE.c6 (aaq u w) λB H Q x=>by
 obtain⟨F,j,p,d,i,R,e,k⟩:=x;rcases Lj (f:=f) (ρ:=j)with ⟨c,h⟩|⟨c,h⟩|h
 .have o:Z (D.O γ,c)=Z (d,i):=by unfold U' at e;simp only[h]at e;exact e
  cases o;refine⟨F,j,p,_,_,R,h,λv q l s m r=>?_⟩;unfold b6 at r;refine⟨γ,r,?_⟩;exact Kg (k _ _ _ s m (wJ γ))
 .have o:g c=Z (d,i):=by unfold U' at e;simp only[h]at e;exact e
  refine⟨F,j,p,_,c,R,h,λv q l s m r=>?_⟩;unfold b6 at r;refine⟨δ,r,?_⟩;exact Ke ⟨F,c,q,d,i,m,o,λv A t z R2 y=>k _ _ _ (s.t z) R2 y⟩
 .rw[QK h]at e;cases e
def Xt(l:PE X a (tF G f)):PE X (.UnaryOp .Not a pos) (tF G (Gg f)):=PE.c6 (WJ l) λu H Q m=>by
 obtain⟨F,o,c,d,p,R,e,k⟩:=m;unfold Gg at e;split at e
 .rename_i b q j;cases e;refine⟨F,o,c,_,_,R,j,λv t h s i r=>?_⟩;unfold b6 at r;exact⟨b,r,k _ _ _ s i (wJ _)⟩
 .cases e
def aaV(B:PT X c (n7 G h))(z:PE X a (tF G f))(A:PE X b (tF G g)):PE X (.IfExp c a b pos) (tF G (xr h f g)):=PE.c6 (P8 B z A) λE H Q C=>by
 obtain⟨F,u,w,d,j,R,e,k⟩:=C;unfold xr at e;cases l:h u with
 |none=>simp only[l]at e;cases e
 |some p=>
  obtain⟨b,i⟩:=p;refine⟨F,u,w,b,i,R,l,λr x s t=>?_⟩;cases b with
  |true=>simp only[l]at e;exact Kg ⟨F,i,r,d,j,t,e,λv y m q R2 o=>k _ _ _ (s.t q) R2 o⟩
  |false=>simp only[l]at e;exact Ke ⟨F,i,r,d,j,t,e,λv y m q R2 o=>k _ _ _ (s.t q) R2 o⟩
noncomputable def uI:FA:=λa=>Z ([],a)
noncomputable def ax(f:FE) (g:FA):FA:=λe=>match f e with
 |some (d,a)=>match g a with
  |some (c,b)=>Z (d::c,b)
  |none=>J
 |none=>J
def ME(h:ax f g i=Z (j,c)):∃d r a,f i=Z (d,a)/\g a=Z (r,c)/\j=d::r:=by
 unfold ax at h;cases e:f i with
 |none=>rw[e]at h;cases h
 |some p=>
  obtain⟨x,a⟩:=p;simp only[e]at h;cases b:g a with
  |none=>simp only[b]at h;cases h
  |some q=>obtain⟨y,l⟩:=q;simp only[b]at h;cases h;exact⟨x,y,a,O,b,O⟩
def yq:PA X [] (v? G uI):=PA.c6 yM λh H Q a=>by obtain⟨F,f,c,d,b,R,e,k⟩:=a;cases e;exact k _ _ _ (ux.refl _) R uP
def xh(t:PE X e (tF G f))(w:PA X b (v? G g))(y:aC (e::b) X.b5=(δ,eval e X.b5)::aC b X.b5:=by rfl):PA X (e::b) (v? G (ax f g)):=PA.c6 (wc t w y) λE H Q u=>by obtain⟨F,A,i,d,c,R,e,k⟩:=u;obtain⟨x,r,a,p,q,rfl⟩:=ME e;exact⟨F,A,i,x,a,R,p,λv j l s o z=>⟨F,a,j,r,c,o,q,λC B m h R2 rs=>k _ _ _ (s.t h) R2 (uT (b6.mono h _ _ z) rs)⟩⟩
def uO(g:FA):FE:=λc=>match g c with
 |some (b,a)=>if b.length<=1000 then Z (.c3 b,a)else J
 |none=>J
def uM(g:FA):FA:=λc=>match g c with
 |some (b,a)=>if b.length<=1000 then Z (b,a)else J
 |none=>J
def Xu{q}(h:PA X l (v? G g)):PE X (.Tuple l q pos) (tF G (uO g)):=PE.c6 (Qo h) λy H Q m=>by
 obtain⟨F,f,i,d,r,R,e,k⟩:=m;unfold uO at e;cases b:g f with
 |none=>simp only[b]at e;cases e
 |some p=>
  obtain⟨w,t⟩:=p;simp only[b]at e;split at e
  .rename_i o;cases e;refine⟨F,f,i,_,_,R,b,λx u j s a rs=>⟨by rw[<-ug rs];exact xw o,λp c=>?_⟩⟩;exact k _ _ _ (s.t (uy (a.fx c) _)) (a.I' c _) (DY (fu.of uh) (b1.mono (uy (a.fx c) _) _ _ rs))
  .cases e
def Uv(h:PA X l (v? G g)):PE X (.List l pos) (F? G (uM g)):=PE.c6 (Qp h) λx H Q m=>by
 obtain⟨F,f,i,d,q,R,e,k⟩:=m;unfold uM at e;cases c:g f with
 |none=>simp only[c]at e;cases e
 |some p=>
  obtain⟨u,r⟩:=p;simp only[c]at e;split at e
  .rename_i o;cases e;refine⟨F,f,i,_,_,R,c,λw t j s a rs=>⟨by rw[<-ug rs];exact xw o,λp b=>?_⟩⟩;exact k _ _ _ _ s (a.j0 b _) uh (a.fx b) (a.g? b) (a.apart b) rs
  .cases e
def cL(g:FA):FE:=λc=>match g c with
 |some (b,a)=>Z (.b3 b,a)
 |none=>J
def Uw(h:cL g c=Z (d,b)):∃a,g c=Z (a,b)/\d=.b3 a:=by
 unfold cL at h;cases e:g c with
 |none=>simp only[e]at h;cases h
 |some p=>obtain⟨a,f⟩:=p;simp only[e]at h;cases h;exact⟨a,O,O⟩
def tN_F:∀c H Q,tF G (cL g) c H Q->F? G g c H Q:=λc H Q q=>by obtain⟨F,t,f,d,b,R,e,k⟩:=q;obtain⟨l,m,rfl⟩:=Uw e;refine⟨F,t,f,l,b,R,m,λp w u h s i r a o j rs=>?_⟩;exact k _ _ _ (s.t (uy a _)) (i.ts r a o j) (CA uh (b1.mono (uy a _) _ _ rs))
def Xv(h:PE X e (F? G g)):PE X e (tF G (cL g)):=PE.c6 h tN_F
end
inductive rh where
 |nx (ρ:aP)|bk (ρ:aP)|ct (ρ:aP)
 |rt (d:D) (ρ:aP)
 |rn (ds:bh) (ρ:aP)
abbrev FS:=aP->Option rh
def NI(G:Bg)(F:Fr)(f:Hp)(E:Ends):rh->Prop
 |.nx c=>∀b a e,ux f a->c5 G F b c a e->E.nx b e
 |.bk c=>∀b a e,ux f a->c5 G F b c a e->E.bk b e
 |.ct c=>∀b a e,ux f a->c5 G F b c a e->E.ct b e
 |.rt d c=>∀v b a e,ux f a->c5 G F b c a e->b6 G a d v->E.rt v e
 |.rn i c=>∀p h b a e,ux f a->c5 G F b c a e->e p=Z (.b3 h)->a p=J->F.B p=J->vj b c p->b1 G a i h->E.rt (.ref p) e
def l0(G:Bg)(f:FS):TS:=λE c H=>∃F b a o,c5 G F c b a H/\f b=Z o/\NI G F a E o/\(∀p,E.rt p=E.rt p)
def NI.E?(h:NI G F i E o)(s:ux i j):NI G F j E o:=by
 cases o with
 |nx f=>exact λb a c e R=>h b a c (s.t e) R
 |bk f=>exact λb a c e R=>h b a c (s.t e) R
 |ct f=>exact λb a c e R=>h b a c (s.t e) R
 |rt d f=>exact λv b a c e R=>h v b a c (s.t e) R
 |rn m f=>exact λp l b a c e R=>h p l b a c (s.t e) R
def PS.c6(h:PS X e t)(w:∀E b H,t' E b H->t E b H):PS X e t':=λa s b H D I c=>h a s b H D I (w _ _ _ c)
def n9.c6(h:n9 X e t)(w:∀E b H,t' E b H->t E b H):n9 X e t':=λa s b H D I c=>h a s b H D I (w _ _ _ c)
def uk:FS:=λa=>Z (.nx a)
noncomputable def bt(f g:FS):FS:=λb=>match f b with
 |some (.nx a)=>g a
 |r=>r
section
variable{X:Cx}{G:Bg}
def Xw(h:l0 G uk E a H):E.nx a H:=by obtain⟨F,c,b,o,R,e,k,_⟩:=h;cases e;exact k _ _ _ (ux.refl _) R
def Ux:n9 X [] (l0 G uk):=n9.c6 TN λE a H h=>Xw h
def QL{st:Stmt}{fm:List Stmt}(p:PS X st (l0 G f))(q:n9 X fm (l0 G g)):n9 X (st::fm) (l0 G (bt f g)):=n9.c6 (BM p q) λE w H h=>by
 obtain⟨F,i,j,o,R,e,k,c⟩:=h;unfold bt at e;cases a:f i with
 |none=>simp only[a]at e;cases e
 |some r=>
  cases r with
  |nx b=>simp only[a]at e;exact⟨F,i,j,_,R,a,λt l u s m=>⟨F,b,l,o,m,e,k.E? s,c⟩,c⟩
  |bk b=>simp only[a]at e;cases e;exact⟨F,i,j,_,R,a,k,c⟩
  |ct b=>simp only[a]at e;cases e;exact⟨F,i,j,_,R,a,k,c⟩
  |rt d b=>simp only[a]at e;cases e;exact⟨F,i,j,_,R,a,k,c⟩
  |rn d b=>simp only[a]at e;cases e;exact⟨F,i,j,_,R,a,k,c⟩
def Uy{st:Stmt}(a:PS X st (l0 G f)):n9 X [st] (l0 G f):=J2 a
noncomputable def ue(f:FE):FS:=λb=>match f b with
 |some (d,a)=>Z (.rt d a)
 |none=>J
noncomputable def vK(f:FA):FS:=λb=>match f b with
 |some (d,a)=>Z (.rn d a)
 |none=>J
def uK{b:Type}{f:aP->Option (b×aP)}{ρ:aP}:f ρ=J\/∃d a,f ρ=Z (d,a):=by
 cases e:f ρ with
 |none=>exact .inl O
 |some p=>exact .inr ⟨p.1,p.2,O⟩
def Uz(h:PE X e (tF G f)):PS X (.Return (Z e) pos) (l0 G (ue f)):=PS.c6 (Mj h) λE t H m=>by
 obtain⟨F,b,i,o,R,e,k,q⟩:=m;unfold ue at e;rcases uK (f:=f) (ρ:=b)with a|⟨d,c,a⟩<;>simp only[a]at e
 .cases e
 .cases e;exact⟨F,b,i,d,c,R,a,λv j p s l r=>k _ _ _ _ s l r⟩
def QM(h:PE X e (F? G f)):PS X (.Return (Z e) pos) (l0 G (vK f)):=PS.c6 (Mj h) λE A H w=>by
 obtain⟨F,b,i,o,R,e,k,y⟩:=w;unfold vK at e;rcases uK (f:=f) (ρ:=b)with a|⟨d,c,a⟩<;>simp only[a]at e
 .cases e
 .cases e;exact⟨F,b,i,d,c,R,a,λp z j x s l m q r t u=>k _ _ _ _ _ s l m q r t u⟩
noncomputable def uH(f:FE):FS:=λb=>match f b with
 |some (_,a)=>Z (.nx a)
 |none=>J
def QN{pos:Pos}(h:PE X e (tF G f))(p:dq e J pos.line X.b5=pure δ:=by rfl):PS X (.Expr e pos) (l0 G (uH f)):=PS.c6 (J3 h p) λE u H m=>by
 obtain⟨F,b,i,o,R,e,k,t⟩:=m;unfold uH at e;rcases uK (f:=f) (ρ:=b)with a|⟨d,c,a⟩<;>simp only[a]at e
 .cases e
 .cases e;exact⟨F,b,i,d,c,R,a,λv j q s l r=>k _ _ _ s l⟩
noncomputable def fc(c:FT) (f g:FS):FS:=λb=>match c b with
 |some (γ,a)=>f a
 |some (δ,a)=>g a
 |none=>J
def Xx(w:PT X c (n7 G h))(t:n9 X a (l0 G f))(u:n9 X b (l0 G g)):PS X (.If c a b pos) (l0 G (fc h f g)):=PS.c6 (aat w t u) λE z H x=>by
 obtain⟨F,m,r,o,R,e,k,q⟩:=x;unfold fc at e;rcases uK (f:=h) (ρ:=m)with l|⟨d,i,l⟩
 .simp only[l]at e;cases e
 .refine⟨F,m,r,d,i,R,l,λj y s p=>?_⟩;cases d with
  |true=>simp only[l]at e;exact Kg ⟨F,i,j,o,p,e,k.E? s,q⟩
  |false=>simp only[l]at e;exact Ke ⟨F,i,j,o,p,e,k.E? s,q⟩
abbrev FG:=D->aP->Option aP
def tFG(G:Bg)(n:Nat)(g:FG):TG:=λv f H Q=>∃F e c d b,c5 G F f e c H/\b6 G c d v/\g d e=Z b/\∀a,a.drop n=f.drop n->c5 G F a b c H->Q a H
def QO(G:Bg)(n:Nat)(g:bh->aP->Option aP):TGs:=λh f H Q=>∃F e c d b,c5 G F f e c H/\b1 G c d h/\g d e=Z b/\∀a,a.drop n=f.drop n->c5 G F a b c H->Q a H
def PG.c6(h:PG X e t)(w:∀v b H Q,t' v b H Q->t v b H Q):PG X e t':=λa s b H x u Q I r c=>h a s b H x u Q I r (w _ _ _ _ c)
def ZY.c6(h:ZY X e t)(w:∀v b H Q,t' v b H Q->t v b H Q):ZY X e t':=λa s b H x u Q I r c=>h a s b H x u Q I r (w _ _ _ _ c)
def gN(i:Nat):FG:=λd a=>Z (a.set i (.E d))
def Lk{a:Type}{l:List a}{i n:Nat}{x:a}(h:i<n):(l.set i x).drop n=l.drop n:=by apply kK;intro j;rw[fo,fo,cf,ai (by omega)]
def QP(n:Nat)(h:PG X c (zp i))(b:i<n):PG X c (tFG G n (gN i)):=PG.c6 h λv m H Q a=>by obtain⟨F,l,j,d,f,R,r,e,k⟩:=a;cases e;exact k _ (Lk b) (R.θ i r)
def NJ:bh->aP->Option aP:=λa b=>match a with
 |[]=>Z b
 |_=>J
def Do(g:FG)(c:bh->aP->Option aP):bh->aP->Option aP:=λb e=>match b with
 |d::r=>match g d e with
  |some a=>c r a
  |none=>J
 |[]=>J
def UA(h:ZY X [] gNil):ZY X [] (QO G n NJ):=ZY.c6 h λv j H Q b=>by
 obtain⟨F,i,f,a,c,R,r,e,k⟩:=b;cases a with
 |nil=>cases e;unfold b1 at r;exact⟨r,k _ O R⟩
 |cons d a=>cases e
def QQ(h:ZY X (e::p) (VU (tFG G n g) (QO G n q))):ZY X (e::p) (QO G n (Do g q)):=ZY.c6 h λv B H Q t=>by
 obtain⟨F,l,j,c,i,R,r,e,k⟩:=t;cases c with
 |nil=>cases e
 |cons d c=>
  unfold b1 at r;obtain⟨z,x,rfl,u,w⟩:=r;unfold Do at e;cases f:g d l with
  |none=>simp only[f]at e;cases e
  |some a=>simp only[f]at e;exact⟨z,x,O,F,l,j,d,a,R,u,f,λA s o=>⟨F,a,j,c,i,o,w,e,λm y b=>k _ (y.t s) b⟩⟩
def gT(b:bh->aP->Option aP)(n:Nat):FG:=λd c=>match d with
 |.c3 a=>if a.length=n then b a c else J
 |_=>J
def UB(h:PG X (.Tuple j k pos) (WK G.K m (QO G n l))):PG X (.Tuple j k pos) (tFG G n (gT l m)):=PG.c6 h λv w H Q p=>by
 obtain⟨F,u,f,d,b,R,r,e,k⟩:=p;cases d with
 |c3 i=>
  unfold gT at e;simp only at e;split at e
  .rename_i q;unfold b6 at r;obtain⟨a,t,rfl,o,c⟩:=r;exact⟨a,t,O,fu.mono R.sub o,by rw[<-ug c];exact q,F,u,f,i,b,R,c,e,k⟩
  .cases e
 |_=>cases e
def uD(i:Nat)(f:FE):FS:=λb=>match f b with
 |some (d,a)=>Z (.nx (a.set i (.E d)))
 |none=>J
def NK{st:Stmt}(h:PS X st (EK (tF G f) (zp i))):PS X st (l0 G (uD i f)):=PS.c6 h λE u H p=>by
 obtain⟨F,b,j,o,R,e,k,t⟩:=p;unfold uD at e;rcases uK (f:=f) (ρ:=b)with a|⟨d,c,a⟩<;>simp only[a]at e
 .cases e
 .cases e;exact⟨F,b,j,d,c,R,a,λv l q s m r=>k _ _ _ s (m.θ i r)⟩
def xG(i:Nat)(f:FA):FS:=λb=>match f b with
 |some (d,a)=>Z (.nx (a.set i (.ls d)))
 |none=>J
def Ll{st:Stmt}(h:PS X st (EK (F? G f) (zp i))):PS X st (l0 G (xG i f)):=PS.c6 h λE B H x=>by
 obtain⟨F,b,j,o,R,e,k,z⟩:=x;unfold xG at e;rcases uK (f:=f) (ρ:=b)with a|⟨d,c,a⟩<;>simp only[a]at e
 .cases e
 .cases e;exact⟨F,b,j,d,c,R,a,λp A l y s m q r t u w=>k _ _ _ s (m.setLs i q r t u w)⟩
def M?(n:Nat)(a:bh):aP:=a.map Sl.E++jE (n - a.length) .un
def eg(b n:Nat)(f:FS):bh->Option D:=λa=>if a.length=b then match f (M? n a)with
 |some (.rt d _)=>Z d
 |some (.rn a _)=>Z (.b3 a)
 |some (.nx _)=>Z .I
 |_=>J
 else J
def yr(b n:Nat)(f:FS):bh->Option bh:=λa=>if a.length=b then match f (M? n a)with
 |some (.rn a _)=>Z a
 |_=>J
 else J
def fb(G:Bg)(g:bh->Option D):Sp:=λh H Q _=>∃c f d,ux c H/\b1 G c f h/\g f=Z d/\
 ∀v a e,ux c a->ux a e->ux H e->(∀b o,a b=Z o->c b=Z o\/H b=J)->b6 G a d v->Q v e
def tX(G:Bg)(g:bh->Option bh):Sp:=λi H Q _=>∃e f d,ux e H/\b1 G e f i/\g f=Z d/\
 ∀p h a c,ux e a->ux a c->ux H c->(∀b o,a b=Z o->e b=Z o\/H b=J)->H p=J->c p=Z (.b3 h)->a p=J->b1 G a d h->Q (.ref p) c
def Ki{n:Nat}{b:bh}{i:Nat}{s:Sl}(h:(M? n b)[i]?=Z s):s=.un\/∃d,b[i]?=Z d/\s=.E d:=by
 unfold M? at h;by_cases a:i<b.length
 .rw[fM (by simpa using a),bD,aY a]at h;cases h;exact .inr ⟨_,aY a,O⟩
 .rw[fL (by simpa using a),i8]at h;split at h
  .cases h;exact .inl O
  .cases h
def ER{N:aH}{a:bC}{i:Nat}{v:V}(h:a[i]?=Z v):((L2.start N a)[i]?).join=Z v:=by unfold L2.start;have b:=(bX.1 h).1;rw[fM (by simpa using b),bD,h];rfl
def Jl{N:aH}(s:ux H0 H)(r:b1 G H0 ds vs)(p:vs.length<=N.length):c5 G ⟨H0,H,[]⟩ (L2.start N vs) (M? N.length ds) H0 H where
 sub:=s
 g0:=ux.refl _
 keep:=λb o e _=>e
 fr:=λb o e=>.inl e
 am:=λa h=>by cases h
 len:=by unfold L2.start M?;rw[aR,aR,aq,aq,dc,dc,ug r]
 sl:=λi t e=>by
  rcases Ki e with rfl|⟨d,c,rfl⟩
  .trivial
  .obtain⟨v,f,l⟩:=yx r c;exact⟨v,ER f,l⟩
 ap:=λi j t u a _ e _ m=>by rcases Ki e with rfl|⟨d,_,rfl⟩<;>cases m
def Lm(h:eg j n f b=Z d):b.length=j/\((∃a,f (M? n b)=Z (.rt d a))\/(∃c a,f (M? n b)=Z (.rn c a)/\d=.b3 c)\/∃a,f (M? n b)=Z (.nx a)/\d=.I):=by
 unfold eg at h;split at h
 .rename_i i;refine⟨i,?_⟩;split at h
  .rename_i e;cases h;exact .inl ⟨_,e⟩
  .rename_i e;cases h;exact .inr (.inl ⟨_,_,e,O⟩)
  .rename_i e;cases h;exact .inr (.inr ⟨_,e,O⟩)
  .cases h
 .cases h
def Ln(h:yr c n f a=Z d):a.length=c/\∃i,f (M? n a)=Z (.rn d i):=by
 unfold yr at h;split at h
 .rename_i b;refine⟨b,?_⟩;split at h
  .rename_i e;cases h;exact⟨_,e⟩
  .cases h
 .cases h
end
def UC{N:aH}(hN:I<=N.length)(h:fb G (eg I N.length f) P H Q E):l0 G f { nx:=λ_ c=>Q .I c,rt:=Q } (L2.start N P) H:=by
 obtain⟨l,S,d,s,r,e,k⟩:=h;obtain⟨C,A⟩:=Lm e;clear e;have R:=Jl (N:=N) s r (by rw[<-ug r,C];exact hN);have fin:∀{j:St} {x:aP} {a c:Hp},c5 G ⟨l,H,[]⟩ j x a c->ux H c/\ux a c/\∀b o,a b=Z o->l b=Z o\/H b=J:=λi=>⟨λb o e=>i.keep b o e (by simp),i.sub,i.fr⟩;rcases A with ⟨y,e⟩|⟨T,y,e,rfl⟩|⟨y,e,rfl⟩
 .refine⟨_,_,l,_,R,e,λv j a c u i M=>?_,λ_=>O⟩;obtain⟨m,q,t⟩:=fin i;exact k v a c u q m t M
 .refine⟨_,_,l,_,R,e,λp U j a c u i F w B z rs=>?_,λ_=>O⟩;have R2:=i.ts F w B z;obtain⟨m,q,t⟩:=fin R2;exact k _ _ c (u.t (uy w _)) q m t (CA uh (b1.mono (uy w _) _ _ rs))
 .refine⟨_,_,l,_,R,e,λj a c u i=>?_,λ_=>O⟩;obtain⟨m,q,t⟩:=fin i;exact k _ a c u q m t zR
def UD{N:aH}(hN:u<=N.length)(h:tX G (yr u N.length f) x H Q E):l0 G f { nx:=λ_ a=>Q .I a,rt:=Q } (L2.start N x) H:=by obtain⟨j,B,d,s,r,e,k⟩:=h;obtain⟨q,C,e⟩:=Ln e;have R:=Jl (N:=N) s r (by rw[<-ug r,q];exact hN);refine⟨_,_,j,_,R,e,λp y z c a w i t l m A rs=>?_,λ_=>O⟩;exact k p y c a w i.sub (λb o e=>i.keep b o e (by simp)) i.fr m t l rs
def aaX(c:∀a d,g a=Z d->a.length=f):∀b H Q E,fb G g b H Q E->b.length=f:=λb H Q E h=>by obtain⟨i,a,d,_,r,e,_⟩:=h;rw[<-ug r];exact c _ _ e
def aaY(c:∀a d,g a=Z d->a.length=f):∀b H Q E,tX G g b H Q E->b.length=f:=λb H Q E h=>by obtain⟨i,a,d,_,r,e,_⟩:=h;rw[<-ug r];exact c _ _ e
def UE:∀a d,eg b n f a=Z d->a.length=b:=λ_ _ h=>(Lm h).1
def UF:∀a d,yr b n f a=Z d->a.length=b:=λ_ _ h=>(Ln h).1
def ES{c:Type}(g:bh->Option c)(a:FA):aP->Option (c×aP):=λf=>match a f with
 |some (e,b)=>match g e with
  |some d=>Z (d,b)
  |none=>J
 |none=>J
abbrev tY(g:bh->Option D)(a:FA):FE:=ES g a
abbrev vb(g:bh->Option bh)(a:FA):FA:=ES g a
def Dp{j:Type}{g:bh->Option j}{a:FA}{ρ c:aP}{d:j}(h:ES g a ρ=Z (d,c)):∃b,a ρ=Z (b,c)/\g b=Z d:=by
 unfold ES at h;rcases uK (f:=a) (ρ:=ρ)with e|⟨b,l,e⟩<;>simp only[e]at h
 .cases h
 .cases i:g b with
  |none=>simp only[i]at h;cases h
  |some x=>simp only[i]at h;cases h;exact⟨b,e,i⟩
section
variable{X:Cx}{G:Bg}
def UG(hd:∀H,b1 G H dds dvs):∀h H Q,tF G (tY (λb=>g (b++dds)) a) h H Q->GR (fb G g) dvs E (v? G a) h H Q:=λh H Q t=>by obtain⟨F,y,l,d,f,R,e,k⟩:=t;obtain⟨b,q,r⟩:=Dp e;refine⟨F,y,l,b,f,R,q,λz m o s i rs=>⟨m,b++dds,d,i.sub,v3 rs (hd _),r,λv p c j w x fr u=>?_⟩⟩;exact k v p c (s.t j) (i.gi x j w fr) u
def UH(hd:∀H,b1 G H dds dvs):∀i H Q,F? G (vb (λc=>g (c++dds)) a) i H Q->GR (tX G g) dvs E (v? G a) i H Q:=λi H Q x=>by obtain⟨F,I,m,d,h,R,e,k⟩:=x;obtain⟨c,t,u⟩:=Dp e;refine⟨F,I,m,c,h,R,t,λM o q s b rs=>⟨o,c++dds,d,b.sub,v3 rs (hd _),u,λp C r f l A B fr j y w z=>?_⟩⟩;exact k p C r f (s.t l) (b.gi B l A fr) y w (b.g? j) (b.apart j) z
end
section
variable{X:Cx}{G:Bg}
def UI(hd:∀H,b1 G H dds dvs)(h:PE X e (GR (fb G g) dvs E (v? G a))):PE X e (tF G (tY (λb=>g (b++dds)) a)):=PE.c6 h (UG hd)
def QR(hd:∀H,b1 G H dds dvs)(h:PE X e (GR (tX G g) dvs E (v? G a))):PE X e (F? G (vb (λb=>g (b++dds)) a)):=PE.c6 h (UH hd)
def O9(h:PE X e (GR (tX G g) [] E GQ)):PE X e (F? G (vb g uI)):=PE.c6 h λA H Q o=>by obtain⟨F,z,f,d,x,R,e,k⟩:=o;obtain⟨y,j,l⟩:=Dp e;cases j;exact⟨f,[],d,R.sub,uP,l,λp w i a c t u fr b q m r=>k p w i a c (R.gi u c t fr) q m (R.g? b) (R.apart b) r⟩
def Pa:aH->bh->Str->Option D
 |n::b,d::a,f=>if n=f then Z d else Pa b a f
 |_,_,_=>J
theorem Jm:∀{h:aH} {b:bh} {a:bC} {f:Str} {d:D},b1 G H b a->Pa h b f=Z d->∃v,(h.zip a).lookup f=Z v/\b6 G H d v
 |[],b,a,f,d,r,e=>by simp[Pa]at e
 |n::h,[],a,f,d,r,e=>by simp[Pa]at e
 |n::h,p::b,a,f,d,r,e=>by
  unfold b1 at r;obtain⟨v,q,rfl,l,m⟩:=r;unfold Pa at e;by_cases c:n=f
  .rw[aj c]at e;cases e;subst c;exact⟨v,by simp[dJ],l⟩
  .rw[ai c]at e;obtain⟨w,i,j⟩:=Jm m e;refine⟨w,?_,j⟩;have o:(f==n)=δ:=beq_eq_false_iff_ne.2 λz=>c z.symm;simp only[fq,dJ,o];exact i
def ud(ok:Nat->Bool)(f:Str):D->Option D
 |.obj c b a=>if ok c=γ then Pa b a f else J
 |_=>J
def QS(A:PE X e (tF G t))(j:∀c,ok c=γ->ZX X.K (G.ca c)/\zr X.K (G.ca c) f)(z:fC e f X.b5 (eval e X.b5)=eval e X.b5:=by rfl):PE X (.Attribute e f pos) (tF G (c1 (ud ok f) t)):=PE.c6 (W5 A z) λU H Q B=>by
 obtain⟨F,I,m,d,h,R,e,k⟩:=B;obtain⟨x,q,b⟩:=DZ e;cases x with
 |obj c S N=>
  unfold ud at b;simp only at b;split at b
  .rename_i l;refine⟨F,I,m,_,h,R,q,λv M o s i r=>?_⟩;unfold b6 at r;obtain⟨a,p,T,rfl,u,P,y⟩:=r;obtain⟨w,C,E⟩:=Jm y b;exact⟨a,_,p,_,w,O,i.sub _ _ u,(j c l).1,(j c l).2,C,k _ _ _ s i E⟩
  .cases b
 |_=>cases b
def MOk(X:Cx)(C:Addr)(m:Str)(d:Sp)(dvs:bC)(E:XK):Prop:=∃(k:Nat) (f:Addr) (b:bU) (c:aH) (a:List ab),ZX X.K C/\Meth X.K C m f/\yb X.prog X.w X.K X.mg X.b4 K? k f b c d/\wb k X.A/\ki X.K b c a/\c9 dvs a/\qx K? X E
def uo(g:Nat->Option (bh->Option D))(m:Str)(f:FE)(a:FA):FE:=λo=>match f o with
 |some (.obj c i j,b)=>match g c with
  |some h=>if i.contains m=γ then J else match a b with
   |some (l,e)=>match h (.obj c i j::l)with
    |some d=>Z (d,e)
    |none=>J
   |none=>J
  |none=>J
 |_=>J
def G2(h:uo g m f a ρ=Z (d,t)):
  ∃c e i b l j,f ρ=Z (.obj c e i,b)/\g c=Z l/\e.contains m=δ/\a b=Z (j,t)/\l (.obj c e i::j)=Z d:=by
 unfold uo at h;split at h
 .rename_i c e i b u;cases o:g c with
  |none=>simp only[o]at h;cases h
  |some l=>
   simp only[o]at h;cases p:e.contains m with
   |true=>simp only[p,if_true]at h;cases h
   |false=>
    simp only[p,fj,if_false]at h;rcases uK (f:=a) (ρ:=b)with q|⟨j,w,q⟩<;>simp only[q]at h
    .cases h
    .cases r:l (.obj c e i::j)with
     |none=>simp only[r]at h;cases h
     |some x=>simp only[r]at h;cases h;exact⟨c,e,i,b,l,j,u,o,p,q,r⟩
 .cases h
theorem Dt:∀{a:aH} {b:bC},a.contains m=δ->(a.zip b).lookup m=J
 |[],b,h=>rfl
 |n::a,[],h=>rfl
 |n::a,x::b,h=>by rw[n8,nE]at h;simp only[fq,dJ,h.1];exact Dt h.2
def QT(T:Addr->Sp->Prop)(hT:∀C d,T C d->MOk X C m d dvs E)(he:PE X o ta)(W:PA X (e::i) t)
  (hst:aC (e::i) X.b5=(δ,eval e X.b5)::aC i X.b5:=by rfl) (hpl:(bI pos (aC i X.b5)).any (·.1)=δ:=by rfl)
  (w:eval (.Call (.Attribute o m apos) (e::i) [] pos) X.b5=(do
   let P<-eval o X.b5
   standAt apos.atName
   let (f,first)<-holding [P] (getMethod P m pl)
   callWith pos f first (bI pos (aC (e::i) X.b5)) (backToKw pos (d7 [] X.b5))):=by rfl):
  PE X (.Call (.Attribute o m apos) (e::i) [] pos) (λj H Q=>ta j H λx p=>∃a C B fs d,x=.ref a/\p a=Z (.l? C B fs)/\T C d/\fs.lookup m=J/\t j p λvs y=>d (x::(vs++dvs)) y Q E):=by
 intro b s j H Q I h;refine o9 (pl:=pl) (ff (he b s j H _ I h) λu s1 zz=>?_) w;obtain⟨x,p,z,rx,a,C,B,fs,d,U,S,w,l,q⟩:=zz;obtain⟨k,f,fd,ps,ds,c,M,F,hr,Y,hd,hx⟩:=hT C d w;subst U;obtain rfl:u=Value.ref a:=rx;refine GP z S c M l ?_;refine lW (first:=[.ref a]) (h₀:=X.b4) I.ok.Hj.kin M.kp (ff (W pos b s1 j p _ z q) λR s2 ⟨vs,y,A,r,q2⟩=>⟨A.n?,?_⟩) hst hpl;exact J4 (us:=.ref a::R) (vs:=.ref a::vs) F hr Y hd hx A (.cons O r) q2
def Pb(T:Addr->Sp->Prop)(hT:∀C b,T C b->MOk X C m b dvs E)(B:PE X o R)
  (j:eval (.Call (.Attribute o m apos) [] [] pos) X.b5=(do
   let w<-eval o X.b5
   standAt apos.atName
   let (f,first)<-holding [w] (getMethod w m pl)
   callWith pos f first (bI pos (aC [] X.b5)) (backToKw pos (d7 [] X.b5))):=by rfl):
  PE X (.Call (.Attribute o m apos) [] [] pos) (λp H Q=>R p H λx e=>∃a C r fs b,x=.ref a/\e a=Z (.l? C r fs)/\T C b/\fs.lookup m=J/\b (x::dvs) e Q E):=by
 intro d s p H Q I h;refine o9 (pl:=pl) (ff (B d s p H _ I h) λu Y zz=>?_) j;obtain⟨x,e,i,P,a,C,r,fs,b,z,y,j,l,q⟩:=zz;obtain⟨k,f,U,W,S,c,t,F,M,A,hd,N⟩:=hT C b j;subst z;obtain rfl:u=Value.ref a:=P;refine GP i y c t l ?_;exact lC (first:=[.ref a]) i.n? t.kp (J4 (us:=[.ref a]) (vs:=[.ref a]) F M A hd N i (.cons O .nil) q)
def MT(G:Bg)(g:Nat->Option (bh->Option D)):Addr->Sp->Prop:=λC a=>∃c h,g c=Z h/\C=G.ca c/\a=fb G h
def UJ(h:PE X (.Call (.Attribute o m apos) (e::es) [] pos) (λz H Q=>tF G f z H λx j=>∃b C u fs I,x=.ref b/\j b=Z (.l? C u fs)/\MT G g C I/\fs.lookup m=J/\v? G a z j λvs p=>I (x::(vs++[])) p Q E)):
  PE X (.Call (.Attribute o m apos) (e::es) [] pos) (tF G (uo g m f a)):=PE.c6 h λz H Q l=>by
 obtain⟨F,ρ,N,d,y,R,e,k⟩:=l;obtain⟨c,ns,ds,i,l,w,T,U,W,Y,e5⟩:=G2 e;refine⟨F,ρ,N,_,i,R,T,λv j P s A r=>?_⟩;have r0:=r;unfold b6 at r;obtain⟨b,u,xs,rfl,h1,h2,h3⟩:=r;refine⟨b,_,u,_,_,O,A.sub _ _ h1,⟨c,l,U,O,O⟩,Dt W,F,i,j,w,y,A,Y,λys p q B R2 rs=>?_⟩;show fb G l (V.ref b::(ys++[])) q Q E;rw[bR];exact⟨p,_,d,R2.sub,uT (b6.mono B _ _ r0) rs,e5,λv S t M t2 t3 fr rv=>k v S t (s.t (B.t M)) (R2.gi t3 M t2 fr) rv⟩
def QU(h:PE X (.Call (.Attribute o m apos) [] [] pos) (λu H Q=>tF G f u H λx a=>∃b C l fs q,x=.ref b/\a b=Z (.l? C l fs)/\MT G g C q/\fs.lookup m=J/\q (x::[]) a Q E)):
  PE X (.Call (.Attribute o m apos) [] [] pos) (tF G (uo g m f uI)):=PE.c6 h λu H Q p=>by
 obtain⟨F,ρ,w,d,ρ',R,e,k⟩:=p;obtain⟨c,ns,ds,ρ1,p,P,A,B,I,M,N⟩:=G2 e;cases M;refine⟨F,ρ,w,_,_,R,A,λv a y s j r=>?_⟩;have T:=r;unfold b6 at r;obtain⟨b,l,xs,rfl,S,h2,h3⟩:=r;refine⟨b,_,l,_,_,O,j.sub _ _ S,⟨c,p,B,O,O⟩,Dt I,?_⟩;exact⟨a,_,d,j.sub,uT T uP,N,λv z i t W Y fr U=>k v z i (s.t t) (j.gi Y t W fr) U⟩
def spI(G:Bg)(c:Nat)(g:bh->Option (aH×bh)):Sp:=λr H Q _=>∃(p q:Addr) (m:bC) (d:Hp) (j:bh) (h:aH) (l:bh),r=.ref p::m/\H p=Z (.l? (G.ca c) q [])/\d p=J/\ux d H/\b1 G d j m/\g j=Z (h,l)/\
 ∀i f a e,ux d a->ux a e->(∀b o,H b=Z o->b≠p->e b=Z o)->(∀b o,a b=Z o->d b=Z o\/H b=J)->a p=J->e p=Z (.l? (G.ca c) f (h.zip i))->h.length=i.length->b1 G a l i->Q .I e
def uF(c:Nat)(g:bh->Option (aH×bh))(a:FA):FE:=λh=>match a h with
 |some (d,b)=>match g d with
  |some (f,e)=>Z (.obj c f e,b)
  |none=>J
 |none=>J
theorem UK(hd:∀H,b1 G H dds dvs)(h:PE X e (VX (G.ca c) (spI G c g) dvs E (v? G a))):PE X e (tF G (uF c (λm=>g (m++dds)) a)):=PE.c6 h λσ H Q hh=>by
 obtain⟨F,S,Y,d,T,R,e,k⟩:=hh;unfold uF at e;rcases uK (f:=a) (ρ:=S)with A|⟨m,ρ1,A⟩<;>simp only[A]at e
 .cases e
 .cases C:g (m++dds)with
  |none=>simp only[C]at e;cases e
  |some q=>
   obtain⟨ns,es⟩:=q;simp only[C]at e;cases e;refine⟨F,S,Y,m,T,R,A,λxs U j s l rs x r p hdx ne=>?_⟩;have N:(en j r (.gk x)) x=J:=by rw[uj (λz=>ne z.symm)];exact p
   have P:ux j (en (en j r (.gk x)) x (.l? (G.ca c) r [])):=(uy hdx _).t (uy N _);refine⟨x,r,_,U,m++dds,ns,es,O,uh,l.fx p,l.sub.t P,v3 rs (hd _),C,λys y H2 w W t2 t3 fr M hp hl ry=>⟨O,?_⟩⟩;have t4:ux j w:=λb o e=>t3 b o (P b o e) (wI e p);have I:∀b o,H2 b=Z o->U b=Z o\/j b=J:=λb o e=>by
    rcases fr b o e with q|q
    .exact .inl q
    .cases z:j b with
     |none=>exact .inr O
     |some u=>rw[P b u z]at q;cases q
   have R2:=l.gi t4 W t2 I;have hb:F.B x=J:=l.g? p;have R3:=R2.ts hp M hb (λi t ei to z=>l.apart p i t ei to z);refine k _ _ _ (s.t (W.t (uy M _))) R3 ?_;unfold b6;exact⟨x,y,ys,O,uh,hl,b1.mono (uy M _) _ _ ry⟩
def uS(h:Nat)(i:Nat)(f:Str)(j:FE):FS:=λl=>match j l with
 |some (d,a)=>match a[i]? with
  |some (.ob c b e)=>if c=h then if b.contains f=γ then J else if e.length=b.length then if b.length<900 then Z (.nx (a.set i (.ob c (b++[f]) (e++[d]))))else J else J else J
  |_=>J
 |none=>J
theorem Lo:∀{ns:aH} {xs:bC},ns.contains f=δ->ns.length=xs.length->Av f v (ns.zip xs)=(ns++[f]).zip (xs++[v])
 |[],[],h,l=>rfl
 |[],x::xs,h,l=>by cases l
 |n::ns,[],h,l=>by cases l
 |n::ns,x::xs,h,l=>by
  rw[n8,nE]at h;have a:¬n=f:=λz=>by rw[z]at h;simp at h
  have b:=Lo (f:=f) (v:=v) (ns:=ns) (xs:=xs) h.2 (by simpa using l);show Av f v ((n,x)::ns.zip xs)=_;rw[show Av f v ((n,x)::ns.zip xs)=(if n=f then (n,v)::ns.zip xs else (n,x)::Av f v (ns.zip xs)) from O,ai a,b];rfl
def UM{st:Stmt}(h:PS X st (sFld X.K (CP i) (tF G x) f))(y:ZX X.K (G.ca p)/\zr X.K (G.ca p) f):PS X st (l0 G (uS p i f x)):=PS.c6 h λE σ H N=>by
 obtain⟨F,j,z,o,R,e,k,k2⟩:=N;unfold uS at e;rcases uK (f:=x) (ρ:=j)with b|⟨d,l,b⟩<;>simp only[b]at e
 .cases e
 .split at e
  .rename_i c P U t;split at e
   .rename_i hcc;subst hcc;split at e
    .cases e
    rename_i hnc;split at e
    .rename_i Y;split at e
     .rename_i W;cases e;refine⟨F,j,z,d,l,R,b,λv T A s m r=>?_⟩;obtain⟨a,q,Q,u,B,C,I,w,M⟩:=m.sl i _ t;refine⟨_,yy u,a,_,q,_,O,B,y.1,y.2,by rw[iF];omega,?_⟩;have hnf:P.contains f=δ:=by simpa using hnc
      rw[Lo hnf w];refine k _ _ _ s (m.mut t O u (λS hH=>?_) O);exact⟨a,q,Q++[v],O,hH,C,I,by rw[aR,aR,w];rfl,v3 M (uT r uP)⟩
     .cases e
    .cases e
   .cases e
  .cases e
def stI(c n:Nat)(ds:bh):aP:=.ob c [] []::M? (n - 1) ds
def vo(c h n:Nat)(f:FS):bh->Option (aH×bh):=λa=>if a.length=h then match f (stI c n a)with
 |some (.nx i)=>match (i:aP)[0]? with
  |some (Sl.ob e d b)=>if e=c then if d.length=b.length then Z (d,b)else J else J
  |_=>J
 |_=>J
 else J
def G3(h:vo c m n f b=Z q):b.length=m/\∃a,f (stI c n b)=Z (.nx a)/\a[0]?=Z (.ob c q.1 q.2)/\q.1.length=q.2.length:=by
 unfold vo at h;split at h
 .rename_i l;refine⟨l,?_⟩;split at h
  .rename_i a e;split at h
   .rename_i o r p d;split at h
    .rename_i j;split at h
     .rename_i i;subst j;cases h;exact⟨a,e,d,i⟩
     .cases h
    .cases h
   .cases h
  .cases h
 .cases h
def NM{N:aH}(hN:F+1<=N.length)(h:spI G c (vo c F N.length f) vs H Q E):l0 G f { nx:=λ_ H'=>Q .I H',rt:=Q } (L2.start N vs) H:=by
 obtain⟨p,dx,us,H0,ds,ns,es,rfl,A,h0,s,r,e,k⟩:=h;obtain⟨S,ρ,l,x,z⟩:=G3 e;have hul:us.length=F:=by rw[<-ug r];exact S
 have gets:∀{i:Nat} {t:Sl},(stI c N.length ds)[i]?=Z t->(i=0/\t=.ob c [] [])\/t=.un\/∃(j:Nat) (d:D),i=j+1/\ds[j]?=Z d/\t=.E d:=λ{i t} e=>by
  cases i with
  |zero=>cases e;exact .inl ⟨O,O⟩
  |succ j=>
   have I:(M? (N.length - 1) ds)[j]?=Z t:=e;rcases Ki I with rfl|⟨d,l,rfl⟩
   .exact .inr (.inl O)
   .exact .inr (.inr ⟨j,d,O,l,O⟩)
 have R:c5 G ⟨H0,H,[p]⟩ (L2.start N (.ref p::us)) (stI c N.length ds) H0 H:={
  sub:=s
  g0:=ux.refl _
  keep:=λb o e _=>e
  fr:=λb o e=>.inl e
  am:=λa ha=>by
   have y:a=p:=by simpa using ha
   subst y;exact⟨_,A⟩
  len:=by unfold L2.start stI M?;simp only[aR,aq,dc,aS];have:=ug r;omega
  sl:=λi t e=>by
   rcases gets e with ⟨rfl,rfl⟩|rfl|⟨j,d,rfl,l,rfl⟩
   .exact⟨p,dx,[],ER O,A,h0,by simp,O,uP⟩
   .trivial
   .obtain⟨v,x,z⟩:=yx r l;exact⟨v,ER (by simpa using x),z⟩
  ap:=λi j t u a hij M P B C=>by
   rcases gets M with ⟨rfl,rfl⟩|rfl|⟨_,_,_,_,rfl⟩
   .rcases gets P with ⟨rfl,rfl⟩|rfl|⟨_,_,_,_,rfl⟩
    .exact ao O hij
    .cases C
    .cases C
   .cases B
   .cases B }
 refine⟨_,_,H0,_,R,l,λσ' q H' s' m=>?_,λ_=>O⟩;obtain⟨a,w,ys,q1,T,q3,U,W,Y⟩:=m.sl 0 _ x;have y:a=p:=by simpa using U
 subst y;exact k ys w q H' s' m.sub (λb o e n=>m.keep b o e (by simpa using n)) m.fr q3 T W Y
end
def Sl.L:Sl->Option bh
 |.ls a=>Z a
 |.pm a=>Z a
 |_=>J
def Sl.putL:Sl->bh->Sl
 |.pm _,a=>.pm a
 |_,a=>.ls a
def Sl.z0{s:Sl}(h:s.L=Z a):s.gk=γ:=by cases s<;>first|rfl|cases h
def Sl.putL_L{s:Sl}:(s.putL a).L=Z a:=by cases s<;>rfl
section
variable{G:Bg}{F:Fr}{σ:St}{ρ:aP}{H0 H:Hp}
theorem IK.b3{o:Option V}{s:Sl}{ds:bh}(h:IK G F H0 H o s)(e:s.L=Z ds):∃a xs,o=Z (.ref a)/\H a=Z (.b3 xs)/\H0 a=J/\b1 G H0 ds xs:=by
 cases s with
 |ls b=>cases e;obtain⟨a,xs,c,d,f,j,i⟩:=h;exact⟨a,xs,c,d,f,i⟩
 |pm b=>cases e;obtain⟨a,xs,c,d,f,j,i⟩:=h;exact⟨a,xs,c,d,f,i⟩
 |_=>cases e
def c5.mutL(R:c5 G F σ ρ H0 H)(m:ρ[i]?=Z s)(o:s.L=Z w)(l:(σ[i]?).join=Z (.ref a))(r:b1 G H0 d c):
  c5 G F σ (ρ.set i (s.putL d)) H0 (en H a (.b3 c)):=by
 have ok:=R.sl i s m;rw[l]at ok;refine R.mut m (Sl.z0 o) l (λu hH=>?_) (Sl.z0 Sl.putL_L);cases s with
 |ls e=>obtain⟨b,t,f,p,h,j,q⟩:=ok;cases f;exact⟨a,c,O,hH,h,j,r⟩
 |pm e=>obtain⟨b,t,f,p,h,j,q⟩:=ok;cases f;exact⟨a,c,O,hH,h,j,r⟩
 |_=>cases o
end
def xS(ρ:aP)(i:Nat):Option bh:=match ρ[i]? with
 |some s=>s.L
 |none=>J
def zg(h:xS ρ i=Z a):∃s,ρ[i]?=Z s/\s.L=Z a:=by
 unfold xS at h;cases e:ρ[i]? with
 |none=>rw[e]at h;cases h
 |some s=>rw[e]at h;exact⟨s,O,h⟩
def putAt(ρ:aP)(i:Nat)(a:bh):aP:=match ρ[i]? with
 |some s=>ρ.set i (s.putL a)
 |none=>ρ
def yc(i:Nat)(f:FE):FE:=λc=>match xS c i with
 |some _=>match f c with
  |some (d,a)=>match xS a i with
   |some b=>if b.length<1000 then Z (.I,putAt a i (b++[d]))else J
   |none=>J
  |none=>J
 |none=>J
section
variable{X:Cx}{G:Bg}
def Ay(R:c5 G F m ρ e H)(h:xS ρ i=Z o):∃a d,m[i]?=Z (Z (.ref a))/\H a=Z (.b3 d)/\b1 G e o d/\
  (∀b c,b1 G e b c->c5 G F m (putAt ρ i b) e (en H a (.b3 c))):=by
 obtain⟨s,f,j⟩:=zg h;obtain⟨a,d,l,p,t,q⟩:=(R.sl i s f).b3 j;refine⟨a,d,yy l,p,q,λb c r=>?_⟩;unfold putAt;rw[f];exact R.mutL f j l r
def Pc(h:PE X e (tBM G.K "list" Kb (CP i) (v? G (ax f uI)))):PE X e (tF G (yc i f)):=PE.c6 h λσ H Q A=>by
 obtain⟨F,c,u,d,N,R,e,k⟩:=A;unfold yc at e;cases j:xS c i with
 |none=>simp only[j]at e;cases e
 |some z=>
  simp only[j]at e;rcases uK (f:=f) (ρ:=c)with l|⟨x,b,l⟩<;>simp only[l]at e
  .cases e
  .cases m:xS b i with
   |none=>simp only[m]at e;cases e
   |some T=>
    simp only[m]at e;split at e
    .rename_i U;cases e;obtain⟨a,M,q,C,Y,_⟩:=Ay R j;refine⟨.ref a,q,.inl ⟨O,M,f3.of C⟩,F,c,u,[x],b,R,by unfold ax;rw[l];rfl,λys P w s y rs=>?_⟩;unfold b1 at rs;obtain⟨v,W,rfl,B,p⟩:=rs;unfold b1 at p;subst p;obtain⟨S,o,r,E,t,I⟩:=Ay y m;rw[q]at r;cases r;exact⟨a,o,v,O,O,E,by rw[<-ug t];exact Cy (by omega),k _ _ _ s (I _ _ (v3 t (uT B uP))) zR⟩
    .cases e
def G4(i:Nat)(f:FA):FE:=λd=>match xS d i with
 |some _=>match f d with
  |some (c,a)=>match xS a i with
   |some b=>if b.length+c.length<=1000 then Z (.I,putAt a i (b++c))else J
   |none=>J
  |none=>J
 |none=>J
def Pd(h:PE X e (tBM G.K "list" ND (CP i) (CS (F? G f) GQ))):PE X e (tF G (G4 i f)):=PE.c6 h λσ H Q A=>by
 obtain⟨F,c,u,d,S,R,e,k⟩:=A;unfold G4 at e;cases j:xS c i with
 |none=>simp only[j]at e;cases e
 |some z=>
  simp only[j]at e;rcases uK (f:=f) (ρ:=c)with l|⟨x,b,l⟩<;>simp only[l]at e
  .cases e
  .cases m:xS b i with
   |none=>simp only[m]at e;cases e
   |some Y=>
    simp only[m]at e;split at e
    .rename_i B;cases e;obtain⟨a,N,q,E,s3,_⟩:=Ay R j;refine⟨.ref a,q,.inl ⟨O,N,f3.of E⟩,F,c,u,x,b,R,l,λp P T w s y C h0 hb W rs=>?_⟩;obtain⟨U,o,r,I,t,M⟩:=Ay y m;rw[q]at r;cases r;refine⟨a,p,o,P,O,O,I,C,?_,k _ _ _ s (M _ _ (v3 t rs)) zR⟩;rw[<-ug t,<- ug rs];exact xw B
    .cases e
def aci(i:Nat):FE:=λa=>match xS a i with
 |some (d::b)=>Z (d,putAt a i b)
 |_=>J
def G5(r:b1 G b a c)(h:N? a i=Z d):∃v,N? c i=Z v/\b6 G b d v:=by
 unfold N? at h ⊢;rw[<-ug r];cases e:ixN a.length i with
 |none=>rw[e]at h;cases h
 |some j=>rw[e]at h;exact yx r h
def T3(i:Nat):FE:=λb=>match b[i]? with
 |some (.ls a)=>Z (.b3 a,b.set i (.E (.b3 a)))
 |some (.dk c a)=>Z (.Q c a,b.set i (.E (.Q c a)))
 |some (.E d)=>Z (d,b)
 |_=>J
theorem c5.toIm(R:c5 G F σ ρ H0 H)(hi:ρ[i]?=Z s)(hs:(σ[i]?).join=Z (.ref p))(so:s.gk=γ)(A:H p=Z o)(h0:H0 p=J)(hb:F.B p=J)(r:b6 G (en H0 p o) d (.ref p)):
  c5 G F σ (ρ.set i (.E d)) (en H0 p o) H where
 sub:=λb u e=>by
  by_cases hb:b=p
  .subst hb;rw[uh]at e;cases e;exact A
  .rw[uj hb]at e;exact R.sub _ _ e
 g0:=R.g0.t (uy h0 o)
 keep:=R.keep
 fr:=λb u e=>by
  by_cases c:b=p
  .subst c;exact .inr hb
  .rw[uj c]at e;exact R.fr _ _ e
 am:=R.am
 len:=by rw[f6];exact R.len
 sl:=λj t e=>by
  rw[cf]at e;by_cases h:i=j
  .subst h;rw[aj O]at e;split at e
   .cases e;exact⟨_,hs,r⟩
   .cases e
  .rw[ai h]at e;refine(R.sl j t e).gi (uy h0 o) (λa u _ _ q=>q) λa u z to q C=>?_;rw[uj (λy=>by subst y;exact R.ap j i t s a (λy=>h y.symm) e hi to so z hs)];exact C
 ap:=λj k t u b hjk l w f tk E vk=>by
  have rf:∀{m:Nat} {x:Sl},(ρ.set i (.E d))[m]?=Z x->x.gk=γ->ρ[m]?=Z x:=λ{m x} e I=>by
   rw[cf]at e;by_cases h:i=m
   .subst h;rw[aj O]at e;split at e
    .cases e;cases I
    .cases e
   .rw[ai h]at e;exact e
  exact R.ap j k t u b hjk (rf l f) (rf w tk) f tk E vk
theorem c5.toImD(R:c5 G F σ ρ H0 H)(hi:ρ[i]?=Z s)(hs:(σ[i]?).join=Z (.ref p))(so:s.gk=γ)(h0:H0 p=J)(hb:F.B p=J)(r:b6 G (en H0 p o) d (.ref p)):
  c5 G F σ (ρ.set i (.E d)) (en H0 p o) (en H p o) where
 sub:=λb u e=>by
  by_cases hb:b=p
  .subst hb;rw[uh]at e ⊢;exact e
  .rw[uj hb]at e ⊢;exact R.sub _ _ e
 g0:=R.g0.t (uy h0 o)
 keep:=λb u e n=>by rw[uj (λz=>by subst z;rw[hb]at e;cases e)];exact R.keep b u e n
 fr:=λb u e=>by
  by_cases c:b=p
  .subst c;exact .inr hb
  .rw[uj c]at e;exact R.fr _ _ e
 am:=λb hm=>by
  by_cases c:b=p
  .subst c;exact⟨o,uh⟩
  .rw[uj c];exact R.am b hm
 len:=by rw[f6];exact R.len
 sl:=λj t e=>by
  rw[cf]at e;by_cases h:i=j
  .subst h;rw[aj O]at e;split at e
   .cases e;exact⟨_,hs,r⟩
   .cases e
  .rw[ai h]at e;refine(R.sl j t e).gi (uy h0 o) (λa u z to q=>?_) λa u z to q A=>?_
   .rw[uj (λy=>by subst y;exact R.ap j i t s a (λy=>h y.symm) e hi to so z hs)];exact q
   .rw[uj (λy=>by subst y;exact R.ap j i t s a (λy=>h y.symm) e hi to so z hs)];exact A
 ap:=λj k t u b hjk l w f tk C vk=>by
  have rf:∀{m:Nat} {x:Sl},(ρ.set i (.E d))[m]?=Z x->x.gk=γ->ρ[m]?=Z x:=λ{m x} e E=>by
   rw[cf]at e;by_cases h:i=m
   .subst h;rw[aj O]at e;split at e
    .cases e;cases E
    .cases e
   .rw[ai h]at e;exact e
  exact R.ap j k t u b hjk (rf l f) (rf w tk) f tk C vk
def aaZ(h:PE X e (CP i)):PE X e (tF G (T3 i)):=PE.c6 (PE.ghost h) λE H Q z=>by
 obtain⟨F,C,t,d,A,R,e,k⟩:=z;unfold T3 at e;split at e
 .rename_i m b;cases e;obtain⟨a,l,f,p,c,q,r⟩:=R.sl i _ b;have j:b6 G (en t a (.b3 l)) (.b3 m) (.ref a):=CA uh (b1.mono (uy c _) _ _ r);exact⟨_,yy f,.inl (k _ _ _ (uy c _) (R.toIm b f O p c q j) j)⟩
 .rename_i u m b;cases e;obtain⟨a,l,f,p,c,q,r,y⟩:=R.sl i _ b;refine⟨_,yy f,.inr ⟨a,_,p,λo=>?_⟩⟩;have j:b6 G (en t a (.mu o (.dK (u.zip l)))) (.Q u m) (.ref a):=by unfold b6;exact⟨a,o,l,O,uh,r,b1.mono (uy c _) _ _ y⟩
  exact k _ _ _ (uy c _) (R.toImD b f O c q j) j
 .rename_i B b;cases e;obtain⟨v,w,x⟩:=R.sl i _ b;exact⟨v,yy w,.inl (k _ _ _ (ux.refl _) R x)⟩
 .cases e
def G6(i:Nat):FA:=λa=>match a[i]? with
 |some (.ls b)=>Z (b,a.set i .un)
 |_=>J
def UN(h:PE X e (CP i)):PE X e (F? G (G6 i)):=PE.c6 h λσ H Q C=>by
 obtain⟨F,ρ,H0,d,ρ',R,e,k⟩:=C;unfold G6 at e;split at e
 .rename_i ds l;cases e;obtain⟨a,xs,o,w,y,A,B⟩:=R.sl i _ l;have rf:∀{m:Nat} {x:Sl},(ρ.set i .un)[m]?=Z x->x.gk=γ->m≠i/\ρ[m]?=Z x:=λ{m x} e M=>by
   rw[cf]at e;by_cases h:i=m
   .subst h;rw[aj O]at e;split at e
    .cases e;cases M
    .cases e
   .rw[ai h]at e;exact⟨λz=>h z.symm,e⟩
  have q:c5 G F σ (ρ.set i .un) H0 H:={
   sub:=R.sub,g0:=R.g0,keep:=R.keep,fr:=R.fr,am:=R.am
   len:=by rw[f6];exact R.len
   sl:=λj t e=>by
    rw[cf]at e;by_cases h:i=j
    .subst h;rw[aj O]at e;split at e
     .cases e;trivial
     .cases e
    .rw[ai h]at e;exact R.sl j t e
   ap:=λj k t u b hjk c r p tk I vk=>R.ap j k t u b hjk (rf c p).2 (rf r tk).2 p tk I vk }
  refine⟨_,yy o,k a xs _ _ (ux.refl _) q w y A (λj t c to z=>?_) B⟩;obtain⟨E,f⟩:=rf c to;exact R.ap j i t _ a E f l to O z o
 .cases e
end
def stM(n:Nat)(b a:bh):aP:=.pm b::M? (n - 1) a
def V3(b:aP):Option bh:=match b with
 |.pm a::_=>Z a
 |_=>J
def fnM(h n:Nat)(f:FS):bh->bh->Option (D×bh):=λe c=>if c.length=h then match f (stM n e c)with
 |some (.rt d b)=>match V3 b with
  |some a=>Z (d,a)
  |none=>J
 |some (.rn i b)=>match V3 b with
  |some a=>Z (.b3 i,a)
  |none=>J
 |_=>J
 else J
section
variable{X:Cx}{G:Bg}
def cMut(g:bh->bh->Option (D×bh))(i:Nat)(a:FA):FE:=λe=>match xS e i with
 |some _=>match a e with
  |some (f,b)=>match xS b i with
   |some h=>match g h f with
    |some (d,c)=>Z (d,putAt b i c)
    |none=>J
   |none=>J
  |none=>J
 |none=>J
def Walk(G:Bg)(h:It)(j:bh)(l:Hp):Prop:=∀(i:Nat) (e a:Hp),ux l e->ux e a->
 (∀d,j[i]?=Z d->h.go i a/\∀x c,h.yld i a x c->∃f,ux e f/\ux f c/\ux a c/\(∀b o,f b=Z o->e b=Z o\/a b=J)/\b6 G f d x)/\(i=j.length->h.stop i a)
def π(G:Bg)(f:FA):TI:=λj H R=>∃F i e h b,c5 G F j i e H/\f i=Z (h,b)/\∀c a d,ux e a->c5 G F j b a d->Walk G c h a->R c d
def PI.c6(h:PI X d e t)(w:∀b H R,t' b H R->t b H R):PI X d e t':=λa s b H R I c=>h a s b H R I (w _ _ _ c)
def G7(h:f3 G.K l a c)(r:b1 G l w c):Walk G (Itl G.K a) w l:=λi t f s q=>by have j:f3 G.K f a c:=(s.t q).seq h;refine⟨λd e=>?_,λC=>⟨c,j,by rw[<-ug r,C];exact aO _⟩⟩;obtain⟨v,m,z⟩:=yx r e;refine⟨⟨c,v,j,m⟩,λx u y=>?_⟩;obtain⟨A,B⟩:=y;have p:=B c j;rw[m]at p;cases p;subst A;exact⟨t,ux.refl _,q,ux.refl _,λb o e=>.inl e,b6.mono s _ _ z⟩
def QV(h:fu G.K l a c)(r:b1 G l w c):Walk G (Itt G.K a) w l:=λi t f s q=>by have j:fu G.K f a c:=fu.mono (s.t q) h;refine⟨λd e=>?_,λC=>⟨c,j,by rw[<-ug r,C];exact aO _⟩⟩;obtain⟨v,m,z⟩:=yx r e;refine⟨⟨c,v,j,m⟩,λx u y=>?_⟩;obtain⟨A,B⟩:=y;have p:=B c j;rw[m]at p;cases p;subst A;exact⟨t,ux.refl _,q,ux.refl _,λb o e=>.inl e,b6.mono s _ _ z⟩
def iL(f:FE):FA:=λc=>match f c with
 |some (.b3 b,a)=>Z (b,a)
 |some (.R b,a)=>Z (b,a)
 |_=>J
def iT(f:FE):FA:=λc=>match f c with
 |some (.c3 b,a)=>Z (b,a)
 |_=>J
def Lp(h:PI X w e (Qd G.K (tF G f))):PI X w e (π G (iL f)):=PI.c6 h λz H R u=>by
 obtain⟨F,q,p,y,x,R,e,k⟩:=u;unfold iL at e;split at e
 .rename_i i o j;cases e;refine⟨F,q,p,_,_,R,j,λv t d s b r=>?_⟩;unfold b6 at r;obtain⟨a,m,rfl,c,l⟩:=r;exact⟨a,O,⟨m,b.sub.seq (f3.of c)⟩,k _ _ _ s b (G7 (f3.of c) l)⟩
 .rename_i i o j;cases e;refine⟨F,q,p,_,_,R,j,λv t d s b r=>?_⟩;unfold b6 at r;obtain⟨a,m,rfl,c,l⟩:=r;exact⟨a,O,⟨m,b.sub.seq c⟩,k _ _ _ s b (G7 c l)⟩
 .cases e
def UO(h:PI X p e (WN G.K (tF G f))):PI X p e (π G (iT f)):=PI.c6 h λz H R m=>by
 obtain⟨F,t,d,y,u,R,e,k⟩:=m;unfold iT at e;split at e
 .rename_i j w l;cases e;refine⟨F,t,d,_,_,R,l,λv x i s b r=>?_⟩;unfold b6 at r;obtain⟨a,q,rfl,c,o⟩:=r;exact⟨a,O,⟨q,fu.mono b.sub c⟩,k _ _ _ s b (QV c o)⟩
 .cases e
def CQ(lo:Int)(n:Nat):bh:=(bz n).map λ(i:Nat)=>D.int (lo+(i:Int))
def QW{lo:Int}:Walk G (Itr lo n) (CQ lo n) p:=λi c f s m=>by
 refine⟨λd e=>?_,λl=>by show n<=i;rw[l];simp[CQ]⟩;unfold CQ at e;rw[bD]at e;by_cases a:i<n
 .rw[nU a]at e;cases e;refine⟨a,λx h y=>?_⟩;obtain⟨j,rfl⟩:=y;subst j;exact⟨c,ux.refl _,m,ux.refl _,λb o e=>.inl e,wD _⟩
 .rw[gx (by simpa using a)]at e;cases e
def xm(f:FE):FA:=λb=>match f b with
 |some (.int n,a)=>if -1000000<=n/\n<=1000000 then Z (CQ 0 n.toNat,a)else J
 |_=>J
def MF(h:PI X m e (VW (v? G (ax f uI)))):PI X m e (π G (xm f)):=PI.c6 h λy H R l=>by
 obtain⟨F,o,c,t,p,R,e,k⟩:=l;unfold xm at e;split at e
 .rename_i n q j;split at e
  .rename_i u;cases e;refine⟨F,o,c,[.int n],_,R,by unfold ax;rw[j];rfl,λx r d s i rs=>?_⟩;unfold b1 at rs;obtain⟨v,w,rfl,b,a⟩:=rs;unfold b1 at a;unfold b6 at b;subst a b;exact⟨n,O,by omega,by omega,k _ _ _ s i QW⟩
  .cases e
 .cases e
def fh(g:FG)(b:FS):bh->FS
 |[],c=>Z (.nx c)
 |d::r,c=>match g d c with
  |none=>J
  |some e=>match b e with
   |some (.nx a)=>fh g b r a
   |some (.ct a)=>fh g b r a
   |some (.bk a)=>Z (.nx a)
   |some (.rt d a)=>Z (.rt d a)
   |some (.rn d a)=>Z (.rn d a)
   |none=>J
def xx(s:FA)(g:FG)(b:FS):FS:=λd=>match s d with
 |some (c,a)=>fh g b c a
 |none=>J
def UP{st:Stmt}(h:PS X st (WQ (π G s) (tFG G n g) (l0 G b))):PS X st (l0 G (xx s g b)):=PS.c6 h λE σ H hh=>by
 obtain⟨F,W,H0,o,R,e,k,k2⟩:=hh;unfold xx at e;rcases uK (f:=s) (ρ:=W)with Q|⟨j,C,Q⟩<;>simp only[Q]at e
 .cases e
 .refine⟨F,W,H0,j,C,R,Q,λAt N H1' s1 R1 wk=>?_⟩;refine⟨λi m σ H=>m=j.length - i/\i<=j.length/\∃c r,ux N r/\c5 G F σ c r H/\fh g b (j.drop i) c=Z o,⟨_,O,b7 _,C,N,ux.refl _,R1,e⟩,?_⟩;rintro i m σi B ⟨rfl,hi,c,r,A,I,a⟩;by_cases hlt:i<j.length
  .have ed:j.drop i=j[i]::j.drop (i+1):=kl hlt;rw[ed]at a;unfold fh at a;obtain⟨go,yl⟩:=(wk i r B A I.sub).1 j[i] (aY hlt);refine .inr ⟨go,λp z=>∃c r,ux N r/\c5 G F p c r z/\fh g b (j.drop (i+1)) c=Z o,λp z q=>⟨j.length - (i+1),by omega,O,hlt,q⟩,λx z y=>?_⟩;obtain⟨Y,M,t2,t3,t4,t5⟩:=yl x z y;have R2:=I.gi t3 M t2 t4;cases S:g j[i] c with
   |none=>simp only[S]at a;cases a
   |some w=>
    simp only[S]at a;refine⟨F,c,Y,_,w,R2,t5,S,λσ3 _ R3=>?_⟩;have T:=k.E? (s1.t (A.t M));cases u:b w with
    |none=>simp only[u]at a;cases a
    |some q=>
     refine⟨F,w,Y,q,R3,u,?_,λ_=>O⟩;cases q with
     |nx l=>simp only[u]at a;exact λp t z U P=>⟨l,t,A.t (M.t U),P,a⟩
     |ct l=>simp only[u]at a;exact λp t z U P=>⟨l,t,A.t (M.t U),P,a⟩
     |bk l=>simp only[u]at a;cases a;exact T
     |rt d l=>simp only[u]at a;cases a;exact T
     |rn d l=>simp only[u]at a;cases a;exact T
  .have ez:j.drop i=[]:=m8 (by omega);rw[ez]at a;unfold fh at a;cases a;exact .inl ⟨(wk i r B A I.sub).2 (by omega),k _ _ _ (s1.t A) I⟩
def whL(c:FT)(b:FS):Nat->FS
 |0,_=>J
 |n+1,f=>match c f with
  |some (δ,e)=>Z (.nx e)
  |some (γ,e)=>match b e with
   |some (.nx a)=>whL c b n a
   |some (.ct a)=>whL c b n a
   |some (.bk a)=>Z (.nx a)
   |some (.rt d a)=>Z (.rt d a)
   |some (.rn d a)=>Z (.rn d a)
   |none=>J
  |none=>J
def Pe{st:Stmt}(n:Nat)(h:PS X st (Qb (n7 G c) (l0 G b))):PS X st (l0 G (whL c b n)):=PS.c6 h λE Q H Y=>by
 obtain⟨F,P,B,o,R,e,k,k2⟩:=Y;refine⟨λm Q H=>∃i r,ux B r/\c5 G F Q i r H/\whL c b m i=Z o,⟨n,P,B,ux.refl _,R,e⟩,?_⟩;rintro m σi U ⟨i,r,A,W,a⟩;cases m with
 |zero=>cases a
 |succ m=>
  unfold whL at a;rcases uK (f:=c) (ρ:=i)with x|⟨t,w,x⟩
  .simp only[x]at a;cases a
  .refine⟨F,i,r,t,w,W,x,λS T z N=>?_⟩;cases t with
   |false=>simp only[x]at a;cases a;exact Ke (k _ _ _ (A.t z) N)
   |true=>
    simp only[x]at a;refine Kg ⟨λl y=>∃i r,ux B r/\c5 G F l i r y/\whL c b m i=Z o,λl y q=>⟨m,dD m,q⟩,?_⟩;have I:=k.E? (A.t z);cases u:b w with
    |none=>simp only[u]at a;cases a
    |some q=>
     refine⟨F,w,S,q,N,u,?_,λ_=>O⟩;cases q with
     |nx j=>simp only[u]at a;exact λl p y M C=>⟨j,p,A.t (z.t M),C,a⟩
     |ct j=>simp only[u]at a;exact λl p y M C=>⟨j,p,A.t (z.t M),C,a⟩
     |bk j=>simp only[u]at a;cases a;exact I
     |rt d j=>simp only[u]at a;cases a;exact I
     |rn d j=>simp only[u]at a;cases a;exact I
end
def Sl.d4:Sl->Sl
 |.E d=>.E d
 |.ls a=>.pm a
 |.pm a=>.pm a
 |_=>.un
def Du(k:Nat)(d4:List Nat)(ρ:aP):aP:=jE k .un++d4.map λj=>((ρ[j]?).getD .un).d4
def xH:List Nat->aP->aP->Option aP
 |[],_,a=>Z a
 |j::d4,t::b,a=>match xS a j with
  |some _=>match t with
   |.pm c=>xH d4 b (putAt a j c)
   |_=>J
  |none=>xH d4 b a
 |_::_,[],_=>J
def BQ(k:Nat)(d4:List Nat)(g:FG)(ft:FT)(f:FE):bh->aP->Option (bh×aP)
 |[],c=>Z ([],c)
 |d::r,c=>match g d (Du k d4 c)with
  |none=>J
  |some h=>match ft h with
   |some (γ,b)=>match f b with
    |some (x,i)=>match xH d4 (i.drop k) c with
     |some a=>match BQ k d4 g ft f r a with
      |some (j,e)=>Z (x::j,e)
      |none=>J
     |none=>J
    |none=>J
   |some (δ,b)=>match xH d4 (b.drop k) c with
    |some a=>BQ k d4 g ft f r a
    |none=>J
   |none=>J
def ui(k:Nat)(d4:List Nat)(s:FA)(g:FG)(ft:FT)(fe:FE):FA:=λc=>match s c with
 |some (b,a)=>if b.length<=1000 then BQ k d4 g ft fe b a else J
 |none=>J
def u6:FT:=λa=>Z (γ,a)
theorem A2:∀{d4:List Nat} {A f b:aP},xH d4 A f=Z b->b.length=f.length/\
  (∀(j:Nat) (c:Sl),b[j]?=Z c->∃s,f[j]?=Z s/\((c=s/\(s.L≠J->j∉d4))\/∃(m:Nat) (i a:bh),d4[m]?=Z j/\A[m]?=Z (Sl.pm i)/\s.L=Z a/\c=s.putL i))
 |[],A,f,b,h=>by cases h;exact⟨O,λj c e=>⟨c,e,.inl ⟨O,λ_ z=>by cases z⟩⟩⟩
 |F::d4,[],f,b,h=>by cases h
 |F::d4,t::A,f,b,h=>by
  unfold xH at h;cases l:xS f F with
  |none=>
   simp only[l]at h;obtain⟨B,C⟩:=A2 h;refine⟨B,λj c e=>?_⟩;obtain⟨s,r,q⟩:=C j c e;refine⟨s,r,?_⟩;rcases q with ⟨rfl,q⟩|⟨m,i,a,u,w,q3,x⟩
   .refine .inl ⟨O,λz y=>?_⟩;rcases aK.1 y with y|y
    .subst y;unfold xS at l;rw[r]at l;exact z l
    .exact q z y
   .exact .inr ⟨m+1,i,a,u,w,q3,x⟩
  |some p=>
   simp only[l]at h;cases t with
   |pm i=>
    simp only at h;obtain⟨H,r,G⟩:=zg l;unfold putAt at h;rw[r]at h;simp only at h;obtain⟨B,C⟩:=A2 h;refine⟨by rw[B,f6],λj c e=>?_⟩;obtain⟨s,o,q⟩:=C j c e;by_cases E:F=j
    .subst E;rw[cf,aj O]at o;split at o
     .cases o;refine⟨H,r,.inr ?_⟩;rcases q with ⟨rfl,q⟩|⟨m,d,a,u,w,q3,x⟩
      .exact⟨0,i,p,O,O,G,O⟩
      .refine⟨m+1,d,p,u,w,G,?_⟩;rw[x];cases H<;>rfl
     .cases o
    .rw[cf,ai E]at o;refine⟨s,o,?_⟩;rcases q with ⟨rfl,q⟩|⟨m,d,a,u,w,q3,x⟩
     .refine .inl ⟨O,λz y=>?_⟩;rcases aK.1 y with y|y
      .exact E y.symm
      .exact q z y
     .exact .inr ⟨m+1,d,a,u,w,q3,x⟩
   |_=>cases h
def IL(d4:List Nat)(b:St)(ρ:aP):List Addr:=d4.filterMap λj=>match xS ρ j,(b[j]?).join with
 |some _,Z (.ref a)=>Z a
 |_,_=>J
def BR:a∈IL d4 i h ↔ ∃j∈d4,(∃b,xS h j=Z b)/\(i[j]?).join=Z (.ref a):=by
 unfold IL;rw[iz];constructor
 .rintro⟨j,f,e⟩;refine⟨j,f,?_⟩;split at e
  .rename_i b l c d;cases e;exact⟨⟨b,c⟩,d⟩
  .cases e
 .rintro⟨j,f,⟨b,c⟩,d⟩;refine⟨j,f,?_⟩;rw[c,d]
section
variable{X:Cx}{G:Bg}{F:Fr}{σ:St}{ρ:aP}{H0 H:Hp}
def G8(h:(Du k d4 ρ)[i]?=Z s):s=.un\/∃m j,i=k+m/\d4[m]?=Z j/\s=((ρ[j]?).getD .un).d4:=by
 unfold Du at h;by_cases a:i<k
 .rw[fM (by simpa using a),i8,aj a]at h;cases h;exact .inl O
 .rw[fL (by simpa using oU a),dc,bD]at h;cases e:d4[i - k]? with
  |none=>rw[e]at h;cases h
  |some j=>rw[e]at h;cases h;exact .inr ⟨i - k,j,by omega,e,O⟩
def D1(h:d4[m]?=Z j):((xR k d4 σ)[k+m]?).join=(σ[j]?).join:=by unfold xR;rw[fL (by simp),dc,show k+m - k=m by omega,bD,h];rfl
theorem c5.d4(R:c5 G F σ ρ H0 H)(k:Nat)(d4:List Nat)(nd:d4.Nodup):c5 G ⟨H0,H,IL d4 σ ρ⟩ (xR k d4 σ) (Du k d4 ρ) H0 H where
 sub:=R.sub
 g0:=ux.refl _
 keep:=λb o e _=>e
 fr:=λb o e=>.inl e
 am:=λa ha=>by obtain⟨j,x,⟨ds,l⟩,r⟩:=BR.1 ha;obtain⟨s,E,I⟩:=zg l;obtain⟨T,xs,f,p,_⟩:=(R.sl j s E).b3 I;rw[r]at f;cases f;exact⟨_,p⟩
 len:=by unfold xR Du;rw[aR,aR,dc,dc,aq,aq]
 sl:=λi s e=>by
  rcases G8 e with rfl|⟨m,j,rfl,l,rfl⟩
  .trivial
  .rw[D1 l];cases r:ρ[j]? with
   |none=>trivial
   |some s=>
    have ok:=R.sl j s r;have mem:∀{a:Addr} {ds:bh},s.L=Z ds->(σ[j]?).join=Z (.ref a)->a∈IL d4 σ ρ:=λf p=>BR.2 ⟨j,cq l,⟨_,by unfold xS;rw[r];exact f⟩,p⟩;cases s with
    |un=>trivial
    |E d=>exact ok
    |ls ds=>obtain⟨a,xs,f,p,u,M,w⟩:=ok;exact⟨a,xs,f,p,u,mem O f,w⟩
    |pm ds=>obtain⟨a,xs,f,p,u,M,w⟩:=ok;exact⟨a,xs,f,p,u,mem O f,w⟩
    |dk ks ds=>trivial
    |ob c ns ds=>trivial
 ap:=λi U s t a hii e C so to v B=>by
  rcases G8 e with rfl|⟨m,j,rfl,l,rfl⟩
  .cases so
  rcases G8 C with rfl|⟨N,A,rfl,q,rfl⟩
  .cases to
  rw[D1 l]at v;rw[D1 q]at B;have gk:∀{j:Nat},(((ρ[j]?).getD Sl.un).d4).gk=γ->∃s,ρ[j]?=Z s/\s.gk=γ:=λ{j} h=>by
   cases z:ρ[j]? with
   |none=>rw[z]at h;cases h
   |some s=>rw[z]at h;refine⟨s,O,?_⟩;cases s<;>first|rfl|cases h
  obtain⟨s,z,S⟩:=gk so;obtain⟨P,Q,y⟩:=gk to;by_cases x:j=A
  .subst x;have:m=N:=(List.getElem?_inj (bX.1 l).1 nd).1 (l.t q.symm);exact hii (by rw[this])
  .exact R.ap j A s P a x z Q S y v B
theorem c5.uncap(R:c5 G F σ ρ H0 H){k:Nat}{d4:List Nat}{f:St}{C ρ':aP}{H1 p:Hp}(c:c5 G ⟨H0,H,IL d4 σ ρ⟩ f C H1 p)(hd:f.drop k=(xR k d4 σ).drop k)(hu:xH d4 (C.drop k) ρ=Z ρ'):c5 G F σ ρ' H1 p:=by
 obtain⟨hl,hc⟩:=A2 hu;have I:∀{m j:Nat},d4[m]?=Z j->(f[k+m]?).join=(σ[j]?).join:=λ{m j} e=>by
  have q:(f.drop k)[m]?=((xR k d4 σ).drop k)[m]?:=by rw[hd]
  rw[fo,fo]at q;rw[q];exact D1 e
 have nA:∀{j:Nat} {s:Sl} {a:Addr},ρ[j]?=Z s->s.gk=γ->(σ[j]?).join=Z (.ref a)->(s.L≠J->j∉d4)->a∉IL d4 σ ρ:=λ{j s a} e so z hn ha=>by
  obtain⟨i,hi,⟨ds,d⟩,P⟩:=BR.1 ha;obtain⟨t,r,E⟩:=zg d;by_cases hij:i=j
  .subst hij;rw[e]at r;cases r;exact hn (by rw[E];simp) hi
  .exact R.ap i j t s a hij r e (Sl.z0 E) so P z
 have hA:∀a∈IL d4 σ ρ,F.B a=J\/a∈F.A:=λa ha=>by obtain⟨i,hi,⟨ds,d⟩,P⟩:=BR.1 ha;obtain⟨t,r,E⟩:=zg d;obtain⟨Y,u,h,Q,S,h4⟩:=(R.sl i t r).at (Sl.z0 E);rw[P]at h;cases h;exact h4
 have own':∀{j:Nat} {l:Sl},ρ'[j]?=Z l->l.gk=γ->∃s,ρ[j]?=Z s/\s.gk=γ:=λ{j l} e so=>by
  obtain⟨s,d,q⟩:=hc j l e;rcases q with ⟨rfl,q⟩|⟨m,ds,M,q1,T,q3,q4⟩
  .exact⟨l,d,so⟩
  .exact⟨s,d,Sl.z0 q3⟩
 exact {
  sub:=c.sub
  g0:=R.g0.t c.g0
  keep:=λb o e n=>by
   refine c.keep b o (R.keep b o e n) λha=>?_;rcases hA b ha with q|q
   .rw[q]at e;cases e
   .exact n q
  fr:=λb o e=>by
   rcases c.fr b o e with q|q
   .exact R.fr b o q
   .exact .inr (R.g? q)
  am:=λa ha=>by
   obtain⟨o,q⟩:=R.am a ha;by_cases z:a∈IL d4 σ ρ
   .exact c.am a z
   .exact⟨o,c.keep a o q z⟩
  len:=by rw[hl];exact R.len
  sl:=λj l e=>by
   obtain⟨s,d,q⟩:=hc j l e;rcases q with ⟨rfl,q⟩|⟨m,ds,M,q1,T,q3,q4⟩
   .refine(R.sl j l d).gi c.g0 (λa u z so y=>c.keep a u y (nA d so z q)) λa u z so y y0=>?_;cases w:H1 a with
    |none=>rfl
    |some o=>
     rcases c.fr a o w with x|x
     .have U:H0 a=Z o:=x;rw[U]at y0;cases y0
     .have U:H a=J:=x;rw[U]at y;cases y
   .rw[fo]at T;obtain⟨a,xs,h,Q,S,h4,h5⟩:=c.sl _ _ T;rw[I q1]at h;have ok:=R.sl j s d;subst q4;cases s with
    |ls N=>obtain⟨Y,W,g1,g2,g3,g4,g5⟩:=ok;rw[h]at g1;cases g1;exact⟨a,xs,h,Q,S,g4,h5⟩
    |pm N=>obtain⟨Y,W,g1,g2,g3,g4,g5⟩:=ok;rw[h]at g1;cases g1;exact⟨a,xs,h,Q,S,g4,h5⟩
    |_=>cases q3
  ap:=λi j s t a hij ei ej so to v v'=>by
   obtain⟨s0,z,zo⟩:=own' ei so;obtain⟨t0,y,yo⟩:=own' ej to;exact R.ap i j s0 t0 a hij z y zo yo v v' }
def BS{k:Nat}(h:vj σ ρ p)(f:xH d4 t ρ=Z a):vj σ a p:=λi c e so=>by
 obtain⟨s,b,q⟩:=(A2 f).2 i c e;rcases q with ⟨rfl,q⟩|⟨m,j,d,l,o,q3,r⟩
 .exact h i c b so
 .exact h i s b (Sl.z0 q3)
inductive CI(G:Bg) (F:Fr) (σ:St) (H1:Hp) (p:Addr) (k:Nat) (d4:List Nat) (g:FG) (ft:FT) (fe:FE) (ds es:bh) (ρ':aP) (i m:Nat) (acc:bC) (H2:Hp):Prop
 |mk (ρi:aP) (Hi:Hp) (dn fm:bh):m=ds.length - i->i<=ds.length->ux H1 Hi->c5 G F σ ρi Hi H2->H2 p=Z (.b3 acc)->Hi p=J->vj σ ρi p->b1 G Hi dn acc->dn.length<=i->BQ k d4 g ft fe (ds.drop i) ρi=Z (fm,ρ')->es=dn++fm->CI G F σ H1 p k d4 g ft fe ds es ρ' i m acc H2
def Kj{d4:List Nat}(nd:d4.Nodup):∀σ H Q,F? G (ui k d4 s g ft fe) σ H Q->Fl (π G s) (tFG G k g) (n7 G ft) (tF G fe) k d4 σ H Q:=λσ H Q hh=>by
 obtain⟨F,ρ,H0,es,ρ',R,e,kk⟩:=hh;unfold ui at e;rcases uK (f:=s) (ρ:=ρ)with e1|⟨c,ρ1,e1⟩<;>simp only[e1]at e
 .cases e
 .split at e
  .rename_i hlen;refine⟨F,ρ,H0,c,ρ1,R,e1,λAt H1 H1' s1 P wk p T=>?_⟩;refine⟨CI G F σ H1 p k d4 g ft fe c es ρ',
    ⟨_,ρ1,H1,[],es,O,b7 _,ux.refl _,P.j0 T _,uh,P.fx T,P.apart T,uP,aO _,e,O⟩,?_⟩
   rintro i m acc H2 ⟨d,Hi,dn,fm,rfl,hi,Y,Ri,C,U,apt,rs,hdn,a,rfl⟩;by_cases hlt:i<c.length
   .have ed:c.drop i=c[i]::c.drop (i+1):=kl hlt;rw[ed]at a;unfold BQ at a;obtain⟨go,yl⟩:=(wk i Hi H2 Y Ri.sub).1 c[i] (aY hlt);refine .inr ⟨go,λx H3 y=>?_⟩;obtain⟨I,t1,t2,t3,t4,t5⟩:=yl x H3 y;have R2:=Ri.gi t3 t1 t2 t4;have W:H3 p=Z (.b3 acc):=t3 _ _ C;have hpj:I p=J:=by
     cases w:I p with
     |none=>rfl
     |some o=>
      rcases t4 p o w with z|z
      .rw[U]at z;cases z
      .rw[C]at z;cases z
    have RC:=R2.d4 k d4 nd;have npA:p∉IL d4 σ d:=λz=>by obtain⟨j,_,⟨ds',q1⟩,q2⟩:=BR.1 z;obtain⟨t,q3,q4⟩:=zg q1;exact apt j t q3 (Sl.z0 q4) q2
    cases e2:g c[i] (Du k d4 d)with
    |none=>simp only[e2]at a;cases a
    |some E=>
     simp only[e2]at a;refine⟨_,_,I,c[i],E,RC,t5,e2,λσ4 B R4=>⟨B,?_⟩⟩;rcases uK (f:=ft) (ρ:=E)with S|⟨b,l,S⟩
     .simp only[S]at a;cases a
     .refine⟨_,E,I,b,l,R4,S,λH5 H5' s5 R5=>?_⟩;have keepP:∀{σ':St} {ρ'':aP} {Ha N:Hp},c5 G ⟨I,H3,IL d4 σ d⟩ σ' ρ'' Ha N->N p=Z (.b3 acc)/\Ha p=J:=λRz=>by
       refine⟨Rz.keep p _ W npA,?_⟩;refine Option.eq_none_iff_forall_ne_some.2 λo M=>?_;rcases Rz.fr p o M with z|z
       .have z':I p=Z o:=z;rw[hpj]at z';cases z'
       .have z':H3 p=J:=z;rw[W]at z';cases z'
      cases b with
      |false=>
       simp only[S]at a;refine Ke ?_;cases h:xH d4 (l.drop k) d with
       |none=>simp only[h]at a;cases a
       |some r=>simp only[h]at a;obtain⟨w1,M⟩:=keepP R5;exact⟨c.length - (i+1),by omega,r,H5,dn,fm,O,hlt,Y.t (t1.t s5),R2.uncap R5 B h,w1,M,BS (k:=k) apt h,b1.mono (t1.t s5) _ _ rs,by omega,a,O⟩
      |true=>
       simp only[S]at a;refine Kg ?_;rcases uK (f:=fe) (ρ:=l)with e5|⟨x5,ρ5,e5⟩
       .simp only[e5]at a;cases a
       .simp only[e5]at a;refine⟨_,l,H5,x5,ρ5,R5,e5,λv H6 H6' s6 R6 rv=>?_⟩;obtain⟨w1,M⟩:=keepP R6;cases h:xH d4 (ρ5.drop k) d with
        |none=>simp only[h]at a;cases a
        |some r=>
         simp only[h]at a;cases e6:BQ k d4 g ft fe (c.drop (i+1)) r with
         |none=>simp only[e6]at a;cases a
         |some q=>
          obtain⟨rest',ρz⟩:=q;simp only[e6]at a;cases a;have A:=R2.uncap R6 B h;have lacc:acc.length=dn.length:=(ug rs).symm;refine⟨acc,w1,Cy (by omega),c.length - (i+1),by omega,r,H6,dn++[x5],rest',O,hlt,Y.t (t1.t (s5.t s6)),?_,uh,M,BS (k:=k) apt h,v3 (b1.mono (t1.t (s5.t s6)) _ _ rs) (uT rv uP),by rw[aR,cR];omega,e6,by rw[cc];rfl⟩;exact {
           sub:=λb o e=>by rw[uj (λz=>by rw[z,M]at e;cases e)];exact A.sub b o e
           g0:=A.g0
           keep:=λb o e n=>by rw[uj (λz=>by subst z;rw[P.g? T]at e;cases e)];exact A.keep b o e n
           fr:=A.fr
           am:=λb hb=>by
            by_cases z:b=p
            .subst z;exact⟨_,uh⟩
            .rw[uj z];exact A.am b hb
           len:=A.len
           sl:=λj t ej=>(A.sl j t ej).gi (ux.refl _) (λb u z to q=>by rw[uj (λy=>BS (k:=k) apt h j t ej to (by rw[z,y]))];exact q) λb u _ _ _ q=>q
           ap:=A.ap }
   .have ez:c.drop i=[]:=m8 (by omega);rw[ez]at a;unfold BQ at a;cases a;rw[bR]at kk;exact .inl ⟨(wk i Hi H2 Y Ri.sub).2 (by omega),kk p acc Hi H2 (s1.t Y) Ri C U (P.g? T) apt rs⟩
  .cases e
def QX{d4:List Nat}(c:d4.Nodup)(h:PE X e (Fl (π G s) (tFG G k g) (n7 G b) (tF G a) k d4)):PE X e (F? G (ui k d4 s g b a)):=PE.c6 h (Kj c)
def QY:PIf X [] (n7 G u6):=λa s σ H Q I h=>by obtain⟨F,ρ,H0,b,c,R,e,k⟩:=h;cases e;exact Ui a s σ H Q I (k _ _ (ux.refl _) R)
end
def wK:D->Bool
 |.I=>γ|.O _=>γ|.int _=>γ|.str _=>γ|_=>δ
def vD:D->V
 |.I=>.I|.O b=>.O b|.int i=>.int i|.str x=>.str x|_=>.I
section
variable{X:Cx}{G:Bg}{H:Hp}
def yz{d:D}{v:V}(h:b6 G H d v)(f:wK d=γ):v=vD d:=by cases d<;>first|(unfold b6 at h;exact h)|cases f
def D3{d:D}(f:wK d=γ):∀H,b6 G H d (vD d):=λH=>by cases d<;>first|(unfold b6;rfl)|cases f
theorem ET:∀{a:bh} {b:bC},b1 G H a b->a.all wK=γ->b=a.map vD
 |[],b,h,f=>by unfold b1 at h;exact h
 |d::a,b,h,f=>by unfold b1 at h;obtain⟨v,r,rfl,c,e⟩:=h;rw[gQ,aX]at f;rw[aA,yz c f.1,ET e f.2]
def Lq{d:D}(f:wK d=γ):CT (vD d)=γ:=by cases d<;>first|rfl|cases f
theorem Jn:∀{a:bh},a.all wK=γ->(a.map vD).all CT=γ
 |[],_=>rfl
 |d::a,f=>by rw[gQ,aX]at f;rw[aA,gQ,Lq f.1,Jn f.2];rfl
def i1.or{f:ab->ab->Sem ab}{r b:R2}(h:i1 X f r)(i:i1 X f b):i1 X f (λx y H Q=>r x y H Q\/b x y H Q):=λa s e H x y v u Q I c d q=>q.elim (h a s e H x y v u Q I c d) (i a s e H x y v u Q I c d)
def ke.or{r d:R2}{g c:D->D->Option D}(h:ke G r g)(j:ke G d c):ke G (λx y H Q=>r x y H Q\/d x y H Q) (λx y=>match g x y with|some z=>Z z|none=>c x y):=λx y z b H v u Q e s f i k=>by
 cases a:g x y with
 |some w=>simp only[a]at e;cases e;exact .inl (h x y _ b H v u Q a s f i k)
 |none=>simp only[a]at e;exact .inr (j x y z b H v u Q e s f i k)
def dI(C:Int->Int->Bool)(g:Int->Int->D):D->D->Option D
 |.int a,.int b=>if C a b=γ then Z (g a b)else J
 |_,_=>J
def Lr{C:Int->Int->Bool}{d:Int->Int->Prop}{g:Int->Int->D}{f:Int->Int->V}(hC:∀a b,C a b=γ->d a b)(h:∀a b,wK (g a b)=γ/\vD (g a b)=f a b):ke G (rI d f) (dI C g):=λx y z m H v u Q e s i j k=>by
 unfold dI at e;split at e
 .rename_i a b;split at e
  .rename_i l;cases e;unfold b6 at i j;exact⟨a,b,i,j,hC _ _ l,by rw[<-(h a b).2];exact k _ λc _=>D3 (h a b).1 c⟩
  .cases e
 .cases e
def Dy{g:Int->Int->D}{d:Int->Int->V}(f:∀a b,wK (g a b)=γ/\vD (g a b)=d a b):ke G (S3 d) (dI (λ_ _=>γ) g):=λx y z j H v u Q e s h i k=>by
 unfold dI at e;split at e
 .rename_i a b;split at e
  .cases e;unfold b6 at h i;exact⟨a,b,h,i,by rw[<-(f a b).2];exact k _ λc _=>D3 (f a b).1 c⟩
  .cases e
 .cases e
def vL:=dI (λ_ _=>γ) λa b=>.int (a+b)
def NO:=dI (λ_ _=>γ) λa b=>.int (a - b)
def A3(a:Int):Bool:=decide (-(2 ^ 64)<a)&&decide (a<2 ^ 64)
def yA:=dI (λa b=>A3 a||A3 b) λa b=>.int (a * b)
def uJ:=dI (λ_ b=>decide (0<b)) λa b=>.int (a % b)
def vp:=dI (λ_ b=>decide (0<b)&&decide (b<1073741824)) λa b=>.int (a / b)
def NP:=dI (λa b=>decide (0<=b)&&decide (b<=1000000)&&decide (a.natAbs<2 ^ 64)) λa b=>.int (a ^ b.toNat)
def MG:=dI (λ_ _=>γ) λa b=>.O (decide (a<b))
def y8:=dI (λ_ _=>γ) λa b=>.O (decide (a<=b))
def IM:=dI (λ_ _=>γ) λa b=>.O (decide (b<a))
def UQ:=dI (λ_ _=>γ) λa b=>.O (decide (b<=a))
def Xy:ke G (S3 λi j=>.int (i+j)) vL:=Dy λ_ _=>⟨O,O⟩
def Xz:ke G (S3 λi j=>.int (i - j)) NO:=Dy λ_ _=>⟨O,O⟩
def XA:ke G (rI TV λi j=>.int (i * j)) yA:=Lr (λa b h=>by
 unfold A3 at h;simp only[jC,aX,bQ]at h;exact h) λ_ _=>⟨O,O⟩
def XB:ke G (rI (λ_ j=>0<j) λi j=>.int (i % j)) uJ:=Lr (λa b h=>by simpa using h) λ_ _=>⟨O,O⟩
def XD:ke G (rI WT λi j=>.int (i / j)) vp:=Lr (λa b h=>by unfold WT;simpa using h) λ_ _=>⟨O,O⟩
def XE:ke G (rI CPow λi j=>.int (i ^ j.toNat)) NP:=Lr (λa b h=>by
 simp only[aX,bQ]at h;exact⟨h.1.1,h.1.2,h.2⟩) λ_ _=>⟨O,O⟩
def aa0:ke G (S3 λi j=>.O (decide (i<j))) MG:=Dy λ_ _=>⟨O,O⟩
def aa1:ke G (S3 λi j=>.O (decide (i<=j))) y8:=Dy λ_ _=>⟨O,O⟩
def aa2:ke G (S3 λi j=>.O (decide (j<i))) IM:=Dy λ_ _=>⟨O,O⟩
def aa3:ke G (S3 λi j=>.O (decide (j<=i))) UQ:=Dy λ_ _=>⟨O,O⟩
def acj:D->D->Option D
 |.str a,.str b=>if a.length+b.length<=100000 then Z (.str (a++b))else J
 |_,_=>J
def Lu{n:Nat}(h:n<=100000):n<=aI:=bM h (by rw[bN];decide)
def QZ:D->D->Option D
 |.str a,.str b=>Z (.O (!decide (b.cps.toList<a.cps.toList)))
 |_,_=>J
def XG:ke G (λx y H Q=>∃i j,x=.str i/\y=.str j/\Q (.O (!decide (j.cps.toList<i.cps.toList))) H) QZ:=λx y z f H v u Q e s c d k=>by
 unfold QZ at e;split at e
 .rename_i a b;cases e;unfold b6 at c d;exact⟨a,b,c,d,k _ λ_ _=>wJ _⟩
 .cases e
def yO:D->D->Option D
 |.I,.I=>Z (.O γ)
 |_,.I=>Z (.O δ)
 |_,_=>J
def v5:D->D->Option D
 |.I,.I=>Z (.O δ)
 |_,.I=>Z (.O γ)
 |_,_=>J
def NQ{d:D}{v:V}(h:b6 G H d v):decide (v=.I)=(match d with|.I=>γ|_=>δ):=by
 cases d<;>unfold b6 at h
 .subst h;rfl
 .subst h;rfl
 .subst h;rfl
 .subst h;rfl
 .obtain⟨a,b,rfl,_⟩:=h;rfl
 .obtain⟨a,b,rfl,_⟩:=h;rfl
 .obtain⟨a,b,rfl,_⟩:=h;rfl
 .obtain⟨a,c,b,rfl,_⟩:=h;rfl
 .obtain⟨a,e,b,rfl,_⟩:=h;rfl
 .obtain⟨a,b,rfl,_⟩:=h;rfl
def XH:ke G (λx y H Q=>y=.I/\Q (.O (decide (x=.I))) H) yO:=λx y z d H v u Q e s c a k=>by
 have b:=NQ c;cases y<;>first|(cases x<;>cases e)|skip
 all_goals (unfold b6 at a;refine⟨a,?_⟩;rw[b];exact k _ λ_ _=>wJ _)
def UR:ke G (λx y H Q=>y=.I/\Q (.O (!decide (x=.I))) H) v5:=λx y z d H v u Q e s c a k=>by
 have b:=NQ c;cases y<;>first|(cases x<;>cases e)|skip
 all_goals (unfold b6 at a;refine⟨a,?_⟩;rw[b];exact k _ λ_ _=>wJ _)
def abY:D->D->Option D
 |.O a,.O b=>Z (.O (a != b))
 |_,_=>J
mutual
def tp:D->Option L3.Dq
 |.I=>Z .I
 |.O b=>Z (.O b)
 |.int i=>Z (.int i)
 |.str x=>Z (.str x)
 |.c3 a=>match A4 a with
  |some l=>Z (.c3 l)
  |none=>J
 |.b3 a=>match A4 a with
  |some l=>Z (.b3 l)
  |none=>J
 |.R _=>J
 |.obj _ _ _=>J
 |.Q _ _=>J
 |.U _ _=>J
def A4:bh->Option (List L3.Dq)
 |[]=>Z []
 |d::a=>match tp d with
  |some x=>match A4 a with
   |some l=>Z (x::l)
   |none=>J
  |none=>J
end
mutual
theorem Gu:∀(d:D) (v:V) (x:L3.Dq),b6 G H d v->tp d=Z x->L3.b6 G.K H x v
 |.I,v,x,h,e=>by unfold tp at e;cases e;unfold b6 at h;unfold L3.b6;exact h
 |.O b,v,x,h,e=>by unfold tp at e;cases e;unfold b6 at h;unfold L3.b6;exact h
 |.int b,v,x,h,e=>by unfold tp at e;cases e;unfold b6 at h;unfold L3.b6;exact h
 |.str b,v,x,h,e=>by unfold tp at e;cases e;unfold b6 at h;unfold L3.b6;exact h
 |.c3 f,v,x,h,e=>by
  unfold tp at e;cases c:A4 f with
  |none=>simp only[c]at e;cases e
  |some l=>simp only[c]at e;cases e;unfold b6 at h;obtain⟨a,i,rfl,j,m⟩:=h;unfold L3.b6;exact⟨a,i,O,j,D4 f i l m c⟩
 |.b3 f,v,x,h,e=>by
  unfold tp at e;cases c:A4 f with
  |none=>simp only[c]at e;cases e
  |some l=>simp only[c]at e;cases e;unfold b6 at h;obtain⟨a,i,rfl,j,m⟩:=h;unfold L3.b6;exact⟨a,i,O,f3.of j,D4 f i l m c⟩
 |.R _,v,x,h,e=>by unfold tp at e;cases e
 |.obj _ _ _,v,x,h,e=>by unfold tp at e;cases e
 |.Q _ _,v,x,h,e=>by unfold tp at e;cases e
 |.U _ _,v,x,h,e=>by unfold tp at e;cases e
theorem D4:∀(a:bh) (b:bC) (l:List L3.Dq),b1 G H a b->A4 a=Z l->L3.b1 G.K H l b
 |[],b,l,h,e=>by unfold A4 at e;cases e;unfold b1 at h;unfold L3.b1;exact h
 |d::a,b,l,h,e=>by
  unfold A4 at e;cases c:tp d with
  |none=>simp only[c]at e;cases e
  |some x=>
   simp only[c]at e;cases f:A4 a with
   |none=>simp only[f]at e;cases e
   |some m=>simp only[f]at e;cases e;unfold b1 at h;obtain⟨v,r,rfl,i,j⟩:=h;unfold L3.b1;exact⟨v,r,O,Gu d v x i c,D4 a r m j f⟩
end
def Kk(neg:Bool):D->D->Option D:=λx y=>match wK x&&wK y&&Qh (vD x) (vD y)with
 |true=>Z (.O (if neg then !decide (vD x=vD y)else decide (vD x=vD y)))
 |false=>J
def Q0(neg:Bool):D->D->Option D:=λx y=>match tp x,tp y with
 |some a,Z b=>if QF a b&&decide (kb a<=20)&&decide (kb b<=20)then Z (.O (if neg then !k? a b else k? a b))else J
 |_,_=>J
def eo(neg:Bool):D->D->Option D:=λx y=>match Kk neg x y with
 |some z=>Z z
 |none=>Q0 neg x y
def XI:ke G rEq (Kk δ):=λx y z d H v u Q e s b c k=>by
 unfold Kk at e;cases a:wK x&&wK y&&Qh (vD x) (vD y)with
 |false=>simp only[a]at e;cases e
 |true=>simp only[a]at e;cases e;simp only[aX]at a;rw[yz b a.1.1,yz c a.1.2];exact⟨a.2,k _ λ_ _=>wJ _⟩
def XJ:ke G rNe (Kk γ):=λx y z d H v u Q e s b c k=>by
 unfold Kk at e;cases a:wK x&&wK y&&Qh (vD x) (vD y)with
 |false=>simp only[a]at e;cases e
 |true=>simp only[a]at e;cases e;simp only[aX]at a;rw[yz b a.1.1,yz c a.1.2];exact⟨a.2,k _ λ_ _=>wJ _⟩
def Q1{neg:Bool}:ke G (MB G.K neg) (Q0 neg):=λx y z j H v u Q e s h i k=>by
 unfold Q0 at e;cases c:tp x with
 |none=>simp only[c]at e;cases e
 |some a=>
  cases f:tp y with
  |none=>simp only[c,f]at e;cases e
  |some b=>
   simp only[c,f]at e;split at e
   .rename_i d;cases e;simp only[aX,bQ]at d;exact⟨a,b,Gu x v a (b6.mono s _ _ h) c,Gu y u b (b6.mono s _ _ i) f,d.1.1,d.1.2,d.2,k _ λ_ _=>wJ _⟩
   .cases e
def XM(a:X.A.units+64<cLine)(hK:X.K=G.K:=by rfl):i1 X (bA .Eq) (λx y H Q=>rEq x y H Q\/MB G.K δ x y H Q):=by rw[<-hK];exact i1.or aax (Xj a)
def XN(a:X.A.units+64<cLine)(hK:X.K=G.K:=by rfl):i1 X (bA .NotEq) (λx y H Q=>rNe x y H Q\/MB G.K γ x y H Q):=by rw[<-hK];exact i1.or aay (Xk a)
def aa4:ke G (λx y H Q=>rEq x y H Q\/MB G.K δ x y H Q) (eo δ):=ke.or XI Q1
def aa5:ke G (λx y H Q=>rNe x y H Q\/MB G.K γ x y H Q) (eo γ):=ke.or XJ Q1
def Q2:D->Option bh
 |.c3 a=>Z a
 |.b3 a=>Z a
 |.R a=>Z a
 |_=>J
def NR{d:D}{i:bh}{v:V}(h:b6 G H d v)(e:Q2 d=Z i):∃p b,v=.ref p/\(f3 G.K H p b\/fu G.K H p b)/\b1 G H i b:=by
 cases d with
 |c3 l=>cases e;unfold b6 at h;obtain⟨a,b,rfl,c,f⟩:=h;exact⟨a,b,O,.inr c,f⟩
 |b3 l=>cases e;unfold b6 at h;obtain⟨a,b,rfl,c,f⟩:=h;exact⟨a,b,O,.inl (f3.of c),f⟩
 |R l=>cases e;unfold b6 at h;obtain⟨a,b,rfl,c,f⟩:=h;exact⟨a,b,O,.inl c,f⟩
 |_=>cases e
def pk(neg:Bool):D->D->Option D:=λx y=>match Q2 y with
 |some a=>if wK x&&a.all wK then Z (.O (if neg then !inV (vD x) (a.map vD)else inV (vD x) (a.map vD)))else J
 |none=>J
def NS{K:au}{H b:Hp}{p:Addr}{a:bC}(s:ux H b)(h:f3 K H p a\/fu K H p a):f3 K b p a\/fu K b p a:=h.imp s.seq (fu.mono s)
def V4{neg:Bool}:ke G (rIn G.K neg) (pk neg):=λx y z j H v u Q e s d h k=>by
 unfold pk at e;cases b:Q2 y with
 |none=>simp only[b]at e;cases e
 |some l=>
  simp only[b]at e;split at e
  .rename_i a;cases e;simp only[aX]at a;obtain⟨p,i,rfl,f,c⟩:=NR h b;refine⟨p,i,O,NS s f,?_,?_,?_⟩
   .rw[yz d a.1];exact Lq a.1
   .rw[ET c a.2];exact Jn a.2
   .rw[yz d a.1,ET c a.2];exact k _ λ_ _=>wJ _
  .cases e
def XO(hK:X.K=G.K:=by rfl):i1 X (bA .In) (rIn G.K δ):=by rw[<-hK];exact OZ
def Pf(hK:X.K=G.K:=by rfl):i1 X (bA .NotIn) (rIn G.K γ):=by rw[<-hK];exact J7
def eh:D->D->Option D
 |.c3 a,.int i=>N? a i
 |.b3 a,.int i=>N? a i
 |.R a,.int i=>N? a i
 |.str x,.int i=>if x.length<=100000 then (N? x.cps.toList i).map λc=>.str ⟨#[c]⟩else J
 |_,_=>J
def aa6:ke G (rIx G.K) eh:=λx y z B H v u Q e s b r k=>by
 cases y with
 |int i=>
  unfold b6 at r;subst r;cases x with
  |c3 f=>unfold b6 at b;obtain⟨a,p,rfl,h,j⟩:=b;obtain⟨w,m,o⟩:=G5 j (show N? f i=Z z from e);exact .inr (.inl ⟨a,p,i,w,O,O,fu.mono s h,m,k _ λd l=>b6.mono l _ _ o⟩)
  |b3 f=>unfold b6 at b;obtain⟨a,p,rfl,h,j⟩:=b;obtain⟨w,m,o⟩:=G5 j (show N? f i=Z z from e);exact .inl ⟨a,p,i,w,O,O,s.seq (f3.of h),m,k _ λd l=>b6.mono l _ _ o⟩
  |R f=>unfold b6 at b;obtain⟨a,p,rfl,h,j⟩:=b;obtain⟨w,m,o⟩:=G5 j (show N? f i=Z z from e);exact .inl ⟨a,p,i,w,O,O,s.seq h,m,k _ λd l=>b6.mono l _ _ o⟩
  |str t=>
   unfold b6 at b;subst b;unfold eh at e;simp only at e;split at e
   .rename_i A;cases q:N? t.cps.toList i with
    |none=>rw[q]at e;cases e
    |some c=>rw[q]at e;cases e;exact .inr (.inr ⟨t,i,c,O,O,Lu A,q,k _ λ_ _=>A1 _⟩)
   .cases e
  |_=>cases e
 |_=>cases x<;>cases e
def ix_X(hK:X.K=G.K:=by rfl):IxR X (rIx G.K):=by rw[<-hK];exact W9
def Lv(G:Bg)(r:bC->Hp->VK->Prop)(g:D->Option D):Prop:=∀x z b H v (Q:VK),g x=Z z->ux b H->b6 G b x v->(∀w,(∀a,ux b a->b6 G a z w)->Q w H)->r [v] H Q
def aa7{e:Expr}{r:bC->Hp->VK->Prop}{g:D->Option D}{f:FE}(q:Lv G r g)(h:PE X e (ι r (v? G (ax f uI)))):PE X e (tF G (c1 g f)):=PE.c6 h λB H Q p=>by obtain⟨F,y,j,d,b,R,e,k⟩:=p;obtain⟨x,m,o⟩:=DZ e;refine⟨F,y,j,[x],b,R,by unfold ax;rw[m];rfl,λA l a s c rs=>?_⟩;unfold b1 at rs;obtain⟨v,z,rfl,u,i⟩:=rs;unfold b1 at i;subst i;exact q x d l a v Q o c.sub u λw t=>k _ _ _ s c (t _ (ux.refl _))
def vZ.or{f:ab}{r b:bC->Hp->VK->Prop}(h:vZ X f r)(j:vZ X f b):vZ X f (λx H Q=>r x H Q\/b x H Q):=λa s i H e d Q I c q=>q.elim (h a s i H e d Q I c) (j a s i H e d Q I c)
def xf:D->Option D
 |.c3 a=>Z (.int a.length)
 |.b3 a=>Z (.int a.length)
 |.R a=>Z (.int a.length)
 |.str x=>if x.length<=100000 then Z (.int x.length)else J
 |.Q b a=>Z (.int b.length)
 |_=>J
def Pg:vZ X (.builtin "len") (λc H Q=>∃a kvs,c=[V.ref a]/\Rd H a (.dK kvs)/\Q (.int kvs.length) H):=by intro b s l H c j Q I r h;obtain⟨a,kvs,rfl,e,q⟩:=h;obtain⟨u,rfl,f⟩:=m? r;cases f;exact aaN I e λt i d=>⟨.int kvs.length,H,d,⟨t,O⟩,q⟩
def V5(K:au):bC->Hp->VK->Prop:=λb H Q=>(∃p c,b=[.ref p]/\(f3 K H p c\/fu K H p c)/\Q (.int c.length) H)\/((∃z,b=[.str z]/\z.length<=aI/\Q (.int z.length) H)\/(∃a kvs,b=[V.ref a]/\Rd H a (.dK kvs)/\Q (.int kvs.length) H))
def Ph(hK:X.K=G.K:=by rfl):vZ X (.builtin "len") (V5 G.K):=by rw[<-hK];exact vZ.or J8 (vZ.or J9 Pg)
def XQ:Lv G (V5 G.K) xf:=λx z j H v Q e s b k=>by
 cases x with
 |c3 h=>cases e;unfold b6 at b;obtain⟨a,f,rfl,c,d⟩:=b;refine .inl ⟨a,f,O,.inr (fu.mono s c),?_⟩;rw[<-ug d];exact k _ λ_ _=>wD _
 |b3 h=>cases e;unfold b6 at b;obtain⟨a,f,rfl,c,d⟩:=b;refine .inl ⟨a,f,O,.inl (s.seq (f3.of c)),?_⟩;rw[<-ug d];exact k _ λ_ _=>wD _
 |R h=>cases e;unfold b6 at b;obtain⟨a,f,rfl,c,d⟩:=b;refine .inl ⟨a,f,O,.inl (s.seq c),?_⟩;rw[<-ug d];exact k _ λ_ _=>wD _
 |str t=>
  unfold xf at e;simp only at e;split at e
  .rename_i i;cases e;unfold b6 at b;exact .inr (.inl ⟨t,by rw[b],Lu i,k _ λ_ _=>wD _⟩)
  .cases e
 |Q m h=>cases e;unfold b6 at b;obtain⟨a,o,f,rfl,c,d,l⟩:=b;refine .inr (.inr ⟨a,_,O,.inr ⟨o,s _ _ c⟩,?_⟩);rw[iF,<- d,iK];exact k _ λ_ _=>wD _
 |_=>cases e
def IP:bh->Option (List Bool)
 |[]=>Z []
 |.O b::r=>(IP r).map (b::·)
 |_=>J
theorem G9:∀{d:bh} {a:bC} {bs:List Bool},b1 G H d a->IP d=Z bs->a=bs.map V.O
 |[],a,bs,h,e=>by cases e;unfold b1 at h;exact h
 |.O b::r,a,bs,h,e=>by
  unfold b1 at h;obtain⟨v,q,rfl,f,i⟩:=h;unfold IP at e;cases c:IP r with
  |none=>rw[c]at e;cases e
  |some l=>rw[c]at e;cases e;unfold b6 at f;subst f;rw[G9 i c];rfl
 |.I::r,a,bs,h,e=>by cases e
 |.int _::r,a,bs,h,e=>by cases e
 |.str _::r,a,bs,h,e=>by cases e
 |.c3 _::r,a,bs,h,e=>by cases e
 |.b3 _::r,a,bs,h,e=>by cases e
 |.R _::r,a,bs,h,e=>by cases e
 |.obj _ _ _::r,a,bs,h,e=>by cases e
 |.Q _ _::r,a,bs,h,e=>by cases e
 |.U _ _::r,a,bs,h,e=>by cases e
def yP:D->Option D
 |.b3 a=>(IP a).map λbs=>.O (bs.all id)
 |_=>J
def XR:Lv G (λf H Q=>∃(p:Addr) (bs:List Bool),f=[.ref p]/\f3 G.K H p (bs.map V.O)/\Q (.O (bs.all id)) H) yP:=λx z j H v Q e s d k=>by
 cases x with
 |b3 h=>
  unfold yP at e;simp only at e;cases b:IP h with
  |none=>rw[b]at e;cases e
  |some bs=>rw[b]at e;cases e;unfold b6 at d;obtain⟨a,f,rfl,c,i⟩:=d;rw[G9 i b]at c;exact⟨a,bs,O,s.seq (f3.of c),k _ λ_ _=>wJ _⟩
 |_=>cases e
def Pi(a:X.nr=γ)(hK:X.K=G.K:=by rfl):vZ X (.builtin "all") (λb H Q=>∃(p:Addr) (bs:List Bool),b=[.ref p]/\f3 G.K H p (bs.map V.O)/\Q (.O (bs.all id)) H):=by rw[<-hK];exact QD a
inductive Ty where
 |b (n:String)|c (k:Nat)
def Ty.val(G:Bg):Ty->ab
 |.b n=>.type n
 |.c k=>.ref (G.ca k)
def Ty.v(G:Bg):Ty->V
 |.b n=>.ty n
 |.c k=>.ref (G.ca k)
def tyD:D->Ty
 |.I=>.b "NoneType" |.O _=>.b "bool" |.int _=>.b "int" |.str _=>.b "str" |.c3 _=>.b "tuple" |.b3 _=>.b "list" |.R _=>.b "list" |.Q _ _=>.b "dict" |.U _ _=>.b "dict" |.obj c _ _=>.c c
structure Lw(K:au)(C:Addr):Prop where
 cl:ZX K C
 ha:cP K (.ref C) "__class__" = Z (Z (.builtin "object.__class__"))
 hn:qk K (.builtin "object.__class__") "__get__" = Z (Z (.builtin "getset_descriptor.__get__"))
 htk:W.takesIn K (.builtin "object.__class__")=Z γ
 hm:W.mroIn K C (.type "object")=Z γ
def Q3{pins:cB}{σ:St}{s:ae}{A:aM}{E:ab->ae->Prop}{Q:ab->ae->Prop}{c:ab}{b:Bool}{d:D}{v:V}{u:ab}(I:b? X pins σ H s)(hK:X.K=G.K)(hd:b6 G H d v)(i:df v u)(t:∀k ns ds,d=.obj k ns ds->Lw X.K (G.ca k))
  (e:du X.K ((tyD d).val G) c=Z b) (h:∀tk,Q (.bool b) { s with toks:=tk }):ag (model X.prog X.w) A (call (.builtin "isinstance") [u,c]) Q E s:=by
 cases d with
 |I=>unfold b6 at hd;subst hd;exact zf I i .I e h
 |O x=>unfold b6 at hd;subst hd;exact zf I i (.O x) e h
 |int x=>unfold b6 at hd;subst hd;exact zf I i (.int x) e h
 |str x=>unfold b6 at hd;subst hd;exact zf I i (.str x) e h
 |c3 ds=>unfold b6 at hd;obtain⟨a,xs,rfl,f,m⟩:=hd;cases i;rw[<-hK]at f;obtain⟨r,_,p,_⟩:=I.tuple f;obtain⟨o,j,l,_⟩:=p;exact cH lM I.n? ⟨o,j,l⟩ e (λz=>nomatch z) h
 |b3 ds=>unfold b6 at hd;obtain⟨a,xs,rfl,f,m⟩:=hd;exact zf I i (.b3 f) e h
 |R ds=>unfold b6 at hd;obtain⟨a,xs,rfl,f,m⟩:=hd;cases i;rw[<-hK]at f;obtain⟨r,_,p,_⟩:=I.list f;obtain⟨o,n,j,l,_⟩:=p;exact cH iN I.n? ⟨o,j,l⟩ e (λz=>nomatch z) h
 |Q ks ds=>unfold b6 at hd;obtain⟨a,o,xs,rfl,f,m,q⟩:=hd;cases i;obtain⟨y,_,_,vs,_,ob,es,ep,j,l,_⟩:=(show ee X.prog X.w H s.heap a (.mu o (.dK (ks.zip xs))) from I.e? a _ f);exact cH gV I.n? ⟨ob,j,l.1⟩ e (λz=>nomatch z) h
 |U ks ds=>unfold b6 at hd;obtain⟨a,xs,rfl,⟨o,qs,f,_,q,_⟩,_⟩:=hd;cases i;exact cH gV I.n? ⟨o,(show ee X.prog X.w H s.heap a (.ext (tz a o)) from I.e? a _ f).1,q.ex.1⟩ e (λz=>nomatch z) h
 |obj k ns ds=>have ci:=t k ns ds O;unfold b6 at hd;obtain⟨a,dx,xs,rfl,f,m,q⟩:=hd;exact zf I i (.l? f ci.cl ci.ha ci.hn ci.htk ci.hm) e h
def u7(t:Ty->Option Bool):D->Option D:=λd=>(t (tyD d)).map .O
def Jo(c:Ty){t:Ty->Option Bool}(m:∀y b,t y=Z b->du X.K (y.val G) (c.val G)=Z b)(l:∀k b,t (.c k)=Z b->Lw X.K (G.ca k))(hK:X.K=G.K:=by rfl):
  vZ X (.builtin "isinstance") (λi H Q=>∃d x b,i=[x,c.v G]/\b6 G H d x/\t (tyD d)=Z b/\Q (.O b) H):=by
 intro f s E H i C Q I r h;obtain⟨d,x,b,rfl,hd,e,q⟩:=h;obtain⟨u,p,rfl,o,a⟩:=vals2 r;have j:p=c.val G:=by cases c<;>exact a
 subst j;exact Q3 I hK hd o (λk A w z=>by subst z;exact l k b e) (m _ _ e) λB=>⟨.O b,H,I.x? _,O,q⟩
def NT{e:Expr}{c:Ty}{t:Ty->Option Bool}{f:FE}(h:PE X e (ι (λu H Q=>∃d x b,u=[x,c.v G]/\b6 G H d x/\t (tyD d)=Z b/\Q (.O b) H) (CS (tF G f) (CS (tC (c.v G)) GQ)))):PE X e (tF G (c1 (u7 t) f)):=PE.c6 h λz H Q q=>by
 obtain⟨F,w,m,d,j,R,e,k⟩:=q;obtain⟨x,p,a⟩:=DZ e;unfold u7 at a;cases i:t (tyD x)with
 |none=>rw[i]at a;cases a
 |some b=>rw[i]at a;cases a;exact⟨F,w,m,x,j,R,p,λv y o s l r=>⟨x,v,b,O,b6.mono l.sub _ _ r,i,k _ _ _ s l (wJ b)⟩⟩
def xT(f g:FE):FA:=λe=>match f e with
 |some (.b3 c,a)=>match g a with
  |some (.b3 d,b)=>if c.length+d.length<=1000 then Z (c++d,b)else J
  |_=>J
 |_=>J
def US{a b:Expr}{f g:FE}{pos:Pos}(N:PE X a (tF G f))(P:PE X b (tF G g)):PE X (.BinOp a .Add b pos) (F? G (xT f g)):=PE.c6 (Qg Xb N P) λσ H Q S=>by
 obtain⟨F,U,w,d,W,R,e,k⟩:=S;unfold xT at e;split at e
 .rename_i xs c C;split at e
  .rename_i ys Y E;split at e
   .rename_i T;cases e;refine⟨F,U,w,_,c,R,C,λv x y s A r=>⟨F,c,x,_,_,A,E,λu H2 z t R2 q=>?_⟩⟩;have o:=b6.mono t _ _ r;unfold b6 at o q;obtain⟨a1,i,rfl,I,l⟩:=o;obtain⟨B,j,rfl,M,m⟩:=q;refine⟨a1,B,i,j,O,O,R2.sub _ _ I,R2.sub _ _ M,by rw[<-ug l,<- ug m];exact xw T,λp h=>?_⟩;exact k p _ _ _ (s.t t) (R2.j0 h _) uh (R2.fx h) (R2.g? h) (R2.apart h) (v3 l m)
   .cases e
  .cases e
 .cases e
def zt(f:FE):FA:=λc=>match f c with
 |some (d,a)=>match Q2 d with
  |some b=>Z (b,a)
  |none=>J
 |none=>J
def Q4{e:Expr}{f:FE}(h:PE X e (ι (λm H Q=>∃p c,m=[.ref p]/\(f3 G.K H p c\/fu G.K H p c)/\∀l,H l=J->Q (.ref l) (en H l (.b3 c))) (v? G (ax f uI)))):PE X e (F? G (zt f)):=PE.c6 h λM H Q y=>by
 obtain⟨F,o,r,E,A,R,e,k⟩:=y;unfold zt at e;rcases uK (f:=f) (ρ:=o)with i|⟨d,B,i⟩<;>simp only[i]at e
 .cases e
 .cases j:Q2 d with
  |none=>simp only[j]at e;cases e
  |some u=>simp only[j]at e;cases e;refine⟨F,o,r,[d],_,R,by unfold ax;rw[i];rfl,λc C t s a rs=>?_⟩;unfold b1 at rs;obtain⟨v,I,rfl,z,q⟩:=rs;unfold b1 at q;subst q;obtain⟨p,m,rfl,w,x⟩:=NR z j;exact⟨p,m,O,NS a.sub w,λl b=>k l _ _ _ s (a.j0 b _) uh (a.fx b) (a.g? b) (a.apart b) x⟩
def MH(hK:X.K=G.K:=by rfl):vZ X (.type "list") (λb H Q=>∃p a,b=[.ref p]/\(f3 G.K H p a\/fu G.K H p a)/\∀l,H l=J->Q (.ref l) (en H l (.b3 a))):=by rw[<-hK];exact Ka
def xi(f:FE):FE:=λc=>match f c with
 |some (.b3 b,a)=>Z (.c3 b,a)
 |some (.c3 b,a)=>Z (.c3 b,a)
 |_=>J
def Q5{e:Expr}{f:FE}(h:PE X e (ι (λr H Q=>∃p d,r=[.ref p]/\((f3 G.K H p d/\∀l,H l=J->Q (.ref l) (en H l (.c3 d)))\/(fu G.K H p d/\Q (.ref p) H))) (v? G (ax f uI)))):PE X e (tF G (xi f)):=PE.c6 h λI H Q A=>by
 obtain⟨F,y,w,E,C,R,e,k⟩:=A;unfold xi at e;split at e
 .rename_i r u j;cases e;refine⟨F,y,w,[_],_,R,by unfold ax;rw[j];rfl,λd z i s a rs=>?_⟩;unfold b1 at rs;obtain⟨v,B,rfl,b,c⟩:=rs;unfold b1 at c;subst c;unfold b6 at b;obtain⟨p,t,rfl,m,x⟩:=b;refine⟨p,t,O,.inl ⟨f3.of (a.sub _ _ m),λl o=>?_⟩⟩;exact k _ _ _ (s.t (uy (a.fx o) _)) (a.I' o _) (DY (fu.of uh) (b1.mono (uy (a.fx o) _) _ _ x))
 .rename_i r u j;cases e;refine⟨F,y,w,[_],_,R,by unfold ax;rw[j];rfl,λd z i s a rs=>?_⟩;unfold b1 at rs;obtain⟨v,B,rfl,b,c⟩:=rs;unfold b1 at c;subst c;have q:=b;unfold b6 at b;obtain⟨p,t,rfl,m,x⟩:=b;exact⟨p,t,O,.inr ⟨fu.mono a.sub m,k _ _ _ s a q⟩⟩
 .cases e
def Pj(hK:X.K=G.K:=by rfl):vZ X (.type "tuple") (λb H Q=>∃p a,b=[.ref p]/\((f3 G.K H p a/\∀l,H l=J->Q (.ref l) (en H l (.c3 a)))\/(fu G.K H p a/\Q (.ref p) H))):=by rw[<-hK];exact IH
def oz(xs:bh)(lo a:Option Int):bh:=(xs.drop (HT.y? xs.length 0 lo)).take (HT.y? xs.length xs.length a - HT.y? xs.length 0 lo)
def Lx{a:Hp}{b:bh}{d:bC}{lo c:Option Int}(r:b1 G a b d):b1 G a (oz b lo c) (OX d lo c):=by unfold oz OX;rw[<-ug r];exact Jk _ (Jj _ r)
def cSl(f:FE)(lo c:Option Int):FA:=λd=>match f d with
 |some (.b3 b,a)=>Z (oz b lo c,a)
 |some (.R b,a)=>Z (oz b lo c,a)
 |_=>J
def tO(o:Option Int):TO:=λ_ H Q=>Q o H
def Pk{e:Expr}{f:FE}{lo o:Option Int}(h:PE X e (tSl (OY G.K) (tF G f) (tO lo) (tO o))):PE X e (F? G (cSl f lo o)):=PE.c6 h λC H Q A=>by
 obtain⟨F,y,t,z,w,R,e,k⟩:=A;have rf:∀{a:Addr} {j:bC} {i:bh} {d b:Hp},ux t d->c5 G F C w d b->f3 G.K d a j->b1 G d i j->z=oz i lo o->OY G.K (.ref a) lo o b Q:=λ{a j i d b} s c l m e=>by subst e;exact⟨a,j,O,c.sub.seq l,λp q=>k p _ _ _ s (c.j0 q _) uh (c.fx q) (c.g? q) (c.apart q) (Lx m)⟩
 unfold cSl at e;split at e
 .rename_i j x u;cases e;refine⟨F,y,t,_,_,R,u,λv d b s c r=>?_⟩;unfold b6 at r;obtain⟨a,B,rfl,l,m⟩:=r;exact rf s c (f3.of l) m O
 .rename_i j x u;cases e;refine⟨F,y,t,_,_,R,u,λv d b s c r=>?_⟩;unfold b6 at r;obtain⟨a,B,rfl,l,m⟩:=r;exact rf s c l m O
 .cases e
def Q6{n:Int}{j pos}:PO X (Z (.Constant (.int n) j pos)) (tO (Z n)):=λa s b H Q I h=>NB P7 a s b H Q I ⟨n,O,h⟩
def sl_X(hK:X.K=G.K:=by rfl):SlR X (OY G.K):=by rw[<-hK];exact Ud
end
def Sl.bor:Sl->Sl
 |.un=>.un
 |.E d=>.E d
 |.ls a=>.E (.b3 a)
 |.pm a=>.E (.b3 a)
 |.dk _ _=>.un
 |.ob c b a=>.E (.obj c b a)
section
variable{X:Cx}{G:Bg}
theorem c5.bor(R:c5 G F σ ρ H0 H):c5 G ⟨H,H,[]⟩ σ (ρ.map Sl.bor) H H where
 sub:=ux.refl _
 g0:=ux.refl _
 keep:=λb o e _=>e
 fr:=λb o e=>.inl e
 am:=λa h=>by cases h
 len:=by rw[aq];exact R.len
 sl:=λi s e=>by
  rw[bD]at e;cases m:ρ[i]? with
  |none=>rw[m]at e;cases e
  |some t=>
   rw[m]at e;cases e;have ok:=R.sl i t m;cases t with
   |un=>trivial
   |E d=>obtain⟨v,f,l⟩:=ok;exact⟨v,f,b6.mono R.sub _ _ l⟩
   |ls ds=>obtain⟨a,xs,f,l,q,r,p⟩:=ok;exact⟨_,f,CA l (b1.mono R.sub _ _ p)⟩
   |pm ds=>obtain⟨a,xs,f,l,q,r,p⟩:=ok;exact⟨_,f,CA l (b1.mono R.sub _ _ p)⟩
   |dk ks ds=>trivial
   |ob c ns ds=>obtain⟨a,dx,xs,f,l,q,r,p,u⟩:=ok;exact⟨_,f,by unfold b6;exact⟨a,dx,xs,O,l,p,b1.mono R.sub _ _ u⟩⟩
 ap:=λi j s t a _ e _ so=>by
  rw[bD]at e;cases m:ρ[i]? with
  |none=>rw[m]at e;cases e
  |some t=>rw[m]at e;cases e;cases t<;>cases so
def c5.unbor(R:c5 G F h ρ d H)(c:c5 G ⟨H,H,[]⟩ i f j a):c5 G F h ρ d a:=
 R.gi (λb o e=>c.keep b o e (by simp)) (ux.refl _) (λb o e=>c.keep b o (R.sub _ _ e) (by simp)) λb o e=>.inl e
def MI(f:FE):FE:=λa=>match f (a.map Sl.bor)with
 |some (d,_)=>if wK d=γ then Z (d,a)else J
 |none=>J
def He(f:FT):FT:=λa=>match f (a.map Sl.bor)with
 |some (d,_)=>Z (d,a)
 |none=>J
def XS(h:PE X e (tF G f)):PE X e (tF G (MI f)):=PE.c6 h λt H Q m=>by
 obtain⟨F,i,p,d,o,R,e,k⟩:=m;unfold MI at e;rcases uK (f:=f) (ρ:=i.map Sl.bor)with a|⟨x,b,a⟩<;>simp only[a]at e
 .cases e
 .split at e
  .rename_i c;cases e;refine⟨_,_,H,d,b,R.bor,a,λv q j s l r=>?_⟩;rw[yz r c];exact k _ _ _ (ux.refl _) (R.unbor l) (D3 c _)
  .cases e
def UT(h:PT X e (n7 G f)):PT X e (n7 G (He f)):=PT.c6 h λq H Q l=>by
 obtain⟨F,c,o,d,m,R,e,k⟩:=l;unfold He at e;rcases uK (f:=f) (ρ:=c.map Sl.bor)with a|⟨x,b,a⟩<;>simp only[a]at e
 .cases e
 .cases e;exact⟨_,_,H,d,b,R.bor,a,λp i s j=>k _ _ (ux.refl _) (R.unbor j)⟩
def xy(g h:D->D->Option D)(d e f:FE):FE:=λi=>match d i with
 |some (x,b)=>match e b with
  |some (y,a)=>match g x y with
   |some (.O γ)=>match f a with
    |some (z,c)=>match h y z with
     |some w=>Z (w,c)
     |none=>J
    |none=>J
   |some (.O δ)=>Z (.O δ,a)
   |_=>J
  |none=>J
 |none=>J
def Ly(ho:ke G r g)(I:ke G r' Y):∀N H Q,tF G (xy g Y T U W) N H Q->Mp r r' (tF G T) (tF G U) (tF G W) N H Q:=λN H Q hh=>by
 obtain⟨F,m,H0,d,ρ',R,e,k⟩:=hh;unfold xy at e;rcases uK (f:=T) (ρ:=m)with p|⟨x,b,p⟩<;>simp only[p]at e
 .cases e
 rcases uK (f:=U) (ρ:=b)with A|⟨y,c,A⟩<;>simp only[A]at e
 .cases e
 refine⟨F,m,H0,x,b,R,p,λv H1 H1' s1 R1 r1=>⟨F,b,H1,y,c,R1,A,λu h i o R2 M=>?_⟩⟩;split at e
 .rename_i B;refine ho x y _ h i v u _ B R2.sub (b6.mono o _ _ r1) M λw l=>?_;have a:=l h (ux.refl _);unfold b6 at a;refine⟨γ,a,Kg ?_⟩;rcases uK (f:=W) (ρ:=c)with C|⟨z,ρ3,C⟩<;>simp only[C]at e
  .cases e
  cases E:Y y z with
  |none=>simp only[E]at e;cases e
  |some q=>simp only[E]at e;cases e;refine⟨F,c,h,z,_,R2,C,λt P j s3 S r3=>?_⟩;exact I y z _ P j u t Q E S.sub (b6.mono s3 _ _ M) r3 λw l=>k w P j (s1.t (o.t s3)) S (l _ (ux.refl _))
 .rename_i B;cases e;refine ho x y _ h i v u _ B R2.sub (b6.mono o _ _ r1) M λw l=>?_;have a:=l h (ux.refl _);unfold b6 at a;exact⟨δ,a,Ke (k _ _ _ (s1.t o) R2 (wJ δ))⟩
 .cases e
def Q7(w:i1 X (bA h) r)(f:i1 X (bA d) x)(u:ke G r g)(e:ke G x m)(o:PE X a (tF G i))(p:PE X b (tF G j))(q:PE X c (tF G l))
  (t:lastMarks [h,d] [b,c]=δ:=by with_unfolding_all rfl):PE X (.Compare a [h,d] [b,c] pos) (tF G (xy g m i j l)):=PE.c6 (Qk w f o p q t) (Ly u e)
def Pl(C:i1 X (bA l) r)(i:i1 X (bA f) E)(B:ke G r g)(h:ke G E u)(w:PE X a (tF G p))(x:PE X b (tF G q))(y:PE X c (tF G t))
  (A:lastMarks [l,f] [b,c]=δ:=by with_unfolding_all rfl):PT X (.Compare a [l,f] [b,c] pos) (n7 G (cT (xy g u p q t))):=PT.c6 (Ql C i w x y A) λm H Q z=>by
 obtain⟨F,I,o,d,j,R,e,k⟩:=NH m H Q z;exact Ly B h m H _ ⟨F,I,o,d,j,R,e,k⟩
end
def Fm(P:aF)(w:ay)(K:au)(b:Str->Option ab)(b4:Heap)(k:Nat)(x:Str)(c:aH)(d:Sp):Prop:=
 ∃(f:Addr) (a:bU),b x=Z (.ref f)/\d8 K (.ref f)=γ/\ki K a c []/\yb P w K b b4 K? k f a c d
def Kl(G:Bg)(P:aF)(w:ay)(d:Str->Option ab)(b4:Heap)(k:Nat)(x:Str)(c:Nat)(e:aH)(dvs:bC)(g:bh->Option (aH×bh)):Prop:=
 ∃(f:Addr) (b:bU) (a:List ab),Mk G.K (G.ca c) f/\d x=Z (.ref (G.ca c))/\ki G.K b e a/\c9 dvs a/\yb P w G.K d b4 K? k f b e (spI G c g)
def A5(G:Bg)(P:aF)(w:ay)(d:Str->Option ab)(b4:Heap)(k:Nat)(m:Str)(c:Nat)(h:bh->Option D):Prop:=
 ∃(f:Addr) (a:bU) (b:aH),ZX G.K (G.ca c)/\Meth G.K (G.ca c) m f/\ki G.K a b []/\yb P w G.K d b4 K? k f a b (fb G h)
section
variable{X:Cx}{G:Bg}{k:Nat}{x m:Str}{p pos apos:Pos}{e o:Expr}{es:List Expr}{a:FA}{ps:aH}
def Fn{c:Type}(g:bh->c):(λb=>g (b++[]))=g:=funext λb=>by rw[bR]
def XT(D:Fm X.prog X.w X.K X.mg X.b4 k x ps (fb G g))(t:wb k X.A)(j:PA X (e::es) (v? G a))(r:Gl X x:=by rfl)(b:(x==("__debug__" : Str))=δ:=by decide)(l:aC (e::es) X.b5=(δ,eval e X.b5)::aC es X.b5:=by rfl)(hpl:(bI pos (aC es X.b5)).any (·.1)=δ:=by rfl):
  PE X (.Call (.Name x p) (e::es) [] pos) (tF G (tY g a)):=by
 obtain⟨f,u,c,d,h,i⟩:=D;have q:=UI (dvs:=[]) (dds:=[]) (λ_=>uP) (NA (p:=p) (pos:=pos) i t r c d h .nil Lb j b l hpl);rw[Fn]at q;exact q
def UU(D:Fm X.prog X.w X.K X.mg X.b4 k x ps (tX G g))(t:wb k X.A)(j:PA X (e::es) (v? G a))(r:Gl X x:=by rfl)(b:(x==("__debug__" : Str))=δ:=by decide)(l:aC (e::es) X.b5=(δ,eval e X.b5)::aC es X.b5:=by rfl)(hpl:(bI pos (aC es X.b5)).any (·.1)=δ:=by rfl):
  PE X (.Call (.Name x p) (e::es) [] pos) (F? G (vb g a)):=by
 obtain⟨f,u,c,d,h,i⟩:=D;have q:=QR (dvs:=[]) (dds:=[]) (λ_=>uP) (NA (p:=p) (pos:=pos) i t r c d h .nil Lb j b l hpl);rw[Fn]at q;exact q
def Q8(D:Fm X.prog X.w X.K X.mg X.b4 k x ps (tX G g))(l:wb k X.A)(j:Gl X x:=by rfl)(b:(x==("__debug__" : Str))=δ:=by decide):PE X (.Call (.Name x p) [] [] pos) (F? G (vb g uI)):=by obtain⟨f,q,c,d,h,i⟩:=D;exact O9 (Qq i l j c d h .nil Lb b)
def UV(M:Kl G X.prog X.w X.mg X.b4 k x c ps dvs g)(hd:∀H,b1 G H dds dvs)(y:wb (k+1) X.A)(r:PA X (e::es) (v? G a))(hK:X.K=G.K:=by rfl)(u:Gl X x:=by rfl)(b:(x==("__debug__" : Str))=δ:=by decide)
  (t:aC (e::es) X.b5=(δ,eval e X.b5)::aC es X.b5:=by rfl) (hpl:(bI pos (aC es X.b5)).any (·.1)=δ:=by rfl):
  PE X (.Call (.Name x p) (e::es) [] pos) (tF G (uF c (λd=>g (d++dds)) a)):=by
 obtain⟨f,z,d,h,l,i,q,j⟩:=M;rw[<-hK]at h i j;exact UK hd (T5 (p:=p) (pos:=pos) h j y u l i q Lb r b t hpl)
def V6(M:∀c h,g c=Z h->A5 G X.prog X.w X.mg X.b4 k m c h)(q:wb k X.A)(hK:X.K=G.K):∀C b,MT G g C b->MOk X C m b [] E0:=λC b h=>by obtain⟨c,h,e,rfl,rfl⟩:=h;obtain⟨f,l,ps,d,i,q3,j⟩:=M c h e;rw[<-hK]at d i q3 j;exact⟨k,f,l,ps,[],d,i,j,q,q3,.nil,Lb⟩
def Pm(M:∀c h,g c=Z h->A5 G X.prog X.w X.mg X.b4 k m c h)(j:wb k X.A)(i:PE X o (tF G f))(d:PA X (e::es) (v? G a))(hK:X.K=G.K:=by rfl)
  (hst:aC (e::es) X.b5=(δ,eval e X.b5)::aC es X.b5:=by rfl) (hpl:(bI pos (aC es X.b5)).any (·.1)=δ:=by rfl)
  (l:eval (.Call (.Attribute o m apos) (e::es) [] pos) X.b5=(do
   let b<-eval o X.b5
   standAt apos.atName
   let (f,first)<-holding [b] (getMethod b m pl)
   callWith pos f first (bI pos (aC (e::es) X.b5)) (backToKw pos (d7 [] X.b5))):=by rfl):
  PE X (.Call (.Attribute o m apos) (e::es) [] pos) (tF G (uo g m f a)):=UJ (E:=E0) (QT (dvs:=[]) (MT G g) (V6 M j hK) i d hst hpl l)
def MJ(M:∀c h,g c=Z h->A5 G X.prog X.w X.mg X.b4 k m c h)(i:wb k X.A)(d:PE X o (tF G f))(hK:X.K=G.K:=by rfl)
  (j:eval (.Call (.Attribute o m apos) [] [] pos) X.b5=(do
   let b<-eval o X.b5
   standAt apos.atName
   let (f,first)<-holding [b] (getMethod b m pl)
   callWith pos f first (bI pos (aC [] X.b5)) (backToKw pos (d7 [] X.b5))):=by rfl):
  PE X (.Call (.Attribute o m apos) [] [] pos) (tF G (uo g m f uI)):=QU (E:=E0) (Pb (dvs:=[]) (MT G g) (V6 M i hK) d j)
end
section
variable{P:aF}{w:ay}{K:au}{mg:Str->Option ab}{b4:Heap}{x qual:Str}{st:Stmt}{f T:Addr}{fd:bU}{N ps:aH}{k:Nat}{G:Bg}
abbrev Hf(P:aF)(w:ay)(K:au)(mg:Str->Option ab)(b4:Heap)(N:aH)(qual:Str)(st:Stmt)(f:Addr)(cdv:ab)(A:aM)(c4:List Env)(s:ae)(H:Hp)(E:XK):Cx:=(K4 K? P w K mg b4 N qual (uG st) f cdv A c4 s H E).nox
theorem Q9(a:g=eg np n b)(c:ps.length=np)(hN:N.length=n)(F:Fun K x qual st f fd)(S:wU N ps (uG st))(body:∀(cdv:ab) (A:aM) (c4:List Env) (s:ae) (H:Hp) (E:XK),wb k (A.deeper (envOfC qual (uG st) s.heap.objs.size f cdv))->n9 (Hf P w K mg b4 N qual st f cdv A c4 s H E) (u0 st) (l0 G b)):
  yb P w K mg b4 K? (k+1) f fd ps (fb G g):=by
 subst a c hN;exact F.ok S (aaX UE) λcdv A c4 s H e Q E d h=>⟨_,body cdv A c4 s H E d,UC (by have:=bp dM S.pre;rw[cg]at this;omega) h⟩
theorem aa9(a:g=yr e n b)(c:ps.length=e)(hN:N.length=n)(F:Fun K x qual st f fd)(S:wU N ps (uG st))(body:∀(cdv:ab) (A:aM) (c4:List Env) (s:ae) (H:Hp) (E:XK),wb k (A.deeper (envOfC qual (uG st) s.heap.objs.size f cdv))->n9 (Hf P w K mg b4 N qual st f cdv A c4 s H E) (u0 st) (l0 G b)):
  yb P w K mg b4 K? (k+1) f fd ps (tX G g):=by
 subst a c hN;exact F.ok S (aaY UF) λcdv A c4 s H i Q E d h=>⟨_,body cdv A c4 s H E d,UD (by have:=bp dM S.pre;rw[cg]at this;omega) h⟩
def V7(d:∀a q,g a=Z q->a.length=i):∀b H Q E,spI G c g b H Q E->b.length=i+1:=λb H Q E h=>by obtain⟨p,l,t,j,a,o,m,rfl,_,_,_,r,e,_⟩:=h;rw[aS,<- ug r,d _ _ e]
theorem aba{ps:aH}(a:g=vo c i n b)(d:ps.length=i)(hN:N.length=n)(F:Fun K x qual st f fd)(S:wU N (p::ps) (uG st))(body:∀(cdv:ab) (A:aM) (c4:List Env) (s:ae) (H:Hp) (E:XK),wb k (A.deeper (envOfC qual (uG st) s.heap.objs.size f cdv))->n9 (Hf P w K mg b4 N qual st f cdv A c4 s H E) (u0 st) (l0 G b)):
  yb P w K mg b4 K? (k+1) f fd (p::ps) (spI G c g):=by
 subst a d hN;exact F.ok S (V7 λj q h=>(G3 h).1) λcdv A c4 s H l Q E e h=>⟨_,body cdv A c4 s H E e,NM (by have:=bp dM S.pre;rw[cg,aS]at this;omega) h⟩
theorem XU{ps:aH}(a:g=vo c i n b)(d:ps.length=i)(hN:N.length=n)(F:O7 K x qual st f fd T)(S:wU N (p::ps) (uG st))(body:∀(cdv:ab) (A:aM) (c4:List Env) (s:ae) (H:Hp) (E:XK),wb k (A.deeper (envOfC qual (uG st) s.heap.objs.size f cdv))->n9 (Hf P w K mg b4 N qual st f cdv A c4 s H E) (u0 st) (l0 G b)):
  yb P w K mg b4 K? (k+1) f fd (p::ps) (spI G c g):=by
 subst a d hN;exact F.ok S (V7 λj q h=>(G3 h).1) λcdv A c4 s H l Q E e h=>⟨_,body cdv A c4 s H E e,NM (by have:=bp dM S.pre;rw[cg,aS]at this;omega) h⟩
end
section
variable{X:Cx}{G:Bg}
def zS(G:Bg)(a:Str->Option ab)(x:Str)(d:D):Prop:=∃(v:V) (u:ab),a x=Z u/\df v u/\∀H,b6 G H d v
def Rb(h:zS G X.mg x d)(e:Gl X x:=by rfl)(hd:(x==("__debug__" : Str))=δ:=by decide):PE X (.Name x pos) (tF G (cC d)):=by obtain⟨v,u,a,b,c⟩:=h;exact Up (Gp e a b hd) c
def UW:FS:=λ_=>J
def vG(T:String):Ty->Option Bool
 |.b n=>if n="NoneType" then Z δ else if n="bool" then Z (T=="bool" ||T=="int")else if n="int" then Z (T=="int")else if n="str" then Z (T=="str")else if n="tuple" then Z (T=="tuple")else if n="list" then Z (T=="list")else if n="dict" then Z (T=="dict")else J
 |.c _=>J
def Re:∀k b,vG T (.c k)=Z b->Lw X.K (G.ca k):=λk b h=>by cases h
def Rf:∀y b,vG "list" y=Z b->du X.K (y.val G) (.type "list")=Z b:=λy b h=>by
 cases y with
 |c k=>cases h
 |b n=>
  unfold vG at h;simp only at h
  iterate 7 (split at h;· rename_i e;subst e;cases h;first|rfl|kernel_rfl)
  cases h
def UX:∀y b,vG "str" y=Z b->du X.K (y.val G) (.type "str")=Z b:=λy b h=>by
 cases y with
 |c k=>cases h
 |b n=>
  unfold vG at h;simp only at h
  iterate 7 (split at h;· rename_i e;subst e;cases h;first|rfl|kernel_rfl)
  cases h
end
end L4
namespace L3
open PySem PySem.Spec PyProof.Rows L2
def UY{X:Cx}{spos:Pos}{d4:List Nat}
  (S:X.nr=γ) (hN:X.N.Nodup) (hy:X.N[i]?=Z y) (hyl:Loc X.b5.scope y) (T:PI X p iter wi)
  (body:∀(q:List (Str×Addr)) (C:Addr) (fp:List Addr) (s:ae) (H:Hp),PG (vQ X N' scope q C fp s H) p g/\PIf (vQ X N' scope q C fp s H) ifs tt/\PE (vQ X N' scope q C fp s H) elt te)
  (hkind:scope.kind=.function:=by rfl) (hcell:(scope.names.all λy=>y.2 != .cell)=γ:=by rfl)
  (hloc:(scope.names.all λy=>y.2 != .local||scope.names.lookup y.1==Z .local)=γ:=by rfl)
  (hfree:(scope.names.all λy=>y.2 != .free||(X.b5.kindOf y.1==Z .cell||X.b5.kindOf y.1==Z .free))=γ:=by rfl)
  (d:N'.length=k+d4.length:=by rfl) (hcap:(N'.drop k).map Z=d4.map λj=>X.N[j]?:=by rfl)
  (hcf:((N'.drop k).all λx=>scope.names.lookup x==Z .free)=γ:=by rfl)
  (Y:∀x,iA iter X.b5 x=pure x:=by intro _;rfl)
  (hsw:dq (.ListComp elt [⟨p,iter,ifs,0⟩] scope pos) (Z (.Name y l)) spos.line X.b5=pure γ:=by rfl)
  (hfy:X.fn y=γ\/X.b5.scope.names.lookup y=Z .local:=by first|exact .inl O|exact .inr O|assumption):
  PS X (.Assign [.Name y l] (.ListComp elt [⟨p,iter,ifs,0⟩] scope pos) spos) (EK (Fl wi g tt te k d4) (zp i)):=by
 intro f s σ H D I h;rw[exec_Assign_Name_used _ _ _ _ hsw];refine af (pP (af ?_));show ag _ X.A (do let _<-comprehension (.ListComp elt [⟨p,iter,ifs,0⟩] scope pos) scope X.b5 _ (newList []) δ (eval iter X.b5) (Z (assign (.Name y l) X.b5))) _ _ s;refine af (b8 (Ji (P:=λ_ E=>SP X f D .next E) S T body hkind hcell hloc hfree d hcap hcf Y I h λa C m u F M U E? fpC qn=>?_) (λ_ E W=>ar (ar W)) λ_ _ e=>e);obtain⟨oC,esC,nC,gC,dC,rC⟩:=id U;have R:=E?.Z' (fp:=[C]) (λb c=>aW.1 c▸fpC) (λb c=>aW.1 c▸⟨oC,gC,λv z=>by rw[dC]at z;cases z⟩);show ag _ X.A (assign (.Name y l) X.b5 (.ref a)) _ _ F;refine ff (Nu (pos:=l) hN hy hyl hfy _ F σ M (.ref a) (.ref a) (λt G=>D.nx t G) R O qn) λ_ s6 zz=>?_;obtain⟨w,Q,B,q6⟩:=zz;obtain⟨p1,p2,_⟩:=B.pin (C,oC) (bE _ (bE _ (zq (by simp) gC)));exact⟨m,⟨oC,esC,nC,p1,dC,rC⟩,λh' r=>⟨w,Q,B.oo.j? (t':=s6.toks) (λb o c e=>(r.2 b c).t e) p2 fpC.2.1 fpC.2.2.2.1 fpC.2.2.2.2.1 fpC.2.2.2.2.2,q6⟩⟩
end L3
namespace L4
open PySem PySem.Spec PyProof.Rows L2 L3
section
variable{X:Cx}{G:Bg}
def Hg{st:Stmt}(h:PS X st (EK d g))(w:∀b H Q,a b H Q->d b H Q):PS X st (EK a g):=PS.c6 h λE b H c=>w _ _ _ c
def Pn{st:Stmt}{d4:List Nat}(c:d4.Nodup)(h:PS X st (EK (Fl (π G s) (tFG G k g) (n7 G b) (tF G a) k d4) (zp i))):PS X st (l0 G (xG i (ui k d4 s g b a))):=Ll (Hg h (Kj c))
def Rg{st:Stmt}{d4:List Nat}(c:d4.Nodup)(h:PS X st (EK (Fl (π G s) (tFG G k g) (n7 G b) (tF G a) k d4) (zp i))):PS X st (l0 G (uD i (cL (ui k d4 s g b a)))):=NK (Hg (Hg h (Kj c)) tN_F)
end
section
variable{f g h:FS}{c:FT}{e e' e2:FE}{a a':FA}{ρ ρ' ρ1 ρ2 ρ3:aP}{d x y z:D}{o:rh}{ds xs ys:bh}
def tZ(h:f ρ=Z (.nx ρ')):bt f g ρ=g ρ':=by unfold bt;rw[h]
def uu(h:f ρ=Z (.rt d ρ')):bt f g ρ=Z (.rt d ρ'):=by unfold bt;rw[h]
def uE(h:c ρ=Z (γ,ρ')):fc c f g ρ=f ρ':=by unfold fc;rw[h]
def uN(h:c ρ=Z (δ,ρ')):fc c f g ρ=g ρ':=by unfold fc;rw[h]
def uq(h:e ρ=Z (d,ρ')):uD i e ρ=Z (.nx (ρ'.set i (.E d))):=by unfold uD;rw[h]
def NU(h:a ρ=Z (ds,ρ')):xG i a ρ=Z (.nx (ρ'.set i (.ls ds))):=by unfold xG;rw[h]
def uf(h:e ρ=Z (d,ρ')):ue e ρ=Z (.rt d ρ'):=by unfold ue;rw[h]
def xn(h:a ρ=Z (ds,ρ')):vK a ρ=Z (.rn ds ρ'):=by unfold vK;rw[h]
def ve(h:e ρ=Z (d,ρ')):uH e ρ=Z (.nx ρ'):=by unfold uH;rw[h]
def ua{g:D->D->Option D}(b:e ρ=Z (x,ρ1))(i:e' ρ1=Z (y,ρ2))(j:g x y=Z z):c2 g e e' ρ=Z (z,ρ2):=by unfold c2;rw[b];simp only[i,j]
def uQ{g:D->Option D}(b:e ρ=Z (x,ρ1))(i:g x=Z z):c1 g e ρ=Z (z,ρ1):=by unfold c1;rw[b];simp only[i]
def XW(b:e (ρ.map Sl.bor)=Z (d,ρ1))(i:wK d=γ):MI e ρ=Z (d,ρ):=by unfold MI;rw[b];simp only[i,if_true]
def u4(i:e ρ=Z (.O b,ρ1)):cT e ρ=Z (b,ρ1):=by unfold cT;rw[i]
def xp(i:c ρ=Z (b,ρ1)):vF c ρ=Z (!b,ρ1):=by unfold vF;rw[i]
def yQ(j:c ρ=Z (δ,ρ1))(l:i ρ1=Z (b,ρ2)):xg c i ρ=Z (b,ρ2):=by unfold xg;rw[j];exact l
def tV(b:e ρ=Z (d,ρ1))(i:a ρ1=Z (ds,ρ2)):ax e a ρ=Z (d::ds,ρ2):=by unfold ax;rw[b];simp only[i]
def tW{b:Type}{g:bh->Option b}{r:b}(i:a ρ=Z (ds,ρ1))(j:g ds=Z r):ES g a ρ=Z (r,ρ1):=by unfold ES;rw[i];simp only[j]
def vm(b:a ρ=Z (ds,ρ1)):cL a ρ=Z (.b3 ds,ρ1):=by unfold cL;rw[b]
def XX(b:a ρ=Z (ds,ρ1))(i:ds.length<=1000):uM a ρ=Z (ds,ρ1):=by unfold uM;rw[b];simp only[i,if_true]
def Hh(b:a ρ=Z (ds,ρ1))(i:ds.length<=1000):uO a ρ=Z (.c3 ds,ρ1):=by unfold uO;rw[b];simp only[i,if_true]
def xU(b:e ρ=Z (.b3 xs,ρ1))(i:e' ρ1=Z (.b3 ys,ρ2))(j:xs.length+ys.length<=1000):xT e e' ρ=Z (xs++ys,ρ2):=by unfold xT;rw[b];simp only[i,j,if_true]
def A6(b:xS ρ i=Z es0)(j:e ρ=Z (d,ρ1))(l:xS ρ1 i=Z es)(m:es.length<1000):yc i e ρ=Z (.I,putAt ρ1 i (es++[d])):=by unfold yc;rw[b];simp only[j,l,m,if_true]
def Rh(b:xS ρ i=Z es0)(j:a ρ=Z (ds,ρ1))(l:xS ρ1 i=Z es)(m:es.length+ds.length<=1000):G4 i a ρ=Z (.I,putAt ρ1 i (es++ds)):=by unfold G4;rw[b];simp only[j,l,m,if_true]
def vz{s:FA}{g:FG}(b:s ρ=Z (ds,ρ1)):xx s g f ρ=fh g f ds ρ1:=by unfold xx;rw[b]
def NV{k:Nat}{d4:List Nat}{s:FA}{g:FG}{i:FT}{b:FE}(j:s ρ=Z (ds,ρ1))(l:ds.length<=1000):ui k d4 s g i b ρ=BQ k d4 g i b ds ρ1:=by unfold ui;rw[j];simp only[l,if_true]
def yR(i:ds.length=j)(h:b (L4.M? n ds)=Z (.rn xs ρ)):yr j n b ds=Z xs:=by unfold yr;rw[aj i,h]
def uc(i:ds.length=j)(h:b (L4.M? n ds)=Z (.rt d ρ)):eg j n b ds=Z d:=by unfold eg;rw[aj i,h]
end
def AA(h:A3 a=γ\/A3 b=γ):yA (.int a) (.int b)=Z (.int (a * b)):=by unfold yA dI;simp only;rw[aj (by simpa using h)]
def uV(h:0<b):uJ (.int a) (.int b)=Z (.int (a % b)):=by unfold uJ dI;simp only;rw[aj (by simpa using h)]
def f?(h:0<b)(c:b<1073741824):vp (.int a) (.int b)=Z (.int (a / b)):=by unfold vp dI;simp only;rw[aj (by simp[h,c])]
def LA(h:0<=a)(b:a<2147483647):A3 a=γ:=by unfold A3;simp only[aX,bQ];omega
def AB:D->Option dt
 |.int i=>Z (.inl i)
 |.str x=>Z (.inr x)
 |_=>J
def vI:List dt->bh->dt->Option D
 |k::b,d::a,j=>if k=j then Z d else vI b a j
 |_,_,_=>J
def UZ(e:List dt)(b:bh)(k:dt)(d:D):bh:=gh (λc a=>if c=k then d else a) e b
def Gh(b:List dt)(k:dt):Bool:=b.any λa=>decide (a=k)
section
variable{X:Cx}{G:Bg}{H:Hp}
def A7(h:b6 G H d v)(e:AB d=Z k):v=kV k:=by
 cases d<;>first|cases e|skip
 all_goals (unfold b6 at h;exact h)
theorem BU:∀{ks:List dt} {ds:bh} {xs:bC} (j:dt),b1 G H ds xs->ks.length=xs.length->match vI ks ds j with
  |some d=>∃v,xP (ks.zip xs) j=Z v/\b6 G H d v
  |none=>xP (ks.zip xs) j=J
 |[],ds,xs,j,r,l=>by cases ds<;>rfl
 |k::ks,ds,[],j,r,l=>by cases l
 |k::ks,[],x::xs,j,r,l=>by unfold b1 at r;cases r
 |k::ks,d::ds,x::xs,j,r,l=>by
  unfold b1 at r;obtain⟨v,q,e,c,f⟩:=r;cases e;unfold vI;by_cases a:k=j
  .rw[aj a];exact⟨x,DW (p:=(k,x)) a,c⟩
  .rw[ai a];have h:=BU (ks:=ks) (ds:=ds) (xs:=xs) j f (by simpa using l);have b:xP ((k::ks).zip (x::xs)) j=xP (ks.zip xs) j:=DX (p:=(k,x)) a;rw[b];exact h
theorem Km:∀{a:List dt} {b:bC},a.length=b.length->((a.zip b).any λkv=>decide (kv.1=k))=Gh a k
 |[],b,_=>by cases b<;>rfl
 |c::a,[],l=>by cases l
 |c::a,x::b,l=>by unfold Gh;rw[fq,gb,gb,Km (by simpa using l)];rfl
theorem NW:∀{a:List dt} {b:bC},a.length=b.length->(a.zip b).map (λkv=>if kv.1=k then (kv.1,v)else kv)=a.zip (gh (λd x=>if d=k then v else x) a b)
 |[],b,_=>by cases b<;>rfl
 |d::a,[],l=>by cases l
 |d::a,x::b,l=>by
  rw[fq,aA,NW (by simpa using l),iw,fq];congr 1;by_cases c:d=k
  .rw[aj c,aj c]
  .rw[ai c,ai c]
theorem LB(hd:b6 G H d v):∀{c:List dt} {b:bh} {a:bC},b1 G H b a->c.length=a.length->b1 G H (UZ c b k d) (gh (λf x=>if f=k then v else x) c a)
 |[],b,a,r,l=>by unfold UZ;cases b<;>cases a<;>exact uP
 |f::c,b,[],r,l=>by cases l
 |f::c,[],x::a,r,l=>by unfold b1 at r;cases r
 |f::c,m::b,x::a,r,l=>by
  unfold b1 at r;obtain⟨w,q,e,i,j⟩:=r;cases e;unfold UZ;rw[iw,iw];refine uT ?_ (LB hd j (by simpa using l));by_cases h:f=k
  .rw[aj h,aj h];exact hd
  .rw[ai h,ai h];exact i
def _root_.L2.r?.kf(e:H a=Z (.mu o (.dK kvs))):r? H a (kV k) (xP kvs k):=.inl ⟨kvs,k,.inr ⟨o,e⟩,O,O⟩
def CU:D->D->Option D:=λx y=>match x,AB y with
 |.Q b a,Z k=>vI b a k
 |_,_=>J
def U0(hu:X.A.units+1<cLine)(U:PE X a (tF G f))(W:PE X b (tF G N))(hs:Qx b:=by exact λ_ _=>O):PE X (.Subscript a b pos) (tF G (c2 CU f N)):=PE.c6 (Ue hu U W hs) λσ H Q Y=>by
 obtain⟨F,ρ,t,d,o,R,e,k⟩:=Y;obtain⟨x,y,i,I,M,c⟩:=Gs e;refine⟨F,ρ,t,x,i,R,I,λv z B s1 E r1=>⟨F,i,z,y,o,E,M,λu C l r R2 r2=>?_⟩⟩;have h:=b6.mono r _ _ r1;cases x with
 |Q q ds=>
  unfold CU at c;cases m:AB y with
  |none=>simp only[m]at c;cases c
  |some j=>simp only[m]at c;unfold b6 at h;obtain⟨p,ob,xs,rfl,P,S,T⟩:=h;have lv:=BU (ks:=q) j T S;rw[c]at lv;obtain⟨w,w1,w2⟩:=lv;refine⟨p,w,O,?_,k w C l (s1.t r) R2 w2⟩;rw[A7 r2 m,<- w1];exact r?.kf (R2.sub _ _ P)
 |_=>unfold CU at c;cases c
def Bw:D->D->Option D:=λx y=>match x,AB y with
 |.Q b a,Z k=>Z ((vI b a k).getD .I)
 |_,_=>J
def Rj(hu:X.A.units+1<cLine)(ha:PE X a (tF G f))(hb:PE X b (tF G Y))(m:M1 X a "get" apos b cpos):PE X (.Call (.Attribute a "get" apos) [b] [] cpos) (tF G (c2 Bw f Y)):=PE.c6 (QA hu ha hb m) λσ H Q hh=>by
 obtain⟨F,ρ,N,d,t,R,e,k⟩:=hh;obtain⟨x,y,l,U,W,c⟩:=Gs e;cases x with
 |Q o T=>
  refine⟨F,ρ,N,_,l,R,U,λv P S M C r1=>?_⟩;have i:=r1;unfold b6 at i;obtain⟨p,ob,xs,rfl,I,h2,h3⟩:=i;refine⟨p,O,.inl ⟨_,.inr ⟨_,C.sub _ _ I⟩⟩,F,l,P,y,t,C,W,λu B h q R2 r2=>?_⟩;unfold Bw at c;cases r:AB y with
  |none=>simp only[r]at c;cases c
  |some j=>
   simp only[r]at c;cases c;have lv:=BU (ks:=o) j (b1.mono q _ _ h3) h2;refine⟨xP (o.zip xs) j,?_,?_⟩
   .rw[A7 r2 r];exact r?.kf (R2.sub _ _ (q _ _ I))
   .cases E:vI o T j with
    |none=>rw[E]at lv k;rw[lv];exact k _ B h (M.t q) R2 zR
    |some z=>rw[E]at lv k;obtain⟨w,w1,w2⟩:=lv;rw[w1];exact k _ B h (M.t q) R2 w2
 |_=>unfold Bw at c;cases c
def Hk(i:Nat):FS:=λa=>Z (.nx (a.set i (.dk [] [])))
def Ro{st:Stmt}(h:PS X st (EK Mz (zp i))):PS X st (l0 G (Hk i)):=PS.c6 h λE u H l=>by obtain⟨F,r,m,o,R,e,k,q⟩:=l;cases e;intro p b;have c:=R.j0 b (.dK []);refine k _ _ _ (ux.refl _) (c.set (s:=.dk [] []) ⟨p,[],O,uh,R.fx b,R.g? b,O,uP⟩ λ_ a d j t _ f to=>?_);cases d;exact R.apart b j t f to
def yd(i:Nat)(fk fv:FE):FS:=λf=>match fv f with
 |some (d,b)=>match b[i]? with
  |some (.dk _ _)=>match fk b with
   |some (y,c)=>match AB y with
    |some k=>match c[i]? with
     |some (.dk a e)=>if a.length<1000 then if e.length=a.length then Z (.nx (c.set i (if Gh a k=γ then .dk a (UZ a e k d)else .dk (a++[k]) (e++[d]))))else J else J
     |_=>J
    |none=>J
   |none=>J
  |_=>J
 |none=>J
def Rp{st:Stmt}(h:PS X st (V1 (CP i) (tF G S) (tF G T))):PS X st (l0 G (yd i S T)):=PS.c6 h λE σ H hh=>by
 obtain⟨F,q,Y,o,R,e,k,k2⟩:=hh;unfold yd at e;rcases uK (f:=T) (ρ:=q)with t|⟨d,c,t⟩<;>simp only[t]at e
 .cases e
 split at e
 .rename_i ks0 ds0 ei;rcases uK (f:=S) (ρ:=c)with w|⟨y,C,w⟩<;>simp only[w]at e
  .cases e
  cases z:AB y with
  |none=>simp only[z]at e;cases e
  |some j=>
   simp only[z]at e;split at e
   .rename_i A ds l;split at e
    .rename_i hl;split at e
     .rename_i hl2;cases e;refine⟨F,q,Y,d,c,R,t,λv H1 H1' s1 I r1=>?_⟩;obtain⟨m,xs0,a1,_⟩:=I.sl i _ ei;refine⟨_,yy a1,F,c,H1,y,C,I,w,λu H2 r W R2 r2=>?_⟩;obtain⟨a,B,M,b2,N,P,b,Q⟩:=R2.sl i _ l;rw[a1]at M;cases M;refine⟨m,en r m (.dK (l3 (A.zip B) j v)),O,?_,?_⟩
      .rw[A7 r2 z];exact Qv.k b2 (by rw[iF];exact js (Nat.min_le_left _ _) (Cy (by omega)))
      .have U:=b6.mono W _ _ r1;refine k _ _ _ (s1.t W) (R2.mut l O a1 (λH' hH=>?_) ?_)
       .by_cases p:Gh A j=γ
        .rw[aj p];refine⟨m,gh (λk' x=>if k'=j then v else x) A B,O,?_,N,P,by rw[kC,b,iK],LB U Q b⟩;rw[hH];unfold l3;rw[Km b,aj p,NW b]
        .rw[ai p];refine⟨m,B++[v],O,?_,N,P,by rw[aR,aR,b];rfl,v3 Q (uT U uP)⟩;rw[hH];unfold l3;rw[Km b,ai p,lg b];rfl
       .split<;>rfl
     .cases e
    .cases e
   .cases e
 .cases e
def Gi:D->Option D
 |.b3 a=>(IP a).map λbs=>.O (bs.any id)
 |_=>J
def Po(x:X.nr=γ)(hK:X.K=G.K:=by rfl):vZ X (.builtin "any") (λw H Q=>∃(p:Addr) (bs:List Bool),w=[.ref p]/\f3 G.K H p (bs.map V.O)/\Q (.O (bs.any id)) H):=by
 rw[<-hK];intro m s W H w U Q I r h;obtain⟨p,bs,rfl,C,q⟩:=h;obtain⟨u,rfl,j⟩:=m? r;cases j;obtain⟨a,t,pl,R⟩:=I.list C;have hlt:p<s.heap.objs.size:=by obtain⟨o,B,_⟩:=pl.isList;exact aL B
 have z:bs.length=a.length:=by have:=t.length;rw[aq]at this;exact this
 refine call_any_walk (fQ pl.isList ⟨s.heap.objs.size,_,_,_,_,_,λi=>(bs[i]?).getD δ,O,gW (show X.A.in1.handled=J from I.ok.hd x) _ p (aT hlt) a.toArray,⟨⟨_,bg _ O,O,O⟩,?_⟩,?_,λP F y=>?_⟩)
 .exact pl.isList.at λo e=>aJ _ e
 .intro i v S N M E hQ';have d:a[i]?=Z v:=by simpa using E
  have c:i<a.length:=(bX.1 d).1;have f:(bs.map V.O)[i]?=Z (.O (bs[i]'(by omega))):=by simp[show i<bs.length by omega]
  obtain⟨u,l,j⟩:=t.get f;rw[d]at l;cases l;cases j;refine dB ?_;have e:(bs[i]?).getD δ=bs[i]'(by omega):=by simp[show i<bs.length by omega]
  rw[<-e];exact hQ'
 .refine⟨.O (bs.any id),H,?_,?_,q⟩
  .exact I.f5 (t':=F) λb o e=>y b o (by simp;exact aT (aL e)) (aJ _ e)
  .show Value.bool _=Value.bool _;congr 1;rw[bw,<- z];rw[cX];simp only[dS,cw,id];constructor
   .rintro⟨i,c,h⟩;exact⟨bs[i],fz c,by simpa [c]using h⟩
   .rintro⟨b,f,h⟩;obtain⟨i,c,rfl⟩:=kA.1 f;exact⟨i,c,by simpa [c]using h⟩
def XY:Lv G (λf H Q=>∃(p:Addr) (bs:List Bool),f=[.ref p]/\f3 G.K H p (bs.map V.O)/\Q (.O (bs.any id)) H) Gi:=λx z j H v Q e s d k=>by
 cases x with
 |b3 h=>
  unfold Gi at e;simp only at e;cases b:IP h with
  |none=>rw[b]at e;cases e
  |some bs=>rw[b]at e;cases e;unfold b6 at d;obtain⟨a,f,rfl,c,i⟩:=d;rw[G9 i b]at c;exact⟨a,bs,O,s.seq (f3.of c),k _ λ_ _=>wJ _⟩
 |_=>cases e
def iS(f:FE):FA:=λb=>match f b with
 |some (.str x,a)=>Z (x.cps.toList.map λc=>D.str ⟨#[c]⟩,a)
 |_=>J
def U1(h:PI X N e (iStr (tF G f))):PI X N e (π G (iS f)):=PI.c6 h λσ H R E=>by
 obtain⟨F,P,p,Y,Q,R,e,k⟩:=E;unfold iS at e;split at e
 .rename_i x S B;cases e;refine⟨F,P,p,_,_,R,B,λv T q s A r=>?_⟩;unfold b6 at r;refine⟨x,r,k _ _ _ s A λi u w t M=>⟨λd j=>?_,λI=>?_⟩⟩
  .rw[bD]at j;cases m:x.cps.toList[i]? with
   |none=>rw[m]at j;cases j
   |some c=>
    rw[m]at j;cases j;have a:x.cps[i]?=Z c:=by simpa using m
    refine⟨(Array.getElem?_eq_some_iff.1 a).1,λz U y=>?_⟩;obtain⟨C,W,l,rfl⟩:=y;rw[a]at l;cases l;subst C;exact⟨u,ux.refl _,M,ux.refl _,λb o e=>.inl e,A1 _⟩
  .show i=x.cps.size;rw[I,aq];simp
 .cases e
def Fo(f g:FE):FE:=λe=>match f e with
 |some (.c3 (x::c),a)=>match g a with
  |some (.c3 d,b)=>if c.length+d.length<=900 then Z (.c3 (x::c++d),b)else J
  |_=>J
 |_=>J
def U2(W:PE X a (tF G f))(Y:PE X b (tF G g))(hK:X.K=G.K:=by rfl):PE X (.BinOp a .Add b pos) (tF G (Fo f g)):=PE.c6 (Qg Ua W Y) λσ H Q hh=>by
 rw[hK];obtain⟨F,ρ,A,d,ρ',R,e,k⟩:=hh;unfold Fo at e;split at e
 .rename_i x xs c N;split at e
  .rename_i ys ρ2 P;split at e
   .rename_i hl;cases e;refine⟨F,ρ,A,_,c,R,N,λv B C s I r=>⟨F,c,B,_,_,I,P,λu H2 E m R2 y=>?_⟩⟩;have l:=b6.mono m _ _ r;have r0:=l;unfold b6 at l y;obtain⟨a1,o,rfl,T,t⟩:=l;obtain⟨M,q,rfl,U,w⟩:=y;have h:=ug t;have j:=ug w;rw[aS]at h;refine⟨a1,M,o,q,O,O,fu.mono R2.sub T,fu.mono R2.sub U,(λz=>by rw[z]at h;cases h),by rw[<-h,<- j];exact xw (by omega),λz=>?_,λ_ p i=>?_⟩
    .have S:ys=[]:=by rw[z]at j;exact i9.1 j
     subst S;rw[bR]at k;exact k _ _ _ (s.t m) R2 r0
    .exact k _ _ _ ((s.t m).t (uy (R2.fx i) _)) (R2.I' i _) (DY (fu.of uh) (b1.mono (uy (R2.fx i) _) _ _ (v3 t w)))
   .cases e
  .cases e
 .cases e
end
section
variable{X:Cx}{G:Bg}
abbrev FO:=aP->Option (Option Int×aP)
def tFO(G:Bg)(f:FO):TO:=λi H Q=>∃F h e d b,c5 G F i h e H/\f h=Z (d,b)/\∀a c,ux e a->c5 G F i b a c->Q d c
def oNo:FO:=λa=>Z (J,a)
def oAt(f:FE):FO:=λb=>match f b with
 |some (.int i,a)=>Z (Z i,a)
 |_=>J
def PO.c6(h:PO X e t)(w:∀b H Q,t' b H Q->t b H Q):PO X e t':=λa s b H Q I c=>h a s b H Q I (w _ _ _ c)
def XZ:PO X J (tFO G oNo):=PO.c6 T9 λh H Q a=>by obtain⟨F,f,c,d,b,R,e,k⟩:=a;cases e;exact k _ _ (ux.refl _) R
def X2(h:PE X e (tF G f)):PO X (Z e) (tFO G (oAt f)):=PO.c6 (NB h) λt H Q l=>by
 obtain⟨F,m,a,d,o,R,e,k⟩:=l;unfold oAt at e;split at e
 .rename_i i p j;cases e;refine⟨F,m,a,_,_,R,j,λv q b s c r=>?_⟩;unfold b6 at r;exact⟨i,r,k _ _ s c⟩
 .cases e
def Kn(f:FE)(lo i:FO):FA:=λj=>match f j with
 |some (d,c)=>match d with
  |.b3 e=>match lo c with
   |some (l,a)=>match i a with
    |some (h,b)=>Z (oz e l h,b)
    |none=>J
   |none=>J
  |.R e=>match lo c with
   |some (l,a)=>match i a with
    |some (h,b)=>Z (oz e l h,b)
    |none=>J
   |none=>J
  |_=>J
 |none=>J
def MK{lo:FO}(h:PE X e (tSl (OY G.K) (tF G f) (tFO G lo) (tFO G w))):PE X e (F? G (Kn f lo w)):=PE.c6 h λσ H Q hh=>by
 obtain⟨F,q,N,Y,E,R,e,k⟩:=hh;unfold Kn at e;rcases uK (f:=f) (ρ:=q)with y|⟨d,c,y⟩<;>simp only[y]at e
 .cases e
 have rf:∀(i:bh),(∀{m:Hp} {v:V},b6 G m d v->∃a j,v=.ref a/\f3 G.K m a j/\b1 G m i j)->(match lo c with
   |some (l,b)=>match w b with
    |some (h,t)=>Z (oz i l h,t)
    |none=>J
   |none=>J)=Z (Y,E)->tSl (OY G.K) (tF G f) (tFO G lo) (tFO G w) σ H Q:=λi rd e=>by
  rcases uK (f:=lo) (ρ:=c)with z|⟨l,b,z⟩<;>simp only[z]at e
  .cases e
  rcases uK (f:=w) (ρ:=b)with A|⟨u,t,A⟩<;>simp only[A]at e
  .cases e
  cases e;refine⟨F,q,N,d,c,R,y,λv m P s1 W r1=>⟨F,c,m,l,b,W,z,λS T I R2=>⟨F,b,S,u,_,R2,A,λH3 U M o=>?_⟩⟩⟩;obtain⟨a,j,rfl,B,C⟩:=rd (b6.mono (I.t M) _ _ r1);exact⟨a,j,O,o.sub.seq B,λp x=>k p _ _ _ (s1.t (I.t M)) (o.j0 x _) uh (o.fx x) (o.g? x) (o.apart x) (Lx C)⟩
 cases d with
 |b3 i=>exact rf i (λr=>by unfold b6 at r;obtain⟨a,j,rfl,B,C⟩:=r;exact⟨a,j,O,f3.of B,C⟩) e
 |R i=>exact rf i (λr=>by unfold b6 at r;exact r) e
 |_=>cases e
end
section
variable{X:Cx}{G:Bg}
def Jp(f e h:FE):FE:=λj=>match f j with
 |some (.Q i d,a)=>match e a with
  |some (y,b)=>match h b with
   |some (x,c)=>match AB y with
    |some k=>Z ((vI i d k).getD x,c)
    |none=>J
   |none=>J
  |none=>J
 |_=>J
def Rq(hu:X.A.units+1<cLine)(ha:PE X a (tF G f))(hb:PE X b (tF G S))(hc:PE X c (tF G T))(m:M2 X a "get" apos b c cpos):PE X (.Call (.Attribute a "get" apos) [b,c] [] cpos) (tF G (Jp f S T)):=PE.c6 (QB hu ha hb hc m) λσ H Q hh=>by
 obtain⟨F,I,H0,d,ρ',R,e,k⟩:=hh;unfold Jp at e;split at e
 .rename_i o ds h e1;rcases uK (f:=S) (ρ:=h)with B|⟨y,i,B⟩<;>simp only[B]at e
  .cases e
  rcases uK (f:=T) (ρ:=i)with C|⟨x,ρ3,C⟩<;>simp only[C]at e
  .cases e
  cases E:AB y with
  |none=>simp only[E]at e;cases e
  |some j=>
   simp only[E]at e;cases e;refine⟨F,I,H0,_,h,R,e1,λv H1 H1' Y N W=>?_⟩;unfold b6 at W;obtain⟨p,ob,xs,rfl,U,h2,h3⟩:=W;refine⟨p,O,.inl ⟨_,.inr ⟨_,N.sub _ _ U⟩⟩,F,h,H1,y,i,N,B,λu H2 H2' q R2 r2=>⟨F,i,H2,x,_,R2,C,λz M l r t r3=>?_⟩⟩;have lv:=BU (ks:=o) j (b1.mono (q.t r) _ _ h3) h2;refine⟨xP (o.zip xs) j,?_,?_⟩
   .rw[A7 r2 E];exact r?.kf (t.sub _ _ (r _ _ (q _ _ U)))
   .cases P:vI o ds j with
    |none=>rw[P]at lv k;rw[lv];exact k _ M l (Y.t (q.t r)) t r3
    |some w=>rw[P]at lv k;obtain⟨w',w1,w2⟩:=lv;rw[w1];exact k _ M l (Y.t (q.t r)) t w2
 .cases e
def Hl(G:Bg)(c:Nat)(t:Ty->Option Bool):Prop:=(∀y b,t y=Z b->du G.K (y.val G) (.ref (G.ca c))=Z b)/\∀j b,t (.c j)=Z b->Lw G.K (G.ca j)
def ML(h:Hl G c t)(hK:X.K=G.K:=by rfl):vZ X (.builtin "isinstance") (λa H Q=>∃d x b,a=[x,(Ty.c c).v G]/\b6 G H d x/\t (tyD d)=Z b/\Q (.O b) H):=
 Jo (X:=X) (.c c) (by rw[hK];exact h.1) (by rw[hK];exact h.2) hK
end
def ddp(acc:List dt)(k:dt):List dt:=if acc.any (λz=>decide (z=k))then acc else acc++[k]
def zP(a:List dt):List dt:=a.foldl ddp []
def U3(acc:List dt)(k j:dt):(ddp acc k).any (λz=>decide (z=j))=(acc.any (λz=>decide (z=j))||decide (j=k)):=by
 unfold ddp;by_cases h:acc.any (λz=>decide (z=k))=γ
 .rw[aj h];by_cases e:j=k
  .subst e;rw[h];simp
  .simp[e]
 .rw[ai h,List.any_append];by_cases e:j=k
  .subst e;simp
  .have a:¬k=j:=λz=>e z.symm;simp[a,e]
def NX(acc:List dt)(k:dt):(ddp acc k).length=if acc.any (λz=>decide (z=k))=γ then acc.length else acc.length+1:=by unfold ddp;split<;>simp
def Jq(a:List dt)(i:Nat)(h:i<a.length):zP (a.take (i+1))=ddp (zP (a.take i)) a[i]:=by unfold zP;rw[jt,aY h,kQ];rfl
def Rr(a:List dt):(zP a).length<=a.length:=by
 have rf:∀(l:List dt) (acc:List dt),(l.foldl ddp acc).length<=acc.length+l.length:=by
  intro l
  induction l with
  |nil=>intro acc;simp
  |cons k l b=>
   intro acc;rw[iG,aS];have c:=b (ddp acc k);have d:(ddp acc k).length<=acc.length+1:=by rw[NX];split<;>omega
   omega
 have:=rf a [];simpa [zP]using this
def set_same{h:Heap}(hS:h.SetOf (ur prog w) a S n)(e:∀k,S k=b k)(c:n=d):h.SetOf (ur prog w) a b d:=by obtain rfl:S=b:=funext e;subst c;exact hS
section
variable{prog:aF}{w:ay}{A:aM}{R:fH->ae->Prop}{I:Addr}{fp wr:List Addr}{GG:Array eU->Array eU->Prop}{n:Nat}{PP:Nat->ab->Prop}{SS:Nat->ae->Prop}
def Rt(W:iX prog w A.in1 I fp wr GG n PP SS)(S:Addr)(hSf:S∉fp)(ks:List dt)(hn:ks.length=n)
  (hval:∀i v (h:i<ks.length),PP i v->(ur prog w).is ks[i] v=γ/\v.scannable=γ) (hb:n+1<scanBound):∀(k i:Nat) (s:ae),n - i=k->i<=n->SS i s->
   s.heap.SetOf (ur prog w) S (λj=>(zP (ks.take i)).any (λz=>decide (z=j))) (zP (ks.take i)).length->
   (∀a,fI (S::wr) GG s a->a.heap.SetOf (ur prog w) S (λj=>(zP ks).any (λz=>decide (z=j))) (zP ks).length->R (.ok (.ret .none)) a)->
   b9 (model prog w) A (.builtin "set.update.loop" ⟨[.ref S,.ref I],[]⟩) R s:=by
 have hSw:S∉wr:=λz=>hSf ((W).sub _ z);have up:∀b∈wr,b∈S::wr:=λb z=>aQ _ z;intro k
 induction k with
 |zero=>
  intro i s l hi hst hS hR;obtain rfl:i=n:=by omega
  refine cF eE ?_;rw[cK cE _];show ag _ A.in1 (pyNext (.ref I)>>=_) _ _ s;refine af (W.done s _ _ hst λa hm=>?_);show ag _ A.in1 (ret Value.none) _ _ a;rw[ku (by omega)]at hS;refine ar (hR a (hm.mono up) ?_);obtain⟨o,es,ep,t,d,more⟩:=hS;exact⟨o,es,ep,t,hm.heap S _ hSw d,more⟩
 |succ k m=>
  intro i s l hi hst hS hR;have hlt:i<n:=by omega
  have hlk:i<ks.length:=by omega
  refine cF eE ?_;rw[cK cE _];show ag _ A.in1 (pyNext (.ref I)>>=_) _ _ s;refine af (W.item i s _ _ hlt hst λv a hP hst' hm=>?_);obtain⟨kv,sc⟩:=hval i v hlk hP;have hS':a.heap.SetOf (ur prog w) S (λj=>(zP (ks.take i)).any (λz=>decide (z=j))) (zP (ks.take i)).length:=by obtain⟨o,es,ep,t,d,more⟩:=hS;exact⟨o,es,ep,t,hm.heap S _ hSw d,more⟩
  show ag _ A.in1 (holding [v] (setAdd S v)>>=_) _ _ a;refine af (bS ?_);unfold setAdd;refine bS ?_;refine af ((ur prog w).pyHash (k:=ks[i]) kv ?_);have room:(zP (ks.take i)).length+1<scanBound:=by have:=Rr (ks.take i);rw[cg]at this;omega
  refine wpAny_setAddHashed_of (knd:=ur prog w) (s:={ a with toks:=a.toks+1 }) kv sc hS' room λh' hsb hS2=>?_;have hSi:h'.SetOf (ur prog w) S (λj=>(zP (ks.take (i+1))).any (λz=>decide (z=j))) (zP (ks.take (i+1))).length:=
   set_same hS2 (λj=>by rw[Jq ks i hlk,U3]) (by rw[Jq ks i hlk,NX])
  refine ar ⟨dF cE _,m (i+1) _ (by omega) hlt (W.frame _ a _ _ hst' (iO _) λb z o e=>?_) hSi λf c hS''=>?_⟩
  .rw[hsb.2 b (λy:b=S=>hSf (by rw[<-y];exact z))];exact e
  .refine hR f (gm W.gtrans ((hm.mono up).then_heap (iO _) λb o z e=>?_) c) hS'';rw[hsb.2 b (λy:b=S=>z (by rw[y];exact aN))];exact e
end
def U4(l:Addr)(us:Array ab)(m:Nat)(b:Addr)(o:Obj)(ws:Array ab)(m2:Nat)(e:o.cls=.type "tuple")(hd:o.data=.seq ws m2)(C:¬(!us.isEmpty&&ip (us.size+ws.size))=γ)(f:us.size<=aI)(i:us.size+ws.size<=aI+1):
  Meets (ck.«list.extend» ⟨[.ref l,.ref b],[]⟩) (λ_ R s=>s.heap.get? l=Z { cls:=.type "list", data:=.seq us m }/\s.heap.get? b=Z o/\R (.ok (.ret Value.none)) { s with heap:=s.heap.update l (dP λx=>x++ws),toks:=s.toks }):=by
 obtain⟨c,p,data,sl⟩:=o;cases e;cases hd;refine .of_wp λprog w A R s h=>?_;obtain⟨y,g,d,tk,os⟩:=s;obtain⟨a,hb,h⟩:=h;have q:=AutoSeq1.sub_tuple_tuple;have r:=AutoSeq1.sub_list_list;have t:=AutoSeq1.sub_tuple_list;have u:=AutoSeq1.sub_list_tuple;have j:(us++ws).size<=aI+1:=Array.size_append (xs:=us) (ys:=ws)▸i
 wp_walk using (lh a O (hz:=f) (_hz':=j)),mS a,mS hb
 exact⟨_,O,h⟩
section
variable{X:Cx}{G:Bg}
def LC(K:au):V->bC->Hp->VK->Prop:=λx d H Q=>∃l b a c,x=.ref l/\d=[.ref b]/\H l=Z (.b3 a)/\fu K H b c/\a.length+c.length<=aI/\Q .I (en H l (.b3 (a++c)))
def MM:MtM X "list.extend" (LC X.K):=by
 intro i s S H x N v M Q I C B h;obtain⟨l,b,P,R,rfl,rfl,hH,hB,F,q⟩:=h;cases C;obtain⟨u,rfl,A⟩:=B.one;cases A;obtain⟨z,c,n,r,E,e⟩:=I.lstM hH;obtain⟨a,j,⟨o,m,p,y,hd⟩,w⟩:=I.tuple hB;have t:=j.length;have d:c.toArray.size+a.toArray.size<=aI:=by rw[bw,bw];omega
 have hlong:¬(!c.toArray.isEmpty&&ip (c.toArray.size+a.toArray.size))=γ:=by rw[K8 d,pA];exact bx
 refine jO jq ⟨_,e,O⟩ nQ (nD _ _)
  (U4 l c.toArray n b o a.toArray y p hd hlong (by rw[bw];omega) (by omega)) ⟨e,m,?_⟩
 refine⟨.I,_,I.lset (its':=c++a) hH e (by simp) (r.append j) ?_,O,q⟩;rw[aR];omega
def BV(i:Nat)(f:FE):FE:=λd=>match xS d i with
 |some _=>match f d with
  |some (.c3 c,a)=>match xS a i with
   |some b=>if b.length+c.length<=1000 then Z (.I,putAt a i (b++c))else J
   |none=>J
  |_=>J
 |none=>J
def MN(h:PE X e (tBM G.K "list" (LC G.K) (CP i) (CS (tF G f) GQ))):PE X e (tF G (BV i f)):=PE.c6 h λσ H Q A=>by
 obtain⟨F,c,w,d,S,R,e,k⟩:=A;unfold BV at e;cases j:xS c i with
 |none=>simp only[j]at e;cases e
 |some z=>
  simp only[j]at e;rcases uK (f:=f) (ρ:=c)with l|⟨x,b,l⟩<;>simp only[l]at e
  .cases e
  .cases x with
   |c3 Y=>
    cases m:xS b i with
    |none=>simp only[m]at e;cases e
    |some W=>
     simp only[m]at e;split at e
     .rename_i B;cases e;obtain⟨a,N,r,E,s3,_⟩:=Ay R j;refine⟨.ref a,r,.inl ⟨O,N,f3.of E⟩,F,c,w,_,b,R,l,λv T y s q rs=>?_⟩;unfold b6 at rs;obtain⟨p,P,rfl,C,rs⟩:=rs;obtain⟨U,o,t,I,u,M⟩:=Ay q m;rw[r]at t;cases t;refine⟨a,p,o,P,O,O,I,fu.mono q.sub C,?_,k _ _ _ s (M _ _ (v3 u rs)) zR⟩;rw[<-ug u,<- ug rs];exact xw B
     .cases e
   |_=>cases e
end
section
variable{X:Cx}{G:Bg}{H:Hp}
def X3{h:cB}{F:St}{s:ae}{d:D}{v:V}{u:ab}(I:b? X h F H s)(hK:X.K=G.K)(hd:b6 G H d v)(c:df v u)(C:∀k r e,d=.obj k r e->Lw X.K (G.ca k)):
  ∃HH:Heap->Prop,W.KitX X.K u ((tyD d).val G) HH/\HH s.heap/\u≠.builtin "__main__.__loader__#opaque" := by
 cases d with
 |I=>unfold b6 at hd;subst hd;cases (show u=Value.none from c);exact⟨_,ql,True.intro,λz=>nomatch z⟩
 |O x=>unfold b6 at hd;subst hd;cases (show u=Value.bool x from c);exact⟨_,qm,True.intro,λz=>nomatch z⟩
 |int x=>unfold b6 at hd;subst hd;obtain⟨t,q⟩:=(show ∃t,u=Value.int x t from c);cases q;exact⟨_,W.kitx_int,True.intro,λz=>nomatch z⟩
 |str x=>unfold b6 at hd;subst hd;obtain⟨t,q⟩:=(show ∃t,u=Value.str x t from c);cases q;exact⟨_,W.kitx_str,True.intro,λz=>nomatch z⟩
 |c3 e=>unfold b6 at hd;obtain⟨a,f,rfl,b,l⟩:=hd;cases c;rw[<-hK]at b;obtain⟨p,_,⟨o,i,j,_⟩,_⟩:=I.tuple b;exact⟨_,lM,⟨o,i,j⟩,λz=>nomatch z⟩
 |b3 e=>unfold b6 at hd;obtain⟨a,f,rfl,b,l⟩:=hd;cases c;obtain⟨_,_,n,_,q⟩:=(show ee X.prog X.w H s.heap a (.b3 f) from I.e? a _ b);exact⟨_,iN,⟨_,q,O⟩,λz=>nomatch z⟩
 |R e=>unfold b6 at hd;obtain⟨a,f,rfl,b,l⟩:=hd;cases c;rw[<-hK]at b;obtain⟨p,_,⟨o,n,i,j,_⟩,_⟩:=I.list b;exact⟨_,iN,⟨o,i,j⟩,λz=>nomatch z⟩
 |Q y e=>unfold b6 at hd;obtain⟨a,E,f,rfl,b,l,m⟩:=hd;cases c;obtain⟨_,_,_,S,_,o,P,N,i,j,_⟩:=(show ee X.prog X.w H s.heap a (.mu E (.dK (y.zip f))) from I.e? a _ b);exact⟨_,gV,⟨o,i,j.1⟩,λz=>nomatch z⟩
 |U y e=>unfold b6 at hd;obtain⟨a,f,rfl,⟨o,R,b,_,m,_⟩,_⟩:=hd;cases c;exact⟨_,gV,⟨o,(show ee X.prog X.w H s.heap a (.ext (tz a o)) from I.e? a _ b).1,m.ex.1⟩,λz=>nomatch z⟩
 |obj k r e=>have ci:=C k r e O;unfold b6 at hd;obtain⟨a,M,f,rfl,b,l,m⟩:=hd;cases c;obtain⟨mA,A,_⟩:=DT I.e? b;obtain⟨Q,B,_⟩:=A.look;exact⟨_,W.kitx_own (ci.cl.get _) ci.cl.hd ci.ha ci.hn ci.htk ci.hm,B,λz=>nomatch z⟩
def Pp(G:Bg)(cs:List Nat):bC:=cs.map λc=>.ref (G.ca c)
def Ru(G:Bg)(cs:List Nat):List ab:=cs.map λc=>.ref (G.ca c)
def Rv(cs:List Nat){a:List ab}(r:c9 (Pp G cs) a):a=Ru G cs:=by
 induction cs generalizing a with
 |nil=>cases r;rfl
 |cons c cs b=>
  cases r with
  |cons r d=>cases r;exact bp _ (b d)
def NY(G:Bg)(cs:List Nat)(t:Ty->Option Bool):Prop:=(∀y b,t y=Z b->W.kitAny G.K (y.val G) (Ru G cs)=Z b)/\∀j b,t (.c j)=Z b->Lw G.K (G.ca j)
def MO{cs:List Nat}{t:Ty->Option Bool}(i:NY G cs t)(hK:X.K=G.K:=by rfl):vZ X (.builtin "isinstance") (λl H Q=>∃d x b a,l=[x,.ref a]/\H a=Z (.c3 (Pp G cs))/\b6 G H d x/\t (tyD d)=Z b/\Q (.O b) H):=by
 intro j s σ H l U Q I r h;obtain⟨d,x,b,a,rfl,o,hd,e,q⟩:=h;obtain⟨u,Y,rfl,E,f⟩:=vals2 r;cases f;obtain⟨HH,AT,z,A⟩:=X3 I hK hd E λk R P y=>by subst y;rw[hK];exact i.2 k b e
 obtain⟨_,p,F,⟨⟨c,N,M,S⟩,B,C,n,q3⟩,_⟩:=(show ee X.prog X.w H s.heap a (.c3 (Pp G cs)) from I.e? a _ o);cases C;cases q3;have m:=Rv cs F;subst m;exact W.kia_tup AT I.n? z B (by rw[hK];exact i.1 _ _ e) A λT=>⟨.O b,H,I.x? _,O,q⟩
def X4(G:Bg):List Nat->TA
 |[]=>GQ
 |c::r=>CS (tC (.ref (G.ca c))) (X4 G r)
theorem NZ:∀(cs:List Nat) (a:St) (H:Hp) (Q:bC->Hp->Prop),Q (Pp G cs) H->X4 G cs a H Q
 |[],_,_,_,h=>h
 |c::r,a,H,Q,h=>NZ r a H (λd b=>Q (.ref (G.ca c)::d) b) h
def Rw{e:Expr}{cs:List Nat}{t:Ty->Option Bool}{f:FE}(h:PE X e (ι (λz H Q=>∃d x b m,z=[x,.ref m]/\H m=Z (.c3 (Pp G cs))/\b6 G H d x/\t (tyD d)=Z b/\Q (.O b) H) (CS (tF G f) (CS (tTup (X4 G cs)) GQ))))(y:cs.length<=1000:=by decide):PE X e (tF G (c1 (u7 t) f)):=PE.c6 h λC H Q w=>by
 obtain⟨F,A,o,d,l,R,e,k⟩:=w;obtain⟨x,u,a⟩:=DZ e;unfold u7 at a;cases i:t (tyD x)with
 |none=>rw[i]at a;cases a
 |some b=>
  rw[i]at a;cases a;refine⟨F,A,o,x,l,R,u,λv B q s c r=>NZ cs _ _ _ ⟨?_,λp j=>?_⟩⟩
  .unfold Pp;rw[aq];exact xw y
  .exact⟨x,v,b,p,O,uh,b6.mono (c.sub.t (uy j _)) _ _ r,i,k _ _ _ (s.t (uy (c.fx j) _)) (c.I' j _) (wJ b)⟩
end
abbrev one(j:Nat)(led pl:Bool):bV:=⟨7,#[j],#[],0,led,0,pl⟩
abbrev prb(i q:Nat):iH:=⟨i,0,i,q,J⟩
section
variable{j i q:Nat}{led pl:Bool}{h h1:Int}
def AC(i:Nat):(one j led pl).slot i=if j=i then .live 0 else .empty:=by
 by_cases z:j<i
 .have:j≠i:=by omega
  simp[pQ,cY,fS,iM,z,this]
 .simp[pQ,cY,fS,iM,z]
def run7(i:Nat):lj 7 i - i=0:=by unfold lj;split<;>omega
def N0:(one j led pl).advance (prb i q)=prb ((i * 5+1+q / 32) % 8) (q / 32):=by unfold SetTable.advance SetTable.leap;simp[run7]
theorem go_F(e:F 0=h1):∀(f:Nat) (p:iH),dR (one j led pl) F h f p=dR (one j led pl) (λ_=>h1) h f p
 |0,p=>rfl
 |f+1,p=>by
  unfold dR;rw[AC];by_cases z:j=p.j
  .rw[aj z];dsimp only;rw[e,go_F e f]
  .rw[ai z]
theorem N1(b:h1≠h):∀(n f i q:Nat),q<32 ^ n->n+2<=f->∃d,d≠j/\dR (one j led pl) (λ_=>h1) h f (prb i q)=Z (.empty d J)
 |n,0,i,q,_,a=>ao a (by omega)
 |n,f+1,i,q,c,a=>by
  unfold dR;rw[AC];by_cases z:j=i
  .rw[aj z];dsimp only;rw[ai (by simpa using b),N0];cases n with
   |zero=>
    obtain⟨f,rfl⟩:∃g,f=g+1:=⟨f - 1,by omega⟩;unfold dR;rw[AC];have l:q=0:=by simpa using c
    have:¬j=(i * 5+1+q / 32) % 8:=by subst z l;omega
    rw[ai this];exact⟨_,λe=>this e.symm,O⟩
   |succ n=>exact N1 b n f _ _ (by rw[p9]at c;omega) (by omega)
  .rw[ai z];exact⟨_,λe=>z e.symm,O⟩
def Pq(d:n<=13)(c:q<32 ^ n):(∃b,b≠j/\(one j led pl).probe (λ_=>h1) h (prb i q)=Z (.empty b J))\/(h1=h/\j=i/\(one j led pl).probe (λ_=>h1) h (prb i q)=Z (.candidate j 0 (prb ((i * 5+1+q / 32) % 8) (q / 32)))):=by
 by_cases a:h1=h
 .by_cases z:j=i
  .right;refine⟨a,z,?_⟩;subst z a;show dR _ _ _ (219+1) _=_;unfold dR;rw[AC,aj O];dsimp only;rw[aj (by simp),N0]
  .left;refine⟨i,λe=>z e.symm,?_⟩;show dR _ _ _ (219+1) _=_;unfold dR;rw[AC,ai z]
 .exact .inl (N1 a n 220 i q c (by omega))
end
section
variable{prog:aF}{w:ay}{A:aM}{E:ab->ae->Prop}{s:ae}
abbrev TK(prog:aF)(w:ay):=gn (ur prog w)
def cls_val(n:Nat)(h:gL v=γ):iB n v=pure δ:=by
 cases v with
 |ref a=>simp[gL]at h
 |_=>first|rfl|simp[iB]|(unfold iB;rfl)
def N2(e:TK prog w s.heap j a)(h:Q δ s):ag (model prog w) A (iB 8 (.ref a)) Q E s:=by
 have hT:=e.typeIs;obtain⟨o,items,n,i,_,hd,f⟩:=e;unfold iB;refine af (gU hT ?_);show ag _ _ (pure γ>>=_) _ _ s;refine af (ar ?_);simp only[pS,fj,if_false];refine af (jF i hd ?_);refine af ?_;show ag _ _ (forIn items _ _) _ _ s;rw[<-oa];refine jy _ (λfm r d=>r.1=J/\d=s/\∀v∈fm,gL v=γ) _ ?_ ?_ _ _ ⟨O,O,f.byValue⟩
 .rintro v fm r d ⟨b,rfl,hall⟩;rw[cls_val _ (hall v aN)];refine af (ar ?_);simp only[fj,if_false];exact ar ⟨O,O,λu c=>hall u (aQ _ c)⟩
 .rintro⟨l,m⟩ d ⟨b,rfl,_⟩;simp only at b;subst b;exact ar h
def U5(n:Nat)(h:gL v=γ):∃b,hashByValue n v=pure b:=by
 cases v with
 |ref a=>simp[gL]at h
 |_=>cases n<;>first|exact⟨_,O⟩|(unfold hashByValue;exact⟨_,O⟩)
theorem U6(e:TK prog w s.heap m a)(h:∀b,Q b s):ag (model prog w) A (hashByValue 8 (.ref a)) Q E s:=by
 have hT:=e.typeIs;obtain⟨o,items,n,j,_,hd,i⟩:=e;unfold hashByValue;refine af (gH hT F.slot_tuple_hash.lookup ?_);show ag _ _ (seqItems? (.ref a)>>=_) _ _ s;refine af (jF j hd ?_);refine af ?_;show ag _ _ (forIn items _ _) _ _ s;rw[<-oa];refine jy _ (λfm r d=>d=s/\∀v∈fm,gL v=γ) _ ?_ ?_ _ _ ⟨O,i.byValue⟩
 .rintro v fm r d ⟨rfl,hall⟩;obtain⟨b,f⟩:=U5 7 (hall v aN);rw[f];refine af (ar ?_);cases b
  .exact ar (ar (h _))
  .exact ar ⟨O,λu c=>hall u (aQ _ c)⟩
 .rintro⟨l,p⟩ d ⟨rfl,_⟩;cases l with
  |none=>exact ar (h _)
  |some b=>exact ar (h _)
def Ko{a1:Addr}(h1:TK prog w s.heap i a1)(d:TK prog w s.heap j e)(h:Q δ s):ag (model prog w) A (searchCouldBeSeen (.ref e) [.ref a1]) Q E s:=by
 unfold searchCouldBeSeen;refine af ?_;show ag _ _ (forIn [Value.ref a1] _ _) _ _ s;refine jy _ (λfm r b=>r=(J,())/\b=s/\∀v∈fm,v=.ref a1) _ ?_ ?_ _ _ ⟨O,O,λv f=>by simpa using f⟩
 .rintro v fm r b ⟨rfl,rfl,hall⟩;obtain rfl:=hall v aN;have c:∀v∈fm,v=Value.ref a1:=λu a=>hall u (aQ _ a);dsimp only;split
  .exact ar ⟨O,O,c⟩
  .refine af (nu d ?_);refine af (nu h1 ?_);refine af (N2 d ?_);refine af (N2 h1 ?_);exact ar ⟨O,O,c⟩
 .rintro r b ⟨rfl,rfl,_⟩;exact ar h
theorem DA{a1:Addr}(m:A.units<cLine)(c:TK prog w s.heap F a1)(d:TK prog w s.heap G y)(p:F≠G)
  (a:s.heap.get? S=Z o) (hd:o.data=.set #[(h1,.ref a1)] I (one j led pl)) (hQ:∀b,b≠j->Q (.free b δ) s):∀(fuel n i q:Nat) (st:Option iH),n<=13->1<=fuel->(i=j->n+2<=fuel)->q<32 ^ n->st.getD ((one j led pl).probeStart h)=prb i q->ag (model prog w) A (setSearchFrom S (.ref y) h γ fuel st) Q E s
 |0,n,i,q,st,_,f,_,_,_=>ao f (by omega)
 |fuel+1,n,i,q,st,t,_,f,l,hst=>by
  unfold setSearchFrom;refine af (di a hd O ?_);dsimp only;rw[ai (by simp[oW])];have P:=Pq (led:=led) (pl:=pl) (j:=j) (i:=i) (h:=h) (h1:=h1) t l;unfold SetTable.probe at P ⊢;rw[hst,go_F (h1:=h1) O];rcases P with ⟨b,C,e⟩|⟨z,r,e⟩
  .rw[e];exact ar (hQ b C)
  .rw[e];dsimp only;rw[show eA (λx:Int×ab=>x.snd) (Array.filter (λx=>x.fst==h) #[(h1,Value.ref a1)]).toList=[.ref a1] by simp[z]];have B:=f r.symm;have H:∀led,(one j led pl).sameMemory 0 7=Z γ:=λ_=>O;cases led;refine af (Ko c d ?_)
   all_goals
    refine af (bS (wpAny_eqBool_tuple m c d ?_));refine af (di a hd O ?_);rw[bj p];dsimp only;rw[ai (by decide),H];dsimp only;rw[aj O,AC,aj O];refine af (wpAny_isSame_ref_self ?_);refine af (ar ?_);cases n with
    |zero=>
     have u:q=0:=by simpa using l
     exact DA m c d p a hd hQ fuel 0 _ _ _ t (by omega) (λe=>ao e (by subst r u;omega)) (by rw[u];decide) O
    |succ n=>exact DA m c d p a hd hQ fuel n _ _ _ (by omega) (by omega) (λ_=>by omega) (by rw[p9]at l;omega) O
def N3{S a2:Addr}{ks:List dt}{o:Obj}{es:Array (Int×ab)}{ep:Nat}{t:bV}{h:Int}{P:Nat->Prop}{Q:Bool->ae->Prop}(d:s.heap.get? S=Z o)(hd:o.data=.set es ep t)(hf:t.fits es.size=γ)(i:TK prog w s.heap ks a2)
  (hs:∀Q:SetFound->ae->Prop,(∀a,P a->Q (.free a δ) s)->ag (model prog w) A (setSearch S (.ref a2) h γ) Q E s) (hT:∀a,P a->(t.put a).1.tooFull=δ) (f:∀a,P a->(fT es (t.put a).2 (h,Value.ref a2)).size<=aI)
  (hQ:∀a pl,P a->Q γ { s with heap:=s.heap.update S (gX (fT es (t.put a).2 (h,.ref a2)) { (t.put a).1 with plain:=pl }) }):ag (model prog w) A (setAddHashed S (.ref a2) h) Q E s:=by
 unfold setAddHashed setAddHashedIn;refine bS (af (di d hd hf ?_));dsimp only;rw[ai (by simp[byScan,Value.scannable])];refine af (hs _ λa c=>?_);dsimp only;refine af (di d hd hf ?_);dsimp only;have fin:∀b:Bool,ag (model prog w) A (do
   storeSet S (fT es (t.put a).2 (h,.ref a2)) (if b=γ then (t.put a).1 else { (t.put a).1 with plain:=δ })
   if (!δ&&(if b=γ then (t.put a).1 else { (t.put a).1 with plain:=δ }).tooFull)=γ then do setRelay S (fA (es.size+1));pure γ else pure γ) Q E s:=λb=>by
  refine af (kR d hd ?_ (f a c));have e:(if b=γ then (t.put a).1 else { (t.put a).1 with plain:=δ })={ (t.put a).1 with plain:=if b=γ then (t.put a).1.plain else δ }:=by cases b<;>rfl
  rw[e,ai (by have:=hT a c;unfold oX lD at this ⊢;rw[this];decide)];exact ar (hQ _ _ c)
 split
 .exact af (U6 i λb=>fin b)
 .exact af (ar (fin γ))
end
section
variable{j i q:Nat}{led pl:Bool}{h h1:Int}
def Hm(i:Nat):(jG 0 0 led).put i=(one i led γ,0):=by simp[lX,jG,cY,fS,iM,fT]
def Gv{a:Type}(x y:a):((one j led pl).put i).1.place.size=2/\((one j led pl).put i).1.dummies=#[]/\((one j led pl).put i).1.mask=7/\(fT #[x] ((one j led pl).put i).2 y).size=2:=by
 by_cases z:j<i
 .simp[lX,cY,fS,iM,fT,z]
 .simp[lX,cY,fS,iM,fT,z]
end
section
variable{prog:aF}{w:ay}{A:aM}{E:ab->ae->Prop}{s:ae}
def MP{c:Heap}(d:c.get? S=Z o)(hd:o.data=.set es ep t):(c.update S (gX a b)).get? S=Z { o with data:=.set a (ep+1) b }:=by have:=eG (gX a b) d (by rw[putSet_of a b hd];rfl);rw[putSet_of a b hd]at this;exact this
def Jr{S a:Addr}{ks:List dt}{o:Obj}{ep:Nat}{led:Bool}{h:Int}{Q:Bool->ae->Prop}(b:s.heap.get? S=Z o)(hd:o.data=.set #[] ep (.fresh 0 0 led))(e:TK prog w s.heap ks a)
  (hQ:∀h' j pl,cG S s.heap h'->h'.get? S=Z { o with data:=.set #[(h,.ref a)] (ep+1) (one j led pl) }->Q γ { s with heap:=h' }):ag (model prog w) A (setAddHashed S (.ref a) h) Q E s:=by
 refine N3 (P:=λ_=>True) b hd O e (λQ d=>?_) (λc _=>by rw[Hm];rfl) (λc _=>by rw[Hm,bN];exact gR (by decide:1<_)) λc pl _=>hQ _ c pl (dA ..) ?_
 .unfold setSearch setSearchFrom;refine af (di b hd O ?_);dsimp only;rw[ai (by simp[oW,jG]),show ∀F p,(jG 0 0 led).probe F h p=Z (.empty p.j p.dummy) from λ_ _=>O];exact ar (d _ trivial)
 .rw[MP b hd,Hm];rfl
def MQ{a1:Addr}(m:A.units<cLine)(q:TK prog w s.heap k1 a1)(f:TK prog w s.heap k2 a2)(ne:k1≠k2)
  (e:s.heap.get? S=Z o) (hd:o.data=.set #[(r,.ref a1)] ep (one j led pl))
  (hQ:∀h' es t,cG S s.heap h'->h'.get? S=Z { o with data:=.set es (ep+1) t }->es.size=2->t.fits 2=γ->Q γ { s with heap:=h' }):ag (model prog w) A (setAddHashed S (.ref a2) h) Q E s:=by
 refine N3 (P:=λd=>d≠j) e hd O f (λQ l=>?_) (λd _=>?_) (λd _=>by rw[(Gv _ _).2.2.2,bN];decide) λd p _=>hQ _ _ _ (dA ..) (MP e hd) (Gv _ _).2.2.2 ?_
 .have hb:jJ h<32 ^ 13:=by unfold jJ;omega
  exact DA m q f ne e hd l 100000 13 (jJ h % 8) (jJ h) J (by omega) (by omega) (λ_=>by omega) hb (by show SetTable.Probe.mk _ _ _ _ _=_;rw[run7])
 .obtain⟨a,b,c,_⟩:=Gv (j:=j) (i:=d) (led:=led) (pl:=pl) 0 0;unfold oX lD;rw[a,b,c];rfl
 .obtain⟨a,b,c,_⟩:=Gv (j:=j) (i:=d) (led:=led) (pl:=pl) 0 0;unfold pT lD;dsimp only;rw[a,b,c];rfl
end
section
variable{prog:aF}{w:ay}{A:aM}{R:fH->ae->Prop}{I:Addr}{fp wr:List Addr}{GG:Array eU->Array eU->Prop}{PP:Nat->ab->Prop}{SS:Nat->ae->Prop}
def TK.f5{c:Heap}(t:TK prog w h f a)(e:∀o,h.get? a=Z o->c.get? a=Z o):TK prog w c f a:=by obtain⟨o,b,n,d,m⟩:=t;exact⟨o,b,n,e o d,m⟩
def U7(h:Heap)(S:Addr)(n:Nat):Prop:=∃o a b t,h.get? S=Z o/\o.ExactSet/\o.data=.set a b t/\a.size<scanBound/\t.fits a.size=γ/\a.size=n
def Pt(W:iX prog w A.in1 I fp wr GG 2 PP SS){a1:Addr}(hSf:S∉fp)(ne:k1≠k2)(E:a1∉S::wr)(F:a2∉S::wr)(p1:∀v,PP 0 v->v=.ref a1)(p2:∀v,PP 1 v->v=.ref a2)(l:A.in1.units<cLine)
  (hst:SS 0 s) (t1:TK prog w s.heap k1 a1) (t2:TK prog w s.heap k2 a2) (X:s.heap.get? S=Z o) (Y:o.ExactSet) (hd:o.data=.set #[] ep (.fresh 0 0 led)) (hR:∀q,fI (S::wr) GG s q->U7 q.heap S 2->R (.ok (.ret .none)) q):
   b9 (model prog w) A (.builtin "set.update.loop" ⟨[.ref S,.ref I],[]⟩) R s:=by
 have hSw:S∉wr:=λz=>hSf ((W).sub _ z);have up:∀b∈wr,b∈S::wr:=λb z=>aQ _ z;have G:a1∉wr:=λz=>E (up _ z);have H:a2∉wr:=λz=>F (up _ z);have P:a1≠S:=λz=>E (by rw[z];exact aN);have Q:a2≠S:=λz=>F (by rw[z];exact aN);refine cF eE ?_;rw[cK cE _];show ag _ A.in1 (pyNext (.ref I)>>=_) _ _ s;refine af (W.item 0 s _ _ (by decide) hst λv a hP r h=>?_);obtain rfl:=p1 v hP;show ag _ A.in1 (holding _ (setAdd S _)>>=_) _ _ a;refine af (bS ?_);unfold setAdd;refine bS ?_;have x:TK prog w a.heap k1 a1:=t1.f5 λo=>h.heap a1 o G;have u2:TK prog w a.heap k2 a2:=t2.f5 λo=>h.heap a2 o H;refine af (kJ l x ?_);refine Jr (h.heap S _ hSw X) hd x λh' j pl hb hg=>?_;refine ar ⟨dF cE _,?_⟩;have d:=W.frame (0+1) a h' _ r (cW _ (k1.length+1)) λb z o e=>by rw[hb.2 b (λy:b=S=>hSf (by rw[<-y];exact z))];exact e
 have m:fI (S::wr) GG s { a with heap:=h',toks:=a.toks+(k1.length+1) }:=(h.mono up).then_heap (cW _ _) λb o z e=>by rw[hb.2 b (λy:b=S=>z (by rw[y];exact aN))];exact e
 have v1:TK prog w h' k1 a1:=x.f5 λo e=>by rw[hb.2 a1 P];exact e
 have v2:TK prog w h' k2 a2:=u2.f5 λo e=>by rw[hb.2 a2 Q];exact e
 refine cF eE ?_;rw[cK cE _];show ag _ A.in1 (pyNext (.ref I)>>=_) _ _ _;refine af (W.item 1 _ _ _ (by decide) d λv s2 hP u m2=>?_);obtain rfl:=p2 v hP;show ag _ A.in1 (holding _ (setAdd S _)>>=_) _ _ s2;refine af (bS ?_);unfold setAdd;refine bS ?_;have w1:TK prog w s2.heap k1 a1:=v1.f5 λo=>m2.heap a1 o G;have N:TK prog w s2.heap k2 a2:=v2.f5 λo=>m2.heap a2 o H;refine af (kJ l N ?_);refine MQ l w1 N ne (m2.heap S _ hSw hg) O λU es t c i B T=>?_;refine ar ⟨dF cE _,?_⟩;have f:=W.frame (1+1) s2 U _ u (cW _ (k2.length+1)) λb z o e=>by rw[c.2 b (λy:b=S=>hSf (by rw[<-y];exact z))];exact e
 have p:=gm W.gtrans m ((m2.mono up).then_heap (tk:=s2.toks+(k2.length+1)) (cW _ _) λb o z e=>by rw[c.2 b (λy:b=S=>z (by rw[y];exact aN))];exact e);refine cF eE ?_;rw[cK cE _];show ag _ A.in1 (pyNext (.ref I)>>=_) _ _ _;refine af (W.done _ _ _ f λM C=>?_);show ag _ A.in1 (ret Value.none) _ _ M;refine ar (hR M (gm W.gtrans p (C.mono up)) ?_);exact⟨_,es,_,t,C.heap S _ hSw i,Y,O,by rw[B];decide,by rw[B];exact T,B⟩
end
def Dx:isSubtype (.type "tuple") (.type "set")=pure δ:=by rw[jH];kernel_rfl
def pa:isSubtype (.type "tuple") (.type "frozenset")=pure δ:=by rw[jH];kernel_rfl
section
variable{prog:aF}{w:ay}{A:aM}{E:ab->ae->Prop}{s:ae}{Q:ab->ae->Prop}
abbrev yS(led:Bool):Obj:={ cls:=.type "set", dict:=J,data:=.set #[] 0 (.fresh 0 0 led) }
abbrev inK(a:List dt):dt->Bool:=λj=>(zP a).any (λz=>decide (z=j))
structure SrcK(prog:aF)(w:ay)(h:Heap)(a:Addr)(items:Array ab)(ks:List dt):Prop where
 len:ks.length=items.size
 key:∀i v (hi:i<ks.length),items[i]?=Z v->(ur prog w).is ks[i] v=γ/\v.scannable=γ
 bnd:items.size+1<scanBound
def U8(s:ae)(PS:Heap->Prop)(E:ab->ae->Prop):fH->ae->Prop:=
 wants (λr s2=>r=.none/\∃a k2,s2={ s with heap:=a,toks:=k2 }/\PS a/\∀b o,b<s.heap.objs.size->s.heap.get? b=Z o->a.get? b=Z o) E
def LD(K:SrcK prog w s.heap c items ks)(hlt:c<s.heap.objs.size)
  (W:Walks prog w A.in1 (s.heap.objs.size+1) [s.heap.objs.size+1,c] [s.heap.objs.size+1] items.size (λi v=>items[i]?=Z v) SS) (st:SS 0 ((s.heap.push (yS led)).push itO))
  (hR:∀a k2,a.SetOf (ur prog w) s.heap.objs.size (inK ks) (zP ks).length->(∀b o,b<s.heap.objs.size->s.heap.get? b=Z o->a.get? b=Z o)->R (.ok (.ret .none)) { s with heap:=a,toks:=k2 }) (tk:Nat):
  b9 (model prog w) A (.builtin "set.update.loop" ⟨[.ref s.heap.objs.size,.ref (s.heap.objs.size+1)],[]⟩) R { s with heap:=(s.heap.push (yS led)).push itO,toks:=tk }:=by
 have notin:s.heap.objs.size∉[s.heap.objs.size+1,c]:=by
  intro z;rcases aK.1 z with z|z
  .exact ao z (aT (dD _))
  .exact ao (aW.1 z) (dY hlt)
 have f:((s.heap.push (yS led)).push itO).get? s.heap.objs.size=Z (yS led):=aJ _ (bg _ O);refine Rt W.toS s.heap.objs.size notin ks K.len (λi v hi p=>K.key i v hi p) K.bnd (items.size - 0) 0 _ (by omega) (b7 _) st ?_ λs2 mv d=>?_
 .exact⟨_,#[],0,_,f,⟨O,O,O⟩,O,λe m=>by simp at m,λk=>by simp[zP],by unfold scanBound;decide,by rfl,O⟩
 .obtain⟨a,g2,d2,k2,q⟩:=s2;have j:g2=s.gens:=mv.gens;have h:d2=s.drawn:=mv.drawn;have l:q=s.os:=mv.os;subst j h l;refine hR a k2 d λb o hb e=>mv.heap b o (λz=>?_) (aJ _ (aJ _ e));rcases aK.1 z with z|z
  .exact ao z (aT hb)
  .exact ao (aW.1 z) (aT (dh hb))
theorem MR(a:ab)(h:Q₁ (.ref s.heap.objs.size) { s with heap:=s.heap.push (yS (!w.params.followText "set-order")) }):
  b9 (model prog w) A (.call (.builtin "set.__new__") ⟨[.type "set", a],[]⟩) (wants Q₁ E) s:=by
 refine pb ?_;show ag _ A.in1 (do checkBuiltinCall "set.__new__" ⟨[.type "set", a],[]⟩;again (.builtin "set.__new__" ⟨[.type "set", a],[]⟩)) _ _ s;refine af (wpAny_of_eq (F.newCall_set_1 a) (ar ⟨dF pe _,cF F.entry_set_new ?_⟩));rw[cK pe _];unfold ck.«set.__new__» rG;have hsub:=sub_set_self;obtain⟨b,g,d,tk,os⟩:=s;dsimp only
 wp_walk
 refine kX (ar ?_);dsimp only;simp only[newObj];refine af (wpAny_alloc (ar ?_));exact ar h
theorem BW{PS:Heap->Prop}(t:s.heap.get? d=Z o)(z:o.cls=.type T)
  (P:isSubtype (.type T) (.type "set")=pure δ) (S:isSubtype (.type T) (.type "frozenset")=pure δ) (U:(Value.type T==Value.type "dict")=δ)
  (itr:∀(A:aM) (Q:ab->ae->Prop) (E:ab->ae->Prop) (f:ae),f.heap.get? d=Z o->Q (.ref f.heap.objs.size) { f with heap:=f.heap.push itO }->ag (model prog w) A (pyIter (.ref d)) Q E f)
  (fil:∀tk (R:fH->ae->Prop),(∀a k2,PS a->(∀b o,b<s.heap.objs.size->s.heap.get? b=Z o->a.get? b=Z o)->R (.ok (.ret .none)) { s with heap:=a,toks:=k2 })->
   b9 (model prog w) A.in1.in1 (.builtin "set.update.loop" ⟨[.ref s.heap.objs.size,.ref (s.heap.objs.size+1)],[]⟩) R { s with heap:=(s.heap.push (yS (!w.params.followText "set-order"))).push itO,toks:=tk })
  (h:∀a k2,PS a->(∀b o,b<s.heap.objs.size->s.heap.get? b=Z o->a.get? b=Z o)->Q (.ref s.heap.objs.size) { s with heap:=a,toks:=k2 }):
  ag (model prog w) A (call (.type "set") [.ref d]) Q E s:=by
 have hlt:d<s.heap.objs.size:=aL t;obtain⟨c,N,hmro⟩:=fE.mro;have made:=fE.made;have subs:=fE.sub;refine jN (pb ?_);show ag _ _ (callAny (.type "set") _) _ _ _;refine ar ⟨Code.quiet_builtin _ (by decide +kernel),cF F.entry_type_call ?_⟩;rw[Around.under_plain (weight_type_call_type "set" [.ref d] []) O];have H:=fE.notType;have I:=fE.canCreate;have M:=F.typeCall_set_1 (.ref d)
 repeat (any_goals (first|assumption|wp_step))
 let led:Bool:=!w.params.followText "set-order";refine gS (MR (.ref d) (E:=E) (Q₁:=λv f=>v=.ref s.heap.objs.size/\f={ s with heap:=s.heap.push (yS led) }) ⟨O,O⟩) λr f hr=>?_;cases r with
 |error e=>exact hr
 |ok fl=>
  cases fl with
  |ret v=>
   obtain⟨rfl,rfl⟩:=hr;have u:(s.heap.push (yS led)).get? s.heap.objs.size=Z (yS led):=bg _ O;have p:lE { s with heap:=s.heap.push (yS led) } (.ref s.heap.objs.size) "set" := ⟨_,u,O⟩;have C:=fE.init.lookup;have G:=fE.init.bind (.ref s.heap.objs.size)
   repeat (any_goals (first|assumption|wp_step))
   refine gS (nF (R:=U8 s PS E) fE.init.plain F.entry_set_init (check_set_init_1 p ?_)) λB s2 i=>?_
   .obtain⟨oc,od,oda,osl⟩:=o;cases z;have x:(s.heap.push (yS led)).get? d=Z { cls:=.type T,dict:=od,data:=oda,slots:=osl }:=aJ _ t;unfold ck.«set.__init__» noKeywords rE;generalize gP:pyIter=PP
    wp_walk
    subst gP;refine itr _ _ _ _ x ?_;refine af (pC ?_);have y:(s.heap.push (yS led)).objs.size=s.heap.objs.size+1:=cN _ _;show b9 _ _ (.builtin "set.update.loop" ⟨[.ref s.heap.objs.size,.ref (s.heap.push (yS led)).objs.size],[]⟩) _ _;rw[y];refine fil _ _ λa k2 j m=>?_;show ag _ _ _ _ _ _;refine ar ?_;show ag _ _ (ret Value.none) _ _ _;exact ar ⟨O,a,k2,O,j,m⟩
   .cases B with
    |error e=>exact i
    |ok l=>
     cases l with
     |ret r=>
      obtain⟨rfl,a,k2,rfl,j,m⟩:=i
      repeat (any_goals (first|assumption|wp_step))
      exact h _ _ j m
     |_=>exact i.elim
  |_=>exact hr.elim
end
section
variable{X:Cx}{G:Bg}{H:Hp}{pins:cB}{σ:St}{s:ae}
def Rx(h:(ur P w).is k v=γ):v.scannable=γ:=by rcases vh h with ⟨i,t,_,rfl⟩|⟨x,t,_,rfl⟩<;>rfl
def Ry{b:List dt}(r:c9 (b.map kV) c)(o:b.length+1<scanBound):SrcK X.prog X.w s.heap a c.toArray b:=by
 have l:b.length=c.length:=by have:=r.length;rw[aq]at this;exact this
 refine⟨by rw[bw];exact l,λi v j f=>?_,by rw[bw];omega⟩;have e:(b.map kV)[i]?=Z (kV b[i]):=by rw[bD,aY j];rfl
 obtain⟨u,d,m⟩:=r.get e;have h:v=u:=by rw[je]at f;rw[f]at d;exact cu d
 subst h;have:=Fj (P:=X.prog) (w:=X.w) m;exact⟨this,Rx this⟩
def Hn{c:List dt}(I:b? X pins σ H s)(h:fu X.K H a (c.map kV)):TK X.prog X.w s.heap c a:=by
 obtain⟨b,r,p,_⟩:=I.tuple h;obtain⟨o,i,f,n,hd⟩:=p;refine⟨o,_,n,i,f,hd,?_⟩;have rf:∀(c:List dt) (b:List ab),c9 (c.map kV) b->PySem.ItemsAre (ur X.prog X.w) c b:=λc=>by
  induction c with
  |nil=>intro b r;cases r;exact .nil
  |cons k c j=>intro b r;cases r with|cons d e=>exact .cons (Fj d) (j _ e)
 exact rf c b r
def X5(K:au)(H:Hp)(a:Addr)(n:Nat):Prop:=∃b,(f3 K H a (b.map kV)\/fu K H a (b.map kV))/\b.length+1<scanBound/\n=(zP b).length
def X6(K:au)(H:Hp)(a:Addr)(n:Nat):Prop:=X5 K H a n\/
 ∃(p q:Addr) (b c:List dt),f3 K H a [.ref p,.ref q]/\fu K H p (b.map kV)/\fu K H q (c.map kV)/\b≠c/\n=2
def U9(X:Cx)(S:au->Hp->Addr->Nat->Prop):Prop:=∀{pins:cB} {σ:St} {H:Hp} {s:ae} {A:aM} {E:ab->ae->Prop} {Q:ab->ae->Prop} {a:Addr} {n:Nat},b? X pins σ H s->A.handled=J->A.units+8<cLine->S X.K H a n->
 (∀c k2,U7 c s.heap.objs.size n->(∀b o,b<s.heap.objs.size->s.heap.get? b=Z o->c.get? b=Z o)->Q (.ref s.heap.objs.size) { s with heap:=c,toks:=k2 })->ag (model X.prog X.w) A (call (.type "set") [.ref a]) Q E s
def abe:U9 X (X5):=by
 intro pins σ H s A E Q a n I m x i h;have l:A.in1.in1.in1.handled=J:=by simp[m]
 have j:∀{f:Heap} {ks:List dt},f.SetOf (ur X.prog X.w) s.heap.objs.size (inK ks) (zP ks).length->U7 f s.heap.objs.size (zP ks).length:=λS=>by obtain⟨o,es,ep,t,b,hex,hd,_,_,q,hf,hn⟩:=S;exact⟨o,es,ep,t,b,hex,hd,q,hf,hn⟩
 have it:∀{o:Obj} {led:Bool},o.isFreed=δ->((s.heap.push (yS led)).push o).get? (s.heap.objs.size+1)=Z o:=λ{o led} z=>by rw[show s.heap.objs.size+1=(s.heap.push (yS led)).objs.size from(cN _ _).symm];exact bg _ z
 obtain⟨ks,i|i,hb,rfl⟩:=i
 .obtain⟨d,r,p,_⟩:=I.list i;obtain⟨o,b,c,n,hd⟩:=p.isList;have hne:a≠s.heap.objs.size+1:=aT (dh (aL b));refine BW b c jI jj (by decide) (itO:={ cls:=.type "list_iterator", data:=.fields #[.ref a,.int 0 0] })
   (λA Q E u e k=>fQ ⟨o,e,c,n,hd⟩ k) (λtk R hR=>LD (Ry r hb) (aL b) (gW l _ a hne d.toArray) ⟨⟨_,it O,O,O⟩,⟨o,aJ _ (aJ _ b),c,n,hd⟩⟩ (λf k2 S=>hR f k2 (j S)) tk) h
 .obtain⟨d,r,p,_⟩:=I.tuple i;obtain⟨o,b,c,n,hd⟩:=p;have hne:a≠s.heap.objs.size+1:=aT (dh (aL b));refine BW b c Dx pa (by decide) (itO:={ cls:=.type "tuple_iterator", data:=.fields #[.ref a,.int 0 0] })
   (λA Q E u e k=>kF ⟨o,e,c,n,hd⟩ k) (λtk R hR=>LD (Ry r hb) (aL b) (qr l _ a hne d.toArray) ⟨⟨_,it O,O,O⟩,⟨o,aJ _ (aJ _ b),c,n,hd⟩⟩ (λf k2 S=>hR f k2 (j S)) tk) h
def abf:U9 X (X6):=by
 intro pins σ H s A E Q a n I m T c h;rcases c with c|⟨p,q,k1,k2,c,P,i,ne,rfl⟩
 .exact abe I m T c h
 have S:A.in1.in1.in1.handled=J:=by simp[m]
 have it:∀{o:Obj} {led:Bool},o.isFreed=δ->((s.heap.push (yS led)).push o).get? (s.heap.objs.size+1)=Z o:=λ{o led} z=>by rw[show s.heap.objs.size+1=(s.heap.push (yS led)).objs.size from(cN _ _).symm];exact bg _ z
 obtain⟨l,r,W,_⟩:=I.list c;obtain⟨o,d,j,n,hd⟩:=W.isList;have hne:a≠s.heap.objs.size+1:=aT (dh (aL d));obtain⟨u,v,rfl,Y,rv⟩:∃u v,l=[u,v]/\df (.ref p) u/\df (.ref q) v:=by cases r with|cons c1 r=>cases r with|cons c2 r=>cases r;exact⟨_,_,O,c1,c2⟩
 cases Y;cases rv;have y:=Hn I P;have B:=Hn I i;have far:∀{b:Addr} {ks:List dt},TK X.prog X.w s.heap ks b->b∉s.heap.objs.size::[s.heap.objs.size+1]:=λ{b ks} t z=>by
  obtain⟨o,_,_,e,_⟩:=t;have:=aL e;rcases aK.1 z with z|z
  .exact ao z (aT this)
  .exact ao (aW.1 z) (aT (dh this))
 have notin:s.heap.objs.size∉[s.heap.objs.size+1,a]:=by
  intro z;rcases aK.1 z with z|z
  .exact ao z (aT (dD _))
  .exact ao (aW.1 z) (dY (aL d))
 refine BW d j jI jj (by decide) (itO:={ cls:=.type "list_iterator", data:=.fields #[.ref a,.int 0 0] })
  (λA Q E s1 e k=>fQ ⟨o,e,j,n,hd⟩ k) (λtk R hR=>?_) h
 have f:∀{b:Addr} {x:Obj},s.heap.get? b=Z x->((s.heap.push (yS (!X.w.params.followText "set-order"))).push { cls:=.type "list_iterator", data:=.fields #[.ref a,.int 0 0] }).get? b=Z x:=λe=>aJ _ (aJ _ e);refine Pt (gW S _ a hne #[.ref p,.ref q]).toS notin ne (far y) (far B) (λv e=>(cu e).symm) (λv e=>(cu e).symm) (by show A.units+1+1+1<cLine;omega) ⟨⟨_,it O,O,O⟩,⟨o,f d,j,n,hd⟩⟩ (y.f5 λo=>f) (B.f5 λo=>f)
  (aJ _ (bg _ O)) ⟨O,O,O⟩ O λs2 mv C=>?_
 obtain⟨i,g2,d2,k2,U⟩:=s2;have M:g2=s.gens:=mv.gens;have F:d2=s.drawn:=mv.drawn;have N:U=s.os:=mv.os;subst M F N;exact hR i k2 C λb o hb e=>mv.heap b o (λz=>by
  rcases aK.1 z with z|z
  .exact ao z (aT hb)
  .exact ao (aW.1 z) (aT (dh hb))) (f e)
def N4(S:au->Hp->Addr->Nat->Prop)(K:au)(c:TE):TE:=λσ H Q=>c σ H λx b=>∃a n,x=.ref a/\S K b a n/\Q (.int n) b
def Pu{p2 p3:Pos}(hV:U9 X S)(P:X.A.units+64<cLine)(r:X.nr=γ)(g1:Gl X "len")(E:X.mg "len" = J)(g2:Gl X "set")(m2:X.mg "set" = J)(w:PE X e N)
  (f:aC [Expr.Call (.Name "set" p2) [e] [] p3] X.b5=[(δ,eval (.Call (.Name "set" p2) [e] [] p3) X.b5)]:=by rfl) (i:aC [e] X.b5=[(δ,eval e X.b5)]:=by rfl):PE X (.Call (.Name "len" R) [.Call (.Name "set" p2) [e] [] p3] [] T) (N4 S X.K N):=by
 intro pins s σ H Q I h;refine dQ (AW I g1 E pD ?_ (by decide) (by decide));refine callWith_builtin1 ?_ f O;rw[f];show ag _ _ (spliced [(δ,eval (.Call (.Name "set" p2) [e] [] p3) X.b5)]) _ _ s;refine dg ?_;refine dQ (AW I g2 m2 qt ?_ (by decide) (by decide));refine callWith_type1 (ff (wc w yM i p3 pins s σ H (λvs H1=>match vs with
  |[x]=>∃a n,x=.ref a/\S X.K H1 a n/\Q (.int n) H1
  |_=>False) I h) λus M ⟨vs,H1,c,r1,d⟩=>?_) i O
 match vs,r1,d with
 |[x],r1,d=>
 obtain⟨a,n,m,z,q⟩:=d;subst m;obtain⟨u,rfl,F⟩:=m? r1;cases F;refine hV c (c.ok.hd r) (by omega) z λp k2 l C=>?_;refine eI ?_;obtain⟨o,es,ep,t,y,hex,hd,B,hf,hn⟩:=l;have j:b? X pins σ H1 { M with heap:=p,toks:=k2 }:=c.f5 λb o e=>C b o (aL e) e;refine call_len_set y hex hd hf (by unfold scanBound at B;omega) ⟨.int n,H1,j.x? _,⟨_,by rw[hn]⟩,q⟩
def zu:bh->Option (List dt)
 |[]=>Z []
 |d::a=>match AB d,zu a with
  |some k,Z b=>Z (k::b)
  |_,_=>J
theorem xI:∀{a:bh} {c:bC} {ks:List dt},b1 G H a c->zu a=Z ks->c=ks.map kV
 |[],c,ks,r,e=>by cases e;unfold b1 at r;exact r
 |d::a,c,ks,r,e=>by
  unfold zu at e;cases b:AB d with
  |none=>rw[b]at e;cases e
  |some k=>
   cases f:zu a with
   |none=>rw[b,f]at e;cases e
   |some j=>rw[b,f]at e;cases e;unfold b1 at r;obtain⟨v,l,rfl,h,i⟩:=r;rw[A7 h b,xI i f];rfl
def xV(b:bh):Option D:=match zu b with
 |some a=>if a.length<=1000 then Z (.int (zP a).length)else J
 |none=>J
def X7:bh->Option D
 |[.c3 x,.c3 y]=>match zu x,zu y with
  |some a,Z b=>if a=b then J else Z (.int 2)
  |_,_=>J
 |_=>J
def D5(g:bh->Option D):D->Option D
 |.b3 a=>match xV a with
  |some r=>Z r
  |none=>g a
 |.c3 a=>xV a
 |.R a=>xV a
 |_=>J
def Va(h:xV a=Z r):D5 g (.b3 a)=Z r:=by show (match xV a with|some r=>Z r|none=>g a)=Z r;rw[h]
def MS(hK:X.K=G.K)(hO:∀{H a n},X5 X.K H a n->S X.K H a n)
  (E:∀{c d m b a i},g c=Z d->f3 X.K b a i->b1 G m c i->ux m b->∃n:Nat,S X.K b a n/\d=.int n)
  (h:PE X e (N4 S X.K (tF G f))):PE X e (tF G (c1 (D5 g) f)):=PE.c6 h λσ H Q I=>by
 obtain⟨F,N,z,d,u,R,e,k⟩:=I;obtain⟨x,B,l⟩:=DZ e;have key:∀{c:bh} {i:bC} {a:Addr} {m b:Hp},xV c=Z d->b1 G m c i->ux z m->c5 G F σ u m b->(f3 X.K b a i\/fu X.K b a i)->
   ∃A n,V.ref a=.ref A/\S X.K b A n/\Q (.int n) b:=λ{c i a m b} o rs s j t=>by
  unfold xV at o;cases y:zu c with
  |none=>rw[y]at o;cases o
  |some M=>
   rw[y]at o;simp only at o;split at o
   .rename_i P;cases o;rw[xI rs y]at t;exact⟨a,_,O,hO ⟨M,t,by unfold scanBound;omega,O⟩,k _ _ _ s j (wD _)⟩
   .cases o
 refine⟨F,N,z,x,u,R,B,λv m b s j r=>?_⟩;cases x with
 |b3 c=>
  unfold b6 at r;obtain⟨a,i,rfl,p,q⟩:=r;have t:f3 X.K b a i:=f3.of (j.sub _ _ p);replace l:(match xV c with|some r=>Z r|none=>g c)=Z d:=l;cases w:xV c with
  |some r=>rw[w]at l;cases l;exact key w q s j (.inl t)
  |none=>rw[w]at l;obtain⟨n,C,rfl⟩:=E l t q j.sub;exact⟨a,n,O,C,k _ _ _ s j (wD _)⟩
 |c3 c=>unfold b6 at r;obtain⟨a,i,rfl,p,q⟩:=r;rw[<-hK]at p;exact key l q s j (.inr (fu.mono j.sub p))
 |R c=>unfold b6 at r;obtain⟨a,i,rfl,p,q⟩:=r;rw[<-hK]at p;exact key l q s j (.inl (j.sub.seq p))
 |_=>cases l
def Vc(hK:X.K=G.K):∀{f d e b a h},X7 f=Z d->f3 X.K b a h->b1 G e f h->ux e b->∃n:Nat,X6 X.K b a n/\d=.int n:=λ{f d e b a h} c u l s=>by
 unfold X7 at c;split at c
 .rename_i x y;split at c
  .rename_i w z r t;split at c
   .cases c
   .rename_i A;cases c;unfold b1 b1 b1 at l;obtain⟨E,B,rfl,c1,F,C,rfl,c2,rfl⟩:=l;unfold b6 at c1 c2;obtain⟨p,I,rfl,i,m⟩:=c1;obtain⟨q,M,rfl,j,o⟩:=c2;rw[<-hK,xI m r]at i;rw[<-hK,xI o t]at j;exact⟨2,.inr ⟨p,q,w,z,u,fu.mono s i,fu.mono s j,A,O⟩,O⟩
  .cases c
 .cases c
end
def Vd(h:(ur P w).is k v=γ):df (kV k) v:=by
 rcases vh h with ⟨i,t,rfl,rfl⟩|⟨x,t,rfl,rfl⟩
 .exact⟨t,O⟩
 .exact⟨t,O⟩
def Itd(a:Addr)(o:Obj)(kvs:List (dt×V)):It:=
 ⟨λi H=>i<kvs.length/\H a=Z (.mu o (.dK kvs)),λi H x b=>b=H/\∃k z,kvs[i]?=Z (k,z)/\x=kV k,λi H=>kvs.length<=i/\H a=Z (.mu o (.dK kvs))⟩
section
variable{X:Cx}{pins:cB}{σ:St}{H:Hp}{s:ae}
def Fp(I:b? X pins σ H s)(e:H a=Z (.mu o (.dK kvs)))(hd:o.data=.dict i f):
  (a==cj)=δ/\s.heap.get? a=Z o/\∃b,KV kvs b/\s.heap.DictAt (ur X.prog X.w) a b f:=by
 obtain⟨c,_,y,b,r,p,j,h,d,l,q3,m⟩:=(show ee X.prog X.w H s.heap a (.mu o (.dK kvs)) from I.e? a _ e);rw[c]at d;cases d;rw[hd]at q3;cases q3;exact⟨y,c,b,r,o,i,c,l,hd,m⟩
def X8{kvs:List (dt×V)}{a:List (dt×ab)}(r:KV kvs a){i:Nat}{k:dt}{x:ab}(e:a[i]?=Z (k,x)):∃z,kvs[i]?=Z (k,z):=by
 induction r generalizing i with
 |nil=>cases e
 |@cons p q l d h _ b=>
  cases i with
  |zero=>obtain⟨c,pv⟩:=p;cases e;exact⟨pv,by rw[show c=k from h.1];rfl⟩
  |succ i=>exact b e
end
def Pw{K:au}(a it:Addr)(o:Obj)(kvs:List (dt×V)):Z? P w K tg (Itd a o kvs) [it] it (λi h=>∃es ep,o.data=.dict es ep/\h.IsKeyIter it a i kvs.length ep) where
 mem:=by simp
 obj:=λi h st b hb=>by
  have e:b=it:=by simpa using hb
  subst e;obtain⟨es,ep,hd,ob,e,c,d⟩:=st;exact⟨ob,e,λv z=>by rw[d]at z;cases z⟩
 keep:=λi h h' st k=>by obtain⟨es,ep,hd,x⟩:=st;exact⟨es,ep,hd,x.at λo e=>k it (by simp) o e⟩
 item:=by
  intro X hP hw hK B i pins s σ H E I hf st hg;subst hP hw hK;obtain⟨hi,p⟩:=hg;obtain⟨es,ep,hd,m⟩:=st;obtain⟨j,q,M,t,u,y⟩:=hf it (by simp);obtain⟨_,_,vs,r,da⟩:=Fp I p hd;have l:kvs.length=vs.length:=r.length;have hne:a≠it:=λz=>by subst z;rw[p]at j;cases j
  have W:=Walks.dictKeys (knd:=ur X.prog X.w) (A:=X.A) (I.ok.hd B) it a hne vs ep;refine W.item i s _ _ (by omega) ⟨by rw[<-l];exact m,da⟩ λv h' tk Q C T=>?_;obtain⟨k,x,R,N⟩:=Q;obtain⟨z,S⟩:=X8 r R;have F:b? X pins σ H { s with heap:=h',toks:=tk }:=I.j? (λb o hb e=>T b o (by simpa using hb) e) j q t u y;obtain⟨f,_⟩:=C;rw[<-l]at f;obtain⟨ob,e,c,d⟩:=id f;exact⟨v,O,Nv (s:={ s with heap:=h',toks:=tk }) e c d (by decide) ⟨kV k,H,F,Vd N,⟨O,k,z,S,O⟩,⟨es,ep,hd,f⟩,λb hb=>(hf b hb).1⟩⟩
 done:=by intro X hP hw hK B i pins s σ H E I hf st hg;subst hP hw hK;obtain⟨hi,p⟩:=hg;obtain⟨es,ep,hd,m⟩:=st;obtain⟨j,q,M,t,u,y⟩:=hf it (by simp);obtain⟨_,_,vs,r,da⟩:=Fp I p hd;have l:kvs.length=vs.length:=r.length;exact wpAny_pyNext_dict_end (I.ok.hd B) (by rw[<-l];exact m) da (gx (by rw[<-l];exact hi)) λh' G=>⟨O,I.j? (t':=s.toks) (λb o hb e=>G b o hb e) j q t u y⟩
 self:=λ_ _ _ _ _ st h=>by obtain⟨es,ep,hd,m⟩:=st;exact wpAny_pyIter_keyiter m h
section
variable{X:Cx}{G:Bg}{tg:Expr}
def iDic(c:TE):TI:=λd H R=>c d H λx b=>∃a o kvs,x=.ref a/\b a=Z (.mu o (.dK kvs))/\R (Itd a o kvs) b
def Ve(j:PE X l P):PI X tg l (iDic P):=by
 intro c s Q H R I h;refine ff (j c s Q H _ I h) λv d zz=>?_;obtain⟨x,m,f,N,M⟩:=zz;obtain⟨a,o,kvs,e,F,q⟩:=M;subst e;cases N;obtain⟨z,_,y,A,r,S,u,i,p,B,t,C⟩:=(show ee X.prog X.w m d.heap a (.mu o (.dK kvs)) from f.e? a _ F);rw[z]at p;cases p;have j:kvs.length=A.length:=r.length;refine wpAny_pyIter_dict (knd:=ur X.prog X.w) (kvs:=A) (ep:=i) y ⟨o,u,z,B,t,C⟩ ?_;refine⟨d.heap.objs.size,[d.heap.objs.size],_,_,m,O,f.f5 (t':=d.toks) λb o e=>aJ _ e,Pw a _ o kvs,⟨u,i,t,⟨_,bg _ O,O,by rw[j];rfl⟩⟩,λb E=>?_,q⟩;have e:b=d.heap.objs.size:=by simpa using E
 subst e;exact f.Y' (aO _) (f.e?.fresh (aO _))
def X9:dt->D
 |.inl i=>.int i
 |.inr x=>.str x
def Vf(k:dt):b6 G H (X9 k) (kV k):=by
 cases k with
 |inl i=>exact wD i
 |inr x=>exact A1 x
def iD(f:FE):FA:=λd=>match f d with
 |some (.Q b c,a)=>if b.length=c.length then Z (b.map X9,a)else J
 |_=>J
def RA(h:PI X tg e (iDic (tF G f))):PI X tg e (π G (iD f)):=PI.c6 h λσ H R Q=>by
 obtain⟨F,ρ,B,ds,ρ',R,e,k⟩:=Q;unfold iD at e;split at e
 .rename_i p M ρ1 N;split at e
  .rename_i x;cases e;refine⟨F,ρ,B,_,_,R,N,λv H1 C s w r=>?_⟩;unfold b6 at r;obtain⟨a,o,Y,rfl,q,W,r3⟩:=r;have A:(p.zip Y).length=p.length:=by rw[iF,<- W,iK]
   refine⟨a,o,_,O,w.sub _ _ q,k _ _ _ s w λi E I t u=>⟨λd c=>?_,λT=>?_⟩⟩
   .rw[bD]at c;cases m:p[i]? with
    |none=>rw[m]at c;cases c
    |some j=>
     rw[m]at c;cases c;have S:i<p.length:=(bX.1 m).1;refine⟨⟨by rw[A];exact S,u _ _ (t _ _ q)⟩,λz H3 y=>?_⟩;obtain⟨P,U,z',l,rfl⟩:=y;subst P;have:U=j:=by rw[List.getElem?_zip_eq_some]at l;have:=l.1;rw[m]at this;exact(cu this).symm
     subst this;exact⟨E,ux.refl _,u,ux.refl _,λb o e=>.inl e,Vf _⟩
   .refine⟨by rw[A,T,aq];exact aO _,u _ _ (t _ _ q)⟩
  .cases e
 .cases e
end
section
variable{X:Cx}{pins:cB}{σ:St}{H:Hp}{s:ae}
def b?.Y?{h':Heap}{T:Addr}{xs:bC}{t':Nat}{ch:List Addr}(I:b? X pins σ H s)(hf:∀b∈ch,IF X pins H b)(k:∀b o,b∉ch->s.heap.get? b=Z o->h'.get? b=Z o)
  (hT:s.heap.objs.size<=T) (new:ee X.prog X.w (en H T (.c3 xs)) h' T (.c3 xs)):b? X pins σ (en H T (.c3 xs)) { s with heap:=h',toks:=t' }:=by
 have nT:H T=J:=I.e?.fresh hT;have ne:∀{b:Addr} {u:HO},H b=Z u->b≠T:=λe z=>by subst z;rw[nT]at e;cases e
 have nch:∀{b:Addr} {u:HO},H b=Z u->b∉ch:=λe z=>by have:=(hf _ z).1;rw[e]at this;cases this
 have lt:∀{b:Addr} {o:Obj},s.heap.get? b=Z o->b≠T:=λe z=>by subst z;exact ao (bY (aL e) hT) (dW _)
 refine I.step (g':=s.gens) (d':=s.drawn) (ch:=ch) (λb hb=>?_) (λb o _ _ a e _=>k b o a e) (λb o _ _ a e _=>⟨o.slots,k b o a e⟩) (λb o _ e n=>by rw[uj (lt e)];exact n) (λb o a e=>⟨o,k b o a e⟩)
  (λb j e=>by rw[uj (ne e)];exact e) (λb o u e=>by rw[uj (ne e)];exact e) (λb ps e=>⟨#[],by rw[uj (ne e),e];simp⟩) (λm hm=>?_) (λb u e=>?_) I.ka
 .obtain⟨p,d,r,f,h,i⟩:=hf b hb;exact⟨f,d,h,i⟩
 .exact hm.at' λo e=>k _ o (λz=>(hf _ z).2.1 O) e
 .by_cases hb:b=T
  .subst hb;rw[uh]at e;cases e;exact new
  .rw[uj hb]at e;refine(I.e? b u e).T' (λc v a q=>k c v ?_ q) (λc q=>by rw[uj (ne q)];exact q) λc j q=>by rw[uj (ne q)];exact q
   rcases a with rfl|a
   .exact nch e
   .exact nch a
end
mutual
def u1(N c:Nat):D->Bool
 |.I=>γ
 |.O _=>γ
 |.int _=>γ
 |.str _=>γ
 |.c3 a=>yB N c a
 |.b3 a=>yB N c a
 |.R a=>yB N c a
 |.obj k _ a=>decide (k<N)&&decide (k≠c)&&yB N c a
 |.Q _ a=>yB N c a
 |.U _ a=>yB N c a
def yB(N c:Nat):bh->Bool
 |[]=>γ
 |d::a=>u1 N c d&&yB N c a
end
def without(H:Hp)(a:Addr):Hp:=λb=>if b=a then J else H b
def Ho{H:Hp}{a b:Addr}(h:b≠a):without H a b=H b:=by unfold without;rw[ai h]
def D6{H:Hp}{a b:Addr}{o:HO}(h:without H a b=Z o):b≠a/\H b=Z o:=by
 unfold without at h;by_cases c:b=a
 .rw[aj c]at h;cases h
 .rw[ai c]at h;exact⟨c,h⟩
def wL{H:Hp}{a b:Addr}{u v:HO}(e:H a=Z u)(c:H b=Z v)(d:u≠v):without H a b=Z v:=by rw[Ho (λz=>by subst z;rw[e]at c;exact d (cu c))];exact c
section
variable{G:Bg}{H:Hp}{a dx:Addr}{fs:List (Str×V)}{N c:Nat}
def Fq(b:H a=Z (.l? (G.ca c) dx fs)){p:Addr}{d:bC}(h:fu G.K H p d):fu G.K (without H a) p d:=by
 rcases h with (h|⟨o,h⟩)|h
 .exact .inl (.inl (wL b h (λz=>nomatch z)))
 .exact .inl (.inr ⟨o,wL b h (λz=>nomatch z)⟩)
 .exact .inr h
def LF(b:H a=Z (.l? (G.ca c) dx fs)){p:Addr}{d:bC}(h:f3 G.K H p d):f3 G.K (without H a) p d:=by
 rcases h with (h|⟨o,h⟩)|h
 .exact .inl (.inl (wL b h (λz=>nomatch z)))
 .exact .inl (.inr ⟨o,wL b h (λz=>nomatch z)⟩)
 .exact .inr h
mutual
theorem Fs(inj:∀j k,j<N->k<N->G.ca j=G.ca k->j=k)(t:c<N)(i:H a=Z (.l? (G.ca c) dx fs)):∀(d:D) (v:V),u1 N c d=γ->b6 G H d v->b6 G (without H a) d v
 |.I,v,_,h=>by unfold b6 at h ⊢;exact h
 |.O _,v,_,h=>by unfold b6 at h ⊢;exact h
 |.int _,v,_,h=>by unfold b6 at h ⊢;exact h
 |.str _,v,_,h=>by unfold b6 at h ⊢;exact h
 |.c3 l,v,n,h=>by unfold u1 at n;unfold b6 at h ⊢;obtain⟨p,f,e,m,r⟩:=h;exact⟨p,f,e,Fq i m,we inj t i l f n r⟩
 |.b3 l,v,n,h=>by unfold u1 at n;unfold b6 at h ⊢;obtain⟨p,f,e,m,r⟩:=h;exact⟨p,f,e,wL i m (λz=>nomatch z),we inj t i l f n r⟩
 |.R l,v,n,h=>by unfold u1 at n;unfold b6 at h ⊢;obtain⟨p,f,e,m,r⟩:=h;exact⟨p,f,e,LF i m,we inj t i l f n r⟩
 |.obj k M l,v,n,h=>by unfold u1 at n;simp only[aX,bQ]at n;unfold b6 at h ⊢;obtain⟨p,w,f,e,m,r,u⟩:=h;refine⟨p,w,f,e,wL i m (λz=>?_),r,we inj t i l f n.2 u⟩;injection z with I;exact n.1.2 (inj k c n.1.1 t I.symm)
 |.Q E l,v,n,h=>by unfold u1 at n;unfold b6 at h ⊢;obtain⟨p,o,f,e,m,r,u⟩:=h;exact⟨p,o,f,e,wL i m (λz=>nomatch z),r,we inj t i l f n u⟩
 |.U E l,v,n,h=>by unfold b6 at h ⊢;unfold u1 at n;obtain⟨b,f,rfl,⟨o,F,m,r,u,x,y,A⟩,B⟩:=h;exact⟨b,f,O,⟨o,F,wL i m (λz=>nomatch z),r,u,x,λq C=>Fq i (y q C),A⟩,we inj t i l f n B⟩
theorem we(inj:∀j k,j<N->k<N->G.ca j=G.ca k->j=k)(l:c<N)(i:H a=Z (.l? (G.ca c) dx fs)):∀(b:bh) (f:bC),yB N c b=γ->b1 G H b f->b1 G (without H a) b f
 |[],f,_,h=>by unfold b1 at h ⊢;exact h
 |d::b,f,n,h=>by unfold yB at n;simp only[aX]at n;unfold b1 at h ⊢;obtain⟨v,r,e,m,o⟩:=h;exact⟨v,r,e,Fs inj l i d v n.1 m,we inj l i b r n.2 o⟩
end
end
def Ad:Sl->Sl
 |.E d=>.E d
 |_=>.un
def CV(N:Nat)(f:FE):FE:=λa=>match a with
 |.ob c e b::r=>match f (.E (.obj c e b)::r.map Ad)with
  |some (d,_)=>if (decide (c<N)&&u1 N c d)=γ then Z (d,a)else J
  |none=>J
 |_=>J
section
variable{X:Cx}{G:Bg}
def MU{s:Sl}:(Ad s).gk=δ:=by cases s<;>rfl
def Vg{e:Expr}{f:FE}{N:Nat}(inj:∀j k,j<N->k<N->G.ca j=G.ca k->j=k)(h:PE X e (tF G f)):PE X e (tF G (CV N f)):=PE.c6 h λσ H Q T=>by
 obtain⟨F,ρ,H0,d,ρ',R,e,k⟩:=T;unfold CV at e;split at e
 .rename_i c ns ds r;rcases uK (f:=f) (ρ:=.E (.obj c ns ds)::r.map Ad)with w|⟨x,A,w⟩<;>simp only[w]at e
  .cases e
  split at e
  .rename_i hn;cases e;simp only[aX,bQ]at hn;obtain⟨a,dx,xs,I,M,y,W,P,S⟩:=R.sl 0 _ O;have RL:c5 G ⟨en H0 a (.l? (G.ca c) dx (ns.zip xs)),H,[]⟩ σ (.E (.obj c ns ds)::r.map Ad) (en H0 a (.l? (G.ca c) dx (ns.zip xs))) H:={
    sub:=λb o q=>by
     by_cases hb:b=a
     .subst hb;rw[uh]at q;cases q;exact M
     .rw[uj hb]at q;exact R.sub _ _ q
    g0:=ux.refl _
    keep:=λb o q _=>q
    fr:=λb o q=>.inl q
    am:=λb q=>by cases q
    len:=by have:=R.len;simpa using this
    sl:=λi s q=>by
     cases i with
     |zero=>cases q;exact⟨.ref a,I,by unfold b6;exact⟨a,dx,xs,O,uh,P,b1.mono (uy y _) _ _ S⟩⟩
     |succ i=>
      have l:(r.map Ad)[i]?=Z s:=q;rw[bD]at l;cases m:r[i]? with
      |none=>rw[m]at l;cases l
      |some t=>
       rw[m]at l;cases l;have ok:=R.sl (i+1) t m;cases t with
       |E d=>obtain⟨v,g1,g2⟩:=ok;exact⟨v,g1,b6.mono (uy y _) _ _ g2⟩
       |_=>trivial
    ap:=λi j s t b _ B _ so=>by
     cases i with
     |zero=>cases B;cases so
     |succ i=>
      have l:(r.map Ad)[i]?=Z s:=B;rw[bD]at l;cases m:r[i]? with
      |none=>rw[m]at l;cases l
      |some t=>rw[m]at l;cases l;rw[MU]at so;cases so }
   refine⟨_,_,_,d,A,RL,w,λv H1 p s u U=>?_⟩;have ha:H1 a=Z (.l? (G.ca c) dx (ns.zip xs)):=s _ _ uh;have C:ux H0 (without H1 a):=λb o q=>by
    have hb:b≠a:=λz=>by subst z;rw[y]at q;cases q
    rw[Ho hb];exact s b o (by rw[uj hb];exact q)
   refine k v (without H1 a) p C ?_ (Fs inj hn.1 ha d v hn.2 U);refine R.gi (λb o q=>u.keep b o q (by simp)) C (λb o q=>u.sub _ _ (D6 q).2) λb o q=>?_;obtain⟨hb,q⟩:=D6 q;rcases u.fr b o q with z|z
   .have E:en H0 a (.l? (G.ca c) dx (ns.zip xs)) b=Z o:=z;rw[uj hb]at E;exact .inl E
   .exact .inr z
  .cases e
 .cases e
end
section
variable{X:Cx}{pins:cB}{σ:St}{H:Hp}{s:ae}{a:Addr}{A:aM}{E:ab->ae->Prop}
theorem Ya(I:b? X pins σ H s)(e:H a=Z (.dK kvs))(M:df (kV k) u)(N:df z r)(P:kvs.length<aI)
  (l:∀v w f,xP kvs k=Z v->b? X pins σ H f->df v w->Q w f) (m:∀f,xP kvs k=J->b? X pins σ (en H a (.dK (l3 kvs k z))) f->Q r f):
  ag (model X.prog X.w) A (call (.builtin "dict.setdefault") [.ref a,u,r]) Q E s:=by
 obtain⟨y,hd,i,rel,h⟩:=V0 I.e? e;have G:i.length<=aI:=by rw[<-rel.length];exact y
 have t:(l3 kvs k z).length<=aI:=by have:=BO kvs k z;omega
 have b:=rel.val k;refine fD m9 h.typeIs F.entry_dict_setdefault (F.args_dict_setdefault_3 _ _ _) (kt_meets_setdefault (ur X.prog X.w) a (Fj M) hd r) ⟨i,h,G,λw C=>?_,λp j d B=>?_⟩
 .rw[C]at b;cases c:xP kvs k with
  |none=>rw[c]at b;exact b.elim
  |some v=>rw[c]at b;exact l v w _ c (I.x? _) b
 .rw[p]at b;cases c:xP kvs k with
  |some v=>rw[c]at b;exact b.elim
  |none=>have o:∃q,j.get? a=Z q:=let ⟨q,_,_,x,_⟩:=d;⟨q,x⟩;exact m _ c (Gr I (by rw[e];exact True.intro) B o (Qw t hd (rel.put k N) d))
def RB(e ty f:TE):TE:=λσ H Q=>e σ H λx c=>∃a,x=.ref a/\IsD c a/\ty σ c λy d=>f σ d λz b=>∃kvs k,b a=Z (.dK kvs)/\y=kV k/\kvs.length<aI/\
 (∀v,xP kvs k=Z v->Q v b)/\(xP kvs k=J->Q z (en b a (.dK (l3 kvs k z))))
theorem RD(U:PE X o td)(R:PE X e ty)(S:PE X f tx)(m:M2 X o "setdefault" apos e f cpos):PE X (.Call (.Attribute o "setdefault" apos) [e,f] [] cpos) (RB td ty tx):=by
 intro pins s σ H Q I h;refine gy m.b4 m.few m.line gz m9 F.type_dict_setdefault (ff (U pins s σ H _ I h) λu s1 zz=>?_);obtain⟨x,p,j,rx,a,G,d,W⟩:=zz;subst G;obtain rfl:u=Value.ref a:=rx;obtain⟨t1,t2,_⟩:=Kc j d;refine⟨t1,t2,?_⟩;rw[m.Bx];refine fN O (fO (dg (ff (R pins s1 σ p _ j W) λiv s2 ⟨y,q,t,ry,Y⟩=>
  dg (ff (S pins s2 σ q _ t Y) λfv s3 ⟨z,r,B,l,kvs,k,C,M,T,N,P⟩=>eI ?_))))
 subst M;exact Ya B C ry l T (λv w s' c b i=>⟨v,r,b,i,N v c⟩) λs' c b=>⟨z,_,b,l,P c⟩
end
def A8(a:List dt)(dss:List bh)(k:dt)(d:D):List dt×List bh:=
 if Gh a k=γ then (a,gh (λc b=>if c=k then b++[d]else b) a dss)else (a++[k],dss++[[d]])
def D7:Gh c k=γ ↔ k∈c:=by unfold Gh;rw[dS];exact⟨λ⟨x,a,b⟩=>bF b▸a,λh=>⟨k,h,bf O⟩⟩
def RE{b:List dt}{a:bC}:b.length=a.length->xP (b.zip a) k=Z v->∃j:Nat,b[j]?=Z k/\a[j]?=Z v:=by
 induction b generalizing a with
 |nil=>intro _ h;cases h
 |cons l b i=>
  intro c h;cases a with
  |nil=>cases c
  |cons m a=>
   unfold xP at h;rw[fq,dE]at h;by_cases e:l=k
   .subst e;simp only[decide_true]at h;cases h;exact⟨0,O,O⟩
   .simp only[e,decide_false]at h;obtain⟨j,d,f⟩:=i (by simpa using c) h;exact⟨j+1,d,f⟩
def RF{a:List dt}{b:bC}:a.length=b.length->xP (a.zip b) k=J->k∉a:=by
 induction a generalizing b with
 |nil=>intro _ _ h;cases h
 |cons i a f=>
  intro c h d;cases b with
  |nil=>cases c
  |cons j b=>
   unfold xP at h;rw[fq,dE]at h;by_cases e:i=k
   .subst e;simp only[decide_true]at h;cases h
   .simp only[e,decide_false]at h;rcases aK.1 d with z|z
    .exact e z.symm
    .exact f (by simpa using c) h z
structure V?(G:Bg)(F:Fr)(H0 H:Hp)(a:Addr)(ks:List dt)(dss:List bh)(bs:List Addr):Prop where
 i?:H a=Z (.dK (ks.zip (bs.map V.ref)))
 n0:H0 a=J
 nB:F.B a=J
 len:ks.length=bs.length
 D0:bs.length=dss.length
 nd:bs.Nodup
 kd:ks.Nodup
 each:∀(i:Nat) (b:Addr) (ds:bh),bs[i]?=Z b->dss[i]?=Z ds->∃xs,H b=Z (.b3 xs)/\H0 b=J/\F.B b=J/\b1 G H0 ds xs
section
variable{G:Bg}{F:Fr}{σ:St}{ρ:aP}{H0 H H0' H':Hp}{a:Addr}{ks:List dt}{dss:List bh}{bs:List Addr}
def V?.gi(g:V? G F H0 H a ks dss bs)(hs:ux H H')(h0:ux H0 H0')(hf:∀b o,H0' b=Z o->H0 b=Z o\/H b=J):V? G F H0' H' a ks dss bs where
 i?:=hs _ _ g.i?
 n0:=by
  cases q:H0' a with
  |none=>rfl
  |some o=>
   rcases hf a o q with z|z
   .rw[g.n0]at z;cases z
   .rw[g.i?]at z;cases z
 nB:=g.nB
 len:=g.len
 D0:=g.D0
 nd:=g.nd
 kd:=g.kd
 each:=λi b ds d e=>by
  obtain⟨xs,c,f,q3,h⟩:=g.each i b ds d e;refine⟨xs,hs _ _ c,?_,q3,b1.mono h0 _ _ h⟩;cases q:H0' b with
  |none=>rfl
  |some o=>
   rcases hf b o q with z|z
   .rw[f]at z;cases z
   .rw[c]at z;cases z
def c5.still(R:c5 G F σ ρ H0 H)(no:∀s∈ρ,s.gk=δ):c5 G ⟨H0,H,[]⟩ σ ρ H0 H where
 sub:=R.sub
 g0:=ux.refl _
 keep:=λb o e _=>e
 fr:=λb o e=>.inl e
 am:=λa h=>by cases h
 len:=R.len
 sl:=λi s e=>by
  have ok:=R.sl i s e;have n:=no s (cq e);cases s with
  |un=>trivial
  |E d=>exact ok
  |_=>cases n
 ap:=λi j s t b _ e _ so=>by rw[no s (cq e)]at so;cases so
theorem c5.touch(R:c5 G F σ ρ H0 H)(no:∀s∈ρ,s.gk=δ)(c:∀b o,H b=Z o->(H0 b≠J\/F.B b≠J)->H' b=Z o)(ha:∀b o,H b=Z o->∃f,H' b=Z f):c5 G F σ ρ H0 H' where
 sub:=λb o e=>c b o (R.sub _ _ e) (.inl (by rw[e];exact λz=>nomatch z))
 g0:=R.g0
 keep:=λb o e n=>c b o (R.keep b o e n) (.inr (by rw[e];exact λz=>nomatch z))
 fr:=R.fr
 am:=λb hb=>by obtain⟨o,e⟩:=R.am b hb;exact ha b o e
 len:=R.len
 sl:=λi s e=>by
  have ok:=R.sl i s e;have n:=no s (cq e);cases s with
  |un=>trivial
  |E d=>exact ok
  |_=>cases n
 ap:=λi j s t b _ e _ so=>by rw[no s (cq e)]at so;cases so
def Yc{bs:List Addr}(h:bs.Nodup){i j:Nat}{b:Addr}(c:bs[i]?=Z b)(d:bs[j]?=Z b):i=j:=by obtain⟨l,e⟩:=bX.1 c;obtain⟨m,f⟩:=bX.1 d;exact(kW h).1 (e.t f.symm)
def Yd{ks:List dt}(h:ks.Nodup){i j:Nat}{b:dt}(c:ks[i]?=Z b)(d:ks[j]?=Z b):i=j:=by obtain⟨l,e⟩:=bX.1 c;obtain⟨m,f⟩:=bX.1 d;exact(kW h).1 (e.t f.symm)
def V?.more(g:V? G F H0 H a ks dss bs){j:Nat}{k:dt}{b:Addr}{d:D}{v:V}{y:bC}(h:ks[j]?=Z k)(p:bs[j]?=Z b)(l:H b=Z (.b3 y))(I:b6 G H0 d v):
  V? G F H0 (en H b (.b3 (y++[v]))) a (A8 ks dss k d).1 (A8 ks dss k d).2 bs:=by
 have A:Gh ks k=γ:=D7.2 (cq h);unfold A8;rw[aj A];have E:a≠b:=λz=>by subst z;rw[g.i?]at l;cases l
 refine⟨by rw[uj E];exact g.i?,g.n0,g.nB,g.len,?_,g.nd,g.kd,λi c N o e=>?_⟩
 .rw[kC,<- g.D0,<- g.len,iK,g.len]
 .rw[List.getElem?_zipWith]at e;cases f:ks[i]? with
  |none=>rw[f]at e;cases e
  |some B=>
   cases t:dss[i]? with
   |none=>rw[f,t]at e;cases e
   |some m=>
    rw[f,t]at e;cases e;obtain⟨M,u,w,w3,x⟩:=g.each i c m o t;by_cases q:B=k
    .subst q;have r:=Yd g.kd f h;subst r;rw[o]at p;cases p;rw[u]at l;cases l;rw[aj O];exact⟨_,uh,w,w3,v3 x (uT I uP)⟩
    .rw[ai q];have C:c≠b:=λz=>by subst z;have r:=Yc g.nd o p;subst r;rw[f]at h;cases h;exact q O
     exact⟨M,by rw[uj C];exact u,w,w3,x⟩
theorem V?.fresh(g:V? G F H0 H a ks dss bs)(t:k∉ks)(q:H p=J)(C:H0 p=J)(hB:F.B p=J)(N:b6 G H0 d v):
  V? G F H0 (en (en (en H p (.b3 [])) a (.dK ((ks++[k]).zip ((bs++[p]).map V.ref)))) p (.b3 [v])) a (A8 ks dss k d).1 (A8 ks dss k d).2 (bs++[p]):=by
 have E:¬Gh ks k=γ:=λz=>t (D7.1 z);unfold A8;rw[ai E];have M:a≠p:=λz=>by subst z;rw[g.i?]at q;cases q
 have w:p∉bs:=λz=>by
  obtain⟨i,l,e⟩:=kE z;have b:bs[i]?=Z p:=by rw[aY l,e]
  obtain⟨j,f⟩:∃j,dss[i]?=Z j:=⟨dss[i]'(by rw[<-g.D0];exact l),aY _⟩;obtain⟨A,h,_⟩:=g.each i p j b f;rw[q]at h;cases h
 refine⟨by rw[uj M,uh],g.n0,g.nB,by simp[g.len],by simp[g.D0],?_,?_,λi c j b f=>?_⟩
 .rw[bZ];refine⟨g.nd,by simp,λx r y m=>?_⟩;rw[aW]at m;subst m;exact λz=>w (z▸r)
 .rw[bZ];refine⟨g.kd,by simp,λx r y m=>?_⟩;rw[aW]at m;subst m;exact λz=>t (z▸r)
 .by_cases l:i<bs.length
  .rw[fM l]at b;rw[fM (by rw[<-g.D0];exact l)]at f;obtain⟨A,h,P,w3,Q⟩:=g.each i c j b f;have u:c≠p:=λz=>w (z▸cq b);have I:c≠a:=λz=>by subst z;rw[g.i?]at h;cases h
   exact⟨A,by rw[uj u,uj I,uj u];exact h,P,w3,Q⟩
  .have o:i=bs.length:=by have:i<(bs++[p]).length:=(bX.1 b).1;rw[aR,cR]at this;omega
   subst o;rw[fL (aO _),qa]at b;rw[g.D0,fL (aO _),qa]at f;cases b;cases f;exact⟨[v],uh,C,hB,uT N uP⟩
def LG(G:Bg)(b:FE):TS:=P9 (tBM G.K "list" Kb (RB (CP 1) (tF G b) (tLst GQ)) (CS (CP 2) GQ))
theorem RG{T:Ends}{m:V}(R:c5 G F σ ρ H0 H)(no:∀s∈ρ,s.gk=δ)(h1:σ[1]?=Z (Z (.ref a)))(X:σ[2]?=Z (Z m))(rd:b6 G H0 d m)
  (g:V? G F H0 H a ks dss bs) (hk:fk ρ=Z (x,ρ)) (ek:AB x=Z k) (l1:ks.length<1000) (l2:∀l∈dss,l.length<1000)
  (kont:∀E I N,ux H0 E->c5 G F σ ρ E I->V? G F E I a (A8 ks dss k d).1 (A8 ks dss k d).2 N->T.nx σ I):LG G fk T σ H:=by
 refine⟨.ref a,h1,a,O,.inl ⟨_,.inl g.i?⟩,_,_,_,x,ρ,c5.still R no,hk,λv h f s M r=>?_⟩;have hs:ux H f:=λb o e=>M.keep b o e (by simp);have Y:∀b o,h b=Z o->H0 b=Z o\/H b=J:=M.fr;have R2:c5 G F σ ρ h f:=R.gi hs s M.sub Y;have u:V? G F h f a ks dss bs:=g.gi hs s Y;have A:=b6.mono s _ _ rd;refine⟨b7 _,λp i=>?_⟩;have np:a≠p:=λz=>by subst z;rw[u.i?]at i;cases i
 have U:c5 G F σ ρ h (en f p (.b3 [])):=R2.j0 i _;have P:V? G F h (en f p (.b3 [])) a ks dss bs:=u.gi (uy i _) (ux.refl _) λb o e=>.inl e;have lz:(ks.zip (bs.map V.ref)).length<aI:=by rw[iF,aq,<- g.len,iK,bN];omega
 refine⟨_,k,P.i?,A7 r ek,lz,λw C=>?_,λC=>?_⟩
 .obtain⟨j,e1,q⟩:=RE (by rw[aq];exact g.len) C;rw[bD]at q;cases t:bs[j]? with
  |none=>rw[t]at q;cases q
  |some b=>
   rw[t]at q;cases q;obtain⟨l,W⟩:∃l,dss[j]?=Z l:=⟨dss[j]'(by rw[<-g.D0];exact(bX.1 t).1),aY _⟩;obtain⟨S,Q,w2,w3,w4⟩:=P.each j b l t W;have lx:S.length<aI:=by rw[<-ug w4,bN];have:=l2 l (cq W);omega
   refine⟨.inl ⟨O,S,f3.of Q⟩,m,X,b,S,m,O,O,Q,lx,?_⟩;refine kont h _ bs s (c5.touch U no (λc o e z=>?_) λc o e=>?_) (P.more e1 t Q A)
   .have nc:c≠b:=λy=>by
     subst y;rcases z with z|z
     .exact z w2
     .exact z w3
    rw[uj nc];exact e
   .by_cases y:c=b
    .subst y;exact⟨_,uh⟩
    .rw[uj y];exact⟨o,e⟩
 .have nk:=RF (by rw[aq];exact g.len) C;have h0p:h p=J:=R2.fx i;have hBp:F.B p=J:=R2.g? i;have ez:l3 (ks.zip (bs.map V.ref)) k (.ref p)=(ks++[k]).zip ((bs++[p]).map V.ref):=by rw[Qu _ C,bK,lg (by rw[aq];exact g.len)];rfl
  rw[ez];have q0:en (en f p (.b3 [])) a (.dK ((ks++[k]).zip ((bs++[p]).map V.ref))) p=Z (.b3 []):=by rw[uj (λz=>np z.symm),uh]
  refine⟨.inl ⟨O,[],f3.of q0⟩,m,X,p,[],m,O,O,q0,by rw[bN];decide,?_⟩;refine kont h _ (bs++[p]) s (c5.touch U no (λc o e z=>?_) λc o e=>?_) (u.fresh nk i h0p hBp A)
  .have n1:c≠p:=λy=>by
    subst y;rcases z with z|z
    .exact z h0p
    .exact z hBp
   have n2:c≠a:=λy=>by
    subst y;rcases z with z|z
    .exact z u.n0
    .exact z u.nB
   rw[cv,uj n1,uj n2];exact e
  .by_cases y:c=p
   .subst y;exact⟨_,uh⟩
   .rw[uj y];by_cases y2:c=a
    .subst y2;exact⟨_,uh⟩
    .rw[uj y2];exact⟨o,e⟩
end
def BX(b:D->Option D):bh->List dt->List bh->Option (List dt×List bh)
 |[],a,dss=>Z (a,dss)
 |d::r,a,dss=>match b d with
  |some x=>match AB x with
   |some k=>if (decide (a.length<1000)&&dss.all λc=>decide (c.length<1000))=γ then BX b r (A8 a dss k d).1 (A8 a dss k d).2 else J
   |none=>J
  |none=>J
def MV(b:D->Option D):FS:=λc=>match c with
 |[.E (.b3 L),.un,.un]=>match BX b L [] []with
  |some (a,dss)=>Z (.rt (.Q a (dss.map .b3)) [.E (.b3 L),.un,.un])
  |none=>J
 |_=>J
section
variable{X:Cx}{G:Bg}
theorem Ft:∀(bs:List Addr) (dss:List bh),bs.length=dss.length->(∀(i:Nat) (b:Addr) (a:bh),bs[i]?=Z b->dss[i]?=Z a->∃c,d b=Z (.b3 c)/\b1 G d a c)->
  b1 G d (dss.map .b3) (bs.map V.ref)
 |[],[],_,_=>uP
 |[],_::_,h,_=>by cases h
 |_::_,[],h,_=>by cases h
 |b::bs,a::dss,h,k=>by obtain⟨c,j,l⟩:=k 0 b a O O;exact uT (CA j l) (Ft bs dss (by simpa using h) λi b a e f=>k (i+1) b a e f)
theorem Vh(R:c5 G F σ [.E (.b3 L),.un,s2] H0 H)(g:V? G F H0 H a ks dss bs)(o:Obj):
  ∃q,ux H0 q/\c5 G F σ [.E (.b3 L),.un,.un] q (en H a (.mu o (.dK (ks.zip (bs.map V.ref)))))/\b6 G q (.Q ks (dss.map .b3)) (.ref a):=by
 have r:∀{b:Addr},b∈bs->∃xs,H b=Z (.b3 xs)/\H0 b=J/\F.B b=J:=λ{b} hb=>by obtain⟨i,hi,e⟩:=kE hb;obtain⟨xs,h,m,w3,_⟩:=g.each i b (dss[i]'(by rw[<-g.D0];exact hi)) (by rw[aY hi,e]) (aY _);exact⟨xs,h,m,w3⟩
 have na:a∉bs:=λz=>by obtain⟨xs,h,_⟩:=r z;rw[g.i?]at h;cases h
 have p:ux H0 (λc=>if c=a then Z (.mu o (.dK (ks.zip (bs.map V.ref))))else if c∈bs then H c else H0 c):=λc u e=>by
  have f:c≠a:=λz=>by subst z;rw[g.n0]at e;cases e
  have l:c∉bs:=λz=>by obtain⟨_,_,m,_⟩:=r z;rw[m]at e;cases e
  show (if c=a then _ else if c∈bs then H c else H0 c)=_;rw[ai f,ai l];exact e
 refine⟨_,p,?_,?_⟩
 .exact {
   sub:=λc u e=>by
    have d:(if c=a then Z (HO.mu o (.dK (ks.zip (bs.map V.ref))))else if c∈bs then H c else H0 c)=Z u:=e;by_cases f:c=a
    .subst f;rw[aj O]at d;rw[uh];exact d
    .rw[ai f]at d;rw[uj f];by_cases l:c∈bs
     .rw[aj l]at d;exact d
     .rw[ai l]at d;exact R.sub _ _ d
   g0:=R.g0.t p
   keep:=λc u e n=>by rw[uj (λz=>by subst z;rw[g.nB]at e;cases e)];exact R.keep c u e n
   fr:=λc u e=>by
    have d:(if c=a then Z (HO.mu o (.dK (ks.zip (bs.map V.ref))))else if c∈bs then H c else H0 c)=Z u:=e;by_cases f:c=a
    .subst f;exact .inr g.nB
    .rw[ai f]at d;by_cases l:c∈bs
     .obtain⟨_,_,_,w3⟩:=r l;exact .inr w3
     .rw[ai l]at d;exact R.fr _ _ d
   am:=λc y=>by
    by_cases f:c=a
    .subst f;exact⟨_,uh⟩
    .rw[uj f];exact R.am c y
   len:=R.len
   sl:=λi s e=>by
    match i,e with
    |0,e=>cases e;obtain⟨v,h,m⟩:=R.sl 0 _ O;exact⟨v,h,b6.mono p _ _ m⟩
    |1,e=>cases e;trivial
    |2,e=>cases e;trivial
    |i+3,e=>cases e
   ap:=λi j s t b _ e _ so=>by
    match i,e with
    |0,e=>cases e;cases so
    |1,e=>cases e;cases so
    |2,e=>cases e;cases so
    |i+3,e=>cases e }
 .unfold b6;refine⟨a,o,bs.map V.ref,O,by show (if a=a then _ else _)=_;rw[aj O],by rw[aq];exact g.len,Ft bs dss g.D0 λi b ds w x=>?_⟩;obtain⟨xs,h,m,w3,C⟩:=g.each i b ds w x;have hb:=cq w;refine⟨xs,?_,b1.mono p _ _ C⟩;show (if b=a then _ else if b∈bs then H b else H0 b)=_;have A:b≠a:=λz=>na (by rw[<-z];exact hb);rw[ai A,aj hb];exact h
def RH{L:bh}{b:Sl}(h:b.gk=δ):∀s∈[Sl.E (.b3 L),.un,b],s.gk=δ:=λs a=>by
 simp only[aK,b0,or_false]at a;rcases a with rfl|rfl|rfl
 .rfl
 .rfl
 .exact h
inductive GI(G:Bg) (F:Fr) (Ha:Hp) (p:Addr) (L:bh) (vk:D->Option D) (KS:List dt) (DSS:List bh) (i:Nat) (σ':St) (H':Hp):Prop
 |mk (Hi:Hp) (ks:List dt) (dss:List bh) (bs:List Addr) (s2:Sl):ux Ha Hi->Sl.gk s2=δ->c5 G F σ' [.E (.b3 L),.un,s2] Hi H'->σ'[1]?=Z (Z (.ref p))->V? G F Hi H' p ks dss bs->BX vk (L.drop i) ks dss=Z (KS,DSS)->GI G F Ha p L vk KS DSS i σ' H'
def Px(h1:PS X st1 (EK Mz (zp 1)))(h2:PS X st2 (WQ (π G (iL (cV 0))) (zp 2) (LG G (c1 f (cV 2)))))
  (h3:PS X st3 (tRet (λw H Q=>CP 1 w H λx I=>Q x I\/∃a kvs,I a=Z (.dK kvs)/\∀o,Q x (en I a (.mu o (.dK kvs)))))):n9 X [st1,st2,st3] (l0 G (MV f)):=
 n9.c6 (BM h1 (BM h2 (J2 h3))) λE w H hh=>by
  obtain⟨F,ρ,H0,o,R,e,k,k2⟩:=hh;unfold MV at e;split at e
  .rename_i L;cases P:BX f L [] []with
   |none=>simp only[P]at e;cases e
   |some p=>
    obtain⟨KS,DSS⟩:=p;simp only[P]at e;cases e;intro p hp;have R1:c5 G F (w.set 1 (Z (.ref p))) [.E (.b3 L),.un,.un] H0 (en H p (.dK [])):=(R.j0 hp (.dK [])).set (i:=1) (v:=.ref p) (s:=.un) trivial (λz=>by cases z);have t:w.length=3:=R.len;have g1:V? G F H0 (en H p (.dK [])) p [] [] []:=⟨uh,R.fx hp,R.g? hp,O,O,iI,iI,λi b ds e1=>by cases e1⟩;have v1:(w.set 1 (Z (V.ref p)))[1]?=Z (Z (.ref p)):=by rw[ir (by rw[t];decide)]
    refine⟨_,_,_,L,_,c5.still R1 (RH O),O,λAt M Hb s B wk=>?_⟩;have hs:ux (en H p (.dK [])) Hb:=λb o e=>B.keep b o e (by simp);have R2:=R1.gi hs s B.sub B.fr;have g2:=g1.gi hs s B.fr;refine⟨λi m A h=>m=L.length - i/\i<=L.length/\GI G F M p L f KS DSS i A h,
     ⟨_,O,b7 _,M,[],[],[],.un,ux.refl _,O,R2,v1,g2,P⟩,?_⟩
    rintro i m d j ⟨rfl,hi,Hi,ks,dss,bs,s2,C,n2,l,vi,U,c⟩;by_cases hlt:i<L.length
    .have ed:L.drop i=L[i]::L.drop (i+1):=kl hlt;rw[ed]at c;unfold BX at c;cases T:f L[i]with
     |none=>simp only[T]at c;cases c
     |some x=>
      simp only[T]at c;cases S:AB x with
      |none=>simp only[S]at c;cases c
      |some kk=>
       simp only[S]at c;split at c
       .rename_i W;simp only[aX,bQ,ba]at W;obtain⟨go,yl⟩:=(wk i Hi j C l.sub).1 L[i] (aY hlt);refine .inr ⟨go,GI G F M p L f KS DSS (i+1),
         λA h q=>⟨L.length - (i+1),by omega,O,hlt,q⟩,λu h y=>?_⟩
        obtain⟨H2,t1,t2,t3,t4,t5⟩:=yl u h y;have Y:d.length=3:=l.len;have R3:c5 G F (d.set 2 (Z u)) [.E (.b3 L),.un,.E L[i]] H2 h:=(l.gi t3 t1 t2 t4).θ 2 t5;have w1:(d.set 2 (Z u))[1]?=Z (Z (.ref p)):=by rw[ji (by decide)];exact vi
        have w2:(d.set 2 (Z u))[2]?=Z (Z u):=by rw[ir (by rw[Y];decide)]
        refine RG R3 (RH O) w1 w2 t5 (U.gi t3 t1 t4) (by show c1 f (cV 2) _=_;unfold c1 cV;simp only[ja,mZ,T]) S W.1 (λds hd=>W.2 ds hd) λHc Hd N sc Rc gc=>?_;exact⟨Hc,_,_,N,_,C.t (t1.t sc),O,Rc,w1,gc,c⟩
       .cases c
    .have r:i=L.length:=by omega
     refine .inl ⟨(wk i Hi j C l.sub).2 r,?_⟩;subst r;rw[List.drop_length]at c;cases c;refine⟨.ref p,vi,.inr ⟨p,_,U.i?,λo=>?_⟩⟩;obtain⟨Hq,q1,q2,q3⟩:=Vh l U o;exact k _ _ Hq _ (s.t (C.t q1)) q2 q3
  .cases e
end
section
variable{X:Cx}{G:Bg}
def Vi:∀y b,vG "int" y=Z b->du X.K (y.val G) (.type "int")=Z b:=λy b h=>by
 cases y with
 |c k=>cases h
 |b n=>
  unfold vG at h;simp only at h
  iterate 7 (split at h;· rename_i e;subst e;cases h;first|rfl|kernel_rfl)
  cases h
def RI:∀y b,vG "bool" y=Z b->du X.K (y.val G) (.type "bool")=Z b:=λy b h=>by
 cases y with
 |c k=>cases h
 |b n=>
  unfold vG at h;simp only at h
  iterate 7 (split at h;· rename_i e;subst e;cases h;first|rfl|kernel_rfl)
  cases h
def kit_tuple:∀y b,vG "tuple" y=Z b->du X.K (y.val G) (.type "tuple")=Z b:=λy b h=>by
 cases y with
 |c k=>cases h
 |b n=>
  unfold vG at h;simp only at h
  iterate 7 (split at h;· rename_i e;subst e;cases h;first|rfl|kernel_rfl)
  cases h
end
end L4
namespace L4
open PySem PySem.Spec PySem.Calls PyProof.Rows PySem.W L2 L3
def Py{b:Type}(c:Nat->Nat->Bool):KasT b->b
 |.ret a=>a
 |.ask i j k=>Py c (k (c i j))
def ye{c:Type}(P:Nat->Nat->Prop)(R:c->Prop):KasT c->Prop
 |.ret a=>R a
 |.ask i j k=>P i j/\∀b,ye P R (k b)
theorem ye.run{b:Type}{P:Nat->Nat->Prop}{R:b->Prop}(c:Nat->Nat->Bool):∀(t:KasT b),ye P R t->R (Py c t)
 |.ret a,h=>h
 |.ask i j k,h=>ye.run c (k (c i j)) (h.2 (c i j))
theorem ye.bind{c e:Type}{P:Nat->Nat->Prop}{R:c->Prop}{S:e->Prop}{f:c->KasT e}(d:∀a,R a->ye P S (f a)):∀{t:KasT c},ye P R t->ye P S (t.bind f)
 |.ret a,h=>d a h
 |.ask i j k,h=>⟨h.1,λb=>ye.bind d (h.2 b)⟩
theorem N5{b:Type}{cmp:Nat->Nat->(Bool->ae->Prop)->ae->Prop}{c:Nat->Nat->Bool}{P:Nat->Nat->Prop}{s:ae}{Q:b->ae->Prop}(d:∀i j C,P i j->C (c i j) s->cmp i j C s):
  ∀{R:b->Prop} {t:KasT b},ye P R t->Q (Py c t) s->t.kasWp cmp Q s
 |R,.ret a,_,q=>q
 |R,.ask i j k,h,q=>d i j _ h.1 (N5 d (h.2 (c i j)) q)
def wG(n:Nat)(p:Array Nat):Prop:=p.toList.Perm (bz n)
theorem wG.getD(h:wG n p)(a:0<n)(i:Nat):p.getD i 0<n:=by
 unfold Array.getD;split
 .rename_i b;have:p[i]∈p.toList:=by simp
  exact cw.1 (h.mem_iff.1 this)
 .exact a
def wG.rev(h:wG n p)(i j:Nat):wG n (kas_rev p i j):=by unfold wG kas_rev mirror;exact(mO.1 (foldl_swaps_perm _ _ _ _)).t h
def wG.bub(h:wG n p)(i j:Nat):wG n (bubble p i j):=(mO.1 (bubble_perm _ _ _)).t h
abbrev In2(n:Nat):Nat->Nat->Prop:=λi j=>i<n/\j<n
theorem Kp(a:0<n)(h:wG n p):∀f k,ye (In2 n) (λ_=>True) (kas_asc p f k)
 |0,k=>trivial
 |f+1,k=>⟨⟨h.getD a _,h.getD a _⟩,λb=>by cases b<;>first|exact trivial|exact Kp a h f (k+1)⟩
theorem D8(a:0<n):∀f (p:Array Nat) k q,wG n p->ye (In2 n) (λr=>wG n r.1) (kas_desc f p k q)
 |0,p,k,q,h=>h
 |f+1,p,k,q,h=>⟨⟨h.getD a _,h.getD a _⟩,λb=>by
   cases b with
   |true=>
    show ye _ _ (if q > 0 then _ else _);split
    .exact D8 a f _ _ _ (h.rev _ _)
    .exact D8 a f _ _ _ h
   |false=>
    refine⟨⟨h.getD a _,h.getD a _⟩,λd=>?_⟩;cases d with
    |true=>exact h
    |false=>exact D8 a f _ _ _ h⟩
def LH(b:0<n)(h:wG n p)(k m:Nat):ye (In2 n) (λr=>wG n r.2) (kas_tail3 k m p):=
 ye.bind (P:=In2 n) (R:=λ_=>True) (S:=λ(r:Nat×Array Nat)=>wG n r.2) (f:=λm=>.ret (m,kas_rev p 0 k)) (λa _=>h.rev 0 k) (Kp b (h.rev 0 k) _ _)
def D9(a:0<n)(h:wG n p)(k m:Nat):ye (In2 n) (λr=>wG n r.2) (kas_descPart k m p):=
 ye.bind (λr b=>by
  show ye _ _ (if r.2.2 > 0 then _ else _);split
  .exact LH a (b.rev _ _) _ _
  .exact LH a b _ _) (D8 a _ p _ _ h)
def Pz(a:0<n)(h:wG n p)(m:Nat):ye (In2 n) (λr=>wG n r.2) (kas_count m p):=
 ye.bind (λk _=>by
  show ye _ _ (if (k==m)=γ then _ else _);split
  .exact h
  .split
   .refine⟨⟨h.getD a _,h.getD a _⟩,λb=>?_⟩;cases b with
    |true=>exact h
    |false=>exact D9 a (h.rev _ _) _ _
   .exact D9 a h _ _) (Kp a h _ _)
theorem EU(a:0<n)(h:wG n p)(k:Nat):∀f l r,ye (In2 n) (λ_=>True) (kas_place p k f l r)
 |0,l,r=>trivial
 |f+1,l,r=>by
  unfold kas_place;split
  .trivial
  .refine⟨⟨h.getD a _,h.getD a _⟩,λb=>?_⟩;cases b with
   |true=>exact EU a h k f _ _
   |false=>exact EU a h k f _ _
theorem N6(a:0<n):∀f (p:Array Nat) k,wG n p->ye (In2 n) (wG n) (kas_bin f p k)
 |0,p,k,h=>h
 |f+1,p,k,h=>ye.bind (λl _=>N6 a f _ _ (h.bub _ _)) (EU a h k _ _ _)
def Hr(a:0<n):ye (In2 n) (wG n) (jR n):=
 ye.bind (λr b=>by
  show ye _ _ (if r.1<n then _ else _);split
  .exact N6 a _ _ _ b
  .exact b) (Pz a (p:=List.toArray (bz n)) (by unfold wG;exact pE _) n)
def CB(a:Addr)(h c:Heap):Prop:=∀b o,b≠a->h.get? b=Z o->c.get? b=Z o
section
variable{prog:aF}{w:ay}{A:aM}{E:ab->ae->Prop}{s:ae}
def EV(c:Nat->Nat->Bool)(a:List ab):List ab:=(Py c (jR a.length)).toList.map λi=>a.getD i Value.none
def RJ(c:Nat->Nat->Bool)(a:List ab)(h:0<a.length):(EV c a).length=a.length:=by unfold EV;rw[aq];have:=(Hr h).run c _;rw[this.length_eq,dj]
def RK(c:Nat->Nat->Bool)(v:ab):EV c [v]=[v]:=rfl
def RM{vs:List ab}(u:s.heap.get? a=Z (seqObj "list" vs.toArray n))(B:0<vs.length)(F:vs.length<64)
  (W:∀(h':Heap) (C:SortKind->ae->Prop),CB a s.heap h'->C S { s with heap:=h' }->ag (model prog w) A (keyKind' vs.toArray) C (λ_ _=>False) { s with heap:=h' })
  (U:∀(h':Heap) (i j:Nat) (C:Bool->ae->Prop),CB a s.heap h'->i<vs.length/\j<vs.length->C (c i j) { s with heap:=h' }->jS prog w A S vs i j C { s with heap:=h' })
  (h:∀h' e,CB a s.heap h'->h'.get? a=Z (seqObj "list" (EV c vs).toArray e)->P (.done (.ret .none)) { s with heap:=h' }):
  ag (model prog w) A (ck.«list.sort» ⟨[.ref a],[]⟩) P E s:=by
 have ha:a<s.heap.objs.size:=aL u;obtain⟨z,R⟩:∃z,(s.heap.update a (dP λ_=>(#[]:Array ab))).get? a=Z (seqObj "list" #[] z):=⟨_,pf u λ_=>#[]⟩;generalize hw:((s.heap.update a (dP λ_=>(#[]:Array ab))).push (seqObj "tuple" vs.toArray 0)).push (seqObj "list" #[] 0)=d;have M:CB a s.heap d:=λb o hb q=>by rw[<-hw];exact aJ _ (aJ _ ((iu s.heap _ (cI hb)).t q))
 have t:d.get? a=Z (seqObj "list" #[] z):=by rw[<-hw];exact aJ _ (aJ _ R)
 rw[list_sort_plain];refine af (listItems_at u O (af (lF u O ?_ (by rw[bw,bN];omega) (b7 _))));refine af (l7 R O (af (pF ?_ (by show vs.length<=_;rw[bN];omega))));refine af (lG (bS ?_) (b7 _));show ag (model prog w) A _ P E { s with heap:=((s.heap.update a (dP λ_=>(#[]:Array ab))).push (seqObj "tuple" vs.toArray 0)).push (seqObj "list" #[] 0) };rw[hw];dsimp only;obtain⟨c2,I⟩:∃c2,(d.update a (dP λ_=>(EV c vs).toArray)).get? a=Z (seqObj "list" (EV c vs).toArray c2):=⟨_,pf t λ_=>(EV c vs).toArray⟩;have fin:=h _ c2 (λb o hb q=>(iu d _ (cI hb)).t (M b o hb q)) I;have szo:(EV c vs).toArray.size<=aI+1:=by rw[bw,RJ c vs B,bN];omega
 by_cases N:2<=vs.length
 .have m:¬vs.toArray.size<2:=by rw[bw];omega
  rw[ai m,ai m];refine af (b8 (W d (λk l=>k=S/\l={ s with heap:=d }) M ⟨O,O⟩) ?_ λ_ _ x=>x.elim);rintro k l ⟨rfl,rfl⟩;refine af (b8 (kat_run (Q:=λf l=>l={ s with heap:=d }/\(arrOf f).map (·.2)=(EV c vs).toArray/\failedOf f=J) (G:=λp l=>p=Py c (jR vs.length)/\l={ s with heap:=d }) O N F ?_ ?_) ?_ λ_ _ e=>e)
  .rintro p f l _ har hf ⟨rfl,rfl⟩;exact⟨O,kat_snds O har,hf⟩
  .exact N5 (P:=In2 vs.length) (λi j C q r=>U d i j C M q r) (Hr B) ⟨O,O⟩
  .rintro⟨⟨⟩,f⟩ l ⟨rfl,H,hf⟩;dsimp only;refine af (l7 t O ?_);rw[H,hf];refine af (lF t O ?_ (b7 _) szo);simp only[bne_self_eq_false,fj,if_false];exact ar fin
 .obtain⟨v,rfl⟩:∃v,vs=[v]:=by
   cases vs with
   |nil=>cases B
   |cons v r=>
    cases r with
    |nil=>exact⟨v,O⟩
    |cons x y=>exact ao (by simp) N
  refine af (ar ?_);refine af (ar ?_);refine af (l7 t O ?_);have T:qy (λx=>x.snd) (arrOf ((),SortSt.mk' general' (#[v].zip #[v]) #[] 7 J).snd)=(EV c [v]).toArray:=by rw[RK];show qy (λx=>x.snd) (#[v].zip #[v])=#[v];simp
  rw[T];refine af (lF t O ?_ (b7 _) szo);simp only[bne_self_eq_false,fj,if_false];exact ar fin
def MW{vs:List ab}(hT:T="list" \/ T="tuple")(x:s.heap.get? l=Z o)(hcl:o.cls=.type T)(hd:o.data=.seq vs.toArray n)(p:0<vs.length)(f:vs.length<64)
  (u:∀(h':Heap) (C:SortKind->ae->Prop),(∀b o,s.heap.get? b=Z o->h'.get? b=Z o)->C κ { s with heap:=h' }->ag (model prog w) A.in1.in1 (keyKind' vs.toArray) C (λ_ _=>False) { s with heap:=h' })
  (t:∀(h':Heap) (i j:Nat) (C:Bool->ae->Prop),(∀b o,s.heap.get? b=Z o->h'.get? b=Z o)->i<vs.length/\j<vs.length->C (c i j) { s with heap:=h' }->jS prog w A.in1.in1 κ vs i j C { s with heap:=h' })
  (h:∀(g h':Heap) e,(∀b o,s.heap.get? b=Z o->g.get? b=Z o)->(∀b o,g.get? b=Z o->h'.get? b=Z o)->h'.get? g.objs.size=Z (seqObj "list" (EV c vs).toArray e)->Q (.ref g.objs.size) { s with heap:=h' }):
  ag (model prog w) A (call (.builtin "sorted") [.ref l]) Q E s:=by
 refine mQ kind_sorted plain_sorted entry_sorted (args_sorted1 _) ?_;unfold ck.«sorted»;refine af (m:=checkCount "sorted" 1 1 _) (ar (af (wpAny_collect_seq l hT x hcl hd (λg d=>?_) (by rw[bN];simp;omega))));refine af (lG ?_ (by rw[bN];simp;omega));show ag _ _ _ _ _ { s with heap:=g.push (seqObj "list" vs.toArray 0) };have on:(g.push (seqObj "list" vs.toArray 0)).get? g.objs.size=Z (seqObj "list" vs.toArray 0):=bg _ O;have all:∀h',CB g.objs.size (g.push (seqObj "list" vs.toArray 0)) h'->∀b o,g.get? b=Z o->h'.get? b=Z o:=λh' a b o q=>a b o (aT (aL q)) (aJ _ q)
 show ag _ _ (do let _<-holding [Value.ref g.objs.size] _;_) _ _ _;refine af (bS (gE pG ⟨_,on,O⟩ ph ?_ (pH _)));refine RM (s:={ s with heap:=g.push (seqObj "list" vs.toArray 0) }) on p f (λh' C a q=>u h' C (λb o z=>all h' a b o (d b o z)) q) (λh' i j C a q r=>t h' i j C (λb o z=>all h' a b o (d b o z)) q r) λh' e a q=>?_;exact⟨_,O,ar ⟨_,O,h g h' e d (all h' a) q⟩⟩
end
def ltS(a b:Str):Bool:=decide (a.cps.toList<b.cps.toList)
def IQ:aH->aH->Bool
 |[],[]=>δ
 |[],_::_=>γ
 |_::_,[]=>δ
 |x::a,y::b=>if x=y then IQ a b else ltS x y
inductive zQ:List ab->aH->Prop
 |nil:zQ [] []
 |cons (x:Str) (t:Tok) {vs:List ab} {xs:aH} (h:zQ vs xs):zQ (.str x t::vs) (x::xs)
def MX(c:Nat->Nat->Bool)(n:Nat):List Nat:=(Py c (jR n)).toList
def EW(c:Nat->Nat->Bool)(h:0<n):(MX c n).Perm (bz n):=(Hr h).run c _
def Kq(c:Nat->Nat->Bool)(h:0<n):∀i∈MX c n,i<n:=λi a=>cw.1 ((EW c h).mem_iff.1 a)
theorem Js(r:c9 a c):∀(is:List Nat),(∀i∈is,i<a.length)->c9 (is.map λi=>a.getD i V.I) (is.map λi=>c.getD i Value.none)
 |[],_=>.nil
 |i::is,h=>by have b:=h i (.head _);obtain⟨u,e,f⟩:=r.get (aY b);refine .cons ?_ (Js r is λj d=>h j (.tail _ d));show df (a.getD i V.I) (c.getD i Value.none);rw[cD,cD,e,aY b];exact f
section
variable{X:Cx}{G:Bg}{pins:cB}{σ:St}{H:Hp}{s:ae}
def seq_val(I:b? X pins σ H s)(c:f3 X.K H a h\/fu X.K H a h):∃b,c9 h b/\∃T o n,(T="list" \/ T="tuple")/\s.heap.get? a=Z o/\o.cls=.type T/\o.data=.seq b.toArray n:=by
 rcases c with c|c
 .obtain⟨b,f,pl,_⟩:=I.list c;obtain⟨o,a1,d,n,e⟩:=pl.isList;exact⟨b,f,_,o,n,.inl O,a1,d,e⟩
 .obtain⟨b,f,⟨o,a1,d,n,e⟩,_⟩:=I.tuple c;exact⟨b,f,_,o,n,.inr O,a1,d,e⟩
def Fu:bh->Option aH
 |[]=>Z []
 |.str x::a=>match Fu a with
  |some b=>Z (x::b)
  |none=>J
 |_=>J
theorem Ht:∀{a:bh} {b:bC} {l:aH},b1 G H a b->Fu a=Z l->b=l.map V.str
 |[],b,l,r,e=>by cases e;unfold b1 at r;exact r
 |d::a,b,l,r,e=>by
  cases d with
  |str x=>
   unfold Fu at e;cases c:Fu a with
   |none=>rw[c]at e;cases e
   |some i=>rw[c]at e;cases e;unfold b1 at r;obtain⟨v,j,rfl,f,h⟩:=r;unfold b6 at f;subst f;rw[Ht h c,aA]
  |_=>cases e
theorem Jt(r:b1 G H a c):∀(is:List Nat),(∀i∈is,i<a.length)->b1 G H (is.map λi=>a.getD i .I) (is.map λi=>c.getD i V.I)
 |[],_=>uP
 |i::is,h=>by have b:=h i (.head _);obtain⟨v,e,f⟩:=yx r (aY b);refine uT ?_ (Jt r is λj d=>h j (.tail _ d));show b6 G H (a.getD i .I) (c.getD i V.I);rw[cD,cD,e,aY b];exact f
end
end L4
namespace L4
open PySem PySem.Spec PyProof.Rows L2 L3
def N7:List String:=["NoneType", "bool", "int", "str", "tuple", "list", "dict"]
def xW(n c:Nat):Ty->Option Bool:=λy=>match y with
 |.b x=>if N7.contains x=γ then Z δ else J
 |.c k=>if k<n then Z (k==c)else J
def vU(K:au)(cs:List Addr)(C:Addr)(c:Nat):Bool:=
 N7.all (λx=>du K (.type x) (.ref C)==Z δ)&&(bz cs.length).all λk=>du K (.ref (cs.getD k 0)) (.ref C)==Z (k==c)
def vB{B:Bg}(h:vU B.K cs (B.ca c) c=γ)(i:cs.length=n)(d:∀k,k<n->cs.getD k 0=B.ca k)(hI:∀k,k<n->Lw B.K (B.ca k)):Hl B c (xW n c):=by
 unfold vU at h;rw[aX,ba,ba]at h;refine⟨λy b e=>?_,λj b e=>?_⟩
 .cases y with
  |b x=>
   unfold xW at e;simp only at e;split at e
   .rename_i f;cases e;exact iR (h.1 x (nv.1 f))
   .cases e
  |c k=>
   unfold xW at e;simp only at e;split at e
   .rename_i a;cases e;have:=iR (h.2 k (cw.2 (by omega)));rw[d k a]at this;exact this
   .cases e
 .unfold xW at e;simp only at e;split at e
  .rename_i a;exact hI j a
  .cases e
def Ye{l:List Addr}(h:l.Nodup)(a:j<l.length)(b:k<l.length)(e:l.getD j 0=l.getD k 0):j=k:=by
 rw[cD,cD,aY a,aY b]at e;have c:=List.pairwise_iff_getElem.1 h;rcases Nat.lt_trichotomy j k with y|y|y
 .exact ao e (c j k a b y)
 .exact y
 .exact ao e.symm (c k j b a y)
section
variable{B:Bg}{K:au}{mg:Str->Option ab}{h:Heap}
def const_int(X:K.In h)(a:h.Ns aZ mg)(e:iY K aZ x=Z (Z (.int i t))):zS B mg x (.int i):=
 ⟨.int i,_,iW X a e,⟨_,O⟩,λ_=>wD _⟩
inductive A9:List ab->aH->Prop
 |nil:A9 [] []
 |cons {v:ab} {x:Str} {t:Tok} {vs:List ab} {xs:aH} (e:v=.str x t) (h:A9 vs xs):A9 (v::vs) (x::xs)
def A9.vals(h:A9 b c):c9 (c.map V.str) b:=by
 induction h with
 |nil=>exact .nil
 |cons e h a=>exact .cons ⟨_,e⟩ a
theorem Hu:∀a:aH,b1 B H (a.map D.str) (a.map V.str)
 |[]=>uP
 |x::a=>uT (A1 x) (Hu a)
def MY(c:aH)(X:B.K.In h)(d:h.Ns aZ mg)(e:iY B.K aZ x=Z (Z (.ref a)))(l:B.K.lookup a=Z o)(f:o.cls=.type "tuple")(hd:o.data=.seq b n)(i:b.size<=1000)
  (r:A9 b.toList c):zS B mg x (.c3 (c.map D.str)):=
 ⟨.ref a,_,iW X d e,O,λH=>DY (.inr ⟨o,b,n,l,f,hd,by rw[bN];omega,r.vals⟩) (Hu c)⟩
end
section
variable{f g' h:FS}{c:FT}{e e' e2:FE}{a a':FA}{ρ ρ' ρ1 ρ2 ρ3:aP}{d x y z:D}{ds xs ys:bh}{k:Nat}{d4:List Nat}{g:FG}{ft:FT}{fe:FE}
theorem Hv{i:Type}(j:i->D)(p:i->Bool)(h:i->D):∀l:List i,
  (∀a∈l,∃ρ1 ρ2,g (j a) (Du k d4 ρ)=Z ρ1/\ft ρ1=Z (p a,ρ2)/\(p a=γ->∃ρ3,fe ρ2=Z (h a,ρ3)/\xH d4 (ρ3.drop k) ρ=Z ρ)/\(p a=δ->xH d4 (ρ2.drop k) ρ=Z ρ))->
  BQ k d4 g ft fe (l.map j) ρ=Z ((l.filter p).map h,ρ)
 |[],_=>rfl
 |a::l,st=>by
  obtain⟨ρ1,ρ2,o,q,r,t⟩:=st a aN;have m:=Hv j p h l λa' A=>st a' (aQ _ A);rw[aA];unfold BQ;rw[o];simp only[q];cases b:p a with
  |true=>obtain⟨ρ3,u,w⟩:=r b;simp only[u,w,m,fW,b,if_true,aA]
  |false=>simp only[t b,m,fW,b];rfl
def Vj{i:Type}(b:i->D)(h:i->D)(l:List i)(st:∀a∈l,∃ρ1 ρ3,g (b a) (Du k d4 ρ)=Z ρ1/\fe ρ1=Z (h a,ρ3)/\xH d4 (ρ3.drop k) ρ=Z ρ):BQ k d4 g u6 fe (l.map b) ρ=Z (l.map h,ρ):=by have:=Hv (ft:=u6) b (λ_=>γ) h l λa p=>let ⟨ρ1,ρ3,j,m,o⟩:=st a p;⟨ρ1,ρ1,j,O,λ_=>⟨ρ3,m,o⟩,λz=>by cases z⟩;rw[this,jn.2 λ_ _=>O]
def wg(neg:Bool)(a b:Str):eo neg (.str a) (.str b)=Z (.O (if neg then !decide (a=b)else decide (a=b))):=by
 have e:Kk neg (.str a) (.str b)=Z (.O (if neg then !decide (V.str a=V.str b)else decide (V.str a=V.str b))):=rfl;have e2:decide (V.str a=V.str b)=decide (a=b):=by
  by_cases h:a=b
  .subst h;simp
  .rw[bj h,bj (λz=>h (by injection z))]
 unfold eo;rw[e,e2]
def RN(a:Str)(l:aH):inV (V.str a) (l.map V.str)=decide (a∈l):=by
 unfold inV;rw[cX,dS,bQ];constructor
 .rintro⟨v,o,i⟩;obtain⟨b,m,rfl⟩:=av.1 o;have:b=a:=by unfold eqV at i;simpa using i
  rw[<-this];exact m
 .intro j;refine⟨.str a,bP j,?_⟩;unfold eqV;simp
def PB(l:aH):(l.map D.str).all wK=γ:=by rw[qb,ba];intro x _;rfl
def Vk(l:aH):(l.map D.str).map vD=l.map V.str:=by rw[aV];rfl
def yC(neg:Bool)(a:Str)(l:aH):pk neg (.str a) (.b3 (l.map D.str))=Z (.O (if neg then !decide (a∈l)else decide (a∈l))):=by unfold pk;show (if wK (.str a)&&(l.map D.str).all wK then Z (D.O (if neg then !inV (vD (.str a)) ((l.map D.str).map vD)else inV (vD (.str a)) ((l.map D.str).map vD)))else J)=_;rw[PB,Vk];show Z (D.O (if neg then !inV (V.str a) (l.map V.str)else inV (V.str a) (l.map V.str)))=_;rw[RN]
def AD(neg:Bool)(a:Str)(l:aH):pk neg (.str a) (.c3 (l.map D.str))=Z (.O (if neg then !decide (a∈l)else decide (a∈l))):=yC neg a l
theorem Kr:∀bs:List Bool,IP (bs.map D.O)=Z bs
 |[]=>rfl
 |b::bs=>by rw[aA];unfold IP;rw[Kr bs];rfl
def RO(bs:List Bool):yP (.b3 (bs.map D.O))=Z (.O (bs.all id)):=by unfold yP;simp only[Kr];rfl
def RP(bs:List Bool):Gi (.b3 (bs.map D.O))=Z (.O (bs.any id)):=by unfold Gi;simp only[Kr];rfl
def Vl{b:Type}(l:List b)(p:b->Bool):yP (.b3 (l.map λa=>D.O (p a)))=Z (.O (l.all p)):=by rw[show (l.map λa=>D.O (p a))=(l.map p).map D.O by rw[aV];rfl,RO,qb];rfl
def N8{b:Type}(l:List b)(p:b->Bool):Gi (.b3 (l.map λa=>D.O (p a)))=Z (.O (l.any p)):=by rw[show (l.map λa=>D.O (p a))=(l.map p).map D.O by rw[aV];rfl,RP,List.any_map];rfl
theorem Hw:∀l:aH,zu (l.map D.str)=Z (l.map Sum.inr)
 |[]=>rfl
 |x::l=>by rw[aA];unfold zu;rw[Hw l];rfl
theorem RQ:∀(l acc:List dt),(acc++l).Nodup->l.foldl ddp acc=acc++l
 |[],acc,_=>by rw[bR];rfl
 |k::l,acc,h=>by
  have i:acc.any (λz=>decide (z=k))=δ:=by rw[ju];intro z;obtain⟨y,j,b⟩:=dS.1 z;rw[bZ]at h;exact h.2.2 y j k aN (bF b)
  rw[iG,show ddp acc k=acc++[k] by unfold ddp;rw[i];rfl,RQ l (acc++[k]) (by simpa using h)];simp
def AE{l:aH}(h:l.Nodup):(l.map (Sum.inr:Str->dt)).Nodup:=by unfold List.Nodup at h ⊢;rw[iC];exact h.imp λhne z=>hne (gj z)
def LI{l:aH}(h:l.Nodup)(b:l.length<=1000):xV (l.map D.str)=Z (.int l.length):=by unfold xV;rw[Hw];simp only[aq,b,if_true];unfold zP;rw[RQ _ [] (by simpa using AE h)];simp
def y9(neg:Bool)(a b:Int):eo neg (.int a) (.int b)=Z (.O (if neg then !decide (a=b)else decide (a=b))):=by
 have e:Kk neg (.int a) (.int b)=Z (.O (if neg then !decide (V.int a=V.int b)else decide (V.int a=V.int b))):=rfl;have e2:decide (V.int a=V.int b)=decide (a=b):=by
  by_cases h:a=b
  .subst h;simp
  .rw[bj h,bj (λz=>h (by injection z))]
 unfold eo;rw[e,e2]
def uv(b:e ρ=Z (.O γ,ρ1)):u9 e e' ρ=e' ρ1:=by unfold u9;rw[b]
def uA{g:Nat->Option (bh->Option D)}{m:Str}{c:Nat}{ns:aH}{hh:bh->Option D}(b:e ρ=Z (.obj c ns xs,ρ1))(i:g c=Z hh)(j:ns.contains m=δ)(l:a ρ1=Z (ys,ρ2))(o:hh (.obj c ns xs::ys)=Z d):uo g m e a ρ=Z (d,ρ2):=by unfold uo;rw[b];simp only[i,j,l,o];rfl
def vO{c:Nat}{g:bh->Option (aH×bh)}{b:aH}(i:a ρ=Z (ds,ρ1))(j:g ds=Z (b,xs)):uF c g a ρ=Z (.obj c b xs,ρ1):=by unfold uF;rw[i];simp only[j]
def Ae(i:ds.length=j)(h:b (L4.M? n ds)=Z (.nx ρ)):eg j n b ds=Z .I:=by unfold eg;rw[aj i,h]
def BY(i:ds.length=j)(h:b (L4.M? n ds)=Z (.rn xs ρ)):eg j n b ds=Z (.b3 xs):=by unfold eg;rw[aj i,h]
theorem AF:∀{b:List dt} {ds:bh} {k:dt} {d:D},b.Nodup->(k,d)∈b.zip ds->vI b ds k=Z d
 |[],_,k,d,_,h=>by simp at h
 |j::b,[],k,d,_,h=>by simp at h
 |j::b,l::ds,k,d,i,h=>by
  unfold vI;rw[fq]at h;rcases aK.1 h with e|h
  .cases e;rw[aj O]
  .rw[dm]at i;rw[ai (λz=>i.1 (by subst z;exact(jA h).1))];exact AF i.2 h
theorem Ju:∀{b:List dt} {ds:bh} {k:dt},k∉b->vI b ds k=J
 |[],ds,k,_=>by unfold vI;rfl
 |i::b,[],k,_=>by unfold vI;rfl
 |i::b,j::ds,k,h=>by unfold vI;rw[ai (λz=>h (by subst z;exact aN))];exact Ju λz=>h (aQ _ z)
end
end L4
namespace L4
open PySem PySem.Spec PyProof.Rows L2 L3
open PySem.W (nsIn findIn keepIn isFn makesIn fnOf)
def MZ{b:Type}:Nat->(List b->Prop)->Prop
 |0,P=>P []
 |n+1,P=>∀a,MZ n λl=>P (a::l)
theorem Gw{b:Type}:∀{n:Nat} {P:List b->Prop},MZ n P->∀l,l.length=n->P l
 |0,P,h,[],_=>h
 |n+1,P,h,a::l,e=>Gw (P:=λl=>P (a::l)) (h a) l (lY e)
structure CF(K:au)(C:Addr)(xs:aH):Prop where
 ci:Lw K C
 mks:makesIn K C=γ
 kp:keepIn K (.ref C)=γ
 na:(xs.all λx=>match findIn K (.ref C) x with|some J=>γ|_=>δ)=γ
theorem CF.at{K:au}(c:CF K C xs)(i:Nat)(h:xs[i]?=Z x):ZX K C/\zr K C x:=⟨c.ci.cl,by
 have e:=ba.1 c.na x (cq h);unfold zr;split at e
 .rename_i a;exact a
 .cases e⟩
def wV{Q:Nat->Prop}{i:Nat}(h:Q i):∀c,(c==i)=γ->Q c:=λc e=>by rw[beq_iff_eq]at e;subst e;exact h
def orQ{Q:Nat->Prop}{p:Nat->Bool}{i:Nat}(h:∀c,p c=γ->Q c)(a:Q i):∀c,(p c||c==i)=γ->Q c:=λc e=>by
 rw[jC]at e;rcases e with e|e
 .exact h c e
 .exact wV a c e
structure Yw(P:aF)(w:ay)(mg:Str->Option ab)(b4:Heap)(G:Bg):Prop where
 m:∃h:Heap,G.K.In h/\h.Ns aZ mg
section
variable{P:aF}{w:ay}{mg:Str->Option ab}{b4:Heap}{G:Bg}{x m qual:Str}{st:Stmt}{N ps:aH}{k c:Nat}{K:au}
def Yw.g(y:Yw P w mg b4 G)(e:nsIn G.K aZ x=Z (Z v)):mg x=Z v:=by obtain⟨h,X,a⟩:=y.m;exact iW X a e
def Yw.n(y:Yw P w mg b4 G){xs:aH}(h:(xs.all λx=>match nsIn G.K aZ x with|some J=>γ|_=>δ)=γ)(i:Nat)(d:xs[i]?=Z x):mg x=J:=by
 obtain⟨f,X,a⟩:=y.m;have e:=ba.1 h x (cq d);split at e
 .rename_i b;exact W.mg_none_of X a b
 .cases e
def GC(K:au)(x:Str)(i:Int):Prop:=∃t:Tok,nsIn K aZ x=Z (Z (.int i t))
def Yw.ci(y:Yw P w mg b4 G)(q:GC G.K x i):zS G mg x (.int i):=by obtain⟨h,X,a⟩:=y.m;obtain⟨t,e⟩:=q;exact const_int X a e
def GS(K:au)(x:Str)(d:aH):Prop:=∃(a:Addr) (o:Obj) (b:Array ab) (n:Nat),nsIn K aZ x=Z (Z (.ref a))/\K.lookup a=Z o/\o.cls=.type "tuple" /\ o.data=.seq b n/\b.size<=1000/\A9 b.toList d
def Yw.cs(y:Yw P w mg b4 G)(q:GS G.K x xs):zS G mg x (.c3 (xs.map D.str)):=by obtain⟨h,X,b⟩:=y.m;obtain⟨a,o,p,n,e,l,d,f,i,j⟩:=q;exact MY xs X b e l d f i j
def GD(K:au)(x:Str)(st:Stmt):Prop:=∃(f:Addr) (a:bU),nsIn K aZ x=Z (Z (.ref f))/\Fun K x x st f a
def GM(K:au)(C:Addr)(m qual:Str)(st:Stmt):Prop:=∃(f:Addr) (a:bU),findIn K (.ref C) m=Z (Z (.ref f))/\isFn K (.ref f)=γ/\Fun K m qual st f a
def GJ(K:au)(C:Addr)(qual:Str)(st:Stmt)(b:bC):Prop:=∃(f:Addr) (a:bU) (T:Addr) (o:Obj) (dl:List ab) (n:Nat),findIn K (.ref C) "__init__" = Z (Z (.ref f))/\isFn K (.ref f)=γ/\O7 K "__init__" qual st f a T/\K.lookup T=Z o/\o.data=.seq dl.toArray n/\c9 b dl
abbrev Bdy(P:aF)(w:ay)(K:au)(mg:Str->Option ab)(b4:Heap)(N:aH)(qual:Str)(st:Stmt)(k:Nat)(t:TS):Prop:=∀(f:Addr) (cdv:ab) (A:aM) (c4:List Env) (s:ae) (H:Hp) (E:XK),wb k (A.deeper (envOfC qual (uG st) s.heap.objs.size f cdv))->n9 (Hf P w K mg b4 N qual st f cdv A c4 s H E) (u0 st) t
abbrev Bds(x qual:Str)(st:Stmt)(ps:aH):Prop:=MZ ps.length λa=>∀(kV doc e:ab) (b:Option Addr) (cdv d:ab),bindArgs (fnOf x qual (xQ st) (u0 st) (uG st) .none kV doc e b cdv d) ⟨a,[]⟩=pure (ps.zip a)
theorem Bds.ok(b:Bds x qual st ps)(F:Fun K x qual st f e):ki K e ps []:=F.rl λkV doc i a cdv d j h=>Gw b j h kV doc i a cdv d
theorem gD(y:Yw P w mg b4 G)(q:GD G.K x st)(d:Bds x x st ps)(ok:∀f b,Fun G.K x x st f b->yb P w G.K mg b4 K? k f b ps e):Fm P w G.K mg b4 k x ps e:=by obtain⟨f,b,a,F⟩:=q;exact⟨f,b,y.g a,F.kp,d.ok F,ok f b F⟩
def gF(d:g=eg h n b)(y:Yw P w mg b4 G)(q:GD G.K x st)(S:wU N ps (uG st))(body:Bdy P w G.K mg b4 N x st k (l0 G b))(e:ps.length=h:=by rfl)(hN:N.length=n:=by rfl)(a:Bds x x st ps:=by (repeat intro _);rfl):Fm P w G.K mg b4 (k+1) x ps (fb G g):=
 gD y q a λf i F=>Q9 d e hN F S (body f)
def gN'(d:g=yr h n b)(y:Yw P w mg b4 G)(q:GD G.K x st)(S:wU N ps (uG st))(body:Bdy P w G.K mg b4 N x st k (l0 G b))(e:ps.length=h:=by rfl)(hN:N.length=n:=by rfl)(a:Bds x x st ps:=by (repeat intro _);rfl):Fm P w G.K mg b4 (k+1) x ps (tX G g):=
 gD y q a λf i F=>aa9 d e hN F S (body f)
def gI(h:g=vo c o n b)(y:Yw P w mg b4 G)(C:CF G.K (G.ca c) r)(a:nsIn G.K aZ x=Z (Z (.ref (G.ca c))))(q:GM G.K (G.ca c) "__init__" qual st)(S:wU N (p::ps) (uG st))(body:Bdy P w G.K mg b4 N qual st k (l0 G b))(j:ps.length=o:=by rfl)(hN:N.length=n:=by rfl)(d:Bds "__init__" qual st (p::ps):=by (repeat intro _);rfl):Kl G P w mg b4 (k+1) x c (p::ps) [] g:=by obtain⟨f,e,i,l,F⟩:=q;exact⟨f,e,[],⟨C.mks,i,l,C.kp⟩,y.g a,d.ok F,.nil,aba h j hN F S (body f)⟩
def LJ(h:c9 d b):b.length=d.length:=by
 induction h with
 |nil=>rfl
 |cons _ _ a=>rw[aS,aS,a]
def PD(h:c9 f e):∀j,c9 (f.drop j) (e.drop j):=by
 induction h with
 |nil=>intro j;rw[pU,pU];exact .nil
 |cons a b d=>
  intro j;cases j with
  |zero=>exact .cons a b
  |succ j=>exact d j
theorem gJ(E:g=vo c Q n b)(y:Yw P w mg b4 G)(C:CF G.K (G.ca c) R)(a:nsIn G.K aZ x=Z (Z (.ref (G.ca c))))(q:GJ G.K (G.ca c) qual st z)(S:wU N (p::ps) (uG st))(body:Bdy P w G.K mg b4 N qual st k (l0 G b))(j:Nat)(I:ps.length=Q:=by rfl)(hN:N.length=n:=by rfl)
  (A:MZ z.length λdl=>MZ ((p::ps).length - (z.drop j).length) λd=>∀(T:Addr) (kV doc u:ab) (h:Option Addr) (cdv t:ab),∃k,bindArgs (fnOf "__init__" qual (xQ st) (u0 st) (uG st) (.ref T) kV doc u h cdv t) ⟨d,[]⟩=seqItems? (.ref T)>>=k/\k (Z dl.toArray)=pure ((p::ps).zip (d++dl.drop j)):=by (repeat intro _);exact⟨_,O,O⟩):Kl G P w mg b4 (k+1) x c (p::ps) (z.drop j) g:=by
 obtain⟨f,B,T,o,dl,n,i,M,F,l,e,r⟩:=q;refine⟨f,B,dl.drop j,⟨C.mks,i,M,C.kp⟩,y.g a,F.rl l e λkV doc u h cdv t d H=>?_,PD r j,XU E I hN F S (body f)⟩;exact Gw (Gw A dl (LJ r)) d (by rw[H,jx,jx,LJ r]) T kV doc u h cdv t
end
end L4
namespace L4
open PySem PySem.Spec PyProof.Rows L2 L3
def P0(a b:Str):Bool:=decide (a.cps.toList<=b.cps.toList)
def BZ(a:aH):aH:=a.mergeSort P0
def Hy(a b c:Str)(h:P0 a b=γ)(d:P0 b c=γ):P0 a c=γ:=bf (List.le_trans (bF h) (bF d))
def Gx(a b:Str):(P0 a b||P0 b a)=γ:=by
 rw[jC];rcases List.le_total a.cps.toList b.cps.toList with h|h
 .exact .inl (bf h)
 .exact .inr (bf h)
def HA(a b:Str)(h:P0 a b=γ)(c:P0 b a=γ):a=b:=by have e:=List.le_antisymm (bF h) (bF c);cases a with|mk a=>cases b with|mk b=>cases a;cases b;simp only at e;rw[e]
theorem EX:∀(r:aH) (x:Str),risingS x r=γ->(∀y∈r,P0 x y=γ)/\r.Pairwise λa b=>P0 a b=γ
 |[],x,_=>⟨λy h=>(b0 h).elim,.nil⟩
 |z::r,x,h=>by
  unfold risingS at h;rw[aX,eJ,ltCps_eq]at h;obtain⟨j,l⟩:=h;obtain⟨d,i⟩:=EX r z l;have f:P0 x z=γ:=bf (of_decide_eq_false j);refine⟨λy c=>?_,.cons d i⟩;rcases aK.1 c with e|c
  .rw[e];exact f
  .exact Hy _ _ _ f (d y c)
def M0:∀l:aH,sortedS l=γ->l.Pairwise λa b=>P0 a b=γ
 |[],_=>.nil
 |x::r,h=>.cons (EX r x h).1 (EX r x h).2
def M3{l:aH}(p:l.Perm c)(h:sortedS l=γ):l=BZ c:=
 ko (λa b _ _=>HA a b) (M0 l h) (jb Hy Gx c) (p.t (iy c P0).symm)
theorem V9:∀{vs:List ab} {a:aH},kB vs a->c9 (a.map V.str) vs
 |_,_,.nil=>.nil
 |_,_,.cons x t h=>.cons ⟨t,O⟩ (V9 h)
section
variable{X:Cx}{G:Bg}{pins:cB}{σ:St}{H:Hp}{s:ae}
theorem HB:∀a:aH,b1 G H (a.map D.str) (a.map V.str)
 |[]=>uP
 |x::a=>uT (A1 x) (HB a)
def Jv:D->Option D
 |.int i=>Z (.int (-i))
 |_=>J
def Yf(m:PE X a (tF G f)):PE X (.UnaryOp .USub a pos) (tF G (c1 Jv f)):=PE.c6 (aav W3 m) λσ H Q o=>by
 obtain⟨F,p,c,d,q,R,e,k⟩:=o;unfold c1 at e;split at e
 .rename_i x t l;cases x with
  |int i=>simp only[Jv]at e;cases e;refine⟨F,p,c,_,_,R,l,λv h b s j r=>?_⟩;unfold b6 at r;subst r;exact⟨i,O,k _ h b s j (wD _)⟩
  |_=>simp only[Jv]at e;cases e
 .cases e
end
end L4
namespace L4
open PySem PySem.Spec PySem.Calls PyProof.Rows PySem.W L2 L3
structure Sto(c:Nat->Nat->Bool)(n:Nat):Prop where
 tr:∀i j k,i<n->j<n->k<n->c i j=γ->c j k=γ->c i k=γ
 tot:∀i j,i<n->j<n->i≠j->c i j=δ->c j i=γ
section
variable{X:Cx}{G:Bg}{pins:cB}{σ:St}{H:Hp}{s:ae}
def IR(K:au)(H:Hp)(y:V)(k:aH):Prop:=∃a p q,y=.ref a/\k=[p,q]/\fu K H a [.str p,.str q]
def RR(I:b? X pins σ H s)(h:IR X.K H y k)(r:df y u):∃a p q t v,u=.ref a/\k=[p,q]/\eX s.heap a #[.str p t,.str q v]:=by
 obtain⟨a,p,q,rfl,rfl,b⟩:=h;cases r;obtain⟨c,i,j,_⟩:=I.tuple b;cases i with
 |cons d e=>
  obtain⟨t,rfl⟩:=d;cases e with
  |cons q3 f=>obtain⟨v,rfl⟩:=q3;cases f;exact⟨a,p,q,t,v,O,O,j⟩
end
section
variable{prog:aF}{w:ay}{A:aM}{s:ae}
def It2(h:Heap)(b:List ab)(c:List aH):Prop:=∀i,i<b.length->∃a p q t v,b.getD i Value.none=.ref a/\c.getD i []=[p,q]/\eX h a #[.str p t,.str q v]/\b[i]?=Z (.ref a)
def PF(item:It2 s.heap b H)(G:0<b.length)(hC:C (tuples' γ) s):ag (model prog w) A (keyKind' b.toArray) C (λ_ _=>False) s:=by
 have A':∀(l:List ab),(∀v∈l,∃i,i<b.length/\b[i]?=Z v)->∃fs,KatTups s.heap l fs/\fs.length=l.length/\∀f∈fs,∃(x:Str) (t:Tok),f=.str x t:=λl=>by
  induction l with
  |nil=>exact λ_=>⟨[],KatTups.nil,O,λf hf=>by cases hf⟩
  |cons v l z=>
   intro c;obtain⟨fs,h,m,j⟩:=z λw y=>c w (.tail _ y);obtain⟨i,d,u⟩:=c v (.head _);obtain⟨a,p,q,t,w,_,_,⟨o,B,E,n,F⟩,r⟩:=item i d;rw[u]at r;cases r;refine⟨.str p t::fs,KatTups.cons B E F (by simp) h,by rw[aS,aS,m],λf hf=>?_⟩;rcases aK.1 hf with rfl|hf
   .exact⟨p,t,O⟩
   .exact j f hf
 obtain⟨fs,h,m,j⟩:=A' b λv c=>by obtain⟨i,d,e⟩:=kA.1 c;exact⟨i,d,by rw[aY d,e]⟩
 refine kat_kind (T:=.type "str") h (by omega) (λv c=>?_) (by decide) ?_
 .obtain⟨x,t,rfl⟩:=j v c;exact .now
 .rw[show (Value.type "str" != Value.type "tuple")=γ by decide];exact hC
def RT(item:It2 s.heap a e)(hij:i<a.length/\j<a.length)(hC:C (IQ (e.getD i []) (e.getD j [])) s):jS prog w A (tuples' γ) a i j C s:=by
 obtain⟨a1,b,c,f,l,q,x,⟨F,t,c1,B,o⟩,_⟩:=item i hij.1;obtain⟨z,p2,d,h,m,r,y,⟨G,u,c2,E,p⟩,_⟩:=item j hij.2;unfold jS;rw[q,r];rw[x,y]at hC;refine kat_lt t o u p ?_;show KatLex _ _ _ _ _ _ [(Value.str b f,Value.str p2 h),(Value.str c l,Value.str d m)] 0 _;refine kat_cons (kG b f p2 h _ _ _ _ ?_);unfold IQ at hC;by_cases hpp:b=p2
 .subst hpp;rw[aj O]at hC;rw[beq_self_eq_true];refine kat_yes (kat_cons (kG c l d m _ _ _ _ ?_));unfold IQ at hC;by_cases hqq:c=d
  .subst hqq;rw[aj O]at hC;rw[beq_self_eq_true];exact kat_yes (kat_nil hC)
  .rw[ai hqq]at hC;rw[beq_false_of_ne hqq];exact kat_no (kat_one _ _ (tu hC))
 .rw[ai hpp]at hC;rw[beq_false_of_ne hpp];exact kat_no (oneLt_str hC)
end
section
variable{X:Cx}{G:Bg}{pins:cB}{σ:St}{H:Hp}{s:ae}
def Ks(hu:X.A.units+64<cLine):vZ X (.builtin "sorted") (λxs H Q=>∃(a:Addr) (d:bC) (ks:List aH),xs=[.ref a]/\f3 X.K H a d/\0<d.length/\d.length<64/\ks.length=d.length/\(∀(i:Nat) (y:V) (k:aH),d[i]?=Z y->ks[i]?=Z k->IR X.K H y k)/\
  ∀p,H p=J->Q (.ref p) (en H p (.b3 ((MX (λi j=>IQ (ks.getD i []) (ks.getD j [])) d.length).map λi=>d.getD i V.I)))):=by
 intro pins s σ H xs us Q I r h;obtain⟨a,d,ks,rfl,hq,R,S,hkl,Y,q⟩:=h;obtain⟨u,rfl,w⟩:=m? r;cases w;obtain⟨f,m,T,ob,nn,hT,F,M,N⟩:=seq_val I (.inl hq);have U:d.length=f.length:=m.length;have item:∀{h':Heap},(∀b o,s.heap.get? b=Z o->h'.get? b=Z o)->It2 h' f ks:=λ{h'} l i hi=>by
  have E:b? X pins σ H { s with heap:=h',toks:=s.toks }:=I.f5 l;have B:i<d.length:=by omega
  have z:i<ks.length:=by omega
  obtain⟨u,e,w⟩:=m.get (aY B);obtain⟨a,p,q,t,v,rfl,P,ti⟩:=RR E (Y i _ _ (aY B) (aY z)) w;refine⟨a,p,q,t,v,?_,?_,ti,e⟩
  .rw[cD,e];rfl
  .rw[cD,aY z];exact P
 refine MW (κ:=tuples' γ) (c:=λi j=>IQ (ks.getD i []) (ks.getD j [])) hT F M N (by omega) (by omega) (λh' C l hC=>PF (s:={ s with heap:=h' }) (item l) (by omega) hC) (λh' i j C l hij hC=>RT (s:={ s with heap:=h' }) (item l) hij hC) λg h' e k1 k2 W=>?_
 .have x:b? X pins σ H { s with heap:=g,toks:=s.toks }:=I.f5 k1;refine⟨.ref g.objs.size,_,x.laid (t':=s.toks) k2 (aO _) ?_,O,q _ (x.e?.fresh (aO _))⟩;have hn:0<d.length:=R;refine⟨?_,EV _ f,e,?_,W⟩
  .rw[aq,(EW _ hn).length_eq,dj,bN];omega
  .unfold EV;rw[<-U];exact Js m _ λi hi=>Kq _ hn i hi
end
def RU:D->Option aH
 |.c3 [.str p,.str q]=>Z [p,q]
 |_=>J
def B2:bh->Option (List aH)
 |[]=>Z []
 |d::a=>match RU d,B2 a with
  |some k,Z b=>Z (k::b)
  |_,_=>J
def HC(a:bh):Option bh:=match B2 a with
 |some b=>if 0<a.length/\a.length<64 then Z ((MX (λi j=>IQ (b.getD i []) (b.getD j [])) a.length).map λi=>a.getD i .I)else J
 |none=>J
def EY(f:FE):FA:=λd=>match f d with
 |some (.b3 b,a)=>match HC b with
  |some c=>Z (c,a)
  |none=>J
 |_=>J
section
variable{X:Cx}{G:Bg}{H:Hp}
def RV(r:b6 G H d v)(e:RU d=Z k):IR G.K H v k:=by
 unfold RU at e;split at e
 .rename_i p q;cases e;unfold b6 at r;obtain⟨a,t,rfl,i,b⟩:=r;unfold b1 at b;obtain⟨m,j,rfl,c,f⟩:=b;unfold b1 at f;obtain⟨o,l,rfl,q3,h⟩:=f;unfold b1 at h;unfold b6 at c q3;subst h c q3;exact⟨a,p,q,O,O,i⟩
 .cases e
theorem Jw:∀{a:bh} {b:List aH},B2 a=Z b->b.length=a.length
 |[],b,e=>by cases e;rfl
 |d::a,b,e=>by
  unfold B2 at e;cases c:RU d with
  |none=>rw[c]at e;cases e
  |some k=>
   cases f:B2 a with
   |none=>rw[c,f]at e;cases e
   |some h=>rw[c,f]at e;cases e;rw[aS,aS,Jw f]
theorem Jx:∀{a:bh} {f:List aH} {h:bC},b1 G H a h->B2 a=Z f->∀(i:Nat) (y:V) (k:aH),h[i]?=Z y->f[i]?=Z k->IR G.K H y k
 |[],f,h,r,e,i,y,k,l,c=>by cases e;cases c
 |d::a,f,h,r,e,i,y,k,l,c=>by
  unfold B2 at e;cases b:RU d with
  |none=>rw[b]at e;cases e
  |some q=>
   cases j:B2 a with
   |none=>rw[b,j]at e;cases e
   |some m=>
    rw[b,j]at e;cases e;unfold b1 at r;obtain⟨v,t,rfl,o,p⟩:=r;cases i with
    |zero=>cases l;cases c;exact RV o b
    |succ i=>exact Jx p j i y k l c
theorem IR.mono{K:au}(s:ux b c)(h:IR K b y k):IR K c y k:=by obtain⟨a,p,q,d,e,f⟩:=h;exact⟨a,p,q,d,e,fu.mono s f⟩
def LK(h:PE X e (ι (λu H Q=>∃(a:Addr) (c:bC) (l:List aH),u=[.ref a]/\f3 G.K H a c/\0<c.length/\c.length<64/\l.length=c.length/\(∀(i:Nat) (y:V) (k:aH),c[i]?=Z y->l[i]?=Z k->IR G.K H y k)/\
  ∀p,H p=J->Q (.ref p) (en H p (.b3 ((MX (λi j=>IQ (l.getD i []) (l.getD j [])) c.length).map λi=>c.getD i V.I)))) (v? G (ax f uI)))):PE X e (F? G (EY f)):=PE.c6 h λσ H Q t=>by
 obtain⟨F,W,A,es,Y,R,e,k⟩:=t;unfold EY at e;split at e
 .rename_i q ρ1 C;cases b:HC q with
  |none=>simp only[b]at e;cases e
  |some E=>
   simp only[b]at e;cases e;unfold HC at b;cases m:B2 q with
   |none=>simp only[m]at b;cases b
   |some l=>
    simp only[m]at b;split at b
    .rename_i t;obtain⟨P,M⟩:=t;cases b;refine⟨F,W,A,[.b3 q],_,R,by unfold ax;rw[C];rfl,λc H1 B s d rs=>?_⟩;unfold b1 at rs;obtain⟨v,r0,rfl,z,x⟩:=rs;unfold b1 at x;subst x;unfold b6 at z;obtain⟨a,u,rfl,I,r⟩:=z;have w:=ug r;refine⟨a,u,l,O,f3.of (d.sub _ _ I),by omega,by omega,by rw[Jw m,w],λi y S T U=>IR.mono d.sub (Jx r m i y S T U),λp o=>?_⟩;refine k p _ _ _ s (d.j0 o _) uh (d.fx o) (d.g? o) (d.apart o) ?_;rw[<-w];exact Jt r _ λi N=>Kq _ P i N
    .cases b
 .cases e
def IS(d:X.A.units+64<cLine)(hK:X.K=G.K:=by rfl):vZ X (.builtin "sorted") (λe H Q=>∃(a:Addr) (b:bC) (c:List aH),e=[.ref a]/\f3 G.K H a b/\0<b.length/\b.length<64/\c.length=b.length/\(∀(i:Nat) (y:V) (k:aH),b[i]?=Z y->c[i]?=Z k->IR G.K H y k)/\
  ∀p,H p=J->Q (.ref p) (en H p (.b3 ((MX (λi j=>IQ (c.getD i []) (c.getD j [])) b.length).map λi=>b.getD i V.I)))):=by rw[<-hK];exact Ks d
end
end L4
namespace L4
open PySem PySem.Spec PyProof.Rows L2 L3
structure Bz where
 P:aF
 w:ay
 mg:Str->Option ab
 b4:Heap
 G:Bg
structure ZE(X:Cx)(B:Bz)(e:Expr)(f:FE):Prop where p:PE X e (tF B.G f)
structure ZN(X:Cx)(B:Bz)(e:Expr)(f:FA):Prop where p:PE X e (F? B.G f)
structure ZT(X:Cx)(B:Bz)(e:Expr)(f:FT):Prop where p:PT X e (n7 B.G f)
structure ZW(X:Cx)(B:Bz)(e:Expr)(f:FT):Prop where p:PW X e (n7 B.G f)
structure ZF(X:Cx)(B:Bz)(e:List Expr)(f:FT):Prop where p:PIf X e (n7 B.G f)
structure ZA(X:Cx)(B:Bz)(e:List Expr)(f:FA):Prop where p:PA X e (v? B.G f)
structure ZS(X:Cx)(B:Bz)(e:Stmt)(f:FS):Prop where p:PS X e (l0 B.G f)
structure ZB(X:Cx)(B:Bz)(e:List Stmt)(f:FS):Prop where p:n9 X e (l0 B.G f)
structure ZI(X:Cx)(B:Bz)(tg e:Expr)(f:FA):Prop where p:PI X tg e (π B.G f)
structure ZO(X:Cx)(B:Bz)(e:Option Expr)(f:FO):Prop where p:PO X e (tFO B.G f)
structure ZG(X:Cx)(B:Bz)(e:Expr)(n:Nat)(f:FG):Prop where p:PG X e (tFG B.G n f)
structure ZH(X:Cx)(B:Bz)(e:List Expr)(n:Nat)(f:bh->aP->Option aP):Prop where p:ZY X e (QO B.G n f)
structure ZK(X:Cx)(e:Option Expr)(i:Option Int):Prop where p:PO X e (tO i)
abbrev Gz(X:Cx)(x:Str):Prop:=X.b5.kindOf x=Z .globalImplicit
abbrev Dz(x:Str):Prop:=(x==("__debug__" : Str))=δ
abbrev Nz(x:Str):Prop:=(decide (x≠"__name__")&&!(x==("__debug__" : Str)))=γ
abbrev Sz(X:Cx)(e:Expr)(a:List Expr):Prop:=aC (e::a) X.b5=(δ,eval e X.b5)::aC a X.b5
abbrev S1(X:Cx)(e:Expr):Prop:=aC [e] X.b5=[(δ,eval e X.b5)]
abbrev Lz(X:Cx)(pos:Pos)(a:List Expr):Prop:=(bI pos (aC a X.b5)).any (·.1)=δ
abbrev Wz(X:Cx)(e o:Expr)(pos:Pos):Prop:=dq e (Z o) pos.line X.b5=pure δ
abbrev Az(X:Cx)(o:Expr)(m:Str):Prop:=fC o m X.b5 (eval o X.b5)=eval o X.b5
abbrev Ez(p pos:Pos):Prop:=(p.endLine==pos.line)=γ
abbrev Iz(e:Expr):Prop:=(λo i=>subscripted e δ o i)=λo i=>operate [o,i] (getItem o i)
abbrev Fz(X:Cx)(e:Expr):Prop:=(λx=>iA e X.b5 x)=λx=>pure x
class Cz(X:Cx)(B:outParam Bz)(k:outParam Nat):Prop where
 P:X.prog=B.P
 w:X.w=B.w
 K:X.K=B.G.K
 mg:X.mg=B.mg
 b:X.b4=B.b4
 c:X.nr=γ
 r:wb k X.A
class Yb(B:Bz):Prop where y:Yw B.P B.w B.mg B.b4 B.G
class Df(B:Bz)(j:outParam Nat)(x:Str)(sp:Sp):Prop where p:∃ps,Fm B.P B.w B.G.K B.mg B.b4 j x ps sp
class Kf(B:Bz)(j:outParam Nat)(x:Str)(c:Nat)(g:bh->Option (aH×bh))(dds:bh):Prop where
 p:∃ps,Kl B.G B.P B.w B.mg B.b4 j x c ps (dds.map vD) g
 f:dds.all wK=γ
class Mf(B:Bz)(j:outParam Nat)(m:Str)(g:Nat->Option (bh->Option D)):Prop where p:∀c h,g c=Z h->A5 B.G B.P B.w B.mg B.b4 j m c h
class Ff(B:Bz)(ok:Nat->Bool)(f:Str):Prop where p:∀c,ok c=γ->ZX B.G.K (B.G.ca c)/\zr B.G.K (B.G.ca c) f
class Af(B:Bz)(c:Nat)(xs:outParam aH):Prop where p:CF B.G.K (B.G.ca c) xs
class Nb(B:Bz)(x:Str):Prop where p:B.mg x=J
class Co(B:Bz)(x:Str)(d:D):Prop where p:zS B.G B.mg x d
class Ic(B:Bz)(x:Str)(t:Ty->Option Bool):Prop where p:∃c,Hl B.G c t/\B.mg x=Z (.ref (B.G.ca c))
class Ij(B:Bz)(n:Nat):Prop where p:∀j k,j<n->k<n->B.G.ca j=B.G.ca k->j=k
class OpC(op:Operator)(g:D->D->Option D):Prop where p:∀(X:Cx) (G:Bg),∃r,i1 X (cO op) r/\ke G r g
instance in1:OpC .Mod uJ:=⟨λ_ _=>⟨_,WY,XB⟩⟩
instance in2:OpC .FloorDiv vp:=⟨λ_ _=>⟨_,TX,XD⟩⟩
instance in3:OpC .Mult yA:=⟨λ_ _=>⟨_,WX,XA⟩⟩
instance in4:OpC .Sub NO:=⟨λ_ _=>⟨_,WV,Xz⟩⟩
instance in5:OpC .Pow NP:=⟨λ_ _=>⟨_,WZ,XE⟩⟩
instance in6:OpC .Add vL:=⟨λ_ _=>⟨_,WU,Xy⟩⟩
class P'(op:CmpOp)(g:D->D->Option D):Prop where p:∀(X:Cx) (G:Bg),X.K=G.K->X.A.units+64<cLine->∃r,i1 X (bA op) r/\ke G r g
instance in9:P' .Eq (eo δ):=⟨λ_ _ h u=>⟨_,XM u h,aa4⟩⟩
instance in10:P' .NotEq (eo γ):=⟨λ_ _ h u=>⟨_,XN u h,aa5⟩⟩
instance in11:P' .In (pk δ):=⟨λ_ _ h _=>⟨_,XO h,V4⟩⟩
instance in12:P' .NotIn (pk γ):=⟨λ_ _ h _=>⟨_,Pf h,V4⟩⟩
instance in13:P' .Is yO:=⟨λ_ _ _ _=>⟨_,W4,XH⟩⟩
instance in14:P' .IsNot v5:=⟨λ_ _ _ _=>⟨_,TY,UR⟩⟩
instance in16:P' .Lt MG:=⟨λ_ _ _ _=>⟨_,aaz,aa0⟩⟩
instance in17:P' .LtE y8:=⟨λ_ _ _ _=>⟨_,aaA,aa1⟩⟩
instance in18:P' .Gt IM:=⟨λ_ _ _ _=>⟨_,aaB,aa2⟩⟩
instance in19:P' .GtE UQ:=⟨λ_ _ _ _=>⟨_,aaC,aa3⟩⟩
instance in20:P' .LtE QZ:=⟨λ_ _ _ _=>⟨_,O6,XG⟩⟩
class B1(x:Str)(g:D->Option D):Prop where p:∀(X:Cx) (G:Bg),X.K=G.K->X.nr=γ->∃(id:String) (r:bC->Hp->VK->Prop),vZ X (.builtin id) r/\Lv G r g/\dG x=Z (.builtin id)
instance in21:B1 "len" xf:=⟨λ_ _ h _=>⟨_,_,Ph h,XQ,pD⟩⟩
instance in22:B1 "all" yP:=⟨λ_ _ h c=>⟨_,_,Pi c h,XR,boot_all⟩⟩
instance in23:B1 "any" Gi:=⟨λ_ _ h c=>⟨_,_,Po c h,XY,boot_any⟩⟩
class KtC(x:Str)(T:outParam String):Prop where p:(∀(X:Cx) (G:Bg) y b,vG T y=Z b->du X.K (y.val G) (.type T)=Z b)/\dG x=Z (.type T)
instance in24:KtC "str" "str" := ⟨λ_ _=>UX,Pv.boot_str⟩
instance in25:KtC "int" "int" := ⟨λ_ _=>Vi,Pv.boot_int⟩
instance in26:KtC "bool" "bool" := ⟨λ_ _=>RI,Pv.boot_bool⟩
instance in27:KtC "list" "list" := ⟨λ_ _=>Rf,qc⟩
instance in28:KtC "tuple" "tuple" := ⟨λ_ _=>kit_tuple,pV⟩
theorem Wa:∀{dds:bh},dds.all wK=γ->b1 G H dds (dds.map vD)
 |[],_=>uP
 |d::a,h=>by rw[gQ,aX]at h;exact uT (D3 h.1 H) (Wa h.2)
def eqI{c:Sort u}{a b:c}(h:a=b):a=b:=h
def z3(X:Cx)(i:Nat)(x:Str):Bool:=decide (X.N[i]?=Z x)&&(match X.b5.scope.names.lookup x with|some .local=>γ|some .cell=>γ|some .free=>γ|_=>δ)&&!(x==("__debug__" : Str))&&!(x==("__classdict__" : Str))
def wh(X:Cx)(i:Nat)(x:Str):Bool:=decide X.N.Nodup&&decide (X.N[i]?=Z x)&&(match X.b5.scope.names.lookup x with|some .local=>γ|some .cell=>X.fn x|_=>δ)
section
variable{X:Cx}{B:Bz}{k j i n c0:Nat}{x m:Str}{e e' o tg it:Expr}{es:List Expr}{p p2 p3 pos apos:Pos}{f f' f2:FE}{a:FA}{g:D->D->Option D}
def W?(h:z3 X i x=γ):PE X (.Name x p) (CP i):=by
 unfold z3 at h;simp only[aX,bQ,eJ]at h;obtain⟨⟨⟨c,b⟩,d⟩,l⟩:=h;refine pv i c ?_ d l;unfold Vis;split at b
 .rename_i e;exact .inl e
 .rename_i e;exact .inr (.inl e)
 .rename_i e;exact .inr (.inr e)
 .cases b
def abh(h:z3 X i x=γ):ZE X B (.Name x p) (cV i):=⟨MC (W? h)⟩
def Yg(h:z3 X i x=γ):ZE X B (.Name x p) (T3 i):=⟨aaZ (W? h)⟩
def Vm(h:z3 X i x=γ):ZN X B (.Name x p) (G6 i):=⟨UN (W? h)⟩
def Kt(h:wh X i x=γ):X.N.Nodup/\X.N[i]?=Z x/\L2.Loc X.b5.scope x/\(X.fn x=γ\/X.b5.scope.names.lookup x=Z .local):=by
 unfold wh at h;simp only[aX,bQ]at h;obtain⟨⟨c,d⟩,b⟩:=h;unfold L2.Loc;split at b
 .rename_i e;exact⟨c,d,.inl e,.inr e⟩
 .rename_i e;exact⟨c,d,.inr e,.inl b⟩
 .cases b
def pgI(h:wh X i x=γ):PG X (.Name x p) (zp i):=by obtain⟨b,c,d,l⟩:=Kt h;exact Nu b c d l
def Yh(h:wh X i x=γ)(b:Nat.blt i n=γ):ZG X B (.Name x p) n (gN i):=⟨QP n (pgI h) (Nat.blt_eq.mp b)⟩
def stW(h:wh X i x=γ)(q:PE X e t)(r:Wz X e (.Name x p) pos):PS X (.Assign [.Name x p] e pos) (EK t (zp i)):=by obtain⟨b,c,d,l⟩:=Kt h;exact WM b c d q r l
def Yi(h:wh X i x=γ)(b:ZE X B e f)(c:Wz X e (.Name x p) pos):ZS X B (.Assign [.Name x p] e pos) (uD i f):=⟨NK (stW h b.p c)⟩
def Yj(h:wh X i x=γ)(b:ZN X B e a)(c:Wz X e (.Name x p) pos):ZS X B (.Assign [.Name x p] e pos) (xG i a):=⟨Ll (stW h b.p c)⟩
def Yk(h:wh X i x=γ)(b:Wz X (.Dict [] [] p2) (.Name x p) pos):ZS X B (.Assign [.Name x p] (.Dict [] [] p2) pos) (Hk i):=⟨Ro (stW h La b)⟩
def Yl [b:OpC q g](h:ZE X B e f)(l:ZE X B e' f'):ZE X B (.BinOp e q e' pos) (c2 g f f'):=by obtain⟨r,c,d⟩:=b.p X B.G;exact⟨aaR c d h.p l.p⟩
def Ym [C:Cz X B k](b:ZE X B e f)(c:ZE X B e' f')(d:Iz e'):ZE X B (.Subscript e e' pos) (c2 eh f f'):=⟨aaS (ix_X C.K) aa6 b.p c.p λo i=>congrFun (congrFun d o) i⟩
def Yn [C:Cz X B k](b:ZE X B e f)(c:ZE X B e' f')(d:Iz e'):ZE X B (.Subscript e e' pos) (c2 CU f f'):=⟨U0 (Lc C.r) b.p c.p λo i=>congrFun (congrFun d o) i⟩
section
variable{op op':CmpOp}{g':D->D->Option D}
def Yo [b:P' op g][C:Cz X B k](h:ZE X B e f)(l:ZE X B e' f')(q:f9 op e'=δ):ZE X B (.Compare e [op] [e'] pos) (c2 g f f'):=by obtain⟨r,c,d⟩:=b.p X B.G C.K C.r.units;exact⟨Xp c d h.p l.p q⟩
def Yp [b:P' op g][C:Cz X B k](h:ZE X B e f)(l:ZE X B e' f')(q:f9 op e'=δ):ZT X B (.Compare e [op] [e'] pos) (cT (c2 g f f')):=by obtain⟨r,c,d⟩:=b.p X B.G C.K C.r.units;exact⟨Uq c d h.p l.p q⟩
def Yq [b:P' op g][c:P' op' g'][C:Cz X B k](t:ZE X B e f)(u:ZE X B e' f')(w:ZE X B o f2)(y:lastMarks [op,op'] [e',o]=δ):ZE X B (.Compare e [op,op'] [e',o] pos) (xy g g' f f' f2):=by obtain⟨r,d,h⟩:=b.p X B.G C.K C.r.units;obtain⟨z,l,q⟩:=c.p X B.G C.K C.r.units;exact⟨Q7 d l h q t.p u.p w.p y⟩
def Yr [b:P' op g][c:P' op' g'][C:Cz X B k](t:ZE X B e f)(u:ZE X B e' f')(w:ZE X B o f2)(y:lastMarks [op,op'] [e',o]=δ):ZT X B (.Compare e [op,op'] [e',o] pos) (cT (xy g g' f f' f2)):=by obtain⟨r,d,h⟩:=b.p X B.G C.K C.r.units;obtain⟨z,l,q⟩:=c.p X B.G C.K C.r.units;exact⟨Pl d l h q t.p u.p w.p y⟩
end
def Ys(h:ZE X B e f)(b:(λwhole=>isTrue e X.b5 whole)=λwhole=>(do let v<-whole;standAt e.pos;holding [v] (truthy v))):ZT X B e (cT f):=⟨Ur h.p λw=>congrFun b w⟩
def Yt(d:ZT X B e b)(h:ZW X B (.BoolOp .Or (e'::es) pos) c):ZT X B (.BoolOp .Or (e::e'::es) pos) (xg b c):=⟨PW.pt (QJ d.p h.p)⟩
def Yu(d:ZT X B e b)(h:ZW X B (.BoolOp .And (e'::es) pos) c):ZT X B (.BoolOp .And (e::e'::es) pos) (wF b c):=⟨PW.pt (Uu d.p h.p)⟩
def Yv [C:Cz X B k][Q:Co B x d](b:Gz X x)(hd:Dz x):ZE X B (.Name x pos) (cC d):=⟨Rb (C.mg▸Q.p) b hd⟩
def Yy [C:Cz X B k][Q:Ff B ok m](c:ZE X B e f)(b:Az X e m):ZE X B (.Attribute e m pos) (c1 (ud ok m) f):=⟨QS c.p (C.K▸Q.p) b⟩
section
variable(hg:Gz X x)(hd:Dz x)(hs:Sz X e es)(hl:Lz X pos es)
include hg hd
theorem dz [C:Cz X B k][Q:Df B j x d]:∃c,Fm X.prog X.w X.K X.mg X.b4 j x c d:=by rw[C.P,C.w,C.K,C.mg,C.b];exact Q.p
theorem Yz{g:bh->Option bh}[C:Cz X B k][Q:Df B j x (tX B.G g)](b:gr j k=γ):ZN X B (.Call (.Name x p) [] [] pos) (vb g uI):=by obtain⟨c,q⟩:=dz hg hd (X:=X) (Q:=Q);exact⟨Q8 q (C.r.mono (gp.mp b)) hg hd⟩
include hs hl
theorem YA{g:bh->Option D}[C:Cz X B k][Q:Df B j x (fb B.G g)](b:ZA X B (e::es) a)(c:gr j k=γ):ZE X B (.Call (.Name x p) (e::es) [] pos) (tY g a):=by obtain⟨d,q⟩:=dz hg hd (X:=X) (Q:=Q);exact⟨XT q (C.r.mono (gp.mp c)) b.p hg hd hs hl⟩
theorem YB{g:bh->Option bh}[C:Cz X B k][Q:Df B j x (tX B.G g)](b:ZA X B (e::es) a)(c:gr j k=γ):ZN X B (.Call (.Name x p) (e::es) [] pos) (vb g a):=by obtain⟨d,q⟩:=dz hg hd (X:=X) (Q:=Q);exact⟨UU q (C.r.mono (gp.mp c)) b.p hg hd hs hl⟩
theorem YC{g:bh->Option (aH×bh)}{dds:bh}[C:Cz X B k][Q:Kf B j x c0 g dds](d:ZA X B (e::es) a)(h:gr (j+1) k=γ):ZE X B (.Call (.Name x p) (e::es) [] pos) (uF c0 (λc=>g (c++dds)) a):=by obtain⟨l,q⟩:=Q.p;exact⟨UV (by rw[C.P,C.w,C.mg,C.b];exact q) (λH=>Wa Q.f) (C.r.mono (gp.mp h)) d.p C.K hg hd hs hl⟩
end
def mz{g:Nat->Option (bh->Option D)}[C:Cz X B k][Q:Mf B j m g]:∀c h,g c=Z h->A5 B.G X.prog X.w X.mg X.b4 j m c h:=by rw[C.P,C.w,C.mg,C.b];exact Q.p
def YD{g:Nat->Option (bh->Option D)}{pl:Sem Bool}[C:Cz X B k][Q:Mf B j m g](d:ZE X B o f)(c:gr j k=γ)
  (h:eval (.Call (.Attribute o m apos) [] [] pos) X.b5=(do
   let b<-eval o X.b5
   standAt apos.atName
   let (f,first)<-holding [b] (getMethod b m pl)
   callWith pos f first (bI pos (aC [] X.b5)) (backToKw pos (d7 [] X.b5)))):ZE X B (.Call (.Attribute o m apos) [] [] pos) (uo g m f uI):=⟨MJ mz (C.r.mono (gp.mp c)) d.p C.K h⟩
def YE{g:Nat->Option (bh->Option D)}{pl:Sem Bool}[C:Cz X B k][Q:Mf B j m g](l:ZE X B o f)(c:ZA X B (e::es) a)(d:gr j k=γ)(q:Sz X e es)(h:Lz X pos es)
  (t:eval (.Call (.Attribute o m apos) (e::es) [] pos) X.b5=(do
   let b<-eval o X.b5
   standAt apos.atName
   let (f,first)<-holding [b] (getMethod b m pl)
   callWith pos f first (bI pos (aC (e::es) X.b5)) (backToKw pos (d7 [] X.b5)))):ZE X B (.Call (.Attribute o m apos) (e::es) [] pos) (uo g m f a):=⟨Pm mz (C.r.mono (gp.mp d)) l.p c.p C.K q h t⟩
section
variable(hg:Gz X x)(hd:Nz x)(hs:S1 X e)
include hg hd hs
theorem cbI{id:String}[C:Cz X B k][N:Nb B x](c:vZ X (.builtin id) r)(d:dG x=Z (.builtin id))(b:PA X [e] t):PE X (.Call (.Name x p) [e] [] pos) (ι r t):=by simp only[aX,bQ,eJ]at hd;exact DU c hg (C.mg▸N.p) d b hd.1 hd.2 hs O
theorem ctI [C:Cz X B k][N:Nb B x](c:vZ X (.type T) r)(d:dG x=Z (.type T))(b:PA X [e] t):PE X (.Call (.Name x p) [e] [] pos) (ι r t):=by simp only[aX,bQ,eJ]at hd;exact OW c hg (C.mg▸N.p) d b hd.1 hd.2 hs O
theorem YF{g:D->Option D}[Q:B1 x g][C:Cz X B k][N:Nb B x](l:ZE X B e f):ZE X B (.Call (.Name x p) [e] [] pos) (c1 g f):=by obtain⟨id,r,b,d,h⟩:=Q.p X B.G C.K C.c;exact⟨aa7 d (cbI hg hd hs b h (xh l.p yq hs))⟩
end
section
variable(hs:S1 X e)
include hs
theorem YG [C:Cz X B k][N:Nb B "list"](c:Gz X "list")(b:ZE X B e f):ZN X B (.Call (.Name "list" p) [e] [] pos) (zt f):=⟨Q4 (ctI c (by decide) hs (MH C.K) qc (xh b.p yq hs))⟩
theorem YH [C:Cz X B k][N:Nb B "tuple"](c:Gz X "tuple")(b:ZE X B e f):ZE X B (.Call (.Name "tuple" p) [e] [] pos) (xi f):=⟨Q5 (ctI c (by decide) hs (Pj C.K) pV (xh b.p yq hs))⟩
theorem YI [C:Cz X B k][N:Nb B "sorted"](c:Gz X "sorted")(b:ZE X B e f):ZN X B (.Call (.Name "sorted" p) [e] [] pos) (EY f):=⟨LK (cbI c (by decide) hs (IS C.r.units C.K) boot_sorted (xh b.p yq hs))⟩
theorem YJ [C:Cz X B k][N:Nb B "range"](c:Gz X "range")(b:ZE X B e f):ZI X B tg (.Call (.Name "range" p) [e] [] pos) (xm f):=⟨MF (OQ c (C.mg▸N.p) (xh b.p yq hs) hs)⟩
end
section
variable(hi:Gz X "isinstance")(hg:Gz X x)(hs:aC [e,.Name x p2] X.b5=[(δ,eval e X.b5),(δ,eval (.Name x p2) X.b5)])(hs':S1 X (.Name x p2))
include hi hg hs hs'
theorem YK [Q:KtC x T][C:Cz X B k][N:Nb B "isinstance"][d:Nb B x](h:ZE X B e f)(hd:Nz x):ZE X B (.Call (.Name "isinstance" p) [e,.Name x p2] [] pos) (c1 (u7 (vG T)) f):=by
 simp only[aX,bQ,eJ]at hd;refine⟨NT (c:=.b T) (DU (Jo (.b T) (Q.p.1 X B.G) Re C.K) hi (C.mg▸N.p) lp (wc h.p (wc (TL (v:=.ty T) hg (C.mg▸d.p) Q.p.2 O hd.1 hd.2) yM ?_) ?_) (by decide) (by decide) ?_ ?_)⟩
 .exact hs'
 .rw[hs,hs']
 .rw[hs,hs']
 .rw[hs'];rfl
theorem YL [Q:Ic B x t][C:Cz X B k][N:Nb B "isinstance"](b:ZE X B e f)(hd:Dz x):ZE X B (.Call (.Name "isinstance" p) [e,.Name x p2] [] pos) (c1 (u7 t) f):=by
 obtain⟨c,d,h⟩:=Q.p;refine⟨NT (c:=.c c) (DU (ML d C.K) hi (C.mg▸N.p) lp (wc b.p (wc (Gp (v:=.ref (B.G.ca c)) hg (C.mg▸h) O hd) yM ?_) ?_) (by decide) (by decide) ?_ ?_)⟩
 .exact hs'
 .rw[hs,hs']
 .rw[hs,hs']
 .rw[hs'];rfl
end
section
variable(hb:Az X o m)(hl:Ez apos pos)(hs:S1 X e)
include hb hl hs
theorem bmI{id:String}[C:Cz X B k](h:ma T)(slot:Slot T m id)(hty:typeOf (.builtin id)=pure (.type "method_descriptor"))(c:MtR X id r)(d:PE X o to)(b:PA X [e] t):PE X (.Call (.Attribute o m apos) [e] [] pos) (tBM B.G.K T r to t):=
 QG B.G.K h slot hty c d b hb (by rw[hs];rfl) hl hs O C.K
end
section
variable(h:z3 X i x=γ)(hb:Az X (.Name x p) m)(hl:Ez apos pos)(hs:S1 X e)
include h hb hl hs
theorem YM [C:Cz X B k](c:m="append")(b:ZE X B e f):ZE X B (.Call (.Attribute (.Name x p) m apos) [e] [] pos) (yc i f):=by subst c;exact⟨Pc (bmI hb hl hs jv kH oe EM (W? h) (xh b.p yq hs))⟩
theorem YN [C:Cz X B k](c:m="extend")(b:ZE X B e f):ZE X B (.Call (.Attribute (.Name x p) m apos) [e] [] pos) (BV i f):=by subst c;exact⟨MN (bmI hb hl hs jv jq og (C.K▸MM) (W? h) (wc b.p yM hs))⟩
end
def YO [C:Cz X B k](h:ZE X B e f)(l:ZE X B e' f')(c:Az X e "get")(d:Ez apos pos)(b:S1 X e'):ZE X B (.Call (.Attribute e "get" apos) [e'] [] pos) (c2 Bw f f'):=⟨Rj (Lc C.r) h.p l.p ⟨c,by rw[b];rfl,d,by rw[b];rfl⟩⟩
def YQ [C:Cz X B k][Q:Af B c0 l](d:l.contains m=γ)(h:z3 X i x=γ)(c:ZE X B e f)(b:Wz X e (.Attribute (.Name x p) m apos) pos):ZS X B (.Assign [.Attribute (.Name x p) m apos] e pos) (uS c0 i m f):=⟨UM (W6 (W? h) c.p b) (by obtain⟨i,_,e⟩:=kE (nv.1 d);exact C.K▸Q.p.at i (bX.2 ⟨_,e⟩))⟩
def YR [C:Cz X B k](h:z3 X i x=γ)(b:ZE X B e' f')(d:ZE X B e f)(c:Wz X e (.Subscript (.Name x p) e' apos) pos):ZS X B (.Assign [.Subscript (.Name x p) e' apos] e pos) (yd i f' f):=⟨Rp (Ug (Lc C.r) (W? h) b.p d.p c)⟩
def YS [Q:Ij B n](h:ZE X B e f):ZE X B e (CV n f):=⟨Vg Q.p h.p⟩
def YT{lo:Option Expr}{fl:FO}[C:Cz X B k](c:ZE X B e f)(l:ZO X B lo fl)(d:ZO X B h b):ZN X B (.Subscript e (.Slice lo h J p) pos) (Kn f fl b):=⟨MK (K6 (sl_X C.K) c.p l.p d.p)⟩
def YU{lo:Option Expr}[C:Cz X B k](b:ZE X B e f)(q:ZK X lo l)(c:ZK X d h):ZN X B (.Subscript e (.Slice lo d J p) pos) (cSl f l h):=⟨Pk (K6 (sl_X C.K) b.p q.p c.p)⟩
def YV:ZK X (Z (.Constant (.int y) j pos)) (Z y):=⟨Q6⟩
def YW [C:Cz X B k](h:ZE X B e f):ZI X B tg e (iL f):=⟨Lp (Lg B.G.K h.p C.K)⟩
def YX [C:Cz X B k](h:ZE X B e f):ZI X B tg e (iT f):=⟨UO (Ul B.G.K h.p C.K)⟩
def YY(h:ZE X B e f):ZI X B tg e (iD f):=⟨RA (Ve h.p)⟩
def YZ(h:ZE X B e f):ZI X B tg e (iS f):=⟨U1 (Xh h.p)⟩
section
variable{gg:FG}{gs:bh->aP->Option aP}
def Vn:ZH X B [] n NJ:=⟨UA TQ⟩
def Vo(b:ZG X B e n gg)(c:ZH X B es n gs)(d:(dO (e::es) X.b5).map (·.2)=assign e X.b5::(dO es X.b5).map (·.2)):ZH X B (e::es) n (Do gg gs):=⟨QQ (Qa b.p c.p d)⟩
def Vp [C:Cz X B k](h:ZH X B es n gs)(b:(dO es X.b5).length=l)(d:(dO es X.b5).findIdx? (·.1)=J):ZG X B (.Tuple es q pos) n (gT gs l):=⟨UB (Um B.G.K C.c h.p b d C.K)⟩
end
def tgN:Expr->aH
 |.Name x _=>[x]
 |.Tuple es _ _=>es.filterMap λe=>match e with|.Name x _=>Z x|_=>J
 |_=>[]
def cpN(X:Cx)(tg:Expr)(d4:List Nat):aH:=tgN tg++d4.map λj=>X.N.getD j ""
instance inCz [C:Cz X B k]{d:aH}{q:cJ}{h:List (Str×Addr)}{A:Addr}{l:List Addr}{s:ae}{H:Hp}:Cz (vQ X d q h A l s H) B k:=⟨C.P,C.w,C.K,C.mg,C.b,C.c,C.r⟩
def Y0(X:Cx)(N':aH)(sc:cJ)(n:Nat)(d4:List Nat):Bool:=decide d4.Nodup&&decide (sc.kind=.function)&&(sc.names.all λy=>y.2 != .cell)&&(sc.names.all λy=>y.2 != .local||sc.names.lookup y.1==Z .local)&&(sc.names.all λy=>y.2 != .free||(X.b5.kindOf y.1==Z .cell||X.b5.kindOf y.1==Z .free))&&decide (N'.length=n+d4.length)&&decide ((N'.drop n).map Z=d4.map λj=>X.N[j]?)&&((N'.drop n).all λx=>sc.names.lookup x==Z .free)
section
variable{sc:cJ}{d4:List Nat}{ifs:List Expr}{gg:FG}{ft:FT}{s:FA}
 (h0:Y0 X (cpN X tg d4) sc n d4=γ) (hs:Fz X it) (hi:ZI X B tg it s)
 (h1:∀(cl:List (Str×Addr)) (A:Addr) (fp:List Addr) (s:ae) (H:Hp),ZG (vQ X (cpN X tg d4) sc cl A fp s H) B tg n gg)
 (h2:∀(cl:List (Str×Addr)) (A:Addr) (fp:List Addr) (s:ae) (H:Hp),ZF (vQ X (cpN X tg d4) sc cl A fp s H) B ifs ft)
 (h3:∀(cl:List (Str×Addr)) (A:Addr) (fp:List Addr) (s:ae) (H:Hp),ZE (vQ X (cpN X tg d4) sc cl A fp s H) B e f)
include h0 hs hi h1 h2 h3
theorem Y1 [C:Cz X B k]:ZN X B (.ListComp e [⟨tg,it,ifs,0⟩] sc pos) (ui n d4 s gg ft f):=by unfold Y0 at h0;simp only[aX,bQ]at h0;obtain⟨⟨⟨⟨⟨⟨⟨a1,b⟩,d⟩,h⟩,l⟩,q⟩,r⟩,t⟩:=h0;exact⟨QX a1 (Uk (N':=cpN X tg d4) C.c hi.p (λcl A fp s H=>⟨(h1 cl A fp s H).p,(h2 cl A fp s H).p,(h3 cl A fp s H).p⟩) b d h l q r t λx=>congrFun hs x)⟩
theorem cpW [C:Cz X B k](h:wh X i x=γ)(F:dq (.ListComp e [⟨tg,it,ifs,0⟩] sc pos) (Z (.Name x p)) apos.line X.b5=pure γ):PS X (.Assign [.Name x p] (.ListComp e [⟨tg,it,ifs,0⟩] sc pos) apos) (EK (Fl (π B.G s) (tFG B.G n gg) (n7 B.G ft) (tF B.G f) n d4) (zp i))/\d4.Nodup:=by unfold Y0 at h0;simp only[aX,bQ]at h0;obtain⟨⟨⟨⟨⟨⟨⟨a1,b⟩,d⟩,l⟩,q⟩,r⟩,t⟩,u⟩:=h0;obtain⟨w,y,z,E⟩:=Kt h;exact⟨UY (N':=cpN X tg d4) C.c w y z hi.p (λcl A fp s H=>⟨(h1 cl A fp s H).p,(h2 cl A fp s H).p,(h3 cl A fp s H).p⟩) b d l q r t u (λx=>congrFun hs x) F E,a1⟩
theorem Y2 [C:Cz X B k](h:wh X i x=γ)(b:dq (.ListComp e [⟨tg,it,ifs,0⟩] sc pos) (Z (.Name x p)) apos.line X.b5=pure γ):ZS X B (.Assign [.Name x p] (.ListComp e [⟨tg,it,ifs,0⟩] sc pos) apos) (uD i (cL (ui n d4 s gg ft f))):=by have z:=cpW (k:=k) h0 hs hi h1 h2 h3 h b;exact⟨Rg z.2 z.1⟩
theorem Y3 [C:Cz X B k](h:wh X i x=γ)(b:dq (.ListComp e [⟨tg,it,ifs,0⟩] sc pos) (Z (.Name x p)) apos.line X.b5=pure γ):ZS X B (.Assign [.Name x p] (.ListComp e [⟨tg,it,ifs,0⟩] sc pos) apos) (xG i (ui n d4 s gg ft f)):=by have z:=cpW (k:=k) h0 hs hi h1 h2 h3 h b;exact⟨Pn z.2 z.1⟩
end
section
variable{st:Stmt}{sts:List Stmt}{fs fs':FS}{ft:FT}{a':FA}{z1:Nat}
def abi(b:ZE X B e f)(c:ZA X B es a)(d:Sz X e es):ZA X B (e::es) (ax f a):=⟨xh b.p c.p d⟩
def abj:ZA X B [] uI:=⟨yq⟩
def Y4(h:ZN X B e a):ZE X B e (cL a):=⟨Xv h.p⟩
def abk:ZE X B (.Constant (.str y) j pos) (cC (.str y)):=⟨Xm⟩
def abl:ZE X B (.Constant (.int y) j pos) (cC (.int y)):=⟨Xl⟩
def abm:ZE X B (.Constant (.bool y) j pos) (cC (.O y)):=⟨aaQ⟩
def abn:ZE X B (.Constant .none j pos) (cC .I):=⟨Xo⟩
def N9(b:ZS X B st fs)(c:ZB X B sts fs'):ZB X B (st::sts) (bt fs fs'):=⟨QL b.p c.p⟩
def abo(b:ZS X B st fs):ZB X B [st] fs:=⟨Uy b.p⟩
def abp:ZB X B [] uk:=⟨Ux⟩
def Y5(h:ZE X B e f):ZS X B (.Return (Z e) pos) (ue f):=⟨Uz h.p⟩
def Y6(h:ZN X B e a):ZS X B (.Return (Z e) pos) (vK a):=⟨QM h.p⟩
def Y7(h:ZE X B e f)(b:dq e J pos.line X.b5=pure δ):ZS X B (.Expr e pos) (uH f):=⟨QN h.p b⟩
def Y8(h:ZT X B e ft)(b:ZB X B sts fs)(c:ZB X B sts' fs'):ZS X B (.If e sts sts' pos) (fc ft fs fs'):=⟨Xx h.p b.p c.p⟩
def Y9(h:ZA X B es a):ZN X B (.List es pos) (uM a):=⟨Uv h.p⟩
def Za(h:ZA X B es a):ZE X B (.Tuple es z1 pos) (uO a):=⟨Xu h.p⟩
def Zb(b:ZE X B e f)(c:ZE X B e' f'):ZN X B (.BinOp e .Add e' pos) (xT f f'):=⟨US b.p c.p⟩
def Zc [C:Cz X B k](b:ZE X B e f)(c:ZE X B e' f'):ZE X B (.BinOp e .Add e' pos) (Fo f f'):=⟨U2 b.p c.p C.K⟩
def Zd(b:ZE X B e f)(c:ZE X B (.BoolOp .And (e'::es) pos) f'):ZE X B (.BoolOp .And (e::e'::es) pos) (u9 f f'):=⟨Xs b.p c.p⟩
def Ze(b:ZE X B e f)(c:ZE X B (.BoolOp .Or (e'::es) pos) f'):ZE X B (.BoolOp .Or (e::e'::es) pos) (U' f f'):=⟨aaU b.p c.p⟩
def Zf{c}(b:ZE X B e f):ZE X B (.BoolOp c [e] pos) f:=⟨Xr b.p⟩
def Zg(b:ZE X B e f):ZE X B (.UnaryOp .Not e pos) (Gg f):=⟨Xt b.p⟩
def Zh(b:ZT X B e ft):ZT X B (.UnaryOp .Not e pos) (vF ft):=⟨Us b.p⟩
def Zi(h:ZT X B o ft)(b:ZE X B e f)(c:ZE X B e' f'):ZE X B (.IfExp o e e' pos) (xr ft f f'):=⟨aaV h.p b.p c.p⟩
def abq(h:ZT X B e ft):ZF X B [e] ft:=⟨Uj h.p⟩
def abr:ZF X B [] u6:=⟨QY⟩
def Zj(h:ZE X B e f):ZE X B e (MI f):=⟨XS h.p⟩
def Zk(h:ZT X B e ft):ZT X B e (He ft):=⟨UT h.p⟩
def Zl(h:ZE X B e f):ZO X B (Z e) (oAt f):=⟨X2 h.p⟩
def Zm:ZO X B J oNo:=⟨XZ⟩
def Zn(c:ZT X B e ft)(d:ZW X B (.BoolOp .Or (e'::es) pos) b):ZW X B (.BoolOp .Or (e::e'::es) pos) (xg ft b):=⟨QJ c.p d.p⟩
def Zo(h:ZT X B e ft):ZW X B (.BoolOp .Or [e] pos) ft:=⟨Ut h.p⟩
def Zp(h:ZT X B e ft):ZW X B (.BoolOp .And [e] pos) ft:=⟨QI h.p⟩
end
def Zq [C:Cz X B k](r:jP (model X.prog X.w) X.A X.b5 X.xe)(u:X.N.length=n)(q:ZI X B tg it s)(l:ZG X B tg n d)(h:ZB X B body b)(t:Fz X it):ZS X B (.For tg it body [] pos) (xx s d b):=⟨UP (Qf r C.c q.p l.p h.p λx=>congrFun t x)⟩
def Zr(l:jP (model X.prog X.w) X.A X.b5 X.xe)(h:ZT X B e c)(d:ZB X B body b):ZS X B (.While e body [] pos) (whL c b n):=⟨Pe n (Qc l h.p d.p)⟩
end
end L4
namespace L4
open PySem PySem.Spec PyProof.Rows L2 L3
open PySem.W (fnOf)
def nmO(st:Stmt):aH:=(uG st).names.filterMap λy=>match y.2 with|.local=>Z y.1|.cell=>Z y.1|_=>J
def psO(st:Stmt):aH:=(xQ st).args.map (·.arg)
def okO(N a:aH)(st:Stmt)(b n:Nat):Bool:=decide ((uG st).kind=.function)&&(uG st).isCoroutine==δ&&(uG st).isGenerator==δ&&decide N.Nodup&&decide (N.take a.length=a)&&(a.all λx=>match (uG st).names.lookup x with|some .local=>γ|some .cell=>γ|_=>δ)&&((uG st).names.all λy=>y.2 != .free)&&decide (a.length=b)&&decide (N.length=n)
def Kx{st:Stmt}(h:okO N ps st np n=γ):wU N ps (uG st)/\ps.length=np/\N.length=n:=by
 unfold okO at h;simp only[aX,bQ,beq_iff_eq]at h;obtain⟨⟨⟨⟨⟨⟨⟨⟨a,b⟩,c⟩,d⟩,f⟩,i⟩,j⟩,l⟩,m⟩:=h;refine⟨⟨a,b,c,d,f,λx o=>?_,λy p e=>?_⟩,l,m⟩
 .have z:=ba.1 i x o;split at z
  .rename_i e;exact .inl e
  .rename_i e;exact .inr e
  .cases z
 .have z:=ba.1 j y p;rw[e]at z;exact ao z (by decide)
section
variable{B:Bz}[Y:Yb B]{x m qual:Str}{st s0:Stmt}{l:List Stmt}{k c np n:Nat}{b:FS}{p:Str}{ps xs:aH}{N:aH}
abbrev Bdz(B:Bz)(N:aH)(qual:Str)(st:Stmt)(l:List Stmt)(k:Nat)(b:FS):Prop:=∀{f:Addr} {cdv:ab} {A:aM} {c4:List Env} {s:ae} {H:Hp} {E:XK} [Cz (Hf B.P B.w B.G.K B.mg B.b4 N qual st f cdv A c4 s H E) B k],ZB (Hf B.P B.w B.G.K B.mg B.b4 N qual st f cdv A c4 s H E) B l b
omit Y in
def Bdz.ok(h:Bdz B N qual st l k b)(a:u0 st=l):Bdy B.P B.w B.G.K B.mg B.b4 N qual st k (l0 B.G b):=λf cdv A c4 s H E d=>by subst a;exact(@h f cdv A c4 s H E ⟨O,O,O,O,O,O,d⟩).p
def fy(d:g=eg np n b)(q:GD B.G.K x st)(e:u0 st=s0::l)(body:Bdz B (nmO st) x st (s0::l) k b)(S:okO (nmO st) (psO st) st np n=γ:=by kernel_rfl)(a:Bds x x st (psO st):=by (repeat intro _);rfl):Df B (k+1) x (fb B.G g):=
 ⟨_,gF d Y.y q (Kx S).1 (body.ok e) (Kx S).2.1 (Kx S).2.2 a⟩
def gF5(N:aH)(d:g=eg np n b)(q:GD B.G.K x st)(e:u0 st=s0::l)(body:Bdz B N x st (s0::l) k b)(S:okO N (psO st) st np n=γ:=by kernel_rfl)(a:Bds x x st (psO st):=by (repeat intro _);rfl):Df B (k+1) x (fb B.G g):=
 ⟨_,gF d Y.y q (Kx S).1 (body.ok e) (Kx S).2.1 (Kx S).2.2 a⟩
def XF(d:g=yr np n b)(q:GD B.G.K x st)(e:u0 st=s0::l)(body:Bdz B (nmO st) x st (s0::l) k b)(S:okO (nmO st) (psO st) st np n=γ:=by kernel_rfl)(a:Bds x x st (psO st):=by (repeat intro _);rfl):Df B (k+1) x (tX B.G g):=
 ⟨_,gN' d Y.y q (Kx S).1 (body.ok e) (Kx S).2.1 (Kx S).2.2 a⟩
theorem ri(C:CF B.G.K (B.G.ca c) xs)(h:g=eg np n b)(q:GM B.G.K (B.G.ca c) m qual st)(j:u0 st=s0::l)(body:Bdz B (nmO st) qual st (s0::l) k b)(S:okO (nmO st) (psO st) st np n=γ:=by kernel_rfl)(d:Bds m qual st (psO st):=by (repeat intro _);rfl):A5 B.G B.P B.w B.mg B.b4 (k+1) m c g:=by obtain⟨f,e,a,i,F⟩:=q;exact⟨f,e,_,C.ci.cl,⟨a,i,F.kp⟩,d.ok F,Q9 h (Kx S).2.1 (Kx S).2.2 F (Kx S).1 (body.ok j f)⟩
def gI4(C:CF B.G.K (B.G.ca c) xs)(a:iY B.G.K aZ x=Z (Z (.ref (B.G.ca c))))(e:g=vo c np n b)(q:GM B.G.K (B.G.ca c) "__init__" qual st)(f:u0 st=s0::l)(h:psO st=p::ps)(body:Bdz B (nmO st) qual st (s0::l) k b)(S:okO (nmO st) (p::ps) st (np+1) n=γ:=by kernel_rfl)(d:Bds "__init__" qual st (p::ps):=by (repeat intro _);rfl):Kf B (k+1) x c g []:=
 ⟨⟨_,gI e Y.y C a q (Kx S).1 (body.ok f) (lY (Kx S).2.1) (Kx S).2.2 d⟩,O⟩
def gJ4{dds:bh}(C:CF B.G.K (B.G.ca c) xs)(a:iY B.G.K aZ x=Z (Z (.ref (B.G.ca c))))(t:g=vo c np n b)(q:GJ B.G.K (B.G.ca c) qual st (dds.map vD))(u:u0 st=s0::l)(z:psO st=p::ps)(body:Bdz B (nmO st) qual st (s0::l) k b)(j:Nat)(S:okO (nmO st) (p::ps) st (np+1) n=γ:=by kernel_rfl)(e:dds.all wK=γ:=by rfl)
  (o:MZ (dds.map vD).length λdl=>MZ ((p::ps).length - ((dds.map vD).drop j).length) λf=>∀(T:Addr) (kV doc w:ab) (i:Option Addr) (cdv r:ab),∃k,bindArgs (fnOf "__init__" qual (xQ st) (u0 st) (uG st) (.ref T) kV doc w i cdv r) ⟨f,[]⟩=seqItems? (.ref T)>>=k/\k (Z dl.toArray)=pure ((p::ps).zip (f++dl.drop j)):=by (repeat intro _);exact⟨_,O,O⟩):Kf B (k+1) x c g (dds.drop j):=
 ⟨⟨_,by rw[lI];exact gJ t Y.y C a q (Kx S).1 (body.ok u) j (lY (Kx S).2.1) (Kx S).2.2 o⟩,by
  rw[ba]at e ⊢;exact λd h=>e d (nG h)⟩
def B3(n:Nat)(a:Nat->Addr):∀k,k<n->((bz n).map a).getD k 0=a k:=λk h=>by rw[cD,bD,nU h];rfl
def injR{n:Nat}{a:Nat->Addr}(h:decide ((bz n).map a).Nodup=γ):∀j k,j<n->k<n->a j=a k->j=k:=λj k d f e=>by rw[<-B3 n a j d,<- B3 n a k f]at e;exact Ye (bF h) (by simpa using d) (by simpa using f) e
def Ba:Nat->(Nat->Prop)->Prop
 |0,_=>True
 |n+1,Q=>Q 0/\Ba n λk=>Q (k+1)
theorem Ba.at:∀{n:Nat} {Q:Nat->Prop},Ba n Q->∀k,k<n->Q k
 |_+1,_,h,0,_=>h.1
 |_+1,_,h,k+1,a=>Ba.at (Q:=λk=>_) h.2 k (Nat.lt_of_succ_lt_succ a)
end
section
variable{X:Cx}{B:Bz}{k j i n:Nat}{x y:Str}{e e' tg:Expr}{es:List Expr}{p p2 p3 pos apos:Pos}{f f':FE}{a:FA}{st:Stmt}{sts:List Stmt}{fs fs':FS}{ft:FT}
def Zs [C:Cz X B k](m:ZE X B e f)(o:ZE X B e' f')(q:ZE X B b d)(h:Az X e "get")(l:Ez apos pos)(c:aC [e',b] X.b5=[(δ,eval e' X.b5),(δ,eval b X.b5)]):ZE X B (.Call (.Attribute e "get" apos) [e',b] [] pos) (Jp f f' d):=⟨Rq (Lc C.r) m.p o.p q.p ⟨h,by rw[c];rfl,l,by rw[c];rfl⟩⟩
def Zt(b:ZE X B e f):ZE X B (.UnaryOp .USub e pos) (c1 Jv f):=⟨Yf b.p⟩
end
end L4
namespace L4
open PySem PySem.Spec PyProof.Rows L2 L3
theorem Oa{f:Type}[DecidableEq f]:∀{l L:List f},l.Nodup->(∀x∈l,x∈L)->l.length<=L.length
 |[],L,_,_=>b7 _
 |a::l,L,i,h=>by have c:=h a aN;have b:=dm.1 i;have:=Oa (l:=l) (L:=L.erase a) b.2 λx d=>(nH (λe:x=a=>b.1 (by rw[<-e];exact d))).2 (h x (aQ _ d));rw[mT c]at this;have:=kx c;rw[aS];omega
section
variable{t:bV}{m n:Nat}
def rs(m i q:Nat):iH:=⟨i,lj m i - i,i,q,J⟩
end
section
variable{ow:Array (Option Nat)}
def lv(ow:Array (Option Nat)):List (Nat×Nat):=(bz 32).filterMap λj=>(ow.getD j J).map (j,·)
end
theorem Ku{b:Type}:∀(l:List b) (j:Nat) (x:b),l[j]?=Z x->(x::l.eraseIdx j).Perm l
 |[],j,x,h=>by cases h
 |a::l,0,x,h=>by cases h;exact .refl _
 |a::l,j+1,x,h=>(List.Perm.swap a x _).t (List.Perm.cons a (Ku l j x h))
theorem Ob{b:Type}(a:Nat->Nat):∀(f k:Nat) (l:List b) (out:Array b),l.length=f->(qd a f k l out).toList.Perm (out.toList++l)
 |0,k,l,out,h=>by obtain rfl:=i9.1 h;rw[bR];exact .refl _
 |f+1,k,l,out,h=>by have hlt:a k % l.length<l.length:=qv _ (by omega);have e:l[a k % l.length]?=Z l[a k % l.length]:=aY hlt;unfold qd;rw[e];refine(Ob a f (k+1) _ _ (by rw[nI,aj hlt];omega)).t ?_;rw[oE,cc];exact List.Perm.append_left _ (Ku l _ _ e)
def Jy{c:Type}(b:Nat->Nat)(a:Array c):(pickOrder b a).toList.Perm a.toList:=Ob b a.size 0 a.toList #[] cM
section
variable{prog:aF}{w:ay}{A:aM}{E:ab->ae->Prop}{s:ae}
def Vq(hn:n≠0)(h:∀i d,i<n->Q i { s with drawn:=d }):ag (model prog w) A (choose src n) Q E s:=λΓ p hΓ=>by show Sem.wp _ Γ (.choose src n .pure) _ _ p s;rw[Sem.wp_choose];exact⟨hn,h _ _ (qv _ (Nat.pos_of_ne_zero hn))⟩
theorem Oc{f:Type}:∀(n:Nat) (xs:List f) (s:ae) {Q:List f->ae->Prop},xs.length=n->(∀c d,c.Perm xs->Q c { s with drawn:=d })->ag (model prog w) A (drawOrder n xs) Q E s
 |0,xs,s,Q,b,h=>by obtain rfl:=i9.1 b;unfold drawOrder;exact ar (h [] s.drawn (.refl _))
 |n+1,[],s,Q,b,h=>by cases b
 |n+1,a::xs,s,Q,b,h=>by unfold drawOrder;refine af (Vq (by simp) λi d hi=>?_);have e:(a::xs)[i]?=Z (a::xs)[i]:=aY hi;rw[e];refine af (Oc n _ _ (by rw[nI,aj hi];omega) λc j p=>?_);exact ar (h _ j ((List.Perm.cons _ p).t (Ku _ _ _ e)))
end
def xX:Slot "set_iterator" "__next__" "set_iterator.__next__" :=
 .of (owner:="set_iterator") (n:="__next__") (by rw[jD,jf];kernel_rfl) (by decide +kernel) (by decide +kernel) (by decide +kernel)
  (by first|exact .inl (by decide +kernel)|exact .inr (by decide +kernel)) (by rw[jH];kernel_rfl)
def Ea:Slot "set_iterator" "__iter__" "set_iterator.__iter__" :=
 .of (owner:="set_iterator") (n:="__iter__") (by rw[jD,jf];kernel_rfl) (by decide +kernel) (by decide +kernel) (by decide +kernel)
  (by first|exact .inl (by decide +kernel)|exact .inr (by decide +kernel)) (by rw[jH];kernel_rfl)
def IT:entryFor table "set_iterator.__next__" = Z ck.«set_iterator.__next__»:=oY (by kernel_rfl)
def LL:Manifest.owners.lookup (String.ofList ['r','o','t','a','r','e','t','i','_','t','e','s'].reverse)=Z Manifest.sig_set_iterator:=by kernel_rfl
def Kv(a:ab):argsOk "set_iterator.__next__" ⟨[a],[]⟩:=by unfold argsOk;rw[pW (id:="set_iterator.__next__") (n:=['_','_','t','x','e','n','_','_']) (o:=['r','o','t','a','r','e','t','i','_','t','e','s']) (by kernel_rfl) LL];kernel_rfl
def Kw:entryFor table "set.__iter__" = Z ck.«frozenset.__iter__»:=pI (id':="frozenset.__iter__") (by kernel_rfl) O (by decide +kernel) (by kernel_rfl)
inductive Md(w:ay) (h:Heap) (S TP:Addr) (i:Nat) (i2:List ab) (es:Array (Int×ab)) (ep:Nat) (t:bV):ab->Prop
 |txt {sl:Int} {tk:Tok}:w.params.followText "set-order" = γ->i2=(pickOrder (w.params.setOrder S ep) es).toList.map bO->Md w h S TP i i2 es ep t (.int sl tk)
 |drw {ps:List Nat} {vs:Array ab} {ot:Obj} {nt:Nat}:w.params.followText "set-order" = δ->h.get? TP=Z ot->ot.cls=.type "tuple" -> ot.data=.seq vs nt->vs=(ps.map λp:Nat=>rawInt p).toArray->ps.Perm (bz es.size)->i2=ps.filterMap (λp=>es[p]?.map bO)->Md w h S TP i i2 es ep t (.ref TP)
 |one {sl:Int}:w.params.followText "set-order" = δ->es.size<=1->t.led=γ->(i=0->sl=0)->(∀j,i=1->t.place=#[j]->sl=(j+1:Nat))->i2=es.toList.map bO->Md w h S TP i i2 es ep t (.int sl 0)
structure ItS(w:ay)(I S TP:Addr)(i2:List ab)(o:Obj)(es:Array (Int×ab))(ep:Nat)(t:bV)(i:Nat)(h:Heap):Prop where
 it:∃oi first,h.get? I=Z oi/\oi.cls=.type "set_iterator" /\ oi.data=.fields #[first,.int i 0,.ref S,.int es.size 0,.int ep 0]/\Md w h S TP i i2 es ep t first
 i?:h.get? S=Z o
 d:o.data=.set es ep t
 f:t.fits es.size=γ
section
variable{prog:aF}{w:ay}{A:aM}{E:ab->ae->Prop}{s:ae}{I S TP:Addr}{i2:List ab}{o:Obj}{es:Array (Int×ab)}{ep:Nat}{t:bV}{i:Nat}
def EZ(h:Q (w.params.followText "set-order") s):ag (model prog w) A setsByText Q E s:=by unfold setsByText;exact af (kX (ar h))
def M4(x:ItS w I S TP i2 o es ep t i s.heap)(N:Md w s.heap S TP i i2 es ep t (.int y R))(H:i<=1\/w.params.followText "set-order" = γ)
  (hQ:∀(v:ab) (u:Nat),i2[i]?=Z v->Md w s.heap S TP (i+1) i2 es ep t (.int u 0)->Q (Z (v,u)) s) (hN:i2[i]?=J->Q J s):ag (model prog w) A (setNext S y.toNat i ep) Q E s:=by
 unfold setNext;refine af (di x.i? x.d x.f ?_);dsimp only;refine af (EZ ?_);cases N with
 |txt a b=>
  rw[a,aj O];rw[ai (by simp)];refine af ?_;unfold setWalk;refine af (di x.i? x.d x.f ?_);dsimp only;refine af (EZ ?_);rw[a,aj O];refine af (kX ?_);refine ar ?_;refine ar ?_;show Q (Option.map (λe=>(e.snd,y.toNat)) (pickOrder (w.params.setOrder S ep) es)[i]?) s;have e:i2[i]?=((pickOrder (w.params.setOrder S ep) es)[i]?).map bO:=by rw[b,bD,kz]
  cases r:(pickOrder (w.params.setOrder S ep) es)[i]? with
  |none=>rw[r]at e;exact hN e
  |some q=>rw[r]at e;exact hQ q.2 _ e (.txt a b)
 |one a b p C F h=>
  have fs:t.place.size=es.size:=by have:=x.f;unfold pT at this;rw[aX,beq_iff_eq]at this;exact this.1
  rw[a,ai (by decide)];rw[ai (λG=>by
   have:(!t.plain&&decide (es.size > 1))=γ:=G;simp at this;omega)]
  refine af ?_;wp_delta;rw[ai (by rw[p];simp)];refine ar ?_;refine ar ?_;have c:es.size=0\/es.size=1:=by omega
  rcases c with c|c
  .have B:es=#[]:=Array.eq_empty_of_size_eq_zero c;subst B;exact hN (by rw[h];rfl)
  .obtain⟨e,rfl⟩:=ny.1 c;obtain⟨j,l⟩:=ny.1 (fs.t c);rw[l];have M:i<=1:=H.resolve_right λe=>by rw[a]at e;cases e
   have:i=0\/i=1:=by omega
   rcases this with rfl|rfl
   .rw[C O];show Q (match #[e][cY #[j] 0]?,#[j][cY #[j] 0]? with|some (_,x),Z j=>Z (x,j+1)|_,_=>J) s;rw[show cY #[j] 0=0 from by simp[cY,fS]];exact hQ e.2 (j+1) (by rw[h];rfl) (.one a b p (λz=>by cases z) (λP _ m=>by rw[l]at m;cases m;rfl) h)
   .rw[F j O l];show Q (match #[e][cY #[j] (j+1)]?,#[j][cY #[j] (j+1)]? with|some (_,x),Z j=>Z (x,j+1)|_,_=>J) s;rw[show cY #[j] (j+1)=1 from by simp[cY,fS]];exact hN (by rw[h];rfl)
def ItS.ty(x:ItS w I S TP i2 o es ep t i s.heap):s.TypeIs (.ref I) "set_iterator" := let ⟨⟨c,_,a,b,_⟩,_,_,_⟩:=x;⟨c,a,b⟩
def ItS.ordlen(x:ItS w I S TP i2 o es ep t i s.heap):i2.length=es.size:=by
 obtain⟨⟨l,first,_,_,_,j⟩,_,_,_⟩:=x;cases j with
 |txt c a=>rw[a,aq,(Jy _ es).length_eq,cM]
 |drw c a d e f b h=>rw[h,(b.filterMap _).length_eq];have:=mU es;rw[show (bz es.size).filterMap (λp=>es[p]?.map bO)=((bz es.size).filterMap λp=>es[p]?).map bO from(oh ..).symm,this,aq,cM]
 |one c a d e f b=>rw[b,aq,cM]
theorem RW{b d:Type}(f:b->Option d):∀(a:List b),(∀p∈a,∃v,f p=Z v)->∀i:Nat,(a.filterMap f)[i]?=a[i]?.bind f
 |[],_,i=>rfl
 |p::a,h,i=>by
  obtain⟨v,e⟩:=h p aN;rw[jm,e];cases i with
  |zero=>show Z v=f p;rw[e]
  |succ i=>exact RW f a (λq c=>h q (aQ _ c)) i
def Md.mv(m:Md w h S TP i i2 es ep t (.int j l)):Md w p S TP i i2 es ep t (.int j l):=by
 cases m with
 |txt a b=>exact .txt a b
 |one a b c d e f=>exact .one a b c d e f
def Od{B:aM}{R:Fin->ae->Prop}{c:ae}{Q:Option ab->ae->Prop}(d:B.handled=J)(hN:∀h',(∀b o,c.heap.get? b=Z o->h'.get? b=Z o)->Q J { c with heap:=h' }):
  ag (model prog w) B (do let e<-newExc (.type "StopIteration") [];raiseNew e) R (λe f=>ag (model prog w) A (do if<-isInstance e (.type "StopIteration")then pure J else throw e) Q E f) c:=by
 refine af ?_;simp only[newExc,newTuple];refine af (gA ?_ (by size_fits));refine af (m:=firstArgMember _ _) (wpAny_of_eq (a:=Value.none) (by first|rfl|(simp only[firstArgMember];rfl)) ?_);refine gA ?_ (by size_fits);simp only[raiseNew];refine af (wpAny_handled ?_);rw[d];refine af (ar (wpAny_throw ?_));refine af (kY (T:="StopIteration") (b:=γ) ⟨_,bg _ O,O⟩ isSubtype_stop ?_);exact ar (hN _ λb o e=>aJ _ (aJ _ e))
def RX(T:A.handled=J)(x:ItS w I S TP i2 o es ep t i s.heap)(hi:i<=i2.length)(hS:S≠I)(hT:TP≠I)
  (hQ:∀v h',i2[i]?=Z v->cG I s.heap h'->ItS w I S TP i2 o es ep t (i+1) h'->Q (Z v) { s with heap:=h' }) (hN:∀h',i2[i]?=J->Heap.ExtBut I s.heap h'->Q J { s with heap:=h' }):
  ag (model prog w) A (pyNext (.ref I)) Q E s:=by
 have X:=x.ordlen;obtain⟨W,first,hoi,hci,hdi,hm⟩:=x.it;unfold pyNext;refine af (wpAny_attempt (wpAny_callSpecial?_slot (name:=lZ "__next__") x.ty xX (gE xX x.ty IT ?_ (Kv _))));show ag _ _ (fieldsOf (.ref I)>>=_) _ _ s;refine af (wpAny_fieldsOf hoi hdi ?_);show ag _ _ (setEntries S>>=_) _ _ s;refine af ?_;unfold setEntries;refine af (di x.i? x.d x.f ?_);refine ar ?_;dsimp only;rw[ai (by simp)];simp only[fR];have byint:∀(sl:Int) (tk:Tok),first=.int sl tk->(i<=1\/w.params.followText "set-order" = γ)->ag (model prog w) A.in1 (do
   let r<-setNext S sl.toNat i ep
   match r with
    |some (x,next)=>do
     setField (Value.ref I) 0 (rawInt ↑next)
     setField (Value.ref I) 1 (rawInt (↑i+1))
     ret x
    |none=>do
     setField (Value.ref I) 2 Value.none
     let e<-newExc (Value.type "StopIteration") []
     raiseNew e) (λfin M=>∃v,fin=Fin.done (Flow.ret v)/\ag (model prog w) A (pure (Z v)) Q E M) (λe M=>ag (model prog w) A (do if<-isInstance e (.type "StopIteration")then pure J else throw e) Q E M) s:=λsl tk e H=>by
  subst e;refine af (M4 x hm H (λv nx a m=>?_) λa=>?_)
  .refine af (gM hoi hdi (by simp) ?_);have g1:=eG (h:=s.heap) (gf (·.setIfInBounds 0 (rawInt (nx:Int)))) hoi (jg (fw hdi _))
   have d1:=fw hdi (·.setIfInBounds 0 (rawInt (nx:Int)))
   refine af (gM g1 d1 (by simp) ?_);have g2:=eG (gf (·.setIfInBounds 1 (rawInt ((i:Int)+1)))) g1 (jg (fw d1 _))
   have d2:=fw d1 (·.setIfInBounds 1 (rawInt ((i:Int)+1)))
   have j:=(dA s.heap I (gf (·.setIfInBounds 0 (rawInt (nx:Int))))).t (dA _ I (gf (·.setIfInBounds 1 (rawInt ((i:Int)+1)))))
   refine ar ⟨v,O,ar (hQ v _ a j ⟨⟨_,.int nx 0,g2,(kT ..).t ((kT ..).t hci),?_,m.mv⟩,?_,x.d,x.f⟩)⟩
   .rw[d2];simp[rawInt]
   .rw[j.2 S hS];exact x.i?
  .refine af (gM hoi hdi (by simp) ?_);exact Od (by simp[T]) λh' k=>hN h' a λb o hb e=>k b o (by rw[(dA ..).2 b hb];exact e)
 cases hm with
 |txt u y=>exact byint _ _ O (.inr u)
 |one u y P C F G=>exact byint _ _ O (.inl (by omega))
 |@drw ps vs ot nt u y P C F G R=>
  show ag _ _ (seqItems? (.ref TP)>>=_) _ _ s;refine af (jF y C ?_);have N:∀p∈ps,∃v,(es[p]?.map bO)=Z v:=λp U=>by have:=cw.1 (G.mem_iff.1 U);exact⟨es[p].2,by rw[Array.getElem?_eq_getElem this];rfl⟩
  have l:i2[i]?=ps[i]?.bind λp=>es[p]?.map bO:=by rw[R];exact RW _ ps N i
  have a:vs[i]?=ps[i]?.map λp:Nat=>rawInt p:=by rw[F,je,bD]
  cases c:ps[i]? with
  |none=>
   rw[c]at a l;dsimp only;rw[a];refine af (gM hoi hdi (by simp) ?_);have g1:=eG (h:=s.heap) (gf (·.setIfInBounds 0 (rawInt 0))) hoi (jg (fw hdi _))
   have d1:=fw hdi (·.setIfInBounds 0 (rawInt 0))
   refine af (gM g1 d1 (by simp) ?_);exact Od (by simp[T]) λh' k=>hN h' l λb o hb e=>k b o (by rw[(dA ..).2 b hb,(dA ..).2 b hb];exact e)
  |some p=>
   rw[c]at a l;obtain⟨v,z⟩:=N p (cq c);dsimp only;rw[a];show ag _ _ (setNextDrawn S (p:Int).toNat ep>>=_) _ _ s;rw[fR];refine af ?_;unfold setNextDrawn;refine af (di x.i? x.d x.f ?_);dsimp only;rw[ai (by simp)];cases B:es[p]? with
   |none=>rw[B]at z;cases z
   |some q=>
    rw[B]at z;refine ar ?_;refine af (gM hoi hdi (by simp) ?_);have g1:=eG (h:=s.heap) (gf (·.setIfInBounds 1 (rawInt ((i:Int)+1)))) hoi (jg (fw hdi _))
    have d1:=fw hdi (·.setIfInBounds 1 (rawInt ((i:Int)+1)))
    have j:=dA s.heap I (gf (·.setIfInBounds 1 (rawInt ((i:Int)+1))))
    refine ar ⟨_,O,ar (hQ _ _ (by rw[l];show es[p]?.map bO=_;rw[B];rfl) j ⟨⟨_,.ref TP,g1,(kT ..).t hci,?_,.drw u (by rw[j.2 TP hT];exact y) P C F G R⟩,?_,x.d,x.f⟩)⟩
    .rw[d1];simp[rawInt]
    .rw[j.2 S hS];exact x.i?
end
def IU:entryFor table "set_iterator.__iter__" = Z ck.«dict_keyiterator.__iter__»:=pI (id':="dict_keyiterator.__iter__") (by kernel_rfl) O (by decide +kernel) (by kernel_rfl)
def Kz(a:ab):argsOk "set_iterator.__iter__" ⟨[a],[]⟩:=by unfold argsOk;rw[pW (id:="set_iterator.__iter__") (n:=['_','_','r','e','t','i','_','_']) (o:=['r','o','t','a','r','e','t','i','_','t','e','s']) (by kernel_rfl) LL];kernel_rfl
section
variable{prog:aF}{w:ay}{A:aM}{E:ab->ae->Prop}{s:ae}{I S TP:Addr}{i2:List ab}{o:Obj}{es:Array (Int×ab)}{ep:Nat}{t:bV}
def Md.at{h':Heap}(m:Md w h S TP i i2 es ep t f)(k:∀o,h.get? TP=Z o->h'.get? TP=Z o):Md w h' S TP i i2 es ep t f:=by
 cases m with
 |txt a b=>exact .txt a b
 |one a b c d e j=>exact .one a b c d e j
 |drw a b c d e j l=>exact .drw a (k _ b) c d e j l
def Zu(j:A.handled=J)(hS:S≠I)(hT:TP≠I):Walks prog w A I [I,S,TP] [I] i2.length (λi v=>i2[i]?=Z v) (λi h=>ItS w I S TP i2 o es ep t i h/\i<=i2.length) where
 sub:=λb hb=>by simp at hb;simp[hb]
 frame:=λi h h' st c=>by obtain⟨⟨⟨B,f,l,m,p,hm⟩,q,r,u⟩,y⟩:=st;exact⟨⟨⟨B,f,c I (by simp) _ l,m,p,hm.at λo e=>c TP (by simp) o e⟩,c S (by simp) _ q,r,u⟩,y⟩
 item:=λi s Q E hi st hQ=>RX j st.1 st.2 hS hT (λv h' a C x=>hQ v h' s.toks a ⟨x,by omega⟩ λb o hb e=>by rw[C.2 b λz=>hb (by simp[z])];exact e) λh' d _=>by rw[aY hi]at d;cases d
 done:=λs Q E st hQ=>RX j st.1 st.2 hS hT (λv h' a _ _=>by rw[gx (aO _)]at a;cases a) λh' _ k=>hQ h' s.toks λb o hb e=>k b o (λz=>hb (by simp[z])) e
 self:=λi s Q E st h=>by refine oF st.1.ty Ea (gE Ea st.1.ty IU ?_ (Kz _));show ag _ _ (ret (.ref I)) _ _ s;exact ar ⟨_,O,"set_iterator", _,st.1.ty,xX.lookup,h⟩
end
end L4
namespace L4
open PySem PySem.Spec PySem.Calls PyProof.Rows PySem.W L2 L3
section
variable{X:Cx}{G:Bg}{H:Hp}{pins:cB}{σ:St}{s:ae}
def b?.drw(I:b? X pins σ H s)(d:Drawn):b? X pins σ H { s with drawn:=d }:=⟨I.ok,I.os,I.ka,I.b4,I.O?,I.cell,I.free,I.l',I.pin,I.e?,I.len⟩
end
noncomputable abbrev cS(s:Str):FE:=cC (.str s)
noncomputable abbrev a1(e:FE):FA:=ax e uI
section
variable{X:Cx}{G:Bg}{C:Addr}{x:Str}{p pos:Pos}{e:Expr}{c:Nat}
structure Mk0(K:au)(C:Addr):Prop where
 ξ:makesIn K C=γ
 init:findIn K (.ref C) "__init__" = Z (Z (.builtin "object.__init__"))
 kp:keepIn K (.ref C)=γ
def PH(M:Mk0 X.K C)(l:Gl X x)(m:X.mg x=Z (.ref C))(d:(x==("__debug__" : Str))=δ):PE X (.Call (.Name x p) [] [] pos) (λt H Q=>∀y a,H y=J->H a=J->a≠y->Q (.ref y) (en (en H a (.gk y)) y (.l? C a []))):=by
 intro f s t H Q I h;refine dQ (DS I l m ?_ d);refine lC I.n? M.kp ?_;have q:=h (s.heap.objs.size+1) s.heap.objs.size (I.e?.fresh (iO _)) (I.e?.fresh (aO _)) (aT (dD _));have i:=b?.made (C:=C) I;have Y:=mh (M:=model X.prog X.w) I.n? M.ξ;refine jN (OT I.n? M.ξ M.init (λself=>Looks.of_pure (oi_bind self)) ?_);have j:((s.heap.push emptyDict).push (instObj C s.heap.objs.size)).get? (s.heap.objs.size+1)=Z (instObj C s.heap.objs.size):=by rw[<-cN s.heap emptyDict];exact bg _ O
 have r:Looks (model X.prog X.w) ((s.heap.push emptyDict).push (instObj C s.heap.objs.size)) (isInstance (.ref (s.heap.objs.size+1)) (.type "object")) γ:=
  ((Looks.ld j).andThen .now:Looks (model X.prog X.w) _ (typeOf (.ref (s.heap.objs.size+1))) (.ref C)).andThen (Y.top.keeps λb o e=>aJ _ (aJ _ e))
 refine nF oi_plain entry_oi (check_slot oi_kind oi_split r (oi_args _) ?_);rw[oi_run];exact ar (And.intro rfl ⟨V.ref (s.heap.objs.size+1),_,i,rfl,q⟩)
def Zv(c:Nat):FE:=λa=>Z (.obj c [] [],a)
def PJ(h:PE X e (λB H Q=>∀y a,H y=J->H a=J->a≠y->Q (.ref y) (en (en H a (.gk y)) y (.l? (G.ca c) a [])))):PE X e (tF G (Zv c)):=PE.c6 h λB H Q u=>by
 obtain⟨F,I,E,d,A,R,e,k⟩:=u;cases e;intro x a f hdx w;have j:(en H a (.gk x)) x=J:=by rw[uj (λz=>w z.symm)];exact f
 have m:ux H (en (en H a (.gk x)) x (.l? (G.ca c) a [])):=(uy hdx _).t (uy j _);have R2:=R.gi m (λ_ _ e=>e) (R.sub.t m) (λb o e=>.inl e);have l:=R.fx f;have q:=R2.ts uh l (R.g? f) (λi t r to z=>R.apart f i t r to z);refine k _ _ _ (uy l _) q ?_;unfold b6;exact⟨x,a,[],O,uh,O,uP⟩
end
section
variable{X:Cx}{B:Bz}{k:Nat}{p pos:Pos}{x:Str}{c:Nat}
class K0f(B:Bz)(x:Str)(c:Nat):Prop where p:Mk0 B.G.K (B.G.ca c)/\B.mg x=Z (.ref (B.G.ca c))
def Zw [C:Cz X B k][Q:K0f B x c](a:Gz X x)(hd:(x==("__debug__" : Str))=δ):ZE X B (.Call (.Name x p) [] [] pos) (Zv c):=⟨PJ (PH (by rw[C.K];exact Q.p.1) a (by rw[C.mg];exact Q.p.2) hd)⟩
end
end L4
namespace L4
open PySem PySem.Spec PyProof.Rows L2 L3
section
variable{X:Cx}{B:Bz}{k j i m:Nat}{x:Str}{e e':Expr}{es:List Expr}{d:D}{p pos:Pos}{g:D->D->Option D}
def abt:ZB X B l UW:=⟨λa s f H D I h=>by
 obtain⟨F,c,b,o,R,e,_⟩:=h;cases e⟩
end
theorem A5.mono(M:A5 G P w i b4 j m c h)(e:gr j k=γ):A5 G P w i b4 k m c h:=by obtain⟨f,d,l,a,b,c,F⟩:=M;exact⟨f,d,l,a,b,c,F.mono (gp.mp e)⟩
mutual
def Fw:D->Bool
 |.I=>γ
 |.O _=>γ
 |.int _=>γ
 |.str _=>γ
 |.c3 a=>HD a
 |.b3 a=>HD a
 |_=>δ
def HD:bh->Bool
 |[]=>γ
 |d::a=>Fw d&&HD a
end
mutual
theorem b6.but{G:Bg}{H p:Hp}(e:∀b o,H b=Z o->(∀u kvs,o≠HO.mu u (.dK kvs))->p b=Z o):∀(d:D) (v:V),Fw d=γ->b6 G H d v->b6 G p d v
 |.I,v,_,h=>by unfold b6 at h ⊢;exact h
 |.O b,v,_,h=>by unfold b6 at h ⊢;exact h
 |.int i,v,_,h=>by unfold b6 at h ⊢;exact h
 |.str x,v,_,h=>by unfold b6 at h ⊢;exact h
 |.c3 f,v,n,h=>by
  unfold b6 at h ⊢;unfold Fw at n;obtain⟨a,j,rfl,l,m⟩:=h;refine⟨a,j,O,?_,b1.but e f j n m⟩;rcases l with (h|⟨o,h⟩)|h
  .exact .inl (.inl (e _ _ h λ_ _ z=>nomatch z))
  .exact .inl (.inr ⟨o,e _ _ h λ_ _ z=>nomatch z⟩)
  .exact .inr h
 |.b3 f,v,n,h=>by unfold b6 at h ⊢;unfold Fw at n;obtain⟨a,j,rfl,l,m⟩:=h;exact⟨a,j,O,e _ _ l (λ_ _ z=>nomatch z),b1.but e f j n m⟩
 |.R f,v,n,h=>by unfold Fw at n;cases n
 |.obj c r f,v,n,h=>by unfold Fw at n;cases n
 |.Q q f,v,n,h=>by unfold Fw at n;cases n
 |.U q f,v,n,h=>by unfold Fw at n;cases n
theorem b1.but{G:Bg}{H f:Hp}(e:∀b o,H b=Z o->(∀u kvs,o≠HO.mu u (.dK kvs))->f b=Z o):∀(a:bh) (c:bC),HD a=γ->b1 G H a c->b1 G f a c
 |[],c,_,h=>by unfold b1 at h ⊢;exact h
 |d::a,c,n,h=>by unfold b1 at h ⊢;unfold HD at n;rw[aX]at n;obtain⟨v,r,rfl,i,j⟩:=h;exact⟨v,r,O,b6.but e d v n.1 i,b1.but e a r n.2 j⟩
end
section
variable{t:bV}{m n:Nat}
def tM(m:Nat):bV:=⟨m,#[],#[],0,δ,0,δ⟩
def Wy(m:Nat)(a:Nat->Prop)(j:Nat):Nat->iH->Prop
 |0,_=>False
 |f+1,p=>p.j=j\/(a p.j/\Wy m a j f ((tM m).advance p))
end
def Mm(m:Nat):Prop:=m=7\/m=31\/m=127
section
variable{κ α:Type}[DecidableEq κ]
def y'(l:List κ):List κ:=l.foldl (λacc k=>if k∈acc then acc else acc++[k]) []
theorem Gy:∀(l acc:List κ),acc.Nodup->(l.foldl (λacc k=>if k∈acc then acc else acc++[k]) acc).Nodup/\∀x,x∈l.foldl (λacc k=>if k∈acc then acc else acc++[k]) acc ↔ x∈acc\/x∈l
 |[],acc,h=>⟨h,λx=>⟨.inl,λh=>h.resolve_right (by simp)⟩⟩
 |k::l,acc,h=>by
  rw[iG];split
  .rename_i f;obtain⟨c,d⟩:=Gy l acc h;refine⟨c,λx=>(d x).t ⟨λh=>h.imp id (aQ _),λh=>?_⟩⟩;rcases h with h|h
   .exact .inl h
   .rcases aK.1 h with rfl|h
    .exact .inl f
    .exact .inr h
  .rename_i f;obtain⟨c,d⟩:=Gy l (acc++[k]) (bZ.2 ⟨h,dm.2 ⟨b0,.nil⟩,λa i b j e=>f (by rw[<-aW.1 j,<- e];exact i)⟩);refine⟨c,λx=>(d x).t ?_⟩;rw[bb,aW,aK,or_assoc]
def M5(l:List κ):(y' l).Nodup:=(Gy l [] .nil).1
def KA{l:List κ}{x:κ}:x∈y' l ↔ x∈l:=((Gy l [] .nil).2 x).t ⟨λh=>h.resolve_left (by simp),.inr⟩
end
end L4
namespace L4
open PySem PySem.Spec PySem.Calls PyProof.Rows PySem.W L2 L3
section
variable{prog:aF}{w:ay}{A:aM}{E:ab->ae->Prop}{s:ae}
theorem PK(h:Q 0xFCA86420 { s with toks:=s.toks+1 }):ag (model prog w) A (pyHash .none) Q E s:=by
 show ag _ _ (pyHashByItsType .none) Q E s;unfold pyHashByItsType;refine af ?_;rw[cRoomFor,ai (by rw[show [Value.none].any Value.onHeap=δ from O];exact bx)];refine ar ?_;refine af (gH (jL s) jk.lookup ?_);show ag _ _ (if (Z (Value.builtin "NoneType.__hash__")==Z Value.none)=γ then _ else _) Q E s;rw[ai (by rw[beq_builtin_none];exact bx)];refine af (gH (jL s) jk.lookup ?_);show ag _ _ (callSpecialIfBoundUnlessNone? .none "__hash__" _>>=_) Q E s;refine af (wpAny_callSpecialIfBoundUnlessNone?_slot (jL s) jk
  (gE jk (jL s) F.entry_NoneType_hash
   (show ag _ _ (do ret (<-mkInt 0xFCA86420)) _ _ s from wpAny_ret_mkInt ?_) (F.args_NoneType_hash_1 _)))
 exact ar h
def Vr(h:Q γ s):ag (model prog w) A (eqBool .none .none) Q E s:=by unfold eqBool;refine bS ?_;rw[aj (show (Value.none==Value.none)=γ from O)];exact af (eO (ar h))
def oIs:Option dt->ab->Bool
 |none,.none=>γ
 |none,_=>δ
 |some k,v=>GL k v
def zh(h:oIs k v=γ):(k=J/\v=.none)\/(∃i t,k=Z (Sum.inl i)/\v=Value.int i t)\/∃x t,k=Z (Sum.inr x)/\v=Value.str x t:=by
 cases k with
 |none=>cases v<;>first|exact .inl ⟨O,O⟩|cases h
 |some k=>
  rcases vh (k:=k) h with ⟨i,t,rfl,rfl⟩|⟨x,t,rfl,rfl⟩
  .exact .inr (.inl ⟨i,t,O,O⟩)
  .exact .inr (.inr ⟨x,t,O,O⟩)
def υ(prog:aF)(w:ay):pK prog w (Option dt) where
 is:=oIs
 hash:=λk=>match k with|none=>0xFCA86420|some k=>keyH w k
 inj:=λv a b ha hb=>by rcases zh ha with ⟨rfl,rfl⟩|⟨i,t,rfl,rfl⟩|⟨x,t,rfl,rfl⟩<;>rcases zh hb with ⟨rfl,e⟩|⟨j,u,rfl,e⟩|⟨y,u,rfl,e⟩<;>first|rfl|(cases e;rfl)|cases e
 byValue:=λk v h=>by rcases zh h with ⟨rfl,rfl⟩|⟨i,t,rfl,rfl⟩|⟨x,t,rfl,rfl⟩<;>rfl
 pyHash:=λ{A E s k v Q} c h=>by
  cases k with
  |some k=>exact(ur prog w).pyHash (k:=k) c h
  |none=>
   rcases zh c with ⟨_,rfl⟩|⟨i,t,e,_⟩|⟨x,t,e,_⟩
   .exact PK h
   .cases e
   .cases e
 eqBool:=λ{A E s a b u v Q} d c h=>by
  rcases zh d with ⟨rfl,rfl⟩|⟨i,t,rfl,rfl⟩|⟨x,t,rfl,rfl⟩<;>rcases zh c with ⟨rfl,rfl⟩|⟨j,u,rfl,rfl⟩|⟨y,u,rfl,rfl⟩
  .exact Vr h
  .exact nL j u _ _ _ _ h
  .exact nM y u _ _ _ _ h
  .exact nO i t _ _ _ _ h
  .exact(ur prog w).eqBool (a:=Sum.inl i) (b:=Sum.inl j) d c (by simpa using h)
  .exact(ur prog w).eqBool (a:=Sum.inl i) (b:=Sum.inr y) d c (by simpa using h)
  .exact nP x t _ _ _ _ h
  .exact(ur prog w).eqBool (a:=Sum.inr x) (b:=Sum.inl j) d c (by simpa using h)
  .exact(ur prog w).eqBool (a:=Sum.inr x) (b:=Sum.inr y) d c (by simpa using h)
 «strs»:=λk x t v h=>by
  cases k with
  |none=>cases h
  |some k=>exact(ur prog w).strs k x t v h
def Vs{h:Heap}(m:h.MapOf (ur prog w) a f):h.MapOf (υ prog w) a (λk=>match k with|none=>J|some k=>f k):=by
 obtain⟨o,p,l,q,r,u,j,y⟩:=m;refine⟨o,p,l,q,r,u,λe b=>?_,λk=>?_⟩
 .obtain⟨k,c,z⟩:=j e b;exact⟨Z k,c,z⟩
 .cases k with
  |some k=>exact y k
  |none=>
   unfold findBy;rw[Array.find?_eq_none.2 λe b=>?_]
   .rfl
   .obtain⟨k,c,_⟩:=j e b;rcases vh c with ⟨i,t,_,d⟩|⟨x,t,_,d⟩<;>(rw[d];exact bx)
end
section
variable{X:Cx}{G:Bg}{H:Hp}{pins:cB}{σ:St}{s:ae}
def Zx(I:b? X pins σ H s)(e:Rd H a (.dK kvs))(h:∀c,b? X pins σ H c->Q .none c):ag (model X.prog X.w) A (call (.builtin "dict.get") [.ref a,.none]) Q E s:=by obtain⟨z,hd,d,rel,b⟩:=Fk I.e? e;exact fD dU b.typeIs gB (kO _ _) (pB (υ X.prog X.w) a (k:=J) O hd) ⟨_,Vs b.mapOf,h _ (I.x? _)⟩
def Zy(d ty:TE):TE:=λσ H Q=>d σ H λx c=>∃a,x=.ref a/\IsD c a/\ty σ c λy b=>(∃o,r? b a y o/\Q (o.getD .I) b)\/(y=.I/\(∃kvs,Rd b a (.dK kvs))/\Q .I b)
def RY(B:X.A.units+1<cLine)(z:PE X o S)(w:PE X e ty)(m:M1 X o "get" apos e cpos):PE X (.Call (.Attribute o "get" apos) [e] [] cpos) (Zy S ty):=by
 intro pins s σ H Q I h;refine gy m.b4 m.few m.line gz dU jB (ff (z pins s σ H _ I h) λu M c=>?_);obtain⟨x,r,l,F,a,t,d,E⟩:=c;subst t;obtain rfl:u=Value.ref a:=F;obtain⟨P,R,_⟩:=Kc l d;refine⟨P,R,?_⟩;rw[m.Bx];refine fN O (fO (dg (ff (w pins M σ r _ l E) λC U c=>eI ?_)));obtain⟨y,j,p,q,⟨T,g,f⟩|⟨rfl,⟨kvs,e⟩,f⟩⟩:=c
 .exact Qz B p g q λW N b i=>⟨_,j,b,i,f⟩
 .obtain rfl:C=.none:=q;exact Zx p e λN b=>⟨.I,j,b,O,f⟩
def LM:D->D->Option D:=λx y=>match y with
 |.I=>match x with
  |.Q _ _=>Z .I
  |_=>J
 |y=>Bw x y
def RZ(hu:X.A.units+1<cLine)(ha:PE X a (tF G f))(hb:PE X b (tF G f'))(m:M1 X a "get" apos b cpos):PE X (.Call (.Attribute a "get" apos) [b] [] cpos) (tF G (c2 LM f f')):=PE.c6 (RY hu ha hb m) λσ H Q hh=>by
 obtain⟨F,ρ,T,d,I,R,e,k⟩:=hh;obtain⟨x,y,q,Y,e2,c⟩:=Gs e;cases x with
 |Q l N=>
  refine⟨F,ρ,T,_,q,R,Y,λv U W E M r1=>?_⟩;have o:=r1;unfold b6 at o;obtain⟨p,ob,xs,rfl,B,h2,h3⟩:=o;refine⟨p,O,.inl ⟨_,.inr ⟨_,M.sub _ _ B⟩⟩,F,q,U,y,I,M,e2,λu r h i R2 C=>?_⟩;by_cases S:y=.I
  .subst S;cases c;unfold b6 at C;subst C;exact .inr ⟨O,⟨_,.inr ⟨_,R2.sub _ _ (i _ _ B)⟩⟩,k _ r h (E.t i) R2 zR⟩
  .left;have c:Bw (.Q l N) y=Z d:=by
    unfold LM at c;split at c
    .exact ao O S
    .exact c
   unfold Bw at c;cases t:AB y with
   |none=>simp only[t]at c;cases c
   |some j=>
    simp only[t]at c;cases c;have lv:=BU (ks:=l) j (b1.mono i _ _ h3) h2;refine⟨xP (l.zip xs) j,?_,?_⟩
    .rw[A7 C t];exact r?.kf (R2.sub _ _ (i _ _ B))
    .cases P:vI l N j with
     |none=>rw[P]at lv k;rw[lv];exact k _ r h (E.t i) R2 zR
     |some z=>rw[P]at lv k;obtain⟨w,w1,w2⟩:=lv;rw[w1];exact k _ r h (E.t i) R2 w2
 |_=>
  unfold LM at c;split at c
  .cases c
  .unfold Bw at c;cases c
end
section
variable{X:Cx}{B:Bz}{k:Nat}{e e':Expr}{f f':FE}{apos pos:Pos}
def Zz [C:Cz X B k](d:ZE X B e f)(h:ZE X B e' f')(b:Az X e "get")(c:Ez apos pos)(a:S1 X e'):ZE X B (.Call (.Attribute e "get" apos) [e'] [] pos) (c2 LM f f'):=⟨RZ (Lc C.r) d.p h.p ⟨b,by rw[a];rfl,c,by rw[a];rfl⟩⟩
end
def tOr(t a:Ty->Option Bool):Ty->Option Bool:=λy=>match t y with
 |some γ=>match a y with
  |some _=>Z γ
  |none=>J
 |some δ=>a y
 |none=>J
def inst_or(h:Hl G c t)(l:Hl G d i):NY G [c,d] (tOr t i):=by
 refine⟨λy b e=>?_,λj b e=>?_⟩
 .unfold tOr at e;show kitAny G.K (y.val G) [.ref (G.ca c),.ref (G.ca d)]=Z b;unfold kitAny;cases a:t y with
  |none=>simp only[a]at e;cases e
  |some v=>
   simp only[a]at e;rw[h.1 y v a];cases v with
   |true=>
    cases f:i y with
    |none=>simp only[f]at e;cases e
    |some w=>simp only[f]at e;cases e;rfl
   |false=>simp only at e;unfold kitAny;simp only;rw[l.1 y b e];cases b<;>rfl
 .unfold tOr at e;cases a:t (.c j)with
  |none=>simp only[a]at e;cases e
  |some v=>exact h.2 j v a
section
variable{X:Cx}{B:Bz}{k:Nat}{e:Expr}{f:FE}{p p2 p3 p4 pos:Pos}{x y:Str}
def zr_i2I{d}[Q:Ic B x t][o:Ic B y F][C:Cz X B k][N:Nb B "isinstance"](u:Gz X "isinstance")(r:Gz X x)(i:Gz X y)(m:aC [e,.Tuple [.Name x p2,.Name y p3] d p4] X.b5=[(δ,eval e X.b5),(δ,eval (.Tuple [.Name x p2,.Name y p3] d p4) X.b5)])(a:S1 X (.Tuple [.Name x p2,.Name y p3] d p4))(j:aC [.Name x p2,.Name y p3] X.b5=[(δ,eval (.Name x p2) X.b5),(δ,eval (.Name y p3) X.b5)])(b:S1 X (.Name y p3))(q:ZE X B e f)(hd:Dz x)(h:Dz y):ZE X B (.Call (.Name "isinstance" p) [e,.Tuple [.Name x p2,.Name y p3] d p4] [] pos) (c1 (u7 (tOr t F)) f):=by
 obtain⟨c,w,z⟩:=Q.p;obtain⟨l,A,E⟩:=o.p;refine⟨Rw (cs:=[c,l]) (DU (MO (inst_or w A) C.K) u (C.mg▸N.p) lp (wc q.p (wc (Qo (wc (Gp (v:=.ref (B.G.ca c)) r (C.mg▸z) O hd) (wc (Gp (v:=.ref (B.G.ca l)) i (C.mg▸E) O h) yM b) ?_)) yM a) ?_) (by decide) (by decide) ?_ ?_) (by show 2<=1000;decide)⟩
 .rw[j,b]
 .rw[m,a]
 .rw[m,a]
 .rw[a];rfl
end
section
variable{P:aF}{w:ay}{mg:Str->Option ab}{b4:Heap}{G:Bg}{x:Str}
def GX(K:au)(x s:Str):Prop:=∃t:Tok,nsIn K aZ x=Z (Z (.str s t))
def const_str(X:G.K.In h)(a:h.Ns aZ mg)(e:nsIn G.K aZ x=Z (Z (.str z t))):zS G mg x (.str z):=
 ⟨.str z,_,iW X a e,⟨_,O⟩,λ_=>A1 _⟩
def Yw.cx(y:Yw P w mg b4 G)(q:GX G.K x s):zS G mg x (.str s):=by obtain⟨h,X,a⟩:=y.m;obtain⟨t,e⟩:=q;exact const_str X a e
end
section
variable{X:Cx}{G:Bg}
def rInT(K:au):R2:=λx y H Q=>∃p a d l,y=.ref p/\f3 K H p a/\L3.b6 K H d x/\L3.b1 K H l a/\kb d<=20/\(∀e∈l,kb e<=20)/\Q (.O (l.any λe=>k? e d)) H
theorem Ra{K:au}:∀{l:List L3.Dq} {f:bC} {c:List ab},L3.b1 K H l f->c9 f c->(∀u∈c,∃e∈l,∃x,L3.b6 K H e x/\df x u)/\∀e∈l,∃u∈c,∃x,L3.b6 K H e x/\df x u
 |[],f,c,r,v=>by unfold L3.b1 at r;subst r;cases v;exact⟨λu b=>(by cases b),λe a=>(by cases a)⟩
 |d::l,f,c,r,v=>by
  unfold L3.b1 at r;obtain⟨x,q,rfl,h,j⟩:=r;cases v with
  |cons i p=>
   obtain⟨m,o⟩:=Ra j p;refine⟨λu b=>?_,λe a=>?_⟩
   .rcases aK.1 b with rfl|b
    .exact⟨d,aN,x,h,i⟩
    .obtain⟨e,a,z⟩:=m u b;exact⟨e,aQ _ a,z⟩
   .rcases aK.1 a with rfl|a
    .exact⟨_,aN,x,h,i⟩
    .obtain⟨u,b,z⟩:=o e a;exact⟨u,aQ _ b,z⟩
def op_inT(U:X.A.units+64<cLine):i1 X (bA .In) (rInT X.K):=by
 intro C s σ H x y v u Q I S T h;obtain⟨p,Y,d,l,rfl,M,P,R,hd,F,q⟩:=h;cases T;obtain⟨j,r,pl,W⟩:=I.list M;obtain⟨N,m2⟩:=Ra R r;have B:∀e∈l,∀z w,L3.b6 X.K H e z->df z w->iQ X.A.in1 s w v (k? e d):=λe a z w b c=>QE I e d z x w v X.A.in1 b P c S (by have:=F e a;show X.A.units+1+_+_<_;omega);let f:ab->Bool:=λw=>@decide (∃e∈l,∃z,L3.b6 X.K H e z/\df z w/\k? e d=γ) (iq _);refine o8 f pl.isList (λw o=>?_) ⟨.O _,H,I,O,?_⟩
 .by_cases m:∃e∈l,∃z,L3.b6 X.K H e z/\df z w/\k? e d=γ
  .have t:f w=γ:=@bf _ (iq _) m;obtain⟨e,a,z,b,c,i⟩:=m;have:=B e a z w b c;rw[i]at this;rw[t];exact this
  .have t:f w=δ:=@bj _ (iq _) m;obtain⟨e,a,z,b,c⟩:=N w (by simpa using o);have:=B e a z w b c;rw[ju.2 λi=>m ⟨e,a,z,b,c,i⟩]at this;rw[t];exact this
 .have E:j.toArray.any f=l.any λe=>k? e d:=by
   rw[show j.toArray.any f=j.any f by simp];refine cX.2 ?_;rw[dS,dS];constructor
   .rintro⟨w,o,m⟩;obtain⟨e,a,z,b,c,i⟩:=@bF _ (iq _) m;exact⟨e,a,i⟩
   .rintro⟨e,a,i⟩;obtain⟨w,o,z,b,c⟩:=m2 e a;exact⟨w,o,@bf _ (iq _) ⟨e,a,z,b,c,i⟩⟩
  rw[E];exact q
def E':D->D->Option D:=λx y=>match y with
 |.b3 a=>match tp x,A4 a with
  |some d,Z l=>if decide (kb d<=20)&&l.all (λe=>decide (kb e<=20))then Z (.O (l.any λe=>k? e d))else J
  |_,_=>J
 |_=>J
def od_inT:ke G (rInT G.K) E':=λx y z r H v u Q e s q c k=>by
 unfold E' at e;split at e
 .rename_i i;cases b:tp x with
  |none=>simp only[b]at e;cases e
  |some d=>
   cases f:A4 i with
   |none=>simp only[b,f]at e;cases e
   |some l=>
    simp only[b,f]at e;split at e
    .rename_i h;cases e;rw[aX,bQ,ba]at h;have c:=b6.mono s _ _ c;unfold b6 at c;obtain⟨a,j,rfl,m,o⟩:=c;exact⟨a,j,d,l,O,f3.of m,Gu x v d (b6.mono s _ _ q) b,D4 i j l o f,h.1,λe p=>bF (h.2 e p),k _ λ_ _=>wJ _⟩
    .cases e
 .cases e
instance inT2:P' .In E':=⟨λX G h a=>⟨_,by rw[<-h];exact op_inT a,od_inT⟩⟩
end
section
variable{X:Cx}{B:Bz}{k i:Nat}{e:Expr}{f:FE}{a:FA}{x:Str}{p p2 p3 pos apos:Pos}
def zr_xeI [C:Cz X B k](h:z3 X i x=γ)(d:Az X (.Name x p) "extend")(j:Ez apos pos)(b:S1 X e)(c:ZN X B e a):ZE X B (.Call (.Attribute (.Name x p) "extend" apos) [e] [] pos) (G4 i a):=
 ⟨Pd (bmI d j b jv jq og O0 (W? h) (wc c.p yM b))⟩
end
def sOf:ab->Str
 |.str x _=>x
 |_=>""
structure i0(w:ay)(h:Heap)(S:Addr)(ss:aH)(led:Bool)(o:Obj)(es:Array (Int×ab))(ep:Nat)(t:bV):Prop where
 i?:h.get? S=Z o
 ex:o.ExactSet
 d:o.data=.set es ep t
 f:t.fits es.size=γ
 led:t.led=led
 pl:0<ss.length->t.plain=δ
 el:∀e∈es.toList,∃x tk,e=(hashStr w x,Value.str x tk)
 p:(es.toList.map λe=>sOf e.2).Perm ss
def i0.sz{w:ay}{h:Heap}{S:Addr}{a:aH}{led:Bool}{o:Obj}{es:Array (Int×ab)}{ep:Nat}{t:bV}(x:i0 w h S a led o es ep t):es.size=a.length:=by have:=x.p.length_eq;rw[aq,cM]at this;exact this
def lay_led(t:bV)(a:Array (Int×ab))(h:Int)(x:ab):(layNew t a h x).2.1.led=t.led/\(t.plain=δ->(layNew t a h x).2.1.plain=δ):=by
 unfold layNew;split
 .rename_i b c e;show ((t.put b).1.orStandIn _).led=_/\(_->((t.put b).1.orStandIn _).plain=δ);unfold SetTable.orStandIn;split
  .exact⟨O,id⟩
  .exact⟨O,λ_=>O⟩
 .exact⟨O,λ_=>O⟩
def ω(t:bV)(a:Array (Int×ab))(n:Nat):(relayAll t a n).2.1.led=t.led/\(t.plain=δ->(relayAll t a n).2.1.plain=δ):=by
 unfold relayAll;split
 .rename_i c order e;unfold SetTable.relaid SetTable.laid at e;obtain⟨b,_,e⟩:=Option.bind_eq_some_iff.1 e;cases e;dsimp only;split
  .exact⟨O,id⟩
  .exact⟨O,λ_=>O⟩
 .exact⟨O,λ_=>O⟩
section
variable{prog:aF}{w:ay}{A:aM}{E:ab->ae->Prop}{s:ae}{S:Addr}{o:Obj}{es:Array (Int×ab)}{ep:Nat}{t:bV}{ss:aH}{led:Bool}
def i0.elems(x:i0 w s.heap S ss led o es ep t):ElemsOf (dX prog w) es.toList:=λe a=>by obtain⟨z,b,rfl⟩:=x.el e a;exact⟨⟨z,by simp[dX,gO],O⟩,O⟩
def i0.mem(x:i0 w s.heap S ss led o es ep t)(z:Str):z∈ss ↔ ∃e∈es.toList,(dX prog w).is z e.2=γ:=by
 rw[<-x.p.mem_iff,av];constructor
 .rintro⟨e,a,rfl⟩;obtain⟨y,b,rfl⟩:=x.el e a;exact⟨_,a,by simp[dX,gO,sOf]⟩
 .rintro⟨e,a,h⟩;obtain⟨y,b,rfl⟩:=x.el e a;exact⟨_,a,by simpa [dX,gO,sOf]using h⟩
def i0.stored(x:i0 w s.heap S ss led o es ep t){a:Array (Int×ab)}{b:bV}{ss':aH}(f:b.fits a.size=γ)(l:b.led=led)(pl:0<ss'.length->b.plain=δ)(el:∀e∈a.toList,∃x tk,e=(hashStr w x,Value.str x tk))(p:(a.toList.map λe=>sOf e.2).Perm ss'):
  i0 w (s.heap.update S (gX a b)) S ss' led { o with data:=.set a (ep+1) b } a (ep+1) b:=
 ⟨MP x.i? x.d,x.ex,O,f,l,pl,el,p⟩
def tail_x{g:Bool->Sem Unit}(hg:∀(b:Bool) (i:ae) (B:Unit->ae->Prop),B () i->ag (model prog w) A (g b) B E i)(X:i0 w s.heap S ss led o es ep t)
  {a:Array (Int×ab)} {c:bV} {ss':aH} (f:c.fits a.size=γ) (l:c.led=led) (pl:c.plain=δ) (el:∀e∈a.toList,∃x tk,e=(hashStr w x,Value.str x tk)) (p:(a.toList.map λe=>sOf e.2).Perm ss') (hb:a.size<scanBound)
  {wasDummy:Bool} {R:Option Bool->ae->Prop} (h:∀h' G u r H,cG S s.heap h'->i0 w h' S ss' led G u r H->R (Z γ) { s with heap:=h' }):
  ag (model prog w) A (do
    storeSet S a c
    if (!wasDummy&&c.tooFull)=γ then do
      g (relayAll c a (fA a.size)).2.2
      storeSet S (relayAll c a (fA a.size)).1 (relayAll c a (fA a.size)).2.1
      pure (Z γ)
     else pure (Z γ)) R E s:=by
 refine af (kR X.i? X.d ?_ (oG hb));have m:=X.stored (ss':=ss') f l (λ_=>pl) el p;have hsb1:=dA s.heap S (gX a c);split
 .have j:=relayAll_perm c a (fA a.size);have hfr:=relayAll_fits c a (fA a.size);have q:=ω c a (fA a.size);generalize relayAll c a (fA a.size)=C at j hfr q ⊢;obtain⟨y,I,gave2⟩:=C;dsimp only at j hfr q ⊢;have z:y.size=a.size:=by rw[<-cM,j.length_eq,cM]
  refine af (hg _ _ _ ?_);refine af (kR m.i? m.d ?_ (oG (by rw[z];exact hb)));exact ar (h _ _ _ _ _ (hsb1.t (dA _ S _)) (i0.stored (s:={ s with heap:=s.heap.update S (gX a c) }) (ss':=ss') m hfr (q.1.t l) (λ_=>q.2 pl) (λe F=>el e (j.mem_iff.1 F)) ((j.map _).t p)))
 .exact ar (h _ _ _ _ _ hsb1 m)
def add_x(X:i0 w s.heap S ss led o es ep t)(hb:ss.length+1<scanBound)
  (G:x∈ss->Q δ s)
  (H:x∉ss->∀h' q h c r,cG S s.heap h'->i0 w h' S (ss++[x]) led q h c r->Q γ { s with heap:=h' }):ag (model prog w) A (setAddHashed S (.str x tk) (hashStr w x)) Q E s:=by
 have sz:=X.sz;have hkey:(dX prog w).is x (.str x tk)=γ:=by simp[dX,gO]
 unfold setAddHashed setAddHashedIn;refine bS (af (di X.i? X.d X.f ?_));dsimp only;rw[byScan_of (knd:=dX prog w) O (by omega) X.elems];simp only[↓reduceIte];unfold setAddByScan;refine af ?_;refine af (eO ?_);refine af (wpAny_setScan_of (knd:=dX prog w) hkey X.i? X.d X.f X.elems ?_);cases hr:List.findIdx? (λe=>(dX prog w).is x e.2) es.toList with
 |some j=>dsimp only;obtain⟨I,hpj,_⟩:=List.findIdx?_eq_some_iff_getElem.1 hr;exact ar (ar (G ((X.mem (prog:=prog) x).2 ⟨es.toList[j],fz I,hpj⟩)))
 |none=>
  dsimp only;have nin:x∉ss:=λN=>by obtain⟨e,l,M⟩:=(X.mem (prog:=prog) x).1 N;have:=List.findIdx?_eq_none_iff.1 hr e l;rw[M]at this;exact Bool.noConfusion this
  have hgw:∀(b:Bool) {a:ae} {u:Unit->ae->Prop},u () a->ag (model prog w) A (match b with|true=>rule "set.scan.the-table-gave-way" |false=>pure ()) u E a:=
   λb a u m=>by cases b<;>first|exact ar m|exact eO m
  have hperm:=layNew_perm t es (hashStr w x) (.str x tk);have hfits:=layNew_fits t es (hashStr w x) (.str x tk);have hled:=lay_led t es (hashStr w x) (.str x tk);show ag _ _ (match layNew t es (hashStr w x) (.str x tk)with|(es,t,wasDummy,gave)=>_) _ _ _;generalize layNew t es (hashStr w x) (.str x tk)=L at hperm hfits hled ⊢;obtain⟨i,P,wasDummy,gave⟩:=L;dsimp only at hperm hfits hled ⊢;rw[oE]at hperm;have y:∀e∈i.toList,∃x tk,e=(hashStr w x,Value.str x tk):=λe l=>by
   rcases bb.1 (hperm.mem_iff.1 l)with l|l
   .exact X.el e l
   .rw[aW]at l;exact⟨x,tk,l⟩
  have F:(i.toList.map λe=>sOf e.2).Perm (ss++[x]):=by have:=hperm.map λe:Int×ab=>sOf e.2;rw[bK]at this;exact this.t (X.p.append_right _)
  have z:i.size<scanBound:=by rw[<-cM,hperm.length_eq,aR,cM,sz];exact hb
  refine af (hgw _ ?_);have end_:∀(h':Heap) (q:Obj) (h:Array (Int×ab)) (c:Nat) (r:bV),cG S s.heap h'->i0 w h' S (ss++[x]) led q h c r->Q γ { s with heap:=h' }:=H nin;split
  .refine af ?_;rw[hashByValue_scannable 8 O];refine ar ?_;show ag _ _ (storeSet S i { P with plain:=δ }>>=_) _ _ _;refine tail_x ?_ X (SetTable.fits_plain_off hfits) (hled.1.t X.led) O y F z ?_
   .intro b a u m;cases b<;>first|exact ar m|exact eO m
   .intro h' q h c r C B;dsimp only;exact ar (end_ h' q h c r C B)
  .rename_i hpl;refine af (ar ?_);simp only[↓reduceIte];refine tail_x ?_ X hfits (hled.1.t X.led) (by simpa using hpl) y F z ?_
   .intro b a u m;cases b<;>first|exact ar m|exact eO m
   .intro h' q h c r C B;dsimp only;exact ar (end_ h' q h c r C B)
end
section
variable{prog:aF}{w:ay}{A:aM}{E:ab->ae->Prop}{s:ae}{S:Addr}{o:Obj}{es:Array (Int×ab)}{ep:Nat}{t:bV}
theorem iter_X(x:i0 w s.heap S ss (!w.params.followText "set-order") o es ep t)(C:ss.length<64)
  (hQ:∀(h':Heap) (I TP:Addr) (i2:List ab) (d:Drawn),s.heap.objs.size<=I->I<h'.objs.size->TP≠I->(TP=S\/s.heap.objs.size<=TP)->(∀b o,s.heap.get? b=Z o->h'.get? b=Z o)->ItS w I S TP i2 o es ep t 0 h'->i2.Perm (es.toList.map bO)->Q (.ref I) { s with heap:=h',drawn:=d }):
  ag (model prog w) A (pyIter (.ref S)) Q E s:=by
 have hf:=x.f;have ty:s.TypeIs (.ref S) "set" := ⟨o,x.i?,x.ex.1⟩;have hlt:=aL x.i?;refine oF ty pj (gE pj ty Kw ?_ (F.args_set_iter_1 _));unfold ck.«frozenset.__iter__»;refine af (m:=sq _ _) (ar ?_);refine af ?_;unfold sk setEntries;refine af (af (di x.i? x.d hf (ar ?_)));refine ar ?_;refine af ?_;unfold setDrawn;refine af (di x.i? x.d hf ?_);dsimp only;refine af (EZ ?_);refine ar ?_;have plain0:(w.params.followText "set-order" = γ\/(w.params.followText "set-order" = δ/\es.size<=1))->ag (model prog w) A.in1 (do
   let first<-pure (rawInt 0)
   let e<-setEpoch S;let r<-newFields "set_iterator" [first,rawInt 0,Value.ref S,rawInt ↑es.size,rawInt ↑e]
   ret r) (λfin i=>∃v,fin=Fin.done (Flow.ret v)/\∃a r,i.TypeIs v a/\typeLookup (Value.type a) (lZ "__next__")=pure (Z r)/\Q v i) E s:=λc=>by
  refine af (ar ?_);refine af (oH x.i? x.d hf ?_);refine af (gA ?_);have h:∀(l:Obj) (b:Addr) (o:Obj),s.heap.get? b=Z o->(s.heap.push l).get? b=Z o:=λl b o e=>aJ _ e;have it:∀i2,Md w (s.heap.push { cls:=.type "set_iterator", data:=.fields [rawInt 0,rawInt 0,Value.ref S,rawInt ↑es.size,rawInt ↑ep].toArray }) S S 0 i2 es ep t (.int 0 0)->i2.Perm (es.toList.map bO)->_:=λi2 m p=>ar (M:=model prog w) (A:=A.in1) (E:=E) (Q:=λfin i=>∃v,fin=Fin.done (Flow.ret v)/\∃a r,i.TypeIs v a/\typeLookup (Value.type a) (lZ "__next__")=pure (Z r)/\Q v i) ⟨.ref s.heap.objs.size,O,"set_iterator", _,⟨_,bg _ O,O⟩,xX.lookup,hQ _ s.heap.objs.size S i2 s.drawn (aO _) (by rw[cN];exact dD _) (aT hlt) (.inl O) (h _) ⟨⟨_,.int 0 0,bg _ O,O,O,m⟩,h _ _ _ x.i?,x.d,hf⟩ p⟩;rcases c with c|⟨c1,c2⟩
  .exact it _ (.txt c O) ((Jy _ es).map _)
  .exact it _ (.one c1 c2 (by rw[x.led,c1];rfl) (λ_=>O) (λj e=>by cases e) O) (.refl _)
 cases c:w.params.followText "set-order" with
 |true=>rw[ai (by simp)];exact plain0 (.inl c)
 |false=>
  by_cases y:es.size<=1
  .rw[ai λz=>by
    have:(!δ&&(!t.plain&&decide (es.size > 1)))=γ:=z;simp at this;omega]
   exact plain0 (.inr ⟨c,y⟩)
  .have pl:t.plain=δ:=x.pl (by have:=x.sz;omega);rw[aj (by show (!δ&&(!t.plain&&decide (es.size > 1)))=γ;rw[pl];simp;omega)];refine af (Oc es.size _ s dj λB d p=>?_);refine af (pF ?_ (by
    rw[aq,p.length_eq,dj,x.sz,bN];omega))
   refine af (oH (aJ _ x.i?) x.d hf ?_);refine af (gA ?_);have h:∀(q u:Obj) (b:Addr) (o:Obj),s.heap.get? b=Z o->((s.heap.push q).push u).get? b=Z o:=λq u b o e=>aJ _ (aJ _ e);have i2:(B.filterMap λp=>es[p]?.map bO).Perm (es.toList.map bO):=by refine(p.filterMap _).t ?_;rw[show (bz es.size).filterMap (λp=>es[p]?.map bO)=((bz es.size).filterMap λp=>es[p]?).map bO from(oh ..).symm,mU]
   refine ar ⟨_,O,"set_iterator", _,⟨_,bg _ O,O⟩,xX.lookup,hQ _ _ s.heap.objs.size _ d ?_ ?_ ?_ (.inr (aO _)) (h _ _) ⟨⟨_,.ref s.heap.objs.size,bg _ O,O,O,.drw c (aJ _ (bg _ O)) O O O p O⟩,h _ _ _ _ x.i?,x.d,hf⟩ i2⟩
   .rw[cN];exact iO _
   .exact Nat.lt_of_lt_of_eq (dD _) (cN _ _).symm
   .rw[cN];exact aT (dD _)
end
section
variable{prog:aF}{w:ay}{A:aM}{E:ab->ae->Prop}{s:ae}{S:Addr}{o:Obj}{es:Array (Int×ab)}{ep:Nat}{t:bV}{ss:aH}
def i0.f5{h h':Heap}{led:Bool}(x:i0 w h S ss led o es ep t)(k:∀o,h.get? S=Z o->h'.get? S=Z o):i0 w h' S ss led o es ep t:={ x with i?:=k _ x.i? }
theorem collect_X(M:A.handled=J)(x:i0 w s.heap S ss (!w.params.followText "set-order") o es ep t)(N:ss.length<64)
  (hQ:∀c k2 d2 acc,s.heap.objs.size<=c.objs.size->(∀b o,s.heap.get? b=Z o->c.get? b=Z o)->acc.Perm (es.toList.map bO)->Q acc { s with heap:=c,toks:=k2,drawn:=d2 }):ag (model prog w) A (collect (.ref S)) Q E s:=by
 have hlt:=aL x.i?;have P:es.size<=63:=by have:=x.sz;omega
 let lO:Obj:={ cls:=.type "list", data:=.seq ([]:List ab).toArray };unfold collect;refine af (pC (cF F.entry_proto_collect ?_));rw[cK F.plain_proto_collect _];show ag _ A.in1 (newList []>>=λl=>again (.builtin "list.__iadd__" ⟨[l,.ref S],[]⟩)) _ _ s;refine af (gA ?_);refine ar ⟨dF oI _,cF F.entry_list_iadd ?_⟩;rw[cK oI _];show ag _ A.in1 (mI (.ref s.heap.objs.size) (.ref S) (.ref s.heap.objs.size)) _ _ _;have m:(s.heap.push lO).objs.size=s.heap.objs.size+1:=cN _ _;have r:i0 w (s.heap.push lO) S ss (!w.params.followText "set-order") o es ep t:=x.f5 λo e=>aJ _ e;have B:lE { s with heap:=s.heap.push lO } (.ref S) "set" := ⟨o,r.i?,x.ex.1⟩;unfold mI;refine af (gU B ?_);rw[ai (by
  have:mV (.ref s.heap.objs.size) (.ref S)=δ:=by simp[mV];exact λe=>ao e (dY hlt)
  rw[this];decide)]
 refine af (iter_X (s:={ s with heap:=s.heap.push lO }) r N λa I TP i2 i hI1 hI2 hTI hTP p it po=>?_);have hI:s.heap.objs.size+1<=I:=by rw[<-m];exact hI1
 have L3:a.get? s.heap.objs.size=Z lO:=p _ _ (bg _ O);have d:lE { s with heap:=a,drawn:=i } (.ref S) "set" := ⟨o,it.i?,x.ex.1⟩;have u:∀b o,s.heap.get? b=Z o->a.get? b=Z o:=λb o e=>p b o (aJ _ e);show ag _ A.in1 (holding [.ref I] (mJ (.ref S))>>=_) _ _ { s with heap:=a,drawn:=i };refine af (bS ?_);unfold mJ;refine af (gH d F.slot_set_len.lookup ?_);generalize hid:("set.__len__" : String)=f;wp_delta;rw[show splitId f=Z ("set", "__len__") from by subst hid;decide +kernel];subst hid;refine af (kY d sub_set_self ?_);dsimp only;rw[ai (by decide),aj (by decide +kernel)];refine af (gU d ?_);refine ar ?_;rw[aj (by decide +kernel)];refine af (eO ?_);refine af ?_;show ag _ A.in1 (updateSeq s.heap.objs.size (·.push .none)>>=λ_=>updateSeq s.heap.objs.size (·.pop)) _ _ _
 refine af (lh L3 O ?_);have h:=eG (dP (·.push Value.none)) L3 O
 refine lh h O ?_;have y:=eG (dP (·.pop)) h O
 have oth:∀b o,b≠s.heap.objs.size->a.get? b=Z o->((a.update s.heap.objs.size (dP (·.push Value.none))).update s.heap.objs.size (dP (·.pop))).get? b=Z o:=
  λb o hb e=>(iu _ _ (cI hb)).t ((iu _ _ (cI hb)).t e)
 have hSI:S≠I:=aT (bY hlt (oJ hI));have hSf:s.heap.objs.size∉[I,S,TP]:=by
  intro z;rcases aK.1 z with z|z
  .exact ao z (aT hI)
  .rcases aK.1 z with z|z
   .exact ao z (dY hlt)
   .rw[aW]at z;rcases hTP with e|e
    .exact ao (z.t e) (dY hlt)
    .rw[<-z,m]at e;exact ao e (Nat.not_succ_le_self _)
 have W:=Zu (prog:=prog) (w:=w) (A:=A.in1) (I:=I) (S:=S) (TP:=TP) (i2:=i2) (o:=o) (es:=es) (ep:=ep) (t:=t) (by simp[M]) hSI hTI;have U:i2.length<=63:=by rw[po.length_eq,aq,cM];exact P
 refine ar ⟨dF F.plain_extend_loop _,codeAny_extend_loopS W.toS (by rw[bN];omega) _ hSf _ i2.length 0 _ _ _ O (b7 _)
  (W.frame 0 a _ ⟨it,b7 _⟩ λb hb o e=>oth b o (λz=>hSf (by rw[<-z];exact hb)) e) y (ItemsOf.nil _) λq acc' T hm hS' hacc=>?_⟩
 show ag _ A (load s.heap.objs.size>>=_) _ _ q;refine af (wpAny_load hS' ?_);have C:acc'.toList=i2:=by
  apply kK;intro j;cases e:acc'.toList[j]? with
  |none=>rw[List.getElem?_eq_none_iff,cM,hacc.1]at e;exact(gx e).symm
  |some v=>rw[kz]at e;exact(hacc.2 j v e).symm
 obtain⟨c,g2,d2,k2,R⟩:=q;have G:g2=s.gens:=hm.gens;have H:R=s.os:=hm.os;subst G H;refine ar (hQ c k2 d2 acc'.toList (gR (aL hS')) (λb o e=>?_) (by rw[C];exact po));have hb:=aL e;exact hm.heap b o (λz=>by
  rcases aK.1 z with z|z
  .exact ao z (aT hb)
  .exact ao (aW.1 z) (aT (bY hb (oJ hI)))) (oth b o (aT hb) (u b o e))
def ψ(W:iX prog w A.in1 I fp j GG n PP SS)(hSf:S∉fp)(ks:aH)(hn:ks.length=n)(M:n<64)
  (hval:∀i v,PP i v->∃x tk,ks[i]?=Z x/\v=.str x tk):∀(k i:Nat) (s:ae) (o:Obj) (es:Array (Int×ab)) (ep:Nat) (t:bV),n - i=k->i<=n->SS i s->i0 w s.heap S (y' (ks.take i)) led o es ep t->
   (∀a o es ep t,fI (S::j) GG s a->i0 w a.heap S (y' ks) led o es ep t->R (.ok (.ret .none)) a)->
   b9 (model prog w) A (.builtin "set.update.loop" ⟨[.ref S,.ref I],[]⟩) R s:=by
 have hSw:S∉j:=λz=>hSf ((W).sub _ z);have up:∀b∈j,b∈S::j:=λb z=>aQ _ z;intro k
 induction k with
 |zero=>
  intro i s o es ep t N hi hst x hR;obtain rfl:i=n:=by omega
  refine cF eE ?_;rw[cK cE _];show ag _ A.in1 (pyNext (.ref I)>>=_) _ _ s;refine af (W.done s _ _ hst λa hm=>?_);show ag _ A.in1 (ret Value.none) _ _ a;rw[ku (by omega)]at x;exact ar (hR a o es ep t (hm.mono up) { x with i?:=hm.heap S _ hSw x.i? })
 |succ k u=>
  intro i s o es ep t N hi hst x hR;have hlt:i<n:=by omega
  refine cF eE ?_;rw[cK cE _];show ag _ A.in1 (pyNext (.ref I)>>=_) _ _ s;refine af (W.item i s _ _ hlt hst λv a hP hst' hm=>?_);obtain⟨q,tk,F,rfl⟩:=hval i v hP;show ag _ A.in1 (holding _ (setAdd S _)>>=_) _ _ a;refine af (bS ?_);unfold setAdd;refine bS ?_;refine af (oN ?_);have split:y' (ks.take (i+1))=if q∈y' (ks.take i)then y' (ks.take i)else y' (ks.take i)++[q]:=by unfold y';rw[jt,F,kQ];rfl
  have B:i0 w a.heap S (y' (ks.take i)) led o es ep t:={ x with i?:=hm.heap S _ hSw x.i? };have U:(y' (ks.take i)).length<=i:=by have H:=Oa (M5 (ks.take i)) λz P=>KA.1 P;rw[cg]at H;omega
  refine add_x (s:={ a with toks:=a.toks+1 }) B (by unfold scanBound;omega) (λinn=>?_) λnin h' Q G C T r y=>?_
  .have e:y' (ks.take (i+1))=y' (ks.take i):=by rw[split,aj inn]
   refine ar ⟨dF cE _,u (i+1) _ o es ep t (by omega) hlt (W.frame _ a a.heap _ hst' (cW _ _) λb z o e=>e) (by rw[e];exact B) λh l f d m c p=>?_⟩;exact hR h l f d m (gm W.gtrans ((hm.mono up).then_heap (cW _ _) λb o z e=>e) c) p
  have e:y' (ks.take (i+1))=y' (ks.take i)++[q]:=by rw[split,ai nin]
  refine ar ⟨dF cE _,u (i+1) _ _ _ _ _ (by omega) hlt (W.frame _ a h' _ hst' (cW _ _) λb z o e=>?_) (by rw[e];exact y) λh l f d m c p=>?_⟩
  .rw[r.2 b (λy:b=S=>hSf (by rw[<-y];exact z))];exact e
  .refine hR h l f d m (gm W.gtrans ((hm.mono up).then_heap (cW _ _) λb o z e=>?_) c) p;rw[r.2 b (λy:b=S=>z (by rw[y];exact aN))];exact e
def set_X{ks:aH}(I:b? X pins σ H s)(Y:A.handled=J)(hq:f3 X.K H a (ks.map V.str))(l:ks.length<64)
  (h:∀c k2 o es ep t,i0 X.w c s.heap.objs.size (y' ks) (!X.w.params.followText "set-order") o es ep t->(∀b o,b<s.heap.objs.size->s.heap.get? b=Z o->c.get? b=Z o)->Q (.ref s.heap.objs.size) { s with heap:=c,toks:=k2 }):
  ag (model X.prog X.w) A (call (.type "set") [.ref a]) Q E s:=by
 have T:A.in1.in1.in1.handled=J:=by simp[Y]
 obtain⟨d,r,pp,_⟩:=I.list hq;obtain⟨o,p,m,n,hd⟩:=pp.isList;have hlt:=aL p;have hne:a≠s.heap.objs.size+1:=aT (dh hlt);have q:ks.length=d.length:=by have:=r.length;rw[aq]at this;exact this
 refine BW (PS:=λc=>∃o es ep t,i0 X.w c s.heap.objs.size (y' ks) (!X.w.params.followText "set-order") o es ep t) p m jI jj (by decide) (itO:={ cls:=.type "list_iterator", data:=.fields #[.ref a,.int 0 0] })
  (λA Q E s1 e k=>fQ ⟨o,e,m,n,hd⟩ k) (λtk' R hR=>?_) λc k2 ⟨o,es,ep,t,x'⟩ kk=>h c k2 o es ep t x' kk
 have C:∀{b:Addr} {F:Obj},s.heap.get? b=Z F->((s.heap.push (yS (!X.w.params.followText "set-order"))).push { cls:=.type "list_iterator", data:=.fields #[.ref a,.int 0 0] }).get? b=Z F:=λe=>aJ _ (aJ _ e);have it:((s.heap.push (yS (!X.w.params.followText "set-order"))).push { cls:=.type "list_iterator", data:=.fields #[.ref a,.int 0 0] }).get? (s.heap.objs.size+1)=Z { cls:=.type "list_iterator", data:=.fields #[.ref a,.int 0 0] }:=by rw[show s.heap.objs.size+1=(s.heap.push (yS (!X.w.params.followText "set-order"))).objs.size from(cN _ _).symm];exact bg _ O
 have W:=(gW (prog:=X.prog) (w:=X.w) (A:=A.in1.in1.in1) T (s.heap.objs.size+1) a hne d.toArray).toS;have notin:s.heap.objs.size∉[s.heap.objs.size+1,a]:=by
  intro z;rcases aK.1 z with z|z
  .exact ao z (aT (dD _))
  .exact ao (aW.1 z) (dY hlt)
 refine ψ (S:=s.heap.objs.size) (led:=!X.w.params.followText "set-order") W notin ks (by rw[bw,q]) (by rw[bw,<- q];exact l) ?_ (d.toArray.size - 0) 0 _ (yS (!X.w.params.followText "set-order")) #[] 0 (.fresh 0 0 (!X.w.params.followText "set-order")) O (b7 _) ⟨⟨_,it,O,O⟩,⟨o,C p,m,n,hd⟩⟩ ⟨aJ _ (bg _ O),⟨O,O,O⟩,O,O,O,λz=>ao z (dW 0),λe U=>(by cases U),.nil⟩ λs2 o2 j f t2 mv G=>?_
 .intro i v e;rw[je]at e;have hi:i<ks.length:=by rw[q];exact(bX.1 e).1
  obtain⟨u,B,tk,ru⟩:=r.get (i:=i) (x:=V.str ks[i]) (by rw[bD,aY hi];rfl);rw[e]at B;cases B;exact⟨ks[i],tk,aY hi,ru⟩
 .obtain⟨c,g2,d2,k2,y⟩:=s2;have N:g2=s.gens:=mv.gens;have M:d2=s.drawn:=mv.drawn;have P:y=s.os:=mv.os;subst N M P;refine hR c k2 ⟨o2,j,f,t2,G⟩ λb o hb e=>mv.heap b o (λz=>?_) (C e);rcases aK.1 z with z|z
  .exact ao z (aT hb)
  .exact ao (aW.1 z) (aT (dh hb))
end
section
variable{prog:aF}{w:ay}{A:aM}{E:ab->ae->Prop}{s:ae}
theorem T1:∀(l:List ab),(∀v∈l,∃x a,v=.str x a)->kB l (l.map sOf)
 |[],_=>.nil
 |v::l,h=>by obtain⟨x,a,rfl⟩:=h v aN;exact .cons x a (T1 l λu b=>h u (aQ _ b))
def sort_strs(sa:kB vs ss)(c:vs.length<64)(d:s.heap.get? l=Z (seqObj "list" vs.toArray n))
  (h:∀h' e out,CB l s.heap h'->c9 ((BZ ss).map V.str) out->h'.get? l=Z (seqObj "list" out.toArray e)->P (.done (.ret .none)) { s with heap:=h' }):
  ag (model prog w) A (ck.«list.sort» ⟨[.ref l],[]⟩) P E s:=by
 refine list_sort_treeK strKind_oneLt d sa.keysOf (λf i fm e=>keyKind_strs (by rw[<-e];exact sa)) c λa a1 a2=>?_;obtain⟨r,j,m,p⟩:=sorted_out_str sa a1 a2;obtain⟨e,q⟩:=sortedHeap_at (vs:=vs) (out:=(arrOf a).map (·.2)) d
 refine h _ e ((arrOf a).map (·.2)).toList (λb o hb z=>by rw[sortedHeap_old hb (aL z)];exact z) ?_ (by rw[Array.toArray_toList];exact q)
 rw[<-M3 m p];exact V9 j
def sorted_X(q:A.handled=J)(X:i0 w s.heap S ss (!w.params.followText "set-order") o es ep t)(h:ss.length<64)
  (hQ:∀(p:Addr) (c:Heap) (k2:Nat) (d2:Drawn) (e:Nat) (out:List ab),s.heap.objs.size<=p->(∀b o,s.heap.get? b=Z o->c.get? b=Z o)->c9 ((BZ ss).map V.str) out->c.get? p=Z (seqObj "list" out.toArray e)->Q (.ref p) { s with heap:=c,toks:=k2,drawn:=d2 }):
  ag (model prog w) A (call (.builtin "sorted") [.ref S]) Q E s:=by
 refine mQ kind_sorted plain_sorted entry_sorted (args_sorted1 _) ?_;unfold ck.«sorted»;refine af (m:=checkCount "sorted" 1 1 _) (ar ?_);refine af (collect_X (by simp[q]) X h λg k2 d2 acc u i f=>?_);have l:acc.length<64:=by rw[f.length_eq,aq,cM,X.sz];exact h
 have sa:=T1 acc λv r=>by obtain⟨e,d,rfl⟩:=av.1 (f.mem_iff.1 r);obtain⟨x,tk,rfl⟩:=X.el e d;exact⟨x,tk,O⟩
 have es:BZ (acc.map sOf)=BZ ss:=by
  have B:(acc.map sOf).Perm ss:=by have:=f.map sOf;rw[aV]at this;exact this.t X.p
  exact ko (λa b _ _=>HA a b) (jb Hy Gx _) (jb Hy Gx ss) ((iy _ P0).t (B.t (iy ss P0).symm))
 refine af (lG ?_ (by rw[bN];omega));have on:(g.push (seqObj "list" acc.toArray 0)).get? g.objs.size=Z (seqObj "list" acc.toArray 0):=bg _ O;show ag _ _ _ _ _ { s with heap:=g.push (seqObj "list" acc.toArray 0),toks:=k2,drawn:=d2 };refine af (bS (gE pG ⟨_,on,O⟩ ph ?_ (pH _)));refine sort_strs (s:={ s with heap:=g.push (seqObj "list" acc.toArray 0),toks:=k2,drawn:=d2 }) sa l on λh' e out y j d=>?_;rw[es]at j;exact⟨_,O,ar ⟨_,O,hQ g.objs.size h' k2 d2 e out u (λb o z=>y b o (aT (aL (i b o z))) (aJ _ (i b o z))) j d⟩⟩
end
section
variable{X:Cx}{G:Bg}
def tSortX(K:au)(d:TE):TE:=λe H Q=>d e H λx b=>∃(a:Addr) (c:aH),x=.ref a/\f3 K b a (c.map V.str)/\c.length<64/\∀(p:Addr),b p=J->Q (.ref p) (en b p (.b3 ((BZ (y' c)).map V.str)))
def pe_sortX{p2 p3:Pos}(l:X.nr=γ)(g1:Gl X "sorted")(R:X.mg "sorted" = J)(g2:Gl X "set")(m2:X.mg "set" = J)(E:PE X e T)
  (w:aC [Expr.Call (.Name "set" p2) [e] [] p3] X.b5=[(δ,eval (.Call (.Name "set" p2) [e] [] p3) X.b5)]:=by rfl) (y:aC [e] X.b5=[(δ,eval e X.b5)]:=by rfl):PE X (.Call (.Name "sorted" p1) [.Call (.Name "set" p2) [e] [] p3] [] p4) (tSortX X.K T):=by
 intro pins s σ H Q I h;refine dQ (AW I g1 R boot_sorted ?_ (by decide) (by decide));refine callWith_builtin1 ?_ w O;rw[w];show ag _ _ (spliced [(δ,eval (.Call (.Name "set" p2) [e] [] p3) X.b5)]) _ _ s;refine dg ?_;refine dQ (AW I g2 m2 qt ?_ (by decide) (by decide));refine callWith_type1 (ff (wc E yM y p3 pins s σ H (λvs H1=>match vs with
  |[x]=>∃(a:Addr) (ks:aH),x=.ref a/\f3 X.K H1 a (ks.map V.str)/\ks.length<64/\∀(p:Addr),H1 p=J->Q (.ref p) (en H1 p (.b3 ((BZ (y' ks)).map V.str)))
  |_=>False) I h) λus r F=>?_) y O
 obtain⟨vs,H1,d,r1,f⟩:=F
 match vs,r1,f with
 |[x],r1,f=>
 obtain⟨a,ks,C,M,c,q⟩:=f;subst C;obtain⟨u,rfl,S⟩:=m? r1;cases S;have U:(y' ks).length<64:=js (Oa (M5 ks) λz N=>KA.1 N) c;refine set_X d (d.ok.hd l) M c λj k2 o es ep t x P=>?_;refine eI ?_;have i:b? X pins σ H1 { r with heap:=j,toks:=k2 }:=d.f5 λb o e=>P b o (aL e) e;refine sorted_X (s:={ r with heap:=j,toks:=k2 }) (d.ok.hd l) x U λp Y k3 B e out m k4 W hg=>?_;have A:=i.laid (t':=k3) (o:=.b3 ((BZ (y' ks)).map V.str)) k4 m ⟨by
  rw[aq,bN,show (BZ (y' ks)).length=_ from(iy _ P0).length_eq];omega,out,e,W,hg⟩
 exact⟨.ref p,_,b?.drw A B,O,q p (i.e?.fresh m)⟩
def t?(f:FE):FA:=λd=>match f d with
 |some (.b3 c,a)=>match Fu c with
  |some b=>if b.length<64 then Z ((BZ (y' b)).map D.str,a)else J
  |none=>J
 |_=>J
def pfn_sortX(h:PE X e (tSortX G.K (tF G f))):PE X e (F? G (t? f)):=PE.c6 h λI H Q u=>by
 obtain⟨F,y,j,C,z,R,e,k⟩:=u;unfold t? at e;split at e
 .rename_i m A o;cases d:Fu m with
  |none=>simp only[d]at e;cases e
  |some x=>
   simp only[d]at e;split at e
   .rename_i i;cases e;refine⟨F,y,j,_,_,R,o,λv B l s b r=>?_⟩;unfold b6 at r;obtain⟨a,E,rfl,q,t⟩:=r;have w:=Ht t d;subst w;exact⟨a,x,O,f3.of (b.sub _ _ q),i,λp c=>k p _ _ _ s (b.j0 c _) uh (b.fx c) (b.g? c) (b.apart c) (HB _)⟩
   .cases e
 .cases e
end
section
variable{X:Cx}{B:Bz}{k:Nat}{e:Expr}{f:FE}{p p2 p3 pos:Pos}
def zr_wxI [C:Cz X B k][N:Nb B "sorted"][b:Nb B "set"](i:S1 X e)(h:Gz X "sorted")(a:Gz X "set")(d:ZE X B e f)(z:aC [Expr.Call (.Name "set" p2) [e] [] p3] X.b5=[(δ,eval (.Call (.Name "set" p2) [e] [] p3) X.b5)]):ZN X B (.Call (.Name "sorted" p) [.Call (.Name "set" p2) [e] [] p3] [] pos) (t? f):=⟨pfn_sortX (by rw[<-C.K];exact pe_sortX C.c h (C.mg▸N.p) a (C.mg▸b.p) d.p z i)⟩
end
end L4
namespace L4
open PySem PySem.Spec PyProof.Rows L2 L3
section
variable{B:Bz}[Y:Yb B]{x m qual:Str}{st s0:Stmt}{l:List Stmt}{k c c0 np n:Nat}{b:FS}{p:Str}{ps xs:aH}{N:aH}
omit Y in
end
def dV(g:bh->Option (Option D)):bh->Option D:=λa=>match g a with
 |some (Z d)=>Z d
 |_=>J
mutual
def Q?:D->Bool
 |.R _=>δ
 |.U _ _=>δ
 |.c3 a=>B' a
 |.b3 a=>B' a
 |.obj _ _ a=>B' a
 |.Q _ a=>B' a
 |_=>γ
def B':bh->Bool
 |[]=>γ
 |d::a=>Q? d&&B' a
end
mutual
theorem b6.X?{G:Bg}{H q:Hp}(e:∀b o,H b=Z o->(∀u f,o≠HO.mu u (.b3 f))->q b=Z o):∀(d:D) (v:V),Q? d=γ->b6 G H d v->b6 G q d v
 |.I,v,_,h=>by unfold b6 at h ⊢;exact h
 |.O b,v,_,h=>by unfold b6 at h ⊢;exact h
 |.int i,v,_,h=>by unfold b6 at h ⊢;exact h
 |.str x,v,_,h=>by unfold b6 at h ⊢;exact h
 |.c3 j,v,n,h=>by
  unfold b6 at h ⊢;unfold Q? at n;obtain⟨a,f,rfl,l,m⟩:=h;refine⟨a,f,O,?_,b1.X? e j f n m⟩;rcases l with (h|⟨o,h⟩)|h
  .exact .inl (.inl (e _ _ h λ_ _ z=>nomatch z))
  .exact .inl (.inr ⟨o,e _ _ h λ_ _ z=>nomatch z⟩)
  .exact .inr h
 |.b3 j,v,n,h=>by unfold b6 at h ⊢;unfold Q? at n;obtain⟨a,f,rfl,l,m⟩:=h;exact⟨a,f,O,e _ _ l (λ_ _ z=>nomatch z),b1.X? e j f n m⟩
 |.R j,v,n,h=>by unfold Q? at n;cases n
 |.obj c y j,v,n,h=>by unfold b6 at h ⊢;unfold Q? at n;obtain⟨a,t,r,rfl,l,m,p⟩:=h;exact⟨a,t,r,O,e _ _ l (λ_ _ z=>nomatch z),m,b1.X? e j r n p⟩
 |.Q w j,v,n,h=>by unfold b6 at h ⊢;unfold Q? at n;obtain⟨a,o,f,rfl,l,m,p⟩:=h;exact⟨a,o,f,O,e _ _ l (λ_ _ z=>nomatch z),m,b1.X? e j f n p⟩
 |.U w j,v,n,h=>by unfold Q? at n;cases n
theorem b1.X?{G:Bg}{H f:Hp}(e:∀b o,H b=Z o->(∀u a,o≠HO.mu u (.b3 a))->f b=Z o):∀(c:bh) (a:bC),B' c=γ->b1 G H c a->b1 G f c a
 |[],a,_,h=>by unfold b1 at h ⊢;exact h
 |d::c,a,n,h=>by unfold b1 at h ⊢;unfold B' at n;rw[aX]at n;obtain⟨v,r,rfl,i,j⟩:=h;exact⟨v,r,O,b6.X? e d v n.1 i,b1.X? e c r n.2 j⟩
end
section
variable{G:Bg}
def rm:=dI (λ_ b=>decide (0<=b)) λa b=>.int (a / 2 ^ b.toNat)
def ub:=dI (λ_ _=>γ) λa b=>.int (f7 a b)
def od_shr:ke G (rI (λ_ j=>0<=j) λi j=>.int (i / 2 ^ j.toNat)) rm:=Lr (λa b h=>by simpa using h) λ_ _=>⟨O,O⟩
def od_and:ke G (S3 λi j=>.int (f7 i j)) ub:=Dy λ_ _=>⟨O,O⟩
end
instance in104:OpC .RShift rm:=⟨λ_ _=>⟨_,W0,od_shr⟩⟩
instance in105:OpC .BitAnd ub:=⟨λ_ _=>⟨_,W2,od_and⟩⟩
section
variable{prog:aF}{w:ay}{A:aM}{R:fH->ae->Prop}{I:Addr}{fp wr:List Addr}{GG:Array eU->Array eU->Prop}{PP:Nat->ab->Prop}{SS:Nat->ae->Prop}
def set_loop1(W:iX prog w A.in1 I fp wr GG 1 PP SS){S a1:Addr}{k1:List dt}{o:Obj}{ep:Nat}{led:Bool}{s:ae}(hSf:S∉fp)(u:a1∉S::wr)(x:∀v,PP 0 v->v=.ref a1)(r:A.in1.units<cLine)
  (hst:SS 0 s) (B:TK prog w s.heap k1 a1) (q:s.heap.get? S=Z o) (t:o.ExactSet) (hd:o.data=.set #[] ep (.fresh 0 0 led)) (hR:∀h,fI (S::wr) GG s h->U7 h.heap S 1->R (.ok (.ret .none)) h):
   b9 (model prog w) A (.builtin "set.update.loop" ⟨[.ref S,.ref I],[]⟩) R s:=by
 have hSw:S∉wr:=λz=>hSf ((W).sub _ z);have up:∀b∈wr,b∈S::wr:=λb z=>aQ _ z;refine cF eE ?_;rw[cK cE _];show ag _ A.in1 (pyNext (.ref I)>>=_) _ _ s;refine af (W.item 0 s _ _ (by decide) hst λv a hP i d=>?_);obtain rfl:=x v hP;show ag _ A.in1 (holding _ (setAdd S _)>>=_) _ _ a;refine af (bS ?_);unfold setAdd;refine bS ?_;have p:TK prog w a.heap k1 a1:=B.f5 λo=>d.heap a1 o λz=>u (up _ z);refine af (kJ r p ?_);refine Jr (d.heap S _ hSw q) hd p λh' j pl hb hg=>?_;refine ar ⟨dF cE _,?_⟩;have c:=W.frame (0+1) a h' _ i (cW _ (k1.length+1)) λb z o e=>by rw[hb.2 b (λy:b=S=>hSf (by rw[<-y];exact z))];exact e
 have f:fI (S::wr) GG s { a with heap:=h',toks:=a.toks+(k1.length+1) }:=(d.mono up).then_heap (cW _ _) λb o z e=>by rw[hb.2 b (λy:b=S=>z (by rw[y];exact aN))];exact e
 refine cF eE ?_;rw[cK cE _];show ag _ A.in1 (pyNext (.ref I)>>=_) _ _ _;refine af (W.done _ _ _ c λm l=>?_);show ag _ A.in1 (ret Value.none) _ _ m;refine ar (hR m (gm W.gtrans f (l.mono up)) ?_);exact⟨_,_,_,_,l.heap S _ hSw hg,t,O,(show 1<scanBound by decide),O,O⟩
end
section
variable{X:Cx}{G:Bg}{H:Hp}{pins:cB}{σ:St}{s:ae}
def SrcS1(K:au)(H:Hp)(a:Addr)(n:Nat):Prop:=X6 K H a n\/∃(p:Addr) (b:List dt),f3 K H a [.ref p]/\fu K H p (b.map kV)/\n=1
def set_V1:U9 X (SrcS1):=by
 intro pins σ H s A E Q a n I l P c h;rcases c with c|⟨p,k1,c,F,rfl⟩
 .exact abf I l P c h
 have N:A.in1.in1.in1.handled=J:=by simp[l]
 have it:∀{o:Obj} {led:Bool},o.isFreed=δ->((s.heap.push (yS led)).push o).get? (s.heap.objs.size+1)=Z o:=λ{o led} z=>by rw[show s.heap.objs.size+1=(s.heap.push (yS led)).objs.size from(cN _ _).symm];exact bg _ z
 obtain⟨i,r,T,_⟩:=I.list c;obtain⟨o,d,f,n,hd⟩:=T.isList;have hne:a≠s.heap.objs.size+1:=aT (dh (aL d));obtain⟨u,rfl,U⟩:∃u,i=[u]/\df (.ref p) u:=by cases r with|cons c1 r=>cases r;exact⟨_,O,c1⟩
 cases U;have q:=Hn I F;have far:∀{b:Addr} {ks:List dt},TK X.prog X.w s.heap ks b->b∉s.heap.objs.size::[s.heap.objs.size+1]:=λ{b ks} t z=>by
  obtain⟨o,_,_,e,_⟩:=t;have:=aL e;rcases aK.1 z with z|z
  .exact ao z (aT this)
  .exact ao (aW.1 z) (aT (dh this))
 have notin:s.heap.objs.size∉[s.heap.objs.size+1,a]:=by
  intro z;rcases aK.1 z with z|z
  .exact ao z (aT (dD _))
  .exact ao (aW.1 z) (dY (aL d))
 refine BW d f jI jj (by decide) (itO:={ cls:=.type "list_iterator", data:=.fields #[.ref a,.int 0 0] })
  (λA Q E W e k=>fQ ⟨o,e,f,n,hd⟩ k) (λtk R hR=>?_) h
 have j:∀{b:Addr} {m:Obj},s.heap.get? b=Z m->((s.heap.push (yS (!X.w.params.followText "set-order"))).push { cls:=.type "list_iterator", data:=.fields #[.ref a,.int 0 0] }).get? b=Z m:=λe=>aJ _ (aJ _ e);refine set_loop1 (gW N _ a hne #[.ref p]).toS notin (far q) (λv e=>(cu e).symm) (by show A.units+1+1+1<cLine;omega) ⟨⟨_,it O,O,O⟩,⟨o,j d,f,n,hd⟩⟩ (q.f5 λo=>j)
  (aJ _ (bg _ O)) ⟨O,O,O⟩ O λs2 mv x=>?_
 obtain⟨M,g2,d2,k2,S⟩:=s2;have B:g2=s.gens:=mv.gens;have y:d2=s.drawn:=mv.drawn;have C:S=s.os:=mv.os;subst B y C;exact hR M k2 x λb o hb e=>mv.heap b o (λz=>by
  rcases aK.1 z with z|z
  .exact ao z (aT hb)
  .exact ao (aW.1 z) (aT (dh hb))) (j e)
def oneD:bh->Option D
 |[.c3 x]=>match zu x with
  |some _=>Z (.int 1)
  |none=>J
 |ds=>X7 ds
def one_src(hK:X.K=G.K):∀{i d f b a l},oneD i=Z d->f3 X.K b a l->b1 G f i l->ux f b->∃n:Nat,SrcS1 X.K b a n/\d=.int n:=λ{i d f b a l} c o j s=>by
 unfold oneD at c;split at c
 .rename_i x;split at c
  .rename_i t r;cases c;unfold b1 b1 at j;obtain⟨w,u,rfl,c1,rfl⟩:=j;unfold b6 at c1;obtain⟨p,y,rfl,m,q⟩:=c1;rw[<-hK,xI q r]at m;exact⟨1,.inr ⟨p,t,o,fu.mono s m,O⟩,O⟩
  .cases c
 .obtain⟨n,h,e⟩:=Vc hK c o j s;exact⟨n,.inl h,e⟩
end
section
variable{X:Cx}{B:Bz}{k:Nat}{e:Expr}{f:FE}{p p2 p3 pos:Pos}
def zr_l1I [C:Cz X B k][N:Nb B "len"][b:Nb B "set"](j:S1 X e)(i:Gz X "len")(a:Gz X "set")(d:ZE X B e f)(z:aC [Expr.Call (.Name "set" p2) [e] [] p3] X.b5=[(δ,eval (.Call (.Name "set" p2) [e] [] p3) X.b5)]):ZE X B (.Call (.Name "len" p) [.Call (.Name "set" p2) [e] [] p3] [] pos) (c1 (D5 oneD) f):=⟨MS C.K (λh=>.inl (.inl h)) (one_src C.K) (Pu set_V1 C.r.units C.c i (C.mg▸N.p) a (C.mg▸b.p) d.p z j)⟩
end
end L4
namespace L4
open PySem PySem.Spec PySem.Calls PyProof.Rows PySem.W L2 L3
def Gn:typeLookup (.type "tuple") "keys" = pure J:=by rw[jD,jf];kernel_rfl
def nj:typeLookup (.type "tuple") "__getattr__" = pure J:=by rw[jD,jf];kernel_rfl
def W'(a:Addr)(o:Obj):rA:=λA R s=>A.handled=J/\s.heap.get? a=Z o/\o.cls=.type "tuple" /\ (∃items n,o.data=.seq items n)/\o.dict=J/\∀h' tk e,Heap.NewAttrErr s.heap h' e (.ref a) "keys" -> R (.error (.ref e)) { s with heap:=h',toks:=tk }
def vl(a:Addr)(o:Obj)(u:Tok):Meets (ck.«object.__getattribute__» ⟨[.ref a,.str "keys" u],[]⟩) (W' a o):=
 Meets.of_wp λprog w A R s h=>by
  obtain⟨e,g,d,j,os⟩:=s;obtain⟨c,i,b,⟨items,n,hd⟩,hdi,f⟩:=h;have hT:(⟨e,g,d,j,os⟩:ae).TypeIs (.ref a) "tuple" := ⟨_,i,b⟩;have l:=Gn;obtain⟨m,p,odi,osl⟩:=o;simp only at b hd hdi;subst b hd hdi;unfold ck.«object.__getattribute__»
  repeat (any_goals (first|assumption|wp_step))
  exact wpAny_raiseAttrError c f (attrMsg_fits (by decide +kernel) (by size_fits))
theorem L'{prog:aF}{w:ay}{A:aM}{E:ab->ae->Prop}{s:ae}{a:Addr}{o:Obj}{Q:Option ab->ae->Prop}(hA:A.handled=J)(i:s.heap.get? a=Z o)(f:o.cls=.type "tuple")(hd:∃items n,o.data=.seq items n)(hdi:o.dict=J)
  (h:∀h' tk,(∀b ob,s.heap.get? b=Z ob->h'.get? b=Z ob)->Q J { s with heap:=h',toks:=tk }):
  ag (model prog w) A (getAttr? (.ref a) "keys") Q E s:=by
 obtain⟨j,g,d,tk,os⟩:=s;obtain⟨oc,odi,od,osl⟩:=o;simp only at f hdi;subst f hdi;have hT:∀{tk},(⟨j,g,d,tk,os⟩:ae).TypeIs (.ref a) "tuple" := ⟨_,i,O⟩;have m:=sub_AttributeError;have p:=km.lookup;have q:=km.bind (.ref a);have r:=nj;unfold getAttr? getAttrBy? getAttrBy
 repeat (any_goals (first|assumption|((with_reducible show ag _ _ (call (Value.builtin "tuple.__getattribute__") _ _) _ _ _);refine jO km hT F.entry_tuple_ga (F.args_tuple_getattribute_2 _ _) (vl a _ _) ⟨hA,i,O,hd,O,λh' l e c=>?_⟩)|wp_step))
 obtain⟨u,x,t⟩:=c.there;show ag _ _ (getattributeRaised _ _ _ _ _ _ _) _ _ _;unfold getattributeRaised
 repeat (any_goals (first|assumption|wp_step))
 exact h _ _ c.keeps
def H?:entryFor table "dict.update.loop" = Z ck.«dict.update.loop»:=oY (by kernel_rfl)
def o?:plainId "dict.update.loop" = γ:=by decide +kernel
section
variable{prog:aF}{w:ay}{K:Type}[DecidableEq K]{knd:KeyKind prog w K}{A:aM}{E:ab->ae->Prop}{d:Addr}
def η{h b:Heap}{c:List K}{a:Addr}(t:gn knd h c a)(e:∀o,h.get? a=Z o->b.get? a=Z o):gn knd b c a:=by obtain⟨o,items,n,f,r⟩:=t;exact⟨o,items,n,e o f,r⟩
def dict_loop{R:fH->ae->Prop}{I:Addr}{S f:List Addr}{GG:Array eU->Array eU->Prop}{n:Nat}{PP:Nat->ab->Prop}{SS:Nat->ae->Prop}(W:iX prog w A.in1 I S f GG n PP SS)(hu:A.in1.units<cLine)(hSf:d∉S){h0:Heap}
  (c:List (List K×Addr×ab)) (hn:c.length=n) (nd:(c.map (·.1)).Nodup) (hsz:n<=aI) (far:∀q∈c,q.2.1∉d::f)
  (hval:∀i v,PP i v->∃b q,c[i]?=Z q/\v=.ref b/\b∉d::f/\eX h0 b #[.ref q.2.1,q.2.2]/\gn knd h0 q.1 q.2.1):
  ∀(k i:Nat) (N:Tok) (s:ae),n - i=k->i<=n->SS i s->(∀b o,b∉d::f->h0.get? b=Z o->s.heap.get? b=Z o)->s.heap.DictOfH (tupleKind knd) d (c.take i)->
   (∀a,fI (d::f) GG s a->a.heap.DictOfH (tupleKind knd) d c->R (.ok (.ret .none)) a)->
   b9 (model prog w) A (.builtin "dict.update.loop" ⟨[.ref d,.ref I,.int i N,.none],[]⟩) R s:=by
 have hSw:d∉f:=λz=>hSf ((W).sub _ z);have up:∀b∈f,b∈d::f:=λb z=>aQ _ z;have keep:∀{s a:ae} {i},fI f GG s a->s.heap.DictOfH (tupleKind knd) d (c.take i)->a.heap.DictOfH (tupleKind knd) d (c.take i):=λ{s a i} l ⟨o,es,ep,h1,h2,h3,h4,h5,h6⟩=>⟨o,es,ep,l.heap d _ hSw h1,h2,h3,h4,λx Y=>η (h5 x Y) λo e=>l.heap _ o (λz=>far x (jl Y) (up _ z)) e,h6⟩
 intro k
 induction k with
 |zero=>
  intro i N s hk hi hst X x hR;obtain rfl:i=n:=by omega
  refine cF H? ?_;rw[cK o? _];show ag _ A.in1 (pyNext (.ref I)>>=_) _ _ s;refine af (W.done s _ _ hst λa l=>?_);show ag _ A.in1 (mW d []>>=_) _ _ a;exact af (ar (ar (hR a (l.mono up) (by have:=keep l x;rw[ku (by omega)]at this;exact this))))
 |succ k ih=>
  intro i N s hk hi hst X x hR;have hlt:i<n:=by omega
  refine cF H? ?_;rw[cK o? _];show ag _ A.in1 (pyNext (.ref I)>>=_) _ _ s;refine af (W.item i s _ _ hlt hst λv a hP hst' l=>?_);obtain⟨b,q,C,rfl,nb,tb,tq⟩:=hval i v hP;have r:∀b o,b∉d::f->h0.get? b=Z o->a.heap.get? b=Z o:=λb o m e=>l.heap b o (λz=>m (up b z)) (X b o m e);have nq:=far q (cq C);obtain⟨o,e1,B,n1,e3⟩:=tb;have t:=r b o nb e1;have P:gn knd a.heap q.1 q.2.1:=η tq λo e=>r _ o nq e;have x':=keep l x;have pit:∀{Q:List ab->ae->Prop} {E:ab->ae->Prop},Q [.ref q.2.1,q.2.2] a->ag (model prog w) A.in1 (ng (.ref b)) Q E a:=λ{Q E} h=>by unfold ng;refine af (gU (T:="tuple") ⟨o,t,B⟩ ?_);simp only[Bool.or_true,beq_self_eq_true,if_true];refine af (jF t e3 (ar ?_));exact h
  show ag _ A.in1 (holding _ _>>=_) _ _ a;refine af (bS (af ?_));refine wpAny_tryCatch (pit ?_);show ag _ A.in1 (holding _ (dictSet d (.ref q.2.1) q.2.2)) _ _ a;have ν:atKey (c.take i) q.1=J:=by
   refine oK λj p F=>?_;have G:=bX.1 F;obtain⟨H,hj3⟩:=G;rw[cg]at H;have B:c[j]?=Z (q.1,p):=by rw[List.getElem?_take,aj (by omega)]at F;exact F
   have:=idxH_unique nd B (show c[i]?=Z (q.1,q.2) from C);omega
  have sp:c.take (i+1)=storedH (c.take i) q.1 q.2.1 q.2.2:=by rw[storedH_new ν,jt,C];rfl
  refine bS (wpAny_dictSet_heap (knd:=tupleKind knd) (k:=q.1) (xs:=c.take i) (hsz:=by rw[cg];omega) hu P x' λU y sb=>?_);have fr:∀b o,b≠d->a.heap.get? b=Z o->U.get? b=Z o:=λb o m e=>by rw[sb.2 b m];exact e
  refine ar ⟨dF o? _,ih (i+1) 0 _ (by omega) hlt (W.frame _ a U _ hst' (cW _ _) λb z o e=>fr b o (λy=>hSf (by rw[<-y];exact z)) e) (λb o m e=>fr b o (λz=>m (by rw[z];exact aN)) (r b o m e)) (by rw[sp];exact y) λM u x2=>?_⟩;refine hR M (gm W.gtrans ((l.mono up).then_heap (cW _ _) λb o z e=>fr b o (λy=>z (by rw[y];exact aN)) e) u) x2
end
section
variable{prog:aF}{w:ay}{K:Type}[DecidableEq K]{knd:KeyKind prog w K}{A:aM}{E:ab->ae->Prop}{s:ae}
theorem dict_made{c:Addr}{o:Obj}{a:List ab}{n:Nat}{Q:ab->ae->Prop}(j:s.heap.get? c=Z o)(p:o.cls=.type "tuple")(hd:o.data=.seq a.toArray n)(hdi:o.dict=J)(G:A.handled=J)(hu:A.units+8<cLine)
  (ps:List (List K×Addr×ab)) (hn:ps.length=a.length) (nd:(ps.map (·.1)).Nodup) (u:ps.length<=aI)
  (hval:∀(i:Nat) v,a[i]?=Z v->∃b q,ps[i]?=Z q/\v=.ref b/\eX s.heap b #[.ref q.2.1,q.2.2]/\gn knd s.heap q.1 q.2.1)
  (h:∀h' tk,h'.DictOfH (tupleKind knd) s.heap.objs.size ps->(∀b o,s.heap.get? b=Z o->h'.get? b=Z o)->Q (.ref s.heap.objs.size) { s with heap:=h',toks:=tk }):
  ag (model prog w) A (call (.type "dict") [.ref c]) Q E s:=by
 let m:=s.heap.push { cls:=.type "dict", data:=.dict #[] };have k1:∀b o,s.heap.get? b=Z o->m.get? b=Z o:=λb o e=>aJ _ e;refine callType_codes (Q₁:=λv t=>v=.ref s.heap.objs.size/\t={ s with heap:=m }) F.kt_called_dict (F.kt_typeCall_dict_1 _) F.entry_dict_init (kt_code_dict_new _ ⟨O,O⟩) λv t vt=>?_;obtain⟨rfl,rfl⟩:=vt;have hT:({ s with heap:=m }:ae).TypeIs (.ref s.heap.objs.size) "dict" := ⟨_,bg _ O,O⟩;have hTx:({ s with heap:=m }:ae).TypeIs (.ref c) "tuple" := ⟨_,k1 _ _ j,p⟩;refine⟨hT,F.args_dict_init_2 _ _,?_⟩;unfold ck.«dict.__init__» mX;refine af (af (nz hT (ar ?_)));show ag _ _ (jc "dict.__init__" s.heap.objs.size (.ref c) [] .none) _ _ _;unfold jc;refine af (gU hTx ?_);rw[aj (by decide)];refine af (L' (by simp[G]) (k1 _ _ j) p ⟨_,_,hd⟩ hdi λf t2 k2=>?_);simp only[Option.isNone_none,if_true];refine af (eO ?_);have hox:=k2 _ _ (k1 _ _ j);let itO:Obj:={ cls:=.type "tuple_iterator", data:=.fields #[.ref c,.int 0 0] };have sz:s.heap.objs.size<f.objs.size:=aL (k2 _ _ (bg s.heap (o:={ cls:=.type "dict", data:=.dict #[] }) O));refine af (kF ⟨o,hox,p,n,hd⟩ ?_);have y:∀b o,s.heap.get? b=Z o->(f.push itO).get? b=Z o:=λb o e=>aJ _ (k2 _ _ (k1 _ _ e));have hne:c≠f.objs.size:=aT (aL hox);have W:=(qr (prog:=prog) (w:=w) (A:=A.in1.in1) (by simp[G]) f.objs.size c hne a.toArray).toS;have lt:∀{b o},s.heap.get? b=Z o->b∉s.heap.objs.size::[f.objs.size]:=λ{b o} e z=>by
  have:=aL e;rcases aK.1 z with z|z
  .exact ao z (aT this)
  .exact ao (aW.1 z) (aT (pZ this sz))
 refine ar ⟨dF o? _,?_⟩;refine dict_loop (knd:=knd) (d:=s.heap.objs.size) (h0:=s.heap) W ?_ ?_ ps (by rw[bw];exact hn) nd (by rw[bw,<- hn];exact u) ?_ ?_ (a.toArray.size - 0) 0 0 _ O (b7 _) ?_ (λb o _ e=>y b o e) ?_ λs' mv x=>?_
 .show A.units+1+1<cLine;omega
 .intro z;rcases aK.1 z with z|z
  .exact ao z (aT sz)
  .exact ao (aW.1 z) (dY (aL j))
 .intro q U;obtain⟨i,hi⟩:=List.mem_iff_getElem?.1 U;have T:i<a.length:=by rw[<-hn];exact(bX.1 hi).1
  obtain⟨b,q',l,_,_,_,_,_,r,_⟩:=hval i _ (aY T);rw[hi]at l;cases l;exact lt r
 .intro i v e;rw[je]at e;obtain⟨b,q,l,r,⟨Y,C,I⟩,M⟩:=hval i v e;exact⟨b,q,l,r,lt C,⟨Y,C,I⟩,M⟩
 .exact⟨⟨_,bg _ O,O,O⟩,⟨o,y _ _ j,p,n,hd⟩⟩
 .rw[List.take_zero];refine⟨_,#[],0,aJ _ (k2 _ _ (bg s.heap O)),⟨O,O,O⟩,O,O,?_,iI⟩;intro x X;cases X
 .obtain⟨S,g3,H,t3,o3⟩:=s';have P:g3=s.gens:=mv.gens;have N:H=s.drawn:=mv.drawn;have R:o3=s.os:=mv.os;subst P N R;exact⟨O,h S t3 x λb o e=>mv.heap b o (lt e) (y b o e)⟩
end
section
variable{prog:aF}{w:ay}{K:Type}[DecidableEq K]{knd:HeapKind prog w K}{A:aM}{E:ab->ae->Prop}{s:ae}
def Xn{d a:Addr}{xs:List (K×Addr×ab)}{k:K}{v:ab}{Q:Unit->ae->Prop}(F:knd.room A)(C:knd.is s.heap k a)(hm:s.heap.DictOfH knd d xs)(hz:xs.length<=aI)
  (q:∀h',h'.DictOfH knd d (storedH xs k a v)->cG d s.heap h'->Q () { s with heap:=h' }):ag (model prog w) A (dictSetHashed d (.ref a) (knd.hash k) v) Q E s:=by
 obtain⟨o,es,ep,c,t,hd,i,his,hn⟩:=hm;have r:∀{u:Obj->Obj},cG d s.heap (s.heap.update d u):=dA ..;have kp:∀{u:Obj->Obj} {x:K} {b:Addr},knd.is s.heap x b->knd.is (s.heap.update d u) x b:=λh=>knd.keeps h c hd r;unfold dictSetHashed;refine bS (af (wpAny_dictFind_heap F C c hd i his hn (λno=>?_) λj p B=>?_))
 .have l:storedH xs k a v=xs++[(k,a,v)]:=storedH_new (oK no) a v;have sz:es.size<=aI:=by have:=lr i;omega
  rw[l]at q;refine af (eO (wpAny_updateDictKeys (hz:=by omega) c hd (q _ ⟨_,_,ep+1,eG _ c (nV (nJ hd _)),t.mapDictKeys _,nJ hd _,by simp[i,entryOfKey],λx f=>?_,?_⟩ r)))
  .rcases bb.1 f with z|z
   .exact kp (his x z)
   .cases aW.1 z;exact kp C
  .rw[bK];exact bZ.2 ⟨hn,dm.2 ⟨b0,iI⟩,λx f y m e=>by
    cases aW.1 m;rw[show x=k from e]at f;exact not_mem_keys_of_get no f⟩
 .have l:storedH xs k a v=xs.map (dN k v):=storedH_old (atKey_of_get hn B) a v;rw[l]at q;refine af (eO (af (wpAny_updateDict c hd (wpAny_point (q _ ⟨_,_,ep,eG _ c (nV (oZ hd _)),t.mapDict _,oZ hd _,?_,λx f=>?_,?_⟩ r)))))
  .have z:=modify_map_putAt (entryOfKey knd) (λe:DictEntry=>{ e with val:=v }) k v (λ_ _=>O) hn B;rw[<-i]at z;cases es;simpa using z
  .obtain⟨y,m,rfl⟩:=av.1 f;unfold dN;split<;>exact kp (his y m)
  .rw[pJ];exact hn
def merge_h{nm:String}{d o:Addr}{xs a:List (K×Addr×ab)}{Q:Unit->ae->Prop}(hu:knd.room A)(hne:d≠o)(ho:(o==cj)=δ)(hd:s.heap.DictOfH knd d xs)(P:s.heap.DictOfH knd o a)(h0:xs≠[])(R:xs.length+a.length<=aI)
  (q:∀h',h'.DictOfH knd d (a.foldl (λacc y=>storedH acc y.1 y.2.1 y.2.2) xs)->cG d s.heap h'->Q () { s with heap:=h' }):ag (model prog w) A (nh nm d o) Q E s:=by
 obtain⟨od,U,pd,d1,d2,S,T,d5,d6⟩:=id hd;obtain⟨F,c,po,m,o2,e,C,o5,o6⟩:=id P;have ly:a.length=c.size:=(lr C).symm;unfold nh sE;rw[ai (by simpa using hne),ai (by rw[ho];exact bx)];refine af (ar (af (jw m e ?_)));let f:List (K×Addr×ab)->K×Addr×ab->List (K×Addr×ab):=λacc y=>storedH acc y.1 y.2.1 y.2.2;have fl:∀(l acc:List (K×Addr×ab)),(l.foldl f acc).length<=acc.length+l.length:=λl=>by
  induction l with
  |nil=>intro acc;exact aO _
  |cons y l ih=>
   intro acc;have u:(f acc y).length<=acc.length+1:=by
    show (storedH acc y.1 y.2.1 y.2.2).length<=_;unfold storedH;split
    .rw[aq];omega
    .rw[aR];exact aO _
   have j:=ih (f acc y);rw[aS];show (l.foldl f (f acc y)).length<=_;omega
 have X:U.isEmpty=δ:=by rw[ju];intro z;have u:=lr T;rw[Array.isEmpty_iff.1 z]at u;exact h0 (i9.1 u.symm)
 dsimp only;split
 all_goals try (refine af (jw d1 S ?_);rw[X,ai bx])
 all_goals (
  refine af (pq m e (af (jw m e (af ?_))));rw[rD];simp only[sF,qe,Nat.add_sub_cancel,Nat.div_one];refine jy _ (λr _ G=>∃h' i,G={ s with heap:=h' }/\r=List.range' i (c.size - i)/\i<=c.size/\h'.DictOfH knd d ((a.take i).foldl f xs)/\h'.DictOfH knd o a/\h'.get? o=Z F/\cG d s.heap h') _ ?_ ?_ _ _ ⟨s.heap,0,O,by simp,b7 _,by simpa using hd,P,m,tP _ _⟩
  .rintro x r b G ⟨h',i,rfl,hr,hi,h,M,N,p⟩;have hlt:i<c.size:=by apply mR;intro z;rw[Nat.sub_eq_zero_of_le (by omega)]at hr;cases hr
   rw[show c.size - i=(c.size - (i+1))+1 by omega,o7]at hr;cases hr;have B:x<a.length:=by omega
   have W:c[x]?=Z (entryOfKey knd a[x]):=by rw[entry_at C,aY B];rfl
   refine af (jw N e ?_);rw[W];have Y:knd.is h' a[x].1 a[x].2.1:=by obtain⟨_,_,_,_,_,_,_,z,_⟩:=M;exact z _ (fz B)
   refine af (bS (Xn (knd:=knd) (s:={ s with heap:=h' }) hu Y h (by have:=fl (a.take x) xs;rw[cg]at this;omega) λj y1 H=>?_));have I:j.get? o=Z F:=(H.2 o (cI hne)).t N;have z2:j.DictOfH knd o a:=by obtain⟨_,_,_,t1,_,t2,_⟩:=h;obtain⟨_,_,_,_,_,_,_,t,_⟩:=M;exact⟨F,c,po,I,o2,e,C,λz R=>knd.keeps (t z R) t1 t2 H,o6⟩
   refine af (pq I e ?_);rw[ai (by simp)];exact ar ⟨j,x+1,O,O,hlt,by rw[jt,aY B,kQ];exact y1,z2,I,p.t H⟩
  .rintro b G ⟨h',i,rfl,hr,hi,h,_,_,p⟩;have:i=c.size:=by apply mR;intro z;rw[show c.size - i=(c.size - (i+1))+1 by omega,o7]at hr;cases hr
   rw[this,<- ly,List.take_length]at h;exact ar (q h' h p))
theorem meets_upd{prog:aF}{w:ay}{K:Type}[DecidableEq K](knd:HeapKind prog w K)(d o:Addr):MeetsIn prog w (ck.«dict.update» ⟨[.ref d,.ref o],[]⟩) (λA R s=>knd.room A.in1/\d≠o/\(o==cj)=δ/\∃xs a,s.heap.DictOfH knd d xs/\s.heap.DictOfH knd o a/\xs≠[]/\xs.length+a.length<=aI/\
  ∀h',h'.DictOfH knd d (a.foldl (λacc y=>storedH acc y.1 y.2.1 y.2.2) xs)->cG d s.heap h'->R (.ok (.ret .none)) { s with heap:=h' }):=
 .of_wp λA R s ⟨l,hne,j,xs,a,hd,f,h0,m,q⟩=>by
  have p:s.TypeIs (.ref d) "dict" := by obtain⟨b,_,_,e,x,_⟩:=hd;exact⟨b,e,x.1⟩
  have c:s.TypeIs (.ref o) "dict" := by obtain⟨b,_,_,e,x,_⟩:=f;exact⟨b,e,x.1⟩
  unfold ck.«dict.update» mX;refine af (af (nz p (ar ?_)));show ag _ _ (jc "dict.update" d (.ref o) [] .none) _ _ _;unfold jc tG rS;refine af (gU c ?_);rw[ai (by decide)];refine af (af (af (kY c isSubtype_dict_dict ?_)));simp only[pS,fj,if_false];refine af (gH c F.slot_dict_iter.lookup (ar ?_));simp only[beq_self_eq_true,if_true];refine af (ar (merge_h l hne j hd f h0 m λh' h i=>?_));show ag _ _ (mW d []>>=_) _ _ _;exact af (ar (ar ⟨_,O,q h' h i⟩))
end
def kN(K:au):Bool:=K.all λp=>p.2.dict.isNone
def μ(X:Cx):List dt->Int:=tupleKeyHash (ur X.prog X.w)
section
variable{X:Cx}{pins:cB}{σ:St}{H:Hp}{s:ae}
def X0(I:b? X pins σ H s)(i:kN X.K=γ){a:Addr}{d:bC}(h:fu X.K H a d):∀o,s.heap.get? a=Z o->o.dict=J:=by
 rcases h with (h|⟨j,h⟩)|⟨o,p,n,c,_⟩
 .obtain⟨_,_,_,_,f⟩:=(show ee X.prog X.w H s.heap a (.c3 d) from I.e? a _ h);exact f
 .obtain⟨_,_,_,_,_,f⟩:=(show ee X.prog X.w H s.heap a (.mu j (.c3 d)) from I.e? a _ h);exact f
 .intro r e;rw[I.n? a o c]at e;cases e;have l:(a,o)∈X.K:=by
   clear i;generalize X.K=K at c
   induction K with
   |nil=>cases c
   |cons q K m=>
    obtain⟨b,j⟩:=q;rw[eK]at c;split at c
    .rename_i e;cases c;rw[iR e];exact aN
    .exact aQ _ (m c)
  have:=ba.1 i _ l;exact Option.isNone_iff_eq_none.1 this
abbrev Pr:=Addr×List dt×Addr×V
def PrOk(K:au)(H:Hp)(z:Pr):Prop:=fu K H z.1 [.ref z.2.2.1,z.2.2.2]/\fu K H z.2.2.1 (z.2.1.map kV)
theorem prs_of(I:b? X pins σ H s):∀{prs:List Pr} {a:List ab},(∀z∈prs,PrOk X.K H z)->c9 (prs.map λz=>V.ref z.1) a->∃c:List (List dt×Addr×ab),c.length=a.length/\(c.map λq=>(q.1,q.2.1))=prs.map (λz=>(z.2.1,z.2.2.1))/\c9 (prs.map λz=>z.2.2.2) (c.map λq=>q.2.2)/\
  ∀(i:Nat) v,a[i]?=Z v->∃b q,c[i]?=Z q/\v=.ref b/\eX s.heap b #[.ref q.2.1,q.2.2]/\gn (ur X.prog X.w) s.heap q.1 q.2.1
 |[],a,_,h=>by cases h;exact⟨[],O,O,.nil,λi v e=>by cases e⟩
 |z::prs,a,ok,h=>by
  rw[aA]at h;obtain⟨u,r,rfl,E,C⟩:∃u r,a=u::r/\df (.ref z.1) u/\c9 (prs.map λz=>V.ref z.1) r:=by cases h;exact⟨_,_,O,‹_›,‹_›⟩
  cases E;obtain⟨j,l⟩:=ok z aN;obtain⟨d,B,p2,_⟩:=I.tuple j;obtain⟨G,F,rfl,x,A⟩:=vals2 B;cases x;obtain⟨c,m,o,p,t⟩:=prs_of I (λy f=>ok y (aQ _ f)) C;refine⟨(z.2.1,z.2.2.1,F)::c,by rw[aS,aS,m],by rw[aA,aA,o],by rw[aA,aA];exact .cons A p,λi v e=>?_⟩;cases i with
  |zero=>cases e;exact⟨z.1,_,O,O,p2,Hn I l⟩
  |succ i=>exact t i v e
def rDP(X:Cx):bC->Hp->VK->Prop:=λc H Q=>∃(a:Addr) (prs:List Pr),c=[.ref a]/\fu X.K H a (prs.map λz=>V.ref z.1)/\(∀z∈prs,PrOk X.K H z)/\(prs.map λz=>z.2.1).Nodup/\prs.length<=1000/\
 ∀p o b,H p=J->(p==cj)=δ->DtE (μ X) o b->(b.map λq=>(q.1,q.2.1))=prs.map (λz=>(z.2.1,z.2.2.1))->c9 (prs.map λz=>z.2.2.2) (b.map λq=>q.2.2)->Q (.ref p) (en H p (.ext (tz p o)))
def ext_ok{P:aF}{w:ay}{H:Hp}{h:Heap}{a:Addr}{o:Obj}(e:h.get? a=Z o):ee P w H h a (.ext (tz a o)):=⟨e,⟨o,e⟩,λ_ _ f k=>k _ f⟩
def X'(T:kN X.K=γ)(hu:X.A.units+64<cLine)(N:X.nr=γ):vZ X (.type "dict") (rDP X):=by
 intro pins s σ H xs us Q I r h;obtain⟨a,prs,rfl,j,ok,nd,P,q⟩:=h;obtain⟨u,rfl,ru⟩:=m? r;cases ru;obtain⟨S,rv,⟨o,i,C,n,E⟩,hz⟩:=I.tuple j;obtain⟨c,W,f,Y,l4⟩:=prs_of I ok rv;have l:c.length=prs.length:=by have:=bp dM f;rw[aq,aq]at this;exact this
 have F:c.map (·.1)=prs.map λz=>z.2.1:=by have:=bp (eA eB) f;rw[aV,aV]at this;exact this
 refine dict_made (knd:=ur X.prog X.w) i C E (X0 I T j o i) (I.ok.hd N) (by omega) c W (by rw[F];exact nd) (by rw[l,bN];omega) l4 λh' tk d U=>?_;obtain⟨m,M,G,p,t,x,y,d5,B⟩:=d;have R:H s.heap.objs.size=J:=I.e?.fresh (aO _);refine⟨.ref s.heap.objs.size,_,I.laid (a:=s.heap.objs.size) (o:=.ext (tz s.heap.objs.size m)) (t':=tk) (λb w e=>U b w e) (aO _) (ext_ok p),O,q _ m c R (beq_eq_false_iff_ne.2 (dY I.big)) ⟨t,⟨M,G,x,y⟩,B,by rw[l];exact P⟩ f Y⟩
def I1{o:Obj}{a:Addr}{c:List (List dt×Addr×ab)}(I:b? X pins σ H s)(i:H a=Z (.ext (tz a o)))(b:DtE (μ X) o c)(j:∀q∈c,fu X.K H q.2.1 (q.1.map kV)):s.heap.DictOfH (tupleKind (ur X.prog X.w)) a c:=by obtain⟨h,f,d,e⟩:=b.da;exact⟨o,h,f,(show ee X.prog X.w H s.heap a (.ext (tz a o)) from I.e? a _ i).1,b.ex,d,e,λq l=>Hn I (j q l),b.nd⟩
def u?(a qs2:List (List dt×Addr×ab)):List (List dt×Addr×ab):=qs2.foldl (λacc y=>storedH acc y.1 y.2.1 y.2.2) a
def rDU(X:Cx):V->bC->Hp->VK->Prop:=λx e H Q=>∃(p p2:Addr) (o d:Obj) (b a:List (List dt×Addr×ab)),x=.ref p/\e=[.ref p2]/\p≠p2/\H p=Z (.ext (tz p o))/\H p2=Z (.ext (tz p2 d))/\(p2==cj)=δ/\DtE (μ X) o b/\DtE (μ X) d a/\
 (∀q∈b,fu X.K H q.2.1 (q.1.map kV))/\(∀q∈a,fu X.K H q.2.1 (q.1.map kV))/\b≠[]/\b.length+a.length<=1000/\∀c,DtE (μ X) c (u? b a)->Q .I (en H p (.ext (tz p c)))
def fold_len(b a:List (List dt×Addr×ab)):(u? b a).length<=b.length+a.length:=by
 unfold u?
 induction a generalizing b with
 |nil=>exact aO _
 |cons y l c=>
  have d:(storedH b y.1 y.2.1 y.2.2).length<=b.length+1:=by
   unfold storedH;split
   .rw[aq];omega
   .rw[aR];exact aO _
  have e:=c (storedH b y.1 y.2.1 y.2.2);rw[iG,aS];omega
theorem mt_dupd(hu:X.A.units+64<cLine):MtM X "dict.update" (rDU X):=by
 intro pins s σ H x vs v us Q I U T h;obtain⟨p,p2,o,o2,e,a,rfl,rfl,hne,b,G,M,c,l,P,R,E,N,q⟩:=h;cases U;obtain⟨u,rfl,S⟩:=T.one;cases S;have m:=I1 I b c P;have r:=I1 I G l R;have C:=(show ee X.prog X.w H s.heap p (.ext (tz p o)) from I.e? p _ b).1;refine fD oj ⟨o,C,c.ex.1⟩ F.entry_dict_update (F.args_dict_update_2 _ _) (meets_upd (tupleKind (ur X.prog X.w)) p p2) ⟨?_,hne,M,e,a,m,r,E,by rw[bN];omega,λY z B=>?_⟩
 .show X.A.units+1<cLine;omega
 .obtain⟨d,y,t,c1,c2,f,i,W,j⟩:=z;refine⟨.I,_,Gr (ob:=.ext (tz p d)) I (by rw[b];exact trivial) B ⟨_,c1⟩ (ext_ok c1),O,q d ⟨c2,⟨y,t,f,i⟩,j,bM (fold_len e a) N⟩⟩
end
def ij{a:Type}:List (List dt)->List a->List dt->Option a
 |j::b,x::c,k=>if j=k then Z x else ij b c k
 |_,_,_=>J
theorem J?(k:List dt):∀{a:List (List dt×Addr×ab)} {b:bC},c9 b (a.map λq=>q.2.2)->match ij (a.map (·.1)) b k with|some v=>∃c u,atKey a k=Z (c,u)/\df v u|none=>atKey a k=J
 |[],b,h=>by cases h;rfl
 |q::a,b,h=>by
  obtain⟨v,r,rfl,i,f⟩:∃v r,b=v::r/\df v q.2.2/\c9 r (a.map λq=>q.2.2):=by cases h;exact⟨_,_,O,‹_›,‹_›⟩
  have d:=J? k f;rw[aA];unfold ij;by_cases e:q.1=k
  .rw[aj e];exact⟨q.2.1,q.2.2,by unfold atKey;rw[dE,bf e];rfl,i⟩
  .rw[ai e];have:atKey (q::a) k=atKey a k:=by unfold atKey;rw[dE,bj e]
   rw[this];exact d
section
variable{G:Bg}{H:Hp}
theorem A?(k:List dt):∀{ks:List (List dt)} {b:bh} {a:bC},b1 G H b a->match ij ks b k with|some d=>∃v,ij ks a k=Z v/\b6 G H d v|none=>ij ks a k=J
 |[],b,a,_=>by unfold ij;rfl
 |j::ks,[],a,h=>by unfold b1 at h;subst h;unfold ij;rfl
 |j::ks,d::b,a,h=>by
  unfold b1 at h;obtain⟨v,r,rfl,c,f⟩:=h;unfold ij;by_cases e:j=k
  .rw[aj e,aj e];exact⟨v,O,c⟩
  .rw[ai e,ai e];exact A? k f
def pairT:D->Option (List dt×D)
 |.c3 [.c3 a,v]=>(zu a).map λk=>(k,v)
 |_=>J
def m1:bh->Option (List (List dt)×bh)
 |[]=>Z ([],[])
 |d::a=>match pairT d,m1 a with
  |some (k,v),Z (b,c)=>Z (k::b,v::c)
  |_,_=>J
def reps2{d b:D}{f:bC}(h:b1 G H [d,b] f):∃v a,f=[v,a]/\b6 G H d v/\b6 G H b a:=by unfold b1 at h;obtain⟨v,r,rfl,i,c⟩:=h;unfold b1 at c;obtain⟨a,l,rfl,j,e⟩:=c;unfold b1 at e;subst e;exact⟨v,a,O,i,j⟩
theorem o4:∀{m:bh} {l:bC} {i:List (List dt)} {j:bh},b1 G H m l->m1 m=Z (i,j)->∃prs:List Pr,l=prs.map (λz=>V.ref z.1)/\(∀z∈prs,PrOk G.K H z)/\prs.map (λz=>z.2.1)=i/\b1 G H j (prs.map λz=>z.2.2.2)
 |[],l,i,j,h,e=>by unfold b1 at h;subst h;cases e;exact⟨[],O,λz a=>(by cases a),O,by unfold b1;rfl⟩
 |d::m,l,i,j,h,e=>by
  unfold b1 at h;obtain⟨v,r,rfl,o,y⟩:=h;unfold m1 at e;split at e
  .rename_i k w A N f t;cases e;obtain⟨prs,B,p2,p3,C⟩:=o4 y t;unfold pairT at f;split at f
   .rename_i Q R;obtain⟨P,x,u⟩:=m7.1 f;cases u;unfold b6 at o;obtain⟨b,T,rfl,E,F⟩:=o;obtain⟨S,q,rfl,q3,I⟩:=reps2 F;unfold b6 at q3;obtain⟨c,U,rfl,p,M⟩:=q3;rw[xI M x]at p;refine⟨(b,k,c,q)::prs,by rw[B];rfl,λz a=>?_,by rw[aA,p3],by rw[aA];unfold b1;exact⟨q,_,O,I,C⟩⟩;rcases aK.1 a with rfl|a
    .exact⟨E,p⟩
    .exact p2 z a
   .cases f
  .cases e
def zE(f:FE):FE:=λe=>match f e with
 |some (.c3 b,a)=>match m1 b with
  |some (c,d)=>if c.Nodup/\b.length<=1000 then Z (.U c d,a)else J
  |none=>J
 |_=>J
end
section
variable{X:Cx}{G:Bg}
def pf_dictP{e:Expr}{f:FE}(hK:X.K=G.K)(W:μ X=G.hs)(h:PE X e (ι (rDP X) (v? G (ax f uI)))):PE X e (tF G (zE f)):=PE.c6 h λσ H Q S=>by
 obtain⟨F,ρ,B,d,ρ',R,e,k⟩:=S;unfold zE at e;split at e
 .rename_i r ρ1 I;split at e
  .rename_i ks vs M;split at e
   .rename_i P;cases e;refine⟨F,ρ,B,[.c3 r],_,R,by unfold ax;rw[I];rfl,λws C i s j rs=>?_⟩;unfold b1 at rs;obtain⟨v,r0,rfl,y,x⟩:=rs;unfold b1 at x;subst x;unfold b6 at y;obtain⟨a,xs,rfl,q1,w⟩:=y;have ll:r.length=xs.length:=ug w;obtain⟨prs,rfl,p2,p3,p4⟩:=o4 w M;rw[aq]at ll;have up:∀{b A},fu G.K C b A->fu X.K i b A:=λh=>by rw[hK];exact fu.mono j.sub h
    refine⟨a,prs,O,up q1,λz c=>⟨up (p2 z c).1,up (p2 z c).2⟩,by rw[p3];exact P.1,by omega,λp o qs t T E u Y=>?_⟩;have m:=uy (j.fx t) (.ext (tz p o));refine k _ _ _ (s.t m) (j.I' t _) ?_;unfold b6;refine⟨p,_,O,⟨o,qs,uh,T,W▸E,?_,λq U=>?_,Y⟩,b1.mono m _ _ p4⟩
    .have:=bp (eA eB) u;rw[aV,aV]at this;exact this.t p3
    .have l:(q.1,q.2.1)∈prs.map λz=>(z.2.1,z.2.2.1):=by rw[<-u];exact bP U
     obtain⟨z,c,N⟩:=av.1 l;injection N with z1 z2;rw[<-z1,<- z2];exact fu.mono m (p2 z c).2
   .cases e
  .cases e
 .cases e
def EtD(X:Cx)(H:Hp)(a:Addr)(b:List (List dt×Addr×ab)):Prop:=∃o,H a=Z (.ext (tz a o))/\(a==cj)=δ/\DtE (μ X) o b/\∀q∈b,fu X.K H q.2.1 (q.1.map kV)
def etD_of{c H:Hp}{a:Addr}{ks:List (List dt)}{d:bC}(hK:X.K=G.K)(t:μ X=G.hs)(e:ux c H)(h:DtO G c a ks d):∃b,EtD X H a b/\b.map (·.1)=ks/\c9 d (b.map λq=>q.2.2):=by obtain⟨o,b,f,i,j,l,m,p⟩:=h;exact⟨b,⟨o,e _ _ f,i,t▸j,λq r=>by rw[hK];exact fu.mono e (m q r)⟩,l,p⟩
def rIxE(X:Cx):R2:=λx y H Q=>∃a b c k d v,x=.ref a/\y=.ref b/\EtD X H a c/\fu X.K H b (k.map kV)/\c9 d (c.map λq=>q.2.2)/\ij (c.map (·.1)) d k=Z v/\Q v H
def pe_ixE{o i:Expr}{z ty:TE}{pos:Pos}(hu:X.A.units+64<cLine)(S:PE X o z)(R:PE X i ty)(T:Qx i):PE X (.Subscript o i pos) (tOp (rIxE X) z ty):=by intro d s B H Q I h;refine NF nS.lookup T (ff (S d s B H _ I h) λu s1 ⟨x,C,E,Y,U⟩=>ff (R d s1 B C _ E U) λiv s2 zz=>?_);obtain⟨y,j,f,ry,W⟩:=zz;obtain⟨a,b,qs,k,xs,w,rfl,rfl,⟨t,p,hm,m,F⟩,M,N,P,q⟩:=W;cases Y;cases ry;have l:=J? k N;rw[P]at l;obtain⟨c,u,e,r⟩:=l;refine⟨⟨t,(show ee X.prog X.w j s2.heap a (.ext (tz a t)) from f.e? a _ p).1,m.ex.1⟩,n6 (knd:=tupleKind (ur X.prog X.w)) ?_ (Hn f M) (I1 f p m F) e ⟨w,j,f.x? _,r,q⟩⟩;show X.A.units+1<cLine;omega
def tGet2E(X:Cx)(l ty m:TE):TE:=λe H Q=>l e H λx f=>∃a h,x=.ref a/\f a=Z (.ext (tz a h))/\h.ExactDict/\ty e f λy j=>m e j λz c=>∃b d k i,y=.ref b/\EtD X c a d/\fu X.K c b (k.map kV)/\c9 i (d.map λq=>q.2.2)/\Q ((ij (d.map (·.1)) i k).getD z) c
def pe_get2E{o e f:Expr}{U ty W:TE}{apos cpos:Pos}(hu:X.A.units+64<cLine)(ho:PE X o U)(he:PE X e ty)(hf:PE X f W)(m:M2 X o "get" apos e f cpos):PE X (.Call (.Attribute o "get" apos) [e,f] [] cpos) (tGet2E X U ty W):=by
 intro d s p H Q I h;refine gy m.b4 m.few m.line gz dU jB (ff (ho d s p H _ I h) λu T zz=>?_);obtain⟨x,t,C,rx,a,j,ex,h1,P,q1⟩:=zz;subst ex;obtain rfl:u=Value.ref a:=rx;have M:=(show ee X.prog X.w t T.heap a (.ext (tz a j)) from C.e? a _ h1).1;refine⟨⟨j,M,P.1⟩,λb e=>by cases e;exact⟨j,M,P.2.1⟩,?_⟩;rw[m.Bx];refine fN O (fO (dg (ff (he d T p t _ C q1) λiv s2 ⟨y,Y,I2,ry,q2⟩=>dg (ff (hf d s2 p Y _ I2 q2) λfv s3 ⟨z,B,i,rz,q3⟩=>eI ?_))));obtain⟨b,S,k,xs,rfl,⟨R,N,hm,E,h4⟩,h5,h6,q⟩:=q3;cases ry;have l:=J? k h6;have g3:=(show ee X.prog X.w B s3.heap a (.ext (tz a R)) from i.e? a _ N).1;refine fD dU ⟨R,g3,E.ex.1⟩ gB (kP _ _ _) (mY (tupleKind (ur X.prog X.w)) a b hm fv) ⟨?_,k,S,Hn i h5,I1 i N E h4,?_⟩
 .show X.A.units+1<cLine;omega
 .refine⟨_,B,i.x? _,?_,q⟩;cases F:ij (S.map (·.1)) xs k with
  |none=>rw[F]at l;rw[l];exact rz
  |some w=>rw[F]at l;obtain⟨c,u,e,r⟩:=l;rw[e];exact r
def Rm:D->D->Option D:=λx y=>match x,y with
 |.U c a,.c3 b=>match zu b with
  |some k=>ij c a k
  |none=>J
 |_,_=>J
def od_getT(hK:X.K=G.K)(q:μ X=G.hs):ke G (rIxE X) Rm:=λx y z I H v u Q e s f h k=>by
 unfold Rm at e;split at e
 .rename_i c M N;split at e
  .rename_i j p;unfold b6 at f h;obtain⟨a,F,rfl,d,r⟩:=f;obtain⟨b,P,rfl,t,E⟩:=h;rw[xI E p]at t;obtain⟨C,i,m,o⟩:=etD_of hK q s d;have l:=A? j (ks:=c) r;rw[e]at l;obtain⟨w,A,B⟩:=l;exact⟨a,b,C,j,F,w,O,O,i,by rw[hK];exact fu.mono s t,o,by rw[m];exact A,k w λ_ e=>b6.mono e _ _ B⟩
  .cases e
 .cases e
def pf_getT{a b:Expr}{f c:FE}{pos:Pos}(j:X.A.units+64<cLine)(hK:X.K=G.K)(i:μ X=G.hs)(d:PE X a (tF G f))(e:PE X b (tF G c))(h:Qx b):PE X (.Subscript a b pos) (tF G (c2 Rm f c)):=PE.c6 (pe_ixE j d e h) (Li (od_getT hK i))
def tj(f e h:FE):FE:=λl=>match f l with
 |some (.U j d,a)=>match e a with
  |some (.c3 i,b)=>match zu i with
   |some k=>match h b with
    |some (z,c)=>Z ((ij j d k).getD z,c)
    |none=>J
   |none=>J
  |_=>J
 |_=>J
def pf_get2T{a b c:Expr}{f M N:FE}{apos cpos:Pos}(hu:X.A.units+64<cLine)(hK:X.K=G.K)(hs:μ X=G.hs)(ha:PE X a (tF G f))(hb:PE X b (tF G M))(hc:PE X c (tF G N))(m:M2 X a "get" apos b c cpos):PE X (.Call (.Attribute a "get" apos) [b,c] [] cpos) (tF G (tj f M N)):=PE.c6 (pe_get2E hu ha hb hc m) λσ H Q hh=>by
 obtain⟨F,ρ,W,d,B,R,e,k⟩:=hh;unfold tj at e;split at e
 .rename_i t ds h e1;split at e
  .rename_i kd i e2;split at e
   .rename_i j ej;split at e
    .rename_i z ρ3 e3;cases e;refine⟨F,ρ,W,_,h,R,e1,λv Y H1' s1 C S=>?_⟩;unfold b6 at S;obtain⟨p,xs,rfl,E,rr⟩:=S;obtain⟨o,P,t1,t2,t3,t4⟩:=id E;refine⟨p,o,O,C.sub _ _ t1,t3.ex,F,h,Y,_,i,C,e2,λu H2 H2' y R2 T=>⟨F,i,H2,z,B,R2,e3,λw H3 H3' q r r3=>?_⟩⟩;unfold b6 at T;obtain⟨b,ys,rfl,U,rb⟩:=T;rw[xI rb ej]at U;obtain⟨P,d1,d2,d3⟩:=etD_of hK hs r.sub ((E.mono y).mono q);refine⟨b,P,j,xs,O,d1,by rw[hK];exact fu.mono r.sub (fu.mono q U),d3,?_⟩;have l:=A? j (ks:=t) (b1.mono q _ _ (b1.mono y _ _ rr));rw[d2];refine k _ _ _ (s1.t (y.t q)) r ?_;cases I:ij t ds j with
     |none=>rw[I]at l;rw[l];exact r3
     |some x=>rw[I]at l;obtain⟨v,l1,l2⟩:=l;rw[l1];exact l2
    .cases e
   .cases e
  .cases e
 .cases e
end
def z?{b:Type}:List (List dt)->List b->List dt->b->List b
 |j::c,x::a,k,w=>(if j=k then w else x)::z? c a k w
 |_,a,_,_=>a
def vx{b:Type}(c:List (List dt)):List b->List (List dt)->List b->List b
 |xs,k::a,w::ws=>vx c (z? c xs k w) a ws
 |xs,_,_=>xs
theorem Rk{k:List dt}{w:V}{u:ab}(r:df w u):∀{a:List (List dt×Addr×ab)} {b:bC},c9 b (a.map λq=>q.2.2)->c9 (z? (a.map (·.1)) b k w) ((a.map (dN k u)).map λq=>q.2.2)
 |[],b,h=>by cases h;exact .nil
 |q::a,b,h=>by
  obtain⟨v,l,rfl,d,c⟩:∃v l,b=v::l/\df v q.2.2/\c9 l (a.map λq=>q.2.2):=by cases h;exact⟨_,_,O,‹_›,‹_›⟩
  rw[aA,aA,aA];unfold z?;refine .cons ?_ (Rk r c);unfold dN;by_cases e:q.1=k
  .rw[aj e,aj e];exact r
  .rw[ai e,ai e];exact d
theorem Q'{G:Bg}{H:Hp}{k:List dt}{d:D}{w:V}(r:b6 G H d w):∀{f:List (List dt)} {b:bh} {a:bC},b1 G H b a->b1 G H (z? f b k d) (z? f a k w)
 |[],b,a,h=>by unfold z?;exact h
 |j::f,[],a,h=>by have:=h;unfold b1 at this;subst this;unfold z?;exact h
 |j::f,e::b,a,h=>by
  unfold b1 at h;obtain⟨v,l,rfl,i,m⟩:=h;unfold z?;unfold b1;refine⟨_,_,O,?_,Q' r m⟩;by_cases c:j=k
  .rw[aj c,aj c];exact r
  .rw[ai c,ai c];exact i
theorem S?{G:Bg}{H:Hp}{j:List (List dt)}:∀{b:List (List dt)} {c a:bh} {f i:bC},b1 G H c f->b1 G H a i->b1 G H (vx j c b a) (vx j f b i)
 |[],c,a,f,i,h,_=>by unfold vx;exact h
 |k::b,c,[],f,i,h,e=>by unfold b1 at e;subst e;unfold vx;exact h
 |k::b,c,d::a,f,i,h,e=>by unfold b1 at e;obtain⟨v,l,rfl,m,o⟩:=e;unfold vx;exact S? (Q' m h) o
def mem_key{k:List dt}:∀{a:List (List dt×Addr×ab)},k∈a.map (·.1)->(atKey a k).isSome=γ:=λ{a} h=>by
 obtain⟨q,b,rfl⟩:=av.1 h;unfold atKey;cases e:a.find? λx=>decide (x.1=q.1)with
 |some z=>rfl
 |none=>have:=om.1 e q b;simp at this
theorem G?:∀{qs2 a:List (List dt×Addr×ab)} {c b:bC},c9 c (a.map λq=>q.2.2)->c9 b (qs2.map λq=>q.2.2)->(∀q∈qs2,q.1∈a.map (·.1))->
  (u? a qs2).map (λq=>(q.1,q.2.1))=a.map (λq=>(q.1,q.2.1))/\c9 (vx (a.map (·.1)) c (qs2.map (·.1)) b) ((u? a qs2).map λq=>q.2.2)
 |[],a,c,b,h,_,_=>⟨O,by cases b<;>exact h⟩
 |q::qs2,a,c,b,h,j,d=>by
  obtain⟨v,l,rfl,t,r⟩:∃v l,b=v::l/\df v q.2.2/\c9 l (qs2.map λq=>q.2.2):=by cases j;exact⟨_,_,O,‹_›,‹_›⟩
  have st:storedH a q.1 q.2.1 q.2.2=a.map (dN q.1 q.2.2):=by unfold storedH;rw[aj (mem_key (d q aN))]
  have f:(a.map (dN q.1 q.2.2)).map (·.1)=a.map (·.1):=pJ a q.1 q.2.2
  have p:(a.map (dN q.1 q.2.2)).map (λq=>(q.1,q.2.1))=a.map (λq=>(q.1,q.2.1)):=by rw[aV];refine fP λx _=>?_;show ((dN q.1 q.2.2 x).1,(dN q.1 q.2.2 x).2.1)=_;unfold dN;split<;>rfl
  obtain⟨o,e⟩:=G? (qs2:=qs2) (Rk t h) r (λy m=>by rw[f];exact d y (aQ _ m));have i:u? a (q::qs2)=u? (a.map (dN q.1 q.2.2)) qs2:=by unfold u?;rw[iG,st]
  rw[i];rw[f]at e;exact⟨o.t p,e⟩
section
variable{X:Cx}{G:Bg}
def tUpdE(X:Cx)(f ty:TE):TE:=λd H Q=>f d H λx b=>∃a c,x=.ref a/\b a=Z (.ext (tz a c))/\c.ExactDict/\ty d b λy e=>rDU X x [y] e Q
theorem pe_updE{o e:Expr}{r ty:TE}{apos cpos:Pos}(N:X.A.units+64<cLine)(M:PE X o r)(E:PE X e ty)(m:M1 X o "update" apos e cpos):PE X (.Call (.Attribute o "update" apos) [e] [] cpos) (tUpdE X r ty):=by intro c s f H Q I h;refine gy m.b4 m.few m.line gz oj F.type_dict_update (ff (M c s f H _ I h) λu q zz=>?_);obtain⟨x,i,j,T,a,d,B,C,p,R⟩:=zz;subst B;obtain rfl:u=Value.ref a:=T;have l:=(show ee X.prog X.w i q.heap a (.ext (tz a d)) from j.e? a _ C).1;refine⟨⟨d,l,p.1⟩,λb e=>by cases e;exact⟨d,l,p.2.1⟩,?_⟩;rw[m.Bx];refine fN O (fO (dg (ff (E c q f i _ j R) λP W ⟨y,t,z,U,S⟩=>eI ?_)));exact mt_dupd N c W f t (.ref a) [y] (.ref a) [P] Q z O (.cons U .nil) S
def P?(i:Nat)(f:FE)(j:Nat):FS:=λm=>match f m with
 |some (.c3 h,b)=>match m1 h,b[j]? with
  |some (d,l),Z (.E (.c3 c))=>match m1 c with
   |some (a,e)=>if (d.Nodup/\a.Nodup/\d≠[]/\(a.all λk=>d.any λj=>decide (j=k))=γ)/\i≠j/\i<b.length/\h.length+c.length<=1000 then Z (.nx (b.set i (.E (.U d (vx d l a e)))))else J
   |none=>J
  |_,_=>J
 |_=>J
def upd_swap{H:Hp}{p p2:Addr}{a b c:HO}(h:p≠p2):en (en (en H p a) p2 b) p c=en (en H p c) p2 b:=by
 funext x
 unfold en;by_cases e:x=p
 .subst e;rw[aj O,ai h,aj O]
 .rw[ai e];by_cases d:x=p2
  .rw[aj d,aj d]
  .rw[ai d,ai d,ai e,ai e]
def pss_dtu{Q S:Stmt}{fm:List Stmt}{f:FE}{g:FS}{i j:Nat}(hK:X.K=G.K)(hs:μ X=G.hs)(h1:PS X Q (EK (ι (rDP X) (v? G (ax f uI))) (zp i)))(h2:PS X S (P9 (tUpdE X (CP i) (ι (rDP X) (CS (CP j) GQ)))))(h3:n9 X fm (l0 G g)):n9 X (Q::S::fm) (l0 G (bt (P? i f j) g)):=n9.c6 (BM h1 (BM h2 h3)) λE σ H hh=>by
 obtain⟨F,ρ,H0,o,R,e,k,k2⟩:=hh;unfold bt at e;cases d:P? i f j ρ with
 |none=>simp only[d]at e;cases e
 |some o1=>
  unfold P? at d;split at d
  .rename_i ds ρ1 ef;split at d
   .rename_i ks vs ds2 ep ej;split at d
    .rename_i I vs2 C;split at d
     .rename_i hc;obtain⟨⟨n1,n2,n3,n4⟩,hij,hi,hl⟩:=hc;cases d;simp only[P?,ef,ep,ej,C]at e;rw[aj ⟨⟨n1,n2,n3,n4⟩,hij,hi,hl⟩]at e;simp only at e;refine⟨F,ρ,H0,[.c3 ds],_,R,by unfold ax;rw[ef];rfl,λws y u s A rs=>?_⟩;unfold b1 at rs;obtain⟨v,r0,rfl,rv,rn⟩:=rs;unfold b1 at rn;subst rn;unfold b6 at rv;obtain⟨a,xs,rfl,q1,q2⟩:=rv;have ll:ds.length=xs.length:=ug q2;obtain⟨prs,rfl,p2,p3,p4⟩:=o4 q2 ep;rw[aq]at ll;obtain⟨v2,m,N⟩:=A.sl j _ ej;unfold b6 at N;obtain⟨a2,xs2,rfl,q3,q4⟩:=N;have ll2:ds2.length=xs2.length:=ug q4;obtain⟨prs2,rfl,p5,p6,p7⟩:=o4 q4 C;rw[aq]at ll2;have up:∀{b T},fu G.K y b T->fu X.K u b T:=λh=>by rw[hK];exact fu.mono A.sub h
      refine⟨a,prs,O,up q1,λz w=>⟨up (p2 z w).1,up (p2 z w).2⟩,by rw[p3];exact n1,by omega,λp ob qs hp hm de Y l2=>?_⟩;have sn:=uy hp (.ext (tz p ob));have up1:∀{b T},fu G.K y b T->fu X.K (en u p (.ext (tz p ob))) b T:=λh=>fu.mono sn (up h);show ∃v,_;have hsi:(σ.set i (Z (V.ref p)))[i]?=Z (Z (V.ref p)):=by rw[ir (by rw[A.len];exact hi)]
      refine⟨.ref p,hsi,p,ob,O,uh,de.ex,.ref a2,?_,?_⟩
      .rw[ji hij];cases c:σ[j]? with
       |none=>rw[c]at m;cases m
       |some z=>rw[c]at m;rw[show z=Z (V.ref a2) from m]
      refine⟨a2,prs2,O,up1 q3,λz w=>⟨up1 (p5 z w).1,up1 (p5 z w).2⟩,by rw[p6];exact n2,by omega,λp' M t r hm' de' x l2'=>?_⟩;have hne:p≠p':=λz=>by subst z;rw[uh]at r;cases r
      have hp0:u p'=J:=(uj (cI hne)).symm.t r;have P:=uy r (.ext (tz p' M));have U:qs.map (·.1)=ks:=by have:=bp (eA eB) Y;rw[aV,aV]at this;exact this.t p3
      have B:t.map (·.1)=I:=by have:=bp (eA eB) x;rw[aV,aV]at this;exact this.t p6
      have key:∀{qq:List (List dt×Addr×ab)} {pp:List Pr},(qq.map λq=>(q.1,q.2.1))=pp.map (λz=>(z.2.1,z.2.2.1))->(∀z∈pp,PrOk G.K y z)->∀q∈qq,fu G.K y q.2.1 (q.1.map kV):=λ{qq pp} l h q c=>by
       have hq':(q.1,q.2.1)∈pp.map λz=>(z.2.1,z.2.2.1):=by rw[<-l];exact bP c
       obtain⟨z,w,ez⟩:=av.1 hq';injection ez with z1 z2;rw[<-z1,<- z2];exact(h z w).2
      have k1:=key Y p2;have k2':=key x p5;have lq:qs.length=prs.length:=by have:=bp dM Y;rw[aq,aq]at this;exact this
      have lq':t.length=prs2.length:=by have:=bp dM x;rw[aq,aq]at this;exact this
      refine⟨p,p',ob,M,qs,t,O,O,hne,by rw[uj hne];exact uh,uh,hm',de,de',λq c=>fu.mono P (up1 (k1 q c)),λq c=>fu.mono P (up1 (k2' q c)),λz=>n3 (by rw[<-U,z];rfl),by omega,λo' d'=>?_⟩;have sub:∀q∈t,q.1∈qs.map (·.1):=λq c=>by obtain⟨z,z1,z2⟩:=dS.1 (ba.1 n4 q.1 (by rw[<-B];exact bP c));rw[U,<- bF z2];exact z1
      have W:=G? l2 l2' sub;rw[U,B]at W;have s0:=uy (A.fx hp) (.ext (tz p o'));show l0 G g E _ _;rw[upd_swap hne];have rd:b6 G (en y p (.ext (tz p o'))) (.U ks (vx ks vs I vs2)) (.ref p):=by
       unfold b6;refine⟨p,_,O,⟨o',_,uh,hm,hs▸d',?_,λq c=>?_,W.2⟩,S? (b1.mono s0 _ _ p4) (b1.mono s0 _ _ p7)⟩
       .have:=bp (eA eB) W.1;rw[aV,aV]at this;exact this.t U
       .exact fu.mono s0 (key (W.1.t Y) p2 q c)
      exact⟨F,_,_,o,((A.I' hp (.ext (tz p o'))).j0 (by rw[uj (cI hne)];exact hp0) _).θ i rd,e,k.E? (s.t s0),k2⟩
     .cases d
    .cases d
   .cases d
  .cases d
end
def Ite(l:Addr):It:=
 ⟨λi H=>∃a x,H l=Z (.b3 a)/\a[i]?=Z x,
  λi H v b=>∃p x,H p=J/\v=.ref p/\b=en H p (.c3 [.int i,x])/\∀a,H l=Z (.b3 a)->a[i]?=Z x,
  λi H=>∃a,H l=Z (.b3 a)/\a.length<=i⟩
def eTn(e a l:Addr)(i:Nat)(h:Heap):Prop:=(∃old,IsEnum h e a i old)/\h.IsListIter a l i
def turn_enum{P:aF}{w:ay}{K:au}{elts:List Expr}{x1}{pos:Pos}{e it l:Addr}(ne:e≠it):Z? P w K (.Tuple elts x1 pos) (Ite l) [e,it] e (eTn e it l) where
 mem:=by simp
 obj:=λi h st b hb=>by
  obtain⟨⟨old,p⟩,⟨o2,d,_,d2⟩⟩:=st;simp only[aK,b0,or_false]at hb;rcases hb with rfl|rfl
  .exact⟨_,p,λv y=>nomatch y⟩
  .exact⟨o2,d,λv y=>by rw[d2]at y;cases y⟩
 keep:=λi h h' st k=>by obtain⟨⟨old,p⟩,d⟩:=st;exact⟨⟨old,k e (by simp) _ p⟩,d.at λo e=>k it (by simp) o e⟩
 item:=by
  intro X hP hw hK a i pins s σ H E I hf st hg;subst hP hw hK;obtain⟨xs,x,j,N⟩:=hg;obtain⟨⟨old,f⟩,d⟩:=st;obtain⟨z,r1,B,_⟩:=I.list (f3.of j);obtain⟨G,t,C⟩:=r1.get N;refine wpAny_pyNext_enum_item f d B.isList (x:=G) (by simpa using t) ne λh' a1 a2 a3 a4 A=>?_;refine⟨_,O,wpAny_letOwnedTupleGo_enum (s:={ s with heap:=h',toks:=s.toks+1 }) a1 λr R F=>?_⟩;have lt:∀{c:Addr} {o:Obj},s.heap.get? c=Z o->s.heap.objs.size≠c:=λe w=>ao (aL e) (by rw[w];exact dW _);have M:r.get? s.heap.objs.size=Z { cls:=.type "tuple", data:=.seq #[.int i s.toks,G] }:=F.extBut _ _ (lt f) a3;have ok:ee X.prog X.w (en H s.heap.objs.size (.c3 [.int i,x])) r s.heap.objs.size (.c3 [.int i,x]):=⟨by rw[bN];show 2<=16777216;decide,[.int i s.toks,G],.cons ⟨_,O⟩ (.cons C .nil),⟨_,M,O,_,O⟩,λo e=>by rw[M]at e;cases e;rfl⟩;have Q:=b?.Y? (h':=r) (t':=s.toks+1) (T:=s.heap.objs.size) (xs:=[.int i,x]) (ch:=[e,it]) I hf
   (λb o hb e=>F.extBut _ _ (λw=>hb (by simp[w])) (A b o (λw=>hb (by simp[w])) (λw=>hb (by simp[w])) e)) (aO _) ok
  refine⟨.ref s.heap.objs.size,_,Q,O,⟨_,x,I.e?.fresh (aO _),O,O,λxs' e=>?_⟩,⟨⟨_,by simpa using R⟩,a2.extBut F.extBut (cI ne)⟩,λb hb=>?_⟩
  .rw[j]at e;cases e;exact N
  .rw[uj (λw=>?_)]
   .exact(hf b hb).1
   .simp only[aK,b0,or_false]at hb;rcases hb with hb|hb
    .exact lt f (w.symm.t hb)
    .obtain⟨o,e,_⟩:=d;exact lt e (w.symm.t hb)
 done:=by
  intro X hP hw hK a i pins s σ H E I hf st hg;subst hP hw hK;obtain⟨xs,j,hend⟩:=hg;obtain⟨⟨old,f⟩,d⟩:=st;obtain⟨z,r1,B,_⟩:=I.list (f3.of j);have e1:=r1.length;refine wpAny_pyNext_enum_end (I.ok.hd a) f d B.isList (by simp;omega) λh' A=>⟨O,?_⟩;have nch:∀{b:Addr} {u:HO},H b=Z u->b∉[it]:=λe w=>by have:=(hf _ (aQ _ w)).1;rw[e]at this;cases this
  have k:∀b o,b∉[it]->s.heap.get? b=Z o->h'.get? b=Z o:=λb o hb e=>A b o (λw=>hb (by simp[w])) e;refine I.step (g':=s.gens) (d':=s.drawn) (t':=s.toks) (ch:=[it]) (λb hb=>?_) (λb o _ _ a e _=>k b o a e) (λb o _ _ a e _=>⟨o.slots,k b o a e⟩) (λb o _ e n=>n) (λb o a e=>⟨o,k b o a e⟩)
   (λb ys e=>e) (λb o u e=>e) (λb ps e=>⟨#[],by rw[e];simp⟩) (λm hm=>?_) (λb u e=>?_) I.ka
  .obtain⟨f0,S,f2,U,W,Y⟩:=hf b (aQ _ hb);exact⟨U,S,W,Y⟩
  .exact hm.at' λo e=>k _ o (λw=>(hf _ (aQ _ w)).2.1 O) e
  .refine(I.e? b u e).T' (λc v a q=>k c v ?_ q) (λc q=>q) λc ys q=>q;rcases a with rfl|a
   .exact nch e
   .exact nch a
 self:=λ_ _ _ _ _ st h=>by obtain⟨⟨old,f⟩,_⟩:=st;exact oM f h
section
variable{X:Cx}{G:Bg}{elts:List Expr}{x1:Nat}{tpos:Pos}
def boot_enu:dG "enumerate" = Z (.type "enumerate"):=by decide +kernel
def iEnu(c:TA):TI:=λf H R=>c f H λd b=>∃a e,d=[.ref a]/\b a=Z (.b3 e)/\R (Ite a) b
def pi_enum{a:Expr}{i:TA}{p pos:Pos}(hg:Gl X "enumerate")(hm:X.mg "enumerate" = J)(ha:PA X [a] i)(hs:aC [a] X.b5=[(δ,eval a X.b5)]:=by rfl):
  PI X (.Tuple elts x1 tpos) (.Call (.Name "enumerate" p) [a] [] pos) (iEnu i):=by
 intro pins s σ H R I h;refine Call_ (AW I hg hm boot_enu (callWith_type1 (ff (ha pos pins s σ H _ I h) λus e zz=>?_) (by rw[hs];rfl) O));obtain⟨vs,H1,d,r1,w⟩:=zz;obtain⟨z,xs,rfl,m,q⟩:=w;obtain⟨u,rfl,x⟩:=m? r1;cases x;obtain⟨o,_,t,_⟩:=d.list (f3.of m);refine call_enumerate_list t.isList λh' j y B r=>?_;refine oM j ?_;have l:b? X pins σ H1 { e with heap:=h' }:=d.f5 (t':=e.toks) r;refine⟨_,_,_,_,H1,O,l,turn_enum (Nat.succ_ne_self _),⟨⟨_,j⟩,y⟩,λc f=>?_,q⟩;have b:e.heap.objs.size<=c:=by simp only[aK,b0,or_false]at f;rcases f with rfl|rfl<;>first|exact cW _ _|exact aO _
 exact d.Y' b (d.e?.fresh b)
def L?(n:Nat):bh->bh
 |[]=>[]
 |d::a=>D.c3 [.int n,d]::L? (n+1) a
theorem S':∀(a:bh) (n i:Nat),(L? n a)[i]?=(a[i]?).map λd=>D.c3 [.int ((n+i:Nat):Int),d]
 |[],n,i=>by rw[L?];rfl
 |d::a,n,0=>rfl
 |d::a,n,i+1=>by rw[L?,ja,ja,S' a (n+1) i,show n+1+i=n+(i+1) by omega]
theorem Rl:∀(a:bh) (n:Nat),(L? n a).length=a.length
 |[],_=>rfl
 |d::a,n=>by rw[L?,aS,aS,Rl a]
def iE(f:FE):FA:=λc=>match f c with
 |some (.b3 b,a)=>Z (L? 0 b,a)
 |_=>J
def pfi_enum{T e:Expr}{f:FE}(h:PI X T e (iEnu (v? G (ax f uI)))):PI X T e (π G (iE f)):=PI.c6 h λσ H R hh=>by
 obtain⟨F,ρ,U,ds,ρ',R,e,k⟩:=hh;unfold iE at e;split at e
 .rename_i c ρ1 Y;cases e;refine⟨F,ρ,U,[.b3 c],_,R,by unfold ax;rw[Y];rfl,λvs H1 W s N rs=>?_⟩;unfold b1 at rs;obtain⟨v1,r1,rfl,Q,rs⟩:=rs;unfold b1 at rs;subst rs;unfold b6 at Q;obtain⟨a,w,rfl,a1,P⟩:=Q;refine⟨a,w,O,N.sub _ _ a1,k _ _ _ s N λi z A t I=>?_⟩;have C:A a=Z (.b3 w):=I _ _ (t _ _ a1);refine⟨λd l=>?_,λhl=>⟨w,C,?_⟩⟩
  .rw[S']at l;cases B:c[i]? with
   |none=>rw[B]at l;cases l
   |some dx=>
    rw[B]at l;cases l;obtain⟨M,u,x2⟩:=yx P B;refine⟨⟨w,M,C,u⟩,λx H3 y=>?_⟩;obtain⟨p,x',E,rfl,rfl,w1⟩:=y;have j:=w1 w C;rw[u]at j;cases j;have S:z p=J:=by
     cases q:z p with
     |none=>rfl
     |some o=>have:=I _ _ q;rw[E]at this;cases this
    refine⟨en z p (.c3 [.int i,M]),uy S _,λb o e=>?_,uy E _,λb o e=>?_,DY (fu.of uh) ?_⟩
    .by_cases r:b=p
     .subst r;rw[uh]at e ⊢;exact e
     .rw[uj r]at e ⊢;exact I _ _ e
    .by_cases r:b=p
     .subst r;exact .inr E
     .rw[uj r]at e;exact .inl e
    .have m:=t.t (uy S (.c3 [.int i,M]));rw[jK];exact uT (wD _) (uT (b6.mono m _ _ x2) uP)
  .rw[Rl]at hl;rw[<-ug P];omega
 .cases e
end
class Hz(B:Bz):Prop where
 h:B.G.hs=tupleKeyHash (ur B.P B.w)
 k:kN B.G.K=γ
section
variable{X:Cx}{B:Bz}{k i j:Nat}{x y:Str}{e e':Expr}{es:List Expr}{p p2 p3 p4 p5 p6 p7 pos apos:Pos}{f f' f2:FE}{g:FS}
def hz_s [C:Cz X B k][AT:Hz B]:μ X=B.G.hs:=by unfold μ;rw[C.P,C.w];exact AT.h.symm
def hz_k [C:Cz X B k][AT:Hz B]:kN X.K=γ:=by rw[C.K];exact AT.k
def pe_dP [C:Cz X B k][N:Nb B "dict"][AT:Hz B]{t:TA}(b:Gz X "dict")(d:S1 X e)(a:PA X [e] t):PE X (.Call (.Name "dict" p) [e] [] pos) (ι (rDP X) t):=ctI b (by decide) d (X' hz_k C.r.units C.c) Pv.boot_dict a
def zr_dP [C:Cz X B k][N:Nb B "dict"][AT:Hz B](c:Gz X "dict")(a:S1 X e)(b:ZE X B e f):ZE X B (.Call (.Name "dict" p) [e] [] pos) (zE f):=⟨pf_dictP C.K hz_s (pe_dP c a (xh b.p yq a))⟩
def zr_gT [C:Cz X B k][AT:Hz B](a:ZE X B e f)(b:ZE X B e' f')(c:Iz e'):ZE X B (.Subscript e e' pos) (c2 Rm f f'):=⟨pf_getT C.r.units C.K hz_s a.p b.p λo i=>congrFun (congrFun c o) i⟩
def zr_g2T{a:Expr}[C:Cz X B k][AT:Hz B](h:ZE X B e f)(l:ZE X B e' f')(m:ZE X B a f2)(c:Az X e "get")(d:Ez apos pos)(b:aC [e',a] X.b5=[(δ,eval e' X.b5),(δ,eval a X.b5)]):ZE X B (.Call (.Attribute e "get" apos) [e',a] [] pos) (tj f f' f2):=⟨pf_get2T C.r.units C.K hz_s h.p l.p m.p ⟨c,by rw[b];rfl,d,by rw[b];rfl⟩⟩
def zr_dU{sts:List Stmt}[C:Cz X B k][N:Nb B "dict"][AT:Hz B](h:wh X i x=γ)(l:z3 X i x=γ)(u:z3 X j y=γ)(c:Gz X "dict")(d:S1 X e)(a:S1 X (.Name y p4))(b:S1 X (.Call (.Name "dict" p5) [.Name y p4] [] p6))(q:ZE X B e f)(w:Wz X (.Call (.Name "dict" p2) [e] [] p3) (.Name x p) pos)(m:Az X (.Name x p7) "update")(o:Ez apos pos')
  (z:dq (.Call (.Attribute (.Name x p7) "update" apos) [.Call (.Name "dict" p5) [.Name y p4] [] p6] [] pos') J A.line X.b5=pure δ) (t:ZB X B sts g):
  ZB X B (.Assign [.Name x p] (.Call (.Name "dict" p2) [e] [] p3) pos::.Expr (.Call (.Attribute (.Name x p7) "update" apos) [.Call (.Name "dict" p5) [.Name y p4] [] p6] [] pos') A::sts) (bt (P? i f j) g):=
 ⟨pss_dtu C.K hz_s (stW h (pe_dP c d (xh q.p yq d)) w) (J3 (pe_updE C.r.units (W? l) (pe_dP c a (wc (W? u) yM a)) ⟨m,by rw[b];rfl,o,by rw[b];rfl⟩) z) t.p⟩
def zr_en [C:Cz X B k][N:Nb B "enumerate"](c:Gz X "enumerate")(a:S1 X e)(b:ZE X B e f){i:Nat}:ZI X B (.Tuple es i p2) (.Call (.Name "enumerate" p) [e] [] pos) (iE f):=⟨pfi_enum (pi_enum c (C.mg▸N.p) (xh b.p yq a) a)⟩
end
end L4
namespace K63x
open PySem L2 L3 L4
abbrev D:=L4.D
def top(i:Nat):Stmt:=PySem.Challenge.pw_tellworld_k63_folds_and_lifted.main.body.getD i (.Pass ⟨0,0,0,0⟩)
def AG:Nat->Bool:=λc=>c==14
def AH:Nat->Bool:=λc=>c==13
def yD:Nat->Bool:=λc=>c==2
def E1:Nat->Bool:=λc=>c==9
def vV:Nat->Bool:=λc=>c==2
def CW:Nat->Bool:=λc=>c==14
def zv:Nat->Bool:=λc=>c==14
def vR:Nat->Bool:=λc=>c==14
def B4:Nat->Bool:=λc=>c==14
def Ag:Nat->Bool:=λc=>c==14
def uL:Nat->Bool:=λc=>c==0||c==7
def zw:Nat->Bool:=λc=>c==1
def zT:Nat->Bool:=λc=>c==14
def uw:Nat->Bool:=λc=>c==0||c==1||c==2
def GA:Nat->Bool:=λc=>c==10
def CC:Nat->Bool:=λc=>c==10
def wM:Nat->Bool:=λc=>c==2
def CD:Nat->Bool:=λc=>c==3||c==11
def yE:Nat->Bool:=λc=>c==13
def xY:Nat->Bool:=λc=>c==14
def AI:Nat->Bool:=λc=>c==14
def AJ:Nat->Bool:=λc=>c==14
def vC:Nat->Bool:=λc=>c==0||c==1
def AK:Nat->Bool:=λc=>c==3||c==4||c==5||c==6||c==7||c==11||c==12
def CG:Nat->Bool:=λc=>c==13
def Eb:Nat->Bool:=λc=>c==13
def zx:Nat->Bool:=λc=>c==14
def CH:Nat->Bool:=λc=>c==6||c==12
def xZ:Nat->Bool:=λc=>c==13
def zU:Nat->Bool:=λc=>c==14
def HE:Nat->Bool:=λc=>c==8
def wz:Nat->Bool:=λc=>c==0
def Ah:Nat->Bool:=λc=>c==14
abbrev t_At:Ty->Option Bool:=xW 16 3
abbrev M6:Ty->Option Bool:=xW 16 10
abbrev Wb:Ty->Option Bool:=xW 16 4
abbrev R0:Ty->Option Bool:=xW 16 7
abbrev Wc:Ty->Option Bool:=xW 16 15
abbrev R7:Ty->Option Bool:=xW 16 1
abbrev LN:Ty->Option Bool:=xW 16 6
abbrev R8:Ty->Option Bool:=xW 16 11
abbrev R9:Ty->Option Bool:=xW 16 9
abbrev Wd:Ty->Option Bool:=xW 16 12
abbrev Sa:Ty->Option Bool:=xW 16 13
abbrev Sb:Ty->Option Bool:=xW 16 5
abbrev Oe:Ty->Option Bool:=xW 16 0
abbrev Sd:Ty->Option Bool:=xW 16 2
abbrev Se:Ty->Option Bool:=xW 16 8
def B5:L4.D:=(D.int 8)
def B6:L4.D:=(D.int 12)
def HF:L4.D:=(D.c3 [(D.str "it"),(D.str "other"),(D.str "here"),(D.str "the"),(D.str "a"),(D.str "undo"),(D.str "restart")])
def HG:L4.D:=(D.c3 [(D.str "the"),(D.str "a")])
def GB:L4.D:=(D.c3 [(D.str "room"),(D.str "plain"),(D.str "fixed"),(D.str "box"),(D.str "lamp"),(D.str "you")])
def Of:L4.D:=(D.c3 [(D.str "alone"),(D.str "one"),(D.str "two"),(D.str "way")])
def zV:L4.D:=(D.c3 [(D.str "room"),(D.str "box"),(D.str "you")])
def zW:L4.D:=(D.c3 [(D.str "box"),(D.str "lamp")])
def CY:L4.D:=(D.c3 [(D.str "room"),(D.str "you")])
def Ec:L4.D:=(D.int 5)
def Ed:L4.D:=(D.int 4)
def Fy:L4.D:=(D.int 4)
def Ee:L4.D:=(D.int 60)
def zX:L4.D:=(D.int 3)
def BA:L4.D:=(D.str "Nothing comes of it.")
def FB:L4.D:=(D.str "That cannot be.")
def Ef:L4.D:=(D.int 5)
def CZ:L4.D:=(D.int 7)
def za:L4.D:=(D.int 4)
def B7:L4.D:=(D.int 3)
def B8:L4.D:=(D.int 10)
def Eg:L4.D:=(D.int 6)
def Eh:L4.D:=(D.int 4)
def zy:L4.D:=(D.c3 [(D.str "the"),(D.str "a"),(D.str "undo"),(D.str "restart")])
def Ei:L4.D:=(D.int 20)
abbrev aa:=(cV 0)
abbrev ah:=(cV 1)
abbrev aU:=(cC (.int 1))
def zz:FS:=(ue (u9 (c1 (u7 (vG "str")) aa) (u9 (xy y8 y8 aU (c1 xf aa) ah) (c1 yP (cL (ui 1 [] (iS aa) (gN 0) u6 (xy QZ QZ (cS "a") aa (cS "z"))))))))
def xA:=eg 2 2 zz
def Jz:FS:=(ue (u9 (tY xA (ax aa (a1 (cC B5)))) (c2 (pk γ) aa (cC HF))))
def wW:=eg 1 1 Jz
def JA:FS:=(ue (u9 (tY xA (ax aa (a1 (cC B6)))) (c2 (pk γ) aa (cC HG))))
def wX:=eg 1 1 JA
def FC:FS:=(ue (u9 (c1 (u7 (vG "str")) aa) (c2 (pk δ) aa ah)))
def uW:=eg 2 2 FC
def HI:FS:=(ue (u9 (c1 (u7 (vG "int")) aa) (Gg (c1 (u7 (vG "bool")) aa))))
def zA:=eg 1 1 HI
def BB:FS:=(ue (u9 (c1 (u7 (vG "list")) aa) (c2 y8 (c1 xf aa) ah)))
def uY:=eg 2 2 BB
def HJ:FS:=(ue (xr (cT (c1 (u7 (vG "list")) aa)) (cL (zt aa)) aa))
def DB:=eg 1 1 HJ
abbrev ak:=(cV 2)
abbrev aw:=(cV 3)
abbrev az:=(cV 4)
def Bb:FS:=(bt (uS 0 0 "name" ah)
 (bt (uS 0 0 "words" ak)
 (bt (uS 0 0 "kind" aw)
 (uS 0 0 "start" az))))
def wj:=vo 0 4 5 Bb
def FD:FS:=(bt (uS 1 0 "name" ah)
 (bt (uS 1 0 "start" ak)
 (uS 1 0 "most" aw)))
def B9:=vo 1 3 4 FD
abbrev aG:=(cC D.I)
def Ca:FS:=(bt (uS 2 0 "name" ah)
 (bt (uS 2 0 "others" (xr (cT (c2 yO ak aG)) (uO uI) ak))
 (bt (uS 2 0 "form" aw)
 (uS 2 0 "joining" az))))
def vH:=vo 2 4 5 Ca
def JB:FS:=(bt (uS 3 0 "term" ah)
 (uS 3 0 "place" ak))
def CJ:=vo 3 2 3 JB
def HK:FS:=(uS 4 0 "term" ah)
def yf:=vo 4 1 2 HK
def FH:FS:=(uS 5 0 "term" ah)
def FI:=vo 5 1 2 FH
def Da:FS:=(bt (uS 6 0 "term" ah)
 (uS 6 0 "value" ak))
def uZ:=vo 6 2 3 Da
def FJ:FS:=(bt (uS 7 0 "term" ah)
 (uS 7 0 "kind" ak))
def wN:=vo 7 2 3 FJ
def FK:FS:=(uS 8 0 "word" ah)
def Cb:=vo 8 1 2 FK
def HL:FS:=(uS 9 0 "inner" ah)
def vY:=vo 9 1 2 HL
def FL:FS:=(bt (uS 10 0 "one" ah)
 (uS 10 0 "other" ak))
def FM:=vo 10 2 3 FL
def FN:FS:=(bt (uS 11 0 "term" ah)
 (uS 11 0 "place" ak))
def wQ:=vo 11 2 3 FN
def HM:FS:=(bt (uS 12 0 "term" ah)
 (uS 12 0 "value" ak))
def xB:=vo 12 2 3 HM
abbrev bB:=(cV 5)
abbrev cn:=(a1 ak)
abbrev ig:=(a1 aw)
def FP:FS:=(bt (uS 13 0 "verb" ah)
 (bt (uS 13 0 "tests" (tY DB cn))
 (bt (uS 13 0 "deeds" (tY DB ig))
 (bt (uS 13 0 "text" az)
 (uS 13 0 "refuses" bB)))))
def wR:=vo 13 5 6 FP
def AL:FS:=(ue (c2 (pk δ) (c1 (ud uL "kind") aa) (cC zV)))
def yg:=eg 1 1 AL
def vc:Nat->Option (List D->Option D):=λc=>match c with
 |0=>Z yg
 |_=>J
def AM:FS:=(ue (c2 (pk δ) (c1 (ud uL "kind") aa) (cC zW)))
def AN:=eg 1 1 AM
def v7:Nat->Option (List D->Option D):=λc=>match c with
 |0=>Z AN
 |_=>J
def zB:FS:=(ue (c2 (pk γ) (c1 (ud uL "kind") aa) (cC CY)))
def xC:=eg 1 1 zB
def u5:Nat->Option (List D->Option D):=λc=>match c with
 |0=>Z xC
 |_=>J
def BC:FS:=(fc (vF (cT aa)) UW uk)
def um:=eg 2 2 BC
def HN:FS:=(ue (c1 xf (cL (ui 1 [1] (iL aa) (gN 0) (cT (c2 (eo δ) (c1 (ud uL "kind") aa) ah)) aa))))
def Bc:=eg 2 2 HN
def Ej:FS:=(vK (ui 1 [] (iL aa) (gN 0) (cT (uo u5 "is_plainly" aa uI)) aa))
def wY:=yr 1 1 Ej
abbrev aE:=(cC (.int 0))
abbrev bJ:=(cC (.O δ))
def E2:FS:=(bt (fc (xg (vF (cT (c1 (u7 R7) aa))) (xg (vF (cT (tY zA (a1 (c1 (ud vC "start") aa))))) (vF (cT (tY zA (a1 (c1 (ud zw "most") aa))))))) (ue bJ) uk)
 (ue (u9 (xy y8 y8 aU (c1 (ud zw "most") aa) (cC B7)) (xy y8 y8 aE (c1 (ud vC "start") aa) (c1 (ud zw "most") aa)))))
def E3:=eg 1 1 E2
abbrev dy:=(cS "room")
abbrev i5:=(cS "you")
abbrev bG:=(a1 aa)
abbrev i7:=(a1 dy)
def zC:FS:=(bt (uD 1 (u9 (c1 (u7 (vG "list")) aa) (c1 yP (cL (ui 1 [] (iL aa) (gN 0) u6 (c1 (u7 Oe) aa))))))
 (bt (uH (tY um (ax ah (a1 (cS "things are a list of things")))))
 (bt (uH (tY um (ax (c1 yP (cL (ui 1 [] (iL aa) (gN 0) u6 (tY uW (ax (c1 (ud uL "kind") aa) (a1 (cC GB))))))) (a1 (cS "a thing is of no kind")))))
 (bt (uH (tY um (ax (xy y8 y8 aU (tY Bc (ax aa i7)) (cC Ef)) (a1 (cS "a world has 1 to 5 rooms")))))
 (bt (uH (tY um (ax (c2 (eo δ) (tY Bc (ax aa (a1 i5))) aU) (a1 (cS "a world has just one you")))))
 (uH (tY um (ax (c2 y8 (c1 xf (cL (vb wY bG))) (cC CZ)) (a1 (cS "a world has at most 7 things beside rooms and you"))))))))))
def zD:=eg 1 2 zC
def Ai:FS:=(bt (uD 1 (u9 (tY uY (ax aa (a1 (cC za)))) (c1 yP (cL (ui 1 [] (iL aa) (gN 0) u6 (tY E3 bG))))))
 (uH (tY um (ax ah (a1 (cS "marks are a list of at most 4 marks, each from 0 to at most 3"))))))
def Aj:=eg 1 2 Ai
def Ek:FS:=(ue (c2 (eo δ) (c1 (D5 oneD) aa) (c1 xf aa)))
def wm:=eg 1 1 Ek
def Ak:FS:=(bt (uD 2 (cL (xT (cL (ui 1 [] (iL aa) (gN 0) u6 (c1 (ud uw "name") aa))) (cL (ui 1 [] (iL ah) (gN 0) u6 (c1 (ud uw "name") aa))))))
 (bt (uH (tY um (ax (c1 yP (cL (ui 1 [] (iL ak) (gN 0) u6 (tY wW bG)))) (a1 (cS "a name is no name")))))
 (uH (tY um (ax (tY wm cn) (a1 (cS "two things or marks have one name")))))))
def Al:=eg 2 3 Ak
def El:FS:=(vK (xT (cL (ui 1 [] (iL aa) (gN 0) (cT (uo v7 "has_mark" aa uI)) (c1 (ud uw "name") aa))) (cL (ui 1 [] (iL ah) (gN 0) u6 (c1 (ud uw "name") aa)))))
def wZ:=yr 2 2 El
def DC:FS:=(bt (fc (cT (c2 (eo δ) (c1 (ud uL "kind") ah) dy)) (ue (c2 yO (c1 (ud vC "start") ah) aG)) uk)
 (bt (fc (cT (c2 (eo δ) (c1 (ud uL "kind") ah) i5)) (ue (tY uW (ax (c1 (ud vC "start") ah) (a1 (cL (ui 1 [] (iL aa) (gN 0) (cT (c2 (eo δ) (c1 (ud uL "kind") aa) dy)) (c1 (ud uw "name") aa))))))) uk)
 (ue (tY uW (ax (c1 (ud vC "start") ah) (a1 (cL (ui 1 [] (iL aa) (gN 0) (cT (uo vc "can_hold" aa uI)) (c1 (ud uw "name") aa)))))))))
def DD:=eg 2 2 DC
abbrev c7:=(cC (.O γ))
def BD:FS:=(bt (uD 2 (c2 CU aa ah))
 (bt (xx (xm (c1 xf aa)) (gN 3) (bt (fc (cT (c2 yO ak aG)) (ue c7) uk)
 (uD 2 (c2 CU aa ak))))
 (ue (c2 yO ak aG))))
def yT:=eg 2 4 BD
abbrev fg:=(ax ah bG)
def zF:FS:=(bt (uH (tY um (ax (c1 yP (cL (ui 1 [0] (iL aa) (gN 0) u6 (tY DD fg)))) (a1 (cS "a start is none")))))
 (bt (Hk 1)
 (bt (xx (iL aa) (gN 2) (yd 1 (c1 (ud uw "name") ak) (c1 (ud vC "start") ak)))
 (uH (tY um (ax (c1 yP (cL (ui 1 [1] (iD (T3 1)) (gN 0) u6 (tY yT fg)))) (a1 (cS "a thing starts within itself"))))))))
def zG:=eg 1 3 zF
def FQ:FS:=(bt (fc (xg (vF (cT (c1 (u7 (vG "tuple")) aa))) (vF (cT (xy y8 y8 aU (c1 xf aa) (cC Eh))))) (ue bJ) uk)
 (ue (u9 (c1 yP (cL (ui 1 [] (iT aa) (gN 0) u6 (tY wX bG)))) (tY wm bG))))
def zY:=eg 1 1 FQ
def JC:FS:=(ue (c1 yP (cL (ui 1 [0] (iT ah) (gN 0) u6 (c2 (pk δ) aa ah)))))
def AO:=eg 2 2 JC
def yU:FS:=(bt (uD 2 (cL (ui 1 [1] (iL aa) (gN 0) (cT (c2 (eo γ) (c1 (ud uw "name") aa) (c1 (ud uw "name") ah))) aa)))
 (ue (Gg (c1 Gi (cL (ui 1 [1] (iL ak) (gN 0) u6 (tY AO (ax (c1 (ud wz "words") aa) (a1 (c1 (ud wz "words") ah))))))))))
def yV:=eg 2 3 yU
def v8:FS:=(bt (uH (tY um (ax (c1 yP (cL (ui 1 [] (iL aa) (gN 0) u6 (tY zY (a1 (c1 (ud wz "words") aa)))))) (a1 (cS "a thing has 1 to 4 unlike words, as a tuple")))))
 (bt (uD 1 (cL (vb wY bG)))
 (uH (tY um (ax (c1 yP (cL (ui 1 [1] (iL ah) (gN 0) u6 (tY yV fg)))) (a1 (cS "one thing has all words of another")))))))
def wa:=eg 1 2 v8
abbrev bu:=(a1 ah)
abbrev cp:=(ax aa bu)
def Bd:FS:=(bt (uD 2 (u9 (c1 (u7 (vG "list")) aa) (u9 (c1 yP (cL (ui 1 [1] (iL aa) (gN 0) u6 (tY uW cp)))) (tY wm bG))))
 (uH (tY um (ax ak (a1 (cS "dark is a list of rooms' names, each once"))))))
def Be:=eg 2 3 Bd
abbrev bq:=(cC (.int 3))
abbrev bT:=(cC (.int 2))
abbrev eC:=(cC (.int 4))
abbrev q9:=(ax (c2 eh aa bq) cn)
def HP:FS:=(bt (fc (xg (vF (cT (c1 (u7 (vG "tuple")) aa))) (cT (c2 (eo γ) (c1 xf aa) eC))) (ue bJ) uk)
 (bt (uD 3 (U' (c2 yO (c2 eh aa bq) aG) (tY uW q9)))
 (ue (u9 (tY uW (ax (c2 eh aa aE) bu)) (u9 (tY wX (a1 (c2 eh aa aU))) (u9 (tY uW (ax (c2 eh aa bT) bu)) aw))))))
def HQ:=eg 3 4 HP
abbrev cA:=(ax ah (a1 ak))
abbrev fK:=(ax aa cA)
def Bf:FS:=(bt (uD 3 (u9 (tY uY (ax aa (a1 (cC B8)))) (c1 yP (cL (ui 1 [1,2] (iL aa) (gN 0) u6 (tY HQ fK))))))
 (bt (uH (tY um (ax aw (a1 (cS "ways are a list of at most 10 tuples (room, word, room, mark)")))))
 (uH (tY um (ax (tY wm (a1 (cL (ui 1 [] (iL aa) (gN 0) u6 (uO (ax (c2 eh aa aE) (a1 (c2 eh aa aU)))))))) (a1 (cS "two ways lead from one room by one word")))))))
def Bh:=eg 3 4 Bf
abbrev hZ:=(cS "two")
abbrev mE:=(a1 (c1 (ud uw "name") aa))
def JD:FS:=(bt (fc (xg (vF (cT (c1 (u7 Sd) aa))) (xg (vF (cT (tY wW mE))) (vF (cT (c1 (u7 (vG "tuple")) (c1 (ud wM "others") aa)))))) (ue bJ) uk)
 (bt (fc (xg (vF (cT (c1 yP (cL (ui 1 [] (iT (c1 (ud wM "others") aa)) (gN 0) u6 (tY wW bG)))))) (vF (cT (tY uW (ax (c1 (ud yD "form") aa) (a1 (cC Of))))))) (ue bJ) uk)
 (ue (xr (cT (c2 (eo δ) (c1 (ud yD "form") aa) hZ)) (tY wX (a1 (c1 (ud vV "joining") aa))) (c2 yO (c1 (ud vV "joining") aa) aG)))))
def JE:=eg 1 1 JD
def Dc:FS:=(bt (uD 1 (u9 (tY uY (ax aa (a1 (cC Eg)))) (c1 yP (cL (ui 1 [] (iL aa) (gN 0) u6 (tY JE bG))))))
 (uH (tY um (ax ah (a1 (cS "verbs are a list of at most 6 verbs"))))))
def yt:=eg 1 2 Dc
def FR:FS:=(ue (Gg (c1 Gi (cL (ui 1 [1] (iL aa) (gN 0) u6 (c2 (pk δ) aa ah))))))
def yF:=eg 2 2 FR
abbrev br:=(cV 6)
abbrev bH:=(cV 7)
abbrev j5:=(a1 (c1 (ud uw "name") br))
def xD:FS:=(bt (xG 3 (uM uI))
 (bt (xx (iL (cL (vb wY bG))) (gN 4) (uH (BV 3 (c1 (ud wz "words") az))))
 (bt (xG 5 (uM uI))
 (bt (xx (iL ak) (gN 6) (uH (BV 5 (Fo (uO j5) (c1 (ud wM "others") br)))))
 (bt (uD 7 (cL (xT (cL (ui 1 [] (iL ak) (gN 0) (cT (c2 v5 (c1 (ud vV "joining") aa) aG)) (c1 (ud vV "joining") aa))) (cL (ui 1 [] (iL ah) (gN 0) u6 (c2 eh aa aU))))))
 (bt (uH (tY um (ax (tY wm (a1 (T3 5))) (a1 (cS "two verbs' names are alike")))))
 (bt (uH (tY um (ax (tY yF (ax (cL (xT (T3 5) bH)) (a1 (T3 3)))) (a1 (cS "a verb's, way's or joining word is a word of a thing")))))
 (bt (uH (tY um (ax (tY yF (ax (cL (xT (T3 5) bH)) (a1 (cC zy)))) (a1 (cS "the, a, undo or restart is a word of the world")))))
 (uH (tY um (ax (tY yF (ax bH (a1 (T3 5)))) (a1 (cS "a way's or joining word is a verb's name")))))))))))))
def wq:=eg 3 8 xD
abbrev eZ:=(a1 az)
def Am:FS:=(bt (uH (tY zD bG))
 (bt (uH (tY Aj bu))
 (bt (uH (tY Al cp))
 (bt (uH (tY zG bG))
 (bt (uH (tY wa bG))
 (bt (uD 6 (cL (ui 1 [] (iL aa) (gN 0) (cT (c2 (eo δ) (c1 (ud uL "kind") aa) dy)) (c1 (ud uw "name") aa))))
 (bt (uH (tY Be (ax ak (a1 br))))
 (bt (uH (tY Bh (ax aw (ax br (a1 (cL (vb wZ cp)))))))
 (bt (uH (tY yt eZ))
 (uH (tY wq (ax aa (ax aw (a1 (cL (xT az bB))))))))))))))))
def An:=eg 6 7 Am
def Sf:FS:=(ue (uF 13 (λa=>wR (a++[])) (ax aa (ax ah (ax ak (ax aw (a1 bJ)))))))
def zH:=eg 4 4 Sf
def JF:FS:=(ue (uF 13 (λa=>wR (a++[])) (ax aa (ax ah (ax (cL (uM uI)) (ax ak (a1 c7)))))))
def vq:=eg 3 3 JF
abbrev cy:=(cS "it")
abbrev ik:=(cS "take")
def Em:FS:=(vK (uM (ax (tY vq (ax ik (ax (cL (uM (a1 (uF 7 (λa=>wN (a++[])) (ax cy (a1 (cS "fixed"))))))) (a1 (cS "That stays."))))) (ax (tY vq (ax ik (ax (cL (uM (a1 (uF 3 (λa=>CJ (a++[])) (ax cy bG))))) (a1 (cS "You have that."))))) (ax (tY zH (ax ik (ax (cL (uM uI)) (ax (cL (uM (a1 (uF 11 (λa=>wQ (a++[])) (ax cy bG))))) (a1 (cS "Taken.")))))) (ax (tY zH (ax (cS "drop") (ax (cL (uM (a1 (uF 4 (λa=>yf (a++[])) (a1 cy))))) (ax (cL (uM (a1 (uF 11 (λa=>wQ (a++[])) (ax cy (a1 (cS "here"))))))) (a1 (cS "Dropped.")))))) (a1 (tY vq (ax (cS "drop") (ax (cL (uM uI)) (a1 (cS "You lack that."))))))))))))
def Bi:=yr 1 1 Em
abbrev eD:=(cS "box")
abbrev hG:=(cS "other")
abbrev i6:=(cS "put")
abbrev ic:=(ax cy (a1 hG))
def FU:FS:=(vK (uM (ax (tY vq (ax i6 (ax (cL (uM (a1 (uF 9 (λa=>vY (a++[])) (a1 (uF 4 (λa=>yf (a++[])) (a1 cy))))))) (a1 (cS "You lack that."))))) (ax (tY vq (ax i6 (ax (cL (uM (a1 (uF 9 (λa=>vY (a++[])) (a1 (uF 7 (λa=>wN (a++[])) (ax hG (a1 eD)))))))) (a1 (cS "It holds nothing."))))) (ax (tY vq (ax i6 (ax (cL (uM (a1 (uF 6 (λa=>uZ (a++[])) (ax hG (a1 aE)))))) (a1 (cS "It is shut."))))) (a1 (tY zH (ax i6 (ax (cL (uM uI)) (ax (cL (uM (a1 (uF 11 (λa=>wQ (a++[])) ic)))) (a1 (cS "Done."))))))))))))
def Cc:=yr 0 0 FU
abbrev qM:=(a1 aU)
abbrev j6:=(ax cy (a1 aE))
abbrev il:=(cS "open")
abbrev kg:=(ax cy qM)
def FV:FS:=(vK (uM (ax (tY vq (ax il (ax (cL (uM (a1 (uF 9 (λa=>vY (a++[])) (a1 (uF 7 (λa=>wN (a++[])) (ax cy (a1 eD)))))))) (a1 (cS "It has no lid."))))) (ax (tY vq (ax il (ax (cL (uM (a1 (uF 6 (λa=>uZ (a++[])) kg)))) (a1 (cS "It is open."))))) (ax (tY zH (ax il (ax (cL (uM uI)) (ax (cL (uM (a1 (uF 12 (λa=>xB (a++[])) kg)))) (a1 (cS "Opened.")))))) (ax (tY vq (ax (cS "shut") (ax (cL (uM (a1 (uF 9 (λa=>vY (a++[])) (a1 (uF 7 (λa=>wN (a++[])) (ax cy (a1 eD)))))))) (a1 (cS "It has no lid."))))) (ax (tY vq (ax (cS "shut") (ax (cL (uM (a1 (uF 6 (λa=>uZ (a++[])) j6)))) (a1 (cS "It is shut."))))) (a1 (tY zH (ax (cS "shut") (ax (cL (uM uI)) (ax (cL (uM (a1 (uF 12 (λa=>xB (a++[])) j6)))) (a1 (cS "Shut."))))))))))))))
def Cd:=yr 0 0 FV
abbrev hJ:=(a1 (cS "lamp"))
def De:FS:=(vK (uM (ax (tY vq (ax (cS "light") (ax (cL (uM (a1 (uF 9 (λa=>vY (a++[])) (a1 (uF 7 (λa=>wN (a++[])) (ax cy hJ))))))) (a1 (cS "It burns not."))))) (ax (tY vq (ax (cS "light") (ax (cL (uM (a1 (uF 6 (λa=>uZ (a++[])) kg)))) (a1 (cS "It is lit."))))) (ax (tY zH (ax (cS "light") (ax (cL (uM uI)) (ax (cL (uM (a1 (uF 12 (λa=>xB (a++[])) kg)))) (a1 (cS "Lit.")))))) (ax (tY vq (ax (cS "douse") (ax (cL (uM (a1 (uF 9 (λa=>vY (a++[])) (a1 (uF 7 (λa=>wN (a++[])) (ax cy hJ))))))) (a1 (cS "It burns not."))))) (ax (tY vq (ax (cS "douse") (ax (cL (uM (a1 (uF 6 (λa=>uZ (a++[])) j6)))) (a1 (cS "It is out."))))) (a1 (tY zH (ax (cS "douse") (ax (cL (uM uI)) (ax (cL (uM (a1 (uF 12 (λa=>xB (a++[])) j6)))) (a1 (cS "Doused."))))))))))))))
def Ao:=yr 0 0 De
abbrev ib:=(a1 (c2 eh ah aE))
def FW:FS:=(bt (xG 2 (uM (ax (uF 3 (λa=>CJ (a++[])) (ax aa ib)) (a1 (uF 8 (λa=>Cb (a++[])) (a1 (c2 eh ah aU)))))))
 (bt (fc (cT (c2 v5 (c2 eh ah bq) aG)) (uH (yc 2 (uF 9 (λa=>vY (a++[])) (a1 (uF 6 (λa=>uZ (a++[])) (ax (c2 eh ah bq) (a1 aE))))))) uk)
 (vK (G6 2))))
def Ce:=yr 2 3 FW
def DE:FS:=(bt (uD 2 (cL (ui 1 [0] (iL ah) (gN 0) u6 (tY zH (ax (cS "go") (ax (cL (vb Ce fg)) (ax (cL (uM (a1 (uF 11 (λa=>wQ (a++[])) (ax ah (a1 (c2 eh aa bT))))))) (a1 (cS "You go.")))))))))
 (vK (xT ak (cL (uM (a1 (tY vq (ax (cS "go") (ax (cL (uM uI)) (a1 (cS "No way there.")))))))))))
def DF:=yr 2 3 DE
def En:FS:=(vK (uM (a1 (tY zH (ax (cS "wait") (ax (cL (uM uI)) (ax (cL (uM uI)) (a1 (cS "Time goes by.")))))))))
def Eo:=yr 0 0 En
def Cf:FS:=(vK (xT (cL (xT (cL (xT (cL (xT (cL (xT (cL (vb Bi bG)) (cL (vb Cc uI)))) (cL (vb Cd uI)))) (cL (vb Ao uI)))) (cL (vb DF cp)))) (cL (vb Eo uI))))
def zI:=yr 2 2 Cf
abbrev ia:=(cS "way")
def Cg:FS:=(vK (xT (cL (ui 1 [] (iT (uO (ax ik (ax (cS "drop") (ax il (ax (cS "shut") (ax (cS "light") (a1 (cS "douse"))))))))) (gN 0) u6 (uF 2 (λa=>vH (a++[D.I,(D.str "one"),D.I])) bG))) (cL (uM (ax (uF 2 (λa=>vH (a++[])) (ax i6 (ax (uO uI) (ax hZ (a1 (cS "in")))))) (ax (uF 2 (λa=>vH (a++[D.I])) (ax (cS "go") (ax (uO uI) (a1 ia)))) (a1 (uF 2 (λa=>vH (a++[D.I])) (ax (cS "wait") (ax (uO uI) (a1 (cS "alone"))))))))))))
def x3:=yr 0 0 Cg
def E4:FS:=(bt (Hk 1)
 (bt (xx (iL aa) (gN 2) (yd 1 (c1 (ud uw "name") ak) ak))
 (ue (T3 1))))
def E5:=eg 1 3 E4
def yW:FS:=(bt (Hk 2)
 (bt (xx (iL aa) (gN 3) (fc (cT (uo v7 "has_mark" aw uI)) (yd 2 (c1 (ud uw "name") aw) aU) uk))
 (bt (xx (iL ah) (gN 4) (yd 2 (c1 (ud uw "name") az) (c1 (ud zw "most") az)))
 (ue (T3 2)))))
def yX:=eg 2 5 yW
def BE:FS:=(bt (Hk 1)
 (bt (xx (iL aa) (gN 2) (xx (iT (Fo (uO (a1 (c1 (ud uw "name") ak))) (c1 (ud wM "others") ak))) (gN 3) (yd 1 aw ak)))
 (ue (T3 1))))
def yY:=eg 1 4 BE
def JG:FS:=(MV (ud xZ "verb"))
def JH:=eg 1 3 JG
def BF:FS:=(vK (ui 1 [1] (iL (c1 (ud vR "kept_things") aa)) (gN 0) (cT (c2 (eo δ) (c1 (ud uL "kind") aa) ah)) (c1 (ud uw "name") aa)))
def yZ:=eg 2 2 BF
def xj:Nat->Option (List D->Option D):=λc=>match c with
 |14=>Z yZ
 |_=>J
def zZ:FS:=(vK (xT (c1 (ud B4 "kept_verbs") aa) (c1 (ud AJ "shared_verbs") aa)))
def wH:=eg 1 1 zZ
def wx:Nat->Option (List D->Option D):=λc=>match c with
 |14=>Z wH
 |_=>J
def Ci:FS:=(ue (u9 (c1 (u7 (vG "str")) aa) (c2 (eo δ) aa ah)))
def x4:=eg 2 2 Ci
def JI:FS:=(ue (uF 13 (λa=>wR (a++[])) (ax (c1 (ud xZ "verb") aa) (ax (c1 (ud CG "tests") aa) (ax (c1 (ud AH "deeds") aa) (ax (c1 (ud Eb "text") aa) (a1 (c1 (ud yE "refuses") aa))))))))
def E6:=eg 1 1 JI
def AQ:FS:=(ue (c2 LM (c1 (ud zx "things_by_name") aa) ah))
def vE:=eg 2 2 AQ
def uz:Nat->Option (List D->Option D):=λc=>match c with
 |14=>Z vE
 |_=>J
def BG:FS:=(ue (c2 Bw (c1 (ud zT "mosts_by_name") aa) ah))
def vS:=eg 2 2 BG
def vM:Nat->Option (List D->Option D):=λc=>match c with
 |14=>Z vS
 |_=>J
def BH:FS:=(ue (c2 Bw (c1 (ud zU "verbs_by_word") aa) ah))
def vT:=eg 2 2 BH
def vd:Nat->Option (List D->Option D):=λc=>match c with
 |14=>Z vT
 |_=>J
def FX:FS:=(ue (c1 (ud Ah "your_name") aa))
def LO:=eg 1 1 FX
def zj:Nat->Option (List D->Option D):=λc=>match c with
 |14=>Z LO
 |_=>J
def BI:FS:=(bt (fc (cT (tY x4 (ax ah (a1 cy)))) (ue (c2 (pk δ) aa (uO (ax (cS "one") (a1 hZ))))) uk)
 (ue (u9 (tY x4 (ax ah (a1 hG))) (c2 (eo δ) aa hZ))))
def vg:=eg 2 2 BI
def JJ:FS:=(ue (u9 (c2 v5 aa aG) (tY x4 (ax ah (a1 (cS "here"))))))
def yh:=eg 2 2 JJ
def Og:FS:=(ue (xr (cT (c1 (u7 (vG "str")) ah)) (uo uz "thing_of" aa bu) aG))
def zb:=eg 2 2 Og
def Ep:FS:=(ue (u9 (c2 v5 (tY zb cp) aG) (c2 (eo δ) (c1 (ud uL "kind") (tY zb cp)) ak)))
def zc:=eg 3 3 Ep
abbrev cQ:=(ax aa cn)
def JK:FS:=(ue (U' (tY vg cA) (U' (tY yh cA) (c2 v5 (tY zb cQ) aG))))
def AR:=eg 3 3 JK
def DG:FS:=(bt (fc (xg (cT (tY vg cA)) (cT (tY yh cA))) (ue c7) uk)
 (ue (u9 (c2 v5 (tY zb cQ) aG) (uo vc "can_hold" (tY zb cQ) uI))))
def Bj:=eg 3 3 DG
def DH:FS:=(bt (fc (cT (tY vg cA)) (ue c7) uk)
 (ue (u9 (c2 v5 (tY zb cQ) aG) (Gg (tY zc (ax aa (ax ak i7)))))))
def DI:=eg 3 3 DH
def xq:FS:=(bt (fc (xg (vF (cT (tY zA ig))) (cT (c2 MG aw aE))) (ue bJ) uk)
 (bt (fc (cT (tY vg cA)) (ue (c2 y8 aw (cC zX))) uk)
 (bt (uD 4 (xr (cT (c1 (u7 (vG "str")) ak)) (uo vM "most_of" aa cn) aG))
 (ue (u9 (c2 v5 az aG) (c2 y8 aw az))))))
def xt:=eg 4 5 xq
abbrev j2:=(ax aa (ax ah (a1 (c1 (ud AK "term") ak))))
abbrev qR:=(ax aa (ax ah (a1 (c1 (ud CD "place") ak))))
def E7:FS:=(bt (fc (xg (vF (cT (tY DI j2))) (vF (cT (tY Bj qR)))) (ue bJ) uk)
 (ue (U' (c2 (eo γ) (c1 (ud AK "term") ak) (uo zj "you" aa uI)) (tY zc (ax aa (ax (c1 (ud CD "place") ak) i7))))))
def E8:=eg 3 3 E7
def JL:FS:=(ue (u9 (c1 (u7 (vG "str")) aa) (xy y8 y8 aU (c1 xf aa) (cC Ee))))
def AS:=eg 1 1 JL
def Cj:FS:=(ue (u9 (tY wW bu) (u9 (c2 v5 (uo vd "verb_of" aa bu) aG) (c2 (eo δ) (c1 (ud uw "name") (uo vd "verb_of" aa bu)) ah))))
def zJ:=eg 2 2 Cj
def z4:FS:=(ue (u9 (c1 (u7 (vG "bool")) (c1 (ud yE "refuses") aa)) (U' (Gg (c1 (ud yE "refuses") aa)) (c2 (eo δ) (c1 (ud AH "deeds") aa) (cL (uM uI))))))
def x6:=eg 1 1 z4
abbrev qK:=(ax aa (ax ah (ax (c1 (ud AK "term") ak) (a1 (c1 (ud CH "value") ak)))))
def vJ:FS:=(bt (fc (cT (c1 (u7 t_At) ak)) (ue (u9 (tY AR j2) (tY Bj qR))) uk)
 (bt (fc (cT (c1 (u7 (tOr Wb Sb)) ak)) (ue (tY AR j2)) uk)
 (bt (fc (cT (c1 (u7 LN) ak)) (ue (tY xt qK)) uk)
 (bt (fc (cT (c1 (u7 R0) ak)) (ue (u9 (tY AR j2) (tY uW (ax (c1 (ud uL "kind") ak) (a1 (cC GB)))))) uk)
 (bt (fc (cT (c1 (u7 Se) ak)) (ue (u9 (c2 (eo δ) ah ia) (tY wX (a1 (c1 (ud HE "word") ak))))) uk)
 (ue (c1 (u7 Wc) ak)))))))
def y4:=eg 3 3 vJ
abbrev mF:=(a1 (c2 NO aw aU))
def xJ(g:List D->Option D):FS:=(bt (fc (cT (c2 (eo δ) aw aE)) (ue bJ) uk)
 (bt (fc (cT (c1 (u7 R9) ak)) (ue (tY g (ax aa (ax ah (ax (c1 (ud E1 "inner") ak) mF))))) uk)
 (bt (fc (cT (c1 (u7 M6) ak)) (ue (u9 (tY g (ax aa (ax ah (ax (c1 (ud GA "one") ak) mF)))) (tY g (ax aa (ax ah (ax (c1 (ud CC "other") ak) mF)))))) uk)
 (ue (tY y4 fK)))))
def xK:Nat->List D->Option D
 |0=>eg 4 4 UW
 |n+1=>eg 4 4 (xJ (xK n))
def CK:FS:=(bt (fc (cT (c1 (u7 Wd) ak)) (ue (tY xt qK)) uk)
 (ue (u9 (c1 (u7 R8) ak) (tY E8 fK))))
def E9:=eg 3 3 CK
def FY:FS:=(ue (u9 (tY uY (ax ak (a1 (cC Ec)))) (c1 yP (cL (ui 1 [0,1] (iL ak) (gN 0) u6 (tY (xK 4) (ax ah (ax ak (ax aa (a1 (cC Fy)))))))))))
def Ck:=eg 3 3 FY
abbrev j8:=(ax ah (ax ak bG))
def FZ:FS:=(ue (u9 (tY uY (ax ak (a1 (cC Ed)))) (c1 yP (cL (ui 1 [0,1] (iL ak) (gN 0) u6 (tY E9 j8))))))
def Cn:=eg 3 3 FZ
abbrev qV:=(a1 (c1 (ud xZ "verb") ah))
def Fb:FS:=(bt (fc (xg (vF (cT (c1 (u7 Sa) ah))) (xg (vF (cT (tY zJ (ax aa qV)))) (vF (cT (tY AS (a1 (c1 (ud Eb "text") ah))))))) (ue bJ) uk)
 (bt (uD 2 (c1 (ud yD "form") (uo vd "verb_of" aa qV)))
 (ue (u9 (tY Ck (ax aa (ax ak (a1 (c1 (ud CG "tests") ah))))) (u9 (tY Cn (ax aa (ax ak (a1 (c1 (ud AH "deeds") ah))))) (tY x6 bu))))))
def Fc:=eg 2 3 Fb
def x8:FS:=(bt (uH (tY An (ax ah (ax ak (ax aw (ax az (ax bB (a1 (cL (vb x3 uI))))))))))
 (bt (uS 14 0 "kept_things" (cL (zt ah)))
 (bt (uS 14 0 "kept_marks" (cL (zt ak)))
 (bt (uS 14 0 "kept_dark" (cL (zt aw)))
 (bt (uS 14 0 "kept_ways" (cL (zt az)))
 (bt (uS 14 0 "kept_verbs" (cL (zt bB)))
 (bt (uS 14 0 "shared_verbs" (cL (vb x3 uI)))
 (bt (uS 14 0 "your_name" (CV 16 (c2 eh (uo xj "of_kind" aa (a1 i5)) aE)))
 (bt (uS 14 0 "things_by_name" (tY E5 bu))
 (bt (uS 14 0 "mosts_by_name" (tY yX cA))
 (bt (uS 14 0 "verbs_by_word" (CV 16 (tY yY (a1 (uo wx "all_verbs" aa uI)))))
 (bt (uD 7 (CV 16 (u9 (tY uY (ax br (a1 (cC Ei)))) (c1 yP (cL (ui 1 [0] (iL br) (gN 0) u6 (tY Fc fg)))))))
 (bt (uH (tY um (ax bH (a1 (cS "rules are a list of at most 20 rules, each as it may be")))))
 (bt (uS 14 0 "kept_rules" (cL (zt br)))
 (bt (uS 14 0 "shared_rules" (CV 16 (cL (vb zI (ax (c1 (ud Ah "your_name") aa) eZ)))))
 (bt (uS 14 0 "copied_rules" (cL (ui 1 [] (iL br) (gN 0) u6 (tY E6 bG))))
 (uS 14 0 "rules_by_verb" (CV 16 (tY JH (a1 (cL (xT (c1 (ud AG "copied_rules") aa) (c1 (ud AI "shared_rules") aa)))))))))))))))))))))))
def x9:=vo 14 6 8 x8
def BJ:FS:=(ue (c2 (pk δ) ah (c1 (ud CW "kept_dark") aa)))
def Gj:=eg 2 2 BJ
def yu:Nat->Option (List D->Option D):=λc=>match c with
 |14=>Z Gj
 |_=>J
def z5:FS:=(vK (zt (c1 (ud zv "kept_marks") aa)))
def Er:=eg 1 1 z5
def y6:Nat->Option (List D->Option D):=λc=>match c with
 |14=>Z Er
 |_=>J
def Dg:FS:=(vK (ui 1 [] (iL (c1 (ud vR "kept_things") aa)) (gN 0) u6 (c1 (ud uw "name") aa)))
def Ap:=eg 1 1 Dg
def xM:Nat->Option (List D->Option D):=λc=>match c with
 |14=>Z Ap
 |_=>J
def z6:FS:=(vK (t? (cL (ui 1 [] (iL (c1 (ud Ag "kept_ways") aa)) (gN 0) u6 (c2 eh aa aU)))))
def ya:=eg 1 1 z6
def wy:Nat->Option (List D->Option D):=λc=>match c with
 |14=>Z ya
 |_=>J
def yG:FS:=(vK (zt (Jp (c1 (ud xY "rules_by_verb") aa) ah (cL (uM uI)))))
def vX:=eg 2 2 yG
def xE:Nat->Option (List D->Option D):=λc=>match c with
 |14=>Z vX
 |_=>J
abbrev jX:=(cS "mark")
abbrev i4:=(cS "at")
abbrev qL:=(ax (c1 (ud vR "kept_things") aa) (a1 (c1 (ud zv "kept_marks") aa)))
def Dh:FS:=(bt (uD 1 (cL (ui 1 [] (iL (c1 (ud vR "kept_things") aa)) (gN 0) (cT (c2 (eo γ) (c1 (ud uL "kind") aa) dy)) (uO (ax i4 mE)))))
 (bt (uD 2 (cL (ui 1 [] (iL (cL (vb wZ qL))) (gN 0) u6 (uO (ax jX bG)))))
 (vK (EY (cL (xT ah ak))))))
def wB:=eg 1 3 Dh
def vv:Nat->Option (List D->Option D):=λc=>match c with
 |14=>Z wB
 |_=>J
def Es:FS:=(bt (Hk 1)
 (bt (xx (iL (uo y6 "own_marks" aa uI)) (gN 2) (yd 1 (c1 (ud uw "name") ak) (c1 (ud vC "start") ak)))
 (ue (T3 1))))
def Bk:=eg 1 3 Es
def Di:FS:=(bt (fc (cT (c2 (eo δ) (c2 eh ak aE) i4)) (ue (c1 (ud vC "start") (uo uz "thing_of" aa (a1 (c2 eh ak aU))))) uk)
 (ue (Jp ah (c2 eh ak aU) aE)))
def xk:=eg 3 3 Di
abbrev rq:=(ax aa (a1 (tY xk j8)))
def Dj:FS:=(bt (uD 1 (tY Bk bG))
 (ue (xi (cL (ui 1 [0,1] (iL (uo vv "parts" aa uI)) (gN 0) u6 (uO rq))))))
def uU:=eg 1 2 Dj
def HR:FS:=(bt (xx (iT aa) (gN 2) (fc (cT (c2 (eo δ) (c2 eh ak aE) ah)) (ue (c2 eh ak aU)) uk))
 (ue aG))
def Bl:=eg 2 3 HR
abbrev rj:=(a1 (uO (ax i4 bu)))
def Oh:FS:=(ue (tY Bl (ax aa rj)))
def yw:=eg 2 2 Oh
abbrev ro:=(a1 (uO (ax jX bu)))
def JM:FS:=(ue (tY Bl (ax aa ro)))
def xN:=eg 2 2 JM
def F0:FS:=(ue (xi (cL (ui 1 [1,2] (iT aa) (gN 0) u6 (xr (cT (c2 (eo δ) (c2 eh aa aE) ah)) (uO cA) aa)))))
def z7:=eg 3 3 F0
abbrev kc:=(ax ah eZ)
def Et:FS:=(bt (xG 3 (uM uI))
 (bt (uD 4 (tY yw cA))
 (bt (whL (cT (c2 v5 az aG)) (bt (uH (yc 3 az))
 (uD 4 (tY yw kc))) 50)
 (vK (G6 3)))))
def w5:=yr 3 5 Et
abbrev q8:=(a1 (uo zj "you" aa uI))
def JN:FS:=(ue (tY yw (ax ah q8)))
def zk:=eg 2 2 JN
def We:FS:=(ue (c2 (pk δ) (uo zj "you" aa uI) (cL (vb w5 fK))))
def Sg:=eg 3 3 We
def JO:FS:=(ue (u9 (c2 (eo δ) (c1 (ud uL "kind") (uo uz "thing_of" aa cn)) eD) (c2 (eo δ) (tY xN cA) aE)))
def yi:=eg 3 3 JO
abbrev mH:=(ax aa kc)
def JP:FS:=(bt (xx (iL (cL (vb w5 fK))) (gN 4) (bt (fc (cT (c2 (eo δ) az aw)) (ue c7) uk)
 (fc (cT (tY yi mH)) (ue bJ) uk)))
 (ue bJ))
def yj:=eg 4 5 JP
abbrev gw:=(ax ah (ax ak (a1 aw)))
def HS:FS:=(ue (u9 (c2 (eo δ) (tY xN cA) aU) (tY yj (ax aa gw))))
def zK:=eg 4 4 HS
abbrev qY:=(ax ah (ax ak (ax aa ig)))
def LP:FS:=(bt (uD 2 (tY zk cp))
 (bt (fc (vF (cT (uo yu "is_dark" aa cn))) (ue c7) uk)
 (ue (c1 Gi (cL (ui 1 [0,1,2] (iL (uo xj "of_kind" aa hJ)) (gN 0) u6 (tY zK qY)))))))
def Eu:=eg 2 3 LP
abbrev qO:=(ax aa (ax ah (ax ak q8)))
abbrev rp:=(ax aa (ax ah (ax ak (a1 (tY zk cp)))))
def JQ:FS:=(bt (uD 3 (uo uz "thing_of" aa cn))
 (bt (fc (xg (cT (c2 yO aw aG)) (vF (cT (uo u5 "is_plainly" aw uI)))) (ue bJ) uk)
 (bt (fc (cT (tY yj qO)) (ue c7) uk)
 (ue (u9 (tY yj rp) (tY Eu cp))))))
def wC:=eg 3 4 JQ
def F1:FS:=(bt (uD 2 (xr (cT (c2 yO ah aG)) aG (uo vd "verb_of" aa ib)))
 (ue (u9 (c2 v5 ak aG) (c2 (eo δ) (c1 (ud yD "form") ak) ia))))
def yH:=eg 2 3 F1
abbrev qS:=(ax (c2 eh ah aU) (a1 (c2 eh ah bT)))
def F2:FS:=(bt (fc (xg (cT (c2 yO ah aG)) (cT (tY yH cp))) (ue (uO (ax aG (a1 aG)))) uk)
 (ue (uO qS)))
def vw:=eg 2 2 F2
def Oi:FS:=(bt (fc (cT (c2 (eo δ) aw (cS "here"))) (ue (tY zk cp)) uk)
 (bt (fc (cT (c2 (eo δ) aw cy)) (ue (c2 eh (tY vw cQ) aE)) uk)
 (bt (fc (cT (c2 (eo δ) aw hG)) (ue (c2 eh (tY vw cQ) aU)) uk)
 (ue aw))))
def vA:=eg 4 4 Oi
def HU:FS:=(bt (uD 2 (uo uz "thing_of" aa bu))
 (ue (xr (xg (cT (c2 yO ak aG)) (cT (c2 (eo δ) (c1 (ud uL "kind") ak) dy))) (cL (uM uI)) (cL (uM rj)))))
def DJ:=eg 2 3 HU
def Ew:FS:=(ue (xr (cT (c2 yO (uo vM "most_of" aa bu) aG)) (cL (uM uI)) (cL (uM ro))))
def zd:=eg 2 2 Ew
def LQ:FS:=(bt (uD 3 (uo uz "thing_of" aa cn))
 (ue (u9 (c2 (eo γ) (tY DJ cp) (cL (uM uI))) (u9 (c2 v5 aw aG) (u9 (uo vc "can_hold" aw uI) (c2 (eo γ) ak ah))))))
def Ex:=eg 3 4 LQ
def HV:FS:=(ue (u9 (c2 (eo γ) (tY zd cp) (cL (uM uI))) (c2 y8 ak (uo vM "most_of" aa bu))))
def DL:=eg 3 3 HV
abbrev fJ:=(ax ah (ax ak (ax aw (a1 (c1 (ud AK "term") aa)))))
abbrev mw:=(ax ah (ax ak (ax aw (a1 (c1 (ud CD "place") aa)))))
def HW:FS:=(bt (uD 4 (tY vA fJ))
 (bt (uD 5 (tY yw (ax ak eZ)))
 (ue (u9 (c2 v5 bB aG) (c2 (eo δ) bB (tY vA mw))))))
def DM:=eg 4 6 HW
abbrev j9:=(ax ak (a1 (tY vA fJ)))
def F3:FS:=(ue (tY Sg (ax ah j9)))
def F4:=eg 4 4 F3
def Ey:FS:=(ue (tY wC (ax ah j9)))
def EA:=eg 4 4 Ey
def Cp:FS:=(bt (uD 4 (tY xN j9))
 (ue (u9 (c2 v5 az aG) (c2 (eo δ) az (c1 (ud CH "value") aa)))))
def zL:=eg 4 5 Cp
def EB:FS:=(bt (uD 4 (uo uz "thing_of" ah (a1 (tY vA fJ))))
 (ue (u9 (c2 v5 az aG) (c2 (eo δ) (c1 (ud uL "kind") az) (c1 (ud uL "kind") aa)))))
def EC:=eg 4 5 EB
def ED:FS:=(ue (u9 (tY yH (ax ah ig)) (c2 (eo δ) (c2 eh aw aU) (c1 (ud HE "word") aa))))
def EE:=eg 4 4 ED
def F5:FS:=(ue (tY Eu cA))
def F6:=eg 4 4 F5
def yI(g:Nat->Option (List D->Option D)):FS:=(ue (Gg (uo g "holds" (c1 (ud E1 "inner") aa) gw)))
def w6(g:Nat->Option (List D->Option D)):FS:=(ue (u9 (uo g "holds" (c1 (ud GA "one") aa) gw) (uo g "holds" (c1 (ud CC "other") aa) gw)))
def Bm:Nat->Option (List D->Option D):=λc=>match c with
 |3=>Z DM
 |4=>Z F4
 |5=>Z EA
 |6=>Z zL
 |7=>Z EC
 |8=>Z EE
 |15=>Z F6
 |_=>J
def uC:Nat->Nat->Option (List D->Option D)
 |0=>Bm
 |n+1=>λc=>match c with
  |9=>Z (eg 4 4 (yI (uC n)))
  |10=>Z (eg 4 4 (w6 (uC n)))
  |c=>Bm c
abbrev j1:=(ax ah (ax ak (a1 bB)))
abbrev mB:=(a1 bB)
abbrev ra:=(ax ah (ax az mB))
def F7:FS:=(bt (uD 4 (tY vA fJ))
 (bt (uD 5 (tY vA mw))
 (bt (fc (xg (vF (cT (tY Ex ra))) (cT (c2 (pk δ) az (cL (vb w5 j1))))) (ue aG) uk)
 (ue (tY z7 (ax ak (ax (uO (ax i4 eZ)) mB)))))))
def z8:=eg 4 6 F7
abbrev mC:=(a1 (c1 (ud CH "value") aa))
def HX:FS:=(bt (uD 4 (tY vA fJ))
 (bt (fc (vF (cT (tY DL (ax ah (ax az mC))))) (ue aG) uk)
 (ue (tY z7 (ax ak (ax (uO (ax jX eZ)) mC))))))
def DN:=eg 4 5 HX
def yk:Nat->Option (List D->Option D):=λc=>match c with
 |11=>Z z8
 |12=>Z DN
 |_=>J
def F8:FS:=(bt (uD 2 (xr (cT (c1 (u7 (vG "str")) ah)) (uo uz "thing_of" aa bu) aG))
 (ue (u9 (c2 v5 ak aG) (uo u5 "is_plainly" ak uI))))
def xO:=eg 2 3 F8
def F9:FS:=(bt (fc (cT (c2 (eo δ) ah hZ)) (ue (u9 (tY xO cQ) (tY xO (ax aa ig)))) uk)
 (bt (fc (cT (c2 v5 aw aG)) (ue bJ) uk)
 (bt (fc (cT (c2 (eo δ) ah ia)) (ue (u9 (c1 (u7 (vG "str")) ak) (c2 (pk δ) ak (uo wy "way_words" aa uI)))) uk)
 (ue (xr (cT (c2 (eo δ) ah (cS "alone"))) (c2 yO ak aG) (tY xO cQ))))))
def Cq:=eg 4 4 F9
def EF:FS:=(bt (fc (xg (vF (cT (c1 (u7 (vG "tuple")) ah))) (xg (cT (c2 (eo γ) (c1 xf ah) bq)) (vF (cT (c1 (u7 (vG "str")) (c2 eh ah aE)))))) (ue bJ) uk)
 (bt (uD 2 (uo vd "verb_of" aa ib))
 (ue (u9 (c2 v5 ak aG) (u9 (c2 (eo δ) (c1 (ud uw "name") ak) (c2 eh ah aE)) (tY Cq (ax aa (ax (c1 (ud yD "form") ak) qS))))))))
def Bn:=eg 2 3 EF
def BK:FS:=(fc (vF (cT (tY Bn cp))) UW uk)
def xu:=eg 2 2 BK
def Sh:FS:=(bt (xx (iL (c1 (ud CG "tests") aw)) (gN 4) (fc (vF (cT (uo (uC 3) "holds" az fK))) (ue bJ) uk))
 (ue c7))
def Fd:=eg 4 5 Sh
abbrev qF:=(ax (cS "refused") (a1 (cC FB)))
abbrev qW:=(a1 (c1 (ud Eb "text") aw))
abbrev mG:=(ax az cn)
def JR:FS:=(bt (fc (cT (c1 (ud yE "refuses") aw)) (ue (uO (ax (uO (ax (cS "refused") qW)) bu))) uk)
 (bt (uD 4 ah)
 (bt (xx (iL (c1 (ud AH "deeds") aw)) (gN 5) (bt (uD 4 (uo yk "done" bB (ax aa mG)))
 (fc (cT (c2 yO az aG)) (ue (uO (ax (uO qF) bu))) uk)))
 (ue (uO (ax (uO (ax (cS "told") qW)) eZ))))))
def zl:=eg 4 6 JR
abbrev kh:=(ax aa j1)
abbrev qZ:=(ax (uO (ax (cS "unseen") eZ)) bu)
def HY:FS:=(bt (xx (iT (tY vw cQ)) (gN 4) (fc (wF (cT (c2 v5 az aG)) (cT (c2 (pk γ) az aw))) (ue (uO qZ)) uk))
 (bt (xx (iL (uo xE "rules_to_try" aa (a1 (c2 eh ak aE)))) (gN 5) (fc (cT (tY Fd kh)) (ue (tY zl kh)) uk))
 (ue (uO (ax (uO (ax (cS "refused") (a1 (cC BA)))) bu)))))
def DO:=eg 4 6 HY
def Si:FS:=(bt (uH (tY xu cQ))
 (bt (uD 3 (cL (ui 1 [0,1] (iT (tY vw cQ)) (gN 0) (cT (tY wC j8)) aa)))
 (ue (tY DO (ax aa gw)))))
def Fe:=eg 3 4 Si
def w9:FS:=(bt (fc (cT (c2 (eo δ) ah (cS "alone"))) (vK (uM (a1 (uO (ax aG (a1 aG)))))) uk)
 (bt (fc (cT (c2 (eo δ) ah ia)) (vK (ui 1 [] (iL (uo wy "way_words" aa uI)) (gN 0) u6 (uO (ax aa (a1 aG))))) uk)
 (bt (uD 2 (cL (ui 1 [0] (iL (uo xM "names" aa uI)) (gN 0) (cT (uo u5 "is_plainly" (uo uz "thing_of" ah bG) uI)) aa)))
 (bt (fc (cT (c2 (eo δ) ah (cS "one"))) (vK (ui 1 [] (iL ak) (gN 0) u6 (uO (ax aa (a1 aG))))) uk)
 (bt (xG 3 (uM uI))
 (bt (xx (iL ak) (gN 4) (uH (G4 3 (ui 1 [4] (iL ak) (gN 0) u6 (uO fg)))))
 (vK (G6 3))))))))
def wt:=yr 2 5 w9
abbrev gu:=(Do (gN 0) (Do (gN 1) NJ))
abbrev j4:=(ax aa (a1 (c1 (ud yD "form") ak)))
abbrev kj:=(ax (c1 (ud uw "name") ak) cp)
def DP:FS:=(bt (xG 1 (uM uI))
 (bt (xx (iL (uo wx "all_verbs" aa uI)) (gN 2) (uH (G4 1 (ui 2 [2] (iL (cL (vb wt j4))) (gT gu 2) u6 (uO kj)))))
 (vK (G6 1))))
def Bo:=yr 1 3 DP
def Sj:FS:=(ue (xi (cL (ui 1 [1] (iT aa) (gN 0) (cT (c2 E' (c2 eh aa aE) ah)) aa))))
def Cr:=eg 2 2 Sj
abbrev qU:=(ax aa (a1 (c2 Rm ah aa)))
def LR:FS:=(bt (P? 2 (tY uU bG) 1)
 (ue (xi (cL (ui 1 [2] (iL (uo vv "parts" aa uI)) (gN 0) u6 (uO qU))))))
def vN:=eg 2 3 LR
def Cs:FS:=(bt (fc (cT (c2 MG ah (c1 xf aa))) (ue (c2 eh aa ah)) uk)
 (ue aE))
def uX:=eg 2 2 Cs
abbrev hX:=(cC (.int 720))
abbrev jV:=(cC (.int 2147483647))
abbrev jY:=(cC (.int 10))
def ze:FS:=(bt (xG 2 (uM uI))
 (bt (fc (cT (c2 UQ aa (c2 NP jY (cC (.int 18))))) (bt (xx (xm ah) (gN 3) (bt (uH (yc 2 (c2 uJ aa hX)))
 (uD 0 (c2 vp aa hX))))
 (vK (G6 2))) uk)
 (bt (xx (xm ah) (gN 3) (bt (uD 4 (c2 uJ (c2 yA (c2 vL (c2 vL aa (c2 yA (cC (.int 7919)) aw)) aU) (cC (.int 48271))) jV))
 (bt (uD 4 (c2 uJ (c2 yA az (c2 vL (c2 vp az (cC (.int 1009))) (cC (.int 69621)))) jV))
 (uH (yc 2 (c2 uJ (c2 uJ (c2 yA az (c2 vL (c2 vp az (cC (.int 2003))) (cC (.int 40692)))) (cC (.int 2147483399))) hX))))))
 (vK (G6 2)))))
def Bp:=yr 2 5 ze
abbrev cm:=(cC (.int 6))
abbrev qC:=(ax (cS "plain") (ax (cS "box") (ax (cS "lamp") (ax (cS "fixed") (ax (cS "plain") (a1 (cS "box")))))))
abbrev cz:=(cV 8)
abbrev hU:=(cC (.int 8))
abbrev qE:=(ax (cS "hall") (ax (cS "attic") (a1 (cS "cellar"))))
abbrev i3:=(cS "self")
abbrev qJ:=(ax (c2 eh (c2 eh az bB) aE) (ax (c2 eh (c2 eh az bB) aU) (ax bH (a1 cz))))
abbrev qN:=(ax (c2 eh ah aa) (ax (uO (ax (cS "big") i7)) i7))
abbrev qQ:=(ax aU (ax bT (ax bq (ax hU (a1 (cC (.int 9)))))))
def Aq:FS:=(bt (uD 1 (cL (Kn (cL (uM qE)) oNo (oAt (c2 vL aU (c2 uJ (c2 eh aa aE) bq))))))
 (bt (xG 2 (ui 1 [1] (xm (c1 xf ah)) (gN 0) u6 (uF 0 (λa=>wj (a++[D.I])) qN)))
 (bt (xG 3 (xT ah (cL (uM (a1 i3)))))
 (bt (uH (yc 2 (uF 0 (λa=>wj (a++[])) (ax i3 (ax (uO (a1 i3)) (ax i5 (a1 (c2 eh ah (c2 uJ (c2 vp (c2 eh aa aE) bT) (c1 xf ah))))))))))
 (bt (uD 4 (cL (uM (ax (uO (ax (cS "pin") (a1 (uO (ax (cS "red") (a1 (cS "key"))))))) (ax (uO (ax (cS "crate") (a1 (uO (ax (cS "oak") (a1 (cS "key"))))))) (a1 (uO (ax (cS "lantern") (a1 (uO (ax (cS "tin") hJ)))))))))))
 (bt (uD 4 (cL (xT az (cL (uM (ax (uO (ax (cS "urn") (a1 (uO (ax (cS "grey") (a1 (cS "stone"))))))) (a1 (uO (ax (cS "o") (a1 (uO (ax (cS "wet") (a1 (cS "stone"))))))))))))))
 (bt (xx (xm (c2 uJ (c2 vp (c2 eh aa aE) cm) cm)) (gN 5) (bt (uD 6 (c2 eh aa (c2 eh (cL (uM qQ)) bB)))
 (bt (uD 7 (c2 eh (cL (uM qC)) (c2 uJ br cm)))
 (bt (uD 8 (MI (c2 eh aw (c2 uJ (c2 vp br cm) (c1 xf aw)))))
 (bt (uH (yc 2 (uF 0 (λa=>wj (a++[])) qJ)))
 (fc (cT (c2 (eo δ) bH eD)) (uH (yc 3 (c2 eh (c2 eh az bB) aE))) uk))))))
 (vK (G6 2)))))))))
def Ar:=eg 1 9 Aq
abbrev qD:=(ax (cS "rub") (ax ik (ax il (a1 (cS "tie")))))
abbrev iZ:=(cS "tie")
def Ct:FS:=(bt (fc (wF (cT (c2 (pk δ) ah (uO qD))) (cT (c2 (eo δ) (c2 uJ ak bq) aE))) (ue cy) uk)
 (bt (fc (wF (cT (c2 (eo δ) ah iZ)) (cT (c2 (eo δ) (c2 uJ ak bq) aU))) (ue hG) uk)
 (ue (c2 eh aa (c2 uJ (c2 vp ak bq) (c1 xf aa))))))
def yJ:=eg 3 3 Ct
abbrev dw:=(cC (.int 7))
abbrev gv:=(cC (.int 5))
abbrev jZ:=(ax (c2 eh ak (c2 uJ (c2 vp az dw) (c1 xf ak))) (a1 (c2 uJ bB bT)))
abbrev qT:=(a1 (c2 uJ (c2 vp bB bq) bT))
abbrev rg:=(ax aa (ax aw mB))
def z9:FS:=(bt (uD 6 (c2 uJ az dw))
 (bt (uD 7 (tY yJ rg))
 (bt (fc (wF (cT (c2 (eo δ) aw (cS "peer"))) (cT (c2 IM br bq))) (ue (uF 8 (λa=>Cb (a++[])) (a1 (c2 eh (cL (uM (ax (cS "north") (a1 (cS "south"))))) (c2 uJ (c2 vp az dw) bT))))) uk)
 (bt (fc (wF (cT (c2 (pk δ) bH (uO ic))) (cT (c2 IM br eC))) (ue (uF 6 (λa=>uZ (a++[])) (ax bH qT))) uk)
 (bt (fc (cT (c2 (eo δ) br aE)) (ue (uF 3 (λa=>CJ (a++[])) (ax bH (a1 (c2 eh ah (c2 uJ (c2 vp az dw) (c1 xf ah))))))) uk)
 (bt (fc (cT (c2 (eo δ) br aU)) (ue (uF 4 (λa=>yf (a++[])) (a1 bH))) uk)
 (bt (fc (cT (c2 (eo δ) br bT)) (ue (uF 5 (λa=>FI (a++[])) (a1 bH))) uk)
 (bt (fc (cT (c2 (eo δ) br bq)) (ue (Zv 15)) uk)
 (bt (fc (cT (c2 (eo δ) br eC)) (ue (uF 9 (λa=>vY (a++[])) (a1 (uF 6 (λa=>uZ (a++[])) jZ)))) uk)
 (bt (fc (cT (c2 (eo δ) br gv)) (ue (uF 10 (λa=>FM (a++[])) (ax (uF 6 (λa=>uZ (a++[])) jZ) (a1 (uF 9 (λa=>vY (a++[])) (a1 (uF 4 (λa=>yf (a++[])) (a1 bH)))))))) uk)
 (ue (uF 6 (λa=>uZ (a++[])) jZ))))))))))))
def Aa:=eg 6 8 z9
def Ab:FS:=(bt (uD 6 (tY yJ rg))
 (bt (fc (wF (cT (c2 (eo δ) aw iZ)) (cT (c2 (eo δ) (c2 uJ az eC) aE))) (ue (uF 11 (λa=>wQ (a++[])) ic)) uk)
 (bt (fc (wF (cT (c2 (eo δ) (c2 uJ az bT) aE)) (cT (c2 (eo γ) br i3))) (ue (uF 11 (λa=>wQ (a++[])) (ax br (a1 (c2 eh (cL (xT ah (cL (uM (a1 (cS "here")))))) (c2 uJ (c2 vp az bT) (c2 vL (c1 xf ah) aU))))))) uk)
 (bt (fc (cT (c2 (pk δ) br (uO ic))) (ue (uF 12 (λa=>xB (a++[])) (ax br qT))) uk)
 (ue (uF 12 (λa=>xB (a++[])) (ax (c2 eh ak (c2 uJ (c2 vp az bT) (c1 xf ak))) (a1 (c2 uJ bB bT)))))))))
def Ac:=eg 6 7 Ab
abbrev qB:=(ax (cS "pray") (ax (cS "rub") (ax (cS "pray") (ax (cS "wait") (ax ik (ax il (ax (cS "peer") (a1 (cS "tie")))))))))
abbrev tT:=(ax (cS "Aye.") (ax (cS "So.") (a1 (cS "Hm."))))
abbrev qG:=(ax ah (ax ak (ax aw (ax az (ax (c2 eh bB (c2 vL aU aa)) (a1 (c2 eh bB (c2 vL bT aa))))))))
abbrev qH:=(ax ah (ax ak (ax aw (ax az (ax (c2 eh bB (c2 vL bq aa)) (a1 (c2 eh bB (c2 vL eC aa))))))))
abbrev qI:=(ax (cV 9) (ax (cV 10) (ax (cV 11) (ax (c2 eh (cL (uM tT)) (c2 uJ (c2 eh cz gv) bq)) (a1 (cV 12))))))
def Bq:FS:=(bt (uD 3 (cL (ui 1 [] (iL aa) (gN 0) (cT (c2 (eo γ) (c1 (ud uL "kind") aa) dy)) (c1 (ud uw "name") aa))))
 (bt (uD 4 (cL (ui 1 [] (iL aa) (gN 0) (cT (c2 (pk δ) (c1 (ud uL "kind") aa) (uO (ax dy (ax eD (a1 i5)))))) (c1 (ud uw "name") aa))))
 (bt (uD 5 (cL (xT ah (cL (ui 1 [] (iL aa) (gN 0) (cT (c2 (pk δ) (c1 (ud uL "kind") aa) (uO (ax eD hJ)))) (c1 (ud uw "name") aa))))))
 (bt (xG 6 (uM uI))
 (bt (xx (xm (c2 uJ (c2 eh ak eC) gv)) (gN 7) (bt (uD 8 (cL (Kn ak (oAt (c2 vL jY (c2 yA cm bH))) (oAt (c2 vL (cC (.int 16)) (c2 yA cm bH))))))
 (bt (uD 9 (c2 eh (cL (uM qB)) (c2 uJ (c2 eh cz aE) hU)))
 (bt (uD 10 (cL (ui 1 [3,4,5,9,8] (xm (c2 uJ (c2 vp (c2 eh cz aE) hU) bq)) (gN 0) u6 (tY Aa qG))))
 (bt (uD 11 (cL (ui 1 [3,4,5,9,8] (xm (c2 uJ (c2 vp (c2 eh cz aE) (cC (.int 24))) bq)) (gN 0) u6 (tY Ac qH))))
 (bt (uD 12 (c2 (eo δ) (c2 uJ (c2 vp (c2 eh cz aE) (cC (.int 72))) gv) eC))
 (bt (fc (cT (cV 12)) (uD 11 (cL (uM uI))) uk)
 (uH (yc 6 (uF 13 (λa=>wR (a++[])) qI))))))))))
 (vK (G6 6)))))))
def Br:=eg 3 13 Bq
def Bs:FS:=(bt (uD 1 (cL (vb Bp (ax aa (a1 (cC (.int 40)))))))
 (bt (uD 2 (tY Ar bu))
 (bt (uD 3 (cL (ui 1 [] (iL ak) (gN 0) (cT (c2 (eo δ) (c1 (ud uL "kind") aa) dy)) (c1 (ud uw "name") aa))))
 (bt (uD 4 (cL (uM (ax (uF 1 (λa=>B9 (a++[])) (ax (cS "tide") (ax aE (a1 (c2 vL aU (c2 uJ (c2 eh ah gv) bq)))))) (a1 (uF 1 (λa=>B9 (a++[])) (ax (cS "sun") (ax (c2 uJ (c2 vp (c2 eh ah gv) bq) bT) qM))))))))
 (bt (uD 5 (cL (ui 1 [3,1] (xm (c1 xf aw)) (gN 0) (cT (c2 (eo δ) (c2 ub (c2 rm (c2 eh ak cm) aa) aU) aU)) (c2 eh ah aa))))
 (bt (xG 6 (uM uI))
 (bt (fc (cT (c2 IM (c2 uJ (c2 eh ah dw) bq) aE)) (uH (yc 6 (uO (ax (c2 eh aw aE) (ax (cS "north") (ax (c2 eh aw (c1 Jv aU)) (a1 (c2 eh (cL (uM (ax aG (a1 (cS "sun"))))) (c2 uJ (c2 vp (c2 eh ah dw) bq) bT))))))))) uk)
 (bt (fc (cT (c2 IM (c2 uJ (c2 vp (c2 eh ah dw) cm) bq) aE)) (uH (yc 6 (uO (ax (c2 eh aw (c1 Jv aU)) (ax (cS "south") (ax (c2 eh aw aE) (a1 (c2 eh (cL (uM (ax aG (a1 (cS "tide"))))) (c2 uJ (c2 vp (c2 eh ah dw) (cC (.int 18))) bT))))))))) uk)
 (bt (uD 7 (cL (uM (ax (uF 2 (λa=>vH (a++[D.I])) (ax (cS "pray") (ax (uO (a1 (cS "beg"))) (a1 (cS "alone"))))) (a1 (uF 2 (λa=>vH (a++[D.I,(D.str "one"),D.I])) (a1 (cS "rub"))))))))
 (bt (uD 7 (cL (xT bH (cL (uM (ax (uF 2 (λa=>vH (a++[D.I])) (ax (cS "peer") (ax (uO (a1 (cS "gaze"))) (a1 ia)))) (a1 (uF 2 (λa=>vH (a++[])) (ax iZ (ax (uO uI) (ax hZ (a1 (cS "with")))))))))))))
 (ue (uF 14 (λa=>x9 (a++[])) (ax ak (ax az (ax bB (ax (T3 6) (ax bH (a1 (tY Br (ax ak (ax (cL (uM (ax (cS "tide") (a1 (cS "sun"))))) bu)))))))))))))))))))))
def Bt:=eg 1 8 Bs
abbrev jU:=(Do (gN 8) (Do (gN 9) NJ))
abbrev tU:=(a1 (cL (uM uI)))
abbrev mq:=(ax ah (a1 (tY Cr (ax aw (a1 (uo vv "parts" ah uI))))))
abbrev j3:=(ax cz (a1 (tj (zE br) cz (cV 9))))
abbrev ie:=(ax aw (a1 aU))
abbrev my:=(ax ah (a1 (tY Cr (ax aw tU))))
abbrev qP:=(ax ah (ax aw (a1 (c2 eh ak (c2 uJ az (c1 xf ak))))))
abbrev j7:=(ax ah (a1 br))
abbrev qX:=(ax aw (a1 (cL (zt bB))))
def Oj:FS:=(bt (uD 1 (tY Bt (a1 (tY uX (ax aa (a1 aE))))))
 (bt (uD 2 (cL (vb Bo bu)))
 (bt (uD 3 (tY uU bu))
 (bt (xx (iL (cL (cSl aa (Z 2) (Z 22)))) (gN 4) (bt (uD 3 (c2 eh (tY Fe qP) aU))
 (bt (uD 5 (cL (ui 2 [4,0] (iE (uo vv "parts" ah uI)) (gT gu 2) (cT (c2 (eo δ) (c2 ub (c2 rm (c2 vL (tY uX ie) ak) aa) aU) aU)) ah)))
 (bt (uD 6 (tY Cr qX))
 (bt (fc (cT (c2 (eo γ) br (xi (cL (ui 1 [5] (iT aw) (gN 0) (cT (c2 E' (c2 eh aa aE) ah)) aa))))) (ue bJ) uk)
 (bt (xG 7 (uM uI))
 (bt (xx (iT (tY uU bu)) (gT jU 2) (uH (yc 7 (uO j3))))
 (bt (fc (He (cT (c2 (eo γ) (tY vN j7) (xi bH)))) (ue bJ) uk)
 (fc (xg (cT (c2 (eo γ) (tY vN mq) aw)) (cT (c2 (eo γ) (tY vN my) (tY uU bu)))) (ue bJ) uk)))))))))
 (ue c7)))))
def Wf:=eg 1 10 Oj
section
variable{k:Nat}{d4:List Nat}{g:FG}{ft:FT}{fe e:FE}{s:FA}{ρ ρ1 ρ2:aP}{α:Type}
def wu{m:L4.D}(h:e ρ=Z (.O γ,ρ1)):uH (tY um (ax e (ax (cC m) uI))) ρ=Z (.nx ρ1):=ve (tW (tV h (tV O O)) O)
def xl(c h:α->L4.D)(l:List α)(f:s ρ=Z (l.map c,ρ1))(d:l.length<=1000)(st:∀a∈l,∃ρ2 b,g (c a) (Du k d4 ρ1)=Z ρ2/\fe ρ2=Z (h a,b)/\xH d4 (b.drop k) ρ1=Z ρ1):
  ui k d4 s g u6 fe ρ=Z (l.map h,ρ1):=(NV f (by rw[aq];exact d)).t (Vj c h l st)
def xF(d h:α->L4.D)(p:α->Bool)(l:List α)(i:s ρ=Z (l.map d,ρ1))(f:l.length<=1000)
  (st:∀a∈l,∃ρ2 b,g (d a) (Du k d4 ρ1)=Z ρ2/\ft ρ2=Z (p a,b)/\(p a=γ->∃c,fe b=Z (h a,c)/\xH d4 (c.drop k) ρ1=Z ρ1)/\(p a=δ->xH d4 (b.drop k) ρ1=Z ρ1)):
  ui k d4 s g ft fe ρ=Z ((l.filter p).map h,ρ1):=(NV i (by rw[aq];exact f)).t (Hv d p h l st)
def ym(c:α->L4.D)(l:List α)(f:s ρ=Z (l.map c,ρ1))(d:l.length<=1000)(st:∀a∈l,∃ρ2 b,g (c a) (Du k d4 ρ1)=Z ρ2/\fe ρ2=Z (.O γ,b)/\xH d4 (b.drop k) ρ1=Z ρ1):
  c1 yP (cL (ui k d4 s g u6 fe)) ρ=Z (.O γ,ρ1):=
 uQ (vm (xl c (λ_=>.O γ) l f d st)) ((Vl l λ_=>γ).t (by rw[ba.2 λ_ _=>O]))
def Sk(c:α->L4.D)(l:List α)(f:s ρ=Z (l.map c,ρ1))(d:l.length<=1000)(st:∀a∈l,∃ρ2 b,g (c a) (Du k d4 ρ1)=Z ρ2/\fe ρ2=Z (.O δ,b)/\xH d4 (b.drop k) ρ1=Z ρ1):
  c1 Gi (cL (ui k d4 s g u6 fe)) ρ=Z (.O δ,ρ1):=
 uQ (vm (xl c (λ_=>.O δ) l f d st)) ((N8 l λ_=>δ).t (by rw[ou.2 λ_ _=>bx]))
end
inductive Kd where
 |room|you|plain|fixed|box|lamp
deriving DecidableEq
def Kd.s:Kd->Str
 |.room=>"room" |.you=>"you" |.plain=>"plain" |.fixed=>"fixed" |.box=>"box" |.lamp=>"lamp"
def Kd.pl:Kd->Bool
 |.room=>δ|.you=>δ|_=>γ
def Kd.hd:Kd->Bool
 |.room=>γ|.you=>γ|.box=>γ|_=>δ
def Kd.mk:Kd->Bool
 |.box=>γ|.lamp=>γ|_=>δ
structure Th where
 n:Str
 w:aH
 k:Kd
 s:Option Str
def oS:Option Str->L4.D
 |none=>.I
 |some x=>.str x
def d?(t:Th):L4.D:=.obj 0 ["name", "words", "kind", "start"] [.str t.n,.c3 (t.w.map D.str),.str t.k.s,oS t.s]
def As(t:Th):ud uw "name" (d? t)=Z (.str t.n):=rfl
def KB(t:Th):ud wz "words" (d? t)=Z (.c3 (t.w.map D.str)):=rfl
def zM(t:Th):ud uL "kind" (d? t)=Z (.str t.k.s):=rfl
def GE(t:Th):ud vC "start" (d? t)=Z (oS t.s):=rfl
def Ga(a b:Kd):eo δ (.str a.s) (.str b.s)=Z (.O (decide (a=b))):=by cases a<;>cases b<;>kernel_rfl
def KC(t:Th):yg [d? t]=Z (.O t.k.hd):=by obtain⟨n,w,k,s⟩:=t;cases k<;>kernel_rfl
def Ol(t:Th):AN [d? t]=Z (.O t.k.mk):=by obtain⟨n,w,k,s⟩:=t;cases k<;>kernel_rfl
def EG(t:Th):xC [d? t]=Z (.O t.k.pl):=by obtain⟨n,w,k,s⟩:=t;cases k<;>kernel_rfl
def Vt(t:Th):uW [.str t.k.s,GB]=Z (.O γ):=by obtain⟨n,w,k,s⟩:=t;cases k<;>kernel_rfl
abbrev TD(T:List Th):L4.D:=.b3 (T.map d?)
def T?(T:List Th)(a:T.length<=1000)(k:Kd):Bc [TD T,.str k.s]=Z (.int (T.filter λt=>decide (t.k=k)).length):=by refine uc (ρ:=[.E (TD T),.E (.str k.s)]) O ?_;refine uf (uQ (vm (xF d? d? (λt=>decide (t.k=k)) T (ρ1:=[.E (TD T),.E (.str k.s)]) O a λt _=>⟨[.E (d? t),.E (.str k.s)],[.E (d? t),.E (.str k.s)],O,u4 (ua (uQ O (zM t)) O (Ga t.k k)),λ_=>⟨_,O,O⟩,λ_=>O⟩)) ?_);show Z (D.int _)=_;rw[aq]
def Au(T:List Th)(a:T.length<=1000):wY [TD T]=Z ((T.filter λt=>t.k.pl).map d?):=by refine yR (ρ:=[.E (TD T)]) O ?_;exact xn (xF d? d? (λt=>t.k.pl) T (ρ1:=[.E (TD T)]) O a λt _=>⟨[.E (d? t)],[.E (d? t)],O,u4 (uA (xs:=[.str t.n,.c3 (t.w.map D.str),.str t.k.s,oS t.s]) (ys:=[]) O O O O (EG t)),λ_=>⟨_,O,O⟩,λ_=>O⟩)
def HZ{a b c:FE}{ρ:aP}{x y z:Int}(f:a ρ=Z (.int x,ρ))(h:b ρ=Z (.int y,ρ))(i:c ρ=Z (.int z,ρ))(j:x<=y)(l:y<=z):xy y8 y8 a b c ρ=Z (.O γ,ρ):=by
 unfold xy;rw[f];simp only[h];have d:y8 (.int x) (.int y)=Z (.O γ):=by show Z (D.O (decide (x<=y)))=_;rw[bf j]
 have e:y8 (.int y) (.int z)=Z (.O γ):=by show Z (D.O (decide (y<=z)))=_;rw[bf l]
 simp only[d,i,e]
def Om{a b:FE}{ρ:aP}{x y:Int}(c:a ρ=Z (.int x,ρ))(d:b ρ=Z (.int y,ρ))(e:x<=y):c2 y8 a b ρ=Z (.O γ,ρ):=ua c d (by
 show Z (D.O (decide (x<=y)))=_;rw[bf e])
def Gk(T:List Th)(c:T.length<=1000)(f:1<=(T.filter λt=>decide (t.k=.room)).length)(h:(T.filter λt=>decide (t.k=.room)).length<=5)(e:(T.filter λt=>decide (t.k=.you)).length=1)(i:(T.filter λt=>t.k.pl).length<=7):
  zD [TD T]=Z .I:=by
 let b:aP:=[.E (TD T),.E (.O γ)];refine Ae (ρ:=b) O ?_;unfold zC;rw[tZ (show _=Z (rh.nx b) from(uq ((uv O).t (ym d? T (ρ1:=[.E (TD T),.un]) O c λt _=>⟨_,_,O,O,O⟩))).t O)];rw[tZ (wu (ρ1:=b) O)];rw[tZ (wu (ρ1:=b) (ym d? T O c λt _=>⟨[.E (d? t)],[.E (d? t)],O,tW (tV (uQ O (zM t)) (tV O O)) (Vt t),O⟩))];rw[tZ (wu (ρ1:=b) (HZ (x:=1) (y:=(T.filter λt=>decide (t.k=.room)).length) (z:=5) O (tW (ds:=[TD T,.str Kd.room.s]) O (T? T c .room)) O (by omega) (by omega)))];rw[tZ (wu (ρ1:=b) (ua (ρ1:=b) (x:=.int (T.filter λt=>decide (t.k=.you)).length) (y:=.int 1) (tW (ds:=[TD T,.str Kd.you.s]) O (T? T c .you)) O (by rw[e];rfl)))];refine wu (ρ1:=b) (Om (x:=(T.filter λt=>t.k.pl).length) (y:=7) (uQ (vm (tW O (Au T c))) ?_) O (by omega));show Z (D.int _)=_;rw[aq]
structure Mk where
 n:Str
 st:Int
 mo:Int
def O'(m:Mk):L4.D:=.obj 1 ["name", "start", "most"] [.str m.n,.int m.st,.int m.mo]
def Mk.ok(m:Mk):Prop:=1<=m.mo/\m.mo<=3/\0<=m.st/\m.st<=m.mo
abbrev MD(M:List Mk):L4.D:=.b3 (M.map O')
def KD(m:Mk):ud uw "name" (O' m)=Z (.str m.n):=rfl
def M7(m:Mk)(h:m.ok):E3 [O' m]=Z (.O γ):=by obtain⟨a,b,c,d⟩:=h;refine uc (ρ:=[.E (O' m)]) O ?_;unfold E2;rw[tZ (show _=Z (rh.nx [.E (O' m)]) from O)];exact uf ((uv (HZ (x:=1) (y:=m.mo) (z:=3) O O O a b)).t (HZ (x:=0) (y:=m.st) (z:=m.mo) O O O c d))
def Ia(M:List Mk)(f:M.length<=4)(h:∀m∈M,m.ok):Aj [MD M]=Z .I:=by
 let a:aP:=[.E (MD M),.E (.O γ)];refine Ae (ρ:=a) O ?_;unfold Ai;have c:uY [MD M,za]=Z (.O γ):=by refine uc (ρ:=[.E (MD M),.E (.int 4)]) O ?_;refine uf ((uv O).t (Om (x:=M.length) (y:=4) ?_ O (by omega)));refine uQ O ?_;show Z (D.int _)=_;rw[aq]
 rw[tZ (show _=Z (rh.nx a) from(uq ((uv (tW (ds:=[MD M,za]) O c)).t (ym O' M (ρ1:=[.E (MD M),.un]) O (by omega) λm d=>⟨[.E (O' m)],[.E (O' m)],O,tW O (M7 m (h m d)),O⟩))).t O)];exact wu (ρ1:=a) O
def vu:aH:=["hall", "attic", "cellar"]
def sx:List (Str×aH):=[("pin", ["red", "key"]),("crate", ["oak", "key"]),("lantern", ["tin", "lamp"]),("urn", ["grey", "stone"]),("o", ["wet", "stone"])]
def mkL:aH:=["tide", "sun"]
def nmL:aH:=vu++("self" : Str)::sx.map eB++mkL
def Nm(x:Str):Prop:=x∈nmL
def isT:Option L4.D->Bool
 |some (.O b)=>b
 |_=>δ
def Cu{o:Option L4.D}(h:isT o=γ):o=Z (.O γ):=by
 unfold isT at h;split at h
 .rw[h]
 .cases h
def isF:Option L4.D->Bool
 |some (.O b)=>!b
 |_=>δ
def M8{o:Option L4.D}(h:isF o=γ):o=Z (.O δ):=by
 unfold isF at h;split at h
 .rw[eJ]at h;rw[h]
 .cases h
def M9{x:Str}(h:Nm x):wW [.str x]=Z (.O γ):=Cu (ba.1 (show (nmL.all λx=>isT (wW [.str x]))=γ by kernel_rfl) x h)
def DQ{l:aH}(h:l.Nodup)(a:l.length<=1000):wm [.b3 (l.map D.str)]=Z (.O γ):=by
 refine uc (ρ:=[.E (.b3 (l.map D.str))]) O ?_;refine uf (ua (x:=.int l.length) (y:=.int l.length) (uQ O (Va (LI h a))) (uQ O ?_) ?_)
 .show Z (D.int _)=_;rw[aq]
 .rw[y9];simp
def Ib(T:List Th)(M:List Mk)(hT:T.length<=400)(hM:M.length<=400)(j:∀x∈T.map Th.n++M.map Mk.n,Nm x)(m:(T.map Th.n++M.map Mk.n).Nodup):Al [TD T,MD M]=Z .I:=by
 have d:(T.map Th.n++M.map Mk.n).length<=1000:=by rw[aR,aq,aq];omega
 let a:aP:=[.E (TD T),.E (MD M),.un];let b:aP:=[.E (TD T),.E (MD M),.E (.b3 ((T.map Th.n++M.map Mk.n).map D.str))];refine Ae (ρ:=b) O ?_;unfold Ak;have e:ui 1 [] (iL aa) (gN 0) u6 (c1 (ud uw "name") aa) a=Z (T.map λt=>D.str t.n,a):=xl d? (λt=>D.str t.n) T O (by omega) λt _=>⟨_,_,O,uQ O (As t),O⟩;have f:ui 1 [] (iL ah) (gN 0) u6 (c1 (ud uw "name") aa) a=Z (M.map λt=>D.str t.n,a):=xl O' (λt=>D.str t.n) M O (by omega) λt _=>⟨_,_,O,uQ O (KD t),O⟩;have h:=uq (i:=2) (vm (xU (vm e) (vm f) (by rw[aq,aq];omega)));refine(tZ (ρ':=b) (h.t (by
  have:(T.map λt=>D.str t.n)++(M.map λt=>D.str t.n)=(T.map Th.n++M.map Mk.n).map D.str:=by rw[bK,aV,aV];rfl
  rw[this];rfl))).t ?_
 rw[tZ (wu (ρ1:=b) (ym D.str (T.map Th.n++M.map Mk.n) O d λx l=>⟨_,_,O,tW O (M9 (j x l)),O⟩))];exact wu (ρ1:=b) (tW O (DQ m d))
def w?(T:List Th):aH:=(T.filter λt=>decide (t.k=.room)).map Th.n
def pw(T:List Th):aH:=(T.filter λt=>t.k.hd).map Th.n
abbrev jW:=(cC (.str "room"))
def Ie{ρ:aP}(T:List Th)(b:T.length<=1000){i:Nat}(a:cV i ρ=Z (TD T,ρ)):ui 1 [] (iL (cV i)) (gN 0) (cT (c2 (eo δ) (c1 (ud uL "kind") aa) jW)) (c1 (ud uw "name") aa) ρ=Z ((w? T).map D.str,ρ):=by
 have c:iL (cV i) ρ=Z (T.map d?,ρ):=by unfold iL;rw[a]
 have:=xF (k:=1) (d4:=[]) (g:=gN 0) (ft:=cT (c2 (eo δ) (c1 (ud uL "kind") aa) jW)) (fe:=c1 (ud uw "name") aa) d? (λt=>D.str t.n) (λt=>decide (t.k=.room)) T c b λt _=>⟨[.E (d? t)],[.E (d? t)],O,u4 (ua (uQ O (zM t)) O (Ga t.k .room)),λ_=>⟨_,uQ O (As t),O⟩,λ_=>O⟩
 rw[this];unfold w?;rw[aV];rfl
def Na{ρ:aP}(T:List Th)(b:T.length<=1000){i:Nat}(a:cV i ρ=Z (TD T,ρ)):ui 1 [] (iL (cV i)) (gN 0) (cT (uo vc "can_hold" aa uI)) (c1 (ud uw "name") aa) ρ=Z ((pw T).map D.str,ρ):=by
 have c:iL (cV i) ρ=Z (T.map d?,ρ):=by unfold iL;rw[a]
 have:=xF (k:=1) (d4:=[]) (g:=gN 0) (ft:=cT (uo vc "can_hold" aa uI)) (fe:=c1 (ud uw "name") aa) d? (λt=>D.str t.n) (λt=>t.k.hd) T c b λt _=>⟨[.E (d? t)],[.E (d? t)],O,u4 (uA (xs:=[.str t.n,.c3 (t.w.map D.str),.str t.k.s,oS t.s]) (ys:=[]) O O O O (KC t)),λ_=>⟨_,uQ O (As t),O⟩,λ_=>O⟩
 rw[this];unfold pw;rw[aV];rfl
def zm{x:Str}{l:aH}(h:x∈l):uW [.str x,.b3 (l.map D.str)]=Z (.O γ):=by refine uc (ρ:=[.E (.str x),.E (.b3 (l.map D.str))]) O ?_;refine uf ((uv O).t (ua O O ?_));rw[yC];simp[h]
def IV(a d:aH)(f:a.length<=1000)(j:a.Nodup)(h:∀x∈a,x∈d):Be [.b3 (a.map D.str),.b3 (d.map D.str)]=Z .I:=by let b:aP:=[.E (.b3 (a.map D.str)),.E (.b3 (d.map D.str)),.un];let e:aP:=[.E (.b3 (a.map D.str)),.E (.b3 (d.map D.str)),.E (.O γ)];refine Ae (ρ:=e) O ?_;unfold Bd;rw[tZ (show _=Z (rh.nx e) from(uq ((uv (ρ1:=b) O).t ((uv (ym D.str a (ρ1:=b) O f λx i=>⟨[.E (.str x),.E (.b3 (d.map D.str))],[.E (.str x),.E (.b3 (d.map D.str))],O,tW O (zm (h x i)),O⟩)).t (tW (ρ1:=b) O (DQ j f))))).t O)];exact wu (ρ1:=e) O
def CL(T:List Th)(t:Th):Prop:=match t.k,t.s with
 |.room,J=>True
 |.room,Z _=>False
 |_,J=>False
 |.you,Z x=>x∈w? T
 |_,Z x=>x∈pw T
def LS(T:List Th)(e:T.length<=1000)(t:Th)(h:CL T t):DD [TD T,d? t]=Z (.O γ):=by
 refine uc (ρ:=[.E (TD T),.E (d? t)]) O ?_;unfold DC;obtain⟨n,w,k,s⟩:=t;have els:∀k:Kd,k≠.room->k≠.you->∀x,x∈pw T->(bt (fc (cT (c2 (eo δ) (c1 (ud uL "kind") ah) jW)) (ue (c2 yO (c1 (ud vC "start") ah) aG)) uk)
   (bt (fc (cT (c2 (eo δ) (c1 (ud uL "kind") ah) (cC (.str "you")))) (ue (tY uW (ax (c1 (ud vC "start") ah) (ax (cL (ui 1 [] (iL aa) (gN 0) (cT (c2 (eo δ) (c1 (ud uL "kind") aa) jW)) (c1 (ud uw "name") aa))) uI)))) uk)
   (ue (tY uW (ax (c1 (ud vC "start") ah) (ax (cL (ui 1 [] (iL aa) (gN 0) (cT (uo vc "can_hold" aa uI)) (c1 (ud uw "name") aa))) uI)))))) [.E (TD T),.E (d? ⟨n,w,k,Z x⟩)]=Z (.rt (.O γ) [.E (TD T),.E (d? ⟨n,w,k,Z x⟩)]):=λk f i x j=>by
  let a:aP:=[.E (TD T),.E (d? ⟨n,w,k,Z x⟩)];rw[tZ (show _=Z (rh.nx a) from(uN (ρ':=a) (u4 (ua (ρ1:=a) (ρ2:=a) (uQ O (zM _)) O ((Ga k .room).t (by rw[bj f]))))).t O)];rw[tZ (show _=Z (rh.nx a) from(uN (ρ':=a) (u4 (ua (ρ1:=a) (ρ2:=a) (uQ O (zM _)) O ((Ga k .you).t (by rw[bj i]))))).t O)];exact uf (tW (tV (uQ O (GE _)) (tV (vm (Na T e O)) O)) (zm j))
 cases k with
 |room=>
  cases s with
  |none=>rfl
  |some x=>exact h.elim
 |you=>
  cases s with
  |none=>exact h.elim
  |some x=>let a:aP:=[.E (TD T),.E (d? ⟨n,w,.you,Z x⟩)];rw[tZ (show _=Z (rh.nx a) from O)];refine uu ((uE (ρ':=a) O).t ?_);exact uf (tW (tV (uQ O (GE _)) (tV (vm (Ie T e O)) O)) (zm h))
 |plain=>cases s with
  |none=>exact h.elim
  |some x=>exact els .plain (by decide) (by decide) x h
 |fixed=>cases s with
  |none=>exact h.elim
  |some x=>exact els .fixed (by decide) (by decide) x h
 |box=>cases s with
  |none=>exact h.elim
  |some x=>exact els .box (by decide) (by decide) x h
 |lamp=>cases s with
  |none=>exact h.elim
  |some x=>exact els .lamp (by decide) (by decide) x h
def kS(x:Str):dt:=Sum.inr x
def LU{i:Nat}{fk fv:FE}{ρ:aP}{a:List dt}{b:List L4.D}{x:Str}{d:L4.D}(e:fv ρ=Z (d,ρ))(f:ρ[i]?=Z (.dk a b))(h:fk ρ=Z (.str x,ρ))(o:kS x∉a)(m:a.length<1000)(j:b.length=a.length):
  yd i fk fv ρ=Z (.nx (ρ.set i (.dk (a++[kS x]) (b++[d])))):=by
 have l:Gh a (kS x)=δ:=by unfold Gh;rw[ju];intro z;obtain⟨y,p,c⟩:=dS.1 z;exact o (by rw[<-bF c];exact p)
 unfold yd;rw[e];simp only[f,h];rw[show AB (.str x)=Z (kS x) from O];simp only;rw[aj m,aj j,l];rfl
section
variable{α:Type}{g:FG}{i:Nat}{fk fv:FE}
theorem AU(h:α->L4.D)(kf:α->Str)(f:α->L4.D)(st:List dt->List L4.D->Sl->aP)
  (p:∀(a:α) (b:List dt) (ds:List L4.D) (s:Sl),∃ρ1,g (h a) (st b ds s)=Z ρ1/\fv ρ1=Z (f a,ρ1)/\ρ1[i]?=Z (.dk b ds)/\fk ρ1=Z (.str (kf a),ρ1)/\∀d c,∃e,ρ1.set i (.dk d c)=st d c e):
  ∀(l:List α) (b:List dt) (ds:List L4.D) (s:Sl),(b++l.map λa=>kS (kf a)).Nodup->b.length+l.length<=1000->ds.length=b.length->
   ∃e,fh g (yd i fk fv) (l.map h) (st b ds s)=Z (.nx (st (b++l.map λa=>kS (kf a)) (ds++l.map f) e))
 |[],b,ds,s,_,_,_=>⟨s,by rw[dH,dH,dH,bR,bR];rfl⟩
 |a::l,b,ds,s,j,A,o=>by
  obtain⟨ρ1,q,r,t,u,w⟩:=p a b ds s;obtain⟨C,x⟩:=w (b++[kS (kf a)]) (ds++[f a]);rw[aS]at A;have m:((b++[kS (kf a)])++l.map λa=>kS (kf a)).Nodup:=by rw[cc];exact j
  have B:kS (kf a)∉b:=λz=>by rw[bZ]at j;exact j.2.2 _ z _ (by rw[aA];exact aN) O
  obtain⟨e,y⟩:=AU h kf f st p l (b++[kS (kf a)]) (ds++[f a]) C m (by rw[aR,cR];omega) (by rw[aR,aR,o,cR,cR]);refine⟨e,?_⟩;rw[aA];unfold fh;rw[q];simp only[LU r t u B (by omega) o,x];rw[y,aA,aA,cc,cc];rfl
end
def nK(T:List Th):List dt:=T.map λt=>kS t.n
def Nc{a b:Str}(h:kS a=kS b):a=b:=gj h
def Sm{T:List Th}(h:(T.map Th.n).Nodup):(nK T).Nodup:=by have:=AE h;rw[aV]at this;exact this
def EH{T:List Th}(h:(T.map Th.n).Nodup)(a:Th->L4.D){t:Th}(b:t∈T):vI (nK T) (T.map a) (kS t.n)=Z (a t):=by refine AF (Sm h) ?_;unfold nK;rw[iJ];exact bP (f:=λt=>(kS t.n,a t)) b
def KE(T:List Th)(r:Str->Nat):Prop:=∀t∈T,r t.n<T.length/\∀p,t.s=Z p->r p<r t.n/\∃u∈T,u.n=p
def u3(T:List Th):L4.D:=.Q (nK T) (T.map λt=>oS t.s)
def Sn(T:List Th)(N:T.length<=1000)(B:(T.map Th.n).Nodup)(r:Str->Nat)(w:KE T r)(t:Th)(z:t∈T):yT [u3 T,.str t.n]=Z (.O γ):=by
 have loop:∀(m:Nat) (l:List L4.D),l.length=m->∀(a:Option Str) (s:Sl),(∀x,a=Z x->(∃u∈T,u.n=x)/\r x<m)->
   (∃b,fh (gN 3) (bt (fc (cT (c2 yO ak aG)) (ue c7) uk) (uD 2 (c2 CU aa ak))) l [.E (u3 T),.E (.str t.n),.E (oS a),s]=Z (.rt (.O γ) b))\/
   (∃j,fh (gN 3) (bt (fc (cT (c2 yO ak aG)) (ue c7) uk) (uD 2 (c2 CU aa ak))) l [.E (u3 T),.E (.str t.n),.E (oS a),s]=Z (.nx [.E (u3 T),.E (.str t.n),.E .I,j])):=by
  intro m
  induction m with
  |zero=>
   intro l h a s f;cases l with
   |cons d l=>cases h
   |nil=>
    cases a with
    |none=>exact .inr ⟨s,O⟩
    |some x=>exact ao (f x O).2 (Nat.not_lt_zero _)
  |succ m G=>
   intro l h a s f;cases l with
   |nil=>cases h
   |cons d l=>
    cases a with
    |none=>refine .inl ⟨[.E (u3 T),.E (.str t.n),.E .I,.E d],?_⟩;unfold fh;rw[show gN 3 d [.E (u3 T),.E (.str t.n),.E (oS J),s]=Z [.E (u3 T),.E (.str t.n),.E .I,.E d] from O];rfl
    |some x=>
     obtain⟨⟨u,A,rfl⟩,i⟩:=f x O;have e:bt (fc (cT (c2 yO ak aG)) (ue c7) uk) (uD 2 (c2 CU aa ak)) [.E (u3 T),.E (.str t.n),.E (.str u.n),.E d]=Z (.nx [.E (u3 T),.E (.str t.n),.E (oS u.s),.E d]):=by refine(tZ (ρ':=[.E (u3 T),.E (.str t.n),.E (.str u.n),.E d]) O).t ?_;exact(uq (ua O O (EH B (λt=>oS t.s) A))).t O
     have key:=G l (by simpa using h) u.s (.E d) λy F=>by obtain⟨C,c⟩:=w u A;obtain⟨M,E⟩:=c y F;exact⟨E,by omega⟩
     unfold fh;rw[show gN 3 d [.E (u3 T),.E (.str t.n),.E (oS (Z u.n)),s]=Z [.E (u3 T),.E (.str t.n),.E (.str u.n),.E d] from O];simp only[e];exact key
 obtain⟨C,c⟩:=w t z;have H:=loop T.length (CQ 0 T.length) (by unfold CQ;simp) t.s .un λx i=>⟨(c x i).2,by have:=(c x i).1;omega⟩;have o:uD 2 (c2 CU aa ah) [.E (u3 T),.E (.str t.n),.un,.un]=Z (.nx [.E (u3 T),.E (.str t.n),.E (oS t.s),.un]):=(uq (ua O O (EH B (λt=>oS t.s) z))).t O;have p:xm (c1 xf aa) [.E (u3 T),.E (.str t.n),.E (oS t.s),.un]=Z (CQ 0 T.length,[.E (u3 T),.E (.str t.n),.E (oS t.s),.un]):=by unfold xm;rw[show c1 xf aa [.E (u3 T),.E (.str t.n),.E (oS t.s),.un]=Z (.int T.length,[.E (u3 T),.E (.str t.n),.E (oS t.s),.un]) from uQ O (by show Z (D.int _)=_;unfold nK;rw[aq])];simp only;rw[aj (by omega),fR]
 rcases H with ⟨b,q⟩|⟨j,q⟩
 .refine uc (ρ:=b) O ?_;refine(tZ o).t (uu ((vz p).t q))
 .refine uc (ρ:=[.E (u3 T),.E (.str t.n),.E .I,j]) O ?_;refine(tZ o).t ((tZ ((vz p).t q)).t O)
def Gm(T:List Th)(x:T.length<=900)(h:(T.map Th.n).Nodup)(r:Str->Nat)(m:KE T r)(o:∀t∈T,CL T t):zG [TD T]=Z .I:=by
 obtain⟨b,l⟩:=AU (g:=gN 2) (i:=1) (fk:=c1 (ud uw "name") ak) (fv:=c1 (ud vC "start") ak) d? Th.n (λt=>oS t.s) (λe c s=>[.E (TD T),.dk e c,s])
  (λt e c s=>⟨[.E (TD T),.dk e c,.E (d? t)],O,uQ O (GE t),O,uQ O (As t),λp j=>⟨_,O⟩⟩) T [] [] .un (by rw[cv];exact Sm h) (by simp;omega) O
 refine Ae (ρ:=[.E (TD T),.E (u3 T),b]) O ?_;unfold zF;refine(tZ (wu (ρ1:=[.E (TD T),.un,.un]) (ym d? T O (by omega) λt d=>⟨[.E (d? t),.E (TD T)],[.E (d? t),.E (TD T)],O,tW O (LS T (by omega) t (o t d)),O⟩))).t ?_;refine(tZ (ρ':=[.E (TD T),.dk [] [],.un]) O).t ?_;refine(tZ ((vz O).t l)).t ?_;have src:iD (T3 1) [.E (TD T),.dk ([]++T.map λa=>kS a.n) ([]++T.map λt=>oS t.s),b]=Z ((T.map λt=>D.str t.n),[.E (TD T),.E (u3 T),b]):=by rw[cv,cv];unfold iD;rw[show T3 1 [.E (TD T),.dk (T.map λa=>kS a.n) (T.map λt=>oS t.s),b]=Z (u3 T,[.E (TD T),.E (u3 T),b]) from O];show (if (nK T).length=(T.map λt=>oS t.s).length then Z ((nK T).map X9,_)else J)=_;unfold nK;rw[aj (by rw[aq,aq]),aV];rfl
 exact wu (ρ1:=[.E (TD T),.E (u3 T),b]) (ym (λt:Th=>D.str t.n) T src (by omega) λt d=>⟨[.E (.str t.n),.E (u3 T)],[.E (.str t.n),.E (u3 T)],O,tW O (Sn T (by omega) h r m t d),O⟩)
def KF(l:List Th)(r:Th):Prop:=(r.k=.room/\r.s=J)\/(r.k=.you/\∃u∈l,r.s=Z u.n/\u.k=.room)\/(r.k.pl=γ/\∃u∈l,r.s=Z u.n/\u.k.hd=γ)
inductive Ord:List Th->Prop
 |nil:Ord []
 |snoc {l:List Th} {r:Th} (h:Ord l) (h':KF l r):Ord (l++[r])
def KF.mono{l e:List Th}{r:Th}(h:KF l r)(d:∀u∈l,u∈e):KF e r:=by
 rcases h with h|⟨a,u,b,c⟩|⟨a,u,b,c⟩
 .exact .inl h
 .exact .inr (.inl ⟨a,u,d u b,c⟩)
 .exact .inr (.inr ⟨a,u,d u b,c⟩)
def Ord.all{l:List Th}(h:Ord l):∀r∈l,KF l r:=by
 induction h with
 |nil=>exact λr hr=>(b0 hr).elim
 |snoc h b c=>
  intro r hr;rcases bb.1 hr with hr|hr
  .exact(c r hr).mono λu a=>bL _ a
  .rw[aW]at hr;subst hr;exact b.mono λu a=>bL _ a
def KF.start{l:List Th}{r:Th}(h:KF l r){p:Str}(a:r.s=Z p):∃u∈l,u.n=p:=by
 rcases h with ⟨_,h⟩|⟨_,u,b,c,_⟩|⟨_,u,b,c,_⟩
 .rw[h]at a;cases a
 .rw[c]at a;cases a;exact⟨u,b,O⟩
 .rw[c]at a;cases a;exact⟨u,b,O⟩
def Ord.rank{l:List Th}(h:Ord l):(l.map Th.n).Nodup->∃c:Str->Nat,∀t∈l,c t.n<l.length/\∀p,t.s=Z p->c p<c t.n/\∃u∈l,u.n=p:=by
 induction h with
 |nil=>exact λ_=>⟨λ_=>0,λt a=>(b0 a).elim⟩
 |@snoc l r h j q=>
  intro e;rw[bK,bZ]at e;obtain⟨c,i⟩:=q e.1;have f:∀u∈l,u.n≠r.n:=λu b z=>e.2.2 _ (bP b) _ (by simp) z;refine⟨λx=>if x=r.n then l.length else c x,λt a=>?_⟩;rw[aR,cR];dsimp only;rcases bb.1 a with a|a
  .obtain⟨w,m⟩:=i t a;rw[ai (f t a)];refine⟨by omega,λp d=>?_⟩;obtain⟨o,u,b,rfl⟩:=m p d;rw[ai (f u b)];exact⟨o,u,bL _ b,O⟩
  .rw[aW]at a;subst a;rw[aj O];refine⟨by omega,λp d=>?_⟩;obtain⟨u,b,rfl⟩:=j.start d;rw[ai (f u b)];exact⟨(i u b).1,u,bL _ b,O⟩
def ZC{ds:List L4.D}(k:Nat)(h:k<=ds.length):oz ds J (Z (k:Int))=ds.take k:=by unfold oz;rw[HT.Qs,HT.T7,Nat.min_eq_left h,List.drop_zero,qe]
def wdL:List (Str×aH):=vu.map (λx:Str=>(x,(["big", "room"]:aH)))++(("self", ["self"]):Str×aH)::sx
def Th.nw(t:Th):Str×aH:=(t.n,t.w)
def CM(t:Th):Prop:=t.nw∈wdL/\(t.k.pl=γ->t.nw∈sx)
def KG{t:Th}(h:CM t):zY [.c3 (t.w.map D.str)]=Z (.O γ):=Cu (ba.1 (show (wdL.all λq=>isT (zY [.c3 (q.2.map D.str)]))=γ by kernel_rfl) t.nw h.1)
def Nd(t u:Th)(a:t.nw∈sx)(b:u.nw∈sx)(hne:u.n≠t.n):AO [.c3 (u.w.map D.str),.c3 (t.w.map D.str)]=Z (.O δ):=by
 have h:=ba.1 (ba.1 (show (sx.all λp=>sx.all λq=>decide (q.1=p.1)||isF (AO [.c3 (q.2.map D.str),.c3 (p.2.map D.str)]))=γ by kernel_rfl) t.nw a) u.nw b;rw[jC]at h;rcases h with h|h
 .exact ao (bF h) hne
 .exact M8 h
def IW(P:List Th)(d:P.length<=900)(h:∀t∈P,t.nw∈sx)(t:Th)(f:t.nw∈sx):yV [TD P,d? t]=Z (.O γ):=by
 let b:=P.filter λu=>!decide (u.n=t.n);let a:aP:=[.E (TD P),.E (d? t),.E (TD b)];have hO:b.length<=900:=bM (cU _ _) d;refine uc (ρ:=a) O ?_;unfold yU;refine(tZ (ρ':=a) ((uq (vm (xF d? d? (λu=>!decide (u.n=t.n)) P (ρ1:=[.E (TD P),.E (d? t),.un]) O (by omega) λu _=>⟨[.E (d? u),.E (d? t)],[.E (d? u),.E (d? t)],O,u4 (ua (uQ O (As u)) (uQ O (As t)) (wg γ u.n t.n)),λ_=>⟨_,O,O⟩,λ_=>O⟩))).t O)).t ?_;have e:c1 Gi (cL (ui 1 [1] (iL ak) (gN 0) u6 (tY AO (ax (c1 (ud wz "words") aa) (ax (c1 (ud wz "words") ah) uI))))) a=Z (.O δ,a):=
  Sk d? b O (by omega) λu c=>⟨[.E (d? u),.E (d? t)],[.E (d? u),.E (d? t)],O,tW (tV (uQ O (KB u)) (tV (uQ O (KB t)) O)) (Nd t u f (h u (bc.1 c).1) (by simpa using (bc.1 c).2)),O⟩
 refine uf ?_;unfold Gg;rw[e];rfl
def Ig(T:List Th)(e:T.length<=900)(d:∀t∈T,CM t):wa [TD T]=Z .I:=by let P:=T.filter λt=>t.k.pl;have hP:P.length<=900:=bM (cU _ _) e;have hwP:∀t∈P,t.nw∈sx:=λt a=>(d t (bc.1 a).1).2 (bc.1 a).2;let b:aP:=[.E (TD T),.E (TD P)];refine Ae (ρ:=b) O ?_;unfold v8;refine(tZ (wu (ρ1:=[.E (TD T),.un]) (ym d? T O (by omega) λt a=>⟨[.E (d? t)],[.E (d? t)],O,tW (tV (uQ O (KB t)) O) (KG (d t a)),O⟩))).t ?_;refine(tZ (ρ':=b) ((uq (vm (tW O (Au T (by omega))))).t O)).t ?_;exact wu (ρ1:=b) (ym d? P O (by omega) λt a=>⟨[.E (d? t),.E (TD P)],[.E (d? t),.E (TD P)],O,tW O (IW P hP hwP t (hwP t a)),O⟩)
def KH{e:FE}{b:Bool}{ρ ρ1:aP}(h:e ρ=Z (.O b,ρ1)):Gg e ρ=Z (.O !b,ρ1):=by unfold Gg;rw[h]
def Ih{l m:aH}{d:L4.D}(hd:d=.b3 (m.map D.str)\/d=.c3 (m.map D.str))(c:l.length<=900)(h:∀x∈l,x∉m):yF [.b3 (l.map D.str),d]=Z (.O γ):=by
 let a:aP:=[.E (.b3 (l.map D.str)),.E d];refine uc (ρ:=a) O ?_;have e:c1 Gi (cL (ui 1 [1] (iL aa) (gN 0) u6 (c2 (pk δ) aa ah))) a=Z (.O δ,a):=Sk D.str l O (by omega) λx b=>⟨[.E (.str x),.E d],[.E (.str x),.E d],O,ua O O (by
  rcases hd with rfl|rfl
  .rw[yC];simp[h x b]
  .rw[AD];simp[h x b]),O⟩
 exact uf (KH e)
structure Vb where
 n:Str
 o:aH
 f:Str
 j:Option Str
def m3(v:Vb):L4.D:=.obj 2 ["name", "others", "form", "joining"] [.str v.n,.c3 (v.o.map D.str),.str v.f,oS v.j]
def v6:List Vb:=[⟨"pray", ["beg"],"alone", J⟩,⟨"rub", [],"one", J⟩,⟨"peer", ["gaze"],"way", J⟩,⟨"tie", [],"two", Z "with"⟩]
def v9:List Vb:=[⟨"take", [],"one", J⟩,⟨"drop", [],"one", J⟩,⟨"open", [],"one", J⟩,⟨"shut", [],"one", J⟩,⟨"light", [],"one", J⟩,⟨"douse", [],"one", J⟩,⟨"put", [],"two", Z "in"⟩,⟨"go", [],"way", J⟩,⟨"wait", [],"alone", J⟩]
abbrev VD(V:List Vb):L4.D:=.b3 (V.map m3)
def So:x3 []=Z (v9.map m3):=by kernel_rfl
def Vb.ws(v:Vb):aH:=v.n::v.o
def vW:aH:=(v6++v9).flatMap Vb.ws
def bW:aH:=["with", "in", "north", "south"]
def Ii:yt [VD v6]=Z .I:=by kernel_rfl
def On:((v6++v9).flatMap Vb.ws).Nodup:=by decide +kernel
def vws{V:List Vb}(h:∀v∈V,v∈v6):∀x∈(V++v9).flatMap Vb.ws,x∈vW:=λx b=>by
 obtain⟨v,a,b⟩:=eM.1 b;refine eM.2 ⟨v,?_,b⟩;rcases bb.1 a with a|a
 .exact bL _ (h v a)
 .exact bE _ a
structure Wy where
 r:Str
 w:Str
 g:Str
 m:Option Str
def mn(w:Wy):L4.D:=.c3 [.str w.r,.str w.w,.str w.g,oS w.m]
abbrev WD(W:List Wy):L4.D:=.b3 (W.map mn)
def si(T:List Th)(M:List Mk):aH:=(T.filter λt=>t.k.mk).map Th.n++M.map Mk.n
structure PL(T:List Th)(M:List Mk)(w:Wy):Prop where
 hr:w.r∈w? T
 hw:w.w∈(["north", "south"]:aH)
 hg:w.g∈w? T
 hm:∀x,w.m=Z x->x∈si T M
def Oo(l:List L4.D)(n:Int)(h:(l.length:Int)<=n):uY [.b3 l,.int n]=Z (.O γ):=by
 have e:uY [.b3 l,.int n]=Z (.O (decide ((l.length:Int)<=n))):=by kernel_rfl
 rw[e,bf h]
def EI{e a:FE}{ρ ρ1:aP}(b:e ρ=Z (.O δ,ρ1)):U' e a ρ=a ρ1:=by unfold U';rw[b]
def KI{e a:FE}{ρ ρ1:aP}(b:e ρ=Z (.O γ,ρ1)):U' e a ρ=Z (.O γ,ρ1):=by unfold U';rw[b]
def PM{T:List Th}{M:List Mk}{w:Wy}(h:PL T M w):HQ [mn w,.b3 ((w? T).map D.str),.b3 ((si T M).map D.str)]=Z (.O γ):=by
 let R:L4.D:=.b3 ((w? T).map D.str);let K:L4.D:=.b3 ((si T M).map D.str);let a:aP:=[.E (mn w),.E R,.E K,.un];let d:aP:=[.E (mn w),.E R,.E K,.E (.O γ)];refine uc (ρ:=d) O ?_;unfold HP;refine(tZ (ρ':=a) O).t ?_;have e:U' (c2 yO (c2 eh aa bq) aG) (tY uW q9) a=Z (.O γ,a):=by
  obtain⟨r,x,g,m⟩:=w;cases m with
  |none=>rfl
  |some y=>exact(EI (ρ1:=a) O).t (tW (ds:=[.str y,K]) O (zm (h.hm y O)))
 refine(tZ (ρ':=d) ((uq e).t O)).t (uf ?_);have f:wX [.str w.w]=Z (.O γ):=Cu (ba.1 (show ((["north", "south"]:aH).all λx=>isT (wX [.str x]))=γ by kernel_rfl) w.w h.hw);exact(uv (tW (ds:=[.str w.r,R]) O (zm h.hr))).t ((uv (tW (ds:=[.str w.w]) O f)).t ((uv (tW (ds:=[.str w.g,R]) O (zm h.hg))).t O))
def IY{T:List Th}{M:List Mk}{W:List Wy}(d:W.length<=2)(h:∀w∈W,PL T M w)(c:(W.map λw=>[w.r,w.w]).Nodup):Bh [WD W,.b3 ((w? T).map D.str),.b3 ((si T M).map D.str)]=Z .I:=by
 let R:L4.D:=.b3 ((w? T).map D.str);let K:L4.D:=.b3 ((si T M).map D.str);let f:aP:=[.E (WD W),.E R,.E K,.un];let b:aP:=[.E (WD W),.E R,.E K,.E (.O γ)];refine Ae (ρ:=b) O ?_;unfold Bf;refine(tZ (ρ':=b) ((uq ((uv (tW (ds:=[WD W,B8]) O (Oo _ _ (by rw[aq];omega)))).t (ym mn W (ρ1:=f) O (by omega) λw i=>⟨[.E (mn w),.E R,.E K],[.E (mn w),.E R,.E K],O,tW O (PM (h w i)),O⟩))).t O)).t ?_;refine(tZ (wu (ρ1:=b) O)).t (wu (ρ1:=b) (tW (tV (vm (xl mn (λw=>.c3 [.str w.r,.str w.w]) W (ρ1:=b) O (by omega) λw _=>⟨[.E (mn w)],[.E (mn w)],O,O,O⟩)) O) ?_));refine uc (ρ:=[.E (.b3 (W.map λw:Wy=>D.c3 [.str w.r,.str w.w]))]) O (uf (ua (x:=.int W.length) (y:=.int W.length) (uQ O ?_) (uQ O ?_) ?_))
 .match W,d,c with
  |[],_,_=>rfl
  |[w],_,_=>rfl
  |[w,u],_,c=>
   have j:¬[Sum.inr w.r,(Sum.inr w.w:dt)]=[Sum.inr u.r,Sum.inr u.w]:=λz=>by injection z with l e;injection e with e _;rw[aA,aA,gj l,gj e]at c;exact(dm.1 c).1 aN
   show (if [Sum.inr w.r,(Sum.inr w.w:dt)]=[Sum.inr u.r,Sum.inr u.w]then J else Z (D.int 2))=_;rw[ai j];rfl
  |_::_::_::_,d,_=>rw[aS,aS,aS]at d;omega
 .show Z (D.int _)=_;rw[aq]
 .rw[y9];simp
def ZD{t:Th}(h:t.nw∈sx):t.w.length<=3:=bF (ba.1 (show (sx.all λq=>decide (q.2.length<=3))=γ by kernel_rfl) t.nw h)
theorem Ik{a b c s5 s6 s7:Sl}:∀(P:List Th) (acc:aH) (s:Sl),acc.length+3 * P.length<=900->(∀t∈P,t.nw∈sx)->
  ∃f,fh (gN 4) (uH (BV 3 (c1 (ud wz "words") az))) (P.map d?) [a,b,c,.ls (acc.map D.str),s,s5,s6,s7]=Z (.nx [a,b,c,.ls ((acc++P.flatMap Th.w).map D.str),f,s5,s6,s7])
 |[],acc,s,_,_=>⟨s,by simp;rfl⟩
 |t::P,acc,s,j,h=>by
  have o:=ZD (h t aN);rw[aS]at j;obtain⟨f,e⟩:=Ik P (acc++t.w) (.E (d? t)) (by rw[aR];omega) λu l=>h u (aQ _ l);refine⟨f,?_⟩;rw[aA];unfold fh;have i:uH (BV 3 (c1 (ud wz "words") az)) [a,b,c,.ls (acc.map D.str),.E (d? t),s5,s6,s7]=Z (.nx [a,b,c,.ls ((acc++t.w).map D.str),.E (d? t),s5,s6,s7]):=by refine(ve (d:=.I) (ρ':=[a,b,c,.ls ((acc++t.w).map D.str),.E (d? t),s5,s6,s7]) ?_);unfold BV;show (if (acc.map D.str).length+(t.w.map D.str).length<=1000 then Z (D.I,[a,b,c,.ls (acc.map D.str++t.w.map D.str),.E (d? t),s5,s6,s7])else J)=_;rw[aj (by rw[aq,aq];omega),bK]
  rw[show gN 4 (d? t) [a,b,c,.ls (acc.map D.str),s,s5,s6,s7]=Z [a,b,c,.ls (acc.map D.str),.E (d? t),s5,s6,s7] from O];simp only[i];rw[e,fV,cc]
theorem Oq{a b c s3 s4 s7:Sl}:∀(V:List Vb) (acc:aH) (s:Sl),acc.length+3 * V.length<=900->(∀v∈V,v.o.length<=2)->
  ∃h,fh (gN 6) (uH (BV 5 (Fo (uO j5) (c1 (ud wM "others") br)))) (V.map m3) [a,b,c,s3,s4,.ls (acc.map D.str),s,s7]=Z (.nx [a,b,c,s3,s4,.ls ((acc++V.flatMap Vb.ws).map D.str),h,s7])
 |[],acc,s,_,_=>⟨s,by simp;rfl⟩
 |v::V,acc,s,m,i=>by
  have q:=i v aN;rw[aS]at m;have r:v.ws.length<=3:=by unfold Vb.ws;rw[aS];omega
  obtain⟨h,e⟩:=Oq (a:=a) (b:=b) (c:=c) (s3:=s3) (s4:=s4) (s7:=s7) V (acc++v.ws) (.E (m3 v)) (by rw[aR];omega) λu p=>i u (aQ _ p);refine⟨h,?_⟩;rw[aA];unfold fh;let f:aP:=[a,b,c,s3,s4,.ls (acc.map D.str),.E (m3 v),s7];have j:Fo (uO j5) (c1 (ud wM "others") br) f=Z (.c3 (v.ws.map D.str),f):=by show (if ([]:List L4.D).length+(v.o.map D.str).length<=900 then Z (D.c3 (.str v.n::[]++v.o.map D.str),f)else J)=_;rw[aj (by rw[aq];simp only[fZ];omega)];rfl
  have l:uH (BV 5 (Fo (uO j5) (c1 (ud wM "others") br))) f=Z (.nx [a,b,c,s3,s4,.ls ((acc++v.ws).map D.str),.E (m3 v),s7]):=by refine ve (d:=.I) ?_;unfold BV;rw[j];show (if (acc.map D.str).length+(v.ws.map D.str).length<=1000 then Z (D.I,[a,b,c,s3,s4,.ls (acc.map D.str++v.ws.map D.str),.E (m3 v),s7])else J)=_;rw[aj (by rw[aq,aq];omega),bK]
  rw[show gN 6 (m3 v) [a,b,c,s3,s4,.ls (acc.map D.str),s,s7]=Z f from O];simp only[l];rw[e,fV,cc]
def jsN(V:List Vb):aH:=V.filterMap Vb.j
def v_o2{V:List Vb}(h:∀v∈V,v∈v6):∀v∈V++v9,v.o.length<=2:=λv b=>by
 have a:=ba.1 (show ((v6++v9).all λv=>decide (v.o.length<=2))=γ by kernel_rfl) v (by
  rcases bb.1 b with b|b
  .exact bL _ (h v b)
  .exact bE _ b)
 exact bF a
def abv{e:FE}{c a:aP}{b:List L4.D}(h:e c=Z (.b3 b,a)):iL e c=Z (b,a):=by unfold iL;rw[h]
def abw{ρ:aP}(V:List Vb)(d:V.length<=900)(a:cV 2 ρ=Z (VD V,ρ)):ui 1 [] (iL ak) (gN 0) (cT (c2 v5 (c1 (ud vV "joining") aa) aG)) (c1 (ud vV "joining") aa) ρ=Z ((jsN V).map D.str,ρ):=by
 have b:iL ak ρ=Z (V.map m3,ρ):=abv a;refine(xF (k:=1) (d4:=[]) (g:=gN 0) (ft:=cT (c2 v5 (c1 (ud vV "joining") aa) aG)) (fe:=c1 (ud vV "joining") aa) m3 (λv=>oS v.j) (λv=>v.j.isSome) V b (by omega) λv _=>⟨[.E (m3 v)],[.E (m3 v)],O,?_,λ_=>⟨[.E (m3 v)],O,O⟩,λ_=>O⟩).t ?_
 .obtain⟨n,o,f,j⟩:=v;cases j<;>rfl
 .congr 2;unfold jsN;clear b a d
  induction V with
  |nil=>rfl
  |cons v V c=>
   obtain⟨n,o,f,j⟩:=v;cases j with
   |none=>rw[m5 (by simp),List.filterMap_cons_none O];exact c
   |some x=>rw[kq (by simp)];exact bp (D.str x::·) c
def Il{T:List Th}{W:List Wy}(S:T.length<=200)(G:∀t∈T,CM t)(hW:W.length<=2)(ww:∀w∈W,w.w∈(["north", "south"]:aH)):wq [TD T,WD W,VD (v6++v9)]=Z .I:=by
 let V:=v6++v9;have v6m:∀v∈v6,v∈v6:=λv y=>y;have lV:V.length<=15:=by decide
 let P:=T.filter λt=>t.k.pl;have hP:P.length<=200:=bM (cU _ _) S;have hwP:∀t∈P,t.nw∈sx:=λt E=>(G t (bc.1 E).1).2 (bc.1 E).2;let A:Sl:=.E (TD T);let B:Sl:=.E (WD W);let C:Sl:=.E (VD V);obtain⟨i,N⟩:=Ik (a:=A) (b:=B) (c:=C) (s5:=.un) (s6:=.un) (s7:=.un) P [] .un (by simp;omega) hwP;let u:=P.flatMap Th.w;let U:=V.flatMap Vb.ws;let p:Sl:=.ls (u.map D.str);obtain⟨z,Q⟩:=Oq (a:=A) (b:=B) (c:=C) (s3:=p) (s4:=i) (s7:=.un) V [] .un (by simp;omega) (v_o2 v6m);let o:aH:=jsN V++W.map Wy.w;let AT:Sl:=.E (.b3 (o.map D.str));have lU:U.length<=100:=by have h:=vws v6m;have R:=Oa (On) h;exact bM R (jh (by kernel_rfl))
 have lJ:(jsN V).length<=15:=bM (List.length_filterMap_le _ _) lV;have lB:o.length<=100:=by show (jsN V++W.map Wy.w).length<=100;rw[aR,aq];omega
 have bIn:∀x∈o,x∈bW:=λx d=>by
  rcases bb.1 d with d|d
  .obtain⟨v,y,e⟩:=iz.1 d;have a:=ba.1 (show ((v6++v9).all λv=>match v.j with|some x=>decide (x∈bW)|none=>γ)=γ by kernel_rfl) v (by
    rcases bb.1 y with y|y
    .exact bL _ (v6m v y)
    .exact bE _ y)
   rw[e]at a;exact bF a
  .obtain⟨w,G,rfl⟩:=av.1 d;exact(show ∀x∈(["north", "south"]:aH),x∈bW by decide) _ (ww w G)
 have oIn:∀x∈u,x∈sx.flatMap bO:=λx d=>by obtain⟨t,E,hxt⟩:=eM.1 d;exact eM.2 ⟨t.nw,hwP t E,hxt⟩
 have uIn:∀x∈U,x∈vW:=vws v6m;have s1:∀x∈vW++bW,x∉sx.flatMap bO:=by decide +kernel
 have s2:∀x∈vW++bW,x∉(["the", "a", "undo", "restart"]:aH):=by decide +kernel
 have I:∀x∈bW,x∉vW:=by decide +kernel
 have M:∀x∈U++o,x∈vW++bW:=λx d=>by
  rcases bb.1 d with d|d
  .exact bL _ (uIn x d)
  .exact bE _ (bIn x d)
 have lUB:(U++o).length<=900:=by rw[aR];omega
 let UL:L4.D:=.b3 (U.map D.str);refine Ae (ρ:=[A,B,C,.E (.b3 (u.map D.str)),i,.E UL,z,AT]) O ?_;unfold xD;refine(tZ (ρ':=[A,B,C,.ls [],.un,.un,.un,.un]) O).t ?_;refine(tZ (ρ':=[A,B,C,p,i,.un,.un,.un]) ((vz (ds:=P.map d?) (ρ1:=[A,B,C,.ls [],.un,.un,.un,.un]) ?_).t N)).t ?_
 .unfold iL;rw[vm (tW (g:=wY) (ds:=[TD T]) (ρ1:=[A,B,C,.ls [],.un,.un,.un,.un]) O (Au T (by omega)))]
 refine(tZ (ρ':=[A,B,C,p,i,.ls [],.un,.un]) O).t ?_;refine(tZ (ρ':=[A,B,C,p,i,.ls (U.map D.str),z,.un]) ((vz (ds:=V.map m3) (ρ1:=[A,B,C,p,i,.ls [],.un,.un]) O).t Q)).t ?_;refine(tZ (ρ':=[A,B,C,p,i,.ls (U.map D.str),z,AT]) ((uq (vm (xU (vm (abw V (by omega) O)) (vm (xl mn (λw=>.str w.w) W (ρ1:=[A,B,C,p,i,.ls (U.map D.str),z,.un]) O (by omega) λw _=>⟨[.E (mn w)],[.E (mn w)],O,O,O⟩)) (by rw[aq,aq];omega)))).t ?_)).t ?_
 .show Z (rh.nx [A,B,C,p,i,.ls (U.map D.str),z,.E (.b3 ((jsN V).map D.str++W.map λw=>.str w.w))])=_;rw[show (jsN V).map D.str++(W.map λw=>D.str w.w)=o.map D.str by show _=(jsN V++W.map Wy.w).map D.str;rw[bK,aV];rfl]
 refine(tZ (wu (ρ1:=[A,B,C,p,i,.E UL,z,AT]) (tW (ds:=[UL]) O (DQ (On) (by omega))))).t ?_;have H:∀(q:Sl),cL (xT (T3 5) bH) [A,B,C,q,i,.E UL,z,AT]=Z (.b3 ((U++o).map D.str),[A,B,C,q,i,.E UL,z,AT]):=λq=>(vm (xU (xs:=U.map D.str) (ys:=o.map D.str) (ρ1:=[A,B,C,q,i,.E UL,z,AT]) O O (by rw[aq,aq];omega))).t (by rw[<-bK]);refine(tZ (wu (ρ1:=[A,B,C,.E (.b3 (u.map D.str)),i,.E UL,z,AT]) (tW (tV (H p) (tV O O)) (Ih (l:=U++o) (m:=u) (.inl O) lUB λx d X=>s1 x (M x d) (oIn x X))))).t ?_;refine(tZ (wu (ρ1:=[A,B,C,.E (.b3 (u.map D.str)),i,.E UL,z,AT]) (tW (tV (H _) (tV O O)) (Ih (l:=U++o) (m:=["the", "a", "undo", "restart"]) (.inr O) lUB λx d=>s2 x (M x d))))).t ?_;exact wu (ρ1:=[A,B,C,.E (.b3 (u.map D.str)),i,.E UL,z,AT]) (tW (tV O (tV O O)) (Ih (l:=o) (m:=U) (.inl O) (by omega) λx d Y=>I x (bIn x d) (uIn x Y)))
structure e4(T:List Th)(M:List Mk)(dk:aH)(W:List Wy):Prop where
 len:T.length<=13
 r1:1<=(T.filter λt=>decide (t.k=.room)).length
 r5:(T.filter λt=>decide (t.k=.room)).length<=5
 y1:(T.filter λt=>decide (t.k=.you)).map Th.n=(["self"]:aH)
 p7:(T.filter λt=>t.k.pl).length<=7
 m4:M.length<=4
 mo:∀m∈M,m.ok
 nm:∀x∈T.map Th.n++M.map Mk.n,Nm x
 nd:(T.map Th.n++M.map Mk.n).Nodup
 st:∀t∈T,CL T t
 rk:∃r,KE T r
 wd:∀t∈T,CM t
 d0:dk.length<=5
 d1:dk.Nodup
 d2:∀x∈dk,x∈w? T
 w8:W.length<=2
 wo:∀w∈W,PL T M w
 wn:(W.map λw=>[w.r,w.w]).Nodup
section
variable{T:List Th}{M:List Mk}{dk:aH}{W:List Wy}
def e4.Dv(g:e4 T M dk W):(T.map Th.n).Nodup:=(bZ.1 g.nd).1
def Dk(T:List Th)(M:List Mk)(c:T.length<=200)(hM:M.length<=4):wZ [TD T,MD M]=Z ((si T M).map D.str):=by
 let a:aP:=[.E (TD T),.E (MD M)];have h:=cU (λt:Th=>t.k.mk) T;refine(yR (ρ:=a) O (xn (xU (vm (xF d? (λt=>D.str t.n) (λt=>t.k.mk) T (ρ1:=a) O (by omega) λt _=>⟨[.E (d? t)],[.E (d? t)],O,u4 (uA (xs:=[.str t.n,.c3 (t.w.map D.str),.str t.k.s,oS t.s]) (ys:=[]) O O O O (Ol t)),λ_=>⟨_,uQ O (As t),O⟩,λ_=>O⟩))
  (vm (xl O' (λt=>D.str t.n) M O (by omega) λt _=>⟨_,_,O,uQ O (KD t),O⟩)) (by rw[aq,aq];omega)))).t ?_
 unfold si;rw[bK,aV,aV];rfl
def Im(g:e4 T M dk W):An [TD T,MD M,.b3 (dk.map D.str),WD W,VD v6,VD v9]=Z .I:=by
 have l:=g.len;have e:=g.m4;have hdk:dk.length<=1000:=by have:=g.d0;omega
 have i:(T.filter λt=>decide (t.k=.you)).length=1:=by have:=bp dM g.y1;rw[aq]at this;exact this
 obtain⟨r,f⟩:=g.rk;let b:aP:=[.E (TD T),.E (MD M),.E (.b3 (dk.map D.str)),.E (WD W),.E (VD v6),.E (VD v9),.un];let c:aP:=[.E (TD T),.E (MD M),.E (.b3 (dk.map D.str)),.E (WD W),.E (VD v6),.E (VD v9),.E (.b3 ((w? T).map D.str))];refine Ae (ρ:=c) O ?_;unfold Am;refine(tZ (ve (ρ':=b) (tW O (Gk T (by omega) g.r1 g.r5 i g.p7)))).t ?_;refine(tZ (ve (ρ':=b) (tW O (Ia M g.m4 g.mo)))).t ?_;refine(tZ (ve (ρ':=b) (tW O (Ib T M (by omega) (by omega) g.nm g.nd)))).t ?_;refine(tZ (ve (ρ':=b) (tW O (Gm T (by omega) g.Dv r f g.st)))).t ?_;refine(tZ (ve (ρ':=b) (tW O (Ig T (by omega) g.wd)))).t ?_;refine(tZ (ρ':=c) ((uq (vm (Ie T (by omega) O))).t O)).t ?_;refine(tZ (ve (ρ':=c) (tW O (IV dk (w? T) hdk g.d1 g.d2)))).t ?_;refine(tZ (ve (ρ':=c) (tW (tV O (tV O (tV (vm (tW (g:=wZ) (ds:=[TD T,MD M]) O (Dk T M (by omega) e))) O))) (IY g.w8 g.wo g.wn)))).t ?_;refine(tZ (ve (ρ':=c) (tW (g:=yt) (ds:=[VD v6]) (r:=.I) O (Ii)))).t ?_;refine ve (ρ':=c) (tW (g:=wq) (ds:=[TD T,WD W,VD (v6++v9)]) (tV O (tV O (tV ((vm (xU (xs:=v6.map m3) (ys:=v9.map m3) (ρ1:=c) O O ?_)).t (by rw[<-bK])) O))) (Il (by omega) g.wd g.w8 (λw h=>(g.wo w h).hw)));decide
def Nf(T:List Th)(o:T.length<=900)(f:(T.map Th.n).Nodup):E5 [TD T]=Z (.Q (nK T) (T.map d?)):=by
 obtain⟨h,d⟩:=AU (g:=gN 2) (i:=1) (fk:=c1 (ud uw "name") ak) (fv:=cV 2) d? Th.n d? (λb a s=>[.E (TD T),.dk b a,s])
  (λt b a s=>⟨[.E (TD T),.dk b a,.E (d? t)],O,O,O,uQ O (As t),λe c=>⟨_,O⟩⟩) T [] [] .un (by rw[cv];exact Sm f) (by simp;omega) O
 refine uc (ρ:=[.E (TD T),.E (.Q (nK T) (T.map d?)),h]) O ?_;unfold E4;refine(tZ (ρ':=[.E (TD T),.dk [] [],.un]) O).t ?_;refine(tZ ((vz O).t d)).t ?_;rw[cv,cv];rfl
def mP(T:List Th)(M:List Mk):List (Str×Int):=(T.filter λt=>t.k.mk).map (λt=>(t.n,1))++M.map λm=>(m.n,m.mo)
def Ng(T:List Th)(M:List Mk):(mP T M).map eB=si T M:=by unfold mP si;rw[bK,aV,aV];rfl
def Vu(m:Mk):ud zw "most" (O' m)=Z (.int m.mo):=rfl
theorem Fg{a b e:Sl}:∀(l:List Th) (c:List dt) (d:List L4.D) (s:Sl),(c++(l.filter λt=>t.k.mk).map λt=>kS t.n).Nodup->c.length+l.length<=900->d.length=c.length->
  ∃j,fh (gN 3) (fc (cT (uo v7 "has_mark" aw uI)) (yd 2 (c1 (ud uw "name") aw) aU) uk) (l.map d?) [a,b,.dk c d,s,e]=Z (.nx [a,b,.dk (c++(l.filter λt=>t.k.mk).map λt=>kS t.n) (d++(l.filter λt=>t.k.mk).map λ_=>.int 1),j,e])
 |[],c,d,s,_,_,_=>⟨s,by simp;rfl⟩
 |t::l,c,d,s,f,u,r=>by
  rw[aS]at u;let m:aP:=[a,b,.dk c d,.E (d? t),e];have o:cT (uo v7 "has_mark" aw uI) m=Z (t.k.mk,m):=u4 (uA (xs:=[.str t.n,.c3 (t.w.map D.str),.str t.k.s,oS t.s]) (ys:=[]) O O O O (Ol t));rw[aA];unfold fh;rw[show gN 3 (d? t) [a,b,.dk c d,s,e]=Z m from O];cases h:t.k.mk with
  |true=>
   rw[h]at o;rw[kq (p:=λt:Th=>t.k.mk) h,aA]at f;rw[kq (p:=λt:Th=>t.k.mk) h];have y:kS t.n∉c:=λz=>by rw[bZ]at f;exact f.2.2 _ z _ aN O
   obtain⟨j,q⟩:=Fg (a:=a) (b:=b) (e:=e) l (c++[kS t.n]) (d++[.int 1]) (.E (d? t)) (by rw[cc];exact f) (by rw[aR,cR];omega) (by simp[r]);refine⟨j,?_⟩;simp only[(uE o).t (LU (i:=2) (fk:=c1 (ud uw "name") aw) (fv:=cC (.int 1)) (ρ:=m) (x:=t.n) O O (uQ O (As t)) y (by omega) r)];refine Eq.t q ?_;rw[cc,cc];rfl
  |false=>rw[h]at o;rw[m5 (p:=λt:Th=>t.k.mk) (by rw[h];exact bx)]at f ⊢;obtain⟨j,q⟩:=Fg (a:=a) (b:=b) (e:=e) l c d (.E (d? t)) f (by omega) r;refine⟨j,?_⟩;simp only[uN o,uk];exact q
def mD(T:List Th)(M:List Mk):L4.D:=.Q ((mP T M).map λq=>kS q.1) ((mP T M).map λq=>.int q.2)
def e4.ndK(g:e4 T M dk W):(si T M).Nodup:=by unfold si;have h:=bZ.1 g.nd;refine bZ.2 ⟨tI (fi.map _) h.1,h.2.1,λx b y c=>h.2.2 x ?_ y c⟩;obtain⟨t,a,rfl⟩:=av.1 b;exact bP (bc.1 a).1
def Sq(g:e4 T M dk W):((mP T M).map λq=>kS q.1).Nodup:=by have:=AE g.ndK;rw[<-Ng,aV]at this;exact this
def Sr(g:e4 T M dk W):yX [TD T,MD M]=Z (mD T M):=by
 have h:=Sq g;have B:=g.len;have C:=g.m4;have l:(mP T M).map (λq=>kS q.1)=(T.filter λt=>t.k.mk).map (λt=>kS t.n)++M.map λm=>kS m.n:=by unfold mP;rw[bK,aV,aV];rfl
 have d:(mP T M).map (λq=>D.int q.2)=(T.filter λt=>t.k.mk).map (λ_=>D.int 1)++M.map λm=>D.int m.mo:=by unfold mP;rw[bK,aV,aV];rfl
 rw[l]at h;have A:=cU (λt:Th=>t.k.mk) T;obtain⟨j,o⟩:=Fg (a:=.E (TD T)) (b:=.E (MD M)) (e:=.un) T [] [] .un (by rw[cv];exact(bZ.1 h).1) (by simp;omega) O;rw[cv,cv]at o;obtain⟨w,r⟩:=AU (g:=gN 4) (i:=2) (fk:=c1 (ud uw "name") az) (fv:=c1 (ud zw "most") az) O' Mk.n (λm=>.int m.mo) (λf c s=>[.E (TD T),.E (MD M),.dk f c,j,s])
  (λm f c s=>⟨[.E (TD T),.E (MD M),.dk f c,j,.E (O' m)],O,uQ O (Vu m),O,uQ O (KD m),λu p=>⟨_,O⟩⟩) M ((T.filter λt=>t.k.mk).map λt=>kS t.n) ((T.filter λt=>t.k.mk).map λ_=>.int 1) .un h (by rw[aq];omega) (by rw[aq,aq])
 refine uc (ρ:=[.E (TD T),.E (MD M),.E (mD T M),j,w]) O ?_;unfold yW;refine(tZ (ρ':=[.E (TD T),.E (MD M),.dk [] [],.un,.un]) O).t ?_;refine(tZ ((vz O).t o)).t ((tZ ((vz O).t r)).t ?_);unfold mD;rw[l,d];rfl
def Io(T:List Th)(b:T.length<=1000)(ns:aH)(fm:List L4.D)(k:Kd):yZ [.obj 14 ("kept_things" ::ns) (TD T::fm),.str k.s]=Z (.b3 ((T.filter λt=>decide (t.k=k)).map λt=>D.str t.n)):=by let a:aP:=[.E (.obj 14 ("kept_things" ::ns) (TD T::fm)),.E (.str k.s)];refine BY (ρ:=a) O ?_;exact xn (xF d? (λt=>D.str t.n) (λt=>decide (t.k=k)) T (ρ1:=a) O b λt _=>⟨[.E (d? t),.E (.str k.s)],[.E (d? t),.E (.str k.s)],O,u4 (ua (uQ O (zM t)) O (Ga t.k k)),λ_=>⟨_,uQ O (As t),O⟩,λ_=>O⟩)
end
def vwD(V:List Vb):L4.D:=.Q (V.flatMap λv=>v.ws.map kS) (V.flatMap λv=>v.ws.map λ_=>m3 v)
def abx:yY [VD (v6++v9)]=Z (vwD (v6++v9)):=by kernel_rfl
theorem Ss:∀V:List Vb,(V.flatMap λv=>v.ws.map kS).zip (V.flatMap λv=>v.ws.map λ_=>m3 v)=V.flatMap λv=>v.ws.map λx=>(kS x,m3 v)
 |[]=>rfl
 |v::V=>by rw[fV,fV,fV,lg (by rw[aq,aq]),Ss V,iJ]
def KJ{V:List Vb}(b:(V.flatMap Vb.ws).Nodup){v:Vb}(a:v∈V):Bw (vwD V) (.str v.n)=Z (m3 v):=by
 show Z ((vI (V.flatMap λv=>v.ws.map kS) (V.flatMap λv=>v.ws.map λ_=>m3 v) (kS v.n)).getD .I)=_;rw[AF (d:=m3 v)]
 .rfl
 .have:=AE b;rw[List.map_flatMap]at this;exact this
 .rw[Ss];exact eM.2 ⟨v,a,av.2 ⟨v.n,aN,O⟩⟩
def qi:aH:=["kept_things", "kept_marks", "kept_dark", "kept_ways", "kept_verbs", "shared_verbs", "your_name", "things_by_name", "mosts_by_name", "verbs_by_word", "kept_rules", "shared_rules", "copied_rules", "rules_by_verb"]
def gd(T:List Th)(M:List Mk)(dk:aH)(W:List Wy)(V:List Vb):L4.D:=.obj 14 (qi.take 10) [TD T,MD M,.b3 (dk.map D.str),WD W,VD V,VD v9,.str "self", .Q (nK T) (T.map d?),mD T M,vwD (V++v9)]
def vr:aH:=["one", "two", "alone", "way"]
def xL:aH:="here" ::nmL
def ZJ:(vr.all λf=>xL.all λx=>isF (vg [.str f,.str x]))=γ:=by kernel_rfl
def JS{f x:Str}(a:f∈vr)(b:x∈xL):vg [.str f,.str x]=Z (.O δ):=M8 (ba.1 (ba.1 ZJ f a) x b)
def ZL:(vr.all λf=>nmL.all λx=>isF (yh [.str f,.str x]))=γ:=by kernel_rfl
def Wg{f x:Str}(a:f∈vr)(b:x∈nmL):yh [.str f,.str x]=Z (.O δ):=M8 (ba.1 (ba.1 ZL f a) x b)
def Su{f:Str}(a:f∈vr):yh [.str f,.str "here"]=Z (.O γ):=Cu (ba.1 (show (vr.all λf=>isT (yh [.str f,.str "here"]))=γ by kernel_rfl) f a)
def By(f x:Str):Prop:=(x="it" /\ f∈(["one", "two"]:aH))\/(x="other" /\ f="two")
def KL{f x:Str}(h:By f x):vg [.str f,.str x]=Z (.O γ):=by
 rcases h with ⟨rfl,h⟩|⟨rfl,rfl⟩
 .exact Cu (ba.1 (show ((["one", "two"]:aH).all λf=>isT (vg [.str f,.str "it"]))=γ by kernel_rfl) f h)
 .kernel_rfl
def Tm(f:Str)(N:aH)(x:Str):Prop:=x∈N\/x="here" \/ By f x
section
variable{T:List Th}{M:List Mk}{dk:aH}{W:List Wy}{V:List Vb}{f:Str}
def PN(g:e4 T M dk W){t:Th}(h:t∈T):t.n∈nmL:=g.nm _ (bL _ (bP h))
def aby(g:e4 T M dk W){t:Th}(h:t∈T):vE [gd T M dk W V,.str t.n]=Z (d? t):=by
 have e:vE [gd T M dk W V,.str t.n]=Z ((vI (nK T) (T.map d?) (kS t.n)).getD .I):=by kernel_rfl
 rw[e,EH g.Dv d? h];rfl
def abz(g:e4 T M dk W){q:Str×Int}(h:q∈mP T M):vS [gd T M dk W V,.str q.1]=Z (.int q.2):=by
 have e:vS [gd T M dk W V,.str q.1]=Z ((vI ((mP T M).map λq=>kS q.1) ((mP T M).map λq=>.int q.2) (kS q.1)).getD .I):=by kernel_rfl
 rw[e,AF (d:=.int q.2) (Sq g)]
 .rfl
 .rw[iJ];exact bP (f:=λq:Str×Int=>(kS q.1,D.int q.2)) h
def Ip{c:FT}{e a:FE}{ρ ρ1:aP}(h:c ρ=Z (γ,ρ1)):xr c e a ρ=e ρ1:=by unfold xr;rw[h]
def nmd(g:e4 T M dk W){t:Th}(h:t∈T):zb [gd T M dk W V,.str t.n]=Z (d? t):=by let a:aP:=[.E (gd T M dk W V),.E (.str t.n)];refine uc (ρ:=a) O (uf ?_);refine(Ip (ρ1:=a) O).t ?_;exact uA (hh:=vE) (ys:=[.str t.n]) (ρ1:=a) (ρ2:=a) O O O O (aby g h)
def DR(g:e4 T M dk W)(d:f∈vr){x:Str}(h:Tm f (T.map Th.n) x):AR [gd T M dk W V,.str f,.str x]=Z (.O γ):=by
 let b:aP:=[.E (gd T M dk W V),.E (.str f),.E (.str x)];refine uc (ρ:=b) O (uf ?_);rcases h with h|rfl|h
 .obtain⟨t,e,rfl⟩:=av.1 h;refine(EI (tW (ρ1:=b) (ds:=[.str f,.str t.n]) O (JS d (aQ _ (PN g e))))).t ((EI (tW (ρ1:=b) (ds:=[.str f,.str t.n]) O (Wg d (PN g e)))).t ?_);exact ua (tW (ρ1:=b) (ds:=[gd T M dk W V,.str t.n]) O (nmd g e)) O O
 .exact(EI (tW (ρ1:=b) (ds:=[.str f,.str "here"]) O (JS d aN))).t (KI (tW (ρ1:=b) (ds:=[.str f,.str "here"]) O (Su d)))
 .exact KI (tW (ρ1:=b) (ds:=[.str f,.str x]) O (KL h))
def hd_T{x:Str}(h:x∈pw T):∃t∈T,t.n=x/\t.k.hd=γ:=by obtain⟨t,a,rfl⟩:=av.1 h;exact⟨t,(bc.1 a).1,O,(bc.1 a).2⟩
def LV{c a:FT}{ρ ρ1:aP}(b:c ρ=Z (γ,ρ1)):xg c a ρ=Z (γ,ρ1):=by unfold xg;rw[b]
def Gb(g:e4 T M dk W)(j:f∈vr){x:Str}(h:Tm f (pw T) x):Bj [gd T M dk W V,.str f,.str x]=Z (.O γ):=by
 let b:aP:=[.E (gd T M dk W V),.E (.str f),.E (.str x)];refine uc (ρ:=b) O ?_;unfold DG;rcases h with h|rfl|h
 .obtain⟨t,l,rfl,p⟩:=hd_T h;refine(tZ (ρ':=b) ((uN (ρ':=b) (yQ (ρ1:=b) (u4 (tW (ds:=[.str f,.str t.n]) O (JS j (aQ _ (PN g l))))) (u4 (tW (ds:=[.str f,.str t.n]) O (Wg j (PN g l)))))).t O)).t (uf ?_);have e:=nmd (V:=V) g l;refine(uv (ua (tW (ρ1:=b) (ds:=[gd T M dk W V,.str t.n]) O e) O O)).t ?_;have o:=uA (g:=vc) (m:="can_hold") (hh:=yg) (a:=uI) (ys:=[]) (ρ1:=b) (ρ2:=b) (xs:=[.str t.n,.c3 (t.w.map D.str),.str t.k.s,oS t.s]) (tW (g:=zb) (a:=ax aa cn) (ρ:=b) (ρ1:=b) (ds:=[gd T M dk W V,.str t.n]) O e) O O O (KC t);rw[p]at o;exact o
 .exact uu ((uE (ρ':=b) (yQ (ρ1:=b) (u4 (tW (ds:=[.str f,.str "here"]) O (JS j aN))) (u4 (tW (ds:=[.str f,.str "here"]) O (Su j))))).t O)
 .exact uu ((uE (ρ':=b) (LV (u4 (tW (ds:=[.str f,.str x]) O (KL h))))).t O)
def Wh(g:e4 T M dk W){t:Th}(h:t∈T)(k:Kd):zc [gd T M dk W V,.str t.n,.str k.s]=Z (.O (decide (t.k=k))):=by let a:aP:=[.E (gd T M dk W V),.E (.str t.n),.E (.str k.s)];refine uc (ρ:=a) O (uf ?_);have e:=nmd (V:=V) g h;exact(uv (ua (tW (ρ1:=a) (ds:=[gd T M dk W V,.str t.n]) O e) O O)).t (ua (uQ (tW (ρ1:=a) (ds:=[gd T M dk W V,.str t.n]) O e) (zM t)) O (Ga t.k k))
def Mv(T:List Th)(f x:Str):Prop:=(∃t∈T,t.n=x/\t.k≠.room)\/By f x
def LW(g:e4 T M dk W)(i:f∈vr){x:Str}(h:Mv T f x):DI [gd T M dk W V,.str f,.str x]=Z (.O γ):=by
 let a:aP:=[.E (gd T M dk W V),.E (.str f),.E (.str x)];refine uc (ρ:=a) O ?_;unfold DH;rcases h with ⟨t,d,rfl,j⟩|h
 .refine(tZ (ρ':=a) ((uN (ρ':=a) (u4 (tW (ds:=[.str f,.str t.n]) O (JS i (aQ _ (PN g d)))))).t O)).t (uf ?_);refine(uv (ua (tW (ρ1:=a) (ds:=[gd T M dk W V,.str t.n]) O (nmd g d)) O O)).t ((KH (tW (ρ1:=a) (ds:=[gd T M dk W V,.str t.n,.str Kd.room.s]) O (Wh g d .room))).t ?_);rw[bj j];rfl
 .exact uu ((uE (ρ':=a) (u4 (tW (ds:=[.str f,.str x]) O (KL h)))).t O)
def Mt(T:List Th)(M:List Mk)(f:Str)(q:Str×Int):Prop:=q∈mP T M\/(By f q.1/\q.2<=3)
def Sv(g:e4 T M dk W){q:Str×Int}(h:q∈mP T M):q.1∈nmL:=by
 refine g.nm _ ?_;have a:q.1∈si T M:=by rw[<-Ng];exact bP h
 rcases bb.1 a with a|a
 .obtain⟨t,b,e⟩:=av.1 a;exact bL _ (by rw[<-e];exact bP (bc.1 b).1)
 .exact bE _ a
def Dl(g:e4 T M dk W)(p:f∈vr){q:Str×Int}(h:Mt T M f q){v:Int}(t:0<=v)(o:v<=q.2):xt [gd T M dk W V,.str f,.str q.1,.int v]=Z (.O γ):=by
 let a:aP:=[.E (gd T M dk W V),.E (.str f),.E (.str q.1),.E (.int v),.un];have l:cT (c2 MG aw aE) a=Z (δ,a):=by show Z (decide (v<0),a)=_;rw[bj (by omega)]
 have j:fc (xg (vF (cT (tY zA ig))) (cT (c2 MG aw aE))) (ue bJ) uk a=Z (.nx a):=(uN (ρ':=a) (yQ (ρ1:=a) (xp (b:=γ) (u4 (tW (ds:=[.int v]) O (by kernel_rfl)))) l)).t O;rcases h with h|⟨h,u⟩
 .let e:aP:=[.E (gd T M dk W V),.E (.str f),.E (.str q.1),.E (.int v),.E (.int q.2)];refine uc (ρ:=e) O ?_;unfold xq;refine(tZ j).t ((tZ (ρ':=a) ((uN (ρ':=a) (u4 (tW (ds:=[.str f,.str q.1]) O (JS p (aQ _ (Sv g h)))))).t O)).t ?_);have m:xr (cT (c1 (u7 (vG "str")) ak)) (uo vM "most_of" aa cn) aG a=Z (.int q.2,a):=by refine(Ip (ρ1:=a) O).t ?_;exact uA (hh:=vS) (ys:=[.str q.1]) (ρ1:=a) (ρ2:=a) O O O O (abz g h)
  refine(tZ (ρ':=e) ((uq m).t O)).t (uf ((uv (ρ1:=e) O).t (Om (x:=v) (y:=q.2) O O o)))
 .refine uc (ρ:=a) O ?_;unfold xq;refine(tZ j).t (uu ((uE (ρ':=a) (u4 (tW (ds:=[.str f,.str q.1]) O (KL h)))).t (uf (Om (x:=v) (y:=3) O O (by omega)))))
def atO(a b:Str):L4.D:=.obj 3 ["term", "place"] [.str a,.str b]
def hsO(a:Str):L4.D:=.obj 4 ["term"] [.str a]
def seO(a:Str):L4.D:=.obj 5 ["term"] [.str a]
def V'(a:Str)(v:Int):L4.D:=.obj 6 ["term", "value"] [.str a,.int v]
def kiO(a k:Str):L4.D:=.obj 7 ["term", "kind"] [.str a,.str k]
def woO(a:Str):L4.D:=.obj 8 ["word"] [.str a]
def noO(d:L4.D):L4.D:=.obj 9 ["inner"] [d]
def boO(d e:L4.D):L4.D:=.obj 10 ["one", "other"] [d,e]
def Rn(a b:Str):L4.D:=.obj 11 ["term", "place"] [.str a,.str b]
def puO(a:Str)(v:Int):L4.D:=.obj 12 ["term", "value"] [.str a,.int v]
def liO:L4.D:=.obj 15 [] []
def Tk(w:L4.D)(f:Str)(n:Nat)(d:L4.D):Prop:=u1 16 14 d=γ/\∀j:Nat,n<j->j<=4->xK j [w,.str f,d,.int j]=Z (.O γ)
def Sw{w:L4.D}{a b:Sl}(j:Nat):fc (cT (c2 (eo δ) aw aE)) (ue bJ) uk [.E w,a,b,.E (.int ((j+1:Nat):Int))]=Z (.nx [.E w,a,b,.E (.int ((j+1:Nat):Int))]):=
 (uN (u4 (ua (x:=.int ((j+1:Nat):Int)) (y:=.int 0) O O ((y9 δ _ 0).t (by rw[bj (by omega:¬((j+1:Nat):Int)=0)];rfl))))).t O
def yn{w d:L4.D}{n:Nat}(c:u7 R9 d=Z (.O δ))(e:u7 M6 d=Z (.O δ))(i:u1 16 14 d=γ)(h:y4 [w,.str f,d]=Z (.O γ)):Tk w f n d:=⟨i,λj m _=>by
 obtain⟨j,rfl⟩:∃k,j=k+1:=⟨j - 1,by omega⟩;let b:aP:=[.E w,.E (.str f),.E d,.E (.int ((j+1:Nat):Int))];refine uc (ρ:=b) O ?_;unfold xJ;exact(tZ (Sw j)).t ((tZ (ρ':=b) ((uN (ρ':=b) (u4 (uQ O c))).t O)).t ((tZ (ρ':=b) ((uN (ρ':=b) (u4 (uQ O e))).t O)).t (uf (tW (ds:=[w,.str f,d]) O h))))⟩
def ZM{ρ:aP}{j:Nat}(h:cV 3 ρ=Z (.int ((j+1:Nat):Int),ρ)):c2 NO aw aU ρ=Z (.int j,ρ):=(ua h O O).t (by
 show Z (D.int (((j+1:Nat):Int) - 1),ρ)=_;rw[show ((j+1:Nat):Int) - 1=j by omega])
def LX{w d:L4.D}{n:Nat}(h:Tk w f n d):Tk w f (n+1) (noO d):=⟨by
 have e:u1 16 14 (noO d)=(u1 16 14 d&&γ):=by kernel_rfl
 rw[e,h.1];rfl,λj l i=>by
 obtain⟨j,rfl⟩:∃k,j=k+1:=⟨j - 1,by omega⟩;let a:aP:=[.E w,.E (.str f),.E (noO d),.E (.int ((j+1:Nat):Int))];refine uc (ρ:=a) O ?_;unfold xJ;refine(tZ (Sw j)).t (uu ((uE (ρ':=a) O).t (uf ?_)));exact tW (ds:=[w,.str f,d,.int j]) (tV O (tV O (tV O (tV (ZM O) O)))) (h.2 j (by omega) (by omega))⟩
def PQ{w d e:L4.D}{n:Nat}(h:Tk w f n d)(c:Tk w f n e):Tk w f (n+1) (boO d e):=⟨by
 have q:u1 16 14 (boO d e)=(u1 16 14 d&&(u1 16 14 e&&γ)):=by kernel_rfl
 rw[q,h.1,c.1];rfl,λj o m=>by
 obtain⟨j,rfl⟩:∃k,j=k+1:=⟨j - 1,by omega⟩;let a:aP:=[.E w,.E (.str f),.E (boO d e),.E (.int ((j+1:Nat):Int))];refine uc (ρ:=a) O ?_;unfold xJ;refine(tZ (Sw j)).t ((tZ (ρ':=a) ((uN (ρ':=a) O).t O)).t (uu ((uE (ρ':=a) O).t (uf ((uv (ρ1:=a) ?_).t ?_)))))
 .exact tW (ds:=[w,.str f,d,.int j]) (tV O (tV O (tV O (tV (ZM O) O)))) (h.2 j (by omega) (by omega))
 .exact tW (ds:=[w,.str f,e,.int j]) (tV O (tV O (tV O (tV (ZM O) O)))) (c.2 j (by omega) (by omega))⟩
end
section
variable{T:List Th}{M:List Mk}{dk:aH}{W:List Wy}{V:List Vb}{f:Str}{n:Nat}
def abA(g:e4 T M dk W)(d:f∈vr){a b:Str}(h:Tm f (T.map Th.n) a)(i:Tm f (pw T) b):Tk (gd T M dk W V) f n (atO a b):=yn O O O (by
 let c:aP:=[.E (gd T M dk W V),.E (.str f),.E (atO a b)];refine uc (ρ:=c) O ?_;unfold vJ;exact uu ((uE (ρ':=c) O).t (uf ((uv (tW (ρ1:=c) (ds:=[gd T M dk W V,.str f,.str a]) O (DR g d h))).t (tW (ds:=[gd T M dk W V,.str f,.str b]) O (Gb g d i))))))
def vy{c:FT}{e:FS}{ρ:aP}{h:FS}(q:c ρ=Z (δ,ρ)):bt (fc c e uk) h ρ=h ρ:=tZ ((uN q).t O)
def ZP(g:e4 T M dk W)(d:f∈vr){a:Str}(c:Tm f (T.map Th.n) a):Tk (gd T M dk W V) f n (hsO a):=yn O O O (by
 let b:aP:=[.E (gd T M dk W V),.E (.str f),.E (hsO a)];refine uc (ρ:=b) O ?_;unfold vJ;exact(vy (ρ:=b) O).t (uu ((uE (ρ':=b) O).t (uf (tW (ds:=[gd T M dk W V,.str f,.str a]) O (DR g d c))))))
def Vv(g:e4 T M dk W)(d:f∈vr){a:Str}(c:Tm f (T.map Th.n) a):Tk (gd T M dk W V) f n (seO a):=yn O O O (by
 let b:aP:=[.E (gd T M dk W V),.E (.str f),.E (seO a)];refine uc (ρ:=b) O ?_;unfold vJ;exact(vy (ρ:=b) O).t (uu ((uE (ρ':=b) O).t (uf (tW (ds:=[gd T M dk W V,.str f,.str a]) O (DR g d c))))))
def Os(g:e4 T M dk W)(d:f∈vr){q:Str×Int}(h:Mt T M f q){v:Int}(b:0<=v)(c:v<=q.2):Tk (gd T M dk W V) f n (V' q.1 v):=yn O O O (by
 let a:aP:=[.E (gd T M dk W V),.E (.str f),.E (V' q.1 v)];refine uc (ρ:=a) O ?_;unfold vJ;exact(vy (ρ:=a) O).t ((vy (ρ:=a) O).t (uu ((uE (ρ':=a) O).t (uf (tW (ds:=[gd T M dk W V,.str f,.str q.1,.int v]) O (Dl g d h b c)))))))
def Vw{w:L4.D}{x:Str}(c:x∈(["north", "south"]:aH)):Tk w "way" n (woO x):=yn O O O (by
 let a:aP:=[.E w,.E (.str "way"),.E (woO x)];refine uc (ρ:=a) O ?_;unfold vJ;have b:wX [.str x]=Z (.O γ):=Cu (ba.1 (show ((["north", "south"]:aH).all λx=>isT (wX [.str x]))=γ by kernel_rfl) x c);exact(vy (ρ:=a) O).t ((vy (ρ:=a) O).t ((vy (ρ:=a) O).t ((vy (ρ:=a) O).t (uu ((uE (ρ':=a) O).t (uf ((uv (ρ1:=a) O).t (tW (ds:=[.str x]) O b)))))))))
def ZQ{w:L4.D}:Tk w f n liO:=yn O O O (by kernel_rfl)
def Dd(w:L4.D)(f:Str)(d:L4.D):Prop:=u1 16 14 d=γ/\E9 [w,.str f,d]=Z (.O γ)
def Sx(g:e4 T M dk W)(d:f∈vr){q:Str×Int}(h:Mt T M f q){v:Int}(b:0<=v)(c:v<=q.2):Dd (gd T M dk W V) f (puO q.1 v):=⟨O,by
 let a:aP:=[.E (gd T M dk W V),.E (.str f),.E (puO q.1 v)];refine uc (ρ:=a) O ?_;unfold CK;exact uu ((uE (ρ':=a) O).t (uf (tW (ds:=[gd T M dk W V,.str f,.str q.1,.int v]) O (Dl g d h b c))))⟩
def Ot(g:e4 T M dk W)(l:f∈vr){a b:Str}(p:Mv T f a)(q:Tm f (pw T) b)(r:a="self" -> ∃t∈T,t.n=b/\t.k=.room):Dd (gd T M dk W V) f (Rn a b):=⟨O,by
 let c:aP:=[.E (gd T M dk W V),.E (.str f),.E (Rn a b)];have e:E8 [gd T M dk W V,.str f,Rn a b]=Z (.O γ):=by
  refine uc (ρ:=c) O ?_;unfold E7;refine(vy (ρ:=c) (yQ (ρ1:=c) (xp (b:=γ) (u4 (tW (ds:=[gd T M dk W V,.str f,.str a]) O (LW g l p)))) (xp (b:=γ) (u4 (tW (ds:=[gd T M dk W V,.str f,.str b]) O (Gb g l q)))))).t (uf ?_);have d:c2 (eo γ) (c1 (ud AK "term") ak) (uo zj "you" aa uI) c=Z (.O (!decide (a="self")),c):=ua (x:=.str a) (y:=.str "self") O O (wg γ a "self");by_cases h:a="self"
  .obtain⟨t,u,m,o⟩:=r h;rw[bf h]at d;refine(EI d).t (tW (ds:=[gd T M dk W V,.str b,.str Kd.room.s]) O ?_);rw[<-m,Wh g u .room,bf o]
  .rw[bj h]at d;exact KI d
 refine uc (ρ:=c) O ?_;unfold CK;exact(vy (ρ:=c) O).t (uf ((uv (ρ1:=c) O).t (tW (ds:=[gd T M dk W V,.str f,Rn a b]) O e)))⟩
end
inductive Ts(T:List Th) (M:List Mk) (f:Str):Nat->L4.D->Prop
 |ats {n:Nat} {a b:Str} (ha:Tm f (T.map Th.n) a) (hb:Tm f (pw T) b):Ts T M f n (atO a b)
 |has {n:Nat} {a:Str} (ha:Tm f (T.map Th.n) a):Ts T M f n (hsO a)
 |seen {n:Nat} {a:Str} (ha:Tm f (T.map Th.n) a):Ts T M f n (seO a)
 |mark {n:Nat} {q:Str×Int} {v:Int} (h:Mt T M f q):Ts T M f n (V' q.1 v)
 |kind {n:Nat} {a k:Str} (ha:Tm f (T.map Th.n) a):Ts T M f n (kiO a k)
 |word {n:Nat} {x:Str} (hf:f="way"):Ts T M f n (woO x)
 |lit {n:Nat}:Ts T M f n liO
 |no {n:Nat} {d:L4.D} (h:Ts T M f n d):Ts T M f (n+1) (noO d)
 |bo {n:Nat} {d e:L4.D} (h:Ts T M f n d) (h':Ts T M f n e):Ts T M f (n+1) (boO d e)
def Tq(T:List Th)(M:List Mk)(w:L4.D)(f:Str)(n:Nat)(d:L4.D):Prop:=Tk w f n d/\Ts T M f n d
def Mr(T:List Th)(M:List Mk)(m:Str->Int):Prop:=∀q∈mP T M,0<=m q.1/\m q.1<=q.2
inductive Ds(T:List Th) (M:List Mk) (f:Str):L4.D->Prop
 |put {q:Str×Int} {v:Int} (h:Mt T M f q) (h0:0<=v):Ds T M f (puO q.1 v)
 |X1 {a b:Str} (ha:Mv T f a) (hb:Tm f (pw T) b) (hm:a="self" -> ∃t∈T,t.n=b/\t.k=.room):Ds T M f (Rn a b)
def Dq(T:List Th)(M:List Mk)(w:L4.D)(f:Str)(d:L4.D):Prop:=Dd w f d/\Ds T M f d
def gl:List dt->List (List L4.D)->dt->List L4.D
 |k::b,a::dss,j=>if k=j then a else gl b dss j
 |_,_,_=>[]
theorem Ou:∀(a:List dt) (dss:List (List L4.D)) (j:dt),(vI a (dss.map .b3) j).getD (.b3 [])=.b3 (gl a dss j)
 |[],dss,j=>by cases dss<;>rfl
 |k::a,[],j=>rfl
 |k::a,b::dss,j=>by
  rw[aA];unfold vI gl;by_cases h:k=j
  .rw[aj h,aj h];rfl
  .rw[ai h,ai h];exact Ou a dss j
theorem Sy{d:L4.D}{k j:dt}:∀(a:List dt) (dss:List (List L4.D)),a.length=dss.length->(k=j->k∈a)->gl a (gh (λi c=>if i=k then c++[d]else c) a dss) j=gl a dss j++if k=j then [d]else []
 |[],[],_,f=>by rw[ai λh=>(by cases f h)];rfl
 |[],_::_,h,_=>by cases h
 |_::_,[],h,_=>by cases h
 |k0::a,c::dss,h,f=>by
  rw[iw];unfold gl;by_cases e:k0=j
  .subst e;rw[aj O,aj O];by_cases b:k0=k
   .rw[aj b,aj b.symm]
   .rw[ai b,ai λz=>b z.symm,bR]
  .rw[ai e,ai e];exact Sy a dss (by simpa using h) λz=>by
    rcases aK.1 (f z)with y|y
    .exact ao (y.symm.t z) e
    .exact y
theorem SA{d:L4.D}{k j:dt}:∀(a:List dt) (dss:List (List L4.D)),a.length=dss.length->k∉a->gl (a++[k]) (dss++[[d]]) j=gl a dss j++if k=j then [d]else []
 |[],[],_,_=>rfl
 |[],_::_,h,_=>by cases h
 |_::_,[],h,_=>by cases h
 |k0::a,c::dss,h,b=>by
  rw[kZ,kZ];unfold gl;by_cases e:k0=j
  .rw[aj e,aj e,ai λz=>b (by rw[z,e];exact aN),bR]
  .rw[ai e,ai e];exact SA a dss (by simpa using h) λz=>b (aQ _ z)
theorem SB{d:L4.D}{k:dt}{P Q:List L4.D->Prop}(e:∀a,P a->Q a)(f:∀a,P a->Q (a++[d])):∀(c:List dt) (dss:List (List L4.D)),(∀a∈dss,P a)->∀x∈gh (λi a=>if i=k then a++[d]else a) c dss,Q x
 |[],_,_,x,b=>by cases b
 |_::_,[],_,x,b=>by cases b
 |k0::c,a::dss,h,x,b=>by
  rw[iw]at b;rcases aK.1 b with rfl|b
  .have:=h a aN;split
   .exact f _ this
   .exact e _ this
  .exact SB e f c dss (λa hd=>h a (aQ _ hd)) x b
theorem Iq{d:L4.D}(hd:u1 16 14 d=γ):∀a:List L4.D,yB 16 14 a=γ->yB 16 14 (a++[d])=γ
 |[],_=>by rw[cv];unfold yB;rw[hd];rfl
 |x::a,h=>by rw[kZ];unfold yB at h ⊢;rw[aX]at h ⊢;exact⟨h.1,Iq hd a h.2⟩
theorem AV:∀ds:List L4.D,(∀d∈ds,u1 16 14 d=γ)->yB 16 14 ds=γ
 |[],_=>by unfold yB;rfl
 |x::ds,h=>by unfold yB;rw[aX];exact⟨h x aN,AV ds λd hd=>h d (aQ _ hd)⟩
def kv(d:L4.D):dt:=match ud xZ "verb" d with
 |some x=>(AB x).getD (.inl 0)
 |none=>.inl 0
def gK(d:L4.D):Bool:=(match ud xZ "verb" d with
 |some x=>(AB x).isSome
 |none=>δ)&&u1 16 14 d
def abB{d:L4.D}(h:gK d=γ):∃x,ud xZ "verb" d=Z x/\AB x=Z (kv d):=by
 unfold gK at h;rw[aX]at h;obtain⟨h,_⟩:=h;unfold kv;split at h
 .rename_i x e;rw[e];cases a:AB x with
  |none=>rw[a]at h;cases h
  |some y=>exact⟨x,O,a⟩
 .cases h
theorem SC:∀(L:List L4.D) (a:List dt) (dss:List (List L4.D)),(∀d∈L,gK d=γ)->a.length=dss.length->a.length+L.length<1000->(∀ds∈dss,ds.length+L.length<1000/\yB 16 14 ds=γ)->
  ∃b dss',BX (ud xZ "verb") L a dss=Z (b,dss')/\(∀j,gl b dss' j=gl a dss j++L.filter λd=>decide (kv d=j))/\∀ds∈dss',yB 16 14 ds=γ
 |[],a,dss,_,_,_,h=>⟨a,dss,O,λj=>by rw[List.filter_nil,bR],λds hd=>(h ds hd).2⟩
 |d::L,a,dss,i,f,p,h=>by
  rw[aS]at p;have hL:∀ds∈dss,ds.length+L.length+1<1000/\yB 16 14 ds=γ:=λds hd=>⟨by have:=(h ds hd).1;rw[aS]at this;omega,(h ds hd).2⟩;have e:=i d aN;have l:u1 16 14 d=γ:=by unfold gK at e;rw[aX]at e;exact e.2
  obtain⟨x,m,o⟩:=abB e;have st:(A8 a dss (kv d) d).1.length=(A8 a dss (kv d) d).2.length/\(A8 a dss (kv d) d).1.length+L.length<1000/\(∀ds∈(A8 a dss (kv d) d).2,ds.length+L.length<1000/\yB 16 14 ds=γ)/\∀j,gl (A8 a dss (kv d) d).1 (A8 a dss (kv d) d).2 j=gl a dss j++if kv d=j then [d]else []:=by
   unfold A8;by_cases c:Gh a (kv d)=γ
   .rw[aj c];refine⟨by simp only[kC];omega,by simp only;omega,SB (P:=λds=>ds.length+L.length+1<1000/\yB 16 14 ds=γ) (λds h=>⟨by omega,h.2⟩) (λds h=>⟨by rw[aR,cR];omega,Iq l ds h.2⟩) a dss hL,λj=>Sy a dss f λ_=>D7.1 c⟩
   .rw[ai c];refine⟨by simp[f],by simp only[aR,cR];omega,λds hd=>?_,λj=>SA a dss f λz=>c (D7.2 z)⟩;rcases bb.1 hd with hd|hd
    .exact⟨by have:=(hL ds hd).1;omega,(hL ds hd).2⟩
    .rw[aW.1 hd];exact⟨by simp only[cR];omega,Iq l [] (by unfold yB;rfl)⟩
  obtain⟨u,w,y,A⟩:=st;obtain⟨b,dss',r,t,q3⟩:=SC L (A8 a dss (kv d) d).1 (A8 a dss (kv d) d).2 (λx q=>i x (aQ _ q)) u w y;refine⟨b,dss',?_,λj=>?_,q3⟩
  .unfold BX;simp only[m,o];rw[aj]
   .exact r
   .rw[aX];refine⟨bf (by omega),ba.2 λds hd=>bf (by have:=(hL ds hd).1;omega)⟩
  .rw[t j,A j,fW,cc];by_cases c:kv d=j
   .simp[c]
   .simp[c]
def ruN:aH:=["verb", "tests", "deeds", "text", "refuses"]
def p?(v:Str)(b ds:List L4.D)(c:Str)(a:Bool):L4.D:=.obj 13 ruN [.str v,.b3 b,.b3 ds,.str c,.O a]
structure ZR(w d:L4.D):Prop where
 r:Fc [w,d]=Z (.O γ)
 g:gK d=γ
 c:E6 [d]=Z d
def RuS(T:List Th)(M:List Mk)(V:List Vb)(d:L4.D):Prop:=∃v∈V++v9,∃b a h c,d=p? v.n b a h c/\(∀t∈b,Ts T M v.f 2 t)/\∀e∈a,Ds T M v.f e
def RuQ(T:List Th)(M:List Mk)(V:List Vb)(w d:L4.D):Prop:=ZR w d/\RuS T M V d
section
variable{T:List Th}{M:List Mk}{dk:aH}{W:List Wy}{V:List Vb}{f:Str}{es:List L4.D}
def Nh(b:((V++v9).flatMap Vb.ws).Nodup){v:Vb}(a:v∈V++v9):vT [gd T M dk W V,.str v.n]=Z (m3 v):=by
 have e:vT [gd T M dk W V,.str v.n]=Bw (vwD (V++v9)) (.str v.n):=by kernel_rfl
 rw[e,KJ b a]
def Vx(H:∀v∈V,v∈v6)(Q:((V++v9).flatMap Vb.ws).Nodup){v:Vb}(l:v∈V++v9){i ds:List L4.D}(B:∀t∈i,Tk (gd T M dk W V) v.f 2 t)(lt:i.length<=3)(hd:∀d∈ds,Dd (gd T M dk W V) v.f d)(ld:ds.length<=3){o:Bool}(N:o=γ->ds=[]){m:Str}(P:AS [.str m]=Z (.O γ)):ZR (gd T M dk W V) (p? v.n i ds m o):=by
 let w:=gd T M dk W V;let r:=p? v.n i ds m o;have q:v∈v6++v9:=by
  rcases bb.1 l with l|l
  .exact bL _ (H v l)
  .exact bE _ l
 have evo:=Nh (T:=T) (M:=M) (dk:=dk) (W:=W) Q l;have G:zJ [w,.str v.n]=Z (.O γ):=by let a:aP:=[.E w,.E (.str v.n)];have R:wW [.str v.n]=Z (.O γ):=Cu (ba.1 (show ((v6++v9).all λv=>isT (wW [.str v.n]))=γ by kernel_rfl) v q);have mt:uo vd "verb_of" aa bu a=Z (m3 v,a):=uA (hh:=vT) (ys:=[.str v.n]) (ρ1:=a) (ρ2:=a) O O O O evo;refine uc (ρ:=a) O (uf ((uv (tW (ρ1:=a) (ds:=[.str v.n]) O R)).t ((uv (ρ1:=a) (ua mt O O)).t (ua (x:=.str v.n) (y:=.str v.n) (uQ mt O) O ?_))));rw[wg];simp
 refine⟨?_,?_,by kernel_rfl⟩
 .let a:aP:=[.E w,.E r,.un];let p:aP:=[.E w,.E r,.E (.str v.f)];refine uc (ρ:=p) O ?_;unfold Fb;refine(vy (ρ:=a) (yQ (ρ1:=a) O (yQ (ρ1:=a) (xp (b:=γ) (u4 (tW (ds:=[w,.str v.n]) O G))) (xp (b:=γ) (u4 (tW (ds:=[.str m]) O P)))))).t ?_;refine(tZ (ρ':=p) ((uq (ρ':=a) (uQ (g:=ud yD "form") (z:=.str v.f) (uA (hh:=vT) (ys:=[.str v.n]) (ρ1:=a) (ρ2:=a) O O O O evo) O)).t O)).t (uf ?_);have C:Ck [w,.str v.f,.b3 i]=Z (.O γ):=uc (ρ:=[.E w,.E (.str v.f),.E (.b3 i)]) O (uf ((uv (tW (ds:=[.b3 i,.int 5]) (ρ1:=[.E w,.E (.str v.f),.E (.b3 i)]) O (Oo _ _ (by omega)))).t (ym id i (by rw[fF];rfl) (by omega) λt j=>⟨[.E t,.E w,.E (.str v.f)],[.E t,.E w,.E (.str v.f)],O,tW (ds:=[w,.str v.f,t,.int 4]) O ((B t j).2 4 (by decide) (by decide)),O⟩)));have E:Cn [w,.str v.f,.b3 ds]=Z (.O γ):=uc (ρ:=[.E w,.E (.str v.f),.E (.b3 ds)]) O (uf ((uv (tW (ds:=[.b3 ds,.int 4]) (ρ1:=[.E w,.E (.str v.f),.E (.b3 ds)]) O (Oo _ _ (by omega)))).t (ym id ds (by rw[fF];rfl) (by omega) λt j=>⟨[.E t,.E w,.E (.str v.f)],[.E t,.E w,.E (.str v.f)],O,tW (ds:=[w,.str v.f,t]) O (hd t j).2,O⟩)));have F:x6 [r]=Z (.O γ):=by
   cases o with
   |false=>kernel_rfl
   |true=>rw[show r=p? v.n i [] m γ from by show p? v.n i ds m γ=_;rw[N O]];kernel_rfl
  exact(uv (tW (ρ1:=p) (ds:=[w,.str v.f,.b3 i]) O C)).t ((uv (tW (ρ1:=p) (ds:=[w,.str v.f,.b3 ds]) O E)).t (tW (ds:=[r]) O F))
 .have e:gK r=(yB 16 14 i&&(yB 16 14 ds&&γ)):=by kernel_rfl
  rw[e,AV i λt h=>(B t h).1,AV ds λt h=>(hd t h).1];rfl
end
def wtL(w:Wy):List L4.D:=[atO "self" w.r,woO w.w]++match w.m with|none=>[]|some m=>[noO (V' m 0)]
def goO(w:Wy):L4.D:=p? "go" (wtL w) [Rn "self" w.g] "You go." δ
def A21:List L4.D:=(Bi [.str "self"]).getD []++(Cc []).getD []++(Cd []).getD []++(Ao []).getD []
def SH(W:List Wy):List L4.D:=A21++(W.map goO++[p? "go" [] [] "No way there." γ])++[p? "wait" [] [] "Time goes by." δ]
def abC(w:Wy):Ce [.str "self", mn w]=Z (wtL w):=by obtain⟨r,x,g,m⟩:=w;cases m<;>kernel_rfl
def Vy(w:Wy):zH [.str "go", .b3 (wtL w),.b3 [Rn "self" w.g],.str "You go."]=Z (goO w):=by kernel_rfl
def abD(W:List Wy)(f:W.length<=2):DF [.str "self", WD W]=Z (W.map goO++[p? "go" [] [] "No way there." γ]):=by
 let c:aP:=[.E (.str "self"),.E (WD W),.un];let b:aP:=[.E (.str "self"),.E (WD W),.E (.b3 (W.map goO))];refine yR (ρ:=b) O ?_;unfold DE;refine(tZ (ρ':=b) ((uq (vm (xl mn goO W (ρ1:=c) O (by omega) λw _=>⟨[.E (mn w),.E (.str "self")],[.E (mn w),.E (.str "self")],O,?_,O⟩))).t O)).t ?_
 .exact tW (ds:=[.str "go", .b3 (wtL w),.b3 [Rn "self" w.g],.str "You go."]) (tV O (tV (vm (tW (ds:=[.str "self", mn w]) O (abC w))) (tV O (tV O O)))) (Vy w)
 .exact xn (xU (xs:=W.map goO) (ys:=[p? "go" [] [] "No way there." γ]) (ρ1:=b) O (by kernel_rfl) (by rw[aq];show W.length+1<=1000;omega))
def Ov:A21.length<=50:=jh (by kernel_rfl)
def ZU{W:List Wy}(a:W.length<=2):(SH W).length<=100:=by have:=Ov;unfold SH;rw[aR,aR,aR,aq];show A21.length+(W.length+1)+1<=100;omega
def PR(W:List Wy)(c:W.length<=2):zI [.str "self", WD W]=Z (SH W):=by
 have:=Ov;let a:aP:=[.E (.str "self"),.E (WD W)];refine yR (ρ:=a) O (xn (xU (xs:=A21++(W.map goO++[p? "go" [] [] "No way there." γ])) (ys:=[p? "wait" [] [] "Time goes by." δ]) (ρ1:=a) (vm (xU (xs:=A21) (ρ1:=a) (by kernel_rfl) (vm (tW (ds:=[.str "self", WD W]) O (abD W c))) ?_)) (by kernel_rfl) ?_))
 .rw[aR,aq];show A21.length+(W.length+1)<=1000;omega
 .rw[aR,aR,aq];show A21.length+(W.length+1)+1<=1000;omega
def Wi(W:List Wy):∀d∈SH W,gK d=γ:=λd hd=>by
 unfold SH at hd;rcases bb.1 hd with hd|hd
 .rcases bb.1 hd with hd|hd
  .exact ba.1 (show A21.all gK=γ by kernel_rfl) d hd
  .rcases bb.1 hd with hd|hd
   .obtain⟨w,_,rfl⟩:=av.1 hd;obtain⟨r,x,g,m⟩:=w;cases m<;>kernel_rfl
   .rw[aW.1 hd];kernel_rfl
 .rw[aW.1 hd];kernel_rfl
def ZV{d:L4.D}(h:gK d=γ):u1 16 14 d=γ:=by unfold gK at h;rw[aX]at h;exact h.2
section
variable{T:List Th}{M:List Mk}{dk:aH}{W:List Wy}{V:List Vb}{R:List L4.D}
def wA(T:List Th)(M:List Mk)(dk:aH)(W:List Wy)(V:List Vb)(R:List L4.D)(c:L4.D):List L4.D:=[TD T,MD M,.b3 (dk.map D.str),WD W,VD V,VD v9,.str "self", .Q (nK T) (T.map d?),mD T M,vwD (V++v9),.b3 R,.b3 (SH W),.b3 R,c]
def wS(T:List Th)(M:List Mk)(dk:aH)(W:List Wy)(V:List Vb)(R:List L4.D)(c:L4.D)(q:Sl)(k:Nat):aP:=[.ob 14 (qi.take k) ((wA T M dk W V R c).take k),.E (TD T),.E (MD M),.E (.b3 (dk.map D.str)),.E (WD W),.E (VD V),.E (.b3 R),q]
def LY{e:FE}{d:L4.D}{a:aH}{ds:List L4.D}{r:aP}{r':aP}(b:e (.E (.obj 14 a ds)::r.map Ad)=Z (d,r'))(c:u1 16 14 d=γ):CV 16 e (.ob 14 a ds::r)=Z (d,.ob 14 a ds::r):=by unfold CV;simp only[b,c];rfl
def Ir{b:Str}{e:FE}{d:L4.D}{a:aH}{ds:List L4.D}{r:aP}(c:e (.ob 14 a ds::r)=Z (d,.ob 14 a ds::r))(f:a.contains b=δ)(h:ds.length=a.length)(i:a.length<900):uS 14 0 b e (.ob 14 a ds::r)=Z (.nx (.ob 14 (a++[b]) (ds++[d])::r)):=by unfold uS;rw[c];show (if 14=14 then if a.contains b=γ then J else if ds.length=a.length then if a.length<900 then Z (rh.nx (.ob 14 (a++[b]) (ds++[d])::r))else J else J else J)=_;rw[aj O,f,ai bx,aj h,aj i]
def EJ(V:List Vb)(lV:V.length<=6)(a b c d:L4.D)(e:aH)(ds:List L4.D):wH [.obj 14 ("kept_things" ::"kept_marks" ::"kept_dark" ::"kept_ways" ::"kept_verbs" ::"shared_verbs" ::e) (a::b::c::d::VD V::VD v9::ds)]=Z (VD (V++v9)):=by refine(BY (ρ:=[.E (.obj 14 ("kept_things" ::"kept_marks" ::"kept_dark" ::"kept_ways" ::"kept_verbs" ::"shared_verbs" ::e) (a::b::c::d::VD V::VD v9::ds))]) O (xn (xU (xs:=V.map m3) (ys:=v9.map m3) O O (by rw[aq];show V.length+9<=1000;omega)))).t ?_;rw[<-bK]
def ZZ(b:∀v∈V,v∈v6):u1 16 14 (vwD (V++v9))=γ:=by
 show yB 16 14 _=γ;refine AV _ λd hd=>?_;obtain⟨v,a,hd⟩:=eM.1 hd;obtain⟨x,_,rfl⟩:=av.1 hd;refine ba.1 (show ((v6++v9).all λv=>u1 16 14 (m3 v))=γ by kernel_rfl) v ?_;rcases bb.1 a with a|a
 .exact bL _ (b v a)
 .exact bE _ a
def SD(g:e4 T M dk W)(hR:∀r∈R,ZR (gd T M dk W v6) r)(lR:R.length<=8):∃f dss,x9 [TD T,MD M,.b3 (dk.map D.str),WD W,VD v6,.b3 R]=Z (qi,wA T M dk W v6 R (.Q f (dss.map .b3)))/\∀j,gl f dss j=(R++SH W).filter λd=>decide (kv d=j):=by
 have G:=ZU g.w8;have F:=g.len;let V:=v6;have lV:V.length<=6:=(by decide:v6.length<=6);have z:∀d∈R++SH W,gK d=γ:=λd hd=>by
  rcases bb.1 hd with hd|hd
  .exact(hR d hd).g
  .exact Wi W d hd
 obtain⟨f,dss,u,w,y⟩:=SC (R++SH W) [] [] z O (by rw[aR];simp only[fZ];omega) λb h=>(by cases h);let c:L4.D:=.Q f (dss.map .b3);refine⟨f,dss,?_,λj=>(w j).t (cv _)⟩;let B:Sl:=.E (.O γ);have E:u1 16 14 c=γ:=by show yB 16 14 (dss.map .b3)=γ;exact AV _ λd hd=>by obtain⟨b,h,rfl⟩:=av.1 hd;exact y b h
 let S:=wS T M dk W V R c;have e:x8 (S .un 0)=Z (.nx (S B 14)):=by
  unfold x8;refine(tZ (ρ':=S .un 0) (ve (tW (ds:=[TD T,MD M,.b3 (dk.map D.str),WD W,VD V,VD v9]) (tV O (tV O (tV O (tV O (tV O (tV (vm (tW (ds:=[]) O So)) O)))))) (Im g)))).t ?_;refine(tZ (ρ':=S .un 1) (by kernel_rfl)).t ((tZ (ρ':=S .un 2) (by kernel_rfl)).t ((tZ (ρ':=S .un 3) (by kernel_rfl)).t ((tZ (ρ':=S .un 4) (by kernel_rfl)).t ((tZ (ρ':=S .un 5) (by kernel_rfl)).t ((tZ (ρ':=S .un 6) (by kernel_rfl)).t ?_)))));have eY:((T.filter λt=>decide (t.k=.you)).map λt=>D.str t.n)=[.str "self"]:=by rw[show (λt:Th=>D.str t.n)=D.str∘Th.n from O,<- aV,g.y1];rfl
  refine(tZ (ρ':=S .un 7) (Ir (r:=(S .un 6).tail) (LY (d:=.str "self") (r':=(.E (.obj 14 (qi.take 6) ((wA T M dk W V R c).take 6)))::((S .un 6).tail).map Ad) (ua (x:=.b3 [.str "self"]) (uA (xs:=(wA T M dk W V R c).take 6) (ys:=[.str Kd.you.s]) (hh:=yZ) O O O O ((Io T (by omega) _ _ .you).t (by rw[eY]))) O O) O) O O (by decide))).t ?_;refine(tZ (ρ':=S .un 8) (Ir (r:=(S .un 7).tail) (tW (ds:=[TD T]) O (Nf T (by omega) g.Dv)) O O (by decide))).t ?_;refine(tZ (ρ':=S .un 9) (Ir (r:=(S .un 8).tail) (tW (ds:=[TD T,MD M]) O (Sr g)) O O (by decide))).t ?_;refine(tZ (ρ':=S .un 10) (Ir (r:=(S .un 9).tail) (LY (r':=(.E (.obj 14 (qi.take 9) ((wA T M dk W V R c).take 9)))::((S .un 9).tail).map Ad) (tW (ds:=[VD (V++v9)]) (tV (uA (xs:=(wA T M dk W V R c).take 9) (ys:=[]) (hh:=wH) O O O O (EJ V lV _ _ _ _ _ _)) O) (abx)) (ZZ λv C=>C)) O O (by decide))).t ?_;refine(tZ (ρ':=S B 10) ((uq (i:=7) (ρ':=S .un 10) (LY (d:=.O γ) (r:=(S .un 10).tail) ((uv (ρ1:=.E (gd T M dk W V)::(S .un 10).tail) (tW (tV O (tV O O)) (Oo _ _ (by omega)))).t (ym id R (by rw[fF];rfl) (by omega) λr l=>?_)) O)).t O)).t ?_
  .exact⟨[.E r,.E (gd T M dk W V)],[.E r,.E (gd T M dk W V)],O,tW (ds:=[gd T M dk W V,r]) O (hR r l).r,O⟩
  refine(tZ (ρ':=S B 10) (by kernel_rfl)).t ((tZ (ρ':=S B 11) (by kernel_rfl)).t ?_);refine(tZ (ρ':=S B 12) (Ir (r:=(S B 11).tail) (LY (d:=.b3 (SH W)) (r':=(.E (.obj 14 (qi.take 11) ((wA T M dk W V R c).take 11)))::((S B 11).tail).map Ad) (vm (tW (ds:=[.str "self", WD W]) O (PR W g.w8))) (AV _ λd hd=>ZV (Wi W d hd))) O O (by decide))).t ?_;refine(tZ (ρ':=S B 13) (Ir (r:=(S B 12).tail) ((vm (xl (ρ1:=S B 12) id id R (by rw[fF];rfl) (by omega) λr l=>⟨[.E r],[.E r],O,tW (ds:=[r]) O (hR r l).c,O⟩)).t (by rw[fF];rfl)) O O (by decide))).t ?_;refine Ir (r:=(S B 13).tail) (LY (tW (ds:=[.b3 (R++SH W)]) (tV (vm (xU (xs:=R) (ys:=SH W) O O (by omega))) O) (r:=c) ?_) E) O O (by decide);refine uc (ρ:=[.E (.b3 (R++SH W)),.un,.un]) O ?_;show (match BX (ud xZ "verb") (R++SH W) [] []with
   |some (f,dss)=>Z (rh.rt (.Q f (dss.map .b3)) [.E (.b3 (R++SH W)),.un,.un])
   |none=>J)=_
  rw[u]
 unfold x9 vo;rw[aj (show [TD T,MD M,.b3 (dk.map D.str),WD W,VD V,.b3 R].length=6 from O)];rw[show x8 (stI 14 8 [TD T,MD M,.b3 (dk.map D.str),WD W,VD V,.b3 R])=Z (.nx (S B 14)) from e];rfl
end
theorem JT:∀l:aH,Fu (l.map D.str)=Z l
 |[]=>rfl
 |x::l=>by rw[aA];unfold Fu;rw[JT l]
def w3:aH:=["north", "south"]
def Xi(W:List Wy):aH:=w3.filter λx=>decide (x∈W.map Wy.w)
def Vz{l:aH}(h:∀x∈l,x∈w3):BZ (y' l)=w3.filter λx=>decide (x∈l):=by
 have d:w3.Nodup:=by decide
 have p3:w3.Pairwise λa b=>P0 a b=γ:=by decide
 refine ko (λa b _ _=>HA a b) (jb Hy Gx _) (p3.filter _) ((iy _ P0).t ((List.perm_ext_iff_of_nodup (M5 l) (fi.nodup d)).2 λx=>?_));rw[KA,bc,bQ];exact⟨λc=>⟨h x c,c⟩,λc=>c.2⟩
section
variable{T:List Th}{M:List Mk}{dk:aH}{W:List Wy}{V:List Vb}{R:List L4.D}{c:L4.D}
def wO(T:List Th)(M:List Mk)(dk:aH)(W:List Wy)(V:List Vb)(R:List L4.D)(c:L4.D):L4.D:=.obj 14 qi (wA T M dk W V R c)
def LZ(i:W.length<=2)(b:∀w∈W,w.w∈(["north", "south"]:aH)):ya [wO T M dk W V R c]=Z (.b3 ((Xi W).map D.str)):=by
 let a:aP:=[.E (wO T M dk W V R c)];refine BY (ρ:=a) O (xn ?_);have e:cL (ui 1 [] (iL (c1 (ud Ag "kept_ways") aa)) (gN 0) u6 (c2 eh aa aU)) a=Z (.b3 ((W.map Wy.w).map D.str),a):=(vm (xl mn (λw=>.str w.w) W (ρ1:=a) O (by omega) λw _=>⟨[.E (mn w)],[.E (mn w)],O,O,O⟩)).t (by rw[aV];rfl);show t? _ a=_;unfold t?;rw[e];dsimp only;rw[JT];dsimp only;rw[aj (by rw[aq];omega),Vz λx d=>?_]
 .rfl
 .obtain⟨w,h,rfl⟩:=av.1 d;exact(show ∀x∈(["north", "south"]:aH),x∈w3 by decide) _ (b w h)
def p8(T:List Th):aH:=(T.filter λt=>t.k.pl).map Th.n
def SE(T:List Th)(d:T.length<=13):Ap [wO T M dk W V R c]=Z (.b3 (T.map λt=>.str t.n)):=by let a:aP:=[.E (wO T M dk W V R c)];exact BY (ρ:=a) O (xn (xl d? (λt=>.str t.n) T (ρ1:=a) O (by omega) λt _=>⟨[.E (d? t)],[.E (d? t)],O,O,O⟩))
def CN{f h:FS}{ρ ρ':aP}{ds:List L4.D}(e:f ρ=Z (.rn ds ρ')):bt f h ρ=Z (.rn ds ρ'):=by unfold bt;rw[e]
def obF(N d:aH)(f:Str):List (L4.D×L4.D):=if f="alone" then [(.I,.I)]else if f="way" then d.map λx=>(.str x,.I)else if f="one" then N.map λx=>(.str x,.I)else N.flatMap λa=>N.map λb=>(.str a,.str b)
def p2(q:L4.D×L4.D):L4.D:=.c3 [q.1,q.2]
def p3(v:Str)(q:L4.D×L4.D):L4.D:=.c3 [.str v,q.1,q.2]
theorem Ow(N:aH)(hN:N.length<=7):∀l:aH,(l.flatMap λa=>N.map λb=>(D.str a,D.str b)).length<=7 * l.length
 |[]=>aO _
 |a::l=>by rw[fV,aR,aq,aS];have:=Ow N hN l;omega
def SF(W:List Wy):(Xi W).length<=3:=bM (cU _ _) ((by decide:2<=3))
def Z0{N a:aH}(hN:N.length<=7)(hD:a.length<=3)(f:Str):(obF N a f).length<=49:=by
 unfold obF;split
 .decide
 .split
  .rw[aq];omega
  .split
   .rw[aq];omega
   .have:=Ow N hN N;omega
theorem L0{a b x:Sl}(N:aH)(hN:N.length<=7):∀(l:aH) (acc:List (L4.D×L4.D)) (s:Sl),acc.length+7 * l.length<=900->∃f,fh (gN 4) (uH (G4 3 (ui 1 [4] (iL ak) (gN 0) u6 (uO fg)))) (l.map D.str) [a,b,.E (.b3 (N.map D.str)),.ls (acc.map p2),s]=Z (.nx [a,b,.E (.b3 (N.map D.str)),.ls ((acc++l.flatMap λa=>N.map λb=>(D.str a,D.str b)).map p2),f])
 |[],acc,s,_=>⟨s,by rw[List.flatMap_nil,bR];rfl⟩
 |y::l,acc,s,p=>by rw[aS]at p;let Q:Sl:=.E (.b3 (N.map D.str));let Y:Sl:=.E (.str y);let nw:List (L4.D×L4.D):=N.map λb=>(D.str y,D.str b);obtain⟨f,e⟩:=L0 (a:=a) (b:=b) (x:=x) N hN l (acc++nw) Y (by rw[aR];show acc.length+(N.map _).length+7 * l.length<=900;rw[aq];omega);refine⟨f,?_⟩;rw[aA];unfold fh;let d:aP:=[a,b,Q,.ls (acc.map p2),Y];rw[show gN 4 (.str y) [a,b,Q,.ls (acc.map p2),s]=Z d from O];have m:ui 1 [4] (iL ak) (gN 0) u6 (uO fg) d=Z (nw.map p2,d):=(xl D.str (λz=>.c3 [.str y,.str z]) N (ρ1:=d) O (by omega) λz _=>⟨[.E (.str z),Y],[.E (.str z),Y],O,O,O⟩).t (by show _=Z ((N.map _).map p2,d);rw[aV];rfl);have j:uH (G4 3 (ui 1 [4] (iL ak) (gN 0) u6 (uO fg))) d=Z (.nx [a,b,Q,.ls ((acc++nw).map p2),Y]):=(ve (Rh (i:=3) (es0:=acc.map p2) (es:=acc.map p2) (ρ1:=d) O m O (by rw[aq,aq];show acc.length+(N.map _).length<=1000;rw[aq];omega))).t (by rw[bK];rfl);simp only[j];rw[e,fV,cc]
def Ni(g:e4 T M dk W){f:Str}(q:f∈vr):wt [wO T M dk W V R c,.str f]=Z ((obF (p8 T) (Xi W) f).map p2):=by
 have u:=g.len;let w:=wO T M dk W V R c;have lN:(p8 T).length<=7:=by unfold p8;rw[aq];exact g.p7
 have ld:=SF W;have nms:∀F:Sl,ui 1 [0] (iL (uo xM "names" aa uI)) (gN 0) (cT (uo u5 "is_plainly" (uo uz "thing_of" ah bG) uI)) aa [.E w,F,.un,.un,.un]=Z ((p8 T).map D.str,[.E w,F,.un,.un,.un]):=λF=>by
  let d:aP:=[.E w,F,.un,.un,.un];refine(xF (λt:Th=>D.str t.n) (λt=>.str t.n) (λt=>t.k.pl) T (ρ1:=d) ?_ (by omega) λt y=>⟨[.E (.str t.n),.E w],[.E (.str t.n),.E w],O,?_,λ_=>⟨_,O,O⟩,λ_=>O⟩).t (by unfold p8;rw[aV];rfl)
  .unfold iL;rw[uA (g:=xM) (m:="names") (e:=cV 0) (a:=uI) (ρ:=d) (hh:=Ap) (xs:=wA T M dk W V R c) (ys:=[]) (ρ1:=d) (ρ2:=d) O O O O (SE T u)]
  .have p:vE [w,.str t.n]=Z ((vI (nK T) (T.map d?) (kS t.n)).getD .I):=by kernel_rfl
   rw[EH g.Dv d? y]at p;refine u4 (uA (hh:=xC) (xs:=[.str t.n,.c3 (t.w.map D.str),.str t.k.s,oS t.s]) (ys:=[]) (ρ1:=[.E (.str t.n),.E w]) (ρ2:=[.E (.str t.n),.E w]) ?_ O O O (EG t));exact uA (hh:=vE) (xs:=wA T M dk W V R c) (ys:=[.str t.n]) (ρ1:=[.E (.str t.n),.E w]) (ρ2:=[.E (.str t.n),.E w]) O O O O p
 let NL:Sl:=.E (.b3 ((p8 T).map D.str));have r:∀F:Sl,uD 2 (cL (ui 1 [0] (iL (uo xM "names" aa uI)) (gN 0) (cT (uo u5 "is_plainly" (uo uz "thing_of" ah bG) uI)) aa)) [.E w,F,.un,.un,.un]=Z (.nx [.E w,F,NL,.un,.un]):=λF=>(uq (vm (nms F))).t O;simp only[vr,aK,b0,or_false]at q;rcases q with rfl|rfl|rfl|rfl
 .let d:aP:=[.E w,.E (.str "one"),NL,.un,.un];refine yR (ρ:=d) O ?_;unfold w9;refine(vy O).t ((vy O).t ((tZ (r _)).t (CN ((uE O).t (xn ((xl D.str (λx=>.c3 [.str x,.I]) (p8 T) (ρ1:=d) O (by omega) λx _=>⟨[.E (.str x)],[.E (.str x)],O,O,O⟩).t ?_))))));show _=Z (((p8 T).map λx=>(D.str x,D.I)).map p2,d);rw[aV];rfl
 .obtain⟨A,e⟩:=L0 (a:=.E w) (b:=.E (.str "two")) (x:=.un) (p8 T) lN (p8 T) [] .un (by simp;omega);refine yR (ρ:=[.E w,.E (.str "two"),NL,.un,A]) O ?_;unfold w9;refine(vy O).t ((vy O).t ((tZ (r _)).t ((vy O).t ((tZ (ρ':=[.E w,.E (.str "two"),NL,.ls [],.un]) O).t ((tZ ((vz (ds:=(p8 T).map D.str) (ρ1:=[.E w,.E (.str "two"),NL,.ls [],.un]) O).t e)).t ?_)))));rfl
 .refine yR (ρ:=[.E w,.E (.str "alone"),.un,.un,.un]) O ?_;unfold w9;exact CN ((uE O).t O)
 .let d:aP:=[.E w,.E (.str "way"),.un,.un,.un];refine yR (ρ:=d) O ?_;unfold w9;refine(vy O).t (CN ((uE O).t (xn ((xl D.str (λx=>.c3 [.str x,.I]) (Xi W) (ρ1:=d) ?_ (by omega) λx _=>⟨[.E (.str x)],[.E (.str x)],O,O,O⟩).t ?_))))
  .show iL _ d=_;unfold iL;rw[uA (g:=wy) (m:="way_words") (e:=cV 0) (a:=uI) (ρ:=d) (hh:=ya) (xs:=wA T M dk W V R c) (ys:=[]) (ρ1:=d) (ρ2:=d) O O O O (LZ g.w8 λw z=>(g.wo w z).hw)]
  .show _=Z (((Xi W).map λx=>(D.str x,D.I)).map p2,d);rw[aV];rfl
end
def nf(v:Vb):Str×Str:=(v.n,v.f)
def v_fm{v:Vb}(h:v∈v6++v9):v.f∈vr:=bF (ba.1 (show ((v6++v9).all λv=>decide (v.f∈vr))=γ by kernel_rfl) v h)
def cmV(N a:aH)(v:Str×Str):List L4.D:=(obF N a v.2).map (p3 v.1)
def cmA(N a:aH)(Q:List (Str×Str)):List L4.D:=Q.flatMap (cmV N a)
section
variable{T:List Th}{M:List Mk}{dk:aH}{W:List Wy}{V:List Vb}{R:List L4.D}{c:L4.D}
theorem Ox(g:e4 T M dk W):∀(L:List Vb) (acc:List L4.D) (s:Sl),(∀v∈L,v.f∈vr)->acc.length+49 * L.length<=900->∃d,fh (gN 2) (uH (G4 1 (ui 2 [2] (iL (cL (vb wt j4))) (gT gu 2) u6 (uO kj)))) (L.map m3) [.E (wO T M dk W V R c),.ls acc,s]=Z (.nx [.E (wO T M dk W V R c),.ls (acc++cmA (p8 T) (Xi W) (L.map nf)),d])
 |[],acc,s,_,_=>⟨s,by show _=Z (rh.nx [_,.ls (acc++[]),s]);rw[bR];rfl⟩
 |v::L,acc,s,h,o=>by
  rw[aS]at o;have lN:(p8 T).length<=7:=by unfold p8;rw[aq];exact g.p7
  have lo:=Z0 lN (SF W) v.f;let w:=wO T M dk W V R c;let nw:List L4.D:=cmV (p8 T) (Xi W) (nf v);have x:nw.length<=49:=by show (eA _ _).length<=49;rw[aq];exact lo
  obtain⟨d,e⟩:=Ox g L (acc++nw) (.E (m3 v)) (λu p=>h u (aQ _ p)) (by rw[aR];omega);refine⟨d,?_⟩;rw[aA];unfold fh;let a:aP:=[.E w,.ls acc,.E (m3 v)];rw[show gN 2 (m3 v) [.E (wO T M dk W V R c),.ls acc,s]=Z a from O];have l:ui 2 [2] (iL (cL (vb wt j4))) (gT gu 2) u6 (uO kj) a=Z (nw,a):=by refine xl p2 (p3 v.n) (obF (p8 T) (Xi W) v.f) (ρ1:=a) ?_ (by omega) λq _=>⟨[.E q.1,.E q.2,.E (m3 v)],[.E q.1,.E q.2,.E (m3 v)],O,O,O⟩;unfold iL;rw[vm (tW (g:=wt) (ds:=[w,.str v.f]) (ρ1:=a) O (Ni g (h v aN)))]
  have j:uH (G4 1 (ui 2 [2] (iL (cL (vb wt j4))) (gT gu 2) u6 (uO kj))) a=Z (.nx [.E w,.ls (acc++nw),.E (m3 v)]):=(ve (Rh (i:=1) (es0:=acc) (es:=acc) (ρ1:=a) O l O (by omega))).t O;simp only[j];rw[e,cc];rfl
def Z1(b:∀v∈V,v∈v6):∀v∈V++v9,v.f∈vr:=λv a=>v_fm (by
 rcases bb.1 a with a|a
 .exact bL _ (b v a)
 .exact bE _ a)
def L1(g:e4 T M dk W)(d:∀v∈V,v∈v6)(lV:V.length<=6):Bo [wO T M dk W V R c]=Z (cmA (p8 T) (Xi W) ((V++v9).map nf)):=by
 let w:=wO T M dk W V R c;have f:(V++v9).length<=15:=by rw[aR];show V.length+9<=15;omega
 obtain⟨h,e⟩:=Ox g (V:=V) (R:=R) (c:=c) (V++v9) [] .un (Z1 d) (by simp only[fZ];omega);refine yR (ρ:=[.E w,.un,h]) O ?_;unfold DP;refine(tZ (ρ':=[.E w,.ls [],.un]) O).t ((tZ ((vz (ds:=(V++v9).map m3) (ρ1:=[.E w,.ls [],.un]) ?_).t e)).t O);unfold iL;rw[uA (g:=wx) (m:="all_verbs") (e:=cV 0) (a:=uI) (ρ:=[.E w,.ls [],.un]) (hh:=wH) (xs:=wA T M dk W V R c) (ys:=[]) (ρ1:=[.E w,.ls [],.un]) (ρ2:=[.E w,.ls [],.un]) O O O O (EJ V lV _ _ _ _ _ _)]
end
def Dm{e:FE}{ρ ρ1:aP}{ds:List L4.D}(h:e ρ=Z (.b3 ds,ρ1)):iL e ρ=Z (ds,ρ1):=by unfold iL;rw[h]
abbrev Ky:=Str×Str
def kD(k:Ky):L4.D:=.c3 [.str k.1,.str k.2]
def sD(P:List Ky)(v:Ky->L4.D):L4.D:=.c3 (P.map λk=>.c3 [kD k,v k])
def Oy(k j:Ky):eo δ (kD k) (kD j)=Z (.O (decide (k=j))):=by obtain⟨a,b⟩:=k;obtain⟨c,d⟩:=j;have e:Kk δ (.c3 [.str a,.str b]) (.c3 [.str c,.str d])=J:=rfl;have f:Q0 δ (.c3 [.str a,.str b]) (.c3 [.str c,.str d])=Z (.O (L3.k? (.c3 [.str a,.str b]) (.c3 [.str c,.str d]))):=rfl;unfold eo kD;rw[e];simp only;rw[f];congr 2;rw[cX];simp[L3.k?,L3.Aw]
theorem Iu(p:Sl)(k:Ky)(v:Ky->L4.D):∀(P:List Ky) (s:Sl),∃c,fh (gN 2) (fc (cT (c2 (eo δ) (c2 eh ak aE) ah)) (ue (c2 eh ak aU)) uk) (P.map λk=>.c3 [kD k,v k]) [p,.E (kD k),s]=Z (if k∈P then .rt (v k) [p,.E (kD k),c]else .nx [p,.E (kD k),c])
 |[],s=>⟨s,by rw[ai b0];rfl⟩
 |q::P,s=>by
  let Q:Sl:=.E (.c3 [kD q,v q]);have a:cT (c2 (eo δ) (c2 eh ak aE) ah) [p,.E (kD k),Q]=Z (decide (q=k),[p,.E (kD k),Q]):=u4 (ua (x:=kD q) (y:=kD k) O O (Oy _ _));rw[aA];unfold fh;rw[show gN 2 (.c3 [kD q,v q]) [p,.E (kD k),s]=Z [p,.E (kD k),Q] from O];by_cases h:q=k
  .rw[bf h]at a;refine⟨Q,?_⟩;simp only[uE a];rw[aj (by rw[h];exact aN),<- h];rfl
  .rw[bj h]at a;obtain⟨c,d⟩:=Iu p k v P Q;refine⟨c,?_⟩;simp only[uN a,uk];rw[d];by_cases b:k∈P
   .rw[aj b,aj (aQ _ b)]
   .rw[ai b,ai λz=>by rcases aK.1 z with z|z;exact h z.symm;exact b z]
def L6(P:List Ky)(v:Ky->L4.D)(k:Ky):Bl [sD P v,kD k]=Z (if k∈P then v k else .I):=by
 obtain⟨b,h⟩:=Iu (.E (sD P v)) k v P .un;by_cases a:k∈P
 .rw[aj a]at h ⊢;exact uc (ρ:=[.E (sD P v),.E (kD k),b]) O (uu ((vz O).t h))
 .rw[ai a]at h ⊢;exact uc (ρ:=[.E (sD P v),.E (kD k),b]) O ((tZ ((vz O).t h)).t O)
def up(v:Ky->L4.D)(k:Ky)(d:L4.D):Ky->L4.D:=λq=>if q=k then d else v q
def Oz(P:List Ky)(hP:P.length<=900)(v:Ky->L4.D)(k:Ky)(d:L4.D):z7 [sD P v,kD k,d]=Z (sD P (up v k d)):=by
 let a:aP:=[.E (sD P v),.E (kD k),.E d];refine uc (ρ:=a) O (uf ?_);have e:cL (ui 1 [1,2] (iT aa) (gN 0) u6 (xr (cT (c2 (eo δ) (c2 eh aa aE) ah)) (uO cA) aa)) a=Z (.b3 (P.map λq=>.c3 [kD q,up v k d q]),a):=by
  refine vm (xl (λq:Ky=>.c3 [kD q,v q]) (λq=>.c3 [kD q,up v k d q]) P (ρ1:=a) O (by omega) λq _=>⟨[.E (.c3 [kD q,v q]),.E (kD k),.E d],[.E (.c3 [kD q,v q]),.E (kD k),.E d],O,?_,O⟩);have b:cT (c2 (eo δ) (c2 eh aa aE) ah) [.E (.c3 [kD q,v q]),.E (kD k),.E d]=Z (decide (q=k),[.E (.c3 [kD q,v q]),.E (kD k),.E d]):=u4 (ua (x:=kD q) (y:=kD k) O O (Oy _ _));unfold xr up;rw[b];by_cases h:q=k
  .rw[bf h,aj h,h];rfl
  .rw[bj h,ai h];rfl
 show xi _ a=_;unfold xi;rw[e];rfl
def va(i?:Str->Str)(mk:Str->Int):Ky->L4.D:=λk=>if k.1="at" then .str (i? k.2)else .int (mk k.2)
def W1{a:Type}(f:Str->a)(x:Str)(d:a):Str->a:=λy=>if y=x then d else f y
def abF(i?:Str->Str)(mk:Str->Int)(x d:Str)(P:List Ky):sD P (up (va i? mk) ("at", x) (.str d))=sD P (va (W1 i? x d) mk):=by
 unfold sD;congr 1;refine fP λk _=>?_;obtain⟨a,y⟩:=k;unfold up va W1;by_cases h:a="at"
 .subst h;by_cases b:y=x
  .subst b;simp
  .simp[b]
 .simp[h]
def abG(i?:Str->Str)(mk:Str->Int)(x:Str)(d:Int)(P:List Ky)(hP:∀k∈P,k.1="at" \/ k.1="mark"):sD P (up (va i? mk) ("mark", x) (.int d))=sD P (va i? (W1 mk x d)):=by
 unfold sD;congr 1;refine fP λk b=>?_;have b:=hP k b;obtain⟨a,y⟩:=k;unfold up va W1;rcases b with h|h
 .have h:a="at" := h;subst h;have:¬("at" : Str)="mark" := by decide
  simp[this]
 .have h:a="mark" := h;subst h;have:¬("mark" : Str)="at" := by decide
  by_cases c:y=x
  .subst c;simp[this]
  .simp[c,this]
def getD_map{c d:Type}(f:c->d)(a:c)(b:d)(l:List c){i:Nat}(h:i<l.length):(l.map f).getD i b=f (l.getD i a):=by rw[cD,cD,bD,aY h];rfl
def Iv{a:Type}(d:a):∀l:List a,(bz l.length).map (λi=>l.getD i d)=l:=λl=>by
 apply List.ext_getElem
 .rw[aq,dj]
 .intro i c b;rw[List.getElem_map,List.getElem_range,cD,aY b];rfl
def kL2(k:Ky):aH:=[k.1,k.2]
theorem L7:∀P:List Ky,B2 (P.map kD)=Z (P.map kL2)
 |[]=>rfl
 |q::P=>by rw[aA];unfold B2;rw[L7 P];rfl
def SG(P:List Ky)(a:0<P.length)(d:P.length<64):∃b:List Ky,b.Perm P/\HC (P.map kD)=Z (b.map kD):=by
 let c:Nat->Nat->Bool:=λi j=>IQ ((P.map kL2).getD i []) ((P.map kL2).getD j []);refine⟨(MX c P.length).map λi=>P.getD i ("", ""),?_,?_⟩
 .have:=(EW c a).map λi=>P.getD i ("", "");rw[Iv]at this;exact this
 .unfold HC;rw[L7];simp only[aq];rw[aj ⟨a,d⟩,aV];congr 1;exact fP λi e=>getD_map kD ("", "") .I P (Kq c a i e)
def xo(T:List Th):aH:=(T.filter λt=>!decide (t.k=.room)).map Th.n
def PT(T:List Th)(M:List Mk):List Ky:=((xo T).map λx=>(("at", x):Ky))++(si T M).map λx=>(("mark", x):Ky)
def SI(t:Th):eo γ (.str t.k.s) (.str "room")=Z (.O (!decide (t.k=.room))):=by cases t.k<;>kernel_rfl
section
variable{T:List Th}{M:List Mk}{dk:aH}{W:List Wy}{V:List Vb}{R:List L4.D}{c:L4.D}{P:List Ky}
def SJ(T:List Th):(xo T).length<=T.length:=by unfold xo;rw[aq];exact cU _ _
def SK(T:List Th)(M:List Mk):(si T M).length<=T.length+M.length:=by unfold si;rw[aR,aq,aq];have:=cU (λt:Th=>t.k.mk) T;omega
def L8(g:e4 T M dk W):∃t∈T,t.n="self" /\ t.k=.you:=by
 have h:("self" : Str)∈(T.filter λt=>decide (t.k=.you)).map Th.n:=by rw[g.y1];exact aW.2 O
 obtain⟨t,a,e⟩:=av.1 h;rw[bc]at a;exact⟨t,a.1,e,bF a.2⟩
def KM{T:List Th}(f:(T.map Th.n).Nodup){t u:Th}(h:t∈T)(i:u∈T)(e:t.n=u.n):t=u:=by
 induction T with
 |nil=>cases h
 |cons a T j=>
  rw[aA,dm]at f;rcases aK.1 h with b|b<;>rcases aK.1 i with d|d
  .rw[b,d]
  .exact ao (show a.n∈T.map Th.n from by rw[<-b,e];exact av.2 ⟨_,d,O⟩) f.1
  .exact ao (show a.n∈T.map Th.n from by rw[<-d,<- e];exact av.2 ⟨_,b,O⟩) f.1
  .exact j f.2 b d
def KN(d:(T.map Th.n).Nodup)(p:Th->Bool){t:Th}(b:t∈T):t.n∈(T.filter p).map Th.n ↔ p t=γ:=by
 constructor
 .intro h;obtain⟨u,a,e⟩:=av.1 h;rw[bc]at a;rw[<-KM d a.1 b e];exact a.2
 .exact λh=>av.2 ⟨t,bc.2 ⟨b,h⟩,O⟩
def SL(g:e4 T M dk W):("self" : Str)∈xo T:=by obtain⟨t,a,e,k⟩:=L8 g;rw[<-e];exact(KN g.Dv _ a).2 (by rw[k];rfl)
def KO(g:e4 T M dk W):0<(PT T M).length/\(PT T M).length<64:=by have a:=SJ T;have b:=SK T M;have d:=kx (SL g);have e:=g.len;have f:=g.m4;unfold PT;rw[aR,aq,aq];omega
def SM(h:P.Perm (PT T M))(x:Str):(("at", x):Ky)∈P ↔ x∈xo T:=by
 rw[h.mem_iff];unfold PT;rw[bb,av,av];constructor
 .rintro(⟨y,a,e⟩|⟨y,a,e⟩)
  .injection e with _ e;rw[<-e];exact a
  .injection e with e _;exact ao e (by decide)
 .exact λh=>.inl ⟨x,h,O⟩
def Wj(h:P.Perm (PT T M))(x:Str):(("mark", x):Ky)∈P ↔ x∈si T M:=by
 rw[h.mem_iff];unfold PT;rw[bb,av,av];constructor
 .rintro(⟨y,a,e⟩|⟨y,a,e⟩)
  .injection e with e _;exact ao e (by decide)
  .injection e with _ e;rw[<-e];exact a
 .exact λh=>.inr ⟨x,h,O⟩
def Wk(h:P.Perm (PT T M)):∀k∈P,k.1="at" \/ k.1="mark" := λk a=>by
 have a:=h.mem_iff.1 a;unfold PT at a;rw[bb,av,av]at a;rcases a with ⟨y,_,rfl⟩|⟨y,_,rfl⟩
 .exact .inl O
 .exact .inr O
def SN(g:e4 T M dk W):∃f:List Ky,f.Perm (PT T M)/\wB [wO T M dk W V R c]=Z (.b3 (f.map kD)):=by
 have hT:=g.len;have hM:=g.m4;obtain⟨o,r⟩:=KO g;obtain⟨f,pR,e⟩:=SG (PT T M) o r;refine⟨f,pR,?_⟩;let w:=wO T M dk W V R c;let a:L4.D:=.b3 ((xo T).map λx=>kD ("at", x));let d:L4.D:=.b3 ((si T M).map λx=>kD ("mark", x));let b:Sl->Sl->aP:=λp q=>[.E w,p,q];have u:=SJ T;have y:=SK T M;have j:ui 1 [] (iL (c1 (ud vR "kept_things") aa)) (gN 0) (cT (c2 (eo γ) (c1 (ud uL "kind") aa) dy)) (uO (ax i4 mE)) (b .un .un)=Z ((T.filter λt=>!decide (t.k=.room)).map λt=>kD ("at", t.n),b .un .un):=
  xF d? (λt=>kD ("at", t.n)) (λt=>!decide (t.k=.room)) T (ρ1:=b .un .un) O (by omega) λt _=>⟨[.E (d? t)],[.E (d? t)],O,u4 (ua (uQ O (zM t)) O (SI t)),λ_=>⟨_,O,O⟩,λ_=>O⟩
 have l:ui 1 [] (iL (cL (vb wZ qL))) (gN 0) u6 (uO (ax jX bG)) (b (.E a) .un)=Z ((si T M).map λx=>kD ("mark", x),b (.E a) .un):=
  xl D.str (λx=>kD ("mark", x)) (si T M) (ρ1:=b (.E a) .un) (Dm (vm (tW (tV O (tV O O)) (Dk T M (by omega) hM)))) (by omega) λx _=>⟨[.E (.str x)],[.E (.str x)],O,O,O⟩
 have m:EY (cL (xT ah ak)) (b (.E a) (.E d))=Z (f.map kD,b (.E a) (.E d)):=by
  have q:cL (xT ah ak) (b (.E a) (.E d))=Z (.b3 ((PT T M).map kD),b (.E a) (.E d)):=by refine(vm (xU (xs:=(xo T).map λx=>kD ("at", x)) (ys:=(si T M).map λx=>kD ("mark", x)) O O (by rw[aq,aq];omega))).t ?_;unfold PT;rw[bK,aV,aV];rfl
  unfold EY;rw[q];simp only[e]
 refine BY (ρ:=b (.E a) (.E d)) O ?_;refine(tZ (ρ':=b (.E a) .un) ((uq (vm j)).t ?_)).t ((tZ (ρ':=b (.E a) (.E d)) ((uq (vm l)).t O)).t (xn m));show Z (rh.nx [Sl.E w,.E (.b3 ((T.filter λt=>!decide (t.k=.room)).map λt=>kD ("at", t.n))),.un])=Z (rh.nx [Sl.E w,.E (.b3 (((T.filter λt=>!decide (t.k=.room)).map Th.n).map λx=>kD ("at", x))),.un]);rw[aV];rfl
def zN(b:(T.map Th.n).Nodup){t:Th}(a:t∈T):vE [wO T M dk W V R c,.str t.n]=Z (d? t):=by refine uc (ρ:=[.E (wO T M dk W V R c),.E (.str t.n)]) O (uf (ua (x:=.Q (nK T) (T.map d?)) (y:=.str t.n) O O ?_));show Z ((vI (nK T) (T.map d?) (kS t.n)).getD .I)=_;rw[EH b d? a];rfl
def PU(g:e4 T M dk W):Bk [wO T M dk W V R c]=Z (.Q (M.map λm=>kS m.n) (M.map λm=>D.int m.st)):=by
 let w:=wO T M dk W V R c;have j:((M.map λm=>kS m.n)).Nodup:=by have:=(bZ.1 g.nd).2.1;rw[show (λm:Mk=>kS m.n)=kS∘Mk.n from O,<- aV];exact iC.2 (this.imp λh e=>h (Nc e))
 have t:=g.m4;obtain⟨l,e⟩:=AU (g:=gN 2) (i:=1) (fk:=c1 (ud uw "name") ak) (fv:=c1 (ud vC "start") ak) O' Mk.n (λm=>D.int m.st) (λb a s=>[.E w,.dk b a,s])
  (λm b a s=>⟨[.E w,.dk b a,.E (O' m)],O,O,O,O,λf d=>⟨_,O⟩⟩) M [] [] .un (by rw[cv];exact j) (by simp;omega) O
 rw[cv,cv]at e;refine uc (ρ:=[.E w,.E (.Q (M.map λm=>kS m.n) (M.map λm=>D.int m.st)),l]) O ?_;refine(tZ (ρ':=[.E w,.dk [] [],.un]) O).t ?_;refine(tZ ((vz (ds:=M.map O') (ρ1:=[.E w,.dk [] [],.un]) ?_).t e)).t O;exact Dm (uA (m:="own_marks") (ns:=qi) (xs:=wA T M dk W V R c) (ys:=[]) O O O O O)
def SO(g:e4 T M dk W){t:Th}(b:t∈T)(st:L4.D):xk [wO T M dk W V R c,st,kD ("at", t.n)]=Z (oS t.s):=by let a:aP:=[.E (wO T M dk W V R c),.E st,.E (kD ("at", t.n))];refine uc (ρ:=a) O (uu ((uE (ρ':=a) (u4 (ua (x:=.str "at") (y:=.str "at") O O (by rw[wg];rfl)))).t (uf (uQ (uA (m:="thing_of") (ns:=qi) (xs:=wA T M dk W V R c) (ys:=[.str t.n]) O O O O (zN g.Dv b)) (GE t)))))
def Nj(x:Str)(d:List dt)(b:List L4.D):xk [wO T M dk W V R c,.Q d b,kD ("mark", x)]=Z ((vI d b (kS x)).getD (.int 0)):=by let a:aP:=[.E (wO T M dk W V R c),.E (.Q d b),.E (kD ("mark", x))];refine uc (ρ:=a) O ((tZ (ρ':=a) ((uN (ρ':=a) (u4 (ua (x:=.str "mark") (y:=.str "at") O O (by rw[wg];rfl)))).t O)).t O)
theorem L9{d:Type}(kf:d->dt)(b:d->Int)(k:dt):∀l:List d,∃z,(vI (l.map kf) (l.map λa=>D.int (b a)) k).getD (.int 0)=.int z
 |[]=>⟨0,O⟩
 |a::l=>by
  rw[aA,aA];unfold vI;split
  .exact⟨b a,O⟩
  .exact L9 kf b k l
def ν(T:List Th)(x:Str):Str:=((T.find? λt=>decide (t.n=x)).bind Th.s).getD ""
def KP(b:(T.map Th.n).Nodup){t:Th}(a:t∈T):ν T t.n=t.s.getD "" := by
 unfold ν;cases h:T.find? λu=>decide (u.n=t.n)with
 |none=>exact ao (om.1 h t a) (by simp)
 |some u=>rw[KM b (List.mem_of_find?_eq_some h) a (bF (List.find?_some (p:=λu:Th=>decide (u.n=t.n)) h))];rfl
def OA(g:e4 T M dk W){t:Th}(j:t∈T)(h:t.k≠.room):∃p,t.s=Z p/\p∈pw T/\(t.k=.you->p∈w? T):=by
 have a:=g.st t j;unfold CL at a;have l:∀p,p∈w? T->p∈pw T:=λp i=>by obtain⟨u,d,e⟩:=av.1 i;rw[bc]at d;exact av.2 ⟨u,bc.2 ⟨d.1,by rw[bF d.2];rfl⟩,e⟩
 cases f:t.s with
 |none=>rw[f]at a;cases b:t.k<;>rw[b]at a h<;>first|exact ao O h|exact a.elim
 |some p=>rw[f]at a;refine⟨p,O,?_⟩;cases b:t.k<;>rw[b]at a h<;>first|exact ao O h|exact⟨l p a,λ_=>a⟩|exact⟨a,λz=>by cases z⟩
def SQ(g:e4 T M dk W):∃(P:List Ky) (m:Str->Int),P.Perm (PT T M)/\wB [wO T M dk W V R c]=Z (.b3 (P.map kD))/\(∀x,(vI (M.map λm=>kS m.n) (M.map λm=>D.int m.st) (kS x)).getD (.int 0)=.int (m x))/\uU [wO T M dk W V R c]=Z (sD P (va (ν T) m)):=by
 obtain⟨i,pR,eR⟩:=SN (c:=c) g;have f:∀x,∃z,(vI (M.map λm=>kS m.n) (M.map λm=>D.int m.st) (kS x)).getD (.int 0)=.int z:=λx=>L9 (λm:Mk=>kS m.n) Mk.st (kS x) M;refine⟨i,λx=>(f x).choose,pR,eR,λx=>(f x).choose_spec,?_⟩;let w:=wO T M dk W V R c;let st:L4.D:=.Q (M.map λm=>kS m.n) (M.map λm=>D.int m.st);have hR:i.length<64:=by rw[pR.length_eq];exact(KO g).2
 have val:∀k∈i,xk [w,st,kD k]=Z (va (ν T) (λx=>(f x).choose) k):=λk j=>by
  obtain⟨a,x⟩:=k;rcases Wk pR _ j with h|h
  .have h:a="at" := h;subst h;have o:=(SM pR x).1 j;obtain⟨t,d,rfl⟩:=av.1 o;rw[bc]at d;obtain⟨p,l,_⟩:=OA g d.1 (λz=>by rw[z]at d;exact ao d.2 (by decide));rw[SO g d.1];unfold va;rw[aj O,KP g.Dv d.1,l];rfl
  .have h:a="mark" := h;subst h;rw[Nj,(f x).choose_spec];unfold va;rw[ai (show ¬("mark" : Str)="at" by decide)]
 let b:aP:=[.E w,.E st];refine uc (ρ:=b) O ((tZ (ρ':=b) ((uq (tW (tV O O) (PU g))).t O)).t (uf ?_));have e:=xl (k:=1) (d4:=[0,1]) (g:=gN 0) (fe:=uO rq) (s:=iL (uo vv "parts" aa uI)) (ρ:=b) (ρ1:=b) kD (λk=>.c3 [kD k,va (ν T) (λx=>(f x).choose) k]) i
  (Dm (uA (m:="parts") (ns:=qi) (xs:=wA T M dk W V R c) (ys:=[]) O O O O eR)) (by omega) λk j=>⟨[.E (kD k),.E w,.E st],[.E (kD k),.E w,.E st],O,Hh (tV O (tV (tW (tV O (tV O (tV O O))) (val k j)) O)) (show 2<=1000 by decide),O⟩
 show xi _ b=_;unfold xi;rw[vm e];rfl
end
inductive Ch(T:List Th) (a:Str->Str):Str->aH->Prop
 |nil {x:Str} (h:x∉xo T):Ch T a x []
 |cons {x:Str} {l:aH} (h:x∈xo T) (c:Ch T a (a x) l):Ch T a x (a x::l)
structure b?(T:List Th)(a:Str->Str):Prop where
 me:a "self" ∈ w? T
 hd:∀x∈xo T,a x∈pw T
 ch:∀x,∃l,Ch T a x l
section
variable{T:List Th}{M:List Mk}{dk:aH}{W:List Wy}{V:List Vb}{R:List L4.D}{c:L4.D}{P:List Ky}{a:Str->Str}{m:Str->Int}
def Z2{x:Str}{l e:aH}(h:Ch T a x l):Ch T a x e->l=e:=by
 induction h generalizing e with
 |nil h=>intro b;cases b with
  |nil _=>rfl
  |cons b _=>exact ao b h
 |cons h _ f=>intro b;cases b with
  |nil b=>exact ao h b
  |cons _ d=>rw[f d]
def Z3{x:Str}{l:aH}(h:Ch T a x l):∀y∈l,∃f,Ch T a y f/\f.length<l.length:=by
 induction h with
 |nil _=>intro y b;cases b
 |@cons x l h d j=>
  intro y b;rcases aK.1 b with e|b
  .rw[e];exact⟨l,d,by rw[aS];omega⟩
  .obtain⟨f,i,o⟩:=j y b;exact⟨f,i,by rw[aS];omega⟩
def VA{x:Str}{l:aH}(h:Ch T a x l):x∉l:=λe=>by obtain⟨f,d,b⟩:=Z3 h x e;rw[Z2 h d]at b;exact dW _ b
def abH{x:Str}{l:aH}(h:Ch T a x l):l.Nodup:=by
 induction h with
 |nil _=>exact iI
 |@cons x l h d b=>exact dm.2 ⟨VA d,b⟩
def Wl(i:b? T a){x:Str}{l:aH}(h:Ch T a x l):∀y∈l,y∈pw T:=by
 induction h with
 |nil _=>intro y b;cases b
 |@cons x l h d f=>
  intro y b;rcases aK.1 b with e|b
  .rw[e];exact i.hd x h
  .exact f y b
theorem SR:∀{l L:aH},l.Nodup->(∀x∈l,x∈L)->l.length<=L.length
 |[],L,_,_=>b7 _
 |a::l,L,b,e=>by rw[dm]at b;have d:=e a aN;have:=SR (L:=L.erase a) b.2 λz f=>(nH (show z≠a from λw=>b.1 (w▸f))).2 (e z (aQ _ f));rw[mT d]at this;have:=kx d;rw[aS];omega
def Nk(g:e4 T M dk W)(i:b? T a){x:Str}{l:aH}(h:Ch T a x l):l.length<=13:=by
 have b:=SR (abH h) (Wl i h);have d:(pw T).length<=T.length:=by unfold pw;rw[aq];exact cU _ _
 have:=g.len;omega
def VB{x b:Str}{w:Str}{l:aH}(h:Ch T a w l):w≠x->x∉l->Ch T (W1 a x b) w l:=by
 induction h with
 |nil h=>intro _ _;exact .nil h
 |@cons w l h d o=>intro j i;have e:W1 a x b w=a w:=ai j;have f:=o (λz=>i (by rw[z];exact aN)) λz=>i (aQ _ z);rw[<-e]at f ⊢;exact .cons h f
def b?.mv(g:e4 T M dk W)(i:b? T a){x b:Str}(t:x∈xo T)(hb:b∈pw T)(hm:x="self" -> b∈w? T)(q:b≠x){f:aH}(o:Ch T a b f)(r:x∉f):b? T (W1 a x b) where
 me:=by
  unfold W1;by_cases e:("self" : Str)=x
  .rw[aj e];exact hm e.symm
  .rw[ai e];exact i.me
 hd:=λy u=>by
  unfold W1;by_cases e:y=x
  .rw[aj e];exact hb
  .rw[ai e];exact i.hd y u
 ch:=λw=>by
  have cx:Ch T (W1 a x b) x (W1 a x b x::f):=.cons t (by rw[show W1 a x b x=b from aj O];exact VB o q r);obtain⟨l,h⟩:=i.ch w
  induction h with
  |nil h=>exact⟨_,.nil h⟩
  |@cons w l h d z=>
   by_cases e:w=x
   .rw[e];exact⟨_,cx⟩
   .obtain⟨A,j⟩:=z;have p:W1 a x b w=a w:=ai e;rw[<-p]at j;exact⟨_,.cons h j⟩
def Ma(p:P.Perm (PT T M))(x:Str):yw [sD P (va a m),.str x]=Z (if x∈xo T then .str (a x)else .I):=by
 refine uc (ρ:=[.E (sD P (va a m)),.E (.str x)]) O (uf (tW (ds:=[sD P (va a m),kD ("at", x)]) (tV O (tV O O)) ((L6 P (va a m) ("at", x)).t ?_)));congr 1;by_cases h:x∈xo T
 .rw[aj h,aj ((SM p x).2 h)];unfold va;rw[aj O]
 .rw[ai h,ai λz=>h ((SM p x).1 z)]
def GF(p:P.Perm (PT T M))(x:Str):xN [sD P (va a m),.str x]=Z (if x∈si T M then .int (m x)else .I):=by
 refine uc (ρ:=[.E (sD P (va a m)),.E (.str x)]) O (uf (tW (ds:=[sD P (va a m),kD ("mark", x)]) (tV O (tV O O)) ((L6 P (va a m) ("mark", x)).t ?_)));congr 1;by_cases h:x∈si T M
 .rw[aj h,aj ((Wj p x).2 h)];unfold va;rw[ai (show ¬("mark" : Str)="at" by decide)]
 .rw[ai h,ai λz=>h ((Wj p x).1 z)]
def aD(T:List Th)(a:Str->Str)(x:Str):L4.D:=if x∈xo T then .str (a x)else .I
def PV(p:P.Perm (PT T M))(w e:Sl){x:Str}{l:aH}(h:Ch T a x l):∀(n:Nat) (b:List L4.D),l.length<n->b.length+l.length<=1000->
  whL (cT (c2 v5 az aG)) (bt (uH (yc 3 az)) (uD 4 (tY yw kc))) n [w,.E (sD P (va a m)),e,.ls b,.E (aD T a x)]=Z (.nx [w,.E (sD P (va a m)),e,.ls (b++l.map D.str),.E .I]):=by
 let S:=sD P (va a m)
 induction h with
 |@nil x h=>
  intro n b f _;rw[show aD T a x=.I from ai h];cases n with
  |zero=>cases f
  |succ n=>rw[dH,bR];rfl
 |@cons x l h d o=>
  intro n b f j;rw[show aD T a x=.str (a x) from aj h];rw[aS]at f j;cases n with
  |zero=>cases f
  |succ n=>
   have i:bt (uH (yc 3 az)) (uD 4 (tY yw kc)) [w,.E S,e,.ls b,.E (.str (a x))]=Z (.nx [w,.E S,e,.ls (b++[.str (a x)]),.E (aD T a (a x))]):=by refine(tZ (ρ':=[w,.E S,e,.ls (b++[.str (a x)]),.E (.str (a x))]) (ve ((A6 (es:=b) O O O (by omega)).t O))).t ?_;exact(uq (tW (tV O (tV O O)) (Ma p (a x)))).t O
   rw[aA];unfold whL;rw[show cT (c2 v5 az aG) [w,.E (sD P (va a m)),e,.ls b,.E (.str (a x))]=Z (γ,[w,.E S,e,.ls b,.E (.str (a x))]) from O];simp only[i];refine(o n (b++[.str (a x)]) (by omega) (by rw[aR,cR];omega)).t ?_;rw[cc];rfl
def KQ(p:P.Perm (PT T M))(w:L4.D){x:Str}{l:aH}(h:Ch T a x l)(d:l.length<=13):w5 [w,sD P (va a m),.str x]=Z (l.map D.str):=by let S:=sD P (va a m);refine yR (ρ:=[.E w,.E S,.E (.str x),.un,.E .I]) O ?_;refine(tZ (ρ':=[.E w,.E S,.E (.str x),.ls [],.un]) O).t ?_;refine(tZ (ρ':=[.E w,.E S,.E (.str x),.ls [],.E (aD T a x)]) ((uq (tW (tV O (tV O O)) (Ma p x))).t O)).t ?_;exact(tZ (PV p (.E w) (.E (.str x)) h 50 [] (by omega) (by simp;omega))).t O
def Z4(p:P.Perm (PT T M)){x:Str}{l:aH}(h:Ch T a x l)(d:l.length<=13):Sg [wO T M dk W V R c,sD P (va a m),.str x]=Z (.O (decide (("self" : Str)∈l))):=by let b:aP:=[.E (wO T M dk W V R c),.E (sD P (va a m)),.E (.str x)];refine uc (ρ:=b) O (uf (ua (x:=.str "self") (y:=.b3 (l.map D.str)) (uA (m:="you") (ns:=qi) (xs:=wA T M dk W V R c) (ys:=[]) O O O O O) (vm (tW (tV O (tV O (tV O O))) (KQ p _ h d))) (yC δ _ _)))
def inv0(g:e4 T M dk W):b? T (ν T) where
 me:=by obtain⟨t,b,e,k⟩:=L8 g;obtain⟨q,f,_,j⟩:=OA g b (by rw[k];exact λz=>by cases z);rw[<-e,KP g.Dv b,f];exact j k
 hd:=λx i=>by obtain⟨t,b,rfl⟩:=av.1 i;rw[bc]at b;obtain⟨q,f,j,_⟩:=OA g b.1 (λz=>by rw[z]at b;exact ao b.2 (by decide));rw[KP g.Dv b.1,f];exact j
 ch:=λx=>by
  obtain⟨r,hr⟩:=g.rk;have:∀(n:Nat) (x:Str),r x<n->∃l,Ch T (ν T) x l:=by
   intro n
   induction n with
   |zero=>intro x h;cases h
   |succ n o=>
    intro x h;by_cases i:x∈xo T
    .obtain⟨t,b,rfl⟩:=av.1 i;rw[bc]at b;obtain⟨q,f,_,_⟩:=OA g b.1 (λz=>by rw[z]at b;exact ao b.2 (by decide));have e:ν T t.n=q:=by rw[KP g.Dv b.1,f];rfl
     have j:=((hr t b.1).2 q f).1;obtain⟨l,d⟩:=o q (by omega);rw[<-e]at d;exact⟨_,.cons i d⟩
    .exact⟨_,.nil i⟩
  exact this (r x+1) x (by omega)
end
def yL{e a:FE}{ρ ρ1:aP}(b:e ρ=Z (.O δ,ρ1)):u9 e a ρ=Z (.O δ,ρ1):=by unfold u9;rw[b]
section
variable{T:List Th}{M:List Mk}{dk:aH}{W:List Wy}{V:List Vb}{R:List L4.D}{c:L4.D}{P:List Ky}{a:Str->Str}{m:Str->Int}
structure I?(T:List Th)(M:List Mk)(dk:aH)(W:List Wy)(P:List Ky)(a:Str->Str):Prop where
 g:e4 T M dk W
 p:P.Perm (PT T M)
 i:b? T a
def abI{x:Str}(h:x∈pw T):∃t∈T,t.n=x/\t.k.hd=γ:=by obtain⟨t,b,e⟩:=av.1 h;rw[bc]at b;exact⟨t,b.1,e,b.2⟩
def Wm(g:e4 T M dk W){t:Th}(b:t∈T):t.n∈si T M ↔ t.k.mk=γ:=by
 unfold si;rw[bb,KN g.Dv _ b];constructor
 .rintro(h|h)
  .exact h
  .exact ao O ((bZ.1 g.nd).2.2 _ (av.2 ⟨t,b,O⟩) _ h)
 .exact .inl
def OB(t:Th)(k:Kd):eo δ (.str t.k.s) (.str k.s)=Z (.O (decide (t.k=k))):=Ga t.k k
def VC(s:I? T M dk W P a){x:Str}(i:x∈pw T):∃b,yi [wO T M dk W V R c,sD P (va a m),.str x]=Z (.O b):=by
 obtain⟨t,f,rfl,_⟩:=abI i;let d:aP:=[.E (wO T M dk W V R c),.E (sD P (va a m)),.E (.str t.n)];have e:c2 (eo δ) (c1 (ud uL "kind") (uo uz "thing_of" aa cn)) eD d=Z (.O (decide (t.k=.box)),d):=
  ua (uQ (uA (m:="thing_of") (ns:=qi) (xs:=wA T M dk W V R c) (ys:=[.str t.n]) O O O O (zN s.g.Dv f)) (zM t)) O (OB t .box)
 by_cases h:t.k=.box
 .rw[bf h]at e;refine⟨decide (m t.n=0),uc (ρ:=d) O (uf ((uv e).t (ua (tW (tV O (tV O O)) ((GF s.p t.n).t (by rw[aj ((Wm s.g f).2 (by rw[h];rfl))]))) O ?_)))⟩;rw[y9];rfl
 .rw[bj h]at e;exact⟨δ,uc (ρ:=d) O (uf (yL e))⟩
def opn(sh:Str->Bool)(h:Str):aH->Bool
 |[]=>δ
 |a::l=>if a=h then γ else if sh a then δ else opn sh h l
def SU{sh:Str->Bool}{h a:Str}{l:aH}:opn sh h (a::l)=if a=h then γ else if sh a then δ else opn sh h l:=rfl
def oB:FS:=(bt (fc (cT (c2 (eo δ) az aw)) (ue c7) uk)
 (fc (cT (tY yi mH)) (ue bJ) uk))
theorem JU{w st x:L4.D}{sh:Str->Bool}(h:Str):∀(l:aH) (s:Sl),(∀a∈l,yi [w,st,.str a]=Z (.O (sh a)))->∃j,fh (gN 4) oB (l.map D.str) [.E w,.E st,.E x,.E (.str h),s]=Z (.rt (.O (opn sh h l)) [.E w,.E st,.E x,.E (.str h),j])\/(opn sh h l=δ/\fh (gN 4) oB (l.map D.str) [.E w,.E st,.E x,.E (.str h),s]=Z (.nx [.E w,.E st,.E x,.E (.str h),j]))
 |[],s,_=>⟨s,.inr ⟨O,O⟩⟩
 |a::l,s,p=>by
  let d:aP:=[.E w,.E st,.E x,.E (.str h),.E (.str a)];have e:cT (c2 (eo δ) az aw) d=Z (decide (a=h),d):=u4 (ua (x:=.str a) (y:=.str h) O O (wg δ a h));have f:cT (tY yi mH) d=Z (sh a,d):=u4 (tW (tV O (tV O (tV O O))) (p a aN));rw[aA];unfold fh;rw[show gN 4 (.str a) [.E w,.E st,.E x,.E (.str h),s]=Z d from O];rw[SU];by_cases i:a=h
  .rw[bf i]at e;rw[aj i];refine⟨.E (.str a),.inl ?_⟩;have o:oB d=Z (.rt (.O γ) d):=uu ((uE e).t O);simp only[o];rfl
  .rw[bj i]at e;rw[ai i];have o:oB d=_:=tZ ((uN e).t O);simp only[o];cases q:sh a with
   |true=>rw[q]at f;refine⟨.E (.str a),.inl ?_⟩;simp only[(uE f).t (O:ue bJ d=Z (.rt (.O δ) d)),if_true];rfl
   |false=>rw[q]at f;obtain⟨j,g⟩:=JU (w:=w) (st:=st) (x:=x) (sh:=sh) h l (.E (.str a)) λb r=>p b (aQ _ r);refine⟨j,?_⟩;simp only[(uN f).t (O:uk d=Z (.nx d)),fj,if_false];exact g
def KR(s:I? T M dk W P a)(x h:Str):∃b,yj [wO T M dk W V R c,sD P (va a m),.str x,.str h]=Z (.O b):=by
 obtain⟨l,d⟩:=s.i.ch x;have j:∀y:Str,∃b:Bool,y∈pw T->yi [wO T M dk W V R c,sD P (va a m),.str y]=Z (.O b):=λy=>by
  by_cases f:y∈pw T
  .obtain⟨b,e⟩:=VC (c:=c) (m:=m) s f;exact⟨b,λ_=>e⟩
  .exact⟨δ,λz=>ao z f⟩
 refine⟨opn (λy=>(j y).choose) h l,?_⟩;obtain⟨t,q⟩:=JU (w:=wO T M dk W V R c) (st:=sD P (va a m)) (x:=.str x) (sh:=λy=>(j y).choose) h l .un λy f=>(j y).choose_spec (Wl s.i d y f);have o:=vm (tW (a:=ax aa cA) (ρ:=[.E (wO T M dk W V R c),.E (sD P (va a m)),.E (.str x),.E (.str h),.un]) (tV O (tV O (tV O O))) (KQ (m:=m) s.p _ d (Nk s.g s.i d)));rcases q with q|⟨r,q⟩
 .exact uc O (uu ((vz (Dm o)).t q))
 .rw[r];exact uc O ((tZ ((vz (Dm o)).t q)).t O)
def KU(s:I? T M dk W P a):zk [wO T M dk W V R c,sD P (va a m)]=Z (.str (a "self")):=
 uc (ρ:=[.E (wO T M dk W V R c),.E (sD P (va a m))]) O (uf (tW (tV O (tV (uA (m:="you") (ns:=qi) (xs:=wA T M dk W V R c) (ys:=[]) O O O O O) O)) ((Ma s.p "self").t (by rw[aj (SL s.g)]))))
def SV(s:I? T M dk W P a){t:Th}(i:t∈T)(h:t.k=.lamp)(r:Str):∃b,zK [wO T M dk W V R c,sD P (va a m),.str t.n,.str r]=Z (.O b):=by
 let d:aP:=[.E (wO T M dk W V R c),.E (sD P (va a m)),.E (.str t.n),.E (.str r)];have e:c2 (eo δ) (tY xN cA) aU d=Z (.O (decide (m t.n=1)),d):=ua (tW (tV O (tV O O)) ((GF s.p t.n).t (by rw[aj ((Wm s.g i).2 (by rw[h];rfl))]))) O (by rw[y9];rfl);obtain⟨b,f⟩:=KR (c:=c) (m:=m) s t.n r;cases q:decide (m t.n=1)with
 |true=>rw[q]at e;exact⟨b,uc (ρ:=d) O (uf ((uv e).t (tW (tV O (tV O (tV O (tV O O)))) f)))⟩
 |false=>rw[q]at e;exact⟨δ,uc (ρ:=d) O (uf (yL e))⟩
def SW(s:I? T M dk W P a):∃b,Eu [wO T M dk W V R c,sD P (va a m)]=Z (.O b):=by
 let w:=wO T M dk W V R c;let r:=a "self";let S:=sD P (va a m);let d:aP:=[.E w,.E S,.E (.str r)];have o:uD 2 (tY zk cp) [.E w,.E S,.un]=Z (.nx d):=(uq (tW (tV O (tV O O)) (KU s))).t O;have i:vF (cT (uo yu "is_dark" aa cn)) d=Z (!decide (r∈dk),d):=xp (u4 (uA (m:="is_dark") (ns:=qi) (xs:=wA T M dk W V R c) (ys:=[.str r]) O O O O (uc (ρ:=[.E w,.E (.str r)]) O (uf (ua (x:=.str r) (y:=.b3 (dk.map D.str)) O O (yC δ r dk))))));cases q:decide (r∈dk)with
 |false=>rw[q]at i;exact⟨γ,uc O ((tZ o).t (uu ((uE i).t O)))⟩
 |true=>
  rw[q]at i;have E:=s.g.len;let L:=T.filter λt=>decide (t.k=.lamp);have l:∀t:Th,∃b:Bool,t∈L->zK [w,S,.str t.n,.str r]=Z (.O b):=λt=>by
   by_cases j:t∈L
   .have h:=bc.1 j;obtain⟨b,e⟩:=SV (c:=c) (m:=m) s h.1 (bF h.2) r;exact⟨b,λ_=>e⟩
   .exact⟨δ,λz=>ao z j⟩
  have p:ui 1 [0,1,2] (iL (uo xj "of_kind" aa hJ)) (gN 0) u6 (tY zK qY) d=Z (L.map λt=>D.O (l t).choose,d):=by have f:L.length<=1000:=bM (cU _ _) (by omega);exact xl (λt:Th=>D.str t.n) (λt=>D.O (l t).choose) L (ρ1:=d) (Dm (uA (m:="of_kind") (ns:=qi) (xs:=wA T M dk W V R c) (ys:=[.str Kd.lamp.s]) O O O O (Io T (by omega) _ _ .lamp))) f λt j=>⟨[.E (.str t.n),.E w,.E S,.E (.str r)],[.E (.str t.n),.E w,.E S,.E (.str r)],O,tW (tV O (tV O (tV O (tV O O)))) ((l t).choose_spec j),O⟩
  exact⟨_,uc O ((tZ o).t ((tZ ((uN i).t O)).t (uf (uQ (vm p) (N8 _ _)))))⟩
def OC(s:I? T M dk W P a){t:Th}(z:t∈T):∃b,wC [wO T M dk W V R c,sD P (va a m),.str t.n]=Z (.O b):=by
 let w:=wO T M dk W V R c;let S:=sD P (va a m);let d:aP:=[.E w,.E S,.E (.str t.n),.E (d? t)];have f:uD 3 (uo uz "thing_of" aa cn) [.E w,.E S,.E (.str t.n),.un]=Z (.nx d):=(uq (uA (m:="thing_of") (ns:=qi) (xs:=wA T M dk W V R c) (ys:=[.str t.n]) O O O O (zN s.g.Dv z))).t O;have e:xg (cT (c2 yO aw aG)) (vF (cT (uo u5 "is_plainly" aw uI))) d=Z (!t.k.pl,d):=yQ O (xp (u4 (uA (m:="is_plainly") (ns:=["name", "words", "kind", "start"]) (xs:=[.str t.n,.c3 (t.w.map D.str),.str t.k.s,oS t.s]) (ys:=[]) O O O O (EG t))));obtain⟨i,u⟩:=KR (c:=c) (m:=m) s t.n "self";obtain⟨j,x⟩:=KR (c:=c) (m:=m) s t.n (a "self");obtain⟨A,y⟩:=SW (c:=c) (m:=m) s;have h:cT (tY yj qO) d=Z (i,d):=u4 (tW (tV O (tV O (tV O (tV (uA (m:="you") (ns:=qi) (xs:=wA T M dk W V R c) (ys:=[]) O O O O O) O)))) u);have l:tY yj rp d=Z (.O j,d):=tW (tV O (tV O (tV O (tV (tW (tV O (tV O O)) (KU s)) O)))) x;cases p:t.k.pl with
 |false=>rw[p]at e;exact⟨_,uc O ((tZ f).t (uu ((uE e).t O)))⟩
 |true=>
  rw[p]at e;cases i with
  |true=>exact⟨_,uc O ((tZ f).t ((tZ ((uN e).t O)).t (uu ((uE h).t O))))⟩
  |false=>
   cases j with
   |true=>exact⟨_,uc (ρ:=d) O ((tZ f).t ((tZ ((uN e).t O)).t ((tZ ((uN h).t O)).t (uf ((uv l).t (tW (tV O (tV O O)) y))))))⟩
   |false=>exact⟨_,uc (ρ:=d) O ((tZ f).t ((tZ ((uN e).t O)).t ((tZ ((uN h).t O)).t (uf (yL l)))))⟩
def Ko(S:L4.D):wC [wO T M dk W V R c,S,.I]=Z (.O δ):=by let w:=wO T M dk W V R c;let b:aP:=[.E w,.E S,.E .I,.E .I];have d:uD 3 (uo uz "thing_of" aa cn) [.E w,.E S,.E .I,.un]=Z (.nx b):=(uq (uA (m:="thing_of") (ns:=qi) (xs:=wA T M dk W V R c) (ys:=[.I]) O O O O (by rfl))).t O;exact uc (ρ:=b) O ((tZ d).t (uu ((uE O).t O)))
end
def q3(v:Str)(x y:Option Str):L4.D:=.c3 [.str v,oS x,oS y]
def Cm(T:List Th)(W:List Wy)(v:Vb)(x y:Option Str):Prop:=(v.f="one" /\ ∃n∈p8 T,x=Z n/\y=J)\/(v.f="two" /\ ∃n∈p8 T,∃k∈p8 T,x=Z n/\y=Z k)\/(v.f="alone" /\ x=J/\y=J)\/(v.f="way" /\ ∃d∈Xi W,x=Z d/\y=J)
def thO(v:Vb)(x y:Option Str):List (Option Str):=if v.f="way" then [J,J]else [x,y]
section
variable{T:List Th}{M:List Mk}{dk:aH}{W:List Wy}{V:List Vb}{R:List L4.D}{c:L4.D}{P:List Ky}{a:Str->Str}{m:Str->Int}{v:Vb}{x y:Option Str}
def OD(d:((V++v9).flatMap Vb.ws).Nodup)(b:v∈V++v9):vT [wO T M dk W V R c,.str v.n]=Z (m3 v):=
 uc (ρ:=[.E (wO T M dk W V R c),.E (.str v.n)]) O (uf (ua (x:=vwD (V++v9)) (y:=.str v.n) O O (KJ d b)))
def SX(i:((V++v9).flatMap Vb.ws).Nodup)(h:v∈V++v9)(x y:Option Str):yH [wO T M dk W V R c,q3 v.n x y]=Z (.O (decide (v.f="way"))):=by
 let w:=wO T M dk W V R c;let b:aP:=[.E w,.E (q3 v.n x y),.E (m3 v)];have e:uD 2 (xr (cT (c2 yO ah aG)) aG (uo vd "verb_of" aa ib)) [.E w,.E (q3 v.n x y),.un]=Z (.nx b):=by refine(uq (d:=m3 v) (ρ':=[.E w,.E (q3 v.n x y),.un]) ?_).t O;show uo vd "verb_of" aa ib [.E w,.E (q3 v.n x y),.un]=_;exact uA (m:="verb_of") (ns:=qi) (xs:=wA T M dk W V R c) (ys:=[.str v.n]) O O O O (OD i h)
 exact uc (ρ:=b) O ((tZ e).t (uf ((uv O).t (ua (x:=.str v.f) (y:=.str "way") O O (by rw[wg];rfl)))))
def JV(i:((V++v9).flatMap Vb.ws).Nodup)(d:v∈V++v9)(x y:Option Str):vw [wO T M dk W V R c,q3 v.n x y]=Z (.c3 ((thO v x y).map oS)):=by
 let b:aP:=[.E (wO T M dk W V R c),.E (q3 v.n x y)];have e:cT (tY yH cp) b=Z (decide (v.f="way"),b):=u4 (tW (tV O (tV O O)) (SX i d x y));unfold thO;by_cases h:v.f="way"
 .rw[bf h]at e;rw[aj h];exact uc (ρ:=b) O (uu ((uE (yQ O e)).t O))
 .rw[bj h]at e;rw[ai h];exact uc (ρ:=b) O ((vy (yQ O e)).t O)
def m_it{w S q:L4.D}(h:vw [w,q]=Z (.c3 [oS x,oS y])):vA [w,S,q,.str "it"]=Z (oS x):=by let b:aP:=[.E w,.E S,.E q,.E (.str "it")];exact uc (ρ:=b) O ((vy O).t (uu ((uE O).t (uf (ua (tW (tV O (tV O O)) h) O O)))))
def VE{w S q:L4.D}(h:vw [w,q]=Z (.c3 [oS x,oS y])):vA [w,S,q,.str "other"]=Z (oS y):=by let b:aP:=[.E w,.E S,.E q,.E (.str "other")];exact uc (ρ:=b) O ((vy O).t ((vy O).t (uu ((uE O).t (uf (ua (tW (tV O (tV O O)) h) O O))))))
def Z5(s:I? T M dk W P a)(q:L4.D):vA [wO T M dk W V R c,sD P (va a m),q,.str "here"]=Z (.str (a "self")):=by let b:aP:=[.E (wO T M dk W V R c),.E (sD P (va a m)),.E q,.E (.str "here")];exact uc (ρ:=b) O (uu ((uE O).t (uf (tW (tV O (tV O O)) (KU s)))))
def Iw(w S q:L4.D){x:Str}(h:Nm x):vA [w,S,q,.str x]=Z (.str x):=by let b:aP:=[.E w,.E S,.E q,.E (.str x)];have all:=ba.1 (show (nmL.all λx=>!decide (x="here")&&!decide (x="it")&&!decide (x="other"))=γ by kernel_rfl) x h;simp only[aX,eJ,decide_eq_false_iff_not]at all;have e:∀t:Str,¬x=t->cT (c2 (eo δ) aw (cC (.str t))) b=Z (δ,b):=λt d=>u4 (ua (x:=.str x) (y:=.str t) O O (by rw[wg];show Z (D.O (decide (x=t)))=_;rw[bj d]));exact uc (ρ:=b) O ((vy (e _ all.1.1)).t ((vy (e _ all.1.2)).t ((vy (e _ all.2)).t O)))
def VG(p:((V++v9).flatMap Vb.ws).Nodup)(o:v∈V++v9)(i:Cm T W v x y)(S:L4.D){t:Str}(h:By v.f t):∃z∈p8 T,vA [wO T M dk W V R c,S,q3 v.n x y,.str t]=Z (.str z):=by
 have b:=JV (T:=T) (M:=M) (dk:=dk) (W:=W) (R:=R) (c:=c) p o x y;have nw:∀f:Str,f∈(["one", "two"]:aH)->v.f=f->vw [wO T M dk W V R c,q3 v.n x y]=Z (.c3 [oS x,oS y]):=λf j e=>by unfold thO at b;rw[ai (show ¬v.f="way" from by rw[e];intro z;rw[z]at j;exact ao j (by decide))]at b;exact b
 rcases h with ⟨rfl,h⟩|⟨rfl,h⟩
 .have b:=nw _ h O;rcases i with ⟨_,n,d,rfl,rfl⟩|⟨_,n,d,k,l,rfl,rfl⟩|⟨e,_⟩|⟨e,_⟩
  .exact⟨n,d,m_it b⟩
  .exact⟨n,d,m_it b⟩
  .rw[e]at h;exact ao h (by decide)
  .rw[e]at h;exact ao h (by decide)
 .have b:=nw "two" (by decide) h;rcases i with ⟨e,_⟩|⟨_,n,d,k,l,rfl,rfl⟩|⟨e,_⟩|⟨e,_⟩
  .rw[e]at h;exact ao h (by decide)
  .exact⟨k,l,VE b⟩
  .rw[e]at h;exact ao h (by decide)
  .rw[e]at h;exact ao h (by decide)
def SY(g:e4 T M dk W){z:Str}(h:z∈T.map Th.n):Nm z:=g.nm _ (bL _ h)
def pl_T{z:Str}(h:z∈p8 T):z∈T.map Th.n:=by obtain⟨t,b,rfl⟩:=av.1 h;exact av.2 ⟨t,(bc.1 b).1,O⟩
def Mb{z:Str}(h:z∈pw T):z∈T.map Th.n:=by obtain⟨t,b,rfl⟩:=av.1 h;exact av.2 ⟨t,(bc.1 b).1,O⟩
def SZ{z:Str}(h:z∈w? T):z∈T.map Th.n:=by obtain⟨t,b,rfl⟩:=av.1 h;exact av.2 ⟨t,(bc.1 b).1,O⟩
def PX(s:I? T M dk W P a)(l:((V++v9).flatMap Vb.ws).Nodup)(d:v∈V++v9)(b:Cm T W v x y){N:aH}(hN:∀z∈N,z∈T.map Th.n){t:Str}(h:Tm v.f N t):∃z∈T.map Th.n,vA [wO T M dk W V R c,sD P (va a m),q3 v.n x y,.str t]=Z (.str z):=by
 rcases h with h|rfl|h
 .exact⟨t,hN t h,Iw _ _ _ (SY s.g (hN t h))⟩
 .exact⟨_,SZ s.i.me,Z5 s _⟩
 .obtain⟨z,j,e⟩:=VG (M:=M) (dk:=dk) (R:=R) (c:=c) l d b (sD P (va a m)) h;exact⟨z,pl_T j,e⟩
def VH(k:Nat)(w S q t:L4.D)(b:Bool):Prop:=∃j e f d,t=.obj j e f/\uC k j=Z d/\e.contains "holds" = δ/\d [t,w,S,q]=Z (.O b)
def PY(s:I? T M dk W P a)(U:((V++v9).flatMap Vb.ws).Nodup)(Q:v∈V++v9)(I:Cm T W v x y){n:Nat}{t:L4.D}(h:Ts T M v.f n t):∀k,n<=k->∃b,VH k (wO T M dk W V R c) (sD P (va a m)) (q3 v.n x y) t b:=by
 let w:=wO T M dk W V R c;let S:=sD P (va a m);let q:=q3 v.n x y
 induction h with
 |@ats n B t2 H hb=>
  intro k _;obtain⟨z,hz,E⟩:=PX (R:=R) (c:=c) (m:=m) s U Q I (λ_ h=>h) H;obtain⟨u,hu,eu⟩:=PX (R:=R) (c:=c) (m:=m) s U Q I (λ_ h=>Mb h) hb;let A:aP:=[.E (atO B t2),.E w,.E S,.E q,.E (.str z),.un];let o:L4.D->aP:=λd=>[.E (atO B t2),.E w,.E S,.E q,.E (.str z),.E d];have e0:∀(d:L4.D),yw [S,.str z]=Z d->∀f:FS,bt (uD 4 (tY vA fJ)) (bt (uD 5 (tY yw (ax ak eZ))) f) [.E (atO B t2),.E w,.E S,.E q,.un,.un]=f (o d):=λd hd f=>(tZ (ρ':=A) ((uq (tW (tV O (tV O (tV O (tV O O)))) E)).t O)).t (tZ (ρ':=o d) ((uq (tW (tV O (tV O O)) hd)).t O))
  by_cases hn:z∈xo T
  .exact⟨_,3,_,_,DM,O,by cases k<;>rfl,O,uc (ρ:=o (.str (a z))) O ((e0 _ ((Ma s.p z).t (by rw[aj hn])) _).t (uf ((uv O).t (ua (x:=.str (a z)) (y:=.str u) O (tW (tV O (tV O (tV O (tV O O)))) eu) (by rw[wg])))))⟩
  .exact⟨δ,3,_,_,DM,O,by cases k<;>rfl,O,uc (ρ:=o .I) O ((e0 _ ((Ma s.p z).t (by rw[ai hn])) _).t (uf (yL O)))⟩
 |@has n B H=>intro k _;obtain⟨z,hz,E⟩:=PX (R:=R) (c:=c) (m:=m) s U Q I (λ_ h=>h) H;obtain⟨l,ch⟩:=s.i.ch z;let o:aP:=[.E (hsO B),.E w,.E S,.E q];exact⟨_,4,_,_,F4,O,by cases k<;>rfl,O,uc (ρ:=o) O (uf (tW (tV O (tV O (tV (tW (tV O (tV O (tV O (tV O O)))) E) O))) (Z4 s.p ch (Nk s.g s.i ch))))⟩
 |@seen n B H=>intro k _;obtain⟨z,hz,E⟩:=PX (R:=R) (c:=c) (m:=m) s U Q I (λ_ h=>h) H;obtain⟨u,hu,rfl⟩:=av.1 hz;obtain⟨b,eb⟩:=OC (V:=V) (R:=R) (c:=c) (m:=m) s hu;let o:aP:=[.E (seO B),.E w,.E S,.E q];exact⟨b,5,_,_,EA,O,by cases k<;>rfl,O,uc (ρ:=o) O (uf (tW (tV O (tV O (tV (tW (tV O (tV O (tV O (tV O O)))) E) O))) eb))⟩
 |@mark n p val hq=>
  intro k _;obtain⟨z,E⟩:∃z,vA [w,S,q,.str p.1]=Z (.str z):=by
   rcases hq with hq|⟨hq,_⟩
   .exact⟨_,Iw _ _ _ (Sv s.g hq)⟩
   .obtain⟨z,_,e⟩:=VG (M:=M) (dk:=dk) (R:=R) (c:=c) U Q I S hq;exact⟨z,e⟩
  let o:L4.D->aP:=λd=>[.E (V' p.1 val),.E w,.E S,.E q,.E d];have e0:∀(d:L4.D),xN [S,.str z]=Z d->uD 4 (tY xN j9) [.E (V' p.1 val),.E w,.E S,.E q,.un]=Z (.nx (o d)):=λd hd=>(uq (tW (tV O (tV (tW (tV O (tV O (tV O (tV O O)))) E) O)) hd)).t O;by_cases hn:z∈si T M
  .exact⟨_,6,_,_,zL,O,by cases k<;>rfl,O,uc (ρ:=o (.int (m z))) O ((tZ (e0 _ ((GF s.p z).t (by rw[aj hn])))).t (uf ((uv O).t (ua (x:=.int (m z)) (y:=.int val) O O (y9 _ _ _)))))⟩
  .exact⟨δ,6,_,_,zL,O,by cases k<;>rfl,O,uc (ρ:=o .I) O ((tZ (e0 _ ((GF s.p z).t (by rw[ai hn])))).t (uf (yL O)))⟩
 |@kind n B kk H=>intro k _;obtain⟨z,hz,E⟩:=PX (R:=R) (c:=c) (m:=m) s U Q I (λ_ h=>h) H;obtain⟨u,hu,rfl⟩:=av.1 hz;let o:aP:=[.E (kiO B kk),.E w,.E S,.E q,.E (d? u)];exact⟨_,7,_,_,EC,O,by cases k<;>rfl,O,uc (ρ:=o) O ((tZ (ρ':=o) ((uq (uA (m:="thing_of") (ns:=qi) (xs:=wA T M dk W V R c) (ys:=[.str u.n]) (ρ2:=[.E (kiO B kk),.E w,.E S,.E q,.un]) O O O (tV (tW (tV O (tV O (tV O (tV O O)))) E) O) (zN s.g.Dv hu))).t O)).t (uf ((uv O).t (ua (x:=.str u.k.s) (y:=.str kk) (uQ O (zM u)) O (wg _ _ _)))))⟩
 |@word n d N=>
  intro k _;obtain⟨z,rfl⟩:∃z,x=Z z:=by
   rcases I with ⟨e,_⟩|⟨e,_⟩|⟨e,_⟩|⟨_,d,_,rfl,_⟩
   .rw[e]at N;exact ao N (by decide)
   .rw[e]at N;exact ao N (by decide)
   .rw[e]at N;exact ao N (by decide)
   .exact⟨d,O⟩
  let o:aP:=[.E (woO d),.E w,.E S,.E (q3 v.n (Z z) y)];exact⟨_,8,_,_,EE,O,by cases k<;>rfl,O,uc (ρ:=o) O (uf ((uv (ρ1:=o) (tW (tV O (tV O O)) ((SX U Q (Z z) y).t (by rw[bf N])))).t (ua (x:=.str z) (y:=.str d) O O (wg _ _ _))))⟩
 |@lit n=>intro k _;obtain⟨b,eb⟩:=SW (V:=V) (R:=R) (c:=c) (m:=m) s;let o:aP:=[.E liO,.E w,.E S,.E q];exact⟨b,15,_,_,F6,O,by cases k<;>rfl,O,uc (ρ:=o) O (uf (tW (tV O (tV O O)) eb))⟩
 |@no n d h ih=>intro k hk;obtain⟨k,rfl⟩:∃j,k=j+1:=⟨k - 1,by omega⟩;obtain⟨b,j,r,G,Y,rfl,h2,h3,h4⟩:=ih k (by omega);let o:aP:=[.E (noO (.obj j r G)),.E w,.E S,.E q];exact⟨!b,9,["inner"],[.obj j r G],eg 4 4 (yI (uC k)),O,O,O,uc (ρ:=o) O (uf (KH (uA (g:=uC k) (m:="holds") (c:=j) (ns:=r) (hh:=Y) (xs:=G) (ys:=[w,S,q]) (ρ1:=o) (ρ2:=o) O h2 h3 O h4)))⟩
 |@bo n d e h h' ih ih'=>
  intro k hk;obtain⟨k,rfl⟩:∃j,k=j+1:=⟨k - 1,by omega⟩;obtain⟨b,j,r,G,Y,rfl,h2,h3,h4⟩:=ih k (by omega);obtain⟨b',j',F,C,hh',rfl,h2',h3',h4'⟩:=ih' k (by omega);let D2:L4.D:=boO (.obj j r G) (.obj j' F C);let o:aP:=[.E D2,.E w,.E S,.E q];have e1:uo (uC k) "holds" (c1 (ud GA "one") aa) gw o=Z (.O b,o):=uA (g:=uC k) (m:="holds") (c:=j) (ns:=r) (hh:=Y) (xs:=G) (ys:=[w,S,q]) (ρ1:=o) (ρ2:=o) O h2 h3 O h4;have e2:uo (uC k) "holds" (c1 (ud CC "other") aa) gw o=Z (.O b',o):=uA (g:=uC k) (m:="holds") (c:=j') (ns:=F) (hh:=hh') (xs:=C) (ys:=[w,S,q]) (ρ1:=o) (ρ2:=o) O h2' h3' rfl h4';cases b with
  |true=>exact⟨b',10,["one", "other"],[.obj j r G,.obj j' F C],eg 4 4 (w6 (uC k)),O,O,O,uc (ρ:=o) O (uf ((uv e1).t e2))⟩
  |false=>exact⟨δ,10,["one", "other"],[.obj j r G,.obj j' F C],eg 4 4 (w6 (uC k)),O,O,O,uc (ρ:=o) O (uf (yL e1))⟩
end
section
variable{T:List Th}{M:List Mk}{dk:aH}{W:List Wy}{V:List Vb}{R:List L4.D}{c:L4.D}{P:List Ky}{a:Str->Str}{m:Str->Int}{v:Vb}{x y:Option Str}
def I?.len(s:I? T M dk W P a):P.length<=900:=by have:=(KO s.g).2;rw[s.p.length_eq];omega
def abK{x:Str}(h:x∈xo T):∃t∈T,t.n=x/\¬t.k=.room:=by obtain⟨t,b,e⟩:=av.1 h;rw[bc]at b;exact⟨t,b.1,e,λz=>by rw[z]at b;exact ao b.2 (by decide)⟩
def S4(s:Str)(x:Str):eo γ (.b3 [kD (s,x)]) (.b3 [])=Z (.O γ):=by rfl
def Mc(g:e4 T M dk W){x:Str}(h:x∈xo T):DJ [wO T M dk W V R c,.str x]=Z (.b3 [kD ("at", x)]):=by obtain⟨t,j,rfl,i⟩:=abK h;let w:=wO T M dk W V R c;let b:aP:=[.E w,.E (.str t.n),.E (d? t)];have d:uD 2 (uo uz "thing_of" aa bu) [.E w,.E (.str t.n),.un]=Z (.nx b):=(uq (uA (m:="thing_of") (ns:=qi) (xs:=wA T M dk W V R c) (ys:=[.str t.n]) O O O O (zN g.Dv j))).t O;have e:cT (c2 (eo δ) (c1 (ud uL "kind") ak) dy) b=Z (δ,b):=u4 (ua (uQ O (zM t)) O ((OB t .room).t (by rw[bj i])));have f:xg (cT (c2 yO ak aG)) (cT (c2 (eo δ) (c1 (ud uL "kind") ak) dy)) b=Z (δ,b):=yQ O e;refine uc (ρ:=b) O ((tZ d).t (uf ?_));unfold xr;rw[f];rfl
def PZ(g:e4 T M dk W){x:Str}{t:Th}(j:x∈xo T)(i:t∈T):Ex [wO T M dk W V R c,.str x,.str t.n]=Z (.O (t.k.hd&&!decide (t.n=x))):=by
 let w:=wO T M dk W V R c;let b:aP:=[.E w,.E (.str x),.E (.str t.n),.E (d? t)];have h:uD 3 (uo uz "thing_of" aa cn) [.E w,.E (.str x),.E (.str t.n),.un]=Z (.nx b):=(uq (uA (m:="thing_of") (ns:=qi) (xs:=wA T M dk W V R c) (ys:=[.str t.n]) O O O O (zN g.Dv i))).t O;have d:uo vc "can_hold" aw uI b=Z (.O t.k.hd,b):=uA (m:="can_hold") (ns:=["name", "words", "kind", "start"]) (xs:=[.str t.n,.c3 (t.w.map D.str),.str t.k.s,oS t.s]) (ys:=[]) O O O O (KC t);refine uc (ρ:=b) O ((tZ h).t (uf ((uv (ρ1:=b) (ua (tW (tV O (tV O O)) (Mc g j)) O (S4 _ _))).t ((uv (ρ1:=b) O).t ?_))));cases f:t.k.hd with
 |true=>rw[f]at d;exact(uv d).t (ua (x:=.str t.n) (y:=.str x) O O (by rw[wg];rfl))
 |false=>rw[f]at d;exact yL d
def Done(w S q d:L4.D)(o:L4.D):Prop:=∃k e f b,d=.obj k e f/\yk k=Z b/\e.contains "done" = δ/\b [d,w,S,q]=Z o
def stO(P:List Ky):Option ((Str->Str)×(Str->Int))->L4.D
 |none=>.I
 |some q=>sD P (va q.1 q.2)
def OE(s:I? T M dk W P a)(N:Mr T M m){q:L4.D}{t d x:Str}{u:Th}(E:x∈xo T)(A:u∈T)(I:x="self" -> u.k=.room)(G:vA [wO T M dk W V R c,sD P (va a m),q,.str t]=Z (.str x))(H:vA [wO T M dk W V R c,sD P (va a m),q,.str d]=Z (.str u.n)):
  ∃o,Done (wO T M dk W V R c) (sD P (va a m)) q (Rn t d) (stO P o)/\∀p,o=Z p->b? T p.1/\Mr T M p.2:=by
 let w:=wO T M dk W V R c;let S:=sD P (va a m);obtain⟨l,h⟩:=s.i.ch u.n;let b:aP:=[.E (Rn t d),.E w,.E S,.E q,.E (.str x),.E (.str u.n)];have e:cT (tY Ex ra) b=Z (u.k.hd&&!decide (u.n=x),b):=u4 (tW (tV O (tV O (tV O O))) (PZ s.g E A));have F:cT (c2 (pk δ) az (cL (vb w5 j1))) b=Z (decide (x∈l),b):=u4 (ua (x:=.str x) (y:=.b3 (l.map D.str)) O (vm (tW (tV O (tV O (tV O O))) (KQ s.p _ h (Nk s.g s.i h)))) (yC δ _ _));have r:∀f:FS,bt (uD 4 (tY vA fJ)) (bt (uD 5 (tY vA mw)) f) [.E (Rn t d),.E w,.E S,.E q,.un,.un]=f b:=λf=>(tZ (ρ':=[.E (Rn t d),.E w,.E S,.E q,.E (.str x),.un]) ((uq (tW (tV O (tV O (tV O (tV O O)))) G)).t O)).t (tZ (ρ':=b) ((uq (tW (tV O (tV O (tV O (tV O O)))) H)).t O))
 cases k:u.k.hd&&!decide (u.n=x)with
 |false=>rw[k]at e;exact⟨J,⟨11,_,_,z8,O,O,O,uc (ρ:=b) O ((r _).t (uu ((uE (LV (xp e))).t O)))⟩,λp z=>by cases z⟩
 |true=>
  rw[k]at e;rw[aX,eJ,decide_eq_false_iff_not]at k;have j:=yQ (xp e) F;cases B:decide (x∈l)with
  |true=>rw[B]at j;exact⟨J,⟨11,_,_,z8,O,O,O,uc (ρ:=b) O ((r _).t (uu ((uE j).t O)))⟩,λp z=>by cases z⟩
  |false=>rw[B]at j;refine⟨Z (W1 a x u.n,m),⟨11,_,_,z8,O,O,O,uc (ρ:=b) O ((r _).t ((vy j).t (uf (tW (ds:=[S,kD ("at", x),.str u.n]) (tV O (tV O (tV O O))) ((Oz P s.len (va a m) ("at", x) (.str u.n)).t (by rw[abF];rfl))))))⟩,λp z=>?_⟩;cases z;exact⟨s.i.mv s.g E (av.2 ⟨u,bc.2 ⟨A,k.1⟩,O⟩) (λz=>av.2 ⟨u,bc.2 ⟨A,bf (I z)⟩,O⟩) k.2 h (of_decide_eq_false B),N⟩
theorem S5{d:Type}(kf:d->dt)(b:d->Int)(k:dt):∀l:List d,(vI (l.map kf) (l.map λa=>D.int (b a)) k).getD .I=.I\/∃z,(vI (l.map kf) (l.map λa=>D.int (b a)) k).getD .I=.int z
 |[]=>.inl O
 |a::l=>by
  rw[aA,aA];unfold vI;split
  .exact .inr ⟨b a,O⟩
  .exact S5 kf b k l
def S6(s:I? T M dk W P a)(mr:Mr T M m){q:L4.D}{t z:Str}(F:vA [wO T M dk W V R c,sD P (va a m),q,.str t]=Z (.str z)){n:Int}(n0:0<=n):
  ∃o,Done (wO T M dk W V R c) (sD P (va a m)) q (puO t n) (stO P o)/\∀p,o=Z p->b? T p.1/\Mr T M p.2:=by
 let w:=wO T M dk W V R c;let S:=sD P (va a m);let l:aP:=[.E (puO t n),.E w,.E S,.E q,.E (.str z)];have N:vS [w,.str z]=Z ((vI ((mP T M).map λq=>kS q.1) ((mP T M).map λq=>D.int q.2) (kS z)).getD .I):=uc (ρ:=[.E w,.E (.str z)]) O (uf (ua (x:=mD T M) (y:=.str z) O O O));have U:uD 4 (tY vA fJ) [.E (puO t n),.E w,.E S,.E q,.un]=Z (.nx l):=(uq (tW (tV O (tV O (tV O (tV O O)))) F)).t O;have H:∀(d:L4.D),vS [w,.str z]=Z d->∀j:aP,cV 0 j=Z (w,j)->cV 1 j=Z (.str z,j)->uo vM "most_of" aa bu j=Z (d,j):=λd hd j Y F=>uA (m:="most_of") (ns:=qi) (xs:=wA T M dk W V R c) (ys:=[.str z]) Y O O (tV F O) hd;have fin:∀b,DL [w,.str z,.int n]=Z (.O b)->(b=γ->∀q∈mP T M,q.1=z->n<=q.2)->∃o,Done w S q (puO t n) (stO P o)/\∀p,o=Z p->b? T p.1/\Mr T M p.2:=λb G hk=>by
  have Q:=xp (u4 (tW (a:=ax ah (ax az mC)) (ρ:=l) (tV O (tV O (tV O O))) G));cases b with
  |false=>exact⟨J,⟨12,_,_,DN,O,O,O,uc (ρ:=l) O ((tZ U).t (uu ((uE Q).t O)))⟩,λp z=>by cases z⟩
  |true=>exact⟨Z (a,W1 m z n),⟨12,_,_,DN,O,O,O,uc (ρ:=l) O ((tZ U).t ((vy Q).t (uf (tW (ds:=[S,kD ("mark", z),.int n]) (tV O (tV O (tV O O))) ((Oz P s.len (va a m) ("mark", z) (.int n)).t (by rw[abG _ _ _ _ _ (Wk s.p)];rfl))))))⟩,λp e=>by
   cases e;refine⟨s.i,λq X=>?_⟩;show 0<=(if q.1=z then n else m q.1)/\(if q.1=z then n else m q.1)<=q.2;by_cases A:q.1=z
   .rw[aj A];exact⟨n0,hk O q X A⟩
   .rw[ai A];exact mr q X⟩
 let r:aP:=[.E w,.E (.str z)];let B:aP:=[.E w,.E (.str z),.E (.int n)];rcases S5 (λq:Str×Int=>kS q.1) bO (kS z) (mP T M)with h|⟨k,h⟩
 .have E:=N.t (bp Z h);have I:zd [w,.str z]=Z (.b3 []):=by refine uc (ρ:=r) O (uf ((Ip (ρ1:=r) (u4 (ua (H _ E r O O) O O))).t O))
  exact fin δ (uc (ρ:=B) O (uf (yL (ρ1:=B) (ua (tW (tV O (tV O O)) I) O O)))) λz=>by cases z
 .have E:=N.t (bp Z h);have I:zd [w,.str z]=Z (.b3 [kD ("mark", z)]):=by refine uc (ρ:=r) O (uf ?_);have e:cT (c2 yO (uo vM "most_of" aa bu) aG) r=Z (δ,r):=u4 (ua (H _ E r O O) O O);show xr _ _ _ r=_;unfold xr;rw[e];rfl
  exact fin (decide (n<=k)) (uc (ρ:=B) O (uf ((uv (ρ1:=B) (ua (tW (tV O (tV O O)) I) O (S4 _ _))).t (ua (x:=.int n) (y:=.int k) O (H _ E B O O) O)))) λG u hu A=>by rw[<-A,AF (d:=.int u.2) (Sq s.g) (by rw[iJ];exact bP (f:=λq:Str×Int=>(kS q.1,D.int q.2)) hu)]at h;injection h with h;rw[h];exact bF G
def abL(g:e4 T M dk W){z:Str}(h:z∈p8 T):z∈xo T/\¬z="self" := by obtain⟨t,d,rfl⟩:=av.1 h;rw[bc]at d;have b:=d.2;refine⟨(KN g.Dv _ d.1).2 (by cases e:t.k<;>rw[e]at b<;>first|rfl|cases b),λz=>?_⟩;obtain⟨u,f,e,k⟩:=L8 g;rw[KM g.Dv d.1 f (z.t e.symm),k]at b;cases b
def S7(s:I? T M dk W P a)(l:Mr T M m)(E:((V++v9).flatMap Vb.ws).Nodup)(C:v∈V++v9)(A:Cm T W v x y){d:L4.D}(h:Ds T M v.f d):∃o,Done (wO T M dk W V R c) (sD P (va a m)) (q3 v.n x y) d (stO P o)/\∀p,o=Z p->b? T p.1/\Mr T M p.2:=by
 cases h with
 |@put q n h G=>
  rcases h with h|⟨h,_⟩
  .exact S6 s l (Iw _ _ _ (Sv s.g h)) G
  .obtain⟨z,_,e⟩:=VG (M:=M) (dk:=dk) (R:=R) (c:=c) E C A (sD P (va a m)) h;exact S6 s l e G
 |@X1 t b X Y hm=>
  obtain⟨z,hz,i⟩:=PX (R:=R) (c:=c) (m:=m) s E C A (λ_ h=>Mb h) Y;obtain⟨u,B,rfl⟩:=av.1 hz;rcases X with ⟨w,j,rfl,hk⟩|h
  .have H:=Iw (wO T M dk W V R c) (sD P (va a m)) (q3 v.n x y) (SY s.g (av.2 ⟨w,j,O⟩));refine OE s l ((KN s.g.Dv _ j).2 (by rw[bj hk];rfl)) B (λz=>?_) H i;obtain⟨r,F,e,kr⟩:=hm z;have I:=Iw (wO T M dk W V R c) (sD P (va a m)) (q3 v.n x y) (SY s.g (av.2 ⟨r,F,e⟩));rw[I]at i;have N:b=u.n:=by injection i with i;injection i
   rw[<-KM s.g.Dv F B (e.t N)];exact kr
  .obtain⟨w,j,Q⟩:=VG (M:=M) (dk:=dk) (R:=R) (c:=c) E C A (sD P (va a m)) h;obtain⟨S,U⟩:=abL s.g j;exact OE s l S B (λz=>ao z U) Q i
end
section
variable{T:List Th}{M:List Mk}{dk:aH}{W:List Wy}{V:List Vb}{R:List L4.D}{c:L4.D}{P:List Ky}{a:Str->Str}{m:Str->Int}{v:Vb}{x y:Option Str}
def VI{w S q t:L4.D}{b:Bool}(h:VH 3 w S q t b)(r:Sl):uo (uC 3) "holds" az fK [.E w,.E S,.E q,r,.E t]=Z (.O b,[.E w,.E S,.E q,r,.E t]):=by obtain⟨k,e,f,d,rfl,i,j,l⟩:=h;exact uA (g:=uC 3) (m:="holds") (c:=k) (ns:=e) (hh:=d) (xs:=f) (ys:=[w,S,q]) O i j O l
def fB:FS:=(fc (vF (cT (uo (uC 3) "holds" az fK))) (ue bJ) uk)
theorem JW{w S q:L4.D}(r:Sl):∀(d:List L4.D) (s:Sl),(∀t∈d,∃b,VH 3 w S q t b)->∃f,fh (gN 4) fB d [.E w,.E S,.E q,r,s]=Z (.nx [.E w,.E S,.E q,r,f])\/fh (gN 4) fB d [.E w,.E S,.E q,r,s]=Z (.rt (.O δ) [.E w,.E S,.E q,r,f])
 |[],s,_=>⟨s,.inl O⟩
 |t::d,s,h=>by
  unfold fh;rw[show gN 4 t [.E w,.E S,.E q,r,s]=Z [.E w,.E S,.E q,r,.E t] from O];obtain⟨b,l⟩:=h t aN;have e:=xp (u4 (VI l r));cases b with
  |true=>obtain⟨f,j⟩:=JW (w:=w) (S:=S) (q:=q) r d (.E t) λu o=>h u (aQ _ o);have i:fB [.E w,.E S,.E q,r,.E t]=Z (.nx [.E w,.E S,.E q,r,.E t]):=(uN e).t O;simp only[i];exact⟨f,j⟩
  |false=>have i:fB [.E w,.E S,.E q,r,.E t]=Z (.rt (.O δ) [.E w,.E S,.E q,r,.E t]):=(uE e).t O;simp only[i];exact⟨.E t,.inr O⟩
def S8{w S q:L4.D}(n:Str)(d ds:List L4.D)(l:Str)(i:Bool)(h:∀t∈d,∃b,VH 3 w S q t b):∃b,Fd [w,S,q,p? n d ds l i]=Z (.O b):=by
 let r:Sl:=.E (p? n d ds l i);obtain⟨j,e|e⟩:=JW r d .un h
 .exact⟨γ,uc (ρ:=[.E w,.E S,.E q,r,j]) O ((tZ ((vz (ds:=d) (ρ1:=[.E w,.E S,.E q,r,.un]) O).t e)).t O)⟩
 .exact⟨δ,uc (ρ:=[.E w,.E S,.E q,r,j]) O (uu ((vz (ds:=d) (ρ1:=[.E w,.E S,.E q,r,.un]) O).t e))⟩
def Cv(k b:Str)(S:L4.D):L4.D:=.c3 [.c3 [.str k,.str b],S]
def Gd(T:List Th)(M:List Mk)(P:List Ky)(S o:L4.D):Prop:=∃k e b d,o=Cv k e (sD P (va b d))/\((k="refused" /\ sD P (va b d)=S)\/k="told")/\b? T b/\Mr T M d
def dnB:FS:=(bt (uD 4 (uo yk "done" bB (ax aa mG)))
 (fc (cT (c2 yO az aG)) (ue (uO (ax (uO qF) bu))) uk))
theorem Iy(Q:((V++v9).flatMap Vb.ws).Nodup)(I:v∈V++v9)(F:Cm T W v x y)(S:L4.D)(r:Sl):∀(ds:List L4.D) (a:Str->Str) (m:Str->Int) (j:Sl),I? T M dk W P a->Mr T M m->(∀d∈ds,Ds T M v.f d)->
  (∃ρ',fh (gN 5) dnB ds [.E (wO T M dk W V R c),.E S,.E (q3 v.n x y),r,.E (sD P (va a m)),j]=Z (.rt (Cv "refused" "That cannot be." S) ρ'))\/∃C N t5,(b? T C/\Mr T M N)/\fh (gN 5) dnB ds [.E (wO T M dk W V R c),.E S,.E (q3 v.n x y),r,.E (sD P (va a m)),j]=Z (.nx [.E (wO T M dk W V R c),.E S,.E (q3 v.n x y),r,.E (sD P (va C N)),t5])
 |[],a,m,j,s,A,_=>.inr ⟨a,m,j,⟨s.i,A⟩,O⟩
 |d::ds,a,m,j,s,A,h=>by
  let w:=wO T M dk W V R c;let q:=q3 v.n x y;obtain⟨o,⟨k,B,E,G,rfl,U,X,Y⟩,H⟩:=S7 (R:=R) (c:=c) (m:=m) s A Q I F (h d aN);let l:L4.D:=.obj k B E;let b:L4.D->aP:=λz=>[.E w,.E S,.E q,r,.E z,.E l];have e:=uA (g:=yk) (m:="done") (c:=k) (ns:=B) (hh:=G) (xs:=E) (ys:=[w,sD P (va a m),q]) (e:=cV 5) (a:=ax aa mG) (ρ:=b (sD P (va a m))) (ρ1:=b (sD P (va a m))) (ρ2:=b (sD P (va a m))) O U X O Y;unfold fh;rw[show gN 5 l [.E w,.E S,.E q,r,.E (sD P (va a m)),j]=Z (b (sD P (va a m))) from O];cases o with
  |none=>have t:dnB (b (sD P (va a m)))=Z (.rt (Cv "refused" "That cannot be." S) (b .I)):=(tZ (ρ':=b .I) ((uq e).t O)).t ((uE O).t O);simp only[t];exact .inl ⟨_,O⟩
  |some p=>have t:dnB (b (sD P (va a m)))=Z (.nx (b (sD P (va p.1 p.2)))):=(tZ (ρ':=b (sD P (va p.1 p.2))) ((uq e).t O)).t ((uN O).t O);simp only[t];exact Iy Q I F S r ds p.1 p.2 (.E l) ⟨s.g,s.p,(H p O).1⟩ (H p O).2 λu hu=>h u (aQ _ hu)
def VJ(s:I? T M dk W P a)(t:Mr T M m)(G:((V++v9).flatMap Vb.ws).Nodup)(F:v∈V++v9)(C:Cm T W v x y)(n:Str)(z ds:List L4.D)(j:Str)(u:Bool)(hd:∀d∈ds,Ds T M v.f d):∃o,Gd T M P (sD P (va a m)) o/\zl [wO T M dk W V R c,sD P (va a m),q3 v.n x y,p? n z ds j u]=Z o:=by
 let w:=wO T M dk W V R c;let S:=sD P (va a m);let q:=q3 v.n x y;let r:=p? n z ds j u;let b:Sl->Sl->aP:=λx y=>[.E w,.E S,.E q,.E r,x,y];cases u with
 |true=>exact⟨_,⟨"refused", j,a,m,O,.inl ⟨O,O⟩,s.i,t⟩,uc (ρ:=b .un .un) O (uu ((uE O).t O))⟩
 |false=>
  rcases Iy (R:=R) (c:=c) G F C S (.E (p? n z ds j δ)) ds a m .un s t hd with ⟨h,e⟩|⟨l,p,B,E,e⟩
  .exact⟨_,⟨"refused", "That cannot be.", a,m,O,.inl ⟨O,O⟩,s.i,t⟩,uc (ρ:=h) O ((vy O).t ((tZ (ρ':=b (.E S) .un) O).t (uu ((vz (ds:=ds) (ρ1:=b (.E S) .un) O).t e))))⟩
  .exact⟨_,⟨"told", j,l,p,O,.inr O,E⟩,uc (ρ:=b (.E (sD P (va l p))) B) O ((vy O).t ((tZ (ρ':=b (.E S) .un) O).t ((tZ (ρ':=b (.E (sD P (va l p))) B) ((vz (ds:=ds) (ρ1:=b (.E S) .un) O).t e)).t O)))⟩
def JX{c b:FT}{d ρ1:aP}(h:c d=Z (γ,ρ1)):wF c b d=b ρ1:=by unfold wF;rw[h]
def P1{c e:FT}{d b:aP}(h:c d=Z (δ,b)):wF c e d=Z (δ,b):=by unfold wF;rw[h]
def S9{e:FE}{ρ ρ1:aP}{ds:List L4.D}(h:e ρ=Z (.c3 ds,ρ1)):iT e ρ=Z (ds,ρ1):=by unfold iT;rw[h]
def nmP(b:List (Option Str)):aH:=b.filterMap id
def fU(b:List (Option Str))(p:Str->Bool):Option Str:=(nmP b).find? λx=>!p x
def uB:FS:=(fc (wF (cT (c2 v5 az aG)) (cT (c2 (pk γ) az aw))) (ue (uO qZ)) uk)
def abM(o:Option L4.D)(b:aP):Option rh:=Z (match o with|some d=>.rt d b|none=>.nx b)
def VL(x:Str)(b:List (Option Str))(p:Str->Bool):fU (Z x::b) p=if p x then fU b p else Z x:=by unfold fU;show (x::nmP b).find? _=_;rw[dE];cases p x<;>rfl
theorem KW{w q s5:Sl}{S:L4.D}{L:aH}{p:Str->Bool}:∀(d:List (Option Str)) (s:Sl),(∀x∈nmP d,decide (x∈L)=p x)->∃f,fh (gN 4) uB (d.map oS) [w,.E S,q,.E (.b3 (L.map D.str)),s,s5]=abM ((fU d p).map λx=>Cv "unseen" x S) [w,.E S,q,.E (.b3 (L.map D.str)),f,s5]
 |[],s,_=>⟨s,O⟩
 |none::d,s,h=>by obtain⟨f,e⟩:=KW (w:=w) (q:=q) (s5:=s5) (S:=S) (L:=L) (p:=p) d (.E .I) h;exact⟨f,e⟩
 |some x::d,s,h=>by
  let b:aP:=[w,.E S,q,.E (.b3 (L.map D.str)),.E (.str x),s5];have o:=h x aN;have i:wF (cT (c2 v5 az aG)) (cT (c2 (pk γ) az aw)) b=Z (!p x,b):=(JX (ρ1:=b) O).t (u4 (ua (x:=.str x) (y:=.b3 (L.map D.str)) O O ((yC γ x L).t (by rw[<-o];rfl))));rw[aA];unfold fh;rw[show gN 4 (oS (Z x)) [w,.E S,q,.E (.b3 (L.map D.str)),s,s5]=Z b from O];rw[VL];cases l:p x with
  |true=>rw[l]at i;obtain⟨f,e⟩:=KW (w:=w) (q:=q) (s5:=s5) (S:=S) (L:=L) (p:=p) d (.E (.str x)) λy r=>h y (aQ _ r);refine⟨f,?_⟩;have j:uB b=Z (.nx b):=(uN i).t O;simp only[j];exact e
  |false=>rw[l]at i;refine⟨.E (.str x),?_⟩;have j:uB b=Z (.rt (Cv "unseen" x S) b):=(uE i).t O;simp only[j];rfl
def aB:FS:=(fc (cT (tY Fd kh)) (ue (tY zl kh)) uk)
theorem Me{w S q:L4.D}{s3 s4:Sl}:∀(rs:List L4.D) (s:Sl),(∀r∈rs,(∃b,Fd [w,S,q,r]=Z (.O b))/\∃o,Gd T M P S o/\zl [w,S,q,r]=Z o)->(∃o ρ',Gd T M P S o/\fh (gN 5) aB rs [.E w,.E S,.E q,s3,s4,s]=Z (.rt o ρ'))\/∃p,fh (gN 5) aB rs [.E w,.E S,.E q,s3,s4,s]=Z (.nx [.E w,.E S,.E q,s3,s4,p])
 |[],s,_=>.inr ⟨s,O⟩
 |r::rs,s,h=>by
  obtain⟨⟨b,f⟩,o,j,i⟩:=h r aN;unfold fh;rw[show gN 5 r [.E w,.E S,.E q,s3,s4,s]=Z [.E w,.E S,.E q,s3,s4,.E r] from O];have e:=u4 (tW (a:=ax aa j1) (ρ:=[.E w,.E S,.E q,s3,s4,.E r]) (tV O (tV O (tV O (tV O O)))) f);cases b with
  |true=>have d:aB [.E w,.E S,.E q,s3,s4,.E r]=Z (.rt o [.E w,.E S,.E q,s3,s4,.E r]):=(uE e).t (uf (tW (tV O (tV O (tV O (tV O O)))) i));simp only[d];exact .inl ⟨o,_,j,O⟩
  |false=>have d:aB [.E w,.E S,.E q,s3,s4,.E r]=Z (.nx [.E w,.E S,.E q,s3,s4,.E r]):=(uN e).t O;simp only[d];exact Me rs (.E r) λu l=>h u (aQ _ l)
theorem GH(p:Str->Bool):∀b:List (Option Str),(b.filter λo=>match o with|none=>δ|some x=>p x).map oS=((nmP b).filter p).map D.str
 |[]=>rfl
 |none::b=>GH p b
 |some x::b=>by
  show _=((x::nmP b).filter p).map D.str;rw[fW,fW];show eA oS (if p x=γ then _ else _)=eA _ (if p x=γ then _ else _);by_cases d:p x=γ
  .rw[aj d,aj d,aA,aA,GH p b];rfl
  .rw[ai d,ai d];exact GH p b
def Ta(s:I? T M dk W P a)(mr:Mr T M m){q:L4.D}{n:Str}{d:List (Option Str)}{p:Str->Bool}{rs:List L4.D}(hO:d.length<=2)(hq:∃F G,q=.c3 [.str n,F,G])(X:xu [wO T M dk W V R c,q]=Z .I)(H:vw [wO T M dk W V R c,q]=Z (.c3 (d.map oS)))(Y:∀x∈nmP d,wC [wO T M dk W V R c,sD P (va a m),.str x]=Z (.O (p x)))
  (I:vX [wO T M dk W V R c,.str n]=Z (.b3 rs)) (h5:∀r∈rs,(∃b,Fd [wO T M dk W V R c,sD P (va a m),q,r]=Z (.O b))/\∃o,Gd T M P (sD P (va a m)) o/\zl [wO T M dk W V R c,sD P (va a m),q,r]=Z o):∃o,Gd T M P (sD P (va a m)) o/\Fe [wO T M dk W V R c,sD P (va a m),q]=Z (match fU d p with|some x=>Cv "unseen" x (sD P (va a m))|none=>o):=by
 let w:=wO T M dk W V R c;let S:=sD P (va a m);let L:=(nmP d).filter p;let l:L4.D:=.b3 (L.map D.str);let f:aP:=[.E w,.E S,.E q,.un];let B:aP:=[.E w,.E S,.E q,.E l];have U:uD 3 (cL (ui 1 [0,1] (iT (tY vw cQ)) (gN 0) (cT (tY wC j8)) aa)) f=Z (.nx B):=by
  refine(uq (vm ((xF oS oS (λo=>match o with|none=>δ|some x=>p x) d (ρ1:=f) (S9 (tW (tV O (tV O O)) H)) (by omega) λx A=>⟨[.E (oS x),.E w,.E S],[.E (oS x),.E w,.E S],O,u4 (tW (tV O (tV O (tV O O))) ?_),λ_=>⟨_,O,O⟩,λ_=>O⟩).t (by rw[GH])))).t O;cases x with
  |none=>exact Ko S
  |some x=>exact Y x (iz.2 ⟨_,A,O⟩)
 have hans:∃o,Gd T M P S o/\DO [w,S,q,l]=Z (match fU d p with|some x=>Cv "unseen" x S|none=>o):=by
  let Q:aP:=[.E w,.E S,.E q,.E l,.un,.un];obtain⟨s',e⟩:=KW (w:=.E w) (q:=.E q) (s5:=.un) (S:=S) (L:=L) (p:=p) d .un λx A=>by rw[cX,bQ,bc];exact⟨λz=>z.2,λz=>⟨A,z⟩⟩
  have h:xx (iT (tY vw cQ)) (gN 4) uB Q=_:=(vz (ρ1:=Q) (S9 (tW (tV O (tV O O)) H))).t e;have j:Gd T M P S (Cv "refused" "Nothing comes of it." S):=⟨_,_,a,m,O,.inl ⟨O,O⟩,s.i,mr⟩;cases N:fU d p with
  |some x=>rw[N]at h;exact⟨_,j,uc O (uu h)⟩
  |none=>
   rw[N]at h;obtain⟨F,G,rfl⟩:=hq;rcases Me (T:=T) (M:=M) (P:=P) (s3:=.E l) (s4:=s') rs .un h5 with ⟨o,C,u,t⟩|⟨s2,t⟩
   .exact⟨o,u,uc O ((tZ h).t (uu ((vz (Dm (uA (m:="rules_to_try") (ns:=qi) (xs:=wA T M dk W V R c) (ys:=[.str n]) O O O O I))).t t)))⟩
   .exact⟨_,j,uc O ((tZ h).t ((tZ ((vz (Dm (uA (m:="rules_to_try") (ns:=qi) (xs:=wA T M dk W V R c) (ys:=[.str n]) O O O O I))).t t)).t O))⟩
 obtain⟨o,u,hans⟩:=hans;exact⟨o,u,uc (ρ:=B) O ((tZ (ρ':=f) (ve (tW (tV O (tV O O)) X))).t ((tZ U).t (uf (tW (tV O (tV O (tV O (tV O O)))) hans))))⟩
end
section
variable{T:List Th}{M:List Mk}{dk:aH}{W:List Wy}{V:List Vb}{R:List L4.D}{c:L4.D}{P:List Ky}{a:Str->Str}{m:Str->Int}{v:Vb}{x y:Option Str}
def Wn(g:e4 T M dk W):("self" : Str)∈pw T:=by obtain⟨t,b,e,k⟩:=L8 g;exact av.2 ⟨t,bc.2 ⟨b,by rw[k];rfl⟩,e⟩
def trR(v k:Str)(n:Int)(b d e:Str):List L4.D:=[p? v [noO (kiO "it" k)] [] b γ,p? v [V' "it" n] [] d γ,p? v [] [puO "it" n] e δ]
def Z6:A21=[p? "take" [kiO "it" "fixed"] [] "That stays." γ,p? "take" [atO "it" "self"] [] "You have that." γ,p? "take" [] [Rn "it" "self"] "Taken." δ,p? "drop" [hsO "it"] [Rn "it" "here"] "Dropped." δ,p? "drop" [] [] "You lack that." γ,p? "put" [noO (hsO "it")] [] "You lack that." γ,p? "put" [noO (kiO "other" "box")] [] "It holds nothing." γ,p? "put" [V' "other" 0] [] "It is shut." γ,p? "put" [] [Rn "it" "other"] "Done." δ]++(trR "open" "box" 1 "It has no lid." "It is open." "Opened." ++ trR "shut" "box" 0 "It has no lid." "It is shut." "Shut." ++ (trR "light" "lamp" 1 "It burns not." "It is lit." "Lit." ++ trR "douse" "lamp" 0 "It burns not." "It is out." "Doused.")):=by kernel_rfl
def zO(l:v∈v9){d b:List L4.D}{i:Str}{h:Bool}(j:∀t∈d,Ts T M v.f 2 t)(hd:∀e∈b,Ds T M v.f e):RuS T M V (p? v.n d b i h):=⟨v,bE _ l,d,b,i,h,O,j,hd⟩
def on1{b:Type}{p:b->Prop}{d:b}(h:p d):∀e∈[d],p e:=λe f=>by rw[aW.1 f];exact h
def U?{b:Type}{p:b->Prop}:∀e∈([]:List b),p e:=λe d=>by cases d
def OF{n k f h i:Str}{z:Int}(j:0<=z)(b:(⟨n,[],"one", J⟩:Vb)∈v9):∀r∈trR n k z f h i,RuS T M V r:=λr d=>by
 have e:By "one" "it" := .inl ⟨O,by decide⟩;have mt:Mt T M "one" ("it", 1):=.inr ⟨e,by decide⟩;simp only[trR,aK,b0,or_false]at d;rcases d with rfl|rfl|rfl
 .exact zO b (on1 (.no (.kind (.inr (.inr e))))) U?
 .exact zO b (on1 (.mark (q:=("it", 1)) mt)) U?
 .exact zO b U? (on1 (.put (q:=("it", 1)) mt j))
def Z7(g:e4 T M dk W):∀r∈A21,RuS T M V r:=λr hr=>by
 have d:By "one" "it" := .inl ⟨O,by decide⟩;have j:By "two" "it" := .inl ⟨O,by decide⟩;have f:By "two" "other" := .inr ⟨O,O⟩;have l:=Wn g;have nme:("it" : Str)="self" -> ∀b:Str,∃t∈T,t.n=b/\t.k=.room:=λz=>ao z (by decide);have h:(⟨"take", [],"one", J⟩:Vb)∈v9:=by simp[v9]
 have i:(⟨"drop", [],"one", J⟩:Vb)∈v9:=by simp[v9]
 have e:(⟨"put", [],"two", Z "in"⟩:Vb)∈v9:=by simp[v9]
 rw[Z6]at hr;rcases bb.1 hr with hr|hr
 .simp only[aK,b0,or_false]at hr;rcases hr with rfl|rfl|rfl|rfl|rfl|rfl|rfl|rfl|rfl
  .exact zO h (on1 (.kind (.inr (.inr d)))) U?
  .exact zO h (on1 (.ats (.inr (.inr d)) (.inl l))) U?
  .exact zO h U? (on1 (.X1 (.inr d) (.inl l) λz=>nme z _))
  .exact zO i (on1 (.has (.inr (.inr d)))) (on1 (.X1 (.inr d) (.inr (.inl O)) λz=>nme z _))
  .exact zO i U? U?
  .exact zO e (on1 (.no (.has (.inr (.inr j))))) U?
  .exact zO e (on1 (.no (.kind (.inr (.inr f))))) U?
  .exact zO e (on1 (.mark (q:=("other", 1)) (.inr ⟨f,by decide⟩))) U?
  .exact zO e U? (on1 (.X1 (.inr j) (.inr (.inr f)) λz=>nme z _))
 .rcases bb.1 hr with hr|hr
  .rcases bb.1 hr with hr|hr
   .exact OF (by decide) (by simp[v9]) r hr
   .exact OF (by decide) (by simp[v9]) r hr
  .rcases bb.1 hr with hr|hr
   .exact OF (by decide) (by simp[v9]) r hr
   .exact OF (by decide) (by simp[v9]) r hr
def Tb{r:Str}(h:r∈w? T):r∈pw T:=by obtain⟨u,b,e⟩:=av.1 h;rw[bc]at b;exact av.2 ⟨u,bc.2 ⟨b.1,by rw[bF b.2];rfl⟩,e⟩
def abN(g:e4 T M dk W){w:Wy}(b:PL T M w):RuS T M V (goO w):=by
 have l:(⟨"go", [],"way", J⟩:Vb)∈v9:=by simp[v9]
 obtain⟨t,i,e,k⟩:=L8 g;have o:("self" : Str)∈T.map Th.n:=av.2 ⟨t,i,e⟩;refine zO l (λd hd=>?_) (on1 (.X1 (.inl ⟨t,i,e,by rw[k];exact λz=>by cases z⟩) (.inl (Tb b.hg)) λ_=>?_))
 .unfold wtL at hd;rcases bb.1 hd with hd|hd
  .rw[aK,aW]at hd;rcases hd with rfl|rfl
   .exact .ats (.inl o) (.inl (Tb b.hr))
   .exact .word O
  .cases f:w.m with
   |none=>rw[f]at hd;cases hd
   |some k=>rw[f]at hd;rw[aW.1 hd];have:=b.hm k f;rw[<-Ng]at this;obtain⟨q,j,rfl⟩:=av.1 this;exact .no (.mark (.inl j))
 .obtain⟨u,h,e⟩:=av.1 b.hg;rw[bc]at h;exact⟨u,h.1,e,bF h.2⟩
def abO(g:e4 T M dk W):∀r∈SH W,RuS T M V r:=λr hr=>by
 have b:(⟨"go", [],"way", J⟩:Vb)∈v9:=by simp[v9]
 have e:(⟨"wait", [],"alone", J⟩:Vb)∈v9:=by simp[v9]
 unfold SH at hr;rcases bb.1 hr with hr|hr
 .rcases bb.1 hr with hr|hr
  .exact Z7 g r hr
  .rcases bb.1 hr with hr|hr
   .obtain⟨w,d,rfl⟩:=av.1 hr;exact abN g (g.wo w d)
   .rw[aW.1 hr];exact zO b U? U?
 .rw[aW.1 hr];exact zO e U? U?
def vb_f{L:List Vb}(d:(L.flatMap Vb.ws).Nodup){u v:Vb}(i:u∈L)(j:v∈L)(e:u.n=v.n):u.f=v.f:=by have b:=KJ d i;have h:=KJ d j;rw[e,h]at b;injection b with b;injection b with _ _ b;injection b with _ b;injection b with _ b;injection b with b _;injection b with b;exact b.symm
def Z8{f:List dt}{dss:List (List L4.D)}(h:∀j,gl f dss j=(R++SH W).filter λd=>decide (kv d=j))(n:Str):vX [wO T M dk W V R (.Q f (dss.map .b3)),.str n]=Z (.b3 ((R++SH W).filter λd=>decide (kv d=kS n))):=by let b:aP:=[.E (wO T M dk W V R (.Q f (dss.map .b3))),.E (.str n)];refine BY (ρ:=b) O (xn ?_);have e:Jp (c1 (ud xY "rules_by_verb") aa) ah (cL (uM uI)) b=Z ((vI f (dss.map .b3) (kS n)).getD (.b3 []),b):=rfl;rw[Ou,h]at e;show zt _ b=_;unfold zt;rw[e];rfl
def Try(T:List Th)(M:List Mk)(dk:aH)(W:List Wy)(V:List Vb)(R:List L4.D)(c:L4.D):Prop:=∀n:Str,vX [wO T M dk W V R c,.str n]=Z (.b3 ((R++SH W).filter λd=>decide (kv d=kS n)))
def Nl(g:e4 T M dk W){x:Str}(h:x∈p8 T):xO [wO T M dk W V R c,.str x]=Z (.O γ):=by
 obtain⟨t,e,rfl⟩:=av.1 h;rw[bc]at e;let w:=wO T M dk W V R c;let b:aP:=[.E w,.E (.str t.n),.E (d? t)];have f:uD 2 (xr (cT (c1 (u7 (vG "str")) ah)) (uo uz "thing_of" aa bu) aG) [.E w,.E (.str t.n),.un]=Z (.nx b):=by refine(uq (d:=d? t) (ρ':=[.E w,.E (.str t.n),.un]) ?_).t O;show uo uz "thing_of" aa bu [.E w,.E (.str t.n),.un]=_;exact uA (m:="thing_of") (ns:=qi) (xs:=wA T M dk W V R c) (ys:=[.str t.n]) O O O O (zN g.Dv e.1)
 exact uc (ρ:=b) O ((tZ f).t (uf ((uv (ρ1:=b) O).t (uA (m:="is_plainly") (ns:=["name", "words", "kind", "start"]) (xs:=[.str t.n,.c3 (t.w.map D.str),.str t.k.s,oS t.s]) (ys:=[]) O O O O ((EG t).t (by rw[e.2]))))))
def VM(g:e4 T M dk W)(j:Cm T W v x y):Cq [wO T M dk W V R c,.str v.f,oS x,oS y]=Z (.O γ):=by
 rcases j with ⟨e,n,h,rfl,rfl⟩|⟨e,n,h,k,l,rfl,rfl⟩|⟨e,rfl,rfl⟩|⟨e,d,hd,rfl,rfl⟩
 .rw[e];let b:aP:=[.E (wO T M dk W V R c),.E (.str "one"),.E (.str n),.E .I];exact uc (ρ:=b) O ((vy O).t ((vy O).t ((vy O).t (uf (by show tY xO cQ b=_;exact tW (tV O (tV O O)) (Nl g h))))))
 .rw[e];let b:aP:=[.E (wO T M dk W V R c),.E (.str "two"),.E (.str n),.E (.str k)];exact uc (ρ:=b) O (uu ((uE O).t (uf ((uv (ρ1:=b) (tW (tV O (tV O O)) (Nl g h))).t (tW (tV O (tV O O)) (Nl g l))))))
 .rw[e];let b:aP:=[.E (wO T M dk W V R c),.E (.str "alone"),.E .I,.E .I];exact uc (ρ:=b) O ((vy O).t ((vy O).t ((vy O).t (uf O))))
 .rw[e];let b:aP:=[.E (wO T M dk W V R c),.E (.str "way"),.E (.str d),.E .I];refine uc (ρ:=b) O ((vy O).t ((vy O).t (uu ((uE O).t (uf ((uv (ρ1:=b) O).t (ua (x:=.str d) (y:=.b3 ((Xi W).map D.str)) O (uA (m:="way_words") (ns:=qi) (xs:=wA T M dk W V R c) (ys:=[]) O O O O (LZ g.w8 λw o=>(g.wo w o).hw)) ((yC δ _ _).t ?_))))))));show Z (D.O (decide (d∈Xi W)))=_;rw[bf hd]
def Z9(g:e4 T M dk W)(p:((V++v9).flatMap Vb.ws).Nodup)(o:v∈V++v9)(l:Cm T W v x y):xu [wO T M dk W V R c,q3 v.n x y]=Z .I:=by
 let w:=wO T M dk W V R c;let q:=q3 v.n x y;have j:Bn [w,q]=Z (.O γ):=by let e:aP:=[.E w,.E q,.un];let d:aP:=[.E w,.E q,.E (m3 v)];have i:uD 2 (uo vd "verb_of" aa ib) e=Z (.nx d):=(uq (uA (m:="verb_of") (ns:=qi) (xs:=wA T M dk W V R c) (ys:=[.str v.n]) O O O O (OD p o))).t O;refine uc (ρ:=d) O ((vy O).t ((tZ i).t (uf ((uv (ρ1:=d) O).t ((uv (ρ1:=d) (ua (x:=.str v.n) (y:=.str v.n) O O (by rw[wg];simp))).t (tW (ds:=[w,.str v.f,oS x,oS y]) (tV O (tV O (tV O (tV O O)))) (VM g l)))))))
 exact Ae (ρ:=[.E w,.E q]) O ((uN (xp (b:=γ) (u4 (tW (tV O (tV O O)) j)))).t O)
def abP(h:Cm T W v x y):∀z∈nmP (thO v x y),z∈p8 T:=λz b=>by
 unfold thO at b;rcases h with ⟨e,n,f,rfl,rfl⟩|⟨e,n,f,k,i,rfl,rfl⟩|⟨e,rfl,rfl⟩|⟨e,d,hd,rfl,rfl⟩
 .rw[e,ai (by decide),show nmP [Z n,J]=[n] from O,aW]at b;rw[b];exact f
 .rw[e,ai (by decide),show nmP [Z n,Z k]=[n,k] from O,aK,aW]at b;rcases b with rfl|rfl
  .exact f
  .exact i
 .rw[e,ai (by decide)]at b;cases b
 .rw[e,aj O]at b;cases b
def Tc(s:I? T M dk W P a)(w:Mr T M m)(d:((V++v9).flatMap Vb.ws).Nodup)(E:Try T M dk W V R c)(hR:∀r∈R,RuS T M V r)(b:v∈V++v9)(f:Cm T W v x y){p:Str->Bool}(A:∀z∈p8 T,wC [wO T M dk W V R c,sD P (va a m),.str z]=Z (.O (p z))):
  ∃o,Gd T M P (sD P (va a m)) o/\Fe [wO T M dk W V R c,sD P (va a m),q3 v.n x y]=Z (match fU (thO v x y) p with|some z=>Cv "unseen" z (sD P (va a m))|none=>o):=by
 refine Ta s w (by unfold thO;split<;>exact aO 2) ⟨_,_,O⟩ (Z9 s.g d b f) (JV d b x y) (λz G=>A z (abP f z G)) (E v.n) λr B=>?_;obtain⟨i,j⟩:=bc.1 B;have C:RuS T M V r:=by
  rcases bb.1 i with h|h
  .exact hR r h
  .exact abO s.g r h
 obtain⟨u,F,N,H,Q,I,rfl,l,q⟩:=C;have e:u.n=v.n:=Nc (bF j);rw[vb_f d F b e]at l q;exact⟨S8 _ _ _ _ _ λt h=>PY s d b f (l t h) 3 (by decide),VJ s w d b f _ _ _ _ _ q⟩
def abQ{q:L4.D}(l:∀v∈V++v9,v.f∈vr)(p:q∈cmA (p8 T) (Xi W) ((V++v9).map nf)):∃v∈V++v9,∃x y,q=q3 v.n x y/\Cm T W v x y:=by
 obtain⟨n,o,p⟩:=eM.1 p;obtain⟨v,r,rfl⟩:=av.1 o;obtain⟨z,b,rfl⟩:=av.1 p;refine⟨v,r,?_⟩;have l:=l v r;unfold obF at b;show ∃x y,p3 v.n z=q3 v.n x y/\Cm T W v x y;by_cases e:v.f="alone"
 .rw[aj (show (nf v).2="alone" from e)]at b;rw[aW.1 b];exact⟨J,J,O,.inr (.inr (.inl ⟨e,O,O⟩))⟩
 .rw[ai (show ¬(nf v).2="alone" from e)]at b;by_cases i:v.f="way"
  .rw[aj (show (nf v).2="way" from i)]at b;obtain⟨d,hd,rfl⟩:=av.1 b;exact⟨Z d,J,O,.inr (.inr (.inr ⟨i,d,hd,O,O⟩))⟩
  .rw[ai (show ¬(nf v).2="way" from i)]at b;by_cases j:v.f="one"
   .rw[aj (show (nf v).2="one" from j)]at b;obtain⟨d,hd,rfl⟩:=av.1 b;exact⟨Z d,J,O,.inl ⟨j,d,hd,O,O⟩⟩
   .rw[ai (show ¬(nf v).2="one" from j)]at b;obtain⟨n,o,b⟩:=eM.1 b;obtain⟨k,u,rfl⟩:=av.1 b;have t:v.f="two" := by
     simp only[vr,aK,b0,or_false]at l;rcases l with h|h|h|h
     .exact ao h j
     .exact h
     .exact ao h e
     .exact ao h i
    exact⟨Z n,Z k,O,.inr (.inl ⟨t,n,o,k,u,O,O⟩)⟩
end
def Dr(xs:List Int)(n:Nat):Prop:=xs.length=n/\∀x∈xs,0<=x/\x<720
theorem IA{o:Type}{g:FG}{f:FS}(st:List L4.D->o->aP):∀(l:List L4.D),(∀d∈l,∀acc b,acc.length<100->∃ρ1 x e,g d (st acc b)=Z ρ1/\f ρ1=Z (.nx (st (acc++[.int x]) e))/\0<=x/\x<720)->
  ∀(c:List Int) (n:Nat) (b:o),Dr c n->n+l.length<=100->∃a e,fh g f l (st (c.map D.int) b)=Z (.nx (st (a.map D.int) e))/\Dr a (n+l.length)
 |[],_,c,n,b,h,_=>⟨c,b,O,h⟩
 |d::l,m,c,n,b,h,w=>by
  rw[aS]at w;obtain⟨ρ1,x,e,q,r,t⟩:=m d aN (c.map D.int) b (by rw[aq,h.1];omega);obtain⟨a,p,j,u⟩:=IA st l (λd hd=>m d (aQ _ hd)) (c++[x]) (n+1) e ⟨by rw[aR,h.1];rfl,λy i=>by
   rcases bb.1 i with i|i
   .exact h.2 y i
   .rw[aW.1 i];exact t⟩ (by omega)
  refine⟨a,p,?_,by rw[aS,show n+(l.length+1)=n+1+l.length by omega];exact u⟩;unfold fh;rw[q];simp only[r];rw[bK]at j;exact j
def md{a b:Int}(h:0<b):0<=a % b/\a % b<b:=⟨Int.emod_nonneg _ (by omega),Int.emod_lt_of_pos _ h⟩
def Td{e:FE}{ρ ρ1:aP}{n:Nat}(h:e ρ=Z (.int (n:Nat),ρ1))(a:n<=900):xm e ρ=Z (CQ 0 n,ρ1):=by unfold xm;rw[h];simp only;rw[aj (by omega),fR]
def Te(c:Int)(n:Nat)(M:n<=100):∃o,Bp [.int c,.int n]=Z (o.map D.int)/\Dr o n:=by
 have r:(CQ 0 n).length=n:=by unfold CQ;simp
 have B:∀w:List L4.D,xm ah [.E (.int c),.E (.int n),.ls w,.un,.un]=Z (CQ 0 n,[.E (.int c),.E (.int n),.ls w,.un,.un]):=λw=>Td O (by omega);have A:∀{e:FE} {ρ:aP} {acc:List L4.D} {d:L4.D},acc.length<100->e ρ=Z (d,ρ)->xS ρ 2=Z acc->uH (yc 2 e) ρ=Z (.nx (putAt ρ 2 (acc++[d]))):=λt l F=>ve (A6 F l F (by omega));have q:cT (c2 UQ aa (c2 NP jY (cC (.int 18)))) [.E (.int c),.E (.int n),.ls [],.un,.un]=Z (decide ((10:Int) ^ (18:Int).toNat<=c),[.E (.int c),.E (.int n),.ls [],.un,.un]):=rfl;by_cases G:(10:Int) ^ (18:Int).toNat<=c
 .rw[bf G]at q;obtain⟨o,b,t,l⟩:=IA (g:=gN 3) (f:=(bt (uH (yc 2 (c2 uJ aa hX))) (uD 0 (c2 vp aa hX)))) (λacc (b:Int×Sl)=>[.E (.int b.1),.E (.int n),.ls acc,b.2,.un]) (CQ 0 n)
   (λd _ acc b u=>⟨[.E (.int b.1),.E (.int n),.ls acc,.E d,.un],b.1 % 720,(b.1 / 720,.E d),O,(tZ (A u (ua (x:=.int b.1) O O (uV (by decide))) O)).t ((uq (ua (x:=.int b.1) (y:=.int 720) O O (f? (by decide) (by decide)))).t O),md (by decide)⟩) [] 0 (c,.un) ⟨O,λ_ h=>by cases h⟩ (by rw[r];omega)
  rw[r,jK]at l;refine⟨o,yR (ρ:=[.E (.int b.1),.E (.int n),.un,b.2,.un]) O ?_,l⟩;unfold ze;exact(tZ (ρ':=[.E (.int c),.E (.int n),.ls [],.un,.un]) O).t (CN ((uE q).t ((tZ ((vz (B [])).t t)).t O)))
 .rw[bj G]at q;have I:A3 7919=γ:=by decide
  have H:A3 48271=γ:=by decide
  obtain⟨o,b,t,l⟩:=IA (g:=gN 3) (f:=(bt (uD 4 (c2 uJ (c2 yA (c2 vL (c2 vL aa (c2 yA (cC (.int 7919)) aw)) aU) (cC (.int 48271))) jV))
   (bt (uD 4 (c2 uJ (c2 yA az (c2 vL (c2 vp az (cC (.int 1009))) (cC (.int 69621)))) jV))
   (uH (yc 2 (c2 uJ (c2 uJ (c2 yA az (c2 vL (c2 vp az (cC (.int 2003))) (cC (.int 40692)))) (cC (.int 2147483399))) hX)))))) (λacc (b:Sl×Sl)=>[.E (.int c),.E (.int n),.ls acc,b.1,b.2]) (CQ 0 n)
   (λd hd acc b u=>by
    obtain⟨k,rfl⟩:∃k:Int,d=.int k:=by unfold CQ at hd;obtain⟨i,_,e⟩:=av.1 hd;exact⟨_,e.symm⟩
    let p:Sl->aP:=λs=>[.E (.int c),.E (.int n),.ls acc,.E (.int k),s];let a1:Int:=(c+7919 * k+1) * 48271 % 2147483647;let j:Int:=a1 * (a1 / 1009+69621) % 2147483647;have C:=md (a:=(c+7919 * k+1) * 48271) (b:=2147483647) (by decide);have E:=md (a:=a1 * (a1 / 1009+69621)) (b:=2147483647) (by decide);refine⟨p b.2,j * (j / 2003+40692) % 2147483399 % 720,(.E (.int k),.E (.int j)),O,?_,md (by decide)⟩;refine(tZ (ρ':=p (.E (.int a1))) ((uq (ua (ρ1:=p b.2) (ua (ua (ua O (ua O O (AA (.inl I))) O) O O) O (AA (.inr H))) O (uV (by decide)))).t O)).t ?_;refine(tZ (ρ':=p (.E (.int j))) ((uq (ua (ρ1:=p (.E (.int a1))) (ua (x:=.int a1) O (ua (ua (x:=.int a1) O O (f? (by decide) (by decide))) O O) (AA (.inl (LA C.1 C.2)))) O (uV (by decide)))).t O)).t ?_;exact A u (ρ:=p (.E (.int j))) (ua (ua (ua (x:=.int j) O (ua (ua (x:=.int j) O O (f? (by decide) (by decide))) O O) (AA (.inl (LA E.1 E.2)))) O (uV (by decide))) O (uV (by decide))) O) [] 0 (.un,.un) ⟨O,λ_ h=>by cases h⟩ (by rw[r];omega)
  rw[r,jK]at l;refine⟨o,yR (ρ:=[.E (.int c),.E (.int n),.un,b.1,b.2]) O ?_,l⟩;unfold ze;exact(tZ (ρ':=[.E (.int c),.E (.int n),.ls [],.un,.un]) O).t ((tZ ((uN q).t O)).t ((tZ ((vz (B [])).t t)).t O))
def Wo{xs:List Int}{n:Nat}(h:Dr xs n){k:Nat}(b:k<n):∃x:Int,eh (.b3 (xs.map D.int)) (.int k)=Z (.int x)/\0<=x/\x<720:=by
 have a:k<xs.length:=by rw[h.1];exact b
 exact⟨xs[k],AX (by rw[bD,aY a];rfl),h.2 _ (fz a)⟩
def Cw{e:Type}(c:e->L4.D){L:List e}(f:L≠[])(x:Int):∃a∈L,eh (.b3 (L.map c)) (.int (x % ((L.length:Nat):Int)))=Z (c a):=by
 have m:0<L.length:=jo.2 f;obtain⟨i,l⟩:=md (a:=x) (b:=((L.length:Nat):Int)) (by omega);obtain⟨j,h⟩:=jd i;rw[h]at l ⊢;have d:j<L.length:=by omega
 exact⟨L[j],fz d,AX (by rw[bD,aY d];rfl)⟩
def Mg{a:Type}(b:a->L4.D)(L:List a):xf (.b3 (L.map b))=Z (.int L.length):=by show Z (D.int _)=_;rw[aq]
def plD(q:Str×aH):L4.D:=.c3 [.str q.1,.c3 (q.2.map D.str)]
def IZ(i:Nat):Str×aH:=sx.getD i ("pin", ["red", "key"])
def kL:List Kd:=[.plain,.box,.lamp,.fixed,.plain,.box]
def iL5:List Int:=[1,2,3,8,9]
def tBz:FS:=(bt (uD 6 (c2 eh aa (c2 eh (cL (uM qQ)) bB)))
 (bt (uD 7 (c2 eh (cL (uM qC)) (c2 uJ br cm)))
 (bt (uD 8 (MI (c2 eh aw (c2 uJ (c2 vp br cm) (c1 xf aw)))))
 (bt (uH (yc 2 (uF 0 (λa=>wj (a++[])) qJ)))
 (fc (cT (c2 (eo δ) bH eD)) (uH (yc 3 (c2 eh (c2 eh az bB) aE))) uk)))))
def Tf{i:Nat}(h:i<5):IZ i∈sx/\eh (.b3 (sx.map plD)) (.int i)=Z (plD (IZ i)):=by
 have e:sx[i]?=Z (IZ i):=by unfold IZ;rw[cD,aY (show i<sx.length from h)];rfl
 exact⟨cq e,AX (by rw[bD,e];rfl)⟩
def x_at{c:List Int}(h:Dr c 40){i:Nat}(f:i<5):∃x j:Int,eh (.b3 (iL5.map D.int)) (.int i)=Z (.int j)/\eh (.b3 (c.map D.int)) (.int j)=Z (.int x):=by
 have a:i<iL5.length:=f;obtain⟨n,l,e⟩:∃n:Nat,n<40/\iL5[i]=n:=(show ∀z∈iL5,∃n:Nat,n<40/\z=n from λz b=>by
  unfold iL5 at b;simp only[aK,b0,or_false]at b;rcases b with rfl|rfl|rfl|rfl|rfl
  .exact⟨1,by decide,O⟩
  .exact⟨2,by decide,O⟩
  .exact⟨3,by decide,O⟩
  .exact⟨8,by decide,O⟩
  .exact⟨9,by decide,O⟩) _ (fz a)
 obtain⟨x,d,_⟩:=Wo h l;exact⟨x,n,AX (by rw[bD,aY a,e];rfl),d⟩
theorem Gc{xs:List Int}(hx:Dr xs 40)(a:Sl):∀(l:List Nat) (P:List Th) (b:aH) (H B w m:Sl),(∀k∈l,k<5)->b≠[]->(∀x∈b,∃u∈P,u.n=x/\u.k.hd=γ)->Ord P->P.length+l.length<=900->b.length+l.length<=900->
  ∃(F:List Th) (C:aH) (W t6 t7 t8:Sl),Ord (P++F)/\F.map Th.nw=l.map IZ/\(∀t∈F,t.k.pl=γ)/\
   fh (gN 5) tBz (l.map λk:Nat=>D.int (k:Nat)) [.E (.b3 (xs.map D.int)),a,.ls (P.map d?),.ls (b.map D.str),.E (.b3 (sx.map plD)),H,B,w,m]=Z (.nx [.E (.b3 (xs.map D.int)),a,.ls ((P++F).map d?),.ls (C.map D.str),.E (.b3 (sx.map plD)),W,t6,t7,t8])
 |[],P,b,H,B,w,m,_,_,_,U,_,_=>⟨[],b,H,B,w,m,by rw[bR];exact U,O,λr hr=>(b0 hr).elim,by rw[bR];rfl⟩
 |k::l,P,b,H,B,w,m,hk,R,hH,U,hl,T=>by
  rw[aS]at hl T;have hi:=hk k aN;let G:Sl:=.E (.b3 (xs.map D.int));let Q:Sl:=.E (.b3 (sx.map plD));let K:Sl:=.E (.int (k:Nat));obtain⟨pm,ea⟩:=Tf hi;obtain⟨x,j,ej,ex⟩:=x_at hx hi;let q:=IZ k;obtain⟨i,hkd,ek⟩:=Cw (λk:Kd=>D.str k.s) (L:=kL) (by decide) x;have hpl:i.pl=γ:=(show ∀k∈kL,Kd.pl k=γ by decide) _ hkd;obtain⟨p,hp,ep⟩:=Cw D.str R (x / 6);let X:Sl:=.E (.int x);let Y:Sl:=.E (.str i.s);let AT:Sl:=.E (.str p);let t:Th:=⟨q.1,q.2,i,Z p⟩;obtain⟨u,hu,hun,huk⟩:=hH p hp;have ok:KF P t:=.inr (.inr ⟨hpl,u,hu,by rw[hun],huk⟩);let e:Sl->Sl->Sl->aP:=λa1 a2 a3=>[G,a,.ls (P.map d?),.ls (b.map D.str),Q,K,a1,a2,a3];have M:∀{e:aP} {j:Nat} {d:L4.D},cV 4 e=Z (.b3 (sx.map plD),e)->cV 5 e=Z (.int (k:Nat),e)->eh (plD q) (.int j)=Z d->c2 eh (c2 eh az bB) (cC (.int j)) e=Z (d,e):=λh4 h5 h=>ua (ua h4 h5 ea) O h;let c:aH:=if i=.box then b++[q.1]else b
  have xb:tBz (e B w m)=Z (.nx [G,a,.ls ((P++[t]).map d?),.ls (c.map D.str),Q,K,X,Y,AT]):=by
   unfold tBz;refine(tZ (ρ':=e X w m) ((uq (ua (x:=.b3 (xs.map D.int)) (ρ1:=e B w m) O (ua (x:=.b3 (iL5.map D.int)) O O ej) ex)).t O)).t ?_;refine(tZ (ρ':=e X Y m) ((uq (ua (x:=.b3 (kL.map λk=>D.str k.s)) (ρ1:=e X w m) O (ua (x:=.int x) O O (uV (by decide))) ek)).t O)).t ?_;refine(tZ (ρ':=e X Y AT) ((uq (XW (ρ1:=(e X Y m).map Sl.bor) (ua (x:=.b3 (b.map D.str)) O (ua (ua (x:=.int x) O O (f? (by decide) (by decide))) (uQ (x:=.b3 (b.map D.str)) O (Mg D.str b)) (uV (by have:=jo.2 R;omega))) ep) O)).t O)).t ?_;let A:aP:=[G,a,.ls ((P++[t]).map d?),.ls (b.map D.str),Q,K,X,Y,AT];refine(tZ (ρ':=A) ((ve (A6 (es0:=P.map d?) (es:=P.map d?) (ρ1:=e X Y AT) (d:=d? t) O (vO (ds:=[.str q.1,.c3 (q.2.map D.str),.str i.s,.str p]) (tV (M (j:=0) O O O) (tV (M (j:=1) O O O) (tV O (tV O O)))) O) O (by rw[aq];omega))).t ?_)).t ?_
   .show Z (rh.nx [G,a,.ls (P.map d?++[d? t]),.ls (b.map D.str),Q,K,X,Y,AT])=_;rw[show P.map d?++[d? t]=(P++[t]).map d? by rw[bK];rfl]
   .have I:cT (c2 (eo δ) bH eD) A=Z (decide (i=.box),A):=u4 (ua O O (Ga i .box));by_cases f:i=.box
    .rw[bf f]at I;refine(uE I).t ((ve (A6 (es0:=b.map D.str) (es:=b.map D.str) (ρ1:=A) (d:=.str q.1) O (M (j:=0) O O O) O (by rw[aq];omega))).t ?_);show Z (rh.nx [G,a,.ls ((P++[t]).map d?),.ls (b.map D.str++[.str q.1]),Q,K,X,Y,AT])=_;rw[show c.map D.str=b.map D.str++[.str q.1] by rw[show c=b++[q.1] from aj f,bK];rfl]
    .rw[bj f]at I;refine(uN I).t ?_;rw[show c=b from ai f];rfl
  have hH1:∀y∈c,∃u∈P++[t],u.n=y/\u.k.hd=γ:=λy o=>by
   have old:y∈b->∃u∈P++[t],u.n=y/\u.k.hd=γ:=λo=>by obtain⟨v,hv,h⟩:=hH y o;exact⟨v,bL _ hv,h⟩
   by_cases f:i=.box
   .rw[show c=b++[q.1] from aj f]at o;rcases bb.1 o with o|o
    .exact old o
    .rw[aW]at o;refine⟨t,by simp,o.symm,?_⟩;show i.hd=γ;rw[f];rfl
   .rw[show c=b from ai f]at o;exact old o
  have S:c≠[]:=by
   by_cases f:i=.box
   .rw[show c=b++[q.1] from aj f];simp
   .rw[show c=b from ai f];exact R
  have hl1:c.length<=b.length+1:=by
   by_cases f:i=.box
   .rw[show c=b++[q.1] from aj f];simp
   .rw[show c=b from ai f];omega
  obtain⟨F,C,W,t6,t7,t8,g2,g3,g4,g5⟩:=Gc hx a l (P++[t]) c K X Y AT (λk h=>hk k (aQ _ h)) S hH1 (U.snoc ok) (by rw[aR,cR];omega) (by omega);refine⟨t::F,C,W,t6,t7,t8,by rw[cc]at g2;exact g2,by rw[aA,aA,g3];rfl,λr hr=>?_,?_⟩
  .rcases aK.1 hr with rfl|hr
   .exact hpl
   .exact g4 r hr
  .rw[aA];unfold fh;rw[show gN 5 (.int (k:Nat)) [G,a,.ls (P.map d?),.ls (b.map D.str),Q,H,B,w,m]=Z (e B w m) from O];simp only[xb];rw[g5,cc];rfl
def ε(x:Str):Th:=⟨x,["big", "room"],.room,J⟩
structure Drawn(T:List Th):Prop where
 i2:Ord T
 ex:∃(r n:Nat) (y:Str) (P:List Th),1<=r/\r<=3/\n<6/\T=(vu.take r).map ε++⟨"self", ["self"],.you,Z y⟩::P/\P.map Th.nw=(bz n).map IZ/\∀t∈P,t.k.pl=γ
theorem JY:∀(l:aH) (B:List Th),Ord B->Ord (B++l.map ε)
 |[],B,h=>by rw[dH,bR];exact h
 |x::l,B,h=>by rw[aA,List.append_cons];exact JY l _ (h.snoc (.inl ⟨O,O⟩))
def Tg{e:FE}{lo c:FO}{ρ ρ1 a b:aP}{ds:List L4.D}{l u:Option Int}(d:e ρ=Z (.b3 ds,ρ1))(f:lo ρ1=Z (l,a))(h:c a=Z (u,b)):Kn e lo c ρ=Z (oz ds l u,b):=by unfold Kn;rw[d];simp only[f,h]
def Nn{e:FE}{ρ ρ1:aP}{i:Int}(h:e ρ=Z (.int i,ρ1)):oAt e ρ=Z (Z i,ρ1):=by unfold oAt;rw[h]
def Np(a:Sl):∀{r:Nat},r<3->ui 1 [1] (xm (c1 xf ah)) (gN 0) u6 (uF 0 (λds=>wj (ds++[D.I])) qN) [a,.E (.b3 ((vu.take (1+r)).map D.str)),.un,.un,.un,.un,.un,.un,.un]=Z (((vu.take (1+r)).map ε).map d?,[a,.E (.b3 ((vu.take (1+r)).map D.str)),.un,.un,.un,.un,.un,.un,.un])
 |0,_=>by kernel_rfl
 |1,_=>by kernel_rfl
 |2,_=>by kernel_rfl
 |r+3,h=>by omega
def P2{xs:List Int}(l:Dr xs 40):∃T,Drawn T/\Ar [.b3 (xs.map D.int)]=Z (TD T):=by
 let c:Sl:=.E (.b3 (xs.map D.int));let U:Sl:=.un;obtain⟨x,F,x0,x1⟩:=Wo l (k:=0) (by decide);have cx:∀{ρ:aP},cV 0 ρ=Z (.b3 (xs.map D.int),ρ)->c2 eh aa aE ρ=Z (.int x,ρ):=λh=>ua h O F;obtain⟨r,A,B⟩:∃r:Nat,x % 3=(r:Nat)/\r<3:=by obtain⟨C,W⟩:=md (a:=x) (b:=3) (by decide);obtain⟨r,w⟩:=jd C;exact⟨r,w,by omega⟩
 let R:aH:=vu.take (1+r);have lR:R.length=1+r:=by show (vu.take (1+r)).length=_;rw[cg];show min (1+r) 3=_;omega
 let RS:Sl:=.E (.b3 (R.map D.str));let T0:List Th:=R.map ε;have nR:R≠[]:=λz=>by have:=bp dM z;rw[lR]at this;simp at this
 obtain⟨y,S,M⟩:=Cw D.str nR (x / 2);let j:Th:=⟨"self", ["self"],.you,Z y⟩;let f:List Th:=T0++[j];have X:Ord T0:=by have:=JY R [] .nil;rw[cv]at this;exact this
 have Y:Ord f:=X.snoc (.inr (.inl ⟨O,ε y,bP S,O,O⟩));let e:aH:=R++(["self"]:aH);have hH:∀x∈e,∃u∈f,u.n=x/\u.k.hd=γ:=λx l=>by
  rcases bb.1 l with l|l
  .exact⟨ε x,bL _ (bP l),O,O⟩
  .exact⟨j,bE _ (aW.2 O),(aW.1 l).symm,O⟩
 have lP:f.length=2+r:=by show (R.map ε++[j]).length=_;rw[aR,aq,lR];show 1+r+1=_;omega
 have lH:e.length=2+r:=by show (R++_).length=_;rw[aR,lR];show 1+r+1=_;omega
 obtain⟨n,q,t⟩:∃n:Nat,x / 6 % 6=(n:Nat)/\n<6:=by obtain⟨C,W⟩:=md (a:=x / 6) (b:=6) (by decide);obtain⟨r,w⟩:=jd C;exact⟨r,w,by omega⟩
 obtain⟨p,o,t5,t6,t7,t8,o5,N,P,x5⟩:=Gc l RS (bz n) f e U U U U (λk h=>by have:=cw.1 h;omega) (by show R++(["self"]:aH)≠[];simp) hH Y (by rw[dj];omega) (by rw[dj];omega);let T:List Th:=f++p;refine⟨T,⟨o5,1+r,n,y,p,by omega,by omega,t,by show (R.map ε++[j])++p=_;rw[cc];rfl,N,P⟩,?_⟩;let Q:Sl:=.E (.b3 (sx.map plD));refine BY (ρ:=[c,RS,.un,.ls (o.map D.str),Q,t5,t6,t7,t8]) O ?_;unfold Aq;have G:Kn (cL (uM qE)) oNo (oAt (c2 vL aU (c2 uJ (c2 eh aa aE) bq))) [c,U,U,U,U,U,U,U,U]=Z (R.map D.str,[c,U,U,U,U,U,U,U,U]):=by refine(Tg (ds:=vu.map D.str) (ρ1:=[c,U,U,U,U,U,U,U,U]) O O (Nn (ua (x:=.int 1) O (ua (cx O) O (uV (by decide))) O))).t ?_;rw[A];show Z (oz (vu.map D.str) J (Z (1+((r:Nat):Int))),_)=_;rw[show (1+((r:Nat):Int))=(((1+r:Nat)):Int) by omega,ZC (1+r) (by rw[aq];show 1+r<=3;omega),<- lK]
 refine(tZ (ρ':=[c,RS,U,U,U,U,U,U,U]) ((uq (vm G)).t O)).t ?_;refine(tZ (ρ':=[c,RS,.ls (T0.map d?),U,U,U,U,U,U]) ((NU (Np c B)).t O)).t ?_;refine(tZ (ρ':=[c,RS,.ls (T0.map d?),.ls (e.map D.str),U,U,U,U,U]) ((NU (xU (xs:=R.map D.str) (ys:=[.str "self"]) (ρ1:=[c,RS,.ls (T0.map d?),U,U,U,U,U,U]) O O (by rw[aq,lR];show 1+r+1<=1000;omega))).t ?_)).t ?_
 .show Z (rh.nx [c,RS,.ls (T0.map d?),.ls (R.map D.str++[.str "self"]),U,U,U,U,U])=Z (rh.nx [c,RS,.ls (T0.map d?),.ls ((R++(["self"]:aH)).map D.str),U,U,U,U,U]);rw[bK];rfl
 refine(tZ (ρ':=[c,RS,.ls (f.map d?),.ls (e.map D.str),U,U,U,U,U]) ((ve (A6 (es0:=T0.map d?) (es:=T0.map d?) (d:=d? j) (ρ1:=[c,RS,.ls (T0.map d?),.ls (e.map D.str),U,U,U,U,U]) O (vO (ds:=[.str "self", .c3 [.str "self"],.str "you", .str y]) (tV O (tV O (tV O (tV (ua (x:=.b3 (R.map D.str)) O (ua (ua (cx O) O (f? (by decide) (by decide))) (uQ (x:=.b3 (R.map D.str)) O (Mg D.str R)) (uV (by omega))) M) O)))) O) O (by rw[aq];show (R.map ε).length<1000;rw[aq,lR];omega))).t ?_)).t ?_
 .show Z (rh.nx [c,RS,.ls (T0.map d?++[d? j]),.ls (e.map D.str),U,U,U,U,U])=Z (rh.nx [c,RS,.ls ((T0++[j]).map d?),.ls (e.map D.str),U,U,U,U,U]);rw[show (T0++[j]).map d?=T0.map d?++[d? j] by rw[bK];rfl]
 refine(tZ (ρ':=[c,RS,.ls (f.map d?),.ls (e.map D.str),.E (.b3 ((sx.take 3).map plD)),U,U,U,U]) O).t ?_;refine(tZ (ρ':=[c,RS,.ls (f.map d?),.ls (e.map D.str),Q,U,U,U,U]) O).t ?_;refine(tZ ((vz (ds:=(bz n).map λk:Nat=>D.int (k:Nat)) (ρ1:=[c,RS,.ls (f.map d?),.ls (e.map D.str),Q,U,U,U,U]) ?_).t x5)).t O;have H:c2 uJ (c2 vp (c2 eh aa aE) cm) cm [c,RS,.ls (f.map d?),.ls (e.map D.str),Q,U,U,U,U]=Z (.int (n:Nat),[c,RS,.ls (f.map d?),.ls (e.map D.str),Q,U,U,U,U]):=(ua (ua (cx O) O (f? (by decide) (by decide))) O (uV (by decide))).t (by rw[q]);refine(Td H (by omega)).t ?_;unfold CQ;simp
def VF:List (Str×Str):=[("pray", "alone"),("rub", "one"),("wait", "alone"),("take", "one"),("open", "one"),("peer", "way"),("tie", "two")]
def Tn(f:Str)(N:aH)(x:Str):Prop:=x∈N\/By f x
def isIt(v:Str):Bool:=decide (v∈(["rub", "take", "open", "tie"]:aH))
def abR:∀q∈VF,isIt q.1=γ->By q.2 "it" := λq a h=>by have:=(show ∀q∈VF,isIt q.1=γ->q.2∈(["one", "two"]:aH) by decide) q a h;exact .inl ⟨O,this⟩
def Ti:∀q∈VF,q.1="tie" -> q.2="two" := by decide
def aaa:∀q∈VF,q.1="peer" -> q.2="way" := by decide
def vf_f:∀q∈VF,q.2∈vr:=by decide
def qzI(a b:Int){e:FE}{ρ:aP}(h:e ρ=Z (.int a,ρ)):cT (c2 (eo δ) e (cC (.int b))) ρ=Z (decide (a=b),ρ):=u4 (ua h O (y9 δ a b))
def qzS(a b:Str){e:FE}{ρ:aP}(h:e ρ=Z (.str a,ρ)):cT (c2 (eo δ) e (cS b)) ρ=Z (decide (a=b),ρ):=u4 (ua h O (wg δ a b))
def P3{c d:FT}{ρ:aP}{a b:Bool}(e:c ρ=Z (a,ρ))(f:d ρ=Z (b,ρ)):wF c d ρ=Z (a&&b,ρ):=by
 cases a
 .exact P1 e
 .exact(JX e).t f
def yp{c:FT}{e:FE}{h:FS}{ρ:aP}{b:Bool}{d:L4.D}(q:c ρ=Z (b,ρ))(a:b=γ)(hd:e ρ=Z (d,ρ)):bt (fc c (ue e) uk) h ρ=Z (.rt d ρ):=uu ((uE (a▸q)).t (uf hd))
def y7{c:FT}{e h:FS}{ρ:aP}{b:Bool}(q:c ρ=Z (b,ρ))(a:b=δ):bt (fc c e uk) h ρ=h ρ:=vy (a▸q)
def CO{h:Type}(b:h->L4.D){L:List h}(d:L≠[]){e s:FE}{ρ:aP}{x a:Int}(f:s ρ=Z (.b3 (L.map b),ρ))(l:e ρ=Z (.int x,ρ))(j:0<a)(c:a<1073741824):∃z∈L,c2 eh s (c2 uJ (c2 vp e (cC (.int a))) (c1 xf s)) ρ=Z (b z,ρ):=by obtain⟨z,m,i⟩:=Cw b d (x / a);have:=jo.2 d;exact⟨z,m,ua f (ua (ua l O (f? j c)) (uQ f (Mg b L)) (uV (by omega))) i⟩
def OG{N:aH}(o:N≠[]){q:Str×Str}(l:q∈VF)(x:Int):∃t,yJ [.b3 (N.map D.str),.str q.1,.int x]=Z (.str t)/\Tn q.2 N t:=by
 let b:aP:=[.E (.b3 (N.map D.str)),.E (.str q.1),.E (.int x)];have j:c2 uJ ak bq b=Z (.int (x % 3),b):=ua (x:=.int x) O O (uV (by decide));have f:wF (cT (c2 (pk δ) ah (uO qD))) (cT (c2 (eo δ) (c2 uJ ak bq) aE)) b=Z (isIt q.1&&decide (x % 3=0),b):=
  P3 (u4 (ua (x:=.str q.1) (y:=.c3 ((["rub", "take", "open", "tie"]:aH).map D.str)) O O (AD δ q.1 _))) (qzI _ _ j)
 have i:wF (cT (c2 (eo δ) ah iZ)) (cT (c2 (eo δ) (c2 uJ ak bq) aU)) b=Z (decide (q.1="tie")&&decide (x % 3=1),b):=P3 (qzS q.1 "tie" O) (qzI _ _ j);have fin:∀{t:Str},Ct b=Z (.rt (.str t) b)->yJ [.b3 (N.map D.str),.str q.1,.int x]=Z (.str t):=λh=>uc (ρ:=b) O h;cases c:(isIt q.1&&decide (x % 3=0))with
 |true=>exact⟨"it", fin (yp f c O),.inr (abR q l (by rw[aX]at c;exact c.1))⟩
 |false=>
  cases d:(decide (q.1="tie")&&decide (x % 3=1))with
  |true=>exact⟨"other", fin ((y7 f c).t (yp i d O)),.inr (.inr ⟨O,Ti q l (bF (by rw[aX]at d;exact d.1))⟩)⟩
  |false=>obtain⟨z,p,m⟩:=CO D.str o (s:=cV 0) (e:=cV 2) (ρ:=b) (x:=x) (a:=3) O O (by decide) (by decide);exact⟨z,fin ((y7 f c).t ((y7 i d).t (uf m))),.inl p⟩
section
variable{T:List Th}{M:List Mk}{dk:aH}{W:List Wy}{V:List Vb}{N P K:aH}{q:Str×Str}{x y:Int}
structure Ls(T:List Th)(M:List Mk)(N P K:aH):Prop where
 n0:N≠[]
 n:∀z∈N,∃t∈T,t.n=z/\t.k≠.room
 p0:P≠[]
 pl:P.length<=100
 p:∀z∈P,z∈pw T
 k0:K≠[]
 k:∀z∈K,∃p∈mP T M,p.1=z/\1<=p.2
def Ls.tm(l:Ls T M N P K){f t:Str}(h:Tn f N t):Tm f (T.map Th.n) t:=by
 rcases h with h|h
 .obtain⟨u,a,e,_⟩:=l.n t h;exact .inl (av.2 ⟨u,a,e⟩)
 .exact .inr (.inr h)
def m2(y:Int):0<=y % 2/\y % 2<=1:=by have:=md (a:=y) (b:=2) (by decide);omega
def byD(t:Str):Bool:=decide (t∈(["it", "other"]:aH))
def Wp(g:e4 T M dk W)(l:Ls T M N P K){f t:Str}(h:Tn f N t)(a:byD t=γ):By f t:=by
 rcases h with h|h
 .obtain⟨u,b,rfl,_⟩:=l.n t h;exact ao (bF a) ((show ∀z∈nmL,z∉(["it", "other"]:aH) by decide +kernel) _ (PN g b))
 .exact h
def VN(g:e4 T M dk W)(l:Ls T M N P K)(H:q∈VF)(x y:Int):∃d,Aa [.b3 (N.map D.str),.b3 (P.map D.str),.b3 (K.map D.str),.str q.1,.int x,.int y]=Z d/\Tq T M (gd T M dk W V) q.2 2 d:=by
 have z:=vf_f q H;obtain⟨t,et,ht⟩:=OG l.n0 H y;let j:Sl->Sl->aP:=λa b=>[.E (.b3 (N.map D.str)),.E (.b3 (P.map D.str)),.E (.b3 (K.map D.str)),.E (.str q.1),.E (.int x),.E (.int y),a,b];let c:=j (.E (.int (x % 7))) (.E (.str t));obtain⟨k0,k1⟩:=md (a:=x) (b:=7) (by decide);obtain⟨p,hp,ep⟩:=CO D.str l.p0 (s:=cV 1) (e:=cV 4) (ρ:=c) (x:=x) (a:=7) O O (by decide) (by decide);obtain⟨m,hm,em⟩:=CO D.str l.k0 (s:=cV 2) (e:=cV 4) (ρ:=c) (x:=x) (a:=7) O O (by decide) (by decide);obtain⟨w,hw,ew⟩:=Cw D.str (L:=(["north", "south"]:aH)) (by decide) (x / 7);obtain⟨u,hu,rfl,hu1⟩:=l.k m hm;have y2:=m2 y;have y3:=m2 (y / 3);have ey:c2 uJ bB bT c=Z (.int (y % 2),c):=ua (x:=.int y) O O (uV (by decide));have G:c2 uJ (c2 vp bB bq) bT c=Z (.int (y / 3 % 2),c):=ua (ua (x:=.int y) O O (f? (by decide) (by decide))) O (uV (by decide));have R:wF (cT (c2 (eo δ) aw (cS "peer"))) (cT (c2 IM br bq)) c=Z (decide (q.1="peer")&&decide ((3:Int)<x % 7),c):=P3 (qzS q.1 "peer" O) O;have r:wF (cT (c2 (pk δ) bH (uO ic))) (cT (c2 IM br eC)) c=Z (byD t&&decide ((4:Int)<x % 7),c):=P3 (u4 (ua (x:=.str t) (y:=.c3 ((["it", "other"]:aH).map D.str)) O O (AD δ t _))) O;have i:∀b:Int,cT (c2 (eo δ) br (cC (.int b))) c=Z (decide (x % 7=b),c):=λb=>qzI (x % 7) b O;have mkd:uF 6 (λf=>uZ (f++[])) jZ c=Z (V' u.1 (y % 2),c):=vO (ds:=[.str u.1,.int (y % 2)]) (tV em (tV ey O)) O;have tmk:∀{n},Tq T M (gd T M dk W V) q.2 n (V' u.1 (y % 2)):=⟨Os g z (.inl hu) y2.1 (by omega),.mark (.inl hu)⟩;have hs:uF 4 (λf=>yf (f++[])) (a1 bH) c=Z (hsO t,c):=vO (ds:=[.str t]) O O;have o:=l.tm ht;have ths:∀{n},Tq T M (gd T M dk W V) q.2 n (hsO t):=⟨ZP g z o,.has o⟩
 suffices h:∃d,z9 (j .un .un)=Z (.rt d c)/\Tq T M (gd T M dk W V) q.2 2 d by obtain⟨d,E,F⟩:=h;exact⟨d,uc (ρ:=c) O E,F⟩
 unfold z9;rw[tZ (ρ':=j (.E (.int (x % 7))) .un) ((uq (ua (x:=.int x) (ρ1:=j .un .un) O O (uV (by decide)))).t O)];rw[tZ (ρ':=c) ((uq (tW (ρ1:=j (.E (.int (x % 7))) .un) (tV O (tV O (tV O O))) et)).t O)];cases B:(decide (q.1="peer")&&decide ((3:Int)<x % 7))with
 |true=>have A:q.2="way" := aaa q H (bF (by rw[aX]at B;exact B.1));exact⟨woO w,yp R B (vO (ds:=[.str w]) (tV (ua (x:=.b3 ((["north", "south"]:aH).map D.str)) O (ua (ua (x:=.int x) O O (f? (by decide) (by decide))) O (uV (by decide))) ew) O) O),by rw[A];exact Vw hw,.word A⟩
 |false=>
 rw[y7 R B];cases C:(byD t&&decide ((4:Int)<x % 7))with
 |true=>have hb:Mt T M q.2 (t,1):=.inr ⟨Wp g l ht (by rw[aX]at C;exact C.1),(show (1:Int)<=3 by decide)⟩;exact⟨V' t (y / 3 % 2),yp r C (vO (ds:=[.str t,.int (y / 3 % 2)]) (tV O (tV G O)) O),Os g z hb y3.1 y3.2,.mark hb⟩
 |false=>
 rw[y7 r C];by_cases S:x % 7=0
 .exact⟨atO t p,yp (i 0) (bf S) (vO (ds:=[.str t,.str p]) (tV O (tV ep O)) O),abA g z o (.inl (l.p p hp)),.ats o (.inl (l.p p hp))⟩
 rw[y7 (i 0) (bj S)];by_cases E:x % 7=1
 .exact⟨hsO t,yp (i 1) (bf E) hs,ths⟩
 rw[y7 (i 1) (bj E)];by_cases F:x % 7=2
 .exact⟨seO t,yp (i 2) (bf F) (vO (ds:=[.str t]) O O),Vv g z o,.seen o⟩
 rw[y7 (i 2) (bj F)];by_cases U:x % 7=3
 .exact⟨liO,yp (i 3) (bf U) O,ZQ,.lit⟩
 rw[y7 (i 3) (bj U)];by_cases X:x % 7=4
 .exact⟨noO (V' u.1 (y % 2)),yp (i 4) (bf X) (vO (ds:=[V' u.1 (y % 2)]) (tV mkd O) O),LX tmk.1,.no tmk.2⟩
 rw[y7 (i 4) (bj X)];by_cases Y:x % 7=5
 .exact⟨boO (V' u.1 (y % 2)) (noO (hsO t)),yp (i 5) (bf Y) (vO (ds:=[V' u.1 (y % 2),noO (hsO t)]) (tV mkd (tV (vO (ds:=[hsO t]) (tV hs O) O) O)) O),PQ tmk.1 (LX (n:=0) ths.1),.bo tmk.2 (.no (n:=0) ths.2)⟩
 rw[y7 (i 5) (bj Y)];exact⟨V' u.1 (y % 2),uf mkd,tmk⟩
def VO(g:e4 T M dk W)(l:Ls T M N P K)(F:q∈VF)(x y:Int):∃d,Ac [.b3 (N.map D.str),.b3 (P.map D.str),.b3 (K.map D.str),.str q.1,.int x,.int y]=Z d/\Dq T M (gd T M dk W V) q.2 d:=by
 have B:=vf_f q F;obtain⟨t,et,S⟩:=OG l.n0 F y;let i:Sl->aP:=λb=>[.E (.b3 (N.map D.str)),.E (.b3 (P.map D.str)),.E (.b3 (K.map D.str)),.E (.str q.1),.E (.int x),.E (.int y),b];let c:=i (.E (.str t));obtain⟨m,hm,em⟩:=CO D.str l.k0 (s:=cV 2) (e:=cV 4) (ρ:=c) (x:=x) (a:=2) O O (by decide) (by decide);obtain⟨u,U,rfl,hu1⟩:=l.k m hm;obtain⟨p,hp,R⟩:=Cw D.str (L:=P++(["here"]:aH)) (by simp) (x / 2);have Y:=m2 y;have G:=m2 (y / 3);have ey:c2 uJ bB bT c=Z (.int (y % 2),c):=ua (x:=.int y) O O (uV (by decide));have E:c2 uJ (c2 vp bB bq) bT c=Z (.int (y / 3 % 2),c):=ua (ua (x:=.int y) O O (f? (by decide) (by decide))) O (uV (by decide));have X:∀{a:Int},0<a->c2 uJ az (cC (.int a)) c=Z (.int (x % a),c):=λh=>ua (x:=.int x) O O (uV h);have I:wF (cT (c2 (eo δ) aw iZ)) (cT (c2 (eo δ) (c2 uJ az eC) aE)) c=Z (decide (q.1="tie")&&decide (x % 4=0),c):=P3 (qzS q.1 "tie" O) (qzI _ _ (X (by decide)));have j:wF (cT (c2 (eo δ) (c2 uJ az bT) aE)) (cT (c2 (eo γ) br i3)) c=Z (decide (x % 2=0)&&!decide (t="self"),c):=P3 (qzI _ _ (X (by decide))) (u4 (ua (x:=.str t) O O (wg γ t "self")));have H:cT (c2 (pk δ) br (uO ic)) c=Z (byD t,c):=u4 (ua (x:=.str t) (y:=.c3 ((["it", "other"]:aH).map D.str)) O O (AD δ t _))
 suffices h:∃d,Ab (i .un)=Z (.rt d c)/\Dq T M (gd T M dk W V) q.2 d by obtain⟨d,h1,A⟩:=h;exact⟨d,uc (ρ:=c) O h1,A⟩
 unfold Ab;rw[tZ (ρ':=c) ((uq (tW (ρ1:=i .un) (tV O (tV O (tV O O))) et)).t O)];cases r:(decide (q.1="tie")&&decide (x % 4=0))with
 |true=>have A:q.2="two" := Ti q F (bF (by rw[aX]at r;exact r.1));have o:Mv T q.2 "it" := .inr (.inl ⟨O,by rw[A];decide⟩);have f:Tm q.2 (pw T) "other" := .inr (.inr (.inr ⟨O,A⟩));exact⟨Rn "it" "other", yp I r O,Ot g B o f λz=>ao z (by decide),.X1 o f λz=>ao z (by decide)⟩
 |false=>
 rw[y7 I r];cases w:(decide (x % 2=0)&&!decide (t="self"))with
 |true=>
  have hne:t≠"self" := by simp only[aX,eJ,decide_eq_false_iff_not]at w;exact w.2
  have o:Mv T q.2 t:=S.imp (l.n t) id;have f:Tm q.2 (pw T) p:=by
   rcases bb.1 hp with h|h
   .exact .inl (l.p p h)
   .exact .inr (.inl (aW.1 h))
  refine⟨Rn t p,yp j w (vO (ds:=[.str t,.str p]) (tV O (tV (ua (x:=.b3 ((P++(["here"]:aH)).map D.str)) ((vm (xU (xs:=P.map D.str) (ys:=[.str "here"]) O O ?_)).t (by rw[bK];rfl)) (ua (ua (x:=.int x) O O (f? (by decide) (by decide))) (ua (uQ (x:=.b3 (P.map D.str)) O (Mg D.str P)) O O) (uV (by omega))) ?_) O)) O),Ot g B o f λz=>ao z hne,.X1 o f λz=>ao z hne⟩
  .have:=l.pl;rw[aq];show P.length+1<=1000;omega
  .rw[aR]at R;exact R
 |false=>
 rw[y7 j w];cases C:byD t with
 |true=>have f:Mt T M q.2 (t,1):=.inr ⟨Wp g l S C,(show (1:Int)<=3 by decide)⟩;exact⟨puO t (y / 3 % 2),yp H C (vO (ds:=[.str t,.int (y / 3 % 2)]) (tV O (tV E O)) O),Sx g B f G.1 G.2,.put f G.1⟩
 |false=>
 rw[y7 H C];exact⟨puO u.1 (y % 2),uf (vO (ds:=[.str u.1,.int (y % 2)]) (tV em (tV ey O)) O),Sx g B (.inl U) Y.1 (by omega),.put (.inl U) Y.1⟩
end
def V8:List (Str×Str):=[("pray", "alone"),("rub", "one"),("pray", "alone"),("wait", "alone"),("take", "one"),("open", "one"),("peer", "way"),("tie", "two")]
def v8_v:∀q∈V8,q∈VF:=by decide +kernel
def vf_v:∀q∈VF,∃v∈v6++v9,v.n=q.1/\v.f=q.2:=λq a=>by have:=(show ∀q∈VF,q∈(v6++v9).map nf by decide +kernel) q a;obtain⟨v,b,e⟩:=av.1 this;exact⟨v,b,bp eB e,bp bO e⟩
def tx3:aH:=["Aye.", "So.", "Hm."]
def abT{t:Str}(h:t∈tx3):AS [.str t]=Z (.O γ):=Cu (ba.1 (show (tx3.all λt=>isT (AS [.str t]))=γ by kernel_rfl) t h)
def yv(a:List Int)(i:Nat):Int:=a.getD i 0
def Nq{b:List Int}{n:Nat}(h:Dr b n){i:Nat}(c:i<n):eh (.b3 (b.map D.int)) (.int i)=Z (.int (yv b i)):=by
 have a:i<b.length:=by rw[h.1];exact c
 refine AX (by rw[bD,aY a];unfold yv;rw[cD,aY a];rfl)
def aab{a:List Int}(h:Dr a 40){k:Nat}(c:k<4):∃b,oz (a.map D.int) (Z (10+6 * (k:Int))) (Z (16+6 * (k:Int)))=b.map D.int/\Dr b 6:=by
 refine⟨(a.drop (10+6 * k)).take 6,?_,by rw[cg,jx,h.1];omega,λx d=>h.2 x (nG (jl d))⟩;unfold oz;rw[aq,h.1,lK,lI]
 match k,c with
 |0,_=>rfl
 |1,_=>rfl
 |2,_=>rfl
 |3,_=>rfl
 |k+4,h=>omega
def IB{x a:Int}(c:0<a):∃n:Nat,x % a=(n:Nat)/\(n:Int)<a:=by obtain⟨e,f⟩:=md (a:=x) (b:=a) c;obtain⟨r,d⟩:=jd e;exact⟨r,d,by omega⟩
def Nr{e:FE}{ρ ρ1:aP}{n:Nat}(a:n<=900)(h:e ρ=Z (.int (n:Nat),ρ1)):xm e ρ=Z ((bz n).map λk:Nat=>D.int (k:Nat),ρ1):=by unfold xm;rw[h];simp only;rw[aj (by omega),fR];unfold CQ;simp
def rB:FS:=(bt (uD 8 (cL (Kn ak (oAt (c2 vL jY (c2 yA cm bH))) (oAt (c2 vL (cC (.int 16)) (c2 yA cm bH))))))
 (bt (uD 9 (c2 eh (cL (uM qB)) (c2 uJ (c2 eh cz aE) hU)))
 (bt (uD 10 (cL (ui 1 [3,4,5,9,8] (xm (c2 uJ (c2 vp (c2 eh cz aE) hU) bq)) (gN 0) u6 (tY Aa qG))))
 (bt (uD 11 (cL (ui 1 [3,4,5,9,8] (xm (c2 uJ (c2 vp (c2 eh cz aE) (cC (.int 24))) bq)) (gN 0) u6 (tY Ac qH))))
 (bt (uD 12 (c2 (eo δ) (c2 uJ (c2 vp (c2 eh cz aE) (cC (.int 72))) gv) eC))
 (bt (fc (cT (cV 12)) (uD 11 (cL (uM uI))) uk)
 (uH (yc 6 (uF 13 (λa=>wR (a++[])) qI)))))))))
section
variable{T:List Th}{M:List Mk}{dk:aH}{W:List Wy}{N P K:aH}{xs:List Int}
def Mh{Pr:L4.D->Prop}{c:List L4.D->Option L4.D}{N P K:L4.D}{v:Str}{b:List Int}(q:Dr b 6)(l:∀x y,∃d,c [N,P,K,.str v,.int x,.int y]=Z d/\Pr d)(i:Nat)(E:i<=3){e:FE}{ρ:aP}{n:Nat}(B:n<=2)
  (w:e ρ=Z (.int (n:Nat),ρ)) (u:∀j:Nat,gN 0 (.int j) (Du 1 [3,4,5,9,8] ρ)=Z [.E (.int j),.E N,.E P,.E K,.E (.str v),.E (.b3 (b.map D.int))]) (C:∀j:Nat,xH [3,4,5,9,8] (List.drop 1 [Sl.E (.int j),.E N,.E P,.E K,.E (.str v),.E (.b3 (b.map D.int))]) ρ=Z ρ):
  ∃m,ui 1 [3,4,5,9,8] (xm e) (gN 0) u6 (tY c (ax ah (ax ak (ax aw (ax az (ax (c2 eh bB (c2 vL (cC (.int i)) aa)) (a1 (c2 eh bB (c2 vL (cC (.int (i+1:Nat))) aa))))))))) ρ=Z (m,ρ)/\m.length<=2/\∀t∈m,Pr t:=by
 let h:Nat->L4.D:=λj=>(c [N,P,K,.str v,.int (yv b (i+j)),.int (yv b (i+1+j))]).getD .I;have p:∀j,c [N,P,K,.str v,.int (yv b (i+j)),.int (yv b (i+1+j))]=Z (h j)/\Pr (h j):=λj=>by
  obtain⟨d,o,r⟩:=l (yv b (i+j)) (yv b (i+1+j));have:h j=d:=by show (c _).getD _=d;rw[o];rfl
  rw[this];exact⟨o,r⟩
 refine⟨(bz n).map h,xl (λk:Nat=>D.int (k:Nat)) h (bz n) (Nr (by omega) w) (by rw[dj];omega) λj z=>?_,by rw[aq,dj];exact B,λt l=>by obtain⟨j,_,rfl⟩:=av.1 l;exact(p j).2⟩;have A:=cw.1 z;let f:aP:=[.E (.int j),.E N,.E P,.E K,.E (.str v),.E (.b3 (b.map D.int))];have ad:∀a:Nat,c2 vL (cC (.int a)) aa f=Z (.int ((a+j:Nat):Int),f):=λa=>ua (x:=.int a) (y:=.int j) O O (by show Z (D.int ((a:Int)+(j:Int)))=_;rw[show (a:Int)+(j:Int)=((a+j:Nat):Int) by omega]);exact⟨f,f,u j,tW (tV O (tV O (tV O (tV O (tV (ua (x:=.b3 (b.map D.int)) O (ad i) (Nq q (by omega))) (tV (ua (x:=.b3 (b.map D.int)) O (ad (i+1)) (Nq q (by omega))) O)))))) (p j).1,C j⟩
theorem IC(g:e4 T M dk W)(l:Ls T M N P K)(hx:Dr xs 40)(a b:Sl):∀(ks:List Nat) (R:List L4.D) (s7 H E j i f:Sl),(∀k∈ks,k<4)->(∀r∈R,RuQ T M v6 (gd T M dk W v6) r)->R.length+ks.length<=4->
  ∃(R':List L4.D) (t7 t8 t9 S U t12:Sl),(∀r∈R',RuQ T M v6 (gd T M dk W v6) r)/\R'.length<=4/\fh (gN 7) rB (ks.map λk:Nat=>D.int (k:Nat)) [a,b,.E (.b3 (xs.map D.int)),.E (.b3 (N.map D.str)),.E (.b3 (P.map D.str)),.E (.b3 (K.map D.str)),.ls R,s7,H,E,j,i,f]=Z (.nx [a,b,.E (.b3 (xs.map D.int)),.E (.b3 (N.map D.str)),.E (.b3 (P.map D.str)),.E (.b3 (K.map D.str)),.ls R',t7,t8,t9,S,U,t12])
 |[],R,s7,H,E,j,i,f,_,hR,hl=>⟨R,s7,H,E,j,i,f,hR,by simpa using hl,O⟩
 |k::ks,R,s7,H,E,j,i,f,hk,hR,hl=>by
  rw[aS]at hl;obtain⟨ys,ey,hy⟩:=aab hx (hk k aN);let X:Sl:=.E (.b3 (xs.map D.int));let Y:Sl:=.E (.b3 (ys.map D.int));let y0:=yv ys 0;obtain⟨q,hq8,eq⟩:=Cw (λq:Str×Str=>D.str q.1) (L:=V8) (by decide) y0;have hq:=v8_v q hq8;obtain⟨v,hv,vn,vf⟩:=vf_v q hq;obtain⟨n1,e1,l1⟩:=IB (x:=y0 / 8) (a:=3) (by decide);obtain⟨n2,e2,l2⟩:=IB (x:=y0 / 24) (a:=3) (by decide);obtain⟨tx,htx,etx⟩:=Cw D.str (L:=tx3) (by decide) (yv ys 5);let o:Bool:=decide (y0 / 72 % 5=4);let p:Sl->Sl->Sl->Sl->Sl->aP:=λc8 I A B C=>[a,b,X,.E (.b3 (N.map D.str)),.E (.b3 (P.map D.str)),.E (.b3 (K.map D.str)),.ls R,.E (.int (k:Nat)),c8,I,A,B,C];have c0:∀{I A B C:Sl},c2 eh cz aE (p Y I A B C)=Z (.int y0,p Y I A B C):=ua (x:=.b3 (ys.map D.int)) O O (Nq hy (by decide));have dv:∀{I A B C:Sl} {a m:Int},0<a->a<1073741824->0<m->c2 uJ (c2 vp (c2 eh cz aE) (cC (.int a))) (cC (.int m)) (p Y I A B C)=Z (.int (y0 / a % m),p Y I A B C):=λh1 h2 h3=>ua (ua c0 O (f? h1 h2)) O (uV h3);let Q:Sl:=.E (.str q.1);obtain⟨w,et,lt,ht⟩:=Mh (ρ:=p Y Q j i f) hy (λx y=>VN (V:=v6) (q:=q) g l hq x y) 1 (by decide) (e:=c2 uJ (c2 vp (c2 eh cz aE) hU) bq) (n:=n1) (by omega) ((dv (by decide) (by decide) (by decide)).t (by rw[e1])) (λ_=>O) (λ_=>O);obtain⟨F,ed,ld,hd⟩:=Mh (ρ:=p Y Q (.E (.b3 w)) i f) hy (λx y=>VO (V:=v6) (q:=q) g l hq x y) 3 (by decide) (e:=c2 uJ (c2 vp (c2 eh cz aE) (cC (.int 24))) bq) (n:=n2) (by omega) ((dv (by decide) (by decide) (by decide)).t (by rw[e2])) (λ_=>O) (λ_=>O);let u:List L4.D:=if o then []else F
  have ld':u.length<=2:=by show (if o then []else F).length<=2;cases o<;>simp[ld]
  have hd':∀d∈u,Dq T M (gd T M dk W v6) q.2 d:=λd h=>by
   replace h:d∈(if o then []else F):=h;cases hr:o<;>rw[hr]at h
   .exact hd d h
   .cases h
  let r:=p? v.n w u tx o;have ok:RuQ T M v6 (gd T M dk W v6) r:=⟨Vx (λ_ h=>h) On hv (λt h=>by rw[vf];exact(ht t h).1) (by omega) (λt h=>by rw[vf];exact(hd' t h).1) (by omega) (λz=>by show (if o then []else F)=[];rw[z];rfl) (abT htx),v,hv,w,u,tx,o,O,λt h=>by rw[vf];exact(ht t h).2,λt h=>by rw[vf];exact(hd' t h).2⟩;have xb:rB (p H E j i f)=Z (.nx [a,b,X,.E (.b3 (N.map D.str)),.E (.b3 (P.map D.str)),.E (.b3 (K.map D.str)),.ls (R++[r]),.E (.int (k:Nat)),Y,Q,.E (.b3 w),.E (.b3 u),.E (.O o)]):=by
   unfold rB;have ml:∀c:Int,c2 vL (cC (.int c)) (c2 yA cm bH) (p H E j i f)=Z (.int (c+6 * (k:Int)),p H E j i f):=λc=>ua (x:=.int c) O (ua (x:=.int 6) (y:=.int k) O O (AA (.inl (by decide)))) O;refine(tZ (ρ':=p Y E j i f) ((uq (vm ((Tg (ρ1:=p H E j i f) (ds:=xs.map D.int) O (Nn (ml 10)) (Nn (ml 16))).t (by rw[ey])))).t O)).t ?_;refine(tZ (ρ':=p Y Q j i f) ((uq (ua (x:=.b3 (V8.map λq=>D.str q.1)) (ρ1:=p Y E j i f) O (ua c0 O (uV (by decide))) eq)).t O)).t ?_;refine(tZ (ρ':=p Y Q (.E (.b3 w)) i f) ((uq (vm et)).t O)).t ?_;refine(tZ (ρ':=p Y Q (.E (.b3 w)) (.E (.b3 F)) f) ((uq (vm ed)).t O)).t ?_;refine(tZ (ρ':=p Y Q (.E (.b3 w)) (.E (.b3 F)) (.E (.O o))) ((uq (ua (dv (by decide) (by decide) (by decide)) O (y9 δ _ _))).t O)).t ?_;refine(tZ (ρ':=p Y Q (.E (.b3 w)) (.E (.b3 u)) (.E (.O o))) ?_).t ?_
   .have ec:cT (cV 12) (p Y Q (.E (.b3 w)) (.E (.b3 F)) (.E (.O o)))=Z (o,p Y Q (.E (.b3 w)) (.E (.b3 F)) (.E (.O o))):=rfl;show _=Z (rh.nx (p Y Q (.E (.b3 w)) (.E (.b3 (if o then []else F))) (.E (.O o))));generalize o=o at ec ⊢;cases o
    .exact(uN ec).t O
    .exact(uE ec).t O
   .refine(ve (A6 (es0:=R) (es:=R) (d:=r) (ρ1:=p Y Q (.E (.b3 w)) (.E (.b3 u)) (.E (.O o))) O (vO (ds:=[.str q.1,.b3 w,.b3 u,.str tx,.O o]) (tV O (tV O (tV O (tV (ua (x:=.b3 (tx3.map D.str)) O (ua (ua (x:=.b3 (ys.map D.int)) O O (Nq hy (by decide))) O (uV (by decide))) etx) (tV O O))))) (by show wR [.str q.1,.b3 w,.b3 u,.str tx,.O o]=Z (ruN,[.str v.n,.b3 w,.b3 u,.str tx,.O o]);rw[vn];kernel_rfl)) O (by omega))).t O
  obtain⟨R',t7,t8,t9,S,U,t12,h1,h2,h3⟩:=IC g l hx a b ks (R++[r]) (.E (.int (k:Nat))) Y Q (.E (.b3 w)) (.E (.b3 u)) (.E (.O o)) (λk h=>hk k (aQ _ h)) (λz hz=>by
   rcases bb.1 hz with hz|hz
   .exact hR z hz
   .rw[aW.1 hz];exact ok) (by rw[aR];simp;omega)
  refine⟨R',t7,t8,t9,S,U,t12,h1,h2,?_⟩;rw[aA];unfold fh;rw[show gN 7 (.int (k:Nat)) [a,b,X,.E (.b3 (N.map D.str)),.E (.b3 (P.map D.str)),.E (.b3 (K.map D.str)),.ls R,s7,H,E,j,i,f]=Z (p H E j i f) from O];simp only[xb];exact h3
end
def aac{P:Kd->Prop}(a:P .room)(b:P .you)(c:P .plain)(d:P .fixed)(e:P .box)(f:P .lamp):∀k,P k:=λk=>by cases k<;>assumption
def aad:((bz 6).all λn=>decide (vu++("self" : Str)::((bz n).map λk=>(IZ k).1)++mkL).Nodup)=γ:=by kernel_rfl
def Tj{T T0:List Th}(p:T.Perm T0){t:Th}(h:KF T0 t):CL T t:=by
 have i:∀u∈T0,u.k=.room->u.n∈w? T:=λu a f=>bP (bc.2 ⟨p.mem_iff.2 a,bf f⟩);have e:∀u∈T0,u.k.hd=γ->u.n∈pw T:=λu a f=>bP (bc.2 ⟨p.mem_iff.2 a,f⟩);obtain⟨n,w,k,s⟩:=t;rcases h with ⟨b,c⟩|⟨b,u,a,c,d⟩|⟨b,u,a,c,d⟩
 .simp only at b c;subst b c;exact trivial
 .simp only at b c;subst b c;exact i u a d
 .simp only at b c;subst c;cases k with
  |room=>cases b
  |you=>cases b
  |plain=>exact e u a d
  |fixed=>exact e u a d
  |box=>exact e u a d
  |lamp=>exact e u a d
structure Base(T:List Th):Prop where
 len:T.length<=13
 r1:1<=(T.filter λt=>decide (t.k=.room)).length
 r5:(T.filter λt=>decide (t.k=.room)).length<=5
 y1:(T.filter λt=>decide (t.k=.you)).map Th.n=(["self"]:aH)
 p7:(T.filter λt=>t.k.pl).length<=7
 nd:∀m,(T.map Th.n++mkL.take m).Nodup
 nm:∀x∈T.map Th.n,Nm x
 st:∀t∈T,CL T t
 rk:∃r,KE T r
 wd:∀t∈T,CM t
def VP{T0:List Th}(d:Drawn T0):Base T0:=by
 have p:T0.Perm T0:=pE _;obtain⟨r,n,y,P,M,Q,G,j,eP,hP⟩:=d.ex;let R:=(vu.take r).map ε;let c:Th:=⟨"self", ["self"],.you,Z y⟩;have lR:R.length=r:=by show ((vu.take r).map ε).length=r;rw[aq,cg];show min r 3=r;omega
 have lP:P.length=n:=by have:=bp dM eP;rw[aq,aq,dj]at this;exact this
 have i:∀t∈R,t.k=.room:=λt h=>by obtain⟨x,_,rfl⟩:=av.1 h;rfl
 have spl:∀p:Th->Bool,T0.filter p=R.filter p++((if p c=γ then [c]else [])++P.filter p):=λp=>by rw[j,oq,fW];show R.filter p++(if p c=γ then c::P.filter p else P.filter p)=_;split<;>rfl
 have all_:∀(p:Kd->Bool) (L:List Th),(∀t∈L,p t.k=γ)->L.filter (λt=>p t.k)=L:=λp L h=>jn.2 h;have non_:∀(p:Kd->Bool) (L:List Th),(∀t∈L,p t.k=δ)->L.filter (λt=>p t.k)=[]:=λp L h=>ky.2 λt b z=>by rw[h t b]at z;cases z
 have plk:∀k:Kd,k.pl=γ->decide (k=.room)=δ/\decide (k=.you)=δ:=aac (λz=>by cases z) (λz=>by cases z) (λ_=>⟨O,O⟩) (λ_=>⟨O,O⟩) (λ_=>⟨O,O⟩) (λ_=>⟨O,O⟩);have fr:T0.filter (λt=>decide (t.k=.room))=R:=by rw[spl,all_ (λk=>decide (k=.room)) R λt h=>by rw[i t h];rfl,non_ (λk=>decide (k=.room)) P λt h=>(plk t.k (hP t h)).1];exact bR R
 have C:T0.filter (λt=>decide (t.k=.you))=[c]:=by rw[spl,non_ (λk=>decide (k=.you)) R λt h=>by rw[i t h];rfl,non_ (λk=>decide (k=.you)) P λt h=>(plk t.k (hP t h)).2];rfl
 have B:T0.filter (λt=>t.k.pl)=P:=by rw[spl,non_ Kd.pl R λt h=>by rw[i t h];rfl,all_ Kd.pl P hP];rfl
 have eN:T0.map Th.n=vu.take r++("self" : Str)::(bz n).map λk=>(IZ k).1:=by
  rw[j,bK,aA];have w:((vu.take r).map ε).map Th.n=vu.take r:=by rw[aV];exact fF _
  have A:P.map Th.n=(bz n).map λk=>(IZ k).1:=by have:=bp (eA eB) eP;rw[aV,aV]at this;exact this
  rw[w,A]
 have big:=bF (ba.1 aad n (cw.2 G));have wP:∀t∈P,t.nw∈sx:=λt h=>by have l:t.nw∈P.map Th.nw:=bP h;rw[eP]at l;obtain⟨k,o,e⟩:=av.1 l;rw[<-e];exact(Tf (by have:=cw.1 o;omega)).1
 have N:∀t∈T0,CM t:=λt h=>by
  rw[j]at h;rcases bb.1 h with h|h
  .obtain⟨x,a,rfl⟩:=av.1 h;exact⟨bL _ (av.2 ⟨x,jl a,O⟩),λz=>by cases z⟩
  .rcases aK.1 h with rfl|h
   .exact⟨bE _ aN,λz=>by cases z⟩
   .exact⟨bE _ (aQ _ (wP t h)),λ_=>wP t h⟩
 have f:∀m,(T0.map Th.n++mkL.take m).Nodup:=λm=>by rw[eN];exact big.sublist (((kM r vu).append (kU _)).append (kM m mkL))
 constructor
 .rw[p.length_eq,j,aR,aS,aq,cg,lP];show min r 3+(n+1)<=13;omega
 .rw[(p.filter _).length_eq,fr,lR];exact M
 .rw[(p.filter _).length_eq,fr,lR];omega
 .rw[C];rfl
 .rw[(p.filter _).length_eq,B,lP];omega
 .intro m;exact((p.map _).append_right _).nodup_iff.2 (f m)
 .intro x a;have a:=(p.map Th.n).mem_iff.1 a;rw[eN]at a;rcases bb.1 a with a|a
  .exact bL _ (bL _ (jl a))
  .refine bL _ (bE _ ?_);rcases aK.1 a with rfl|a
   .exact aN
   .obtain⟨k,o,rfl⟩:=av.1 a;exact aQ _ (bP (Tf (by have:=cw.1 o;omega)).1)
 .intro t b;exact Tj p (d.i2.all t (p.mem_iff.1 b))
 .obtain⟨i,h⟩:=d.i2.rank (bZ.1 (f 0)).1;refine⟨i,λt b=>?_⟩;obtain⟨l,E⟩:=h t (p.mem_iff.1 b);refine⟨by rw[p.length_eq];exact l,λq H=>?_⟩;obtain⟨F,u,I,e⟩:=E q H;exact⟨F,u,p.mem_iff.2 I,e⟩
 .exact λt b=>N t (p.mem_iff.1 b)
def mL(m s:Int):List Mk:=[⟨"tide", 0,m⟩,⟨"sun", s,1⟩]
def To{T:List Th}{dk:aH}{W:List Wy}{xs:List Int}{m s:Int}(u:Dr xs 40)(g:e4 T (mL m s) dk W):∃R,Br [TD T,.b3 [.str "tide", .str "sun"],.b3 (xs.map D.int)]=Z (.b3 R)/\(∀r∈R,RuQ T (mL m s) v6 (gd T (mL m s) dk W v6) r)/\R.length<=4:=by
 have Q:=g.len;let N:=xo T;let P:=pw T;let K:aH:=(["tide", "sun"]:aH)++(T.filter λt=>t.k.mk).map Th.n;have lP:P.length<=100:=by show (pw T).length<=100;unfold pw;rw[aq];exact bM (cU _ _) (by omega)
 have ls:Ls T (mL m s) N P K:={
  n0:=λz=>by have:=SL g;rw[show xo T=[] from z]at this;cases this
  n:=λz f=>by obtain⟨t,i,e⟩:=av.1 f;rw[bc]at i;exact⟨t,i.1,e,λk=>by rw[k]at i;exact ao i.2 (by decide)⟩
  p0:=λz=>by have:=Wn g;rw[show pw T=[] from z]at this;cases this
  pl:=lP
  p:=λz f=>f
  k0:=by simp[K]
  k:=λz f=>by
   rcases bb.1 f with f|f
   .have mo:=g.mo;simp only[aK,b0,or_false]at f;rcases f with rfl|rfl
    .exact⟨("tide", m),bE _ (av.2 ⟨_,aN,O⟩),O,(mo _ (aN)).1⟩
    .exact⟨("sun", 1),bE _ (av.2 ⟨⟨"sun", s,1⟩,aQ _ aN,O⟩),O,iP _⟩
   .obtain⟨t,i,e⟩:=av.1 f;exact⟨(t.n,1),bL _ (av.2 ⟨t,i,O⟩),e,iP _⟩ }
 obtain⟨n,w,S⟩:=IB (x:=yv xs 4) (a:=5) (by decide);let A:Sl:=.E (TD T);let B:Sl:=.E (.b3 [.str "tide", .str "sun"]);let X:Sl:=.E (.b3 (xs.map D.int));obtain⟨R,H,I,M,j,l,o,C,E,F⟩:=IC g ls u A B (bz n) [] .un .un .un .un .un .un (λk h=>by have:=cw.1 h;omega) (λr h=>by cases h) (by rw[dj];simp;omega);refine⟨R,?_,C,E⟩;let ρ:Sl->Sl->Sl->Sl->aP:=λa b c d=>[A,B,X,a,b,c,d,.un,.un,.un,.un,.un,.un];let NN:Sl:=.E (.b3 (N.map D.str));let PP:Sl:=.E (.b3 (P.map D.str));let KK:Sl:=.E (.b3 (K.map D.str));refine BY (ρ:=[A,B,X,NN,PP,KK,.un,H,I,M,j,l,o]) O ?_;unfold Bq;have fl:∀(p:Kd->Bool) {ft:FT} {ρ:aP},cV 0 ρ=Z (TD T,ρ)->Du 1 [] ρ=[.un]->(∀t:Th,ft [.E (d? t)]=Z (p t.k,[.E (d? t)]))->ui 1 [] (iL aa) (gN 0) ft (c1 (ud uw "name") aa) ρ=Z (((T.filter λt=>p t.k).map Th.n).map D.str,ρ):=λp ft ρ h0 G hf=>by refine(xF d? (λt=>D.str t.n) (λt=>p t.k) T (Dm h0) (by omega) λt _=>⟨[.E (d? t)],[.E (d? t)],by rw[G];rfl,hf t,λ_=>⟨_,O,O⟩,λ_=>O⟩).t ?_;rw[aV];rfl
 refine(tZ (ρ':=ρ NN .un .un .un) ((uq (vm (fl (λk=>!decide (k=.room)) (ρ:=ρ .un .un .un .un) O O λt=>u4 (ua (x:=.str t.k.s) O O (SI t))))).t O)).t ?_;refine(tZ (ρ':=ρ NN PP .un .un) ((uq (vm (fl Kd.hd (ρ:=ρ NN .un .un .un) O O λt=>u4 (ua (x:=.str t.k.s) (y:=.c3 ((["room", "box", "you"]:aH).map D.str)) O O ((AD δ t.k.s _).t (by cases t.k<;>rfl)))))).t O)).t ?_;refine(tZ (ρ':=ρ NN PP KK .un) ((uq (vm (xU (xs:=[.str "tide", .str "sun"]) (ρ1:=ρ NN PP .un .un) O (vm (fl Kd.mk (ρ:=ρ NN PP .un .un) O O λt=>u4 (ua (x:=.str t.k.s) (y:=.c3 ((["box", "lamp"]:aH).map D.str)) O O ((AD δ t.k.s _).t (by cases t.k<;>rfl))))) ?_))).t ?_)).t ?_
 .have:=cU (λt:Th=>t.k.mk) T;simp only[aq,aS,fZ];omega
 .rfl
 refine(tZ (ρ':=ρ NN PP KK (.ls [])) O).t ?_;refine(tZ ((vz (ρ1:=ρ NN PP KK (.ls [])) (Nr (by omega) ((ua (ua (x:=.b3 (xs.map D.int)) O O (Nq u (by decide))) O (uV (by decide))).t (by rw[w])))).t F)).t O
def abU{T:List Th}(d:Drawn T):∃r,r<3/\w? T=vu.take (1+r):=by
 obtain⟨r,n,y,P,f,i,e,a,eP,hP⟩:=d.ex;refine⟨r - 1,by omega,?_⟩;rw[show 1+(r - 1)=r by omega];unfold w?;rw[a,oq,fW];have b:((vu.take r).map ε).filter (λt=>decide (t.k=.room))=(vu.take r).map ε:=jn.2 λt h=>by obtain⟨x,_,rfl⟩:=av.1 h;rfl
 have c:P.filter (λt=>decide (t.k=.room))=[]:=ky.2 λt h z=>by have:=hP t h;rw[bF z]at this;cases this
 rw[b,c];show (((vu.take r).map ε)++[]).map Th.n=_;rw[bR,aV];exact fF _
def ends:∀{r:Nat},r<3->∃a∈vu.take (1+r),∃b∈vu.take (1+r),eh (.b3 ((vu.take (1+r)).map D.str)) (.int 0)=Z (.str a)/\eh (.b3 ((vu.take (1+r)).map D.str)) (.int (-1))=Z (.str b)
 |0,_=>⟨"hall", by decide,"hall", by decide,O,O⟩
 |1,_=>⟨"hall", by decide,"attic", by decide,O,O⟩
 |2,_=>⟨"hall", by decide,"cellar", by decide,O,O⟩
 |r+3,h=>by omega
def Tp(S:Int):∃T M dk W R c,Bt [.int S]=Z (wO T M dk W v6 R c)/\e4 T M dk W/\(∀r∈R,RuS T M v6 r)/\Try T M dk W v6 R c:=by
 obtain⟨xs,ed,I⟩:=Te S 40 (by decide);obtain⟨T,dr,eT⟩:=P2 I;have b:=VP dr;obtain⟨r,hr,er⟩:=abU dr;have hl:=b.len;let j:=w? T;let C:Sl:=.E (.int S);let X:Sl:=.E (.b3 (xs.map D.int));let A:Sl:=.E (TD T);let RS:Sl:=.E (.b3 (j.map D.str));obtain⟨N,em3,lm3⟩:=IB (x:=yv xs 5) (a:=3) (by decide);obtain⟨s0,H,ls0⟩:=IB (x:=yv xs 5 / 3) (a:=2) (by decide);let m:Int:=1+(N:Nat);let s:Int:=(s0:Nat);let M:=mL m s;let Mm:Sl:=.E (MD M);have xa:∀{ρ:aP} {i:Nat},i<40->cV 1 ρ=Z (.b3 (xs.map D.int),ρ)->c2 eh ah (cC (.int i)) ρ=Z (.int (yv xs i),ρ):=λhi h=>ua h O (Nq I hi);let p:Nat->Bool:=λk=>decide (f7 (yv xs 6 / 2 ^ k) 1=1);let dk:aH:=((bz j.length).filter p).map λk=>j.getD k "";have sl:dk.Sublist j:=by have h:=(fi (p:=p) (l:=bz j.length)).map λk=>j.getD k "";rw[Iv]at h;exact h
 let DK:Sl:=.E (.b3 (dk.map D.str));obtain⟨a,ha,z,hz,ea,ez⟩:=ends hr;rw[<-er]at ha hz ea ez;have nT:(T.map Th.n).Nodup:=(bZ.1 (b.nd 0)).1;have nR:j.Nodup:=nT.sublist (tR _ fi);obtain⟨P,ho1,eo1⟩:=Cw oS (L:=[J,Z "sun"]) (by simp) (yv xs 7 / 3);obtain⟨Q,ho2,eo2⟩:=Cw oS (L:=[J,Z "tide"]) (by simp) (yv xs 7 / 18);let t:Bool:=decide ((0:Int)<yv xs 7 % 3);let u:Bool:=decide ((0:Int)<yv xs 7 / 6 % 3);let F:Wy:=⟨a,"north", z,P⟩;let B:Wy:=⟨z,"south", a,Q⟩;let o:List Wy:=if t then [F]else []
 let W:List Wy:=o++if u then [B]else []
 have mN:∀x∈(["tide", "sun"]:aH),x∈si T M:=λx h=>bE _ h;have k1:PL T M F:=⟨ha,(show ("north" : Str)∈(["north", "south"]:aH) by decide),hz,λx h=>mN x (by
  rcases aK.1 ho1 with e|e
  .rw[show F.m=P from O,e]at h;cases h
  .rw[show F.m=P from O,aW.1 e]at h;cases h;decide)⟩
 have k2:PL T M B:=⟨hz,(show ("south" : Str)∈(["north", "south"]:aH) by decide),ha,λx h=>mN x (by
  rcases aK.1 ho2 with e|e
  .rw[show B.m=Q from O,e]at h;cases h
  .rw[show B.m=Q from O,aW.1 e]at h;cases h;decide)⟩
 have g:e4 T M dk W:={
  len:=hl,r1:=b.r1,r5:=b.r5,y1:=b.y1,p7:=b.p7
  m4:=(show 2<=4 by decide)
  mo:=λq hq=>by
   rcases aK.1 hq with rfl|hq
   .exact⟨by show 1<=1+((N:Nat):Int);omega,by show 1+((N:Nat):Int)<=3;omega,iP _,by show 0<=1+((N:Nat):Int);omega⟩
   .rw[aW.1 hq];exact⟨iP _,(show (1:Int)<=3 by decide),by show 0<=((s0:Nat):Int);omega,by show ((s0:Nat):Int)<=1;omega⟩
  nm:=λx h=>by
   rcases bb.1 h with h|h
   .exact b.nm x h
   .exact bE _ h
  nd:=b.nd 2
  st:=b.st,rk:=b.rk,wd:=b.wd
  d0:=bM sl.length_le (by show (w? T).length<=5;rw[er,cg];show min (1+r) 3<=5;omega)
  d1:=nR.sublist sl
  d2:=λx h=>sl.mem h
  w8:=by show (o++if u then [B]else []).length<=2;show ((if t then [F]else [])++if u then [B]else []).length<=2;cases t<;>cases u<;>simp
  wo:=λw h=>by
   replace h:w∈(if t then [F]else [])++if u then [B]else []:=h
   rcases bb.1 h with h|h
   .cases hb:t<;>rw[hb]at h
    .cases h
    .rw[aW.1 h];exact k1
   .cases hb:u<;>rw[hb]at h
    .cases h
    .rw[aW.1 h];exact k2
  wn:=by
   show (((if t then [F]else [])++if u then [B]else []).map λw=>[w.r,w.w]).Nodup;cases t<;>cases u<;>simp[F,B];exact λ_=>by decide }
 obtain⟨R,eR,hR,lR⟩:=To I g;obtain⟨ks,dss,ew,hg⟩:=SD g (λr h=>(hR r h).1) (by omega);refine⟨T,M,dk,W,R,.Q ks (dss.map .b3),?_,g,λr h=>(hR r h).2,λn=>Z8 hg n⟩;let U:Sl:=.un;let ρ:Sl->Sl->Sl->Sl->aP:=λc d e f=>[C,X,A,RS,c,d,e,f];let WW:Sl:=.E (WD W);let VV:Sl:=.E (VD v6);refine uc (ρ:=ρ Mm DK WW VV) O ?_;unfold Bs;refine(tZ (ρ':=[C,X,U,U,U,U,U,U]) ((uq (vm (tW (ρ1:=[C,U,U,U,U,U,U,U]) (tV O (tV O O)) ed))).t O)).t ?_;refine(tZ (ρ':=[C,X,A,U,U,U,U,U]) ((uq (tW (ρ1:=[C,X,U,U,U,U,U,U]) (tV O O) eT)).t O)).t ?_;refine(tZ (ρ':=ρ U U U U) ((uq (vm (Ie (i:=2) (ρ:=[C,X,A,U,U,U,U,U]) T (by omega) O))).t O)).t ?_;refine(tZ (ρ':=ρ Mm U U U) ((uq (vm (XX (ds:=[O' ⟨"tide", 0,m⟩,O' ⟨"sun", s,1⟩]) (ρ1:=ρ U U U U) (tV (vO (ds:=[.str "tide", .int 0,.int m]) (tV O (tV O (tV (ua (x:=.int 1) O ((ua (xa (i:=5) (by decide) O) O (uV (by decide))).t (by rw[em3])) O) O))) O) (tV (vO (ds:=[.str "sun", .int s,.int 1]) (tV O (tV ((ua (ua (xa (i:=5) (by decide) O) O (f? (by decide) (by decide))) O (uV (by decide))).t (by rw[H])) (tV O O))) O) O)) (show 2<=1000 by decide)))).t O)).t ?_;have e5:ui 1 [3,1] (xm (c1 xf aw)) (gN 0) (cT (c2 (eo δ) (c2 ub (c2 rm (c2 eh ak cm) aa) aU) aU)) (c2 eh ah aa) (ρ Mm U U U)=Z (dk.map D.str,ρ Mm U U U):=by
  have lR:j.length<=5:=by show (w? T).length<=5;rw[er,cg];show min (1+r) 3<=5;omega
  refine(xF (λk:Nat=>D.int (k:Nat)) (λk=>D.str (j.getD k "")) p (bz j.length) (ρ1:=ρ Mm U U U) (Nr (by omega) (uQ (x:=.b3 (j.map D.str)) O (Mg D.str j))) (by rw[dj];omega) λk hk=>⟨[.E (.int k),RS,X],[.E (.int k),RS,X],O,?_,λ_=>⟨[.E (.int k),RS,X],?_,O⟩,λ_=>O⟩).t ?_
  .refine u4 (ua (x:=.int (f7 (yv xs 6 / 2 ^ k) 1)) (y:=.int 1) (ua (x:=.int (yv xs 6 / 2 ^ k)) (y:=.int 1) (ua (x:=.int (yv xs 6)) (y:=.int k) (ua (x:=.b3 (xs.map D.int)) O O (Nq I (by decide))) O ?_) O O) O (y9 δ _ _));show (if decide ((0:Int)<=(k:Int))=γ then Z (D.int (yv xs 6 / 2 ^ (k:Int).toNat))else J)=_;rw[bf (by omega),aj O,fR]
  .have h:=cw.1 hk;exact ua (x:=.b3 (j.map D.str)) O O (AX (by rw[bD,aY h,cD,aY h];rfl))
  .show _=Z ((((bz j.length).filter p).map λk=>j.getD k "").map D.str,_);rw[aV];rfl
 refine(tZ (ρ':=ρ Mm DK U U) ((uq (vm e5)).t O)).t ?_;refine(tZ (ρ':=ρ Mm DK (.ls []) U) O).t ?_;have x7:∀(q:Sl),c2 eh ah dw (ρ Mm DK q U)=Z (.int (yv xs 7),ρ Mm DK q U):=λq=>xa (i:=7) (by decide) O;have Y:∀(q:Sl) {a m:Int},0<a->a<1073741824->0<m->c2 uJ (c2 vp (c2 eh ah dw) (cC (.int a))) (cC (.int m)) (ρ Mm DK q U)=Z (.int (yv xs 7 / a % m),ρ Mm DK q U):=λq {a m} h1 h2 h3=>ua (ua (x7 q) O (f? h1 h2)) O (uV h3);refine(tZ (ρ':=ρ Mm DK (.ls (o.map mn)) U) ?_).t ?_
 .have G:cT (c2 IM (c2 uJ (c2 eh ah dw) bq) aE) (ρ Mm DK (.ls []) U)=Z (t,ρ Mm DK (.ls []) U):=u4 (ua (x:=.int (yv xs 7 % 3)) (ua (x7 _) O (uV (by decide))) O O);show _=Z (rh.nx (ρ Mm DK (.ls ((if t then [F]else []).map mn)) U));generalize t=t at G ⊢;cases t
  .exact(uN G).t O
  .exact(uE G).t ((ve (A6 (es0:=[]) (es:=[]) (d:=mn F) (ρ1:=ρ Mm DK (.ls []) U) O (Hh (ds:=[.str a,.str "north", .str z,oS P]) (tV (ua (x:=.b3 (j.map D.str)) O O ea) (tV O (tV (ua (x:=.b3 (j.map D.str)) (y:=.int (-1)) O O ez) (tV (ua (x:=.b3 (([J,Z "sun"]:List (Option Str)).map oS)) O (Y _ (by decide) (by decide) (by decide)) eo1) O)))) (show 4<=1000 by decide)) O (by decide))).t O)
 refine(tZ (ρ':=ρ Mm DK (.ls (W.map mn)) U) ?_).t ?_
 .have G:cT (c2 IM (c2 uJ (c2 vp (c2 eh ah dw) cm) bq) aE) (ρ Mm DK (.ls (o.map mn)) U)=Z (u,ρ Mm DK (.ls (o.map mn)) U):=u4 (ua (x:=.int (yv xs 7 / 6 % 3)) (Y _ (by decide) (by decide) (by decide)) O O);show _=Z (rh.nx (ρ Mm DK (.ls ((o++if u then [B]else []).map mn)) U));have l1:(o.map mn).length<1000:=by rw[aq];show (if t then [F]else []).length<1000;cases t<;>simp
  generalize u=u at G ⊢;cases u
  .refine(uN G).t ?_;show Z (rh.nx (ρ Mm DK (.ls (o.map mn)) U))=Z (rh.nx (ρ Mm DK (.ls ((o++[]).map mn)) U));rw[bR]
  .refine(uE G).t ((ve (A6 (es0:=o.map mn) (es:=o.map mn) (d:=mn B) (ρ1:=ρ Mm DK (.ls (o.map mn)) U) O (Hh (ds:=[.str z,.str "south", .str a,oS Q]) (tV (ua (x:=.b3 (j.map D.str)) (y:=.int (-1)) O O ez) (tV O (tV (ua (x:=.b3 (j.map D.str)) O O ea) (tV (ua (x:=.b3 (([J,Z "tide"]:List (Option Str)).map oS)) O (Y _ (by decide) (by decide) (by decide)) eo2) O)))) (show 4<=1000 by decide)) O l1)).t ?_);show Z (rh.nx (ρ Mm DK (.ls (o.map mn++[mn B])) U))=Z (rh.nx (ρ Mm DK (.ls ((o++[B]).map mn)) U));rw[bK];rfl
 refine(tZ (ρ':=ρ Mm DK (.ls (W.map mn)) (.E (VD (v6.take 2)))) O).t ?_;refine(tZ (ρ':=ρ Mm DK (.ls (W.map mn)) VV) O).t ?_;exact uf (vO (g:=λds=>x9 (ds++[])) (ds:=[TD T,MD M,.b3 (dk.map D.str),WD W,VD v6,.b3 R]) (tV O (tV O (tV O (tV (ρ1:=ρ Mm DK WW VV) O (tV O (tV (tW (tV O (tV O (tV O O))) eR) O)))))) ew)
def yK(k:Ky):List dt:=[Sum.inr k.1,Sum.inr k.2]
def Nt{a b:Ky}(h:yK a=yK b):a=b:=by unfold yK at h;injection h with d c;injection c with c _;exact qA (gj d) (gj c)
theorem ID(v:Ky->L4.D):∀P:List Ky,m1 (P.map λk=>.c3 [kD k,v k])=Z (P.map yK,P.map v)
 |[]=>rfl
 |k::P=>by rw[aA];unfold m1;rw[ID v P];rfl
def Tr{P:List Ky}(h:P.Nodup):(P.map yK).Nodup:=iC.2 (h.imp λn e=>n (Nt e))
theorem IE(h:Ky->L4.D){k:Ky}:∀{P:List Ky},ij (P.map yK) (P.map h) (yK k)=if k∈P then Z (h k)else J
 |[]=>rfl
 |j::P=>by
  rw[aA,aA];unfold ij;by_cases e:j=k
  .subst e;rw[aj O,aj aN]
  .rw[ai λz=>e (Nt z),IE h];by_cases m:k∈P
   .rw[aj m,aj (aQ _ m)]
   .rw[ai m,ai λz=>(aK.1 z).elim (λz=>e z.symm) m]
def mx(Q:List Ky)(v u:Ky->L4.D):Ky->L4.D:=λk=>if k∈Q then v k else u k
theorem Gq(v u:Ky->L4.D)(q:Ky):∀P:List Ky,z? (P.map yK) (P.map u) (yK q) (v q)=P.map λk=>if k=q then v k else u k
 |[]=>rfl
 |k::P=>by
  rw[aA,aA,aA];unfold z?;rw[Gq v u q P];by_cases e:k=q
  .rw[aj e,aj (by rw[e])];rw[e]
  .rw[ai e,ai λz=>e (Nt z)]
theorem OH(v:Ky->L4.D)(P:List Ky):∀(Q:List Ky) (u:Ky->L4.D),vx (P.map yK) (P.map u) (Q.map yK) (Q.map v)=P.map (mx Q v u)
 |[],u=>by rw[dH,dH];unfold vx;exact fP λk _=>(ai b0).symm
 |q::Q,u=>by
  rw[aA,aA];unfold vx;rw[Gq,OH v P Q];refine fP λk _=>?_;unfold mx;by_cases m:k∈Q
  .rw[aj m,aj (aQ _ m)]
  .rw[ai m];show (if k=q then v k else u k)=_;by_cases e:k=q
   .rw[aj e,aj (by rw[e];exact aN)]
   .rw[ai e,ai λz=>(aK.1 z).elim e m]
def tK(k:Ky):L3.Dq:=.c3 [.str k.1,.str k.2]
def abV(k:Ky)(Q:List Ky):E' (kD k) (.b3 (Q.map kD))=Z (.O (decide (k∈Q))):=by
 have j:∀Q:List Ky,A4 (Q.map kD)=Z (Q.map tK):=λQ=>by
  induction Q with
  |nil=>rfl
  |cons q Q o=>rw[aA,aA];unfold A4;rw[o];rfl
 have f:∀q:Ky,kb (tK q)=1:=λq=>by unfold tK;rw[kb,vP,vP,vP];rfl
 have i:∀a b:Ky,k? (tK a) (tK b)=decide (a=b):=λa b=>by show (a.1==b.1&&(a.2==b.2&&γ))=_;rw[Bool.and_true,cX,aX,beq_iff_eq,beq_iff_eq,bQ];exact⟨λz=>qA z.1 z.2,λz=>by rw[z];exact⟨O,O⟩⟩
 show (match tp (kD k),A4 (Q.map kD)with|some d,Z l=>if decide (kb d<=20)&&l.all (λe=>decide (kb e<=20))then Z (D.O (l.any λe=>k? e d))else J|_,_=>J)=_;rw[j,show tp (kD k)=Z (tK k) from O];simp only;rw[f,aj (by rw[aX];exact⟨O,ba.2 λe c=>by obtain⟨q,_,rfl⟩:=av.1 c;rw[f];rfl⟩)];have:((Q.map tK).any λe=>k? e (tK k))=decide (k∈Q):=by
  rw[cX,dS,bQ];constructor
  .rintro⟨e,c,h⟩;obtain⟨q,m,rfl⟩:=av.1 c;rw[i,bQ]at h;rw[<-h];exact m
  .intro h;exact⟨tK k,bP h,by rw[i];exact bf O⟩
 rw[this]
def fl(P Q:List Ky):List Ky:=P.filter λk=>decide (k∈Q)
section
variable{P Q:List Ky}{v u:Ky->L4.D}
def Tt{ρ:aP}{s:FA}{c:Nat}(o:P.length<=900)(i:s ρ=Z (P.map λk=>.c3 [kD k,v k],ρ))(h:∀d:L4.D,gN 0 d (Du 1 [c] ρ)=Z [.E d,.E (.b3 (Q.map kD))])(f:xH [c] [.E (.b3 (Q.map kD))] ρ=Z ρ):
  xi (cL (ui 1 [c] s (gN 0) (cT (c2 E' (c2 eh aa aE) ah)) aa)) ρ=Z (sD (fl P Q) v,ρ):=by
 have e:=vm (xF (k:=1) (d4:=[c]) (g:=gN 0) (ft:=cT (c2 E' (c2 eh aa aE) ah)) (fe:=cV 0) (λk:Ky=>D.c3 [kD k,v k]) (λk=>D.c3 [kD k,v k]) (λk=>decide (k∈Q)) P (ρ1:=ρ) i (by omega) λk _=>by
  let a:aP:=[.E (.c3 [kD k,v k]),.E (.b3 (Q.map kD))];exact⟨a,a,h _,u4 (ua (x:=kD k) (y:=.b3 (Q.map kD)) (ρ1:=a) (ρ2:=a) O O (abV k Q)),λ_=>⟨_,O,f⟩,λ_=>f⟩)
 unfold xi;rw[e];rfl
def KY(a:P.length<=900):Cr [sD P v,.b3 (Q.map kD)]=Z (sD (fl P Q) v):=
 uc (ρ:=[.E (sD P v),.E (.b3 (Q.map kD))]) O (uf (Tt (P:=P) (ρ:=[.E (sD P v),.E (.b3 (Q.map kD))]) (c:=1) a O (λ_=>O) O))
def VQ{f:FE}{c a:aP}(h:f c=Z (sD Q v,a))(d:Q.Nodup)(i:Q.length<=900):zE f c=Z (.U (Q.map yK) (Q.map v),a):=by unfold zE;rw[h];show (match m1 (Q.map λk=>D.c3 [kD k,v k])with|some (b,e)=>if b.Nodup/\(Q.map λk=>D.c3 [kD k,v k]).length<=1000 then Z (D.U b e,a)else J|none=>J)=_;rw[ID];exact aj ⟨Tr d,by rw[aq];omega⟩
def aae{f f' f2:FE}{ρ:aP}{k:Ky}{z:L4.D}(h:f ρ=Z (sD Q v,ρ))(a:f' ρ=Z (kD k,ρ))(b:f2 ρ=Z (u k,ρ))(d:Q.Nodup)(c:Q.length<=900):tj (zE f) f' f2 ρ=Z (mx Q v u k,ρ):=by unfold tj;rw[VQ h d c];simp only[a];unfold kD;simp only[show zu [.str k.1,.str k.2]=Z (yK k) from O,b];rw[IE];unfold mx;split<;>rfl
end
section
variable{T:List Th}{M:List Mk}{dk:aH}{W:List Wy}{V:List Vb}{R:List L4.D}{c:L4.D}{P Q:List Ky}{u v:Ky->L4.D}
def P4(r:wB [wO T M dk W V R c]=Z (.b3 (P.map kD)))(p:uU [wO T M dk W V R c]=Z (sD P u))(e:P.Nodup)(A:P≠[])(C:P.length<=400)(hQ:Q.Sublist P):vN [wO T M dk W V R c,sD Q v]=Z (sD P (mx Q v u)):=by
 let w:=wO T M dk W V R c;have lQ:=hQ.length_le;let b:L4.D:=.U (P.map yK) (P.map (mx Q v u));let a:aP:=[.E w,.E (sD Q v),.E b];have h:P? 2 (tY uU bG) 1 [.E w,.E (sD Q v),.un]=Z (.nx a):=by
  have l:tY uU bG [.E w,.E (sD Q v),.un]=Z (sD P u,[.E w,.E (sD Q v),.un]):=tW (tV O O) p;unfold P?;rw[l];unfold sD;simp only[ID,ja,mZ];have o:((Q.map yK).all λk=>(P.map yK).any λj=>decide (j=k))=γ:=ba.2 λk d=>by obtain⟨q,t,rfl⟩:=av.1 d;exact dS.2 ⟨yK q,bP (hQ.subset t),bf O⟩
  rw[aj ⟨⟨Tr e,Tr (hQ.nodup e),λz=>A (List.map_eq_nil_iff.1 z),o⟩,by decide,bY (by decide) (aO 3),by rw[aq,aq];omega⟩,OH];rfl
 have i:cL (ui 1 [2] (iL (uo vv "parts" aa uI)) (gN 0) u6 (uO qU)) a=Z (.b3 (P.map λk=>.c3 [kD k,mx Q v u k]),a):=by refine vm (xl (λk:Ky=>kD k) (λk=>D.c3 [kD k,mx Q v u k]) P (ρ1:=a) (Dm (uA (m:="parts") (ns:=qi) (xs:=wA T M dk W V R c) (ys:=[]) O O O O r)) (by omega) λk d=>?_);let f:aP:=[.E (kD k),.E b];refine⟨f,f,O,Hh (tV O (tV (ua (x:=b) (y:=kD k) O O ?_) O)) (jh O),O⟩;show ij (P.map yK) (P.map (mx Q v u)) (yK k)=_;rw[IE,aj d]
 refine uc (ρ:=a) O ((tZ h).t (uf ?_));unfold xi;rw[i];rfl
end
def eq_self{d:L4.D}{x:L3.Dq}(a:Kk γ d d=J)(b:tp d=Z x)(c:QF x x=γ)(e:kb x<=20):eo γ d d=Z (.O δ):=by unfold eo;rw[a];simp only;unfold Q0;rw[b];simp only;rw[c,Lf,bf e];rfl
def OI(a:List Int)(k:Nat):∃c,uX [.R (a.map D.int),.int k]=Z (.int c):=by
 let b:aP:=[.E (.R (a.map D.int)),.E (.int k)];have d:cT (c2 MG ah (c1 xf aa)) b=Z (decide ((k:Int)<((a.map D.int).length:Nat)),b):=rfl;rw[aq]at d;by_cases h:k<a.length
 .rw[bf (by omega)]at d;refine⟨a[k],uc (ρ:=b) O (uu ((uE d).t (uf (ua (x:=.R (a.map D.int)) (y:=.int k) O O ?_))))⟩;exact AX (by rw[bD,aY h];rfl)
 .rw[bj (by omega)]at d;exact⟨0,uc (ρ:=b) O ((tZ ((uN d).t O)).t O)⟩
section
variable{T:List Th}{M:List Mk}{dk:aH}{W:List Wy}{m:Str->Int}
def mr0(g:e4 T M dk W)(h:∀x,(vI (M.map λm=>kS m.n) (M.map λm=>D.int m.st) (kS x)).getD (.int 0)=.int (m x)):Mr T M m:=λq a=>by
 have ndm:(M.map λm=>kS m.n).Nodup:=by have:=AE (bZ.1 g.nd).2.1;rw[aV]at this;exact this
 have e:=h q.1;rcases bb.1 a with a|a
 .obtain⟨t,c,rfl⟩:=av.1 a;rw[Ju λz=>by
   obtain⟨u,b,e⟩:=av.1 z;exact(bZ.1 g.nd).2.2 _ (bP (bc.1 c).1) _ (bP b) (Nc e).symm]at e
  injection e with e;rw[<-e];exact⟨iP _,(by decide:(0:Int)<=1)⟩
 .obtain⟨u,b,rfl⟩:=av.1 a;rw[AF ndm (d:=.int u.st) (by rw[iJ];exact av.2 ⟨u,b,O⟩)]at e;injection e with e;rw[<-e];have:=g.mo u b;exact⟨this.2.2.1,this.2.2.2⟩
end
def Fv(v:Ky->L4.D):Prop:=∀k,(∃x,v k=.str x)\/∃i,v k=.int i
def Wq(a:Str->Str)(m:Str->Int):Fv (va a m):=λk=>by
 unfold va;split
 .exact .inl ⟨_,O⟩
 .exact .inr ⟨_,O⟩
def abW{Q:List Ky}{v u:Ky->L4.D}(h:Fv v)(a:Fv u):Fv (mx Q v u):=λk=>by
 unfold mx;split
 .exact h k
 .exact a k
theorem OJ{v:Ky->L4.D}(a:Fv v):∀P:List Ky,∃l,A4 (P.map λk=>.c3 [kD k,v k])=Z l/\vP l<=2
 |[]=>⟨[],O,by decide⟩
 |k::P=>by
  obtain⟨l,e,h⟩:=OJ a P;obtain⟨z,d,f⟩:∃z,tp (v k)=Z z/\kb z=0:=by
   rcases a k with ⟨x,h⟩|⟨x,h⟩<;>rw[h]
   .exact⟨.str x,O,O⟩
   .exact⟨.int x,O,O⟩
  have b:tp (.c3 [kD k,v k])=Z (.c3 [tK k,z]):=by
   unfold tp;have:A4 [kD k,v k]=Z [tK k,z]:=by unfold A4;rw[show tp (kD k)=Z (tK k) from O];unfold A4;rw[d];rfl
   rw[this]
  refine⟨_::l,by rw[aA];unfold A4;rw[b,e],?_⟩;have c:kb (tK k)=1:=by unfold tK;rw[kb,vP,vP,vP];rfl
  rw[vP,kb,vP,vP,vP,f,c];omega
def GK{v:Ky->L4.D}(a:Fv v)(P:List Ky):eo γ (sD P v) (sD P v)=Z (.O δ):=by obtain⟨l,e,h⟩:=OJ a P;refine eq_self (x:=.c3 l) O (by unfold sD tp;rw[e]) O ?_;rw[kb];omega
def Wr{P:List Ky}{v u:Ky->L4.D}(h:∀k∈P,v k=u k):sD P v=sD P u:=by unfold sD;rw[fP λk a=>by rw[h k a]]
def zi:Nat->List Ky->List (Nat×Ky)
 |_,[]=>[]
 |n,k::P=>(n,k)::zi (n+1) P
theorem Tu:∀(P:List Ky) (n:Nat),L? n (P.map kD)=(zi n P).map λz=>D.c3 [.int (z.1:Nat),kD z.2]
 |[],_=>rfl
 |k::P,n=>by rw[aA,L?,Tu P (n+1)];rfl
theorem Tv:∀(P:List Ky) (n:Nat),(zi n P).length=P.length
 |[],_=>rfl
 |k::P,n=>by rw[zi,aS,aS,Tv P]
def lB:FS:=(bt (uD 3 (c2 eh (tY Fe qP) aU))
 (bt (uD 5 (cL (ui 2 [4,0] (iE (uo vv "parts" ah uI)) (gT gu 2) (cT (c2 (eo δ) (c2 ub (c2 rm (c2 vL (tY uX ie) ak) aa) aU) aU)) ah)))
 (bt (uD 6 (tY Cr qX))
 (bt (fc (cT (c2 (eo γ) br (xi (cL (ui 1 [5] (iT aw) (gN 0) (cT (c2 E' (c2 eh aa aE) ah)) aa))))) (ue bJ) uk)
 (bt (xG 7 (uM uI))
 (bt (xx (iT (tY uU bu)) (gT jU 2) (uH (yc 7 (uO j3))))
 (bt (fc (He (cT (c2 (eo γ) (tY vN j7) (xi bH)))) (ue bJ) uk)
 (fc (xg (cT (c2 (eo γ) (tY vN mq) aw)) (cT (c2 (eo γ) (tY vN my) (tY uU bu)))) (ue bJ) uk))))))))
section
variable{T:List Th}{M:List Mk}{dk:aH}{W:List Wy}{V:List Vb}{R:List L4.D}{c:L4.D}{P:List Ky}{a:Str->Str}{m:Str->Int}
def Tw(s:I? T M dk W P a):∃p:Str->Bool,∀x∈p8 T,wC [wO T M dk W V R c,sD P (va a m),.str x]=Z (.O (p x)):=by
 have h:∀x:Str,∃b:Bool,x∈p8 T->wC [wO T M dk W V R c,sD P (va a m),.str x]=Z (.O b):=λx=>by
  by_cases d:x∈p8 T
  .obtain⟨t,f,rfl⟩:=av.1 d;obtain⟨b,e⟩:=OC (V:=V) (R:=R) (c:=c) (m:=m) s (bc.1 f).1;exact⟨b,λ_=>e⟩
  .exact⟨δ,λz=>ao z d⟩
 exact⟨λx=>(h x).choose,λx=>(h x).choose_spec⟩
def VR(B:wB [wO T M dk W v6 R c]=Z (.b3 (P.map kD)))(F:P.length<=400){ns:List Int}{c1 z:Int}(t:uX [.R (ns.map D.int),.int 1]=Z (.int c1))(h i j l o q r:Sl):
  ∃Q:List Ky,cL (ui 2 [4,0] (iE (uo vv "parts" ah uI)) (gT gu 2) (cT (c2 (eo δ) (c2 ub (c2 rm (c2 vL (tY uX ie) ak) aa) aU) aU)) ah) [.E (.R (ns.map D.int)),.E (wO T M dk W v6 R c),h,i,.E (.int z),j,l,o,q,r]=Z (.b3 (Q.map kD),[.E (.R (ns.map D.int)),.E (wO T M dk W v6 R c),h,i,.E (.int z),j,l,o,q,r]):=by
 let f:aP:=[.E (.R (ns.map D.int)),.E (wO T M dk W v6 R c),h,i,.E (.int z),j,l,o,q,r];let p:Nat×Ky->Bool:=λy=>decide (f7 ((c1+z) / 2 ^ ((y.1:Nat):Int).toNat) 1=1);have C:iE (uo vv "parts" ah uI) f=Z ((zi 0 P).map λz=>D.c3 [.int (z.1:Nat),kD z.2],f):=by unfold iE;rw[uA (g:=vv) (e:=cV 1) (a:=uI) (ρ:=f) (ρ1:=f) (ρ2:=f) (m:="parts") (ns:=qi) (xs:=wA T M dk W v6 R c) (ys:=[]) O O O O B];simp only;rw[Tu]
 refine⟨((zi 0 P).filter p).map bO,(vm (xF (λz:Nat×Ky=>D.c3 [.int (z.1:Nat),kD z.2]) (λz=>kD z.2) p (zi 0 P) (ρ1:=f) C (by rw[Tv];omega) λy _=>?_)).t (by rw[aV];rfl)⟩;let b:aP:=[.E (.int (y.1:Nat)),.E (kD y.2),.E (.int z),.E (.R (ns.map D.int))];refine⟨b,b,O,?_,λ_=>⟨_,O,O⟩,λ_=>O⟩;have u:c2 vL (tY uX ie) ak b=Z (.int (c1+z),b):=ua (x:=.int c1) (y:=.int z) (ρ1:=b) (tW (tV O (tV O O)) t) O O;have w:c2 rm (c2 vL (tY uX ie) ak) aa b=Z (.int ((c1+z) / 2 ^ ((y.1:Nat):Int).toNat),b):=ua (x:=.int (c1+z)) (y:=.int (y.1:Nat)) (ρ1:=b) u O (by
  show (if decide ((0:Int)<=((y.1:Nat):Int))=γ then Z (D.int ((c1+z) / 2 ^ ((y.1:Nat):Int).toNat))else J)=_;rw[aj (bf (nZ _))])
 have A:c2 ub (c2 rm (c2 vL (tY uX ie) ak) aa) aU b=Z (.int (f7 ((c1+z) / 2 ^ ((y.1:Nat):Int).toNat) 1),b):=ua (x:=.int ((c1+z) / 2 ^ ((y.1:Nat):Int).toNat)) (y:=.int 1) (ρ1:=b) w O O;exact qzI _ 1 A
theorem Mi{w cs st cell pts:L4.D}{S0:Sl}{Q:List Ky}{v u:Ky->L4.D}(p:Q.Nodup)(hQ:Q.length<=900):∀(l:List Ky) (acc:List L4.D) (b d:Sl),acc.length+l.length<=900->∃j o,fh (gT jU 2) (uH (yc 7 (uO j3))) (l.map λk=>.c3 [kD k,u k]) [S0,.E w,.E cs,.E st,.E cell,.E pts,.E (sD Q v),.ls acc,b,d]=Z (.nx [S0,.E w,.E cs,.E st,.E cell,.E pts,.E (sD Q v),.ls (acc++l.map λk=>.c3 [kD k,mx Q v u k]),j,o])
 |[],acc,b,d,_=>⟨b,d,by rw[dH,dH,bR];rfl⟩
 |k::l,acc,b,d,h=>by rw[aS]at h;let i:Sl->aP:=λa=>[S0,.E w,.E cs,.E st,.E cell,.E pts,.E (sD Q v),a,.E (kD k),.E (u k)];have r:=aae (f:=cV 6) (f':=cV 8) (f2:=cV 9) (ρ:=i (.ls acc)) (k:=k) (v:=v) (u:=u) (z:=.I) O O O p hQ;have q:uH (yc 7 (uO j3)) (i (.ls acc))=Z (.nx (i (.ls (acc++[.c3 [kD k,mx Q v u k]])))):=(ve (A6 (es0:=acc) (es:=acc) O (Hh (tV O (tV r O)) (jh O)) O (by omega))).t O;obtain⟨j,o,e⟩:=Mi (S0:=S0) (w:=w) (cs:=cs) (st:=st) (cell:=cell) (pts:=pts) (v:=v) (u:=u) p hQ l (acc++[.c3 [kD k,mx Q v u k]]) (.E (kD k)) (.E (u k)) (by rw[aR];show acc.length+1+l.length<=900;omega);refine⟨j,o,?_⟩;rw[aA,aA];unfold fh;rw[show gT jU 2 (.c3 [kD k,u k]) [S0,.E w,.E cs,.E st,.E cell,.E pts,.E (sD Q v),.ls acc,b,d]=Z (i (.ls acc)) from O];simp only[q];rw[e,cc];rfl
def aaf(P:List Ky):fl P []=[]:=ky.2 λk _=>by simp
def aag(P:List Ky):fl P P=P:=jn.2 λk b=>bf b
def VS(s:I? T M dk W P a)(mr:Mr T M m){a0:Str->Str}{m0:Str->Int}(hp:wB [wO T M dk W v6 R c]=Z (.b3 (P.map kD)))(hf:uU [wO T M dk W v6 R c]=Z (sD P (va a0 m0)))(nd:P.Nodup)(n1:P≠[])(hl:P.length<=400)(ht:Try T M dk W v6 R c)(hR:∀r∈R,RuS T M v6 r)(cs:List L4.D)(hcs:cs=cmA (p8 T) (Xi W) ((v6++v9).map nf))(n0:cs≠[]){ns:List Int}{c1:Int}(e1:uX [.R (ns.map D.int),.int 1]=Z (.int c1))(z:Int)(s5 s6 U C E:Sl):
  ∃l B t5 t6 t7 t8 t9,b? T l/\Mr T M B/\lB [.E (.R (ns.map D.int)),.E (wO T M dk W v6 R c),.E (.b3 cs),.E (sD P (va a m)),.E (.int z),s5,s6,U,C,E]=Z (.nx [.E (.R (ns.map D.int)),.E (wO T M dk W v6 R c),.E (.b3 cs),.E (sD P (va l B)),.E (.int z),t5,t6,t7,t8,t9]):=by
 let w:=wO T M dk W v6 R c;let S:=sD P (va a m);obtain⟨q,hq,eq⟩:=Cw id n0 z;rw[fF]at eq;rw[hcs]at hq;obtain⟨v,hv,x,y,rfl,hc⟩:=abQ (λv hv=>v_fm hv) hq;obtain⟨p,hpp⟩:=Tw (V:=v6) (R:=R) (c:=c) (m:=m) s;obtain⟨o,ho,es⟩:=Tc s mr On ht hR hv hc hpp;obtain⟨k,tx,l,B,e0,i',X⟩:∃k tx l B,Fe [w,S,q3 v.n x y]=Z (Cv k tx (sD P (va l B)))/\b? T l/\Mr T M B:=by
  cases hf:fU (thO v x y) p with
  |some z=>rw[hf]at es;exact⟨"unseen", z,a,m,es,s.i,mr⟩
  |none=>rw[hf]at es;obtain⟨k,tx,l,B,rfl,hk,i',X⟩:=ho;exact⟨k,tx,l,B,es,i',X⟩
 let f:=va l B;let G:=va a0 m0;let j:=sD P f;let S0:Sl:=.E (.R (ns.map D.int));let H:L4.D->Sl->Sl->Sl->Sl->Sl->aP:=λSt x y t b d=>[S0,.E w,.E (.b3 cs),.E St,.E (.int z),x,y,t,b,d];obtain⟨Q,eQ⟩:=VR hp hl e1 (z:=z) (.E (.b3 cs)) (.E j) s5 s6 U C E;let A:Sl:=.E (.b3 (Q.map kD));let N:=fl P Q;have nN:N.Nodup:=fi.nodup nd;have lN:N.length<=400:=bM (cU _ _) hl;let F:L4.D:=sD N f;have w1:=Wq l B;have w0:=Wq a0 m0;obtain⟨t8,t9,eL⟩:=Mi (S0:=S0) (w:=w) (cs:=.b3 cs) (st:=j) (cell:=.int z) (pts:=.b3 (Q.map kD)) (v:=f) (u:=G) nN (by omega) P [] C E (by show 0+_<=900;omega);let dd:List L4.D:=P.map λk=>.c3 [kD k,mx N f G k];refine⟨l,B,A,.E F,.ls dd,t8,t9,i',X,?_⟩;unfold lB;refine(tZ (ρ':=H j s5 s6 U C E) ((uq (ua (x:=Cv k tx j) (y:=.int 1) (tW (tV O (tV O (tV (ua (x:=.b3 cs) (ρ1:=H S s5 s6 U C E) O (ua (x:=.int z) O (uQ (x:=.b3 cs) O (show xf (.b3 cs)=Z (.int cs.length) from O)) (uV (by have:=jo.2 n0;omega))) (show eh (.b3 cs) (.int (z % cs.length))=Z (q3 v.n x y) from eq)) O))) e0) O O)).t O)).t ?_;refine(tZ (ρ':=H j A s6 U C E) ((uq eQ).t O)).t ?_;refine(tZ (ρ':=H j A (.E F) U C E) ((uq (tW (tV O (tV O O)) (KY (P:=P) (Q:=Q) (v:=f) (by omega)))).t O)).t ?_;have eF:xi (cL (ui 1 [5] (iT aw) (gN 0) (cT (c2 E' (c2 eh aa aE) ah)) aa)) (H j A (.E F) U C E)=Z (F,H j A (.E F) U C E):=Tt (P:=P) (Q:=Q) (v:=f) (c:=5) (by omega) O (λ_=>O) O;refine(y7 (b:=δ) (u4 (ua (x:=F) (y:=F) O eF (GK w1 N))) O).t ?_;refine(tZ (ρ':=H j A (.E F) (.ls []) C E) O).t ?_;refine(tZ (ρ':=H j A (.E F) (.ls dd) t8 t9) ((vz (ds:=P.map λk=>.c3 [kD k,G k]) (ρ1:=H j A (.E F) (.ls []) C E) (S9 (tW (tV O O) hf))).t (eL.t O))).t ?_;have lf:∀{N':List Ky},N'.Sublist P->vN [w,sD N' f]=Z (sD P (mx N' f G)):=λh=>P4 hp hf nd n1 hl h;let e:=H j A (.E F) (.ls dd) t8 t9;have e7:He (cT (c2 (eo γ) (tY vN j7) (xi bH))) e=Z (δ,e):=by have z1:cT (c2 (eo γ) (tY vN j7) (xi bH)) (e.map Sl.bor)=Z (δ,e.map Sl.bor):=u4 (ua (x:=sD P (mx N f G)) (y:=sD P (mx N f G)) (tW (tV O (tV O O)) (lf fi)) O (GK (abW w1 w0) P));unfold He;rw[z1]
 refine(y7 (b:=δ) e7 O).t ?_;have e8:cT (c2 (eo γ) (tY vN mq) aw) e=Z (δ,e):=by have h1:Cr [j,.b3 (P.map kD)]=Z (sD P f):=(KY (P:=P) (Q:=P) (v:=f) (by omega)).t (by rw[aag]);have h2:vN [w,sD P f]=Z j:=(lf (kU P)).t (bp Z (Wr (v:=mx P f G) λk hk=>aj hk));exact u4 (ua (x:=j) (y:=j) (ρ1:=e) (tW (tV O (tV (tW (tV O (tV (uA (m:="parts") (ns:=qi) (xs:=wA T M dk W v6 R c) (ys:=[]) O O O O hp) O)) h1) O)) h2) O (GK w1 P))
 have e9:cT (c2 (eo γ) (tY vN my) (tY uU bu)) e=Z (δ,e):=by have h1:Cr [j,.b3 (([]:List Ky).map kD)]=Z (sD [] f):=(KY (P:=P) (Q:=[]) (v:=f) (by omega)).t (by rw[aaf]);have h2:vN [w,sD [] f]=Z (sD P G):=(lf (List.nil_sublist P)).t (bp Z (Wr (v:=mx [] f G) λk _=>ai b0));exact u4 (ua (x:=sD P G) (y:=sD P G) (ρ1:=e) (tW (tV O (tV (tW (tV O (tV O O)) h1) O)) h2) (tW (tV O O) hf) (GK w0 P))
 exact(uN (yQ e8 e9)).t O
end
def abX{T:List Th}{M:List Mk}{c:aH}{W:List Wy}(g:e4 T M c W):(PT T M).Nodup:=by
 unfold PT;have h:(xo T).Nodup:=(fi.map Th.n).nodup g.Dv;have mk:(si T M).Nodup:=by unfold si;exact((fi.map Th.n).append (kU _)).nodup g.nd
 refine bZ.2 ⟨iC.2 (h.imp λn e=>n (bp bO e)),iC.2 (mk.imp λn e=>n (bp bO e)),λx d y f e=>?_⟩;obtain⟨a,_,rfl⟩:=av.1 d;obtain⟨b,_,rfl⟩:=av.1 f;have:("at" : Str)="mark" := bp eB e;exact ao this (by decide)
def aah(o:List Int)(hl:o.length<=63):Wf [.R (o.map D.int)]=Z (.O γ):=by
 obtain⟨c0,e0⟩:=OI o 0;obtain⟨z1,e1⟩:=OI o 1;obtain⟨T,M,dk,W,R,c,ew,g,hR,ht⟩:=Tp c0;obtain⟨P,m,p,hp,hm,N⟩:=SQ (V:=v6) (R:=R) (c:=c) g;have G:=mr0 g hm;have pl:=KO g;have lP:P.length<=400:=by rw[p.length_eq];omega
 have n1:P≠[]:=λz=>by have:=p.length_eq;rw[z]at this;have h:0=(PT T M).length:=this;omega
 have ndP:P.Nodup:=p.nodup_iff.2 (abX g);let w:=wO T M dk W v6 R c;let cs:List L4.D:=cmA (p8 T) (Xi W) ((v6++v9).map nf);have xc:Bo [w]=Z cs:=L1 g (λ_ h=>h) (by decide);have n0:cs≠[]:=λz=>by
  have:q3 "wait" J J∈cs:=by refine eM.2 ⟨("wait", "alone"),av.2 ⟨⟨"wait", [],"alone", J⟩,bE _ (by simp[v9]),O⟩,?_⟩;unfold cmV obF;rw[aj O];exact av.2 ⟨(.I,.I),aW.2 O,O⟩
  rw[z]at this;cases this
 let C:Sl:=.E (.R (o.map D.int));let q:L4.D->Sl->Sl->Sl->Sl->Sl->Sl->aP:=λSt a b d e f h=>[C,.E w,.E (.b3 cs),.E St,a,b,d,e,f,h];have loop:∀(l:List Int) (a:Str->Str) (A:Str->Int) (B r t u x y:Sl),b? T a->Mr T M A->∃j,fh (gN 4) lB (l.map D.int) (q (sD P (va a A)) B r t u x y)=Z (.nx j):=by
  intro l
  induction l with
  |nil=>exact λa m B r t u x y _ _=>⟨_,O⟩
  |cons z l ih=>intro a A B r t u x y i G;obtain⟨I,m2,Q,S,U,X,Y,i',H,ev⟩:=VS ⟨g,p,i⟩ G hp N ndP n1 lP ht hR cs O n0 e1 z r t u x y;obtain⟨j,h⟩:=ih I m2 (.E (.int z)) Q S U X Y i' H;refine⟨j,?_⟩;rw[aA];unfold fh;rw[show gN 4 (.int z) (q (sD P (va a A)) B r t u x y)=Z (q (sD P (va a A)) (.E (.int z)) r t u x y) from O];have E:lB (q (sD P (va a A)) (.E (.int z)) r t u x y)=Z (.nx (q (sD P (va I m2)) (.E (.int z)) Q S U X Y)):=ev;simp only[E];exact h
 let F:List Int:=(o.drop (HT.y? o.length 0 (Z 2))).take (HT.y? o.length o.length (Z 22) - HT.y? o.length 0 (Z 2));have el:oz (o.map D.int) (Z 2) (Z 22)=F.map D.int:=by unfold oz;rw[aq,<- lI,<- lK]
 obtain⟨j,e⟩:=loop F (ν T) m .un .un .un .un .un .un (inv0 g) G;refine uc (ρ:=j) O ?_;unfold Oj;refine(tZ (ρ':=[C,.E w,.un,.un,.un,.un,.un,.un,.un,.un]) ((uq (tW (tV (tW (tV O (tV O O)) e0) O) ew)).t O)).t ?_;refine(tZ (ρ':=[C,.E w,.E (.b3 cs),.un,.un,.un,.un,.un,.un,.un]) ((uq (vm (tW (tV O O) xc))).t O)).t ?_;refine(tZ (ρ':=q (sD P (va (ν T) m)) .un .un .un .un .un .un) ((uq (tW (tV O O) N)).t O)).t ?_;refine(tZ ((vz (ds:=F.map D.int) (ρ1:=q (sD P (va (ν T) m)) .un .un .un .un .un .un) ?_).t e)).t O;exact(show _=Z (oz (o.map D.int) (Z 2) (Z 22),q (sD P (va (ν T) m)) .un .un .un .un .un .un) from O).t (by rw[el])
end K63x
namespace K63x
open PySem L2 L3 L4
open PySem.W (nsIn)
structure Fx(K:au)(C0 C1 C2 C3 C4 C5 C6 C7 C8 C9 C10 C11 C12 C13 C14 C15:Addr):Prop where
 a0:nsIn K aZ "Thing" = Z (Z (.ref C0))
 a1:nsIn K aZ "Mark" = Z (Z (.ref C1))
 a2:nsIn K aZ "Verb" = Z (Z (.ref C2))
 a3:nsIn K aZ "At" = Z (Z (.ref C3))
 a4:nsIn K aZ "Has" = Z (Z (.ref C4))
 a5:nsIn K aZ "Seen" = Z (Z (.ref C5))
 a6:nsIn K aZ "Marked" = Z (Z (.ref C6))
 a7:nsIn K aZ "Kind" = Z (Z (.ref C7))
 a8:nsIn K aZ "Word" = Z (Z (.ref C8))
 a9:nsIn K aZ "Not" = Z (Z (.ref C9))
 a10:nsIn K aZ "Both" = Z (Z (.ref C10))
 a11:nsIn K aZ "Move" = Z (Z (.ref C11))
 a12:nsIn K aZ "Put" = Z (Z (.ref C12))
 a13:nsIn K aZ "Rule" = Z (Z (.ref C13))
 a14:nsIn K aZ "World" = Z (Z (.ref C14))
 a15:nsIn K aZ "Lit" = Z (Z (.ref C15))
 k0:CF K C0 ["kind", "name", "start", "words"]
 k1:CF K C1 ["most", "name", "start"]
 k2:CF K C2 ["form", "joining", "name", "others"]
 k3:CF K C3 ["place", "term"]
 k4:CF K C4 ["term"]
 k5:CF K C5 ["term"]
 k6:CF K C6 ["term", "value"]
 k7:CF K C7 ["kind", "term"]
 k8:CF K C8 ["word"]
 k9:CF K C9 ["inner"]
 C?:CF K C10 ["one", "other"]
 Hs:CF K C11 ["place", "term"]
 H4:CF K C12 ["term", "value"]
 C':CF K C13 ["deeds", "refuses", "tests", "text", "verb"]
 lb:CF K C14 ["copied_rules", "kept_dark", "kept_marks", "kept_things", "kept_verbs", "kept_ways", "mosts_by_name", "rules_by_verb", "shared_rules", "shared_verbs", "things_by_name", "verbs_by_word", "your_name", "kept_rules"]
 M':CF K C15 []
 i_At:vU K [C0,C1,C2,C3,C4,C5,C6,C7,C8,C9,C10,C11,C12,C13,C14,C15] C3 3=γ
 i_Both:vU K [C0,C1,C2,C3,C4,C5,C6,C7,C8,C9,C10,C11,C12,C13,C14,C15] C10 10=γ
 i_Has:vU K [C0,C1,C2,C3,C4,C5,C6,C7,C8,C9,C10,C11,C12,C13,C14,C15] C4 4=γ
 i_Kind:vU K [C0,C1,C2,C3,C4,C5,C6,C7,C8,C9,C10,C11,C12,C13,C14,C15] C7 7=γ
 i_Lit:vU K [C0,C1,C2,C3,C4,C5,C6,C7,C8,C9,C10,C11,C12,C13,C14,C15] C15 15=γ
 i_Mark:vU K [C0,C1,C2,C3,C4,C5,C6,C7,C8,C9,C10,C11,C12,C13,C14,C15] C1 1=γ
 i_Marked:vU K [C0,C1,C2,C3,C4,C5,C6,C7,C8,C9,C10,C11,C12,C13,C14,C15] C6 6=γ
 i_Move:vU K [C0,C1,C2,C3,C4,C5,C6,C7,C8,C9,C10,C11,C12,C13,C14,C15] C11 11=γ
 i_Not:vU K [C0,C1,C2,C3,C4,C5,C6,C7,C8,C9,C10,C11,C12,C13,C14,C15] C9 9=γ
 i_Put:vU K [C0,C1,C2,C3,C4,C5,C6,C7,C8,C9,C10,C11,C12,C13,C14,C15] C12 12=γ
 i_Rule:vU K [C0,C1,C2,C3,C4,C5,C6,C7,C8,C9,C10,C11,C12,C13,C14,C15] C13 13=γ
 i_Seen:vU K [C0,C1,C2,C3,C4,C5,C6,C7,C8,C9,C10,C11,C12,C13,C14,C15] C5 5=γ
 i_Thing:vU K [C0,C1,C2,C3,C4,C5,C6,C7,C8,C9,C10,C11,C12,C13,C14,C15] C0 0=γ
 i_Verb:vU K [C0,C1,C2,C3,C4,C5,C6,C7,C8,C9,C10,C11,C12,C13,C14,C15] C2 2=γ
 i_Word:vU K [C0,C1,C2,C3,C4,C5,C6,C7,C8,C9,C10,C11,C12,C13,C14,C15] C8 8=γ
 n_Lit:cP K (.ref C15) "__init__" = Z (Z (.builtin "object.__init__"))
 nd:decide ([C0,C1,C2,C3,C4,C5,C6,C7,C8,C9,C10,C11,C12,C13,C14,C15]:List Addr).Nodup=γ
 kn:kN K=γ
 e:((["all", "any", "bool", "dict", "enumerate", "int", "isinstance", "len", "list", "range", "set", "sorted", "str", "tuple"]:aH).all λx=>match nsIn K aZ x with|some J=>γ|_=>δ)=γ
 g0:GX K "CANNOT_BE" "That cannot be."
 g1:GS K "FORMS" ["alone", "one", "two", "way"]
 g2:GS K "KINDS" ["room", "plain", "fixed", "box", "lamp", "you"]
 g3:GS K "KINDS_APART" ["room", "you"]
 g4:GS K "KINDS_THAT_HOLD" ["room", "box", "you"]
 g5:GS K "KINDS_WITH_MARK" ["box", "lamp"]
 g6:GC K "MOST_BESIDE" 7
 g7:GC K "MOST_BY_COMMAND" 3
 g8:GC K "MOST_DEEDS" 4
 g9:GC K "MOST_DEEP" 4
 g10:GC K "MOST_IN_NAME" 8
 g11:GC K "MOST_IN_WORD" 12
 g12:GC K "MOST_MARKS" 4
 g13:GC K "MOST_OF_MARK" 3
 g14:GC K "MOST_ROOMS" 5
 g15:GC K "MOST_RULES" 20
 g16:GC K "MOST_SIGNS" 60
 g17:GC K "MOST_TESTS" 5
 g18:GC K "MOST_VERBS" 6
 g19:GC K "MOST_WAYS" 10
 g20:GC K "MOST_WORDS" 4
 g21:GX K "NOTHING_COMES" "Nothing comes of it."
 g22:GS K "NO_NAMES" ["it", "other", "here", "the", "a", "undo", "restart"]
 g23:GS K "NO_WORDS" ["the", "a"]
 g24:GS K "NO_WORDS_OF_ROWS" ["the", "a", "undo", "restart"]
 q25:GD K "is_small_letters" (top 6)
 q26:GD K "is_name" (top 7)
 q27:GD K "is_word" (top 8)
 q28:GD K "is_one_of" (top 10)
 q29:GD K "is_whole" (top 11)
 q30:GD K "is_list_up_to" (top 12)
 q31:GD K "own_list" (top 72)
 q32:GJ K C0 "Thing.__init__" (cb (top 62) 0) [V.I]
 q33:GM K C1 "__init__" "Mark.__init__" (cb (top 63) 0)
 q34:GJ K C2 "Verb.__init__" (cb (top 64) 0) [V.I,(V.str "one"),V.I]
 q35:GM K C3 "__init__" "At.__init__" (cb (top 32) 0)
 q36:GM K C4 "__init__" "Has.__init__" (cb (top 33) 0)
 q37:GM K C5 "__init__" "Seen.__init__" (cb (top 34) 0)
 q38:GM K C6 "__init__" "Marked.__init__" (cb (top 35) 0)
 q39:GM K C7 "__init__" "Kind.__init__" (cb (top 36) 0)
 q40:GM K C8 "__init__" "Word.__init__" (cb (top 37) 0)
 q41:GM K C9 "__init__" "Not.__init__" (cb (top 39) 0)
 q42:GM K C10 "__init__" "Both.__init__" (cb (top 40) 0)
 q43:GM K C11 "__init__" "Move.__init__" (cb (top 52) 0)
 q44:GM K C12 "__init__" "Put.__init__" (cb (top 53) 0)
 q45:GJ K C13 "Rule.__init__" (cb (top 71) 0) [(V.O δ)]
 q46:GM K C0 "can_hold" "Thing.can_hold" (cb (top 62) 1)
 q47:GM K C0 "has_mark" "Thing.has_mark" (cb (top 62) 2)
 q48:GM K C0 "is_plainly" "Thing.is_plainly" (cb (top 62) 3)
 q49:GD K "refuse_unless" (top 117)
 q50:GD K "count_of" (top 120)
 q51:GD K "plain_ones" (top 121)
 q52:GD K "is_mark" (top 123)
 q53:GD K "check_things" (top 119)
 q54:GD K "check_marks" (top 122)
 q55:GD K "are_unlike" (top 125)
 q56:GD K "check_names" (top 124)
 q57:GD K "mark_names" (top 126)
 q58:GD K "is_start" (top 128)
 q59:GD K "comes_to_room" (top 129)
 q60:GD K "check_starts" (top 127)
 q61:GD K "are_words" (top 131)
 q62:GD K "has_all" (top 133)
 q63:GD K "is_told_apart" (top 132)
 q64:GD K "check_words_of_things" (top 130)
 q65:GD K "check_dark" (top 134)
 q66:GD K "is_way" (top 136)
 q67:GD K "check_ways" (top 135)
 q68:GD K "is_verb" (top 138)
 q69:GD K "check_verbs" (top 137)
 q70:GD K "are_apart" (top 140)
 q71:GD K "check_vocabulary" (top 139)
 q72:GD K "check_parts" (top 118)
 q73:GD K "does" (top 144)
 q74:GD K "refuses" (top 145)
 q75:GD K "hand_rules" (top 146)
 q76:GD K "put_rules" (top 147)
 q77:GD K "lid_rules" (top 148)
 q78:GD K "flame_rules" (top 149)
 q79:GD K "way_tests" (top 151)
 q80:GD K "go_rules" (top 150)
 q81:GD K "wait_rules" (top 152)
 q82:GD K "common_rules" (top 143)
 q83:GD K "common_verbs" (top 142)
 q84:GD K "by_name" (top 156)
 q85:GD K "mosts_by_name" (top 157)
 q86:GD K "verbs_by_word" (top 158)
 q87:GD K "by_verb" (top 159)
 q88:GM K C14 "of_kind" "World.of_kind" (cb (top 155) 3)
 q89:GM K C14 "all_verbs" "World.all_verbs" (cb (top 155) 13)
 q90:GD K "is_same_text" (top 9)
 q91:GD K "copy_of" (top 73)
 q92:GM K C14 "thing_of" "World.thing_of" (cb (top 155) 2)
 q93:GM K C14 "most_of" "World.most_of" (cb (top 155) 6)
 q94:GM K C14 "verb_of" "World.verb_of" (cb (top 155) 14)
 q95:GM K C14 "you" "World.you" (cb (top 155) 4)
 q96:GD K "is_by_command" (top 84)
 q97:GD K "is_here" (top 85)
 q98:GD K "named" (top 86)
 q99:GD K "is_of_kind" (top 87)
 q100:GD K "is_term" (top 88)
 q101:GD K "is_place" (top 89)
 q102:GD K "is_moved" (top 90)
 q103:GD K "is_mark_value" (top 91)
 q104:GD K "is_move" (top 83)
 q105:GD K "is_said" (top 76)
 q106:GD K "is_verb_name" (top 75)
 q107:GD K "does_or_refuses" (top 77)
 q108:GD K "is_plain_test" (top 81)
 q109:GD K "is_test" (top 80)
 q110:GD K "is_deed" (top 82)
 q111:GD K "are_tests" (top 78)
 q112:GD K "are_deeds" (top 79)
 q113:GD K "is_rule" (top 74)
 q114:GM K C14 "__init__" "World.__init__" (cb (top 155) 0)
 q115:GM K C14 "is_dark" "World.is_dark" (cb (top 155) 5)
 q116:GM K C14 "own_marks" "World.own_marks" (cb (top 155) 7)
 q117:GM K C14 "names" "World.names" (cb (top 155) 1)
 q118:GM K C14 "way_words" "World.way_words" (cb (top 155) 12)
 q119:GM K C14 "rules_to_try" "World.rules_to_try" (cb (top 155) 16)
 q120:GM K C14 "parts" "World.parts" (cb (top 155) 18)
 q121:GD K "own_starts" (top 15)
 q122:GD K "first_value" (top 16)
 q123:GD K "first_stand" (top 14)
 q124:GD K "value_of" (top 17)
 q125:GD K "at_of" (top 18)
 q126:GD K "mark_of" (top 19)
 q127:GD K "with_part" (top 20)
 q128:GD K "holders_of" (top 22)
 q129:GD K "room_of" (top 23)
 q130:GD K "has" (top 26)
 q131:GD K "is_shut" (top 25)
 q132:GD K "in_open" (top 24)
 q133:GD K "burns_in" (top 28)
 q134:GD K "is_lit" (top 27)
 q135:GD K "is_seen" (top 29)
 q136:GD K "is_of_way" (top 41)
 q137:GD K "things_of" (top 42)
 q138:GD K "meant" (top 43)
 q139:GD K "at_parts" (top 44)
 q140:GD K "mark_parts" (top 45)
 q141:GD K "can_go" (top 54)
 q142:GD K "can_show" (top 55)
 q143:GM K C3 "holds" "At.holds" (cb (top 32) 1)
 q144:GM K C4 "holds" "Has.holds" (cb (top 33) 1)
 q145:GM K C5 "holds" "Seen.holds" (cb (top 34) 1)
 q146:GM K C6 "holds" "Marked.holds" (cb (top 35) 1)
 q147:GM K C7 "holds" "Kind.holds" (cb (top 36) 1)
 q148:GM K C8 "holds" "Word.holds" (cb (top 37) 1)
 q149:GM K C15 "holds" "Lit.holds" (cb (top 38) 0)
 q150:GM K C9 "holds" "Not.holds" (cb (top 39) 1)
 q151:GM K C10 "holds" "Both.holds" (cb (top 40) 1)
 q152:GM K C11 "done" "Move.done" (cb (top 52) 1)
 q153:GM K C12 "done" "Put.done" (cb (top 53) 1)
 q154:GD K "is_object" (top 100)
 q155:GD K "fits_form" (top 99)
 q156:GD K "is_command" (top 98)
 q157:GD K "check_command" (top 97)
 q158:GD K "fits" (top 103)
 q159:GD K "outcome" (top 104)
 q160:GD K "answered" (top 102)
 q161:GD K "step" (top 101)
 q162:GD K "objects_of" (top 96)
 q163:GD K "commands" (top 95)
 q164:GD K "fold" (top 106)
 q165:GD K "lifted" (top 107)
 q166:GD K "_law_cell_at" (top 161)
 q167:GD K "_law_draws" (top 162)
 q168:GD K "_law_things" (top 163)
 q169:GD K "_law_term" (top 164)
 q170:GD K "_law_test" (top 165)
 q171:GD K "_law_deed" (top 166)
 q172:GD K "_law_rules" (top 167)
 q173:GD K "_law_world" (top 168)
 q174:GD K "law" (top 169)
class Yx(B:Bz):Prop where
 y:Yw B.P B.w B.mg B.b4 B.G
 z:B.G.hs=tupleKeyHash (ur B.P B.w)
 f:Fx B.G.K (B.G.ca 0) (B.G.ca 1) (B.G.ca 2) (B.G.ca 3) (B.G.ca 4) (B.G.ca 5) (B.G.ca 6) (B.G.ca 7) (B.G.ca 8) (B.G.ca 9) (B.G.ca 10) (B.G.ca 11) (B.G.ca 12) (B.G.ca 13) (B.G.ca 14) (B.G.ca 15)
section
variable{B:Bz}[Y:Yx B]
instance:Yb B:=⟨Y.y⟩
instance:Hz B:=⟨Y.z,Y.f.kn⟩
instance:Nb B "all" := ⟨Y.y.n Y.f.e 0 O⟩
instance:Nb B "any" := ⟨Y.y.n Y.f.e 1 O⟩
instance:Nb B "bool" := ⟨Y.y.n Y.f.e 2 O⟩
instance:Nb B "dict" := ⟨Y.y.n Y.f.e 3 O⟩
instance:Nb B "enumerate" := ⟨Y.y.n Y.f.e 4 O⟩
instance:Nb B "int" := ⟨Y.y.n Y.f.e 5 O⟩
instance:Nb B "isinstance" := ⟨Y.y.n Y.f.e 6 O⟩
instance:Nb B "len" := ⟨Y.y.n Y.f.e 7 O⟩
instance:Nb B "list" := ⟨Y.y.n Y.f.e 8 O⟩
instance:Nb B "range" := ⟨Y.y.n Y.f.e 9 O⟩
instance:Nb B "set" := ⟨Y.y.n Y.f.e 10 O⟩
instance:Nb B "sorted" := ⟨Y.y.n Y.f.e 11 O⟩
instance:Nb B "str" := ⟨Y.y.n Y.f.e 12 O⟩
instance:Nb B "tuple" := ⟨Y.y.n Y.f.e 13 O⟩
instance:Co B "CANNOT_BE" FB:=⟨Y.y.cx Y.f.g0⟩
instance:Co B "FORMS" Of:=⟨Y.y.cs Y.f.g1⟩
instance:Co B "KINDS" GB:=⟨Y.y.cs Y.f.g2⟩
instance:Co B "KINDS_APART" CY:=⟨Y.y.cs Y.f.g3⟩
instance:Co B "KINDS_THAT_HOLD" zV:=⟨Y.y.cs Y.f.g4⟩
instance:Co B "KINDS_WITH_MARK" zW:=⟨Y.y.cs Y.f.g5⟩
instance:Co B "MOST_BESIDE" CZ:=⟨Y.y.ci Y.f.g6⟩
instance:Co B "MOST_BY_COMMAND" zX:=⟨Y.y.ci Y.f.g7⟩
instance:Co B "MOST_DEEDS" Ed:=⟨Y.y.ci Y.f.g8⟩
instance:Co B "MOST_DEEP" Fy:=⟨Y.y.ci Y.f.g9⟩
instance:Co B "MOST_IN_NAME" B5:=⟨Y.y.ci Y.f.g10⟩
instance:Co B "MOST_IN_WORD" B6:=⟨Y.y.ci Y.f.g11⟩
instance:Co B "MOST_MARKS" za:=⟨Y.y.ci Y.f.g12⟩
instance:Co B "MOST_OF_MARK" B7:=⟨Y.y.ci Y.f.g13⟩
instance:Co B "MOST_ROOMS" Ef:=⟨Y.y.ci Y.f.g14⟩
instance:Co B "MOST_RULES" Ei:=⟨Y.y.ci Y.f.g15⟩
instance:Co B "MOST_SIGNS" Ee:=⟨Y.y.ci Y.f.g16⟩
instance:Co B "MOST_TESTS" Ec:=⟨Y.y.ci Y.f.g17⟩
instance:Co B "MOST_VERBS" Eg:=⟨Y.y.ci Y.f.g18⟩
instance:Co B "MOST_WAYS" B8:=⟨Y.y.ci Y.f.g19⟩
instance:Co B "MOST_WORDS" Eh:=⟨Y.y.ci Y.f.g20⟩
instance:Co B "NOTHING_COMES" BA:=⟨Y.y.cx Y.f.g21⟩
instance:Co B "NO_NAMES" HF:=⟨Y.y.cs Y.f.g22⟩
instance:Co B "NO_WORDS" HG:=⟨Y.y.cs Y.f.g23⟩
instance:Co B "NO_WORDS_OF_ROWS" zy:=⟨Y.y.cs Y.f.g24⟩
instance:Ff B AG "copied_rules" := ⟨wV (Y.f.lb.at 0 O)⟩
instance:Ff B AH "deeds" := ⟨wV (Y.f.C'.at 0 O)⟩
instance:Ff B yD "form" := ⟨wV (Y.f.k2.at 0 O)⟩
instance:Ff B E1 "inner" := ⟨wV (Y.f.k9.at 0 O)⟩
instance:Ff B vV "joining" := ⟨wV (Y.f.k2.at 1 O)⟩
instance:Ff B CW "kept_dark" := ⟨wV (Y.f.lb.at 1 O)⟩
instance:Ff B zv "kept_marks" := ⟨wV (Y.f.lb.at 2 O)⟩
instance:Ff B vR "kept_things" := ⟨wV (Y.f.lb.at 3 O)⟩
instance:Ff B B4 "kept_verbs" := ⟨wV (Y.f.lb.at 4 O)⟩
instance:Ff B Ag "kept_ways" := ⟨wV (Y.f.lb.at 5 O)⟩
instance:Ff B uL "kind" := ⟨orQ (wV (Y.f.k0.at 0 O)) (Y.f.k7.at 0 O)⟩
instance:Ff B zw "most" := ⟨wV (Y.f.k1.at 0 O)⟩
instance:Ff B zT "mosts_by_name" := ⟨wV (Y.f.lb.at 6 O)⟩
instance:Ff B uw "name" := ⟨orQ (orQ (wV (Y.f.k0.at 1 O)) (Y.f.k1.at 1 O)) (Y.f.k2.at 2 O)⟩
instance:Ff B GA "one" := ⟨wV (Y.f.C?.at 0 O)⟩
instance:Ff B CC "other" := ⟨wV (Y.f.C?.at 1 O)⟩
instance:Ff B wM "others" := ⟨wV (Y.f.k2.at 3 O)⟩
instance:Ff B CD "place" := ⟨orQ (wV (Y.f.k3.at 0 O)) (Y.f.Hs.at 0 O)⟩
instance:Ff B yE "refuses" := ⟨wV (Y.f.C'.at 1 O)⟩
instance:Ff B xY "rules_by_verb" := ⟨wV (Y.f.lb.at 7 O)⟩
instance:Ff B AI "shared_rules" := ⟨wV (Y.f.lb.at 8 O)⟩
instance:Ff B AJ "shared_verbs" := ⟨wV (Y.f.lb.at 9 O)⟩
instance:Ff B vC "start" := ⟨orQ (wV (Y.f.k0.at 2 O)) (Y.f.k1.at 2 O)⟩
instance:Ff B AK "term" := ⟨orQ (orQ (orQ (orQ (orQ (orQ (wV (Y.f.k3.at 1 O)) (Y.f.k4.at 0 O)) (Y.f.k5.at 0 O)) (Y.f.k6.at 0 O)) (Y.f.k7.at 1 O)) (Y.f.Hs.at 1 O)) (Y.f.H4.at 0 O)⟩
instance:Ff B CG "tests" := ⟨wV (Y.f.C'.at 2 O)⟩
instance:Ff B Eb "text" := ⟨wV (Y.f.C'.at 3 O)⟩
instance:Ff B zx "things_by_name" := ⟨wV (Y.f.lb.at 10 O)⟩
instance:Ff B CH "value" := ⟨orQ (wV (Y.f.k6.at 1 O)) (Y.f.H4.at 1 O)⟩
instance:Ff B xZ "verb" := ⟨wV (Y.f.C'.at 4 O)⟩
instance:Ff B zU "verbs_by_word" := ⟨wV (Y.f.lb.at 11 O)⟩
instance:Ff B HE "word" := ⟨wV (Y.f.k8.at 0 O)⟩
instance:Ff B wz "words" := ⟨wV (Y.f.k0.at 3 O)⟩
instance:Ff B Ah "your_name" := ⟨wV (Y.f.lb.at 12 O)⟩
instance:Af B 0 ["kind", "name", "start", "words"]:=⟨Y.f.k0⟩
instance:Af B 1 ["most", "name", "start"]:=⟨Y.f.k1⟩
instance:Af B 2 ["form", "joining", "name", "others"]:=⟨Y.f.k2⟩
instance:Af B 3 ["place", "term"]:=⟨Y.f.k3⟩
instance:Af B 4 ["term"]:=⟨Y.f.k4⟩
instance:Af B 5 ["term"]:=⟨Y.f.k5⟩
instance:Af B 6 ["term", "value"]:=⟨Y.f.k6⟩
instance:Af B 7 ["kind", "term"]:=⟨Y.f.k7⟩
instance:Af B 8 ["word"]:=⟨Y.f.k8⟩
instance:Af B 9 ["inner"]:=⟨Y.f.k9⟩
instance:Af B 10 ["one", "other"]:=⟨Y.f.C?⟩
instance:Af B 11 ["place", "term"]:=⟨Y.f.Hs⟩
instance:Af B 12 ["term", "value"]:=⟨Y.f.H4⟩
instance:Af B 13 ["deeds", "refuses", "tests", "text", "verb"]:=⟨Y.f.C'⟩
instance:Af B 14 ["copied_rules", "kept_dark", "kept_marks", "kept_things", "kept_verbs", "kept_ways", "mosts_by_name", "rules_by_verb", "shared_rules", "shared_verbs", "things_by_name", "verbs_by_word", "your_name", "kept_rules"]:=⟨Y.f.lb⟩
instance:Ic B "At" t_At:=⟨3,vB Y.f.i_At O (B3 16 _) (Ba.at ⟨Y.f.k0.ci,Y.f.k1.ci,Y.f.k2.ci,Y.f.k3.ci,Y.f.k4.ci,Y.f.k5.ci,Y.f.k6.ci,Y.f.k7.ci,Y.f.k8.ci,Y.f.k9.ci,Y.f.C?.ci,Y.f.Hs.ci,Y.f.H4.ci,Y.f.C'.ci,Y.f.lb.ci,Y.f.M'.ci,trivial⟩),Y.y.g Y.f.a3⟩
instance:Ic B "Both" M6:=⟨10,vB Y.f.i_Both O (B3 16 _) (Ba.at ⟨Y.f.k0.ci,Y.f.k1.ci,Y.f.k2.ci,Y.f.k3.ci,Y.f.k4.ci,Y.f.k5.ci,Y.f.k6.ci,Y.f.k7.ci,Y.f.k8.ci,Y.f.k9.ci,Y.f.C?.ci,Y.f.Hs.ci,Y.f.H4.ci,Y.f.C'.ci,Y.f.lb.ci,Y.f.M'.ci,trivial⟩),Y.y.g Y.f.a10⟩
instance:Ic B "Has" Wb:=⟨4,vB Y.f.i_Has O (B3 16 _) (Ba.at ⟨Y.f.k0.ci,Y.f.k1.ci,Y.f.k2.ci,Y.f.k3.ci,Y.f.k4.ci,Y.f.k5.ci,Y.f.k6.ci,Y.f.k7.ci,Y.f.k8.ci,Y.f.k9.ci,Y.f.C?.ci,Y.f.Hs.ci,Y.f.H4.ci,Y.f.C'.ci,Y.f.lb.ci,Y.f.M'.ci,trivial⟩),Y.y.g Y.f.a4⟩
instance:Ic B "Kind" R0:=⟨7,vB Y.f.i_Kind O (B3 16 _) (Ba.at ⟨Y.f.k0.ci,Y.f.k1.ci,Y.f.k2.ci,Y.f.k3.ci,Y.f.k4.ci,Y.f.k5.ci,Y.f.k6.ci,Y.f.k7.ci,Y.f.k8.ci,Y.f.k9.ci,Y.f.C?.ci,Y.f.Hs.ci,Y.f.H4.ci,Y.f.C'.ci,Y.f.lb.ci,Y.f.M'.ci,trivial⟩),Y.y.g Y.f.a7⟩
instance:Ic B "Lit" Wc:=⟨15,vB Y.f.i_Lit O (B3 16 _) (Ba.at ⟨Y.f.k0.ci,Y.f.k1.ci,Y.f.k2.ci,Y.f.k3.ci,Y.f.k4.ci,Y.f.k5.ci,Y.f.k6.ci,Y.f.k7.ci,Y.f.k8.ci,Y.f.k9.ci,Y.f.C?.ci,Y.f.Hs.ci,Y.f.H4.ci,Y.f.C'.ci,Y.f.lb.ci,Y.f.M'.ci,trivial⟩),Y.y.g Y.f.a15⟩
instance:Ic B "Mark" R7:=⟨1,vB Y.f.i_Mark O (B3 16 _) (Ba.at ⟨Y.f.k0.ci,Y.f.k1.ci,Y.f.k2.ci,Y.f.k3.ci,Y.f.k4.ci,Y.f.k5.ci,Y.f.k6.ci,Y.f.k7.ci,Y.f.k8.ci,Y.f.k9.ci,Y.f.C?.ci,Y.f.Hs.ci,Y.f.H4.ci,Y.f.C'.ci,Y.f.lb.ci,Y.f.M'.ci,trivial⟩),Y.y.g Y.f.a1⟩
instance:Ic B "Marked" LN:=⟨6,vB Y.f.i_Marked O (B3 16 _) (Ba.at ⟨Y.f.k0.ci,Y.f.k1.ci,Y.f.k2.ci,Y.f.k3.ci,Y.f.k4.ci,Y.f.k5.ci,Y.f.k6.ci,Y.f.k7.ci,Y.f.k8.ci,Y.f.k9.ci,Y.f.C?.ci,Y.f.Hs.ci,Y.f.H4.ci,Y.f.C'.ci,Y.f.lb.ci,Y.f.M'.ci,trivial⟩),Y.y.g Y.f.a6⟩
instance:Ic B "Move" R8:=⟨11,vB Y.f.i_Move O (B3 16 _) (Ba.at ⟨Y.f.k0.ci,Y.f.k1.ci,Y.f.k2.ci,Y.f.k3.ci,Y.f.k4.ci,Y.f.k5.ci,Y.f.k6.ci,Y.f.k7.ci,Y.f.k8.ci,Y.f.k9.ci,Y.f.C?.ci,Y.f.Hs.ci,Y.f.H4.ci,Y.f.C'.ci,Y.f.lb.ci,Y.f.M'.ci,trivial⟩),Y.y.g Y.f.a11⟩
instance:Ic B "Not" R9:=⟨9,vB Y.f.i_Not O (B3 16 _) (Ba.at ⟨Y.f.k0.ci,Y.f.k1.ci,Y.f.k2.ci,Y.f.k3.ci,Y.f.k4.ci,Y.f.k5.ci,Y.f.k6.ci,Y.f.k7.ci,Y.f.k8.ci,Y.f.k9.ci,Y.f.C?.ci,Y.f.Hs.ci,Y.f.H4.ci,Y.f.C'.ci,Y.f.lb.ci,Y.f.M'.ci,trivial⟩),Y.y.g Y.f.a9⟩
instance:Ic B "Put" Wd:=⟨12,vB Y.f.i_Put O (B3 16 _) (Ba.at ⟨Y.f.k0.ci,Y.f.k1.ci,Y.f.k2.ci,Y.f.k3.ci,Y.f.k4.ci,Y.f.k5.ci,Y.f.k6.ci,Y.f.k7.ci,Y.f.k8.ci,Y.f.k9.ci,Y.f.C?.ci,Y.f.Hs.ci,Y.f.H4.ci,Y.f.C'.ci,Y.f.lb.ci,Y.f.M'.ci,trivial⟩),Y.y.g Y.f.a12⟩
instance:Ic B "Rule" Sa:=⟨13,vB Y.f.i_Rule O (B3 16 _) (Ba.at ⟨Y.f.k0.ci,Y.f.k1.ci,Y.f.k2.ci,Y.f.k3.ci,Y.f.k4.ci,Y.f.k5.ci,Y.f.k6.ci,Y.f.k7.ci,Y.f.k8.ci,Y.f.k9.ci,Y.f.C?.ci,Y.f.Hs.ci,Y.f.H4.ci,Y.f.C'.ci,Y.f.lb.ci,Y.f.M'.ci,trivial⟩),Y.y.g Y.f.a13⟩
instance:Ic B "Seen" Sb:=⟨5,vB Y.f.i_Seen O (B3 16 _) (Ba.at ⟨Y.f.k0.ci,Y.f.k1.ci,Y.f.k2.ci,Y.f.k3.ci,Y.f.k4.ci,Y.f.k5.ci,Y.f.k6.ci,Y.f.k7.ci,Y.f.k8.ci,Y.f.k9.ci,Y.f.C?.ci,Y.f.Hs.ci,Y.f.H4.ci,Y.f.C'.ci,Y.f.lb.ci,Y.f.M'.ci,trivial⟩),Y.y.g Y.f.a5⟩
instance:Ic B "Thing" Oe:=⟨0,vB Y.f.i_Thing O (B3 16 _) (Ba.at ⟨Y.f.k0.ci,Y.f.k1.ci,Y.f.k2.ci,Y.f.k3.ci,Y.f.k4.ci,Y.f.k5.ci,Y.f.k6.ci,Y.f.k7.ci,Y.f.k8.ci,Y.f.k9.ci,Y.f.C?.ci,Y.f.Hs.ci,Y.f.H4.ci,Y.f.C'.ci,Y.f.lb.ci,Y.f.M'.ci,trivial⟩),Y.y.g Y.f.a0⟩
instance:Ic B "Verb" Sd:=⟨2,vB Y.f.i_Verb O (B3 16 _) (Ba.at ⟨Y.f.k0.ci,Y.f.k1.ci,Y.f.k2.ci,Y.f.k3.ci,Y.f.k4.ci,Y.f.k5.ci,Y.f.k6.ci,Y.f.k7.ci,Y.f.k8.ci,Y.f.k9.ci,Y.f.C?.ci,Y.f.Hs.ci,Y.f.H4.ci,Y.f.C'.ci,Y.f.lb.ci,Y.f.M'.ci,trivial⟩),Y.y.g Y.f.a2⟩
instance:Ic B "Word" Se:=⟨8,vB Y.f.i_Word O (B3 16 _) (Ba.at ⟨Y.f.k0.ci,Y.f.k1.ci,Y.f.k2.ci,Y.f.k3.ci,Y.f.k4.ci,Y.f.k5.ci,Y.f.k6.ci,Y.f.k7.ci,Y.f.k8.ci,Y.f.k9.ci,Y.f.C?.ci,Y.f.Hs.ci,Y.f.H4.ci,Y.f.C'.ci,Y.f.lb.ci,Y.f.M'.ci,trivial⟩),Y.y.g Y.f.a8⟩
instance:K0f B "Lit" 15:=⟨⟨Y.f.M'.mks,Y.f.n_Lit,Y.f.M'.kp⟩,Y.y.g Y.f.a15⟩
instance:Ij B 16:=⟨injR Y.f.nd⟩
local macro_rules|`(tactic|trivial)=>do let x:=("zr_l1I abt abi abh abj abk zr_dU N9 abo YA Y4 abl Yy Y9 Yh Yi Y5 Y7 Y1 YC YW YF Za Yo Yp Yq Yr Yl Y8 abp Zb Ym Zd Zf Y6 Zq YB Yz Yv Yg zr_i2I YK YL abm Zh Yt Yu Ys abq abr YQ Yj Yk YR zr_gT Yn Zn Zo Zp Ze Zg Zi abn YD YE Zj Zk YS YG YH YT YU YV Zl Zm Vo Vn Vp YX YY YZ YJ zr_en YM zr_xeI YN Zz YO Zc Zw zr_wxI YI zr_g2T Zs zr_dP Zt Vm Zr".splitOn " ").toArray.map fun s=>Lean.mkIdent (.mkSimple s);`(tactic|repeat' first|(with_reducible apply eqI);(first|rfl|kernel_rfl)|((with_reducible first|apply Y2|apply Y3);rotate_left 7;rfl)|(with_reducible first $[|apply $x]*)|(with_reducible intro _)|exact px)
instance:Df B 1 "is_small_letters" (fb B.G xA):=fy O Y.f.q25 O (by unfold zz;trivial)
instance:Df B 2 "is_name" (fb B.G wW):=fy O Y.f.q26 O (by unfold Jz;trivial)
instance:Df B 2 "is_word" (fb B.G wX):=fy O Y.f.q27 O (by unfold JA;trivial)
instance:Df B 1 "is_one_of" (fb B.G uW):=fy O Y.f.q28 O (by unfold FC;trivial)
instance:Df B 1 "is_whole" (fb B.G zA):=fy O Y.f.q29 O (by unfold HI;trivial)
instance:Df B 1 "is_list_up_to" (fb B.G uY):=fy O Y.f.q30 O (by unfold BB;trivial)
instance:Df B 1 "own_list" (fb B.G DB):=fy O Y.f.q31 O (by unfold HJ;trivial)
def Dn:Bdz B (nmO (cb (top 62) 0)) "Thing.__init__" (cb (top 62) 0) (u0 (cb (top 62) 0)) 0 Bb:=by
 unfold Bb;refine N9 ?_ ?_
 all_goals trivial
instance:Kf B 1 "Thing" 0 wj [D.I]:=gJ4 (dds:=[D.I]) Y.f.k0 Y.f.a0 O Y.f.q32 O O Dn 0
instance:Kf B 1 "Thing" 0 wj []:=gJ4 (dds:=[D.I]) Y.f.k0 Y.f.a0 O Y.f.q32 O O Dn 1
instance:Kf B 1 "Mark" 1 B9 []:=gI4 Y.f.k1 Y.f.a1 O Y.f.q33 O O (by unfold FD;trivial)
def Bu:Bdz B (nmO (cb (top 64) 0)) "Verb.__init__" (cb (top 64) 0) (u0 (cb (top 64) 0)) 0 Ca:=by
 unfold Ca;refine N9 ?_ ?_
 all_goals trivial
instance:Kf B 1 "Verb" 2 vH [D.I,(D.str "one"),D.I]:=gJ4 (dds:=[D.I,(D.str "one"),D.I]) Y.f.k2 Y.f.a2 O Y.f.q34 O O Bu 0
instance:Kf B 1 "Verb" 2 vH [D.I]:=gJ4 (dds:=[D.I,(D.str "one"),D.I]) Y.f.k2 Y.f.a2 O Y.f.q34 O O Bu 2
instance:Kf B 1 "Verb" 2 vH []:=gJ4 (dds:=[D.I,(D.str "one"),D.I]) Y.f.k2 Y.f.a2 O Y.f.q34 O O Bu 3
instance:Kf B 1 "At" 3 CJ []:=gI4 Y.f.k3 Y.f.a3 O Y.f.q35 O O (by unfold JB;trivial)
instance:Kf B 1 "Has" 4 yf []:=gI4 Y.f.k4 Y.f.a4 O Y.f.q36 O O (by unfold HK;trivial)
instance:Kf B 1 "Seen" 5 FI []:=gI4 Y.f.k5 Y.f.a5 O Y.f.q37 O O (by unfold FH;trivial)
instance:Kf B 1 "Marked" 6 uZ []:=gI4 Y.f.k6 Y.f.a6 O Y.f.q38 O O (by unfold Da;trivial)
instance:Kf B 1 "Kind" 7 wN []:=gI4 Y.f.k7 Y.f.a7 O Y.f.q39 O O (by unfold FJ;trivial)
instance:Kf B 1 "Word" 8 Cb []:=gI4 Y.f.k8 Y.f.a8 O Y.f.q40 O O (by unfold FK;trivial)
instance:Kf B 1 "Not" 9 vY []:=gI4 Y.f.k9 Y.f.a9 O Y.f.q41 O O (by unfold HL;trivial)
instance:Kf B 1 "Both" 10 FM []:=gI4 Y.f.C? Y.f.a10 O Y.f.q42 O O (by unfold FL;trivial)
instance:Kf B 1 "Move" 11 wQ []:=gI4 Y.f.Hs Y.f.a11 O Y.f.q43 O O (by unfold FN;trivial)
instance:Kf B 1 "Put" 12 xB []:=gI4 Y.f.H4 Y.f.a12 O Y.f.q44 O O (by unfold HM;trivial)
instance:Kf B 2 "Rule" 13 wR []:=gJ4 (dds:=[(D.O δ)]) Y.f.C' Y.f.a13 O Y.f.q45 O O (by unfold FP;trivial) 1
instance:Mf B 9 "can_hold" vc:=⟨λc h e=>by
 unfold vc at e;split at e
 .cases e;exact ri (k:=8) Y.f.k0 O Y.f.q46 O (by unfold AL;trivial)
 .cases e⟩
instance:Mf B 9 "has_mark" v7:=⟨λc h e=>by
 unfold v7 at e;split at e
 .cases e;exact ri (k:=8) Y.f.k0 O Y.f.q47 O (by unfold AM;trivial)
 .cases e⟩
instance:Mf B 9 "is_plainly" u5:=⟨λc h e=>by
 unfold u5 at e;split at e
 .cases e;exact ri (k:=8) Y.f.k0 O Y.f.q48 O (by unfold zB;trivial)
 .cases e⟩
instance:Df B 1 "refuse_unless" (fb B.G um):=fy O Y.f.q49 O (by unfold BC;trivial)
instance:Df B 1 "count_of" (fb B.G Bc):=fy O Y.f.q50 O (by unfold HN;trivial)
instance:Df B 10 "plain_ones" (tX B.G wY):=XF O Y.f.q51 O (by unfold Ej;trivial)
instance:Df B 2 "is_mark" (fb B.G E3):=fy O Y.f.q52 O (by unfold E2;trivial)
instance:Df B 11 "check_things" (fb B.G zD):=fy O Y.f.q53 O (by unfold zC;trivial)
instance:Df B 3 "check_marks" (fb B.G Aj):=fy O Y.f.q54 O (by unfold Ai;trivial)
instance:Df B 1 "are_unlike" (fb B.G wm):=fy O Y.f.q55 O (by unfold Ek;trivial)
instance:Df B 3 "check_names" (fb B.G Al):=fy O Y.f.q56 O (by unfold Ak;trivial)
instance:Df B 10 "mark_names" (tX B.G wZ):=XF O Y.f.q57 O (by unfold El;trivial)
instance:Df B 10 "is_start" (fb B.G DD):=fy O Y.f.q58 O (by unfold DC;trivial)
instance:Df B 1 "comes_to_room" (fb B.G yT):=fy O Y.f.q59 O (by unfold BD;trivial)
instance:Df B 11 "check_starts" (fb B.G zG):=gF5 ["things", "starts", "thing"] O Y.f.q60 O (by unfold zF;trivial)
instance:Df B 3 "are_words" (fb B.G zY):=fy O Y.f.q61 O (by unfold FQ;trivial)
instance:Df B 1 "has_all" (fb B.G AO):=fy O Y.f.q62 O (by unfold JC;trivial)
instance:Df B 2 "is_told_apart" (fb B.G yV):=fy O Y.f.q63 O (by unfold yU;trivial)
instance:Df B 11 "check_words_of_things" (fb B.G wa):=fy O Y.f.q64 O (by unfold v8;trivial)
instance:Df B 2 "check_dark" (fb B.G Be):=fy O Y.f.q65 O (by unfold Bd;trivial)
instance:Df B 3 "is_way" (fb B.G HQ):=fy O Y.f.q66 O (by unfold HP;trivial)
instance:Df B 4 "check_ways" (fb B.G Bh):=fy O Y.f.q67 O (by unfold Bf;trivial)
instance:Df B 3 "is_verb" (fb B.G JE):=fy O Y.f.q68 O (by unfold JD;trivial)
instance:Df B 4 "check_verbs" (fb B.G yt):=fy O Y.f.q69 O (by unfold Dc;trivial)
instance:Df B 1 "are_apart" (fb B.G yF):=fy O Y.f.q70 O (by unfold FR;trivial)
instance:Df B 11 "check_vocabulary" (fb B.G wq):=fy O Y.f.q71 O (by unfold xD;trivial)
instance:Df B 12 "check_parts" (fb B.G An):=fy O Y.f.q72 O (by unfold Am;trivial)
instance:Df B 4 "does" (fb B.G zH):=fy O Y.f.q73 O (by unfold Sf;trivial)
instance:Df B 4 "refuses" (fb B.G vq):=fy O Y.f.q74 O (by unfold JF;trivial)
instance:Df B 5 "hand_rules" (tX B.G Bi):=XF O Y.f.q75 O (by unfold Em;trivial)
instance:Df B 5 "put_rules" (tX B.G Cc):=XF O Y.f.q76 O (by unfold FU;trivial)
instance:Df B 5 "lid_rules" (tX B.G Cd):=XF O Y.f.q77 O (by unfold FV;trivial)
instance:Df B 5 "flame_rules" (tX B.G Ao):=XF O Y.f.q78 O (by unfold De;trivial)
instance:Df B 3 "way_tests" (tX B.G Ce):=XF O Y.f.q79 O (by unfold FW;trivial)
instance:Df B 5 "go_rules" (tX B.G DF):=XF O Y.f.q80 O (by unfold DE;trivial)
instance:Df B 5 "wait_rules" (tX B.G Eo):=XF O Y.f.q81 O (by unfold En;trivial)
instance:Df B 6 "common_rules" (tX B.G zI):=XF O Y.f.q82 O (by unfold Cf;trivial)
instance:Df B 3 "common_verbs" (tX B.G x3):=XF O Y.f.q83 O (by unfold Cg;trivial)
instance:Df B 1 "by_name" (fb B.G E5):=fy O Y.f.q84 O (by unfold E4;trivial)
instance:Df B 10 "mosts_by_name" (fb B.G yX):=fy O Y.f.q85 O (by unfold yW;trivial)
instance:Df B 1 "verbs_by_word" (fb B.G yY):=fy O Y.f.q86 O (by unfold BE;trivial)
instance:Df B 1 "by_verb" (fb B.G JH):=fy O Y.f.q87 O (by unfold JG;refine⟨Px (stW (by kernel_rfl) La O) (Qf px O (Lp (Lg B.G.K (MC (W? (by kernel_rfl))))) (pgI (by kernel_rfl)) (J2 (J3 (QG B.G.K jv kH oe EM (RD (W? (by kernel_rfl)) (QS (MC (W? (by kernel_rfl))) (Ff.p (B:=B))) (Qp yM) ⟨O,O,O,O⟩) (wc (W? (by kernel_rfl)) yM))))) (Mj (PE.ghost (W? (by kernel_rfl))))⟩)
instance:Mf B 9 "of_kind" xj:=⟨λc h e=>by
 unfold xj at e;split at e
 .cases e;exact ri (k:=8) Y.f.lb O Y.f.q88 O (by unfold BF;trivial)
 .cases e⟩
instance:Mf B 9 "all_verbs" wx:=⟨λc h e=>by
 unfold wx at e;split at e
 .cases e;exact ri (k:=8) Y.f.lb O Y.f.q89 O (by unfold zZ;trivial)
 .cases e⟩
instance:Df B 1 "is_same_text" (fb B.G x4):=fy O Y.f.q90 O (by unfold Ci;trivial)
instance:Df B 4 "copy_of" (fb B.G E6):=fy O Y.f.q91 O (by unfold JI;trivial)
instance:Mf B 9 "thing_of" uz:=⟨λc h e=>by
 unfold uz at e;split at e
 .cases e;exact ri (k:=8) Y.f.lb O Y.f.q92 O (by unfold AQ;trivial)
 .cases e⟩
instance:Mf B 9 "most_of" vM:=⟨λc h e=>by
 unfold vM at e;split at e
 .cases e;exact ri (k:=8) Y.f.lb O Y.f.q93 O (by unfold BG;trivial)
 .cases e⟩
instance:Mf B 9 "verb_of" vd:=⟨λc h e=>by
 unfold vd at e;split at e
 .cases e;exact ri (k:=8) Y.f.lb O Y.f.q94 O (by unfold BH;trivial)
 .cases e⟩
instance:Mf B 9 "you" zj:=⟨λc h e=>by
 unfold zj at e;split at e
 .cases e;exact ri (k:=8) Y.f.lb O Y.f.q95 O (by unfold FX;trivial)
 .cases e⟩
instance:Df B 2 "is_by_command" (fb B.G vg):=fy O Y.f.q96 O (by unfold BI;trivial)
instance:Df B 2 "is_here" (fb B.G yh):=fy O Y.f.q97 O (by unfold JJ;trivial)
instance:Df B 10 "named" (fb B.G zb):=fy O Y.f.q98 O (by unfold Og;trivial)
instance:Df B 11 "is_of_kind" (fb B.G zc):=fy O Y.f.q99 O (by unfold Ep;trivial)
instance:Df B 11 "is_term" (fb B.G AR):=fy O Y.f.q100 O (by unfold JK;trivial)
instance:Df B 11 "is_place" (fb B.G Bj):=fy O Y.f.q101 O (by unfold DG;trivial)
instance:Df B 12 "is_moved" (fb B.G DI):=fy O Y.f.q102 O (by unfold DH;trivial)
instance:Df B 10 "is_mark_value" (fb B.G xt):=fy O Y.f.q103 O (by unfold xq;trivial)
instance:Df B 13 "is_move" (fb B.G E8):=fy O Y.f.q104 O (by unfold E7;trivial)
instance:Df B 1 "is_said" (fb B.G AS):=fy O Y.f.q105 O (by unfold JL;trivial)
instance:Df B 10 "is_verb_name" (fb B.G zJ):=fy O Y.f.q106 O (by unfold Cj;trivial)
instance:Df B 1 "does_or_refuses" (fb B.G x6):=fy O Y.f.q107 O (by unfold z4;trivial)
instance:Df B 12 "is_plain_test" (fb B.G y4):=fy O Y.f.q108 O (by unfold vJ;trivial)
instance:Df B 1 "is_test" (fb B.G (xK 0)):=fy (k:=0) O Y.f.q109 O (by trivial)
instance:Df B 13 "is_test" (fb B.G (xK 1)):=fy (k:=12) O Y.f.q109 O (by unfold xJ;trivial)
instance:Df B 14 "is_test" (fb B.G (xK 2)):=fy (k:=13) O Y.f.q109 O (by unfold xJ;trivial)
instance:Df B 15 "is_test" (fb B.G (xK 3)):=fy (k:=14) O Y.f.q109 O (by unfold xJ;trivial)
instance:Df B 16 "is_test" (fb B.G (xK 4)):=fy (k:=15) O Y.f.q109 O (by unfold xJ;trivial)
instance:Df B 14 "is_deed" (fb B.G E9):=fy O Y.f.q110 O (by unfold CK;trivial)
instance:Df B 18 "are_tests" (fb B.G Ck):=fy O Y.f.q111 O (by unfold FY;trivial)
instance:Df B 15 "are_deeds" (fb B.G Cn):=fy O Y.f.q112 O (by unfold FZ;trivial)
instance:Df B 19 "is_rule" (fb B.G Fc):=fy O Y.f.q113 O (by unfold Fb;trivial)
instance:Kf B 20 "World" 14 x9 []:=gI4 Y.f.lb Y.f.a14 O Y.f.q114 O O (by unfold x8;trivial)
instance:Mf B 9 "is_dark" yu:=⟨λc h e=>by
 unfold yu at e;split at e
 .cases e;exact ri (k:=8) Y.f.lb O Y.f.q115 O (by unfold BJ;trivial)
 .cases e⟩
instance:Mf B 9 "own_marks" y6:=⟨λc h e=>by
 unfold y6 at e;split at e
 .cases e;exact ri (k:=8) Y.f.lb O Y.f.q116 O (by unfold z5;trivial)
 .cases e⟩
instance:Mf B 9 "names" xM:=⟨λc h e=>by
 unfold xM at e;split at e
 .cases e;exact ri (k:=8) Y.f.lb O Y.f.q117 O (by unfold Dg;trivial)
 .cases e⟩
instance:Mf B 9 "way_words" wy:=⟨λc h e=>by
 unfold wy at e;split at e
 .cases e;exact ri (k:=8) Y.f.lb O Y.f.q118 O (by unfold z6;trivial)
 .cases e⟩
instance:Mf B 9 "rules_to_try" xE:=⟨λc h e=>by
 unfold xE at e;split at e
 .cases e;exact ri (k:=8) Y.f.lb O Y.f.q119 O (by unfold yG;trivial)
 .cases e⟩
instance:Mf B 12 "parts" vv:=⟨λc h e=>by
 unfold vv at e;split at e
 .cases e;exact ri (k:=11) Y.f.lb O Y.f.q120 O (by unfold Dh;trivial)
 .cases e⟩
instance:Df B 10 "own_starts" (fb B.G Bk):=fy O Y.f.q121 O (by unfold Es;trivial)
instance:Df B 10 "first_value" (fb B.G xk):=fy O Y.f.q122 O (by unfold Di;trivial)
instance:Df B 13 "first_stand" (fb B.G uU):=fy O Y.f.q123 O (by unfold Dj;trivial)
instance:Df B 1 "value_of" (fb B.G Bl):=fy O Y.f.q124 O (by unfold HR;trivial)
instance:Df B 2 "at_of" (fb B.G yw):=fy O Y.f.q125 O (by unfold Oh;trivial)
instance:Df B 2 "mark_of" (fb B.G xN):=fy O Y.f.q126 O (by unfold JM;trivial)
instance:Df B 1 "with_part" (fb B.G z7):=fy O Y.f.q127 O (by unfold F0;trivial)
instance:Df B 3 "holders_of" (tX B.G w5):=XF O Y.f.q128 O (by unfold Et;trivial)
instance:Df B 10 "room_of" (fb B.G zk):=fy O Y.f.q129 O (by unfold JN;trivial)
instance:Df B 10 "has" (fb B.G Sg):=fy O Y.f.q130 O (by unfold We;trivial)
instance:Df B 10 "is_shut" (fb B.G yi):=fy O Y.f.q131 O (by unfold JO;trivial)
instance:Df B 11 "in_open" (fb B.G yj):=fy O Y.f.q132 O (by unfold JP;trivial)
instance:Df B 12 "burns_in" (fb B.G zK):=fy O Y.f.q133 O (by unfold HS;trivial)
instance:Df B 13 "is_lit" (fb B.G Eu):=fy O Y.f.q134 O (by unfold LP;trivial)
instance:Df B 14 "is_seen" (fb B.G wC):=fy O Y.f.q135 O (by unfold JQ;trivial)
instance:Df B 10 "is_of_way" (fb B.G yH):=fy O Y.f.q136 O (by unfold F1;trivial)
instance:Df B 11 "things_of" (fb B.G vw):=fy O Y.f.q137 O (by unfold F2;trivial)
instance:Df B 12 "meant" (fb B.G vA):=fy O Y.f.q138 O (by unfold Oi;trivial)
instance:Df B 10 "at_parts" (fb B.G DJ):=fy O Y.f.q139 O (by unfold HU;trivial)
instance:Df B 10 "mark_parts" (fb B.G zd):=fy O Y.f.q140 O (by unfold Ew;trivial)
instance:Df B 11 "can_go" (fb B.G Ex):=fy O Y.f.q141 O (by unfold LQ;trivial)
instance:Df B 11 "can_show" (fb B.G DL):=fy O Y.f.q142 O (by unfold HV;trivial)
instance:Mf B 16 "holds" (uC 0):=⟨λc h e=>by
 unfold uC Bm at e;split at e
 .cases e;exact ri (k:=15) Y.f.k3 O Y.f.q143 O (by unfold HW;trivial)
 .cases e;exact ri (k:=15) Y.f.k4 O Y.f.q144 O (by unfold F3;trivial)
 .cases e;exact ri (k:=15) Y.f.k5 O Y.f.q145 O (by unfold Ey;trivial)
 .cases e;exact ri (k:=15) Y.f.k6 O Y.f.q146 O (by unfold Cp;trivial)
 .cases e;exact ri (k:=15) Y.f.k7 O Y.f.q147 O (by unfold EB;trivial)
 .cases e;exact ri (k:=15) Y.f.k8 O Y.f.q148 O (by unfold ED;trivial)
 .cases e;exact ri (k:=15) Y.f.M' O Y.f.q149 O (by unfold F5;trivial)
 .cases e⟩
instance:Mf B 17 "holds" (uC 1):=⟨λc h e=>by
 unfold uC at e;split at e
 .cases e;exact ri (k:=16) Y.f.k9 O Y.f.q150 O (by unfold yI;trivial)
 .cases e;exact ri (k:=16) Y.f.C? O Y.f.q151 O (by unfold w6;trivial)
 .exact(Mf.p (B:=B) (g:=uC 0) c h e).mono O⟩
instance:Mf B 18 "holds" (uC 2):=⟨λc h e=>by
 unfold uC at e;split at e
 .cases e;exact ri (k:=17) Y.f.k9 O Y.f.q150 O (by unfold yI;trivial)
 .cases e;exact ri (k:=17) Y.f.C? O Y.f.q151 O (by unfold w6;trivial)
 .exact(Mf.p (B:=B) (g:=uC 0) c h e).mono O⟩
instance:Mf B 19 "holds" (uC 3):=⟨λc h e=>by
 unfold uC at e;split at e
 .cases e;exact ri (k:=18) Y.f.k9 O Y.f.q150 O (by unfold yI;trivial)
 .cases e;exact ri (k:=18) Y.f.C? O Y.f.q151 O (by unfold w6;trivial)
 .exact(Mf.p (B:=B) (g:=uC 0) c h e).mono O⟩
instance:Mf B 14 "done" yk:=⟨λc h e=>by
 unfold yk at e;split at e
 .cases e;exact ri (k:=13) Y.f.Hs O Y.f.q152 O (by unfold F7;trivial)
 .cases e;exact ri (k:=13) Y.f.H4 O Y.f.q153 O (by unfold HX;trivial)
 .cases e⟩
instance:Df B 10 "is_object" (fb B.G xO):=fy O Y.f.q154 O (by unfold F8;trivial)
instance:Df B 11 "fits_form" (fb B.G Cq):=fy O Y.f.q155 O (by unfold F9;trivial)
instance:Df B 12 "is_command" (fb B.G Bn):=fy O Y.f.q156 O (by unfold EF;trivial)
instance:Df B 13 "check_command" (fb B.G xu):=fy O Y.f.q157 O (by unfold BK;trivial)
instance:Df B 20 "fits" (fb B.G Fd):=fy O Y.f.q158 O (by unfold Sh;trivial)
instance:Df B 15 "outcome" (fb B.G zl):=fy O Y.f.q159 O (by unfold JR;trivial)
instance:Df B 21 "answered" (fb B.G DO):=fy O Y.f.q160 O (by unfold HY;trivial)
instance:Df B 22 "step" (fb B.G Fe):=fy O Y.f.q161 O (by unfold Si;trivial)
instance:Df B 10 "objects_of" (tX B.G wt):=XF O Y.f.q162 O (by unfold w9;trivial)
instance:Df B 11 "commands" (tX B.G Bo):=XF O Y.f.q163 O (by unfold DP;trivial)
instance:Df B 1 "fold" (fb B.G Cr):=fy O Y.f.q164 O (by unfold Sj;trivial)
instance:Df B 14 "lifted" (fb B.G vN):=fy O Y.f.q165 O (by unfold LR;trivial)
instance:Df B 1 "_law_cell_at" (fb B.G uX):=fy O Y.f.q166 O (by unfold Cs;trivial)
instance:Df B 1 "_law_draws" (tX B.G Bp):=XF O Y.f.q167 O (by unfold ze;trivial)
instance:Df B 3 "_law_things" (fb B.G Ar):=gF5 ["_law_xs", "_law_rooms", "_law_things_here", "_law_holders", "_law_rows", "_law_k", "_law_drawn", "_law_kind", "_law_start"] O Y.f.q168 O (by unfold Aq;trivial)
instance:Df B 1 "_law_term" (fb B.G yJ):=fy O Y.f.q169 O (by unfold Ct;trivial)
instance:Df B 3 "_law_test" (fb B.G Aa):=fy O Y.f.q170 O (by unfold z9;trivial)
instance:Df B 3 "_law_deed" (fb B.G Ac):=fy O Y.f.q171 O (by unfold Ab;trivial)
instance:Df B 4 "_law_rules" (fb B.G Br):=fy O Y.f.q172 O (by unfold Bq;trivial)
instance:Df B 22 "_law_world" (fb B.G Bt):=fy O Y.f.q173 O (by unfold Bs;trivial)
def Tx:Bdz B ["_law_script", "_law_world_here", "_law_known", "_law_stand", "_law_cell", "_law_parts", "_law_found", "_law_due", "_law_part", "_law_value"] "law" (top 169) (u0 (top 169)) 22 Oj:=by
 unfold Oj;refine N9 ?_ ?_
 all_goals trivial
end
end K63x
namespace K63x
open PySem L2 L3 L4
def OK(K:au):Sp:=λd H Q _=>∃(a:Addr) (b:List Int),d=[.ref a]/\f3 K H a (b.map V.int)/\b.length<=63/\∀c,Q (.O γ) c
theorem JZ{G:Bg}{H:Hp}:∀a:List Int,b1 G H (a.map D.int) (a.map V.int)
 |[]=>uP
 |n::a=>uT (wD n) (JZ a)
def VT{G:Bg}:∀c H Q E,OK G.K c H Q E->fb G Wf c H Q E:=λc H Q E h=>by obtain⟨a,b,rfl,i,f,k⟩:=h;refine⟨H,[.R (b.map D.int)],.O γ,ux.refl _,uT (by unfold L4.b6;exact⟨a,_,O,i,JZ b⟩) uP,aah b f,λv e d _ _ _ _ r=>?_⟩;unfold L4.b6 at r;subst r;exact k d
section
variable{K:au}{x m q:Str}{st:Stmt}{f C:Addr}{oc:ab}{od:Option Addr}{kV doc pm:ab}{an:Option Addr}{cdv ct:ab}{osl:Array (Option ab)}
def Tz(d:K.lookup f=Z ⟨oc,od,.func (eW x q (xQ st) (u0 st) (uG st) .none kV doc pm an cdv ct),osl⟩)(b:gY K cdv q=γ)(c:d8 K (.ref f)=γ):∃a,Fun K x q st f a:=⟨_,⟨_,_,_,_,_,_,_,_,_,O,d,b⟩,c⟩
def gd_mk(h:iY K aZ x=Z (Z (.ref f)))(c:K.lookup f=Z ⟨oc,od,.func (eW x x (xQ st) (u0 st) (uG st) .none kV doc pm an cdv ct),osl⟩)(a:gY K cdv x=γ)(b:d8 K (.ref f)=γ):GD K x st:=⟨f,(Tz c a b).imp λ_ F=>⟨h,F⟩⟩
def gm_mk(h:cP K (.ref C) m=Z (Z (.ref f)))(b:jT K (.ref f)=γ)(d:K.lookup f=Z ⟨oc,od,.func (eW m q (xQ st) (u0 st) (uG st) .none kV doc pm an cdv ct),osl⟩)(a:gY K cdv q=γ)(c:d8 K (.ref f)=γ):GM K C m q st:=⟨f,(Tz d a c).imp λ_ F=>⟨h,b,F⟩⟩
end
theorem all_mk{l:gZ}{w:ay}{K:au}{h:Heap}{p:Str->Option ab}{M:Addr}(X:K.In h)(I:h.Ns aZ p)(hfa:p "law" = Z (.ref M)){q r t u x y z A C E b d i j m o:Addr}(F:Fx K q r t u x y z A C E b d i j m o):
  ∃H:bU,(∀(s:ae) (v:ab),hE s H ⟨[v],[]⟩ [("_law_script", v)])/\∀b4:Heap,K.In b4->b4.Ns aZ p->yb l.prog w K p b4 K? 23 M H ["_law_script"] (OK K):=by
 have rf:∃B:Bg,B.K=K/\B.ca 0=q/\B.ca 1=r/\B.ca 2=t/\B.ca 3=u/\B.ca 4=x/\B.ca 5=y/\B.ca 6=z/\B.ca 7=A/\B.ca 8=C/\B.ca 9=E/\B.ca 10=b/\B.ca 11=d/\B.ca 12=i/\B.ca 13=j/\B.ca 14=m/\B.ca 15=o/\B.hs=tupleKeyHash (ur l.prog w):=⟨⟨K,λc=>[q,r,t,u,x,y,z,A,C,E,b,d,i,j,m,o].getD c 0,_⟩,O,O,O,O,O,O,O,O,O,O,O,O,O,O,O,O,O,O⟩;obtain⟨B,rfl,rfl,rfl,rfl,rfl,rfl,rfl,rfl,rfl,rfl,rfl,rfl,rfl,rfl,rfl,rfl,rfl,P⟩:=rf;have AT:∀b4,Yx ⟨l.prog,w,p,b4,B⟩:=λb4=>⟨⟨h,X,I⟩,P,F⟩;obtain⟨f,H,a,FF⟩:=F.q174;have e:=hfa.symm.t (iW X I a);cases e;obtain⟨U,W,kV,doc,Y,Q,cdv,R,osl,rfl,S,hcd⟩:=FF.ex;exact⟨_,λs v=>.of_eq O,λb4 _ _=>(Q9 O O O FF (Kx (N:=["_law_script", "_law_world_here", "_law_known", "_law_stand", "_law_cell", "_law_parts", "_law_found", "_law_due", "_law_part", "_law_value"]) (ps:=["_law_script"]) (np:=1) (n:=10) (by kernel_rfl)).1 ((@Tx _ (AT b4)).ok O _)).imp (VT (G:=B))⟩
def walk{l:gZ}{q:aF}{loose:aH}{XP:(Str->Option ab)->Heap->Prop}{YP:ay->Heap->Prop}{d:DefRec}{K:Params->au}(j:l.most=Z 63)(hdf:d.params.defaults=[])
  (hY:∀(w:ay) (h:Heap),YP w h->(K w.params).In h)
  (F:∀(w:ay) (b:Str->Option ab) (c:Addr) (h:Heap),(K w.params).In h->h.Ns aZ b->b d.name=Z (.ref c)->
   ∃e:bU,(∀(s:ae) (u:ab),hE s e ⟨[u],[]⟩ [("_law_script", u)])/\∀b4:Heap,(K w.params).In b4->b4.Ns aZ b->yb l.prog w (K w.params) b b4 K? 23 c e ["_law_script"] (OK (K w.params))):
  W.WalkO q loose XP YP l.row.toRowW d [] (λf o=>mf f o):=
 L2.Uh (n:=63) (k:=23) (x:="_law_script") (CX:=λ_=>K?) (sp:=λw=>OK (K w.params)) j (by decide) hdf ⟨O,by decide,by decide⟩ hY F (λ_ _ a m i _ hS=>⟨a,m,O,hS,i,λ_=>O⟩) λ_ _ _ _ _ z=>z
end K63x
set_option maxHeartbeats 0
open PySem PySem.W PyProof.Rows
theorem PySem.Challenge.cw_tellworld_k63_folds_and_lifted_holds : PySem.Challenge.rw_tellworld_k63_folds_and_lifted.Holds := by
 refine hd ?_
 k_fill
 refine K63x.walk (l:=PySem.Challenge.rw_tellworld_k63_folds_and_lifted) rfl rfl (λw h Y=>Y) ?F
 case F=>
  intro w mg fa h KX G hmg;refine' K63x.all_mk KX G hmg ?Q
  case Q=>
   constructor
   all_goals as_aux_lemma=>first
   |k_is
   |kernel_rfl
   |exact⟨⟨⟨by k_is,by k_is,by k_is,by k_is⟩,by k_is,by k_is,by k_is,by k_is⟩,by k_is,by k_is,by kernel_rfl⟩
   |exact⟨_,by k_is⟩
   |exact K63x.gd_mk (by k_is) (by k_is) (by k_is) (by k_is)
   |exact K63x.gm_mk (by k_is) (by k_is) (by k_is) (by k_is) (by k_is)
   |exact⟨_,_,_,_,by k_is,by k_is,by rfl,by rfl,by simp,by repeat' first|exact .nil|exact .cons rfl .nil|refine .cons rfl ?_⟩
   |exact⟨_,_,_,_,[_],_,by k_is,by k_is,⟨⟨_,_,_,_,_,_,_,_,_,rfl,by k_is,by k_is⟩,by k_is⟩,by k_is,by rfl,.cons (by first|rfl|exact⟨_,rfl⟩) .nil⟩
   |exact⟨_,_,_,_,[_,_,_],_,by k_is,by k_is,⟨⟨_,_,_,_,_,_,_,_,_,rfl,by k_is,by k_is⟩,by k_is⟩,by k_is,by rfl,.cons (by first|rfl|exact⟨_,rfl⟩) (.cons (by first|rfl|exact⟨_,rfl⟩) (.cons (by first|rfl|exact⟨_,rfl⟩) .nil))⟩
end
