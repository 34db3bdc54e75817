import PyProof.Rows.All
import Open.Pieces
import OpenK.KLine
import PySem.Challenge.RW_tellworld_k28_whole_deeds_hang_on_their
import PyProof.EqAt
import PyProof.EqKinds
import PyProof.TupleCall
import PyProof.StrWalks
import PyProof.ConsumeWalk
import PyProof.NeKinds
import PyProof.Rows.SetFrom
import KE.KEqDict
import KE.KIsAll
import PyProof.WalksMore
import PyProof.TupleKey
import PyProof.DictWalks
import PyProof.Rows.ZipGen
import KE.KDictLaws
import PyProof.DictItems
import KE.KSortTup
import PyProof.TupleOfSeq
import PyProof.Rows.SortStr
import PyProof.Rows.StrInSeq3
import PyProof.TupleIter
import KE.KDictOf
import PyProof.CollectWalk
import PyProof.Rows.SeqMore
import PyProof.IsiH_tuple
import PyProof.AttrMiss
import PyProof.Rows.Tup
import PyProof.WalksS
import PyProof.DictRoadsH
import PyProof.EnumIter
import PyProof.EnumFor
import PyProof.EnumMake
import PyProof.EnumStmt
import PyProof.Rows.StrJoin2
import PyProof.AutoSeq1
set_option genSizeOf false
set_option compiler.extract_closed false
local macro_rules|`(#v[$a,*])=>`(⟨$a,*⟩)
local macro_rules (kind:=Lean.Parser.Command.in)|s=>do
 if s[0][1].isStrLit?.isNone then Lean.Macro.throwUnsupported
 return Lean.mkNullNode (((s[0][1].isStrLit?.getD "").splitOn ";").toArray.map fun l=>
  let w:=l.splitOn " "
  let f:=fun z:String=>match z.splitOn "ϑ" with
   |a::b=>a++"".intercalate (b.map fun x=>w.getD (x.front.toNat-48) ""++(x.drop 1).toString)
   |_=>z
  s[2].rewriteBottomUp fun t=>match t with
   |.ident i _ n _=>
    let y:=n.toString
    if y.contains 'ϑ' then let y:=f y;if y.front.isDigit then .node i `num #[.atom i y] else Lean.mkIdentFrom t y.toName else t
   |.atom i x=>.atom i (f x)
   |_=>t)
local macro_rules (kind:=Lean.Parser.Command.set_option)|s=>if s[1].getId= `h then return s.setArg 1 (Lean.mkIdent `tactic.hygienic) else Lean.Macro.throwUnsupported
local macro_rules (kind:=Lean.Parser.Command.declaration)|s=>do
 if s.getPos?.isNone||s[1][1][0].getId.getRoot== `PySem then Lean.Macro.throwUnsupported
 let s:=s.rewriteBottomUp (·.setInfo .none)
 if s[1].getKind∈[``Lean.Parser.Command.definition,``Lean.Parser.Command.abbrev,``Lean.Parser.Command.instance]&&s[0][4].isNone then
  return s.setArg 0 (s[0].setArg 4 (Lean.mkNullNode #[Lean.Syntax.node .none ``Lean.Parser.Command.noncomputable #[Lean.mkAtom "noncomputable"]]))
 return s
set_option bootstrap.genMatcherCode false
noncomputable section
open Option renaming some->U,none->Z
open Bool renaming true->γ,false->δ
def J{b:Sort _}{a:b}:a=a:=rfl
open List renaming length_map->ak,getElem?_eq_getElem->aH,mem_map->av,length_append->aG,map_cons->aA,mem_singleton->aO,mem_cons_self->aP,length_cons->aK,mem_cons->aD,mem_cons_of_mem->ba,length_singleton->bu,getD_eq_getElem?_getD->bQ,map_append->bg,getElem?_map->br,map_map->aT,getElem?_eq_some_iff->bT,mem_append_left->bO,mem_filter->bw,size_toArray->bG,all_eq_true->bF,mem_append_right->bU,append_assoc->bL,mem_append->bC,append_nil->bD,mem_of_getElem?->cb,mem_map_of_mem->cc,range->bh,nil_append->bP,getElem?_set->bX,not_mem_nil->bY,length_take->cf,mem_range->bR,nodup_append->cq,length_range->cG,length_replicate->cW,nodup_cons->cu,getElem?_append_left->dG,getElem?_append_right->eA,getElem_mem->cI,map_nil->bZ,filterMap_cons->dH,length_drop->dg,mem_iff_getElem->eC,any_eq_true->dw,zipWith_cons_cons->fO,length_nil->dA,length_pos_iff->eY,length->cN,getElem?_drop->fj,zip_cons_cons->fo,filter_cons->eD,pairwise_iff_getElem->hU,getElem?_eq_none->gn,length_set->eE,length_eq_zero_iff->hX,exists_cons_of_ne_nil->ja,foldl_cons->fz,drop_eq_getElem_cons->jb,take_append_drop->ib,lookup_cons->fR,zipWith->dP,getElem?_replicate->jc,find?_cons->fT,length_zip->fU,lookup->dQ,perm_append_singleton->j6,getElem_of_mem->jg,map_congr_left->jh,replicate->gK,getElem?_set_self->j9,mem_filterMap->ji,take_of_length_le->ka,any_cons->gQ,getElem?_toArray->kg,length_filter_le->kj,any_eq_false->jm,take_sublist->jn,nodup_nil->iu,mem_of_find?_eq_some->lW,length_zipWith->ku,all_cons->iy,map_drop->iA,map_take->iB,find?_eq_none->kC,getElem?_cons_succ->lY,drop_eq_nil_of_le->lZ,getElem?_zipWith->l4,getElem_inj->kG,getElem_map->kI,perm_middle->kJ,zip_map'->jA,getElem?_set_ne->l5,mem_of_mem_drop->l7,mem_erase_of_ne->l8,of_mem_zip->kL,countP_eq_length_filter->o9,getElem?_range->l9,filter_eq_self->md,mergeSort_perm->me,getElem_range->my,getElem?_zip_eq_some->pf,mem_or_eq_of_mem_set->pj,getLastD_eq_getLast?->px,ext_getElem?->mC,foldl_append->mH,length_erase_of_mem->pC,nodup_range->mT,any_map->kZ,toArray->k5,length_pos_of_mem->pI,filter_eq_nil_iff->pK,zip_append->mX,contains_iff_mem->pP,filterMap_append->pV,length_eraseIdx->pY,pairwise_append->pZ,contains_cons->qh,map_filterMap->qm,append_of_mem->qo,take_add_one->qr,all_map->nQ,pairwise_map->qw,map_fst_zip->qK,le_antisymm->qL,ext_getElem->qM,map_id->n8,filter_map->rb,find?_some->rf,drop_nil->rQ,map->oA,rec->sO
open PySem renaming wpAny_bind->aj,Value->aa,wpAny_pure->aw,Shared->aq,wpAny->ar,starEach->aE,sizeLine->aS,sizeLine_eq->bH,mainGlobals->bN,compareOp->bz,Spec->vo,wpAny_setState_of->cK,Program->bb,wpAny_holding->cA,World->aQ,codeAny_builtin->dh,Around->bo,wpAny_truthy_bool->dM,wpAny_mono->cB,wpAny_Call_Name_kw->eZ,backTo->bJ,FuncData->cD,SetTable->cE,sysModules->cZ,wpAny_call_entry->fS,plainId_quiet->eG,wpAny_newObj_type->gu,assignEach->dj,bootBuiltins->eI,attributeBase->fA,keywordEach->dR,wpAny_passesOwn->gE,wpAny_specialOf->gH,wpAny_pyIter_list->ie,mem_of_lookup->jf,binaryOp->c5,wpAny_forIn_list->ip,codeAny->cO,behindInMarks->gO,wpAny_eqIsQuiet_tuple->kc,foldedSetIterable->jk,ofAClassStatement->jo,carriedByValue->iq,wpAny_setField->iw,swapsWith->eM,filterMap_getElem?_range->lX,letOwnedTupleGo->ju,Builtin->dr,wpAny_updateSeq->jx,codeAny_mono->iC,NameKind->eO,isSubtype_type->jy,wpAny_execs_nil->kK,call_meetsIn->jC,wpAny_typeOf->jD,wpAny_pyIter_tuple->mf,tupleKind_room_in1->mm,wpAny_seqItems->kO,wpAny_pyHash_tuple->mx,wpAny_Call_method->mG,wpAny_storeSet_of->mI,wpAny_pyIter_slot->mJ,Paired->gX,wpAny_newList->kU,Scope->c7,noFill_tuple_add->mM,wpAny_askSetting->mS,wpAny_isInstance->mU,Keyword->fY,wpAny_loadPart'->pM,wpAny_isTrue_Compare1->pN,wpAny_isSame_ref_self->pO,builtinLookup_eq_fast->pT,wpAny_runValue->m6,entryFor_alias->m8,codeAny_extend_loopS->pX,typeIs_none->k7,PassesOwn->jK,seq_tuple_add->nu,wpAny_eqBool_tuple->qk,Within->nG,BindsTo->iM,concat_meets->nL,slot_list_getitem->qq,wpAny_pyIter_dict->qu,wpAny_setEpoch_of->qA,wpAny_execs_cons->qD,wpAny_pyIter_zip->qJ,seqIndex_of->nX,codeAny_of_tree->qT,typeLookup_type->qZ,wpAny_Name->oa,wpAny_load->oe,wpAny_call->og,PlainAttrs->oj,call_meets->om,meets_dict_get->rj,call->oo,boot_len->rA,wpAny_newTuple->rD,wpAny_rule->oq,KeyKind->rJ,intBits_le_64->rK,evalPart_none->rM,call_list_seq->rO,wpAny_standAt->rP,signature?_of->rU,SetFound->oB,Result->lp
open PySem.Heap renaming get?_push_of_some->aJ,get?_push_size->bq,lt_size->aM,get?_update_self->eX,size_push->cY,get?_update_other->gm,SameBut->fD
open Prod renaming fst->ai,snd->bI
open Nat renaming le_refl->aF,ne_of_lt->aW,lt_of_lt_of_le->cF,le_of_ble_eq_true->cP,zero_le->bM,le_trans->cg,lt_succ_self->cQ,lt_succ_of_lt->cX,le_add_right->fw,lt_irrefl->eF,le_of_lt_succ->gz,ne_of_gt->eJ,min_eq_left->gG,le_of_lt->fC,min_self->fE,succ_pos->fF,lt_of_le_of_lt->jj,ble_eq->eK,mod_lt->eL,lt_trichotomy->jr,add_right_comm->kz,le_succ->iF,sub_self->jE,ble->eR,zero_add->kW,lt_trans->kX,pow_succ->kY,beq->iK,le_of_eq->nH,le_of_succ_le->qB,succ_le_succ->qH,le_of_not_lt->qI,min_le_left->qR,not_lt_zero->ra,beq_refl->rW,add_comm->r9,lt_or_ge->sk,sub_sub->sA
open Bool renaming and_eq_true->bt,false_ne_true->bB,eq_iff_iff->dO,false_eq_true->ic,not_eq_true'->il,eq_false_iff->jq,or_eq_false_iff->ko,or_eq_true->kM,not_eq_true->mV,and_eq_true_iff->p6,or_true->nR,false_and->rh,or_false->rN,rec->ox
open Array renaming length_toList->bK,getElem?_toList->cp,getElem?_eq_getElem->c8,getD_eq_getD_getElem?->fN,getElem?_eq_some_iff->j5,forIn_toList->mw,perm_iff_toList_perm->pd,toList_push->mK,size_setIfInBounds->pD,toList_filterMap->pJ,replicate->mZ,size_eq_one_iff->pU,size_map->rG,toList->rX,filter->sd,map->sN
open PySem.W renaming Frag->ay,kia_one->cU,kitOne->c6,emptyDict->fG,kas_descPart->fW,findIn->dB,keepIn->dS,kas_count->fH,instObj->fX,kas_asc->dU,callWith_K->jB,kas_tail3->gW,kas_rev->fI,kas_place->iG,kas_sort->gY,kitx_dict->k6,fnOf->fJ,codeIn->iH,OpenLaw->iI,kas_desc->iJ,plainGet_of->ni,plainGet->k8,kat_cons->jL,cellsFrom_some->qE,methodObj->nU,hasDictIn->nV,kitx_list->nW,methodCall_KW->qQ,kas_ask->jO,lookIn->lb,callWith_K0->rL,takerIn->ou,kitx_tuple->rY,kat_yes->lg,nsIn->jP,mg_of->lh,plainOver->sr,specialIn->su,isFn->lj
open PySem.SetTable renaming below->bE,insertAt->cj,turns->cv,runEnd->cH,bits->cJ,Probe->cR,advance->gA,fits->gR,grown->ir,has->gU,fill->iz,insertAt_perm->l3,fresh->kP,slot->kR,gaveWay->mQ,tooFull->mR,leap->nz,sizeAbove->qp,put->nM,layClean->qC,probe->rq,laid->rV
open PySem.SetTable.probe renaming go->cz
open Int renaming eq_ofNat_of_zero_le->c9,toNat_natCast->ik,natCast_nonneg->mj,emod_lt_of_pos->mB,emod_nonneg->m5,negSucc_lt_zero->p8,max_eq_right->qF,min_eq_left->qO,ofNat_le->rZ,le_of_lt->r6,le_refl->sI
open PyProof.Rows.F renaming plain_set_update_loop->du,entry_set_update_loop->gh
open PySem.Around renaming under_plainId->dv,in1_units->kH,under->nI
open Option.some renaming inj->cM,injEq->vb
open PySem.SetTable.layClean renaming free->eB
open PySem.Heap.SameBut renaming update->dJ
open PySem.SetTable.below renaming go->dN
open PySem.Obj renaming data_mapFields->fP,mapSeq->c4,mapFields->gS,isFreed_of_fields->kh,cls_mapFields->mL,putSet->k9
open List.Sublist renaming refl->fQ,append->u4,map->vg
open Ne renaming symm->b0
open PySem.Calls renaming spliced_cons->gq,callWith_builtin->je,spliced_nil->ig,evalArgs_plain->kl,call_function_entry->lV,Name_function_global->pb
open Classical renaming propDecidable->jd,byContradiction->ph,choose_spec->pW
open False renaming elim->di
open PySem.Builtin.List renaming listExtendWith->j3,listLengthHint->j4,listTooLong->j7,listSameRef->j8
open Option renaming map_some->gB,getD_some->mP,bind_eq_some_iff->pE,map_eq_some_iff->pG,map->la,getD_none->qN
open PySem.F renaming called_set->fV,plainAttrs_list->jt,slot_NoneType_hash->kr,slot_dict_get->jw,plainAttrs_dict->kE,plain_list_iadd->kF,sub_list_frozenset->l6,slot_dict_itemiterator_iter->o8,args_tuple_add_2->mh,slot_list_append->ml,entry_tuple_add->mD,args_dict_get_2->mF,slot_tuple_add->mN,entry_dict_get->mO,slot_dict_setdefault->pH,slot_list_pop->mW,entry_proto_collect->pR,plain_proto_collect->pS,sub_list_set->m7,plain_extend_loop->qe,slot_list_extend->qj,type_list_append->ql,slot_tuple_hash->qt,slot_dict_items->qv,entry_list_iadd->qz,type_dict_get->qP,plain_set_new->qU,type_list_pop->qX,slot_set_iter->q9
open PyProof.Rows renaming StrsAre->kq,AllBare->eP,subscriptTail_builtinR->pF,entry_list_sort->mY,slot_list_sort->m9,args_list_sort->ng,lt_str->qd,IsTup->dW,listUpdate_at->nD,plain_sorted->nN,entry_sorted->nO,args_sorted1->nP,seqEpoch_at->nY,kind_sorted->nZ,boot_sorted->n4,get?_update_seq->qV,boot_isinstance->qW,list_sort_treeK->qY,IntsAre->jM,Subscript_->oh,sorted_out_str->rE,sortedHeap_old->rF,strKind_oneLt->rS,sortedHeap_at->rT
open PySem.SeqAt.EqAt renaming same->jv,str_str->kB,of_refs->mr,none_int->p9,none_str->qa,int_none->qb,str_none->qc,int_str->qf,str_int->qg,tuple_none->uA,tuple_bool->uB,tuple_list->uC,list_tuple->uD,none_tuple->uE,bool_tuple->uF,none_bool->uH,bool_none->uI,bool_bool->uJ,tuple_int->uK,tuple_str->uL,list_none->uM,list_bool->uN,none_list->uO,bool_list->uP,int_tuple->uQ,str_tuple->uR,bool_int->uS,bool_str->uT,int_bool->uU,str_bool->uV,list_int->uW,list_str->uX,int_list->uY,str_list->uZ,int_int->u6
open PySem.Shared renaming TypeIs->jz
open Nat.succ renaming inj->jF
open LawfulBEq renaming eq_of_beq->gV
open List.Perm renaming refl->kQ,eq_of_pairwise->pB
open Sum.inr renaming inj->jG
open PySem.Moved renaming trans->jH
open PySem.AutoSeq1 renaming sub_tuple_tuple->pz,wpAny_loadPart'->pA
open PySem.SeqAt renaming EqAt->jI,in_tupleAt->qG
open PySem.Walks renaming list->jJ,dictKeys->rB,tuple->sC
open PySem.Paired renaming length->nh,snoc->sy
open List.cons renaming inj->nE
open PySem.Code renaming isFrame->nJ,frames->sv
open PySem.Builtin.Tuple renaming tupleCompareSizes->tP
open Prod.mk renaming inj->nS
open PySem.Value renaming scannable->qS,isStrOf->rH,isInt->sq
open PySem.Builtin.Frozenset renaming updateFrom->tQ,newClass->tS,sizeOf->uw,slot0->uy
open PySem.PassesOwn renaming never->rg
open PySem.Txt renaming mul->jN
open PySem.SeqAt.RcNeAt renaming lists_lengths->tR,tuples->u0,lists->u7
open PySem.EqNone renaming eq_none_none->tT,eq_none_bool->tU,eq_bool_none->tV,ne_none_none->tZ,ne_none_bool->t8,ne_bool_none->ua,eq_none_int->ud,eq_none_str->ue,eq_int_none->uf,eq_str_none->uh,ne_none_int->uj,ne_none_str->um,ne_int_none->uo,ne_str_none->ur
open PySem.EqMixed renaming eq_bool_str->tW,eq_str_bool->tY,ne_bool_str->ub,ne_str_bool->uc,eq_int_str->ug,eq_str_int->ui,ne_int_str->uq,ne_str_int->uu
open PySem.SeqAt.RcAt renaming lists_lengths->uv,tuples->vc,lists->ve
open PySem.Pv renaming boot_tuple->rR,boot_list->sf,boot_set->sE,boot_int->sG
open PySem.Builtin.Range renaming rangeSize->ux
open PySem.W.KatTups renaming cons->se,nil->sF
open PySem.pickOrder renaming go->sh
open PySem.Str renaming ofString->sj,length->sJ
open List.Pairwise renaming sublist->uG,map->vd
open PySem.ItemsOf renaming nil->sH
open PySem.Heap.IsSliceOf renaming new->u5
open PySem.W.WShape renaming has->sL
open List.Nodup renaming sublist->u9
open PySem.Within renaming cons->va
open Iff renaming rfl->oE
open PyProof.Rows.IsTup renaming new->sM
open PySem.Heap.DictOf renaming new->vm
open PySem.Value.type renaming inj->vn
def af:=@if_pos
def ah:=@if_neg
def aI:=@decide_eq_true
def aL:=@decide_eq_false
def au:=@absurd
def bj:=@of_decide_eq_true
def bV:=@decide_eq_true_eq
def aX:=@congrArg
def Eq.t:=@Eq.trans
def Iff.t:=@Iff.trans
def List.Perm.t:=@List.Perm.trans
def PySem.Heap.SameBut.t:=@PySem.Heap.SameBut.trans
def PySem.Moved.t:=@PySem.Moved.trans
abbrev dF:=List (PySem.Addr×PySem.Obj)
abbrev aC:=List PySem.Str
set_option Elab.async false
set_option linter.all false
namespace L5
open PySem PySem.W
noncomputable def D0(l:List Obj):Nat->List Addr->List Obj:=
 @sO Obj (λ_=>Nat->List Addr->List Obj) (λ_ _=>[])
  (λo _ b i as=>@sO Addr (λ_=>List Obj) [] (λa r _=>@ox (λ_=>List Obj) (b (Nat.succ i) as) (o::b (Nat.succ i) r) (iK a i)) as) l
def QT(i:Nat)(as:List Addr):D0 [] i as=[]:=rfl
def U0(o:Obj)(l:List Obj)(i:Nat)(r:List Addr):D0 (o::l) i (i::r)=o::D0 l (i+1) r:=by show @ox (λ_=>List Obj) _ _ (iK i i)=_;rw[rW];rfl
def U1(o:Obj)(l:List Obj)(i a:Nat)(r:List Addr)(h:a≠i):D0 (o::l) i (a::r)=D0 l (i+1) (a::r):=by
 show @ox (λ_=>List Obj) _ _ (iK a i)=_;have:iK a i=δ:=by
  cases q:iK a i with
  |false=>rfl
  |true=>exact au (Nat.eq_of_beq_eq_true q) h
 rw[this];rfl
theorem JL:∀(l:List Obj) (i:Nat) (as:List Addr),(D0 l i as).length=as.length->∀j (c:j<as.length),∃b,as[j]=i+b/\l[b]?=(D0 l i as)[j]?
 |[],i,as,h,j,c=>by rw[QT]at h;simp at h;omega
 |o::l,i,[],h,j,c=>by simp at c
 |o::l,i,a::r,h,j,c=>by
  by_cases q:a=i
  .subst q;rw[U0]at h ⊢;cases j with
   |zero=>exact#v[0,J,J]
   |succ j=>obtain⟨b,d,e⟩:=JL l (a+1) r (by simpa using h) j (by simpa using c);exact#v[b+1,by rw[List.getElem_cons_succ,d];exact kz a 1 b,by simpa using e]
  .rw[U1 _ _ _ _ _ q]at h ⊢;obtain⟨b,d,e⟩:=JL l (i+1) (a::r) h j c;exact#v[b+1,by rw[d];exact kz i 1 b,by simpa using e]
def live(o:Obj):Bool:=match o with|#v[_,_,.freed,_]=>δ|_=>γ
def U2{h:Heap}{as:List Addr}{K:Frag}(e:as=K.map (·.1))(x:(D0 h.objs.toList 0 as,K.all λp=>live p.2)=(K.map (·.2),γ)):K.In h:=by
 obtain⟨i,r⟩:=nS x;refine Frag.in_of e (mC λj=>?_);rw[br,br];by_cases a:j<as.length
 .have q:(D0 h.objs.toList 0 as).length=as.length:=by rw[i,e,ak,ak]
  obtain⟨b,l,m⟩:=JL _ _ _ q j a;have f:j<K.length:=by rw[e,ak]at a;exact a
  rw[aH a,aH f,gB,gB,l,kW];have o:h.objs[b]?=U (K[j].2):=by rw[<-cp,m,i,br,aH f];rfl
  have lv:live K[j].2=γ:=bF.1 r _ (cI f);refine aX U ?_;unfold Heap.get?;rw[o];revert lv;cases K[j].2 with
  |mk c d data t=>cases data<;>intro lv<;>first|rfl|cases lv
 .rw[gn (by omega),gn (by rw[e,ak]at a;omega)];rfl
noncomputable def acW(K:Params->Frag) (as:List Addr) (e:∀P,as=(K P).map (·.1)):Hook:=
 #v[List Obj×Bool,λs=>(D0 s.heap.objs.toList 0 as,γ),λw=>((K w.params).map (·.2),(K w.params).all λp=>live p.2),InK K,λw s x=>U2 (e w.params) (by
  obtain⟨a,b⟩:=nS x;rw[a,<- b]),InK.keeps]
end L5
section
open PySem PySem.W PyProof.Rows
local macro_rules|`(tactic|o_head ($f:ident $k $as $e))=>`(tactic|o_head ((L5.acW $k $as (fun _=>by kernel_rfl)):W.Hook))
local macro_rules|`(command|#where)=>do
 let mut r:=#[]
 for (k,l) in [("o",List.range' 43 1667),("sts",[49,128,189,205,248,291,334,377,420,463,499,542,592,646,662,712,762,783,828,851,875,902,966,1037,1096,1185,1274,1276,1505,1588,1672]),("tree",[47,127,188,204,247,290,333,376,419,462,498,541,591,645,661,711,761,782,827,850,874,901,965,1036,1095,1184,1273,1274,1416,1501,1587,1671,1709]),("heap",[39,46,1710]),("view",[39])] do
  for n in l do
   let x:=Lean.mkIdent (.mkSimple s!"tw{((Lean.Name.mkSimple "hd").str s!"{k}_{n}").hash}")
   r:=r.push ((<-`(command|noncomputable def $x:ident:=0)).raw.rewriteBottomUp (·.setInfo .none))
 return Lean.mkNullNode r
noncomputable section
namespace PySem.W.Fast
def tw3127309013460381207:=0
#where
end PySem.W.Fast
end
def zvp:=PySem.Challenge.pw_tellworld_k28_whole_deeds_hang_on_their
noncomputable def zvq:=view zvp [171]
local macro_rules|`(tactic|refine $t)=>do
 if t.raw[0].getId != ``PySem.W.holds_open||t.raw[1][0][3].getId.eraseMacroScopes== `zvq then Lean.Macro.throwUnsupported
 let n:=fun (i:Nat) (x:Lean.Term) (a:Array Lean.Syntax)=>a.set! i (a[i]!.setArg 3 x)
 `(tactic|refine $(Lean.TSyntax.mk (t.raw.setArg 1 (Lean.mkNullNode (n 0 (<-`(zvq)) (n 1 (<-`(zvp.boundNames)) (n 2 (<-`(fun s=>xlAt zvq [] s&&recOk [] s)) (n 3 (<-`(XL zvq [])) t.raw[1].getArgs))))))))
set_option maxRecDepth 100000 in
set_option maxHeartbeats 0 in
open_top hd for PySem.Challenge.rw_tellworld_k28_whole_deeds_hang_on_their
end
section
local macro_rules|`(tactic|erw[$a,*]$[$l]?)=>do
 let b:=a.getElems.map fun x=>(⟨x.raw[1]⟩:Lean.Term)
 `(tactic|simp only[$[$b:term],*]$[$l]?)
local macro_rules (kind:=Lean.Parser.Tactic.tacticLet__)|s=>do
 let d:=s[2][0]
 if d.getKind != ``Lean.Parser.Term.letPatDecl then Lean.Macro.throwUnsupported
 let n:=fun k=>Lean.Syntax.node .none (`Lean.Parser.Tactic++k)
 let z:=fun a=>Lean.mkNullNode a
 let m:=fun t=>n `rcasesPatMed #[z #[t]]
 let p:=d[0].rewriteBottomUp fun t=>
  if t.isIdent then n `rcasesPat.one #[t] else
  if t.getKind== ``Lean.Parser.Term.hole then n `rcasesPat.ignore #[t[0]] else
  if t[0].getAtomVal∈["⟨","#v["] then n `rcasesPat.tuple #[Lean.mkAtom "⟨",z (t[1].getArgs.map fun x=>if x.isAtom then x else n `rcasesPatLo #[m x,z #[]]),Lean.mkAtom "⟩"] else t
 return n `obtain #[Lean.mkAtom "obtain",z #[m p],z d[2][0].getArgs,z #[Lean.mkAtom ":=",z #[d[4]]]]
local macro_rules (kind:=Lean.Elab.Tactic.Ext.ext)|s=>do let x:Lean.Term:=⟨s[1][0][0][0]⟩;`(tactic|cases $x:term)
local macro_rules|`(tactic|calc $t:term)=>`(tactic|refine $t)
local macro_rules|`(tactic|show $t:term)=>`(tactic|exact $t)
local macro_rules|`(~~~$s)=>`(($s).heap.objs.size)
local macro_rules|`(())=>`(by omega)
local macro_rules|`(#[])=>`(by decide)
local macro_rules|`(tactic|exists $t)=>`(tactic|simpa using $t)
local macro_rules (kind:=Lean.Parser.Tactic.delta)|s=>return .node .none ``Lean.Parser.Tactic.unfold (s.getArgs.set! 0 (Lean.mkAtom "unfold"))
local macro_rules|`(command|#print $i:ident)=>if i.getId== `h then `(command|set_option tactic.hygienic true) else `(command|set_option tactic.hygienic false)
#print f
set_option maxRecDepth 100000
namespace L2
open PySem PySem.Spec PyProof.Rows
abbrev ee:=Sum Int Str
def GL:ee->aa->Bool
 |.inl k,v=>sq k v
 |.inr x,v=>rH x v
def keyH(w:aQ):ee->Int
 |.inl k=>hashInt k
 |.inr x=>hashStr w x
def wD:∀{k:ee} {v:aa},GL k v=γ->(∃i t,k=Sum.inl i/\v=Value.int i t)\/(∃x t,k=Sum.inr x/\v=Value.str x t)
 |.inl i,v,h=>by let#v[t,e]:=Value.isInt_shape (k:=i) (v:=v) h;show .inl #v[i,t,J,e]
 |.inr x,v,h=>by let#v[t,e]:=Value.isStrOf_shape (x:=x) (v:=v) h;show .inr #v[x,t,J,e]
def Pz(i:Int)(t:Tok):GL (.inl i) (.int i t)=γ:=by simp[GL,sq]
def PB(x:Str)(t:Tok):GL (.inr x) (.str x t)=γ:=by simp[GL,rH]
def YW(a b:Int):decide ((Sum.inl a:ee)=Sum.inl b)=(a==b):=by
 by_cases e:a=b
 .subst e;simp
 .have h:¬(Sum.inl a:ee)=Sum.inl b:=λq=>e (Sum.inl.inj q);rw[aL h];show(beq_eq_false_iff_ne.2 e).symm
def YX(a b:Str):decide ((Sum.inr a:ee)=Sum.inr b)=decide (a=b):=by
 by_cases e:a=b
 .subst e;simp
 .have h:¬(Sum.inr a:ee)=Sum.inr b:=λq=>e (jG q);rw[aL h,aL e]
#print "Y Int Str l r;Z Str Int r l" in def Yϑ0(a:ϑ1)(b:ϑ2):decide ((Sum.inϑ3 a:ee)=Sum.inϑ4 b)=δ:=aL (λq=>nomatch q)
def vG(prog:bb)(w:aQ):rJ prog w ee where
 is:=GL
 hash:=keyH w
 inj:=λv a b ha d=>by
  rcases wD ha with ⟨i,t,rfl,rfl⟩|⟨x,t,rfl,rfl⟩
  .rcases wD d with ⟨j,u,rfl,e⟩|⟨y,u,rfl,e⟩
   .injection e with c _;rw[c]
   .show nomatch e
  .rcases wD d with ⟨j,u,rfl,e⟩|⟨y,u,rfl,e⟩
   .show nomatch e
   .injection e with c _;rw[c]
 byValue:=λk v h=>by rcases wD h with ⟨i,t,rfl,rfl⟩|⟨x,t,rfl,rfl⟩<;>rfl
 pyHash:=λhv h=>by
  rcases wD hv with ⟨i,t,rfl,rfl⟩|⟨x,t,rfl,rfl⟩
  .show wpAny_pyHash_int h
  .show wpAny_pyHash_str h
 eqBool:=λf hv h=>by
  rcases wD f with ⟨i,t,rfl,rfl⟩|⟨x,t,rfl,rfl⟩
  .rcases wD hv with ⟨j,u,rfl,rfl⟩|⟨y,u,rfl,rfl⟩
   .rw[YW]at h;show wpAny_eqBool_int h
   .rw[YY]at h;show qf i t y u _ _ _ _ h
  .rcases wD hv with ⟨j,u,rfl,rfl⟩|⟨y,u,rfl,rfl⟩
   .rw[YZ]at h;show qg x t j u _ _ _ _ h
   .rw[YX]at h;show wpAny_eqBool_str h
 «strs»:=λk x t v h=>by
  rcases wD h with ⟨i,u,rfl,e⟩|⟨y,u,rfl,e⟩
  .show nomatch e
  .injection e with c _;subst c;ext v<;>rfl
#print "0 i Int l int z;1 x Str r str B" in def Kϑ0(prog:bb)(w:aQ)(ϑ1:ϑ2)(t:Tok):(vG prog w).is (.inϑ3 ϑ1) (.ϑ4 ϑ1 t)=γ:=Pϑ5 ϑ1 t
inductive V where
 |cx|bl (b:Bool)|int (i:Int)|str (x:Str)|O (b:Array UInt8)|flt (b:UInt64)|ref (a:Addr)|ty (n:String)
 deriving DecidableEq
abbrev bA:=List V
def ea:V->aa->Prop
 |.cx,u=>u=Value.none
 |.bl b,u=>u=Value.bool b
 |.int i,u=>∃t,u=Value.int i t
 |.str x,u=>∃t,u=Value.str x t
 |.O b,u=>∃t,u=Value.bytes b t
 |.flt b,u=>∃t,u=Value.float b t
 |.ref a,u=>u=Value.ref a
 |.ty n,u=>u=Value.type n
abbrev d?:bA->List aa->Prop:=gX ea
theorem d?.length(r:d? xs a):xs.length=a.length:=nh r
theorem d?.get:∀{xs:bA} {a:List aa} {i:Nat} {x:V},d? xs a->xs[i]?=U x->∃u,a[i]?=U u/\ea x u
 |_,_,_,_,.nil,e=>by simp at e
 |_,_,0,_,.cons r _,e=>by simp at e;subst e;show#v[_,J,r]
 |_,_,i+1,x,.cons _ t,e=>by let#v[u,b,c]:=d?.get (i:=i) (x:=x) t (by exists e);show#v[u,by simpa using b,c]
theorem d?.set(r:ea x u):∀{b:bA} {a:List aa} (i:Nat),d? b a->d? (b.set i x) (a.set i u)
 |_,_,_,.nil=>.nil
 |_,_,0,.cons _ t=>.cons r t
 |_,_,i+1,.cons q t=>.cons q (d?.set r i t)
theorem d?.append:∀{c d:bA} {a b:List aa},d? c a->d? d b->d? (c++d) (a++b)
 |_,_,_,_,.nil,s=>s
 |_,_,_,_,.cons r t,s=>.cons r (d?.append t s)
theorem d?.take:∀{xs:bA} {a:List aa} (n:Nat),d? xs a->d? (xs.take n) (a.take n)
 |_,_,0,_=>.nil
 |_,_,_+1,.nil=>.nil
 |_,_,n+1,.cons r t=>.cons r (d?.take n t)
theorem d?.drop:∀{xs:bA} {a:List aa} (n:Nat),d? xs a->d? (xs.drop n) (a.drop n)
 |_,_,0,r=>r
 |_,_,_+1,.nil=>.nil
 |_,_,n+1,.cons _ t=>d?.drop n t
def Cn:Option V->Option aa->Prop
 |some v,U u=>ea v u
 |none,Z=>True
 |_,_=>False
def KV{a:Type}:List (a×V)->List (a×aa)->Prop:=gX λ(p:a×V) (q:a×aa)=>p.1=q.1/\ea p.2 q.2
def kV:ee->V
 |.inl i=>.int i
 |.inr x=>.str x
inductive HO where
 |ax (xs:bA)
 |bx (xs:bA)
 |dK (kvs:List (ee×V))|dT (kvs:List (List ee×V))
 |set (S:Int->Bool) (n:Nat)
 |nj (C dx:Addr) (fs:List (Str×V))
 |g? (x:Addr)
 |xd (fs:List (Str×V))
 |met (f x:Addr)
 |rng (lo hi:Int)
 |l? (o:Obj) (u:HO)
 |tbl (ps:Array aa)
 |ext (φ:Heap->Prop)
abbrev Hp:=Addr->Option HO
def el(H:Hp)(a:Addr)(o:HO):Hp:=λb=>if b=a then U o else H b
def vB:el H a o a=U o:=by delta el;rw[af J]
def vC(h:b≠a):el H a o b=H b:=by delta el;rw[ah h]
def acY{H:Hp}{a b:Addr}{o u:HO}(h:H a=U o)(c:H b=U u)(d:o≠u):a≠b:=by intro e;subst e;rw[h]at c;show d (cM c)
def ya{H:Hp}{a b:Addr}{o:HO}(h:H a=U o)(c:H b=Z):a≠b:=by intro e;subst e;rw[h]at c;ext c
section
variable(P:bb)(w:aQ)
def eu(H:Hp)(h:Heap)(a:Addr):HO->Prop
 |.ax c=>c.length<=aS/\∃(b:List aa) (n:Nat),d? c b/\h.get? a=U { cls:=.type "list", data:=.seq b.toArray n }
 |.bx c=>c.length<=aS/\∃b:List aa,d? c b/\dW h a b.toArray/\∀o,h.get? a=U o->o.dict=Z
 |.dK kvs=>kvs.length<=aS/\(a==cZ)=δ/\∃m,KV kvs m/\h.DictOf (vG P w) a m
 |.dT kvs=>kvs.length<=aS/\(a==cZ)=δ/\∃c:List (List ee×Addr×aa),
   gX (λ(p:List ee×V) (q:List ee×Addr×aa)=>p.1=q.1/\H q.2.1=U (.bx (p.1.map kV))/\ea p.2 q.2.2) kvs c/\
   ∃o i r,h.get? a=U o/\o.ExactDict/\o.data=.dict i r/\i.toList=c.map (entryOfKey (tupleKind (vG P w)))/\(c.map (·.1)).Nodup
 |.set S n=>h.SetOf (intKind P w) a S n
 |.nj C d fs=>H d=U (.g? a)/\fs.length<=1000/\d≠a/\h.get? a=U (fX C d)/\
   ∃mA,h.Ns1 d mA/\(∀f,Cn (fs.lookup f) (mA f))/\nG mA (fs.map (·.1))
 |.g? _=>∃o,h.get? a=U o
 |.xd fs=>∃mA,h.Ns1 a mA/\∀f,Cn (fs.lookup f) (mA f)
 |.rng lo y=>∃t u v,h.get? a=U { cls:=.type "range", data:=.fields #[.int lo t,.int y u,.int 1 v] }
 |.l? o u=>h.get? a=U o/\eu H h a u
 |.tbl z=>h.get? a=U { cls:=.none,data:=.fields z }
 |.met f x=>h.get? a=U (nU (.ref f) (.ref x))
 |.ext e=>e h/\(∃o,h.get? a=U o)/\∀j l:Heap,e j->(∀o,j.get? a=U o->l.get? a=U o)->e l
def tj(H:Hp)(h:Heap):Prop:=∀a o,H a=U o->eu P w H h a o
end
section
variable{P:bb}{w:aQ}{H H':Hp}{h h':Heap}{a:Addr}{o:HO}
theorem eu.lt(x:eu P w H h a o):a<h.objs.size:=by
 cases o with
 |ax b=>let#v[_,_,_,_,e]:=x;show aM e
 |bx b=>let#v[_,_,_,p,_]:=x;show p.lt
 |dK kvs=>let#v[_,_,_,_,o,_,_,e,_]:=x;show aM e
 |dT kvs=>let#v[_,_,_,_,o,_,_,e,_]:=x;show aM e
 |set S n=>let#v[o,_,_,_,e,_]:=x;show aM e
 |nj C c fs=>let#v[_,_,_,e,_]:=x;show aM e
 |g? y=>let#v[_,e]:=x;show aM e
 |xd fs=>let#v[_,#v[_,_,_,e,_],_]:=x;show aM e
 |rng lo d=>let#v[_,_,_,e]:=x;show aM e
 |l? i u=>let#v[e,_]:=x;show aM e
 |tbl j=>show aM (show h.get? a=U _ from x)
 |met f y=>show aM (show h.get? a=U _ from x)
 |ext l=>let#v[_,#v[_,e],_]:=x;show aM e
theorem Paired.mapP{e i:Type}{F G:e->i->Prop}:∀{c:List e} {d:List i},gX F c d->(∀a b,F a b->G a b)->gX G c d
 |_,_,.nil,_=>.nil
 |_,_,.cons r t,f=>.cons (f _ _ r) (Paired.mapP t f)
def eu.wh(x:eu P w H h a o)(k:∀b u,(b=a\/H b=U (.g? a))->h.get? b=U u->h'.get? b=U u)
  (G:∀b,H b=U (.g? a)->H' b=U (.g? a)) (I:∀b xs,H b=U (.bx xs)->H' b=U (.bx xs)):eu P w H' h' a o:=by
 induction o with
 |ax xs=>let#v[z,m,n,r,e]:=x;show#v[z,m,n,r,k _ _ (.inl J) e]
 |bx xs=>let#v[z,m,r,#v[i,e,c],f]:=x;show#v[z,m,r,#v[i,k _ _ (.inl J) e,c],λR B=>by rw[k _ _ (.inl J) e]at B;ext B;show f _ e]
 |dK kvs=>let#v[z,y,N,r,i,l,j,e,c]:=x;show#v[z,y,N,r,i,l,j,k _ _ (.inl J) e,c]
 |dT kvs=>let#v[z,y,xs,r,i,l,j,e,c]:=x;show#v[z,y,xs,Paired.mapP r λp q z=>#v[z.1,I _ _ z.2.1,z.2.2],i,l,j,k _ _ (.inl J) e,c]
 |set S n=>let#v[i,l,j,t,e,c]:=x;show#v[i,l,j,t,k _ _ (.inl J) e,c]
 |nj C O fs=>let#v[d,z,ne,e,mA,#v[A,l,j,F,c],r]:=x;show#v[G _ d,z,ne,k _ _ (.inl J) e,mA,#v[A,l,j,k _ _ (.inr d) F,c],r]
 |g? y=>let#v[i,e]:=x;show#v[i,k _ _ (.inl J) e]
 |xd fs=>let#v[mA,#v[A,l,j,e,c],r]:=x;show#v[mA,#v[A,l,j,k _ _ (.inl J) e,c],r]
 |rng lo Q=>let#v[t,u,v,e]:=x;show#v[t,u,v,k _ _ (.inl J) e]
 |l? i u M=>let#v[e,q]:=x;show#v[k _ _ (.inl J) e,M q]
 |tbl E=>have e:h.get? a=U { cls:=.none,data:=.fields E }:=x;change h'.get? a=U { cls:=.none,data:=.fields E };show k a _ (.inl J) e
 |met f y=>have e:h.get? a=U (nU (.ref f) (.ref y)):=x;change h'.get? a=U (nU (.ref f) (.ref y));show k a _ (.inl J) e
 |ext T=>let#v[p,#v[o,e],st]:=x;show#v[st _ _ p λo q=>k _ _ (.inl J) q,#v[o,k _ _ (.inl J) e],st]
theorem tj.lt(x:tj P w H h)(e:H a=U o):a<h.objs.size:=(x a o e).lt
def tj.fresh(x:tj P w H h)(e:h.objs.size<=a):H a=Z:=by
 cases q:H a with
 |none=>rfl
 |some u=>show au (cF (x.lt q) e) (eF _)
def tj.f?(x:tj P w H h)(k:∀b u,h.get? b=U u->h'.get? b=U u):tj P w H h':=λa o e=>
 (x a o e).wh (λb u z q=>k b u q) (λz q=>q) λz z q=>q
def tj.laid(x:tj P w H h)(k:∀b u,h.get? b=U u->h'.get? b=U u)(i:h.objs.size<=a)(new:eu P w (el H a o) h' a o):tj P w (el H a o) h':=λb u e=>by
 have f:=x.fresh i;by_cases d:b=a
 .subst d;rw[vB]at e;ext e;show new
 .rw[vC d]at e;show(x b u e).wh (λc v z q=>k c v q) (λc q=>by rw[vC (ya q f)];show q) λc j q=>by rw[vC (ya q f)];show q
end
def Rd(H:Hp)(a:Addr)(u:HO):Prop:=H a=U u\/∃o,H a=U (.l? o u)
def Rd.ok(r:Rd H a u)(x:tj P w H h):eu P w H h a u:=by
 rcases r with r|⟨o,r⟩
 .show x a u r
 .let#v[_,q]:=x a _ r;show q
def Mut:Option HO->Prop
 |some (.ax _)=>True
 |some (.dK _)=>True
 |some (.dT _)=>True
 |some (.set _ _)=>True
 |some (.nj _ _ _)=>True
 |some (.ext _)=>True
 |_=>False
section
variable{P:bb}{w:aQ}{H:Hp}{h h':Heap}{x e:Addr}{o':HO}
def tj.z6(ok:tj P w H h)(f:Mut (H x))(j:e=x\/H e=U (.g? x))(k:∀b u,b≠e->h.get? b=U u->h'.get? b=U u)(heo:∃u,h'.get? e=U u)
  (new:eu P w (el H x o') h' x o'):tj P w (el H x o') h':=λb u q=>by
 have nown:∀c y,H c=U (.g? y)->c≠x:=λc y r z=>by subst z;rw[r]at f;show f
 have ntup:∀c i,H c=U (.bx i)->c≠x:=λc i r z=>by subst z;rw[r]at f;show f
 by_cases a:b=x
 .subst a;rw[vB]at q;ext q;show new
 .rw[vC a]at q;by_cases hbe:b=e
  .have l:H b=U (.g? x):=by
    rcases j with z|z
    .show au (hbe.t z) a
    .rw[hbe];show z
   rw[q]at l;ext l;let#v[v,m]:=heo;show#v[v,by rw[hbe];show m]
  .refine(ok b u q).wh (λc v d r=>k c v ?_ r) (λc r=>by rw[vC (nown c b r)];show r) λc i r=>by rw[vC (ntup c i r)];show r
   rcases d with rfl|d
   .show hbe
   .rintro rfl;rcases j with z|z
    .show nown c b d z
    .rw[d]at z;ext z;show a J
end
structure Un(fs ex:List Addr)(H H':Hp)(h h':Heap):Prop where
 keep:∀b o,h.get? b=U o->H b=Z->b∉fs->b∉ex->h'.get? b=U o
 slot:∀b o,h.get? b=U o->H b=Z->b∈fs->b∉ex->∃sl,h'.get? b=U { o with slots:=sl }
 free:∀b o,h.get? b=U o->H b=Z->b∉ex->H' b=Z
 there:∀b o,h.get? b=U o->b∉ex->∃o',h'.get? b=U o'
 oz:∀b xs,H b=U (.bx xs)->H' b=U (.bx xs)
 t?:∀b o u,H b=U (.l? o u)->H' b=U (.l? o u)
 xo:∀b ps,H b=U (.tbl ps)->∃more,H' b=U (.tbl (ps++more))
section
variable{fs fs' ex ex':List Addr}{H H1 H2:Hp}{h h1 h2 h':Heap}{a x e:Addr}{o:HO}
def Un.any(u:Un fs ex H H1 h h1)(q:h.get? b=U ob)(n:H b=Z)(d:b∉ex):∃sl,h1.get? b=U { ob with slots:=sl }:=by
 by_cases c:b∈fs
 .show u.slot b ob q n c d
 .show#v[ob.slots,u.keep b ob q n c d]
def Un.f?(k:∀b u,h.get? b=U u->h'.get? b=U u):Un fs ex H H h h':=
 #v[λb c q z z z=>k b c q,λb c q z z z=>#v[c.slots,k b c q],λz z z n z=>n,λb c q z=>#v[c,k b c q],λz z q=>q,λz z z q=>q,λz d q=>#v[[].toArray,by rw[q];simp]]
def Un.refl:Un fs ex H H h h:=Un.f? λz z q=>q
def Un.laid(k:∀b u,h.get? b=U u->h'.get? b=U u)(c:h.objs.size<=a)(hn:H a=Z):Un fs ex H (el H a o) h h' where
 keep:=λb u q z z z=>k b u q
 slot:=λb u q z z z=>#v[u.slots,k b u q]
 free:=λb u q n z=>by rw[vC (aW (cF (aM q) c))];show n
 there:=λb u q z=>#v[u,k b u q]
 oz:=λb xs q=>by rw[vC (ya q hn)];show q
 t?:=λb u xs q=>by rw[vC (ya q hn)];show q
 xo:=λb ps q=>#v[[].toArray,by rw[vC (ya q hn),q];simp]
def Un.z6(c:Mut (H x))(j:e=x\/H e=U (.g? x))(k:∀b u,b≠e->h.get? b=U u->h'.get? b=U u)(heo:∃u,h'.get? e=U u):Un fs ex H (el H x o) h h':=by
 have i:∀b,H b=Z->b≠x:=λb n z=>by subst z;rw[n]at c;show c
 have f:∀b,H b=Z->b≠e:=λb n z=>by
  subst z;rcases j with r|r
  .show i b n r
  .rw[n]at r;ext r
 have d:∀b u,H b=U u->¬Mut (U u)->b≠x:=λb u q l z=>by subst z;rw[q]at c;show l c
 refine#v[λb u q n t t=>k b u (f b n) q,λb u q n t t=>#v[u.slots,k b u (f b n) q],λb u q n t=>by rw[vC (i b n)];show n,λb u q t=>?_,
  λb m q=>by rw[vC (d b _ q λz=>z)];show q,λb u m q=>by rw[vC (d b _ q λz=>z)];show q,λb p q=>#v[[].toArray,by rw[vC (d b _ q λz=>z),q];simp]]
 by_cases hbe:b=e
 .subst hbe;show heo
 .show#v[u,k b u hbe q]
end
def trk(h:Heap)(H:Hp):List Addr:=(bh h.objs.size).filter λa=>(H a).isSome
def JM(h:Heap)(H:Hp):Heap:=W.hideAll h (trk h H)
def PD(h:Heap)(H:Hp):(JM h H).objs.size=h.objs.size:=W.hideAll_size _ _
def QU{h:Heap}(e:h.get? b=U o)(n:H b=Z):(JM h H).get? b=U o:=
 W.hideAll_get _ e λa=>by have q:(H b).isSome=γ:=(bw.1 a).2;rw[n]at q;simp at q
def U3(e:(JM h H).get? b=U o):h.get? b=U o/\H b=Z:=by
 have a:h.get? b=U o:=W.of_hideAll (trk h H) e;calc#v[a,?_];cases q:H b with
 |none=>rfl
 |some x=>have c:b∈trk h H:=bw.2 #v[bR.2 (aM a),by simp[q]];have z:(JM h H).get? b=Z:=W.hideAll_none (trk h H) c;rw[z]at e;ext e
def U4(g h:Heap)(L:Addr):dF:=(bh h.objs.size).filterMap λa=>if a=L\/(g.get? a).isSome=γ then Z else (h.get? a).map λo=>(a,o)
def eo(g h:Heap)(L d:Addr):dF:=(U4 g h L).filter λp=>decide (p.1≠d)
structure Mod(K:ay)(mg:Str->Option aa)(a8:Heap):Prop where
 kin:K.In a8
 E?:a8.Ns bN mg
 blt:∃mb,a8.Ns builtinsNs mb/\∀x:Str,x≠"__name__" -> mb x=eI x
 nolimit:a8.NoLimit
structure Cx where
 prog:bb
 w:aQ
 K:ay
 mg:Str->Option aa
 a8:Heap
 A:bo
 N:aC
 s₀:aq
 H₀:Hp
 a9:Env
 b9:List Env
 stack:List Env
 ex:List Addr
 fn:Str->Bool
 k?:Bool
 pn:dF
 xe:aa->aq->Prop
def Z'(l:List Env):List Addr:=l.filterMap (·.frame)
abbrev Cx.fs(X:Cx):List Addr:=Z' X.b9
def Vis(a:c7)(x:Str):Prop:=a.names.lookup x=U .local\/a.names.lookup x=U .cell\/a.names.lookup x=U .free
def Loc(a:c7)(x:Str):Prop:=a.names.lookup x=U .local\/a.names.lookup x=U .cell
def Look(a9:Env)(h:Heap)(m:Str->Option aa)(x:Str)(u:aa):Prop:=
 (a9.kindOf x=U .local/\m x=U u)\/((a9.kindOf x=U .cell\/a9.kindOf x=U .free)/\∃c,a9.cells.lookup x=U c/\h.IsCell c (U u))
structure Cx.Ok(X:Cx):Prop where
 B?:Mod X.K X.mg X.a8
 kind:X.a9.scope.kind=.function
 E?:X.a9.globals=bN
 blt:X.a9.builtins=builtinsNs
 above:X.s₀.heap.objs.size<=X.a9.locals
 inj:∀x y c,X.a9.cells.lookup x=U c->X.a9.cells.lookup y=U c->x=y
 has:∀x,(X.a9.kindOf x=U .cell\/X.a9.kindOf x=U .free)->∃c,X.a9.cells.lookup x=U c
 cab:∀x c,X.fn x=γ->X.a9.cells.lookup x=U c->X.s₀.heap.objs.size<=c
 hd:X.k?=γ->X.A.handled=Z
 frames:X.A.frames=U X.stack
 stk:X.stack=X.b9\/(X.stack=X.a9::X.b9/\X.a9.frame=U X.a9.locals)
 exf:∀b∈X.ex,b≠X.a9.locals/\∀x c,X.a9.cells.lookup x=U c->c≠b
 bs:∀b o,X.a8.get? b=U o->X.s₀.heap.get? b=U o/\X.H₀ b=Z
 bsz:X.a8.objs.size<=X.s₀.heap.objs.size
 ν:∀b o,X.a8.get? b=U o->b∉X.ex
 ε:∀b∈X.ex,b∉X.fs
 u?:X.s₀.heap.FunFrames X.a8 X.b9
 frf:∀b∈X.fs,X.H₀ b=Z
structure b?(X:Cx)(pins:dF)(σ:List (Option V))(H:Hp)(s:aq):Prop where
 ok:X.Ok
 os:s.os=X.s₀.os
 i?:eP s.gens
 a8:Un X.fs X.ex X.H₀ H X.s₀.heap s.heap
 G':∃m,s.heap.Ns X.a9.locals m/\∀(i:Nat) (x:Str) (v:V),X.N[i]?=U x->σ[i]?=U (U v)->Vis X.a9.scope x->∃u,ea v u/\Look X.a9 s.heap m x u
 cell:∀x c,X.a9.cells.lookup x=U c->∃v,s.heap.IsCell c v
 free:H X.a9.locals=Z
 j?:∀x c,X.a9.cells.lookup x=U c->H c=Z
 C':∀p∈X.pn++pins,s.heap.get? p.1=U p.2/\H p.1=Z/\p.1≠X.a9.locals/\p.1∉X.fs/\∀v,p.2.data≠.cell v
 fb:tj X.prog X.w H s.heap
 len:σ.length=X.N.length
section
variable{X:Cx}{pins:dF}{σ:List (Option V)}{H H':Hp}{s:aq}{h':Heap}
def Cx.Ok.nofr(ok:X.Ok)(e:X.a8.get? b=U o):b∉X.fs:=λa=>by have:=(ok.u?.mem a).1;rw[e]at this;ext this
theorem b?.bs(I:b? X pins σ H s):∀b o,X.a8.get? b=U o->s.heap.get? b=U o/\H b=Z:=λb o e=>
 #v[I.a8.keep b o (I.ok.bs b o e).1 (I.ok.bs b o e).2 (I.ok.nofr e) (I.ok.ν b o e),I.a8.free b o (I.ok.bs b o e).1 (I.ok.bs b o e).2 (I.ok.ν b o e)]
def b?.bk(I:b? X pins σ H s):∀b o,X.a8.get? b=U o->s.heap.get? b=U o:=λb o e=>(I.bs b o e).1
theorem b?.B?(I:b? X pins σ H s):Mod X.K X.mg X.a8:=I.ok.B?
def b?.rl(I:b? X pins σ H s):X.K.In s.heap:=I.ok.B?.kin.keeps I.bk
def b?.fr(I:b? X pins σ H s):∃m,Fr X.a8 X.a9.locals s.heap m:=
 let #v[m,a,_]:=I.G'
 #v[m,a,I.bk,cg I.ok.bsz I.ok.above]
theorem b?.lt(I:b? X pins σ H s):X.a9.locals< ~~~s:=let #v[_,a,_]:=I.G';a.lt
def b?.sz(I:b? X pins σ H s):X.s₀.heap.objs.size<= ~~~s:=cg I.ok.above (fC I.lt)
def b?.nofs(I:b? X pins σ H s)(h: ~~~s<=a):a∉X.fs:=λb=>by let#v[_,o,c,_]:=I.ok.u?.mem b;show au (cF (aM c) (cg I.sz h)) (eF _)
def b?.cne(I:b? X pins σ H s):∀x c,X.a9.cells.lookup x=U c->c≠X.a9.locals:=λx c e z=>by let#v[v,o,d,hd]:=I.cell x c e;let#v[m,#v[i,h,f,b,a,_],_]:=I.G';rw[z,b]at d;ext d;rw[a]at hd;ext hd
theorem b?.u?(I:b? X pins σ H s):s.heap.FunFrames X.a8 X.b9:=by
 have all:∀(l:List Env),(∀b∈Z' l,b∈X.fs)->X.s₀.heap.FunFrames X.a8 l->s.heap.FunFrames X.a8 l:=by
  intro l
  induction l with
  |nil=>intro _ _;trivial
  |cons a9 r p=>intro d h;let#v[f,#v[L,o,c,i,j,hd],m]:=h;have hL:L∈X.fs:=d L (by delta Z';rw[dH,c];show aP);let#v[q,e]:=I.a8.slot L o j (I.ok.frf L hL) hL λz=>I.ok.ε L z hL;show#v[f,#v[L,_,c,i,e,hd],p (λb a=>d b (by delta Z';rw[dH,c];show ba _ a)) m]
 show all X.b9 (λt a=>a) I.ok.u?
theorem b?.stack(I:b? X pins σ H s):s.heap.FunFrames X.a8 X.stack:=by
 rcases I.ok.stk with e|⟨e,a⟩
 .rw[e];show I.u?
 .rw[e];let#v[m,b,_]:=I.G';calc .cons (by rw[I.ok.kind];decide) a b ?_ I.u?;show Heap.get?_none_of_le (cg I.ok.bsz I.ok.above)
def b?.T3(I:b? X pins σ H s):∀b∈Z' X.stack,b∈X.a9.locals::X.fs:=λb a=>by
 rcases I.ok.stk with e|⟨e,c⟩
 .rw[e]at a;show ba _ a
 .rw[e]at a;delta Z' at a;rw[dH,c]at a;show a
def b?.X?(I:b? X pins σ H s):∀b∈Z' X.stack,H b=Z:=λb a=>by
 rcases aD.1 (I.T3 b a)with e|a
 .rw[e];show I.free
 .let#v[_,o,c,_]:=I.ok.u?.mem a;show I.a8.free b o c (I.ok.frf b a) λz=>I.ok.ε b z a
def b?.step{g':Array GenState}{t':Nat}{d':Drawn}{ch:List Addr}(I:b? X pins σ H s)
  (hch:∀b∈ch,(b∈X.ex\/X.s₀.heap.objs.size<=b)/\b≠X.a9.locals/\(∀x c,X.a9.cells.lookup x=U c->c≠b)/\∀p∈X.pn++pins,p.1≠b)
  (keep:∀b o,b≠X.a9.locals->b∉X.fs->b∉ch->s.heap.get? b=U o->H b=Z->h'.get? b=U o)
  (slot:∀b o,b≠X.a9.locals->b∈X.fs->b∉ch->s.heap.get? b=U o->H b=Z->∃sl,h'.get? b=U { o with slots:=sl }) (free:∀b o,b∉ch->s.heap.get? b=U o->H b=Z->H' b=Z)
  (there:∀b o,b∉ch->s.heap.get? b=U o->∃y,h'.get? b=U y)
  (oz:∀b xs,H b=U (.bx xs)->H' b=U (.bx xs)) (t?:∀b o u,H b=U (.l? o u)->H' b=U (.l? o u)) (xo:∀b ps,H b=U (.tbl ps)->∃more,H' b=U (.tbl (ps++more)))
  (ns:∀m,s.heap.Ns X.a9.locals m->h'.Ns X.a9.locals m) (fb:tj X.prog X.w H' h') (G:eP g'):
  b? X pins σ H' { s with heap:=h',gens:=g',drawn:=d',toks:=t' }:=by
 have neL:∀b o,X.s₀.heap.get? b=U o->b≠X.a9.locals:=λb o e=>aW (cF (aM e) I.ok.above);have neC:∀b o,X.s₀.heap.get? b=U o->b∉X.ex->b∉ch:=λb o e a h=>by
  rcases(hch b h).1 with z|z
  .show a z
  .show au (cF (aM e) z) (eF _)
 have cellK:∀x c,X.a9.cells.lookup x=U c->∀v,s.heap.IsCell c v->h'.IsCell c v:=λx c e v #v[o,j,hd]=>by
  have nch:c∉ch:=λz=>(hch c z).2.2.1 x c e J;by_cases B:c∈X.fs
  .let#v[sl,q]:=slot c o (I.cne x c e) B nch j (I.j? x c e);show#v[_,q,hd]
  .show#v[o,keep c o (I.cne x c e) B nch j (I.j? x c e),hd]
 refine#v[I.ok,I.os,G,#v[λb o e n h a=>?_,λb o e n h a=>?_,λb o e n a=>?_,λb o e a=>?_,λb xs e=>oz b xs (I.a8.oz b xs e),λb o xs e=>t? b o xs (I.a8.t? b o xs e),λb ps e=>?_],?_,λx c e=>?_,?_,λx c e=>?_,λp C=>?_,fb,I.len]
 .show keep b o (neL b o e) h (neC b o e a) (I.a8.keep b o e n h a) (I.a8.free b o e n a)
 .let#v[sl,f]:=I.a8.slot b o e n h a;let#v[A,t]:=slot b _ (neL b o e) h (neC b o e a) f (I.a8.free b o e n a);show#v[A,t]
 .let#v[y,f]:=I.a8.there b o e a;show free b y (neC b o e a) f (I.a8.free b o e n a)
 .let#v[y,f]:=I.a8.there b o e a;show there b y (neC b o e a) f
 .let#v[N,f]:=I.a8.xo b ps e;let#v[O,t]:=xo b _ f;show#v[N++O,by rw[t,Array.append_assoc]]
 .let#v[m,hn,M]:=I.G';calc#v[m,ns m hn,λi x v f t F=>?_];let#v[u,r,l]:=M i x v f t F;calc#v[u,r,?_];rcases l with l|⟨k,c,e,z⟩
  .show .inl l
  .show .inr #v[k,c,e,cellK x c e _ z]
 .let#v[v,z]:=I.cell x c e;show#v[v,cellK x c e v z]
 .let#v[m,#v[o,_,_,j,_],_]:=I.G';show free _ o (λz=>(hch _ z).2.1 J) j I.free
 .let#v[v,o,j,hd]:=I.cell x c e;show free c o (λz=>(hch c z).2.2.1 x c e J) j (I.j? x c e)
 .let#v[e,n,ne,E,d]:=I.C' p C;have nch:p.1∉ch:=λz=>(hch p.1 z).2.2.2 p C J;show#v[keep p.1 p.2 ne E nch e n,free p.1 p.2 nch e n,ne,E,d]
def b?.un(I:b? X pins σ H s)(u:Un X.fs [] H H' s.heap h')(fb:tj X.prog X.w H' h'):b? X pins σ H' { s with heap:=h',toks:=t' }:=by
 let#v[m,#v[o,es,ep,f,r],_]:=id I.G';let#v[sl,hL]:=u.any f I.free (by simp);show I.step (g':=s.gens) (d':=s.drawn) (ch:=[]) (λl z=>nomatch z) (λb o l d l e n=>u.keep b o e n d (by simp)) (λb o l d l e n=>u.slot b o e n d (by simp)) (λb o l e n=>u.free b o e n (by simp)) (λb o l e=>u.there b o e (by simp)) u.oz u.t? u.xo (λp hm=>by
  let#v[q,es',c,a,h]:=hm;rw[f]at a;ext a;show#v[_,es',c,hL,h]) fb I.i?
def b?.call(I:b? X pins σ H s)(u:Un (Z' X.stack) ch H H' s.heap h')(fb:tj X.prog X.w H' h')(j:eP g')
  (hch:∀b∈ch,(b∈X.ex\/X.s₀.heap.objs.size<=b)/\b≠X.a9.locals/\(∀x c,X.a9.cells.lookup x=U c->c≠b)/\∀p∈X.pn++pins,p.1≠b):
  b? X pins σ H' { s with heap:=h',gens:=g',drawn:=d',toks:=t' }:=by
 let#v[m,#v[o,es,ep,h,r],_]:=id I.G';let#v[sl,hL]:=u.any h I.free λz=>(hch _ z).2.1 J;show I.step (ch:=ch) hch (λb o hL i a e n=>u.keep b o e n (λz=>(aD.1 (I.T3 b z)).elim hL i) a) (λb o k k a e n=>u.any e n a) (λb o a e n=>u.free b o e n a) (λb o a e=>u.there b o e a) u.oz u.t? u.xo (λq hm=>by
  let#v[t,es',f,d,l]:=hm;rw[h]at d;ext d;show#v[_,es',f,hL,l]) fb j
def b?.jl(I:b? X pins σ H s)(k:∀b o,b≠it->s.heap.get? b=U o->h'.get? b=U o)(hn:H it=Z)(hL:it≠X.a9.locals)
  (h1:it∈X.ex\/X.s₀.heap.objs.size<=it) (h2:∀x c,X.a9.cells.lookup x=U c->c≠it) (h3:∀p∈X.pn++pins,p.1≠it):b? X pins σ H { s with heap:=h',toks:=t' }:=by
 have nit:∀b u,H b=U u->b≠it:=λb u e z=>by rw[z,hn]at e;ext e
 refine I.step (g':=s.gens) (d':=s.drawn) (ch:=[it]) (λb d=>?_) (λb o t t a e t=>k b o (λz=>a (by simp[z])) e) (λb o t t a e t=>#v[o.slots,k b o (λz=>a (by simp[z])) e]) (λt t t t n=>n)
  (λb o a e=>#v[o,k b o (λz=>a (by simp[z])) e]) (λt t e=>e) (λt t t e=>e) (λb ps e=>#v[[].toArray,by rw[e];simp]) (λm hm=>?_) (λb u e=>?_) I.i?
 .have e:b=it:=by exists d
  subst e;show#v[h1,hL,h2,h3]
 .let#v[o,es,ep,f,r]:=hm;show#v[o,es,ep,k _ o (b0 hL) f,r]
 .calc(I.fb b u e).wh (λc v a q=>k c v ?_ q) (λt q=>q) λt t q=>q;rcases a with z|z
  .rw[z];show nit b u e
  .show nit c _ z
def b?.zk(I:b? X pins σ H s)(t:Nat):b? X pins σ H { s with toks:=t }:=I.un (h':=s.heap) (t':=t) Un.refl I.fb
theorem b?.f?(I:b? X pins σ H s)(k:∀b u,s.heap.get? b=U u->h'.get? b=U u):b? X pins σ H { s with heap:=h',toks:=t' }:=I.un (Un.f? k) (I.fb.f? k)
theorem b?.laid(I:b? X pins σ H s)(k:∀b u,s.heap.get? b=U u->h'.get? b=U u)(c: ~~~s<=a)(new:eu X.prog X.w (el H a o) h' a o):
  b? X pins σ (el H a o) { s with heap:=h',toks:=t' }:=I.un (Un.laid k c (I.fb.fresh c)) (I.fb.laid k c new)
theorem b?.z6(I:b? X pins σ H s)(c:Mut (H x))(a:e=x\/H e=U (.g? x))(k:∀b u,b≠e->s.heap.get? b=U u->h'.get? b=U u)(heo:∃u,h'.get? e=U u)
  (new:eu X.prog X.w (el H x o) h' x o):b? X pins σ (el H x o) { s with heap:=h',toks:=d }:=I.un (Un.z6 c a k heo) (I.fb.z6 c a k heo new)
def b?.c3{a:List (Option V)}(I:b? X pins σ H s)(f:a.length=σ.length)(w:∀(i:Nat) v,a[i]?=U (U v)->σ[i]?=U (U v)):b? X pins a H s:=
 #v[I.ok,I.os,I.i?,I.a8,let #v[m,h,b]:=I.G';#v[m,h,λi x v c d e=>b i x v c (w i v d) e],I.cell,I.free,I.j?,I.C',I.fb,f.t I.len]
def b?.W1(I:b? X pins σ H s)(h:∀p∈a,s.heap.get? p.1=U p.2/\H p.1=Z/\p.1≠X.a9.locals/\p.1∉X.fs/\∀v,p.2.data≠.cell v):b? X a σ H s:=
 #v[I.ok,I.os,I.i?,I.a8,I.G',I.cell,I.free,I.j?,λp b=>(bC.1 b).elim (λz=>I.C' p (bO _ z)) (h p),I.fb,I.len]
def K2{N:aC}(hN:N.Nodup){i j:Nat}{x:Str}(a:N[i]?=U x)(b:N[j]?=U x):i=j:=by let#v[e,c]:=bT.1 a;let#v[f,d]:=bT.1 b;show(kG hN).1 (c.t d.symm)
def PF(I:b? X pins σ H s)(hN:X.N.Nodup)(hi:X.N[i]?=U x)(t:Loc X.a9.scope x)(r:ea v u)
  (h:∀s',b? X pins (σ.set i (U v)) H s'->(∃a,fD a s.heap s'.heap/\(a=X.a9.locals\/X.a9.cells.lookup x=U a))->Q Unit.unit s') (hf:X.fn x=γ\/X.a9.scope.names.lookup x=U .local:=by first|show .inl J|show .inr J|assumption):ar M A (storeName X.a9 x u) Q E s:=by
 let#v[m,hn,hl]:=id I.G';have hcls:(X.a9.scope.kind==.class||(X.a9.scope.kind==.module&&X.a9.locals != X.a9.globals))=δ:=by rw[I.ok.kind];rfl
 have hiσ:i<σ.length:=by rw[I.len];show(bT.1 hi).1
 have cne:=I.cne;have tracked:∀{a:Addr} {h':Heap},(∃o,s.heap.get? a=U o/\H a=Z)->fD a s.heap h'->tj X.prog X.w H h':=λ{a h'} ha hs b ob e=>by
  let#v[_,_,hfree]:=ha;calc(I.fb b ob e).wh (λc R l q=>(hs.2 c ?_).t q) (λg q=>q) λg g q=>q;rintro rfl;rcases l with rfl|l
  .rw[hfree]at e;ext e
  .rw[hfree]at l;ext l
 rcases t with C|C
 .calc wpAny_storeName_local C hn (λh' T hs=>?_) hcls;let#v[oL,_,_,hoL,_]:=id hn;refine h _ #v[I.ok,I.os,I.i?,#v[λb o e n F t=>?_,λb o e n F t=>?_,I.a8.free,λb o e t=>?_,I.a8.oz,I.a8.t?,I.a8.xo],#v[_,T,λj y v' f B S=>?_],λy c e=>?_,I.free,I.j?,λp W=>?_,tracked #v[oL,hoL,I.free] hs,by exists I.len] #v[_,hs,.inl J]
  .show(hs.2 b (aW (cF (aM e) I.ok.above))).t (I.a8.keep b o e n F t)
  .let#v[sl,f]:=I.a8.slot b o e n F t;show#v[sl,(hs.2 b (aW (cF (aM e) I.ok.above))).t f]
  .let#v[o',f]:=I.a8.there b o e t;show#v[o',(hs.2 b (aW (cF (aM e) I.ok.above))).t f]
  .by_cases G:j=i
   .subst G;rw[hi]at f;ext f;rw[j9 hiσ]at B;ext B;show#v[u,r,.inl #v[C,by simp]]
   .rw[l5 (b0 G)]at B;let#v[u',r',q]:=hl j y v' f B S;calc#v[u',r',?_];rcases q with ⟨k,e⟩|⟨k,c,e,z⟩
    .calc .inl #v[k,?_];have:y≠x:=λe=>G (K2 hN f (e▸hi));simp[this,e]
    .show .inr #v[k,c,e,z.sameBut hs (cne y c e)]
  .let#v[R,z]:=I.cell y c e;show#v[R,z.sameBut hs (cne y c e)]
  .let#v[e,n,ne,Y,d]:=I.C' p W;show#v[(hs.2 p.1 ne).t e,n,ne,Y,d]
 .have hfn:X.fn x=γ:=by
   rcases hf with z|z
   .show z
   .rw[z]at C;ext C
  let#v[c,l]:=I.ok.has x (.inl C);let#v[R,z]:=I.cell x c l;calc wpAny_storeName_cell I.ok.kind C l z (λh' O hs=>?_);let#v[oc,hoc,hocd]:=id z;refine h { s with heap:=h' } #v[I.ok,I.os,I.i?,#v[λb o e n F t=>?_,λb o e n F t=>?_,I.a8.free,λb o e t=>?_,I.a8.oz,I.a8.t?,I.a8.xo],#v[m,hn.sameBut hs (b0 (cne x c l)),λj y v' f B S=>?_],λy P e=>?_,I.free,I.j?,λp W=>?_,tracked #v[oc,hoc,I.j? x c l] hs,by exists I.len] #v[c,hs,.inr l]
  .show(hs.2 b (aW (cF (aM e) (I.ok.cab x c hfn l)))).t (I.a8.keep b o e n F t)
  .let#v[sl,f]:=I.a8.slot b o e n F t;show#v[sl,(hs.2 b (aW (cF (aM e) (I.ok.cab x c hfn l)))).t f]
  .let#v[o',f]:=I.a8.there b o e t;show#v[o',(hs.2 b (aW (cF (aM e) (I.ok.cab x c hfn l)))).t f]
  .by_cases G:j=i
   .subst G;rw[hi]at f;ext f;rw[j9 hiσ]at B;ext B;show#v[u,r,.inr #v[.inl C,c,l,O]]
   .rw[l5 (b0 G)]at B;let#v[u',r',q]:=hl j y v' f B S;calc#v[u',r',?_];rcases q with q|⟨k,P,e,z'⟩
    .show .inl q
    .calc .inr #v[k,P,e,z'.sameBut hs ?_];rintro rfl;show G (K2 hN f (I.ok.inj _ _ _ e l▸hi))
  .by_cases hcc:P=c
   .subst hcc;show#v[_,O]
   .let#v[w2,z2]:=I.cell y P e;show#v[w2,z2.sameBut hs hcc]
  .let#v[e,n,ne,Y,d]:=I.C' p W;calc#v[(hs.2 p.1 ?_).t e,n,ne,Y,d];intro q;rw[q,hoc]at e;have q':oc=p.2:=cM e;show d R (by rw[<-q'];show hocd)
def K4(I:b? X pins σ H s)(hN:X.N.Nodup)(d:X.N[i]?=U x)(e:Loc X.a9.scope x)(r:ea v u)
  (h:∀a,b? X pins (σ.set i (U v)) H a->Q Unit.unit a) (c:X.fn x=γ\/X.a9.scope.names.lookup x=U .local:=by first|show .inl J|show .inr J|assumption):ar M A (storeName X.a9 x u) Q E s:=
 PF I hN d e r (λa b z=>h a b) c
def b?.call'{a:aq}(I:b? X pins σ H s)(l:a.os=s.os)(u:Un (Z' X.stack) i H H' s.heap a.heap)(fb:tj X.prog X.w H' a.heap)(j:eP a.gens)
  (hch:∀b∈i,(b∈X.ex\/X.s₀.heap.objs.size<=b)/\b≠X.a9.locals/\(∀x c,X.a9.cells.lookup x=U c->c≠b)/\∀p∈X.pn++pins,p.1≠b):b? X pins σ H' a:=by
 let#v[h',f,d,h,m]:=a;have e:m=s.os:=l;subst e;show I.call (g':=f) (t':=h) (d':=d) u fb j hch
end
abbrev XK:=aa->Option Addr->Hp->Prop
abbrev St:=List (Option V)
abbrev VK:=V->Hp->Prop
abbrev TE:=St->Hp->VK->Prop
abbrev TT:=St->Hp->(Bool->Hp->Prop)->Prop
abbrev TA:=St->Hp->(bA->Hp->Prop)->Prop
structure F1 where
 nx:St->Hp->Prop
 rt:VK
 bk:St->Hp->Prop:=λz z=>False
 ct:St->Hp->Prop:=λz z=>False
abbrev TS:=F1->St->Hp->Prop
def EP(X:Cx)(a:dF)(d:St)(Q:VK)(u:aa)(c:aq):Prop:=∃v b,b? X a d b c/\ea v u/\Q v b
def TP(X:Cx)(a:dF)(e:St)(Q:Bool->Hp->Prop)(b:Bool)(d:aq):Prop:=∃c,b? X a e c d/\Q b c
def AP(X:Cx)(a:dF)(f:St)(Q:bA->Hp->Prop)(e:List aa)(d:aq):Prop:=∃c b,b? X a f b d/\d? c e/\Q c b
def SP(X:Cx)(b:dF)(D:F1)(f:Flow)(d:aq):Prop:=
 match f with
 |.next=>∃a c,b? X b a c d/\D.nx a c
 |.brk=>∃a c,b? X b a c d/\D.bk a c
 |.cont=>∃a c,b? X b a c d/\D.ct a c
 |.ret u=>∃v a c,b? X b a c d/\ea v u/\D.rt v c
def PE(X:Cx)(e:Expr)(t:TE):Prop:=
 ∀(a:dF) (s:aq) (b:St) (H:Hp) (Q:VK),b? X a b H s->t b H Q->ar (model X.prog X.w) X.A (eval e X.a9) (EP X a b Q) X.xe s
def PT(X:Cx)(e:Expr)(t:TT):Prop:=
 ∀(a:dF) (s:aq) (b:St) (H:Hp) (Q:Bool->Hp->Prop),b? X a b H s->t b H Q->ar (model X.prog X.w) X.A (isTrue e X.a9 (eval e X.a9)) (TP X a b Q) X.xe s
def PW(X:Cx)(e:Expr)(t:TT):Prop:=
 ∀(whole:Sem aa) (a:dF) (s:aq) (b:St) (H:Hp) (Q:Bool->Hp->Prop),b? X a b H s->t b H Q->ar (model X.prog X.w) X.A (isTrue e X.a9 whole) (TP X a b Q) X.xe s
def PW.pt(h:PW X e t):PT X e t:=h _
def PA(X:Cx)(c:List Expr)(t:TA):Prop:=
 ∀(pos:Pos) (a:dF) (s:aq) (b:St) (H:Hp) (Q:bA->Hp->Prop),b? X a b H s->t b H Q->ar (model X.prog X.w) X.A (spliced (bJ pos (aE c X.a9))) (AP X a b Q) X.xe s
def PS(X:Cx)(st:Stmt)(t:TS):Prop:=
 ∀(a:dF) (s:aq) (b:St) (H:Hp) (D:F1),b? X a b H s->t D b H->ar (model X.prog X.w) X.A (exec st X.a9) (SP X a D) X.xe s
def l'(X:Cx)(st:List Stmt)(t:TS):Prop:=
 ∀(a:dF) (s:aq) (b:St) (H:Hp) (D:F1),b? X a b H s->t D b H->ar (model X.prog X.w) X.A (execs st X.a9) (SP X a D) X.xe s
def ff{c:Type}{t:Sem c}{Q b:c->aq->Prop}{M:Model}{A:bo}{E:aa->aq->Prop}{s:aq}(h:ar M A t Q E s)(hQ:∀a s,Q a s->b a s):ar M A t b E s:=cB h hQ λz z x=>x
section
variable{X:Cx}
def bin{a b:Expr}{o p:TE}(z:PE X a o)(B:PE X b p){c:dF}{s:aq}{e:St}{H:Hp}{R:V->V->Hp->Prop}(I:b? X c e H s)(h:o e H λx m=>p e m λy d=>R x y d)
  {q:Type} {Q:q->aq->Prop} {f:aa->aa->Sem q}
  (C:∀v u l x y d,b? X c e d l->ea x v->ea y u->R x y d->ar (model X.prog X.w) X.A (f v u) Q X.xe l):
  ar (model X.prog X.w) X.A (eval a X.a9) (λv i=>ar (model X.prog X.w) X.A (eval b X.a9) (λu j=>ar (model X.prog X.w) X.A (f v u) Q X.xe j) X.xe i) X.xe s:=by
 calc ff (z c s e H _ I h) λv N zz=>?_;let#v[x,m,r,G,E]:=zz;calc ff (B c N e m _ r E) λu l zz=>?_;let#v[y,d,t,M,F]:=zz;show C v u l x y d t G M F
inductive X1(i:Nat) (σ:St) (H:Hp) (Q:VK):Prop
 |i (v) (h0:σ[i]?=U (U v)) (h1:Q v H):X1 i σ H Q
def AC(i:Nat):TE:=λa H Q=>X1 i a H Q
def tC(v:V):TE:=λz H Q=>Q v H
def Y0(hN:X.N[i]?=U x)(p:Vis X.a9.scope x)(hd:(x==("__debug__" : Str))=δ:=by decide)(hcd:(x==("__classdict__" : Str))=δ:=by decide):PE X (.Name x pos) (AC i):=by
 intro b s q H Q I h;let#v[v,e,h]:=h;let#v[m,o,f]:=I.G';let#v[u,r,l]:=f i x v hN e p;have fin:EP X b q Q u s:=#v[v,H,I,r,h];rcases l with ⟨a,j⟩|⟨a,c,d,hcell⟩
 .show oa (wpAny_loadName_local I.ok.kind a o j fin) hd
 .rcases a with a|a
  .show oa (wpAny_loadName_cell I.ok.kind a d hcell fin) hd
  .show oa (wpAny_loadName_free I.ok.kind a d hcell fin hcd) hd
def MK{i j pos}:PE X (.Constant (.int i) j pos) (tC (.int i)):=λz z z H z I h=>wpAny_Constant_int #v[.int i,H,I.zk _,#v[_,J],h]
def acZ{b j pos}:PE X (.Constant (.bool b) j pos) (tC (.bl b)):=λz z z H z I h=>Constant_bool #v[.bl b,H,I,J,h]
def Y1{j pos}:PE X (.Constant .none j pos) (tC .cx):=λz z z H z I h=>Constant_none #v[.cx,H,I,J,h]
def QV{x j pos}:PE X (.Constant (.str x) j pos) (tC (.str x)):=λz z z H z I h=>Calls.Constant_str #v[.str x,H,I.zk _,#v[_,J],h]
def Gl(X:Cx)(x:Str):Prop:=X.a9.kindOf x=U .globalImplicit
def Gi(I:b? X a d H s)(b:Gl X x)(c:X.mg x=U u)(h:Q u s)
  (hd:(x==("__debug__" : Str))=δ:=by decide):ar (model X.prog X.w) X.A (eval (.Name x pos) X.a9) Q E s:=
 pb I.ok.kind b (Calls.loadGlobal_global (by rw[I.ok.E?];show I.B?.E?.keeps I.bk) c h) hd
def BC(I:b? X a l H s)(d:Gl X x)(e:X.mg x=Z)(i:eI x=U u)(h:Q u s)
  (f:x≠"__name__" := by decide) (hd:(x==("__debug__" : Str))=δ:=by decide):ar (model X.prog X.w) X.A (eval (.Name x pos) X.a9) Q E s:=by
 let#v[j,b,c]:=I.B?.blt;show pb I.ok.kind d (Calls.loadGlobal_builtin (by rw[I.ok.E?];show I.B?.E?.keeps I.bk) e (by rw[I.ok.blt];show b.keeps I.bk) ((c x f).t i) h) hd
def D9(a:Gl X x)(b:X.mg x=U u)(r:ea v u)(hd:(x==("__debug__" : Str))=δ:=by decide):PE X (.Name x pos) (tC v):=
 λz z z H z I h=>Gi I a b #v[v,H,I,r,h] hd
def U5(a:Gl X x)(b:X.mg x=Z)(d:eI x=U u)(r:ea v u)(c:x≠"__name__" := by decide)(hd:(x==("__debug__" : Str))=δ:=by decide):PE X (.Name x pos) (tC v):=
 λz z z H z I h=>BC I a b d #v[v,H,I,r,h] c hd
variable{a b:Expr}{ta tb:TE}{pos:Pos}
def PC(X:Cx)(h:CmpOp)(a b:Expr)(t:TE):Prop:=
 ∀(c:dF) (s:aq) (f:St) (H:Hp) (Q:VK),b? X c f H s->t f H Q->
  ar (model X.prog X.w) X.A (eval a X.a9) (λv d=>ar (model X.prog X.w) X.A (eval b X.a9) (λu e=>ar (model X.prog X.w) X.A (bz h v u) (EP X c f Q) X.xe e) X.xe d) X.xe s
def tB(t:TE):TT:=λe H Q=>t e H λx d=>∃c,x=.bl c/\Q c d
def aeY(h:PC X i a b t)(f:gO i b=δ:=by first|show nobehind _ #[] #[]|rfl):PT X (.Compare a [i] [b] pos) (tB t):=by intro e s w H Q I o;calc pN (ff (h e s w H _ I o) λv y f=>ff f λu z m=>ff m λc A zz=>?_) f;let#v[x,j,l,r,p]:=zz;let#v[d,rfl,q]:=p;ext r;show dM #v[j,l,q]
def Y2(h:PE X e t)(j:∀whole,isTrue e X.a9 whole=(do let v<-whole;standAt e.pos;holding [v] (truthy v)):=by intro _;rfl):PT X e (tB t):=by intro c s p H Q I l;calc isTrue_plain (ff (h c s p H _ I l) λv r zz=>?_) (j _);let#v[x,f,i,o,m]:=zz;let#v[d,rfl,q]:=m;ext o;show dM #v[f,i,q]
variable{tA tB':TT}{eo:List Expr}
def tAnd(t u:TT):TT:=λe H Q=>t e H λc d=>if c=γ then u e d Q else Q δ d
def tOr(t u:TT):TT:=λe H Q=>t e H λc d=>if c=γ then Q γ d else u e d Q
def tNot(t:TT):TT:=λe H Q=>t e H λc d=>Q (!c) d
def U6(f:PT X a tA):PW X (.BoolOp .And [a] pos) tA:=by
 intro l d s i H Q I h;calc isTrue_and (ff (f d s i H Q I h) λc j e=>?_);cases c with
 |true=>show isTrue_and_nil e
 |false=>show e
def Y3(f:PT X a tA):PW X (.BoolOp .Or [a] pos) tA:=by
 intro l d s i H Q I h;calc isTrue_or (ff (f d s i H Q I h) λc j e=>?_);cases c with
 |false=>show isTrue_or_nil e
 |true=>show e
def Y4(l:PT X a tA)(m:PW X (.BoolOp .And (b::eo) pos) tB'):PW X (.BoolOp .And (a::b::eo) pos) (tAnd tA tB'):=by
 intro p d s j H Q I h;calc isTrue_and (ff (l d s j H _ I h) λc o zz=>?_);let#v[e,f,i]:=zz;cases c with
 |true=>show m p d o j e Q f i
 |false=>show#v[e,f,i]
def ac1(l:PT X a tA)(m:PW X (.BoolOp .Or (b::eo) pos) tB'):PW X (.BoolOp .Or (a::b::eo) pos) (tOr tA tB'):=by
 intro p d s j H Q I h;calc isTrue_or (ff (l d s j H _ I h) λc o zz=>?_);let#v[e,f,i]:=zz;cases c with
 |true=>show#v[e,f,i]
 |false=>show m p d o j e Q f i
def Y5(f:PT X a tA):PT X (.UnaryOp .Not a pos) (tNot tA):=by intro d s i H Q I h;show isTrue_not (f d s i H (λc e=>Q (!c) e) I h)
def ac2(ta tb:TE):TE:=λe H Q=>ta e H λx d=>∃c,x=.bl c/\if c=γ then tb e d Q else Q (.bl δ) d
def tOrV(ta tb:TE):TE:=λe H Q=>ta e H λx d=>∃c,x=.bl c/\if c=γ then Q (.bl γ) d else tb e d Q
def ac3(ta:TE):TE:=λe H Q=>ta e H λx d=>∃c,x=.bl c/\Q (.bl (!c)) d
def Y6{e}(h:PE X a t):PE X (.BoolOp e [a] pos) t:=λc s f H Q I d=>BoolOp_one (h c s f H Q I d)
def Y7(l:PE X a ta)(m:PE X (.BoolOp .And (b::eo) pos) tb):PE X (.BoolOp .And (a::b::eo) pos) (ac2 ta tb):=by
 intro d s j H Q I h;calc BoolOp_and (ff (l d s j H _ I h) λv p zz=>?_);let#v[x,f,i,o,e]:=zz;let#v[c,rfl,e]:=e;ext o;calc dM ?_;cases c with
 |true=>show m d p j f Q i e
 |false=>show#v[.bl δ,f,i,J,e]
def ac4(l:PE X a ta)(m:PE X (.BoolOp .Or (b::eo) pos) tb):PE X (.BoolOp .Or (a::b::eo) pos) (tOrV ta tb):=by
 intro d s j H Q I h;calc BoolOp_or (ff (l d s j H _ I h) λv p zz=>?_);let#v[x,f,i,o,e]:=zz;let#v[c,rfl,e]:=e;ext o;calc dM ?_;cases c with
 |false=>show m d p j f Q i e
 |true=>show#v[.bl γ,f,i,J,e]
def Y8(j:PE X a ta):PE X (.UnaryOp .Not a pos) (ac3 ta):=by intro d s m H Q I h;calc UnaryOp_ (ff (j d s m H _ I h) λv o zz=>?_);let#v[x,f,i,l,e]:=zz;let#v[c,rfl,e]:=e;ext l;show not_of (dM #v[.bl (!c),f,i,J,e])
def tIf(t:TT)(ta tb:TE):TE:=λd H Q=>t d H λc e=>if c=γ then ta d e Q else tb d e Q
def QW(q:PT X c tA)(o:PE X a ta)(p:PE X b tb):PE X (.IfExp c a b pos) (tIf tA ta tb):=by
 intro e s f H Q I h;calc wpAny_IfExp (ff (q e s f H _ I h) λd m zz=>?_);let#v[i,j,l]:=zz;cases d with
 |true=>show o e m f i Q j l
 |false=>show p e m f i Q j l
end
def gi(K:ay)(H:Hp)(a:Addr)(c:bA):Prop:=
 Rd H a (.ax c)\/
  ∃(o:Obj) (b:Array aa) (n:Nat),K.lookup a=U o/\o.cls=.type "list" /\ o.dict=Z/\o.data=.seq b n/\b.size<=aS/\d? c b.toList
def fl(K:ay)(H:Hp)(a:Addr)(c:bA):Prop:=
 Rd H a (.bx c)\/
  ∃(o:Obj) (b:Array aa) (n:Nat),K.lookup a=U o/\o.cls=.type "tuple" /\ o.data=.seq b n/\b.size<=aS/\d? c b.toList
def absV:aa->Option V
 |.none=>U .cx
 |.bool b=>U (.bl b)
 |.int i _=>U (.int i)
 |.str x _=>U (.str x)
 |.bytes b _=>U (.O b)
 |.float b _=>U (.flt b)
 |.ref a=>U (.ref a)
 |.type n=>U (.ty n)
 |_=>Z
def ea.abs(r:ea x u):absV u=U x:=by
 cases x with
 |cx=>ext r;rfl
 |bl _=>ext r;rfl
 |int _=>let#v[t,rfl]:=r;rfl
 |str _=>let#v[t,rfl]:=r;rfl
 |O _=>let#v[t,rfl]:=r;rfl
 |flt _=>let#v[t,rfl]:=r;rfl
 |ref _=>ext r;rfl
 |ty _=>ext r;rfl
def ea.inj(r:ea x u)(q:ea y u):x=y:=cM (r.abs.symm.t q.abs)
theorem d?.inj:∀{b c:bA} {a:List aa},d? b a->d? c a->b=c
 |_,_,_,.nil,.nil=>rfl
 |_,_,_,.cons r t,.cons d e=>by rw[r.inj d,d?.inj t e]
section
variable{X:Cx}{pins:dF}{σ:St}{H:Hp}{s:aq}{a:Addr}{xs ys:bA}
#print "gi ax;fl bx" in def ϑ0.of{K:ay}(h:H a=U (.ϑ1 xs)):ϑ0 K H a xs:=.inl (.inl h)
inductive ILs(xs:bA) (h:Heap) (a:Addr):Prop
 |i (its:List aa) (r:d? xs its) (p:PlainL h a its.toArray) (z:xs.length<=aS):ILs xs h a
inductive ITs(xs:bA) (h:Heap) (a:Addr):Prop
 |i (its:List aa) (r:d? xs its) (p:dW h a its.toArray) (z:xs.length<=aS):ITs xs h a
def b?.list(I:b? X pins σ H s)(h:gi X.K H a xs):ILs xs s.heap a:=by
 rcases h with h|⟨o,b,n,d,c,hd,f,i,r⟩
 .let#v[z,b,n,r,e]:=h.ok I.fb;show#v[b,r,#v[_,n,e,J,J,J],z]
 .calc#v[b.toList,r,#v[o,n,I.rl a o d,c,hd,by exists f],?_];have e:=r.length;erw[bK]at e;omega
def b?.tuple(I:b? X pins σ H s)(h:fl X.K H a xs):ITs xs s.heap a:=by
 rcases h with h|⟨o,b,n,d,c,f,i,r⟩
 .let#v[z,b,r,p,_]:=h.ok I.fb;show#v[b,r,p,z]
 .calc#v[b.toList,r,#v[o,I.rl a o d,c,n,by exists f],?_];have e:=r.length;erw[bK]at e;omega
def b?.N'(I:b? X pins σ H s)(h:gi X.K H a xs)(l:gi X.K H a ys):xs=ys:=by
 let#v[c,r,#v[o,n,e,_,_,d],_]:=I.list h;let#v[b,m,#v[q,p,i,_,_,f],_]:=I.list l;rw[e]at i;ext i;rw[d]at f;injection f with j _;have:c=b:=by exists aX rX j
 subst this;show r.inj m
def b?.Hj(I:b? X pins σ H s)(h:fl X.K H a xs)(l:fl X.K H a ys):xs=ys:=by
 let#v[c,r,#v[o,e,_,n,d],_]:=I.tuple h;let#v[b,m,#v[q,i,_,p,f],_]:=I.tuple l;rw[e]at i;ext i;rw[d]at f;injection f with j _;have:c=b:=by exists aX rX j
 subst this;show r.inj m
end
abbrev Cx.D?(X:Cx)(E:aa->aq->Prop):Cx:={ X with xe:=E }
abbrev Cx.nox(X:Cx):Cx:=X.D? λz z=>False
theorem Cx.Ok.D?{X:Cx}(ok:X.Ok)(E:aa->aq->Prop):(X.D? E).Ok:=
 #v[ok.B?,ok.kind,ok.E?,ok.blt,ok.above,ok.inj,ok.has,ok.cab,ok.hd,ok.frames,ok.stk,ok.exf,ok.bs,ok.bsz,ok.ν,ok.ε,ok.u?,ok.frf]
def Cx.Ok.n5{X:Cx}(ok:(X.D? E).Ok):X.Ok:=
 #v[ok.B?,ok.kind,ok.E?,ok.blt,ok.above,ok.inj,ok.has,ok.cab,ok.hd,ok.frames,ok.stk,ok.exf,ok.bs,ok.bsz,ok.ν,ok.ε,ok.u?,ok.frf]
section
variable{X:Cx}{pins:dF}{σ:St}{H:Hp}{s:aq}{E:aa->aq->Prop}
theorem b?.D?(I:b? X pins σ H s)(E:aa->aq->Prop):b? (X.D? E) pins σ H s:=#v[I.ok.D? E,I.os,I.i?,I.a8,I.G',I.cell,I.free,I.j?,I.C',I.fb,I.len]
theorem b?.n5(I:b? (X.D? E) pins σ H s):b? X pins σ H s:=#v[I.ok.n5,I.os,I.i?,I.a8,I.G',I.cell,I.free,I.j?,I.C',I.fb,I.len]
theorem SP.n5(h:SP (X.D? E) pins D f c):SP X pins D f c:=by
 cases f with
 |next=>let#v[a,b,I,q]:=h;show#v[a,b,I.n5,q]
 |brk=>let#v[a,b,I,q]:=h;show#v[a,b,I.n5,q]
 |cont=>let#v[a,b,I,q]:=h;show#v[a,b,I.n5,q]
 |ret u=>let#v[v,a,b,I,r,q]:=h;show#v[v,a,b,I.n5,r,q]
theorem l'.nox{st:List Stmt}{t:TS}(h:l' X.nox st t):l' X st t:=λpins s σ H D I a=>
 cB (h pins s σ H D (I.D? _) a) (λu u q=>q.n5) λu u z=>di z
end
section
variable{X:Cx}{st:Stmt}{eo:List Stmt}{t u:TS}{e:Expr}{te:TE}{pos:Pos}
def X2:TS:=λD a H=>D.nx a H
def tSeq(t u:TS):TS:=λD σ H=>t { D with nx:=u D } σ H
def Ob:l' X [] X2:=λz z a H z I h=>kK #v[a,H,I,h]
def Bi(h1:PS X st t)(h2:l' X eo u):l' X (st::eo) (tSeq t u):=by
 intro pins s σ H D I h;calc qD (ff (h1 pins s σ H { D with nx:=u D } I h) λf b q=>?_);cases f with
 |next=>let#v[σ',H',a,q]:=q;show h2 pins b σ' H' D a q
 |ret v=>show q
 |brk=>show q
 |cont=>show q
def Ea(b:PS X st t):l' X [st] t:=by
 intro a s c H D I h;calc qD (ff (b a s c H D I h) λf d q=>?_);cases f with
 |next=>show kK q
 |ret v=>show q
 |brk=>show q
 |cont=>show q
def b?.quiet(I:b? X a b H s):interactive X.a9=δ:=by simp[interactive,I.ok.kind]
def X3(te:TE):TS:=λD a H=>te a H λz b=>D.nx a b
def Od(f:PE X e te)(i:eM e Z pos.line X.a9=pure δ:=by rfl):PS X (.Expr e pos) (X3 te):=by intro a s b H D I h;show wpAny_Expr_any (ff (f a s b H _ I h) λv m #v[x,c,d,l,j]=>#v[b,c,d,j]) I.quiet i
def tRet(te:TE):TS:=λD a H=>te a H D.rt
def ML(f:PE X e te):PS X (.Return (U e) pos) (tRet te):=by intro a s b H D I h;show wpAny_Return_some (ff (f a s b H _ I h) λv l #v[x,c,d,j,i]=>#v[x,b,c,d,j,i])
def tIfS(c:TT)(t u:TS):TS:=λD a H=>c a H λb d=>if b=γ then t D a d else u D a d
def X4(r:PT X c w)(p:l' X a t)(q:l' X b u):PS X (.If c a b pos) (tIfS w t u):=by
 intro f s i H D I h;calc wpAny_If (ff (r f s i H _ I h) λd o zz=>?_);let#v[j,l,m]:=zz;cases d with
 |true=>show p f o i j D l m
 |false=>show q f o i j D l m
end
#print "G V;Gs bA" in abbrev Tϑ0:=ϑ1->St->Hp->(St->Hp->Prop)->Prop
def PG(X:Cx)(target:Expr)(t:TG):Prop:=
 ∀(a:dF) (s:aq) (d:St) (H:Hp) (v:V) (u:aa) (Q:St->Hp->Prop),b? X a d H s->ea v u->t v d H Q->
  ar (model X.prog X.w) X.A (assign target X.a9 u) (λz e=>∃b c,b? X a b c e/\Q b c) X.xe s
def P'(X:Cx)(i:List Expr)(t:TGs):Prop:=
 ∀(a:dF) (s:aq) (f:St) (H:Hp) (e:bA) (d:List aa) (Q:St->Hp->Prop),b? X a f H s->d? e d->t e f H Q->
  ar (model X.prog X.w) X.A (assignInOrder ((dj i X.a9).map (·.2)) d) (λz h=>∃b c,b? X a b c h/\Q b c) X.xe s
section
variable{X:Cx}{pos:Pos}
def Ah(i:Nat):TG:=λv a H Q=>Q (a.set i (U v)) H
def Oe(hN:X.N.Nodup)(d:X.N[i]?=U x)(e:Loc X.a9.scope x)(c:X.fn x=γ\/X.a9.scope.names.lookup x=U .local:=by first|show .inl J|show .inr J|assumption):PG X (.Name x pos) (Ah i):=by intro a s j H v u Q I r h;show wpAny_assign_Name (K4 I hN d e r (λf b=>#v[_,H,b,h]) c)
def gNil:TGs:=λa b H Q=>a=[]/\Q b H
inductive QX(t:TG) (u:TGs) (vs:bA) (σ:St) (H:Hp) (Q:(St->Hp->Prop)):Prop
 |i (v r) (h0:vs=v::r) (h1:t v σ H λσ' H'=>u r σ' H' Q):QX t u vs σ H Q
def X5(t:TG)(u:TGs):TGs:=λa b H Q=>QX t u a b H Q
def U7:P' X [] gNil:=by intro a s b H d c Q I r h;let#v[e,h]:=h;subst e;ext r;show assignInOrder_nil #v[b,H,I,h]
def QY(j:PG X e t)(l:P' X b u)
  (m:(dj (e::b) X.a9).map (·.2)=assign e X.a9::(dj b X.a9).map (·.2):=by rfl):P' X (e::b) (X5 t u):=by
 intro a s w H z x Q I r h;let#v[v,y,i,h]:=h;subst i;cases r with
 |cons r p=>rw[m];calc assignInOrder_cons (ff (j a s w H _ _ _ I r h) λn q zz=>?_);let#v[c,d,f,o]:=zz;show l a q c d _ _ Q f p o
inductive X6(K:ay) (n:Nat) (t:TGs) (v:V) (σ:St) (H:Hp) (Q:(St->Hp->Prop)):Prop
 |i (a xs) (h0:v=.ref a) (h1:fl K H a xs) (h2:xs.length=n) (h3:t xs σ H Q):X6 K n t v σ H Q
def Y9(K:ay)(n:Nat)(t:TGs):TG:=λv a H Q=>X6 K n t v a H Q
def Za(j:X.k?=γ)(h:P' X es t)
  (hn:(dj es X.a9).length=n:=by rfl) (hst:(dj es X.a9).findIdx? (·.1)=Z:=by rfl):PG X (.Tuple es k pos) (Y9 X.K n t):=by
 intro pins s σ H v u Q I r c;let#v[a,xs,i,m,l,c]:=c;subst i;ext r;let#v[its,d,ht,q]:=I.tuple m;calc assign_Tuple_tuple (I.ok.hd j) ht (by simp[hn,<- l,d.length]) hst λh' p=>?_;have f:b? X pins σ H { s with heap:=h' }:=I.f? (t':=s.toks) λb o e=>p b o (aW (aM e)) e;show h pins _ σ H xs _ Q f (by exists d) c
def Eb(c:TE)(g:TG):TS:=λD a H=>c a H λx b=>g x a b D.nx
def Zb(j:PE X e u)(l:PG X b g)(m:swapsWithSole [b] e pos.line X.a9=pure δ:=by rfl)(o:swappedStores [b] e X.a9=pure Z:=by rfl)
  (i:(dj [b] X.a9).map (·.2)=[assign b X.a9]:=by rfl):PS X (.Assign [b] e pos) (Eb u g):=by
 intro a s c H D I h;calc wpAny_Assign_stores (ff (j a s c H _ I h) λv t zz=>?_) m o;let#v[x,d,f,r,p]:=zz;rw[i];show ff (l a t c d x v _ f r p) λz w q=>q
def QZ(hN:X.N.Nodup)(l:X.N[i]?=U x)(o:Loc X.a9.scope x)(f:PE X e r)(m:eM e (U (.Name x pos')) pos.line X.a9=pure δ:=by rfl)(j:X.fn x=γ\/X.a9.scope.names.lookup x=U .local:=by first|show .inl J|show .inr J|assumption):
  PS X (.Assign [.Name x pos'] e pos) (Eb r (Ah i)):=by
 intro a s t H D I h;calc wpAny_Assign_Name (ff (f a s t H _ I h) λv u zz=>?_) m;let#v[y,b,c,q,p]:=zz;show K4 c hN l o q (λw d=>#v[_,b,d,p]) j
end
section
variable{X:Cx}{pos:Pos}
inductive Of(c:TT) (tb:TS) (D:F1) (σ:St) (H:Hp):Prop
 |i (W:Nat->St->Hp->Prop) (h0:(∃m,W m σ H)) (h1:∀m σ H,W m σ H->c σ H λb H1=>if b=γ then ∃N:St->Hp->Prop,(∀σ' H',N σ' H'->∃m',m'<m/\W m' σ' H')/\tb { D with nx:=N,ct:=N,bk:=D.nx } σ H1 else D.nx σ H1):Of c tb D σ H
def Q0(c:TT)(a:TS):TS:=λD b H=>Of c a D b H
def Q1(B:jK (model X.prog X.w) X.A X.a9 X.xe)(F:PT X c R)(E:l' X body Q):PS X (.While c body [] pos) (Q0 R Q):=by
 intro a s Y H D I h;let#v[W,#v[G,S],turn]:=h;calc wpAny_While (codeAny_whileLoop (λn M=>∃j u,b? X a j u M/\W n j u) ?_ G #v[Y,H,I,S]);rintro n O ⟨e,x,C,T⟩;calc gE B (ff (F a O e x _ C (turn n e x T)) λb P zz=>?_);let#v[y,z,l]:=zz;cases b with
 |true=>
  let#v[N,hN,l]:=l;rw[af J];calc gE B (ff (E a P e y _ z l) λf s3 m=>?_);cases f with
  |next=>let#v[d,i,o,r]:=m;let#v[q,p,t]:=hN d i r;show#v[q,p,d,i,o,t]
  |cont=>let#v[d,i,o,r]:=m;let#v[q,p,t]:=hN d i r;show#v[q,p,d,i,o,t]
  |brk=>show m
  |ret v=>show m
 |false=>rw[ah bB];show kK #v[e,y,z,l]
end
structure It where
 go:Nat->Hp->Prop
 yld:Nat->Hp->V->Hp->Prop
 stop:Nat->Hp->Prop
def Iv(X:Cx)(a:dF)(H:Hp)(b:Addr):Prop:=
 H b=Z/\b≠X.a9.locals/\b∉X.fs/\(b∈X.ex\/X.s₀.heap.objs.size<=b)/\(∀x c,X.a9.cells.lookup x=U c->c≠b)/\∀p∈X.pn++a,p.1≠b
def b?.L?(I:b? X d j H s)(a: ~~~s<=b)(h:f b=Z):Iv X d f b:=by
 refine#v[h,eJ (cF I.lt a),I.nofs a,.inr (cg I.sz a),λx c e z=>?_,λp i z=>?_]
 .let#v[v,q]:=I.cell x c e;show au (cF q.lt (by rw[z];show a)) (eF _)
 .show au (cF (aM (I.C' p i).1) (by rw[z];show a)) (eF _)
structure Mn(P:bb)(w:aQ)(K:ay)(tg:Expr)(A_:It)(fp:List Addr)(it:Addr)(tn:Nat->Heap->Prop):Prop where
 mem:it∈fp
 obj:∀i h,tn i h->∀b∈fp,∃o,h.get? b=U o/\∀v,o.data≠.cell v
 keep:∀i h h',tn i h->(∀b∈fp,∀o,h.get? b=U o->h'.get? b=U o)->tn i h'
 item:∀(X:Cx),X.prog=P->X.w=w->X.K=K->X.k?=γ->∀(i:Nat) (pins:dF) (s:aq) (σ:St) (H:Hp) (E:aa->aq->Prop),b? X pins σ H s->(∀b∈fp,Iv X pins H b)->tn i s.heap->A_.go i H->
  ar (model P w) X.A (pyNext (.ref it)) (λr s1=>∃u,r=U u/\
   ar (model P w) X.A (ju tg (.ref it) u) (λz s2=>∃x H',b? X pins σ H' s2/\ea x u/\A_.yld i H x H'/\tn (i+1) s2.heap/\∀b∈fp,H' b=Z) E s1) E s
 done:∀(X:Cx),X.prog=P->X.w=w->X.K=K->X.k?=γ->∀(i:Nat) (pins:dF) (s:aq) (σ:St) (H:Hp) (E:aa->aq->Prop),b? X pins σ H s->(∀b∈fp,Iv X pins H b)->tn i s.heap->A_.stop i H->
  ar (model P w) X.A (pyNext (.ref it)) (λr s1=>r=Z/\b? X pins σ H s1) E s
 self:∀(A:bo) (i:Nat) (s:aq) (Q:aa->aq->Prop) (E:aa->aq->Prop),tn i s.heap->Q (.ref it) s->ar (model P w) A (pyIter (.ref it)) Q E s
abbrev TI:=St->Hp->(It->Hp->Prop)->Prop
def PIE(X:Cx)(a:dF)(j:St)(i:Expr)(R:It->Hp->Prop)(itv:aa)(f:aq):Prop:=
 ∃(e:Addr) (d:List Addr) (h:Nat->Heap->Prop) (A_:It) (c:Hp),itv=.ref e/\b? X a j c f/\Mn X.prog X.w X.K i A_ d e h/\h 0 f.heap/\(∀b∈d,Iv X a c b)/\R A_ c
def PI(X:Cx)(d iter:Expr)(e:TI):Prop:=
 ∀(a:dF) (s:aq) (b:St) (H:Hp) (R:It->Hp->Prop),b? X a b H s->e b H R->
  ar (model X.prog X.w) X.A (eval iter X.a9) (λv c=>ar (model X.prog X.w) X.A (pyIter v) (PIE X a b d R) X.xe c) X.xe s
def Og{s:aq}(c:s.heap.get? d=U o)(a:o.cls=.type n)(hd:o.data=.fields f)
  (b:["enumerate", "zip", "dict_itemiterator", "dict_reverseitemiterator", "odict_iterator", "itertools.zip_longest", "itertools.pairwise"].contains n=δ) (hQ:Q Unit.unit s):ar M A (ju e (.ref d) u) Q E s:=by
 delta ju;ext e<;>first
  |show aw hQ
  |(ext u<;>first
    |show aw hQ
    |(refine aj (oe c ?_)
      rw[a,hd];change ar M A (if (["enumerate", "zip", "dict_itemiterator", "dict_reverseitemiterator", "odict_iterator", "itertools.zip_longest", "itertools.pairwise"].contains n&&f[0]?==U (rawInt _))=γ then _ else _) Q E s;rw[ah (by intro h;rw[b,rh]at h;ext h)];show aw hQ))
#print "l gi;t fl" in def Itϑ0(K:ay)(a:Addr):It:=
 #v[λi H=>∃b x,ϑ1 K H a b/\b[i]?=U x,λi H x c=>c=H/\∀b,ϑ1 K H a b->b[i]?=U x,λi H=>∃b,ϑ1 K H a b/\b.length<=i]
def Itr(lo:Int)(n:Nat):It:=#v[λi z=>i<n,λi H x a=>a=H/\x=.int (lo+i),λi z=>n<=i]
def PH{P:bb}{w:aQ}{K:ay}{tg:Expr}(a it:Addr):Mn P w K tg (Itl K a) [it] it (λi h=>h.IsListIter it a i) where
 mem:=by simp
 obj:=λi h st b f=>by
  have e:b=it:=by exists f
  subst e;let#v[o,e,c,d]:=st;show#v[o,e,λv z=>by rw[d]at z;ext z]
 keep:=λi h h' st k=>st.at λo e=>k it (by simp) o e
 item:=by intro X hP C hK M i pins s σ H E I l st B;subst hP C hK;let#v[xs,x,m,F]:=B;let#v[its,G,p,T]:=I.list m;let#v[u,R,W]:=G.get F;let#v[q,r,Q,t,y,A]:=l it (by simp);calc wpAny_pyNext_list_item st p.isList (x:=u) (by exists R) λh' j Y=>?_;have N:b? X pins σ H { s with heap:=h' }:=I.jl (t':=s.toks) (λb o f e=>(Y.2 b f).t e) q r t y A;let#v[o,e,c,d]:=id j;show#v[u,J,Og (s:={ s with heap:=h' }) e c d #[] #v[x,H,N,W,#v[J,λys S=>by rw[I.N' S m];show F],j,λb f=>(l b f).1]]
 done:=by intro X hP C hK M i pins s σ H E I l st B;subst hP C hK;let#v[xs,m,F]:=B;let#v[its,G,p,T]:=I.list m;let#v[q,r,Q,t,y,A]:=l it (by simp);have hl:=G.length;show wpAny_pyNext_list_end (I.ok.hd M) st p.isList (by simp;omega) λh' O=>#v[J,I.jl (t':=s.toks) (λb o f e=>O b o f e) q r t y A]
 self:=λn n n n n st h=>wpAny_pyIter_listiter st h
def MM{P:bb}{w:aQ}{K:ay}{tg:Expr}(a it:Addr):Mn P w K tg (Itt K a) [it] it (λi h=>h.IsTupleIter it a i) where
 mem:=by simp
 obj:=λi h st b f=>by
  have e:b=it:=by exists f
  subst e;let#v[o,e,c,d]:=st;show#v[o,e,λv z=>by rw[d]at z;ext z]
 keep:=λi h h' st k=>st.at λo e=>k it (by simp) o e
 item:=by intro X hP C hK M i pins s σ H E I l st B;subst hP C hK;let#v[xs,x,m,F]:=B;let#v[its,G,p,T]:=I.tuple m;let#v[u,R,W]:=G.get F;let#v[q,r,Q,t,y,A]:=l it (by simp);calc wpAny_pyNext_tuple_item st (show s.heap.IsTuple a its.toArray from p) (x:=u) (by exists R) λh' j Y=>?_;have N:b? X pins σ H { s with heap:=h' }:=I.jl (t':=s.toks) (λb o f e=>(Y.2 b f).t e) q r t y A;let#v[o,e,c,d]:=id j;show#v[u,J,Og (s:={ s with heap:=h' }) e c d #[] #v[x,H,N,W,#v[J,λys S=>by rw[I.Hj S m];show F],j,λb f=>(l b f).1]]
 done:=by intro X hP C hK M i pins s σ H E I l st B;subst hP C hK;let#v[xs,m,F]:=B;let#v[its,G,p,T]:=I.tuple m;let#v[q,r,Q,t,y,A]:=l it (by simp);have hl:=G.length;show wpAny_pyNext_tuple_end (I.ok.hd M) st (show s.heap.IsTuple a its.toArray from p) (by simp;omega) λh' O=>#v[J,I.jl (t':=s.toks) (λb o f e=>O b o f e) q r t y A]
 self:=λn n n n n st h=>wpAny_pyIter_tupleiter st h
def MN{P:bb}{w:aQ}{K:ay}{tg:Expr}(it:Addr)(lo:Int)(n:Nat):Mn P w K tg (Itr lo n) [it] it (λi h=>IsRangeIter h it (lo+(i:Nat) * 1) ((n:Int) - (i:Nat)) 1) where
 mem:=by simp
 obj:=λi h st b a=>by
  have e:b=it:=by exists a
  subst e;show#v[_,st,λv z=>by
   have C:Data.fields _=Data.cell v:=z;ext C]
 keep:=λi h h' st k=>k it (by simp) _ st
 item:=by intro X hP u hK q i pins s σ H E I d st r;subst hP u hK;let#v[f,j,A,l,m,p]:=d it (by simp);have W:=Walks.range (prog:=X.prog) (w:=X.w) (I.ok.hd q) it lo 1 n;calc W.item i s _ _ r st λv h' tk hv c B=>?_;let#v[t,rfl]:=hv;have x:b? X pins σ H { s with heap:=h',toks:=tk }:=I.jl (λb o a e=>B b o (by exists a) e) f j l m p;calc#v[_,J,Og (s:={ s with heap:=h',toks:=tk }) (n:="range_iterator") c rfl J #[] #v[.int (lo+i),H,x,#v[t,?_],#v[J,J],c,λb a=>(d b a).1]];rw[Int.mul_one]
 done:=by intro X hP u hK q i pins s σ H E I d st r;subst hP u hK;let#v[f,j,A,l,m,p]:=d it (by simp);show wpAny_pyNext_range_end (I.ok.hd q) st (by have:n<=i:=r;omega) λh' y=>#v[J,I.jl (t':=s.toks) (λb o a e=>y b o a e) f j l m p]
 self:=λg g g g g st h=>wpAny_pyIter_rangeiter st h
section
variable{X:Cx}{tg:Expr}
#print "Q2 gi l;Zc fl t" in def ϑ0(K:ay)(c:TE):TI:=λe H R=>c e H λx b=>∃a,x=.ref a/\(∃d,ϑ1 K b a d)/\R (Itϑ2 K a) b
def U8{l:Expr}{i:TE}(r:PE X l i):PI X tg l (Q2 X.K i):=by
 intro c s z H R I h;calc ff (r c s z H _ I h) λv f zz=>?_;let#v[x,j,d,y,w]:=zz;let#v[a,e,#v[E,t],q]:=w;subst e;ext y;let#v[u,B,p,A]:=d.list t;calc ie p.isList ?_;calc#v[~~~f,[~~~f],_,_,j,J,d.f? (t':=f.toks) λb o e=>aJ _ e,PH a _,#v[_,bq _ J,J,J],λb m=>?_,q];have e:b= ~~~f:=by exists m
 subst e;show d.L? (aF _) (d.fb.fresh (aF _))
def Zd{l:Expr}{j:TE}(t:PE X l j):PI X tg l (Zc X.K j):=by
 intro c s z H R I h;calc ff (t c s z H _ I h) λv d zz=>?_;let#v[x,m,f,y,w]:=zz;let#v[a,e,#v[E,u],q]:=w;subst e;ext y;let#v[i,B,p,A]:=f.tuple u;calc mf (show d.heap.IsTuple a i.toArray from p) ?_;calc#v[~~~d,[~~~d],_,_,m,J,f.f? (t':=d.toks) λb o e=>aJ _ e,MM a _,#v[_,bq _ J,J,J],λb r=>?_,q];have e:b= ~~~d:=by exists r
 subst e;show f.L? (aF _) (f.fb.fresh (aF _))
def Q3{pins:dF}{σ:St}{H:Hp}{s:aq}{R:It->Hp->Prop}{E:aa->aq->Prop}{lo hi:Int}{t u v:Tok}{tk:Nat}(I:b? X pins σ H s)(h1:-(2 ^ 62)<=lo)(h2:lo<2 ^ 62)(h3:-(2 ^ 62)<=hi)(h4:hi<2 ^ 62)
  (q:R (Itr lo (hi - lo).toNat) H):ar (model X.prog X.w) X.A (pyIter (.ref (~~~s))) (PIE X pins σ tg R) E { s with heap:=s.heap.push { cls:=.type "range", data:=.fields #[.int lo t,.int hi u,.int 1 v] },toks:=tk }:=by
 calc wpAny_pyIter_range (IsRange.new ..) (small_one h1 h2 h3 h4) ?_;have a:b? X pins σ H { s with heap:=s.heap.push { cls:=.type "range", data:=.fields #[.int lo t,.int hi u,.int 1 v] },toks:=tk }:=I.f? λb o e=>aJ _ e;refine#v[(s.heap.push { cls:=.type "range", data:=.fields #[.int lo t,.int hi u,.int 1 v] }).objs.size,[(s.heap.push { cls:=.type "range", data:=.fields #[.int lo t,.int hi u,.int 1 v] }).objs.size],_,_,H,J,
  a.f? (t':=tk) λb o e=>aJ _ e,MN _ lo (hi - lo).toNat,?_,λb f=>?_,q]
 .have c:lo+((0:Nat):Int) * 1=lo:=by simp
  have d:(((hi - lo).toNat:Nat):Int) - ((0:Nat):Int)=ux lo hi 1:=by rw[rangeSize_one];split<;>omega
  change IsRangeIter _ _ (lo+((0:Nat):Int) * 1) ((((hi - lo).toNat:Nat):Int) - ((0:Nat):Int)) 1;rw[c,d];show bq _ J
 .have e:b=(s.heap.push { cls:=.type "range", data:=.fields #[.int lo t,.int hi u,.int 1 v] }).objs.size:=by exists f
  subst e;show a.L? (aF _) (a.fb.fresh (aF _))
def X7(b:TA):TI:=λd H R=>b d H λc a=>∃j:Int,c=[.int j]/\-(2 ^ 62)<=j/\j<2 ^ 62/\R (Itr 0 j.toNat) a
def PJ{a:Expr}{d:TA}{p pos:Pos}(l:Gl X "range")(m:X.mg "range" = Z)(i:PA X [a] d)(o:aE [a] X.a9=[(δ,eval a X.a9)]:=by rfl):PI X tg (.Call (.Name "range" p) [a] [] pos) (X7 d):=by
 intro b s y H R I h;calc Call_ (BC I l m boot_range (callWith_type1 (ff (i pos b s y H _ I h) λB A zz=>?_) o J));let#v[C,z,f,w,c]:=zz;let#v[j,e,c,u,q]:=c;subst e;cases w with
 |cons r x=>ext x;let#v[t,rfl]:=r;show call_range_1 (Q3 f () () c u (by exists q))
def U9(c:TI)(g:TG)(tb:TS):TS:=λD σ H=>c σ H λA_ H1=>∃W:Nat->Nat->St->Hp->Prop,(∃m,W 0 m σ H1)/\∀i m σ H,W i m σ H->
 (A_.stop i H/\D.nx σ H)\/(A_.go i H/\∃N:St->Hp->Prop,(∀σ' H',N σ' H'->∃b,b<m/\W (i+1) b σ' H')/\∀x H',A_.yld i H x H'->g x σ H' λa H2=>tb { D with nx:=N,ct:=N,bk:=D.nx } a H2)
def GN(a:List Addr)(h:Heap):dF:=a.filterMap λb=>(h.get? b).map λo=>(b,o)
def Aj{h:Heap}(c:b∈a)(e:h.get? b=U o):(b,o)∈GN a h:=ji.2 #v[b,c,by rw[e];rfl]
def PK(f:p∈GN c h):p.1∈c/\h.get? p.1=U p.2:=by
 let#v[b,d,e]:=ji.1 f;cases q:h.get? b with
 |none=>rw[q]at e;cases e
 |some o=>rw[q]at e;have a:(b,o)=p:=cM e;subst a;show#v[d,q]
def b?.P2(I:b? X a t H s)(m:∀b∈f,Iv X a H b)(q:∀b∈f,∃o,s.heap.get? b=U o/\∀v,o.data≠.cell v):b? X (a++GN f s.heap) t H s:=
 I.W1 λp r=>(bC.1 r).elim (λz=>I.C' p (bU _ z)) λz=>by let#v[h,e]:=PK z;let#v[i,j,l,_]:=m p.1 h;let#v[o,c,d]:=q p.1 h;rw[e]at c;ext c;show#v[e,i,j,l,d]
def b?.ov(I:b? X (a++pl) c H s):b? X a c H s:=I.W1 λp b=>I.C' p (bU _ (bO _ b))
def MO(F:jK (model X.prog X.w) X.A X.a9 X.xe)(hc:X.k?=γ)(hi:PI X tg iter wi)(hg:PG X tg g)(p:l' X body tb)
  (hs:∀x,jk iter X.a9 x=pure x:=by intro _;rfl):PS X (.For tg iter body [] pos) (U9 wi g tb):=by
 intro a s σ H D I h;calc wpAny_For (ff (hi a s σ H _ I h) λv s1 h1=>ff h1 λitv s2 h2=>?_) hs;let#v[it,C,tn,A_,H2,e,I2,T,S,f2,W,#v[m0,w0],turn]:=h2;subst e;have stat:∀{y:Hp},(∀b∈C,y b=Z)->∀b∈C,Iv X a y b:=λhn b p=>#v[hn b p,(f2 b p).2];calc codeAny_forLoop_any (λn s'=>∃i q y,b? X a q y s'/\tn i s'.heap/\(∀b∈C,y b=Z)/\W i n q y) ?_ m0 #v[0,σ,H2,I2,S,λb p=>(f2 b p).1,w0];rintro n s3 ⟨i,t,M,I3,G,E,w3⟩;rcases turn i n t M w3 with ⟨stop,qn⟩|⟨go,N,hN,step⟩
 .calc gE F (ff (T.done X J J J hc i a s3 t M X.xe I3 (stat E) G stop) λr s4 zz=>?_);let#v[Q,I4]:=zz;subst Q;show kK #v[t,M,I4,qn]
 .calc gE F (ff (T.item X J J J hc i a s3 t M X.xe I3 (stat E) G go) λr s4 zz=>?_);let#v[u,Q,h4]:=zz;subst Q;calc gE F (ff h4 λ_ s5 zz=>?_);let#v[x,H5,I5,r5,y5,B,P]:=zz;have O:=I5.P2 (stat P) (T.obj _ _ B);calc gE F (ff (hg _ s5 t H5 x u _ O r5 (step x H5 y5)) λ_ s6 zz=>?_);let#v[Y,H6,I6,q6]:=zz;calc gE F (ff (p _ s6 Y H6 _ I6 q6) λf R z=>?_);have again:∀{c:St} {j:Hp},b? X (a++GN C s5.heap) c j R->N c j->∃m,m<n/\∃i q y,b? X a q y R/\tn i R.heap/\(∀b∈C,y b=Z)/\W i m q y:=λ{c j} l n7=>by let#v[m',hm,w7]:=hN c j n7;calc#v[m',hm,i+1,c,j,l.ov,T.keep _ _ _ B λb p o e=>(l.C' (b,o) (bU _ (bU _ (Aj p e)))).1,λb p=>?_,w7];let#v[o,e,d]:=T.obj _ _ B b p;show(l.C' (b,o) (bU _ (bU _ (Aj p e)))).2.1
  cases f with
  |next=>let#v[c,j,l,n7]:=z;show again l n7
  |cont=>let#v[c,j,l,n7]:=z;show again l n7
  |brk=>let#v[c,j,l,z]:=z;show#v[c,j,l.ov,z]
  |ret v=>let#v[x7,c,j,l,r7,z]:=z;show#v[x7,c,j,l.ov,r7,z]
end
abbrev R2:=V->V->Hp->VK->Prop
def js(X:Cx)(f:aa->aa->Sem aa)(r:R2):Prop:=
 ∀(a:dF) (s:aq) (b:St) (H:Hp) (x y:V) (v u:aa) (Q:VK),b? X a b H s->ea x v->ea y u->r x y H Q->
  ar (model X.prog X.w) X.A (f v u) (EP X a b Q) X.xe s
def xA(X:Cx)(f:aa)(r:bA->Hp->VK->Prop):Prop:=
 ∀(a:dF) (s:aq) (d:St) (H:Hp) (c:bA) (b:List aa) (Q:VK),b? X a d H s->d? c b->r c H Q->
  ar (model X.prog X.w) X.A (call f b) (EP X a d Q) X.xe s
def tOp(r:R2)(d e:TE):TE:=λa H Q=>d a H λx b=>e a b λy c=>r x y c Q
inductive IrI(C:Int->Int->Prop) (g:Int->Int->V) (x:V) (y:V) (H:Hp) (Q:VK):Prop
 |i (i j) (h0:x=.int i) (h1:y=.int j) (h2:C i j) (h3:Q (g i j) H):IrI C g x y H Q
def rI(C:Int->Int->Prop)(g:Int->Int->V):R2:=λx y H Q=>IrI C g x y H Q
inductive IrI0(g:Int->Int->V) (x:V) (y:V) (H:Hp) (Q:VK):Prop
 |i (i j) (h0:x=.int i) (h1:y=.int j) (h2:Q (g i j) H):IrI0 g x y H Q
def R0(g:Int->Int->V):R2:=λx y H Q=>IrI0 g x y H Q
section
variable{X:Cx}{a b c:Expr}{ta tb tc:TE}{pos:Pos}
def Ze(r:PE X a ta)(t:PE X b tb){d:dF}{s:aq}{i:St}{H:Hp}{R:V->V->Hp->Prop}(I:b? X d i H s)
  (h:ta i H λx o=>tb i o λy e=>R x y e) {Q:aa->aq->Prop} {f:aa->aa->Sem aa}
  (z:∀v u m x y e,b? X d i e m->ea x v->ea y u->R x y e->ar (model X.prog X.w) X.A (f v u) Q X.xe m):
  ar (model X.prog X.w) X.A (eval a X.a9) (λv j=>ar (model X.prog X.w) X.A (eval b X.a9) (λu l=>ar (model X.prog X.w) X.A (f v u) Q X.xe l) X.xe j) X.xe s:=by
 calc ff (r d s i H _ I h) λv G zz=>?_;let#v[x,o,p,E,B]:=zz;calc ff (t d G i o _ p B) λu m zz=>?_;let#v[y,e,q,F,C]:=zz;show z v u m x y e q E F C
def Oh(l:js X (c5 m) r)(i:PE X a ta)(j:PE X b tb):PE X (.BinOp a m b pos) (tOp r ta tb):=by intro d s w H Q I h;show wpAny_BinOp (Ze i j I h λv u t x y e f o p q=>l d t w e x y v u Q f o p q)
def opI{f:aa->aa->Sem aa}{C:Int->Int->Prop}{g:Int->Int->Int}
  (rule:∀(i j:Int) (t u:Tok) (s:aq) (Q:aa->aq->Prop) (E:aa->aq->Prop),C i j->Q (.int (g i j) s.toks) { s with toks:=s.toks+1 }->ar (model X.prog X.w) X.A (f (.int i t) (.int j u)) Q E s):
  js X f (rI C λi j=>.int (g i j)):=by
 intro pins s σ H x y v u Q I e ry h;let#v[i,j,rfl,rfl,d,q]:=h;let#v[t,rfl]:=e;let#v[l,rfl]:=ry;show rule i j t l s _ _ d #v[.int (g i j),H,I.zk _,#v[_,J],q]
def opI0{f:aa->aa->Sem aa}{g:Int->Int->Int}
  (rule:∀(i j:Int) (t u:Tok) (s:aq) (Q:aa->aq->Prop) (E:aa->aq->Prop),Q (.int (g i j) s.toks) { s with toks:=s.toks+1 }->ar (model X.prog X.w) X.A (f (.int i t) (.int j u)) Q E s):
  js X f (R0 λi j=>.int (g i j)):=by
 intro pins s σ H x y v u Q I d ry h;let#v[i,j,rfl,rfl,q]:=h;let#v[t,rfl]:=d;let#v[e,rfl]:=ry;show rule i j t e s _ _ #v[.int (g i j),H,I.zk _,#v[_,J],q]
def Va{f:aa->aa->Sem aa}{g:Int->Int->Bool}
  (rule:∀(i j:Int) (t u:Tok) (s:aq) (Q:aa->aq->Prop) (E:aa->aq->Prop),Q (.bool (g i j)) s->ar (model X.prog X.w) X.A (f (.int i t) (.int j u)) Q E s):
  js X f (R0 λi j=>.bl (g i j)):=by
 intro d s o H x y v u Q I e l h;let#v[i,j,rfl,rfl,q]:=h;let#v[t,rfl]:=e;let#v[m,rfl]:=l;show rule i j t m s _ _ #v[.bl (g i j),H,I,J,q]
def Zf(i j:Int):Prop:=0<j/\j<1073741824
def CPow(i j:Int):Prop:=0<=j/\j<=1000000/\i.natAbs<2 ^ 64
def Vb(i j:Int):Prop:=(-(2 ^ 64)<i/\i<2 ^ 64)\/(-(2 ^ 64)<j/\j<2 ^ 64)
def Vb.ok(h:Vb i j):IntMulOk i j:=by
 rcases h with ⟨d,e⟩|⟨d,e⟩
 .show .of_left (rK d e)
 .show .of_right (rK d e)
def Zg:js X (c5 .Add) (R0 λi j=>.int (i+j)):=opI0 λz z z z z z z q=>add_int q
def Zh:js X (c5 .Sub) (R0 λi j=>.int (i - j)):=opI0 λz z z z z z z q=>sub_int q
def Zi:js X (c5 .Mult) (rI Vb λi j=>.int (i * j)):=opI λz z z z z z z d q=>mul_int q d.ok
def Vc:js X (c5 .FloorDiv) (rI Zf λi j=>.int (i / j)):=opI λi j z z z z z d q=>by have e:(0:Int)<j:=d.1;have f:j<1073741824:=d.2;show floordiv_int () (by rw[Int.fdiv_eq_ediv_of_nonneg i ()];show q) (.inl (PyProof.noPylong_small ()))
def Zj:js X (c5 .Mod) (rI (λz j=>0<j) λi j=>.int (i % j)):=opI λi j z z z z z d q=>by have e:(0:Int)<j:=d;show mod_int' () (by rw[Int.fmod_eq_emod_of_nonneg i ()];show q)
def Zk:js X (c5 .Pow) (rI CPow λi j=>.int (i ^ j.toNat)):=opI λz z z z z z z d q=>pow_int_small d.1 d.2.1 d.2.2 q
end
def Q4:V->V->Bool
 |.cx,.cx=>γ|.cx,.int _=>γ|.int _,.cx=>γ|.cx,.bl _=>γ|.bl _,.cx=>γ|.cx,.str _=>γ|.str _,.cx=>γ
 |.int _,.int _=>γ|.bl _,.bl _=>γ|.str _,.str _=>γ|.O _,.O _=>γ
 |.int _,.str _=>γ|.str _,.int _=>γ|.bl _,.str _=>γ|.str _,.bl _=>γ
 |_,_=>δ
def rEq:R2:=λx y H Q=>Q4 x y=γ/\Q (.bl (decide (x=y))) H
def rNe:R2:=λx y H Q=>Q4 x y=γ/\Q (.bl (!decide (x=y))) H
#print "Oi int;Q5 bl;Oj str" in def ϑ0:decide (V.ϑ1 i=V.ϑ1 j)=(i==j):=by rw[dO];simp
def Ol:decide (V.O i=V.O j)=(i.toList==j.toList):=by rw[dO];ext i;ext j;simp
section
variable{X:Cx}{a b c:Expr}{ta tb tc:TE}{pos:Pos}
def wa(I:b? X d h H s)(q:Q (.bl k) H)(e:k=f):EP X d h Q (.bool f) s:=by subst e;show#v[.bl k,H,I,J,q]
def adb:js X (bz .Eq) rEq:=by
 intro m s o H x y v u Q I l d h;let#v[f,q]:=h;cases x with
 |cx=>
  ext l;cases y with
  |cx=>ext d;show tT (wa I q (by simp))
  |bl j=>ext d;show tU (wa I q (by simp))
  |int j=>let#v[e,rfl]:=d;show ud (wa I q (by simp))
  |str j=>let#v[e,rfl]:=d;show ue (wa I q (by simp))
  |_=>show au (show δ=γ from f) bB
 |bl i=>
  ext l;cases y with
  |cx=>ext d;show tV (wa I q (by simp))
  |bl j=>ext d;show eq_bool (wa I q Q5)
  |str j=>let#v[e,rfl]:=d;show tW (wa I q (by simp))
  |_=>show au (show δ=γ from f) bB
 |int i=>
  let#v[t,rfl]:=l;cases y with
  |cx=>ext d;show uf (wa I q (by simp))
  |int j=>let#v[e,rfl]:=d;show eq_int (wa I q Oi)
  |str j=>let#v[e,rfl]:=d;show ug (wa I q (by simp))
  |_=>show au (show δ=γ from f) bB
 |str i=>
  let#v[t,rfl]:=l;cases y with
  |cx=>ext d;show uh (wa I q (by simp))
  |bl j=>ext d;show tY (wa I q (by simp))
  |int j=>let#v[e,rfl]:=d;show ui (wa I q (by simp))
  |str j=>let#v[e,rfl]:=d;show eq_str (wa I q Oj)
  |_=>show au (show δ=γ from f) bB
 |O i=>
  let#v[t,rfl]:=l;cases y with
  |O j=>let#v[e,rfl]:=d;show W.eq_bytes (wa I q Ol)
  |_=>show au (show δ=γ from f) bB
 |_=>ext y<;>show au (show δ=γ from f) bB
def ade:js X (bz .NotEq) rNe:=by
 intro m s o H x y v u Q I l d h;let#v[f,q]:=h;cases x with
 |cx=>
  ext l;cases y with
  |cx=>ext d;show tZ (wa I q (by simp))
  |bl j=>ext d;show t8 (wa I q (by simp))
  |int j=>let#v[e,rfl]:=d;show uj (wa I q (by simp))
  |str j=>let#v[e,rfl]:=d;show um (wa I q (by simp))
  |_=>show au (show δ=γ from f) bB
 |bl i=>
  ext l;cases y with
  |cx=>ext d;show ua (wa I q (by simp))
  |bl j=>ext d;show ne_bool (wa I q (aX not Q5))
  |str j=>let#v[e,rfl]:=d;show ub (wa I q (by simp))
  |_=>show au (show δ=γ from f) bB
 |int i=>
  let#v[t,rfl]:=l;cases y with
  |cx=>ext d;show uo (wa I q (by simp))
  |int j=>let#v[e,rfl]:=d;show ne_int (wa I q (aX not Oi))
  |str j=>let#v[e,rfl]:=d;show uq (wa I q (by simp))
  |_=>show au (show δ=γ from f) bB
 |str i=>
  let#v[t,rfl]:=l;cases y with
  |cx=>ext d;show ur (wa I q (by simp))
  |bl j=>ext d;show uc (wa I q (by simp))
  |int j=>let#v[e,rfl]:=d;show uu (wa I q (by simp))
  |str j=>let#v[e,rfl]:=d;show ne_str (wa I q (aX not Oj))
  |_=>show au (show δ=γ from f) bB
 |O i=>
  let#v[t,rfl]:=l;cases y with
  |O j=>let#v[e,rfl]:=d;show W.ne_bytes (wa I q (aX not Ol))
  |_=>show au (show δ=γ from f) bB
 |_=>ext y<;>show au (show δ=γ from f) bB
#print "f Lt i j lt_int;h Gt j i gt_int" in def adϑ0:js X (bz .ϑ1) (R0 λi j=>.bl (decide (ϑ2<ϑ3))):=Va λz z z z z z z q=>ϑ4 q
#print "g LtE i j le_int;i GtE j i ge_int" in def adϑ0:js X (bz .ϑ1) (R0 λi j=>.bl (decide (ϑ2<=ϑ3))):=Va λz z z z z z z q=>ϑ4 q
def Zl:js X (bz .Is) (λx y H Q=>y=.cx/\Q (.bl (decide (x=.cx))) H):=by
 intro d s i H x y v u Q I e f h;let#v[rfl,q]:=h;ext f;calc is_none_gen (wa I q ?_);ext x<;>first
  |(ext e;rfl)
  |(let#v[t,rfl]:=e;rfl)
def Vd:js X (bz .IsNot) (λx y H Q=>y=.cx/\Q (.bl (!decide (x=.cx))) H):=by
 intro d s i H x y v u Q I e f h;let#v[rfl,q]:=h;ext f;calc isnot_none_gen (wa I q ?_);ext x<;>first
  |(ext e;rfl)
  |(let#v[t,rfl]:=e;rfl)
def Ve(o:js X (bz e) r)(j:PE X a ta)(l:PE X b tb)(m:gO e b=δ):PE X (.Compare a [e] [b] pos) (tOp r ta tb):=by intro d s z H Q I h;show wpAny_Compare1 (Ze j l I h λv u w x y f i p t q=>o d w z f x y v u Q i p t q) m
def Q6(t:TE):TT:=λe H Q=>t e H λx d=>∃k,x=.bl k/\Q k d
def Vf(B:js X (bz i) r)(t:PE X a ta)(w:PE X b tb)(A:gO i b=δ):PT X (.Compare a [i] [b] pos) (Q6 (tOp r ta tb)):=by
 intro d s f H Q I h;refine pN (ff (t d s f H _ I h) λv O #v[x,j,o,G,C]=>ff (w d O f j _ o C) λu P #v[y,l,p,M,E]=>
  ff (B d P f l x y v u _ p G M E) λc R #v[z,m,q,N,k,e,F]=>?_) A
 subst e;ext N;show dM #v[m,q,F]
def MP(r j:R2)(ta tb tc:TE):TE:=λd H Q=>ta d H λx f=>tb d f λy h=>r x y h λz e=>∃k,z=.bl k/\
 (if k=γ then tc d e λl i=>j y l i Q else Q (.bl δ) e)
def Q7(P:js X (bz p) r)(l:js X (bz i) W)(G:PE X a ta)(M:PE X b tb)(N:PE X c tc)
  (O:lastMarks [p,i] [b,c]=δ:=by with_unfolding_all rfl):PE X (.Compare a [p,i] [b,c] pos) (MP r W ta tb tc):=by
 intro f s j H Q I h;refine Compare_chain (ff (G f s j H _ I h) λv s1 #v[x,w,C,Y,R]=>chain_link (ff (M f s1 j w _ C R) λu s2 #v[y,A,E,t,S]=>
  ff (P f s2 j A x y v u _ E Y t S) λd s3 #v[z,m,o,r3,k,e,q]=>?_)) O
 subst e;ext r3;calc dM ?_;cases k with
 |false=>show ite_ff #v[.bl δ,m,o,J,q]
 |true=>show ite_tt (chain_last (ff (N f s3 j m _ o q) λw' s4 #v[z',B,F,r4,T]=>l f s4 j B y z' u w' Q F t r4 T))
def Q8(W:js X (bz p) r)(l:js X (bz i) r')(P:PE X a ta)(R:PE X b tb)(S:PE X c tc)
  (T:lastMarks [p,i] [b,c]=δ:=by with_unfolding_all rfl):PT X (.Compare a [p,i] [b,c] pos) (Q6 (MP r r' ta tb tc)):=by
 intro f s j H Q I h;refine isTrue_chain (ff (P f s j H _ I h) λv s1 #v[x,w,E,r1,q1]=>test_link (ff (R f s1 j w _ E q1) λu s2 #v[y,A,F,t,q2]=>
  ff (W f s2 j A x y v u _ F r1 t q2) λd s3 #v[z,m,o,r3,k,e,q]=>?_)) T
 subst e;ext r3;calc dM ?_;cases k with
 |false=>let#v[k',N,Y]:=q;ext N;show ite_ff #v[m,o,Y]
 |true=>calc ite_tt (test_last (ff (S f s3 j m _ o q) λw' s4 #v[z',B,G,r4,q4]=>ff (l f s4 j B y z' u w' _ G t r4 q4) λd' s5 #v[z2,C,M,r5,k2,O,q5]=>?_));subst O;ext r5;show dM #v[C,M,q5]
def GO:(aS:Nat)<2 ^ 63:=by rw[bH];decide
inductive IV1(x:V) (us:List aa):Prop
 |i (u:aa) (e:us=[u]) (r:ea x u):IV1 x us
def mq(r:d? [x] f):IV1 x f:=by
 cases r with
 |cons d e=>ext e;show#v[_,J,d]
def vals2(r:d? [x,y] j):∃u d,j=[u,d]/\ea x u/\ea y d:=by
 cases r with
 |cons e f=>
  cases f with
  |cons h i=>ext i;show#v[_,_,J,e,h]
def PL:xA X (.type "int") (λd H Q=>(∃i,d=[.int i]/\Q (.int i) H)\/∃k,d=[.bl k]/\Q (.int (if k then 1 else 0)) H):=by
 intro e s l H d j Q I r h;rcases h with ⟨i,rfl,q⟩|⟨k,rfl,q⟩
 .let#v[u,rfl,t,rfl]:=mq r;show call_int_int #v[.int i,H,I,#v[_,J],q]
 .let#v[u,rfl,f]:=mq r;ext f;show call_int_bool #v[.int (if k then 1 else 0),H,I.zk _,#v[_,J],q]
end
structure MQ(h:Heap)(x dx C:Addr)(mA:Str->Option aa):Prop where
 obj:h.get? x=U (fX C dx)
 ns:h.Ns1 dx mA
 ne:dx≠x
#print h
def PM{h:Heap}(n:h.Ns1 f mA):∃c,h.get? f=U c/\∀name,lb name c=U (mA name):=by
 let#v[o,b,p,l,hd,i,_,j]:=n;calc#v[o,l,λname=>?_];have e:=j name;delta nsFind findBy at e;rw[<-Array.find?_toList]at e;delta lb;rw[hd];dsimp only;split
 .rename_i y q;rw[q]at e;show aX U e
 .rename_i q;rw[q]at e;have a:b.toList.any (·.refKey)=δ:=by rw[jm];intro y m;let#v[z,t,hkey]:=i y (Array.mem_toList_iff.1 m);simp[DictEntry.refKey,hkey]
  have d:¬b.toList.any (·.refKey)=γ:=by rw[a];show bB
  rw[ah d];show aX U e
#print f
def MQ.look(I:MQ h x b C mA):∃a,W.InstAt h x (fX C b) C (U a)/\∀name,lb name a=U (mA name):=
 let #v[a,d,c]:=PM I.ns
 #v[a,#v[I.obj,J,J,d],c]
section
variable{prog:bb}{w:aQ}{A:bo}{E:aa->aq->Prop}{s:aq}{K:ay}{x dx C f:Addr}{mA:Str->Option aa}{name:Str}{v:aa}
def get_map(X:K.In s.heap)(I:MQ s.heap x dx C mA)(b:k8 K C name=γ)(c:nV K C=γ)
  (ha:dB K (.ref C) name=U Z) (hv:mA name=U v) (a:W.handedIn v=γ) (h:Q v { s with toks:=s.toks+1 }):
  ar (model prog w) A (getAttr (.ref x) name expr) Q E s:=by
 let#v[od,A_,d]:=I.look;show W.get_value X A_ (ni b).1 (W.findObj_own c ha J (by rw[d,hv])) a h
def Q9(X:K.In s.heap)(I:MQ s.heap x dx C mA)(a:k8 K C name=γ)
  (b:dB K (.ref C) name=U (U (.ref f))) (d:lj K (.ref f)=γ) (e:mA name=Z) (h:Q (.ref f,[.ref x]) s):
  ar (model prog w) A (getMethod (.ref x) name pl) Q E s:=by
 let#v[i,A_,c]:=I.look;show W.method_fn X A_ (ni a).1 (ni a).2 b (beq_iff_eq.mp d) (by change (lb name i).map (·.isSome)=U δ;rw[c,e];rfl) h
def Vg(X:K.In s.heap)(I:MQ s.heap x dx C mA)
  (hs:dB K (.ref C) "__setattr__" = U (U (.builtin "object.__setattr__"))) (l:sr K C=γ) (ht:ou K C name=U Z) (j:nV K C=γ)
  (o:nG mA ns) (m:ns.length<=aS)
  (h:∀h',MQ h' x dx C (λy=>if y=name then U v else mA y)->fD dx s.heap h'->Q Unit.unit { s with heap:=h',toks:=s.toks+2 }):
  ar (model prog w) A (setAttr (.ref x) name v) Q E s:=by
 let#v[od,A_,t]:=I.look;calc W.set_plain X A_ hs (W.osa_open (s:={ s with toks:=s.toks+1 }) (r:=Z) X A_ l ht λb=>?_);let#v[q,i,e]:=W.any_some j;have p:s.heap.get? x=U #v[.ref C,U dx,.plain,[].toArray]:=I.obj;calc aj (aw (aj (aj (wpAny_loadPart p (aj (W.Looks.here (s:={ s with toks:=s.toks+1 }) (W.looks_clsIn X i) ?_))))));rw[e];calc aw (a:=U dx) (aj (aw (aj ?_)));calc wpAny_nsSet1 (s:={ s with toks:=s.toks+1 }) I.ns λh' c d=>?_;let#v[oD,esD,epD,hoD,hdD,hcD]:=c.count (va name v o);calc aj (wpAny_lookBehind hoD (by rw[hdD];show pastItsLine_dict (cg hcD (by rw[aK];omega))) ?_);show aw (h _ #v[(d.2 _ (b0 I.ne)).t I.obj,c,I.ne] d)
def Rb(X:K.In s.heap)(hm:W.makesIn K C=γ)
  (hi:dB K (.ref C) "__init__" = U (U (.ref f))) (b:W.typeIn K (.ref f)=U (.type "function"))
  (h:cO (model prog w) (A.under (.builtin "type.__call__" #v[.ref C::vs,a])) (.call (.ref f) #v[.ref (~~~s+1)::vs,a]) (W.InitBack (~~~s+1) R)
   { s with heap:=(s.heap.push fG).push (fX C (~~~s)) }):
  cO (model prog w) A (.call (.ref C) #v[vs,a]) R s:=by
 let#v[c,g,d,t,os]:=s;show W.make_core (W.makes_of X hm) (W.looks_findIn X hi) (λself=>W.bind_fn X self b) (.inl J) h
end
def Bj(f:Str)(v:V):List (Str×V)->List (Str×V)
 |[]=>[(f,v)]
 |(g,x)::r=>if g=f then (g,v)::r else (g,x)::Bj f v r
theorem Fv(f g:Str)(v:V):∀fs:List (Str×V),(Bj f v fs).lookup g=if g=f then U v else fs.lookup g
 |[]=>by
  change dQ g [(f,v)]=_;by_cases h:g=f
  .have a:(g==f)=γ:=beq_iff_eq.mpr h;erw[dQ,a,af h]
  .have a:(g==f)=δ:=beq_eq_false_iff_ne.2 h;erw[dQ,a,ah h]
 |(k,x)::r=>by
  have c:=Fv f g v r;rw[show Bj f v ((k,x)::r)=(if k=f then (k,v)::r else (k,x)::Bj f v r) from J];by_cases b:k=f
  .rw[af b];by_cases h:g=k
   .have a:(g==k)=γ:=beq_iff_eq.mpr h;erw[dQ,a,af (h.t b)]
   .have a:(g==k)=δ:=beq_eq_false_iff_ne.2 h;erw[dQ,a,ah (λe:g=f=>h (e.t b.symm))]
  .rw[ah b];by_cases h:g=k
   .have a:(g==k)=γ:=beq_iff_eq.mpr h;erw[dQ,a,ah (λe:g=f=>b (h.symm.t e))]
   .have a:(g==k)=δ:=beq_eq_false_iff_ne.2 h;erw[dQ,a];show c
theorem EZ(f:Str)(v:V):∀fs:List (Str×V),f∈(Bj f v fs).map (·.1)/\∀g,g∈fs.map (·.1)->g∈(Bj f v fs).map (·.1)
 |[]=>#v[by simp[Bj],λg h=>by simp at h]
 |(k,x)::r=>by
  let#v[b,c]:=EZ f v r;rw[show Bj f v ((k,x)::r)=(if k=f then (k,v)::r else (k,x)::Bj f v r) from J];by_cases a:k=f
  .rw[af a];subst a;show#v[by simp,λg h=>by exists h]
  .rw[ah a];refine#v[?_,λg h=>?_]
   .rw[aA];show ba _ b
   .rw[aA]at h ⊢;rcases aD.1 h with e|e
    .show aD.2 (.inl e)
    .show ba _ (c g e)
theorem Fw(f:Str)(v:V):∀fs:List (Str×V),(Bj f v fs).length<=fs.length+1
 |[]=>by simp[Bj]
 |(k,x)::r=>by
  have b:=Fw f v r;rw[show Bj f v ((k,x)::r)=(if k=f then (k,v)::r else (k,x)::Bj f v r) from J];by_cases a:k=f
  .rw[af a,aK,aK];omega
  .rw[ah a,aK,aK];omega
def Cn.I?(r:Cn (U v) o):∃u,o=U u/\ea v u:=by
 cases o with
 |none=>show(show False from r).elim
 |some u=>show#v[u,J,r]
def Cn.none_of(r:Cn Z o):o=Z:=by
 cases o with
 |none=>rfl
 |some u=>show(show False from r).elim
def PN(r:ea v u):W.handedIn u=γ:=by
 cases v with
 |cx=>cases (show u=Value.none from r);rfl
 |bl b=>cases (show u=Value.bool b from r);rfl
 |int i=>let#v[t,e]:=(show ∃t,u=Value.int i t from r);ext e;rfl
 |str x=>let#v[t,e]:=(show ∃t,u=Value.str x t from r);ext e;rfl
 |O b=>let#v[t,e]:=(show ∃t,u=Value.bytes b t from r);ext e;rfl
 |flt b=>let#v[t,e]:=(show ∃t,u=Value.float b t from r);ext e;rfl
 |ref a=>cases (show u=Value.ref a from r);rfl
 |ty n=>cases (show u=Value.type n from r);rfl
section
variable{P:bb}{w:aQ}{H H':Hp}{h h':Heap}{a C dx:Addr}{fs fs':List (Str×V)}
def BD(fb:tj P w H h)(e:H a=U (.nj C dx fs)):∃mA,MQ h a dx C mA/\(∀f,Cn (fs.lookup f) (mA f))/\nG mA (fs.map (·.1))/\fs.length<=1000/\H dx=U (.g? a):=by let#v[d,z,ne,b,mA,n,r,q]:=(show eu P w H h a (.nj C dx fs) from fb a _ e);show#v[mA,#v[b,n,ne],r,q,z,d]
end
structure U?(K:ay)(C:Addr):Prop where
 pg:k8 K C Str.empty=γ
 hd:nV K C=γ
 po:sr K C=γ
 sa:dB K (.ref C) "__setattr__" = U (U (.builtin "object.__setattr__"))
def U?.get{K:ay}{C:Addr}(c:U? K C)(f:Str):k8 K C f=γ:=c.pg
def AZ(K:ay)(C:Addr)(f:Str):Prop:=dB K (.ref C) f=U Z
def AZ.taker{K:ay}{C:Addr}{f:Str}(n:AZ K C f):ou K C f=U Z:=by delta ou;rw[show dB K (.ref C) f=U Z from n];rfl
structure Meth(K:ay)(C:Addr)(m:Str)(f:Addr):Prop where
 l0:dB K (.ref C) m=U (U (.ref f))
 fn:lj K (.ref f)=γ
 kp:dS K (.ref f)=γ
section
variable{X:Cx}{pins:dF}{σ:St}{H:Hp}{s:aq}{a C dx:Addr}{fs:List (Str×V)}{f:Str}{v:V}{A:bo}{E:aa->aq->Prop}
def MR(I:b? X pins σ H s)(e:H a=U (.nj C dx fs))(c:U? X.K C)(n:AZ X.K C f)(l:fs.lookup f=U v)
  (h:∀u i,b? X pins σ H i->ea v u->Q u i):ar (model X.prog X.w) A (getAttr (.ref a) f b) Q E s:=by
 let#v[mA,O,r,_,_,_]:=BD I.fb e;let#v[u,j,d]:=Cn.I? (v:=v) (o:=mA f) (by rw[<-l];show r f);show get_map I.rl O (c.get f) c.hd n j (PN d) (h u _ (I.zk _) d)
def GP(I:b? X pins σ H s)(e:H a=U (.nj C dx fs))(c:U? X.K C)(k:Meth X.K C m g)(l:fs.lookup m=Z)
  (h:Q (.ref g,[.ref a]) s):ar (model X.prog X.w) A (getMethod (.ref a) m pl) Q E s:=by
 let#v[mA,O,r,_,_,_]:=BD I.fb e;have b:mA m=Z:=Cn.none_of (by rw[<-l];show r m);show Q9 I.rl O (c.get m) k.l0 k.fn b h
def MU(I:b? X pins σ H s)(e:H a=U (.nj C dx fs))(c:U? X.K C)(n:AZ X.K C f)(N:fs.length<1000)(G:ea y u)
  (h:∀j,b? X pins σ (el H a (.nj C dx (Bj f y fs))) j->Q Unit.unit j):ar (model X.prog X.w) A (setAttr (.ref a) f u) Q E s:=by
 let#v[mA,O,r,l,_,i]:=BD I.fb e;have F:(fs.map (·.1)).length<=aS:=by rw[ak,bH];omega
 calc Vg I.rl O c.sa c.po n.taker c.hd l F λp d M=>h _ ?_;have hd:∃o,p.get? dx=U o:=let #v[o,_,_,m,_]:=d.ns;#v[o,m];calc I.z6 (x:=a) (e:=dx) (by rw[e];show True.intro) (.inr i) (λb q t z=>(M.2 b t).t z) hd ?_;refine#v[by rw[vC O.ne];show i,?_,O.ne,d.obj,_,d.ns,λg=>?_,λg B=>?_]
 .have:=Fw f y fs;omega
 .change Cn ((Bj f y fs).lookup g) (if g=f then U u else mA g);rw[Fv];by_cases q:g=f
  .rw[af q,af q];show G
  .rw[ah q,ah q];show r g
 .by_cases q:g=f
  .rw[q];show(EZ f y fs).1
  .calc(EZ f y fs).2 g (l g λz=>B ?_);change (if g=f then U u else mA g)=Z;rw[ah q];show z
def b?.made(I:b? X pins σ H s):b? X pins σ (el (el H (~~~s) (.g? (~~~s+1))) (~~~s+1) (.nj C (~~~s) []))
  { s with heap:=(s.heap.push fG).push (fX C (~~~s)) }:=by
 have c:(s.heap.push fG).get? (~~~s)=U fG:=bq s.heap J;have h:((s.heap.push fG).push (fX C (~~~s))).get? (~~~s+1)=U (fX C (~~~s)):=by
  have:=bq (s.heap.push fG) (o:=fX C (~~~s)) J
  rwa [cY]at this
 have i:(s.heap.push fG).Ns (~~~s) (λz=>Z):=#v[fG,[].toArray,_,c,J,(λe j=>au j (by simp)),λz=>J];have d:=I.laid (a:= ~~~s) (o:=.g? (~~~s+1)) (h':=s.heap.push fG) (t':=s.toks) (λb u q=>aJ _ q) (aF _) #v[_,c];calc d.laid (a:= ~~~s+1) (o:=.nj C (~~~s) []) (t':=s.toks) (λb u q=>aJ _ q) (nH (cY _ _)) ?_;have ne: ~~~s≠~~~s+1:=aW (cQ _);calc#v[by rw[vC ne,vB],bM _,ne,h,λz=>Z,(Heap.Ns1.of_empty i).at λo q=>aJ _ q,λz=>True.intro,λy l=>au J l]
def Vh(c:fA e f a9 (eval e a9)=eval e a9)
  (h:ar (model prog w) A (eval e a9) (λo b=>ar (model prog w) A (getAttr o f γ) Q E b) E s):ar (model prog w) A (eval (.Attribute e f pos) a9) Q E s:=
 Attribute_any_ h (by rw[arm_eval_Attribute,c])
end
def tFld(K:ay)(d:TE)(f:Str):TE:=λe H Q=>d e H λx b=>∃a C c fs v,x=.ref a/\b a=U (.nj C c fs)/\U? K C/\AZ K C f/\fs.lookup f=U v/\Q v b
def sFld(K:ay)(h i:TE)(f:Str):TS:=λD b H=>i b H λy e=>h b e λx c=>∃a C d fs,x=.ref a/\c a=U (.nj C d fs)/\U? K C/\AZ K C f/\fs.length<1000/\
 D.nx b (el c a (.nj C d (Bj f y fs)))
section
variable{X:Cx}{o e value:Expr}{f:Str}{pos pos' tpos:Pos}{ta tv:TE}
def Zm(t:PE X e ta)(r:fA e f X.a9 (eval e X.a9)=eval e X.a9):PE X (.Attribute e f pos) (tFld X.K ta f):=by intro b s z H Q I h;calc Vh r (ff (t b s z H _ I h) λu B zz=>?_);let#v[x,d,i,y,a,C,A,fs,v,p,m,c,n,l,q]:=zz;subst p;obtain rfl:u=Value.ref a:=y;show MR i m c n l λF E j w=>#v[v,d,j,w,q]
def Zn(w:PE X o ta)(A:PE X value tv)(z:eM value (U (.Attribute o f pos')) pos.line X.a9=pure δ):PS X (.Assign [.Attribute o f pos'] value pos) (sFld X.K ta tv f):=by intro b s d H D I h;calc plainObj_wpAny_Assign_Attribute (ff (A b s d H _ I h) λu M #v[y,i,j,G,q]=>ff (w b M d i _ j q) λB P zz=>?_) z;let#v[x,N,m,F,a,C,O,fs,t,r,c,n,l,E]:=zz;subst t;obtain rfl:B=Value.ref a:=F;show MU m r c n l G λQ p=>#v[d,_,p,E]
end
section
variable{X:Cx}{pins:dF}{σ:St}{H:Hp}{s:aq}{A:bo}{E:aa->aq->Prop}{Q:aa->aq->Prop}{c:aa}{b:Bool}
inductive Gc(K:ay) (H:Hp):V->aa->Prop where
 |cx:Gc K H .cx (.type "NoneType")
 |bl (x:Bool):Gc K H (.bl x) (.type "bool")
 |int (i:Int):Gc K H (.int i) (.type "int")
 |str (x:Str):Gc K H (.str x) (.type "str")
 |flt (x:UInt64):Gc K H (.flt x) (.type "float")
 |ax {a:Addr} {xs:bA} (e:H a=U (.ax xs)):Gc K H (.ref a) (.type "list")
 |l? {a:Addr} {o:Obj} {xs:bA} (e:H a=U (.l? o (.ax xs))):Gc K H (.ref a) (.type "list")
 |bx {a:Addr} {xs:bA} (e:H a=U (.bx xs)):Gc K H (.ref a) (.type "tuple")
 |dK {a:Addr} {kvs:List (ee×V)} (e:H a=U (.dK kvs)):Gc K H (.ref a) (.type "dict")
 |dT {a:Addr} {kvs:List (List ee×V)} (e:H a=U (.dT kvs)):Gc K H (.ref a) (.type "dict")
 |nj {a C dx:Addr} {fs:List (Str×V)} (e:H a=U (.nj C dx fs)) (cl:U? K C) (ha:dB K (.ref C) "__class__" = U (U (.builtin "object.__class__")))
   (hn:su K (.builtin "object.__class__") "__get__" = U (U (.builtin "getset_descriptor.__get__"))) (htk:W.takesIn K (.builtin "object.__class__")=U γ)
   (hm:W.mroIn K C (.type "object")=U γ):Gc K H (.ref a) (.ref C)
def Ab(I:b? X pins σ H s)(f:ea x u)(ty:Gc X.K H x t)(e:c6 X.K t c=U b)(h:∀tk,Q (.bool b) { s with toks:=tk }):
  ar (model X.prog X.w) A (call (.builtin "isinstance") [u,c]) Q E s:=by
 cases ty with
 |cx=>cases (show u=Value.none from f);show cU W.kitx_none I.rl True.intro e (λz=>nomatch z) h
 |bl y=>cases (show u=Value.bool y from f);show cU W.kitx_bool I.rl True.intro e (λz=>nomatch z) h
 |int i=>let#v[t,q]:=(show ∃t,u=Value.int i t from f);ext q;show cU W.kitx_int I.rl True.intro e (λz=>nomatch z) h
 |str y=>let#v[t,q]:=(show ∃t,u=Value.str y t from f);ext q;show cU W.kitx_str I.rl True.intro e (λz=>nomatch z) h
 |flt y=>let#v[t,q]:=(show ∃t,u=Value.float y t from f);ext q;show cU W.kitx_float I.rl True.intro e (λz=>nomatch z) h
 |@ax a xs d=>cases (show u=Value.ref a from f);let#v[_,_,n,_,h1]:=(show eu X.prog X.w H s.heap a (.ax xs) from I.fb a _ d);show cU nW I.rl #v[_,h1,J] e (λz=>nomatch z) h
 |@l? a ob xs d=>cases (show u=Value.ref a from f);let#v[_,_,_,n,_,h1]:=(show eu X.prog X.w H s.heap a (.l? ob (.ax xs)) from I.fb a _ d);show cU nW I.rl #v[_,h1,J] e (λz=>nomatch z) h
 |@bx a xs d=>cases (show u=Value.ref a from f);let#v[_,_,_,p,_]:=(show eu X.prog X.w H s.heap a (.bx xs) from I.fb a _ d);let#v[o,h1,h2,_]:=p;show cU rY I.rl #v[o,h1,h2] e (λz=>nomatch z) h
 |@dK a kvs d=>cases (show u=Value.ref a from f);let#v[_,_,vs,_,p]:=(show eu X.prog X.w H s.heap a (.dK kvs) from I.fb a _ d);let#v[o,es,ep,h1,h2,_]:=p;show cU k6 I.rl #v[o,h1,h2.1] e (λz=>nomatch z) h
 |@dT a kvs d=>cases (show u=Value.ref a from f);let#v[_,_,xs,_,o,es,ep,h1,h2,_]:=(show eu X.prog X.w H s.heap a (.dT kvs) from I.fb a _ d);show cU k6 I.rl #v[o,h1,h2.1] e (λz=>nomatch z) h
 |@nj a C dx fs d cl ha hn htk hm=>cases (show u=Value.ref a from f);let#v[mA,O,_]:=BD I.fb d;let#v[od,A_,_]:=O.look;show cU (W.kitx_own (cl.get _) cl.hd ha hn htk hm) I.rl A_ e (λz=>nomatch z) h
end
structure xi(k:Nat)(A:bo):Prop where
 hd:A.handled=Z
 dp:A.depth+3 * k+5<recursionLimit
 un:A.units+16 * k+200<cLine
def xi.mono(r:xi k A)(h:j<=k):xi j A:=#v[r.hd,by have:=r.dp;omega,by have:=r.un;omega]
theorem xi.deeper(r:xi (k+1) A)(a9:Env):xi k (A.deeper a9):=
 #v[r.hd,by have:=r.dp;change A.depth+1+3 * k+5<_;omega,by have:=r.un;change A.units+3+16 * k+200<_;omega]
def MV{A:bo}:(A.under (.builtin "type.__call__" #v[.ref C::b,a])).depth=A.depth+1:=by
 first|rfl|simp[nI,Code.weight,Code.isCreation,Code.isGuard,Code.isCaller,sv,nJ,guardIds]
def MW{A:bo}:(A.under (.builtin "type.__call__" #v[.ref C::b,a])).units=A.units+1:=by
 first|rfl|simp[nI,Code.cUnits,sv,nJ]
def xi.make(r:xi (k+1) A)(C:Addr)(b:List aa)(a:List (Str×aa)):xi k (A.under (.builtin "type.__call__" #v[.ref C::b,a])):=
 #v[r.hd,by have:=r.dp;rw[MV];omega,by have:=r.un;rw[MW];omega]
theorem xi.depth(r:xi k A):A.depth<recursionLimit:=by have:=r.dp;omega
theorem xi.units(r:xi k A):A.units+64<cLine:=by have:=r.un;omega
def GQ:TA:=λz H Q=>Q [] H
def Ak(d:TE)(e:TA):TA:=λa H Q=>d a H λx b=>e a b λf c=>Q (x::f) c
section
variable{X:Cx}{e:Expr}{es:List Expr}{te:TE}{t:TA}{pos:Pos}
def zO:PA X [] GQ:=λz z z z H Q I h=>ig #v[[],H,I,.nil,h]
def xf(j:PE X e te)(l:PA X es t)(m:aE (e::es) X.a9=(δ,eval e X.a9)::aE es X.a9:=by rfl):PA X (e::es) (Ak te t):=by intro pos a s b H Q I h;rw[m];change ar _ _ (spliced ((δ,eval e X.a9)::bJ pos (aE es X.a9))) _ _ s;calc gq (ff (j a s b H _ I h) λu w zz=>?_);let#v[x,c,f,q,o]:=zz;show ff (l pos a w b c _ f o) λA z #v[y,d,i,r,p]=>#v[x::y,d,i,.cons q r,p]
#print "tTup bx;Vi ax" in def ϑ0(t:TA):TE:=λc H Q=>t c H λb a=>b.length<=aS/\∀p,a p=Z->Q (.ref p) (el a p (.ϑ1 b))
def Re{m}(h:PA X es t):PE X (.Tuple es m pos) (tTup t):=by intro a s w H Q I j;calc wpAny_Tuple_spliced (ff (h pos a s w H _ I j) λl c #v[p,d,f,r,z,q]=>#v[by rw[<-r.length];show z,?_]);have i:d (~~~c)=Z:=f.fb.fresh (aF _);calc#v[.ref (~~~c),el d (~~~c) (.bx p),f.laid (t':=c.toks) (λb u e=>aJ _ e) (aF _) ?_,J,q _ i];show#v[z,l,r,#v[_,bq _ J,J,_,J],λo e=>by rw[bq _ J]at e;ext e;rfl]
def MX(h:PA X es t):PE X (.List es pos) (Vi t):=by intro a s o H Q I j;calc wpAny_List_spliced (ff (h pos a s o H _ I j) λl c #v[m,d,f,r,z,q]=>#v[by rw[<-r.length];show z,?_]);have i:d (~~~c)=Z:=f.fb.fresh (aF _);calc#v[.ref (~~~c),el d (~~~c) (.ax m),f.laid (t':=c.toks) (λb u e=>aJ _ e) (aF _) ?_,J,q _ i];show#v[z,l,0,r,bq _ J]
end
abbrev Sp:=bA->Hp->VK->XK->Prop
abbrev CXT:=List Env->Hp->aq->XK->aa->aq->Prop
structure MY(P:bb)(w:aQ)(K:ay)(mg:Str->Option aa)(a8:Heap)(A:bo)(b9:List Env)(s:aq)(H:Hp):Prop where
 frames:A.frames=U b9
 B?:Mod K mg a8
 bs:∀b o,a8.get? b=U o->s.heap.get? b=U o/\H b=Z
 bsz:a8.objs.size<= ~~~s
 u?:s.heap.FunFrames a8 b9
 frf:∀b∈Z' b9,H b=Z
 fb:tj P w H s.heap
 i?:eP s.gens
def CE(b9:List Env)(P:bb)(w:aQ)(H:Hp)(s:aq)(Q:VK)(u:aa)(a:aq):Prop:=
 ∃v b,a.os=s.os/\eP a.gens/\Un (Z' b9) [] H b s.heap a.heap/\tj P w b a.heap/\ea v u/\Q v b
def CR(CX:CXT)(b9:List Env)(P:bb)(w:aQ)(H:Hp)(s:aq)(Q:VK)(E:XK)(r:lp)(a:aq):Prop:=
 match r with
 |.ok (.ret u)=>CE b9 P w H s Q u a
 |.ok _=>False
 |.error e=>CX b9 H s E e a
structure zh(P:bb)(w:aQ)(K:ay)(mg:Str->Option aa)(a8:Heap)(CX:CXT)(k:Nat)(f:Addr)(fd:cD)(ps:aC)(sp:Sp):Prop where
 len:∀vs H Q E,sp vs H Q E->vs.length=ps.length
 run:∀(A:bo) (b9:List Env) (s:aq) (H:Hp) (args:Args) (us:List aa) (vs:bA) (Q:VK) (E:XK),xi k A->MY P w K mg a8 A b9 s H->iM s fd args (ps.zip us)->d? vs us->sp vs H Q E->
  cO (model P w) A (.call (.ref f) args) (CR CX b9 P w H s Q E) s
theorem zh.imp{P:bb}{w:aQ}{K:ay}{d:Str->Option aa}{a8:Heap}{CX:CXT}{k:Nat}{f:Addr}{c:cD}{ps:aC}{e b:Sp}(F:zh P w K d a8 CX k f c ps e)
  (h:∀a H Q E,b a H Q E->e a H Q E):zh P w K d a8 CX k f c ps b:=
 #v[λa H Q E q=>F.len a H Q E (h _ _ _ _ q),λA b9 s H args p a Q E l j i o m=>F.run A b9 s H args p a Q E l j i o (h _ _ _ _ m)]
def MY.make{P:bb}{w:aQ}{K:ay}{a:Str->Option aa}{a8:Heap}{A:bo}{b9:List Env}{s:aq}{H:Hp}(e:MY P w K a a8 A b9 s H)(C:Addr)(c:List aa)(b:List (Str×aa)):
  MY P w K a a8 (A.under (.builtin "type.__call__" #v[.ref C::c,b])) b9 s H:=#v[by first|show e.frames|(simpa [nI,Code.envs,nJ,pushEnvs]using e.frames),e.B?,e.bs,e.bsz,e.u?,e.frf,e.fb,e.i?]
section
variable{X:Cx}{pins:dF}{σ:St}{H:Hp}{s s':aq}
def b?.env0(I:b? X pins σ H s):MY X.prog X.w X.K X.mg X.a8 X.A X.stack s H:=
 #v[I.ok.frames,I.ok.B?,I.bs,cg I.ok.bsz I.sz,I.stack,I.X?,I.fb,I.i?]
def b?.after(I:b? X pins σ H s)(h:CE X.stack X.prog X.w H s Q u s'):EP X pins σ Q u s':=by let#v[v,c,os,i?,un,fb,r,q]:=h;let#v[e,g,d,t,a]:=s';obtain rfl:a=s.os:=os;show#v[v,c,I.call (h':=e) (g':=g) (d':=d) (t':=t) (ch:=[]) un fb i? (λb z=>au z (by simp)),r,q]
end
def zI(b:Sp)(dvs:bA)(E:XK)(t:TA):TE:=λd H Q=>t d H λc a=>b (c++dvs) a Q E
def X8(C:Addr)(d:Sp)(dvs:bA)(E:XK)(t:TA):TE:=λf H Q=>t f H λe b=>∀x a,b x=Z->b a=Z->a≠x->
 d (.ref x::(e++dvs)) (el (el b a (.g? x)) x (.nj C a [])) (λv c=>v=.cx/\Q (.ref x) c) E
def ki(K:ay)(d:cD)(c:aC)(b:List aa):Prop:=
 ∀(s:aq) (a:List aa),K.In s.heap->(a++b).length=c.length->iM s d #v[a,[]] (c.zip (a++b))
def ki.all{K:ay}{c:cD}{b:aC}(h:∀a:List aa,a.length=b.length->bindArgs c #v[a,[]]=pure (b.zip a)):ki K c b []:=λs a z d=>by rw[bD]at d ⊢;show .of_eq (h a d)
def r?(CX:CXT)(X:Cx)(E:XK):Prop:=∀(a:dF) (c:St) (H:Hp) (s:aq) (e:aa) (b:aq),b? X a c H s->CX X.stack H s E e b->X.xe e b
section
variable{X:Cx}{CX:CXT}{k:Nat}{f C:Addr}{fd:cD}{ps:aC}{sp:Sp}{dvs:bA}{ds:List aa}{E:XK}{x m:Str}{p pos apos:Pos}{e o:Expr}{es:List Expr}{ta:TE}{t:TA}
theorem E1(F:zh X.prog X.w X.K X.mg X.a8 CX k f fd ps sp)(q:xi k X.A)(j:ki X.K fd ps ds)(hd:d? dvs ds)(y:r? CX X E)
  (I:b? X a d H s) (r:d? vs us) (h:sp (vs++dvs) H Q E):ar (model X.prog X.w) X.A (call (.ref f) us) (EP X a d Q) X.xe s:=by
 have c:d? (vs++dvs) (us++ds):=r.append hd;have l:(us++ds).length=ps.length:=by rw[<-c.length];show F.len _ _ _ _ h
 calc og (iC (F.run X.A X.stack s H #v[us,[]] (us++ds) (vs++dvs) Q E q I.env0 (j s us I.rl l) c h) λr z b=>?_);cases r with
 |error e=>show y a d H s e z I b
 |ok i=>
  cases i with
  |ret u=>show I.after b
  |next=>show di b
  |brk=>show di b
  |cont=>show di b
def Gj(F:zh X.prog X.w X.K X.mg X.a8 CX k f fd ps sp)(B:xi k X.A)(u:Gl X x)(z:X.mg x=U (.ref f))(y:dS X.K (.ref f)=γ)(j:ki X.K fd ps ds)(hd:d? dvs ds)(G:r? CX X E)
  (i:PA X (e::es) t) (b:(x==("__debug__" : Str))=δ:=by decide) (l:aE (e::es) X.a9=(δ,eval e X.a9)::aE es X.a9:=by rfl) (hpl:(bJ pos (aE es X.a9)).any (·.1)=δ:=by rfl):
  PE X (.Call (.Name x p) (e::es) [] pos) (zI sp dvs E t):=by
 intro a s M H Q I h;calc eZ (Gi I u z ?_ b);calc jB (h₀:=X.a8) I.ok.B?.kin y (ff (i pos a s M H _ I h) λP O #v[R,N,c,r,q]=>#v[c.rl,?_]) l hpl;show E1 F B j hd G c r q
def Rf(F:zh X.prog X.w X.K X.mg X.a8 CX k f fd ps sp)(l:xi k X.A)(d:Gl X x)(j:X.mg x=U (.ref f))(i:dS X.K (.ref f)=γ)(c:ki X.K fd ps ds)(hd:d? dvs ds)(q:r? CX X E)
  (a:(x==("__debug__" : Str))=δ:=by decide):PE X (.Call (.Name x p) [] [] pos) (zI sp dvs E GQ):=by
 intro b s u H Q I h;calc eZ (Gi I d j ?_ a);show rL I.rl i (E1 (us:=[]) F l c hd q I .nil h)
structure Mk(K:ay)(C f:Addr):Prop where
 makes:W.makesIn K C=γ
 init:dB K (.ref C) "__init__" = U (U (.ref f))
 fn:lj K (.ref f)=γ
 kp:dS K (.ref C)=γ
theorem Rg(M:Mk X.K C f)(F:zh X.prog X.w X.K X.mg X.a8 CX k f fd ps sp)(S:xi (k+1) X.A)(P:ki X.K fd ps ds)(hd:d? dvs ds)
  (T:r? CX X E) (I:b? X b y H s) (r:d? q c)
  (h:∀x i,H x=Z->H i=Z->i≠x->sp (.ref x::(q++dvs)) (el (el H i (.g? x)) x (.nj C i [])) (λv B=>v=.cx/\Q (.ref x) B) E):
  ar (model X.prog X.w) X.A (call (.ref C) c) (EP X b y Q) X.xe s:=by
 have j:=h (~~~s+1) (~~~s) (I.fb.fresh (iF _)) (I.fb.fresh (aF _)) (aW (cQ _));have d:=b?.made (C:=C) I;have l:d? (V.ref (~~~s+1)::(q++dvs)) (Value.ref (~~~s+1)::(c++ds)):=.cons J (r.append hd);have R:(Value.ref (~~~s+1)::c++ds).length=ps.length:=by have e:=l.length;rw[F.len _ _ _ _ j]at e;show e.symm
 refine og (Rb (f:=f) I.rl M.makes M.init (beq_iff_eq.mp M.fn) (iC (F.run _ X.stack _ _ #v[Value.ref (~~~s+1)::c,[]] (Value.ref (~~~s+1)::(c++ds)) _ _ E (S.make C c [])
  (d.env0.make C c []) (P _ (Value.ref (~~~s+1)::c) d.rl R) l j) λr s' a=>?_))
 cases r with
 |error e=>show T b y _ _ e s' d a
 |ok O=>
  cases O with
  |ret u=>let#v[v,z,G,Y,N,W]:=d.after a;subst N;show#v[Y,#v[V.ref (~~~s+1),z,G,J,W]]
  |next=>show di a
  |brk=>show di a
  |cont=>show di a
def Vj(M:Mk X.K C f)(F:zh X.prog X.w X.K X.mg X.a8 CX k f fd ps sp)(z:xi (k+1) X.A)(u:Gl X x)(y:X.mg x=U (.ref C))(j:ki X.K fd ps ds)(hd:d? dvs ds)(B:r? CX X E)
  (i:PA X (e::es) t) (b:(x==("__debug__" : Str))=δ:=by decide) (l:aE (e::es) X.a9=(δ,eval e X.a9)::aE es X.a9:=by rfl) (hpl:(bJ pos (aE es X.a9)).any (·.1)=δ:=by rfl):
  PE X (.Call (.Name x p) (e::es) [] pos) (X8 C sp dvs E t):=by
 intro a s G H Q I h;calc eZ (Gi I u y ?_ b);calc jB (h₀:=X.a8) I.ok.B?.kin M.kp (ff (i pos a s G H _ I h) λP O #v[R,N,c,r,q]=>#v[c.rl,?_]) l hpl;show Rg M F z j hd B c r q
end
structure xm(N P:aC)(sc:c7):Prop where
 kind:sc.kind=.function
 co:sc.isCoroutine=δ
 ma:sc.isGenerator=δ
 nd:N.Nodup
 pre:N.take P.length=P
 par:∀x∈P,sc.names.lookup x=U .local\/sc.names.lookup x=U .cell
 nofree:∀y∈sc.names,y.2≠.free
theorem IT{kindOf:Str->Option eO}{x:Str}:∀{tX:List (Str×aa)} {m:Str->Option aa},(∀v,(x,v)∉tX)->bindL kindOf tX m x=m x
 |[],_,_=>rfl
 |(n,v)::r,m,h=>by
  delta bindL;rw[IT λw a=>h w (ba _ a)];split
  .have:x≠n:=by rintro rfl;show h v aP
   simp[this]
  .rfl
theorem IU{kindOf:Str->Option eO}{x:Str}:∀{tX:List (Str×aa)} {m:Str->Option aa},(∀v,(x,v)∉tX)->bindC kindOf tX m x=m x
 |[],_,_=>rfl
 |(n,v)::r,m,h=>by
  delta bindC;rw[IU λw a=>h w (ba _ a)];split
  .rfl
  .have:x≠n:=by rintro rfl;show h v aP
   simp[this]
theorem IV{kindOf:Str->Option eO}{x:Str}{v:aa}:∀{P:aC} {a:List aa} {i:Nat} {m:Str->Option aa},P.Nodup->P[i]?=U x->a[i]?=U v->kindOf x=U .local->
  bindL kindOf (P.zip a) m x=U v
 |[],_,_,_,_,h,_,_=>by simp at h
 |_::_,[],_,_,_,_,h,_=>by simp at h
 |p::P,w::a,0,m,e,b,c,d=>by simp at b c;subst b;subst c;change bindL kindOf ((p,w)::P.zip a) m p=_;delta bindL;rw[IT λv f=>(cu.1 e).1 (kL f).1,af d];simp
 |p::P,w::a,i+1,m,e,b,c,d=>by change bindL kindOf ((p,w)::P.zip a) m x=_;delta bindL;show IV (i:=i) (cu.1 e).2 (by exists b) (by exists c) d
theorem IW{kindOf:Str->Option eO}{x:Str}{v:aa}:∀{P:aC} {a:List aa} {i:Nat} {m:Str->Option aa},P.Nodup->P[i]?=U x->a[i]?=U v->kindOf x≠U .local->
  bindC kindOf (P.zip a) m x=U v
 |[],_,_,_,_,h,_,_=>by simp at h
 |_::_,[],_,_,_,_,h,_=>by simp at h
 |p::P,w::a,0,m,e,b,c,d=>by simp at b c;subst b;subst c;change bindC kindOf ((p,w)::P.zip a) m p=_;delta bindC;rw[IU λv f=>(cu.1 e).1 (kL f).1,ah d];simp
 |p::P,w::a,i+1,m,e,b,c,d=>by change bindC kindOf ((p,w)::P.zip a) m x=_;delta bindC;show IW (i:=i) (cu.1 e).2 (by exists b) (by exists c) d
def start(N:aC)(a:bA):St:=a.map U++gK (N.length - a.length) Z
def K5(CX:CXT)(P:bb)(w:aQ)(K:ay)(mg:Str->Option aa)(a8:Heap)(N:aC)(qual:Str)(scope:c7)(f:Addr)(b:aa)(A:bo)(b9:List Env)(s:aq)(H:Hp)(E:XK):Cx where
 prog:=P
 w:=w
 K:=K
 mg:=mg
 a8:=a8
 A:=A.deeper (envOfC qual scope (~~~s) f b)
 N:=N
 s₀:=s
 H₀:=H
 a9:=envOfC qual scope (~~~s) f b
 b9:=b9
 stack:=envOfC qual scope (~~~s) f b::b9
 ex:=[]
 k?:=γ
 fn:=λz=>γ
 pn:=[]
 xe:=λe s'=>ar (model P w) (A.deeper (envOfC qual scope (~~~s) f b)) (leaving (envOfC qual scope (~~~s) f b) e) (λz a=>CX b9 H s E e a) (λc a=>CX b9 H s E c a) s'
def K6{a:c7}(h:a.names.lookup x=U .cell):∃c,(cellsFrom n a.names []).lookup x=U c:=by have q:=qE a.names n [] (.inl h);show Option.isSome_iff_exists.1 q
def PQ{CX:CXT}{P:bb}{w:aQ}{K:ay}{G:Str->Option aa}{a8:Heap}{N m:aC}{qual:Str}{scope:c7}{f:Addr}{B:aa}{A:bo}{b9:List Env}{s Q:aq}{H:Hp}{E:XK}{I:List aa}{o:bA}
  (S:xm N m scope) (hd:A.handled=Z) (j:MY P w K G a8 A b9 s H) (X:o.length=m.length) (r:d? o I)
  (x:InCallC s (~~~s) (bindL (envOfC qual scope (~~~s) f B).kindOf (m.zip I) λg=>Z) (cellsFrom (~~~s+1) scope.names []) (bindC (envOfC qual scope (~~~s) f B).kindOf (m.zip I) λg=>Z) Q):
  b? (K5 CX P w K G a8 N qual scope f B A b9 s H E) [] (start N o) H Q:=by
 have hpl:m.length<=N.length:=by have:=aX cN S.pre;rw[cf]at this;omega
 let#v[C,tk,rfl,M]:=x.done;have noA:∀b:Addr,b∉(K5 CX P w K G a8 N qual scope f B A b9 s H E).ex:=λb z=>au (show b∈([]:List Addr) from z) (by simp);refine#v[#v[j.B?,S.kind,J,J,aF _,λy z c C d=>?_,λy l=>?_,λy c g h=>?_,λg=>hd,Around.frames_deeper j.frames,.inr #v[J,J],λb z=>au z (noA b),j.bs,j.bsz,λb g g=>noA b,λb z=>au z (noA b),j.u?,j.frf],
  rfl,j.i?,Un.f? M,#v[_,x.toInCall.ns,λi y v C d W=>?_],λy c h=>#v[_,x.cell y c h],j.fb.fresh (aF _),λy c h=>?_,λp t=>au (show p∈([]:dF) from t) (by simp),j.fb.f? M,?_]
 .show name_of_addr x.apart (jf C) (jf d)
 .have l:scope.names.lookup y=U .cell\/scope.names.lookup y=U .free:=l;rcases l with l|l
  .show K6 l
  .show au J (S.nofree _ (jf l))
 .show fC (x.above y c (jf h))
 .have F:i<o.length:=by
   delta start at d;by_cases F:i<o.length
   .show F
   .rw[eA (by exists F)]at d;rw[jc]at d;split at d<;>ext d
  have R:o[i]?=U v:=by
   delta start at d;rw[dG (by exists F),br]at d;cases e:o[i]? with
   |none=>rw[e]at d;cases d
   |some a=>rw[e]at d;ext d;rfl
  let#v[u,O,T]:=r.get R;have t:m[i]?=U y:=by rw[<-S.pre,List.getElem?_take_of_lt ()];show C
  have ndP:m.Nodup:=by rw[<-S.pre];show S.nd.sublist (jn _ _)
  calc#v[u,T,?_];rcases S.par y (cb t)with k|k
  .show .inl #v[k,IV ndP t O k]
  .let#v[c,e]:=K6 (n:= ~~~s+1) k;calc .inr #v[.inl k,c,e,?_];have q:=x.cell y c e;rw[IW ndP t O (by change scope.names.lookup y≠_;rw[k];decide)]at q;show q
 .show j.fb.fresh (fC (x.above y c (jf h)))
 .delta start;change _=N.length;rw[aG,ak,cW];omega
def X9{CX:CXT}{P:bb}{w:aQ}{K:ay}{j:Str->Option aa}{a8:Heap}{k:Nat}{f:Addr}{name qual:Str}{params:Arguments}{body:List Stmt}{scope:c7}{dV kV doc G cdv F oc:aa}{C od:Option Addr}
  {osl:Array (Option aa)} {N l:aC} {B:Sp} (lk:K.lookup f=U #v[oc,od,.func (fJ name qual params body scope dV kV doc G C cdv F),osl]) (hcd:iH K cdv qual=γ) (S:xm N l scope)
  (len:∀a H Q E,B a H Q E->a.length=l.length)
  (hbody:∀(A:bo) (b9:List Env) (s:aq) (H:Hp) (a:bA) (Q:VK) (E:XK),xi k (A.deeper (envOfC qual scope (~~~s) f cdv))->B a H Q E->
   ∃t,l' (K5 CX P w K j a8 N qual scope f cdv A b9 s H E) body t/\t { nx:=λg d=>Q .cx d,rt:=Q } (start N a) H):
  zh P w K j a8 CX (k+1) f (fJ name qual params body scope dV kV doc G C cdv F) l B:=by
 calc#v[len,λA b9 s H args us a Q E m i R r hsp=>?_];have X:=len _ _ _ _ hsp;have KX:K.In s.heap:=i.B?.kin.keeps λb o e=>(i.bs b o e).1;have lim:s.heap.NoLimit:=i.B?.nolimit.keeps λb o e=>(i.bs b o e).1;have hkind:∀y∈l.zip us,scope.names.lookup y.1=U .local\/(scope.names.lookup y.1=U .cell/\((cellsFrom (~~~s+1) scope.names []).lookup y.1).isSome=γ):=λ#v[n,v] hy=>by
  rcases S.par n (kL hy).1 with q|q
  .show .inl q
  .show .inr #v[q,qE _ _ _ (.inl q)]
 calc codeAny_call_function m.depth (KX _ _ lk) J S.co S.ma J (W.codeRec_of KX hcd) (R _ _ _ _ ?_);calc wpAny_newFunctionEnv_cells S.kind hkind λa9 T M x=>?_;subst T;calc#v[lim.keeps x.toInCall.keep,codeAny_func ?_];let#v[t,ht,Y]:=hbody A b9 s H a Q E (m.deeper _) hsp;have I:b? (K5 CX P w K j a8 N qual scope f cdv A b9 s H E) [] (start N a) H M:=PQ S m.hd i X r x;calc cB (ht [] M (start N a) H _ I Y) (λO z h=>?_) λe z h=>h;have fin:∀{c:St} {d:Hp} {v:V} {u:aa},b? (K5 CX P w K j a8 N qual scope f cdv A b9 s H E) [] c d z->ea v u->Q v d->CE b9 P w H s Q u z:=
  λ{c d v u} A_ p q=>#v[v,d,A_.os,A_.i?,A_.a8,A_.fb,p,q]
 cases O with
 |ret u=>let#v[v,c,d,A_,p,q]:=h;show fin A_ p q
 |next=>let#v[c,d,A_,q]:=h;show fin (v:=V.cx) (u:=Value.none) A_ J q
 |brk=>let#v[_,_,_,q]:=h;show di q
 |cont=>let#v[_,_,_,q]:=h;show di q
section
variable{X:Cx}{x:Str}{p pos:Pos}{e:Expr}{es:List Expr}{t:TA}{id T:String}{r:bA->Hp->VK->Prop}
def tCB(r:bA->Hp->VK->Prop)(t:TA):TE:=λc H Q=>t c H λb a=>r b a Q
#print "GR builtin id builtin1;PR type T type1" in def ϑ0(j:xA X (.ϑ1 ϑ2) r)(m:Gl X x)(o:X.mg x=Z)(u:eI x=U (.ϑ1 ϑ2))(i:PA X (e::es) t)(q:x≠"__name__" := by decide)(b:(x==("__debug__" : Str))=δ:=by decide)
  (l:aE (e::es) X.a9=(δ,eval e X.a9)::aE es X.a9:=by rfl) (hpl:(bJ pos (aE es X.a9)).any (·.1)=δ:=by rfl):PE X (.Call (.Name x p) (e::es) [] pos) (tCB r t):=by
 intro a s c H Q I h;calc eZ (BC I m o u ?_ q b);show callWith_ϑ3 (ff (i pos a s c H _ I h) λA z #v[B,d,f,y,w]=>j a z c d B A Q f y w) l hpl
end
end L2
namespace HT
open PySem PyProof.Rows
section
variable{prog:bb}{w:aQ}{A:bo}{E:aa->aq->Prop}{s:aq}
def Vk{vs a:List aa}(ht:dW s.heap t vs.toArray)(q:dW s.heap b a.toArray)(hv:vs≠[])
  (h1:a=[]->Q (.ref t) s) (h2:a≠[]->Q (.ref (~~~s)) { s with heap:=s.heap.push { cls:=.type "tuple", data:=.seq (vs++a).toArray } })
  (m:vs.length+a.length<=aS):ar (model prog w) A (c5 .Add (.ref t) (.ref b)) Q E s:=by
 let#v[#v[cls,dd,data,sl],j,o,n,hd]:=id ht;let#v[#v[cls2,d,data2,i],c,f,p,h]:=id q;simp only at o hd f h;subst o hd f h;have e:vs.toArray++a.toArray=(vs++a).toArray:=by simp
 by_cases l:a=[]
 .show nL #v[_,j,J] #v[_,c,J] mM nu mN mD (mh _ _)
   (tuple_addW1 t b vs.toArray a.toArray n p dd d sl i (by exists hv) (by simp[l])) #v[j,c,h1 l]
 .refine nL #v[_,j,J] #v[_,c,J] mM nu mN mD (mh _ _)
   (tuple_addW2 t b vs.toArray a.toArray n p dd d sl i (by exists hv) (by exists l) (by rw[bG,bG];show m)) #v[j,c,?_]
  rw[e];show h2 l
def z3(n d:Nat):Option Int->Nat
 |none=>d
 |some v=>if v<0 then (v+(n:Int)).toNat else min v.toNat n
def K7(n d:Nat):z3 n d Z=d:=rfl
def Gk(n d k:Nat):z3 n d (U (k:Int))=min k n:=by change (if (k:Int)<0 then ((k:Int)+(n:Int)).toNat else min (k:Int).toNat n)=min k n;rw[ah (),ik]
end
end HT
namespace L2
open PySem PySem.Spec PyProof.Rows
abbrev TO:=St->Hp->(Option Int->Hp->Prop)->Prop
def PO(X:Cx)(e:Option Expr)(t:TO):Prop:=
 ∀(a:dF) (s:aq) (b:St) (H:Hp) (Q:Option Int->Hp->Prop),b? X a b H s->t b H Q->
  ar (model X.prog X.w) X.A (evalPart e X.a9) (λu d=>∃o c,b? X a b c d/\IsPart u o/\Q o c) X.xe s
def Vl:TO:=λz H Q=>Q Z H
def adl(t:TE):TO:=λb H Q=>t b H λx a=>∃i,x=.int i/\Q (U i) a
section
variable{X:Cx}{e:Expr}{te:TE}{lo hi:Option Expr}{tl th:TO}{pos p2:Pos}
def Vm:PO X Z Vl:=by intro a s b H Q I h;rw[rM];show aw #v[Z,H,I,.none,h]
def Om(h:PE X e te):PO X (U e) (adl te):=by intro a s l H Q I d;rw[evalPart_some];calc ff (h a s l H _ I d) λu m zz=>?_;let#v[x,b,c,j,f]:=zz;let#v[i,rfl,q]:=f;let#v[t,rfl]:=j;show#v[U i,b,c,.int i t,q]
def SlR(X:Cx)(r:V->Option Int->Option Int->Hp->VK->Prop):Prop:=
 ∀(a:dF) (s:aq) (f:St) (H:Hp) (x:V) (v c d:aa) (lo hi:Option Int) (b:Addr) (Q:VK),b? X a f H s->ea x v->s.heap.IsSliceOf b c d .none->IsPart c lo->IsPart d hi->r x lo hi H Q->
  ∃T id,typeLookup (.type T) "__getitem__" = pure (U (.builtin id))/\s.TypeIs v T/\ar (model X.prog X.w) X.A (getItem v (.ref b)) (EP X a f Q) X.xe s
def tSl(r:V->Option Int->Option Int->Hp->VK->Prop)(te:TE)(tl th:TO):TE:=λa H Q=>te a H λx b=>tl a b λl c=>th a c λu d=>r x l u d Q
def K8(hr:SlR X r)(p:PE X e te)(y:PO X lo tl)(z:PO X hi th):PE X (.Subscript e (.Slice lo hi Z p2) pos) (tSl r te tl th):=by intro pins s σ H Q I h;calc oh (ff (p pins s σ H _ I h) λv E zz=>?_);let#v[x,H1,i,r1,q1]:=zz;calc wpAny_Slice (ff (y pins E σ H1 _ i q1) λc s2 #v[l,H2,j,pl,q2]=>ff (z pins s2 σ H2 _ j q2) λd a zz=>?_);let#v[u,f,m,B,C]:=zz;rw[rM];calc aw ?_;have o:b? X pins σ f { a with heap:=a.heap.push { cls:=.type "slice", data:=.fields #[c,d,.none] } }:=m.f? (t':=a.toks) λb ob q=>aJ _ q;let#v[T,id,hT,ht,t]:=hr pins { a with heap:=a.heap.push { cls:=.type "slice", data:=.fields #[c,d,.none] } } σ f x v c d l u (~~~a) Q o r1 (u5 ..) pl B C;change ar (model X.prog X.w) X.A (subscriptTail e (.Slice lo hi Z p2) v (.ref (~~~a))) (EP X pins σ Q) X.xe { a with heap:=a.heap.push { cls:=.type "slice", data:=.fields #[c,d,.none] } };show tail_any (ops:=[.ref (~~~a),v]) ht hT t (by with_unfolding_all rfl)
def PU(a:bA)(lo hi:Option Int):bA:=(a.drop (HT.z3 a.length 0 lo)).take (HT.z3 a.length a.length hi - HT.z3 a.length 0 lo)
def K9(a:bA)(lo hi:Option Int):(PU a lo hi).length<=a.length:=by delta PU;rw[cf,dg];omega
inductive Rh(K:ay) (x:V) (y:V) (H:Hp) (Q:VK):Prop
 |i (a b xs ys) (h0:x=.ref a) (h1:y=.ref b) (h2:fl K H a xs) (h3:fl K H b ys) (h4:xs≠[]) (h5:xs.length+ys.length<=aS) (h6:(ys=[]->Q (.ref a) H)) (h7:(ys≠[]->∀p,H p=Z->Q (.ref p) (el H p (.bx (xs++ys))))):Rh K x y H Q
def adm(K:ay):R2:=λx y H Q=>Rh K x y H Q
def d?.y0(r:d? b a):a=[] ↔ b=[]:=by
 cases r with
 |nil=>simp
 |cons _ _=>simp
def On:js X (c5 .Add) (adm X.K):=by intro j s O H x y v u Q I C E h;let#v[a,b,F,G,rfl,rfl,l,m,p,f,A,B]:=h;ext C;ext E;let#v[r,d,t,_]:=I.tuple l;let#v[i,c,p2,_]:=I.tuple m;calc HT.Vk t p2 (λz=>p (d.y0.1 z)) (λz=>#v[.ref a,H,I,J,A (c.y0.1 z)]) (λz=>?_) (by rw[<-d.length,<- c.length];show f);calc#v[.ref (~~~s),_,I.laid (t':=s.toks) (o:=.bx (F++G)) (λb M q=>aJ _ q) (aF _) ?_,J,B (λw=>z (c.y0.2 w)) _ (I.fb.fresh (aF _))];show#v[by rw[aG];show f,_,d.append c,sM _ _,λo e=>by rw[bq _ J]at e;ext e;rfl]
end
def ixN(n:Nat)(i:Int):Option Nat:=if 0<=i then (if i<n then U i.toNat else Z)else if -(n:Int)<=i then U (i+n).toNat else Z
def z0{b:Type}(a:List b)(i:Int):Option b:=(ixN a.length i).bind λj=>a[j]?
def Vn(h:ixN n i=U j):seqIndex? i n=U j/\j<n/\-(n:Int)<=i/\i<n:=by
 delta ixN at h;by_cases b:0<=i
 .rw[af b]at h;by_cases a:i<n
  .rw[af a]at h;have e:i.toNat=j:=cM h;show#v[by rw[nX b a,e],by omega,by omega,a]
  .rw[ah a]at h;ext h
 .rw[ah b]at h;by_cases a:-(n:Int)<=i
  .rw[af a]at h;have e:(i+n).toNat=j:=cM h;show#v[by rw[seqIndex_neg () a,e],by omega,a,by omega]
  .rw[ah a]at h;ext h
def JN{b:Type}{a:List b}{i:Int}{v:b}(h:z0 a i=U v):∃j,seqIndex? i a.length=U j/\a[j]?=U v/\j<a.length/\-(a.length:Int)<=i/\i<a.length:=by
 delta z0 at h;cases e:ixN a.length i with
 |none=>rw[e]at h;cases h
 |some j=>rw[e]at h;let#v[c,d,f,l]:=Vn e;show#v[j,c,h,d,f,l]
def Oq{b:Type}{a:List b}{j:Nat}{v:b}(h:a[j]?=U v):z0 a (j:Int)=U v:=by
 have c:j<a.length:=(bT.1 h).1;have e:ixN a.length (j:Int)=U j:=by delta ixN;rw[af (),af ()];simp
 delta z0;rw[e];show h
def JO(b:Expr):Prop:=∀o i,subscripted b δ o i=operate [o,i] (getItem o i)
def ι(X:Cx)(r:R2):Prop:=
 ∀(value slice:Expr) (a:dF) (s:aq) (b:St) (H:Hp) (x y:V) (v u:aa) (Q:VK),b? X a b H s->ea x v->ea y u->r x y H Q->
  subscripted slice δ v u=operate [v,u] (getItem v u)->ar (model X.prog X.w) X.A (subscriptTail value slice v u) (EP X a b Q) X.xe s
def MtR(X:Cx)(id:String)(r:V->bA->Hp->VK->Prop):Prop:=
 ∀(a:dF) (s:aq) (d:St) (H:Hp) (x:V) (c:bA) (v:aa) (b:List aa) (Q:VK),b? X a d H s->ea x v->d? c b->r x c H Q->
  ar (model X.prog X.w) X.A (call (.builtin id) (v::b)) (EP X a d Q) X.xe s
section
variable{X:Cx}{a b:Expr}{ta tb:TE}{pos:Pos}
def ι.or(h:ι X r)(j:ι X l):ι X (λx y H Q=>r x y H Q\/l x y H Q):=by
 intro value slice c s i H x y v u Q I e f q d;rcases q with q|q
 .show h value slice c s i H x y v u Q I e f q d
 .show j value slice c s i H x y v u Q I e f q d
def Os(j:ι X r)(f:PE X a ta)(i:PE X b tb)(l:JO b):PE X (.Subscript a b pos) (tOp r ta tb):=by intro c s t H Q I h;show oh (Ze f i I h λv u p x y d e m o q=>j a b c p t d x y v u Q e m o q (l _ _))
inductive Ya(K:ay) (x:V) (y:V) (H:Hp) (Q:VK):Prop
 |i (p xs i v) (h0:x=.ref p) (h1:y=.int i) (h2:gi K H p xs) (h3:z0 xs i=U v) (h4:Q v H):Ya K x y H Q
def PV(K:ay):R2:=λx y H Q=>Ya K x y H Q
inductive Yc(K:ay) (x:V) (y:V) (H:Hp) (Q:VK):Prop
 |i (p xs i v) (h0:x=.ref p) (h1:y=.int i) (h2:fl K H p xs) (h3:z0 xs i=U v) (h4:Q v H):Yc K x y H Q
def Rj(K:ay):R2:=λx y H Q=>Yc K x y H Q
inductive Yd(x:V) (y:V) (H:Hp) (Q:VK):Prop
 |i (z i c) (h0:x=.str z) (h1:y=.int i) (h2:z.length<=aS) (h3:z0 z.cps.toList i=U c) (h4:Q (.str #v[#[c]]) H):Yd x y H Q
def rIxS:R2:=λx y H Q=>Yd x y H Q
def JP:ι X (PV X.K):=by
 intro value slice c s B H x y v u Q I O P h A;let#v[p,Y,i,z,rfl,rfl,N,G,q]:=h;ext O;let#v[t,rfl]:=P;let#v[f,r,pl,W]:=I.list N;let#v[j,d,C,S,E,F]:=JN G;let#v[w,m,l]:=r.get C;have M:=r.length;have T:=GO;have fin:EP X c B Q w s:=#v[z,H,I,l,q];by_cases o:0<=i
 .have e:i.toNat=j:=by rw[nX o F]at d;show cM d
  show item_listR pl.isList o () (by rw[e];exists m) fin A
 .have e:(i+(f.toArray.size:Int)).toNat=j:=by rw[seqIndex_neg () E]at d;rw[bG,<- M];show cM d
  show pF (x:=w) pl.isList.typeIs qq.lookup
   (wpAny_getItem_list_neg (Q:=λr R=>r=w/\EP X c B Q r R) pl.isList () (by rw[bG]<;>omega) () (by rw[e];exists m) #v[J,fin]) A
def Rk:ι X (Rj X.K):=by
 intro value slice c s e H x y v u Q I F G h C;let#v[p,T,i,z,rfl,rfl,B,o,q]:=h;ext F;let#v[t,rfl]:=G;let#v[E,r,pl,S]:=I.tuple B;let#v[j,l,m,N,O,P]:=JN o;let#v[w,f,d]:=r.get m;have A:=r.length;have R:=GO;have fin:EP X c e Q w s:=#v[z,H,I,d,q];show pF (x:=w) pl.typeIs slot_tuple_getitem.lookup
  (getItem_tuple (j:=j) (Q:=λr M=>r=w/\EP X c e Q r M) pl () () (by rw[bG,<- A];show l) (by exists f) #v[J,fin]) C
def Zo:ι X rIxS:=by
 intro value slice e s N H x y v u Q I B C h A;let#v[z,i,c,rfl,rfl,G,r,q]:=h;let#v[t,rfl]:=B;let#v[M,rfl]:=C;let#v[j,d,m,E,o,p]:=JN r;have w:z.cps.toList.length=z.length:=by simp[sJ]
 rw[w]at d o p;have F:=GO;show tail_any (typeIs_str s z t) slot_str_getitem.lookup (getItem_str (c:=c) (by
  have f:decide (i < -(2 ^ 63:Int))=δ:=aL ();have l:decide (i >= 2 ^ 63)=δ:=aL ();rw[f,l,rN]) (by rw[d];exists m) #v[.str #v[#[c]],H,I.zk _,#v[_,J],q]) A
def rIx(K:ay):R2:=λx y H Q=>PV K x y H Q\/Rj K x y H Q\/rIxS x y H Q
def Zp:ι X (rIx X.K):=JP.or (Rk.or Zo)
def Ye(i:Int)(n d:Nat):max 0 (min (if i<0 then i+(n:Int)else i) n)=((HT.z3 n d (U i):Nat):Int):=by
 have e:∀j:Int,max 0 (min j n)=((min j.toNat n:Nat):Int):=λj=>by
  cases j with
  |ofNat a=>
   change max 0 (min (a:Int) n)=((min a n:Nat):Int);rcases Nat.le_total a n with h|h
   .rw[gG h,qO (rZ.2 h)];show qF (mj a)
   .rw[Nat.min_eq_right h,Int.min_eq_right (rZ.2 h)];show qF (mj n)
  |negSucc a=>rw[qO (Int.le_trans (r6 (p8 a)) (mj n)),Int.max_eq_left (r6 (p8 a))];change (0:Int)=((min 0 n:Nat):Int);rw[Nat.zero_min];rfl
 rw[e];erw[HT.z3];by_cases h:i<0
 .erw[h,if_true];rw[gG (Int.toNat_le.2 ())]
 .erw[h,if_false]
def JQ(lo c:Option Int)(n:Nat):(sliceBounds lo c Z n).1=((HT.z3 n 0 lo:Nat):Int)/\(sliceBounds lo c Z n).2.1=((HT.z3 n n c:Nat):Int)/\(sliceBounds lo c Z n).2.2=1:=by
 refine#v[?_,?_,J]
 .cases lo with
  |none=>simp[sliceBounds,HT.z3]
  |some i=>show Ye i n _
 .cases c with
  |none=>simp[sliceBounds,HT.z3]
  |some i=>show Ye i n _
def Iw(c:List aa)(lo d:Option Int):slicePick c.toArray lo d Z=((c.drop (HT.z3 c.length 0 lo)).take (HT.z3 c.length c.length d - HT.z3 c.length 0 lo)).toArray:=by let#v[e,f,h]:=JQ lo d c.toArray.size;delta slicePick;rw[e,f,h];erw[sliceRange_one,pick_run,bG]<;>rfl
def PX(K:ay):V->Option Int->Option Int->Hp->VK->Prop:=λx lo d H Q=>∃a c,x=.ref a/\gi K H a c/\∀p,H p=Z->Q (.ref p) (el H p (.ax (PU c lo d)))
def Vo:SlR X (PX X.K):=by intro i s C H x v A B lo e y Q I u j pl t h;let#v[a,c,rfl,l,q]:=h;ext u;let#v[p,r,f,m]:=I.list l;have d:=r.length;calc#v["list", _,qq.lookup,f.isList.typeIs,?_];calc wpAny_getItem_list_slice f.isList j pl t .none (by simp) ?_ (by rw[bG]<;>omega);rw[Iw,<- d];calc#v[.ref (~~~s),_,I.laid (t':=s.toks) (o:=.ax (PU c lo e)) (λb w q=>aJ _ q) (aF _) ?_,J,q _ (I.fb.fresh (aF _))];show#v[cg (K9 c lo e) m,_,0,(r.drop (HT.z3 c.length 0 lo)).take (HT.z3 c.length c.length e - HT.z3 c.length 0 lo),bq _ J]
def DC:V->Bool
 |.cx=>γ
 |.bl _=>γ
 |.int _=>γ
 |.str _=>γ
 |_=>δ
def eqV:V->V->Bool
 |.cx,.cx=>γ
 |.bl a,.bl b=>a==b
 |.bl a,.int b=>(if a then 1 else 0)==b
 |.int a,.bl b=>a==(if b then 1 else 0)
 |.int a,.int b=>a==b
 |.str a,.str b=>a==b
 |_,_=>δ
def GT(f:ea y u)(c:ea x v)(h:DC y=γ)(e:DC x=γ):jI A s u v (eqV y x):=by
 cases y with
 |cx=>
  ext f;cases x with
  |cx=>ext c;show jv _
  |bl b=>ext c;show uH b
  |int b=>let#v[t,rfl]:=c;show p9 b t
  |str b=>let#v[t,rfl]:=c;show qa b t
  |_=>show au (show δ=γ from e) bB
 |bl a=>
  ext f;cases x with
  |cx=>ext c;show uI a
  |bl b=>ext c;show uJ a b
  |int b=>let#v[t,rfl]:=c;show uS a b t
  |str b=>let#v[t,rfl]:=c;show uT a b t
  |_=>show au (show δ=γ from e) bB
 |int a=>
  let#v[d,rfl]:=f;cases x with
  |cx=>ext c;show qb a d
  |bl b=>ext c;show uU a d b
  |int b=>let#v[t,rfl]:=c;show u6 a d b t
  |str b=>let#v[t,rfl]:=c;show qf a d b t
  |_=>show au (show δ=γ from e) bB
 |str a=>
  let#v[d,rfl]:=f;cases x with
  |cx=>ext c;show qc a d
  |bl b=>ext c;show uV a d b
  |int b=>let#v[t,rfl]:=c;show qg a d b t
  |str b=>let#v[t,rfl]:=c;show kB a d b t
  |_=>show au (show δ=γ from e) bB
 |_=>show au (show δ=γ from h) bB
def Q?(x:V)(u:aa):Bool:=match u with
 |.none=>eqV .cx x
 |.bool b=>eqV (.bl b) x
 |.int i _=>eqV (.int i) x
 |.str z _=>eqV (.str z) x
 |_=>δ
def Rl(r:ea y u)(f:DC y=γ):Q? x u=eqV y x:=by
 cases y with
 |cx=>ext r;rfl
 |bl b=>ext r;rfl
 |int i=>let#v[t,rfl]:=r;rfl
 |str z=>let#v[t,rfl]:=r;rfl
 |_=>show au (show δ=γ from f) bB
theorem Ec:∀{c:bA} {d:List aa},d? c d->c.all DC=γ->d.any (Q? x)=c.any λy=>eqV y x
 |_,_,.nil,_=>rfl
 |y::c,u::d,.cons r t,f=>by rw[iy,bt]at f;rw[gQ,gQ,Rl r f.1,Ec t f.2]
theorem Cq(i:ea x v)(h:DC x=γ):∀{e:bA} {d:List aa},d? e d->e.all DC=γ->∀u∈d,jI A s u v (Q? x u)
 |_,_,.nil,_=>λu c=>by cases c
 |y::e,u::d,.cons r t,f=>λj c=>by
  rw[iy,bt]at f;rcases aD.1 c with rfl|c
  .rw[Rl r f.1];show GT r i f.1 h
  .show Cq i h t f.2 j c
def inV(x:V)(c:bA):Bool:=c.any λy=>eqV y x
inductive IrIn(K:ay) (neg:Bool) (x:V) (y:V) (H:Hp) (Q:VK):Prop
 |i (p xs) (h0:y=.ref p) (h1:(gi K H p xs\/fl K H p xs)) (h2:DC x=γ) (h3:xs.all DC=γ) (h4:Q (.bl (if neg then !inV x xs else inV x xs)) H):IrIn K neg x y H Q
def rIn(K:ay)(neg:Bool):R2:=λx y H Q=>IrIn K neg x y H Q
def PY:js X (bz .In) (rIn X.K δ):=by
 intro i s t H x y v u Q I j m h;let#v[p,o,rfl,d,f,fs,q]:=h;ext m;rcases d with d|d
 .let#v[c,r,pl,l]:=I.list d;calc SeqAt.in_listAt (Q? x) pl.isList (λw e=>Cq j f r fs w (by exists e)) #v[.bl _,H,I,J,?_];rw[show c.toArray.any (Q? x)=c.any (Q? x) by simp,Ec r fs];show q
 .let#v[c,r,pl,l]:=I.tuple d;calc qG (Q? x) pl (λw e=>Cq j f r fs w (by exists e)) #v[.bl _,H,I,J,?_];rw[show c.toArray.any (Q? x)=c.any (Q? x) by simp,Ec r fs];show q
def JR:js X (bz .NotIn) (rIn X.K γ):=by
 intro i s t H x y v u Q I j m h;let#v[p,o,rfl,d,f,fs,q]:=h;ext m;rcases d with d|d
 .let#v[c,r,pl,l]:=I.list d;calc SeqAt.notIn_listAt (Q? x) pl.isList (λw e=>Cq j f r fs w (by exists e)) #v[.bl _,H,I,J,?_];rw[show c.toArray.any (Q? x)=c.any (Q? x) by simp,Ec r fs];show q
 .let#v[c,r,pl,l]:=I.tuple d;calc SeqAt.notIn_tupleAt (Q? x) pl (λw e=>Cq j f r fs w (by exists e)) #v[.bl _,H,I,J,?_];rw[show c.toArray.any (Q? x)=c.any (Q? x) by simp,Ec r fs];show q
def JS:xA X (.builtin "len") (λl H Q=>∃p d,l=[.ref p]/\(gi X.K H p d\/fl X.K H p d)/\Q (.int d.length) H):=by
 intro j s x H l w Q I r h;let#v[p,d,rfl,e,q]:=h;let#v[u,rfl,o]:=mq r;ext o;have t:=GO;rcases e with e|e
 .let#v[f,i,pl,m]:=I.list e;have c:=i.length;show Calls.call_len_list pl.isList (by erw[bG]<;>omega) #v[.int d.length,H,I.zk _,#v[s.toks+1,by rw[bG,c]],q]
 .let#v[f,i,pl,m]:=I.tuple e;have c:=i.length;show len_tuple pl (by erw[bG]<;>omega) #v[.int d.length,H,I.zk _,#v[s.toks+1,by rw[bG,c]],q]
def JT:xA X (.builtin "len") (λd H Q=>∃z,d=[.str z]/\z.length<=aS/\Q (.int z.length) H):=by intro c s j H d i Q I r h;let#v[z,rfl,f,q]:=h;let#v[u,rfl,t,rfl]:=mq r;have e:=GO;show len_str () #v[.int z.length,H,I.zk _,#v[_,J],q]
def JU:xA X (.type "list") (λxs H Q=>∃p f,xs=[.ref p]/\(gi X.K H p f\/fl X.K H p f)/\∀l,H l=Z->Q (.ref l) (el H l (.ax f))):=by
 intro pins s σ H xs us Q I r h;let#v[p,f,rfl,j,q]:=h;let#v[u,rfl,z]:=mq r;ext z;have fin:∀(its:List aa),d? f its->f.length<=aS->∀(h':Heap) (c:Nat),(∀b y,s.heap.get? b=U y->h'.get? b=U y)->
   h'.get? (~~~s)=U { cls:=.type "list", dict:=Z,data:=.seq its.toArray c,slots:=[].toArray }->EP X pins σ Q (.ref (~~~s)) { s with heap:=h' }:=λits d m h' c kp e=>
  #v[.ref (~~~s),_,I.laid (t':=s.toks) kp (aF _) (show eu X.prog X.w _ h' _ (.ax f) from#v[m,its,c,d,e]),J,q _ (I.fb.fresh (aF _))]
 rcases j with j|j
 .let#v[its,d,pl,m]:=I.list j;have i:=d.length;let#v[o,x,t,n,hd]:=pl.isList;show rO p (.inl J) x t hd (λh' c kp e=>fin its d m h' c kp e) (by erw[bG]<;>omega)
 .let#v[its,d,pl,m]:=I.tuple j;have i:=d.length;let#v[o,x,t,n,hd]:=pl;show rO p (.inr J) x t hd (λh' c kp e=>fin its d m h' c kp e) (by erw[bG]<;>omega)
def Iy:xA X (.type "tuple") (λxs H Q=>∃p c,xs=[.ref p]/\((gi X.K H p c/\∀l,H l=Z->Q (.ref l) (el H l (.bx c)))\/(fl X.K H p c/\Q (.ref p) H))):=by
 intro pins s σ H xs us Q I r h;let#v[p,c,rfl,h]:=h;let#v[u,rfl,x]:=mq r;ext x;rcases h with ⟨d,q⟩|⟨d,q⟩
 .let#v[its,f,pl,m]:=I.list d;have j:=f.length;calc call_tuple_list pl.isList (λh' kp=>?_) (by erw[bG]<;>omega);have i:b? X pins σ H { s with heap:=h' }:=I.f? (t':=s.toks) kp;have t:b? X pins σ (el H h'.objs.size (.bx c)) { s with heap:=h'.push { cls:=.type "tuple", data:=.seq its.toArray } }:=
   i.laid (t':=s.toks) (λb o e=>aJ _ e) (aF _) (show eu X.prog X.w _ _ _ (.bx c) from#v[m,its,f,sM _ _,λo e=>by rw[bq _ J]at e;ext e;rfl])
  show#v[.ref h'.objs.size,_,t,J,q _ (i.fb.fresh (aF _))]
 .let#v[its,f,pl,m]:=I.tuple d;show call_tuple_same pl #v[.ref p,H,I,J,q]
def tyV(K:ay)(T:String)(x:V)(H:Hp):Prop:=match x with
 |.str _=>T="str"
 |.int _=>T="int"
 |.ref p=>(T="list" /\ ∃c,gi K H p c)\/(T="tuple" /\ ∃o,K.lookup p=U o/\o.cls=.type "tuple" /\ o.dict=Z)\/
   (T="dict" /\ ((∃kvs,H p=U (.dK kvs))\/∃kvs,H p=U (.dT kvs)))\/(T="set" /\ ∃S n,H p=U (.set S n))
 |_=>False
def Zq(I:b? X l y H s)(r:ea x v)(ty:tyV X.K T x H):
  s.TypeIs v T/\∀a,v=.ref a->∃j,s.heap.get? a=U j/\j.dict=Z:=by
 cases x with
 |str z=>let#v[t,rfl]:=r;cases (show T="str" from ty);show#v[typeIs_str s z t,λk e=>nomatch e]
 |int i=>let#v[t,rfl]:=r;cases (show T="int" from ty);show#v[typeIs_int s i t,λk e=>nomatch e]
 |ref p=>
  ext r;rcases ty with ⟨rfl,w,q⟩|⟨rfl,o,d,m,hd⟩|⟨rfl,d⟩|⟨rfl,S,n,d⟩
  .let#v[u,_,pl,_]:=I.list q;calc#v[pl.isList.typeIs,λa e=>?_];ext e;let#v[o,n,e,c,hd,_]:=pl;show#v[o,e,hd]
  .calc#v[#v[o,I.rl p o d,m],λa e=>?_];ext e;show#v[o,I.rl _ o d,hd]
  .have z:∃o,s.heap.get? p=U o/\o.ExactDict:=by
    rcases d with ⟨kvs,d⟩|⟨kvs,d⟩
    .let#v[_,_,_,_,o,_,_,e,f,_]:=I.fb p _ d;show#v[o,e,f]
    .let#v[_,_,_,_,o,_,_,e,f,_]:=I.fb p _ d;show#v[o,e,f]
   let#v[o,e,f]:=z;calc#v[#v[o,e,f.1],λa h=>?_];ext h;show#v[o,e,f.2.1]
  .let#v[o,_,_,_,e,f,_]:=I.fb p _ d;calc#v[#v[o,e,f.1],λa h=>?_];ext h;show#v[o,e,f.2.1]
 |_=>show di ty
def tBM(K:ay)(T:String)(r:V->bA->Hp->VK->Prop)(to:TE)(t:TA):TE:=λd H Q=>to d H λx c=>tyV K T x c/\t d c λf e=>r x f e Q
variable{o e:Expr}{es:List Expr}{to:TE}{t:TA}{name:Str}{apos cpos:Pos}{T id:String}{r:V->bA->Hp->VK->Prop}
def adp(A:oj T)(slot:Slot T name id)(hty:typeOf (.builtin id)=pure (.type "method_descriptor"))(w:MtR X id r)(y:PE X o to)(u:PA X (e::es) t)
  (hbase:fA o name X.a9 (eval o X.a9)=eval o X.a9:=by rfl)
  (hfew:((bJ cpos (aE (e::es) X.a9)).all (λx=>!x.1)&&(backToKw cpos (dR [] X.a9)).all (λx=>x.1.isSome)
   && decide ((e::es).length+([]:List fY).length+(if ([]:List fY).isEmpty then 0 else 1)<30))=γ:=by rfl)
  (hline:(apos.endLine==cpos.line)=γ:=by rfl) (z:aE (e::es) X.a9=(δ,eval e X.a9)::aE es X.a9:=by rfl) (hplain:(bJ cpos (aE es X.a9)).any (·.1)=δ:=by rfl):
  PE X (.Call (.Attribute o name apos) (e::es) [] cpos) (tBM X.K T r to t):=by
 intro c s d H Q I h;calc wpAny_Call_method_late hbase hfew hline J (ff (y c s d H _ I h) λv F zz=>?_);let#v[x,j,f,i,ty,B]:=zz;let#v[p,q]:=Zq f i ty;calc#v[T,id,A,slot,hty,p,q,?_];have hA:=u cpos c F d j _ f B;rw[z]at hA ⊢;refine je (by change (δ||(bJ cpos (aE es X.a9)).any (·.1))=δ;rw[hplain]<;>rfl) (kl ?_)
 show ff hA λM G #v[N,l,m,E,C]=>w c G d l x N v M Q m i E C
end
def MtM(X:Cx)(id:String)(r:V->bA->Hp->VK->Prop):Prop:=
 ∀(a:dF) (s:aq) (d:St) (H:Hp) (x:V) (c:bA) (v:aa) (b:List aa) (Q:VK),b? X a d H s->ea x v->d? c b->r x c H Q->
  ar (model X.prog X.w) X.A (call (.builtin id) (v::b)) (EP X a d Q) X.xe s
def d?.one:∀{x:V} {a:List aa},d? [x] a->IV1 x a
 |_,_,.cons r .nil=>#v[_,J,r]
theorem d?.eraseIdx:∀{b:bA} {a:List aa} (i:Nat),d? b a->d? (b.eraseIdx i) (a.eraseIdx i)
 |_,_,_,.nil=>.nil
 |_,_,0,.cons _ t=>t
 |_,_,i+1,.cons r t=>.cons r (d?.eraseIdx i t)
theorem IY{a:Type}:∀(l:List a) (i:Nat),(l.eraseIdx i).length<=l.length
 |[],_=>aF _
 |_::_,0=>iF _
 |_::r,i+1=>qH (IY r i)
section
variable{X:Cx}{pins:dF}{σ:St}{H:Hp}{s:aq}{l b:Addr}{xs ys zs:bA}
def b?.lset{its its':List aa}(I:b? X pins σ H s)(hH:H l=U (.ax xs))
  (e:s.heap.get? l=U { cls:=.type "list", data:=.seq its.toArray n }) (c:f its.toArray=its'.toArray) (hv:d? ys its') (h:ys.length<=aS):
  b? X pins σ (el H l (.ax ys)) { s with heap:=s.heap.update l (c4 f),toks:=j }:=by
 have q:=PySem.IsL.update e f;rw[c]at q;calc I.z6 (x:=l) (e:=l) (by rw[hH];show trivial) (.inl J) (λi u a d=>(gm s.heap (c4 f) (b0 a)).t d) #v[_,q] ?_;show#v[h,its',_,hv,q]
def b?.lnew(I:b? X pins σ H s)(hv:d? ys its)(a:ys.length<=aS):
  b? X pins σ (el H (~~~s) (.ax ys)) { s with heap:=s.heap.push { cls:=.type "list", data:=.seq its.toArray },toks:=t' }:=
 I.laid (λz z q=>aJ _ q) (aF _) #v[a,its,0,hv,bq _ J]
theorem b?.fresh(I:b? X pins σ H s):H (~~~s)=Z:=I.fb.fresh (aF _)
inductive ILm(xs:bA) (h:Heap) (l:Addr):Prop
 |i (z:xs.length<=aS) (its:List aa) (n:Nat) (r:d? xs its) (e:xs.length=its.length) (g:h.get? l=U { cls:=.type "list", data:=.seq its.toArray n }):ILm xs h l
def b?.lstM(I:b? X pins σ H s)(hH:H l=U (.ax xs)):ILm xs s.heap l:=by let#v[z,a,n,r,e]:=I.fb l _ hH;show#v[z,a,n,r,r.length,e]
def Ro(h:n<=aS):j7 n=δ:=by delta j7;show aL ()
end
section
variable{X:Cx}
inductive La(x:V) (vs:bA) (H:Hp) (Q:VK):Prop
 |i (l xs y) (h0:x=.ref l) (h1:vs=[y]) (h2:H l=U (.ax xs)) (h3:xs.length<aS) (h4:Q .cx (el H l (.ax (xs++[y])))):La x vs H Q
def JV:V->bA->Hp->VK->Prop:=λx a H Q=>La x a H Q
theorem E2:MtM X "list.append" JV:=by intro c s w H x p v o Q I i f h;let#v[l,t,y,rfl,rfl,hH,m,q]:=h;ext i;let#v[u,rfl,d]:=f.one;let#v[z,a,n,r,j,e]:=I.lstM hH;calc om ml #v[_,e,J] F.entry_list_append (F.args_list_append_2 _ _) (PySem.list_append l a.toArray n u (by rw[bG];omega)) #v[e,?_];calc#v[.cx,_,I.lset (its':=a++[u]) hH e (by simp) (r.append (.cons d .nil)) ?_,J,q];rw[aG,bu];omega
inductive Ot(x:V) (vs:bA) (H:Hp) (Q:VK):Prop
 |i (l xs i k y) (h0:x=.ref l) (h1:vs=[.int i]) (h2:H l=U (.ax xs)) (h3:-(2 ^ 63)<=i) (h4:i<2 ^ 63) (h5:seqIndex? i xs.length=U k) (h6:xs[k]?=U y) (h7:Q y (el H l (.ax (xs.eraseIdx k)))):Ot x vs H Q
def MZ:V->bA->Hp->VK->Prop:=λx a H Q=>Ot x a H Q
theorem Lb:MtM X "list.pop" MZ:=by
 intro d s O H x N v M Q I E C h;let#v[l,G,i,k,y,rfl,rfl,hH,f,j,m,A,q]:=h;ext E;let#v[u,rfl,B]:=C.one;let#v[t,rfl]:=B;let#v[z,a,n,r,o,e]:=I.lstM hH;let#v[w,p,b]:=r.get A;refine om mW #v[_,e,J] F.entry_list_pop (F.args_list_pop_2 _ _)
  (MeetsSeq.list_pop_at l a.toArray n i t k w (fitsIndex_both f j) (by rw[bG,<- o];show m) (by rw[<-cp];show p) (by rw[bG];omega)) #v[e,?_]
 refine#v[y,_,I.lset (its':=a.eraseIdx k) hH e ?_ (r.eraseIdx k) ?_,b,q]
 .change a.toArray.eraseIdxIfInBounds k=(a.eraseIdx k).toArray;rw[List.eraseIdxIfInBounds_toArray]
 .have:=IY G k;omega
inductive Yf(x:V) (y:V) (H:Hp) (Q:VK):Prop
 |i (l b xs zs) (h0:x=.ref l) (h1:y=.ref b) (h2:H l=U (.ax xs)) (h3:H b=U (.ax zs)) (h4:xs.length+zs.length<=aS) (h5:∀p,H p=Z->Q (.ref p) (el H p (.ax (xs++zs)))):Yf x y H Q
def rCat:R2:=λx y H Q=>Yf x y H Q
def Zr:js X (c5 .Add) rCat:=by
 intro d s G H x y v u Q I o p h;let#v[l,b,C,F,rfl,rfl,hH,hB,w,q]:=h;ext o;ext p;let#v[z,c,n,r,t,e]:=I.lstM hH;let#v[E,a,A,m,j,f]:=I.lstM hB;calc PySem.P.add_list e f ?_ (by rw[bG,bG];omega);have i:c.toArray++a.toArray=(c++a).toArray:=by simp
 rw[i];show#v[.ref _,_,I.lnew (t':=s.toks) (r.append m) (by rw[aG];omega),J,q _ I.fresh]
end
section
variable{prog:bb}{w:aQ}{A:bo}{E:aa->aq->Prop}{s:aq}
set_option maxRecDepth 100000 in
end
section
variable{κ:Type}[DecidableEq κ]
def ze(kvs:List (κ×V))(k:κ):Option V:=(kvs.find? λa=>decide (a.1=k)).map (·.2)
def iE(kvs:List (κ×V))(k:κ)(v:V):List (κ×V):=
 if (kvs.any λa=>decide (a.1=k))=γ then kvs.map (λa=>if a.1=k then (a.1,v)else a)else kvs++[(k,v)]
def Ed{p:κ×V}(e:p.1=k):ze (p::r) k=U p.2:=by simp[ze,fT,e]
def Ee{p:κ×V}(e:¬p.1=k):ze (p::r) k=ze r k:=by simp[ze,fT,e]
theorem GU(k:κ):∀kvs:List (κ×V),(kvs.any λa=>decide (a.1=k))=(ze kvs k).isSome
 |[]=>rfl
 |p::r=>by
  rw[gQ];by_cases e:p.1=k
  .erw[Ed e,aI e,Bool.true_or,Option.isSome_some]
  .rw[Ee e,aL e,Bool.false_or];show GU k r
def AH(kvs:List (κ×V))(k:κ)(v:V):(iE kvs k v).length<=kvs.length+1:=by
 delta iE;split
 .rw[ak];omega
 .rw[aG,aK,dA];omega
def Rp{kvs:List (κ×V)}{k:κ}(v:V)(h:ze kvs k=Z):iE kvs k v=kvs++[(k,v)]:=by delta iE;rw[GU,h];show ah #[]
def Cn.ZY(r:Cn o u):o.isSome=u.isSome:=by
 cases o with
 |none=>cases u with
  |none=>rfl
  |some _=>show(show False from r).elim
 |some _=>cases u with
  |none=>show(show False from r).elim
  |some _=>rfl
theorem Cn.getD(r:Cn o u)(b:ea d a):ea (o.getD d) (u.getD a):=by
 cases o with
 |none=>cases u with
  |none=>show b
  |some _=>show(show False from r).elim
 |some _=>cases u with
  |none=>show(show False from r).elim
  |some _=>show r
def KV.val(r:KV kvs j)(k:κ):Cn (ze kvs k) (valueAt j k):=by
 delta KV at r
 induction r with
 |nil=>show True.intro
 |@cons p q l c h t i=>
  let#v[d,f]:=h;by_cases e:p.1=k
  .have a:q.1=k:=d.symm.t e;have b:valueAt (q::c) k=U q.2:=by simp[valueAt,fT,a]
   rw[Ed e,b];show f
  .have a:¬q.1=k:=λz=>e (d.t z);have b:valueAt (q::c) k=valueAt c k:=by simp[valueAt,fT,a]
   rw[Ee e,b];show i
theorem KV.any(r:KV kvs vs)(k:κ):(kvs.any λa=>decide (a.1=k))=vs.any λa=>decide (a.1=k):=by
 delta KV at r
 induction r with
 |nil=>rfl
 |cons h t b=>rw[gQ,gQ,b,h.1]
def KV.repl(r:KV kvs i)(k:κ)(f:ea y u):
  KV (kvs.map λa=>if a.1=k then (a.1,y)else a) (i.map λa=>if a.1=k then (a.1,u)else a):=by
 delta KV at r ⊢
 induction r with
 |nil=>show .nil
 |@cons p q j l h t d=>
  rw[aA,aA];calc .cons ?_ d;let#v[b,c]:=h;by_cases e:p.1=k
  .rw[af e,af (b.symm.t e)];show#v[b,f]
  .rw[ah e,ah (λz=>e (b.t z))];show#v[b,c]
def KV.put(r:KV kvs b)(k:κ)(a:ea y u):KV (iE kvs k y) (stored b k u):=by
 delta iE stored;rw[r.any k];by_cases e:(b.any λc=>decide (c.1=k))=γ
 .rw[af e,af e];show r.repl k a
 .rw[ah e,ah e];show sy r #v[J,a]
theorem KV.length(r:KV kvs vs):kvs.length=vs.length:=nh r
end
def Fy(r:ea (kV k) u):(vG P w).is k u=γ:=by
 cases k with
 |inl i=>let#v[t,e]:=(show ∃t,u=Value.int i t from r);subst e;show K0 P w i t
 |inr x=>let#v[t,e]:=(show ∃t,u=Value.str x t from r);subst e;show K1 P w x t
theorem IZ:∀{a:List ee} {b:List aa},d? (a.map kV) b->ItemsAre (vG P w) a b
 |[],_,r=>by rw[bZ]at r;ext r;show .nil
 |k::a,_,r=>by
  rw[aA]at r;cases r with
  |cons h t=>show .cons (Fy h) (IZ t)
abbrev KT(H:Hp):List (List ee×V)->List (List ee×Addr×aa)->Prop:=gX λp q=>p.1=q.1/\H q.2.1=U (.bx (p.1.map kV))/\ea p.2 q.2.2
def KT.val(r:KT H kvs j)(k:List ee):Cn (ze kvs k) ((atKey j k).map (·.2)):=by
 induction r with
 |nil=>show True.intro
 |@cons p q l c h t i=>
  let#v[d,_,f]:=h;by_cases e:p.1=k
  .have a:q.1=k:=d.symm.t e;have b:atKey (q::c) k=U q.2:=by simp[atKey,fT,a]
   rw[Ed e,b];show f
  .have a:¬q.1=k:=λz=>e (d.t z);have b:atKey (q::c) k=atKey c k:=by simp[atKey,fT,a]
   rw[Ee e,b];show i
def KT.repl(r:KT H kvs j)(k:List ee)(i:ea y u):
  KT H (kvs.map λb=>if b.1=k then (b.1,y)else b) (j.map (putAt k u)):=by
 induction r with
 |nil=>show .nil
 |@cons p q l m h t f=>
  rw[aA,aA];calc .cons ?_ f;let#v[a,c,d]:=h;delta putAt;by_cases e:p.1=k
  .rw[af e,af (a.symm.t e)];show#v[a,c,i]
  .rw[ah e,ah (λz=>e (a.t z))];show#v[a,c,d]
def KT.put(r:KT H kvs a)(k:List ee)(d:H b=U (.bx (k.map kV)))(c:ea y u):
  KT H (iE kvs k y) (storedH a k b u):=by
 have e:(kvs.any λf=>decide (f.1=k))=(atKey a k).isSome:=by rw[GU,(r.val k).ZY,Option.isSome_map]
 delta iE storedH;rw[e];by_cases q:(atKey a k).isSome=γ
 .rw[af q,af q];show r.repl k c
 .rw[ah q,ah q];show sy r #v[J,d,c]
def KT.keeps(r:KT H kvs e)(d:∀b a,H b=U (.bx a)->c b=U (.bx a)):KT c kvs e:=
 Paired.mapP r λu u z=>#v[z.1,d _ _ z.2.1,z.2.2]
section
variable{P:bb}{w:aQ}{H:Hp}{h:Heap}{a:Addr}
def Yg(ok:tj P w H h)(e:Rd H a u):eu P w H h a u:=e.ok ok
def Ef(ok:tj P w H h)(e:Rd H a (.dK kvs)):kvs.length<=aS/\(a==cZ)=δ/\∃b,KV kvs b/\h.DictOf (vG P w) a b:=
 show eu P w H h a (.dK kvs) from Yg ok e
def Rq(ok:tj P w H h)(e:H a=U (.dK kvs)):kvs.length<=aS/\(a==cZ)=δ/\∃b,KV kvs b/\h.DictOf (vG P w) a b:=Ef ok (.inl e)
def JW{c:List ee}(ok:tj P w H h)(e:H a=U (.bx (c.map kV))):(tupleKind (vG P w)).is h c a:=by let#v[_,b,r,#v[o,d,f,n,i],_]:=(show eu P w H h a (.bx (c.map kV)) from ok a _ e);show#v[o,b.toArray,n,d,f,i,by exists IZ r]
def Lc(ok:tj P w H h)(e:Rd H a (.dT kvs)):kvs.length<=aS/\(a==cZ)=δ/\
  ∃c,KT H kvs c/\h.DictOfH (tupleKind (vG P w)) a c:=by
 let#v[z,y,c,r,o,i,f,j,u,A,B,C]:=(show eu P w H h a (.dT kvs) from Yg ok e);calc#v[z,y,c,r,o,i,f,j,u,A,B,λx b=>?_,C];have all:∀{l:List (List ee×V)} {m:List (List ee×Addr×aa)},KT H l m->∀x∈m,(tupleKind (vG P w)).is h x.1 x.2.1:=by
  intro l m q
  induction q with
  |nil=>intro x b;show nomatch b
  |@cons p q F G d t E=>
   intro x b;rcases aD.1 b with e|b
   .subst e;show JW ok (by rw[<-d.1];show d.2.1)
   .show E x b
 show all r x b
def dt_of(ok:tj P w H h)(e:H a=U (.dT kvs)):kvs.length<=aS/\(a==cZ)=δ/\
  ∃b,KT H kvs b/\h.DictOfH (tupleKind (vG P w)) a b:=Lc ok (.inl e)
end
def Ai(H:Hp)(a:Addr)(y:V)(r:Option V):Prop:=
 (∃kvs k,Rd H a (.dK kvs)/\y=kV k/\r=ze kvs k)\/∃kvs k b,Rd H a (.dT kvs)/\y=.ref b/\H b=U (.bx (k.map kV))/\r=ze kvs k
def Ld(H:Hp)(a:Addr)(y v:V)(c:Hp):Prop:=
 (∃kvs k,H a=U (.dK kvs)/\y=kV k/\kvs.length<aS/\c=el H a (.dK (iE kvs k v)))\/
 ∃kvs k b,H a=U (.dT kvs)/\y=.ref b/\H b=U (.bx (k.map kV))/\kvs.length<aS/\c=el H a (.dT (iE kvs k v))
theorem Ld.k{H:Hp}{a:Addr}{kvs:List (ee×V)}{k:ee}{v:V}(e:H a=U (.dK kvs))(b:kvs.length<aS):Ld H a (kV k) v (el H a (.dK (iE kvs k v))):=.inl #v[kvs,k,e,J,b,J]
section
variable{X:Cx}{pins:dF}{σ:St}{H:Hp}{s:aq}{a:Addr}{y v:V}{u r:aa}{o:Option V}{A:bo}{E:aa->aq->Prop}
def b?.big(I:b? X pins σ H s):cZ< ~~~s:=by have h:bN< ~~~s:=(I.B?.E?.keeps I.bk).lt;show kX #[] h
def PZ(B:A.units+1<cLine)(I:b? X pins σ H s)(g:Ai H a y (U v))(m:ea y u)(h:∀d q,b? X pins σ H q->ea v d->Q d q):
  ar (model X.prog X.w) A (getItem (.ref a) u) Q E s:=by
 rcases g with ⟨kvs,k,e,f,l⟩|⟨kvs,k,b,e,f,t,l⟩
 .subst f;let#v[z,hd,C,rel,dd]:=Ef I.fb e;let#v[d,j,c]:=Cn.I? (v:=v) (o:=valueAt C k) (by rw[l];show rel.val k);show wpAny_getItem_of (Fy m) dd.mapOf j (h d _ (I.zk _) c)
 .subst f;cases (show u=Value.ref b from m);let#v[z,hd,F,rel,dd]:=Lc I.fb e;let#v[d,j,c]:=Cn.I? (v:=v) (o:=(atKey F k).map (·.2)) (by rw[l];show rel.val k)
  let#v[p,x,i]:=pG.1 j;calc wpAny_getItem_heap (mm B) (JW I.fb t) dd x ?_;rw[i];show h d _ (I.zk _) c
def Gm(I:b? X pins σ H s)(f:Mut (H a))(hs:fD a s.heap h')(d:∃q,h'.get? a=U q)(new:eu X.prog X.w (el H a ob) h' a ob):
  b? X pins σ (el H a ob) { s with heap:=h',toks:=t' }:=
 I.z6 (x:=a) (e:=a) f (.inl J) (λb q c z=>(hs.2 b c).t z) d new
def M0{h':Heap}{kvs:List (ee×V)}(z:kvs.length<=aS)(hd:(a==cZ)=δ)(rel:KV kvs b)(dd:h'.DictOf (vG P w) a b):
  eu P w c h' a (.dK kvs):=#v[z,hd,b,rel,dd]
def P3(hu:A.units+1<cLine)(I:b? X pins σ H s)(g:Ld H a y v N)(G:ea y u)(F:ea v r)(h:∀M,b? X pins σ N M->Q Unit.unit M):
  ar (model X.prog X.w) A (setItem (.ref a) u r) Q E s:=by
 rcases g with ⟨kvs,k,e,i,l,eH⟩|⟨kvs,k,b,e,i,x,l,eH⟩
 .subst i eH;let#v[z,hd,vs,rel,dd]:=Rq I.fb e;have t:vs.length<=aS:=by rw[<-rel.length];show z
  have j:(iE kvs k v).length<=aS:=by have:=AH kvs k v;omega
  calc wpAny_setItem_pairs (hsz:=t) (Fy G) dd λC d m=>h _ ?_;have Y:∃q,C.get? a=U q:=let #v[q,_,_,f,_]:=d;#v[q,f];show Gm I (by rw[e];show True.intro) m Y (M0 j hd (rel.put k F) d)
 .subst i eH;cases (show u=Value.ref b from G);let#v[z,hd,xs,rel,dd]:=dt_of I.fb e;have t:xs.length<=aS:=by rw[<-nh rel];show z
  have j:(iE kvs k v).length<=aS:=by have:=AH kvs k v;omega
  calc wpAny_setItem_heap (hsz:=t) (mm hu) (JW I.fb x) dd λC d m=>h _ ?_;let#v[q,P,O,f,R,S,T,_,W]:=d;calc Gm I (by rw[e];show True.intro) m #v[q,f] #v[j,hd,_,(rel.put k x F).keeps λc ys B=>?_,q,P,O,f,R,S,T,W];rw[vC (acY B e (λz=>nomatch z))];show B
end
section
variable{X:Cx}{pins:dF}{σ:St}{H:Hp}{s:aq}{a:Addr}{kvs:List (ee×V)}{k:ee}{u:aa}{A:bo}{E:aa->aq->Prop}
def adq(I:b? X pins σ H s)(e:Rd H a (.dK kvs))(h:∀t b,b? X pins σ H b->Q (.int kvs.length t) b):ar (model X.prog X.w) A (call (.builtin "len") [.ref a]) Q E s:=by let#v[z,hd,c,rel,dd]:=Ef I.fb e;calc call_len_dict hd dd (by rw[<-rel.length];rw[bH]at z;omega) ?_;rw[<-rel.length];show h _ _ (I.zk _)
end
def Zs(i:Expr):Prop:=∀b a,subscripted i δ b a=operate [b,a] (getItem b a)
def Vp{prog:bb}{w:aQ}{A:bo}{E:aa->aq->Prop}{s:aq}{a9:Env}{value slice:Expr}{pos:Pos}{T id:String}{Q:aa->aq->Prop}
  (j:typeLookup (.type T) "__getitem__" = pure (U (.builtin id))) (l:Zs slice)
  (h:ar (model prog w) A (eval value a9) (λo c=>ar (model prog w) A (eval slice a9) (λi a=>a.TypeIs o T/\ar (model prog w) A (getItem o i) Q E a) E c) E s):
  ar (model prog w) A (eval (.Subscript value slice pos) a9) Q E s:=by
 calc oh (cB h (λo c e=>cB e (λi a b=>?_) λz z x=>x) λz z x=>x);let#v[hT,b]:=b;delta subscriptTail;calc aj ?_;rw[getitemInPython_of_ne hT.not_modules];calc aj (gH hT j ?_);have fin:ar (model prog w) A (subscripted slice δ o i) (λr d=>ar (model prog w) A (letTemporaryGo value o r>>=λz=>pure r) Q E d) E a:=by rw[l o i];show wpAny_operating (cB b (λr d f=>aj (wpAny_letTemporaryGo (aw f))) λz z x=>x)
 first
  |show aw (aj fin)
  |show aj (aw (aj fin))
  |show aj fin
def Le(I:b? X c h H s)(g:Ai H a y o):s.TypeIs (.ref a) "dict" := by
 rcases g with ⟨kvs,k,e,_,_⟩|⟨kvs,k,b,e,_,_,_⟩
 .let#v[_,_,d,_,dd]:=Ef I.fb e;show dd.typeIs
 .let#v[_,_,f,_,dd]:=Lc I.fb e;show dd.typeIs
def ads(e ty:TE):TE:=λc H Q=>e c H λx d=>ty c d λy b=>∃a v,x=.ref a/\Ai b a y (U v)/\Q v b
def Ou(h ty i:TE):TS:=λD b H=>i b H λv d=>h b d λx e=>ty b e λy f=>∃a c,x=.ref a/\Ld f a y v c/\D.nx b c
section
variable{X:Cx}{o i e value:Expr}{pos pos' tpos:Pos}{td ty tv:TE}
theorem Vq(z:X.A.units+1<cLine)(t:PE X o td)(r:PE X i ty)(w:Zs i):PE X (.Subscript o i pos) (ads td ty):=by intro b s f H Q I h;calc Vp F.slot_dict_getitem.lookup w (ff (t b s f H _ I h) λu M #v[x,j,m,E,B]=>ff (r b M f j _ m B) λN O zz=>?_);let#v[y,l,d,G,a,v,q,g,C]:=zz;subst q;obtain rfl:u=Value.ref a:=E;show#v[Le d g,PZ z d g G λR P p c=>#v[v,l,p,c,C]]
def Ov(C:X.A.units+1<cLine)(z:PE X o td)(w:PE X i ty)(E:PE X value tv)(B:eM value (U (.Subscript o i pos')) pos.line X.a9=pure δ):
  PS X (.Assign [.Subscript o i pos'] value pos) (Ou td ty tv):=by
 intro b s c H D I h;calc wpAny_Assign_Subscript (ff (E b s c H _ I h) λr Q #v[v,d,l,N,F]=>ff (z b Q c d _ l F) λu R #v[x,f,m,O,G]=>ff (w b R c f _ m G) λT W zz=>?_) B;let#v[y,S,p,P,a,j,t,g,M]:=zz;subst t;obtain rfl:u=Value.ref a:=O;show P3 C p g P N λY q=>#v[c,j,q,M]
end
def Lf(h:Heap)(a:cZ<h.objs.size):eu P w H (h.push { cls:=.type "dict", data:=.dict [].toArray }) h.objs.size (.dK []):=
 #v[bM _,beq_eq_false_iff_ne.2 (b0 (aW a)),[],.nil,vm h]
def GV:TE:=λz H Q=>∀p,H p=Z->Q (.ref p) (el H p (.dK []))
section
variable{X:Cx}{pos:Pos}
def Cr:PE X (.Dict [] [] pos) GV:=λb s d H Q I h=>
 wpAny_Dict_empty #v[.ref (~~~s),_,I.laid (a:= ~~~s) (o:=.dK []) (t':=s.toks) (λz z q=>aJ _ q) (aF _) (Lf s.heap I.big),J,h _ (I.fb.fresh (aF _))]
end
def JX:List (TE×TE)->St->Hp->(List (V×V)->Hp->Prop)->Prop
 |[],_,H,Q=>Q [] H
 |(tk,f)::r,a,H,Q=>tk a H λx b=>f a b λy c=>JX r a c λe d=>Q ((x,y)::e) d
abbrev VV:List (V×V)->List (aa×aa)->Prop:=gX λp q=>ea p.1 q.1/\ea p.2 q.2
def PPs(X:Cx)(pos:Pos)(keys:List (Option Expr))(values:List Expr)(trs:List (TE×TE)):Prop:=
 ∀(a:dF) (s:aq) (b:St) (H:Hp) (Q:List (V×V)->Hp->Prop),b? X a b H s->JX trs b H Q->
  ar (model X.prog X.w) X.A (evalPairs (pairTrees keys values X.a9 pos)) (λf e=>∃d c,b? X a b c e/\VV d f/\Q d c) X.xe s
def Vr:PPs X pos [] [] []:=λa s b H Q I h=>pairTrees_nil_walk #v[[],H,I,.nil,h]
def Rr(l:PE X k tk)(o:PE X v E)(m:PPs X pos p F trs):
  PPs X pos (U k::p) (v::F) ((tk,E)::trs):=λa s b H Q I h=>
 pairTrees_cons_walk (ff (l a s b H _ I h) λu B #v[x,c,f,z,r]=>ff (o a B b c _ f r) λM C #v[y,d,i,A,t]=>
  ff (m a C b d _ i t) λN G #v[q,e,j,rel,w]=>#v[(x,y)::q,e,j,.cons #v[z,A] rel,w])
def Cs(kvs more:List (ee×V)):List (ee×V):=more.foldl (λacc a=>iE acc a.1 a.2) kvs
def KV.merge:∀{more:List (ee×V)} {rs:List (ee×aa)} {kvs:List (ee×V)} {a:List (ee×aa)},KV more rs->KV kvs a->KV (Cs kvs more) (merged a rs):=by
 intro more rs kvs a r;delta KV at r
 induction r generalizing kvs a with
 |nil=>intro q;show q
 |@cons p q d f h t b=>
  intro c;have e:KV (iE kvs p.1 p.2) (stored a q.1 q.2):=by have:=c.put p.1 h.2;rw[<-h.1];show this
  show b e
theorem DE:∀(more kvs:List (ee×V)),(Cs kvs more).length<=kvs.length+more.length
 |[],kvs=>by change kvs.length<=kvs.length+0;omega
 |p::r,kvs=>by have a:=DE r (iE kvs p.1 p.2);have b:=AH kvs p.1 p.2;change (Cs (iE kvs p.1 p.2) r).length<=_;rw[aK];omega
theorem GW:∀{kvs:List (ee×V)} {e:List (aa×aa)},VV (kvs.map λd=>(kV d.1,d.2)) e->∃rs,Carries (vG P w) e rs/\KV kvs rs
 |[],_,r=>by rw[bZ]at r;ext r;show#v[[],True.intro,.nil]
 |p::kvs,_,r=>by
  rw[aA]at r;cases r with
  |@cons a b as bs h t=>let#v[rs,c,q]:=GW (P:=P) (w:=w) t;let#v[i,f]:=b;show#v[(p.1,f)::rs,#v[Fy h.1,J,c],.cons #v[J,h.2] q]
def Rt(trs:List (TE×TE)):TE:=λd H Q=>∀p,H p=Z->JX trs d (el H p (.dK [])) λc a=>a p=U (.dK [])/\∃kvs:List (ee×V),c=kvs.map (λb=>(kV b.1,b.2))/\kvs.length<=15/\Q (.ref p) (el a p (.dK (Cs [] kvs)))
def Vs(h:PPs X pos keys values trs)(hall:keys.all (·.isSome)=γ)(u:keys.length=values.length)(p:keys≠[])
  (f:keys.length<=15):PE X (.Dict keys values pos) (Rt trs):=by
 intro d s M H Q I q;have x:=I.fb.fresh (aF (~~~s));have l:=I.laid (a:= ~~~s) (o:=.dK []) (h':=s.heap.push { cls:=.type "dict", data:=.dict [].toArray }) (t':=s.toks) (λn n q=>aJ _ q) (aF _) (Lf s.heap I.big);calc wpAny_Dict_walk (knd:=vG X.prog X.w) hall u p f (ff (h d _ M _ _ l (q _ x)) λT R zz=>?_);let#v[O,N,i,rel,e,kvs,m,lk,C]:=zz;subst m;let#v[rs,c,F]:=GW (P:=X.prog) (w:=X.w) rel;let#v[z,hd,G,E,dd]:=Rq i.fb e;ext E;calc#v[rs,c,dd,λj b A=>#v[.ref (~~~s),_,?_,J,C]];have B:(Cs [] kvs).length<=aS:=by have r:=DE kvs [];rw[dA]at r;rw[bH];omega
 have t:∃q,j.get? (~~~s)=U q:=let #v[q,_,_,y,_]:=b;#v[q,y];show Gm i (by rw[e];show True.intro) A t (M0 B hd (F.merge .nil) b)
structure M1(X:Cx)(o:Expr)(m:Str)(apos:Pos)(e:Expr)(cpos:Pos):Prop where
 a8:fA o m X.a9 (eval o X.a9)=eval o X.a9
 few:((bJ cpos (aE [e] X.a9)).all (λx=>!x.1)&&(backToKw cpos (dR [] X.a9)).all (λx=>x.1.isSome)
  && decide (([e]:List Expr).length+([]:List fY).length+(if ([]:List fY).isEmpty then 0 else 1)<30))=γ
 line:(apos.endLine==cpos.line)=γ
 Xn:bJ cpos (aE [e] X.a9)=[(δ,eval e X.a9)]
structure M2(X:Cx)(o:Expr)(m:Str)(apos:Pos)(e f:Expr)(cpos:Pos):Prop where
 a8:fA o m X.a9 (eval o X.a9)=eval o X.a9
 few:((bJ cpos (aE [e,f] X.a9)).all (λx=>!x.1)&&(backToKw cpos (dR [] X.a9)).all (λx=>x.1.isSome)
  && decide (([e,f]:List Expr).length+([]:List fY).length+(if ([]:List fY).isEmpty then 0 else 1)<30))=γ
 line:(apos.endLine==cpos.line)=γ
 Xn:bJ cpos (aE [e,f] X.a9)=[(δ,eval e X.a9),(δ,eval f X.a9)]
def IsD(H:Hp)(a:Addr):Prop:=(∃kvs,Rd H a (.dK kvs))\/∃kvs,Rd H a (.dT kvs)
def JY(I:b? X i m H s)(d:IsD H a):
  s.TypeIs (.ref a) "dict" /\ (∀b,Value.ref a=.ref b->∃c,s.heap.get? b=U c/\c.dict=Z)/\(a==cZ)=δ:=by
 rcases d with ⟨kvs,e⟩|⟨kvs,e⟩
 .let#v[_,hd,j,_,dd]:=Ef I.fb e;calc#v[dd.typeIs,λb q=>?_,hd];ext q;let#v[c,_,_,f,h,_]:=dd;show#v[c,f,h.2.1]
 .let#v[_,hd,l,_,dd]:=Lc I.fb e;calc#v[dd.typeIs,λb q=>?_,hd];ext q;let#v[c,_,_,f,h,_]:=dd;show#v[c,f,h.2.1]
section
variable{X:Cx}{pins:dF}{σ:St}{H:Hp}{s:aq}{a:Addr}{y d:V}{u r:aa}{o:Option V}{A:bo}{E:aa->aq->Prop}
def Ru(p:A.units+1<cLine)(I:b? X pins σ H s)(g:Ai H a y o)(f:ea y u)(h:∀j i,b? X pins σ H i->ea (o.getD .cx) j->Q j i):
  ar (model X.prog X.w) A (call (.builtin "dict.get") [.ref a,u]) Q E s:=by
 rcases g with ⟨kvs,k,e,c,l⟩|⟨kvs,k,b,e,c,m,l⟩
 .subst c;let#v[z,hd,t,rel,dd]:=Ef I.fb e;calc jC jw dd.typeIs mO (mF _ _) (rj (vG X.prog X.w) a (Fy f) hd) #v[_,dd.mapOf,h _ _ (I.zk _) ?_];rw[l];show(rel.val k).getD J
 .subst c;cases (show u=Value.ref b from f);let#v[z,hd,q,rel,dd]:=Lc I.fb e;calc jC jw dd.typeIs mO (mF _ _) (meetsH_dict_get (tupleKind (vG X.prog X.w)) a b hd) #v[mm p,k,q,JW I.fb m,dd,h _ _ (I.zk _) ?_];rw[l];show(rel.val k).getD J
end
def Zt(e ty:TE):TE:=λd H Q=>e d H λx b=>∃a,x=.ref a/\IsD b a/\ty d b λy c=>∃o,Ai c a y o/\Q (o.getD .cx) c
section
variable{X:Cx}{o e f:Expr}{apos cpos:Pos}{td ty tx:TE}
def Rv(B:X.A.units+1<cLine)(z:PE X o td)(w:PE X e ty)(m:M1 X o "get" apos e cpos):PE X (.Call (.Attribute o "get" apos) [e] [] cpos) (Zt td ty):=by intro b s j H Q I h;calc mG m.a8 m.few m.line kE jw qP (ff (z b s j H _ I h) λu M zz=>?_);let#v[x,l,i,F,a,t,d,C]:=zz;subst t;obtain rfl:u=Value.ref a:=F;let#v[N,O,_]:=JY i d;calc#v[N,O,?_];rw[m.Xn];calc je J (kl (gq (ff (w b M j l _ i C) λP S #v[y,p,q,G,R,g,E]=>ig ?_)));show Ru B q g G λW T r c=>#v[_,p,r,c,E]
end
end L2
namespace Att
open PySem PySem.W PySem.Calls PyProof.Rows
def Gd:∀(c:List Int) (d:List aa),WellAll P h d (c.map WData.int)->jM d c:=by
 intro c
 induction c with
 |nil=>intro d w;rw[bZ]at w;ext w;show .nil
 |cons n c e=>
  intro d w;rw[aA]at w;cases w with
  |cons a b=>ext a;show .cons _ _ (e _ b)
def P4{l:iI}(t:l.most=U n)
  (hpre:l.row.toRowW.claim.pre args=γ) (hwl:WellAll P h vals args):
  ∃a j b,vals=[Value.ref a]/\args=[WData.list (b.map WData.int)]/\h.get? a=U { cls:=.type "list", data:=.seq j.toArray }/\jM j b/\b.length<=n:=by
 have hsh:WShape.hasAll [] args [.list .int]=γ:=(pre_splitW hpre).1;have i:l.pre.holds [] { args:=args }=γ:=(pre_splitW hpre).2;let#v[d,r,rfl,m,o]:=hasAllW_cons hsh;obtain rfl:=hasAllW_nil o;let#v[z,rfl,p]:=hasW_list m;let#v[b,rfl]:=items_int p;have c:b.length<=n:=by
  delta OpenLaw.pre at i;have e:(WTm.not (.lt (.lit (.int (n:Int))) (.len (.arg 0)))).holds [] { args:=[.list (b.map .int)] }=γ:=by have e:=(holds_andW i).1;rw[t]at e;show e
  have f:=condW_of e (w_not (w_lt w_lit (w_len_list (w_arg J))));rw[ak]at f;calc qI λq=>?_;have w:(n:Int)<((b.length:Nat):Int):=by omega
  first
   |(rw[aI w]at f;show au f #[])
   |(simp at f;omega)
 cases hwl with
 |cons x y=>
  ext y;cases x with
  |list u hall=>show#v[_,_,b,J,J,u,Gd b _ hall,c]
def P5(l:iI)(args:List WData):l.row.toRowW.claim.post args (.bool γ) args=γ:=
 postW_of (r:=l.row.toRowW) (X:=(γ==γ))
  (show sL [] (.bool γ) .bool=γ by first|rfl|decide|simp[sL,WShape.arms,WShape.armsAll])
  (show (WTm.eq .res (.lit (.bool γ))).value [] { args:=args,res:=U (.bool γ),after:=args }=U (.bool (γ==γ)) from w_eq_bool (w_res J) w_lit) J
def N?{l:iI}{d:DefRec}
  (E:l.most=U n) (hdf:d.params.defaults=[])
  (call:∀(w:aQ) (c b:aq) (m u:Str->Option aa) (h:Addr) (o:Obj) (x j doc:aa) (a:Addr) (e:List aa) (p:List Int),
   Ground q loose [] XP w c m u b.heap->YP w b.heap->
   b.heap.get? h=U o->o.data=.func (docDef d.name d.params d.body d.scope x j doc)->b.heap.CodeRec j d.name->m d.name=U (.ref h)->
   b.heap.get? a=U { cls:=.type "list", data:=.seq e.toArray }->jM e p->p.length<=n->b.gens=[].toArray->
   cO (model l.prog w) callerA (.call (.ref h) #v[[.ref a],[]]) (λr t=>r=.ok (.ret (.bool γ))/\OldK b.heap t.heap/\t.os=b.os/\eP t.gens) b):
  WalkO q loose XP YP l.row.toRowW d [] (λf e=>oo f e):=by
 intro w c b m u G Y h o x j doc dV kV F hd hcd hD hmg B args vals as hpre hlay hrd hwl hlo;obtain rfl:dV=.none:=Dflts.none hD hdf;obtain rfl:kV=.none:=Dflts.noKw hD;let#v[a,e,p,rfl,rfl,hobj,hints,i]:=P4 E hpre hwl;calc enter_call (iC (call w c b m u h o x j doc a e p G Y F (fd_plain hd) hcd hmg hobj hints i B) λr t H=>?_);let#v[rfl,y,z,A]:=H;show#v[.inl #v[.bool γ,.bool γ,[],J,λs=>J,.bool γ,P5 l _,λs=>#v[List.Pairwise.nil,λs C=>(nomatch C)]],y,z,A]
end Att
namespace L2
open PySem PySem.Spec PyProof.Rows
theorem I0:∀{b:List aa} {a:List Int},jM b a->d? (a.map V.int) b
 |_,_,.nil=>.nil
 |_,_,.cons n t h=>.cons #v[t,J] (I0 h)
def Zu(H:Hp):Prop:=∀b,H b=Z\/∃o a,H b=U (.l? o (.ax a))
def Rx{K:ay}{c:aq}{j:List aa}
  (KX:K.In c.heap) (hns:c.heap.Ns bN A) (f:c.heap.Ns builtinsNs O) (hbb:∀x:Str,x≠"__name__" -> O x=eI x) (hlim:c.heap.NoLimit) (hg:c.gens=[].toArray)
  (y:c.heap.get? a=U { cls:=.type "list", data:=.seq j.toArray }) (M:jM j B) (N:B.length<=aS) (hr:xi k callerA)
  (F:∀a8:Heap,K.In a8->a8.Ns bN A->zh P w K A a8 CX k I W [x] sp) (hbind:∀(s:aq) (u:aa),iM s W #v[[u],[]] [(x,u)])
  (hsp:∀H:Hp,Zu H->gi K H a (B.map V.int)->sp [.ref a] H (λv g=>v=.bl γ) λg g g=>False)
  (hCX:∀H e i,CX [] H c (λg g g=>False) e i->False):
  cO (model P w) callerA (.call (.ref I) #v[[.ref a],[]]) (λr i=>r=.ok (.ret (.bool γ))/\OldK c.heap i.heap/\i.os=c.os/\eP i.gens) c:=by
 have Q:=I0 M;have lenV:=M.length;have core:∀H:Hp,Zu H->gi K H a (B.map V.int)->tj P w H c.heap->(∀b,H b≠Z->b=a)->(H a≠Z->K.lookup a=Z)->
   cO (model P w) callerA (.call (.ref I) #v[[.ref a],[]]) (λr i=>r=.ok (.ret (.bool γ))/\OldK c.heap i.heap/\i.os=c.os/\eP i.gens) c:=by
  intro H hO hS fb hA hK;have base_of:∀{b:Addr} {o:Obj},c.heap.get? b=U o->H b=Z->(JM c.heap H).get? b=U o:=λe n=>QU e n;have noA:∀{b:Addr} {o:Obj} {p:Array DictEntry} {l:Nat},c.heap.get? b=U o->o.data=.dict p l->H b=Z:=λ{b o p l} e d=>by
   cases q:H b with
   |none=>rfl
   |some u=>have C:b=a:=hA b (by rw[q];simp);subst C;rw[y]at e;ext e;have R:Data.seq j.toArray _=Data.dict p l:=d;ext R
  have nsK:∀{b:Addr} {m:Str->Option aa},c.heap.Ns b m->(JM c.heap H).Ns b m:=λ{b m} #v[o,p,l,e,d,r]=>#v[o,p,l,base_of e (noA e d),d,r];have hKb:K.In (JM c.heap H):=λb o e=>base_of (KX b o e) (by
   cases q:H b with
   |none=>rfl
   |some u=>
    have C:b=a:=hA b (by rw[q];simp);subst C;rw[hK (by rw[q];simp)]at e;ext e)
  have hM:Mod K A (JM c.heap H):=#v[hKb,nsK hns,#v[O,nsK f,hbb],let #v[mc,Y,h2]:=hlim;#v[mc,nsK Y,h2]];have S:MY P w K A (JM c.heap H) callerA [] c H:=#v[J,hM,λb o e=>U3 e,nH (PD _ _),trivial,λb f=>au (show b∈([]:List Addr) from f) (by simp),fb,.of_eq hg];calc iC ((F _ hKb (nsK hns)).run callerA [] c H #v[[.ref a],[]] [.ref a] [.ref a] _ _ hr S (hbind c (.ref a)) (.cons J .nil) (hsp H hO hS)) λr i h=>?_;cases r with
  |error e=>show(hCX H e i h).elim
  |ok X=>
   cases X with
   |next=>show di h
   |brk=>show di h
   |cont=>show di h
   |ret u=>
    let#v[v,H',os,i?,un,hok',r',q]:=h;have q':v=.bl γ:=q;subst q';obtain rfl:u=Value.bool γ:=r';calc#v[J,OldK.of_keep λb o e=>?_,os,i?];cases q:H b with
    |none=>show un.keep b o e q (by intro z;show au (show b∈([]:List Addr) from z) (by simp)) (by simp)
    |some u=>
     rcases hO b with z|⟨ob,xs,z⟩
     .rw[q]at z;ext z
     .have z2:=un.t? b ob _ z;let#v[G,_]:=fb b _ z;let#v[T,_]:=hok' b _ z2;rw[e]at G;ext G;show T
 cases E:K.lookup a with
 |some o=>have e:=KX a o E;rw[y]at e;ext e;refine core (λg=>Z) (λg=>.inl J) (.inr #v[_,j.toArray,_,E,J,J,J,by rw[bG,lenV];show N,by exists Q]) (λb u z=>by have t:(Z:Option HO)=U u:=z;ext t) (λb z=>au J z) λz=>au J z
 |none=>
  refine core (λb=>if b=a then U (.l? { cls:=.type "list", data:=.seq j.toArray } (.ax (B.map V.int)))else Z) (λb=>?_) (.inl (.inr #v[{ cls:=.type "list", data:=.seq j.toArray },af J])) (λb u z=>?_) (λb z=>?_) λg=>E
  .by_cases f:b=a
   .show .inr #v[_,_,af f]
   .show .inl (ah f)
  .by_cases f:b=a
   .have t:=(af f).symm.t z;ext t;subst f;show#v[y,by rw[ak];show N,j,_,Q,y]
   .have t:=(ah f).symm.t z;ext t
  .by_cases f:b=a
   .show f
   .show au (ah f) z
def Vt{l:iI}{n k:Nat}{q:bb}{loose:aC}{XP:(Str->Option aa)->Heap->Prop}{YP:aQ->Heap->Prop}{d:DefRec}{K:Params->ay}{CX:aQ->CXT}{sp:aQ->Sp}{x:Str}
  (E:l.most=U n) (t:n<=aS) (hdf:d.params.defaults=[]) (I:xi k callerA)
  (hY:∀(w:aQ) (h:Heap),YP w h->(K w.params).In h)
  (F:∀(w:aQ) (i:Str->Option aa) (m:Addr) (h:Heap),(K w.params).In h->h.Ns bN i->i d.name=U (.ref m)->
   ∃r:cD,(∀(s:aq) (u:aa),iM s r #v[[u],[]] [(x,u)])/\
    ∀a8:Heap,(K w.params).In a8->a8.Ns bN i->zh l.prog w (K w.params) i a8 (CX w) k m r [x] (sp w))
  (hsp:∀(w:aQ) (H:Hp) (a:Addr) (p:List Int),p.length<=n->Zu H->gi (K w.params) H a (p.map V.int)->sp w [.ref a] H (λv _=>v=.bl γ) λ_ _ _=>False)
  (hCX:∀(w:aQ) (H:Hp) (s:aq) (e:aa) (y:aq),CX w [] H s (λ_ _ _=>False) e y->False):
  W.WalkO q loose XP YP l.row.toRowW d [] (λf A=>oo f A):=by
 calc Att.N? E hdf λw z j i O m o P M doc a A p G Y N hd hcd hmg hobj hints c C=>?_;have KX:=hY w _ Y;let#v[r,B,hF]:=F w i m _ KX G.T.g hmg;show Rx KX G.T.g G.T.b G.T.builtins G.T.nolimit C hobj hints (cg c t) I hF B (λH hO hS=>hsp w H a p c hO hS) λH e y=>hCX w H j e y
def ef(s:Stmt)(j:Nat):Stmt:=match s with
 |.ClassDef _ _ _ body _ _ _ _ _ _ _=>body.getD j (.Pass #v[0,0,0,0])
 |_=>.Pass #v[0,0,0,0]
def yU(s:Stmt):Arguments:=match s with
 |.FunctionDef _ a _ _ _ _ _ _ _ _=>a
 |_=>{ posonlyargs:=[],args:=[],vararg:=Z,kwonlyargs:=[],kw_defaults:=[],kwarg:=Z,defaults:=[] }
def wb(s:Stmt):List Stmt:=match s with
 |.FunctionDef _ _ b _ _ _ _ _ _ _=>b
 |_=>[]
def vP(s:Stmt):c7:=match s with
 |.FunctionDef _ _ _ _ _ _ a _ _ _=>a
 |_=>{ kind:=.function,names:=[],isGenerator:=δ,isCoroutine:=δ }
abbrev Dv:CXT:=λz z z z z z=>False
abbrev E0:XK:=λz z z=>False
def Eg:r? Dv X E0:=λz z z z z z z h=>h.elim
structure W?(K:ay)(x qual:Str)(st:Stmt)(f:Addr)(fd:cD):Prop where
 ex:∃(oc:aa) (od:Option Addr) (kV doc pm:aa) (an:Option Addr) (cdv ct:aa) (osl:Array (Option aa)),
  fd=fJ x qual (yU st) (wb st) (vP st) .none kV doc pm an cdv ct/\K.lookup f=U #v[oc,od,.func fd,osl]/\iH K cdv qual=γ
 kp:dS K (.ref f)=γ
section
variable{P:bb}{w:aQ}{K:ay}{mg:Str->Option aa}{a8:Heap}
theorem W?.ok{x qual:Str}{st:Stmt}{f:Addr}{c:cD}{N ps:aC}{k:Nat}{b:Sp}(F:W? K x qual st f c)(S:xm N ps (vP st))(len:∀a H Q E,b a H Q E->a.length=ps.length)
  (hbody:∀(cdv:aa) (A:bo) (b9:List Env) (s:aq) (H:Hp) (a:bA) (Q:VK) (E:XK),xi k (A.deeper (envOfC qual (vP st) (~~~s) f cdv))->b a H Q E->
   ∃t,l' (K5 Dv P w K mg a8 N qual (vP st) f cdv A b9 s H E).nox (wb st) t/\t { nx:=λz d=>Q .cx d,rt:=Q } (start N a) H):zh P w K mg a8 Dv (k+1) f c ps b:=by
 let#v[l,m,kV,doc,o,i,cdv,j,osl,rfl,lk,hcd]:=F.ex;calc X9 lk hcd S len λA b9 s H a Q E e hsp=>?_;let#v[t,h,q]:=hbody cdv A b9 s H a Q E e hsp;show#v[t,h.nox,q]
theorem W?.tX{x qual:Str}{st:Stmt}{f:Addr}{i:cD}{d:aC}(F:W? K x qual st f i)
  (h:∀(kV doc c:aa) (a:Option Addr) (cdv b:aa) (e:List aa),e.length=d.length->bindArgs (fJ x qual (yU st) (wb st) (vP st) .none kV doc c a cdv b) #v[e,[]]=pure (d.zip e)):ki K i d []:=by
 let#v[j,l,kV,doc,c,a,cdv,b,osl,rfl,lk,hcd]:=F.ex;show .all (h kV doc c a cdv b)
end
def Lg(a:xi k A):A.units+1<cLine:=jj (Nat.add_le_add_left (by decide:1<=64) _) a.units
def Bk(h:n<=1000):n<aS:=jj h #[]
section
variable{X:Cx}
def pv(i:Nat)(hN:X.N[i]?=U x:=by rfl)(a:Vis X.a9.scope x:=by first|show Or.inl J|show Or.inr (Or.inl J)|show Or.inr (Or.inr J))(hd:(x==("__debug__" : Str))=δ:=by decide)
  (hcd:(x==("__classdict__" : Str))=δ:=by decide):PE X (.Name x pos) (AC i):=Y0 hN a hd hcd
end
#print "A B δ h bB;B A γ f J" in def Iϑ0{A B:Prop}(h:ϑ1):if ϑ2=γ then A else B:=by rw[aϑ3 ϑ4];show h
def vF(H a:Hp):Prop:=∀b o,H b=U o->a b=U o
def vF.refl(H:Hp):vF H H:=λz z h=>h
def vF.t(a:vF H d)(b:vF d e):vF H e:=λc o h=>b c o (a c o h)
def vF.seq{K:ay}{H b:Hp}{a:Addr}{xs:bA}(e:vF H b)(h:gi K H a xs):gi K b a xs:=by
 rcases h with (h|⟨o,h⟩)|h
 .show .inl (.inl (e _ _ h))
 .show .inl (.inr #v[o,e _ _ h])
 .show .inr h
end L2
set_option maxHeartbeats 4000000
namespace L3
open PySem PySem.Spec PyProof.Rows L2
abbrev St:=L2.St
theorem GY{d a:Type}{f:d->a->Sem (ForInStep a)}{g:a->d->a}:∀(l:List d) (b:a),(∀x∈l,∀c,f x c=pure (ForInStep.yield (g c x)))->(forIn l b f:Sem a)=pure (l.foldl g b)
 |[],b,_=>by simp
 |x::r,b,h=>by rw[List.forIn_cons,h x aP b];change (forIn r (g b x) f:Sem a)=_;rw[GY r (g b x) λy e c=>h y (ba _ e) c];rfl
def Cg(cells:List (Str×Addr))(cs:List (Str×Addr))(x:Str×eO):List (Str×Addr):=if (x.2==NameKind.free)=γ then (x.1,(cells.lookup x.1).getD 0)::cs else cs
def Am(cells:List (Str×Addr))(names:List (Str×eO)):List (Str×Addr):=names.foldl (Cg cells) []
def IC{scope:c7}{a9:Env}(h:∀x∈scope.names,x.2=.free->∃c,a9.cells.lookup x.1=U c):
  closureFor scope a9=pure (Am a9.cells scope.names):=by
 erw[closureFor];rw[GY (g:=Cg a9.cells) scope.names [] λx i c=>by
  let#v[n,k]:=x;by_cases b:k=.free
  .subst b;let#v[a,e]:=h _ i J;have d:=e;erw[Cg,cellOf,d,beq_self_eq_true,if_true,mP];rfl
  .have f:(k==NameKind.free)=δ:=by exists b
   erw[Cg,f,ic,if_false]]
 rfl
#print h
theorem Lh{cells:List (Str×Addr)}:∀(names:List (Str×eO)) (acc:List (Str×Addr)),(∀x∈names,x.2=.free->∃c,cells.lookup x.1=U c)->(∀x c,acc.lookup x=U c->cells.lookup x=U c)->
  ∀x c,(names.foldl (Cg cells) acc).lookup x=U c->cells.lookup x=U c
 |[],acc,_,j,x,c,e=>j x c e
 |y::r,acc,h,j,x,c,e=>by
  calc Lh r (Cg cells acc y) (λz p=>h z (ba _ p)) (λz d b=>?_) x c e;let#v[n,k]:=y;delta Cg at b;split at b
  .rename_i o;let#v[a,m]:=h (n,k) aP (by exists o);have f:=m;rw[fR]at b;cases l:z==n with
   |true=>rw[l]at b;have i:=b;rw[f]at i;rw[gV l,f];show i
   |false=>rw[l]at b;show j z d b
  .show j z d b
#print f
theorem Ja:∀(names:List (Str×eO)) (acc:List (Str×Addr)) (x:Str),(∃c,acc.lookup x=U c)->∃c,(names.foldl (Cg cells) acc).lookup x=U c
 |[],_,_,h=>h
 |y::r,acc,x,h=>by
  calc Ja r (Cg cells acc y) x ?_;delta Cg;split
  .rw[fR];cases x==y.1 with
   |true=>show#v[_,J]
   |false=>show h
  .show h
theorem GZ:∀(names:List (Str×eO)) (acc:List (Str×Addr)) (x:Str),(x,NameKind.free)∈names->∃c,(names.foldl (Cg cells) acc).lookup x=U c
 |[],_,_,h=>by cases h
 |y::r,acc,x,h=>by
  rcases aD.1 h with e|h
  .subst e;calc Ja r _ x ?_;delta Cg;rw[af (by simp),fR];simp
  .show GZ r _ x h
#print h
theorem BE{a9:Env}(x:Str):∀(names:List (Str×eO)),
  (names.map λ(n,k)=>if (k==NameKind.free&&a9.scope.kind==.function&&a9.kindOf n==U .cell)then (n,NameKind.cell)else (n,k)).lookup x=
   (names.lookup x).map λk=>if (k==NameKind.free&&a9.scope.kind==.function&&a9.kindOf x==U .cell)=γ then NameKind.cell else k
 |[]=>rfl
 |(n,k)::r=>by
  have c:=BE (a9:=a9) x r;rw[aA,fR (k:=n)];change dQ x ((if (k==NameKind.free&&a9.scope.kind==.function&&a9.kindOf n==U .cell)=γ then (n,NameKind.cell)else (n,k))::_)=_;cases a:x==n with
  |true=>
   have e:=gV a;subst e;split
   .rename_i b;erw[fR,a,gB,b,if_true]
   .rename_i b;erw[fR,a,gB];rw[ah b]
  |false=>
   rw[<-c];split
   .erw[fR,a]
   .erw[fR,a]
#print f
def M4{scope:c7}(hcell:∀y∈scope.names,y.2≠.cell)(h:(relabel scope a9).names.lookup x=U .cell\/(relabel scope a9).names.lookup x=U .free):(x,NameKind.free)∈scope.names:=by
 have e:=BE (a9:=a9) x scope.names;have a:(scope.names.lookup x).map (λk=>if (k==NameKind.free&&a9.scope.kind==.function&&a9.kindOf x==U .cell)=γ then NameKind.cell else k)=U .cell\/
   (scope.names.lookup x).map (λk=>if (k==NameKind.free&&a9.scope.kind==.function&&a9.kindOf x==U .cell)=γ then NameKind.cell else k)=U .free:=by
  rw[<-e];show h
 cases q:scope.names.lookup x with
 |none=>rw[q]at a;rcases a with z|z<;>cases z
 |some k=>
  rw[q]at a;have b:=mem_of_lookup q;have c:=hcell _ b;cases k with
  |free=>show b
  |cell=>show au J c
  |_=>rcases a with z|z<;>ext z
def ID{scope:c7}(h:scope.names.lookup x=U .free):(relabel scope a9).names.lookup x=U .cell\/(relabel scope a9).names.lookup x=U .free:=by
 have e:=BE (a9:=a9) x scope.names;have a:(relabel scope a9).names.lookup x=(scope.names.lookup x).map λk=>if (k==NameKind.free&&a9.scope.kind==.function&&a9.kindOf x==U .cell)=γ then NameKind.cell else k:=e
 rw[a,h,gB];split
 .show .inl J
 .show .inr J
def xj(X:Cx)(a:aC)(scope:c7)(cl:List (Str×Addr))(C:Addr)(fp:List Addr)(s:aq)(H:Hp):Cx:=
 { X with N:=a,s₀:=s,H₀:=H,a9:=compEnvC scope cl C X.a9,b9:=X.stack,ex:=fp,fn:=λz=>δ,pn:=[],xe:=λz z=>False }
def PIf(X:Cx)(ifs:List Expr)(t:TT):Prop:=
 ∀(a:dF) (s:aq) (b:St) (H:Hp) (Q:Bool->Hp->Prop),b? X a b H s->t b H Q->
  ar (model X.prog X.w) X.A (forIn ifs γ λc r=>if r=γ then do let ok<-isTrue c X.a9 (eval c X.a9);pure (ForInStep.yield ok)else pure (ForInStep.yield r)) (TP X a b Q) X.xe s
def tIf0:TT:=λz H Q=>Q γ H
def Vu:PIf X [] tIf0:=λz z z H z I h=>wpAny_tests_nil #v[H,I,h]
def Vv(h:PT X c t):PIf X [c] t:=λa s d H Q I b=>wpAny_tests_one (h a s d H Q I b)
section
def JZ(A_:Nat->aq->Prop)
  (turn:∀n s,A_ n s->ar (model prog w) A (pyNext B) (λr d=>match r with
   |none=>R (.ok .next) d
   |some v=>ar (model prog w) A (ju target B v) (λk f=>ar (model prog w) A (assign target a9 v) (λk o=>
     ar (model prog w) A (forIn ifs γ λc r=>if r=γ then do let ok<-isTrue c a9 (eval c a9);pure (ForInStep.yield ok)else pure (ForInStep.yield r)) (λok i=>
      if ok=γ then ar (model prog w) A (eval elt a9) (λx p=>
       ar (model prog w) A (call (.builtin "list.append") [acc,x]) (λk q=>∃m,m<n/\A_ m q) (notedBy (model prog w) A a9 λe b=>R (.error e) b) p) (notedBy (model prog w) A a9 λe b=>R (.error e) b) i
      else ∃m,m<n/\A_ m i) (notedBy (model prog w) A a9 λe b=>R (.error e) b) o) (notedBy (model prog w) A a9 λe b=>R (.error e) b) f)
      (notedBy (model prog w) A a9 λe b=>R (.error e) b) d) (notedBy (model prog w) A a9 λe b=>R (.error e) b) s)
  (n:Nat) (h:A_ n s):
  cO (model prog w) A (.compLoop (.ListComp elt [#v[target,iter,ifs,0]] scope pos) 0 B acc a9) R s:=by
 calc codeAny_loop J A_ (λn s hI=>?_) n h;calc wpAny_noted ?_;rw[compTurn_list];calc aj (rP (aj (cB (turn n s hI) (λr d j=>?_) λk k a=>a)));cases r with
 |none=>show aw j
 |some v=>
  calc aj (cB j (λk f t=>?_) λk k a=>a);calc aj (cB t (λk o u=>aj (cB u (λok i l=>?_) λk k a=>a)) λk k a=>a);cases ok with
  |false=>show aw #v[J,l]
  |true=>show aj (aj (cB l (λx p y=>aj (cB y (λk q z=>aw (aw #v[J,z])) λk k a=>a)) λk k a=>a))
end
def yV(k:Nat)(eh:List Nat)(a:St):St:=gK k Z++eh.map λj=>(a[j]?).join
def Jb(h:(yV k eh b)[i]?=U (U v)):k<=i:=by
 by_cases a:k<=i
 .show a
 .delta yV at h;rw[dG (by rw[cW];omega),jc]at h;split at h<;>ext h
def P6{k:Nat}{eh:List Nat}{b:St}{N a:aC}{i:Nat}{v:V}{x:Str}(hcap:(a.drop k).map U=eh.map λj=>N[j]?)(f:a[i]?=U x)(h:(yV k eh b)[i]?=U (U v)):
  ∃j:Nat,N[j]?=U x/\b[j]?=U (U v)/\x∈a.drop k:=by
 have d:=Jb h;delta yV at h;rw[eA (by rw[cW];show d),cW,br]at h;have hd:(a.drop k)[i - k]?=U x:=by rw[fj,show k+(i - k)=i by omega];show f
 have e:=aX (λl=>l[i - k]?) hcap;erw[br,hd,gB]at e;cases q:eh[i - k]? with
 |none=>rw[q]at h;cases h
 |some j=>
  rw[q]at h e;erw[gB,vb]at h e;calc#v[j,e.symm,?_,cb hd];cases z:b[j]? with
  |none=>rw[z]at h;cases h
  |some o=>rw[z]at h;have c:o=U v:=h;rw[c]
def G0(t:TI)(g:TG)(r:TT)(q:TE)(k:Nat)(eh:List Nat):TE:=λe H Q=>t e H λA_ f=>∀p,f p=Z->
 ∃W:Nat->Nat->bA->Hp->Prop,(∃m,W 0 m [] (el f p (.ax [])))/\∀i m acc c,W i m acc c->
  (A_.stop i c/\Q (.ref p) c)\/
   (A_.go i c/\∀x h,A_.yld i c x h->g x (yV k eh e) h λa o=>a.drop k=(yV k eh e).drop k/\r a o λb j=>
    if b=γ then q a j λy l=>∃acc',l p=U (.ax acc')/\acc'.length<aS/\∃d,d<m/\W (i+1) d (acc'++[y]) (el l p (.ax (acc'++[y])))
    else ∃d,d<m/\W (i+1) d acc j)
def Jc{X:Cx}{eh:List Nat}
  (hc:X.k?=γ) (hi:PI X tg iter wi)
  (body:∀(cl:List (Str×Addr)) (C:Addr) (fp:List Addr) (s:aq) (H:Hp),PG (xj X E scope cl C fp s H) tg g/\PIf (xj X E scope cl C fp s H) ifs tt/\PE (xj X E scope cl C fp s H) elt te)
  (hkind:scope.kind=.function) (hcell:(scope.names.all λy=>y.2 != .cell)=γ)
  (hloc:(scope.names.all λy=>y.2 != .local||scope.names.lookup y.1==U .local)=γ)
  (hfree:(scope.names.all λy=>y.2 != .free||(X.a9.kindOf y.1==U .cell||X.a9.kindOf y.1==U .free))=γ)
  (hlen:E.length=k+eh.length) (hcap:(E.drop k).map U=eh.map λj=>X.N[j]?)
  (hcf:((E.drop k).all λx=>scope.names.lookup x==U .free)=γ)
  (hs:∀x,jk iter X.a9 x=pure x)
  (I:b? X pins σ H s) (h:G0 wi g tt te k eh σ H Q)
  (fin:∀a C m u s4 H3,s4.heap.Ns C m->b? X pins σ H3 s4->Iv X pins H3 C->Q (.ref a) H3->compPost (model X.prog X.w) X.A X.xe use P (.ref a) C (.ok u) s4):
  ar (model X.prog X.w) X.A (comprehension (.ListComp elt [#v[tg,iter,ifs,0]] scope pos) scope X.a9 (firstIterPos [#v[tg,iter,ifs,0]] pos) (newList []) δ (eval iter X.a9) use) P X.xe s:=by
 have hcell':∀y∈scope.names,y.2≠.cell:=λy O e=>by have z:=bF.1 hcell y O;rw[e]at z;show au z #[]
 have hloc':∀y∈scope.names,y.2=.local->scope.names.lookup y.1=U .local:=λy O e=>by have z:=bF.1 hloc y O;rw[e]at z;exists z
 have hfree':∀y∈scope.names,y.2=.free->X.a9.kindOf y.1=U .cell\/X.a9.kindOf y.1=U .free:=λy O e=>by have z:=bF.1 hfree y O;rw[e]at z;exists z
 have hcl:=λy O e=>I.ok.has y.1 (hfree' y O e);calc wpAny_comprehension_free J hs (IC hcl) hkind hloc' (ff (hi pins s σ H _ I h) λxv s₁ F=>ff F λit l h₂=>?_);let#v[ita,fp,tn,A_,H2,e,I2,T,st2,M,R2]:=h₂;subst e;let#v[W,#v[m0,w0],turn]:=R2 (~~~l) (I2.fb.fresh (aF _));calc gu (wpAny_newFunctionEnv hcell' (by intro y O;simp at O) (λF hns₁ hsb₁=>?_) hkind);dsimp only at hns₁ hsb₁ ⊢;generalize hp:l.heap.push { cls:=.type "list", dict:=Z,data:=.seq ([]:List aa).toArray }=hpL at hns₁ hsb₁ ⊢;have hsz:hpL.objs.size= ~~~l+1:=by rw[<-hp,cY]
 have B:b? X pins σ (el H2 (~~~l) (.ax [])) { l with heap:=hpL }:=by rw[<-hp];show I2.laid (λb u e=>aJ _ e) (aF _) #v[bM _,[],0,.nil,bq _ J]
 have old:=λb o e=>hsb₁.extBut b o (aW (aM e)) (aJ _ e);have older:∀b o,l.heap.get? b=U o->hpL.get? b=U o:=λb o e=>by rw[<-hp];show aJ _ e
 have hfpS:=λb t=>let #v[o,e,_]:=T.obj _ _ st2 b t;aM e;have sub:=Lh scope.names [] hcl (λx c e=>by ext e);have R:(xj X E scope (Am X.a9.cells scope.names) hpL.objs.size fp { l with heap:=hpL } (el H2 (~~~l) (.ax []))).Ok:={
  B?:=B.ok.B?
  kind:=hkind
  E?:=B.ok.E?
  blt:=B.ok.blt
  above:=aF _
  inj:=λx y c h1 h2=>B.ok.inj x y c (sub x c h1) (sub y c h2)
  has:=λx G=>GZ scope.names [] x (M4 hcell' G)
  cab:=λx c hf _=>au (show δ=γ from hf) bB
  hd:=B.ok.hd
  frames:=B.ok.frames
  stk:=.inl J
  exf:=λb t=>#v[(by
   rw[hsz];show aW (cX (hfpS b t))),λx c e=>(M b t).2.2.2.2.1 x c (sub x c e)]
  bs:=B.bs
  bsz:=cg B.ok.bsz B.sz
  ν:=λb o e t=>by
   rcases(M b t).2.2.2.1 with z|z
   .show B.ok.ν b o e z
   .show au (cF (aM e) (cg B.ok.bsz z)) (eF _)
  ε:=λb t z=>(aD.1 (B.T3 b z)).elim (M b t).2.1 (M b t).2.2.1
  u?:=B.stack
  frf:=B.X? }
 have IX:b? (xj X E scope (Am X.a9.cells scope.names) hpL.objs.size fp { l with heap:=hpL } (el H2 (~~~l) (.ax []))) [] (yV k eh σ) (el H2 (~~~l) (.ax []))
   { l with heap:=F,toks:=l.toks+([]:List (Str×aa)).length }:={
  ok:=R
  os:=rfl
  i?:=B.i?
  a8:=Un.f? old
  G':=#v[_,hns₁,λi x v e1 e2 _=>by
   let#v[j,hj,hσ,hm]:=P6 hcap e1 e2;have G:=by exists bF.1 hcf x hm
   have hk:=hfree' (x,.free) (mem_of_lookup G) J;let#v[m,hn,hl]:=B.G';let#v[u,r,lk]:=hl j x v hj hσ (hk.elim (λz=>.inr (.inl z)) λz=>.inr (.inr z));calc#v[u,r,.inr #v[ID G,?_]];rcases lk with ⟨z,_⟩|⟨_,c,e,o,ho,hd⟩
   .rcases hk with y|y
    .rw[y]at z;ext z
    .rw[y]at z;ext z
   .let#v[c',e']:=GZ scope.names [] x (mem_of_lookup G);have ec:=sub x c' e';rw[e]at ec;have ec':=cM ec;subst ec';show#v[c,e',o,old _ _ ho,hd]]
  cell:=λx c e=>by let#v[v,o,ho,hd]:=B.cell x c (sub x c e);show#v[v,o,old _ _ ho,hd]
  free:=B.fb.fresh (aF _)
  j?:=λx c e=>B.j? x c (sub x c e)
  C':=λp hp=>au (show p∈([]:dF) from hp) (by simp)
  fb:=B.fb.f? old
  len:=by
   change (yV k eh σ).length=E.length;rw[hlen];delta yV;rw[aG,cW,ak] }
 have stat:∀{H':Hp},(∀b∈fp,H' b=Z)->∀b∈fp,Iv (xj X E scope (Am X.a9.cells scope.names) hpL.objs.size fp { l with heap:=hpL } (el H2 (~~~l) (.ax []))) [] H' b:=λhn b t=>#v[hn b t,(R.exf b t).1,R.ε b t,.inl t,(R.exf b t).2,λp hp=>au (show p∈([]:dF) from hp) (by simp)]
 have st4:=T.keep _ _ _ st2 λb _ o e=>old b o (older b o e);have loop:cO (model X.prog X.w) X.A (.compLoop (.ListComp elt [#v[tg,iter,ifs,0]] scope pos) 0 (.ref ita) (.ref (~~~l)) (compEnvC scope (Am X.a9.cells scope.names) hpL.objs.size X.a9))
   (compPost (model X.prog X.w) X.A X.xe use P (.ref (~~~l)) hpL.objs.size) { l with heap:=F,toks:=l.toks+([]:List (Str×aa)).length }:=by
  refine JZ (λn s'=>∃i acc H',b? (xj X E scope (Am X.a9.cells scope.names) hpL.objs.size fp { l with heap:=hpL } (el H2 (~~~l) (.ax []))) [] (yV k eh σ) H' s'/\tn i s'.heap/\(∀b∈fp,H' b=Z)/\W i n acc H')
   ?_ m0 #v[0,[],_,IX,st4,λb t=>?_,w0]
  .rintro n s3 ⟨i,acc,H3,I4,st3,fr3,w3⟩;rcases turn i n acc H3 w3 with ⟨stop,qn⟩|⟨go,step⟩
   .calc ff (T.done (xj X E scope (Am X.a9.cells scope.names) hpL.objs.size fp { l with heap:=hpL } (el H2 (~~~l) (.ax []))) J J J hc i [] s3 _ H3 _ I4 (stat fr3) st3 stop) λr s4 zz=>?_;let#v[hr,Y]:=zz;subst hr;let#v[m,hn,_]:=id Y.G';have AT:=Y.a8;refine fin _ _ m _ _ _ hn (B.call' Y.os #v[λb o e n t G=>AT.keep b o e n t G,λb o e n t G=>AT.slot b o e n t G,AT.free,λb o e G=>AT.there b o e G,AT.oz,AT.t?,AT.xo] Y.fb Y.i?
     λb t=>#v[(M b t).2.2.2.1,(M b t).2.1,(M b t).2.2.2.2.1,(M b t).2.2.2.2.2]) (B.L? (aF _) Y.free) qn
   .calc ff (T.item (xj X E scope (Am X.a9.cells scope.names) hpL.objs.size fp { l with heap:=hpL } (el H2 (~~~l) (.ax []))) J J J hc i [] s3 _ H3 _ I4 (stat fr3) st3 go) λr s4 zz=>?_;let#v[u,hr,h4]:=zz;subst hr;calc ff h4 λ_ s5 zz=>?_;let#v[x,H5,Y,r5,y5,st5,fr5]:=zz;have I5':=Y.P2 (stat fr5) (T.obj _ _ st5);have again:∀{H8:Hp} {s8:aq} {S:St} {acc8:bA} {m':Nat},b? (xj X E scope (Am X.a9.cells scope.names) hpL.objs.size fp { l with heap:=hpL } (el H2 (~~~l) (.ax []))) ([]++GN fp s5.heap) S H8 s8->S.drop k=(yV k eh σ).drop k->m'<n->W (i+1) m' acc8 H8->
      ∃m,m<n/\∃i acc H',b? (xj X E scope (Am X.a9.cells scope.names) hpL.objs.size fp { l with heap:=hpL } (el H2 (~~~l) (.ax []))) [] (yV k eh σ) H' s8/\tn i s8.heap/\(∀b∈fp,H' b=Z)/\W i m acc H':=λ{H8 s8 S acc8 m'} I8 hd8 hm8 w8=>by
     refine#v[m',hm8,i+1,acc8,H8,I8.ov.c3 (IX.len.t I8.len.symm) (λj v e=>?_),T.keep _ _ _ st5 λb t o e=>(I8.C' (b,o) (bU _ (bU _ (Aj t e)))).1,λb t=>?_,w8]
     .have hj:=Jb e;have q:(S.drop k)[j - k]?=((yV k eh σ).drop k)[j - k]?:=by rw[hd8]
      rw[fj,fj,show k+(j - k)=j by omega]at q;rw[q];show e
     .let#v[o,e,d]:=T.obj _ _ st5 b t;show(I8.C' (b,o) (bU _ (bU _ (Aj t e)))).2.1
    calc cB ((body _ _ _ _ _).1 _ s5 _ H5 x u _ I5' r5 (step x H5 y5)) (λ_ s6 h6=>?_) λ_ _ f=>f.elim;let#v[σ6,H6,I6,hd6,q6]:=h6;calc cB ((body _ _ _ _ _).2.1 _ s6 σ6 H6 _ I6 q6) (λb s7 h7=>?_) λ_ _ f=>f.elim;let#v[H7,I7,q7]:=h7;cases b with
    |false=>rw[ah bB]at q7;rw[ah bB];let#v[m',hm',w7]:=q7;show again I7 hd6 hm' w7
    |true=>rw[af J]at q7;rw[af J];calc cB ((body _ _ _ _ _).2.2 _ s7 σ6 H7 _ I7 q7) (λyv s8 h8=>?_) λ_ _ f=>f.elim;let#v[y,H8,I8,r8,acc',hp8,hl8,m',hm',w8]:=h8;calc cB (E2 (X:=xj X E scope (Am X.a9.cells scope.names) hpL.objs.size fp { l with heap:=hpL } (el H2 (~~~l) (.ax []))) _ s8 σ6 H8 (.ref (~~~l)) [y] (.ref (~~~l)) [yv] (λ_ Hx=>Hx=el H8 (~~~l) (.ax (acc'++[y]))) I8 J (.cons r8 .nil) #v[_,acc',y,J,J,hp8,hl8,J]) (λ_ s9 h9=>?_) λ_ _ f=>f.elim;let#v[_,H9,I9,_,e9]:=h9;subst e9;show again I9 hd6 hm' w8
  .have z:=aW (hfpS b t);rw[vC z];show(M b t).1
 show codeAny_compStart_list loop (T.self _ 0 _ _ _ st4 loop)
def Vw{X:Cx}{eh:List Nat}
  (w:X.k?=γ) (z:PI X q iter M)
  (body:∀(f:List (Str×Addr)) (C:Addr) (i:List Addr) (s:aq) (H:Hp),PG (xj X c scope f C i s H) q g/\PIf (xj X c scope f C i s H) ifs G/\PE (xj X c scope f C i s H) elt F)
  (hkind:scope.kind=.function:=by rfl) (hcell:(scope.names.all λy=>y.2 != .cell)=γ:=by rfl)
  (hloc:(scope.names.all λy=>y.2 != .local||scope.names.lookup y.1==U .local)=γ:=by rfl)
  (hfree:(scope.names.all λy=>y.2 != .free||(X.a9.kindOf y.1==U .cell||X.a9.kindOf y.1==U .free))=γ:=by rfl)
  (d:c.length=k+eh.length:=by rfl) (hcap:(c.drop k).map U=eh.map λj=>X.N[j]?:=by rfl)
  (hcf:((c.drop k).all λx=>scope.names.lookup x==U .free)=γ:=by rfl)
  (B:∀x,jk iter X.a9 x=pure x:=by intro _;rfl):
  PE X (.ListComp elt [#v[q,iter,ifs,0]] scope pos) (G0 M g G F k eh):=by
 intro p s R H Q I h;show Jc w z body hkind hcell hloc hfree d hcap hcf B I h λa C m u P r A nr fpC E=>#v[m,A,λO l=>#v[.ref a,r,nr.jl (λb o t e=>(l.2 b t).t e) fpC.1 fpC.2.1 fpC.2.2.2.1 fpC.2.2.2.2.1 fpC.2.2.2.2.2,J,E]]
def Its(x:Str):It:=#v[λi z=>i<x.cps.size,λi H v a=>a=H/\∃c,x.cps[i]?=U c/\v=.str #v[#[c]],λi z=>i=x.cps.size]
def Zv(hQ:Q Unit.unit s):ar M A (ju a (.ref b) (.str c t)) Q E s:=by ext a<;>show aw hQ
def Li{K:ay}(it:Addr)(ty:String)(x:Str)(t:Tok)
  (hW:∀A:bo,A.handled=Z->Walks P w A it [it] [it] x.cps.size (SignAt x) (λi h=>h.IsStrIter it ty x t i))
  (hS:∀(A:bo) (i:Nat) (s:aq) (Q:aa->aq->Prop) (E:aa->aq->Prop),s.heap.IsStrIter it ty x t i->Q (.ref it) s->ar (model P w) A (pyIter (.ref it)) Q E s):
  Mn P w K tg (Its x) [it] it (λi h=>h.IsStrIter it ty x t i) where
 mem:=by simp
 obj:=λi h st b a=>by
  have e:=by exists a
  subst e;let#v[o,e,c,d]:=st;show#v[o,e,λv z=>by rw[d]at z;ext z]
 keep:=λi h h' st k=>by let#v[o,e,r]:=st;show#v[o,k it (by simp) o e,r]
 item:=by intro X hP F hK u i pins s σ H E I f st B;subst hP F hK;let#v[j,l,O,m,p,q]:=f it (by simp);calc(hW _ (I.ok.hd u)).item i s _ _ B st λv h' tk hv M G=>?_;let#v[c,R,y,rfl]:=hv;have N:b? X pins σ H { s with heap:=h',toks:=tk }:=I.jl (λb o a e=>G b o (by exists a) e) j l m p q;show#v[_,J,Zv #v[.str #v[#[c]],H,N,#v[R,J],#v[J,c,y,J],M,λb a=>(f b a).1]]
 done:=by intro X hP F hK u i pins s σ H E I f st B;subst hP F hK;let#v[j,l,O,m,p,q]:=f it (by simp);have C:=B;subst C;show(hW _ (I.ok.hd u)).done s _ _ st λh' tk G=>#v[J,I.jl (λb o a e=>G b o (by exists a) e) j l m p q]
 self:=hS
section
def iStr(b:TE):TI:=λc H R=>b c H λv a=>∃x,v=.str x/\R (Its x) a
def Zw(r:PE X l y):PI X C l (iStr y):=by
 intro a s B H R I h;calc ff (r a s B H _ I h) λv c zz=>?_;let#v[x,f,d,w,u]:=zz;let#v[z,e,q]:=u;subst e;let#v[t,rfl]:=w;have j:∀b∈[~~~c],Iv X a f b:=λb p=>by
  have e:=by exists p
  subst e;show d.L? (aF _) (d.fb.fresh (aF _))
 cases m:z.cps.all (· < 128)
 .refine wpAny_pyIter_wide m #v[~~~c,[~~~c],_,_,f,J,d.f? λb o e=>aJ _ e,Li _ "str_iterator" z t (λA hA=>Walks.strWide hA _ z t) (λA i s Q E st hQ=>wpAny_pyIter_striter_wide st hQ),#v[_,bq _ J,J,J],j,q]
 .calc wpAny_pyIter_ascii m #v[~~~c,[~~~c],_,_,f,J,d.f? λb o e=>aJ _ e,Li _ "str_ascii_iterator" z t (λA hA=>Walks.strAscii hA _ z t) (λA i s Q E st hQ=>wpAny_pyIter_striter_ascii st hQ),#v[_,bq _ J,J,J],j,q]
end
section
def P7:js X (bz .LtE) (λx y H Q=>∃i j,x=.str i/\y=.str j/\Q (.bl (!decide (j.cps.toList<i.cps.toList))) H):=by intro a s e H x y v u Q I b c h;let#v[i,j,rfl,rfl,q]:=h;let#v[t,rfl]:=b;let#v[d,rfl]:=c;show PySem.P.le_str (wa I q J)
def RA(y:X.k?=γ):xA X (.builtin "all") (λx H Q=>∃(p:Addr) (bs:List Bool),x=[.ref p]/\gi X.K H p (bs.map V.bl)/\Q (.bl (bs.all id)) H):=by
 intro t s S H x R Q I r h;let#v[p,bs,rfl,E,q]:=h;let#v[u,rfl,l]:=mq r;ext l;let#v[j,w,pl,O]:=I.list E;have hlt:p< ~~~s:=by let#v[o,C,_]:=pl.isList;show aM C
 have B:=by have:=w.length;rw[ak]at this;show this
 refine call_all_walk (ie pl.isList #v[~~~s,_,_,_,_,_,λi=>(bs[i]?).getD γ,J,jJ (show X.A.in1.handled=Z from I.ok.hd y) _ p (aW hlt) j.toArray,#v[#v[_,bq _ J,J,J],?_],?_,λN tk z=>?_])
 .show pl.isList.at λo e=>aJ _ e
 .intro i v P M G F hQ';have c:=by exists F
  have a:=(bT.1 c).1;have d:(bs.map V.bl)[i]?=U (.bl (bs[i]'())):=by simp[show i<bs.length by omega]
  let#v[u,m,l]:=w.get d;rw[c]at m;ext m;ext l;calc dM ?_;have e:(bs[i]?).getD γ=bs[i]'():=by simp[show i<bs.length by omega]
  rw[<-e];show hQ'
 .refine#v[.bl (bs.all id),H,?_,?_,q]
  .show I.f? λb o e=>z b o (by simp;show aW (aM e)) (aJ _ e)
  .change Value.bool _=Value.bool _;congr 1;rw[bG,<- B];rw[dO];erw[bF,bR,id];constructor
   .intro f b d;let#v[i,a,rfl]:=eC.1 d;have:=f i a;simpa [a]using this
   .intro f i a;erw[aH a,mP];show f _ (cI a)
end
inductive Dq where
 |cx|bl (b:Bool)|int (i:Int)|str (x:Str)|bx (ds:List Dq)|ax (ds:List Dq)
mutual
def df(K:ay)(H:Hp):Dq->V->Prop
 |.cx,v=>v=.cx
 |.bl b,v=>v=.bl b
 |.int i,v=>v=.int i
 |.str x,v=>v=.str x
 |.bx d,v=>∃a c,v=.ref a/\fl K H a c/\bc K H d c
 |.ax d,v=>∃a c,v=.ref a/\gi K H a c/\bc K H d c
def bc(K:ay)(H:Hp):List Dq->bA->Prop
 |[],a=>a=[]
 |d::b,a=>∃v r,a=v::r/\df K H d v/\bc K H b r
end
mutual
def nf:Dq->Dq->Bool
 |.cx,.cx=>γ
 |.bl a,.bl b=>a==b
 |.bl a,.int b=>(if a then 1 else 0)==b
 |.int a,.bl b=>a==(if b then 1 else 0)
 |.int a,.int b=>a==b
 |.str a,.str b=>a==b
 |.bx a,.bx b=>A0 a b
 |.ax a,.ax b=>A0 a b
 |_,_=>δ
def A0:List Dq->List Dq->Bool
 |[],[]=>γ
 |a::r,b::q=>nf a b&&A0 r q
 |_,_=>δ
end
mutual
def gw:Dq->Nat
 |.bx a=>wY a+1
 |.ax a=>wY a+1
 |_=>0
def wY:List Dq->Nat
 |[]=>0
 |d::r=>max (gw d) (wY r)
end
mutual
theorem Ct:∀d:Dq,nf d d=γ
 |.cx=>rfl
 |.bl b=>beq_self_eq_true b
 |.int i=>beq_self_eq_true i
 |.str x=>beq_self_eq_true x
 |.bx a=>E3 a
 |.ax a=>E3 a
theorem E3:∀a:List Dq,A0 a a=γ
 |[]=>rfl
 |d::r=>by change (nf d d&&A0 r r)=γ;rw[Ct d,E3 r];rfl
end
theorem vE{K:ay}:∀{b:List Dq} {a:bA},bc K H b a->b.length=a.length
 |[],a,h=>by subst h;rfl
 |d::b,a,h=>by let#v[v,r,rfl,_,c]:=h;rw[aK,aK,vE c]
def eAt(d c:List Dq)(j:Nat):Bool:=match d[j]?,c[j]? with
 |some a,U b=>nf a b
 |_,_=>γ
theorem G1:∀(d c:List Dq),A0 d c=γ ↔ d.length=c.length/\∀j,j<d.length->eAt d c j=γ
 |[],[]=>by change γ=γ ↔ _;simp
 |[],b::q=>by change δ=γ ↔ _;simp
 |a::r,[]=>by change δ=γ ↔ _;simp
 |a::r,b::q=>by
  have l:=G1 r q;change (nf a b&&A0 r q)=γ ↔ _;rw[bt,l,aK,aK];constructor
  .rintro⟨f,e,h⟩;calc#v[by omega,λj i=>?_];cases j with
   |zero=>show f
   |succ j=>show h j ()
  .rintro⟨f,e⟩;show#v[e 0 (),by omega,λj i=>e (j+1) ()]
def BF{b a:List Dq}(l:b.length=n)(i:a.length=m):((bh (min n m)).all (eAt b a)&&n==m)=A0 b a:=by
 rw[dO,G1,bt,bF];subst l i;constructor
 .rintro⟨d,f⟩;have e:=by exists f
  show#v[e,λj c=>d j (bR.2 ())]
 .rintro⟨e,h⟩;show#v[λj c=>h j (by have:=bR.1 c;omega),by exists e]
def Cu{b a:List Dq}(d:b.length=n)(c:a.length=n):(bh n).all (eAt b a)=A0 b a:=by rw[<-BF d c];simp
def G3{b a:List Dq}(h:b.length≠a.length):A0 b a=δ:=by
 cases e:A0 b a with
 |false=>rfl
 |true=>show au ((G1 b a).1 e).1 h
section
def Yh(I:b? X c l H s)(h:gi X.K H a i)(d:fl X.K H a j):False:=by let#v[e,_,p,_]:=I.list h;let#v[b,_,f,_]:=I.tuple d;show SeqAt.ne_of_list_tuple p.isList (show s.heap.IsTuple a b.toArray from f) J
mutual
theorem G4(I:b? X w x H s):∀(d i:Dq) (v:V),df X.K H d v->df X.K H i v->nf d i=γ
 |.cx,i,v,h,c=>by subst h;ext i<;>first|rfl|(show nomatch c)|(let#v[_,_,e,_]:=c;show nomatch e)
 |.bl b,i,v,h,c=>by subst h;ext i<;>first|(let#v[_,_,e,_]:=c;ext e)|(ext c<;>show Ct _)
 |.int b,i,v,h,c=>by subst h;ext i<;>first|(let#v[_,_,e,_]:=c;ext e)|(ext c<;>show Ct _)
 |.str b,i,v,h,c=>by subst h;ext i<;>first|(let#v[_,_,e,_]:=c;ext e)|(ext c<;>show Ct _)
 |.bx q,i,v,h,c=>by
  let#v[a,u,rfl,o,t]:=h;cases i with
  |bx j=>let#v[p,m,e,f,l]:=c;ext e;have r:=I.Hj o f;subst r;show E4 I q j u t l
  |ax j=>let#v[p,m,e,f,l]:=c;ext e;show(Yh I f o).elim
  |_=>show nomatch (show _=_ from c)
 |.ax q,i,v,h,c=>by
  let#v[a,u,rfl,o,t]:=h;cases i with
  |ax j=>let#v[p,m,e,f,l]:=c;ext e;have r:=I.N' o f;subst r;show E4 I q j u t l
  |bx j=>let#v[p,m,e,f,l]:=c;ext e;show(Yh I o f).elim
  |_=>show nomatch (show _=_ from c)
theorem E4(I:b? X m w H s):∀(b a:List Dq) (f:bA),bc X.K H b f->bc X.K H a f->A0 b a=γ
 |[],a,f,h,c=>by
  subst h;cases a with
  |nil=>rfl
  |cons d r=>let#v[_,_,e,_]:=c;show nomatch e
 |d::b,a,f,h,c=>by
  let#v[v,r,rfl,p,t]:=h;cases a with
  |nil=>show nomatch (show _=_ from c)
  |cons l o=>let#v[u,q,e,i,j]:=c;ext e;change (nf d l&&A0 b o)=γ;rw[G4 I d l v p i,E4 I b o r t j];rfl
end
mutual
theorem M5(I:b? X pins σ H s):∀(d C:Dq) (x y:V) (u v:aa) (A:bo),df X.K H d x->df X.K H C y->ea x u->ea y v->A.units+gw d+gw C<cLine->jI A s u v (nf d C)
 |.bx F,C,x,y,u,v,A,G,l,w,o,R=>by
  let#v[a,S,rfl,Q,N]:=G;ext w;let#v[M,P,p,_]:=I.tuple Q;cases C with
  |cx=>delta df at l;subst l;ext o;show uA p ()
  |bl b=>delta df at l;subst l;ext o;show uB b p ()
  |int b=>delta df at l;subst l;let#v[t,rfl]:=o;show uK b t p ()
  |str b=>delta df at l;subst l;let#v[t,rfl]:=o;show uL b t p ()
  |ax i=>let#v[b,E,rfl,h,m]:=l;ext o;let#v[f,B,r,_]:=I.list h;show uC p r.isList ()
  |bx i=>
   have O:=l;let#v[b,E,rfl,h,m]:=l;ext o;let#v[f,B,r,_]:=I.tuple h;by_cases hab:a=b
   .subst hab;have e:nf (.bx F) (.bx i)=γ:=G4 I _ _ (.ref a) (by delta df;show#v[a,S,J,Q,N]) O;rw[e];show jv _
   .have hd:gw (.bx F)=wY F+1:=by rw[gw]
    have hd':gw (.bx i)=wY i+1:=by rw[gw]
    have q:=vc (A:=A) p r () λj W Y=>by have z:=BG I F i S E M f A.in1 N m P B (by change A.units+1+wY F+wY i<cLine;omega) j (by exists W) (by exists Y);exists z
    rw[BF (by rw[vE N,P.length];simp) (by rw[vE m,B.length];simp)]at q;show mr hab q
 |.ax F,C,x,y,u,v,A,G,l,w,o,R=>by
  let#v[a,S,rfl,Q,N]:=G;ext w;let#v[M,P,p,_]:=I.list Q;have p:=p.isList;cases C with
  |cx=>delta df at l;subst l;ext o;show uM p ()
  |bl b=>delta df at l;subst l;ext o;show uN b p ()
  |int b=>delta df at l;subst l;let#v[t,rfl]:=o;show uW b t p ()
  |str b=>delta df at l;subst l;let#v[t,rfl]:=o;show uX b t p ()
  |bx i=>let#v[b,E,rfl,h,m]:=l;ext o;let#v[f,B,r,_]:=I.tuple h;show uD p (show s.heap.IsTuple b f.toArray from r) ()
  |ax i=>
   have O:=l;let#v[b,E,rfl,h,m]:=l;ext o;let#v[f,B,r,_]:=I.list h;have r:=r.isList;by_cases hab:a=b
   .subst hab;have e:nf (.ax F) (.ax i)=γ:=G4 I _ _ (.ref a) (by delta df;show#v[a,S,J,Q,N]) O;rw[e];show jv _
   .have hd:gw (.ax F)=wY F+1:=by rw[gw]
    have hd':gw (.ax i)=wY i+1:=by rw[gw]
    by_cases T:M.length=f.length
    .have q:=ve (A:=A) p r (by exists T) () λj W Y=>by have z:=BG I F i S E M f A.in1 N m P B (by change A.units+1+wY F+wY i<cLine;omega) j (by exists W) (by exists Y);exists z
     rw[Cu (by rw[vE N,P.length];simp) (by rw[vE m,B.length,<- T];simp)]at q;show mr hab q
    .have e:nf (.ax F) (.ax i)=δ:=by show G3 (by rw[vE N,vE m,P.length,B.length];show T)
     rw[e];show mr hab (uv p r (by exists T) ())
 |.cx,C,x,y,u,v,A,G,l,w,o,R=>by
  subst G;cases C with
  |bx i=>let#v[b,E,rfl,h,m]:=l;ext o;ext w;let#v[f,B,r,_]:=I.tuple h;show uE (show s.heap.IsTuple b f.toArray from r) ()
  |ax i=>let#v[b,E,rfl,h,m]:=l;ext o;ext w;let#v[f,B,r,_]:=I.list h;show uO r.isList ()
  |_=>delta df at l;subst l;show GT w o J J
 |.bl c,C,x,y,u,v,A,G,l,w,o,R=>by
  subst G;cases C with
  |bx i=>let#v[b,E,rfl,h,m]:=l;ext o;ext w;let#v[f,B,r,_]:=I.tuple h;show uF c (show s.heap.IsTuple b f.toArray from r) ()
  |ax i=>let#v[b,E,rfl,h,m]:=l;ext o;ext w;let#v[f,B,r,_]:=I.list h;show uP c r.isList ()
  |_=>delta df at l;subst l;show GT w o J J
 |.int c,C,x,y,u,v,A,G,l,w,o,R=>by
  subst G;cases C with
  |bx i=>let#v[b,E,rfl,h,m]:=l;ext o;let#v[t,rfl]:=w;let#v[f,B,r,_]:=I.tuple h;show uQ c t (show s.heap.IsTuple b f.toArray from r) ()
  |ax i=>let#v[b,E,rfl,h,m]:=l;ext o;let#v[t,rfl]:=w;let#v[f,B,r,_]:=I.list h;show uY c t r.isList ()
  |_=>delta df at l;subst l;show GT w o J J
 |.str c,C,x,y,u,v,A,G,l,w,o,R=>by
  subst G;cases C with
  |bx i=>let#v[b,E,rfl,h,m]:=l;ext o;let#v[t,rfl]:=w;let#v[f,B,r,_]:=I.tuple h;show uR c t (show s.heap.IsTuple b f.toArray from r) ()
  |ax i=>let#v[b,E,rfl,h,m]:=l;ext o;let#v[t,rfl]:=w;let#v[f,B,r,_]:=I.list h;show uZ c t r.isList ()
  |_=>delta df at l;subst l;show GT w o J J
theorem BG(I:b? X C R H s):∀(b a:List Dq) (f h:bA) (c e:List aa) (A:bo),bc X.K H b f->bc X.K H a h->d? f c->d? h e->A.units+wY b+wY a<cLine->
  ∀(j:Nat) (i:j<c.length) (l:j<e.length),jI A s c[j] e[j] (eAt b a j)
 |[],a,f,h,c,e,A,m,o,p,q,B,j,i,l=>by
  have:=vE m;have:=p.length;erw[dA]at *
  omega
 |d::b,[],f,h,c,e,A,m,o,p,q,B,j,i,l=>by
  have:=vE o;have:=q.length;erw[dA]at *
  omega
 |d::b,r::a,f,h,c,e,A,m,o,p,q,B,j,i,l=>by
  let#v[x,N,rfl,t,u]:=m;let#v[y,O,rfl,w,z]:=o;have P:wY (d::b)=max (gw d) (wY b):=by rw[wY]
  have Q:wY (r::a)=max (gw r) (wY a):=by rw[wY]
  cases p with
  |cons G M=>
   cases q with
   |cons E F=>
    cases j with
    |zero=>show M5 I d r x y _ _ A t w G E ()
    |succ j=>show BG I b a N O _ _ A u z M F () j (by exists i) (by exists l)
end
def Lj:Dq->Dq->Bool
 |.bx _,.bx _=>γ
 |.ax _,.ax _=>γ
 |_,_=>δ
def M6(K:ay)(neg:Bool):R2:=λx y H Q=>∃d a,df K H d x/\df K H a y/\Lj d a=γ/\gw d<=20/\gw a<=20/\Q (.bl (if neg then !nf d a else nf d a)) H
def Zx(hu:X.A.units+64<cLine):js X (bz .Eq) (M6 X.K δ):=by
 intro W s σ H x y u v Q I Y rv h;let#v[d,R,S,T,hd,B,C,q]:=h;cases d with
 |bx i=>
  cases R with
  |bx c=>
   have G:gw (.bx i)=wY i+1:=by rw[gw]
   have M:gw (.bx c)=wY c+1:=by rw[gw]
   let#v[a,O,rfl,N,r]:=S;let#v[b,P,rfl,o,l]:=T;ext Y;ext rv;let#v[m,t,p,_]:=I.tuple N;let#v[f,w,F,_]:=I.tuple o;refine SeqAt.eq_tupleAt (e:=eAt i c) (show s.heap.IsTuple a m.toArray from p) (show s.heap.IsTuple b f.toArray from F) () (λj B C=>?_) ?_
   .have z:=BG I i c O P m f X.A.in1 r l t w (by change X.A.units+1+wY i+wY c<cLine;omega) j (by exists B) (by exists C);exists z
   .rw[BF (by rw[vE r,t.length];simp) (by rw[vE l,w.length];simp)];show wa I q J
  |_=>show nomatch hd
 |ax i=>
  cases R with
  |ax c=>
   have G:gw (.ax i)=wY i+1:=by rw[gw]
   have M:gw (.ax c)=wY c+1:=by rw[gw]
   let#v[a,O,rfl,N,r]:=S;let#v[b,P,rfl,o,l]:=T;ext Y;ext rv;let#v[m,t,p,_]:=I.list N;let#v[f,w,F,_]:=I.list o;by_cases E:m.length=f.length
   .refine SeqAt.eq_listAt (e:=eAt i c) p.isList F.isList (by exists E) () (λj B C=>?_) ?_
    .have z:=BG I i c O P m f X.A.in1 r l t w (by change X.A.units+1+wY i+wY c<cLine;omega) j (by exists B) (by exists C);exists z
    .rw[Cu (by rw[vE r,t.length];simp) (by rw[vE l,w.length,<- E];simp)];show wa I q J
   .calc SeqAt.eq_list_lengthsAt p.isList F.isList (by exists E) () ?_;have e:A0 i c=δ:=G3 (by rw[vE r,vE l,t.length,w.length];show E);rw[show nf (.ax i) (.ax c)=δ from e]at q;show wa I q J
  |_=>show nomatch hd
 |_=>show nomatch hd
def Zy(hu:X.A.units+64<cLine):js X (bz .NotEq) (M6 X.K γ):=by
 intro Y s σ H x y u v Q I ru rv h;let#v[d,S,T,W,hd,C,E,q]:=h;cases d with
 |bx l=>
  cases S with
  |bx c=>
   have M:gw (.bx l)=wY l+1:=by rw[gw]
   have N:gw (.bx c)=wY c+1:=by rw[gw]
   let#v[a,P,rfl,O,r]:=T;let#v[b,R,rfl,o,i]:=W;ext ru;ext rv;let#v[m,t,p,_]:=I.tuple O;let#v[f,B,G,_]:=I.tuple o;have w:=u0 (A:=X.A) (show s.heap.IsTuple a m.toArray from p) (show s.heap.IsTuple b f.toArray from G) () (λj C E=>by
    have z:=BG I l c P R m f X.A.in1 r i t B (by change X.A.units+1+wY l+wY c<cLine;omega) j (by exists C) (by exists E);exists z)
   rw[BF (by rw[vE r,t.length];simp) (by rw[vE i,B.length];simp)]at w;show w X.prog X.w X.xe _ (wa I q J)
  |_=>show nomatch hd
 |ax l=>
  cases S with
  |ax c=>
   have M:gw (.ax l)=wY l+1:=by rw[gw]
   have N:gw (.ax c)=wY c+1:=by rw[gw]
   let#v[a,P,rfl,O,r]:=T;let#v[b,R,rfl,o,i]:=W;ext ru;ext rv;let#v[m,t,p,_]:=I.list O;let#v[f,B,G,_]:=I.list o;by_cases F:m.length=f.length
   .have w:=u7 (A:=X.A) p.isList G.isList (by exists F) () (λj C E=>by
     have z:=BG I l c P R m f X.A.in1 r i t B (by change X.A.units+1+wY l+wY c<cLine;omega) j (by exists C) (by exists E);exists z)
    rw[Cu (by rw[vE r,t.length];simp) (by rw[vE i,B.length,<- F];simp)]at w;show w X.prog X.w X.xe _ (wa I q J)
   .have e:A0 l c=δ:=G3 (by rw[vE r,vE i,t.length,B.length];show F);rw[show nf (.ax l) (.ax c)=δ from e]at q;show tR p.isList G.isList (by exists F) () X.prog X.w X.xe _ (wa I q J)
  |_=>show nomatch hd
 |_=>show nomatch hd
end
theorem Jd{K:ay}:∀l:aC,bc K H (l.map Dq.str) (l.map V.str)
 |[]=>by rw[bZ,bZ];delta bc;rfl
 |x::r=>by rw[aA,aA];show#v[_,_,J,(by delta df;rfl),Jd r]
theorem Bl:∀l:aC,wY (l.map Dq.str)=0
 |[]=>by rw[bZ,wY]
 |x::r=>by rw[aA];delta wY;rw[Bl r];rfl
inductive StrsAre:List Expr->bA->Prop
 |nil:StrsAre [] []
 |cons {x:Str} {j:Nat} {pos:Pos} {es:List Expr} {vs:bA} (h:StrsAre es vs):StrsAre (.Constant (.str x) j pos::es) (.str x::vs)
def zi(h:n<=1000):n<=aS:=fC (Bk h)
def vF.new(x:vF H a)(c:a p=Z)(o:HO):vF H (el a p o):=λb u e=>by have z:=x b u e;rw[vC (ya z c)];show z
structure P8(K:ay)(x qual:Str)(st:Stmt)(f:Addr)(fd:cD)(T:Addr):Prop where
 ex:∃(oc:aa) (od:Option Addr) (kV doc pm:aa) (an:Option Addr) (cdv ct:aa) (osl:Array (Option aa)),
  fd=fJ x qual (yU st) (wb st) (vP st) (.ref T) kV doc pm an cdv ct/\K.lookup f=U #v[oc,od,.func fd,osl]/\iH K cdv qual=γ
 kp:dS K (.ref f)=γ
section
variable{K:ay}
theorem P8.ok{st:Stmt}(F:P8 K x qual st f d T)(S:xm N ps (vP st))(len:∀a H Q E,b a H Q E->a.length=ps.length)
  (hbody:∀(cdv:aa) (A:bo) (b9:List Env) (s:aq) (H:Hp) (a:bA) (Q:VK) (E:XK),xi k (A.deeper (envOfC qual (vP st) (~~~s) f cdv))->b a H Q E->
   ∃t,l' (K5 Dv P w K i a8 N qual (vP st) f cdv A b9 s H E).nox (wb st) t/\t { nx:=λz c=>Q .cx c,rt:=Q } (L2.start N a) H):zh P w K i a8 Dv (k+1) f d ps b:=by
 let#v[m,o,kV,doc,p,j,cdv,l,osl,rfl,lk,hcd]:=F.ex;calc X9 lk hcd S len λA b9 s H a Q E e hsp=>?_;let#v[t,h,q]:=hbody cdv A b9 s H a Q E e hsp;show#v[t,h.nox,q]
end
theorem P8.tX{K:ay}{st:Stmt}{i:aC}{d:List aa}(F:P8 K x qual st f j T)(q:K.lookup T=U o)(r:o.data=.seq items n)
  (h:∀(kV doc e:aa) (b:Option Addr) (cdv c:aa) (a:List aa),a.length=i.length - d.length->∃k,bindArgs (fJ x qual (yU st) (wb st) (vP st) (.ref T) kV doc e b cdv c) #v[a,[]]=seqItems? (.ref T)>>=k/\k (U items)=pure (i.zip (a++d))):ki K j i d:=by
 let#v[t,u,kV,doc,e,b,cdv,c,osl,rfl,lk,hcd]:=F.ex;intro s a KX p;let#v[k,l,m]:=h kV doc e b cdv c a (by rw[aG]at p;omega);show BindsTo.of_defaults J (KX _ _ q) r l m
section
def M7:js X (c5 .Mult) (λx y H Q=>∃z n,x=.str z/\y=.int n/\MulOk z n/\Q (.str (jN z n)) H):=by intro a s i H x y v u Q I c d h;let#v[z,n,rfl,rfl,b,q]:=h;let#v[t,rfl]:=c;let#v[f,rfl]:=d;show SB.mul b λe k=>#v[.str _,H,I.zk _,#v[e,J],q]
end
section
variable(K:ay)
#print "RB PV JP;Vx Rj Rk" in def ϑ0(hK:X.K=K:=by rfl):ι X (ϑ1 K):=by subst hK;show ϑ2
#print "Lk Q2 U8;Vy Zc Zd" in def ϑ0(a:PE X l b)(hK:X.K=K:=by rfl):PI X c l (ϑ1 K b):=by subst hK;show ϑ2 a
def Vz(b:X.k?=γ)(h:P' X a t)(c:(dj a X.a9).length=n:=by rfl)(hst:(dj a X.a9).findIdx? (·.1)=Z:=by rfl)(hK:X.K=K:=by rfl):PG X (.Tuple a k pos) (Y9 K n t):=by subst hK;show Za b h c hst
variable{T id:String}
def RD(h:oj T)(slot:Slot T name id)(hty:typeOf (.builtin id)=pure (.type "method_descriptor"))(c:MtR X id r)(d:PE X o to)(b:PA X (e::a) t)
  (hbase:fA o name X.a9 (eval o X.a9)=eval o X.a9:=by rfl)
  (hfew:((bJ cpos (aE (e::a) X.a9)).all (λx=>!x.1)&&(backToKw cpos (dR [] X.a9)).all (λx=>x.1.isSome)
   && decide ((e::a).length+([]:List fY).length+(if ([]:List fY).isEmpty then 0 else 1)<30))=γ:=by rfl)
  (hline:(apos.endLine==cpos.line)=γ:=by rfl) (f:aE (e::a) X.a9=(δ,eval e X.a9)::aE a X.a9:=by rfl) (hplain:(bJ cpos (aE a X.a9)).any (·.1)=δ:=by rfl) (hK:X.K=K:=by rfl):
  PE X (.Call (.Attribute o name apos) (e::a) [] cpos) (tBM K T r to t):=by subst hK;show adp h slot hty c d b hbase hfew hline f hplain
end
end L3
namespace L2
open PySem PySem.Spec PyProof.Rows
section
def Bm(e:H a=U u)(q:H c=U v)(d:u≠v)(n:HO):el H a n c=U v:=by rw[vC (λz=>by subst z;rw[e]at q;show d (cM q))];show q
def b?.n?(I:b? X f B H s)(e:H a=U (.dK kvs)):∃o,b? X f B (el H a (.l? o (.dK kvs))) s:=by
 let#v[z,y,R,r,i,M,G,p,c]:=(show eu X.prog X.w H s.heap a (.dK kvs) from I.fb a _ e);calc#v[i,?_];have l:=I.step (H':=el H a (.l? i (.dK kvs))) (h':=s.heap) (g':=s.gens) (d':=s.drawn) (t':=s.toks) (ch:=[]) (λk z=>nomatch z) (λb o k k k q k=>q) (λb o k k k q k=>#v[o.slots,q])
  (λb o k k n=>by rw[vC (λz=>by subst z;rw[e]at n;ext n)];show n) (λb o k q=>#v[o,q]) (λb A q=>Bm e q (λz=>nomatch z) _) (λb o u q=>Bm e q (λz=>nomatch z) _)
  (λb P q=>#v[[].toArray,by rw[Bm e q (λz=>nomatch z) _];simp]) (λm q=>q) ?_ I.i?
 .let#v[h,g,d,t,os]:=s;show l
 .intro b u q;have st:∀{b:Addr} {u:HO},eu X.prog X.w H s.heap b u->eu X.prog X.w (el H a (.l? i (.dK kvs))) s.heap b u:=λ{b u} x=>x.wh (λk k k q=>q) (λc q=>Bm e q (λz=>nomatch z) _) λc A q=>Bm e q (λz=>nomatch z) _
  by_cases j:b=a
  .subst j;rw[vB]at q;ext q;show#v[p,st (I.fb b _ e)]
  .rw[vC j]at q;show st (I.fb b u q)
def PE.ghost(h:PE X e t):PE X e (λd H Q=>t d H λx b=>Q x b\/∃a kvs,b a=U (.dK kvs)/\∀o,Q x (el b a (.l? o (.dK kvs)))):=λc s d H Q I l=>
 ff (h c s d H _ I l) λu p #v[x,b,f,i,m]=>by
  rcases m with q|⟨a,kvs,e,q⟩
  .show#v[x,b,f,i,q]
  .let#v[o,j]:=f.n? e;show#v[x,_,j,i,q o]
end
end L2
namespace L4
open PySem PySem.Spec PyProof.Rows L2 L3
abbrev St:=L2.St
inductive D where
 |cx|bl (b:Bool)|int (i:Int)|str (x:Str)
 |bx (ds:List D)|ax (ds:List D)
 |M (ds:List D)
 |obj (c:Nat) (ns:aC) (ds:List D)
 |J (ks:List ee) (ds:List D)
 |X (ks:List (List ee)) (ds:List D)
abbrev aZ:=List D
structure Bg where
 K:ay
 ca:Nat->Addr
 hs:List ee->Int
def isO(a:Addr)(o:Obj):Heap->Prop:=λh=>h.get? a=U o
structure DtE(hs:List ee->Int)(o:Obj)(qs:List (List ee×Addr×aa)):Prop where
 ex:o.ExactDict
 da:∃es ep,o.data=.dict es ep/\es.toList=qs.map λq=>#v[hs q.1,.ref q.2.1,q.2.2]
 nd:(qs.map (·.1)).Nodup
 sz:qs.length<=1000
def DtO(G:Bg)(H:Hp)(a:Addr)(c:List (List ee))(d:bA):Prop:=∃(o:Obj) (b:List (List ee×Addr×aa)),H a=U (.ext (isO a o))/\(a==cZ)=δ/\DtE G.hs o b/\b.map (·.1)=c/\(∀q∈b,fl G.K H q.2.1 (q.1.map kV))/\d? d (b.map (·.2.2))
mutual
def df(G:Bg)(H:Hp):D->V->Prop
 |.cx,v=>v=.cx
 |.bl b,v=>v=.bl b
 |.int i,v=>v=.int i
 |.str x,v=>v=.str x
 |.bx e,v=>∃a d,v=.ref a/\fl G.K H a d/\bc G H e d
 |.ax e,v=>∃a d,v=.ref a/\H a=U (.ax d)/\bc G H e d
 |.M e,v=>∃a d,v=.ref a/\gi G.K H a d/\bc G H e d
 |.obj c h e,v=>∃a j d,v=.ref a/\H a=U (.nj (G.ca c) j (h.zip d))/\h.length=d.length/\bc G H e d
 |.J f e,v=>∃a o d,v=.ref a/\H a=U (.l? o (.dK (f.zip d)))/\f.length=d.length/\bc G H e d
 |.X f e,v=>∃a d,v=.ref a/\DtO G H a f d/\bc G H e d
def bc(G:Bg)(H:Hp):aZ->bA->Prop
 |[],a=>a=[]
 |d::b,a=>∃v r,a=v::r/\df G H d v/\bc G H b r
end
def fl.mono{K:ay}{H b:Hp}{a:Addr}{c:bA}(e:vF H b)(h:fl K H a c):fl K b a c:=by
 rcases h with (h|⟨o,h⟩)|h
 .show .inl (.inl (e _ _ h))
 .show .inl (.inr #v[o,e _ _ h])
 .show .inr h
theorem DtO.mono{G:Bg}{H b:Hp}{a:Addr}{c:List (List ee)}{d:bA}(e:vF H b)(h:DtO G H a c d):DtO G b a c d:=by let#v[o,t,f,i,j,l,m,p]:=h;show#v[o,t,e _ _ f,i,j,l,λq r=>fl.mono e (m q r),p]
mutual
theorem df.mono{G:Bg}{H q:Hp}(e:vF H q):∀(d:D) (v:V),df G H d v->df G q d v
 |.cx,v,h=>by delta df at h ⊢;show h
 |.bl b,v,h=>by delta df at h ⊢;show h
 |.int i,v,h=>by delta df at h ⊢;show h
 |.str x,v,h=>by delta df at h ⊢;show h
 |.bx j,v,h=>by let#v[a,f,rfl,l,m]:=h;show#v[a,f,J,fl.mono e l,bc.mono e j f m]
 |.ax j,v,h=>by let#v[a,f,rfl,l,m]:=h;show#v[a,f,J,e _ _ l,bc.mono e j f m]
 |.M j,v,h=>by let#v[a,f,rfl,l,m]:=h;show#v[a,f,J,e.seq l,bc.mono e j f m]
 |.obj c u j,v,h=>by let#v[a,r,f,rfl,l,m,p]:=h;show#v[a,r,f,J,e _ _ l,m,bc.mono e j f p]
 |.J t j,v,h=>by let#v[a,o,f,rfl,l,m,p]:=h;show#v[a,o,f,J,e _ _ l,m,bc.mono e j f p]
 |.X t j,v,h=>by let#v[a,f,rfl,l,m]:=h;show#v[a,f,J,l.mono e,bc.mono e j f m]
theorem bc.mono{G:Bg}{H c:Hp}(e:vF H c):∀(a:aZ) (b:bA),bc G H a b->bc G c a b
 |[],b,h=>by delta bc at h ⊢;show h
 |d::a,b,h=>by let#v[v,r,rfl,f,i]:=h;show#v[v,r,J,df.mono e d v f,bc.mono e a r i]
end
section
def vV:bc G H [] []:=by delta bc;rfl
def vS{d:D}{v:V}{b:aZ}{a:bA}(h:df G H d v)(r:bc G H b a):bc G H (d::b) (v::a):=by delta bc;show#v[v,a,J,h,r]
inductive IRp(G:Bg) (H:Hp) (d:D) (ds:aZ) (xs:bA):Prop
 |i (v:V) (r:bA) (e:xs=v::r) (h:df G H d v) (t:bc G H ds r):IRp G H d ds xs
def An{d:D}{a:aZ}{b:bA}(h:bc G H (d::a) b):IRp G H d a b:=let #v[v,r,e,p,q]:=h;#v[v,r,e,p,q]
def BH{a:bA}(h:bc G H [] a):a=[]:=h
theorem vE:∀{b:aZ} {a:bA},bc G H b a->b.length=a.length
 |[],a,h=>by cases BH h;rfl
 |d::b,a,h=>by let#v[v,r,rfl,_,c]:=h;rw[aK,aK,vE c]
theorem xn:∀{e a:aZ} {b c:bA},bc G H e b->bc G H a c->bc G H (e++a) (b++c)
 |[],a,b,c,h,f=>by cases BH h;show f
 |d::e,a,b,c,h,f=>by let#v[v,r,rfl,i,j]:=h;show vS i (xn j f)
theorem xD:∀{b:aZ} {a:bA} {i:Nat} {d:D},bc G H b a->b[i]?=U d->∃v,a[i]?=U v/\df G H d v
 |[],a,i,d,h,e=>by simp at e
 |j::b,a,i,d,h,e=>by
  let#v[v,r,rfl,c,f]:=h;cases i with
  |zero=>simp at e;subst e;show#v[v,J,c]
  |succ i=>exists xD f (by exists e)
theorem Je:∀{ds:aZ} {a:bA} (n:Nat),bc G H ds a->bc G H (ds.drop n) (a.drop n)
 |ds,a,0,h=>h
 |[],a,n+1,h=>by cases BH h;show vV
 |d::ds,a,n+1,h=>by let#v[v,r,rfl,c,b]:=h;show Je n b
theorem Jf:∀{ds:aZ} {a:bA} (n:Nat),bc G H ds a->bc G H (ds.take n) (a.take n)
 |ds,a,0,h=>vV
 |[],a,n+1,h=>by cases BH h;show vV
 |d::ds,a,n+1,h=>by let#v[v,r,rfl,b,c]:=h;show vS b (Jf n c)
def zT{a:Addr}{b:bA}{c:aZ}(h:fl G.K H a b)(r:bc G H c b):df G H (.bx c) (.ref a):=by delta df;show#v[a,b,J,h,r]
def AI{a:Addr}{b:bA}{c:aZ}(h:H a=U (.ax b))(r:bc G H c b):df G H (.ax c) (.ref a):=by delta df;show#v[a,b,J,h,r]
#print "xW Int int;yb Bool bl;zU Str str" in def ϑ0(i:ϑ1):df G H (.ϑ2 i) (.ϑ2 i):=by delta df;rfl
def BI:df G H .cx .cx:=by delta df;rfl
end
inductive Sl where
 |un
 |q (d:D)
 |I (ds:aZ)
 |pm (ds:aZ)
 |dk (ks:List ee) (ds:aZ)
 |ob (c:Nat) (ns:aC) (ds:aZ)
abbrev aU:=List Sl
def Sl.g?:Sl->Bool
 |.I _=>γ
 |.pm _=>γ
 |.dk _ _=>γ
 |.ob _ _ _=>γ
 |_=>δ
structure Fr where
 B0:Hp
 B:Hp
 A:List Addr
def DO(G:Bg)(F:Fr)(e H:Hp)(o:Option V):Sl->Prop
 |.un=>True
 |.q d=>∃v,o=U v/\df G e d v
 |.I f=>∃a b,o=U (.ref a)/\H a=U (.ax b)/\e a=Z/\F.B a=Z/\bc G e f b
 |.pm f=>∃a b,o=U (.ref a)/\H a=U (.ax b)/\e a=Z/\a∈F.A/\bc G e f b
 |.dk h f=>∃a b,o=U (.ref a)/\H a=U (.dK (h.zip b))/\e a=Z/\F.B a=Z/\h.length=b.length/\bc G e f b
 |.ob c i f=>∃a j b,o=U (.ref a)/\H a=U (.nj (G.ca c) j (i.zip b))/\e a=Z/\a∈F.A/\i.length=b.length/\bc G e f b
structure b8(G:Bg)(F:Fr)(σ:St)(ρ:aU)(H0 H:Hp):Prop where
 sub:vF H0 H
 g0:vF F.B0 H0
 keep:∀b o,F.B b=U o->b∉F.A->H b=U o
 fr:∀b o,H0 b=U o->F.B0 b=U o\/F.B b=Z
 am:∀a∈F.A,∃o,H a=U o
 len:σ.length=ρ.length
 sl:∀(i:Nat) (s:Sl),ρ[i]?=U s->DO G F H0 H (σ[i]?).join s
 ap:∀(i j:Nat) (s t:Sl) (a:Addr),i≠j->ρ[i]?=U s->ρ[j]?=U t->s.g?=γ->t.g?=γ->(σ[i]?).join=U (.ref a)->(σ[j]?).join=U (.ref a)->False
theorem DO.at{G:Bg}{F:Fr}{p H:Hp}{o:Option V}{s:Sl}(h:DO G F p H o s)(e:s.g?=γ):∃a u,o=U (.ref a)/\H a=U u/\p a=Z/\(F.B a=Z\/a∈F.A):=by
 cases s with
 |un=>cases e
 |q d=>cases e
 |I l=>let#v[a,m,b,f,i,j,_]:=h;show#v[a,_,b,f,i,.inl j]
 |pm l=>let#v[a,m,b,f,i,j,_]:=h;show#v[a,_,b,f,i,.inr j]
 |dk r l=>let#v[a,m,b,f,i,j,_]:=h;show#v[a,_,b,f,i,.inl j]
 |ob c t l=>let#v[a,q,m,b,f,i,j,_]:=h;show#v[a,_,b,f,i,.inr j]
def DO.gk{G:Bg}{F:Fr}{t H f y:Hp}{o:Option V}{s:Sl}(h:DO G F t H o s)(p:vF t f)(q:∀a u,o=U (.ref a)->s.g?=γ->H a=U u->y a=U u)
  (r:∀a u,o=U (.ref a)->s.g?=γ->H a=U u->t a=Z->f a=Z):DO G F f y o s:=by
 cases s with
 |un=>trivial
 |q d=>let#v[v,b,e]:=h;show#v[v,b,df.mono p _ _ e]
 |I w=>let#v[a,m,b,e,i,j,l]:=h;show#v[a,m,b,q _ _ b J e,r _ _ b J e i,j,bc.mono p _ _ l]
 |pm w=>let#v[a,m,b,e,i,j,l]:=h;show#v[a,m,b,q _ _ b J e,r _ _ b J e i,j,bc.mono p _ _ l]
 |dk A w=>let#v[a,m,b,e,i,j,l,x]:=h;show#v[a,m,b,q _ _ b J e,r _ _ b J e i,j,l,bc.mono p _ _ x]
 |ob c B w=>let#v[a,z,m,b,e,i,j,l,x]:=h;show#v[a,z,m,b,q _ _ b J e,r _ _ b J e i,j,l,bc.mono p _ _ x]
section
theorem b8.gr(R:b8 G F f ρ c H){b:Addr}(h:H b=Z):F.B b=Z:=by
 cases e:F.B b with
 |none=>rfl
 |some o=>
  by_cases a:b∈F.A
  .let#v[d,q]:=R.am b a;rw[q]at h;ext h
  .have q:=R.keep b o e a;rw[q]at h;ext h
theorem b8.gk(R:b8 G F σ ρ H0 H)(hs:vF H H')(h0:vF H0 c)(sub':vF c H')(d:∀b o,c b=U o->H0 b=U o\/H b=Z):b8 G F σ ρ c H' where
 sub:=sub'
 g0:=R.g0.t h0
 keep:=λb o e n=>hs _ _ (R.keep b o e n)
 fr:=λb o e=>by
  rcases d b o e with q|q
  .show R.fr b o q
  .show .inr (R.gr q)
 am:=λa ha=>let #v[xs,q]:=R.am a ha;#v[xs,hs _ _ q]
 len:=R.len
 sl:=λi s e=>(R.sl i s e).gk h0 (λa u l l q=>hs _ _ q) λa u l l q q0=>by
  cases z:c a with
  |none=>rfl
  |some o=>
   rcases d a o z with y|y
   .rw[y]at q0;ext q0
   .rw[y]at q;ext q
 ap:=R.ap
def vK{H:Hp}{p:Addr}(a:H p=Z)(o:HO):vF H (el H p o):=vF.new (vF.refl H) a o
def b8.e?(R:b8 G F c ρ a H){p:Addr}(b:H p=Z):a p=Z:=by
 cases e:a p with
 |none=>rfl
 |some o=>have:=R.sub _ _ e;rw[this]at b;ext b
def RE{a H:Hp}(s:vF a H)(p:Addr)(o:HO):vF (el a p o) (el H p o):=λb u e=>by
 by_cases c:b=p
 .subst c;rw[vB]at e ⊢;show e
 .rw[vC c]at e ⊢;show s _ _ e
def b8.GX(R:b8 G F h f d H){p:Addr}(a:H p=Z)(o:HO):b8 G F h f (el d p o) (el H p o):=
 R.gk (vK a o) (vK (R.e? a) o) (RE R.sub p o) λb u e=>by
  by_cases c:b=p
  .subst c;show .inr a
  .rw[vC c]at e;show .inl e
def b8.gj(R:b8 G F d ρ c H){p:Addr}(a:H p=Z)(o:HO):b8 G F d ρ c (el H p o):=
 R.gk (vK a o) (vF.refl _) (λb u e=>by rw[vC (ya (R.sub _ _ e) a)];show R.sub _ _ e) λb u e=>.inl e
def vr(b:St)(a:aU)(p:Addr):Prop:=∀(i:Nat) (s:Sl),a[i]?=U s->s.g?=γ->(b[i]?).join≠U (.ref p)
def b8.apart(R:b8 G F f ρ h H){p:Addr}(d:H p=Z):vr f ρ p:=λi s e so z=>by let#v[a,u,b,c,_]:=(R.sl i s e).at so;rw[z]at b;ext b;rw[d]at c;ext c
theorem b8.n?(R:b8 G F σ ρ H0 H){p:Addr}{o:HO}(f:H p=U o)(h0:H0 p=Z)(d:F.B p=Z)(ap:vr σ ρ p):b8 G F σ ρ (el H0 p o) H where
 sub:=λb u e=>by
  by_cases d:b=p
  .subst d;rw[vB]at e;ext e;show f
  .rw[vC d]at e;show R.sub _ _ e
 g0:=R.g0.t (vK h0 o)
 keep:=R.keep
 fr:=λb u e=>by
  by_cases c:b=p
  .subst c;show .inr d
  .rw[vC c]at e;show R.fr _ _ e
 am:=R.am
 len:=R.len
 sl:=λi s e=>(R.sl i s e).gk (vK h0 o) (λa u l l q=>q) λa u z so q q0=>by rw[vC (λy=>ap i s e so (by rw[z,y]))];show q0
 ap:=R.ap
def Ll{a:St}{i j:Nat}{v:Option V}(b:i<a.length):((a.set i v)[j]?).join=if j=i then v else (a[j]?).join:=by
 rw[bX];by_cases h:i=j
 .subst h;simp[b]
 .rw[ah h,ah (λz=>h z.symm)]
#print h
theorem b8.set(R:b8 G F σ ρ H0 H){i:Nat}{v:V}{s:Sl}(hs:DO G F H0 H (U v) s)(ap:s.g?=γ->∀a,v=.ref a->∀(j:Nat) (t:Sl),j≠i->ρ[j]?=U t->t.g?=γ->(σ[j]?).join≠U (.ref a)):
  b8 G F (σ.set i (U v)) (ρ.set i s) H0 H where
 sub:=R.sub
 g0:=R.g0
 keep:=R.keep
 fr:=R.fr
 am:=R.am
 len:=by rw[eE,eE,R.len]
 sl:=λj t e=>by
  rw[bX]at e;by_cases h:i=j
  .subst h;rw[af J]at e;split at e
   .rename_i hi;ext e;rw[Ll (by rw[R.len];show hi),af J];show hs
   .ext e
  .rw[ah h]at e;have A:=R.sl j t e;rw[bX,ah h];show A
 ap:=λj k t u a hjk q f p tk b vk=>by
  have ma:∀{m:Nat} {x:Sl},(ρ.set i s)[m]?=U x->m≠i->ρ[m]?=U x/\((σ.set i (U v))[m]?).join=(σ[m]?).join:=λ{m x} e hm=>by rw[bX,ah (λz=>hm z.symm)]at e;show#v[e,by rw[bX,ah (λz=>hm z.symm)]]
  have self:∀{x:Sl},(ρ.set i s)[i]?=U x->x=s/\((σ.set i (U v))[i]?).join=U v:=λ{x} e=>by
   rw[bX,af J]at e;split at e
   .rename_i hi;ext e;show#v[J,by rw[Ll (by rw[R.len];show hi),af J]]
   .ext e
  by_cases o:j=i
  .subst o;let#v[rfl,l]:=self q;rw[l]at b;ext b;let#v[c,d]:=ma f (λz=>hjk z.symm);rw[d]at vk;show ap p a J k u (λz=>hjk z.symm) c tk vk
  .let#v[c,d]:=ma q o;by_cases r:k=i
   .subst r;let#v[rfl,l]:=self f;rw[l]at vk;ext vk;rw[d]at b;show ap tk a J j t o c p b
   .let#v[w,y]:=ma f r;rw[d]at b;rw[y]at vk;show R.ap j k t u a hjk c w p tk b vk
#print f
def b8.Xi(R:b8 G F b ρ a H)(i:Nat){v:V}{d:D}(h:df G a d v):b8 G F (b.set i (U v)) (ρ.set i (.q d)) a H:=R.set #v[v,J,h] λz=>by ext z
theorem b8.setLs(R:b8 G F f ρ b H)(i:Nat){p:Addr}{c:bA}{d:aZ}(r:H p=U (.ax c))(o:b p=Z)(q:F.B p=Z)(l:vr f ρ p)(h:bc G b d c):b8 G F (f.set i (U (.ref p))) (ρ.set i (.I d)) b H:=
 R.set #v[p,c,J,r,o,q,h] λz a e j t z m u=>by ext e;show l j t m u
def b8.mut(R:b8 G F σ ρ H0 H){i:Nat}{a:Addr}{s s':Sl}{o:HO}(hi:ρ[i]?=U s)(so:s.g?=γ)(ha:(σ[i]?).join=U (.ref a))(ok:∀H',H' a=U o->DO G F H0 H' (U (.ref a)) s')
  (M:s'.g?=γ):b8 G F σ (ρ.set i s') H0 (el H a o):=by
 let#v[P,u,c,Q,d,f]:=(R.sl i s hi).at so;rw[ha]at c;ext c;show {
  sub:=λb w e=>by rw[vC (λz=>by rw[z,d]at e;ext e)];show R.sub _ _ e
  g0:=R.g0
  keep:=λb w e n=>by
   have C:b≠a:=λz=>by
    subst z;rcases f with q|q
    .rw[q]at e;ext e
    .show n q
   rw[vC C];show R.keep b w e n
  fr:=R.fr
  am:=λb B=>by
   by_cases z:b=a
   .subst z;show#v[o,vB]
   .rw[vC z];show R.am b B
  len:=by rw[eE];show R.len
  sl:=λj t e=>by
   rw[bX]at e;by_cases h:i=j
   .subst h;rw[af J]at e;split at e
    .ext e;rw[ha];show ok _ vB
    .ext e
   .rw[ah h]at e;calc(R.sl j t e).gk (vF.refl _) (λb w z to q=>?_) λb w _ _ _ q=>q;rw[vC (λy=>by subst y;show R.ap j i t s b (λy=>h y.symm) e hi to so z ha)];show q
  ap:=λj k t u b hjk l p N tk O vk=>by
   have ma:∀{m:Nat} {x:Sl},(ρ.set i s')[m]?=U x->∃y,ρ[m]?=U y/\(x.g?=γ->y.g?=γ):=λ{m x} e=>by
    rw[bX]at e;by_cases h:i=m
    .subst h;show#v[s,hi,λ_=>so]
    .rw[ah h]at e;show#v[x,e,λq=>q]
   let#v[y,r,E]:=ma l;let#v[z,A,I]:=ma p;show R.ap j k y z b hjk r A (E N) (I tk) O vk }
end
#print "E D;T Bool;A aZ" in abbrev Fϑ0:=aU->Option (ϑ1×aU)
inductive ItF(G:Bg) (f:FE) (σ:St) (H:Hp) (Q:VK):Prop
 |i (F ρ H0 d ρ') (h0:b8 G F σ ρ H0 H) (h1:f ρ=U (d,ρ')) (h2:∀v H0' H',vF H0 H0'->b8 G F σ ρ' H0' H'->df G H0' d v->Q v H'):ItF G f σ H Q
def tF(G:Bg)(f:FE):TE:=λa H Q=>ItF G f a H Q
inductive ItFT(G:Bg) (f:FT) (σ:St) (H:Hp) (Q:(Bool->Hp->Prop)):Prop
 |i (F ρ H0 d ρ') (h0:b8 G F σ ρ H0 H) (h1:f ρ=U (d,ρ')) (h2:∀H0' H',vF H0 H0'->b8 G F σ ρ' H0' H'->Q d H'):ItFT G f σ H Q
def n3(G:Bg)(f:FT):TT:=λa H Q=>ItFT G f a H Q
inductive ItFA(G:Bg) (f:FA) (σ:St) (H:Hp) (Q:(bA->Hp->Prop)):Prop
 |i (F ρ H0 ds ρ') (h0:b8 G F σ ρ H0 H) (h1:f ρ=U (ds,ρ')) (h2:∀xs H0' H',vF H0 H0'->b8 G F σ ρ' H0' H'->bc G H0' ds xs->Q xs H'):ItFA G f σ H Q
def t7(G:Bg)(f:FA):TA:=λa H Q=>ItFA G f a H Q
inductive ItFN(G:Bg) (f:FA) (σ:St) (H:Hp) (Q:VK):Prop
 |i (F ρ H0 ds ρ') (h0:b8 G F σ ρ H0 H) (h1:f ρ=U (ds,ρ')) (h2:∀p xs H0' H',vF H0 H0'->b8 G F σ ρ' H0' H'->H' p=U (.ax xs)->H0' p=Z->F.B p=Z->vr σ ρ' p->bc G H0' ds xs->Q (.ref p) H'):ItFN G f σ H Q
def Bx(G:Bg)(f:FA):TE:=λa H Q=>ItFN G f a H Q
#print "E;T" in def Pϑ0.c3(h:Pϑ0 X e t)(w:∀b H Q,d b H Q->t b H Q):Pϑ0 X e d:=λa s b H Q I c=>h a s b H Q I (w _ _ _ c)
#print "W f;A pos" in def Pϑ0.c3(h:Pϑ0 X e t)(w:∀b H Q,d b H Q->t b H Q):Pϑ0 X e d:=λϑ1 a s b H Q I c=>h ϑ1 a s b H Q I (w _ _ _ c)
noncomputable def cC(d:D):FE:=λa=>U (d,a)
noncomputable def cV(i:Nat):FE:=λa=>match a[i]? with
 |some (.q d)=>U (d,a)
 |_=>Z
noncomputable def c1(g:D->Option D) (f:FE):FE:=λb=>match f b with
 |some (d,a)=>match g d with
  |some x=>U (x,a)
  |none=>Z
 |none=>Z
noncomputable def c2(g:D->D->Option D) (f c:FE):FE:=λd=>match f d with
 |some (x,a)=>match c a with
  |some (y,b)=>match g x y with
   |some z=>U (z,b)
   |none=>Z
  |none=>Z
 |none=>Z
def Gp(h:c1 g f c=U (z,b)):∃d,f c=U (d,b)/\g d=U z:=by
 delta c1 at h;cases e:f c with
 |none=>rw[e]at h;cases h
 |some p=>
  let#v[d,i]:=p;rw[e]at h;cases a:g d with
  |none=>erw[a]at h;cases h
  |some x=>erw[a]at h;ext h;show#v[d,J,a]
def Gq(h:c2 g f i j=U (z,d)):∃x y a,f j=U (x,a)/\i a=U (y,d)/\g x y=U z:=by
 delta c2 at h;cases e:f j with
 |none=>rw[e]at h;cases h
 |some p=>
  let#v[x,a]:=p;erw[e]at h;cases b:i a with
  |none=>erw[b]at h;cases h
  |some q=>
   let#v[y,l]:=q;erw[b]at h;cases c:g x y with
   |none=>erw[c]at h;cases h
   |some w=>erw[c]at h;ext h;show#v[x,y,a,J,b,c]
section
#print "Zz int int MK xW;adx bool bl acZ yb;ZC str str QV zU" in def ϑ0{i j pos}:PE X (.Constant (.ϑ1 i) j pos) (tF G (cC (.ϑ2 i))):=PE.c3 ϑ3 λf H Q h=>by let#v[F,c,b,d,a,R,e,k]:=h;ext e;show k _ _ _ (vF.refl _) R (ϑ4 i)
def ZD{j pos}:PE X (.Constant .none j pos) (tF G (cC .cx)):=PE.c3 Y1 λf H Q h=>by let#v[F,c,b,d,a,R,e,k]:=h;ext e;show k _ _ _ (vF.refl _) R BI
#print h
def VA(h:cV i b=U (d,a)):b[i]?=U (.q d)/\a=b:=by
 delta cV at h;split at h
 .rename_i e;ext h;show#v[e,J]
 .ext h
#print f
def yc{a:Type}{o:Option (Option a)}{v:a}(h:o.join=U v):o=U (U v):=by
 cases o with
 |none=>cases h
 |some u=>cases u with
  |none=>cases h
  |some w=>ext h;rfl
def M8(h:PE X e (AC i)):PE X e (tF G (cV i)):=PE.c3 h λo H Q f=>by let#v[F,m,l,d,j,R,e,k]:=f;let#v[a,rfl]:=VA e;let#v[v,b,c]:=R.sl i _ a;show#v[v,yc b,k _ _ _ (vF.refl _) R c]
def VB(h:PE X e (tC v))(r:∀H,df G H d v):PE X e (tF G (cC d)):=PE.c3 h λj H Q a=>by let#v[F,i,c,f,b,R,e,k]:=a;ext e;show k _ _ _ (vF.refl _) R (r _)
def k4(G:Bg)(r:R2)(g:D->D->Option D):Prop:=∀x y z b H v u (Q:VK),g x y=U z->vF b H->df G b x v->df G b y u->(∀w,(∀a,vF b a->df G a z w)->Q w H)->r v u H Q
def Ow(C:k4 G r g):∀h H Q,tF G (c2 g f A) h H Q->tOp r (tF G f) (tF G A) h H Q:=λh H Q B=>by let#v[F,O,l,d,c,R,e,k]:=B;let#v[x,y,b,q,t,z]:=Gq e;calc#v[F,O,l,x,b,R,q,λv m o N p I=>#v[F,b,m,y,c,p,t,λu i a j R2 M=>?_]];show C x y d i a v u Q z R2.sub (df.mono j _ _ I) M λw E=>k w i a (N.t j) R2 (E _ (vF.refl _))
def ady(i:js X (c5 j) r)(h:k4 G r g)(d:PE X a (tF G f))(e:PE X b (tF G c)):PE X (.BinOp a j b pos) (tF G (c2 g f c)):=PE.c3 (Oh i d e) (Ow h)
def ZJ(l:js X (bz c) r)(j:k4 G r g)(e:PE X a (tF G f))(h:PE X b (tF G d))(i:gO c b=δ):PE X (.Compare a [c] [b] pos) (tF G (c2 g f d)):=PE.c3 (Ve l e h i) (Ow j)
def adz(i:ι X r)(h:k4 G r g)(d:PE X a (tF G f))(e:PE X b (tF G c))(j:JO b):PE X (.Subscript a b pos) (tF G (c2 g f c)):=PE.c3 (Os i d e j) (Ow h)
def cT(f:FE):FT:=λc=>match f c with
 |some (.bl b,a)=>U (b,a)
 |_=>Z
#print h
def Ox(h:cT f c=U (b,a)):f c=U (.bl b,a):=by
 delta cT at h;split at h
 .rename_i e;ext h;show e
 .ext h
#print f
def Oy:∀b H Q,n3 G (cT f) b H Q->Q6 (tF G f) b H Q:=λb H Q j=>by let#v[F,l,c,d,a,R,e,k]:=j;calc#v[F,l,c,_,a,R,Ox e,λv h m s i r=>?_];show#v[d,r,k _ _ s i]
def VC(u:js X (bz h) r)(t:k4 G r g)(m:PE X a (tF G f))(o:PE X b (tF G l))(q:gO h b=δ):
  PT X (.Compare a [h] [b] pos) (n3 G (cT (c2 g f l))):=PT.c3 (Vf u m o q) λi H Q p=>by
 let#v[F,w,j,d,c,R,e,k]:=Oy i H Q p;show Ow t i H _ #v[F,w,j,d,c,R,e,k]
def VD(h:PE X e (tF G f))(j:∀whole,isTrue e X.a9 whole=(do let v<-whole;standAt e.pos;holding [v] (truthy v)):=by intro _;rfl):PT X e (n3 G (cT f)):=PT.c3 (Y2 h j) λp H Q l=>by let#v[F,m,b,d,a,R,e,k]:=l;calc#v[F,m,b,_,a,R,Ox e,λv c o s i r=>?_];show#v[d,r,k _ _ s i]
def zg(f:FT):FT:=λc=>match f c with
 |some (b,a)=>U (!b,a)
 |none=>Z
#print "Ao γ;yT δ" in def ϑ0(f g:FT):FT:=λb=>match f b with
 |some (ϑ1,a)=>g a
 |r=>r
def VE(h:PT X a (n3 G f)):PT X (.UnaryOp .Not a pos) (n3 G (zg f)):=PT.c3 (Y5 h) λu H Q o=>by
 let#v[F,i,j,d,q,R,e,k]:=o;delta zg at e;cases c:f i with
 |none=>erw[c]at e;cases e
 |some p=>let#v[b,r]:=p;erw[c]at e;ext e;show#v[F,i,j,b,_,R,c,λl t s m=>k _ _ s m]
def ZL:∀m H Q,n3 G (Ao f g) m H Q->tAnd (n3 G f) (n3 G g) m H Q:=λm H Q t=>by
 let#v[F,j,o,d,l,R,e,k]:=t;delta Ao at e;cases c:f j with
 |none=>erw[c]at e;cases e
 |some p=>
  let#v[b,h]:=p;cases b with
  |true=>erw[c]at e;show#v[F,j,o,γ,h,R,c,λa q s i=>IB #v[F,h,a,d,l,i,e,λw r u R2=>k _ _ (s.t u) R2]]
  |false=>erw[c]at e;ext e;show#v[F,j,o,δ,_,R,c,λa q s i=>IA (k _ _ s i)]
def adA:∀m H Q,n3 G (yT f g) m H Q->tOr (n3 G f) (n3 G g) m H Q:=λm H Q t=>by
 let#v[F,j,o,d,l,R,e,k]:=t;delta yT at e;cases c:f j with
 |none=>erw[c]at e;cases e
 |some p=>
  let#v[b,h]:=p;cases b with
  |false=>erw[c]at e;show#v[F,j,o,δ,h,R,c,λa q s i=>IA #v[F,h,a,d,l,i,e,λw r u R2=>k _ _ (s.t u) R2]]
  |true=>erw[c]at e;ext e;show#v[F,j,o,γ,_,R,c,λa q s i=>IB (k _ _ s i)]
#print "RF And U6;VF Or Y3" in def ϑ0(h:PT X a (n3 G f)):PW X (.BoolOp .ϑ1 [a] pos) (n3 G f):=ϑ2 h
#print "VG And Ao Y4 ZL;RG Or yT ac1 adA" in def ϑ0{eo:List Expr}(c:PT X a (n3 G f))(d:PW X (.BoolOp .ϑ1 (b::eo) pos) (n3 G g)):PW X (.BoolOp .ϑ1 (a::b::eo) pos) (n3 G (ϑ2 f g)):=PW.c3 (ϑ3 c d) ϑ4
#print "xZ γ δ;cOr δ γ" in def ϑ0(f g:FE):FE:=λb=>match f b with
 |some (.bl ϑ1,a)=>g a
 |some (.bl ϑ2,a)=>U (.bl ϑ2,a)
 |_=>Z
def J0(f:FE):FE:=λc=>match f c with
 |some (.bl b,a)=>U (.bl !b,a)
 |_=>Z
def D'(c:FT)(f g:FE):FE:=λb=>match c b with
 |some (γ,a)=>f a
 |some (δ,a)=>g a
 |none=>Z
def ZQ{b}(h:PE X a (tF G f)):PE X (.BoolOp b [a] pos) (tF G f):=Y6 h
def Lm{f:FE}{ρ:aU}:(∃a,f ρ=U (.bl γ,a))\/(∃a,f ρ=U (.bl δ,a))\/(∀b a,f ρ≠U (.bl b,a)):=by
 by_cases c:∃a,f ρ=U (.bl γ,a)
 .show .inl c
 by_cases d:∃a,f ρ=U (.bl δ,a)
 .show .inr (.inl d)
 calc .inr (.inr λb a z=>?_);cases b with
 |true=>show c #v[a,z]
 |false=>show d #v[a,z]
#print h
#print "P9 xZ;RH cOr" in def ϑ0(h:∀b a,f ρ≠U (.bl b,a)):ϑ1 f g ρ=Z:=by
 delta ϑ1;split
 .rename_i e;show au e (h _ _)
 .rename_i e;show au e (h _ _)
 .rfl
#print f
def ZR{eo:List Expr}(u:PE X a (tF G f))(w:PE X (.BoolOp .And (b::eo) pos) (tF G g)):PE X (.BoolOp .And (a::b::eo) pos) (tF G (xZ f g)):=PE.c3 (Y7 u w) λC H Q x=>by
 let#v[F,i,p,d,o,R,e,k]:=x;rcases Lm (f:=f) (ρ:=i)with ⟨h,c⟩|⟨h,c⟩|c
 .have m:=by delta xZ at e;erw[c]at e;show e
  calc#v[F,i,p,_,h,R,c,λv q j s l r=>?_];calc#v[γ,r,?_];show IB #v[F,h,q,d,o,l,m,λv B t A R2 z=>k _ _ _ (s.t A) R2 z]
 .have m:=by delta xZ at e;erw[c]at e;show e
  ext m;calc#v[F,i,p,_,_,R,c,λv q j s l r=>?_];have y:=r;calc#v[δ,y,?_];show IA (k _ _ _ s l (yb δ))
 .rw[P9 c]at e;ext e
def adB{eo:List Expr}(u:PE X a (tF G f))(w:PE X (.BoolOp .Or (b::eo) pos) (tF G g)):PE X (.BoolOp .Or (a::b::eo) pos) (tF G (cOr f g)):=PE.c3 (ac4 u w) λB H Q x=>by
 let#v[F,i,p,d,o,R,e,k]:=x;rcases Lm (f:=f) (ρ:=i)with ⟨h,c⟩|⟨h,c⟩|c
 .have m:=by delta cOr at e;erw[c]at e;show e
  ext m;calc#v[F,i,p,_,_,R,c,λv q j s l r=>?_];calc#v[γ,r,?_];show IB (k _ _ _ s l (yb γ))
 .have m:=by delta cOr at e;erw[c]at e;show e
  calc#v[F,i,p,_,h,R,c,λv q j s l r=>?_];calc#v[δ,r,?_];show IA #v[F,h,q,d,o,l,m,λv A t z R2 y=>k _ _ _ (s.t z) R2 y]
 .rw[RH c]at e;ext e
#print h
def ZU(l:PE X a (tF G f)):PE X (.UnaryOp .Not a pos) (tF G (J0 f)):=PE.c3 (Y8 l) λu H Q m=>by
 let#v[F,o,c,d,p,R,e,k]:=m;delta J0 at e;split at e
 .rename_i b q j;ext e;calc#v[F,o,c,_,_,R,j,λv t h s i r=>?_];show#v[b,r,k _ _ _ s i (yb _)]
 .ext e
#print f
def adC(B:PT X c (n3 G h))(z:PE X a (tF G f))(A:PE X b (tF G g)):PE X (.IfExp c a b pos) (tF G (D' h f g)):=PE.c3 (QW B z A) λE H Q C=>by
 let#v[F,u,w,d,j,R,e,k]:=C;delta D' at e;cases l:h u with
 |none=>erw[l]at e;cases e
 |some p=>
  let#v[b,i]:=p;calc#v[F,u,w,b,i,R,l,λr x s t=>?_];cases b with
  |true=>erw[l]at e;show IB #v[F,i,r,d,j,t,e,λv y m q R2 o=>k _ _ _ (s.t q) R2 o]
  |false=>erw[l]at e;show IA #v[F,i,r,d,j,t,e,λv y m q R2 o=>k _ _ _ (s.t q) R2 o]
noncomputable def vH:FA:=λa=>U ([],a)
noncomputable def ab(f:FE) (g:FA):FA:=λe=>match f e with
 |some (d,a)=>match g a with
  |some (c,b)=>U (d::c,b)
  |none=>Z
 |none=>Z
def G5(h:ab f g i=U (j,c)):∃d r a,f i=U (d,a)/\g a=U (r,c)/\j=d::r:=by
 delta ab at h;cases e:f i with
 |none=>rw[e]at h;cases h
 |some p=>
  let#v[x,a]:=p;erw[e]at h;cases b:g a with
  |none=>erw[b]at h;cases h
  |some q=>let#v[y,l]:=q;erw[b]at h;ext h;show#v[x,y,a,J,b,J]
def zA:PA X [] (t7 G vH):=PA.c3 zO λh H Q a=>by let#v[F,f,c,d,b,R,e,k]:=a;ext e;show k _ _ _ (vF.refl _) R vV
def yF(t:PE X e (tF G f))(w:PA X b (t7 G g))(y:aE (e::b) X.a9=(δ,eval e X.a9)::aE b X.a9:=by rfl):PA X (e::b) (t7 G (ab f g)):=PA.c3 (xf t w y) λE H Q u=>by let#v[F,A,i,d,c,R,e,k]:=u;let#v[x,r,a,p,q,rfl]:=G5 e;show#v[F,A,i,x,a,R,p,λv j l s o z=>#v[F,a,j,r,c,o,q,λC B m h R2 rs=>k _ _ _ (s.t h) R2 (vS (df.mono h _ _ z) rs)]]
def wg(g:FA):FE:=λc=>match g c with
 |some (b,a)=>if b.length<=1000 then U (.bx b,a)else Z
 |none=>Z
def vO(g:FA):FA:=λc=>match g c with
 |some (b,a)=>if b.length<=1000 then U (b,a)else Z
 |none=>Z
#print h
def ZZ{q}(h:PA X l (t7 G g)):PE X (.Tuple l q pos) (tF G (wg g)):=PE.c3 (Re h) λy H Q m=>by
 let#v[F,f,i,d,r,R,e,k]:=m;delta wg at e;cases b:g f with
 |none=>erw[b]at e;cases e
 |some p=>
  let#v[w,t]:=p;erw[b]at e;split at e
  .rename_i o;ext e;calc#v[F,f,i,_,_,R,b,λx u j s a rs=>#v[by rw[<-vE rs];show zi o,λp c=>?_]];show k _ _ _ (s.t (vK (a.e? c) _)) (a.GX c _) (zT (fl.of vB) (bc.mono (vK (a.e? c) _) _ _ rs))
  .ext e
def VH(h:PA X l (t7 G g)):PE X (.List l pos) (Bx G (vO g)):=PE.c3 (MX h) λx H Q m=>by
 let#v[F,f,i,d,q,R,e,k]:=m;delta vO at e;cases c:g f with
 |none=>erw[c]at e;cases e
 |some p=>
  let#v[u,r]:=p;erw[c]at e;split at e
  .rename_i o;ext e;calc#v[F,f,i,_,_,R,c,λw t j s a rs=>#v[by rw[<-vE rs];show zi o,λp b=>?_]];show k _ _ _ _ s (a.gj b _) vB (a.e? b) (a.gr b) (a.apart b) rs
  .ext e
#print f
def cL(g:FA):FE:=λc=>match g c with
 |some (b,a)=>U (.ax b,a)
 |none=>Z
def VI(h:cL g c=U (d,b)):∃a,g c=U (a,b)/\d=.ax a:=by
 delta cL at h;cases e:g c with
 |none=>erw[e]at h;cases h
 |some p=>let#v[a,f]:=p;erw[e]at h;ext h;show#v[a,J,J]
def tN_F:∀c H Q,tF G (cL g) c H Q->Bx G g c H Q:=λc H Q q=>by let#v[F,t,f,d,b,R,e,k]:=q;let#v[l,m,rfl]:=VI e;calc#v[F,t,f,l,b,R,m,λp w u h s i r a o j rs=>?_];show k _ _ _ (s.t (vK a _)) (i.n? r a o j) (AI vB (bc.mono (vK a _) _ _ rs))
def Z0(h:PE X e (Bx G g)):PE X e (tF G (cL g)):=PE.c3 h tN_F
end
inductive p? where
 |nx (ρ:aU)|bk (ρ:aU)|ct (ρ:aU)
 |rt (d:D) (ρ:aU)
 |rn (ds:aZ) (ρ:aU)
abbrev FS:=aU->Option p?
def Oz(G:Bg)(F:Fr)(f:Hp)(E:F1):p?->Prop
 |.nx c=>∀b a e,vF f a->b8 G F b c a e->E.nx b e
 |.bk c=>∀b a e,vF f a->b8 G F b c a e->E.bk b e
 |.ct c=>∀b a e,vF f a->b8 G F b c a e->E.ct b e
 |.rt d c=>∀v b a e,vF f a->b8 G F b c a e->df G a d v->E.rt v e
 |.rn i c=>∀p h b a e,vF f a->b8 G F b c a e->e p=U (.ax h)->a p=Z->F.B p=Z->vr b c p->bc G a i h->E.rt (.ref p) e
inductive ItFS(G:Bg) (f:FS) (E:F1) (σ:St) (H:Hp):Prop
 |i (F ρ H0 o) (h0:b8 G F σ ρ H0 H) (h1:f ρ=U o) (h2:Oz G F H0 E o) (h3:(∀p,E.rt p=E.rt p)):ItFS G f E σ H
def ke(G:Bg)(f:FS):TS:=λE a H=>ItFS G f E a H
def Oz.nr(h:Oz G F i E o)(s:vF i j):Oz G F j E o:=by
 cases o with
 |nx f=>show λb a c e R=>h b a c (s.t e) R
 |bk f=>show λb a c e R=>h b a c (s.t e) R
 |ct f=>show λb a c e R=>h b a c (s.t e) R
 |rt d f=>show λv b a c e R=>h v b a c (s.t e) R
 |rn m f=>show λp l b a c e R=>h p l b a c (s.t e) R
#print "PS;l'" in def ϑ0.c3(h:ϑ0 X e t)(w:∀E b H,d E b H->t E b H):ϑ0 X e d:=λa s b H D I c=>h a s b H D I (w _ _ _ c)
def vZ:FS:=λa=>U (.nx a)
noncomputable def a7(f g:FS):FS:=λb=>match f b with
 |some (.nx a)=>g a
 |r=>r
section
def Z1(h:ke G vZ E a H):E.nx a H:=by let#v[F,c,b,o,R,e,k,_]:=h;ext e;show k _ _ _ (vF.refl _) R
def VJ:l' X [] (ke G vZ):=l'.c3 Ob λE a H h=>Z1 h
def RI{st:Stmt}{eo:List Stmt}(p:PS X st (ke G f))(q:l' X eo (ke G g)):l' X (st::eo) (ke G (a7 f g)):=l'.c3 (Bi p q) λE w H h=>by
 let#v[F,i,j,o,R,e,k,c]:=h;delta a7 at e;cases a:f i with
 |none=>erw[a]at e;cases e
 |some r=>
  cases r with
  |nx b=>erw[a]at e;show#v[F,i,j,_,R,a,λt l u s m=>#v[F,b,l,o,m,e,k.nr s,c],c]
  |bk b=>erw[a]at e;ext e;show#v[F,i,j,_,R,a,k,c]
  |ct b=>erw[a]at e;ext e;show#v[F,i,j,_,R,a,k,c]
  |rt d b=>erw[a]at e;ext e;show#v[F,i,j,_,R,a,k,c]
  |rn d b=>erw[a]at e;ext e;show#v[F,i,j,_,R,a,k,c]
def VL{st:Stmt}(a:PS X st (ke G f)):l' X [st] (ke G f):=Ea a
noncomputable def vQ(f:FE):FS:=λb=>match f b with
 |some (d,a)=>U (.rt d a)
 |none=>Z
noncomputable def xB(f:FA):FS:=λb=>match f b with
 |some (d,a)=>U (.rn d a)
 |none=>Z
def vW{b:Type}{f:aU->Option (b×aU)}{ρ:aU}:f ρ=Z\/∃d a,f ρ=U (d,a):=by
 cases e:f ρ with
 |none=>show .inl J
 |some p=>show .inr #v[p.1,p.2,J]
def VM(h:PE X e (tF G f)):PS X (.Return (U e) pos) (ke G (vQ f)):=PS.c3 (ML h) λE t H m=>by
 let#v[F,b,i,o,R,e,k,q]:=m;delta vQ at e;rcases vW (f:=f) (ρ:=b)with a|⟨d,c,a⟩<;>erw[a]at e
 .ext e
 .ext e;show#v[F,b,i,d,c,R,a,λv j p s l r=>k _ _ _ _ s l r]
def RJ(h:PE X e (Bx G f)):PS X (.Return (U e) pos) (ke G (xB f)):=PS.c3 (ML h) λE A H w=>by
 let#v[F,b,i,o,R,e,k,y]:=w;delta xB at e;rcases vW (f:=f) (ρ:=b)with a|⟨d,c,a⟩<;>erw[a]at e
 .ext e
 .ext e;show#v[F,b,i,d,c,R,a,λp z j x s l m q r t u=>k _ _ _ _ _ s l m q r t u]
noncomputable def v3(f:FE):FS:=λb=>match f b with
 |some (_,a)=>U (.nx a)
 |none=>Z
def RK{pos:Pos}(h:PE X e (tF G f))(p:eM e Z pos.line X.a9=pure δ:=by rfl):PS X (.Expr e pos) (ke G (v3 f)):=PS.c3 (Od h p) λE u H m=>by
 let#v[F,b,i,o,R,e,k,t]:=m;delta v3 at e;rcases vW (f:=f) (ρ:=b)with a|⟨d,c,a⟩<;>erw[a]at e
 .ext e
 .ext e;show#v[F,b,i,d,c,R,a,λv j q s l r=>k _ _ _ s l]
noncomputable def gs(c:FT) (f g:FS):FS:=λb=>match c b with
 |some (γ,a)=>f a
 |some (δ,a)=>g a
 |none=>Z
def Z2(w:PT X c (n3 G h))(t:l' X a (ke G f))(u:l' X b (ke G g)):PS X (.If c a b pos) (ke G (gs h f g)):=PS.c3 (X4 w t u) λE z H x=>by
 let#v[F,m,r,o,R,e,k,q]:=x;delta gs at e;rcases vW (f:=h) (ρ:=m)with l|⟨d,i,l⟩
 .erw[l]at e;ext e
 .calc#v[F,m,r,d,i,R,l,λj y s p=>?_];cases d with
  |true=>erw[l]at e;show IB #v[F,i,j,o,p,e,k.nr s,q]
  |false=>erw[l]at e;show IA #v[F,i,j,o,p,e,k.nr s,q]
abbrev FG:=D->aU->Option aU
inductive ItFG(G:Bg) (n:Nat) (g:FG) (v:V) (σ:St) (H:Hp) (Q:(St->Hp->Prop)):Prop
 |i (F ρ H0 d ρ') (h0:b8 G F σ ρ H0 H) (h1:df G H0 d v) (h2:g d ρ=U ρ') (h3:∀σ',σ'.drop n=σ.drop n->b8 G F σ' ρ' H0 H->Q σ' H):ItFG G n g v σ H Q
def tFG(G:Bg)(n:Nat)(g:FG):TG:=λv a H Q=>ItFG G n g v a H Q
inductive Yi(G:Bg) (n:Nat) (g:aZ->aU->Option aU) (vs:bA) (σ:St) (H:Hp) (Q:(St->Hp->Prop)):Prop
 |i (F ρ H0 ds ρ') (h0:b8 G F σ ρ H0 H) (h1:bc G H0 ds vs) (h2:g ds ρ=U ρ') (h3:∀σ',σ'.drop n=σ.drop n->b8 G F σ' ρ' H0 H->Q σ' H):Yi G n g vs σ H Q
def RM(G:Bg)(n:Nat)(g:aZ->aU->Option aU):TGs:=λa b H Q=>Yi G n g a b H Q
#print "G;'" in def Pϑ0.c3(h:Pϑ0 X e t)(w:∀v b H Q,d v b H Q->t v b H Q):Pϑ0 X e d:=λa s b H x u Q I r c=>h a s b H x u Q I r (w _ _ _ _ c)
def gN(i:Nat):FG:=λd a=>U (a.set i (.q d))
def Ln{a:Type}{l:List a}{i n:Nat}{x:a}(h:i<n):(l.set i x).drop n=l.drop n:=by apply mC;intro j;rw[fj,fj,bX,ah ()]
def RN(n:Nat)(h:PG X c (Ah i))(b:i<n):PG X c (tFG G n (gN i)):=PG.c3 h λv m H Q a=>by let#v[F,l,j,d,f,R,r,e,k]:=a;ext e;show k _ (Ln b) (R.Xi i r)
def Lo:aZ->aU->Option aU:=λa b=>match a with
 |[]=>U b
 |_=>Z
def Ap(g:FG)(c:aZ->aU->Option aU):aZ->aU->Option aU:=λb e=>match b with
 |d::r=>match g d e with
  |some a=>c r a
  |none=>Z
 |[]=>Z
def VN(h:P' X [] gNil):P' X [] (RM G n Lo):=P'.c3 h λv j H Q b=>by
 let#v[F,i,f,a,c,R,r,e,k]:=b;cases a with
 |nil=>ext e;delta bc at r;show#v[r,k _ J R]
 |cons d a=>ext e
def RO(h:P' X (e::p) (X5 (tFG G n g) (RM G n q))):P' X (e::p) (RM G n (Ap g q)):=P'.c3 h λv B H Q t=>by
 let#v[F,l,j,c,i,R,r,e,k]:=t;cases c with
 |nil=>cases e
 |cons d c=>
  let#v[z,x,rfl,u,w]:=r;delta Ap at e;cases f:g d l with
  |none=>erw[f]at e;cases e
  |some a=>erw[f]at e;show#v[z,x,J,F,l,j,d,a,R,u,f,λA s o=>#v[F,a,j,c,i,o,w,e,λm y b=>k _ (y.t s) b]]
def gT(b:aZ->aU->Option aU)(n:Nat):FG:=λd c=>match d with
 |.bx a=>if a.length=n then b a c else Z
 |_=>Z
#print h
def VO(h:PG X (.Tuple j k pos) (Y9 G.K m (RM G n l))):PG X (.Tuple j k pos) (tFG G n (gT l m)):=PG.c3 h λv w H Q p=>by
 let#v[F,u,f,d,b,R,r,e,k]:=p;cases d with
 |bx i=>
  delta gT at e;simp only at e;split at e
  .rename_i q;let#v[a,t,rfl,o,c]:=r;show#v[a,t,J,fl.mono R.sub o,by rw[<-vE c];show q,F,u,f,i,b,R,c,e,k]
  .cases e
 |_=>ext e
#print f
def Qa(f:FE)(g:FG):FS:=λc=>match f c with
 |some (d,a)=>match g d a with
  |some b=>U (.nx b)
  |none=>Z
 |none=>Z
def VP{st:Stmt}(h:PS X st (Eb (tF G f) (tFG G n g))):PS X st (ke G (Qa f g)):=PS.c3 h λE x H q=>by
 let#v[F,j,m,o,R,e,k,w]:=q;delta Qa at e;rcases vW (f:=f) (ρ:=j)with c|⟨d,a,c⟩<;>erw[c]at e
 .ext e
 .cases i:g d a with
  |none=>erw[i]at e;cases e
  |some l=>erw[i]at e;ext e;show#v[F,j,m,d,a,R,c,λv b u s p r=>#v[F,a,b,d,l,p,r,i,λt z R2=>k _ _ _ s R2]]
def vM(i:Nat)(f:FE):FS:=λb=>match f b with
 |some (d,a)=>U (.nx (a.set i (.q d)))
 |none=>Z
def OA{st:Stmt}(h:PS X st (Eb (tF G f) (Ah i))):PS X st (ke G (vM i f)):=PS.c3 h λE u H p=>by
 let#v[F,b,j,o,R,e,k,t]:=p;delta vM at e;rcases vW (f:=f) (ρ:=b)with a|⟨d,c,a⟩<;>erw[a]at e
 .ext e
 .ext e;show#v[F,b,j,d,c,R,a,λv l q s m r=>k _ _ _ s (m.Xi i r)]
def yd(i:Nat)(f:FA):FS:=λb=>match f b with
 |some (d,a)=>U (.nx (a.set i (.I d)))
 |none=>Z
def RP{st:Stmt}(h:PS X st (Eb (Bx G f) (Ah i))):PS X st (ke G (yd i f)):=PS.c3 h λE B H x=>by
 let#v[F,b,j,o,R,e,k,z]:=x;delta yd at e;rcases vW (f:=f) (ρ:=b)with a|⟨d,c,a⟩<;>erw[a]at e
 .ext e
 .ext e;show#v[F,b,j,d,c,R,a,λp A l y s m q r t u w=>k _ _ _ s (m.setLs i q r t u w)]
def K3(n:Nat)(a:aZ):aU:=a.map Sl.q++gK (n - a.length) .un
def fx(b n:Nat)(f:FS):aZ->Option D:=λa=>if a.length=b then match f (K3 n a)with
 |some (.rt d _)=>U d
 |some (.rn a _)=>U (.ax a)
 |some (.nx _)=>U .cx
 |_=>Z
 else Z
def y?(b n:Nat)(f:FS):aZ->Option aZ:=λa=>if a.length=b then match f (K3 n a)with
 |some (.rn a _)=>U a
 |_=>Z
 else Z
inductive IspF(G:Bg) (g:aZ->Option D) (vs:bA) (H:Hp) (Q:VK) (_x3:XK):Prop
 |i (H0 ds d) (h0:vF H0 H) (h1:bc G H0 ds vs) (h2:g ds=U d) (h3:∀v H0' H',vF H0 H0'->vF H0' H'->vF H H'->(∀b o,H0' b=U o->H0 b=U o\/H b=Z)->df G H0' d v->Q v H'):IspF G g vs H Q _x3
def gp(G:Bg)(g:aZ->Option D):Sp:=λa H Q _x3=>IspF G g a H Q _x3
inductive IspN(G:Bg) (g:aZ->Option aZ) (vs:bA) (H:Hp) (Q:VK) (_x3:XK):Prop
 |i (H0 ds d) (h0:vF H0 H) (h1:bc G H0 ds vs) (h2:g ds=U d) (h3:∀p xs H0' H',vF H0 H0'->vF H0' H'->vF H H'->(∀b o,H0' b=U o->H0 b=U o\/H b=Z)->H p=Z->H' p=U (.ax xs)->H0' p=Z->bc G H0' d xs->Q (.ref p) H'):IspN G g vs H Q _x3
def vf(G:Bg)(g:aZ->Option aZ):Sp:=λa H Q _x3=>IspN G g a H Q _x3
def Gr{n:Nat}{b:aZ}{i:Nat}{s:Sl}(h:(K3 n b)[i]?=U s):s=.un\/∃d,b[i]?=U d/\s=.q d:=by
 delta K3 at h;by_cases a:i<b.length
 .rw[dG (by exists a),br,aH a]at h;ext h;show .inr #v[_,aH a,J]
 .rw[eA (by exists a),jc]at h;split at h
  .ext h;show .inl J
  .ext h
def zj{N:aC}{a:bA}{i:Nat}{v:V}(h:a[i]?=U v):((L2.start N a)[i]?).join=U v:=by delta L2.start;have b:=(bT.1 h).1;rw[dG (by exists b),br,h];rfl
def Jg{N:aC}(s:vF H0 H)(r:bc G H0 ds vs)(m:vs.length<=N.length):b8 G #v[H0,H,[]] (L2.start N vs) (K3 N.length ds) H0 H where
 sub:=s
 g0:=vF.refl _
 keep:=λb o e z=>e
 fr:=λb o e=>.inl e
 am:=λa h=>by ext h
 len:=by delta L2.start K3;rw[aG,aG,ak,ak,cW,cW,vE r]
 sl:=λi t e=>by
  rcases Gr e with rfl|⟨d,c,rfl⟩
  .trivial
  .let#v[v,f,l]:=xD r c;show#v[v,zj f,l]
 ap:=λi j t u a z e z ht=>by rcases Gr e with rfl|⟨d,_,rfl⟩<;>ext ht
#print h
def Lp(h:fx j n f b=U d):b.length=j/\((∃a,f (K3 n b)=U (.rt d a))\/(∃c a,f (K3 n b)=U (.rn c a)/\d=.ax c)\/∃a,f (K3 n b)=U (.nx a)/\d=.cx):=by
 delta fx at h;split at h
 .rename_i i;calc#v[i,?_];split at h
  .rename_i e;ext h;show .inl #v[_,e]
  .rename_i e;ext h;show .inr (.inl #v[_,_,e,J])
  .rename_i e;ext h;show .inr (.inr #v[_,e,J])
  .ext h
 .ext h
def Lq(h:y? c n f a=U d):a.length=c/\∃i,f (K3 n a)=U (.rn d i):=by
 delta y? at h;split at h
 .rename_i b;calc#v[b,?_];split at h
  .rename_i e;ext h;show#v[_,e]
  .ext h
 .ext h
end
#print f
def VQ{N:aC}(hN:I<=N.length)(h:gp G (fx I N.length f) O H Q E):ke G f { nx:=λg c=>Q .cx c,rt:=Q } (L2.start N O) H:=by
 let#v[l,P,d,s,r,e,k]:=h;let#v[C,A]:=Lp e;clear e;have R:=Jg s r (by rw[<-vE r,C];show hN);have fin:∀{j:St} {x:aU} {a c:Hp},b8 G #v[l,H,[]] j x a c->vF H c/\vF a c/\∀b o,a b=U o->l b=U o\/H b=Z:=λi=>#v[λb o e=>i.keep b o e (by simp),i.sub,i.fr];rcases A with ⟨y,e⟩|⟨S,y,e,rfl⟩|⟨y,e,rfl⟩
 .calc#v[_,_,l,_,R,e,λv j a c u i M=>?_,λg=>J];let#v[m,q,t]:=fin i;show k v a c u q m t M
 .calc#v[_,_,l,_,R,e,λp T j a c u i F w B z rs=>?_,λg=>J];have R2:=i.n? F w B z;let#v[m,q,t]:=fin R2;show k _ _ c (u.t (vK w _)) q m t (AI vB (bc.mono (vK w _) _ _ rs))
 .calc#v[_,_,l,_,R,e,λj a c u i=>?_,λg=>J];let#v[m,q,t]:=fin i;show k _ a c u q m t BI
def VR{N:aC}(hN:u<=N.length)(h:vf G (y? u N.length f) x H Q E):ke G f { nx:=λn a=>Q .cx a,rt:=Q } (L2.start N x) H:=by let#v[j,B,d,s,r,e,k]:=h;let#v[q,C,e]:=Lq e;have R:=Jg s r (by rw[<-vE r,q];show hN);calc#v[_,_,j,_,R,e,λp y z c a w i t l m A rs=>?_,λn=>J];show k p y c a w i.sub (λb o e=>i.keep b o e (by simp)) i.fr m t l rs
#print "I gp;J vf" in def adϑ0(c:∀a d,g a=U d->a.length=f):∀b H Q E,ϑ1 G g b H Q E->b.length=f:=λb H Q E h=>by let#v[i,a,d,_,r,e,_]:=h;rw[<-vE r];show c _ _ e
#print "S fx p;T y? q" in def Vϑ0:∀a d,ϑ1 b n f a=U d->a.length=b:=λz z h=>(Lϑ2 h).1
def E5{c:Type}(g:aZ->Option c)(a:FA):aU->Option (c×aU):=λf=>match a f with
 |some (e,b)=>match g e with
  |some d=>U (d,b)
  |none=>Z
 |none=>Z
abbrev vt(g:aZ->Option D)(a:FA):FE:=E5 g a
abbrev v7(g:aZ->Option aZ)(a:FA):FA:=E5 g a
def DP{j:Type}{g:aZ->Option j}{a:FA}{ρ c:aU}{d:j}(h:E5 g a ρ=U (d,c)):∃b,a ρ=U (b,c)/\g b=U d:=by
 delta E5 at h;rcases vW (f:=a) (ρ:=ρ)with e|⟨b,l,e⟩<;>erw[e]at h
 .ext h
 .cases i:g b with
  |none=>erw[i]at h;cases h
  |some x=>erw[i]at h;ext h;show#v[b,e,i]
section
def VU(hd:∀H,bc G H dds dvs):∀h H Q,tF G (vt (λb=>g (b++dds)) a) h H Q->zI (gp G g) dvs E (t7 G a) h H Q:=λh H Q t=>by let#v[F,y,l,d,f,R,e,k]:=t;let#v[b,q,r]:=DP e;calc#v[F,y,l,b,f,R,q,λz m o s i rs=>#v[m,b++dds,d,i.sub,xn rs (hd _),r,λv p c j w x fr u=>?_]];show k v p c (s.t j) (i.gk x j w fr) u
def VW(hd:∀H,bc G H dds dvs):∀i H Q,Bx G (v7 (λc=>g (c++dds)) a) i H Q->zI (vf G g) dvs E (t7 G a) i H Q:=λi H Q x=>by let#v[F,I,m,d,h,R,e,k]:=x;let#v[c,t,u]:=DP e;calc#v[F,I,m,c,h,R,t,λM o q s b rs=>#v[o,c++dds,d,b.sub,xn rs (hd _),u,λp C r f l A B fr j y w z=>?_]];show k p C r f (s.t l) (b.gk B l A fr) y w (b.gr j) (b.apart j) z
end
section
#print "VX gp tF t U;RQ vf Bx 7 W" in def ϑ0(hd:∀H,bc G H dds dvs)(h:PE X e (zI (ϑ1 G g) dvs E (t7 G a))):PE X e (ϑ2 G (vϑ3 (λb=>g (b++dds)) a)):=PE.c3 h (Vϑ4 hd)
def Qb(h:PE X e (zI (vf G g) [] E GQ)):PE X e (Bx G (v7 g vH)):=PE.c3 h λA H Q o=>by let#v[F,z,f,d,x,R,e,k]:=o;let#v[y,j,l]:=DP e;ext j;show#v[f,[],d,R.sub,vV,l,λp w i a c t u fr b q m r=>k p w i a c (R.gk u c t fr) q m (R.gr b) (R.apart b) r]
def Qc:aC->aZ->Str->Option D
 |n::b,d::a,f=>if n=f then U d else Qc b a f
 |_,_,_=>Z
theorem Jh:∀{h:aC} {b:aZ} {a:bA} {f:Str} {d:D},bc G H b a->Qc h b f=U d->∃v,(h.zip a).lookup f=U v/\df G H d v
 |[],b,a,f,d,r,e=>by simp[Qc]at e
 |n::h,[],a,f,d,r,e=>by simp[Qc]at e
 |n::h,p::b,a,f,d,r,e=>by
  let#v[v,q,rfl,l,m]:=r;delta Qc at e;by_cases c:n=f
  .rw[af c]at e;ext e;subst c;show#v[v,by simp[dQ],l]
  .rw[ah c]at e;let#v[w,i,j]:=Jh m e;calc#v[w,?_,j];have o:=beq_eq_false_iff_ne.2 λz=>c z.symm;erw[fo,dQ,o];show i
def vU(ok:Nat->Bool)(f:Str):D->Option D
 |.obj c b a=>if ok c=γ then Qc b a f else Z
 |_=>Z
#print h
def RR(A:PE X e (tF G t))(j:∀c,ok c=γ->U? X.K (G.ca c)/\AZ X.K (G.ca c) f)(z:fA e f X.a9 (eval e X.a9)=eval e X.a9:=by rfl):PE X (.Attribute e f pos) (tF G (c1 (vU ok f) t)):=PE.c3 (Zm A z) λT H Q B=>by
 let#v[F,I,m,d,h,R,e,k]:=B;let#v[x,q,b]:=Gp e;cases x with
 |obj c P N=>
  delta vU at b;simp only at b;split at b
  .rename_i l;calc#v[F,I,m,_,h,R,q,λv M o s i r=>?_];let#v[a,p,S,rfl,u,O,y]:=r;let#v[w,C,E]:=Jh y b;show#v[a,_,p,_,w,J,i.sub _ _ u,(j c l).1,(j c l).2,C,k _ _ _ s i E]
  .cases b
 |_=>ext b
#print f
def MOk(X:Cx)(C:Addr)(m:Str)(d:Sp)(dvs:bA)(E:XK):Prop:=∃(k:Nat) (f:Addr) (b:cD) (c:aC) (a:List aa),U? X.K C/\Meth X.K C m f/\zh X.prog X.w X.K X.mg X.a8 Dv k f b c d/\xi k X.A/\ki X.K b c a/\d? dvs a/\r? Dv X E
def v9(g:Nat->Option (aZ->Option D))(m:Str)(f:FE)(a:FA):FE:=λo=>match f o with
 |some (.obj c i j,b)=>match g c with
  |some h=>if i.contains m=γ then Z else match a b with
   |some (l,e)=>match h (.obj c i j::l)with
    |some d=>U (d,e)
    |none=>Z
   |none=>Z
  |none=>Z
 |_=>Z
#print h
def G6(h:v9 g m f a ρ=U (d,t)):
  ∃c e i b l j,f ρ=U (.obj c e i,b)/\g c=U l/\e.contains m=δ/\a b=U (j,t)/\l (.obj c e i::j)=U d:=by
 delta v9 at h;split at h
 .rename_i c e i b u;cases o:g c with
  |none=>erw[o]at h;cases h
  |some l=>
   erw[o]at h;cases p:e.contains m with
   |true=>erw[p,if_true]at h;cases h
   |false=>
    erw[p,ic,if_false]at h;rcases vW (f:=a) (ρ:=b)with q|⟨j,w,q⟩<;>erw[q]at h
    .ext h
    .cases r:l (.obj c e i::j)with
     |none=>erw[r]at h;cases h
     |some x=>erw[r]at h;ext h;show#v[c,e,i,b,l,j,u,o,p,q,r]
 .ext h
#print f
theorem DQ:∀{a:aC} {b:bA},a.contains m=δ->(a.zip b).lookup m=Z
 |[],b,h=>rfl
 |n::a,[],h=>rfl
 |n::a,x::b,h=>by rw[qh,ko]at h;erw[fo,dQ,h.1];show DQ h.2
def RS(T:Addr->Sp->Prop)(hT:∀C d,T C d->MOk X C m d dvs E)(S:PE X o ta)(P:PA X (e::i) t)
  (hst:aE (e::i) X.a9=(δ,eval e X.a9)::aE i X.a9:=by rfl) (hpl:(bJ pos (aE i X.a9)).any (·.1)=δ:=by rfl)
  (w:eval (.Call (.Attribute o m apos) (e::i) [] pos) X.a9=(do
   let M<-eval o X.a9
   standAt apos.atName
   let (f,first)<-holding [M] (getMethod M m pl)
   callWith pos f first (bJ pos (aE (e::i) X.a9)) (backToKw pos (dR [] X.a9))):=by rfl):
  PE X (.Call (.Attribute o m apos) (e::i) [] pos) (λj H Q=>ta j H λx p=>∃a C B fs d,x=.ref a/\p a=U (.nj C B fs)/\T C d/\fs.lookup m=Z/\t j p λvs y=>d (x::(vs++dvs)) y Q E):=by
 intro b s j H Q I h;calc qQ (ff (S b s j H _ I h) λu s1 zz=>?_) w;let#v[x,p,z,rx,a,C,B,fs,d,O,N,w,l,q]:=zz;let#v[k,f,fd,ps,ds,c,G,F,W,R,hd,Y]:=hT C d w;subst O;obtain rfl:u=Value.ref a:=rx;calc GP z N c G l ?_;calc jB I.ok.B?.kin G.kp (ff (P pos b s1 j p _ z q) λus s2 #v[vs,y,A,r,q2]=>#v[A.rl,?_]) hst hpl;show E1 (vs:=.ref a::vs) F W R hd Y A (.cons J r) q2
def Qd(T:Addr->Sp->Prop)(hT:∀C b,T C b->MOk X C m b dvs E)(B:PE X o O)
  (j:eval (.Call (.Attribute o m apos) [] [] pos) X.a9=(do
   let w<-eval o X.a9
   standAt apos.atName
   let (f,first)<-holding [w] (getMethod w m pl)
   callWith pos f first (bJ pos (aE [] X.a9)) (backToKw pos (dR [] X.a9))):=by rfl):
  PE X (.Call (.Attribute o m apos) [] [] pos) (λp H Q=>O p H λx e=>∃a C r fs b,x=.ref a/\e a=U (.nj C r fs)/\T C b/\fs.lookup m=Z/\b (x::dvs) e Q E):=by
 intro d s p H Q I h;calc qQ (ff (B d s p H _ I h) λu W zz=>?_) j;let#v[x,e,i,N,a,C,r,fs,b,z,y,j,l,q]:=zz;let#v[k,f,R,S,P,c,t,F,G,A,hd,M]:=hT C b j;subst z;obtain rfl:u=Value.ref a:=N;calc GP i y c t l ?_;show rL i.rl t.kp (E1 (vs:=[.ref a]) F G A hd M i (.cons J .nil) q)
def MT(G:Bg)(g:Nat->Option (aZ->Option D)):Addr->Sp->Prop:=λC a=>∃c h,g c=U h/\C=G.ca c/\a=gp G h
def VY(h:PE X (.Call (.Attribute o m apos) (e::es) [] pos) (λz H Q=>tF G f z H λx j=>∃b C u fs I,x=.ref b/\j b=U (.nj C u fs)/\MT G g C I/\fs.lookup m=Z/\t7 G a z j λvs p=>I (x::(vs++[])) p Q E)):
  PE X (.Call (.Attribute o m apos) (e::es) [] pos) (tF G (v9 g m f a)):=PE.c3 h λz H Q l=>by
 let#v[F,ρ,N,d,y,R,e,k]:=l;let#v[c,ns,ds,i,l,w,S,T,W,Y,e5]:=G6 e;calc#v[F,ρ,N,_,i,R,S,λv j O s A r=>?_];have r0:=r;let#v[b,u,xs,rfl,h1,h2,h3]:=r;calc#v[b,_,u,_,_,J,A.sub _ _ h1,#v[c,l,T,J,J],DQ W,F,i,j,w,y,A,Y,λys p q B R2 rs=>?_];change gp G l (V.ref b::(ys++[])) q Q E;rw[bD];show#v[p,_,d,R2.sub,vS (df.mono B _ _ r0) rs,e5,λv P t M t2 t3 fr rv=>k v P t (s.t (B.t M)) (R2.gk t3 M t2 fr) rv]
def RT(h:PE X (.Call (.Attribute o m apos) [] [] pos) (λu H Q=>tF G f u H λx a=>∃b C l fs q,x=.ref b/\a b=U (.nj C l fs)/\MT G g C q/\fs.lookup m=Z/\q (x::[]) a Q E)):
  PE X (.Call (.Attribute o m apos) [] [] pos) (tF G (v9 g m f vH)):=PE.c3 h λu H Q p=>by
 let#v[F,ρ,w,d,ρ',R,e,k]:=p;let#v[c,ns,ds,ρ1,p,O,A,B,I,M,N]:=G6 e;ext M;calc#v[F,ρ,w,_,_,R,A,λv a y s j r=>?_];have S:=r;let#v[b,l,xs,rfl,P,h2,h3]:=r;calc#v[b,_,l,_,_,J,j.sub _ _ P,#v[c,p,B,J,J],DQ I,?_];show#v[a,_,d,j.sub,vS S vV,N,λv z i t W Y fr T=>k v z i (s.t t) (j.gk Y t W fr) T]
inductive IspI(G:Bg) (c:Nat) (g:aZ->Option (aC×aZ)) (vs:bA) (H:Hp) (Q:VK) (_x3:XK):Prop
 |i (p dx:Addr) (us:bA) (H0:Hp) (ds:aZ) (ns:aC) (es:aZ) (h0:vs=.ref p::us) (h1:H p=U (.nj (G.ca c) dx [])) (h2:H0 p=Z) (h3:vF H0 H) (h4:bc G H0 ds us) (h5:g ds=U (ns,es)) (h6:∀ys dx' H0' H',vF H0 H0'->vF H0' H'->(∀b o,H b=U o->b≠p->H' b=U o)->(∀b o,H0' b=U o->H0 b=U o\/H b=Z)->H0' p=Z->H' p=U (.nj (G.ca c) dx' (ns.zip ys))->ns.length=ys.length->bc G H0' es ys->Q .cx H'):IspI G c g vs H Q _x3
def spI(G:Bg)(c:Nat)(g:aZ->Option (aC×aZ)):Sp:=λa H Q _x3=>IspI G c g a H Q _x3
def wm(c:Nat)(g:aZ->Option (aC×aZ))(a:FA):FE:=λh=>match a h with
 |some (d,b)=>match g d with
  |some (f,e)=>U (.obj c f e,b)
  |none=>Z
 |none=>Z
def VZ(hd:∀H,bc G H dds dvs)(h:PE X e (X8 (G.ca c) (spI G c g) dvs E (t7 G a))):PE X e (tF G (wm c (λm=>g (m++dds)) a)):=PE.c3 h λσ H Q hh=>by
 let#v[F,N,T,d,O,R,e,k]:=hh;delta wm at e;rcases vW (f:=a) (ρ:=N)with y|⟨m,ρ1,y⟩<;>erw[y]at e
 .ext e
 .cases A:g (m++dds)with
  |none=>erw[A]at e;cases e
  |some q=>
   let#v[ns,es]:=q;erw[A]at e;ext e;calc#v[F,N,T,m,O,R,y,λxs P j s l rs x r p hdx ne=>?_];have I:(el j r (.g? x)) x=Z:=by rw[vC (λz=>ne z.symm)];show p
   have M:vF j (el (el j r (.g? x)) x (.nj (G.ca c) r [])):=(vK hdx _).t (vK I _);calc#v[x,r,_,P,m++dds,ns,es,J,vB,l.e? p,l.sub.t M,xn rs (hd _),A,λys w W Y S t2 t3 fr C hp hl ry=>#v[J,?_]];have t4:=λb o e=>t3 b o (M b o e) (ya e p);have B:∀b o,W b=U o->P b=U o\/j b=Z:=λb o e=>by
    rcases fr b o e with q|q
    .show .inl q
    .cases z:j b with
     |none=>show .inr J
     |some u=>rw[M b u z]at q;ext q
   have R2:=l.gk t4 S t2 B;have hb:=l.gr p;have R3:=R2.n? hp C hb (λi t ei to z=>l.apart p i t ei to z);calc k _ _ _ (s.t (S.t (vK C _))) R3 ?_;show#v[x,w,ys,J,vB,hl,bc.mono (vK C _) _ _ ry]
def wo(h:Nat)(i:Nat)(f:Str)(j:FE):FS:=λl=>match j l with
 |some (d,a)=>match a[i]? with
  |some (.ob c b e)=>if c=h then if b.contains f=γ then Z else if e.length=b.length then if b.length<900 then U (.nx (a.set i (.ob c (b++[f]) (e++[d]))))else Z else Z else Z
  |_=>Z
 |none=>Z
theorem Lr:∀{a:aC} {b:bA},a.contains f=δ->a.length=b.length->Bj f v (a.zip b)=(a++[f]).zip (b++[v])
 |[],[],h,l=>rfl
 |[],x::b,h,l=>by cases l
 |n::a,[],h,l=>by cases l
 |n::a,x::b,h,l=>by
  rw[qh,ko]at h;have c:¬n=f:=λz=>by rw[z]at h;simp at h
  have d:=Lr (v:=v) h.2 (by exists l);change Bj f v ((n,x)::a.zip b)=_;rw[show Bj f v ((n,x)::a.zip b)=(if n=f then (n,v)::a.zip b else (n,x)::Bj f v (a.zip b)) from J,ah c,d];rfl
#print h
def V4{st:Stmt}(h:PS X st (sFld X.K (AC i) (tF G x) f))(y:U? X.K (G.ca p)/\AZ X.K (G.ca p) f):PS X st (ke G (wo p i f x)):=PS.c3 h λE σ H N=>by
 let#v[F,j,z,o,R,e,k,k2]:=N;delta wo at e;rcases vW (f:=x) (ρ:=j)with b|⟨d,l,b⟩<;>erw[b]at e
 .ext e
 .split at e
  .rename_i c O T t;split at e
   .rename_i hcc;subst hcc;split at e
    .ext e
    rename_i hnc;split at e
    .rename_i Y;split at e
     .rename_i W;ext e;calc#v[F,j,z,d,l,R,b,λv S A s m r=>?_];let#v[a,q,P,u,B,C,I,w,M]:=m.sl i _ t;calc#v[_,yc u,a,_,q,_,J,B,y.1,y.2,by rw[fU];omega,?_];have hnf:O.contains f=δ:=by exists hnc
      rw[Lr hnf w];calc k _ _ _ s (m.mut t J u (λQ hH=>?_) J);show#v[a,q,P++[v],J,hH,C,I,by rw[aG,aG,w];rfl,xn M (vS r vV)]
     .ext e
    .ext e
   .ext e
  .ext e
#print f
def stI(c n:Nat)(a:aZ):aU:=.ob c [] []::K3 (n - 1) a
def z5(c h n:Nat)(f:FS):aZ->Option (aC×aZ):=λa=>if a.length=h then match f (stI c n a)with
 |some (.nx i)=>match (i:aU)[0]? with
  |some (Sl.ob e d b)=>if e=c then if d.length=b.length then U (d,b)else Z else Z
  |_=>Z
 |_=>Z
 else Z
#print h
def G7(h:z5 c m n f b=U q):b.length=m/\∃a,f (stI c n b)=U (.nx a)/\a[0]?=U (.ob c q.1 q.2)/\q.1.length=q.2.length:=by
 delta z5 at h;split at h
 .rename_i l;calc#v[l,?_];split at h
  .rename_i a e;split at h
   .rename_i o r p d;split at h
    .rename_i j;split at h
     .rename_i i;subst j;ext h;show#v[a,e,d,i]
     .ext h
    .ext h
   .ext h
  .ext h
 .ext h
#print f
def OB{N:aC}(hN:M+1<=N.length)(h:spI G c (z5 c M N.length f) vs H Q E):ke G f { nx:=λg H'=>Q .cx H',rt:=Q } (L2.start N vs) H:=by
 let#v[p,dx,us,H0,ds,ns,es,rfl,A,h0,s,r,e,k]:=h;let#v[X,ρ,l,x,z]:=G7 e;have gets:∀{i:Nat} {t:Sl},(stI c N.length ds)[i]?=U t->(i=0/\t=.ob c [] [])\/t=.un\/∃(j:Nat) (d:D),i=j+1/\ds[j]?=U d/\t=.q d:=λ{i t} e=>by
  cases i with
  |zero=>ext e;show .inl #v[J,J]
  |succ j=>
   have C:=e;rcases Gr C with rfl|⟨d,l,rfl⟩
   .show .inr (.inl J)
   .show .inr (.inr #v[j,d,J,l,J])
 have R:b8 G #v[H0,H,[p]] (L2.start N (.ref p::us)) (stI c N.length ds) H0 H:={
  sub:=s
  g0:=vF.refl _
  keep:=λb o e g=>e
  fr:=λb o e=>.inl e
  am:=λa ha=>by
   have y:=by exists ha
   subst y;show#v[_,A]
  len:=by delta L2.start stI K3;erw[aG,ak,cW,aK];rw[<-vE r,kz,sA,r9 1]
  sl:=λi t e=>by
   rcases gets e with ⟨rfl,rfl⟩|rfl|⟨j,d,rfl,l,rfl⟩
   .show#v[p,dx,[],zj J,A,h0,by simp,J,vV]
   .trivial
   .let#v[v,x,z]:=xD r l;show#v[v,zj (by exists x),z]
  ap:=λi j t u a hij F I ht B=>by
   rcases gets F with ⟨rfl,rfl⟩|rfl|⟨_,_,_,_,rfl⟩
   .rcases gets I with ⟨rfl,rfl⟩|rfl|⟨_,_,_,_,rfl⟩
    .show au J hij
    .ext B
    .ext B
   .ext ht
   .cases ht }
 calc#v[_,_,H0,_,R,l,λσ' q H' s' m=>?_,λg=>J];let#v[a,w,W,q1,q2,O,P,S,T]:=m.sl 0 _ x;have y:=by exists P
 subst y;show k W w q H' s' m.sub (λb o e n=>m.keep b o e (by exists n)) m.fr O q2 S T
end
def Sl.L:Sl->Option aZ
 |.I a=>U a
 |.pm a=>U a
 |_=>Z
def Sl.putL:Sl->aZ->Sl
 |.pm _,a=>.pm a
 |_,a=>.I a
def Sl.vw{s:Sl}(h:s.L=U a):s.g?=γ:=by ext s<;>first|rfl|ext h
def Sl.putL_L{s:Sl}:(s.putL a).L=U a:=by ext s<;>rfl
section
theorem DO.ax{o:Option V}{s:Sl}{ds:aZ}(h:DO G F j H o s)(e:s.L=U ds):∃a xs,o=U (.ref a)/\H a=U (.ax xs)/\j a=Z/\bc G j ds xs:=by
 cases s with
 |I b=>ext e;let#v[a,xs,c,d,f,l,i]:=h;show#v[a,xs,c,d,f,i]
 |pm b=>ext e;let#v[a,xs,c,d,f,l,i]:=h;show#v[a,xs,c,d,f,i]
 |_=>ext e
def b8.mutL(R:b8 G F t q l H)(o:q[i]?=U s)(p:s.L=U z)(m:(t[i]?).join=U (.ref a))(r:bc G l d c):
  b8 G F t (q.set i (s.putL d)) l (el H a (.ax c)):=by
 have ok:=R.sl i s o;rw[m]at ok;calc R.mut o (Sl.vw p) m (λy hH=>?_) (Sl.vw Sl.putL_L);cases s with
 |I e=>let#v[b,x,f,u,h,j,w]:=ok;ext f;show#v[a,c,J,hH,h,j,r]
 |pm e=>let#v[b,x,f,u,h,j,w]:=ok;ext f;show#v[a,c,J,hH,h,j,r]
 |_=>ext p
end
def xh(ρ:aU)(i:Nat):Option aZ:=match ρ[i]? with
 |some s=>s.L
 |none=>Z
def yw(h:xh ρ i=U a):∃s,ρ[i]?=U s/\s.L=U a:=by
 delta xh at h;cases e:ρ[i]? with
 |none=>rw[e]at h;cases h
 |some s=>rw[e]at h;show#v[s,J,h]
def putAt(ρ:aU)(i:Nat)(a:aZ):aU:=match ρ[i]? with
 |some s=>ρ.set i (s.putL a)
 |none=>ρ
def zP(i:Nat)(f:FE):FE:=λc=>match xh c i with
 |some _=>match f c with
  |some (d,a)=>match xh a i with
   |some b=>if b.length<1000 then U (.cx,putAt a i (b++[d]))else Z
   |none=>Z
  |none=>Z
 |none=>Z
section
def ye(R:b8 G F m ρ e H)(h:xh ρ i=U o):∃a d,m[i]?=U (U (.ref a))/\H a=U (.ax d)/\bc G e o d/\
  (∀b c,bc G e b c->b8 G F m (putAt ρ i b) e (el H a (.ax c))):=by
 let#v[s,f,j]:=yw h;let#v[a,d,l,p,t,q]:=(R.sl i s f).ax j;calc#v[a,d,yc l,p,q,λb c r=>?_];delta putAt;rw[f];show R.mutL f j l r
#print h
def Qe(h:PE X e (tBM G.K "list" JV (AC i) (t7 G (ab f vH)))):PE X e (tF G (zP i f)):=PE.c3 h λσ H Q z=>by
 let#v[F,c,t,d,N,R,e,k]:=z;delta zP at e;cases j:xh c i with
 |none=>erw[j]at e;cases e
 |some y=>
  erw[j]at e;rcases vW (f:=f) (ρ:=c)with l|⟨x,b,l⟩<;>erw[l]at e
  .ext e
  .cases m:xh b i with
   |none=>erw[m]at e;cases e
   |some S=>
    erw[m]at e;split at e
    .rename_i T;ext e;let#v[a,M,p,C,Y,_]:=ye R j;calc#v[.ref a,p,.inl #v[J,M,gi.of C],F,c,t,[x],b,R,by delta ab;rw[l];rfl,λys O u s w rs=>?_];let#v[v,W,rfl,B,A]:=rs;subst A;let#v[P,o,q,E,r,I]:=ye w m;rw[p]at q;ext q;show#v[a,o,v,J,J,E,by rw[<-vE r];show Bk (),k _ _ _ s (I _ _ (xn r (vS B vV))) BI]
    .ext e
#print f
def OC(i:Nat):FE:=λa=>match xh a i with
 |some (d::b)=>U (d,putAt a i b)
 |_=>Z
#print h
def V5(h:PE X e (tBM G.K "list" MZ (AC i) (Ak (tC (.int 0)) GQ))):PE X e (tF G (OC i)):=PE.c3 h λz H Q f=>by
 let#v[F,y,t,d,q,R,e,k]:=f;delta OC at e;split at e
 .rename_i u w c;ext e;let#v[a,x,m,b,o,p]:=ye R c;let#v[v,r,rfl,j,l]:=o;refine#v[.ref a,m,.inl #v[J,_,gi.of b],a,v::r,0,0,v,J,J,b,by decide,by decide,?_,J,?_]
  .delta seqIndex?;simp
  .show k _ _ _ (vF.refl _) (p _ _ l) j
 .ext e
#print f
def Ei(r:bc G b a c)(h:z0 a i=U d):∃v,z0 c i=U v/\df G b d v:=by
 delta z0 at h ⊢;rw[<-vE r];cases e:ixN a.length i with
 |none=>rw[e]at h;cases h
 |some j=>rw[e]at h;show xD r h
def E6(i:Nat)(f:FE):FE:=λb=>match xh b i with
 |some _=>match f b with
  |some (.int j,a)=>match xh a i with
   |some c=>match z0 c j with
    |some d=>U (d,a)
    |none=>Z
   |none=>Z
  |_=>Z
 |none=>Z
#print h
def Z3(h:PE X e (tOp (PV G.K) (AC i) (tF G f))):PE X e (tF G (E6 i f)):=PE.c3 h λσ H Q I=>by
 let#v[F,t,y,d,W,R,e,k]:=I;delta E6 at e;cases l:xh t i with
 |none=>erw[l]at e;cases e
 |some C=>
  erw[l]at e;let#v[A,T,p,_]:=ye R l;split at e
  .rename_i j m E;cases b:xh m i with
   |none=>erw[b]at e;cases e
   |some B=>
    erw[b]at e;cases c:z0 B j with
    |none=>erw[c]at e;cases e
    |some x=>erw[c]at e;ext e;calc#v[.ref A,p,F,t,y,_,_,R,E,λu Y z s o r=>?_];subst r;let#v[a,S,q,M,N,s4]:=ye o b;rw[p]at q;ext q;let#v[w,O,P]:=Ei N c;show#v[_,S,j,w,J,J,gi.of M,O,k _ _ _ s o P]
  .ext e
#print f
def vu(i:Nat):FE:=λb=>match b[i]? with
 |some (.I a)=>U (.ax a,b.set i (.q (.ax a)))
 |some (.dk c a)=>U (.J c a,b.set i (.q (.J c a)))
 |some (.q d)=>U (d,b)
 |_=>Z
theorem b8.toIm(R:b8 G F σ ρ H0 H)(hi:ρ[i]?=U s)(hs:(σ[i]?).join=U (.ref p))(so:s.g?=γ)(C:H p=U o)(h0:H0 p=Z)(f:F.B p=Z)(r:df G (el H0 p o) d (.ref p)):
  b8 G F σ (ρ.set i (.q d)) (el H0 p o) H where
 sub:=λb u e=>by
  by_cases f:b=p
  .subst f;rw[vB]at e;ext e;show C
  .rw[vC f]at e;show R.sub _ _ e
 g0:=R.g0.t (vK h0 o)
 keep:=R.keep
 fr:=λb u e=>by
  by_cases c:b=p
  .subst c;show .inr f
  .rw[vC c]at e;show R.fr _ _ e
 am:=R.am
 len:=by rw[eE];show R.len
 sl:=λj t e=>by
  rw[bX]at e;by_cases h:i=j
  .subst h;rw[af J]at e;split at e
   .ext e;show#v[_,hs,r]
   .ext e
  .rw[ah h]at e;calc(R.sl j t e).gk (vK h0 o) (λa u n n q=>q) λa u z to q q0=>?_;rw[vC (λy=>by subst y;show R.ap j i t s a (λy=>h y.symm) e hi to so z hs)];show q0
 ap:=λj k t u b hjk w A l tk E vk=>by
  have ma:∀{m:Nat} {x:Sl},(ρ.set i (.q d))[m]?=U x->x.g?=γ->ρ[m]?=U x:=λ{m x} e I=>by
   rw[bX]at e;by_cases h:i=m
   .subst h;rw[af J]at e;split at e
    .ext e;ext I
    .ext e
   .rw[ah h]at e;show e
  show R.ap j k t u b hjk (ma w l) (ma A tk) l tk E vk
theorem b8.toImD(R:b8 G F σ ρ H0 H)(hi:ρ[i]?=U s)(hs:(σ[i]?).join=U (.ref p))(so:s.g?=γ)(h0:H0 p=Z)(f:F.B p=Z)(r:df G (el H0 p o) d (.ref p)):
  b8 G F σ (ρ.set i (.q d)) (el H0 p o) (el H p o) where
 sub:=λb u e=>by
  by_cases f:b=p
  .subst f;rw[vB]at e ⊢;show e
  .rw[vC f]at e ⊢;show R.sub _ _ e
 g0:=R.g0.t (vK h0 o)
 keep:=λb u e n=>by rw[vC (λz=>by subst z;rw[f]at e;ext e)];show R.keep b u e n
 fr:=λb u e=>by
  by_cases c:b=p
  .subst c;show .inr f
  .rw[vC c]at e;show R.fr _ _ e
 am:=λb hm=>by
  by_cases c:b=p
  .subst c;show#v[o,vB]
  .rw[vC c];show R.am b hm
 len:=by rw[eE];show R.len
 sl:=λj t e=>by
  rw[bX]at e;by_cases h:i=j
  .subst h;rw[af J]at e;split at e
   .ext e;show#v[_,hs,r]
   .ext e
  .rw[ah h]at e;refine(R.sl j t e).gk (vK h0 o) (λa u z to q=>?_) λa u z to q q0=>?_
   .rw[vC (λy=>by subst y;show R.ap j i t s a (λy=>h y.symm) e hi to so z hs)];show q
   .rw[vC (λy=>by subst y;show R.ap j i t s a (λy=>h y.symm) e hi to so z hs)];show q0
 ap:=λj k t u b hjk w A l tk C vk=>by
  have ma:∀{m:Nat} {x:Sl},(ρ.set i (.q d))[m]?=U x->x.g?=γ->ρ[m]?=U x:=λ{m x} e E=>by
   rw[bX]at e;by_cases h:i=m
   .subst h;rw[af J]at e;split at e
    .ext e;ext E
    .ext e
   .rw[ah h]at e;show e
  show R.ap j k t u b hjk (ma w l) (ma A tk) l tk C vk
#print h
def adL(h:PE X e (AC i)):PE X e (tF G (vu i)):=PE.c3 (PE.ghost h) λE H Q z=>by
 let#v[F,C,u,d,A,R,e,k]:=z;delta vu at e;split at e
 .rename_i r b;ext e;let#v[a,q,f,l,c,m,p]:=R.sl i _ b;have j:=AI vB (bc.mono (vK c _) _ _ p);show#v[_,yc f,.inl (k _ _ _ (vK c _) (R.toIm b f J l c m j) j)]
 .rename_i t r b;ext e;let#v[a,q,f,l,c,m,p,y]:=R.sl i _ b;calc#v[_,yc f,.inr #v[a,_,l,λo=>?_]];have j:df G (el u a (.l? o (.dK (t.zip q)))) (.J t r) (.ref a):=by delta df;show#v[a,o,q,J,vB,p,bc.mono (vK c _) _ _ y]
  show k _ _ _ (vK c _) (R.toImD b f J c m j) j
 .rename_i B b;ext e;let#v[v,w,x]:=R.sl i _ b;show#v[v,yc w,.inl (k _ _ _ (vF.refl _) R x)]
 .ext e
#print f
def Qf(i:Nat):FA:=λa=>match a[i]? with
 |some (.I b)=>U (b,a.set i .un)
 |_=>Z
#print h
def V6(h:PE X e (AC i)):PE X e (Bx G (Qf i)):=PE.c3 h λσ H Q r=>by
 let#v[F,ρ,H0,d,ρ',R,e,k]:=r;delta Qf at e;split at e
 .rename_i ds l;ext e;let#v[a,xs,h1,h2,h3,h4,h5]:=R.sl i _ l;have ma:∀{m:Nat} {x:Sl},(ρ.set i .un)[m]?=U x->x.g?=γ->m≠i/\ρ[m]?=U x:=λ{m x} e A=>by
   rw[bX]at e;by_cases h:i=m
   .subst h;rw[af J]at e;split at e
    .ext e;ext A
    .ext e
   .rw[ah h]at e;show#v[λz=>h z.symm,e]
  have p:b8 G F σ (ρ.set i .un) H0 H:={
   sub:=R.sub,g0:=R.g0,keep:=R.keep,fr:=R.fr,am:=R.am
   len:=by rw[eE];show R.len
   sl:=λj t e=>by
    rw[bX]at e;by_cases h:i=j
    .subst h;rw[af J]at e;split at e
     .ext e;trivial
     .ext e
    .rw[ah h]at e;show R.sl j t e
   ap:=λj k t u b hjk c q o tk y vk=>R.ap j k t u b hjk (ma c o).2 (ma q tk).2 o tk y vk }
  calc#v[_,yc h1,k a xs _ _ (vF.refl _) p h2 h3 h4 (λj t c to z=>?_) h5];let#v[w,f]:=ma c to;show R.ap j i t _ a w f l to J z h1
 .ext e
end
#print f
inductive IspM(G:Bg) (g:aZ->aZ->Option (D×aZ)) (vs:bA) (H:Hp) (Q:VK) (_x3:XK):Prop
 |i (a:Addr) (us xs:bA) (H0:Hp) (es ds:aZ) (d:D) (es':aZ) (h0:vs=.ref a::us) (h1:H a=U (.ax xs)) (h2:H0 a=Z) (h3:vF H0 H) (h4:bc G H0 es xs) (h5:bc G H0 ds us) (h6:g es ds=U (d,es')) (h7:∀v xs' H0' H',vF H0 H0'->vF H0' H'->(∀b o,H b=U o->b≠a->H' b=U o)->(∀b o,H0' b=U o->H0 b=U o\/H b=Z)->H0' a=Z->H' a=U (.ax xs')->bc G H0' es' xs'->df G H0' d v->Q v H'):IspM G g vs H Q _x3
def spM(G:Bg)(g:aZ->aZ->Option (D×aZ)):Sp:=λa H Q _x3=>IspM G g a H Q _x3
def stM(n:Nat)(b a:aZ):aU:=.pm b::K3 (n - 1) a
def FB(b:aU):Option aZ:=match b with
 |.pm a::_=>U a
 |_=>Z
def Z?(h n:Nat)(f:FS):aZ->aZ->Option (D×aZ):=λe c=>if c.length=h then match f (stM n e c)with
 |some (.rt d b)=>match FB b with
  |some a=>U (d,a)
  |none=>Z
 |some (.rn i b)=>match FB b with
  |some a=>U (.ax i,a)
  |none=>Z
 |_=>Z
 else Z
def G8(h:FB b=U a):b[0]?=U (.pm a):=by
 delta FB at h;split at h
 .ext h;rfl
 .ext h
#print h
def Ls(h:Z? o n f j i=U (d,c)):i.length=o/\((∃a,f (stM n j i)=U (.rt d a)/\a[0]?=U (.pm c))\/∃l a,f (stM n j i)=U (.rn l a)/\a[0]?=U (.pm c)/\d=.ax l):=by
 delta Z? at h;split at h
 .rename_i m;calc#v[m,?_];split at h
  .rename_i x a e;cases b:FB a with
   |none=>erw[b]at h;cases h
   |some q=>erw[b]at h;ext h;show .inl #v[a,e,G8 b]
  .rename_i x a e;cases b:FB a with
   |none=>erw[b]at h;cases h
   |some q=>erw[b]at h;ext h;show .inr #v[x,a,e,G8 b,J]
  .ext h
 .ext h
section
#print f
def V7{N:aC}(hN:S+1<=N.length)(h:spM G (Z? S N.length f) vs H Q E):ke G f { nx:=λg H'=>Q .cx H',rt:=Q } (L2.start N vs) H:=by
 let#v[a,us,xs,H0,es,ds,d,es',rfl,ha,h0,s,r1,r,e,k]:=h;let#v[hl,l]:=Ls e;have gets:∀{i:Nat} {t:Sl},(stM N.length es ds)[i]?=U t->(i=0/\t=.pm es)\/t=.un\/∃(j:Nat) (d:D),i=j+1/\ds[j]?=U d/\t=.q d:=λ{i t} e=>by
  cases i with
  |zero=>ext e;show .inl #v[J,J]
  |succ j=>
   have B:=e;rcases Gr B with rfl|⟨d,l,rfl⟩
   .show .inr (.inl J)
   .show .inr (.inr #v[j,d,J,l,J])
 have R:b8 G #v[H0,H,[a]] (L2.start N (.ref a::us)) (stM N.length es ds) H0 H:={
  sub:=s
  g0:=vF.refl _
  keep:=λb o e g=>e
  fr:=λb o e=>.inl e
  am:=λb x=>by
   have I:=by exists x
   subst I;show#v[_,ha]
  len:=by delta L2.start stM K3;erw[aG,ak,cW,aK];rw[<-vE r,kz,sA,r9 1]
  sl:=λi t e=>by
   rcases gets e with ⟨rfl,rfl⟩|rfl|⟨j,d,rfl,l,rfl⟩
   .show#v[a,xs,zj J,ha,h0,by simp,r1]
   .trivial
   .let#v[v,q,C]:=xD r l;show#v[v,zj (by exists q),C]
  ap:=λi j t u b hij M O ht z=>by
   rcases gets M with ⟨rfl,rfl⟩|rfl|⟨_,_,_,_,rfl⟩
   .rcases gets O with ⟨rfl,rfl⟩|rfl|⟨_,_,_,_,rfl⟩
    .show au J hij
    .ext z
    .ext z
   .ext ht
   .cases ht }
 have fin:∀{v:V} {σ':St} {ρ':aU} {c H':Hp},vF H0 c->b8 G #v[H0,H,[a]] σ' ρ' c H'->ρ'[0]?=U (.pm es')->df G c d v->Q v H':=λs' m q y=>by
  let#v[Y,A,q1,q2,T,W,X]:=m.sl 0 _ q;have F:=by exists W
  subst F;show k _ A _ _ s' m.sub (λb o e n=>m.keep b o e (by exists n)) m.fr T q2 X y
 rcases l with ⟨ρ,l,q⟩|⟨zs,ρ,l,q,rfl⟩
 .show#v[_,_,H0,_,R,l,λv σ' c H' s' m y=>fin s' m q y,λg=>J]
 .calc#v[_,_,H0,_,R,l,λp A σ' c H' s' m P w x ap rs=>?_,λg=>J];show fin (s'.t (vK w _)) (m.n? P w x ap) q (AI vB (bc.mono (vK w _) _ _ rs))
def Yj(j:∀f b d,g f b=U d->b.length=l):∀c H Q E,spM G g c H Q E->c.length=l+1:=λc H Q E h=>by let#v[a,o,p,m,f,b,d,i,rfl,_,_,_,_,r,e,_]:=h;rw[aK,<- vE r,j _ _ _ e]
def V8:∀b a d,Z? c n f b a=U d->a.length=c:=λz z d h=>(Ls h).1
def b8.call1(R:b8 G F σ ρ H0 H)(hi:ρ[i]?=U s)(hs:s.L=U es)(d:(σ[i]?).join=U (.ref b))
  (C:vF H0 a) (s2:vF a H') (p:∀c o,H c=U o->c≠b->H' c=U o) (fr:∀c o,a c=U o->H0 c=U o\/H c=Z) (h0:a b=Z) (l:H' b=U (.ax A)) (r:bc G a es' A):
  b8 G F σ (ρ.set i (s.putL es')) a H':=by
 have so:=Sl.vw hs;let#v[X,u,B,Y,e3,E]:=(R.sl i s hi).at so;rw[d]at B;ext B;show {
  sub:=s2
  g0:=R.g0.t C
  keep:=λc o e n=>by
   calc p c o (R.keep c o e n) λz=>?_;subst z;rcases E with q|q
   .rw[q]at e;ext e
   .show n q
  fr:=λc o e=>by
   rcases fr c o e with q|q
   .show R.fr c o q
   .show .inr (R.gr q)
  am:=λc P=>by
   by_cases z:c=b
   .subst z;show#v[_,l]
   .let#v[o,q]:=R.am c P;show#v[o,p c o q z]
  len:=by rw[eE];show R.len
  sl:=λj t e=>by
   rw[bX]at e;by_cases h:i=j
   .subst h;rw[af J]at e;split at e
    .ext e;rw[d];have ok:=R.sl i s hi;rw[d]at ok;cases s with
     |I f=>let#v[c,xs,h1,h2,h3,h4,h5]:=ok;ext h1;show#v[b,A,J,l,h0,h4,r]
     |pm f=>let#v[c,xs,h1,h2,h3,h4,h5]:=ok;ext h1;show#v[b,A,J,l,h0,h4,r]
     |_=>ext hs
    .ext e
   .rw[ah h]at e;refine(R.sl j t e).gk C (λc w z to q=>p c w q λy=>?_) λc w z to q q0=>?_
    .subst y;show R.ap j i t s c (λy=>h y.symm) e hi to so z d
    .cases y:a c with
     |none=>rfl
     |some o=>
      rcases fr c o y with x|x
      .rw[x]at q0;ext q0
      .rw[x]at q;ext q
  ap:=λj k t u c hjk I M T tk W vk=>by
   have ma:∀{m:Nat} {x:Sl},(ρ.set i (s.putL es'))[m]?=U x->∃y,ρ[m]?=U y/\(x.g?=γ->y.g?=γ):=λ{m x} e=>by
    rw[bX]at e;by_cases h:i=m
    .subst h;show#v[s,hi,λ_=>so]
    .rw[ah h]at e;show#v[x,e,λq=>q]
   let#v[y,N,Q]:=ma I;let#v[z,O,S]:=ma M;show R.ap j k y z c hjk N O (Q T) (S tk) W vk }
def v8(g:aZ->aZ->Option (D×aZ))(i:Nat)(a:FA):FE:=λe=>match xh e i with
 |some _=>match a e with
  |some (f,b)=>match xh b i with
   |some h=>match g h f with
    |some (d,c)=>U (d,putAt b i c)
    |none=>Z
   |none=>Z
  |none=>Z
 |none=>Z
def Z4(h:PE X e (zI (spM G g) [] E (Ak (AC i) (t7 G a)))):PE X e (tF G (v8 g i a)):=PE.c3 h λσ H Q T=>by
 let#v[F,m,A,d,ρ',R,e,k]:=T;delta v8 at e;cases r:xh m i with
 |none=>erw[r]at e;cases e
 |some S=>
  erw[r]at e;rcases vW (f:=a) (ρ:=m)with t|⟨p,l,t⟩<;>erw[t]at e
  .ext e
  .cases u:xh l i with
   |none=>erw[u]at e;cases e
   |some C=>
    erw[u]at e;cases w:g C p with
    |none=>erw[w]at e;cases e
    |some q=>
     let#v[d1,x]:=q;erw[w]at e;ext e;let#v[b,xs,y,s2,s3,_]:=ye R r;calc#v[.ref b,y,F,m,A,p,l,R,t,λN B O s o rs=>?_];let#v[s,c,j]:=yw u;let#v[b',z,I,W,Y,t4]:=(o.sl i s c).ax j;rw[yc I]at y;ext y;refine#v[b,N,z,B,C,p,d,x,?_,W,Y,o.sub,t4,rs,w,λv zs H2 P M u2 u3 fr w0 w1 w2 w3=>?_]
     .change V.ref b::N++[]=_;rw[bD]
     .calc k _ _ _ (vF.t ‹vF A B› M) ?_ w3;delta putAt;rw[c];show o.call1 c j I M u2 u3 fr w0 w1 w2
def Walk(G:Bg)(A_:It)(h:aZ)(j:Hp):Prop:=∀(i:Nat) (e a:Hp),vF j e->vF e a->
 (∀d,h[i]?=U d->A_.go i a/\∀x c,A_.yld i a x c->∃f,vF e f/\vF f c/\vF a c/\(∀b o,f b=U o->e b=U o\/a b=Z)/\df G f d x)/\(i=h.length->A_.stop i a)
inductive ItFI(G:Bg) (f:FA) (σ:St) (H:Hp) (R:(It->Hp->Prop)):Prop
 |i (F ρ H0 ds ρ') (h0:b8 G F σ ρ H0 H) (h1:f ρ=U (ds,ρ')) (h2:∀A_ H0' H',vF H0 H0'->b8 G F σ ρ' H0' H'->Walk G A_ ds H0'->R A_ H'):ItFI G f σ H R
def P?(G:Bg)(f:FA):TI:=λa H R=>ItFI G f a H R
def PI.c3(h:PI X f e t)(w:∀b H R,d b H R->t b H R):PI X f e d:=λa s b H R I c=>h a s b H R I (w _ _ _ c)
def G9(h:gi G.K j a c)(r:bc G j w c):Walk G (Itl G.K a) w j:=λi q t s p=>by have f:=(s.t p).seq h;calc#v[λd e=>?_,λC=>#v[c,f,by rw[<-vE r,C];show aF _]];let#v[v,l,z]:=xD r e;calc#v[#v[c,v,f,l],λx u y=>?_];let#v[A,B]:=y;have m:=B c f;rw[l]at m;ext m;subst A;show#v[q,vF.refl _,p,vF.refl _,λb o e=>.inl e,df.mono s _ _ z]
def RU(h:fl G.K j a c)(r:bc G j w c):Walk G (Itt G.K a) w j:=λi q t s p=>by have f:=fl.mono (s.t p) h;calc#v[λd e=>?_,λC=>#v[c,f,by rw[<-vE r,C];show aF _]];let#v[v,l,z]:=xD r e;calc#v[#v[c,v,f,l],λx u y=>?_];let#v[A,B]:=y;have m:=B c f;rw[l]at m;ext m;subst A;show#v[q,vF.refl _,p,vF.refl _,λb o e=>.inl e,df.mono s _ _ z]
def iL(f:FE):FA:=λc=>match f c with
 |some (.ax b,a)=>U (b,a)
 |some (.M b,a)=>U (b,a)
 |_=>Z
def iT(f:FE):FA:=λc=>match f c with
 |some (.bx b,a)=>U (b,a)
 |_=>Z
#print h
def Lu(h:PI X w e (Q2 G.K (tF G f))):PI X w e (P? G (iL f)):=PI.c3 h λz H R u=>by
 let#v[F,q,p,y,x,R,e,k]:=u;delta iL at e;split at e
 .rename_i i o j;ext e;calc#v[F,q,p,_,_,R,j,λv t d s b r=>?_];let#v[a,m,rfl,c,l]:=r;show#v[a,J,#v[m,b.sub.seq (gi.of c)],k _ _ _ s b (G9 (gi.of c) l)]
 .rename_i i o j;ext e;calc#v[F,q,p,_,_,R,j,λv t d s b r=>?_];let#v[a,m,rfl,c,l]:=r;show#v[a,J,#v[m,b.sub.seq c],k _ _ _ s b (G9 c l)]
 .ext e
def V9(h:PI X p e (Zc G.K (tF G f))):PI X p e (P? G (iT f)):=PI.c3 h λz H R m=>by
 let#v[F,t,d,y,u,R,e,k]:=m;delta iT at e;split at e
 .rename_i j w l;ext e;calc#v[F,t,d,_,_,R,l,λv x i s b r=>?_];let#v[a,q,rfl,c,o]:=r;show#v[a,J,#v[q,fl.mono b.sub c],k _ _ _ s b (RU c o)]
 .ext e
#print f
def Cp(lo:Int)(n:Nat):aZ:=(bh n).map λ(i:Nat)=>D.int (lo+(i:Int))
def RV{lo:Int}:Walk G (Itr lo n) (Cp lo n) p:=λi c f s m=>by
 calc#v[λd e=>?_,λl=>by change n<=i;rw[l];simp[Cp]];delta Cp at e;rw[br]at e;by_cases a:i<n
 .rw[l9 a]at e;ext e;calc#v[a,λx h y=>?_];let#v[j,rfl]:=y;subst j;show#v[c,vF.refl _,m,vF.refl _,λb o e=>.inl e,xW _]
 .rw[gn (by exists a)]at e;ext e
def v?(f:FE):FA:=λb=>match f b with
 |some (.int n,a)=>if -1000000<=n/\n<=1000000 then U (Cp 0 n.toNat,a)else Z
 |_=>Z
#print h
def M9(h:PI X m e (X7 (t7 G (ab f vH)))):PI X m e (P? G (v? f)):=PI.c3 h λy H R i=>by
 let#v[F,o,a,t,p,R,e,k]:=i;delta v? at e;split at e
 .rename_i n q d;split at e
  .rename_i u;ext e;calc#v[F,o,a,[.int n],_,R,by delta ab;rw[d];rfl,λx r b s c rs=>?_];let#v[v,w,rfl,l,j]:=rs;subst j l;show#v[n,J,by omega,by omega,k _ _ _ s c RV]
  .ext e
 .ext e
#print f
def fu(g:FG)(b:FS):aZ->FS
 |[],c=>U (.nx c)
 |d::r,c=>match g d c with
  |none=>Z
  |some e=>match b e with
   |some (.nx a)=>fu g b r a
   |some (.ct a)=>fu g b r a
   |some (.bk a)=>U (.nx a)
   |some (.rt d a)=>U (.rt d a)
   |some (.rn d a)=>U (.rn d a)
   |none=>Z
def yx(s:FA)(g:FG)(b:FS):FS:=λd=>match s d with
 |some (c,a)=>fu g b c a
 |none=>Z
def Wa{st:Stmt}(h:PS X st (U9 (P? G s) (tFG G n g) (ke G b))):PS X st (ke G (yx s g b)):=PS.c3 h λE σ H hh=>by
 let#v[F,W,H0,o,R,e,k,k2]:=hh;delta yx at e;rcases vW (f:=s) (ρ:=W)with P|⟨l,C,P⟩<;>erw[P]at e
 .ext e
 .calc#v[F,W,H0,l,C,R,P,λA_ N H1' s1 R1 wk=>?_];calc#v[λi m σ H=>m=l.length - i/\i<=l.length/\∃c r,vF N r/\b8 G F σ c r H/\fu g b (l.drop i) c=U o,#v[_,J,bM _,C,N,vF.refl _,R1,e],?_];rintro i m σi B ⟨rfl,hi,c,r,A,I,a⟩;by_cases hlt:i<l.length
  .have ed:=jb hlt;rw[ed]at a;delta fu at a;let#v[go,yl]:=(wk i r B A I.sub).1 l[i] (aH hlt);calc .inr #v[go,λp z=>∃c r,vF N r/\b8 G F p c r z/\fu g b (l.drop (i+1)) c=U o,λp z q=>#v[l.length - (i+1),by omega,J,hlt,q],λx z y=>?_];let#v[Y,M,t2,t3,t4,t5]:=yl x z y;have R2:=I.gk t3 M t2 t4;cases Q:g l[i] c with
   |none=>erw[Q]at a;cases a
   |some w=>
    erw[Q]at a;calc#v[F,c,Y,_,w,R2,t5,Q,λσ3 _ R3=>?_];have S:=k.nr (s1.t (A.t M));cases u:b w with
    |none=>erw[u]at a;cases a
    |some q=>
     calc#v[F,w,Y,q,R3,u,?_,λ_=>J];cases q with
     |nx j=>erw[u]at a;show λp t z T O=>#v[j,t,A.t (M.t T),O,a]
     |ct j=>erw[u]at a;show λp t z T O=>#v[j,t,A.t (M.t T),O,a]
     |bk j=>erw[u]at a;ext a;show S
     |rt d j=>erw[u]at a;ext a;show S
     |rn d j=>erw[u]at a;ext a;show S
  .have ez:l.drop i=[]:=lZ ();rw[ez]at a;ext a;show .inl #v[(wk i r B A I.sub).2 (),k _ _ _ (s1.t A) I]
def O'(c:FT)(b:FS):Nat->FS
 |0,_=>Z
 |n+1,f=>match c f with
  |some (δ,e)=>U (.nx e)
  |some (γ,e)=>match b e with
   |some (.nx a)=>O' c b n a
   |some (.ct a)=>O' c b n a
   |some (.bk a)=>U (.nx a)
   |some (.rt d a)=>U (.rt d a)
   |some (.rn d a)=>U (.rn d a)
   |none=>Z
  |none=>Z
def Qg{st:Stmt}(n:Nat)(h:PS X st (Q0 (n3 G c) (ke G b))):PS X st (ke G (O' c b n)):=PS.c3 h λE P H Y=>by
 let#v[F,O,B,o,R,e,k,k2]:=Y;calc#v[λm P H=>∃i r,vF B r/\b8 G F P i r H/\O' c b m i=U o,#v[n,O,B,vF.refl _,R,e],?_];rintro m σi T ⟨i,r,A,W,a⟩;cases m with
 |zero=>cases a
 |succ m=>
  delta O' at a;rcases vW (f:=c) (ρ:=i)with x|⟨t,w,x⟩
  .erw[x]at a;ext a
  .calc#v[F,i,r,t,w,W,x,λQ S z N=>?_];cases t with
   |false=>erw[x]at a;ext a;show IA (k _ _ _ (A.t z) N)
   |true=>
    erw[x]at a;calc IB #v[λl y=>∃i r,vF B r/\b8 G F l i r y/\O' c b m i=U o,λl y q=>#v[m,cQ m,q],?_];have I:=k.nr (A.t z);cases u:b w with
    |none=>erw[u]at a;cases a
    |some q=>
     calc#v[F,w,Q,q,N,u,?_,λs=>J];cases q with
     |nx j=>erw[u]at a;show λl p y M C=>#v[j,p,A.t (z.t M),C,a]
     |ct j=>erw[u]at a;show λl p y M C=>#v[j,p,A.t (z.t M),C,a]
     |bk j=>erw[u]at a;ext a;show I
     |rt d j=>erw[u]at a;ext a;show I
     |rn d j=>erw[u]at a;ext a;show I
end
def Sl.eh:Sl->Sl
 |.q d=>.q d
 |.I a=>.pm a
 |.pm a=>.pm a
 |_=>.un
def Du(k:Nat)(eh:List Nat)(ρ:aU):aU:=gK k .un++eh.map λj=>((ρ[j]?).getD .un).eh
def yE:List Nat->aU->aU->Option aU
 |[],_,a=>U a
 |j::eh,t::b,a=>match xh a j with
  |some _=>match t with
   |.pm c=>yE eh b (putAt a j c)
   |_=>Z
  |none=>yE eh b a
 |_::_,[],_=>Z
def yW(k:Nat)(eh:List Nat)(g:FG)(ft:FT)(f:FE):aZ->aU->Option (aZ×aU)
 |[],c=>U ([],c)
 |d::r,c=>match g d (Du k eh c)with
  |none=>Z
  |some h=>match ft h with
   |some (γ,b)=>match f b with
    |some (x,i)=>match yE eh (i.drop k) c with
     |some a=>match yW k eh g ft f r a with
      |some (j,e)=>U (x::j,e)
      |none=>Z
     |none=>Z
    |none=>Z
   |some (δ,b)=>match yE eh (b.drop k) c with
    |some a=>yW k eh g ft f r a
    |none=>Z
   |none=>Z
def vT(k:Nat)(eh:List Nat)(s:FA)(g:FG)(ft:FT)(fe:FE):FA:=λc=>match s c with
 |some (b,a)=>if b.length<=1000 then yW k eh g ft fe b a else Z
 |none=>Z
def wG:FT:=λa=>U (γ,a)
theorem BJ:∀{eh:List Nat} {B f b:aU},yE eh B f=U b->b.length=f.length/\
  (∀(j:Nat) (c:Sl),b[j]?=U c->∃s,f[j]?=U s/\((c=s/\(s.L≠Z->j∉eh))\/∃(m:Nat) (i a:aZ),eh[m]?=U j/\B[m]?=U (Sl.pm i)/\s.L=U a/\c=s.putL i))
 |[],B,f,b,h=>by ext h;show#v[J,λj c e=>#v[c,e,.inl #v[J,λn z=>by ext z]]]
 |G::eh,[],f,b,h=>by cases h
 |G::eh,t::B,f,b,h=>by
  delta yE at h;cases l:xh f G with
  |none=>
   erw[l]at h;let#v[C,E]:=BJ h;calc#v[C,λj c e=>?_];let#v[s,r,q]:=E j c e;calc#v[s,r,?_];rcases q with ⟨rfl,q⟩|⟨m,i,a,u,w,A,x⟩
   .calc .inl #v[J,λz y=>?_];rcases aD.1 y with y|y
    .subst y;delta xh at l;rw[r]at l;show z l
    .show q z y
   .show .inr #v[m+1,i,a,u,w,A,x]
  |some p=>
   erw[l]at h;cases t with
   |pm i=>
    simp only at h;let#v[I,r,H]:=yw l;delta putAt at h;rw[r]at h;simp only at h;let#v[C,E]:=BJ h;calc#v[by rw[C,eE],λj c e=>?_];let#v[s,o,q]:=E j c e;by_cases F:G=j
    .subst F;rw[bX,af J]at o;split at o
     .ext o;calc#v[I,r,.inr ?_];rcases q with ⟨rfl,q⟩|⟨m,d,a,u,w,A,x⟩
      .show#v[0,i,p,J,J,H,J]
      .calc#v[m+1,d,p,u,w,H,?_];rw[x];ext I<;>rfl
     .ext o
    .rw[bX,ah F]at o;calc#v[s,o,?_];rcases q with ⟨rfl,q⟩|⟨m,d,a,u,w,A,x⟩
     .calc .inl #v[J,λz y=>?_];rcases aD.1 y with y|y
      .show F y.symm
      .show q z y
     .show .inr #v[m+1,d,a,u,w,A,x]
   |_=>ext h
def IE(eh:List Nat)(b:St)(ρ:aU):List Addr:=eh.filterMap λj=>match xh ρ j,(b[j]?).join with
 |some _,U (.ref a)=>U a
 |_,_=>Z
#print h
def Cv:a∈IE eh i h ↔ ∃j∈eh,(∃b,xh h j=U b)/\(i[j]?).join=U (.ref a):=by
 delta IE;rw[ji];constructor
 .rintro⟨j,f,e⟩;calc#v[j,f,?_];split at e
  .rename_i b l c d;ext e;show#v[#v[b,c],d]
  .ext e
 .rintro⟨j,f,⟨b,c⟩,d⟩;calc#v[j,f,?_];rw[c,d]
section
#print f
def He(h:(Du k eh b)[i]?=U s):s=.un\/∃m j,i=k+m/\eh[m]?=U j/\s=((b[j]?).getD .un).eh:=by
 delta Du at h;by_cases a:i<k
 .rw[dG (by exists a),jc,af a]at h;ext h;show .inl J
 .rw[eA (by exists qI a),cW,br]at h;cases e:eh[i - k]? with
  |none=>rw[e]at h;cases h
  |some j=>rw[e]at h;ext h;show .inr #v[i - k,j,by omega,e,J]
def Ej(h:eh[m]?=U j):((yV k eh a)[k+m]?).join=(a[j]?).join:=by delta yV;rw[eA (by simp),cW,show k+m - k=m by omega,br,h];rfl
theorem b8.eh(R:b8 G F σ ρ H0 H)(k:Nat)(eh:List Nat)(nd:eh.Nodup):b8 G #v[H0,H,IE eh σ ρ] (yV k eh σ) (Du k eh ρ) H0 H where
 sub:=R.sub
 g0:=vF.refl _
 keep:=λb o e n=>e
 fr:=λb o e=>.inl e
 am:=λa ha=>by let#v[j,q,#v[ds,f],p]:=Cv.1 ha;let#v[s,y,A]:=yw f;let#v[E,xs,h1,h2,_]:=(R.sl j s y).ax A;rw[p]at h1;ext h1;show#v[_,h2]
 len:=by delta yV Du;rw[aG,aG,cW,cW,ak,ak]
 sl:=λi s e=>by
  rcases He e with rfl|⟨m,j,rfl,f,rfl⟩
  .trivial
  .rw[Ej f];cases p:ρ[j]? with
   |none=>trivial
   |some s=>
    have ok:=R.sl j s p;have mem:∀{a:Addr} {ds:aZ},s.L=U ds->(σ[j]?).join=U (.ref a)->a∈IE eh σ ρ:=λh1 h2=>Cv.2 #v[j,cb f,#v[_,by delta xh;rw[p];show h1],h2];cases s with
    |un=>trivial
    |q d=>show ok
    |I ds=>let#v[a,xs,h1,h2,h3,h4,h5]:=ok;show#v[a,xs,h1,h2,h3,mem J h1,h5]
    |pm ds=>let#v[a,xs,h1,h2,h3,h4,h5]:=ok;show#v[a,xs,h1,h2,h3,mem J h1,h5]
    |dk ks ds=>trivial
    |ob c ns ds=>trivial
 ap:=λi I s t a hii e x so to v w=>by
  rcases He e with rfl|⟨m,j,rfl,f,rfl⟩
  .ext so
  rcases He x with rfl|⟨M,u,rfl,l,rfl⟩
  .ext to
  rw[Ej f]at v;rw[Ej l]at w;have g?:∀{j:Nat},(((ρ[j]?).getD Sl.un).eh).g?=γ->∃s,ρ[j]?=U s/\s.g?=γ:=λ{j} h=>by
   cases z:ρ[j]? with
   |none=>rw[z]at h;cases h
   |some s=>rw[z]at h;calc#v[s,J,?_];ext s<;>first|rfl|ext h
  let#v[s,z,C]:=g? so;let#v[s',B,r]:=g? to;by_cases q:j=u
  .subst q;have:=(List.getElem?_inj (bT.1 f).1 nd).1 (f.t l.symm);show hii (by rw[this])
  .show R.ap j u s s' a q z B C r v w
theorem b8.uncap(R:b8 G F σ ρ H0 H){k:Nat}{eh:List Nat}{f:St}{p ρ':aU}{H1 h:Hp}(c:b8 G #v[H0,H,IE eh σ ρ] f p H1 h)(hd:f.drop k=(yV k eh σ).drop k)(hu:yE eh (p.drop k) ρ=U ρ'):b8 G F σ ρ' H1 h:=by
 let#v[hl,S]:=BJ hu;have C:∀{m j:Nat},eh[m]?=U j->(f[k+m]?).join=(σ[j]?).join:=λ{m j} e=>by
  have q:(f.drop k)[m]?=((yV k eh σ).drop k)[m]?:=by rw[hd]
  rw[fj,fj]at q;rw[q];show Ej e
 have nA:∀{j:Nat} {s:Sl} {a:Addr},ρ[j]?=U s->s.g?=γ->(σ[j]?).join=U (.ref a)->(s.L≠Z->j∉eh)->a∉IE eh σ ρ:=λ{j s a} e so z hn ha=>by
  let#v[i,hi,#v[ds,d],M]:=Cv.1 ha;let#v[t,l,r]:=yw d;by_cases hij:i=j
  .subst hij;rw[e]at l;ext l;show hn (by rw[r];simp) hi
  .show R.ap i j t s a hij l e (Sl.vw r) so M z
 have hA:∀a∈IE eh σ ρ,F.B a=Z\/a∈F.A:=λa ha=>by let#v[i,hi,#v[ds,d],M]:=Cv.1 ha;let#v[t,l,r]:=yw d;let#v[Q,u,h1,h2,h3,h4]:=(R.sl i t l).at (Sl.vw r);rw[M]at h1;ext h1;show h4
 have own':∀{j:Nat} {s':Sl},ρ'[j]?=U s'->s'.g?=γ->∃s,ρ[j]?=U s/\s.g?=γ:=λ{j s'} e so=>by
  let#v[s,d,q]:=S j s' e;rcases q with ⟨rfl,q⟩|⟨m,ds,E,q1,q2,N,T⟩
  .show#v[s',d,so]
  .show#v[s,d,Sl.vw N]
 show {
  sub:=c.sub
  g0:=R.g0.t c.g0
  keep:=λb o e n=>by
   calc c.keep b o (R.keep b o e n) λha=>?_;rcases hA b ha with q|q
   .rw[q]at e;ext e
   .show n q
  fr:=λb o e=>by
   rcases c.fr b o e with q|q
   .show R.fr b o q
   .show .inr (R.gr q)
  am:=λa ha=>by
   let#v[o,q]:=R.am a ha;by_cases z:a∈IE eh σ ρ
   .show c.am a z
   .show#v[o,c.keep a o q z]
  len:=by rw[hl];show R.len
  sl:=λj s' e=>by
   let#v[s,d,q]:=S j s' e;rcases q with ⟨rfl,q⟩|⟨m,ds,E,q1,q2,N,T⟩
   .calc(R.sl j s' d).gk c.g0 (λa u z so y=>c.keep a u y (nA d so z q)) λa u z so y W=>?_;cases w:H1 a with
    |none=>rfl
    |some o=>
     rcases c.fr a o w with x|x
     .have O:H0 a=U o:=x;rw[O]at W;ext W
     .have O:H a=Z:=x;rw[O]at y;ext y
   .rw[fj]at q2;let#v[a,xs,h1,h2,h3,h4,h5]:=c.sl _ _ q2;rw[C q1]at h1;have ok:=R.sl j s d;subst T;cases s with
    |I I=>let#v[Q,P,g1,g2,g3,g4,g5]:=ok;rw[h1]at g1;ext g1;show#v[a,xs,h1,h2,h3,g4,h5]
    |pm I=>let#v[Q,P,g1,g2,g3,g4,g5]:=ok;rw[h1]at g1;ext g1;show#v[a,xs,h1,h2,h3,g4,h5]
    |_=>ext N
  ap:=λi j s t a hij X Y so to v v'=>by
   let#v[s0,z,zo]:=own' X so;let#v[t0,y,yo]:=own' Y to;show R.ap i j s0 t0 a hij z y zo yo v v' }
def Cy{k:Nat}(h:vr l ρ p)(f:yE eh w ρ=U a):vr l a p:=λi c e so=>by
 let#v[s,b,q]:=(BJ f).2 i c e;rcases q with ⟨rfl,q⟩|⟨m,o,d,r,t,j,u⟩
 .show h i c b so
 .show h i s b (Sl.vw j)
inductive CI(G:Bg) (F:Fr) (σ:St) (H1:Hp) (p:Addr) (k:Nat) (eh:List Nat) (g:FG) (ft:FT) (fe:FE) (ds es:aZ) (ρ':aU) (i m:Nat) (acc:bA) (H2:Hp):Prop
 |mk (ρi:aU) (Hi:Hp) (dn eo:aZ):m=ds.length - i->i<=ds.length->vF H1 Hi->b8 G F σ ρi Hi H2->H2 p=U (.ax acc)->Hi p=Z->vr σ ρi p->bc G Hi dn acc->dn.length<=i->yW k eh g ft fe (ds.drop i) ρi=U (eo,ρ')->es=dn++eo->CI G F σ H1 p k eh g ft fe ds es ρ' i m acc H2
#print h
def OD{eh:List Nat}(nd:eh.Nodup):∀N H Q,Bx G (vT k eh s g ft fe) N H Q->G0 (P? G s) (tFG G k g) (n3 G ft) (tF G fe) k eh N H Q:=λN H Q hh=>by
 let#v[F,ρ,H0,es,ρ',R,e,kk]:=hh;delta vT at e;rcases vW (f:=s) (ρ:=ρ)with e1|⟨d,ρ1,e1⟩<;>erw[e1]at e
 .ext e
 .split at e
  .rename_i hlen;calc#v[F,ρ,H0,d,ρ1,R,e1,λA_ H1 H1' s1 P wk p T=>?_];refine#v[CI G F N H1 p k eh g ft fe d es ρ',
    #v[_,ρ1,H1,[],es,J,bM _,vF.refl _,P.gj T _,vB,P.e? T,P.apart T,vV,aF _,e,J],?_]
   rintro i m acc H2 ⟨c,Hi,dn,eo,rfl,hi,Y,Ri,C,W,apt,rs,hdn,a,rfl⟩;by_cases hlt:i<d.length
   .have ed:=jb hlt;rw[ed]at a;delta yW at a;let#v[go,yl]:=(wk i Hi H2 Y Ri.sub).1 d[i] (aH hlt);calc .inr #v[go,λx H3 y=>?_];let#v[I,t1,t2,t3,t4,t5]:=yl x H3 y;have R2:=Ri.gk t3 t1 t2 t4;have X:=t3 _ _ C;have hpj:I p=Z:=by
     cases w:I p with
     |none=>rfl
     |some o=>
      rcases t4 p o w with z|z
      .rw[W]at z;ext z
      .rw[C]at z;ext z
    have RC:=R2.eh k eh nd;have npA:p∉IE eh N c:=λz=>by let#v[j,_,#v[ds',q1],q2]:=Cv.1 z;let#v[t,q3,q4]:=yw q1;show apt j t q3 (Sl.vw q4) q2
    cases e2:g d[i] (Du k eh c)with
    |none=>erw[e2]at a;cases a
    |some E=>
     erw[e2]at a;calc#v[_,_,I,d[i],E,RC,t5,e2,λσ4 B R4=>#v[B,?_]];rcases vW (f:=ft) (ρ:=E)with S|⟨b,l,S⟩
     .erw[S]at a;ext a
     .calc#v[_,E,I,b,l,R4,S,λH5 H5' s5 R5=>?_];have keepP:∀{σ':St} {ρ'':aU} {Ha O:Hp},b8 G #v[I,H3,IE eh N c] σ' ρ'' Ha O->O p=U (.ax acc)/\Ha p=Z:=λRz=>by
       calc#v[Rz.keep p _ X npA,?_];calc Option.eq_none_iff_forall_ne_some.2 λo M=>?_;rcases Rz.fr p o M with z|z
       .have z':I p=U o:=z;rw[hpj]at z';ext z'
       .have z':H3 p=Z:=z;rw[X]at z';ext z'
      cases b with
      |false=>
       erw[S]at a;calc IA ?_;cases h:yE eh (l.drop k) c with
       |none=>erw[h]at a;cases a
       |some r=>erw[h]at a;let#v[w1,M]:=keepP R5;show#v[d.length - (i+1),by omega,r,H5,dn,eo,J,hlt,Y.t (t1.t s5),R2.uncap R5 B h,w1,M,Cy (k:=k) apt h,bc.mono (t1.t s5) _ _ rs,by omega,a,J]
      |true=>
       erw[S]at a;calc IB ?_;rcases vW (f:=fe) (ρ:=l)with e5|⟨x5,ρ5,e5⟩
       .erw[e5]at a;ext a
       .erw[e5]at a;calc#v[_,l,H5,x5,ρ5,R5,e5,λv H6 H6' s6 R6 rv=>?_];let#v[w1,M]:=keepP R6;cases h:yE eh (ρ5.drop k) c with
        |none=>erw[h]at a;cases a
        |some r=>
         erw[h]at a;cases e6:yW k eh g ft fe (d.drop (i+1)) r with
         |none=>erw[e6]at a;cases a
         |some q=>
          let#v[rest',ρz]:=q;erw[e6]at a;ext a;have A:=R2.uncap R6 B h;have lacc:=(vE rs).symm;calc#v[acc,w1,Bk (),d.length - (i+1),by omega,r,H6,dn++[x5],rest',J,hlt,Y.t (t1.t (s5.t s6)),?_,vB,M,Cy (k:=k) apt h,xn (bc.mono (t1.t (s5.t s6)) _ _ rs) (vS rv vV),by rw[aG,bu];omega,e6,by rw[bL];rfl];show {
           sub:=λb o e=>by rw[vC (λz=>by rw[z,M]at e;ext e)];show A.sub b o e
           g0:=A.g0
           keep:=λb o e n=>by rw[vC (λz=>by subst z;rw[P.gr T]at e;ext e)];show A.keep b o e n
           fr:=A.fr
           am:=λb hb=>by
            by_cases z:b=p
            .subst z;show#v[_,vB]
            .rw[vC z];show A.am b hb
           len:=A.len
           sl:=λj t ej=>(A.sl j t ej).gk (vF.refl _) (λb u z to q=>by rw[vC (λy=>Cy (k:=k) apt h j t ej to (by rw[z,y]))];show q) λb u _ _ _ q=>q
           ap:=A.ap }
   .have ez:d.drop i=[]:=lZ ();rw[ez]at a;ext a;rw[bD]at kk;show .inl #v[(wk i Hi H2 Y Ri.sub).2 (),kk p acc Hi H2 (s1.t Y) Ri C W (P.gr T) apt rs]
  .ext e
#print f
def RW{eh:List Nat}(c:eh.Nodup)(h:PE X e (G0 (P? G s) (tFG G k g) (n3 G b) (tF G a) k eh)):PE X e (Bx G (vT k eh s g b a)):=PE.c3 h (OD c)
def RX:PIf X [] (n3 G wG):=λa s d H Q I h=>by let#v[F,i,f,b,c,R,e,k]:=h;ext e;show Vu a s d H Q I (k _ _ (vF.refl _) R)
end
def yf:D->Bool
 |.cx=>γ|.bl _=>γ|.int _=>γ|.str _=>γ|_=>δ
def vD:D->V
 |.cx=>.cx|.bl b=>.bl b|.int i=>.int i|.str x=>.str x|_=>.cx
section
variable{G:Bg}
def zJ{d:D}{v:V}(h:df G H d v)(f:yf d=γ):v=vD d:=by ext d<;>first|(delta df at h;show h)|ext f
def Ek{d:D}(f:yf d=γ):∀H,df G H d (vD d):=λH=>by ext d<;>first|(delta df;rfl)|ext f
theorem E7:∀{a:aZ} {b:bA},bc G H a b->a.all yf=γ->b=a.map vD
 |[],b,h,f=>by delta bc at h;show h
 |d::a,b,h,f=>by let#v[v,r,rfl,c,e]:=h;rw[iy,bt]at f;rw[aA,zJ c f.1,E7 e f.2]
def Lv{d:D}(f:yf d=γ):DC (vD d)=γ:=by ext d<;>first|rfl|ext f
theorem Ji:∀{a:aZ},a.all yf=γ->(a.map vD).all DC=γ
 |[],_=>rfl
 |d::a,f=>by rw[iy,bt]at f;rw[aA,iy,Lv f.1,Ji f.2];rfl
def js.or{f:aa->aa->Sem aa}{r b:R2}(h:js X f r)(i:js X f b):js X f (λx y H Q=>r x y H Q\/b x y H Q):=λa s e H x y v u Q I c d q=>q.elim (h a s e H x y v u Q I c d) (i a s e H x y v u Q I c d)
def k4.or{r d:R2}{g c:D->D->Option D}(h:k4 G r g)(j:k4 G d c):k4 G (λx y H Q=>r x y H Q\/d x y H Q) (λx y=>match g x y with|some z=>U z|none=>c x y):=λx y z b H v u Q e s f i k=>by
 cases a:g x y with
 |some w=>erw[a]at e;ext e;show .inl (h x y _ b H v u Q a s f i k)
 |none=>erw[a]at e;show .inr (j x y z b H v u Q e s f i k)
def dI(C:Int->Int->Bool)(g:Int->Int->D):D->D->Option D
 |.int a,.int b=>if C a b=γ then U (g a b)else Z
 |_,_=>Z
#print h
def OE{C:Int->Int->Bool}{d:Int->Int->Prop}{g:Int->Int->D}{f:Int->Int->V}(hC:∀a b,C a b=γ->d a b)(h:∀a b,yf (g a b)=γ/\vD (g a b)=f a b):k4 G (rI d f) (dI C g):=λx y z m H v u Q e s j l k=>by
 delta dI at e;split at e
 .rename_i a b;split at e
  .rename_i i;ext e;show#v[a,b,j,l,hC _ _ i,by rw[<-(h a b).2];show k _ λc t=>Ek (h a b).1 c]
  .ext e
 .ext e
def E8{g:Int->Int->D}{d:Int->Int->V}(f:∀a b,yf (g a b)=γ/\vD (g a b)=d a b):k4 G (R0 d) (dI (λt t=>γ) g):=λx y z j H v u Q e s h i k=>by
 delta dI at e;split at e
 .rename_i a b;split at e
  .ext e;show#v[a,b,h,i,by rw[<-(f a b).2];show k _ λc t=>Ek (f a b).1 c]
  .ext e
 .ext e
#print f
def wq:=dI (λz z=>γ) λa b=>.int (a+b)
def OF:=dI (λz z=>γ) λa b=>.int (a - b)
def DR(a:Int):Bool:=decide (-(2 ^ 64)<a)&&decide (a<2 ^ 64)
def zK:=dI (λa b=>DR a||DR b) λa b=>.int (a * b)
def yg:=dI (λz b=>decide (0<b)) λa b=>.int (a % b)
def DF:=dI (λz b=>decide (0<b)&&decide (b<1073741824)) λa b=>.int (a / b)
def FC:=dI (λa b=>decide (0<=b)&&decide (b<=1000000)&&decide (a.natAbs<2 ^ 64)) λa b=>.int (a ^ b.toNat)
#print "IF a b;Lx b a" in def ϑ0:=dI (λz z=>γ) λa b=>.bl (decide (ϑ1<ϑ2))
#print "AD a b;Z5 b a" in def ϑ0:=dI (λz z=>γ) λa b=>.bl (decide (ϑ1<=ϑ2))
def Z6:k4 G (R0 λi j=>.int (i+j)) wq:=E8 λz z=>#v[J,J]
def Z7:k4 G (R0 λi j=>.int (i - j)) OF:=E8 λz z=>#v[J,J]
def Z8:k4 G (rI Vb λi j=>.int (i * j)) zK:=OE (λa b h=>by
 delta DR at h;erw[kM,bt,bV]at h;show h) λz z=>#v[J,J]
def Z9:k4 G (rI (λz j=>0<j) λi j=>.int (i % j)) yg:=OE (λa b h=>by exists h) λz z=>#v[J,J]
def aaa:k4 G (rI Zf λi j=>.int (i / j)) DF:=OE (λa b h=>by delta Zf;exists h) λz z=>#v[J,J]
def aab:k4 G (rI CPow λi j=>.int (i ^ j.toNat)) FC:=OE (λa b h=>by
 erw[bt,bV]at h;show#v[h.1.1,h.1.2,h.2]) λz z=>#v[J,J]
#print "O i j IF;Q j i Lx" in def adϑ0:k4 G (R0 λi j=>.bl (decide (ϑ1<ϑ2))) ϑ3:=E8 λz z=>#v[J,J]
#print "P i j AD;R j i Z5" in def adϑ0:k4 G (R0 λi j=>.bl (decide (ϑ1<=ϑ2))) ϑ3:=E8 λz z=>#v[J,J]
def afg:D->D->Option D
 |.str a,.str b=>if a.length+b.length<=100000 then U (.str (a++b))else Z
 |_,_=>Z
def Ly{n:Nat}(h:n<=100000):n<=aS:=cg h (by rw[bH];decide)
def RY:D->D->Option D
 |.str a,.str b=>U (.bl (!decide (b.cps.toList<a.cps.toList)))
 |_,_=>Z
#print h
def aac:k4 G (λx y H Q=>∃i j,x=.str i/\y=.str j/\Q (.bl (!decide (j.cps.toList<i.cps.toList))) H) RY:=λx y z f H v u Q e s c d k=>by
 delta RY at e;split at e
 .rename_i a b;ext e;show#v[a,b,c,d,k _ λt t=>yb _]
 .ext e
#print f
def D.isN:D->Bool
 |.cx=>γ
 |_=>δ
def zf:D->D->Option D
 |x,.cx=>U (.bl x.isN)
 |_,_=>Z
def Bn:D->D->Option D
 |x,.cx=>U (.bl (!x.isN))
 |_,_=>Z
def OG{d:D}{v:V}(h:df G H d v):decide (v=.cx)=d.isN:=by
 ext d<;>delta df at h
 .subst h;rfl
 .subst h;rfl
 .subst h;rfl
 .subst h;rfl
 .let#v[a,b,rfl,_]:=h;rfl
 .let#v[a,b,rfl,_]:=h;rfl
 .let#v[a,b,rfl,_]:=h;rfl
 .let#v[a,c,b,rfl,_]:=h;rfl
 .let#v[a,e,b,rfl,_]:=h;rfl
 .let#v[a,b,rfl,_]:=h;rfl
def aad:k4 G (λx y H Q=>y=.cx/\Q (.bl (decide (x=.cx))) H) zf:=λx y z c H v u Q e s b a k=>by
 delta zf at e;split at e
 .ext e;delta df at a;calc#v[a,?_];rw[OG b];show k _ λt t=>yb _
 .ext e
def Wb:k4 G (λx y H Q=>y=.cx/\Q (.bl (!decide (x=.cx))) H) Bn:=λx y z c H v u Q e s b a k=>by
 delta Bn at e;split at e
 .ext e;delta df at a;calc#v[a,?_];rw[OG b];show k _ λt t=>yb _
 .ext e
def aeX:D->D->Option D
 |.bl a,.bl b=>U (.bl (a != b))
 |_,_=>Z
mutual
def oy:D->Option L3.Dq
 |.cx=>U .cx
 |.bl b=>U (.bl b)
 |.int i=>U (.int i)
 |.str x=>U (.str x)
 |.bx a=>match A4 a with
  |some l=>U (.bx l)
  |none=>Z
 |.ax a=>match A4 a with
  |some l=>U (.ax l)
  |none=>Z
 |.M _=>Z
 |.obj _ _ _=>Z
 |.J _ _=>Z
 |.X _ _=>Z
def A4:aZ->Option (List L3.Dq)
 |[]=>U []
 |d::a=>match oy d with
  |some x=>match A4 a with
   |some l=>U (x::l)
   |none=>Z
  |none=>Z
end
mutual
theorem Gs:∀(d:D) (v:V) (x:L3.Dq),df G H d v->oy d=U x->L3.df G.K H x v
 |.cx,v,x,h,e=>by delta oy at e;ext e;delta df at h;delta L3.df;show h
 |.bl b,v,x,h,e=>by delta oy at e;ext e;delta df at h;delta L3.df;show h
 |.int b,v,x,h,e=>by delta oy at e;ext e;delta df at h;delta L3.df;show h
 |.str b,v,x,h,e=>by delta oy at e;ext e;delta df at h;delta L3.df;show h
 |.bx f,v,x,h,e=>by
  delta oy at e;cases c:A4 f with
  |none=>erw[c]at e;cases e
  |some l=>erw[c]at e;ext e;let#v[a,i,rfl,j,m]:=h;show#v[a,i,J,j,El f i l m c]
 |.ax f,v,x,h,e=>by
  delta oy at e;cases c:A4 f with
  |none=>erw[c]at e;cases e
  |some l=>erw[c]at e;ext e;let#v[a,i,rfl,j,m]:=h;show#v[a,i,J,gi.of j,El f i l m c]
 |.M _,v,x,h,e=>by delta oy at e;cases e
 |.obj _ _ _,v,x,h,e=>by delta oy at e;cases e
 |.J _ _,v,x,h,e=>by delta oy at e;cases e
 |.X _ _,v,x,h,e=>by delta oy at e;ext e
theorem El:∀(a:aZ) (b:bA) (l:List L3.Dq),bc G H a b->A4 a=U l->L3.bc G.K H l b
 |[],b,l,h,e=>by delta A4 at e;ext e;delta bc at h;delta L3.bc;show h
 |d::a,b,l,h,e=>by
  delta A4 at e;cases c:oy d with
  |none=>erw[c]at e;cases e
  |some x=>
   erw[c]at e;cases f:A4 a with
   |none=>erw[f]at e;cases e
   |some m=>erw[f]at e;ext e;let#v[v,r,rfl,i,j]:=h;show#v[v,r,J,Gs d v x i c,El a r m j f]
end
def E9(neg:Bool):D->D->Option D:=λx y=>match yf x&&yf y&&Q4 (vD x) (vD y)with
 |true=>U (.bl (if neg then !decide (vD x=vD y)else decide (vD x=vD y)))
 |false=>Z
def Ge(neg:Bool):D->D->Option D:=λx y=>match oy x,oy y with
 |some a,U b=>if Lj a b&&decide (gw a<=20)&&decide (gw b<=20)then U (.bl (if neg then !nf a b else nf a b))else Z
 |_,_=>Z
def ey(neg:Bool):D->D->Option D:=λx y=>match E9 neg x y with
 |some z=>U z
 |none=>Ge neg x y
#print "e Eq δ;f Ne γ" in def aaϑ0:k4 G rϑ1 (E9 ϑ2):=λx y z d H v u Q e s b c k=>by
 delta E9 at e;cases a:yf x&&yf y&&Q4 (vD x) (vD y)with
 |false=>erw[a]at e;cases e
 |true=>erw[a]at e;ext e;erw[bt]at a;rw[zJ b a.1.1,zJ c a.1.2];show#v[a.2,k _ λt t=>yb _]
#print h
def RZ{neg:Bool}:k4 G (M6 G.K neg) (Ge neg):=λx y z j H v u Q e s h i k=>by
 delta Ge at e;cases c:oy x with
 |none=>erw[c]at e;cases e
 |some a=>
  cases f:oy y with
  |none=>erw[c,f]at e;cases e
  |some b=>
   erw[c,f]at e;split at e
   .rename_i d;ext e;erw[bt,bV]at d;show#v[a,b,Gs x v a (df.mono s _ _ h) c,Gs y u b (df.mono s _ _ i) f,d.1.1,d.1.2,d.2,k _ λt t=>yb _]
   .ext e
#print f
#print "g Eq Eq δ b x;h NotEq Ne γ e y" in def aaϑ0(a:X.A.units+64<cLine)(hK:X.K=G.K:=by rfl):js X (bz .ϑ1) (λx y H Q=>rϑ2 x y H Q\/M6 G.K ϑ3 x y H Q):=by rw[<-hK];show js.or adϑ4 (Zϑ5 a)
#print "S Eq δ e;T Ne γ f" in def adϑ0:k4 G (λx y H Q=>rϑ1 x y H Q\/M6 G.K ϑ2 x y H Q) (ey ϑ2):=k4.or aaϑ3 RZ
def R7:D->Option aZ
 |.bx a=>U a
 |.ax a=>U a
 |.M a=>U a
 |_=>Z
def OH{d:D}{i:aZ}{v:V}(h:df G H d v)(e:R7 d=U i):∃p b,v=.ref p/\(gi G.K H p b\/fl G.K H p b)/\bc G H i b:=by
 cases d with
 |bx l=>ext e;delta df at h;let#v[a,b,rfl,c,f]:=h;show#v[a,b,J,.inr c,f]
 |ax l=>ext e;delta df at h;let#v[a,b,rfl,c,f]:=h;show#v[a,b,J,.inl (gi.of c),f]
 |M l=>ext e;delta df at h;let#v[a,b,rfl,c,f]:=h;show#v[a,b,J,.inl c,f]
 |_=>ext e
def kv(neg:Bool):D->D->Option D:=λx y=>match R7 y with
 |some a=>if yf x&&a.all yf then U (.bl (if neg then !inV (vD x) (a.map vD)else inV (vD x) (a.map vD)))else Z
 |none=>Z
def OI{K:ay}{H b:Hp}{p:Addr}{a:bA}(s:vF H b)(h:gi K H p a\/fl K H p a):gi K b p a\/fl K b p a:=h.imp s.seq (fl.mono s)
#print h
def Yk{neg:Bool}:k4 G (rIn G.K neg) (kv neg):=λx y z j H v u Q e s d h k=>by
 delta kv at e;cases b:R7 y with
 |none=>erw[b]at e;cases e
 |some l=>
  erw[b]at e;split at e
  .rename_i a;ext e;erw[bt]at a;let#v[p,i,rfl,f,c]:=OH h b;refine#v[p,i,J,OI s f,?_,?_,?_]
   .rw[zJ d a.1];show Lv a.1
   .rw[E7 c a.2];show Ji a.2
   .rw[zJ d a.1,E7 c a.2];show k _ λt t=>yb _
  .ext e
#print f
#print "aai In δ PY;Qh NotIn γ JR" in def ϑ0(hK:X.K=G.K:=by rfl):js X (bz .ϑ1) (rIn G.K ϑ2):=by rw[<-hK];show ϑ3
def e7(x y:D):Option D:=match y with
 |.int i=>match x with
  |.bx a=>z0 a i
  |.ax a=>z0 a i
  |.M a=>z0 a i
  |.str x=>if x.length<=100000 then (z0 x.cps.toList i).map λc=>.str #v[#[c]]else Z
  |_=>Z
 |_=>Z
#print h
def adU:k4 G (rIx G.K) e7:=λx y z B H v u Q e s p A k=>by
 cases y with
 |int i=>
  subst A;cases x with
  |bx d=>let#v[a,o,rfl,f,h]:=p;let#v[w,l,m]:=Ei h (show z0 d i=U z from e);show .inr (.inl #v[a,o,i,w,J,J,fl.mono s f,l,k _ λb j=>df.mono j _ _ m])
  |ax d=>let#v[a,o,rfl,f,h]:=p;let#v[w,l,m]:=Ei h (show z0 d i=U z from e);show .inl #v[a,o,i,w,J,J,s.seq (gi.of f),l,k _ λb j=>df.mono j _ _ m]
  |M d=>let#v[a,o,rfl,f,h]:=p;let#v[w,l,m]:=Ei h (show z0 d i=U z from e);show .inl #v[a,o,i,w,J,J,s.seq f,l,k _ λb j=>df.mono j _ _ m]
  |str t=>
   subst p;delta e7 at e;simp only at e;split at e
   .rename_i r;cases q:z0 t.cps.toList i with
    |none=>rw[q]at e;cases e
    |some c=>rw[q]at e;ext e;show .inr (.inr #v[t,i,c,J,J,Ly r,q,k _ λn n=>zU _])
   .cases e
  |_=>cases e
 |_=>ext e
#print f
def ix_X(hK:X.K=G.K:=by rfl):ι X (rIx G.K):=by rw[<-hK];show Zp
def Jj(G:Bg)(r:bA->Hp->VK->Prop)(g:D->Option D):Prop:=∀x z b H v (Q:VK),g x=U z->vF b H->df G b x v->(∀w,(∀a,vF b a->df G a z w)->Q w H)->r [v] H Q
def Yl{e:Expr}{r:bA->Hp->VK->Prop}{g:D->Option D}{f:FE}(p:Jj G r g)(h:PE X e (tCB r (t7 G (ab f vH)))):PE X e (tF G (c1 g f)):=PE.c3 h λB H Q o=>by let#v[F,y,i,d,b,R,e,k]:=o;let#v[x,l,m]:=Gp e;calc#v[F,y,i,[x],b,R,by delta ab;rw[l];rfl,λA j a s c rs=>?_];let#v[v,z,rfl,u,t]:=rs;subst t;show p x d j a v Q m c.sub u λw q=>k _ _ _ s c (q _ (vF.refl _))
def xA.or{f:aa}{r b:bA->Hp->VK->Prop}(h:xA X f r)(j:xA X f b):xA X f (λx H Q=>r x H Q\/b x H Q):=λa s i H e d Q I c q=>q.elim (h a s i H e d Q I c) (j a s i H e d Q I c)
def w6:D->Option D
 |.bx a=>U (.int a.length)
 |.ax a=>U (.int a.length)
 |.M a=>U (.int a.length)
 |.str x=>if x.length<=100000 then U (.int x.length)else Z
 |.J b a=>U (.int b.length)
 |_=>Z
def Qi:xA X (.builtin "len") (λc H Q=>∃a kvs,c=[V.ref a]/\Rd H a (.dK kvs)/\Q (.int kvs.length) H):=by intro b s l H c j Q I r h;let#v[a,kvs,rfl,e,q]:=h;let#v[u,rfl,f]:=mq r;ext f;show adq I e λt i d=>#v[.int kvs.length,H,d,#v[t,J],q]
def Ym(K:ay):bA->Hp->VK->Prop:=λb H Q=>(∃p c,b=[.ref p]/\(gi K H p c\/fl K H p c)/\Q (.int c.length) H)\/((∃z,b=[.str z]/\z.length<=aS/\Q (.int z.length) H)\/(∃a kvs,b=[V.ref a]/\Rd H a (.dK kvs)/\Q (.int kvs.length) H))
def Qj(hK:X.K=G.K:=by rfl):xA X (.builtin "len") (Ym G.K):=by rw[<-hK];show xA.or JS (xA.or JT Qi)
#print h
def aaj:Jj G (Ym G.K) w6:=λx z j H v Q e s f k=>by
 cases x with
 |bx h=>ext e;let#v[a,d,rfl,b,c]:=f;calc .inl #v[a,d,J,.inr (fl.mono s b),?_];rw[<-vE c];show k _ λu u=>xW _
 |ax h=>ext e;let#v[a,d,rfl,b,c]:=f;calc .inl #v[a,d,J,.inl (s.seq (gi.of b)),?_];rw[<-vE c];show k _ λu u=>xW _
 |M h=>ext e;let#v[a,d,rfl,b,c]:=f;calc .inl #v[a,d,J,.inl (s.seq b),?_];rw[<-vE c];show k _ λu u=>xW _
 |str t=>
  delta w6 at e;simp only at e;split at e
  .rename_i i;ext e;show .inr (.inl #v[t,by rw[f],Ly i,k _ λu u=>xW _])
  .cases e
 |J m h=>ext e;let#v[a,o,d,rfl,b,c,l]:=f;calc .inr (.inr #v[a,_,J,.inr #v[o,s _ _ b],?_]);rw[fU,<- c,fE];show k _ λu u=>xW _
 |_=>ext e
#print f
def LA:D->Option D
 |.int i=>U (.int i)
 |.bl b=>U (.int (if b then 1 else 0))
 |_=>Z
def aak:Jj G (λc H Q=>(∃i,c=[.int i]/\Q (.int i) H)\/∃k,c=[.bl k]/\Q (.int (if k then 1 else 0)) H) LA:=λx z d H v Q e s a k=>by
 cases x with
 |int i=>ext e;delta df at a;subst a;show .inl #v[i,J,k _ λu u=>xW _]
 |bl b=>ext e;delta df at a;subst a;show .inr #v[b,J,k _ λu u=>xW _]
 |_=>ext e
def IG:aZ->Option (List Bool)
 |[]=>U []
 |.bl b::r=>(IG r).map (b::·)
 |_=>Z
theorem Hf:∀{d:aZ} {a:bA} {bs:List Bool},bc G H d a->IG d=U bs->a=bs.map V.bl
 |[],a,bs,h,e=>by ext e;delta bc at h;show h
 |.bl b::r,a,bs,h,e=>by
  let#v[v,q,rfl,f,i]:=h;delta IG at e;cases c:IG r with
  |none=>rw[c]at e;cases e
  |some l=>rw[c]at e;ext e;delta df at f;subst f;rw[Hf i c];rfl
 |.cx::r,a,bs,h,e=>by cases e
 |.int _::r,a,bs,h,e=>by cases e
 |.str _::r,a,bs,h,e=>by cases e
 |.bx _::r,a,bs,h,e=>by cases e
 |.ax _::r,a,bs,h,e=>by cases e
 |.M _::r,a,bs,h,e=>by cases e
 |.obj _ _ _::r,a,bs,h,e=>by cases e
 |.J _ _::r,a,bs,h,e=>by cases e
 |.X _ _::r,a,bs,h,e=>by ext e
def AE:D->Option D
 |.ax a=>(IG a).map λbs=>.bl (bs.all id)
 |_=>Z
def aal:Jj G (λd H Q=>∃(p:Addr) (bs:List Bool),d=[.ref p]/\gi G.K H p (bs.map V.bl)/\Q (.bl (bs.all id)) H) AE:=λx z j H v Q e s i k=>by
 cases x with
 |ax f=>
  delta AE at e;simp only at e;cases b:IG f with
  |none=>rw[b]at e;cases e
  |some bs=>rw[b]at e;ext e;let#v[a,d,rfl,c,h]:=i;rw[Hf h b]at c;show#v[a,bs,J,s.seq (gi.of c),k _ λu u=>yb _]
 |_=>ext e
def Qk(a:X.k?=γ)(hK:X.K=G.K:=by rfl):xA X (.builtin "all") (λb H Q=>∃(p:Addr) (bs:List Bool),b=[.ref p]/\gi G.K H p (bs.map V.bl)/\Q (.bl (bs.all id)) H):=by rw[<-hK];show RA a
inductive Ty where
 |b (n:String)|c (k:Nat)
#print "val aa ype;v V y" in def Ty.ϑ0(G:Bg):Ty->ϑ1
 |.b n=>.tϑ2 n
 |.c k=>.ref (G.ca k)
def tyD:D->Ty
 |.cx=>.b "NoneType" |.bl _=>.b "bool" |.int _=>.b "int" |.str _=>.b "str" |.bx _=>.b "tuple" |.ax _=>.b "list" |.M _=>.b "list" |.J _ _=>.b "dict" |.X _ _=>.b "dict" |.obj c _ _=>.c c
structure Na(K:ay)(C:Addr):Prop where
 cl:U? K C
 ha:dB K (.ref C) "__class__" = U (U (.builtin "object.__class__"))
 hn:su K (.builtin "object.__class__") "__get__" = U (U (.builtin "getset_descriptor.__get__"))
 htk:W.takesIn K (.builtin "object.__class__")=U γ
 hm:W.mroIn K C (.type "object")=U γ
def R8{pins:dF}{σ:St}{s:aq}{A:bo}{E:aa->aq->Prop}{Q:aa->aq->Prop}{c:aa}{b:Bool}{d:D}{v:V}{u:aa}(I:b? X pins σ H s)(hK:X.K=G.K)(hd:df G H d v)(f:ea v u)(i:∀k ns ds,d=.obj k ns ds->Na X.K (G.ca k))
  (e:c6 X.K ((tyD d).val G) c=U b) (h:∀tk,Q (.bool b) { s with toks:=tk }):ar (model X.prog X.w) A (call (.builtin "isinstance") [u,c]) Q E s:=by
 cases d with
 |cx=>delta df at hd;subst hd;show Ab I f .cx e h
 |bl x=>delta df at hd;subst hd;show Ab I f (.bl x) e h
 |int x=>delta df at hd;subst hd;show Ab I f (.int x) e h
 |str x=>delta df at hd;subst hd;show Ab I f (.str x) e h
 |bx ds=>let#v[a,xs,rfl,h1,h2]:=hd;ext f;rw[<-hK]at h1;let#v[its,_,p,_]:=I.tuple h1;let#v[o,q1,q2,_]:=p;show cU rY I.rl #v[o,q1,q2] e (λz=>nomatch z) h
 |ax ds=>let#v[a,xs,rfl,h1,h2]:=hd;show Ab I f (.ax h1) e h
 |M ds=>let#v[a,xs,rfl,h1,h2]:=hd;ext f;rw[<-hK]at h1;let#v[its,_,p,_]:=I.list h1;let#v[o,n,q1,q2,_]:=p;show cU nW I.rl #v[o,q1,q2] e (λz=>nomatch z) h
 |J ks ds=>let#v[a,o,xs,rfl,h1,h2,h3]:=hd;ext f;let#v[q0,_,_,vs,_,ob,es,ep,q1,q2,_]:=(show eu X.prog X.w H s.heap a (.l? o (.dK (ks.zip xs))) from I.fb a _ h1);show cU k6 I.rl #v[ob,q1,q2.1] e (λz=>nomatch z) h
 |X ks ds=>let#v[a,xs,rfl,#v[o,qs,h1,_,h3,_],_]:=hd;ext f;show cU k6 I.rl #v[o,(show eu X.prog X.w H s.heap a (.ext (isO a o)) from I.fb a _ h1).1,h3.ex.1] e (λz=>nomatch z) h
 |obj k ns ds=>have ci:=i k ns ds J;let#v[a,dx,xs,rfl,h1,h2,h3]:=hd;show Ab I f (.nj h1 ci.cl ci.ha ci.hn ci.htk ci.hm) e h
def zS(t:Ty->Option Bool):D->Option D:=λd=>(t (tyD d)).map .bl
def Jk(c:Ty){t:Ty->Option Bool}(m:∀y b,t y=U b->c6 X.K (y.val G) (c.val G)=U b)(l:∀k b,t (.c k)=U b->Na X.K (G.ca k))(hK:X.K=G.K:=by rfl):
  xA X (.builtin "isinstance") (λi H Q=>∃d x b,i=[x,c.v G]/\df G H d x/\t (tyD d)=U b/\Q (.bl b) H):=by
 intro f s C H i B Q I r h;let#v[d,x,b,rfl,hd,e,q]:=h;let#v[u,p,rfl,o,a]:=vals2 r;have j:p=c.val G:=by ext c<;>show a
 subst j;show R8 I hK hd o (λk A w z=>by subst z;show l k b e) (m _ _ e) λtk=>#v[.bl b,H,I.zk _,J,q]
def OJ{e:Expr}{c:Ty}{t:Ty->Option Bool}{f:FE}(h:PE X e (tCB (λu H Q=>∃d x b,u=[x,c.v G]/\df G H d x/\t (tyD d)=U b/\Q (.bl b) H) (Ak (tF G f) (Ak (tC (c.v G)) GQ)))):PE X e (tF G (c1 (zS t) f)):=PE.c3 h λz H Q q=>by
 let#v[F,w,m,d,j,R,e,k]:=q;let#v[x,p,a]:=Gp e;delta zS at a;cases i:t (tyD x)with
 |none=>rw[i]at a;cases a
 |some b=>rw[i]at a;ext a;show#v[F,w,m,x,j,R,p,λv y o s l r=>#v[x,v,b,J,df.mono l.sub _ _ r,i,k _ _ _ s l (yb b)]]
def xJ(f g:FE):FA:=λe=>match f e with
 |some (.ax c,a)=>match g a with
  |some (.ax d,b)=>if c.length+d.length<=1000 then U (c++d,b)else Z
  |_=>Z
 |_=>Z
#print h
def Wc{a b:Expr}{f g:FE}{pos:Pos}(I:PE X a (tF G f))(M:PE X b (tF G g)):PE X (.BinOp a .Add b pos) (Bx G (xJ f g)):=PE.c3 (Oh Zr I M) λσ H Q N=>by
 let#v[F,T,q,d,W,R,e,k]:=N;delta xJ at e;split at e
 .rename_i xs c A;split at e
  .rename_i ys Y B;split at e
   .rename_i O;ext e;calc#v[F,T,q,_,c,R,A,λv t w s y r=>#v[F,c,t,_,_,y,B,λu H2 x o R2 S=>?_]];have P:=df.mono o _ _ r;let#v[a1,i,rfl,C,l]:=P;let#v[z,j,rfl,E,m]:=S;calc#v[a1,z,i,j,J,J,R2.sub _ _ C,R2.sub _ _ E,by rw[<-vE l,<- vE m];show zi O,λp h=>?_];show k p _ _ _ (s.t o) (R2.gj h _) vB (R2.e? h) (R2.gr h) (R2.apart h) (xn l m)
   .ext e
  .ext e
 .ext e
#print f
def CA(f:FE):FA:=λc=>match f c with
 |some (d,a)=>match R7 d with
  |some b=>U (b,a)
  |none=>Z
 |none=>Z
def R9{e:Expr}{f:FE}(h:PE X e (tCB (λm H Q=>∃p c,m=[.ref p]/\(gi G.K H p c\/fl G.K H p c)/\∀l,H l=Z->Q (.ref l) (el H l (.ax c))) (t7 G (ab f vH)))):PE X e (Bx G (CA f)):=PE.c3 h λM H Q x=>by
 let#v[F,o,q,E,A,R,e,k]:=x;delta CA at e;rcases vW (f:=f) (ρ:=o)with i|⟨d,B,i⟩<;>erw[i]at e
 .ext e
 .cases j:R7 d with
  |none=>erw[j]at e;cases e
  |some t=>erw[j]at e;ext e;calc#v[F,o,q,[d],_,R,by delta ab;rw[i];rfl,λc C r s a rs=>?_];let#v[v,I,rfl,z,y]:=rs;subst y;let#v[p,m,rfl,u,w]:=OH z j;show#v[p,m,J,OI a.sub u,λl b=>k l _ _ _ s (a.gj b _) vB (a.e? b) (a.gr b) (a.apart b) w]
def Nc(hK:X.K=G.K:=by rfl):xA X (.type "list") (λb H Q=>∃p a,b=[.ref p]/\(gi G.K H p a\/fl G.K H p a)/\∀l,H l=Z->Q (.ref l) (el H l (.ax a))):=by rw[<-hK];show JU
def CB(f:FE):FE:=λc=>match f c with
 |some (.ax b,a)=>U (.bx b,a)
 |some (.bx b,a)=>U (.bx b,a)
 |_=>Z
#print h
def Sa{e:Expr}{f:FE}(h:PE X e (tCB (λr H Q=>∃p b,r=[.ref p]/\((gi G.K H p b/\∀l,H l=Z->Q (.ref l) (el H l (.bx b)))\/(fl G.K H p b/\Q (.ref p) H))) (t7 G (ab f vH)))):PE X e (tF G (CB f)):=PE.c3 h λI H Q A=>by
 let#v[F,y,w,E,C,R,e,k]:=A;delta CB at e;split at e
 .rename_i r u i;ext e;calc#v[F,y,w,[_],_,R,by delta ab;rw[i];rfl,λb z d s a rs=>?_];let#v[v,B,rfl,c,o]:=rs;subst o;let#v[p,t,rfl,j,x]:=c;calc#v[p,t,J,.inl #v[gi.of (a.sub _ _ j),λl m=>?_]];show k _ _ _ (s.t (vK (a.e? m) _)) (a.GX m _) (zT (fl.of vB) (bc.mono (vK (a.e? m) _) _ _ x))
 .rename_i r u i;ext e;calc#v[F,y,w,[_],_,R,by delta ab;rw[i];rfl,λb z d s a rs=>?_];let#v[v,B,rfl,c,o]:=rs;subst o;have q:=c;let#v[p,t,rfl,j,x]:=c;show#v[p,t,J,.inr #v[fl.mono a.sub j,k _ _ _ s a q]]
 .ext e
#print f
def Ql(hK:X.K=G.K:=by rfl):xA X (.type "tuple") (λb H Q=>∃p a,b=[.ref p]/\((gi G.K H p a/\∀l,H l=Z->Q (.ref l) (el H l (.bx a)))\/(fl G.K H p a/\Q (.ref p) H))):=by rw[<-hK];show Iy
def ij(xs:aZ)(lo a:Option Int):aZ:=(xs.drop (HT.z3 xs.length 0 lo)).take (HT.z3 xs.length xs.length a - HT.z3 xs.length 0 lo)
def LB{a:Hp}{b:aZ}{d:bA}{lo c:Option Int}(r:bc G a b d):bc G a (ij b lo c) (PU d lo c):=by delta ij PU;rw[<-vE r];show Jf _ (Je _ r)
def cSl(f:FE)(lo c:Option Int):FA:=λd=>match f d with
 |some (.ax b,a)=>U (ij b lo c,a)
 |some (.M b,a)=>U (ij b lo c,a)
 |_=>Z
def tO(o:Option Int):TO:=λz H Q=>Q o H
#print h
def Qm{e:Expr}{f:FE}{lo o:Option Int}(h:PE X e (tSl (PX G.K) (tF G f) (tO lo) (tO o))):PE X e (Bx G (cSl f lo o)):=PE.c3 h λC H Q A=>by
 let#v[F,y,t,z,w,R,e,k]:=A;have ma:∀{a:Addr} {j:bA} {i:aZ} {d b:Hp},vF t d->b8 G F C w d b->gi G.K d a j->bc G d i j->z=ij i lo o->PX G.K (.ref a) lo o b Q:=λ{a j i d b} s c l m e=>by subst e;show#v[a,j,J,c.sub.seq l,λp q=>k p _ _ _ s (c.gj q _) vB (c.e? q) (c.gr q) (c.apart q) (LB m)]
 delta cSl at e;split at e
 .rename_i j x u;ext e;calc#v[F,y,t,_,_,R,u,λv d b s c r=>?_];let#v[a,B,rfl,l,m]:=r;show ma s c (gi.of l) m J
 .rename_i j x u;ext e;calc#v[F,y,t,_,_,R,u,λv d b s c r=>?_];let#v[a,B,rfl,l,m]:=r;show ma s c l m J
 .ext e
#print f
def Sd{n:Int}{j pos}:PO X (U (.Constant (.int n) j pos)) (tO (U n)):=λa s b H Q I h=>Om MK a s b H Q I #v[n,J,h]
def sl_X(hK:X.K=G.K:=by rfl):SlR X (PX G.K):=by rw[<-hK];show Vo
end
def Sl.ω:Sl->Sl
 |.un=>.un
 |.q d=>.q d
 |.I a=>.q (.ax a)
 |.pm a=>.q (.ax a)
 |.dk _ _=>.un
 |.ob c b a=>.q (.obj c b a)
section
theorem b8.ω(R:b8 G F σ ρ H0 H):b8 G #v[H,H,[]] σ (ρ.map Sl.ω) H H where
 sub:=vF.refl _
 g0:=vF.refl _
 keep:=λb o e z=>e
 fr:=λb o e=>.inl e
 am:=λa h=>by ext h
 len:=by rw[ak];show R.len
 sl:=λi s e=>by
  rw[br]at e;cases f:ρ[i]? with
  |none=>rw[f]at e;cases e
  |some t=>
   rw[f]at e;ext e;have ok:=R.sl i t f;cases t with
   |un=>trivial
   |q d=>let#v[v,h1,h2]:=ok;show#v[v,h1,df.mono R.sub _ _ h2]
   |I ds=>let#v[a,xs,h1,h2,h3,h4,h5]:=ok;show#v[_,h1,AI h2 (bc.mono R.sub _ _ h5)]
   |pm ds=>let#v[a,xs,h1,h2,h3,h4,h5]:=ok;show#v[_,h1,AI h2 (bc.mono R.sub _ _ h5)]
   |dk ks ds=>trivial
   |ob c ns ds=>let#v[a,dx,xs,h1,h2,h3,h4,h5,h6]:=ok;show#v[_,h1,by delta df;show#v[a,dx,xs,J,h2,h5,bc.mono R.sub _ _ h6]]
 ap:=λi j s t a z e z so=>by
  rw[br]at e;cases f:ρ[i]? with
  |none=>rw[f]at e;cases e
  |some t=>rw[f]at e;ext e;ext t<;>ext so
def b8.unbor(R:b8 G F h ρ d H)(c:b8 G #v[H,H,[]] i f j a):b8 G F h ρ d a:=
 R.gk (λb o e=>c.keep b o e (by simp)) (vF.refl _) (λb o e=>c.keep b o (R.sub _ _ e) (by simp)) λb o e=>.inl e
def Em(f:FE):FE:=λa=>match f (a.map Sl.ω)with
 |some (d,_)=>if yf d=γ then U (d,a)else Z
 |none=>Z
def DG(f:FT):FT:=λa=>match f (a.map Sl.ω)with
 |some (d,_)=>U (d,a)
 |none=>Z
#print h
def aam(h:PE X e (tF G f)):PE X e (tF G (Em f)):=PE.c3 h λt H Q m=>by
 let#v[F,i,p,d,o,R,e,k]:=m;delta Em at e;rcases vW (f:=f) (ρ:=i.map Sl.ω)with a|⟨x,b,a⟩<;>erw[a]at e
 .ext e
 .split at e
  .rename_i c;ext e;calc#v[_,_,H,d,b,R.ω,a,λv q j s l r=>?_];rw[zJ r c];show k _ _ _ (vF.refl _) (R.unbor l) (Ek c _)
  .ext e
#print f
def Wd(h:PT X e (n3 G f)):PT X e (n3 G (DG f)):=PT.c3 h λq H Q l=>by
 let#v[F,c,o,d,m,R,e,k]:=l;delta DG at e;rcases vW (f:=f) (ρ:=c.map Sl.ω)with a|⟨x,b,a⟩<;>erw[a]at e
 .ext e
 .ext e;show#v[_,_,H,d,b,R.ω,a,λp i s j=>k _ _ (vF.refl _) (R.unbor j)]
def yK(g h:D->D->Option D)(d e f:FE):FE:=λi=>match d i with
 |some (x,b)=>match e b with
  |some (y,a)=>match g x y with
   |some (.bl γ)=>match f a with
    |some (z,c)=>match h y z with
     |some w=>U (w,c)
     |none=>Z
    |none=>Z
   |some (.bl δ)=>U (.bl δ,a)
   |_=>Z
  |none=>Z
 |none=>Z
#print h
def LC(Y:k4 G r g)(I:k4 G r' X):∀N H Q,tF G (yK g X S T W) N H Q->MP r r' (tF G S) (tF G T) (tF G W) N H Q:=λN H Q hh=>by
 let#v[F,m,H0,d,ρ',R,e,k]:=hh;delta yK at e;rcases vW (f:=S) (ρ:=m)with p|⟨x,b,p⟩<;>erw[p]at e
 .ext e
 rcases vW (f:=T) (ρ:=b)with A|⟨y,c,A⟩<;>erw[A]at e
 .ext e
 calc#v[F,m,H0,x,b,R,p,λv H1 H1' s1 R1 r1=>#v[F,b,H1,y,c,R1,A,λu h i o R2 M=>?_]];split at e
 .rename_i B;calc Y x y _ h i v u _ B R2.sub (df.mono o _ _ r1) M λw l=>?_;have a:=l h (vF.refl _);calc#v[γ,a,IB ?_];rcases vW (f:=W) (ρ:=c)with C|⟨z,ρ3,C⟩<;>erw[C]at e
  .ext e
  cases E:X y z with
  |none=>erw[E]at e;cases e
  |some q=>erw[E]at e;ext e;calc#v[F,c,h,z,_,R2,C,λt O j s3 P r3=>?_];show I y z _ O j u t Q E P.sub (df.mono s3 _ _ M) r3 λw l=>k w O j (s1.t (o.t s3)) P (l _ (vF.refl _))
 .rename_i B;ext e;calc Y x y _ h i v u _ B R2.sub (df.mono o _ _ r1) M λw l=>?_;have a:=l h (vF.refl _);show#v[δ,a,IA (k _ _ _ (s1.t o) R2 (yb δ))]
 .ext e
#print f
def Se(w:js X (bz h) r)(f:js X (bz d) x)(u:k4 G r g)(e:k4 G x m)(o:PE X a (tF G i))(p:PE X b (tF G j))(q:PE X c (tF G l))
  (t:lastMarks [h,d] [b,c]=δ:=by with_unfolding_all rfl):PE X (.Compare a [h,d] [b,c] pos) (tF G (yK g m i j l)):=PE.c3 (Q7 w f o p q t) (LC u e)
def Qn(C:js X (bz l) r)(i:js X (bz f) E)(B:k4 G r g)(h:k4 G E u)(w:PE X a (tF G p))(x:PE X b (tF G q))(y:PE X c (tF G t))
  (A:lastMarks [l,f] [b,c]=δ:=by with_unfolding_all rfl):PT X (.Compare a [l,f] [b,c] pos) (n3 G (cT (yK g u p q t))):=PT.c3 (Q8 C i w x y A) λm H Q z=>by
 let#v[F,I,o,d,j,R,e,k]:=Oy m H Q z;show LC B h m H _ #v[F,I,o,d,j,R,e,k]
end
def AJ(P:bb)(w:aQ)(K:ay)(b:Str->Option aa)(a8:Heap)(k:Nat)(x:Str)(c:aC)(d:Sp):Prop:=
 ∃(f:Addr) (a:cD),b x=U (.ref f)/\dS K (.ref f)=γ/\ki K a c []/\zh P w K b a8 Dv k f a c d
def J1(G:Bg)(P:bb)(w:aQ)(d:Str->Option aa)(a8:Heap)(k:Nat)(x:Str)(c:Nat)(e:aC)(dvs:bA)(g:aZ->Option (aC×aZ)):Prop:=
 ∃(f:Addr) (b:cD) (a:List aa),Mk G.K (G.ca c) f/\d x=U (.ref (G.ca c))/\ki G.K b e a/\d? dvs a/\zh P w G.K d a8 Dv k f b e (spI G c g)
def Fb(G:Bg)(P:bb)(w:aQ)(d:Str->Option aa)(a8:Heap)(k:Nat)(m:Str)(c:Nat)(h:aZ->Option D):Prop:=
 ∃(f:Addr) (a:cD) (b:aC),U? G.K (G.ca c)/\Meth G.K (G.ca c) m f/\ki G.K a b []/\zh P w G.K d a8 Dv k f a b (gp G h)
section
def FD{b:Type}(g:aZ->b):(λa=>g (a++[]))=g:=funext λa=>by rw[bD]
#print "aan gp tF t VX;We vf Bx 7 RQ" in def ϑ0(D:AJ X.prog X.w X.K X.mg X.a8 k x u (ϑ1 G g))(r:xi k X.A)(l:PA X (e::b) (t7 G a))(o:Gl X x:=by rfl)(c:(x==("__debug__" : Str))=δ:=by decide)(m:aE (e::b) X.a9=(δ,eval e X.a9)::aE b X.a9:=by rfl)(hpl:(bJ pos (aE b X.a9)).any (·.1)=δ:=by rfl):
  PE X (.Call (.Name x p) (e::b) [] pos) (ϑ2 G (vϑ3 g a)):=by
 let#v[f,t,d,h,i,j]:=D;have q:=ϑ4 (λz=>vV) (Gj (p:=p) j r o d h i .nil Eg l c m hpl);rw[FD]at q;show q
def Sf(D:AJ X.prog X.w X.K X.mg X.a8 k x l (vf G g))(i:xi k X.A)(h:Gl X x:=by rfl)(a:(x==("__debug__" : Str))=δ:=by decide):PE X (.Call (.Name x p) [] [] pos) (Bx G (v7 g vH)):=by let#v[f,j,b,c,d,e]:=D;show Qb (Rf e i h b c d .nil Eg a)
def Wf(D:AJ X.prog X.w X.K X.mg X.a8 k x y (spM G g))(r:xi k X.A)(t:PE X e (AC i))(o:PA X b (t7 G a))(q:Gl X x:=by rfl)(c:(x==("__debug__" : Str))=δ:=by decide)(d:aE (e::b) X.a9=(δ,eval e X.a9)::aE b X.a9:=by rfl)(hpl:(bJ pos (aE b X.a9)).any (·.1)=δ:=by rfl):
  PE X (.Call (.Name x p) (e::b) [] pos) (tF G (v8 g i a)):=by
 let#v[f,u,h,j,l,m]:=D;show Z4 (Gj m r q h j l .nil Eg (xf t o d) c d hpl)
def Wg(M:J1 G X.prog X.w X.mg X.a8 k x c z dvs g)(hd:∀H,bc G H dds dvs)(u:xi (k+1) X.A)(q:PA X (e::b) (t7 G a))(hK:X.K=G.K:=by rfl)(t:Gl X x:=by rfl)(d:(x==("__debug__" : Str))=δ:=by decide)
  (r:aE (e::b) X.a9=(δ,eval e X.a9)::aE b X.a9:=by rfl) (hpl:(bJ pos (aE b X.a9)).any (·.1)=δ:=by rfl):
  PE X (.Call (.Name x p) (e::b) [] pos) (tF G (wm c (λh=>g (h++dds)) a)):=by
 let#v[f,y,h,i,m,j,o,l]:=M;rw[<-hK]at i j l;show VZ hd (Vj i l u t m j o Eg q d r hpl)
def Yn(M:∀c h,g c=U h->Fb G X.prog X.w X.mg X.a8 k m c h)(o:xi k X.A)(hK:X.K=G.K):∀C a,MT G g C a->MOk X C m a [] E0:=λC a h=>by let#v[c,h,e,rfl,rfl]:=h;let#v[f,l,p,b,d,i,j]:=M c h e;rw[<-hK]at b d i j;show#v[k,f,l,p,[],b,d,j,o,i,.nil,Eg]
def Qo(M:∀c h,g c=U h->Fb G X.prog X.w X.mg X.a8 k m c h)(l:xi k X.A)(j:PE X o (tF G f))(i:PA X (e::b) (t7 G a))(hK:X.K=G.K:=by rfl)
  (hst:aE (e::b) X.a9=(δ,eval e X.a9)::aE b X.a9:=by rfl) (hpl:(bJ pos (aE b X.a9)).any (·.1)=δ:=by rfl)
  (p:eval (.Call (.Attribute o m apos) (e::b) [] pos) X.a9=(do
   let d<-eval o X.a9
   standAt apos.atName
   let (f,first)<-holding [d] (getMethod d m pl)
   callWith pos f first (bJ pos (aE (e::b) X.a9)) (backToKw pos (dR [] X.a9))):=by rfl):
  PE X (.Call (.Attribute o m apos) (e::b) [] pos) (tF G (v9 g m f a)):=VY (RS (MT G g) (Yn M l hK) j i hst hpl p)
def Nd(M:∀c h,g c=U h->Fb G X.prog X.w X.mg X.a8 k m c h)(d:xi k X.A)(b:PE X o (tF G f))(hK:X.K=G.K:=by rfl)
  (e:eval (.Call (.Attribute o m apos) [] [] pos) X.a9=(do
   let a<-eval o X.a9
   standAt apos.atName
   let (f,first)<-holding [a] (getMethod a m pl)
   callWith pos f first (bJ pos (aE [] X.a9)) (backToKw pos (dR [] X.a9))):=by rfl):
  PE X (.Call (.Attribute o m apos) [] [] pos) (tF G (v9 g m f vH)):=RT (Qd (MT G g) (Yn M d hK) b e)
end
section
variable{K:ay}{st:Stmt}
abbrev En(P:bb)(w:aQ)(K:ay)(a:Str->Option aa)(a8:Heap)(N:aC)(qual:Str)(st:Stmt)(f:Addr)(cdv:aa)(A:bo)(b9:List Env)(s:aq)(H:Hp)(E:XK):Cx:=(K5 Dv P w K a a8 N qual (vP st) f cdv A b9 s H E).nox
theorem Sg(c:g=fx np n b)(d:ps.length=np)(hN:N.length=n)(F:W? K x qual st f a)(S:xm N ps (vP st))(body:∀(cdv:aa) (A:bo) (b9:List Env) (s:aq) (H:Hp) (E:XK),xi k (A.deeper (envOfC qual (vP st) (~~~s) f cdv))->l' (En P w K i a8 N qual st f cdv A b9 s H E) (wb st) (ke G b)):
  zh P w K i a8 Dv (k+1) f a ps (gp G g):=by
 subst c d hN;show F.ok S (adI VS) λcdv A b9 s H j Q E e h=>#v[_,body cdv A b9 s H E e,VQ (by have:=aX cN S.pre;rw[cf]at this;omega) h]
theorem adW(d:g=y? l n b)(e:a.length=l)(hN:N.length=n)(F:W? K x qual st f c)(S:xm N a (vP st))(body:∀(cdv:aa) (A:bo) (b9:List Env) (s:aq) (H:Hp) (E:XK),xi k (A.deeper (envOfC qual (vP st) (~~~s) f cdv))->l' (En P w K j a8 N qual st f cdv A b9 s H E) (wb st) (ke G b)):
  zh P w K j a8 Dv (k+1) f c a (vf G g):=by
 subst d e hN;show F.ok S (adJ VT) λcdv A b9 s H m Q E i h=>#v[_,body cdv A b9 s H E i,VR (by have:=aX cN S.pre;rw[cf]at this;omega) h]
theorem adX{a:aC}(d:g=Z? l n b)(e:a.length=l)(hN:N.length=n)(F:W? K x qual st f c)(S:xm N (p::a) (vP st))(body:∀(cdv:aa) (A:bo) (b9:List Env) (s:aq) (H:Hp) (E:XK),xi k (A.deeper (envOfC qual (vP st) (~~~s) f cdv))->l' (En P w K j a8 N qual st f cdv A b9 s H E) (wb st) (ke G b)):
  zh P w K j a8 Dv (k+1) f c (p::a) (spM G g):=by
 subst d e hN;show F.ok S (Yj V8) λcdv A b9 s H m Q E i h=>#v[_,body cdv A b9 s H E i,V7 (by have:=aX cN S.pre;rw[cf,aK]at this;omega) h]
def Yo(d:∀a q,g a=U q->a.length=f):∀b H Q E,spI G c g b H Q E->b.length=f+1:=λb H Q E h=>by let#v[p,j,o,i,a,m,l,rfl,_,_,_,r,e,_]:=h;rw[aK,<- vE r,d _ _ e]
theorem adY{a:aC}(e:g=z5 c m n b)(i:a.length=m)(hN:N.length=n)(F:W? K x qual st f d)(S:xm N (p::a) (vP st))(body:∀(cdv:aa) (A:bo) (b9:List Env) (s:aq) (H:Hp) (E:XK),xi k (A.deeper (envOfC qual (vP st) (~~~s) f cdv))->l' (En P w K l a8 N qual st f cdv A b9 s H E) (wb st) (ke G b)):
  zh P w K l a8 Dv (k+1) f d (p::a) (spI G c g):=by
 subst e i hN;show F.ok S (Yo λo q h=>(G7 h).1) λcdv A b9 s H r Q E j h=>#v[_,body cdv A b9 s H E j,OB (by have:=aX cN S.pre;rw[cf,aK]at this;omega) h]
theorem aao{a:aC}(e:g=z5 c m n b)(i:a.length=m)(hN:N.length=n)(F:P8 K x qual st f d T)(S:xm N (p::a) (vP st))(body:∀(cdv:aa) (A:bo) (b9:List Env) (s:aq) (H:Hp) (E:XK),xi k (A.deeper (envOfC qual (vP st) (~~~s) f cdv))->l' (En P w K l a8 N qual st f cdv A b9 s H E) (wb st) (ke G b)):
  zh P w K l a8 Dv (k+1) f d (p::a) (spI G c g):=by
 subst e i hN;show F.ok S (Yo λo q h=>(G7 h).1) λcdv A b9 s H r Q E j h=>#v[_,body cdv A b9 s H E j,OB (by have:=aX cN S.pre;rw[cf,aK]at this;omega) h]
end
section
variable{X:Cx}{G:Bg}
def Di(G:Bg)(a:Str->Option aa)(x:Str)(d:D):Prop:=∃(v:V) (u:aa),a x=U u/\ea v u/\∀H,df G H d v
def Sh(h:Di G X.mg x d)(e:Gl X x:=by rfl)(hd:(x==("__debug__" : Str))=δ:=by decide):PE X (.Name x pos) (tF G (cC d)):=by let#v[v,u,a,b,c]:=h;show VB (D9 e a b hd) c
def sBad:FS:=λz=>Z
def yG(T:String):Ty->Option Bool
 |.b n=>if n="NoneType" then U δ else if n="bool" then U (T=="bool" ||T=="int")else if n="int" then U (T=="int")else if n="str" then U (T=="str")else if n="tuple" then U (T=="tuple")else if n="list" then U (T=="list")else if n="dict" then U (T=="dict")else Z
 |.c _=>Z
def Si:∀k b,yG T (.c k)=U b->Na X.K (G.ca k):=λk b h=>by ext h
def Nf:List String:=["NoneType", "bool", "int", "str", "tuple", "list", "dict"]
def Hg{T:String}(h:(Nf.all λn=>decide (c6 X.K ((Ty.b n).val G) (.type T)=yG T (.b n)))=γ):∀y b,yG T y=U b->c6 X.K (y.val G) (.type T)=U b:=λy b e=>by
 cases y with
 |c k=>cases e
 |b n=>
  by_cases a:n∈Nf
  .rw[bj (bF.1 h n a)];show e
  .erw[Nf,aD,bY,or_false,not_or]at a;simp[yG,a]at e
#print "Sj list;Wh str" in def ϑ0:∀y b,yG "ϑ1" y=U b->c6 X.K (y.val G) (.type "ϑ1")=U b:=Hg (by kernel_rfl)
end
end L4
namespace L3
open PySem PySem.Spec PyProof.Rows L2
def Wi{X:Cx}{spos:Pos}{eh:List Nat}
  (O:X.k?=γ) (hN:X.N.Nodup) (T:X.N[i]?=U y) (hyl:Loc X.a9.scope y) (P:PI X r iter wi)
  (body:∀(l:List (Str×Addr)) (C:Addr) (p:List Addr) (s:aq) (H:Hp),PG (xj X c scope l C p s H) r g/\PIf (xj X c scope l C p s H) ifs tt/\PE (xj X c scope l C p s H) elt te)
  (hkind:scope.kind=.function:=by rfl) (hcell:(scope.names.all λy=>y.2 != .cell)=γ:=by rfl)
  (hloc:(scope.names.all λy=>y.2 != .local||scope.names.lookup y.1==U .local)=γ:=by rfl)
  (hfree:(scope.names.all λy=>y.2 != .free||(X.a9.kindOf y.1==U .cell||X.a9.kindOf y.1==U .free))=γ:=by rfl)
  (f:c.length=k+eh.length:=by rfl) (hcap:(c.drop k).map U=eh.map λj=>X.N[j]?:=by rfl)
  (hcf:((c.drop k).all λx=>scope.names.lookup x==U .free)=γ:=by rfl)
  (S:∀x,jk iter X.a9 x=pure x:=by intro _;rfl)
  (hsw:eM (.ListComp elt [#v[r,iter,ifs,0]] scope pos) (U (.Name y py)) spos.line X.a9=pure γ:=by rfl)
  (hfy:X.fn y=γ\/X.a9.scope.names.lookup y=U .local:=by first|show .inl J|show .inr J|assumption):
  PS X (.Assign [.Name y py] (.ListComp elt [#v[r,iter,ifs,0]] scope pos) spos) (Eb (G0 wi g tt te k eh) (Ah i)):=by
 intro B s σ H D I h;rw[exec_Assign_Name_used _ _ _ _ hsw];calc aj (rP (aj ?_));calc aj (cB (Jc O P body hkind hcell hloc hfree f hcap hcf S I h λa C m u s4 F Q nr fpC qn=>?_) (λn s' R=>aw (aw R)) λn n e=>e);let#v[oC,esC,nC,gC,dC,rC]:=id Q;have M:=nr.P2 (λb d=>aO.1 d▸fpC) (λb d=>aO.1 d▸#v[oC,gC,λv z=>by rw[dC]at z;ext z]);calc ff (Oe hN T hyl hfy _ s4 σ F (.ref a) (.ref a) (λt E=>D.nx t E) M J qn) λn s6 zz=>?_;let#v[w,G,A,q6]:=zz;let#v[W,Y,_]:=A.C' (C,oC) (bU _ (bU _ (Aj (by simp) gC)));show#v[m,#v[oC,esC,nC,W,dC,rC],λh' q=>#v[w,G,A.ov.jl (λb o d e=>(q.2 b d).t e) Y fpC.2.1 fpC.2.2.2.1 fpC.2.2.2.2.1 fpC.2.2.2.2.2,q6]]
end L3
namespace L4
open PySem PySem.Spec PyProof.Rows L2 L3
section
def LD{st:Stmt}(h:PS X st (Eb d g))(w:∀b H Q,a b H Q->d b H Q):PS X st (Eb a g):=PS.c3 h λE b H c=>w _ _ _ c
def Sk{st:Stmt}{eh:List Nat}(c:eh.Nodup)(h:PS X st (Eb (G0 (P? G s) (tFG G k g) (n3 G b) (tF G a) k eh) (Ah i))):PS X st (ke G (vM i (cL (vT k eh s g b a)))):=OA (LD (LD h (OD c)) tN_F)
end
section
def vp(h:f ρ=U (.nx ρ')):a7 f g ρ=g ρ':=by delta a7;rw[h]
def wc(h:f ρ=U (.rt d ρ')):a7 f g ρ=U (.rt d ρ'):=by delta a7;rw[h]
#print "wz γ f;v5 δ g" in def ϑ0(h:c ρ=U (ϑ1,ρ')):gs c f g ρ=ϑ2 ρ':=by delta gs;rw[h]
#print "vL e d vM q;BK a ds yd I" in def ϑ0(h:ϑ1 ρ=U (ϑ2,ρ')):ϑ3 i ϑ1 ρ=U (.nx (ρ'.set i (.ϑ4 ϑ2))):=by delta ϑ3;rw[h]
#print "vX e d vQ t;zV a ds xB n" in def ϑ0(h:ϑ1 ρ=U (ϑ2,ρ')):ϑ3 ϑ1 ρ=U (.rϑ4 ϑ2 ρ'):=by delta ϑ3;rw[h]
def wV(h:e ρ=U (d,ρ')):v3 e ρ=U (.nx ρ'):=by delta v3;rw[h]
def vA{g:D->D->Option D}(a:e ρ=U (x,ρ1))(b:e' ρ1=U (y,ρ2))(c:g x y=U z):c2 g e e' ρ=U (z,ρ2):=by delta c2;rw[a];erw[b,c]
def wu{g:D->Option D}(b:e ρ=U (x,a))(c:g x=U z):c1 g e ρ=U (z,a):=by delta c1;rw[b];erw[c]
def Sm(a:e (ρ.map Sl.ω)=U (d,c))(b:yf d=γ):Em e ρ=U (d,ρ):=by delta Em;rw[a];erw[b,if_true]
def J2(a:c (ρ.map Sl.ω)=U (b,ρ1)):DG c ρ=U (b,ρ):=by delta DG;rw[a]
def wt(a:e ρ=U (.bl b,ρ1)):cT e ρ=U (b,ρ1):=by delta cT;rw[a]
def Eo(a:c ρ=U (b,ρ1)):zg c ρ=U (!b,ρ1):=by delta zg;rw[a]
def A5(d:c ρ=U (δ,ρ1))(e:a ρ1=U (b,ρ2)):yT c a ρ=U (b,ρ2):=by delta yT;rw[d];show e
def vz(b:e ρ=U (d,ρ1))(c:a ρ1=U (ds,ρ2)):ab e a ρ=U (d::ds,ρ2):=by delta ab;rw[b];erw[c]
def vv{b:Type}{g:aZ->Option b}{r:b}(c:a ρ=U (ds,ρ1))(d:g ds=U r):E5 g a ρ=U (r,ρ1):=by delta E5;rw[c];erw[d]
def wA(b:a ρ=U (ds,ρ1)):cL a ρ=U (.ax ds,ρ1):=by delta cL;rw[b]
def BL(b:a ρ=U (ds,ρ1))(c:ds.length<=1000):vO a ρ=U (ds,ρ1):=by delta vO;rw[b];erw[c,if_true]
def zl(b:a ρ=U (ds,ρ1))(c:ds.length<=1000):wg a ρ=U (.bx ds,ρ1):=by delta wg;rw[b];erw[c,if_true]
def yX(b:e ρ=U (.ax xs,ρ1))(c:e' ρ1=U (.ax ys,a))(d:xs.length+ys.length<=1000):xJ e e' ρ=U (xs++ys,a):=by delta xJ;rw[b];erw[c,d,if_true]
def yh{g:aZ->aZ->Option (D×aZ)}{i:Nat}{e c b:aZ}(f:xh ρ i=U c)(h:a ρ=U (ds,ρ1))(j:xh ρ1 i=U e)(l:g e ds=U (d,b)):v8 g i a ρ=U (d,putAt ρ1 i b):=by delta v8;rw[f];erw[h,j,l]
def CC(a:xh ρ i=U es0)(b:e ρ=U (d,ρ1))(c:xh ρ1 i=U es)(f:es.length<1000):zP i e ρ=U (.cx,putAt ρ1 i (es++[d])):=by delta zP;rw[a];erw[b,c,f,if_true]
def wW{s:FA}{g:FG}(a:s ρ=U (ds,ρ1)):yx s g f ρ=fu g f ds ρ1:=by delta yx;rw[a]
def AK{k:Nat}{eh:List Nat}{s:FA}{g:FG}{a:FT}{fe:FE}(b:s ρ=U (ds,ρ1))(c:ds.length<=1000):vT k eh s g a fe ρ=yW k eh g a fe ds ρ1:=by delta vT;rw[b];erw[c,if_true]
theorem Jl{k:Nat}{eh:List Nat}{g:FG}{fe:FE}(P:aZ->aU->Prop):∀(ds a:aZ) (ρ:aU),P a ρ->
  (∀a d ρ,d∈ds->P a ρ->∃ρ1 x b ρ',g d (Du k eh ρ)=U ρ1/\fe ρ1=U (x,b)/\yE eh (b.drop k) ρ=U ρ'/\P (a++[x]) ρ')->∃xs ρ',yW k eh g wG fe ds ρ=U (xs,ρ')/\P (a++xs) ρ'/\xs.length=ds.length
 |[],a,ρ,p,_=>#v[[],ρ,J,by rw[bD];show p,J]
 |d::ds,a,ρ,p,st=>by let#v[ρ1,x,b,e,i,j,l,m]:=st a d ρ aP p;let#v[xs,ρ',o,f,q]:=Jl P ds (a++[x]) e m λc h ρ' hd=>st c h ρ' (ba _ hd);calc#v[x::xs,ρ',?_,by rw[bL]at f;show f,by rw[aK,aK,q]];delta yW;rw[i];erw[wG,j,l,o]
def aap(i:c.length=j)(h:b (L4.stM n e c)=U (.rt d ρ))(f:FB ρ=U a):Z? j n b e c=U (d,a):=by delta Z?;rw[af i,h];erw[f]
def aaq(e:ds.length=f)(h:b (L4.stM n c ds)=U (.rn i ρ))(d:FB ρ=U a):Z? f n b c ds=U (.ax i,a):=by delta Z?;rw[af e,h];erw[d]
#print "DS c a d n e y?;vR a ds c t d fx" in def ϑ0(ϑ1:ϑ2.length=ϑ3)(h:b (L4.K3 n ϑ2)=U (.rϑ4 ϑ5 ρ)):ϑ6 ϑ3 n b ϑ2=U ϑ5:=by delta ϑ6;rw[af ϑ1,h]
def J3(h:A4 a=U l)(hd:wY l<=19):ey neg (.ax a) (.ax a)=U (.bl (!neg)):=by
 have b:E9 neg (.ax a) (.ax a)=Z:=rfl;have c:oy (.ax a)=U (.ax l):=by delta oy;rw[h]
 have d:gw (.ax l)=wY l+1:=by rw[gw]
 delta ey;rw[b];simp only;delta Ge;rw[c];simp only;rw[af (by erw[bt,bV];show#v[#v[J,by omega],by omega]),L3.Ct];ext neg<;>rfl
end
def Ac(h:DR a=γ\/DR b=γ):zK (.int a) (.int b)=U (.int (a * b)):=by delta zK dI;simp only;rw[af (by exists h)]
def zW(h:0<b):yg (.int a) (.int b)=U (.int (a % b)):=by delta yg dI;simp only;rw[af (by exists h)]
def Kx(h:0<b)(c:b<1073741824):DF (.int a) (.int b)=U (.int (a / b)):=by delta DF dI;simp only;rw[af (by simp[h,c])]
def LF(h:0<=a)(b:a<2147483647):DR a=γ:=by delta DR;erw[bt,bV];omega
def Dw:D->Option ee
 |.int i=>U (.inl i)
 |.str x=>U (.inr x)
 |_=>Z
def xX:List ee->aZ->ee->Option D
 |k::b,d::a,j=>if k=j then U d else xX b a j
 |_,_,_=>Z
def Ng(e:List ee)(b:aZ)(k:ee)(d:D):aZ:=dP (λc a=>if c=k then d else a) e b
def Ep(b:List ee)(k:ee):Bool:=b.any λa=>decide (a=k)
section
variable{G:Bg}
def BM(h:df G H d v)(e:Dw d=U k):v=kV k:=by
 ext d<;>first|cases e|skip
 all_goals (delta df at h;show h)
theorem Er:∀{a:List ee} {c:aZ} {b:bA} (j:ee),bc G H c b->a.length=b.length->match xX a c j with
  |some d=>∃v,ze (a.zip b) j=U v/\df G H d v
  |none=>ze (a.zip b) j=Z
 |[],c,b,j,r,l=>by ext c<;>rfl
 |k::a,c,[],j,r,l=>by cases l
 |k::a,[],x::b,j,r,l=>by delta bc at r;cases r
 |k::a,d::c,x::b,j,r,l=>by
  let#v[v,q,e,i,m]:=r;ext e;delta xX;by_cases f:k=j
  .rw[af f];show#v[x,Ed f,i]
  .rw[ah f];have o:=Er j m (by exists l);have h:ze ((k::a).zip (x::b)) j=ze (a.zip b) j:=Ee f;rw[h];show o
theorem Gu:∀{a:List ee} {b:bA},a.length=b.length->((a.zip b).any λd=>decide (d.1=k))=Ep a k
 |[],b,_=>by ext b<;>rfl
 |c::a,[],l=>by cases l
 |c::a,x::b,l=>by delta Ep;rw[fo,gQ,gQ,Gu (by exists l)];rfl
theorem J4:∀{a:List ee} {b:bA},a.length=b.length->(a.zip b).map (λe=>if e.1=k then (e.1,v)else e)=a.zip (dP (λd x=>if d=k then v else x) a b)
 |[],b,_=>by ext b<;>rfl
 |d::a,[],l=>by cases l
 |d::a,x::b,l=>by
  rw[fo,aA,J4 (by exists l),fO,fo];congr 1;by_cases c:d=k
  .rw[af c,af c]
  .rw[ah c,ah c]
theorem Hh(hd:df G H d v):∀{c:List ee} {b:aZ} {a:bA},bc G H b a->c.length=a.length->bc G H (Ng c b k d) (dP (λf x=>if f=k then v else x) c a)
 |[],b,a,r,l=>by delta Ng;ext b<;>ext a<;>show vV
 |f::c,b,[],r,l=>by cases l
 |f::c,[],x::a,r,l=>by delta bc at r;cases r
 |f::c,m::b,x::a,r,l=>by
  let#v[w,q,e,i,j]:=r;ext e;delta Ng;rw[fO,fO];calc vS ?_ (Hh hd j (by exists l));by_cases h:f=k
  .rw[af h,af h];show hd
  .rw[ah h,ah h];show i
def _root_.L2.Ai.kf(e:H a=U (.l? o (.dK kvs))):Ai H a (kV k) (ze kvs k):=.inl #v[kvs,k,.inr #v[o,e],J,J]
def wZ:D->D->Option D:=λx y=>match x,Dw y with
 |.J b a,U k=>xX b a k
 |_,_=>Z
def Wj(hu:X.A.units+1<cLine)(S:PE X a (tF G f))(T:PE X b (tF G M))(Y:Zs b:=by show λs s=>J):PE X (.Subscript a b pos) (tF G (c2 wZ f M)):=PE.c3 (Vq hu S T Y) λσ H Q W=>by
 let#v[F,ρ,r,d,o,R,e,k]:=W;let#v[x,y,h,E,I,c]:=Gq e;calc#v[F,ρ,r,x,h,R,E,λv t z s1 C r1=>#v[F,h,t,y,o,C,I,λu B i q R2 r2=>?_]];have m:=df.mono q _ _ r1;cases x with
 |J ks ds=>
  delta wZ at c;cases l:Dw y with
  |none=>erw[l]at c;cases c
  |some j=>erw[l]at c;let#v[p,ob,xs,rfl,N,O,P]:=m;have lv:=Er j P O;rw[c]at lv;let#v[w,w1,w2]:=lv;calc#v[p,w,J,?_,k w B i (s1.t q) R2 w2];rw[BM r2 l,<- w1];show Ai.kf (R2.sub _ _ N)
 |_=>delta wZ at c;ext c
def Es:D->D->Option D:=λx y=>match x,Dw y with
 |.J b a,U k=>U ((xX b a k).getD .cx)
 |_,_=>Z
def Sn(hu:X.A.units+1<cLine)(ha:PE X a (tF G f))(hb:PE X b (tF G Y))(m:M1 X a "get" apos b cpos):PE X (.Call (.Attribute a "get" apos) [b] [] cpos) (tF G (c2 Es f Y)):=PE.c3 (Rv hu ha hb m) λσ H Q hh=>by
 let#v[F,ρ,N,d,r,R,e,k]:=hh;let#v[x,y,i,T,W,c]:=Gq e;cases x with
 |J I S=>
  calc#v[F,ρ,N,_,i,R,T,λv O P M B r1=>?_];have q:=r1;let#v[p,ob,xs,rfl,E,h2,h3]:=q;calc#v[p,J,.inl #v[_,.inr #v[_,B.sub _ _ E]],F,i,O,y,r,B,W,λu t h l R2 r2=>?_];delta Es at c;cases o:Dw y with
  |none=>erw[o]at c;cases c
  |some j=>
   erw[o]at c;ext c;have lv:=Er j (bc.mono l _ _ h3) h2;refine#v[ze (I.zip xs) j,?_,?_]
   .rw[BM r2 o];show Ai.kf (R2.sub _ _ (l _ _ E))
   .cases C:xX I S j with
    |none=>rw[C]at lv k;rw[lv];show k _ t h (M.t l) R2 BI
    |some z=>rw[C]at lv k;let#v[w,w1,w2]:=lv;rw[w1];show k _ t h (M.t l) R2 w2
 |_=>delta Es at c;ext c
def Et(i:Nat):FS:=λa=>U (.nx (a.set i (.dk [] [])))
def So{st:Stmt}(h:PS X st (Eb GV (Ah i))):PS X st (ke G (Et i)):=PS.c3 h λE u H l=>by let#v[F,r,m,o,R,e,k,q]:=l;ext e;intro p b;have c:=R.gj b (.dK []);calc k _ _ _ (vF.refl _) (c.set #v[p,[],J,vB,R.e? b,R.gr b,J,vV] λz a d j t z f to=>?_);ext d;show R.apart b j t f to
def wK(i:Nat)(fk fv:FE):FS:=λf=>match fv f with
 |some (d,b)=>match b[i]? with
  |some (.dk _ _)=>match fk b with
   |some (y,c)=>match Dw y with
    |some k=>match c[i]? with
     |some (.dk a e)=>if a.length<1000 then if e.length=a.length then U (.nx (c.set i (if Ep a k=γ then .dk a (Ng a e k d)else .dk (a++[k]) (e++[d]))))else Z else Z
     |_=>Z
    |none=>Z
   |none=>Z
  |_=>Z
 |none=>Z
#print h
def Sq{st:Stmt}(h:PS X st (Ou (AC i) (tF G Q) (tF G S))):PS X st (ke G (wK i Q S)):=PS.c3 h λE σ H hh=>by
 let#v[F,q,Y,o,R,e,k,k2]:=hh;delta wK at e;rcases vW (f:=S) (ρ:=q)with t|⟨d,c,t⟩<;>erw[t]at e
 .ext e
 split at e
 .rename_i ks0 ds0 ei;rcases vW (f:=Q) (ρ:=c)with w|⟨y,C,w⟩<;>erw[w]at e
  .ext e
  cases z:Dw y with
  |none=>erw[z]at e;cases e
  |some j=>
   erw[z]at e;split at e
   .rename_i A ds l;split at e
    .rename_i hl;split at e
     .rename_i hl2;ext e;calc#v[F,q,Y,d,c,R,t,λv H1 H1' s1 I r1=>?_];let#v[m,xs0,a1,_]:=I.sl i _ ei;calc#v[_,yc a1,F,c,H1,y,C,I,w,λu H2 r W R2 r2=>?_];let#v[a,B,M,b2,N,O,b,P]:=R2.sl i _ l;rw[a1]at M;ext M;refine#v[m,el r m (.dK (iE (A.zip B) j v)),J,?_,?_]
      .rw[BM r2 z];show Ld.k b2 (by rw[fU];show jj (qR _ _) (Bk ()))
      .have T:=df.mono W _ _ r1;refine k _ _ _ (s1.t W) (R2.mut l J a1 (λH' hH=>?_) ?_)
       .by_cases p:Ep A j=γ
        .rw[af p];calc#v[m,dP (λk' x=>if k'=j then v else x) A B,J,?_,N,O,by rw[ku,b,fE],Hh T P b];rw[hH];delta iE;rw[Gu b,af p,J4 b]
        .rw[ah p];calc#v[m,B++[v],J,?_,N,O,by rw[aG,aG,b];rfl,xn P (vS T vV)];rw[hH];delta iE;rw[Gu b,ah p,mX b];rfl
       .split<;>rfl
     .ext e
    .ext e
   .ext e
 .ext e
#print f
def Hk:D->Option D
 |.ax a=>(IG a).map λbs=>.bl (bs.any id)
 |_=>Z
def Qp(x:X.k?=γ)(hK:X.K=G.K:=by rfl):xA X (.builtin "any") (λw H Q=>∃(p:Addr) (bs:List Bool),w=[.ref p]/\gi G.K H p (bs.map V.bl)/\Q (.bl (bs.any id)) H):=by
 rw[<-hK];intro m s S H w R Q I r h;let#v[p,bs,rfl,C,q]:=h;let#v[u,rfl,j]:=mq r;ext j;let#v[f,t,pl,O]:=I.list C;have hlt:p< ~~~s:=by let#v[o,B,_]:=pl.isList;show aM B
 have z:=by have:=t.length;rw[ak]at this;show this
 refine call_any_walk (ie pl.isList #v[~~~s,_,_,_,_,_,λi=>(bs[i]?).getD δ,J,jJ (show X.A.in1.handled=Z from I.ok.hd x) _ p (aW hlt) f.toArray,#v[#v[_,bq _ J,J,J],?_],?_,λN tk y=>?_])
 .show pl.isList.at λo e=>aJ _ e
 .intro i v P M F E hQ';have c:=by exists E
  have a:=(bT.1 c).1;have d:(bs.map V.bl)[i]?=U (.bl (bs[i]'())):=by simp[show i<bs.length by omega]
  let#v[u,l,j]:=t.get d;rw[c]at l;ext l;ext j;calc dM ?_;have e:(bs[i]?).getD δ=bs[i]'():=by simp[show i<bs.length by omega]
  rw[<-e];show hQ'
 .refine#v[.bl (bs.any id),H,?_,?_,q]
  .show I.f? λb o e=>y b o (by simp;show aW (aM e)) (aJ _ e)
  .change Value.bool _=Value.bool _;congr 1;rw[bG,<- z];rw[dO];erw[dw,bR,id];constructor
   .rintro⟨i,a,h⟩;show#v[bs[i],cI a,by simpa [a]using h]
   .rintro⟨b,d,h⟩;let#v[i,a,rfl]:=eC.1 d;show#v[i,a,by simpa [a]using h]
def aar:Jj G (λd H Q=>∃(p:Addr) (bs:List Bool),d=[.ref p]/\gi G.K H p (bs.map V.bl)/\Q (.bl (bs.any id)) H) Hk:=λx z j H v Q e s i k=>by
 cases x with
 |ax f=>
  delta Hk at e;simp only at e;cases b:IG f with
  |none=>rw[b]at e;cases e
  |some bs=>rw[b]at e;ext e;let#v[a,d,rfl,c,h]:=i;rw[Hf h b]at c;show#v[a,bs,J,s.seq (gi.of c),k _ λu u=>yb _]
 |_=>ext e
def iS(f:FE):FA:=λb=>match f b with
 |some (.str x,a)=>U (x.cps.toList.map λc=>D.str #v[#[c]],a)
 |_=>Z
#print h
def Wk(h:PI X N e (iStr (tF G f))):PI X N e (P? G (iS f)):=PI.c3 h λσ H R E=>by
 let#v[F,O,p,Y,P,R,e,k]:=E;delta iS at e;split at e
 .rename_i x Q B;ext e;calc#v[F,O,p,_,_,R,B,λv S q s A r=>?_];refine#v[x,r,k _ _ _ s A λi u w t M=>#v[λd j=>?_,λI=>?_]]
  .rw[br]at j;cases m:x.cps.toList[i]? with
   |none=>rw[m]at j;cases j
   |some c=>
    rw[m]at j;ext j;have a:=by exists m
    calc#v[(j5.1 a).1,λz T y=>?_];let#v[C,W,l,rfl]:=y;rw[a]at l;ext l;subst C;show#v[u,vF.refl _,M,vF.refl _,λb o e=>.inl e,zU _]
  .change i=x.cps.size;rw[I,ak];simp
 .ext e
#print f
def FH(f g:FE):FE:=λe=>match f e with
 |some (.bx (x::c),a)=>match g a with
  |some (.bx d,b)=>if c.length+d.length<=900 then U (.bx (x::c++d),b)else Z
  |_=>Z
 |_=>Z
#print h
def Wl(T:PE X a (tF G f))(W:PE X b (tF G g))(hK:X.K=G.K:=by rfl):PE X (.BinOp a .Add b pos) (tF G (FH f g)):=PE.c3 (Oh On T W) λσ H Q Y=>by
 rw[hK];let#v[F,ρ,y,d,ρ',R,e,k]:=Y;delta FH at e;split at e
 .rename_i x xs c M;split at e
  .rename_i ys ρ2 N;split at e
   .rename_i hl;ext e;calc#v[F,ρ,y,_,c,R,M,λv A B s E r=>#v[F,c,A,_,_,E,N,λu H2 C l R2 r2=>?_]];have w:=df.mono l _ _ r;have r0:=w;let#v[a1,m,rfl,P,q]:=w;let#v[I,o,rfl,S,t]:=r2;have h:=vE q;have j:=vE t;rw[aK]at h;refine#v[a1,I,m,o,J,J,fl.mono R2.sub P,fl.mono R2.sub S,(λz=>by rw[z]at h;ext h),by rw[<-h,<- j];show zi (),λz=>?_,λn p i=>?_]
    .have O:=by rw[z]at j;show hX.1 j
     subst O;rw[bD]at k;show k _ _ _ (s.t l) R2 r0
    .show k _ _ _ ((s.t l).t (vK (R2.e? i) _)) (R2.GX i _) (zT (fl.of vB) (bc.mono (vK (R2.e? i) _) _ _ (xn q t)))
   .ext e
  .ext e
 .ext e
end
#print f
section
abbrev FO:=aU->Option (Option Int×aU)
inductive ItFO(G:Bg) (f:FO) (σ:St) (H:Hp) (Q:(Option Int->Hp->Prop)):Prop
 |i (F ρ H0 d ρ') (h0:b8 G F σ ρ H0 H) (h1:f ρ=U (d,ρ')) (h2:∀H0' H',vF H0 H0'->b8 G F σ ρ' H0' H'->Q d H'):ItFO G f σ H Q
def tFO(G:Bg)(f:FO):TO:=λa H Q=>ItFO G f a H Q
def oNo:FO:=λa=>U (Z,a)
def A?(f:FE):FO:=λb=>match f b with
 |some (.int i,a)=>U (U i,a)
 |_=>Z
def PO.c3(h:PO X e t)(w:∀b H Q,d b H Q->t b H Q):PO X e d:=λa s b H Q I c=>h a s b H Q I (w _ _ _ c)
def aas:PO X Z (tFO G oNo):=PO.c3 Vm λh H Q a=>by let#v[F,f,c,d,b,R,e,k]:=a;ext e;show k _ _ (vF.refl _) R
#print h
def aat(h:PE X e (tF G f)):PO X (U e) (tFO G (A? f)):=PO.c3 (Om h) λt H Q l=>by
 let#v[F,m,a,d,o,R,e,k]:=l;delta A? at e;split at e
 .rename_i i p j;ext e;calc#v[F,m,a,_,_,R,j,λv q b s c r=>?_];delta df at r;show#v[i,r,k _ _ s c]
 .ext e
#print f
def CD(f:FE)(lo i:FO):FA:=λj=>match f j with
 |some (d,c)=>match d with
  |.ax e=>match lo c with
   |some (l,a)=>match i a with
    |some (h,b)=>U (ij e l h,b)
    |none=>Z
   |none=>Z
  |.M e=>match lo c with
   |some (l,a)=>match i a with
    |some (h,b)=>U (ij e l h,b)
    |none=>Z
   |none=>Z
  |_=>Z
 |none=>Z
def Nh{lo:FO}(h:PE X e (tSl (PX G.K) (tF G f) (tFO G lo) (tFO G w))):PE X e (Bx G (CD f lo w)):=PE.c3 h λσ H Q hh=>by
 let#v[F,q,N,Y,E,R,e,k]:=hh;delta CD at e;rcases vW (f:=f) (ρ:=q)with y|⟨d,c,y⟩<;>erw[y]at e
 .ext e
 have ma:∀(i:aZ),(∀{m:Hp} {v:V},df G m d v->∃a j,v=.ref a/\gi G.K m a j/\bc G m i j)->(match lo c with
   |some (l,b)=>match w b with
    |some (h,t)=>U (ij i l h,t)
    |none=>Z
   |none=>Z)=U (Y,E)->tSl (PX G.K) (tF G f) (tFO G lo) (tFO G w) σ H Q:=λi rd e=>by
  rcases vW (f:=lo) (ρ:=c)with z|⟨l,b,z⟩<;>erw[z]at e
  .ext e
  rcases vW (f:=w) (ρ:=b)with A|⟨u,t,A⟩<;>erw[A]at e
  .ext e
  ext e;calc#v[F,q,N,d,c,R,y,λv m O s1 W r1=>#v[F,c,m,l,b,W,z,λP S I R2=>#v[F,b,P,u,_,R2,A,λH3 T M o=>?_]]];let#v[a,j,rfl,B,C]:=rd (df.mono (I.t M) _ _ r1);show#v[a,j,J,o.sub.seq B,λp x=>k p _ _ _ (s1.t (I.t M)) (o.gj x _) vB (o.e? x) (o.gr x) (o.apart x) (LB C)]
 cases d with
 |ax i=>show ma i (λr=>by delta df at r;let#v[a,j,rfl,B,C]:=r;show#v[a,j,J,gi.of B,C]) e
 |M i=>show ma i (λr=>by delta df at r;show r) e
 |_=>ext e
def LG:D->D->Option D
 |.str x,.int n=>if 0<=n/\n<=1000/\x.length<=100 then U (.str (jN x n))else Z
 |_,_=>Z
end
section
def Hl:FE:=λz=>Z
def Sr:PE X e (tF G Hl):=λa s i H Q I h=>by let#v[F,f,c,d,b,R,e,_]:=h;ext e
def Ni(G:Bg)(c:Nat)(t:Ty->Option Bool):Prop:=(∀y b,t y=U b->c6 G.K (y.val G) (.ref (G.ca c))=U b)/\∀j b,t (.c j)=U b->Na G.K (G.ca j)
def Nj(h:Ni G c t)(hK:X.K=G.K:=by rfl):xA X (.builtin "isinstance") (λa H Q=>∃d x b,a=[x,(Ty.c c).v G]/\df G H d x/\t (tyD d)=U b/\Q (.bl b) H):=
 Jk (X:=X) (.c c) (by rw[hK];show h.1) (by rw[hK];show h.2) hK
end
def υ(acc:List ee)(k:ee):List ee:=if acc.any (λz=>decide (z=k))then acc else acc++[k]
def AF(a:List ee):List ee:=a.foldl υ []
def Wm(acc:List ee)(k j:ee):(υ acc k).any (λz=>decide (z=j))=(acc.any (λz=>decide (z=j))||decide (j=k)):=by
 delta υ;by_cases h:acc.any (λz=>decide (z=k))=γ
 .rw[af h];by_cases e:j=k
  .subst e;rw[h];simp
  .simp[e]
 .rw[ah h,List.any_append];by_cases e:j=k
  .subst e;simp
  .have a:¬k=j:=λz=>e z.symm;simp[a,e]
def OK(acc:List ee)(k:ee):(υ acc k).length=if acc.any (λz=>decide (z=k))=γ then acc.length else acc.length+1:=by delta υ;split<;>simp
def Jm(a:List ee)(i:Nat)(h:i<a.length):AF (a.take (i+1))=υ (AF (a.take i)) a[i]:=by delta AF;rw[qr,aH h,mH];rfl
def Ss(a:List ee):(AF a).length<=a.length:=by
 have ma:∀(l:List ee) (acc:List ee),(l.foldl υ acc).length<=acc.length+l.length:=by
  intro l
  induction l with
  |nil=>intro acc;simp
  |cons k l b=>
   intro acc;rw[fz,aK];have c:=b (υ acc k);have d:(υ acc k).length<=acc.length+1:=by rw[OK];split<;>omega
   omega
 have:=ma a [];simpa [AF]using this
def set_same{h:Heap}(hS:h.SetOf (vG prog w) a S n)(e:∀k,S k=b k)(c:n=d):h.SetOf (vG prog w) a b d:=by obtain rfl:S=b:=funext e;subst c;show hS
section
def Su(W:WalksS prog w A.in1 I B r GG n PP SS)(S:Addr)(hSf:S∉B)(a:List ee)(N:a.length=n)
  (hval:∀i v (h:i<a.length),PP i v->(vG prog w).is a[i] v=γ/\v.scannable=γ) (M:n+1<scanBound):∀(k i:Nat) (s:aq),n - i=k->i<=n->SS i s->
   s.heap.SetOf (vG prog w) S (λj=>(AF (a.take i)).any (λz=>decide (z=j))) (AF (a.take i)).length->
   (∀c,Moved (S::r) GG s c->c.heap.SetOf (vG prog w) S (λj=>(AF a).any (λz=>decide (z=j))) (AF a).length->R (.ok (.ret .none)) c)->
   cO (model prog w) A (.builtin "set.update.loop" #v[[.ref S,.ref I],[]]) R s:=by
 have hSw:=λz=>hSf ((W).sub _ z);have x:∀b∈r,b∈S::r:=λb z=>ba _ z;intro k
 induction k with
 |zero=>
  intro i s F E hst hS hR;obtain rfl:i=n:=by omega
  calc dh gh ?_;rw[dv du _];change ar _ A.in1 (pyNext (.ref I)>>=_) _ _ s;calc aj (W.done s _ _ hst λc d=>?_);rw[ka ()]at hS;calc aw (hR c (d.mono x) ?_);let#v[o,m,l,t,p,more]:=hS;show#v[o,m,l,t,d.heap S _ hSw p,more]
 |succ k G=>
  intro i s F E hst hS hR;have hlt:i<n:=by omega
  have hlk:i<a.length:=by omega
  calc dh gh ?_;rw[dv du _];change ar _ A.in1 (pyNext (.ref I)>>=_) _ _ s;calc aj (W.item i s _ _ hlt hst λv c hP hst' d=>?_);let#v[u,H]:=hval i v hlk hP;have hS':c.heap.SetOf (vG prog w) S (λj=>(AF (a.take i)).any (λz=>decide (z=j))) (AF (a.take i)).length:=by let#v[o,m,l,t,p,more]:=hS;show#v[o,m,l,t,d.heap S _ hSw p,more]
  calc aj (cA ?_);delta setAdd;calc cA ?_;calc aj ((vG prog w).pyHash u ?_);have room:(AF (a.take i)).length+1<scanBound:=by have:=Ss (a.take i);rw[cf]at this;omega
  calc wpAny_setAddHashed_of u H hS' room λC hsb hS2=>?_;have hSi:C.SetOf (vG prog w) S (λj=>(AF (a.take (i+1))).any (λz=>decide (z=j))) (AF (a.take (i+1))).length:=
   set_same hS2 (λj=>by rw[Jm a i hlk,Wm]) (by rw[Jm a i hlk,OK])
  refine aw #v[eG du _,G (i+1) _ () hlt (W.frame _ c _ _ hst' (iF _) λb z o e=>?_) hSi λq f hS''=>?_]
  .rw[hsb.2 b (λy:b=S=>hSf (by rw[<-y];show z))];show e
  .calc hR q (jH W.gtrans ((d.mono x).then_heap (iF _) λb o z e=>?_) f) hS'';rw[hsb.2 b (λy:b=S=>z (by rw[y];show aP))];show e
end
def Wn(l:Addr)(us:Array aa)(m:Nat)(b:Addr)(o:Obj)(a:Array aa)(j:Nat)(i:o.cls=.type "tuple")(hd:o.data=.seq a j)(F:¬(!us.isEmpty&&j7 (us.size+a.size))=γ)(p:us.size<=aS)(q:us.size+a.size<=aS+1):
  Meets (dr.«list.extend» #v[[.ref l,.ref b],[]]) (λn R s=>s.heap.get? l=U { cls:=.type "list", data:=.seq us m }/\s.heap.get? b=U o/\R (.ok (.ret Value.none)) { s with heap:=s.heap.update l (c4 λx=>x++a),toks:=s.toks }):=by
 let#v[c,dd,data,sl]:=o;ext i;ext hd;calc .of_wp λprog w A R s h=>?_;let#v[B,g,d,tk,os]:=s;let#v[e,f,h]:=h;have t:=pz;have u:=AutoSeq1.sub_list_list;have y:=AutoSeq1.sub_tuple_list;have z:=AutoSeq1.sub_list_tuple;have r:(us++a).size<=aS+1:=Array.size_append (xs:=us) (ys:=a)▸q
 wp_walk using (jx e J (hz:=p) (_hz':=r)),pA e,pA f
 show#v[_,J,h]
section
inductive Jn(K:ay) (x:V) (vs:bA) (H:Hp) (Q:VK):Prop
 |i (l b xs zs) (h0:x=.ref l) (h1:vs=[.ref b]) (h2:H l=U (.ax xs)) (h3:fl K H b zs) (h4:xs.length+zs.length<=aS) (h5:Q .cx (el H l (.ax (xs++zs)))):Jn K x vs H Q
def LH(K:ay):V->bA->Hp->VK->Prop:=λx a H Q=>Jn K x a H Q
theorem Nk:MtM X "list.extend" (LH X.K):=by
 intro i s R H x N v M Q I C B h;let#v[l,b,O,P,rfl,rfl,hH,hB,G,q]:=h;ext C;let#v[u,rfl,A]:=B.one;ext A;let#v[z,c,n,r,E,e]:=I.lstM hH;let#v[a,j,#v[o,m,p,y,hd],w]:=I.tuple hB;have t:=j.length;have d:c.toArray.size+a.toArray.size<=aS:=by rw[bG,bG];omega
 have hlong:¬(!c.toArray.isEmpty&&j7 (c.toArray.size+a.toArray.size))=γ:=by rw[Ro d,Bool.and_false];show bB
 refine om qj #v[_,e,J] F.entry_list_extend (F.args_list_extend_2 _ _)
  (Wn l c.toArray n b o a.toArray y p hd hlong (by rw[bG];omega) ()) #v[e,m,?_]
 calc#v[.cx,_,I.lset (its':=c++a) hH e (by simp) (r.append j) ?_,J,q];rw[aG];omega
def Hm(i:Nat)(f:FE):FE:=λd=>match xh d i with
 |some _=>match f d with
  |some (.bx c,a)=>match xh a i with
   |some b=>if b.length+c.length<=1000 then U (.cx,putAt a i (b++c))else Z
   |none=>Z
  |_=>Z
 |none=>Z
#print h
def Nl(h:PE X e (tBM G.K "list" (LH G.K) (AC i) (Ak (tF G f) GQ))):PE X e (tF G (Hm i f)):=PE.c3 h λσ H Q A=>by
 let#v[F,c,w,d,P,R,e,k]:=A;delta Hm at e;cases j:xh c i with
 |none=>erw[j]at e;cases e
 |some z=>
  erw[j]at e;rcases vW (f:=f) (ρ:=c)with l|⟨x,b,l⟩<;>erw[l]at e
  .ext e
  .cases x with
   |bx Y=>
    cases m:xh b i with
    |none=>erw[m]at e;cases e
    |some W=>
     erw[m]at e;split at e
     .rename_i B;ext e;let#v[a,N,r,E,s3,_]:=ye R j;calc#v[.ref a,r,.inl #v[J,N,gi.of E],F,c,w,_,b,R,l,λv S y s q rs=>?_];delta df at rs;let#v[p,O,rfl,C,rs]:=rs;let#v[T,o,t,I,u,M]:=ye q m;rw[r]at t;ext t;calc#v[a,p,o,O,J,J,I,fl.mono q.sub C,?_,k _ _ _ s (M _ _ (xn u rs)) BI];rw[<-vE u,<- vE rs];show zi B
     .cases e
   |_=>ext e
end
#print f
abbrev one(j:Nat)(led pl:Bool):cE:=#v[7,#[j],[].toArray,0,led,0,pl]
abbrev prb(i q:Nat):cR:=#v[i,0,i,q,Z]
section
def Bo(i:Nat):(one j led pl).slot i=if j=i then .live 0 else .empty:=by
 by_cases z:j<i
 .have:j≠i:=by omega
  simp[kR,bE,dN,gU,z,this]
 .simp[kR,bE,dN,gU,z]
def run7(i:Nat):cH 7 i - i=0:=by delta cH;split<;>omega
def OL:(one j led pl).advance (prb i q)=prb ((i * 5+1+q / 32) % 8) (q / 32):=by delta gA nz;simp[run7]
theorem go_F(e:F 0=h1):∀(f:Nat) (p:cR),cz (one j led pl) F h f p=cz (one j led pl) (λu=>h1) h f p
 |0,p=>rfl
 |f+1,p=>by
  delta cz;rw[Bo];by_cases z:j=p.j
  .rw[af z];dsimp only;rw[e,go_F e f]
  .rw[ah z]
theorem OM(b:l≠h):∀(n f i q:Nat),q<32 ^ n->n+2<=f->∃d,d≠j/\cz (one j led pl) (λu=>l) h f (prb i q)=U (.empty d Z)
 |n,0,i,q,_,a=>au a ()
 |n,f+1,i,q,c,a=>by
  delta cz;rw[Bo];by_cases z:j=i
  .rw[af z];dsimp only;rw[ah (by exists b),OL];cases n with
   |zero=>
    let#v[f,rfl]:∃g,f=g+1:=#v[f - 1,by omega];delta cz;rw[Bo];have m:q=0:=by exists c
    have:¬j=(i * 5+1+q / 32) % 8:=by subst z m;omega
    rw[ah this];show#v[_,λe=>this e.symm,J]
   |succ n=>show OM b n f _ _ (by rw[kY]at c;omega) ()
  .rw[ah z];show#v[_,λe=>z e.symm,J]
def Qq(d:n<=13)(c:q<32 ^ n):(∃b,b≠j/\(one j led pl).probe (λu=>h1) h (prb i q)=U (.empty b Z))\/(h1=h/\j=i/\(one j led pl).probe (λu=>h1) h (prb i q)=U (.candidate j 0 (prb ((i * 5+1+q / 32) % 8) (q / 32)))):=by
 by_cases a:h1=h
 .by_cases z:j=i
  .right;calc#v[a,z,?_];subst z a;change cz _ _ _ (219+1) _=_;delta cz;rw[Bo,af J];dsimp only;rw[af (by simp),OL]
  .left;calc#v[i,λe=>z e.symm,?_];change cz _ _ _ (219+1) _=_;delta cz;rw[Bo,ah z]
 .show .inl (OM a n 220 i q c ())
end
section
abbrev TK(prog:bb)(w:aQ):=IsTupleKey (vG prog w)
def cls_val(n:Nat)(h:iq v=γ):jo n v=pure δ:=by
 cases v with
 |ref a=>simp[iq]at h
 |_=>first|rfl|simp[jo]|(delta jo;rfl)
def Gw(e:TK prog w s.heap j a)(h:Q δ s):ar (model prog w) A (jo 8 (.ref a)) Q E s:=by
 have hT:=e.typeIs;let#v[o,items,n,i,_,hd,f]:=e;delta jo;calc aj (jD hT ?_);change ar _ _ (pure γ>>=_) _ _ s;calc aj (aw ?_);erw[Bool.not_true,ic,if_false];calc aj (kO i hd ?_);calc aj ?_;change ar _ _ (forIn items _ _) _ _ s;rw[<-mw];refine ip _ (λeo r d=>r.1=Z/\d=s/\∀v∈eo,iq v=γ) _ ?_ ?_ _ _ #v[J,J,f.byValue]
 .rintro v eo r d ⟨b,rfl,hall⟩;rw[cls_val _ (hall v aP)];calc aj (aw ?_);erw[ic,if_false];show aw #v[J,J,λu c=>hall u (ba _ c)]
 .rintro⟨l,m⟩ d ⟨b,rfl,_⟩;simp only at b;subst b;show aw h
def Wo(n:Nat)(h:iq v=γ):∃b,hashByValue n v=pure b:=by
 cases v with
 |ref a=>simp[iq]at h
 |_=>ext n<;>first|show#v[_,J]|(delta hashByValue;show#v[_,J])
def Wp(e:TK prog w s.heap m a)(h:∀b,Q b s):ar (model prog w) A (hashByValue 8 (.ref a)) Q E s:=by
 have hT:=e.typeIs;let#v[o,items,n,j,_,hd,i]:=e;delta hashByValue;calc aj (gH hT qt.lookup ?_);change ar _ _ (seqItems? (.ref a)>>=_) _ _ s;calc aj (kO j hd ?_);calc aj ?_;change ar _ _ (forIn items _ _) _ _ s;rw[<-mw];refine ip _ (λeo r d=>d=s/\∀v∈eo,iq v=γ) _ ?_ ?_ _ _ #v[J,i.byValue]
 .rintro v eo r d ⟨rfl,hall⟩;let#v[b,f]:=Wo 7 (hall v aP);rw[f];calc aj (aw ?_);ext b
  .show aw (aw (h _))
  .show aw #v[J,λu c=>hall u (ba _ c)]
 .rintro⟨l,p⟩ d ⟨rfl,_⟩;cases l with
  |none=>show aw (h _)
  |some b=>show aw (h _)
def Wq{a1:Addr}(h1:TK prog w s.heap i a1)(d:TK prog w s.heap j e)(h:Q δ s):ar (model prog w) A (searchCouldBeSeen (.ref e) [.ref a1]) Q E s:=by
 delta searchCouldBeSeen;calc aj ?_;change ar _ _ (forIn [Value.ref a1] _ _) _ _ s;refine ip _ (λeo r b=>r=(Z,Unit.unit)/\b=s/\∀v∈eo,v=.ref a1) _ ?_ ?_ _ _ #v[J,J,λv f=>by exists f]
 .rintro v eo r b ⟨rfl,rfl,hall⟩;obtain rfl:=hall v aP;have c:∀v∈eo,v=Value.ref a1:=λu a=>hall u (ba _ a);dsimp only;split
  .show aw #v[J,J,c]
  .calc aj (kc d ?_);calc aj (kc h1 ?_);calc aj (Gw d ?_);calc aj (Gw h1 ?_);show aw #v[J,J,c]
 .rintro r b ⟨rfl,rfl,_⟩;show aw h
theorem DT{a1:Addr}(m:A.units<cLine)(c:TK prog w s.heap C a1)(d:TK prog w s.heap F u)(ne:C≠F)
  (a:s.heap.get? S=U o) (hd:o.data=.set #[(h1,.ref a1)] H (one j led pl)) (hQ:∀b,b≠j->Q (.free b δ) s):∀(fuel n i q:Nat) (st:Option cR),n<=13->1<=fuel->(i=j->n+2<=fuel)->q<32 ^ n->st.getD ((one j led pl).probeStart h)=prb i q->ar (model prog w) A (setSearchFrom S (.ref u) h γ fuel st) Q E s
 |0,n,i,q,st,_,f,_,_,_=>au f ()
 |fuel+1,n,i,q,st,r,_,f,l,hst=>by
  delta setSearchFrom;calc aj (cK a hd J ?_);dsimp only;rw[ah (by simp[mQ])];have P:=Qq (led:=led) (pl:=pl) (j:=j) (i:=i) (h:=h) (h1:=h1) r l;delta rq at P ⊢;rw[hst,go_F (h1:=h1) J];rcases P with ⟨b,B,e⟩|⟨y,p,e⟩
  .rw[e];show aw (hQ b B)
  .rw[e];dsimp only;rw[show oA (λx:Int×aa=>x.snd) (sd (λx=>x.fst==h) #[(h1,Value.ref a1)]).toList=[.ref a1] by simp[y]];have z:=f p.symm;have G:∀led,(one j led pl).sameMemory 0 7=U γ:=λk=>J;ext led;refine aj (Wq c d ?_)
   all_goals
    calc aj (cA (qk m c d ?_));calc aj (cK a hd J ?_);rw[aL ne];dsimp only;rw[ah #[],G];dsimp only;rw[af J,Bo,af J];calc aj (pO ?_);calc aj (aw ?_);cases n with
    |zero=>
     have t:q=0:=by exists l
     show DT m c d ne a hd hQ fuel 0 _ _ _ r () (λe=>au e (by subst p t;omega)) (by rw[t];decide) J
    |succ n=>show DT m c d ne a hd hQ fuel n _ _ _ () () (λk=>by omega) (by rw[kY]at l;omega) J
def ON{S c:Addr}{ks:List ee}{o:Obj}{es:Array (Int×aa)}{ep:Nat}{t:cE}{h:Int}{P:Nat->Prop}{Q:Bool->aq->Prop}(f:s.heap.get? S=U o)(hd:o.data=.set es ep t)(i:t.fits es.size=γ)(l:TK prog w s.heap ks c)
  (hs:∀Q:oB->aq->Prop,(∀a,P a->Q (.free a δ) s)->ar (model prog w) A (setSearch S (.ref c) h γ) Q E s) (hT:∀a,P a->(t.put a).1.tooFull=δ) (j:∀a,P a->(cj es (t.put a).2 (h,Value.ref c)).size<=aS)
  (hQ:∀a pl,P a->Q γ { s with heap:=s.heap.update S (k9 (cj es (t.put a).2 (h,.ref c)) { (t.put a).1 with plain:=pl }) }):ar (model prog w) A (setAddHashed S (.ref c) h) Q E s:=by
 delta setAddHashed setAddHashedIn;calc cA (aj (cK f hd i ?_));dsimp only;rw[ah (by simp[byScan,qS])];calc aj (hs _ λa d=>?_);dsimp only;calc aj (cK f hd i ?_);dsimp only;have fin:∀b:Bool,ar (model prog w) A (do
   storeSet S (cj es (t.put a).2 (h,.ref c)) (if b=γ then (t.put a).1 else { (t.put a).1 with plain:=δ })
   if (!δ&&(if b=γ then (t.put a).1 else { (t.put a).1 with plain:=δ }).tooFull)=γ then do setRelay S (ir (es.size+1));pure γ else pure γ) Q E s:=λb=>by
  calc aj (mI f hd ?_ (j a d));have e:(if b=γ then (t.put a).1 else { (t.put a).1 with plain:=δ })={ (t.put a).1 with plain:=if b=γ then (t.put a).1.plain else δ }:=by ext b<;>rfl
  rw[e,ah (by have:=hT a d;delta mR iz at this ⊢;rw[this];decide)];show aw (hQ _ _ d)
 split
 .show aj (Wp l λb=>fin b)
 .show aj (aw (fin γ))
end
section
def Hn(i:Nat):(kP 0 0 led).put i=(one i led γ,0):=by simp[nM,kP,bE,dN,gU,cj]
def Gx{a:Type}(x y:a):((one j led pl).put i).1.place.size=2/\((one j led pl).put i).1.dummies=[].toArray/\((one j led pl).put i).1.mask=7/\(cj #[x] ((one j led pl).put i).2 y).size=2:=by
 by_cases z:j<i
 .simp[nM,bE,dN,gU,cj,z]
 .simp[nM,bE,dN,gU,cj,z]
end
section
def J5{a:Heap}(b:a.get? S=U o)(hd:o.data=.set es ep t):(a.update S (k9 es' t')).get? S=U { o with data:=.set es' (ep+1) t' }:=by have:=eX (k9 es' t') b (by rw[putSet_of es' t' hd];rfl);rw[putSet_of es' t' hd]at this;show this
def Qr{S a:Addr}{ks:List ee}{o:Obj}{ep:Nat}{led:Bool}{h:Int}{Q:Bool->aq->Prop}(b:s.heap.get? S=U o)(hd:o.data=.set [].toArray ep (.fresh 0 0 led))(e:TK prog w s.heap ks a)
  (hQ:∀h' j pl,fD S s.heap h'->h'.get? S=U { o with data:=.set #[(h,.ref a)] (ep+1) (one j led pl) }->Q γ { s with heap:=h' }):ar (model prog w) A (setAddHashed S (.ref a) h) Q E s:=by
 refine ON (P:=λz=>True) b hd J e (λQ d=>?_) (λc z=>by rw[Hn];rfl) (λc z=>by rw[Hn,bH];show fC (by decide:1<_)) λc pl z=>hQ _ c pl (dJ ..) ?_
 .delta setSearch setSearchFrom;calc aj (cK b hd J ?_);dsimp only;rw[ah (by simp[mQ,kP]),show ∀F p,(kP 0 0 led).probe F h p=U (.empty p.j p.dummy) from λz z=>J];show aw (d _ trivial)
 .rw[J5 b hd,Hn];rfl
def Np{a1:Addr}(q:A.units<cLine)(y:TK prog w s.heap r a1)(f:TK prog w s.heap u l)(ne:r≠u)
  (e:s.heap.get? S=U o) (hd:o.data=.set #[(h1,.ref a1)] ep (one j led pl))
  (hQ:∀h' es t,fD S s.heap h'->h'.get? S=U { o with data:=.set es (ep+1) t }->es.size=2->t.fits 2=γ->Q γ { s with heap:=h' }):ar (model prog w) A (setAddHashed S (.ref l) h) Q E s:=by
 refine ON (P:=λd=>d≠j) e hd J f (λQ p=>?_) (λd z=>?_) (λd z=>by rw[(Gx _ _).2.2.2,bH];decide) λd x z=>hQ _ _ _ (dJ ..) (J5 e hd) (Gx _ _).2.2.2 ?_
 .have m:cJ h<32 ^ 13:=by delta cJ;omega
  show DT q y f ne e hd p 100000 13 (cJ h % 8) (cJ h) Z () () (λz=>by omega) m (by change SetTable.Probe.mk _ _ _ _ _=_;rw[run7])
 .let#v[a,b,c,_]:=Gx (j:=j) (i:=d) (led:=led) (pl:=pl) 0 0;delta mR iz;rw[a,b,c];rfl
 .let#v[a,b,c,_]:=Gx (j:=j) (i:=d) (led:=led) (pl:=pl) 0 0;delta gR iz;dsimp only;rw[a,b,c];rfl
end
section
def TK.f?{c:Heap}(t:TK prog w h ks a)(e:∀o,h.get? a=U o->c.get? a=U o):TK prog w c ks a:=by let#v[o,b,n,d,m]:=t;show#v[o,b,n,e o d,m]
def Set2(h:Heap)(S:Addr)(n:Nat):Prop:=∃o a b t,h.get? S=U o/\o.ExactSet/\o.data=.set a b t/\a.size<scanBound/\t.fits a.size=γ/\a.size=n
def Qs(W:WalksS prog w A.in1 I fp c GG 2 PP SS){a1:Addr}(hSf:S∉fp)(ne:d≠f)(N:a1∉S::c)(O:a∉S::c)(p1:∀v,PP 0 v->v=.ref a1)(p2:∀v,PP 1 v->v=.ref a)(x:A.in1.units<cLine)
  (hst:SS 0 s) (t1:TK prog w s.heap d a1) (t2:TK prog w s.heap f a) (ho:s.heap.get? S=U o) (hx:o.ExactSet) (hd:o.data=.set [].toArray ep (.fresh 0 0 led)) (hR:∀s',Moved (S::c) GG s s'->Set2 s'.heap S 2->R (.ok (.ret .none)) s'):
   cO (model prog w) A (.builtin "set.update.loop" #v[[.ref S,.ref I],[]]) R s:=by
 have hSw:S∉c:=λz=>hSf ((W).sub _ z);have up:∀b∈c,b∈S::c:=λb z=>ba _ z;have q1:a1∉c:=λz=>N (up _ z);have q2:a∉c:=λz=>O (up _ z);have T:a1≠S:=λz=>N (by rw[z];show aP);have X:a≠S:=λz=>O (by rw[z];show aP);calc dh gh ?_;rw[dv du _];change ar _ A.in1 (pyNext (.ref I)>>=_) _ _ s;calc aj (W.item 0 s _ _ #[] hst λv h hP E q=>?_);obtain rfl:=p1 v hP;change ar _ A.in1 (holding _ (setAdd S _)>>=_) _ _ h;calc aj (cA ?_);delta setAdd;calc cA ?_;have G:TK prog w h.heap d a1:=t1.f? λo=>q.heap a1 o q1;have u2:TK prog w h.heap f a:=t2.f? λo=>q.heap a o q2;calc aj (mx x G ?_);calc Qr (q.heap S _ hSw ho) hd G λh' j pl p hg=>?_;calc aw #v[eG du _,?_];have l:=W.frame (0+1) h h' _ E (fw _ (d.length+1)) λb z o e=>by rw[p.2 b (λy:b=S=>hSf (by rw[<-y];show z))];show e
 have B:Moved (S::c) GG s { h with heap:=h',toks:=h.toks+(d.length+1) }:=(q.mono up).then_heap (fw _ _) λb o z e=>by rw[p.2 b (λy:b=S=>z (by rw[y];show aP))];show e
 have v1:TK prog w h' d a1:=G.f? λo e=>by rw[p.2 a1 T];show e
 have v2:TK prog w h' f a:=u2.f? λo e=>by rw[p.2 a X];show e
 calc dh gh ?_;rw[dv du _];change ar _ A.in1 (pyNext (.ref I)>>=_) _ _ _;calc aj (W.item 1 _ _ _ #[] l λv s2 hP F r=>?_);obtain rfl:=p2 v hP;change ar _ A.in1 (holding _ (setAdd S _)>>=_) _ _ s2;calc aj (cA ?_);delta setAdd;calc cA ?_;have w1:TK prog w s2.heap d a1:=v1.f? λo=>r.heap a1 o q1;have Q:TK prog w s2.heap f a:=v2.f? λo=>r.heap a o q2;calc aj (mx x Q ?_);calc Np x w1 Q ne (r.heap S _ hSw hg) J λh2 es t i u H Y=>?_;calc aw #v[eG du _,?_];have m:=W.frame (1+1) s2 h2 _ F (fw _ (f.length+1)) λb z o e=>by rw[i.2 b (λy:b=S=>hSf (by rw[<-y];show z))];show e
 have C:=jH W.gtrans B ((r.mono up).then_heap (tk:=s2.toks+(f.length+1)) (fw _ _) λb o z e=>by rw[i.2 b (λy:b=S=>z (by rw[y];show aP))];show e);calc dh gh ?_;rw[dv du _];change ar _ A.in1 (pyNext (.ref I)>>=_) _ _ _;calc aj (W.done _ _ _ m λP M=>?_);change ar _ A.in1 (ret Value.none) _ _ P;calc aw (hR P (jH W.gtrans C (M.mono up)) ?_);show#v[_,es,_,t,M.heap S _ hSw u,hx,J,by rw[H];decide,by rw[H];show Y,H]
end
#print "qi set;j' frozenset" in def ϑ0:isSubtype (.type "tuple") (.type "ϑ1")=pure δ:=by rw[jy];kernel_rfl
section
variable{s:aq}
abbrev zX(led:Bool):Obj:={ cls:=.type "set", dict:=Z,data:=.set [].toArray 0 (.fresh 0 0 led) }
abbrev inK(a:List ee):ee->Bool:=λj=>(AF a).any (λz=>decide (z=j))
structure SrcK(prog:bb)(w:aQ)(h:Heap)(a:Addr)(items:Array aa)(ks:List ee):Prop where
 len:ks.length=items.size
 key:∀i v (hi:i<ks.length),items[i]?=U v->(vG prog w).is ks[i] v=γ/\v.scannable=γ
 bnd:items.size+1<scanBound
def Wr(s:aq)(PS:Heap->Prop)(E:aa->aq->Prop):lp->aq->Prop:=
 wants (λr s2=>r=.none/\∃h2 a,s2={ s with heap:=h2,toks:=a }/\PS h2/\∀b o,b< ~~~s->s.heap.get? b=U o->h2.get? b=U o) E
def LI(K:SrcK prog w s.heap a items ks)(hlt:a< ~~~s)
  (W:Walks prog w A.in1 (~~~s+1) [~~~s+1,a] [~~~s+1] items.size (λi v=>items[i]?=U v) SS) (st:SS 0 ((s.heap.push (zX led)).push itO))
  (hR:∀h2 c,h2.SetOf (vG prog w) (~~~s) (inK ks) (AF ks).length->(∀b o,b< ~~~s->s.heap.get? b=U o->h2.get? b=U o)->R (.ok (.ret .none)) { s with heap:=h2,toks:=c }) (tk:Nat):
  cO (model prog w) A (.builtin "set.update.loop" #v[[.ref (~~~s),.ref (~~~s+1)],[]]) R { s with heap:=(s.heap.push (zX led)).push itO,toks:=tk }:=by
 have notin: ~~~s∉[~~~s+1,a]:=by
  intro z;rcases aD.1 z with z|z
  .show au z (aW (cQ _))
  .show au (aO.1 z) (eJ hlt)
 have h:((s.heap.push (zX led)).push itO).get? (~~~s)=U (zX led):=aJ _ (bq _ J);refine Su W.toS (~~~s) notin ks K.len (λi v hi hv=>K.key i v hi hv) K.bnd (items.size - 0) 0 _ () (bM _) st ?_ λs2 mv f=>?_
 .show#v[_,[].toArray,0,_,h,#v[J,J,J],J,λe p=>by simp at p,λk=>by simp[AF],by delta scanBound;decide,by rfl,J]
 .let#v[h2,g2,d2,c,q]:=s2;have l:g2=s.gens:=mv.gens;have j:d2=s.drawn:=mv.drawn;have m:q=s.os:=mv.os;subst l j m;calc hR h2 c f λb o d e=>mv.heap b o (λz=>?_) (aJ _ (aJ _ e));rcases aD.1 z with z|z
  .show au z (aW d)
  .show au (aO.1 z) (aW (cX d))
theorem Nq(a:aa)(h:Q₁ (.ref (~~~s)) { s with heap:=s.heap.push (zX (!w.params.followText "set-order")) }):
  cO (model prog w) A (.call (.builtin "set.__new__") #v[[.type "set", a],[]]) (wants Q₁ E) s:=by
 calc qT ?_;change ar _ A.in1 (do checkBuiltinCall "set.__new__" #v[[.type "set", a],[]];again (.builtin "set.__new__" #v[[.type "set", a],[]])) _ _ s;calc aj (wpAny_of_eq (F.newCall_set_1 a) (aw #v[eG qU _,dh F.entry_set_new ?_]));rw[dv qU _];delta dr.«set.__new__» tS;have hsub:=sub_set_self;let#v[b,g,d,tk,os]:=s;dsimp only
 wp_walk
 calc mS (aw ?_);dsimp only;erw[newObj];calc aj (wpAny_alloc (aw ?_));show aw h
theorem CG{PS:Heap->Prop}(t:s.heap.get? a=U o)(B:o.cls=.type T)
  (P:isSubtype (.type T) (.type "set")=pure δ) (S:isSubtype (.type T) (.type "frozenset")=pure δ) (W:(Value.type T==Value.type "dict")=δ)
  (q?:∀(A:bo) (Q:aa->aq->Prop) (E:aa->aq->Prop) (d:aq),d.heap.get? a=U o->Q (.ref (~~~d)) { d with heap:=d.heap.push itO }->ar (model prog w) A (pyIter (.ref a)) Q E d)
  (fil:∀tk (R:lp->aq->Prop),(∀h2 i,PS h2->(∀b o,b< ~~~s->s.heap.get? b=U o->h2.get? b=U o)->R (.ok (.ret .none)) { s with heap:=h2,toks:=i })->
   cO (model prog w) A.in1.in1 (.builtin "set.update.loop" #v[[.ref (~~~s),.ref (~~~s+1)],[]]) R { s with heap:=(s.heap.push (zX (!w.params.followText "set-order"))).push itO,toks:=tk })
  (h:∀h2 i,PS h2->(∀b o,b< ~~~s->s.heap.get? b=U o->h2.get? b=U o)->Q (.ref (~~~s)) { s with heap:=h2,toks:=i }):
  ar (model prog w) A (call (.type "set") [.ref a]) Q E s:=by
 have hlt:a< ~~~s:=aM t;let#v[c,O,hmro]:=fV.mro;have made:=fV.made;have subs:=fV.sub;calc og (qT ?_);change ar _ _ (callAny (.type "set") _) _ _ _;calc aw #v[Code.quiet_builtin _ (by decide +kernel),dh F.entry_type_call ?_];rw[Around.under_plain (weight_type_call_type "set" [.ref a] []) J];have I:=fV.notType;have M:=fV.canCreate;have N:=F.typeCall_set_1 (.ref a)
 repeat (any_goals (first|assumption|wp_step))
 let led:Bool:=!w.params.followText "set-order";calc iC (Nq (.ref a) (E:=E) (Q₁:=λv d=>v=.ref (~~~s)/\d={ s with heap:=s.heap.push (zX led) }) #v[J,J]) λr d hr=>?_;cases r with
 |error e=>show hr
 |ok z=>
  cases z with
  |ret v=>
   let#v[rfl,rfl]:=hr;have u:(s.heap.push (zX led)).get? (~~~s)=U (zX led):=bq _ J;have p:jz { s with heap:=s.heap.push (zX led) } (.ref (~~~s)) "set" := #v[_,u,J];have G:=fV.init.lookup;have H:=fV.init.bind (.ref (~~~s))
   repeat (any_goals (first|assumption|wp_step))
   refine iC (codeAny_call_builtin (R:=Wr s PS E) fV.init.plain F.entry_set_init (check_set_init_1 p ?_)) λC s2 f=>?_
   .let#v[oc,od,oda,osl]:=o;ext B;have x:(s.heap.push (zX led)).get? a=U { cls:=.type T,dict:=od,data:=oda,slots:=osl }:=aJ _ t;delta dr.«set.__init__» noKeywords tQ;generalize gP:pyIter=PP
    wp_walk
    subst gP;calc q? _ _ _ _ x ?_;calc aj (m6 ?_);have y:(s.heap.push (zX led)).objs.size= ~~~s+1:=cY _ _;change cO _ _ (.builtin "set.update.loop" #v[[.ref (~~~s),.ref (s.heap.push (zX led)).objs.size],[]]) _ _;rw[y];calc fil _ _ λh2 i j m=>?_;change ar _ _ _ _ _ _;calc aw ?_;change ar _ _ (ret Value.none) _ _ _;show aw #v[J,h2,i,J,j,m]
   .cases C with
    |error e=>show f
    |ok l=>
     cases l with
     |ret r=>
      let#v[rfl,h2,i,rfl,j,m]:=f
      repeat (any_goals (first|assumption|wp_step))
      show h _ _ j m
     |_=>show f.elim
  |_=>show hr.elim
end
section
variable{X:Cx}{s:aq}
def Sx(h:(vG P w).is k v=γ):v.scannable=γ:=by rcases wD h with ⟨i,t,_,rfl⟩|⟨x,t,_,rfl⟩<;>rfl
def Sy{b:List ee}(r:d? (b.map kV) c)(o:b.length+1<scanBound):SrcK X.prog X.w s.heap a c.toArray b:=by
 have l:=by have:=r.length;rw[ak]at this;show this
 calc#v[by rw[bG];show l,λi v j f=>?_,by rw[bG];omega];have e:(b.map kV)[i]?=U (kV b[i]):=by rw[br,aH j];rfl
 let#v[u,d,m]:=r.get e;have h:=by rw[kg]at f;rw[f]at d;show cM d
 subst h;have:=Fy (P:=X.prog) (w:=X.w) m;show#v[this,Sx this]
def OO{ks:List ee}(I:b? X c l H s)(h:fl X.K H a (ks.map kV)):TK X.prog X.w s.heap ks a:=by
 let#v[b,r,p,_]:=I.tuple h;let#v[o,i,f,n,hd]:=p;calc#v[o,_,n,i,f,hd,?_];have ma:∀(ks:List ee) (b:List aa),d? (ks.map kV) b->PySem.ItemsAre (vG X.prog X.w) ks b:=λks=>by
  induction ks with
  |nil=>intro b r;ext r;show .nil
  |cons k ks j=>intro b r;cases r with|cons d e=>show .cons (Fy d) (j _ e)
 show ma ks b r
def SrcO(K:ay)(H:Hp)(a:Addr)(n:Nat):Prop:=∃b,(gi K H a (b.map kV)\/fl K H a (b.map kV))/\b.length+1<scanBound/\n=(AF b).length
def SrcS(K:ay)(H:Hp)(a:Addr)(n:Nat):Prop:=SrcO K H a n\/
 ∃(p q:Addr) (b c:List ee),gi K H a [.ref p,.ref q]/\fl K H p (b.map kV)/\fl K H q (c.map kV)/\b≠c/\n=2
def SetV(X:Cx)(S:ay->Hp->Addr->Nat->Prop):Prop:=∀{pins:dF} {σ:St} {H:Hp} {s:aq} {A:bo} {E:aa->aq->Prop} {Q:aa->aq->Prop} {a:Addr} {n:Nat},b? X pins σ H s->A.handled=Z->A.units+8<cLine->S X.K H a n->
 (∀h2 c,Set2 h2 (~~~s) n->(∀b o,b< ~~~s->s.heap.get? b=U o->h2.get? b=U o)->Q (.ref (~~~s)) { s with heap:=h2,toks:=c })->ar (model X.prog X.w) A (call (.type "set") [.ref a]) Q E s
def ad4:SetV X (SrcO):=by
 intro y T H s A E Q a n I G P i h;have q:A.in1.in1.in1.handled=Z:=by simp[G]
 have m:∀{f:Heap} {j:List ee},f.SetOf (vG X.prog X.w) (~~~s) (inK j) (AF j).length->Set2 f (~~~s) (AF j).length:=λS=>by let#v[o,C,B,t,b,hex,hd,_,_,N,F,M]:=S;show#v[o,C,B,t,b,hex,hd,N,F,M]
 have x:∀{o:Obj} {led:Bool},o.isFreed=δ->((s.heap.push (zX led)).push o).get? (~~~s+1)=U o:=λ{o led} z=>by rw[show ~~~s+1=(s.heap.push (zX led)).objs.size from(cY _ _).symm];show bq _ z
 obtain⟨j,i|i,u,rfl⟩:=i
 .let#v[d,r,p,_]:=I.list i;let#v[o,b,c,n,hd]:=p.isList;have hne:=aW (cX (aM b));refine CG b c m7 l6 #[]
   (λA Q E O e k=>ie #v[o,e,c,n,hd] k) (λtk R hR=>LI (Sy r u) (aM b) (jJ q _ a hne d.toArray) #v[#v[_,x J,J,J],#v[o,aJ _ (aJ _ b),c,n,hd]] (λf l S=>hR f l (m S)) tk) h
 .let#v[d,r,p,_]:=I.tuple i;let#v[o,b,c,n,hd]:=p;have hne:=aW (cX (aM b));refine CG b c qi j' #[]
   (λA Q E O e k=>mf #v[o,e,c,n,hd] k) (λtk R hR=>LI (Sy r u) (aM b) (sC q _ a hne d.toArray) #v[#v[_,x J,J,J],#v[o,aJ _ (aJ _ b),c,n,hd]] (λf l S=>hR f l (m S)) tk) h
def ad5:SetV X (SrcS):=by
 intro F σ H s A E Q a n I x Y c h;rcases c with c|⟨p,q,k1,y,c,T,i,ne,rfl⟩
 .show ad4 I x Y c h
 have W:A.in1.in1.in1.handled=Z:=by simp[x]
 have it:∀{o:Obj} {led:Bool},o.isFreed=δ->((s.heap.push (zX led)).push o).get? (~~~s+1)=U o:=λ{o led} z=>by rw[show ~~~s+1=(s.heap.push (zX led)).objs.size from(cY _ _).symm];show bq _ z
 let#v[l,r,pp,_]:=I.list c;let#v[o,d,j,n,hd]:=pp.isList;have hne:=aW (cX (aM d));let#v[u,v,rfl,ru,rv]:∃u v,l=[u,v]/\ea (.ref p) u/\ea (.ref q) v:=by cases r with|cons c1 r=>cases r with|cons c2 r=>ext r;show#v[_,_,J,c1,c2]
 ext ru;ext rv;have G:=OO I T;have M:=OO I i;have far:∀{b:Addr} {B:List ee},TK X.prog X.w s.heap B b->b∉~~~s::[~~~s+1]:=λ{b B} t z=>by
  let#v[o,_,_,e,_]:=t;have:=aM e;rcases aD.1 z with z|z
  .show au z (aW this)
  .show au (aO.1 z) (aW (cX this))
 have notin: ~~~s∉[~~~s+1,a]:=by
  intro z;rcases aD.1 z with z|z
  .show au z (aW (cQ _))
  .show au (aO.1 z) (eJ (aM d))
 refine CG d j m7 l6 #[]
  (λA Q E s1 e k=>ie #v[o,e,j,n,hd] k) (λtk R hR=>?_) h
 have f:∀{b:Addr} {C:Obj},s.heap.get? b=U C->((s.heap.push (zX (!X.w.params.followText "set-order"))).push { cls:=.type "list_iterator", data:=.fields #[.ref a,.int 0 0] }).get? b=U C:=λe=>aJ _ (aJ _ e);refine Qs (jJ W _ a hne #[.ref p,.ref q]).toS notin ne (far G) (far M) (λv e=>(cM e).symm) (λv e=>(cM e).symm) (by change A.units+1+1+1<cLine;omega) #v[#v[_,it J,J,J],#v[o,f d,j,n,hd]] (G.f? λo=>f) (M.f? λo=>f)
  (aJ _ (bq _ J)) #v[J,J,J] J λs2 mv N=>?_
 let#v[i,g2,d2,y,o2]:=s2;have P:=mv.gens;have O:=mv.drawn;have S:=mv.os;subst P O S;show hR i y N λb o m e=>mv.heap b o (λz=>by
  rcases aD.1 z with z|z
  .show au z (aW m)
  .show au (aO.1 z) (aW (cX m))) (f e)
def J6(S:ay->Hp->Addr->Nat->Prop)(K:ay)(c:TE):TE:=λd H Q=>c d H λx b=>∃a n,x=.ref a/\S K b a n/\Q (.int n) b
def Qt{f c:Pos}(hV:SetV X S)(R:X.A.units+64<cLine)(r:X.k?=γ)(g1:Gl X "len")(G:X.mg "len" = Z)(g2:Gl X "set")(M:X.mg "set" = Z)(w:PE X e P)
  (i:aE [Expr.Call (.Name "set" f) [e] [] c] X.a9=[(δ,eval (.Call (.Name "set" f) [e] [] c) X.a9)]:=by rfl) (j:aE [e] X.a9=[(δ,eval e X.a9)]:=by rfl):PE X (.Call (.Name "len" T) [.Call (.Name "set" f) [e] [] c] [] W) (J6 S X.K P):=by
 intro pins s σ H Q I h;calc eZ (BC I g1 G rA ?_ #[] #[]);calc callWith_builtin1 ?_ i J;rw[i];calc gq ?_;calc eZ (BC I g2 M sE ?_ #[] #[]);refine callWith_type1 (ff (xf w zO j c pins s σ H (λvs H1=>match vs with
  |[x]=>∃a n,x=.ref a/\S X.K H1 a n/\Q (.int n) H1
  |_=>False) I h) λus O #v[vs,H1,d,r1,q1]=>?_) j J
 match vs,r1,q1 with
 |[x],r1,q1=>
 let#v[a,n,p,B,q]:=q1;subst p;let#v[u,rfl,N]:=mq r1;ext N;calc hV d (d.ok.hd r) () B λh2 E m F=>?_;calc ig ?_;let#v[o,es,ep,t,z,hex,hd,C,y,hn]:=m;have l:b? X pins σ H1 { O with heap:=h2,toks:=E }:=d.f? λb o e=>F b o (aM e) e;calc call_len_set z hex hd y (by delta scanBound at C;omega) #v[.int n,H1,l.zk _,#v[_,by rw[hn]],q]
def DH:aZ->Option (List ee)
 |[]=>U []
 |d::a=>match Dw d,DH a with
  |some k,U b=>U (k::b)
  |_,_=>Z
theorem Dj:∀{a:aZ} {f:bA} {c:List ee},bc G H a f->DH a=U c->f=c.map kV
 |[],f,c,r,e=>by ext e;delta bc at r;show r
 |d::a,f,c,r,e=>by
  delta DH at e;cases b:Dw d with
  |none=>rw[b]at e;cases e
  |some k=>
   cases h:DH a with
   |none=>rw[b,h]at e;cases e
   |some l=>rw[b,h]at e;ext e;let#v[v,m,rfl,i,j]:=r;rw[BM i b,Dj j h];rfl
def yY(b:aZ):Option D:=match DH b with
 |some a=>if a.length<=1000 then U (.int (AF a).length)else Z
 |none=>Z
def twoD:aZ->Option D
 |[.bx x,.bx y]=>match DH x,DH y with
  |some a,U b=>if a=b then Z else U (.int 2)
  |_,_=>Z
 |_=>Z
def Ho(g:aZ->Option D):D->Option D
 |.ax a=>match yY a with
  |some r=>U r
  |none=>g a
 |.bx a=>yY a
 |.M a=>yY a
 |_=>Z
abbrev J7:D->Option D:=Ho twoD
def Ws(h:yY a=U r):Ho g (.ax a)=U r:=by change (match yY a with|some r=>U r|none=>g a)=U r;rw[h]
#print h
def Nr(hK:X.K=G.K)(hO:∀{H a n},SrcO X.K H a n->S X.K H a n)
  (E:∀{c d m b a i},g c=U d->gi X.K b a i->bc G m c i->vF m b->∃n:Nat,S X.K b a n/\d=.int n)
  (h:PE X e (J6 S X.K (tF G f))):PE X e (tF G (c1 (Ho g) f)):=PE.c3 h λO H Q I=>by
 let#v[F,N,z,d,u,R,e,k]:=I;let#v[x,B,l]:=Gp e;have key:∀{c:aZ} {i:bA} {a:Addr} {m b:Hp},yY c=U d->bc G m c i->vF z m->b8 G F O u m b->(gi X.K b a i\/fl X.K b a i)->
   ∃A n,V.ref a=.ref A/\S X.K b A n/\Q (.int n) b:=λ{c i a m b} o rs s j t=>by
  delta yY at o;cases y:DH c with
  |none=>rw[y]at o;cases o
  |some M=>
   rw[y]at o;simp only at o;split at o
   .rename_i P;ext o;rw[Dj rs y]at t;show#v[a,_,J,hO #v[M,t,by delta scanBound;omega,J],k _ _ _ s j (xW _)]
   .ext o
 calc#v[F,N,z,x,u,R,B,λv m b s j r=>?_];cases x with
 |ax c=>
  let#v[a,i,rfl,p,q]:=r;have t:gi X.K b a i:=gi.of (j.sub _ _ p);replace l:(match yY c with|some r=>U r|none=>g c)=U d:=l;cases w:yY c with
  |some r=>rw[w]at l;ext l;show key w q s j (.inl t)
  |none=>rw[w]at l;let#v[n,C,rfl]:=E l t q j.sub;show#v[a,n,J,C,k _ _ _ s j (xW _)]
 |bx c=>let#v[a,i,rfl,p,q]:=r;rw[<-hK]at p;show key l q s j (.inr (fl.mono j.sub p))
 |M c=>let#v[a,i,rfl,p,q]:=r;rw[<-hK]at p;show key l q s j (.inl (j.sub.seq p))
 |_=>ext l
def Wt(hK:X.K=G.K):∀{f d e b a h},twoD f=U d->gi X.K b a h->bc G e f h->vF e b->∃n:Nat,SrcS X.K b a n/\d=.int n:=λ{f d e b a h} c u t s=>by
 delta twoD at c;split at c
 .rename_i x y;split at c
  .rename_i w z o r;split at c
   .ext c
   .rename_i ne;ext c;let#v[C,A,rfl,c1,E,B,rfl,c2,rfl]:=t;let#v[p,F,rfl,i,l]:=c1;let#v[q,H,rfl,j,m]:=c2;rw[<-hK,Dj l o]at i;rw[<-hK,Dj m r]at j;show#v[2,.inr #v[p,q,w,z,u,fl.mono s i,fl.mono s j,ne,J],J]
  .ext c
 .ext c
#print f
def Qu(hK:X.K=G.K)(h:PE X e (J6 SrcS X.K (tF G f))):PE X e (tF G (c1 J7 f)):=Nr hK .inl (Wt hK) h
end
def Dk(h:(vG P w).is k v=γ):ea (kV k) v:=by
 rcases wD h with ⟨i,t,rfl,rfl⟩|⟨x,t,rfl,rfl⟩
 .show#v[t,J]
 .show#v[t,J]
def Itd(a:Addr)(o:Obj)(kvs:List (ee×V)):It:=
 #v[λi H=>i<kvs.length/\H a=U (.l? o (.dK kvs)),λi H x b=>b=H/\∃k z,kvs[i]?=U (k,z)/\x=kV k,λi H=>kvs.length<=i/\H a=U (.l? o (.dK kvs))]
section
def AL(I:b? X d u H s)(e:H a=U (.l? o (.dK kvs)))(hd:o.data=.dict l i):
  (a==cZ)=δ/\s.heap.get? a=U o/\∃b,KV kvs b/\s.heap.DictAt (vG X.prog X.w) a b i:=by
 let#v[c,_,y,b,r,t,m,j,f,p,h,q]:=(show eu X.prog X.w H s.heap a (.l? o (.dK kvs)) from I.fb a _ e);rw[c]at f;ext f;rw[hd]at h;ext h;show#v[y,c,b,r,o,l,c,p,hd,q]
def aaz{kvs:List (ee×V)}{a:List (ee×aa)}(r:KV kvs a){i:Nat}{k:ee}{x:aa}(e:a[i]?=U (k,x)):∃z,kvs[i]?=U (k,z):=by
 induction r generalizing i with
 |nil=>cases e
 |@cons p q l c h _ b=>
  cases i with
  |zero=>let#v[pk,pv]:=p;ext e;show#v[pv,by rw[show pk=k from h.1];rfl]
  |succ i=>show b e
end
def Qv{K:ay}(a it:Addr)(o:Obj)(kvs:List (ee×V)):Mn P w K tg (Itd a o kvs) [it] it (λi h=>∃es ep,o.data=.dict es ep/\h.IsKeyIter it a i kvs.length ep) where
 mem:=by simp
 obj:=λi h st b f=>by
  have e:=by exists f
  subst e;let#v[es,ep,hd,ob,e,c,d]:=st;show#v[ob,e,λv z=>by rw[d]at z;ext z]
 keep:=λi h h' st k=>by let#v[es,ep,hd,x]:=st;show#v[es,ep,hd,x.at λo e=>k it (by simp) o e]
 item:=by
  intro X hP G hK C i pins s σ H E I t st F;subst hP G hK;let#v[hi,q]:=F;let#v[es,ep,hd,p]:=st;let#v[l,u,Q,y,A,B]:=t it (by simp);let#v[_,_,vs,r,da]:=AL I q hd;have m:=r.length;have hne:a≠it:=λz=>by subst z;rw[q]at l;ext l
  have W:=rB (knd:=vG X.prog X.w) (I.ok.hd C) it a hne vs ep;calc W.item i s _ _ () #v[by rw[<-m];show p,da] λv h' tk hv M Y=>?_;let#v[k,x,S,R]:=hv;let#v[z,T]:=aaz r S;have N:b? X pins σ H { s with heap:=h',toks:=tk }:=I.jl (λb o f e=>Y b o (by exists f) e) l u y A B;let#v[j,_]:=M;rw[<-m]at j;let#v[ob,e,c,d]:=id j;show#v[v,J,Og e c d #[] #v[kV k,H,N,Dk R,#v[J,k,z,T,J],#v[es,ep,hd,j],λb f=>(t b f).1]]
 done:=by intro X hP G hK C i pins s σ H E I t st F;subst hP G hK;let#v[hi,q]:=F;let#v[es,ep,hd,p]:=st;let#v[l,u,Q,y,A,B]:=t it (by simp);let#v[_,_,vs,r,da]:=AL I q hd;have m:=r.length;show wpAny_pyNext_dict_end (I.ok.hd C) (by rw[<-m];show p) da (gn (by rw[<-m];show hi)) λh' O=>#v[J,I.jl (λb o f e=>O b o f e) l u y A B]
 self:=λn n n n n st h=>by let#v[es,ep,hd,p]:=st;show wpAny_pyIter_keyiter p h
section
def iDic(c:TE):TI:=λd H R=>c d H λx b=>∃a o kvs,x=.ref a/\b a=U (.l? o (.dK kvs))/\R (Itd a o kvs) b
def Wu(f:PE X l M):PI X P l (iDic M):=by
 intro c s N H R I h;calc ff (f c s N H _ I h) λv i zz=>?_;let#v[x,j,d,G,F]:=zz;let#v[a,o,kvs,e,E,q]:=F;subst e;ext G;let#v[u,_,y,Q,r,O,t,B,m,z,p,A]:=(show eu X.prog X.w j i.heap a (.l? o (.dK kvs)) from d.fb a _ E);rw[u]at m;ext m;have f:=r.length;calc qu y #v[o,t,u,z,p,A] ?_;calc#v[~~~i,[~~~i],_,_,j,J,d.f? λb o e=>aJ _ e,Qv a _ o kvs,#v[t,B,p,#v[_,bq _ J,J,by rw[f];rfl]],λb C=>?_,q];have e:=by exists C
 subst e;show d.L? (aF _) (d.fb.fresh (aF _))
def Nt:ee->D
 |.inl i=>.int i
 |.inr x=>.str x
def OP(k:ee):df G H (Nt k) (kV k):=by
 cases k with
 |inl i=>show xW i
 |inr x=>show zU x
def iD(f:FE):FA:=λd=>match f d with
 |some (.J b c,a)=>if b.length=c.length then U (b.map Nt,a)else Z
 |_=>Z
#print h
def SA(h:PI X W e (iDic (tF G f))):PI X W e (P? G (iD f)):=PI.c3 h λσ H R P=>by
 let#v[F,ρ,B,ds,ρ',R,e,k]:=P;delta iD at e;split at e
 .rename_i p M ρ1 N;split at e
  .rename_i x;ext e;calc#v[F,ρ,B,_,_,R,N,λv H1 C s w r=>?_];let#v[a,o,Y,rfl,q,T,r3]:=r;have A:(p.zip Y).length=p.length:=by rw[fU,<- T,fE]
   refine#v[a,o,_,J,w.sub _ _ q,k _ _ _ s w λi E I t u=>#v[λd c=>?_,λS=>?_]]
   .rw[br]at c;cases m:p[i]? with
    |none=>rw[m]at c;cases c
    |some j=>
     rw[m]at c;ext c;have Q:=(bT.1 m).1;calc#v[#v[by rw[A];show Q,u _ _ (t _ _ q)],λz H3 y=>?_];let#v[O,k',z',l,rfl]:=y;subst O;have:=by rw[pf]at l;have:=l.1;rw[m]at this;show(cM this).symm
     subst this;show#v[E,vF.refl _,u,vF.refl _,λb o e=>.inl e,OP _]
   .refine#v[by rw[A,S,ak];show aF _,u _ _ (t _ _ q)]
  .ext e
 .ext e
end
#print f
section
def b?.z?{h':Heap}{T:Addr}{xs:bA}{t':Nat}{ch:List Addr}(I:b? X pins σ H s)(f:∀b∈ch,Iv X pins H b)(k:∀b o,b∉ch->s.heap.get? b=U o->h'.get? b=U o)
  (hT: ~~~s<=T) (new:eu X.prog X.w (el H T (.bx xs)) h' T (.bx xs)):b? X pins σ (el H T (.bx xs)) { s with heap:=h',toks:=t' }:=by
 have nT:H T=Z:=I.fb.fresh hT;have ne:∀{b:Addr} {u:HO},H b=U u->b≠T:=λe z=>by subst z;rw[nT]at e;ext e
 have nch:∀{b:Addr} {u:HO},H b=U u->b∉ch:=λe z=>by have:=(f _ z).1;rw[e]at this;ext this
 have lt:∀{b:Addr} {o:Obj},s.heap.get? b=U o->b≠T:=λe z=>by subst z;show au (cF (aM e) hT) (eF _)
 refine I.step (g':=s.gens) (d':=s.drawn) (ch:=ch) (λb d=>?_) (λb o g g a e g=>k b o a e) (λb o g g a e g=>#v[o.slots,k b o a e]) (λb o g e n=>by rw[vC (lt e)];show n) (λb o a e=>#v[o,k b o a e])
  (λb p e=>by rw[vC (ne e)];show e) (λb o u e=>by rw[vC (ne e)];show e) (λb ps e=>#v[[].toArray,by rw[vC (ne e),e];simp]) (λm hm=>?_) (λb u e=>?_) I.i?
 .let#v[t,h,x,i,j,l]:=f b d;show#v[i,h,j,l]
 .show hm.at' λo e=>k _ o (λz=>(f _ z).2.1 J) e
 .by_cases d:b=T
  .subst d;rw[vB]at e;ext e;show new
  .rw[vC d]at e;refine(I.fb b u e).wh (λc v a q=>k c v ?_ q) (λc q=>by rw[vC (ne q)];show q) λc p q=>by rw[vC (ne q)];show q
   rcases a with rfl|a
   .show nch e
   .show nch a
def Itz(c d:Addr):It:=
 #v[λi H=>∃a b x y,H c=U (.ax a)/\H d=U (.ax b)/\a[i]?=U x/\b[i]?=U y,
  λi H v e=>∃p x y,H p=Z/\v=.ref p/\e=el H p (.bx [x,y])/\(∀a,H c=U (.ax a)->a[i]?=U x)/\∀b,H d=U (.ax b)->b[i]?=U y,
  λi H=>∃a b,H c=U (.ax a)/\H d=U (.ax b)/\(a.length<=i\/b.length<=i)]
end
structure SC(z TI TO i1 i2:Addr):Prop where
 a:TI≠z
 b:TO≠z
 c:i1≠z
 d:i2≠z
 e:TI≠TO
 f:TI≠i1
 g:TI≠i2
 h:TO≠i1
 i:TO≠i2
 j:i1≠i2
def aaA(n:Nat):SC (n+4) (n+2) (n+3) n (n+1) where
 a:=(by omega:(n+2:Nat)≠n+4)
 b:=(by omega:(n+3:Nat)≠n+4)
 c:=(by omega:(n:Nat)≠n+4)
 d:=(by omega:(n+1:Nat)≠n+4)
 e:=(by omega:(n+2:Nat)≠n+3)
 f:=(by omega:(n+2:Nat)≠n)
 g:=(by omega:(n+2:Nat)≠n+1)
 h:=(by omega:(n+3:Nat)≠n)
 i:=(by omega:(n+3:Nat)≠n+1)
 j:=(by omega:(n:Nat)≠n+1)
def zTn(z TI TO c d e f:Addr)(i:Nat)(h:Heap):Prop:=IsZip h z TI TO .none/\IsPair h TI (.ref c) (.ref d)/\(∃a b,IsPair h TO a b)/\h.IsListIter c e i/\h.IsListIter d f i
def SD{P:bb}{w:aQ}{K:ay}{elts:List Expr}{x1}{pos:Pos}{z TI TO i1 i2 N O:Addr}(D:SC z TI TO i1 i2):Mn P w K (.Tuple elts x1 pos) (Itz N O) [z,TI,TO,i1,i2] z (zTn z TI TO i1 i2 N O) where
 mem:=by simp
 obj:=λi h st b p=>by
  let#v[B,h1,#v[a,c,h2],#v[o3,h3,_,d3],#v[o4,h4,_,d4]]:=st;erw[aD,bY,or_false]at p;rcases p with rfl|rfl|rfl|rfl|rfl
  .show#v[_,B,λv y=>nomatch y]
  .show#v[_,h1,λv y=>nomatch y]
  .show#v[_,h2,λv y=>nomatch y]
  .show#v[o3,h3,λv y=>by rw[d3]at y;ext y]
  .show#v[o4,h4,λv y=>by rw[d4]at y;ext y]
 keep:=λi h h' st k=>by let#v[B,h1,#v[a,c,h2],h3,h4]:=st;show#v[k z (by simp) _ B,k TI (by simp) _ h1,#v[a,c,k TO (by simp) _ h2],h3.at λo e=>k i1 (by simp) o e,h4.at λo e=>k i2 (by simp) o e]
 item:=by
  intro X hP W hK t i pins s σ H E I C st Q;subst hP W hK;let#v[xs,ys,x,y,q1,q2,qx,qy]:=Q;let#v[B,hTI,#v[a,b,hTO],h1,h2]:=st;let#v[its,r1,p1,_]:=I.list (gi.of q1);let#v[jts,r2,p2,_]:=I.list (gi.of q2);let#v[u1,R,ru1]:=r1.get qx;let#v[u2,S,ru2]:=r2.get qy;have r:∀{l:Addr} {u:HO} {c:Addr},H l=U u->c∈[z,TI,TO,i1,i2]->l≠c:=λe hm w=>by subst w;have:=(C _ hm).1;rw[e]at this;ext this
  have DD:ZipApart z TI TO i1 i2 N O:=#v[D.a,D.b,D.c,D.d,D.e,D.f,D.g,D.h,D.i,D.j,r q1 (by simp),r q1 (by simp),r q1 (by simp),r q1 (by simp),r q2 (by simp),r q2 (by simp),r q2 (by simp),r q2 (by simp)];calc wpAny_pyNext_zip_item DD B hTI hTO h1 h2 p1.isList p2.isList (x:=u1) (y:=u2) (by exists R) (by exists S) λh' a1 a2 a3 a4 a5 a6 M=>?_;calc#v[_,J,wpAny_letOwnedTupleGo_zip (s:={ s with heap:=h' }) a1 λF Y G=>?_];have lt:∀{c:Addr} {o:Obj},s.heap.get? c=U o-> ~~~s≠c:=λe w=>au (aM e) (by rw[w];show eF _);have Tz: ~~~s≠z:=lt B;have hp:IsPair F (~~~s) u1 u2:=G.extBut _ _ Tz a5;have A:∀b∈[z,TO,i1,i2],b∈[z,TI,TO,i1,i2]:=λb p=>by simp at p ⊢;rcases p with rfl|rfl|rfl|rfl<;>simp
  have ok:eu X.prog X.w (el H (~~~s) (.bx [x,y])) F (~~~s) (.bx [x,y]):=#v[by rw[bH];change 2<=16777216;decide,[u1,u2],.cons ru1 (.cons ru2 .nil),#v[_,hp,J,_,J],λo e=>by rw[show _=U _ from hp]at e;ext e;rfl];have I1:=b?.z? (h':=F) (t':=s.toks) (T:= ~~~s) (xs:=[x,y]) (ch:=[z,TO,i1,i2]) I (λb p=>C b (A b p))
   (λb o p e=>G.extBut _ _ (λw=>p (by simp[w])) (M b o (λw=>p (by simp[w])) (λw=>p (by simp[w])) (λw=>p (by simp[w])) (λw=>p (by simp[w])) e)) (aF _) ok
  refine#v[.ref (~~~s),_,I1,J,#v[_,x,y,I.fb.fresh (aF _),J,J,λxs' e=>?_,λys' e=>?_],#v[Y,G.extBut _ _ D.a (M _ _ D.a D.e D.f D.g hTI),#v[_,_,G.extBut _ _ D.b a2],a3.extBut G.extBut D.c,a4.extBut G.extBut D.d],λb p=>?_]
  .rw[q1]at e;ext e;show qx
  .rw[q2]at e;ext e;show qy
  .rw[vC (λw=>?_)]
   .show(C b p).1
   .erw[aD,bY,or_false]at p;rcases p with p|p|p|p|p
    .show lt B (w.symm.t p)
    .show lt hTI (w.symm.t p)
    .show lt hTO (w.symm.t p)
    .let#v[o,e,_]:=h1;show lt e (w.symm.t p)
    .let#v[o,e,_]:=h2;show lt e (w.symm.t p)
 done:=by
  intro X hP W hK t i pins s σ H E I C st Q;subst hP W hK;let#v[xs,ys,q1,q2,hend]:=Q;let#v[B,hTI,#v[a,b,hTO],h1,h2]:=st;let#v[its,r1,p1,_]:=I.list (gi.of q1);let#v[jts,r2,p2,_]:=I.list (gi.of q2);have r:∀{l:Addr} {u:HO} {c:Addr},H l=U u->c∈[z,TI,TO,i1,i2]->l≠c:=λe hm w=>by subst w;have:=(C _ hm).1;rw[e]at this;ext this
  have DD:ZipApart z TI TO i1 i2 N O:=#v[D.a,D.b,D.c,D.d,D.e,D.f,D.g,D.h,D.i,D.j,r q1 (by simp),r q1 (by simp),r q1 (by simp),r q1 (by simp),r q2 (by simp),r q2 (by simp),r q2 (by simp),r q2 (by simp)];have e1:=r1.length;have e2:=r2.length;refine wpAny_pyNext_zip_end (I.ok.hd t) DD B hTI hTO h1 h2 p1.isList p2.isList ?_ λh' M=>#v[J,?_]
  .rcases hend with w|w
   .show .inl (by simp;omega)
   .show .inr (by simp;omega)
  .have A:∀b∈[z,TO,i1,i2],b∈[z,TI,TO,i1,i2]:=λb p=>by simp at p ⊢;rcases p with rfl|rfl|rfl|rfl<;>simp
   have nch:∀{b:Addr} {u:HO},H b=U u->b∉[z,TO,i1,i2]:=λe w=>by have:=(C _ (A _ w)).1;rw[e]at this;ext this
   have k:∀b o,b∉[z,TO,i1,i2]->s.heap.get? b=U o->h'.get? b=U o:=λb o p e=>M b o (λw=>p (by simp[w])) (λw=>p (by simp[w])) (λw=>p (by simp[w])) (λw=>p (by simp[w])) e;refine I.step (g':=s.gens) (d':=s.drawn) (t':=s.toks) (ch:=[z,TO,i1,i2]) (λb p=>?_) (λb o _ _ t e _=>k b o t e) (λb o _ _ t e _=>#v[o.slots,k b o t e]) (λb o _ e n=>n) (λb o t e=>#v[o,k b o t e])
    (λb ys e=>e) (λb o u e=>e) (λb ps e=>#v[[].toArray,by rw[e];simp]) (λm hm=>?_) (λb u e=>?_) I.i?
   .let#v[f0,f1,f2,f3,f4,f5]:=C b (A b p);show#v[f3,f1,f4,f5]
   .show hm.at' λo e=>k _ o (λw=>(C _ (A _ w)).2.1 J) e
   .calc(I.fb b u e).wh (λc v t q=>k c v ?_ q) (λc q=>q) λc ys q=>q;rcases t with rfl|t
    .show nch e
    .show nch t
 self:=λ_ _ _ _ _ st h=>qJ st.1 h
section
def iZip(d:TA):TI:=λi H R=>d i H λe c=>∃a b f h,e=[.ref a,.ref b]/\c a=U (.ax f)/\c b=U (.ax h)/\R (Itz a b) c
def aaB{a b:Expr}{l:TA}{p pos:Pos}(w:Gl X "zip")(hm:X.mg "zip" = Z)(ha:PA X [a,b] l)(hs:aE [a,b] X.a9=[(δ,eval a X.a9),(δ,eval b X.a9)]:=by rfl)(f:aE [b] X.a9=[(δ,eval b X.a9)]:=by rfl):
  PI X (.Tuple elts P tpos) (.Call (.Name "zip" p) [a,b] [] pos) (iZip l):=by
 intro pins s σ H R I h;calc Call_ (BC I w hm boot_zip (callWith_type1 (ff (ha pos pins s σ H _ I h) λus i zz=>?_) (by rw[hs,f]) (by rw[f];rfl)));let#v[vs,H1,d,r1,q1]:=zz;let#v[M,N,xs,Q,rfl,r,t,q]:=q1;let#v[u,v,rfl,A,B]:=vals2 r1;ext A;ext B;let#v[its,_,y,_]:=d.list (gi.of r);let#v[jts,_,z,_]:=d.list (gi.of t);calc call_zip_2 y.isList z.isList λh' m C E F G S x=>?_;calc qJ m ?_;have o:b? X pins σ H1 { i with heap:=h' }:=d.f? (t':=i.toks) x;have D:=aaA (~~~i);calc#v[_,_,_,_,H1,J,o,SD D,#v[m,C,#v[_,_,E],F,G],λc j=>?_,q];have e: ~~~i<=c:=by erw[aD,bY,or_false]at j;rcases j with rfl|rfl|rfl|rfl|rfl<;>first|show fw _ _|show aF _
 show d.L? e (d.fb.fresh e)
def Eu(a b:aZ):aZ:=dP (λd e=>D.bx [d,e]) a b
def iZ(f:FA):FA:=λd=>match f d with
 |some ([.ax b,.ax c],a)=>U (Eu b c,a)
 |_=>Z
def LJ(a b:aZ):(Eu a b).length=min a.length b.length:=by delta Eu;rw[ku]
#print h
def Wv{tg e:Expr}{f:FA}(h:PI X tg e (iZip (t7 G f))):PI X tg e (P? G (iZ f)):=PI.c3 h λσ H R hh=>by
 let#v[F,ρ,H0,ds,ρ',R,e,k]:=hh;delta iZ at e;split at e
 .rename_i N O ρ1 e1;ext e;calc#v[F,ρ,H0,_,_,R,e1,λvs H1 H1' s M rs=>?_];replace rs:=An rs;let#v[v1,r1,rfl,h1,rs]:=rs;replace rs:=An rs;let#v[v2,r2,rfl,h2,rs]:=rs;cases BH rs;delta df at h1 h2;let#v[a,z,rfl,a1,a2]:=h1;let#v[b,B,rfl,b1,b2]:=h2;calc#v[a,b,z,B,J,M.sub _ _ a1,M.sub _ _ b1,k _ _ _ s M λi I j t E=>?_];have Q:j a=U (.ax z):=E _ _ (t _ _ a1);have S:j b=U (.ax B):=E _ _ (t _ _ b1);refine#v[λd c=>?_,λhl=>#v[z,B,Q,S,?_]]
  .delta Eu at c;rw[l4]at c;cases C:N[i]? with
   |none=>rw[C]at c;cases c
   |some dx=>
    cases P:O[i]? with
    |none=>rw[C,P]at c;cases c
    |some dy=>
     rw[C,P]at c;ext c;let#v[W,w,x2]:=xD a2 C;let#v[Y,A,y2]:=xD b2 P;calc#v[#v[z,B,W,Y,Q,S,w,A],λx H3 y=>?_];let#v[p,x',y',T,rfl,rfl,w1,w2]:=y;have l:=w1 z Q;have r:=w2 B S;rw[w]at l;rw[A]at r;ext l;ext r;have p0:I p=Z:=by
      cases q:I p with
      |none=>rfl
      |some o=>have:=E _ _ q;rw[T]at this;ext this
     refine#v[el I p (.bx [W,Y]),vK p0 _,λb o e=>?_,vK T _,λb o e=>?_,zT (fl.of vB) ?_]
     .by_cases u:b=p
      .subst u;rw[vB]at e ⊢;show e
      .rw[vC u]at e ⊢;show E _ _ e
     .by_cases u:b=p
      .subst u;show .inr T
      .rw[vC u]at e;show .inl e
     .have m:=t.t (vK p0 (.bx [W,Y]));show vS (df.mono m _ _ x2) (vS (df.mono m _ _ y2) vV)
  .rw[LJ]at hl;rw[<-vE a2,<- vE b2];omega
 .ext e
end
#print f
mutual
def noC(N c:Nat):D->Bool
 |.cx=>γ
 |.bl _=>γ
 |.int _=>γ
 |.str _=>γ
 |.bx a=>J8 N c a
 |.ax a=>J8 N c a
 |.M a=>J8 N c a
 |.obj k _ a=>decide (k<N)&&decide (k≠c)&&J8 N c a
 |.J _ a=>J8 N c a
 |.X _ a=>J8 N c a
def J8(N c:Nat):aZ->Bool
 |[]=>γ
 |d::a=>noC N c d&&J8 N c a
end
def without(H:Hp)(a:Addr):Hp:=λb=>if b=a then Z else H b
def Hr{H:Hp}{a b:Addr}(h:b≠a):without H a b=H b:=by delta without;rw[ah h]
def Ew{H:Hp}{a b:Addr}{o:HO}(h:without H a b=U o):b≠a/\H b=U o:=by
 delta without at h;by_cases c:b=a
 .rw[af c]at h;ext h
 .rw[ah c]at h;show#v[c,h]
def yi{H:Hp}{a b:Addr}{u v:HO}(e:H a=U u)(c:H b=U v)(d:u≠v):without H a b=U v:=by rw[Hr (λz=>by subst z;rw[e]at c;show d (cM c))];show c
section
variable{G:Bg}
#print "FI fl;LK gi" in def ϑ0(b:H a=U (.nj (G.ca c) e fs)){p:Addr}{d:bA}(h:ϑ1 G.K H p d):ϑ1 G.K (without H a) p d:=by
 rcases h with (h|⟨o,h⟩)|h
 .show .inl (.inl (yi b h (λz=>nomatch z)))
 .show .inl (.inr #v[o,yi b h (λz=>nomatch z)])
 .show .inr h
mutual
theorem FJ(inj:∀j k,j<N->k<N->G.ca j=G.ca k->j=k)(t:c<N)(i:H a=U (.nj (G.ca c) M fs)):∀(d:D) (v:V),noC N c d=γ->df G H d v->df G (without H a) d v
 |.cx,v,_,h=>by delta df at h ⊢;show h
 |.bl _,v,_,h=>by delta df at h ⊢;show h
 |.int _,v,_,h=>by delta df at h ⊢;show h
 |.str _,v,_,h=>by delta df at h ⊢;show h
 |.bx l,v,n,h=>by let#v[p,f,e,m,r]:=h;show#v[p,f,e,FI i m,xK inj t i l f n r]
 |.ax l,v,n,h=>by let#v[p,f,e,m,r]:=h;show#v[p,f,e,yi i m (λz=>nomatch z),xK inj t i l f n r]
 |.M l,v,n,h=>by let#v[p,f,e,m,r]:=h;show#v[p,f,e,LK i m,xK inj t i l f n r]
 |.obj k O l,v,n,h=>by delta noC at n;erw[bt,bV]at n;let#v[p,w,f,e,m,r,u]:=h;calc#v[p,w,f,e,yi i m (λz=>?_),r,xK inj t i l f n.2 u];injection z with I;show n.1.2 (inj k c n.1.1 t I.symm)
 |.J E l,v,n,h=>by let#v[p,o,f,e,m,r,u]:=h;show#v[p,o,f,e,yi i m (λz=>nomatch z),r,xK inj t i l f n u]
 |.X E l,v,n,h=>by let#v[b,f,rfl,#v[o,F,m,r,u,x,y,A],B]:=h;show#v[b,f,J,#v[o,F,yi i m (λz=>nomatch z),r,u,x,λq C=>FI i (y q C),A],xK inj t i l f n B]
theorem xK(inj:∀j k,j<N->k<N->G.ca j=G.ca k->j=k)(l:c<N)(i:H a=U (.nj (G.ca c) p fs)):∀(b:aZ) (f:bA),J8 N c b=γ->bc G H b f->bc G (without H a) b f
 |[],f,_,h=>by delta bc at h ⊢;show h
 |d::b,f,n,h=>by delta J8 at n;erw[bt]at n;let#v[v,r,e,m,o]:=h;show#v[v,r,e,FJ inj l i d v n.1 m,xK inj l i b r n.2 o]
end
end
def DU:Sl->Sl
 |.q d=>.q d
 |_=>.un
def Bp(N:Nat)(f:FE):FE:=λa=>match a with
 |.ob c e b::r=>match f (.q (.obj c e b)::r.map DU)with
  |some (d,_)=>if (decide (c<N)&&noC N c d)=γ then U (d,a)else Z
  |none=>Z
 |_=>Z
section
def Nu{s:Sl}:(DU s).g?=δ:=by ext s<;>rfl
#print h
def Ww{e:Expr}{f:FE}{N:Nat}(inj:∀j k,j<N->k<N->G.ca j=G.ca k->j=k)(h:PE X e (tF G f)):PE X e (tF G (Bp N f)):=PE.c3 h λσ H Q E=>by
 let#v[F,ρ,H0,d,ρ',R,e,k]:=E;delta Bp at e;split at e
 .rename_i c ns ds r;rcases vW (f:=f) (ρ:=.q (.obj c ns ds)::r.map DU)with w|⟨x,y,w⟩<;>erw[w]at e
  .ext e
  split at e
  .rename_i hn;ext e;erw[bt,bV]at hn;let#v[a,dx,xs,h1,h2,h3,h4,h5,h6]:=R.sl 0 _ J;have RL:b8 G #v[el H0 a (.nj (G.ca c) dx (ns.zip xs)),H,[]] σ (.q (.obj c ns ds)::r.map DU) (el H0 a (.nj (G.ca c) dx (ns.zip xs))) H:={
    sub:=λb o q=>by
     by_cases m:b=a
     .subst m;rw[vB]at q;ext q;show h2
     .rw[vC m]at q;show R.sub _ _ q
    g0:=vF.refl _
    keep:=λb o q n=>q
    fr:=λb o q=>.inl q
    am:=λb q=>by ext q
    len:=by have:=R.len;exists this
    sl:=λi s q=>by
     cases i with
     |zero=>ext q;show#v[.ref a,h1,by delta df;show#v[a,dx,xs,J,vB,h5,bc.mono (vK h3 _) _ _ h6]]
     |succ i=>
      have l:(r.map DU)[i]?=U s:=q;rw[br]at l;cases q1:r[i]? with
      |none=>rw[q1]at l;cases l
      |some t=>
       rw[q1]at l;ext l;have ok:=R.sl (i+1) t q1;cases t with
       |q d=>let#v[v,g1,g2]:=ok;show#v[v,g1,df.mono (vK h3 _) _ _ g2]
       |_=>trivial
    ap:=λi j s t b n A n so=>by
     cases i with
     |zero=>ext A;cases so
     |succ i=>
      have l:(r.map DU)[i]?=U s:=A;rw[br]at l;cases q1:r[i]? with
      |none=>rw[q1]at l;cases l
      |some t=>rw[q1]at l;ext l;rw[Nu]at so;cases so }
   calc#v[_,_,_,d,y,RL,w,λv H1 p s u I=>?_];have ha:=s _ _ vB;have B:vF H0 (without H1 a):=λb o q=>by
    have m:b≠a:=λz=>by subst z;rw[h3]at q;ext q
    rw[Hr m];show s b o (by rw[vC m];show q)
   calc k v (without H1 a) p B ?_ (FJ inj hn.1 ha d v hn.2 I);calc R.gk (λb o q=>u.keep b o q (by simp)) B (λb o q=>u.sub _ _ (Ew q).2) λb o q=>?_;let#v[m,q]:=Ew q;rcases u.fr b o q with z|z
   .have C:el H0 a (.nj (G.ca c) dx (ns.zip xs)) b=U o:=z;rw[vC m]at C;show .inl C
   .show .inr z
  .ext e
 .ext e
end
#print f
section
theorem aaC(I:b? X b j H s)(e:H a=U (.dK kvs))(N:ea (kV k) u)(O:ea z r)(P:kvs.length<aS)
  (m:∀v w h,ze kvs k=U v->b? X b j H h->ea v w->Q w h) (o:∀h,ze kvs k=Z->b? X b j (el H a (.dK (iE kvs k z))) h->Q r h):
  ar (model X.prog X.w) A (call (.builtin "dict.setdefault") [.ref a,u,r]) Q E s:=by
 let#v[y,hd,i,rel,dd]:=Rq I.fb e;have M:i.length<=aS:=by rw[<-rel.length];show y
 have x:(iE kvs k z).length<=aS:=by have:=AH kvs k z;omega
 have c:=rel.val k;refine jC pH dd.typeIs F.entry_dict_setdefault (F.args_dict_setdefault_3 _ _ _) (kt_meets_setdefault (vG X.prog X.w) a (Fy N) hd r) #v[i,dd,M,λw G=>?_,λt l f C=>?_]
 .rw[G]at c;cases d:ze kvs k with
  |none=>rw[d]at c;show c.elim
  |some v=>rw[d]at c;show m v w _ d (I.zk _) c
 .rw[t]at c;cases d:ze kvs k with
  |some v=>rw[d]at c;show c.elim
  |none=>have p:∃q,l.get? a=U q:=let #v[q,_,_,B,_]:=f;#v[q,B];show o _ d (Gm I (by rw[e];show True.intro) C p (M0 x hd (rel.put k O) f))
def SE(f ty h:TE):TE:=λc H Q=>f c H λx d=>∃a,x=.ref a/\IsD d a/\ty c d λy e=>h c e λz b=>∃kvs k,b a=U (.dK kvs)/\y=kV k/\kvs.length<aS/\
 (∀v,ze kvs k=U v->Q v b)/\(ze kvs k=Z->Q z (el b a (.dK (iE kvs k z))))
theorem SF(T:PE X o td)(P:PE X e ty)(R:PE X f tx)(m:M2 X o "setdefault" apos e f cpos):PE X (.Call (.Attribute o "setdefault" apos) [e,f] [] cpos) (SE td ty tx):=by
 intro b s l H Q I h;calc mG m.a8 m.few m.line kE pH F.type_dict_setdefault (ff (T b s l H _ I h) λu s1 zz=>?_);let#v[x,r,p,rx,a,G,d,W]:=zz;subst G;obtain rfl:u=Value.ref a:=rx;let#v[t1,t2,_]:=JY p d;calc#v[t1,t2,?_];rw[m.Xn];refine je J (kl (gq (ff (P b s1 l r _ p W) λiv s2 #v[y,t,B,ry,Y]=>
  gq (ff (R b s2 l t _ B Y) λfv s3 #v[z,A,C,q,kvs,k,E,M,S,N,O]=>ig ?_))))
 subst M;show aaC C E ry q S (λv w s' i c j=>#v[v,A,c,j,N v i]) λs' i c=>#v[z,_,c,q,O i]
end
def IH(a:List ee)(dss:List aZ)(k:ee)(d:D):List ee×List aZ:=
 if Ep a k=γ then (a,dP (λc b=>if c=k then b++[d]else b) a dss)else (a++[k],dss++[[d]])
def LL:Ep c k=γ ↔ k∈c:=by delta Ep;rw[dw];show#v[λ#v[x,a,b]=>bj b▸a,λh=>#v[k,h,aI J]]
def SG{b:List ee}{a:bA}:b.length=a.length->ze (b.zip a) k=U v->∃j:Nat,b[j]?=U k/\a[j]?=U v:=by
 induction b generalizing a with
 |nil=>intro _ h;cases h
 |cons l b i=>
  intro c h;cases a with
  |nil=>cases c
  |cons m a=>
   delta ze at h;rw[fo,fT]at h;by_cases e:l=k
   .subst e;erw[decide_true]at h;ext h;show#v[0,J,J]
   .erw[e,decide_false]at h;let#v[j,d,f]:=i (by exists c) h;show#v[j+1,d,f]
def SH{a:List ee}{b:bA}:a.length=b.length->ze (a.zip b) k=Z->k∉a:=by
 induction a generalizing b with
 |nil=>intro _ _ h;cases h
 |cons i a f=>
  intro c h d;cases b with
  |nil=>cases c
  |cons j b=>
   delta ze at h;rw[fo,fT]at h;by_cases e:i=k
   .subst e;erw[decide_true]at h;ext h
   .erw[e,decide_false]at h;rcases aD.1 d with z|z
    .show e z.symm
    .show f (by exists c) h z
structure Rn(G:Bg)(F:Fr)(H0 H:Hp)(a:Addr)(ks:List ee)(dss:List aZ)(bs:List Addr):Prop where
 l0:H a=U (.dK (ks.zip (bs.map V.ref)))
 n0:H0 a=Z
 nB:F.B a=Z
 len:ks.length=bs.length
 F?:bs.length=dss.length
 nd:bs.Nodup
 kd:ks.Nodup
 each:∀(i:Nat) (b:Addr) (ds:aZ),bs[i]?=U b->dss[i]?=U ds->∃xs,H b=U (.ax xs)/\H0 b=Z/\F.B b=Z/\bc G H0 ds xs
section
def Rn.gk(g:Rn G F H0 H a ks dss bs)(hs:vF H H')(h0:vF H0 c)(d:∀b o,c b=U o->H0 b=U o\/H b=Z):Rn G F c H' a ks dss bs where
 l0:=hs _ _ g.l0
 n0:=by
  cases q:c a with
  |none=>rfl
  |some o=>
   rcases d a o q with z|z
   .rw[g.n0]at z;ext z
   .rw[g.l0]at z;ext z
 nB:=g.nB
 len:=g.len
 F?:=g.F?
 nd:=g.nd
 kd:=g.kd
 each:=λi b ds e f=>by
  let#v[xs,q1,q2,h,j]:=g.each i b ds e f;calc#v[xs,hs _ _ q1,?_,h,bc.mono h0 _ _ j];cases q:c b with
  |none=>rfl
  |some o=>
   rcases d b o q with z|z
   .rw[q2]at z;ext z
   .rw[q1]at z;ext z
def b8.still(R:b8 G F σ ρ H0 H)(no:∀s∈ρ,s.g?=δ):b8 G #v[H0,H,[]] σ ρ H0 H where
 sub:=R.sub
 g0:=vF.refl _
 keep:=λb o e z=>e
 fr:=λb o e=>.inl e
 am:=λa h=>by ext h
 len:=R.len
 sl:=λi s e=>by
  have ok:=R.sl i s e;have n:=no s (cb e);cases s with
  |un=>trivial
  |q d=>show ok
  |_=>ext n
 ap:=λi j s t b z e z so=>by rw[no s (cb e)]at so;ext so
theorem b8.touch(R:b8 G F σ ρ H0 H)(no:∀s∈ρ,s.g?=δ)(a:∀b o,H b=U o->(H0 b≠Z\/F.B b≠Z)->H' b=U o)(ha:∀b o,H b=U o->∃f,H' b=U f):b8 G F σ ρ H0 H' where
 sub:=λb o e=>a b o (R.sub _ _ e) (.inl (by rw[e];show λz=>nomatch z))
 g0:=R.g0
 keep:=λb o e n=>a b o (R.keep b o e n) (.inr (by rw[e];show λz=>nomatch z))
 fr:=R.fr
 am:=λb c=>by let#v[o,e]:=R.am b c;show ha b o e
 len:=R.len
 sl:=λi s e=>by
  have ok:=R.sl i s e;have n:=no s (cb e);cases s with
  |un=>trivial
  |q d=>show ok
  |_=>ext n
 ap:=λi j s t b u e u so=>by rw[no s (cb e)]at so;ext so
#print "D bs Addr a c f d l e;E a ee c d l e m f" in def aaϑ0{ϑ1:List ϑ2}(h:ϑ1.Nodup){i j:Nat}{b:ϑ2}(ϑ3:ϑ1[i]?=U b)(ϑ4:ϑ1[j]?=U b):i=j:=by let#v[ϑ5,ϑ6]:=bT.1 ϑ3;let#v[ϑ7,ϑ8]:=bT.1 ϑ4;show(kG h).1 (ϑ6.t ϑ8.symm)
def Rn.more(g:Rn G F w H a m dss bs){j:Nat}{k:ee}{b:Addr}{d:D}{v:V}{C:bA}(h:m[j]?=U k)(q:bs[j]?=U b)(l:H b=U (.ax C))(N:df G w d v):
  Rn G F w (el H b (.ax (C++[v]))) a (IH m dss k d).1 (IH m dss k d).2 bs:=by
 have E:=LL.2 (cb h);delta IH;rw[af E];have ne:a≠b:=λz=>by subst z;rw[g.l0]at l;ext l
 refine#v[by rw[vC ne];show g.l0,g.n0,g.nB,g.len,?_,g.nd,g.kd,λi c P p e=>?_]
 .rw[ku,<- g.F?,<- g.len,fE,g.len]
 .rw[l4]at e;cases f:m[i]? with
  |none=>rw[f]at e;cases e
  |some I=>
   cases u:dss[i]? with
   |none=>rw[f,u]at e;cases e
   |some o=>
    rw[f,u]at e;ext e;let#v[O,x,y,A,B]:=g.each i c o p u;by_cases r:I=k
    .subst r;have t:=aaE g.kd f h;subst t;rw[p]at q;ext q;rw[x]at l;ext l;rw[af J];show#v[_,vB,y,A,xn B (vS N vV)]
    .rw[ah r];have M:c≠b:=λz=>by subst z;have t:=aaD g.nd p q;subst t;rw[f]at h;ext h;show r J
     show#v[O,by rw[vC M];show x,y,A,B]
theorem Rn.fresh(g:Rn G F o H a ks dss bs)(u:k∉ks)(r:H p=Z)(E:o p=Z)(hB:F.B p=Z)(N:df G o d v):
  Rn G F o (el (el (el H p (.ax [])) a (.dK ((ks++[k]).zip ((bs++[p]).map V.ref)))) p (.ax [v])) a (IH ks dss k d).1 (IH ks dss k d).2 (bs++[p]):=by
 have I:=λz=>u (LL.1 z);delta IH;rw[ah I];have ne:a≠p:=λz=>by subst z;rw[g.l0]at r;ext r
 have A:p∉bs:=λz=>by
  let#v[i,l,e]:=jg z;have b:bs[i]?=U p:=by rw[aH l,e]
  let#v[j,f]:∃j,dss[i]?=U j:=#v[dss[i]'(by rw[<-g.F?];show l),aH _];let#v[C,h,_]:=g.each i p j b f;rw[r]at h;ext h
 refine#v[by rw[vC ne,vB],g.n0,g.nB,by simp[g.len],by simp[g.F?],?_,?_,λi c j b f=>?_]
 .rw[cq];calc#v[g.nd,by simp,λx t y m=>?_];rw[aO]at m;subst m;show λz=>A (z▸t)
 .rw[cq];calc#v[g.kd,by simp,λx t y m=>?_];rw[aO]at m;subst m;show λz=>u (z▸t)
 .by_cases l:i<bs.length
  .rw[dG l]at b;rw[dG (by rw[<-g.F?];show l)]at f;let#v[C,h,O,P,Q]:=g.each i c j b f;have w:c≠p:=λz=>A (z▸cb b);have M:c≠a:=λz=>by subst z;rw[g.l0]at h;ext h
   show#v[C,by rw[vC w,vC M,vC w];show h,O,P,Q]
  .have q:i=bs.length:=by have:=(bT.1 b).1;rw[aG,bu]at this;omega
   subst q;rw[eA (aF _),jE]at b;rw[g.F?,eA (aF _),jE]at f;ext b;ext f;show#v[[v],vB,E,hB,vS N vV]
def LM(G:Bg)(a:FE):TS:=X3 (tBM G.K "list" JV (SE (AC 1) (tF G a) (Vi GQ)) (Ak (AC 2) GQ))
def SI{X:F1}{m:V}(R:b8 G F t q M H)(no:∀s∈q,s.g?=δ)(h1:t[1]?=U (U (.ref a)))(h2:t[2]?=U (U m))(rd:df G M d m)
  (g:Rn G F M H a f dss bs) (hk:fk q=U (x,q)) (ek:Dw x=U k) (l1:f.length<1000) (l2:∀l∈dss,l.length<1000)
  (kont:∀N O Q,vF M N->b8 G F t q N O->Rn G F N O a (IH f dss k d).1 (IH f dss k d).2 Q->X.nx t O):LM G fk X t H:=by
 calc#v[.ref a,h1,a,J,.inl #v[_,.inl g.l0],_,_,_,x,q,b8.still R no,hk,λv E h s P r=>?_];have hs:=λb o e=>P.keep b o e (by simp);have hf:=P.fr;have R2:=R.gk hs s P.sub hf;have B:=g.gk hs s hf;have C:=df.mono s _ _ rd;calc#v[bM _,λp i=>?_];have np:a≠p:=λz=>by subst z;rw[B.l0]at i;ext i
 have Y:b8 G F t q E (el h p (.ax [])):=R2.gj i _;have S:Rn G F E (el h p (.ax [])) a f dss bs:=B.gk (vK i _) (vF.refl _) λb o e=>.inl e;have lz:(f.zip (bs.map V.ref)).length<aS:=by rw[fU,ak,<- g.len,fE,bH];omega
 refine#v[_,k,S.l0,BM r ek,lz,λw I=>?_,λI=>?_]
 .let#v[j,e1,u]:=SG (by rw[ak];show g.len) I;rw[br]at u;cases A:bs[j]? with
  |none=>rw[A]at u;cases u
  |some b=>
   rw[A]at u;ext u;let#v[l,ed]:∃l,dss[j]?=U l:=#v[dss[j]'(by rw[<-g.F?];show(bT.1 A).1),aH _];let#v[W,T,w2,w3,w4]:=S.each j b l A ed;have lx:W.length<aS:=by rw[<-vE w4,bH];have:=l2 l (cb ed);omega
   calc#v[.inl #v[J,W,gi.of T],m,h2,b,W,m,J,J,T,lx,?_];refine kont E _ bs s (b8.touch Y no (λc o e z=>?_) λc o e=>?_) (S.more e1 A T C)
   .have nc:c≠b:=λy=>by
     subst y;rcases z with z|z
     .show z w2
     .show z w3
    rw[vC nc];show e
   .by_cases y:c=b
    .subst y;show#v[_,vB]
    .rw[vC y];show#v[o,e]
 .have nk:=SH (by rw[ak];show g.len) I;have h0p:=R2.e? i;have hBp:=R2.gr i;have ez:iE (f.zip (bs.map V.ref)) k (.ref p)=(f++[k]).zip ((bs++[p]).map V.ref):=by rw[Rp _ I,bg,mX (by rw[ak];show g.len)];rfl
  rw[ez];have q0:el (el h p (.ax [])) a (.dK ((f++[k]).zip ((bs++[p]).map V.ref))) p=U (.ax []):=by rw[vC (λz=>np z.symm),vB]
  calc#v[.inl #v[J,[],gi.of q0],m,h2,p,[],m,J,J,q0,by rw[bH];decide,?_];refine kont E _ (bs++[p]) s (b8.touch Y no (λc o e z=>?_) λc o e=>?_) (B.fresh nk i h0p hBp C)
  .have n1:c≠p:=λy=>by
    subst y;rcases z with z|z
    .show z h0p
    .show z hBp
   have n2:c≠a:=λy=>by
    subst y;rcases z with z|z
    .show z B.n0
    .show z B.nB
   rw[bP,vC n1,vC n2];show e
  .by_cases y:c=p
   .subst y;show#v[_,vB]
   .rw[vC y];by_cases y2:c=a
    .subst y2;show#v[_,vB]
    .rw[vC y2];show#v[o,e]
end
def Ht(b:D->Option D):aZ->List ee->List aZ->Option (List ee×List aZ)
 |[],a,dss=>U (a,dss)
 |d::r,a,dss=>match b d with
  |some x=>match Dw x with
   |some k=>if (decide (a.length<1000)&&dss.all λc=>decide (c.length<1000))=γ then Ht b r (IH a dss k d).1 (IH a dss k d).2 else Z
   |none=>Z
  |none=>Z
def Nv(b:D->Option D):FS:=λc=>match c with
 |[.q (.ax L),.un,.un]=>match Ht b L [] []with
  |some (a,dss)=>U (.rt (.J a (dss.map .ax)) [.q (.ax L),.un,.un])
  |none=>Z
 |_=>Z
section
theorem FK:∀(bs:List Addr) (dss:List aZ),bs.length=dss.length->(∀(i:Nat) (b:Addr) (a:aZ),bs[i]?=U b->dss[i]?=U a->∃c,d b=U (.ax c)/\bc G d a c)->
  bc G d (dss.map .ax) (bs.map V.ref)
 |[],[],_,_=>vV
 |[],_::_,h,_=>by cases h
 |_::_,[],h,_=>by cases h
 |b::bs,a::dss,h,k=>by let#v[c,j,l]:=k 0 b a J J;show vS (AI j l) (FK bs dss (by exists h) λi b a e f=>k (i+1) b a e f)
theorem Wx(R:b8 G F σ [.q (.ax L),.un,s2] H0 H)(g:Rn G F H0 H a ks dss bs)(o:Obj):
  ∃w,vF H0 w/\b8 G F σ [.q (.ax L),.un,.un] w (el H a (.l? o (.dK (ks.zip (bs.map V.ref)))))/\df G w (.J ks (dss.map .ax)) (.ref a):=by
 have x:∀{b:Addr},b∈bs->∃xs,H b=U (.ax xs)/\H0 b=Z/\F.B b=Z:=λ{b} p=>by let#v[i,hi,e]:=jg p;let#v[xs,h,m,r,_]:=g.each i b (dss[i]'(by rw[<-g.F?];show hi)) (by rw[aH hi,e]) (aH _);show#v[xs,h,m,r]
 have na:a∉bs:=λz=>by let#v[xs,h,_]:=x z;rw[g.l0]at h;ext h
 have q:vF H0 (λc=>if c=a then U (.l? o (.dK (ks.zip (bs.map V.ref))))else if c∈bs then H c else H0 c):=λc u e=>by
  have f:c≠a:=λz=>by subst z;rw[g.n0]at e;ext e
  have l:c∉bs:=λz=>by let#v[_,_,m,_]:=x z;rw[m]at e;ext e
  change (if c=a then _ else if c∈bs then H c else H0 c)=_;rw[ah f,ah l];show e
 refine#v[_,q,?_,?_]
 .show {
   sub:=λc u e=>by
    have d:(if c=a then U (HO.l? o (.dK (ks.zip (bs.map V.ref))))else if c∈bs then H c else H0 c)=U u:=e;by_cases f:c=a
    .subst f;rw[af J]at d;rw[vB];show d
    .rw[ah f]at d;rw[vC f];by_cases l:c∈bs
     .rw[af l]at d;show d
     .rw[ah l]at d;show R.sub _ _ d
   g0:=R.g0.t q
   keep:=λc u e n=>by rw[vC (λz=>by subst z;rw[g.nB]at e;ext e)];show R.keep c u e n
   fr:=λc u e=>by
    have d:=e;by_cases f:c=a
    .subst f;show .inr g.nB
    .rw[ah f]at d;by_cases l:c∈bs
     .let#v[_,_,_,r]:=x l;show .inr r
     .rw[ah l]at d;show R.fr _ _ d
   am:=λc C=>by
    by_cases f:c=a
    .subst f;show#v[_,vB]
    .rw[vC f];show R.am c C
   len:=R.len
   sl:=λi s e=>by
    match i,e with
    |0,e=>ext e;let#v[v,h,m]:=R.sl 0 _ J;show#v[v,h,df.mono q _ _ m]
    |1,e=>ext e;trivial
    |2,e=>ext e;trivial
    |i+3,e=>ext e
   ap:=λi j s t b k e k so=>by
    match i,e with
    |0,e=>ext e;cases so
    |1,e=>ext e;cases so
    |2,e=>ext e;cases so
    |i+3,e=>cases e }
 .delta df;calc#v[a,o,bs.map V.ref,J,by change (if a=a then _ else _)=_;rw[af J],by rw[ak];show g.len,FK bs dss g.F? λi b ds y A=>?_];let#v[xs,h,m,r,I]:=g.each i b ds y A;have p:=cb y;calc#v[xs,?_,bc.mono q _ _ I];have E:b≠a:=λz=>na (by rw[<-z];show p);rw[ah E,af p];show h
def SJ{L:aZ}{b:Sl}(h:b.g?=δ):∀s∈[Sl.q (.ax L),.un,b],s.g?=δ:=λs a=>by
 erw[aD,bY,or_false]at a;rcases a with rfl|rfl|rfl
 .rfl
 .rfl
 .show h
inductive GI(G:Bg) (F:Fr) (Ha:Hp) (p:Addr) (L:aZ) (vk:D->Option D) (KS:List ee) (DSS:List aZ) (i:Nat) (σ':St) (H':Hp):Prop
 |mk (Hi:Hp) (ks:List ee) (dss:List aZ) (bs:List Addr) (s2:Sl):vF Ha Hi->Sl.g? s2=δ->b8 G F σ' [.q (.ax L),.un,s2] Hi H'->σ'[1]?=U (U (.ref p))->Rn G F Hi H' p ks dss bs->Ht vk (L.drop i) ks dss=U (KS,DSS)->GI G F Ha p L vk KS DSS i σ' H'
#print h
def Qw(h1:PS X st1 (Eb GV (Ah 1)))(h2:PS X st2 (U9 (P? G (iL (cV 0))) (Ah 2) (LM G (c1 f (cV 2)))))
  (h3:PS X st3 (tRet (λC H Q=>AC 1 C H λx I=>Q x I\/∃a kvs,I a=U (.dK kvs)/\∀o,Q x (el I a (.l? o (.dK kvs)))))):l' X [st1,st2,st3] (ke G (Nv f)):=
 l'.c3 (Bi h1 (Bi h2 (Ea h3))) λE C H hh=>by
  let#v[F,ρ,H0,o,R,e,k,k2]:=hh;delta Nv at e;split at e
  .rename_i L;cases O:Ht f L [] []with
   |none=>erw[O]at e;cases e
   |some p=>
    let#v[KS,DSS]:=p;erw[O]at e;ext e;intro p hp;have R1:=(R.gj hp (.dK [])).set (i:=1) (v:=.ref p) (s:=.un) trivial (λz=>by ext z);have t:C.length=3:=R.len;have g1:Rn G F H0 (el H p (.dK [])) p [] [] []:=#v[vB,R.e? hp,R.gr hp,J,J,iu,iu,λi b ds e1=>by ext e1];have v1:(C.set 1 (U (V.ref p)))[1]?=U (U (.ref p)):=by rw[j9 (by rw[t];decide)]
    calc#v[_,_,_,L,_,b8.still R1 (SJ J),J,λA_ M Hb s A wk=>?_];have hs:=λb o e=>A.keep b o e (by simp);have R2:=R1.gk hs s A.sub A.fr;have g2:=g1.gk hs s A.fr;refine#v[λi m w h=>m=L.length - i/\i<=L.length/\GI G F M p L f KS DSS i w h,
     #v[_,J,bM _,M,[],[],[],.un,vF.refl _,J,R2,v1,g2,O],?_]
    rintro i m d j ⟨rfl,hi,Hi,ks,dss,bs,s2,B,n2,l,vi,T,c⟩;by_cases hlt:i<L.length
    .have ed:=jb hlt;rw[ed]at c;delta Ht at c;cases S:f L[i]with
     |none=>erw[S]at c;cases c
     |some x=>
      erw[S]at c;cases P:Dw x with
      |none=>erw[P]at c;cases c
      |some kk=>
       erw[P]at c;split at c
       .rename_i W;erw[bt,bV,bF]at W;let#v[go,yl]:=(wk i Hi j B l.sub).1 L[i] (aH hlt);refine .inr #v[go,GI G F M p L f KS DSS (i+1),
         λw h q=>#v[L.length - (i+1),by omega,J,hlt,q],λu h y=>?_]
        let#v[H2,t1,t2,t3,t4,t5]:=yl u h y;have Y:d.length=3:=l.len;have R3:b8 G F (d.set 2 (U u)) [.q (.ax L),.un,.q L[i]] H2 h:=(l.gk t3 t1 t2 t4).Xi 2 t5;have w1:(d.set 2 (U u))[1]?=U (U (.ref p)):=by rw[l5 #[]];show vi
        have w2:(d.set 2 (U u))[2]?=U (U u):=by rw[j9 (by rw[Y];decide)]
        calc SI R3 (SJ J) w1 w2 t5 (T.gk t3 t1 t4) (by change c1 f (cV 2) _=_;delta c1 cV;erw[lY,List.getElem?_cons_zero,S]) P W.1 (λds hd=>W.2 ds hd) λHc Hd N sc Rc gc=>?_;show#v[Hc,_,_,N,_,B.t (t1.t sc),J,Rc,w1,gc,c]
       .ext c
    .have r:i=L.length:=by omega
     calc .inl #v[(wk i Hi j B l.sub).2 r,?_];subst r;rw[List.drop_length]at c;ext c;calc#v[.ref p,vi,.inr #v[p,_,T.l0,λo=>?_]];let#v[Hq,q1,q2,q3]:=Wx l T o;show k _ _ Hq _ (s.t (B.t q1)) q2 q3
  .ext e
end
#print f
section
variable{X:Cx}
#print "WA int;SK bool;ζ tuple" in def ϑ0:∀y b,yG "ϑ1" y=U b->c6 X.K (y.val G) (.type "ϑ1")=U b:=Hg (by kernel_rfl)
end
def Hu:entryFor table "dict_itemiterator.__iter__" = U dr.«dict_keyiterator.__iter__»:=by
 refine m8 (id':="dict_keyiterator.__iter__") ?_ J ?_ ?_
 .kernel_rfl
 .decide +kernel
 .kernel_rfl
def WB{kvs:List (ee×V)}{a:List (ee×aa)}(r:KV kvs a){i:Nat}{k:ee}{x:aa}(e:a[i]?=U (k,x)):∃z,kvs[i]?=U (k,z)/\ea z x:=by
 induction r generalizing i with
 |nil=>cases e
 |@cons p q l c h _ b=>
  cases i with
  |zero=>let#v[pk,pv]:=p;ext e;show#v[pv,by rw[show pk=k from h.1];rfl,h.2]
  |succ i=>show b e
def Iti(a:Addr)(o:Obj)(kvs:List (ee×V)):It:=
 #v[λi H=>i<kvs.length/\H a=U (.l? o (.dK kvs)),λi H v b=>∃p k z,H p=Z/\v=.ref p/\b=el H p (.bx [kV k,z])/\kvs[i]?=U (k,z),λi H=>kvs.length<=i/\H a=U (.l? o (.dK kvs))]
def iTn(d a:Addr)(o:Obj)(n:Nat)(i:Nat)(h:Heap):Prop:=∃c b ok e,o.data=.dict c b/\IsItemIter h d a i n b ok e
theorem Nw{P:bb}{w:aQ}{K:ay}{elts:List Expr}{x1}{pos:Pos}(a it:Addr)(o:Obj)(kvs:List (ee×V)):Mn P w K (.Tuple elts x1 pos) (Iti a o kvs) [it] it (iTn it a o kvs.length) where
 mem:=by simp
 obj:=λi h st b c=>by
  have e:b=it:=by exists c
  subst e;let#v[es,ep,ok,j,hd,q]:=st;show#v[_,q,λv z=>nomatch z]
 keep:=λi h h' st k=>by let#v[es,ep,ok,j,hd,q]:=st;show#v[es,ep,ok,j,hd,k it (by simp) _ q]
 item:=by
  intro X hP t hK y i pins s σ H E I l st p;subst hP t hK;let#v[hi,m]:=p;let#v[es,ep,ok,j,hd,d]:=st;let#v[_,_,vs,r,da]:=AL I m hd;have f:kvs.length=vs.length:=r.length;let#v[#v[k,x],C]:∃q,vs[i]?=U q:=#v[vs[i]'(by rw[<-f];show hi),aH _];let#v[z,hz,rz]:=WB r C;rw[f]at d;calc wpAny_pyNext_items_item d da C λkey h' hk q1 q2 q3 kk=>?_;calc#v[_,J,wpAny_letOwnedTupleGo_items (s:={ s with heap:=h' }) q1 λh2 q4 G=>?_];have lt: ~~~s≠it:=λw=>au (aM d) (by rw[w];show eF _);have B:h2.get? (~~~s)=U { cls:=.type "tuple", data:=.seq #[key,x] }:=G.extBut _ _ lt q2;have u:eu X.prog X.w (el H (~~~s) (.bx [kV k,z])) h2 (~~~s) (.bx [kV k,z]):=#v[by rw[bH];change 2<=16777216;decide,[key,x],.cons (Dk hk) (.cons rz .nil),#v[_,B,J,_,J],λo e=>by rw[show _=U _ from B]at e;ext e;rfl];have M:=b?.z? (h':=h2) (t':=s.toks) (T:= ~~~s) (xs:=[kV k,z]) (ch:=[it]) I l
   (λb o c e=>G.extBut _ _ (λw=>c (by simp[w])) (kk b o (λw=>c (by simp[w])) e)) (aF _) u
  calc#v[.ref (~~~s),_,M,J,#v[_,k,z,I.fb.fresh (aF _),J,J,hz],#v[es,ep,key,x,hd,by rw[f];show q4],λb c=>?_];rw[vC (λw=>?_)]
  .show(l b c).1
  .have e:b=it:=by exists c
   show lt (w.symm.t e)
 done:=by intro X hP t hK y i pins s σ H E I l st p;subst hP t hK;let#v[hi,m]:=p;let#v[es,ep,ok,j,hd,d]:=st;let#v[O,R,f2,S,W,Y]:=l it (by simp);let#v[_,_,vs,r,da]:=AL I m hd;have f:kvs.length=vs.length:=r.length;rw[f]at d;show wpAny_pyNext_items_end (I.ok.hd y) d da (gn (by rw[<-f];show hi)) λh' N=>#v[J,I.jl (t':=s.toks) (λb o c e=>N b o c e) O R S W Y]
 self:=λA i s Q E st h=>by let#v[es,ep,ok,j,hd,d]:=st;have hT:s.TypeIs (.ref it) "dict_itemiterator" := #v[_,d,J];calc mJ hT o8 (fS o8 hT Hu ?_ (F.args_dict_itemiterator_iter_1 _));change ar _ _ (ret (.ref it)) _ _ s;show aw #v[_,J,"dict_itemiterator", _,hT,F.slot_dict_itemiterator_next.lookup,h]
section
def SL(c:TE):TI:=λd H R=>c d H λx b=>∃a o kvs,x=.ref a/\b a=U (.l? o (.dK kvs))/\R (Iti a o kvs) b
theorem SM{o:Expr}{p:TE}{apos cpos:Pos}(B:PE X o p)(hbase:fA o "items" X.a9 (eval o X.a9)=eval o X.a9:=by rfl)(hline:(apos.endLine==cpos.line)=γ:=by rfl):
  PI X (.Tuple elts N tpos) (.Call (.Attribute o "items" apos) [] [] cpos) (SL p):=by
 intro pins s σ H R I h;calc wpAny_Call_method0_late hbase hline (ff (B pins s σ H _ I h) λv c zz=>?_);let#v[x,H1,d,r1,a,ob,kvs,e,l,q]:=zz;subst e;obtain rfl:v=Value.ref a:=r1;let#v[m,G,M]:=JY d (.inl #v[kvs,.inr #v[ob,l]]);calc#v["dict", "dict.items", kE,qv,F.type_dict_items,m,G,je J (PySem.evalArgs_none ?_)];let#v[q0,_,y,vs,r,C,es,ep,i,t,j,u]:=(show eu X.prog X.w H1 c.heap a (.l? ob (.dK kvs)) from d.fb a _ l);rw[q0]at i;ext i;have A:kvs.length=vs.length:=r.length;have da:c.heap.DictAt (vG X.prog X.w) a vs ep:=#v[ob,es,q0,t,j,u];calc jC qv m F.entry_dict_items (F.args_dict_items_1 _) (meets_dict_items (vG X.prog X.w) a y) #v[#v[vs,da.dictOf],?_];have f:b? X pins σ H1 { c with heap:=c.heap.push { cls:=.type "dict_items", data:=.fields #[.ref a] } }:=d.f? (t':=c.toks) λb o e=>aJ _ e;calc wpAny_pyIter_items (knd:=vG X.prog X.w) (kvs:=vs) (ep:=ep) #v[_,bq _ J,J,J] (da.push _) ?_;calc#v[_,[_],_,_,H1,J,f.f? (t':=c.toks) λb o e=>aJ _ e,Nw a _ ob kvs,#v[es,ep,.none,.none,j,by rw[A];show bq _ J],λb z=>?_,q];have e:=aO.1 z;subst e;show f.L? (aF _) (f.fb.fresh (aF _))
def iIt(f:FE):FA:=λd=>match f d with
 |some (.J c b,a)=>U (Eu (c.map Nt) b,a)
 |_=>Z
#print h
def Qx{tg e:Expr}{f:FE}(h:PI X tg e (SL (tF G f))):PI X tg e (P? G (iIt f)):=PI.c3 h λσ H R hh=>by
 let#v[F,ρ,H0,ds,ρ',R,e,k]:=hh;delta iIt at e;split at e
 .rename_i B u ρ1 e1;ext e;calc#v[F,ρ,H0,_,_,R,e1,λv H1 H1' s O r=>?_];delta df at r;let#v[a,o,xs,rfl,N,W,Y]:=r;have Q:(B.zip xs).length=B.length:=by rw[fU,<- W,fE]
  have lx:xs.length=u.length:=(vE Y).symm;refine#v[a,o,_,J,O.sub _ _ N,k _ _ _ s O λi E H2' t C=>#v[λd c=>?_,λhl=>?_]]
  .delta Eu at c;rw[l4,br]at c;cases w:B[i]? with
   |none=>rw[w]at c;cases c
   |some j=>
    cases I:u[i]? with
    |none=>rw[w,I]at c;cases c
    |some dy=>
     rw[w,I]at c;ext c;have hi:i<B.length:=(bT.1 w).1;let#v[vy,y1,y2]:=xD Y I;calc#v[#v[by rw[Q];show hi,C _ _ (t _ _ N)],λx H3 y=>?_];let#v[p,S,z,M,rfl,rfl,l]:=y;rw[pf]at l;have a1:=l.1;have P:=l.2;rw[w]at a1;rw[y1]at P;ext a1;ext P;have T:E p=Z:=by
      cases q:E p with
      |none=>rfl
      |some o=>have:=C _ _ q;rw[M]at this;ext this
     refine#v[el E p (.bx [kV S,z]),vK T _,λb o e=>?_,vK M _,λb o e=>?_,zT (fl.of vB) ?_]
     .by_cases A:b=p
      .subst A;rw[vB]at e ⊢;show e
      .rw[vC A]at e ⊢;show C _ _ e
     .by_cases A:b=p
      .subst A;show .inr M
      .rw[vC A]at e;show .inl e
     .have m:=t.t (vK T (.bx [kV S,z]));show vS (OP _) (vS (df.mono m _ _ y2) vV)
  .refine#v[by rw[Q,hl,LJ,ak,<- lx,<- W,fE];show aF _,C _ _ (t _ _ N)]
 .ext e
end
#print f
def T'(F:Fr)(p:Addr)(o:HO):Fr:=#v[F.B0,λb=>if b=p then U o else F.B b,F.A]
def Gy:(T' F p o).B p=U o:=by change (if p=p then _ else _)=_;rw[af J]
theorem Dl(h:b≠p):(T' F p o).B b=F.B b:=by change (if b=p then _ else _)=_;rw[ah h]
theorem DO.frame{m:Fr}(h:DO G F r H o s)(hA:m.A=F.A)(hB:∀a,o=U (.ref a)->s.g?=γ->F.B a=Z->m.B a=Z):DO G m r H o s:=by
 cases s with
 |un=>trivial
 |q d=>show h
 |I p=>let#v[a,l,b,e,f,i,j]:=h;show#v[a,l,b,e,f,hB a b J i,j]
 |pm p=>let#v[a,l,b,e,f,i,j]:=h;show#v[a,l,b,e,f,by rw[hA];show i,j]
 |dk u p=>let#v[a,l,b,e,f,i,j,q]:=h;show#v[a,l,b,e,f,hB a b J i,j,q]
 |ob c w p=>let#v[a,t,l,b,e,f,i,j,q]:=h;show#v[a,t,l,b,e,f,by rw[hA];show i,j,q]
section
theorem b8.T'(R:b8 G F σ ρ H0 H)(c:H p=Z)(o:HO):b8 G (L4.T' F p o) σ ρ H0 (el H p o) where
 sub:=(R.gj c o).sub
 g0:=R.g0
 keep:=λb u e n=>by
  by_cases d:b=p
  .subst d;rw[Gy]at e;rw[vB];show e
  .rw[Dl d]at e;show(R.gj c o).keep b u e n
 fr:=λb u e=>by
  have d:b≠p:=λz=>by subst z;rw[R.e? c]at e;ext e
  rw[Dl d];show R.fr b u e
 am:=(R.gj c o).am
 len:=R.len
 sl:=λi s e=>by calc DO.frame ((R.gj c o).sl i s e) J λa h1 so hB=>?_;let#v[f,u,q1,q2,_]:=(R.sl i s e).at so;rw[h1]at q1;ext q1;rw[Dl (λz=>by subst z;rw[c]at q2;ext q2)];show hB
 ap:=R.ap
theorem b8.J?(R:b8 G (L4.T' F p o) σ ρ H0 H)(hB:F.B p=Z):b8 G F σ ρ H0 H where
 sub:=R.sub
 g0:=R.g0
 keep:=λb u e n=>R.keep b u (by rw[Dl (λz=>by subst z;rw[hB]at e;ext e)];show e) n
 fr:=λb u e=>by
  rcases R.fr b u e with z|z
  .show .inl z
  .by_cases c:b=p
   .subst c;show .inr hB
   .rw[Dl c]at z;show .inr z
 am:=R.am
 len:=R.len
 sl:=λi s e=>DO.frame (R.sl i s e) J λa h1 so q=>by
  by_cases c:a=p
  .subst c;show hB
  .rw[Dl c]at q;show q
 ap:=R.ap
theorem b8.layHeld(R:b8 G (L4.T' F p o) σ ρ H0 H)(hB:F.B p=Z)(h0:H0 p=Z)(nA:p∉F.A)(u:HO):b8 G F σ ρ (el H0 p u) (el H p u) where
 sub:=λb v e=>by
  by_cases c:b=p
  .subst c;rw[vB]at e ⊢;show e
  .rw[vC c]at e ⊢;show R.sub _ _ e
 g0:=(b8.J? R hB).g0.t (vK h0 u)
 keep:=λb v e n=>by rw[vC (λz=>by subst z;rw[hB]at e;ext e)];show(b8.J? R hB).keep b v e n
 fr:=λb v e=>by
  by_cases c:b=p
  .subst c;show .inr hB
  .rw[vC c]at e;show(b8.J? R hB).fr _ _ e
 am:=λb c=>by
  have d:b≠p:=λz=>by subst z;show nA c
  rw[vC d];show R.am b c
 len:=R.len
 sl:=λj t e=>by
  have ne:∀a,(σ[j]?).join=U (.ref a)->t.g?=γ->a≠p:=λa z to y=>by
   subst y;let#v[h,v,q1,_,_,f]:=(R.sl j t e).at to;rw[z]at q1;ext q1;rcases f with q|q
   .rw[Gy]at q;ext q
   .show nA q
  refine((b8.J? R hB).sl j t e).gk (vK h0 u) (λa v z to q=>?_) λa v z to q q0=>?_
  .rw[vC (ne a z to)];show q
  .rw[vC (ne a z to)];show q0
 ap:=R.ap
def zm:List (Str×FE)->aU->Option (aZ×aU)
 |[],a=>U ([],a)
 |(_,f)::r,a=>match f a with
  |some (d,b)=>match zm r b with
   |some (e,c)=>U (d::e,c)
   |none=>Z
  |none=>Z
def SN(G:Bg)(kfs:List (Str×FE)):List (TE×TE):=kfs.map λq=>(tC (.str q.1),tF G q.2)
theorem LN:∀(kfs:List (Str×FE)) (i b:aU) (l:aZ) (h H:Hp) (Q:List (V×V)->Hp->Prop),b8 G F y i h H->zm kfs i=U (l,b)->
  (∀m j a,vF h j->b8 G F y b j a->bc G j l m->Q (dP (λk v=>(V.str k,v)) (kfs.map (·.1)) m) a)->JX (SN G kfs) y H Q
 |[],i,b,l,h,H,Q,R,e,k=>by ext e;show k [] h H (vF.refl _) R vV
 |(x,f)::r,i,b,l,h,H,Q,R,e,k=>by
  delta zm at e;cases t:f i with
  |none=>erw[t]at e;cases e
  |some q=>
   let#v[d,c]:=q;erw[t]at e;cases u:zm r c with
   |none=>erw[u]at e;cases e
   |some q=>let#v[p,C]:=q;erw[u]at e;ext e;calc#v[F,i,h,d,c,R,t,λv j a s A B=>?_];show LN r c _ p j a _ A u λm z o w R2 rs=>k (v::m) z o (s.t w) R2 (vS (df.mono w _ _ B) rs)
theorem LO:∀(more acc:List (ee×V)),((acc++more).map (·.1)).Nodup->Cs acc more=acc++more
 |[],acc,_=>by rw[bD];rfl
 |q::r,acc,h=>by
  have d:(acc.any λc=>decide (c.1=q.1))=δ:=by rw[jq];intro z;let#v[y,b,a]:=dw.1 z;rw[bg,cq]at h;show h.2.2 y.1 (cc b) q.1 (cc aP) (bj a)
  have e:iE acc q.1 q.2=acc++[q]:=by delta iE;rw[d];rfl
  change Cs (iE acc q.1 q.2) r=_;rw[e,LO r (acc++[q]) (by exists h)];simp
def Qy:el (el H p x) p y=el H p y:=by
 funext b
 by_cases a:b=p
 .subst a;rw[vB,vB]
 .rw[vC a,vC a,vC a]
def Ci(kfs:List (Str×FE)):FE:=λc=>match zm kfs c with
 |some (b,a)=>U (.J (kfs.map λq=>Sum.inr q.1) b,a)
 |none=>Z
theorem Hv:∀{kfs:List (Str×FE)} {c a:aU} {b:aZ},zm kfs c=U (b,a)->b.length=kfs.length
 |[],c,a,b,e=>by ext e;rfl
 |(x,f)::r,c,a,b,e=>by
  delta zm at e;cases j:f c with
  |none=>erw[j]at e;cases e
  |some q=>
   let#v[d,i]:=q;erw[j]at e;cases h:zm r i with
   |none=>erw[h]at e;cases e
   |some q=>let#v[l,m]:=q;erw[h]at e;ext e;rw[aK,aK,Hv h]
theorem LP:∀(a:aC) (b:bA),dP (λk v=>(V.str k,v)) a b=((a.map λk=>(Sum.inr k:ee)).zip b).map λc=>(kV c.1,c.2)
 |[],b=>rfl
 |k::a,[]=>rfl
 |k::a,v::b=>by change (V.str k,v)::_=_;rw[LP a b];rfl
theorem OQ(h:PE X e (Rt (SN G kfs)))(y:(kfs.map λq=>(Sum.inr q.1:ee)).Nodup)(l:kfs.length<=15):PE X e (tF G (Ci kfs)):=PE.c3 (PE.ghost h) λN H Q w=>by
 let#v[F,o,r,d,I,R,e,k]:=w;delta Ci at e;cases a:zm kfs o with
 |none=>erw[a]at e;cases e
 |some q=>
  let#v[t,M]:=q;erw[a]at e;ext e;intro p b;have hB:F.B p=Z:=R.gr b;have nA:p∉F.A:=λz=>by let#v[u,q]:=R.am p z;rw[b]at q;ext q
  calc LN kfs o _ t r _ _ (b8.T' R b (.dK [])) a λc m f s i rs=>?_;have E:f p=U (.dK []):=i.keep p _ Gy nA;have j:m p=Z:=by
   cases q:m p with
   |none=>rfl
   |some u=>
    rcases i.fr p u q with z|z
    .have:=R.g0 _ _ z;rw[R.e? b]at this;ext this
    .rw[Gy]at z;ext z
  have lv:(kfs.map λq=>(Sum.inr q.1:ee)).length=c.length:=by rw[ak,<- Hv a,vE rs]
  have x:(((kfs.map λq=>(Sum.inr q.1:ee)).zip c).map (·.1))=kfs.map λq=>(Sum.inr q.1:ee):=qK (by rw[lv];show aF _)
  refine#v[E,(kfs.map λq=>(Sum.inr q.1:ee)).zip c,?_,?_,.inr #v[p,_,vB,λC=>?_]]
  .rw[LP,aT];rfl
  .rw[fU,<- lv,fE,ak];show l
  .rw[Qy,LO _ [] (by rw[bP,x];show y),bP];calc k _ _ _ (s.t (vK j _)) (b8.layHeld i hB j nA _) ?_;delta df;show#v[p,C,c,J,vB,lv,bc.mono (vK j _) _ _ rs]
end
inductive IspL(G:Bg) (g:aZ->aZ->Option (D×aZ)) (vs:bA) (H:Hp) (Q:VK) (E:XK):Prop
 |i (a:Addr) (us:bA) (h0:vs=us++[.ref a]) (h1:spM G g (.ref a::us) H Q E):IspL G g vs H Q E
def t6(G:Bg)(g:aZ->aZ->Option (D×aZ)):Sp:=λa H Q E=>IspL G g a H Q E
def K?(n:Nat)(a ds:aZ):aU:=ds.map Sl.q++.pm a::gK (n - ds.length - 1) .un
def Nx(i:Nat)(b:aU):Option aZ:=match b[i]? with
 |some (.pm a)=>U a
 |_=>Z
def vx(b n:Nat)(f:FS):aZ->aZ->Option (D×aZ):=λh e=>if e.length=b then match f (K? n h e)with
 |some (.rt d c)=>match Nx b c with
  |some a=>U (d,a)
  |none=>Z
 |some (.rn i c)=>match Nx b c with
  |some a=>U (.ax i,a)
  |none=>Z
 |_=>Z
 else Z
#print h
def Jo(h:Nx i b=U a):b[i]?=U (.pm a):=by
 delta Nx at h;split at h
 .rename_i e;ext h;show e
 .ext h
def LQ(h:vx c n f j i=U (d,es')):i.length=c/\((∃a,f (K? n j i)=U (.rt d a)/\a[c]?=U (.pm es'))\/∃l a,f (K? n j i)=U (.rn l a)/\a[c]?=U (.pm es')/\d=.ax l):=by
 delta vx at h;split at h
 .rename_i m;calc#v[m,?_];split at h
  .rename_i x a e;cases b:Nx c a with
   |none=>erw[b]at h;cases h
   |some q=>erw[b]at h;ext h;show .inl #v[a,e,Jo b]
  .rename_i x a e;cases b:Nx c a with
   |none=>erw[b]at h;cases h
   |some q=>erw[b]at h;ext h;show .inr #v[x,a,e,Jo b,J]
  .ext h
 .ext h
#print f
def J9(h:(K? n c a)[i]?=U t):(i=a.length/\t=.pm c)\/t=.un\/∃d,a[i]?=U d/\t=.q d:=by
 delta K? at h;by_cases b:i<a.length
 .rw[dG (by exists b),br,aH b]at h;ext h;show .inr (.inr #v[_,aH b,J])
 .rw[eA (by exists b),ak]at h;cases q:i - a.length with
  |zero=>rw[q]at h;ext h;show .inl #v[by omega,J]
  |succ m=>
   rw[q,lY,jc]at h;split at h
   .ext h;show .inr (.inl J)
   .ext h
section
def WC{N:aC}(ha:H a=U (.ax xs))(h0:H0 a=Z)(s:vF H0 H)(r1:bc G H0 es xs)(r:bc G H0 ds us)(hN:us.length+1<=N.length):b8 G #v[H0,H,[a]] (L2.start N (us++[.ref a])) (K? N.length es ds) H0 H:={
  sub:=s
  g0:=vF.refl _
  keep:=λb o e z=>e
  fr:=λb o e=>.inl e
  am:=λb f=>by rw[aO]at f;subst f;show#v[_,ha]
  len:=by delta L2.start K?;erw[aG,ak,cW,aK,dA];have:=vE r;omega
  sl:=λi t e=>by
   rcases J9 e with ⟨rfl,rfl⟩|rfl|⟨d,l,rfl⟩
   .show#v[a,xs,zj (by rw[vE r,eA (aF _),jE];rfl),ha,h0,aO.2 J,r1]
   .trivial
   .let#v[v,c,m]:=xD r l;show#v[v,zj (by rw[dG (bT.1 c).1];show c),m]
  ap:=λi j t u b hij p q ht h=>by
   rcases J9 p with ⟨rfl,rfl⟩|rfl|⟨_,_,rfl⟩
   .rcases J9 q with ⟨rfl,rfl⟩|rfl|⟨_,_,rfl⟩
    .show au J hij
    .ext h
    .ext h
   .ext ht
   .cases ht }
def WD{N:aC}(hN:A+1<=N.length)(h:t6 G (vx A N.length f) vs H Q E):ke G f { nx:=λg m=>Q .cx m,rt:=Q } (L2.start N vs) H:=by
 let#v[a,us,rfl,b,us',xs,x,es,ds,d,y,M,S,P,s,r1,r,e,k]:=h;ext M;let#v[W,q]:=LQ e;have R:=WC (N:=N) S P s r1 r (by rw[<-vE r,W];show hN);have fin:∀{v:V} {l:St} {w:aU} {c m:Hp},vF x c->b8 G #v[x,H,[a]] l w c m->w[A]?=U (.pm y)->df G c d v->Q v m:=λu i t B=>by let#v[F,C,q1,Y,q3,q4,q5]:=i.sl A _ t;have O:F=a:=aO.1 q4;subst O;show k _ C _ _ u i.sub (λb o e n=>i.keep b o e (λz=>n (aO.1 z))) i.fr q3 Y q5 B
 rcases q with ⟨ρ,q,t⟩|⟨zs,ρ,q,t,rfl⟩
 .show#v[_,_,x,_,R,q,λv l c m u i B=>fin u i t B,λg=>J]
 .calc#v[_,_,x,_,R,q,λp C l c m u i X j T I rs=>?_,λg=>J];show fin (u.t (vK j _)) (i.n? X j T I) t (AI vB (bc.mono (vK j _) _ _ rs))
def ad9(f:∀e c d,g e c=U d->c.length=i):∀b H Q E,t6 G g b H Q E->b.length=i+1:=λb H Q E h=>by let#v[a,j,rfl,h]:=h;have:=Yj f _ _ _ _ h;rw[aG];show this
def WE:∀b a d,vx e n f b a=U d->a.length=e:=λz z d h=>(LQ (d:=d.1) (es':=d.2) h).1
inductive Yp(G:Bg) (i:Nat) (a:FA) (σ:St) (H:Hp) (Q:(bA->Hp->Prop)):Prop
 |i (F ρ H0 ds ρ' es) (h0:b8 G F σ ρ H0 H) (h1:a ρ=U (ds,ρ')) (h2:xh ρ' i=U es) (h3:∀xs b H0' H',vF H0 H0'->b8 G F σ ρ' H0' H'->bc G H0' ds xs->σ[i]?=U (U (.ref b))->Q (xs++[.ref b]) H'):Yp G i a σ H Q
def DV(G:Bg)(i:Nat)(a:FA):TA:=λb H Q=>Yp G i a b H Q
def SO(h:PE X e (AC i))(f:aE [e] X.a9=[(δ,eval e X.a9)]:=by rfl):PA X [e] (DV G i vH):=PA.c3 (xf h zO f) λr H Q d=>by let#v[F,q,l,m,j,o,R,e,c,k]:=d;ext e;let#v[b,p,a,_]:=ye R c;show#v[.ref b,a,k [] b _ _ (vF.refl _) R vV a]
def Qz(y:PE X e (tF G f))(A:PA X a (DV G i g))(B:aE (e::a) X.a9=(δ,eval e X.a9)::aE a X.a9:=by rfl):PA X (e::a) (DV G i (ab f g)):=PA.c3 (xf y A B) λO H Q z=>by let#v[F,I,l,d,h,a,R,e,w,k]:=z;let#v[x,r,c,t,u,rfl]:=G5 e;show#v[F,I,l,x,c,R,t,λv m o s q C=>#v[F,c,m,r,h,a,q,u,w,λN b M p j R2 rs E=>k _ _ _ _ (s.t j) R2 (vS (df.mono j _ _ C) rs) E]]
def xE(g:aZ->aZ->Option (D×aZ))(i:Nat)(a:FA):FE:=λh=>match a h with
 |some (e,b)=>match xh b i with
  |some f=>match g f e with
   |some (d,c)=>U (d,putAt b i c)
   |none=>Z
  |none=>Z
 |none=>Z
def WG(h:PE X e (zI (t6 G g) [] E (DV G i a))):PE X e (tF G (xE g i a)):=PE.c3 h λσ H Q P=>by
 let#v[F,y,z,d,ρ',R,e,k]:=P;delta xE at e;rcases vW (f:=a) (ρ:=y)with r|⟨p,l,r⟩<;>erw[r]at e
 .ext e
 .cases m:xh l i with
  |none=>erw[m]at e;cases e
  |some u=>
   erw[m]at e;cases t:g u p with
   |none=>erw[t]at e;cases e
   |some q=>let#v[d1,w]:=q;erw[t]at e;ext e;calc#v[F,y,z,p,l,u,R,r,m,λM b A N s o rs B=>?_];let#v[s,c,j]:=yw m;let#v[b',x,C,S,T,W]:=(o.sl i s c).ax j;rw[yc C]at B;ext B;calc#v[b,M,bD _,b,M,x,A,u,p,d,w,J,S,T,o.sub,W,rs,t,λv zs H2 O I Y u3 fr w0 w1 w2 w3=>?_];calc k _ _ _ (vF.t ‹vF z A› I) ?_ w3;delta putAt;rw[c];show o.call1 c j C I Y u3 fr w0 w1 w2
def WH(D:AJ X.prog X.w X.K X.mg X.a8 k x u (t6 G g))(r:xi k X.A)(m:PA X (e::b) (DV G i a))(q:Gl X x:=by rfl)(c:(x==("__debug__" : Str))=δ:=by decide)(o:aE (e::b) X.a9=(δ,eval e X.a9)::aE b X.a9:=by rfl)(hpl:(bJ pos (aE b X.a9)).any (·.1)=δ:=by rfl):
  PE X (.Call (.Name x p) (e::b) [] pos) (tF G (xE g i a)):=by
 let#v[f,t,d,h,j,l]:=D;show WG (Gj (p:=p) (pos:=pos) l r q d h j .nil Eg m c o hpl)
def DW(i:Nat)(f:FE):FE:=λc=>match xh c i with
 |some _=>match f c with
  |some (.int k,a)=>match xh a i with
   |some b=>if 0<=k then match b[k.toNat]? with
    |some d=>if k<1000000 then U (d,putAt a i (b.eraseIdx k.toNat))else Z
    |none=>Z
    else Z
   |none=>Z
  |_=>Z
 |none=>Z
theorem Hw:∀{H:Hp} {b:aZ} {a:bA} (n:Nat),bc G H b a->bc G H (b.eraseIdx n) (a.eraseIdx n)
 |H,[],a,n,h=>by delta bc at h;subst h;show vV
 |H,d::b,a,0,h=>by let#v[v,r,rfl,e,c]:=An h;show c
 |H,d::b,a,n+1,h=>by let#v[v,r,rfl,e,c]:=An h;show vS e (Hw n c)
#print h
def SQ(h:PE X e (tBM G.K "list" MZ (AC i) (t7 G (ab f vH)))):PE X e (tF G (DW i f)):=PE.c3 h λσ H Q E=>by
 let#v[F,u,w,d,W,R,e,k]:=E;delta DW at e;cases c:xh u i with
 |none=>erw[c]at e;cases e
 |some B=>
  erw[c]at e;split at e
  .rename_i n b C;cases j:xh b i with
   |none=>erw[j]at e;cases e
   |some A=>
    erw[j]at e;split at e
    .rename_i I;cases l:A[n.toNat]? with
     |none=>erw[l]at e;cases e
     |some d'=>
      erw[l]at e;split at e
      .rename_i hb;ext e;let#v[a,S,p,N,s3,_]:=ye R c;calc#v[.ref a,p,.inl #v[J,S,gi.of N],F,u,w,[.int n],b,R,by delta ab;rw[C];rfl,λys Y x s z rs=>?_];let#v[v,r0,rfl,m,M]:=An rs;cases BH M;have m:_=_:=m;subst m;let#v[a',o,q,O,r,P]:=ye z j;rw[p]at q;ext q;let#v[y,t,T]:=xD r l;have hlt:=(bT.1 t).1;show#v[a,o,n,n.toNat,y,J,J,O,by omega,by omega,nX I (),t,k _ _ _ s (P _ _ (Hw _ r)) T]
      .ext e
    .ext e
  .ext e
end
#print f
section
variable{K:ay}{st:Stmt}
theorem aea(e:g=vx m n b)(i:a.length=m+1)(hN:N.length=n)(F:W? K x qual st f d)(S:xm N a (vP st))(body:∀(cdv:aa) (A:bo) (b9:List Env) (s:aq) (H:Hp) (E:XK),xi k (A.deeper (envOfC qual (vP st) (~~~s) f cdv))->l' (En P w K l a8 N qual st f cdv A b9 s H E) (wb st) (ke G b)):
  zh P w K l a8 Dv (k+1) f d a (t6 G g):=by
 subst e hN;calc F.ok S (λc H Q E h=>?_) λcdv A b9 s H c Q E j h=>#v[_,body cdv A b9 s H E j,WD (by have:=aX cN S.pre;rw[cf]at this;omega) h];rw[i];show ad9 WE c H Q E h
end
end L4
namespace L4
open PySem PySem.Spec PySem.Calls PyProof.Rows PySem.W L2 L3
def w9{b:Type}(c:Nat->Nat->Bool):KasT b->b
 |.ret a=>a
 |.ask i j k=>w9 c (k (c i j))
def Aq{c:Type}(P:Nat->Nat->Prop)(R:c->Prop):KasT c->Prop
 |.ret a=>R a
 |.ask i j k=>P i j/\∀b,Aq P R (k b)
theorem Aq.run{b:Type}{P:Nat->Nat->Prop}{R:b->Prop}(c:Nat->Nat->Bool):∀(t:KasT b),Aq P R t->R (w9 c t)
 |.ret a,h=>h
 |.ask i j k,h=>Aq.run c (k (c i j)) (h.2 (c i j))
theorem Aq.bind{c e:Type}{P:Nat->Nat->Prop}{R:c->Prop}{S:e->Prop}{f:c->KasT e}(d:∀a,R a->Aq P S (f a)):∀{t:KasT c},Aq P R t->Aq P S (t.bind f)
 |.ret a,h=>d a h
 |.ask i j k,h=>#v[h.1,λb=>Aq.bind d (h.2 b)]
theorem OR{b:Type}{cmp:Nat->Nat->(Bool->aq->Prop)->aq->Prop}{c:Nat->Nat->Bool}{P:Nat->Nat->Prop}{s:aq}{Q:b->aq->Prop}(d:∀i j C,P i j->C (c i j) s->cmp i j C s):
  ∀{R:b->Prop} {t:KasT b},Aq P R t->Q (w9 c t) s->t.kasWp cmp Q s
 |R,.ret a,_,q=>q
 |R,.ask i j k,h,q=>d i j _ h.1 (OR d (h.2 (c i j)) q)
def wC(n:Nat)(p:Array Nat):Prop:=p.toList.Perm (bh n)
#print h
theorem wC.getD(h:wC n p)(a:0<n)(i:Nat):p.getD i 0<n:=by
 delta Array.getD;split
 .rename_i b;have:p[i]∈p.toList:=by simp
  show bR.1 (h.mem_iff.1 this)
 .show a
#print f
def wC.rev(h:wC n p)(i j:Nat):wC n (fI p i j):=by show(pd.1 (foldl_swaps_perm _ _ _ _)).t h
def wC.bub(h:wC n p)(i j:Nat):wC n (bubble p i j):=(pd.1 (bubble_perm _ _ _)).t h
abbrev In2(n:Nat):Nat->Nat->Prop:=λi j=>i<n/\j<n
theorem Ka(a:0<n)(h:wC n p):∀f k,Aq (In2 n) (λz=>True) (dU p f k)
 |0,k=>trivial
 |f+1,k=>#v[#v[h.getD a _,h.getD a _],λb=>by ext b<;>first|show trivial|show Ka a h f (k+1)]
theorem Ex(a:0<n):∀f (p:Array Nat) k q,wC n p->Aq (In2 n) (λr=>wC n r.1) (iJ f p k q)
 |0,p,k,q,h=>h
 |f+1,p,k,q,h=>#v[#v[h.getD a _,h.getD a _],λb=>by
   cases b with
   |true=>
    split
    .show Ex a f _ _ _ (h.rev _ _)
    .show Ex a f _ _ _ h
   |false=>
    calc#v[#v[h.getD a _,h.getD a _],λd=>?_];cases d with
    |true=>show h
    |false=>show Ex a f _ _ _ h]
def LR(b:0<n)(h:wC n p)(k m:Nat):Aq (In2 n) (λr=>wC n r.2) (gW k m p):=
 Aq.bind (S:=λ(r:Nat×Array Nat)=>wC n r.2) (f:=λm=>.ret (m,fI p 0 k)) (λa z=>h.rev 0 k) (Ka b (h.rev 0 k) _ _)
def Ey(a:0<n)(h:wC n p)(k m:Nat):Aq (In2 n) (λr=>wC n r.2) (fW k m p):=
 Aq.bind (λr b=>by
  split
  .show LR a (b.rev _ _) _ _
  .show LR a b _ _) (Ex a _ p _ _ h)
def Jp(a:0<n)(h:wC n p)(m:Nat):Aq (In2 n) (λr=>wC n r.2) (fH m p):=
 Aq.bind (λk z=>by
  split
  .show h
  .split
   .calc#v[#v[h.getD a _,h.getD a _],λb=>?_];cases b with
    |true=>show h
    |false=>show Ey a (h.rev _ _) _ _
   .show Ey a h _ _) (Ka a h _ _)
theorem Fc(a:0<n)(h:wC n p)(k:Nat):∀f l r,Aq (In2 n) (λz=>True) (iG p k f l r)
 |0,l,r=>trivial
 |f+1,l,r=>by
  delta iG;split
  .trivial
  .calc#v[#v[h.getD a _,h.getD a _],λb=>?_];cases b with
   |true=>show Fc a h k f _ _
   |false=>show Fc a h k f _ _
theorem OS(a:0<n):∀f (p:Array Nat) k,wC n p->Aq (In2 n) (wC n) (kas_bin f p k)
 |0,p,k,h=>h
 |f+1,p,k,h=>Aq.bind (λl z=>OS a f _ _ (h.bub _ _)) (Fc a h k _ _ _)
def EA(a:0<n):Aq (In2 n) (wC n) (gY n):=
 Aq.bind (λr b=>by
  split
  .show OS a _ _ _ b
  .show b) (Jp a (by delta wC;show kQ _) n)
def AM(a:Addr)(h c:Heap):Prop:=∀b o,b≠a->h.get? b=U o->c.get? b=U o
section
def DA(c:Nat->Nat->Bool)(a:List aa):List aa:=(w9 c (gY a.length)).toList.map λi=>a.getD i Value.none
def SR(c:Nat->Nat->Bool)(a:List aa)(h:0<a.length):(DA c a).length=a.length:=by delta DA;rw[ak];have:=(EA h).run c _;rw[this.length_eq,cG]
def SU(c:Nat->Nat->Bool)(v:aa):DA c [v]=[v]:=rfl
def LS{vs:List aa}(H:s.heap.get? a=U (seqObj "list" vs.toArray n))(h1:0<vs.length)(u:vs.length<64)
  (S:∀(h':Heap) (C:SortKind->aq->Prop),AM a s.heap h'->C κ { s with heap:=h' }->ar (model prog w) A (keyKind' vs.toArray) C (λg g=>False) { s with heap:=h' })
  (R:∀(h':Heap) (i j:Nat) (C:Bool->aq->Prop),AM a s.heap h'->i<vs.length/\j<vs.length->C (c i j) { s with heap:=h' }->jO prog w A κ vs i j C { s with heap:=h' })
  (h:∀h' e,AM a s.heap h'->h'.get? a=U (seqObj "list" (DA c vs).toArray e)->P (.done (.ret .none)) { s with heap:=h' }):
  ar (model prog w) A (dr.«list.sort» #v[[.ref a],[]]) P E s:=by
 let#v[t,N]:∃t,(s.heap.update a (c4 λg=>([].toArray:Array aa))).get? a=U (seqObj "list" [].toArray t):=#v[_,qV H λg=>[].toArray];generalize I:((s.heap.update a (c4 λg=>([].toArray:Array aa))).push (seqObj "tuple" vs.toArray 0)).push (seqObj "list" [].toArray 0)=h3;have M:AM a s.heap h3:=λb o m q=>by rw[<-I];show aJ _ (aJ _ ((gm s.heap _ (b0 m)).t q))
 have l:h3.get? a=U (seqObj "list" [].toArray t):=by rw[<-I];show aJ _ (aJ _ N)
 rw[list_sort_plain];calc aj (listItems_at H J (aj (nD H J ?_ (by rw[bG,bH];omega) (bM _))));calc aj (nY N J (aj (rD ?_ (by change vs.length<=_;rw[bH];omega))));calc aj (kU (cA ?_) (bM _));rw[I];let#v[c2,B]:∃c2,(h3.update a (c4 λg=>(DA c vs).toArray)).get? a=U (seqObj "list" (DA c vs).toArray c2):=#v[_,qV l λg=>(DA c vs).toArray];have fin:=h _ c2 (λb o m q=>(gm h3 _ (b0 m)).t (M b o m q)) B;have szo:(DA c vs).toArray.size<=aS+1:=by rw[bG,SR c vs h1,bH];omega
 by_cases h2:2<=vs.length
 .have f:¬vs.toArray.size<2:=by rw[bG];omega
  rw[ah f,ah f];calc aj (cB (S h3 (λk s'=>k=κ/\s'={ s with heap:=h3 }) M #v[J,J]) ?_ λg g x=>x.elim);rintro k s' ⟨rfl,rfl⟩;refine aj (cB (kat_run (Q:=λd s'=>s'={ s with heap:=h3 }/\(arrOf d).map (·.2)=(DA c vs).toArray/\failedOf d=Z) (G:=λp s'=>p=w9 c (gY vs.length)/\s'={ s with heap:=h3 }) J h2 u ?_ ?_) ?_ λg g e=>e)
  .rintro p d s' _ har F ⟨rfl,rfl⟩;show#v[J,kat_snds J har,F]
  .show OR (λi j C q r=>R h3 i j C M q r) (EA h1) #v[J,J]
  .rintro⟨⟨⟩,d⟩ s' ⟨rfl,z,F⟩;calc aj (nY l J ?_);rw[z,F];calc aj (nD l J ?_ (bM _) szo);erw[bne_self_eq_false,ic,if_false];show aw fin
 .let#v[v,rfl]:∃v,vs=[v]:=by
   cases vs with
   |nil=>cases h1
   |cons v r=>
    cases r with
    |nil=>show#v[v,J]
    |cons x y=>show au (by simp) h2
  calc aj (aw ?_);calc aj (aw ?_);calc aj (nY l J ?_);have O:sN (λx=>x.snd) (arrOf (Unit.unit,SortSt.mk' general' (#[v].zip #[v]) [].toArray 7 Z).snd)=(DA c [v]).toArray:=by rw[SU];change sN (λx=>x.snd) (#[v].zip #[v])=#[v];simp
  rw[O];calc aj (nD l J ?_ (bM _) szo);erw[bne_self_eq_false,ic,if_false];show aw fin
def Ny{vs:List aa}(hT:T="list" \/ T="tuple")(t:s.heap.get? l=U o)(hcl:o.cls=.type T)(hd:o.data=.seq vs.toArray n)(h1:0<vs.length)(f:vs.length<64)
  (p:∀(h':Heap) (C:SortKind->aq->Prop),(∀b o,s.heap.get? b=U o->h'.get? b=U o)->C κ { s with heap:=h' }->ar (model prog w) A.in1.in1 (keyKind' vs.toArray) C (λu u=>False) { s with heap:=h' })
  (m:∀(h':Heap) (i j:Nat) (C:Bool->aq->Prop),(∀b o,s.heap.get? b=U o->h'.get? b=U o)->i<vs.length/\j<vs.length->C (c i j) { s with heap:=h' }->jO prog w A.in1.in1 κ vs i j C { s with heap:=h' })
  (h:∀(g h':Heap) e,(∀b o,s.heap.get? b=U o->g.get? b=U o)->(∀b o,g.get? b=U o->h'.get? b=U o)->h'.get? g.objs.size=U (seqObj "list" (DA c vs).toArray e)->Q (.ref g.objs.size) { s with heap:=h' }):
  ar (model prog w) A (call (.builtin "sorted") [.ref l]) Q E s:=by
 calc lV nZ nN nO (nP _) ?_;calc aj (aw (aj (wpAny_collect_seq l hT t hcl hd (λg d=>?_) (by rw[bH];simp;omega))));calc aj (kU ?_ (by rw[bH];simp;omega));have on:(g.push (seqObj "list" vs.toArray 0)).get? g.objs.size=U (seqObj "list" vs.toArray 0):=bq _ J;have all:∀h',AM g.objs.size (g.push (seqObj "list" vs.toArray 0)) h'->∀b o,g.get? b=U o->h'.get? b=U o:=λh' a b o q=>a b o (aW (aM q)) (aJ _ q)
 calc aj (cA (fS m9 #v[_,on,J] mY ?_ (ng _)));calc LS on h1 f (λh' C a q=>p h' C (λb o z=>all h' a b o (d b o z)) q) (λh' i j C a q r=>m h' i j C (λb o z=>all h' a b o (d b o z)) q r) λh' e a q=>?_;show#v[_,J,aw #v[_,J,h g h' e d (all h' a) q]]
end
def ltS(a b:Str):Bool:=decide (a.cps.toList<b.cps.toList)
def xp:aC->aC->Bool
 |[],[]=>δ
 |[],_::_=>γ
 |_::_,[]=>δ
 |x::a,y::b=>if x=y then xp a b else ltS x y
inductive StrsAre:List aa->aC->Prop
 |nil:StrsAre [] []
 |cons (x:Str) (t:Tok) {vs:List aa} {xs:aC} (h:StrsAre vs xs):StrsAre (.str x t::vs) (x::xs)
def StrsAre.len(h:StrsAre b xs):b.length=xs.length:=by
 induction h with
 |nil=>rfl
 |cons x t h a=>rw[aK,aK,a]
theorem DX:∀{b:aC} {a:List aa},d? (b.map V.str) a->StrsAre a b
 |[],a,h=>by ext h;show .nil
 |x::b,a,h=>by
  cases h with
  |cons r c=>let#v[t,rfl]:=r;show .cons x t (DX c)
section
open PySem.SeqAt
open PySem.AutoSeq1 (wpAny_loadPart')
open PySem.MeetsSeq PySem.MeetsSeq2 PySem.MeetsSeq3
def II(l b:Addr)(is q:Array aa)(n m:Nat)(S T:Option Addr)(Y q2:Array (Option aa))(F G:aC)(O:StrsAre is.toList F)(P:StrsAre q.toList G):
  Meets (dr.«tuple.__lt__» #v[[.ref l,.ref b],[]])
   (λk R s=>s.heap.get? l=U { cls:=.type "tuple", dict:=S,data:=.seq is n,slots:=Y }/\s.heap.get? b=U { cls:=.type "tuple", dict:=T,data:=.seq q m,slots:=q2 }/\R (.ok (.ret (.bool (xp F G)))) s):=
 .of_wp λprog w A R s h=>by
  let#v[r,g,d,tk,os]:=s;let#v[X,W,h]:=h;have f2:=pz;have z1:is.size=F.length:=by rw[<-O.len,bK]
  have z2:q.size=G.length:=by rw[<-P.len,bK]
  wp_walk using pM X,pM W,ip _ (λeo b N=>b.1=Z/\N=#v[r,g,d,tk,os]/\∃(B C:List aa) (f i:aC),eo=B.zip C/\StrsAre B f/\StrsAre C i/\f.length+q.size=i.length+is.size/\R (.ok (.ret (.bool (xp f i)))) #v[r,g,d,tk,os]) _
  case turn=>
   rintro⟨y,x⟩ eo b N ⟨j,rfl,B,C,f,i,p,z,o,e,hR⟩;cases z with
   |nil=>cases p
   |cons a t I=>
    cases o with
    |nil=>cases p
    |cons c u M=>
     rw[fo]at p;let#v[hyx,hrest]:=nE p;let#v[rfl,rfl]:=nS hyx;erw[aK]at e;delta xp at hR;calc aj (kB a t c u prog w _ _ ?_);by_cases hac:a=c
     .subst hac;rw[af J]at hR;erw[beq_self_eq_true]
      wp_walk
      show#v[J,J,_,_,_,_,hrest,I,M,by omega,hR]
     .rw[ah hac]at hR;rw[beq_false_of_ne hac];have hri:∀(E Q),Q (.bool (decide (a.cps.toList<c.cps.toList))) (#v[r,g,d,tk,os]:aq)->ar (model prog w) A.in1 (richCompare .Lt (.str a t) (.str c u)) Q E #v[r,g,d,tk,os]:=λE Q H=>(qd H:ar (model prog w) A.in1 (bz .Lt (.str a t) (.str c u)) Q E _)
      wp_walk using hri
      show#v[_,J,by simpa [ltS]using hR]
  case fin=>
   rintro⟨b1,b2⟩ N ⟨j,rfl,B,C,f,i,p,z,o,e,hR⟩;simp only at j;subst j;have H:xp f i=decide (is.size<q.size):=by
    cases z with
    |nil=>
     cases o with
     |nil=>show(aL (by erw[dA]at e;omega)).symm
     |cons c u o=>show(aI (by erw[dA,aK]at e;omega)).symm
    |cons a t z=>
     cases o with
     |nil=>show(aL (by erw[dA,aK]at e;omega)).symm
     |cons c u o=>ext p
   rw[H]at hR
   wp_walk
   show#v[_,J,by simpa [tP]using hR]
  case h=>show#v[J,J,is.toList,q.toList,F,G,J,O,P,by omega,h]
end
section
theorem NA(r:dW s.heap l is)(o:dW s.heap b d)(p:StrsAre is.toList a)(q:StrsAre d.toList c)(t:A.units<cLine)(h:Q (.bool (xp a c)) s):
  ar (model prog w) A (bz .Lt (.ref l) (.ref b)) Q E s:=by
 let#v[#v[c1,i,B,u],e,rfl,n,rfl]:=id r;let#v[#v[c2,j,C,y],f,rfl,m,rfl]:=id o;show richCompare_meets_room (op:=.Lt) #v[_,e,J] #v[_,f,J] F.slot_tuple_lt F.entry_tuple_lt (F.args_tuple_lt_2 _ _) (II l b is d n m i j u y a c p q) #v[e,f,show Value.bool (xp a c)≠Value.notImplemented/\Q (.bool (xp a c)) s from#v[(λx=>nomatch x),h]] t
end
def DY(c:Nat->Nat->Bool)(n:Nat):List Nat:=(w9 c (gY n)).toList
def zp(c:Nat->Nat->Bool)(h:0<n):(DY c n).Perm (bh n):=(EA h).run c _
def Dm(c:Nat->Nat->Bool)(h:0<n):∀i∈DY c n,i<n:=λi a=>bR.1 ((zp c h).mem_iff.1 a)
theorem Jq:∀l:aC,xp l l=δ
 |[]=>rfl
 |x::l=>by delta xp;rw[af J];show Jq l
theorem Fd:∀(l m:aC),A0 (l.map L3.Dq.str) (m.map L3.Dq.str)=decide (l=m)
 |[],[]=>by rw[bZ,A0];simp
 |[],y::m=>by rw[bZ,aA,A0]<;>simp
 |x::l,[]=>by rw[bZ,aA,A0]<;>simp
 |x::l,y::m=>by
  rw[aA,aA,A0,Fd l m,nf];by_cases a:x=y
  .subst a;by_cases b:l=m
   .subst b;simp
   .simp[b]
  .have:(x==y)=δ:=beq_false_of_ne a;rw[this];simp[a]
theorem Fe(r:d? a c):∀(is:List Nat),(∀i∈is,i<a.length)->d? (is.map λi=>a.getD i V.cx) (is.map λi=>c.getD i Value.none)
 |[],_=>.nil
 |i::is,h=>by have b:=h i (.head _);let#v[u,e,f]:=r.get (aH b);calc .cons ?_ (Fe r is λj d=>h j (.tail _ d));change ea (a.getD i V.cx) (c.getD i Value.none);rw[bQ,bQ,e,aH b];show f
section
variable{G:Bg}
def BN(K:ay)(H:Hp)(y:V)(k:aC):Prop:=∃a b v,y=.ref a/\fl K H a [.ref b,v]/\fl K H b (k.map V.str)
def NB(I:b? X c q H s)(p:BN X.K H y k)(r:ea y u):
  ∃a b v,u=.ref a/\dW s.heap a #[.ref b,v]/\fl X.K H b (k.map V.str):=by
 let#v[a,b,v,rfl,d,e]:=p;ext r;let#v[f,l,m,_]:=I.tuple d;cases l with
 |cons h i=>
  ext h;cases i with
  |cons o j=>ext j;show#v[a,b,_,J,m,e]
def seq_val(I:b? X h j H s)(c:gi X.K H a i\/fl X.K H a i):∃b,d? i b/\∃T o n,(T="list" \/ T="tuple")/\s.heap.get? a=U o/\o.cls=.type T/\o.data=.seq b.toArray n:=by
 rcases c with c|c
 .let#v[b,f,pl,_]:=I.list c;let#v[o,a1,d,n,e]:=pl.isList;show#v[b,f,_,o,n,.inl J,a1,d,e]
 .let#v[b,f,#v[o,a1,d,n,e],_]:=I.tuple c;show#v[b,f,_,o,n,.inr J,a1,d,e]
def Kb(hu:X.A.units+64<cLine):xA X (.builtin "sorted") (λxs H Q=>∃(a:Addr) (d:bA) (ks:List aC),xs=[.ref a]/\(gi X.K H a d\/fl X.K H a d)/\0<d.length/\d.length<64/\ks.length=d.length/\ks.Nodup/\(∀(i:Nat) (y:V) (k:aC),d[i]?=U y->ks[i]?=U k->BN X.K H y k)/\
  ∀p,H p=Z->Q (.ref p) (el H p (.ax ((DY (λi j=>xp (ks.getD i []) (ks.getD j [])) d.length).map λi=>d.getD i V.cx)))):=by
 intro pins s σ H xs us Q I r h;let#v[a,d,ks,rfl,hq,h1,h64,hkl,nd,hp,q]:=h;let#v[u,rfl,ru]:=mq r;ext ru;let#v[its,ri,T,ob,nn,hT,E,N,b3]:=seq_val I hq;have hl:d.length=its.length:=ri.length;have item:∀{h':Heap},(∀b o,s.heap.get? b=U o->h'.get? b=U o)->∀i,i<its.length->∃a b v,its.getD i Value.none=.ref a/\dW h' a #[.ref b,v]/\fl X.K H b ((ks.getD i []).map V.str)/\its[i]?=U (.ref a):=λ{h'} m i hi=>by
  have x:b? X pins σ H { s with heap:=h',toks:=s.toks }:=I.f? m;have hy:i<d.length:=by omega
  have hk:i<ks.length:=by omega
  let#v[u,e,ru]:=ri.get (aH hy);let#v[a,b,v,rfl,t,B]:=NB x (hp i _ _ (aH hy) (aH hk)) ru;refine#v[a,b,v,?_,t,?_,e]
  .rw[bQ,e];rfl
  .rw[bQ,aH hk];show B
 refine Ny (κ:=tuples' δ) (c:=λi j=>xp (ks.getD i []) (ks.getD j [])) hT E N b3 () () (λh' C m hC=>?_) (λh' i j C m hij hC=>?_) λg h' e O P ho=>?_
 .
  have x:b? X pins σ H { s with heap:=h',toks:=s.toks }:=I.f? m;have oz:∀(l:List aa),(∀v∈l,∃i,i<its.length/\its[i]?=U v)->∃fs,KatTups h' l fs/\fs.length=l.length/\∀f∈fs,∃(b:Addr) (k:aC),f=.ref b/\fl X.K H b (k.map V.str):=λl=>by
   induction l with
   |nil=>show λ_=>#v[[],sF,J,λf F=>by ext F]
   |cons v l ih=>
    intro hv;let#v[fs,W,f2,Y]:=ih λw hw=>hv w (.tail _ hw);let#v[i,hi,ei]:=hv v (.head _);let#v[a,b,w,_,#v[o,M,B,n,t3],t4,t5]:=item m i hi;rw[ei]at t5;ext t5;calc#v[.ref b::fs,se M B t3 (by simp) W,by rw[aK,aK,f2],λf F=>?_];rcases aD.1 F with rfl|F
    .show#v[b,_,J,t4]
    .show Y f F
  let#v[fs,W,f2,Y]:=oz its λv hv=>by let#v[i,hi,e]:=eC.1 hv;show#v[i,hi,by rw[aH hi,e]]
  calc kat_kind (T:=.type "tuple") W () (λv hv=>?_) #[] hC;let#v[b,k,rfl,hb]:=Y v hv;let#v[_,_,#v[o,M,B,_],_]:=x.tuple hb;rw[<-B];show(Looks.ld M).andThen .now
 .
  have x:b? X pins σ H { s with heap:=h',toks:=s.toks }:=I.f? m;let#v[a1,E,v1,R,#v[o1,g1,c1,n1,d1],O,_]:=item m i hij.1;let#v[a2,N,v2,S,#v[o2,g2,c2,n2,d2],P,_]:=item m j hij.2;delta jO;by_cases hne:i=j
  .subst hne;rw[R]at S;ext S;rw[R];calc kat_lt g1 d1 g1 d1 ?_;change KatLex _ _ _ _ _ _ [(Value.ref E,Value.ref E),(v1,v1)] 0 _;calc jL (jv _ _ _ _ _ (lg (jL (jv _ _ _ _ _ (lg (kat_nil ?_))))));rw[Jq]at hC;show hC
  .rw[R,S];have kne:ks.getD i []≠ks.getD j []:=λz=>hne (by
    have hi:i<ks.length:=by omega
    have hj:j<ks.length:=by omega
    rw[bQ,bQ,aH hi,aH hj]at z;have pw:=hU.1 nd;rcases jr i j with y|y|y
    .show au z (pw i j hi hj y)
    .show y
    .show au z.symm (pw j i hj hi y))
   calc kat_lt g1 d1 g2 d2 ?_;change KatLex _ _ _ _ _ _ [(Value.ref E,Value.ref N),(v1,v2)] 0 _;have rp:∀{b:Addr} {k:aC},fl X.K H b (k.map V.str)->L3.df X.K H (L3.Dq.bx (k.map L3.Dq.str)) (.ref b):=λh=>by delta L3.df;show#v[_,_,J,h,Jd _]
   have dp:∀l:aC,gw (L3.Dq.bx (l.map L3.Dq.str))=1:=λl=>by delta gw;rw[Bl]
   have eq:=M5 x _ _ _ _ (.ref E) (.ref N) X.A.in1.in1 (rp O) (rp P) J J (by rw[dp,dp,kH,kH];omega);rw[show nf (L3.Dq.bx ((ks.getD i []).map L3.Dq.str)) (L3.Dq.bx ((ks.getD j []).map L3.Dq.str))=δ from by rw[nf,Fd];show aL kne]at eq;calc jL (eq _ _ _ _ (kat_no ?_));let#v[i1,r1,M,_]:=x.tuple O;let#v[i2,r2,B,_]:=x.tuple P;show kat_one _ _ (NA M B (DX r1) (DX r2) (by rw[kH,kH];omega) hC)
 .have I1:b? X pins σ H { s with heap:=g,toks:=s.toks }:=I.f? O;calc#v[.ref g.objs.size,_,I1.laid (t':=s.toks) P (aF _) ?_,J,q _ (I1.fb.fresh (aF _))];have hn:0<d.length:=h1;refine#v[?_,DA _ its,e,?_,ho]
  .rw[ak,(zp _ hn).length_eq,cG,bH];omega
  .delta DA;rw[<-hl];show Fe ri _ λi hi=>Dm _ hn i hi
def Jr:aZ->Option aC
 |[]=>U []
 |.str x::a=>match Jr a with
  |some b=>U (x::b)
  |none=>Z
 |_=>Z
def SV:D->Option aC
 |.bx [.bx a,_]=>Jr a
 |_=>Z
def CH:aZ->Option (List aC)
 |[]=>U []
 |d::a=>match SV d,CH a with
  |some k,U b=>U (k::b)
  |_,_=>Z
def Js(a:aZ):Option aZ:=match CH a with
 |some b=>if b.Nodup/\0<a.length/\a.length<64 then U ((DY (λi j=>xp (b.getD i []) (b.getD j [])) a.length).map λi=>a.getD i .cx)else Z
 |none=>Z
def Hy(f:FE):FA:=λd=>match f d with
 |some (.ax b,a)=>match Js b with
  |some c=>U (c,a)
  |none=>Z
 |_=>Z
theorem HA:∀{a:aZ} {b:bA} {l:aC},bc G H a b->Jr a=U l->b=l.map V.str
 |[],b,l,r,e=>by ext e;delta bc at r;show r
 |d::a,b,l,r,e=>by
  cases d with
  |str x=>
   delta Jr at e;cases c:Jr a with
   |none=>rw[c]at e;cases e
   |some i=>rw[c]at e;ext e;delta bc at r;let#v[v,j,rfl,f,h]:=r;have f:_=_:=f;subst f;rw[HA h c,aA]
  |_=>ext e
#print h
def SW(r:df G H d v)(e:SV d=U k):BN G.K H v k:=by
 delta SV at e;split at e
 .rename_i p w;delta df at r;let#v[a,x,rfl,h,i]:=r;let#v[u,q,rfl,f,l]:=An i;let#v[o,t,rfl,_,m]:=An l;cases BH m;delta df at f;let#v[b,y,rfl,c,j]:=f;rw[HA j e]at c;show#v[a,b,o,J,h,c]
 .ext e
#print f
theorem Jt:∀{a:aZ} {b:List aC},CH a=U b->b.length=a.length
 |[],b,e=>by ext e;rfl
 |d::a,b,e=>by
  delta CH at e;cases c:SV d with
  |none=>rw[c]at e;cases e
  |some k=>
   cases f:CH a with
   |none=>rw[c,f]at e;cases e
   |some h=>rw[c,f]at e;ext e;rw[aK,aK,Jt f]
theorem Ju:∀{a:aZ} {f:List aC} {h:bA},bc G H a h->CH a=U f->∀(i:Nat) (y:V) (k:aC),h[i]?=U y->f[i]?=U k->BN G.K H y k
 |[],f,h,r,e,i,y,k,l,c=>by ext e;cases c
 |d::a,f,h,r,e,i,y,k,l,c=>by
  delta CH at e;cases b:SV d with
  |none=>rw[b]at e;cases e
  |some q=>
   cases j:CH a with
   |none=>rw[b,j]at e;cases e
   |some m=>
    rw[b,j]at e;ext e;delta bc at r;let#v[v,t,rfl,o,p]:=r;cases i with
    |zero=>ext l;ext c;show SW o b
    |succ i=>show Ju p j i y k l c
theorem Jv(r:bc G H a c):∀(is:List Nat),(∀i∈is,i<a.length)->bc G H (is.map λi=>a.getD i .cx) (is.map λi=>c.getD i V.cx)
 |[],_=>vV
 |i::is,h=>by have b:=h i (.head _);let#v[v,e,f]:=xD r (aH b);calc vS ?_ (Jv r is λj d=>h j (.tail _ d));change df G H (a.getD i .cx) (c.getD i V.cx);rw[bQ,bQ,e,aH b];show f
def fl.same{K:ay}(s:vF c d)(p:BN K c y k):BN K d y k:=by let#v[a,b,v,e,f,h]:=p;show#v[a,b,v,e,fl.mono s f,fl.mono s h]
#print h
def LU(W:∀w o l,g w=U (.ax o,l)->f w=U (.ax o,l)\/f w=U (.bx o,l))(h:PE X e (tCB (λb H Q=>∃(a:Addr) (d:bA) (u:List aC),b=[.ref a]/\(gi G.K H a d\/fl G.K H a d)/\0<d.length/\d.length<64/\u.length=d.length/\u.Nodup/\(∀(i:Nat) (y:V) (k:aC),d[i]?=U y->u[i]?=U k->BN G.K H y k)/\
  ∀p,H p=Z->Q (.ref p) (el H p (.ax ((DY (λi j=>xp (u.getD i []) (u.getD j [])) d.length).map λi=>d.getD i V.cx)))) (t7 G (ab f vH)))):PE X e (Bx G (Hy g)):=PE.c3 h λσ H Q C=>by
 let#v[F,w,M,es,E,R,e,k]:=C;delta Hy at e;split at e
 .rename_i o l O;cases c:Js o with
  |none=>erw[c]at e;cases e
  |some P=>
   erw[c]at e;ext e;delta Js at c;cases A:CH o with
   |none=>erw[A]at c;cases c
   |some u=>
    erw[A]at c;split at c
    .rename_i C;let#v[nd,hn,T]:=C;ext c;have xx:∃x,f w=U (x,E)/\∀H v,df G H x v->∃a b,v=V.ref a/\(H a=U (.ax b)\/fl G.K H a b)/\bc G H o b:=by
      rcases W _ _ _ O with q|q
      .show#v[_,q,λH v r=>by delta df at r;let#v[a,b,e,z,t]:=r;show#v[a,b,e,.inl z,t]]
      .show#v[_,q,λH v r=>by delta df at r;let#v[a,b,e,z,t]:=r;show#v[a,b,e,.inr z,t]]
     let#v[x,S,hx]:=xx;calc#v[F,w,M,[x],_,R,by delta ab;rw[S];rfl,λd H1 N s m rs=>?_];let#v[v,r0,rfl,rv,rn]:=An rs;cases BH rn;let#v[a,b,rfl,z,t]:=hx _ _ rv;have I:=vE t;calc#v[a,b,u,J,z.imp (λh=>gi.of (m.sub _ _ h)) (fl.mono m.sub),by omega,by omega,by rw[Jt A,I],nd,λi y kk q1 q2=>fl.same m.sub (Ju t A i y kk q1 q2),λp B=>?_];calc k p _ _ _ s (m.gj B _) vB (m.e? B) (m.gr B) (m.apart B) ?_;rw[<-I];show Jv t _ λi Y=>Dm _ hn i Y
    .ext c
 .ext e
#print f
def NC(h:PE X e (tCB (λd H Q=>∃(a:Addr) (b:bA) (c:List aC),d=[.ref a]/\(gi G.K H a b\/fl G.K H a b)/\0<b.length/\b.length<64/\c.length=b.length/\c.Nodup/\(∀(i:Nat) (y:V) (k:aC),b[i]?=U y->c[i]?=U k->BN G.K H y k)/\
  ∀p,H p=Z->Q (.ref p) (el H p (.ax ((DY (λi j=>xp (c.getD i []) (c.getD j [])) b.length).map λi=>b.getD i V.cx)))) (t7 G (ab f vH)))):PE X e (Bx G (Hy f)):=LU (λz z z h=>.inl h) h
def Kc(d:X.A.units+64<cLine)(hK:X.K=G.K:=by rfl):xA X (.builtin "sorted") (λe H Q=>∃(a:Addr) (b:bA) (c:List aC),e=[.ref a]/\(gi G.K H a b\/fl G.K H a b)/\0<b.length/\b.length<64/\c.length=b.length/\c.Nodup/\(∀(i:Nat) (y:V) (k:aC),b[i]?=U y->c[i]?=U k->BN G.K H y k)/\
  ∀p,H p=Z->Q (.ref p) (el H p (.ax ((DY (λi j=>xp (c.getD i []) (c.getD j [])) b.length).map λi=>b.getD i V.cx)))):=by rw[<-hK];show Kb d
end
end L4
namespace L4
open PySem PySem.Spec PyProof.Rows L2 L3
section
#print h
def WI:k4 G (λx y H Q=>∃z n,x=.str z/\y=.int n/\MulOk z n/\Q (.str (jN z n)) H) LG:=λx y z o H v u Q e s d f k=>by
 delta LG at e;split at e
 .rename_i a n;split at e
  .rename_i m;let#v[p,r,h]:=m;ext e;delta df at d f;refine#v[a,n,d,f,#v[?_,λi j l=>?_,λi j=>?_],k _ λt t=>zU _]
   .rw[ko];show#v[aL (),aL ()]
   .have c:(0:Int)<n:=by omega
    have q:(9223372036854775807:Int) / n >= 9223372036854775:=by have:=Int.le_ediv_of_mul_le (a:=9223372036854775) (b:=9223372036854775807) c ();show this
    have:((2:Int) ^ 63 - 1)=9223372036854775807:=by decide
    rw[this]at l;omega
   .have c:n.toNat<=1000:=by omega
    have:a.length * n.toNat<=100 * 1000:=Nat.mul_le_mul h c;calc aL ?_;rw[bH];omega
  .ext e
 .ext e
end
#print f
def OT:List String:=["NoneType", "bool", "int", "str", "tuple", "list", "dict"]
def Jw(n c:Nat):Ty->Option Bool:=λy=>match y with
 |.b x=>if OT.contains x=γ then U δ else Z
 |.c k=>if k<n then U (k==c)else Z
def Ke(K:ay)(cs:List Addr)(C:Addr)(c:Nat):Bool:=
 OT.all (λx=>c6 K (.type x) (.ref C)==U δ)&&(bh cs.length).all λk=>c6 K (.ref (cs.getD k 0)) (.ref C)==U (k==c)
#print h
def Jx{B:Bg}(h:Ke B.K cs (B.ca c) c=γ)(i:cs.length=n)(d:∀k,k<n->cs.getD k 0=B.ca k)(hI:∀k,k<n->Na B.K (B.ca k)):Ni B c (Jw n c):=by
 delta Ke at h;rw[bt,bF,bF]at h;refine#v[λy b e=>?_,λj b e=>?_]
 .cases y with
  |b x=>
   delta Jw at e;simp only at e;split at e
   .rename_i f;ext e;show gV (h.1 x (pP.1 f))
   .cases e
  |c k=>
   delta Jw at e;simp only at e;split at e
   .rename_i a;ext e;have:=gV (h.2 k (bR.2 ()));rw[d k a]at this;show this
   .ext e
 .delta Jw at e;simp only at e;split at e
  .rename_i a;show hI j a
  .ext e
#print f
def ND{l:List Addr}(h:l.Nodup)(a:j<l.length)(b:k<l.length)(e:l.getD j 0=l.getD k 0):j=k:=by
 rw[bQ,bQ,aH a,aH b]at e;have c:=hU.1 h;rcases jr j k with y|y|y
 .show au e (c j k a b y)
 .show y
 .show au e.symm (c k j b a y)
section
variable{K:ay}
def ξ(X:K.In h)(a:h.Ns bN b)(e:jP K bN x=U (U (.int i t))):Di B b x (.int i):=
 #v[.int i,_,lh X a e,#v[_,J],λz=>xW _]
inductive BO:List aa->aC->Prop
 |nil:BO [] []
 |cons {v:aa} {x:Str} {t:Tok} {vs:List aa} {xs:aC} (e:v=.str x t) (h:BO vs xs):BO (v::vs) (x::xs)
def BO.vals(h:BO b c):d? (c.map V.str) b:=by
 induction h with
 |nil=>show .nil
 |cons e h a=>show .cons #v[_,e] a
theorem HB:∀a:aC,bc B H (a.map D.str) (a.map V.str)
 |[]=>vV
 |x::a=>vS (zU x) (HB a)
def NF(c:aC)(X:B.K.In h)(d:h.Ns bN i)(e:jP B.K bN x=U (U (.ref a)))(l:B.K.lookup a=U o)(f:o.cls=.type "tuple")(hd:o.data=.seq b n)(j:b.size<=1000)
  (r:BO b.toList c):Di B i x (.bx (c.map D.str)):=
 #v[.ref a,_,lh X d e,J,λH=>zT (.inr #v[o,b,n,l,f,hd,by rw[bH];omega,r.vals]) (HB c)]
end
section
theorem HC{i:Type}(dd:i->D)(p:i->Bool)(h:i->D):∀l:List i,
  (∀a∈l,∃c b,g (dd a) (Du k eh e)=U c/\ft c=U (p a,b)/\(p a=γ->∃d,o b=U (h a,d)/\yE eh (d.drop k) e=U e)/\(p a=δ->yE eh (b.drop k) e=U e))->
  yW k eh g ft o (l.map dd) e=U ((l.filter p).map h,e)
 |[],_=>rfl
 |a::l,st=>by
  let#v[c,b,q,r,t,u]:=st a aP;have j:=HC dd p h l λm y=>st m (ba _ y);rw[aA];delta yW;rw[q];erw[r];cases f:p a with
  |true=>let#v[d,w,x]:=t f;erw[w,x,j,eD,f,if_true,aA]
  |false=>erw[u f,j,eD,f];rfl
def Kg{d:Type}(dd:d->D)(h:d->D)(l:List d)(st:∀a∈l,∃b c,g (dd a) (Du k eh ρ)=U b/\e b=U (h a,c)/\yE eh (c.drop k) ρ=U ρ):yW k eh g wG e (l.map dd) ρ=U (l.map h,ρ):=by have:=HC (ft:=wG) dd (λu=>γ) h l λa m=>let #v[b,c,f,i,j]:=st a m;#v[b,b,f,J,λu=>#v[c,i,j],λz=>by ext z];rw[this,md.2 λu u=>J]
def SX(a:Str)(l:aC):inV (V.str a) (l.map V.str)=decide (a∈l):=by
 delta inV;rw[dO,dw,bV];constructor
 .rintro⟨v,f,c⟩;let#v[b,e,rfl]:=av.1 f;have:=by delta eqV at c;exists c
  rw[<-this];show e
 .intro d;calc#v[.str a,cc d,?_];delta eqV;simp
def QA(l:aC):(l.map D.str).all yf=γ:=by rw[nQ,bF];intro x _;rfl
def WJ(l:aC):(l.map D.str).map vD=l.map V.str:=by rw[aT];rfl
def Bq(neg:Bool)(a:Str)(l:aC):kv neg (.str a) (.ax (l.map D.str))=U (.bl (if neg then !decide (a∈l)else decide (a∈l))):=by change (if yf (.str a)&&(l.map D.str).all yf then U (D.bl (if neg then !inV (vD (.str a)) ((l.map D.str).map vD)else inV (vD (.str a)) ((l.map D.str).map vD)))else Z)=_;rw[QA,WJ];change U (D.bl (if neg then !inV (V.str a) (l.map V.str)else inV (V.str a) (l.map V.str)))=_;rw[SX]
def LV(neg:Bool)(a:Str)(l:aC):kv neg (.str a) (.bx (l.map D.str))=U (.bl (if neg then !decide (a∈l)else decide (a∈l))):=Bq neg a l
theorem Kh:∀bs:List Bool,IG (bs.map D.bl)=U bs
 |[]=>rfl
 |b::bs=>by rw[aA];delta IG;rw[Kh bs];rfl
#print "Y AE ll;Z Hk ny" in def Sϑ0(bs:List Bool):ϑ1 (.ax (bs.map D.bl))=U (.bl (bs.aϑ2 id)):=by delta ϑ1;erw[Kh];rfl
#print "OU AE ll Y nQ;WK Hk ny Z kZ" in def ϑ0{b:Type}(l:List b)(p:b->Bool):ϑ1 (.ax (l.map λa=>D.bl (p a)))=U (.bl (l.aϑ2 p)):=by rw[show (l.map λa=>D.bl (p a))=(l.map p).map D.bl by rw[aT];rfl,Sϑ3,ϑ4];rfl
theorem HD:∀l:aC,DH (l.map D.str)=U (l.map Sum.inr)
 |[]=>rfl
 |x::l=>by rw[aA];delta DH;rw[HD l];rfl
theorem S0:∀(l acc:List ee),(acc++l).Nodup->l.foldl υ acc=acc++l
 |[],acc,_=>by rw[bD];rfl
 |k::l,acc,h=>by
  have b:acc.any (λz=>decide (z=k))=δ:=by rw[jq];intro z;let#v[y,c,a]:=dw.1 z;rw[cq]at h;show h.2.2 y c k aP (bj a)
  rw[fz,show υ acc k=acc++[k] by delta υ;rw[b];rfl,S0 l (acc++[k]) (by exists h)];simp
def yN{l:aC}(h:l.Nodup):(l.map (Sum.inr:Str->ee)).Nodup:=by delta List.Nodup at h ⊢;rw[qw];show h.imp λhne z=>hne (jG z)
def FL{l:aC}(h:l.Nodup)(a:l.length<=1000):yY (l.map D.str)=U (.int l.length):=by delta yY;rw[HD];erw[ak,a,if_true];delta AF;rw[S0 _ [] (by exists yN h)];simp
#print "zB Str str;EB Int int" in def ϑ0(neg:Bool)(a b:ϑ1):ey neg (.ϑ2 a) (.ϑ2 b)=U (.bl (if neg then !decide (a=b)else decide (a=b))):=by
 have e:E9 neg (.ϑ2 a) (.ϑ2 b)=U (.bl (if neg then !decide (V.ϑ2 a=V.ϑ2 b)else decide (V.ϑ2 a=V.ϑ2 b))):=rfl;have c:decide (V.ϑ2 a=V.ϑ2 b)=decide (a=b):=by
  by_cases h:a=b
  .subst h;simp
  .rw[aL h,aL (λz=>h (by injection z))]
 delta ey;rw[e,c]
def w5(b:e ρ=U (.bl γ,ρ1)):xZ e a ρ=a ρ1:=by delta xZ;rw[b]
def wQ{g:Nat->Option (aZ->Option D)}{m:Str}{c:Nat}{b:aC}{hh:aZ->Option D}(f:e ρ=U (.obj c b xs,ρ1))(h:g c=U hh)(i:b.contains m=δ)(j:a ρ1=U (ys,ρ2))(l:hh (.obj c b xs::ys)=U d):v9 g m e a ρ=U (d,ρ2):=by delta v9;rw[f];erw[h,i,j,l];rfl
def Ki{c:Nat}{g:aZ->Option (aC×aZ)}{b:aC}(d:a ρ=U (ds,ρ1))(e:g ds=U (b,f)):wm c g a ρ=U (.obj c b f,ρ1):=by delta wm;rw[d];erw[e]
def BP(c:a.length=d)(h:b (L4.K3 n a)=U (.nx ρ)):fx d n b a=U .cx:=by delta fx;rw[af c,h]
def Kj(c:a.length=d)(h:b (L4.K3 n a)=U (.rn e ρ)):fx d n b a=U (.ax e):=by delta fx;rw[af c,h]
theorem Br:∀{a:List ee} {b:aZ} {k:ee} {d:D},a.Nodup->(k,d)∈a.zip b->xX a b k=U d
 |[],_,k,d,_,h=>by simp at h
 |f::a,[],k,d,_,h=>by simp at h
 |f::a,i::b,k,d,c,h=>by
  delta xX;rw[fo]at h;rcases aD.1 h with e|h
  .ext e;rw[af J]
  .rw[cu]at c;rw[ah (λz=>c.1 (by subst z;show(kL h).1))];show Br c.2 h
theorem Dn:∀{a:List ee} {b:aZ} {k:ee},k∉a->xX a b k=Z
 |[],b,k,_=>by delta xX;rfl
 |c::a,[],k,_=>by delta xX;rfl
 |c::a,d::b,k,h=>by delta xX;rw[ah (λz=>h (by subst z;show aP))];show Dn λz=>h (ba _ z)
end
end L4
namespace L4
open PySem PySem.Spec PyProof.Rows L2 L3
open PySem.W (nsIn findIn keepIn isFn makesIn fnOf)
def NG{b:Type}:Nat->(List b->Prop)->Prop
 |0,P=>P []
 |n+1,P=>∀a,NG n λl=>P (a::l)
theorem GA{b:Type}:∀{n:Nat} {P:List b->Prop},NG n P->∀l,l.length=n->P l
 |0,P,h,[],_=>h
 |n+1,P,h,a::l,e=>GA (h a) l (jF e)
structure CF(K:ay)(C:Addr)(xs:aC):Prop where
 ci:Na K C
 mks:makesIn K C=γ
 kp:keepIn K (.ref C)=γ
 na:(xs.all λx=>match findIn K (.ref C) x with|some Z=>γ|_=>δ)=γ
#print h
theorem CF.at{K:ay}(c:CF K C xs)(i:Nat)(h:xs[i]?=U x):U? K C/\AZ K C x:=#v[c.ci.cl,by
 have e:=bF.1 c.na x (cb h);split at e
 .rename_i a;show a
 .ext e]
#print f
def AG{Q:Nat->Prop}{i:Nat}(h:Q i):∀c,(c==i)=γ->Q c:=λc e=>by rw[beq_iff_eq]at e;subst e;show h
def χ{Q:Nat->Prop}{p:Nat->Bool}{i:Nat}(h:∀c,p c=γ->Q c)(a:Q i):∀c,(p c||c==i)=γ->Q c:=λc e=>by
 rw[kM]at e;rcases e with e|e
 .show h c e
 .show AG a c e
structure Yw(P:bb)(w:aQ)(mg:Str->Option aa)(a8:Heap)(G:Bg):Prop where
 m:∃h:Heap,G.K.In h/\h.Ns bN mg
section
variable{st:Stmt}{K:ay}
def Yw.g(y:Yw P w b a8 G)(e:nsIn G.K bN x=U (U v)):b x=U v:=by let#v[h,X,a]:=y.m;show lh X a e
#print h
def Yw.n(y:Yw P w d a8 G){xs:aC}(h:(xs.all λx=>match nsIn G.K bN x with|some Z=>γ|_=>δ)=γ)(i:Nat)(c:xs[i]?=U x):d x=Z:=by
 let#v[f,X,a]:=y.m;have e:=bF.1 h x (cb c);split at e
 .rename_i b;show W.mg_none_of X a b
 .ext e
#print f
def GC(K:ay)(x:Str)(i:Int):Prop:=∃t:Tok,nsIn K bN x=U (U (.int i t))
def Yw.ci(y:Yw P w b a8 G)(q:GC G.K x i):Di G b x (.int i):=by let#v[h,X,a]:=y.m;let#v[t,e]:=q;show ξ X a e
def GS(K:ay)(x:Str)(c:aC):Prop:=∃(a:Addr) (o:Obj) (b:Array aa) (n:Nat),nsIn K bN x=U (U (.ref a))/\K.lookup a=U o/\o.cls=.type "tuple" /\ o.data=.seq b n/\b.size<=1000/\BO b.toList c
def Yw.cs(y:Yw P w p a8 G)(q:GS G.K x xs):Di G p x (.bx (xs.map D.str)):=by let#v[h,X,b]:=y.m;let#v[a,o,j,n,e,l,c,d,f,i]:=q;show NF xs X b e l c d f i
def GD(K:ay)(x:Str)(st:Stmt):Prop:=∃(f:Addr) (a:cD),nsIn K bN x=U (U (.ref f))/\W? K x x st f a
def GM(K:ay)(C:Addr)(m qual:Str)(st:Stmt):Prop:=∃(f:Addr) (a:cD),findIn K (.ref C) m=U (U (.ref f))/\isFn K (.ref f)=γ/\W? K m qual st f a
def GJ(K:ay)(C:Addr)(qual:Str)(st:Stmt)(b:bA):Prop:=∃(f:Addr) (a:cD) (T:Addr) (o:Obj) (dl:List aa) (n:Nat),findIn K (.ref C) "__init__" = U (U (.ref f))/\isFn K (.ref f)=γ/\P8 K "__init__" qual st f a T/\K.lookup T=U o/\o.data=.seq dl.toArray n/\d? b dl
abbrev Bdy(P:bb)(w:aQ)(K:ay)(a:Str->Option aa)(a8:Heap)(N:aC)(qual:Str)(st:Stmt)(k:Nat)(t:TS):Prop:=∀(f:Addr) (cdv:aa) (A:bo) (b9:List Env) (s:aq) (H:Hp) (E:XK),xi k (A.deeper (envOfC qual (vP st) (~~~s) f cdv))->l' (En P w K a a8 N qual st f cdv A b9 s H E) (wb st) t
abbrev S2(x qual:Str)(st:Stmt)(a:aC):Prop:=NG a.length λb=>∀(kV doc e:aa) (c:Option Addr) (cdv d:aa),bindArgs (fnOf x qual (yU st) (wb st) (vP st) .none kV doc e c cdv d) #v[b,[]]=pure (a.zip b)
theorem S2.ok(b:S2 x qual st ps)(F:W? K x qual st f d):ki K d ps []:=F.tX λkV doc h a cdv c i e=>GA b i e kV doc h a cdv c
theorem gD(y:Yw P w c a8 G)(q:GD G.K x st)(e:S2 x x st d)(ok:∀f b,W? G.K x x st f b->zh P w G.K c a8 Dv k f b d h):AJ P w G.K c a8 k x d h:=by let#v[f,b,a,F]:=q;show#v[f,b,y.g a,F.kp,e.ok F,ok f b F]
#print "F fx gp Sg;N' y? vf adW" in def gϑ0(e:g=ϑ1 i n b)(y:Yw P w c a8 G)(q:GD G.K x st)(S:xm N a (vP st))(body:Bdy P w G.K c a8 N x st k (ke G b))(h:a.length=i:=by rfl)(hN:N.length=n:=by rfl)(d:S2 x x st a:=by (repeat intro _);rfl):AJ P w G.K c a8 (k+1) x a (ϑ2 G g):=
 gD y q d λf j F=>ϑ3 e h hN F S (body f)
def gM(e:g=Z? i n b)(y:Yw P w c a8 G)(q:GD G.K x st)(S:xm N (p::a) (vP st))(body:Bdy P w G.K c a8 N x st k (ke G b))(h:a.length=i:=by rfl)(hN:N.length=n:=by rfl)(d:S2 x x st (p::a):=by (repeat intro _);rfl):AJ P w G.K c a8 (k+1) x (p::a) (spM G g):=
 gD y q d λf j F=>adX e h hN F S (body f)
def gL(e:g=vx i n b)(y:Yw P w c a8 G)(q:GD G.K x st)(S:xm N a (vP st))(body:Bdy P w G.K c a8 N x st k (ke G b))(h:a.length=i+1:=by rfl)(hN:N.length=n:=by rfl)(d:S2 x x st a:=by (repeat intro _);rfl):AJ P w G.K c a8 (k+1) x a (t6 G g):=
 gD y q d λf j F=>aea e h hN F S (body f)
def gI(l:g=z5 c r n b)(y:Yw P w e a8 G)(C:CF G.K (G.ca c) t)(a:nsIn G.K bN x=U (U (.ref (G.ca c))))(q:GM G.K (G.ca c) "__init__" qual st)(S:xm N (p::d) (vP st))(body:Bdy P w G.K e a8 N qual st k (ke G b))(m:d.length=r:=by rfl)(hN:N.length=n:=by rfl)(h:S2 "__init__" qual st (p::d):=by (repeat intro _);rfl):J1 G P w e a8 (k+1) x c (p::d) [] g:=by let#v[f,j,i,o,F]:=q;show#v[f,j,[],#v[C.mks,i,o,C.kp],y.g a,h.ok F,.nil,adY l m hN F S (body f)]
def LW(h:d? c b):b.length=c.length:=by
 induction h with
 |nil=>rfl
 |cons _ _ a=>rw[aK,aK,a]
def QB(h:d? e d):∀j,d? (e.drop j) (d.drop j):=by
 induction h with
 |nil=>intro j;rw[rQ,rQ];show .nil
 |cons a b c=>
  intro j;cases j with
  |zero=>show .cons a b
  |succ j=>show c j
theorem gJ(H:g=z5 c Q n b)(y:Yw P w A a8 G)(C:CF G.K (G.ca c) R)(a:nsIn G.K bN x=U (U (.ref (G.ca c))))(q:GJ G.K (G.ca c) qual st z)(S:xm N (p::d) (vP st))(body:Bdy P w G.K A a8 N qual st k (ke G b))(j:Nat)(M:d.length=Q:=by rfl)(hN:N.length=n:=by rfl)
  (B:NG z.length λdl=>NG ((p::d).length - (z.drop j).length) λh=>∀(T:Addr) (kV doc u:aa) (m:Option Addr) (cdv t:aa),∃k,bindArgs (fnOf "__init__" qual (yU st) (wb st) (vP st) (.ref T) kV doc u m cdv t) #v[h,[]]=seqItems? (.ref T)>>=k/\k (U dl.toArray)=pure ((p::d).zip (h++dl.drop j)):=by (repeat intro _);show#v[_,J,J]):J1 G P w A a8 (k+1) x c (p::d) (z.drop j) g:=by
 let#v[f,E,T,o,dl,n,i,O,F,l,e,r]:=q;calc#v[f,E,dl.drop j,#v[C.mks,i,O,C.kp],y.g a,F.tX l e λkV doc u m cdv t h I=>?_,QB r j,aao H M hN F S (body f)];show GA (GA B dl (LW r)) h (by rw[I,dg,dg,LW r]) T kV doc u m cdv t
end
end L4
namespace L4
open PySem PySem.Spec PyProof.Rows L2 L3
def Ra(a b:Str):Bool:=decide (a.cps.toList<=b.cps.toList)
def FM(a:aC):aC:=a.mergeSort Ra
def S4(a b c:Str)(h:Ra a b=γ)(d:Ra b c=γ):Ra a c=γ:=aI (List.le_trans (bj h) (bj d))
def WL(a b:Str):(Ra a b||Ra b a)=γ:=by
 rw[kM];rcases List.le_total a.cps.toList b.cps.toList with h|h
 .show .inl (aI h)
 .show .inr (aI h)
def S5(a b:Str)(h:Ra a b=γ)(c:Ra b a=γ):a=b:=by have e:=qL (bj h) (bj c);cases a with|mk a=>cases b with|mk b=>ext a;ext b;simp only at e;rw[e]
theorem Fg:∀(r:aC) (x:Str),risingS x r=γ->(∀y∈r,Ra x y=γ)/\r.Pairwise λa b=>Ra a b=γ
 |[],x,_=>#v[λy h=>(bY h).elim,.nil]
 |z::r,x,h=>by
  delta risingS at h;rw[bt,il,ltCps_eq]at h;let#v[j,l]:=h;let#v[d,i]:=Fg r z l;have f:Ra x z=γ:=aI (of_decide_eq_false j);calc#v[λy c=>?_,.cons d i];rcases aD.1 c with e|c
  .rw[e];show f
  .show S4 _ _ _ f (d y c)
def NH:∀l:aC,sortedS l=γ->l.Pairwise λa b=>Ra a b=γ
 |[],_=>.nil
 |x::r,h=>.cons (Fg r x h).1 (Fg r x h).2
def NI{l:aC}(p:l.Perm c)(h:sortedS l=γ):l=FM c:=
 pB (λa b z z=>S5 a b) (NH l h) (List.pairwise_mergeSort S4 WL c) (p.t (me c Ra).symm)
theorem Yq:∀{a:List aa} {b:aC},kq a b->d? (b.map V.str) a
 |_,_,.nil=>.nil
 |_,_,.cons x t h=>.cons #v[t,J] (Yq h)
section
variable{G:Bg}
theorem HE:∀a:aC,bc G H (a.map D.str) (a.map V.str)
 |[]=>vV
 |x::a=>vS (zU x) (HE a)
end
end L4
namespace L4
open PySem PySem.Spec PySem.Calls PyProof.Rows PySem.W L2 L3
theorem Ad{b d:Type}{c:Nat->Nat->Bool}{f:b->KasT d}:∀t:KasT b,w9 c (t.bind f)=w9 c (f (w9 c t))
 |.ret a=>rfl
 |.ask i j k=>Ad (k (c i j))
structure Sto(c:Nat->Nat->Bool)(n:Nat):Prop where
 tr:∀i j k,i<n->j<n->k<n->c i j=γ->c j k=γ->c i k=γ
 tot:∀i j,i<n->j<n->i≠j->c i j=δ->c j i=γ
#print "Pr i j;Dsc j i" in def ϑ0(c:Nat->Nat->Bool)(p:Array Nat)(k:Nat):Prop:=∀i j,i<j->j<k->c (p.getD ϑ1 0) (p.getD ϑ2 0)=γ
def FN{p:Array Nat}(i:Nat):p.getD i 0=p[i]?.getD 0:=fN ..
theorem wC.size(h:wC n p):p.size=n:=by have:=h.length_eq;rw[cG,bK]at this;show this
def wC.ne(h:wC n p)(c:i<n)(d:j<n)(e:i≠j):p.getD i 0≠p.getD j 0:=by
 have b:p.toList.Nodup:=h.nodup_iff.2 mT;have f:=h.size;rw[FN,FN,c8 (),c8 ()];have a:=hU.1 b;intro z;rcases jr i j with y|y|y
 .show a i j (by rw[bK];omega) (by rw[bK];omega) y (by exists z)
 .show e y
 .show a j i (by rw[bK];omega) (by rw[bK];omega) y (by exists z.symm)
section
variable{c:Nat->Nat->Bool}{n:Nat}(o:Sto c n)(hn:0<n)
include o hn
theorem Pr.snoc{p:Array Nat}(h:wC n p){k:Nat}(d:1<=k)(l:k<n)(a:Pr c p k)(e:c (p.getD (k - 1) 0) (p.getD k 0)=γ):Pr c p (k+1):=λi j hij f=>by
 by_cases hjk:j=k
 .subst hjk;by_cases b:i=j - 1
  .rw[b];show e
  .show o.tr _ _ _ (h.getD hn _) (h.getD hn _) (h.getD hn _) (a i (j - 1) () ()) e
 .show a i j hij ()
theorem Dsc.snoc{p:Array Nat}(h:wC n p){k:Nat}(d:1<=k)(l:k<n)(a:Dsc c p k)(e:c (p.getD k 0) (p.getD (k - 1) 0)=γ):Dsc c p (k+1):=λi j hij f=>by
 by_cases hjk:j=k
 .subst hjk;by_cases b:i=j - 1
  .rw[b];show e
  .show o.tr _ _ _ (h.getD hn _) (h.getD hn _) (h.getD hn _) e (a i (j - 1) () ())
 .show a i j hij ()
theorem Kk(h:wC n p):∀f k,1<=k->k+f=n->Pr c p k->k<=w9 c (dU p f k)/\w9 c (dU p f k)<=n/\Pr c p (w9 c (dU p f k))/\(w9 c (dU p f k)<n->c (p.getD (w9 c (dU p f k)) 0) (p.getD (w9 c (dU p f k) - 1) 0)=γ)
 |0,k,b,e,a=>#v[aF _,by change k<=n;omega,a,λz=>au z (by change ¬k<n;omega)]
 |f+1,k,b,e,a=>by
  have d:w9 c (dU p (f+1) k)=w9 c (if c (p.getD k 0) (p.getD (k - 1) 0)=γ then .ret k else dU p f (k+1)):=rfl;rw[d];cases q:c (p.getD k 0) (p.getD (k - 1) 0)with
  |true=>rw[af J];show#v[aF _,by change k<=n;omega,a,λu=>q]
  |false=>rw[ah #[]];have j:=o.tot _ _ (h.getD hn _) (h.getD hn _) (h.ne () () ()) q;let#v[l,i]:=Kk h f (k+1) () () (Pr.snoc o hn h b () a j);show#v[by omega,i]
theorem LX(h:wC n p):∀f k,1<=k->k+f=n->Dsc c p k->∃m,w9 c (iJ f p k 0)=(p,m,0)/\k<=m/\m<=n/\Dsc c p m
 |0,k,b,e,a=>#v[k,J,aF _,by omega,a]
 |f+1,k,b,e,a=>by
  have i:w9 c (iJ (f+1) p k 0)=w9 c (if c (p.getD k 0) (p.getD (k - 1) 0)=γ then (if 0 > 0 then iJ f (fI p (k - (0+1)) k) (k+1) 0 else iJ f p (k+1) 0)else .ask (p.getD (k - 1) 0) (p.getD k 0) λd=>if d=γ then .ret (p,k,0)else iJ f p (k+1) (0+1)):=rfl;rw[i];cases q:c (p.getD k 0) (p.getD (k - 1) 0)with
  |true=>rw[af J,ah #[]];let#v[m,j,u,l,r]:=LX h f (k+1) () () (Dsc.snoc o hn h b () a q);show#v[m,j,by omega,l,r]
  |false=>rw[ah #[]];have t:=o.tot _ _ (h.getD hn _) (h.getD hn _) (h.ne () () ()) q;calc#v[k,?_,aF _,by omega,a];change w9 c (if c (p.getD (k - 1) 0) (p.getD k 0)=γ then _ else _)=_;rw[af t];rfl
theorem WM(h:wC n p)(f:k<=n)(d:Dsc c p k):Pr c (fI p 0 k) k:=λi j hij a=>by
 have l:=h.size;have e:∀t,t<k->(fI p 0 k).getD t 0=p.getD (k - 1 - t) 0:=λt b=>by rw[FN,FN];delta fI;rw[getElem?_mirror_all (),af #v[bM _,b],kW]
 rw[e i (),e j a];show d _ _ () ()
theorem S6(h:wC n p)(e:1<=k)(f:k<=n)(d:Dsc c p k):1<=(w9 c (gW k n p)).1/\(w9 c (gW k n p)).1<=n/\Pr c (w9 c (gW k n p)).2 (w9 c (gW k n p)).1:=by delta gW;rw[Ad];let#v[i,a,b,_]:=Kk o hn (h.rev 0 k) (n - k) k e () (WM o hn h f d);show#v[by change 1<=w9 c (dU (fI p 0 k) (n - k) k);omega,a,b]
theorem Kl(h:wC n p)(i:1<=k)(j:k+1<=n)(d:Dsc c p (k+1)):1<=(w9 c (fW k n p)).1/\(w9 c (fW k n p)).1<=n/\Pr c (w9 c (fW k n p)).2 (w9 c (fW k n p)).1:=by delta fW;rw[Ad];let#v[m,a,f,b,e]:=LX o hn h (n - (k+1)) (k+1) () () d;rw[a];change 1<=(w9 c (if 0 > 0 then _ else gW m n p)).1/\_;rw[ah #[]];show S6 o hn h () b e
theorem QC(h:wC n p):1<=(w9 c (fH n p)).1/\(w9 c (fH n p)).1<=n/\Pr c (w9 c (fH n p)).2 (w9 c (fH n p)).1:=by
 delta fH;rw[Ad];let#v[d,f,a,q]:=Kk o hn h (n - 1) 1 (aF _) () (λi j hij u=>by omega);generalize w9 c (dU p (n - 1) 1)=m at d f a q;by_cases e:m=n
 .rw[af (by rw[beq_iff_eq];show e)];show#v[d,f,a]
 .rw[ah (by rw[beq_iff_eq];show e)];by_cases l:m > 1
  .rw[af l];have t:w9 c (.ask (p.getD 0 0) (p.getD (m - 1) 0) λb=>if b=γ then .ret (m,p)else fW m n (fI p 0 m))=w9 c (if c (p.getD 0 0) (p.getD (m - 1) 0)=γ then .ret (m,p)else fW m n (fI p 0 m)):=rfl;rw[t,af (a 0 (m - 1) () ())];show#v[d,f,a]
  .rw[ah l];have r:m=1:=by omega
   subst r;calc Kl o hn h (aF _) () λi j hij u=>?_;have:i=0/\j=1:=by omega
   let#v[rfl,rfl]:=this;show q ()
theorem Fh(h:wC n p)(u:k<n)(a:Pr c p k):∀f l r,l<=r->r<=k->r - l<=f->(∀i,i<l->c (p.getD i 0) (p.getD k 0)=γ)->(∀i,r<=i->i<k->c (p.getD k 0) (p.getD i 0)=γ)->
  w9 c (iG p k f l r)<=k/\(∀i,i<w9 c (iG p k f l r)->c (p.getD i 0) (p.getD k 0)=γ)/\∀i,w9 c (iG p k f l r)<=i->i<k->c (p.getD k 0) (p.getD i 0)=γ
 |0,l,r,y,w,A,j,t=>#v[by change l<=k;omega,j,λi b=>t i (by have:l<=i:=b;omega)]
 |f+1,l,r,y,w,A,j,t=>by
  delta iG;by_cases e:l >= r
  .rw[af e];show#v[by change l<=k;omega,j,λi b=>t i (by have:l<=i:=b;omega)]
  .rw[ah e];change w9 c (if c (p.getD k 0) (p.getD ((l+r) / 2) 0)=γ then _ else _)<=k/\(∀i,i<w9 c (if c (p.getD k 0) (p.getD ((l+r) / 2) 0)=γ then _ else _)->_)/\∀i,w9 c (if c (p.getD k 0) (p.getD ((l+r) / 2) 0)=γ then _ else _)<=i->_;have B:(l+r) / 2<r:=by omega
   have d:l<=(l+r) / 2:=by omega
   generalize (l+r) / 2=m at B d;cases q:c (p.getD k 0) (p.getD m 0)with
   |true=>
    rw[af J];calc Fh h u a f l m d () () j λi b hik=>?_;by_cases z:i=m
    .rw[z];show q
    .show o.tr _ _ _ (h.getD hn _) (h.getD hn _) (h.getD hn _) q (a m i () hik)
   |false=>
    rw[ah #[]];have x:=o.tot _ _ (h.getD hn _) (h.getD hn _) (h.ne u () ()) q;calc Fh h u a f (m+1) r () w () (λi b=>?_) t;by_cases z:i=m
    .rw[z];show x
    .show o.tr _ _ _ (h.getD hn _) (h.getD hn _) (h.getD hn _) (a i m () ()) x
theorem WN(h:wC n p)(w:k<n)(x:m<=k)(a:Pr c p k)(q:∀i,i<m->c (p.getD i 0) (p.getD k 0)=γ)(r:∀i,m<=i->i<k->c (p.getD k 0) (p.getD i 0)=γ):Pr c (bubble p k (k - m)) (k+1):=λi j hij u=>by
 have y:=h.size;have e:∀t,(bubble p k (k - m)).getD t 0=if t=m then p.getD k 0 else if m<t/\t<=k then p.getD (t - 1) 0 else p.getD t 0:=λt=>by
  rw[FN,getElem?_bubble () _ (),show k - (k - m)=m by omega]
  repeat' split
  all_goals rw[FN]
 rw[e,e];by_cases b:i=m
 .rw[af b,ah (),af ()];show r _ () ()
 .rw[ah b];by_cases f:j=m
  .rw[af f,ah ()];show q _ ()
  .rw[ah f];by_cases d:m<i/\i<=k
   .rw[af d,af ()];show a _ _ () ()
   .rw[ah d];by_cases l:m<j/\j<=k
    .rw[af l];show a _ _ () ()
    .rw[ah l];show a _ _ () ()
theorem OV:∀f (p:Array Nat) k,wC n p->1<=k->k+f=n->Pr c p k->Pr c (w9 c (kas_bin f p k)) n
 |0,p,k,h,l,e,a=>by have:k=n:=e;subst this;show a
 |f+1,p,k,h,l,e,a=>by delta kas_bin;rw[Ad];let#v[b,d,j]:=Fh o hn h (k:=k) () a k 0 k (bM _) (aF _) () (λi m=>by omega) (λi m hik=>by omega);show OV f _ (k+1) (h.bub _ _) () () (WN o hn h () b a d j)
theorem S7:Pr c (w9 c (gY n)) n:=by
 delta gY;rw[Ad];have d:wC n (k5 (bh n)):=by delta wC;show kQ _
 let#v[b,i,a]:=QC o hn d;have h:wC n (w9 c (fH n (k5 (bh n)))).2:=(Jp hn d n).run c _;by_cases e:(w9 c (fH n (k5 (bh n)))).1<n
 .rw[af e,Nat.max_eq_left b];show OV o hn _ _ _ h b () a
 .rw[ah e];have f:(w9 c (fH n (k5 (bh n)))).1=n:=by omega
  rw[f]at a;show a
end
section
def Tup2(K:ay)(H:Hp)(y:V)(k:aC):Prop:=∃a p q,y=.ref a/\k=[p,q]/\fl K H a [.str p,.str q]
end
section
def It2(h:Heap)(b:List aa)(c:List aC):Prop:=∀i,i<b.length->∃a p q t v,b.getD i Value.none=.ref a/\c.getD i []=[p,q]/\dW h a #[.str p t,.str q v]/\b[i]?=U (.ref a)
def QD(item:It2 s.heap b I)(H:0<b.length)(hC:C (tuples' γ) s):ar (model prog w) A (keyKind' b.toArray) C (λk k=>False) s:=by
 have oz:∀(l:List aa),(∀v∈l,∃i,i<b.length/\b[i]?=U v)->∃fs,KatTups s.heap l fs/\fs.length=l.length/\∀f∈fs,∃(x:Str) (t:Tok),f=.str x t:=λl=>by
  induction l with
  |nil=>show λk=>#v[[],sF,J,λf d=>by ext d]
  |cons v l B=>
   intro c;let#v[fs,j,r,m]:=B λw z=>c w (.tail _ z);let#v[i,h,y]:=c v (.head _);let#v[a,p,q,t,w,_,_,#v[o,E,F,n,G],u]:=item i h;rw[y]at u;ext u;calc#v[.str p t::fs,se E F G (by simp) j,by rw[aK,aK,r],λf d=>?_];rcases aD.1 d with rfl|d
   .show#v[p,t,J]
   .show m f d
 let#v[fs,j,r,m]:=oz b λv c=>by let#v[i,h,e]:=eC.1 c;show#v[i,h,by rw[aH h,e]]
 refine kat_kind (T:=.type "str") j () (λv c=>?_) #[] ?_
 .let#v[x,t,rfl]:=m v c;show .now
 .rw[show (Value.type "str" != Value.type "tuple")=γ by decide];show hC
def S8(item:It2 s.heap a f)(hij:i<a.length/\j<a.length)(hC:C (xp (f.getD i []) (f.getD j [])) s):jO prog w A (tuples' γ) a i j C s:=by
 let#v[a1,b,d,h,m,r,y,#v[G,u,c1,E,p],_]:=item i hij.1;let#v[B,c,e,l,o,t,z,#v[H,x,c2,F,q],_]:=item j hij.2;delta jO;rw[r,t];rw[y,z]at hC;calc kat_lt u p x q ?_;change KatLex _ _ _ _ _ _ [(Value.str b h,Value.str c l),(Value.str d m,Value.str e o)] 0 _;calc jL (kB b h c l _ _ _ _ ?_);delta xp at hC;by_cases hpp:b=c
 .subst hpp;rw[af J]at hC;rw[beq_self_eq_true];calc lg (jL (kB d m e o _ _ _ _ ?_));delta xp at hC;by_cases hqq:d=e
  .subst hqq;rw[af J]at hC;rw[beq_self_eq_true];show lg (kat_nil hC)
  .rw[ah hqq]at hC;rw[beq_false_of_ne hqq];show kat_no (kat_one _ _ (qd hC))
 .rw[ah hpp]at hC;rw[beq_false_of_ne hpp];show kat_no (oneLt_str hC)
end
def WO:D->Option aC
 |.bx [.str p,.str q]=>U [p,q]
 |_=>Z
def FP:aZ->Option (List aC)
 |[]=>U []
 |d::a=>match WO d,FP a with
  |some k,U b=>U (k::b)
  |_,_=>Z
section
variable{G:Bg}
#print h
def S9(r:df G H d v)(e:WO d=U k):Tup2 G.K H v k:=by
 delta WO at e;split at e
 .rename_i p q;ext e;delta df at r;let#v[a,u,rfl,h,i]:=r;let#v[o,l,rfl,b,j]:=An i;let#v[t,m,rfl,c,f]:=An j;delta bc at f;delta df at b c;subst f b c;show#v[a,p,q,J,J,h]
 .ext e
end
#print f
def Ta(h:ltS a b=γ)(d:ltS b c=γ):ltS a c=γ:=aI (List.lt_trans (bj h) (bj d))
def OW(e:a≠b)(h:ltS a b=δ):ltS b a=γ:=by have c:b.cps.toList<=a.cps.toList:=of_decide_eq_false h;calc aI (Decidable.byContradiction λz=>e ?_);have d:a.cps.toList<=b.cps.toList:=z;have q:=qL d c;cases a with|mk a=>cases b with|mk b=>ext a;ext b;simp only at q;rw[q]
def OX(a:Str):ltS a a=δ:=aL (List.lt_irrefl _)
def NJ(p q a b:Str):xp [p,q] [a,b]=if p=a then (if q=b then δ else ltS q b)else ltS p a:=by delta xp;delta xp;delta xp;rfl
#print h
def Tc{c:Str}(h:xp [p,q] [e,f]=γ)(a:xp [e,f] [c,i]=γ):xp [p,q] [c,i]=γ:=by
 rw[NJ]at h a ⊢;by_cases d:p=e
 .subst d;rw[af J]at h;by_cases b:p=c
  .subst b;rw[af J]at a ⊢;split at h
   .ext h
   .split at a
    .ext a
    .rename_i j l;have:=Ta h a;rw[ah (λz=>by subst z;rw[OX]at this;ext this)];show this
  .rw[ah b]at a ⊢;show a
 .rw[ah d]at h;by_cases b:e=c
  .subst b;rw[ah d];show h
  .rw[ah b]at a;have:=Ta h a;rw[ah (λz=>by subst z;rw[OX]at this;ext this)];show this
#print f
def WQ(e:([p,q]:aC)≠[c,d])(h:xp [p,q] [c,d]=δ):xp [c,d] [p,q]=γ:=by
 rw[NJ]at h ⊢;by_cases a:p=c
 .subst a;rw[af J]at h ⊢;by_cases b:q=d
  .subst b;show au J e
  .rw[ah b]at h;rw[ah (b0 b)];show OW b h
 .rw[ah a]at h;rw[ah (b0 a)];show OW a h
def WR(p q:Str):xp [p,q] [p,q]=δ:=by rw[NJ,af J,af J]
def sto2{ks:List aC}(nd:ks.Nodup)(h2:∀k∈ks,∃p q,k=[p,q]):Sto (λi j=>xp (ks.getD i []) (ks.getD j [])) ks.length where
 tr:=λi j k hi a l h h'=>by rw[bQ,aH hi]at h ⊢;rw[bQ,aH a]at h h';rw[bQ,aH l]at h' ⊢;let#v[r,q1,b]:=h2 _ (cI hi);let#v[t,q2,c]:=h2 _ (cI a);let#v[u,w,d]:=h2 _ (cI l);erw[mP]at h h' ⊢;rw[b,c]at h;rw[c,d]at h';rw[b,d];show Tc h h'
 tot:=λi j hi a ne h=>by
  have e:ks.getD i []=ks[i]:=by rw[bQ,aH hi];rfl
  have f:ks.getD j []=ks[j]:=by rw[bQ,aH a];rfl
  rw[e,f]at h;rw[e,f];have m:ks[i]≠ks[j]:=λz=>by
   have o:=hU.1 nd;rcases jr i j with y|y|y
   .show o i j hi a y z
   .show ne y
   .show o j i a hi y z.symm
  let#v[r,q1,b]:=h2 _ (cI hi);let#v[t,q2,c]:=h2 _ (cI a);rw[b,c]at h m;rw[b,c];show WQ m h
def Te{c:List aC}(m:c.Nodup)(h:∀k∈c,∃p q,k=[p,q])(f:0<c.length):((DY (λi j=>xp (c.getD i []) (c.getD j [])) c.length).map λi=>c.getD i []).Pairwise λa b=>xp a b=γ:=by have a:=S7 (sto2 m h) f;have l:=(EA f).run (λi j=>xp (c.getD i []) (c.getD j [])) (gY c.length);have sz:=wC.size l;rw[qw,hU];intro i j d e hij;delta DY at d e ⊢;rw[bK]at d e;have:=a i j hij ();rw[FN,FN,c8 d,c8 e]at this;exists this
def Tf{d:List aC}(p:d.Perm c)(u:d.Nodup)(r:∀k∈d,∃p q,k=[p,q])(m:0<d.length):
  (DY (λi j=>xp (d.getD i []) (d.getD j [])) d.length).map (λi=>d.getD i [])=(DY (λi j=>xp (c.getD i []) (c.getD j [])) c.length).map λi=>c.getD i []:=by
 have t:c.Nodup:=p.nodup_iff.1 u;have f:∀k∈c,∃p q,k=[p,q]:=λk A=>r k (p.mem_iff.2 A);have e:0<c.length:=by rw[<-p.length_eq];show m
 have w:∀l:List aC,(bh l.length).map (λi=>l.getD i [])=l:=λl=>by
  apply qM
  .rw[ak,cG]
  .intro i a b;rw[kI,my,bQ,aH b];rfl
 have o:∀l:List aC,0<l.length->((DY (λi j=>xp (l.getD i []) (l.getD j [])) l.length).map λi=>l.getD i []).Perm l:=λl B=>by have:=(zp (λi j=>xp (l.getD i []) (l.getD j [])) B).map λi=>l.getD i [];rw[w]at this;show this
 calc pB (le:=λa b=>xp a b=γ) (λa b y z h x=>?_) (Te u r m) (Te t f e) ((o d m).t (p.t (o c e).symm));let#v[E,G,rfl]:=r a ((o d m).mem_iff.1 y);let#v[F,H,rfl]:=f b ((o c e).mem_iff.1 z);have:=Tc h x;rw[WR]at this;ext this
end L4
namespace L4
open PySem PySem.Spec PyProof.Rows L2 L3
structure Bz where
 P:bb
 w:aQ
 mg:Str->Option aa
 a8:Heap
 G:Bg
structure ZE(X:Cx)(B:Bz)(e:Expr)(f:FE):Prop where p:PE X e (tF B.G f)
structure ZN(X:Cx)(B:Bz)(e:Expr)(f:FA):Prop where p:PE X e (Bx B.G f)
structure ZT(X:Cx)(B:Bz)(e:Expr)(f:FT):Prop where p:PT X e (n3 B.G f)
structure ZW(X:Cx)(B:Bz)(e:Expr)(f:FT):Prop where p:PW X e (n3 B.G f)
structure ZF(X:Cx)(B:Bz)(e:List Expr)(f:FT):Prop where p:PIf X e (n3 B.G f)
structure ZA(X:Cx)(B:Bz)(e:List Expr)(f:FA):Prop where p:PA X e (t7 B.G f)
structure ZM(X:Cx)(B:Bz)(e:List Expr)(i:Nat)(f:FA):Prop where p:PA X e (DV B.G i f)
structure ZS(X:Cx)(B:Bz)(e:Stmt)(f:FS):Prop where p:PS X e (ke B.G f)
structure ZB(X:Cx)(B:Bz)(e:List Stmt)(f:FS):Prop where p:l' X e (ke B.G f)
structure ZI(X:Cx)(B:Bz)(tg e:Expr)(f:FA):Prop where p:PI X tg e (P? B.G f)
structure ZO(X:Cx)(B:Bz)(e:Option Expr)(f:FO):Prop where p:PO X e (tFO B.G f)
structure ZG(X:Cx)(B:Bz)(e:Expr)(n:Nat)(f:FG):Prop where p:PG X e (tFG B.G n f)
structure ZH(X:Cx)(B:Bz)(e:List Expr)(n:Nat)(f:aZ->aU->Option aU):Prop where p:P' X e (RM B.G n f)
structure ZK(X:Cx)(e:Option Expr)(i:Option Int):Prop where p:PO X e (tO i)
structure ZP(X:Cx)(B:Bz)(pos:Pos)(ks:List (Option Expr))(vs:List Expr)(l:List (Str×FE)):Prop where p:PPs X pos ks vs (SN B.G l)
structure ZV(X:Cx)(e:Expr)(i:Nat):Prop where p:PE X e (AC i)
abbrev Gz(X:Cx)(x:Str):Prop:=X.a9.kindOf x=U .globalImplicit
abbrev Dz(x:Str):Prop:=(x==("__debug__" : Str))=δ
abbrev Nz(x:Str):Prop:=(decide (x≠"__name__")&&!(x==("__debug__" : Str)))=γ
abbrev Sz(X:Cx)(e:Expr)(a:List Expr):Prop:=aE (e::a) X.a9=(δ,eval e X.a9)::aE a X.a9
abbrev S1(X:Cx)(e:Expr):Prop:=aE [e] X.a9=[(δ,eval e X.a9)]
abbrev Lz(X:Cx)(pos:Pos)(a:List Expr):Prop:=(bJ pos (aE a X.a9)).any (·.1)=δ
abbrev Wz(X:Cx)(e o:Expr)(pos:Pos):Prop:=eM e (U o) pos.line X.a9=pure δ
abbrev Az(X:Cx)(o:Expr)(m:Str):Prop:=fA o m X.a9 (eval o X.a9)=eval o X.a9
abbrev Ez(p pos:Pos):Prop:=(p.endLine==pos.line)=γ
abbrev Iz(e:Expr):Prop:=(λo i=>subscripted e δ o i)=λo i=>operate [o,i] (getItem o i)
abbrev Fz(X:Cx)(e:Expr):Prop:=(λx=>jk e X.a9 x)=λx=>pure x
class Cz(X:Cx)(B:outParam Bz)(k:outParam Nat):Prop where
 P:X.prog=B.P
 w:X.w=B.w
 K:X.K=B.G.K
 mg:X.mg=B.mg
 b:X.a8=B.a8
 c:X.k?=γ
 r:xi k X.A
class Yb(B:Bz):Prop where y:Yw B.P B.w B.mg B.a8 B.G
class Df(B:Bz)(j:outParam Nat)(x:Str)(sp:Sp):Prop where p:∃ps,AJ B.P B.w B.G.K B.mg B.a8 j x ps sp
class Kf(B:Bz)(j:outParam Nat)(x:Str)(c:Nat)(g:aZ->Option (aC×aZ))(dds:aZ):Prop where
 p:∃ps,J1 B.G B.P B.w B.mg B.a8 j x c ps (dds.map vD) g
 f:dds.all yf=γ
class Mf(B:Bz)(j:outParam Nat)(m:Str)(g:Nat->Option (aZ->Option D)):Prop where p:∀c h,g c=U h->Fb B.G B.P B.w B.mg B.a8 j m c h
class Ff(B:Bz)(ok:Nat->Bool)(f:Str):Prop where p:∀c,ok c=γ->U? B.G.K (B.G.ca c)/\AZ B.G.K (B.G.ca c) f
class Af(B:Bz)(c:Nat)(xs:outParam aC):Prop where p:CF B.G.K (B.G.ca c) xs
class Nb(B:Bz)(x:Str):Prop where p:B.mg x=Z
class Co(B:Bz)(x:Str)(d:D):Prop where p:Di B.G B.mg x d
class Ic(B:Bz)(x:Str)(t:Ty->Option Bool):Prop where p:∃c,Ni B.G c t/\B.mg x=U (.ref (B.G.ca c))
class Ij(B:Bz)(n:Nat):Prop where p:∀j k,j<n->k<n->B.G.ca j=B.G.ca k->j=k
class OpC(op:Operator)(g:D->D->Option D):Prop where p:∀(X:Cx) (G:Bg),∃r,js X (c5 op) r/\k4 G r g
#print "1 Mod yg Zj Z9;2 FloorDiv DF Vc aaa;3 Mult zK Zi Z8;4 Sub OF Zh Z7;5 Pow FC Zk aab;6 Add wq Zg Z6;8 Mult LG M7 WI" in instance inϑ0:OpC .ϑ1 ϑ2:=#v[λz z=>#v[_,ϑ3,ϑ4]]
class H?(op:CmpOp)(g:D->D->Option D):Prop where p:∀(X:Cx) (G:Bg),X.K=G.K->X.A.units+64<cLine->∃r,js X (bz op) r/\k4 G r g
#print "9 Eq δ g S;10 NotEq γ h T" in instance inϑ0:H? .ϑ1 (ey ϑ2):=#v[λz z h u=>#v[_,aaϑ3 u h,adϑ4]]
#print "1 In δ aai;2 NotIn γ Qh" in instance in1ϑ0:H? .ϑ1 (kv ϑ2):=#v[λz z h z=>#v[_,ϑ3 h,Yk]]
#print "13 Is zf Zl aad;14 IsNot Bn Vd Wb;16 Lt IF adf adO;17 LtE AD adg adP;18 Gt Lx adh adQ;19 GtE Z5 adi adR;20 LtE RY P7 aac" in instance inϑ0:H? .ϑ1 ϑ2:=#v[λz z z z=>#v[_,ϑ3,ϑ4]]
class B1(x:Str)(g:D->Option D):Prop where p:∀(X:Cx) (G:Bg),X.K=G.K->X.k?=γ->∃(id:String) (r:bA->Hp->VK->Prop),xA X (.builtin id) r/\Jj G r g/\eI x=U (.builtin id)
instance in21:B1 "len" w6:=#v[λz z h z=>#v[_,_,Qj h,aaj,rA]]
#print "2 ll AE k l;3 ny Hk p r" in instance in2ϑ0:B1 "aϑ1" ϑ2:=#v[λz z h c=>#v[_,_,Qϑ3 c h,aaϑ4,boot_aϑ1]]
class KtC(x:Str)(T:outParam String):Prop where p:(∀(X:Cx) (G:Bg) y b,yG T y=U b->c6 X.K (y.val G) (.type T)=U b)/\eI x=U (.type T)
instance in24:KtC "str" "str" := #v[λz z=>Wh,Pv.boot_str]
instance in25:KtC "int" "int" := #v[λz z=>WA,sG]
instance in26:KtC "bool" "bool" := #v[λz z=>SK,Pv.boot_bool]
instance in27:KtC "list" "list" := #v[λz z=>Sj,sf]
instance in28:KtC "tuple" "tuple" := #v[λz z=>ζ,rR]
theorem Yr:∀{dds:aZ},dds.all yf=γ->bc G H dds (dds.map vD)
 |[],_=>vV
 |d::a,h=>by rw[iy,bt]at h;show vS (Ek h.1 H) (Yr h.2)
def vj(X:Cx)(i:Nat)(x:Str):Bool:=decide (X.N[i]?=U x)&&(match X.a9.scope.names.lookup x with|some .local=>γ|some .cell=>γ|some .free=>γ|_=>δ)&&!(x==("__debug__" : Str))&&!(x==("__classdict__" : Str))
def xr(X:Cx)(i:Nat)(x:Str):Bool:=decide X.N.Nodup&&decide (X.N[i]?=U x)&&(match X.a9.scope.names.lookup x with|some .local=>γ|some .cell=>X.fn x|_=>δ)
section
#print h
def L'(h:vj X i x=γ):PE X (.Name x p) (AC i):=by
 delta vj at h;erw[bt,bV,il]at h;let#v[#v[#v[b,a],c],d]:=h;calc pv i b ?_ c d;split at a
 .rename_i e;show .inl e
 .rename_i e;show .inr (.inl e)
 .rename_i e;show .inr (.inr e)
 .ext a
#print f
#print "aeb E cV M8;aaF E vu adL;WS N Qf V6" in def ϑ0(h:vj X i x=γ):Zϑ1 X B (.Name x p) (ϑ2 i):=#v[ϑ3 (L' h)]
#print h
def GB(h:xr X i x=γ):X.N.Nodup/\X.N[i]?=U x/\L2.Loc X.a9.scope x/\(X.fn x=γ\/X.a9.scope.names.lookup x=U .local):=by
 delta xr at h;erw[bt,bV]at h;let#v[#v[b,c],a]:=h;split at a
 .rename_i e;show#v[b,c,.inl e,.inr e]
 .rename_i e;show#v[b,c,.inr e,.inl a]
 .ext a
#print f
def pgI(h:xr X i x=γ):PG X (.Name x p) (Ah i):=by let#v[a,b,c,d]:=GB h;show Oe a b c d
def aaG(h:xr X i x=γ)(a:Nat.blt i n=γ):ZG X B (.Name x p) n (gN i):=#v[RN n (pgI h) (Nat.blt_eq.mp a)]
def stW(h:xr X i x=γ)(f:PE X e l)(j:Wz X e (.Name x p) pos):PS X (.Assign [.Name x p] e pos) (Eb l (Ah i)):=by let#v[a,b,c,d]:=GB h;show QZ a b c f j d
#print "H a E f b vM OA;I b N a c yd RP" in def aaϑ0(h:xr X i x=γ)(ϑ1:Zϑ2 X B e ϑ3)(ϑ4:Wz X e (.Name x p) pos):ZS X B (.Assign [.Name x p] e pos) (ϑ5 i ϑ3):=#v[ϑ6 (stW h ϑ1.p ϑ4)]
def aaJ(h:xr X i x=γ)(a:Wz X (.Dict [] [] b) (.Name x p) pos):ZS X B (.Assign [.Name x p] (.Dict [] [] b) pos) (Et i):=#v[So (stW h Cr a)]
def aaK [O:OpC j g](h:ZE X B e f)(i:ZE X B a b):ZE X B (.BinOp e j a pos) (c2 g f b):=by let#v[r,c,d]:=O.p X B.G;show#v[ady c d h.p i.p]
def aaL [C:Cz X B k](c:ZE X B e f)(d:ZE X B a b)(h:Iz a):ZE X B (.Subscript e a pos) (c2 e7 f b):=#v[adz (ix_X C.K) adU c.p d.p λo i=>congrFun (congrFun h o) i]
def WT [C:Cz X B k](h:vj X i x=γ)(c:ZE X B a b)(d:Iz a):ZE X B (.Subscript (.Name x p) a pos) (E6 i b):=#v[Z3 (Os (RB B.G.K C.K) (L' h) c.p λo i=>congrFun (congrFun d o) i)]
def aaM [C:Cz X B k](c:ZE X B e f)(d:ZE X B a b)(h:Iz a):ZE X B (.Subscript e a pos) (c2 wZ f b):=#v[Wj (Lg C.r) c.p d.p λo i=>congrFun (congrFun h o) i]
section
def aaN [O:H? b g][C:Cz X B k](i:ZE X B e f)(j:ZE X B a c)(l:gO b a=δ):ZE X B (.Compare e [b] [a] pos) (c2 g f c):=by let#v[r,d,h]:=O.p X B.G C.K C.r.units;show#v[ZJ d h i.p j.p l]
def aaO [O:H? b g][C:Cz X B k](i:ZE X B e f)(j:ZE X B a c)(l:gO b a=δ):ZT X B (.Compare e [b] [a] pos) (cT (c2 g f c)):=by let#v[r,d,h]:=O.p X B.G C.K C.r.units;show#v[VC d h i.p j.p l]
def aaP [O:H? c g][d:H? a j][C:Cz X B k](u:ZE X B e f)(w:ZE X B b h)(x:ZE X B o i)(y:lastMarks [c,a] [b,o]=δ):ZE X B (.Compare e [c,a] [b,o] pos) (yK g j f h i):=by let#v[r,l,m]:=O.p X B.G C.K C.r.units;let#v[z,q,t]:=d.p X B.G C.K C.r.units;show#v[Se l q m t u.p w.p x.p y]
def aaQ [O:H? c g][d:H? a j][C:Cz X B k](u:ZE X B e f)(w:ZE X B b h)(x:ZE X B o i)(y:lastMarks [c,a] [b,o]=δ):ZT X B (.Compare e [c,a] [b,o] pos) (cT (yK g j f h i)):=by let#v[r,l,m]:=O.p X B.G C.K C.r.units;let#v[z,q,t]:=d.p X B.G C.K C.r.units;show#v[Qn l q m t u.p w.p x.p y]
end
def aaR(h:ZE X B e f)(a:(λwhole=>isTrue e X.a9 whole)=λwhole=>(do let v<-whole;standAt e.pos;holding [v] (truthy v))):ZT X B e (cT f):=#v[VD h.p λw=>congrFun a w]
#print "S Or yT RG;T And Ao VG" in def aaϑ0(f:ZT X B e c)(h:ZW X B (.BoolOp .ϑ1 (a::b) pos) d):ZT X B (.BoolOp .ϑ1 (e::a::b) pos) (ϑ2 c d):=#v[PW.pt (ϑ3 f.p h.p)]
def aaU [C:Cz X B k][Q:Co B x d](a:Gz X x)(hd:Dz x):ZE X B (.Name x pos) (cC d):=#v[Sh (C.mg▸Q.p) a hd]
def aaV [C:Cz X B k][Q:Ff B ok m](b:ZE X B e f)(a:Az X e m):ZE X B (.Attribute e m pos) (c1 (vU ok m) f):=#v[RR b.p (C.K▸Q.p) a]
section
variable(hg:Gz X x)(hd:Dz x)(hs:Sz X e es)(hl:Lz X pos es)
include hg hd
theorem dz [C:Cz X B k][Q:Df B j x c]:∃a,AJ X.prog X.w X.K X.mg X.a8 j x a c:=by rw[C.P,C.w,C.K,C.mg,C.b];show Q.p
theorem aaW{g:aZ->Option aZ}[C:Cz X B k][Q:Df B j x (vf B.G g)](a:eR j k=γ):ZN X B (.Call (.Name x p) [] [] pos) (v7 g vH):=by let#v[b,q]:=dz hg hd (Q:=Q);show#v[Sf q (C.r.mono (eK.mp a)) hg hd]
include hs hl
#print "X D gp E t aan;Y aZ vf N 7 We" in theorem aaϑ0{g:aZ->Option ϑ1}[C:Cz X B k][Q:Df B j x (ϑ2 B.G g)](b:ZA X B (e::es) a)(c:eR j k=γ):Zϑ3 X B (.Call (.Name x p) (e::es) [] pos) (vϑ4 g a):=by let#v[d,q]:=dz hg hd (Q:=Q);show#v[ϑ5 q (C.r.mono (eK.mp c)) b.p hg hd hs hl]
theorem aaZ{g:aZ->aZ->Option (D×aZ)}[C:Cz X B k][Q:Df B j x (spM B.G g)](d:ZV X e i)(b:ZA X B es a)(c:eR j k=γ):ZE X B (.Call (.Name x p) (e::es) [] pos) (v8 g i a):=by let#v[f,q]:=dz hg hd (Q:=Q);show#v[Wf q (C.r.mono (eK.mp c)) d.p b.p hg hd hs hl]
theorem aa0{g:aZ->aZ->Option (D×aZ)}[C:Cz X B k][Q:Df B j x (t6 B.G g)](b:ZM X B (e::es) i a)(c:eR j k=γ):ZE X B (.Call (.Name x p) (e::es) [] pos) (xE g i a):=by let#v[d,q]:=dz hg hd (Q:=Q);show#v[WH q (C.r.mono (eK.mp c)) b.p hg hd hs hl]
theorem aa1{g:aZ->Option (aC×aZ)}{dds:aZ}[C:Cz X B k][Q:Kf B j x c g dds](h:ZA X B (e::es) a)(i:eR (j+1) k=γ):ZE X B (.Call (.Name x p) (e::es) [] pos) (wm c (λd=>g (d++dds)) a):=by let#v[l,q]:=Q.p;show#v[Wg (by rw[C.P,C.w,C.mg,C.b];show q) (λH=>Yr Q.f) (C.r.mono (eK.mp i)) h.p C.K hg hd hs hl]
end
def mz{g:Nat->Option (aZ->Option D)}[C:Cz X B k][Q:Mf B j m g]:∀c h,g c=U h->Fb B.G X.prog X.w X.mg X.a8 j m c h:=by rw[C.P,C.w,C.mg,C.b];show Q.p
def aa2{g:Nat->Option (aZ->Option D)}{pl:Sem Bool}[C:Cz X B k][Q:Mf B j m g](c:ZE X B o f)(b:eR j k=γ)
  (d:eval (.Call (.Attribute o m apos) [] [] pos) X.a9=(do
   let a<-eval o X.a9
   standAt apos.atName
   let (f,first)<-holding [a] (getMethod a m pl)
   callWith pos f first (bJ pos (aE [] X.a9)) (backToKw pos (dR [] X.a9)))):ZE X B (.Call (.Attribute o m apos) [] [] pos) (v9 g m f vH):=#v[Nd mz (C.r.mono (eK.mp b)) c.p C.K d]
def aa3{g:Nat->Option (aZ->Option D)}{pl:Sem Bool}[C:Cz X B k][Q:Mf B j m g](l:ZE X B o f)(d:ZA X B (e::b) a)(h:eR j k=γ)(q:Sz X e b)(i:Lz X pos b)
  (t:eval (.Call (.Attribute o m apos) (e::b) [] pos) X.a9=(do
   let c<-eval o X.a9
   standAt apos.atName
   let (f,first)<-holding [c] (getMethod c m pl)
   callWith pos f first (bJ pos (aE (e::b) X.a9)) (backToKw pos (dR [] X.a9)))):ZE X B (.Call (.Attribute o m apos) (e::b) [] pos) (v9 g m f a):=#v[Qo mz (C.r.mono (eK.mp h)) l.p d.p C.K q i t]
section
variable(hg:Gz X x)(hd:Nz x)(hs:S1 X e)
include hg hd hs
theorem cbI{id:String}[C:Cz X B k][N:Nb B x](b:xA X (.builtin id) r)(c:eI x=U (.builtin id))(a:PA X [e] t):PE X (.Call (.Name x p) [e] [] pos) (tCB r t):=by erw[bt,bV,il]at hd;show GR b hg (C.mg▸N.p) c a hd.1 hd.2 hs J
theorem ctI [C:Cz X B k][N:Nb B x](b:xA X (.type T) r)(c:eI x=U (.type T))(a:PA X [e] t):PE X (.Call (.Name x p) [e] [] pos) (tCB r t):=by erw[bt,bV,il]at hd;show PR b hg (C.mg▸N.p) c a hd.1 hd.2 hs J
theorem aa4{g:D->Option D}[Q:B1 x g][C:Cz X B k][N:Nb B x](h:ZE X B e f):ZE X B (.Call (.Name x p) [e] [] pos) (c1 g f):=by let#v[id,r,a,b,d]:=Q.p X B.G C.K C.c;show#v[Yl b (cbI hg hd hs a d (yF h.p zA hs))]
end
section
variable(hs:S1 X e)
include hs
#print "5 list N A R9 Nc sf;6 tuple E B Sa Ql rR" in theorem aaϑ0 [C:Cz X B k][N:Nb B "ϑ1"](b:Gz X "ϑ1")(a:ZE X B e f):Zϑ2 X B (.Call (.Name "ϑ1" p) [e] [] pos) (Cϑ3 f):=#v[ϑ4 (ctI b #[] hs (ϑ5 C.K) ϑ6 (yF a.p zA hs))]
theorem aa7 [C:Cz X B k][N:Nb B "sorted"](b:Gz X "sorted")(a:ZE X B e f):ZN X B (.Call (.Name "sorted" p) [e] [] pos) (Hy f):=#v[NC (cbI b #[] hs (Kc C.r.units C.K) n4 (yF a.p zA hs))]
theorem aa8 [C:Cz X B k][N:Nb B "len"][h:Nb B "set"](j:Gz X "len")(a:Gz X "set")(i:ZE X B e f)(z:aE [Expr.Call (.Name "set" b) [e] [] d] X.a9=[(δ,eval (.Call (.Name "set" b) [e] [] d) X.a9)]):ZE X B (.Call (.Name "len" p) [.Call (.Name "set" b) [e] [] d] [] pos) (c1 J7 f):=#v[Qu C.K (Qt ad5 C.r.units C.c j (C.mg▸N.p) a (C.mg▸h.p) i.p z hs)]
theorem aa9 [C:Cz X B k][N:Nb B "range"](b:Gz X "range")(a:ZE X B e f):ZI X B c (.Call (.Name "range" p) [e] [] pos) (v? f):=#v[M9 (PJ b (C.mg▸N.p) (yF a.p zA hs) hs)]
end
section
variable(hi:Gz X "isinstance")(hg:Gz X x)(hs:aE [e,.Name x p2] X.a9=[(δ,eval e X.a9),(δ,eval (.Name x p2) X.a9)])(hs':S1 X (.Name x p2))
include hi hg hs hs'
theorem aba [Q:KtC x T][C:Cz X B k][N:Nb B "isinstance"][a:Nb B x](c:ZE X B e f)(hd:Nz x):ZE X B (.Call (.Name "isinstance" p) [e,.Name x p2] [] pos) (c1 (zS (yG T)) f):=by
 erw[bt,bV,il]at hd;refine#v[OJ (GR (Jk (.b T) (Q.p.1 X B.G) Si C.K) hi (C.mg▸N.p) qW (xf c.p (xf (U5 hg (C.mg▸a.p) Q.p.2 J hd.1 hd.2) zO ?_) ?_) #[] #[] ?_ ?_)]
 .show hs'
 .rw[hs,hs']
 .rw[hs,hs']
 .rw[hs'];rfl
theorem abb [Q:Ic B x t][C:Cz X B k][N:Nb B "isinstance"](a:ZE X B e f)(hd:Dz x):ZE X B (.Call (.Name "isinstance" p) [e,.Name x p2] [] pos) (c1 (zS t) f):=by
 let#v[c,b,d]:=Q.p;refine#v[OJ (GR (Nj b C.K) hi (C.mg▸N.p) qW (xf a.p (xf (D9 hg (C.mg▸d) J hd) zO ?_) ?_) #[] #[] ?_ ?_)]
 .show hs'
 .rw[hs,hs']
 .rw[hs,hs']
 .rw[hs'];rfl
end
section
variable(hb:Az X o m)(hl:Ez apos pos)(hs:S1 X e)
include hb hl hs
theorem bmI{id:String}[C:Cz X B k](d:oj T)(slot:Slot T m id)(hty:typeOf (.builtin id)=pure (.type "method_descriptor"))(b:MtR X id r)(c:PE X o to)(a:PA X [e] t):PE X (.Call (.Attribute o m apos) [e] [] pos) (tBM B.G.K T r to t):=
 RD B.G.K d slot hty b c a hb (by rw[hs];rfl) hl hs J C.K
end
section
variable(h:vj X i x=γ)(hb:Az X (.Name x p) m)(hl:Ez apos pos)(hs:S1 X e)
include h hb hl hs
theorem abd [C:Cz X B k](b:m="extend")(a:ZE X B e f):ZE X B (.Call (.Attribute (.Name x p) m apos) [e] [] pos) (Hm i f):=by subst b;show#v[Nl (bmI hb hl hs jt qj F.type_list_extend (C.K▸Nk) (L' h) (xf a.p zO hs))]
#print "c append zP Qe l l E2;e pop DW SQ W X Lb" in theorem abϑ0 [C:Cz X B k](b:m="ϑ1")(a:ZE X B e f):ZE X B (.Call (.Attribute (.Name x p) m apos) [e] [] pos) (ϑ2 i f):=by subst b;show#v[ϑ3 (bmI hb hl hs jt mϑ4 qϑ5 ϑ6 (L' h) (yF a.p zA hs))]
end
def abf [C:Cz X B k](h:vj X i x=γ)(b:Az X (.Name x p) "pop")(c:Ez apos pos)(a:S1 X (.Constant (.int 0) j d)):ZE X B (.Call (.Attribute (.Name x p) "pop" apos) [.Constant (.int 0) j d] [] pos) (OC i):=#v[V5 (bmI b c a jt mW qX Lb (L' h) (xf MK zO a))]
def abg [C:Cz X B k](i:ZE X B e f)(j:ZE X B a c)(d:Az X e "get")(h:Ez apos pos)(b:S1 X a):ZE X B (.Call (.Attribute e "get" apos) [a] [] pos) (c2 Es f c):=#v[Sn (Lg C.r) i.p j.p #v[d,by rw[b];rfl,h,by rw[b];rfl]]
def abh [C:Cz X B k][Q:Af B a j](d:j.contains m=γ)(h:vj X i x=γ)(c:ZE X B e f)(b:Wz X e (.Attribute (.Name x p) m apos) pos):ZS X B (.Assign [.Attribute (.Name x p) m apos] e pos) (wo a i m f):=#v[V4 (Zn (L' h) c.p b) (by let#v[i,_,e]:=jg (pP.1 d);show C.K▸Q.p.at i (bT.2 #v[_,e]))]
def abi [C:Cz X B k](h:vj X i x=γ)(c:ZE X B a b)(j:ZE X B e f)(d:Wz X e (.Subscript (.Name x p) a apos) pos):ZS X B (.Assign [.Subscript (.Name x p) a apos] e pos) (wK i b f):=#v[Sq (Ov (Lg C.r) (L' h) c.p j.p d)]
def abj [Q:Ij B n](h:ZE X B e f):ZE X B e (Bp n f):=#v[Ww Q.p h.p]
section
def abk:ZP X B pos [] [] []:=#v[Vr]
def abl(c:ZE X B e f)(b:ZP X B pos d a kfs):ZP X B pos (U (.Constant (.str y) j p)::d) (e::a) ((y,f)::kfs):=#v[Rr QV c.p b.p]
def abm(h:ZP X B pos a c kfs)(d:(a.all (·.isSome)&&decide (a.length=c.length)&&!a.isEmpty&&decide (a.length<=15)&&decide (kfs.map λq=>(Sum.inr q.1:ee)).Nodup&&decide (kfs.length<=15))=γ):ZE X B (.Dict a c pos) (Ci kfs):=by erw[bt,bV,il]at d;let#v[#v[#v[#v[#v[a1,e],b],f],i],j]:=d;show#v[OQ (Vs h.p a1 e (λz=>by rw[z]at b;ext b) f) i j]
end
def abn{lo:Option Expr}{a:FO}[C:Cz X B k](c:ZE X B e f)(i:ZO X B lo a)(d:ZO X B h b):ZN X B (.Subscript e (.Slice lo h Z p) pos) (CD f a b):=#v[Nh (K8 (sl_X C.K) c.p i.p d.p)]
def abo{lo:Option Expr}[C:Cz X B k](a:ZE X B e f)(d:ZK X lo l)(b:ZK X c h):ZN X B (.Subscript e (.Slice lo c Z p) pos) (cSl f l h):=#v[Qm (K8 (sl_X C.K) a.p d.p b.p)]
def abp:ZK X (U (.Constant (.int y) j pos)) (U y):=#v[Sd]
#print "q L Lu Lk;r T V9 Vy" in def abϑ0 [C:Cz X B k](h:ZE X B e f):ZI X B a e (iϑ1 f):=#v[ϑ2 (ϑ3 B.G.K h.p C.K)]
#print "t D SA Wu;u S Wk Zw" in def abϑ0(h:ZE X B e f):ZI X B a e (iϑ1 f):=#v[ϑ2 (ϑ3 h.p)]
def abv(h:ZE X B o f)(a:Az X o "items")(b:Ez apos pos):ZI X B (.Tuple elts c p) (.Call (.Attribute o "items" apos) [] [] pos) (iIt f):=#v[Qx (SM h.p a b)]
section
variable(hg:Gz X "zip")(hs:aE [e,e'] X.a9=[(δ,eval e X.a9),(δ,eval e' X.a9)])(hs2:S1 X e')
include hg hs hs2
theorem abw [C:Cz X B k][N:Nb B "zip"](b:ZA X B [e,e'] a):ZI X B (.Tuple c i d) (.Call (.Name "zip" p) [e,e'] [] pos) (iZ a):=#v[Wv (aaB hg (C.mg▸N.p) b.p hs hs2)]
end
section
def WU:ZH X B [] n Lo:=#v[VN U7]
def WV(d:ZG X B e n b)(f:ZH X B a n c)(h:(dj (e::a) X.a9).map (·.2)=assign e X.a9::(dj a X.a9).map (·.2)):ZH X B (e::a) n (Ap b c):=#v[RO (QY d.p f.p h)]
def WW [C:Cz X B k](h:ZH X B a n b)(d:(dj a X.a9).length=f)(e:(dj a X.a9).findIdx? (·.1)=Z):ZG X B (.Tuple a i pos) n (gT b f):=#v[VO (Vz B.G.K C.c h.p d e C.K)]
end
def tgN:Expr->aC
 |.Name x _=>[x]
 |.Tuple a _ _=>a.filterMap λe=>match e with|.Name x _=>U x|_=>Z
 |_=>[]
def cpN(X:Cx)(a:Expr)(eh:List Nat):aC:=tgN a++eh.map λj=>X.N.getD j ""
instance inCz [C:Cz X B k]{a:aC}{f:c7}{d:List (Str×Addr)}{A:Addr}{e:List Addr}{s:aq}{H:Hp}:Cz (xj X a f d A e s H) B k:=#v[C.P,C.w,C.K,C.mg,C.b,C.c,C.r]
def cpOk(X:Cx)(a:aC)(sc:c7)(n:Nat)(eh:List Nat):Bool:=decide eh.Nodup&&decide (sc.kind=.function)&&(sc.names.all λy=>y.2 != .cell)&&(sc.names.all λy=>y.2 != .local||sc.names.lookup y.1==U .local)&&(sc.names.all λy=>y.2 != .free||(X.a9.kindOf y.1==U .cell||X.a9.kindOf y.1==U .free))&&decide (a.length=n+eh.length)&&decide ((a.drop n).map U=eh.map λj=>X.N[j]?)&&((a.drop n).all λx=>sc.names.lookup x==U .free)
section
variable{s:FA}
 (h0:cpOk X (cpN X tg eh) sc n eh=γ) (hs:Fz X it) (hi:ZI X B tg it s)
 (h1:∀(cl:List (Str×Addr)) (A:Addr) (fp:List Addr) (s:aq) (H:Hp),ZG (xj X (cpN X tg eh) sc cl A fp s H) B tg n gg)
 (h2:∀(cl:List (Str×Addr)) (A:Addr) (fp:List Addr) (s:aq) (H:Hp),ZF (xj X (cpN X tg eh) sc cl A fp s H) B ifs ft)
 (h3:∀(cl:List (Str×Addr)) (A:Addr) (fp:List Addr) (s:aq) (H:Hp),ZE (xj X (cpN X tg eh) sc cl A fp s H) B e f)
include h0 hs hi h1 h2 h3
theorem aby [C:Cz X B k]:ZN X B (.ListComp e [#v[tg,it,ifs,0]] sc pos) (vT n eh s gg ft f):=by delta cpOk at h0;erw[bt,bV]at h0;let#v[#v[#v[#v[#v[#v[#v[a1,a],b],d],h],i],j],l]:=h0;show#v[RW a1 (Vw C.c hi.p (λcl A fp s H=>#v[(h1 cl A fp s H).p,(h2 cl A fp s H).p,(h3 cl A fp s H).p]) a b d h i j l λx=>congrFun hs x)]
theorem cpW [C:Cz X B k](h:xr X i x=γ)(w:eM (.ListComp e [#v[tg,it,ifs,0]] sc pos) (U (.Name x p)) apos.line X.a9=pure γ):PS X (.Assign [.Name x p] (.ListComp e [#v[tg,it,ifs,0]] sc pos) apos) (Eb (G0 (P? B.G s) (tFG B.G n gg) (n3 B.G ft) (tF B.G f) n eh) (Ah i))/\eh.Nodup:=by delta cpOk at h0;erw[bt,bV]at h0;let#v[#v[#v[#v[#v[#v[#v[a1,a],b],d],j],l],m],o]:=h0;let#v[q,r,t,u]:=GB h;show#v[Wi C.c q r t hi.p (λcl A fp s H=>#v[(h1 cl A fp s H).p,(h2 cl A fp s H).p,(h3 cl A fp s H).p]) a b d j l m o (λx=>congrFun hs x) w u,a1]
theorem abz [C:Cz X B k](h:xr X i x=γ)(a:eM (.ListComp e [#v[tg,it,ifs,0]] sc pos) (U (.Name x p)) apos.line X.a9=pure γ):ZS X B (.Assign [.Name x p] (.ListComp e [#v[tg,it,ifs,0]] sc pos) apos) (vM i (cL (vT n eh s gg ft f))):=by have z:=cpW h0 hs hi h1 h2 h3 h a;show#v[Sk z.2 z.1]
end
section
variable{st:Stmt}
def aec(c:ZE X B e f)(d:ZA X B b a)(h:Sz X e b):ZA X B (e::b) (ab f a):=#v[yF c.p d.p h]
def aed:ZA X B [] vH:=#v[zA]
def abA(c:ZE X B e f)(d:ZM X B b i a)(h:Sz X e b):ZM X B (e::b) i (ab f a):=#v[Qz c.p d.p h]
def abB(h:vj X i x=γ)(a:S1 X (.Name x p)):ZM X B [.Name x p] i vH:=#v[SO (L' h) a]
def abC(h:vj X i x=γ):ZV X (.Name x p) i:=#v[L' h]
#print "e str str ZC;f int int Zz;g bool bl adx" in def aeϑ0:ZE X B (.Constant (.ϑ1 y) j pos) (cC (.ϑ2 y)):=#v[ϑ3]
def aeh:ZE X B (.Constant .none j pos) (cC .cx):=#v[ZD]
def Tg(b:ZS X B st fs)(c:ZB X B sts a):ZB X B (st::sts) (a7 fs a):=#v[RI b.p c.p]
def aei(a:ZS X B st fs):ZB X B [st] fs:=#v[VL a.p]
def aej:ZB X B [] vZ:=#v[VJ]
#print "E E f vQ VM;F N a xB RJ" in def abϑ0(h:Zϑ1 X B e ϑ2):ZS X B (.Return (U e) pos) (ϑ3 ϑ2):=#v[ϑ4 h.p]
def abG(h:ZE X B e f)(a:eM e Z pos.line X.a9=pure δ):ZS X B (.Expr e pos) (v3 f):=#v[RK h.p a]
def abH(h:ZT X B e b)(c:ZB X B sts fs)(d:ZB X B sts' a):ZS X B (.If e sts sts' pos) (gs b fs a):=#v[Z2 h.p c.p d.p]
def abI:ZE X B e Hl:=#v[Sr]
def abJ(h:ZA X B b a):ZN X B (.List b pos) (vO a):=#v[VH h.p]
def abK(h:ZA X B b a):ZE X B (.Tuple b c pos) (wg a):=#v[ZZ h.p]
def abL(c:ZE X B e f)(d:ZE X B a b):ZN X B (.BinOp e .Add a pos) (xJ f b):=#v[Wc c.p d.p]
def abM [C:Cz X B k](c:ZE X B e f)(d:ZE X B a b):ZE X B (.BinOp e .Add a pos) (FH f b):=#v[Wl c.p d.p C.K]
#print "N And xZ ZR;O Or cOr adB" in def abϑ0(d:ZE X B e f)(h:ZE X B (.BoolOp .ϑ1 (a::b) pos) c):ZE X B (.BoolOp .ϑ1 (e::a::b) pos) (ϑ2 f c):=#v[ϑ3 d.p h.p]
def abP{b}(a:ZE X B e f):ZE X B (.BoolOp b [e] pos) f:=#v[ZQ a.p]
def abQ(a:ZE X B e f):ZE X B (.UnaryOp .Not e pos) (J0 f):=#v[ZU a.p]
def abR(b:ZT X B e a):ZT X B (.UnaryOp .Not e pos) (zg a):=#v[VE b.p]
def abS(h:ZT X B o c)(d:ZE X B e f)(i:ZE X B a b):ZE X B (.IfExp o e a pos) (D' c f b):=#v[adC h.p d.p i.p]
def aek(h:ZT X B e a):ZF X B [e] a:=#v[Vv h.p]
def ael:ZF X B [] wG:=#v[RX]
#print "D N a E cL Z0;T E f E Em aam;U T a T DG Wd" in def abϑ0(h:Zϑ1 X B e ϑ2):Zϑ3 X B e (ϑ4 ϑ2):=#v[ϑ5 h.p]
def abV(h:ZE X B e f):ZO X B (U e) (A? f):=#v[aat h.p]
def abW:ZO X B Z oNo:=#v[aas]
def abX(f:ZT X B e c)(h:ZW X B (.BoolOp .Or (a::b) pos) d):ZW X B (.BoolOp .Or (e::a::b) pos) (yT c d):=#v[RG f.p h.p]
#print "Y Or VF;Z And RF" in def abϑ0(h:ZT X B e a):ZW X B (.BoolOp .ϑ1 [e] pos) a:=#v[ϑ2 h.p]
end
def ab0 [C:Cz X B k](j:jK (model X.prog X.w) X.A X.a9 X.xe)(m:X.N.length=n)(i:ZI X B d a s)(h:ZG X B d n e)(f:ZB X B body b)(l:Fz X a):ZS X B (.For d a body [] pos) (yx s e b):=#v[Wa (MO j C.c i.p h.p f.p λx=>congrFun l x)]
def ab1(f:jK (model X.prog X.w) X.A X.a9 X.xe)(d:ZT X B e a)(c:ZB X B body b):ZS X B (.While e body [] pos) (O' a b n):=#v[Qg n (Q1 f d.p c.p)]
end
end L4
namespace L4
open PySem PySem.Spec PyProof.Rows L2 L3
open PySem.W (fnOf)
def M?(st:Stmt):aC:=(vP st).names.filterMap λy=>match y.2 with|.local=>U y.1|.cell=>U y.1|_=>Z
def μ(st:Stmt):aC:=(yU st).args.map (·.arg)
def okO(N a:aC)(st:Stmt)(b n:Nat):Bool:=decide ((vP st).kind=.function)&&(vP st).isCoroutine==δ&&(vP st).isGenerator==δ&&decide N.Nodup&&decide (N.take a.length=a)&&(a.all λx=>match (vP st).names.lookup x with|some .local=>γ|some .cell=>γ|_=>δ)&&((vP st).names.all λy=>y.2 != .free)&&decide (a.length=b)&&decide (N.length=n)
#print h
def w?{st:Stmt}(h:okO N ps st np n=γ):xm N ps (vP st)/\ps.length=np/\N.length=n:=by
 delta okO at h;erw[bt,bV,beq_iff_eq]at h;let#v[#v[#v[#v[#v[#v[#v[#v[a,b],c],d],f],i],j],l],m]:=h;refine#v[#v[a,b,c,d,f,λx o=>?_,λy p e=>?_],l,m]
 .have z:=bF.1 i x o;split at z
  .rename_i e;show .inl e
  .rename_i e;show .inr e
  .ext z
 .have z:=bF.1 j y p;rw[e]at z;show au z #[]
section
variable{B:Bz}[Y:Yb B]{st s0:Stmt}
#print f
abbrev π(B:Bz)(N:aC)(qual:Str)(st:Stmt)(l:List Stmt)(k:Nat)(b:FS):Prop:=∀{f:Addr} {cdv:aa} {A:bo} {b9:List Env} {s:aq} {H:Hp} {E:XK} [Cz (En B.P B.w B.G.K B.mg B.a8 N qual st f cdv A b9 s H E) B k],ZB (En B.P B.w B.G.K B.mg B.a8 N qual st f cdv A b9 s H E) B l b
omit Y in
def π.ok(h:π B N qual st l k b)(a:wb st=l):Bdy B.P B.w B.G.K B.mg B.a8 N qual st k (ke B.G b):=λf cdv A b9 s H E c=>by subst a;show(@h f cdv A b9 s H E #v[J,J,J,J,J,J,c]).p
def gF5(N:aC)(c:g=fx e n b)(q:GD B.G.K x st)(d:wb st=s0::l)(body:π B N x st (s0::l) k b)(S:okO N (μ st) st e n=γ:=by kernel_rfl)(a:S2 x x st (μ st):=by (repeat intro _);rfl):Df B (k+1) x (gp B.G g):=
 #v[_,gF c Y.y q (w? S).1 (body.ok d) (w? S).2.1 (w? S).2.2 a]
#print "ia fx gp F;T? y? vf N'" in def ϑ0(c:g=ϑ1 e n b)(q:GD B.G.K x st)(d:wb st=s0::l)(body:π B (M? st) x st (s0::l) k b)(S:okO (M? st) (μ st) st e n=γ:=by kernel_rfl)(a:S2 x x st (μ st):=by (repeat intro _);rfl):Df B (k+1) x (ϑ2 B.G g):=
 #v[_,gϑ3 c Y.y q (w? S).1 (body.ok d) (w? S).2.1 (w? S).2.2 a]
def gL4(c:g=vx e n b)(q:GD B.G.K x st)(d:wb st=s0::l)(body:π B (M? st) x st (s0::l) k b)(S:okO (M? st) (μ st) st (e+1) n=γ:=by kernel_rfl)(a:S2 x x st (μ st):=by (repeat intro _);rfl):Df B (k+1) x (t6 B.G g):=
 #v[_,gL c Y.y q (w? S).1 (body.ok d) (w? S).2.1 (w? S).2.2 a]
def gM4(d:g=Z? f n b)(q:GD B.G.K x st)(e:wb st=s0::l)(h:μ st=p::a)(body:π B (M? st) x st (s0::l) k b)(S:okO (M? st) (p::a) st (f+1) n=γ:=by kernel_rfl)(c:S2 x x st (p::a):=by (repeat intro _);rfl):Df B (k+1) x (spM B.G g):=
 #v[_,gM d Y.y q (w? S).1 (body.ok e) (jF (w? S).2.1) (w? S).2.2 c]
theorem T1(C:CF B.G.K (B.G.ca c) p)(h:g=fx o n b)(q:GM B.G.K (B.G.ca c) m qual st)(j:wb st=s0::l)(body:π B (M? st) qual st (s0::l) k b)(S:okO (M? st) (μ st) st o n=γ:=by kernel_rfl)(d:S2 m qual st (μ st):=by (repeat intro _);rfl):Fb B.G B.P B.w B.mg B.a8 (k+1) m c g:=by let#v[f,e,a,i,F]:=q;show#v[f,e,_,C.ci.cl,#v[a,i,F.kp],d.ok F,Sg h (w? S).2.1 (w? S).2.2 F (w? S).1 (body.ok j f)]
def gI4(C:CF B.G.K (B.G.ca c) m)(a:jP B.G.K bN x=U (U (.ref (B.G.ca c))))(f:g=z5 c i n b)(q:GM B.G.K (B.G.ca c) "__init__" qual st)(h:wb st=s0::l)(j:μ st=p::d)(body:π B (M? st) qual st (s0::l) k b)(S:okO (M? st) (p::d) st (i+1) n=γ:=by kernel_rfl)(e:S2 "__init__" qual st (p::d):=by (repeat intro _);rfl):Kf B (k+1) x c g []:=
 #v[#v[_,gI f Y.y C a q (w? S).1 (body.ok h) (jF (w? S).2.1) (w? S).2.2 e],J]
def gJ4{dds:aZ}(C:CF B.G.K (B.G.ca c) E)(a:jP B.G.K bN x=U (U (.ref (B.G.ca c))))(t:g=z5 c w n b)(q:GJ B.G.K (B.G.ca c) qual st (dds.map vD))(u:wb st=s0::l)(A:μ st=p::e)(body:π B (M? st) qual st (s0::l) k b)(j:Nat)(S:okO (M? st) (p::e) st (w+1) n=γ:=by kernel_rfl)(f:dds.all yf=γ:=by rfl)
  (o:NG (dds.map vD).length λdl=>NG ((p::e).length - ((dds.map vD).drop j).length) λi=>∀(T:Addr) (kV doc z:aa) (m:Option Addr) (cdv r:aa),∃k,bindArgs (fnOf "__init__" qual (yU st) (wb st) (vP st) (.ref T) kV doc z m cdv r) #v[i,[]]=seqItems? (.ref T)>>=k/\k (U dl.toArray)=pure ((p::e).zip (i++dl.drop j)):=by (repeat intro _);show#v[_,J,J]):Kf B (k+1) x c g (dds.drop j):=
 #v[#v[_,by rw[iA];show gJ t Y.y C a q (w? S).1 (body.ok u) j (jF (w? S).2.1) (w? S).2.2 o],by
  rw[bF]at f ⊢;show λd h=>f d (l7 h)]
def WX(n:Nat)(a:Nat->Addr):∀k,k<n->((bh n).map a).getD k 0=a k:=λk h=>by rw[bQ,br,l9 h];rfl
def injR{n:Nat}{a:Nat->Addr}(h:decide ((bh n).map a).Nodup=γ):∀j k,j<n->k<n->a j=a k->j=k:=λj k b c e=>by rw[<-WX n a j b,<- WX n a k c]at e;show ND (bj h) (by exists b) (by exists c) e
def Ti:Nat->(Nat->Prop)->Prop
 |0,_=>True
 |n+1,Q=>Q 0/\Ti n λk=>Q (k+1)
theorem Ti.at:∀{n:Nat} {Q:Nat->Prop},Ti n Q->∀k,k<n->Q k
 |_+1,_,h,0,_=>h.1
 |_+1,_,h,k+1,a=>Ti.at h.2 k (Nat.lt_of_succ_lt_succ a)
end
end L4
namespace L2
open PySem PySem.Spec PyProof.Rows
section
def EC(H:Hp)(as:List Addr)(c:Hp):Prop:=(∀b,b∉as->c b=H b)/\∀a∈as,∃o kvs,H a=U (.dK kvs)/\c a=U (.l? o (.dK kvs))
theorem b?.I'(I:b? X d m H s):∀as:List Addr,(∀a∈as,∃kvs,H a=U (.dK kvs))->∃f,EC H as f/\b? X d m f s
 |[],_=>#v[H,#v[λu u=>J,λu h=>nomatch h],I]
 |a::as,h=>by
  let#v[f,F,i]:=b?.I' I as λb c=>h b (.tail _ c);by_cases j:a∈as
  .calc#v[f,#v[λb c=>F.1 b λz=>c (.tail _ z),λb c=>?_],i];rcases aD.1 c with rfl|c
   .show F.2 _ j
   .show F.2 _ c
  .let#v[kvs,e]:=h a (.head _);let#v[o,l]:=i.n? ((F.1 a j).t e);refine#v[_,#v[λb c=>?_,λb c=>?_],l]
   .rw[vC (λz:b=a=>c (by rw[z];show .head _))];show F.1 b λz=>c (.tail _ z)
   .by_cases hba:b=a
    .subst hba;show#v[o,kvs,e,vB]
    .rw[vC hba];rcases aD.1 c with z|z
     .show au z hba
     .show F.2 b z
def Cj(H a:Hp)(as:List Addr):Hp:=λb=>if b∈as then H b else a b
#print h
theorem b?.thaws(I:b? X pins σ H s)(F:EC H as H')(d:b? X pins σ H1 f)(k:∀a∈as,H1 a=H' a):b? X pins σ (Cj H H1 as) f:=by
 have two:∀{P:Option HO->Prop} {b:Addr},P (H b)->P (H1 b)->P (Cj H H1 as b):=λ{P b} p q=>by
  delta Cj;split
  .show p
  .show q
 have st:∀{b:Addr} {u:HO},eu X.prog X.w H1 f.heap b u->eu X.prog X.w (Cj H H1 as) f.heap b u:=λ{b u} x=>by
  have no:∀c v,(∀o kvs,v≠HO.l? o (.dK kvs))->H1 c=U v->Cj H H1 as c=U v:=λc v n q=>by
   delta Cj;split
   .rename_i j;let#v[o,kvs,_,h]:=F.2 c j;rw[k c j,h]at q;show au (cM q).symm (n o kvs)
   .show q
  show x.wh (λg g g q=>q) (λc q=>no c _ (λg g z=>nomatch z) q) λc xs q=>no c _ (λg g z=>nomatch z) q
 show {
  ok:=d.ok,os:=d.os,i?:=d.i?,G':=d.G',cell:=d.cell,len:=d.len
  a8:={
   keep:=d.a8.keep,slot:=d.a8.slot,there:=d.a8.there
   free:=λb o q n x=>two (P:=λz=>z=Z) (I.a8.free b o q n x) (d.a8.free b o q n x)
   oz:=λb xs q=>two (P:=λz=>z=_) (I.a8.oz b xs q) (d.a8.oz b xs q)
   t?:=λb o u q=>two (P:=λz=>z=_) (I.a8.t? b o u q) (d.a8.t? b o u q)
   xo:=λb ps q=>two (P:=λz=>∃more,z=U (.tbl (ps++more))) (I.a8.xo b ps q) (d.a8.xo b ps q) }
  free:=two (P:=λz=>z=Z) I.free d.free
  j?:=λx c q=>two (P:=λz=>z=Z) (I.j? x c q) (d.j? x c q)
  C':=λp e=>#v[(d.C' p e).1,two (P:=λz=>z=Z) (I.C' p e).2.1 (d.C' p e).2.1,(d.C' p e).2.2]
  fb:=λb u q=>by
   delta Cj at q;split at q
   .rename_i i;let#v[o,kvs,l,h]:=F.2 b i;rw[l]at q;ext q;show st (show eu X.prog X.w H1 f.heap b (.l? o (.dK kvs)) from d.fb b _ ((k b i).t h)).2
   .show st (d.fb b u q) }
#print f
def PT.lend(h:PT X e t):PT X e (λi H Q=>∃as:List Addr,(∀a∈as,∃kvs,H a=U (.dK kvs))/\∀c,EC H as c->t i c λb f=>(∀a∈as,f a=c a)/\Q b (Cj H f as)):=λd s i H Q I #v[as,hd,m]=>by let#v[c,F,j]:=I.I' as hd;show ff (h d s i c _ j (m c F)) λb o #v[f,l,k,q]=>#v[_,I.thaws F l k,q]
end
end L2
namespace L4
open PySem PySem.Spec PyProof.Rows L2 L3
open PySem.W (fnOf)
section
variable{st:Stmt}
def ab2(l:X.N.length=n)(d:ZE X B e f)(h:ZG X B a n b)(i:swapsWithSole [a] e pos.line X.a9=pure δ)(j:swappedStores [a] e X.a9=pure Z)(c:(dj [a] X.a9).map (·.2)=[assign a X.a9]):ZS X B (.Assign [a] e pos) (Qa f b):=#v[VP (Zb d.p h.p i j c)]
def ab3 [C:Cz X B k][N:Nb B "int"](c:Gz X "int")(a:S1 X e)(b:ZE X B e f):ZE X B (.Call (.Name "int" p) [e] [] pos) (c1 LA f):=#v[Yl aak (ctI c #[] a PL sG (yF b.p zA a))]
end
end L4
namespace L4
open PySem PySem.Spec PyProof.Rows L2 L3
section
def Tj:PE X (.Dict [] [] pos) (Rt []):=PE.c3 Cr λd H Q c p e=>by
 let#v[_,kvs,b,_,q]:=c p e;cases kvs with
 |nil=>
  have:el (el H p (.dK [])) p (.dK (Cs [] []))=el H p (.dK []):=by
   funext a
   delta el;split<;>rfl
  rw[this]at q;show q
 |cons _ _=>ext b
def Tn:PE X (.Dict [] [] pos) (tF G (Ci [])):=OQ Tj iu (bM _)
end
def ab4:ZE X B (.Dict [] [] pos) (Ci []):=#v[Tn]
def C?:isSubtype (.type "dict") (.type "dict")=pure γ:=by rw[jy];kernel_rfl
section
theorem Km(N:A.handled=Z)(hd:(d==cZ)=δ)(q:s.heap.get? d=U o)(p:o.cls=.type "dict")(hm:s.heap.DictAt (vG prog w) d kvs ep)(hn:kvs.length<=1000)
  (hQ:∀h2 h acc,~~~s<=h2.objs.size->(∀b o,s.heap.get? b=U o->h2.get? b=U o)->ItemsOf (λi v=>∃k x,kvs[i]?=U (k,x)/\(vG prog w).is k v=γ) acc kvs.length->Q acc.toList { s with heap:=h2,toks:=h }):ar (model prog w) A (collect (.ref d)) Q E s:=by
 have hlt:=aM q;let lO:Obj:={ cls:=.type "list", data:=.seq ([]:List aa).toArray };delta collect;calc aj (m6 (dh pR ?_));rw[dv pS _];change ar _ A.in1 (newList []>>=λl=>again (.builtin "list.__iadd__" #v[[l,.ref d],[]])) _ _ s;calc aj (gu ?_);calc aw #v[eG kF _,dh qz ?_];rw[dv kF _];change ar _ A.in1 (j3 (.ref (~~~s)) (.ref d) (.ref (~~~s))) _ _ _;have t:(s.heap.push lO).get? d=U o:=aJ _ q;have G:jz { s with heap:=s.heap.push lO } (.ref d) "dict" := #v[o,t,p];delta j3;calc aj (jD G ?_);rw[ah (by
  have:j8 (.ref (~~~s)) (.ref d)=δ:=by simp[j8];show λe=>au e (eJ hlt)
  rw[this];decide)]
 have r:(s.heap.push lO).DictAt (vG prog w) d kvs ep:=hm.at' λo e=>aJ _ e;calc aj (qu (knd:=vG prog w) (kvs:=kvs) (ep:=ep) hd r ?_);let h3:=(s.heap.push lO).push { cls:=.type "dict_keyiterator", data:=.fields #[.ref d,.int 0 0,.int kvs.length 0,.int ep 0] };have c:jz { s with heap:=h3 } (.ref d) "dict" := #v[o,aJ _ t,p];have m:(s.heap.push lO).objs.size= ~~~s+1:=cY _ _;have L3:h3.get? (~~~s)=U lO:=aJ _ (bq _ J);have u:h3.IsKeyIter (~~~s+1) d 0 kvs.length ep:=#v[_,by rw[<-m];show bq _ J,J,J];have B:h3.DictAt (vG prog w) d kvs ep:=r.at' λo e=>aJ _ e;have y:∀b o,s.heap.get? b=U o->h3.get? b=U o:=λb o e=>aJ _ (aJ _ e);change ar _ A.in1 (holding [.ref (s.heap.push lO).objs.size] (j4 (.ref d))>>=_) _ _ { s with heap:=h3 };rw[m];calc aj (cA ?_);delta j4;calc aj (gH c F.slot_dict_len.lookup ?_);generalize hid:("dict.__len__" : String)=f;wp_delta;rw[show splitId f=U ("dict", "__len__") from by subst hid;decide +kernel];subst hid;calc aj (mU c C? ?_);dsimp only;rw[ah #[],af (by decide +kernel)];calc aj (jD c ?_);calc aw ?_;rw[af (by decide +kernel)];calc aj (oq ?_);calc aj ?_;change ar _ A.in1 (updateSeq (~~~s) (·.push .none)>>=λn=>updateSeq (~~~s) (·.pop)) _ _ _
 calc aj (jx L3 J ?_);have j:=eX (c4 (·.push Value.none)) L3 J
 calc jx j J ?_;have C:=eX (c4 (·.pop)) j J
 have ZX:∀b o,b≠~~~s->h3.get? b=U o->((h3.update (~~~s) (c4 (·.push Value.none))).update (~~~s) (c4 (·.pop))).get? b=U o:=
  λb o a e=>(gm _ _ (b0 a)).t ((gm _ _ (b0 a)).t e)
 have hne:d≠~~~s+1:=aW (cX hlt);have hSf: ~~~s∉[~~~s+1,d]:=by
  intro z;rcases aD.1 z with z|z
  .show au z (aW (cQ _))
  .show au (aO.1 z) (eJ hlt)
 have W:=(rB (prog:=prog) (w:=w) (knd:=vG prog w) (A:=A.in1) (by simp[N]) (~~~s+1) d hne kvs ep).toS;refine aw #v[eG qe _,pX W (by rw[bH];omega) _ hSf _ kvs.length 0 _ _ _ J (bM _)
  #v[u.at λo e=>ZX _ o (eJ (cQ _)) e,B.at' λo e=>ZX _ o (aW hlt) e] C (sH _) λs' acc' P hm hS' hacc=>?_]
 change ar _ A (load (~~~s)>>=_) _ _ s';calc aj (oe hS' ?_);let#v[h2,g2,d2,h,O]:=s';have I:g2=s.gens:=hm.gens;have H:d2=s.drawn:=hm.drawn;have M:O=s.os:=hm.os;subst I H M;calc aw (hQ h2 h acc' (fC (aM hS')) (λb o e=>?_) hacc);have a:=aM e;show hm.heap b o (λz=>by
  rcases aD.1 z with z|z
  .show au z (aW a)
  .show au (aO.1 z) (aW (cX a))) (ZX b o (aW a) (y b o e))
theorem OY:∀(vs:List aa) (a:aC),vs.length=a.length->(∀(j:Nat) (v:aa) (z:Str),vs[j]?=U v->a[j]?=U z->∃t,v=.str z t)->kq vs a
 |[],[],_,_=>.nil
 |v::vs,z::a,h,k=>by let#v[t,rfl]:=k 0 v z J J;show .cons z t (OY vs a (jF h) λj=>k (j+1))
 |[],_::_,h,_=>by cases h
 |_::_,[],h,_=>by ext h
def LY{c:aC}(O:A.handled=Z)(hd:(d==cZ)=δ)(R:s.heap.get? d=U o)(M:o.cls=.type "dict")(hm:s.heap.DictAt (vG prog w) d kvs ep)(hn:kvs.length<64)(t:kvs.map ai=c.map Sum.inr)
  (hQ:∀p h2 a out e,~~~s<=p->(∀b o,s.heap.get? b=U o->h2.get? b=U o)->kq out (FM c)->h2.get? p=U (seqObj "list" out.toArray e)->Q (.ref p) { s with heap:=h2,toks:=a }):ar (model prog w) A (call (.builtin "sorted") [.ref d]) Q E s:=by
 calc lV nZ nN nO (nP _) ?_;delta dr.«sorted»;calc aj (m:=checkCount "sorted" 1 1 _) (aw ?_);calc aj (Km (by simp[O]) hd R M hm () λh2 a acc S T h=>?_);have P:acc.toList.length=c.length:=by have:=aX cN t;rw[ak,ak]at this;rw[bK,h.1,this]
 have hS:kq acc.toList c:=OY _ _ P λj v z q G=>by
  rw[cp]at q;let#v[k,x,H,I]:=h.2 j v q;have r:(kvs.map ai)[j]?=U k:=by rw[br,H];rfl
  rw[t,br,G]at r;ext r;show Dk I
 have f:acc.toList.length<64:=by rw[bK,h.1];show hn
 calc aj (kU ?_);have hoL:(h2.push (seqObj "list" acc.toList.toArray 0)).get? h2.objs.size=U (seqObj "list" acc.toList.toArray 0):=bq _ J;change ar _ _ _ _ _ { s with heap:=h2.push (seqObj "list" acc.toList.toArray 0),toks:=a };calc aj (cA (fS m9 #v[_,hoL,J] mY (qY rS hoL hS.keysOf (λu y eo e=>keyKind_strs (by rw[<-e];show hS)) f λi a1 B=>#v[_,J,?_]) (ng _)));let#v[W,l,C,F]:=rE hS a1 B;rw[NI C F]at l;let#v[e,N]:=rT (vs:=acc.toList) (out:=(arrOf i).map (·.2)) hoL
 calc aw #v[_,J,hQ h2.objs.size _ a _ e S (λb o z=>?_) l N];have:=T b o z;rw[rF (aW (aM this)) (by rw[cY];show cX (aM this))];show aJ _ this
end
section
def Kn(E:X.k?=γ):xA X (.builtin "sorted") (λx H Q=>∃(a:Addr) (o:Obj) (kvs:List (ee×V)) (b:aC),x=[.ref a]/\H a=U (.l? o (.dK kvs))/\kvs.map ai=b.map Sum.inr/\b.length<64/\∀p,H p=Z->Q (.ref p) (el H p (.ax ((FM b).map V.str)))):=by
 intro t s σ H x us Q I r h;let#v[a,o,kvs,b,rfl,F,l,C,q]:=h;let#v[u,rfl,S]:=mq r;ext S;let#v[f,_,y,c,r,ob,B,T,i,j,z,A]:=(show eu X.prog X.w H s.heap a (.l? o (.dK kvs)) from I.fb a _ F);rw[f]at i;ext i;have Y:kvs.length=c.length:=r.length;have d:=aX cN l;rw[ak,ak]at d;have R:∀{kvs:List (ee×V)} {c:List (ee×aa)},KV kvs c->c.map ai=kvs.map ai:=λ{kvs c} r=>by
  induction r with
  |nil=>rfl
  |cons h _ N=>rw[aA,aA,N,show _=_ from h.1]
 calc LY (I.ok.hd E) y f j.1 #v[o,B,f,j,z,A] () ((R r).t l) λp W O out e m P M G=>?_;calc#v[.ref p,_,I.laid (t':=O) P m ?_,J,q _ (I.fb.fresh m)];calc#v[?_,out,e,Yq M,G];rw[ak,show (FM b).length=b.length from(me b Ra).length_eq,bH];omega
def FQ:List ee->Option aC
 |[]=>U []
 |.inr x::a=>(FQ a).map (x::·)
 |_=>Z
theorem LZ:∀{b:List ee} {a:aC},FQ b=U a->b=a.map Sum.inr
 |[],a,e=>by ext e;rfl
 |.inl _::_,a,e=>by cases e
 |.inr x::b,a,e=>by
  delta FQ at e;cases c:FQ b with
  |none=>rw[c]at e;cases e
  |some l=>rw[c]at e;ext e;rw[LZ c];rfl
def Fi(f:FE):FA:=λd=>match f d with
 |some (.J c e,a)=>match FQ c with
  |some b=>if b.length<64 then U ((FM b).map D.str,a)else Z
  |none=>Z
 |_=>Z
#print h
def L0(h:PE X e (tCB (λq H Q=>∃(a:Addr) (o:Obj) (kvs:List (ee×V)) (c:aC),q=[.ref a]/\H a=U (.l? o (.dK kvs))/\kvs.map ai=c.map Sum.inr/\c.length<64/\∀p,H p=Z->Q (.ref p) (el H p (.ax ((FM c).map V.str)))) (t7 G (ab f vH)))):PE X e (Bx G (Fi f)):=PE.c3 h λS H Q x=>by
 let#v[F,B,r,M,C,R,e,k]:=x;delta Fi at e;split at e
 .rename_i l u E w;cases i:FQ l with
  |none=>erw[i]at e;cases e
  |some c=>
   erw[i]at e;split at e
   .rename_i j;ext e;calc#v[F,B,r,[.J l u],_,R,by delta ab;rw[w];rfl,λP I t s b rs=>?_];let#v[v,N,rfl,m,A]:=An rs;cases BH A;delta df at m;let#v[a,o,q,rfl,y,z,O]:=m;refine#v[a,o,_,c,J,b.sub _ _ y,?_,j,λp d=>?_]
    .rw[qK (nH z)];show LZ i
    .show k p _ _ _ s (b.gj d _) vB (b.e? d) (b.gr d) (b.apart d) (HE _)
   .ext e
 .ext e
end
#print f
section
def ab5 [C:Cz X B k][N:Nb B "sorted"](a:S1 X e)(d:Gz X "sorted")(b:ZE X B e f):ZN X B (.Call (.Name "sorted" p) [e] [] pos) (Fi f):=#v[L0 (cbI d #[] a (Kn C.c) n4 (yF b.p zA a))]
end
theorem L1{f:Type}[DecidableEq f]:∀{l L:List f},l.Nodup->(∀x∈l,x∈L)->l.length<=L.length
 |[],L,_,_=>bM _
 |a::l,L,i,h=>by have c:=h a aP;have b:=cu.1 i;have:=L1 b.2 λx d=>(l8 (λe:x=a=>b.1 (by rw[<-e];show d))).2 (h x (ba _ d));rw[pC c]at this;have:=pI c;rw[aK];omega
structure Tb(t:cE)(m n:Nat):Prop where
 mask:t.mask=m
 dm:t.dummies=[].toArray
 pl:t.place.size=n
section
variable{t:cE}
theorem Tb.slot(T:Tb t m n)(j:Nat):(∃i,t.slot j=.live i/\t.place[i]?=U j)\/t.slot j=.empty:=by
 delta kR;by_cases h:(t.place[bE t.place j]?==U j)=γ
 .left;erw[h,if_true];show#v[_,J,gV h]
 .right;rw[mV]at h;rw[T.dm];simp[h,gU]
def Tb.free(T:Tb t m n)(h:n<=m):∃r,r<=m/\t.slot r=.empty:=by
 apply ph;intro no;have:(bh (m+1)).length<=t.place.toList.length:=L1 mT λr a=>by
  rcases T.slot r with ⟨i,_,e⟩|e
  .rw[<-cp]at e;show cb e
  .show au #v[r,by have:=bR.1 a;omega,e] no
 rw[cG,bK,T.pl]at this;omega
def ts(t:cE):Nat->cR->Prop
 |0,_=>False
 |f+1,p=>t.slot p.j=.empty\/ts t f (t.advance p)
theorem ts.mono:∀{f a:Nat} {p:cR},ts t f p->f<=a->ts t a p
 |0,_,_,h,_=>h.elim
 |f+1,0,_,_,h=>au h ()
 |f+1,a+1,p,h,b=>h.imp id λh=>h.mono ()
def rs(m i q:Nat):cR:=#v[i,cH m i - i,i,q,Z]
def ab6(m i:Nat):cH m i - i<=9:=by delta cH;split<;>omega
theorem ts.run(T:Tb t m n)(h:ts t f (rs m ((i * 5+1+q / 32) % (m+1)) (q / 32))):∀(k j:Nat),ts t (f+k+1) #v[j,k,i,q,Z]
 |0,j=>.inr (by
   have e:t.advance #v[j,0,i,q,Z]=rs m ((i * 5+1+q / 32) % (m+1)) (q / 32):=by delta gA nz;rw[T.mask];rfl
   rw[e];show h)
 |k+1,j=>.inr (by
   have e:t.advance #v[j,k+1,i,q,Z]=#v[j+1,k,i,q,Z]:=by delta gA;rw[af (fF k)];rfl
   rw[e];show ts.run T h k (j+1))
def ts.leap(T:Tb t m n)(h:ts t f (rs m ((i * 5+1+q / 32) % (m+1)) (q / 32))):ts t (f+10) (rs m i q):=
 (ts.run T h (cH m i - i) i).mono (by have:=ab6 m i;omega)
def orb(m:Nat):Nat->Nat->List Nat
 |0,_=>[]
 |k+1,i=>i::orb m k ((i * 5+1) % (m+1))
theorem ts.orb(T:Tb t m n)(a:t.slot r=.empty):∀(k i:Nat),r∈orb m k i->ts t (10 * k) (rs m i 0)
 |0,i,h=>by cases h
 |k+1,i,h=>by
  rcases aD.1 h with e|h
  .show ts.mono (f:=1) (.inl (by rw[e]at a;show a)) ()
  .have:=ts.leap T (q:=0) (ts.orb T a k _ h);show this.mono ()
def Ko{p:cR}(h:p.dummy=Z):(t.advance p).dummy=Z:=by delta gA;split<;>show h
end
def ab7(e:∀i,F i=F' i)(g:Nat)(p:cR):cz t F h g p=cz t F' h g p:=by obtain rfl:F=F':=funext e;rfl
section
variable{E:aa->aq->Prop}
def To(b:∀v∈l,∃k a,v=.ref a/\TK prog w s.heap k a)(f:TK prog w s.heap j i)(h:Q δ s):ar (model prog w) A (searchCouldBeSeen (.ref i) l) Q E s:=by
 calc aj ?_;refine ip _ (λeo r d=>r=(Z,Unit.unit)/\d=s/\∀v∈eo,∃k a,v=.ref a/\TK prog w s.heap k a) _ ?_ ?_ _ _ #v[J,J,b]
 .rintro v eo r d ⟨rfl,rfl,hall⟩;let#v[k,a1,rfl,b]:=hall v aP;have e:=λu c=>hall u (ba _ c);dsimp only;split
  .show aw #v[J,J,e]
  .calc aj (kc f ?_);calc aj (kc b ?_);calc aj (Gw f ?_);calc aj (Gw b ?_);show aw #v[J,J,e]
 .rintro r d ⟨rfl,rfl,_⟩;show aw h
end
def Nn(ow:Array (Option Nat))(j:Nat):Prop:=(ow.getD j (U 0)).isNone=γ
section
def lv(a:Array (Option Nat)):List (Nat×Nat):=(bh 32).filterMap λj=>(a.getD j Z).map (j,·)
end
def Y?(m n:Nat):Prop:=(m=7/\n<=4)\/(m=31/\n<=18)\/(m=127/\19<=n/\n<=63)
section
def Tq(d:TK prog w s.heap (Sum.inr x::p) a)(h:Q δ s):ar (model prog w) A (hashByValue 8 (.ref a)) Q E s:=by
 have hT:=d.typeIs;let#v[o,items,n,i,_,hd,c]:=d;calc aj (gH hT qt.lookup ?_);calc aj (kO i hd ?_);calc aj ?_;change ar _ _ (forIn items _ _) _ _ s;rw[<-mw];generalize items.toList=l at c ⊢;cases c with
 |@cons _ v _ j f m=>
  let#v[t,rfl]:∃t,v=.str x t:=Dk f;refine ip _ (λeo r b=>b=s/\∃u,eo=.str x t::u) _ ?_ ?_ _ _ #v[J,j,J]
  .rintro v eo r b ⟨rfl,u,e⟩;ext e;calc aj (aw ?_);show aw (aw h)
  .rintro r b ⟨rfl,u,e⟩;ext e
end
structure CJ(h:Heap)(S:Addr)(L:List (List ee×Addr))(led:Bool)(n:Nat)(o:Obj)(es:Array (Int×aa))(ep:Nat)(t:cE):Prop where
 l0:h.get? S=U o
 ex:o.ExactSet
 d:o.data=.set es ep t
 c:∃m,Tb t m n/\Y? m n
 led:t.led=led
 pl:0<n->t.plain=δ
 p:(es.toList.map bI).Perm (L.map λq=>Value.ref q.2)
def CJ.sz{h:Heap}{S:Addr}{L:List (List ee×Addr)}{led:Bool}{n:Nat}{o:Obj}{a:Array (Int×aa)}{b:Nat}{t:cE}(x:CJ h S L led n o a b t):a.size=L.length:=by have:=x.p.length_eq;rw[ak,ak,bK]at this;show this
theorem CJ.fits{h:Heap}{S:Addr}{L:List (List ee×Addr)}{led:Bool}{n:Nat}{o:Obj}{a:Array (Int×aa)}{b:Nat}{t:cE}(x:CJ h S L led n o a b t)(d:L.length=n):t.fits a.size=γ:=by let#v[m,T,c]:=x.c;delta gR iz;rw[x.sz,d,T.pl,T.dm,T.mask,bt];show#v[by simp,aI (by delta Y? at c;simp;omega)]
theorem Kp{b:Type}:∀(l:List b) (j:Nat) (x:b),l[j]?=U x->(x::l.eraseIdx j).Perm l
 |[],j,x,h=>by cases h
 |a::l,0,x,h=>by ext h;show .refl _
 |a::l,j+1,x,h=>(List.Perm.swap a x _).t (List.Perm.cons a (Kp l j x h))
theorem OZ{b:Type}(a:Nat->Nat):∀(f k:Nat) (l:List b) (out:Array b),l.length=f->(sh a f k l out).toList.Perm (out.toList++l)
 |0,k,l,out,h=>by obtain rfl:=hX.1 h;rw[bD];show .refl _
 |f+1,k,l,out,h=>by have hlt:a k % l.length<l.length:=eL _ ();have e:l[a k % l.length]?=U l[a k % l.length]:=aH hlt;delta sh;rw[e];calc(OZ a f (k+1) _ _ (by rw[pY,af hlt];omega)).t ?_;rw[mK,bL];show List.Perm.append_left _ (Kp l _ _ e)
def Jy{c:Type}(b:Nat->Nat)(a:Array c):(pickOrder b a).toList.Perm a.toList:=OZ b a.size 0 a.toList [].toArray bK
section
def WY(hn:n≠0)(h:∀i d,i<n->Q i { s with drawn:=d }):ar (model prog w) A (choose src n) Q E s:=λΓ p hΓ=>by change Sem.wp _ Γ (.choose src n .pure) _ _ p s;rw[Sem.wp_choose];show#v[hn,h _ _ (eL _ (Nat.pos_of_ne_zero hn))]
theorem O0{α:Type}:∀(n:Nat) (xs:List α) (s:aq) {Q:List α->aq->Prop},xs.length=n->(∀c d,c.Perm xs->Q c { s with drawn:=d })->ar (model prog w) A (drawOrder n xs) Q E s
 |0,xs,s,Q,b,h=>by obtain rfl:=hX.1 b;delta drawOrder;show aw (h [] s.drawn (.refl _))
 |n+1,[],s,Q,b,h=>by cases b
 |n+1,a::xs,s,Q,b,h=>by delta drawOrder;calc aj (WY (by simp) λi d hi=>?_);have e:(a::xs)[i]?=U (a::xs)[i]:=aH hi;rw[e];calc aj (O0 n _ _ (by rw[pY,af hi];omega) λc f p=>?_);show aw (h _ f ((List.Perm.cons _ p).t (Kp _ _ _ e)))
end
#print "yZ next__;ED iter__" in def ϑ0:Slot "set_iterator" "__ϑ1" "set_iterator.__ϑ1" :=
 .of (owner:="set_iterator") (n:="__ϑ1") (by rw[qZ,pT];kernel_rfl) (by decide +kernel) (by decide +kernel) (by decide +kernel)
  (by first|show .inl (by decide +kernel)|show .inr (by decide +kernel)) (by rw[jy];kernel_rfl)
def IJ:entryFor table "set_iterator.__next__" = U dr.«set_iterator.__next__»:=entryFor_of_tree (by kernel_rfl)
def L6:Manifest.owners.lookup (String.ofList ['r','o','t','a','r','e','t','i','_','t','e','s'].reverse)=U Manifest.sig_set_iterator:=by kernel_rfl
def Kq(a:aa):argsOk "set_iterator.__next__" #v[[a],[]]:=by delta argsOk;rw[rU (id:="set_iterator.__next__") (n:=['_','_','t','x','e','n','_','_']) (o:=['r','o','t','a','r','e','t','i','_','t','e','s']) (by kernel_rfl) L6];kernel_rfl
def Kr:entryFor table "set.__iter__" = U dr.«frozenset.__iter__»:=m8 (id':="frozenset.__iter__") (by kernel_rfl) J (by decide +kernel) (by kernel_rfl)
inductive Md(w:aQ) (h:Heap) (S TP:Addr) (i:Nat) (ord:List aa) (es:Array (Int×aa)) (ep:Nat) (t:cE):aa->Prop
 |txt {sl:Int} {tk:Tok}:w.params.followText "set-order" = γ->ord=(pickOrder (w.params.setOrder S ep) es).toList.map bI->Md w h S TP i ord es ep t (.int sl tk)
 |drw {ps:List Nat} {vs:Array aa} {ot:Obj} {nt:Nat}:w.params.followText "set-order" = δ->h.get? TP=U ot->ot.cls=.type "tuple" -> ot.data=.seq vs nt->vs=(ps.map λp:Nat=>rawInt p).toArray->ps.Perm (bh es.size)->ord=ps.filterMap (λp=>es[p]?.map bI)->Md w h S TP i ord es ep t (.ref TP)
 |one {sl:Int}:w.params.followText "set-order" = δ->es.size<=1->t.led=γ->(i=0->sl=0)->(∀j,i=1->t.place=#[j]->sl=(j+1:Nat))->ord=es.toList.map bI->Md w h S TP i ord es ep t (.int sl 0)
structure ItS(w:aQ)(I S TP:Addr)(ord:List aa)(o:Obj)(es:Array (Int×aa))(ep:Nat)(t:cE)(i:Nat)(h:Heap):Prop where
 it:∃oi first,h.get? I=U oi/\oi.cls=.type "set_iterator" /\ oi.data=.fields #[first,.int i 0,.ref S,.int es.size 0,.int ep 0]/\Md w h S TP i ord es ep t first
 l0:h.get? S=U o
 dq:o.data=.set es ep t
 fq:t.fits es.size=γ
section
variable{s:aq}{I S TP:Addr}
def Fj(h:Q (w.params.followText "set-order") s):ar (model prog w) A setsByText Q E s:=by show aj (mS (aw h))
def NK(x:ItS w I S TP ord o a d t i s.heap)(N:Md w s.heap S TP i ord a d t (.int y tk))(H:i<=1\/w.params.followText "set-order" = γ)
  (hQ:∀(v:aa) (u:Nat),ord[i]?=U v->Md w s.heap S TP (i+1) ord a d t (.int u 0)->Q (U (v,u)) s) (hN:ord[i]?=Z->Q Z s):ar (model prog w) A (setNext S y.toNat i d) Q E s:=by
 calc aj (cK x.l0 x.dq x.fq ?_);calc aj (Fj ?_);cases N with
 |txt b f=>
  rw[b,af J];rw[ah (by simp)];calc aj ?_;calc aj (cK x.l0 x.dq x.fq ?_);calc aj (Fj ?_);rw[b,af J];calc aj (mS ?_);calc aw ?_;calc aw ?_;change Q (la (λe=>(e.snd,y.toNat)) (pickOrder (w.params.setOrder S d) a)[i]?) s;have e:ord[i]?=((pickOrder (w.params.setOrder S d) a)[i]?).map bI:=by rw[f,br,cp]
  cases r:(pickOrder (w.params.setOrder S d) a)[i]? with
  |none=>rw[r]at e;show hN e
  |some q=>rw[r]at e;show hQ q.2 _ e (.txt b f)
 |one b f p C F h=>
  have fs:=by have:=x.fq;delta gR at this;rw[bt,beq_iff_eq]at this;show this.1
  rw[b,ah #[]];rw[ah (λG=>by
   have:(!t.plain&&decide (a.size > 1))=γ:=G;simp at this;omega)]
  calc aj ?_;wp_delta;rw[ah (by rw[p];simp)];calc aw ?_;calc aw ?_;have c:a.size=0\/a.size=1:=by omega
  rcases c with c|c
  .have B:=Array.eq_empty_of_size_eq_zero c;subst B;show hN (by rw[h];rfl)
  .let#v[e,rfl]:=pU.1 c;let#v[j,l]:=pU.1 (fs.t c);rw[l];have M:=H.resolve_right λe=>by rw[b]at e;ext e
   have:i=0\/i=1:=by omega
   rcases this with rfl|rfl
   .rw[C J];change Q (match #[e][bE #[j] 0]?,#[j][bE #[j] 0]? with|some (_,x),U j=>U (x,j+1)|_,_=>Z) s;rw[show bE #[j] 0=0 from by simp[bE,dN]];show hQ e.2 (j+1) (by rw[h];rfl) (.one b f p (λz=>by ext z) (λO n m=>by rw[l]at m;ext m;rfl) h)
   .rw[F j J l];change Q (match #[e][bE #[j] (j+1)]?,#[j][bE #[j] (j+1)]? with|some (_,x),U j=>U (x,j+1)|_,_=>Z) s;rw[show bE #[j] (j+1)=1 from by simp[bE,dN]];show hN (by rw[h];rfl)
def ItS.ty(x:ItS w I S TP ord o e d t i s.heap):s.TypeIs (.ref I) "set_iterator" := let #v[#v[c,_,a,b,_],_,_,_]:=x;#v[c,a,b]
def ItS.ordlen(x:ItS w I S TP ord o a m t i s.heap):ord.length=a.size:=by
 let#v[#v[q,first,_,_,_,l],_,_,_]:=x;cases l with
 |txt d b=>rw[b,ak,(Jy _ a).length_eq,bK]
 |drw d b e f h c j=>rw[j,(c.filterMap _).length_eq];have:=lX a;rw[show (bh a.size).filterMap (λp=>a[p]?.map bI)=((bh a.size).filterMap λp=>a[p]?).map bI from(qm ..).symm,this,ak,bK]
 |one d b e f h c=>rw[c,ak,bK]
theorem Tr{b d:Type}(f:b->Option d):∀(a:List b),(∀p∈a,∃v,f p=U v)->∀i:Nat,(a.filterMap f)[i]?=a[i]?.bind f
 |[],_,i=>rfl
 |p::a,h,i=>by
  let#v[v,e]:=h p aP;rw[dH,e];cases i with
  |zero=>change U v=f p;rw[e]
  |succ i=>show Tr f a (λq c=>h q (ba _ c)) i
def Md.mv(m:Md w h S TP i ord d c t (.int o tk)):Md w p S TP i ord d c t (.int o tk):=by
 cases m with
 |txt a b=>show .txt a b
 |one a b e f j l=>show .one a b e f j l
def O1{B:bo}{R:Fin->aq->Prop}{a:aq}{Q:Option aa->aq->Prop}(c:B.handled=Z)(hN:∀h',(∀b o,a.heap.get? b=U o->h'.get? b=U o)->Q Z { a with heap:=h' }):
  ar (model prog w) B (do let e<-newExc (.type "StopIteration") [];raiseNew e) R (λe s'=>ar (model prog w) A (do if<-isInstance e (.type "StopIteration")then pure Z else throw e) Q E s') a:=by
 calc aj ?_;erw[newExc,newTuple];calc aj (gu ?_ (by size_fits));calc aj (wpAny_of_eq (by first|rfl|(erw[firstArgMember];rfl)) ?_);calc gu ?_ (by size_fits);erw[raiseNew];calc aj (wpAny_handled ?_);rw[c];calc aj (aw (wpAny_throw ?_));calc aj (mU #v[_,bq _ J,J] isSubtype_stop ?_);show aw (hN _ λb o e=>aJ _ (aJ _ e))
def Ts(y:A.handled=Z)(x:ItS w I S TP ord o es ep t i s.heap)(hi:i<=ord.length)(hS:S≠I)(hT:TP≠I)
  (hQ:∀v h',ord[i]?=U v->fD I s.heap h'->ItS w I S TP ord o es ep t (i+1) h'->Q (U v) { s with heap:=h' }) (hN:∀h',ord[i]?=Z->Heap.ExtBut I s.heap h'->Q Z { s with heap:=h' }):
  ar (model prog w) A (pyNext (.ref I)) Q E s:=by
 have C:=x.ordlen;let#v[B,first,hoi,hci,hdi,hm]:=x.it;calc aj (wpAny_attempt (wpAny_callSpecial?_slot x.ty yZ (fS yZ x.ty IJ ?_ (Kq _))));change ar _ _ (fieldsOf (.ref I)>>=_) _ _ s;calc aj (wpAny_fieldsOf hoi hdi ?_);calc aj ?_;calc aj (cK x.l0 x.dq x.fq ?_);calc aw ?_;rw[ah (by simp)];erw[ik];have byint:∀(sl:Int) (tk:Tok),first=.int sl tk->(i<=1\/w.params.followText "set-order" = γ)->ar (model prog w) A.in1 (do
   let r<-setNext S sl.toNat i ep
   match r with
    |some (x,next)=>do
     setField (Value.ref I) 0 (rawInt ↑next)
     setField (Value.ref I) 1 (rawInt (↑i+1))
     ret x
    |none=>do
     setField (Value.ref I) 2 Value.none
     let e<-newExc (Value.type "StopIteration") []
     raiseNew e) (λfin s'=>∃v,fin=Fin.done (Flow.ret v)/\ar (model prog w) A (pure (U v)) Q E s') (λe s'=>ar (model prog w) A (do if<-isInstance e (.type "StopIteration")then pure Z else throw e) Q E s') s:=λsl tk e u=>by
  subst e;refine aj (NK x hm u (λv nx a m=>?_) λa=>?_)
  .calc aj (iw hoi hdi (by simp) ?_);have g1:=eX (gS (·.setIfInBounds 0 (rawInt (nx:Int)))) hoi (kh (fP hdi _))
   have d1:=fP hdi (·.setIfInBounds 0 (rawInt (nx:Int)))
   calc aj (iw g1 d1 (by simp) ?_);have g2:=eX (gS (·.setIfInBounds 1 (rawInt ((i:Int)+1)))) g1 (kh (fP d1 _))
   have d2:=fP d1 (·.setIfInBounds 1 (rawInt ((i:Int)+1)))
   have d:=(dJ s.heap I (gS (·.setIfInBounds 0 (rawInt (nx:Int))))).t (dJ _ I (gS (·.setIfInBounds 1 (rawInt ((i:Int)+1)))))
   refine aw #v[v,J,aw (hQ v _ a d #v[#v[_,.int nx 0,g2,(mL ..).t ((mL ..).t hci),?_,m.mv],?_,x.dq,x.fq])]
   .rw[d2];simp[rawInt]
   .rw[d.2 S hS];show x.l0
  .calc aj (iw hoi hdi (by simp) ?_);show O1 (by simp[y]) λh' k=>hN h' a λb o h e=>k b o (by rw[(dJ ..).2 b h];show e)
 cases hm with
 |txt h1 h2=>show byint _ _ J (.inr h1)
 |one h1 h2 h3 h4 h5 h6=>show byint _ _ J (.inl ())
 |@drw ps vs ot nt h1 h2 h3 h4 h5 h6 h7=>
  calc aj (kO h2 h4 ?_);have al:∀p∈ps,∃v,(es[p]?.map bI)=U v:=λp z=>by have:=bR.1 (h6.mem_iff.1 z);show#v[es[p].2,by rw[c8 this];rfl]
  have f:ord[i]?=ps[i]?.bind λp=>es[p]?.map bI:=by rw[h7];show Tr _ ps al i
  have a:vs[i]?=ps[i]?.map λp:Nat=>rawInt p:=by rw[h5,kg,br]
  cases c:ps[i]? with
  |none=>
   rw[c]at a f;dsimp only;rw[a];calc aj (iw hoi hdi (by simp) ?_);have g1:=eX (gS (·.setIfInBounds 0 (rawInt 0))) hoi (kh (fP hdi _))
   have d1:=fP hdi (·.setIfInBounds 0 (rawInt 0))
   calc aj (iw g1 d1 (by simp) ?_);show O1 (by simp[y]) λh' k=>hN h' f λb o h e=>k b o (by rw[(dJ ..).2 b h,(dJ ..).2 b h];show e)
  |some p=>
   rw[c]at a f;let#v[v,j]:=al p (cb c);dsimp only;rw[a];change ar _ _ (setNextDrawn S (p:Int).toNat ep>>=_) _ _ s;rw[ik];calc aj ?_;calc aj (cK x.l0 x.dq x.fq ?_);dsimp only;rw[ah (by simp)];cases l:es[p]? with
   |none=>rw[l]at j;cases j
   |some q=>
    rw[l]at j;calc aw ?_;calc aj (iw hoi hdi (by simp) ?_);have g1:=eX (gS (·.setIfInBounds 1 (rawInt ((i:Int)+1)))) hoi (kh (fP hdi _))
    have d1:=fP hdi (·.setIfInBounds 1 (rawInt ((i:Int)+1)))
    have d:=dJ s.heap I (gS (·.setIfInBounds 1 (rawInt ((i:Int)+1))))
    refine aw #v[_,J,aw (hQ _ _ (by rw[f];change es[p]?.map bI=_;rw[l];rfl) d #v[#v[_,.ref TP,g1,(mL ..).t hci,?_,.drw h1 (by rw[d.2 TP hT];show h2) h3 h4 h5 h6 h7],?_,x.dq,x.fq])]
    .rw[d1];simp[rawInt]
    .rw[d.2 S hS];show x.l0
end
def IK:entryFor table "set_iterator.__iter__" = U dr.«dict_keyiterator.__iter__»:=m8 (id':="dict_keyiterator.__iter__") (by kernel_rfl) J (by decide +kernel) (by kernel_rfl)
def Ks(a:aa):argsOk "set_iterator.__iter__" #v[[a],[]]:=by delta argsOk;rw[rU (id:="set_iterator.__iter__") (n:=['_','_','r','e','t','i','_','_']) (o:=['r','o','t','a','r','e','t','i','_','t','e','s']) (by kernel_rfl) L6];kernel_rfl
section
variable{I S TP:Addr}
def Md.at{h':Heap}(m:Md w h S TP i ord es ep t f)(k:∀o,h.get? TP=U o->h'.get? TP=U o):Md w h' S TP i ord es ep t f:=by
 cases m with
 |txt a b=>show .txt a b
 |one a b c d e j=>show .one a b c d e j
 |drw a b c d e j l=>show .drw a (k _ b) c d e j l
def ab8(l:A.handled=Z)(hS:S≠I)(hT:TP≠I):Walks prog w A I [I,S,TP] [I] ord.length (λi v=>ord[i]?=U v) (λi h=>ItS w I S TP ord o es ep t i h/\i<=ord.length) where
 sub:=λb a=>by simp at a;simp[a]
 frame:=λi h h' st d=>by let#v[#v[#v[m,f,h1,h2,h3,hm],h4,h5,h6],h7]:=st;show#v[#v[#v[m,f,d I (by simp) _ h1,h2,h3,hm.at λo e=>d TP (by simp) o e],d S (by simp) _ h4,h5,h6],h7]
 item:=λi s Q E hi st hQ=>Ts l st.1 st.2 hS hT (λv h' c p x=>hQ v h' s.toks c #v[x,by omega] λb o a e=>by rw[p.2 b λz=>a (by simp[z])];show e) λh' j u=>by rw[aH hi]at j;ext j
 done:=λs Q E st hQ=>Ts l st.1 st.2 hS hT (λv h' c u u=>by rw[gn (aF _)]at c;ext c) λh' u k=>hQ h' s.toks λb o a e=>k b o (λz=>a (by simp[z])) e
 self:=λi s Q E st h=>by calc mJ st.1.ty ED (fS ED st.1.ty IK ?_ (Ks _));change ar _ _ (ret (.ref I)) _ _ s;show aw #v[_,J,"set_iterator", _,st.1.ty,yZ.lookup,h]
theorem ab9(x:CJ s.heap S L (!w.params.followText "set-order") n o es ep t)(i:L.length=n)
  (hQ:∀(h':Heap) (I TP:Addr) (ord:List aa) (d:Drawn),~~~s<=I->I<h'.objs.size->TP≠I->(TP=S\/ ~~~s<=TP)->(∀b o,s.heap.get? b=U o->h'.get? b=U o)->ItS w I S TP ord o es ep t 0 h'->ord.Perm (L.map λq=>Value.ref q.2)->Q (.ref I) { s with heap:=h',drawn:=d }):
  ar (model prog w) A (pyIter (.ref S)) Q E s:=by
 have a:=x.fits i;have ty:s.TypeIs (.ref S) "set" := #v[o,x.l0,x.ex.1];have hlt:=aM x.l0;calc mJ ty q9 (fS q9 ty Kr ?_ (F.args_set_iter_1 _));delta dr.«frozenset.__iter__»;calc aj (m:=uy _ _) (aw ?_);calc aj ?_;delta uw setEntries;calc aj (aj (cK x.l0 x.d a (aw ?_)));calc aw ?_;calc aj ?_;delta setDrawn;calc aj (cK x.l0 x.d a ?_);dsimp only;calc aj (Fj ?_);calc aw ?_;have plain0:(w.params.followText "set-order" = γ\/(w.params.followText "set-order" = δ/\es.size<=1))->ar (model prog w) A.in1 (do
   let first<-pure (rawInt 0)
   let e<-setEpoch S;let r<-newFields "set_iterator" [first,rawInt 0,Value.ref S,rawInt ↑es.size,rawInt ↑e]
   ret r) (λfin s'=>∃v,fin=Fin.done (Flow.ret v)/\∃f r,s'.TypeIs v f/\typeLookup (Value.type f) (sj "__next__")=pure (U r)/\Q v s') E s:=λc=>by
  calc aj (aw ?_);calc aj (qA x.l0 x.d a ?_);calc aj (gu ?_);have h:∀(l:Obj) (b:Addr) (o:Obj),s.heap.get? b=U o->(s.heap.push l).get? b=U o:=λl b o e=>aJ _ e;have it:∀ord,Md w (s.heap.push { cls:=.type "set_iterator", data:=.fields [rawInt 0,rawInt 0,Value.ref S,rawInt ↑es.size,rawInt ↑ep].toArray }) S S 0 ord es ep t (.int 0 0)->ord.Perm (L.map λq=>Value.ref q.2)->_:=λord m p=>aw (M:=model prog w) (A:=A.in1) (E:=E) (Q:=λfin s'=>∃v,fin=Fin.done (Flow.ret v)/\∃f r,s'.TypeIs v f/\typeLookup (Value.type f) (sj "__next__")=pure (U r)/\Q v s') #v[.ref (~~~s),J,"set_iterator", _,#v[_,bq _ J,J],yZ.lookup,hQ _ (~~~s) S ord s.drawn (aF _) (by rw[cY];show cQ _) (aW hlt) (.inl J) (h _) #v[#v[_,.int 0 0,bq _ J,J,J,m],h _ _ _ x.l0,x.d,a] p];rcases c with c|⟨c1,c2⟩
  .show it _ (.txt c J) (((Jy _ es).map _).t x.p)
  .show it _ (.one c1 c2 (by rw[x.led,c1];rfl) (λk=>J) (λj e=>by ext e) J) x.p
 cases c:w.params.followText "set-order" with
 |true=>rw[ah (by simp)];show plain0 (.inl c)
 |false=>
  by_cases h1:es.size<=1
  .rw[ah λz=>by
    have:(!δ&&(!t.plain&&decide (es.size > 1)))=γ:=z;simp at this;omega]
   show plain0 (.inr #v[c,h1])
  .have pl:t.plain=δ:=x.pl (by have:=x.sz;omega);rw[af (by change (!δ&&(!t.plain&&decide (es.size > 1)))=γ;rw[pl];simp;omega)];calc aj (O0 es.size _ s cG λB d p=>?_);refine aj (rD ?_ (by
    rw[ak,p.length_eq,cG,x.sz,i,bH];let#v[m,T,c]:=x.c;delta Y? at c;omega))
   calc aj (qA (aJ _ x.l0) x.d a ?_);calc aj (gu ?_);have h:∀(u y:Obj) (b:Addr) (o:Obj),s.heap.get? b=U o->((s.heap.push u).push y).get? b=U o:=λu y b o e=>aJ _ (aJ _ e);have ord:(B.filterMap λp=>es[p]?.map bI).Perm (L.map λq=>Value.ref q.2):=by calc(p.filterMap _).t ?_;rw[show (bh es.size).filterMap (λp=>es[p]?.map bI)=((bh es.size).filterMap λp=>es[p]?).map bI from(qm ..).symm,lX];show x.p
   refine aw #v[_,J,"set_iterator", _,#v[_,bq _ J,J],yZ.lookup,hQ _ _ (~~~s) _ d ?_ ?_ ?_ (.inr (aF _)) (h _ _) #v[#v[_,.ref (~~~s),bq _ J,J,J,.drw c (aJ _ (bq _ J)) J J J p J],h _ _ _ _ x.l0,x.d,a] ord]
   .rw[cY];show iF _
   .show Nat.lt_of_lt_of_eq (cQ _) (cY _ _).symm
   .rw[cY];show aW (cQ _)
end
section
def CJ.f?{h h':Heap}{led:Bool}(x:CJ h S L led n o es ep t)(k:∀o,h.get? S=U o->h'.get? S=U o):CJ h' S L led n o es ep t:={ x with l0:=k _ x.l0 }
theorem L7(P:A.handled=Z)(x:CJ s.heap S L (!w.params.followText "set-order") n o es ep t)(u:L.length=n)
  (hQ:∀h2 h d2 acc,~~~s<=h2.objs.size->(∀b o,s.heap.get? b=U o->h2.get? b=U o)->acc.Perm (L.map λq=>Value.ref q.2)->Q acc { s with heap:=h2,toks:=h,drawn:=d2 }):ar (model prog w) A (collect (.ref S)) Q E s:=by
 have hlt:=aM x.l0;have R:n<=63:=by let#v[m,T,c]:=x.c;delta Y? at c;omega
 let lO:Obj:={ cls:=.type "list", data:=.seq ([]:List aa).toArray };delta collect;calc aj (m6 (dh pR ?_));rw[dv pS _];change ar _ A.in1 (newList []>>=λl=>again (.builtin "list.__iadd__" #v[[l,.ref S],[]])) _ _ s;calc aj (gu ?_);calc aw #v[eG kF _,dh qz ?_];rw[dv kF _];change ar _ A.in1 (j3 (.ref (~~~s)) (.ref S) (.ref (~~~s))) _ _ _;have r:(s.heap.push lO).objs.size= ~~~s+1:=cY _ _;have B:CJ (s.heap.push lO) S L (!w.params.followText "set-order") n o es ep t:=x.f? λo e=>aJ _ e;have H:jz { s with heap:=s.heap.push lO } (.ref S) "set" := #v[o,B.l0,x.ex.1];delta j3;calc aj (jD H ?_);rw[ah (by
  have:j8 (.ref (~~~s)) (.ref S)=δ:=by simp[j8];show λe=>au e (eJ hlt)
  rw[this];decide)]
 calc aj (ab9 (s:={ s with heap:=s.heap.push lO }) B u λh3 I TP ord p hI1 hI2 hTI hTP y it po=>?_);have hI: ~~~s+1<=I:=by rw[<-r];show hI1
 have L3:h3.get? (~~~s)=U lO:=y _ _ (bq _ J);have d:jz { s with heap:=h3,drawn:=p } (.ref S) "set" := #v[o,it.l0,x.ex.1];have C:∀b o,s.heap.get? b=U o->h3.get? b=U o:=λb o e=>y b o (aJ _ e);change ar _ A.in1 (holding [.ref I] (j4 (.ref S))>>=_) _ _ { s with heap:=h3,drawn:=p };calc aj (cA ?_);delta j4;calc aj (gH d F.slot_set_len.lookup ?_);generalize hid:("set.__len__" : String)=f;wp_delta;rw[show splitId f=U ("set", "__len__") from by subst hid;decide +kernel];subst hid;calc aj (mU d sub_set_self ?_);dsimp only;rw[ah #[],af (by decide +kernel)];calc aj (jD d ?_);calc aw ?_;rw[af (by decide +kernel)];calc aj (oq ?_);calc aj ?_;change ar _ A.in1 (updateSeq (~~~s) (·.push .none)>>=λk=>updateSeq (~~~s) (·.pop)) _ _ _
 calc aj (jx L3 J ?_);have i:=eX (c4 (·.push Value.none)) L3 J
 calc jx i J ?_;have G:=eX (c4 (·.pop)) i J
 have ZX:∀b o,b≠~~~s->h3.get? b=U o->((h3.update (~~~s) (c4 (·.push Value.none))).update (~~~s) (c4 (·.pop))).get? b=U o:=
  λb o a e=>(gm _ _ (b0 a)).t ((gm _ _ (b0 a)).t e)
 have hSI:S≠I:=aW (cF hlt (qB hI));have hSf: ~~~s∉[I,S,TP]:=by
  intro z;rcases aD.1 z with z|z
  .show au z (aW hI)
  .rcases aD.1 z with z|z
   .show au z (eJ hlt)
   .rw[aO]at z;rcases hTP with e|e
    .show au (z.t e) (eJ hlt)
    .rw[<-z,r]at e;show au e (Nat.not_succ_le_self _)
 have W:=ab8 (prog:=prog) (w:=w) (A:=A.in1) (I:=I) (S:=S) (TP:=TP) (ord:=ord) (o:=o) (es:=es) (ep:=ep) (t:=t) (by simp[P]) hSI hTI;have ol:ord.length<=63:=by rw[po.length_eq,ak,u];show R
 refine aw #v[eG qe _,pX W.toS (by rw[bH];omega) _ hSf _ ord.length 0 _ _ _ J (bM _)
  (W.frame 0 h3 _ #v[it,bM _] λb a o e=>ZX b o (λz=>hSf (by rw[<-z];show a)) e) G (sH _) λs' acc' Y hm hS' hacc=>?_]
 change ar _ A (load (~~~s)>>=_) _ _ s';calc aj (oe hS' ?_);have M:acc'.toList=ord:=by
  apply mC;intro j;cases e:acc'.toList[j]? with
  |none=>rw[List.getElem?_eq_none_iff,bK,hacc.1]at e;show(gn e).symm
  |some v=>rw[cp]at e;show(hacc.2 j v e).symm
 let#v[h2,g2,d2,h,X]:=s';have N:g2=s.gens:=hm.gens;have O:X=s.os:=hm.os;subst N O;calc aw (hQ h2 h d2 acc'.toList (fC (aM hS')) (λb o e=>?_) (by rw[M];show po));have a:=aM e;show hm.heap b o (λz=>by
  rcases aD.1 z with z|z
  .show au z (aW a)
  .show au (aO.1 z) (aW (cF a (qB hI)))) (ZX b o (aW a) (C b o e))
end
end L4
namespace L4
open PySem PySem.Spec PySem.Calls PyProof.Rows PySem.W L2 L3
theorem L8{c j:Type}(f:c->j):∀{L:List c} {l:List j},l.Perm (L.map f)->∃b:List c,b.Perm L/\l=b.map f
 |[],l,h=>#v[[],.refl _,by rw[bZ]at h;show h.eq_nil]
 |a::L,l,h=>by
  have o:f a∈l:=h.mem_iff.2 (by rw[aA];show aP);let#v[s,t,rfl]:=qo o;have m:(s++t).Perm (L.map f):=by have:=(kJ (l₁:=s) (l₂:=t) (a:=f a)).symm.t h;rw[aA]at this;show this.cons_inv
  let#v[b,p,e]:=L8 f m;refine#v[b.take s.length++a::b.drop s.length,?_,?_]
  .calc kJ.t (List.Perm.cons a ?_);rw[ib];show p
  .rw[bg,aA,iB,iA,<- e];simp
section
def QE{its:List aa}{ks:List aC}(z:A.units+8<cLine)(h1:0<its.length)(d:its.length<64)
  (item:∀i,i<its.length->∃a p q t v,its[i]?=U (.ref a)/\ks.getD i []=[p,q]/\dW s.heap a #[.str p t,.str q v]) (r:s.heap.get? l=U (seqObj "list" its.toArray n))
  (h:∀h' e,AM l s.heap h'->h'.get? l=U (seqObj "list" (DA (λi j=>xp (ks.getD i []) (ks.getD j [])) its).toArray e)->P (.done (.ret .none)) { s with heap:=h' }):
  ar (model prog w) A (dr.«list.sort» #v[[.ref l],[]]) P E s:=by
 have item':∀{h':Heap},AM l s.heap h'->It2 h' its ks:=λ{h'} b i hi=>by
  let#v[a,p,q,t,v,m,x,o,f,u,n,y]:=item i hi;have hne:a≠l:=λe=>by subst e;rw[r]at f;ext f;show au (vn u) #[]
  show#v[a,p,q,t,v,by rw[bQ,m];rfl,x,#v[o,b a o hne f,u,n,y],m]
 calc LS (κ:=tuples' γ) (c:=λi j=>xp (ks.getD i []) (ks.getD j [])) r h1 d (λh' C b hC=>QD (s:={ s with heap:=h' }) (item' b) h1 hC) (λh' i j C b hij hC=>S8 (s:={ s with heap:=h' }) (item' b) hij hC) h
abbrev W'(k:aC):List ee:=k.map Sum.inr
def Tt(ks:List aC)(vs:List aa):List aa:=if vs=[]then []else DA (λi j=>xp (ks.getD i []) (ks.getD j [])) vs
def Tv{its:List aa}{ks:List aC}(I:A.units+8<cLine)(f:its.length<64)
  (item:∀i,i<its.length->∃a p q t v,its[i]?=U (.ref a)/\ks.getD i []=[p,q]/\dW s.heap a #[.str p t,.str q v]) (j:s.heap.get? l=U (seqObj "list" its.toArray n))
  (h:∀h' e,AM l s.heap h'->h'.get? l=U (seqObj "list" (Tt ks its).toArray e)->P (.done (.ret .none)) { s with heap:=h' }):
  ar (model prog w) A (dr.«list.sort» #v[[.ref l],[]]) P E s:=by
 delta Tt at h;by_cases h0:its=[]
 .subst h0;rw[af J]at h;calc qY rS j PyProof.Rows.StrsAre.nil.keysOf (λx y eo e=>by ext e) #[] λc a1 B=>?_;let#v[m,r,C,M]:=rE PyProof.Rows.StrsAre.nil a1 B;have F:m=[]:=C.eq_nil;subst F;have G:((arrOf c).map (·.2))=[].toArray:=by cases d:((arrOf c).map (·.2)).toList with
   |nil=>show Array.toList_eq_nil_iff.1 d
   |cons a b=>rw[d]at r;ext r
  let#v[e,u]:=rT (vs:=[]) (out:=(arrOf c).map (·.2)) j
  rw[G]at u ⊢;show h _ e (λb o H z=>by rw[rF H (aM z)];show z) u
 .rw[ah h0]at h;show QE I (eY.2 h0) f item j h
end
section
def NL{L:List (aC×Addr)}(M:A.handled=Z)(hu:A.units+64<cLine)(d:L.length=n)(x:CJ s.heap S (L.map λq=>(W' q.1,q.2)) (!w.params.followText "set-order") n o es ep t)
  (tk:∀q∈L,∃p r,q.1=[p,r]/\TK prog w s.heap (W' q.1) q.2)
  (hQ:∀(a:List (aC×Addr)) (p:Addr) (h2:Heap) (h:Nat) (d2:Drawn) (e:Nat),a.Perm L-> ~~~s<=p->(∀b o,s.heap.get? b=U o->h2.get? b=U o)->h2.get? p=U (seqObj "list" (Tt (a.map ai) (a.map λq=>Value.ref q.2)).toArray e)->Q (.ref p) { s with heap:=h2,toks:=h,drawn:=d2 }):
  ar (model prog w) A (call (.builtin "sorted") [.ref S]) Q E s:=by
 have n9:n<=63:=by let#v[m,T,c]:=x.c;delta Y? at c;omega
 calc lV nZ nN nO (nP _) ?_;calc aj (aw ?_);calc aj (L7 (by simp[M]) x (by rw[ak];show d) λg h d2 acc N j u=>?_);rw[aT]at u;let#v[a,pL,rfl]:=L8 (λq:aC×Addr=>Value.ref q.2) u;have len:(a.map λq=>Value.ref q.2).length=n:=by rw[ak,pL.length_eq,d]
 calc aj (kU ?_ (by rw[len,bH];omega));have on:(g.push (seqObj "list" (a.map λq=>Value.ref q.2).toArray 0)).get? g.objs.size=U (seqObj "list" (a.map λq=>Value.ref q.2).toArray 0):=bq _ J;calc aj (cA (fS m9 #v[_,on,J] mY ?_ (ng _)));refine Tv (ks:=a.map ai) (by change A.units+1+1+8<cLine;omega) () (λi hi=>?_) on λh' e O I=>?_
 .rw[ak]at hi;let#v[p,r,l,Y]:=tk a[i] (pL.mem_iff.1 (cI hi));let#v[ob,its,P,R,W,X,f]:=Y;rw[l]at f;cases d:its.toList with
  |nil=>rw[d]at f;cases f
  |cons v1 r1=>
   rw[d]at f;cases f with
   |cons a1 C=>
    cases C with
    |@cons _ v2 _ r2 F G=>
     ext G;let#v[y,rfl]:∃t,v1=.str p t:=Dk a1;let#v[B,rfl]:∃t,v2=.str r t:=Dk F;have H:its=#[.str p y,.str r B]:=by rw[<-Array.toList_inj,d]
     refine#v[a[i].2,p,r,y,B,by rw[br,aH hi];rfl,by rw[bQ,br,aH hi];show l,ob,aJ _ (j _ _ R),W,P,by rw[X,H]]
 .show#v[_,J,aw #v[_,J,hQ a g.objs.size h' h d2 e pL N (λb o z=>O b o (aW (aM (j b o z))) (aJ _ (j b o z))) I]]
end
section
def b?.drw(I:b? X pins σ H s)(d:Drawn):b? X pins σ H { s with drawn:=d }:=#v[I.ok,I.os,I.i?,I.a8,I.G',I.cell,I.free,I.j?,I.C',I.fb,I.len]
def HF(ks:List aC)(a:bA):bA:=if a=[]then []else (DY (λi j=>xp (ks.getD i []) (ks.getD j [])) a.length).map λi=>a.getD i V.cx
end
section
variable{G:Bg}
theorem Jz:∀l:List (aC×Addr),d? (l.map λq=>V.ref q.2) (l.map λq=>Value.ref q.2)
 |[]=>.nil
 |q::l=>.cons J (Jz l)
def fy(k:aC):D:=.bx (k.map D.str)
def EE(a:List aC):List aC:=if a=[]then []else (DY (λi j=>xp (a.getD i []) (a.getD j [])) a.length).map λi=>a.getD i []
theorem O2:∀{b:aZ} {f:List aC} {h:bA},bc G H b h->FP b=U f->∃L:List (aC×Addr),h=L.map (λq=>V.ref q.2)/\f=L.map ai/\∀q∈L,∃p r,q.1=[p,r]/\fl G.K H q.2 [.str p,.str r]
 |[],f,h,r,e=>by ext e;delta bc at r;subst r;show#v[[],J,J,λq o=>by ext o]
 |d::b,f,h,r,e=>by
  delta FP at e;cases c:WO d with
  |none=>rw[c]at e;cases e
  |some k=>
   cases i:FP b with
   |none=>rw[c,i]at e;cases e
   |some t=>
    rw[c,i]at e;ext e;delta bc at r;let#v[v,x,rfl,u,w]:=r;let#v[L,rfl,rfl,m]:=O2 w i;let#v[a,p,q,rfl,rfl,l]:=S9 u c;calc#v[([p,q],a)::L,J,J,λz j=>?_];rcases aD.1 j with rfl|j
    .show#v[p,q,J,l]
    .show m z j
theorem L9{a:Type}{f:a->D}{g:a->V}:∀is:List a,(∀i∈is,df G H (f i) (g i))->bc G H (is.map f) (is.map g)
 |[],_=>vV
 |i::is,h=>vS (h i aP) (L9 is λj b=>h j (ba _ b))
def WZ{a:List aC}(p:a.Perm b)(i:b.Nodup)(d:∀k∈b,∃p q,k=[p,q]):EE a=EE b:=by
 delta EE;by_cases h:b=[]
 .subst h;rw[p.eq_nil]
 .have c:a≠[]:=λe=>h (by subst e;show p.symm.eq_nil);rw[ah h,ah c];show(Tf p (p.nodup_iff.2 i) (λk f=>d k (p.mem_iff.1 f)) (eY.2 c))
def Tw{L:List (aC×Addr)}(h:∀q∈L,∃p r,q.1=[p,r]/\fl G.K H q.2 [.str p,.str r]):bc G H ((EE (L.map ai)).map fy) (HF (L.map ai) (L.map λq=>V.ref q.2)):=by
 delta EE HF;by_cases hL:L=[]
 .subst hL;show vV
 .rw[ah (by exists hL),ah (by exists hL),aT,ak,ak];have c:0<L.length:=eY.2 hL;calc L9 _ λi a=>?_;have a:=Dm _ c i a;change df G H (fy ((L.map ai).getD i [])) ((L.map λq=>V.ref q.2).getD i V.cx);rw[bQ,bQ,br,br,aH a];change df G H (fy L[i].1) (V.ref L[i].2);let#v[p,r,e,b]:=h L[i] (cI a);rw[e];show zT b (vS (zU p) (vS (zU r) vV))
end
end L4
namespace L4
open PySem PySem.Spec PyProof.Rows L2 L3
section
def Tx:D->D->Option D
 |.J a _,.J [] _=>U (.bl a.isEmpty)
 |_,_=>Z
inductive Ys(x:V) (y:V) (H:Hp) (Q:VK):Prop
 |i (a b kvs) (h0:x=.ref a) (h1:y=.ref b) (h2:Rd H a (.dK kvs)) (h3:Rd H b (.dK [])) (h4:Q (.bl kvs.isEmpty) H):Ys x y H Q
def rEqE:R2:=λx y H Q=>Ys x y H Q
def aca(o:X.A.units<cLine):js X (bz .Eq) rEqE:=by
 intro f s E H x y v u Q I p t h;let#v[a,b,kvs,l,m,i,j,q]:=h;subst l m;cases (show v=Value.ref a from p);cases (show u=Value.ref b from t);let#v[z,hd,w,rel,dd]:=Ef I.fb i;let#v[C,d,B,rel',c]:=Ef I.fb j;ext rel';refine W.keq_eq hd d dd c o (r:=γ) (λe=>?_) ?_
 .cases w with
  |nil=>show .nil
  |cons _ _=>ext e
 .calc#v[.bl kvs.isEmpty,H,I,?_,q];change Value.bool _=Value.bool _;ext rel<;>rfl
def acb:k4 G rEqE Tx:=λx y z C H v u Q e s i j k=>by
 cases x with
 |J b E=>
  cases y with
  |J d l=>
   cases d with
   |nil=>
    ext e;delta df at i j;let#v[p,w,h,rfl,m,o,F]:=i;let#v[A,f,B,rfl,c,q,t]:=j;refine#v[p,A,b.zip h,J,J,.inr #v[w,s _ _ m],.inr #v[f,?_],?_]
    .show s _ _ c
    .have:(b.zip h).isEmpty=b.isEmpty:=by
      cases b with
      |nil=>rfl
      |cons a r=>cases h with
       |nil=>cases o
       |cons _ _=>rfl
     rw[this];show k _ λn n=>yb _
   |cons _ _=>cases e
  |_=>cases e
 |_=>ext e
def HG(g c:aZ->aZ->Option (D×aZ))(i:Nat)(f:FE)(a:FA):FE:=λd=>match f d with
 |some (.int 0,b)=>xE g i a b
 |some (.int 1,b)=>xE g i a b
 |some (.int 2,b)=>xE c i a b
 |_=>Z
def TB(O:tF G (xE g i a) σ H Q):zI (t6 G g) [] E (DV G i a) σ H Q:=by
 let#v[F,x,y,d,ρ',R,e,k]:=O;delta xE at e;rcases vW (f:=a) (ρ:=x)with p|⟨o,j,p⟩<;>erw[p]at e
 .ext e
 .cases l:xh j i with
  |none=>erw[l]at e;cases e
  |some t=>
   erw[l]at e;cases r:g t o with
   |none=>erw[r]at e;cases e
   |some q=>let#v[d1,u]:=q;erw[r]at e;ext e;calc#v[F,x,y,o,j,t,R,p,l,λI b z M s m rs A=>?_];let#v[s,c,h]:=yw l;let#v[b',w,B,P,S,T]:=(m.sl i s c).ax h;rw[yc B]at A;ext A;calc#v[b,I,bD _,b,I,w,z,t,o,d,u,J,P,S,m.sub,T,rs,r,λv zs H2 N C W X fr Y w1 w2 w3=>?_];calc k _ _ _ (vF.t ‹vF y z› C) ?_ w3;delta putAt;rw[c];show m.call1 c h B C W X fr Y w1 w2
#print h
def W0{Y p3:Pos}(hK:X.K=G.K)(Dx:AJ X.prog X.w X.K X.mg X.a8 kx x ps (t6 G g))(Dy:AJ X.prog X.w X.K X.mg X.a8 ky y ps' (t6 G T))(rx:xi kx X.A)(ry:xi ky X.A)
  (hb:PE X b (tF G f)) (ha:PA X (e::P) (DV G i a)) (gx:Gl X x) (gy:Gl X y) (dx:(x==("__debug__" : Str))=δ) (dy:(y==("__debug__" : Str))=δ) (he:aE (e::P) X.a9=(δ,eval e X.a9)::aE P X.a9) (hpl:(bJ pos (aE P X.a9)).any (·.1)=δ) (hs:JO b)
  (z:aE [Expr.Name x p1,.Name x Y,.Name y p3] X.a9=[(δ,eval (.Name x p1) X.a9),(δ,eval (.Name x Y) X.a9),(δ,eval (.Name y p3) X.a9)]):
  PE X (.Call (.Subscript (.List [.Name x p1,.Name x Y,.Name y p3] q1) b N) (e::P) [] pos) (tF G (HG g T i f a)):=by
 let#v[l,fdx,x1,x2,x3,x4]:=Dx;let#v[E,fdy,y1,y2,y3,y4]:=Dy;have hc:PE X (.Subscript (.List [.Name x p1,.Name x Y,.Name y p3] q1) b N) (tOp (PV X.K) (Vi (Ak (tC (.ref l)) (Ak (tC (.ref l)) (Ak (tC (.ref E)) GQ)))) (tF G f)):=
  Os JP (MX (xf (D9 gx x1 J dx) (xf (D9 gx x1 J dx) (xf (D9 gy y1 J dy) zO J) J) J)) hb hs
 intro m s o H Q I h;change ar _ _ (eval (.Subscript (.List [.Name x p1,.Name x Y,.Name y p3] q1) b N) X.a9>>=λf=>callWith pos f [] (bJ pos (aE (e::P) X.a9)) (backToKw pos (dR [] X.a9))) _ _ s;refine aj (ff (hc m s o H (λv C=>(v=.ref l/\zI (t6 G g) [] E0 (DV G i a) o C Q)\/(v=.ref E/\zI (t6 G T) [] E0 (DV G i a) o C Q)) I ?_) λu s1 #v[v,C,I1,rv,q]=>?_)
 .let#v[F,ρ,H0,d,ρ',R,e,k]:=h;have go:∀(j:Int) (c:aU) (gg:aZ->aZ->Option (D×aZ)) (S:Addr),f ρ=U (.int j,c)->xE gg i a c=U (d,ρ')->z0 [V.ref l,.ref l,.ref E] j=U (.ref S)->(∀B,zI (t6 G gg) [] E0 (DV G i a) o B Q->(V.ref S=.ref l/\zI (t6 G g) [] E0 (DV G i a) o B Q)\/(V.ref S=.ref E/\zI (t6 G T) [] E0 (DV G i a) o B Q))->
    tOp (PV X.K) (Vi (Ak (tC (.ref l)) (Ak (tC (.ref l)) (Ak (tC (.ref E)) GQ)))) (tF G f) o H (λv C=>(v=.ref l/\zI (t6 G g) [] E0 (DV G i a) o C Q)\/(v=.ref E/\zI (t6 G T) [] E0 (DV G i a) o C Q)):=λj c gg S M e2 e3 e4=>by
   calc#v[by rw[bH];show cP J,λp hp=>?_];calc#v[F,ρ,_,.int j,c,R.GX hp _,M,λv H0' B s R2 r=>?_];have r:_=_:=r;subst r;refine#v[p,_,j,.ref S,J,J,gi.of (R2.sub _ _ (s _ _ vB)),e3,e4 B (TB #v[F,c,H0',d,ρ',R2,e2,λv H3 H3' s' R' r=>k v H3 H3' ((vK (R.e? hp) _).t (s.t s')) R' r])]
  delta HG at e;split at e
  .rename_i c M;show go 0 c g l M e J λB t=>.inl #v[J,t]
  .rename_i c M;show go 1 c g l M e J λB t=>.inl #v[J,t]
  .rename_i c M;show go 2 c T E M e J λB t=>.inr #v[J,t]
  .ext e
 .rcases q with ⟨rfl,q⟩|⟨rfl,q⟩
  .cases (show u=Value.ref l from rv);calc jB (h₀:=X.a8) I.ok.B?.kin x2 (ff (ha pos m s1 o C _ I1 q) λus s2 #v[vs,B,O,r,N]=>#v[O.rl,?_]) he hpl;show E1 x4 rx x3 .nil Eg O r N
  .cases (show u=Value.ref E from rv);calc jB (h₀:=X.a8) I.ok.B?.kin y2 (ff (ha pos m s1 o C _ I1 q) λus s2 #v[vs,B,O,r,N]=>#v[O.rl,?_]) he hpl;show E1 y4 ry y3 .nil Eg O r N
end
#print f
instance inEqE:H? .Eq Tx:=#v[λz z z u=>#v[_,aca (),acb]]
section
def acd [C:Cz X B k][Q:Df B P x (t6 B.G g)][w:Df B R y (t6 B.G A)](j:Gz X x)(d:Dz x)(l:Gz X y)(h:Dz y)(F:ZE X B b f)(H:Iz b)(M:Sz X e c)(I:Lz X pos c)(E:ZM X B (e::c) i a)(N:eR P k=γ)(O:eR R k=γ)
  (z:aE [Expr.Name x m,.Name x t,.Name y u] X.a9=[(δ,eval (.Name x m) X.a9),(δ,eval (.Name x t) X.a9),(δ,eval (.Name y u) X.a9)]):
  ZE X B (.Call (.Subscript (.List [.Name x m,.Name x t,.Name y u] Y) b q2) (e::c) [] pos) (HG g A i f a):=by
 let#v[W,q]:=dz j d (X:=X) (Q:=Q);let#v[S,T]:=dz l h (X:=X) (Q:=w);show#v[W0 C.K q T (C.r.mono (eK.mp N)) (C.r.mono (eK.mp O)) F.p E.p j l d h M I (λo i=>congrFun (congrFun H o) i) z]
end
end L4
namespace L4
open PySem PySem.Spec PySem.Calls PyProof.Rows PySem.W L2 L3
noncomputable abbrev cS(s:Str):FE:=cC (.str s)
noncomputable abbrev a1(e:FE):FA:=ab e vH
end L4
namespace L4
open PySem PySem.Spec PyProof.Rows L2 L3
section
def aen:ZB X B l sBad:=#v[λa s d H D I h=>by
 let#v[F,c,b,o,R,e,_]:=h;ext e]
end
end L4
namespace L2
open PySem PySem.Spec PyProof.Rows
section
inductive TC(K:ay) (x:V) (y:V) (H:Hp) (Q:VK):Prop
 |i (a b xs ys) (h0:x=.ref a) (h1:y=.ref b) (h2:fl K H a xs) (h3:fl K H b ys) (h4:xs.length+ys.length<=aS) (h5:(xs=[]->Q (.ref b) H)) (h6:(ys=[]->Q (.ref a) H)) (h7:∀p,H p=Z->Q (.ref p) (el H p (.bx (xs++ys)))):TC K x y H Q
def aeo(K:ay):R2:=λx y H Q=>TC K x y H Q
def W2:js X (c5 .Add) (aeo X.K):=by
 intro i s T H x y v u Q I w z h;let#v[a,b,A,S,rfl,rfl,p,q,C,M,N,O]:=h;by_cases l:A=[]
 .ext w;ext z;let#v[m,P,F,_]:=I.tuple p;let#v[f,W,G,_]:=I.tuple q;have B:=P.y0.2 l;let#v[#v[cls,dd,data,R],t,r,n,hd]:=id F;let#v[#v[cls2,j,data2,o],e,c,E,d]:=id G;simp only at r hd c d;subst r hd c d;show nL #v[_,t,J] #v[_,e,J] mM nu mN mD (mh _ _)
   (tuple_addW0 _ _ m.toArray f.toArray n E dd j R o (by simp[B])) #v[t,e,#v[.ref b,H,I,J,M l]]
 .show On i s T H _ _ v u Q I w z #v[a,b,A,S,J,J,p,q,l,C,N,λk=>O]
end
end L2
namespace L4
open PySem PySem.Spec PyProof.Rows L2 L3
section
variable{G:Bg}
def cSlU(f:FE)(lo e:FO):FE:=λi=>match f i with
 |some (.bx d,a)=>match lo a with
  |some (l,b)=>match e b with
   |some (h,c)=>U (.bx (ij d l h),c)
   |none=>Z
  |none=>Z
 |_=>Z
def FR(f g:FE):FE:=λe=>match f e with
 |some (.bx c,a)=>match g a with
  |some (.bx d,b)=>if c.length+d.length<=900 then U (.bx (c++d),b)else Z
  |_=>Z
 |_=>Z
#print h
def W3(W:PE X a (tF G f))(Y:PE X b (tF G g))(hK:X.K=G.K:=by rfl):PE X (.BinOp a .Add b pos) (tF G (FR f g)):=PE.c3 (Oh W2 W Y) λσ H Q hh=>by
 rw[hK];let#v[F,ρ,y,d,ρ',R,e,k]:=hh;delta FR at e;split at e
 .rename_i xs c M;split at e
  .rename_i ys ρ2 N;split at e
   .rename_i hl;ext e;calc#v[F,ρ,y,_,c,R,M,λv A B s E r=>#v[F,c,A,_,_,E,N,λu H2 C h R2 o=>?_]];have m:=df.mono h _ _ r;have r0:=m;have r3:=o;delta df at m o;let#v[a1,q,rfl,S,w]:=m;let#v[I,t,rfl,T,x]:=o;have j:=vE w;have l:=vE x;refine#v[a1,I,q,t,J,J,fl.mono R2.sub S,fl.mono R2.sub T,by rw[<-j,<- l];show zi (),λz=>?_,λz=>?_,λp i=>?_]
    .have O:xs=[]:=by rw[z]at j;show hX.1 j
     subst O;show k _ _ _ (s.t h) R2 r3
    .have P:ys=[]:=by rw[z]at l;show hX.1 l
     subst P;rw[bD]at k;show k _ _ _ (s.t h) R2 r0
    .show k _ _ _ ((s.t h).t (vK (R2.e? i) _)) (R2.GX i _) (zT (fl.of vB) (bc.mono (vK (R2.e? i) _) _ _ (xn w x)))
   .ext e
  .ext e
 .ext e
end
#print f
section
def ace [C:Cz X B k](c:ZE X B e f)(d:ZE X B a b):ZE X B (.BinOp e .Add a pos) (FR f b):=#v[W3 c.p d.p C.K]
end
mutual
def aep:D->Bool
 |.cx=>γ
 |.bl _=>γ
 |.int _=>γ
 |.str _=>γ
 |.bx a=>NM a
 |.ax a=>NM a
 |_=>δ
def NM:aZ->Bool
 |[]=>γ
 |d::a=>aep d&&NM a
end
abbrev Upw(a:Array Nat):Prop:=a.toList.Pairwise (· < ·)
def NN{c:Array Nat}(h:Upw c){i k a b:Nat}(hik:i<k)(d:c[i]?=U a)(e:c[k]?=U b):a<b:=by rw[<-cp]at d e;let#v[f,rfl]:=bT.1 d;let#v[j,rfl]:=bT.1 e;show hU.1 h i k f j hik
theorem HH(h:Upw c)(j:Nat):∀(f lo b:Nat),b<=c.size->lo<=b->b - lo<=f->(∀i a,i<lo->c[i]?=U a->a<j)->(∀i a,b<=i->c[i]?=U a->j<=a)->
  dN c j f lo b<=c.size/\(∀i a,i<dN c j f lo b->c[i]?=U a->a<j)/\∀i a,dN c j f lo b<=i->c[i]?=U a->j<=a
 |0,lo,b,q,r,u,m,o=>#v[cg r q,m,λi a d=>o i a (cg () (show lo<=i from d))]
 |f+1,lo,b,q,r,u,m,o=>by
  delta dN;by_cases t:lo<b
  .rw[af t];have w:(lo+b) / 2<c.size:=by omega
   have e:c[(lo+b) / 2]?=U c[(lo+b) / 2]:=c8 w;have g:c.getD ((lo+b) / 2) j=c[(lo+b) / 2]:=by rw[fN,e];rfl
   dsimp only;rw[g];by_cases p:c[(lo+b) / 2]<j
   .rw[af p];calc HH h j f _ b q () () (λi a d l=>?_) o;rcases sk i ((lo+b) / 2)with z|z
    .show kX (NN h z l e) p
    .have:i=(lo+b) / 2:=by omega
     rw[this,e]at l;ext l;show p
   .rw[ah p];calc HH h j f lo _ () () () m λi a d l=>?_;rcases sk ((lo+b) / 2) i with z|z
    .have:=NN h z e l;omega
    .have:i=(lo+b) / 2:=by omega
     rw[this,e]at l;ext l;omega
  .rw[ah t];show#v[by omega,m,λi a d=>o i a ()]
def HI(h:Upw b)(j:Nat):bE b j<=b.size/\(∀i a,i<bE b j->b[i]?=U a->a<j)/\∀i a,bE b j<=i->b[i]?=U a->j<=a:=
 HH h j b.size 0 b.size (aF _) (bM _) () (λi a z=>au z ()) λi a z e=>by have:=(j5.1 e).1;omega
def below_at(h:Upw a)(e:a[i]?=U j):bE a j=i:=by
 let#v[l,c,d]:=HI h j;rcases jr (bE a j) i with z|z|z
 .have f:bE a j<a.size:=kX z (j5.1 e).1;have b:a[bE a j]?=U a[bE a j]:=c8 f;have:=d _ _ (aF _) b;have:=NN h z b e;omega
 .show z
 .have:=c i j z e;omega
def Ma{b:Type}(a:Array b)(p:Nat)(x:b):(cj a p x).toList=a.toList.take p++x::a.toList.drop p:=by delta cj;simp;rw[ka];rw[dg,bK];show aF _
def BD{c:Type}(a:Array c){p:Nat}(d:p<=a.size)(x:c)(i:Nat):(cj a p x)[i]?=if i<p then a[i]? else if i=p then U x else a[i - 1]?:=by
 have len:(a.toList.take p).length=p:=by rw[cf,bK];omega
 rw[<-cp,Ma,List.getElem?_append,len];by_cases h:i<p
 .rw[af h,af h,List.getElem?_take,af h,cp]
 .rw[ah h,ah h];by_cases b:i=p
  .subst b;rw[af J,jE];rfl
  .rw[ah b];let#v[k,rfl]:∃k,i=p+(k+1):=#v[i - p - 1,by omega];rw[show p+(k+1) - p=k+1 by omega,lY,fj,cp];congr 1
def acf(h:Upw c)(r:j∉c.toList):Upw (cj c (bE c j) j):=by
 let#v[u,p,q]:=HI h j;have f:=h;delta Upw at f ⊢;rw[Ma,pZ];rw[<-ib (bE c j) c.toList,pZ]at f;have lo:∀a∈c.toList.take (bE c j),a<j:=λa d=>by let#v[i,m,rfl]:=eC.1 d;have e:=m;rw[cf]at e;calc p i _ () ?_;rw[<-cp,List.getElem_take,aH]
 have o:∀a∈c.toList.drop (bE c j),j<a:=λa d=>by
  have t:a∈c.toList:=l7 d;let#v[i,m,rfl]:=eC.1 d;have e:=m;rw[dg]at e;have:=q (bE c j+i) (c.toList.drop (bE c j))[i] () (by rw[<-cp,List.getElem_drop,aH]);rcases Nat.lt_or_eq_of_le this with z|z
  .show z
  .show au (z▸t) r
 calc#v[f.1,List.pairwise_cons.2 #v[o,f.2.1],λa d b l=>?_];rcases aD.1 l with rfl|l
 .show lo a d
 .show kX (lo a d) (o b l)
structure Tu(t:cE)(m n:Nat):Prop extends Tb t m n where
 up:Upw t.place
section
theorem Tu.live(T:Tu t m n)(e:t.place[i]?=U j):t.slot j=.live i:=by delta kR;rw[below_at T.up e];dsimp only;rw[e];simp
def Tu.emp(T:Tu t m n)(e:t.slot j=.empty):j∉t.place.toList:=λh=>by let#v[i,a,rfl]:=eC.1 h;rw[T.live (i:=i) (by rw[<-cp,aH a])]at e;ext e
def tM(m:Nat):cE:=#v[m,[].toArray,[].toArray,0,δ,0,δ]
def Wy(m:Nat)(O:Nat->Prop)(j:Nat):Nat->cR->Prop
 |0,_=>False
 |f+1,p=>p.j=j\/(O p.j/\Wy m O j f ((tM m).advance p))
theorem Wy.mono(h:∀x,O x->b x):∀{f a:Nat} {p:cR},Wy m O j f p->f<=a->Wy m b j a p
 |0,_,_,w,_=>w.elim
 |f+1,0,_,_,l=>au l ()
 |f+1,a+1,p,w,l=>w.imp id λw=>#v[h _ w.1,w.2.mono h ()]
#print "Kt p cR advance;Yt h Int probeStart" in def ϑ0(T:Tb t m n)(ϑ1:ϑ2):t.ϑ3 ϑ1=(tM m).ϑ3 ϑ1:=by let#v[rfl,_,_]:=T;rfl
abbrev Oc(t:cE)(x:Nat):Prop:=x∈t.place.toList
def acg(h:Oc t x):∃i:Nat,t.place[i]?=U x:=by let#v[i,a,rfl]:=eC.1 h;show#v[i,by rw[<-cp,aH a]]
theorem Yu(T:Tu t m n)(F:Nat->Int)(h:Int)(q:t.place[l]?=U o)(r:F l=h):∀(f:Nat) (p:cR),p.dummy=Z->Wy m (Oc t) o f p->∀g,f<=g->
  ∃j i next b,b<f/\t.slot j=.live i/\t.place[i]?=U j/\F i=h/\cz t F h g p=U (.candidate j i next)/\next.dummy=Z/\(i=l\/Wy m (Oc t) o b next)
 |0,p,_,c,g,_=>c.elim
 |f+1,p,hd,c,0,u=>au u ()
 |f+1,p,hd,c,g+1,u=>by
  delta cz;let#v[i,a,x]:∃i:Nat,t.place[i]?=U p.j/\(i=l\/Wy m (Oc t) o f ((tM m).advance p)):=by
   rcases c with e|⟨e,w⟩
   .show#v[l,by rw[e];show q,.inl J]
   .let#v[i,a]:=acg e;show#v[i,a,.inr w]
  rw[T.live a];dsimp only;rw[Kt T.toTb];by_cases d:F i=h
  .show#v[p.j,i,(tM m).advance p,f,cQ f,T.live a,a,d,by rw[af (by rw[d];simp)],Ko hd,x]
  .rw[ah (by exists d)];have w:=x.resolve_left λe=>d (by rw[e];show r);let#v[j,z,A,b,B,y]:=Yu T F h q r f _ (Ko hd) w g ();show#v[j,z,A,b,by omega,y]
theorem Yv(T:Tu t m n)(F:Nat->Int)(h:Int):∀(f:Nat) (p:cR),p.dummy=Z->ts t f p->∀g,f<=g->(∃j,t.slot j=.empty/\cz t F h g p=U (.empty j Z)/\Wy m (Oc t) j f p)\/
  ∃j i next c,c<f/\t.slot j=.live i/\t.place[i]?=U j/\F i=h/\cz t F h g p=U (.candidate j i next)/\next.dummy=Z/\ts t c next/\∀x,Wy m (Oc t) x c next->Wy m (Oc t) x f p
 |0,p,_,a,g,_=>a.elim
 |f+1,p,hd,a,0,y=>au y ()
 |f+1,p,hd,a,g+1,y=>by
  delta cz;rcases T.slot p.j with ⟨i,b,d⟩|b
  .have a:ts t f (t.advance p):=a.resolve_left λe=>by rw[b]at e;ext e
   have r:Oc t p.j:=by rw[<-cp]at d;show cb d
   rw[b];dsimp only;by_cases q:F i=h
   .right;show#v[p.j,i,t.advance p,f,cQ f,b,d,q,by rw[af (by rw[q];simp)],Ko hd,a,λx w=>.inr #v[r,by rw[<-Kt T.toTb];show w]]
   .rw[ah (by exists q)];rcases Yv T F h f (t.advance p) (Ko hd) a g ()with ⟨j,u,l,o⟩|⟨j,G,H,c,u,l,o,z,A,B,C,E⟩
    .show .inl #v[j,u,l,.inr #v[r,by rw[<-Kt T.toTb];show o]]
    .show .inr #v[j,G,H,c,by omega,l,o,z,A,B,C,λx w=>.inr #v[r,by rw[<-Kt T.toTb];show E x w]]
  .left;rw[b];show#v[p.j,b,by rw[hd],.inl J]
end
noncomputable abbrev hkE(prog:bb) (w:aQ) (q:List ee×Addr):Int×aa:=(tupleKeyHash (vG prog w) q.1,.ref q.2)
structure Eh(prog:bb)(w:aQ)(h:Heap)(L:List (List ee×Addr))(es:Array (Int×aa)):Prop where
 tk:∀q∈L,TK prog w h q.1 q.2
 p:es.toList.Perm (L.map (hkE prog w))
section
variable{s:aq}
theorem Eh.at(l:Eh prog w s.heap L es){i:Nat}{e:Int×aa}(a:es[i]?=U e):∃q∈L,e=hkE prog w q:=by rw[<-cp]at a;let#v[q,b,rfl]:=av.1 (l.p.mem_iff.1 (cb a));show#v[q,b,J]
theorem HJ{Q:oB->aq->Prop}{R:Nat->cR->Prop}{At:Nat->Prop}(O:A.units<cLine)(T:Tb t m n)(N:m % 2=1)(u:t.fits b.size=γ)(l:Eh prog w s.heap L b)(G:TK prog w s.heap C W)
  (F:s.heap.get? S=U o) (hd:o.data=.set b ep t) (hZ:∀j,At j->Q (.free j δ) s) (hT:C∈L.map ai->Q (.there Z) s)
  (step:∀f p,p.dummy=Z->R f p->f<=10 * cv m->(∃j,cz t (λi=>(b[i]?.map (·.1)).getD 0) h (10 * cv m) p=U (.empty j Z)/\At j)\/∃j i next y,y<f/\t.slot j=.live i/\t.place[i]?=U j/\
   cz t (λi=>(b[i]?.map (·.1)).getD 0) h (10 * cv m) p=U (.candidate j i next)/\next.dummy=Z/\((∃q∈L,b[i]?=U (hkE prog w q)/\q.1=C)\/R y next)):∀(fuel f:Nat) (st:Option cR),f<fuel->f<=10 * cv m->(st.getD (t.probeStart h)).dummy=Z->R f (st.getD (t.probeStart h))->
   ar (model prog w) A (setSearchFrom S (.ref W) h γ fuel st) Q E s
 |0,f,st,M,_,_,_=>au M ()
 |fuel+1,f,st,M,hg,hdm,r=>by
  have sz:b.size=n:=by delta gR at u;rw[bt,beq_iff_eq,T.pl]at u;show u.1.symm
  delta setSearchFrom;calc aj (cK F hd u ?_);dsimp only;rw[ah (by delta mQ;rw[T.mask,N];decide)];delta rq;rw[ab7 (F':=λi=>(b[i]?.map (·.1)).getD 0),T.mask]
  rotate_left
  .intro i;rfl
  rcases step f _ hdm r hg with ⟨j,X,z⟩|⟨j,i,P,y,h1,Y,h3,h5,h6,h7⟩
  .rw[X];show aw (hZ j z)
  .rw[h5];dsimp only;have I:i<b.size:=by rw[sz,<- T.pl];show(j5.1 h3).1
   let#v[q,d,H,c]:∃q∈L,b[i]?=U (hkE prog w q)/\(q.1=C\/R y P):=by
    rcases h7 with ⟨q,d,e,k⟩|h7
    .show#v[q,d,e,.inl k]
    .let#v[q,d,e]:=l.at (c8 I);show#v[q,d,by rw[<-e,c8 I],.inr h7]
   have t1:=l.tk q d;have si:t.sameMemory t.moves m=U γ:=by delta SetTable.sameMemory;simp
   have sb:∀v∈oA (λx:Int×aa=>x.snd) (sd (λx=>x.fst==h) b).toList,∃k a,v=Value.ref a/\TK prog w s.heap k a:=λv hv=>by
    let#v[e,r,rfl]:=av.1 hv;have r:e∈b.toList:=by rw[Array.toList_filter]at r;show(bw.1 r).1
    let#v[q,d,rfl]:=av.1 (l.p.mem_iff.1 r);show#v[q.1,q.2,J,l.tk q d]
   cases hb:t.led;refine aj (To sb G ?_)
   all_goals
    rw[H];calc aj (cA (qk O t1 G ?_));calc aj (cK F hd u ?_);by_cases B:q.1=C
    .rw[aI B];show aw (hT (av.2 #v[q,d,B]))
    rw[aL B];dsimp only;rw[ah #[],si];dsimp only;rw[af J,Y];dsimp only;rw[H];calc aj (pO ?_);calc aj (aw ?_);show HJ O T N u l G F hd hZ hT step fuel y (U P) () () h6 (c.resolve_left B)
def W4(m:Nat)(t:cE)(a:Array (Int×aa)):Prop:=∀(i:Nat) (e:Int×aa) (j:Nat),a[i]?=U e->t.place[i]?=U j->Wy m (Oc t) j (10 * cv m) ((tM m).probeStart e.1)
def TF{Q:oB->aq->Prop}(P:A.units<cLine)(T:Tu t m n)(h:m % 2=1/\10 * cv m<100000)(d:t.fits a.size=γ)(l:Eh prog w s.heap L a)(W:W4 m t a)(Y:TK prog w s.heap u y)(O:s.heap.get? S=U o)(hd:o.data=.set a ep t)
  (M:u∈L.map ai) (hT:Q (.there Z) s):ar (model prog w) A (setSearchFrom S (.ref y) (tupleKeyHash (vG prog w) u) γ 100000 Z) Q E s:=by
 let#v[q,r,rfl]:=av.1 M;let#v[b,e,c]:=eC.1 (l.p.mem_iff.2 (cc (f:=hkE prog w) r));have c:a[b]?=U (hkE prog w q):=by rw[<-cp,aH e,c]
 have sz:a.size=t.place.size:=by delta gR at d;rw[bt,beq_iff_eq]at d;show d.1.symm
 rw[bK]at e;have x:t.place[b]?=U t.place[b]:=c8 ();refine HJ (At:=λk=>False) (R:=λf p=>Wy m (Oc t) t.place[b] f p) P T.toTb h.1 d l Y O hd (λj z=>z.elim) (λk=>hT) (λf p hdm wy N=>.inr ?_) 100000 _ Z h.2 (aF _) J (by
  rw[qN,Yt T.toTb];show W b _ _ c x)
 let#v[j,i,X,B,C,F,G,h4,H,I,h7]:=Yu T (λi=>(a[i]?.map (·.1)).getD 0) (tupleKeyHash (vG prog w) q.1) x (by change (a[b]?.map (·.1)).getD 0=_;rw[c];rfl) f p hdm wy _ N
 calc#v[j,i,X,B,C,F,G,H,I,?_];rcases h7 with rfl|h7
 .show .inl #v[q,r,c,J]
 .show .inr h7
def TH(O:A.units<cLine)(T:Tu t m n)(q:m % 2=1/\10 * cv m<100000)(I:t.fits a.size=γ)(l:Eh prog w s.heap L a)(Y:TK prog w s.heap W r)(N:s.heap.get? S=U o)(hd:o.data=.set a ep t)
  (H:W∉L.map ai) (u:ts t (10 * cv m) (t.probeStart h)) (hZ:∀j,t.slot j=.empty->Wy m (Oc t) j (10 * cv m) ((tM m).probeStart h)->Q (.free j δ) s):ar (model prog w) A (setSearchFrom S (.ref r) h γ 100000 Z) Q E s:=by
 refine HJ (At:=λj=>t.slot j=.empty/\Wy m (Oc t) j (10 * cv m) ((tM m).probeStart h)) (R:=λf p=>ts t f p/\∀x,Wy m (Oc t) x f p->Wy m (Oc t) x (10 * cv m) ((tM m).probeStart h)) O T.toTb q.1 I l Y N hd (λj z=>hZ j z.1 z.2) (λz=>au z H) (λf p hdm e M=>?_) 100000 _ Z q.2 (aF _) J #v[u,λx w=>by
  rw[qN,Yt T.toTb]at w;show w]
 rcases Yv T (λi=>(a[i]?.map (·.1)).getD 0) h f p hdm e.1 _ M with ⟨j,b,c,d⟩|⟨j,P,X,y,b,c,d,h4,B,C,F,G⟩
 .show .inl #v[j,c,b,e.2 j d]
 .show .inr #v[j,P,X,y,b,c,d,B,C,.inr #v[F,λx z=>e.2 x (G x z)]]
end
def Mm(m:Nat):Prop:=m=7\/m=31\/m=127
def orbM(m:Nat):Nat->Nat->Nat->Nat
 |0,_,z=>z
 |k+1,i,z=>orbM m k ((i * 5+1) % (m+1)) (z|||2 ^ i)
theorem O3:∀(k i z:Nat),(orbM m k i z).testBit r=γ->r∈orb m k i\/z.testBit r=γ
 |0,i,z,h=>.inr h
 |k+1,i,z,h=>by
  rcases O3 k _ _ h with h|h
  .show .inl (ba _ h)
  .rw[Nat.testBit_or,Nat.testBit_two_pow,kM,bV]at h;rcases h with h|rfl
   .show .inr h
   .show .inl aP
def TJ(a:Mm m)(b:i<=m)(c:r<=m):r∈orb m (m+1) i:=by
 have h:∀m∈[7,31,127],((bh (m+1)).all λi=>orbM m (m+1) i 0==2 ^ (m+1) - 1)=γ:=by decide +kernel
 have:=bF.1 (h m (by rcases a with rfl|rfl|rfl<;>simp)) i (bR.2 ());calc(O3 (m+1) i 0 ?_).resolve_right (by simp);rw[gV this,Nat.testBit_two_pow_sub_one,bV];omega
def Mm.odd(h:Mm m):m % 2=1/\10 * cv m<100000:=by rcases h with rfl|rfl|rfl<;>decide
section
theorem ts.al(T:Tb t m n)(c:Mm m)(d:n<=m):∀(k i q:Nat),i<=m->q<32 ^ k->ts t (10 * (k+(m+1))) (rs m i q)
 |0,i,q,b,a=>by
  let#v[r,f,e]:=T.free d;have h:q=0:=by exists a
  rw[h,kW];show ts.orb T e _ _ (TJ c b f)
 |k+1,i,q,b,a=>by have:=ts.leap T (ts.al T c d k ((i * 5+1+q / 32) % (m+1)) (q / 32) (gz (eL _ (fF m))) (by rw[kY]at a;omega));show this.mono ()
def O4(h:Int):cJ h<32 ^ 13:=by delta cJ;omega
def ts.st(T:Tb t m n)(a:Mm m)(b:n<=m)(h:Int):ts t (10 * cv m) (t.probeStart h):=by
 have:=ts.al T a b 13 (cJ h % (m+1)) (cJ h) (gz (eL _ (fF m))) (O4 h);have e:t.probeStart h=rs m (cJ h % (m+1)) (cJ h):=by delta SetTable.probeStart;rw[T.mask];rfl
 rw[e];show this.mono (by delta cv;omega)
variable{ow:Array (Option Nat)}
theorem TL:∀(k a x:Nat),k<=a->(∀b,b<k->O (x+b))->x+k=j->Wy m O j (k+1) #v[x,a,i,q,Z]
 |0,a,x,_,_,e=>.inl e
 |k+1,0,x,h,_,_=>au h ()
 |k+1,a+1,x,h,c,e=>.inr #v[c 0 (),by
   have d:(tM m).advance #v[x,a+1,i,q,Z]=#v[x+1,a,i,q,Z]:=by delta gA;rw[af (fF a)];rfl
   rw[d];show TL k a (x+1) () (λb f=>by rw[show x+1+b=x+(b+1) by omega];show c _ ()) ()]
theorem O5(h:Wy m O j f (rs m ((i * 5+1+q / 32) % (m+1)) (q / 32))):∀(mo x:Nat),(∀k,k<=mo->O (x+k))->Wy m O j (f+mo+1) #v[x,mo,i,q,Z]
 |0,x,a=>.inr #v[a 0 (aF _),by
   have e:(tM m).advance #v[x,0,i,q,Z]=rs m ((i * 5+1+q / 32) % (m+1)) (q / 32):=by delta gA nz;rfl
   rw[e];show h]
 |mo+1,x,a=>.inr #v[a 0 (),by
   have b:(tM m).advance #v[x,mo+1,i,q,Z]=#v[x+1,mo,i,q,Z]:=by delta gA;rw[af (fF mo)];rfl
   rw[b];show O5 h mo (x+1) λk c=>by rw[show x+1+k=x+(k+1) by omega];show a _ ()]
abbrev Oo(m:Nat)(ow:Array (Option Nat))(x:Nat):Prop:=x<=m/\¬Nn ow x
def Yy(a:i<=m):i<=cH m i/\cH m i<=m/\cH m i<=i+9:=by delta cH;split<;>omega
def Ku(A:i<=m):(∃k,k<=cH m i - i/\Nn ow (i+k)/\(∀c,c<k->¬Nn ow (i+c))/\eB m ow (f+1) i q=U (i+k))\/
  ((∀k,k<=cH m i - i->¬Nn ow (i+k))/\eB m ow (f+1) i q=eB m ow f ((i * 5+1+q / 32) % (m+1)) (q / 32)):=by
 have r:eB m ow (f+1) i q=match (bh (cH m i+1 - i)).find? λk=>(ow.getD (i+k) (U 0)).isNone with
  |some k=>U (i+k)
  |none=>eB m ow f ((i * 5+1+q / 32) % (m+1)) (q / 32):=rfl
 have F:=Yy A;rw[r];cases e:(bh (cH m i+1 - i)).find? λk=>(ow.getD (i+k) (U 0)).isNone with
 |some k=>
  let#v[u,a,b,l,w]:=List.find?_eq_some_iff_append.1 e;have B:a.length=k/\∀x,x<k->x∈a:=by
   have t:(bh (cH m i+1 - i))[a.length]?=U k:=by rw[l];simp
   let#v[C,p]:=bT.1 t;rw[my]at p;calc#v[p,λx E=>?_];have j:(bh (cH m i+1 - i))[x]?=U x:=by rw[l9];rw[cG]at C;omega
   rw[l,dG ()]at j;show cb j
  have o:k∈bh (cH m i+1 - i):=lW e;rw[bR]at o;have y:∀c,c<k->¬Nn ow (i+c):=λc d z=>by have:=w c (B.2 c d);delta Nn at z;rw[z]at this;ext this
  show .inl #v[k,by omega,u,y,J]
 |none=>calc .inr #v[λk o h=>?_,J];have:=kC.1 e k (bR.2 ());show this h
theorem JA(b:Nn ow r):∀(k f i:Nat),k<=f->i<=m->r∈orb m k i->∃j,eB m ow f i 0=U j
 |0,f,i,_,_,h=>by cases h
 |k+1,0,i,a,_,_=>au a ()
 |k+1,f+1,i,a,l,h=>by
  rcases Ku (ow:=ow) (f:=f) (q:=0) l with ⟨o,_,_,_,e⟩|⟨c,d⟩
  .show#v[_,e]
  .rcases aD.1 h with e|h
   .show au (e▸b) (c 0 (bM _))
   .rw[d];show JA b k f _ () (gz (eL _ (fF m))) h
theorem O6(h:Mm m)(l:Nn ow r)(a:r<=m):∀(k f i q:Nat),k+(m+1)<=f->i<=m->q<32 ^ k->∃j,eB m ow f i q=U j
 |0,f,i,q,c,b,d=>by
  have p:q=0:=by exists d
  rw[p];show JA l (m+1) f i () b (TJ h b a)
 |k+1,0,i,q,c,_,_=>au c ()
 |k+1,f+1,i,q,c,b,d=>by
  rcases Ku (ow:=ow) (f:=f) (q:=q) b with ⟨t,_,_,_,e⟩|⟨_,o⟩
  .show#v[_,e]
  .rw[o];show O6 h l a k f _ _ () (gz (eL _ (fF m))) (by rw[kY]at d;omega)
theorem O7:∀(f i q:Nat),i<=m->eB m ow f i q=U j->Nn ow j/\Wy m (Oo m ow) j (10 * f) (rs m i q)
 |0,i,q,_,e=>by cases e
 |f+1,i,q,o,e=>by
  have r:=Yy o;rcases Ku (ow:=ow) (f:=f) (q:=q) o with ⟨k,a,b,c,d⟩|⟨a,b⟩
  .rw[d]at e;ext e;show#v[b,(TL k _ i a (λp l=>#v[by omega,c p l]) J).mono (λz h=>h) ()]
  .rw[b]at e;let#v[c,d]:=O7 f _ _ (gz (eL _ (fF m))) e;show#v[c,(O5 d (cH m i - i) i λk l=>#v[by omega,a k l]).mono (λz h=>h) ()]
def S?(m:Nat)(ow:Array (Option Nat)):List (Nat×Nat):=(bh (m+1)).filterMap λj=>(ow.getD j Z).map (j,·)
def nn_m(b:ow.size=m+1)(h:Nn ow j):j<m+1/\ow.getD j Z=Z:=by
 delta Nn at h;by_cases a:j<ow.size
 .calc#v[by omega,?_];rw[fN,c8 a]at h ⊢;exists h
 .rw[fN,Array.getElem?_eq_none ()]at h;ext h
def TM(b:ow.size=m+1)(a:j<=m)(e:ow.getD j Z=Z):Nn ow j:=by delta Nn;rw[fN,c8 ()]at e ⊢;exists e
def O8(b:j<ow.size)(i:Nat):(ow.setIfInBounds j (U k)).getD i Z=if i=j then U k else ow.getD i Z:=by
 rw[fN,fN,Array.getElem?_setIfInBounds];by_cases a:j=i
 .subst a;rw[af J,af (),af J];rfl
 .rw[ah a,ah (λe=>a e.symm)]
def W5(q:ow.size=m+1)(h:Nn ow j):(S? m (ow.setIfInBounds j (U k))).Perm ((j,k)::S? m ow):=by
 let#v[p,e]:=nn_m q h;have get:=O8 (ow:=ow) (k:=k) (j:=j) ();let#v[a,b,o]:=qo (bR.2 p);have c:(bh (m+1)).Nodup:=mT;rw[o,cq,cu]at c;delta S?;rw[o,pV,pV,dH,dH,get j,af J,e];have d:∀l:List Nat,j∉l->l.filterMap (λi=>((ow.setIfInBounds j (U k)).getD i Z).map (i,·))=l.filterMap λi=>(ow.getD i Z).map (i,·):=λl f=>by
  induction l with
  |nil=>rfl
  |cons i l r=>rw[dH,dH,r λz=>f (ba _ z),get i,ah λe=>f (by rw[<-e];show aP)]
 rw[d a λz=>c.2.2 j z j aP J,d b c.2.1.1];show kJ
def TN(c:ow.size=m+1)(a:(S? m ow).length<=m):∃r,r<=m/\Nn ow r:=by
 apply ph;intro no;have:∀l:List Nat,(∀j∈l,j<=m)->(l.filterMap λj=>(ow.getD j Z).map (j,·)).length=l.length:=λl a=>by
  induction l with
  |nil=>rfl
  |cons j l f=>
   have b:=a j aP;cases e:ow.getD j Z with
   |none=>show au #v[j,b,TM c b e] no
   |some x=>rw[dH,e];change (List.filterMap _ l).length+1=l.length+1;rw[f λz d=>a z (ba _ d)]
 have:=this (bh (m+1)) λj b=>by have:=bR.1 b;omega
 delta S? at a;rw[this,cG]at a;omega
def Lw(m:Nat)(ow:Array (Option Nat))(a:List Int):Prop:=∀j k,j<=m->ow.getD j Z=U k->∃h,a[k]?=U h/\Wy m (Oo m ow) j (10 * cv m) ((tM m).probeStart h)
#print h
theorem Yz(p:Mm m):∀(b pre:List Int) (ow:Array (Option Nat)),ow.size=m+1->((S? m ow).map bI).Perm (bh pre.length)->Lw m ow pre->pre.length+b.length<=m->∃a,a.size=m+1/\((S? m a).map bI).Perm (bh (pre.length+b.length))/\Lw m a (pre++b)/\
  (b.foldl (λacc h=>do
   let (owner,k)<-acc;let j<-eB m owner (cv m) (cJ h % (m+1)) (cJ h)
   pure (owner.setIfInBounds j (U k),k+1)) (U (ow,pre.length)))=U (a,pre.length+b.length)
 |[],pre,ow,c,f,i,_=>#v[ow,c,f,by rw[bD];show i,J]
 |h::b,pre,ow,c,f,i,F=>by
  rw[aK]at F;have H:=f.length_eq;rw[ak,cG]at H;let#v[r,G,I]:=TN c ();have q:cJ h % (m+1)<=m:=gz (eL _ (fF m));let#v[j,o]:=O6 p I G 13 (cv m) (cJ h % (m+1)) (cJ h) (by delta cv;omega) q (O4 h);let#v[t,N]:=O7 _ _ _ q o;have O:=(nn_m c t).1;have get:=O8 (ow:=ow) (k:=pre.length) (j:=j) ();have B:∀x,Oo m ow x->Oo m (ow.setIfInBounds j (U pre.length)) x:=λx d=>#v[d.1,λz=>by
   have:=(nn_m (m:=m) (by rw[pD];show c) z).2;rw[get x]at this;split at this
   .ext this
   .show d.2 (TM c d.1 this)]
  let#v[a,M,u,A,y]:=Yz p b (pre++[h]) (ow.setIfInBounds j (U pre.length)) (by rw[pD];show c) (by
   calc((W5 c t).map bI).t ?_;rw[aA,aG,bu,List.range_succ];show((List.Perm.cons _ f).t (j6 _ _).symm)) (λx k d e=>by
    rw[get x]at e;split at e
    .rename_i C;ext e;subst C;show#v[h,by rw[eA (aF _),jE];rfl,N.mono B (aF _)]
    .let#v[E,l,w]:=i x k d e;show#v[E,by rw[dG (bT.1 l).1];show l,w.mono B (aF _)]) (by rw[aG,bu];omega)
  rw[aG,bu]at u y;calc#v[a,M,by rw[aK,show pre.length+(b.length+1)=pre.length+1+b.length by omega];show u,by rw[bL]at A;show A,?_];rw[fz,aK,show pre.length+(b.length+1)=pre.length+1+b.length by omega,<- y];congr 1;change (eB m ow (cv m) (cJ h % (m+1)) (cJ h)).bind _=_;rw[o];rfl
#print f
def acj(F:Mm m)(a:Array Int)(G:a.size<=m):∃t order,rV m fg mv led pl a=U (t,order)/\Tu t m a.size/\t.led=led/\t.plain=pl/\order.toList.Perm (bh a.size)/\
  ∀(i j k:Nat),t.place[i]?=U j->order[i]?=U k->∃h,a[k]?=U h/\Wy m (Oc t) j (10 * cv m) ((tM m).probeStart h):=by
 have no:∀j,(mZ (m+1) (Z:Option Nat)).getD j Z=Z:=λj=>by rw[fN,Array.getElem?_replicate];split<;>rfl
 let#v[ow,C,d,E,u]:=Yz F a.toList [] (mZ (m+1) Z) (by simp) (by
  have:S? m (mZ (m+1) Z)=[]:=by delta S?;rw[List.filterMap_eq_nil_iff];intro j w;rw[no j];rfl
  rw[this];show .nil) (λj k s e=>by rw[no j]at e;ext e) (by rw[bK];exists G)
 rw[dA,kW,bK]at d u;have e:qC m a=U ow:=by delta qC;rw[<-Array.foldl_toList];show aX (la ai) u
 have mem:∀q∈S? m ow,q.1<=m/\ow.getD q.1 Z=U q.2:=λq z=>by
  delta S? at z;let#v[j,w,e]:=ji.1 z;cases b:ow.getD j Z with
  |none=>rw[b]at e;cases e
  |some x=>rw[b]at e;ext e;show#v[gz (bR.1 w),b]
 refine#v[#v[m,((S? m ow).map (·.1)).toArray,[].toArray,fg,led,mv,pl],((S? m ow).map (·.2)).toArray,by delta rV;rw[e];rfl,#v[#v[J,J,?_],?_],J,J,d,λi j k p c=>?_]
 .have:=d.length_eq;rw[ak,cG]at this;rw[bG,ak,this]
 .change List.Pairwise _ ((S? m ow).map (·.1))
  have sub:∀l:List Nat,((l.filterMap λj=>(ow.getD j Z).map (j,·)).map (·.1)).Sublist l:=λl=>by
   induction l with
   |nil=>show .slnil
   |cons x l A=>
    rw[dH];cases ow.getD x Z with
    |none=>show A.cons x
    |some y=>show A.cons_cons x
  show uG (sub _) List.pairwise_lt_range
 .rw[kg,br]at p c;let#v[q,o,rfl]:=pG.1 p;rw[o]at c;ext c;let#v[H,I]:=mem q (cb o);let#v[h,r,B]:=E q.1 q.2 H I;calc#v[h,by rw[bP,cp]at r;show r,B.mono (λx f=>?_) (aF _)];change x∈(S? m ow).map (·.1)
  cases b:ow.getD x Z with
  |none=>show au (TM C f.1 b) f.2
  |some y=>show av.2 #v[(x,y),ji.2 #v[x,bR.2 (by have:=f.1;omega),by rw[b];rfl],J]
end
theorem YA{c j:Type}(f:c->Option j):∀(l:List c),(∀k∈l,∃e,f k=U e)->∀i:Nat,(l.filterMap f)[i]?=l[i]?.bind f
 |[],_,i=>rfl
 |a::l,h,i=>by
  let#v[e,b]:=h a aP;rw[dH,b];cases i with
  |zero=>show b.symm
  |succ i=>show YA f l (λk d=>h k (ba _ d)) i
section
def W6(y:(t.mask=7/\es.size=5/\m=31)\/(t.mask=31/\es.size=19/\m=127))(c:s.heap.get? S=U o)(hd:o.data=.set es ep t)(z:t.fits es.size=γ)
  (hQ:∀h' es' t',fD S s.heap h'->h'.get? S=U { o with data:=.set es' (ep+1) t' }->Tu t' m es.size->W4 m t' es'->t'.led=t.led->t'.plain=t.plain->es'.toList.Perm es.toList->Q Unit.unit { s with heap:=h' }):ar (model prog w) A (setRelay S (ir es.size)) Q E s:=by
 have hm:Mm m:=by delta Mm;omega
 have B:qp (ir es.size) - 1=m/\¬qp (ir es.size) > 1000:=by rcases y with ⟨_,e,rfl⟩|⟨_,e,rfl⟩<;>rw[e]<;>decide
 delta setRelay;calc aj (cK c hd z ?_);dsimp only;rw[ah (by rw[bH];omega)];let#v[t',order,p,T,q,r,b,u]:=acj (fg:=t.finger) (mv:=t.movedTo m) (led:=t.led) (pl:=t.plain) hm (es.map (·.1)) (by rw[rG];omega)
 rw[rG]at T b;have all:∀k∈order.toList,∃e,es[k]?=U e:=λk F=>#v[es[k]'(bR.1 (b.mem_iff.1 F)),c8 _];have l:(order.filterMap (es[·]?)).toList.Perm es.toList:=by rw[pJ];show(b.filterMap _).t (by rw[lX])
 have x:t.relaid (es.map (·.1)) (ir es.size)=U (t',order):=by delta SetTable.relaid;rw[B.1];show p
 rw[x];have sz:(order.filterMap (es[·]?)).size=es.size:=by have:=l.length_eq;rw[bK,bK]at this;show this
 calc aj ?_;wp_delta;dsimp only;rw[ah (by rw[sz];simp)];calc aw ?_;refine mI c hd ?_ (by change (order.filterMap (es[·]?)).size<=aS;rw[sz,bH];omega)
 calc hQ _ _ _ (dJ ..) (J5 c hd) T (λi e j a C=>?_) q r l;rw[<-cp,pJ,YA _ _ all]at a;let#v[k,f,a]:=pE.1 a;rw[cp]at f;let#v[h,d,w]:=u i j k C f;rw[Array.getElem?_map,a]at d;ext d;show w
def Cw(m n:Nat)(t:cE)(a:Array (Int×aa)):Prop:=Tu t m n/\Y? m n/\W4 m t a
def cz_m(h:Y? m n):Mm m/\n<=m/\n+1<=m:=by delta Y? at h;delta Mm;omega
def cz_g(h:Y? m n)(b:n<63)(c:(n+1) * 5 >= m * 3):∃a,((m=7/\n+1=5/\a=31)\/(m=31/\n+1=19/\a=127))/\Y? a (n+1):=by
 delta Y? at h ⊢;by_cases z:m=7
 .show#v[31,by omega]
 .show#v[127,by omega]
def cz_n(h:Y? m n)(a:n<63)(b:¬(n+1) * 5 >= m * 3):Y? m (n+1):=by delta Y? at h ⊢;omega
#print h
def aeq(R:A.units<cLine)(C:Cw m n t es)(u:n<63)(f:t.fits es.size=γ)(l:Eh prog w s.heap L es)(N:TK prog w s.heap (Sum.inr x::q) a)
  (p:s.heap.get? S=U o) (hd:o.data=.set es ep t) (hT:(Sum.inr x::q)∈L.map ai->Q δ s)
  (hQ:(Sum.inr x::q)∉L.map ai->∀h' es' t' H B,fD S s.heap h'->h'.get? S=U { o with data:=.set es' H t' }->Cw B (n+1) t' es'->t'.led=t.led->t'.plain=δ->es'.toList.Perm ((tupleKeyHash (vG prog w) (Sum.inr x::q),.ref a)::es.toList)->Q γ { s with heap:=h' }):
  ar (model prog w) A (setAddHashed S (.ref a) (tupleKeyHash (vG prog w) (Sum.inr x::q))) Q E s:=by
 let#v[T,y,W]:=C;have hm:Mm m:=(cz_m y).1;have sz:es.size=n:=by delta gR at f;rw[bt,beq_iff_eq,T.pl]at f;show f.1.symm
 delta setAddHashed setAddHashedIn;calc cA (aj (cK p hd f ?_));dsimp only;rw[ah (by simp[byScan,qS])];have nm:n<=m:=(cz_m y).2.1;by_cases ne:(Sum.inr x::q)∈L.map ai
 .calc aj (TF R T hm.odd f l W N p hd ne ?_);show aw (hT ne)
 generalize hh:tupleKeyHash (vG prog w) (Sum.inr x::q)=h at hQ ⊢;calc aj (TH R T hm.odd f l N p hd ne (ts.st T.toTb hm nm h) λj hj wj=>?_);dsimp only;calc aj (cK p hd f ?_);dsimp only;have p1:(t.put j).1.mask=m:=T.mask;have p2:(t.put j).1.dummies=[].toArray:=by change (if gU t.dummies j then _ else t.dummies)=_;rw[T.dm];rfl
 have bl:=(HI T.up j).1;have p3:(t.put j).1.place.size=n+1:=by have:=(l3 t.place (bE t.place j) j).length_eq;rw[bK,bK,Array.size_push,T.pl]at this;show this
 have M:(cj es (t.put j).2 (h,Value.ref a)).toList.Perm ((h,.ref a)::es.toList):=by calc(l3 es _ _).t ?_;rw[mK];show j6 _ _
 have z:(cj es (t.put j).2 (h,Value.ref a)).size=n+1:=by have:=M.length_eq;rw[bK,aK,bK,sz]at this;show this
 let d:cE:={ (t.put j).1 with plain:=δ };have c:Tu d m (n+1):=#v[#v[p1,p2,p3],acf T.up (T.emp hj)];have up:∀x,Oc t x->Oc d x:=λx hx=>by change x∈(cj t.place (bE t.place j) j).toList;rw[(l3 _ _ _).mem_iff,mK];show bO _ hx
 have X:W4 m d (cj es (t.put j).2 (h,Value.ref a)):=λi e r b hr=>by
  have b:(cj es (bE t.place j) (h,Value.ref a))[i]?=U e:=b;have hr:(cj t.place (bE t.place j) j)[i]?=U r:=hr;rw[BD _ (by rw[sz,<- T.pl];show bl)]at b;rw[BD _ bl]at hr;by_cases c1:i<bE t.place j
  .rw[af c1]at b hr;show(W i e r b hr).mono up (aF _)
  .rw[ah c1]at b hr;by_cases c2:i=bE t.place j
   .rw[af c2]at b hr;ext b;ext hr;show wj.mono up (aF _)
   .rw[ah c2]at b hr;show(W (i - 1) e r b hr).mono up (aF _)
 have f1:d.fits (cj es (t.put j).2 (h,Value.ref a)).size=γ:=by delta gR iz;rw[z,c.pl,c.dm,c.mask,bt];show#v[by simp,aI (by have:=(cz_m y).2.2;simp;first|show this|omega)]
 have fin:∀F:cE,F=d->ar (model prog w) A (do
   storeSet S (cj es (t.put j).2 (h,.ref a)) F
   if (!δ&&F.tooFull)=γ then do setRelay S (ir (es.size+1));pure γ else pure γ) Q E s:=λF e=>by
  subst e;calc aj (mI p hd ?_ (by rw[z,bH];omega));have g1:=J5 (es':=cj es (t.put j).2 (h,Value.ref a)) (t':=d) p hd;have tf:d.tooFull=decide ((n+1) * 5 >= m * 3):=by delta mR iz;rw[c.pl,c.dm,c.mask];rfl
  rw[tf];by_cases h5:(n+1) * 5 >= m * 3
  .rw[aI h5,af #[],sz,<- z];let#v[B,I,hz]:=cz_g y u h5;calc aj (W6 (m:=B) (s:={ s with heap:=s.heap.update S (k9 (cj es (t.put j).2 (h,.ref a)) d) }) (by rw[z,c.mask];show I) g1 J f1 λh' es' t' Y b2 O G b4 b5 b6=>?_);rw[z]at O;show aw (hQ ne h' es' t' _ B ((dJ ..).t Y) b2 #v[O,hz,G] b4 b5 (b6.t M))
  .rw[aL h5,ah #[]];show aw (hQ ne _ _ _ _ m (dJ ..) g1 #v[c,cz_n y u h5,X] J J M)
 split
 .calc aj (Tq N ?_);show fin _ J
 .rename_i P;calc aj (aw (fin _ ?_));rw[mV]at P;rw[af J];change (t.put j).1={ (t.put j).1 with plain:=δ };rw[<-P]
end
#print f
section
variable{κ α:Type}[DecidableEq κ]
def XF(acc:List (κ×α))(q:κ×α):List (κ×α):=if q.1∈acc.map ai then acc else acc++[q]
def j2(l:List (κ×α)):List (κ×α):=l.foldl XF []
def ψ(l:List κ):List κ:=l.foldl (λacc k=>if k∈acc then acc else acc++[k]) []
theorem Kv(acc:List (κ×α)):∀l:List (κ×α),∃r,l.foldl XF acc=acc++r/\∀q∈r,q∈l
 |[]=>#v[[],(bD _).symm,λq a=>by ext a]
 |q::l=>by
  let#v[r,e,h]:=Kv (XF acc q) l;rw[fz,e];delta XF;split
  .show#v[r,J,λq a=>ba _ (h q a)]
  .calc#v[q::r,by rw[bL];rfl,λx b=>?_];rcases aD.1 b with rfl|b
   .show aP
   .show ba _ (h x b)
def TQ(l:List (κ×α))(q:κ×α):j2 (l++[q])=XF (j2 l) q:=by delta j2;rw[mH];rfl
def O9(l:List (κ×α))(i:Nat):(j2 (l.take i)).length<=(j2 l).length:=by
 have e:j2 l=(l.drop i).foldl XF (j2 (l.take i)):=by delta j2;rw[<-mH,ib]
 let#v[r,h,_]:=Kv (j2 (l.take i)) (l.drop i);rw[e,h,aG];omega
def Kw{l:List (κ×α)}{q:κ×α}(h:q∈j2 l):q∈l:=by let#v[r,e,a]:=Kv ([]:List (κ×α)) l;delta j2 at h;rw[e]at h;show a q h
theorem TR:∀(l:List (κ×α)) (acc:List (κ×α)),(l.foldl XF acc).map ai=(l.map ai).foldl (λacc k=>if k∈acc then acc else acc++[k]) (acc.map ai)
 |[],acc=>rfl
 |q::l,acc=>by
  rw[fz,TR l,aA,fz];congr 1;delta XF;split
  .rfl
  .rw[bg];rfl
def EF(l:List (κ×α)):(j2 l).map ai=ψ (l.map ai):=TR l []
#print h
theorem GE:∀(l acc:List κ),acc.Nodup->(l.foldl (λacc k=>if k∈acc then acc else acc++[k]) acc).Nodup/\∀x,x∈l.foldl (λacc k=>if k∈acc then acc else acc++[k]) acc ↔ x∈acc\/x∈l
 |[],acc,h=>#v[h,λx=>#v[.inl,λh=>h.resolve_right (by simp)]]
 |k::l,acc,h=>by
  rw[fz];split
  .rename_i f;let#v[c,d]:=GE l acc h;calc#v[c,λx=>(d x).t #v[λh=>h.imp id (ba _),λh=>?_]];rcases h with h|h
   .show .inl h
   .rcases aD.1 h with rfl|h
    .show .inl f
    .show .inr h
  .rename_i f;let#v[c,d]:=GE l (acc++[k]) (cq.2 #v[h,cu.2 #v[bY,.nil],λa i b j e=>f (by rw[<-aO.1 j,<- e];show i)]);calc#v[c,λx=>(d x).t ?_];rw[bC,aO,aD,or_assoc]
#print f
def TU(l:List κ):(ψ l).Nodup:=(GE l [] .nil).1
def Kz{l:List κ}{x:κ}:x∈ψ l ↔ x∈l:=((GE l [] .nil).2 x).t #v[λh=>h.resolve_left (by simp),.inr]
def W7{c:Type}[DecidableEq c]{g:κ->c}(h:∀a b,g a=g b->a=b)(l:List (κ×α)):j2 (l.map λq=>(g q.1,q.2))=(j2 l).map λq=>(g q.1,q.2):=by
 have:∀(l acc:List (κ×α)),(l.map λq=>(g q.1,q.2)).foldl XF (acc.map λq=>(g q.1,q.2))=(l.foldl XF acc).map λq=>(g q.1,q.2):=λl=>by
  induction l with
  |nil=>intro acc;rfl
  |cons q l i=>
   intro acc;rw[aA,fz,fz,<- i];congr 1;delta XF;have:g q.1∈(acc.map λq=>(g q.1,q.2)).map ai ↔ q.1∈acc.map ai:=by rw[aT,av,av];show#v[λ#v[a,e,f]=>#v[a,e,h _ _ f],λ#v[a,e,f]=>#v[a,e,aX g f]]
   by_cases d:q.1∈acc.map ai
   .rw[af d,af (this.2 d)]
   .rw[ah d,ah λz=>d (this.1 z),bg];rfl
 show this l []
end
structure W8(prog:bb)(w:aQ)(h:Heap)(S:Addr)(L:List (List ee×Addr))(led:Bool)(n:Nat)(o:Obj)(es:Array (Int×aa))(ep:Nat)(t:cE):Prop extends CJ h S L led n o es ep t where
 cw:∃m,Cw m n t es
 pe:es.toList.Perm (L.map (hkE prog w))
section
def QF(W:WalksS prog w A.in1 I fp F GG n PP SS)(hSf:S∉fp)(hu:A.in1.units<cLine)(L:List (List ee×Addr))(hn:L.length=n)(h8:(j2 L).length<63)(hk:∀q∈L,∃x k,q.1=Sum.inr x::k)(far:∀q∈L,q.2∉S::F)
  (hval:∀i v,PP i v->∃q,L[i]?=U q/\v=.ref q.2):∀(k i:Nat) (s:aq) (o:Obj) (es:Array (Int×aa)) (ep:Nat) (t:cE),n - i=k->i<=n->SS i s->(∀q∈L,TK prog w s.heap q.1 q.2)->W8 prog w s.heap S (j2 (L.take i)) led (j2 (L.take i)).length o es ep t->
   (∀s' o es ep t,Moved (S::F) GG s s'->W8 prog w s'.heap S (j2 L) led (j2 L).length o es ep t->R (.ok (.ret .none)) s')->
   cO (model prog w) A (.builtin "set.update.loop" #v[[.ref S,.ref I],[]]) R s:=by
 have hSw:S∉F:=λz=>hSf (W.sub _ z);have up:∀b∈F,b∈S::F:=λb z=>ba _ z;intro k
 induction k with
 |zero=>
  intro i s o es ep t M hi hst tk x hR;obtain rfl:i=n:=by omega
  calc dh gh ?_;rw[dv du _];change ar _ A.in1 (pyNext (.ref I)>>=_) _ _ s;calc aj (W.done s _ _ hst λs' hm=>?_);change ar _ A.in1 (ret Value.none) _ _ s';rw[ka ()]at x;show aw (hR s' o es ep t (hm.mono up) { x with l0:=hm.heap S _ hSw x.l0 })
 |succ k ih=>
  intro i s o es ep t M hi hst tk x hR;have hlt:i<n:=by omega
  calc dh gh ?_;rw[dv du _];change ar _ A.in1 (pyNext (.ref I)>>=_) _ _ s;calc aj (W.item i s _ _ hlt hst λv s' hP hst' hm=>?_);let#v[q,X,rfl]:=hval i v hP;have O:q∈L:=cb X;have f:∀q∈L,TK prog w s'.heap q.1 q.2:=λq Y=>(tk q Y).f? λo=>hm.heap q.2 o λz=>far q Y (up _ z);change ar _ A.in1 (holding _ (setAdd S _)>>=_) _ _ s';calc aj (cA ?_);delta setAdd;calc cA ?_;calc aj (mx hu (f q O) ?_);let#v[m,C]:=x.cw;let#v[z,N,E]:=hk q O;have tq:TK prog w s'.heap (Sum.inr z::N) q.2:=by rw[<-E];show f q O
  have split:j2 (L.take (i+1))=XF (j2 (L.take i)) q:=by rw[qr,X];show TQ _ _
  have sub:∀r∈j2 (L.take i),r∈L:=λr hr=>(jn _ _).subset (Kw hr);have h:W8 prog w s'.heap S (j2 (L.take i)) led (j2 (L.take i)).length o es ep t:={ x with l0:=hm.heap S _ hSw x.l0 };have ul:=O9 L i;have ul1:=O9 L (i+1);rw[E];refine aeq (s:={ s' with toks:=s'.toks+((Sum.inr z::N:List ee).length+1) }) (L:=j2 (L.take i)) hu C () (CJ.fits #v[h.l0,h.ex,h.d,h.c,h.led,h.pl,h.p] J) #v[λr hr=>f r (sub r hr),h.pe] tq h.l0 h.d (λinn=>?_) λnin h' es' t' B m' G b2 H b5 b6 b7=>?_
  .rw[<-E]at inn;have e:j2 (L.take (i+1))=j2 (L.take i):=by rw[split];delta XF;rw[af inn]
   calc aw #v[eG du _,ih (i+1) _ o es ep t () hlt (W.frame _ s' s'.heap _ hst' (fw _ _) λb z o e=>e) f (by rw[e];show h) λu P l j Q a T=>?_];show hR u P l j Q (jH W.gtrans ((hm.mono up).then_heap (fw _ _) λb o z e=>e) a) T
  rw[<-E]at nin;have e:j2 (L.take (i+1))=j2 (L.take i)++[q]:=by rw[split];delta XF;rw[ah nin]
  have y:W8 prog w h' S (j2 (L.take (i+1))) led (j2 (L.take (i+1))).length { o with data:=.set es' B t' } es' B t':=by
   have pe:es'.toList.Perm ((j2 (L.take (i+1))).map (hkE prog w)):=by rw[e,bg];calc b7.t (.t ?_ (j6 _ _).symm);rw[show hkE prog w q=(tupleKeyHash (vG prog w) (Sum.inr z::N),.ref q.2) by delta hkE;rw[E]];show List.Perm.cons _ x.pe
   have hl:(j2 (L.take (i+1))).length=(j2 (L.take i)).length+1:=by rw[e,aG];rfl
   rw[hl];show#v[#v[b2,x.ex,J,#v[m',H.1.toTb,H.2.1],b5.t x.led,λg=>b6,by have:=pe.map bI;rw[aT]at this;show this],#v[m',H],pe]
  refine aw #v[eG du _,ih (i+1) _ _ _ _ _ () hlt (W.frame _ s' h' _ hst' (fw _ _) λb z o e=>?_) (λr hr=>(f r hr).f? λo e=>?_) y λu P l j Q a T=>?_]
  .rw[G.2 b (λy:b=S=>hSf (by rw[<-y];show z))];show e
  .rw[G.2 r.2 (λy:r.2=S=>far r hr (by rw[y];show aP))];show e
  .calc hR u P l j Q (jH W.gtrans ((hm.mono up).then_heap (fw _ _) λb o z e=>?_) a) T;rw[G.2 b (λy:b=S=>z (by rw[y];show aP))];show e
end
end L4
namespace L4
open PySem PySem.Spec PySem.Calls PyProof.Rows PySem.W L2 L3
section
variable{s:aq}
def YB(L:List (aC×Addr)):j2 (L.map λq=>(W' q.1,q.2))=(j2 L).map λq=>(W' q.1,q.2):=W7 (g:=W') (λa b h=>(List.map_inj_right λz z h=>jG h).1 h) L
def TV{prog:bb}{w:aQ}{A:bo}{h:Addr}{its:List aa}{L:List (aC×Addr)}{led:Bool}{itO:Obj}{SS:Nat->Heap->Prop}(hlt:h< ~~~s)(ht:∀q∈L,∃p r,q.1=[p,r])(tk:∀q∈L,TK prog w s.heap (W' q.1) q.2)
  (N:∀(i:Nat) (v:aa),its[i]?=U v->∃q,L[i]?=U q/\v=.ref q.2) (T:L.length=its.length) (O:(j2 L).length<63) (Q:A.in1.units<cLine)
  (W:Walks prog w A.in1 (~~~s+1) [~~~s+1,h] [~~~s+1] its.toArray.size (λi v=>its.toArray[i]?=U v) SS) (st:SS 0 ((s.heap.push (zX led)).push itO)) {R:lp->aq->Prop}
  (hR:∀h2 u,(∃o es ep t,CJ h2 (~~~s) ((j2 L).map λq=>(W' q.1,q.2)) led (j2 L).length o es ep t)->(∀b o,b< ~~~s->s.heap.get? b=U o->h2.get? b=U o)->R (.ok (.ret .none)) { s with heap:=h2,toks:=u }) (y:Nat):
  cO (model prog w) A (.builtin "set.update.loop" #v[[.ref (~~~s),.ref (~~~s+1)],[]]) R { s with heap:=(s.heap.push (zX led)).push itO,toks:=y }:=by
 have notin: ~~~s∉[~~~s+1,h]:=by
  intro z;rcases aD.1 z with z|z
  .show au z (aW (cQ _))
  .show au (aO.1 z) (eJ hlt)
 have C:∀{b:Addr} {E:Obj},s.heap.get? b=U E->((s.heap.push (zX led)).push itO).get? b=U E:=λe=>aJ _ (aJ _ e);refine QF (S:= ~~~s) (led:=led) W.toS notin Q (L.map λq=>(W' q.1,q.2)) (by rw[ak,bG,T]) (by rw[YB,ak];show O) ?_ ?_ ?_ (its.toArray.size - 0) 0 _ (zX led) [].toArray 0 (.fresh 0 0 led) J (bM _) st ?_ ?_ λs2 X m l Y mv a=>?_
 .intro q f;let#v[r,hr,rfl]:=av.1 f;let#v[p,z,e]:=ht r hr;show#v[p,[.inr z],by change W' r.1=_;rw[e];rfl]
 .intro q f z;let#v[r,hr,rfl]:=av.1 f;let#v[ob,_,_,e,_]:=tk r hr;have:=aM e;rcases aD.1 z with z|z
  .show au z (aW this)
  .show au (aO.1 z) (aW (cX this))
 .intro i v e;rw[kg]at e;let#v[q,F,G]:=N i v e;show#v[(W' q.1,q.2),by rw[br,F];rfl,G]
 .intro q f;let#v[r,hr,rfl]:=av.1 f;show(tk r hr).f? λo=>C
 .show#v[#v[aJ _ (bq _ J),#v[J,J,J],J,#v[7,#v[J,J,J],.inl #v[J,bM 4]],J,λz=>au z (eF 0),.nil],#v[7,#v[#v[J,J,J],.nil],.inl #v[J,bM 4],λi e j P n=>by ext P],.nil]
 .let#v[h2,g2,d2,u,x]:=s2;have I:g2=s.gens:=mv.gens;have H:d2=s.drawn:=mv.drawn;have M:x=s.os:=mv.os;subst I H M;rw[YB,ak]at a;calc hR h2 u #v[X,m,l,Y,#v[a.l0,a.ex,a.d,a.c,a.led,a.pl,a.p]] λb o B e=>mv.heap b o (λz=>?_) (C e);rcases aD.1 z with z|z
  .show au z (aW B)
  .show au (aO.1 z) (aW (cX B))
def setU{A:bo}{L:List (aC×Addr)}(I:b? X pins σ H s)(M:A.handled=Z)(S:A.units+8<cLine)(d:gi X.K H a (L.map λq=>V.ref q.2)\/fl X.K H a (L.map λq=>V.ref q.2))(F:(j2 L).length<63)
  (ht:∀q∈L,∃p r,q.1=[p,r]/\fl X.K H q.2 [.str p,.str r])
  (h:∀h2 m o es ep t,CJ h2 (~~~s) ((j2 L).map λq=>(W' q.1,q.2)) (!X.w.params.followText "set-order") (j2 L).length o es ep t->(∀b o,b< ~~~s->s.heap.get? b=U o->h2.get? b=U o)->Q (.ref (~~~s)) { s with heap:=h2,toks:=m }):
  ar (model X.prog X.w) A (call (.type "set") [.ref a]) Q E s:=by
 have h3:A.in1.in1.in1.handled=Z:=by simp[M]
 have h4:A.in1.in1.in1.units<cLine:=by change A.units+1+1+1<cLine;omega
 have tk:∀q∈L,TK X.prog X.w s.heap (W' q.1) q.2:=λq d=>by let#v[p,r,e,h1]:=ht q d;rw[e];show OO (ks:=[.inr p,.inr r]) I h1
 have y:∀{its:List aa},d? (L.map λq=>V.ref q.2) its->L.length=its.length/\∀(i:Nat) (v:aa),its[i]?=U v->∃q,L[i]?=U q/\v=.ref q.2:=λ{its} r=>by
  have G:L.length=its.length:=by have:=r.length;rw[ak]at this;show this
  calc#v[G,λi v e=>?_];have hi:i<L.length:=by rw[G];show(bT.1 e).1
  let#v[u,C,O]:=r.get (i:=i) (x:=V.ref L[i].2) (by rw[br,aH hi];rfl);rw[e]at C;ext C;show#v[L[i],aH hi,O]
 have it:∀{o:Obj} {led:Bool},o.isFreed=δ->((s.heap.push (zX led)).push o).get? (~~~s+1)=U o:=λ{o led} z=>by rw[show ~~~s+1=(s.heap.push (zX led)).objs.size from(cY _ _).symm];show bq _ z
 have l:∀q∈L,∃p r,q.1=[p,r]:=λq d=>by let#v[p,r,e,_]:=ht q d;show#v[p,r,e]
 rcases d with d|d
 .let#v[its,r,N,_]:=I.list d;let#v[o,c,f,n,hd]:=N.isList;have hne:a≠~~~s+1:=aW (cX (aM c));show CG (PS:=λh2=>∃o es ep t,CJ h2 (~~~s) ((j2 L).map λq=>(W' q.1,q.2)) (!X.w.params.followText "set-order") (j2 L).length o es ep t) c f m7 l6 #[] (itO:={ cls:=.type "list_iterator", data:=.fields #[.ref a,.int 0 0] })
   (λA Q E P e k=>ie #v[o,e,f,n,hd] k) (λj R hR=>TV (aM c) l tk (y r).2 (y r).1 F h4 (jJ h3 _ a hne its.toArray) #v[#v[_,it J,J,J],#v[o,aJ _ (aJ _ c),f,n,hd]] hR j) λh2 m #v[o,es,ep,t,x] B=>h h2 m o es ep t x B
 .let#v[its,r,p,_]:=I.tuple d;let#v[o,c,f,n,hd]:=p;have hne:a≠~~~s+1:=aW (cX (aM c));show CG (PS:=λh2=>∃o es ep t,CJ h2 (~~~s) ((j2 L).map λq=>(W' q.1,q.2)) (!X.w.params.followText "set-order") (j2 L).length o es ep t) c f qi j' #[] (itO:={ cls:=.type "tuple_iterator", data:=.fields #[.ref a,.int 0 0] })
   (λA Q E P e k=>mf #v[o,e,f,n,hd] k) (λj R hR=>TV (aM c) l tk (y r).2 (y r).1 F h4 (sC h3 _ a hne its.toArray) #v[#v[_,it J,J,J],#v[o,aJ _ (aJ _ c),f,n,hd]] hR j) λh2 m #v[o,es,ep,t,x] B=>h h2 m o es ep t x B
def JB(K:ay)(d:TE):TE:=λe H Q=>d e H λx b=>∃(a:Addr) (L:List (aC×Addr)),x=.ref a/\(gi K b a (L.map λq=>V.ref q.2)\/fl K b a (L.map λq=>V.ref q.2))/\(j2 L).length<63/\(∀q∈L,∃p r,q.1=[p,r]/\fl K b q.2 [.str p,.str r])/\
 ∀(c:List (aC×Addr)) (p:Addr),c.Perm (j2 L)->b p=Z->Q (.ref p) (el b p (.ax (HF (c.map ai) (c.map λq=>V.ref q.2))))
#print h
def Mb{j d:Pos}(S:X.A.units+64<cLine)(m:X.k?=γ)(g1:Gl X "sorted")(m1:X.mg "sorted" = Z)(g2:Gl X "set")(m2:X.mg "set" = Z)(O:PE X e te)
  (C:aE [Expr.Call (.Name "set" j) [e] [] d] X.a9=[(δ,eval (.Call (.Name "set" j) [e] [] d) X.a9)]:=by rfl) (E:aE [e] X.a9=[(δ,eval e X.a9)]:=by rfl):PE X (.Call (.Name "sorted" p1) [.Call (.Name "set" j) [e] [] d] [] p4) (JB X.K te):=by
 intro pins s σ H Q I h;calc eZ (BC I g1 m1 n4 ?_ #[] #[]);calc callWith_builtin1 ?_ C J;rw[C];change ar _ _ (spliced [(δ,eval (.Call (.Name "set" j) [e] [] d) X.a9)]) _ _ s;calc gq ?_;calc eZ (BC I g2 m2 sE ?_ #[] #[]);refine callWith_type1 (ff (xf O zO E d pins s σ H (λvs H1=>match vs with
  |[x]=>∃(a:Addr) (L:List (aC×Addr)),x=.ref a/\(gi X.K H1 a (L.map λq=>V.ref q.2)\/fl X.K H1 a (L.map λq=>V.ref q.2))/\(j2 L).length<63/\(∀q∈L,∃p r,q.1=[p,r]/\fl X.K H1 q.2 [.str p,.str r])/\
    ∀(c:List (aC×Addr)) (p:Addr),c.Perm (j2 L)->H1 p=Z->Q (.ref p) (el H1 p (.ax (HF (c.map ai) (c.map λq=>V.ref q.2))))
  |_=>False) I h) λus B #v[vs,H1,f,r1,q1]=>?_) E J
 match vs,r1,q1 with
 |[x],r1,q1=>
 let#v[a,L,M,R,N,ht,q]:=q1;subst M;let#v[u,rfl,ru]:=mq r1;ext ru;calc setU f (f.ok.hd m) () R N ht λh2 y o es ep t x Y=>?_;calc ig ?_;have l:b? X pins σ H1 { B with heap:=h2,toks:=y }:=f.f? λb o e=>Y b o (aM e) e;refine NL (s:={ B with heap:=h2,toks:=y }) (L:=j2 L) (f.ok.hd m) S J x (λr hr=>?_) λc p h3 T G e pL w W P=>?_
 .let#v[p,z,e,h1]:=ht r (Kw hr);calc#v[p,z,e,?_];rw[e];show OO (ks:=[.inr p,.inr z]) l h1
 .have F:=l.laid (t':=T) (o:=.ax (HF (c.map ai) (c.map λq=>V.ref q.2))) W w (by
   refine#v[?_,Tt (c.map ai) (c.map λq=>Value.ref q.2),e,?_,P]
   .delta HF;split
    .show bM _
    .rename_i hne;have hn:0<(c.map λq=>V.ref q.2).length:=eY.2 hne;rw[ak,(zp _ hn).length_eq,cG,ak,pL.length_eq,bH];omega
   .delta HF Tt;by_cases hL:c=[]
    .subst hL;show .nil
    .rw[ah (by exists hL),ah (by exists hL)];have hn:0<(c.map λq=>V.ref q.2).length:=by rw[ak];show eY.2 hL
     delta DA;rw[show (c.map λq=>Value.ref q.2).length=(c.map λq=>V.ref q.2).length by rw[ak,ak]];show Fe (Jz c) _ λi hi=>Dm _ hn i hi)
  show#v[.ref p,_,b?.drw F G,J,q c p pL (l.fb.fresh w)]
#print f
def sqD:D->Option aZ
 |.ax a=>U a
 |.bx a=>U a
 |_=>Z
def zq(f:FE):FA:=λc=>match f c with
 |some (d,a)=>match (sqD d).bind FP with
  |some b=>if (ψ b).length<63 then U ((EE (ψ b)).map fy,a)else Z
  |none=>Z
 |_=>Z
#print h
def KA(h:PE X e (JB G.K (tF G f))):PE X e (Bx G (zq f)):=PE.c3 h λσ H Q O=>by
 let#v[F,P,B,W,S,R,e,k]:=O;delta zq at e;split at e
 .rename_i d T I;cases j:(sqD d).bind FP with
  |none=>erw[j]at e;cases e
  |some Y=>
   erw[j]at e;split at e
   .rename_i N;ext e;let#v[E,x,j]:=pE.1 j;calc#v[F,P,B,_,_,R,I,λv z i s c r=>?_];let#v[a,b,rfl,m,o]:∃a b,v=.ref a/\(gi G.K i a b\/fl G.K i a b)/\bc G z E b:=by
     cases d with
     |ax l=>ext x;delta df at r;let#v[a,b,rfl,m,o]:=r;show#v[a,b,J,.inl (gi.of (c.sub _ _ m)),o]
     |bx l=>ext x;delta df at r;let#v[a,b,rfl,m,o]:=r;show#v[a,b,J,.inr (fl.mono c.sub m),o]
     |_=>ext x
    let#v[L,rfl,rfl,y]:=O2 o j;have two:∀k∈L.map ai,∃p q,k=[p,q]:=λk u=>by let#v[q,t,rfl]:=av.1 u;let#v[p,r,e,_]:=y q t;show#v[p,r,e]
    refine#v[a,L,J,m,by rw[<-ak (f:=ai),EF];show N,λq t=>?_,λC p pL w=>?_]
    .let#v[p,r,e,M]:=y q t;show#v[p,r,e,fl.mono c.sub M]
    .have A:=Tw (G:=G) (H:=z) (L:=C) λq t=>y q (Kw (pL.mem_iff.1 t));rw[WZ (pL.map ai) (by rw[EF];show TU _) (λk u=>two k (by rw[EF,Kz]at u;show u)),EF]at A;show k p _ _ _ s (c.gj w _) vB (c.e? w) (c.gr w) (c.apart w) A
   .ext e
 .ext e
end
#print f
section
def acm [C:Cz X B k][N:Nb B "sorted"][h:Nb B "set"](l:S1 X e)(j:Gz X "sorted")(a:Gz X "set")(i:ZE X B e f)(z:aE [Expr.Call (.Name "set" b) [e] [] d] X.a9=[(δ,eval (.Call (.Name "set" b) [e] [] d) X.a9)]):ZN X B (.Call (.Name "sorted" p) [.Call (.Name "set" b) [e] [] d] [] pos) (zq f):=#v[KA (by rw[<-C.K];show Mb C.r.units C.c j (C.mg▸N.p) a (C.mg▸h.p) i.p z l)]
end
section
theorem QG(h:Q 0xFCA86420 { s with toks:=s.toks+1 }):ar (model prog w) A (pyHash .none) Q E s:=by
 calc aj ?_;rw[cRoomFor,ah (by rw[show [Value.none].any Value.onHeap=δ from J];show bB)];calc aw ?_;calc aj (gH (k7 s) kr.lookup ?_);rw[ah (by rw[beq_builtin_none];show bB)];calc aj (gH (k7 s) kr.lookup ?_);refine aj (wpAny_callSpecialIfBoundUnlessNone?_slot (k7 s) kr
  (fS kr (k7 s) F.entry_NoneType_hash
   (show ar _ _ (do ret (<-mkInt 0xFCA86420)) _ _ s from wpAny_ret_mkInt ?_) (F.args_NoneType_hash_1 _)))
 show aw h
def W9(h:Q γ s):ar (model prog w) A (eqBool .none .none) Q E s:=by calc cA ?_;rw[af (show (Value.none==Value.none)=γ from J)];show aj (oq (aw h))
def oIs:Option ee->aa->Bool
 |none,.none=>γ
 |none,_=>δ
 |some k,v=>GL k v
def Ae(h:oIs k v=γ):(k=Z/\v=.none)\/(∃i t,k=U (Sum.inl i)/\v=Value.int i t)\/∃x t,k=U (Sum.inr x)/\v=Value.str x t:=by
 cases k with
 |none=>ext v<;>first|show .inl #v[J,J]|cases h
 |some k=>
  rcases wD h with ⟨i,t,rfl,rfl⟩|⟨x,t,rfl,rfl⟩
  .show .inr (.inl #v[i,t,J,J])
  .show .inr (.inr #v[x,t,J,J])
def XC(prog:bb)(w:aQ):rJ prog w (Option ee) where
 is:=oIs
 hash:=λk=>match k with|none=>0xFCA86420|some k=>keyH w k
 inj:=λv a b ha d=>by rcases Ae ha with ⟨rfl,rfl⟩|⟨i,t,rfl,rfl⟩|⟨x,t,rfl,rfl⟩<;>rcases Ae d with ⟨rfl,e⟩|⟨j,u,rfl,e⟩|⟨y,u,rfl,e⟩<;>first|rfl|(ext e;rfl)|ext e
 byValue:=λk v h=>by rcases Ae h with ⟨rfl,rfl⟩|⟨i,t,rfl,rfl⟩|⟨x,t,rfl,rfl⟩<;>rfl
 pyHash:=λ{A E s k v Q} hv h=>by
  cases k with
  |some k=>show(vG prog w).pyHash (k:=k) hv h
  |none=>
   rcases Ae hv with ⟨_,rfl⟩|⟨i,t,e,_⟩|⟨x,t,e,_⟩
   .show QG h
   .ext e
   .ext e
 eqBool:=λ{A E s a b u v Q} c hv h=>by
  rcases Ae c with ⟨rfl,rfl⟩|⟨i,t,rfl,rfl⟩|⟨x,t,rfl,rfl⟩<;>rcases Ae hv with ⟨rfl,rfl⟩|⟨j,u,rfl,rfl⟩|⟨y,u,rfl,rfl⟩
  .show W9 h
  .show p9 j u _ _ _ _ h
  .show qa y u _ _ _ _ h
  .show qb i t _ _ _ _ h
  .show(vG prog w).eqBool (a:=Sum.inl i) (b:=Sum.inl j) c hv (by exists h)
  .show(vG prog w).eqBool (a:=Sum.inl i) (b:=Sum.inr y) c hv (by exists h)
  .show qc x t _ _ _ _ h
  .show(vG prog w).eqBool (a:=Sum.inr x) (b:=Sum.inl j) c hv (by exists h)
  .show(vG prog w).eqBool (a:=Sum.inr x) (b:=Sum.inr y) c hv (by exists h)
 «strs»:=λk x t v h=>by
  cases k with
  |none=>cases h
  |some k=>show(vG prog w).strs k x t v h
def Xa{h:Heap}(m:h.MapOf (vG prog w) a f):h.MapOf (XC prog w) a (λk=>match k with|none=>Z|some k=>f k):=by
 let#v[o,p,l,q,r,u,j,y]:=m;refine#v[o,p,l,q,r,u,λe b=>?_,λk=>?_]
 .let#v[k,c,z]:=j e b;show#v[U k,c,z]
 .cases k with
  |some k=>show y k
  |none=>
   delta findBy;rw[Array.find?_eq_none.2 λe b=>?_]
   .rfl
   .let#v[k,c,_]:=j e b;rcases wD c with ⟨i,t,_,d⟩|⟨x,t,_,d⟩<;>(rw[d];show bB)
end
section
def acn(I:b? X b d H s)(e:Rd H a (.dK kvs))(h:∀c,b? X b d H c->Q .none c):ar (model X.prog X.w) A (call (.builtin "dict.get") [.ref a,.none]) Q E s:=by let#v[z,hd,f,rel,dd]:=Ef I.fb e;show jC jw dd.typeIs mO (mF _ _) (rj (XC X.prog X.w) a (k:=Z) J hd) #v[_,Xa dd.mapOf,h _ (I.zk _)]
def aco(e ty:TE):TE:=λd H Q=>e d H λx c=>∃a,x=.ref a/\IsD c a/\ty d c λy b=>(∃o,Ai b a y o/\Q (o.getD .cx) b)\/(y=.cx/\(∃kvs,Rd b a (.dK kvs))/\Q .cx b)
def TX(E:X.A.units+1<cLine)(C:PE X o S)(B:PE X e ty)(m:M1 X o "get" apos e cpos):PE X (.Call (.Attribute o "get" apos) [e] [] cpos) (aco S ty):=by
 intro b s t H Q I h;calc mG m.a8 m.few m.line kE jw qP (ff (C b s t H _ I h) λu N f=>?_);let#v[x,w,p,M,a,z,d,G]:=f;subst z;obtain rfl:u=Value.ref a:=M;let#v[P,R,_]:=JY p d;calc#v[P,R,?_];rw[m.Xn];calc je J (kl (gq (ff (B b N t w _ p G) λF W f=>ig ?_)));obtain⟨y,l,q,r,⟨T,g,i⟩|⟨rfl,⟨kvs,e⟩,i⟩⟩:=f
 .show Ru E q g r λY O c j=>#v[_,l,c,j,i]
 .obtain rfl:F=.none:=r;show acn q e λO c=>#v[.cx,l,c,J,i]
def FU:D->D->Option D:=λx y=>match y with
 |.cx=>match x with
  |.J _ _=>U .cx
  |_=>Z
 |y=>Es x y
def TY(hu:X.A.units+1<cLine)(ha:PE X a (tF G f))(hb:PE X b (tF G f'))(m:M1 X a "get" apos b cpos):PE X (.Call (.Attribute a "get" apos) [b] [] cpos) (tF G (c2 FU f f')):=PE.c3 (TX hu ha hb m) λσ H Q hh=>by
 let#v[F,ρ,P,d,C,R,e,k]:=hh;let#v[x,y,l,Y,e2,c]:=Gq e;cases x with
 |J N W=>
  calc#v[F,ρ,P,_,l,R,Y,λv S T B E r1=>?_];have t:=r1;let#v[p,ob,xs,rfl,r,h2,h3]:=t;calc#v[p,J,.inl #v[_,.inr #v[_,E.sub _ _ r]],F,l,S,y,C,E,e2,λu o h i R2 O=>?_];by_cases M:y=.cx
  .subst M;ext c;subst O;show .inr #v[J,#v[_,.inr #v[_,R2.sub _ _ (i _ _ r)]],k _ o h (B.t i) R2 BI]
  .left;have c:=by
    delta FU at c;split at c
    .show au J M
    .show c
   delta Es at c;cases q:Dw y with
   |none=>erw[q]at c;cases c
   |some j=>
    erw[q]at c;ext c;have lv:=Er j (bc.mono i _ _ h3) h2;refine#v[ze (N.zip xs) j,?_,?_]
    .rw[BM O q];show Ai.kf (R2.sub _ _ (i _ _ r))
    .cases I:xX N W j with
     |none=>rw[I]at lv k;rw[lv];show k _ o h (B.t i) R2 BI
     |some z=>rw[I]at lv k;let#v[w,w1,w2]:=lv;rw[w1];show k _ o h (B.t i) R2 w2
 |_=>
  delta FU at c;split at c
  .ext c
  .delta Es at c;ext c
end
section
def acp [C:Cz X B k](i:ZE X B e f)(j:ZE X B a c)(d:Az X e "get")(h:Ez apos pos)(b:S1 X a):ZE X B (.Call (.Attribute e "get" apos) [a] [] pos) (c2 FU f c):=#v[TY (Lg C.r) i.p j.p #v[d,by rw[b];rfl,h,by rw[b];rfl]]
end
def tOr(t a:Ty->Option Bool):Ty->Option Bool:=λy=>match t y with
 |some γ=>match a y with
  |some _=>U γ
  |none=>Z
 |some δ=>a y
 |none=>Z
section
theorem M3{K:ay}:∀{l:List L3.Dq} {f:bA} {c:List aa},L3.bc K H l f->d? f c->(∀u∈c,∃e∈l,∃x,L3.df K H e x/\ea x u)/\∀e∈l,∃u∈c,∃x,L3.df K H e x/\ea x u
 |[],f,c,r,v=>by delta L3.bc at r;subst r;ext v;show#v[λu b=>(by ext b),λe a=>(by ext a)]
 |d::l,f,c,r,v=>by
  delta L3.bc at r;let#v[x,q,rfl,h,j]:=r;cases v with
  |cons i p=>
   let#v[m,o]:=M3 j p;refine#v[λu b=>?_,λe a=>?_]
   .rcases aD.1 b with rfl|b
    .show#v[d,aP,x,h,i]
    .let#v[e,a,z]:=m u b;show#v[e,ba _ a,z]
   .rcases aD.1 a with rfl|a
    .show#v[_,aP,x,h,i]
    .let#v[u,b,z]:=o e a;show#v[u,ba _ b,z]
end
end L4
namespace L2
open PySem PySem.Spec PyProof.Rows PySem.W
structure Fly(P:bb)(w:aQ)(C:Addr)(l:List Env)(H:Hp)(s:aq)(H':Hp)(a:Addr)(s':aq):Prop where
 ex:∃(B:Heap) (a0:aa),Heap.FlyingW B l a (.ref C) a0 s'.heap/\tj P w H' B/\∀b o,s.heap.get? b=U o->b∉Z' l->∃o',B.get? b=U o'
 os:s'.os=s.os
 i?:eP s'.gens
 un:Un (Z' l) [] H H' s.heap s'.heap
def CXW(P:bb)(w:aQ)(C:Addr):CXT:=λl H s E e c=>∃a b,e=.ref a/\Fly P w C l H s b a c/\E e Z b
end L2
namespace L4
open PySem PySem.Spec PyProof.Rows L2 L3
inductive IspX(G:Bg) (g:aZ->Option Bool) (vs:bA) (H:Hp) (Q:VK) (E:XK):Prop
 |i (H0 ds d) (h0:vF H0 H) (h1:bc G H0 ds vs) (h2:g ds=U d) (h3:(d=γ->∀H0' H',vF H0 H0'->vF H0' H'->vF H H'->(∀b o,H0' b=U o->H0 b=U o\/H b=Z)->Q .cx H')) (h4:(d=δ->∀e H',vF H H'->E e Z H')):IspX G g vs H Q E
def spX(G:Bg)(g:aZ->Option Bool):Sp:=λa H Q E=>IspX G g a H Q E
class Dx(B:Bz)(j:outParam Nat)(x:Str)(c:Nat)(g:aZ->Option Bool):Prop where p:∃ps f fd,B.mg x=U (.ref f)/\dS B.G.K (.ref f)=γ/\ki B.G.K fd ps []/\zh B.P B.w B.G.K B.mg B.a8 (CXW B.P B.w (B.G.ca c)) j f fd ps (spX B.G g)
section
variable{B:Bz}[Y:Yb B]{st s0:Stmt}
omit Y in
end
def dV(g:aZ->Option (Option D)):aZ->Option D:=λa=>match g a with
 |some (U d)=>U d
 |_=>Z
mutual
def noFz:D->Bool
 |.M _=>δ
 |.X _ _=>δ
 |.bx a=>MS a
 |.ax a=>MS a
 |.obj _ _ a=>MS a
 |.J _ a=>MS a
 |_=>γ
def MS:aZ->Bool
 |[]=>γ
 |d::a=>noFz d&&MS a
end
end L4
namespace L4
open PySem PySem.Spec PySem.Calls PyProof.Rows PySem.W L2 L3
def kN(K:ay):Bool:=K.all λp=>p.2.dict.isNone
class Hz(B:Bz):Prop where
 h:B.G.hs=tupleKeyHash (vG B.P B.w)
 k:kN B.G.K=γ
end L4
namespace L4
open PySem PySem.Spec PySem.Calls PySem.SeqAt PyProof.Rows PySem.W L2 L3
section
def cSpl(f c:FE):FA:=λd=>match f d with
 |some (.str z,a)=>match c a with
  |some (.str y,b)=>if (y.length==0)=δ/\z.length<=100000 then U ((Txt.split z y).map D.str,b)else Z
  |_=>Z
 |_=>Z
def dIndexU:D->D->Option D:=λx y=>match x,y with
 |.bx b,.str k=>match Jr b with
  |some a=>if k∈a/\a.length<=1000 then U (.int (a.idxOf k:Nat))else Z
  |none=>Z
 |_,_=>Z
inductive IrInU(K:ay) (x:V) (y:V) (H:Hp) (Q:VK):Prop
 |i (p xs d l) (h0:y=.ref p) (h1:fl K H p xs) (h2:L3.df K H d x) (h3:L3.bc K H l xs) (h4:gw d<=20) (h5:(∀e∈l,gw e<=20)) (h6:Q (.bl (l.any λe=>nf e d)) H):IrInU K x y H Q
def rInU(K:ay):R2:=λx y H Q=>IrInU K x y H Q
def op_inU(T:X.A.units+64<cLine):js X (bz .In) (rInU X.K):=by
 intro C s σ H x y v u Q I R S h;let#v[p,Y,d,l,rfl,G,O,P,hd,F,q]:=h;ext S;let#v[j,r,pl,W]:=I.tuple G;let#v[M,N]:=M3 P r;have B:∀e∈l,∀z w,L3.df X.K H e z->ea z w->jI X.A.in1 s w v (nf e d):=λe a z w b c=>M5 I e d z x w v X.A.in1 b O c R (by have:=F e a;change X.A.units+1+_+_<_;omega);let f:aa->Bool:=λw=>@decide (∃e∈l,∃z,L3.df X.K H e z/\ea z w/\nf e d=γ) (jd _);refine qG f pl (λw o=>?_) #v[.bl _,H,I,J,?_]
 .by_cases m:∃e∈l,∃z,L3.df X.K H e z/\ea z w/\nf e d=γ
  .have t:f w=γ:=@aI _ (jd _) m;let#v[e,a,z,b,c,i]:=m;have:=B e a z w b c;rw[i]at this;rw[t];show this
  .have t:f w=δ:=@aL _ (jd _) m;let#v[e,a,z,b,c]:=M w (by exists o);have:=B e a z w b c;rw[jq.2 λi=>m #v[e,a,z,b,c,i]]at this;rw[t];show this
 .have E:j.toArray.any f=l.any λe=>nf e d:=by
   rw[show j.toArray.any f=j.any f by simp];calc dO.2 ?_;rw[dw,dw];constructor
   .rintro⟨w,o,m⟩;let#v[e,a,z,b,c,i]:=@bj _ (jd _) m;show#v[e,a,i]
   .rintro⟨e,a,i⟩;let#v[w,o,z,b,c]:=N e a;show#v[w,o,@aI _ (jd _) #v[e,a,z,b,c,i]]
  rw[E];show q
def J':D->D->Option D:=λx y=>match y with
 |.bx a=>match oy x,A4 a with
  |some d,U l=>if decide (gw d<=20)&&l.all (λe=>decide (gw e<=20))then U (.bl (l.any λe=>nf e d))else Z
  |_,_=>Z
 |_=>Z
#print h
def od_inU:k4 G (rInU G.K) J':=λx y z r H v u Q e s q c k=>by
 delta J' at e;split at e
 .rename_i i;cases b:oy x with
  |none=>erw[b]at e;cases e
  |some d=>
   cases f:A4 i with
   |none=>erw[b,f]at e;cases e
   |some l=>
    erw[b,f]at e;split at e
    .rename_i h;ext e;rw[bt,bV,bF]at h;have c:=df.mono s _ _ c;delta df at c;let#v[a,j,rfl,m,o]:=c;show#v[a,j,d,l,J,m,Gs x v d (df.mono s _ _ q) b,El i j l o f,h.1,λe p=>bj (h.2 e p),k _ λt t=>yb _]
    .ext e
 .ext e
#print f
instance inU2:H? .In J':=#v[λX G h a=>#v[_,by rw[<-h];show op_inU a,od_inU]]
end
end L4
namespace L4
inductive Al{α β:Type} (P:α->β->Prop):List α->List β->Prop
 |nil:Al P [] []
 |cons (h:P x y) (t:Al P l m):Al P (x::l) (y::m)
theorem Al.at{c d:Type}{P:c->d->Prop}:∀{l:List c} {m:List d} {x:c} {y:d} (n:Nat),Al P l m->l[n]?=U x->m[n]?=U y->P x y
 |_,_,_,_,0,.cons h _,a,b=>by ext a;ext b;show h
 |_,_,_,_,n+1,.cons _ t,a,b=>t.at n a b
end L4
namespace L4
open PySem PySem.Spec PyProof.Rows L2 L3
def p5(a:aU):Bool:=a.all λs=>!s.g?
def km{s:Sl}{i:Nat}(n:p5 a=γ)(e:a[i]?=U s):s.g?=δ:=by have:=bF.1 n s (cb e);exists this
def vl(n:p5 b=γ)(i:Nat)(d:D):p5 (b.set i (.q d))=γ:=bF.2 λs a=>by
 rcases pj a with h|h
 .show bF.1 n s h
 .subst h;rfl
def b8.k?(R:b8 G F σ ρ H0 H)(n:p5 ρ=γ):b8 G #v[H0,H,[]] σ ρ H0 H where
 sub:=R.sub
 g0:=vF.refl _
 keep:=λb o e u=>e
 fr:=λb o e=>.inl e
 am:=λa h=>by ext h
 len:=R.len
 sl:=λi s e=>by have ok:=R.sl i s e;have z:=km n e;ext s<;>first|show ok|ext z
 ap:=λi j s t a u e u so=>by rw[km n e]at so;ext so
abbrev DD:=List ee×aZ
def ro(G:Bg)(F:Fr)(c H:Hp)(a:Addr)(A:DD):Prop:=(∃b,H a=U (.dK (A.1.zip b))/\A.1.length=b.length/\bc G c A.2 b)/\c a=Z/\F.B a=Z
structure Mx(G:Bg)(F:Fr)(x:Nat)(t a b:Addr)(A:DD×DD)(σ:St)(ρ:aU)(H0 H:Hp):Prop where
 R:b8 G F σ ρ H0 H
 n:p5 ρ=γ
 sx:σ[x]?=U (U (.ref t))
 ht:H0 t=U (.bx [.ref a,.ref b])
 ne:a≠b
 a:ro G F H0 H a A.1
 b:ro G F H0 H b A.2
section
variable{X:Cx}{G:Bg}{F:Fr}{x:Nat}{t a b:Addr}{A A':DD×DD}{σ:St}{ρ ρ':aU}{H0 H H0' H':Hp}
def ro.gk{A:DD}(h:ro G F H0 H a A)(f:vF H H')(c:vF H0 H0')(d:∀b o,H0' b=U o->H0 b=U o\/H b=Z):ro G F H0' H' a A:=by
 let#v[#v[i,e,l,r],n,m]:=h;calc#v[#v[i,f _ _ e,l,bc.mono c _ _ r],?_,m];cases z:H0' a with
 |none=>rfl
 |some o=>
  rcases d a o z with y|y
  .rw[y]at n;ext n
  .rw[y]at e;ext e
theorem Mx.gk(M:Mx G F x t a b A σ ρ H0 H)(e:vF H H')(c:vF H0 H0')(sub':vF H0' H')(d:∀b o,H0' b=U o->H0 b=U o\/H b=Z):Mx G F x t a b A σ ρ H0' H':=
 #v[M.R.gk e c sub' d,M.n,M.sx,c _ _ M.ht,M.ne,M.a.gk e c d,M.b.gk e c d]
def Mx.nr(M:Mx G F x t a b A σ ρ H0 H)(c:b8 G #v[H0,H,[]] σ ρ' H0' H')(s:vF H0 H0'):Mx G F x t a b A σ ρ H0' H':=
 M.gk (λb o e=>c.keep b o e (by simp)) s c.sub c.fr
theorem Mx.tF{f:FE}{Q:VK}(M:Mx G F x t a b A σ ρ H0 H)(e:f ρ=U (d,ρ'))(k:∀v H0' H',vF H0 H0'->Mx G F x t a b A σ ρ H0' H'->df G H0' d v->Q v H'):tF G f σ H Q:=
 #v[#v[H0,H,[]],ρ,H0,d,ρ',M.R.k? M.n,e,λv h c s i r=>k v h c s (M.nr i s) r]
def Mx.item(M:Mx G F x t a b A σ ρ H0 H)(c:i≠x)(r:df G H0 d v):Mx G F x t a b A (σ.set i (U v)) (ρ.set i (.q d)) H0 H:=
 #v[M.R.Xi i r,vl M.n i d,by rw[bX,ah c];show M.sx,M.ht,M.ne,M.a,M.b]
def mu(A:DD)(k:ee)(d:D):Option DD:=if A.1.length<1000/\A.2.length=A.1.length then U (if Ep A.1 k=γ then (A.1,Ng A.1 A.2 k d)else (A.1++[k],A.2++[d]))else Z
def G?(c f e:FE)(ρ:aU)(A:DD×DD):Option (DD×DD):=match e ρ,c ρ,f ρ with
 |some (d,_),U (.int i,_),U (q,_)=>match Dw q with
  |some k=>if i=0 then (mu A.1 k d).map λz=>(z,A.2)else if i=1 then (mu A.2 k d).map λz=>(A.1,z)else Z
  |none=>Z
 |_,_,_=>Z
#print h
def ro.put{A B:DD}(h:ro G F H0 H a A)(e:mu A k d=U B)(r:df G H0 d v):∃H',Ld H a (kV k) v H'/\H' a≠Z/\(∀c,c≠a->H' c=H c)/\ro G F H0 H' a B:=by
 let#v[#v[p,i,l,rs],n,m]:=h;delta mu at e;split at e
 .rename_i o;ext e;calc#v[_,Ld.k i (by rw[fU];show jj (qR _ _) (Bk (fC o.1))),by rw[vB];simp,λc j=>vC j,?_];delta iE;rw[Gu l];by_cases f:Ep A.1 k=γ
  .rw[af f,af f,J4 l];show#v[#v[_,vB,by rw[ku,l,fE],Hh r rs l],n,m]
  .rw[ah f,ah f];calc#v[#v[p++[v],?_,by rw[aG,aG,l];rfl,xn rs (vS r vV)],n,m];rw[vB,mX l];rfl
 .ext e
#print f
def ro.wh{A:DD}(h:ro G F H0 H a A)(e:H' a=H a):ro G F H0 H' a A:=by let#v[#v[d,c,q],r]:=h;show#v[#v[d,by rw[e];show c,q],r]
theorem b8.other(R:b8 G F σ ρ H0 H)(n:p5 ρ=γ)(h0:H0 c=Z)(d:F.B c=Z)(hn:H' c≠Z)(hs:∀b,b≠c->H' b=H b):b8 G F σ ρ H0 H' where
 sub:=λb o e=>by rw[hs b λz=>by rw[z,h0]at e;ext e];show R.sub _ _ e
 g0:=R.g0
 keep:=λb o e m=>by rw[hs b λz=>by rw[z,d]at e;ext e];show R.keep b o e m
 fr:=R.fr
 am:=λb hm=>by
  by_cases z:b=c
  .subst z;cases q:H' b with
   |none=>show au q hn
   |some o=>show#v[o,J]
  .rw[hs b z];show R.am b hm
 len:=R.len
 sl:=λi s e=>by have ok:=R.sl i s e;have z:=km n e;ext s<;>first|show ok|ext z
 ap:=R.ap
#print h
def mx_put{fc T fe:FE}{E:F1}(M:Mx G F x t a b A σ ρ H0 H)(e:G? fc T fe ρ A=U A')(k:∀H0' H',vF H0 H0'->Mx G F x t a b A' σ ρ H0' H'->E.nx σ H'):
  Ou (tOp (Rj G.K) (AC x) (L4.tF G fc)) (L4.tF G T) (L4.tF G fe) E σ H:=by
 delta G? at e;split at e
 .rename_i d _ i _ q _ e1 e2 e3;cases S:Dw q with
  |none=>rw[S]at e;cases e
  |some j=>
   erw[S]at e;calc M.tF e1 λv H1 H1' s1 M1 r1=>#v[.ref t,M1.sx,M1.tF e2 λw P B Y M2 r2=>?_];subst r2;have st:fl G.K B t [.ref a,.ref b]:=.inl (.inl (M2.R.sub _ _ M2.ht));have fin:∀(c:Addr) (C:DD),(c=a\/c=b)->ro G F P B c C->(∀u l h,vF P l->Mx G F x t a b A σ ρ l h->mu C j d=U u->∀m,m c≠Z->(∀z,z≠c->m z=h z)->ro G F l m c u->E.nx σ m)->(∃u,mu C j d=U u)->(∀l h,vF P l->Mx G F x t a b A σ ρ l h->ro G F l h c C)->
     L4.tF G T σ B λy l=>∃a m,V.ref c=.ref a/\Ld l a y v m/\E.nx σ m:=λc C hc dc kk #v[u,o] Q=>
    M2.tF e3 λy l h N f r3=>by let#v[m,p,O,I,q]:=(Q l h N f).put o (df.mono (Y.t N) _ _ r1);rw[BM r3 S];show#v[c,m,J,p,kk u l h N f o m O I q]
   split at e
   .rename_i W;subst W;cases o:mu A.1 j d with
    |none=>rw[o]at e;cases e
    |some C=>rw[o]at e;ext e;calc#v[t,_,0,.ref a,J,J,st,J,fin a A.1 (.inl J) M2.a (λu l h N f r m O I q=>?_) #v[C,o] λl h s f=>f.a];rw[o]at r;ext r;show k l m (s1.t (Y.t N)) #v[f.R.other f.n f.a.2.1 f.a.2.2 O I,f.n,f.sx,f.ht,f.ne,q,f.b.wh (I _ (b0 f.ne))]
   .split at e
    .rename_i W;subst W;cases o:mu A.2 j d with
     |none=>rw[o]at e;cases e
     |some C=>rw[o]at e;ext e;calc#v[t,_,1,.ref b,J,J,st,J,fin b A.2 (.inr J) M2.b (λu l h N f r m O I q=>?_) #v[C,o] λl h s f=>f.b];rw[o]at r;ext r;show k l m (s1.t (Y.t N)) #v[f.R.other f.n f.b.2.1 f.b.2.2 O I,f.n,f.sx,f.ht,f.ne,f.a.wh (I _ f.ne),q]
    .ext e
 .ext e
#print f
def mxL(n:Nat)(st:aU->DD×DD->Option (aU×(DD×DD))):aZ->aU->DD×DD->Option (aU×(DD×DD))
 |[],ρ,A=>U (ρ,A)
 |d::r,ρ,A=>match st (ρ.set n (.q d)) A with
  |some (ρ',A')=>mxL n st r ρ' A'
  |none=>Z
def MxB(G:Bg)(F:Fr)(x:Nat)(t a b:Addr)(d:TS)(st:aU->DD×DD->Option (aU×(DD×DD))):Prop:=∀(E:F1) σ ρ H0 H A ρ' A',Mx G F x t a b A σ ρ H0 H->st ρ A=U (ρ',A')->
 (∀c H0' H',vF H0 H0'->Mx G F x t a b A' c ρ' H0' H'->E.nx c H')->d E σ H
def O?(c e d:FE):aU->DD×DD->Option (aU×(DD×DD)):=λρ A=>(G? c e d ρ A).map λA'=>(ρ,A')
def mxB_put{d h f:FE}:MxB G F x t a b (Ou (tOp (Rj G.K) (AC x) (L4.tF G d)) (L4.tF G h) (L4.tF G f)) (O? d h f):=λE σ ρ H0 H A ρ' A' M e k=>by
 delta O? at e;cases c:G? d h f ρ A with
 |none=>rw[c]at e;cases e
 |some B=>rw[c]at e;ext e;show mx_put M c λH0' H' s i=>k σ H0' H' s i
def kb(n:Nat)(d:FA)(st:aU->DD×DD->Option (aU×(DD×DD))):aU->DD×DD->Option (aU×(DD×DD)):=λρ A=>match d ρ with
 |some (c,_)=>mxL n st c ρ A
 |none=>Z
def mxB_for{C:FA}{Q:TS}{n:Nat}{st:aU->DD×DD->Option (aU×(DD×DD))}(hn:n≠x)(hb:MxB G F x t a b Q st):MxB G F x t a b (U9 (P? G C) (Ah n) Q) (kb n C st):=λE σ ρ H0 H A ρ' A' M e k=>by
 delta kb at e;rcases vW (f:=C) (ρ:=ρ)with z|⟨d,I,z⟩<;>erw[z]at e
 .ext e
 calc#v[#v[H0,H,[]],ρ,H0,d,I,M.R.k? M.n,z,λA_ w W O R1 S=>?_];calc#v[λi m σ H=>m=d.length - i/\i<=d.length/\∃c l h,vF w h/\Mx G F x t a b l σ c h H/\mxL n st (d.drop i) c l=U (ρ',A'),#v[_,J,bM _,ρ,A,w,vF.refl _,M.nr R1 O,e],?_];rintro i m σi p ⟨rfl,hi,c,l,h,u,r,j⟩;by_cases hlt:i<d.length
 .have ed:=jb hlt;rw[ed]at j;delta mxL at j;let#v[go,yl]:=(S i h p u r.R.sub).1 d[i] (aH hlt);calc .inr #v[go,λo H'=>∃c l h,vF w h/\Mx G F x t a b l o c h H'/\mxL n st (d.drop (i+1)) c l=U (ρ',A'),λo H' q=>#v[d.length - (i+1),by omega,J,hlt,q],λv H' y=>?_];let#v[H2,P,t2,t3,t4,t5]:=yl v H' y;cases B:st (c.set n (.q d[i])) l with
  |none=>erw[B]at j;cases j
  |some q=>let#v[N,T]:=q;erw[B]at j;show hb _ _ _ _ _ _ _ _ ((r.gk t3 P t2 t4).item hn t5) B λo H0' H' s' Y=>#v[N,T,H0',u.t (P.t s'),Y,j]
 .have ez:d.drop i=[]:=lZ ();rw[ez]at j;ext j;show .inl #v[(S i h p u r.R.sub).2 (),k _ _ _ (O.t u) r]
def dcT(A:DD×DD):D:=.bx [.J A.1.1 A.1.2,.J A.2.1 A.2.2]
def Mx.frz2(M:Mx G F x t a b A σ ρ H0 H)(f:EC H [a,b] H'):(∀c o,H0 c=U o->c≠a/\c≠b/\H' c=U o)/\∀d,vF H0 d->d t=U (.bx [.ref a,.ref b])->d a=H' a->d b=H' b->df G d (dcT A) (.ref t):=by
 refine#v[λc o e=>?_,λd I r p q=>?_]
 .have h:c≠a:=λz=>by rw[z,M.a.2.1]at e;ext e
  have i:c≠b:=λz=>by rw[z,M.b.2.1]at e;ext e
  show#v[h,i,by rw[f.1 c (by simp[h,i])];show M.R.sub _ _ e]
 .have one:∀(c:Addr) (C:DD),c∈[a,b]->ro G F H0 H c C->d c=H' c->df G d (.J C.1 C.2) (.ref c):=λc C u l m=>by let#v[#v[N,w,y,B],_]:=l;let#v[o,kvs,j,E]:=f.2 c u;rw[w]at j;ext j;show#v[c,o,N,J,by rw[m];show E,y,bc.mono I _ _ B]
  show zT (.inl (.inl r)) (vS (one a A.1 (by simp) M.a p) (vS (one b A.2 (by simp) M.b q) vV))
def Mx.lend(M:Mx G F x t a b A σ ρ H0 H)(l:EC H [a,b] H'):b8 G #v[H',H',[]] σ (ρ.set x (.q (dcT A))) H' H':=by
 let#v[m,p]:=M.frz2 l;have f:=λc o e=>(m c o e).2.2;show {
  sub:=vF.refl _,g0:=vF.refl _
  keep:=λb o e u=>e
  fr:=λb o e=>.inl e
  am:=λa h=>by ext h
  len:=by rw[eE];show M.R.len
  sl:=λi s e=>by
   rw[bX]at e;by_cases h:x=i
   .subst h;rw[af J]at e;split at e
    .ext e;show#v[_,by rw[M.sx];rfl,p H' f (f _ _ M.ht) J J]
    .ext e
   .rw[ah h]at e;have ok:=M.R.sl i s e;have z:=km M.n e;cases s with
    |un=>trivial
    |q d=>let#v[v,h1,h2]:=ok;show#v[v,h1,df.mono f _ _ h2]
    |_=>ext z
  ap:=λi j s t a u e u so=>by rw[km (vl M.n x _) e]at so;cases so }
#print h
def Mx.thaw(M:Mx G F x t a b A σ ρ H0 H)(d:EC H [a,b] H')(f:b8 G #v[H',H',[]] i ρ' j c):Mx G F x t a b A σ ρ H0 (Cj H c [a,b]):=by
 have s:vF H (Cj H c [a,b]):=λb o e=>by
  delta Cj;split
  .show e
  .rename_i h;show f.keep b o ((d.1 b h).t e) (by simp)
 show M.gk s (vF.refl _) (λb o e=>s b o (M.R.sub _ _ e)) λb o e=>.inl e
#print f
def Mx.dk(M:Mx G F x t a b A σ ρ H0 H):∀c∈[a,b],∃kvs,H c=U (.dK kvs):=λc d=>by
 rcases aD.1 d with z|z
 .let#v[f,e,_]:=M.a.1;show#v[_,by rw[z];show e]
 .let#v[f,e,_]:=M.b.1;show#v[_,by rw[aO.1 z];show e]
theorem Mx.good(M:Mx G F x t a b A σ ρ H0 H)(p:EC H [a,b] H'):∃H0',vF H0 H0'/\b8 G F σ (ρ.set x (.q (dcT A))) H0' H':=by
 let#v[r,w]:=M.frz2 p;have q:∀c o,(if c∈[a,b]then H' c else H0 c)=U o->H' c=U o:=λc o e=>by
  split at e
  .show e
  .show(r c o e).2.2
 have l:=λc o e=>by let#v[na,u,y]:=r c o e;change (if c∈[a,b]then H' c else H0 c)=U o;rw[ah (by simp[na,u])];show e
 have nF:∀c,c∈[a,b]->F.B c=Z:=λc f=>by
  rcases aD.1 f with z|z
  .rw[z];show M.a.2.2
  .rw[aO.1 z];show M.b.2.2
 calc#v[_,l,?_];show {
  sub:=q,g0:=M.R.g0.t l
  keep:=λc o e m=>by rw[p.1 c λz=>by rw[nF c z]at e;ext e];show M.R.keep c o e m
  fr:=λc o e=>by
   by_cases f:c∈[a,b]
   .show .inr (nF c f)
   .rw[ah f]at e;show M.R.fr c o e
  am:=λc h=>by
   by_cases f:c∈[a,b]
   .let#v[o,kvs,_,e]:=p.2 c f;show#v[_,e]
   .rw[p.1 c f];show M.R.am c h
  len:=by rw[eE];show M.R.len
  sl:=λi s e=>by
   rw[bX]at e;by_cases h:x=i
   .subst h;rw[af J]at e;split at e
    .ext e;show#v[_,by rw[M.sx];rfl,w _ l (l _ _ M.ht) (af (by simp)) (af (by simp))]
    .ext e
   .rw[ah h]at e;have ok:=M.R.sl i s e;have z:=km M.n e;cases s with
    |un=>trivial
    |q d=>let#v[v,h1,h2]:=ok;show#v[v,h1,df.mono l _ _ h2]
    |_=>ext z
  ap:=λi j s t a k e k so=>by rw[km (vl M.n x _) e]at so;cases so }
def l'.frz2{eo:List Stmt}{t:TS}(h:l' X eo t):l' X eo (λE σ H=>∃as:List Addr,(∀a∈as,∃kvs,H a=U (.dK kvs))/\∀H',EC H as H'->t E σ H'):=λc s σ H D I #v[as,hd,e]=>by let#v[H',F,d]:=I.I' as hd;show h c s σ H' D d (e H' F)
def lentT(t:TT):TT:=λσ H Q=>∃as:List Addr,(∀a∈as,∃kvs,H a=U (.dK kvs))/\∀H',EC H as H'->t σ H' λb c=>(∀a∈as,c a=H' a)/\Q b (Cj H c as)
def R?(x:Nat)(c:FT)(st:aU->DD×DD->Option (aU×(DD×DD))):aU->DD×DD->Option (aU×(DD×DD)):=λρ A=>match c (ρ.set x (.q (dcT A)))with
 |some (γ,_)=>st ρ A
 |some (δ,_)=>U (ρ,A)
 |none=>Z
def mxB_if{i:FT}{p:TS}{st:aU->DD×DD->Option (aU×(DD×DD))}(u:MxB G F x t a b p st):MxB G F x t a b (tIfS (lentT (n3 G i)) p X2) (R? x i st):=λE σ ρ H0 H A ρ' A' M e k=>by
 delta R? at e;calc#v[[a,b],M.dk,λH' d=>?_];rcases vW (f:=i) (ρ:=ρ.set x (.q (dcT A)))with h|⟨y,j,h⟩<;>erw[h]at e
 .ext e
 refine#v[_,_,H',y,j,M.lend d,h,λz r s m=>#v[λc w=>?_,?_]]
 .let#v[o,kvs,_,q]:=d.2 c w;rw[q];show m.keep c _ q (by simp)
 .have l:=M.thaw d m;cases y with
  |true=>show IB (u E _ _ _ _ _ _ _ l e k)
  |false=>ext e;show IA (k _ _ _ (vF.refl _) l)
def η(x:Nat)(h i:aU->DD×DD->Option (aU×(DD×DD)))(fr:FS):FS:=λρ=>if (p5 ρ&&decide (x<ρ.length))=γ then match h (ρ.set x .un) (([],[]),([],[]))with
 |some (c,e)=>match i c e with
  |some (d,f)=>fr (d.set x (.q (dcT f)))
  |none=>Z
 |none=>Z
 else Z
def noOwn_un(n:p5 ρ=γ)(i:Nat):p5 (ρ.set i .un)=γ:=bF.2 λs c=>by
 rcases pj c with h|h
 .show bF.1 n s h
 .subst h;rfl
#print h
def pss_mix{f h i:Stmt}{eo:List Stmt}{y B:TS}{m p:aU->DD×DD->Option (aU×(DD×DD))}{fr:FS}(h1:PS X f (Eb (tTup (Ak GV (Ak GV GQ))) (Ah x)))(h2:PS X h y)(h3:PS X i B)
  (T:∀F t a b,MxB G F x t a b y m) (W:∀F t a b,MxB G F x t a b B p) (hr:l' X eo (ke G fr)):l' X (f::h::i::eo) (ke G (η x m p fr)):=
 l'.c3 (Bi h1 (Bi h2 (Bi h3 (l'.frz2 hr)))) λE σ H hh=>by
  let#v[F,ρ,H0,o,R,e,k,k2]:=hh;delta η at e;split at e
  .rename_i Y;let#v[hn,r]:=p6.1 Y;have r:=bj r;intro a ha b c;have hba:b≠a:=λz=>by rw[z,vB]at c;ext c
   calc#v[by rw[bH];simp,λt ht=>?_];have hta:t≠a:=λz=>by rw[z,vC (b0 hba),vB]at ht;ext ht
   have htb:t≠b:=λz=>by rw[z,vB]at ht;ext ht
   have Q:=((R.gj ha (.dK [])).gj c (.dK [])).GX ht (.bx [.ref a,.ref b]);have d:=by rw[vC hba]at c;show c
   have M:Mx G F x t a b (([],[]),([],[])) (σ.set x (U (.ref t))) (ρ.set x .un) (el H0 t (.bx [.ref a,.ref b])) (el (el (el H a (.dK [])) b (.dK [])) t (.bx [.ref a,.ref b])):={
    R:=Q.set trivial λz=>by ext z
    n:=noOwn_un hn x
    sx:=by rw[bX,af J,af (by rw[R.len];show r)]
    ht:=vB
    ne:=b0 hba
    a:=#v[#v[[],by rw[vC (b0 hta),vC (b0 hba),vB];rfl,J,vV],by rw[vC (b0 hta)];show R.e? ha,R.gr ha]
    b:=#v[#v[[],by rw[vC (b0 htb),vB];rfl,J,vV],by rw[vC (b0 htb)];show R.e? d,R.gr d] }
   have s0:vF H0 (el H0 t (.bx [.ref a,.ref b])):=vK (((R.gj ha (.dK [])).gj c (.dK [])).e? ht) _;cases j:m (ρ.set x .un) (([],[]),([],[]))with
   |none=>erw[j]at e;cases e
   |some q=>
    let#v[u,C]:=q;erw[j]at e;cases l:p u C with
    |none=>erw[l]at e;cases e
    |some q=>let#v[ρ2,A2]:=q;erw[l]at e;calc T F t a b _ _ _ _ _ _ _ _ M j λσ2 H2 N s2 M2=>?_;calc W F t a b _ _ _ _ _ _ _ _ M2 l λσ3 H3 O s3 w=>?_;calc#v[[a,b],w.dk,λH' I=>?_];let#v[P,s4,S]:=w.good I;show#v[F,_,P,o,S,e,k.nr (s0.t (s2.t (s3.t s4))),k2]
  .ext e
end
#print f
structure ZMx(X:Cx)(B:Bz)(x:Nat)(st:Stmt)(f:aU->DD×DD->Option (aU×(DD×DD))):Prop where p:∃t2,PS X st t2/\∀F t a b,MxB B.G F x t a b t2 f
section
variable{X:Cx}{B:Bz}{k x n:Nat}{y z:Str}{e ec ek it c:Expr}{p p1 p2 p3 p4 pos apos:Pos}{fc fk fe:FE}{fi:FA}{ft:FT}{st st2 st3:Stmt}{eo:List Stmt}{f f2 f3:aU->DD×DD->Option (aU×(DD×DD))}{fr:FS}
def zr_mP [C:Cz X B k](h:vj X x y=γ)(a:ZE X B ec fc)(d:ZE X B ek fk)(l:ZE X B e fe)(b:Iz ec)(j:Wz X e (.Subscript (.Subscript (.Name y p) ec p2) ek apos) pos):ZMx X B x (.Assign [.Subscript (.Subscript (.Name y p) ec p2) ek apos] e pos) (O? fc fk fe):=
 #v[_,Ov (Lg C.r) (Os (Vx _ C.K) (L' h) a.p λo i=>congrFun (congrFun b o) i) d.p l.p j,λz z z z=>mxB_put]
def zr_mF [C:Cz X B k](l:jK (model X.prog X.w) X.A X.a9 X.xe)(h:xr X n y=γ)(j:ZI X B (.Name y p) it fi)(i:ZMx X B x st f)(d:iK n x=δ)(m:Fz X it):ZMx X B x (.For (.Name y p) it [st] [] pos) (kb n fi f):=by let#v[r,o,q]:=i.p;show#v[_,MO l C.c j.p (pgI h) (Ea o) λx=>congrFun m x,λF t a b=>mxB_for (λz=>by subst z;rw[rW]at d;ext d) (q F t a b)]
def zr_mI(h:ZT X B c ft)(d:ZMx X B x st f):ZMx X B x (.If c [st] [] pos) (R? x ft f):=by let#v[l,i,j]:=d.p;show#v[_,X4 (PT.lend h.p) (Ea i) Ob,λF t a b=>mxB_if (j F t a b)]
def zr_mS{a:Nat}(h:xr X x y=γ)(l:ZMx X B x st2 f2)(m:ZMx X B x st3 f3)(r:ZB X B eo fr)(t:Wz X (.Tuple [.Dict [] [] p1,.Dict [] [] p2] a p3) (.Name y p4) pos)(o:Sz X (.Dict [] [] p1) [.Dict [] [] p2])(q:Sz X (.Dict [] [] p2) []):ZB X B (.Assign [.Name y p4] (.Tuple [.Dict [] [] p1,.Dict [] [] p2] a p3) pos::st2::st3::eo) (η x f2 f3 fr):=by let#v[E,u,w]:=l.p;let#v[F,A,C]:=m.p;let#v[b,d,i,j]:=GB h;show#v[pss_mix (QZ b d i (Re (xf Cr (xf Cr zO q) o)) t j) u A w C r.p]
end
end L4
namespace K28x
open PySem L2 L3 L4
abbrev D:=L4.D
def top(i:Nat):Stmt:=PySem.Challenge.pw_tellworld_k28_whole_deeds_hang_on_their.main.body.getD i (.Pass ⟨0,0,0,0⟩)
#print "zr 14;Mc 2;CK 2;Ck 14;CL 14" in def ϑ0:Nat->Bool:=λc=>c==ϑ1
def vY:Nat->Bool:=λc=>c==0||c==1||c==2
def CM:Nat->Bool:=λc=>c==3||c==4||c==5||c==6||c==7||c==11||c==12
#print "Ar 1;AN 14;DZ 2;zt 14;Bs 14;As 14" in def ϑ0:Nat->Bool:=λc=>c==ϑ1
#print "wH 0 7;xF 3 11;xk 0 1;Fk 6 12" in def ϑ0:Nat->Bool:=λc=>c==ϑ1||c==ϑ2
#print "Me 13;AO 14;xT 0;zC 14" in def ϑ0:Nat->Bool:=λc=>c==ϑ1
abbrev TZ:Ty->Option Bool:=Jw 16 1
abbrev Pa:Ty->Option Bool:=Jw 16 0
def CN:L4.D:=(D.int 8)
def CO:L4.D:=(D.int 12)
def HK:L4.D:=(D.bx [(D.str "it"),(D.str "other"),(D.str "here"),(D.str "the"),(D.str "a"),(D.str "undo"),(D.str "restart")])
def KB:L4.D:=(D.bx [(D.str "room"),(D.str "plain"),(D.str "fixed"),(D.str "box"),(D.str "lamp"),(D.str "you")])
def AQ:L4.D:=(D.bx [(D.str "room"),(D.str "box"),(D.str "you")])
#print "HL the a;AR box lamp;DI room you" in def ϑ0:L4.D:=(D.bx [(D.str "ϑ1"),(D.str "ϑ2")])
#print "EG 5;DJ 7;BQ 4;CP 3;FV 10;EH 6;BR 4" in def ϑ0:L4.D:=(D.int ϑ1)
def Au:L4.D:=(D.bx [(D.str "the"),(D.str "a"),(D.str "undo"),(D.str "restart")])
def EI:L4.D:=(D.int 20)
abbrev ae:=(cV 0)
abbrev ao:=(cV 1)
abbrev aN:=(cC (.int 1))
def yL:=fx 2 2 (vQ (xZ (c1 (zS (yG "str")) ae) (xZ (yK AD AD aN (c1 w6 ae) ao) (c1 AE (cL (vT 1 [] (iS ae) (gN 0) wG (yK RY RY (cS "a") ae (cS "z"))))))))
#print "Do N K;yO O L" in def ϑ0:=fx 1 1 (vQ (xZ (vt yL (ab ae (a1 (cC Cϑ1)))) (c2 (kv γ) ae (cC Hϑ2))))
def wJ:=fx 2 2 (vQ (xZ (c1 (zS (yG "str")) ae) (c2 (kv δ) ae ao)))
def D1:=fx 1 1 (vQ (xZ (c1 (zS (yG "int")) ae) (J0 (c1 (zS (yG "bool")) ae))))
def xl:=fx 2 2 (vQ (xZ (c1 (zS (yG "list")) ae) (c2 AD (c1 w6 ae) ao)))
def D2:=fx 1 1 (vQ (D' (cT (c1 (zS (yG "list")) ae)) (cL (CA ae)) ae))
abbrev az:=(cV 2)
abbrev aB:=(cV 3)
abbrev aR:=(cV 4)
def EJ:FS:=(a7 (wo 0 0 "name" ao)
 (a7 (wo 0 0 "words" az)
 (a7 (wo 0 0 "kind" aB)
 (wo 0 0 "start" aR))))
def EK:=z5 0 4 5 EJ
def FW:=z5 1 3 4 (a7 (wo 1 0 "name" ao)
 (a7 (wo 1 0 "start" az)
 (wo 1 0 "most" aB)))
abbrev bf:=(cC D.cx)
def CQ:FS:=(a7 (wo 2 0 "name" ao)
 (a7 (wo 2 0 "others" (D' (cT (c2 zf az bf)) (wg vH) az))
 (a7 (wo 2 0 "form" aB)
 (wo 2 0 "joining" aR))))
def yj:=z5 2 4 5 CQ
def Fl:=z5 3 2 3 (a7 (wo 3 0 "term" ao)
 (wo 3 0 "place" az))
#print "xt 6 value;yk 7 kind" in def ϑ0:=z5 ϑ1 2 3 (a7 (wo ϑ1 0 "term" ao)
 (wo ϑ1 0 "ϑ2" az))
#print "D3 4 term;FX 8 word;ym 9 inner" in def ϑ0:=z5 ϑ1 1 2 (wo ϑ1 0 "ϑ2" ao)
#print "yP 11 place;zu 12 value" in def ϑ0:=z5 ϑ1 2 3 (a7 (wo ϑ1 0 "term" ao)
 (wo ϑ1 0 "ϑ2" az))
abbrev aV:=(cV 5)
abbrev iU:=(a1 az)
def FY:FS:=(a7 (wo 13 0 "verb" ao)
 (a7 (wo 13 0 "tests" (vt D2 iU))
 (a7 (wo 13 0 "deeds" (vt D2 (a1 aB)))
 (a7 (wo 13 0 "text" aR)
 (wo 13 0 "refuses" aV)))))
def CS:=z5 13 5 6 FY
def Bt:=fx 1 1 (vQ (c2 (kv δ) (c1 (vU wH "kind") ae) (cC AQ)))
def wU:Nat->Option (List D->Option D):=λc=>match c with
 |0=>U Bt
 |_=>Z
def Bu:=fx 1 1 (vQ (c2 (kv δ) (c1 (vU wH "kind") ae) (cC AR)))
def xG:Nat->Option (List D->Option D):=λc=>match c with
 |0=>U Bu
 |_=>Z
def Av:=fx 1 1 (vQ (c2 (kv γ) (c1 (vU wH "kind") ae) (cC DI)))
def zv:Nat->Option (List D->Option D):=λc=>match c with
 |0=>U Av
 |_=>Z
def vJ:=fx 2 2 (gs (zg (cT ae)) sBad vZ)
def BS:=fx 2 2 (vQ (c1 w6 (cL (vT 1 [1] (iL ae) (gN 0) (cT (c2 (ey δ) (c1 (vU wH "kind") ae) ao)) ae))))
def y6:=y? 1 1 (xB (vT 1 [] (iL ae) (gN 0) (cT (v9 zv "is_plainly" ae vH)) ae))
abbrev aY:=(cC (.int 0))
abbrev dX:=(cC (.bl δ))
def Fm:FS:=(a7 (gs (yT (zg (cT (c1 (zS TZ) ae))) (yT (zg (cT (vt D1 (a1 (c1 (vU xk "start") ae))))) (zg (cT (vt D1 (a1 (c1 (vU Ar "most") ae))))))) (vQ dX) vZ)
 (vQ (xZ (yK AD AD aN (c1 (vU Ar "most") ae) (cC CP)) (yK AD AD aY (c1 (vU xk "start") ae) (c1 (vU Ar "most") ae)))))
def Fn:=fx 1 1 Fm
abbrev dY:=(cS "room")
abbrev gf:=(cS "you")
abbrev bS:=(a1 ae)
def Aw:FS:=(a7 (vM 1 (xZ (c1 (zS (yG "list")) ae) (c1 AE (cL (vT 1 [] (iL ae) (gN 0) wG (c1 (zS Pa) ae))))))
 (a7 (v3 (vt vJ (ab ao (a1 (cS "things are a list of things")))))
 (a7 (v3 (vt vJ (ab (c1 AE (cL (vT 1 [] (iL ae) (gN 0) wG (vt wJ (ab (c1 (vU wH "kind") ae) (a1 (cC KB))))))) (a1 (cS "a thing is of no kind")))))
 (a7 (v3 (vt vJ (ab (yK AD AD aN (vt BS (ab ae (a1 dY))) (cC EG)) (a1 (cS "a world has 1 to 5 rooms")))))
 (a7 (v3 (vt vJ (ab (c2 (ey δ) (vt BS (ab ae (a1 gf))) aN) (a1 (cS "a world has just one you")))))
 (v3 (vt vJ (ab (c2 AD (c1 w6 (cL (v7 y6 bS))) (cC DJ)) (a1 (cS "a world has at most 7 things beside rooms and you"))))))))))
def Ax:=fx 1 2 Aw
def A6:FS:=(a7 (vM 1 (xZ (vt xl (ab ae (a1 (cC BQ)))) (c1 AE (cL (vT 1 [] (iL ae) (gN 0) wG (vt Fn bS))))))
 (v3 (vt vJ (ab ao (a1 (cS "marks are a list of at most 4 marks, each from 0 to at most 3"))))))
def A7:=fx 1 2 A6
def xa:=fx 1 1 (vQ (c2 (ey δ) (c1 J7 ae) (c1 w6 ae)))
def A8:=fx 2 3 (a7 (vM 2 (cL (xJ (cL (vT 1 [] (iL ae) (gN 0) wG (c1 (vU vY "name") ae))) (cL (vT 1 [] (iL ao) (gN 0) wG (c1 (vU vY "name") ae))))))
 (a7 (v3 (vt vJ (ab (c1 AE (cL (vT 1 [] (iL az) (gN 0) wG (vt Do bS)))) (a1 (cS "a name is no name")))))
 (v3 (vt vJ (ab (vt xa iU) (a1 (cS "two things or marks have one name")))))))
def BU:=y? 2 2 (xB (xJ (cL (vT 1 [] (iL ae) (gN 0) (cT (v9 xG "has_mark" ae vH)) (c1 (vU vY "name") ae))) (cL (vT 1 [] (iL ao) (gN 0) wG (c1 (vU vY "name") ae)))))
def D4:FS:=(a7 (gs (cT (c2 (ey δ) (c1 (vU wH "kind") ao) dY)) (vQ (c2 zf (c1 (vU xk "start") ao) bf)) vZ)
 (a7 (gs (cT (c2 (ey δ) (c1 (vU wH "kind") ao) gf)) (vQ (vt wJ (ab (c1 (vU xk "start") ao) (a1 (cL (vT 1 [] (iL ae) (gN 0) (cT (c2 (ey δ) (c1 (vU wH "kind") ae) dY)) (c1 (vU vY "name") ae))))))) vZ)
 (vQ (vt wJ (ab (c1 (vU xk "start") ao) (a1 (cL (vT 1 [] (iL ae) (gN 0) (cT (v9 wU "can_hold" ae vH)) (c1 (vU vY "name") ae)))))))))
def D5:=fx 2 2 D4
abbrev eU:=(cC (.bl γ))
def zQ:=fx 2 4 (a7 (vM 2 (c2 wZ ae ao))
 (a7 (yx (v? (c1 w6 ae)) (gN 3) (a7 (gs (cT (c2 zf az bf)) (vQ eU) vZ)
 (vM 2 (c2 wZ ae az))))
 (vQ (c2 zf az bf))))
abbrev lR:=(ab ao bS)
def Ay:=fx 1 3 (a7 (v3 (vt vJ (ab (c1 AE (cL (vT 1 [0] (iL ae) (gN 0) wG (vt D5 lR)))) (a1 (cS "a start is none")))))
 (a7 (Et 1)
 (a7 (yx (iL ae) (gN 2) (wK 1 (c1 (vU vY "name") az) (c1 (vU xk "start") az)))
 (v3 (vt vJ (ab (c1 AE (cL (vT 1 [1] (iD (vu 1)) (gN 0) wG (vt zQ lR)))) (a1 (cS "a thing starts within itself"))))))))
def CT:=fx 1 1 (a7 (gs (yT (zg (cT (c1 (zS (yG "tuple")) ae))) (zg (cT (yK AD AD aN (c1 w6 ae) (cC BR))))) (vQ dX) vZ)
 (vQ (xZ (c1 AE (cL (vT 1 [] (iT ae) (gN 0) wG (vt yO bS)))) (vt xa bS))))
def Dp:=fx 2 2 (vQ (c1 AE (cL (vT 1 [0] (iT ao) (gN 0) wG (c2 (kv δ) ae ao)))))
def zR:=fx 2 3 (a7 (vM 2 (cL (vT 1 [1] (iL ae) (gN 0) (cT (c2 (ey γ) (c1 (vU vY "name") ae) (c1 (vU vY "name") ao))) ae)))
 (vQ (J0 (c1 Hk (cL (vT 1 [1] (iL az) (gN 0) wG (vt Dp (ab (c1 (vU xT "words") ae) (a1 (c1 (vU xT "words") ao))))))))))
def xH:=fx 1 2 (a7 (v3 (vt vJ (ab (c1 AE (cL (vT 1 [] (iL ae) (gN 0) wG (vt CT (a1 (c1 (vU xT "words") ae)))))) (a1 (cS "a thing has 1 to 4 unlike words, as a tuple")))))
 (a7 (vM 1 (cL (v7 y6 bS)))
 (v3 (vt vJ (ab (c1 AE (cL (vT 1 [1] (iL ao) (gN 0) wG (vt zR lR)))) (a1 (cS "one thing has all words of another")))))))
abbrev cy:=(a1 ao)
abbrev dt:=(ab ae cy)
def BV:FS:=(a7 (vM 2 (xZ (c1 (zS (yG "list")) ae) (xZ (c1 AE (cL (vT 1 [1] (iL ae) (gN 0) wG (vt wJ dt)))) (vt xa bS))))
 (v3 (vt vJ (ab az (a1 (cS "dark is a list of rooms' names, each once"))))))
def BW:=fx 2 3 BV
#print "ck 2;fK 3;oF 4" in abbrev ϑ0:=(cC (.int ϑ1))
def HM:=fx 3 4 (a7 (gs (yT (zg (cT (c1 (zS (yG "tuple")) ae))) (cT (c2 (ey γ) (c1 w6 ae) oF))) (vQ dX) vZ)
 (a7 (vM 3 (cOr (c2 zf (c2 e7 ae fK) bf) (vt wJ (ab (c2 e7 ae fK) iU))))
 (vQ (xZ (vt wJ (ab (c2 e7 ae aY) cy)) (xZ (vt yO (a1 (c2 e7 ae aN))) (xZ (vt wJ (ab (c2 e7 ae ck) cy)) aB))))))
abbrev jX:=(ab ao (a1 az))
def BX:FS:=(a7 (vM 3 (xZ (vt xl (ab ae (a1 (cC FV)))) (c1 AE (cL (vT 1 [1,2] (iL ae) (gN 0) wG (vt HM (ab ae jX)))))))
 (a7 (v3 (vt vJ (ab aB (a1 (cS "ways are a list of at most 10 tuples (room, word, room, mark)")))))
 (v3 (vt vJ (ab (vt xa (a1 (cL (vT 1 [] (iL ae) (gN 0) wG (wg (ab (c2 e7 ae aY) (a1 (c2 e7 ae aN)))))))) (a1 (cS "two ways lead from one room by one word")))))))
def BY:=fx 3 4 BX
def DK:=fx 1 2 (a7 (vM 1 (xZ (vt xl (ab ae (a1 (cC EH)))) (c1 AE (cL (vT 1 [] (iL ae) (gN 0) wG Hl)))))
 (v3 (vt vJ (ab ao (a1 (cS "verbs are a list of at most 6 verbs"))))))
def zL:=fx 2 2 (vQ (J0 (c1 Hk (cL (vT 1 [1] (iL ae) (gN 0) wG (c2 (kv δ) ae ao))))))
abbrev bp:=(cV 6)
abbrev bW:=(cV 7)
def yM:=fx 3 8 (a7 (yd 3 (vO vH))
 (a7 (yx (iL (cL (v7 y6 bS))) (gN 4) (v3 (Hm 3 (c1 (vU xT "words") aR))))
 (a7 (yd 5 (vO vH))
 (a7 (yx (iL az) (gN 6) (v3 (Hm 5 (FH (wg (a1 (c1 (vU vY "name") bp))) (c1 (vU DZ "others") bp)))))
 (a7 (vM 7 (cL (xJ (cL (vT 1 [] (iL az) (gN 0) (cT (c2 Bn (c1 (vU CK "joining") ae) bf)) (c1 (vU CK "joining") ae))) (cL (vT 1 [] (iL ao) (gN 0) wG (c2 e7 ae aN))))))
 (a7 (v3 (vt vJ (ab (vt xa (a1 (vu 5))) (a1 (cS "two verbs' names are alike")))))
 (a7 (v3 (vt vJ (ab (vt zL (ab (cL (xJ (vu 5) bW)) (a1 (vu 3)))) (a1 (cS "a verb's, way's or joining word is a word of a thing")))))
 (a7 (v3 (vt vJ (ab (vt zL (ab (cL (xJ (vu 5) bW)) (a1 (cC Au)))) (a1 (cS "the, a, undo or restart is a word of the world")))))
 (v3 (vt vJ (ab (vt zL (ab bW (a1 (vu 5)))) (a1 (cS "a way's or joining word is a verb's name")))))))))))))
abbrev dZ:=(a1 aR)
def A9:=fx 6 7 (a7 (v3 (vt Ax bS))
 (a7 (v3 (vt A7 cy))
 (a7 (v3 (vt A8 dt))
 (a7 (v3 (vt Ay bS))
 (a7 (v3 (vt xH bS))
 (a7 (vM 6 (cL (vT 1 [] (iL ae) (gN 0) (cT (c2 (ey δ) (c1 (vU wH "kind") ae) dY)) (c1 (vU vY "name") ae))))
 (a7 (v3 (vt BW (ab az (a1 bp))))
 (a7 (v3 (vt BY (ab aB (ab bp (a1 (cL (v7 BU dt)))))))
 (a7 (v3 (vt DK dZ))
 (v3 (vt yM (ab ae (ab aB (a1 (cL (xJ aR aV))))))))))))))))
def Ba:=fx 4 4 (vQ (wm 13 (λa=>CS (a++[])) (ab ae (ab ao (ab az (ab aB (a1 dX)))))))
def wI:=fx 3 3 (vQ (wm 13 (λa=>CS (a++[])) (ab ae (ab ao (ab (cL (vO vH)) (ab az (a1 eU)))))))
#print "cn it;iP here;jT fixed;jV take" in abbrev ϑ0:=(cS "ϑ1")
def EL:=y? 1 1 (xB (vO (ab (vt wI (ab jV (ab (cL (vO (a1 (wm 7 (λa=>yk (a++[])) (ab cn (a1 jT)))))) (a1 (cS "That stays."))))) (ab (vt wI (ab jV (ab (cL (vO (a1 (wm 3 (λa=>Fl (a++[])) (ab cn bS))))) (a1 (cS "You have that."))))) (ab (vt Ba (ab jV (ab (cL (vO vH)) (ab (cL (vO (a1 (wm 11 (λa=>yP (a++[])) (ab cn bS))))) (a1 (cS "Taken.")))))) (ab (vt Ba (ab (cS "drop") (ab (cL (vO (a1 (wm 4 (λa=>D3 (a++[])) (a1 cn))))) (ab (cL (vO (a1 (wm 11 (λa=>yP (a++[])) (ab cn (a1 iP)))))) (a1 (cS "Dropped.")))))) (a1 (vt wI (ab (cS "drop") (ab (cL (vO vH)) (a1 (cS "You lack that."))))))))))))
abbrev eS:=(cS "box")
abbrev eV:=(cS "other")
abbrev hG:=(cS "put")
abbrev iV:=(a1 eS)
def FZ:=y? 0 0 (xB (vO (ab (vt wI (ab hG (ab (cL (vO (a1 (wm 9 (λa=>ym (a++[])) (a1 (wm 4 (λa=>D3 (a++[])) (a1 cn))))))) (a1 (cS "You lack that."))))) (ab (vt wI (ab hG (ab (cL (vO (a1 (wm 9 (λa=>ym (a++[])) (a1 (wm 7 (λa=>yk (a++[])) (ab eV iV))))))) (a1 (cS "It holds nothing."))))) (ab (vt wI (ab hG (ab (cL (vO (a1 (wm 6 (λa=>xt (a++[])) (ab eV (a1 aY)))))) (a1 (cS "It is shut."))))) (a1 (vt Ba (ab hG (ab (cL (vO vH)) (ab (cL (vO (a1 (wm 11 (λa=>yP (a++[])) (ab cn (a1 eV)))))) (a1 (cS "Done."))))))))))))
abbrev lK:=(ab cn (a1 aN))
abbrev lL:=(ab cn (a1 aY))
def F0:=y? 0 0 (xB (vO (ab (vt wI (ab (cS "open") (ab (cL (vO (a1 (wm 9 (λa=>ym (a++[])) (a1 (wm 7 (λa=>yk (a++[])) (ab cn iV))))))) (a1 (cS "It has no lid."))))) (ab (vt wI (ab (cS "open") (ab (cL (vO (a1 (wm 6 (λa=>xt (a++[])) lK)))) (a1 (cS "It is open."))))) (ab (vt Ba (ab (cS "open") (ab (cL (vO vH)) (ab (cL (vO (a1 (wm 12 (λa=>zu (a++[])) lK)))) (a1 (cS "Opened.")))))) (ab (vt wI (ab (cS "shut") (ab (cL (vO (a1 (wm 9 (λa=>ym (a++[])) (a1 (wm 7 (λa=>yk (a++[])) (ab cn iV))))))) (a1 (cS "It has no lid."))))) (ab (vt wI (ab (cS "shut") (ab (cL (vO (a1 (wm 6 (λa=>xt (a++[])) lL)))) (a1 (cS "It is shut."))))) (a1 (vt Ba (ab (cS "shut") (ab (cL (vO vH)) (ab (cL (vO (a1 (wm 12 (λa=>zu (a++[])) lL)))) (a1 (cS "Shut."))))))))))))))
abbrev lD:=(cS "lamp")
abbrev jY:=(a1 lD)
def DL:=y? 0 0 (xB (vO (ab (vt wI (ab (cS "light") (ab (cL (vO (a1 (wm 9 (λa=>ym (a++[])) (a1 (wm 7 (λa=>yk (a++[])) (ab cn jY))))))) (a1 (cS "It burns not."))))) (ab (vt wI (ab (cS "light") (ab (cL (vO (a1 (wm 6 (λa=>xt (a++[])) lK)))) (a1 (cS "It is lit."))))) (ab (vt Ba (ab (cS "light") (ab (cL (vO vH)) (ab (cL (vO (a1 (wm 12 (λa=>zu (a++[])) lK)))) (a1 (cS "Lit.")))))) (ab (vt wI (ab (cS "douse") (ab (cL (vO (a1 (wm 9 (λa=>ym (a++[])) (a1 (wm 7 (λa=>yk (a++[])) (ab cn jY))))))) (a1 (cS "It burns not."))))) (ab (vt wI (ab (cS "douse") (ab (cL (vO (a1 (wm 6 (λa=>xt (a++[])) lL)))) (a1 (cS "It is out."))))) (a1 (vt Ba (ab (cS "douse") (ab (cL (vO vH)) (ab (cL (vO (a1 (wm 12 (λa=>zu (a++[])) lL)))) (a1 (cS "Doused."))))))))))))))
def F4:=y? 2 3 (a7 (yd 2 (vO (ab (wm 3 (λa=>Fl (a++[])) (ab ae (a1 (c2 e7 ao aY)))) (a1 (wm 8 (λa=>FX (a++[])) (a1 (c2 e7 ao aN)))))))
 (a7 (gs (cT (c2 Bn (c2 e7 ao fK) bf)) (v3 (zP 2 (wm 9 (λa=>ym (a++[])) (a1 (wm 6 (λa=>xt (a++[])) (ab (c2 e7 ao fK) (a1 aY))))))) vZ)
 (xB (Qf 2))))
def HN:=y? 2 3 (a7 (vM 2 (cL (vT 1 [0] (iL ao) (gN 0) wG (vt Ba (ab (cS "go") (ab (cL (v7 F4 lR)) (ab (cL (vO (a1 (wm 11 (λa=>yP (a++[])) (ab ao (a1 (c2 e7 ae ck))))))) (a1 (cS "You go.")))))))))
 (xB (xJ az (cL (vO (a1 (vt wI (ab (cS "go") (ab (cL (vO vH)) (a1 (cS "No way there.")))))))))))
def EM:=y? 0 0 (xB (vO (a1 (vt Ba (ab (cS "wait") (ab (cL (vO vH)) (ab (cL (vO vH)) (a1 (cS "Time goes by.")))))))))
def yn:=y? 2 2 (xB (xJ (cL (xJ (cL (xJ (cL (xJ (cL (xJ (cL (v7 EL bS)) (cL (v7 FZ vH)))) (cL (v7 F0 vH)))) (cL (v7 DL vH)))) (cL (v7 HN dt)))) (cL (v7 EM vH))))
abbrev jS:=(cS "two")
def y7:=y? 0 0 (xB (xJ (cL (vT 1 [] (iT (wg (ab jV (ab (cS "drop") (ab (cS "open") (ab (cS "shut") (ab (cS "light") (a1 (cS "douse"))))))))) (gN 0) wG (wm 2 (λa=>yj (a++[D.cx,(D.str "one"),D.cx])) bS))) (cL (vO (ab (wm 2 (λa=>yj (a++[])) (ab hG (ab (wg vH) (ab jS (a1 (cS "in")))))) (ab (wm 2 (λa=>yj (a++[D.cx])) (ab (cS "go") (ab (wg vH) (a1 (cS "way"))))) (a1 (wm 2 (λa=>yj (a++[D.cx])) (ab (cS "wait") (ab (wg vH) (a1 (cS "alone"))))))))))))
def Fo:=fx 1 3 (a7 (Et 1)
 (a7 (yx (iL ae) (gN 2) (wK 1 (c1 (vU vY "name") az) az))
 (vQ (vu 1))))
def xP:=fx 2 5 (a7 (Et 2)
 (a7 (yx (iL ae) (gN 3) (gs (cT (v9 xG "has_mark" aB vH)) (wK 2 (c1 (vU vY "name") aB) aN) vZ))
 (a7 (yx (iL ao) (gN 4) (wK 2 (c1 (vU vY "name") aR) (c1 (vU Ar "most") aR)))
 (vQ (vu 2)))))
def xQ:=fx 1 4 (a7 (Et 1)
 (a7 (yx (iL ae) (gN 2) (yx (iT (FH (wg (a1 (c1 (vU vY "name") az))) (c1 (vU DZ "others") az))) (gN 3) (wK 1 aB az)))
 (vQ (vu 1))))
def JC:FS:=(Nv (vU Me "verb"))
def Bv:=fx 1 3 JC
def xR:=fx 2 2 (xB (vT 1 [1] (iL (c1 (vU Ck "kept_things") ae)) (gN 0) (cT (c2 (ey δ) (c1 (vU wH "kind") ae) ao)) (c1 (vU vY "name") ae)))
def wB:Nat->Option (List D->Option D):=λc=>match c with
 |14=>U xR
 |_=>Z
def AS:=fx 1 1 (xB (xJ (c1 (vU CL "kept_verbs") ae) (c1 (vU Bs "shared_verbs") ae)))
def yH:Nat->Option (List D->Option D):=λc=>match c with
 |14=>U AS
 |_=>Z
def zY:FS:=(a7 (v3 (vt A9 (ab ao (ab az (ab aB (ab aR (ab aV (a1 (cL (v7 y7 vH))))))))))
 (a7 (wo 14 0 "kept_things" (cL (CA ao)))
 (a7 (wo 14 0 "kept_marks" (cL (CA az)))
 (a7 (wo 14 0 "kept_dark" (cL (CA aB)))
 (a7 (wo 14 0 "kept_ways" (cL (CA aR)))
 (a7 (wo 14 0 "kept_verbs" (cL (CA aV)))
 (a7 (wo 14 0 "shared_verbs" (cL (v7 y7 vH)))
 (a7 (wo 14 0 "your_name" (Bp 16 (c2 e7 (v9 wB "of_kind" ae (a1 gf)) aY)))
 (a7 (wo 14 0 "things_by_name" (vt Fo cy))
 (a7 (wo 14 0 "mosts_by_name" (vt xP jX))
 (a7 (wo 14 0 "verbs_by_word" (Bp 16 (vt xQ (a1 (v9 yH "all_verbs" ae vH)))))
 (a7 (vM 7 (Bp 16 (xZ (vt xl (ab bp (a1 (cC EI)))) (c1 AE (cL (vT 1 [0] (iL bp) (gN 0) wG Hl))))))
 (a7 (v3 (vt vJ (ab bW (a1 (cS "rules are a list of at most 20 rules, each as it may be")))))
 (a7 (wo 14 0 "kept_rules" (cL (CA bp)))
 (a7 (wo 14 0 "shared_rules" (Bp 16 (cL (v7 yn (ab (c1 (vU zC "your_name") ae) dZ)))))
 (a7 (wo 14 0 "copied_rules" (cL (vT 1 [] (iL bp) (gN 0) wG Hl)))
 (wo 14 0 "rules_by_verb" (Bp 16 (vt Bv (a1 (cL (xJ (c1 (vU zr "copied_rules") ae) (c1 (vU zt "shared_rules") ae)))))))))))))))))))))))
def zZ:=z5 14 6 8 zY
def Mg:=fx 1 1 (vQ (c1 (vU zC "your_name") ae))
def Bw:Nat->Option (List D->Option D):=λc=>match c with
 |14=>U Mg
 |_=>Z
def zw:=fx 2 2 (vQ (c2 FU (c1 (vU As "things_by_name") ae) ao))
def y8:Nat->Option (List D->Option D):=λc=>match c with
 |14=>U zw
 |_=>Z
def yI:=fx 2 2 (vQ (c2 Es (c1 (vU AN "mosts_by_name") ae) ao))
def xU:Nat->Option (List D->Option D):=λc=>match c with
 |14=>U yI
 |_=>Z
def KC:FS:=(a7 (gs (cT (c2 (ey δ) ae cn)) (vQ ao) vZ)
 (a7 (gs (cT (c2 (ey δ) ae eV)) (vQ az) vZ)
 (vQ (D' (cT (c2 (ey δ) ae iP)) bf ae))))
def yJ:=fx 3 3 KC
abbrev jR:=(cS "at")
abbrev tN:=(a1 (wg (ab jR cy)))
def zx:=fx 2 3 (a7 (vM 2 (v9 y8 "thing_of" ae cy))
 (vQ (D' (yT (cT (c2 zf az bf)) (cT (c2 (ey δ) (c1 (vU wH "kind") az) dY))) (cL (vO vH)) (cL (vO tN)))))
abbrev jZ:=(cS "mark")
def yz:=fx 2 2 (vQ (D' (cT (c2 zf (v9 xU "most_of" ae cy) bf)) (cL (vO vH)) (cL (vO (a1 (wg (ab jZ cy)))))))
def AU:=fx 1 1 (xB (vT 1 [] (iL (v9 wB "of_kind" ae iV)) (gN 0) wG (wg (ab jR bS))))
def NO:=fx 1 1 (vQ (CB (cL (zq ae))))
def HP:FS:=(a7 (vM 3 (v9 y8 "thing_of" ae iU))
 (vQ (xZ (c2 (ey γ) (vt zx dt) (cL (vO vH))) (xZ (c2 Bn aB bf) (xZ (v9 wU "can_hold" aB vH) (c2 (ey γ) az ao))))))
def zM:=fx 3 4 HP
def xM:=fx 3 3 (vQ (xZ (c2 (ey γ) (vt yz dt) (cL (vO vH))) (c2 AD az (v9 xU "most_of" ae cy))))
abbrev oY:=(ab az (a1 aB))
abbrev oK:=(ab (c1 (vU CM "term") ae) oY)
def BZ:FS:=(a7 (vM 4 (cL (vO vH)))
 (a7 (gs (cT (c2 (kv δ) (vt yJ oK) (v9 wB "of_kind" ao iV))) (vM 4 (vt AU cy)) vZ)
 (a7 (gs (cT (c2 (ey δ) (c1 (vU xF "place") ae) iP)) (vM 4 (cL (xJ aR (vt zx (ab ao (a1 (v9 Bw "you" ao vH))))))) vZ)
 (vQ (vt NO dZ)))))
def B2:=fx 4 5 BZ
def F5:=fx 4 4 (vQ (wg vH))
abbrev tD:=(ab ao (ab aR (a1 aV)))
def Bb:FS:=(a7 (vM 4 (vt yJ oK))
 (a7 (vM 5 (D' (cT (c2 (ey δ) (c1 (vU xF "place") ae) iP)) (c2 e7 (v9 wB "of_kind" ao (a1 dY)) aY) (vt yJ (ab (c1 (vU xF "place") ae) oY))))
 (vQ (D' (cT (vt zM tD)) (wg (ab jR dZ)) bf))))
def zD:=fx 4 6 Bb
abbrev sX:=(a1 (c1 (vU Fk "value") ae))
abbrev tL:=(ab ao (ab aR sX))
def B3:FS:=(a7 (vM 4 (vt yJ oK))
 (vQ (D' (cT (vt xM tL)) (wg (ab jZ dZ)) bf)))
def B4:=fx 4 5 B3
def B5:=fx 2 3 (a7 (yx (iT ae) (gN 2) (gs (cT (c2 (ey δ) (c2 e7 az aY) ao)) (vQ (c2 e7 az aN)) vZ))
 (vQ bf))
def y9:=fx 2 2 (vQ (vt B5 (ab ae tN)))
def za:=y? 3 5 (a7 (yd 3 (vO vH))
 (a7 (vM 4 (vt y9 jX))
 (a7 (O' (cT (c2 Bn aR bf)) (a7 (v3 (zP 3 aR))
 (vM 4 (vt y9 (ab ao dZ)))) 50)
 (xB (Qf 3)))))
def Fp:=fx 2 2 (vQ (vt y9 (ab ao (a1 (v9 Bw "you" ae vH)))))
def AV:=fx 3 3 (vQ (CB (cL (vT 1 [1,2] (iT ae) (gN 0) wG (D' (cT (c2 (ey δ) (c2 e7 ae aY) ao)) (wg jX) ae)))))
def Gf:=fx 2 2 (vQ (c2 Es (c1 (vU AO "verbs_by_word") ae) ao))
def Bc:Nat->Option (List D->Option D):=λc=>match c with
 |14=>U Gf
 |_=>Z
def F6:=fx 2 3 (a7 (vM 2 (D' (cT (c2 zf ao bf)) bf (v9 Bc "verb_of" ae (a1 (c2 e7 ao aY)))))
 (vQ (xZ (c2 Bn az bf) (c2 (ey δ) (c1 (vU Mc "form") az) (cS "way")))))
abbrev iW:=(a1 bf)
abbrev oZ:=(ab bf iW)
def yp:=fx 2 2 (a7 (gs (yT (cT (c2 zf ao bf)) (cT (vt F6 dt))) (vQ (wg oZ)) vZ)
 (vQ (wg (ab (c2 e7 ao aN) (a1 (c2 e7 ao ck))))))
def xC:=fx 4 4 (a7 (gs (cT (c2 (ey δ) aB iP)) (vQ (vt Fp dt)) vZ)
 (a7 (gs (cT (c2 (ey δ) aB cn)) (vQ (c2 e7 (vt yp (ab ae iU)) aY)) vZ)
 (a7 (gs (cT (c2 (ey δ) aB eV)) (vQ (c2 e7 (vt yp (ab ae iU)) aN)) vZ)
 (vQ aB))))
abbrev sW:=(ab ao (ab az (ab aB (a1 (c1 (vU CM "term") ae)))))
def AW:FS:=(a7 (vM 4 (vt xC sW))
 (a7 (vM 5 (vt xC (ab ao (ab az (ab aB (a1 (c1 (vU xF "place") ae)))))))
 (a7 (gs (yT (zg (cT (vt zM tD))) (cT (c2 (kv δ) aR (cL (v7 za (ab ao (ab az (a1 aV)))))))) (vQ bf) vZ)
 (vQ (vt AV (ab az (ab (wg (ab jR dZ)) (a1 aV))))))))
def CU:=fx 4 6 AW
def B6:FS:=(a7 (vM 4 (vt xC sW))
 (a7 (gs (zg (cT (vt xM tL))) (vQ bf) vZ)
 (vQ (vt AV (ab az (ab (wg (ab jZ dZ)) sX))))))
def B7:=fx 4 5 B6
#print "yQ B2 F5;yA zD B4;xc CU B7" in def ϑ0:Nat->Option (List D->Option D):=λc=>match c with
 |11=>U ϑ1
 |12=>U ϑ2
 |_=>Z
def zb:=fx 2 2 (a7 (gs (cT (c2 IF ao (c1 w6 ae))) (vQ (c2 e7 ae ao)) vZ)
 (vQ aY))
#print "f9 2147483647;dD 6;iO 10;lF 48271" in abbrev ϑ0:=(cC (.int ϑ1))
def zc:=y? 2 7 (a7 (yd 2 (vO vH))
 (a7 (vM 3 aY)
 (a7 (gs (cT (c2 Z5 ae (c2 FC iO (cC (.int 18))))) (vM 3 (c2 OF ae (c2 FC iO (cC (.int 18))))) vZ)
 (a7 (O' (DG (Ao (cT (c2 Lx aB aY)) (cT (c2 IF (c1 w6 az) ao)))) (a7 (v3 (zP 2 (c2 yg aB (c2 FC iO dD))))
 (vM 3 (c2 DF aB (c2 FC iO dD)))) 200)
 (a7 (vM 4 (c2 yg (c2 zK (c2 wq (c2 yg ae f9) aN) lF) f9))
 (a7 (yx (v? ao) (gN 5) (a7 (vM 4 (c2 yg (c2 zK (c2 wq (c2 wq aR (c2 zK (cC (.int 7919)) aV)) aN) lF) f9))
 (a7 (vM 6 (c2 yg (c2 zK aR (c2 wq (c2 DF aR (cC (.int 1009))) (cC (.int 69621)))) f9))
 (v3 (zP 2 (c2 yg (c2 zK bp (c2 wq (c2 DF bp (cC (.int 2003))) (cC (.int 40692)))) (cC (.int 2147483399))))))))
 (xB (CD (vu 2) oNo (A? ao)))))))))
def F7:FS:=(a7 (gs (DG (cT (c2 (ey δ) ae (cL (vO vH))))) (vQ aY) vZ)
 (vQ (c2 yg (OC 0) ao)))
def vq:=Z? 1 2 F7
abbrev ly:=(cC (.int 8))
abbrev lG:=(cC (.int 25))
def EN:FS:=(a7 (vM 1 (v8 vq 0 (a1 lG)))
 (a7 (vM 2 (cS "bcdefghijklmnopqrstuvwxyz"))
 (xB (vT 1 [2,0,1] (v? (cC (.int 17))) (gN 0) wG (c2 LG (c2 e7 ao (c2 yg (c2 wq aB (c2 zK (cC (.int 7)) ae)) lG)) (c2 wq aN (v8 vq 2 (a1 ly))))))))
def B8:=Z? 0 3 EN
abbrev fL:=(cC (.int 5))
abbrev jU:=(cS "plain")
abbrev oT:=(a1 (Em (c1 w6 aR)))
def Bd:FS:=(a7 (yd 3 (vO vH))
 (a7 (yd 4 (xJ ao (cL (vO (a1 (c2 e7 ae fL))))))
 (a7 (yx (iL (cL (CD ae (A? dD) (A? (c2 wq dD (v8 vq 2 (a1 ly))))))) (gN 5) (a7 (vM 6 (c2 e7 (cL (vO (ab jU (ab eS (ab lD (ab jT (ab eS (ab lD (ab eS (a1 jU)))))))))) (v8 vq 2 (a1 ly))))
 (a7 (v3 (zP 3 (wg (ab aV (ab bp (a1 (E6 4 (v8 vq 2 oT))))))))
 (gs (cT (c2 (ey δ) bp eS)) (v3 (zP 4 aV)) vZ))))
 (xB (Qf 3)))))
def xV:=vx 2 7 Bd
abbrev f6:=(Ap (gN 0) (Ap (gN 1) (Ap (gN 2) Lo)))
abbrev dE:=(cV 9)
abbrev hJ:=(cV 10)
abbrev lM:=(a1 (c1 w6 aB))
def CV:=fx 1 14 (a7 (yd 1 (v7 zc (ab ae (a1 (cC (.int 110))))))
 (a7 (vM 2 (v8 B8 1 vH))
 (a7 (vM 3 (cL (CD az oNo (A? (c2 wq aN (v8 vq 1 (a1 fL)))))))
 (a7 (vM 4 (cL (xJ (cL (vT 1 [] (iL aB) (gN 0) wG (wg (ab ae (ab dY iW))))) (cL (vO (a1 (wg (ab (c2 e7 az fL) (ab gf (a1 (c2 e7 aB (v8 vq 1 lM))))))))))))
 (a7 (vM 5 (cL (vO vH)))
 (a7 (yx (iL (cL (xJ aR (xE xV 1 oY)))) (gN 6) (a7 (vM 7 (v8 vq 1 (a1 (c2 wq (c1 w6 aV) aN))))
 (vM 5 (cL (xJ (cL (xJ (cL (CD aV oNo (A? bW))) (cL (vO (a1 bp))))) (cL (CD aV (A? bW) oNo)))))))
 (a7 (yd 8 (vO vH))
 (a7 (yx (iL (cL (CD az (A? (cC (.int 13))) (A? (c2 wq (cC (.int 13)) (v8 vq 1 (a1 fL))))))) (gN 9) (a7 (vM 10 (c2 wq aN (v8 vq 1 (a1 fK))))
 (v3 (zP 8 (wg (ab dE (ab (v8 vq 1 (a1 (c2 wq hJ aN))) (a1 hJ))))))))
 (a7 (vM 11 (cL (vT 1 [1] (iL aB) (gN 0) (cT (c2 (ey δ) (v8 vq 1 (a1 ck)) aN)) ae)))
 (a7 (vM 12 (cL (vO (ab (wg vH) (ab (wg (a1 (cS "red"))) (a1 (wg (ab (cS "old") (a1 (cS "red"))))))))))
 (a7 (vM 13 (cL (vT 3 [12,1] (iL aV) (gT f6 3) wG (FH (wg bS) (c2 e7 aB (v8 vq 4 (a1 fK)))))))
 (vQ (Ci [("rows", aV),("marks", (vu 8)),("dark", (cV 11)),("words", (cV 13)),("you", (c2 e7 az fL))])))))))))))))
def CW:=y? 1 2 (a7 (vM 1 (cL (vT 3 [] (iL (c2 wZ ae (cS "rows"))) (gT f6 3) (cT (c2 (ey δ) ao dY)) ae)))
 (xB (vO (ab (wg (ab (c2 e7 ao aY) (ab (cS "north") (ab (c2 e7 ao (c2 OF (c1 w6 ao) aN)) iW)))) (a1 (wg (ab (c2 e7 ao aY) (ab (cS "up") (ab (c2 e7 ao aY) iW)))))))))
abbrev f7:=(Ap (gN 0) (Ap (gN 1) Lo))
abbrev sY:=(ab (c2 e7 ae aN) (a1 (c2 e7 ae ck)))
def B9:=fx 1 3 (a7 (vM 1 (cL (vT 2 [] (iZ (ab (c2 wZ ae (cS "rows")) (a1 (c2 wZ ae (cS "words"))))) (gT f7 2) wG (wm 0 (λa=>EK (a++[])) (ab (c2 e7 ae aY) (ab ao sY))))))
 (a7 (vM 2 (cL (vT 3 [] (iL (c2 wZ ae (cS "marks"))) (gT f6 3) wG (wm 1 (λa=>FW (a++[])) (ab ae jX)))))
 (vQ (wm 14 (λa=>zZ (a++[])) (ab ao (ab az (ab (cL (CA (c2 wZ ae (cS "dark")))) (ab (cL (v7 CW bS)) (ab (cL (vO vH)) (a1 (cL (vO vH))))))))))))
def wF:=y? 2 2 (xB (vT 3 [1] (iL (c2 wZ ae (cS "rows"))) (gT f6 3) (cT (c2 (kv δ) ao aB)) ae))
abbrev jQ:=(Ap (gN 3) (Ap (gN 4) Lo))
abbrev oU:=(Ap (gN 2) jQ)
def Ca:FS:=(a7 (Et 1)
 (a7 (yx (iL (cL (v7 wF (ab ae (a1 (cL (vO (ab eS jY)))))))) (gN 2) (wK 1 az aN))
 (a7 (yx (iL (c2 wZ ae (cS "marks"))) (gT oU 3) (wK 1 az aR))
 (vQ (vu 1)))))
def xN:=fx 1 5 Ca
abbrev jW:=(ab ae (a1 (cL (vO (a1 eS)))))
abbrev tw:=(ab ae (a1 (cL (vO (a1 dY)))))
def Be:FS:=(a7 (Et 2)
 (a7 (yd 3 (v7 wF (ab ae (a1 (cL (vO (ab dY (a1 gf))))))))
 (a7 (yd 4 (v7 wF jW))
 (a7 (O' (DG (cT (c2 (ey γ) aR (cL (vO vH))))) (a7 (vM 5 (DW 4 (v8 vq 1 oT)))
 (a7 (wK 2 aV (E6 3 (v8 vq 1 (a1 (Em (c1 w6 aB))))))
 (v3 (zP 3 aV)))) 50)
 (a7 (yx (iL (cL (v7 wF (ab ae (a1 (cL (vO (ab jU (ab jT jY))))))))) (gN 6) (wK 2 bp (E6 3 (v8 vq 1 (a1 (Em (c1 w6 aB)))))))
 (a7 (vM 7 (cL (v7 wF tw)))
 (a7 (wK 2 (c2 wZ ae gf) (c2 e7 bW (v8 vq 1 (a1 (c1 w6 bW)))))
 (vQ (vu 2)))))))))
def xu:=vx 1 8 Be
def Cb:FS:=(a7 (Et 2)
 (a7 (yx (iIt (vt xN bS)) (gT jQ 2) (wK 2 aB (v8 vq 1 (a1 (c2 wq aR aN)))))
 (vQ (vu 2))))
def yB:=vx 1 5 Cb
def yC:=fx 2 3 (a7 (vM 2 (cL (vT 2 [] (iIt ae) (gT f7 2) wG (wg (ab (wg (ab jR bS)) cy)))))
 (vQ (CB (cL (Hy (cL (xJ az (cL (vT 2 [] (iIt ao) (gT f7 2) wG (wg (ab (wg (ab jZ bS)) cy)))))))))))
def zd:FS:=(a7 (vM 2 (cL (v7 wF (ab ae (a1 (cL (vO (ab jU (ab jT (ab eS jY))))))))))
 (a7 (vM 3 (v8 vq 1 (a1 ly)))
 (a7 (gs (yT (cT (c2 (ey δ) az (cL (vO vH)))) (cT (c2 Lx aB fL))) (vQ (c2 e7 (cL (vO (ab (wg (ab (cS "go") (ab (c2 e7 (cL (vO (ab (cS "north") (a1 (cS "up"))))) (v8 vq 1 (a1 ck))) iW))) (a1 (wg (ab (cS "wait") oZ)))))) (c2 yg aB ck))) vZ)
 (a7 (vM 4 (c2 e7 az (v8 vq 1 (a1 (c1 w6 az)))))
 (a7 (gs (cT (c2 IF aB ck)) (vQ (wg (ab jV (ab aR iW)))) vZ)
 (vQ (wg (ab hG (ab aR (a1 (c2 e7 az (v8 vq 1 (a1 (c1 w6 az))))))))))))))
def yq:=vx 1 5 zd
def CY:=fx 1 1 (vQ (c2 wZ (Ci [("go", (cS "way")),("wait", (cS "alone")),("take", (cS "one")),("put", jS)]) (c2 e7 ae aY)))
abbrev lC:=(ab (cS "one") (a1 (cS "two")))
def Cc:FS:=(a7 (vM 3 (cL (v7 wF (ab ae (a1 (cL (vO (ab dY (ab eS (a1 gf))))))))))
 (a7 (yd 4 (vO (ab (c2 e7 aB (v8 vq 2 lM)) (ab (c2 e7 aB (v8 vq 2 lM)) (a1 iP)))))
 (a7 (gs (cT (c2 (kv δ) ao (cL (vO lC)))) (v3 (zP 4 cn)) vZ)
 (a7 (gs (cT (c2 (ey δ) ao jS)) (yd 4 (xJ (vu 4) (cL (vO (ab eV (a1 eV)))))) vZ)
 (vQ (E6 4 (v8 vq 2 oT)))))))
def z7:=vx 2 5 Cc
abbrev iX:=(a1 oF)
def zF:FS:=(a7 (vM 3 (vt xN bS))
 (a7 (vM 4 (cL (Fi aB)))
 (a7 (gs (Ao (cT (c2 (kv δ) ao (cL (vO lC)))) (yT (cT (c2 (ey δ) aR (cL (vO vH)))) (cT (c2 (ey δ) (v8 vq 2 (a1 ck)) aY)))) (vQ (wg (ab (c2 e7 (cL (vO (ab cn (a1 (c2 e7 (cL (vO (ab cn (a1 eV)))) (c1 LA (c2 (ey δ) ao jS))))))) (v8 vq 2 (a1 ck))) (a1 (v8 vq 2 iX))))) vZ)
 (a7 (vM 5 (c2 e7 aR (v8 vq 2 (a1 (c1 w6 aR)))))
 (vQ (wg (ab aV (a1 (v8 vq 2 (a1 (c2 wq (c2 wZ aB aV) aN)))))))))))
def zG:=vx 2 6 zF
def z8:FS:=(a7 (vM 3 (cL (v7 wF (ab ae (a1 (cL (vO (ab jU (ab jT (ab eS (ab lD iV)))))))))))
 (a7 (gs (cT (c2 (kv δ) ao (cL (vO lC)))) (vM 3 (cL (xJ aB (cL (vO (ab cn (ab cn (a1 cn)))))))) vZ)
 (a7 (gs (cT (c2 (ey δ) ao jS)) (vM 3 (cL (xJ aB (cL (vO (ab eV (a1 eV))))))) vZ)
 (a7 (gs (yT (cT (c2 (ey δ) aB (cL (vO vH)))) (cT (c2 (ey δ) (v8 vq 2 (a1 dD)) aY))) (a7 (vM 4 (cL (v7 wF tw)))
 (vQ (wg (ab (cS "move") (ab (c2 wZ ae gf) (a1 (c2 e7 aR (v8 vq 2 (a1 (c1 w6 aR)))))))))) vZ)
 (vQ (wg (ab (cS "move") (ab (c2 e7 aB (v8 vq 2 lM)) (a1 (xE z7 2 dt))))))))))
def xO:=vx 2 5 z8
def zy:FS:=(a7 (gs (Ao (cT (c2 (kv γ) ao (cL (vO lC)))) (cT (c2 Tx (vt xN bS) (Ci [])))) (vQ (xE xO 2 dt)) vZ)
 (a7 (Qa (xE zG 2 dt) (gT jQ 2))
 (vQ (wg (ab hG (ab aB dZ))))))
def zz:=vx 2 5 zy
def z9:=fx 1 1 (a7 (gs (cT (c2 (ey δ) (c2 e7 ae aY) (cS "go"))) (vQ (wg oZ)) vZ)
 (vQ (wg sY)))
def xS:=fx 2 5 (a7 (yx (iL (cL (v7 wF jW))) (gN 2) (a7 (vM 3 az)
 (a7 (yx (v? (c2 wq (c1 w6 ao) aN)) (gN 4) (vM 3 (c2 FU ao aB)))
 (gs (cT (c2 Bn aB bf)) (vQ eU) vZ))))
 (vQ dX))
abbrev sP:=(ab (cS "at") (a1 jZ))
abbrev lH:=(ab (c2 e7 (cL (vO sP)) aV) (a1 bp))
abbrev oP:=(ab ae (a1 (c2 e7 aR aY)))
abbrev o5:=(ab az cy)
def yD:=fx 4 8 (η 4 (kb 5 (v? ck) (kb 6 (iD (c2 e7 ao aV)) (O? aV bp (c2 wZ (c2 e7 (c2 e7 (cL (vO o5)) (c1 LA (c2 J' (wg lH) aB))) aV) bp))))
 (R? 4 (cT (vt xS oP)) (kb 7 (iL (cL (v7 wF jW))) (O? aY bW (c2 wZ (c2 e7 ao aY) bW))))
 (vQ aR))
abbrev sZ:=(ab (c2 e7 aB aN) (a1 (c2 e7 aB ck)))
def AX:FS:=(a7 (vM 3 (HG xO zz 2 (v8 vq 2 (a1 fK)) dt))
 (a7 (gs (cT (c2 (ey δ) (c2 e7 aB aY) (cS "move"))) (vQ (wm 11 (λa=>yP (a++[])) sZ)) vZ)
 (vQ (wm 12 (λa=>zu (a++[])) sZ))))
def yR:=vx 2 4 AX
def wX:=fx 2 2 (xB (vT 1 [1] (iT ae) (gN 0) (cT (c2 (ey γ) (c2 e7 ae aY) ao)) ae))
def xb:=fx 2 2 (xB (vT 2 [1] (iT ae) (gT f7 2) (cT (c2 (ey δ) ae az)) ao))
abbrev eW:=(cV 8)
abbrev fM:=(a1 bW)
abbrev oI:=(ab ae (ab (c2 e7 aV aY) (a1 (c2 e7 aV aN))))
abbrev lN:=(ab ae (ab az dZ))
abbrev lQ:=(ab ae (ab aB dZ))
abbrev iY:=(ab eW fM)
abbrev lU:=(ab dE fM)
def Aa:=fx 6 10 (a7 (yx (iL ao) (gN 6) (a7 (vM 7 (v9 yA "change" bp oI))
 (a7 (vM 8 (v9 xc "done" bp lN))
 (a7 (vM 9 (v9 xc "done" bp lQ))
 (a7 (gs (yT (cT (c2 zf eW bf)) (cT (c2 zf dE bf))) (vQ (xZ (c2 zf eW bf) (c2 zf dE bf))) vZ)
 (a7 (gs (yT (cT (c2 zf bW bf)) (yT (cT (c2 (ey γ) (vt wX iY) (vt wX (ab az fM)))) (cT (c2 (ey γ) (vt wX lU) (vt wX (ab aB fM)))))) (vQ dX) vZ)
 (a7 (gs (yT (cT (c2 (ey γ) (vt xb iY) (vt xb lU))) (cT (c2 (ey δ) (vt xb iY) (cL (vO vH))))) (vQ dX) vZ)
 (a7 (vM 2 eW)
 (vM 3 dE)))))))))
 (vQ eU))
abbrev sT:=(ab az (ab hJ (ab (cV 14) (ab (vt yC (ab (c2 e7 (cV 13) aY) (a1 (c2 e7 (cV 13) aN)))) (ab eW (a1 dE))))))
abbrev lI:=(ab ao (a1 (vt CY (a1 aB))))
abbrev oJ:=(ab az (ab (c2 e7 dE aY) (a1 (c2 e7 dE aN))))
abbrev sU:=(ab (c2 e7 (c2 e7 (vu 5) aY) aY) (a1 (c2 e7 (c2 e7 (vu 5) aY) aN)))
abbrev sV:=(ab ao (ab (c2 e7 (vu 5) aY) (ab (c2 e7 (vu 5) aN) (a1 (cV 11)))))
abbrev tE:=(ab aB (a1 (cC (.int 130))))
abbrev tJ:=(ab bW (a1 (xE yB 4 cy)))
def T2:FS:=(a7 (vM 1 (vt CV (a1 (vt zb (ab ae (a1 aY))))))
 (a7 (vM 2 (vt B9 cy))
 (a7 (yx (iL (cL (xJ (cL (vO (a1 (vt zb (ab ae (a1 aN)))))) (cL (cSl ae (U 2) (U 9)))))) (gN 3) (a7 (yd 4 (v7 zc tE))
 (a7 (yd 5 (vO vH))
 (a7 (yx (v? ck) (gN 6) (a7 (vM 7 (xE xu 4 cy))
 (v3 (zP 5 (wg tJ)))))
 (a7 (vM 8 (xE yq 4 cy))
 (a7 (vM 9 (vt z9 (a1 eW)))
 (a7 (vM 10 (cL (vT 1 [1,4,8] (v? (c2 wq aN (v8 vq 4 iX))) (gN 0) wG (xE yR 2 lI))))
 (a7 (vM 11 (wg vH))
 (a7 (yx (iL hJ) (gN 12) (vM 11 (FR (cV 11) (v9 yQ "reads" (cV 12) oJ))))
 (a7 (vM 13 (vt yD sV))
 (a7 (vM 14 (vt yC sU))
 (gs (zg (cT (vt Aa sT))) (vQ dX) vZ))))))))))))
 (vQ eU))))
def YC:=fx 1 15 T2
section
variable{k:Nat}{eh:List Nat}{g:FG}{ft:FT}{fe e:FE}{s:FA}{ρ ρ1 ρ2:aU}{α:Type}
def xI{m:L4.D}(h:e ρ=U (.bl γ,ρ1)):v3 (vt vJ (ab e (ab (cC m) vH))) ρ=U (.nx ρ1):=wV (vv (vz h J) J)
def CZ(dd h:α->L4.D)(l:List α)(d:s ρ=U (l.map dd,ρ1))(c:l.length<=1000)(st:∀a∈l,∃ρ2 b,g (dd a) (Du k eh ρ1)=U ρ2/\fe ρ2=U (h a,b)/\yE eh (b.drop k) ρ1=U ρ1):
  vT k eh s g wG fe ρ=U (l.map h,ρ1):=(AK d (by rw[ak];show c)).t (Kg dd h l st)
def AA(dd h:α->L4.D)(p:α->Bool)(l:List α)(f:s ρ=U (l.map dd,ρ1))(d:l.length<=1000)
  (st:∀a∈l,∃ρ2 b,g (dd a) (Du k eh ρ1)=U ρ2/\ft ρ2=U (p a,b)/\(p a=γ->∃c,fe b=U (h a,c)/\yE eh (c.drop k) ρ1=U ρ1)/\(p a=δ->yE eh (b.drop k) ρ1=U ρ1)):
  vT k eh s g ft fe ρ=U ((l.filter p).map h,ρ1):=(AK f (by rw[ak];show d)).t (HC dd p h l st)
#print "AB γ AE OU bF J;T4 δ Hk WK jm bB" in def ϑ0(dd:α->L4.D)(l:List α)(d:s ρ=U (l.map dd,ρ1))(c:l.length<=1000)(st:∀a∈l,∃ρ2 b,g (dd a) (Du k eh ρ1)=U ρ2/\fe ρ2=U (.bl ϑ1,b)/\yE eh (b.drop k) ρ1=U ρ1):
  c1 ϑ2 (cL (vT k eh s g wG fe)) ρ=U (.bl ϑ1,ρ1):=
 wu (wA (CZ dd (λz=>.bl ϑ1) l d c st)) ((ϑ3 l λz=>ϑ1).t (by rw[ϑ4.2 λz z=>ϑ5]))
end
inductive Kd where
 |room|you|plain|fixed|box|lamp
deriving DecidableEq
def Kd.s:Kd->Str
 |.room=>"room" |.you=>"you" |.plain=>"plain" |.fixed=>"fixed" |.box=>"box" |.lamp=>"lamp"
def Kd.pl:Kd->Bool
 |.room=>δ|.you=>δ|_=>γ
def Kd.hd:Kd->Bool
 |.room=>γ|.you=>γ|.box=>γ|_=>δ
def Kd.mk:Kd->Bool
 |.box=>γ|.lamp=>γ|_=>δ
structure Th where
 n:Str
 w:aC
 k:Kd
 s:Option Str
def oS:Option Str->L4.D
 |none=>.cx
 |some x=>.str x
def fm(t:Th):L4.D:=.obj 0 ["name", "words", "kind", "start"] [.str t.n,.bx (t.w.map D.str),.str t.k.s,oS t.s]
def Bf(t:Th):vU vY "name" (fm t)=U (.str t.n):=rfl
def KD(t:Th):vU xT "words" (fm t)=U (.bx (t.w.map D.str)):=rfl
def D6(t:Th):vU wH "kind" (fm t)=U (.str t.k.s):=rfl
def KE(t:Th):vU xk "start" (fm t)=U (oS t.s):=rfl
def F8(a b:Kd):ey δ (.str a.s) (.str b.s)=U (.bl (decide (a=b))):=by ext a<;>ext b<;>kernel_rfl
#print "Pb Bt hd;Pc Bu mk;T5 Av pl" in def ϑ0(t:Th):ϑ1 [fm t]=U (.bl t.k.ϑ2):=by let#v[n,w,k,s]:=t;ext k<;>kernel_rfl
def Xb(t:Th):wJ [.str t.k.s,KB]=U (.bl γ):=by let#v[n,w,k,s]:=t;ext k<;>kernel_rfl
abbrev TD(T:List Th):L4.D:=.ax (T.map fm)
def Mi(T:List Th)(a:T.length<=1000)(k:Kd):BS [TD T,.str k.s]=U (.int (T.filter λt=>decide (t.k=k)).length):=by calc vR (ρ:=[.q (TD T),.q (.str k.s)]) J ?_;calc vX (wu (wA (AA fm fm (λt=>decide (t.k=k)) T J a λt z=>#v[[.q (fm t),.q (.str k.s)],[.q (fm t),.q (.str k.s)],J,wt (vA (wu J (D6 t)) J (F8 t.k k)),λz=>#v[_,J,J],λz=>J])) ?_);change U (D.int _)=_;rw[ak]
def Bh(T:List Th)(a:T.length<=1000):y6 [TD T]=U ((T.filter λt=>t.k.pl).map fm):=by calc DS (ρ:=[.q (TD T)]) J ?_;show zV (AA fm fm (λt=>t.k.pl) T J a λt z=>#v[[.q (fm t)],[.q (fm t)],J,wt (wQ J J J J (T5 t)),λz=>#v[_,J,J],λz=>J])
def EO{a b c:FE}{ρ:aU}{x y z:Int}(f:a ρ=U (.int x,ρ))(h:b ρ=U (.int y,ρ))(i:c ρ=U (.int z,ρ))(j:x<=y)(l:y<=z):yK AD AD a b c ρ=U (.bl γ,ρ):=by
 delta yK;rw[f];erw[h];have d:AD (.int x) (.int y)=U (.bl γ):=by change U (D.bl (decide (x<=y)))=_;rw[aI j]
 have e:AD (.int y) (.int z)=U (.bl γ):=by change U (D.bl (decide (y<=z)))=_;rw[aI l]
 erw[d,i,e]
def YD{a b:FE}{ρ:aU}{x y:Int}(c:a ρ=U (.int x,ρ))(d:b ρ=U (.int y,ρ))(e:x<=y):c2 AD a b ρ=U (.bl γ,ρ):=vA c d (by
 change U (D.bl (decide (x<=y)))=_;rw[aI e])
def Gg(T:List Th)(a:T.length<=1000)(d:1<=(T.filter λt=>decide (t.k=.room)).length)(e:(T.filter λt=>decide (t.k=.room)).length<=5)(c:(T.filter λt=>decide (t.k=.you)).length=1)(f:(T.filter λt=>t.k.pl).length<=7):
  Ax [TD T]=U .cx:=by
 let b:aU:=[.q (TD T),.q (.bl γ)];calc BP (ρ:=b) J ?_;delta Aw;rw[vp (show _=U (p?.nx b) from(vL ((w5 J).t (AB fm T J a λt z=>#v[_,_,J,J,J]))).t J)];rw[vp (xI J)];rw[vp (xI (AB fm T J a λt z=>#v[[.q (fm t)],[.q (fm t)],J,vv (vz (wu J (D6 t)) J) (Xb t),J]))];rw[vp (xI (EO J (vv J (Mi T a .room)) J () ()))];rw[vp (xI (vA (vv J (Mi T a .you)) J (by rw[c];rfl)))];calc xI (YD (x:=(T.filter λt=>t.k.pl).length) (wu (wA (vv J (Bh T a))) ?_) J ());change U (D.int _)=_;rw[ak]
structure Mk where
 n:Str
 st:Int
 mo:Int
def V?(m:Mk):L4.D:=.obj 1 ["name", "start", "most"] [.str m.n,.int m.st,.int m.mo]
def Mk.ok(m:Mk):Prop:=1<=m.mo/\m.mo<=3/\0<=m.st/\m.st<=m.mo
abbrev MD(M:List Mk):L4.D:=.ax (M.map V?)
def KF(m:Mk):vU vY "name" (V? m)=U (.str m.n):=rfl
def NP(m:Mk)(h:m.ok):Fn [V? m]=U (.bl γ):=by let#v[a,b,c,d]:=h;calc vR (ρ:=[.q (V? m)]) J ?_;delta Fm;rw[vp (show _=U (p?.nx [.q (V? m)]) from J)];show vX ((w5 (EO J J J a b)).t (EO J J J c d))
def HQ(M:List Mk)(d:M.length<=4)(h:∀m∈M,m.ok):A7 [MD M]=U .cx:=by
 let a:aU:=[.q (MD M),.q (.bl γ)];calc BP (ρ:=a) J ?_;delta A6;have b:xl [MD M,BQ]=U (.bl γ):=by calc vR (ρ:=[.q (MD M),.q (.int 4)]) J ?_;calc vX ((w5 J).t (YD (x:=M.length) ?_ J ()));calc wu J ?_;change U (D.int _)=_;rw[ak]
 rw[vp (show _=U (p?.nx a) from(vL ((w5 (vv J b)).t (AB V? M J () λm c=>#v[[.q (V? m)],[.q (V? m)],J,vv J (NP m (h m c)),J]))).t J)];show xI J
def nmS(l c:Nat):Str:=jN #v[#[98+l]] (1+(c:Int))
def Nm(x:Str):Prop:=∃l c,l<25/\c<8/\x=nmS l c
def isT:Option L4.D->Bool
 |some (.bl b)=>b
 |_=>δ
def T6{o:Option L4.D}(h:isT o=γ):o=U (.bl γ):=by
 delta isT at h;split at h
 .rw[h]
 .ext h
def KG{p:Str->Bool}(h:((bh 25).all λl=>(bh 8).all λc=>p (nmS l c))=γ){x:Str}(d:Nm x):p x=γ:=by let#v[l,c,b,a,rfl]:=d;show bF.1 (bF.1 h l (bR.2 b)) c (bR.2 a)
#print "Q Do;R yO" in def Nϑ0{x:Str}(h:Nm x):ϑ1 [.str x]=U (.bl γ):=T6 (KG (p:=λx=>isT (ϑ1 [.str x])) (by kernel_rfl) h)
#print "h red;j old" in def Mϑ0:yO [.str "ϑ1"]=U (.bl γ):=by kernel_rfl
def noW(x:Str):Bool:=decide (x∉(["red", "old", "take", "drop", "open", "shut", "light", "douse", "put", "go", "wait", "in", "north", "up", "the", "a", "undo", "restart"]:aC))
def T7{x:Str}(h:Nm x):x∉(["red", "old", "take", "drop", "open", "shut", "light", "douse", "put", "go", "wait", "in", "north", "up", "the", "a", "undo", "restart"]:aC):=bj (KG (p:=noW) (by kernel_rfl) h)
def sg(x:Str):Nat:=x.cps.getD 0 0
def aer{l c:Nat}(b:l<25)(a:c<8):sg (nmS l c)=98+l:=by
 have h:((bh 25).all λl=>(bh 8).all λc=>sg (nmS l c)==98+l)=γ:=by kernel_rfl
 show gV (bF.1 (bF.1 h l (bR.2 b)) c (bR.2 a))
def HR{l:aC}(h:l.Nodup)(a:l.length<=1000):xa [.ax (l.map D.str)]=U (.bl γ):=by
 calc vR (ρ:=[.q (.ax (l.map D.str))]) J ?_;refine vX (vA (y:=.int l.length) (wu J (Ws (FL h a))) (wu J ?_) ?_)
 .change U (D.int _)=_;rw[ak]
 .rw[EB];simp
def NS{l:aC}(h:l.Nodup)(a:l.length<=1000):xa [.bx (l.map D.str)]=U (.bl γ):=by
 calc vR (ρ:=[.q (.bx (l.map D.str))]) J ?_;refine vX (vA (y:=.int l.length) (wu J (FL h a)) (wu J ?_) ?_)
 .change U (D.int _)=_;rw[ak]
 .rw[EB];simp
def HS(T:List Th)(M:List Mk)(hT:T.length<=400)(hM:M.length<=400)(h:∀x∈T.map Th.n++M.map Mk.n,Nm x)(l:(T.map Th.n++M.map Mk.n).Nodup):A8 [TD T,MD M]=U .cx:=by
 have c:(T.map Th.n++M.map Mk.n).length<=1000:=by rw[aG,ak,ak];omega
 let a:aU:=[.q (TD T),.q (MD M),.un];let b:aU:=[.q (TD T),.q (MD M),.q (.ax ((T.map Th.n++M.map Mk.n).map D.str))];calc BP (ρ:=b) J ?_;have d:vT 1 [] (iL ae) (gN 0) wG (c1 (vU vY "name") ae) a=U (T.map λt=>D.str t.n,a):=CZ fm (λt=>D.str t.n) T J () λt z=>#v[_,_,J,wu J (Bf t),J];have e:vT 1 [] (iL ao) (gN 0) wG (c1 (vU vY "name") ae) a=U (M.map λt=>D.str t.n,a):=CZ V? (λt=>D.str t.n) M J () λt z=>#v[_,_,J,wu J (KF t),J];have f:=vL (i:=2) (wA (yX (wA d) (wA e) (by rw[ak,ak];omega)));refine(vp (ρ':=b) (f.t (by
  have:(T.map λt=>D.str t.n)++(M.map λt=>D.str t.n)=(T.map Th.n++M.map Mk.n).map D.str:=by rw[bg,aT,aT];rfl
  rw[this];rfl))).t ?_
 rw[vp (xI (AB D.str (T.map Th.n++M.map Mk.n) J c λx j=>#v[_,_,J,vv J (NQ (h x j)),J]))];show xI (vv J (HR l c))
def m3(T:List Th):aC:=(T.filter λt=>decide (t.k=.room)).map Th.n
def hdN(T:List Th):aC:=(T.filter λt=>t.k.hd).map Th.n
abbrev gb:=(cC (.str "room"))
def Ml{ρ:aU}(T:List Th)(b:T.length<=1000){i:Nat}(a:cV i ρ=U (TD T,ρ)):vT 1 [] (iL (cV i)) (gN 0) (cT (c2 (ey δ) (c1 (vU wH "kind") ae) gb)) (c1 (vU vY "name") ae) ρ=U ((m3 T).map D.str,ρ):=by
 have c:iL (cV i) ρ=U (T.map fm,ρ):=by delta iL;rw[a]
 have:=AA (k:=1) (eh:=[]) (g:=gN 0) (ft:=cT (c2 (ey δ) (c1 (vU wH "kind") ae) gb)) (fe:=c1 (vU vY "name") ae) fm (λt=>D.str t.n) (λt=>decide (t.k=.room)) T c b λt z=>#v[[.q (fm t)],[.q (fm t)],J,wt (vA (wu J (D6 t)) J (F8 t.k .room)),λz=>#v[_,wu J (Bf t),J],λz=>J]
 rw[this];delta m3;rw[aT];rfl
def NT{ρ:aU}(T:List Th)(b:T.length<=1000){i:Nat}(a:cV i ρ=U (TD T,ρ)):vT 1 [] (iL (cV i)) (gN 0) (cT (v9 wU "can_hold" ae vH)) (c1 (vU vY "name") ae) ρ=U ((hdN T).map D.str,ρ):=by
 have c:iL (cV i) ρ=U (T.map fm,ρ):=by delta iL;rw[a]
 have:=AA (k:=1) (eh:=[]) (g:=gN 0) (ft:=cT (v9 wU "can_hold" ae vH)) (fe:=c1 (vU vY "name") ae) fm (λt=>D.str t.n) (λt=>t.k.hd) T c b λt z=>#v[[.q (fm t)],[.q (fm t)],J,wt (wQ J J J J (Pb t)),λz=>#v[_,wu J (Bf t),J],λz=>J]
 rw[this];delta hdN;rw[aT];rfl
def By{x:Str}{l:aC}(h:x∈l):wJ [.str x,.ax (l.map D.str)]=U (.bl γ):=by calc vR (ρ:=[.q (.str x),.q (.ax (l.map D.str))]) J ?_;calc vX ((w5 J).t (vA J J ?_));rw[Bq];simp[h]
def IM(dk a:aC)(c:dk.length<=1000)(e:dk.Nodup)(h:∀x∈dk,x∈a):BW [.ax (dk.map D.str),.ax (a.map D.str)]=U .cx:=by let f:aU:=[.q (.ax (dk.map D.str)),.q (.ax (a.map D.str)),.un];let b:aU:=[.q (.ax (dk.map D.str)),.q (.ax (a.map D.str)),.q (.bl γ)];calc BP (ρ:=b) J ?_;delta BV;rw[vp (show _=U (p?.nx b) from(vL ((w5 J).t ((w5 (AB D.str dk J c λx d=>#v[[.q (.str x),.q (.ax (a.map D.str))],[.q (.str x),.q (.ax (a.map D.str))],J,vv J (By (h x d)),J])).t (vv J (HR e c))))).t J)];show xI J
def KH(T:List Th)(t:Th):Prop:=match t.k,t.s with
 |.room,Z=>True
 |.room,U _=>False
 |_,Z=>False
 |.you,U x=>x∈m3 T
 |_,U x=>x∈hdN T
def Mo(T:List Th)(b:T.length<=1000)(t:Th)(h:KH T t):D5 [TD T,fm t]=U (.bl γ):=by
 calc vR (ρ:=[.q (TD T),.q (fm t)]) J ?_;delta D4;let#v[n,w,k,s]:=t;have els:∀k:Kd,k≠.room->k≠.you->∀x,x∈hdN T->(a7 (gs (cT (c2 (ey δ) (c1 (vU wH "kind") ao) gb)) (vQ (c2 zf (c1 (vU xk "start") ao) bf)) vZ)
   (a7 (gs (cT (c2 (ey δ) (c1 (vU wH "kind") ao) (cC (.str "you")))) (vQ (vt wJ (ab (c1 (vU xk "start") ao) (ab (cL (vT 1 [] (iL ae) (gN 0) (cT (c2 (ey δ) (c1 (vU wH "kind") ae) gb)) (c1 (vU vY "name") ae))) vH)))) vZ)
   (vQ (vt wJ (ab (c1 (vU xk "start") ao) (ab (cL (vT 1 [] (iL ae) (gN 0) (cT (v9 wU "can_hold" ae vH)) (c1 (vU vY "name") ae))) vH)))))) [.q (TD T),.q (fm #v[n,w,k,U x])]=U (.rt (.bl γ) [.q (TD T),.q (fm #v[n,w,k,U x])]):=λk c d x e=>by
  let a:aU:=[.q (TD T),.q (fm #v[n,w,k,U x])];rw[vp (show _=U (p?.nx a) from(v5 (wt (vA (wu J (D6 _)) J ((F8 k .room).t (by rw[aL c]))))))];rw[vp (show _=U (p?.nx a) from(v5 (wt (vA (wu J (D6 _)) J ((F8 k .you).t (by rw[aL d]))))))];show vX (vv (vz (wu J (KE _)) (vz (wA (NT T b J)) J)) (By e))
 cases k with
 |room=>
  cases s with
  |none=>rfl
  |some x=>show h.elim
 |you=>
  cases s with
  |none=>show h.elim
  |some x=>let a:aU:=[.q (TD T),.q (fm #v[n,w,.you,U x])];rw[vp (show _=U (p?.nx a) from J)];calc wc ((wz J).t ?_);show vX (vv (vz (wu J (KE _)) (vz (wA (Ml T b J)) J)) (By h))
 |plain=>cases s with
  |none=>show h.elim
  |some x=>show els .plain #[] #[] x h
 |fixed=>cases s with
  |none=>show h.elim
  |some x=>show els .fixed #[] #[] x h
 |box=>cases s with
  |none=>show h.elim
  |some x=>show els .box #[] #[] x h
 |lamp=>cases s with
  |none=>show h.elim
  |some x=>show els .lamp #[] #[] x h
def kS(x:Str):ee:=Sum.inr x
def Da{i:Nat}{fk fv:FE}{ρ:aU}{a:List ee}{b:List L4.D}{x:Str}{d:L4.D}(e:fv ρ=U (d,ρ))(f:ρ[i]?=U (.dk a b))(h:fk ρ=U (.str x,ρ))(o:kS x∉a)(m:a.length<1000)(j:b.length=a.length):
  wK i fk fv ρ=U (.nx (ρ.set i (.dk (a++[kS x]) (b++[d])))):=by
 have l:Ep a (kS x)=δ:=by rw[jq];intro z;let#v[y,p,c]:=dw.1 z;show o (by rw[<-bj c];show p)
 delta wK;rw[e];erw[f,h];rw[show Dw (.str x)=U (kS x) from J];simp only;rw[af m,af j,l];rfl
section
variable{α:Type}{g:FG}{i:Nat}{fk fv:FE}
theorem BA(dd:α->L4.D)(kf:α->Str)(j:α->L4.D)(st:List ee->List L4.D->Sl->aU)
  (q:∀(a:α) (c:List ee) (d:List L4.D) (s:Sl),∃b,g (dd a) (st c d s)=U b/\fv b=U (j a,b)/\b[i]?=U (.dk c d)/\fk b=U (.str (kf a),b)/\∀f e,∃h,b.set i (.dk f e)=st f e h):
  ∀(l:List α) (c:List ee) (d:List L4.D) (s:Sl),(c++l.map λa=>kS (kf a)).Nodup->c.length+l.length<=1000->d.length=c.length->
   ∃h,fu g (wK i fk fv) (l.map dd) (st c d s)=U (.nx (st (c++l.map λa=>kS (kf a)) (d++l.map j) h))
 |[],c,d,s,_,_,_=>#v[s,by rw[bZ,bZ,bZ,bD,bD];rfl]
 |a::l,c,d,s,m,B,p=>by
  let#v[b,r,t,u,w,x]:=q a c d s;let#v[E,y]:=x (c++[kS (kf a)]) (d++[j a]);rw[aK]at B;have o:((c++[kS (kf a)])++l.map λa=>kS (kf a)).Nodup:=by rw[bL];show m
  have C:=λz=>by rw[cq]at m;show m.2.2 _ z _ (by rw[aA];show aP) J
  let#v[h,A]:=BA dd kf j st q l (c++[kS (kf a)]) (d++[j a]) E o (by rw[aG,bu];omega) (by rw[aG,aG,p,bu,bu]);calc#v[h,?_];rw[aA];delta fu;rw[r];erw[Da t u w C () p,y];rw[A,aA,aA,bL,bL];rfl
end
def nK(T:List Th):List ee:=T.map λt=>kS t.n
def D7{a b:Str}(h:kS a=kS b):a=b:=jG h
def Pd{T:List Th}(h:(T.map Th.n).Nodup):(nK T).Nodup:=by have:=yN h;rw[aT]at this;show this
def Pe{T:List Th}(h:(T.map Th.n).Nodup)(a:Th->L4.D){t:Th}(b:t∈T):xX (nK T) (T.map a) (kS t.n)=U (a t):=by calc Br (Pd h) ?_;delta nK;rw[jA];show cc b
def NU(T:List Th)(r:Str->Nat):Prop:=∀t∈T,r t.n<T.length/\∀p,t.s=U p->r p<r t.n/\∃u∈T,u.n=p
def yy(T:List Th):L4.D:=.J (nK T) (T.map λt=>oS t.s)
def T8(T:List Th)(M:T.length<=1000)(B:(T.map Th.n).Nodup)(r:Str->Nat)(w:NU T r)(t:Th)(z:t∈T):zQ [yy T,.str t.n]=U (.bl γ):=by
 have loop:∀(m:Nat) (l:List L4.D),l.length=m->∀(a:Option Str) (s:Sl),(∀x,a=U x->(∃u∈T,u.n=x)/\r x<m)->
   (∃b,fu (gN 3) (a7 (gs (cT (c2 zf az bf)) (vQ eU) vZ) (vM 2 (c2 wZ ae az))) l [.q (yy T),.q (.str t.n),.q (oS a),s]=U (.rt (.bl γ) b))\/
   (∃j,fu (gN 3) (a7 (gs (cT (c2 zf az bf)) (vQ eU) vZ) (vM 2 (c2 wZ ae az))) l [.q (yy T),.q (.str t.n),.q (oS a),s]=U (.nx [.q (yy T),.q (.str t.n),.q .cx,j])):=by
  intro m
  induction m with
  |zero=>
   intro l h a s f;cases l with
   |cons d l=>cases h
   |nil=>
    cases a with
    |none=>show .inr #v[s,J]
    |some x=>show au (f x J).2 (ra _)
  |succ m G=>
   intro l h a s f;cases l with
   |nil=>cases h
   |cons d l=>
    cases a with
    |none=>calc .inl #v[[.q (yy T),.q (.str t.n),.q .cx,.q d],?_];delta fu;rw[show gN 3 d [.q (yy T),.q (.str t.n),.q (oS Z),s]=U [.q (yy T),.q (.str t.n),.q .cx,.q d] from J];rfl
    |some x=>
     let#v[#v[u,A,rfl],i]:=f x J;have e:a7 (gs (cT (c2 zf az bf)) (vQ eU) vZ) (vM 2 (c2 wZ ae az)) [.q (yy T),.q (.str t.n),.q (.str u.n),.q d]=U (.nx [.q (yy T),.q (.str t.n),.q (oS u.s),.q d]):=by calc(vp J).t ?_;show(vL (vA J J (Pe B (λt=>oS t.s) A))).t J
     have key:=G l (by exists h) u.s (.q d) λy F=>by let#v[C,c]:=w u A;let#v[I,E]:=c y F;show#v[E,by omega]
     delta fu;rw[show gN 3 d [.q (yy T),.q (.str t.n),.q (oS (U u.n)),s]=U [.q (yy T),.q (.str t.n),.q (.str u.n),.q d] from J];erw[e];show key
 let#v[C,c]:=w t z;have H:=loop T.length (Cp 0 T.length) (by delta Cp;simp) t.s .un λx i=>#v[(c x i).2,by have:=(c x i).1;omega];have o:vM 2 (c2 wZ ae ao) [.q (yy T),.q (.str t.n),.un,.un]=U (.nx [.q (yy T),.q (.str t.n),.q (oS t.s),.un]):=(vL (vA J J (Pe B (λt=>oS t.s) z))).t J;have p:v? (c1 w6 ae) [.q (yy T),.q (.str t.n),.q (oS t.s),.un]=U (Cp 0 T.length,[.q (yy T),.q (.str t.n),.q (oS t.s),.un]):=by delta v?;rw[show c1 w6 ae [.q (yy T),.q (.str t.n),.q (oS t.s),.un]=U (.int T.length,[.q (yy T),.q (.str t.n),.q (oS t.s),.un]) from wu J (by change U (D.int _)=_;delta nK;rw[ak])];simp only;rw[af (),ik]
 rcases H with ⟨b,q⟩|⟨j,q⟩
 .calc vR (ρ:=b) J ?_;refine(vp o).t (wc ((wW p).t q))
 .calc vR (ρ:=[.q (yy T),.q (.str t.n),.q .cx,j]) J ?_;calc(vp o).t ((vp ((wW p).t q)))
def Gh(T:List Th)(u:T.length<=900)(f:(T.map Th.n).Nodup)(r:Str->Nat)(l:NU T r)(m:∀t∈T,KH T t):Ay [TD T]=U .cx:=by
 let#v[b,j]:=BA (g:=gN 2) (i:=1) (fk:=c1 (vU vY "name") az) (fv:=c1 (vU xk "start") az) fm Th.n (λt=>oS t.s) (λe c s=>[.q (TD T),.dk e c,s])
  (λt e c s=>#v[[.q (TD T),.dk e c,.q (fm t)],J,wu J (KE t),J,wu J (Bf t),λo h=>#v[_,J]]) T [] [] .un (by rw[bP];show Pd f) (by simp;omega) J
 calc BP (ρ:=[.q (TD T),.q (yy T),b]) J ?_;calc(vp (xI (AB fm T J () λt d=>#v[[.q (fm t),.q (TD T)],[.q (fm t),.q (TD T)],J,vv J (Mo T () t (m t d)),J]))).t ?_;calc(vp J).t ?_;calc(vp ((wW J).t j)).t ?_;have src:iD (vu 1) [.q (TD T),.dk ([]++T.map λa=>kS a.n) ([]++T.map λt=>oS t.s),b]=U ((T.map λt=>D.str t.n),[.q (TD T),.q (yy T),b]):=by rw[bP,bP];delta iD;rw[show vu 1 [.q (TD T),.dk (T.map λa=>kS a.n) (T.map λt=>oS t.s),b]=U (yy T,[.q (TD T),.q (yy T),b]) from J];change (if (nK T).length=(T.map λt=>oS t.s).length then U ((nK T).map Nt,_)else Z)=_;delta nK;rw[af (by rw[ak,ak]),aT];rfl
 show xI (AB (λt:Th=>D.str t.n) T src () λt d=>#v[[.q (.str t.n),.q (yy T)],[.q (.str t.n),.q (yy T)],J,vv J (T8 T () f r l t d),J])
def JD:List aC:=[[],["red"],["old", "red"]]
def xY(t:Th):Prop:=Nm t.n/\∃m∈JD,t.w=t.n::m
def yS{t:Th}(h:xY t):t.w=[t.n]\/t.w=[t.n,"red"]\/t.w=[t.n,"old", "red"]:=by
 let#v[_,m,a,e]:=h;delta JD at a;erw[aD,bY,or_false]at a;rcases a with rfl|rfl|rfl
 .show .inl e
 .show .inr (.inl e)
 .show .inr (.inr e)
def Fq{t:Th}(h:xY t){x:Str}(a:x∈t.w):x=t.n\/x="red" \/ x="old" := by
 rcases yS h with e|e|e<;>rw[e]at a<;>erw[aD,bY,or_false]at a
 .show .inl a
 .rcases a with h|h
  .show .inl h
  .show .inr (.inl h)
 .rcases a with h|h|h
  .show .inl h
  .show .inr (.inr h)
  .show .inr (.inl h)
def YE{x:Str}(h:Nm x):x≠"red" /\ x≠"old" := by have:=T7 h;show#v[λz=>this (by rw[z];decide),λz=>this (by rw[z];decide)]
def KI{t:Th}(h:xY t):CT [.bx (t.w.map D.str)]=U (.bl γ):=by
 have b:=h.1;let#v[c,i]:=YE b;have len:1<=t.w.length/\t.w.length<=4:=by rcases yS h with e|e|e<;>rw[e]<;>simp
 have j:t.w.Nodup:=by
  rcases yS h with e|e|e<;>rw[e]
  .simp
  .simp[c]
  .simp[c,i];decide
 let a:aU:=[.q (.bx (t.w.map D.str))];calc vR (ρ:=a) J ?_;have d:yK AD AD aN (c1 w6 ae) (cC BR) a=U (.bl γ,a):=EO J (wu J (by change U (D.int _)=_;rw[ak])) J () ();calc(vp ((v5 (A5 J (Eo (wt d)))))).t ?_;calc vX ((w5 (AB D.str t.w J () λx f=>#v[_,_,J,vv J ?_,J])).t (vv J (NS j ())));rcases Fq h f with rfl|rfl|rfl
 .show NR b
 .show Mh
 .show Mj
def NV(t u:Th)(a:xY t)(d:xY u)(hne:u.n≠t.n):Dp [.bx (u.w.map D.str),.bx (t.w.map D.str)]=U (.bl δ):=by
 let#v[f,i]:=YE a.1;have c:t.w.length<=1000:=by rcases yS a with e|e|e<;>rw[e]<;>simp
 let b:aU:=[.q (.bx (u.w.map D.str)),.q (.bx (t.w.map D.str))];calc vR (ρ:=b) J ?_;calc vX (wu (wA (CZ D.str (λx=>.bl (decide (x∈u.w))) t.w J c λx s=>#v[_,_,J,vA J J (LV δ x u.w),J])) ?_);rw[OU];have:t.w.all (λx=>decide (x∈u.w))=δ:=by
  rw[jq];intro z;have:=bj (bF.1 z t.n (by rcases yS a with e|e|e<;>rw[e]<;>simp));rcases Fq d this with h|h|h
  .show hne h.symm
  .show f h
  .show i h
 rw[this]
def IP(P:List Th)(c:P.length<=900)(f:∀t∈P,xY t)(t:Th)(d:xY t):zR [TD P,fm t]=U (.bl γ):=by
 let O:=P.filter λu=>!decide (u.n=t.n);let a:aU:=[.q (TD P),.q (fm t),.q (TD O)];have hO:O.length<=900:=cg (kj _ _) c;calc vR (ρ:=a) J ?_;calc(vp (ρ':=a) ((vL (wA (AA fm fm (λu=>!decide (u.n=t.n)) P J () λu z=>#v[[.q (fm u),.q (fm t)],[.q (fm u),.q (fm t)],J,wt (vA (wu J (Bf u)) (wu J (Bf t)) (zB γ u.n t.n)),λz=>#v[_,J,J],λz=>J]))).t J)).t ?_;have e:c1 Hk (cL (vT 1 [1] (iL az) (gN 0) wG (vt Dp (ab (c1 (vU xT "words") ae) (ab (c1 (vU xT "words") ao) vH))))) a=U (.bl δ,a):=
  T4 fm O J () λu b=>#v[[.q (fm u),.q (fm t)],[.q (fm u),.q (fm t)],J,vv (vz (wu J (KD u)) (vz (wu J (KD t)) J)) (NV t u d (f u (bw.1 b).1) (by exists (bw.1 b).2)),J]
 calc vX ?_;delta J0;rw[e];rfl
def HU(T:List Th)(d:T.length<=900)(b:∀t∈T,xY t):xH [TD T]=U .cx:=by let P:=T.filter λt=>t.k.pl;have hP:P.length<=900:=cg (kj _ _) d;have hwP:∀t∈P,xY t:=λt a=>b t (bw.1 a).1;let c:aU:=[.q (TD T),.q (TD P)];calc BP (ρ:=c) J ?_;calc(vp (xI (AB fm T J () λt a=>#v[[.q (fm t)],[.q (fm t)],J,vv (vz (wu J (KD t)) J) (KI (b t a)),J]))).t ?_;calc(vp ((vL (wA (vv J (Bh T ())))))).t ?_;show xI (AB fm P J () λt a=>#v[[.q (fm t),.q (TD P)],[.q (fm t),.q (TD P)],J,vv J (IP P hP hwP t (hwP t a)),J])
def DM(n f:Str)(j:L4.D):L4.D:=.obj 2 ["name", "others", "form", "joining"] [.str n,.bx [],.str f,j]
def xy:List L4.D:=[DM "take" "one" .cx,DM "drop" "one" .cx,DM "open" "one" .cx,DM "shut" "one" .cx,DM "light" "one" .cx,DM "douse" "one" .cx,DM "put" "two" (.str "in"),DM "go" "way" .cx,DM "wait" "alone" .cx]
def Mp:y7 []=U xy:=by kernel_rfl
def vN:aC:=["take", "drop", "open", "shut", "light", "douse", "put", "go", "wait"]
def vI:aC:=["take", "drop", "open", "shut", "light", "douse", "put", "go", "wait", "in", "north", "up"]
def Xc{e:FE}{b:Bool}{ρ a:aU}(h:e ρ=U (.bl b,a)):J0 e ρ=U (.bl !b,a):=by delta J0;rw[h]
def T9{l m:aC}{d:L4.D}(hd:d=.ax (m.map D.str)\/d=.bx (m.map D.str))(c:l.length<=900)(h:∀x∈l,x∉m):zL [.ax (l.map D.str),d]=U (.bl γ):=by
 let a:aU:=[.q (.ax (l.map D.str)),.q d];calc vR (ρ:=a) J ?_;have e:c1 Hk (cL (vT 1 [1] (iL ae) (gN 0) wG (c2 (kv δ) ae ao))) a=U (.bl δ,a):=T4 D.str l J () λx b=>#v[[.q (.str x),.q d],[.q (.str x),.q d],J,vA J J (by
  rcases hd with rfl|rfl
  .rw[Bq];simp[h x b]
  .rw[LV];simp[h x b]),J]
 show vX (Xc e)
def QH{t:Th}(h:xY t):t.w.length<=3:=by rcases yS h with e|e|e<;>rw[e]<;>simp
theorem HV{a b c f h i:Sl}:∀(P:List Th) (acc:aC) (s:Sl),acc.length+3 * P.length<=900->(∀t∈P,xY t)->
  ∃j,fu (gN 4) (v3 (Hm 3 (c1 (vU xT "words") aR))) (P.map fm) [a,b,c,.I (acc.map D.str),s,f,h,i]=U (.nx [a,b,c,.I ((acc++P.flatMap Th.w).map D.str),j,f,h,i])
 |[],acc,s,_,_=>#v[s,by simp;rfl]
 |t::P,acc,s,o,l=>by
  have q:=QH (l t aP);rw[aK]at o;let#v[j,e]:=HV P (acc++t.w) (.q (fm t)) (by rw[aG];omega) λu p=>l u (ba _ p);calc#v[j,?_];rw[aA];delta fu;have m:v3 (Hm 3 (c1 (vU xT "words") aR)) [a,b,c,.I (acc.map D.str),.q (fm t),f,h,i]=U (.nx [a,b,c,.I ((acc++t.w).map D.str),.q (fm t),f,h,i]):=by calc(wV (d:=.cx) ?_);change (if (acc.map D.str).length+(t.w.map D.str).length<=1000 then U (D.cx,[a,b,c,.I (acc.map D.str++t.w.map D.str),.q (fm t),f,h,i])else Z)=_;rw[af (by rw[ak,ak];omega),bg]
  rw[show gN 4 (fm t) [a,b,c,.I (acc.map D.str),s,f,h,i]=U [a,b,c,.I (acc.map D.str),.q (fm t),f,h,i] from J];erw[m];rw[e,List.flatMap_cons,bL]
def wyD(a b:Str):List L4.D:=[.bx [.str a,.str "north", .str b,.cx],.bx [.str a,.str "up", .str a,.cx]]
def x?(T:List Th):List L4.D:=wyD ((m3 T).headD "") ((m3 T).getLastD "")
def acq{T:List Th}(h:1<=(T.filter λt=>decide (t.k=.room)).length):(m3 T).headD "" ∈ m3 T:=by
 have:1<=(m3 T).length:=by delta m3;rw[ak];show h
 cases e:m3 T with
 |nil=>rw[e]at this;cases this
 |cons a r=>show aP ..
def acr{T:List Th}(h:1<=(T.filter λt=>decide (t.k=.room)).length):(m3 T).getLastD "" ∈ m3 T:=by
 have:1<=(m3 T).length:=by delta m3;rw[ak];show h
 have a:m3 T≠[]:=λe=>by rw[e]at this;ext this
 rw[px,List.getLast?_eq_some_getLast a];show List.getLast_mem a
def NW(a:Str):xa [.ax [.bx [.str a,.str "north"],.bx [.str a,.str "up"]]]=U (.bl γ):=by calc vR J (vX (vA (x:=.int 2) (wu J ?_) J J));change (if ([Sum.inr a,Sum.inr "north"]:List ee)=[Sum.inr a,Sum.inr "up"]then Z else U (D.int 2))=_;rw[ah λe=>au (jG (nE (nE e).2).1) (by decide:¬(("north" : Str)="up"))]
def QI{a b x:Str}{R:aC}{c:List L4.D}(e:a∈R)(f:b∈R)(h:yO [.str x]=U (.bl γ)):HM [.bx [.str a,.str x,.str b,.cx],.ax (R.map D.str),.ax c]=U (.bl γ):=by let d:aU:=[.q (.bx [.str a,.str x,.str b,.cx]),.q (.ax (R.map D.str)),.q (.ax c),.q (.bl γ)];calc vR (ρ:=d) J ?_;calc(vp J).t ?_;calc(vp J).t ?_;show vX ((w5 (vv J (By e))).t ((w5 (vv J h)).t ((w5 (vv J (By f))).t J)))
def IQ{a d:Str}(R:aC)(c:List L4.D)(f:a∈R)(h:d∈R):BY [.ax (wyD a d),.ax (R.map D.str),.ax c]=U .cx:=by
 let i:aU:=[.q (.ax (wyD a d)),.q (.ax (R.map D.str)),.q (.ax c),.un];let e:aU:=[.q (.ax (wyD a d)),.q (.ax (R.map D.str)),.q (.ax c),.q (.bl γ)];calc BP (ρ:=e) J ?_;delta BX;rw[vp (show _=U (p?.nx e) from(vL ((w5 J).t (AB (λz:Str×Str=>D.bx [.str a,.str z.1,.str z.2,.cx]) [("north", d),("up", a)] J (cP J) λz b=>
  #v[[.q (.bx [.str a,.str z.1,.str z.2,.cx]),.q (.ax (R.map D.str)),.q (.ax c)],[.q (.bx [.str a,.str z.1,.str z.2,.cx]),.q (.ax (R.map D.str)),.q (.ax c)],J,vv J (QI f (by
   rcases aD.1 b with rfl|b
   .show h
   .rw[aO.1 b];show f) (by
   rcases aD.1 b with rfl|b
   .kernel_rfl
   .rw[aO.1 b];kernel_rfl)),J]))).t J)]
 calc(vp (xI J)).t ?_;show xI (vv (vz (by kernel_rfl) J) (NW a))
def HW(T:List Th)(j:T.length<=200)(o:∀t∈T,xY t):yM [TD T,.ax (x? T),.ax xy]=U .cx:=by
 let P:=T.filter λt=>t.k.pl;have hP:P.length<=200:=cg (kj _ _) j;have hwP:∀t∈P,xY t:=λt d=>o t (bw.1 d).1;let#v[c,i]:=HV P [] .un (by simp;omega) hwP;let O:=P.flatMap Th.w;let e:Sl:=.I (O.map D.str);let z:Sl:=.q (DM "wait" "alone" .cx);calc BP (ρ:=[.q (TD T),.q (.ax (x? T)),.q (.ax xy),.q (.ax (O.map D.str)),c,.q (.ax (vN.map D.str)),z,.q (.ax [.str "in", .str "north", .str "up"])]) J ?_;calc(vp J).t ?_;refine(vp ((wW (ρ1:=[.q (TD T),.q (.ax (x? T)),.q (.ax xy),.I [],.un,.un,.un,.un]) ?_).t i)).t ?_
 .delta iL;rw[wA (vv (ρ1:=[.q (TD T),.q (.ax (x? T)),.q (.ax xy),.I [],.un,.un,.un,.un]) J (Bh T ()))]
 calc(vp J).t ?_;calc(vp (ρ':=[.q (TD T),.q (.ax (x? T)),.q (.ax xy),e,c,.I (vN.map D.str),z,.un]) (by kernel_rfl)).t ?_;calc(vp (ρ':=[.q (TD T),.q (.ax (x? T)),.q (.ax xy),e,c,.I (vN.map D.str),z,.q (.ax [.str "in", .str "north", .str "up"])]) (by kernel_rfl)).t ?_;calc(vp (xI (ρ1:=[.q (TD T),.q (.ax (x? T)),.q (.ax xy),e,c,.q (.ax (vN.map D.str)),z,.q (.ax [.str "in", .str "north", .str "up"])]) (by kernel_rfl))).t ?_;have no:∀x∈vI,x∉O:=λx f m=>by
  let#v[t,d,hxt]:=List.mem_flatMap.1 m;have l:=(hwP t d).1;rcases Fq (hwP t d) hxt with rfl|rfl|rfl
  .have sub:∀x∈vI,x∈(["red", "old", "take", "drop", "open", "shut", "light", "douse", "put", "go", "wait", "in", "north", "up", "the", "a", "undo", "restart"]:aC):=by decide
   show T7 l (sub _ f)
  .show au f #[]
  .show au f #[]
 have a1:=T9 (.inl J) #[] no;calc(vp (xI (vv (vz (ρ1:=[.q (TD T),.q (.ax (x? T)),.q (.ax xy),e,c,.q (.ax (vN.map D.str)),z,.q (.ax [.str "in", .str "north", .str "up"])]) (by kernel_rfl) J) a1))).t ?_;calc(vp (xI (ρ1:=[.q (TD T),.q (.ax (x? T)),.q (.ax xy),.q (.ax (O.map D.str)),c,.q (.ax (vN.map D.str)),z,.q (.ax [.str "in", .str "north", .str "up"])]) (by kernel_rfl))).t ?_;show xI (by kernel_rfl)
structure fh(T:List Th)(M:List Mk)(dk:aC):Prop where
 len:T.length<=200
 r1:1<=(T.filter λt=>decide (t.k=.room)).length
 r5:(T.filter λt=>decide (t.k=.room)).length<=5
 y1:(T.filter λt=>decide (t.k=.you)).length=1
 p7:(T.filter λt=>t.k.pl).length<=7
 m4:M.length<=4
 mo:∀m∈M,m.ok
 nm:∀x∈T.map Th.n++M.map Mk.n,Nm x
 nd:(T.map Th.n++M.map Mk.n).Nodup
 st:∀t∈T,KH T t
 rk:∃r,NU T r
 wd:∀t∈T,xY t
 d0:dk.length<=5
 d1:dk.Nodup
 d2:∀x∈dk,x∈m3 T
def fh.t9{T:List Th}{M:List Mk}{dk:aC}(g:fh T M dk):(T.map Th.n).Nodup:=(cq.1 g.nd).1
def IR(T:List Th)(M:List Mk)(a:T.length<=200)(hM:M.length<=4):∃l,BU [TD T,MD M]=U l:=by
 refine#v[_,DS J (zV (yX (wA (AA fm (λt=>D.str t.n) (λt=>t.k.mk) T J () λt z=>#v[[.q (fm t)],[.q (fm t)],J,wt (wQ J J J J (Pc t)),λz=>#v[_,wu J (Bf t),J],λz=>J]))
  (wA (CZ V? (λt=>D.str t.n) M J () λt z=>#v[_,_,J,wu J (KF t),J])) ?_))]
 have:=kj (λt:Th=>t.k.mk) T;rw[ak,ak];omega
def HX{T:List Th}{M:List Mk}{dk:aC}(g:fh T M dk):A9 [TD T,MD M,.ax (dk.map D.str),.ax (x? T),.ax [],.ax xy]=U .cx:=by
 have a:=g.len;have hdk:dk.length<=1000:=by have:=g.d0;omega
 let#v[r,d]:=g.rk;let#v[e,emn]:=IR T M a g.m4;let f:aU:=[.q (TD T),.q (MD M),.q (.ax (dk.map D.str)),.q (.ax (x? T)),.q (.ax []),.q (.ax xy),.un];let b:aU:=[.q (TD T),.q (MD M),.q (.ax (dk.map D.str)),.q (.ax (x? T)),.q (.ax []),.q (.ax xy),.q (.ax ((m3 T).map D.str))];calc BP (ρ:=b) J ?_;calc(vp (wV (vv J (Gg T () g.r1 g.r5 g.y1 g.p7)))).t ?_;calc(vp (wV (vv J (HQ M g.m4 g.mo)))).t ?_;calc(vp (wV (vv J (HS T M () (by have:=g.m4;omega) g.nm g.nd)))).t ?_;calc(vp (wV (vv J (Gh T () g.t9 r d g.st)))).t ?_;calc(vp (wV (vv J (HU T () g.wd)))).t ?_;calc(vp ((vL (wA (Ml T () J))))).t ?_;calc(vp (wV (vv J (IM dk (m3 T) hdk g.d1 g.d2)))).t ?_;have c:=IQ (m3 T) e (acq g.r1) (acr g.r1);calc(vp (wV (vv (vz J (vz J (vz (wA (vv J emn)) J))) c))).t ?_;calc(vp (wV (vv (r:=.cx) J (by kernel_rfl)))).t ?_;show wV (vv J (HW T a g.wd))
def NX(T:List Th)(m:T.length<=900)(f:(T.map Th.n).Nodup):Fo [TD T]=U (.J (nK T) (T.map fm)):=by
 let#v[h,d]:=BA (g:=gN 2) (i:=1) (fk:=c1 (vU vY "name") az) (fv:=cV 2) fm Th.n fm (λb a s=>[.q (TD T),.dk b a,s])
  (λt b a s=>#v[[.q (TD T),.dk b a,.q (fm t)],J,J,J,wu J (Bf t),λe c=>#v[_,J]]) T [] [] .un (by rw[bP];show Pd f) (by simp;omega) J
 calc vR (ρ:=[.q (TD T),.q (.J (nK T) (T.map fm)),h]) J ?_;calc(vp J).t ?_;calc(vp ((wW J).t d)).t ?_;rw[bP,bP];rfl
def Xd(m:Mk):vU Ar "most" (V? m)=U (.int m.mo):=rfl
def HY(T:List Th)(c:T.length<=1000)(a:aC)(eo:List L4.D)(k:Kd):xR [.obj 14 ("kept_things" ::a) (TD T::eo),.str k.s]=U (.ax ((T.filter λt=>decide (t.k=k)).map λt=>D.str t.n)):=by let b:aU:=[.q (.obj 14 ("kept_things" ::a) (TD T::eo)),.q (.str k.s)];calc Kj (ρ:=b) J ?_;show zV (AA fm (λt=>D.str t.n) (λt=>decide (t.k=k)) T J c λt z=>#v[[.q (fm t),.q (.str k.s)],[.q (fm t),.q (.str k.s)],J,wt (vA (wu J (D6 t)) J (F8 t.k k)),λz=>#v[_,wu J (Bf t),J],λz=>J])
def shD(T:List Th)(y:Str):List L4.D:=(yn [.str y,.ax (x? T)]).getD []
def aes(T:List Th)(y:Str):yn [.str y,.ax (x? T)]=U (shD T y):=by kernel_rfl
def vwD:L4.D:=(xQ [.ax xy]).getD .cx
def rbD(T:List Th)(y:Str):L4.D:=(Bv [.ax (shD T y)]).getD .cx
def wNs:aC:=["kept_things", "kept_marks", "kept_dark", "kept_ways", "kept_verbs", "shared_verbs", "your_name", "things_by_name", "mosts_by_name", "verbs_by_word", "kept_rules", "shared_rules", "copied_rules", "rules_by_verb"]
def wDs(T:List Th)(M:List Mk)(dk:aC)(y:Str)(mo:L4.D):List L4.D:=[TD T,MD M,.ax (dk.map D.str),.ax (x? T),.ax [],.ax xy,.str y,.J (nK T) (T.map fm),mo,vwD,.ax [],.ax (shD T y),.ax [],rbD T y]
abbrev wR(T:List Th)(M:List Mk)(dk:aC)(b:aC)(a:List L4.D)(q:Sl):aU:=[.ob 14 b a,.q (TD T),.q (MD M),.q (.ax (dk.map D.str)),.q (.ax (x? T)),.q (.ax []),.q (.ax []),q]
abbrev wL(T:List Th)(M:List Mk)(dk:aC)(b:aC)(a:List L4.D)(q:Sl):aU:=[.q (.obj 14 b a),.q (TD T),.q (MD M),.q (.ax (dk.map D.str)),.q (.ax (x? T)),.q (.ax []),.q (.ax []),DU q]
section
variable{T:List Th}{M:List Mk}{dk:aC}
def w_fl{c:Str}{e:FE}{d:L4.D}{a:aC}{b:List L4.D}{q:Sl}(f:e (wR T M dk a b q)=U (d,wR T M dk a b q))(h:a.contains c=δ)(i:b.length=a.length)(j:a.length<900):wo 14 0 c e (wR T M dk a b q)=U (.nx (wR T M dk (a++[c]) (b++[d]) q)):=by delta wo;rw[f];change (if 14=14 then if a.contains c=γ then Z else if b.length=a.length then if a.length<900 then U (p?.nx (wR T M dk (a++[c]) (b++[d]) q))else Z else Z else Z)=_;rw[af J,h,ah bB,af i,af j]
def Ua{e:FE}{d:L4.D}{b:aC}{a:List L4.D}{q:Sl}{r:aU}(c:e (wL T M dk b a q)=U (d,r))(f:noC 16 14 d=γ):Bp 16 e (wR T M dk b a q)=U (d,wR T M dk b a q):=by
 change (match e (wL T M dk b a q)with
  |some (d,_)=>if (decide (14<16)&&noC 16 14 d)=γ then U (d,wR T M dk b a q)else Z
  |none=>Z)=_
 rw[c];erw[f];rfl
abbrev d6(T:List Th)(M:List Mk)(dk:aC):List L4.D:=[TD T,MD M,.ax (dk.map D.str),.ax (x? T),.ax [],.ax xy]
abbrev n6:aC:=["kept_things", "kept_marks", "kept_dark", "kept_ways", "kept_verbs", "shared_verbs"]
def aeu(y:Str)(a:T.length<=1000)(b:(T.filter λt=>decide (t.k=.you)).map Th.n=[y]):Bp 16 (c2 e7 (v9 wB "of_kind" ae (ab (cC (.str "you")) vH)) aY) (wR T M dk n6 (d6 T M dk) .un)=U (.str y,wR T M dk n6 (d6 T M dk) .un):=by
 calc Ua (vA (wQ J J J J (HY T a _ _ .you)) J ?_) J;have:((T.filter λt=>decide (t.k=.you)).map λt=>D.str t.n)=[.str y]:=by rw[show (λt:Th=>D.str t.n)=D.str∘Th.n from J,<- aT,b];rfl
 rw[this];rfl
end
section
variable{T:List Th}{M:List Mk}{dk:aC}
def aev:xQ [.ax xy]=U vwD:=by kernel_rfl
def aew(y:Str):Bv [.ax (shD T y)]=U (rbD T y):=by kernel_rfl
def acs:noC 16 14 vwD=γ:=by kernel_rfl
def acu(y:Str):noC 16 14 (rbD T y)=γ:=by kernel_rfl
def acv(y:Str):noC 16 14 (.ax (shD T y))=γ:=by kernel_rfl
def acw(y:Str):(shD T y).length<=900:=cP (by kernel_rfl)
abbrev n7:aC:=["kept_things", "kept_marks", "kept_dark", "kept_ways", "kept_verbs", "shared_verbs", "your_name"]
abbrev d7(T:List Th)(M:List Mk)(dk:aC)(y:Str):List L4.D:=[TD T,MD M,.ax (dk.map D.str),.ax (x? T),.ax [],.ax xy,.str y]
def aex(b:aC)(a:List L4.D):AS [.obj 14 (n6++b) (d6 T M dk++a)]=U (.ax xy):=by kernel_rfl
def Xe(a:aC)(b:List L4.D)(q:Sl)(c:(n6++a).contains "all_verbs" = δ):Bp 16 (vt xQ (ab (v9 yH "all_verbs" ae vH) vH)) (wR T M dk (n6++a) (d6 T M dk++b) q)=U (vwD,wR T M dk (n6++a) (d6 T M dk++b) q):=
 Ua (vv (vz (wQ J J c J (aex a b)) J) aev) acs
abbrev oV:=(ab aR vH)
def Ub(y:Str)(b:aC)(a:List L4.D)(q:Sl):Bp 16 (cL (v7 yn (ab (c1 (vU zC "your_name") ae) oV))) (wR T M dk (n7++b) (d7 T M dk y++a) q)=U (.ax (shD T y),wR T M dk (n7++b) (d7 T M dk y++a) q):=
 Ua (wA (vv J (aes T y))) (acv y)
abbrev n13:aC:=["kept_things", "kept_marks", "kept_dark", "kept_ways", "kept_verbs", "shared_verbs", "your_name", "things_by_name", "mosts_by_name", "verbs_by_word", "kept_rules", "shared_rules", "copied_rules"]
def w_rb(y:Str)(a b c d:L4.D)(q:Sl):Bp 16 (vt Bv (ab (cL (xJ (c1 (vU zr "copied_rules") ae) (c1 (vU zt "shared_rules") ae))) vH)) (wR T M dk n13 [TD T,MD M,.ax (dk.map D.str),.ax (x? T),.ax [],.ax xy,.str y,a,b,c,d,.ax (shD T y),.ax []] q)=U (rbD T y,wR T M dk n13 [TD T,MD M,.ax (dk.map D.str),.ax (x? T),.ax [],.ax xy,.str y,a,b,c,d,.ax (shD T y),.ax []] q):=
 Ua (vv (vz (wA (yX J J (by have:=acw (T:=T) y;simp;omega))) J) (aew y)) (acu y)
def KJ{c:Str}{e:FE}{d:L4.D}{a:aC}{b:List L4.D}{q:Sl}{g:FS}{r:Option p?}(f:e (wR T M dk a b q)=U (d,wR T M dk a b q))(i:a.contains c=δ)(j:b.length=a.length)(l:a.length<900)(h:g (wR T M dk (a++[c]) (b++[d]) q)=r):a7 (wo 14 0 c e) g (wR T M dk a b q)=r:=(vp (w_fl f i j l)).t h
def Uc(g:fh T M dk)(y:Str)(b:(T.filter λt=>decide (t.k=.you)).map Th.n=[y]){a:L4.D}(emo:xP [TD T,MD M]=U a):zZ [TD T,MD M,.ax (dk.map D.str),.ax (x? T),.ax [],.ax []]=U (wNs,wDs T M dk y a):=by
 have c:=g.len;have e:zY (wR T M dk [] [] .un)=U (.nx (wR T M dk wNs (wDs T M dk y a) (.q (.bl γ)))):=by
  refine(vp (wV (vv (vz J (vz J (vz J (vz J (vz J (vz (wA (vv J Mp)) J)))))) (HX g)))).t ?_
  iterate 5 refine KJ J J J #[] ?_
  refine KJ (wA (vv J Mp)) J J #[] (KJ (aeu y () b) J J #[] (KJ (vv J (NX T () g.t9)) J J #[] (KJ (vv J emo) J J #[]
   (KJ (Xe ["your_name", "things_by_name", "mosts_by_name"] [.str y,.J (nK T) (T.map fm),a] .un J) J J #[] ?_))))
  calc(vp ((vL (Ua J J)))).t ((vp (xI J)).t ?_);calc KJ J J J #[] (KJ (Ub y ["things_by_name", "mosts_by_name", "verbs_by_word", "kept_rules"] [.J (nK T) (T.map fm),a,vwD,.ax []] (.q (.bl γ))) J J #[] (KJ J J J #[] ?_));show w_fl (w_rb y _ _ _ _ (.q (.bl γ))) J J #[]
 delta zZ z5;rw[af (show [TD T,MD M,D.ax (dk.map D.str),D.ax (x? T),D.ax [],D.ax []].length=6 from J)];rw[show zY (stI 14 8 [TD T,MD M,.ax (dk.map D.str),.ax (x? T),.ax [],.ax []])=U (.nx (wR T M dk wNs (wDs T M dk y a) (.q (.bl γ)))) from e];rfl
end
def IL(ds:List L4.D):Prop:=∃a:List Int,ds=a.map D.int
def IL.nil:IL []:=#v[[],J]
def IL.snoc{a:List L4.D}(h:IL a)(i:Int):IL (a++[.int i]):=by let#v[b,rfl]:=h;show#v[b++[i],by rw[bg];rfl]
def IL.sub{b a:List L4.D}(h:IL b)(c:∀d∈a,d∈b):IL a:=by
 induction a with
 |nil=>show IL.nil
 |cons d a e=>let#v[f,rfl]:=e λd hd=>c d (ba _ hd);let#v[j,rfl]:=h;let#v[i,_,rfl]:=av.1 (c d aP);show#v[i::f,J]
def Xf{a:List L4.D}{lo b:Option Int}:∀d∈ij a lo b,d∈a:=λd hd=>by show l7 (List.mem_of_mem_take hd)
def Ud:FS:=(a7 (v3 (zP 2 (c2 yg aB (c2 FC iO dD))))
 (vM 3 (c2 DF aB (c2 FC iO dD))))
def Ue:FT:=DG (Ao (cT (c2 Lx aB aY)) (cT (c2 IF (c1 w6 az) ao)))
theorem F9(c:Int)(m:Nat)(i:m<=130):∀(n:Nat) (a:List L4.D) (r:Int),IL a->a.length<=m->m - a.length<n->∃b o,IL b/\b.length<=m/\
  O' Ue Ud n [.q (.int c),.q (.int m),.I a,.q (.int r),.un,.un,.un]=U (.nx [.q (.int c),.q (.int m),.I b,.q (.int o),.un,.un,.un])
 |0,a,r,_,_,h=>au h (ra _)
 |n+1,a,r,d,f,q=>by
  have l:Ue [.q (.int c),.q (.int m),.I a,.q (.int r),.un,.un,.un]=U (decide (0<r)&&decide (a.length<m),[.q (.int c),.q (.int m),.I a,.q (.int r),.un,.un,.un]):=by
   calc J2 (ρ1:=[.q (.int c),.q (.int m),.q (.ax a),.q (.int r),.un,.un,.un]) ?_;change Ao _ _ [.q (.int c),.q (.int m),.q (.ax a),.q (.int r),.un,.un,.un]=_;delta Ao;rw[show cT (c2 Lx aB aY) [.q (.int c),.q (.int m),.q (.ax a),.q (.int r),.un,.un,.un]=U (decide (0<r),[.q (.int c),.q (.int m),.q (.ax a),.q (.int r),.un,.un,.un]) from J];cases decide (0<r)with
   |false=>rfl
   |true=>change cT (c2 IF (c1 w6 az) ao) _=U (decide (a.length<m),_);rw[show cT (c2 IF (c1 w6 az) ao) [.q (.int c),.q (.int m),.q (.ax a),.q (.int r),.un,.un,.un]=U (decide ((a.length:Int)<m),[.q (.int c),.q (.int m),.q (.ax a),.q (.int r),.un,.un,.un]) from J];erw[Int.ofNat_lt]
  delta O';rw[l];cases j:(decide (0<r)&&decide (a.length<m))with
  |false=>show#v[a,r,d,f,J]
  |true=>
   rw[bt,bV,bV]at j;have e:Ud [.q (.int c),.q (.int m),.I a,.q (.int r),.un,.un,.un]=U (.nx [.q (.int c),.q (.int m),.I (a++[.int (r % 1000000)]),.q (.int (r / 1000000)),.un,.un,.un]):=by calc(vp ((wV (CC J (vA J J (zW #[])) J ())))).t ?_;show(vL (vA J J (Kx #[] #[]))).t J
   erw[e];show F9 c m i n _ _ (d.snoc _) (by rw[aG,bu];omega) (by rw[aG,bu];omega)
def fBody:FS:=(a7 (vM 4 (c2 yg (c2 zK (c2 wq (c2 wq aR (c2 zK (cC (.int 7919)) aV)) aN) lF) f9))
 (a7 (vM 6 (c2 yg (c2 zK aR (c2 wq (c2 DF aR (cC (.int 1009))) (cC (.int 69621)))) f9))
 (v3 (zP 2 (c2 yg (c2 zK bp (c2 wq (c2 DF bp (cC (.int 2003))) (cC (.int 40692)))) (cC (.int 2147483399)))))))
def modS(a:Int):0<=a % 2147483647/\a % 2147483647<2147483647:=#v[m5 _ #[],mB _ #[]]
theorem JE(a b r:Sl):∀(l:List Int) (c:List L4.D) (x:Int) (f e:Sl),IL c->c.length+l.length<=900->∃d m i j,IL d/\
  fu (gN 5) fBody (l.map D.int) [a,b,.I c,r,.q (.int x),f,e]=U (.nx [a,b,.I d,r,.q (.int m),i,j])
 |[],c,x,f,e,h,_=>#v[c,x,f,e,h,J]
 |k::l,c,x,f,e,h,w=>by
  rw[aK]at w;let y:=(x+7919 * k+1) * 48271 % 2147483647;let z:=y * (y / 1009+69621) % 2147483647;let v:=z * (z / 2003+40692) % 2147483399;have o:=modS ((x+7919 * k+1) * 48271);have p:=modS (y * (y / 1009+69621));have q:fBody [a,b,.I c,r,.q (.int x),.q (.int k),e]=U (.nx [a,b,.I (c++[.int v]),r,.q (.int y),.q (.int k),.q (.int z)]):=by calc(vp ((vL (vA (vA (vA (vA J (vA J J (Ac (.inl #[]))) J) J J) J (Ac (.inr #[]))) J (zW #[]))))).t ?_;calc(vp ((vL (vA (vA J (vA (vA J J (Kx #[] #[])) J J) (Ac (.inl (LF o.1 o.2)))) J (zW #[]))))).t ?_;show(wV (CC J (vA (vA J (vA (vA J J (Kx #[] #[])) J J) (Ac (.inl (LF p.1 p.2)))) J (zW #[])) J ())).t J
  let#v[d,m,i,j,t,u]:=JE a b r l (c++[.int v]) y (.q (.int k)) (.q (.int z)) (h.snoc _) (by rw[aG,bu];omega);calc#v[d,m,i,j,t,?_];rw[aA];delta fu;rw[show gN 5 (.int k) [a,b,.I c,r,.q (.int x),f,e]=U [a,b,.I c,r,.q (.int x),.q (.int k),e] from J];erw[q];show u
def Mq(c:Int)(m:Nat)(p:m<=130):∃ds,IL ds/\zc [.int c,.int m]=U ds:=by
 have fin:∀f:Int,∃ds,IL ds/\∃a,a7 (O' Ue Ud 200) (a7 (vM 4 (c2 yg (c2 zK (c2 wq (c2 yg ae f9) aN) lF) f9)) (a7 (yx (v? ao) (gN 5) fBody) (xB (CD (vu 2) oNo (A? ao))))) [.q (.int c),.q (.int m),.I [],.q (.int f),.un,.un,.un]=U (.rn ds a):=λf=>by let#v[ds,r,d,e,j]:=F9 c m p 200 [] f IL.nil (bM _) (by simp;omega);let x:=(c % 2147483647+1) * 48271 % 2147483647;let#v[b,u,q,t,l,o]:=JE (.q (.int c)) (.q (.int m)) (.q (.int r)) ((bh m).map λ(i:Nat)=>(0:Int)+(i:Int)) ds x .un .un d (by rw[ak,cG];omega);calc#v[ij b Z (U m),l.sub Xf,[.q (.int c),.q (.int m),.q (.ax b),.q (.int r),.q (.int u),q,t],?_];calc(vp j).t ?_;calc(vp ((vL (vA (vA (vA (vA J J (zW #[])) J J) J (Ac (.inr #[]))) J (zW #[]))))).t ?_;calc(vp ((wW ?_).t o));change (if -1000000<=(m:Int)/\(m:Int)<=1000000 then U (Cp 0 (m:Int).toNat,_)else Z)=_;rw[af (),ik];rw[aT];rfl
 by_cases h:(1000000000000000000:Int)<=c
 .let#v[ds,d,a,e]:=fin (c - 1000000000000000000);calc#v[ds,d,DS (ρ:=a) J ?_];calc(vp J).t ((vp J).t ((vp ((wz (ρ':=[.q (.int c),.q (.int m),.I [],.q (.int 0),.un,.un,.un]) ?_))).t e));calc wt (vA (y:=.int 1000000000000000000) J J ?_);change U (D.bl (decide _))=_;rw[aI h]
 .let#v[ds,d,a,e]:=fin 0;calc#v[ds,d,DS (ρ:=a) J ?_];calc(vp J).t ((vp J).t ((vp ((v5 ?_))).t e));calc wt (vA (y:=.int 1000000000000000000) J J ?_);change U (D.bl (decide _))=_;rw[aL h]
theorem JF:∀a:List Int,A4 (a.map D.int)=U (a.map L3.Dq.int)
 |[]=>rfl
 |x::a=>by rw[aA];delta A4;rw[JF a];rfl
def Mr(x:Int)(a:List Int):ey δ (.ax ((x::a).map D.int)) (.ax [])=U (.bl δ):=by
 have c:E9 δ (.ax ((x::a).map D.int)) (.ax [])=Z:=rfl;have d:oy (.ax ((x::a).map D.int))=U (.ax ((x::a).map L3.Dq.int)):=by delta oy;rw[JF]
 have e:∀b:List Int,wY (b.map L3.Dq.int)=0:=λb=>by
  induction b with
  |nil=>rfl
  |cons y b h=>rw[aA];delta wY;rw[h];delta gw;rfl
 have f:gw (.ax ((x::a).map L3.Dq.int))=1:=by rw[gw,e]
 delta ey;rw[c];delta Ge;rw[d,show oy (.ax [])=U (.ax []) from J];change (if Lj (.ax ((x::a).map L3.Dq.int)) (.ax [])&&decide (gw (.ax ((x::a).map L3.Dq.int))<=20)&&decide (gw (.ax [])<=20)then U (D.bl (nf (.ax ((x::a).map L3.Dq.int)) (.ax [])))else Z)=_;rw[f];rfl
def xq{d:List L4.D}(h:IL d)(n:Int)(c:0<n):∃r b,IL b/\0<=r/\r<n/\vq d [.int n]=U (.int r,b):=by
 let#v[a,rfl]:=h;cases a with
 |nil=>show#v[0,[],IL.nil,sI _,c,J]
 |cons x a=>calc#v[x % n,a.map D.int,#v[a,J],m5 _ (),mB _ c,?_];calc aap (ρ:=[.pm (a.map D.int),.q (.int n)]) J ?_ J;calc(vp ((v5 (J2 (wt (vA J J (Mr x a))))))).t ?_;show vX (vA J J (zW c))
def ti:Str:="bcdefghijklmnopqrstuvwxyz"
#print h
def acx(i:Nat)(h:i<25):e7 (.str ti) (.int i)=U (.str #v[#[98+i]]):=by
 have q:((bh 25).all λi=>match e7 (.str ti) (.int i)with|some (.str x)=>decide (x=#v[#[98+i]])|_=>δ)=γ:=by kernel_rfl
 have:=bF.1 q i (bR.2 h);revert this;split
 .rename_i x e;intro z;rw[e,bj z]
 .intro z;ext z
#print f
abbrev gZ:=(ab (cC (.int 8)) vH)
def nElt:FE:=(c2 LG (c2 e7 ao (c2 yg (c2 wq aB (c2 zK (cC (.int 7)) ae)) lG)) (c2 wq aN (v8 vq 2 gZ)))
def Xg{b:List L4.D}(h:IL b)(s k:Nat):∃c a,c<8/\IL a/\nElt [.q (.int k),.q (.str ti),.pm b,.q (.int s)]=U (.str (nmS ((s+7 * k) % 25) c),[.q (.int k),.q (.str ti),.pm a,.q (.int s)]):=by
 let#v[r,a,j,l,p,m]:=xq h 8 #[];let#v[c,rfl]:=c9 l;calc#v[c,a,by omega,j,?_];have o:(s+7 * k) % 25<25:=eL _ #[];let d:aU:=[.q (.int k),.q (.str ti),.pm b,.q (.int s)];let e:aU:=[.q (.int k),.q (.str ti),.pm a,.q (.int s)];have f:c2 e7 ao (c2 yg (c2 wq aB (c2 zK (cC (.int 7)) ae)) lG) d=U (.str #v[#[98+(s+7 * k) % 25]],d):=by
  calc vA J (vA (vA J (vA J J (Ac (.inl #[]))) J) J ((zW #[]).t ?_)) (acx _ o);have:((s:Int)+7 * k) % 25=(((s+7 * k) % 25:Nat):Int):=by omega
  rw[this]
 have i:c2 wq aN (v8 vq 2 gZ) d=U (.int (1+(c:Int)),e):=vA J ((yh J J J m).t J) J;calc vA f i ?_;change (if 0<=1+(c:Int)/\1+(c:Int)<=1000/\sJ #v[#[98+(s+7 * k) % 25]]<=100 then U (D.str (jN #v[#[98+(s+7 * k) % 25]] (1+(c:Int))))else Z)=_;rw[af #v[by omega,by omega,by change 1<=100;decide]];rfl
theorem Ms(s:Nat):∀(l:List Nat) (b:List L4.D),IL b->∃cs a,cs.length=l.length/\(∀c∈cs,c<8)/\IL a/\
  yW 1 [2,0,1] (gN 0) wG nElt (l.map λ(k:Nat)=>D.int k) [.pm b,.q (.int s),.q (.str ti)]=U (dP (λ(k c:Nat)=>D.str (nmS ((s+7 * k) % 25) c)) l cs,[.pm a,.q (.int s),.q (.str ti)])
 |[],b,h=>#v[[],b,J,λc r=>(bY r).elim,h,J]
 |k::l,b,h=>by
  let#v[c,d,f,i,j]:=Xg h s k;let#v[cs,a,m,o,p,q]:=Ms s l d i;refine#v[c::cs,a,by rw[aK,aK,m],λx e=>?_,p,?_]
  .rcases aD.1 e with rfl|e
   .show f
   .show o x e
  .rw[aA];delta yW;rw[show gN 0 (.int k) (Du 1 [2,0,1] [.pm b,.q (.int s),.q (.str ti)])=U [.q (.int k),.q (.str ti),.pm b,.q (.int s)] from J];erw[wG,j];rw[show yE [2,0,1] (([.q (.int k),.q (.str ti),.pm d,.q (.int s)]:aU).drop 1) [.pm b,.q (.int s),.q (.str ti)]=U [.pm d,.q (.int s),.q (.str ti)] from J];erw[q];rfl
theorem Ug(s:Nat)(t:s<25):∀(l cs:List Nat),cs.length=l.length->(∀c∈cs,c<8)->(l.map λk=>(s+7 * k) % 25).Nodup->∃N:aC,N.length=l.length/\(∀x∈N,Nm x)/\N.Nodup/\(∀x∈N,∃k∈l,sg x=98+(s+7 * k) % 25)/\dP (λ(k c:Nat)=>D.str (nmS ((s+7 * k) % 25) c)) l cs=N.map D.str
 |[],[],_,_,_=>#v[[],J,λx h=>(bY h).elim,iu,λx h=>(bY h).elim,J]
 |[],c::cs,h,_,_=>by cases h
 |k::l,[],h,_,_=>by cases h
 |k::l,c::cs,h,b,f=>by
  rw[aA,cu]at f;let#v[N,o,p,q,i,r]:=Ug s t l cs (by exists h) (λx a=>b x (ba _ a)) f.2;have m:(s+7 * k) % 25<25:=eL _ #[];have hsg:=aer m (b c aP);refine#v[nmS ((s+7 * k) % 25) c::N,by rw[aK,aK,o],λx a=>?_,?_,λx a=>?_,?_]
  .rcases aD.1 a with rfl|a
   .show#v[_,_,m,b c aP,J]
   .show p x a
  .rw[cu];calc#v[λz=>?_,q];let#v[j,d,e]:=i _ z;rw[hsg]at e;show f.1 (av.2 #v[j,d,by omega])
  .rcases aD.1 a with rfl|a
   .show#v[k,aP,hsg]
   .let#v[j,d,e]:=i x a;show#v[j,ba _ d,e]
  .rw[fO,r];rfl
structure Nms(N:aC):Prop where
 len:N.length=17
 nm:∀x∈N,Nm x
 nd:N.Nodup
def Uh{d:List L4.D}(h:IL d):∃N a,Nms N/\IL a/\B8 d []=U (.ax (N.map D.str),a):=by
 let#v[r,b,f,i,B,j]:=xq h 25 #[];let#v[s,rfl]:=c9 i;have e:s<25:=by omega
 let#v[cs,c,l,m,o,p]:=Ms s (bh 17) b f;have y:=by
  have q:((bh 25).all λs=>decide ((bh 17).map λk=>(s+7 * k) % 25).Nodup)=γ:=by decide +kernel
  show bj (bF.1 q s (bR.2 e))
 let#v[N,t,u,w,_,x]:=Ug s e (bh 17) cs l m y;calc#v[N,c,#v[by rw[t,cG],u,w],o,aaq (ρ:=[.pm c,.q (.int s),.q (.str ti)]) J ?_ J];calc(vp ((vL (yh J J J j)))).t ?_;calc(vp (ρ':=[.pm b,.q (.int s),.q (.str ti)]) J).t ?_;calc zV ((AK (ds:=(bh 17).map λ(k:Nat)=>D.int k) ?_ (by simp)).t (by rw[<-x];show p));delta v?;change (if _ then U (Cp 0 17,_)else Z)=_;rw[af #[]];delta Cp;erw[Int.zero_add]
structure Rw where
 n:Str
 k:Kd
 s:Option Str
def we(r:Rw):L4.D:=.bx [.str r.n,.str r.k.s,oS r.s]
def KL(l:List Rw)(r:Rw):Prop:=(r.k=.room/\r.s=Z)\/(r.k=.you/\∃u∈l,r.s=U u.n/\u.k=.room)\/(r.k.pl=γ/\∃u∈l,r.s=U u.n/\u.k.hd=γ)
inductive Ord:List Rw->Prop
 |nil:Ord []
 |snoc {l:List Rw} {r:Rw} (h:Ord l) (h':KL l r):Ord (l++[r])
def KL.mono{l e:List Rw}{r:Rw}(h:KL l r)(d:∀u∈l,u∈e):KL e r:=by
 rcases h with h|⟨a,u,b,c⟩|⟨a,u,b,c⟩
 .show .inl h
 .show .inr (.inl #v[a,u,d u b,c])
 .show .inr (.inr #v[a,u,d u b,c])
def Ord.all{l:List Rw}(h:Ord l):∀r∈l,KL l r:=by
 induction h with
 |nil=>show λr hr=>(bY hr).elim
 |snoc h b c=>
  intro r hr;rcases bC.1 hr with hr|hr
  .show(c r hr).mono λu a=>bO _ a
  .rw[aO]at hr;subst hr;show b.mono λu a=>bO _ a
def KL.start{l:List Rw}{r:Rw}(h:KL l r){p:Str}(a:r.s=U p):∃u∈l,u.n=p:=by
 rcases h with ⟨_,h⟩|⟨_,u,b,c,_⟩|⟨_,u,b,c,_⟩
 .rw[h]at a;ext a
 .rw[c]at a;ext a;show#v[u,b,J]
 .rw[c]at a;ext a;show#v[u,b,J]
def Ord.rank{l:List Rw}(h:Ord l):(l.map Rw.n).Nodup->∃b:Str->Nat,∀t∈l,b t.n<l.length/\∀p,t.s=U p->b p<b t.n/\∃u∈l,u.n=p:=by
 induction h with
 |nil=>show λk=>#v[λk=>0,λt ht=>(bY ht).elim]
 |@snoc l r h f m=>
  intro d;rw[bg,cq]at d;let#v[b,e]:=m d.1;have ne:∀u∈l,u.n≠r.n:=λu a z=>d.2.2 _ (cc a) _ (by simp) z;calc#v[λx=>if x=r.n then l.length else b x,λt ht=>?_];rw[aG,bu];dsimp only;rcases bC.1 ht with ht|ht
  .let#v[o,i]:=e t ht;rw[ah (ne t ht)];calc#v[by omega,λp c=>?_];let#v[j,u,a,rfl]:=i p c;rw[ah (ne u a)];show#v[j,u,bO _ a,J]
  .rw[aO]at ht;subst ht;rw[af J];calc#v[by omega,λp c=>?_];let#v[u,a,rfl]:=f.start c;rw[ah (ne u a)];show#v[(e u a).1,u,bO _ a,J]
def yt{l:aC}{j:Nat}{x:Str}(h:l[j]?=U x):z0 (l.map D.str) (j:Int)=U (.str x):=Oq (by rw[br,h];rfl)
def kT:List Kd:=[.plain,.box,.lamp,.fixed,.box,.lamp,.box,.plain]
def aez(j:Nat)(h:j<8):∃k,k∈kT/\e7 (.ax [.str "plain", .str "box", .str "lamp", .str "fixed", .str "box", .str "lamp", .str "box", .str "plain"]) (.int j)=U (.str (Kd.s k)):=
 #v[kT[j]'h,cI _,yt (l:=kT.map Kd.s) (by rw[br,aH (show j<kT.length from h)];rfl)]
#print "gd box;oG plain;oH lamp" in abbrev ϑ0:=(cC (.str "ϑ1"))
abbrev lJ:=(ab (Em (c1 w6 aR)) vH)
def YF:FS:=(a7 (vM 6 (c2 e7 (cL (vO (ab oG (ab gd (ab oH (ab (cC (.str "fixed")) (ab gd (ab oH (ab gd (ab oG vH)))))))))) (v8 vq 2 gZ)))
 (a7 (v3 (zP 3 (wg (ab aV (ab bp (ab (E6 4 (v8 vq 2 lJ)) vH))))))
 (gs (cT (c2 (ey δ) bp gd)) (v3 (zP 4 aV)) vZ)))
def KM{ρ:aU}{i j:Nat}{c:List L4.D}{b:aC}(h:IL c)(o:b≠[])(d:xh ρ i=U c)(w:xh ρ j=U (b.map D.str))(u:cV j (ρ.map Sl.ω)=U (.ax (b.map D.str),ρ.map Sl.ω))(hne:∀a,xh (putAt ρ i a) j=U (b.map D.str)):
  ∃x a,x∈b/\IL a/\E6 j (v8 vq i (ab (Em (c1 w6 (cV j))) vH)) ρ=U (.str x,putAt ρ i a):=by
 have z:=eY.2 o;let#v[r,a,p,q,y,t]:=xq h b.length ();let#v[m,rfl]:=c9 q;have e:m<b.length:=by omega
 calc#v[b[m],a,cI e,p,?_];have f:Em (c1 w6 (cV j)) ρ=U (.int b.length,ρ):=Sm (wu u (by change U (D.int _)=_;rw[ak])) J;have l:v8 vq i (ab (Em (c1 w6 (cV j))) vH) ρ=U (.int m,putAt ρ i a):=yh d (vz f J) d t;delta E6;rw[w];erw[l,hne a];rw[show z0 (b.map D.str) (m:Int)=U (.str b[m]) from yt (aH e)]
theorem Ga(a b:Sl)(B:List Rw):∀(l:aC) (t:List L4.D) (O:List Rw) (d:aC) (E z:Sl),IL t->d≠[]->(∀x∈d,∃u∈B++O,u.n=x/\u.k.hd=γ)->Ord (B++O)->O.length+l.length<=900->d.length+l.length<=900->
  ∃(q:List L4.D) (C:List Rw) (w:aC) (Q R:Sl),IL q/\Ord (B++(O++C))/\C.map Rw.n=l/\(∀r∈C,r.k.pl=γ)/\
   fu (gN 5) YF (l.map D.str) [a,b,.pm t,.I (O.map we),.I (d.map D.str),E,z]=U (.nx [a,b,.pm q,.I ((O++C).map we),.I (w.map D.str),Q,R])
 |[],t,O,d,E,z,I,_,_,N,_,_=>#v[t,[],d,E,z,I,by rw[bD];show N,J,λr hr=>(bY hr).elim,by rw[bD];rfl]
 |x::l,t,O,d,E,z,I,W,hH,N,hl,M=>by
  rw[aK]at hl M;let#v[r,G,h1,h2,h3,h4]:=xq I 8 #[];let#v[j,rfl]:=c9 h2;let#v[k,hk,ek]:=aez j ();let S:=[a,b,.pm G,.I (O.map we),.I (d.map D.str),.q (.str x),.q (.str k.s)];let#v[p,m,hp,h5,X]:=KM (ρ:=S) (i:=2) (j:=4) h1 W J J J (λg=>J);have hpl:=by
   have:∀k∈kT,Kd.pl k=γ:=by decide
   show this k hk
  let e:Rw:=#v[x,k,U p];let#v[u,hu,hun,huk]:=hH p hp;have ok:KL (B++O) e:=.inr (.inr #v[hpl,u,hu,by rw[hun],huk]);let c:=if k=.box then d++[x]else d
  have Y:YF [a,b,.pm t,.I (O.map we),.I (d.map D.str),.q (.str x),z]=U (.nx [a,b,.pm m,.I ((O++[e]).map we),.I (c.map D.str),.q (.str x),.q (.str k.s)]):=by
   calc(vp ((vL (vA J (yh J J J h4) ek)))).t ?_;let ρ2:=[a,b,.pm m,.I (O.map we),.I (d.map D.str),.q (.str x),.q (.str k.s)];let A:=[a,b,.pm m,.I ((O++[e]).map we),.I (d.map D.str),.q (.str x),.q (.str k.s)];refine(vp (ρ':=A) ((wV (CC J (zl (vz J (vz J (vz X J))) (by change 3<=1000;decide)) J (by rw[ak];omega))).t ?_)).t ?_
   .change U (p?.nx [a,b,.pm m,.I (O.map we++[we e]),.I (d.map D.str),.q (.str x),.q (.str k.s)])=_;rw[show O.map we++[we e]=(O++[e]).map we by rw[bg];rfl]
   .have F:cT (c2 (ey δ) bp gd) A=U (decide (k=.box),A):=wt (vA J J (F8 k .box));by_cases f:k=.box
    .rw[aI f]at F;calc(wz F).t ((wV (CC J J J (by rw[ak];omega))).t ?_);change U (p?.nx [a,b,.pm m,.I ((O++[e]).map we),.I (d.map D.str++[.str x]),.q (.str x),.q (.str k.s)])=_;rw[show c.map D.str=d.map D.str++[.str x] by rw[show c=d++[x] from af f,bg];rfl]
    .rw[aL f]at F;calc(v5 F).t ?_;rw[show c=d from ah f];rfl
  have P:Ord (B++(O++[e])):=by rw[<-bL];show N.snoc ok
  have hH1:∀y∈c,∃u∈B++(O++[e]),u.n=y/\u.k.hd=γ:=λy o=>by
   have old:y∈d->∃u∈B++(O++[e]),u.n=y/\u.k.hd=γ:=λo=>by let#v[v,hv,h]:=hH y o;show#v[v,by rw[<-bL];show bO _ hv,h]
   by_cases f:k=.box
   .rw[show c=d++[x] from af f]at o;rcases bC.1 o with o|o
    .show old o
    .rw[aO]at o;calc#v[e,by simp,o.symm,?_];change k.hd=γ;rw[f];rfl
   .rw[show c=d from ah f]at o;show old o
  have H:c≠[]:=by
   by_cases f:k=.box
   .rw[show c=d++[x] from af f];simp
   .rw[show c=d from ah f];show W
  have hl1:c.length<=d.length+1:=by
   by_cases f:k=.box
   .rw[show c=d++[x] from af f];simp
   .rw[show c=d from ah f];omega
  let#v[q,C,w,Q,R,g1,T,g3,g4,g5]:=Ga a b B l m (O++[e]) c (.q (.str x)) (.q (.str k.s)) h5 H hH1 P (by rw[aG,bu];omega) ();refine#v[q,e::C,w,Q,R,g1,by rw[bL]at T;show T,by rw[aA,g3],λr hr=>?_,?_]
  .rcases aD.1 hr with rfl|hr
   .show hpl
   .show g4 r hr
  .rw[aA];delta fu;rw[show gN 5 (.str x) [a,b,.pm t,.I (O.map we),.I (d.map D.str),E,z]=U [a,b,.pm t,.I (O.map we),.I (d.map D.str),.q (.str x),z] from J];erw[Y];rw[g5,bL];rfl
def Ui{a:List L4.D}(k:Nat)(h:k<=a.length):ij a Z (U (k:Int))=a.take k:=by delta ij;rw[HT.K7,HT.Gk,gG h,List.drop_zero,Nat.sub_zero]
def acy{a:List L4.D}(k:Nat)(h:k<=a.length):ij a (U (k:Int)) Z=a.drop k:=by delta ij;rw[HT.K7,HT.Gk,gG h,ka (by rw[dg];omega)]
def Pf{a:List L4.D}(k m:Nat)(h:k+m<=a.length):ij a (U (k:Int)) (U ((k+m:Nat):Int))=(a.drop k).take m:=by delta ij;rw[HT.Gk,HT.Gk,gG h,gG (show k<=a.length by omega)];congr 1;omega
def QJ{N rooms:aC}(hN:Nms N)(B:List Rw){d:List L4.D}(h:IL d)(hB:Ord B)(P:rooms.length<=100)(hH:∀x∈rooms++[N[5]'(by rw[hN.len];decide)],∃u∈B,u.n=x/\u.k.hd=γ):
  ∃(q:Nat) (b:List L4.D) (O:List Rw),q<8/\IL b/\Ord (B++O)/\O.map Rw.n=(N.drop 6).take q/\(∀r∈O,r.k.pl=γ)/\xV d [.ax (N.map D.str),.ax (rooms.map D.str)]=U (.ax (O.map we),b):=by
 have C:5<N.length:=by rw[hN.len];decide
 let#v[r,c,y,z,M,A]:=xq h 8 #[];let#v[q,rfl]:=c9 z;let a:=rooms++[N[5]];let#v[b,O,f,F,G,p,j,t,w,l]:=Ga (.q (.ax (N.map D.str))) (.q (.ax (rooms.map D.str))) B ((N.drop 6).take q) c [] a .un .un y (by simp[a]) (λx E=>by rw[bD];show hH x E) (by rw[bD];show hB) (by rw[cf,dg,hN.len];simp;omega) (by rw[cf,dg,hN.len];simp[a];omega);rw[bP]at j l;calc#v[q,b,O,by omega,p,j,t,w,?_];have run:Bd (K? 7 d [.ax (N.map D.str),.ax (rooms.map D.str)])=U (.rn (O.map we) [.q (.ax (N.map D.str)),.q (.ax (rooms.map D.str)),.pm b,.un,.I (f.map D.str),F,G]):=by
  calc(vp J).t ?_;refine(vp (ρ':=[.q (.ax (N.map D.str)),.q (.ax (rooms.map D.str)),.pm d,.I [],.I (a.map D.str),.un,.un]) ((BK (yX J (wA (BL (vz (vA J J (yt (aH C))) J) (by change 1<=1000;decide))) (by rw[ak];simp;omega))).t ?_)).t ?_
  .change U (p?.nx [_,_,_,_,.I (rooms.map D.str++[.str N[5]]),_,_])=_;rw[show rooms.map D.str++[.str N[5]]=a.map D.str by simp[a]]
  .calc(vp ((wW (ρ1:=[.q (.ax (N.map D.str)),.q (.ax (rooms.map D.str)),.pm c,.I [],.I (a.map D.str),.un,.un]) ?_).t l));have e:CD ae (A? dD) (A? (c2 wq dD (v8 vq 2 gZ))) [.q (.ax (N.map D.str)),.q (.ax (rooms.map D.str)),.pm d,.I [],.I (a.map D.str),.un,.un]=U (((N.drop 6).take q).map D.str,[.q (.ax (N.map D.str)),.q (.ax (rooms.map D.str)),.pm c,.I [],.I (a.map D.str),.un,.un]):=by
    have m:c2 wq dD (v8 vq 2 gZ) [.q (.ax (N.map D.str)),.q (.ax (rooms.map D.str)),.pm d,.I [],.I (a.map D.str),.un,.un]=U (.int ((6+q:Nat):Int),[.q (.ax (N.map D.str)),.q (.ax (rooms.map D.str)),.pm c,.I [],.I (a.map D.str),.un,.un]):=vA J ((yh J J J A).t J) (by change U (D.int (6+(q:Int)))=_;congr 2);have o:A? (c2 wq dD (v8 vq 2 gZ)) [.q (.ax (N.map D.str)),.q (.ax (rooms.map D.str)),.pm d,.I [],.I (a.map D.str),.un,.un]=U (U ((6+q:Nat):Int),[.q (.ax (N.map D.str)),.q (.ax (rooms.map D.str)),.pm c,.I [],.I (a.map D.str),.un,.un]):=by delta A?;rw[m]
    change (match A? (c2 wq dD (v8 vq 2 gZ)) [.q (.ax (N.map D.str)),.q (.ax (rooms.map D.str)),.pm d,.I [],.I (a.map D.str),.un,.un]with
     |some (h,i)=>U (ij (N.map D.str) (U 6) h,i)
     |none=>Z)=_
    rw[o];change U (ij (N.map D.str) (U ((6:Nat):Int)) (U ((6+q:Nat):Int)),_)=_;rw[Pf 6 q (by rw[ak,hN.len];omega),iB,iA]
   delta iL;rw[wA e]
 delta xV vx;rw[af (show [D.ax (N.map D.str),D.ax (rooms.map D.str)].length=2 from J),run];rfl
def insB:FS:=(a7 (vM 7 (v8 vq 1 (ab (c2 wq (c1 w6 aV) aN) vH)))
 (vM 5 (cL (xJ (cL (xJ (cL (CD aV oNo (A? bW))) (cL (vO (ab bp vH))))) (cL (CD aV (A? bW) oNo))))))
theorem Mt{a b c d q t e f h i:Sl}:∀(l:List Rw) (p:List L4.D) (R:List Rw) (x u:Sl),IL p->R.length+l.length<=900->∃(m:List L4.D) (y:List Rw) (A B:Sl),IL m/\y.Perm (R++l)/\
  fu (gN 6) insB (l.map we) [a,.I p,b,c,d,.q (.ax (R.map we)),x,u,q,t,e,f,h,i]=U (.nx [a,.I m,b,c,d,.q (.ax (y.map we)),A,B,q,t,e,f,h,i])
 |[],p,R,x,u,z,_=>#v[p,R,x,u,z,by rw[bD],J]
 |r::l,p,R,x,u,z,S=>by
  rw[aK]at S;let#v[v,o,O,P,T,Q]:=xq z ((R.map we).length+1:Int) ();let#v[k,rfl]:=c9 P;have C:k<=(R.map we).length:=by omega
  let w:=R.take k++r::R.drop k;have G:=by have:=(kJ (a:=r) (l₁:=R.take k) (l₂:=R.drop k));rw[ib]at this;show this.t (j6 r R).symm
  have hR1:w.length=R.length+1:=G.length_eq.t (by simp);let j:=[a,.I o,b,c,d,.q (.ax (R.map we)),.q (we r),.q (.int k),q,t,e,f,h,i];have H:insB [a,.I p,b,c,d,.q (.ax (R.map we)),.q (we r),u,q,t,e,f,h,i]=U (.nx [a,.I o,b,c,d,.q (.ax (w.map we)),.q (we r),.q (.int k),q,t,e,f,h,i]):=by
   calc(vp ((vL (yh J (show ab (c2 wq (c1 w6 aV) aN) vH _=U ([.int ((R.map we).length+1)],_) from J) J Q)))).t ?_;have c1:CD aV oNo (A? bW) j=U ((R.map we).take k,j):=by change U (ij (R.map we) Z (U (k:Int)),j)=_;rw[Ui k C]
   have c2:CD aV (A? bW) oNo j=U ((R.map we).drop k,j):=by change U (ij (R.map we) (U (k:Int)) Z,j)=_;rw[acy k C]
   refine(vL (wA (yX (wA (yX (wA c1) (wA (BL J (by change 1<=1000;decide))) ?_)) (wA c2) ?_))).t ?_
   .rw[cf,ak];simp;omega
   .rw[aG,cf,dg,ak];simp;omega
   .change U (p?.nx [a,.I o,b,c,d,.q (.ax ((R.map we).take k++[we r]++(R.map we).drop k)),.q (we r),.q (.int k),q,t,e,f,h,i])=_;rw[show (R.map we).take k++[we r]++(R.map we).drop k=w.map we by simp[w,iB,iA]]
  let#v[m,y,A,B,I,M,N]:=Mt l o w (.q (we r)) (.q (.int k)) O ();calc#v[m,y,A,B,I,M.t ((G.append_right l).t (by rw[bL];show kQ _)),?_];rw[aA];delta fu;rw[show gN 6 (we r) [a,.I p,b,c,d,.q (.ax (R.map we)),x,u,q,t,e,f,h,i]=U [a,.I p,b,c,d,.q (.ax (R.map we)),.q (we r),u,q,t,e,f,h,i] from J];erw[H];show N
def Gn(m:Mk):L4.D:=.bx [.str m.n,.int m.st,.int m.mo]
abbrev oW:=(ab fK vH)
def mkB:FS:=(a7 (vM 10 (c2 wq aN (v8 vq 1 oW)))
 (v3 (zP 8 (wg (ab dE (ab (v8 vq 1 (ab (c2 wq hJ aN) vH)) (ab hJ vH)))))))
theorem Pg{a b c d p q r e f h:Sl}:∀(l:aC) (t:List L4.D) (M:List Mk) (A i:Sl),IL t->M.length+l.length<=900->∃(j:List L4.D) (z:List Mk) (F u:Sl),IL j/\z.map Mk.n=l/\(∀m∈z,m.ok)/\
  fu (gN 9) mkB (l.map D.str) [a,.I t,b,c,d,p,q,r,.I (M.map Gn),A,i,e,f,h]=U (.nx [a,.I j,b,c,d,p,q,r,.I ((M++z).map Gn),F,u,e,f,h])
 |[],t,M,A,i,C,_=>#v[t,[],A,i,C,J,λm X=>(bY X).elim,by rw[bD];rfl]
 |x::l,t,M,A,i,C,W=>by
  rw[aK]at W;let#v[v,B,P,h2,h3,Q]:=xq C 3 #[];let#v[w,o,R,S,h7,T]:=xq P (1+v+1) ();let m:Mk:=#v[x,w,1+v];let Y:=[a,.I B,b,c,d,p,q,r,.I (M.map Gn),.q (.str x),.q (.int (1+v)),e,f,h];let ρ2:=[a,.I o,b,c,d,p,q,r,.I (M.map Gn),.q (.str x),.q (.int (1+v)),e,f,h];have G:mkB [a,.I t,b,c,d,p,q,r,.I (M.map Gn),.q (.str x),i,e,f,h]=U (.nx [a,.I o,b,c,d,p,q,r,.I ((M++[m]).map Gn),.q (.str x),.q (.int (1+v)),e,f,h]):=by calc(vp ((vL (vA J (yh J J J Q) J)))).t ?_;calc(wV (CC J (zl (vz J (vz ((yh J (vz (vA J J J) J) J T)) J)) (by change 3<=1000;decide)) J (by rw[ak];omega))).t ?_;change U (p?.nx [a,.I o,b,c,d,p,q,r,.I (M.map Gn++[Gn m]),.q (.str x),.q (.int (1+v)),e,f,h])=_;rw[show M.map Gn++[Gn m]=(M++[m]).map Gn by rw[bg];rfl]
  let#v[j,z,F,u,H,I,N,O]:=Pg l o (M++[m]) (.q (.str x)) (.q (.int (1+v))) R (by rw[aG,bu];omega);refine#v[j,m::z,F,u,H,by rw[aA,I],λy E=>?_,?_]
  .rcases aD.1 E with rfl|E
   .show#v[by change 1<=1+v;omega,by change 1+v<=3;omega,S,by change w<=1+v;omega]
   .show N y E
  .rw[aA];delta fu;rw[show gN 9 (.str x) [a,.I t,b,c,d,p,q,r,.I (M.map Gn),A,i,e,f,h]=U [a,.I t,b,c,d,p,q,r,.I (M.map Gn),.q (.str x),i,e,f,h] from J];erw[G];rw[O,bL];rfl
abbrev o7:=(ab ck vH)
abbrev oM:=o7
theorem JG{a b c d x5 x6 x7 x8 x9 x10 x11 x12 x13:Sl}:∀(l:aC) (i:List L4.D),IL i->∃(dk:aC) (e:List L4.D),dk.Sublist l/\IL e/\
  yW 1 [1] (gN 0) (cT (c2 (ey δ) (v8 vq 1 oM) aN)) ae (l.map D.str) [a,.I i,b,c,d,x5,x6,x7,x8,x9,x10,x11,x12,x13]=U (dk.map D.str,[a,.I e,b,c,d,x5,x6,x7,x8,x9,x10,x11,x12,x13])
 |[],i,h=>#v[[],i,fQ _,h,J]
 |x::l,i,h=>by
  let#v[v,f,r,u,w,t]:=xq h 2 #[];let#v[dk,e,m,o,p]:=JG (a:=a) (b:=b) (c:=c) (d:=d) (x5:=x5) (x6:=x6) (x7:=x7) (x8:=x8) (x9:=x9) (x10:=x10) (x11:=x11) (x12:=x12) (x13:=x13) l f r;have q:cT (c2 (ey δ) (v8 vq 1 oM) aN) [.q (.str x),.pm i]=U (decide (v=1),[.q (.str x),.pm f]):=wt (vA ((yh J J J t)) J (EB δ v 1));have st:yW 1 [1] (gN 0) (cT (c2 (ey δ) (v8 vq 1 oM) aN)) ae ((x::l).map D.str) [a,.I i,b,c,d,x5,x6,x7,x8,x9,x10,x11,x12,x13]=U ((if v=1 then x::dk else dk).map D.str,[a,.I e,b,c,d,x5,x6,x7,x8,x9,x10,x11,x12,x13]):=by
   rw[aA];delta yW;rw[show gN 0 (.str x) (Du 1 [1] [a,.I i,b,c,d,x5,x6,x7,x8,x9,x10,x11,x12,x13])=U [.q (.str x),.pm i] from J];erw[q];have un:yE [1] (([.q (.str x),.pm f]:aU).drop 1) [a,.I i,b,c,d,x5,x6,x7,x8,x9,x10,x11,x12,x13]=U [a,.I f,b,c,d,x5,x6,x7,x8,x9,x10,x11,x12,x13]:=rfl;by_cases j:v=1
   .rw[af j,aI j];simp only;erw[show cV 0 [.q (.str x),.pm f]=U (.str x,[.q (.str x),.pm f]) from J,un,p];rfl
   .rw[ah j,aL j];erw[un,p]
  by_cases j:v=1
  .rw[af j]at st;show#v[x::dk,e,m.cons_cons x,o,st]
  .rw[ah j]at st;show#v[dk,e,m.cons x,o,st]
def θ:L4.D:=.ax [.bx [],.bx [.str "red"],.bx [.str "old", .str "red"]]
def Xh(j:Nat)(h:j<3):∃m∈JD,e7 θ (.int j)=U (.bx (m.map D.str)):=by
 match j,h with
 |0,_=>show#v[[],by decide,J]
 |1,_=>show#v[["red"],by decide,J]
 |2,_=>show#v[["old", "red"],by decide,J]
def Th.rw(t:Th):Rw:=#v[t.n,t.k,t.s]
def τ(t:Th):L4.D:=.bx (t.w.map D.str)
abbrev iR:=(ab ae vH)
def wElt:FE:=(FH (wg iR) (c2 e7 aB (v8 vq 4 oW)))
theorem HZ{a b c d x5 x6 x7 x8 x9 x10 x11 x13:Sl}:∀(R:List Rw) (l:List L4.D),IL l->∃(T:List Th) (i:List L4.D),T.map Th.rw=R/\(∀t∈T,∃m∈JD,t.w=t.n::m)/\IL i/\
  yW 3 [12,1] (gT f6 3) wG wElt (R.map we) [a,.I l,b,c,d,x5,x6,x7,x8,x9,x10,x11,.q θ,x13]=U (T.map τ,[a,.I i,b,c,d,x5,x6,x7,x8,x9,x10,x11,.q θ,x13])
 |[],l,h=>#v[[],l,J,λt H=>(bY H).elim,h,J]
 |r::R,l,h=>by
  let#v[v,e,E,F,I,G]:=xq h 3 #[];let#v[j,rfl]:=c9 F;let#v[m,p,y]:=Xh j ();let#v[T,i,z,A,B,C]:=HZ (a:=a) (b:=b) (c:=c) (d:=d) (x5:=x5) (x6:=x6) (x7:=x7) (x8:=x8) (x9:=x9) (x10:=x10) (x11:=x11) (x13:=x13) R e E;let t:Th:=#v[r.n,r.n::m,r.k,r.s];have hml:=by
   have:∀m∈JD,cN m<=2:=by decide
   show this m p
  refine#v[t::T,i,by rw[aA,z];rfl,λu o=>?_,B,?_]
  .rcases aD.1 o with rfl|o
   .show#v[m,p,J]
   .show A u o
  .let f:aU:=[.q (.str r.n),.q (.str r.k.s),.q (oS r.s),.q θ,.pm l];have q:wElt f=U (τ t,[.q (.str r.n),.q (.str r.k.s),.q (oS r.s),.q θ,.pm e]):=by have x:c2 e7 aB (v8 vq 4 oW) f=U (.bx (m.map D.str),[.q (.str r.n),.q (.str r.k.s),.q (oS r.s),.q θ,.pm e]):=vA J ((yh J J J G).t J) y;delta wElt FH;rw[show wg iR f=U (.bx [.str r.n],f) from J];erw[x];rw[af (by rw[ak];simp;omega)];rfl
   rw[aA];delta yW;rw[show gT f6 3 (we r) (Du 3 [12,1] [a,.I l,b,c,d,x5,x6,x7,x8,x9,x10,x11,.q θ,x13])=U f from J];erw[wG,q];rw[show yE [12,1] (([.q (.str r.n),.q (.str r.k.s),.q (oS r.s),.q θ,.pm e]:aU).drop 3) [a,.I l,b,c,d,x5,x6,x7,x8,x9,x10,x11,.q θ,x13]=U [a,.I e,b,c,d,x5,x6,x7,x8,x9,x10,x11,.q θ,x13] from J];erw[C];rfl
def zN(x:Str):Rw:=#v[x,.room,Z]
def Xj(N:aC)(h:N.length=17):∃x,N[5]?=U x/\N.take 5++([x]++((N.drop 6).take 7++N.drop 13))=N:=by calc#v[N[5],aH (),?_];rw[show N.drop 13=(N.drop 6).drop 7 by rw[List.drop_drop],ib,List.singleton_append,<- jb,ib]
def Mu{c:Type}(l:List c){a b:Nat}(h:a<=b):(l.take a).Sublist (l.take b):=by
 have:l.take a=(l.take b).take a:=by rw[List.take_take,gG h]
 rw[this];show jn _ _
def QK{N:aC}(h:N.length=17){y:Str}(c:N[5]?=U y){r q p:Nat}(e:r<5)(d:q<8):((N.take (1+r)++([y]++(N.drop 6).take q))++(N.drop 13).take p).Sublist N:=by let#v[x,a,b]:=Xj N h;rw[c]at a;ext a;rw[bL,bL];have:=(Mu N (show 1+r<=5 by omega)).append ((fQ [y]).append ((Mu (N.drop 6) (show q<=7 by omega)).append (jn p (N.drop 13))));rw[b]at this;show this
def acA{T:List Th}{R:List Rw}(h:T.map Th.rw=R){u:Rw}(a:u∈R):∃t∈T,t.rw=u:=by rw[<-h]at a;show av.1 a
def Xk(T:List Th)(p:Kd->Bool):(T.filter λt=>p t.k).map Th.rw=(T.map Th.rw).filter λr=>p r.k:=by rw[rb];rfl
def Xl{N:aC}(hN:Nms N){y:Str}(hy:N[5]?=U y){r q p:Nat}(hr:r<5)(hq:q<8)(hp:p<5){z:Str}(hz:z∈N.take (1+r)){O:List Rw}{T:List Th}{M:List Mk}{dk:aC}
  (P:Ord (((N.take (1+r)).map zN++[#v[y,.you,U z]])++O)) (hO:O.map Rw.n=(N.drop 6).take q) (hOp:∀u∈O,u.k.pl=γ) (hT:(T.map Th.rw).Perm (((N.take (1+r)).map zN++[#v[y,.you,U z]])++O)) (hw:∀t∈T,∃m∈JD,t.w=t.n::m)
  (hM:M.map Mk.n=(N.drop 13).take p) (hMo:∀m∈M,m.ok) (hd:dk.Sublist (N.take (1+r))):fh T M dk/\(T.filter λt=>decide (t.k=.you)).map Th.n=[y]:=by
 let B:=((N.take (1+r)).map zN++[#v[y,.you,U z]])++O;have H:(N.take (1+r)).length=1+r:=by rw[cf,hN.len];omega
 have hOl:O.length=q:=by have:=aX cN hO;rw[ak,cf,dg,hN.len]at this;omega
 have hMl:=by have:=aX cN hM;rw[ak,cf,dg,hN.len]at this;show this
 have hBl:B.length=1+r+1+q:=by erw[B,aG,ak,H,hOl,bu]
 have hTl:T.length=B.length:=by have:=hT.length_eq;rw[ak]at this;show this
 have hBn:B.map Rw.n=N.take (1+r)++([y]++(N.drop 6).take q):=by erw[B,bg,hO,aT,bL];rw[show (Rw.n∘zN)=id from J,n8];rfl
 have hTn:T.map Th.n=(T.map Th.rw).map Rw.n:=by rw[aT];rfl
 have perm:(T.map Th.n++M.map Mk.n).Perm ((N.take (1+r)++([y]++(N.drop 6).take q))++(N.drop 13).take p):=by rw[hTn,hM,<- hBn];show(hT.map Rw.n).append_right _
 have sub:=QK hN.len hy hr hq (p:=p);have ndx:=perm.nodup_iff.2 (hN.nd.sublist sub);have nmx:=λx C=>hN.nm x (sub.subset (perm.subset C));have nr:∀u∈B,∃t∈T,t.rw=u:=λu c=>acA J (hT.mem_iff.2 c);have fwd:∀t∈T,KL B t.rw:=λt o=>P.all _ (hT.mem_iff.1 (cc o));have filt:∀a:Kd->Bool,((T.filter λt=>a t.k).map Th.rw).Perm (B.filter λu=>a u.k):=λa=>by rw[Xk];show hT.filter _
 have F:=λa=>by have:=(filt a).length_eq;rw[ak]at this;show this
 have allF:∀(a:Kd->Bool) (l:List Rw),(∀u∈l,a u.k=δ)->(l.filter λu=>a u.k)=[]:=λa l h=>pK.2 λu c=>by rw[h u c];show bB
 have rooms:∀(a:Kd->Bool),∀u∈(N.take (1+r)).map zN,a u.k=a .room:=λa u c=>by let#v[x,_,rfl]:=av.1 c;rfl
 have ZX:∀u∈O,decide (u.k=.room)=δ/\decide (u.k=.you)=δ:=λu c=>by have:=hOp u c;calc#v[aL λh=>?_,aL λh=>?_]<;>rw[h]at this<;>ext this
 have fB:∀a:Kd->Bool,(B.filter λu=>a u.k)=((N.take (1+r)).map zN).filter (λu=>a u.k)++([#v[y,.you,U z]]:List Rw).filter (λu=>a u.k)++O.filter (λu=>a u.k):=λa=>by erw[B,List.filter_append]
 have one:∀(a:Kd->Bool) (b:Bool),a .you=b->([#v[y,.you,U z]]:List Rw).filter (λu=>a u.k)=if b then [#v[y,.you,U z]]else []:=λa b h=>by rw[eD,List.filter_nil];rw[h]
 have S:∀a:Kd->Bool,a .room=γ->a .you=δ->(∀u∈O,a u.k=δ)->(B.filter λu=>a u.k)=(N.take (1+r)).map zN:=λa d f i=>by rw[fB a,allF a O i,md.2 λu c=>(rooms a u c).t d,one a δ f];simp
 have W:∀a:Kd->Bool,a .room=δ->a .you=γ->(∀u∈O,a u.k=δ)->(B.filter λu=>a u.k)=[#v[y,.you,U z]]:=λa d f i=>by rw[fB a,allF a O i,allF a _ λu c=>(rooms a u c).t d,one a γ f];rfl
 have R:∀a:Kd->Bool,a .room=δ->a .you=δ->(∀u∈O,a u.k=γ)->(B.filter λu=>a u.k)=O:=λa d f i=>by rw[fB a,md.2 i,allF a _ λu c=>(rooms a u c).t d,one a δ f];rfl
 have fr:=S (λk=>decide (k=.room)) J J λu c=>(ZX u c).1;have I:=W (λk=>decide (k=.you)) J J λu c=>(ZX u c).2;have Q:=R Kd.pl J J hOp;have t9:=(cq.1 ndx).1;let#v[rkx,Y]:=P.rank ((hT.map Rw.n).nodup_iff.1 (by rw[<-hTn];show t9));have inR:∀x∈N.take (1+r),x∈m3 T:=λx C=>by let#v[t,o,e]:=nr (zN x) (bO _ (bO _ (cc C)));have d:=aX Rw.n e;have f:=aX Rw.k e;show av.2 #v[t,bw.2 #v[o,aI f],d]
 refine#v[{
  len:=by omega
  r1:=by have:=F λk=>decide (k=.room);rw[fr,ak,H]at this;omega
  r5:=by have:=F λk=>decide (k=.room);rw[fr,ak,H]at this;omega
  y1:=by have:=F λk=>decide (k=.you);rw[I]at this;show this
  p7:=by have:=F Kd.pl;rw[Q,hOl]at this;omega
  m4:=by omega
  mo:=hMo
  nm:=nmx
  nd:=ndx
  st:=λt o=>?_
  rk:=#v[rkx,λt o=>?_]
  wd:=λt o=>#v[nmx _ (bO _ (cc o)),hw t o]
  d0:=by have:=hd.length_le;omega
  d1:=(hN.nd.sublist (jn _ _)).sublist hd
  d2:=λx C=>inR x (hd.subset C) },?_]
 .let#v[n,w,k,s]:=t;rcases fwd _ o with ⟨d,f⟩|⟨d,u,c,f,i⟩|⟨d,u,c,f,i⟩
  .ext d;ext f;trivial
  .ext d;ext f;let#v[E,j,e]:=nr u c;calc av.2 #v[E,bw.2 #v[j,aI ?_],aX Rw.n e];rw[<-i];show aX Rw.k e
  .let#v[E,j,e]:=nr u c;have mem:u.n∈hdN T:=av.2 #v[E,bw.2 #v[j,by rw[<-i];show aX Kd.hd (aX Rw.k e)],aX Rw.n e];have G:=f;subst G;have A:=d;cases k with
   |room=>cases A
   |you=>cases A
   |plain=>show mem
   |fixed=>show mem
   |box=>show mem
   |lamp=>show mem
 .let#v[d,f]:=Y t.rw (hT.mem_iff.1 (cc o));calc#v[by rw[hTl];show d,λpq hpq=>?_];let#v[i,u,c,X]:=f pq hpq;let#v[E,j,e]:=nr u c;show#v[i,E,j,by rw[<-X,<- e];rfl]
 .have h:=filt λk=>decide (k=.you);rw[I]at h;have e:=List.perm_singleton.1 h;have:=aX (oA Rw.n) e;rw[aT]at this;show this
def wN(T:List Th)(M:List Mk)(dk:aC)(y:Str):L4.D:=.J [kS "rows", kS "marks", kS "dark", kS "words", kS "you"] [.ax (T.map λt=>we t.rw),.ax (M.map Gn),.ax (dk.map D.str),.ax (T.map τ),.str y]
def QL:∀l:aC,Ord (l.map zN):=λl=>by
 suffices h:∀(l k:aC),Ord (k.map zN)->Ord ((k++l).map zN) from h l [] .nil
 intro l
 induction l with
 |nil=>intro k h;rw[bD];show h
 |cons x l a=>
  intro k h;have:=a (k++[x]) (by rw[bg];show h.snoc (.inl #v[J,J]))
  rwa [bL]at this
def Ia{e:FE}{ρ ρ1:aU}{ds:List L4.D}(h:e ρ=U (.ax ds,ρ1)):iL e ρ=U (ds,ρ1):=by delta iL;rw[h]
def Mw{x:Str}{f:FE}{r:List (Str×FE)}{ρ ρ1 a:aU}{d:L4.D}{b:List L4.D}(c:f ρ=U (d,ρ1))(e:zm r ρ1=U (b,a)):zm ((x,f)::r) ρ=U (d::b,a):=by delta zm;rw[c];erw[e]
def Xm{kfs:List (Str×FE)}{ρ ρ1:aU}{a:List L4.D}(h:zm kfs ρ=U (a,ρ1)):Ci kfs ρ=U (.J (kfs.map λq=>kS q.1) a,ρ1):=by delta Ci;rw[h];rfl
def mut1{t f:List L4.D}{n v:Int}{a i j l m o p q r b c d e:Sl}(h:vq t [.int n]=U (.int v,f)):v8 vq 1 (ab (cC (.int n)) vH) [a,.I t,i,j,l,m,o,p,q,r,b,c,d,e]=U (.int v,[a,.I f,i,j,l,m,o,p,q,r,b,c,d,e]):=
 (yh J J J h).t J
abbrev oN:=(ab az (ab aB vH))
def Xo(c:Int):∃T M dk y,CV [.int c]=U (wN T M dk y)/\fh T M dk/\(T.filter λt=>decide (t.k=.you)).map Th.n=[y]:=by
 let#v[es0,i0,X]:=Mq c 110 #[];let#v[N,es1,hN,i1,Y]:=Uh i0;let#v[r,G,i2,r0,r1,d2]:=xq i1 5 #[];let#v[r,rfl]:=c9 r0;have hr:r<5:=by omega
 let rooms:=N.take (1+r);have hl:rooms.length=1+r:=by erw[rooms];rw[cf,hN.len];omega
 let#v[i,a,i3,j0,j1,d3]:=xq i2 rooms.length ();let#v[i,rfl]:=c9 j0;have o:i<rooms.length:=by omega
 have P:5<N.length:=by rw[hN.len];decide
 let y:=N[5];let z:=rooms[i];have W:=cI o;let B:=rooms.map zN++[#v[y,.you,U z]];have hB:Ord B:=(QL rooms).snoc (.inr (.inl #v[J,zN z,cc W,J,J]));let#v[q,e,O,hq,i4,hO,hOn,hOp,d4]:=QJ hN B i3 hB (rooms:=rooms) () λx u=>by
  rcases bC.1 u with u|u
  .show#v[zN x,bO _ (cc u),J,J]
  .rw[aO]at u;show#v[#v[y,.you,U z],bU _ (aO.2 J),u.symm,J]
 have hOl:=by have:=aX cN hOn;rw[ak,cf]at this;omega
 have hBl:B.length<=6:=by erw[B,aG,ak,bu];omega
 let#v[es5,R,A,C,i5,hR,d5]:=Mt (B++O) e [] .un .un i4 (by rw[aG];simp;omega);rw[bP]at hR;let#v[p,w,i6,p0,p1,d6]:=xq i5 5 #[];let#v[p,rfl]:=c9 p0;let#v[H,M,Q,j,i7,hMn,hMo,d7]:=Pg ((N.drop 13).take p) w [] .un .un i6 (by rw[cf,dg,hN.len];simp;omega);rw[bP]at d7;let#v[dk,I,hdk,i8,d8]:=JG rooms H i7;let#v[T,f,hT,hw,i9,d9]:=HZ R I i8;let#v[g1,g2]:=Xl hN (aH P) hr hq () W hO hOn hOp (hT▸hR) hw hMn hMo hdk;calc#v[T,M,dk,y,vR (ρ:=[.q (.int c),.I f,.q (.ax (N.map D.str)),.q (.ax (rooms.map D.str)),.q (.ax (B.map we)),.q (.ax (R.map we)),A,C,.q (.ax (M.map Gn)),Q,j,.q (.ax (dk.map D.str)),.q θ,.q (.ax (T.map τ))]) J ?_,g1,g2];calc(vp ((BK (vv J X)))).t ?_;calc(vp ((vL (yh J J J Y)))).t ?_;have cutE:∀{lo o:FO} {ρ ρ1 m:aU} {l h:Option Int},cV 2 ρ=U (.ax (N.map D.str),ρ)->lo ρ=U (l,ρ1)->o ρ1=U (h,m)->CD az lo o ρ=U (ij (N.map D.str) l h,m):=λ{lo o ρ ρ1 m l h} h1 h2 h3=>by delta CD;erw[h1,h2,h3]
 have addE:∀{k:Nat} {v:Nat} {n:Int} {ρ ρ1:aU},v8 vq 1 (ab (cC (.int n)) vH) ρ=U (.int v,ρ1)->A? (c2 wq (cC (.int k)) (v8 vq 1 (ab (cC (.int n)) vH))) ρ=U (U ((k+v:Nat):Int),ρ1):=λ{k v n ρ ρ1} h=>by delta A?;rw[vA (z:=.int ((k+v:Nat):Int)) J h (by change U (D.int ((k:Int)+(v:Int)))=_;congr 2)]
 refine(vp (ρ':=[.q (.int c),.I G,.q (.ax (N.map D.str)),.q (.ax (rooms.map D.str)),.un,.un,.un,.un,.un,.un,.un,.un,.un,.un]) ((vL (wA (cutE J J (addE (mut1 d2))))).t ?_)).t ?_
 .rw[Ui (1+r) (by rw[ak,hN.len];omega),<- iB];rfl
 let ρ3:List L4.D->aU:=λE=>[.q (.int c),.I E,.q (.ax (N.map D.str)),.q (.ax (rooms.map D.str)),.un,.un,.un,.un,.un,.un,.un,.un,.un,.un];refine(vp (ρ':=[.q (.int c),.I a,.q (.ax (N.map D.str)),.q (.ax (rooms.map D.str)),.q (.ax (B.map we)),.un,.un,.un,.un,.un,.un,.un,.un,.un]) ((vL (wA (yX
  (wA (CZ D.str (λx=>we (zN x)) rooms J () λx s=>#v[_,_,J,J,J]))
  (wA (BL (vz (zl (vz (vA J J (yt (aH P))) (vz J (vz (vA J ((yh J (by change U ([D.int ((rooms.map D.str).length:Nat)],_)=_;rw[ak]) J d3)) (yt (aH o))) J))) (by change 3<=1000;decide)) J) (by change 1<=1000;decide))) (by rw[ak];simp;omega)))).t ?_)).t ?_
 .change U (p?.nx [.q (.int c),.I a,.q (.ax (N.map D.str)),.q (.ax (rooms.map D.str)),.q (.ax ((rooms.map λx=>we (zN x))++[we #v[y,.you,U z]])),.un,.un,.un,.un,.un,.un,.un,.un,.un])=_;rw[show (rooms.map λx=>we (zN x))++[we #v[y,.you,U z]]=B.map we by erw[B,bg,aT];rfl]
 calc(vp J).t ?_;let b:List L4.D->aU:=λE=>[.q (.int c),.I E,.q (.ax (N.map D.str)),.q (.ax (rooms.map D.str)),.q (.ax (B.map we)),.q (.ax []),.un,.un,.un,.un,.un,.un,.un,.un];refine(vp ((wW (ρ1:=b e) ?_).t d5)).t ?_
 .have em:xE xV 1 oN (b a)=U (.ax (O.map we),b e):=by
   change (match xV a [.ax (N.map D.str),.ax (rooms.map D.str)]with
    |some (d,F)=>U (d,putAt (b a) 1 F)
    |none=>Z)=_
   rw[d4];rfl
  show(Ia (wA (yX J em (by rw[ak,ak];omega)))).t (by rw[<-bg])
 calc(vp J).t ?_;refine(vp ((wW (ρ1:=[.q (.int c),.I w,.q (.ax (N.map D.str)),.q (.ax (rooms.map D.str)),.q (.ax (B.map we)),.q (.ax (R.map we)),A,C,.I [],.un,.un,.un,.un,.un]) ?_).t d7)).t ?_
 .calc(Ia (wA (cutE (l:=U ((13:Nat):Int)) J J (addE (mut1 d6))))).t ?_;have ec:ij (N.map D.str) (U ((13:Nat):Int)) (U ((13+p:Nat):Int))=((N.drop 13).take p).map D.str:=by rw[Pf 13 p (by rw[ak,hN.len];omega),iB,iA]
  rw[ec]
 calc(vp ((vL (wA ((AK J (by rw[ak];omega)).t d8))))).t ?_;calc(vp J).t ?_;have hRl:=by have:=hR.length_eq;rw[aG]at this;omega
 calc(vp ((vL (wA ((AK J (by rw[ak];omega)).t d9))))).t ?_;calc vX ?_;have eN:c2 e7 az fL [.q (.int c),.I f,.q (.ax (N.map D.str)),.q (.ax (rooms.map D.str)),.q (.ax (B.map we)),.q (.ax (R.map we)),A,C,.q (.ax (M.map Gn)),Q,j,.q (.ax (dk.map D.str)),.q θ,.q (.ax (T.map τ))]=U (.str y,[.q (.int c),.I f,.q (.ax (N.map D.str)),.q (.ax (rooms.map D.str)),.q (.ax (B.map we)),.q (.ax (R.map we)),A,C,.q (.ax (M.map Gn)),Q,j,.q (.ax (dk.map D.str)),.q θ,.q (.ax (T.map τ))]):=vA J J (yt (aH P));have eT:R.map we=T.map λt=>we t.rw:=by rw[<-hT,aT];rfl
 delta wN;rw[<-eT];show Xm (Mw J (Mw J (Mw J (Mw J (Mw eN J)))))
theorem Uj:∀T:List Th,Eu (T.map λt=>we t.rw) (T.map τ)=T.map λt=>D.bx [we t.rw,τ t]
 |[]=>rfl
 |t::T=>by have:=Uj T;delta Eu at this ⊢;rw[aA,aA,fO,this];rfl
def Xp{T:List Th}{M:List Mk}{dk:aC}{y:Str}(g:fh T M dk):CW [wN T M dk y]=U (x? T):=by
 have p:=g.len;let h:=wN T M dk y;let b:aU:=[.q h,.q (.ax ((m3 T).map D.str))];have f:1<=(m3 T).length:=by have:=g.r1;delta m3;rw[ak];show this
 have d:e7 (.ax ((m3 T).map D.str)) (.int 0)=U (.str ((m3 T).headD "")):=by
  calc yt ?_;cases e:m3 T with
  |nil=>rw[e]at f;cases f
  |cons a r=>rfl
 have j:e7 (.ax ((m3 T).map D.str)) (.int (((m3 T).length:Int) - 1))=U (.str ((m3 T).getLastD "")):=by rw[show ((m3 T).length:Int) - 1=(((m3 T).length - 1:Nat):Int) by omega];calc yt ?_;rw[px,List.getLast?_eq_getElem?,aH ()];rfl
 calc DS (ρ:=b) J ?_;have c:=AA (k:=3) (eh:=[]) (g:=gT f6 3) (ft:=cT (c2 (ey δ) ao gb)) (fe:=cV 0) (s:=iL (c2 wZ ae (cC (.str "rows")))) (λt:Th=>we t.rw) (λt=>D.str t.n) (λt=>decide (t.k=.room)) T (ρ:=[.q h,.un]) J () λt z=>#v[[.q (.str t.n),.q (.str t.k.s),.q (oS t.s)],[.q (.str t.n),.q (.str t.k.s),.q (oS t.s)],J,wt (vA J J (F8 t.k .room)),λz=>#v[_,J,J],λz=>J]
 refine(vp (ρ':=b) ((vL (wA c)).t ?_)).t ?_
 .have:((T.filter λt=>decide (t.k=.room)).map λt=>D.str t.n)=(m3 T).map D.str:=by delta m3;rw[aT];rfl
  rw[this];rfl
 have i:c1 w6 ao b=U (.int ((m3 T).length:Int),b):=wu J (by change U (D.int _)=_;rw[ak]);calc zV (BL (vz (zl (vz (vA J J d) (vz J (vz (vA J (vA i J J) j) J))) (cP J)) (vz (zl (vz (vA J J d) (vz J (vz (vA J J d) J))) (cP J)) J)) (cP J))
def Uk{T:List Th}{M:List Mk}{dk:aC}{y:Str}(g:fh T M dk)(c:(T.filter λt=>decide (t.k=.you)).map Th.n=[y]){b:L4.D}(emo:xP [TD T,MD M]=U b):B9 [wN T M dk y]=U (.obj 14 wNs (wDs T M dk y b)):=by
 have e:=Uc g y c emo;have f:=g.len;have h:=g.m4;let a:=wN T M dk y;calc vR (ρ:=[.q a,.q (TD T),.q (MD M)]) J ?_;refine(vp ((vL (wA (CZ (λt=>D.bx [we t.rw,τ t]) fm T (ρ1:=[.q a,.un,.un]) ?_ () λt z=>#v[[.q (we t.rw),.q (τ t)],[.q (we t.rw),.q (τ t)],J,J,J]))))).t ?_
 .change U (Eu (T.map λt=>we t.rw) (T.map τ),[Sl.q a,.un,.un])=_;rw[Uj]
 calc(vp ((vL (wA (CZ Gn V? M J () λm z=>#v[[.q (.str m.n),.q (.int m.st),.q (.int m.mo)],[.q (.str m.n),.q (.int m.st),.q (.int m.mo)],J,J,J]))))).t ?_;show vX (Ki (vz J (vz J (vz J (vz (wA (vv J (Xp g))) J)))) e)
def e8(T:List Th)(p:Kd->Bool):aC:=(T.filter λt=>p t.k).map Th.n
def pa{T:List Th}{M:List Mk}{dk:aC}{y:Str}(f:T.length<=900){K:L4.D}(p:Kd->Bool)(b:∀k:Kd,kv δ (.str k.s) K=U (.bl (p k))):wF [wN T M dk y,K]=U ((e8 T p).map D.str):=by
 let a:=wN T M dk y;calc DS (ρ:=[.q a,.q K]) J ?_;have:=AA (k:=3) (eh:=[1]) (g:=gT f6 3) (ft:=cT (c2 (kv δ) ao aB)) (fe:=cV 0) (s:=iL (c2 wZ ae (cC (.str "rows")))) (λt:Th=>we t.rw) (λt=>D.str t.n) (λt=>p t.k) T (ρ:=[.q a,.q K]) J () λt z=>#v[[.q (.str t.n),.q (.str t.k.s),.q (oS t.s),.q K],[.q (.str t.n),.q (.str t.k.s),.q (oS t.s),.q K],J,wt (vA J J (b t.k)),λz=>#v[_,J,J],λz=>J]
 calc zV (this.t ?_);delta e8;rw[aT];rfl
def aeC(k:Kd):kv δ (.str k.s) (.ax [.str "box", .str "lamp"])=U (.bl k.mk):=by ext k<;>kernel_rfl
def aeD(k:Kd):kv δ (.str k.s) (.ax [.str "room", .str "you"])=U (.bl !k.pl):=by ext k<;>kernel_rfl
#print "Ul box;Ph room" in def ϑ0(k:Kd):kv δ (.str k.s) (.ax [.str "ϑ1"])=U (.bl (decide (k=.ϑ1))):=by ext k<;>kernel_rfl
def Kd.ot:Kd->Bool
 |.plain=>γ|.fixed=>γ|.lamp=>γ|_=>δ
def aeE(k:Kd):kv δ (.str k.s) (.ax [.str "plain", .str "fixed", .str "lamp"])=U (.bl k.ot):=by ext k<;>kernel_rfl
def wx(T:List Th)(p:Kd->Bool):(e8 T p).Sublist (T.map Th.n):=vg _ List.filter_sublist
abbrev m?(V:List (Str×Int)):L4.D:=.J (V.map λq=>kS q.1) (V.map λq=>D.int q.2)
def k0(T:List Th)(M:List Mk):List (Str×Int):=((e8 T Kd.mk).map λx=>(x,(1:Int)))++M.map λm=>(m.n,m.mo)
def Ib{T:List Th}{M:List Mk}{dk:aC}{y:Str}(g:fh T M dk):∃V:List (Str×Int),xN [wN T M dk y]=U (m? V)/\V.map ai=e8 T Kd.mk++M.map Mk.n/\(∀q∈V,1<=q.2)/\V=k0 T M:=by
 have w:=g.len;have S:=g.m4;let f:=wN T M dk y;have r:(e8 T Kd.mk++M.map Mk.n).Nodup:=g.nd.sublist ((wx T _).append (fQ _));have ndk:=by have:=yN r;rw[bg,aT]at this;show this
 have hln:=by have:=(wx T Kd.mk).length_le;rw[ak]at this;omega
 let#v[Q,t]:=BA (g:=gN 2) (i:=1) (fk:=cV 2) (fv:=cC (.int 1)) D.str id (λk=>D.int 1) (λd e s=>[.q f,.dk d e,s,.un,.un])
  (λx d e s=>#v[[.q f,.dk d e,.q (.str x),.un,.un],J,J,J,J,λN A=>#v[_,J]]) (e8 T Kd.mk) [] [] .un (by rw[bP];show(cq.1 ndk).1) (by simp;omega) J
 rw[bP,bP]at t;have ma:∀(l:List Mk) (d:List ee) (e:List L4.D) (a b c:Sl),(d++l.map λm=>kS m.n).Nodup->d.length+l.length<=1000->e.length=d.length->∃j o p,fu (gT oU 3) (wK 1 az aR) (l.map Gn) [.q f,.dk d e,a,b,c]=U (.nx [.q f,.dk (d++l.map λm=>kS m.n) (e++l.map λm=>D.int m.mo),j,o,p]):=by
  intro l
  induction l with
  |nil=>intro d e a b c _ _ _;show#v[a,b,c,by rw[bZ,bZ,bZ,bD,bD];rfl]
  |cons m l I=>
   intro d e a b c r w u;rw[aK]at w;have G:=λz=>by rw[cq]at r;show r.2.2 _ z _ (by rw[aA];show aP) J
   let#v[j,o,p,h]:=I (d++[kS m.n]) (e++[.int m.mo]) (.q (.str m.n)) (.q (.int m.st)) (.q (.int m.mo)) (by rw[bL];show r) (by rw[aG,bu];omega) (by rw[aG,aG,u,bu,bu]);calc#v[j,o,p,?_];rw[aA];delta fu;rw[show gT oU 3 (Gn m) [.q f,.dk d e,a,b,c]=U [.q f,.dk d e,.q (.str m.n),.q (.int m.st),.q (.int m.mo)] from J];erw[Da (i:=1) (fk:=cV 2) (fv:=cV 4) (ρ:=[.q f,.dk d e,.q (.str m.n),.q (.int m.st),.q (.int m.mo)]) J J J G () u];calc h.t ?_;rw[aA,aA,bL,bL];rfl
 let#v[j,o,p,B]:=ma M ((e8 T Kd.mk).map kS) ((e8 T Kd.mk).map λk=>D.int 1) Q .un .un ndk (by rw[ak];omega) (by rw[ak,ak]);let V:=((e8 T Kd.mk).map λx=>(x,(1:Int)))++M.map λm=>(m.n,m.mo);refine#v[V,vR (ρ:=[.q f,.q (m? V),j,o,p]) J ?_,?_,λq H=>?_,J]
 .delta Ca;calc(vp J).t ?_;calc(vp ((wW (Ia (wA (vv J (pa () Kd.mk aeC))))).t t)).t ?_;calc(vp ((wW J).t B)).t ?_;have O:V.map (λq=>kS q.1)=(e8 T Kd.mk).map kS++M.map λm=>kS m.n:=by erw[V,bg,aT];rfl
  have P:V.map (λq=>D.int q.2)=((e8 T Kd.mk).map λk=>D.int 1)++M.map λm=>D.int m.mo:=by erw[V,bg,aT];rfl
  delta m?;rw[O,P];rfl
 .erw[V,bg,aT];rw[show (ai∘λx:Str=>(x,(1:Int)))=id from J,n8];rfl
 .rcases bC.1 H with h|h
  .let#v[x,_,rfl]:=av.1 h;show sI _
  .let#v[m,F,rfl]:=av.1 h;show(g.mo m F).1
def NY{e:FE}{ρ ρ1:aU}{b:List ee}{a:List L4.D}(h:e ρ=U (.J b a,ρ1)):iIt e ρ=U (Eu (b.map Nt) a,ρ1):=by delta iIt;rw[h]
theorem Fs:∀V:List (Str×Int),Eu ((V.map λq=>kS q.1).map Nt) (V.map λq=>D.int q.2)=V.map λq=>D.bx [.str q.1,.int q.2]
 |[]=>rfl
 |q::V=>by have:=Fs V;delta Eu at this ⊢;rw[aA,aA,aA,fO,this];rfl
abbrev oQ:=(ab (c2 wq aR aN) vH)
def Um{T:List Th}{M:List Mk}{dk:aC}{y:Str}(g:fh T M dk){d:List L4.D}(t:IL d):∃(V:List (Str×Int)) (c:List L4.D),IL c/\yB d [wN T M dk y]=U (m? V,c)/\V.map ai=e8 T Kd.mk++M.map Mk.n/\∀p∈V,∃q∈k0 T M,p.1=q.1/\0<=p.2/\p.2<=q.2:=by
 let#v[w,O,G,Y,w0]:=Ib g;let h:=wN T M dk y;have u:(e8 T Kd.mk++M.map Mk.n).Nodup:=g.nd.sublist ((wx T _).append (fQ _));have hln:w.length<=204:=by have E:=aX cN G;have Q:=(wx T Kd.mk).length_le;have h3:=g.len;have H:=g.m4;rw[ak,aG,ak]at E;rw[ak]at Q;omega
 have ma:∀(l:List (Str×Int)) (d:List L4.D) (e:List ee) (f:List L4.D) (a b:Sl),IL d->(∀q∈l,1<=q.2)->(e++l.map λq=>kS q.1).Nodup->e.length+l.length<=1000->f.length=e.length->∃(V:List (Str×Int)) (c:List L4.D) (o r:Sl),IL c/\V.map ai=l.map ai/\(∀p∈V,∃q∈l,p.1=q.1/\0<=p.2/\p.2<=q.2)/\
   fu (gT jQ 2) (wK 2 aB (v8 vq 1 oQ)) (l.map λq=>D.bx [.str q.1,.int q.2]) [.q h,.pm d,.dk e f,a,b]=U (.nx [.q h,.pm c,.dk (e++V.map λq=>kS q.1) (f++V.map λq=>D.int q.2),o,r]):=by
  intro l
  induction l with
  |nil=>intro d e f a b t _ _ _ _;show#v[[],d,a,b,t,J,λp j=>(bY j).elim,by rw[bZ,bZ,bZ,bD,bD];rfl]
  |cons q l X=>
   intro d e f a b t j u R I;rw[aK]at R;have N:=j q aP;let#v[v,m,E,F,W,H]:=xq t (q.2+1) ();have S:=λz=>by rw[cq]at u;show u.2.2 _ z _ (by rw[aA];show aP) J
   let#v[V,c,o,r,A,B,C,x]:=X m (e++[kS q.1]) (f++[.int v]) (.q (.str q.1)) (.q (.int q.2)) E (λq N=>j q (ba _ N)) (by rw[bL];show u) (by rw[aG,bu];omega) (by rw[aG,aG,I,bu,bu]);refine#v[(q.1,v)::V,c,o,r,A,by rw[aA,aA,B],λp j=>?_,?_]
   .rcases aD.1 j with rfl|j
    .show#v[q,aP,J,F,by change v<=q.2;omega]
    .let#v[q',c1,c2]:=C p j;show#v[q',ba _ c1,c2]
   rw[aA];delta fu;rw[show gT jQ 2 (.bx [.str q.1,.int q.2]) [.q h,.pm d,.dk e f,a,b]=U [.q h,.pm d,.dk e f,.q (.str q.1),.q (.int q.2)] from J];have P:v8 vq 1 oQ [.q h,.pm d,.dk e f,.q (.str q.1),.q (.int q.2)]=U (.int v,[.q h,.pm m,.dk e f,.q (.str q.1),.q (.int q.2)]):=(yh J (vz (vA J J J) J) J H).t J;have st:wK 2 aB (v8 vq 1 oQ) [.q h,.pm d,.dk e f,.q (.str q.1),.q (.int q.2)]=U (.nx [.q h,.pm m,.dk (e++[kS q.1]) (f++[.int v]),.q (.str q.1),.q (.int q.2)]):=by have:=Da (i:=2) (fk:=cV 3) (fv:=cC (.int v)) (ρ:=[.q h,.pm m,.dk e f,.q (.str q.1),.q (.int q.2)]) J J J S () I;delta wK at this ⊢;rw[P];show this
   erw[st];calc x.t ?_;rw[aA,aA,bL,bL];rfl
 have ndV:(([]:List ee)++w.map λq=>kS q.1).Nodup:=by have:=yN (l:=w.map ai) (by rw[G];show u);rw[aT]at this;rw[bP];show this
 let#v[V,c,o,r,A,B,C,x]:=ma w d [] [] .un .un t Y ndV (by simp;omega) J;rw[bP,bP]at x;calc#v[V,c,A,?_,by rw[B,G],λp j=>w0▸C p j];have run:Cb (K? 5 d [h])=U (.rt (m? V) [.q h,.pm c,.q (m? V),o,r]):=by calc(vp J).t ?_;calc(vp ((wW ?_).t x));show(NY (vv (ρ1:=[.q h,.pm d,.dk [] [],.un,.un]) J O)).t (by rw[Fs])
 delta yB vx;rw[af (show [h].length=1 from J),run];rfl
abbrev k3(A:List (Str×Str)):L4.D:=.J (A.map λq=>kS q.1) (A.map λq=>D.str q.2)
structure Pl(y:Str)(rm:aC)(A:List (Str×Str))(Hs:aC)(rk:Str->Nat)(m:Nat):Prop where
 nd:(A.map ai).Nodup
 lt:∀q∈A,rk q.2<rk q.1/\rk q.1<m
 vh:∀q∈A,q.2∈Hs
 hs:∀h∈Hs,rk h<m
 ry:rk y=1
 rr:∀x∈rm,rk x=0
def Pl.add{y:Str}{o:aC}{A:List (Str×Str)}{i:aC}{t:Str->Nat}{m:Nat}(P:Pl y o A i t m){x h:Str}(j:h∈i)(p:x∉A.map ai)(u:x∉i)(w:x≠y)(B:x∉o)(f:aC)(hH:∀z∈f,z∈i\/z=x)(hS:∀z∈i,z∈f):
  ∃l,Pl y o (A++[(x,h)]) f l (m+1):=by
 have ne:∀z∈i,z≠x:=λz d e=>u (e▸d);refine#v[λz=>if z=x then m else t z,?_,λq c=>?_,λq c=>?_,λz d=>?_,?_,λz d=>?_]
 .rw[bg,cq];calc#v[P.nd,by simp,λa C b r=>?_];erw[aA,bZ,aO]at r;subst r;show λe=>p (e▸C)
 .rcases bC.1 c with c|c
  .let#v[a,b]:=P.lt q c;rw[ah (ne _ (P.vh q c)),ah (show ¬q.1=x from λe=>p (e▸cc c))];show#v[a,by omega]
  .rw[aO]at c;subst c;rw[ah (ne h j),af J];show#v[P.hs h j,by omega]
 .rcases bC.1 c with c|c
  .show hS _ (P.vh q c)
  .rw[aO]at c;subst c;show hS _ j
 .by_cases e:z=x
  .rw[af e];omega
  .rw[ah e];rcases hH z d with d|d
   .have:=P.hs z d;omega
   .show au d e
 .rw[ah (λe=>w e.symm)];show P.ry
 .rw[ah (show ¬z=x from λe=>B (e▸d))];show P.rr z d
theorem Ie{b:Type}:∀(l:List b) (j:Nat) (h:j<l.length),(l[j]::l.eraseIdx j).Perm l
 |a::l,0,_=>kQ _
 |a::l,j+1,h=>(List.Perm.swap a _ _).t ((Ie l j (by exists h)).cons a)
theorem JH{b c:Type}(f:b->c):∀(l:List b) (j:Nat),(l.map f).eraseIdx j=(l.eraseIdx j).map f
 |[],j=>rfl
 |a::l,0=>rfl
 |a::l,j+1=>by change f a::(l.map f).eraseIdx j=_;rw[JH f l j];rfl
def KN{i:Nat}{c fv:FE}{ρ ρ1:aU}{a:List ee}{b:List L4.D}{x:Str}{d:L4.D}(e:fv ρ=U (d,ρ1))(f:ρ1[i]?=U (.dk a b))(h:c ρ1=U (.str x,ρ1))(m:kS x∉a)(l:a.length<1000)(j:b.length=a.length):
  wK i c fv ρ=U (.nx (ρ1.set i (.dk (a++[kS x]) (b++[d])))):=by
 have:=Da (fv:=cC d) J f h m l j;delta wK at this ⊢;rw[e];show this
def NZ{A:List (Str×Str)}{x:Str}(h:x∉A.map ai):kS x∉A.map λq=>kS q.1:=λz=>by let#v[q,a,e]:=av.1 z;show h (av.2 #v[q,a,D7 e])
abbrev tH(A:List (Str×Str)):Sl:=.dk (A.map λq=>kS q.1) (A.map λq=>D.str q.2)
def Ig(A:List (Str×Str))(x h:Str):Sl.dk ((A.map λq=>kS q.1)++[kS x]) ((A.map λq=>D.str q.2)++[.str h])=tH (A++[(x,h)]):=by delta tH;rw[bg,bg];rfl
theorem Ds:∀a:aC,A4 (a.map D.str)=U (a.map L3.Dq.str)
 |[]=>rfl
 |x::a=>by rw[aA];delta A4;rw[Ds a];rfl
def My(x:Str)(a:aC):ey γ (.ax ((x::a).map D.str)) (.ax [])=U (.bl γ):=by
 have b:E9 γ (.ax ((x::a).map D.str)) (.ax [])=Z:=rfl;have c:oy (.ax ((x::a).map D.str))=U (.ax ((x::a).map L3.Dq.str)):=by delta oy;rw[Ds]
 have d:gw (.ax ((x::a).map L3.Dq.str))=1:=by rw[gw,Bl]
 delta ey;rw[b];delta Ge;rw[c,show oy (.ax [])=U (.ax []) from J];change (if Lj (.ax ((x::a).map L3.Dq.str)) (.ax [])&&decide (gw (.ax ((x::a).map L3.Dq.str))<=20)&&decide (gw (.ax [])<=20)then U (D.bl !(nf (.ax ((x::a).map L3.Dq.str)) (.ax [])))else Z)=_;rw[d];rfl
def YG:FT:=DG (cT (c2 (ey γ) aR (cL (vO vH))))
abbrev oR:=(ab (Em (c1 w6 aB)) vH)
def YH:FS:=(a7 (vM 5 (DW 4 (v8 vq 1 lJ)))
 (a7 (wK 2 aV (E6 3 (v8 vq 1 oR)))
 (v3 (zP 3 aV))))
theorem Mz(l:L4.D)(y:Str)(H:aC):∀(n:Nat) (d:aC) (u:List L4.D) (A:List (Str×Str)) (a:aC) (G:Str->Nat) (m f:Nat) (r:Sl),d.length=n->n<f->IL u->Pl y H A a G m->a≠[]->d.Nodup->(∀b∈d,b∉A.map ai/\b∉a/\b≠y/\b∉H)->A.length+n<=900->a.length+n<=900->
  ∃(B:List L4.D) (E:List (Str×Str)) (t:aC) (C:Str->Nat) (O:Sl),IL B/\Pl y H E t C (m+n)/\(∀z∈t,z∈a\/z∈d)/\(∀z∈a,z∈t)/\(∀z∈E.map ai,z∈A.map ai\/z∈d)/\E.length=A.length+n/\t.length<=a.length+n/\
   O' YG YH f [.q l,.pm u,tH A,.I (a.map D.str),.I (d.map D.str),r,.un,.un]=U (.nx [.q l,.pm B,tH E,.I (t.map D.str),.I [],O,.un,.un])
 |0,d,u,A,a,G,m,f+1,r,F,_,I,P,_,_,_,_,_=>by
  cases d with
  |cons b d=>cases F
  |nil=>show#v[u,A,a,G,r,I,P,λz p=>.inl p,λz p=>p,λz p=>.inl p,J,aF _,J]
 |n+1,d,u,A,a,G,m,f+1,r,F,hf,I,P,h0,nd,fr,hA,hHl=>by
  let#v[v,w,i1,v0,v1,X]:=xq I d.length ();let#v[j,rfl]:=c9 v0;have M:j<d.length:=by omega
  let b:=d[j];let o:=d.eraseIdx j;have perm:(b::o).Perm d:=Ie d j M;have ndb:=perm.nodup_iff.2 nd;have hbm:=cI M;let#v[R,f2,f3,f4]:=fr b hbm;have hbl:o.length=n:=by have:=perm.length_eq;rw[aK]at this;omega
  let Q:=[.q l,.pm w,tH A,.I (a.map D.str),.I (o.map D.str),.q (.str b),.un,.un];let#v[h,x,hh,i2,Y]:=KM (ρ:=Q) (i:=1) (j:=3) i1 h0 J J J (λs=>J);let#v[N,T]:=P.add hh R f2 f3 f4 (a++[b]) (λz p=>by
   rcases bC.1 p with p|p
   .show .inl p
   .show .inr (aO.1 p)) λz p=>bO _ p
  let#v[B,E,t,C,O,g1,g2,g3,g4,g5,g6,g7,g8]:=Mz l y H n o x (A++[(b,h)]) (a++[b]) N (m+1) f (.q (.str b)) hbl () i2 T (by simp) (cu.1 ndb).2 (λc S=>by
   let#v[q1,q2,q3,q4]:=fr c (perm.subset (ba _ S));have ne:c≠b:=λe=>(cu.1 ndb).1 (e▸S);refine#v[λz=>?_,λz=>?_,q3,q4]
   .rw[bg]at z;rcases bC.1 z with z|z
    .show q1 z
    .show ne (by exists z)
   .rcases bC.1 z with z|z
    .show q2 z
    .show ne (aO.1 z)) (by rw[aG,bu];omega) (by rw[aG,bu];omega)
  refine#v[B,E,t,C,O,g1,by rw[show m+(n+1)=m+1+n by omega];show g2,λz p=>?_,λz p=>g4 z (bO _ p),λz p=>?_,by rw[g6,aG,bu];omega,by rw[aG,bu]at g7;omega,?_]
  .rcases g3 z p with h|h
   .rcases bC.1 h with h|h
    .show .inl h
    .show .inr (by rw[aO.1 h];show hbm)
   .show .inr (perm.subset (ba _ h))
  .rcases g5 z p with h|h
   .rw[bg]at h;rcases bC.1 h with h|h
    .show .inl h
    .show .inr (by rw[show z=b by exists h];show hbm)
   .show .inr (perm.subset (ba _ h))
  .have et:YG [.q l,.pm u,tH A,.I (a.map D.str),.I (d.map D.str),r,.un,.un]=U (γ,[.q l,.pm u,tH A,.I (a.map D.str),.I (d.map D.str),r,.un,.un]):=by
    cases hx:d with
    |nil=>rw[hx]at F;cases F
    |cons c W=>show J2 (wt (vA J J (My c W)))
   have ep:DW 4 (v8 vq 1 lJ) [.q l,.pm u,tH A,.I (a.map D.str),.I (d.map D.str),r,.un,.un]=U (.str b,[.q l,.pm w,tH A,.I (a.map D.str),.I (o.map D.str),r,.un,.un]):=by have e1:Em (c1 w6 aR) [.q l,.pm u,tH A,.I (a.map D.str),.I (d.map D.str),r,.un,.un]=U (.int d.length,[.q l,.pm u,tH A,.I (a.map D.str),.I (d.map D.str),r,.un,.un]):=Sm (wu J (by change U (D.int _)=_;rw[ak])) J;have e2:v8 vq 1 lJ [.q l,.pm u,tH A,.I (a.map D.str),.I (d.map D.str),r,.un,.un]=U (.int j,[.q l,.pm w,tH A,.I (a.map D.str),.I (d.map D.str),r,.un,.un]):=(yh J (vz e1 J) J X).t J;delta DW;rw[show xh [.q l,.pm u,tH A,.I (a.map D.str),.I (d.map D.str),r,.un,.un] 4=U (d.map D.str) from J];erw[e2];rw[show xh [.q l,.pm w,tH A,.I (a.map D.str),.I (d.map D.str),r,.un,.un] 4=U (d.map D.str) from J];simp only;rw[af (),ik,br,aH M];change (if (j:Int)<1000000 then U (D.str b,[Sl.q l,.pm w,tH A,.I (a.map D.str),.I ((d.map D.str).eraseIdx j),r,.un,.un])else Z)=_;rw[af (),JH]
   have e3:YH [.q l,.pm u,tH A,.I (a.map D.str),.I (d.map D.str),r,.un,.un]=U (.nx [.q l,.pm x,tH (A++[(b,h)]),.I ((a++[b]).map D.str),.I (o.map D.str),.q (.str b),.un,.un]):=by
    calc(vp ((vL ep))).t ?_;refine(vp (ρ':=[.q l,.pm x,tH (A++[(b,h)]),.I (a.map D.str),.I (o.map D.str),.q (.str b),.un,.un]) ((KN Y J J (NZ R) (by rw[ak];omega) (by rw[ak,ak])).t ?_)).t ?_
    .change U (p?.nx [.q l,.pm x,Sl.dk ((A.map λq=>kS q.1)++[kS b]) ((A.map λq=>D.str q.2)++[.str h]),.I (a.map D.str),.I (o.map D.str),.q (.str b),.un,.un])=_;rw[Ig]
    .calc(wV (CC J J J (by rw[ak];omega))).t ?_;change U (p?.nx [.q l,.pm x,tH (A++[(b,h)]),.I (a.map D.str++[.str b]),.I (o.map D.str),.q (.str b),.un,.un])=_;rw[show a.map D.str++[D.str b]=(a++[b]).map D.str by rw[bg];rfl]
   delta O';rw[et];erw[e3];show g8
theorem MA(w:L4.D)(y:Str)(F:aC)(t u:Sl):∀(l:aC) (f:List L4.D) (A:List (Str×Str)) (a:aC) (E:Str->Nat) (m:Nat) (C:Sl),IL f->Pl y F A a E m->a≠[]->l.Nodup->(∀b∈l,b∉A.map ai/\b∉a/\b≠y/\b∉F)->A.length+l.length<=900->
  ∃(d:List L4.D) (B:List (Str×Str)) (r:Str->Nat) (I:Sl),IL d/\Pl y F B a r (m+l.length)/\(∀z∈B.map ai,z∈A.map ai\/z∈l)/\B.length=A.length+l.length/\
   fu (gN 6) (wK 2 bp (E6 3 (v8 vq 1 oR))) (l.map D.str) [.q w,.pm f,tH A,.I (a.map D.str),t,u,C,.un]=U (.nx [.q w,.pm d,tH B,.I (a.map D.str),t,u,I,.un])
 |[],f,A,a,E,m,C,G,P,_,_,_,_=>#v[f,A,E,C,G,P,λz p=>.inl p,J,J]
 |b::l,f,A,a,E,m,C,G,P,N,Q,fr,hA=>by
  rw[aK]at hA;let#v[M,T,W,X]:=fr b aP;let x:=[.q w,.pm f,tH A,.I (a.map D.str),t,u,.q (.str b),.un];let#v[h,o,hh,i2,S]:=KM (ρ:=x) (i:=1) (j:=3) G N J J J (λs=>J);let#v[H,R]:=P.add hh M T W X a (λz p=>.inl p) λz p=>p;let#v[d,B,r,I,Y,g2,g5,g6,g8]:=MA w y F t u l o (A++[(b,h)]) a H (m+1) (.q (.str b)) i2 R N (cu.1 Q).2 (λc O=>by
   let#v[q1,q2,q3,q4]:=fr c (ba _ O);have ne:c≠b:=λe=>(cu.1 Q).1 (e▸O);calc#v[λz=>?_,q2,q3,q4];rw[bg]at z;rcases bC.1 z with z|z
   .show q1 z
   .show ne (by exists z)) (by rw[aG,bu];omega)
  refine#v[d,B,r,I,Y,by rw[aK,show m+(l.length+1)=m+1+l.length by omega];show g2,λz p=>?_,by rw[g6,aG,bu,aK];omega,?_]
  .rcases g5 z p with h|h
   .rw[bg]at h;rcases bC.1 h with h|h
    .show .inl h
    .show .inr (by rw[show z=b by exists h];show aP)
   .show .inr (ba _ h)
  .rw[aA];delta fu;rw[show gN 6 (.str b) [.q w,.pm f,tH A,.I (a.map D.str),t,u,C,.un]=U x from J];have st:wK 2 bp (E6 3 (v8 vq 1 oR)) x=U (.nx [.q w,.pm o,tH (A++[(b,h)]),.I (a.map D.str),t,u,.q (.str b),.un]):=by calc(KN S J J (NZ M) (by rw[ak];omega) (by rw[ak,ak])).t ?_;change U (p?.nx [.q w,.pm o,Sl.dk ((A.map λq=>kS q.1)++[kS b]) ((A.map λq=>D.str q.2)++[.str h]),.I (a.map D.str),t,u,.q (.str b),.un])=_;rw[Ig]
   erw[st];show g8
def Ih{T:List Th}(b:(T.map Th.n).Nodup){t u:Th}(c:t∈T)(d:u∈T)(e:t.n=u.n):t=u:=by
 induction T with
 |nil=>cases c
 |cons a T f=>
  rw[aA,cu]at b;rcases aD.1 c with h1|h1<;>rcases aD.1 d with h2|h2
  .show h1.t h2.symm
  .show au (show a.n∈T.map Th.n from h1▸e▸cc h2) b.1
  .show au (show a.n∈T.map Th.n from h2▸e▸cc h1) b.1
  .show f b.2 h1 h2
def xg{T:List Th}{p:Kd->Bool}{x:Str}(h:x∈e8 T p):∃t∈T,t.n=x/\p t.k=γ:=by let#v[t,a,b]:=av.1 h;let#v[c,d]:=bw.1 a;show#v[t,c,b,d]
def yu{T:List Th}(j:(T.map Th.n).Nodup){p q:Kd->Bool}(h:∀k,p k=γ->q k=γ->False){x:Str}(f:x∈e8 T p)(i:x∈e8 T q):False:=by let#v[t,a1,a,b]:=xg f;let#v[u,c,d,e]:=xg i;have:=Ih j a1 c (a.t d.symm);subst this;show h _ b e
def N0{T:List Th}{p q:Kd->Bool}(h:∀k,p k=γ->q k=γ):(e8 T p).length<=(T.filter λt=>q t.k).length:=by delta e8;rw[ak,<- o9,<- o9];show List.countP_mono_left λt z a=>h _ a
theorem Pi:∀{l L:aC},l.Nodup->(∀x∈l,x∈L)->L.length<=l.length->∀x∈L,x∈l
 |[],L,_,_,b,x,c=>by rw[dA,Nat.le_zero,hX]at b;subst b;cases c
 |a::l,L,d,f,b,x,c=>by
  rw[cu]at d;have i:=f a aP;by_cases e:x=a
  .rw[e];show aP
  .calc ba _ (Pi d.2 (λz h=>(l8 (show z≠a from λw=>d.1 (w▸h))).2 (f z (ba _ h))) ?_ x ((l8 e).2 c));rw[pC i];rw[aK]at b;omega
structure DB(A:List (Str×Str))(y:Str):Prop where
 nd:(A.map ai).Nodup
 rk:∃rk:Str->Nat,∀q∈A,rk q.2<rk q.1/\rk q.1<40
 yo:∃r,(y,r)∈A
 ln:A.length<=20
def QM{T:List Th}{M:List Mk}{dk:aC}{y:Str}(g:fh T M dk)(hy:(T.filter λt=>decide (t.k=.you)).map Th.n=[y]){W:List L4.D}(hi:IL W):∃(A:List (Str×Str)) (R:List L4.D),IL R/\DB A y/\(∀q∈A,q.2∈T.map Th.n)/\((∀x,x∈A.map ai ↔ x∈e8 T λk=>!decide (k=.room))/\(∀q∈A,q.2∈e8 T Kd.hd)/\∀r,(y,r)∈A->r∈e8 T λk=>decide (k=.room))/\xu W [wN T M dk y]=U (k3 A,R):=by
 have hl:=g.len;have I:=g.t9;let C:=wN T M dk y;let l:=e8 T λk=>decide (k=.room);let G:=e8 T λk=>decide (k=.box);let ot:=e8 T Kd.ot;let Q:=e8 T λk=>!k.pl;have hyy:y∈e8 T λk=>decide (k=.you):=by delta e8;rw[hy];show aO.2 J
 have hyH:y∈Q:=by let#v[t,m,f,E]:=xg hyy;calc av.2 #v[t,bw.2 #v[m,?_],f];rw[bj E];rfl
 have yrm:∀x∈l,x≠y:=λx d e=>yu I (λk m f=>by rw[bj m]at f;ext f) (e▸d) hyy;have P0:Pl y l [] Q (λz=>if z=y then 1 else 0) 2:=#v[iu,λq c=>(bY c).elim,λq c=>(bY c).elim,λh s=>by split<;>omega,af J,λx d=>ah (yrm x d)];have fresh:∀(p:Kd->Bool),(∀k,p k=γ->k.pl=γ)->∀b∈e8 T p,b∉Q/\b≠y/\b∉l:=λp H b i=>#v[λz=>yu I (λk m f=>by rw[H k m]at f;ext f) i z,λe=>yu I (λk m f=>by have:=H k m;rw[bj f]at this;ext this) i (e▸hyy),λz=>yu I (λk m f=>by have:=H k m;rw[bj f]at this;ext this) i z]
 have hpb:∀k:Kd,decide (k=.box)=γ->k.pl=γ:=λk h=>by rw[bj h];rfl
 have hpo:∀k:Kd,k.ot=γ->k.pl=γ:=λk h=>by ext k<;>first|rfl|ext h
 have hbl:G.length<=7:=cg (N0 hpb) g.p7;have hol:ot.length<=7:=cg (N0 hpo) g.p7;have hHl:Q.length<=200:=by have:=(wx T λk=>!k.pl).length_le;rw[ak]at this;show cg this hl
 let#v[Y,A1,o,rk1,N,i1,P1,E,h4,h5,h6,h7,h8]:=Mz C y l G.length G W [] Q _ 2 50 .un J () hi P0 (λe=>by rw[e]at hyH;ext hyH) (I.sublist (wx T _)) (λb i=>#v[λz=>(bY z).elim,fresh _ hpb b i]) (by simp;omega) ();have frO:∀b∈ot,b∉G:=λb i z=>yu I (λk m f=>by rw[bj f]at m;ext m) i z;let#v[S,u,rk2,P,i2,F,q5,q6,q8]:=MA C y l (.I []) N ot Y A1 o rk1 (2+G.length) .un i1 P1 (λe=>by have:=h4 y hyH;rw[e]at this;ext this) (I.sublist (wx T _)) (λb i=>by
  let#v[f1,f2,f3]:=fresh _ hpo b i;refine#v[λz=>?_,λz=>?_,f2,f3]
  .rcases h5 b z with z|z
   .ext z
   .show frO b i z
  .rcases E b z with z|z
   .show f1 z
   .show frO b i z) (by rw[h6];simp;omega)
 have hrl:0<l.length:=by have:=g.r1;erw[l,e8,ak];omega
 let#v[v,B,i3,v0,v1,d3]:=xq i2 l.length ();let#v[j,rfl]:=c9 v0;have hj:j<l.length:=by omega
 let z:=l[j];have X:=cI hj;have hyk:y∉u.map ai:=λw=>by
  rcases q5 y w with w|w
  .rcases h5 y w with w|w
   .ext w
   .show(fresh _ hpb y w).2.1 J
  .show(fresh _ hpo y w).2.1 J
 have hA2:u.length<=14:=by rw[q6,h6];simp;omega
 refine#v[u++[(y,z)],B,i3,#v[?_,#v[rk2,λq c=>?_],#v[z,by simp],by rw[aG,bu];omega],λq c=>?_,#v[?K,?Hd,?Ry],?_]
 .rw[bg,cq];calc#v[F.nd,by simp,λa ha b i=>?_];erw[aA,bZ,aO]at i;subst i;show λe=>hyk (e▸ha)
 .rcases bC.1 c with c|c
  .let#v[a,b]:=F.lt q c;show#v[a,by omega]
  .rw[aO]at c;subst c;rw[F.rr z X,F.ry];omega
 .rcases bC.1 c with c|c
  .rcases E _ (F.vh q c)with w|w<;>show(wx T _).subset w
  .rw[aO]at c;subst c;show(wx T _).subset X
 case K=>
  have sub:∀x∈(u++[(y,z)]).map ai,x∈G++(ot++[y]):=λx d=>by
   rw[bg]at d;rcases bC.1 d with d|d
   .rcases q5 x d with w|w
    .rcases h5 x w with w|w
     .ext w
     .show bO _ w
    .show bU _ (bO _ w)
   .show bU _ (bU _ d)
  have nd2:((u++[(y,z)]).map ai).Nodup:=by rw[bg,cq];calc#v[F.nd,by simp,λa ha b i=>?_];erw[aA,bZ,aO]at i;subst i;show λe=>hyk (e▸ha)
  have ln:(G++(ot++[y])).length<=((u++[(y,z)]).map ai).length:=by rw[ak,aG,aG,aG,q6,h6,dA,bu,bu];omega
  have all:=Pi nd2 sub ln;have zk:∀(p:Kd->Bool),(∀k,p k=γ->(!decide (k=.room))=γ)->∀x∈e8 T p,x∈e8 T λk=>!decide (k=.room):=λp H x d=>by let#v[t,m,f,E]:=xg d;show av.2 #v[t,bw.2 #v[m,H _ E],f]
  intro x;constructor
  .intro d;rcases bC.1 (sub x d)with w|w
   .show zk _ (λk h=>by rw[bj h];rfl) x w
   .rcases bC.1 w with w|w
    .show zk _ (λk h=>by ext k<;>first|rfl|ext h) x w
    .rw[aO]at w;rw[w];show zk _ (λk h=>by rw[bj h];rfl) y hyy
  .intro d;let#v[t,t1,t2,t3]:=xg d;apply all;have mk:∀p:Kd->Bool,p t.k=γ->x∈e8 T p:=λp h=>av.2 #v[t,bw.2 #v[t1,h],t2];cases O:t.k with
   |room=>rw[O]at t3;cases t3
   |you=>have:=mk (λk=>decide (k=.you)) (by rw[O];rfl);delta e8 at this;rw[hy]at this;show bU _ (bU _ this)
   |box=>show bO _ (mk (λk=>decide (k=.box)) (by rw[O];rfl))
   |plain=>show bU _ (bO _ (mk Kd.ot (by rw[O];rfl)))
   |fixed=>show bU _ (bO _ (mk Kd.ot (by rw[O];rfl)))
   |lamp=>show bU _ (bO _ (mk Kd.ot (by rw[O];rfl)))
 case Hd=>
  have toh:∀(p:Kd->Bool),(∀k,p k=γ->k.hd=γ)->∀x∈e8 T p,x∈e8 T Kd.hd:=λp H x d=>by let#v[t,m,f,E]:=xg d;show av.2 #v[t,bw.2 #v[m,H _ E],f]
  intro q c;rcases bC.1 c with c|c
  .rcases E _ (F.vh q c)with w|w
   .show toh _ (λk h=>by ext k<;>first|rfl|ext h) _ w
   .show toh _ (λk h=>by rw[bj h];rfl) _ w
  .rw[aO]at c;subst c;show toh _ (λk h=>by rw[bj h];rfl) _ X
 case Ry=>
  intro r hr;rcases bC.1 hr with hr|hr
  .show au (av.2 #v[_,hr,J]) hyk
  .rw[aO]at hr;ext hr;show X
 have run:Be (K? 8 W [C])=U (.rt (k3 (u++[(y,z)])) [.q C,.pm B,.q (k3 (u++[(y,z)])),.I (o.map D.str),.I [],N,P,.q (.ax (l.map D.str))]):=by
  calc(vp J).t ?_;calc(vp ((BK (vv J (pa () (λk=>!k.pl) aeD))))).t ?_;calc(vp ((BK (vv J (pa () (λk=>decide (k=.box)) Ul))))).t ?_;calc(vp h8).t ?_;calc(vp ((wW (Ia (wA (vv J (pa () Kd.ot aeE))))).t q8)).t ?_;calc(vp ((vL (wA (vv J (pa () (λk=>decide (k=.room)) Ph)))))).t ?_;have ev:c2 e7 bW (v8 vq 1 (ab (c1 w6 bW) vH)) [.q C,.pm S,tH u,.I (o.map D.str),.I [],N,P,.q (.ax (l.map D.str))]=U (.str z,[.q C,.pm B,tH u,.I (o.map D.str),.I [],N,P,.q (.ax (l.map D.str))]):=
   vA J ((yh (ρ1:=[.q C,.pm S,tH u,.I (o.map D.str),.I [],N,P,.q (.ax (l.map D.str))]) J (by change U ([D.int ((l.map D.str).length:Nat)],_)=_;rw[ak]) J d3)) (yt (aH hj))
  calc(vp (ρ':=[.q C,.pm B,tH (u++[(y,z)]),.I (o.map D.str),.I [],N,P,.q (.ax (l.map D.str))]) ((KN ev J J (NZ hyk) (by rw[ak];omega) (by rw[ak,ak])).t ?_));change U (p?.nx [.q C,.pm B,Sl.dk ((u.map λq=>kS q.1)++[kS y]) ((u.map λq=>D.str q.2)++[.str z]),.I (o.map D.str),.I [],N,P,.q (.ax (l.map D.str))])=_;rw[Ig]
 delta xu vx;rw[af (show [C].length=1 from J),run];rfl
def N1{c i:Type}{f:c->i}(d:∀a b,f a=f b->a=b){l:List c}(h:l.Nodup):(l.map f).Nodup:=vd f (λa b h e=>h (d a b e)) h
abbrev Ky:=Str×Str
def o?(q:Ky×L4.D):L4.D:=.bx [.bx [.str q.1.1,.str q.1.2],q.2]
def GF(a b c d:Str):ey δ (.bx [.str a,.str b]) (.bx [.str c,.str d])=U (.bl (decide ((a,b)=(c,d)))):=by have e:E9 δ (.bx [.str a,.str b]) (.bx [.str c,.str d])=Z:=rfl;have f:Ge δ (.bx [.str a,.str b]) (.bx [.str c,.str d])=U (.bl (L3.nf (.bx [.str a,.str b]) (.bx [.str c,.str d]))):=rfl;delta ey;rw[e];simp only;rw[f];congr 2;rw[dO];simp[L3.nf,L3.A0]
theorem Ii(p:Sl)(k:Ky):∀(S:List (Ky×L4.D)) (s:Sl),∃c,(∃d,(k,d)∈S/\fu (gN 2) (gs (cT (c2 (ey δ) (c2 e7 az aY) ao)) (vQ (c2 e7 az aN)) vZ) (S.map o?) [p,.q (.bx [.str k.1,.str k.2]),s]=U (.rt d [p,.q (.bx [.str k.1,.str k.2]),c]))\/
  (k∉S.map ai/\fu (gN 2) (gs (cT (c2 (ey δ) (c2 e7 az aY) ao)) (vQ (c2 e7 az aN)) vZ) (S.map o?) [p,.q (.bx [.str k.1,.str k.2]),s]=U (.nx [p,.q (.bx [.str k.1,.str k.2]),c]))
 |[],s=>#v[s,.inr #v[bY,J]]
 |q::S,s=>by
  have b:cT (c2 (ey δ) (c2 e7 az aY) ao) [p,.q (.bx [.str k.1,.str k.2]),.q (o? q)]=U (decide (q.1=k),[p,.q (.bx [.str k.1,.str k.2]),.q (o? q)]):=wt (vA J J (GF _ _ _ _));rw[aA];delta fu;rw[show gN 2 (o? q) [p,.q (.bx [.str k.1,.str k.2]),s]=U [p,.q (.bx [.str k.1,.str k.2]),.q (o? q)] from J];by_cases h:q.1=k
  .rw[aI h]at b;calc#v[.q (o? q),.inl #v[q.2,by rw[<-h];show aP,?_]];erw[wz b];rfl
  .rw[aL h]at b;let#v[c,a]:=Ii p k S (.q (o? q));erw[v5 b];calc#v[c,?_];rcases a with ⟨d,a,e⟩|⟨a,e⟩
   .show .inl #v[d,ba _ a,e]
   .show .inr #v[λz=>by
     rw[aA]at z;rcases aD.1 z with z|z
     .show h z.symm
     .show a z,e]
def MB(S:List (Ky×L4.D))(k:Ky):(∃d,(k,d)∈S/\B5 [.bx (S.map o?),.bx [.str k.1,.str k.2]]=U d)\/(k∉S.map ai/\B5 [.bx (S.map o?),.bx [.str k.1,.str k.2]]=U .cx):=by
 let#v[c,h]:=Ii (.q (.bx (S.map o?))) k S .un;rcases h with ⟨d,a,b⟩|⟨a,b⟩
 .refine .inl #v[d,a,vR J (wc ((wW J).t b))]
 .calc .inr #v[a,vR J ((vp ((wW J).t b)))]
def bas(A:List (Str×Str))(V:List (Str×Int)):List (Ky×L4.D):=(A.map λq=>((("at", q.1):Ky),D.str q.2))++V.map λq=>((("mark", q.1):Ky),D.int q.2)
theorem MC:∀B:List (Ky×L4.D),CH (B.map o?)=U (B.map λq=>[q.1.1,q.1.2])
 |[]=>rfl
 |q::B=>by rw[aA];delta CH;rw[MC B];rfl
def N2{a:Type}(d:a):∀l:List a,(bh l.length).map (λi=>l.getD i d)=l:=λl=>by
 apply qM
 .rw[ak,cG]
 .intro i c b;rw[kI,my,bQ,aH b];rfl
def Xq(B:List (Ky×L4.D))(r:(B.map ai).Nodup)(f:0<B.length)(l:B.length<64):∃S:List (Ky×L4.D),S.Perm B/\Js (B.map o?)=U (S.map o?):=by
 let d:=B.map λq=>[q.1.1,q.1.2];have p:d.Nodup:=by
  have:d=(B.map ai).map λk=>[k.1,k.2]:=by rw[aT];rfl
  rw[this];show N1 (λa b h=>by injection h with a1 e;injection e with e _;show Prod.ext a1 e) r
 let c:=λi j=>xp (d.getD i []) (d.getD j []);refine#v[(DY c B.length).map λi=>B.getD i (("", ""),.cx),?_,?_]
 .have:=(zp c f).map λi=>B.getD i (("", ""),.cx);rw[N2]at this;show this
 .delta Js;rw[MC];erw[ak];rw[af #v[p,f,l],aT];congr 1;calc jh λi m=>?_;have o:=Dm c f i m;change (B.map o?).getD i .cx=o? (B.getD i (("", ""),.cx));rw[bQ,bQ,br,aH o];rfl
theorem Ik:∀V:List (Str×Str),Eu ((V.map λq=>kS q.1).map Nt) (V.map λq=>D.str q.2)=V.map λq=>D.bx [.str q.1,.str q.2]
 |[]=>rfl
 |q::V=>by have:=Ik V;delta Eu at this ⊢;rw[aA,aA,aA,fO,this];rfl
def Xr{e:FE}{ρ a:aU}{b c:List L4.D}(h:e ρ=U (.ax b,a))(d:Js b=U c):Hy e ρ=U (c,a):=by delta Hy;rw[h];erw[d]
structure ER(A:List (Str×Str))(V:List (Str×Int))(S:List (Ky×L4.D)):Prop where
 i:∀q∈A,((("at", q.1):Ky),D.str q.2)∈S
 o:∀x d,((("at", x):Ky),d)∈S->∃z,d=.str z/\(x,z)∈A
 mi:∀q∈V,((("mark", q.1):Ky),D.int q.2)∈S
 mo:∀x d,((("mark", x):Ky),d)∈S->∃z,d=.int z/\(x,z)∈V
abbrev iQ:=(ab ao vH)
abbrev tI:=(ab (wg (ab (cC (.str "mark")) iR)) iQ)
def Uo{A:List (Str×Str)}{V:List (Str×Int)}{y:Str}(a:DB A y)(F:(V.map ai).Nodup)(lv:V.length<=40):∃S,((S.map ai).Nodup/\S.length<=60/\∀q∈S,(∃z,q.2=.str z)\/∃n,q.2=.int n)/\ER A V S/\yC [k3 A,m? V]=U (.bx (S.map o?)):=by
 have M:=a.ln;have I:0<A.length:=by let#v[r,h]:=a.yo;show pI h
 have m:((bas A V).map ai).Nodup:=by
  delta bas;rw[bg,aT,aT,cq];have t:A.map (ai∘λq=>((("at", q.1):Ky),D.str q.2))=(A.map ai).map λx=>(("at", x):Ky):=by rw[aT];rfl
  have w:V.map (ai∘λq=>((("mark", q.1):Ky),D.int q.2))=(V.map ai).map λx=>(("mark", x):Ky):=by rw[aT];rfl
  rw[t,w];calc#v[N1 (λa b h=>aX bI h) a.nd,N1 (λa b h=>aX bI h) F,λx C z E e=>?_];let#v[_,_,rfl]:=av.1 C;let#v[_,_,rfl]:=av.1 E;have:=aX ai e;show au this (by decide:¬(("at" : Str)="mark"))
 let#v[S,p,e]:=Xq (bas A V) m (by delta bas;rw[aG,ak];omega) (by delta bas;rw[aG,ak,ak];omega);refine#v[S,#v[(p.map ai).nodup_iff.2 m,by rw[p.length_eq];delta bas;rw[aG,ak,ak];omega,λq c=>by
  rcases bC.1 (p.mem_iff.1 c)with h|h
  .let#v[u,_,e]:=av.1 h;rw[<-e];show .inl #v[_,J]
  .let#v[u,_,e]:=av.1 h;rw[<-e];show .inr #v[_,J]],#v[λq c=>p.mem_iff.2 (bO _ (av.2 #v[q,c,J])),λx d h=>?_,λq c=>p.mem_iff.2 (bU _ (av.2 #v[q,c,J])),λx d h=>?_],?_]
 .rcases bC.1 (p.mem_iff.1 h)with h|h
  .let#v[q,c,e]:=av.1 h;ext e;show#v[_,J,c]
  .let#v[q,c,e]:=av.1 h;have:=aX (λz=>z.1.1) e;show au this (by decide:¬(("mark" : Str)="at"))
 .rcases bC.1 (p.mem_iff.1 h)with h|h
  .let#v[q,c,e]:=av.1 h;have:=aX (λz=>z.1.1) e;show au this (by decide:¬(("at" : Str)="mark"))
  .let#v[q,c,e]:=av.1 h;ext e;show#v[_,J,c]
 .let i:aU:=[.q (k3 A),.q (m? V),.un];let j:Str×Str->L4.D:=λq=>.bx [.bx [.str "at", .str q.1],.str q.2];let l:Str×Int->L4.D:=λq=>.bx [.bx [.str "mark", .str q.1],.int q.2];let f:aU:=[.q (k3 A),.q (m? V),.q (.ax (A.map j))];have c1:vT 2 [] (iIt ae) (gT f7 2) wG (wg (ab (wg (ab (cC (.str "at")) iR)) iQ)) i=U (A.map j,i):=by calc(AK ((NY J).t (by rw[Ik])) (by rw[ak];omega)).t ?_;show Kg (λq:Str×Str=>D.bx [.str q.1,.str q.2]) j A λq s=>#v[[.q (.str q.1),.q (.str q.2)],_,J,J,J]
  have c2:vT 2 [] (iIt ao) (gT f7 2) wG (wg tI) f=U (V.map l,f):=by calc(AK ((NY J).t (by rw[Fs])) (by rw[ak];omega)).t ?_;show Kg (λq:Str×Int=>D.bx [.str q.1,.int q.2]) l V λq s=>#v[[.q (.str q.1),.q (.int q.2)],_,J,J,J]
  have B:(bas A V).map o?=A.map j++V.map l:=by delta bas;rw[bg,aT,aT];rfl
  have o:=Xr (e:=cL (xJ az (cL (vT 2 [] (iIt ao) (gT f7 2) wG (wg tI))))) (ρ:=f) (wA (yX J (wA c2) (by rw[ak,ak];omega))) (B▸e);calc vR (ρ:=f) J ((vp (ρ':=f) ((vL (wA c1)))).t (vX ?_));delta CB;rw[wA o]
inductive Ch(A:List (Str×Str)):Str->aC->Prop
 |nil {x}:x∉A.map ai->Ch A x []
 |cons {x z l}:(x,z)∈A->Ch A z l->Ch A x (z::l)
def Il{A:List (Str×Str)}{y:Str}(a:DB A y)(x:Str):∃l,Ch A x l/\l.length<=40:=by
 let#v[i,d]:=a.rk;have ma:∀(n:Nat) (x:Str),(x∈A.map ai->i x<n)->∃l,Ch A x l/\l.length<=n:=by
  intro n
  induction n with
  |zero=>intro x h;show#v[[],.nil (λz=>au (h z) ()),by simp]
  |succ n f=>
   intro x h;by_cases c:x∈A.map ai
   .let#v[q,b,rfl]:=av.1 c;have:=h c;let#v[l,e,j]:=f q.2 λu=>by have:=(d q b).1;omega
    show#v[q.2::l,.cons b e,by rw[aK];omega]
   .show#v[[],.nil c,by simp]
 show ma 40 x λh=>by let#v[q,b,rfl]:=av.1 h;show(d q b).2
def N3{A:List (Str×Str)}{x:Str}{l:aC}(c:Ch A x l):∀a∈l,∃q∈A,q.2=a:=by
 induction c with
 |nil _=>intro a h;cases h
 |cons h _ b=>
  intro a ha;rcases aD.1 ha with e|ha
  .show#v[_,h,e.symm]
  .show b a ha
def YI{A:List (Str×Str)}{b:Str->Nat}(i:∀q∈A,b q.2<b q.1){x:Str}{l:aC}(c:Ch A x l):l.Nodup/\∀a∈l,b a<b x:=by
 induction c with
 |nil _=>show#v[iu,λa h=>(bY h).elim]
 |@cons x z l h _ d=>
  have f:=i _ h;calc#v[cu.2 #v[λw=>au (d.2 z w) (),d.1],λa ha=>?_];rcases aD.1 ha with e|ha
  .rw[e];show f
  .have:=d.2 a ha;have j:b z<b x:=f;omega
def Up{A:List (Str×Str)}{y x:Str}{l:aC}(a:DB A y)(c:Ch A x l):l.Nodup:=by let#v[e,d]:=a.rk;show(YI (λq b=>(d q b).1) c).1
def ES{A:List (Str×Str)}(b:(A.map ai).Nodup){x z c:Str}(h:(x,z)∈A)(d:(x,c)∈A):z=c:=by
 induction A with
 |nil=>cases h
 |cons a A e=>
  rw[aA,cu]at b;rcases aD.1 h with h1|h1<;>rcases aD.1 d with h2|h2
  .rw[<-h1]at h2;show(aX bI h2).symm
  .show au (show a.1∈A.map ai from h1▸av.2 #v[_,h2,J]) b.1
  .show au (show a.1∈A.map ai from h2▸av.2 #v[_,h1,J]) b.1
  .show e b.2 h1 h2
abbrev sD(S:List (Ky×L4.D)):L4.D:=.bx (S.map o?)
abbrev wO(T:List Th)(M:List Mk)(dk:aC)(y:Str)(mo:L4.D):L4.D:=.obj 14 wNs (wDs T M dk y mo)
section
variable{A:List (Str×Str)}{V:List (Str×Int)}{S:List (Ky×L4.D)}{y:Str}{T:List Th}{M:List Mk}{dk:aC}{mo:L4.D}
def Uq(g:fh T M dk):xP [TD T,MD M]=U (m? (k0 T M)):=by
 have Q:=g.len;have R:=g.m4;have c:(e8 T Kd.mk++M.map Mk.n).Nodup:=g.nd.sublist ((wx T _).append (fQ _));have ndk:=by have:=yN c;rw[bg,aT]at this;show this
 have hln:=by have:=(wx T Kd.mk).length_le;rw[ak]at this;omega
 have F:∀(l:List Th) (a:List ee) (b:List L4.D) (s:Sl),(a++(e8 l Kd.mk).map kS).Nodup->a.length+l.length<=900->b.length=a.length->∃d,fu (gN 3) (gs (cT (v9 xG "has_mark" aB vH)) (wK 2 (c1 (vU vY "name") aB) aN) vZ) (l.map fm) [.q (TD T),.q (MD M),.dk a b,s,.un]=U (.nx [.q (TD T),.q (MD M),.dk (a++(e8 l Kd.mk).map kS) (b++(e8 l Kd.mk).map λ_=>D.int 1),d,.un]):=by
  intro l
  induction l with
  |nil=>show λa b s _ _ _=>#v[s,by delta e8;simp;rfl]
  |cons t l w=>
   intro a b s c G p;rw[aK]at G;have j:cT (v9 xG "has_mark" aB vH) [.q (TD T),.q (MD M),.dk a b,.q (fm t),.un]=U (t.k.mk,[.q (TD T),.q (MD M),.dk a b,.q (fm t),.un]):=wt (wQ J J J J (Pc t));cases q:t.k.mk with
   |true=>
    rw[q]at j;have e:e8 (t::l) Kd.mk=t.n::e8 l Kd.mk:=by delta e8;rw[eD,q,af J,aA]
    rw[e,aA]at c;rw[e,aA,aA];have H:=λz=>by rw[cq]at c;show c.2.2 _ z _ aP J
    let#v[d,h]:=w (a++[kS t.n]) (b++[.int 1]) (.q (fm t)) (by rw[bL];show c) (by rw[aG,bu];omega) (by rw[aG,aG,p,bu,bu]);calc#v[d,?_];rw[aA];delta fu;rw[show gN 3 (fm t) [.q (TD T),.q (MD M),.dk a b,s,.un]=U [.q (TD T),.q (MD M),.dk a b,.q (fm t),.un] from J];have o:=(wz (g:=vZ) j).t (Da (i:=2) (fk:=c1 (vU vY "name") aB) (fv:=cC (.int 1)) J J (wu J (Bf t)) H () p);erw[o];calc h.t ?_;rw[bL,bL];rfl
   |false=>
    rw[q]at j;have e:e8 (t::l) Kd.mk=e8 l Kd.mk:=by delta e8;rw[eD,q,ah #[]]
    rw[e]at c ⊢;let#v[d,h]:=w a b (.q (fm t)) c () p;calc#v[d,?_];rw[aA];delta fu;rw[show gN 3 (fm t) [.q (TD T),.q (MD M),.dk a b,s,.un]=U [.q (TD T),.q (MD M),.dk a b,.q (fm t),.un] from J];have o:=(v5 (f:=wK 2 (c1 (vU vY "name") aB) aN) (g:=vZ) j);erw[o];show h
 let#v[r,u]:=F T [] [] .un (by rw[bP];show(cq.1 ndk).1) (by simp;omega) J;rw[bP,bP]at u;let#v[P,B]:=BA (g:=gN 4) (i:=2) (fk:=c1 (vU vY "name") aR) (fv:=c1 (vU Ar "most") aR) V? Mk.n (λm=>D.int m.mo) (λa b s=>[.q (TD T),.q (MD M),.dk a b,r,s])
  (λm a b s=>#v[[.q (TD T),.q (MD M),.dk a b,r,.q (V? m)],J,wu J (Xd m),J,wu J (KF m),λI x=>#v[_,J]]) M ((e8 T Kd.mk).map kS) ((e8 T Kd.mk).map λ_=>D.int 1) .un ndk (by rw[ak];omega) (by rw[ak,ak])
 calc vR (ρ:=[.q (TD T),.q (MD M),.q (m? (k0 T M)),r,P]) J ?_;calc(vp J).t ?_;calc(vp ((wW J).t u)).t ((vp ((wW J).t B)).t ?_);have N:(k0 T M).map (λq=>kS q.1)=(e8 T Kd.mk).map kS++M.map λm=>kS m.n:=by erw[k0,bg,aT];rfl
 have O:(k0 T M).map (λq=>D.int q.2)=((e8 T Kd.mk).map λ_=>D.int 1)++M.map λm=>D.int m.mo:=by erw[k0,bg,aT];rfl
 delta m?;rw[N,O];rfl
def zH:(k0 T M).map ai=e8 T Kd.mk++M.map Mk.n:=by erw[k0,bg,aT];rw[show (ai∘λx:Str=>(x,(1:Int)))=id from J,n8];rfl
abbrev wM(T:List Th)(M:List Mk)(dk:aC)(y:Str):L4.D:=wO T M dk y (m? (k0 T M))
def N4{V:List (Str×Int)}(a:(V.map ai).Nodup){x:Str}{z:Int}(h:(x,z)∈V):xX (V.map λq=>kS q.1) (V.map λq=>D.int q.2) (kS x)=U (.int z):=
 Br (by have:=yN a;rw[aT]at this;show this) (by rw[jA];show av.2 #v[_,h,J])
def GH(a:DB A y)(o:ER A V S){x z:Str}(h:(x,z)∈A):y9 [sD S,.str x]=U (.str z):=by
 calc vR J (vX (vv J ?_));rcases MB S ("at", x)with ⟨d,b,c⟩|⟨b,c⟩
 .let#v[f,rfl,e]:=o.o x d b;rw[c,ES a.nd e h]
 .show au (av.2 #v[_,o.i _ h,J]) b
def KO(o:ER A V S){x:Str}(h:x∉A.map ai):y9 [sD S,.str x]=U .cx:=by
 calc vR J (vX (vv J ?_));rcases MB S ("at", x)with ⟨d,a,b⟩|⟨a,b⟩
 .let#v[e,rfl,c]:=o.o x d a;show au (av.2 #v[_,c,J]) h
 .show b
def QN(a:DB A y)(o:ER A V S)(w f:Sl){x:Str}{l:aC}(c:Ch A x l):∀(n:Nat) (b:List L4.D) (i:L4.D),y9 [sD S,.str x]=U i->l.length<n->b.length+l.length<=1000->
  O' (cT (c2 Bn aR bf)) (a7 (v3 (zP 3 aR)) (vM 4 (vt y9 (ab ao oV)))) n [w,.q (sD S),f,.I b,.q i]=U (.nx [w,.q (sD S),f,.I (b++l.map D.str),.q .cx]):=by
 induction c with
 |@nil x h=>
  intro n b i e j _;rw[KO o h]at e;ext e;cases n with
  |zero=>cases j
  |succ n=>rw[bZ,bD];rfl
 |@cons x z l h c r=>
  intro n b i e j q;rw[GH a o h]at e;ext e;rw[aK]at j q;cases n with
  |zero=>cases j
  |succ n=>
   let#v[d,m]:∃d,y9 [sD S,.str z]=U d:=by
    cases c with
    |nil h=>show#v[_,KO o h]
    |cons h _=>show#v[_,GH a o h]
   have p:a7 (v3 (zP 3 aR)) (vM 4 (vt y9 (ab ao oV))) [w,.q (sD S),f,.I b,.q (.str z)]=U (.nx [w,.q (sD S),f,.I (b++[.str z]),.q d]):=by calc(vp (wV ((CC J J J ())))).t ?_;show(vL (vv J m)).t J
   rw[aA];delta O';rw[show cT (c2 Bn aR bf) [w,.q (sD S),f,.I b,.q (.str z)]=U (γ,[w,.q (sD S),f,.I b,.q (.str z)]) from J];erw[p];calc(r n (b++[.str z]) d m () (by rw[aG,bu];omega)).t ?_;rw[bL];rfl
def Xs(a:DB A y)(o:ER A V S)(w:L4.D){x:Str}{l:aC}(c:Ch A x l)(d:l.length<=40):za [w,sD S,.str x]=U (l.map D.str):=by
 let#v[b,e]:∃b,y9 [sD S,.str x]=U b:=by
  cases c with
  |nil h=>show#v[_,KO o h]
  |cons h _=>show#v[_,GH a o h]
 calc DS (ρ:=[.q w,.q (sD S),.q (.str x),.un,.q .cx]) J ?_;calc(vp J).t ?_;calc(vp ((vL (vv J e)))).t ?_;show(vp (QN a o (.q w) (.q (.str x)) c 50 [] b e () (by simp;omega)))
def Xt{x:Str}(h:x∉A.map ai):xX (A.map λq=>kS q.1) (A.map λq=>D.str q.2) (kS x)=Z:=
 Dn λz=>by let#v[q,a,b]:=av.1 z;show h (av.2 #v[q,a,by injection b])
def ME(b:(T.map Th.n).Nodup){t:Th}(a:t∈T):zw [wO T M dk y mo,.str t.n]=U (fm t):=by calc vR J (vX (vA J J ?_));change U ((xX (nK T) (T.map fm) (kS t.n)).getD .cx)=_;rw[Br (Pd b) (by delta nK;rw[jA];show av.2 #v[t,a,J])];rfl
def MF{e a:FE}{ρ ρ1:aU}(b:e ρ=U (.bl δ,ρ1)):xZ e a ρ=U (.bl δ,ρ1):=by delta xZ;rw[b]
end
section
variable{A:List (Str×Str)}{V:List (Str×Int)}{y r:Str}{T:List Th}{M:List Mk}{dk:aC}{mo:L4.D}
abbrev B'(T:List Th):aC:=e8 T λk=>decide (k=.box)
end
structure Sit(T:List Th)(A:List (Str×Str))(V:List (Str×Int))(S:List (Ky×L4.D))(y r:Str):Prop where
 nd:(T.map Th.n).Nodup
 hT:T.length<=200
 p7:(T.filter λt=>t.k.pl).length<=7
 a:DB A y
 pn:∀q∈A,q.2∈T.map Th.n
 nv:(V.map ai).Nodup
 hv:∀x∈e8 T Kd.mk,∃z,(x,z)∈V
 o:ER A V S
 hr:(y,r)∈A
section
variable{A:List (Str×Str)}{V:List (Str×Int)}{S:List (Ky×L4.D)}{y r:Str}{T:List Th}{M:List Mk}{dk:aC}{mo:L4.D}
def lf(a:DB A y)(x:Str):aC:=Classical.choose (Il a x)
def Im(a:DB A y)(x:Str):Ch A x (lf a x):=(pW (Il a x)).1
def lf_l(a:DB A y)(x:Str):(lf a x).length<=40:=(pW (Il a x)).2
def Ur{p q:Kd->Bool}(h:∀k,p k=γ->q k=γ){x:Str}(d:x∈e8 T p):x∈e8 T q:=by let#v[t,a,b,c]:=xg d;show av.2 #v[t,bw.2 #v[a,h _ c],b]
end
section
variable{A:List (Str×Str)}{V:List (Str×Int)}{S:List (Ky×L4.D)}{y:Str}{T:List Th}{M:List Mk}{dk:aC}{mo:L4.D}
#print "Xu take;Us put" in def ϑ0(a b:L4.D):yp [wO T M dk y mo,.bx [.str "ϑ1", a,b]]=U (.bx [a,b]):=by kernel_rfl
def noT(x:Str):Bool:=decide (x∉(["here", "it", "other"]:aC))
def N5{x:Str}(h:Nm x):x∉(["here", "it", "other"]:aC):=bj (KG (p:=noT) (by kernel_rfl) h)
def Pj{w st c a b:L4.D}(h:yp [w,c]=U (.bx [a,b])):xC [w,st,c,.str "it"]=U a:=by let d:aU:=[.q w,.q st,.q c,.q (.str "it")];calc vR (ρ:=d) J ?_;calc(vp ((v5 (wt (vA J J (by kernel_rfl)))))).t ?_;show wc ((wz (wt (vA J J (by kernel_rfl)))).t (vX (vA (vv J h) J J)))
def N6{w st c a b:L4.D}(h:yp [w,c]=U (.bx [a,b])):xC [w,st,c,.str "other"]=U b:=by let d:aU:=[.q w,.q st,.q c,.q (.str "other")];calc vR (ρ:=d) J ?_;calc(vp ((v5 (wt (vA J J (by kernel_rfl)))))).t ?_;calc(vp ((v5 (wt (vA J J (by kernel_rfl)))))).t ?_;show wc ((wz (wt (vA J J (by kernel_rfl)))).t (vX (vA (vv J h) J J)))
def Xv{w st c:L4.D}{x:Str}(b:Nm x):xC [w,st,c,.str x]=U (.str x):=by
 have n:=N5 b;have d:ey δ (.str x) (.str "here")=U (.bl δ):=by rw[zB,aL λe=>n (by rw[e];simp)];rfl
 have f:ey δ (.str x) (.str "it")=U (.bl δ):=by rw[zB,aL λe=>n (by rw[e];simp)];rfl
 have h:ey δ (.str x) (.str "other")=U (.bl δ):=by rw[zB,aL λe=>n (by rw[e];simp)];rfl
 let a:aU:=[.q w,.q st,.q c,.q (.str x)];calc vR (ρ:=a) J ?_;calc(vp ((v5 (wt (vA J J d))))).t ?_;calc(vp ((v5 (wt (vA J J f))))).t ?_;calc(vp ((v5 (wt (vA J J h))))).t ?_;rfl
def Xw(a:DB A y)(o:ER A V S){r:Str}(h:(y,r)∈A):Fp [wO T M dk y mo,sD S]=U (.str r):=
 vR J (vX (vv J (GH a o h)))
def QO(a:DB A y)(o:ER A V S){c:L4.D}{r:Str}(h:(y,r)∈A):xC [wO T M dk y mo,sD S,c,.str "here"]=U (.str r):=by let b:aU:=[.q (wO T M dk y mo),.q (sD S),.q c,.q (.str "here")];calc vR (ρ:=b) J ?_;show wc ((wz (wt (vA J J (by kernel_rfl)))).t (vX (vv J (Xw a o h))))
end
section
variable{y:Str}{T:List Th}{M:List Mk}{dk:aC}
def tk{ρ:aU}{j:Nat}{e:FE}{n:Int}{es:List L4.D}(m:0<n)(l:IL es)(b:xh ρ j=U es)(i:e ρ=U (.int n,ρ)):∃r a,IL a/\0<=r/\r<n/\v8 vq j (ab e vH) ρ=U (.int r,putAt ρ j a):=by let#v[r,a,c,d,f,h]:=xq l n m;show#v[r,a,c,d,f,yh b (vz i J) b h]
def pk{ρ:aU}{i j:Nat}{l:aC}{b:List L4.D}(q:l≠[])(p:IL b)(f:xh ρ j=U b)(d:cV i ρ=U (.ax (l.map D.str),ρ)):∃x a,x∈l/\IL a/\c2 e7 (cV i) (v8 vq j (ab (c1 w6 (cV i)) vH)) ρ=U (.str x,putAt ρ j a):=by
 have u:=eY.2 q;let#v[r,a,h,m,t,o]:=tk (n:=l.length) (e:=c1 w6 (cV i)) () p f (wu d (by change U (D.int _)=_;rw[ak]));let#v[r,rfl]:=c9 m;have c:r<l.length:=by omega
 show#v[l[r],a,cI c,h,vA d o (yt (aH c))]
def Dc(x:Str)(xs:aC):ey δ (.ax ((x::xs).map D.str)) (.ax [])=U (.bl δ):=by
 have a:E9 δ (.ax ((x::xs).map D.str)) (.ax [])=Z:=rfl;have b:oy (.ax ((x::xs).map D.str))=U (.ax ((x::xs).map L3.Dq.str)):=by delta oy;rw[Ds]
 have c:gw (.ax ((x::xs).map L3.Dq.str))=1:=by rw[gw,Bl]
 delta ey;rw[a];delta Ge;rw[b,show oy (.ax [])=U (.ax []) from J];change (if Lj (.ax ((x::xs).map L3.Dq.str)) (.ax [])&&decide (gw (.ax ((x::xs).map L3.Dq.str))<=20)&&decide (gw (.ax [])<=20)then U (D.bl (nf (.ax ((x::xs).map L3.Dq.str)) (.ax [])))else Z)=_;rw[c];rfl
def aeG(k:Kd):kv δ (.str k.s) (.ax [.str "plain", .str "fixed", .str "box", .str "lamp"])=U (.bl k.pl):=by ext k<;>kernel_rfl
def Dd{c a:FT}{ρ ρ1:aU}(h:c ρ=U (γ,ρ1)):yT c a ρ=U (γ,ρ1):=by delta yT;rw[h]
inductive Cm(sm:aC):L4.D->Str->Prop
 |go (z:Str):Cm sm (.bx [.str "go", .str z,.cx]) "way"
 |wait:Cm sm (.bx [.str "wait", .cx,.cx]) "alone"
 |take {a:Str}:a∈sm->Cm sm (.bx [.str "take", .str a,.cx]) "one"
 |put {a b:Str}:a∈sm->b∈sm->Cm sm (.bx [.str "put", .str a,.str b]) "two"
def Xx{a:aC}{c:L4.D}{f:Str}(h:Cm a c f):CY [c]=U (.str f):=by ext h<;>kernel_rfl
def N7{a b:L4.D}{r:Int}(c:0<=r)(d:r<2):e7 (.ax [a,b]) (.int r)=U (if r=0 then a else b):=by
 have:r=0\/r=1:=by omega
 rcases this with rfl|rfl<;>rfl
abbrev sQ:=(ab (cC (.str "north")) (ab (cC (.str "up")) vH))
abbrev sS:=(ab (wg (ab (cC (.str "go")) (ab (c2 e7 (cL (vO sQ)) (v8 vq 1 o7)) (ab bf vH)))) (ab (wg (ab (cC (.str "wait")) (ab bf (ab bf vH)))) vH))
def N8(g:fh T M dk){es:List L4.D}(hi:IL es):∃c f d,IL d/\Cm (e8 T Kd.pl) c f/\yq es [wN T M dk y]=U (c,d):=by
 let m:=wN T M dk y;let t:=e8 T Kd.pl;let L:L4.D:=.ax (t.map D.str);have hl:=g.len;have run:∃c f d S,IL d/\Cm t c f/\∃R,zd (K? 5 es [m])=U (.rt c [.q m,.pm d,.q L,R,S]):=by
  delta zd;have X:(vM 2 (cL (v7 wF (ab ae (ab (cL (vO (ab oG (ab (cC (.str "fixed")) (ab gd (ab oH vH)))))) vH)))):FS) (K? 5 es [m])=U (.nx [.q m,.pm es,.q L,.un,.un]):=(vL (wA (vv J (pa () Kd.pl aeG)))).t J;rw[vp X];let#v[w,x,O,w0,w1,h1]:=tk (ρ:=[.q m,.pm es,.q L,.un,.un]) (j:=1) (e:=cC (.int 8)) #[] hi J J;rw[vp ((vL h1).t (show _=U (p?.nx [.q m,.pm x,.q L,.q (.int w),.un]) from J))];let l:aU:=[.q m,.pm x,.q L,.q (.int w),.un];have far:∃c f d,IL d/\Cm t c f/\(vQ (c2 e7 (cL (vO sS)) (c2 yg aB ck)):FS) l=U (.rt c [.q m,.pm d,.q L,.q (.int w),.un]):=by
   let#v[r,h,A,r0,r1,G]:=tk (ρ:=l) (j:=1) (e:=cC (.int 2)) #[] O J J;have m0:=m5 w (by decide:(2:Int)≠0);have m1:=mB w (by decide:(0:Int)<2);let z:Str:=if r=0 then "north" else "up"
   let o:aU:=[.q m,.pm h,.q L,.q (.int w),.un];have ez:(if r=0 then D.str "north" else .str "up")=.str z:=by change _=D.str (if r=0 then "north" else "up");split<;>rfl
   have en:=vA (e:=cL (vO sQ)) J G ((N7 r0 r1).t (aX U ez));have C:=vX (vA (e:=cL (vO sS)) (e':=c2 yg aB ck) (wA (BL (vz (zl (vz J (vz en J)) (cP J)) J) (cP J))) (vA J J (zW #[])) (N7 m0 m1));by_cases p:w % 2=0
   .rw[af p]at C;show#v[_,_,h,A,.go z,C]
   .rw[ah p]at C;show#v[_,_,h,A,.wait,C]
  let#v[H,I,u,P,Q,far]:=far;by_cases E:t=[]
  .have q:yT (cT (c2 (ey δ) az (cL (vO vH)))) (cT (c2 Lx aB fL)) l=U (γ,l):=Dd (wt (vA J J (by change ey δ (.ax (t.map D.str)) _=_;rw[E];rfl)));show#v[H,I,u,_,P,Q,_,wc ((wz q).t far)]
  .have Y:cT (c2 (ey δ) az (cL (vO vH))) l=U (δ,l):=wt (vA J J (by
    change ey δ (.ax (t.map D.str)) _=_;let#v[a,r,e]:=ja E;rw[e];show Dc a r))
   have q:yT (cT (c2 (ey δ) az (cL (vO vH)))) (cT (c2 Lx aB fL)) l=U (decide (w > 5),l):=A5 Y (wt (vA J J J));by_cases p:w > 5
   .rw[aI p]at q;show#v[H,I,u,_,P,Q,_,wc ((wz q).t far)]
   .rw[aL p]at q;rw[vp ((v5 q).t (show _=U (p?.nx l) from J))];let#v[a,h,N,A,G]:=pk (ρ:=l) (i:=2) (j:=1) E O J J;rw[vp ((vL G).t (show _=U (p?.nx [.q m,.pm h,.q L,.q (.int w),.q (.str a)]) from J))];let o:aU:=[.q m,.pm h,.q L,.q (.int w),.q (.str a)];have B:cT (c2 IF aB ck) o=U (decide (w<2),o):=wt (vA J J J);by_cases p:w<2
    .rw[aI p]at B;show#v[_,_,h,_,A,.take N,_,wc ((wz B))]
    .rw[aL p]at B;rw[vp ((v5 B).t (show _=U (p?.nx o) from J))];let#v[b,F,hb,i3,h3]:=pk (ρ:=o) (i:=2) (j:=1) E A J J;show#v[_,_,F,_,i3,.put N hb,_,vX (zl (vz J (vz J (vz h3 J))) (cP J))]
 let#v[c,f,d,S,i',W,R,run]:=run;calc#v[c,f,d,i',W,?_];delta yq vx;rw[af (show [m].length=1 from J),run];rfl
end
section
variable{y:Str}{T:List Th}{M:List Mk}{dk:aC}
abbrev mks(T:List Th)(M:List Mk):aC:=e8 T Kd.mk++M.map Mk.n
def ndM(g:fh T M dk):(mks T M).Nodup:=g.nd.sublist ((wx T _).append (fQ _))
def Xy(g:fh T M dk):(mks T M).length<=11:=by
 rw[aG,ak];have a:=N0 (T:=T) (p:=Kd.mk) (q:=Kd.pl) λk h=>by ext k<;>first|rfl|ext h
 have b:=g.p7;have c:=g.m4;omega
inductive Tm:L4.D->Str->Str->Prop
 |it1 (a:Str):Tm (.bx [.str "take", .str a,.cx]) "it" a
 |it2 (a b:Str):Tm (.bx [.str "put", .str a,.str b]) "it" a
 |ZX (a b:Str):Tm (.bx [.str "put", .str a,.str b]) "other" b
 |nm (c:L4.D) {x:Str}:Nm x->Tm c x x
theorem JI:∀V:List (Str×Int),FQ (V.map λq=>kS q.1)=U (V.map ai)
 |[]=>rfl
 |q::V=>by rw[aA,aA];change (FQ _).map _=_;rw[JI V];rfl
def Ut{V:List (Str×Int)}{e:FE}{ρ:aU}(h:e ρ=U (m? V,ρ))(a:V.length<64):Fi e ρ=U ((FM (V.map ai)).map D.str,ρ):=by delta Fi;rw[h];erw[JI,ak,a,if_true]
def Dt{c a:FT}{ρ ρ1:aU}(h:c ρ=U (γ,ρ1)):Ao c a ρ=a ρ1:=by delta Ao;rw[h]
def JJ{c a:FT}{ρ ρ1:aU}(h:c ρ=U (δ,ρ1)):Ao c a ρ=U (δ,ρ1):=by delta Ao;rw[h]
abbrev fZ:=(ab (cC (.str "one")) (ab (cC (.str "two")) vH))
abbrev iN:=(cC (.str "two"))
abbrev oX:=(cC (.str "other"))
abbrev lq:=(ab oX vH)
abbrev hE:=(cC (.str "it"))
abbrev sR:=(ab (c2 e7 (cL (vO (ab hE (ab (c2 e7 (cL (vO (ab hE lq))) (c1 LA (c2 (ey δ) ao iN))) vH)))) (v8 vq 2 o7)) (ab (v8 vq 2 (ab oF vH)) vH))
def QP(g:fh T M dk){c:L4.D}{f:Str}(cm:Cm (e8 T Kd.pl) c f){o:List L4.D}(R:IL o)(hf:f="one" \/ f="two" \/ k0 T M≠[]):∃t z v d,IL d/\Tm c t z/\zG o [wN T M dk y,.str f]=U (.bx [.str t,.int v],d):=by
 let O:=wN T M dk y;let#v[V,em,X,v2,rfl]:=Ib (y:=y) g;let N:=FM ((k0 T M).map ai);let L:L4.D:=.ax (N.map D.str);have hN:∀x,x∈N ↔ x∈(k0 T M).map ai:=λx=>(me _ Ra).mem_iff;have hl:(k0 T M).length<=11:=by have:=Xy g;have h:=aX cN X;rw[ak]at h;rw[h];show this
 let m:List L4.D->Sl->aU:=λo s=>[.q O,.q (.str f),.pm o,.q (m? (k0 T M)),.q L,s];have byit:∀l,IL l->(f="one" \/ f="two")->∃t z v d,IL d/\Tm c t z/\(vQ (wg sR):FS) (m l .un)=U (.rt (.bx [.str t,.int v]) (m d .un)):=λl C h=>by
  let#v[r,w,W,r0,r1,P]:=tk (ρ:=m l .un) (j:=2) (e:=cC (.int 2)) #[] C J J;let#v[v,u,G,_,_,Q]:=tk (ρ:=m w .un) (j:=2) (e:=cC (.int 4)) #[] W J J;have fin:∀b:Str,c2 e7 (cL (vO (ab hE lq))) (c1 LA (c2 (ey δ) ao iN)) (m l .un)=U (.str b,m l .un)->(vQ (wg sR):FS) (m l .un)=U (.rt (.bx [.str (if r=0 then "it" else b),.int v]) (m u .un)):=λb eb=>by
   have ez:(if r=0 then D.str "it" else .str b)=.str (if r=0 then "it" else b):=by split<;>rfl
   show vX (zl (vz (vA (wA (BL (vz J (vz eb J)) (cP J))) P ((N7 r0 r1).t (aX U ez))) (vz Q J)) (cP J))
  cases cm with
  |go z=>rcases h with h|h<;>show au h #[]
  |wait=>rcases h with h|h<;>show au h #[]
  |@take a ha=>calc#v[_,a,v,u,G,?_,fin "it" (by kernel_rfl)];rw[ite_self];show .it1 a
  |@put a b ha hb=>
   by_cases F:r=0
   .calc#v[_,a,v,u,G,?_,fin "other" (by kernel_rfl)];rw[af F];show .it2 a b
   .calc#v[_,b,v,u,G,?_,fin "other" (by kernel_rfl)];rw[ah F];show .ZX a b
 have byname:∀l,IL l->N≠[]->∃t z v d s,IL d/\Tm c t z/\(a7 (vM 5 (c2 e7 aR (v8 vq 2 (ab (c1 w6 aR) vH))))
   (vQ (wg (ab aV (ab (v8 vq 2 (ab (c2 wq (c2 wZ aB aV) aN) vH)) vH)))):FS) (m l .un)=U (.rt (.bx [.str t,.int v]) (m d s)):=λl C h=>by
  let#v[x,w,hx,W,P]:=pk (ρ:=m l .un) (i:=4) (j:=2) h C J J;let#v[q,S,rfl]:=av.1 ((hN x).1 hx);have Y:=v2 q S;have hm:=by change q.1∈e8 T Kd.mk++M.map Mk.n;rw[<-X];show av.2 #v[q,S,J]
  have nm:=g.nm _ (((wx T Kd.mk).append (fQ _)).subset hm);rw[vp ((vL P).t (show _=U (p?.nx (m w (.q (.str q.1)))) from J))];let#v[v,u,G,_,_,Q]:=tk (ρ:=m w (.q (.str q.1))) (j:=2) (e:=c2 wq (c2 wZ aB aV) aN) () W J (vA (vA J J (N4 (by rw[X];show ndM g) S)) J J);show#v[q.1,q.1,v,u,_,G,.nm c nm,vX (zl (vz J (vz Q J)) (cP J))]
 have run:∃t z v d s,IL d/\Tm c t z/\zF (K? 6 o [O,.str f])=U (.rt (.bx [.str t,.int v]) (m d s)):=by
  delta zF;rw[vp ((vL (vv J em)).t (show _=U (p?.nx [.q O,.q (.str f),.pm o,.q (m? (k0 T M)),.un,.un]) from J))];rw[vp ((vL (wA (Ut J ()))).t (show _=U (p?.nx (m o .un)) from J))];by_cases p:f="one" \/ f="two"
  .have H:cT (c2 (kv δ) ao (cL (vO fZ))) (m o .un)=U (γ,m o .un):=by rcases p with h|h<;>(subst h;kernel_rfl)
   by_cases E:N=[]
   .let#v[t,z,v,d,A,B,e]:=byit o R p;show#v[t,z,v,d,.un,A,B,wc ((wz ((Dt H).t (Dd (wt (vA J J (by change ey δ (.ax (N.map D.str)) _=_;rw[E];rfl)))))).t e)]
   .have e2:cT (c2 (ey δ) aR (cL (vO vH))) (m o .un)=U (δ,m o .un):=wt (vA J J (by
     change ey δ (.ax (N.map D.str)) _=_;let#v[a,r,e]:=ja E;rw[e];show Dc a r))
    let#v[r,l,C,_,_,Y]:=tk (ρ:=m o .un) (j:=2) (e:=cC (.int 2)) #[] R J J;have I:=(Dt H).t (A5 e2 (wt (vA (e':=cC (.int 0)) Y J (EB δ r 0))));by_cases F:r=0
    .let#v[t,z,v,d,A,B,e]:=byit l C p;rw[aI F]at I;show#v[t,z,v,d,.un,A,B,wc ((wz I).t e)]
    .let#v[t,z,v,d,s,A,B,e]:=byname l C E;rw[aL F]at I;show#v[t,z,v,d,s,A,B,(vp ((v5 I))).t e]
  .have E:N≠[]:=λh=>by
    rcases hf with h'|h'|h'
    .show p (.inl h')
    .show p (.inr h')
    .let#v[q,r,e]:=ja h';have:=(hN _).2 (by rw[e];show aP ..);rw[h]at this;ext this
   have H:cT (c2 (kv δ) ao (cL (vO fZ))) (m o .un)=U (δ,m o .un):=wt (vA J J ((Bq δ f ["one", "two"]).t (by simp;show#v[λh=>p (.inl h),λh=>p (.inr h)])));let#v[t,z,v,d,s,A,B,e]:=byname o R E;show#v[t,z,v,d,s,A,B,(vp ((v5 (JJ H)))).t e]
 let#v[t,z,v,d,s,A,B,run]:=run;calc#v[t,z,v,d,A,B,?_];delta zG vx;rw[af (show [O,D.str f].length=2 from J),run];rfl
end
section
variable{y:Str}{T:List Th}{M:List Mk}{dk:aC}
inductive Tp(T:List Th) (c:L4.D):Str->Option Str->Prop
 |here:Tp T c "here" Z
 |tm {p w:Str}:Tm c p w->w∈T.map Th.n->Tp T c p (U w)
def aeH(k:Kd):kv δ (.str k.s) (.ax [.str "room", .str "box", .str "you"])=U (.bl k.hd):=by ext k<;>kernel_rfl
def in12{c:L4.D}{f:Str}{b:aC}(a:Cm b c f):kv δ (.str f) (.ax [.str "one", .str "two"])=U (.bl (decide (f="one" \/ f="two"))):=by ext a<;>kernel_rfl
def is2{c:L4.D}{f:Str}{b:aC}(a:Cm b c f):ey δ (.str f) (.str "two")=U (.bl (decide (f="two"))):=by ext a<;>kernel_rfl
def nmN(g:fh T M dk){p:Kd->Bool}{x:Str}(h:x∈e8 T p):Nm x:=g.nm _ (bO _ ((wx T p).subset h))
def Xz{e:aC}{c:L4.D}{f:Str}(i:Cm e c f){t:Str}(h:(t="it" /\ (f="one" \/ f="two"))\/(t="other" /\ f="two")):∃z,Tm c t z/\z∈e:=by
 cases i with
 |go z=>rcases h with ⟨_,h|h⟩|⟨_,h⟩<;>show au h #[]
 |wait=>rcases h with ⟨_,h|h⟩|⟨_,h⟩<;>show au h #[]
 |@take a d=>
  rcases h with ⟨rfl,_⟩|⟨_,h⟩
  .show#v[a,.it1 a,d]
  .show au h #[]
 |@put a b d j=>
  rcases h with ⟨rfl,_⟩|⟨rfl,_⟩
  .show#v[a,.it2 a b,d]
  .show#v[b,.ZX a b,j]
def M'(n:Nat)(f:Str):aC:=if f="one" \/ f="two" then gK n "it" else []
def V0(f:Str):aC:=if f="two" then ["other", "other"]else []
#print h
def KP{a:aC}{c:L4.D}{f:Str}(b:Cm a c f){n:Nat}{t:Str}(h:t∈M' n f\/t∈V0 f):∃z,Tm c t z/\z∈a:=by
 calc Xz b ?_;rcases h with h|h
 .delta M' at h;split at h
  .rename_i e;show .inl #v[(List.mem_replicate.1 h).2,e]
  .ext h
 .delta V0 at h;split at h
  .rename_i e;calc .inr #v[?_,e];rcases aD.1 h with h|h
   .show h
   .show aO.1 h
  .ext h
#print f
def Uu(g:fh T M dk){c:L4.D}{f:Str}(B:Cm (e8 T Kd.pl) c f){u:List L4.D}(X:IL u):∃p w r,IL r/\Tp T c p w/\z7 u [wN T M dk y,.str f]=U (.str p,r):=by
 let H:=wN T M dk y;let G:=e8 T Kd.hd;let L:L4.D:=.ax (G.map D.str);have hl:=g.len;have I:G≠[]:=λe=>by have:=g.r1;let#v[t,ht]:=List.exists_mem_of_length_pos (by omega:0<(T.filter λt=>decide (t.k=.room)).length);rw[bw]at ht;have P:t.n∈G:=av.2 #v[t,bw.2 #v[ht.1,by rw[bj ht.2];rfl],J];rw[e]at P;ext P
 let l:List L4.D->Sl->aU:=λu s=>[.q H,.q (.str f),.pm u,.q L,s];let#v[a,C,N,i1,R]:=pk (ρ:=l u .un) (i:=3) (j:=2) I X J J;let#v[b,d,O,i2,S]:=pk (ρ:=l C .un) (i:=3) (j:=2) I i1 J J;let m:=[a,b,"here"]++M' 1 f;let o:=m++V0 f;have hP:∀t∈o,∃w,Tp T c t w:=λt ht=>by
  have sub:∀{p:Kd->Bool} {x:Str},x∈e8 T p->x∈T.map Th.n:=λh=>(wx T _).subset h;rcases bC.1 ht with ht|ht
  .rcases bC.1 ht with ht|ht
   .rcases aD.1 ht with rfl|ht
    .show#v[_,.tm (.nm c (nmN g N)) (sub N)]
    .rcases aD.1 ht with rfl|ht
     .show#v[_,.tm (.nm c (nmN g O)) (sub O)]
     .rw[aO.1 ht];show#v[Z,.here]
   .let#v[z,E,F]:=KP B (.inl ht);show#v[_,.tm E (sub F)]
  .let#v[z,E,F]:=KP (n:=1) B (.inr ht);show#v[_,.tm E (sub F)]
 have lP:o.length<=10:=by change (([a,b,"here"]++M' 1 f)++V0 f).length<=10;delta M' V0;split<;>split<;>simp
 have s1:(gs (cT (c2 (kv δ) ao (cL (vO fZ)))) (v3 (zP 4 hE)) vZ:FS) (l d (.I ([a,b,"here"].map D.str)))=U (.nx (l d (.I (m.map D.str)))):=by
  have q:cT (c2 (kv δ) ao (cL (vO fZ))) (l d (.I ([a,b,"here"].map D.str)))=U (decide (f="one" \/ f="two"),l d (.I ([a,b,"here"].map D.str))):=wt (vA J J (in12 B));by_cases h:f="one" \/ f="two"
  .rw[aI h]at q;change _=U (p?.nx (l d (.I (([a,b,"here"]++M' 1 f).map D.str))));delta M';rw[af h];show(wz q)
  .rw[aL h]at q;change _=U (p?.nx (l d (.I (([a,b,"here"]++M' 1 f).map D.str))));delta M';rw[ah h];show(v5 q)
 have s2:(gs (cT (c2 (ey δ) ao iN)) (yd 4 (xJ (vu 4) (cL (vO (ab oX lq))))) vZ:FS) (l d (.I (m.map D.str)))=U (.nx (l d (.I (o.map D.str)))):=by
  have q:cT (c2 (ey δ) ao iN) (l d (.I (m.map D.str)))=U (decide (f="two"),l d (.I (m.map D.str))):=wt (vA J J (is2 B));by_cases h:f="two"
  .rw[aI h]at q;have e:o=m++(["other", "other"]:aC):=by change m++V0 f=_;delta V0;rw[af h]
   rw[e]at lP ⊢;rw[aG]at lP;calc(wz q).t ((BK (yX J J (by rw[ak];simp at lP ⊢;omega))).t ?_);rw[bg (l₁:=m)];rfl
  .rw[aL h]at q;have e:o=m:=by change m++V0 f=_;delta V0;rw[ah h,bD]
   rw[e];show(v5 q)
 have hne:o≠[]:=λe=>by have:=aX cN e;simp[o,m]at this
 let#v[p,A,Y,i3,W]:=KM (ρ:=l d (.I (o.map D.str))) (i:=2) (j:=4) i2 hne J J J (λr=>J);let#v[w,tm]:=hP p Y;calc#v[p,w,A,i3,tm,?_];have run:Cc (K? 5 u [H,.str f])=U (.rt (.str p) (l A (.I (o.map D.str)))):=by calc(vp ((vL (wA (vv J (pa () Kd.hd aeH)))))).t ?_;calc(vp ((BK (BL (vz R (vz S J)) (cP J))))).t ?_;calc(vp s1).t ((vp s2).t ?_);show(vX W)
 delta z7 vx;rw[af (show [H,D.str f].length=2 from J),run];rfl
def AY{g:List L4.D->List L4.D->Option (L4.D×List L4.D)}{i:Nat}{a:FA}{ρ ρ1:aU}{ds es b:List L4.D}{d:L4.D}(c:a ρ=U (ds,ρ1))(e:xh ρ1 i=U es)(f:g es ds=U (d,b)):xE g i a ρ=U (d,putAt ρ1 i b):=by delta xE;rw[c];erw[e,f]
end
section
variable{y:Str}{T:List Th}{M:List Mk}{dk:aC}
def acC(k:Kd):kv δ (.str k.s) (.ax [.str "plain", .str "fixed", .str "box", .str "lamp", .str "box"])=U (.bl k.pl):=by ext k<;>kernel_rfl
structure Mv(T:List Th)(y:Str)(c:L4.D)(t p z:Str)(w:Option Str):Prop where
 t:Tm c t z
 p:Tp T c p w
 z:z∈e8 T Kd.pl\/(z=y/\∃p,w=U p/\p∈e8 T λk=>decide (k=.room))
def MG(g:fh T M dk)(hy:(T.filter λt=>decide (t.k=.you)).map Th.n=[y]){c:L4.D}{f:Str}(H:Cm (e8 T Kd.pl) c f){m:List L4.D}(hi:IL m):∃t p z w b,IL b/\Mv T y c t p z w/\xO m [wN T M dk y,.str f]=U (.bx [.str "move", .str t,.str p],b):=by
 let E:=wN T M dk y;let A:=e8 T Kd.pl;have hl:=g.len;have lsm:A.length<=200:=by have:=(wx T Kd.pl).length_le;rw[ak]at this;change (e8 T Kd.pl).length<=200;omega
 let d:List L4.D->L4.D->Sl->aU:=λm l s=>[.q E,.q (.str f),.pm m,.q l,s];let u:aC:=A++M' 3 f;let o:aC:=u++V0 f;have li:(M' 3 f).length<=3:=by delta M';split<;>simp
 have s1:(gs (cT (c2 (kv δ) ao (cL (vO fZ)))) (vM 3 (cL (xJ aB (cL (vO (ab hE (ab hE (ab hE vH)))))))) vZ:FS) (d m (.ax (A.map D.str)) .un)=U (.nx (d m (.ax (u.map D.str)) .un)):=by
  have B:cT (c2 (kv δ) ao (cL (vO fZ))) (d m (.ax (A.map D.str)) .un)=U (decide (f="one" \/ f="two"),d m (.ax (A.map D.str)) .un):=wt (vA (x:=.str f) (y:=.ax [.str "one", .str "two"]) J J (in12 H));by_cases h:f="one" \/ f="two"
  .rw[aI h]at B;have e:u=A++(["it", "it", "it"]:aC):=by change A++M' 3 f=_;delta M';rw[af h];rfl
   rw[e,bg];show(wz B).t ((vL (wA (yX (xs:=A.map D.str) (ys:=[.str "it", .str "it", .str "it"]) (ρ1:=d m (.ax (A.map D.str)) .un) J J (by rw[ak];simp;omega)))).t J)
  .rw[aL h]at B;have e:u=A:=by change A++M' 3 f=_;delta M';rw[ah h,bD]
   rw[e];show(v5 B).t J
 have s2:(gs (cT (c2 (ey δ) ao iN)) (vM 3 (cL (xJ aB (cL (vO (ab oX lq)))))) vZ:FS) (d m (.ax (u.map D.str)) .un)=U (.nx (d m (.ax (o.map D.str)) .un)):=by
  have B:cT (c2 (ey δ) ao iN) (d m (.ax (u.map D.str)) .un)=U (decide (f="two"),d m (.ax (u.map D.str)) .un):=wt (vA (x:=.str f) (y:=.str "two") J J (is2 H));by_cases h:f="two"
  .rw[aI h]at B;have e:o=u++(["other", "other"]:aC):=by change u++V0 f=_;delta V0;rw[af h]
   rw[e,bg (l₁:=u)];have l1:u.length<=203:=by change (A++M' 3 f).length<=203;rw[aG];omega
   show(wz B).t ((vL (wA (yX (xs:=u.map D.str) (ys:=[.str "other", .str "other"]) (ρ1:=d m (.ax (u.map D.str)) .un) J J (by rw[ak];simp;omega)))).t J)
  .rw[aL h]at B;have e:o=u:=by change u++V0 f=_;delta V0;rw[ah h,bD]
   rw[e];show(v5 B).t J
 have hP:∀t∈o,∃z,Tm c t z/\z∈A:=λt ht=>by
  rcases bC.1 ht with ht|ht
  .rcases bC.1 ht with ht|ht
   .show#v[t,.nm c (nmN g ht),ht]
   .show KP H (.inl ht)
  .show KP (n:=3) H (.inr ht)
 have ny:y∈e8 T λk=>decide (k=.you):=by change y∈(T.filter _).map Th.n;rw[hy];show aO.2 J
 have you:∀q,IL q->∃p b s,IL b/\Mv T y c y p y (U p)/\(a7 (vM 4 (cL (v7 wF (ab ae (ab (cL (vO (ab gb vH))) vH)))))
   (vQ (wg (ab (cC (.str "move")) (ab (c2 wZ ae (cC (.str "you"))) (ab (c2 e7 aR (v8 vq 2 (ab (c1 w6 aR) vH))) vH))))):FS) (d q (.ax (o.map D.str)) .un)=U (.rt (.bx [.str "move", .str y,.str p]) (d b (.ax (o.map D.str)) s)):=λq R=>by
  let P:=e8 T λk=>decide (k=.room);have I:P≠[]:=λe=>by have Q:P.length=(T.filter λt=>decide (t.k=.room)).length:=ak ..;rw[e]at Q;have h2:=g.r1;rw[<-Q]at h2;show au h2 #[]
  let#v[p,C,W,X,G]:=pk (ρ:=d q (.ax (o.map D.str)) (.q (.ax (P.map D.str)))) (i:=4) (j:=2) I R J J;calc#v[p,C,.q (.ax (P.map D.str)),X,#v[.nm c (nmN g ny),.tm (.nm c (nmN g W)) ((wx T _).subset W),.inr #v[J,p,J,W]],?_];calc(vp (ρ':=d q (.ax (o.map D.str)) (.q (.ax (P.map D.str)))) ((vL (wA (vv (ds:=[E,.ax [.str "room"]]) (vz J (vz J J)) (pa () (λk=>decide (k=.room)) Ph)))).t J)).t ?_;show vX (zl (vz J (vz J (vz G J))) (cP J))
 have run:∃t p z w b s,IL b/\Mv T y c t p z w/\z8 (K? 5 m [E,.str f])=U (.rt (.bx [.str "move", .str t,.str p]) (d b (.ax (o.map D.str)) s)):=by
  delta z8;rw[vp ((vL (wA (vv (ds:=[E,.ax [.str "plain", .str "fixed", .str "box", .str "lamp", .str "box"]]) (ρ1:=[.q E,.q (.str f),.pm m,.un,.un]) (vz J (vz J J)) (pa () Kd.pl acC)))).t (show _=U (p?.nx (d m (.ax (A.map D.str)) .un)) from J)),vp s1,vp s2];by_cases I:o=[]
  .let#v[p,b,s,O,mv,e]:=you m hi;show#v[y,p,y,U p,b,s,O,mv,wc ((wz (Dd (wt (vA (x:=.ax (o.map D.str)) (y:=.ax []) J J (by rw[I];rfl))))).t e)]
  .have e1:cT (c2 (ey δ) aB (cL (vO vH))) (d m (.ax (o.map D.str)) .un)=U (δ,d m (.ax (o.map D.str)) .un):=wt (vA (x:=.ax (o.map D.str)) (y:=.ax []) J J (by
    let#v[a,r,e]:=ja I;rw[e];show Dc a r))
   let#v[r,q,R,_,_,Q]:=tk (ρ:=d m (.ax (o.map D.str)) .un) (j:=2) (e:=cC (.int 6)) (n:=6) #[] hi J J;have G:=A5 e1 (wt (vA (e':=cC (.int 0)) Q J (EB δ r 0)));by_cases N:r=0
   .let#v[p,b,s,O,mv,e]:=you q R;rw[aI N]at G;show#v[y,p,y,U p,b,s,O,mv,wc ((wz G).t e)]
   .rw[aL N]at G;let#v[t,C,ht,X,e3]:=pk (ρ:=d q (.ax (o.map D.str)) .un) (i:=3) (j:=2) I R J J;let#v[p,w,S,i3,tp,e4]:=Uu (y:=y) g H X;let#v[z,tz,hz]:=hP t ht;calc#v[t,p,z,w,S,.un,i3,#v[tz,tp,.inl hz],(vp ((v5 G).t J)).t ?_];show vX (zl (vz J (vz e3 (vz (AY (ρ1:=d C (.ax (o.map D.str)) .un) (ds:=[E,.str f]) J J e4) J))) (cP J))
 let#v[t,p,z,w,b,s,O,mv,run]:=run;calc#v[t,p,z,w,b,O,mv,?_];delta xO vx;rw[af (show [E,D.str f].length=2 from J),run];rfl
inductive Td(T:List Th) (y:Str) (c:L4.D):L4.D->Prop
 |mv {t p z:Str} {w:Option Str}:Mv T y c t p z w->Td T y c (.bx [.str "move", .str t,.str p])
 |pt {t z:Str} (v:Int):Tm c t z->Td T y c (.bx [.str "put", .str t,.int v])
def acD{f:FE}{b:FG}{c ρ1 a:aU}{d:L4.D}(e:f c=U (d,ρ1))(h:b d ρ1=U a):Qa f b c=U (.nx a):=by delta Qa;rw[e];erw[h]
def aeI{c:L4.D}{f:Str}{b:aC}(a:Cm b c f):kv γ (.str f) (.ax [.str "one", .str "two"])=U (.bl (!decide (f="one" \/ f="two"))):=by ext a<;>kernel_rfl
def acE(g:fh T M dk)(R:(T.filter λt=>decide (t.k=.you)).map Th.n=[y]){c:L4.D}{f:Str}(C:Cm (e8 T Kd.pl) c f){j:List L4.D}(N:IL j):∃d i,IL i/\Td T y c d/\zz j [wN T M dk y,.str f]=U (d,i):=by
 let u:=wN T M dk y;let l:List L4.D->Sl->Sl->aU:=λj a b=>[.q u,.q (.str f),.pm j,a,b];let#v[V,O,X,Y,rfl]:=Ib (y:=y) g;have A:cT (c2 (kv γ) ao (cL (vO fZ))) (l j .un .un)=U (!decide (f="one" \/ f="two"),l j .un .un):=wt (vA (x:=.str f) (y:=.ax [.str "one", .str "two"]) J J (aeI C));have mk:(f="one" \/ f="two" \/ k0 T M≠[])->Ao (cT (c2 (kv γ) ao (cL (vO fZ)))) (cT (c2 Tx (vt xN iR) (Ci []))) (l j .un .un)=U (δ,l j .un .un)->∃d i a b,IL i/\Td T y c d/\zy (K? 5 j [u,.str f])=U (.rt d (l i a b)):=λQ m=>by let#v[t,z,v,i,B,W,e]:=QP (y:=y) g C N Q;calc#v[_,i,.q (.str t),.q (.int v),B,.pt v W,?_];delta zy;calc(vp (ρ':=l j .un .un) ((v5 m).t J)).t ?_;show(vp (ρ':=l i (.q (.str t)) (.q (.int v))) (acD (AY (ρ1:=l j .un .un) (ds:=[u,.str f]) J J e) J)).t J
 have run:∃d i a b,IL i/\Td T y c d/\zy (K? 5 j [u,.str f])=U (.rt d (l i a b)):=by
  by_cases o:f="one" \/ f="two"
  .rw[aI o]at A;show mk (o.elim .inl λh=>.inr (.inl h)) (JJ A)
  .rw[aL o]at A;have I:cT (c2 Tx (vt xN iR) (Ci [])) (l j .un .un)=U (((k0 T M).map λq=>kS q.1).isEmpty,l j .un .un):=wt (vA (x:=m? (k0 T M)) (y:=.J [] []) (vv (ds:=[u]) J O) J J);by_cases E:k0 T M=[]
   .have m:=(Dt A).t I;rw[E]at m;let#v[t,p,z,w,i,B,mv,e]:=MG g R C N;calc#v[_,i,.un,.un,B,.mv mv,?_];delta zy;show wc ((wz m).t (vX (AY (ρ1:=l j .un .un) (ds:=[u,.str f]) J J e)))
   .have m:=(Dt A).t I;let#v[q,r,P]:=ja E;rw[P]at m;show mk (.inr (.inr E)) m
 let#v[d,i,a,b,B,S,run]:=run;calc#v[d,i,B,S,?_];delta zz vx;rw[af (show [u,D.str f].length=2 from J),run];rfl
def XA{g c:List L4.D->List L4.D->Option (L4.D×List L4.D)}{i:Nat}{f:FE}{a:FA}{ρ b:aU}{j:Int}(h:f ρ=U (.int j,b))(d:0<=j)(e:j<3):HG g c i f a ρ=xE (if j=2 then c else g) i a b:=by
 have:j=0\/j=1\/j=2:=by omega
 delta HG;rw[h];rcases this with rfl|rfl|rfl<;>rfl
end
def U'(t p:Str):L4.D:=.obj 11 ["term", "place"] [.str t,.str p]
def E'(t:Str)(v:Int):L4.D:=.obj 12 ["term", "value"] [.str t,.int v]
section
variable{y:Str}{T:List Th}{M:List Mk}{dk:aC}{c:L4.D}{f:Str}
def Uv{e n:Nat}{b:FS}{i a ds:List L4.D}{d:L4.D}{ρ:aU}(l:ds.length=e)(h:b (K? n i ds)=U (.rt d ρ))(j:Nx e ρ=U a):vx e n b i ds=U (d,a):=by delta vx;rw[af l,h];erw[j]
inductive De(T:List Th) (y:Str) (c:L4.D):L4.D->Prop
 |mv {t p z:Str} {w:Option Str}:Mv T y c t p z w->De T y c (U' t p)
 |pt {t z:Str} (v:Int):Tm c t z->De T y c (E' t v)
def Uw(g:fh T M dk)(A:(T.filter λt=>decide (t.k=.you)).map Th.n=[y])(q:Cm (e8 T Kd.pl) c f){es:List L4.D}(H:IL es):∃d i,IL i/\De T y c d/\yR es [wN T M dk y,.str f]=U (d,i):=by
 let o:=wN T M dk y;let l:List L4.D->Sl->aU:=λes a=>[.q o,.q (.str f),.pm es,a];let#v[r,m,B,N,O,G]:=tk (ρ:=l es .un) (j:=2) (e:=cC (.int 3)) (n:=3) #[] H J J;let#v[d,b,C,P,F]:∃d b,IL b/\Td T y c d/\(if r=2 then zz else xO) m [o,.str f]=U (d,b):=by
  by_cases h:r=2
  .rw[af h];show acE g A q B
  .rw[ah h];let#v[t,p,z,w,i,I,mv,e]:=MG g A q B;show#v[_,i,I,.mv mv,e]
 have E:vM 3 (HG xO zz 2 (v8 vq 2 (a1 fK)) dt) (l es .un)=U (.nx (l b (.q d))):=
  (vL ((XA G N O).t (AY (ds:=[o,.str f]) J J F))).t J
 cases P with
 |@mv t p z w mv=>calc#v[U' t p,b,C,.mv mv,Uv (ρ:=l b (.q (.bx [.str "move", .str t,.str p]))) J ?_ J];delta AX;calc(vp E).t (wc ((wz (wt (vA (x:=.str "move") (y:=.str "move") J J (by kernel_rfl)))).t (vX ?_)));show Ki (ds:=[.str t,.str p]) J J
 |@pt t z v Q=>calc#v[E' t v,b,C,.pt v Q,Uv (ρ:=l b (.q (.bx [.str "put", .str t,.int v]))) J ?_ J];delta AX;calc(vp E).t ((vp ((v5 (wt (vA (x:=.str "put") (y:=.str "move") J J (by kernel_rfl)))).t J)).t (vX ?_));show Ki (ds:=[.str t,.int v]) J J
end
def kD(k:Ky):L4.D:=.bx [.str k.1,.str k.2]
section
variable{y:Str}{T:List Th}{M:List Mk}{dk:aC}{mo:L4.D}
def Pk(a:(e8 T Kd.mk++M.map Mk.n).Nodup){x:Str}{m:Int}(h:(x,m)∈k0 T M):yI [wM T M dk y,.str x]=U (.int m):=by calc vR J (vX (vA J J ?_));change U ((xX _ _ (kS x)).getD .cx)=_;rw[N4 (by rw[zH];show a) h];rfl
#print "ET γ f;BB δ g" in def ϑ0{c:FT}{f g:FE}{ρ a:aU}(h:c ρ=U (ϑ1,a)):D' c f g ρ=ϑ2 a:=by delta D';rw[h]
def Ux{V:List (Str×Int)}{x:Str}(h:x∉V.map ai):xX (V.map λq=>kS q.1) (V.map λq=>D.int q.2) (kS x)=Z:=by calc Dn λz=>h ?_;let#v[q,a,e]:=av.1 z;show av.2 #v[q,a,D7 e]
def XB{x:Str}(h:x∉e8 T Kd.mk++M.map Mk.n):yI [wM T M dk y,.str x]=U .cx:=by calc vR J (vX (vA J J ?_));change U ((xX _ _ (kS x)).getD .cx)=_;rw[Ux (by rw[zH];show h)];rfl
def Uy{x:Str}(h:x∉e8 T Kd.mk++M.map Mk.n):yz [wM T M dk y,.str x]=U (.ax []):=by let a:aU:=[.q (wM T M dk y),.q (.str x)];calc vR (ρ:=a) J (vX ?_);have t:cT (c2 zf (v9 xU "most_of" ae iQ) bf) a=U (γ,a):=wt (vA (wQ J J J J (XB h)) J J);show(ET t)
def QQ(b:(e8 T Kd.mk++M.map Mk.n).Nodup){x:Str}{m:Int}(h:(x,m)∈k0 T M):yz [wM T M dk y,.str x]=U (.ax [kD ("mark", x)]):=by let a:aU:=[.q (wM T M dk y),.q (.str x)];calc vR (ρ:=a) J (vX ?_);have t:cT (c2 zf (v9 xU "most_of" ae iQ) bf) a=U (δ,a):=wt (vA (wQ J J J J (Pk b h)) J J);show(BB t)
def Io(d:(T.map Th.n).Nodup){t:Th}(c:t∈T)(b:t.k≠.room):zx [wO T M dk y mo,.str t.n]=U (.ax [kD ("at", t.n)]):=by let W:=wO T M dk y mo;let a:aU:=[.q W,.q (.str t.n),.q (fm t)];calc vR (ρ:=a) J ?_;calc(vp ((vL (wQ J J J J (ME d c))))).t (vX ?_);have e:cT (c2 (ey δ) (c1 (vU wH "kind") az) gb) a=U (δ,a):=wt (vA (wu J (D6 t)) J ((F8 t.k .room).t (by rw[aL b])));show(BB (A5 J e))
end
section
variable{y:Str}{T:List Th}{M:List Mk}{dk:aC}
def Ip{c:L4.D}{t z:Str}(e:Tm c t z):(c=.bx [.str "take", .str z,.cx]/\t="it")\/(∃b,c=.bx [.str "put", .str z,.str b]/\t="it")\/(∃a,c=.bx [.str "put", .str a,.str z]/\t="other")\/(Nm t/\z=t):=by
 cases e with
 |it1 a=>show .inl #v[J,J]
 |it2 a b=>show .inr (.inl #v[b,J,J])
 |ZX a b=>show .inr (.inr (.inl #v[a,J,J]))
 |nm c d=>show .inr (.inr (.inr #v[d,J]))
structure Gv(c it ot a b:L4.D):Prop where
 g:∀t z,Tm c t z->yJ [.str t,it,ot]=U (.str z)
 l:∀t z,Tm c t z->(xX [kS "it", kS "other", kS "here"] [a,b,.cx] (kS t)).getD (.str t)=.str z
 c:∃v,c=.bx [v,a,b]
def Gb{it ot a b:L4.D}{x:Str}(d:Nm x):yJ [.str x,it,ot]=U (.str x)/\(xX [kS "it", kS "other", kS "here"] [a,b,.cx] (kS x)).getD (.str x)=.str x:=by
 have n:=N5 d;have f:ey δ (.str x) (.str "here")=U (.bl δ):=by rw[zB,aL λe=>n (by rw[e];simp)];rfl
 have h:ey δ (.str x) (.str "it")=U (.bl δ):=by rw[zB,aL λe=>n (by rw[e];simp)];rfl
 have i:ey δ (.str x) (.str "other")=U (.bl δ):=by rw[zB,aL λe=>n (by rw[e];simp)];rfl
 let c:aU:=[.q (.str x),.q it,.q ot];refine#v[vR (ρ:=c) J ?_,?_]
 .delta KC;calc(vp ((v5 (wt (vA J J h))))).t ?_;calc(vp ((v5 (wt (vA J J i))))).t ?_;show vX ((BB (wt (vA J J f))).t J)
 .rw[Dn λw=>?_]
  .rfl
  .rcases aD.1 w with w|w
   .show n (by rw[D7 w];simp)
   .rcases aD.1 w with w|w
    .show n (by rw[D7 w];simp)
    .show n (by rw[D7 (aO.1 w)];simp)
#print "MH it a;Uz other b" in def ϑ0(a b:L4.D):yJ [.str "ϑ1", a,b]=U ϑ2:=by kernel_rfl
def DN{a b c d e f:L4.D}(h:D.bx [a,b,c]=.bx [d,e,f]):a=d/\b=e/\c=f:=by ext h;show#v[J,J,J]
def KQ{a b:Str}(h:¬a=b):D.str a≠.str b:=λe=>h (D.str.inj e)
def QR{j:aC}{c:L4.D}{f:Str}(e:Cm j c f):∃it ot a b,z9 [c]=U (.bx [it,ot])/\Gv c it ot a b:=by
 cases e with
 |go z=>
  calc#v[.cx,.cx,.str z,.cx,by kernel_rfl,λt x d=>?_,λt x d=>?_,_,J]<;>(rcases Ip d with ⟨h,_⟩|⟨_,h,_⟩|⟨_,h,_⟩|⟨h,rfl⟩)
  all_goals first
   |show au (DN h).1 (KQ #[])
   |show(Gb (a:=.cx) (b:=.cx) h).1
   |show(Gb (it:=.cx) (ot:=.cx) h).2
 |wait=>
  calc#v[.cx,.cx,.cx,.cx,by kernel_rfl,λt x d=>?_,λt x d=>?_,_,J]<;>(rcases Ip d with ⟨h,_⟩|⟨_,h,_⟩|⟨_,h,_⟩|⟨h,rfl⟩)
  all_goals first
   |show au (DN h).1 (KQ #[])
   |show(Gb (a:=.cx) (b:=.cx) h).1
   |show(Gb (it:=.cx) (ot:=.cx) h).2
 |@take a i=>
  calc#v[.str a,.cx,.str a,.cx,by kernel_rfl,λt x d=>?_,λt x d=>?_,_,J]<;>(rcases Ip d with ⟨h,rfl⟩|⟨_,h,_⟩|⟨_,h,_⟩|⟨h,rfl⟩)
  all_goals first
   |show au (DN h).1 (KQ #[])
   |show(Gb (a:=.cx) (b:=.cx) h).1
   |show(Gb (it:=.cx) (ot:=.cx) h).2
   |(rw[(DN h).2.1];show MH _ _)
   |(rw[(DN h).2.1];rfl)
 |@put a b i l=>
  calc#v[.str a,.str b,.str a,.str b,by kernel_rfl,λt x d=>?_,λt x d=>?_,_,J]<;>(rcases Ip d with ⟨h,rfl⟩|⟨_,h,rfl⟩|⟨_,h,rfl⟩|⟨h,rfl⟩)
  all_goals first
   |show au (DN h).1 (KQ #[])
   |show(Gb (a:=.cx) (b:=.cx) h).1
   |show(Gb (it:=.cx) (ot:=.cx) h).2
   |(rw[(DN h).2.1];show MH _ _)
   |(rw[(DN h).2.2];show Uz _ _)
   |(rw[(DN h).2.1];rfl)
   |(rw[(DN h).2.2];rfl)
def Two(a:List aC):Prop:=∀k∈a,∃p q,k=[p,q]
theorem Iq:∀{a:List aC},Two a->FP (a.map fy)=U a
 |[],_=>rfl
 |k::a,h=>by let#v[p,q,rfl]:=h k aP;rw[aA];delta FP;rw[Iq λk b=>h k (ba _ b)];rfl
def aeJ{e:FE}{c a:aU}{d:L4.D}{b:List aC}(h:e c=U (d,a))(hd:sqD d=U (b.map fy))(f:Two b)(i:(ψ b).length<63):CB (cL (zq e)) c=U (.bx ((EE (ψ b)).map fy),a):=by
 have e:zq e c=U ((EE (ψ b)).map fy,a):=by delta zq;rw[h];erw[hd,Option.bind_some,Iq f];rw[af i]
 delta CB;rw[wA e]
abbrev tdD(a:List aC):L4.D:=.bx ((EE (ψ a)).map fy)
def XD{d:L4.D}{a:List aC}(hd:sqD d=U (a.map fy))(b:Two a)(c:(ψ a).length<63):NO [d]=U (tdD a):=vR J (vX (aeJ J hd b c))
def UA{c:List aC}{k:aC}:k∈EE c ↔ k∈c:=by
 delta EE;by_cases h:c=[]
 .rw[af h,h]
 .rw[ah h];have d:=eY.2 h;constructor
  .intro b;let#v[i,a,rfl]:=av.1 b;have a:=Dm _ d i a;rw[bQ,aH a];show cI a
  .intro b;let#v[i,a,rfl]:=eC.1 b;calc av.2 #v[i,(zp _ d).mem_iff.2 (bR.2 a),?_];rw[bQ,aH a];rfl
def UB{a:List aC}:(EE a).length=a.length:=by
 delta EE;by_cases h:a=[]
 .rw[af h,h]
 .rw[ah h,ak,(zp _ (eY.2 h)).length_eq,cG]
def atK(b:Str):aC:=["at", b]
def mkK(b:Str):aC:=["mark", b]
def prt(T:List Th)(M:List Mk):List aC:=(T.map Th.n).map atK++((k0 T M).map ai).map mkK
abbrev Sb(T:List Th)(M:List Mk)(a:List aC):Prop:=∀k∈a,k∈prt T M
def acF{a:List aC}(h:Sb T M a):Two a:=λk c=>by
 rcases bC.1 (h k c)with h|h
 .let#v[b,_,rfl]:=av.1 h;show#v[_,_,J]
 .let#v[b,_,rfl]:=av.1 h;show#v[_,_,J]
def H4(g:fh T M dk):T.length<=13:=by
 have a:=g.r5;have b:=g.y1;have c:=g.p7;have:∀l:List Th,l.length=(l.filter λt=>decide (t.k=.room)).length+(l.filter λt=>decide (t.k=.you)).length+(l.filter λt=>t.k.pl).length:=λl=>by
  induction l with
  |nil=>rfl
  |cons t l d=>rw[aK,eD,eD,eD];let#v[n,w,k,st]:=t;ext k<;>simp[show Kd.room.pl=δ from J,show Kd.you.pl=δ from J,show Kd.plain.pl=γ from J,show Kd.fixed.pl=γ from J,show Kd.box.pl=γ from J,show Kd.lamp.pl=γ from J]<;>omega
 have:=this T;omega
def UC(g:fh T M dk){b:List aC}(h:Sb T M b):(ψ b).length<63:=by have a:=L1 (TU b) λk d=>h k (Kz.1 d);have e:=H4 g;have c:=(wx T Kd.mk).length_le;have f:=g.m4;delta prt at a;rw[zH]at a;erw[aG,ak]at a c;omega
end
section
variable{y:Str}{T:List Th}{M:List Mk}{dk:aC}
abbrev Y'(T:List Th):aC:=e8 T λk=>decide (k=.room)
def KR(a:T.length<=1000)(k:Kd):xR [wM T M dk y,.str k.s]=U (.ax ((e8 T λj=>decide (j=k)).map D.str)):=by have:=HY T a (wNs.tail) ((wDs T M dk y (m? (k0 T M))).tail) k;calc this.t ?_;delta e8;rw[aT];rfl
def k_le(g:fh T M dk)(p:Kd->Bool):(e8 T p).length<=13:=by have a:=(wx T p).length_le;have b:=H4 g;rw[ak]at a;omega
def XE{w:Str}{s:FA}{a:aU}{l:aC}(c:s a=U (l.map D.str,a))(d:l.length<=100):vT 1 [] s (gN 0) wG (wg (ab (cS w) bS)) a=U ((l.map λb=>[w,b]).map fy,a):=by rw[aT];show CZ D.str (λb=>fy [w,b]) l c () λb z=>#v[[.q (.str b)],[.q (.str b)],J,J,J]
def of_k(g:fh T M dk)(k:Kd){w:Str}(a:w=k.s){r:aU}:v9 wB "of_kind" ae (a1 (cS w)) (.q (wM T M dk y)::r)=U (.ax ((e8 T λj=>decide (j=k)).map D.str),.q (wM T M dk y)::r):=by subst a;have:=H4 g;show wQ J J J J (KR () k)
def acG(g:fh T M dk):AU [wM T M dk y]=U (.ax (((B' T).map atK).map fy)):=by have:=k_le g λk=>decide (k=.box);show Kj J (zV (XE (Ia (of_k g .box J)) (cg this #[])))
end
structure Sv(T:List Th)(M:List Mk)(y:Str)(A:List (Str×Str))(V:List (Str×Int))(S:List (Ky×L4.D))(r:Str):Prop where
 s:Sit T A V S y r
 dm:∀x,x∈A.map ai ↔ x∈e8 T λk=>!decide (k=.room)
 hd:∀q∈A,q.2∈e8 T Kd.hd
 rm:r∈Y' T
 vk:∀q∈V,q.1∈(k0 T M).map ai
def Ag(Q:List aC)(A a:List (Str×Str))(V b:List (Str×Int)):Prop:=∀x,(atK x∈Q->∀z,(x,z)∈A ↔ (x,z)∈a)/\(mkK x∈Q->∀z,(x,z)∈V ↔ (x,z)∈b)
section
variable{A A':List (Str×Str)}{V V':List (Str×Int)}{S S':List (Ky×L4.D)}{y r r':Str}{T:List Th}{M:List Mk}{dk:aC}{c d:L4.D}{n:Nat}{t:Str}{z:Option Str}{Q Q':List aC}
def Cd{mo:L4.D}{z:Str}(f:Tm c t z):xC [wO T M dk y mo,sD S,c,.str t]=U (.str z):=by
 cases f with
 |it1 a=>show Pj (Xu _ _)
 |it2 a b=>show Pj (Us _ _)
 |ZX a b=>show N6 (Us _ _)
 |nm c e=>show Xv e
def Pm(v:Sv T M y A V S r){mo:L4.D}(b:Tp T c t z):xC [wO T M dk y mo,sD S,c,.str t]=U (.str (z.getD r)):=by
 cases b with
 |here=>show QO v.s.a v.s.o v.s.hr
 |tm tm _=>show Cd tm
def XG(v:Sv T M y A V S r)(a:Tp T c t z):z.getD r∈T.map Th.n:=by
 cases a with
 |here=>show(wx T _).subset v.rm
 |tm _ h=>show h
end
def z4(A:List (Str×Str))(x:Str):Option Str:=(A.find? λq=>decide (q.1=x)).map bI
def q?(A:List (Str×Str)):Nat->Option Str->Option Str
 |0,o=>o
 |n+1,o=>q? A n (o.bind (z4 A))
def dep(A:List (Str×Str)):Nat->Str->Nat
 |0,_=>0
 |n+1,x=>match z4 A x with|none=>0|some z=>dep A n z+1
section
variable{A A':List (Str×Str)}{y r:Str}{T:List Th}{M:List Mk}{dk:aC}{x z:Str}{n m:Nat}{o:Option Str}
def KU(h:x∉A.map ai):z4 A x=Z:=by delta z4;rw[kC.2 λq a e=>h (av.2 #v[q,a,bj e])];rfl
def Dg(c:(A.map ai).Nodup)(h:(x,z)∈A):z4 A x=U z:=by
 delta z4;cases e:A.find? λq=>decide (q.1=x)with
 |none=>show au (aI J) (kC.1 e _ h)
 |some q=>have b:=lW e;have a:=rf e;have a:=bj a;subst a;show aX U (ES c b h)
def acH(b:(A.map ai).Nodup):FU (k3 A) (oS o)=U (oS (o.bind (z4 A))):=by
 cases o with
 |none=>rfl
 |some x=>
  change U ((xX (A.map λq=>kS q.1) (A.map λq=>D.str q.2) (kS x)).getD .cx)=U (oS (z4 A x));by_cases h:x∈A.map ai
  .let#v[q,a,rfl]:=av.1 h;have c:=by have:=yN b;rw[aT]at this;show this
   have lk:xX (A.map λq=>kS q.1) (A.map λq=>D.str q.2) (kS q.1)=U (.str q.2):=Br c (by rw[jA];show av.2 #v[_,a,J]);rw[Dg b a,lk];rfl
  .rw[KU h,Xt h];rfl
theorem EU:∀n,q? A n Z=Z
 |0=>rfl
 |n+1=>EU n
theorem Dh:∀{n m:Nat} {o:Option Str},q? A n o=Z->n<=m->q? A m o=Z
 |0,m,o,h,_=>by rw[show o=Z from h];show EU m
 |n+1,0,o,h,l=>by omega
 |n+1,m+1,o,h,l=>Dh (o:=o.bind (z4 A)) h ()
theorem UD:∀(n:Nat) (x:Str),dep A n x<=n
 |0,_=>aF _
 |n+1,x=>by
  delta dep;cases z4 A x with
  |none=>show bM _
  |some z=>show qH (UD n z)
theorem UE:∀{n m:Nat} {x:Str},q? A n (U x)=Z->n<=m->dep A m x=dep A n x
 |0,m,x,h,_=>by cases h
 |n+1,0,x,h,l=>by omega
 |n+1,m+1,x,h,l=>by
  have h:q? A n (z4 A x)=Z:=h;delta dep;cases e:z4 A x with
  |none=>rfl
  |some z=>rw[e]at h;show aX (· + 1) (UE h ())
def acI(b:(A.map ai).Nodup)(h:q? A n (U x)=Z)(a:(x,z)∈A):dep A n z<dep A n x:=by
 cases n with
 |zero=>cases h
 |succ n=>have h:q? A n (z4 A x)=Z:=h;rw[Dg b a]at h;rw[UE h (iF n)];change _<(match z4 A x with|none=>0|some z=>dep A n z+1);rw[Dg b a];show cQ _
def Pn(t9:(T.map Th.n).Nodup)(C:(T.filter λt=>decide (t.k=.you)).map Th.n=[y])(b:(A.map ai).Nodup)(p:∀x,x∈A.map ai ↔ x∈e8 T λk=>!decide (k=.room))(hd:∀q∈A,q.2∈e8 T Kd.hd)(i:(y,r)∈A)(B:r∈Y' T)(l:∀x∈B' T,q? A 21 (U x)=Z)(w:A.length<=20):DB A y:=by
 have noR:∀{x},x∈Y' T->∀n,q? A (n+1) (U x)=Z:=λ{x} h n=>by have:=KU λe=>yu t9 (λk j d=>by rw[j]at d;ext d) h ((p x).1 e);change q? A n (z4 A x)=Z;rw[this];show EU n
 have all:∀q∈A,q? A 23 (U q.1)=Z:=λq a=>by
  change q? A 22 (z4 A q.1)=Z;rw[Dg b a];let#v[u,c,e,f]:=xg (hd q a);rw[<-e];cases k:u.k with
  |box=>show Dh (l _ (av.2 #v[u,bw.2 #v[c,aI k],J])) #[]
  |you=>have:u.n∈(T.filter λt=>decide (t.k=.you)).map Th.n:=av.2 #v[u,bw.2 #v[c,aI k],J];rw[C]at this;rw[aO.1 this];change q? A 21 (z4 A y)=Z;rw[Dg b i];show noR B 20
  |room=>show noR (av.2 #v[u,bw.2 #v[c,aI k],J]) 21
  |_=>rw[k]at f;ext f
 calc#v[b,#v[dep A 23,λq a=>#v[acI b (all q a) a,jj (UD 23 q.1) #[]]],#v[r,i],w]
def aeL(t9:(T.map Th.n).Nodup)(G:(T.filter λt=>decide (t.k=.you)).map Th.n=[y])(E:∀x,x∈A.map ai ↔ x∈e8 T λk=>!decide (k=.room))(hd:∀q∈A,q.2∈e8 T Kd.hd)(kf:∀x,x∈A'.map ai ↔ x∈A.map ai)(b:(A'.map ai).Nodup)(p:∀x∈B' T,∀z,(x,z)∈A->(x,z)∈A')(w:(y,r)∈A')(F:r∈Y' T){l:aC}:∀{x:Str},Ch A x l->x∈e8 T Kd.hd->q? A' (l.length+2) (U x)=Z:=by
 have noR:∀{x},x∉A.map ai->∀n,q? A' (n+1) (U x)=Z:=λ{x} h n=>by change q? A' n (z4 A' x)=Z;rw[KU λe=>h ((kf x).1 e)];show EU n
 have m3:∀{x},x∈Y' T->x∉A.map ai:=λ{x} h e=>yu t9 (λk j f=>by rw[j]at f;ext f) h ((E x).1 e)
 induction l with
 |nil=>
  intro x c _;cases c with
  |nil h=>show noR h 1
 |cons a l C=>
  intro x c B;cases c with
  |cons h c=>
   let#v[u,d,rfl,i]:=xg B;change q? A' (l.length+2) (z4 A' u.n)=Z;cases k:u.k with
   |box=>rw[Dg b (p _ (av.2 #v[u,bw.2 #v[d,aI k],J]) _ h)];show C c (hd _ h)
   |you=>have:u.n∈(T.filter λt=>decide (t.k=.you)).map Th.n:=av.2 #v[u,bw.2 #v[d,aI k],J];rw[G]at this;rw[aO.1 this,Dg b w];show noR (m3 F) _
   |room=>show au (av.2 #v[_,h,J]) (m3 (av.2 #v[u,bw.2 #v[d,aI k],J]))
   |_=>rw[k]at i;ext i
def rgB:FS:=vM 3 (c2 FU ao aB)
theorem Po(h:(A.map ai).Nodup)(c a:Sl):∀(l:List L4.D) (o:Option Str) (f:Sl),∃b,fu (gN 4) rgB l [c,.q (k3 A),a,.q (oS o),f]=U (.nx [c,.q (k3 A),a,.q (oS (q? A l.length o)),b])
 |[],o,f=>#v[f,J]
 |d::l,o,f=>by let#v[b,e]:=Po h c a l (o.bind (z4 A)) (.q d);calc#v[b,?_];delta fu;rw[show gN 4 d [c,.q (k3 A),a,.q (oS o),f]=U [c,.q (k3 A),a,.q (oS o),.q d] from J];have i:rgB [c,.q (k3 A),a,.q (oS o),.q d]=U (.nx [c,.q (k3 A),a,.q (oS (o.bind (z4 A))),.q d]):=(vL (vA J J (acH h))).t J;erw[i];show e
def rgO:FS:=a7 (vM 3 az) (a7 (yx (v? (c2 wq (c1 w6 ao) aN)) (gN 4) rgB) (gs (cT (c2 Bn aB bf)) (vQ eU) vZ))
def XH(h:(A.map ai).Nodup)(j:A.length<=20)(b i c:Sl)(x:Str):∃a,rgO [b,.q (k3 A),.q (.str x),i,c]=gs (cT (c2 Bn aB bf)) (vQ eU) vZ [b,.q (k3 A),.q (.str x),.q (oS (q? A (A.length+1) (U x))),a]:=by
 have f:v? (c2 wq (c1 w6 ao) aN) [b,.q (k3 A),.q (.str x),.q (oS (U x)),c]=U (Cp 0 (A.length+1),[b,.q (k3 A),.q (.str x),.q (oS (U x)),c]):=by
  have e:c2 wq (c1 w6 ao) aN [b,.q (k3 A),.q (.str x),.q (oS (U x)),c]=U (.int ((A.length:Int)+1),[b,.q (k3 A),.q (.str x),.q (oS (U x)),c]):=by calc vA (x:=.int (A.length:Int)) (wu J ?_) J J;change U (D.int ((A.map λq=>kS q.1).length:Int))=_;rw[ak]
  delta v?;rw[e];simp only;rw[af (),show ((A.length:Int)+1).toNat=A.length+1 by omega]
 let#v[a,d]:=Po h b (.q (.str x)) (Cp 0 (A.length+1)) (U x) c;rw[show (Cp 0 (A.length+1)).length=A.length+1 by delta Cp;rw[ak,cG]]at d;calc#v[a,?_];show(vp J).t (vp ((wW f).t d))
def Ft{g:FG}{f:FS}{d:L4.D}{l:List L4.D}{ρ ρ1 ρ2:aU}(a:g d ρ=U ρ1)(b:f ρ1=U (.nx ρ2)):fu g f (d::l) ρ=fu g f l ρ2:=by
 conv=>lhs;unfold fu
 rw[a];erw[b]
def UF{g:FG}{f:FS}{d e:L4.D}{l:List L4.D}{a ρ1 ρ2:aU}(b:g d a=U ρ1)(c:f ρ1=U (.rt e ρ2)):fu g f (d::l) a=U (.rt e ρ2):=by
 conv=>lhs;unfold fu
 rw[b];erw[c]
def UG(C:(A.map ai).Nodup)(u:A.length<=20)(j:Sl)(l:aC):∀(d a b:Sl),∃o,fu (gN 2) rgO (l.map D.str) [j,.q (k3 A),d,a,b]=U o/\((∃ρ,o=.rt (.bl γ) ρ)\/((∀x∈l,q? A 21 (U x)=Z)/\∃ρ,o=.nx ρ)):=by
 induction l with
 |nil=>show λd a b=>#v[_,J,.inr #v[λx h=>(by ext h),_,J]]
 |cons x l B=>
  intro d a b;let#v[f,one]:=XH C u j a b x;let#v[o,i]:∃o,q? A (A.length+1) (U x)=o:=#v[_,J];rw[i]at one;cases o with
  |some w=>show#v[_,UF J (one.t J),.inl #v[_,J]]
  |none=>
   let#v[o,p,h]:=B (.q (.str x)) (.q (oS Z)) f;calc#v[o,(Ft J (one.t J)).t p,?_];rcases h with h|⟨q,t⟩
   .show .inl h
   .calc .inr #v[λz c=>?_,t];rcases aD.1 c with e|c
    .rw[e];show Dh i ()
    .show q z c
def YJ(hT:T.length<=900){ρ:aU}(a:cV 0 ρ=U (wN T M dk y,ρ)):iL (cL (v7 wF jW)) ρ=U ((B' T).map D.str,ρ):=
 Ia (wA (vv (vz a (vz (wA (BL J (show 1<=1000 by decide))) J)) (pa hT _ Ul)))
def XI(hT:T.length<=900)(f:(A.map ai).Nodup)(e:A.length<=20):∃b,xS [wN T M dk y,k3 A]=U (.bl b)/\(b=δ->∀x∈B' T,q? A 21 (U x)=Z):=by
 have a:=YJ hT (ρ:=[.q (wN T M dk y),.q (k3 A),.un,.un,.un]) J;obtain⟨o,h,⟨c,rfl⟩|⟨d,c,rfl⟩⟩:=UG f e (.q (wN T M dk y)) (B' T) .un .un .un
 .show#v[γ,vR J (wc ((wW a).t h)),λz=>by ext z]
 .show#v[δ,vR J ((vp ((wW a).t h))),λu=>d]
end
def lu{a:Type}(A:List (Str×a))(x:Str)(d:a):a:=((A.find? λq=>decide (q.1=x)).map bI).getD d
def mn{a:Type}(A A2:List (Str×a))(p:Str->Bool):List (Str×a):=A.map λq=>(q.1,if p q.1 then q.2 else lu A2 q.1 q.2)
def dd{a:Type}(g:a->L4.D)(B:List (Str×a)):DD:=(B.map λq=>kS q.1,B.map λq=>g q.2)
section
variable{α:Type}{g:α->L4.D}{A A2 B:List (Str×α)}{p:Str->Bool}{x:Str}{z:α}
def aeM(h:x∈A.map ai)(d:α):(x,lu A x d)∈A:=by
 delta lu;cases e:A.find? λq=>decide (q.1=x)with
 |none=>let#v[q,c,a]:=av.1 h;show au (aI a) (kC.1 e _ c)
 |some q=>have b:=lW e;have a:=rf e;have a:=bj a;subst a;show b
def ND(b:(A.map ai).Nodup){c:α}(h:(x,z)∈A)(d:(x,c)∈A):z=c:=by
 induction A with
 |nil=>cases h
 |cons a A e=>
  rw[aA,cu]at b;rcases aD.1 h with h1|h1<;>rcases aD.1 d with h2|h2
  .rw[<-h1]at h2;show(aX bI h2).symm
  .show au (show a.1∈A.map ai from h1▸av.2 #v[_,h2,J]) b.1
  .show au (show a.1∈A.map ai from h2▸av.2 #v[_,h1,J]) b.1
  .show e b.2 h1 h2
def Ce:(mn A A2 p).map ai=A.map ai:=by delta mn;rw[aT];rfl
def EV:(mn A A2 p).length=A.length:=by delta mn;rw[ak]
def N9(sub:∀x∈A.map ai,x∈A2.map ai)(h:(x,z)∈mn A A2 p):(p x=γ/\(x,z)∈A)\/(p x=δ/\(x,z)∈A2):=by
 let#v[q,a,e]:=av.1 h;ext e;cases b:p q.1 with
 |true=>show .inl #v[J,by rw[af J];show a]
 |false=>show .inr #v[J,by rw[ah bB];show aeM (sub _ (cc a)) _]
def UH(c:(A.map ai).Nodup)(a:p x=γ):(x,z)∈A ↔ (x,z)∈mn A A2 p:=by
 constructor
 .intro h;show av.2 #v[_,h,by rw[af a]]
 .intro h;let#v[q,b,e]:=av.1 h;ext e;rw[af a];show b
def UI(sub:∀x∈A.map ai,x∈A2.map ai)(h:x∈A.map ai):∃z,(x,z)∈mn A A2 p:=by rw[<-Ce (A2:=A2) (p:=p)]at h;let#v[q,a,rfl]:=av.1 h;show#v[q.2,a]
def aeN(h:x∉B.map ai):Ep (B.map λq=>kS q.1) (kS x)=δ:=by delta Ep;rw[kZ];calc jm.2 λq a e=>h (av.2 #v[q,a,?_]);show D7 (bj e)
def XJ(h:x∉B.map ai)(a:B.length<1000):mu (dd g B) (kS x) (g z)=U (dd g (B++[(x,z)])):=by delta mu dd;simp only;rw[af #v[by rw[ak];show a,by rw[ak,ak]],aeN h,ah bB,bg,bg];rfl
def XM(r:(A.map ai).Nodup)(h:(x,z)∈A)(j:A.length<1000):mu (dd g (mn A A2 p)) (kS x) (g z)=U (dd g (mn A A2 λw=>p w||decide (w=x))):=by
 have b:(mn A A2 p).map (λq=>kS q.1)=A.map λq=>kS q.1:=by delta mn;rw[aT];rfl
 have c:(mn A A2 λw=>p w||decide (w=x)).map (λq=>kS q.1)=A.map λq=>kS q.1:=by delta mn;rw[aT];rfl
 have i:Ep (A.map λq=>kS q.1) (kS x)=γ:=by delta Ep;rw[kZ];show dw.2 #v[_,h,aI J]
 have d:Ng (A.map λq=>kS q.1) ((mn A A2 p).map λq=>g q.2) (kS x) (g z)=(mn A A2 λw=>p w||decide (w=x)).map λq=>g q.2:=by
  delta Ng mn;rw[aT,aT,List.zipWith_map];have:∀(f:Str×α->Str×α->L4.D) (l:List (Str×α)),dP f l l=l.map λq=>f q q:=λf l=>by
   induction l with
   |nil=>rfl
   |cons a l o=>rw[fO,o];rfl
  rw[this];calc jh λq m=>?_;change (if kS q.1=kS x then g z else g (if p q.1=γ then q.2 else lu A2 q.1 q.2))=g (if (p q.1||decide (q.1=x))=γ then q.2 else lu A2 q.1 q.2);by_cases e:q.1=x
  .rw[af (aX kS e),aI e,nR,af J];subst e;rw[ND r h m]
  .rw[ah λw=>e (D7 w),aL e,rN]
 delta mu dd;simp only;rw[b,c,af #v[by rw[ak];show j,by rw[ak,ak,EV]],i,af J,d]
theorem XN{w:DD->DD×DD}{st:aU->DD×DD->Option (aU×(DD×DD))}{R:Sl->aU}(hR:∀s d,(R s).set 6 (.q d)=R (.q d)):∀(L B:List (Str×α)) (s:Sl),((B++L).map ai).Nodup->(B++L).length<=900->
  (∀q∈L,∀a b,mu a (kS q.1) (g q.2)=U b->st (R (.q (.str q.1))) (w a)=U (R (.q (.str q.1)),w b))->∃i,mxL 6 st (L.map λq=>D.str q.1) (R s) (w (dd g B))=U (R i,w (dd g (B++L)))
 |[],B,s,_,_,_=>#v[s,by rw[bD];rfl]
 |q::L,B,s,f,l,h=>by
  have hB:=λe=>by rw[bg,cq]at f;show f.2.2 _ e _ (aP) J
  have m:=h q aP _ _ (XJ hB (by rw[aG,aK]at l;omega));have c:B++[(q.1,q.2)]++L=B++q::L:=by rw[bL];rfl
  let#v[i,j]:=XN hR L (B++[(q.1,q.2)]) (.q (.str q.1)) (by rw[c];show f) (by rw[c];show l) λr o=>h r (ba _ o);calc#v[i,?_];rw[c]at j;rw[aA];delta mxL;rw[hR,m];show j
theorem refill{R:Sl->aU}{V:DD}{st:aU->DD×DD->Option (aU×(DD×DD))}(hR:∀s d,(R s).set 7 (.q d)=R (.q d))(o:(A.map ai).Nodup)(m:A.length<1000):∀(L:aC) (p:Str->Bool) (s:Sl),(∀x∈L,∃z,(x,z)∈A/\∀a b,mu a (kS x) (g z)=U b->st (R (.q (.str x))) (a,V)=U (R (.q (.str x)),(b,V)))->
  ∃j f,mxL 7 st (L.map D.str) (R s) (dd g (mn A A2 p),V)=U (R j,(dd g (mn A A2 f),V))/\(∀x,p x=γ->f x=γ)/\∀x∈L,f x=γ
 |[],p,s,_=>#v[s,p,J,λn h=>h,λx h=>by ext h]
 |x::L,p,s,h=>by
  let#v[z,u,i]:=h x aP;have i:=i _ _ (XM (A2:=A2) (p:=p) o u m);let#v[j,f,q,l,r]:=refill hR o m L (λw=>p w||decide (w=x)) (.q (.str x)) λC t=>h C (ba _ t);refine#v[j,f,?_,λy c=>l y (by rw[c];rfl),λy c=>?_]
  .rw[aA];delta mxL;rw[hR,i];show q
  .rcases aD.1 c with e|c
   .rw[e];show l x (by rw[aI J,nR])
   .show r y c
end
def acJ{x:Nat}{e f:aU->DD×DD->Option (aU×(DD×DD))}{fr:FS}{ρ a b:aU}{c d:DD×DD}(h:(p5 ρ&&decide (x<ρ.length))=γ)(i:e (ρ.set x .un) (([],[]),([],[]))=U (a,c))(j:f a c=U (b,d)):η x e f fr ρ=fr (b.set x (.q (dcT d))):=by delta η;rw[af h,i];erw[j]
abbrev nq(a:List aC):L4.D:=.bx (a.map fy)
def aeO{e:List aC}{a x:Str}:J' (.bx [.str a,.str x]) (nq e)=U (.bl (decide ([a,x]∈e))):=by
 have f:∀l:List aC,A4 (l.map fy)=U (l.map λk=>L3.Dq.bx (k.map L3.Dq.str)):=λl=>by
  induction l with
  |nil=>rfl
  |cons k l j=>
   have:oy (fy k)=U (.bx (k.map L3.Dq.str)):=by delta fy oy;rw[Ds]
   rw[aA];delta A4;rw[this];erw[j];rfl
 have i:oy (.bx [.str a,.str x])=U (.bx ([a,x].map L3.Dq.str)):=rfl;have b:∀k:aC,gw (.bx (k.map L3.Dq.str))=1:=λk=>by rw[gw,Bl]
 delta J' nq;erw[f,i];rw[af]
 .congr 2;rw[dO,kZ,dw,bV];have c:∀k:aC,nf (.bx (k.map L3.Dq.str)) (.bx ([a,x].map L3.Dq.str))=decide (k=[a,x]):=λk=>by rw[nf,Fd]
  constructor
  .rintro⟨k,d,h⟩;have h:nf (.bx (k.map L3.Dq.str)) (.bx ([a,x].map L3.Dq.str))=γ:=h;rw[c]at h;rw[bj h]at d;show d
  .intro h;calc#v[[a,x],h,?_];change nf (.bx ([a,x].map L3.Dq.str)) (.bx ([a,x].map L3.Dq.str))=γ;rw[c];show aI J
 .rw[bt,nQ,bF];calc#v[by rw[b];rfl,λk z=>?_];change decide (gw (.bx (k.map L3.Dq.str))<=20)=γ;rw[b];rfl
def mE:FE:=c2 wZ (c2 e7 (c2 e7 (cL (vO o5)) (c1 LA (c2 J' (wg lH) aB))) aV) bp
section
variable{A1 A2:List (Str×Str)}{V1 V2:List (Str×Int)}{y:Str}{T:List Th}{M:List Mk}{dk:aC}{Q:List aC}
abbrev K'(A:List (Str×Str))(V:List (Str×Int)):L4.D:=.bx [k3 A,m? V]
def Rm(T:List Th)(M:List Mk)(dk:aC)(y:Str)(A1 A2:List (Str×Str))(V1 V2:List (Str×Int))(Q:List aC)(a b s7:Sl):aU:=[.q (wN T M dk y),.q (K' A1 V1),.q (K' A2 V2),.q (nq Q),.un,a,b,s7]
def UJ{A:List (Str×Str)}(a:(A.map ai).Nodup){x z:Str}(h:(x,z)∈A):wZ (k3 A) (.str x)=U (.str z):=by
 have b:=by have:=yN a;rw[aT]at this;show this
 show Br b (by rw[jA];show av.2 #v[_,h,J])
def YK{V:List (Str×Int)}(a:(V.map ai).Nodup){x:Str}{z:Int}(h:(x,z)∈V):wZ (m? V) (.str x)=U (.int z):=N4 a h
def YL{i:Int}{a x:Str}{b:Sl}(h:c2 e7 (cL (vO sP)) aV (Rm T M dk y A1 A2 V1 V2 Q (.q (.int i)) (.q (.str x)) b)=U (.str a,Rm T M dk y A1 A2 V1 V2 Q (.q (.int i)) (.q (.str x)) b)):
  c2 e7 (cL (vO o5)) (c1 LA (c2 J' (wg lH) aB)) (Rm T M dk y A1 A2 V1 V2 Q (.q (.int i)) (.q (.str x)) b)=U (if [a,x]∈Q then K' A1 V1 else K' A2 V2,Rm T M dk y A1 A2 V1 V2 Q (.q (.int i)) (.q (.str x)) b):=by
 let c:=Rm T M dk y A1 A2 V1 V2 Q (.q (.int i)) (.q (.str x)) b;have d:c2 J' (wg lH) aB c=U (.bl (decide ([a,x]∈Q)),c):=vA (zl (vz h J) (show 2<=1000 by decide)) J aeO;refine vA (y:=.int (if [a,x]∈Q then 1 else 0)) J (wu d ?_) ?_
 .by_cases q:[a,x]∈Q
  .rw[aI q,af q];rfl
  .rw[aL q,ah q];rfl
 .by_cases q:[a,x]∈Q
  .rw[af q,af q];rfl
  .rw[ah q,ah q];rfl
def aeP{x z:Str}{a:Sl}(b:(A1.map ai).Nodup)(c:(A2.map ai).Nodup)(h:(x,z)∈if [("at" : Str),x]∈Q then A1 else A2):mE (Rm T M dk y A1 A2 V1 V2 Q (.q (.int 0)) (.q (.str x)) a)=U (.str z,Rm T M dk y A1 A2 V1 V2 Q (.q (.int 0)) (.q (.str x)) a):=by
 refine vA (x:=if [("at" : Str),x]∈Q then k3 A1 else k3 A2) (vA (YL J) J ?_) J ?_
 .by_cases q:[("at" : Str),x]∈Q
  .rw[af q,af q];rfl
  .rw[ah q,ah q];rfl
 .by_cases q:[("at" : Str),x]∈Q
  .rw[af q]at h ⊢;show UJ b h
  .rw[ah q]at h ⊢;show UJ c h
def aeQ{x:Str}{z:Int}{a:Sl}(b:(V1.map ai).Nodup)(c:(V2.map ai).Nodup)(h:(x,z)∈if [("mark" : Str),x]∈Q then V1 else V2):mE (Rm T M dk y A1 A2 V1 V2 Q (.q (.int 1)) (.q (.str x)) a)=U (.int z,Rm T M dk y A1 A2 V1 V2 Q (.q (.int 1)) (.q (.str x)) a):=by
 refine vA (x:=if [("mark" : Str),x]∈Q then m? V1 else m? V2) (vA (YL J) J ?_) J ?_
 .by_cases q:[("mark" : Str),x]∈Q
  .rw[af q,af q];rfl
  .rw[ah q,ah q];rfl
 .by_cases q:[("mark" : Str),x]∈Q
  .rw[af q]at h ⊢;show YK b h
  .rw[ah q]at h ⊢;show YK c h
def YM{E:FE}{ρ:aU}{k:FE}{x:Str}{d:L4.D}{a b:DD}{V:DD}{c:FE}(h:E ρ=U (d,ρ))(i:c ρ=U (.int 0,ρ))(j:k ρ=U (.str x,ρ))(e:mu a (kS x) d=U b):O? c k E ρ (a,V)=U (ρ,(b,V)):=by delta O? G?;rw[h,i,j];change (la (λf=>(ρ,f)) (match U (kS x)with|some k=>if (0:Int)=0 then (mu a k d).map λz=>(z,V)else if (0:Int)=1 then (mu V k d).map λz=>(a,z)else Z|none=>Z))=_;erw[e];rfl
def aeR{E:FE}{f:aU}{k:FE}{x:Str}{d:L4.D}{a b:DD}{V:DD}{c:FE}(i:E f=U (d,f))(j:c f=U (.int 1,f))(l:k f=U (.str x,f))(e:mu a (kS x) d=U b):O? c k E f (V,a)=U (f,(V,b)):=by delta O? G?;rw[i,j,l];change (la (λh=>(f,h)) (match U (kS x)with|some k=>if (1:Int)=0 then (mu V k d).map λz=>(z,a)else if (1:Int)=1 then (mu a k d).map λz=>(V,z)else Z|none=>Z))=_;erw[e];rfl
def UK{c:Type}{A A2:List (Str×c)}{p:Str->Bool}{x:Str}{z:c}(sub:∀x∈A.map ai,x∈A2.map ai)(h:(x,z)∈mn A A2 p)(B:Prop)[Decidable B](hB:p x=decide B):(x,z)∈if B then A else A2:=by
 rcases N9 sub h with ⟨a,b⟩|⟨a,b⟩
 .rw[a]at hB;rw[af (bj hB.symm)];show b
 .rw[a]at hB;rw[ah (of_decide_eq_false hB.symm)];show b
abbrev pQ(Q:List aC)(a:Str):Str->Bool:=λx=>decide ([a,x]∈Q)
def acK(p:(A1.map ai).Nodup)(z:(A2.map ai).Nodup)(o:(V1.map ai).Nodup)(w:(V2.map ai).Nodup)(kA:∀x∈A1.map ai,x∈A2.map ai)(kV:∀x∈V1.map ai,x∈V2.map ai)(C:A1.length<=40)(E:V1.length<=40):
  ∃A B,kb 5 (v? ck) (kb 6 (iD (c2 e7 ao aV)) (O? aV bp mE)) (Rm T M dk y A1 A2 V1 V2 Q .un .un .un) (([],[]),([],[]))=U (Rm T M dk y A1 A2 V1 V2 Q A B .un,(dd D.str (mn A1 A2 (pQ Q "at")),dd D.int (mn V1 V2 (pQ Q "mark")))):=by
 let c:=λs=>Rm T M dk y A1 A2 V1 V2 Q (.q (.int 0)) s .un;let f:=λs=>Rm T M dk y A1 A2 V1 V2 Q (.q (.int 1)) s .un;let#v[s,i]:=XN (st:=O? aV bp mE) (R:=c) (λs d=>J) (mn A1 A2 (pQ Q "at")) [] .un (by rw[bP,Ce];show p) (by rw[bP,EV];omega) λq h a b e=>YM (aeP p z (UK kA h _ J)) J J e;let#v[r,j]:=XN (st:=O? aV bp mE) (R:=f) (λs d=>J) (mn V1 V2 (pQ Q "mark")) [] s (by rw[bP,Ce];show o) (by rw[bP,EV];omega) λq h a b e=>aeR (aeQ o w (UK kV h _ J)) J J e;rw[bP]at i j;have t:iD (c2 e7 ao aV) (c .un)=U ((mn A1 A2 (pQ Q "at")).map λq=>D.str q.1,c .un):=by delta iD;rw[show c2 e7 ao aV (c .un)=U (k3 A1,c .un) from J];simp only;rw[af (by rw[ak,ak])];delta mn;rw[aT,aT];rfl
 have u:iD (c2 e7 ao aV) (f s)=U ((mn V1 V2 (pQ Q "mark")).map λq=>D.str q.1,f s):=by delta iD;rw[show c2 e7 ao aV (f s)=U (m? V1,f s) from J];simp only;rw[af (by rw[ak,ak])];delta mn;rw[aT,aT];rfl
 calc#v[.q (.int 1),r,?_];have l:kb 6 (iD (c2 e7 ao aV)) (O? aV bp mE) (c .un) (([],[]),([],[]))=U (c s,(dd D.str (mn A1 A2 (pQ Q "at")),(([],[]):DD))):=by delta kb;rw[t];show i
 have m:kb 6 (iD (c2 e7 ao aV)) (O? aV bp mE) (f s) (dd D.str (mn A1 A2 (pQ Q "at")),(([],[]):DD))=U (f r,(dd D.str (mn A1 A2 (pQ Q "at")),dd D.int (mn V1 V2 (pQ Q "mark")))):=by delta kb;rw[u];show j
 delta kb;rw[show v? ck (Rm T M dk y A1 A2 V1 V2 Q .un .un .un)=U ([.int 0,.int 1],Rm T M dk y A1 A2 V1 V2 Q .un .un .un) from J];simp only;delta mxL;rw[show (Rm T M dk y A1 A2 V1 V2 Q .un .un .un).set 5 (.q (.int 0))=c .un from J];delta kb at l m;rw[l];simp only;delta mxL;rw[show (c s).set 5 (.q (.int 1))=f s from J,m];rfl
def UL(hT:T.length<=900)(i:(A1.map ai).Nodup)(H:(A2.map ai).Nodup)(F:(V1.map ai).Nodup)(G:(V2.map ai).Nodup)(kA:∀x∈A1.map ai,x∈A2.map ai)(kV:∀x∈V1.map ai,x∈V2.map ai)(C:A1.length<=20)(E:V1.length<=40)(m:∀x∈B' T,x∈A1.map ai):
  ∃p,(∀x,atK x∈Q->p x=γ)/\yD [wN T M dk y,K' A1 V1,K' A2 V2,nq Q]=U (K' (mn A1 A2 p) (mn V1 V2 (pQ Q "mark")))/\((∀x∈B' T,p x=γ)\/∀x∈B' T,q? (mn A1 A2 p) 21 (U x)=Z):=by
 let#v[I,N,o]:=acK i H F G kA kV () E;let f:=mn A1 A2 (pQ Q "at");let c:=mn V1 V2 (pQ Q "mark");let R:=λs7=>Rm T M dk y A1 A2 V1 V2 Q I N s7;let#v[b,r,z]:=XI (A:=f) hT (by rw[Ce];show i) (by rw[EV];show C);have j:cT (vt xS oP) ((R .un).set 4 (.q (dcT (dd D.str f,dd D.int c))))=U (b,(R .un).set 4 (.q (dcT (dd D.str f,dd D.int c)))):=wt (vv J r);have fin:∀{p:Str->Bool} {s7:Sl},R? 4 (cT (vt xS oP)) (kb 7 (iL (cL (v7 wF jW))) (O? aY bW (c2 wZ (c2 e7 ao aY) bW))) (R .un) (dd D.str f,dd D.int c)=U (R s7,(dd D.str (mn A1 A2 p),dd D.int c))->yD [wN T M dk y,K' A1 V1,K' A2 V2,nq Q]=U (K' (mn A1 A2 p) c):=λ{p s7} h=>by calc vR (ρ:=(R s7).set 4 (.q (dcT (dd D.str (mn A1 A2 p),dd D.int c)))) J ?_;show(acJ J o h)
 cases b with
 |false=>calc#v[pQ Q "at", λx h=>aI h,fin (s7:=.un) ?_,.inr (z J)];delta R?;rw[j]
 |true=>
  let#v[s7,p,t,u,w]:=refill (V:=dd D.int c) (st:=O? aY bW (c2 wZ (c2 e7 ao aY) bW)) (R:=R) (λs d=>J) i () (B' T) (pQ Q "at") .un λx B=>by let#v[q,l,rfl]:=av.1 (m x B);show#v[q.2,l,λa b e=>YM (vA J J (UJ i l)) J J e]
  calc#v[p,λx h=>u x (aI h),fin (s7:=s7) ?_,.inl w];delta R?;rw[j];simp only;delta kb;rw[YJ hT J];show t
end
def Pp(b:List Int)(k:Nat):∃c,zb [.M (b.map D.int),.int k]=U (.int c):=by
 let d:aU:=[.q (.M (b.map D.int)),.q (.int k)];have a:cT (c2 IF ao (c1 w6 ae)) d=U (decide ((k:Int)<((b.map D.int).length:Nat)),d):=rfl;rw[ak]at a;by_cases h:k<b.length
 .rw[aI ()]at a;calc#v[b[k],vR J (wc ((wz a).t (vX (vA J J ?_))))];show Oq (by rw[br,aH h];rfl)
 .rw[aL ()]at a;show#v[0,vR J ((vp ((v5 a))))]
structure Dr(T:List Th)(M:List Mk)(y:Str)(A:List (Str×Str))(V:List (Str×Int)):Prop where
 a:DB A y
 dm:∀x,x∈A.map ai ↔ x∈e8 T λk=>!decide (k=.room)
 hd:∀q∈A,q.2∈e8 T Kd.hd
 yr:∀r,(y,r)∈A->r∈Y' T
 v:V.map ai=(k0 T M).map ai
section
variable{A A1 A2:List (Str×Str)}{V V1 V2:List (Str×Int)}{y:Str}{T:List Th}{M:List Mk}{dk:aC}{Q:List aC}
def UM(g:fh T M dk):((k0 T M).map ai).Nodup:=by rw[zH];show u9 (u4 (wx T _) (fQ _)) g.nd
def UN(g:fh T M dk):((k0 T M).map ai).length<=40:=by have b:=H4 g;have a:=(wx T Kd.mk).length_le;have c:=g.m4;rw[zH];erw[aG,ak]at a ⊢;omega
def mo_v(g:fh T M dk)(d:Dr T M y A V):(V.map ai).Nodup/\V.length<=40:=#v[by rw[d.v];show UM g,by have:=UN g;rw[<-d.v,ak]at this;show this]
structure Sw(T:List Th)(M:List Mk)(y:Str)(A:List (Str×Str))(V:List (Str×Int))(S:List (Ky×L4.D)):Prop where
 d:Dr T M y A V
 o:ER A V S
 n:(S.map ai).Nodup
 l:S.length<=60
 f:∀q∈S,(∃z,q.2=.str z)\/∃n,q.2=.int n
def YN(g:fh T M dk)(d:Dr T M y A V):∃S,Sw T M y A V S/\yC [k3 A,m? V]=U (sD S):=by let#v[S,k,o,e]:=Uo d.a (mo_v g d).1 (mo_v g d).2;show#v[S,#v[d,o,k.1,k.2.1,k.2.2],e]
def YO{S:List (Ky×L4.D)}(g:fh T M dk)(s:Sw T M y A V S):∃r,Sv T M y A V S r:=by
 have d:=s.d;let#v[r,c]:=d.a.yo;calc#v[r,#v[#v[g.t9,g.len,g.p7,d.a,λq b=>(wx T _).subset (d.hd q b),(mo_v g d).1,λx e=>?_,s.o,c],d.dm,d.hd,d.yr r c,λq b=>by rw[<-d.v];show cc b]];have:x∈V.map ai:=by rw[d.v,zH];show bO _ e
 let#v[q,b,rfl]:=av.1 this;show#v[q.2,b]
def UO(g:fh T M dk)(H:(T.filter λt=>decide (t.k=.you)).map Th.n=[y])(b:Dr T M y A1 V1)(f:Dr T M y A2 V2)(Q:List aC):∃c j,Dr T M y c j/\Ag Q A1 c V1 j/\yD [wN T M dk y,K' A1 V1,K' A2 V2,nq Q]=U (K' c j):=by
 have i:=b.a.nd;have X:=f.a.nd;have F:(V1.map ai).Nodup:=by rw[b.v];show UM g
 have W:(V2.map ai).Nodup:=by rw[f.v];show UM g
 have S:=by have:=UN g;rw[<-b.v,ak]at this;show this
 have kA:=λx h=>(f.dm x).2 ((b.dm x).1 h);have kV:∀x∈V1.map ai,x∈V2.map ai:=λx h=>by rw[f.v,<- b.v];show h
 have I:∀x∈B' T,x∈A1.map ai:=λx h=>(b.dm x).2 (Ur (λk l=>by rw[bj l];rfl) h);let#v[p,O,e,P]:=UL (cg g.len #[]) i X F W kA kV b.a.ln S I;let c:=mn A1 A2 p;have G:(c.map ai).Nodup:=by rw[Ce];show i
 have E:∀x,x∈c.map ai ↔ x∈A1.map ai:=λx=>by rw[Ce]
 have C:=λx=>(E x).t (b.dm x);have hd:∀q∈c,q.2∈e8 T Kd.hd:=λq m=>by
  rcases N9 kA m with ⟨_,h⟩|⟨_,h⟩
  .show b.hd _ h
  .show f.hd _ h
 have B:∀r,(y,r)∈c->r∈Y' T:=λr h=>by
  rcases N9 kA h with ⟨_,h⟩|⟨_,h⟩
  .show b.yr _ h
  .show f.yr _ h
 let#v[Y,o]:=b.a.yo;let#v[r3,d]:∃z,(y,z)∈c:=UI kA (av.2 #v[_,o,J]);have ring:∀x∈B' T,q? c 21 (U x)=Z:=by
  rcases P with h|h
  .intro x u;have:=aeL g.t9 H b.dm b.hd E G (λx u z R=>(UH i (h x u)).1 R) d (B _ d) (Im b.a x) (Ur (λk l=>by rw[bj l];rfl) u);calc Dh this ?_;have w:=L1 (Up b.a (Im b.a x)) λa N=>by let#v[q,m,rfl]:=N3 (Im b.a x) a N;show(wx T _).subset (b.hd q m)
   have:=H4 g;rw[ak]at w;omega
  .show h
 calc#v[c,mn V1 V2 (pQ Q "mark"),#v[Pn g.t9 H G C hd d (B _ d) ring (by rw[EV];show b.a.ln),C,hd,B,by rw[Ce];show b.v],λx=>#v[λh z=>UH i (O x h),λh z=>UH F (aI h)],e]
end
section
variable{A:List (Str×Str)}{V:List (Str×Int)}{S:List (Ky×L4.D)}{y:Str}{T:List Th}{M:List Mk}{dk:aC}{mo:L4.D}
def XO{c:L4.D}{t z:Str}(a:Tm c t z):t≠"here" := by
 rcases Ip a with ⟨_,rfl⟩|⟨_,_,rfl⟩|⟨_,_,rfl⟩|⟨h,_⟩
 .decide
 .decide
 .decide
 .show λe=>N5 h (by rw[e];simp)
abbrev o6:=(ab ae iQ)
def UP(c:(T.map Th.n).Nodup){t u:Th}(f:t∈T)(e:t.k≠.room)(i:u∈T):zM [wO T M dk y mo,.str t.n,.str u.n]=U (.bl (u.k.hd&&!decide (u.n=t.n))):=by
 let W:=wO T M dk y mo;let a:aU:=[.q W,.q (.str t.n),.q (.str u.n),.q (fm u)];calc vR (ρ:=a) J ?_;delta HP;calc(vp (ρ':=a) ((vL (wQ (xs:=wDs T M dk y mo) (ys:=[.str u.n]) (hh:=zw) J J J J (ME c i))).t J)).t (vX ?_);have d:c2 (ey γ) (vt zx o6) (cL (vO vH)) a=U (.bl γ,a):=vA (vv (ds:=[W,.str t.n]) J (Io c f e)) J J;have b:v9 wU "can_hold" aB vH a=U (.bl u.k.hd,a):=wQ (xs:=[.str u.n,.bx (u.w.map D.str),.str u.k.s,oS u.s]) (ys:=[]) J J J J (Pb u);calc(w5 d).t ((w5 (ρ1:=a) J).t ?_);cases h:u.k.hd with
 |true=>rw[h]at b;show(w5 b).t ((vA (x:=.str u.n) (y:=.str t.n) J J (zB γ u.n t.n)).t (by rw[af J,Bool.true_and]))
 |false=>rw[h]at b;show(MF b).t (by rw[rh])
def XQ{x:Str}(v:Int)(h:x∉e8 T Kd.mk++M.map Mk.n):xM [wM T M dk y,.str x,.int v]=U (.bl δ):=by let a:aU:=[.q (wM T M dk y),.q (.str x),.q (.int v)];calc vR (ρ:=a) J (vX ?_);have t:c2 (ey γ) (vt yz o6) (cL (vO vH)) a=U (.bl δ,a):=vA (vv J (Uy h)) J J;show MF t
def UQ(b:(e8 T Kd.mk++M.map Mk.n).Nodup){x:Str}{m:Int}(v:Int)(h:(x,m)∈k0 T M):xM [wM T M dk y,.str x,.int v]=U (.bl (decide (v<=m))):=by let a:aU:=[.q (wM T M dk y),.q (.str x),.q (.int v)];calc vR (ρ:=a) J (vX ?_);have t:c2 (ey γ) (vt yz o6) (cL (vO vH)) a=U (.bl γ,a):=vA (vv J (QQ b h)) J J;show(w5 t).t (vA J (wQ (xs:=wDs T M dk y (m? (k0 T M))) (ys:=[.str x]) (hh:=yI) J J J J (Pk b h)) J)
def goB(T:List Th)(z:Str):Option Str->Bool
 |none=>γ
 |some w=>decide (w∈e8 T Kd.hd)&&!decide (w=z)
def chD(b:Bool)(k z:Str):L4.D:=if b then .bx [.str k,.str z]else .cx
def Pq(d:(T.filter λt=>decide (t.k=.you)).map Th.n=[y]){z:Str}{P:Prop}(h:z∈e8 T Kd.pl\/(z=y/\P)):∃u∈T,u.n=z/\u.k≠.room:=by
 rcases h with h|⟨h,_⟩
 .let#v[u,b,c,a]:=xg h;show#v[u,b,c,λe=>by rw[e]at a;ext a]
 .have f:y∈e8 T λk=>decide (k=.you):=by change y∈(T.filter _).map Th.n;rw[d];show aO.2 J
  let#v[u,b,c,a]:=xg f;show#v[u,b,c.t h.symm,λe=>by rw[e]at a;ext a]
abbrev lE:=(cC (.str "here"))
abbrev oO:=(ab ao (ab aR (ab aV vH)))
def QS(g:fh T M dk)(hy:(T.filter λt=>decide (t.k=.you)).map Th.n=[y]){c l ot a b:L4.D}(F:Gv c l ot a b){t p z:Str}{w:Option Str}(mv:Mv T y c t p z w):zD [U' t p,wM T M dk y,l,ot]=U (chD (goB T z w) "at" z):=by
 have hl:=g.len;let#v[u,r,G,B]:=Pq hy mv.z;let W:=wM T M dk y;let d:aU:=[.q (U' t p),.q W,.q l,.q ot,.q (.str z),.un];have fin:∀(o:Str) (b:Bool),D' (cT (c2 (ey δ) (c1 (vU xF "place") ae) lE)) (c2 e7 (v9 wB "of_kind" ao (ab gb vH)) aY) (vt yJ (ab (c1 (vU xF "place") ae) oN)) d=U (.str o,d)->zM [W,.str z,.str o]=U (.bl b)->zD [U' t p,W,l,ot]=U (chD b "at" z):=λo b N O=>by
  let q:aU:=[.q (U' t p),.q W,.q l,.q ot,.q (.str z),.q (.str o)];calc vR (ρ:=q) J ?_;delta Bb;calc(vp (ρ':=d) ((vL (vv (ds:=[.str t,l,ot]) J (F.g t z mv.t))).t J)).t ?_;calc(vp (ρ':=q) ((vL N).t J)).t (vX ?_);have m:cT (vt zM oO) q=U (b,q):=wt (vv (ds:=[W,.str z,.str o]) J O);cases b with
  |true=>show(ET m).t J
  |false=>show(BB m).t J
 have m:cT (c2 (ey δ) (c1 (vU xF "place") ae) lE) d=U (decide (p="here"),d):=wt (vA (x:=.str p) (y:=.str "here") (by kernel_rfl) J (zB δ p "here"));have hdn:∀{v:Th},v∈T->(v.n∈e8 T Kd.hd ↔ v.k.hd=γ):=λ{v} f=>by
  constructor
  .intro h;let#v[x,Q,R,X]:=xg h;have:=Ih g.t9 Q f R;subst this;show X
  .show λh=>av.2 #v[v,bw.2 #v[f,h],J]
 cases mv.p with
 |here=>
  have Y:0<(T.filter λt=>decide (t.k=.room)).length:=by have:=g.r1;omega
  let#v[v,f]:∃v,(T.filter λt=>decide (t.k=.room))[0]?=U v:=#v[_,aH Y];have mvv:=bw.1 (cb f);have H:v.k=.room:=bj mvv.2;have ix:e7 (.ax ((e8 T λj=>decide (j=.room)).map D.str)) (.int 0)=U (.str v.n):=yt (j:=0) (by delta e8;rw[br,f];rfl);have i:=UP (M:=M) (dk:=dk) (y:=y) (mo:=m? (k0 T M)) g.t9 r B mvv.1;have ne:¬v.n=u.n:=λe=>B (by rw[<-Ih g.t9 mvv.1 r e];show H);rw[G]at i ne;rw[aL ne,H]at i;calc fin v.n γ ?_ i;show(ET m).t (vA (wQ (xs:=wDs T M dk y (m? (k0 T M))) (ys:=[.str Kd.room.s]) (hh:=xR) J J J J (KR () .room)) J ix)
 |@tm _ w tm hw=>
  let#v[v,f,I]:=av.1 hw;have i:=UP (M:=M) (dk:=dk) (y:=y) (mo:=m? (k0 T M)) g.t9 r B f;rw[G,I]at i;have P:(v.k.hd&&!decide (w=z))=goB T z (U w):=by
   change _=(decide (w∈e8 T Kd.hd)&&!decide (w=z));rw[<-I,show decide (v.n∈e8 T Kd.hd)=v.k.hd by cases h:v.k.hd with
    |true=>show aI ((hdn f).2 h)
    |false=>show aL λz=>by rw[hdn f,h]at z;ext z]
  rw[P]at i;rw[aL (XO tm)]at m;show fin w _ ((BB m).t (vv (ds:=[.str p,l,ot]) (by kernel_rfl) (F.g p w tm))) i
def shB(T:List Th)(M:List Mk)(z:Str)(v:Int):Bool:=(k0 T M).any λq=>decide (q.1=z)&&decide (v<=q.2)
def acM{z:Str}{v:Int}(h:z∉mks T M):shB T M z v=δ:=by delta shB;rw[jm];intro q a;have:q.1≠z:=λe=>h (by change z∈e8 T Kd.mk++M.map Mk.n;rw[<-zH,<- e];show av.2 #v[q,a,J]);simp[this]
def XR(g:fh T M dk){q:Str×Int}(c:q∈k0 T M)(v:Int):shB T M q.1 v=decide (v<=q.2):=by
 delta shB;by_cases h:v<=q.2
 .rw[aI h,dw];show#v[q,c,by simp[h]]
 .rw[aL h,jm];intro r o;by_cases e:r.1=q.1
  .have p:((k0 T M).map ai).Nodup:=by rw[zH];show ndM g
   have:r=q:=by let#v[i,l,a]:=jg o;let#v[j,m,b]:=jg c;have:i=j:=(kG (xs:=(k0 T M).map ai) (h₀:=by exists l) (h₁:=by exists m) p).1 (by rw[kI,kI,a,b];show e);subst this;rw[<-a,<- b]
   subst this;simp[h]
  .simp[e]
def UR(g:fh T M dk)(z:Str)(v:Int):xM [wM T M dk y,.str z,.int v]=U (.bl (shB T M z v)):=by
 by_cases h:z∈mks T M
 .have b:z∈(k0 T M).map ai:=by rw[zH];show h
  let#v[q,a,rfl]:=av.1 b;rw[XR g a];show UQ (ndM g) v (x:=q.1) (m:=q.2) a
 .rw[acM h];show XQ v h
def Oa(g:fh T M dk){c f ot a b:L4.D}(j:Gv c f ot a b){t z:Str}(l:Tm c t z)(v:Int):B4 [E' t v,wM T M dk y,f,ot]=U (chD (shB T M z v) "mark" z):=by
 let W:=wM T M dk y;let d:aU:=[.q (E' t v),.q W,.q f,.q ot,.q (.str z)];calc vR (ρ:=d) J ?_;delta B3;calc(vp (ρ':=d) ((vL (vv (ds:=[.str t,f,ot]) J (j.g t z l))).t J)).t (vX ?_);have e:cT (vt xM (ab ao (ab aR (ab (c1 (vU Fk "value") ae) vH)))) d=U (shB T M z v,d):=wt (vv (ds:=[W,.str z,.int v]) (by kernel_rfl) (UR g z v));cases h:shB T M z v with
 |true=>rw[h]at e;show(ET e).t J
 |false=>rw[h]at e;show(BB e).t J
end
def ll(k:Ky)(v:L4.D)(S:List (Ky×L4.D)):List (Ky×L4.D):=S.map λq=>if q.1=k then (k,v)else q
def zE{a:Type}(A:List (Str×a))(x:Str)(w:a):List (Str×a):=A.map λq=>if q.1=x then (x,w)else q
section
variable{α:Type}{A:List (Str×α)}{x u:Str}{w z:α}
#print h
def KW:(zE A x w).map ai=A.map ai:=by
 delta zE;rw[aT];calc jh λq z=>?_;change (if q.1=x then (x,w)else q).1=q.1;split
 .rename_i h;show h.symm
 .rfl
#print f
def XS:(zE A x w).length=A.length:=by delta zE;rw[ak]
def D8(h:(u,z)∈zE A x w):(u=x/\z=w)\/(u≠x/\(u,z)∈A):=by
 let#v[q,b,e]:=av.1 h;by_cases a:q.1=x
 .rw[af a]at e;ext e;show .inl #v[J,J]
 .rw[ah a]at e;ext e;show .inr #v[a,b]
def EW(h:x∈A.map ai):(x,w)∈zE A x w:=by let#v[q,a,e]:=av.1 h;show av.2 #v[q,a,by rw[af e]]
def EX(h:u≠x)(a:(u,z)∈A):(u,z)∈zE A x w:=av.2 #v[_,a,by rw[ah h]]
end
section
variable{A A':List (Str×Str)}{V V':List (Str×Int)}{S:List (Ky×L4.D)}{y:Str}{T:List Th}{M:List Mk}{dk:aC}{k:Ky}{v:L4.D}{x z w:Str}{Q:List aC}
#print h
def KY:(ll k v S).map ai=S.map ai:=by
 delta ll;rw[aT];calc jh λq z=>?_;change (if q.1=k then (k,v)else q).1=q.1;split
 .rename_i h;show h.symm
 .rfl
#print f
def EY:(ll k v S).length=S.length:=by delta ll;rw[ak]
def Ir{j:Ky}{d:L4.D}(h:(j,d)∈ll k v S):(j=k/\d=v)\/(j≠k/\(j,d)∈S):=by
 let#v[q,b,e]:=av.1 h;by_cases a:q.1=k
 .rw[af a]at e;ext e;show .inl #v[J,J]
 .rw[ah a]at e;ext e;show .inr #v[a,b]
def Pt{d:L4.D}(h:(k,d)∈S):(k,v)∈ll k v S:=av.2 #v[_,h,by rw[af J]]
def GK{j:Ky}{d:L4.D}(h:j≠k)(a:(j,d)∈S):(j,d)∈ll k v S:=av.2 #v[_,a,by rw[ah h]]
def MI(f:∀q∈S,(∃z,q.2=D.str z)\/∃n,q.2=D.int n)(b:(∃z,v=.str z)\/∃n,v=.int n):∀q∈ll k v S,(∃z,q.2=D.str z)\/∃n,q.2=D.int n:=λq a=>by
 rcases Ir (j:=q.1) (d:=q.2) a with ⟨_,h⟩|⟨_,h⟩
 .rw[h];show b
 .show f _ h
def am(a b:Str):((("at", a):Ky))≠(("mark", b):Ky):=λe=>au (aX ai e) (by decide:¬(("at" : Str)="mark"))
def aeS(o:ER A V S)(b:z∈A.map ai):ER (zE A z w) V (ll ("at", z) (.str w) S) where
 i q a:=by
  rcases D8 (u:=q.1) (z:=q.2) a with ⟨h1,h2⟩|⟨h1,h2⟩
  .rw[h1,h2];let#v[p,c,e]:=av.1 b;have:=o.i p c;rw[e]at this;show Pt this
  .show GK (λe=>h1 (aX bI e)) (o.i _ h2)
 o x d h:=by
  rcases Ir h with ⟨h1,h2⟩|⟨h1,h2⟩
  .have:x=z:=aX bI h1;subst this;show#v[w,h2,EW b]
  .let#v[u,e,f]:=o.o x d h2;show#v[u,e,EX (λe=>h1 (by rw[e])) f]
 mi q a:=GK (λe=>am _ _ e.symm) (o.mi q a)
 mo x d h:=by
  rcases Ir h with ⟨h1,_⟩|⟨_,h2⟩
  .show au h1.symm (am _ _)
  .show o.mo x d h2
def aeT{n:Int}(o:ER A V S)(c:x∈V.map ai):ER A (zE V x n) (ll ("mark", x) (.int n) S) where
 mi q b:=by
  rcases D8 (u:=q.1) (z:=q.2) b with ⟨h1,h2⟩|⟨h1,h2⟩
  .rw[h1,h2];let#v[p,f,e]:=av.1 c;have:=o.mi p f;rw[e]at this;show Pt this
  .show GK (λe=>h1 (aX bI e)) (o.mi _ h2)
 mo a d h:=by
  rcases Ir h with ⟨h1,h2⟩|⟨h1,h2⟩
  .have:a=x:=aX bI h1;subst this;show#v[n,h2,EW c]
  .let#v[u,e,j]:=o.mo a d h2;show#v[u,e,EX (λe=>h1 (by rw[e])) j]
 i q b:=GK (am _ _) (o.i q b)
 o a d h:=by
  rcases Ir h with ⟨h1,_⟩|⟨_,h2⟩
  .show au h1 (am _ _)
  .show o.o a d h2
def XT(p:(A.map ai).Nodup){rk:Str->Nat}(f:∀q∈A,rk q.2<rk q.1)(hT:∀q∈A,q.2∈T.map Th.n)(lT:T.length<=13)(x:Str):q? A 21 (U x)=Z:=by
 have ma:∀(n:Nat) (x:Str),rk x<n->∃l,Ch A x l:=by
  intro n
  induction n with
  |zero=>show λx h=>au h ()
  |succ n d=>
   intro x h;by_cases i:x∈A.map ai
   .let#v[q,b,rfl]:=av.1 i;let#v[l,j]:=d q.2 (by have:=f q b;omega);show#v[q.2::l,.cons b j]
   .show#v[[],.nil i]
 let#v[l,c]:=ma (rk x+1) x (cQ _);have e:l.length<=(T.map Th.n).length:=L1 (YI f c).1 λa m=>by let#v[q,b,rfl]:=N3 c a m;show hT q b
 rw[ak]at e;have o:∀{l:aC} {x:Str},Ch A x l->q? A (l.length+1) (U x)=Z:=by
  intro l
  induction l with
  |nil=>
   intro x c;cases c with
   |nil h=>change q? A 0 (z4 A x)=Z;rw[KU h];rfl
  |cons a l d=>
   intro x c;cases c with
   |cons h c=>change q? A (l.length+1) (z4 A x)=Z;rw[Dg p h];show d c
 show Dh (o c) ()
def acN(j:(A.map ai).Nodup){l f:aC}:∀{x:Str},Ch A x l->Ch A x f->l=f:=by
 induction l generalizing f with
 |nil=>
  intro x c b;cases c with
  |nil h=>
   cases b with
   |nil _=>rfl
   |cons d _=>show au (av.2 #v[_,d,J]) h
 |cons a l i=>
  intro x c b;cases c with
  |cons h c=>
   cases b with
   |nil d=>show au (av.2 #v[_,h,J]) d
   |cons d b=>have e:=ES j h d;subst e;show aX (a::·) (i c b)
#print h
def YQ(g:fh T M dk)(P:(T.filter λt=>decide (t.k=.you)).map Th.n=[y])(s:Sw T M y A V S)(F:z∈A.map ai)(I:w∈e8 T Kd.hd)(no:z∉w::lf s.d.a w)(O:z=y->w∈Y' T):Sw T M y (zE A z w) V (ll ("at", z) (.str w) S):=by
 have a:=s.d.a;have G:((zE A z w).map ai).Nodup:=by rw[KW];show a.nd
 have hd:∀q∈zE A z w,q.2∈e8 T Kd.hd:=λq i=>by
  rcases D8 (u:=q.1) (z:=q.2) i with ⟨_,c⟩|⟨_,c⟩
  .rw[c];show I
  .show s.d.hd _ c
 have hyr:∀r,(y,r)∈zE A z w->r∈Y' T:=λr h=>by
  rcases D8 h with ⟨j,c⟩|⟨_,c⟩
  .rw[c];show O j.symm
  .show s.d.yr r c
 have E:∀x,x∈(zE A z w).map ai ↔ x∈e8 T λk=>!decide (k=.room):=λx=>by rw[KW];show s.d.dm x
 let#v[b,B,H]:∃b:Str->Nat,(∀q∈A,b q.2<b q.1)/\∀x,b x<=40:=by
  let#v[b,B]:=a.rk;refine#v[λx=>if x∈A.map ai then b x+1 else 0,λq i=>?_,λx=>?_]
  .have:=(B q i).1;change (if q.2∈A.map ai then b q.2+1 else 0)<(if q.1∈A.map ai then b q.1+1 else 0);rw[af (cc i)];split<;>omega
  .change (if x∈A.map ai then b x+1 else 0)<=40;split
   .rename_i h;let#v[q,i,rfl]:=av.1 h;have:=(B q i).2;omega
   .omega
 have hit:∀x,q? (zE A z w) 21 (U x)=Z:=λx=>by
  calc XT (T:=T) (rk:=λx=>if z∈x::lf a x then b x+100 else b x) G (λq i=>?_) (λq i=>(wx T _).subset (hd q i)) (H4 g) x;rcases D8 (u:=q.1) (z:=q.2) i with ⟨j,c⟩|⟨j,c⟩
  .rw[j,c];change (if z∈w::lf a w then b w+100 else b w)<(if z∈z::lf a z then b z+100 else b z);rw[ah no,af aP];have:=H w;omega
  .have e:lf a q.1=q.2::lf a q.2:=by show acN a.nd (Im a q.1) (.cons c (Im a q.2))
   have:=B _ c;change (if z∈q.2::lf a q.2 then b q.2+100 else b q.2)<(if z∈q.1::lf a q.1 then b q.1+100 else b q.1);rw[e];have iff:(z∈q.1::q.2::lf a q.2) ↔ z∈q.2::lf a q.2:=by rw[aD];show#v[λh=>h.resolve_left λe=>j e.symm,.inr]
   by_cases p:z∈q.2::lf a q.2
   .rw[af p,af (iff.2 p)];simp only at this;omega
   .rw[ah p,ah λh=>p (iff.1 h)];show this
 let#v[N,C]:=a.yo;let#v[R,m]:∃r,(y,r)∈zE A z w:=by
  by_cases e:y=z
  .show#v[w,by rw[e];show EW F]
  .show#v[N,EX e C]
 show#v[#v[Pn g.t9 P G E hd m (hyr _ m) (λx _=>hit x) (by rw[XS];show a.ln),E,hd,hyr,s.d.v],aeS s.o F,by rw[KY];show s.n,by rw[EY];show s.l,MI s.f (.inl #v[_,J])]
#print f
def YR{n:Int}(s:Sw T M y A V S)(b:x∈V.map ai):Sw T M y A (zE V x n) (ll ("mark", x) (.int n) S):=
 #v[#v[s.d.a,s.d.dm,s.d.hd,s.d.yr,by rw[KW];show s.d.v],aeT s.o b,by rw[KY];show s.n,by rw[EY];show s.l,MI s.f (.inr #v[_,J])]
def US{e:Type}{A A':List (Str×e)}{z:Str}{w:e}(f:z∈A.map ai)(d:z∈A'.map ai){x:Str}(h:∀u,(x,u)∈A ↔ (x,u)∈A')(u:e):(x,u)∈zE A z w ↔ (x,u)∈zE A' z w:=by
 constructor
 .intro c;rcases D8 c with ⟨a,b⟩|⟨a,b⟩
  .rw[a,b];show EW d
  .show EX a ((h u).1 b)
 .intro c;rcases D8 c with ⟨a,b⟩|⟨a,b⟩
  .rw[a,b];show EW f
  .show EX a ((h u).2 b)
def aeU(b:z∈A.map ai)(a:z∈A'.map ai)(h:Ag Q A A' V V'):Ag Q (zE A z w) (zE A' z w) V V':=λx=>#v[λe=>US b a ((h x).1 e),(h x).2]
def aeV{n:Int}(b:x∈V.map ai)(a:x∈V'.map ai)(h:Ag Q A A' V V'):Ag Q A A' (zE V x n) (zE V' x n):=λu=>#v[(h u).1,λe=>US b a ((h u).2 e)]
end
section
variable{A:List (Str×Str)}{V:List (Str×Int)}{S:List (Ky×L4.D)}{y:Str}{T:List Th}{M:List Mk}{dk:aC}{mo:L4.D}
def Fu(T:List Th)(z:Str):List aC:=if z∈B' T then (B' T).map atK else []
def rdK(T:List Th)(y z p:Str):List aC:=Fu T z++(if p="here" then [atK y]else [])
def UT(g:fh T M dk)(d:(T.filter λt=>decide (t.k=.you)).map Th.n=[y])(z p:Str):Sb T M (rdK T y z p)/\(Fu T z).length<=13:=by
 refine#v[λk a=>?_,?_]
 .rcases bC.1 a with a|a
  .delta Fu at a;split at a
   .let#v[b,c,rfl]:=av.1 a;show bO _ (cc ((wx T _).subset c))
   .ext a
  .split at a
   .rw[aO.1 a];have e:y∈e8 T λk=>decide (k=.you):=by change y∈(T.filter _).map Th.n;rw[d];show aO.2 J
    show bO _ (cc ((wx T _).subset e))
   .ext a
 .delta Fu;split
  .rw[ak];show k_le g _
  .show bM _
abbrev tK:=(ab (c1 (vU CM "term") ae) oN)
def UU(g:fh T M dk)(q:(T.filter λt=>decide (t.k=.you)).map Th.n=[y]){c j ot a b:L4.D}(E:Gv c j ot a b){t p z:Str}(G:Tm c t z):B2 [U' t p,wM T M dk y,j,ot]=U (tdD (rdK T y z p)):=by
 have R:=g.len;let#v[r,X]:=UT g q z p;let W:=wM T M dk y;let f:L4.D->aU:=λd=>[.q (U' t p),.q W,.q j,.q ot,.q d];have B:(gs (cT (c2 (kv δ) (vt yJ tK) (v9 wB "of_kind" ao (ab gd vH)))) (vM 4 (vt AU iQ)) vZ:FS) (f (.ax []))=U (.nx (f (.ax ((Fu T z).map fy)))):=by
  have i:cT (c2 (kv δ) (vt yJ tK) (v9 wB "of_kind" ao (ab gd vH))) (f (.ax []))=U (decide (z∈B' T),f (.ax [])):=wt (vA (vv (ds:=[.str t,j,ot]) J (E.g t z G)) (wQ (xs:=wDs T M dk y (m? (k0 T M))) (ys:=[.str Kd.box.s]) (hh:=xR) J J J J (KR () .box)) (Bq δ z (B' T)));delta Fu;by_cases h:z∈B' T
  .rw[aI h]at i;rw[af h];show(wz i).t ((vL (vv (ds:=[W]) J (acG g))).t J)
  .rw[aL h]at i;rw[ah h];show(v5 i).t J
 have C:(gs (cT (c2 (ey δ) (c1 (vU xF "place") ae) lE)) (vM 4 (cL (xJ aR (vt zx (ab ao (ab (v9 Bw "you" ao vH) vH)))))) vZ:FS) (f (.ax ((Fu T z).map fy)))=U (.nx (f (.ax ((rdK T y z p).map fy)))):=by
  have i:cT (c2 (ey δ) (c1 (vU xF "place") ae) lE) (f (.ax ((Fu T z).map fy)))=U (decide (p="here"),f (.ax ((Fu T z).map fy))):=wt (vA (x:=.str p) (y:=.str "here") (by kernel_rfl) J (zB δ p "here"));delta rdK;by_cases h:p="here"
  .rw[aI h]at i;rw[af h,bg];have F:y∈e8 T λk=>decide (k=.you):=by change y∈(T.filter _).map Th.n;rw[q];show aO.2 J
   let#v[u,H,I,w]:=xg F;have o:=Io (M:=M) (dk:=dk) (y:=y) (mo:=m? (k0 T M)) g.t9 H λe=>by rw[e]at w;ext w
   rw[I]at o;show(wz i).t ((vL (wA (yX (xs:=(Fu T z).map fy) (ys:=[kD ("at", y)]) (ρ1:=f (.ax ((Fu T z).map fy))) J (vv (ρ1:=f (.ax ((Fu T z).map fy))) (ds:=[W,.str y]) (by kernel_rfl) o) (by rw[ak,bu];omega)))).t J)
  .rw[aL h]at i;rw[ah h,bD];show(v5 i).t J
 calc vR (ρ:=f (.ax ((rdK T y z p).map fy))) J ?_;delta BZ;calc(vp (ρ':=f (.ax [])) J).t ((vp B).t ((vp C).t ?_));show vX (vv (ds:=[.ax ((rdK T y z p).map fy)]) J (XD J (acF r) (UC g r)))
abbrev tG:=(ab ao (ab az vH))
def Pu(S:List (Ky×L4.D))(j:S.length<=900)(k:Ky)(v:L4.D):AV [sD S,kD k,v]=U (sD (ll k v S)):=by
 let b:aU:=[.q (sD S),.q (kD k),.q v];calc vR (ρ:=b) J (vX ?_);have c:=CZ (k:=1) (eh:=[1,2]) (g:=gN 0) (fe:=D' (cT (c2 (ey δ) (c2 e7 ae aY) ao)) (wg tG) ae) (s:=iT ae) (ρ:=b) (ρ1:=b) o? (λq=>o? (if q.1=k then (k,v)else q)) S J () λq z=>by
  let a:aU:=[.q (o? q),.q (kD k),.q v];have d:cT (c2 (ey δ) (c2 e7 ae aY) ao) a=U (decide (q.1=k),a):=wt (vA (x:=kD q.1) (y:=kD k) (vA (x:=o? q) (y:=.int 0) J J J) J (GF _ _ _ _));calc#v[a,a,J,?_,J];delta D';rw[d];by_cases h:q.1=k
  .rw[aI h,af h];rfl
  .rw[aL h,ah h];rfl
 have e:CB (cL (vT 1 [1,2] (iT ae) (gN 0) wG (D' (cT (c2 (ey δ) (c2 e7 ae aY) ao)) (wg tG) ae))) b=U (sD (ll k v S),b):=by delta CB;rw[wA c];delta ll;rw[sD,aT];rfl
 show e
def bad(T:List Th)(l:aC)(z w:Str):Bool:=!decide (w∈e8 T Kd.hd)||decide (z∈w::l)
abbrev tu:=(ab ao (ab az (ab aV vH)))
def YS(g:fh T M dk)(a:DB A y){S:List (Ky×L4.D)}(lS:S.length<=900)(o:ER A V S){c:L4.D}{t p z w:Str}(N:xC [wO T M dk y mo,sD S,c,.str t]=U (.str z))(O:xC [wO T M dk y mo,sD S,c,.str p]=U (.str w)){l:aC}(H:Ch A w l)(Q:l.length<=40){u v:Th}(R:u∈T)(Y:u.n=z)(X:u.k≠.room)(q:v∈T)(r:v.n=w):
  CU [U' t p,wO T M dk y mo,sD S,c]=U (if bad T l z w then .cx else sD (ll ("at", z) (.str w) S)):=by
 let W:=wO T M dk y mo;let b:aU:=[.q (U' t p),.q W,.q (sD S),.q c,.q (.str z),.q (.str w)];have B:(vM 4 (vt xC (ab ao (ab az (ab aB (ab (c1 (vU CM "term") ae) vH))))):FS) [.q (U' t p),.q W,.q (sD S),.q c,.un,.un]=U (.nx [.q (U' t p),.q W,.q (sD S),.q c,.q (.str z),.un]):=(vL (vv (ds:=[W,sD S,c,.str t]) J N)).t J;have C:(vM 5 (vt xC (ab ao (ab az (ab aB (ab (c1 (vU xF "place") ae) vH))))):FS) [.q (U' t p),.q W,.q (sD S),.q c,.q (.str z),.un]=U (.nx b):=(vL (vv (ds:=[W,sD S,c,.str p]) J O)).t J;have G:w∈e8 T Kd.hd ↔ v.k.hd=γ:=by
  constructor
  .intro h;let#v[x,d,i,P]:=xg h;have:=Ih g.t9 d q (i.t r.symm);subst this;show P
  .intro h;show av.2 #v[v,bw.2 #v[q,h],r]
 have E:=UP (M:=M) (dk:=dk) (y:=y) (mo:=mo) g.t9 R X q;rw[Y,r]at E;have m:yT (zg (cT (vt zM oO))) (cT (c2 (kv δ) aR (cL (v7 za tu)))) b=U (bad T l z w,b):=by
  have f:zg (cT (vt zM oO)) b=U (!(v.k.hd&&!decide (w=z)),b):=Eo (wt (vv (ds:=[W,.str z,.str w]) J E));have I:cT (c2 (kv δ) aR (cL (v7 za tu))) b=U (decide (z∈l),b):=wt (vA J (wA (vv (ds:=[W,sD S,.str w]) J (Xs a o W H Q))) (Bq δ z l));delta bad;by_cases d:v.k.hd=γ
  .by_cases i:w=z
   .rw[d,aI i]at f;rw[aI (aD.2 (.inl i.symm)),nR];show Dd f
   .rw[d,aL i]at f;calc(A5 f I).t ?_;rw[aI (G.2 d)];have:decide (z∈w::l)=decide (z∈l):=by simp;show λe=>au e.symm i
    rw[this];rfl
  .rw[mV]at d;rw[d]at f;rw[aL λh=>by rw[G,d]at h;ext h];show Dd f
 cases F:bad T l z w with
 |true=>rw[F]at m;calc vR (ρ:=b) J ?_;delta AW;show(vp B).t ((vp C).t (wc ((wz m).t J)))
 |false=>rw[F]at m;calc vR (ρ:=b) J ?_;delta AW;show(vp B).t ((vp C).t ((vp ((v5 m).t J)).t (vX (vv (ds:=[sD S,kD ("at", z),.str w]) J (Pu S lS ("at", z) (.str w))))))
def Pw{t:Str}{c:L4.D}{v:Int}{x:Str}(e:xC [wM T M dk y,sD S,c,.str t]=U (.str x))(f:xM [wM T M dk y,.str x,.int v]=U (.bl δ)):B7 [E' t v,wM T M dk y,sD S,c]=U .cx:=by let a:aU:=[.q (E' t v),.q (wM T M dk y),.q (sD S),.q c,.q (.str x)];calc vR (ρ:=a) J ?_;delta B6;calc(vp (ρ':=a) ((vL (vv (ds:=[wM T M dk y,sD S,c,.str t]) J e)).t J)).t ?_;show wc ((wz (ρ':=a) (Eo (wt (vv (ds:=[wM T M dk y,.str x,.int v]) J f)))).t J)
def MJ{t:Str}{c:L4.D}{v:Int}{x:Str}(e:S.length<=900)(f:xC [wM T M dk y,sD S,c,.str t]=U (.str x))(h:xM [wM T M dk y,.str x,.int v]=U (.bl γ)):B7 [E' t v,wM T M dk y,sD S,c]=U (sD (ll ("mark", x) (.int v) S)):=by let a:aU:=[.q (E' t v),.q (wM T M dk y),.q (sD S),.q c,.q (.str x)];calc vR (ρ:=a) J ?_;delta B6;calc(vp (ρ':=a) ((vL (vv (ds:=[wM T M dk y,sD S,c,.str t]) J f)).t J)).t ?_;calc(vp (ρ':=a) ((v5 (ρ':=a) (Eo (wt (vv (ds:=[wM T M dk y,.str x,.int v]) J h)))).t J)).t ?_;show vX (vv (ds:=[sD S,kD ("mark", x),.int v]) J (Pu S e ("mark", x) (.int v)))
end
section
variable{A A':List (Str×Str)}{V V':List (Str×Int)}{S S':List (Ky×L4.D)}{y:Str}{T:List Th}{M:List Mk}{dk:aC}{k:Ky}{v:L4.D}{Q:List aC}
def IS(k:Ky)(S:List (Ky×L4.D)):List L4.D:=(S.filter λq=>!decide (q.1=k)).map o?
def acO(a b:Ky):ey γ (kD a) (kD b)=U (.bl !decide (a=b)):=by
 let#v[a1,c]:=a;let#v[d,e]:=b;have o:E9 γ (kD (a1,c)) (kD (d,e))=Z:=rfl;have f:=GF a1 c d e;have h:Ge δ (.bx [.str a1,.str c]) (.bx [.str d,.str e])=U (.bl (L3.nf (.bx [.str a1,.str c]) (.bx [.str d,.str e]))):=rfl;have i:Ge γ (.bx [.str a1,.str c]) (.bx [.str d,.str e])=U (.bl !(L3.nf (.bx [.str a1,.str c]) (.bx [.str d,.str e]))):=rfl;have j:ey δ (.bx [.str a1,.str c]) (.bx [.str d,.str e])=Ge δ (.bx [.str a1,.str c]) (.bx [.str d,.str e]):=rfl;have l:ey γ (kD (a1,c)) (kD (d,e))=Ge γ (.bx [.str a1,.str c]) (.bx [.str d,.str e]):=rfl;rw[j,h]at f;have m:L3.nf (.bx [.str a1,.str c]) (.bx [.str d,.str e])=decide ((a1,c)=(d,e)):=by injection f with f;injection f
 rw[l,i,m]
def UV(f:S.length<=900):wX [sD S,kD k]=U (.ax (IS k S)):=by let a:aU:=[.q (sD S),.q (kD k)];calc Kj (ρ:=a) J (zV ?_);show AA (k:=1) (eh:=[1]) (s:=iT ae) (g:=gN 0) (ft:=cT (c2 (ey γ) (c2 e7 ae aY) ao)) (fe:=cV 0) o? o? (λq=>!decide (q.1=k)) S (ρ:=a) (ρ1:=a) J () λq z=>by let b:aU:=[.q (o? q),.q (kD k)];show#v[b,b,J,wt (vA (x:=kD q.1) (y:=kD k) (vA (x:=o? q) (y:=.int 0) J J J) J (acO _ _)),λz=>#v[_,J,J],λz=>J]
def acP(f:S.length<=900):xb [sD S,kD k]=U (.ax ((S.filter λq=>decide (q.1=k)).map bI)):=by let a:aU:=[.q (sD S),.q (kD k)];calc Kj (ρ:=a) J (zV ?_);show AA (k:=2) (eh:=[1]) (s:=iT ae) (g:=gT f7 2) (ft:=cT (c2 (ey δ) ae az)) (fe:=cV 1) o? bI (λq=>decide (q.1=k)) S (ρ:=a) (ρ1:=a) J () λq z=>by let b:aU:=[.q (kD q.1),.q q.2,.q (kD k)];show#v[b,b,J,wt (vA (x:=kD q.1) (y:=kD k) J J (GF _ _ _ _)),λz=>#v[_,J,J],λz=>J]
def UW:IS k (ll k v S)=IS k S:=by
 delta IS ll;rw[rb,aT];have e:(S.filter ((λq=>!decide (q.1=k))∘λq=>if q.1=k then (k,v)else q))=S.filter λq=>!decide (q.1=k):=List.filter_congr λq z=>by
  change (!decide ((if q.1=k then (k,v)else q).1=k))=!decide (q.1=k);by_cases h:q.1=k
  .rw[af h,aI h,aI J]
  .rw[ah h]
 rw[e];calc jh λq a=>?_;have h:=(bw.1 a).2;change o? (if q.1=k then (k,v)else q)=o? q;rw[ah λe=>by rw[aI e]at h;ext h]
def acQ(a:(S.map ai).Nodup)(b:k∈S.map ai):((ll k v S).filter λq=>decide (q.1=k)).map bI=[v]:=by
 induction S with
 |nil=>cases b
 |cons q S c=>
  rw[aA,cu]at a;have cx:k∉S.map ai->((ll k v S).filter λq=>decide (q.1=k)).map bI=[]:=λh=>by rw[pK.2 λq d e=>h (by have w:q.1∈(ll k v S).map ai:=cc d;rw[KY,bj e]at w;show w)];rfl
  delta ll at c cx ⊢;rw[aA];by_cases h:q.1=k
  .rw[af h,eD,af (aI J),aA,cx (by rw[<-h];show a.1)]
  .rw[ah h,eD,ah (by rw[aL h];show bB)];rcases aD.1 b with e|e
   .show au e.symm h
   .show c a.2 e
def KZ{a:List L4.D}(h:∃l,A4 a=U l/\wY l<=2):ey γ (.ax a) (.ax a)=U (.bl δ):=by let#v[l,e,hd]:=h;show(J3 e ()).t J
theorem fl_S:∀{S:List (Ky×L4.D)},(∀q∈S,(∃z,q.2=D.str z)\/∃n,q.2=D.int n)->∃l,A4 (S.map o?)=U l/\wY l<=2
 |[],_=>#v[[],J,by delta wY;omega]
 |q::S,h=>by
  let#v[l,e,hd]:=fl_S (S:=S) λq f=>h q (ba _ f);have:∃x,oy (o? q)=U x/\gw x<=2:=by
   let#v[#v[a,b],d]:=q;rcases h _ aP with ⟨z,e⟩|⟨n,e⟩
   .have e:d=.str z:=e;subst e;show#v[.bx [.bx [.str a,.str b],.str z],J,by simp[gw,wY]]
   .have e:d=.int n:=e;subst e;show#v[.bx [.bx [.str a,.str b],.int n],J,by simp[gw,wY]]
  let#v[x,c,i]:=this;calc#v[x::l,by rw[aA];delta A4;rw[c];erw[e],by rw[wY];omega]
def acR(f:∀q∈S,(∃z,q.2=D.str z)\/∃n,q.2=D.int n):ey γ (.ax (IS k S)) (.ax (IS k S))=U (.bl δ):=KZ (fl_S λq a=>f q (bw.1 a).1)
def acS(a:(∃z,v=.str z)\/∃n,v=.int n):ey γ (.ax [v]) (.ax [v])=U (.bl δ):=by
 rcases a with ⟨z,rfl⟩|⟨n,rfl⟩
 .show KZ #v[[.str z],J,by simp[gw,wY]]
 .show KZ #v[[.int n],J,by simp[gw,wY]]
def acT(a:(∃z,v=.str z)\/∃n,v=.int n):ey δ (.ax [v]) (.ax [])=U (.bl δ):=by rcases a with ⟨z,rfl⟩|⟨n,rfl⟩<;>rfl
end
section
variable{A A':List (Str×Str)}{V V':List (Str×Int)}{S S':List (Ky×L4.D)}{y:Str}{T:List Th}{M:List Mk}{dk:aC}{c it ot a b d:L4.D}{Q:List aC}
inductive Rd(T:List Th) (y:Str) (c:L4.D):L4.D->List aC->Prop
 |mv {t p z:Str} {w:Option Str}:Mv T y c t p z w->Rd T y c (U' t p) (rdK T y z p)
 |pt {t z:Str} (v:Int):Tm c t z->Rd T y c (E' t v) []
def Two2(T:List Th)(M:List Mk)(y:Str)(Q:List aC)(S S':List (Ky×L4.D))(k:Ky)(v:L4.D):Prop:=((∃z,v=.str z)\/∃n,v=.int n)/\k∈S.map ai/\k∈S'.map ai/\∃e h f i,Sw T M y e h (ll k v S)/\Sw T M y f i (ll k v S')/\Ag Q e f h i
def acU(t9:(T.map Th.n).Nodup)(G:(T.filter λt=>decide (t.k=.you)).map Th.n=[y])(B:Dr T M y A V)(o:Dr T M y A' V')(C:∀x∈B' T,∀z,(x,z)∈A ↔ (x,z)∈A'){z:Str}(I:z∈B' T){l E:aC}:∀{x:Str},x∈e8 T Kd.hd->Ch A x l->Ch A' x E->(z∈l ↔ z∈E):=by
 have m3:∀{A V},Dr T M y A V->∀{x},x∈Y' T->x∉A.map ai:=λ{A V} d {x} h e=>yu t9 (λk m i=>by rw[m]at i;ext i) h ((d.dm x).1 e);have nob:∀{x},x∈Y' T->z≠x:=λ{x} h e=>yu t9 (λk m i=>by rw[bj m]at i;ext i) h (e▸I);have you:∀{A V},(d:Dr T M y A V)->∀{l},Ch A y l->z∉l:=λ{A V} d {l} c h=>by
  cases c with
  |nil _=>cases h
  |cons m c=>
   rcases aD.1 h with e|h
   .show nob (d.yr _ m) e
   .cases c with
    |nil _=>cases h
    |cons i _=>show m3 d (d.yr _ m) (av.2 #v[_,i,J])
 have room:∀{A V},(d:Dr T M y A V)->∀{x l},x∈Y' T->Ch A x l->z∉l:=λ{A V} d {x l} w c h=>by
  cases c with
  |nil _=>cases h
  |cons i _=>show m3 d w (av.2 #v[_,i,J])
 induction l generalizing E with
 |nil=>
  intro x w c f;calc#v[λh=>(by ext h),λh=>?_];let#v[u,j,rfl,q]:=xg w;cases k:u.k with
  |box=>
   cases c with
   |nil H=>
    cases f with
    |nil _=>cases h
    |cons p _=>show au (av.2 #v[_,(C _ (av.2 #v[u,bw.2 #v[j,aI k],J]) _).2 p,J]) H
  |you=>have:u.n∈(T.filter λt=>decide (t.k=.you)).map Th.n:=av.2 #v[u,bw.2 #v[j,aI k],J];rw[G]at this;rw[aO.1 this]at f;show au h (you o f)
  |room=>show au h (room o (av.2 #v[u,bw.2 #v[j,aI k],J]) f)
  |_=>rw[k]at q;cases q
 |cons e l N=>
  intro x w c f;let#v[u,j,rfl,q]:=xg w;cases k:u.k with
  |box=>
   have F:u.n∈B' T:=av.2 #v[u,bw.2 #v[j,aI k],J];cases c with
   |cons h c=>
    cases f with
    |nil p=>show au (av.2 #v[_,(C _ F _).1 h,J]) p
    |cons p f=>have e:=ES o.a.nd ((C _ F _).1 h) p;subst e;rw[aD,aD];show or_congr oE (N (B.hd _ h) c f)
  |you=>have:u.n∈(T.filter λt=>decide (t.k=.you)).map Th.n:=av.2 #v[u,bw.2 #v[j,aI k],J];rw[G]at this;have:=aO.1 this;rw[this]at c f;show#v[λh=>au h (you B c),λh=>au h (you o f)]
  |room=>have r:u.n∈Y' T:=av.2 #v[u,bw.2 #v[j,aI k],J];show#v[λh=>au h (room B r c),λh=>au h (room o r f)]
  |_=>rw[k]at q;ext q
end
section
variable{A A':List (Str×Str)}{V V':List (Str×Int)}{S S':List (Ky×L4.D)}{y:Str}{T:List Th}{M:List Mk}{dk:aC}{c it ot a b d:L4.D}{Q R:List aC}
def Stp(T:List Th)(M:List Mk)(dk:aC)(y:Str)(c it ot d:L4.D)(Q:List aC)(S S':List (Ky×L4.D)):Prop:=∃(e:Nat) (f:aC) (i:List L4.D) (h hd:List L4.D->Option L4.D),d=.obj e f i/\yA e=U h/\f.contains "change" = δ/\xc e=U hd/\f.contains "done" = δ/\∃part,h [d,wM T M dk y,it,ot]=U part/\
 ((hd [d,wM T M dk y,sD S,c]=U .cx/\hd [d,wM T M dk y,sD S',c]=U .cx)\/∃k v,part=kD k/\hd [d,wM T M dk y,sD S,c]=U (sD (ll k v S))/\hd [d,wM T M dk y,sD S',c]=U (sD (ll k v S'))/\Two2 T M y Q S S' k v)
def YT(g:fh T M dk)(s:Dr T M y A V){t p z:Str}{w:Option Str}(m:Mv T y c t p z w)(N:z∉B' T)(r:Str):z∉lf s.a (w.getD r):=λh=>by
 rcases m.z with C|⟨C,j,G,I⟩
 .let#v[q,H,e]:=N3 (Im s.a _) z h;let#v[u,f,i,B]:=xg C;let#v[O,E,F,o]:=xg (s.hd q H);have:=Ih g.t9 f E (i.t (e.symm.t F.symm));subst this;calc N (av.2 #v[u,bw.2 #v[f,aI ?_],i]);cases k:u.k<;>rw[k]at B o<;>first|rfl|show au B #[]|show au o #[]
 .subst G;have c:=Im s.a j;have h:z∈lf s.a j:=h;cases e:lf s.a j with
  |nil=>rw[e]at h;cases h
  |cons x l=>
   rw[e]at c;cases c with
   |cons f _=>show yu g.t9 (λk f i=>by rw[f]at i;ext i) I ((s.dm j).1 (av.2 #v[_,f,J]))
def XU(g:fh T M dk)(E:(T.filter λt=>decide (t.k=.you)).map Th.n=[y])(gv:Gv c it ot a b){t p z:Str}{w:Option Str}(m:Mv T y c t p z w)(hQ:∀k∈rdK T y z p,k∈Q)(f:Sw T M y A V S)(j:Sw T M y A' V' S')(X:Ag Q A A' V V'):Stp T M dk y c it ot (U' t p) Q S S':=by
 let#v[r,v1]:=YO g f;let#v[r',v2]:=YO g j;have er:w.getD r'=w.getD r:=by
  cases Y:m.p with
  |here=>have:atK y∈rdK T y z "here" := bU _ (by rw[af J];show aO.2 J);show ES v2.s.a.nd v2.s.hr (((X y).1 (hQ _ this) r).1 v1.s.hr)
  |tm _ _=>rfl
 let#v[u,hu,uz,uk]:=Pq E m.z;let#v[x,O,xw]:=av.1 (XG v1 m.p);have l1:=f.l;have l2:=j.l;have N:=YS (mo:=m? (k0 T M)) g f.d.a () f.o (Cd (dk:=dk) (mo:=m? (k0 T M)) m.t) (Pm v1 m.p) (Im f.d.a _) (lf_l f.d.a _) hu uz uk O xw;have ep:=Pm (dk:=dk) (mo:=m? (k0 T M)) v2 m.p;rw[er]at ep;have G:=YS (mo:=m? (k0 T M)) g j.d.a () j.o (Cd (dk:=dk) (mo:=m? (k0 T M)) m.t) ep (Im j.d.a _) (lf_l j.d.a _) hu uz uk O xw;have F:∀{A V S},Sw T M y A V S->z∈A.map ai:=λ{A V S} s=>(s.d.dm z).2 (av.2 #v[u,bw.2 #v[hu,(by change (!decide (u.k=.room))=γ;rw[aL uk];rfl)],uz]);have eb:bad T (lf j.d.a (w.getD r)) z (w.getD r)=bad T (lf f.d.a (w.getD r)) z (w.getD r):=by
  delta bad;by_cases hw:w.getD r∈e8 T Kd.hd
  .congr 1;calc decide_eq_decide.2 ?_;rw[aD,aD];calc or_congr oE ?_;by_cases B:z∈B' T
   .calc(acU g.t9 E f.d j.d (λx O=>(X x).1 (hQ _ (bO _ ?_))) B hw (Im f.d.a _) (Im j.d.a _)).symm;delta Fu;rw[af B];show cc O
   .show#v[λh=>au h (YT g j.d m B r),λh=>au h (YT g f.d m B r)]
  .rw[aL hw];rfl
 rw[eb]at G;calc#v[11,_,_,zD,CU,J,J,by decide,J,by decide,_,QS g E gv m,?_];cases B:bad T (lf f.d.a (w.getD r)) z (w.getD r)with
 |true=>rw[B]at N G;show .inl #v[N,G]
 |false=>
  rw[B]at N G;have I:=eb.t B;have no:∀{l:aC},bad T l z (w.getD r)=δ->w.getD r∈e8 T Kd.hd/\z∉w.getD r::l:=λ{l} h=>by delta bad at h;rw[ko]at h;show#v[bj (by exists h.1),of_decide_eq_false h.2]
  have yr:z=y->w.getD r∈Y' T:=λe=>by
   rcases m.z with hz|⟨_,p',Y,hr⟩
   .have ny:y∈e8 T λk=>decide (k=.you):=by change y∈(T.filter _).map Th.n;rw[E];show aO.2 J
    show(yu g.t9 (λk C H=>by rw[bj H]at C;ext C) (e▸hz) ny).elim
   .rw[Y];show hr
  have go:goB T z w=γ:=by
   cases Y:m.p with
   |here=>rfl
   |@tm _ W _ _=>let#v[C,H]:=no B;have C:W∈e8 T Kd.hd:=C;have H:z∉W::_:=H;change (decide (W∈e8 T Kd.hd)&&!decide (W=z))=γ;rw[aI C,aL λe=>H (by rw[e];show aP)];rfl
  refine .inr #v[("at", z),.str (w.getD r),by rw[go];rfl,N,G,.inl #v[_,J],?_,?_,_,_,_,_,YQ g E f (F f) (no B).1 (no B).2 yr,YQ g E j (F j) (no I).1 (no I).2 yr,aeU (F f) (F j) X]
  .let#v[q,hq,e]:=av.1 (F f);show av.2 #v[_,f.o.i q hq,by rw[<-e]]
  .let#v[q,hq,e]:=av.1 (F j);show av.2 #v[_,j.o.i q hq,by rw[<-e]]
def XW(g:fh T M dk)(x:Gv c it ot a b){t z:Str}(v:Int)(r:Tm c t z)(i:Sw T M y A V S)(j:Sw T M y A' V' S')(w:Ag Q A A' V V'):Stp T M dk y c it ot (E' t v) Q S S':=by
 have B:=i.l;have C:=j.l;calc#v[12,_,_,B4,B7,J,J,by decide,J,by decide,_,Oa g x r v,?_];have f:=UR (y:=y) g z v;cases u:shB T M z v with
 |false=>rw[u]at f;show .inl #v[Pw (Cd r) f,Pw (Cd r) f]
 |true=>
  rw[u]at f;have m:∀{A V S},Sw T M y A V S->z∈V.map ai:=λ{A V S} s=>by rw[s.d.v];delta shB at u;let#v[q,p,h]:=dw.1 u;show av.2 #v[q,p,bj (p6.1 h).1]
  refine .inr #v[("mark", z),.int v,J,MJ () (Cd r) f,MJ () (Cd r) f,.inr #v[_,J],?_,?_,_,_,_,_,YR i (m i),YR j (m j),aeV (m i) (m j) w]
  .let#v[q,p,e]:=av.1 (m i);show av.2 #v[_,i.o.mi q p,by rw[<-e]]
  .let#v[q,p,e]:=av.1 (m j);show av.2 #v[_,j.o.mi q p,by rw[<-e]]
end
def lA:FS:=(a7 (vM 7 (v9 yA "change" bp oI))
 (a7 (vM 8 (v9 xc "done" bp lN))
 (a7 (vM 9 (v9 xc "done" bp lQ))
 (a7 (gs (yT (cT (c2 zf eW bf)) (cT (c2 zf dE bf))) (vQ (xZ (c2 zf eW bf) (c2 zf dE bf))) vZ)
 (a7 (gs (yT (cT (c2 zf bW bf)) (yT (cT (c2 (ey γ) (vt wX iY) (vt wX (ab az fM)))) (cT (c2 (ey γ) (vt wX lU) (vt wX (ab aB fM)))))) (vQ dX) vZ)
 (a7 (gs (yT (cT (c2 (ey γ) (vt xb iY) (vt xb lU))) (cT (c2 (ey δ) (vt xb iY) (cL (vO vH))))) (vQ dX) vZ)
 (a7 (vM 2 eW)
 (vM 3 dE))))))))
section
variable{y:Str}{T:List Th}{M:List Mk}{dk:aC}{c it ot a b d:L4.D}{Q:List aC}
def XX(g:fh T M dk)(o:(T.filter λt=>decide (t.k=.you)).map Th.n=[y])(i:Gv c it ot a b){R:List aC}(p:Rd T y c d R)(hQ:∀k∈R,k∈Q){A e:List (Str×Str)}{V f:List (Str×Int)}{S S':List (Ky×L4.D)}(j:Sw T M y A V S)(l:Sw T M y e f S')(h:Ag Q A e V f):Stp T M dk y c it ot d Q S S':=by
 cases p with
 |mv m=>show XU g o i m hQ j l h
 |pt v q=>show XW g i v q j l h
theorem Iu(g:fh T M dk)(hy:(T.filter λt=>decide (t.k=.you)).map Th.n=[y])(gv:Gv c it ot a b)(all:L4.D):∀(ds:List L4.D) {A A':List (Str×Str)} {V V':List (Str×Int)} {S S':List (Ky×L4.D)} (s6 G B r:Sl),(∀d∈ds,∃R,Rd T y c d R/\∀k∈R,k∈Q)->Sw T M y A V S->Sw T M y A' V' S'->Ag Q A A' V V'->
  ∃o,fu (gN 6) lA ds [.q (wM T M dk y),.q all,.q (sD S),.q (sD S'),.q c,.q (.bx [it,ot]),s6,G,B,r]=U o/\((∃ρ,o=.rt (.bl γ) ρ)\/∃ρ,o=.nx ρ)
 |[],A,A',V,V',S,S',s6,G,B,r,_,_,_,_=>#v[_,J,.inr #v[_,J]]
 |d::ds,A,A',V,V',S,S',s6,G,B,r,hd,s1,s2,ag=>by
  let#v[R,rd,hR]:=hd d aP;let#v[E,F,u,hc,hdn,ed,cc1,cc2,d1,d2,part,e1,st]:=XX (dk:=dk) g hy gv rd hR s1 s2 ag;subst ed;let W:=wM T M dk y;let w:Sl->Sl->Sl->aU:=λG B r=>[.q W,.q all,.q (sD S),.q (sD S'),.q c,.q (.bx [it,ot]),.q (.obj E F u),G,B,r];have l1:=s1.l;have l2:=s2.l;have f1:vM 7 (v9 yA "change" bp oI) (w G B r)=U (.nx (w (.q part) B r)):=(vL (wQ (xs:=u) (ys:=[W,it,ot]) (ρ1:=w G B r) J cc1 cc2 J e1)).t J;have dn:∀{x N:L4.D},hdn [.obj E F u,W,sD S,c]=U x->hdn [.obj E F u,W,sD S',c]=U N->a7 (vM 8 (v9 xc "done" bp lN)) (vM 9 (v9 xc "done" bp lQ)) (w (.q part) B r)=U (.nx (w (.q part) (.q x) (.q N))):=λ{x N} H I=>by calc(vp (ρ':=w (.q part) (.q x) r) ((vL (wQ (xs:=u) (ys:=[W,sD S,c]) (ρ1:=w (.q part) B r) J d1 d2 J H)).t J)).t ?_;show(vL (wQ (xs:=u) (ys:=[W,sD S',c]) (ρ1:=w (.q part) (.q x) r) J d1 d2 J I)).t J
  have O:∀{x:L4.D},hdn [.obj E F u,W,sD S,c]=U x->vM 8 (v9 xc "done" bp lN) (w (.q part) B r)=U (.nx (w (.q part) (.q x) r)):=λ{x} H=>(vL (wQ (xs:=u) (ys:=[W,sD S,c]) (ρ1:=w (.q part) B r) J d1 d2 J H)).t J;have P:∀{x N:L4.D},hdn [.obj E F u,W,sD S',c]=U N->vM 9 (v9 xc "done" bp lQ) (w (.q part) (.q x) r)=U (.nx (w (.q part) (.q x) (.q N))):=λ{x N} I=>(vL (wQ (xs:=u) (ys:=[W,sD S',c]) (ρ1:=w (.q part) (.q x) r) J d1 d2 J I)).t J;rcases st with ⟨H,I⟩|⟨k,v,ep,H,I,hv,k1,k2,A1,V1,A2,V2,t1,t2,ag'⟩
  .calc#v[_,UF (d:=.obj E F u) (ρ1:=w G B r) (e:=.bl γ) (ρ2:=w (.q part) (.q .cx) (.q .cx)) J ?_,.inl #v[_,J]];delta lA;calc(vp f1).t ((vp (O H)).t ((vp (P I)).t (wc ?_)));rfl
  .subst ep;let Y:=w (.q (kD k)) (.q (sD (ll k v S))) (.q (sD (ll k v S')));have lu1:(ll k v S).length<=900:=by rw[EY];omega
   have lu2:(ll k v S').length<=900:=by rw[EY];omega
   let#v[o,h0,h]:=Iu g hy gv all ds (S:=ll k v S) (S':=ll k v S') (.q (.obj E F u)) (.q (kD k)) (.q (sD (ll k v S))) (.q (sD (ll k v S'))) (λd hd'=>hd d (ba _ hd')) t1 t2 ag';calc#v[o,(Ft (d:=.obj E F u) (ρ1:=w G B r) (ρ2:=[.q W,.q all,.q (sD (ll k v S)),.q (sD (ll k v S')),.q c,.q (.bx [it,ot]),.q (.obj E F u),.q (kD k),.q (sD (ll k v S)),.q (sD (ll k v S'))]) J ?_).t h0,h];delta lA;calc(vp f1).t ((vp (O H)).t ((vp (P I)).t ?_));calc(vp (ρ':=Y) ((v5 (ρ':=Y) (A5 (ρ1:=Y) J J)).t J)).t ?_;have b1:∀{i j:Nat} {X X':List (Ky×L4.D)},cV i Y=U (sD X,Y)->cV j Y=U (sD X',Y)->X.length<=900->X'.length<=900->IS k X=IS k X'->(∀q∈X',(∃z,q.2=D.str z)\/∃n,q.2=D.int n)->cT (c2 (ey γ) (vt wX (ab (cV i) fM)) (vt wX (ab (cV j) fM))) Y=U (δ,Y):=λ{i j X X'} hi hj m1 m2 eb f=>by refine wt (vA (x:=.ax (IS k X')) (y:=.ax (IS k X')) (ρ1:=Y) (vv (ds:=[sD X,kD k]) (vz hi (vz J J)) (by rw[UV m1,eb])) (vv (ds:=[sD X',kD k]) (vz hj (vz J J)) (UV m2)) (acR f))
   have q1:=b1 (i:=8) (j:=2) (X:=ll k v S) (X':=S) J J lu1 () UW s1.f;have q2:=b1 (i:=9) (j:=3) (X:=ll k v S') (X':=S') J J lu2 () UW s2.f;calc(vp (ρ':=Y) ((v5 (ρ':=Y) (A5 (ρ1:=Y) J (A5 (ρ1:=Y) q1 q2))).t J)).t ?_;have v1:∀{i:Nat} {X:List (Ky×L4.D)},cV i Y=U (sD (ll k v X),Y)->X.length<=900->(X.map ai).Nodup->k∈X.map ai->vt xb (ab (cV i) fM) Y=U (.ax [v],Y):=λ{i X} hi m n hk=>vv (ds:=[sD (ll k v X),kD k]) (vz hi (vz J J)) (by rw[acP (by rw[EY];show m),acQ n hk]);have w1:=v1 (i:=8) (X:=S) J () s1.n k1;have w2:=v1 (i:=9) (X:=S') J () s2.n k2;calc(vp (ρ':=Y) ((v5 (ρ':=Y) (A5 (ρ1:=Y) (wt (vA w1 w2 (acS hv))) (wt (vA w1 J (acT hv))))).t J)).t J
def UX(g:fh T M dk)(m:(T.filter λt=>decide (t.k=.you)).map Th.n=[y])(l:Gv c it ot a b){ds:List L4.D}{A e:List (Str×Str)}{V h:List (Str×Int)}{S f:List (Ky×L4.D)}(hd:∀d∈ds,∃R,Rd T y c d R/\∀k∈R,k∈Q)(p:Sw T M y A V S)(q:Sw T M y e h f)(j:Ag Q A e V h):Aa [wM T M dk y,.ax ds,sD S,sD f,c,.bx [it,ot]]=U (.bl γ):=by
 obtain⟨o,i,⟨r,rfl⟩|⟨r,rfl⟩⟩:=Iu (dk:=dk) g m l (.ax ds) ds .un .un .un .un hd p q j
 .show vR J (wc ((wW (ds:=ds) J).t i))
 .show vR J ((vp ((wW (ds:=ds) J).t i)).t J)
end
def tB:FS:=a7 (vM 7 (xE xu 4 cy)) (v3 (zP 5 (wg tJ)))
def lB:FS:=(a7 (yd 4 (v7 zc tE))
 (a7 (yd 5 (vO vH))
 (a7 (yx (v? ck) (gN 6) tB)
 (a7 (vM 8 (xE yq 4 cy))
 (a7 (vM 9 (vt z9 (a1 eW)))
 (a7 (vM 10 (cL (vT 1 [1,4,8] (v? (c2 wq aN (v8 vq 4 iX))) (gN 0) wG (xE yR 2 lI))))
 (a7 (vM 11 (wg vH))
 (a7 (yx (iL hJ) (gN 12) (vM 11 (FR (cV 11) (v9 yQ "reads" (cV 12) oJ))))
 (a7 (vM 13 (vt yD sV))
 (a7 (vM 14 (vt yC sU))
 (gs (zg (cT (vt Aa sT))) (vQ dX) vZ)))))))))))
section
variable{y:Str}{T:List Th}{M:List Mk}{dk:aC}
def YU(g:fh T M dk)(j:(T.filter λt=>decide (t.k=.you)).map Th.n=[y]){es:List L4.D}(h:IL es):∃A V b c,IL c/\Dr T M y A V/\xu es [wN T M dk y]=U (k3 A,b)/\yB b [wN T M dk y]=U (m? V,c):=by let#v[A,b,l,a,_,#v[d,hd,o],e]:=QM g j h;let#v[V,c,m,f,i,_]:=Um g l;show#v[A,V,b,c,m,#v[a,d,hd,o,by rw[i,zH]],e,f]
def XY{e a:FE}{b ρ1 ρ2:aU}{xs ys:List L4.D}(c:e b=U (.bx xs,ρ1))(d:a ρ1=U (.bx ys,ρ2))(f:xs.length+ys.length<=900):FR e a b=U (.bx (xs++ys),ρ2):=by delta FR;rw[c];erw[d];rw[af f]
def rdB:FS:=vM 11 (FR (cV 11) (v9 yQ "reads" (cV 12) oJ))
def XZ(g:fh T M dk)(h:(T.filter λt=>decide (t.k=.you)).map Th.n=[y]){c i ot a b d:L4.D}(o:Gv c i ot a b)(l:De T y c d):∃(R r:List aC) (e:Nat) (j:aC) (xs:List L4.D) (f:List L4.D->Option L4.D),Rd T y c d R/\(∀k,k∈R ↔ k∈r)/\r.length<=63/\d=.obj e j xs/\yQ e=U f/\j.contains "reads" = δ/\f [d,wM T M dk y,i,ot]=U (nq r):=by
 cases l with
 |@mv t p z w m=>show#v[_,EE (ψ (rdK T y z p)),11,_,_,B2,.mv m,λk=>by rw[UA,Kz],by rw[UB];show fC (UC g (UT g h z p).1),J,J,by decide,UU g h o m.t]
 |@pt t z v q=>show#v[_,[],12,_,_,F5,.pt v q,λk=>oE,by decide,J,J,by decide,J]
theorem Px(g:fh T M dk)(W:(T.filter λt=>decide (t.k=.you)).map Th.n=[y]){c x ot a b:L4.D}(Q:Gv c x ot a b)(C E F G H I N O j m o:Sl):∀(l:List L4.D) (q:List aC) (f:Sl),(∀d∈l,De T y c d)->q.length+63 * l.length<=900->
  ∃A i,fu (gN 12) rdB l [C,E,.q (wM T M dk y),F,G,H,I,N,O,.q (.bx [x,ot]),j,.q (nq q),f,m,o]=U (.nx [C,E,.q (wM T M dk y),F,G,H,I,N,O,.q (.bx [x,ot]),j,.q (nq A),i,m,o])/\(∀k∈q,k∈A)/\∀d∈l,∃R,Rd T y c d R/\∀k∈R,k∈A
 |[],q,f,_,_=>#v[q,f,J,λs h=>h,λd h=>by ext h]
 |d::l,q,f,hd,hl=>by
  let#v[R,r,w,z,p,hr,rd,hR,lr,ed,r1,r2,e]:=XZ (dk:=dk) g W Q (hd d aP);rw[aK]at hl;let#v[A,i,Y,S,h2]:=Px g W Q C E F G H I N O j m o l (q++r) (.q d) (λd h=>hd d (ba _ h)) (by rw[aG];omega);subst ed;let K:Sl->Sl->aU:=λP f=>[C,E,.q (wM T M dk y),F,G,H,I,N,O,.q (.bx [x,ot]),j,P,f,m,o];refine#v[A,i,(Ft (d:=.obj w z p) (ρ1:=K (.q (nq q)) (.q (.obj w z p))) (ρ2:=K (.q (nq (q++r))) (.q (.obj w z p))) J ?_).t Y,λk h=>S k (bO _ h),λX u=>?_]
  .delta rdB;calc(vL (XY (xs:=q.map fy) (ys:=r.map fy) (ρ1:=K (.q (nq q)) (.q (.obj w z p))) J (wQ (xs:=p) (ys:=[wM T M dk y,x,ot]) (ρ1:=K (.q (nq q)) (.q (.obj w z p))) J r1 r2 J e) (by rw[ak,ak];omega))).t ?_;rw[<-bg];rfl
  .rcases aD.1 u with e3|u
   .rw[e3];show#v[R,rd,λk hk=>S k (bU _ ((hR k).1 hk))]
   .show h2 X u
def acV(N:List Int)(hl:N.length<=63):YC [.M (N.map D.int)]=U (.bl γ):=by
 let#v[c0,e0]:=Pp N 0;let#v[c1,e1]:=Pp N 1;let#v[T,M,dk,y,Y,g,hy]:=Xo c0;have ew:=Uk g hy (Uq g);let sc:=D.M (N.map D.int);let W:=wM T M dk y;let sp:=wN T M dk y;let R:aU->aU:=λs=>.q sc::.q sp::.q W::s;have loop:∀(l:List Int) (s:aU),s.length=12->∃s',fu (gN 3) lB (l.map D.int) (R s)=U (.nx (R s')):=by
  intro l
  induction l with
  |nil=>show λs _=>#v[s,J]
  |cons c l ih=>
   intro s hs
   match s,hs with
   |[s3,s4,s5,E,O,s8,s9,i,z,u,o,m],_=>
   let#v[xs,ix,dx]:=Mq c 130 #[];let#v[A1,V1,P,S,i2,d1,p1,q1]:=YU g hy ix;let#v[A2,V2,xs3,xs4,i4,d2,p2,q2]:=YU g hy i2;let#v[F,f,H,i5,hc,ec]:=N8 (y:=y) g i4;let#v[it,ot,a,b,eg,gv]:=QR hc;let I:=K' A1 V1;let F2:=K' A2 V2;let G2:L4.D:=.bx [it,ot];let K:List L4.D->Sl->aU:=λY i=>R [.q (.int c),.I Y,.I [I,F2],.q (.int 1),.q (k3 A2),.q F,.q G2,i,z,u,o,m];let#v[r,xs6,i6,r0,r4,h1]:=tk (ρ:=K H i) (j:=4) (e:=cC (.int 4)) (n:=4) #[] i5 J J;let#v[w,C,i7,hds,ld,dd]:∃w C,IL C/\(∀d∈w,De T y F d)/\w.length<=4/\vT 1 [1,4,8] (v? (c2 wq aN (v8 vq 4 iX))) (gN 0) wG (xE yR 2 lI) (K H i)=U (w,K C i):=by
    have er:v? (c2 wq aN (v8 vq 4 iX)) (K H i)=U (Cp 0 (1+r).toNat,K xs6 i):=by have e0:c2 wq aN (v8 vq 4 iX) (K H i)=U (.int (1+r),K xs6 i):=vA (x:=.int 1) (y:=.int r) (ρ1:=K H i) J (h1.t J) J;delta v?;rw[e0];simp only;rw[af ()]
    have lr:(Cp 0 (1+r).toNat).length<=4:=by delta Cp;rw[ak,cG];omega
    let#v[w,B,e,#v[Y,he,rfl,hD],hl]:=Jl (k:=1) (eh:=[1,4,8]) (g:=gN 0) (fe:=xE yR 2 lI) (λdn ρ=>∃Y,IL Y/\ρ=K Y i/\∀d∈dn,De T y F d) (Cp 0 (1+r).toNat) [] (K xs6 i) #v[xs6,i6,J,λd h=>(by ext h)] λdn d ρ _ #v[Y,he,e,hD]=>by
     subst e;let#v[x,es',i',de,e]:=Uw g hy hc he;refine#v[[.q d,.q sp,.pm Y,.q F],x,[.q d,.q sp,.pm es',.q F],K es' i,J,?_,J,es',i',J,λd' hd'=>?_]
     .show(AY (ds:=[sp,.str f]) (ρ1:=[.q d,.q sp,.pm Y,.q F]) (vz J (vz (vv (ds:=[F]) J (Xx hc)) J)) J e).t J
     .rcases bC.1 hd' with h|h
      .show hD d' h
      .rw[aO.1 h];show de
    show#v[w,Y,he,hD,by omega,(AK er ()).t e]
   let#v[Q,t12,eQ,_,hQ]:=Px (dk:=dk) g hy gv (.q sc) (.q sp) (.q (.int c)) (.I C) (.I [I,F2]) (.q (.int 1)) (.q (k3 A2)) (.q F) (.q (.ax w)) o m w [] u hds (by rw[dA];omega);let#v[A3,V3,d3,ag,em]:=UO g hy d1 d2 Q;let#v[S1,w1,es1]:=YN g d1;let#v[S3,w3,es3]:=YN g d3;let F3:=K' A3 V3;have eal:=UX (dk:=dk) g hy gv hQ w1 w3 ag;let G:List L4.D->List L4.D->Sl->Sl->aU->aU:=λxs st E O s=>R (.q (.int c)::.I xs::.I st::E::O::s);let X:Sl->Sl->aU:=λo m=>R [.q (.int c),.I C,.q (.ax [I,F2]),.q (.int 1),.q (k3 A2),.q F,.q G2,.q (.ax w),.q (nq Q),t12,o,m];let At:aU:=X (.q F3) (.q (sD S1));let#v[s',q3]:=ih [.q (.int c),.I C,.q (.ax [I,F2]),.q (.int 1),.q (k3 A2),.q F,.q G2,.q (.ax w),.q (nq Q),t12,.q F3,.q (sD S1)] J;calc#v[s',?_];rw[aA];have tn:∀{xs0 P S:List L4.D} {A:List (Str×Str)} {V:List (Str×Int)} (st:List L4.D) (E O:Sl) (s:aU),st.length<1000->xu xs0 [sp]=U (k3 A,P)->yB P [sp]=U (m? V,S)->tB (G xs0 st E O s)=U (.nx (G S (st++[K' A V]) E (.q (k3 A)) s)):=λ{xs0 P S A V} st E O s hl p q=>by delta tB;calc(vp (ρ':=G P st E (.q (k3 A)) s) ((vL (AY (ds:=[sp]) (ρ1:=G xs0 st E O s) J J p)).t J)).t ?_;calc(wV (CC (es0:=st) (es:=st) (d:=K' A V) (ρ1:=G S st E (.q (k3 A)) s) J ?_ J hl)).t J;show zl (vz J (vz ((AY (ds:=[sp]) (ρ1:=G P st E (.q (k3 A)) s) J J q).t J) J)) (show 2<=1000 by decide)
   have ev:lB (R [.q (.int c),s4,s5,E,O,s8,s9,i,z,u,o,m])=U (.nx At):=by
    delta lB;calc(vp (ρ':=R [.q (.int c),.I xs,s5,E,O,s8,s9,i,z,u,o,m]) ((BK (vv (vz J (vz J J)) dx)).t J)).t ?_;calc(vp (ρ':=G xs [] E O [s8,s9,i,z,u,o,m]) J).t ?_;have t2:yx (v? ck) (gN 6) tB (G xs [] E O [s8,s9,i,z,u,o,m])=U (.nx (G xs4 [I,F2] (.q (.int 1)) (.q (k3 A2)) [s8,s9,i,z,u,o,m])):=by calc(wW (ds:=[.int 0,.int 1]) (ρ1:=G xs [] E O [s8,s9,i,z,u,o,m]) J).t ?_;calc(Ft (ρ1:=G xs [] (.q (.int 0)) O [s8,s9,i,z,u,o,m]) J (tn [] _ _ _ #[] p1 q1)).t ?_;show(Ft (ρ1:=G S [I] (.q (.int 1)) (.q (k3 A1)) [s8,s9,i,z,u,o,m]) J (tn [I] _ _ _ (show 1<1000 by decide) p2 q2)).t J
    calc(vp t2).t ?_;calc(vp (ρ':=G H [I,F2] (.q (.int 1)) (.q (k3 A2)) [.q F,s9,i,z,u,o,m]) ((vL (AY (ρ1:=G xs4 [I,F2] (.q (.int 1)) (.q (k3 A2)) [s8,s9,i,z,u,o,m]) J J ec)).t J)).t ?_;calc(vp (ρ':=K H i) ((vL (vv (ds:=[F]) J eg)).t J)).t ?_;calc(vp (ρ':=K C (.q (.ax w))) ((vL (wA dd)).t J)).t ?_;calc(vp (ρ':=R [.q (.int c),.I C,.I [I,F2],.q (.int 1),.q (k3 A2),.q F,.q G2,.q (.ax w),.q (nq []),u,o,m]) J).t ?_;calc(vp ((wW (ds:=w) (ρ1:=R [.q (.int c),.I C,.I [I,F2],.q (.int 1),.q (k3 A2),.q F,.q G2,.q (.ax w),.q (nq []),u,o,m]) J).t eQ)).t ?_;calc(vp (ρ':=X (.q F3) m) ((vL (vv (ds:=[sp,I,F2,nq Q]) (ρ1:=X o m) (vz J (vz (ρ1:=X o m) (d:=I) J (vz (ρ1:=X o m) (d:=F2) J (vz J J)))) em)).t J)).t ?_;calc(vp (ρ':=At) ((vL (vv (ds:=[k3 A1,m? V1]) (ρ1:=X (.q F3) m) J es1)).t J)).t ?_;show(v5 (ρ':=At) (Eo (b:=γ) (wt (vv (ds:=[W,.ax w,sD S1,sD S3,F,G2]) (ρ1:=At) (vz J (vz J (vz J (vz (vv (ds:=[k3 A3,m? V3]) (ρ1:=At) J es3) (vz J (vz J J)))))) eal)))).t J
   show(Ft (d:=.int c) (ρ1:=R [.q (.int c),s4,s5,E,O,s8,s9,i,z,u,o,m]) J ev).t q3
 let cs:List Int:=c1::(N.drop (HT.z3 N.length 0 (U 2))).take (HT.z3 N.length N.length (U 9) - HT.z3 N.length 0 (U 2));have ec:[D.int c1]++ij (N.map D.int) (U 2) (U 9)=cs.map D.int:=by delta ij;rw[ak,<- iA,<- iB];rfl
 have hc:(ij (N.map D.int) (U 2) (U 9)).length<=63:=by delta ij;rw[cf,dg,ak];omega
 let un:aU:=gK 12 .un;let#v[s',e]:=loop cs un J;calc vR (ρ:=R s') J ?_;calc(vp (ρ':=.q sc::.q sp::.un::un) ((vL (vv (vz (vv (vz J (vz J J)) e0) J) Y)).t J)).t ?_;calc(vp (ρ':=R un) ((vL (vv (vz J J) ew)).t J)).t ?_;calc(vp ((wW (ds:=cs.map D.int) (ρ1:=R un) ?_).t e)).t J;show(Ia (wA (yX (xs:=[.int c1]) (ys:=ij (N.map D.int) (U 2) (U 9)) (wA (BL (vz (vv (vz J (vz J J)) e1) J) (show 1<=1000 by decide))) J (by change 1+_<=1000;omega)))).t (by rw[ec])
end
end K28x
namespace K28x
open PySem L2 L3 L4
open PySem.W (nsIn)
structure Fx(K:ay)(C0 C1 C2 C3 C4 C5 C6 C7 C8 C9 C10 C11 C12 C13 C14 C15:Addr):Prop where
 a:Al (λx C=>nsIn K bN x=U (U (.ref C))) ["Thing", "Mark", "Verb", "At", "Has", "Seen", "Marked", "Kind", "Word", "Not", "Both", "Move", "Put", "Rule", "World", "Lit"] [C0,C1,C2,C3,C4,C5,C6,C7,C8,C9,C10,C11,C12,C13,C14,C15]
 k:Al (CF K) [C0,C1,C2,C3,C4,C5,C6,C7,C8,C9,C10,C11,C12,C13,C14,C15] [["kind", "name", "start", "words"],["most", "name", "start"],["form", "joining", "name", "others"],["place", "term"],["term"],["term"],["term", "value"],["kind", "term"],["word"],["inner"],[],["place", "term"],["term", "value"],["verb", "deeds", "refuses", "tests", "text"],["copied_rules", "kept_things", "kept_verbs", "mosts_by_name", "shared_rules", "shared_verbs", "things_by_name", "verbs_by_word", "your_name", "kept_dark", "kept_marks", "kept_rules", "kept_ways", "rules_by_verb"],[]]
 i:Al (λC j=>Ke K [C0,C1,C2,C3,C4,C5,C6,C7,C8,C9,C10,C11,C12,C13,C14,C15] C j=γ) [C1,C0] [1,0]
 nd:decide ([C0,C1,C2,C3,C4,C5,C6,C7,C8,C9,C10,C11,C12,C13,C14,C15]:List Addr).Nodup=γ
 kn:kN K=γ
 e:((["all", "any", "bool", "int", "isinstance", "len", "list", "range", "set", "sorted", "str", "tuple", "zip"]:aC).all λx=>match nsIn K bN x with|some Z=>γ|_=>δ)=γ
 g0:GS K "KINDS" ["room", "plain", "fixed", "box", "lamp", "you"]
 g1:GS K "KINDS_APART" ["room", "you"]
 g2:GS K "KINDS_THAT_HOLD" ["room", "box", "you"]
 g3:GS K "KINDS_WITH_MARK" ["box", "lamp"]
 g4:GC K "MOST_BESIDE" 7
 g5:GC K "MOST_IN_NAME" 8
 g6:GC K "MOST_IN_WORD" 12
 g7:GC K "MOST_MARKS" 4
 g8:GC K "MOST_OF_MARK" 3
 g9:GC K "MOST_ROOMS" 5
 g10:GC K "MOST_RULES" 20
 g11:GC K "MOST_VERBS" 6
 g12:GC K "MOST_WAYS" 10
 g13:GC K "MOST_WORDS" 4
 g14:GS K "NO_NAMES" ["it", "other", "here", "the", "a", "undo", "restart"]
 g15:GS K "NO_WORDS" ["the", "a"]
 g16:GS K "NO_WORDS_OF_ROWS" ["the", "a", "undo", "restart"]
 q17:GJ K C0 "Thing.__init__" (ef (top 59) 0) [V.cx]
 q18:GM K C1 "__init__" "Mark.__init__" (ef (top 60) 0)
 q19:GJ K C2 "Verb.__init__" (ef (top 61) 0) [V.cx,(V.str "one"),V.cx]
 q20:GM K C3 "__init__" "At.__init__" (ef (top 29) 0)
 q21:GM K C4 "__init__" "Has.__init__" (ef (top 30) 0)
 q22:GM K C6 "__init__" "Marked.__init__" (ef (top 32) 0)
 q23:GM K C7 "__init__" "Kind.__init__" (ef (top 33) 0)
 q24:GM K C8 "__init__" "Word.__init__" (ef (top 34) 0)
 q25:GM K C9 "__init__" "Not.__init__" (ef (top 36) 0)
 q26:GM K C11 "__init__" "Move.__init__" (ef (top 49) 0)
 q27:GM K C12 "__init__" "Put.__init__" (ef (top 50) 0)
 q28:GJ K C13 "Rule.__init__" (ef (top 104) 0) [(V.bl δ)]
 q29:GM K C0 "can_hold" "Thing.can_hold" (ef (top 59) 1)
 q30:GM K C0 "has_mark" "Thing.has_mark" (ef (top 59) 2)
 q31:GM K C0 "is_plainly" "Thing.is_plainly" (ef (top 59) 3)
 q32:GM K C14 "of_kind" "World.of_kind" (ef (top 139) 3)
 q33:GM K C14 "all_verbs" "World.all_verbs" (ef (top 139) 13)
 q34:GM K C14 "__init__" "World.__init__" (ef (top 139) 0)
 q35:GM K C14 "you" "World.you" (ef (top 139) 4)
 q36:GM K C14 "thing_of" "World.thing_of" (ef (top 139) 2)
 q37:GM K C14 "most_of" "World.most_of" (ef (top 139) 6)
 q38:GM K C11 "reads" "Move.reads" (ef (top 49) 2)
 q39:GM K C12 "reads" "Put.reads" (ef (top 50) 2)
 q40:GM K C11 "change" "Move.change" (ef (top 49) 3)
 q41:GM K C12 "change" "Put.change" (ef (top 50) 3)
 q42:GM K C14 "verb_of" "World.verb_of" (ef (top 139) 14)
 q43:GM K C11 "done" "Move.done" (ef (top 49) 1)
 q44:GM K C12 "done" "Put.done" (ef (top 50) 1)
 q0:Al (λx i=>GD K x (top i)) ["is_small_letters", "is_name", "is_word", "is_one_of", "is_whole", "is_list_up_to", "own_list", "refuse_unless", "count_of", "plain_ones", "is_mark", "check_things", "check_marks", "are_unlike", "check_names", "mark_names", "is_start", "comes_to_room", "check_starts", "are_words", "has_all", "is_told_apart", "check_words_of_things", "check_dark", "is_way", "check_ways", "check_verbs", "are_apart", "check_vocabulary", "check_parts", "does", "refuses"] [6,7,8,10,11,12,105,74,77,78,80,76,79,82,81,83,85,86,84,88,90,89,87,91,93,92,94,97,96,75,128,129]
 q1:Al (λx i=>GD K x (top i)) ["hand_rules", "put_rules", "lid_rules", "flame_rules", "way_tests", "go_rules", "wait_rules", "common_rules", "common_verbs", "by_name", "mosts_by_name", "verbs_by_word", "by_verb", "given", "at_parts", "mark_parts", "box_parts", "tidy", "can_go", "can_show", "value_of", "at_of", "holders_of", "room_of", "with_part", "is_of_way", "things_of", "meant", "_law_cell_at", "_law_draws", "_law_take", "_law_names"] [130,131,132,133,135,134,136,127,126,140,141,142,143,41,42,43,44,46,51,52,14,15,19,20,17,38,39,40,145,146,147,148]
 q2:Al (λx i=>GD K x (top i)) ["_law_others", "_law_spec", "_law_ways", "_law_world", "_law_of", "_law_mosts", "_law_places", "_law_marks", "_law_stand", "_law_command", "_law_form", "_law_place", "_law_marked", "_law_moved", "_law_put", "_law_given", "_law_has_ring", "_law_third", "_law_deed", "_law_but", "_law_value", "_law_alike", "law"] [149,150,151,152,153,154,155,156,157,158,159,160,161,162,163,164,165,166,167,168,169,170,171]
class Yx(B:Bz):Prop where
 y:Yw B.P B.w B.mg B.a8 B.G
 z:B.G.hs=tupleKeyHash (vG B.P B.w)
 f:Fx B.G.K (B.G.ca 0) (B.G.ca 1) (B.G.ca 2) (B.G.ca 3) (B.G.ca 4) (B.G.ca 5) (B.G.ca 6) (B.G.ca 7) (B.G.ca 8) (B.G.ca 9) (B.G.ca 10) (B.G.ca 11) (B.G.ca 12) (B.G.ca 13) (B.G.ca 14) (B.G.ca 15)
section
variable{B:Bz}[Y:Yx B]
instance:Yb B:=#v[Y.y]
instance:Hz B:=#v[Y.z,Y.f.kn]
#print "all 0;any 1;bool 2;int 3;isinstance 4;len 5;list 6;range 7;set 8;sorted 9;str 10;tuple 11;zip 12" in instance:Nb B "ϑ0" := #v[Y.y.n Y.f.e ϑ1 J]
#print "KINDS KB s 0;KINDS_APART DI s 1;KINDS_THAT_HOLD AQ s 2;KINDS_WITH_MARK AR s 3;MOST_BESIDE DJ i 4;MOST_IN_NAME CN i 5;MOST_IN_WORD CO i 6;MOST_MARKS BQ i 7;MOST_OF_MARK CP i 8;MOST_ROOMS EG i 9;MOST_RULES EI i 10;MOST_VERBS EH i 11;MOST_WAYS FV i 12;MOST_WORDS BR i 13;NO_NAMES HK s 14;NO_WORDS HL s 15;NO_WORDS_OF_ROWS Au s 16" in instance:Co B "ϑ0" ϑ1:=#v[Y.y.cϑ2 Y.f.gϑ3]
#print "zr copied_rules 14 0;Mc form 2 0;CK joining 2 1;Ck kept_things 14 1;CL kept_verbs 14 2" in instance:Ff B ϑ0 "ϑ1" := #v[AG ((Y.f.k.at ϑ2 J J:).at ϑ3 J)]
instance:Ff B wH "kind" := #v[χ (AG ((Y.f.k.at 0 J J:).at 0 J)) ((Y.f.k.at 7 J J:).at 0 J)]
#print "r  1 0;N s_by_name 14 3" in instance:Ff B Aϑ0 "mostϑ1" := #v[AG ((Y.f.k.at ϑ2 J J:).at ϑ3 J)]
instance:Ff B vY "name" := #v[χ (χ (AG ((Y.f.k.at 0 J J:).at 1 J)) ((Y.f.k.at 1 J J:).at 1 J)) ((Y.f.k.at 2 J J:).at 2 J)]
instance:Ff B DZ "others" := #v[AG ((Y.f.k.at 2 J J:).at 3 J)]
instance:Ff B xF "place" := #v[χ (AG ((Y.f.k.at 3 J J:).at 0 J)) ((Y.f.k.at 11 J J:).at 0 J)]
#print "zt rules 4;Bs verbs 5" in instance:Ff B ϑ0 "shared_ϑ1" := #v[AG ((Y.f.k.at 14 J J:).at ϑ2 J)]
instance:Ff B xk "start" := #v[χ (AG ((Y.f.k.at 0 J J:).at 2 J)) ((Y.f.k.at 1 J J:).at 2 J)]
instance:Ff B CM "term" := #v[χ (χ (χ (χ (χ (χ (AG ((Y.f.k.at 3 J J:).at 1 J)) ((Y.f.k.at 4 J J:).at 0 J)) ((Y.f.k.at 5 J J:).at 0 J)) ((Y.f.k.at 6 J J:).at 0 J)) ((Y.f.k.at 7 J J:).at 1 J)) ((Y.f.k.at 11 J J:).at 1 J)) ((Y.f.k.at 12 J J:).at 0 J)]
instance:Ff B As "things_by_name" := #v[AG ((Y.f.k.at 14 J J:).at 6 J)]
instance:Ff B Fk "value" := #v[χ (AG ((Y.f.k.at 6 J J:).at 1 J)) ((Y.f.k.at 12 J J:).at 1 J)]
#print "Me verb 13 0;AO verbs_by_word 14 7;xT words 0 3;zC your_name 14 8" in instance:Ff B ϑ0 "ϑ1" := #v[AG ((Y.f.k.at ϑ2 J J:).at ϑ3 J)]
instance:Af B 0 ["kind", "name", "start", "words"]:=#v[(Y.f.k.at 0 J J:)]
instance:Af B 1 ["most", "name", "start"]:=#v[(Y.f.k.at 1 J J:)]
instance:Af B 2 ["form", "joining", "name", "others"]:=#v[(Y.f.k.at 2 J J:)]
instance:Af B 3 ["place", "term"]:=#v[(Y.f.k.at 3 J J:)]
instance:Af B 4 ["term"]:=#v[(Y.f.k.at 4 J J:)]
#print "6 term value;7 kind term" in instance:Af B ϑ0 ["ϑ1", "ϑ2"]:=#v[(Y.f.k.at ϑ0 J J:)]
#print "8 word;9 inner" in instance:Af B ϑ0 ["ϑ1"]:=#v[(Y.f.k.at ϑ0 J J:)]
#print "11 place term;12 term value" in instance:Af B ϑ0 ["ϑ1", "ϑ2"]:=#v[(Y.f.k.at ϑ0 J J:)]
instance:Af B 13 ["verb", "deeds", "refuses", "tests", "text"]:=#v[(Y.f.k.at 13 J J:)]
instance:Af B 14 ["copied_rules", "kept_things", "kept_verbs", "mosts_by_name", "shared_rules", "shared_verbs", "things_by_name", "verbs_by_word", "your_name", "kept_dark", "kept_marks", "kept_rules", "kept_ways", "rules_by_verb"]:=#v[(Y.f.k.at 14 J J:)]
def YV:∀k,k<16->Na B.G.K (B.G.ca k):=Ti.at (n:=16) #v[(Y.f.k.at 0 J J:).ci,(Y.f.k.at 1 J J:).ci,(Y.f.k.at 2 J J:).ci,(Y.f.k.at 3 J J:).ci,(Y.f.k.at 4 J J:).ci,(Y.f.k.at 5 J J:).ci,(Y.f.k.at 6 J J:).ci,(Y.f.k.at 7 J J:).ci,(Y.f.k.at 8 J J:).ci,(Y.f.k.at 9 J J:).ci,(Y.f.k.at 10 J J:).ci,(Y.f.k.at 11 J J:).ci,(Y.f.k.at 12 J J:).ci,(Y.f.k.at 13 J J:).ci,(Y.f.k.at 14 J J:).ci,(Y.f.k.at 15 J J:).ci,trivial]
#print "Mark TZ 1 0;Thing Pa 0 1" in instance:Ic B "ϑ0" ϑ1:=#v[ϑ2,Jx (Y.f.i.at ϑ3 J J:) J (WX 16 _) YV,Y.y.g (Y.f.a.at ϑ2 J J:)]
instance:Ij B 16:=#v[injR Y.f.nd]
theorem eqL{A:Type}{l:List A}{n:Nat}(h:l.length=n):l.length=n:=h
theorem eqE{e:PySem.Expr}{v:PySem.Env}{r:PySem.Sem PySem.Value}(h:PySem.eval e v=r):PySem.eval e v=r:=h
local macro_rules|`(tactic|trivial)=>do let x:=("zr_mS zr_mP zr_mF zr_mI aen aec aeb aed aee Tg aei aaX abD aef aaV abJ abC aaG aaH abE abG aby aa1 abq aa4 abK aaN aaO aaP aaQ aaK abH aej abL aaL aaZ abN abP abF ab0 aaY aaW aaU aaF aba abb aeg abR aaS aaT aaR aek ael abh aaI aaJ abi aaM abX abY abZ abO abQ abS aeh aa2 aa3 abT abU abj aa5 aa6 abn abo abp abV abW WV WU WW abr abt abu abv aa9 abw abc abd abe abf acp abg ab4 abm abl abk aa0 ace abA abB WT abM acd aa8 acm ab5 aa7 ab2 ab3 WS ab1 abI".splitOn " ").toArray.map fun s=>Lean.mkIdent (.mkSimple s);`(tactic|repeat' first|(with_reducible intro _)|((with_reducible first|apply eqL|apply eqE);rfl)|kernel_rfl|((with_reducible first|apply abz|apply zr_cpM);rotate_left 7;rfl)|(with_reducible first $[|apply $x]*)|show rg)
#print "1 is_small_letters yL 0;2 is_name Do 1;2 is_word yO 2;1 is_one_of wJ 3;1 is_whole D1 4;1 is_list_up_to xl 5;1 own_list D2 6" in instance:Df B ϑ0 "ϑ1" (gp B.G ϑ2):=ia J (Y.f.q0.at ϑ3 J J:) J (by trivial)
instance:Kf B 1 "Thing" 0 EK []:=gJ4 (dds:=[D.cx]) (Y.f.k.at 0 J J:) (Y.f.a.at 0 J J:) J Y.f.q17 J J (by delta EJ;trivial) 1
instance:Kf B 1 "Mark" 1 FW []:=gI4 (Y.f.k.at 1 J J:) (Y.f.a.at 1 J J:) J Y.f.q18 J J (by trivial)
def Cf:π B (M? (ef (top 61) 0)) "Verb.__init__" (ef (top 61) 0) (wb (ef (top 61) 0)) 0 CQ:=by
 delta CQ;refine Tg ?_ ?_
 all_goals trivial
instance:Kf B 1 "Verb" 2 yj [D.cx,(D.str "one"),D.cx]:=gJ4 (dds:=[D.cx,(D.str "one"),D.cx]) (Y.f.k.at 2 J J:) (Y.f.a.at 2 J J:) J Y.f.q19 J J Cf 0
instance:Kf B 1 "Verb" 2 yj [D.cx]:=gJ4 (dds:=[D.cx,(D.str "one"),D.cx]) (Y.f.k.at 2 J J:) (Y.f.a.at 2 J J:) J Y.f.q19 J J Cf 2
instance:Kf B 1 "Verb" 2 yj []:=gJ4 (dds:=[D.cx,(D.str "one"),D.cx]) (Y.f.k.at 2 J J:) (Y.f.a.at 2 J J:) J Y.f.q19 J J Cf 3
#print "At 3 Fl 0;Has 4 D3 1;Marked 6 xt 2;Kind 7 yk 3;Word 8 FX 4;Not 9 ym 5;Move 11 yP 6;Put 12 zu 7" in instance:Kf B 1 "ϑ0" ϑ1 ϑ2 []:=gI4 (Y.f.k.at ϑ1 J J:) (Y.f.a.at ϑ1 J J:) J Y.f.q2ϑ3 J J (by trivial)
instance:Kf B 2 "Rule" 13 CS []:=gJ4 (dds:=[(D.bl δ)]) (Y.f.k.at 13 J J:) (Y.f.a.at 13 J J:) J Y.f.q28 J J (by delta FY;trivial) 1
#print "can_hold wU 29;has_mark xG 30;is_plainly zv 31" in instance:Mf B 9 "ϑ0" ϑ1:=#v[λc h e=>by
 delta ϑ1 at e;split at e
 .ext e;show T1 (k:=8) (Y.f.k.at 0 J J:) J Y.f.qϑ2 J (by trivial)
 .ext e]
#print "1 refuse_unless gp vJ ia 7;1 count_of gp BS ia 8;10 plain_ones vf y6 T? 9" in instance:Df B ϑ0 "ϑ1" (ϑ2 B.G ϑ3):=ϑ4 J (Y.f.q0.at ϑ5 J J:) J (by trivial)
#print "2 is_mark Fn 10 Fm;11 check_things Ax 11 Aw;3 check_marks A7 12 A6" in instance:Df B ϑ0 "ϑ1" (gp B.G ϑ2):=ia J (Y.f.q0.at ϑ3 J J:) J (by delta ϑ4;trivial)
#print "1 are_unlike gp xa ia 13;3 check_names gp A8 ia 14;10 mark_names vf BU T? 15" in instance:Df B ϑ0 "ϑ1" (ϑ2 B.G ϑ3):=ϑ4 J (Y.f.q0.at ϑ5 J J:) J (by trivial)
instance:Df B 10 "is_start" (gp B.G D5):=ia J (Y.f.q0.at 16 J J:) J (by delta D4;trivial)
instance:Df B 1 "comes_to_room" (gp B.G zQ):=ia J (Y.f.q0.at 17 J J:) J (by trivial)
instance:Df B 11 "check_starts" (gp B.G Ay):=gF5 ["things", "starts", "thing"] J (Y.f.q0.at 18 J J:) J (by trivial)
#print "3 are_words CT 19;1 has_all Dp 20;2 is_told_apart zR 21;11 check_words_of_things xH 22" in instance:Df B ϑ0 "ϑ1" (gp B.G ϑ2):=ia J (Y.f.q0.at ϑ3 J J:) J (by trivial)
instance:Df B 2 "check_dark" (gp B.G BW):=ia J (Y.f.q0.at 23 J J:) J (by delta BV;trivial)
instance:Df B 3 "is_way" (gp B.G HM):=ia J (Y.f.q0.at 24 J J:) J (by trivial)
instance:Df B 4 "check_ways" (gp B.G BY):=ia J (Y.f.q0.at 25 J J:) J (by delta BX;trivial)
#print "2 check_verbs gp DK ia 0 26;1 are_apart gp zL ia 0 27;11 check_vocabulary gp yM ia 0 28;12 check_parts gp A9 ia 0 29;4 does gp Ba ia 0 30;4 refuses gp wI ia 0 31;5 hand_rules vf EL T? 1 0;5 put_rules vf FZ T? 1 1;5 lid_rules vf F0 T? 1 2;5 flame_rules vf DL T? 1 3;3 way_tests vf F4 T? 1 4;5 go_rules vf HN T? 1 5" in instance:Df B ϑ0 "ϑ1" (ϑ2 B.G ϑ3):=ϑ4 J (Y.f.qϑ5.at ϑ6 J J:) J (by trivial)
#print "5 wait_rules vf EM T? 6;6 common_rules vf yn T? 7;3 common_verbs vf y7 T? 8;1 by_name gp Fo ia 9;10 mosts_by_name gp xP ia 10;1 verbs_by_word gp xQ ia 11" in instance:Df B ϑ0 "ϑ1" (ϑ2 B.G ϑ3):=ϑ4 J (Y.f.q1.at ϑ5 J J:) J (by trivial)
instance:Df B 1 "by_verb" (gp B.G Bv):=ia J (Y.f.q1.at 12 J J:) J (by delta JC;calc#v[Qw (stW (by kernel_rfl) Cr J) (MO rg J (Lu (Lk B.G.K (M8 (L' (by kernel_rfl))))) (pgI (by kernel_rfl)) (Ea (Od (RD B.G.K jt ml ql E2 (SF (L' (by kernel_rfl)) (RR (M8 (L' (by kernel_rfl))) (Ff.p (B:=B))) (MX zO) #v[J,J,J,J]) (xf (L' (by kernel_rfl)) zO))))) (ML (PE.ghost (L' (by kernel_rfl))))])
#print "of_kind wB 2;all_verbs yH 3" in instance:Mf B 9 "ϑ0" ϑ1:=#v[λc h e=>by
 delta ϑ1 at e;split at e
 .ext e;show T1 (k:=8) (Y.f.k.at 14 J J:) J Y.f.q3ϑ2 J (by trivial)
 .ext e]
instance:Kf B 13 "World" 14 zZ []:=gI4 (Y.f.k.at 14 J J:) (Y.f.a.at 14 J J:) J Y.f.q34 J J (by delta zY;trivial)
#print "you Bw 5;thing_of y8 6;most_of xU 7" in instance:Mf B 9 "ϑ0" ϑ1:=#v[λc h e=>by
 delta ϑ1 at e;split at e
 .ext e;show T1 (k:=8) (Y.f.k.at 14 J J:) J Y.f.q3ϑ2 J (by trivial)
 .ext e]
instance:Df B 1 "given" (gp B.G yJ):=ia J (Y.f.q1.at 13 J J:) J (by delta KC;trivial)
#print "10 at_parts zx 14;10 mark_parts yz 15;10 box_parts AU 16;1 tidy NO 17" in instance:Df B ϑ0 "ϑ1" (gp B.G ϑ2):=ia J (Y.f.q1.at ϑ3 J J:) J (by trivial)
instance:Df B 11 "can_go" (gp B.G zM):=ia J (Y.f.q1.at 18 J J:) J (by delta HP;trivial)
instance:Df B 11 "can_show" (gp B.G xM):=ia J (Y.f.q1.at 19 J J:) J (by trivial)
instance:Mf B 14 "reads" yQ:=#v[λc h e=>by
 delta yQ at e;split at e
 .ext e;show T1 (k:=13) (Y.f.k.at 11 J J:) J Y.f.q38 J (by delta BZ;trivial)
 .ext e;show T1 (k:=13) (Y.f.k.at 12 J J:) J Y.f.q39 J (by trivial)
 .ext e]
instance:Mf B 14 "change" yA:=#v[λc h e=>by
 delta yA at e;split at e
 .ext e;show T1 (k:=13) (Y.f.k.at 11 J J:) J Y.f.q40 J (by delta Bb;trivial)
 .ext e;show T1 (k:=13) (Y.f.k.at 12 J J:) J Y.f.q41 J (by delta B3;trivial)
 .ext e]
#print "1 value_of gp B5 ia 20;2 at_of gp y9 ia 21;3 holders_of vf za T? 22;10 room_of gp Fp ia 23;1 with_part gp AV ia 24" in instance:Df B ϑ0 "ϑ1" (ϑ2 B.G ϑ3):=ϑ4 J (Y.f.q1.at ϑ5 J J:) J (by trivial)
instance:Mf B 9 "verb_of" Bc:=#v[λc h e=>by
 delta Bc at e;split at e
 .ext e;show T1 (k:=8) (Y.f.k.at 14 J J:) J Y.f.q42 J (by trivial)
 .ext e]
#print "10 is_of_way F6 25;11 things_of yp 26;12 meant xC 27" in instance:Df B ϑ0 "ϑ1" (gp B.G ϑ2):=ia J (Y.f.q1.at ϑ3 J J:) J (by trivial)
instance:Mf B 14 "done" xc:=#v[λc h e=>by
 delta xc at e;split at e
 .ext e;show T1 (k:=13) (Y.f.k.at 11 J J:) J Y.f.q43 J (by delta AW;trivial)
 .ext e;show T1 (k:=13) (Y.f.k.at 12 J J:) J Y.f.q44 J (by delta B6;trivial)
 .ext e]
#print "cell_at gp b ia 28;draws vf c T? 29" in instance:Df B 1 "_law_ϑ0" (ϑ1 B.G zϑ2):=ϑ3 J (Y.f.q1.at ϑ4 J J:) J (by trivial)
#print "1 take vq 30 F7;2 names B8 31 EN" in instance:Df B ϑ0 "_law_ϑ1" (spM B.G ϑ2):=gM4 J (Y.f.q1.at ϑ3 J J:) J J (by delta ϑ4;trivial)
instance:Df B 2 "_law_others" (t6 B.G xV):=gL4 J (Y.f.q2.at 0 J J:) J (by delta Bd;trivial)
#print "3 spec gp CV ia 1;1 ways vf CW T? 2;15 world gp B9 ia 3;1 of vf wF T? 4" in instance:Df B ϑ0 "_law_ϑ1" (ϑ2 B.G ϑ3):=ϑ4 J (Y.f.q2.at ϑ5 J J:) J (by trivial)
#print "2 mosts gp xN ia 5 Ca;2 places t6 xu gL4 6 Be;3 marks t6 yB gL4 7 Cb" in instance:Df B ϑ0 "_law_ϑ1" (ϑ2 B.G ϑ3):=ϑ4 J (Y.f.q2.at ϑ5 J J:) J (by delta ϑ6;trivial)
instance:Df B 1 "_law_stand" (gp B.G yC):=ia J (Y.f.q2.at 8 J J:) J (by trivial)
instance:Df B 2 "_law_command" (t6 B.G yq):=gL4 J (Y.f.q2.at 9 J J:) J (by delta zd;trivial)
instance:Df B 1 "_law_form" (gp B.G CY):=ia J (Y.f.q2.at 10 J J:) J (by trivial)
#print "2 place z7 11 Cc;3 marked zG 12 zF;3 moved xO 13 z8;4 put zz 14 zy" in instance:Df B ϑ0 "_law_ϑ1" (t6 B.G ϑ2):=gL4 J (Y.f.q2.at ϑ3 J J:) J (by delta ϑ4;trivial)
#print "1 given z9 15;2 has_ring xS 16;3 third yD 17" in instance:Df B ϑ0 "_law_ϑ1" (gp B.G ϑ2):=ia J (Y.f.q2.at ϑ3 J J:) J (by trivial)
instance:Df B 5 "_law_deed" (t6 B.G yR):=gL4 J (Y.f.q2.at 18 J J:) J (by delta AX;trivial)
#print "1 but wX 19;1 value xb 20;15 alike Aa 21" in instance:Df B ϑ0 "_law_ϑ1" (gp B.G ϑ2):=ia J (Y.f.q2.at ϑ3 J J:) J (by trivial)
def UY:π B (M? (top 171)) "law" (top 171) (wb (top 171)) 15 T2:=by
 delta T2;refine Tg ?_ ?_
 all_goals trivial
end
end K28x
namespace K28x
open PySem L2 L3 L4
def Py(K:ay):Sp:=λd H Q z=>∃(a:Addr) (b:List Int),d=[.ref a]/\gi K H a (b.map V.int)/\b.length<=63/\∀c,Q (.bl γ) c
theorem JK{G:Bg}{H:Hp}:∀a:List Int,bc G H (a.map D.int) (a.map V.int)
 |[]=>vV
 |n::a=>vS (xW n) (JK a)
def X0{G:Bg}:∀c H Q E,Py G.K c H Q E->gp G YC c H Q E:=λc H Q E h=>by let#v[a,b,rfl,i,f,k]:=h;calc#v[H,[.M (b.map D.int)],.bl γ,vF.refl _,vS (by delta L4.df;show#v[a,_,J,i,JK b]) vV,acV b f,λv e d z z z z r=>?_];delta L4.df at r;subst r;show k d
section
variable{K:ay}{x m q:Str}{st:Stmt}{f C:Addr}{oc:aa}{od:Option Addr}{kV doc pm:aa}{an:Option Addr}{cdv ct:aa}{osl:Array (Option aa)}
def UZ(lk:K.lookup f=U #v[oc,od,.func (fJ x q (yU st) (wb st) (vP st) .none kV doc pm an cdv ct),osl])(b:iH K cdv q=γ)(c:dS K (.ref f)=γ):∃a,W? K x q st f a:=#v[_,#v[_,_,_,_,_,_,_,_,_,J,lk,b],c]
def gd_mk(h:jP K bN x=U (U (.ref f)))(lk:K.lookup f=U #v[oc,od,.func (fJ x x (yU st) (wb st) (vP st) .none kV doc pm an cdv ct),osl])(a:iH K cdv x=γ)(b:dS K (.ref f)=γ):GD K x st:=#v[f,(UZ lk a b).imp λz F=>#v[h,F]]
def gm_mk(h:dB K (.ref C) m=U (U (.ref f)))(b:lj K (.ref f)=γ)(lk:K.lookup f=U #v[oc,od,.func (fJ m q (yU st) (wb st) (vP st) .none kV doc pm an cdv ct),osl])(a:iH K cdv q=γ)(c:dS K (.ref f)=γ):GM K C m q st:=#v[f,(UZ lk a c).imp λz F=>#v[h,b,F]]
end
theorem all_mk{l:iI}{w:aQ}{K:ay}{h:Heap}{p:Str->Option aa}{M:Addr}(X:K.In h)(I:h.Ns bN p)(hfa:p "law" = U (.ref M)){q r t u x y z A C E b d i j m o:Addr}(F:Fx K q r t u x y z A C E b d i j m o):
  ∃H:cD,(∀(s:aq) (v:aa),iM s H #v[[v],[]] [("_law_script", v)])/\∀a8:Heap,K.In a8->a8.Ns bN p->zh l.prog w K p a8 Dv 16 M H ["_law_script"] (Py K):=by
 have ma:∃B:Bg,B.K=K/\B.ca 0=q/\B.ca 1=r/\B.ca 2=t/\B.ca 3=u/\B.ca 4=x/\B.ca 5=y/\B.ca 6=z/\B.ca 7=A/\B.ca 8=C/\B.ca 9=E/\B.ca 10=b/\B.ca 11=d/\B.ca 12=i/\B.ca 13=j/\B.ca 14=m/\B.ca 15=o/\B.hs=tupleKeyHash (vG l.prog w):=#v[#v[K,λc=>[q,r,t,u,x,y,z,A,C,E,b,d,i,j,m,o].getD c 0,_],J,J,J,J,J,J,J,J,J,J,J,J,J,J,J,J,J,J];let#v[B,rfl,rfl,rfl,rfl,rfl,rfl,rfl,rfl,rfl,rfl,rfl,rfl,rfl,rfl,rfl,rfl,rfl,P]:=ma;have O:∀a8,Yx #v[l.prog,w,p,a8,B]:=λa8=>#v[#v[h,X,I],P,F];let#v[f,H,a,FF]:=F.q2.at 22 J J;have e:=hfa.symm.t (lh X I a);ext e;let#v[T,W,kV,doc,Y,Q,cdv,R,osl,rfl,lk,hcd]:=FF.ex;show#v[_,λs v=>.of_eq J,λa8 k k=>(Sg J J J FF (w? (N:=M? (top 171)) (ps:=["_law_script"]) (np:=1) (n:=15) (by kernel_rfl)).1 ((@UY _ (O a8)).ok J _)).imp (X0 (G:=B))]
def walk{l:iI}{q:bb}{loose:aC}{XP:(Str->Option aa)->Heap->Prop}{YP:aQ->Heap->Prop}{d:DefRec}{K:Params->ay}(j:l.most=U 63)(hdf:d.params.defaults=[])
  (hY:∀(w:aQ) (h:Heap),YP w h->(K w.params).In h)
  (F:∀(w:aQ) (b:Str->Option aa) (c:Addr) (h:Heap),(K w.params).In h->h.Ns bN b->b d.name=U (.ref c)->
   ∃e:cD,(∀(s:aq) (u:aa),iM s e #v[[u],[]] [("_law_script", u)])/\∀a8:Heap,(K w.params).In a8->a8.Ns bN b->zh l.prog w (K w.params) b a8 Dv 16 c e ["_law_script"] (Py (K w.params))):
  W.WalkO q loose XP YP l.row.toRowW d [] (λf o=>oo f o):=
 L2.Vt (n:=63) (k:=16) (x:="_law_script") (CX:=λt=>Dv) (sp:=λw=>Py (K w.params)) j #[] hdf #v[J,by decide,by decide] hY F (λt t a m i t hS=>#v[a,m,J,hS,i,λt=>J]) λt t t t t z=>z
end K28x
end
set_option maxHeartbeats 0
set_option maxRecDepth 100000
open PySem PySem.W PyProof.Rows
set_option h true
theorem PySem.Challenge.cw_tellworld_k28_whole_deeds_hang_on_their_holds : PySem.Challenge.rw_tellworld_k28_whole_deeds_hang_on_their.Holds := by
 refine hd ?_
 k_fill
 refine K28x.walk (l:=PySem.Challenge.rw_tellworld_k28_whole_deeds_hang_on_their) rfl rfl (λw h Y=>Y) ?F
 case F=>
  intro w mg fa h KX G hmg;refine' K28x.all_mk KX G hmg ?Q
  case Q=>
   constructor
   all_goals repeat' first|exact L4.Al.nil|apply L4.Al.cons
   all_goals as_aux_lemma=>first
   |k_is
   |kernel_rfl
   |exact⟨⟨⟨by k_is,by k_is,by k_is,by k_is⟩,by k_is,by k_is,by k_is,by k_is⟩,by k_is,by k_is,by kernel_rfl⟩
   |exact⟨_,by k_is⟩
   |exact K28x.gd_mk (by k_is) (by k_is) (by k_is) (by k_is)
   |exact K28x.gm_mk (by k_is) (by k_is) (by k_is) (by k_is) (by k_is)
   |exact⟨_,_,_,_,by k_is,by k_is,by rfl,by rfl,by simp,by repeat' first|exact .nil|exact .cons rfl .nil|refine .cons rfl ?_⟩
   |exact⟨_,_,_,_,[_],_,by k_is,by k_is,⟨⟨_,_,_,_,_,_,_,_,_,rfl,by k_is,by k_is⟩,by k_is⟩,by k_is,by rfl,.cons (by first|rfl|exact⟨_,rfl⟩) .nil⟩
   |exact⟨_,_,_,_,[_,_,_],_,by k_is,by k_is,⟨⟨_,_,_,_,_,_,_,_,_,rfl,by k_is,by k_is⟩,by k_is⟩,by k_is,by rfl,.cons (by first|rfl|exact⟨_,rfl⟩) (.cons (by first|rfl|exact⟨_,rfl⟩) (.cons (by first|rfl|exact⟨_,rfl⟩) .nil))⟩
end
