import PyProof.Rows.All
import Open.Pieces
import OpenK.KLine
import PySem.Challenge.RW_tellworld_k32_what_is_no_command
import PyProof.EqAt
import PyProof.EqKinds
import PyProof.TupleCall
import PyProof.StrWalks
import PyProof.ConsumeWalk
import PyProof.NeKinds
import PyProof.Rows.SetFrom
import KE.KIsAll
import PyProof.WalksMore
import PyProof.TupleKey
import PyProof.DictWalks
import PyProof.Rows.ZipGen
import KE.KDictLaws
import PyProof.DictItems
import KE.KSortTup
import PyProof.TupleOfSeq
import PyProof.Rows.SortStr
import PyProof.Rows.StrInSeq3
import PyProof.TupleIter
import KE.KDictOf
import PyProof.CollectWalk
import PyProof.Rows.SeqMore
import PyProof.IsiH_tuple
import PyProof.AttrMiss
import PyProof.Rows.Tup
import PyProof.WalksS
import PyProof.DictRoadsH
import PyProof.EnumIter
import PyProof.EnumFor
import PyProof.EnumMake
import PyProof.EnumStmt
set_option genSizeOf false
local macro_rules (kind:=Lean.Parser.Command.declaration)|s=>do
 if s.getPos?.isNone||s[1][1][0].getId.getRoot== `PySem then Lean.Macro.throwUnsupported
 let s:=s.rewriteBottomUp (·.setInfo .none)
 if s[1].getKind∈[``Lean.Parser.Command.definition,``Lean.Parser.Command.abbrev,``Lean.Parser.Command.instance]&&s[0][4].isNone then
  return s.setArg 0 (s[0].setArg 4 (Lean.mkNullNode #[Lean.Syntax.node .none ``Lean.Parser.Command.noncomputable #[Lean.mkAtom "noncomputable"]]))
 return s
set_option compiler.extract_closed false
noncomputable section
open Option renaming some->U,none->O
open Bool renaming true->γ,false->δ
def Z{b:Sort _}{a:b}:a=a:=rfl
open List renaming length_map->ah,mem_map->av,length_append->aF,getElem?_eq_getElem->bg,mem_cons_of_mem->ba,all_eq_true->aR,length_cons->aS,mem_append->aO,mem_cons_self->bb,mem_cons->aJ,mem_filter->aT,size_toArray->bc,mem_singleton->bh,mem_append_right->bC,map_cons->aU,getElem?_eq_some_iff->bR,getElem?_map->bA,mem_append_left->bK,map_append->bu,map_map->bf,mem_of_getElem?->b8,range->aZ,length_filter_le->cH,append_nil->bO,getD_eq_getElem?_getD->c6,length_take->bU,mem_map_of_mem->cB,getElem?_set->cc,nodup_append->cg,length_range->cj,mem_range->bP,append_assoc->cp,not_mem_nil->ck,replicate->b9,length_replicate->c7,length_singleton->dh,nil_append->cI,getElem?_append_right->fM,mem_flatMap->dq,getElem?_set_ne->eh,getElem?_append_left->fN,filterMap_cons->eB,mem_filterMap->eC,nodup_cons->dH,length_set->dJ,length->cQ,getElem?_drop->eZ,zip_cons_cons->fj,getElem?_set_self->gx,flatMap_cons->fq,replicate_succ->fO,getElem?_eq_none->gz,length_drop->fw,lookup_cons->fz,any_eq_true->fA,find?_cons->fB,zipWith_cons_cons->ig,take_of_length_le->ik,lookup->dP,getElem_mem->fR,drop_eq_getElem_cons->jl,flatten_cons->gB,mem_of_mem_take->ip,mergeSort_perm->ir,getElem?_replicate->jo,length_eq_zero_iff->jq,filter_cons->gE,pairwise_mergeSort->jr,map->cZ,map_nil->fH,length_pos_of_mem->js,length_nil->gH,any_cons->fX,getElem?_toArray->jt,take_sublist->ix,perm_append_singleton->kF,zipWith->f9,all_cons->gS,foldl_cons->iF,length_zip->iG,filter_cons_of_pos->kO,take_add_one->jD,contains_iff_mem->kP,zip_map'->iK,map_take->iM,mem_iff_getElem->kQ,map_id->gW,of_mem_zip->jJ,getElem?_range->kW,length_zipWith->kX,getElem_of_mem->kY,filter_sublist->kZ,map_congr_left->la,ext_getElem?->lp,length_erase_of_mem->nL,getElem_inj->lA,filter_cons_of_neg->nO,cons_append->lG,drop_eq_nil_of_le->nR,zip_append->lS,filterMap_append->nX,take_append_drop->n5,nodup_nil->l5,mem_of_mem_drop->oa,mem_erase_of_ne->og,length_eraseIdx->oh,filter_eq_self->oE,length_pos_iff->oF,map_eq_nil_iff->oG,map_drop->mf,contains_cons->oN,find?_eq_none->oU,map_filterMap->oV,any_eq_false->oX,foldl_append->o5,pairwise_map->o6,nodup_range->pG,append_cons->pI,find?_some->pS,range_succ->pT,foldl->mS,drop_zero->qj,drop_nil->qr,all_map->qA,set_set->qG,rec->qY
open PySem renaming wpAny_bind->ag,Value->aa,Shared->af,wpAny_pure->au,starEach->ay,wpAny->ao,mainGlobals->aQ,sizeLine->aC,Program->aB,wpAny_holding->bL,Around->aG,World->az,Spec->ue,compareOp->bB,sizeLine_eq->bV,wpAny_mono->bQ,wpAny_setState_of->dj,wpAny_Call_Name_kw->dD,SetTable->bG,wpAny_truthy_bool->dE,assignEach->cu,wpAny_newObj_type->dX,codeAny_builtin->dM,FuncData->bS,swapsWith->cw,backTo->bE,bootBuiltins->dN,wpAny_pyIter_list->fP,strKind->eJ,wpAny_call_entry->fS,sysModules->du,codeAny->cy,wpAny_execs_nil->fU,wpAny_passesOwn->fV,binaryOp->cR,keywordEach->d6,attributeBase->fF,mem_of_lookup->iq,codeAny_mono->fG,wpAny_specialOf->gL,behindInMarks->fW,plainId_quiet->fY,foldedSetIterable->iw,ofAClassStatement->iz,codeAny_call_builtin->jv,wpAny_setField->gQ,Builtin->dQ,filterMap_getElem?_range->kJ,letOwnedTupleGo->iC,tupleKind_room_in1->jz,NameKind->d7,call_meetsIn->gU,wpAny_Call_method->jB,wpAny_storeSet_of->jG,wpAny_execs_cons->jI,wpAny_call->gb,Scope->cJ,isSubtype_type->jL,wpAny_rule->gX,wpAny_standAt->jM,GenState->gm,wpAny_callSpecial?_slot->nN,wpAny_forIn_list->lC,wpAny_askSetting->lD,Paired->gY,wpAny_pyNext_list_item->nP,wpAny_typeOf->jO,Keyword->fJ,call_meets->iV,wpAny_updateSeq->lX,wpAny_isTrue_Compare1->nU,wpAny_pyNext_list_end->nV,wpAny_eqIsQuiet_tuple->nW,builtinLookup_eq_fast->nY,Result->eL,carriedByValue->lY,wpAny_seqItems->lZ,typeIs_none->jS,wpAny_newList->md,wpAny_attempt->mi,wpAny_pyIter_tuple->oJ,IsPart->fK,Within->mj,BindsTo->hJ,seqIndex_neg->mB,slot_list_getitem->oZ,wpAny_pyIter_slot->pb,fits_of_scanBound->pd,wpAny_setEpoch_of->pe,wpAny_pyHash_str->pq,PassesOwn->jW,noFill_tuple_add->pz,wpAny_isInstance->pH,wpAny_field->mH,seqIndex_of->mI,codeAny_of_tree->pM,typeLookup_type->pV,wpAny_Name->mM,wpAny_Expr_any->pZ,wpAny_loadPart->p6,typeIs_int->mQ,PlainAttrs->mR,meets_dict_get->qa,call->mT,wpAny_runValue->qb,boot_len->qc,wpAny_newTuple->qd,entryFor_alias->qh,KeyKind->ql,intBits_le_64->qm,seq_tuple_add->qo,evalPart_none->qp,call_list_seq->qq,signature?_of->qv,Model->i3
open PySem.Heap renaming get?_push_of_some->aK,get?_push_size->bp,lt_size->aP,size_push->c9,get?_update_self->eX,get?_update_other->gy,SameBut->dO,MadeExcOf->qk,FlyingW->qF,ExtBut->qT
open Bool renaming and_eq_true->aV,false_ne_true->bw,false_eq_true->eE,eq_iff_iff->dG,not_eq_true'->eG,eq_false_iff->jE,or_eq_false_iff->kR,or_eq_true->jK,not_eq_true->pF,and_false->p9,rec->mY
open Nat renaming le_refl->aL,ne_of_lt->aW,lt_of_lt_of_le->cn,le_trans->bF,zero_le->cD,lt_succ_self->dF,lt_succ_of_lt->eF,lt_irrefl->eI,ble_eq->dw,le_add_right->gG,le_of_lt->f6,ne_of_gt->f7,add_right_comm->jx,lt_of_le_of_lt->jA,ble->dy,mod_lt->gh,zero_add->iO,min_self->iP,le_succ->iU,add_comm->jP,le_of_ble_eq_true->n6,beq->hG,succ_pos->mC,le_of_lt_succ->o7,le_of_succ_le->ph,min_le_right->pB,le_of_not_lt->pC,succ_le_succ->pJ,min_eq_left->pX,beq_refl->qw,le_of_eq->qy,sub_self->qz,pow_succ->qD,sub_sub->qQ
open PySem.W renaming Frag->aw,kitOne->bX,kia_one->cN,emptyDict->d5,findIn->cX,keepIn->de,instObj->eK,looks_findIn->iN,kitx_dict->gV,kitx_list->iR,callWith_K->jN,fnOf->eO,codeIn->gZ,OpenLaw->hE,plainGet_of->l7,callWith_K0->l8,plainGet->jT,kitx_tuple->ml,hideAll_get->mE,cellsFrom_some->px,methodObj->mF,hasDictIn->mG,of_hideAll->mK,methodCall_KW->pL,mg_of->iY,lookIn->jX,kas_sort->jY,Looks->gn,makes_of->mU,takerIn->mV,makesIn->mW,kas_ask->jZ,nsIn->iZ,plainOver->qJ,make_core->qK,specialIn->qL,kitx_none->qM,kitx_bool->qN,isFn->j5
open Array renaming length_toList->bM,getD_eq_getD_getElem?->gu,getElem?_toList->il,getElem?_eq_getElem->jm,getElem?_eq_some_iff->nF,perm_iff_toList_perm->nG,toList_push->lu,size_eq_one_iff->nZ,forIn_toList->oO,replicate->pU,size_map->qg,toList->qx,map->qX
open PyProof.Rows.F renaming plain_set_update_loop->dW,entry_set_update_loop->gw
open Option.some renaming inj->cP,injEq->t6
open PySem.Heap.SameBut renaming update->dB,refl->t9
open PySem.SetTable.layClean renaming free->ee
open PySem.Around renaming under_plainId->eA,under->mm
open Prod renaming snd->bI,fst->cY
open PySem.SetTable renaming bits->cW,below->dY,grown->dZ,runEnd->fD,Probe->fE,turns->gO,insertAt->jH,fits->iJ,advance->lE,insertAt_perm->nT,fill->mh,layClean->o8,laid->qu,has->qC
open PySem.Calls renaming spliced_cons->eD,evalArgs_plain->gA,spliced_nil->fQ,callWith_builtin->ic,Name_function_global->nD,call_function_entry->nH
open PySem.Builtin.List renaming listTooLong->gv,listSameRef->nM,listExtendWith->rU
open False renaming elim->cM
open PySem.Obj renaming data_mapFields->fo,mapSeq->dc,mapFields->fZ,isFreed_of_fields->ju,cls_mapFields->ly,putSet->jV
open Classical renaming propDecidable->ib,byContradiction->nI
open PySem.F renaming slot_dict_get->fC,called_set->fI,slot_NoneType_hash->jw,entry_dict_get->iB,slot_list_extend->jy,plainAttrs_dict->jC,plainAttrs_list->jF,sub_list_frozenset->kT,slot_list_append->lh,args_dict_get_2->lq,slot_dict_setdefault->nS,type_dict_get->lQ,args_list_extend_2->n8,sub_list_set->l3,excBase_ValueError->oj,excAttr_ValueError->om,entry_list_extend->oA,args_tuple_add_2->oK,type_list_append->oQ,type_list_extend->oR,entry_tuple_add->oY,args_dict_get_3->o4,plain_list_iadd->pf,slot_tuple_add->pA,slot_int_rmul->pK,plain_set_new->pN,slot_set_iter->pW
open PyProof.Rows renaming slot_tuple_getitem->ji,boot_isinstance->iH,StrsAre->kU,AllBare->d8,subscriptTail_builtinR->nQ,listUpdate_at->ma,seqEpoch_at->mJ,get?_update_seq->pO,entry_list_sort->pQ,IntsAre->iX,slicePart_none->p8,Subscript_->mO,slot_list_sort->qe,args_list_sort->qf,IsTup->gp,lt_str->tT
open Option renaming map_eq_some_iff->ie,map_some->fT,isSome_iff_exists->kH,bind_eq_some_iff->kK,getD_some->pE,map->qV
open PySem.Builtin.Slice renaming slicePlaces->jk,sliceAdjust->kG,sliceApplied->nE,slicePartIndex->rS,sliceFields->sm
open Ne renaming symm->cE
open PySem.Builtin.Tuple renaming tupleExact->jn,tupleItemsOf->rV
open Int renaming emod_lt_of_pos->iu,toNat_natCast->iy,emod_nonneg->iI,eq_ofNat_of_zero_le->kM
open PySem.SetTable.probe renaming go->iA
open PySem.Value renaming isStrOf->gR,isInt->qI
open List.Perm renaming eq_of_pairwise->kI
open Nat.succ renaming inj->iQ
open LawfulBEq renaming eq_of_beq->gj
open PySem.SeqAt.EqAt renaming str_str->lg,of_refs->lj,same->lI,none_int->oo,none_str->oq,int_none->ou,str_none->ox,int_str->oH,str_int->oI,tuple_none->sN,tuple_bool->sO,tuple_list->sP,list_tuple->sQ,none_tuple->sR,bool_tuple->sS,none_bool->sT,bool_none->sU,bool_bool->sV,tuple_int->sW,tuple_str->sX,list_none->sY,list_bool->sZ,none_list->tu,bool_list->tD,int_tuple->tE,str_tuple->tG,bool_int->tI,bool_str->tJ,int_bool->tK,str_bool->tL,list_int->tN,list_str->tP,int_list->tQ,str_list->tR,int_int->tV
open PySem.AutoSeq1 renaming wpAny_loadPart'->nJ
open PySem.Walks renaming list->iW
open Sum.inr renaming inj->jQ
open PySem.Moved renaming trans->jR
open PySem.Paired renaming length->l6,snoc->qP
open PySem.Shared renaming TypeIs->l9
open PySem.SeqAt renaming EqAt->jU,notIn_listAt->oM
open PySem.Code renaming quiet_builtin->oP,isFrame->mw,frames->qO
open PySem.Heap.IsList renaming extBut->oW
open PySem.Str renaming ofString->mx
open PySem.SetTable.below renaming go->o9
open Function renaming comp_def->pj
open PySem.Builtin.Frozenset renaming updateFrom->rT,newClass->rX
open PySem.PassesOwn renaming never->pY
open PySem.SeqAt.RcNeAt renaming lists_lengths->rW,tuples->tS,lists->tW
open PySem.EqNone renaming eq_none_none->rY,eq_none_bool->rZ,eq_bool_none->r6,ne_none_none->se,ne_none_bool->sf,ne_bool_none->sg,eq_none_int->sq,eq_none_str->sr,eq_int_none->sv,eq_str_none->sA,ne_none_int->sE,ne_none_str->sF,ne_int_none->sG,ne_str_none->sI
open PySem.EqMixed renaming eq_bool_str->r9,eq_str_bool->sd,ne_bool_str->sj,ne_str_bool->sk,eq_int_str->sy,eq_str_int->sC,ne_int_str->sH,ne_str_int->sJ
open PySem.SeqAt.RcAt renaming lists_lengths->sL,tuples->t7,lists->uc
open PySem.Pv renaming boot_tuple->qt,boot_list->qB,boot_set->qR,boot_int->qS
open PySem.Builtin.Range renaming rangeSize->sM
open PyProof.Rows.IsTup renaming new->mX
open PySem.pickOrder renaming go->qE
open Prod.mk renaming inj->qH
open PySem.Heap.IsSliceOf renaming new->tU
open PySem.W.WShape renaming has->qU
open PySem.W.KF renaming slot_gs->qW
open List.Sublist renaming nodup->tY,refl->ua
open PySem.Within renaming cons->tZ
open PySem.Txt renaming mul->mZ
open List.Pairwise renaming map->t8
open PySem.Heap.DictOf renaming new->ud
open PySem.W.Looks renaming ld->qZ
def ak:=@if_pos
def aq:=@if_neg
def ar:=@absurd
def bq:=@of_decide_eq_true
def bj:=@decide_eq_false
def br:=@decide_eq_true
def cq:=@decide_eq_true_eq
def bD:=@congrArg
def Eq.t:=@Eq.trans
def Iff.t:=@Iff.trans
def List.Perm.t:=@List.Perm.trans
def PySem.Heap.SameBut.t:=@PySem.Heap.SameBut.trans
def PySem.Moved.t:=@PySem.Moved.trans
def PySem.Heap.UpToSlots.t:=@PySem.Heap.UpToSlots.trans
abbrev cA:=List (PySem.Addr×PySem.Obj)
abbrev aE:=List PySem.Str
set_option Elab.async false
set_option linter.all false
namespace L5
open PySem PySem.W
noncomputable def G'(l:List Obj):Nat->List Addr->List Obj:=
 @qY Obj (λ_=>Nat->List Addr->List Obj) (λ_ _=>[])
  (λo _ b i as=>@qY Addr (λ_=>List Obj) [] (λa r _=>@mY (λ_=>List Obj) (b (Nat.succ i) as) (o::b (Nat.succ i) r) (hG a i)) as) l
def Rw(i:Nat)(as:List Addr):G' [] i as=[]:=rfl
def Vf(o:Obj)(l:List Obj)(i:Nat)(r:List Addr):G' (o::l) i (i::r)=o::G' l (i+1) r:=by show @mY (λ_=>List Obj) _ _ (hG i i)=_;rw[qw];rfl
def Vg(o:Obj)(l:List Obj)(i a:Nat)(r:List Addr)(h:a≠i):G' (o::l) i (a::r)=G' l (i+1) (a::r):=by
 show @mY (λ_=>List Obj) _ _ (hG a i)=_;have:hG a i=δ:=by
  cases q:hG a i with
  |false=>rfl
  |true=>exact ar (Nat.eq_of_beq_eq_true q) h
 rw[this];rfl
theorem K0:∀(l:List Obj) (i:Nat) (as:List Addr),(G' l i as).length=as.length->∀j (c:j<as.length),∃b,as[j]=i+b/\l[b]?=(G' l i as)[j]?
 |[],i,as,h,j,c=>by rw[Rw]at h;simp at h;omega
 |o::l,i,[],h,j,c=>by simp at c
 |o::l,i,a::r,h,j,c=>by
  by_cases q:a=i
  .subst q;rw[Vf]at h ⊢;cases j with
   |zero=>exact⟨0,Z,Z⟩
   |succ j=>obtain⟨b,d,e⟩:=K0 l (a+1) r (by simpa using h) j (by simpa using c);exact⟨b+1,by rw[List.getElem_cons_succ,d];exact jx a 1 b,by simpa using e⟩
  .rw[Vg _ _ _ _ _ q]at h ⊢;obtain⟨b,d,e⟩:=K0 l (i+1) (a::r) h j c;exact⟨b+1,by rw[d];exact jx i 1 b,by simpa using e⟩
def live(o:Obj):Bool:=match o with|⟨_,_,.freed,_⟩=>δ|_=>γ
def Vh{h:Heap}{as:List Addr}{K:Frag}(e:as=K.map (·.1))(x:(G' h.objs.toList 0 as,K.all λp=>live p.2)=(K.map (·.2),γ)):K.In h:=by
 obtain⟨i,r⟩:=qH x;refine Frag.in_of e (lp λj=>?_);rw[bA,bA];by_cases a:j<as.length
 .have q:(G' h.objs.toList 0 as).length=as.length:=by rw[i,e,ah,ah]
  obtain⟨b,l,m⟩:=K0 _ _ _ q j a;have f:j<K.length:=by rw[e,ah]at a;exact a
  rw[bg a,bg f,fT,fT,l,iO];have o:h.objs[b]?=U (K[j].2):=by rw[<-il,m,i,bA,bg f];rfl
  have lv:live K[j].2=γ:=aR.1 r _ (fR f);refine bD U ?_;unfold Heap.get?;rw[o];revert lv;cases K[j].2 with
  |mk c d data t=>cases data<;>intro lv<;>first|rfl|cases lv
 .rw[gz (by omega),gz (by rw[e,ah]at a;omega)];rfl
noncomputable def abY(K:Params->Frag) (as:List Addr) (e:∀P,as=(K P).map (·.1)):Hook:=
 ⟨List Obj×Bool,λs=>(G' s.heap.objs.toList 0 as,γ),λw=>((K w.params).map (·.2),(K w.params).all λp=>live p.2),InK K,λw s x=>Vh (e w.params) (by
  obtain⟨a,b⟩:=qH x;rw[a,<- b]),InK.keeps⟩
end L5
section
open PySem PySem.W PyProof.Rows
local macro_rules|`(tactic|o_head ($f:ident $k $as $e))=>`(tactic|o_head ((L5.abY $k $as (fun _=>by kernel_rfl)):W.Hook))
local macro_rules|`(command|#where)=>do
 let mut r:=#[]
 for n in [43:1772] do
  let x:=Lean.mkIdent (.mkSimple s!"tw{((Lean.Name.mkSimple "hd").str s!"o_{n}").hash}")
  r:=r.push ((<-`(command|noncomputable def $x:ident:=0)).raw.rewriteBottomUp (·.setInfo .none))
 return Lean.mkNullNode r
noncomputable section
namespace PySem.W.Fast
def tw8202494744544719225:=0
def tw14019881755177166336:=0
def tw662514624603801313:=0
def tw4297738956197642882:=0
def tw8479069092035166179:=0
def tw4738809144493168741:=0
def tw6707332369374332869:=0
def tw4214544129655931335:=0
def tw12428158363243832775:=0
def tw10374632558016547081:=0
def tw15234462620972484970:=0
def tw938635154573522699:=0
def tw8726500145642417389:=0
def tw17448205771061294573:=0
def tw16828129974981846989:=0
def tw7774113678449685934:=0
def tw2429014155710782896:=0
def tw5571941122713777233:=0
def tw4078783641558376337:=0
def tw10203300007123444082:=0
def tw14761691873820075506:=0
def tw16722901843121052530:=0
def tw10308165456541681715:=0
def tw861502493610598483:=0
def tw55536753830339475:=0
def tw17602763723307633555:=0
def tw16372197721825020244:=0
def tw10674973256528402420:=0
def tw13651914153934699798:=0
def tw8917917961894373751:=0
def tw6505400148883583384:=0
def tw13084661642996705785:=0
def tw15868113528992853466:=0
def tw5557064270238477050:=0
def tw2706584449700448635:=0
def tw5114918623987374716:=0
def tw1745904855532632988:=0
def tw329941283463616030:=0
def tw2964640727653848319:=0
def tw12451285183580746367:=0
def tw4976707163157885006:=0
def tw8384392091138232489:=0
def tw15719130042492735180:=0
def tw12173719614220466874:=0
def tw15224501303457401022:=0
def tw10481609064204165516:=0
def tw13919779267959199497:=0
def tw8997383693586321770:=0
def tw13347621489011750686:=0
def tw11673493167334670398:=0
def tw7024190855827481052:=0
def tw11156245012059776263:=0
def tw4169314715054698442:=0
def tw14411198650409599699:=0
#where
end PySem.W.Fast
end
def zvp:=PySem.Challenge.pw_tellworld_k32_what_is_no_command
noncomputable def zvq:=PySem.W.view zvp [178]
local macro_rules|`(tactic|refine $t)=>do
 if t.raw[0].getId != ``PySem.W.holds_open||t.raw[1][0][3].getId.eraseMacroScopes== `zvq then Lean.Macro.throwUnsupported
 let n:=fun (i:Nat) (x:Lean.Term) (a:Array Lean.Syntax)=>a.set! i (a[i]!.setArg 3 x)
 `(tactic|refine $(Lean.TSyntax.mk (t.raw.setArg 1 (Lean.mkNullNode (n 0 (<-`(zvq)) (n 1 (<-`(zvp.boundNames)) (n 2 (<-`(fun s=>PySem.W.xlAt zvq [] s&&PySem.W.recOk [] s)) (n 3 (<-`(PySem.W.XL zvq [])) t.raw[1].getArgs))))))))
set_option maxRecDepth 100000 in
set_option maxHeartbeats 0 in
open_top hd for PySem.Challenge.rw_tellworld_k32_what_is_no_command
end
set_option tactic.hygienic false
set_option maxRecDepth 100000
namespace L2
open PySem PySem.Spec PyProof.Rows
abbrev ey:=Sum Int Str
def HL:ey->aa->Bool
 |.inl k,v=>qI k v
 |.inr x,v=>gR x v
def keyH(w:az):ey->Int
 |.inl k=>hashInt k
 |.inr x=>hashStr w x
def vA:∀{k:ey} {v:aa},HL k v=γ->(∃i t,k=Sum.inl i/\v=Value.int i t)\/(∃x t,k=Sum.inr x/\v=Value.str x t)
 |.inl i,v,h=>by obtain⟨t,e⟩:=Value.isInt_shape (k:=i) (v:=v) h;exact .inl ⟨i,t,Z,e⟩
 |.inr x,v,h=>by obtain⟨t,e⟩:=Value.isStrOf_shape (x:=x) (v:=v) h;exact .inr ⟨x,t,Z,e⟩
def Qd(i:Int)(t:Tok):HL (.inl i) (.int i t)=γ:=by simp[HL,qI]
def Qe(x:Str)(t:Tok):HL (.inr x) (.str x t)=γ:=by simp[HL,gR]
def X6(a b:Int):decide ((Sum.inl a:ey)=Sum.inl b)=(a==b):=by
 by_cases e:a=b
 .subst e;simp
 .have h:¬(Sum.inl a:ey)=Sum.inl b:=λq=>e (Sum.inl.inj q);rw[bj h];exact(beq_eq_false_iff_ne.2 e).symm
def X7(a b:Str):decide ((Sum.inr a:ey)=Sum.inr b)=decide (a=b):=by
 by_cases e:a=b
 .subst e;simp
 .have h:¬(Sum.inr a:ey)=Sum.inr b:=λq=>e (jQ q);rw[bj h,bj e]
def X8(a:Int)(b:Str):decide ((Sum.inl a:ey)=Sum.inr b)=δ:=bj (λq=>nomatch q)
def X9(a:Str)(b:Int):decide ((Sum.inr a:ey)=Sum.inl b)=δ:=bj (λq=>nomatch q)
def uK(prog:aB)(w:az):ql prog w ey where
 is:=HL
 hash:=keyH w
 inj:=λv a b ha hb=>by
  rcases vA ha with ⟨i,t,rfl,rfl⟩|⟨x,t,rfl,rfl⟩
  .rcases vA hb with ⟨j,u,rfl,e⟩|⟨y,u,rfl,e⟩
   .injection e with c _;rw[c]
   .exact nomatch e
  .rcases vA hb with ⟨j,u,rfl,e⟩|⟨y,u,rfl,e⟩
   .exact nomatch e
   .injection e with c _;rw[c]
 byValue:=λk v h=>by rcases vA h with ⟨i,t,rfl,rfl⟩|⟨x,t,rfl,rfl⟩<;>rfl
 pyHash:=λd h=>by
  rcases vA d with ⟨i,t,rfl,rfl⟩|⟨x,t,rfl,rfl⟩
  .exact wpAny_pyHash_int h
  .exact pq h
 eqBool:=λf d h=>by
  rcases vA f with ⟨i,t,rfl,rfl⟩|⟨x,t,rfl,rfl⟩
  .rcases vA d with ⟨j,u,rfl,rfl⟩|⟨y,u,rfl,rfl⟩
   .rw[X6]at h;exact wpAny_eqBool_int h
   .rw[X8]at h;exact oH i t y u _ _ _ _ h
  .rcases vA d with ⟨j,u,rfl,rfl⟩|⟨y,u,rfl,rfl⟩
   .rw[X9]at h;exact oI x t j u _ _ _ _ h
   .rw[X7]at h;exact wpAny_eqBool_str h
 «strs»:=λk x t v h=>by
  rcases vA h with ⟨i,u,rfl,e⟩|⟨y,u,rfl,e⟩
  .exact nomatch e
  .injection e with c _;subst c;cases v<;>rfl
def L8(prog:aB)(w:az)(i:Int)(t:Tok):(uK prog w).is (.inl i) (.int i t)=γ:=Qd i t
def L9(prog:aB)(w:az)(x:Str)(t:Tok):(uK prog w).is (.inr x) (.str x t)=γ:=Qe x t
inductive V where
 |X|Y (b:Bool)|int (i:Int)|str (x:Str)|byt (b:Array UInt8)|flt (b:UInt64)|ref (a:Addr)|ty (n:String)
 deriving DecidableEq
abbrev bz:=List V
def eo:V->aa->Prop
 |.X,u=>u=Value.none
 |.Y b,u=>u=Value.bool b
 |.int i,u=>∃t,u=Value.int i t
 |.str x,u=>∃t,u=Value.str x t
 |.byt b,u=>∃t,u=Value.bytes b t
 |.flt b,u=>∃t,u=Value.float b t
 |.ref a,u=>u=Value.ref a
 |.ty n,u=>u=Value.type n
abbrev eg:bz->List aa->Prop:=gY eo
theorem eg.length(r:eg xs a):xs.length=a.length:=l6 r
theorem eg.get:∀{b:bz} {a:List aa} {i:Nat} {x:V},eg b a->b[i]?=U x->∃u,a[i]?=U u/\eo x u
 |_,_,_,_,.nil,e=>by simp at e
 |_,_,0,_,.cons r _,e=>by simp at e;subst e;exact⟨_,Z,r⟩
 |_,_,i+1,x,.cons _ t,e=>by obtain⟨u,c,d⟩:=eg.get (i:=i) (x:=x) t (by simpa using e);exact⟨u,by simpa using c,d⟩
theorem eg.set(r:eo x u):∀{b:bz} {a:List aa} (i:Nat),eg b a->eg (b.set i x) (a.set i u)
 |_,_,_,.nil=>.nil
 |_,_,0,.cons _ t=>.cons r t
 |_,_,i+1,.cons q t=>.cons q (eg.set r i t)
theorem eg.append:∀{b c:bz} {a ws:List aa},eg b a->eg c ws->eg (b++c) (a++ws)
 |_,_,_,_,.nil,s=>s
 |_,_,_,_,.cons r t,s=>.cons r (eg.append t s)
theorem eg.take:∀{xs:bz} {a:List aa} (n:Nat),eg xs a->eg (xs.take n) (a.take n)
 |_,_,0,_=>.nil
 |_,_,_+1,.nil=>.nil
 |_,_,n+1,.cons r t=>.cons r (eg.take n t)
theorem eg.drop:∀{xs:bz} {a:List aa} (n:Nat),eg xs a->eg (xs.drop n) (a.drop n)
 |_,_,0,r=>r
 |_,_,_+1,.nil=>.nil
 |_,_,n+1,.cons _ t=>eg.drop n t
def Cb:Option V->Option aa->Prop
 |some v,U u=>eo v u
 |none,O=>True
 |_,_=>False
def KV{a:Type}:List (a×V)->List (a×aa)->Prop:=gY λ(p:a×V) (q:a×aa)=>p.1=q.1/\eo p.2 q.2
def kV:ey->V
 |.inl i=>.int i
 |.inr x=>.str x
inductive HO where
 |cf (xs:bz)
 |ef (xs:bz)
 |dK (kvs:List (ey×V))|dT (kvs:List (List ey×V))
 |set (S:Int->Bool) (n:Nat)
 |mr (C dx:Addr) (fs:List (Str×V))
 |i1 (x:Addr)
 |xd (fs:List (Str×V))
 |met (f x:Addr)
 |rng (lo hi:Int)
 |oz (o:Obj) (u:HO)
 |tbl (ps:Array aa)
 |ext (φ:Heap->Prop)
abbrev Hp:=Addr->Option HO
def e7(H:Hp)(a:Addr)(o:HO):Hp:=λb=>if b=a then U o else H b
def uu:e7 H a o a=U o:=by unfold e7;rw[ak Z]
def uC(h:b≠a):e7 H a o b=H b:=by unfold e7;rw[aq h]
def ab0{H:Hp}{a b:Addr}{o u:HO}(h:H a=U o)(c:H b=U u)(d:o≠u):a≠b:=by intro e;subst e;rw[h]at c;exact d (cP c)
def w5{H:Hp}{a b:Addr}{o:HO}(h:H a=U o)(c:H b=O):a≠b:=by intro e;subst e;rw[h]at c;cases c
section
variable(P:aB)(w:az)
def e8(H:Hp)(h:Heap)(a:Addr):HO->Prop
 |.cf c=>c.length<=aC/\∃(b:List aa) (n:Nat),eg c b/\h.get? a=U { cls:=.type "list", data:=.seq b.toArray n }
 |.ef c=>c.length<=aC/\∃b:List aa,eg c b/\gp h a b.toArray/\∀o,h.get? a=U o->o.dict=O
 |.dK kvs=>kvs.length<=aC/\(a==du)=δ/\∃m,KV kvs m/\h.DictOf (uK P w) a m
 |.dT kvs=>kvs.length<=aC/\(a==du)=δ/\∃c:List (List ey×Addr×aa),
   gY (λ(p:List ey×V) (q:List ey×Addr×aa)=>p.1=q.1/\H q.2.1=U (.ef (p.1.map kV))/\eo p.2 q.2.2) kvs c/\
   ∃o i r,h.get? a=U o/\o.ExactDict/\o.data=.dict i r/\i.toList=c.map (entryOfKey (tupleKind (uK P w)))/\(c.map (·.1)).Nodup
 |.set S n=>h.SetOf (intKind P w) a S n
 |.mr C d fs=>H d=U (.i1 a)/\fs.length<=1000/\d≠a/\h.get? a=U (eK C d)/\
   ∃mA,h.Ns1 d mA/\(∀f,Cb (fs.lookup f) (mA f))/\mj mA (fs.map (·.1))
 |.i1 _=>∃o,h.get? a=U o
 |.xd fs=>∃mA,h.Ns1 a mA/\∀f,Cb (fs.lookup f) (mA f)
 |.rng lo y=>∃t u v,h.get? a=U { cls:=.type "range", data:=.fields #[.int lo t,.int y u,.int 1 v] }
 |.oz o u=>h.get? a=U o/\e8 H h a u
 |.tbl z=>h.get? a=U { cls:=.none,data:=.fields z }
 |.met f x=>h.get? a=U (mF (.ref f) (.ref x))
 |.ext e=>e h/\(∃o,h.get? a=U o)/\∀j l:Heap,e j->(∀o,j.get? a=U o->l.get? a=U o)->e l
def p5(H:Hp)(h:Heap):Prop:=∀a o,H a=U o->e8 P w H h a o
end
section
variable{P:aB}{w:az}{H H':Hp}{h h':Heap}{a:Addr}{o:HO}
theorem e8.lt(x:e8 P w H h a o):a<h.objs.size:=by
 cases o with
 |cf b=>obtain⟨_,_,_,_,e⟩:=x;exact aP e
 |ef b=>obtain⟨_,_,_,p,_⟩:=x;exact p.lt
 |dK kvs=>obtain⟨_,_,_,_,o,_,_,e,_⟩:=x;exact aP e
 |dT kvs=>obtain⟨_,_,_,_,o,_,_,e,_⟩:=x;exact aP e
 |set S n=>obtain⟨o,_,_,_,e,_⟩:=x;exact aP e
 |mr C c fs=>obtain⟨_,_,_,e,_⟩:=x;exact aP e
 |i1 y=>obtain⟨_,e⟩:=x;exact aP e
 |xd fs=>obtain⟨_,⟨_,_,_,e,_⟩,_⟩:=x;exact aP e
 |rng lo d=>obtain⟨_,_,_,e⟩:=x;exact aP e
 |oz i u=>obtain⟨e,_⟩:=x;exact aP e
 |tbl j=>exact aP (show h.get? a=U _ from x)
 |met f y=>exact aP (show h.get? a=U _ from x)
 |ext l=>obtain⟨_,⟨_,e⟩,_⟩:=x;exact aP e
theorem Paired.mapP{e i:Type}{F G:e->i->Prop}:∀{c:List e} {d:List i},gY F c d->(∀a b,F a b->G a b)->gY G c d
 |_,_,.nil,_=>.nil
 |_,_,.cons r t,f=>.cons (f _ _ r) (Paired.mapP t f)
def e8.U'(x:e8 P w H h a o)(k:∀b u,(b=a\/H b=U (.i1 a))->h.get? b=U u->h'.get? b=U u)
  (I:∀b,H b=U (.i1 a)->H' b=U (.i1 a)) (J:∀b A,H b=U (.ef A)->H' b=U (.ef A)):e8 P w H' h' a o:=by
 induction o with
 |cf A=>obtain⟨z,m,n,r,e⟩:=x;exact⟨z,m,n,r,k _ _ (.inl Z) e⟩
 |ef A=>obtain⟨z,m,r,⟨i,e,c⟩,f⟩:=x;exact⟨z,m,r,⟨i,k _ _ (.inl Z) e,c⟩,λW E=>by rw[k _ _ (.inl Z) e]at E;cases E;exact f _ e⟩
 |dK kvs=>obtain⟨z,y,Q,r,i,l,j,e,c⟩:=x;exact⟨z,y,Q,r,i,l,j,k _ _ (.inl Z) e,c⟩
 |dT kvs=>obtain⟨z,y,A,r,i,l,j,e,c⟩:=x;exact⟨z,y,A,Paired.mapP r λp q z=>⟨z.1,J _ _ z.2.1,z.2.2⟩,i,l,j,k _ _ (.inl Z) e,c⟩
 |set S n=>obtain⟨i,l,j,t,e,c⟩:=x;exact⟨i,l,j,t,k _ _ (.inl Z) e,c⟩
 |mr C R fs=>obtain⟨d,z,N,e,mA,⟨B,l,j,G,c⟩,r⟩:=x;exact⟨I _ d,z,N,k _ _ (.inl Z) e,mA,⟨B,l,j,k _ _ (.inr d) G,c⟩,r⟩
 |i1 y=>obtain⟨i,e⟩:=x;exact⟨i,k _ _ (.inl Z) e⟩
 |xd fs=>obtain⟨mA,⟨B,l,j,e,c⟩,r⟩:=x;exact⟨mA,⟨B,l,j,k _ _ (.inl Z) e,c⟩,r⟩
 |rng lo T=>obtain⟨t,u,v,e⟩:=x;exact⟨t,u,v,k _ _ (.inl Z) e⟩
 |oz i u M=>obtain⟨e,q⟩:=x;exact⟨k _ _ (.inl Z) e,M q⟩
 |tbl F=>have e:h.get? a=U { cls:=.none,data:=.fields F }:=x;show h'.get? a=U { cls:=.none,data:=.fields F };exact k a _ (.inl Z) e
 |met f y=>have e:h.get? a=U (mF (.ref f) (.ref y)):=x;show h'.get? a=U (mF (.ref f) (.ref y));exact k a _ (.inl Z) e
 |ext X=>obtain⟨p,⟨o,e⟩,st⟩:=x;exact⟨st _ _ p λo q=>k _ _ (.inl Z) q,⟨o,k _ _ (.inl Z) e⟩,st⟩
theorem p5.lt(x:p5 P w H h)(e:H a=U o):a<h.objs.size:=(x a o e).lt
def p5.fresh(x:p5 P w H h)(e:h.objs.size<=a):H a=O:=by
 cases q:H a with
 |none=>rfl
 |some u=>exact ar (cn (x.lt q) e) (eI _)
def p5.f?(x:p5 P w H h)(k:∀b u,h.get? b=U u->h'.get? b=U u):p5 P w H h':=λa o e=>
 (x a o e).U' (λb u v q=>k b u q) (λv q=>q) λv v q=>q
def p5.laid(x:p5 P w H h)(k:∀b u,h.get? b=U u->h'.get? b=U u)(i:h.objs.size<=a)(new:e8 P w (e7 H a o) h' a o):p5 P w (e7 H a o) h':=λb u e=>by
 have f:=x.fresh i;by_cases d:b=a
 .subst d;rw[uu]at e;cases e;exact new
 .rw[uC d]at e;exact(x b u e).U' (λc v s q=>k c v q) (λc q=>by rw[uC (w5 q f)];exact q) λc j q=>by rw[uC (w5 q f)];exact q
end
def Rd(H:Hp)(a:Addr)(u:HO):Prop:=H a=U u\/∃o,H a=U (.oz o u)
def Rd.ok(r:Rd H a u)(x:p5 P w H h):e8 P w H h a u:=by
 rcases r with r|⟨o,r⟩
 .exact x a u r
 .obtain⟨_,q⟩:=x a _ r;exact q
def Mut:Option HO->Prop
 |some (.cf _)=>True
 |some (.dK _)=>True
 |some (.dT _)=>True
 |some (.set _ _)=>True
 |some (.mr _ _ _)=>True
 |some (.ext _)=>True
 |_=>False
section
variable{P:aB}{w:az}{H:Hp}{h h':Heap}{x e:Addr}{o':HO}
def p5.v?(ok:p5 P w H h)(f:Mut (H x))(j:e=x\/H e=U (.i1 x))(k:∀b u,b≠e->h.get? b=U u->h'.get? b=U u)(heo:∃u,h'.get? e=U u)
  (new:e8 P w (e7 H x o') h' x o'):p5 P w (e7 H x o') h':=λb u q=>by
 have nown:∀c y,H c=U (.i1 y)->c≠x:=λc y r z=>by subst z;rw[r]at f;exact f
 have ntup:∀c i,H c=U (.ef i)->c≠x:=λc i r z=>by subst z;rw[r]at f;exact f
 by_cases a:b=x
 .subst a;rw[uu]at q;cases q;exact new
 .rw[uC a]at q;by_cases hbe:b=e
  .have l:H b=U (.i1 x):=by
    rcases j with z|z
    .exact ar (hbe.t z) a
    .rw[hbe];exact z
   rw[q]at l;cases l;obtain⟨v,m⟩:=heo;exact⟨v,by rw[hbe];exact m⟩
  .refine(ok b u q).U' (λc v d r=>k c v ?_ r) (λc r=>by rw[uC (nown c b r)];exact r) λc i r=>by rw[uC (ntup c i r)];exact r
   rcases d with rfl|d
   .exact hbe
   .rintro rfl;rcases j with z|z
    .exact nown c b d z
    .rw[d]at z;cases z;exact a Z
end
structure Un(fs ex:List Addr)(H H':Hp)(h h':Heap):Prop where
 keep:∀b o,h.get? b=U o->H b=O->b∉fs->b∉ex->h'.get? b=U o
 slot:∀b o,h.get? b=U o->H b=O->b∈fs->b∉ex->∃sl,h'.get? b=U { o with slots:=sl }
 free:∀b o,h.get? b=U o->H b=O->b∉ex->H' b=O
 there:∀b o,h.get? b=U o->b∉ex->∃o',h'.get? b=U o'
 sh:∀b xs,H b=U (.ef xs)->H' b=U (.ef xs)
 tz:∀b o u,H b=U (.oz o u)->H' b=U (.oz o u)
 x1:∀b ps,H b=U (.tbl ps)->∃more,H' b=U (.tbl (ps++more))
section
variable{fs fs' ex ex':List Addr}{H H1 H2:Hp}{h h1 h2 h':Heap}{a x e:Addr}{o:HO}
def Un.any(u:Un fs ex H H1 h h1)(q:h.get? b=U ob)(n:H b=O)(c:b∉ex):∃sl,h1.get? b=U { ob with slots:=sl }:=by
 by_cases hb:b∈fs
 .exact u.slot b ob q n hb c
 .exact⟨ob.slots,u.keep b ob q n hb c⟩
def Un.f?(k:∀b u,h.get? b=U u->h'.get? b=U u):Un fs ex H H h h':=
 ⟨λb c q v v v=>k b c q,λb c q v v v=>⟨c.slots,k b c q⟩,λv v v n v=>n,λb c q v=>⟨c,k b c q⟩,λv v q=>q,λv v v q=>q,λv d q=>⟨#[],by rw[q];simp⟩⟩
def Un.refl:Un fs ex H H h h:=Un.f? λv v q=>q
def Un.laid(k:∀b u,h.get? b=U u->h'.get? b=U u)(c:h.objs.size<=a)(hn:H a=O):Un fs ex H (e7 H a o) h h' where
 keep:=λb u q v v v=>k b u q
 slot:=λb u q v v v=>⟨u.slots,k b u q⟩
 free:=λb u q n v=>by rw[uC (aW (cn (aP q) c))];exact n
 there:=λb u q v=>⟨u,k b u q⟩
 sh:=λb xs q=>by rw[uC (w5 q hn)];exact q
 tz:=λb u xs q=>by rw[uC (w5 q hn)];exact q
 x1:=λb ps q=>⟨#[],by rw[uC (w5 q hn),q];simp⟩
def Un.v?(c:Mut (H x))(j:e=x\/H e=U (.i1 x))(k:∀b u,b≠e->h.get? b=U u->h'.get? b=U u)(heo:∃u,h'.get? e=U u):Un fs ex H (e7 H x o) h h':=by
 have i:∀b,H b=O->b≠x:=λb n z=>by subst z;rw[n]at c;exact c
 have f:∀b,H b=O->b≠e:=λb n z=>by
  subst z;rcases j with r|r
  .exact i b n r
  .rw[n]at r;cases r
 have d:∀b u,H b=U u->¬Mut (U u)->b≠x:=λb u q l z=>by subst z;rw[q]at c;exact l c
 refine⟨λb u q n s s=>k b u (f b n) q,λb u q n s s=>⟨u.slots,k b u (f b n) q⟩,λb u q n s=>by rw[uC (i b n)];exact n,λb u q s=>?_,
  λb m q=>by rw[uC (d b _ q λz=>z)];exact q,λb u m q=>by rw[uC (d b _ q λz=>z)];exact q,λb p q=>⟨#[],by rw[uC (d b _ q λz=>z),q];simp⟩⟩
 by_cases hbe:b=e
 .subst hbe;exact heo
 .exact⟨u,k b u hbe q⟩
end
def trk(h:Heap)(H:Hp):List Addr:=(aZ h.objs.size).filter λa=>(H a).isSome
def K1(h:Heap)(H:Hp):Heap:=W.hideAll h (trk h H)
def Qf(h:Heap)(H:Hp):(K1 h H).objs.size=h.objs.size:=W.hideAll_size _ _
def Rx{h:Heap}(e:h.get? b=U o)(n:H b=O):(K1 h H).get? b=U o:=
 mE _ e λa=>by have q:(H b).isSome=γ:=(aT.1 a).2;rw[n]at q;simp at q
def Vi(e:(K1 h H).get? b=U o):h.get? b=U o/\H b=O:=by
 have a:h.get? b=U o:=mK (trk h H) e;refine⟨a,?_⟩;cases q:H b with
 |none=>rfl
 |some x=>have c:b∈trk h H:=aT.2 ⟨bP.2 (aP a),by simp[q]⟩;have z:(K1 h H).get? b=O:=W.hideAll_none (trk h H) c;rw[z]at e;cases e
def Vj(g h:Heap)(L:Addr):cA:=(aZ h.objs.size).filterMap λa=>if a=L\/(g.get? a).isSome=γ then O else (h.get? a).map λo=>(a,o)
def fc(g h:Heap)(L d:Addr):cA:=(Vj g h L).filter λp=>decide (p.1≠d)
structure Mod(K:aw)(mg:Str->Option aa)(b?:Heap):Prop where
 kin:K.In b?
 yr:b?.Ns aQ mg
 blt:∃mb,b?.Ns builtinsNs mb/\∀x:Str,x≠"__name__" -> mb x=dN x
 nolimit:b?.NoLimit
structure Cx where
 prog:aB
 w:az
 K:aw
 mg:Str->Option aa
 b?:Heap
 A:aG
 N:aE
 s₀:af
 H₀:Hp
 cb:Env
 dg:List Env
 stack:List Env
 ex:List Addr
 fn:Str->Bool
 ll:Bool
 pn:cA
 xe:aa->af->Prop
def xr(l:List Env):List Addr:=l.filterMap (·.frame)
abbrev Cx.fs(X:Cx):List Addr:=xr X.dg
def Vis(a:cJ)(x:Str):Prop:=a.names.lookup x=U .local\/a.names.lookup x=U .cell\/a.names.lookup x=U .free
def Loc(a:cJ)(x:Str):Prop:=a.names.lookup x=U .local\/a.names.lookup x=U .cell
def Look(cb:Env)(h:Heap)(m:Str->Option aa)(x:Str)(u:aa):Prop:=
 (cb.kindOf x=U .local/\m x=U u)\/((cb.kindOf x=U .cell\/cb.kindOf x=U .free)/\∃c,cb.cells.lookup x=U c/\h.IsCell c (U u))
structure Cx.Ok(X:Cx):Prop where
 y':Mod X.K X.mg X.b?
 kind:X.cb.scope.kind=.function
 yr:X.cb.globals=aQ
 blt:X.cb.builtins=builtinsNs
 above:X.s₀.heap.objs.size<=X.cb.locals
 inj:∀x y c,X.cb.cells.lookup x=U c->X.cb.cells.lookup y=U c->x=y
 has:∀x,(X.cb.kindOf x=U .cell\/X.cb.kindOf x=U .free)->∃c,X.cb.cells.lookup x=U c
 cab:∀x c,X.fn x=γ->X.cb.cells.lookup x=U c->X.s₀.heap.objs.size<=c
 hd:X.ll=γ->X.A.handled=O
 frames:X.A.frames=U X.stack
 stk:X.stack=X.dg\/(X.stack=X.cb::X.dg/\X.cb.frame=U X.cb.locals)
 exf:∀b∈X.ex,b≠X.cb.locals/\∀x c,X.cb.cells.lookup x=U c->c≠b
 bs:∀b o,X.b?.get? b=U o->X.s₀.heap.get? b=U o/\X.H₀ b=O
 bsz:X.b?.objs.size<=X.s₀.heap.objs.size
 S2:∀b o,X.b?.get? b=U o->b∉X.ex
 W':∀b∈X.ex,b∉X.fs
 qi:X.s₀.heap.FunFrames X.b? X.dg
 frf:∀b∈X.fs,X.H₀ b=O
structure dr(X:Cx)(pins:cA)(σ:List (Option V))(H:Hp)(s:af):Prop where
 ok:X.Ok
 os:s.os=X.s₀.os
 gi:d8 s.gens
 b?:Un X.fs X.ex X.H₀ H X.s₀.heap s.heap
 C':∃m,s.heap.Ns X.cb.locals m/\∀(i:Nat) (x:Str) (v:V),X.N[i]?=U x->σ[i]?=U (U v)->Vis X.cb.scope x->∃u,eo v u/\Look X.cb s.heap m x u
 cell:∀x c,X.cb.cells.lookup x=U c->∃v,s.heap.IsCell c v
 free:H X.cb.locals=O
 ke:∀x c,X.cb.cells.lookup x=U c->H c=O
 C?:∀p∈X.pn++pins,s.heap.get? p.1=U p.2/\H p.1=O/\p.1≠X.cb.locals/\p.1∉X.fs/\∀v,p.2.data≠.cell v
 fb:p5 X.prog X.w H s.heap
 len:σ.length=X.N.length
section
variable{X:Cx}{pins:cA}{σ:List (Option V)}{H H':Hp}{s:af}{h':Heap}
def Cx.Ok.nofr(ok:X.Ok)(e:X.b?.get? b=U o):b∉X.fs:=λa=>by have:=(ok.qi.mem a).1;rw[e]at this;cases this
theorem dr.bs(I:dr X pins σ H s):∀b o,X.b?.get? b=U o->s.heap.get? b=U o/\H b=O:=λb o e=>
 ⟨I.b?.keep b o (I.ok.bs b o e).1 (I.ok.bs b o e).2 (I.ok.nofr e) (I.ok.S2 b o e),I.b?.free b o (I.ok.bs b o e).1 (I.ok.bs b o e).2 (I.ok.S2 b o e)⟩
def dr.bk(I:dr X pins σ H s):∀b o,X.b?.get? b=U o->s.heap.get? b=U o:=λb o e=>(I.bs b o e).1
theorem dr.y'(I:dr X pins σ H s):Mod X.K X.mg X.b?:=I.ok.y'
def dr.ny(I:dr X pins σ H s):X.K.In s.heap:=I.ok.y'.kin.keeps I.bk
def dr.fr(I:dr X pins σ H s):∃m,Fr X.b? X.cb.locals s.heap m:=
 let ⟨m,a,_⟩:=I.C'
 ⟨m,a,I.bk,bF I.ok.bsz I.ok.above⟩
theorem dr.lt(I:dr X pins σ H s):X.cb.locals<s.heap.objs.size:=let ⟨_,a,_⟩:=I.C';a.lt
def dr.sz(I:dr X pins σ H s):X.s₀.heap.objs.size<=s.heap.objs.size:=bF I.ok.above (f6 I.lt)
def dr.nofs(I:dr X pins σ H s)(h:s.heap.objs.size<=a):a∉X.fs:=λb=>by obtain⟨_,o,c,_⟩:=I.ok.qi.mem b;exact ar (cn (aP c) (bF I.sz h)) (eI _)
def dr.cne(I:dr X pins σ H s):∀x c,X.cb.cells.lookup x=U c->c≠X.cb.locals:=λx c e z=>by obtain⟨v,o,d,hd⟩:=I.cell x c e;obtain⟨m,⟨i,h,f,b,a,_⟩,_⟩:=I.C';rw[z,b]at d;cases d;rw[a]at hd;cases hd
theorem dr.qi(I:dr X pins σ H s):s.heap.FunFrames X.b? X.dg:=by
 have all:∀(l:List Env),(∀b∈xr l,b∈X.fs)->X.s₀.heap.FunFrames X.b? l->s.heap.FunFrames X.b? l:=by
  intro l
  induction l with
  |nil=>intro _ _;trivial
  |cons cb r p=>intro d h;obtain⟨f,⟨L,o,c,i,j,hd⟩,m⟩:=h;have hL:L∈X.fs:=d L (by unfold xr;rw[eB,c];exact bb);obtain⟨q,e⟩:=I.b?.slot L o j (I.ok.frf L hL) hL λz=>I.ok.W' L z hL;exact⟨f,⟨L,_,c,i,e,hd⟩,p (λb a=>d b (by unfold xr;rw[eB,c];exact ba _ a)) m⟩
 exact all X.dg (λv a=>a) I.ok.qi
theorem dr.stack(I:dr X pins σ H s):s.heap.FunFrames X.b? X.stack:=by
 rcases I.ok.stk with e|⟨e,a⟩
 .rw[e];exact I.qi
 .rw[e];obtain⟨m,b,_⟩:=I.C';refine .cons (by rw[I.ok.kind];decide) a b ?_ I.qi;exact Heap.get?_none_of_le (bF I.ok.bsz I.ok.above)
def dr.O'(I:dr X pins σ H s):∀b∈xr X.stack,b∈X.cb.locals::X.fs:=λb a=>by
 rcases I.ok.stk with e|⟨e,c⟩
 .rw[e]at a;exact ba _ a
 .rw[e]at a;unfold xr at a;rw[eB,c]at a;exact a
def dr.N'(I:dr X pins σ H s):∀b∈xr X.stack,H b=O:=λb hb=>by
 rcases aJ.1 (I.O' b hb)with e|hb
 .rw[e];exact I.free
 .obtain⟨_,o,a,_⟩:=I.ok.qi.mem hb;exact I.b?.free b o a (I.ok.frf b hb) λz=>I.ok.W' b z hb
def dr.step{g':Array gm}{t':Nat}{d':Drawn}{ch:List Addr}(I:dr X pins σ H s)
  (hch:∀b∈ch,(b∈X.ex\/X.s₀.heap.objs.size<=b)/\b≠X.cb.locals/\(∀x c,X.cb.cells.lookup x=U c->c≠b)/\∀p∈X.pn++pins,p.1≠b)
  (keep:∀b o,b≠X.cb.locals->b∉X.fs->b∉ch->s.heap.get? b=U o->H b=O->h'.get? b=U o)
  (slot:∀b o,b≠X.cb.locals->b∈X.fs->b∉ch->s.heap.get? b=U o->H b=O->∃sl,h'.get? b=U { o with slots:=sl }) (free:∀b o,b∉ch->s.heap.get? b=U o->H b=O->H' b=O)
  (there:∀b o,b∉ch->s.heap.get? b=U o->∃t,h'.get? b=U t)
  (sh:∀b xs,H b=U (.ef xs)->H' b=U (.ef xs)) (tz:∀b o u,H b=U (.oz o u)->H' b=U (.oz o u)) (x1:∀b ps,H b=U (.tbl ps)->∃more,H' b=U (.tbl (ps++more)))
  (ns:∀m,s.heap.Ns X.cb.locals m->h'.Ns X.cb.locals m) (fb:p5 X.prog X.w H' h') (hg:d8 g'):
  dr X pins σ H' { s with heap:=h',gens:=g',drawn:=d',toks:=t' }:=by
 have neL:∀b o,X.s₀.heap.get? b=U o->b≠X.cb.locals:=λb o e=>aW (cn (aP e) I.ok.above);have neC:∀b o,X.s₀.heap.get? b=U o->b∉X.ex->b∉ch:=λb o e a hb=>by
  rcases(hch b hb).1 with z|z
  .exact a z
  .exact ar (cn (aP e) z) (eI _)
 have cellK:∀x c,X.cb.cells.lookup x=U c->∀v,s.heap.IsCell c v->h'.IsCell c v:=λx c e v ⟨o,h,hd⟩=>by
  have nch:c∉ch:=λz=>(hch c z).2.2.1 x c e Z;by_cases A:c∈X.fs
  .obtain⟨sl,q⟩:=slot c o (I.cne x c e) A nch h (I.ke x c e);exact⟨_,q,hd⟩
  .exact⟨o,keep c o (I.cne x c e) A nch h (I.ke x c e),hd⟩
 refine⟨I.ok,I.os,hg,⟨λb o e n hb a=>?_,λb o e n hb a=>?_,λb o e n a=>?_,λb o e a=>?_,λb xs e=>sh b xs (I.b?.sh b xs e),λb o xs e=>tz b o xs (I.b?.tz b o xs e),λb ps e=>?_⟩,?_,λx c e=>?_,?_,λx c e=>?_,λp B=>?_,fb,I.len⟩
 .exact keep b o (neL b o e) hb (neC b o e a) (I.b?.keep b o e n hb a) (I.b?.free b o e n a)
 .obtain⟨sl,f⟩:=I.b?.slot b o e n hb a;obtain⟨y,j⟩:=slot b _ (neL b o e) hb (neC b o e a) f (I.b?.free b o e n a);exact⟨y,j⟩
 .obtain⟨t,f⟩:=I.b?.there b o e a;exact free b t (neC b o e a) f (I.b?.free b o e n a)
 .obtain⟨t,f⟩:=I.b?.there b o e a;exact there b t (neC b o e a) f
 .obtain⟨F,f⟩:=I.b?.x1 b ps e;obtain⟨G,j⟩:=x1 b _ f;exact⟨F++G,by rw[j,Array.append_assoc]⟩
 .obtain⟨m,hn,E⟩:=I.C';refine⟨m,ns m hn,λi x v f j C=>?_⟩;obtain⟨u,r,l⟩:=E i x v f j C;refine⟨u,r,?_⟩;rcases l with l|⟨k,c,e,z⟩
  .exact .inl l
  .exact .inr ⟨k,c,e,cellK x c e _ z⟩
 .obtain⟨v,z⟩:=I.cell x c e;exact⟨v,cellK x c e v z⟩
 .obtain⟨m,⟨o,_,_,h,_⟩,_⟩:=I.C';exact free _ o (λz=>(hch _ z).2.1 Z) h I.free
 .obtain⟨v,o,h,hd⟩:=I.cell x c e;exact free c o (λz=>(hch c z).2.2.1 x c e Z) h (I.ke x c e)
 .obtain⟨e,n,ne,nf,d⟩:=I.C? p B;have nch:p.1∉ch:=λz=>(hch p.1 z).2.2.2 p B Z;exact⟨keep p.1 p.2 ne nf nch e n,free p.1 p.2 nch e n,ne,nf,d⟩
def dr.un(I:dr X pins σ H s)(u:Un X.fs [] H H' s.heap h')(fb:p5 X.prog X.w H' h'):dr X pins σ H' { s with heap:=h',toks:=t' }:=by
 obtain⟨m,⟨o,es,ep,d,r⟩,_⟩:=id I.C';obtain⟨sl,hL⟩:=u.any d I.free (by simp);exact I.step (g':=s.gens) (d':=s.drawn) (ch:=[]) (λv z=>nomatch z) (λb o v hb v e n=>u.keep b o e n hb (by simp)) (λb o v hb v e n=>u.slot b o e n hb (by simp)) (λb o v e n=>u.free b o e n (by simp)) (λb o v e=>u.there b o e (by simp)) u.sh u.tz u.x1 (λj hm=>by
  obtain⟨l,es',c,a,f⟩:=hm;rw[d]at a;cases a;exact⟨_,es',c,hL,f⟩) fb I.gi
def dr.call(I:dr X pins σ H s)(u:Un (xr X.stack) ch H H' s.heap h')(fb:p5 X.prog X.w H' h')(hg:d8 g')
  (hch:∀b∈ch,(b∈X.ex\/X.s₀.heap.objs.size<=b)/\b≠X.cb.locals/\(∀x c,X.cb.cells.lookup x=U c->c≠b)/\∀p∈X.pn++pins,p.1≠b):
  dr X pins σ H' { s with heap:=h',gens:=g',drawn:=d',toks:=t' }:=by
 obtain⟨m,⟨o,es,ep,h,r⟩,_⟩:=id I.C';obtain⟨sl,hL⟩:=u.any h I.free λz=>(hch _ z).2.1 Z;exact I.step (ch:=ch) hch (λb o hL hb a e n=>u.keep b o e n (λz=>(aJ.1 (I.O' b z)).elim hL hb) a) (λb o v v a e n=>u.any e n a) (λb o a e n=>u.free b o e n a) (λb o a e=>u.there b o e a) u.sh u.tz u.x1 (λj hm=>by
  obtain⟨l,es',f,d,i⟩:=hm;rw[h]at d;cases d;exact⟨_,es',f,hL,i⟩) fb hg
def dr.k?(I:dr X pins σ H s)(k:∀b o,b≠it->s.heap.get? b=U o->h'.get? b=U o)(hn:H it=O)(hL:it≠X.cb.locals)
  (h1:it∈X.ex\/X.s₀.heap.objs.size<=it) (h2:∀x c,X.cb.cells.lookup x=U c->c≠it) (h3:∀p∈X.pn++pins,p.1≠it):dr X pins σ H { s with heap:=h',toks:=t' }:=by
 have nit:∀b u,H b=U u->b≠it:=λb u e z=>by rw[z,hn]at e;cases e
 refine I.step (g':=s.gens) (d':=s.drawn) (ch:=[it]) (λb hb=>?_) (λb o h h a e h=>k b o (λz=>a (by simp[z])) e) (λb o h h a e h=>⟨o.slots,k b o (λz=>a (by simp[z])) e⟩) (λh h h h n=>n)
  (λb o a e=>⟨o,k b o (λz=>a (by simp[z])) e⟩) (λh h e=>e) (λh h h e=>e) (λb ps e=>⟨#[],by rw[e];simp⟩) (λm hm=>?_) (λb u e=>?_) I.gi
 .have e:b=it:=by simpa using hb
  subst e;exact⟨h1,hL,h2,h3⟩
 .obtain⟨o,es,ep,d,r⟩:=hm;exact⟨o,es,ep,k _ o (cE hL) d,r⟩
 .refine(I.fb b u e).U' (λc v a q=>k c v ?_ q) (λh q=>q) λh h q=>q;rcases a with z|z
  .rw[z];exact nit b u e
  .exact nit c _ z
def dr.vl(I:dr X pins σ H s)(t:Nat):dr X pins σ H { s with toks:=t }:=I.un (h':=s.heap) (t':=t) Un.refl I.fb
theorem dr.f?(I:dr X pins σ H s)(k:∀b u,s.heap.get? b=U u->h'.get? b=U u):dr X pins σ H { s with heap:=h',toks:=t' }:=I.un (Un.f? k) (I.fb.f? k)
theorem dr.laid(I:dr X pins σ H s)(k:∀b u,s.heap.get? b=U u->h'.get? b=U u)(c:s.heap.objs.size<=a)(new:e8 X.prog X.w (e7 H a o) h' a o):
  dr X pins σ (e7 H a o) { s with heap:=h',toks:=t' }:=I.un (Un.laid k c (I.fb.fresh c)) (I.fb.laid k c new)
theorem dr.v?(I:dr X pins σ H s)(c:Mut (H x))(a:e=x\/H e=U (.i1 x))(k:∀b u,b≠e->s.heap.get? b=U u->h'.get? b=U u)(heo:∃u,h'.get? e=U u)
  (new:e8 X.prog X.w (e7 H x o) h' x o):dr X pins σ (e7 H x o) { s with heap:=h',toks:=d }:=I.un (Un.v? c a k heo) (I.fb.v? c a k heo new)
def dr.ea{a:List (Option V)}(I:dr X pins σ H s)(f:a.length=σ.length)(w:∀(i:Nat) v,a[i]?=U (U v)->σ[i]?=U (U v)):dr X pins a H s:=
 ⟨I.ok,I.os,I.gi,I.b?,let ⟨m,h,b⟩:=I.C';⟨m,h,λi x v c d e=>b i x v c (w i v d) e⟩,I.cell,I.free,I.ke,I.C?,I.fb,f.t I.len⟩
def dr.ω(I:dr X pins σ H s)(h:∀p∈a,s.heap.get? p.1=U p.2/\H p.1=O/\p.1≠X.cb.locals/\p.1∉X.fs/\∀v,p.2.data≠.cell v):dr X a σ H s:=
 ⟨I.ok,I.os,I.gi,I.b?,I.C',I.cell,I.free,I.ke,λp b=>(aO.1 b).elim (λz=>I.C? p (bK _ z)) (h p),I.fb,I.len⟩
def HM{N:aE}(hN:N.Nodup){i j:Nat}{x:Str}(a:N[i]?=U x)(b:N[j]?=U x):i=j:=by obtain⟨e,c⟩:=bR.1 a;obtain⟨f,d⟩:=bR.1 b;exact(lA hN).1 (c.t d.symm)
def Qg(I:dr X pins σ H s)(hN:X.N.Nodup)(hi:X.N[i]?=U x)(t:Loc X.cb.scope x)(r:eo v u)
  (h:∀s',dr X pins (σ.set i (U v)) H s'->(∃a,dO a s.heap s'.heap/\(a=X.cb.locals\/X.cb.cells.lookup x=U a))->Q () s') (hf:X.fn x=γ\/X.cb.scope.names.lookup x=U .local:=by first|exact .inl Z|exact .inr Z|assumption):ao M A (storeName X.cb x u) Q E s:=by
 obtain⟨m,hn,hl⟩:=id I.C';have hcls:(X.cb.scope.kind==.class||(X.cb.scope.kind==.module&&X.cb.locals != X.cb.globals))=δ:=by rw[I.ok.kind];rfl
 have hiσ:i<σ.length:=by rw[I.len];exact(bR.1 hi).1
 have cne:=I.cne;have tracked:∀{a:Addr} {h':Heap},(∃o,s.heap.get? a=U o/\H a=O)->dO a s.heap h'->p5 X.prog X.w H h':=λ{a h'} ha hs b ob e=>by
  obtain⟨_,_,hfree⟩:=ha;refine(I.fb b ob e).U' (λc P l q=>(hs.2 c ?_).t q) (λg q=>q) λg g q=>q;rintro rfl;rcases l with rfl|l
  .rw[hfree]at e;cases e
  .rw[hfree]at l;cases l
 rcases t with C|C
 .refine wpAny_storeName_local C hn (λh' S hs=>?_) hcls;obtain⟨oL,_,_,hoL,_⟩:=id hn;refine h _ ⟨I.ok,I.os,I.gi,⟨λb o e n hb t=>?_,λb o e n hb t=>?_,I.b?.free,λb o e t=>?_,I.b?.sh,I.b?.tz,I.b?.x1⟩,⟨_,S,λj y v' f B R=>?_⟩,λy c e=>?_,I.free,I.ke,λp T=>?_,tracked ⟨oL,hoL,I.free⟩ hs,by simpa using I.len⟩ ⟨_,hs,.inl Z⟩
  .exact(hs.2 b (aW (cn (aP e) I.ok.above))).t (I.b?.keep b o e n hb t)
  .obtain⟨sl,f⟩:=I.b?.slot b o e n hb t;exact⟨sl,(hs.2 b (aW (cn (aP e) I.ok.above))).t f⟩
  .obtain⟨W,f⟩:=I.b?.there b o e t;exact⟨W,(hs.2 b (aW (cn (aP e) I.ok.above))).t f⟩
  .by_cases F:j=i
   .subst F;rw[hi]at f;cases f;rw[gx hiσ]at B;cases B;exact⟨u,r,.inl ⟨C,by simp⟩⟩
   .rw[eh (cE F)]at B;obtain⟨u',Y,q⟩:=hl j y v' f B R;refine⟨u',Y,?_⟩;rcases q with ⟨k,e⟩|⟨k,c,e,z⟩
    .refine .inl ⟨k,?_⟩;have:y≠x:=λe=>F (HM hN f (e▸hi));simp[this,e]
    .exact .inr ⟨k,c,e,z.sameBut hs (cne y c e)⟩
  .obtain⟨P,z⟩:=I.cell y c e;exact⟨P,z.sameBut hs (cne y c e)⟩
  .obtain⟨e,n,ne,nf,d⟩:=I.C? p T;exact⟨(hs.2 p.1 ne).t e,n,ne,nf,d⟩
 .have hfn:X.fn x=γ:=by
   rcases hf with z|z
   .exact z
   .rw[z]at C;cases C
  obtain⟨c,l⟩:=I.ok.has x (.inl C);obtain⟨P,z⟩:=I.cell x c l;refine wpAny_storeName_cell I.ok.kind C l z (λh' G hs=>?_);obtain⟨oc,hoc,hocd⟩:=id z;refine h { s with heap:=h' } ⟨I.ok,I.os,I.gi,⟨λb o e n hb t=>?_,λb o e n hb t=>?_,I.b?.free,λb o e t=>?_,I.b?.sh,I.b?.tz,I.b?.x1⟩,⟨m,hn.sameBut hs (cE (cne x c l)),λj y v' f B R=>?_⟩,λy J e=>?_,I.free,I.ke,λp T=>?_,tracked ⟨oc,hoc,I.ke x c l⟩ hs,by simpa using I.len⟩ ⟨c,hs,.inr l⟩
  .exact(hs.2 b (aW (cn (aP e) (I.ok.cab x c hfn l)))).t (I.b?.keep b o e n hb t)
  .obtain⟨sl,f⟩:=I.b?.slot b o e n hb t;exact⟨sl,(hs.2 b (aW (cn (aP e) (I.ok.cab x c hfn l)))).t f⟩
  .obtain⟨W,f⟩:=I.b?.there b o e t;exact⟨W,(hs.2 b (aW (cn (aP e) (I.ok.cab x c hfn l)))).t f⟩
  .by_cases F:j=i
   .subst F;rw[hi]at f;cases f;rw[gx hiσ]at B;cases B;exact⟨u,r,.inr ⟨.inl C,c,l,G⟩⟩
   .rw[eh (cE F)]at B;obtain⟨u',Y,q⟩:=hl j y v' f B R;refine⟨u',Y,?_⟩;rcases q with q|⟨k,J,e,z'⟩
    .exact .inl q
    .refine .inr ⟨k,J,e,z'.sameBut hs ?_⟩;rintro rfl;exact F (HM hN f (I.ok.inj _ _ _ e l▸hi))
  .by_cases hcc:J=c
   .subst hcc;exact⟨_,G⟩
   .obtain⟨w2,z2⟩:=I.cell y J e;exact⟨w2,z2.sameBut hs hcc⟩
  .obtain⟨e,n,ne,nf,d⟩:=I.C? p T;refine⟨(hs.2 p.1 ?_).t e,n,ne,nf,d⟩;intro q;rw[q,hoc]at e;have q':oc=p.2:=cP e;exact d P (by rw[<-q'];exact hocd)
def HN(I:dr X pins σ H s)(hN:X.N.Nodup)(c:X.N[i]?=U x)(d:Loc X.cb.scope x)(r:eo v u)
  (h:∀s',dr X pins (σ.set i (U v)) H s'->Q () s') (b:X.fn x=γ\/X.cb.scope.names.lookup x=U .local:=by first|exact .inl Z|exact .inr Z|assumption):ao M A (storeName X.cb x u) Q E s:=
 Qg I hN c d r (λs' a q=>h s' a) b
def dr.Rn{s':af}(I:dr X pins σ H s)(i:s'.os=s.os)(u:Un (xr X.stack) ch H H' s.heap s'.heap)(fb:p5 X.prog X.w H' s'.heap)(h:d8 s'.gens)
  (hch:∀b∈ch,(b∈X.ex\/X.s₀.heap.objs.size<=b)/\b≠X.cb.locals/\(∀x c,X.cb.cells.lookup x=U c->c≠b)/\∀p∈X.pn++pins,p.1≠b):dr X pins σ H' s':=by
 obtain⟨h',d,a,f,j⟩:=s';have e:j=s.os:=i;subst e;exact I.call (g':=d) (t':=f) (d':=a) u fb h hch
end
abbrev XK:=aa->Option Addr->Hp->Prop
abbrev St:=List (Option V)
abbrev VK:=V->Hp->Prop
abbrev TE:=St->Hp->VK->Prop
abbrev TT:=St->Hp->(Bool->Hp->Prop)->Prop
abbrev TA:=St->Hp->(bz->Hp->Prop)->Prop
structure t? where
 nx:St->Hp->Prop
 rt:VK
 bk:St->Hp->Prop:=λv v=>False
 ct:St->Hp->Prop:=λv v=>False
abbrev TS:=t?->St->Hp->Prop
def EP(X:Cx)(a:cA)(c:St)(Q:VK)(u:aa)(s':af):Prop:=∃v b,dr X a c b s'/\eo v u/\Q v b
def TP(X:Cx)(a:cA)(e:St)(Q:Bool->Hp->Prop)(b:Bool)(d:af):Prop:=∃c,dr X a e c d/\Q b c
def AP(X:Cx)(a:cA)(f:St)(Q:bz->Hp->Prop)(e:List aa)(d:af):Prop:=∃c b,dr X a f b d/\eg c e/\Q c b
def SP(X:Cx)(b:cA)(D:t?)(f:Flow)(s':af):Prop:=
 match f with
 |.next=>∃a c,dr X b a c s'/\D.nx a c
 |.brk=>∃a c,dr X b a c s'/\D.bk a c
 |.cont=>∃a c,dr X b a c s'/\D.ct a c
 |.ret u=>∃v a c,dr X b a c s'/\eo v u/\D.rt v c
def PE(X:Cx)(e:Expr)(t:TE):Prop:=
 ∀(a:cA) (s:af) (b:St) (H:Hp) (Q:VK),dr X a b H s->t b H Q->ao (model X.prog X.w) X.A (eval e X.cb) (EP X a b Q) X.xe s
def PT(X:Cx)(e:Expr)(t:TT):Prop:=
 ∀(a:cA) (s:af) (b:St) (H:Hp) (Q:Bool->Hp->Prop),dr X a b H s->t b H Q->ao (model X.prog X.w) X.A (isTrue e X.cb (eval e X.cb)) (TP X a b Q) X.xe s
def PW(X:Cx)(e:Expr)(t:TT):Prop:=
 ∀(whole:Sem aa) (a:cA) (s:af) (b:St) (H:Hp) (Q:Bool->Hp->Prop),dr X a b H s->t b H Q->ao (model X.prog X.w) X.A (isTrue e X.cb whole) (TP X a b Q) X.xe s
def PW.pt(h:PW X e t):PT X e t:=h _
def PA(X:Cx)(c:List Expr)(t:TA):Prop:=
 ∀(pos:Pos) (a:cA) (s:af) (b:St) (H:Hp) (Q:bz->Hp->Prop),dr X a b H s->t b H Q->ao (model X.prog X.w) X.A (spliced (bE pos (ay c X.cb))) (AP X a b Q) X.xe s
def PS(X:Cx)(st:Stmt)(t:TS):Prop:=
 ∀(a:cA) (s:af) (b:St) (H:Hp) (D:t?),dr X a b H s->t D b H->ao (model X.prog X.w) X.A (exec st X.cb) (SP X a D) X.xe s
def lr(X:Cx)(st:List Stmt)(t:TS):Prop:=
 ∀(a:cA) (s:af) (b:St) (H:Hp) (D:t?),dr X a b H s->t D b H->ao (model X.prog X.w) X.A (execs st X.cb) (SP X a D) X.xe s
def fu{c:Type}{t:Sem c}{Q b:c->af->Prop}{M:i3}{A:aG}{E:aa->af->Prop}{s:af}(h:ao M A t Q E s)(hQ:∀a s,Q a s->b a s):ao M A t b E s:=bQ h hQ λv v x=>x
section
variable{X:Cx}
def bin{a b:Expr}{o p:TE}(z:PE X a o)(B:PE X b p){c:cA}{s:af}{e:St}{H:Hp}{R:V->V->Hp->Prop}(I:dr X c e H s)(h:o e H λx m=>p e m λy d=>R x y d)
  {q:Type} {Q:q->af->Prop} {f:aa->aa->Sem q}
  (C:∀v u l x y d,dr X c e d l->eo x v->eo y u->R x y d->ao (model X.prog X.w) X.A (f v u) Q X.xe l):
  ao (model X.prog X.w) X.A (eval a X.cb) (λv i=>ao (model X.prog X.w) X.A (eval b X.cb) (λu j=>ao (model X.prog X.w) X.A (f v u) Q X.xe j) X.xe i) X.xe s:=by
 refine fu (z c s e H _ I h) λv M zz=>?_;obtain⟨x,m,r,G,E⟩:=zz;refine fu (B c M e m _ r E) λu l zz=>?_;obtain⟨y,d,t,J,F⟩:=zz;exact C v u l x y d t G J F
def z7(i:Nat):TE:=λa H Q=>∃v,a[i]?=U (U v)/\Q v H
def tC(v:V):TE:=λu H Q=>Q v H
def Ya(hN:X.N[i]?=U x)(p:Vis X.cb.scope x)(hd:(x==("__debug__" : Str))=δ:=by decide)(hcd:(x==("__classdict__" : Str))=δ:=by decide):PE X (.Name x pos) (z7 i):=by
 intro b s q H Q I h;obtain⟨v,e,h⟩:=h;obtain⟨m,o,f⟩:=I.C';obtain⟨u,r,l⟩:=f i x v hN e p;have fin:EP X b q Q u s:=⟨v,H,I,r,h⟩;rcases l with ⟨a,j⟩|⟨a,c,d,hcell⟩
 .exact mM (wpAny_loadName_local I.ok.kind a o j fin) hd
 .rcases a with a|a
  .exact mM (wpAny_loadName_cell I.ok.kind a d hcell fin) hd
  .exact mM (wpAny_loadName_free I.ok.kind a d hcell fin hcd) hd
def Nx{i j pos}:PE X (.Constant (.int i) j pos) (tC (.int i)):=λv v v H v I h=>wpAny_Constant_int ⟨.int i,H,I.vl _,⟨_,Z⟩,h⟩
def ab1{b j pos}:PE X (.Constant (.bool b) j pos) (tC (.Y b)):=λv v v H v I h=>Constant_bool ⟨.Y b,H,I,Z,h⟩
def Yc{j pos}:PE X (.Constant .none j pos) (tC .X):=λv v v H v I h=>Constant_none ⟨.X,H,I,Z,h⟩
def Yd{x j pos}:PE X (.Constant (.str x) j pos) (tC (.str x)):=λv v v H v I h=>Calls.Constant_str ⟨.str x,H,I.vl _,⟨_,Z⟩,h⟩
def Gl(X:Cx)(x:Str):Prop:=X.cb.kindOf x=U .globalImplicit
def z9(I:dr X a d H s)(b:Gl X x)(c:X.mg x=U u)(h:Q u s)
  (hd:(x==("__debug__" : Str))=δ:=by decide):ao (model X.prog X.w) X.A (eval (.Name x pos) X.cb) Q E s:=
 nD I.ok.kind b (Calls.loadGlobal_global (by rw[I.ok.yr];exact I.y'.yr.keeps I.bk) c h) hd
def Bj(I:dr X a l H s)(d:Gl X x)(e:X.mg x=O)(i:dN x=U u)(h:Q u s)
  (f:x≠"__name__" := by decide) (hd:(x==("__debug__" : Str))=δ:=by decide):ao (model X.prog X.w) X.A (eval (.Name x pos) X.cb) Q E s:=by
 obtain⟨j,b,c⟩:=I.y'.blt;exact nD I.ok.kind d (Calls.loadGlobal_builtin (by rw[I.ok.yr];exact I.y'.yr.keeps I.bk) e (by rw[I.ok.blt];exact b.keeps I.bk) ((c x f).t i) h) hd
def Ei(a:Gl X x)(b:X.mg x=U u)(r:eo v u)(hd:(x==("__debug__" : Str))=δ:=by decide):PE X (.Name x pos) (tC v):=
 λs s s H s I h=>z9 I a b ⟨v,H,I,r,h⟩ hd
def OJ(a:Gl X x)(b:X.mg x=O)(d:dN x=U u)(r:eo v u)(c:x≠"__name__" := by decide)(hd:(x==("__debug__" : Str))=δ:=by decide):PE X (.Name x pos) (tC v):=
 λs s s H s I h=>Bj I a b d ⟨v,H,I,r,h⟩ c hd
variable{a b:Expr}{ta tb:TE}{pos:Pos}
def PC(X:Cx)(h:CmpOp)(a b:Expr)(t:TE):Prop:=
 ∀(c:cA) (s:af) (f:St) (H:Hp) (Q:VK),dr X c f H s->t f H Q->
  ao (model X.prog X.w) X.A (eval a X.cb) (λv d=>ao (model X.prog X.w) X.A (eval b X.cb) (λu e=>ao (model X.prog X.w) X.A (bB h v u) (EP X c f Q) X.xe e) X.xe d) X.xe s
def tB(t:TE):TT:=λe H Q=>t e H λx d=>∃c,x=.Y c/\Q c d
def aeg(h:PC X i a b t)(f:fW i b=δ:=by first|exact nobehind _ (by decide) (by decide)|rfl):PT X (.Compare a [i] [b] pos) (tB t):=by intro e s w H Q I o;refine nU (fu (h e s w H _ I o) λv y f=>fu f λu z m=>fu m λc A zz=>?_) f;obtain⟨x,j,l,r,p⟩:=zz;obtain⟨d,rfl,q⟩:=p;cases r;exact dE ⟨j,l,q⟩
def Ye(h:PE X e t)(j:∀whole,isTrue e X.cb whole=(do let v<-whole;standAt e.pos;holding [v] (truthy v)):=by intro _;rfl):PT X e (tB t):=by intro c s p H Q I l;refine isTrue_plain (fu (h c s p H _ I l) λv r zz=>?_) (j _);obtain⟨x,f,i,o,m⟩:=zz;obtain⟨d,rfl,q⟩:=m;cases o;exact dE ⟨f,i,q⟩
variable{tA tB':TT}{fc:List Expr}
def tAnd(t u:TT):TT:=λe H Q=>t e H λc d=>if c=γ then u e d Q else Q δ d
def tOr(t u:TT):TT:=λe H Q=>t e H λc d=>if c=γ then Q γ d else u e d Q
def tNot(t:TT):TT:=λe H Q=>t e H λc d=>Q (!c) d
def Vk(f:PT X a tA):PW X (.BoolOp .And [a] pos) tA:=by
 intro l d s i H Q I h;refine isTrue_and (fu (f d s i H Q I h) λc j e=>?_);cases c with
 |true=>exact isTrue_and_nil e
 |false=>exact e
def Yf(f:PT X a tA):PW X (.BoolOp .Or [a] pos) tA:=by
 intro l d s i H Q I h;refine isTrue_or (fu (f d s i H Q I h) λc j e=>?_);cases c with
 |false=>exact isTrue_or_nil e
 |true=>exact e
def Yg(l:PT X a tA)(m:PW X (.BoolOp .And (b::fc) pos) tB'):PW X (.BoolOp .And (a::b::fc) pos) (tAnd tA tB'):=by
 intro p d s j H Q I h;refine isTrue_and (fu (l d s j H _ I h) λc o zz=>?_);obtain⟨e,f,i⟩:=zz;cases c with
 |true=>exact m p d o j e Q f i
 |false=>exact⟨e,f,i⟩
def ab3(l:PT X a tA)(m:PW X (.BoolOp .Or (b::fc) pos) tB'):PW X (.BoolOp .Or (a::b::fc) pos) (tOr tA tB'):=by
 intro p d s j H Q I h;refine isTrue_or (fu (l d s j H _ I h) λc o zz=>?_);obtain⟨e,f,i⟩:=zz;cases c with
 |true=>exact⟨e,f,i⟩
 |false=>exact m p d o j e Q f i
def Yh(f:PT X a tA):PT X (.UnaryOp .Not a pos) (tNot tA):=by intro d s i H Q I h;exact isTrue_not (f d s i H (λc e=>Q (!c) e) I h)
def ab4(ta tb:TE):TE:=λe H Q=>ta e H λx d=>∃c,x=.Y c/\if c=γ then tb e d Q else Q (.Y δ) d
def tOrV(ta tb:TE):TE:=λe H Q=>ta e H λx d=>∃c,x=.Y c/\if c=γ then Q (.Y γ) d else tb e d Q
def ab5(ta:TE):TE:=λe H Q=>ta e H λx d=>∃c,x=.Y c/\Q (.Y (!c)) d
def Yi{e}(h:PE X a t):PE X (.BoolOp e [a] pos) t:=λc s f H Q I d=>BoolOp_one (h c s f H Q I d)
def Yj(l:PE X a ta)(m:PE X (.BoolOp .And (b::fc) pos) tb):PE X (.BoolOp .And (a::b::fc) pos) (ab4 ta tb):=by
 intro d s j H Q I h;refine BoolOp_and (fu (l d s j H _ I h) λv p zz=>?_);obtain⟨x,f,i,o,e⟩:=zz;obtain⟨c,rfl,e⟩:=e;cases o;refine dE ?_;cases c with
 |true=>exact m d p j f Q i e
 |false=>exact⟨.Y δ,f,i,Z,e⟩
def ab6(l:PE X a ta)(m:PE X (.BoolOp .Or (b::fc) pos) tb):PE X (.BoolOp .Or (a::b::fc) pos) (tOrV ta tb):=by
 intro d s j H Q I h;refine BoolOp_or (fu (l d s j H _ I h) λv p zz=>?_);obtain⟨x,f,i,o,e⟩:=zz;obtain⟨c,rfl,e⟩:=e;cases o;refine dE ?_;cases c with
 |false=>exact m d p j f Q i e
 |true=>exact⟨.Y γ,f,i,Z,e⟩
def Ny(j:PE X a ta):PE X (.UnaryOp .Not a pos) (ab5 ta):=by intro d s m H Q I h;refine UnaryOp_ (fu (j d s m H _ I h) λv o zz=>?_);obtain⟨x,f,i,l,e⟩:=zz;obtain⟨c,rfl,e⟩:=e;cases l;exact not_of (dE ⟨.Y (!c),f,i,Z,e⟩)
def tIf(t:TT)(ta tb:TE):TE:=λd H Q=>t d H λc e=>if c=γ then ta d e Q else tb d e Q
def Ry(q:PT X c tA)(o:PE X a ta)(p:PE X b tb):PE X (.IfExp c a b pos) (tIf tA ta tb):=by
 intro e s f H Q I h;refine wpAny_IfExp (fu (q e s f H _ I h) λd m zz=>?_);obtain⟨i,j,l⟩:=zz;cases d with
 |true=>exact o e m f i Q j l
 |false=>exact p e m f i Q j l
end
def f5(K:aw)(H:Hp)(a:Addr)(c:bz):Prop:=
 Rd H a (.cf c)\/
  ∃(o:Obj) (b:Array aa) (n:Nat),K.lookup a=U o/\o.cls=.type "list" /\ o.dict=O/\o.data=.seq b n/\b.size<=aC/\eg c b.toList
def gk(K:aw)(H:Hp)(a:Addr)(c:bz):Prop:=
 Rd H a (.ef c)\/
  ∃(o:Obj) (b:Array aa) (n:Nat),K.lookup a=U o/\o.cls=.type "tuple" /\ o.data=.seq b n/\b.size<=aC/\eg c b.toList
def absV:aa->Option V
 |.none=>U .X
 |.bool b=>U (.Y b)
 |.int i _=>U (.int i)
 |.str x _=>U (.str x)
 |.bytes b _=>U (.byt b)
 |.float b _=>U (.flt b)
 |.ref a=>U (.ref a)
 |.type n=>U (.ty n)
 |_=>O
def eo.abs(r:eo x u):absV u=U x:=by
 cases x with
 |X=>cases r;rfl
 |Y _=>cases r;rfl
 |int _=>obtain⟨t,rfl⟩:=r;rfl
 |str _=>obtain⟨t,rfl⟩:=r;rfl
 |byt _=>obtain⟨t,rfl⟩:=r;rfl
 |flt _=>obtain⟨t,rfl⟩:=r;rfl
 |ref _=>cases r;rfl
 |ty _=>cases r;rfl
def eo.inj(r:eo x u)(q:eo y u):x=y:=cP (r.abs.symm.t q.abs)
theorem eg.inj:∀{b c:bz} {a:List aa},eg b a->eg c a->b=c
 |_,_,_,.nil,.nil=>rfl
 |_,_,_,.cons r t,.cons d e=>by rw[r.inj d,eg.inj t e]
section
variable{X:Cx}{pins:cA}{σ:St}{H:Hp}{s:af}{a:Addr}{xs ys:bz}
def f5.of{K:aw}(h:H a=U (.cf xs)):f5 K H a xs:=.inl (.inl h)
def gk.of{K:aw}(h:H a=U (.ef xs)):gk K H a xs:=.inl (.inl h)
def dr.list(I:dr X pins σ H s)(h:f5 X.K H a xs):∃b:List aa,eg xs b/\PlainL s.heap a b.toArray/\xs.length<=aC:=by
 rcases h with h|⟨o,b,n,d,c,hd,f,i,r⟩
 .obtain⟨z,b,n,r,e⟩:=h.ok I.fb;exact⟨b,r,⟨_,n,e,Z,Z,Z⟩,z⟩
 .refine⟨b.toList,r,⟨o,n,I.ny a o d,c,hd,by simpa using f⟩,?_⟩;have e:=r.length;simp only[bM]at e;omega
def dr.tuple(I:dr X pins σ H s)(h:gk X.K H a xs):∃b:List aa,eg xs b/\gp s.heap a b.toArray/\xs.length<=aC:=by
 rcases h with h|⟨o,b,n,d,c,f,i,r⟩
 .obtain⟨z,b,r,p,_⟩:=h.ok I.fb;exact⟨b,r,p,z⟩
 .refine⟨b.toList,r,⟨o,I.ny a o d,c,n,by simpa using f⟩,?_⟩;have e:=r.length;simp only[bM]at e;omega
def dr.S3(I:dr X pins σ H s)(h:f5 X.K H a xs)(l:f5 X.K H a ys):xs=ys:=by
 obtain⟨c,r,⟨o,n,e,_,_,d⟩,_⟩:=I.list h;obtain⟨b,m,⟨q,p,i,_,_,f⟩,_⟩:=I.list l;rw[e]at i;cases i;rw[d]at f;injection f with j _;have:c=b:=by simpa using bD qx j
 subst this;exact r.inj m
def dr.I'(I:dr X pins σ H s)(h:gk X.K H a xs)(l:gk X.K H a ys):xs=ys:=by
 obtain⟨c,r,⟨o,e,_,n,d⟩,_⟩:=I.tuple h;obtain⟨b,m,⟨q,i,_,p,f⟩,_⟩:=I.tuple l;rw[e]at i;cases i;rw[d]at f;injection f with j _;have:c=b:=by simpa using bD qx j
 subst this;exact r.inj m
end
abbrev Cx.g?(X:Cx)(E:aa->af->Prop):Cx:={ X with xe:=E }
abbrev Cx.nox(X:Cx):Cx:=X.g? λv v=>False
theorem Cx.Ok.g?{X:Cx}(ok:X.Ok)(E:aa->af->Prop):(X.g? E).Ok:=
 ⟨ok.y',ok.kind,ok.yr,ok.blt,ok.above,ok.inj,ok.has,ok.cab,ok.hd,ok.frames,ok.stk,ok.exf,ok.bs,ok.bsz,ok.S2,ok.W',ok.qi,ok.frf⟩
def Cx.Ok.ij{X:Cx}(ok:(X.g? E).Ok):X.Ok:=
 ⟨ok.y',ok.kind,ok.yr,ok.blt,ok.above,ok.inj,ok.has,ok.cab,ok.hd,ok.frames,ok.stk,ok.exf,ok.bs,ok.bsz,ok.S2,ok.W',ok.qi,ok.frf⟩
section
variable{X:Cx}{pins:cA}{σ:St}{H:Hp}{s:af}{E:aa->af->Prop}
theorem dr.g?(I:dr X pins σ H s)(E:aa->af->Prop):dr (X.g? E) pins σ H s:=⟨I.ok.g? E,I.os,I.gi,I.b?,I.C',I.cell,I.free,I.ke,I.C?,I.fb,I.len⟩
theorem dr.ij(I:dr (X.g? E) pins σ H s):dr X pins σ H s:=⟨I.ok.ij,I.os,I.gi,I.b?,I.C',I.cell,I.free,I.ke,I.C?,I.fb,I.len⟩
theorem SP.ij(h:SP (X.g? E) pins D f s'):SP X pins D f s':=by
 cases f with
 |next=>obtain⟨a,b,I,q⟩:=h;exact⟨a,b,I.ij,q⟩
 |brk=>obtain⟨a,b,I,q⟩:=h;exact⟨a,b,I.ij,q⟩
 |cont=>obtain⟨a,b,I,q⟩:=h;exact⟨a,b,I.ij,q⟩
 |ret u=>obtain⟨v,a,b,I,r,q⟩:=h;exact⟨v,a,b,I.ij,r,q⟩
theorem lr.nox{st:List Stmt}{t:TS}(h:lr X.nox st t):lr X st t:=λpins s σ H D I a=>
 bQ (h pins s σ H D (I.g? _) a) (λv v q=>q.ij) λv v z=>cM z
end
section
variable{X:Cx}{st:Stmt}{fc:List Stmt}{t u:TS}{e:Expr}{te:TE}{pos:Pos}
def ab7:TS:=λD a H=>D.nx a H
def tSeq(t u:TS):TS:=λD σ H=>t { D with nx:=u D } σ H
def OK:lr X [] ab7:=λv v a H v I h=>fU ⟨a,H,I,h⟩
def Ce(h1:PS X st t)(h2:lr X fc u):lr X (st::fc) (tSeq t u):=by
 intro pins s σ H D I h;refine jI (fu (h1 pins s σ H { D with nx:=u D } I h) λf b q=>?_);cases f with
 |next=>obtain⟨σ',H',a,q⟩:=q;exact h2 pins b σ' H' D a q
 |ret v=>exact q
 |brk=>exact q
 |cont=>exact q
def Ej(b:PS X st t):lr X [st] t:=by
 intro a s c H D I h;refine jI (fu (b a s c H D I h) λf d q=>?_);cases f with
 |next=>exact fU q
 |ret v=>exact q
 |brk=>exact q
 |cont=>exact q
def dr.quiet(I:dr X a b H s):interactive X.cb=δ:=by simp[interactive,I.ok.kind]
def RA(te:TE):TS:=λD a H=>te a H λv b=>D.nx a b
def K2(f:PE X e te)(i:cw e O pos.line X.cb=pure δ:=by rfl):PS X (.Expr e pos) (RA te):=by intro a s b H D I h;exact pZ (fu (f a s b H _ I h) λv m ⟨x,c,d,l,j⟩=>⟨b,c,d,j⟩) I.quiet i
def tRet(te:TE):TS:=λD a H=>te a H D.rt
def NA(f:PE X e te):PS X (.Return (U e) pos) (tRet te):=by intro a s b H D I h;exact wpAny_Return_some (fu (f a s b H _ I h) λv l ⟨x,c,d,j,i⟩=>⟨x,b,c,d,j,i⟩)
def tIfS(c:TT)(t u:TS):TS:=λD a H=>c a H λb d=>if b=γ then t D a d else u D a d
def Xq(r:PT X c w)(p:lr X a t)(q:lr X b u):PS X (.If c a b pos) (tIfS w t u):=by
 intro f s i H D I h;refine wpAny_If (fu (r f s i H _ I h) λd o zz=>?_);obtain⟨j,l,m⟩:=zz;cases d with
 |true=>exact p f o i j D l m
 |false=>exact q f o i j D l m
end
abbrev TG:=V->St->Hp->(St->Hp->Prop)->Prop
abbrev TGs:=bz->St->Hp->(St->Hp->Prop)->Prop
def PG(X:Cx)(target:Expr)(t:TG):Prop:=
 ∀(a:cA) (s:af) (d:St) (H:Hp) (v:V) (u:aa) (Q:St->Hp->Prop),dr X a d H s->eo v u->t v d H Q->
  ao (model X.prog X.w) X.A (assign target X.cb u) (λr e=>∃b c,dr X a b c e/\Q b c) X.xe s
def X?(X:Cx)(i:List Expr)(t:TGs):Prop:=
 ∀(a:cA) (s:af) (f:St) (H:Hp) (e:bz) (d:List aa) (Q:St->Hp->Prop),dr X a f H s->eg e d->t e f H Q->
  ao (model X.prog X.w) X.A (assignInOrder ((cu i X.cb).map (·.2)) d) (λv h=>∃b c,dr X a b c h/\Q b c) X.xe s
abbrev TSet:=V->V->V->Hp->(Hp->Prop)->Prop
def PSet(X:Cx)(t:TSet):Prop:=
 ∀(a:cA) (s:af) (e:St) (H:Hp) (o i v:V) (d c u:aa) (Q:Hp->Prop),dr X a e H s->eo o d->eo i c->eo v u->t o i v H Q->
  ao (model X.prog X.w) X.A (setItem d c u) (λr f=>∃b,dr X a e b f/\Q b) X.xe s
section
variable{X:Cx}{pos:Pos}
def Aa(i:Nat):TG:=λv a H Q=>Q (a.set i (U v)) H
def OL(hN:X.N.Nodup)(d:X.N[i]?=U x)(e:Loc X.cb.scope x)(c:X.fn x=γ\/X.cb.scope.names.lookup x=U .local:=by first|exact .inl Z|exact .inr Z|assumption):PG X (.Name x pos) (Aa i):=by intro a s j H v u Q I r h;exact wpAny_assign_Name (HN I hN d e r (λf b=>⟨_,H,b,h⟩) c)
def gNil:TGs:=λa b H Q=>a=[]/\Q b H
def Xr(t:TG)(u:TGs):TGs:=λc d H Q=>∃v r,c=v::r/\t v d H λa b=>u r a b Q
def Vl:X? X [] gNil:=by intro a s b H d c Q I r h;obtain⟨e,h⟩:=h;subst e;cases r;exact assignInOrder_nil ⟨b,H,I,h⟩
def RB(j:PG X e t)(l:X? X b u)
  (m:(cu (e::b) X.cb).map (·.2)=assign e X.cb::(cu b X.cb).map (·.2):=by rfl):X? X (e::b) (Xr t u):=by
 intro a s w H z x Q I r h;obtain⟨v,y,i,h⟩:=h;subst i;cases r with
 |cons r p=>rw[m];refine assignInOrder_cons (fu (j a s w H _ _ _ I r h) λn q zz=>?_);obtain⟨c,d,f,o⟩:=zz;exact l a q c d _ _ Q f p o
def Yk(K:aw)(n:Nat)(t:TGs):TG:=λv c H Q=>∃a b,v=.ref a/\gk K H a b/\b.length=n/\t b c H Q
def Yl(i:X.ll=γ)(h:X? X es t)
  (hn:(cu es X.cb).length=n:=by rfl) (hst:(cu es X.cb).findIdx? (·.1)=O:=by rfl):PG X (.Tuple es k pos) (Yk X.K n t):=by
 intro pins s σ H v u Q I r hw;obtain⟨a,xs,f,l,j,hw⟩:=hw;subst f;cases r;obtain⟨q,c,m,w⟩:=I.tuple l;refine assign_Tuple_tuple (I.ok.hd i) m (by simp[hn,<- j,c.length]) hst λh' p=>?_;have d:dr X pins σ H { s with heap:=h' }:=I.f? (t':=s.toks) λb o e=>p b o (aW (aP e)) e;exact h pins _ σ H xs _ Q d (by simpa using c) hw
def gSub(to e:TE)(t:TSet):TG:=λv a H Q=>to a H λo b=>e a b λi c=>t o i v c λd=>Q a d
def Ym(z:PE X o to)(w:PE X i M)(A:PSet X t)
  (q:∀v,assign (.Subscript o i pos) X.cb v=(do
   let b<-holding [v] (eval o X.cb);let c<-holding [v,b] (eval i X.cb)
   standAt pos
   holding [v,b,c] (setItem b c v)
   release [v,b,c] []):=by intro _;rfl):PG X (.Subscript o i pos) (gSub to M t):=by
 intro a s d H v u Q I r h;rw[q];refine ag (bL (fu (z a s d H _ I h) λb G zz=>?_));obtain⟨x,e,l,E,B⟩:=zz;refine ag (bL (fu (w a G d e _ l B) λc J zz=>?_));obtain⟨y,f,m,F,C⟩:=zz;refine ag (jM (ag (bL (fu (A a J d f x y v b c u _ m E F r C) λn N zz=>?_))));obtain⟨j,p,q3⟩:=zz;exact wpAny_release ⟨d,j,p,q3⟩
def DT(c:TE)(g:TG):TS:=λD a H=>c a H λx b=>g x a b D.nx
def RD(j:PE X e u)(l:PG X b g)(m:swapsWithSole [b] e pos.line X.cb=pure δ:=by rfl)(o:swappedStores [b] e X.cb=pure O:=by rfl)
  (i:(cu [b] X.cb).map (·.2)=[assign b X.cb]:=by rfl):PS X (.Assign [b] e pos) (DT u g):=by
 intro a s c H D I h;refine wpAny_Assign_stores (fu (j a s c H _ I h) λv t zz=>?_) m o;obtain⟨x,d,f,r,p⟩:=zz;rw[i];exact fu (l a t c d x v _ f r p) λn w q=>q
def NB(hN:X.N.Nodup)(l:X.N[i]?=U x)(o:Loc X.cb.scope x)(f:PE X e r)(m:cw e (U (.Name x pos')) pos.line X.cb=pure δ:=by rfl)(j:X.fn x=γ\/X.cb.scope.names.lookup x=U .local:=by first|exact .inl Z|exact .inr Z|assumption):
  PS X (.Assign [.Name x pos'] e pos) (DT r (Aa i)):=by
 intro a s t H D I h;refine wpAny_Assign_Name (fu (f a s t H _ I h) λv u zz=>?_) m;obtain⟨y,b,c,q,p⟩:=zz;exact HN c hN l o q (λw d=>⟨_,b,d,p⟩) j
end
section
variable{X:Cx}{pos:Pos}
def RE(c:TT)(d:TS):TS:=λD σ H=>∃W:Nat->St->Hp->Prop,(∃m,W m σ H)/\∀m σ H,W m σ H->
 c σ H λb H1=>if b=γ then ∃N:St->Hp->Prop,(∀σ' H',N σ' H'->∃a,a<m/\W a σ' H')/\d { D with nx:=N,ct:=N,bk:=D.nx } σ H1 else D.nx σ H1
def RF(y:jW (model X.prog X.w) X.A X.cb X.xe)(C:PT X c P)(B:lr X body M):PS X (.While c body [] pos) (RE P M):=by
 intro a s S H D I h;obtain⟨W,⟨E,Q⟩,turn⟩:=h;refine wpAny_While (codeAny_whileLoop (λn F=>∃j r,dr X a j r F/\W n j r) ?_ E ⟨S,H,I,Q⟩);rintro n G ⟨e,t,z,R⟩;refine fV y (fu (C a G e t _ z (turn n e t R)) λb J zz=>?_);obtain⟨u,x,l⟩:=zz;cases b with
 |true=>
  obtain⟨N,hN,l⟩:=l;rw[ak Z];refine fV y (fu (B a J e u _ x l) λf T q3=>?_);cases f with
  |next=>obtain⟨d,i,m,q⟩:=q3;obtain⟨p,o,w3⟩:=hN d i q;exact⟨p,o,d,i,m,w3⟩
  |cont=>obtain⟨d,i,m,q⟩:=q3;obtain⟨p,o,w3⟩:=hN d i q;exact⟨p,o,d,i,m,w3⟩
  |brk=>exact q3
  |ret v=>exact q3
 |false=>rw[aq bw];exact fU ⟨e,u,x,l⟩
end
structure It where
 go:Nat->Hp->Prop
 yld:Nat->Hp->V->Hp->Prop
 stop:Nat->Hp->Prop
def K4(X:Cx)(a:cA)(H:Hp)(b:Addr):Prop:=
 H b=O/\b≠X.cb.locals/\b∉X.fs/\(b∈X.ex\/X.s₀.heap.objs.size<=b)/\(∀x c,X.cb.cells.lookup x=U c->c≠b)/\∀p∈X.pn++a,p.1≠b
def dr.fpOk(I:dr X d j H s)(a:s.heap.objs.size<=b)(h:f b=O):K4 X d f b:=by
 refine⟨h,f7 (cn I.lt a),I.nofs a,.inr (bF I.sz a),λx c e z=>?_,λp i z=>?_⟩
 .obtain⟨v,q⟩:=I.cell x c e;exact ar (cn q.lt (by rw[z];exact a)) (eI _)
 .exact ar (cn (aP (I.C? p i).1) (by rw[z];exact a)) (eI _)
structure Turn(P:aB)(w:az)(K:aw)(tg:Expr)(J:It)(fp:List Addr)(it:Addr)(tn:Nat->Heap->Prop):Prop where
 mem:it∈fp
 obj:∀i h,tn i h->∀b∈fp,∃o,h.get? b=U o/\∀v,o.data≠.cell v
 keep:∀i h h',tn i h->(∀b∈fp,∀o,h.get? b=U o->h'.get? b=U o)->tn i h'
 item:∀(X:Cx),X.prog=P->X.w=w->X.K=K->X.ll=γ->∀(i:Nat) (pins:cA) (s:af) (σ:St) (H:Hp) (E:aa->af->Prop),dr X pins σ H s->(∀b∈fp,K4 X pins H b)->tn i s.heap->J.go i H->
  ao (model P w) X.A (pyNext (.ref it)) (λr s1=>∃u,r=U u/\
   ao (model P w) X.A (iC tg (.ref it) u) (λq s2=>∃x H',dr X pins σ H' s2/\eo x u/\J.yld i H x H'/\tn (i+1) s2.heap/\∀b∈fp,H' b=O) E s1) E s
 done:∀(X:Cx),X.prog=P->X.w=w->X.K=K->X.ll=γ->∀(i:Nat) (pins:cA) (s:af) (σ:St) (H:Hp) (E:aa->af->Prop),dr X pins σ H s->(∀b∈fp,K4 X pins H b)->tn i s.heap->J.stop i H->
  ao (model P w) X.A (pyNext (.ref it)) (λr s1=>r=O/\dr X pins σ H s1) E s
 self:∀(A:aG) (i:Nat) (s:af) (Q:aa->af->Prop) (E:aa->af->Prop),tn i s.heap->Q (.ref it) s->ao (model P w) A (pyIter (.ref it)) Q E s
abbrev TI:=St->Hp->(It->Hp->Prop)->Prop
def PIE(X:Cx)(a:cA)(j:St)(i:Expr)(R:It->Hp->Prop)(itv:aa)(f:af):Prop:=
 ∃(e:Addr) (d:List Addr) (h:Nat->Heap->Prop) (J:It) (c:Hp),itv=.ref e/\dr X a j c f/\Turn X.prog X.w X.K i J d e h/\h 0 f.heap/\(∀b∈d,K4 X a c b)/\R J c
def PI(X:Cx)(d iter:Expr)(e:TI):Prop:=
 ∀(a:cA) (s:af) (b:St) (H:Hp) (R:It->Hp->Prop),dr X a b H s->e b H R->
  ao (model X.prog X.w) X.A (eval iter X.cb) (λv c=>ao (model X.prog X.w) X.A (pyIter v) (PIE X a b d R) X.xe c) X.xe s
def OM{s:af}(c:s.heap.get? d=U o)(a:o.cls=.type n)(hd:o.data=.fields f)
  (b:["enumerate", "zip", "dict_itemiterator", "dict_reverseitemiterator", "odict_iterator", "itertools.zip_longest", "itertools.pairwise"].contains n=δ) (hQ:Q () s):ao M A (iC e (.ref d) u) Q E s:=by
 unfold iC;cases e<;>first
  |exact au hQ
  |(cases u<;>first
    |exact au hQ
    |(refine ag (wpAny_load c ?_)
      rw[a,hd];show ao M A (if (["enumerate", "zip", "dict_itemiterator", "dict_reverseitemiterator", "odict_iterator", "itertools.zip_longest", "itertools.pairwise"].contains n&&f[0]?==U (rawInt _))=γ then _ else _) Q E s;rw[aq (by intro h;rw[b,Bool.false_and]at h;cases h)];exact au hQ))
def Itl(K:aw)(a:Addr):It:=
 ⟨λi H=>∃b x,f5 K H a b/\b[i]?=U x,λi H x c=>c=H/\∀b,f5 K H a b->b[i]?=U x,λi H=>∃b,f5 K H a b/\b.length<=i⟩
def Itt(K:aw)(a:Addr):It:=
 ⟨λi H=>∃b x,gk K H a b/\b[i]?=U x,λi H x c=>c=H/\∀b,gk K H a b->b[i]?=U x,λi H=>∃b,gk K H a b/\b.length<=i⟩
def Itr(lo:Int)(n:Nat):It:=⟨λi v=>i<n,λi H x a=>a=H/\x=.int (lo+i),λi v=>n<=i⟩
def Qh{P:aB}{w:az}{K:aw}{tg:Expr}(a it:Addr):Turn P w K tg (Itl K a) [it] it (λi h=>h.IsListIter it a i) where
 mem:=by simp
 obj:=λi h st b hb=>by
  have e:b=it:=by simpa using hb
  subst e;obtain⟨o,e,c,d⟩:=st;exact⟨o,e,λv z=>by rw[d]at z;cases z⟩
 keep:=λi h h' st k=>st.at λo e=>k it (by simp) o e
 item:=by intro X hP hw hK C i pins s σ H E I hf st hg;subst hP hw hK;obtain⟨xs,x,j,y⟩:=hg;obtain⟨A,B,p,Q⟩:=I.list j;obtain⟨u,M,R⟩:=B.get y;obtain⟨l,m,J,q,r,t⟩:=hf it (by simp);refine nP st p.isList (x:=u) (by simpa using M) λh' f S=>?_;have F:dr X pins σ H { s with heap:=h' }:=I.k? (t':=s.toks) (λb o hb e=>(S.2 b hb).t e) l m q r t;obtain⟨o,e,c,d⟩:=id f;exact⟨u,Z,OM (s:={ s with heap:=h' }) e c d (by decide) ⟨x,H,F,R,⟨Z,λY N=>by rw[I.S3 N j];exact y⟩,f,λb hb=>(hf b hb).1⟩⟩
 done:=by intro X hP hw hK C i pins s σ H E I hf st hg;subst hP hw hK;obtain⟨xs,j,y⟩:=hg;obtain⟨A,B,p,Q⟩:=I.list j;obtain⟨l,m,J,q,r,t⟩:=hf it (by simp);have W:=B.length;exact nV (I.ok.hd C) st p.isList (by simp;omega) λh' G=>⟨Z,I.k? (t':=s.toks) (λb o hb e=>G b o hb e) l m q r t⟩
 self:=λn n n n n st h=>wpAny_pyIter_listiter st h
def NC{P:aB}{w:az}{K:aw}{tg:Expr}(a it:Addr):Turn P w K tg (Itt K a) [it] it (λi h=>h.IsTupleIter it a i) where
 mem:=by simp
 obj:=λi h st b hb=>by
  have e:b=it:=by simpa using hb
  subst e;obtain⟨o,e,c,d⟩:=st;exact⟨o,e,λv z=>by rw[d]at z;cases z⟩
 keep:=λi h h' st k=>st.at λo e=>k it (by simp) o e
 item:=by intro X hP hw hK C i pins s σ H E I hf st hg;subst hP hw hK;obtain⟨xs,x,l,A⟩:=hg;obtain⟨f,B,p,Q⟩:=I.tuple l;obtain⟨u,M,R⟩:=B.get A;obtain⟨m,q,J,r,t,y⟩:=hf it (by simp);refine wpAny_pyNext_tuple_item st (show s.heap.IsTuple a f.toArray from p) (x:=u) (by simpa using M) λh' j S=>?_;have F:dr X pins σ H { s with heap:=h' }:=I.k? (t':=s.toks) (λb o hb e=>(S.2 b hb).t e) m q r t y;obtain⟨o,e,c,d⟩:=id j;exact⟨u,Z,OM (s:={ s with heap:=h' }) e c d (by decide) ⟨x,H,F,R,⟨Z,λY N=>by rw[I.I' N l];exact A⟩,j,λb hb=>(hf b hb).1⟩⟩
 done:=by intro X hP hw hK C i pins s σ H E I hf st hg;subst hP hw hK;obtain⟨xs,l,A⟩:=hg;obtain⟨f,B,p,Q⟩:=I.tuple l;obtain⟨m,q,J,r,t,y⟩:=hf it (by simp);have W:=B.length;exact wpAny_pyNext_tuple_end (I.ok.hd C) st (show s.heap.IsTuple a f.toArray from p) (by simp;omega) λh' G=>⟨Z,I.k? (t':=s.toks) (λb o hb e=>G b o hb e) m q r t y⟩
 self:=λn n n n n st h=>wpAny_pyIter_tupleiter st h
def ND{P:aB}{w:az}{K:aw}{tg:Expr}(it:Addr)(lo:Int)(n:Nat):Turn P w K tg (Itr lo n) [it] it (λi h=>IsRangeIter h it (lo+(i:Nat) * 1) ((n:Int) - (i:Nat)) 1) where
 mem:=by simp
 obj:=λi h st b hb=>by
  have e:b=it:=by simpa using hb
  subst e;exact⟨_,st,λv z=>by
   have y:Data.fields _=Data.cell v:=z;cases y⟩
 keep:=λi h h' st k=>k it (by simp) _ st
 item:=by intro X hP hw hK m i pins s σ H E I hf st hg;subst hP hw hK;obtain⟨c,d,r,f,j,l⟩:=hf it (by simp);have W:=Walks.range (prog:=X.prog) (w:=X.w) (I.ok.hd m) it lo 1 n;refine W.item i s _ _ hg st λv h' tk u a x=>?_;obtain⟨t,rfl⟩:=u;have p:dr X pins σ H { s with heap:=h',toks:=tk }:=I.k? (λb o hb e=>x b o (by simpa using hb) e) c d f j l;refine⟨_,Z,OM (s:={ s with heap:=h',toks:=tk }) (n:="range_iterator") a rfl Z (by decide) ⟨.int (lo+i),H,p,⟨t,?_⟩,⟨Z,Z⟩,a,λb hb=>(hf b hb).1⟩⟩;rw[Int.mul_one]
 done:=by intro X hP hw hK m i pins s σ H E I hf st hg;subst hP hw hK;obtain⟨c,d,r,f,j,l⟩:=hf it (by simp);exact wpAny_pyNext_range_end (I.ok.hd m) st (by have:n<=i:=hg;omega) λh' q=>⟨Z,I.k? (t':=s.toks) (λb o hb e=>q b o hb e) c d f j l⟩
 self:=λg g g g g st h=>wpAny_pyIter_rangeiter st h
section
variable{X:Cx}{tg:Expr}
def RG(K:aw)(c:TE):TI:=λe H R=>c e H λx b=>∃a,x=.ref a/\(∃d,f5 K b a d)/\R (Itl K a) b
def Yn(K:aw)(c:TE):TI:=λe H R=>c e H λx b=>∃a,x=.ref a/\(∃d,gk K b a d)/\R (Itt K a) b
def Vm{l:Expr}{i:TE}(r:PE X l i):PI X tg l (RG X.K i):=by
 intro c s z H R I h;refine fu (r c s z H _ I h) λv f zz=>?_;obtain⟨x,j,d,y,w⟩:=zz;obtain⟨a,e,⟨E,t⟩,q⟩:=w;subst e;cases y;obtain⟨u,B,p,A⟩:=d.list t;refine fP p.isList ?_;refine⟨f.heap.objs.size,[f.heap.objs.size],_,_,j,Z,d.f? (t':=f.toks) λb o e=>aK _ e,Qh a _,⟨_,bp _ Z,Z,Z⟩,λb m=>?_,q⟩;have e:b=f.heap.objs.size:=by simpa using m
 subst e;exact d.fpOk (aL _) (d.fb.fresh (aL _))
def Yo{l:Expr}{j:TE}(t:PE X l j):PI X tg l (Yn X.K j):=by
 intro c s z H R I h;refine fu (t c s z H _ I h) λv d zz=>?_;obtain⟨x,m,f,y,w⟩:=zz;obtain⟨a,e,⟨E,u⟩,q⟩:=w;subst e;cases y;obtain⟨i,B,p,A⟩:=f.tuple u;refine oJ (show d.heap.IsTuple a i.toArray from p) ?_;refine⟨d.heap.objs.size,[d.heap.objs.size],_,_,m,Z,f.f? (t':=d.toks) λb o e=>aK _ e,NC a _,⟨_,bp _ Z,Z,Z⟩,λb r=>?_,q⟩;have e:b=d.heap.objs.size:=by simpa using r
 subst e;exact f.fpOk (aL _) (f.fb.fresh (aL _))
def Ma{pins:cA}{σ:St}{H:Hp}{s:af}{R:It->Hp->Prop}{E:aa->af->Prop}{lo hi:Int}{t u v:Tok}{tk:Nat}(I:dr X pins σ H s)(h1:-(2 ^ 62)<=lo)(h2:lo<2 ^ 62)(h3:-(2 ^ 62)<=hi)(h4:hi<2 ^ 62)
  (q:R (Itr lo (hi - lo).toNat) H):ao (model X.prog X.w) X.A (pyIter (.ref s.heap.objs.size)) (PIE X pins σ tg R) E { s with heap:=s.heap.push { cls:=.type "range", data:=.fields #[.int lo t,.int hi u,.int 1 v] },toks:=tk }:=by
 refine wpAny_pyIter_range (IsRange.new ..) (small_one h1 h2 h3 h4) ?_;have a:dr X pins σ H { s with heap:=s.heap.push { cls:=.type "range", data:=.fields #[.int lo t,.int hi u,.int 1 v] },toks:=tk }:=I.f? λb o e=>aK _ e;refine⟨(s.heap.push { cls:=.type "range", data:=.fields #[.int lo t,.int hi u,.int 1 v] }).objs.size,[(s.heap.push { cls:=.type "range", data:=.fields #[.int lo t,.int hi u,.int 1 v] }).objs.size],_,_,H,Z,
  a.f? (t':=tk) λb o e=>aK _ e,ND _ lo (hi - lo).toNat,?_,λb hb=>?_,q⟩
 .have c:lo+((0:Nat):Int) * 1=lo:=by simp
  have d:(((hi - lo).toNat:Nat):Int) - ((0:Nat):Int)=sM lo hi 1:=by rw[rangeSize_one];split<;>omega
  show IsRangeIter _ _ (lo+((0:Nat):Int) * 1) ((((hi - lo).toNat:Nat):Int) - ((0:Nat):Int)) 1;rw[c,d];exact bp _ Z
 .have e:b=(s.heap.push { cls:=.type "range", data:=.fields #[.int lo t,.int hi u,.int 1 v] }).objs.size:=by simpa using hb
  subst e;exact a.fpOk (aL _) (a.fb.fresh (aL _))
def Xs(b:TA):TI:=λd H R=>b d H λc a=>∃j:Int,c=[.int j]/\-(2 ^ 62)<=j/\j<2 ^ 62/\R (Itr 0 j.toNat) a
def Xt(b:TA):TI:=λd H R=>b d H λc a=>∃i j:Int,c=[.int i,.int j]/\(-(2 ^ 62)<=i/\i<2 ^ 62/\-(2 ^ 62)<=j/\j<2 ^ 62)/\R (Itr i (j - i).toNat) a
def Qi{a:Expr}{d:TA}{p pos:Pos}(l:Gl X "range")(m:X.mg "range" = O)(i:PA X [a] d)(o:ay [a] X.cb=[(δ,eval a X.cb)]:=by rfl):PI X tg (.Call (.Name "range" p) [a] [] pos) (Xs d):=by
 intro b s y H R I h;refine Call_ (Bj I l m boot_range (callWith_type1 (fu (i pos b s y H _ I h) λB A zz=>?_) o Z));obtain⟨C,z,f,w,c⟩:=zz;obtain⟨j,e,c,u,q⟩:=c;subst e;cases w with
 |cons r x=>cases x;obtain⟨t,rfl⟩:=r;exact call_range_1 (Ma f (by omega) (by omega) c u (by simpa using q))
def Qj(u:Gl X "range")(w:X.mg "range" = O)(o:PA X [a,b] C)(x:ay [a,b] X.cb=[(δ,eval a X.cb),(δ,eval b X.cb)]:=by rfl)(c:ay [b] X.cb=[(δ,eval b X.cb)]:=by rfl):
  PI X tg (.Call (.Name "range" p) [a,b] [] pos) (Xt C):=by
 intro d s E H R I h;refine Call_ (Bj I u w boot_range (callWith_type1 (fu (o pos d s E H _ I h) λM G zz=>?_) (by rw[x,c]) (by rw[c];rfl)));obtain⟨N,F,m,B,f⟩:=zz;obtain⟨i,j,e,⟨f,y,q3,z⟩,q⟩:=f;subst e;cases B with
 |cons r l=>
  cases l with
  |cons A l=>cases l;obtain⟨t,rfl⟩:=r;obtain⟨J,rfl⟩:=A;exact call_range_2 (Ma m f y q3 z q)
def Yp(d:TI)(g:TG)(c:TS):TS:=λD σ H=>d σ H λJ H1=>∃W:Nat->Nat->St->Hp->Prop,(∃m,W 0 m σ H1)/\∀i m σ H,W i m σ H->
 (J.stop i H/\D.nx σ H)\/(J.go i H/\∃N:St->Hp->Prop,(∀σ' H',N σ' H'->∃b,b<m/\W (i+1) b σ' H')/\∀x H',J.yld i H x H'->g x σ H' λa H2=>c { D with nx:=N,ct:=N,bk:=D.nx } a H2)
def HP(a:List Addr)(h:Heap):cA:=a.filterMap λb=>(h.get? b).map λo=>(b,o)
def zv{h:Heap}(c:b∈a)(e:h.get? b=U o):(b,o)∈HP a h:=eC.2 ⟨b,c,by rw[e];rfl⟩
def Qk(f:p∈HP c h):p.1∈c/\h.get? p.1=U p.2:=by
 obtain⟨b,d,e⟩:=eC.1 f;cases q:h.get? b with
 |none=>rw[q]at e;cases e
 |some o=>rw[q]at e;have a:(b,o)=p:=cP e;subst a;exact⟨d,q⟩
def dr.τ(I:dr X a t H s)(m:∀b∈f,K4 X a H b)(q:∀b∈f,∃o,s.heap.get? b=U o/\∀v,o.data≠.cell v):dr X (a++HP f s.heap) t H s:=
 I.ω λp r=>(aO.1 r).elim (λz=>I.C? p (bC _ z)) λz=>by obtain⟨h,e⟩:=Qk z;obtain⟨i,j,l,_⟩:=m p.1 h;obtain⟨o,c,d⟩:=q p.1 h;rw[e]at c;cases c;exact⟨e,i,j,l,d⟩
def dr.n?(I:dr X (a++pl) c H s):dr X a c H s:=I.ω λp b=>I.C? p (bC _ (bK _ b))
def RH(F:jW (model X.prog X.w) X.A X.cb X.xe)(hc:X.ll=γ)(hi:PI X tg iter wi)(hg:PG X tg g)(p:lr X body tb)
  (hs:∀x,iw iter X.cb x=pure x:=by intro _;rfl):PS X (.For tg iter body [] pos) (Yp wi g tb):=by
 intro a s σ H D I h;refine wpAny_For (fu (hi a s σ H _ I h) λv s1 h1=>fu h1 λitv s2 h2=>?_) hs;obtain⟨it,C,tn,J,H2,e,I2,T,st2,f2,W,⟨m0,w0⟩,turn⟩:=h2;subst e;have stat:∀{y:Hp},(∀b∈C,y b=O)->∀b∈C,K4 X a y b:=λhn b p=>⟨hn b p,(f2 b p).2⟩;refine codeAny_forLoop_any (λn s'=>∃i q y,dr X a q y s'/\tn i s'.heap/\(∀b∈C,y b=O)/\W i n q y) ?_ m0 ⟨0,σ,H2,I2,st2,λb p=>(f2 b p).1,w0⟩;rintro n s3 ⟨i,t,P,I3,M,E,w3⟩;rcases turn i n t P w3 with ⟨stop,qn⟩|⟨go,N,hN,step⟩
 .refine fV F (fu (T.done X Z Z Z hc i a s3 t P X.xe I3 (stat E) M stop) λr s4 zz=>?_);obtain⟨S,I4⟩:=zz;subst S;exact fU ⟨t,P,I4,qn⟩
 .refine fV F (fu (T.item X Z Z Z hc i a s3 t P X.xe I3 (stat E) M go) λr s4 zz=>?_);obtain⟨u,S,h4⟩:=zz;subst S;refine fV F (fu h4 λk s5 zz=>?_);obtain⟨x,H5,I5,r5,y5,B,R⟩:=zz;have Q:=I5.τ (stat R) (T.obj _ _ B);refine fV F (fu (hg _ s5 t H5 x u _ Q r5 (step x H5 y5)) λk s6 zz=>?_);obtain⟨σ6,H6,I6,q6⟩:=zz;refine fV F (fu (p _ s6 σ6 H6 _ I6 q6) λf Y z=>?_);have again:∀{c:St} {j:Hp},dr X (a++HP C s5.heap) c j Y->N c j->∃m,m<n/\∃i q y,dr X a q y Y/\tn i Y.heap/\(∀b∈C,y b=O)/\W i m q y:=λ{c j} l G=>by obtain⟨m',hm,w7⟩:=hN c j G;refine⟨m',hm,i+1,c,j,l.n?,T.keep _ _ _ B λb p o e=>(l.C? (b,o) (bC _ (bC _ (zv p e)))).1,λb p=>?_,w7⟩;obtain⟨o,e,d⟩:=T.obj _ _ B b p;exact(l.C? (b,o) (bC _ (bC _ (zv p e)))).2.1
  cases f with
  |next=>obtain⟨c,j,l,G⟩:=z;exact again l G
  |cont=>obtain⟨c,j,l,G⟩:=z;exact again l G
  |brk=>obtain⟨c,j,l,z⟩:=z;exact⟨c,j,l.n?,z⟩
  |ret v=>obtain⟨x7,c,j,l,r7,z⟩:=z;exact⟨x7,c,j,l.n?,r7,z⟩
end
abbrev R2:=V->V->Hp->VK->Prop
def j3(X:Cx)(f:aa->aa->Sem aa)(r:R2):Prop:=
 ∀(a:cA) (s:af) (b:St) (H:Hp) (x y:V) (v u:aa) (Q:VK),dr X a b H s->eo x v->eo y u->r x y H Q->
  ao (model X.prog X.w) X.A (f v u) (EP X a b Q) X.xe s
def vQ(X:Cx)(f:aa)(r:bz->Hp->VK->Prop):Prop:=
 ∀(a:cA) (s:af) (d:St) (H:Hp) (c:bz) (b:List aa) (Q:VK),dr X a d H s->eg c b->r c H Q->
  ao (model X.prog X.w) X.A (call f b) (EP X a d Q) X.xe s
def tOp(r:R2)(d e:TE):TE:=λa H Q=>d a H λx b=>e a b λy c=>r x y c Q
def rI(C:Int->Int->Prop)(g:Int->Int->V):R2:=λx y H Q=>∃i j,x=.int i/\y=.int j/\C i j/\Q (g i j) H
def η(g:Int->Int->V):R2:=λx y H Q=>∃i j,x=.int i/\y=.int j/\Q (g i j) H
section
variable{X:Cx}{a b c:Expr}{ta tb tc:TE}{pos:Pos}
def Yq(r:PE X a ta)(t:PE X b tb){d:cA}{s:af}{i:St}{H:Hp}{R:V->V->Hp->Prop}(I:dr X d i H s)
  (h:ta i H λx o=>tb i o λy e=>R x y e) {Q:aa->af->Prop} {f:aa->aa->Sem aa}
  (z:∀v u m x y e,dr X d i e m->eo x v->eo y u->R x y e->ao (model X.prog X.w) X.A (f v u) Q X.xe m):
  ao (model X.prog X.w) X.A (eval a X.cb) (λv j=>ao (model X.prog X.w) X.A (eval b X.cb) (λu l=>ao (model X.prog X.w) X.A (f v u) Q X.xe l) X.xe j) X.xe s:=by
 refine fu (r d s i H _ I h) λv G zz=>?_;obtain⟨x,o,p,E,B⟩:=zz;refine fu (t d G i o _ p B) λu m zz=>?_;obtain⟨y,e,q,F,C⟩:=zz;exact z v u m x y e q E F C
def Mb(l:j3 X (cR m) r)(i:PE X a ta)(j:PE X b tb):PE X (.BinOp a m b pos) (tOp r ta tb):=by intro d s w H Q I h;exact wpAny_BinOp (Yq i j I h λv u t x y e f o p q=>l d t w e x y v u Q f o p q)
def opI{f:aa->aa->Sem aa}{C:Int->Int->Prop}{g:Int->Int->Int}
  (rule:∀(i j:Int) (t u:Tok) (s:af) (Q:aa->af->Prop) (E:aa->af->Prop),C i j->Q (.int (g i j) s.toks) { s with toks:=s.toks+1 }->ao (model X.prog X.w) X.A (f (.int i t) (.int j u)) Q E s):
  j3 X f (rI C λi j=>.int (g i j)):=by
 intro pins s σ H x y v u Q I e l h;obtain⟨i,j,rfl,rfl,d,q⟩:=h;obtain⟨t,rfl⟩:=e;obtain⟨m,rfl⟩:=l;exact rule i j t m s _ _ d ⟨.int (g i j),H,I.vl _,⟨_,Z⟩,q⟩
def opI0{f:aa->aa->Sem aa}{g:Int->Int->Int}
  (rule:∀(i j:Int) (t u:Tok) (s:af) (Q:aa->af->Prop) (E:aa->af->Prop),Q (.int (g i j) s.toks) { s with toks:=s.toks+1 }->ao (model X.prog X.w) X.A (f (.int i t) (.int j u)) Q E s):
  j3 X f (η λi j=>.int (g i j)):=by
 intro pins s σ H x y v u Q I d e h;obtain⟨i,j,rfl,rfl,q⟩:=h;obtain⟨t,rfl⟩:=d;obtain⟨l,rfl⟩:=e;exact rule i j t l s _ _ ⟨.int (g i j),H,I.vl _,⟨_,Z⟩,q⟩
def Vn{f:aa->aa->Sem aa}{g:Int->Int->Bool}
  (rule:∀(i j:Int) (t u:Tok) (s:af) (Q:aa->af->Prop) (E:aa->af->Prop),Q (.bool (g i j)) s->ao (model X.prog X.w) X.A (f (.int i t) (.int j u)) Q E s):
  j3 X f (η λi j=>.Y (g i j)):=by
 intro d s o H x y v u Q I e l h;obtain⟨i,j,rfl,rfl,q⟩:=h;obtain⟨t,rfl⟩:=e;obtain⟨m,rfl⟩:=l;exact rule i j t m s _ _ ⟨.Y (g i j),H,I,Z,q⟩
def Yr(i j:Int):Prop:=0<j/\j<1073741824
def CPow(i j:Int):Prop:=0<=j/\j<=1000000/\i.natAbs<2 ^ 64
def Vo(i j:Int):Prop:=(-(2 ^ 64)<i/\i<2 ^ 64)\/(-(2 ^ 64)<j/\j<2 ^ 64)
def Vo.ok(h:Vo i j):IntMulOk i j:=by
 rcases h with ⟨d,e⟩|⟨d,e⟩
 .exact .of_left (qm d e)
 .exact .of_right (qm d e)
def Ys:j3 X (cR .Add) (η λi j=>.int (i+j)):=opI0 λv v v v v v v q=>add_int q
def Yt:j3 X (cR .Sub) (η λi j=>.int (i - j)):=opI0 λv v v v v v v q=>sub_int q
def Yu:j3 X (cR .Mult) (rI Vo λi j=>.int (i * j)):=opI λv v v v v v v d q=>mul_int q d.ok
def Vp:j3 X (cR .FloorDiv) (rI Yr λi j=>.int (i / j)):=opI λi j v v v v v d q=>by have e:(0:Int)<j:=d.1;have f:j<1073741824:=d.2;exact floordiv_int (by omega) (by rw[Int.fdiv_eq_ediv_of_nonneg i (by omega)];exact q) (.inl (PyProof.noPylong_small (by omega)))
def Yv:j3 X (cR .Mod) (rI (λv j=>0<j) λi j=>.int (i % j)):=opI λi j v v v v v d q=>by have e:(0:Int)<j:=d;exact mod_int' (by omega) (by rw[Int.fmod_eq_emod_of_nonneg i (by omega)];exact q)
def Yy:j3 X (cR .Pow) (rI CPow λi j=>.int (i ^ j.toNat)):=opI λv v v v v v v d q=>pow_int_small d.1 d.2.1 d.2.2 q
end
def RI:V->V->Bool
 |.X,.X=>γ|.X,.int _=>γ|.int _,.X=>γ|.X,.Y _=>γ|.Y _,.X=>γ|.X,.str _=>γ|.str _,.X=>γ
 |.int _,.int _=>γ|.Y _,.Y _=>γ|.str _,.str _=>γ|.byt _,.byt _=>γ
 |.int _,.str _=>γ|.str _,.int _=>γ|.Y _,.str _=>γ|.str _,.Y _=>γ
 |_,_=>δ
def rEq:R2:=λx y H Q=>RI x y=γ/\Q (.Y (decide (x=y))) H
def rNe:R2:=λx y H Q=>RI x y=γ/\Q (.Y (!decide (x=y))) H
def ON:decide (V.int i=V.int j)=(i==j):=by rw[dG];simp
def RJ:decide (V.Y i=V.Y j)=(i==j):=by rw[dG];simp
def OO:decide (V.str i=V.str j)=(i==j):=by rw[dG];simp
def OP:decide (V.byt i=V.byt j)=(i.toList==j.toList):=by rw[dG];cases i;cases j;simp
section
variable{X:Cx}{a b c:Expr}{ta tb tc:TE}{pos:Pos}
def vb(I:dr X d h H s)(q:Q (.Y k) H)(e:k=f):EP X d h Q (.bool f) s:=by subst e;exact⟨.Y k,H,I,Z,q⟩
def ach:j3 X (bB .Eq) rEq:=by
 intro m s o H x y v u Q I l d h;obtain⟨f,q⟩:=h;cases x with
 |X=>
  cases l;cases y with
  |X=>cases d;exact rY (vb I q (by simp))
  |Y j=>cases d;exact rZ (vb I q (by simp))
  |int j=>obtain⟨e,rfl⟩:=d;exact sq (vb I q (by simp))
  |str j=>obtain⟨e,rfl⟩:=d;exact sr (vb I q (by simp))
  |_=>exact ar (show δ=γ from f) bw
 |Y i=>
  cases l;cases y with
  |X=>cases d;exact r6 (vb I q (by simp))
  |Y j=>cases d;exact eq_bool (vb I q RJ)
  |str j=>obtain⟨e,rfl⟩:=d;exact r9 (vb I q (by simp))
  |_=>exact ar (show δ=γ from f) bw
 |int i=>
  obtain⟨t,rfl⟩:=l;cases y with
  |X=>cases d;exact sv (vb I q (by simp))
  |int j=>obtain⟨e,rfl⟩:=d;exact eq_int (vb I q ON)
  |str j=>obtain⟨e,rfl⟩:=d;exact sy (vb I q (by simp))
  |_=>exact ar (show δ=γ from f) bw
 |str i=>
  obtain⟨t,rfl⟩:=l;cases y with
  |X=>cases d;exact sA (vb I q (by simp))
  |Y j=>cases d;exact sd (vb I q (by simp))
  |int j=>obtain⟨e,rfl⟩:=d;exact sC (vb I q (by simp))
  |str j=>obtain⟨e,rfl⟩:=d;exact eq_str (vb I q OO)
  |_=>exact ar (show δ=γ from f) bw
 |byt i=>
  obtain⟨t,rfl⟩:=l;cases y with
  |byt j=>obtain⟨e,rfl⟩:=d;exact W.eq_bytes (vb I q OP)
  |_=>exact ar (show δ=γ from f) bw
 |_=>cases y<;>exact ar (show δ=γ from f) bw
def aci:j3 X (bB .NotEq) rNe:=by
 intro m s o H x y v u Q I l d h;obtain⟨f,q⟩:=h;cases x with
 |X=>
  cases l;cases y with
  |X=>cases d;exact se (vb I q (by simp))
  |Y j=>cases d;exact sf (vb I q (by simp))
  |int j=>obtain⟨e,rfl⟩:=d;exact sE (vb I q (by simp))
  |str j=>obtain⟨e,rfl⟩:=d;exact sF (vb I q (by simp))
  |_=>exact ar (show δ=γ from f) bw
 |Y i=>
  cases l;cases y with
  |X=>cases d;exact sg (vb I q (by simp))
  |Y j=>cases d;exact ne_bool (vb I q (bD not RJ))
  |str j=>obtain⟨e,rfl⟩:=d;exact sj (vb I q (by simp))
  |_=>exact ar (show δ=γ from f) bw
 |int i=>
  obtain⟨t,rfl⟩:=l;cases y with
  |X=>cases d;exact sG (vb I q (by simp))
  |int j=>obtain⟨e,rfl⟩:=d;exact ne_int (vb I q (bD not ON))
  |str j=>obtain⟨e,rfl⟩:=d;exact sH (vb I q (by simp))
  |_=>exact ar (show δ=γ from f) bw
 |str i=>
  obtain⟨t,rfl⟩:=l;cases y with
  |X=>cases d;exact sI (vb I q (by simp))
  |Y j=>cases d;exact sk (vb I q (by simp))
  |int j=>obtain⟨e,rfl⟩:=d;exact sJ (vb I q (by simp))
  |str j=>obtain⟨e,rfl⟩:=d;exact ne_str (vb I q (bD not OO))
  |_=>exact ar (show δ=γ from f) bw
 |byt i=>
  obtain⟨t,rfl⟩:=l;cases y with
  |byt j=>obtain⟨e,rfl⟩:=d;exact W.ne_bytes (vb I q (bD not OP))
  |_=>exact ar (show δ=γ from f) bw
 |_=>cases y<;>exact ar (show δ=γ from f) bw
def acj:j3 X (bB .Lt) (η λi j=>.Y (decide (i<j))):=Vn λv v v v v v v q=>lt_int q
def ack:j3 X (bB .LtE) (η λi j=>.Y (decide (i<=j))):=Vn λv v v v v v v q=>le_int q
def acm:j3 X (bB .Gt) (η λi j=>.Y (decide (j<i))):=Vn λv v v v v v v q=>gt_int q
def acn:j3 X (bB .GtE) (η λi j=>.Y (decide (j<=i))):=Vn λv v v v v v v q=>ge_int q
def Yz:j3 X (bB .Is) (λx y H Q=>y=.X/\Q (.Y (decide (x=.X))) H):=by
 intro d s i H x y v u Q I e f h;obtain⟨rfl,q⟩:=h;cases f;refine is_none_gen (vb I q ?_);cases x<;>first
  |(cases e;rfl)
  |(obtain⟨t,rfl⟩:=e;rfl)
def Vq:j3 X (bB .IsNot) (λx y H Q=>y=.X/\Q (.Y (!decide (x=.X))) H):=by
 intro d s i H x y v u Q I e f h;obtain⟨rfl,q⟩:=h;cases f;refine isnot_none_gen (vb I q ?_);cases x<;>first
  |(cases e;rfl)
  |(obtain⟨t,rfl⟩:=e;rfl)
def Vr(o:j3 X (bB e) r)(j:PE X a ta)(l:PE X b tb)(m:fW e b=δ):PE X (.Compare a [e] [b] pos) (tOp r ta tb):=by intro d s z H Q I h;exact wpAny_Compare1 (Yq j l I h λv u w x y f i p t q=>o d w z f x y v u Q i p t q) m
def RK(t:TE):TT:=λe H Q=>t e H λx d=>∃k,x=.Y k/\Q k d
def Vs(B:j3 X (bB i) r)(t:PE X a ta)(w:PE X b tb)(A:fW i b=δ):PT X (.Compare a [i] [b] pos) (RK (tOp r ta tb)):=by
 intro d s f H Q I h;refine nU (fu (t d s f H _ I h) λv M ⟨x,j,o,F,C⟩=>fu (w d M f j _ o C) λu N ⟨y,l,p,G,E⟩=>
  fu (B d N f l x y v u _ p F G E) λc P ⟨z,m,q,J,k,e,q3⟩=>?_) A
 subst e;cases J;exact dE ⟨m,q,q3⟩
def NF(r j:R2)(ta tb tc:TE):TE:=λd H Q=>ta d H λx f=>tb d f λy h=>r x y h λz e=>∃k,z=.Y k/\
 (if k=γ then tc d e λl i=>j y l i Q else Q (.Y δ) e)
def RM(N:j3 X (bB p) r)(l:j3 X (bB i) T)(F:PE X a ta)(G:PE X b tb)(J:PE X c tc)
  (M:lastMarks [p,i] [b,c]=δ:=by with_unfolding_all rfl):PE X (.Compare a [p,i] [b,c] pos) (NF r T ta tb tc):=by
 intro f s j H Q I h;refine Compare_chain (fu (F f s j H _ I h) λv s1 ⟨x,t,B,W,P⟩=>chain_link (fu (G f s1 j t _ B P) λu s2 ⟨y,w,C,q,R⟩=>
  fu (N f s2 j w x y v u _ C W q R) λd s3 ⟨z,m,o,Y,k,e,q3⟩=>?_)) M
 subst e;cases Y;refine dE ?_;cases k with
 |false=>exact ite_ff ⟨.Y δ,m,o,Z,q3⟩
 |true=>exact ite_tt (chain_last (fu (J f s3 j m _ o q3) λw' s4 ⟨z',A,E,r4,S⟩=>l f s4 j A y z' u w' Q E q r4 S))
def RN(T:j3 X (bB p) r)(l:j3 X (bB i) r')(N:PE X a ta)(P:PE X b tb)(R:PE X c tc)
  (S:lastMarks [p,i] [b,c]=δ:=by with_unfolding_all rfl):PT X (.Compare a [p,i] [b,c] pos) (RK (NF r r' ta tb tc)):=by
 intro f s j H Q I h;refine isTrue_chain (fu (N f s j H _ I h) λv s1 ⟨x,t,C,r1,Y⟩=>test_link (fu (P f s1 j t _ C Y) λu s2 ⟨y,w,E,q,q2⟩=>
  fu (T f s2 j w x y v u _ E r1 q q2) λd s3 ⟨z,m,o,r3,k,e,q3⟩=>?_)) S
 subst e;cases r3;refine dE ?_;cases k with
 |false=>obtain⟨k',J,W⟩:=q3;cases J;exact ite_ff ⟨m,o,W⟩
 |true=>refine ite_tt (test_last (fu (R f s3 j m _ o q3) λw' s4 ⟨z',A,F,r4,q4⟩=>fu (l f s4 j A y z' u w' _ F q r4 q4) λd' s5 ⟨z2,B,G,r5,k2,M,q5⟩=>?_));subst M;cases r5;exact dE ⟨B,G,q5⟩
def Fw:(aC:Nat)<2 ^ 63:=by rw[bV];decide
def NG:j3 X (cR .Add) (λx y H Q=>∃i j,x=.str i/\y=.str j/\i.length+j.length<=aC/\Q (.str (i++j)) H):=by intro d s p H x y v u Q I f l h;obtain⟨i,j,rfl,rfl,e,q⟩:=h;obtain⟨t,rfl⟩:=f;obtain⟨m,rfl⟩:=l;exact add_str (λm o=>⟨.str (i++j),H,I.vl _,⟨_,Z⟩,q⟩) e
def m?(r:eg [x] f):∃u,f=[u]/\eo x u:=by
 cases r with
 |cons d e=>cases e;exact⟨_,Z,d⟩
def vals2(r:eg [x,y] j):∃u d,j=[u,d]/\eo x u/\eo y d:=by
 cases r with
 |cons e f=>
  cases f with
  |cons h i=>cases i;exact⟨_,_,Z,e,h⟩
def Ql(l:X.ll=γ):vQ X (.builtin "max") (λf H Q=>∃i j,f=[.int i,.int j]/\Q (.int (if j > i then j else i)) H):=by
 intro e s y H f w Q I r h;obtain⟨i,j,rfl,q⟩:=h;obtain⟨u,x,rfl,⟨t,rfl⟩,⟨o,rfl⟩⟩:=vals2 r;refine max_two_ints (I.ok.hd l) λm p k=>⟨_,H,I.f? k,?_,q⟩;by_cases d:j > i
 .rw[ak d,ak d];exact⟨_,Z⟩
 .rw[aq d,aq d];exact⟨_,Z⟩
def Qm(l:X.ll=γ):vQ X (.builtin "min") (λf H Q=>∃i j,f=[.int i,.int j]/\Q (.int (if j<i then j else i)) H):=by
 intro e s y H f w Q I r h;obtain⟨i,j,rfl,q⟩:=h;obtain⟨u,x,rfl,⟨t,rfl⟩,⟨o,rfl⟩⟩:=vals2 r;refine min_two_ints (I.ok.hd l) λm p k=>⟨_,H,I.f? k,?_,q⟩;by_cases d:j<i
 .rw[ak d,ak d];exact⟨_,Z⟩
 .rw[aq d,aq d];exact⟨_,Z⟩
def Qn:vQ X (.type "int") (λd H Q=>(∃i,d=[.int i]/\Q (.int i) H)\/∃k,d=[.Y k]/\Q (.int (if k then 1 else 0)) H):=by
 intro e s l H d j Q I r h;rcases h with ⟨i,rfl,q⟩|⟨k,rfl,q⟩
 .obtain⟨u,rfl,t,rfl⟩:=m? r;exact call_int_int ⟨.int i,H,I,⟨_,Z⟩,q⟩
 .obtain⟨u,rfl,f⟩:=m? r;cases f;exact call_int_bool ⟨.int (if k then 1 else 0),H,I.vl _,⟨_,Z⟩,q⟩
def K5:vQ X (.type "str") (λe H Q=>∃i,e=[.int i]/\i.natAbs.log2<1920/\Q (.str (toString i)) H):=by intro d s l H e j Q I r h;obtain⟨i,rfl,f,q⟩:=h;obtain⟨u,rfl,t,rfl⟩:=m? r;exact PySem.P.str_of_int f ⟨.str _,H,I.vl _,⟨_,Z⟩,q⟩
end
structure NH(h:Heap)(x dx C:Addr)(mA:Str->Option aa):Prop where
 obj:h.get? x=U (eK C dx)
 ns:h.Ns1 dx mA
 ne:dx≠x
set_option tactic.hygienic true
def Qo{h:Heap}(n:h.Ns1 f mA):∃c,h.get? f=U c/\∀name,jX name c=U (mA name):=by
 obtain⟨o,b,p,l,hd,i,_,j⟩:=n;refine⟨o,l,λname=>?_⟩;have e:=j name;unfold nsFind findBy at e;rw[<-Array.find?_toList]at e;unfold jX;rw[hd];dsimp only;split
 .rename_i y q;rw[q]at e;exact bD U e
 .rename_i q;rw[q]at e;have a:b.toList.any (·.refKey)=δ:=by rw[oX];intro y m;obtain⟨z,t,hkey⟩:=i y (Array.mem_toList_iff.1 m);simp[DictEntry.refKey,hkey]
  have d:¬b.toList.any (·.refKey)=γ:=by rw[a];exact bw
  rw[aq d];exact bD U e
set_option tactic.hygienic false
def NH.look(I:NH h x b C mA):∃a,W.InstAt h x (eK C b) C (U a)/\∀name,jX name a=U (mA name):=
 let ⟨a,d,c⟩:=Qo I.ns
 ⟨a,⟨I.obj,Z,Z,d⟩,c⟩
section
variable{prog:aB}{w:az}{A:aG}{E:aa->af->Prop}{s:af}{K:aw}{x dx C f:Addr}{mA:Str->Option aa}{name:Str}{v:aa}
def get_map(X:K.In s.heap)(I:NH s.heap x dx C mA)(hg:jT K C name=γ)(b:mG K C=γ)
  (ha:cX K (.ref C) name=U O) (d:mA name=U v) (a:W.handedIn v=γ) (h:Q v { s with toks:=s.toks+1 }):
  ao (model prog w) A (getAttr (.ref x) name expr) Q E s:=by
 obtain⟨od,J,c⟩:=I.look;exact W.get_value X J (l7 hg).1 (W.findObj_own b ha Z (by rw[c,d])) a h
def RO(X:K.In s.heap)(I:NH s.heap x dx C mA)(a:jT K C name=γ)
  (b:cX K (.ref C) name=U (U (.ref f))) (d:j5 K (.ref f)=γ) (e:mA name=O) (h:Q (.ref f,[.ref x]) s):
  ao (model prog w) A (getMethod (.ref x) name pl) Q E s:=by
 obtain⟨i,J,c⟩:=I.look;exact W.method_fn X J (l7 a).1 (l7 a).2 b (beq_iff_eq.mp d) (by show (jX name i).map (·.isSome)=U δ;rw[c,e];rfl) h
def Vt(X:K.In s.heap)(I:NH s.heap x dx C mA)
  (hs:cX K (.ref C) "__setattr__" = U (U (.builtin "object.__setattr__"))) (l:qJ K C=γ) (o:mV K C name=U O) (j:mG K C=γ)
  (hw:mj mA ns) (m:ns.length<=aC)
  (h:∀h',NH h' x dx C (λy=>if y=name then U v else mA y)->dO dx s.heap h'->Q () { s with heap:=h',toks:=s.toks+2 }):
  ao (model prog w) A (setAttr (.ref x) name v) Q E s:=by
 obtain⟨od,J,t⟩:=I.look;refine W.set_plain X J hs (W.osa_open (s:={ s with toks:=s.toks+1 }) (r:=O) X J l o λb=>?_);obtain⟨q,i,e⟩:=W.any_some j;have p:s.heap.get? x=U ⟨.ref C,U dx,.plain,#[]⟩:=I.obj;refine ag (au (ag (ag (p6 p (ag (W.Looks.here (s:={ s with toks:=s.toks+1 }) (W.looks_clsIn X i) ?_))))));rw[e];refine au (a:=U dx) (ag (au (ag ?_)));refine wpAny_nsSet1 (s:={ s with toks:=s.toks+1 }) I.ns λh' c d=>?_;obtain⟨oD,esD,epD,hoD,hdD,hcD⟩:=c.count (tZ name v hw);refine ag (wpAny_lookBehind hoD (by rw[hdD];exact pastItsLine_dict (bF hcD (by rw[aS];omega))) ?_);exact au (h _ ⟨(d.2 _ (cE I.ne)).t I.obj,c,I.ne⟩ d)
def RP(X:K.In s.heap)(hm:mW K C=γ)
  (hi:cX K (.ref C) "__init__" = U (U (.ref f))) (hf:W.typeIn K (.ref f)=U (.type "function"))
  (h:cy (model prog w) (A.under (.builtin "type.__call__" ⟨.ref C::vs,a⟩)) (.call (.ref f) ⟨.ref (s.heap.objs.size+1)::vs,a⟩) (W.InitBack (s.heap.objs.size+1) R)
   { s with heap:=(s.heap.push d5).push (eK C s.heap.objs.size) }):
  cy (model prog w) A (.call (.ref C) ⟨vs,a⟩) R s:=by
 obtain⟨b,g,d,t,os⟩:=s;exact qK (mU X hm) (iN X hi) (λself=>W.bind_fn X self hf) (.inl Z) h
def Qp(X:K.In s.heap)(hm:mW K C=γ)
  (hi:cX K (.ref C) "__init__" = U (U (.builtin "object.__init__")))
  (hb:∀self,gn (model prog w) s.heap (bindSpecial (.builtin "object.__init__") self) (.builtin "object.__init__", [self]))
  (h:cy (model prog w) (A.under (.builtin "type.__call__" ⟨[.ref C],[]⟩)) (.call (.builtin "object.__init__") ⟨[.ref (s.heap.objs.size+1)],[]⟩) (W.InitBack (s.heap.objs.size+1) R)
   { s with heap:=(s.heap.push d5).push (eK C s.heap.objs.size) }):
  cy (model prog w) A (.call (.ref C) ⟨[],[]⟩) R s:=by
 obtain⟨a,g,d,t,os⟩:=s;exact qK (mU X hm) (iN X hi) hb (.inr ⟨Z,Z⟩) h
end
def AU(f:Str)(v:V):List (Str×V)->List (Str×V)
 |[]=>[(f,v)]
 |(g,x)::r=>if g=f then (g,v)::r else (g,x)::AU f v r
theorem Ge(f g:Str)(v:V):∀fs:List (Str×V),(AU f v fs).lookup g=if g=f then U v else fs.lookup g
 |[]=>by
  show dP g [(f,v)]=_;by_cases h:g=f
  .have a:(g==f)=γ:=beq_iff_eq.mpr h;simp only[dP,a,ak h]
  .have a:(g==f)=δ:=beq_eq_false_iff_ne.2 h;simp only[dP,a,aq h]
 |(k,x)::r=>by
  have c:=Ge f g v r;rw[show AU f v ((k,x)::r)=(if k=f then (k,v)::r else (k,x)::AU f v r) from Z];by_cases b:k=f
  .rw[ak b];by_cases h:g=k
   .have a:(g==k)=γ:=beq_iff_eq.mpr h;simp only[dP,a,ak (h.t b)]
   .have a:(g==k)=δ:=beq_eq_false_iff_ne.2 h;simp only[dP,a,aq (λe:g=f=>h (e.t b.symm))]
  .rw[aq b];by_cases h:g=k
   .have a:(g==k)=γ:=beq_iff_eq.mpr h;simp only[dP,a,aq (λe:g=f=>b (h.symm.t e))]
   .have a:(g==k)=δ:=beq_eq_false_iff_ne.2 h;simp only[dP,a];exact c
theorem Fy(f:Str)(v:V):∀fs:List (Str×V),f∈(AU f v fs).map (·.1)/\∀g,g∈fs.map (·.1)->g∈(AU f v fs).map (·.1)
 |[]=>⟨by simp[AU],λg h=>by simp at h⟩
 |(k,x)::r=>by
  obtain⟨b,c⟩:=Fy f v r;rw[show AU f v ((k,x)::r)=(if k=f then (k,v)::r else (k,x)::AU f v r) from Z];by_cases a:k=f
  .rw[ak a];subst a;exact⟨by simp,λg h=>by simpa using h⟩
  .rw[aq a];refine⟨?_,λg h=>?_⟩
   .rw[aU];exact ba _ b
   .rw[aU]at h ⊢;rcases aJ.1 h with e|e
    .exact aJ.2 (.inl e)
    .exact ba _ (c g e)
theorem Gf(f:Str)(v:V):∀fs:List (Str×V),(AU f v fs).length<=fs.length+1
 |[]=>by simp[AU]
 |(k,x)::r=>by
  have b:=Gf f v r;rw[show AU f v ((k,x)::r)=(if k=f then (k,v)::r else (k,x)::AU f v r) from Z];by_cases a:k=f
  .rw[ak a,aS,aS];omega
  .rw[aq a,aS,aS];omega
def Cb.N?(r:Cb (U v) o):∃u,o=U u/\eo v u:=by
 cases o with
 |none=>exact(show False from r).elim
 |some u=>exact⟨u,Z,r⟩
def Cb.none_of(r:Cb O o):o=O:=by
 cases o with
 |none=>rfl
 |some u=>exact(show False from r).elim
def Qq(r:eo v u):W.handedIn u=γ:=by
 cases v with
 |X=>cases (show u=Value.none from r);rfl
 |Y b=>cases (show u=Value.bool b from r);rfl
 |int i=>obtain⟨t,e⟩:=(show ∃t,u=Value.int i t from r);cases e;rfl
 |str x=>obtain⟨t,e⟩:=(show ∃t,u=Value.str x t from r);cases e;rfl
 |byt b=>obtain⟨t,e⟩:=(show ∃t,u=Value.bytes b t from r);cases e;rfl
 |flt b=>obtain⟨t,e⟩:=(show ∃t,u=Value.float b t from r);cases e;rfl
 |ref a=>cases (show u=Value.ref a from r);rfl
 |ty n=>cases (show u=Value.type n from r);rfl
section
variable{P:aB}{w:az}{H H':Hp}{h h':Heap}{a C dx:Addr}{fs fs':List (Str×V)}
def Ek(fb:p5 P w H h)(e:H a=U (.mr C dx fs)):∃mA,NH h a dx C mA/\(∀f,Cb (fs.lookup f) (mA f))/\mj mA (fs.map (·.1))/\fs.length<=1000/\H dx=U (.i1 a):=by obtain⟨d,z,b,c,mA,n,r,q⟩:=(show e8 P w H h a (.mr C dx fs) from fb a _ e);exact⟨mA,⟨c,n,b⟩,r,q,z,d⟩
end
structure ζ(K:aw)(C:Addr):Prop where
 pg:jT K C Str.empty=γ
 hd:mG K C=γ
 po:qJ K C=γ
 sa:cX K (.ref C) "__setattr__" = U (U (.builtin "object.__setattr__"))
def ζ.get{K:aw}{C:Addr}(c:ζ K C)(f:Str):jT K C f=γ:=c.pg
def AC(K:aw)(C:Addr)(f:Str):Prop:=cX K (.ref C) f=U O
def AC.taker{K:aw}{C:Addr}{f:Str}(n:AC K C f):mV K C f=U O:=by unfold mV;rw[show cX K (.ref C) f=U O from n];rfl
structure Meth(K:aw)(C:Addr)(m:Str)(f:Addr):Prop where
 i2:cX K (.ref C) m=U (U (.ref f))
 fn:j5 K (.ref f)=γ
 kp:de K (.ref f)=γ
section
variable{X:Cx}{pins:cA}{σ:St}{H:Hp}{s:af}{a C dx:Addr}{fs:List (Str×V)}{f:Str}{v:V}{A:aG}{E:aa->af->Prop}
def NI(I:dr X pins σ H s)(e:H a=U (.mr C dx fs))(c:ζ X.K C)(n:AC X.K C f)(l:fs.lookup f=U v)
  (h:∀u i,dr X pins σ H i->eo v u->Q u i):ao (model X.prog X.w) A (getAttr (.ref a) f b) Q E s:=by
 obtain⟨mA,j,r,_,_,_⟩:=Ek I.fb e;obtain⟨u,m,d⟩:=Cb.N? (v:=v) (o:=mA f) (by rw[<-l];exact r f);exact get_map I.ny j (c.get f) c.hd n m (Qq d) (h u _ (I.vl _) d)
def HQ(I:dr X pins σ H s)(e:H a=U (.mr C dx fs))(c:ζ X.K C)(k:Meth X.K C m g)(l:fs.lookup m=O)
  (h:Q (.ref g,[.ref a]) s):ao (model X.prog X.w) A (getMethod (.ref a) m pl) Q E s:=by
 obtain⟨mA,b,r,_,_,_⟩:=Ek I.fb e;have d:mA m=O:=Cb.none_of (by rw[<-l];exact r m);exact RO I.ny b (c.get m) k.i2 k.fn d h
def NJ(I:dr X pins σ H s)(e:H a=U (.mr C dx fs))(c:ζ X.K C)(n:AC X.K C f)(N:fs.length<1000)(J:eo y u)
  (h:∀l,dr X pins σ (e7 H a (.mr C dx (AU f y fs))) l->Q () l):ao (model X.prog X.w) A (setAttr (.ref a) f u) Q E s:=by
 obtain⟨mA,d,r,m,_,j⟩:=Ek I.fb e;have G:(fs.map (·.1)).length<=aC:=by rw[ah,bV];omega
 refine Vt I.ny d c.sa c.po n.taker c.hd m G λt i M=>h _ ?_;have hd:∃o,t.get? dx=U o:=let ⟨o,_,_,p,_⟩:=i.ns;⟨o,p⟩;refine I.v? (x:=a) (e:=dx) (by rw[e];exact True.intro) (.inr j) (λb q B z=>(M.2 b B).t z) hd ?_;refine⟨by rw[uC d.ne];exact j,?_,d.ne,i.obj,_,i.ns,λg=>?_,λg F=>?_⟩
 .have:=Gf f y fs;omega
 .show Cb ((AU f y fs).lookup g) (if g=f then U u else mA g);rw[Ge];by_cases q:g=f
  .rw[ak q,ak q];exact J
  .rw[aq q,aq q];exact r g
 .by_cases q:g=f
  .rw[q];exact(Fy f y fs).1
  .refine(Fy f y fs).2 g (m g λz=>F ?_);show (if g=f then U u else mA g)=O;rw[aq q];exact z
def dr.made(I:dr X pins σ H s):dr X pins σ (e7 (e7 H s.heap.objs.size (.i1 (s.heap.objs.size+1))) (s.heap.objs.size+1) (.mr C s.heap.objs.size []))
  { s with heap:=(s.heap.push d5).push (eK C s.heap.objs.size) }:=by
 have c:(s.heap.push d5).get? s.heap.objs.size=U d5:=bp s.heap Z;have h:((s.heap.push d5).push (eK C s.heap.objs.size)).get? (s.heap.objs.size+1)=U (eK C s.heap.objs.size):=by
  have:=bp (s.heap.push d5) (o:=eK C s.heap.objs.size) Z
  rwa [c9]at this
 have i:(s.heap.push d5).Ns s.heap.objs.size (λv=>O):=⟨d5,#[],_,c,Z,(λe j=>ar j (by simp)),λv=>Z⟩;have d:=I.laid (a:=s.heap.objs.size) (o:=.i1 (s.heap.objs.size+1)) (h':=s.heap.push d5) (t':=s.toks) (λb u q=>aK _ q) (aL _) ⟨_,c⟩;refine d.laid (a:=s.heap.objs.size+1) (o:=.mr C s.heap.objs.size []) (t':=s.toks) (λb u q=>aK _ q) (qy (c9 _ _)) ?_;have ne:s.heap.objs.size≠s.heap.objs.size+1:=aW (dF _);refine⟨by rw[uC ne,uu],cD _,ne,h,λv=>O,(Heap.Ns1.of_empty i).at λo q=>aK _ q,λv=>True.intro,λy l=>ar Z l⟩
def Vu(c:fF e f cb (eval e cb)=eval e cb)
  (h:ao (model prog w) A (eval e cb) (λo b=>ao (model prog w) A (getAttr o f γ) Q E b) E s):ao (model prog w) A (eval (.Attribute e f pos) cb) Q E s:=
 Attribute_any_ h (by rw[arm_eval_Attribute,c])
end
def tFld(K:aw)(d:TE)(f:Str):TE:=λe H Q=>d e H λx b=>∃a C c fs v,x=.ref a/\b a=U (.mr C c fs)/\ζ K C/\AC K C f/\fs.lookup f=U v/\Q v b
def sFld(K:aw)(h i:TE)(f:Str):TS:=λD b H=>i b H λy e=>h b e λx c=>∃a C d fs,x=.ref a/\c a=U (.mr C d fs)/\ζ K C/\AC K C f/\fs.length<1000/\
 D.nx b (e7 c a (.mr C d (AU f y fs)))
section
variable{X:Cx}{o e value:Expr}{f:Str}{pos pos' tpos:Pos}{ta tv:TE}
def YA(t:PE X e ta)(r:fF e f X.cb (eval e X.cb)=eval e X.cb):PE X (.Attribute e f pos) (tFld X.K ta f):=by intro b s z H Q I h;refine Vu r (fu (t b s z H _ I h) λu B zz=>?_);obtain⟨x,d,i,y,a,C,A,fs,v,p,m,c,n,l,q⟩:=zz;subst p;obtain rfl:u=Value.ref a:=y;exact NI i m c n l λF E j w=>⟨v,d,j,w,q⟩
def YB(w:PE X o ta)(A:PE X value tv)(z:cw value (U (.Attribute o f pos')) pos.line X.cb=pure δ):PS X (.Assign [.Attribute o f pos'] value pos) (sFld X.K ta tv f):=by intro b s d H D I h;refine plainObj_wpAny_Assign_Attribute (fu (A b s d H _ I h) λu J ⟨y,i,j,G,q⟩=>fu (w b J d i _ j q) λB P zz=>?_) z;obtain⟨x,M,m,F,a,C,N,fs,t,r,c,n,l,E⟩:=zz;subst t;obtain rfl:B=Value.ref a:=F;exact NJ m r c n l G λQ p=>⟨d,_,p,E⟩
end
section
variable{X:Cx}{pins:cA}{σ:St}{H:Hp}{s:af}{A:aG}{E:aa->af->Prop}{Q:aa->af->Prop}{c:aa}{b:Bool}
inductive Hn(K:aw) (H:Hp):V->aa->Prop where
 |X:Hn K H .X (.type "NoneType")
 |Y (x:Bool):Hn K H (.Y x) (.type "bool")
 |int (i:Int):Hn K H (.int i) (.type "int")
 |str (x:Str):Hn K H (.str x) (.type "str")
 |flt (x:UInt64):Hn K H (.flt x) (.type "float")
 |cf {a:Addr} {xs:bz} (e:H a=U (.cf xs)):Hn K H (.ref a) (.type "list")
 |oz {a:Addr} {o:Obj} {xs:bz} (e:H a=U (.oz o (.cf xs))):Hn K H (.ref a) (.type "list")
 |ef {a:Addr} {xs:bz} (e:H a=U (.ef xs)):Hn K H (.ref a) (.type "tuple")
 |dK {a:Addr} {kvs:List (ey×V)} (e:H a=U (.dK kvs)):Hn K H (.ref a) (.type "dict")
 |dT {a:Addr} {kvs:List (List ey×V)} (e:H a=U (.dT kvs)):Hn K H (.ref a) (.type "dict")
 |mr {a C dx:Addr} {fs:List (Str×V)} (e:H a=U (.mr C dx fs)) (cl:ζ K C) (ha:cX K (.ref C) "__class__" = U (U (.builtin "object.__class__")))
   (hn:qL K (.builtin "object.__class__") "__get__" = U (U (.builtin "getset_descriptor.__get__"))) (htk:W.takesIn K (.builtin "object.__class__")=U γ)
   (hm:W.mroIn K C (.type "object")=U γ):Hn K H (.ref a) (.ref C)
def zm(I:dr X pins σ H s)(f:eo x u)(ty:Hn X.K H x t)(e:bX X.K t c=U b)(h:∀tk,Q (.bool b) { s with toks:=tk }):
  ao (model X.prog X.w) A (call (.builtin "isinstance") [u,c]) Q E s:=by
 cases ty with
 |X=>cases (show u=Value.none from f);exact cN qM I.ny True.intro e (λz=>nomatch z) h
 |Y y=>cases (show u=Value.bool y from f);exact cN qN I.ny True.intro e (λz=>nomatch z) h
 |int i=>obtain⟨t,q⟩:=(show ∃t,u=Value.int i t from f);cases q;exact cN W.kitx_int I.ny True.intro e (λz=>nomatch z) h
 |str y=>obtain⟨t,q⟩:=(show ∃t,u=Value.str y t from f);cases q;exact cN W.kitx_str I.ny True.intro e (λz=>nomatch z) h
 |flt y=>obtain⟨t,q⟩:=(show ∃t,u=Value.float y t from f);cases q;exact cN W.kitx_float I.ny True.intro e (λz=>nomatch z) h
 |@cf a xs d=>cases (show u=Value.ref a from f);obtain⟨_,_,n,_,h1⟩:=(show e8 X.prog X.w H s.heap a (.cf xs) from I.fb a _ d);exact cN iR I.ny ⟨_,h1,Z⟩ e (λz=>nomatch z) h
 |@oz a ob xs d=>cases (show u=Value.ref a from f);obtain⟨_,_,_,n,_,h1⟩:=(show e8 X.prog X.w H s.heap a (.oz ob (.cf xs)) from I.fb a _ d);exact cN iR I.ny ⟨_,h1,Z⟩ e (λz=>nomatch z) h
 |@ef a xs d=>cases (show u=Value.ref a from f);obtain⟨_,_,_,p,_⟩:=(show e8 X.prog X.w H s.heap a (.ef xs) from I.fb a _ d);obtain⟨o,h1,h2,_⟩:=p;exact cN ml I.ny ⟨o,h1,h2⟩ e (λz=>nomatch z) h
 |@dK a kvs d=>cases (show u=Value.ref a from f);obtain⟨_,_,vs,_,p⟩:=(show e8 X.prog X.w H s.heap a (.dK kvs) from I.fb a _ d);obtain⟨o,es,ep,h1,h2,_⟩:=p;exact cN gV I.ny ⟨o,h1,h2.1⟩ e (λz=>nomatch z) h
 |@dT a kvs d=>cases (show u=Value.ref a from f);obtain⟨_,_,xs,_,o,es,ep,h1,h2,_⟩:=(show e8 X.prog X.w H s.heap a (.dT kvs) from I.fb a _ d);exact cN gV I.ny ⟨o,h1,h2.1⟩ e (λz=>nomatch z) h
 |@mr a C dx fs d cl ha hn htk hm=>cases (show u=Value.ref a from f);obtain⟨mA,j,_⟩:=Ek I.fb d;obtain⟨od,J,_⟩:=j.look;exact cN (W.kitx_own (cl.get _) cl.hd ha hn htk hm) I.ny J e (λz=>nomatch z) h
end
structure wt(k:Nat)(A:aG):Prop where
 hd:A.handled=O
 dp:A.depth+3 * k+5<recursionLimit
 un:A.units+16 * k+200<cLine
def wt.mono(r:wt k A)(h:j<=k):wt j A:=⟨r.hd,by have:=r.dp;omega,by have:=r.un;omega⟩
theorem wt.deeper(r:wt (k+1) A)(cb:Env):wt k (A.deeper cb):=
 ⟨r.hd,by have:=r.dp;show A.depth+1+3 * k+5<_;omega,by have:=r.un;show A.units+3+16 * k+200<_;omega⟩
def NK{A:aG}:(A.under (.builtin "type.__call__" ⟨.ref C::b,a⟩)).depth=A.depth+1:=by
 first|rfl|simp[mm,Code.weight,Code.isCreation,Code.isGuard,Code.isCaller,qO,mw,guardIds]
def NM{A:aG}:(A.under (.builtin "type.__call__" ⟨.ref C::b,a⟩)).units=A.units+1:=by
 first|rfl|simp[mm,Code.cUnits,qO,mw]
def wt.make(r:wt (k+1) A)(C:Addr)(b:List aa)(a:List (Str×aa)):wt k (A.under (.builtin "type.__call__" ⟨.ref C::b,a⟩)):=
 ⟨r.hd,by have:=r.dp;rw[NK];omega,by have:=r.un;rw[NM];omega⟩
theorem wt.depth(r:wt k A):A.depth<recursionLimit:=by have:=r.dp;omega
theorem wt.units(r:wt k A):A.units+64<cLine:=by have:=r.un;omega
def HR:TA:=λv H Q=>Q [] H
def Cf(d:TE)(e:TA):TA:=λa H Q=>d a H λx b=>e a b λf c=>Q (x::f) c
section
variable{X:Cx}{e:Expr}{es:List Expr}{te:TE}{t:TA}{pos:Pos}
def xB:PA X [] HR:=λv v v v H Q I h=>fQ ⟨[],H,I,.nil,h⟩
def vq(j:PE X e te)(l:PA X es t)(m:ay (e::es) X.cb=(δ,eval e X.cb)::ay es X.cb:=by rfl):PA X (e::es) (Cf te t):=by intro pos a s b H Q I h;rw[m];show ao _ _ (spliced ((δ,eval e X.cb)::bE pos (ay es X.cb))) _ _ s;refine eD (fu (j a s b H _ I h) λu w zz=>?_);obtain⟨x,c,f,q,o⟩:=zz;exact fu (l pos a w b c _ f o) λA z ⟨y,d,i,r,p⟩=>⟨x::y,d,i,.cons q r,p⟩
def tTup(t:TA):TE:=λc H Q=>t c H λb a=>b.length<=aC/\∀p,a p=O->Q (.ref p) (e7 a p (.ef b))
def tLst(t:TA):TE:=λc H Q=>t c H λb a=>b.length<=aC/\∀p,a p=O->Q (.ref p) (e7 a p (.cf b))
def RQ{m}(h:PA X es t):PE X (.Tuple es m pos) (tTup t):=by intro a s w H Q I j;refine wpAny_Tuple_spliced (fu (h pos a s w H _ I j) λl c ⟨p,d,f,r,z,q⟩=>⟨by rw[<-r.length];exact z,?_⟩);have i:d c.heap.objs.size=O:=f.fb.fresh (aL _);refine⟨.ref c.heap.objs.size,e7 d c.heap.objs.size (.ef p),f.laid (t':=c.toks) (λb u e=>aK _ e) (aL _) ?_,Z,q _ i⟩;exact⟨z,l,r,⟨_,bp _ Z,Z,_,Z⟩,λo e=>by rw[bp _ Z]at e;cases e;rfl⟩
def K6(h:PA X es t):PE X (.List es pos) (tLst t):=by intro a s o H Q I j;refine wpAny_List_spliced (fu (h pos a s o H _ I j) λl c ⟨m,d,f,r,z,q⟩=>⟨by rw[<-r.length];exact z,?_⟩);have i:d c.heap.objs.size=O:=f.fb.fresh (aL _);refine⟨.ref c.heap.objs.size,e7 d c.heap.objs.size (.cf m),f.laid (t':=c.toks) (λb u e=>aK _ e) (aL _) ?_,Z,q _ i⟩;exact⟨z,l,0,r,bp _ Z⟩
end
abbrev Sp:=bz->Hp->VK->XK->Prop
abbrev CXT:=List Env->Hp->af->XK->aa->af->Prop
structure NN(P:aB)(w:az)(K:aw)(mg:Str->Option aa)(b?:Heap)(A:aG)(dg:List Env)(s:af)(H:Hp):Prop where
 frames:A.frames=U dg
 y':Mod K mg b?
 bs:∀b o,b?.get? b=U o->s.heap.get? b=U o/\H b=O
 bsz:b?.objs.size<=s.heap.objs.size
 qi:s.heap.FunFrames b? dg
 frf:∀b∈xr dg,H b=O
 fb:p5 P w H s.heap
 gi:d8 s.gens
def CE(dg:List Env)(P:aB)(w:az)(H:Hp)(s:af)(Q:VK)(u:aa)(a:af):Prop:=
 ∃v b,a.os=s.os/\d8 a.gens/\Un (xr dg) [] H b s.heap a.heap/\p5 P w b a.heap/\eo v u/\Q v b
def CR(CX:CXT)(dg:List Env)(P:aB)(w:az)(H:Hp)(s:af)(Q:VK)(E:XK)(r:eL)(a:af):Prop:=
 match r with
 |.ok (.ret u)=>CE dg P w H s Q u a
 |.ok _=>False
 |.error e=>CX dg H s E e a
structure xC(P:aB)(w:az)(K:aw)(mg:Str->Option aa)(b?:Heap)(CX:CXT)(k:Nat)(f:Addr)(fd:bS)(ps:aE)(sp:Sp):Prop where
 len:∀vs H Q E,sp vs H Q E->vs.length=ps.length
 run:∀(A:aG) (dg:List Env) (s:af) (H:Hp) (args:Args) (us:List aa) (vs:bz) (Q:VK) (E:XK),wt k A->NN P w K mg b? A dg s H->hJ s fd args (ps.zip us)->eg vs us->sp vs H Q E->
  cy (model P w) A (.call (.ref f) args) (CR CX dg P w H s Q E) s
theorem xC.mono{P:aB}{w:az}{K:aw}{b:Str->Option aa}{b?:Heap}{CX:CXT}{j k:Nat}{f:Addr}{a:bS}{c:aE}{d:Sp}(F:xC P w K b b? CX j f a c d)(h:j<=k):
  xC P w K b b? CX k f a c d:=⟨F.len,λA dg s H args i l Q E e=>F.run A dg s H args i l Q E (e.mono h)⟩
theorem xC.imp{P:aB}{w:az}{K:aw}{d:Str->Option aa}{b?:Heap}{CX:CXT}{k:Nat}{f:Addr}{c:bS}{ps:aE}{e b:Sp}(F:xC P w K d b? CX k f c ps e)
  (h:∀a H Q E,b a H Q E->e a H Q E):xC P w K d b? CX k f c ps b:=
 ⟨λa H Q E q=>F.len a H Q E (h _ _ _ _ q),λA dg s H args p a Q E l j i o m=>F.run A dg s H args p a Q E l j i o (h _ _ _ _ m)⟩
def NN.make{P:aB}{w:az}{K:aw}{a:Str->Option aa}{b?:Heap}{A:aG}{dg:List Env}{s:af}{H:Hp}(e:NN P w K a b? A dg s H)(C:Addr)(c:List aa)(b:List (Str×aa)):
  NN P w K a b? (A.under (.builtin "type.__call__" ⟨.ref C::c,b⟩)) dg s H:=⟨by first|exact e.frames|(simpa [mm,Code.envs,mw,pushEnvs]using e.frames),e.y',e.bs,e.bsz,e.qi,e.frf,e.fb,e.gi⟩
section
variable{X:Cx}{pins:cA}{σ:St}{H:Hp}{s s':af}
def dr.env0(I:dr X pins σ H s):NN X.prog X.w X.K X.mg X.b? X.A X.stack s H:=
 ⟨I.ok.frames,I.ok.y',I.bs,bF I.ok.bsz I.sz,I.stack,I.N',I.fb,I.gi⟩
def dr.after(I:dr X pins σ H s)(h:CE X.stack X.prog X.w H s Q u s'):EP X pins σ Q u s':=by obtain⟨v,c,os,gi,un,fb,r,q⟩:=h;obtain⟨e,g,d,t,a⟩:=s';obtain rfl:a=s.os:=os;exact⟨v,c,I.call (h':=e) (g':=g) (d':=d) (t':=t) (ch:=[]) un fb gi (λb z=>ar z (by simp)),r,q⟩
end
def BS(b:Sp)(dvs:bz)(E:XK)(t:TA):TE:=λd H Q=>t d H λc a=>b (c++dvs) a Q E
def Xu(C:Addr)(d:Sp)(dvs:bz)(E:XK)(t:TA):TE:=λf H Q=>t f H λe b=>∀x a,b x=O->b a=O->a≠x->
 d (.ref x::(e++dvs)) (e7 (e7 b a (.i1 x)) x (.mr C a [])) (λv c=>v=.X/\Q (.ref x) c) E
def j4(K:aw)(d:bS)(c:aE)(b:List aa):Prop:=
 ∀(s:af) (a:List aa),K.In s.heap->(a++b).length=c.length->hJ s d ⟨a,[]⟩ (c.zip (a++b))
def j4.all{K:aw}{c:bS}{b:aE}(h:∀a:List aa,a.length=b.length->bindArgs c ⟨a,[]⟩=pure (b.zip a)):j4 K c b []:=λs a v d=>by rw[bO]at d ⊢;exact .of_eq (h a d)
def l?(CX:CXT)(X:Cx)(E:XK):Prop:=∀(a:cA) (c:St) (H:Hp) (s:af) (e:aa) (b:af),dr X a c H s->CX X.stack H s E e b->X.xe e b
section
variable{X:Cx}{CX:CXT}{k:Nat}{f C:Addr}{fd:bS}{ps:aE}{sp:Sp}{dvs:bz}{ds:List aa}{E:XK}{x m:Str}{p pos apos:Pos}{e o:Expr}{es:List Expr}{ta:TE}{t:TA}
theorem K7(F:xC X.prog X.w X.K X.mg X.b? CX k f fd ps sp)(q:wt k X.A)(j:j4 X.K fd ps ds)(hd:eg dvs ds)(y:l? CX X E)
  (I:dr X a d H s) (r:eg vs us) (h:sp (vs++dvs) H Q E):ao (model X.prog X.w) X.A (call (.ref f) us) (EP X a d Q) X.xe s:=by
 have c:eg (vs++dvs) (us++ds):=r.append hd;have l:(us++ds).length=ps.length:=by rw[<-c.length];exact F.len _ _ _ _ h
 refine gb (fG (F.run X.A X.stack s H ⟨us,[]⟩ (us++ds) (vs++dvs) Q E q I.env0 (j s us I.ny l) c h) λr z b=>?_);cases r with
 |error e=>exact y a d H s e z I b
 |ok i=>
  cases i with
  |ret u=>exact I.after b
  |next=>exact cM b
  |brk=>exact cM b
  |cont=>exact cM b
def El(F:xC X.prog X.w X.K X.mg X.b? CX k f fd ps sp)(B:wt k X.A)(u:Gl X x)(z:X.mg x=U (.ref f))(y:de X.K (.ref f)=γ)(j:j4 X.K fd ps ds)(hd:eg dvs ds)(G:l? CX X E)
  (i:PA X (e::es) t) (b:(x==("__debug__" : Str))=δ:=by decide) (l:ay (e::es) X.cb=(δ,eval e X.cb)::ay es X.cb:=by rfl) (hpl:(bE pos (ay es X.cb)).any (·.1)=δ:=by rfl):
  PE X (.Call (.Name x p) (e::es) [] pos) (BS sp dvs E t):=by
 intro a s J H Q I h;refine dD (z9 I u z ?_ b);refine jN (h₀:=X.b?) I.ok.y'.kin y (fu (i pos a s J H _ I h) λP N ⟨R,M,c,r,q⟩=>⟨c.ny,?_⟩) l hpl;exact K7 F B j hd G c r q
def RR(F:xC X.prog X.w X.K X.mg X.b? CX k f fd ps sp)(l:wt k X.A)(d:Gl X x)(j:X.mg x=U (.ref f))(i:de X.K (.ref f)=γ)(c:j4 X.K fd ps ds)(hd:eg dvs ds)(q:l? CX X E)
  (a:(x==("__debug__" : Str))=δ:=by decide):PE X (.Call (.Name x p) [] [] pos) (BS sp dvs E HR):=by
 intro b s u H Q I h;refine dD (z9 I d j ?_ a);exact l8 I.ny i (K7 (us:=[]) F l c hd q I .nil h)
structure Mk(K:aw)(C f:Addr):Prop where
 υ:mW K C=γ
 init:cX K (.ref C) "__init__" = U (U (.ref f))
 fn:j5 K (.ref f)=γ
 kp:de K (.ref C)=γ
theorem RS(M:Mk X.K C f)(F:xC X.prog X.w X.K X.mg X.b? CX k f fd ps sp)(S:wt (k+1) X.A)(P:j4 X.K fd ps ds)(hd:eg dvs ds)
  (T:l? CX X E) (I:dr X b y H s) (r:eg q c)
  (h:∀x i,H x=O->H i=O->i≠x->sp (.ref x::(q++dvs)) (e7 (e7 H i (.i1 x)) x (.mr C i [])) (λv B=>v=.X/\Q (.ref x) B) E):
  ao (model X.prog X.w) X.A (call (.ref C) c) (EP X b y Q) X.xe s:=by
 have j:=h (s.heap.objs.size+1) s.heap.objs.size (I.fb.fresh (iU _)) (I.fb.fresh (aL _)) (aW (dF _));have d:=dr.made (C:=C) I;have l:eg (V.ref (s.heap.objs.size+1)::(q++dvs)) (Value.ref (s.heap.objs.size+1)::(c++ds)):=.cons Z (r.append hd);have R:(Value.ref (s.heap.objs.size+1)::c++ds).length=ps.length:=by have e:=l.length;rw[F.len _ _ _ _ j]at e;exact e.symm
 refine gb (RP (f:=f) I.ny M.υ M.init (beq_iff_eq.mp M.fn) (fG (F.run _ X.stack _ _ ⟨Value.ref (s.heap.objs.size+1)::c,[]⟩ (Value.ref (s.heap.objs.size+1)::(c++ds)) _ _ E (S.make C c [])
  (d.env0.make C c []) (P _ (Value.ref (s.heap.objs.size+1)::c) d.ny R) l j) λr Y a=>?_))
 cases r with
 |error e=>exact T b y _ _ e Y d a
 |ok N=>
  cases N with
  |ret u=>obtain⟨v,z,G,W,J,q3⟩:=d.after a;subst J;exact⟨W,⟨V.ref (s.heap.objs.size+1),z,G,Z,q3⟩⟩
  |next=>exact cM a
  |brk=>exact cM a
  |cont=>exact cM a
def Vv(M:Mk X.K C f)(F:xC X.prog X.w X.K X.mg X.b? CX k f fd ps sp)(z:wt (k+1) X.A)(u:Gl X x)(y:X.mg x=U (.ref C))(j:j4 X.K fd ps ds)(hd:eg dvs ds)(B:l? CX X E)
  (i:PA X (e::es) t) (b:(x==("__debug__" : Str))=δ:=by decide) (l:ay (e::es) X.cb=(δ,eval e X.cb)::ay es X.cb:=by rfl) (hpl:(bE pos (ay es X.cb)).any (·.1)=δ:=by rfl):
  PE X (.Call (.Name x p) (e::es) [] pos) (Xu C sp dvs E t):=by
 intro a s G H Q I h;refine dD (z9 I u y ?_ b);refine jN (h₀:=X.b?) I.ok.y'.kin M.kp (fu (i pos a s G H _ I h) λP N ⟨R,J,c,r,q⟩=>⟨c.ny,?_⟩) l hpl;exact RS M F z j hd B c r q
end
structure wD(N P:aE)(sc:cJ):Prop where
 kind:sc.kind=.function
 co:sc.isCoroutine=δ
 ri:sc.isGenerator=δ
 nd:N.Nodup
 pre:N.take P.length=P
 par:∀x∈P,sc.names.lookup x=U .local\/sc.names.lookup x=U .cell
 nofree:∀y∈sc.names,y.2≠.free
theorem JU{kindOf:Str->Option d7}{x:Str}:∀{ro:List (Str×aa)} {m:Str->Option aa},(∀v,(x,v)∉ro)->bindL kindOf ro m x=m x
 |[],_,_=>rfl
 |(n,v)::r,m,h=>by
  unfold bindL;rw[JU λw a=>h w (ba _ a)];split
  .have:x≠n:=by rintro rfl;exact h v bb
   simp[this]
  .rfl
theorem JV{kindOf:Str->Option d7}{x:Str}:∀{ro:List (Str×aa)} {m:Str->Option aa},(∀v,(x,v)∉ro)->bindC kindOf ro m x=m x
 |[],_,_=>rfl
 |(n,v)::r,m,h=>by
  unfold bindC;rw[JV λw a=>h w (ba _ a)];split
  .rfl
  .have:x≠n:=by rintro rfl;exact h v bb
   simp[this]
theorem JW{kindOf:Str->Option d7}{x:Str}{v:aa}:∀{P:aE} {a:List aa} {i:Nat} {m:Str->Option aa},P.Nodup->P[i]?=U x->a[i]?=U v->kindOf x=U .local->
  bindL kindOf (P.zip a) m x=U v
 |[],_,_,_,_,h,_,_=>by simp at h
 |_::_,[],_,_,_,_,h,_=>by simp at h
 |p::P,w::a,0,m,e,b,c,d=>by simp at b c;subst b;subst c;show bindL kindOf ((p,w)::P.zip a) m p=_;unfold bindL;rw[JU λv f=>(dH.1 e).1 (jJ f).1,ak d];simp
 |p::P,w::a,i+1,m,e,b,c,d=>by show bindL kindOf ((p,w)::P.zip a) m x=_;unfold bindL;exact JW (i:=i) (dH.1 e).2 (by simpa using b) (by simpa using c) d
theorem JX{kindOf:Str->Option d7}{x:Str}{v:aa}:∀{P:aE} {a:List aa} {i:Nat} {m:Str->Option aa},P.Nodup->P[i]?=U x->a[i]?=U v->kindOf x≠U .local->
  bindC kindOf (P.zip a) m x=U v
 |[],_,_,_,_,h,_,_=>by simp at h
 |_::_,[],_,_,_,_,h,_=>by simp at h
 |p::P,w::a,0,m,e,b,c,d=>by simp at b c;subst b;subst c;show bindC kindOf ((p,w)::P.zip a) m p=_;unfold bindC;rw[JV λv f=>(dH.1 e).1 (jJ f).1,aq d];simp
 |p::P,w::a,i+1,m,e,b,c,d=>by show bindC kindOf ((p,w)::P.zip a) m x=_;unfold bindC;exact JX (i:=i) (dH.1 e).2 (by simpa using b) (by simpa using c) d
def start(N:aE)(a:bz):St:=a.map U++b9 (N.length - a.length) O
def K8(CX:CXT)(P:aB)(w:az)(K:aw)(mg:Str->Option aa)(b?:Heap)(N:aE)(qual:Str)(scope:cJ)(f:Addr)(b:aa)(A:aG)(dg:List Env)(s:af)(H:Hp)(E:XK):Cx where
 prog:=P
 w:=w
 K:=K
 mg:=mg
 b?:=b?
 A:=A.deeper (envOfC qual scope s.heap.objs.size f b)
 N:=N
 s₀:=s
 H₀:=H
 cb:=envOfC qual scope s.heap.objs.size f b
 dg:=dg
 stack:=envOfC qual scope s.heap.objs.size f b::dg
 ex:=[]
 ll:=γ
 fn:=λv=>γ
 pn:=[]
 xe:=λe s'=>ao (model P w) (A.deeper (envOfC qual scope s.heap.objs.size f b)) (leaving (envOfC qual scope s.heap.objs.size f b) e) (λv a=>CX dg H s E e a) (λc a=>CX dg H s E c a) s'
def Mc{a:cJ}(h:a.names.lookup x=U .cell):∃c,(cellsFrom n a.names []).lookup x=U c:=by have q:=px a.names n [] (.inl h);exact kH.1 q
def Qr{CX:CXT}{P:aB}{w:az}{K:aw}{G:Str->Option aa}{b?:Heap}{N m:aE}{qual:Str}{scope:cJ}{f:Addr}{B:aa}{A:aG}{dg:List Env}{s Q:af}{H:Hp}{E:XK}{I:List aa}{o:bz}
  (S:wD N m scope) (hd:A.handled=O) (j:NN P w K G b? A dg s H) (X:o.length=m.length) (r:eg o I)
  (x:InCallC s s.heap.objs.size (bindL (envOfC qual scope s.heap.objs.size f B).kindOf (m.zip I) λg=>O) (cellsFrom (s.heap.objs.size+1) scope.names []) (bindC (envOfC qual scope s.heap.objs.size f B).kindOf (m.zip I) λg=>O) Q):
  dr (K8 CX P w K G b? N qual scope f B A dg s H E) [] (start N o) H Q:=by
 have hpl:m.length<=N.length:=by have:=bD cQ S.pre;rw[bU]at this;omega
 obtain⟨C,Y,rfl,J⟩:=x.done;have noA:∀b:Addr,b∉(K8 CX P w K G b? N qual scope f B A dg s H E).ex:=λb z=>ar (show b∈([]:List Addr) from z) (by simp);refine⟨⟨j.y',S.kind,Z,Z,aL _,λy z c C d=>?_,λy l=>?_,λy c g h=>?_,λg=>hd,Around.frames_deeper j.frames,.inr ⟨Z,Z⟩,λb z=>ar z (noA b),j.bs,j.bsz,λb g g=>noA b,λb z=>ar z (noA b),j.qi,j.frf⟩,
  rfl,j.gi,Un.f? J,⟨_,x.toInCall.ns,λi y v C d W=>?_⟩,λy c h=>⟨_,x.cell y c h⟩,j.fb.fresh (aL _),λy c h=>?_,λp t=>ar (show p∈([]:cA) from t) (by simp),j.fb.f? J,?_⟩
 .exact name_of_addr x.apart (iq C) (iq d)
 .have l:scope.names.lookup y=U .cell\/scope.names.lookup y=U .free:=l;rcases l with l|l
  .exact Mc l
  .exact ar Z (S.nofree _ (iq l))
 .exact f6 (x.above y c (iq h))
 .have F:i<o.length:=by
   unfold start at d;by_cases F:i<o.length
   .exact F
   .rw[fM (by simpa using F)]at d;rw[jo]at d;split at d<;>cases d
  have R:o[i]?=U v:=by
   unfold start at d;rw[fN (by simpa using F),bA]at d;cases e:o[i]? with
   |none=>rw[e]at d;cases d
   |some a=>rw[e]at d;cases d;rfl
  obtain⟨u,M,T⟩:=r.get R;have t:m[i]?=U y:=by rw[<-S.pre,List.getElem?_take_of_lt (by omega)];exact C
  have ndP:m.Nodup:=by rw[<-S.pre];exact S.nd.sublist (ix _ _)
  refine⟨u,T,?_⟩;rcases S.par y (b8 t)with k|k
  .exact .inl ⟨k,JW ndP t M k⟩
  .obtain⟨c,e⟩:=Mc (n:=s.heap.objs.size+1) k;refine .inr ⟨.inl k,c,e,?_⟩;have q:=x.cell y c e;rw[JX ndP t M (by show scope.names.lookup y≠_;rw[k];decide)]at q;exact q
 .exact j.fb.fresh (f6 (x.above y c (iq h)))
 .unfold start;show _=N.length;rw[aF,ah,c7];omega
def OQ{CX:CXT}{P:aB}{w:az}{K:aw}{j:Str->Option aa}{b?:Heap}{k:Nat}{f:Addr}{name qual:Str}{params:Arguments}{body:List Stmt}{scope:cJ}{dV kV doc G cdv F oc:aa}{C od:Option Addr}
  {osl:Array (Option aa)} {N l:aE} {B:Sp} (lk:K.lookup f=U ⟨oc,od,.func (eO name qual params body scope dV kV doc G C cdv F),osl⟩) (hcd:gZ K cdv qual=γ) (S:wD N l scope)
  (len:∀a H Q E,B a H Q E->a.length=l.length)
  (hbody:∀(A:aG) (dg:List Env) (s:af) (H:Hp) (a:bz) (Q:VK) (E:XK),wt k (A.deeper (envOfC qual scope s.heap.objs.size f cdv))->B a H Q E->
   ∃t,lr (K8 CX P w K j b? N qual scope f cdv A dg s H E) body t/\t { nx:=λg d=>Q .X d,rt:=Q } (start N a) H):
  xC P w K j b? CX (k+1) f (eO name qual params body scope dV kV doc G C cdv F) l B:=by
 refine⟨len,λA dg s H args us a Q E m i T r hsp=>?_⟩;have Y:=len _ _ _ _ hsp;have KX:K.In s.heap:=i.y'.kin.keeps λb o e=>(i.bs b o e).1;have lim:s.heap.NoLimit:=i.y'.nolimit.keeps λb o e=>(i.bs b o e).1;have hkind:∀y∈l.zip us,scope.names.lookup y.1=U .local\/(scope.names.lookup y.1=U .cell/\((cellsFrom (s.heap.objs.size+1) scope.names []).lookup y.1).isSome=γ):=λ⟨n,v⟩ hy=>by
  rcases S.par n (jJ hy).1 with q|q
  .exact .inl q
  .exact .inr ⟨q,px _ _ _ (.inl q)⟩
 refine codeAny_call_function m.depth (KX _ _ lk) Z S.co S.ri Z (W.codeRec_of KX hcd) (T _ _ _ _ ?_);refine wpAny_newFunctionEnv_cells S.kind hkind λcb X M x=>?_;subst X;refine⟨lim.keeps x.toInCall.keep,codeAny_func ?_⟩;obtain⟨t,ht,hq⟩:=hbody A dg s H a Q E (m.deeper _) hsp;have I:dr (K8 CX P w K j b? N qual scope f cdv A dg s H E) [] (start N a) H M:=Qr S m.hd i Y r x;refine bQ (ht [] M (start N a) H _ I hq) (λR z h=>?_) λe z h=>h;have fin:∀{c:St} {d:Hp} {v:V} {u:aa},dr (K8 CX P w K j b? N qual scope f cdv A dg s H E) [] c d z->eo v u->Q v d->CE dg P w H s Q u z:=
  λ{c d v u} J p q=>⟨v,d,J.os,J.gi,J.b?,J.fb,p,q⟩
 cases R with
 |ret u=>obtain⟨v,c,d,J,p,q⟩:=h;exact fin J p q
 |next=>obtain⟨c,d,J,q⟩:=h;exact fin (v:=V.X) (u:=Value.none) J Z q
 |brk=>obtain⟨_,_,_,q⟩:=h;exact cM q
 |cont=>obtain⟨_,_,_,q⟩:=h;exact cM q
section
variable{X:Cx}{x:Str}{p pos:Pos}{e:Expr}{es:List Expr}{t:TA}{id T:String}{r:bz->Hp->VK->Prop}
def tCB(r:bz->Hp->VK->Prop)(t:TA):TE:=λc H Q=>t c H λb a=>r b a Q
def yM(j:vQ X (.builtin id) r)(m:Gl X x)(o:X.mg x=O)(u:dN x=U (.builtin id))(i:PA X (e::es) t)(q:x≠"__name__" := by decide)(b:(x==("__debug__" : Str))=δ:=by decide)
  (l:ay (e::es) X.cb=(δ,eval e X.cb)::ay es X.cb:=by rfl) (hpl:(bE pos (ay es X.cb)).any (·.1)=δ:=by rfl):PE X (.Call (.Name x p) (e::es) [] pos) (tCB r t):=by
 intro a s c H Q I h;refine dD (Bj I m o u ?_ q b);exact callWith_builtin1 (fu (i pos a s c H _ I h) λA z ⟨B,d,f,y,w⟩=>j a z c d B A Q f y w) l hpl
def Qs(j:vQ X (.type T) r)(m:Gl X x)(o:X.mg x=O)(u:dN x=U (.type T))(i:PA X (e::es) t)(q:x≠"__name__" := by decide)(b:(x==("__debug__" : Str))=δ:=by decide)
  (l:ay (e::es) X.cb=(δ,eval e X.cb)::ay es X.cb:=by rfl) (hpl:(bE pos (ay es X.cb)).any (·.1)=δ:=by rfl):PE X (.Call (.Name x p) (e::es) [] pos) (tCB r t):=by
 intro a s c H Q I h;refine dD (Bj I m o u ?_ q b);exact callWith_type1 (fu (i pos a s c H _ I h) λA z ⟨B,d,f,y,w⟩=>j a z c d B A Q f y w) l hpl
end
end L2
namespace HT
open PySem PyProof.Rows
section
variable{prog:aB}{w:az}{A:aG}{E:aa->af->Prop}{s:af}
def Vw{vs ws:List aa}(q:gp s.heap t vs.toArray)(hb:gp s.heap b ws.toArray)(o:vs≠[])
  (h1:ws=[]->Q (.ref t) s) (h2:ws≠[]->Q (.ref s.heap.objs.size) { s with heap:=s.heap.push { cls:=.type "tuple", data:=.seq (vs++ws).toArray } })
  (j:vs.length+ws.length<=aC):ao (model prog w) A (cR .Add (.ref t) (.ref b)) Q E s:=by
 obtain⟨⟨cls,l,data,sl⟩,i,m,n,hd⟩:=id q;obtain⟨⟨cls2,c,data2,h⟩,a,d,p,f⟩:=id hb;simp only at m hd d f;subst m hd d f;have e:vs.toArray++ws.toArray=(vs++ws).toArray:=by simp
 by_cases hw:ws=[]
 .exact concat_meets ⟨_,i,Z⟩ ⟨_,a,Z⟩ pz qo pA oY (oK _ _)
   (tuple_addW1 t b vs.toArray ws.toArray n p l c sl h (by simpa using o) (by simp[hw])) ⟨i,a,h1 hw⟩
 .refine concat_meets ⟨_,i,Z⟩ ⟨_,a,Z⟩ pz qo pA oY (oK _ _)
   (tuple_addW2 t b vs.toArray ws.toArray n p l c sl h (by simpa using o) (by simpa using hw) (by rw[bc,bc];exact j)) ⟨i,a,?_⟩
  rw[e];exact h2 hw
def i?(n d:Nat):Option Int->Nat
 |none=>d
 |some v=>if v<0 then (v+(n:Int)).toNat else min v.toNat n
def Me(n d:Nat):i? n d O=d:=rfl
def OR(n d k:Nat):i? n d (U (k:Int))=min k n:=by show (if (k:Int)<0 then ((k:Int)+(n:Int)).toNat else min (k:Int).toNat n)=min k n;rw[aq (by omega),iy]
def YC(n d:Nat)(hd:d<=n)(o:Option Int):i? n d o<=n:=by
 cases o with
 |none=>exact hd
 |some v=>
  show (if v<0 then (v+(n:Int)).toNat else min v.toNat n)<=n;by_cases a:v<0
  .rw[ak a];omega
  .rw[aq a];exact pB _ _
def OS(v:Int)(n d:Nat):(if v<0 then max (v+(n:Int)) 0 else min v (n:Int))=((i? n d (U v):Nat):Int):=by
 show (if v<0 then max (v+(n:Int)) 0 else min v (n:Int))=(((if v<0 then (v+(n:Int)).toNat else min v.toNat n):Nat):Int);by_cases a:v<0
 .simp only[ak a];omega
 .simp only[aq a];omega
def NO(lo a:Option Int)(n:Nat):kG lo a 1 (n:Int)=(((i? n 0 lo:Nat):Int),((i? n n a:Nat):Int)):=by
 have b:¬((1:Int)<0):=by omega
 unfold kG;simp only[b,if_false];refine Prod.ext ?_ ?_
 .cases lo with
  |none=>rfl
  |some v=>exact OS v n 0
 .cases a with
  |none=>rfl
  |some v=>exact OS v n n
def NP(i j:Nat):jk (i:Int) (j:Int) 1=j - i:=by
 unfold jk;have a:(1:Int) > 0:=by omega
 simp only[a,if_true,Int.ediv_one];split<;>omega
def HS(p:fK v o)(h:Q o s):ao (model prog w) A (rS v) Q E s:=by
 cases p with
 |none=>exact p8 h
 |int i t=>exact slicePart_int h
def FB{d:Addr}{b c:aa}{lo a:Option Int}{n:Nat}{Q:Int×Int×Nat->af->Prop}(e:s.heap.IsSliceOf d b c .none)(pl:fK b lo)(f:fK c a)
  (h:Q (((i? n 0 lo:Nat):Int),1,i? n n a - i? n 0 lo) s):ao (model prog w) A (nE (.ref d) (pure (n:Int))) Q E s:=by
 obtain⟨os,hos,hcs,hds⟩:=id e;unfold nE sm;refine ag (ag (mH hos hds (x:=b) Z (ag (mH hos hds (x:=c) Z (ag (mH hos hds (x:=.none) Z (au ?_)))))));refine ag (p8 ?_);show ao _ _ (if ((1:Int)==0)=γ then _ else _) _ _ s;rw[aq (by decide)];refine ag (HS pl (ag (HS f (ag (au ?_)))));show ao _ _ (match kG lo a 1 (n:Int)with|(lo,a)=>pure (lo,(1:Int),jk lo a 1)) _ _ s;rw[NO lo a n];show ao _ _ (pure (((i? n 0 lo:Nat):Int),(1:Int),jk ((i? n 0 lo:Nat):Int) ((i? n n a:Nat):Int) 1)) _ _ s;rw[NP];exact au h
def RT(a:Array aa)(i k:Nat):((aZ k).filterMap λ(m:Nat)=>a[((i:Int)+(m:Int) * 1).toNat]?).toArray=((a.toList.drop i).take k).toArray:=by
 have e:(λ(m:Nat)=>a[((i:Int)+(m:Int) * 1).toNat]?)=λm=>a[i+m]?:=by
  funext m
  have:((i:Int)+(m:Int) * 1).toNat=i+m:=by omega
  rw[this]
 rw[e];have:=pick_run a i k;rw[List.filterMap_map]at this;have b:((λx=>a[x]?)∘λx=>i+x)=λm=>a[i+m]?:=rfl;rw[b]at this;rw[this]
def Em{t sl:Addr}{items:Array aa}{b c:aa}{lo hi:Option Int}{Q:aa->af->Prop}(a:gp s.heap t items)(hs:s.heap.IsSliceOf sl b c .none)(pl:fK b lo)(e:fK c hi)
  (hw:¬(i? items.size 0 lo=0/\i? items.size items.size hi=items.size))
  (h:Q (.ref s.heap.objs.size) { s with heap:=s.heap.push { cls:=.type "tuple", data:=.seq ((items.toList.drop (i? items.size 0 lo)).take (i? items.size items.size hi - i? items.size 0 lo)).toArray } })
  (d:items.size<=aC):ao (model prog w) A (getItem (.ref t) (.ref sl)) Q E s:=by
 have htake:sizeOk (.seq ((items.toList.drop (i? items.size 0 lo)).take (i? items.size items.size hi - i? items.size 0 lo)).toArray):=by show ((items.toList.drop (i? items.size 0 lo)).take (i? items.size items.size hi - i? items.size 0 lo)).toArray.size<=aC;rw[bc,bU,fw,bM];omega
 have f:i? items.size items.size hi<=items.size:=YC _ _ (aL _) hi;obtain⟨os,hos,hcs,hds⟩:=id hs;have hTs:s.TypeIs (.ref sl) "slice" := ⟨os,hos,hcs⟩;unfold getItem
 try with_reducible refine bL ?_
 first|refine ag (au ?_)|skip
 refine ag (wpAny_sequenceKey a.typeIs (by decide) ?_);refine ag (nN (name:=mx "__getitem__") a.typeIs ji
  (fS ji a.typeIs entry_tuple_getitem ?_ (args_tuple_getitem _ _)))
 show ao _ _ (rV (.ref t)>>=_) _ _ s;refine ag (tupleItemsOf_ a ?_);refine ag (jO hTs ?_);rw[ak (by decide)];refine ag (FB hs pl e ?_);have hno:¬((((i? items.size 0 lo:Nat):Int)==0&&(1:Int)==1&&(i? items.size items.size hi - i? items.size 0 lo)==items.size)=γ):=by intro q;rw[aV,aV]at q;have i:((i? items.size 0 lo:Nat):Int)=0:=gj q.1.1;have j:i? items.size items.size hi - i? items.size 0 lo=items.size:=gj q.2;exact hw ⟨by omega,by omega⟩
 show ao _ _ (if (((i? items.size 0 lo:Nat):Int)==0&&(1:Int)==1&&(i? items.size items.size hi - i? items.size 0 lo)==items.size)=γ then _ else _) _ _ s;rw[aq hno,RT]
 first
  |exact ag (m:=jn _) (dX (au ⟨_,Z,au h⟩) htake)
  |exact ag (m:=jn _) (dX (ag (au (au ⟨_,Z,au h⟩))) htake)
  |exact ag (ag (m:=jn _) (dX (au (au ⟨_,Z,au h⟩)) htake))
  |exact ag (ag (m:=jn _) (dX (au ⟨_,Z,au h⟩) htake))
end
end HT
namespace L2
open PySem PySem.Spec PyProof.Rows
abbrev TO:=St->Hp->(Option Int->Hp->Prop)->Prop
def PO(X:Cx)(e:Option Expr)(t:TO):Prop:=
 ∀(a:cA) (s:af) (b:St) (H:Hp) (Q:Option Int->Hp->Prop),dr X a b H s->t b H Q->
  ao (model X.prog X.w) X.A (evalPart e X.cb) (λu d=>∃o c,dr X a b c d/\fK u o/\Q o c) X.xe s
def Vx:TO:=λv H Q=>Q O H
def acr(t:TE):TO:=λb H Q=>t b H λx a=>∃i,x=.int i/\Q (U i) a
section
variable{X:Cx}{e:Expr}{te:TE}{lo hi:Option Expr}{tl th:TO}{pos p2:Pos}
def OT:PO X O Vx:=by intro a s b H Q I h;rw[qp];exact au ⟨O,H,I,.none,h⟩
def OU(h:PE X e te):PO X (U e) (acr te):=by intro a s l H Q I d;rw[evalPart_some];refine fu (h a s l H _ I d) λu m zz=>?_;obtain⟨x,b,c,j,f⟩:=zz;obtain⟨i,rfl,q⟩:=f;obtain⟨t,rfl⟩:=j;exact⟨U i,b,c,.int i t,q⟩
def SlR(X:Cx)(r:V->Option Int->Option Int->Hp->VK->Prop):Prop:=
 ∀(a:cA) (s:af) (f:St) (H:Hp) (x:V) (v c d:aa) (lo hi:Option Int) (b:Addr) (Q:VK),dr X a f H s->eo x v->s.heap.IsSliceOf b c d .none->fK c lo->fK d hi->r x lo hi H Q->
  ∃T id,typeLookup (.type T) "__getitem__" = pure (U (.builtin id))/\s.TypeIs v T/\ao (model X.prog X.w) X.A (getItem v (.ref b)) (EP X a f Q) X.xe s
def tSl(r:V->Option Int->Option Int->Hp->VK->Prop)(te:TE)(tl th:TO):TE:=λa H Q=>te a H λx b=>tl a b λl c=>th a c λu d=>r x l u d Q
def Mg(hr:SlR X r)(p:PE X e te)(t:PO X lo tl)(z:PO X hi th):PE X (.Subscript e (.Slice lo hi O p2) pos) (tSl r te tl th):=by intro pins s σ H Q I h;refine mO (fu (p pins s σ H _ I h) λv F zz=>?_);obtain⟨x,H1,i,r1,C⟩:=zz;refine wpAny_Slice (fu (t pins F σ H1 _ i C) λc s2 ⟨l,H2,j,pl,E⟩=>fu (z pins s2 σ H2 _ j E) λd a zz=>?_);obtain⟨u,f,m,B,q3⟩:=zz;rw[qp];refine au ?_;have o:dr X pins σ f { a with heap:=a.heap.push { cls:=.type "slice", data:=.fields #[c,d,.none] } }:=m.f? (t':=a.toks) λb ob q=>aK _ q;obtain⟨T,id,hT,y,hg⟩:=hr pins { a with heap:=a.heap.push { cls:=.type "slice", data:=.fields #[c,d,.none] } } σ f x v c d l u a.heap.objs.size Q o r1 (tU ..) pl B q3;show ao (model X.prog X.w) X.A (subscriptTail e (.Slice lo hi O p2) v (.ref a.heap.objs.size)) (EP X pins σ Q) X.xe { a with heap:=a.heap.push { cls:=.type "slice", data:=.fields #[c,d,.none] } };exact tail_any (ops:=[.ref a.heap.objs.size,v]) y hT hg (by with_unfolding_all rfl)
def Mh(a:bz)(lo hi:Option Int):bz:=(a.drop (HT.i? a.length 0 lo)).take (HT.i? a.length a.length hi - HT.i? a.length 0 lo)
def Gg(a:bz)(lo hi:Option Int):(Mh a lo hi).length<=a.length:=by unfold Mh;rw[bU,fw];omega
def YD(K:aw):V->Option Int->Option Int->Hp->VK->Prop:=λx lo hi H Q=>∃a b,x=.ref a/\gk K H a b/\
 ¬(HT.i? b.length 0 lo=0/\HT.i? b.length b.length hi=b.length)/\∀p,H p=O->Q (.ref p) (e7 H p (.ef (Mh b lo hi)))
def YE:SlR X (YD X.K):=by
 intro l s E H x v B C lo hi z Q I w m pl u h;obtain⟨a,d,rfl,t,p,q⟩:=h;cases w;obtain⟨f,r,i,j⟩:=I.tuple t;have c:f.toArray.size=d.length:=by rw[bc];exact r.length.symm
 refine⟨"tuple", _,ji.lookup,i.typeIs,?_⟩;refine HT.Em i m pl u (by rw[c];exact p) ?_ (by rw[c];exact j);rw[c];refine⟨.ref s.heap.objs.size,_,I.laid (t':=s.toks) (o:=.ef (Mh d lo hi)) (λb y q=>aK _ q) (aL _) ?_,Z,q _ (I.fb.fresh (aL _))⟩;exact⟨bF (Gg d lo hi) j,_,(r.drop (HT.i? d.length 0 lo)).take (HT.i? d.length d.length hi - HT.i? d.length 0 lo),mX _ _,λo e=>by rw[bp _ Z]at e;cases e;rfl⟩
def acs(K:aw):R2:=λx y H Q=>∃a b d c,x=.ref a/\y=.ref b/\gk K H a d/\gk K H b c/\d≠[]/\d.length+c.length<=aC/\
 (c=[]->Q (.ref a) H)/\(c≠[]->∀p,H p=O->Q (.ref p) (e7 H p (.ef (d++c))))
def eg.M?(r:eg b a):a=[] ↔ b=[]:=by
 cases r with
 |nil=>simp
 |cons _ _=>simp
def Vy:j3 X (cR .Add) (acs X.K):=by intro j s N H x y v u Q I C E h;obtain⟨a,b,F,G,rfl,rfl,l,m,p,f,A,B⟩:=h;cases C;cases E;obtain⟨r,d,t,_⟩:=I.tuple l;obtain⟨i,c,p2,_⟩:=I.tuple m;refine HT.Vw t p2 (λz=>p (d.M?.1 z)) (λz=>⟨.ref a,H,I,Z,A (c.M?.1 z)⟩) (λz=>?_) (by rw[<-d.length,<- c.length];exact f);refine⟨.ref s.heap.objs.size,_,I.laid (t':=s.toks) (o:=.ef (F++G)) (λb J q=>aK _ q) (aL _) ?_,Z,B (λw=>z (c.M?.2 w)) _ (I.fb.fresh (aL _))⟩;exact⟨by rw[aF];exact f,_,d.append c,mX _ _,λo e=>by rw[bp _ Z]at e;cases e;rfl⟩
end
def ixN(n:Nat)(i:Int):Option Nat:=if 0<=i then (if i<n then U i.toNat else O)else if -(n:Int)<=i then U (i+n).toNat else O
def Cc{b:Type}(a:List b)(i:Int):Option b:=(ixN a.length i).bind λj=>a[j]?
def OV(h:ixN n i=U j):seqIndex? i n=U j/\j<n/\-(n:Int)<=i/\i<n:=by
 unfold ixN at h;by_cases b:0<=i
 .rw[ak b]at h;by_cases a:i<n
  .rw[ak a]at h;have e:i.toNat=j:=cP h;exact⟨by rw[mI b a,e],by omega,by omega,a⟩
  .rw[aq a]at h;cases h
 .rw[aq b]at h;by_cases a:-(n:Int)<=i
  .rw[ak a]at h;have e:(i+n).toNat=j:=cP h;exact⟨by rw[mB (by omega) a,e],by omega,a,by omega⟩
  .rw[aq a]at h;cases h
def K9{b:Type}{a:List b}{i:Int}{v:b}(h:Cc a i=U v):∃j,seqIndex? i a.length=U j/\a[j]?=U v/\j<a.length/\-(a.length:Int)<=i/\i<a.length:=by
 unfold Cc at h;cases e:ixN a.length i with
 |none=>rw[e]at h;cases h
 |some j=>rw[e]at h;obtain⟨c,d,f,l⟩:=OV e;exact⟨j,c,h,d,f,l⟩
def En{b:Type}{a:List b}{j:Nat}{v:b}(h:a[j]?=U v):Cc a (j:Int)=U v:=by
 have c:j<a.length:=(bR.1 h).1;have e:ixN a.length (j:Int)=U j:=by unfold ixN;rw[ak (by omega),ak (by omega)];simp
 unfold Cc;rw[e];exact h
def OW(b:Expr):Prop:=∀o i,subscripted b δ o i=operate [o,i] (getItem o i)
def IxR(X:Cx)(r:R2):Prop:=
 ∀(value slice:Expr) (a:cA) (s:af) (b:St) (H:Hp) (x y:V) (v u:aa) (Q:VK),dr X a b H s->eo x v->eo y u->r x y H Q->
  subscripted slice δ v u=operate [v,u] (getItem v u)->ao (model X.prog X.w) X.A (subscriptTail value slice v u) (EP X a b Q) X.xe s
def MtR(X:Cx)(id:String)(r:V->bz->Hp->VK->Prop):Prop:=
 ∀(a:cA) (s:af) (d:St) (H:Hp) (x:V) (c:bz) (v:aa) (b:List aa) (Q:VK),dr X a d H s->eo x v->eg c b->r x c H Q->
  ao (model X.prog X.w) X.A (call (.builtin id) (v::b)) (EP X a d Q) X.xe s
section
variable{X:Cx}{a b:Expr}{ta tb:TE}{pos:Pos}
def IxR.or(h:IxR X r)(j:IxR X l):IxR X (λx y H Q=>r x y H Q\/l x y H Q):=by
 intro value slice c s i H x y v u Q I e f q d;rcases q with q|q
 .exact h value slice c s i H x y v u Q I e f q d
 .exact j value slice c s i H x y v u Q I e f q d
def Xv(j:IxR X r)(f:PE X a ta)(i:PE X b tb)(l:OW b):PE X (.Subscript a b pos) (tOp r ta tb):=by intro c s t H Q I h;exact mO (Yq f i I h λv u p x y d e m o q=>j a b c p t d x y v u Q e m o q (l _ _))
def Vz(K:aw):R2:=λx y H Q=>∃p c i v,x=.ref p/\y=.int i/\f5 K H p c/\Cc c i=U v/\Q v H
def rIxT(K:aw):R2:=λx y H Q=>∃p c i v,x=.ref p/\y=.int i/\gk K H p c/\Cc c i=U v/\Q v H
def rIxS:R2:=λx y H Q=>∃z i c,x=.str z/\y=.int i/\z.length<=aC/\Cc z.cps.toList i=U c/\Q (.str ⟨#[c]⟩) H
def OX:IxR X (Vz X.K):=by
 intro value slice c s B H x y v u Q I N P h A;obtain⟨p,Y,i,z,rfl,rfl,M,G,q⟩:=h;cases N;obtain⟨t,rfl⟩:=P;obtain⟨f,r,pl,W⟩:=I.list M;obtain⟨j,d,C,S,E,F⟩:=K9 G;obtain⟨w,m,l⟩:=r.get C;have J:=r.length;have T:=Fw;have fin:EP X c B Q w s:=⟨z,H,I,l,q⟩;by_cases o:0<=i
 .have e:i.toNat=j:=by rw[mI o F]at d;exact cP d
  exact item_listR pl.isList o (by omega) (by rw[e];simpa using m) fin A
 .have e:(i+(f.toArray.size:Int)).toNat=j:=by rw[mB (by omega) E]at d;rw[bc,<- J];exact cP d
  exact nQ (x:=w) pl.isList.typeIs oZ.lookup
   (wpAny_getItem_list_neg (Q:=λr R=>r=w/\EP X c B Q r R) pl.isList (by omega) (by rw[bc]<;>omega) (by omega) (by rw[e];simpa using m) ⟨Z,fin⟩) A
def YF:IxR X (rIxT X.K):=by
 intro value slice c s e H x y v u Q I F G h C;obtain⟨p,T,i,z,rfl,rfl,B,o,q⟩:=h;cases F;obtain⟨t,rfl⟩:=G;obtain⟨E,r,pl,S⟩:=I.tuple B;obtain⟨j,l,m,M,N,P⟩:=K9 o;obtain⟨w,f,d⟩:=r.get m;have A:=r.length;have R:=Fw;have fin:EP X c e Q w s:=⟨z,H,I,d,q⟩;exact nQ (x:=w) pl.typeIs ji.lookup
  (getItem_tuple (j:=j) (Q:=λr J=>r=w/\EP X c e Q r J) pl (by omega) (by omega) (by rw[bc,<- A];exact l) (by simpa using f) ⟨Z,fin⟩) C
def YG:IxR X rIxS:=by
 intro value slice e s M H x y v u Q I B C h A;obtain⟨z,i,c,rfl,rfl,G,r,q⟩:=h;obtain⟨t,rfl⟩:=B;obtain⟨J,rfl⟩:=C;obtain⟨j,d,m,E,o,p⟩:=K9 r;have w:z.cps.toList.length=z.length:=by simp[Str.length]
 rw[w]at d o p;have F:=Fw;exact tail_any (typeIs_str s z t) slot_str_getitem.lookup (getItem_str (c:=c) (by
  have f:decide (i < -(2 ^ 63:Int))=δ:=bj (by omega);have l:decide (i >= 2 ^ 63)=δ:=bj (by omega);rw[f,l,Bool.or_false]) (by rw[d];simpa using m) ⟨.str ⟨#[c]⟩,H,I.vl _,⟨_,Z⟩,q⟩) A
def rIx(K:aw):R2:=λx y H Q=>Vz K x y H Q\/rIxT K x y H Q\/rIxS x y H Q
def YH:IxR X (rIx X.K):=OX.or (YF.or YG)
def NQ(c:List aa)(n j:Nat)(u:aa):dc (·.setIfInBounds j u) { cls:=.type "list", data:=.seq c.toArray n }={ cls:=.type "list", data:=.seq (c.set j u).toArray n }:=by simp[dc]
theorem dr.cf{d:cA}{f:St}{H:Hp}{s:af}{p:Addr}{xs:bz}(I:dr X d f H s)(h:H p=U (.cf xs)):
  ∃(c:List aa) (n:Nat),eg xs c/\s.heap.get? p=U { cls:=.type "list", data:=.seq c.toArray n }/\xs.length<=aC:=by
 obtain⟨z,c,n,r,e⟩:=I.fb p _ h;exact⟨c,n,r,e,z⟩
def dr.lstUpd{d c:List aa}(I:dr X pins σ H s)(h:H p=U (.cf xs))
  (l:s.heap.get? p=U { cls:=.type "list", data:=.seq d.toArray n }) (hf:f { cls:=.type "list", data:=.seq d.toArray n }={ cls:=.type "list", data:=.seq c.toArray i }) (r:eg j c) (m:j.length<=aC) (t:Nat):
  dr X pins σ (e7 H p (.cf j)) { s with heap:=s.heap.update p f,toks:=t }:=by
 have e:(s.heap.update p f).get? p=U { cls:=.type "list", data:=.seq c.toArray i }:=by rw[eX f l (by rw[hf]<;>rfl),hf]
 refine I.v? (x:=p) (e:=p) (by rw[h];trivial) (.inl Z) (λb u hb q=>(gy _ _ (cE hb)).t q) ⟨_,e⟩ ?_;exact⟨m,c,i,r,e⟩
def Xw:V->V->V->Hp->(Hp->Prop)->Prop:=λo i v H Q=>∃p c k j,o=.ref p/\i=.int k/\H p=U (.cf c)/\ixN c.length k=U j/\Q (e7 H p (.cf (c.set j v)))
def set_list:PSet X Xw:=by
 intro pins s σ H o i v C B u Q I z y A h;obtain⟨p,xs,k,j,rfl,rfl,m,w,q⟩:=h;cases z;obtain⟨t,rfl⟩:=y;obtain⟨c,n,r,f,x⟩:=I.cf m;obtain⟨h1,h2,h3,h4⟩:=OV w;have e:=r.length;have hn:=Fw;have l:dr X pins σ (e7 H p (.cf (xs.set j v))) { s with heap:=s.heap.update p (dc (·.setIfInBounds j u)) }:=
  I.lstUpd m f (NQ c n j u) (r.set A j) (by rw[dJ];exact x) s.toks
 by_cases h0:0<=k
 .have d:k.toNat=j:=by rw[mI h0 h4]at h1;exact cP h1
  exact W.ki_setAt f h0 (by omega) (by rw[bc,<- e];exact h4) (by rw[d];exact⟨_,l,q⟩)
 .have d:(k+(c.toArray.size:Int)).toNat=j:=by rw[mB (by omega) h3]at h1;rw[bc,<- e];exact cP h1
  exact W.ki_setBack f (by omega) (by rw[bc,<- e];exact h3) (by omega) (by rw[d];exact⟨_,l,q⟩)
def Xx(i:Int)(n d:Nat):max 0 (min (if i<0 then i+(n:Int)else i) n)=((HT.i? n d (U i):Nat):Int):=by
 simp only[HT.i?];by_cases h:i<0
 .simp only[h,if_true]<;>omega
 .simp only[h,if_false]<;>omega
def La(lo c:Option Int)(n:Nat):(sliceBounds lo c O n).1=((HT.i? n 0 lo:Nat):Int)/\(sliceBounds lo c O n).2.1=((HT.i? n n c:Nat):Int)/\(sliceBounds lo c O n).2.2=1:=by
 refine⟨?_,?_,Z⟩
 .cases lo with
  |none=>simp[sliceBounds,HT.i?]
  |some i=>exact Xx i n _
 .cases c with
  |none=>simp[sliceBounds,HT.i?]
  |some i=>exact Xx i n _
def JC(c:List aa)(lo d:Option Int):slicePick c.toArray lo d O=((c.drop (HT.i? c.length 0 lo)).take (HT.i? c.length c.length d - HT.i? c.length 0 lo)).toArray:=by obtain⟨e,f,h⟩:=La lo d c.toArray.size;unfold slicePick;rw[e,f,h];simp only[sliceRange_one,pick_run,bc]<;>rfl
def VA(K:aw):V->Option Int->Option Int->Hp->VK->Prop:=λx lo d H Q=>∃a c,x=.ref a/\f5 K H a c/\∀p,H p=O->Q (.ref p) (e7 H p (.cf (Mh c lo d)))
def VB:SlR X (VA X.K):=by intro i s C H x v A B lo e y Q I u j pl t h;obtain⟨a,c,rfl,l,q⟩:=h;cases u;obtain⟨p,r,f,m⟩:=I.list l;have d:=r.length;refine⟨"list", _,oZ.lookup,f.isList.typeIs,?_⟩;refine wpAny_getItem_list_slice f.isList j pl t .none (by simp) ?_ (by rw[bc]<;>omega);rw[JC,<- d];refine⟨.ref s.heap.objs.size,_,I.laid (t':=s.toks) (o:=.cf (Mh c lo e)) (λb w q=>aK _ q) (aL _) ?_,Z,q _ (I.fb.fresh (aL _))⟩;exact⟨bF (Gg c lo e) m,_,0,(r.drop (HT.i? c.length 0 lo)).take (HT.i? c.length c.length e - HT.i? c.length 0 lo),bp _ Z⟩
def Dy:V->Bool
 |.X=>γ
 |.Y _=>γ
 |.int _=>γ
 |.str _=>γ
 |_=>δ
def eqV:V->V->Bool
 |.X,.X=>γ
 |.Y a,.Y b=>a==b
 |.Y a,.int b=>(if a then 1 else 0)==b
 |.int a,.Y b=>a==(if b then 1 else 0)
 |.int a,.int b=>a==b
 |.str a,.str b=>a==b
 |_,_=>δ
def HU(f:eo y u)(c:eo x v)(h:Dy y=γ)(e:Dy x=γ):jU A s u v (eqV y x):=by
 cases y with
 |X=>
  cases f;cases x with
  |X=>cases c;exact lI _
  |Y b=>cases c;exact sT b
  |int b=>obtain⟨t,rfl⟩:=c;exact oo b t
  |str b=>obtain⟨t,rfl⟩:=c;exact oq b t
  |_=>exact ar (show δ=γ from e) bw
 |Y a=>
  cases f;cases x with
  |X=>cases c;exact sU a
  |Y b=>cases c;exact sV a b
  |int b=>obtain⟨t,rfl⟩:=c;exact tI a b t
  |str b=>obtain⟨t,rfl⟩:=c;exact tJ a b t
  |_=>exact ar (show δ=γ from e) bw
 |int a=>
  obtain⟨d,rfl⟩:=f;cases x with
  |X=>cases c;exact ou a d
  |Y b=>cases c;exact tK a d b
  |int b=>obtain⟨t,rfl⟩:=c;exact tV a d b t
  |str b=>obtain⟨t,rfl⟩:=c;exact oH a d b t
  |_=>exact ar (show δ=γ from e) bw
 |str a=>
  obtain⟨d,rfl⟩:=f;cases x with
  |X=>cases c;exact ox a d
  |Y b=>cases c;exact tL a d b
  |int b=>obtain⟨t,rfl⟩:=c;exact oI a d b t
  |str b=>obtain⟨t,rfl⟩:=c;exact lg a d b t
  |_=>exact ar (show δ=γ from e) bw
 |_=>exact ar (show δ=γ from h) bw
def μ(x:V)(u:aa):Bool:=match u with
 |.none=>eqV .X x
 |.bool b=>eqV (.Y b) x
 |.int i _=>eqV (.int i) x
 |.str z _=>eqV (.str z) x
 |_=>δ
def RU(r:eo y u)(f:Dy y=γ):μ x u=eqV y x:=by
 cases y with
 |X=>cases r;rfl
 |Y b=>cases r;rfl
 |int i=>obtain⟨t,rfl⟩:=r;rfl
 |str z=>obtain⟨t,rfl⟩:=r;rfl
 |_=>exact ar (show δ=γ from f) bw
theorem Eo:∀{c:bz} {d:List aa},eg c d->c.all Dy=γ->d.any (μ x)=c.any λy=>eqV y x
 |_,_,.nil,_=>rfl
 |y::c,u::d,.cons r t,f=>by rw[gS,aV]at f;rw[fX,fX,RU r f.1,Eo t f.2]
theorem Cg(i:eo x v)(h:Dy x=γ):∀{e:bz} {d:List aa},eg e d->e.all Dy=γ->∀u∈d,jU A s u v (μ x u)
 |_,_,.nil,_=>λu c=>by cases c
 |y::e,u::d,.cons r t,f=>λj c=>by
  rw[gS,aV]at f;rcases aJ.1 c with rfl|c
  .rw[RU r f.1];exact HU r i f.1 h
  .exact Cg i h t f.2 j c
def inV(x:V)(c:bz):Bool:=c.any λy=>eqV y x
def rIn(K:aw)(neg:Bool):R2:=λx y H Q=>∃p c,y=.ref p/\(f5 K H p c\/gk K H p c)/\Dy x=γ/\c.all Dy=γ/\Q (.Y (if neg then !inV x c else inV x c)) H
def Qt:j3 X (bB .In) (rIn X.K δ):=by
 intro i s t H x y v u Q I j m h;obtain⟨p,o,rfl,d,f,fs,q⟩:=h;cases m;rcases d with d|d
 .obtain⟨c,r,pl,l⟩:=I.list d;refine SeqAt.in_listAt (μ x) pl.isList (λw e=>Cg j f r fs w (by simpa using e)) ⟨.Y _,H,I,Z,?_⟩;rw[show c.toArray.any (μ x)=c.any (μ x) by simp,Eo r fs];exact q
 .obtain⟨c,r,pl,l⟩:=I.tuple d;refine SeqAt.in_tupleAt (μ x) pl (λw e=>Cg j f r fs w (by simpa using e)) ⟨.Y _,H,I,Z,?_⟩;rw[show c.toArray.any (μ x)=c.any (μ x) by simp,Eo r fs];exact q
def Lb:j3 X (bB .NotIn) (rIn X.K γ):=by
 intro i s t H x y v u Q I j m h;obtain⟨p,o,rfl,d,f,fs,q⟩:=h;cases m;rcases d with d|d
 .obtain⟨c,r,pl,l⟩:=I.list d;refine oM (μ x) pl.isList (λw e=>Cg j f r fs w (by simpa using e)) ⟨.Y _,H,I,Z,?_⟩;rw[show c.toArray.any (μ x)=c.any (μ x) by simp,Eo r fs];exact q
 .obtain⟨c,r,pl,l⟩:=I.tuple d;refine SeqAt.notIn_tupleAt (μ x) pl (λw e=>Cg j f r fs w (by simpa using e)) ⟨.Y _,H,I,Z,?_⟩;rw[show c.toArray.any (μ x)=c.any (μ x) by simp,Eo r fs];exact q
def Lc:vQ X (.builtin "len") (λl H Q=>∃p d,l=[.ref p]/\(f5 X.K H p d\/gk X.K H p d)/\Q (.int d.length) H):=by
 intro j s x H l w Q I r h;obtain⟨p,d,rfl,e,q⟩:=h;obtain⟨u,rfl,o⟩:=m? r;cases o;have t:=Fw;rcases e with e|e
 .obtain⟨f,i,pl,m⟩:=I.list e;have c:=i.length;exact Calls.call_len_list pl.isList (by simp only[bc]<;>omega) ⟨.int d.length,H,I.vl _,⟨s.toks+1,by rw[bc,c]⟩,q⟩
 .obtain⟨f,i,pl,m⟩:=I.tuple e;have c:=i.length;exact len_tuple pl (by simp only[bc]<;>omega) ⟨.int d.length,H,I.vl _,⟨s.toks+1,by rw[bc,c]⟩,q⟩
def Ld:vQ X (.builtin "len") (λd H Q=>∃z,d=[.str z]/\z.length<=aC/\Q (.int z.length) H):=by intro c s j H d i Q I r h;obtain⟨z,rfl,f,q⟩:=h;obtain⟨u,rfl,t,rfl⟩:=m? r;have e:=Fw;exact len_str (by omega) ⟨.int z.length,H,I.vl _,⟨_,Z⟩,q⟩
def Le:vQ X (.type "list") (λxs H Q=>∃p i,xs=[.ref p]/\(f5 X.K H p i\/gk X.K H p i)/\∀l,H l=O->Q (.ref l) (e7 H l (.cf i))):=by
 intro pins s σ H xs us Q I r h;obtain⟨p,i,rfl,m,q⟩:=h;obtain⟨u,rfl,A⟩:=m? r;cases A;have fin:∀(c:List aa),eg i c->i.length<=aC->∀(h':Heap) (d:Nat),(∀b z,s.heap.get? b=U z->h'.get? b=U z)->
   h'.get? s.heap.objs.size=U { cls:=.type "list", dict:=O,data:=.seq c.toArray d,slots:=#[] }->EP X pins σ Q (.ref s.heap.objs.size) { s with heap:=h' }:=λc f t h' d kp e=>
  ⟨.ref s.heap.objs.size,_,I.laid (t':=s.toks) kp (aL _) (show e8 X.prog X.w _ h' _ (.cf i) from⟨t,c,d,f,e⟩),Z,q _ (I.fb.fresh (aL _))⟩
 rcases m with m|m
 .obtain⟨c,f,pl,t⟩:=I.list m;have j:=f.length;obtain⟨o,y,x,n,hd⟩:=pl.isList;exact qq p (.inl Z) y x hd (λh' d kp e=>fin c f t h' d kp e) (by simp only[bc]<;>omega)
 .obtain⟨c,f,pl,t⟩:=I.tuple m;have j:=f.length;obtain⟨o,y,x,n,hd⟩:=pl;exact qq p (.inr Z) y x hd (λh' d kp e=>fin c f t h' d kp e) (by simp only[bc]<;>omega)
def JD:vQ X (.type "tuple") (λxs H Q=>∃p d,xs=[.ref p]/\((f5 X.K H p d/\∀l,H l=O->Q (.ref l) (e7 H l (.ef d)))\/(gk X.K H p d/\Q (.ref p) H))):=by
 intro pins s σ H xs us Q I r h;obtain⟨p,d,rfl,h⟩:=h;obtain⟨u,rfl,y⟩:=m? r;cases y;rcases h with ⟨f,q⟩|⟨f,q⟩
 .obtain⟨c,i,pl,t⟩:=I.list f;have m:=i.length;refine call_tuple_list pl.isList (λh' kp=>?_) (by simp only[bc]<;>omega);have j:dr X pins σ H { s with heap:=h' }:=I.f? (t':=s.toks) kp;have x:dr X pins σ (e7 H h'.objs.size (.ef d)) { s with heap:=h'.push { cls:=.type "tuple", data:=.seq c.toArray } }:=
   j.laid (t':=s.toks) (λb o e=>aK _ e) (aL _) (show e8 X.prog X.w _ _ _ (.ef d) from⟨t,c,i,mX _ _,λo e=>by rw[bp _ Z]at e;cases e;rfl⟩)
  exact⟨.ref h'.objs.size,_,x,Z,q _ (j.fb.fresh (aL _))⟩
 .obtain⟨c,i,pl,t⟩:=I.tuple f;exact call_tuple_same pl ⟨.ref p,H,I,Z,q⟩
def tyV(K:aw)(T:String)(x:V)(H:Hp):Prop:=match x with
 |.str _=>T="str"
 |.int _=>T="int"
 |.ref p=>(T="list" /\ ∃c,f5 K H p c)\/(T="tuple" /\ ∃o,K.lookup p=U o/\o.cls=.type "tuple" /\ o.dict=O)\/
   (T="dict" /\ ((∃kvs,H p=U (.dK kvs))\/∃kvs,H p=U (.dT kvs)))\/(T="set" /\ ∃S n,H p=U (.set S n))
 |_=>False
def YI(I:dr X l y H s)(r:eo x v)(ty:tyV X.K T x H):
  s.TypeIs v T/\∀a,v=.ref a->∃j,s.heap.get? a=U j/\j.dict=O:=by
 cases x with
 |str z=>obtain⟨t,rfl⟩:=r;cases (show T="str" from ty);exact⟨typeIs_str s z t,λk e=>nomatch e⟩
 |int i=>obtain⟨t,rfl⟩:=r;cases (show T="int" from ty);exact⟨mQ s i t,λk e=>nomatch e⟩
 |ref p=>
  cases r;rcases ty with ⟨rfl,w,q⟩|⟨rfl,o,d,m,hd⟩|⟨rfl,d⟩|⟨rfl,S,n,d⟩
  .obtain⟨u,_,pl,_⟩:=I.list q;refine⟨pl.isList.typeIs,λa e=>?_⟩;cases e;obtain⟨o,n,e,c,hd,_⟩:=pl;exact⟨o,e,hd⟩
  .refine⟨⟨o,I.ny p o d,m⟩,λa e=>?_⟩;cases e;exact⟨o,I.ny _ o d,hd⟩
  .have z:∃o,s.heap.get? p=U o/\o.ExactDict:=by
    rcases d with ⟨kvs,d⟩|⟨kvs,d⟩
    .obtain⟨_,_,_,_,o,_,_,e,f,_⟩:=I.fb p _ d;exact⟨o,e,f⟩
    .obtain⟨_,_,_,_,o,_,_,e,f,_⟩:=I.fb p _ d;exact⟨o,e,f⟩
   obtain⟨o,e,f⟩:=z;refine⟨⟨o,e,f.1⟩,λa h=>?_⟩;cases h;exact⟨o,e,f.2.1⟩
  .obtain⟨o,_,_,_,e,f,_⟩:=I.fb p _ d;refine⟨⟨o,e,f.1⟩,λa h=>?_⟩;cases h;exact⟨o,e,f.2.1⟩
 |_=>exact cM ty
def tBM(K:aw)(T:String)(r:V->bz->Hp->VK->Prop)(to:TE)(t:TA):TE:=λd H Q=>to d H λx c=>tyV K T x c/\t d c λf e=>r x f e Q
variable{o e:Expr}{es:List Expr}{to:TE}{t:TA}{name:Str}{apos cpos:Pos}{T id:String}{r:V->bz->Hp->VK->Prop}
def acw(A:mR T)(slot:Slot T name id)(hty:typeOf (.builtin id)=pure (.type "method_descriptor"))(w:MtR X id r)(y:PE X o to)(u:PA X (e::es) t)
  (hbase:fF o name X.cb (eval o X.cb)=eval o X.cb:=by rfl)
  (hfew:((bE cpos (ay (e::es) X.cb)).all (λx=>!x.1)&&(backToKw cpos (d6 [] X.cb)).all (λx=>x.1.isSome)
   && decide ((e::es).length+([]:List fJ).length+(if ([]:List fJ).isEmpty then 0 else 1)<30))=γ:=by rfl)
  (hline:(apos.endLine==cpos.line)=γ:=by rfl) (z:ay (e::es) X.cb=(δ,eval e X.cb)::ay es X.cb:=by rfl) (hplain:(bE cpos (ay es X.cb)).any (·.1)=δ:=by rfl):
  PE X (.Call (.Attribute o name apos) (e::es) [] cpos) (tBM X.K T r to t):=by
 intro c s d H Q I h;refine wpAny_Call_method_late hbase hfew hline Z (fu (y c s d H _ I h) λv F zz=>?_);obtain⟨x,j,f,i,ty,B⟩:=zz;obtain⟨p,q⟩:=YI f i ty;refine⟨T,id,A,slot,hty,p,q,?_⟩;have hA:=u cpos c F d j _ f B;rw[z]at hA ⊢;refine ic (by show (δ||(bE cpos (ay es X.cb)).any (·.1))=δ;rw[hplain]<;>rfl) (gA ?_)
 exact fu hA λJ G ⟨M,l,m,E,C⟩=>w c G d l x M v J Q m i E C
end
def MtM(X:Cx)(id:String)(r:V->bz->Hp->VK->Prop):Prop:=
 ∀(a:cA) (s:af) (d:St) (H:Hp) (x:V) (c:bz) (v:aa) (b:List aa) (Q:VK),dr X a d H s->eo x v->eg c b->r x c H Q->
  ao (model X.prog X.w) X.A (call (.builtin id) (v::b)) (EP X a d Q) X.xe s
def eg.one:∀{x:V} {a:List aa},eg [x] a->∃u,a=[u]/\eo x u
 |_,_,.cons r .nil=>⟨_,Z,r⟩
theorem eg.rep(h:eg b a):∀k:Nat,eg (b9 k b).flatten (b9 k a).flatten
 |0=>.nil
 |k+1=>by rw[fO,fO,gB,gB];exact eg.append h (eg.rep h k)
theorem L?(a:List aa):∀(k:Nat) (acc:List aa),
  mS (λc d=>c++d) acc.toArray (b9 k a.toArray)=(acc++(b9 k a).flatten).toArray
 |0,acc=>by simp
 |k+1,acc=>by
  have e:acc.toArray++a.toArray=(acc++a).toArray:=by simp
  have b:(acc++a)++(b9 k a).flatten=acc++(b9 (k+1) a).flatten:=by rw[fO,gB,cp]
  rw[<-b,<- L? a k (acc++a),<- e,fO,iF]
section
variable{X:Cx}{pins:cA}{σ:St}{H:Hp}{s:af}{l b:Addr}{xs ys zs:bz}
def dr.lset{a its':List aa}(I:dr X pins σ H s)(hH:H l=U (.cf xs))
  (e:s.heap.get? l=U { cls:=.type "list", data:=.seq a.toArray n }) (hf:f a.toArray=its'.toArray) (d:eg ys its') (h:ys.length<=aC):
  dr X pins σ (e7 H l (.cf ys)) { s with heap:=s.heap.update l (dc f),toks:=j }:=by
 have q:=PySem.IsL.update e f;rw[hf]at q;refine I.v? (x:=l) (e:=l) (by rw[hH];exact trivial) (.inl Z) (λi u hb c=>(gy s.heap (dc f) (cE hb)).t c) ⟨_,q⟩ ?_;exact⟨h,its',_,d,q⟩
def dr.lnew(I:dr X pins σ H s)(c:eg ys a)(d:ys.length<=aC):
  dr X pins σ (e7 H s.heap.objs.size (.cf ys)) { s with heap:=s.heap.push { cls:=.type "list", data:=.seq a.toArray },toks:=t' }:=
 I.laid (λv v q=>aK _ q) (aL _) ⟨d,a,0,c,bp _ Z⟩
theorem dr.fresh(I:dr X pins σ H s):H s.heap.objs.size=O:=I.fb.fresh (aL _)
def dr.π(I:dr X pins σ H s)(hH:H l=U (.cf xs)):xs.length<=aC/\∃(a:List aa) (n:Nat),eg xs a/\xs.length=a.length/\s.heap.get? l=U { cls:=.type "list", data:=.seq a.toArray n }:=by obtain⟨z,a,n,r,e⟩:=I.fb l _ hH;exact⟨z,a,n,r,r.length,e⟩
def HV(h:n<=aC):gv n=δ:=by unfold gv;exact bj (by omega)
end
section
variable{X:Cx}
def Lf:V->bz->Hp->VK->Prop:=λx b H Q=>∃l a y,x=.ref l/\b=[y]/\H l=U (.cf a)/\a.length<aC/\Q .X (e7 H l (.cf (a++[y])))
theorem FC:MtM X "list.append" Lf:=by intro c s w H x p v o Q I i f h;obtain⟨l,t,y,rfl,rfl,hH,m,q⟩:=h;cases i;obtain⟨u,rfl,d⟩:=f.one;obtain⟨z,a,n,r,j,e⟩:=I.π hH;refine iV lh ⟨_,e,Z⟩ F.entry_list_append (F.args_list_append_2 _ _) (PySem.list_append l a.toArray n u (by rw[bc];omega)) ⟨e,?_⟩;refine⟨.X,_,I.lset (its':=a++[u]) hH e (by simp) (r.append (.cons d .nil)) ?_,Z,q⟩;rw[aF,dh];omega
def OY:V->bz->Hp->VK->Prop:=λx d H Q=>∃l b a c,x=.ref l/\d=[.ref b]/\H l=U (.cf a)/\H b=U (.cf c)/\a.length+c.length<=aC/\Q .X (e7 H l (.cf (a++c)))
def Qu:MtM X "list.extend" OY:=by
 intro i s M H x E v C Q I y w h;obtain⟨l,b,F,J,rfl,rfl,hH,hB,B,q⟩:=h;cases y;obtain⟨u,rfl,t⟩:=w.one;cases t;obtain⟨z,c,n,r,A,e⟩:=I.π hH;obtain⟨G,a,o,p,m,j⟩:=I.π hB;have d:c.toArray.size+a.toArray.size<=aC:=by rw[bc,bc];omega
 have hlong:¬(!c.toArray.isEmpty&&gv (c.toArray.size+a.toArray.size))=γ:=by rw[HV d,p9];exact bw
 refine iV jy ⟨_,e,Z⟩ oA (n8 _ _)
  (AutoSeq1.list_extend_list_list_0 l c.toArray n b a.toArray o hlong (by rw[bc];omega) (by omega)) ⟨e,j,?_⟩
 refine⟨.X,_,I.lset (its':=c++a) hH e (by simp) (r.append p) ?_,Z,q⟩;rw[aF];omega
def rCat:R2:=λx y H Q=>∃l b a c,x=.ref l/\y=.ref b/\H l=U (.cf a)/\H b=U (.cf c)/\a.length+c.length<=aC/\∀p,H p=O->Q (.ref p) (e7 H p (.cf (a++c)))
def RV:j3 X (cR .Add) rCat:=by
 intro d s G H x y v u Q I o p h;obtain⟨l,b,C,F,rfl,rfl,hH,hB,w,q⟩:=h;cases o;cases p;obtain⟨z,c,n,r,t,e⟩:=I.π hH;obtain⟨E,a,A,m,j,f⟩:=I.π hB;refine PySem.P.add_list e f ?_ (by rw[bc,bc];omega);have i:c.toArray++a.toArray=(c++a).toArray:=by simp
 rw[i];exact⟨.ref _,_,I.lnew (t':=s.toks) (r.append m) (by rw[aF];omega),Z,q _ I.fresh⟩
def rRep:R2:=λx y H Q=>∃l k a,x=.ref l/\y=.int k/\H l=U (.cf a)/\-(2 ^ 63)<=k/\k<2 ^ 63/\a.length * k.toNat<=aC/\
 ∀p,H p=O->Q (.ref p) (e7 H p (.cf (b9 k.toNat a).flatten))
def len_rep{c:Type}(a:List c)(k:Nat):(b9 k a).flatten.length=k * a.length:=by
 induction k with
 |zero=>simp
 |succ k b=>rw[fO,gB,aF,b,Nat.succ_mul,jP]
theorem YJ:j3 X (cR .Mult) rRep:=by
 intro j s N H x y v u Q I B C h;obtain⟨l,k,M,rfl,rfl,hH,p,w,i,q⟩:=h;cases B;obtain⟨t,rfl⟩:=C;obtain⟨z,b,n,r,A,e⟩:=I.π hH;have c:b.toArray.size * k.toNat<=aC:=by rw[bc,<- A];exact i
 have hcap:¬b.toArray.size * k.toNat > (2 ^ 63 - 1) / 8:=by
  have:(aC:Nat)<=(2 ^ 63 - 1) / 8:=by decide
  omega
 have hfit:¬(!Builtin.List.listFitsIndex k)=γ:=by rw[fitsIndex_both p w];exact bw
 have hlong:¬gv (b.toArray.size * k.toNat)=γ:=by rw[HV c];exact bw
 have hnew:mS (λd f=>d++f) #[] (b9 (if b.toArray.isEmpty=γ then 0 else k.toNat) b.toArray)=(b9 k.toNat b).flatten.toArray:=by
  have o:∀m:Nat,mS (λd f=>d++f) #[] (b9 m b.toArray)=(b9 m b).flatten.toArray:=λm=>by have:=L? b m [];rw[cI]at this;exact this
  rw[o];cases b with
  |nil=>simp
  |cons a G=>rw[aq (by simp)]
 refine wpAny_binaryOp_repeat_ref (T:="list") (U:="int") (by decide) ⟨_,e,Z⟩ (λE=>mQ E k t) noFill_list_mul F.fills_int_mul pK repeat_list F.slot_int_index.lookup
  (iV pK (mQ s k t) F.entry_int_rmul (F.args_int_rmul_2 _ _) (int___rmul___int_list k t l b.toArray n)
   ⟨e,Z,⟨_,e,Z⟩,iV F.slot_list_mul ⟨_,e,Z⟩ F.entry_list_mul (F.args_list_mul_2 _ _) (AutoListH.list___mul___list_int_3 l b.toArray n k t hfit hcap hlong) ⟨e,?_⟩⟩)
 rw[hnew];exact⟨.ref _,_,I.lnew (t':=s.toks) (r.rep k.toNat) (by rw[len_rep,Nat.mul_comm];exact i),Z,q _ I.fresh⟩
end
section
variable{prog:aB}{w:az}{A:aG}{E:aa->af->Prop}{s:af}
set_option maxRecDepth 100000 in
end
section
variable{κ:Type}[DecidableEq κ]
def yb(kvs:List (κ×V))(k:κ):Option V:=(kvs.find? λkv=>decide (kv.1=k)).map (·.2)
def mu(kvs:List (κ×V))(k:κ)(v:V):List (κ×V):=
 if (kvs.any λkv=>decide (kv.1=k))=γ then kvs.map (λkv=>if kv.1=k then (kv.1,v)else kv)else kvs++[(k,v)]
def Ep{p:κ×V}(e:p.1=k):yb (p::r) k=U p.2:=by simp[yb,fB,e]
def Er{p:κ×V}(e:¬p.1=k):yb (p::r) k=yb r k:=by simp[yb,fB,e]
theorem HW(k:κ):∀kvs:List (κ×V),(kvs.any λkv=>decide (kv.1=k))=(yb kvs k).isSome
 |[]=>rfl
 |p::r=>by
  rw[fX];by_cases e:p.1=k
  .simp only[Ep e,br e,Bool.true_or,Option.isSome_some]
  .rw[Er e,bj e,Bool.false_or];exact HW k r
def Ci(kvs:List (κ×V))(k:κ)(v:V):(mu kvs k v).length<=kvs.length+1:=by
 unfold mu;split
 .rw[ah];omega
 .rw[aF,aS,gH];omega
def RW{kvs:List (κ×V)}{k:κ}(v:V)(h:yb kvs k=O):mu kvs k v=kvs++[(k,v)]:=by unfold mu;rw[HW,h];exact aq (by decide)
def Cb.isSome_eq(r:Cb o u):o.isSome=u.isSome:=by
 cases o with
 |none=>cases u with
  |none=>rfl
  |some _=>exact(show False from r).elim
 |some _=>cases u with
  |none=>exact(show False from r).elim
  |some _=>rfl
theorem Cb.getD(r:Cb o u)(b:eo d a):eo (o.getD d) (u.getD a):=by
 cases o with
 |none=>cases u with
  |none=>exact b
  |some _=>exact(show False from r).elim
 |some _=>cases u with
  |none=>exact(show False from r).elim
  |some _=>exact r
def KV.val(r:KV kvs j)(k:κ):Cb (yb kvs k) (valueAt j k):=by
 unfold KV at r
 induction r with
 |nil=>exact True.intro
 |@cons p q l c h t i=>
  obtain⟨d,f⟩:=h;by_cases e:p.1=k
  .have a:q.1=k:=d.symm.t e;have b:valueAt (q::c) k=U q.2:=by simp[valueAt,fB,a]
   rw[Ep e,b];exact f
  .have a:¬q.1=k:=λz=>e (d.t z);have b:valueAt (q::c) k=valueAt c k:=by simp[valueAt,fB,a]
   rw[Er e,b];exact i
theorem KV.any(r:KV kvs vs)(k:κ):(kvs.any λkv=>decide (kv.1=k))=vs.any λkv=>decide (kv.1=k):=by
 unfold KV at r
 induction r with
 |nil=>rfl
 |cons h t a=>rw[fX,fX,a,h.1]
def KV.repl(r:KV kvs f)(k:κ)(d:eo y u):
  KV (kvs.map λkv=>if kv.1=k then (kv.1,y)else kv) (f.map λkv=>if kv.1=k then (kv.1,u)else kv):=by
 unfold KV at r ⊢
 induction r with
 |nil=>exact .nil
 |@cons p q i j h t c=>
  rw[aU,aU];refine .cons ?_ c;obtain⟨a,b⟩:=h;by_cases e:p.1=k
  .rw[ak e,ak (a.symm.t e)];exact⟨a,d⟩
  .rw[aq e,aq (λz=>e (a.t z))];exact⟨a,b⟩
def KV.put(r:KV kvs b)(k:κ)(a:eo y u):KV (mu kvs k y) (stored b k u):=by
 unfold mu stored;rw[r.any k];by_cases e:(b.any λkv=>decide (kv.1=k))=γ
 .rw[ak e,ak e];exact r.repl k a
 .rw[aq e,aq e];exact qP r ⟨Z,a⟩
theorem KV.length(r:KV kvs a):kvs.length=a.length:=l6 r
end
def Gh(r:eo (kV k) u):(uK P w).is k u=γ:=by
 cases k with
 |inl i=>obtain⟨t,e⟩:=(show ∃t,u=Value.int i t from r);subst e;exact L8 P w i t
 |inr x=>obtain⟨t,e⟩:=(show ∃t,u=Value.str x t from r);subst e;exact L9 P w x t
theorem JY:∀{a:List ey} {b:List aa},eg (a.map kV) b->ItemsAre (uK P w) a b
 |[],_,r=>by rw[fH]at r;cases r;exact .nil
 |k::a,_,r=>by
  rw[aU]at r;cases r with
  |cons h t=>exact .cons (Gh h) (JY t)
abbrev KT(H:Hp):List (List ey×V)->List (List ey×Addr×aa)->Prop:=gY λp q=>p.1=q.1/\H q.2.1=U (.ef (p.1.map kV))/\eo p.2 q.2.2
def KT.val(r:KT H kvs j)(k:List ey):Cb (yb kvs k) ((atKey j k).map (·.2)):=by
 induction r with
 |nil=>exact True.intro
 |@cons p q l c h t i=>
  obtain⟨d,_,f⟩:=h;by_cases e:p.1=k
  .have a:q.1=k:=d.symm.t e;have b:atKey (q::c) k=U q.2:=by simp[atKey,fB,a]
   rw[Ep e,b];exact f
  .have a:¬q.1=k:=λz=>e (d.t z);have b:atKey (q::c) k=atKey c k:=by simp[atKey,fB,a]
   rw[Er e,b];exact i
def KT.repl(r:KT H kvs i)(k:List ey)(f:eo y u):
  KT H (kvs.map λkv=>if kv.1=k then (kv.1,y)else kv) (i.map (putAt k u)):=by
 induction r with
 |nil=>exact .nil
 |@cons p q j l h t d=>
  rw[aU,aU];refine .cons ?_ d;obtain⟨a,b,c⟩:=h;unfold putAt;by_cases e:p.1=k
  .rw[ak e,ak (a.symm.t e)];exact⟨a,b,f⟩
  .rw[aq e,aq (λz=>e (a.t z))];exact⟨a,b,c⟩
def KT.put(r:KT H kvs a)(k:List ey)(d:H b=U (.ef (k.map kV)))(c:eo y u):
  KT H (mu kvs k y) (storedH a k b u):=by
 have e:(kvs.any λkv=>decide (kv.1=k))=(atKey a k).isSome:=by rw[HW,(r.val k).isSome_eq,Option.isSome_map]
 unfold mu storedH;rw[e];by_cases q:(atKey a k).isSome=γ
 .rw[ak q,ak q];exact r.repl k c
 .rw[aq q,aq q];exact qP r ⟨Z,d,c⟩
def KT.keeps(r:KT H kvs e)(d:∀b a,H b=U (.ef a)->c b=U (.ef a)):KT c kvs e:=
 Paired.mapP r λv v z=>⟨z.1,d _ _ z.2.1,z.2.2⟩
section
variable{P:aB}{w:az}{H:Hp}{h:Heap}{a:Addr}
def Xy(ok:p5 P w H h)(e:Rd H a u):e8 P w H h a u:=e.ok ok
def Gi(ok:p5 P w H h)(e:Rd H a (.dK kvs)):kvs.length<=aC/\(a==du)=δ/\∃b,KV kvs b/\h.DictOf (uK P w) a b:=
 show e8 P w H h a (.dK kvs) from Xy ok e
def Xz(ok:p5 P w H h)(e:H a=U (.dK kvs)):kvs.length<=aC/\(a==du)=δ/\∃b,KV kvs b/\h.DictOf (uK P w) a b:=Gi ok (.inl e)
def HX{c:List ey}(ok:p5 P w H h)(e:H a=U (.ef (c.map kV))):(tupleKind (uK P w)).is h c a:=by obtain⟨_,b,r,⟨o,d,f,n,i⟩,_⟩:=(show e8 P w H h a (.ef (c.map kV)) from ok a _ e);exact⟨o,b.toArray,n,d,f,i,by simpa using JY r⟩
def JZ(ok:p5 P w H h)(e:Rd H a (.dT kvs)):kvs.length<=aC/\(a==du)=δ/\
  ∃c,KT H kvs c/\h.DictOfH (tupleKind (uK P w)) a c:=by
 obtain⟨z,y,c,r,o,i,f,j,u,A,B,C⟩:=(show e8 P w H h a (.dT kvs) from Xy ok e);refine⟨z,y,c,r,o,i,f,j,u,A,B,λx b=>?_,C⟩;have all:∀{l:List (List ey×V)} {m:List (List ey×Addr×aa)},KT H l m->∀x∈m,(tupleKind (uK P w)).is h x.1 x.2.1:=by
  intro l m q
  induction q with
  |nil=>intro x b;exact nomatch b
  |@cons p q F G d t E=>
   intro x b;rcases aJ.1 b with e|b
   .subst e;exact HX ok (by rw[<-d.1];exact d.2.1)
   .exact E x b
 exact all r x b
def dt_of(ok:p5 P w H h)(e:H a=U (.dT kvs)):kvs.length<=aC/\(a==du)=δ/\
  ∃b,KT H kvs b/\h.DictOfH (tupleKind (uK P w)) a b:=JZ ok (.inl e)
end
def rr(H:Hp)(a:Addr)(y:V)(r:Option V):Prop:=
 (∃kvs k,Rd H a (.dK kvs)/\y=kV k/\r=yb kvs k)\/∃kvs k b,Rd H a (.dT kvs)/\y=.ref b/\H b=U (.ef (k.map kV))/\r=yb kvs k
def RX(H:Hp)(a:Addr)(y v:V)(c:Hp):Prop:=
 (∃kvs k,H a=U (.dK kvs)/\y=kV k/\kvs.length<aC/\c=e7 H a (.dK (mu kvs k v)))\/
 ∃kvs k b,H a=U (.dT kvs)/\y=.ref b/\H b=U (.ef (k.map kV))/\kvs.length<aC/\c=e7 H a (.dT (mu kvs k v))
theorem RX.k{H:Hp}{a:Addr}{kvs:List (ey×V)}{k:ey}{v:V}(e:H a=U (.dK kvs))(b:kvs.length<aC):RX H a (kV k) v (e7 H a (.dK (mu kvs k v))):=.inl ⟨kvs,k,e,Z,b,Z⟩
section
variable{X:Cx}{pins:cA}{σ:St}{H:Hp}{s:af}{a:Addr}{y v:V}{u r:aa}{o:Option V}{A:aG}{E:aa->af->Prop}
def dr.big(I:dr X pins σ H s):du<s.heap.objs.size:=by have h:aQ<s.heap.objs.size:=(I.y'.yr.keeps I.bk).lt;exact Nat.lt_trans (by decide) h
def Qv(C:A.units+1<cLine)(I:dr X pins σ H s)(g:rr H a y (U v))(q:eo y u)(h:∀d t,dr X pins σ H t->eo v d->Q d t):
  ao (model X.prog X.w) A (getItem (.ref a) u) Q E s:=by
 rcases g with ⟨kvs,k,e,i,l⟩|⟨kvs,k,b,e,i,x,l⟩
 .subst i;obtain⟨z,hd,F,rel,f⟩:=Gi I.fb e;obtain⟨d,m,c⟩:=Cb.N? (v:=v) (o:=valueAt F k) (by rw[l];exact rel.val k);exact wpAny_getItem_of (Gh q) f.mapOf m (h d _ (I.vl _) c)
 .subst i;cases (show u=Value.ref b from q);obtain⟨z,hd,G,rel,f⟩:=JZ I.fb e;obtain⟨d,m,c⟩:=Cb.N? (v:=v) (o:=(atKey G k).map (·.2)) (by rw[l];exact rel.val k)
  obtain⟨p,B,j⟩:=ie.1 m;refine wpAny_getItem_heap (jz C) (HX I.fb x) f B ?_;rw[j];exact h d _ (I.vl _) c
def Lg(I:dr X pins σ H s)(d:Mut (H a))(hs:dO a s.heap h')(c:∃q,h'.get? a=U q)(new:e8 X.prog X.w (e7 H a ob) h' a ob):
  dr X pins σ (e7 H a ob) { s with heap:=h',toks:=f }:=
 I.v? (x:=a) (e:=a) d (.inl Z) (λb q hb z=>(hs.2 b hb).t z) c new
def RY{b:Heap}{kvs:List (ey×V)}(z:kvs.length<=aC)(hd:(a==du)=δ)(rel:KV kvs c)(d:b.DictOf (uK P w) a c):
  e8 P w e b a (.dK kvs):=⟨z,hd,c,rel,d⟩
def Qw(hu:A.units+1<cLine)(I:dr X pins σ H s)(g:RX H a y v N)(J:eo y u)(G:eo v r)(h:∀M,dr X pins σ N M->Q () M):
  ao (model X.prog X.w) A (setItem (.ref a) u r) Q E s:=by
 rcases g with ⟨kvs,k,e,j,l,eH⟩|⟨kvs,k,b,e,j,B,l,eH⟩
 .subst j eH;obtain⟨z,hd,vs,rel,i⟩:=Xz I.fb e;have x:vs.length<=aC:=by rw[<-rel.length];exact z
  have m:(mu kvs k v).length<=aC:=by have:=Ci kvs k v;omega
  refine wpAny_setItem_pairs (hsz:=x) (Gh J) i λF d p=>h _ ?_;have he:∃q,F.get? a=U q:=let ⟨q,_,_,f,_⟩:=d;⟨q,f⟩;exact Lg I (by rw[e];exact True.intro) p he (RY m hd (rel.put k G) d)
 .subst j eH;cases (show u=Value.ref b from J);obtain⟨z,hd,xs,rel,i⟩:=dt_of I.fb e;have x:xs.length<=aC:=by rw[<-l6 rel];exact z
  have m:(mu kvs k v).length<=aC:=by have:=Ci kvs k v;omega
  refine wpAny_setItem_heap (hsz:=x) (jz hu) (HX I.fb B) i λF d p=>h _ ?_;obtain⟨q,R,P,f,S,T,W,_,Y⟩:=d;refine Lg I (by rw[e];exact True.intro) p ⟨q,f⟩ ⟨m,hd,_,(rel.put k B G).keeps λc ys C=>?_,q,R,P,f,S,T,W,Y⟩;rw[uC (ab0 C e (λz=>nomatch z))];exact C
end
section
variable{X:Cx}{pins:cA}{σ:St}{H:Hp}{s:af}{a:Addr}{kvs:List (ey×V)}{k:ey}{u:aa}{A:aG}{E:aa->af->Prop}
def acx(I:dr X pins σ H s)(e:Rd H a (.dK kvs))(h:∀t b,dr X pins σ H b->Q (.int kvs.length t) b):ao (model X.prog X.w) A (call (.builtin "len") [.ref a]) Q E s:=by obtain⟨z,hd,d,rel,c⟩:=Gi I.fb e;refine call_len_dict hd c (by rw[<-rel.length];rw[bV]at z;omega) ?_;rw[<-rel.length];exact h _ _ (I.vl _)
end
def YK(i:Expr):Prop:=∀b a,subscripted i δ b a=operate [b,a] (getItem b a)
def VC{prog:aB}{w:az}{A:aG}{E:aa->af->Prop}{s:af}{cb:Env}{value slice:Expr}{pos:Pos}{T id:String}{Q:aa->af->Prop}
  (j:typeLookup (.type T) "__getitem__" = pure (U (.builtin id))) (l:YK slice)
  (h:ao (model prog w) A (eval value cb) (λo c=>ao (model prog w) A (eval slice cb) (λi a=>a.TypeIs o T/\ao (model prog w) A (getItem o i) Q E a) E c) E s):
  ao (model prog w) A (eval (.Subscript value slice pos) cb) Q E s:=by
 refine mO (bQ h (λo c e=>bQ e (λi a b=>?_) λv v x=>x) λv v x=>x);obtain⟨hT,b⟩:=b;unfold subscriptTail;refine ag ?_;rw[getitemInPython_of_ne hT.not_modules];refine ag (gL hT j ?_);have fin:ao (model prog w) A (subscripted slice δ o i) (λr d=>ao (model prog w) A (letTemporaryGo value o r>>=λv=>pure r) Q E d) E a:=by rw[l o i];exact wpAny_operating (bQ b (λr d f=>ag (wpAny_letTemporaryGo (au f))) λv v x=>x)
 first
  |exact au (ag fin)
  |exact ag (au (ag fin))
  |exact ag fin
def Mi(I:dr X d i H s)(g:rr H a y o):s.TypeIs (.ref a) "dict" := by
 rcases g with ⟨kvs,k,e,_,_⟩|⟨kvs,k,b,e,_,_,_⟩
 .obtain⟨_,_,f,_,c⟩:=Gi I.fb e;exact c.typeIs
 .obtain⟨_,_,h,_,c⟩:=JZ I.fb e;exact c.typeIs
def acy(e ty:TE):TE:=λc H Q=>e c H λx d=>ty c d λy b=>∃a v,x=.ref a/\rr b a y (U v)/\Q v b
def XA(h ty i:TE):TS:=λD b H=>i b H λv d=>h b d λx e=>ty b e λy f=>∃a c,x=.ref a/\RX f a y v c/\D.nx b c
section
variable{X:Cx}{o i e value:Expr}{pos pos' tpos:Pos}{td ty tv:TE}
theorem VE(z:X.A.units+1<cLine)(t:PE X o td)(r:PE X i ty)(w:YK i):PE X (.Subscript o i pos) (acy td ty):=by intro b s f H Q I h;refine VC F.slot_dict_getitem.lookup w (fu (t b s f H _ I h) λu J ⟨x,j,m,E,B⟩=>fu (r b J f j _ m B) λM N zz=>?_);obtain⟨y,l,d,G,a,v,q,g,C⟩:=zz;subst q;obtain rfl:u=Value.ref a:=E;exact⟨Mi d g,Qv z d g G λR P p c=>⟨v,l,p,c,C⟩⟩
def VF(C:X.A.units+1<cLine)(z:PE X o td)(w:PE X i ty)(E:PE X value tv)(B:cw value (U (.Subscript o i pos')) pos.line X.cb=pure δ):
  PS X (.Assign [.Subscript o i pos'] value pos) (XA td ty tv):=by
 intro b s c H D I h;refine wpAny_Assign_Subscript (fu (E b s c H _ I h) λr P ⟨v,d,l,J,F⟩=>fu (z b P c d _ l F) λu Q ⟨x,f,m,M,G⟩=>fu (w b Q c f _ m G) λS T zz=>?_) B;obtain⟨y,R,p,N,a,j,t,g,q3⟩:=zz;subst t;obtain rfl:u=Value.ref a:=M;exact Qw C p g N J λW q=>⟨c,j,q,q3⟩
end
def RZ(h:Heap)(a:du<h.objs.size):e8 P w H (h.push { cls:=.type "dict", data:=.dict #[] }) h.objs.size (.dK []):=
 ⟨cD _,beq_eq_false_iff_ne.2 (cE (aW a)),[],.nil,ud h⟩
def NR:TE:=λv H Q=>∀p,H p=O->Q (.ref p) (e7 H p (.dK []))
section
variable{X:Cx}{pos:Pos}
def Mj:PE X (.Dict [] [] pos) NR:=λb s d H Q I h=>
 wpAny_Dict_empty ⟨.ref s.heap.objs.size,_,I.laid (a:=s.heap.objs.size) (o:=.dK []) (t':=s.toks) (λv v q=>aK _ q) (aL _) (RZ s.heap I.big),Z,h _ (I.fb.fresh (aL _))⟩
end
structure M1(X:Cx)(o:Expr)(m:Str)(apos:Pos)(e:Expr)(cpos:Pos):Prop where
 b?:fF o m X.cb (eval o X.cb)=eval o X.cb
 few:((bE cpos (ay [e] X.cb)).all (λx=>!x.1)&&(backToKw cpos (d6 [] X.cb)).all (λx=>x.1.isSome)
  && decide (([e]:List Expr).length+([]:List fJ).length+(if ([]:List fJ).isEmpty then 0 else 1)<30))=γ
 line:(apos.endLine==cpos.line)=γ
 S?:bE cpos (ay [e] X.cb)=[(δ,eval e X.cb)]
structure M2(X:Cx)(o:Expr)(m:Str)(apos:Pos)(e f:Expr)(cpos:Pos):Prop where
 b?:fF o m X.cb (eval o X.cb)=eval o X.cb
 few:((bE cpos (ay [e,f] X.cb)).all (λx=>!x.1)&&(backToKw cpos (d6 [] X.cb)).all (λx=>x.1.isSome)
  && decide (([e,f]:List Expr).length+([]:List fJ).length+(if ([]:List fJ).isEmpty then 0 else 1)<30))=γ
 line:(apos.endLine==cpos.line)=γ
 S?:bE cpos (ay [e,f] X.cb)=[(δ,eval e X.cb),(δ,eval f X.cb)]
def IsD(H:Hp)(a:Addr):Prop:=(∃kvs,Rd H a (.dK kvs))\/∃kvs,Rd H a (.dT kvs)
def Lh(I:dr X j o H s)(d:IsD H a):
  s.TypeIs (.ref a) "dict" /\ (∀b,Value.ref a=.ref b->∃c,s.heap.get? b=U c/\c.dict=O)/\(a==du)=δ:=by
 rcases d with ⟨kvs,e⟩|⟨kvs,e⟩
 .obtain⟨_,hd,l,_,f⟩:=Gi I.fb e;refine⟨f.typeIs,λb q=>?_,hd⟩;cases q;obtain⟨c,_,_,h,i,_⟩:=f;exact⟨c,h,i.2.1⟩
 .obtain⟨_,hd,m,_,f⟩:=JZ I.fb e;refine⟨f.typeIs,λb q=>?_,hd⟩;cases q;obtain⟨c,_,_,h,i,_⟩:=f;exact⟨c,h,i.2.1⟩
section
variable{X:Cx}{pins:cA}{σ:St}{H:Hp}{s:af}{a:Addr}{y d:V}{u r:aa}{o:Option V}{A:aG}{E:aa->af->Prop}
def R0(q:A.units+1<cLine)(I:dr X pins σ H s)(g:rr H a y o)(i:eo y u)(h:∀m j,dr X pins σ H j->eo (o.getD .X) m->Q m j):
  ao (model X.prog X.w) A (call (.builtin "dict.get") [.ref a,u]) Q E s:=by
 rcases g with ⟨kvs,k,e,f,l⟩|⟨kvs,k,b,e,f,p,l⟩
 .subst f;obtain⟨z,hd,x,rel,c⟩:=Gi I.fb e;refine gU fC c.typeIs iB (lq _ _) (qa (uK X.prog X.w) a (Gh i) hd) ⟨_,c.mapOf,h _ _ (I.vl _) ?_⟩;rw[l];exact(rel.val k).getD Z
 .subst f;cases (show u=Value.ref b from i);obtain⟨z,hd,t,rel,c⟩:=JZ I.fb e;refine gU fC c.typeIs iB (lq _ _) (meetsH_dict_get (tupleKind (uK X.prog X.w)) a b hd) ⟨jz q,k,t,HX I.fb p,c,h _ _ (I.vl _) ?_⟩;rw[l];exact(rel.val k).getD Z
def YL(t:A.units+1<cLine)(I:dr X pins σ H s)(g:rr H a y o)(j:eo y u)(i:eo d r)(h:∀p m,dr X pins σ H m->eo (o.getD d) p->Q p m):
  ao (model X.prog X.w) A (call (.builtin "dict.get") [.ref a,u,r]) Q E s:=by
 rcases g with ⟨kvs,k,e,f,l⟩|⟨kvs,k,b,e,f,q,l⟩
 .subst f;obtain⟨z,hd,B,rel,c⟩:=Gi I.fb e;refine gU fC c.typeIs iB (o4 _ _ _) (meets_dict_get_default (uK X.prog X.w) a (Gh j) hd r) ⟨_,c.mapOf,h _ _ (I.vl _) ?_⟩;rw[l];exact(rel.val k).getD i
 .subst f;cases (show u=Value.ref b from j);obtain⟨z,hd,x,rel,c⟩:=JZ I.fb e;refine gU fC c.typeIs iB (o4 _ _ _) (meetsH_dict_get_default (tupleKind (uK X.prog X.w)) a b hd r) ⟨jz t,k,x,HX I.fb q,c,h _ _ (I.vl _) ?_⟩;rw[l];exact(rel.val k).getD i
end
def YM(e ty:TE):TE:=λd H Q=>e d H λx b=>∃a,x=.ref a/\IsD b a/\ty d b λy c=>∃o,rr c a y o/\Q (o.getD .X) c
def YN(f ty h:TE):TE:=λb H Q=>f b H λx c=>∃a,x=.ref a/\IsD c a/\ty b c λy e=>h b e λz d=>∃o,rr d a y o/\Q (o.getD z) d
section
variable{X:Cx}{o e f:Expr}{apos cpos:Pos}{td ty tx:TE}
def R7(B:X.A.units+1<cLine)(z:PE X o td)(w:PE X e ty)(m:M1 X o "get" apos e cpos):PE X (.Call (.Attribute o "get" apos) [e] [] cpos) (YM td ty):=by intro b s j H Q I h;refine jB m.b? m.few m.line jC fC lQ (fu (z b s j H _ I h) λu J zz=>?_);obtain⟨x,l,i,F,a,t,d,C⟩:=zz;subst t;obtain rfl:u=Value.ref a:=F;obtain⟨M,N,_⟩:=Lh i d;refine⟨M,N,?_⟩;rw[m.S?];refine ic Z (gA (eD (fu (w b J j l _ i C) λP S ⟨y,p,q,G,R,g,E⟩=>fQ ?_)));exact R0 B q g G λW T r c=>⟨_,p,r,c,E⟩
def R8(G:X.A.units+1<cLine)(F:PE X o td)(C:PE X e ty)(E:PE X f tx)(m:M2 X o "get" apos e f cpos):PE X (.Call (.Attribute o "get" apos) [e,f] [] cpos) (YN td ty tx):=by
 intro b s i H Q I h;refine jB m.b? m.few m.line jC fC lQ (fu (F b s i H _ I h) λu S zz=>?_);obtain⟨x,l,j,N,a,B,d,J⟩:=zz;subst B;obtain rfl:u=Value.ref a:=N;obtain⟨W,Y,_⟩:=Lh j d;refine⟨W,Y,?_⟩;rw[m.S?];refine ic Z (gA (eD (fu (C b S i l _ j J) λiv T ⟨y,p,r,P,M⟩=>
  eD (fu (E b T i p _ r M) λfv s3 ⟨z,q,t,R,ov,g,q3⟩=>fQ ?_))))
 exact YL G t g P R λw' s4 w c=>⟨_,q,w,c,q3⟩
end
end L2
namespace Att
open PySem PySem.W PySem.Calls PyProof.Rows
def Ho:∀(c:List Int) (d:List aa),WellAll P h d (c.map WData.int)->iX d c:=by
 intro c
 induction c with
 |nil=>intro d w;rw[fH]at w;cases w;exact .nil
 |cons n c e=>
  intro d w;rw[aU]at w;cases w with
  |cons a b=>cases a;exact .cons _ _ (e _ b)
def Qx{l:hE}(t:l.most=U n)
  (hpre:l.row.toRowW.claim.pre args=γ) (hwl:WellAll P h vals args):
  ∃a j b,vals=[Value.ref a]/\args=[WData.list (b.map WData.int)]/\h.get? a=U { cls:=.type "list", data:=.seq j.toArray }/\iX j b/\b.length<=n:=by
 have hsh:WShape.hasAll [] args [.list .int]=γ:=(pre_splitW hpre).1;have i:l.pre.holds [] { args:=args }=γ:=(pre_splitW hpre).2;obtain⟨d,r,rfl,m,o⟩:=hasAllW_cons hsh;obtain rfl:=hasAllW_nil o;obtain⟨z,rfl,p⟩:=hasW_list m;obtain⟨b,rfl⟩:=items_int p;have c:b.length<=n:=by
  unfold OpenLaw.pre at i;have e:(WTm.not (.lt (.lit (.int (n:Int))) (.len (.arg 0)))).holds [] { args:=[.list (b.map .int)] }=γ:=by have e:=(holds_andW i).1;rw[t]at e;exact e
  have f:=condW_of e (w_not (w_lt w_lit (w_len_list (w_arg Z))));rw[ah]at f;refine pC λq=>?_;have w:(n:Int)<((b.length:Nat):Int):=by omega
  first
   |(rw[br w]at f;exact ar f (by decide))
   |(simp at f;omega)
 cases hwl with
 |cons x y=>
  cases y;cases x with
  |list u hall=>exact⟨_,_,b,Z,Z,u,Ho b _ hall,c⟩
def Qy(l:hE)(args:List WData):l.row.toRowW.claim.post args (.bool γ) args=γ:=
 postW_of (r:=l.row.toRowW) (X:=(γ==γ))
  (show qU [] (.bool γ) .bool=γ by first|rfl|decide|simp[qU,WShape.arms,WShape.armsAll])
  (show (WTm.eq .res (.lit (.bool γ))).value [] { args:=args,res:=U (.bool γ),after:=args }=U (.bool (γ==γ)) from w_eq_bool (w_res Z) w_lit) Z
def W?{l:hE}{d:DefRec}
  (E:l.most=U n) (hdf:d.params.defaults=[])
  (call:∀(w:az) (c b:af) (m u:Str->Option aa) (h:Addr) (o:Obj) (x j doc:aa) (a:Addr) (e:List aa) (p:List Int),
   Ground q loose [] XP w c m u b.heap->YP w b.heap->
   b.heap.get? h=U o->o.data=.func (docDef d.name d.params d.body d.scope x j doc)->b.heap.CodeRec j d.name->m d.name=U (.ref h)->
   b.heap.get? a=U { cls:=.type "list", data:=.seq e.toArray }->iX e p->p.length<=n->b.gens=#[]->
   cy (model l.prog w) callerA (.call (.ref h) ⟨[.ref a],[]⟩) (λr t=>r=.ok (.ret (.bool γ))/\OldK b.heap t.heap/\t.os=b.os/\d8 t.gens) b):
  WalkO q loose XP YP l.row.toRowW d [] (λf e=>mT f e):=by
 intro w c b m u G Y h o x j doc dV kV F hd hcd hD hmg B args vals as hpre hlay hrd hwl hlo;obtain rfl:dV=.none:=Dflts.none hD hdf;obtain rfl:kV=.none:=Dflts.noKw hD;obtain⟨a,e,p,rfl,rfl,hobj,hints,i⟩:=Qx E hpre hwl;refine enter_call (fG (call w c b m u h o x j doc a e p G Y F (fd_plain hd) hcd hmg hobj hints i B) λr t H=>?_);obtain⟨rfl,y,z,A⟩:=H;exact⟨.inl ⟨.bool γ,.bool γ,[],Z,λv=>Z,.bool γ,Qy l _,λv=>⟨List.Pairwise.nil,λv C=>(nomatch C)⟩⟩,y,z,A⟩
end Att
namespace L2
open PySem PySem.Spec PyProof.Rows
theorem J0:∀{b:List aa} {a:List Int},iX b a->eg (a.map V.int) b
 |_,_,.nil=>.nil
 |_,_,.cons n t h=>.cons ⟨t,Z⟩ (J0 h)
def YO(H:Hp):Prop:=∀b,H b=O\/∃o a,H b=U (.oz o (.cf a))
def R9{K:aw}{c:af}{j:List aa}
  (KX:K.In c.heap) (hns:c.heap.Ns aQ A) (f:c.heap.Ns builtinsNs N) (hbb:∀x:Str,x≠"__name__" -> N x=dN x) (hlim:c.heap.NoLimit) (hg:c.gens=#[])
  (y:c.heap.get? a=U { cls:=.type "list", data:=.seq j.toArray }) (J:iX j B) (M:B.length<=aC) (hr:wt k callerA)
  (F:∀b?:Heap,K.In b?->b?.Ns aQ A->xC P w K A b? CX k I W [x] sp) (hbind:∀(s:af) (u:aa),hJ s W ⟨[u],[]⟩ [(x,u)])
  (hsp:∀H:Hp,YO H->f5 K H a (B.map V.int)->sp [.ref a] H (λv g=>v=.Y γ) λg g g=>False)
  (hCX:∀H e i,CX [] H c (λg g g=>False) e i->False):
  cy (model P w) callerA (.call (.ref I) ⟨[.ref a],[]⟩) (λr i=>r=.ok (.ret (.bool γ))/\OldK c.heap i.heap/\i.os=c.os/\d8 i.gens) c:=by
 have Q:=J0 J;have lenV:=J.length;have core:∀H:Hp,YO H->f5 K H a (B.map V.int)->p5 P w H c.heap->(∀b,H b≠O->b=a)->(H a≠O->K.lookup a=O)->
   cy (model P w) callerA (.call (.ref I) ⟨[.ref a],[]⟩) (λr i=>r=.ok (.ret (.bool γ))/\OldK c.heap i.heap/\i.os=c.os/\d8 i.gens) c:=by
  intro H hO hS fb hA hK;have base_of:∀{b:Addr} {o:Obj},c.heap.get? b=U o->H b=O->(K1 c.heap H).get? b=U o:=λe n=>Rx e n;have noA:∀{b:Addr} {o:Obj} {p:Array DictEntry} {l:Nat},c.heap.get? b=U o->o.data=.dict p l->H b=O:=λ{b o p l} e d=>by
   cases q:H b with
   |none=>rfl
   |some u=>have C:b=a:=hA b (by rw[q];simp);subst C;rw[y]at e;cases e;have R:Data.seq j.toArray _=Data.dict p l:=d;cases R
  have nsK:∀{b:Addr} {m:Str->Option aa},c.heap.Ns b m->(K1 c.heap H).Ns b m:=λ{b m} ⟨o,p,l,e,d,r⟩=>⟨o,p,l,base_of e (noA e d),d,r⟩;have hKb:K.In (K1 c.heap H):=λb o e=>base_of (KX b o e) (by
   cases q:H b with
   |none=>rfl
   |some u=>
    have C:b=a:=hA b (by rw[q];simp);subst C;rw[hK (by rw[q];simp)]at e;cases e)
  have hM:Mod K A (K1 c.heap H):=⟨hKb,nsK hns,⟨N,nsK f,hbb⟩,let ⟨mc,Y,h2⟩:=hlim;⟨mc,nsK Y,h2⟩⟩;have S:NN P w K A (K1 c.heap H) callerA [] c H:=⟨Z,hM,λb o e=>Vi e,qy (Qf _ _),trivial,λb f=>ar (show b∈([]:List Addr) from f) (by simp),fb,.of_eq hg⟩;refine fG ((F _ hKb (nsK hns)).run callerA [] c H ⟨[.ref a],[]⟩ [.ref a] [.ref a] _ _ hr S (hbind c (.ref a)) (.cons Z .nil) (hsp H hO hS)) λr i h=>?_;cases r with
  |error e=>exact(hCX H e i h).elim
  |ok X=>
   cases X with
   |next=>exact cM h
   |brk=>exact cM h
   |cont=>exact cM h
   |ret u=>
    obtain⟨v,H',os,gi,un,hok',r',q⟩:=h;have q':v=.Y γ:=q;subst q';obtain rfl:u=Value.bool γ:=r';refine⟨Z,OldK.of_keep λb o e=>?_,os,gi⟩;cases q:H b with
    |none=>exact un.keep b o e q (by intro z;exact ar (show b∈([]:List Addr) from z) (by simp)) (by simp)
    |some u=>
     rcases hO b with z|⟨ob,xs,z⟩
     .rw[q]at z;cases z
     .have z2:=un.tz b ob _ z;obtain⟨G,_⟩:=fb b _ z;obtain⟨T,_⟩:=hok' b _ z2;rw[e]at G;cases G;exact T
 cases E:K.lookup a with
 |some o=>have e:=KX a o E;rw[y]at e;cases e;refine core (λg=>O) (λg=>.inl Z) (.inr ⟨_,j.toArray,_,E,Z,Z,Z,by rw[bc,lenV];exact M,by simpa using Q⟩) (λb u z=>by have t:(O:Option HO)=U u:=z;cases t) (λb z=>ar Z z) λz=>ar Z z
 |none=>
  refine core (λb=>if b=a then U (.oz { cls:=.type "list", data:=.seq j.toArray } (.cf (B.map V.int)))else O) (λb=>?_) (.inl (.inr ⟨{ cls:=.type "list", data:=.seq j.toArray },ak Z⟩)) (λb u z=>?_) (λb z=>?_) λg=>E
  .by_cases f:b=a
   .exact .inr ⟨_,_,ak f⟩
   .exact .inl (aq f)
  .by_cases f:b=a
   .have t:=(ak f).symm.t z;cases t;subst f;exact⟨y,by rw[ah];exact M,j,_,Q,y⟩
   .have t:=(aq f).symm.t z;cases t
  .by_cases f:b=a
   .exact f
   .exact ar (aq f) z
def VG{l:hE}{n k:Nat}{q:aB}{loose:aE}{XP:(Str->Option aa)->Heap->Prop}{YP:az->Heap->Prop}{d:DefRec}{K:Params->aw}{CX:az->CXT}{sp:az->Sp}{x:Str}
  (E:l.most=U n) (t:n<=aC) (hdf:d.params.defaults=[]) (I:wt k callerA)
  (hY:∀(w:az) (h:Heap),YP w h->(K w.params).In h)
  (F:∀(w:az) (i:Str->Option aa) (m:Addr) (h:Heap),(K w.params).In h->h.Ns aQ i->i d.name=U (.ref m)->
   ∃r:bS,(∀(s:af) (u:aa),hJ s r ⟨[u],[]⟩ [(x,u)])/\
    ∀b?:Heap,(K w.params).In b?->b?.Ns aQ i->xC l.prog w (K w.params) i b? (CX w) k m r [x] (sp w))
  (hsp:∀(w:az) (H:Hp) (a:Addr) (p:List Int),p.length<=n->YO H->f5 (K w.params) H a (p.map V.int)->sp w [.ref a] H (λv _=>v=.Y γ) λ_ _ _=>False)
  (hCX:∀(w:az) (H:Hp) (s:af) (e:aa) (y:af),CX w [] H s (λ_ _ _=>False) e y->False):
  W.WalkO q loose XP YP l.row.toRowW d [] (λf A=>mT f A):=by
 refine Att.W? E hdf λw z j i N m o P J doc a A p G Y M hd hcd hmg hobj hints c C=>?_;have KX:=hY w _ Y;obtain⟨r,B,hF⟩:=F w i m _ KX G.T.g hmg;exact R9 KX G.T.g G.T.b G.T.builtins G.T.nolimit C hobj hints (bF c t) I hF B (λH hO hS=>hsp w H a p c hO hS) λH e y=>hCX w H j e y
def d?(s:Stmt)(j:Nat):Stmt:=match s with
 |.ClassDef _ _ _ body _ _ _ _ _ _ _=>body.getD j (.Pass ⟨0,0,0,0⟩)
 |_=>.Pass ⟨0,0,0,0⟩
def yc(s:Stmt):Arguments:=match s with
 |.FunctionDef _ a _ _ _ _ _ _ _ _=>a
 |_=>{ posonlyargs:=[],args:=[],vararg:=O,kwonlyargs:=[],kw_defaults:=[],kwarg:=O,defaults:=[] }
def uX(s:Stmt):List Stmt:=match s with
 |.FunctionDef _ _ b _ _ _ _ _ _ _=>b
 |_=>[]
def uE(s:Stmt):cJ:=match s with
 |.FunctionDef _ _ _ _ _ _ a _ _ _=>a
 |_=>{ kind:=.function,names:=[],isGenerator:=δ,isCoroutine:=δ }
abbrev F?:CXT:=λv v v v v v=>False
abbrev E0:XK:=λv v v=>False
def HY:l? F? X E0:=λv v v v v v v h=>h.elim
structure Fun(K:aw)(x qual:Str)(st:Stmt)(f:Addr)(fd:bS):Prop where
 ex:∃(oc:aa) (od:Option Addr) (kV doc pm:aa) (an:Option Addr) (cdv ct:aa) (osl:Array (Option aa)),
  fd=eO x qual (yc st) (uX st) (uE st) .none kV doc pm an cdv ct/\K.lookup f=U ⟨oc,od,.func fd,osl⟩/\gZ K cdv qual=γ
 kp:de K (.ref f)=γ
section
variable{P:aB}{w:az}{K:aw}{mg:Str->Option aa}{b?:Heap}
theorem Fun.ok{x qual:Str}{st:Stmt}{f:Addr}{c:bS}{N ps:aE}{k:Nat}{b:Sp}(F:Fun K x qual st f c)(S:wD N ps (uE st))(len:∀a H Q E,b a H Q E->a.length=ps.length)
  (hbody:∀(cdv:aa) (A:aG) (dg:List Env) (s:af) (H:Hp) (a:bz) (Q:VK) (E:XK),wt k (A.deeper (envOfC qual (uE st) s.heap.objs.size f cdv))->b a H Q E->
   ∃t,lr (K8 F? P w K mg b? N qual (uE st) f cdv A dg s H E).nox (uX st) t/\t { nx:=λv d=>Q .X d,rt:=Q } (start N a) H):xC P w K mg b? F? (k+1) f c ps b:=by
 obtain⟨l,m,kV,doc,o,i,cdv,j,osl,rfl,lk,hcd⟩:=F.ex;refine OQ lk hcd S len λA dg s H a Q E e hsp=>?_;obtain⟨t,h,q⟩:=hbody cdv A dg s H a Q E e hsp;exact⟨t,h.nox,q⟩
theorem Fun.ro{x qual:Str}{st:Stmt}{f:Addr}{i:bS}{d:aE}(F:Fun K x qual st f i)
  (h:∀(kV doc c:aa) (a:Option Addr) (cdv b:aa) (e:List aa),e.length=d.length->bindArgs (eO x qual (yc st) (uX st) (uE st) .none kV doc c a cdv b) ⟨e,[]⟩=pure (d.zip e)):j4 K i d []:=by
 obtain⟨j,l,kV,doc,c,a,cdv,b,osl,rfl,lk,hcd⟩:=F.ex;exact .all (h kV doc c a cdv b)
end
def Ml(a:wt k A):A.units+1<cLine:=jA (Nat.add_le_add_left (by decide:1<=64) _) a.units
def Dc(h:n<=1000):n<aC:=jA h (by decide)
section
variable{X:Cx}
def pv(i:Nat)(hN:X.N[i]?=U x:=by rfl)(a:Vis X.cb.scope x:=by first|exact Or.inl Z|exact Or.inr (Or.inl Z)|exact Or.inr (Or.inr Z))(hd:(x==("__debug__" : Str))=δ:=by decide)
  (hcd:(x==("__classdict__" : Str))=δ:=by decide):PE X (.Name x pos) (z7 i):=Ya hN a hd hcd
end
def HZ{A B:Prop}(h:B):if δ=γ then A else B:=by rw[aq bw];exact h
def Ia{A B:Prop}(h:A):if γ=γ then A else B:=by rw[ak Z];exact h
def uw(H a:Hp):Prop:=∀b o,H b=U o->a b=U o
def uw.refl(H:Hp):uw H H:=λv v h=>h
def uw.t(a:uw H d)(b:uw d e):uw H e:=λc o h=>b c o (a c o h)
def uw.seq{K:aw}{H b:Hp}{a:Addr}{xs:bz}(e:uw H b)(h:f5 K H a xs):f5 K b a xs:=by
 rcases h with (h|⟨o,h⟩)|h
 .exact .inl (.inl (e _ _ h))
 .exact .inl (.inr ⟨o,e _ _ h⟩)
 .exact .inr h
end L2
set_option maxHeartbeats 4000000
namespace L3
open PySem PySem.Spec PyProof.Rows L2
abbrev St:=L2.St
theorem Ib{d a:Type}{f:d->a->Sem (ForInStep a)}{g:a->d->a}:∀(l:List d) (b:a),(∀x∈l,∀c,f x c=pure (ForInStep.yield (g c x)))->(forIn l b f:Sem a)=pure (l.foldl g b)
 |[],b,_=>by simp
 |x::r,b,h=>by rw[List.forIn_cons,h x bb b];show (forIn r (g b x) f:Sem a)=_;rw[Ib r (g b x) λy e c=>h y (ba _ e) c];rfl
def BU(cells:List (Str×Addr))(cs:List (Str×Addr))(x:Str×d7):List (Str×Addr):=if (x.2==NameKind.free)=γ then (x.1,(cells.lookup x.1).getD 0)::cs else cs
def zw(cells:List (Str×Addr))(names:List (Str×d7)):List (Str×Addr):=names.foldl (BU cells) []
def JE{scope:cJ}{cb:Env}(h:∀x∈scope.names,x.2=.free->∃c,cb.cells.lookup x.1=U c):
  closureFor scope cb=pure (zw cb.cells scope.names):=by
 simp only[closureFor];rw[Ib (g:=BU cb.cells) scope.names [] λx i c=>by
  obtain⟨n,k⟩:=x;by_cases b:k=.free
  .subst b;obtain⟨a,e⟩:=h _ i Z;have d:=e;simp only[BU,cellOf,d,beq_self_eq_true,if_true,pE];rfl
  .have f:(k==NameKind.free)=δ:=by simpa using b
   simp only[BU,f,eE,if_false]]
 rfl
set_option tactic.hygienic true
theorem Mm{cells:List (Str×Addr)}:∀(names:List (Str×d7)) (acc:List (Str×Addr)),(∀x∈names,x.2=.free->∃c,cells.lookup x.1=U c)->(∀x c,acc.lookup x=U c->cells.lookup x=U c)->
  ∀x c,(names.foldl (BU cells) acc).lookup x=U c->cells.lookup x=U c
 |[],acc,_,j,x,c,e=>j x c e
 |y::r,acc,h,j,x,c,e=>by
  refine Mm r (BU cells acc y) (λz p=>h z (ba _ p)) (λz d b=>?_) x c e;obtain⟨n,k⟩:=y;unfold BU at b;split at b
  .rename_i o;obtain⟨a,m⟩:=h (n,k) bb (by simpa using o);have f:=m;rw[fz]at b;cases l:z==n with
   |true=>rw[l]at b;have i:=b;rw[f]at i;rw[gj l,f];exact i
   |false=>rw[l]at b;exact j z d b
  .exact j z d b
set_option tactic.hygienic false
theorem J1:∀(names:List (Str×d7)) (acc:List (Str×Addr)) (x:Str),(∃c,acc.lookup x=U c)->∃c,(names.foldl (BU cells) acc).lookup x=U c
 |[],_,_,h=>h
 |y::r,acc,x,h=>by
  refine J1 r (BU cells acc y) x ?_;unfold BU;split
  .rw[fz];cases x==y.1 with
   |true=>exact⟨_,Z⟩
   |false=>exact h
  .exact h
theorem Ie:∀(names:List (Str×d7)) (acc:List (Str×Addr)) (x:Str),(x,NameKind.free)∈names->∃c,(names.foldl (BU cells) acc).lookup x=U c
 |[],_,_,h=>by cases h
 |y::r,acc,x,h=>by
  rcases aJ.1 h with e|h
  .subst e;refine J1 r _ x ?_;unfold BU;rw[ak (by simp),fz];simp
  .exact Ie r _ x h
set_option tactic.hygienic true
theorem Bk{cb:Env}(x:Str):∀(names:List (Str×d7)),
  (names.map λ(n,k)=>if (k==NameKind.free&&cb.scope.kind==.function&&cb.kindOf n==U .cell)then (n,NameKind.cell)else (n,k)).lookup x=
   (names.lookup x).map λk=>if (k==NameKind.free&&cb.scope.kind==.function&&cb.kindOf x==U .cell)=γ then NameKind.cell else k
 |[]=>rfl
 |(n,k)::r=>by
  have c:=Bk (cb:=cb) x r;rw[aU,fz (k:=n)];show dP x ((if (k==NameKind.free&&cb.scope.kind==.function&&cb.kindOf n==U .cell)=γ then (n,NameKind.cell)else (n,k))::_)=_;cases a:x==n with
  |true=>
   have e:=gj a;subst e;split
   .rename_i b;simp only[fz,a,fT,b,if_true]
   .rename_i b;simp only[fz,a,fT];rw[aq b]
  |false=>
   rw[<-c];split
   .simp only[fz,a]
   .simp only[fz,a]
set_option tactic.hygienic false
def NS{scope:cJ}(hcell:∀y∈scope.names,y.2≠.cell)(h:(relabel scope cb).names.lookup x=U .cell\/(relabel scope cb).names.lookup x=U .free):(x,NameKind.free)∈scope.names:=by
 have e:=Bk (cb:=cb) x scope.names;have a:(scope.names.lookup x).map (λk=>if (k==NameKind.free&&cb.scope.kind==.function&&cb.kindOf x==U .cell)=γ then NameKind.cell else k)=U .cell\/
   (scope.names.lookup x).map (λk=>if (k==NameKind.free&&cb.scope.kind==.function&&cb.kindOf x==U .cell)=γ then NameKind.cell else k)=U .free:=by
  rw[<-e];exact h
 cases q:scope.names.lookup x with
 |none=>rw[q]at a;rcases a with z|z<;>cases z
 |some k=>
  rw[q]at a;have b:=mem_of_lookup q;have c:=hcell _ b;cases k with
  |free=>exact b
  |cell=>exact ar Z c
  |_=>rcases a with z|z<;>cases z
def JF{scope:cJ}(h:scope.names.lookup x=U .free):(relabel scope cb).names.lookup x=U .cell\/(relabel scope cb).names.lookup x=U .free:=by
 have e:=Bk (cb:=cb) x scope.names;have a:(relabel scope cb).names.lookup x=(scope.names.lookup x).map λk=>if (k==NameKind.free&&cb.scope.kind==.function&&cb.kindOf x==U .cell)=γ then NameKind.cell else k:=e
 rw[a,h,fT];split
 .exact .inl Z
 .exact .inr Z
def v5(X:Cx)(a:aE)(scope:cJ)(cl:List (Str×Addr))(C:Addr)(fp:List Addr)(s:af)(H:Hp):Cx:=
 { X with N:=a,s₀:=s,H₀:=H,cb:=compEnvC scope cl C X.cb,dg:=X.stack,ex:=fp,fn:=λv=>δ,pn:=[],xe:=λv v=>False }
def PIf(X:Cx)(ifs:List Expr)(t:TT):Prop:=
 ∀(a:cA) (s:af) (b:St) (H:Hp) (Q:Bool->Hp->Prop),dr X a b H s->t b H Q->
  ao (model X.prog X.w) X.A (forIn ifs γ λc r=>if r=γ then do let ok<-isTrue c X.cb (eval c X.cb);pure (ForInStep.yield ok)else pure (ForInStep.yield r)) (TP X a b Q) X.xe s
def tIf0:TT:=λv H Q=>Q γ H
def VH:PIf X [] tIf0:=λv v v H v I h=>wpAny_tests_nil ⟨H,I,h⟩
def VI(h:PT X c t):PIf X [c] t:=λa s d H Q I b=>wpAny_tests_one (h a s d H Q I b)
section
variable{prog:aB}{w:az}{A:aG}{R:eL->af->Prop}{s:af}
def Li(J:Nat->af->Prop)
  (turn:∀n s,J n s->ao (model prog w) A (pyNext B) (λr d=>match r with
   |none=>R (.ok .next) d
   |some v=>ao (model prog w) A (iC target B v) (λk f=>ao (model prog w) A (assign target cb v) (λk o=>
     ao (model prog w) A (forIn ifs γ λc r=>if r=γ then do let ok<-isTrue c cb (eval c cb);pure (ForInStep.yield ok)else pure (ForInStep.yield r)) (λok i=>
      if ok=γ then ao (model prog w) A (eval elt cb) (λx p=>
       ao (model prog w) A (call (.builtin "list.append") [acc,x]) (λk q=>∃m,m<n/\J m q) (notedBy (model prog w) A cb λe b=>R (.error e) b) p) (notedBy (model prog w) A cb λe b=>R (.error e) b) i
      else ∃m,m<n/\J m i) (notedBy (model prog w) A cb λe b=>R (.error e) b) o) (notedBy (model prog w) A cb λe b=>R (.error e) b) f)
      (notedBy (model prog w) A cb λe b=>R (.error e) b) d) (notedBy (model prog w) A cb λe b=>R (.error e) b) s)
  (n:Nat) (h:J n s):
  cy (model prog w) A (.compLoop (.ListComp elt [⟨target,iter,ifs,0⟩] scope pos) 0 B acc cb) R s:=by
 refine codeAny_loop Z J (λn s hI=>?_) n h;refine wpAny_noted ?_;rw[compTurn_list];refine ag (jM (ag (bQ (turn n s hI) (λr d j=>?_) λk k a=>a)));cases r with
 |none=>exact au j
 |some v=>
  refine ag (bQ j (λk f t=>?_) λk k a=>a);refine ag (bQ t (λk o u=>ag (bQ u (λok i l=>?_) λk k a=>a)) λk k a=>a);cases ok with
  |false=>exact au ⟨Z,l⟩
  |true=>exact ag (ag (bQ l (λx p y=>ag (bQ y (λk q z=>au (au ⟨Z,z⟩)) λk k a=>a)) λk k a=>a))
end
def yd(k:Nat)(er:List Nat)(a:St):St:=b9 k O++er.map λj=>(a[j]?).join
def J2(h:(yd k er b)[i]?=U (U v)):k<=i:=by
 by_cases a:k<=i
 .exact a
 .unfold yd at h;rw[fN (by rw[c7];omega),jo]at h;split at h<;>cases h
def Qz{k:Nat}{er:List Nat}{b:St}{N a:aE}{i:Nat}{v:V}{x:Str}(hcap:(a.drop k).map U=er.map λj=>N[j]?)(f:a[i]?=U x)(h:(yd k er b)[i]?=U (U v)):
  ∃j:Nat,N[j]?=U x/\b[j]?=U (U v)/\x∈a.drop k:=by
 have d:=J2 h;unfold yd at h;rw[fM (by rw[c7];exact d),c7,bA]at h;have hd:(a.drop k)[i - k]?=U x:=by rw[eZ,show k+(i - k)=i by omega];exact f
 have e:=bD (λl=>l[i - k]?) hcap;simp only[bA,hd,fT]at e;cases q:er[i - k]? with
 |none=>rw[q]at h;cases h
 |some j=>
  rw[q]at h e;simp only[fT,t6]at h e;refine⟨j,e.symm,?_,b8 hd⟩;cases z:b[j]? with
  |none=>rw[z]at h;cases h
  |some o=>rw[z]at h;have c:o=U v:=h;rw[c]
def Gj(t:TI)(g:TG)(r:TT)(q:TE)(k:Nat)(er:List Nat):TE:=λe H Q=>t e H λJ f=>∀p,f p=O->
 ∃W:Nat->Nat->bz->Hp->Prop,(∃m,W 0 m [] (e7 f p (.cf [])))/\∀i m acc c,W i m acc c->
  (J.stop i c/\Q (.ref p) c)\/
   (J.go i c/\∀x h,J.yld i c x h->g x (yd k er e) h λa o=>a.drop k=(yd k er e).drop k/\r a o λb j=>
    if b=γ then q a j λy l=>∃acc',l p=U (.cf acc')/\acc'.length<aC/\∃d,d<m/\W (i+1) d (acc'++[y]) (e7 l p (.cf (acc'++[y])))
    else ∃d,d<m/\W (i+1) d acc j)
def J3{X:Cx}{er:List Nat}
  (hc:X.ll=γ) (hi:PI X tg iter wi)
  (body:∀(cl:List (Str×Addr)) (C:Addr) (fp:List Addr) (s:af) (H:Hp),PG (v5 X B scope cl C fp s H) tg g/\PIf (v5 X B scope cl C fp s H) ifs tt/\PE (v5 X B scope cl C fp s H) elt te)
  (hkind:scope.kind=.function) (hcell:(scope.names.all λy=>y.2 != .cell)=γ)
  (hloc:(scope.names.all λy=>y.2 != .local||scope.names.lookup y.1==U .local)=γ)
  (hfree:(scope.names.all λy=>y.2 != .free||(X.cb.kindOf y.1==U .cell||X.cb.kindOf y.1==U .free))=γ)
  (hlen:B.length=k+er.length) (hcap:(B.drop k).map U=er.map λj=>X.N[j]?)
  (hcf:((B.drop k).all λx=>scope.names.lookup x==U .free)=γ)
  (hs:∀x,iw iter X.cb x=pure x)
  (I:dr X pins σ H s) (h:Gj wi g tt te k er σ H Q)
  (fin:∀a C m u s4 H3,s4.heap.Ns C m->dr X pins σ H3 s4->K4 X pins H3 C->Q (.ref a) H3->compPost (model X.prog X.w) X.A X.xe use P (.ref a) C (.ok u) s4):
  ao (model X.prog X.w) X.A (comprehension (.ListComp elt [⟨tg,iter,ifs,0⟩] scope pos) scope X.cb (firstIterPos [⟨tg,iter,ifs,0⟩] pos) (newList []) δ (eval iter X.cb) use) P X.xe s:=by
 have hcell':∀y∈scope.names,y.2≠.cell:=λy M e=>by have z:=aR.1 hcell y M;rw[e]at z;exact ar z (by decide)
 have hloc':∀y∈scope.names,y.2=.local->scope.names.lookup y.1=U .local:=λy M e=>by have z:=aR.1 hloc y M;rw[e]at z;simpa using z
 have hfree':∀y∈scope.names,y.2=.free->X.cb.kindOf y.1=U .cell\/X.cb.kindOf y.1=U .free:=λy M e=>by have z:=aR.1 hfree y M;rw[e]at z;simpa using z
 have hcl:=λy M e=>I.ok.has y.1 (hfree' y M e);refine wpAny_comprehension_free Z hs (JE hcl) hkind hloc' (fu (hi pins s σ H _ I h) λxv s₁ E=>fu E λit l h₂=>?_);obtain⟨ita,fp,tn,J,H2,e,I2,T,st2,G,R2⟩:=h₂;subst e;obtain⟨W,⟨m0,w0⟩,turn⟩:=R2 l.heap.objs.size (I2.fb.fresh (aL _));refine dX (wpAny_newFunctionEnv hcell' (by intro y M;simp at M) (λE hns₁ hsb₁=>?_) hkind);dsimp only at hns₁ hsb₁ ⊢;generalize hp:l.heap.push { cls:=.type "list", dict:=O,data:=.seq ([]:List aa).toArray }=hpL at hns₁ hsb₁ ⊢;have hsz:hpL.objs.size=l.heap.objs.size+1:=by rw[<-hp,c9]
 have t:dr X pins σ (e7 H2 l.heap.objs.size (.cf [])) { l with heap:=hpL }:=by rw[<-hp];exact I2.laid (λb u e=>aK _ e) (aL _) ⟨cD _,[],0,.nil,bp _ Z⟩
 have old:=λb o e=>hsb₁.extBut b o (aW (aP e)) (aK _ e);have older:∀b o,l.heap.get? b=U o->hpL.get? b=U o:=λb o e=>by rw[<-hp];exact aK _ e
 have hfpS:=λb hb=>let ⟨o,e,_⟩:=T.obj _ _ st2 b hb;aP e;have sub:=Mm scope.names [] hcl (λx c e=>by cases e);have R:(v5 X B scope (zw X.cb.cells scope.names) hpL.objs.size fp { l with heap:=hpL } (e7 H2 l.heap.objs.size (.cf []))).Ok:={
  y':=t.ok.y'
  kind:=hkind
  yr:=t.ok.yr
  blt:=t.ok.blt
  above:=aL _
  inj:=λx y c h1 h2=>t.ok.inj x y c (sub x c h1) (sub y c h2)
  has:=λx F=>Ie scope.names [] x (NS hcell' F)
  cab:=λx c hf _=>ar (show δ=γ from hf) bw
  hd:=t.ok.hd
  frames:=t.ok.frames
  stk:=.inl Z
  exf:=λb hb=>⟨(by
   rw[hsz];exact aW (eF (hfpS b hb))),λx c e=>(G b hb).2.2.2.2.1 x c (sub x c e)⟩
  bs:=t.bs
  bsz:=bF t.ok.bsz t.sz
  S2:=λb o e hb=>by
   rcases(G b hb).2.2.2.1 with z|z
   .exact t.ok.S2 b o e z
   .exact ar (cn (aP e) (bF t.ok.bsz z)) (eI _)
  W':=λb hb z=>(aJ.1 (t.O' b z)).elim (G b hb).2.1 (G b hb).2.2.1
  qi:=t.stack
  frf:=t.N' }
 have IX:dr (v5 X B scope (zw X.cb.cells scope.names) hpL.objs.size fp { l with heap:=hpL } (e7 H2 l.heap.objs.size (.cf []))) [] (yd k er σ) (e7 H2 l.heap.objs.size (.cf []))
   { l with heap:=E,toks:=l.toks+([]:List (Str×aa)).length }:={
  ok:=R
  os:=rfl
  gi:=t.gi
  b?:=Un.f? old
  C':=⟨_,hns₁,λi x v e1 e2 _=>by
   obtain⟨j,hj,hσ,hm⟩:=Qz hcap e1 e2;have F:=by simpa using aR.1 hcf x hm
   have hk:=hfree' (x,.free) (mem_of_lookup F) Z;obtain⟨m,hn,hl⟩:=t.C';obtain⟨u,r,lk⟩:=hl j x v hj hσ (hk.elim (λz=>.inr (.inl z)) λz=>.inr (.inr z));refine⟨u,r,.inr ⟨JF F,?_⟩⟩;rcases lk with ⟨z,_⟩|⟨_,c,e,o,ho,hd⟩
   .rcases hk with y|y
    .rw[y]at z;cases z
    .rw[y]at z;cases z
   .obtain⟨c',e'⟩:=Ie scope.names [] x (mem_of_lookup F);have ec:=sub x c' e';rw[e]at ec;have ec':=cP ec;subst ec';exact⟨c,e',o,old _ _ ho,hd⟩⟩
  cell:=λx c e=>by obtain⟨v,o,ho,hd⟩:=t.cell x c (sub x c e);exact⟨v,o,old _ _ ho,hd⟩
  free:=t.fb.fresh (aL _)
  ke:=λx c e=>t.ke x c (sub x c e)
  C?:=λp hp=>ar (show p∈([]:cA) from hp) (by simp)
  fb:=t.fb.f? old
  len:=by
   show (yd k er σ).length=B.length;rw[hlen];unfold yd;rw[aF,c7,ah] }
 have stat:∀{H':Hp},(∀b∈fp,H' b=O)->∀b∈fp,K4 (v5 X B scope (zw X.cb.cells scope.names) hpL.objs.size fp { l with heap:=hpL } (e7 H2 l.heap.objs.size (.cf []))) [] H' b:=λhn b hb=>⟨hn b hb,(R.exf b hb).1,R.W' b hb,.inl hb,(R.exf b hb).2,λp hp=>ar (show p∈([]:cA) from hp) (by simp)⟩
 have st4:=T.keep _ _ _ st2 λb _ o e=>old b o (older b o e);have loop:cy (model X.prog X.w) X.A (.compLoop (.ListComp elt [⟨tg,iter,ifs,0⟩] scope pos) 0 (.ref ita) (.ref l.heap.objs.size) (compEnvC scope (zw X.cb.cells scope.names) hpL.objs.size X.cb))
   (compPost (model X.prog X.w) X.A X.xe use P (.ref l.heap.objs.size) hpL.objs.size) { l with heap:=E,toks:=l.toks+([]:List (Str×aa)).length }:=by
  refine Li (λn s'=>∃i acc H',dr (v5 X B scope (zw X.cb.cells scope.names) hpL.objs.size fp { l with heap:=hpL } (e7 H2 l.heap.objs.size (.cf []))) [] (yd k er σ) H' s'/\tn i s'.heap/\(∀b∈fp,H' b=O)/\W i n acc H')
   ?_ m0 ⟨0,[],_,IX,st4,λb hb=>?_,w0⟩
  .rintro n s3 ⟨i,acc,H3,I4,st3,fr3,w3⟩;rcases turn i n acc H3 w3 with ⟨stop,qn⟩|⟨go,step⟩
   .refine fu (T.done (v5 X B scope (zw X.cb.cells scope.names) hpL.objs.size fp { l with heap:=hpL } (e7 H2 l.heap.objs.size (.cf []))) Z Z Z hc i [] s3 _ H3 _ I4 (stat fr3) st3 stop) λr s4 zz=>?_;obtain⟨hr,Y⟩:=zz;subst hr;obtain⟨m,hn,_⟩:=id Y.C';have AT:=Y.b?;refine fin _ _ m _ _ _ hn (t.Rn Y.os ⟨λb o e n hb F=>AT.keep b o e n hb F,λb o e n hb F=>AT.slot b o e n hb F,AT.free,λb o e F=>AT.there b o e F,AT.sh,AT.tz,AT.x1⟩ Y.fb Y.gi
     λb hb=>⟨(G b hb).2.2.2.1,(G b hb).2.1,(G b hb).2.2.2.2.1,(G b hb).2.2.2.2.2⟩) (t.fpOk (aL _) Y.free) qn
   .refine fu (T.item (v5 X B scope (zw X.cb.cells scope.names) hpL.objs.size fp { l with heap:=hpL } (e7 H2 l.heap.objs.size (.cf []))) Z Z Z hc i [] s3 _ H3 _ I4 (stat fr3) st3 go) λr s4 zz=>?_;obtain⟨u,hr,h4⟩:=zz;subst hr;refine fu h4 λ_ s5 zz=>?_;obtain⟨x,H5,Y,r5,y5,st5,fr5⟩:=zz;have I5':=Y.τ (stat fr5) (T.obj _ _ st5);have again:∀{H8:Hp} {s8:af} {S:St} {acc8:bz} {m':Nat},dr (v5 X B scope (zw X.cb.cells scope.names) hpL.objs.size fp { l with heap:=hpL } (e7 H2 l.heap.objs.size (.cf []))) ([]++HP fp s5.heap) S H8 s8->S.drop k=(yd k er σ).drop k->m'<n->W (i+1) m' acc8 H8->
      ∃m,m<n/\∃i acc H',dr (v5 X B scope (zw X.cb.cells scope.names) hpL.objs.size fp { l with heap:=hpL } (e7 H2 l.heap.objs.size (.cf []))) [] (yd k er σ) H' s8/\tn i s8.heap/\(∀b∈fp,H' b=O)/\W i m acc H':=λ{H8 s8 S acc8 m'} I8 hd8 hm8 w8=>by
     refine⟨m',hm8,i+1,acc8,H8,I8.n?.ea (IX.len.t I8.len.symm) (λj v e=>?_),T.keep _ _ _ st5 λb hb o e=>(I8.C? (b,o) (bC _ (bC _ (zv hb e)))).1,λb hb=>?_,w8⟩
     .have hj:=J2 e;have q:(S.drop k)[j - k]?=((yd k er σ).drop k)[j - k]?:=by rw[hd8]
      rw[eZ,eZ,show k+(j - k)=j by omega]at q;rw[q];exact e
     .obtain⟨o,e,d⟩:=T.obj _ _ st5 b hb;exact(I8.C? (b,o) (bC _ (bC _ (zv hb e)))).2.1
    refine bQ ((body _ _ _ _ _).1 _ s5 _ H5 x u _ I5' r5 (step x H5 y5)) (λ_ s6 h6=>?_) λ_ _ f=>f.elim;obtain⟨σ6,H6,I6,hd6,q6⟩:=h6;refine bQ ((body _ _ _ _ _).2.1 _ s6 σ6 H6 _ I6 q6) (λb s7 h7=>?_) λ_ _ f=>f.elim;obtain⟨H7,I7,q7⟩:=h7;cases b with
    |false=>rw[aq bw]at q7;rw[aq bw];obtain⟨m',hm',w7⟩:=q7;exact again I7 hd6 hm' w7
    |true=>rw[ak Z]at q7;rw[ak Z];refine bQ ((body _ _ _ _ _).2.2 _ s7 σ6 H7 _ I7 q7) (λyv s8 h8=>?_) λ_ _ f=>f.elim;obtain⟨y,H8,I8,r8,acc',hp8,hl8,m',hm',w8⟩:=h8;refine bQ (FC (X:=v5 X B scope (zw X.cb.cells scope.names) hpL.objs.size fp { l with heap:=hpL } (e7 H2 l.heap.objs.size (.cf []))) _ s8 σ6 H8 (.ref l.heap.objs.size) [y] (.ref l.heap.objs.size) [yv] (λ_ Hx=>Hx=e7 H8 l.heap.objs.size (.cf (acc'++[y]))) I8 Z (.cons r8 .nil) ⟨_,acc',y,Z,Z,hp8,hl8,Z⟩) (λ_ s9 h9=>?_) λ_ _ f=>f.elim;obtain⟨_,H9,I9,_,e9⟩:=h9;subst e9;exact again I9 hd6 hm' w8
  .have z:=aW (hfpS b hb);rw[uC z];exact(G b hb).1
 exact codeAny_compStart_list loop (T.self _ 0 _ _ _ st4 loop)
def VJ{X:Cx}{er:List Nat}
  (w:X.ll=γ) (z:PI X q iter J)
  (body:∀(f:List (Str×Addr)) (C:Addr) (i:List Addr) (s:af) (H:Hp),PG (v5 X c scope f C i s H) q g/\PIf (v5 X c scope f C i s H) ifs G/\PE (v5 X c scope f C i s H) elt F)
  (hkind:scope.kind=.function:=by rfl) (hcell:(scope.names.all λy=>y.2 != .cell)=γ:=by rfl)
  (hloc:(scope.names.all λy=>y.2 != .local||scope.names.lookup y.1==U .local)=γ:=by rfl)
  (hfree:(scope.names.all λy=>y.2 != .free||(X.cb.kindOf y.1==U .cell||X.cb.kindOf y.1==U .free))=γ:=by rfl)
  (d:c.length=k+er.length:=by rfl) (hcap:(c.drop k).map U=er.map λj=>X.N[j]?:=by rfl)
  (hcf:((c.drop k).all λx=>scope.names.lookup x==U .free)=γ:=by rfl)
  (B:∀x,iw iter X.cb x=pure x:=by intro _;rfl):
  PE X (.ListComp elt [⟨q,iter,ifs,0⟩] scope pos) (Gj J g G F k er):=by
 intro p s R H Q I h;exact J3 w z body hkind hcell hloc hfree d hcap hcf B I h λa C m u P r A r? fpC E=>⟨m,A,λM l=>⟨.ref a,r,r?.k? (λb o t e=>(l.2 b t).t e) fpC.1 fpC.2.1 fpC.2.2.2.1 fpC.2.2.2.2.1 fpC.2.2.2.2.2,Z,E⟩⟩
def Its(x:Str):It:=⟨λi u=>i<x.cps.size,λi H v a=>a=H/\∃c,x.cps[i]?=U c/\v=.str ⟨#[c]⟩,λi u=>i=x.cps.size⟩
def YQ(hQ:Q () s):ao M A (iC a (.ref b) (.str c t)) Q E s:=by cases a<;>exact au hQ
def Mn{K:aw}(it:Addr)(ty:String)(x:Str)(t:Tok)
  (hW:∀A:aG,A.handled=O->Walks P w A it [it] [it] x.cps.size (SignAt x) (λi h=>h.IsStrIter it ty x t i))
  (hS:∀(A:aG) (i:Nat) (s:af) (Q:aa->af->Prop) (E:aa->af->Prop),s.heap.IsStrIter it ty x t i->Q (.ref it) s->ao (model P w) A (pyIter (.ref it)) Q E s):
  Turn P w K tg (Its x) [it] it (λi h=>h.IsStrIter it ty x t i) where
 mem:=by simp
 obj:=λi h st b hb=>by
  have e:=by simpa using hb
  subst e;obtain⟨o,e,c,d⟩:=st;exact⟨o,e,λv z=>by rw[d]at z;cases z⟩
 keep:=λi h h' st k=>by obtain⟨o,e,r⟩:=st;exact⟨o,k it (by simp) o e,r⟩
 item:=by intro X hP hw hK p i pins s σ H E I hf st hg;subst hP hw hK;obtain⟨a,f,F,j,l,m⟩:=hf it (by simp);refine(hW _ (I.ok.hd p)).item i s _ _ hg st λv h' tk G B y=>?_;obtain⟨c,J,q,rfl⟩:=G;have C:dr X pins σ H { s with heap:=h',toks:=tk }:=I.k? (λb o hb e=>y b o (by simpa using hb) e) a f j l m;exact⟨_,Z,YQ ⟨.str ⟨#[c]⟩,H,C,⟨J,Z⟩,⟨Z,c,q,Z⟩,B,λb hb=>(hf b hb).1⟩⟩
 done:=by intro X hP hw hK p i pins s σ H E I hf st hg;subst hP hw hK;obtain⟨a,f,F,j,l,m⟩:=hf it (by simp);have u:=hg;subst u;exact(hW _ (I.ok.hd p)).done s _ _ st λh' tk y=>⟨Z,I.k? (λb o hb e=>y b o (by simpa using hb) e) a f j l m⟩
 self:=hS
section
variable{X:Cx}{tg:Expr}
def iStr(b:TE):TI:=λc H R=>b c H λv a=>∃x,v=.str x/\R (Its x) a
def YR(r:PE X l y):PI X tg l (iStr y):=by
 intro a s B H R I h;refine fu (r a s B H _ I h) λv c zz=>?_;obtain⟨x,f,d,w,u⟩:=zz;obtain⟨z,e,q⟩:=u;subst e;obtain⟨t,rfl⟩:=w;have j:∀b∈[c.heap.objs.size],K4 X a f b:=λb p=>by
  have e:=by simpa using p
  subst e;exact d.fpOk (aL _) (d.fb.fresh (aL _))
 cases m:z.cps.all (· < 128)
 .refine wpAny_pyIter_wide m ⟨c.heap.objs.size,[c.heap.objs.size],_,_,f,Z,d.f? λb o e=>aK _ e,Mn _ "str_iterator" z t (λA hA=>Walks.strWide hA _ z t) (λA i s Q E st hQ=>wpAny_pyIter_striter_wide st hQ),⟨_,bp _ Z,Z,Z⟩,j,q⟩
 .refine wpAny_pyIter_ascii m ⟨c.heap.objs.size,[c.heap.objs.size],_,_,f,Z,d.f? λb o e=>aK _ e,Mn _ "str_ascii_iterator" z t (λA hA=>Walks.strAscii hA _ z t) (λA i s Q E st hQ=>wpAny_pyIter_striter_ascii st hQ),⟨_,bp _ Z,Z,Z⟩,j,q⟩
end
section
variable{X:Cx}
def QA:j3 X (bB .LtE) (λx y H Q=>∃i j,x=.str i/\y=.str j/\Q (.Y (!decide (j.cps.toList<i.cps.toList))) H):=by intro a s e H x y v u Q I b c h;obtain⟨i,j,rfl,rfl,q⟩:=h;obtain⟨t,rfl⟩:=b;obtain⟨d,rfl⟩:=c;exact PySem.P.le_str (vb I q Z)
def Sa(y:X.ll=γ):vQ X (.builtin "all") (λx H Q=>∃(p:Addr) (bs:List Bool),x=[.ref p]/\f5 X.K H p (bs.map V.Y)/\Q (.Y (bs.all id)) H):=by
 intro t s T H x S Q I r h;obtain⟨p,bs,rfl,E,q⟩:=h;obtain⟨u,rfl,l⟩:=m? r;cases l;obtain⟨j,w,pl,N⟩:=I.list E;have hlt:p<s.heap.objs.size:=by obtain⟨o,C,_⟩:=pl.isList;exact aP C
 have B:=by have:=w.length;rw[ah]at this;exact this
 refine call_all_walk (fP pl.isList ⟨s.heap.objs.size,_,_,_,_,_,λi=>(bs[i]?).getD γ,Z,iW (show X.A.in1.handled=O from I.ok.hd y) _ p (aW hlt) j.toArray,⟨⟨_,bp _ Z,Z,Z⟩,?_⟩,?_,λM R z=>?_⟩)
 .exact pl.isList.at λo e=>aK _ e
 .intro i v P J G F hQ';have c:=by simpa using F
  have a:=(bR.1 c).1;have d:(bs.map V.Y)[i]?=U (.Y (bs[i]'(by omega))):=by simp[show i<bs.length by omega]
  obtain⟨u,m,l⟩:=w.get d;rw[c]at m;cases m;cases l;refine dE ?_;have e:(bs[i]?).getD γ=bs[i]'(by omega):=by simp[show i<bs.length by omega]
  rw[<-e];exact hQ'
 .refine⟨.Y (bs.all id),H,?_,?_,q⟩
  .exact I.f? λb o e=>z b o (by simp;exact aW (aP e)) (aK _ e)
  .show Value.bool _=Value.bool _;congr 1;rw[bc,<- B];rw[dG];simp only[aR,bP,id];constructor
   .intro f b d;obtain⟨i,a,rfl⟩:=kQ.1 d;have:=f i a;simpa [a]using this
   .intro f i a;simp only[bg a,pE];exact f _ (fR a)
end
inductive Dq where
 |X|Y (b:Bool)|int (i:Int)|str (x:Str)|ef (ds:List Dq)|cf (ds:List Dq)
mutual
def en(K:aw)(H:Hp):Dq->V->Prop
 |.X,v=>v=.X
 |.Y b,v=>v=.Y b
 |.int i,v=>v=.int i
 |.str x,v=>v=.str x
 |.ef d,v=>∃a c,v=.ref a/\gk K H a c/\di K H d c
 |.cf d,v=>∃a c,v=.ref a/\f5 K H a c/\di K H d c
def di(K:aw)(H:Hp):List Dq->bz->Prop
 |[],a=>a=[]
 |d::b,a=>∃v r,a=v::r/\en K H d v/\di K H b r
end
mutual
def x?:Dq->Dq->Bool
 |.X,.X=>γ
 |.Y a,.Y b=>a==b
 |.Y a,.int b=>(if a then 1 else 0)==b
 |.int a,.Y b=>a==(if b then 1 else 0)
 |.int a,.int b=>a==b
 |.str a,.str b=>a==b
 |.ef a,.ef b=>Dt a b
 |.cf a,.cf b=>Dt a b
 |_,_=>δ
def Dt:List Dq->List Dq->Bool
 |[],[]=>γ
 |a::r,b::q=>x? a b&&Dt r q
 |_,_=>δ
end
mutual
def mn:Dq->Nat
 |.ef a=>wz a+1
 |.cf a=>wz a+1
 |_=>0
def wz:List Dq->Nat
 |[]=>0
 |d::r=>max (mn d) (wz r)
end
mutual
theorem Es:∀d:Dq,x? d d=γ
 |.X=>rfl
 |.Y b=>beq_self_eq_true b
 |.int i=>beq_self_eq_true i
 |.str x=>beq_self_eq_true x
 |.ef a=>FD a
 |.cf a=>FD a
theorem FD:∀a:List Dq,Dt a a=γ
 |[]=>rfl
 |d::r=>by show (x? d d&&Dt r r)=γ;rw[Es d,FD r];rfl
end
theorem uk{K:aw}:∀{b:List Dq} {a:bz},di K H b a->b.length=a.length
 |[],a,h=>by subst h;rfl
 |d::b,a,h=>by obtain⟨v,r,rfl,_,c⟩:=h;rw[aS,aS,uk c]
def eAt(d c:List Dq)(j:Nat):Bool:=match d[j]?,c[j]? with
 |some a,U b=>x? a b
 |_,_=>γ
theorem Ig:∀(d c:List Dq),Dt d c=γ ↔ d.length=c.length/\∀j,j<d.length->eAt d c j=γ
 |[],[]=>by show γ=γ ↔ _;simp
 |[],b::q=>by show δ=γ ↔ _;simp
 |a::r,[]=>by show δ=γ ↔ _;simp
 |a::r,b::q=>by
  have l:=Ig r q;show (x? a b&&Dt r q)=γ ↔ _;rw[aV,l,aS,aS];constructor
  .rintro⟨f,e,h⟩;refine⟨by omega,λj i=>?_⟩;cases j with
   |zero=>exact f
   |succ j=>exact h j (by omega)
  .rintro⟨f,e⟩;exact⟨e 0 (by omega),by omega,λj i=>e (j+1) (by omega)⟩
def Bl{b a:List Dq}(l:b.length=n)(i:a.length=m):((aZ (min n m)).all (eAt b a)&&n==m)=Dt b a:=by
 rw[dG,Ig,aV,aR];subst l i;constructor
 .rintro⟨d,f⟩;have e:=by simpa using f
  exact⟨e,λj c=>d j (bP.2 (by omega))⟩
 .rintro⟨e,h⟩;exact⟨λj c=>h j (by have:=bP.1 c;omega),by simpa using e⟩
def Cj{b a:List Dq}(d:b.length=n)(c:a.length=n):(aZ n).all (eAt b a)=Dt b a:=by rw[<-Bl d c];simp
def Ih{b a:List Dq}(h:b.length≠a.length):Dt b a=δ:=by
 cases e:Dt b a with
 |false=>rfl
 |true=>exact ar ((Ig b a).1 e).1 h
section
variable{X:Cx}{pins:cA}{σ:St}{H:Hp}{s:af}
def XB(I:dr X pins σ H s)(h:f5 X.K H a f)(c:gk X.K H a i):False:=by obtain⟨d,_,p,_⟩:=I.list h;obtain⟨b,_,e,_⟩:=I.tuple c;exact SeqAt.ne_of_list_tuple p.isList (show s.heap.IsTuple a b.toArray from e) Z
mutual
theorem Ii(I:dr X pins σ H s):∀(d i:Dq) (v:V),en X.K H d v->en X.K H i v->x? d i=γ
 |.X,i,v,h,c=>by subst h;cases i<;>first|rfl|(exact nomatch c)|(obtain⟨_,_,e,_⟩:=c;exact nomatch e)
 |.Y b,i,v,h,c=>by subst h;cases i<;>first|(obtain⟨_,_,e,_⟩:=c;cases e)|(cases c<;>exact Es _)
 |.int b,i,v,h,c=>by subst h;cases i<;>first|(obtain⟨_,_,e,_⟩:=c;cases e)|(cases c<;>exact Es _)
 |.str b,i,v,h,c=>by subst h;cases i<;>first|(obtain⟨_,_,e,_⟩:=c;cases e)|(cases c<;>exact Es _)
 |.ef q,i,v,h,c=>by
  obtain⟨a,u,rfl,o,t⟩:=h;cases i with
  |ef j=>obtain⟨p,m,e,f,l⟩:=c;cases e;have r:=I.I' o f;subst r;exact FH I q j u t l
  |cf j=>obtain⟨p,m,e,f,l⟩:=c;cases e;exact(XB I f o).elim
  |_=>exact nomatch (show _=_ from c)
 |.cf q,i,v,h,c=>by
  obtain⟨a,u,rfl,o,t⟩:=h;cases i with
  |cf j=>obtain⟨p,m,e,f,l⟩:=c;cases e;have r:=I.S3 o f;subst r;exact FH I q j u t l
  |ef j=>obtain⟨p,m,e,f,l⟩:=c;cases e;exact(XB I o f).elim
  |_=>exact nomatch (show _=_ from c)
theorem FH(I:dr X pins σ H s):∀(b a:List Dq) (f:bz),di X.K H b f->di X.K H a f->Dt b a=γ
 |[],a,f,h,c=>by
  subst h;cases a with
  |nil=>rfl
  |cons d r=>obtain⟨_,_,e,_⟩:=c;exact nomatch e
 |d::b,a,f,h,c=>by
  obtain⟨v,r,rfl,o,p⟩:=h;cases a with
  |nil=>exact nomatch (show _=_ from c)
  |cons l m=>obtain⟨t,q,e,i,j⟩:=c;cases e;show (x? d l&&Dt b m)=γ;rw[Ii I d l v o i,FH I b m r p j];rfl
end
mutual
theorem Sb(I:dr X pins σ H s):∀(d C:Dq) (x y:V) (u v:aa) (A:aG),en X.K H d x->en X.K H C y->eo x u->eo y v->A.units+mn d+mn C<cLine->jU A s u v (x? d C)
 |.ef F,C,x,y,u,v,A,G,l,w,o,R=>by
  obtain⟨a,S,rfl,Q,M⟩:=G;cases w;obtain⟨J,P,p,_⟩:=I.tuple Q;cases C with
  |X=>unfold en at l;subst l;cases o;exact sN p (by omega)
  |Y b=>unfold en at l;subst l;cases o;exact sO b p (by omega)
  |int b=>unfold en at l;subst l;obtain⟨t,rfl⟩:=o;exact sW b t p (by omega)
  |str b=>unfold en at l;subst l;obtain⟨t,rfl⟩:=o;exact sX b t p (by omega)
  |cf i=>obtain⟨b,E,rfl,h,m⟩:=l;cases o;obtain⟨f,B,r,_⟩:=I.list h;exact sP p r.isList (by omega)
  |ef i=>
   have N:=l;obtain⟨b,E,rfl,h,m⟩:=l;cases o;obtain⟨f,B,r,_⟩:=I.tuple h;by_cases hab:a=b
   .subst hab;have e:x? (.ef F) (.ef i)=γ:=Ii I _ _ (.ref a) (by unfold en;exact⟨a,S,Z,Q,M⟩) N;rw[e];exact lI _
   .have hd:mn (.ef F)=wz F+1:=by rw[mn]
    have hd':mn (.ef i)=wz i+1:=by rw[mn]
    have q:=t7 (A:=A) p r (by omega) λj W Y=>by have z:=Bm I F i S E J f A.in1 M m P B (by show A.units+1+wz F+wz i<cLine;omega) j (by simpa using W) (by simpa using Y);simpa using z
    rw[Bl (by rw[uk M,P.length];simp) (by rw[uk m,B.length];simp)]at q;exact lj hab q
 |.cf F,C,x,y,u,v,A,G,l,w,o,R=>by
  obtain⟨a,S,rfl,Q,M⟩:=G;cases w;obtain⟨J,P,p,_⟩:=I.list Q;have p:=p.isList;cases C with
  |X=>unfold en at l;subst l;cases o;exact sY p (by omega)
  |Y b=>unfold en at l;subst l;cases o;exact sZ b p (by omega)
  |int b=>unfold en at l;subst l;obtain⟨t,rfl⟩:=o;exact tN b t p (by omega)
  |str b=>unfold en at l;subst l;obtain⟨t,rfl⟩:=o;exact tP b t p (by omega)
  |ef i=>obtain⟨b,E,rfl,h,m⟩:=l;cases o;obtain⟨f,B,r,_⟩:=I.tuple h;exact sQ p (show s.heap.IsTuple b f.toArray from r) (by omega)
  |cf i=>
   have N:=l;obtain⟨b,E,rfl,h,m⟩:=l;cases o;obtain⟨f,B,r,_⟩:=I.list h;have r:=r.isList;by_cases hab:a=b
   .subst hab;have e:x? (.cf F) (.cf i)=γ:=Ii I _ _ (.ref a) (by unfold en;exact⟨a,S,Z,Q,M⟩) N;rw[e];exact lI _
   .have hd:mn (.cf F)=wz F+1:=by rw[mn]
    have hd':mn (.cf i)=wz i+1:=by rw[mn]
    by_cases T:J.length=f.length
    .have q:=uc (A:=A) p r (by simpa using T) (by omega) λj W Y=>by have z:=Bm I F i S E J f A.in1 M m P B (by show A.units+1+wz F+wz i<cLine;omega) j (by simpa using W) (by simpa using Y);simpa using z
     rw[Cj (by rw[uk M,P.length];simp) (by rw[uk m,B.length,<- T];simp)]at q;exact lj hab q
    .have e:x? (.cf F) (.cf i)=δ:=by exact Ih (by rw[uk M,uk m,P.length,B.length];exact T)
     rw[e];exact lj hab (sL p r (by simpa using T) (by omega))
 |.X,C,x,y,u,v,A,G,l,w,o,R=>by
  subst G;cases C with
  |ef i=>obtain⟨b,E,rfl,h,m⟩:=l;cases o;cases w;obtain⟨f,B,r,_⟩:=I.tuple h;exact sR (show s.heap.IsTuple b f.toArray from r) (by omega)
  |cf i=>obtain⟨b,E,rfl,h,m⟩:=l;cases o;cases w;obtain⟨f,B,r,_⟩:=I.list h;exact tu r.isList (by omega)
  |_=>unfold en at l;subst l;exact HU w o Z Z
 |.Y c,C,x,y,u,v,A,G,l,w,o,R=>by
  subst G;cases C with
  |ef i=>obtain⟨b,E,rfl,h,m⟩:=l;cases o;cases w;obtain⟨f,B,r,_⟩:=I.tuple h;exact sS c (show s.heap.IsTuple b f.toArray from r) (by omega)
  |cf i=>obtain⟨b,E,rfl,h,m⟩:=l;cases o;cases w;obtain⟨f,B,r,_⟩:=I.list h;exact tD c r.isList (by omega)
  |_=>unfold en at l;subst l;exact HU w o Z Z
 |.int c,C,x,y,u,v,A,G,l,w,o,R=>by
  subst G;cases C with
  |ef i=>obtain⟨b,E,rfl,h,m⟩:=l;cases o;obtain⟨t,rfl⟩:=w;obtain⟨f,B,r,_⟩:=I.tuple h;exact tE c t (show s.heap.IsTuple b f.toArray from r) (by omega)
  |cf i=>obtain⟨b,E,rfl,h,m⟩:=l;cases o;obtain⟨t,rfl⟩:=w;obtain⟨f,B,r,_⟩:=I.list h;exact tQ c t r.isList (by omega)
  |_=>unfold en at l;subst l;exact HU w o Z Z
 |.str c,C,x,y,u,v,A,G,l,w,o,R=>by
  subst G;cases C with
  |ef i=>obtain⟨b,E,rfl,h,m⟩:=l;cases o;obtain⟨t,rfl⟩:=w;obtain⟨f,B,r,_⟩:=I.tuple h;exact tG c t (show s.heap.IsTuple b f.toArray from r) (by omega)
  |cf i=>obtain⟨b,E,rfl,h,m⟩:=l;cases o;obtain⟨t,rfl⟩:=w;obtain⟨f,B,r,_⟩:=I.list h;exact tR c t r.isList (by omega)
  |_=>unfold en at l;subst l;exact HU w o Z Z
theorem Bm(I:dr X pins σ H s):∀(b a:List Dq) (f h:bz) (c e:List aa) (A:aG),di X.K H b f->di X.K H a h->eg f c->eg h e->A.units+wz b+wz a<cLine->
  ∀(j:Nat) (i:j<c.length) (l:j<e.length),jU A s c[j] e[j] (eAt b a j)
 |[],a,f,h,c,e,A,m,o,p,q,B,j,i,l=>by
  have:=uk m;have:=p.length;simp only[gH]at *
  omega
 |d::b,[],f,h,c,e,A,m,o,p,q,B,j,i,l=>by
  have:=uk o;have:=q.length;simp only[gH]at *
  omega
 |d::b,r::a,f,h,c,e,A,m,o,p,q,B,j,i,l=>by
  obtain⟨x,J,rfl,t,u⟩:=m;obtain⟨y,M,rfl,w,z⟩:=o;have N:wz (d::b)=max (mn d) (wz b):=by rw[wz]
  have P:wz (r::a)=max (mn r) (wz a):=by rw[wz]
  cases p with
  |cons F G=>
   cases q with
   |cons C E=>
    cases j with
    |zero=>exact Sb I d r x y _ _ A t w F C (by omega)
    |succ j=>exact Bm I b a J M _ _ A u z G E (by omega) j (by simpa using i) (by simpa using l)
end
def Sd:Dq->Dq->Bool
 |.ef _,.ef _=>γ
 |.cf _,.cf _=>γ
 |_,_=>δ
def NT(K:aw)(neg:Bool):R2:=λx y H Q=>∃d a,en K H d x/\en K H a y/\Sd d a=γ/\mn d<=20/\mn a<=20/\Q (.Y (if neg then !x? d a else x? d a)) H
def YS(hu:X.A.units+64<cLine):j3 X (bB .Eq) (NT X.K δ):=by
 intro pins s σ H x y u v Q I W Y h;obtain⟨d,R,S,T,hd,B,C,q⟩:=h;cases d with
 |ef i=>
  cases R with
  |ef c=>
   have G:mn (.ef i)=wz i+1:=by rw[mn]
   have J:mn (.ef c)=wz c+1:=by rw[mn]
   obtain⟨a,N,rfl,M,r⟩:=S;obtain⟨b,P,rfl,o,l⟩:=T;cases W;cases Y;obtain⟨m,t,p,_⟩:=I.tuple M;obtain⟨f,w,F,_⟩:=I.tuple o;refine SeqAt.eq_tupleAt (e:=eAt i c) (show s.heap.IsTuple a m.toArray from p) (show s.heap.IsTuple b f.toArray from F) (by omega) (λj B C=>?_) ?_
   .have z:=Bm I i c N P m f X.A.in1 r l t w (by show X.A.units+1+wz i+wz c<cLine;omega) j (by simpa using B) (by simpa using C);simpa using z
   .rw[Bl (by rw[uk r,t.length];simp) (by rw[uk l,w.length];simp)];exact vb I q Z
  |_=>exact nomatch hd
 |cf i=>
  cases R with
  |cf c=>
   have G:mn (.cf i)=wz i+1:=by rw[mn]
   have J:mn (.cf c)=wz c+1:=by rw[mn]
   obtain⟨a,N,rfl,M,r⟩:=S;obtain⟨b,P,rfl,o,l⟩:=T;cases W;cases Y;obtain⟨m,t,p,_⟩:=I.list M;obtain⟨f,w,F,_⟩:=I.list o;by_cases E:m.length=f.length
   .refine SeqAt.eq_listAt (e:=eAt i c) p.isList F.isList (by simpa using E) (by omega) (λj B C=>?_) ?_
    .have z:=Bm I i c N P m f X.A.in1 r l t w (by show X.A.units+1+wz i+wz c<cLine;omega) j (by simpa using B) (by simpa using C);simpa using z
    .rw[Cj (by rw[uk r,t.length];simp) (by rw[uk l,w.length,<- E];simp)];exact vb I q Z
   .refine SeqAt.eq_list_lengthsAt p.isList F.isList (by simpa using E) (by omega) ?_;have e:Dt i c=δ:=Ih (by rw[uk r,uk l,t.length,w.length];exact E);rw[show x? (.cf i) (.cf c)=δ from e]at q;exact vb I q Z
  |_=>exact nomatch hd
 |_=>exact nomatch hd
def YT(hu:X.A.units+64<cLine):j3 X (bB .NotEq) (NT X.K γ):=by
 intro pins s σ H x y u v Q I Y rv h;obtain⟨d,S,T,W,hd,C,E,q⟩:=h;cases d with
 |ef l=>
  cases S with
  |ef c=>
   have J:mn (.ef l)=wz l+1:=by rw[mn]
   have M:mn (.ef c)=wz c+1:=by rw[mn]
   obtain⟨a,P,rfl,N,r⟩:=T;obtain⟨b,R,rfl,o,i⟩:=W;cases Y;cases rv;obtain⟨m,t,p,_⟩:=I.tuple N;obtain⟨f,B,G,_⟩:=I.tuple o;have w:=tS (A:=X.A) (show s.heap.IsTuple a m.toArray from p) (show s.heap.IsTuple b f.toArray from G) (by omega) (λj C E=>by
    have z:=Bm I l c P R m f X.A.in1 r i t B (by show X.A.units+1+wz l+wz c<cLine;omega) j (by simpa using C) (by simpa using E);simpa using z)
   rw[Bl (by rw[uk r,t.length];simp) (by rw[uk i,B.length];simp)]at w;exact w X.prog X.w X.xe _ (vb I q Z)
  |_=>exact nomatch hd
 |cf l=>
  cases S with
  |cf c=>
   have J:mn (.cf l)=wz l+1:=by rw[mn]
   have M:mn (.cf c)=wz c+1:=by rw[mn]
   obtain⟨a,P,rfl,N,r⟩:=T;obtain⟨b,R,rfl,o,i⟩:=W;cases Y;cases rv;obtain⟨m,t,p,_⟩:=I.list N;obtain⟨f,B,G,_⟩:=I.list o;by_cases F:m.length=f.length
   .have w:=tW (A:=X.A) p.isList G.isList (by simpa using F) (by omega) (λj C E=>by
     have z:=Bm I l c P R m f X.A.in1 r i t B (by show X.A.units+1+wz l+wz c<cLine;omega) j (by simpa using C) (by simpa using E);simpa using z)
    rw[Cj (by rw[uk r,t.length];simp) (by rw[uk i,B.length,<- F];simp)]at w;exact w X.prog X.w X.xe _ (vb I q Z)
   .have e:Dt l c=δ:=Ih (by rw[uk r,uk i,t.length,B.length];exact F);rw[show x? (.cf l) (.cf c)=δ from e]at q;exact rW p.isList G.isList (by simpa using F) (by omega) X.prog X.w X.xe _ (vb I q Z)
  |_=>exact nomatch hd
 |_=>exact nomatch hd
end
inductive Ab:List Expr->bz->Prop
 |nil:Ab [] []
 |cons {x:Str} {j:Nat} {pos:Pos} {es:List Expr} {vs:bz} (h:Ab es vs):Ab (.Constant (.str x) j pos::es) (.str x::vs)
def w6(h:n<=1000):n<=aC:=f6 (Dc h)
def uw.new(x:uw H a)(c:a p=O)(o:HO):uw H (e7 a p o):=λb u e=>by have z:=x b u e;rw[uC (w5 z c)];exact z
structure QB(K:aw)(x qual:Str)(st:Stmt)(f:Addr)(fd:bS)(T:Addr):Prop where
 ex:∃(oc:aa) (od:Option Addr) (kV doc pm:aa) (an:Option Addr) (cdv ct:aa) (osl:Array (Option aa)),
  fd=eO x qual (yc st) (uX st) (uE st) (.ref T) kV doc pm an cdv ct/\K.lookup f=U ⟨oc,od,.func fd,osl⟩/\gZ K cdv qual=γ
 kp:de K (.ref f)=γ
section
variable{P:aB}{w:az}{K:aw}{mg:Str->Option aa}{b?:Heap}
theorem QB.ok{st:Stmt}(F:QB K x qual st f d T)(S:wD N ps (uE st))(len:∀a H Q E,b a H Q E->a.length=ps.length)
  (hbody:∀(cdv:aa) (A:aG) (dg:List Env) (s:af) (H:Hp) (a:bz) (Q:VK) (E:XK),wt k (A.deeper (envOfC qual (uE st) s.heap.objs.size f cdv))->b a H Q E->
   ∃t,lr (K8 F? P w K mg b? N qual (uE st) f cdv A dg s H E).nox (uX st) t/\t { nx:=λv c=>Q .X c,rt:=Q } (L2.start N a) H):xC P w K mg b? F? (k+1) f d ps b:=by
 obtain⟨l,m,kV,doc,o,i,cdv,j,osl,rfl,lk,hcd⟩:=F.ex;refine OQ lk hcd S len λA dg s H a Q E e hsp=>?_;obtain⟨t,h,q⟩:=hbody cdv A dg s H a Q E e hsp;exact⟨t,h.nox,q⟩
end
theorem QB.ro{K:aw}{st:Stmt}{i:aE}{d:List aa}(F:QB K x qual st f j T)(q:K.lookup T=U o)(r:o.data=.seq items n)
  (h:∀(kV doc e:aa) (b:Option Addr) (cdv c:aa) (a:List aa),a.length=i.length - d.length->∃k,bindArgs (eO x qual (yc st) (uX st) (uE st) (.ref T) kV doc e b cdv c) ⟨a,[]⟩=seqItems? (.ref T)>>=k/\k (U items)=pure (i.zip (a++d))):j4 K j i d:=by
 obtain⟨t,u,kV,doc,e,b,cdv,c,osl,rfl,lk,hcd⟩:=F.ex;intro s a KX p;obtain⟨k,l,m⟩:=h kV doc e b cdv c a (by rw[aF]at p;omega);exact BindsTo.of_defaults Z (KX _ _ q) r l m
section
variable{X:Cx}
def NU:j3 X (cR .Mult) (λx y H Q=>∃z n,x=.str z/\y=.int n/\MulOk z n/\Q (.str (mZ z n)) H):=by intro a s i H x y v u Q I c d h;obtain⟨z,n,rfl,rfl,b,q⟩:=h;obtain⟨t,rfl⟩:=c;obtain⟨f,rfl⟩:=d;exact SB.mul b λe k=>⟨.str _,H,I.vl _,⟨e,Z⟩,q⟩
end
section
variable{X:Cx}(K:aw)
def Se(hK:X.K=K:=by rfl):IxR X (Vz K):=by subst hK;exact OX
def Mo(a:PE X l b)(hK:X.K=K:=by rfl):PI X c l (RG K b):=by subst hK;exact Vm a
def VL(a:PE X l b)(hK:X.K=K:=by rfl):PI X c l (Yn K b):=by subst hK;exact Yo a
def VM(b:X.ll=γ)(h:X? X a t)(c:(cu a X.cb).length=n:=by rfl)(hst:(cu a X.cb).findIdx? (·.1)=O:=by rfl)(hK:X.K=K:=by rfl):PG X (.Tuple a k pos) (Yk K n t):=by subst hK;exact Yl b h c hst
variable{o e:Expr}{es:List Expr}{to:TE}{t:TA}{name:Str}{apos cpos:Pos}{T id:String}{r:V->bz->Hp->VK->Prop}
def Sf(f:mR T)(slot:Slot T name id)(hty:typeOf (.builtin id)=pure (.type "method_descriptor"))(b:MtR X id r)(c:PE X o to)(a:PA X (e::es) t)
  (hbase:fF o name X.cb (eval o X.cb)=eval o X.cb:=by rfl)
  (hfew:((bE cpos (ay (e::es) X.cb)).all (λx=>!x.1)&&(backToKw cpos (d6 [] X.cb)).all (λx=>x.1.isSome)
   && decide ((e::es).length+([]:List fJ).length+(if ([]:List fJ).isEmpty then 0 else 1)<30))=γ:=by rfl)
  (hline:(apos.endLine==cpos.line)=γ:=by rfl) (d:ay (e::es) X.cb=(δ,eval e X.cb)::ay es X.cb:=by rfl) (hplain:(bE cpos (ay es X.cb)).any (·.1)=δ:=by rfl) (hK:X.K=K:=by rfl):
  PE X (.Call (.Attribute o name apos) (e::es) [] cpos) (tBM K T r to t):=by subst hK;exact acw f slot hty b c a hbase hfew hline d hplain
end
end L3
namespace L2
open PySem PySem.Spec PyProof.Rows
section
variable{X:Cx}{pins:cA}{σ:St}{H:Hp}{s:af}
def AV(e:H a=U u)(q:H c=U v)(d:u≠v)(n:HO):e7 H a n c=U v:=by rw[uC (λz=>by subst z;rw[e]at q;exact d (cP q))];exact q
def dr.q?(I:dr X pins σ H s)(e:H a=U (.dK kvs)):∃o,dr X pins σ (e7 H a (.oz o (.dK kvs))) s:=by
 obtain⟨z,y,P,r,f,F,E,l,c⟩:=(show e8 X.prog X.w H s.heap a (.dK kvs) from I.fb a _ e);refine⟨f,?_⟩;have j:=I.step (H':=e7 H a (.oz f (.dK kvs))) (h':=s.heap) (g':=s.gens) (d':=s.drawn) (t':=s.toks) (ch:=[]) (λv z=>nomatch z) (λb o v v v q v=>q) (λb o v v v q v=>⟨o.slots,q⟩)
  (λb o v v n=>by rw[uC (λz=>by subst z;rw[e]at n;cases n)];exact n) (λb o v q=>⟨o,q⟩) (λb p q=>AV e q (λz=>nomatch z) _) (λb o u q=>AV e q (λz=>nomatch z) _)
  (λb M q=>⟨#[],by rw[AV e q (λz=>nomatch z) _];simp⟩) (λm q=>q) ?_ I.gi
 .obtain⟨h,g,d,t,os⟩:=s;exact j
 .intro b u q;have st:∀{b:Addr} {u:HO},e8 X.prog X.w H s.heap b u->e8 X.prog X.w (e7 H a (.oz f (.dK kvs))) s.heap b u:=λ{b u} x=>x.U' (λv v v q=>q) (λc q=>AV e q (λz=>nomatch z) _) λc p q=>AV e q (λz=>nomatch z) _
  by_cases i:b=a
  .subst i;rw[uu]at q;cases q;exact⟨l,st (I.fb b _ e)⟩
  .rw[uC i]at q;exact st (I.fb b u q)
def PE.ghost(h:PE X e t):PE X e (λσ H Q=>t σ H λx b=>Q x b\/∃a kvs,b a=U (.dK kvs)/\∀o,Q x (e7 b a (.oz o (.dK kvs)))):=λpins s σ H Q I i=>
 fu (h pins s σ H _ I i) λu l ⟨x,b,c,d,j⟩=>by
  rcases j with q|⟨a,kvs,e,q⟩
  .exact⟨x,b,c,d,q⟩
  .obtain⟨o,f⟩:=c.q? e;exact⟨x,_,f,d,q o⟩
end
end L2
namespace L4
open PySem PySem.Spec PyProof.Rows L2 L3
abbrev St:=L2.St
inductive D where
 |X|Y (b:Bool)|int (i:Int)|str (x:Str)
 |ef (ds:List D)|cf (ds:List D)
 |u? (ds:List D)
 |obj (c:Nat) (ns:aE) (ds:List D)
 |Z (ks:List ey) (ds:List D)
 |dit (ks:List (List ey)) (ds:List D)
abbrev aN:=List D
structure Bg where
 K:aw
 ca:Nat->Addr
 hs:List ey->Int
def isO(a:Addr)(o:Obj):Heap->Prop:=λh=>h.get? a=U o
structure DtE(hs:List ey->Int)(o:Obj)(qs:List (List ey×Addr×aa)):Prop where
 ex:o.ExactDict
 da:∃es ep,o.data=.dict es ep/\es.toList=qs.map λq=>⟨hs q.1,.ref q.2.1,q.2.2⟩
 nd:(qs.map (·.1)).Nodup
 sz:qs.length<=1000
def DtO(G:Bg)(H:Hp)(a:Addr)(c:List (List ey))(d:bz):Prop:=∃(o:Obj) (b:List (List ey×Addr×aa)),H a=U (.ext (isO a o))/\(a==du)=δ/\DtE G.hs o b/\b.map (·.1)=c/\(∀q∈b,gk G.K H q.2.1 (q.1.map kV))/\eg d (b.map (·.2.2))
mutual
def en(G:Bg)(H:Hp):D->V->Prop
 |.X,v=>v=.X
 |.Y b,v=>v=.Y b
 |.int i,v=>v=.int i
 |.str x,v=>v=.str x
 |.ef e,v=>∃a d,v=.ref a/\gk G.K H a d/\di G H e d
 |.cf e,v=>∃a d,v=.ref a/\H a=U (.cf d)/\di G H e d
 |.u? e,v=>∃a d,v=.ref a/\f5 G.K H a d/\di G H e d
 |.obj c h e,v=>∃a j d,v=.ref a/\H a=U (.mr (G.ca c) j (h.zip d))/\h.length=d.length/\di G H e d
 |.Z f e,v=>∃a o d,v=.ref a/\H a=U (.oz o (.dK (f.zip d)))/\f.length=d.length/\di G H e d
 |.dit f e,v=>∃a d,v=.ref a/\DtO G H a f d/\di G H e d
def di(G:Bg)(H:Hp):aN->bz->Prop
 |[],a=>a=[]
 |d::b,a=>∃v r,a=v::r/\en G H d v/\di G H b r
end
def gk.mono{K:aw}{H b:Hp}{a:Addr}{c:bz}(e:uw H b)(h:gk K H a c):gk K b a c:=by
 rcases h with (h|⟨o,h⟩)|h
 .exact .inl (.inl (e _ _ h))
 .exact .inl (.inr ⟨o,e _ _ h⟩)
 .exact .inr h
theorem DtO.mono{G:Bg}{H b:Hp}{a:Addr}{ks:List (List ey)}{c:bz}(e:uw H b)(h:DtO G H a ks c):DtO G b a ks c:=by obtain⟨o,r,d,f,i,j,l,m⟩:=h;exact⟨o,r,e _ _ d,f,i,j,λq p=>gk.mono e (l q p),m⟩
mutual
theorem en.mono{G:Bg}{H q:Hp}(e:uw H q):∀(d:D) (v:V),en G H d v->en G q d v
 |.X,v,h=>by unfold en at h ⊢;exact h
 |.Y b,v,h=>by unfold en at h ⊢;exact h
 |.int i,v,h=>by unfold en at h ⊢;exact h
 |.str x,v,h=>by unfold en at h ⊢;exact h
 |.ef j,v,h=>by obtain⟨a,f,rfl,l,m⟩:=h;exact⟨a,f,Z,gk.mono e l,di.mono e j f m⟩
 |.cf j,v,h=>by obtain⟨a,f,rfl,l,m⟩:=h;exact⟨a,f,Z,e _ _ l,di.mono e j f m⟩
 |.u? j,v,h=>by obtain⟨a,f,rfl,l,m⟩:=h;exact⟨a,f,Z,e.seq l,di.mono e j f m⟩
 |.obj c u j,v,h=>by obtain⟨a,r,f,rfl,l,m,p⟩:=h;exact⟨a,r,f,Z,e _ _ l,m,di.mono e j f p⟩
 |.Z t j,v,h=>by obtain⟨a,o,f,rfl,l,m,p⟩:=h;exact⟨a,o,f,Z,e _ _ l,m,di.mono e j f p⟩
 |.dit t j,v,h=>by obtain⟨a,f,rfl,l,m⟩:=h;exact⟨a,f,Z,l.mono e,di.mono e j f m⟩
theorem di.mono{G:Bg}{H b:Hp}(e:uw H b):∀(ds:aN) (a:bz),di G H ds a->di G b ds a
 |[],a,h=>by unfold di at h ⊢;exact h
 |d::ds,a,h=>by obtain⟨v,r,rfl,c,f⟩:=h;exact⟨v,r,Z,en.mono e d v c,di.mono e ds r f⟩
end
section
variable{G:Bg}{H:Hp}
def uU:di G H [] []:=by unfold di;rfl
def uR{d:D}{v:V}{b:aN}{a:bz}(h:en G H d v)(r:di G H b a):di G H (d::b) (v::a):=by unfold di;exact⟨v,a,Z,h,r⟩
theorem uk:∀{b:aN} {a:bz},di G H b a->b.length=a.length
 |[],a,h=>by unfold di at h;subst h;rfl
 |d::b,a,h=>by obtain⟨v,r,rfl,_,c⟩:=h;rw[aS,aS,uk c]
theorem wa:∀{e a:aN} {b c:bz},di G H e b->di G H a c->di G H (e++a) (b++c)
 |[],a,b,c,h,f=>by unfold di at h;subst h;exact f
 |d::e,a,b,c,h,f=>by obtain⟨v,r,rfl,i,j⟩:=h;exact uR i (wa j f)
theorem yN:∀{b:aN} {a:bz} {i:Nat} {d:D},di G H b a->b[i]?=U d->∃v,a[i]?=U v/\en G H d v
 |[],a,i,d,h,e=>by simp at e
 |j::b,a,i,d,h,e=>by
  obtain⟨v,r,rfl,c,f⟩:=h;cases i with
  |zero=>simp at e;subst e;exact⟨v,Z,c⟩
  |succ i=>simpa using yN f (by simpa using e)
theorem Mp:∀{b:aN} {a:bz} (i:Nat) {d:D} {v:V},di G H b a->en G H d v->di G H (b.set i d) (a.set i v)
 |[],a,i,d,v,h,e=>by unfold di at h;subst h;exact uU
 |j::b,a,i,d,v,h,e=>by
  obtain⟨l,r,rfl,f,c⟩:=h;cases i with
  |zero=>exact uR e c
  |succ i=>exact uR f (Mp i c e)
theorem J4:∀{ds:aN} {a:bz} (n:Nat),di G H ds a->di G H (ds.drop n) (a.drop n)
 |ds,a,0,h=>h
 |[],a,n+1,h=>by unfold di at h;subst h;exact uU
 |d::ds,a,n+1,h=>by obtain⟨v,r,rfl,c,b⟩:=h;exact J4 n b
theorem Ka:∀{ds:aN} {a:bz} (n:Nat),di G H ds a->di G H (ds.take n) (a.take n)
 |ds,a,0,h=>uU
 |[],a,n+1,h=>by unfold di at h;subst h;exact uU
 |d::ds,a,n+1,h=>by obtain⟨v,r,rfl,b,c⟩:=h;exact uR b (Ka n c)
def Et{a:Addr}{b:bz}{c:aN}(h:gk G.K H a b)(r:di G H c b):en G H (.ef c) (.ref a):=by unfold en;exact⟨a,b,Z,h,r⟩
def Ac{a:Addr}{b:bz}{c:aN}(h:H a=U (.cf b))(r:di G H c b):en G H (.cf c) (.ref a):=by unfold en;exact⟨a,b,Z,h,r⟩
def wF(i:Int):en G H (.int i) (.int i):=by unfold en;rfl
def wV(i:Bool):en G H (.Y i) (.Y i):=by unfold en;rfl
def yI(i:Str):en G H (.str i) (.str i):=by unfold en;rfl
def Ad:en G H .X .X:=by unfold en;rfl
end
inductive Sl where
 |un
 |I (d:D)
 |ls (ds:aN)
 |pm (ds:aN)
 |dk (ks:List ey) (ds:aN)
 |ob (c:Nat) (ns:aE) (ds:aN)
abbrev aM:=List Sl
def Sl.i1:Sl->Bool
 |.ls _=>γ
 |.pm _=>γ
 |.dk _ _=>γ
 |.ob _ _ _=>γ
 |_=>δ
structure Fr where
 B0:Hp
 B:Hp
 A:List Addr
def JG(G:Bg)(F:Fr)(e H:Hp)(o:Option V):Sl->Prop
 |.un=>True
 |.I d=>∃v,o=U v/\en G e d v
 |.ls f=>∃a b,o=U (.ref a)/\H a=U (.cf b)/\e a=O/\F.B a=O/\di G e f b
 |.pm f=>∃a b,o=U (.ref a)/\H a=U (.cf b)/\e a=O/\a∈F.A/\di G e f b
 |.dk h f=>∃a b,o=U (.ref a)/\H a=U (.dK (h.zip b))/\e a=O/\F.B a=O/\h.length=b.length/\di G e f b
 |.ob c i f=>∃a j b,o=U (.ref a)/\H a=U (.mr (G.ca c) j (i.zip b))/\e a=O/\a∈F.A/\i.length=b.length/\di G e f b
structure dt(G:Bg)(F:Fr)(σ:St)(ρ:aM)(H0 H:Hp):Prop where
 sub:uw H0 H
 g0:uw F.B0 H0
 keep:∀b o,F.B b=U o->b∉F.A->H b=U o
 fr:∀b o,H0 b=U o->F.B0 b=U o\/F.B b=O
 am:∀a∈F.A,∃o,H a=U o
 len:σ.length=ρ.length
 sl:∀(i:Nat) (s:Sl),ρ[i]?=U s->JG G F H0 H (σ[i]?).join s
 ap:∀(i j:Nat) (s t:Sl) (a:Addr),i≠j->ρ[i]?=U s->ρ[j]?=U t->s.i1=γ->t.i1=γ->(σ[i]?).join=U (.ref a)->(σ[j]?).join=U (.ref a)->False
theorem JG.at{G:Bg}{F:Fr}{p H:Hp}{o:Option V}{s:Sl}(h:JG G F p H o s)(e:s.i1=γ):∃a u,o=U (.ref a)/\H a=U u/\p a=O/\(F.B a=O\/a∈F.A):=by
 cases s with
 |un=>cases e
 |I d=>cases e
 |ls l=>obtain⟨a,m,b,f,i,j,_⟩:=h;exact⟨a,_,b,f,i,.inl j⟩
 |pm l=>obtain⟨a,m,b,f,i,j,_⟩:=h;exact⟨a,_,b,f,i,.inr j⟩
 |dk r l=>obtain⟨a,m,b,f,i,j,_⟩:=h;exact⟨a,_,b,f,i,.inl j⟩
 |ob c t l=>obtain⟨a,q,m,b,f,i,j,_⟩:=h;exact⟨a,_,b,f,i,.inr j⟩
def JG.gf{G:Bg}{F:Fr}{t H f y:Hp}{o:Option V}{s:Sl}(h:JG G F t H o s)(p:uw t f)(q:∀a u,o=U (.ref a)->s.i1=γ->H a=U u->y a=U u)
  (r:∀a u,o=U (.ref a)->s.i1=γ->H a=U u->t a=O->f a=O):JG G F f y o s:=by
 cases s with
 |un=>trivial
 |I d=>obtain⟨v,b,e⟩:=h;exact⟨v,b,en.mono p _ _ e⟩
 |ls w=>obtain⟨a,m,b,e,i,j,l⟩:=h;exact⟨a,m,b,q _ _ b Z e,r _ _ b Z e i,j,di.mono p _ _ l⟩
 |pm w=>obtain⟨a,m,b,e,i,j,l⟩:=h;exact⟨a,m,b,q _ _ b Z e,r _ _ b Z e i,j,di.mono p _ _ l⟩
 |dk A w=>obtain⟨a,m,b,e,i,j,l,x⟩:=h;exact⟨a,m,b,q _ _ b Z e,r _ _ b Z e i,j,l,di.mono p _ _ x⟩
 |ob c B w=>obtain⟨a,z,m,b,e,i,j,l,x⟩:=h;exact⟨a,z,m,b,q _ _ b Z e,r _ _ b Z e i,j,l,di.mono p _ _ x⟩
section
variable{G:Bg}{F:Fr}{σ:St}{ρ:aM}{H0 H H0' H':Hp}
theorem dt.iE(R:dt G F σ ρ H0 H){b:Addr}(h:H b=O):F.B b=O:=by
 cases e:F.B b with
 |none=>rfl
 |some o=>
  by_cases a:b∈F.A
  .obtain⟨c,q⟩:=R.am b a;rw[q]at h;cases h
  .have q:=R.keep b o e a;rw[q]at h;cases h
theorem dt.gf(R:dt G F σ ρ H0 H)(hs:uw H H')(h0:uw H0 H0')(sub':uw H0' H')(hf:∀b o,H0' b=U o->H0 b=U o\/H b=O):dt G F σ ρ H0' H' where
 sub:=sub'
 g0:=R.g0.t h0
 keep:=λb o e n=>hs _ _ (R.keep b o e n)
 fr:=λb o e=>by
  rcases hf b o e with q|q
  .exact R.fr b o q
  .exact .inr (R.iE q)
 am:=λa ha=>let ⟨xs,q⟩:=R.am a ha;⟨xs,hs _ _ q⟩
 len:=R.len
 sl:=λi s e=>(R.sl i s e).gf h0 (λa u v v q=>hs _ _ q) λa u v v q c=>by
  cases z:H0' a with
  |none=>rfl
  |some o=>
   rcases hf a o z with y|y
   .rw[y]at c;cases c
   .rw[y]at q;cases q
 ap:=R.ap
def uH{H:Hp}{p:Addr}(a:H p=O)(o:HO):uw H (e7 H p o):=uw.new (uw.refl H) a o
def dt.fx(R:dt G F σ ρ H0 H){p:Addr}(a:H p=O):H0 p=O:=by
 cases e:H0 p with
 |none=>rfl
 |some o=>have:=R.sub _ _ e;rw[this]at a;cases a
def Sg{H0 H:Hp}(s:uw H0 H)(p:Addr)(o:HO):uw (e7 H0 p o) (e7 H p o):=λb u e=>by
 by_cases a:b=p
 .subst a;rw[uu]at e ⊢;exact e
 .rw[uC a]at e ⊢;exact s _ _ e
def dt.L0(R:dt G F σ ρ H0 H){p:Addr}(a:H p=O)(o:HO):dt G F σ ρ (e7 H0 p o) (e7 H p o):=
 R.gf (uH a o) (uH (R.fx a) o) (Sg R.sub p o) λb u e=>by
  by_cases c:b=p
  .subst c;exact .inr a
  .rw[uC c]at e;exact .inl e
def dt.jj(R:dt G F σ ρ H0 H){p:Addr}(a:H p=O)(o:HO):dt G F σ ρ H0 (e7 H p o):=
 R.gf (uH a o) (uw.refl _) (λb u e=>by rw[uC (w5 (R.sub _ _ e) a)];exact R.sub _ _ e) λb u e=>.inl e
def pw(σ:St)(ρ:aM)(p:Addr):Prop:=∀(i:Nat) (s:Sl),ρ[i]?=U s->s.i1=γ->(σ[i]?).join≠U (.ref p)
def dt.apart(R:dt G F σ ρ H0 H){p:Addr}(d:H p=O):pw σ ρ p:=λi s e so z=>by obtain⟨a,u,b,c,_⟩:=(R.sl i s e).at so;rw[z]at b;cases b;rw[d]at c;cases c
theorem dt.q?(R:dt G F σ ρ H0 H){p:Addr}{o:HO}(d:H p=U o)(h0:H0 p=O)(hb:F.B p=O)(ap:pw σ ρ p):dt G F σ ρ (e7 H0 p o) H where
 sub:=λb u e=>by
  by_cases hb:b=p
  .subst hb;rw[uu]at e;cases e;exact d
  .rw[uC hb]at e;exact R.sub _ _ e
 g0:=R.g0.t (uH h0 o)
 keep:=R.keep
 fr:=λb u e=>by
  by_cases c:b=p
  .subst c;exact .inr hb
  .rw[uC c]at e;exact R.fr _ _ e
 am:=R.am
 len:=R.len
 sl:=λi s e=>(R.sl i s e).gf (uH h0 o) (λa u v v q=>q) λa u z so q f=>by rw[uC (λy=>ap i s e so (by rw[z,y]))];exact f
 ap:=R.ap
def Mq{σ:St}{i j:Nat}{v:Option V}(a:i<σ.length):((σ.set i v)[j]?).join=if j=i then v else (σ[j]?).join:=by
 rw[cc];by_cases h:i=j
 .subst h;simp[a]
 .rw[aq h,aq (λz=>h z.symm)]
set_option tactic.hygienic true
theorem dt.set(R:dt G F σ ρ H0 H){i:Nat}{v:V}{s:Sl}(hs:JG G F H0 H (U v) s)(ap:s.i1=γ->∀a,v=.ref a->∀(j:Nat) (t:Sl),j≠i->ρ[j]?=U t->t.i1=γ->(σ[j]?).join≠U (.ref a)):
  dt G F (σ.set i (U v)) (ρ.set i s) H0 H where
 sub:=R.sub
 g0:=R.g0
 keep:=R.keep
 fr:=R.fr
 am:=R.am
 len:=by rw[dJ,dJ,R.len]
 sl:=λj t e=>by
  rw[cc]at e;by_cases h:i=j
  .subst h;rw[ak Z]at e;split at e
   .rename_i hi;cases e;rw[Mq (by rw[R.len];exact hi),ak Z];exact hs
   .cases e
  .rw[aq h]at e;have A:=R.sl j t e;rw[cc,aq h];exact A
 ap:=λj k t u a hjk q f p tk b vk=>by
  have ri:∀{m:Nat} {x:Sl},(ρ.set i s)[m]?=U x->m≠i->ρ[m]?=U x/\((σ.set i (U v))[m]?).join=(σ[m]?).join:=λ{m x} e hm=>by rw[cc,aq (λz=>hm z.symm)]at e;exact⟨e,by rw[cc,aq (λz=>hm z.symm)]⟩
  have self:∀{x:Sl},(ρ.set i s)[i]?=U x->x=s/\((σ.set i (U v))[i]?).join=U v:=λ{x} e=>by
   rw[cc,ak Z]at e;split at e
   .rename_i hi;cases e;exact⟨Z,by rw[Mq (by rw[R.len];exact hi),ak Z]⟩
   .cases e
  by_cases o:j=i
  .subst o;obtain⟨rfl,l⟩:=self q;rw[l]at b;cases b;obtain⟨c,d⟩:=ri f (λz=>hjk z.symm);rw[d]at vk;exact ap p a Z k u (λz=>hjk z.symm) c tk vk
  .obtain⟨c,d⟩:=ri q o;by_cases r:k=i
   .subst r;obtain⟨rfl,l⟩:=self f;rw[l]at vk;cases vk;rw[d]at b;exact ap tk a Z j t o c p b
   .obtain⟨w,y⟩:=ri f r;rw[d]at b;rw[y]at vk;exact R.ap j k t u a hjk c w p tk b vk
set_option tactic.hygienic false
def dt.setIm(R:dt G F σ ρ H0 H)(i:Nat){v:V}{d:D}(h:en G H0 d v):dt G F (σ.set i (U v)) (ρ.set i (.I d)) H0 H:=R.set ⟨v,Z,h⟩ λz=>by cases z
theorem dt.setLs(R:dt G F σ ρ H0 H)(i:Nat){p:Addr}{b:bz}{c:aN}(o:H p=U (.cf b))(l:H0 p=O)(m:F.B p=O)(d:pw σ ρ p)(h:di G H0 c b):dt G F (σ.set i (U (.ref p))) (ρ.set i (.ls c)) H0 H:=
 R.set ⟨p,b,Z,o,l,m,h⟩ λv a e j t v f q=>by cases e;exact d j t f q
def dt.mut(R:dt G F σ ρ H0 H){i:Nat}{a:Addr}{s s':Sl}{o:HO}(hi:ρ[i]?=U s)(so:s.i1=γ)(ha:(σ[i]?).join=U (.ref a))(ok:∀H',H' a=U o->JG G F H0 H' (U (.ref a)) s')
  (I:s'.i1=γ):dt G F σ (ρ.set i s') H0 (e7 H a o):=by
 obtain⟨N,u,c,P,d,f⟩:=(R.sl i s hi).at so;rw[ha]at c;cases c;exact {
  sub:=λb w e=>by rw[uC (λz=>by rw[z,d]at e;cases e)];exact R.sub _ _ e
  g0:=R.g0
  keep:=λb w e n=>by
   have B:b≠a:=λz=>by
    subst z;rcases f with q|q
    .rw[q]at e;cases e
    .exact n q
   rw[uC B];exact R.keep b w e n
  fr:=R.fr
  am:=λb hb=>by
   by_cases z:b=a
   .subst z;exact⟨o,uu⟩
   .rw[uC z];exact R.am b hb
  len:=by rw[dJ];exact R.len
  sl:=λj t e=>by
   rw[cc]at e;by_cases h:i=j
   .subst h;rw[ak Z]at e;split at e
    .cases e;rw[ha];exact ok _ uu
    .cases e
   .rw[aq h]at e;refine(R.sl j t e).gf (uw.refl _) (λb w z to q=>?_) λb w v v v q=>q;rw[uC (λy=>by subst y;exact R.ap j i t s b (λy=>h y.symm) e hi to so z ha)];exact q
  ap:=λj k t u b hjk l p J tk M vk=>by
   have ri:∀{m:Nat} {x:Sl},(ρ.set i s')[m]?=U x->∃y,ρ[m]?=U y/\(x.i1=γ->y.i1=γ):=λ{m x} e=>by
    rw[cc]at e;by_cases h:i=m
    .subst h;exact⟨s,hi,λv=>so⟩
    .rw[aq h]at e;exact⟨x,e,λq=>q⟩
   obtain⟨y,r,C⟩:=ri l;obtain⟨z,A,E⟩:=ri p;exact R.ap j k y z b hjk r A (C J) (E tk) M vk }
end
abbrev FE:=aM->Option (D×aM)
abbrev FT:=aM->Option (Bool×aM)
abbrev FA:=aM->Option (aN×aM)
inductive ItF(G:Bg) (f:FE) (σ:St) (H:Hp) (Q:VK):Prop
 |i (F ρ H0 d ρ') (h0:dt G F σ ρ H0 H) (h1:f ρ=U (d,ρ')) (h2:∀v H0' H',uw H0 H0'->dt G F σ ρ' H0' H'->en G H0' d v->Q v H'):ItF G f σ H Q
def tF(G:Bg)(f:FE):TE:=λa H Q=>ItF G f a H Q
inductive ItFT(G:Bg) (f:FT) (σ:St) (H:Hp) (Q:(Bool->Hp->Prop)):Prop
 |i (F ρ H0 d ρ') (h0:dt G F σ ρ H0 H) (h1:f ρ=U (d,ρ')) (h2:∀H0' H',uw H0 H0'->dt G F σ ρ' H0' H'->Q d H'):ItFT G f σ H Q
def nj(G:Bg)(f:FT):TT:=λa H Q=>ItFT G f a H Q
inductive ItFA(G:Bg) (f:FA) (σ:St) (H:Hp) (Q:(bz->Hp->Prop)):Prop
 |i (F ρ H0 ds ρ') (h0:dt G F σ ρ H0 H) (h1:f ρ=U (ds,ρ')) (h2:∀xs H0' H',uw H0 H0'->dt G F σ ρ' H0' H'->di G H0' ds xs->Q xs H'):ItFA G f σ H Q
def rm(G:Bg)(f:FA):TA:=λa H Q=>ItFA G f a H Q
inductive ItFN(G:Bg) (f:FA) (σ:St) (H:Hp) (Q:VK):Prop
 |i (F ρ H0 ds ρ') (h0:dt G F σ ρ H0 H) (h1:f ρ=U (ds,ρ')) (h2:∀p xs H0' H',uw H0 H0'->dt G F σ ρ' H0' H'->H' p=U (.cf xs)->H0' p=O->F.B p=O->pw σ ρ' p->di G H0' ds xs->Q (.ref p) H'):ItFN G f σ H Q
def D0(G:Bg)(f:FA):TE:=λa H Q=>ItFN G f a H Q
def PE.ea(h:PE X e t)(w:∀b H Q,d b H Q->t b H Q):PE X e d:=λa s b H Q I c=>h a s b H Q I (w _ _ _ c)
def PT.ea(h:PT X e t)(w:∀b H Q,d b H Q->t b H Q):PT X e d:=λa s b H Q I c=>h a s b H Q I (w _ _ _ c)
def PW.ea(h:PW X e t)(w:∀b H Q,d b H Q->t b H Q):PW X e d:=λf a s b H Q I c=>h f a s b H Q I (w _ _ _ c)
def PA.ea(h:PA X e t)(w:∀b H Q,d b H Q->t b H Q):PA X e d:=λpos a s b H Q I c=>h pos a s b H Q I (w _ _ _ c)
noncomputable def cC(d:D):FE:=λa=>U (d,a)
noncomputable def cV(i:Nat):FE:=λa=>match a[i]? with
 |some (.I d)=>U (d,a)
 |_=>O
noncomputable def c1(g:D->Option D) (f:FE):FE:=λb=>match f b with
 |some (d,a)=>match g d with
  |some x=>U (x,a)
  |none=>O
 |none=>O
noncomputable def c2(g:D->D->Option D) (f c:FE):FE:=λd=>match f d with
 |some (x,a)=>match c a with
  |some (y,b)=>match g x y with
   |some z=>U (z,b)
   |none=>O
  |none=>O
 |none=>O
def Eu(h:c1 g f c=U (z,b)):∃d,f c=U (d,b)/\g d=U z:=by
 unfold c1 at h;cases e:f c with
 |none=>rw[e]at h;cases h
 |some p=>
  obtain⟨d,i⟩:=p;rw[e]at h;cases a:g d with
  |none=>simp only[a]at h;cases h
  |some x=>simp only[a]at h;cases h;exact⟨d,Z,a⟩
def Ew(h:c2 g f i j=U (z,d)):∃x y a,f j=U (x,a)/\i a=U (y,d)/\g x y=U z:=by
 unfold c2 at h;cases e:f j with
 |none=>rw[e]at h;cases h
 |some p=>
  obtain⟨x,a⟩:=p;simp only[e]at h;cases b:i a with
  |none=>simp only[b]at h;cases h
  |some q=>
   obtain⟨y,l⟩:=q;simp only[b]at h;cases c:g x y with
   |none=>simp only[c]at h;cases h
   |some w=>simp only[c]at h;cases h;exact⟨x,y,a,Z,b,c⟩
section
variable{X:Cx}{G:Bg}
def YU{i j pos}:PE X (.Constant (.int i) j pos) (tF G (cC (.int i))):=PE.ea Nx λf H Q h=>by obtain⟨F,c,b,d,a,R,e,k⟩:=h;cases e;exact k _ _ _ (uw.refl _) R (wF i)
def acD{i j pos}:PE X (.Constant (.bool i) j pos) (tF G (cC (.Y i))):=PE.ea ab1 λf H Q h=>by obtain⟨F,c,b,d,a,R,e,k⟩:=h;cases e;exact k _ _ _ (uw.refl _) R (wV i)
def YV{i j pos}:PE X (.Constant (.str i) j pos) (tF G (cC (.str i))):=PE.ea Yd λf H Q h=>by obtain⟨F,c,b,d,a,R,e,k⟩:=h;cases e;exact k _ _ _ (uw.refl _) R (yI i)
def YW{j pos}:PE X (.Constant .none j pos) (tF G (cC .X)):=PE.ea Yc λf H Q h=>by obtain⟨F,c,b,d,a,R,e,k⟩:=h;cases e;exact k _ _ _ (uw.refl _) R Ad
set_option tactic.hygienic true
def Lj(h:cV i b=U (d,a)):b[i]?=U (.I d)/\a=b:=by
 unfold cV at h;split at h
 .rename_i e;cases h;exact⟨e,Z⟩
 .cases h
set_option tactic.hygienic false
def xF{a:Type}{o:Option (Option a)}{v:a}(h:o.join=U v):o=U (U v):=by
 cases o with
 |none=>cases h
 |some u=>cases u with
  |none=>cases h
  |some w=>cases h;rfl
def NV(h:PE X e (z7 i)):PE X e (tF G (cV i)):=PE.ea h λo H Q f=>by obtain⟨F,m,l,d,j,R,e,k⟩:=f;obtain⟨a,rfl⟩:=Lj e;obtain⟨v,b,c⟩:=R.sl i _ a;exact⟨v,xF b,k _ _ _ (uw.refl _) R c⟩
def VN(h:PE X e (tC v))(r:∀H,en G H d v):PE X e (tF G (cC d)):=PE.ea h λj H Q a=>by obtain⟨F,i,c,f,b,R,e,k⟩:=a;cases e;exact k _ _ _ (uw.refl _) R (r _)
def l4(G:Bg)(r:R2)(g:D->D->Option D):Prop:=∀x y z b H v u (Q:VK),g x y=U z->uw b H->en G b x v->en G b y u->(∀w,(∀a,uw b a->en G a z w)->Q w H)->r v u H Q
def OZ(C:l4 G r g):∀h H Q,tF G (c2 g f A) h H Q->tOp r (tF G f) (tF G A) h H Q:=λh H Q B=>by obtain⟨F,N,l,d,c,R,e,k⟩:=B;obtain⟨x,y,b,q,t,z⟩:=Ew e;refine⟨F,N,l,x,b,R,q,λv m o M p I=>⟨F,b,m,y,c,p,t,λu i a j R2 J=>?_⟩⟩;exact C x y d i a v u Q z R2.sub (en.mono j _ _ I) J λw E=>k w i a (M.t j) R2 (E _ (uw.refl _))
def acE(i:j3 X (cR j) r)(h:l4 G r g)(d:PE X a (tF G f))(e:PE X b (tF G c)):PE X (.BinOp a j b pos) (tF G (c2 g f c)):=PE.ea (Mb i d e) (OZ h)
def YX(l:j3 X (bB c) r)(j:l4 G r g)(e:PE X a (tF G f))(h:PE X b (tF G d))(i:fW c b=δ):PE X (.Compare a [c] [b] pos) (tF G (c2 g f d)):=PE.ea (Vr l e h i) (OZ j)
def acF(i:IxR X r)(h:l4 G r g)(d:PE X a (tF G f))(e:PE X b (tF G c))(j:OW b):PE X (.Subscript a b pos) (tF G (c2 g f c)):=PE.ea (Xv i d e j) (OZ h)
def cT(f:FE):FT:=λc=>match f c with
 |some (.Y b,a)=>U (b,a)
 |_=>O
set_option tactic.hygienic true
def O0(h:cT f c=U (b,a)):f c=U (.Y b,a):=by
 unfold cT at h;split at h
 .rename_i e;cases h;exact e
 .cases h
set_option tactic.hygienic false
def O1:∀b H Q,nj G (cT f) b H Q->RK (tF G f) b H Q:=λb H Q j=>by obtain⟨F,l,c,d,a,R,e,k⟩:=j;refine⟨F,l,c,_,a,R,O0 e,λv h m s i r=>?_⟩;exact⟨d,r,k _ _ s i⟩
def VO(u:j3 X (bB h) r)(t:l4 G r g)(m:PE X a (tF G f))(o:PE X b (tF G l))(q:fW h b=δ):
  PT X (.Compare a [h] [b] pos) (nj G (cT (c2 g f l))):=PT.ea (Vs u m o q) λi H Q p=>by
 obtain⟨F,w,j,d,c,R,e,k⟩:=O1 i H Q p;exact OZ t i H _ ⟨F,w,j,d,c,R,e,k⟩
def VP(h:PE X e (tF G f))(j:∀whole,isTrue e X.cb whole=(do let v<-whole;standAt e.pos;holding [v] (truthy v)):=by intro _;rfl):PT X e (nj G (cT f)):=PT.ea (Ye h j) λp H Q l=>by obtain⟨F,m,b,d,a,R,e,k⟩:=l;refine⟨F,m,b,_,a,R,O0 e,λv c o s i r=>?_⟩;exact⟨d,r,k _ _ s i⟩
def vN(f:FT):FT:=λc=>match f c with
 |some (b,a)=>U (!b,a)
 |none=>O
def BV(f g:FT):FT:=λb=>match f b with
 |some (γ,a)=>g a
 |r=>r
def w9(f g:FT):FT:=λb=>match f b with
 |some (δ,a)=>g a
 |r=>r
def VQ(h:PT X a (nj G f)):PT X (.UnaryOp .Not a pos) (nj G (vN f)):=PT.ea (Yh h) λu H Q o=>by
 obtain⟨F,i,j,d,q,R,e,k⟩:=o;unfold vN at e;cases c:f i with
 |none=>simp only[c]at e;cases e
 |some p=>obtain⟨b,r⟩:=p;simp only[c]at e;cases e;exact⟨F,i,j,b,_,R,c,λl t s m=>k _ _ s m⟩
def YY:∀m H Q,nj G (BV f g) m H Q->tAnd (nj G f) (nj G g) m H Q:=λm H Q t=>by
 obtain⟨F,j,o,d,l,R,e,k⟩:=t;unfold BV at e;cases c:f j with
 |none=>simp only[c]at e;cases e
 |some p=>
  obtain⟨b,h⟩:=p;cases b with
  |true=>simp only[c]at e;exact⟨F,j,o,γ,h,R,c,λa q s i=>Ia ⟨F,h,a,d,l,i,e,λw r u R2=>k _ _ (s.t u) R2⟩⟩
  |false=>simp only[c]at e;cases e;exact⟨F,j,o,δ,_,R,c,λa q s i=>HZ (k _ _ s i)⟩
def acG:∀m H Q,nj G (w9 f g) m H Q->tOr (nj G f) (nj G g) m H Q:=λm H Q t=>by
 obtain⟨F,j,o,d,l,R,e,k⟩:=t;unfold w9 at e;cases c:f j with
 |none=>simp only[c]at e;cases e
 |some p=>
  obtain⟨b,h⟩:=p;cases b with
  |false=>simp only[c]at e;exact⟨F,j,o,δ,h,R,c,λa q s i=>HZ ⟨F,h,a,d,l,i,e,λw r u R2=>k _ _ (s.t u) R2⟩⟩
  |true=>simp only[c]at e;cases e;exact⟨F,j,o,γ,_,R,c,λa q s i=>Ia (k _ _ s i)⟩
def Sh(h:PT X a (nj G f)):PW X (.BoolOp .And [a] pos) (nj G f):=Vk h
def VR(h:PT X a (nj G f)):PW X (.BoolOp .Or [a] pos) (nj G f):=Yf h
def VS{fc:List Expr}(c:PT X a (nj G f))(d:PW X (.BoolOp .And (b::fc) pos) (nj G g)):PW X (.BoolOp .And (a::b::fc) pos) (nj G (BV f g)):=PW.ea (Yg c d) YY
def Si{fc:List Expr}(c:PT X a (nj G f))(d:PW X (.BoolOp .Or (b::fc) pos) (nj G g)):PW X (.BoolOp .Or (a::b::fc) pos) (nj G (w9 f g)):=PW.ea (ab3 c d) acG
def vw(f g:FE):FE:=λb=>match f b with
 |some (.Y γ,a)=>g a
 |some (.Y δ,a)=>U (.Y δ,a)
 |_=>O
def Y?(f g:FE):FE:=λb=>match f b with
 |some (.Y δ,a)=>g a
 |some (.Y γ,a)=>U (.Y γ,a)
 |_=>O
def Ex(f:FE):FE:=λc=>match f c with
 |some (.Y b,a)=>U (.Y !b,a)
 |_=>O
def A?(c:FT)(f g:FE):FE:=λb=>match c b with
 |some (γ,a)=>f a
 |some (δ,a)=>g a
 |none=>O
def YZ{b}(h:PE X a (tF G f)):PE X (.BoolOp b [a] pos) (tF G f):=Yi h
def Ms{f:FE}{ρ:aM}:(∃a,f ρ=U (.Y γ,a))\/(∃a,f ρ=U (.Y δ,a))\/(∀b a,f ρ≠U (.Y b,a)):=by
 by_cases c:∃a,f ρ=U (.Y γ,a)
 .exact .inl c
 by_cases d:∃a,f ρ=U (.Y δ,a)
 .exact .inr (.inl d)
 refine .inr (.inr λb a z=>?_);cases b with
 |true=>exact c ⟨a,z⟩
 |false=>exact d ⟨a,z⟩
set_option tactic.hygienic true
def QC(h:∀b a,f ρ≠U (.Y b,a)):vw f g ρ=O:=by
 unfold vw;split
 .rename_i e;exact ar e (h _ _)
 .rename_i e;exact ar e (h _ _)
 .rfl
def Sj(h:∀b a,f ρ≠U (.Y b,a)):Y? f g ρ=O:=by
 unfold Y?;split
 .rename_i e;exact ar e (h _ _)
 .rename_i e;exact ar e (h _ _)
 .rfl
set_option tactic.hygienic false
def Y0{fc:List Expr}(u:PE X a (tF G f))(w:PE X (.BoolOp .And (b::fc) pos) (tF G g)):PE X (.BoolOp .And (a::b::fc) pos) (tF G (vw f g)):=PE.ea (Yj u w) λC H Q x=>by
 obtain⟨F,i,p,d,o,R,e,k⟩:=x;rcases Ms (f:=f) (ρ:=i)with ⟨h,c⟩|⟨h,c⟩|c
 .have m:=by unfold vw at e;simp only[c]at e;exact e
  refine⟨F,i,p,_,h,R,c,λv q j s l r=>?_⟩;refine⟨γ,r,?_⟩;exact Ia ⟨F,h,q,d,o,l,m,λv B t A R2 z=>k _ _ _ (s.t A) R2 z⟩
 .have m:=by unfold vw at e;simp only[c]at e;exact e
  cases m;refine⟨F,i,p,_,_,R,c,λv q j s l r=>?_⟩;have y:=r;refine⟨δ,y,?_⟩;exact HZ (k _ _ _ s l (wV δ))
 .rw[QC c]at e;cases e
def acH{fc:List Expr}(u:PE X a (tF G f))(w:PE X (.BoolOp .Or (b::fc) pos) (tF G g)):PE X (.BoolOp .Or (a::b::fc) pos) (tF G (Y? f g)):=PE.ea (ab6 u w) λB H Q x=>by
 obtain⟨F,i,p,d,o,R,e,k⟩:=x;rcases Ms (f:=f) (ρ:=i)with ⟨h,c⟩|⟨h,c⟩|c
 .have m:=by unfold Y? at e;simp only[c]at e;exact e
  cases m;refine⟨F,i,p,_,_,R,c,λv q j s l r=>?_⟩;refine⟨γ,r,?_⟩;exact Ia (k _ _ _ s l (wV γ))
 .have m:=by unfold Y? at e;simp only[c]at e;exact e
  refine⟨F,i,p,_,h,R,c,λv q j s l r=>?_⟩;refine⟨δ,r,?_⟩;exact HZ ⟨F,h,q,d,o,l,m,λv A t z R2 y=>k _ _ _ (s.t z) R2 y⟩
 .rw[Sj c]at e;cases e
set_option tactic.hygienic true
def Y1(l:PE X a (tF G f)):PE X (.UnaryOp .Not a pos) (tF G (Ex f)):=PE.ea (Ny l) λu H Q m=>by
 obtain⟨F,o,c,d,p,R,e,k⟩:=m;unfold Ex at e;split at e
 .rename_i b q j;cases e;refine⟨F,o,c,_,_,R,j,λv t h s i r=>?_⟩;exact⟨b,r,k _ _ _ s i (wV _)⟩
 .cases e
set_option tactic.hygienic false
def acI(B:PT X c (nj G h))(z:PE X a (tF G f))(A:PE X b (tF G g)):PE X (.IfExp c a b pos) (tF G (A? h f g)):=PE.ea (Ry B z A) λE H Q C=>by
 obtain⟨F,u,w,d,j,R,e,k⟩:=C;unfold A? at e;cases l:h u with
 |none=>simp only[l]at e;cases e
 |some p=>
  obtain⟨b,i⟩:=p;refine⟨F,u,w,b,i,R,l,λr x s t=>?_⟩;cases b with
  |true=>simp only[l]at e;exact Ia ⟨F,i,r,d,j,t,e,λv y m q R2 o=>k _ _ _ (s.t q) R2 o⟩
  |false=>simp only[l]at e;exact HZ ⟨F,i,r,d,j,t,e,λv y m q R2 o=>k _ _ _ (s.t q) R2 o⟩
noncomputable def uN:FA:=λa=>U ([],a)
noncomputable def bt(f:FE) (g:FA):FA:=λe=>match f e with
 |some (d,a)=>match g a with
  |some (c,b)=>U (d::c,b)
  |none=>O
 |none=>O
def NW(h:bt f g i=U (j,c)):∃d r a,f i=U (d,a)/\g a=U (r,c)/\j=d::r:=by
 unfold bt at h;cases e:f i with
 |none=>rw[e]at h;cases h
 |some p=>
  obtain⟨x,a⟩:=p;simp only[e]at h;cases b:g a with
  |none=>simp only[b]at h;cases h
  |some q=>obtain⟨y,l⟩:=q;simp only[b]at h;cases h;exact⟨x,y,a,Z,b,Z⟩
def xN:PA X [] (rm G uN):=PA.ea xB λh H Q a=>by obtain⟨F,f,c,d,b,R,e,k⟩:=a;cases e;exact k _ _ _ (uw.refl _) R uU
def vY(t:PE X e (tF G f))(w:PA X b (rm G g))(y:ay (e::b) X.cb=(δ,eval e X.cb)::ay b X.cb:=by rfl):PA X (e::b) (rm G (bt f g)):=PA.ea (vq t w y) λE H Q u=>by obtain⟨F,A,i,d,c,R,e,k⟩:=u;obtain⟨x,r,a,p,q,rfl⟩:=NW e;exact⟨F,A,i,x,a,R,p,λv j l s o z=>⟨F,a,j,r,c,o,q,λC B m h R2 rs=>k _ _ _ (s.t h) R2 (uR (en.mono h _ _ z) rs)⟩⟩
def uS(g:FA):FE:=λc=>match g c with
 |some (b,a)=>if b.length<=1000 then U (.ef b,a)else O
 |none=>O
def uM(g:FA):FA:=λc=>match g c with
 |some (b,a)=>if b.length<=1000 then U (b,a)else O
 |none=>O
set_option tactic.hygienic true
def Y2{q}(h:PA X l (rm G g)):PE X (.Tuple l q pos) (tF G (uS g)):=PE.ea (RQ h) λy H Q m=>by
 obtain⟨F,f,i,d,r,R,e,k⟩:=m;unfold uS at e;cases b:g f with
 |none=>simp only[b]at e;cases e
 |some p=>
  obtain⟨w,t⟩:=p;simp only[b]at e;split at e
  .rename_i o;cases e;refine⟨F,f,i,_,_,R,b,λx u j s a rs=>⟨by rw[<-uk rs];exact w6 o,λp c=>?_⟩⟩;exact k _ _ _ (s.t (uH (a.fx c) _)) (a.L0 c _) (Et (gk.of uu) (di.mono (uH (a.fx c) _) _ _ rs))
  .cases e
def VT(h:PA X l (rm G g)):PE X (.List l pos) (D0 G (uM g)):=PE.ea (K6 h) λx H Q m=>by
 obtain⟨F,f,i,d,q,R,e,k⟩:=m;unfold uM at e;cases c:g f with
 |none=>simp only[c]at e;cases e
 |some p=>
  obtain⟨u,r⟩:=p;simp only[c]at e;split at e
  .rename_i o;cases e;refine⟨F,f,i,_,_,R,c,λw t j s a rs=>⟨by rw[<-uk rs];exact w6 o,λp b=>?_⟩⟩;exact k _ _ _ _ s (a.jj b _) uu (a.fx b) (a.iE b) (a.apart b) rs
  .cases e
set_option tactic.hygienic false
def cL(g:FA):FE:=λc=>match g c with
 |some (b,a)=>U (.cf b,a)
 |none=>O
def VU(h:cL g c=U (d,b)):∃a,g c=U (a,b)/\d=.cf a:=by
 unfold cL at h;cases e:g c with
 |none=>simp only[e]at h;cases h
 |some p=>obtain⟨a,f⟩:=p;simp only[e]at h;cases h;exact⟨a,Z,Z⟩
def tN_F:∀c H Q,tF G (cL g) c H Q->D0 G g c H Q:=λc H Q q=>by obtain⟨F,t,f,d,b,R,e,k⟩:=q;obtain⟨l,m,rfl⟩:=VU e;refine⟨F,t,f,l,b,R,m,λp w u h s i r a o j rs=>?_⟩;exact k _ _ _ (s.t (uH a _)) (i.q? r a o j) (Ac uu (di.mono (uH a _) _ _ rs))
def Y3(h:PE X e (D0 G g)):PE X e (tF G (cL g)):=PE.ea h tN_F
end
inductive H4 where
 |nx (ρ:aM)|bk (ρ:aM)|ct (ρ:aM)
 |rt (d:D) (ρ:aM)
 |rn (ds:aN) (ρ:aM)
abbrev FS:=aM->Option H4
def O2(G:Bg)(F:Fr)(f:Hp)(E:t?):H4->Prop
 |.nx c=>∀b a e,uw f a->dt G F b c a e->E.nx b e
 |.bk c=>∀b a e,uw f a->dt G F b c a e->E.bk b e
 |.ct c=>∀b a e,uw f a->dt G F b c a e->E.ct b e
 |.rt d c=>∀v b a e,uw f a->dt G F b c a e->en G a d v->E.rt v e
 |.rn i c=>∀p h b a e,uw f a->dt G F b c a e->e p=U (.cf h)->a p=O->F.B p=O->pw b c p->di G a i h->E.rt (.ref p) e
inductive ItFS(G:Bg) (f:FS) (E:t?) (σ:St) (H:Hp):Prop
 |i (F ρ H0 o) (h0:dt G F σ ρ H0 H) (h1:f ρ=U o) (h2:O2 G F H0 E o) (h3:(∀p,E.rt p=E.rt p)):ItFS G f E σ H
def lb(G:Bg)(f:FS):TS:=λE a H=>ItFS G f E a H
def O2.r?(h:O2 G F i E o)(s:uw i j):O2 G F j E o:=by
 cases o with
 |nx f=>exact λb a c e R=>h b a c (s.t e) R
 |bk f=>exact λb a c e R=>h b a c (s.t e) R
 |ct f=>exact λb a c e R=>h b a c (s.t e) R
 |rt d f=>exact λv b a c e R=>h v b a c (s.t e) R
 |rn m f=>exact λp l b a c e R=>h p l b a c (s.t e) R
def PS.ea(h:PS X e t)(w:∀E b H,d E b H->t E b H):PS X e d:=λa s b H D I c=>h a s b H D I (w _ _ _ c)
def lr.ea(h:lr X e t)(w:∀E b H,d E b H->t E b H):lr X e d:=λa s b H D I c=>h a s b H D I (w _ _ _ c)
def uz:FS:=λa=>U (.nx a)
noncomputable def bx(f g:FS):FS:=λb=>match f b with
 |some (.nx a)=>g a
 |r=>r
section
variable{X:Cx}{G:Bg}
def Sk(h:lb G uz E a H):E.nx a H:=by obtain⟨F,c,b,o,R,e,k,_⟩:=h;cases e;exact k _ _ _ (uw.refl _) R
def VV:lr X [] (lb G uz):=lr.ea OK λE a H h=>Sk h
def Sm{st:Stmt}{fc:List Stmt}(p:PS X st (lb G f))(q:lr X fc (lb G g)):lr X (st::fc) (lb G (bx f g)):=lr.ea (Ce p q) λE w H h=>by
 obtain⟨F,i,j,o,R,e,k,c⟩:=h;unfold bx at e;cases a:f i with
 |none=>simp only[a]at e;cases e
 |some r=>
  cases r with
  |nx b=>simp only[a]at e;exact⟨F,i,j,_,R,a,λt l u s m=>⟨F,b,l,o,m,e,k.r? s,c⟩,c⟩
  |bk b=>simp only[a]at e;cases e;exact⟨F,i,j,_,R,a,k,c⟩
  |ct b=>simp only[a]at e;cases e;exact⟨F,i,j,_,R,a,k,c⟩
  |rt d b=>simp only[a]at e;cases e;exact⟨F,i,j,_,R,a,k,c⟩
  |rn d b=>simp only[a]at e;cases e;exact⟨F,i,j,_,R,a,k,c⟩
def VW{st:Stmt}(a:PS X st (lb G f)):lr X [st] (lb G f):=Ej a
noncomputable def uq(f:FE):FS:=λb=>match f b with
 |some (d,a)=>U (.rt d a)
 |none=>O
noncomputable def vI(f:FA):FS:=λb=>match f b with
 |some (d,a)=>U (.rn d a)
 |none=>O
def uI{b:Type}{f:aM->Option (b×aM)}{ρ:aM}:f ρ=O\/∃d a,f ρ=U (d,a):=by
 cases e:f ρ with
 |none=>exact .inl Z
 |some p=>exact .inr ⟨p.1,p.2,Z⟩
def VX(h:PE X e (tF G f)):PS X (.Return (U e) pos) (lb G (uq f)):=PS.ea (NA h) λE t H m=>by
 obtain⟨F,b,i,o,R,e,k,q⟩:=m;unfold uq at e;rcases uI (f:=f) (ρ:=b)with a|⟨d,c,a⟩<;>simp only[a]at e
 .cases e
 .cases e;exact⟨F,b,i,d,c,R,a,λv j p s l r=>k _ _ _ _ s l r⟩
def Sn(h:PE X e (D0 G f)):PS X (.Return (U e) pos) (lb G (vI f)):=PS.ea (NA h) λE A H w=>by
 obtain⟨F,b,i,o,R,e,k,y⟩:=w;unfold vI at e;rcases uI (f:=f) (ρ:=b)with a|⟨d,c,a⟩<;>simp only[a]at e
 .cases e
 .cases e;exact⟨F,b,i,d,c,R,a,λp z j x s l m q r t u=>k _ _ _ _ _ s l m q r t u⟩
noncomputable def uT(f:FE):FS:=λb=>match f b with
 |some (_,a)=>U (.nx a)
 |none=>O
def So{pos:Pos}(h:PE X e (tF G f))(p:cw e O pos.line X.cb=pure δ:=by rfl):PS X (.Expr e pos) (lb G (uT f)):=PS.ea (K2 h p) λE u H m=>by
 obtain⟨F,b,i,o,R,e,k,t⟩:=m;unfold uT at e;rcases uI (f:=f) (ρ:=b)with a|⟨d,c,a⟩<;>simp only[a]at e
 .cases e
 .cases e;exact⟨F,b,i,d,c,R,a,λv j q s l r=>k _ _ _ s l⟩
noncomputable def ff(c:FT) (f g:FS):FS:=λb=>match c b with
 |some (γ,a)=>f a
 |some (δ,a)=>g a
 |none=>O
def Y4(w:PT X c (nj G h))(t:lr X a (lb G f))(u:lr X b (lb G g)):PS X (.If c a b pos) (lb G (ff h f g)):=PS.ea (Xq w t u) λE z H x=>by
 obtain⟨F,m,r,o,R,e,k,q⟩:=x;unfold ff at e;rcases uI (f:=h) (ρ:=m)with l|⟨d,i,l⟩
 .simp only[l]at e;cases e
 .refine⟨F,m,r,d,i,R,l,λj y s p=>?_⟩;cases d with
  |true=>simp only[l]at e;exact Ia ⟨F,i,j,o,p,e,k.r? s,q⟩
  |false=>simp only[l]at e;exact HZ ⟨F,i,j,o,p,e,k.r? s,q⟩
abbrev FG:=D->aM->Option aM
inductive ItFG(G:Bg) (n:Nat) (g:FG) (v:V) (σ:St) (H:Hp) (Q:(St->Hp->Prop)):Prop
 |i (F ρ H0 d ρ') (h0:dt G F σ ρ H0 H) (h1:en G H0 d v) (h2:g d ρ=U ρ') (h3:∀σ',σ'.drop n=σ.drop n->dt G F σ' ρ' H0 H->Q σ' H):ItFG G n g v σ H Q
def tFG(G:Bg)(n:Nat)(g:FG):TG:=λv a H Q=>ItFG G n g v a H Q
inductive XD(G:Bg) (n:Nat) (g:aN->aM->Option aM) (vs:bz) (σ:St) (H:Hp) (Q:(St->Hp->Prop)):Prop
 |i (F ρ H0 ds ρ') (h0:dt G F σ ρ H0 H) (h1:di G H0 ds vs) (h2:g ds ρ=U ρ') (h3:∀σ',σ'.drop n=σ.drop n->dt G F σ' ρ' H0 H->Q σ' H):XD G n g vs σ H Q
def QD(G:Bg)(n:Nat)(g:aN->aM->Option aM):TGs:=λa b H Q=>XD G n g a b H Q
def PG.ea(h:PG X e t)(w:∀v b H Q,d v b H Q->t v b H Q):PG X e d:=λa s b H x u Q I r c=>h a s b H x u Q I r (w _ _ _ _ c)
def X?.ea(h:X? X e t)(w:∀v b H Q,d v b H Q->t v b H Q):X? X e d:=λa s b H x u Q I r c=>h a s b H x u Q I r (w _ _ _ _ c)
def gN(i:Nat):FG:=λd a=>U (a.set i (.I d))
def Mu{a:Type}{l:List a}{i n:Nat}{x:a}(h:i<n):(l.set i x).drop n=l.drop n:=by apply lp;intro j;rw[eZ,eZ,cc,aq (by omega)]
def Sq(n:Nat)(h:PG X c (Aa i))(b:i<n):PG X c (tFG G n (gN i)):=PG.ea h λv m H Q a=>by obtain⟨F,l,j,d,f,R,r,e,k⟩:=a;cases e;exact k _ (Mu b) (R.setIm i r)
def Kb:aN->aM->Option aM:=λa b=>match a with
 |[]=>U b
 |_=>O
def xD(g:FG)(c:aN->aM->Option aM):aN->aM->Option aM:=λb e=>match b with
 |d::r=>match g d e with
  |some a=>c r a
  |none=>O
 |[]=>O
def VY(h:X? X [] gNil):X? X [] (QD G n Kb):=X?.ea h λv j H Q b=>by
 obtain⟨F,i,f,a,c,R,r,e,k⟩:=b;cases a with
 |nil=>cases e;unfold di at r;exact⟨r,k _ Z R⟩
 |cons d a=>cases e
def Sr(h:X? X (e::p) (Xr (tFG G n g) (QD G n q))):X? X (e::p) (QD G n (xD g q)):=X?.ea h λv B H Q t=>by
 obtain⟨F,l,j,c,i,R,r,e,k⟩:=t;cases c with
 |nil=>cases e
 |cons d c=>
  obtain⟨z,x,rfl,u,w⟩:=r;unfold xD at e;cases f:g d l with
  |none=>simp only[f]at e;cases e
  |some a=>simp only[f]at e;exact⟨z,x,Z,F,l,j,d,a,R,u,f,λA s o=>⟨F,a,j,c,i,o,w,e,λm y b=>k _ (y.t s) b⟩⟩
def gT(b:aN->aM->Option aM)(n:Nat):FG:=λd c=>match d with
 |.ef a=>if a.length=n then b a c else O
 |_=>O
set_option tactic.hygienic true
def VZ(h:PG X (.Tuple j k pos) (Yk G.K m (QD G n l))):PG X (.Tuple j k pos) (tFG G n (gT l m)):=PG.ea h λv w H Q p=>by
 obtain⟨F,u,f,d,b,R,r,e,k⟩:=p;cases d with
 |ef i=>
  unfold gT at e;simp only at e;split at e
  .rename_i q;obtain⟨a,t,rfl,o,c⟩:=r;exact⟨a,t,Z,gk.mono R.sub o,by rw[<-uk c];exact q,F,u,f,i,b,R,c,e,k⟩
  .cases e
 |_=>cases e
set_option tactic.hygienic false
def Lk(f:FE)(g:FG):FS:=λc=>match f c with
 |some (d,a)=>match g d a with
  |some b=>U (.nx b)
  |none=>O
 |none=>O
def V0{st:Stmt}(h:PS X st (DT (tF G f) (tFG G n g))):PS X st (lb G (Lk f g)):=PS.ea h λE x H q=>by
 obtain⟨F,j,m,o,R,e,k,w⟩:=q;unfold Lk at e;rcases uI (f:=f) (ρ:=j)with c|⟨d,a,c⟩<;>simp only[c]at e
 .cases e
 .cases i:g d a with
  |none=>simp only[i]at e;cases e
  |some l=>simp only[i]at e;cases e;exact⟨F,j,m,d,a,R,c,λv b u s p r=>⟨F,a,b,d,l,p,r,i,λt _ R2=>k _ _ _ s R2⟩⟩
def uJ(i:Nat)(f:FE):FS:=λb=>match f b with
 |some (d,a)=>U (.nx (a.set i (.I d)))
 |none=>O
def O3{st:Stmt}(h:PS X st (DT (tF G f) (Aa i))):PS X st (lb G (uJ i f)):=PS.ea h λE u H p=>by
 obtain⟨F,b,j,o,R,e,k,t⟩:=p;unfold uJ at e;rcases uI (f:=f) (ρ:=b)with a|⟨d,c,a⟩<;>simp only[a]at e
 .cases e
 .cases e;exact⟨F,b,j,d,c,R,a,λv l q s m r=>k _ _ _ s (m.setIm i r)⟩
def wW(i:Nat)(f:FA):FS:=λb=>match f b with
 |some (d,a)=>U (.nx (a.set i (.ls d)))
 |none=>O
def Mx{st:Stmt}(h:PS X st (DT (D0 G f) (Aa i))):PS X st (lb G (wW i f)):=PS.ea h λE B H x=>by
 obtain⟨F,b,j,o,R,e,k,z⟩:=x;unfold wW at e;rcases uI (f:=f) (ρ:=b)with a|⟨d,c,a⟩<;>simp only[a]at e
 .cases e
 .cases e;exact⟨F,b,j,d,c,R,a,λp A l y s m q r t u w=>k _ _ _ s (m.setLs i q r t u w)⟩
def rl(n:Nat)(a:aN):aM:=a.map Sl.I++b9 (n - a.length) .un
def e0(b n:Nat)(f:FS):aN->Option D:=λa=>if a.length=b then match f (rl n a)with
 |some (.rt d _)=>U d
 |some (.rn a _)=>U (.cf a)
 |some (.nx _)=>U .X
 |_=>O
 else O
def A'(b n:Nat)(f:FS):aN->Option aN:=λa=>if a.length=b then match f (rl n a)with
 |some (.rn a _)=>U a
 |_=>O
 else O
inductive IspF(G:Bg) (g:aN->Option D) (vs:bz) (H:Hp) (Q:VK) (_x3:XK):Prop
 |i (H0 ds d) (h0:uw H0 H) (h1:di G H0 ds vs) (h2:g ds=U d) (h3:∀v H0' H',uw H0 H0'->uw H0' H'->uw H H'->(∀b o,H0' b=U o->H0 b=U o\/H b=O)->en G H0' d v->Q v H'):IspF G g vs H Q _x3
def fi(G:Bg)(g:aN->Option D):Sp:=λa H Q _x3=>IspF G g a H Q _x3
inductive IspN(G:Bg) (g:aN->Option aN) (vs:bz) (H:Hp) (Q:VK) (_x3:XK):Prop
 |i (H0 ds d) (h0:uw H0 H) (h1:di G H0 ds vs) (h2:g ds=U d) (h3:∀p xs H0' H',uw H0 H0'->uw H0' H'->uw H H'->(∀b o,H0' b=U o->H0 b=U o\/H b=O)->H p=O->H' p=U (.cf xs)->H0' p=O->di G H0' d xs->Q (.ref p) H'):IspN G g vs H Q _x3
def u1(G:Bg)(g:aN->Option aN):Sp:=λa H Q _x3=>IspN G g a H Q _x3
def HC{n:Nat}{b:aN}{i:Nat}{s:Sl}(h:(rl n b)[i]?=U s):s=.un\/∃d,b[i]?=U d/\s=.I d:=by
 unfold rl at h;by_cases a:i<b.length
 .rw[fN (by simpa using a),bA,bg a]at h;cases h;exact .inr ⟨_,bg a,Z⟩
 .rw[fM (by simpa using a),jo]at h;split at h
  .cases h;exact .inl Z
  .cases h
def AW{N:aE}{a:bz}{i:Nat}{v:V}(h:a[i]?=U v):((L2.start N a)[i]?).join=U v:=by unfold L2.start;have b:=(bR.1 h).1;rw[fN (by simpa using b),bA,h];rfl
def De{N:aE}(s:uw H0 H)(r:di G H0 ds vs)(p:vs.length<=N.length):dt G ⟨H0,H,[]⟩ (L2.start N vs) (rl N.length ds) H0 H where
 sub:=s
 g0:=uw.refl _
 keep:=λb o e q=>e
 fr:=λb o e=>.inl e
 am:=λa h=>by cases h
 len:=by unfold L2.start rl;rw[aF,aF,ah,ah,c7,c7,uk r]
 sl:=λi t e=>by
  rcases HC e with rfl|⟨d,c,rfl⟩
  .trivial
  .obtain⟨v,f,l⟩:=yN r c;exact⟨v,AW f,l⟩
 ap:=λi j t u a q e q m=>by rcases HC e with rfl|⟨d,_,rfl⟩<;>cases m
set_option tactic.hygienic true
def My(h:e0 j n f b=U d):b.length=j/\((∃a,f (rl n b)=U (.rt d a))\/(∃c a,f (rl n b)=U (.rn c a)/\d=.cf c)\/∃a,f (rl n b)=U (.nx a)/\d=.X):=by
 unfold e0 at h;split at h
 .rename_i i;refine⟨i,?_⟩;split at h
  .rename_i e;cases h;exact .inl ⟨_,e⟩
  .rename_i e;cases h;exact .inr (.inl ⟨_,_,e,Z⟩)
  .rename_i e;cases h;exact .inr (.inr ⟨_,e,Z⟩)
  .cases h
 .cases h
def Mz(h:A' c n f a=U d):a.length=c/\∃i,f (rl n a)=U (.rn d i):=by
 unfold A' at h;split at h
 .rename_i b;refine⟨b,?_⟩;split at h
  .rename_i e;cases h;exact⟨_,e⟩
  .cases h
 .cases h
end
set_option tactic.hygienic false
def V1{N:aE}(hN:I<=N.length)(h:fi G (e0 I N.length f) M H Q E):lb G f { nx:=λn c=>Q .X c,rt:=Q } (L2.start N M) H:=by
 obtain⟨l,P,d,s,r,e,k⟩:=h;obtain⟨C,A⟩:=My e;clear e;have R:=De s r (by rw[<-uk r,C];exact hN);have fin:∀{j:St} {x:aM} {a c:Hp},dt G ⟨l,H,[]⟩ j x a c->uw H c/\uw a c/\∀b o,a b=U o->l b=U o\/H b=O:=λi=>⟨λb o e=>i.keep b o e (by simp),i.sub,i.fr⟩;rcases A with ⟨y,e⟩|⟨S,y,e,rfl⟩|⟨y,e,rfl⟩
 .refine⟨_,_,l,_,R,e,λv j a c u i J=>?_,λn=>Z⟩;obtain⟨m,q,t⟩:=fin i;exact k v a c u q m t J
 .refine⟨_,_,l,_,R,e,λp T j a c u i F w B z rs=>?_,λn=>Z⟩;have R2:=i.q? F w B z;obtain⟨m,q,t⟩:=fin R2;exact k _ _ c (u.t (uH w _)) q m t (Ac uu (di.mono (uH w _) _ _ rs))
 .refine⟨_,_,l,_,R,e,λj a c u i=>?_,λn=>Z⟩;obtain⟨m,q,t⟩:=fin i;exact k _ a c u q m t Ad
def V2{N:aE}(hN:u<=N.length)(h:u1 G (A' u N.length f) x H Q E):lb G f { nx:=λv a=>Q .X a,rt:=Q } (L2.start N x) H:=by obtain⟨j,B,d,s,r,e,k⟩:=h;obtain⟨q,C,e⟩:=Mz e;have R:=De s r (by rw[<-uk r,q];exact hN);refine⟨_,_,j,_,R,e,λp y z c a w i t l m A rs=>?_,λv=>Z⟩;exact k p y c a w i.sub (λb o e=>i.keep b o e (by simp)) i.fr m t l rs
def acO(c:∀a d,g a=U d->a.length=f):∀b H Q E,fi G g b H Q E->b.length=f:=λb H Q E h=>by obtain⟨i,a,d,_,r,e,_⟩:=h;rw[<-uk r];exact c _ _ e
def acP(c:∀a d,g a=U d->a.length=f):∀b H Q E,u1 G g b H Q E->b.length=f:=λb H Q E h=>by obtain⟨i,a,d,_,r,e,_⟩:=h;rw[<-uk r];exact c _ _ e
def V3:∀a d,e0 b n f a=U d->a.length=b:=λv v h=>(My h).1
def V4:∀a d,A' b n f a=U d->a.length=b:=λv v h=>(Mz h).1
def FI{c:Type}(g:aN->Option c)(a:FA):aM->Option (c×aM):=λf=>match a f with
 |some (e,b)=>match g e with
  |some d=>U (d,b)
  |none=>O
 |none=>O
abbrev ug(g:aN->Option D)(a:FA):FE:=FI g a
abbrev u4(g:aN->Option aN)(a:FA):FA:=FI g a
def DU{j:Type}{g:aN->Option j}{a:FA}{ρ c:aM}{d:j}(h:FI g a ρ=U (d,c)):∃b,a ρ=U (b,c)/\g b=U d:=by
 unfold FI at h;rcases uI (f:=a) (ρ:=ρ)with e|⟨b,l,e⟩<;>simp only[e]at h
 .cases h
 .cases i:g b with
  |none=>simp only[i]at h;cases h
  |some x=>simp only[i]at h;cases h;exact⟨b,e,i⟩
section
variable{X:Cx}{G:Bg}
def V5(hd:∀H,di G H dds dvs):∀h H Q,tF G (ug (λb=>g (b++dds)) a) h H Q->BS (fi G g) dvs E (rm G a) h H Q:=λh H Q t=>by obtain⟨F,y,l,d,f,R,e,k⟩:=t;obtain⟨b,q,r⟩:=DU e;refine⟨F,y,l,b,f,R,q,λz m o s i rs=>⟨m,b++dds,d,i.sub,wa rs (hd _),r,λv p c j w x fr u=>?_⟩⟩;exact k v p c (s.t j) (i.gf x j w fr) u
def V6(hd:∀H,di G H dds dvs):∀i H Q,D0 G (u4 (λc=>g (c++dds)) a) i H Q->BS (u1 G g) dvs E (rm G a) i H Q:=λi H Q x=>by obtain⟨F,I,m,d,h,R,e,k⟩:=x;obtain⟨c,t,u⟩:=DU e;refine⟨F,I,m,c,h,R,t,λJ o q s b rs=>⟨o,c++dds,d,b.sub,wa rs (hd _),u,λp C r f l A B fr j y w z=>?_⟩⟩;exact k p C r f (s.t l) (b.gf B l A fr) y w (b.iE j) (b.apart j) z
end
section
variable{X:Cx}{G:Bg}
def V7(hd:∀H,di G H dds dvs)(h:PE X e (BS (fi G g) dvs E (rm G a))):PE X e (tF G (ug (λb=>g (b++dds)) a)):=PE.ea h (V5 hd)
def Ss(hd:∀H,di G H dds dvs)(h:PE X e (BS (u1 G g) dvs E (rm G a))):PE X e (D0 G (u4 (λb=>g (b++dds)) a)):=PE.ea h (V6 hd)
def QE(h:PE X e (BS (u1 G g) [] E HR)):PE X e (D0 G (u4 g uN)):=PE.ea h λA H Q o=>by obtain⟨F,z,f,d,x,R,e,k⟩:=o;obtain⟨y,j,l⟩:=DU e;cases j;exact⟨f,[],d,R.sub,uU,l,λp w i a c t u fr b q m r=>k p w i a c (R.gf u c t fr) q m (R.iE b) (R.apart b) r⟩
def QF:aE->aN->Str->Option D
 |n::b,d::a,f=>if n=f then U d else QF b a f
 |_,_,_=>O
theorem Kc:∀{h:aE} {b:aN} {a:bz} {f:Str} {d:D},di G H b a->QF h b f=U d->∃v,(h.zip a).lookup f=U v/\en G H d v
 |[],b,a,f,d,r,e=>by simp[QF]at e
 |n::h,[],a,f,d,r,e=>by simp[QF]at e
 |n::h,p::b,a,f,d,r,e=>by
  obtain⟨v,q,rfl,l,m⟩:=r;unfold QF at e;by_cases c:n=f
  .rw[ak c]at e;cases e;subst c;exact⟨v,by simp[dP],l⟩
  .rw[aq c]at e;obtain⟨w,i,j⟩:=Kc m e;refine⟨w,?_,j⟩;have o:=beq_eq_false_iff_ne.2 λz=>c z.symm;simp only[fj,dP,o];exact i
def uo(ok:Nat->Bool)(f:Str):D->Option D
 |.obj c b a=>if ok c=γ then QF b a f else O
 |_=>O
set_option tactic.hygienic true
def Su(A:PE X e (tF G t))(j:∀c,ok c=γ->ζ X.K (G.ca c)/\AC X.K (G.ca c) f)(z:fF e f X.cb (eval e X.cb)=eval e X.cb:=by rfl):PE X (.Attribute e f pos) (tF G (c1 (uo ok f) t)):=PE.ea (YA A z) λT H Q B=>by
 obtain⟨F,I,m,d,h,R,e,k⟩:=B;obtain⟨x,q,b⟩:=Eu e;cases x with
 |obj c P M=>
  unfold uo at b;simp only at b;split at b
  .rename_i l;refine⟨F,I,m,_,h,R,q,λv J o s i r=>?_⟩;obtain⟨a,p,S,rfl,u,N,y⟩:=r;obtain⟨w,C,E⟩:=Kc y b;exact⟨a,_,p,_,w,Z,i.sub _ _ u,(j c l).1,(j c l).2,C,k _ _ _ s i E⟩
  .cases b
 |_=>cases b
set_option tactic.hygienic false
def MOk(X:Cx)(C:Addr)(m:Str)(d:Sp)(dvs:bz)(E:XK):Prop:=∃(k:Nat) (f:Addr) (b:bS) (c:aE) (a:List aa),ζ X.K C/\Meth X.K C m f/\xC X.prog X.w X.K X.mg X.b? F? k f b c d/\wt k X.A/\j4 X.K b c a/\eg dvs a/\l? F? X E
def uG(g:Nat->Option (aN->Option D))(m:Str)(f:FE)(a:FA):FE:=λo=>match f o with
 |some (.obj c i j,b)=>match g c with
  |some h=>if i.contains m=γ then O else match a b with
   |some (l,e)=>match h (.obj c i j::l)with
    |some d=>U (d,e)
    |none=>O
   |none=>O
  |none=>O
 |_=>O
set_option tactic.hygienic true
def Ik(h:uG g m f a ρ=U (d,t)):
  ∃c e i b l j,f ρ=U (.obj c e i,b)/\g c=U l/\e.contains m=δ/\a b=U (j,t)/\l (.obj c e i::j)=U d:=by
 unfold uG at h;split at h
 .rename_i c e i b u;cases o:g c with
  |none=>simp only[o]at h;cases h
  |some l=>
   simp only[o]at h;cases p:e.contains m with
   |true=>simp only[p,if_true]at h;cases h
   |false=>
    simp only[p,eE,if_false]at h;rcases uI (f:=a) (ρ:=b)with q|⟨j,w,q⟩<;>simp only[q]at h
    .cases h
    .cases r:l (.obj c e i::j)with
     |none=>simp only[r]at h;cases h
     |some x=>simp only[r]at h;cases h;exact⟨c,e,i,b,l,j,u,o,p,q,r⟩
 .cases h
set_option tactic.hygienic false
theorem DV:∀{a:aE} {b:bz},a.contains m=δ->(a.zip b).lookup m=O
 |[],b,h=>rfl
 |n::a,[],h=>rfl
 |n::a,x::b,h=>by rw[oN,kR]at h;simp only[fj,dP,h.1];exact DV h.2
def Sv(T:Addr->Sp->Prop)(hT:∀C d,T C d->MOk X C m d dvs E)(W:PE X o ta)(R:PA X (e::i) t)
  (hst:ay (e::i) X.cb=(δ,eval e X.cb)::ay i X.cb:=by rfl) (hpl:(bE pos (ay i X.cb)).any (·.1)=δ:=by rfl)
  (w:eval (.Call (.Attribute o m apos) (e::i) [] pos) X.cb=(do
   let M<-eval o X.cb
   standAt apos.atName
   let (f,first)<-holding [M] (getMethod M m pl)
   callWith pos f first (bE pos (ay (e::i) X.cb)) (backToKw pos (d6 [] X.cb))):=by rfl):
  PE X (.Call (.Attribute o m apos) (e::i) [] pos) (λj H Q=>ta j H λx p=>∃a C B fs d,x=.ref a/\p a=U (.mr C B fs)/\T C d/\fs.lookup m=O/\t j p λvs y=>d (x::(vs++dvs)) y Q E):=by
 intro b s j H Q I h;refine pL (fu (W b s j H _ I h) λu s1 zz=>?_) w;obtain⟨x,p,z,rx,a,C,B,fs,d,P,N,w,l,q⟩:=zz;obtain⟨k,f,fd,ps,ds,c,J,F,Y,S,hd,hx⟩:=hT C d w;subst P;obtain rfl:u=Value.ref a:=rx;refine HQ z N c J l ?_;refine jN I.ok.y'.kin J.kp (fu (R pos b s1 j p _ z q) λus s2 ⟨vs,y,A,r,q2⟩=>⟨A.ny,?_⟩) hst hpl;exact K7 (vs:=.ref a::vs) F Y S hd hx A (.cons Z r) q2
def QG(T:Addr->Sp->Prop)(hT:∀C b,T C b->MOk X C m b dvs E)(B:PE X o P)
  (j:eval (.Call (.Attribute o m apos) [] [] pos) X.cb=(do
   let w<-eval o X.cb
   standAt apos.atName
   let (f,first)<-holding [w] (getMethod w m pl)
   callWith pos f first (bE pos (ay [] X.cb)) (backToKw pos (d6 [] X.cb))):=by rfl):
  PE X (.Call (.Attribute o m apos) [] [] pos) (λp H Q=>P p H λx e=>∃a C r fs b,x=.ref a/\e a=U (.mr C r fs)/\T C b/\fs.lookup m=O/\b (x::dvs) e Q E):=by
 intro d s p H Q I h;refine pL (fu (B d s p H _ I h) λu Y zz=>?_) j;obtain⟨x,e,i,N,a,C,r,fs,b,z,y,j,l,q⟩:=zz;obtain⟨k,f,S,W,R,c,t,F,J,A,hd,M⟩:=hT C b j;subst z;obtain rfl:u=Value.ref a:=N;refine HQ i y c t l ?_;exact l8 i.ny t.kp (K7 (vs:=[.ref a]) F J A hd M i (.cons Z .nil) q)
def MT(G:Bg)(g:Nat->Option (aN->Option D)):Addr->Sp->Prop:=λC a=>∃c h,g c=U h/\C=G.ca c/\a=fi G h
def V8(h:PE X (.Call (.Attribute o m apos) (e::es) [] pos) (λz H Q=>tF G f z H λx j=>∃b C u fs I,x=.ref b/\j b=U (.mr C u fs)/\MT G g C I/\fs.lookup m=O/\rm G a z j λvs p=>I (x::(vs++[])) p Q E)):
  PE X (.Call (.Attribute o m apos) (e::es) [] pos) (tF G (uG g m f a)):=PE.ea h λz H Q l=>by
 obtain⟨F,ρ,M,d,y,R,e,k⟩:=l;obtain⟨c,ns,ds,i,l,w,S,T,W,Y,e5⟩:=Ik e;refine⟨F,ρ,M,_,i,R,S,λv j N s A r=>?_⟩;have r0:=r;obtain⟨b,u,xs,rfl,h1,h2,h3⟩:=r;refine⟨b,_,u,_,_,Z,A.sub _ _ h1,⟨c,l,T,Z,Z⟩,DV W,F,i,j,w,y,A,Y,λys p q B R2 rs=>?_⟩;show fi G l (V.ref b::(ys++[])) q Q E;rw[bO];exact⟨p,_,d,R2.sub,uR (en.mono B _ _ r0) rs,e5,λv P t J t2 t3 fr rv=>k v P t (s.t (B.t J)) (R2.gf t3 J t2 fr) rv⟩
def Sw(h:PE X (.Call (.Attribute o m apos) [] [] pos) (λu H Q=>tF G f u H λx a=>∃b C l fs q,x=.ref b/\a b=U (.mr C l fs)/\MT G g C q/\fs.lookup m=O/\q (x::[]) a Q E)):
  PE X (.Call (.Attribute o m apos) [] [] pos) (tF G (uG g m f uN)):=PE.ea h λu H Q p=>by
 obtain⟨F,ρ,w,d,ρ',R,e,k⟩:=p;obtain⟨c,ns,ds,ρ1,p,N,A,B,I,J,M⟩:=Ik e;cases J;refine⟨F,ρ,w,_,_,R,A,λv a y s j r=>?_⟩;have S:=r;obtain⟨b,l,xs,rfl,P,h2,h3⟩:=r;refine⟨b,_,l,_,_,Z,j.sub _ _ P,⟨c,p,B,Z,Z⟩,DV I,?_⟩;exact⟨a,_,d,j.sub,uR S uU,M,λv z i t W Y fr T=>k v z i (s.t t) (j.gf Y t W fr) T⟩
inductive IspI(G:Bg) (c:Nat) (g:aN->Option (aE×aN)) (vs:bz) (H:Hp) (Q:VK) (_x3:XK):Prop
 |i (p dx:Addr) (us:bz) (H0:Hp) (ds:aN) (ns:aE) (es:aN) (h0:vs=.ref p::us) (h1:H p=U (.mr (G.ca c) dx [])) (h2:H0 p=O) (h3:uw H0 H) (h4:di G H0 ds us) (h5:g ds=U (ns,es)) (h6:∀ys dx' H0' H',uw H0 H0'->uw H0' H'->(∀b o,H b=U o->b≠p->H' b=U o)->(∀b o,H0' b=U o->H0 b=U o\/H b=O)->H0' p=O->H' p=U (.mr (G.ca c) dx' (ns.zip ys))->ns.length=ys.length->di G H0' es ys->Q .X H'):IspI G c g vs H Q _x3
def spI(G:Bg)(c:Nat)(g:aN->Option (aE×aN)):Sp:=λa H Q _x3=>IspI G c g a H Q _x3
def uO(c:Nat)(g:aN->Option (aE×aN))(a:FA):FE:=λh=>match a h with
 |some (d,b)=>match g d with
  |some (f,e)=>U (.obj c f e,b)
  |none=>O
 |none=>O
def V9(hd:∀H,di G H dds dvs)(h:PE X e (Xu (G.ca c) (spI G c g) dvs E (rm G a))):PE X e (tF G (uO c (λm=>g (m++dds)) a)):=PE.ea h λσ H Q hh=>by
 obtain⟨F,M,T,d,N,R,e,k⟩:=hh;unfold uO at e;rcases uI (f:=a) (ρ:=M)with y|⟨m,ρ1,y⟩<;>simp only[y]at e
 .cases e
 .cases A:g (m++dds)with
  |none=>simp only[A]at e;cases e
  |some q=>
   obtain⟨ns,es⟩:=q;simp only[A]at e;cases e;refine⟨F,M,T,m,N,R,y,λxs P j s l rs x r p hdx ne=>?_⟩;have I:(e7 j r (.i1 x)) x=O:=by rw[uC (λz=>ne z.symm)];exact p
   have J:uw j (e7 (e7 j r (.i1 x)) x (.mr (G.ca c) r [])):=(uH hdx _).t (uH I _);refine⟨x,r,_,P,m++dds,ns,es,Z,uu,l.fx p,l.sub.t J,wa rs (hd _),A,λys w W Y S t2 t3 fr C hp hl ry=>⟨Z,?_⟩⟩;have t4:=λb o e=>t3 b o (J b o e) (w5 e p);have B:∀b o,W b=U o->P b=U o\/j b=O:=λb o e=>by
    rcases fr b o e with q|q
    .exact .inl q
    .cases z:j b with
     |none=>exact .inr Z
     |some u=>rw[J b u z]at q;cases q
   have R2:=l.gf t4 S t2 B;have hb:=l.iE p;have R3:=R2.q? hp C hb (λi t ei to z=>l.apart p i t ei to z);refine k _ _ _ (s.t (S.t (uH C _))) R3 ?_;exact⟨x,w,ys,Z,uu,hl,di.mono (uH C _) _ _ ry⟩
def vc(h:Nat)(i:Nat)(f:Str)(j:FE):FS:=λl=>match j l with
 |some (d,a)=>match a[i]? with
  |some (.ob c b e)=>if c=h then if b.contains f=γ then O else if e.length=b.length then if b.length<900 then U (.nx (a.set i (.ob c (b++[f]) (e++[d]))))else O else O else O
  |_=>O
 |none=>O
theorem MA:∀{a:aE} {b:bz},a.contains f=δ->a.length=b.length->AU f v (a.zip b)=(a++[f]).zip (b++[v])
 |[],[],h,l=>rfl
 |[],x::b,h,l=>by cases l
 |n::a,[],h,l=>by cases l
 |n::a,x::b,h,l=>by
  rw[oN,kR]at h;have c:¬n=f:=λz=>by rw[z]at h;simp at h
  have d:=MA (v:=v) h.2 (by simpa using l);show AU f v ((n,x)::a.zip b)=_;rw[show AU f v ((n,x)::a.zip b)=(if n=f then (n,v)::a.zip b else (n,x)::AU f v (a.zip b)) from Z,aq c,d];rfl
set_option tactic.hygienic true
def Wa{st:Stmt}(h:PS X st (sFld X.K (z7 i) (tF G x) f))(y:ζ X.K (G.ca p)/\AC X.K (G.ca p) f):PS X st (lb G (vc p i f x)):=PS.ea h λE σ H M=>by
 obtain⟨F,j,z,o,R,e,k,k2⟩:=M;unfold vc at e;rcases uI (f:=x) (ρ:=j)with b|⟨d,l,b⟩<;>simp only[b]at e
 .cases e
 .split at e
  .rename_i c N T t;split at e
   .rename_i hcc;subst hcc;split at e
    .cases e
    rename_i hnc;split at e
    .rename_i Y;split at e
     .rename_i W;cases e;refine⟨F,j,z,d,l,R,b,λv S A s m r=>?_⟩;obtain⟨a,q,P,u,B,C,I,w,J⟩:=m.sl i _ t;refine⟨_,xF u,a,_,q,_,Z,B,y.1,y.2,by rw[iG];omega,?_⟩;have hnf:N.contains f=δ:=by simpa using hnc
      rw[MA hnf w];refine k _ _ _ s (m.mut t Z u (λQ hH=>?_) Z);exact⟨a,q,P++[v],Z,hH,C,I,by rw[aF,aF,w];rfl,wa J (uR r uU)⟩
     .cases e
    .cases e
   .cases e
  .cases e
set_option tactic.hygienic false
def stI(c n:Nat)(a:aN):aM:=.ob c [] []::rl (n - 1) a
def x3(c h n:Nat)(f:FS):aN->Option (aE×aN):=λa=>if a.length=h then match f (stI c n a)with
 |some (.nx i)=>match (i:aM)[0]? with
  |some (Sl.ob e d b)=>if e=c then if d.length=b.length then U (d,b)else O else O
  |_=>O
 |_=>O
 else O
set_option tactic.hygienic true
def Il(h:x3 c m n f b=U q):b.length=m/\∃a,f (stI c n b)=U (.nx a)/\a[0]?=U (.ob c q.1 q.2)/\q.1.length=q.2.length:=by
 unfold x3 at h;split at h
 .rename_i l;refine⟨l,?_⟩;split at h
  .rename_i a e;split at h
   .rename_i o r p d;split at h
    .rename_i j;split at h
     .rename_i i;subst j;cases h;exact⟨a,e,d,i⟩
     .cases h
    .cases h
   .cases h
  .cases h
 .cases h
set_option tactic.hygienic false
def O4{N:aE}(hN:M+1<=N.length)(h:spI G c (x3 c M N.length f) vs H Q E):lb G f { nx:=λg H'=>Q .X H',rt:=Q } (L2.start N vs) H:=by
 obtain⟨p,dx,us,H0,ds,ns,es,rfl,A,h0,s,r,e,k⟩:=h;obtain⟨hl,ρ,l,x,z⟩:=Il e;have gets:∀{i:Nat} {t:Sl},(stI c N.length ds)[i]?=U t->(i=0/\t=.ob c [] [])\/t=.un\/∃(j:Nat) (d:D),i=j+1/\ds[j]?=U d/\t=.I d:=λ{i t} e=>by
  cases i with
  |zero=>cases e;exact .inl ⟨Z,Z⟩
  |succ j=>
   have F:=e;rcases HC F with rfl|⟨d,l,rfl⟩
   .exact .inr (.inl Z)
   .exact .inr (.inr ⟨j,d,Z,l,Z⟩)
 have R:dt G ⟨H0,H,[p]⟩ (L2.start N (.ref p::us)) (stI c N.length ds) H0 H:={
  sub:=s
  g0:=uw.refl _
  keep:=λb o e g=>e
  fr:=λb o e=>.inl e
  am:=λa ha=>by
   have y:=by simpa using ha
   subst y;exact⟨_,A⟩
  len:=by unfold L2.start stI rl;simp only[aF,ah,c7,aS];rw[<-uk r,jx,qQ,jP 1]
  sl:=λi t e=>by
   rcases gets e with ⟨rfl,rfl⟩|rfl|⟨j,d,rfl,l,rfl⟩
   .exact⟨p,dx,[],AW Z,A,h0,by simp,Z,uU⟩
   .trivial
   .obtain⟨v,x,z⟩:=yN r l;exact⟨v,AW (by simpa using x),z⟩
  ap:=λi j t u a hij I J B C=>by
   rcases gets I with ⟨rfl,rfl⟩|rfl|⟨_,_,_,_,rfl⟩
   .rcases gets J with ⟨rfl,rfl⟩|rfl|⟨_,_,_,_,rfl⟩
    .exact ar Z hij
    .cases C
    .cases C
   .cases B
   .cases B }
 refine⟨_,_,H0,_,R,l,λσ' q H' s' m=>?_,λg=>Z⟩;obtain⟨a,w,Y,q1,P,q3,S,T,W⟩:=m.sl 0 _ x;have y:=by simpa using S
 subst y;exact k Y w q H' s' m.sub (λb o e n=>m.keep b o e (by simpa using n)) m.fr q3 P T W
end
def Sl.L:Sl->Option aN
 |.ls a=>U a
 |.pm a=>U a
 |_=>O
def Sl.putL:Sl->aN->Sl
 |.pm _,a=>.pm a
 |_,a=>.ls a
def Sl.vu{s:Sl}(h:s.L=U a):s.i1=γ:=by cases s<;>first|rfl|cases h
def Sl.putL_L{s:Sl}:(s.putL a).L=U a:=by cases s<;>rfl
section
variable{G:Bg}{F:Fr}{σ:St}{ρ:aM}{H0 H:Hp}
theorem JG.cf{o:Option V}{s:Sl}{ds:aN}(h:JG G F H0 H o s)(e:s.L=U ds):∃a xs,o=U (.ref a)/\H a=U (.cf xs)/\H0 a=O/\di G H0 ds xs:=by
 cases s with
 |ls b=>cases e;obtain⟨a,xs,c,d,f,j,i⟩:=h;exact⟨a,xs,c,d,f,i⟩
 |pm b=>cases e;obtain⟨a,xs,c,d,f,j,i⟩:=h;exact⟨a,xs,c,d,f,i⟩
 |_=>cases e
def dt.mutL(R:dt G F σ ρ H0 H)(m:ρ[i]?=U s)(o:s.L=U w)(l:(σ[i]?).join=U (.ref a))(r:di G H0 d c):
  dt G F σ (ρ.set i (s.putL d)) H0 (e7 H a (.cf c)):=by
 have ok:=R.sl i s m;rw[l]at ok;refine R.mut m (Sl.vu o) l (λu hH=>?_) (Sl.vu Sl.putL_L);cases s with
 |ls e=>obtain⟨b,t,f,p,h,j,q⟩:=ok;cases f;exact⟨a,c,Z,hH,h,j,r⟩
 |pm e=>obtain⟨b,t,f,p,h,j,q⟩:=ok;cases f;exact⟨a,c,Z,hH,h,j,r⟩
 |_=>cases o
end
def v3(ρ:aM)(i:Nat):Option aN:=match ρ[i]? with
 |some s=>s.L
 |none=>O
def yz(h:v3 ρ i=U a):∃s,ρ[i]?=U s/\s.L=U a:=by
 unfold v3 at h;cases e:ρ[i]? with
 |none=>rw[e]at h;cases h
 |some s=>rw[e]at h;exact⟨s,Z,h⟩
def putAt(ρ:aM)(i:Nat)(a:aN):aM:=match ρ[i]? with
 |some s=>ρ.set i (s.putL a)
 |none=>ρ
def AX(i:Nat)(f:FE):FE:=λc=>match v3 c i with
 |some _=>match f c with
  |some (d,a)=>match v3 a i with
   |some b=>if b.length<1000 then U (.X,putAt a i (b++[d]))else O
   |none=>O
  |none=>O
 |none=>O
section
variable{X:Cx}{G:Bg}
def xG(R:dt G F m ρ e H)(h:v3 ρ i=U o):∃a d,m[i]?=U (U (.ref a))/\H a=U (.cf d)/\di G e o d/\
  (∀b c,di G e b c->dt G F m (putAt ρ i b) e (e7 H a (.cf c))):=by
 obtain⟨s,f,j⟩:=yz h;obtain⟨a,d,l,p,t,q⟩:=(R.sl i s f).cf j;refine⟨a,d,xF l,p,q,λb c r=>?_⟩;unfold putAt;rw[f];exact R.mutL f j l r
set_option tactic.hygienic true
def QH(h:PE X e (tBM G.K "list" Lf (z7 i) (rm G (bt f uN)))):PE X e (tF G (AX i f)):=PE.ea h λσ H Q z=>by
 obtain⟨F,c,t,d,M,R,e,k⟩:=z;unfold AX at e;cases j:v3 c i with
 |none=>simp only[j]at e;cases e
 |some y=>
  simp only[j]at e;rcases uI (f:=f) (ρ:=c)with l|⟨x,b,l⟩<;>simp only[l]at e
  .cases e
  .cases m:v3 b i with
   |none=>simp only[m]at e;cases e
   |some S=>
    simp only[m]at e;split at e
    .rename_i T;cases e;obtain⟨a,J,p,C,Y,_⟩:=xG R j;refine⟨.ref a,p,.inl ⟨Z,J,f5.of C⟩,F,c,t,[x],b,R,by unfold bt;rw[l];rfl,λys N u s w rs=>?_⟩;obtain⟨v,W,rfl,B,A⟩:=rs;subst A;obtain⟨P,o,q,E,r,I⟩:=xG w m;rw[p]at q;cases q;exact⟨a,o,v,Z,Z,E,by rw[<-uk r];exact Dc (by omega),k _ _ _ s (I _ _ (wa r (uR B uU))) Ad⟩
    .cases e
set_option tactic.hygienic false
def Hr(i:Nat)(f:FA):FE:=λd=>match v3 d i with
 |some _=>match f d with
  |some (c,a)=>match v3 a i with
   |some b=>if b.length+c.length<=1000 then U (.X,putAt a i (b++c))else O
   |none=>O
  |none=>O
 |none=>O
set_option tactic.hygienic true
def QI(h:PE X e (tBM G.K "list" OY (z7 i) (Cf (D0 G f) HR))):PE X e (tF G (Hr i f)):=PE.ea h λσ H Q A=>by
 obtain⟨F,c,u,d,P,R,e,k⟩:=A;unfold Hr at e;cases j:v3 c i with
 |none=>simp only[j]at e;cases e
 |some z=>
  simp only[j]at e;rcases uI (f:=f) (ρ:=c)with l|⟨x,b,l⟩<;>simp only[l]at e
  .cases e
  .cases m:v3 b i with
   |none=>simp only[m]at e;cases e
   |some Y=>
    simp only[m]at e;split at e
    .rename_i B;cases e;obtain⟨a,M,q,E,s3,_⟩:=xG R j;refine⟨.ref a,q,.inl ⟨Z,M,f5.of E⟩,F,c,u,x,b,R,l,λp N S w s y C h0 hb W rs=>?_⟩;obtain⟨T,o,r,I,t,J⟩:=xG y m;rw[q]at r;cases r;refine⟨a,p,o,N,Z,Z,I,C,?_,k _ _ _ s (J _ _ (wa t rs)) Ad⟩;rw[<-uk t,<- uk rs];exact w6 B
    .cases e
set_option tactic.hygienic false
def aeS(i:Nat):FE:=λa=>match v3 a i with
 |some (d::b)=>U (d,putAt a i b)
 |_=>O
def Ey(r:di G b a c)(h:Cc a i=U d):∃v,Cc c i=U v/\en G b d v:=by
 unfold Cc at h ⊢;rw[<-uk r];cases e:ixN a.length i with
 |none=>rw[e]at h;cases h
 |some j=>rw[e]at h;exact yN r h
def NX(i:Nat)(f:FE):FE:=λb=>match v3 b i with
 |some _=>match f b with
  |some (.int j,a)=>match v3 a i with
   |some c=>match Cc c j with
    |some d=>U (d,a)
    |none=>O
   |none=>O
  |_=>O
 |none=>O
set_option tactic.hygienic true
def Y5(h:PE X e (tOp (Vz G.K) (z7 i) (tF G f))):PE X e (tF G (NX i f)):=PE.ea h λσ H Q I=>by
 obtain⟨F,t,y,d,W,R,e,k⟩:=I;unfold NX at e;cases l:v3 t i with
 |none=>simp only[l]at e;cases e
 |some C=>
  simp only[l]at e;obtain⟨A,T,p,_⟩:=xG R l;split at e
  .rename_i j m E;cases b:v3 m i with
   |none=>simp only[b]at e;cases e
   |some B=>
    simp only[b]at e;cases c:Cc B j with
    |none=>simp only[c]at e;cases e
    |some x=>simp only[c]at e;cases e;refine⟨.ref A,p,F,t,y,_,_,R,E,λu Y z s o r=>?_⟩;subst r;obtain⟨a,S,q,J,M,s4⟩:=xG o b;rw[p]at q;cases q;obtain⟨w,N,P⟩:=Ey M c;exact⟨_,S,j,w,Z,Z,f5.of J,N,k _ _ _ s o P⟩
  .cases e
set_option tactic.hygienic false
def D'(i:Nat):FE:=λb=>match b[i]? with
 |some (.ls a)=>U (.cf a,b.set i (.I (.cf a)))
 |some (.dk c a)=>U (.Z c a,b.set i (.I (.Z c a)))
 |some (.I d)=>U (d,b)
 |_=>O
theorem dt.toIm(R:dt G F σ ρ H0 H)(hi:ρ[i]?=U s)(hs:(σ[i]?).join=U (.ref p))(so:s.i1=γ)(A:H p=U o)(h0:H0 p=O)(hb:F.B p=O)(r:en G (e7 H0 p o) d (.ref p)):
  dt G F σ (ρ.set i (.I d)) (e7 H0 p o) H where
 sub:=λb u e=>by
  by_cases hb:b=p
  .subst hb;rw[uu]at e;cases e;exact A
  .rw[uC hb]at e;exact R.sub _ _ e
 g0:=R.g0.t (uH h0 o)
 keep:=R.keep
 fr:=λb u e=>by
  by_cases c:b=p
  .subst c;exact .inr hb
  .rw[uC c]at e;exact R.fr _ _ e
 am:=R.am
 len:=by rw[dJ];exact R.len
 sl:=λj t e=>by
  rw[cc]at e;by_cases h:i=j
  .subst h;rw[ak Z]at e;split at e
   .cases e;exact⟨_,hs,r⟩
   .cases e
  .rw[aq h]at e;refine(R.sl j t e).gf (uH h0 o) (λa u v v q=>q) λa u z to q C=>?_;rw[uC (λy=>by subst y;exact R.ap j i t s a (λy=>h y.symm) e hi to so z hs)];exact C
 ap:=λj k t u b hjk l w f tk E vk=>by
  have ri:∀{m:Nat} {x:Sl},(ρ.set i (.I d))[m]?=U x->x.i1=γ->ρ[m]?=U x:=λ{m x} e I=>by
   rw[cc]at e;by_cases h:i=m
   .subst h;rw[ak Z]at e;split at e
    .cases e;cases I
    .cases e
   .rw[aq h]at e;exact e
  exact R.ap j k t u b hjk (ri l f) (ri w tk) f tk E vk
theorem dt.toImD(R:dt G F σ ρ H0 H)(hi:ρ[i]?=U s)(hs:(σ[i]?).join=U (.ref p))(so:s.i1=γ)(h0:H0 p=O)(hb:F.B p=O)(r:en G (e7 H0 p o) d (.ref p)):
  dt G F σ (ρ.set i (.I d)) (e7 H0 p o) (e7 H p o) where
 sub:=λb u e=>by
  by_cases hb:b=p
  .subst hb;rw[uu]at e ⊢;exact e
  .rw[uC hb]at e ⊢;exact R.sub _ _ e
 g0:=R.g0.t (uH h0 o)
 keep:=λb u e n=>by rw[uC (λz=>by subst z;rw[hb]at e;cases e)];exact R.keep b u e n
 fr:=λb u e=>by
  by_cases c:b=p
  .subst c;exact .inr hb
  .rw[uC c]at e;exact R.fr _ _ e
 am:=λb hm=>by
  by_cases c:b=p
  .subst c;exact⟨o,uu⟩
  .rw[uC c];exact R.am b hm
 len:=by rw[dJ];exact R.len
 sl:=λj t e=>by
  rw[cc]at e;by_cases h:i=j
  .subst h;rw[ak Z]at e;split at e
   .cases e;exact⟨_,hs,r⟩
   .cases e
  .rw[aq h]at e;refine(R.sl j t e).gf (uH h0 o) (λa u z to q=>?_) λa u z to q A=>?_
   .rw[uC (λy=>by subst y;exact R.ap j i t s a (λy=>h y.symm) e hi to so z hs)];exact q
   .rw[uC (λy=>by subst y;exact R.ap j i t s a (λy=>h y.symm) e hi to so z hs)];exact A
 ap:=λj k t u b hjk l w f tk C vk=>by
  have ri:∀{m:Nat} {x:Sl},(ρ.set i (.I d))[m]?=U x->x.i1=γ->ρ[m]?=U x:=λ{m x} e E=>by
   rw[cc]at e;by_cases h:i=m
   .subst h;rw[ak Z]at e;split at e
    .cases e;cases E
    .cases e
   .rw[aq h]at e;exact e
  exact R.ap j k t u b hjk (ri l f) (ri w tk) f tk C vk
set_option tactic.hygienic true
def acR(h:PE X e (z7 i)):PE X e (tF G (D' i)):=PE.ea (PE.ghost h) λE H Q z=>by
 obtain⟨F,C,u,d,A,R,e,k⟩:=z;unfold D' at e;split at e
 .rename_i r b;cases e;obtain⟨a,q,f,l,c,m,p⟩:=R.sl i _ b;have j:=Ac uu (di.mono (uH c _) _ _ p);exact⟨_,xF f,.inl (k _ _ _ (uH c _) (R.toIm b f Z l c m j) j)⟩
 .rename_i t r b;cases e;obtain⟨a,q,f,l,c,m,p,y⟩:=R.sl i _ b;refine⟨_,xF f,.inr ⟨a,_,l,λo=>?_⟩⟩;have j:en G (e7 u a (.oz o (.dK (t.zip q)))) (.Z t r) (.ref a):=by unfold en;exact⟨a,o,q,Z,uu,p,di.mono (uH c _) _ _ y⟩
  exact k _ _ _ (uH c _) (R.toImD b f Z c m j) j
 .rename_i B b;cases e;obtain⟨v,w,x⟩:=R.sl i _ b;exact⟨v,xF w,.inl (k _ _ _ (uw.refl _) R x)⟩
 .cases e
set_option tactic.hygienic false
def JH(i:Nat):FA:=λa=>match a[i]? with
 |some (.ls b)=>U (b,a.set i .un)
 |_=>O
set_option tactic.hygienic true
def Wb(h:PE X e (z7 i)):PE X e (D0 G (JH i)):=PE.ea h λσ H Q r=>by
 obtain⟨F,ρ,H0,d,ρ',R,e,k⟩:=r;unfold JH at e;split at e
 .rename_i ds l;cases e;obtain⟨a,xs,h1,h2,h3,h4,h5⟩:=R.sl i _ l;have ri:∀{m:Nat} {x:Sl},(ρ.set i .un)[m]?=U x->x.i1=γ->m≠i/\ρ[m]?=U x:=λ{m x} e A=>by
   rw[cc]at e;by_cases h:i=m
   .subst h;rw[ak Z]at e;split at e
    .cases e;cases A
    .cases e
   .rw[aq h]at e;exact⟨λz=>h z.symm,e⟩
  have p:dt G F σ (ρ.set i .un) H0 H:={
   sub:=R.sub,g0:=R.g0,keep:=R.keep,fr:=R.fr,am:=R.am
   len:=by rw[dJ];exact R.len
   sl:=λj t e=>by
    rw[cc]at e;by_cases h:i=j
    .subst h;rw[ak Z]at e;split at e
     .cases e;trivial
     .cases e
    .rw[aq h]at e;exact R.sl j t e
   ap:=λj k t u b hjk c q o tk y vk=>R.ap j k t u b hjk (ri c o).2 (ri q tk).2 o tk y vk }
  refine⟨_,xF h1,k a xs _ _ (uw.refl _) p h2 h3 h4 (λj t c to z=>?_) h5⟩;obtain⟨w,f⟩:=ri c to;exact R.ap j i t _ a w f l to Z z h1
 .cases e
end
set_option tactic.hygienic false
inductive IspM(G:Bg) (g:aN->aN->Option (D×aN)) (vs:bz) (H:Hp) (Q:VK) (_x3:XK):Prop
 |i (a:Addr) (us xs:bz) (H0:Hp) (es ds:aN) (d:D) (es':aN) (h0:vs=.ref a::us) (h1:H a=U (.cf xs)) (h2:H0 a=O) (h3:uw H0 H) (h4:di G H0 es xs) (h5:di G H0 ds us) (h6:g es ds=U (d,es')) (h7:∀v xs' H0' H',uw H0 H0'->uw H0' H'->(∀b o,H b=U o->b≠a->H' b=U o)->(∀b o,H0' b=U o->H0 b=U o\/H b=O)->H0' a=O->H' a=U (.cf xs')->di G H0' es' xs'->en G H0' d v->Q v H'):IspM G g vs H Q _x3
def vo(G:Bg)(g:aN->aN->Option (D×aN)):Sp:=λa H Q _x3=>IspM G g a H Q _x3
def stM(n:Nat)(b a:aN):aM:=.pm b::rl (n - 1) a
def EA(b:aM):Option aN:=match b with
 |.pm a::_=>U a
 |_=>O
def tj(h n:Nat)(f:FS):aN->aN->Option (D×aN):=λe c=>if c.length=h then match f (stM n e c)with
 |some (.rt d b)=>match EA b with
  |some a=>U (d,a)
  |none=>O
 |some (.rn i b)=>match EA b with
  |some a=>U (.cf i,a)
  |none=>O
 |_=>O
 else O
def Im(h:EA b=U a):b[0]?=U (.pm a):=by
 unfold EA at h;split at h
 .cases h;rfl
 .cases h
set_option tactic.hygienic true
def MB(h:tj o n f j i=U (d,c)):i.length=o/\((∃a,f (stM n j i)=U (.rt d a)/\a[0]?=U (.pm c))\/∃l a,f (stM n j i)=U (.rn l a)/\a[0]?=U (.pm c)/\d=.cf l):=by
 unfold tj at h;split at h
 .rename_i m;refine⟨m,?_⟩;split at h
  .rename_i x a e;cases b:EA a with
   |none=>simp only[b]at h;cases h
   |some q=>simp only[b]at h;cases h;exact .inl ⟨a,e,Im b⟩
  .rename_i x a e;cases b:EA a with
   |none=>simp only[b]at h;cases h
   |some q=>simp only[b]at h;cases h;exact .inr ⟨x,a,e,Im b,Z⟩
  .cases h
 .cases h
section
variable{X:Cx}{G:Bg}
set_option tactic.hygienic false
def Wc{N:aE}(hN:S+1<=N.length)(h:vo G (tj S N.length f) vs H Q E):lb G f { nx:=λg H'=>Q .X H',rt:=Q } (L2.start N vs) H:=by
 obtain⟨a,us,xs,H0,es,ds,d,es',rfl,ha,h0,s,r1,r,e,k⟩:=h;obtain⟨hl,l⟩:=MB e;have gets:∀{i:Nat} {t:Sl},(stM N.length es ds)[i]?=U t->(i=0/\t=.pm es)\/t=.un\/∃(j:Nat) (d:D),i=j+1/\ds[j]?=U d/\t=.I d:=λ{i t} e=>by
  cases i with
  |zero=>cases e;exact .inl ⟨Z,Z⟩
  |succ j=>
   have B:=e;rcases HC B with rfl|⟨d,l,rfl⟩
   .exact .inr (.inl Z)
   .exact .inr (.inr ⟨j,d,Z,l,Z⟩)
 have R:dt G ⟨H0,H,[a]⟩ (L2.start N (.ref a::us)) (stM N.length es ds) H0 H:={
  sub:=s
  g0:=uw.refl _
  keep:=λb o e g=>e
  fr:=λb o e=>.inl e
  am:=λb hb=>by
   have I:=by simpa using hb
   subst I;exact⟨_,ha⟩
  len:=by unfold L2.start stM rl;simp only[aF,ah,c7,aS];rw[<-uk r,jx,qQ,jP 1]
  sl:=λi t e=>by
   rcases gets e with ⟨rfl,rfl⟩|rfl|⟨j,d,rfl,l,rfl⟩
   .exact⟨a,xs,AW Z,ha,h0,by simp,r1⟩
   .trivial
   .obtain⟨v,q,C⟩:=yN r l;exact⟨v,AW (by simpa using q),C⟩
  ap:=λi j t u b hij J M y z=>by
   rcases gets J with ⟨rfl,rfl⟩|rfl|⟨_,_,_,_,rfl⟩
   .rcases gets M with ⟨rfl,rfl⟩|rfl|⟨_,_,_,_,rfl⟩
    .exact ar Z hij
    .cases z
    .cases z
   .cases y
   .cases y }
 have fin:∀{v:V} {σ':St} {ρ':aM} {c H':Hp},uw H0 c->dt G ⟨H0,H,[a]⟩ σ' ρ' c H'->ρ'[0]?=U (.pm es')->en G c d v->Q v H':=λs' m q x=>by
  obtain⟨a',A,q1,T,q3,W,Y⟩:=m.sl 0 _ q;have F:=by simpa using W
  subst F;exact k _ A _ _ s' m.sub (λb o e n=>m.keep b o e (by simpa using n)) m.fr q3 T Y x
 rcases l with ⟨ρ,l,q⟩|⟨zs,ρ,l,q,rfl⟩
 .exact⟨_,_,H0,_,R,l,λv σ' c H' s' m x=>fin s' m q x,λg=>Z⟩
 .refine⟨_,_,H0,_,R,l,λp A σ' c H' s' m P w hb ap rs=>?_,λg=>Z⟩;exact fin (s'.t (uH w _)) (m.q? P w hb ap) q (Ac uu (di.mono (uH w _) _ _ rs))
def acT(j:∀f b d,g f b=U d->b.length=l):∀c H Q E,vo G g c H Q E->c.length=l+1:=λc H Q E h=>by obtain⟨a,o,p,m,f,b,d,i,rfl,_,_,_,_,r,e,_⟩:=h;rw[aS,<- uk r,j _ _ _ e]
def Wd:∀b a d,tj c n f b a=U d->a.length=c:=λv v d h=>(MB h).1
def dt.call1(R:dt G F σ ρ H0 H)(hi:ρ[i]?=U s)(hs:s.L=U es)(hb:(σ[i]?).join=U (.ref b))
  (C:uw H0 a) (s2:uw a H') (l:∀c o,H c=U o->c≠b->H' c=U o) (fr:∀c o,a c=U o->H0 c=U o\/H c=O) (h0:a b=O) (f:H' b=U (.cf p)) (r:di G a es' p):
  dt G F σ (ρ.set i (s.putL es')) a H':=by
 have so:=Sl.vu hs;obtain⟨Y,u,A,e2,e3,E⟩:=(R.sl i s hi).at so;rw[hb]at A;cases A;exact {
  sub:=s2
  g0:=R.g0.t C
  keep:=λc o e n=>by
   refine l c o (R.keep c o e n) λz=>?_;subst z;rcases E with q|q
   .rw[q]at e;cases e
   .exact n q
  fr:=λc o e=>by
   rcases fr c o e with q|q
   .exact R.fr c o q
   .exact .inr (R.iE q)
  am:=λc P=>by
   by_cases z:c=b
   .subst z;exact⟨_,f⟩
   .obtain⟨o,q⟩:=R.am c P;exact⟨o,l c o q z⟩
  len:=by rw[dJ];exact R.len
  sl:=λj t e=>by
   rw[cc]at e;by_cases h:i=j
   .subst h;rw[ak Z]at e;split at e
    .cases e;rw[hb];have ok:=R.sl i s hi;rw[hb]at ok;cases s with
     |ls d=>obtain⟨c,xs,h1,h2,h3,h4,h5⟩:=ok;cases h1;exact⟨b,p,Z,f,h0,h4,r⟩
     |pm d=>obtain⟨c,xs,h1,h2,h3,h4,h5⟩:=ok;cases h1;exact⟨b,p,Z,f,h0,h4,r⟩
     |_=>cases hs
    .cases e
   .rw[aq h]at e;refine(R.sl j t e).gf C (λc w z to q=>l c w q λy=>?_) λc w z to q B=>?_
    .subst y;exact R.ap j i t s c (λy=>h y.symm) e hi to so z hb
    .cases y:a c with
     |none=>rfl
     |some o=>
      rcases fr c o y with x|x
      .rw[x]at B;cases B
      .rw[x]at q;cases q
  ap:=λj k t u c hjk I J T tk W vk=>by
   have ri:∀{m:Nat} {x:Sl},(ρ.set i (s.putL es'))[m]?=U x->∃y,ρ[m]?=U y/\(x.i1=γ->y.i1=γ):=λ{m x} e=>by
    rw[cc]at e;by_cases h:i=m
    .subst h;exact⟨s,hi,λv=>so⟩
    .rw[aq h]at e;exact⟨x,e,λq=>q⟩
   obtain⟨y,M,Q⟩:=ri I;obtain⟨z,N,S⟩:=ri J;exact R.ap j k y z c hjk M N (Q T) (S tk) W vk }
def vd(g:aN->aN->Option (D×aN))(i:Nat)(a:FA):FE:=λe=>match v3 e i with
 |some _=>match a e with
  |some (f,b)=>match v3 b i with
   |some h=>match g h f with
    |some (d,c)=>U (d,putAt b i c)
    |none=>O
   |none=>O
  |none=>O
 |none=>O
def Y6(h:PE X e (BS (vo G g) [] E (Cf (z7 i) (rm G a)))):PE X e (tF G (vd g i a)):=PE.ea h λσ H Q T=>by
 obtain⟨F,m,A,d,ρ',R,e,k⟩:=T;unfold vd at e;cases r:v3 m i with
 |none=>simp only[r]at e;cases e
 |some S=>
  simp only[r]at e;rcases uI (f:=a) (ρ:=m)with t|⟨p,l,t⟩<;>simp only[t]at e
  .cases e
  .cases u:v3 l i with
   |none=>simp only[u]at e;cases e
   |some C=>
    simp only[u]at e;cases w:g C p with
    |none=>simp only[w]at e;cases e
    |some q=>
     obtain⟨d1,x⟩:=q;simp only[w]at e;cases e;obtain⟨b,xs,y,s2,s3,_⟩:=xG R r;refine⟨.ref b,y,F,m,A,p,l,R,t,λM B N s o rs=>?_⟩;obtain⟨s,c,j⟩:=yz u;obtain⟨b',z,I,W,Y,t4⟩:=(o.sl i s c).cf j;rw[xF I]at y;cases y;refine⟨b,M,z,B,C,p,d,x,?_,W,Y,o.sub,t4,rs,w,λv zs H2 P J u2 u3 fr w0 w1 w2 w3=>?_⟩
     .show V.ref b::M++[]=_;rw[bO]
     .refine k _ _ _ (uw.t ‹uw A B› J) ?_ w3;unfold putAt;rw[c];exact o.call1 c j I J u2 u3 fr w0 w1 w2
def Walk(G:Bg)(J:It)(h:aN)(j:Hp):Prop:=∀(i:Nat) (e a:Hp),uw j e->uw e a->
 (∀d,h[i]?=U d->J.go i a/\∀x c,J.yld i a x c->∃f,uw e f/\uw f c/\uw a c/\(∀b o,f b=U o->e b=U o\/a b=O)/\en G f d x)/\(i=h.length->J.stop i a)
inductive ItFI(G:Bg) (f:FA) (σ:St) (H:Hp) (R:(It->Hp->Prop)):Prop
 |i (F ρ H0 ds ρ') (h0:dt G F σ ρ H0 H) (h1:f ρ=U (ds,ρ')) (h2:∀J H0' H',uw H0 H0'->dt G F σ ρ' H0' H'->Walk G J ds H0'->R J H'):ItFI G f σ H R
def tFI(G:Bg)(f:FA):TI:=λa H R=>ItFI G f a H R
def PI.ea(h:PI X f e t)(w:∀b H R,d b H R->t b H R):PI X f e d:=λa s b H R I c=>h a s b H R I (w _ _ _ c)
def Io(h:f5 G.K j a c)(r:di G j w c):Walk G (Itl G.K a) w j:=λi q t s p=>by have f:=(s.t p).seq h;refine⟨λd e=>?_,λC=>⟨c,f,by rw[<-uk r,C];exact aL _⟩⟩;obtain⟨v,l,z⟩:=yN r e;refine⟨⟨c,v,f,l⟩,λx u y=>?_⟩;obtain⟨A,B⟩:=y;have m:=B c f;rw[l]at m;cases m;subst A;exact⟨q,uw.refl _,p,uw.refl _,λb o e=>.inl e,en.mono s _ _ z⟩
def Sx(h:gk G.K j a c)(r:di G j w c):Walk G (Itt G.K a) w j:=λi q t s p=>by have f:=gk.mono (s.t p) h;refine⟨λd e=>?_,λC=>⟨c,f,by rw[<-uk r,C];exact aL _⟩⟩;obtain⟨v,l,z⟩:=yN r e;refine⟨⟨c,v,f,l⟩,λx u y=>?_⟩;obtain⟨A,B⟩:=y;have m:=B c f;rw[l]at m;cases m;subst A;exact⟨q,uw.refl _,p,uw.refl _,λb o e=>.inl e,en.mono s _ _ z⟩
def iL(f:FE):FA:=λc=>match f c with
 |some (.cf b,a)=>U (b,a)
 |some (.u? b,a)=>U (b,a)
 |_=>O
def iT(f:FE):FA:=λc=>match f c with
 |some (.ef b,a)=>U (b,a)
 |_=>O
set_option tactic.hygienic true
def MC(h:PI X w e (RG G.K (tF G f))):PI X w e (tFI G (iL f)):=PI.ea h λz H R u=>by
 obtain⟨F,q,p,y,x,R,e,k⟩:=u;unfold iL at e;split at e
 .rename_i i o j;cases e;refine⟨F,q,p,_,_,R,j,λv t d s b r=>?_⟩;obtain⟨a,m,rfl,c,l⟩:=r;exact⟨a,Z,⟨m,b.sub.seq (f5.of c)⟩,k _ _ _ s b (Io (f5.of c) l)⟩
 .rename_i i o j;cases e;refine⟨F,q,p,_,_,R,j,λv t d s b r=>?_⟩;obtain⟨a,m,rfl,c,l⟩:=r;exact⟨a,Z,⟨m,b.sub.seq c⟩,k _ _ _ s b (Io c l)⟩
 .cases e
def We(h:PI X p e (Yn G.K (tF G f))):PI X p e (tFI G (iT f)):=PI.ea h λz H R m=>by
 obtain⟨F,t,d,y,u,R,e,k⟩:=m;unfold iT at e;split at e
 .rename_i j w l;cases e;refine⟨F,t,d,_,_,R,l,λv x i s b r=>?_⟩;obtain⟨a,q,rfl,c,o⟩:=r;exact⟨a,Z,⟨q,gk.mono b.sub c⟩,k _ _ _ s b (Sx c o)⟩
 .cases e
set_option tactic.hygienic false
def Ip(lo:Int)(n:Nat):aN:=(aZ n).map λ(i:Nat)=>D.int (lo+(i:Int))
def ME{lo:Int}:Walk G (Itr lo n) (Ip lo n) p:=λi c f s m=>by
 refine⟨λd e=>?_,λl=>by show n<=i;rw[l];simp[Ip]⟩;unfold Ip at e;rw[bA]at e;by_cases a:i<n
 .rw[kW a]at e;cases e;refine⟨a,λx h y=>?_⟩;obtain⟨j,rfl⟩:=y;subst j;exact⟨c,uw.refl _,m,uw.refl _,λb o e=>.inl e,wF _⟩
 .rw[gz (by simpa using a)]at e;cases e
def iR1(f:FE):FA:=λb=>match f b with
 |some (.int n,a)=>if -1000000<=n/\n<=1000000 then U (Ip 0 n.toNat,a)else O
 |_=>O
set_option tactic.hygienic true
def NY(h:PI X m e (Xs (rm G (bt f uN)))):PI X m e (tFI G (iR1 f)):=PI.ea h λy H R i=>by
 obtain⟨F,o,a,t,p,R,e,k⟩:=i;unfold iR1 at e;split at e
 .rename_i n q d;split at e
  .rename_i u;cases e;refine⟨F,o,a,[.int n],_,R,by unfold bt;rw[d];rfl,λx r b s c rs=>?_⟩;obtain⟨v,w,rfl,l,j⟩:=rs;subst j l;exact⟨n,Z,by omega,by omega,k _ _ _ s c ME⟩
  .cases e
 .cases e
set_option tactic.hygienic false
def i0(g:FG)(b:FS):aN->FS
 |[],c=>U (.nx c)
 |d::r,c=>match g d c with
  |none=>O
  |some e=>match b e with
   |some (.nx a)=>i0 g b r a
   |some (.ct a)=>i0 g b r a
   |some (.bk a)=>U (.nx a)
   |some (.rt d a)=>U (.rt d a)
   |some (.rn d a)=>U (.rn d a)
   |none=>O
def xH(s:FA)(g:FG)(b:FS):FS:=λd=>match s d with
 |some (c,a)=>i0 g b c a
 |none=>O
def Wf{st:Stmt}(h:PS X st (Yp (tFI G s) (tFG G n g) (lb G b))):PS X st (lb G (xH s g b)):=PS.ea h λE σ H hh=>by
 obtain⟨F,Y,H0,o,R,e,k,k2⟩:=hh;unfold xH at e;rcases uI (f:=s) (ρ:=Y)with Q|⟨l,C,Q⟩<;>simp only[Q]at e
 .cases e
 .refine⟨F,Y,H0,l,C,R,Q,λJ N H1' s1 R1 wk=>?_⟩;refine⟨λi m σ H=>m=l.length - i/\i<=l.length/\∃c r,uw N r/\dt G F σ c r H/\i0 g b (l.drop i) c=U o,⟨_,Z,cD _,C,N,uw.refl _,R1,e⟩,?_⟩;rintro i m σi B ⟨rfl,hi,c,r,A,I,a⟩;by_cases hlt:i<l.length
  .have ed:=jl hlt;rw[ed]at a;unfold i0 at a;obtain⟨go,yl⟩:=(wk i r B A I.sub).1 l[i] (bg hlt);refine .inr ⟨go,λp z=>∃c r,uw N r/\dt G F p c r z/\i0 g b (l.drop (i+1)) c=U o,λp z q=>⟨l.length - (i+1),by omega,Z,hlt,q⟩,λx z y=>?_⟩;obtain⟨H2,M,t2,t3,t4,t5⟩:=yl x z y;have R2:=I.gf t3 M t2 t4;cases S:g l[i] c with
   |none=>simp only[S]at a;cases a
   |some w=>
    simp only[S]at a;refine⟨F,c,H2,_,w,R2,t5,S,λσ3 v R3=>?_⟩;have T:=k.r? (s1.t (A.t M));cases u:b w with
    |none=>simp only[u]at a;cases a
    |some q=>
     refine⟨F,w,H2,q,R3,u,?_,λv=>Z⟩;cases q with
     |nx j=>simp only[u]at a;exact λp t z W P=>⟨j,t,A.t (M.t W),P,a⟩
     |ct j=>simp only[u]at a;exact λp t z W P=>⟨j,t,A.t (M.t W),P,a⟩
     |bk j=>simp only[u]at a;cases a;exact T
     |rt d j=>simp only[u]at a;cases a;exact T
     |rn d j=>simp only[u]at a;cases a;exact T
  .have ez:l.drop i=[]:=nR (by omega);rw[ez]at a;cases a;exact .inl ⟨(wk i r B A I.sub).2 (by omega),k _ _ _ (s1.t A) I⟩
def whL(c:FT)(b:FS):Nat->FS
 |0,_=>O
 |n+1,f=>match c f with
  |some (δ,e)=>U (.nx e)
  |some (γ,e)=>match b e with
   |some (.nx a)=>whL c b n a
   |some (.ct a)=>whL c b n a
   |some (.bk a)=>U (.nx a)
   |some (.rt d a)=>U (.rt d a)
   |some (.rn d a)=>U (.rn d a)
   |none=>O
  |none=>O
def QJ{st:Stmt}(n:Nat)(h:PS X st (RE (nj G c) (lb G b))):PS X st (lb G (whL c b n)):=PS.ea h λE P H Y=>by
 obtain⟨F,N,B,o,R,e,k,k2⟩:=Y;refine⟨λm P H=>∃i r,uw B r/\dt G F P i r H/\whL c b m i=U o,⟨n,N,B,uw.refl _,R,e⟩,?_⟩;rintro m σi T ⟨i,r,A,W,a⟩;cases m with
 |zero=>cases a
 |succ m=>
  unfold whL at a;rcases uI (f:=c) (ρ:=i)with x|⟨t,w,x⟩
  .simp only[x]at a;cases a
  .refine⟨F,i,r,t,w,W,x,λQ S z M=>?_⟩;cases t with
   |false=>simp only[x]at a;cases a;exact HZ (k _ _ _ (A.t z) M)
   |true=>
    simp only[x]at a;refine Ia ⟨λl y=>∃i r,uw B r/\dt G F l i r y/\whL c b m i=U o,λl y q=>⟨m,dF m,q⟩,?_⟩;have I:=k.r? (A.t z);cases u:b w with
    |none=>simp only[u]at a;cases a
    |some q=>
     refine⟨F,w,Q,q,M,u,?_,λv=>Z⟩;cases q with
     |nx j=>simp only[u]at a;exact λl p y J C=>⟨j,p,A.t (z.t J),C,a⟩
     |ct j=>simp only[u]at a;exact λl p y J C=>⟨j,p,A.t (z.t J),C,a⟩
     |bk j=>simp only[u]at a;cases a;exact I
     |rt d j=>simp only[u]at a;cases a;exact I
     |rn d j=>simp only[u]at a;cases a;exact I
end
def Sl.er:Sl->Sl
 |.I d=>.I d
 |.ls a=>.pm a
 |.pm a=>.pm a
 |_=>.un
def EB(k:Nat)(er:List Nat)(ρ:aM):aM:=b9 k .un++er.map λj=>((ρ[j]?).getD .un).er
def xI:List Nat->aM->aM->Option aM
 |[],_,a=>U a
 |j::er,t::b,a=>match v3 a j with
  |some _=>match t with
   |.pm c=>xI er b (putAt a j c)
   |_=>O
  |none=>xI er b a
 |_::_,[],_=>O
def Ae(k:Nat)(er:List Nat)(g:FG)(ft:FT)(f:FE):aN->aM->Option (aN×aM)
 |[],c=>U ([],c)
 |d::r,c=>match g d (EB k er c)with
  |none=>O
  |some h=>match ft h with
   |some (γ,b)=>match f b with
    |some (x,i)=>match xI er (i.drop k) c with
     |some a=>match Ae k er g ft f r a with
      |some (j,e)=>U (x::j,e)
      |none=>O
     |none=>O
    |none=>O
   |some (δ,b)=>match xI er (b.drop k) c with
    |some a=>Ae k er g ft f r a
    |none=>O
   |none=>O
def uA(k:Nat)(er:List Nat)(s:FA)(g:FG)(ft:FT)(fe:FE):FA:=λc=>match s c with
 |some (b,a)=>if b.length<=1000 then Ae k er g ft fe b a else O
 |none=>O
def ve:FT:=λa=>U (γ,a)
theorem Bn:∀{er:List Nat} {A f b:aM},xI er A f=U b->b.length=f.length/\
  (∀(j:Nat) (c:Sl),b[j]?=U c->∃s,f[j]?=U s/\((c=s/\(s.L≠O->j∉er))\/∃(m:Nat) (i a:aN),er[m]?=U j/\A[m]?=U (Sl.pm i)/\s.L=U a/\c=s.putL i))
 |[],A,f,b,h=>by cases h;exact⟨Z,λj c e=>⟨c,e,.inl ⟨Z,λv z=>by cases z⟩⟩⟩
 |F::er,[],f,b,h=>by cases h
 |F::er,t::A,f,b,h=>by
  unfold xI at h;cases l:v3 f F with
  |none=>
   simp only[l]at h;obtain⟨B,C⟩:=Bn h;refine⟨B,λj c e=>?_⟩;obtain⟨s,r,q⟩:=C j c e;refine⟨s,r,?_⟩;rcases q with ⟨rfl,q⟩|⟨m,i,a,u,w,q3,x⟩
   .refine .inl ⟨Z,λz y=>?_⟩;rcases aJ.1 y with y|y
    .subst y;unfold v3 at l;rw[r]at l;exact z l
    .exact q z y
   .exact .inr ⟨m+1,i,a,u,w,q3,x⟩
  |some p=>
   simp only[l]at h;cases t with
   |pm i=>
    simp only at h;obtain⟨H,r,G⟩:=yz l;unfold putAt at h;rw[r]at h;simp only at h;obtain⟨B,C⟩:=Bn h;refine⟨by rw[B,dJ],λj c e=>?_⟩;obtain⟨s,o,q⟩:=C j c e;by_cases E:F=j
    .subst E;rw[cc,ak Z]at o;split at o
     .cases o;refine⟨H,r,.inr ?_⟩;rcases q with ⟨rfl,q⟩|⟨m,d,a,u,w,q3,x⟩
      .exact⟨0,i,p,Z,Z,G,Z⟩
      .refine⟨m+1,d,p,u,w,G,?_⟩;rw[x];cases H<;>rfl
     .cases o
    .rw[cc,aq E]at o;refine⟨s,o,?_⟩;rcases q with ⟨rfl,q⟩|⟨m,d,a,u,w,q3,x⟩
     .refine .inl ⟨Z,λz y=>?_⟩;rcases aJ.1 y with y|y
      .exact E y.symm
      .exact q z y
     .exact .inr ⟨m+1,d,a,u,w,q3,x⟩
   |_=>cases h
def JI(er:List Nat)(b:St)(ρ:aM):List Addr:=er.filterMap λj=>match v3 ρ j,(b[j]?).join with
 |some _,U (.ref a)=>U a
 |_,_=>O
set_option tactic.hygienic true
def Ck:a∈JI er i h ↔ ∃j∈er,(∃b,v3 h j=U b)/\(i[j]?).join=U (.ref a):=by
 unfold JI;rw[eC];constructor
 .rintro⟨j,f,e⟩;refine⟨j,f,?_⟩;split at e
  .rename_i b l c d;cases e;exact⟨⟨b,c⟩,d⟩
  .cases e
 .rintro⟨j,f,⟨b,c⟩,d⟩;refine⟨j,f,?_⟩;rw[c,d]
section
variable{X:Cx}{G:Bg}{F:Fr}{σ:St}{ρ:aM}{H0 H:Hp}
set_option tactic.hygienic false
def Iq(h:(EB k er ρ)[i]?=U s):s=.un\/∃m j,i=k+m/\er[m]?=U j/\s=((ρ[j]?).getD .un).er:=by
 unfold EB at h;by_cases a:i<k
 .rw[fN (by simpa using a),jo,ak a]at h;cases h;exact .inl Z
 .rw[fM (by simpa using pC a),c7,bA]at h;cases e:er[i - k]? with
  |none=>rw[e]at h;cases h
  |some j=>rw[e]at h;cases h;exact .inr ⟨i - k,j,by omega,e,Z⟩
def EC(h:er[m]?=U j):((yd k er σ)[k+m]?).join=(σ[j]?).join:=by unfold yd;rw[fM (by simp),c7,show k+m - k=m by omega,bA,h];rfl
theorem dt.er(R:dt G F σ ρ H0 H)(k:Nat)(er:List Nat)(nd:er.Nodup):dt G ⟨H0,H,JI er σ ρ⟩ (yd k er σ) (EB k er ρ) H0 H where
 sub:=R.sub
 g0:=uw.refl _
 keep:=λb o e n=>e
 fr:=λb o e=>.inl e
 am:=λa ha=>by obtain⟨j,q,⟨ds,f⟩,p⟩:=Ck.1 ha;obtain⟨s,y,A⟩:=yz f;obtain⟨E,xs,h1,h2,_⟩:=(R.sl j s y).cf A;rw[p]at h1;cases h1;exact⟨_,h2⟩
 len:=by unfold yd EB;rw[aF,aF,c7,c7,ah,ah]
 sl:=λi s e=>by
  rcases Iq e with rfl|⟨m,j,rfl,f,rfl⟩
  .trivial
  .rw[EC f];cases p:ρ[j]? with
   |none=>trivial
   |some s=>
    have ok:=R.sl j s p;have mem:∀{a:Addr} {ds:aN},s.L=U ds->(σ[j]?).join=U (.ref a)->a∈JI er σ ρ:=λh1 h2=>Ck.2 ⟨j,b8 f,⟨_,by unfold v3;rw[p];exact h1⟩,h2⟩;cases s with
    |un=>trivial
    |I d=>exact ok
    |ls ds=>obtain⟨a,xs,h1,h2,h3,h4,h5⟩:=ok;exact⟨a,xs,h1,h2,h3,mem Z h1,h5⟩
    |pm ds=>obtain⟨a,xs,h1,h2,h3,h4,h5⟩:=ok;exact⟨a,xs,h1,h2,h3,mem Z h1,h5⟩
    |dk ks ds=>trivial
    |ob c ns ds=>trivial
 ap:=λi I s t a hii e x so to v w=>by
  rcases Iq e with rfl|⟨m,j,rfl,f,rfl⟩
  .cases so
  rcases Iq x with rfl|⟨J,u,rfl,l,rfl⟩
  .cases to
  rw[EC f]at v;rw[EC l]at w;have i1:∀{j:Nat},(((ρ[j]?).getD Sl.un).er).i1=γ->∃s,ρ[j]?=U s/\s.i1=γ:=λ{j} h=>by
   cases z:ρ[j]? with
   |none=>rw[z]at h;cases h
   |some s=>rw[z]at h;refine⟨s,Z,?_⟩;cases s<;>first|rfl|cases h
  obtain⟨s,z,C⟩:=i1 so;obtain⟨s',B,r⟩:=i1 to;by_cases q:j=u
  .subst q;have:=(List.getElem?_inj (bR.1 f).1 nd).1 (f.t l.symm);exact hii (by rw[this])
  .exact R.ap j u s s' a q z B C r v w
theorem dt.uncap(R:dt G F σ ρ H0 H){k:Nat}{er:List Nat}{f:St}{p ρ':aM}{H1 h:Hp}(c:dt G ⟨H0,H,JI er σ ρ⟩ f p H1 h)(hd:f.drop k=(yd k er σ).drop k)(hu:xI er (p.drop k) ρ=U ρ'):dt G F σ ρ' H1 h:=by
 obtain⟨hl,S⟩:=Bn hu;have C:∀{m j:Nat},er[m]?=U j->(f[k+m]?).join=(σ[j]?).join:=λ{m j} e=>by
  have q:(f.drop k)[m]?=((yd k er σ).drop k)[m]?:=by rw[hd]
  rw[eZ,eZ]at q;rw[q];exact EC e
 have nA:∀{j:Nat} {s:Sl} {a:Addr},ρ[j]?=U s->s.i1=γ->(σ[j]?).join=U (.ref a)->(s.L≠O->j∉er)->a∉JI er σ ρ:=λ{j s a} e so z hn ha=>by
  obtain⟨i,hi,⟨ds,d⟩,J⟩:=Ck.1 ha;obtain⟨t,l,r⟩:=yz d;by_cases hij:i=j
  .subst hij;rw[e]at l;cases l;exact hn (by rw[r];simp) hi
  .exact R.ap i j t s a hij l e (Sl.vu r) so J z
 have hA:∀a∈JI er σ ρ,F.B a=O\/a∈F.A:=λa ha=>by obtain⟨i,hi,⟨ds,d⟩,J⟩:=Ck.1 ha;obtain⟨t,l,r⟩:=yz d;obtain⟨Q,u,h1,h2,h3,h4⟩:=(R.sl i t l).at (Sl.vu r);rw[J]at h1;cases h1;exact h4
 have own':∀{j:Nat} {s':Sl},ρ'[j]?=U s'->s'.i1=γ->∃s,ρ[j]?=U s/\s.i1=γ:=λ{j s'} e so=>by
  obtain⟨s,d,q⟩:=S j s' e;rcases q with ⟨rfl,q⟩|⟨m,ds,E,T,M,q3,W⟩
  .exact⟨s',d,so⟩
  .exact⟨s,d,Sl.vu q3⟩
 exact {
  sub:=c.sub
  g0:=R.g0.t c.g0
  keep:=λb o e n=>by
   refine c.keep b o (R.keep b o e n) λha=>?_;rcases hA b ha with q|q
   .rw[q]at e;cases e
   .exact n q
  fr:=λb o e=>by
   rcases c.fr b o e with q|q
   .exact R.fr b o q
   .exact .inr (R.iE q)
  am:=λa ha=>by
   obtain⟨o,q⟩:=R.am a ha;by_cases z:a∈JI er σ ρ
   .exact c.am a z
   .exact⟨o,c.keep a o q z⟩
  len:=by rw[hl];exact R.len
  sl:=λj s' e=>by
   obtain⟨s,d,q⟩:=S j s' e;rcases q with ⟨rfl,q⟩|⟨m,ds,E,T,M,q3,W⟩
   .refine(R.sl j s' d).gf c.g0 (λa u z so y=>c.keep a u y (nA d so z q)) λa u z so y y0=>?_;cases w:H1 a with
    |none=>rfl
    |some o=>
     rcases c.fr a o w with x|x
     .have N:H0 a=U o:=x;rw[N]at y0;cases y0
     .have N:H a=O:=x;rw[N]at y;cases y
   .rw[eZ]at M;obtain⟨a,xs,h1,h2,h3,h4,h5⟩:=c.sl _ _ M;rw[C T]at h1;have ok:=R.sl j s d;subst W;cases s with
    |ls I=>obtain⟨Q,P,g1,g2,g3,g4,g5⟩:=ok;rw[h1]at g1;cases g1;exact⟨a,xs,h1,h2,h3,g4,h5⟩
    |pm I=>obtain⟨Q,P,g1,g2,g3,g4,g5⟩:=ok;rw[h1]at g1;cases g1;exact⟨a,xs,h1,h2,h3,g4,h5⟩
    |_=>cases q3
  ap:=λi j s t a hij Y ej so to v v'=>by
   obtain⟨s0,z,zo⟩:=own' Y so;obtain⟨t0,y,yo⟩:=own' ej to;exact R.ap i j s0 t0 a hij z y zo yo v v' }
def Cn{k:Nat}(h:pw σ ρ p)(f:xI er t ρ=U a):pw σ a p:=λi c e so=>by
 obtain⟨s,b,q⟩:=(Bn f).2 i c e;rcases q with ⟨rfl,q⟩|⟨m,j,d,l,o,q3,r⟩
 .exact h i c b so
 .exact h i s b (Sl.vu q3)
inductive CI(G:Bg) (F:Fr) (σ:St) (H1:Hp) (p:Addr) (k:Nat) (er:List Nat) (g:FG) (ft:FT) (fe:FE) (ds es:aN) (ρ':aM) (i m:Nat) (acc:bz) (H2:Hp):Prop
 |mk (ρi:aM) (Hi:Hp) (dn fc:aN):m=ds.length - i->i<=ds.length->uw H1 Hi->dt G F σ ρi Hi H2->H2 p=U (.cf acc)->Hi p=O->pw σ ρi p->di G Hi dn acc->dn.length<=i->Ae k er g ft fe (ds.drop i) ρi=U (fc,ρ')->es=dn++fc->CI G F σ H1 p k er g ft fe ds es ρ' i m acc H2
set_option tactic.hygienic true
def Ll{er:List Nat}(nd:er.Nodup):∀σ H Q,D0 G (uA k er s g ft fe) σ H Q->Gj (tFI G s) (tFG G k g) (nj G ft) (tF G fe) k er σ H Q:=λσ H Q hh=>by
 obtain⟨F,ρ,H0,es,ρ',R,e,kk⟩:=hh;unfold uA at e;rcases uI (f:=s) (ρ:=ρ)with e1|⟨d,ρ1,e1⟩<;>simp only[e1]at e
 .cases e
 .split at e
  .rename_i hlen;refine⟨F,ρ,H0,d,ρ1,R,e1,λJ H1 H1' s1 P wk p T=>?_⟩;refine⟨CI G F σ H1 p k er g ft fe d es ρ',
    ⟨_,ρ1,H1,[],es,Z,cD _,uw.refl _,P.jj T _,uu,P.fx T,P.apart T,uU,aL _,e,Z⟩,?_⟩
   rintro i m acc H2 ⟨c,Hi,dn,fc,rfl,hi,si,Ri,C,W,apt,rs,hdn,a,rfl⟩;by_cases hlt:i<d.length
   .have ed:=jl hlt;rw[ed]at a;unfold Ae at a;obtain⟨go,yl⟩:=(wk i Hi H2 si Ri.sub).1 d[i] (bg hlt);refine .inr ⟨go,λx H3 y=>?_⟩;obtain⟨I,t1,t2,t3,t4,t5⟩:=yl x H3 y;have R2:=Ri.gf t3 t1 t2 t4;have Y:=t3 _ _ C;have hpj:I p=O:=by
     cases w:I p with
     |none=>rfl
     |some o=>
      rcases t4 p o w with z|z
      .rw[W]at z;cases z
      .rw[C]at z;cases z
    have RC:=R2.er k er nd;have npA:p∉JI er σ c:=λz=>by obtain⟨j,_,⟨ds',q1⟩,q2⟩:=Ck.1 z;obtain⟨t,q3,q4⟩:=yz q1;exact apt j t q3 (Sl.vu q4) q2
    cases e2:g d[i] (EB k er c)with
    |none=>simp only[e2]at a;cases a
    |some E=>
     simp only[e2]at a;refine⟨_,_,I,d[i],E,RC,t5,e2,λσ4 B R4=>⟨B,?_⟩⟩;rcases uI (f:=ft) (ρ:=E)with S|⟨b,l,S⟩
     .simp only[S]at a;cases a
     .refine⟨_,E,I,b,l,R4,S,λH5 H5' s5 R5=>?_⟩;have keepP:∀{σ':St} {ρ'':aM} {Ha N:Hp},dt G ⟨I,H3,JI er σ c⟩ σ' ρ'' Ha N->N p=U (.cf acc)/\Ha p=O:=λRz=>by
       refine⟨Rz.keep p _ Y npA,?_⟩;refine Option.eq_none_iff_forall_ne_some.2 λo M=>?_;rcases Rz.fr p o M with z|z
       .have z':I p=U o:=z;rw[hpj]at z';cases z'
       .have z':H3 p=O:=z;rw[Y]at z';cases z'
      cases b with
      |false=>
       simp only[S]at a;refine HZ ?_;cases h:xI er (l.drop k) c with
       |none=>simp only[h]at a;cases a
       |some r=>simp only[h]at a;obtain⟨w1,M⟩:=keepP R5;exact⟨d.length - (i+1),by omega,r,H5,dn,fc,Z,hlt,si.t (t1.t s5),R2.uncap R5 B h,w1,M,Cn (k:=k) apt h,di.mono (t1.t s5) _ _ rs,by omega,a,Z⟩
      |true=>
       simp only[S]at a;refine Ia ?_;rcases uI (f:=fe) (ρ:=l)with e5|⟨x5,ρ5,e5⟩
       .simp only[e5]at a;cases a
       .simp only[e5]at a;refine⟨_,l,H5,x5,ρ5,R5,e5,λv H6 H6' s6 R6 rv=>?_⟩;obtain⟨w1,M⟩:=keepP R6;cases h:xI er (ρ5.drop k) c with
        |none=>simp only[h]at a;cases a
        |some r=>
         simp only[h]at a;cases e6:Ae k er g ft fe (d.drop (i+1)) r with
         |none=>simp only[e6]at a;cases a
         |some q=>
          obtain⟨rest',ρz⟩:=q;simp only[e6]at a;cases a;have A:=R2.uncap R6 B h;have lacc:=(uk rs).symm;refine⟨acc,w1,Dc (by omega),d.length - (i+1),by omega,r,H6,dn++[x5],rest',Z,hlt,si.t (t1.t (s5.t s6)),?_,uu,M,Cn (k:=k) apt h,wa (di.mono (t1.t (s5.t s6)) _ _ rs) (uR rv uU),by rw[aF,dh];omega,e6,by rw[cp];rfl⟩;exact {
           sub:=λb o e=>by rw[uC (λz=>by rw[z,M]at e;cases e)];exact A.sub b o e
           g0:=A.g0
           keep:=λb o e n=>by rw[uC (λz=>by subst z;rw[P.iE T]at e;cases e)];exact A.keep b o e n
           fr:=A.fr
           am:=λb hb=>by
            by_cases z:b=p
            .subst z;exact⟨_,uu⟩
            .rw[uC z];exact A.am b hb
           len:=A.len
           sl:=λj t ej=>(A.sl j t ej).gf (uw.refl _) (λb u z to q=>by rw[uC (λy=>Cn (k:=k) apt h j t ej to (by rw[z,y]))];exact q) λb u _ _ _ q=>q
           ap:=A.ap }
   .have ez:d.drop i=[]:=nR (by omega);rw[ez]at a;cases a;rw[bO]at kk;exact .inl ⟨(wk i Hi H2 si Ri.sub).2 (by omega),kk p acc Hi H2 (s1.t si) Ri C W (P.iE T) apt rs⟩
  .cases e
set_option tactic.hygienic false
def Sy{er:List Nat}(c:er.Nodup)(h:PE X e (Gj (tFI G s) (tFG G k g) (nj G b) (tF G a) k er)):PE X e (D0 G (uA k er s g b a)):=PE.ea h (Ll c)
def SA:PIf X [] (nj G ve):=λa s σ H Q I h=>by obtain⟨F,ρ,H0,b,c,R,e,k⟩:=h;cases e;exact VH a s σ H Q I (k _ _ (uw.refl _) R)
end
def xa:D->Bool
 |.X=>γ|.Y _=>γ|.int _=>γ|.str _=>γ|_=>δ
def vD:D->V
 |.X=>.X|.Y b=>.Y b|.int i=>.int i|.str x=>.str x|_=>.X
section
variable{X:Cx}{G:Bg}{H:Hp}
def yO{d:D}{v:V}(h:en G H d v)(f:xa d=γ):v=vD d:=by cases d<;>first|(unfold en at h;exact h)|cases f
def ED{d:D}(f:xa d=γ):∀H,en G H d (vD d):=λH=>by cases d<;>first|(unfold en;rfl)|cases f
theorem FJ:∀{a:aN} {b:bz},di G H a b->a.all xa=γ->b=a.map vD
 |[],b,h,f=>by unfold di at h;exact h
 |d::a,b,h,f=>by obtain⟨v,r,rfl,c,e⟩:=h;rw[gS,aV]at f;rw[aU,yO c f.1,FJ e f.2]
def MF{d:D}(f:xa d=γ):Dy (vD d)=γ:=by cases d<;>first|rfl|cases f
theorem Ke:∀{a:aN},a.all xa=γ->(a.map vD).all Dy=γ
 |[],_=>rfl
 |d::a,f=>by rw[gS,aV]at f;rw[aU,gS,MF f.1,Ke f.2];rfl
def j3.or{f:aa->aa->Sem aa}{r b:R2}(h:j3 X f r)(i:j3 X f b):j3 X f (λx y H Q=>r x y H Q\/b x y H Q):=λa s e H x y v u Q I c d q=>q.elim (h a s e H x y v u Q I c d) (i a s e H x y v u Q I c d)
def l4.or{r d:R2}{g c:D->D->Option D}(h:l4 G r g)(j:l4 G d c):l4 G (λx y H Q=>r x y H Q\/d x y H Q) (λx y=>match g x y with|some z=>U z|none=>c x y):=λx y z b H v u Q e s f i k=>by
 cases a:g x y with
 |some w=>simp only[a]at e;cases e;exact .inl (h x y _ b H v u Q a s f i k)
 |none=>simp only[a]at e;exact .inr (j x y z b H v u Q e s f i k)
def dI(C:Int->Int->Bool)(g:Int->Int->D):D->D->Option D
 |.int a,.int b=>if C a b=γ then U (g a b)else O
 |_,_=>O
set_option tactic.hygienic true
def O5{C:Int->Int->Bool}{d:Int->Int->Prop}{g:Int->Int->D}{f:Int->Int->V}(hC:∀a b,C a b=γ->d a b)(h:∀a b,xa (g a b)=γ/\vD (g a b)=f a b):l4 G (rI d f) (dI C g):=λx y z m H v u Q e s j l k=>by
 unfold dI at e;split at e
 .rename_i a b;split at e
  .rename_i i;cases e;exact⟨a,b,j,l,hC _ _ i,by rw[<-(h a b).2];exact k _ λc r=>ED (h a b).1 c⟩
  .cases e
 .cases e
def FK{g:Int->Int->D}{d:Int->Int->V}(f:∀a b,xa (g a b)=γ/\vD (g a b)=d a b):l4 G (η d) (dI (λr r=>γ) g):=λx y z j H v u Q e s h i k=>by
 unfold dI at e;split at e
 .rename_i a b;split at e
  .cases e;exact⟨a,b,h,i,by rw[<-(f a b).2];exact k _ λc r=>ED (f a b).1 c⟩
  .cases e
 .cases e
set_option tactic.hygienic false
def xb:=dI (λv v=>γ) λa b=>.int (a+b)
def MG:=dI (λv v=>γ) λa b=>.int (a - b)
def AD(a:Int):Bool:=decide (-(2 ^ 64)<a)&&decide (a<2 ^ 64)
def ye:=dI (λa b=>AD a||AD b) λa b=>.int (a * b)
def yf:=dI (λv b=>decide (0<b)) λa b=>.int (a % b)
def BW:=dI (λv b=>decide (0<b)&&decide (b<1073741824)) λa b=>.int (a / b)
def SC:=dI (λa b=>decide (0<=b)&&decide (b<=1000000)&&decide (a.natAbs<2 ^ 64)) λa b=>.int (a ^ b.toNat)
def Lm:=dI (λv v=>γ) λa b=>.Y (decide (a<b))
def zf:=dI (λv v=>γ) λa b=>.Y (decide (a<=b))
def MH:=dI (λv v=>γ) λa b=>.Y (decide (b<a))
def Y7:=dI (λv v=>γ) λa b=>.Y (decide (b<=a))
def Y8:l4 G (η λi j=>.int (i+j)) xb:=FK λv v=>⟨Z,Z⟩
def Y9:l4 G (η λi j=>.int (i - j)) MG:=FK λv v=>⟨Z,Z⟩
def Za:l4 G (rI Vo λi j=>.int (i * j)) ye:=O5 (λa b h=>by
 unfold AD at h;simp only[jK,aV,cq]at h;exact h) λv v=>⟨Z,Z⟩
def Zb:l4 G (rI (λv j=>0<j) λi j=>.int (i % j)) yf:=O5 (λa b h=>by simpa using h) λv v=>⟨Z,Z⟩
def Zc:l4 G (rI Yr λi j=>.int (i / j)) BW:=O5 (λa b h=>by unfold Yr;simpa using h) λv v=>⟨Z,Z⟩
def Zd:l4 G (rI CPow λi j=>.int (i ^ j.toNat)) SC:=O5 (λa b h=>by
 simp only[aV,cq]at h;exact⟨h.1.1,h.1.2,h.2⟩) λv v=>⟨Z,Z⟩
def acV:l4 G (η λi j=>.Y (decide (i<j))) Lm:=FK λv v=>⟨Z,Z⟩
def acW:l4 G (η λi j=>.Y (decide (i<=j))) zf:=FK λv v=>⟨Z,Z⟩
def acX:l4 G (η λi j=>.Y (decide (j<i))) MH:=FK λv v=>⟨Z,Z⟩
def acY:l4 G (η λi j=>.Y (decide (j<=i))) Y7:=FK λv v=>⟨Z,Z⟩
def EE:D->D->Option D
 |.str a,.str b=>if a.length+b.length<=100000 then U (.str (a++b))else O
 |_,_=>O
def Ir{n:Nat}(h:n<=100000):n<=aC:=bF h (by rw[bV];decide)
set_option tactic.hygienic true
def Wg:l4 G (λx y H Q=>∃i j,x=.str i/\y=.str j/\i.length+j.length<=aC/\Q (.str (i++j)) H) EE:=λx y z h H v u Q e s d f k=>by
 unfold EE at e;split at e
 .rename_i a b;split at e
  .rename_i c;cases e;exact⟨a,b,d,f,Ir c,k _ λr r=>yI _⟩
  .cases e
 .cases e
set_option tactic.hygienic false
def SD:D->D->Option D
 |.str a,.str b=>U (.Y (!decide (b.cps.toList<a.cps.toList)))
 |_,_=>O
set_option tactic.hygienic true
def Ze:l4 G (λx y H Q=>∃i j,x=.str i/\y=.str j/\Q (.Y (!decide (j.cps.toList<i.cps.toList))) H) SD:=λx y z f H v u Q e s c d k=>by
 unfold SD at e;split at e
 .rename_i a b;cases e;exact⟨a,b,c,d,k _ λr r=>wV _⟩
 .cases e
set_option tactic.hygienic false
def D.isN:D->Bool
 |.X=>γ
 |_=>δ
def yA:D->D->Option D
 |x,.X=>U (.Y x.isN)
 |_,_=>O
def vR:D->D->Option D
 |x,.X=>U (.Y (!x.isN))
 |_,_=>O
def O6{d:D}{v:V}(h:en G H d v):decide (v=.X)=d.isN:=by
 cases d<;>unfold en at h
 .subst h;rfl
 .subst h;rfl
 .subst h;rfl
 .subst h;rfl
 .obtain⟨a,b,rfl,_⟩:=h;rfl
 .obtain⟨a,b,rfl,_⟩:=h;rfl
 .obtain⟨a,b,rfl,_⟩:=h;rfl
 .obtain⟨a,c,b,rfl,_⟩:=h;rfl
 .obtain⟨a,e,b,rfl,_⟩:=h;rfl
 .obtain⟨a,b,rfl,_⟩:=h;rfl
def Zg:l4 G (λx y H Q=>y=.X/\Q (.Y (decide (x=.X))) H) yA:=λx y z c H v u Q e s b a k=>by
 unfold yA at e;split at e
 .cases e;unfold en at a;refine⟨a,?_⟩;rw[O6 b];exact k _ λr r=>wV _
 .cases e
def Wh:l4 G (λx y H Q=>y=.X/\Q (.Y (!decide (x=.X))) H) vR:=λx y z c H v u Q e s b a k=>by
 unfold vR at e;split at e
 .cases e;unfold en at a;refine⟨a,?_⟩;rw[O6 b];exact k _ λr r=>wV _
 .cases e
def aef:D->D->Option D
 |.Y a,.Y b=>U (.Y (a != b))
 |_,_=>O
mutual
def B?:D->Option L3.Dq
 |.X=>U .X
 |.Y b=>U (.Y b)
 |.int i=>U (.int i)
 |.str x=>U (.str x)
 |.ef a=>match Bo a with
  |some l=>U (.ef l)
  |none=>O
 |.cf a=>match Bo a with
  |some l=>U (.cf l)
  |none=>O
 |.u? _=>O
 |.obj _ _ _=>O
 |.Z _ _=>O
 |.dit _ _=>O
def Bo:aN->Option (List L3.Dq)
 |[]=>U []
 |d::a=>match B? d with
  |some x=>match Bo a with
   |some l=>U (x::l)
   |none=>O
  |none=>O
end
mutual
theorem HD:∀(d:D) (v:V) (x:L3.Dq),en G H d v->B? d=U x->L3.en G.K H x v
 |.X,v,x,h,e=>by unfold B? at e;cases e;unfold en at h;unfold L3.en;exact h
 |.Y b,v,x,h,e=>by unfold B? at e;cases e;unfold en at h;unfold L3.en;exact h
 |.int b,v,x,h,e=>by unfold B? at e;cases e;unfold en at h;unfold L3.en;exact h
 |.str b,v,x,h,e=>by unfold B? at e;cases e;unfold en at h;unfold L3.en;exact h
 |.ef f,v,x,h,e=>by
  unfold B? at e;cases c:Bo f with
  |none=>simp only[c]at e;cases e
  |some l=>simp only[c]at e;cases e;obtain⟨a,i,rfl,j,m⟩:=h;exact⟨a,i,Z,j,EF f i l m c⟩
 |.cf f,v,x,h,e=>by
  unfold B? at e;cases c:Bo f with
  |none=>simp only[c]at e;cases e
  |some l=>simp only[c]at e;cases e;obtain⟨a,i,rfl,j,m⟩:=h;exact⟨a,i,Z,f5.of j,EF f i l m c⟩
 |.u? _,v,x,h,e=>by unfold B? at e;cases e
 |.obj _ _ _,v,x,h,e=>by unfold B? at e;cases e
 |.Z _ _,v,x,h,e=>by unfold B? at e;cases e
 |.dit _ _,v,x,h,e=>by unfold B? at e;cases e
theorem EF:∀(a:aN) (b:bz) (l:List L3.Dq),di G H a b->Bo a=U l->L3.di G.K H l b
 |[],b,l,h,e=>by unfold Bo at e;cases e;unfold di at h;unfold L3.di;exact h
 |d::a,b,l,h,e=>by
  unfold Bo at e;cases c:B? d with
  |none=>simp only[c]at e;cases e
  |some x=>
   simp only[c]at e;cases f:Bo a with
   |none=>simp only[f]at e;cases e
   |some m=>simp only[f]at e;cases e;obtain⟨v,r,rfl,i,j⟩:=h;exact⟨v,r,Z,HD d v x i c,EF a r m j f⟩
end
def Ln(neg:Bool):D->D->Option D:=λx y=>match xa x&&xa y&&RI (vD x) (vD y)with
 |true=>U (.Y (if neg then !decide (vD x=vD y)else decide (vD x=vD y)))
 |false=>O
def QK(neg:Bool):D->D->Option D:=λx y=>match B? x,B? y with
 |some a,U b=>if Sd a b&&decide (mn a<=20)&&decide (mn b<=20)then U (.Y (if neg then !x? a b else x? a b))else O
 |_,_=>O
def fl(neg:Bool):D->D->Option D:=λx y=>match Ln neg x y with
 |some z=>U z
 |none=>QK neg x y
def Zh:l4 G rEq (Ln δ):=λx y z d H v u Q e s b c k=>by
 unfold Ln at e;cases a:xa x&&xa y&&RI (vD x) (vD y)with
 |false=>simp only[a]at e;cases e
 |true=>simp only[a]at e;cases e;simp only[aV]at a;rw[yO b a.1.1,yO c a.1.2];exact⟨a.2,k _ λr r=>wV _⟩
def Zi:l4 G rNe (Ln γ):=λx y z d H v u Q e s b c k=>by
 unfold Ln at e;cases a:xa x&&xa y&&RI (vD x) (vD y)with
 |false=>simp only[a]at e;cases e
 |true=>simp only[a]at e;cases e;simp only[aV]at a;rw[yO b a.1.1,yO c a.1.2];exact⟨a.2,k _ λr r=>wV _⟩
set_option tactic.hygienic true
def SE{neg:Bool}:l4 G (NT G.K neg) (QK neg):=λx y z j H v u Q e s h i k=>by
 unfold QK at e;cases c:B? x with
 |none=>simp only[c]at e;cases e
 |some a=>
  cases f:B? y with
  |none=>simp only[c,f]at e;cases e
  |some b=>
   simp only[c,f]at e;split at e
   .rename_i d;cases e;simp only[aV,cq]at d;exact⟨a,b,HD x v a (en.mono s _ _ h) c,HD y u b (en.mono s _ _ i) f,d.1.1,d.1.2,d.2,k _ λr r=>wV _⟩
   .cases e
set_option tactic.hygienic false
def Zj(a:X.A.units+64<cLine)(hK:X.K=G.K:=by rfl):j3 X (bB .Eq) (λx y H Q=>rEq x y H Q\/NT G.K δ x y H Q):=by rw[<-hK];exact j3.or ach (YS a)
def Zk(a:X.A.units+64<cLine)(hK:X.K=G.K:=by rfl):j3 X (bB .NotEq) (λx y H Q=>rNe x y H Q\/NT G.K γ x y H Q):=by rw[<-hK];exact j3.or aci (YT a)
def acZ:l4 G (λx y H Q=>rEq x y H Q\/NT G.K δ x y H Q) (fl δ):=l4.or Zh SE
def ac0:l4 G (λx y H Q=>rNe x y H Q\/NT G.K γ x y H Q) (fl γ):=l4.or Zi SE
def SF:D->Option aN
 |.ef a=>U a
 |.cf a=>U a
 |.u? a=>U a
 |_=>O
def O7{d:D}{i:aN}{v:V}(h:en G H d v)(e:SF d=U i):∃p b,v=.ref p/\(f5 G.K H p b\/gk G.K H p b)/\di G H i b:=by
 cases d with
 |ef l=>cases e;unfold en at h;obtain⟨a,b,rfl,c,f⟩:=h;exact⟨a,b,Z,.inr c,f⟩
 |cf l=>cases e;unfold en at h;obtain⟨a,b,rfl,c,f⟩:=h;exact⟨a,b,Z,.inl (f5.of c),f⟩
 |u? l=>cases e;unfold en at h;obtain⟨a,b,rfl,c,f⟩:=h;exact⟨a,b,Z,.inl c,f⟩
 |_=>cases e
def vr(neg:Bool):D->D->Option D:=λx y=>match SF y with
 |some a=>if xa x&&a.all xa then U (.Y (if neg then !inV (vD x) (a.map vD)else inV (vD x) (a.map vD)))else O
 |none=>O
def O8{K:aw}{H b:Hp}{p:Addr}{a:bz}(s:uw H b)(h:f5 K H p a\/gk K H p a):f5 K b p a\/gk K b p a:=h.imp s.seq (gk.mono s)
set_option tactic.hygienic true
def XG{neg:Bool}:l4 G (rIn G.K neg) (vr neg):=λx y z j H v u Q e s d h k=>by
 unfold vr at e;cases b:SF y with
 |none=>simp only[b]at e;cases e
 |some l=>
  simp only[b]at e;split at e
  .rename_i a;cases e;simp only[aV]at a;obtain⟨p,i,rfl,f,c⟩:=O7 h b;refine⟨p,i,Z,O8 s f,?_,?_,?_⟩
   .rw[yO d a.1];exact MF a.1
   .rw[FJ c a.2];exact Ke a.2
   .rw[yO d a.1,FJ c a.2];exact k _ λr r=>wV _
  .cases e
set_option tactic.hygienic false
def Zl(hK:X.K=G.K:=by rfl):j3 X (bB .In) (rIn G.K δ):=by rw[<-hK];exact Qt
def QL(hK:X.K=G.K:=by rfl):j3 X (bB .NotIn) (rIn G.K γ):=by rw[<-hK];exact Lb
def gd(x y:D):Option D:=match y with
 |.int i=>match x with
  |.ef a=>Cc a i
  |.cf a=>Cc a i
  |.u? a=>Cc a i
  |.str x=>if x.length<=100000 then (Cc x.cps.toList i).map λc=>.str ⟨#[c]⟩else O
  |_=>O
 |_=>O
set_option tactic.hygienic true
def ac1:l4 G (rIx G.K) gd:=λx y z B H v u Q e s p A k=>by
 cases y with
 |int i=>
  subst A;cases x with
  |ef d=>obtain⟨a,o,rfl,f,h⟩:=p;obtain⟨w,l,m⟩:=Ey h (show Cc d i=U z from e);exact .inr (.inl ⟨a,o,i,w,Z,Z,gk.mono s f,l,k _ λb j=>en.mono j _ _ m⟩)
  |cf d=>obtain⟨a,o,rfl,f,h⟩:=p;obtain⟨w,l,m⟩:=Ey h (show Cc d i=U z from e);exact .inl ⟨a,o,i,w,Z,Z,s.seq (f5.of f),l,k _ λb j=>en.mono j _ _ m⟩
  |u? d=>obtain⟨a,o,rfl,f,h⟩:=p;obtain⟨w,l,m⟩:=Ey h (show Cc d i=U z from e);exact .inl ⟨a,o,i,w,Z,Z,s.seq f,l,k _ λb j=>en.mono j _ _ m⟩
  |str t=>
   subst p;unfold gd at e;simp only at e;split at e
   .rename_i r;cases q:Cc t.cps.toList i with
    |none=>rw[q]at e;cases e
    |some c=>rw[q]at e;cases e;exact .inr (.inr ⟨t,i,c,Z,Z,Ir r,q,k _ λn n=>yI _⟩)
   .cases e
  |_=>cases e
 |_=>cases e
set_option tactic.hygienic false
def ix_X(hK:X.K=G.K:=by rfl):IxR X (rIx G.K):=by rw[<-hK];exact YH
def Iu(G:Bg)(r:bz->Hp->VK->Prop)(g:D->Option D):Prop:=∀x z b H v (Q:VK),g x=U z->uw b H->en G b x v->(∀w,(∀a,uw b a->en G a z w)->Q w H)->r [v] H Q
def SG{e:Expr}{r:bz->Hp->VK->Prop}{g:D->Option D}{f:FE}(p:Iu G r g)(h:PE X e (tCB r (rm G (bt f uN)))):PE X e (tF G (c1 g f)):=PE.ea h λB H Q o=>by obtain⟨F,y,i,d,b,R,e,k⟩:=o;obtain⟨x,l,m⟩:=Eu e;refine⟨F,y,i,[x],b,R,by unfold bt;rw[l];rfl,λA j a s c rs=>?_⟩;obtain⟨v,z,rfl,u,t⟩:=rs;subst t;exact p x d j a v Q m c.sub u λw q=>k _ _ _ s c (q _ (uw.refl _))
def vQ.or{f:aa}{r b:bz->Hp->VK->Prop}(h:vQ X f r)(j:vQ X f b):vQ X f (λx H Q=>r x H Q\/b x H Q):=λa s i H e d Q I c q=>q.elim (h a s i H e d Q I c) (j a s i H e d Q I c)
def xc:D->Option D
 |.ef a=>U (.int a.length)
 |.cf a=>U (.int a.length)
 |.u? a=>U (.int a.length)
 |.str x=>if x.length<=100000 then U (.int x.length)else O
 |.Z b a=>U (.int b.length)
 |_=>O
def QM:vQ X (.builtin "len") (λc H Q=>∃a kvs,c=[V.ref a]/\Rd H a (.dK kvs)/\Q (.int kvs.length) H):=by intro b s l H c j Q I r h;obtain⟨a,kvs,rfl,e,q⟩:=h;obtain⟨u,rfl,f⟩:=m? r;cases f;exact acx I e λt i d=>⟨.int kvs.length,H,d,⟨t,Z⟩,q⟩
def XH(K:aw):bz->Hp->VK->Prop:=λb H Q=>(∃p c,b=[.ref p]/\(f5 K H p c\/gk K H p c)/\Q (.int c.length) H)\/((∃z,b=[.str z]/\z.length<=aC/\Q (.int z.length) H)\/(∃a kvs,b=[V.ref a]/\Rd H a (.dK kvs)/\Q (.int kvs.length) H))
def QN(hK:X.K=G.K:=by rfl):vQ X (.builtin "len") (XH G.K):=by rw[<-hK];exact vQ.or Lc (vQ.or Ld QM)
set_option tactic.hygienic true
def Zm:Iu G (XH G.K) xc:=λx z j H v Q e s f k=>by
 cases x with
 |ef h=>cases e;obtain⟨a,d,rfl,b,c⟩:=f;refine .inl ⟨a,d,Z,.inr (gk.mono s b),?_⟩;rw[<-uk c];exact k _ λr r=>wF _
 |cf h=>cases e;obtain⟨a,d,rfl,b,c⟩:=f;refine .inl ⟨a,d,Z,.inl (s.seq (f5.of b)),?_⟩;rw[<-uk c];exact k _ λr r=>wF _
 |u? h=>cases e;obtain⟨a,d,rfl,b,c⟩:=f;refine .inl ⟨a,d,Z,.inl (s.seq b),?_⟩;rw[<-uk c];exact k _ λr r=>wF _
 |str t=>
  unfold xc at e;simp only at e;split at e
  .rename_i i;cases e;exact .inr (.inl ⟨t,by rw[f],Ir i,k _ λr r=>wF _⟩)
  .cases e
 |Z m h=>cases e;obtain⟨a,o,d,rfl,b,c,l⟩:=f;refine .inr (.inr ⟨a,_,Z,.inr ⟨o,s _ _ b⟩,?_⟩);rw[iG,<- c,iP];exact k _ λr r=>wF _
 |_=>cases e
set_option tactic.hygienic false
def NZ:D->Option D
 |.int i=>U (.int i)
 |.Y b=>U (.int (if b then 1 else 0))
 |_=>O
def Zn:Iu G (λc H Q=>(∃i,c=[.int i]/\Q (.int i) H)\/∃k,c=[.Y k]/\Q (.int (if k then 1 else 0)) H) NZ:=λx z d H v Q e s a k=>by
 cases x with
 |int i=>cases e;unfold en at a;subst a;exact .inl ⟨i,Z,k _ λu u=>wF _⟩
 |Y b=>cases e;unfold en at a;subst a;exact .inr ⟨b,Z,k _ λu u=>wF _⟩
 |_=>cases e
def JJ:aN->Option (List Bool)
 |[]=>U []
 |.Y b::r=>(JJ r).map (b::·)
 |_=>O
theorem Iv:∀{d:aN} {a:bz} {bs:List Bool},di G H d a->JJ d=U bs->a=bs.map V.Y
 |[],a,bs,h,e=>by cases e;unfold di at h;exact h
 |.Y b::r,a,bs,h,e=>by
  obtain⟨v,q,rfl,f,i⟩:=h;unfold JJ at e;cases c:JJ r with
  |none=>rw[c]at e;cases e
  |some l=>rw[c]at e;cases e;unfold en at f;subst f;rw[Iv i c];rfl
 |.X::r,a,bs,h,e=>by cases e
 |.int _::r,a,bs,h,e=>by cases e
 |.str _::r,a,bs,h,e=>by cases e
 |.ef _::r,a,bs,h,e=>by cases e
 |.cf _::r,a,bs,h,e=>by cases e
 |.u? _::r,a,bs,h,e=>by cases e
 |.obj _ _ _::r,a,bs,h,e=>by cases e
 |.Z _ _::r,a,bs,h,e=>by cases e
 |.dit _ _::r,a,bs,h,e=>by cases e
def yZ:D->Option D
 |.cf a=>(JJ a).map λbs=>.Y (bs.all id)
 |_=>O
def Zo:Iu G (λd H Q=>∃(p:Addr) (bs:List Bool),d=[.ref p]/\f5 G.K H p (bs.map V.Y)/\Q (.Y (bs.all id)) H) yZ:=λx z j H v Q e s i k=>by
 cases x with
 |cf f=>
  unfold yZ at e;simp only at e;cases b:JJ f with
  |none=>rw[b]at e;cases e
  |some bs=>rw[b]at e;cases e;obtain⟨a,d,rfl,c,h⟩:=i;rw[Iv h b]at c;exact⟨a,bs,Z,s.seq (f5.of c),k _ λu u=>wV _⟩
 |_=>cases e
def QO(a:X.ll=γ)(hK:X.K=G.K:=by rfl):vQ X (.builtin "all") (λb H Q=>∃(p:Addr) (bs:List Bool),b=[.ref p]/\f5 G.K H p (bs.map V.Y)/\Q (.Y (bs.all id)) H):=by rw[<-hK];exact Sa a
inductive Ty where
 |b (n:String)|c (k:Nat)
def Ty.val(G:Bg):Ty->aa
 |.b n=>.type n
 |.c k=>.ref (G.ca k)
def Ty.v(G:Bg):Ty->V
 |.b n=>.ty n
 |.c k=>.ref (G.ca k)
def tyD:D->Ty
 |.X=>.b "NoneType" |.Y _=>.b "bool" |.int _=>.b "int" |.str _=>.b "str" |.ef _=>.b "tuple" |.cf _=>.b "list" |.u? _=>.b "list" |.Z _ _=>.b "dict" |.dit _ _=>.b "dict" |.obj c _ _=>.c c
structure MI(K:aw)(C:Addr):Prop where
 cl:ζ K C
 ha:cX K (.ref C) "__class__" = U (U (.builtin "object.__class__"))
 hn:qL K (.builtin "object.__class__") "__get__" = U (U (.builtin "getset_descriptor.__get__"))
 htk:W.takesIn K (.builtin "object.__class__")=U γ
 hm:W.mroIn K C (.type "object")=U γ
def SI{pins:cA}{σ:St}{s:af}{A:aG}{E:aa->af->Prop}{Q:aa->af->Prop}{c:aa}{b:Bool}{d:D}{v:V}{u:aa}(I:dr X pins σ H s)(hK:X.K=G.K)(hd:en G H d v)(f:eo v u)(m:∀k ns ds,d=.obj k ns ds->MI X.K (G.ca k))
  (e:bX X.K ((tyD d).val G) c=U b) (h:∀tk,Q (.bool b) { s with toks:=tk }):ao (model X.prog X.w) A (call (.builtin "isinstance") [u,c]) Q E s:=by
 cases d with
 |X=>unfold en at hd;subst hd;exact zm I f .X e h
 |Y x=>unfold en at hd;subst hd;exact zm I f (.Y x) e h
 |int x=>unfold en at hd;subst hd;exact zm I f (.int x) e h
 |str x=>unfold en at hd;subst hd;exact zm I f (.str x) e h
 |ef ds=>obtain⟨a,xs,rfl,h1,h2⟩:=hd;cases f;rw[<-hK]at h1;obtain⟨l,_,p,_⟩:=I.tuple h1;obtain⟨o,i,j,_⟩:=p;exact cN ml I.ny ⟨o,i,j⟩ e (λz=>nomatch z) h
 |cf ds=>obtain⟨a,xs,rfl,h1,h2⟩:=hd;exact zm I f (.cf h1) e h
 |u? ds=>obtain⟨a,xs,rfl,h1,h2⟩:=hd;cases f;rw[<-hK]at h1;obtain⟨l,_,p,_⟩:=I.list h1;obtain⟨o,n,i,j,_⟩:=p;exact cN iR I.ny ⟨o,i,j⟩ e (λz=>nomatch z) h
 |Z ks ds=>obtain⟨a,o,xs,rfl,h1,h2,h3⟩:=hd;cases f;obtain⟨q,_,_,vs,_,ob,es,ep,i,j,_⟩:=(show e8 X.prog X.w H s.heap a (.oz o (.dK (ks.zip xs))) from I.fb a _ h1);exact cN gV I.ny ⟨ob,i,j.1⟩ e (λz=>nomatch z) h
 |dit ks ds=>obtain⟨a,xs,rfl,⟨o,qs,h1,_,h3,_⟩,_⟩:=hd;cases f;exact cN gV I.ny ⟨o,(show e8 X.prog X.w H s.heap a (.ext (isO a o)) from I.fb a _ h1).1,h3.ex.1⟩ e (λz=>nomatch z) h
 |obj k ns ds=>have ci:=m k ns ds Z;obtain⟨a,dx,xs,rfl,h1,h2,h3⟩:=hd;exact zm I f (.mr h1 ci.cl ci.ha ci.hn ci.htk ci.hm) e h
def vv(t:Ty->Option Bool):D->Option D:=λd=>(t (tyD d)).map .Y
def Kg(c:Ty){t:Ty->Option Bool}(m:∀y b,t y=U b->bX X.K (y.val G) (c.val G)=U b)(l:∀k b,t (.c k)=U b->MI X.K (G.ca k))(hK:X.K=G.K:=by rfl):
  vQ X (.builtin "isinstance") (λi H Q=>∃d x b,i=[x,c.v G]/\en G H d x/\t (tyD d)=U b/\Q (.Y b) H):=by
 intro f s E H i C Q I r h;obtain⟨d,x,b,rfl,hd,e,q⟩:=h;obtain⟨u,p,rfl,o,a⟩:=vals2 r;have j:p=c.val G:=by cases c<;>exact a
 subst j;exact SI I hK hd o (λk A w z=>by subst z;exact l k b e) (m _ _ e) λB=>⟨.Y b,H,I.vl _,Z,q⟩
def O9{e:Expr}{c:Ty}{t:Ty->Option Bool}{f:FE}(h:PE X e (tCB (λu H Q=>∃d x b,u=[x,c.v G]/\en G H d x/\t (tyD d)=U b/\Q (.Y b) H) (Cf (tF G f) (Cf (tC (c.v G)) HR)))):PE X e (tF G (c1 (vv t) f)):=PE.ea h λz H Q q=>by
 obtain⟨F,w,m,d,j,R,e,k⟩:=q;obtain⟨x,p,a⟩:=Eu e;unfold vv at a;cases i:t (tyD x)with
 |none=>rw[i]at a;cases a
 |some b=>rw[i]at a;cases a;exact⟨F,w,m,x,j,R,p,λv y o s l r=>⟨x,v,b,Z,en.mono l.sub _ _ r,i,k _ _ _ s l (wV b)⟩⟩
def wG(f g:FE):FA:=λe=>match f e with
 |some (.cf c,a)=>match g a with
  |some (.cf d,b)=>if c.length+d.length<=1000 then U (c++d,b)else O
  |_=>O
 |_=>O
set_option tactic.hygienic true
def Wi{a b:Expr}{f g:FE}{pos:Pos}(I:PE X a (tF G f))(J:PE X b (tF G g)):PE X (.BinOp a .Add b pos) (D0 G (wG f g)):=PE.ea (Mb RV I J) λσ H Q M=>by
 obtain⟨F,T,q,d,W,R,e,k⟩:=M;unfold wG at e;split at e
 .rename_i xs c A;split at e
  .rename_i ys Y B;split at e
   .rename_i N;cases e;refine⟨F,T,q,_,c,R,A,λv t w s y r=>⟨F,c,t,_,_,y,B,λu H2 x o R2 S=>?_⟩⟩;have P:=en.mono o _ _ r;obtain⟨a1,i,rfl,C,l⟩:=P;obtain⟨z,j,rfl,E,m⟩:=S;refine⟨a1,z,i,j,Z,Z,R2.sub _ _ C,R2.sub _ _ E,by rw[<-uk l,<- uk m];exact w6 N,λp h=>?_⟩;exact k p _ _ _ (s.t o) (R2.jj h _) uu (R2.fx h) (R2.iE h) (R2.apart h) (wa l m)
   .cases e
  .cases e
 .cases e
set_option tactic.hygienic false
def zx(f:FE):FA:=λc=>match f c with
 |some (d,a)=>match SF d with
  |some b=>U (b,a)
  |none=>O
 |none=>O
def SJ{e:Expr}{f:FE}(h:PE X e (tCB (λm H Q=>∃p c,m=[.ref p]/\(f5 G.K H p c\/gk G.K H p c)/\∀l,H l=O->Q (.ref l) (e7 H l (.cf c))) (rm G (bt f uN)))):PE X e (D0 G (zx f)):=PE.ea h λJ H Q x=>by
 obtain⟨F,o,q,E,A,R,e,k⟩:=x;unfold zx at e;rcases uI (f:=f) (ρ:=o)with i|⟨d,B,i⟩<;>simp only[i]at e
 .cases e
 .cases j:SF d with
  |none=>simp only[j]at e;cases e
  |some t=>simp only[j]at e;cases e;refine⟨F,o,q,[d],_,R,by unfold bt;rw[i];rfl,λc C r s a rs=>?_⟩;obtain⟨v,I,rfl,z,y⟩:=rs;subst y;obtain⟨p,m,rfl,u,w⟩:=O7 z j;exact⟨p,m,Z,O8 a.sub u,λl b=>k l _ _ _ s (a.jj b _) uu (a.fx b) (a.iE b) (a.apart b) w⟩
def N0(hK:X.K=G.K:=by rfl):vQ X (.type "list") (λb H Q=>∃p a,b=[.ref p]/\(f5 G.K H p a\/gk G.K H p a)/\∀l,H l=O->Q (.ref l) (e7 H l (.cf a))):=by rw[<-hK];exact Le
def EG(f:FE):FE:=λc=>match f c with
 |some (.cf b,a)=>U (.ef b,a)
 |some (.ef b,a)=>U (.ef b,a)
 |_=>O
set_option tactic.hygienic true
def SK{e:Expr}{f:FE}(h:PE X e (tCB (λr H Q=>∃p b,r=[.ref p]/\((f5 G.K H p b/\∀l,H l=O->Q (.ref l) (e7 H l (.ef b)))\/(gk G.K H p b/\Q (.ref p) H))) (rm G (bt f uN)))):PE X e (tF G (EG f)):=PE.ea h λI H Q A=>by
 obtain⟨F,y,w,E,C,R,e,k⟩:=A;unfold EG at e;split at e
 .rename_i r u i;cases e;refine⟨F,y,w,[_],_,R,by unfold bt;rw[i];rfl,λb z d s a rs=>?_⟩;obtain⟨v,B,rfl,c,o⟩:=rs;subst o;obtain⟨p,t,rfl,j,x⟩:=c;refine⟨p,t,Z,.inl ⟨f5.of (a.sub _ _ j),λl m=>?_⟩⟩;exact k _ _ _ (s.t (uH (a.fx m) _)) (a.L0 m _) (Et (gk.of uu) (di.mono (uH (a.fx m) _) _ _ x))
 .rename_i r u i;cases e;refine⟨F,y,w,[_],_,R,by unfold bt;rw[i];rfl,λb z d s a rs=>?_⟩;obtain⟨v,B,rfl,c,o⟩:=rs;subst o;have q:=c;obtain⟨p,t,rfl,j,x⟩:=c;exact⟨p,t,Z,.inr ⟨gk.mono a.sub j,k _ _ _ s a q⟩⟩
 .cases e
set_option tactic.hygienic false
def QP(hK:X.K=G.K:=by rfl):vQ X (.type "tuple") (λb H Q=>∃p a,b=[.ref p]/\((f5 G.K H p a/\∀l,H l=O->Q (.ref l) (e7 H l (.ef a)))\/(gk G.K H p a/\Q (.ref p) H))):=by rw[<-hK];exact JD
def p?(xs:aN)(lo a:Option Int):aN:=(xs.drop (HT.i? xs.length 0 lo)).take (HT.i? xs.length xs.length a - HT.i? xs.length 0 lo)
def MJ{a:Hp}{b:aN}{d:bz}{lo c:Option Int}(r:di G a b d):di G a (p? b lo c) (Mh d lo c):=by unfold p? Mh;rw[<-uk r];exact Ka _ (J4 _ r)
def tO(o:Option Int):TO:=λv H Q=>Q o H
def SL{n:Int}{j pos}:PO X (U (.Constant (.int n) j pos)) (tO (U n)):=λa s b H Q I h=>OU Nx a s b H Q I ⟨n,Z,h⟩
def ac2:PO X O (tO O):=OT
def sl_X(hK:X.K=G.K:=by rfl):SlR X (VA G.K):=by rw[<-hK];exact VB
end
def Sl.bor:Sl->Sl
 |.un=>.un
 |.I d=>.I d
 |.ls a=>.I (.cf a)
 |.pm a=>.I (.cf a)
 |.dk _ _=>.un
 |.ob c b a=>.I (.obj c b a)
section
variable{X:Cx}{G:Bg}
theorem dt.bor(R:dt G F σ ρ H0 H):dt G ⟨H,H,[]⟩ σ (ρ.map Sl.bor) H H where
 sub:=uw.refl _
 g0:=uw.refl _
 keep:=λb o e u=>e
 fr:=λb o e=>.inl e
 am:=λa h=>by cases h
 len:=by rw[ah];exact R.len
 sl:=λi s e=>by
  rw[bA]at e;cases f:ρ[i]? with
  |none=>rw[f]at e;cases e
  |some t=>
   rw[f]at e;cases e;have ok:=R.sl i t f;cases t with
   |un=>trivial
   |I d=>obtain⟨v,h1,h2⟩:=ok;exact⟨v,h1,en.mono R.sub _ _ h2⟩
   |ls ds=>obtain⟨a,xs,h1,h2,h3,h4,h5⟩:=ok;exact⟨_,h1,Ac h2 (di.mono R.sub _ _ h5)⟩
   |pm ds=>obtain⟨a,xs,h1,h2,h3,h4,h5⟩:=ok;exact⟨_,h1,Ac h2 (di.mono R.sub _ _ h5)⟩
   |dk ks ds=>trivial
   |ob c ns ds=>obtain⟨a,dx,xs,h1,h2,h3,h4,h5,h6⟩:=ok;exact⟨_,h1,by unfold en;exact⟨a,dx,xs,Z,h2,h5,di.mono R.sub _ _ h6⟩⟩
 ap:=λi j s t a u e u so=>by
  rw[bA]at e;cases f:ρ[i]? with
  |none=>rw[f]at e;cases e
  |some t=>rw[f]at e;cases e;cases t<;>cases so
def dt.unbor(R:dt G F h ρ d H)(c:dt G ⟨H,H,[]⟩ i f j a):dt G F h ρ d a:=
 R.gf (λb o e=>c.keep b o e (by simp)) (uw.refl _) (λb o e=>c.keep b o (R.sub _ _ e) (by simp)) λb o e=>.inl e
def Cd(f:FE):FE:=λa=>match f (a.map Sl.bor)with
 |some (d,_)=>if xa d=γ then U (d,a)else O
 |none=>O
def Cp(f:FT):FT:=λa=>match f (a.map Sl.bor)with
 |some (d,_)=>U (d,a)
 |none=>O
set_option tactic.hygienic true
def Zp(h:PE X e (tF G f)):PE X e (tF G (Cd f)):=PE.ea h λt H Q m=>by
 obtain⟨F,i,p,d,o,R,e,k⟩:=m;unfold Cd at e;rcases uI (f:=f) (ρ:=i.map Sl.bor)with a|⟨x,b,a⟩<;>simp only[a]at e
 .cases e
 .split at e
  .rename_i c;cases e;refine⟨_,_,H,d,b,R.bor,a,λv q j s l r=>?_⟩;rw[yO r c];exact k _ _ _ (uw.refl _) (R.unbor l) (ED c _)
  .cases e
set_option tactic.hygienic false
def Wj(h:PT X e (nj G f)):PT X e (nj G (Cp f)):=PT.ea h λq H Q l=>by
 obtain⟨F,c,o,d,m,R,e,k⟩:=l;unfold Cp at e;rcases uI (f:=f) (ρ:=c.map Sl.bor)with a|⟨x,b,a⟩<;>simp only[a]at e
 .cases e
 .cases e;exact⟨_,_,H,d,b,R.bor,a,λp i s j=>k _ _ (uw.refl _) (R.unbor j)⟩
def xT(g h:D->D->Option D)(d e f:FE):FE:=λi=>match d i with
 |some (x,b)=>match e b with
  |some (y,a)=>match g x y with
   |some (.Y γ)=>match f a with
    |some (z,c)=>match h y z with
     |some w=>U (w,c)
     |none=>O
    |none=>O
   |some (.Y δ)=>U (.Y δ,a)
   |_=>O
  |none=>O
 |none=>O
set_option tactic.hygienic true
def MK(ho:l4 G r g)(I:l4 G r' Y):∀M H Q,tF G (xT g Y S T W) M H Q->NF r r' (tF G S) (tF G T) (tF G W) M H Q:=λM H Q hh=>by
 obtain⟨F,m,H0,d,ρ',R,e,k⟩:=hh;unfold xT at e;rcases uI (f:=S) (ρ:=m)with p|⟨x,b,p⟩<;>simp only[p]at e
 .cases e
 rcases uI (f:=T) (ρ:=b)with A|⟨y,c,A⟩<;>simp only[A]at e
 .cases e
 refine⟨F,m,H0,x,b,R,p,λv H1 H1' s1 R1 r1=>⟨F,b,H1,y,c,R1,A,λu h i o R2 J=>?_⟩⟩;split at e
 .rename_i B;refine ho x y _ h i v u _ B R2.sub (en.mono o _ _ r1) J λw l=>?_;have a:=l h (uw.refl _);refine⟨γ,a,Ia ?_⟩;rcases uI (f:=W) (ρ:=c)with C|⟨z,ρ3,C⟩<;>simp only[C]at e
  .cases e
  cases E:Y y z with
  |none=>simp only[E]at e;cases e
  |some q=>simp only[E]at e;cases e;refine⟨F,c,h,z,_,R2,C,λt N j s3 P r3=>?_⟩;exact I y z _ N j u t Q E P.sub (en.mono s3 _ _ J) r3 λw l=>k w N j (s1.t (o.t s3)) P (l _ (uw.refl _))
 .rename_i B;cases e;refine ho x y _ h i v u _ B R2.sub (en.mono o _ _ r1) J λw l=>?_;have a:=l h (uw.refl _);exact⟨δ,a,HZ (k _ _ _ (s1.t o) R2 (wV δ))⟩
 .cases e
set_option tactic.hygienic false
def SM(w:j3 X (bB h) r)(f:j3 X (bB d) x)(u:l4 G r g)(e:l4 G x m)(o:PE X a (tF G i))(p:PE X b (tF G j))(q:PE X c (tF G l))
  (t:lastMarks [h,d] [b,c]=δ:=by with_unfolding_all rfl):PE X (.Compare a [h,d] [b,c] pos) (tF G (xT g m i j l)):=PE.ea (RM w f o p q t) (MK u e)
def QQ(C:j3 X (bB l) r)(i:j3 X (bB f) E)(B:l4 G r g)(h:l4 G E u)(w:PE X a (tF G p))(x:PE X b (tF G q))(y:PE X c (tF G t))
  (A:lastMarks [l,f] [b,c]=δ:=by with_unfolding_all rfl):PT X (.Compare a [l,f] [b,c] pos) (nj G (cT (xT g u p q t))):=PT.ea (RN C i w x y A) λm H Q z=>by
 obtain⟨F,I,o,d,j,R,e,k⟩:=O1 m H Q z;exact MK B h m H _ ⟨F,I,o,d,j,R,e,k⟩
end
def DA(P:aB)(w:az)(K:aw)(b:Str->Option aa)(b?:Heap)(k:Nat)(x:Str)(c:aE)(d:Sp):Prop:=
 ∃(f:Addr) (a:bS),b x=U (.ref f)/\de K (.ref f)=γ/\j4 K a c []/\xC P w K b b? F? k f a c d
def Lo(G:Bg)(P:aB)(w:az)(d:Str->Option aa)(b?:Heap)(k:Nat)(x:Str)(c:Nat)(e:aE)(dvs:bz)(g:aN->Option (aE×aN)):Prop:=
 ∃(f:Addr) (b:bS) (a:List aa),Mk G.K (G.ca c) f/\d x=U (.ref (G.ca c))/\j4 G.K b e a/\eg dvs a/\xC P w G.K d b? F? k f b e (spI G c g)
def Bp(G:Bg)(P:aB)(w:az)(d:Str->Option aa)(b?:Heap)(k:Nat)(m:Str)(c:Nat)(h:aN->Option D):Prop:=
 ∃(f:Addr) (a:bS) (b:aE),ζ G.K (G.ca c)/\Meth G.K (G.ca c) m f/\j4 G.K a b []/\xC P w G.K d b? F? k f a b (fi G h)
section
variable{X:Cx}{G:Bg}{k:Nat}{x m:Str}{p pos apos:Pos}{e o:Expr}{es:List Expr}{a:FA}{ps:aE}
def Gk{c:Type}(g:aN->c):(λb=>g (b++[]))=g:=funext λb=>by rw[bO]
def Zq(D:DA X.prog X.w X.K X.mg X.b? k x ps (fi G g))(t:wt k X.A)(j:PA X (e::es) (rm G a))(r:Gl X x:=by rfl)(b:(x==("__debug__" : Str))=δ:=by decide)(l:ay (e::es) X.cb=(δ,eval e X.cb)::ay es X.cb:=by rfl)(hpl:(bE pos (ay es X.cb)).any (·.1)=δ:=by rfl):
  PE X (.Call (.Name x p) (e::es) [] pos) (tF G (ug g a)):=by
 obtain⟨f,u,c,d,h,i⟩:=D;have q:=V7 (λv=>uU) (El (p:=p) i t r c d h .nil HY j b l hpl);rw[Gk]at q;exact q
def Wk(D:DA X.prog X.w X.K X.mg X.b? k x ps (u1 G g))(t:wt k X.A)(j:PA X (e::es) (rm G a))(r:Gl X x:=by rfl)(b:(x==("__debug__" : Str))=δ:=by decide)(l:ay (e::es) X.cb=(δ,eval e X.cb)::ay es X.cb:=by rfl)(hpl:(bE pos (ay es X.cb)).any (·.1)=δ:=by rfl):
  PE X (.Call (.Name x p) (e::es) [] pos) (D0 G (u4 g a)):=by
 obtain⟨f,u,c,d,h,i⟩:=D;have q:=Ss (λv=>uU) (El (p:=p) i t r c d h .nil HY j b l hpl);rw[Gk]at q;exact q
def SN(D:DA X.prog X.w X.K X.mg X.b? k x ps (u1 G g))(l:wt k X.A)(j:Gl X x:=by rfl)(b:(x==("__debug__" : Str))=δ:=by decide):PE X (.Call (.Name x p) [] [] pos) (D0 G (u4 g uN)):=by obtain⟨f,q,c,d,h,i⟩:=D;exact QE (RR i l j c d h .nil HY b)
def Wl(D:DA X.prog X.w X.K X.mg X.b? k x ps (vo G g))(t:wt k X.A)(u:PE X e (z7 i))(q:PA X es (rm G a))(r:Gl X x:=by rfl)(b:(x==("__debug__" : Str))=δ:=by decide)(c:ay (e::es) X.cb=(δ,eval e X.cb)::ay es X.cb:=by rfl)(hpl:(bE pos (ay es X.cb)).any (·.1)=δ:=by rfl):
  PE X (.Call (.Name x p) (e::es) [] pos) (tF G (vd g i a)):=by
 obtain⟨f,y,d,h,j,l⟩:=D;exact Y6 (El l t r d h j .nil HY (vq u q c) b c hpl)
def Wm(M:Lo G X.prog X.w X.mg X.b? k x c ps dvs g)(hd:∀H,di G H dds dvs)(y:wt (k+1) X.A)(r:PA X (e::es) (rm G a))(hK:X.K=G.K:=by rfl)(u:Gl X x:=by rfl)(b:(x==("__debug__" : Str))=δ:=by decide)
  (t:ay (e::es) X.cb=(δ,eval e X.cb)::ay es X.cb:=by rfl) (hpl:(bE pos (ay es X.cb)).any (·.1)=δ:=by rfl):
  PE X (.Call (.Name x p) (e::es) [] pos) (tF G (uO c (λd=>g (d++dds)) a)):=by
 obtain⟨f,z,d,h,l,i,q,j⟩:=M;rw[<-hK]at h i j;exact V9 hd (Vv h j y u l i q HY r b t hpl)
def XI(M:∀c h,g c=U h->Bp G X.prog X.w X.mg X.b? k m c h)(q:wt k X.A)(hK:X.K=G.K):∀C b,MT G g C b->MOk X C m b [] E0:=λC b h=>by obtain⟨c,h,e,rfl,rfl⟩:=h;obtain⟨f,l,ps,d,i,q3,j⟩:=M c h e;rw[<-hK]at d i q3 j;exact⟨k,f,l,ps,[],d,i,j,q,q3,.nil,HY⟩
def QR(M:∀c h,g c=U h->Bp G X.prog X.w X.mg X.b? k m c h)(j:wt k X.A)(i:PE X o (tF G f))(d:PA X (e::es) (rm G a))(hK:X.K=G.K:=by rfl)
  (hst:ay (e::es) X.cb=(δ,eval e X.cb)::ay es X.cb:=by rfl) (hpl:(bE pos (ay es X.cb)).any (·.1)=δ:=by rfl)
  (l:eval (.Call (.Attribute o m apos) (e::es) [] pos) X.cb=(do
   let b<-eval o X.cb
   standAt apos.atName
   let (f,first)<-holding [b] (getMethod b m pl)
   callWith pos f first (bE pos (ay (e::es) X.cb)) (backToKw pos (d6 [] X.cb))):=by rfl):
  PE X (.Call (.Attribute o m apos) (e::es) [] pos) (tF G (uG g m f a)):=V8 (Sv (MT G g) (XI M j hK) i d hst hpl l)
def N1(M:∀c h,g c=U h->Bp G X.prog X.w X.mg X.b? k m c h)(i:wt k X.A)(d:PE X o (tF G f))(hK:X.K=G.K:=by rfl)
  (j:eval (.Call (.Attribute o m apos) [] [] pos) X.cb=(do
   let b<-eval o X.cb
   standAt apos.atName
   let (f,first)<-holding [b] (getMethod b m pl)
   callWith pos f first (bE pos (ay [] X.cb)) (backToKw pos (d6 [] X.cb))):=by rfl):
  PE X (.Call (.Attribute o m apos) [] [] pos) (tF G (uG g m f uN)):=Sw (QG (MT G g) (XI M i hK) d j)
end
section
variable{P:aB}{w:az}{K:aw}{mg:Str->Option aa}{b?:Heap}{x qual:Str}{st:Stmt}{f T:Addr}{fd:bS}{N ps:aE}{k:Nat}{G:Bg}
abbrev Cq(P:aB)(w:az)(K:aw)(mg:Str->Option aa)(b?:Heap)(N:aE)(qual:Str)(st:Stmt)(f:Addr)(cdv:aa)(A:aG)(dg:List Env)(s:af)(H:Hp)(E:XK):Cx:=(K8 F? P w K mg b? N qual (uE st) f cdv A dg s H E).nox
theorem SO(a:g=e0 np n b)(c:ps.length=np)(hN:N.length=n)(F:Fun K x qual st f fd)(S:wD N ps (uE st))(body:∀(cdv:aa) (A:aG) (dg:List Env) (s:af) (H:Hp) (E:XK),wt k (A.deeper (envOfC qual (uE st) s.heap.objs.size f cdv))->lr (Cq P w K mg b? N qual st f cdv A dg s H E) (uX st) (lb G b)):
  xC P w K mg b? F? (k+1) f fd ps (fi G g):=by
 subst a c hN;exact F.ok S (acO V3) λcdv A dg s H e Q E d h=>⟨_,body cdv A dg s H E d,V1 (by have:=bD cQ S.pre;rw[bU]at this;omega) h⟩
theorem ac3(a:g=A' e n b)(c:ps.length=e)(hN:N.length=n)(F:Fun K x qual st f fd)(S:wD N ps (uE st))(body:∀(cdv:aa) (A:aG) (dg:List Env) (s:af) (H:Hp) (E:XK),wt k (A.deeper (envOfC qual (uE st) s.heap.objs.size f cdv))->lr (Cq P w K mg b? N qual st f cdv A dg s H E) (uX st) (lb G b)):
  xC P w K mg b? F? (k+1) f fd ps (u1 G g):=by
 subst a c hN;exact F.ok S (acP V4) λcdv A dg s H i Q E d h=>⟨_,body cdv A dg s H E d,V2 (by have:=bD cQ S.pre;rw[bU]at this;omega) h⟩
theorem ac4{ps:aE}(a:g=tj e n b)(c:ps.length=e)(hN:N.length=n)(F:Fun K x qual st f fd)(S:wD N (p::ps) (uE st))(body:∀(cdv:aa) (A:aG) (dg:List Env) (s:af) (H:Hp) (E:XK),wt k (A.deeper (envOfC qual (uE st) s.heap.objs.size f cdv))->lr (Cq P w K mg b? N qual st f cdv A dg s H E) (uX st) (lb G b)):
  xC P w K mg b? F? (k+1) f fd (p::ps) (vo G g):=by
 subst a c hN;exact F.ok S (acT Wd) λcdv A dg s H i Q E d h=>⟨_,body cdv A dg s H E d,Wc (by have:=bD cQ S.pre;rw[bU,aS]at this;omega) h⟩
def XJ(d:∀a q,g a=U q->a.length=i):∀b H Q E,spI G c g b H Q E->b.length=i+1:=λb H Q E h=>by obtain⟨p,l,t,j,a,o,m,rfl,_,_,_,r,e,_⟩:=h;rw[aS,<- uk r,d _ _ e]
theorem ac5{ps:aE}(a:g=x3 c i n b)(d:ps.length=i)(hN:N.length=n)(F:Fun K x qual st f fd)(S:wD N (p::ps) (uE st))(body:∀(cdv:aa) (A:aG) (dg:List Env) (s:af) (H:Hp) (E:XK),wt k (A.deeper (envOfC qual (uE st) s.heap.objs.size f cdv))->lr (Cq P w K mg b? N qual st f cdv A dg s H E) (uX st) (lb G b)):
  xC P w K mg b? F? (k+1) f fd (p::ps) (spI G c g):=by
 subst a d hN;exact F.ok S (XJ λj q h=>(Il h).1) λcdv A dg s H l Q E e h=>⟨_,body cdv A dg s H E e,O4 (by have:=bD cQ S.pre;rw[bU,aS]at this;omega) h⟩
theorem Zr{ps:aE}(a:g=x3 c i n b)(d:ps.length=i)(hN:N.length=n)(F:QB K x qual st f fd T)(S:wD N (p::ps) (uE st))(body:∀(cdv:aa) (A:aG) (dg:List Env) (s:af) (H:Hp) (E:XK),wt k (A.deeper (envOfC qual (uE st) s.heap.objs.size f cdv))->lr (Cq P w K mg b? N qual st f cdv A dg s H E) (uX st) (lb G b)):
  xC P w K mg b? F? (k+1) f fd (p::ps) (spI G c g):=by
 subst a d hN;exact F.ok S (XJ λj q h=>(Il h).1) λcdv A dg s H l Q E e h=>⟨_,body cdv A dg s H E e,O4 (by have:=bD cQ S.pre;rw[bU,aS]at this;omega) h⟩
end
section
variable{X:Cx}{G:Bg}
def Ag(G:Bg)(a:Str->Option aa)(x:Str)(d:D):Prop:=∃(v:V) (u:aa),a x=U u/\eo v u/\∀H,en G H d v
def SQ(h:Ag G X.mg x d)(e:Gl X x:=by rfl)(hd:(x==("__debug__" : Str))=δ:=by decide):PE X (.Name x pos) (tF G (cC d)):=by obtain⟨v,u,a,b,c⟩:=h;exact VN (Ei e a b hd) c
def Wn:FS:=λv=>O
def AE(i:Nat)(j:Int)(f:FE):FS:=λc=>match f c with
 |some (d,a)=>match v3 a i with
  |some b=>match ixN b.length j with
   |some k=>U (.nx (putAt a i (b.set k d)))
   |none=>O
  |none=>O
 |none=>O
def QS{st:Stmt}(h:PS X st (DT (tF G f) (gSub (z7 i) (tC (.int j)) Xw))):PS X st (lb G (AE i j f)):=PS.ea h λE N H z=>by
 obtain⟨F,q,u,o,R,e,k,M⟩:=z;unfold AE at e;rcases uI (f:=f) (ρ:=q)with c|⟨d,b,c⟩<;>simp only[c]at e
 .cases e
 cases l:v3 b i with
 |none=>simp only[l]at e;cases e
 |some y=>
  simp only[l]at e;cases p:ixN y.length j with
  |none=>simp only[p]at e;cases e
  |some m=>simp only[p]at e;cases e;refine⟨F,q,u,d,b,R,c,λv J w s x r=>?_⟩;obtain⟨a,I,A,B,t,C⟩:=xG x l;exact⟨.ref a,A,a,I,j,m,Z,Z,B,by rw[<-uk t];exact p,k _ _ _ s (C _ _ (Mp m t r))⟩
def vO(T:String):Ty->Option Bool
 |.b n=>if n="NoneType" then U δ else if n="bool" then U (T=="bool" ||T=="int")else if n="int" then U (T=="int")else if n="str" then U (T=="str")else if n="tuple" then U (T=="tuple")else if n="list" then U (T=="list")else if n="dict" then U (T=="dict")else O
 |.c _=>O
def SR:∀k b,vO T (.c k)=U b->MI X.K (G.ca k):=λk b h=>by cases h
def N2:List String:=["NoneType", "bool", "int", "str", "tuple", "list", "dict"]
def Iw{T:String}(h:(N2.all λn=>decide (bX X.K ((Ty.b n).val G) (.type T)=vO T (.b n)))=γ):∀y b,vO T y=U b->bX X.K (y.val G) (.type T)=U b:=λy b e=>by
 cases y with
 |c k=>cases e
 |b n=>
  by_cases a:n∈N2
  .rw[bq (aR.1 h n a)];exact e
  .simp only[N2,aJ,ck,or_false,not_or]at a;simp[vO,a]at e
def SU:∀y b,vO "list" y=U b->bX X.K (y.val G) (.type "list")=U b:=Iw (by kernel_rfl)
def Wo:∀y b,vO "str" y=U b->bX X.K (y.val G) (.type "str")=U b:=Iw (by kernel_rfl)
end
end L4
namespace L3
open PySem PySem.Spec PyProof.Rows L2
def Wp{X:Cx}{spos:Pos}{er:List Nat}
  (M:X.ll=γ) (hN:X.N.Nodup) (T:X.N[i]?=U y) (hyl:Loc X.cb.scope y) (P:PI X r iter wi)
  (body:∀(l:List (Str×Addr)) (C:Addr) (p:List Addr) (s:af) (H:Hp),PG (v5 X c scope l C p s H) r g/\PIf (v5 X c scope l C p s H) ifs tt/\PE (v5 X c scope l C p s H) elt te)
  (hkind:scope.kind=.function:=by rfl) (hcell:(scope.names.all λy=>y.2 != .cell)=γ:=by rfl)
  (hloc:(scope.names.all λy=>y.2 != .local||scope.names.lookup y.1==U .local)=γ:=by rfl)
  (hfree:(scope.names.all λy=>y.2 != .free||(X.cb.kindOf y.1==U .cell||X.cb.kindOf y.1==U .free))=γ:=by rfl)
  (f:c.length=k+er.length:=by rfl) (hcap:(c.drop k).map U=er.map λj=>X.N[j]?:=by rfl)
  (hcf:((c.drop k).all λx=>scope.names.lookup x==U .free)=γ:=by rfl)
  (S:∀x,iw iter X.cb x=pure x:=by intro _;rfl)
  (hsw:cw (.ListComp elt [⟨r,iter,ifs,0⟩] scope pos) (U (.Name y Y)) spos.line X.cb=pure γ:=by rfl)
  (hfy:X.fn y=γ\/X.cb.scope.names.lookup y=U .local:=by first|exact .inl Z|exact .inr Z|assumption):
  PS X (.Assign [.Name y Y] (.ListComp elt [⟨r,iter,ifs,0⟩] scope pos) spos) (DT (Gj wi g tt te k er) (Aa i)):=by
 intro B s σ H D I h;rw[exec_Assign_Name_used _ _ _ _ hsw];refine ag (jM (ag ?_));refine ag (bQ (J3 M P body hkind hcell hloc hfree f hcap hcf S I h λa C m u s4 F Q r? fpC qn=>?_) (λ_ s' R=>au (au R)) λ_ _ e=>e);obtain⟨oC,esC,nC,gC,dC,rC⟩:=id Q;have J:=r?.τ (λb d=>bh.1 d▸fpC) (λb d=>bh.1 d▸⟨oC,gC,λv z=>by rw[dC]at z;cases z⟩);refine fu (OL hN T hyl hfy _ s4 σ F (.ref a) (.ref a) (λt E=>D.nx t E) J Z qn) λ_ s6 zz=>?_;obtain⟨w,G,A,q6⟩:=zz;obtain⟨W,p2,_⟩:=A.C? (C,oC) (bC _ (bC _ (zv (by simp) gC)));exact⟨m,⟨oC,esC,nC,W,dC,rC⟩,λh' q=>⟨w,G,A.n?.k? (λb o d e=>(q.2 b d).t e) p2 fpC.2.1 fpC.2.2.2.1 fpC.2.2.2.2.1 fpC.2.2.2.2.2,q6⟩⟩
end L3
namespace L4
open PySem PySem.Spec PyProof.Rows L2 L3
section
variable{X:Cx}{G:Bg}
def Iy{st:Stmt}(h:PS X st (DT d g))(w:∀b H Q,a b H Q->d b H Q):PS X st (DT a g):=PS.ea h λE b H c=>w _ _ _ c
def QT{st:Stmt}{er:List Nat}(c:er.Nodup)(h:PS X st (DT (Gj (tFI G s) (tFG G k g) (nj G b) (tF G a) k er) (Aa i))):PS X st (lb G (wW i (uA k er s g b a))):=Mx (Iy h (Ll c))
def SV{st:Stmt}{er:List Nat}(c:er.Nodup)(h:PS X st (DT (Gj (tFI G s) (tFG G k g) (nj G b) (tF G a) k er) (Aa i))):PS X st (lb G (uJ i (cL (uA k er s g b a)))):=O3 (Iy (Iy h (Ll c)) tN_F)
end
section
variable{f g h:FS}{c:FT}{e e' e2:FE}{a a':FA}{ρ ρ' ρ1 ρ2 ρ3:aM}{d x y z:D}{o:H4}{ds xs ys:aN}
def uh(h:f ρ=U (.nx ρ')):bx f g ρ=g ρ':=by unfold bx;rw[h]
def uP(h:f ρ=U (.rt d ρ')):bx f g ρ=U (.rt d ρ'):=by unfold bx;rw[h]
def uV(h:c ρ=U (γ,ρ')):ff c f g ρ=f ρ':=by unfold ff;rw[h]
def vh(h:c ρ=U (δ,ρ')):ff c f g ρ=g ρ':=by unfold ff;rw[h]
def vm(h:e ρ=U (d,ρ')):uJ i e ρ=U (.nx (ρ'.set i (.I d))):=by unfold uJ;rw[h]
def Wq(h:a ρ=U (ds,ρ')):wW i a ρ=U (.nx (ρ'.set i (.ls ds))):=by unfold wW;rw[h]
def uF(h:e ρ=U (d,ρ')):uq e ρ=U (.rt d ρ'):=by unfold uq;rw[h]
def wX(h:a ρ=U (ds,ρ')):vI a ρ=U (.rn ds ρ'):=by unfold vI;rw[h]
def wb(h:e ρ=U (d,ρ')):uT e ρ=U (.nx ρ'):=by unfold uT;rw[h]
def ML(h:e ρ=U (d,ρ1))(b:v3 ρ1 i=U ds)(l:ixN ds.length j=U k):AE i j e ρ=U (.nx (putAt ρ1 i (ds.set k d))):=by unfold AE;rw[h];simp only[b,l]
def ur{g:D->D->Option D}(b:e ρ=U (x,ρ1))(i:e' ρ1=U (y,ρ2))(j:g x y=U z):c2 g e e' ρ=U (z,ρ2):=by unfold c2;rw[b];simp only[i,j]
def uY{g:D->Option D}(b:e ρ=U (x,ρ1))(i:g x=U z):c1 g e ρ=U (z,ρ1):=by unfold c1;rw[b];simp only[i]
def IA(b:e (ρ.map Sl.bor)=U (d,ρ1))(i:xa d=γ):Cd e ρ=U (d,ρ):=by unfold Cd;rw[b];simp only[i,if_true]
def Pa(i:c (ρ.map Sl.bor)=U (b,ρ1)):Cp c ρ=U (b,ρ):=by unfold Cp;rw[i]
def vp(i:e ρ=U (.Y b,ρ1)):cT e ρ=U (b,ρ1):=by unfold cT;rw[i]
def wY(i:c ρ=U (b,ρ1)):vN c ρ=U (!b,ρ1):=by unfold vN;rw[i]
def zy(j:c ρ=U (δ,ρ1))(l:i ρ1=U (b,ρ2)):w9 c i ρ=U (b,ρ2):=by unfold w9;rw[j];exact l
def um(b:e ρ=U (d,ρ1))(i:a ρ1=U (ds,ρ2)):bt e a ρ=U (d::ds,ρ2):=by unfold bt;rw[b];simp only[i]
def uf{b:Type}{g:aN->Option b}{r:b}(i:a ρ=U (ds,ρ1))(j:g ds=U r):FI g a ρ=U (r,ρ1):=by unfold FI;rw[i];simp only[j]
def vE(b:a ρ=U (ds,ρ1)):cL a ρ=U (.cf ds,ρ1):=by unfold cL;rw[b]
def Zs(b:a ρ=U (ds,ρ1))(i:ds.length<=1000):uM a ρ=U (ds,ρ1):=by unfold uM;rw[b];simp only[i,if_true]
def Zt(b:a ρ=U (ds,ρ1))(i:ds.length<=1000):uS a ρ=U (.ef ds,ρ1):=by unfold uS;rw[b];simp only[i,if_true]
def vZ(b:e ρ=U (.cf xs,ρ1))(i:e' ρ1=U (.cf ys,ρ2))(j:xs.length+ys.length<=1000):wG e e' ρ=U (xs++ys,ρ2):=by unfold wG;rw[b];simp only[i,j,if_true]
def SW{g:aN->aN->Option (D×aN)}{i:Nat}{l j b:aN}(m:v3 ρ i=U j)(p:a ρ=U (ds,ρ1))(q:v3 ρ1 i=U l)(r:g l ds=U (d,b)):vd g i a ρ=U (d,putAt ρ1 i b):=by unfold vd;rw[m];simp only[p,q,r]
def SX(l:v3 ρ i=U j)(m:e ρ=U (d,ρ1))(p:v3 ρ1 i=U b)(q:b.length<1000):AX i e ρ=U (.X,putAt ρ1 i (b++[d])):=by unfold AX;rw[l];simp only[m,p,q,if_true]
def SY(l:v3 ρ i=U j)(m:a ρ=U (ds,ρ1))(p:v3 ρ1 i=U b)(q:b.length+ds.length<=1000):Hr i a ρ=U (.X,putAt ρ1 i (b++ds)):=by unfold Hr;rw[l];simp only[m,p,q,if_true]
def xE{s:FA}{g:FG}(b:s ρ=U (ds,ρ1)):xH s g f ρ=i0 g f ds ρ1:=by unfold xH;rw[b]
def HE{k:Nat}{er:List Nat}{s:FA}{g:FG}{i:FT}{b:FE}(j:s ρ=U (ds,ρ1))(l:ds.length<=1000):uA k er s g i b ρ=Ae k er g i b ds ρ1:=by unfold uA;rw[j];simp only[l,if_true]
def N3(m:ds.length=p)(h:b (L4.stM n j ds)=U (.rt d ρ))(l:EA ρ=U i):tj p n b j ds=U (d,i):=by unfold tj;rw[ak m,h];simp only[l]
def Zu(m:ds.length=p)(h:b (L4.stM n j ds)=U (.rn xs ρ))(l:EA ρ=U i):tj p n b j ds=U (.cf xs,i):=by unfold tj;rw[ak m,h];simp only[l]
def zz(i:ds.length=j)(h:b (L4.rl n ds)=U (.rn xs ρ)):A' j n b ds=U xs:=by unfold A';rw[ak i,h]
def uv(i:ds.length=j)(h:b (L4.rl n ds)=U (.rt d ρ)):e0 j n b ds=U d:=by unfold e0;rw[ak i,h]
end
def vB(a:aN):Prop:=(∃c,a=[.int c])\/∃q r n,a=[.int q,.int r,.int n]
def yB(h:AD a=γ\/AD b=γ):ye (.int a) (.int b)=U (.int (a * b)):=by unfold ye dI;simp only;rw[ak (by simpa using h)]
def Dg(h:0<b):yf (.int a) (.int b)=U (.int (a % b)):=by unfold yf dI;simp only;rw[ak (by simpa using h)]
def O?(h:0<b)(c:b<1073741824):BW (.int a) (.int b)=U (.int (a / b)):=by unfold BW dI;simp only;rw[ak (by simp[h,c])]
def MM(h:0<=a)(b:a<2147483647):AD a=γ:=by unfold AD;simp only[aV,cq];omega
def AY:D->Option ey
 |.int i=>U (.inl i)
 |.str x=>U (.inr x)
 |_=>O
def vC:List ey->aN->ey->Option D
 |k::b,d::a,j=>if k=j then U d else vC b a j
 |_,_,_=>O
def Wr(e:List ey)(b:aN)(k:ey)(d:D):aN:=f9 (λc a=>if c=k then d else a) e b
def JK(b:List ey)(k:ey):Bool:=b.any λa=>decide (a=k)
section
variable{X:Cx}{G:Bg}{H:Hp}
def Bq(h:en G H d v)(e:AY d=U k):v=kV k:=by
 cases d<;>first|cases e|skip
 all_goals (unfold en at h;exact h)
theorem Cr:∀{ks:List ey} {b:aN} {a:bz} (j:ey),di G H b a->ks.length=a.length->match vC ks b j with
  |some d=>∃v,yb (ks.zip a) j=U v/\en G H d v
  |none=>yb (ks.zip a) j=O
 |[],b,a,j,r,l=>by cases b<;>rfl
 |k::ks,b,[],j,r,l=>by cases l
 |k::ks,[],x::a,j,r,l=>by unfold di at r;cases r
 |k::ks,d::b,x::a,j,r,l=>by
  obtain⟨v,q,e,h,i⟩:=r;cases e;unfold vC;by_cases c:k=j
  .rw[ak c];exact⟨x,Ep c,h⟩
  .rw[aq c];have m:=Cr j i (by simpa using l);have f:yb ((k::ks).zip (x::a)) j=yb (ks.zip a) j:=Er c;rw[f];exact m
theorem Lp:∀{a:List ey} {b:bz},a.length=b.length->((a.zip b).any λkv=>decide (kv.1=k))=JK a k
 |[],b,_=>by cases b<;>rfl
 |c::a,[],l=>by cases l
 |c::a,x::b,l=>by unfold JK;rw[fj,fX,fX,Lp (by simpa using l)];rfl
theorem Pb:∀{a:List ey} {b:bz},a.length=b.length->(a.zip b).map (λkv=>if kv.1=k then (kv.1,v)else kv)=a.zip (f9 (λd x=>if d=k then v else x) a b)
 |[],b,_=>by cases b<;>rfl
 |d::a,[],l=>by cases l
 |d::a,x::b,l=>by
  rw[fj,aU,Pb (by simpa using l),ig,fj];congr 1;by_cases c:d=k
  .rw[ak c,ak c]
  .rw[aq c,aq c]
theorem MN(hd:en G H d v):∀{c:List ey} {b:aN} {a:bz},di G H b a->c.length=a.length->di G H (Wr c b k d) (f9 (λf x=>if f=k then v else x) c a)
 |[],b,a,r,l=>by unfold Wr;cases b<;>cases a<;>exact uU
 |f::c,b,[],r,l=>by cases l
 |f::c,[],x::a,r,l=>by unfold di at r;cases r
 |f::c,m::b,x::a,r,l=>by
  obtain⟨w,q,e,i,j⟩:=r;cases e;unfold Wr;rw[ig,ig];refine uR ?_ (MN hd j (by simpa using l));by_cases h:f=k
  .rw[ak h,ak h];exact hd
  .rw[aq h,aq h];exact i
def _root_.L2.rr.kf(e:H a=U (.oz o (.dK kvs))):rr H a (kV k) (yb kvs k):=.inl ⟨kvs,k,.inr ⟨o,e⟩,Z,Z⟩
def DB:D->D->Option D:=λx y=>match x,AY y with
 |.Z b a,U k=>vC b a k
 |_,_=>O
def Wt(hu:X.A.units+1<cLine)(S:PE X a (tF G f))(T:PE X b (tF G J))(Y:YK b:=by exact λs s=>Z):PE X (.Subscript a b pos) (tF G (c2 DB f J)):=PE.ea (VE hu S T Y) λσ H Q W=>by
 obtain⟨F,ρ,r,d,o,R,e,k⟩:=W;obtain⟨x,y,h,E,I,c⟩:=Ew e;refine⟨F,ρ,r,x,h,R,E,λv t z s1 C r1=>⟨F,h,t,y,o,C,I,λu B i q R2 r2=>?_⟩⟩;have m:=en.mono q _ _ r1;cases x with
 |Z ks ds=>
  unfold DB at c;cases l:AY y with
  |none=>simp only[l]at c;cases c
  |some j=>simp only[l]at c;obtain⟨p,ob,xs,rfl,M,N,P⟩:=m;have lv:=Cr j P N;rw[c]at lv;obtain⟨w,w1,w2⟩:=lv;refine⟨p,w,Z,?_,k w B i (s1.t q) R2 w2⟩;rw[Bq r2 l,<- w1];exact rr.kf (R2.sub _ _ M)
 |_=>unfold DB at c;cases c
def Cs:D->D->Option D:=λx y=>match x,AY y with
 |.Z b a,U k=>U ((vC b a k).getD .X)
 |_,_=>O
def SZ(hu:X.A.units+1<cLine)(ha:PE X a (tF G f))(hb:PE X b (tF G Y))(m:M1 X a "get" apos b cpos):PE X (.Call (.Attribute a "get" apos) [b] [] cpos) (tF G (c2 Cs f Y)):=PE.ea (R7 hu ha hb m) λσ H Q hh=>by
 obtain⟨F,ρ,M,d,r,R,e,k⟩:=hh;obtain⟨x,y,i,T,W,c⟩:=Ew e;cases x with
 |Z I S=>
  refine⟨F,ρ,M,_,i,R,T,λv N P J B r1=>?_⟩;have q:=r1;obtain⟨p,ob,xs,rfl,E,h2,h3⟩:=q;refine⟨p,Z,.inl ⟨_,.inr ⟨_,B.sub _ _ E⟩⟩,F,i,N,y,r,B,W,λu t h l R2 r2=>?_⟩;unfold Cs at c;cases o:AY y with
  |none=>simp only[o]at c;cases c
  |some j=>
   simp only[o]at c;cases c;have lv:=Cr j (di.mono l _ _ h3) h2;refine⟨yb (I.zip xs) j,?_,?_⟩
   .rw[Bq r2 o];exact rr.kf (R2.sub _ _ (l _ _ E))
   .cases C:vC I S j with
    |none=>rw[C]at lv k;rw[lv];exact k _ t h (J.t l) R2 Ad
    |some z=>rw[C]at lv k;obtain⟨w,w1,w2⟩:=lv;rw[w1];exact k _ t h (J.t l) R2 w2
 |_=>unfold Cs at c;cases c
def IB(i:Nat):FS:=λa=>U (.nx (a.set i (.dk [] [])))
def S0{st:Stmt}(h:PS X st (DT NR (Aa i))):PS X st (lb G (IB i)):=PS.ea h λE u H l=>by obtain⟨F,r,m,o,R,e,k,q⟩:=l;cases e;intro p b;have c:=R.jj b (.dK []);refine k _ _ _ (uw.refl _) (c.set ⟨p,[],Z,uu,R.fx b,R.iE b,Z,uU⟩ λv a d j t v f to=>?_);cases d;exact R.apart b j t f to
def yC(i:Nat)(fk fv:FE):FS:=λf=>match fv f with
 |some (d,b)=>match b[i]? with
  |some (.dk _ _)=>match fk b with
   |some (y,c)=>match AY y with
    |some k=>match c[i]? with
     |some (.dk a e)=>if a.length<1000 then if e.length=a.length then U (.nx (c.set i (if JK a k=γ then .dk a (Wr a e k d)else .dk (a++[k]) (e++[d]))))else O else O
     |_=>O
    |none=>O
   |none=>O
  |_=>O
 |none=>O
set_option tactic.hygienic true
def S4{st:Stmt}(h:PS X st (XA (z7 i) (tF G Q) (tF G S))):PS X st (lb G (yC i Q S)):=PS.ea h λE σ H hh=>by
 obtain⟨F,q,Y,o,R,e,k,k2⟩:=hh;unfold yC at e;rcases uI (f:=S) (ρ:=q)with t|⟨d,c,t⟩<;>simp only[t]at e
 .cases e
 split at e
 .rename_i ks0 ds0 ei;rcases uI (f:=Q) (ρ:=c)with w|⟨y,C,w⟩<;>simp only[w]at e
  .cases e
  cases z:AY y with
  |none=>simp only[z]at e;cases e
  |some j=>
   simp only[z]at e;split at e
   .rename_i A ds l;split at e
    .rename_i hl;split at e
     .rename_i hl2;cases e;refine⟨F,q,Y,d,c,R,t,λv H1 H1' s1 I r1=>?_⟩;obtain⟨m,xs0,a1,_⟩:=I.sl i _ ei;refine⟨_,xF a1,F,c,H1,y,C,I,w,λu H2 r W R2 r2=>?_⟩;obtain⟨a,B,J,b2,M,N,b,P⟩:=R2.sl i _ l;rw[a1]at J;cases J;refine⟨m,e7 r m (.dK (mu (A.zip B) j v)),Z,?_,?_⟩
      .rw[Bq r2 z];exact RX.k b2 (by rw[iG];exact jA (Nat.min_le_left _ _) (Dc (by omega)))
      .have T:=en.mono W _ _ r1;refine k _ _ _ (s1.t W) (R2.mut l Z a1 (λH' hH=>?_) ?_)
       .by_cases p:JK A j=γ
        .rw[ak p];refine⟨m,f9 (λk' x=>if k'=j then v else x) A B,Z,?_,M,N,by rw[kX,b,iP],MN T P b⟩;rw[hH];unfold mu;rw[Lp b,ak p,Pb b]
        .rw[aq p];refine⟨m,B++[v],Z,?_,M,N,by rw[aF,aF,b];rfl,wa P (uR T uU)⟩;rw[hH];unfold mu;rw[Lp b,aq p,lS b];rfl
       .split<;>rfl
     .cases e
    .cases e
   .cases e
 .cases e
set_option tactic.hygienic false
def FL:D->Option D
 |.cf a=>(JJ a).map λbs=>.Y (bs.any id)
 |_=>O
def QU(x:X.ll=γ)(hK:X.K=G.K:=by rfl):vQ X (.builtin "any") (λw H Q=>∃(p:Addr) (bs:List Bool),w=[.ref p]/\f5 G.K H p (bs.map V.Y)/\Q (.Y (bs.any id)) H):=by
 rw[<-hK];intro m s T H w S Q I r h;obtain⟨p,bs,rfl,C,q⟩:=h;obtain⟨u,rfl,j⟩:=m? r;cases j;obtain⟨f,t,pl,N⟩:=I.list C;have hlt:p<s.heap.objs.size:=by obtain⟨o,B,_⟩:=pl.isList;exact aP B
 have z:=by have:=t.length;rw[ah]at this;exact this
 refine call_any_walk (fP pl.isList ⟨s.heap.objs.size,_,_,_,_,_,λi=>(bs[i]?).getD δ,Z,iW (show X.A.in1.handled=O from I.ok.hd x) _ p (aW hlt) f.toArray,⟨⟨_,bp _ Z,Z,Z⟩,?_⟩,?_,λM R y=>?_⟩)
 .exact pl.isList.at λo e=>aK _ e
 .intro i v P J F E hQ';have c:=by simpa using E
  have a:=(bR.1 c).1;have d:(bs.map V.Y)[i]?=U (.Y (bs[i]'(by omega))):=by simp[show i<bs.length by omega]
  obtain⟨u,l,j⟩:=t.get d;rw[c]at l;cases l;cases j;refine dE ?_;have e:(bs[i]?).getD δ=bs[i]'(by omega):=by simp[show i<bs.length by omega]
  rw[<-e];exact hQ'
 .refine⟨.Y (bs.any id),H,?_,?_,q⟩
  .exact I.f? λb o e=>y b o (by simp;exact aW (aP e)) (aK _ e)
  .show Value.bool _=Value.bool _;congr 1;rw[bc,<- z];rw[dG];simp only[fA,bP,id];constructor
   .rintro⟨i,a,h⟩;exact⟨bs[i],fR a,by simpa [a]using h⟩
   .rintro⟨b,d,h⟩;obtain⟨i,a,rfl⟩:=kQ.1 d;exact⟨i,a,by simpa [a]using h⟩
def Zv:Iu G (λd H Q=>∃(p:Addr) (bs:List Bool),d=[.ref p]/\f5 G.K H p (bs.map V.Y)/\Q (.Y (bs.any id)) H) FL:=λx z j H v Q e s i k=>by
 cases x with
 |cf f=>
  unfold FL at e;simp only at e;cases b:JJ f with
  |none=>rw[b]at e;cases e
  |some bs=>rw[b]at e;cases e;obtain⟨a,d,rfl,c,h⟩:=i;rw[Iv h b]at c;exact⟨a,bs,Z,s.seq (f5.of c),k _ λu u=>wV _⟩
 |_=>cases e
def iS(f:FE):FA:=λb=>match f b with
 |some (.str x,a)=>U (x.cps.toList.map λc=>D.str ⟨#[c]⟩,a)
 |_=>O
set_option tactic.hygienic true
def Wu(h:PI X M e (iStr (tF G f))):PI X M e (tFI G (iS f)):=PI.ea h λσ H R E=>by
 obtain⟨F,N,p,Y,P,R,e,k⟩:=E;unfold iS at e;split at e
 .rename_i x Q B;cases e;refine⟨F,N,p,_,_,R,B,λv S q s A r=>?_⟩;refine⟨x,r,k _ _ _ s A λi u w t J=>⟨λd j=>?_,λI=>?_⟩⟩
  .rw[bA]at j;cases m:x.cps.toList[i]? with
   |none=>rw[m]at j;cases j
   |some c=>
    rw[m]at j;cases j;have a:=by simpa using m
    refine⟨(nF.1 a).1,λz T y=>?_⟩;obtain⟨C,W,l,rfl⟩:=y;rw[a]at l;cases l;subst C;exact⟨u,uw.refl _,J,uw.refl _,λb o e=>.inl e,yI _⟩
  .show i=x.cps.size;rw[I,ah];simp
 .cases e
set_option tactic.hygienic false
def Gm(f g:FE):FE:=λe=>match f e with
 |some (.ef (x::c),a)=>match g a with
  |some (.ef d,b)=>if c.length+d.length<=900 then U (.ef (x::c++d),b)else O
  |_=>O
 |_=>O
set_option tactic.hygienic true
def Wv(T:PE X a (tF G f))(W:PE X b (tF G g))(hK:X.K=G.K:=by rfl):PE X (.BinOp a .Add b pos) (tF G (Gm f g)):=PE.ea (Mb Vy T W) λσ H Q Y=>by
 rw[hK];obtain⟨F,ρ,y,d,ρ',R,e,k⟩:=Y;unfold Gm at e;split at e
 .rename_i x xs c J;split at e
  .rename_i ys ρ2 M;split at e
   .rename_i hl;cases e;refine⟨F,ρ,y,_,c,R,J,λv A B s E r=>⟨F,c,A,_,_,E,M,λu H2 C l R2 r2=>?_⟩⟩;have w:=en.mono l _ _ r;have r0:=w;obtain⟨a1,m,rfl,P,q⟩:=w;obtain⟨I,o,rfl,S,t⟩:=r2;have h:=uk q;have j:=uk t;rw[aS]at h;refine⟨a1,I,m,o,Z,Z,gk.mono R2.sub P,gk.mono R2.sub S,(λz=>by rw[z]at h;cases h),by rw[<-h,<- j];exact w6 (by omega),λz=>?_,λn p i=>?_⟩
    .have N:=by rw[z]at j;exact jq.1 j
     subst N;rw[bO]at k;exact k _ _ _ (s.t l) R2 r0
    .exact k _ _ _ ((s.t l).t (uH (R2.fx i) _)) (R2.L0 i _) (Et (gk.of uu) (di.mono (uH (R2.fx i) _) _ _ (wa q t)))
   .cases e
  .cases e
 .cases e
end
set_option tactic.hygienic false
section
variable{X:Cx}{G:Bg}
abbrev FO:=aM->Option (Option Int×aM)
inductive ItFO(G:Bg) (f:FO) (σ:St) (H:Hp) (Q:(Option Int->Hp->Prop)):Prop
 |i (F ρ H0 d ρ') (h0:dt G F σ ρ H0 H) (h1:f ρ=U (d,ρ')) (h2:∀H0' H',uw H0 H0'->dt G F σ ρ' H0' H'->Q d H'):ItFO G f σ H Q
def tFO(G:Bg)(f:FO):TO:=λa H Q=>ItFO G f a H Q
def oNo:FO:=λa=>U (O,a)
def oAt(f:FE):FO:=λb=>match f b with
 |some (.int i,a)=>U (U i,a)
 |_=>O
def PO.ea(h:PO X e t)(w:∀b H Q,d b H Q->t b H Q):PO X e d:=λa s b H Q I c=>h a s b H Q I (w _ _ _ c)
def Zw:PO X O (tFO G oNo):=PO.ea OT λh H Q a=>by obtain⟨F,f,c,d,b,R,e,k⟩:=a;cases e;exact k _ _ (uw.refl _) R
set_option tactic.hygienic true
def Zx(h:PE X e (tF G f)):PO X (U e) (tFO G (oAt f)):=PO.ea (OU h) λt H Q l=>by
 obtain⟨F,m,a,d,o,R,e,k⟩:=l;unfold oAt at e;split at e
 .rename_i i p j;cases e;refine⟨F,m,a,_,_,R,j,λv q b s c r=>?_⟩;unfold en at r;exact⟨i,r,k _ _ s c⟩
 .cases e
set_option tactic.hygienic false
def Ht(f:FE)(lo i:FO):FA:=λj=>match f j with
 |some (d,c)=>match d with
  |.cf e=>match lo c with
   |some (l,a)=>match i a with
    |some (h,b)=>U (p? e l h,b)
    |none=>O
   |none=>O
  |.u? e=>match lo c with
   |some (l,a)=>match i a with
    |some (h,b)=>U (p? e l h,b)
    |none=>O
   |none=>O
  |_=>O
 |none=>O
def N4{lo:FO}(h:PE X e (tSl (VA G.K) (tF G f) (tFO G lo) (tFO G w))):PE X e (D0 G (Ht f lo w)):=PE.ea h λσ H Q hh=>by
 obtain⟨F,q,M,Y,E,R,e,k⟩:=hh;unfold Ht at e;rcases uI (f:=f) (ρ:=q)with y|⟨d,c,y⟩<;>simp only[y]at e
 .cases e
 have ri:∀(i:aN),(∀{m:Hp} {v:V},en G m d v->∃a j,v=.ref a/\f5 G.K m a j/\di G m i j)->(match lo c with
   |some (l,b)=>match w b with
    |some (h,t)=>U (p? i l h,t)
    |none=>O
   |none=>O)=U (Y,E)->tSl (VA G.K) (tF G f) (tFO G lo) (tFO G w) σ H Q:=λi rd e=>by
  rcases uI (f:=lo) (ρ:=c)with z|⟨l,b,z⟩<;>simp only[z]at e
  .cases e
  rcases uI (f:=w) (ρ:=b)with A|⟨u,t,A⟩<;>simp only[A]at e
  .cases e
  cases e;refine⟨F,q,M,d,c,R,y,λv m N s1 W r1=>⟨F,c,m,l,b,W,z,λP S I R2=>⟨F,b,P,u,_,R2,A,λH3 T J o=>?_⟩⟩⟩;obtain⟨a,j,rfl,B,C⟩:=rd (en.mono (I.t J) _ _ r1);exact⟨a,j,Z,o.sub.seq B,λp x=>k p _ _ _ (s1.t (I.t J)) (o.jj x _) uu (o.fx x) (o.iE x) (o.apart x) (MJ C)⟩
 cases d with
 |cf i=>exact ri i (λr=>by unfold en at r;obtain⟨a,j,rfl,B,C⟩:=r;exact⟨a,j,Z,f5.of B,C⟩) e
 |u? i=>exact ri i (λr=>by unfold en at r;exact r) e
 |_=>cases e
def Kh:D->D->Option D
 |.str x,.int n=>if 0<=n/\n<=1000/\x.length<=100 then U (.str (mZ x n))else O
 |_,_=>O
end
section
variable{X:Cx}{G:Bg}
def Ki(f e h:FE):FE:=λj=>match f j with
 |some (.Z i d,a)=>match e a with
  |some (y,b)=>match h b with
   |some (x,c)=>match AY y with
    |some k=>U ((vC i d k).getD x,c)
    |none=>O
   |none=>O
  |none=>O
 |_=>O
set_option tactic.hygienic true
def S5(hu:X.A.units+1<cLine)(ha:PE X a (tF G f))(hb:PE X b (tF G P))(hc:PE X c (tF G S))(m:M2 X a "get" apos b c cpos):PE X (.Call (.Attribute a "get" apos) [b,c] [] cpos) (tF G (Ki f P S)):=PE.ea (R8 hu ha hb hc m) λσ H Q hh=>by
 obtain⟨F,I,H0,d,ρ',R,e,k⟩:=hh;unfold Ki at e;split at e
 .rename_i o ds h e1;rcases uI (f:=P) (ρ:=h)with B|⟨y,i,B⟩<;>simp only[B]at e
  .cases e
  rcases uI (f:=S) (ρ:=i)with C|⟨x,ρ3,C⟩<;>simp only[C]at e
  .cases e
  cases E:AY y with
  |none=>simp only[E]at e;cases e
  |some j=>
   simp only[E]at e;cases e;refine⟨F,I,H0,_,h,R,e1,λv H1 H1' Y M W=>?_⟩;unfold en at W;obtain⟨p,ob,xs,rfl,T,h2,h3⟩:=W;refine⟨p,Z,.inl ⟨_,.inr ⟨_,M.sub _ _ T⟩⟩,F,h,H1,y,i,M,B,λu H2 H2' q R2 r2=>⟨F,i,H2,x,_,R2,C,λz J l r t r3=>?_⟩⟩;have lv:=Cr (ks:=o) j (di.mono (q.t r) _ _ h3) h2;refine⟨yb (o.zip xs) j,?_,?_⟩
   .rw[Bq r2 E];exact rr.kf (t.sub _ _ (r _ _ (q _ _ T)))
   .cases N:vC o ds j with
    |none=>rw[N]at lv k;rw[lv];exact k _ J l (Y.t (q.t r)) t r3
    |some w=>rw[N]at lv k;obtain⟨w',w1,w2⟩:=lv;rw[w1];exact k _ J l (Y.t (q.t r)) t w2
 .cases e
set_option tactic.hygienic false
def IC(G:Bg)(c:Nat)(t:Ty->Option Bool):Prop:=(∀y b,t y=U b->bX G.K (y.val G) (.ref (G.ca c))=U b)/\∀j b,t (.c j)=U b->MI G.K (G.ca j)
def N5(h:IC G c t)(hK:X.K=G.K:=by rfl):vQ X (.builtin "isinstance") (λa H Q=>∃d x b,a=[x,(Ty.c c).v G]/\en G H d x/\t (tyD d)=U b/\Q (.Y b) H):=
 Kg (X:=X) (.c c) (by rw[hK];exact h.1) (by rw[hK];exact h.2) hK
end
def ddp(acc:List ey)(k:ey):List ey:=if acc.any (λz=>decide (z=k))then acc else acc++[k]
def z8(a:List ey):List ey:=a.foldl ddp []
def Ww(acc:List ey)(k j:ey):(ddp acc k).any (λz=>decide (z=j))=(acc.any (λz=>decide (z=j))||decide (j=k)):=by
 unfold ddp;by_cases h:acc.any (λz=>decide (z=k))=γ
 .rw[ak h];by_cases e:j=k
  .subst e;rw[h];simp
  .simp[e]
 .rw[aq h,List.any_append];by_cases e:j=k
  .subst e;simp
  .have a:¬k=j:=λz=>e z.symm;simp[a,e]
def Pc(acc:List ey)(k:ey):(ddp acc k).length=if acc.any (λz=>decide (z=k))=γ then acc.length else acc.length+1:=by unfold ddp;split<;>simp
def Kj(a:List ey)(i:Nat)(h:i<a.length):z8 (a.take (i+1))=ddp (z8 (a.take i)) a[i]:=by unfold z8;rw[jD,bg h,o5];rfl
def S6(a:List ey):(z8 a).length<=a.length:=by
 have ri:∀(l:List ey) (acc:List ey),(l.foldl ddp acc).length<=acc.length+l.length:=by
  intro l
  induction l with
  |nil=>intro acc;simp
  |cons k l b=>
   intro acc;rw[iF,aS];have c:=b (ddp acc k);have d:(ddp acc k).length<=acc.length+1:=by rw[Pc];split<;>omega
   omega
 have:=ri a [];simpa [z8]using this
def set_same{h:Heap}(hS:h.SetOf (uK prog w) a S n)(e:∀k,S k=b k)(c:n=d):h.SetOf (uK prog w) a b d:=by obtain rfl:S=b:=funext e;subst c;exact hS
section
variable{prog:aB}{w:az}{A:aG}{R:eL->af->Prop}{I:Addr}{fp wr:List Addr}{GG:Array gm->Array gm->Prop}{n:Nat}{PP:Nat->aa->Prop}{SS:Nat->af->Prop}
def S7(W:WalksS prog w A.in1 I fp wr GG n PP SS)(S:Addr)(hSf:S∉fp)(a:List ey)(F:a.length=n)
  (hval:∀i v (h:i<a.length),PP i v->(uK prog w).is a[i] v=γ/\v.scannable=γ) (E:n+1<scanBound):∀(k i:Nat) (s:af),n - i=k->i<=n->SS i s->
   s.heap.SetOf (uK prog w) S (λj=>(z8 (a.take i)).any (λz=>decide (z=j))) (z8 (a.take i)).length->
   (∀c,Moved (S::wr) GG s c->c.heap.SetOf (uK prog w) S (λj=>(z8 a).any (λz=>decide (z=j))) (z8 a).length->R (.ok (.ret .none)) c)->
   cy (model prog w) A (.builtin "set.update.loop" ⟨[.ref S,.ref I],[]⟩) R s:=by
 have hSw:=λz=>hSf ((W).sub _ z);have up:∀b∈wr,b∈S::wr:=λb z=>ba _ z;intro k
 induction k with
 |zero=>
  intro i s x u hst hS hR;obtain rfl:i=n:=by omega
  refine dM gw ?_;rw[eA dW _];show ao _ A.in1 (pyNext (.ref I)>>=_) _ _ s;refine ag (W.done s _ _ hst λc d=>?_);rw[ik (by omega)]at hS;refine au (hR c (d.mono up) ?_);obtain⟨o,m,l,t,p,more⟩:=hS;exact⟨o,m,l,t,d.heap S _ hSw p,more⟩
 |succ k B=>
  intro i s x u hst hS hR;have hlt:i<n:=by omega
  have hlk:i<a.length:=by omega
  refine dM gw ?_;rw[eA dW _];show ao _ A.in1 (pyNext (.ref I)>>=_) _ _ s;refine ag (W.item i s _ _ hlt hst λv c hP hst' d=>?_);obtain⟨kv,C⟩:=hval i v hlk hP;have hS':c.heap.SetOf (uK prog w) S (λj=>(z8 (a.take i)).any (λz=>decide (z=j))) (z8 (a.take i)).length:=by obtain⟨o,m,l,t,p,more⟩:=hS;exact⟨o,m,l,t,d.heap S _ hSw p,more⟩
  refine ag (bL ?_);unfold setAdd;refine bL ?_;refine ag ((uK prog w).pyHash kv ?_);have room:(z8 (a.take i)).length+1<scanBound:=by have:=S6 (a.take i);rw[bU]at this;omega
  refine wpAny_setAddHashed_of kv C hS' room λr hsb hS2=>?_;have hSi:r.SetOf (uK prog w) S (λj=>(z8 (a.take (i+1))).any (λz=>decide (z=j))) (z8 (a.take (i+1))).length:=
   set_same hS2 (λj=>by rw[Kj a i hlk,Ww]) (by rw[Kj a i hlk,Pc])
  refine au ⟨fY dW _,B (i+1) _ (by omega) hlt (W.frame _ c _ _ hst' (iU _) λb z o e=>?_) hSi λq f hS''=>?_⟩
  .rw[hsb.2 b (λy:b=S=>hSf (by rw[<-y];exact z))];exact e
  .refine hR q (jR W.gtrans ((d.mono up).then_heap (iU _) λb o z e=>?_) f) hS'';rw[hsb.2 b (λy:b=S=>z (by rw[y];exact bb))];exact e
end
def Wx(l:Addr)(us:Array aa)(m:Nat)(b:Addr)(o:Obj)(ws:Array aa)(f:Nat)(e:o.cls=.type "tuple")(hd:o.data=.seq ws f)(z0:¬(!us.isEmpty&&gv (us.size+ws.size))=γ)(z1:us.size<=aC)(z2:us.size+ws.size<=aC+1):
  Meets (dQ.«list.extend» ⟨[.ref l,.ref b],[]⟩) (λv R s=>s.heap.get? l=U { cls:=.type "list", data:=.seq us m }/\s.heap.get? b=U o/\R (.ok (.ret Value.none)) { s with heap:=s.heap.update l (dc λx=>x++ws),toks:=s.toks }):=by
 obtain⟨c,i,data,sl⟩:=o;cases e;cases hd;refine .of_wp λprog w A R s h=>?_;obtain⟨t,g,d,tk,os⟩:=s;obtain⟨a,hb,h⟩:=h;have j:=AutoSeq1.sub_tuple_tuple;have p:=AutoSeq1.sub_list_list;have q:=AutoSeq1.sub_tuple_list;have r:=AutoSeq1.sub_list_tuple;have z3:(us++ws).size<=aC+1:=Array.size_append (xs:=us) (ys:=ws)▸z2
 wp_walk using (lX a Z (hz:=z1) (_hz':=z3)),nJ a,nJ hb
 exact⟨_,Z,h⟩
section
variable{X:Cx}{G:Bg}
inductive Kk(K:aw) (x:V) (vs:bz) (H:Hp) (Q:VK):Prop
 |i (l b xs zs) (h0:x=.ref l) (h1:vs=[.ref b]) (h2:H l=U (.cf xs)) (h3:gk K H b zs) (h4:xs.length+zs.length<=aC) (h5:Q .X (e7 H l (.cf (xs++zs)))):Kk K x vs H Q
def MO(K:aw):V->bz->Hp->VK->Prop:=λx a H Q=>Kk K x a H Q
def N6:MtM X "list.extend" (MO X.K):=by
 intro i s R H x M v J Q I C B h;obtain⟨l,b,N,P,rfl,rfl,hH,hB,F,q⟩:=h;cases C;obtain⟨u,rfl,A⟩:=B.one;cases A;obtain⟨z,c,n,r,E,e⟩:=I.π hH;obtain⟨a,j,⟨o,m,p,y,hd⟩,w⟩:=I.tuple hB;have t:=j.length;have d:c.toArray.size+a.toArray.size<=aC:=by rw[bc,bc];omega
 have hlong:¬(!c.toArray.isEmpty&&gv (c.toArray.size+a.toArray.size))=γ:=by rw[HV d,p9];exact bw
 refine iV jy ⟨_,e,Z⟩ oA (n8 _ _)
  (Wx l c.toArray n b o a.toArray y p hd hlong (by rw[bc];omega) (by omega)) ⟨e,m,?_⟩
 refine⟨.X,_,I.lset (its':=c++a) hH e (by simp) (r.append j) ?_,Z,q⟩;rw[aF];omega
def Ct(i:Nat)(f:FE):FE:=λd=>match v3 d i with
 |some _=>match f d with
  |some (.ef c,a)=>match v3 a i with
   |some b=>if b.length+c.length<=1000 then U (.X,putAt a i (b++c))else O
   |none=>O
  |_=>O
 |none=>O
set_option tactic.hygienic true
def N7(h:PE X e (tBM G.K "list" (MO G.K) (z7 i) (Cf (tF G f) HR))):PE X e (tF G (Ct i f)):=PE.ea h λσ H Q A=>by
 obtain⟨F,c,w,d,P,R,e,k⟩:=A;unfold Ct at e;cases j:v3 c i with
 |none=>simp only[j]at e;cases e
 |some z=>
  simp only[j]at e;rcases uI (f:=f) (ρ:=c)with l|⟨x,b,l⟩<;>simp only[l]at e
  .cases e
  .cases x with
   |ef Y=>
    cases m:v3 b i with
    |none=>simp only[m]at e;cases e
    |some W=>
     simp only[m]at e;split at e
     .rename_i B;cases e;obtain⟨a,M,r,E,s3,_⟩:=xG R j;refine⟨.ref a,r,.inl ⟨Z,M,f5.of E⟩,F,c,w,_,b,R,l,λv S y s q rs=>?_⟩;unfold en at rs;obtain⟨p,N,rfl,C,rs⟩:=rs;obtain⟨T,o,t,I,u,J⟩:=xG q m;rw[r]at t;cases t;refine⟨a,p,o,N,Z,Z,I,gk.mono q.sub C,?_,k _ _ _ s (J _ _ (wa u rs)) Ad⟩;rw[<-uk u,<- uk rs];exact w6 B
     .cases e
   |_=>cases e
end
set_option tactic.hygienic false
section
variable{X:Cx}{G:Bg}{H:Hp}
def Zy{h:cA}{E:St}{s:af}{d:D}{v:V}{u:aa}(I:dr X h E H s)(hK:X.K=G.K)(hd:en G H d v)(c:eo v u)(B:∀k r e,d=.obj k r e->MI X.K (G.ca k)):
  ∃HH:Heap->Prop,W.KitX X.K u ((tyD d).val G) HH/\HH s.heap/\u≠.builtin "__main__.__loader__#opaque" := by
 cases d with
 |X=>unfold en at hd;subst hd;cases (show u=Value.none from c);exact⟨_,qM,True.intro,λz=>nomatch z⟩
 |Y x=>unfold en at hd;subst hd;cases (show u=Value.bool x from c);exact⟨_,qN,True.intro,λz=>nomatch z⟩
 |int x=>unfold en at hd;subst hd;obtain⟨t,q⟩:=(show ∃t,u=Value.int x t from c);cases q;exact⟨_,W.kitx_int,True.intro,λz=>nomatch z⟩
 |str x=>unfold en at hd;subst hd;obtain⟨t,q⟩:=(show ∃t,u=Value.str x t from c);cases q;exact⟨_,W.kitx_str,True.intro,λz=>nomatch z⟩
 |ef e=>obtain⟨a,f,rfl,b,l⟩:=hd;cases c;rw[<-hK]at b;obtain⟨p,_,⟨o,i,j,_⟩,_⟩:=I.tuple b;exact⟨_,ml,⟨o,i,j⟩,λz=>nomatch z⟩
 |cf e=>obtain⟨a,f,rfl,b,l⟩:=hd;cases c;obtain⟨_,_,n,_,q⟩:=(show e8 X.prog X.w H s.heap a (.cf f) from I.fb a _ b);exact⟨_,iR,⟨_,q,Z⟩,λz=>nomatch z⟩
 |u? e=>obtain⟨a,f,rfl,b,l⟩:=hd;cases c;rw[<-hK]at b;obtain⟨p,_,⟨o,n,i,j,_⟩,_⟩:=I.list b;exact⟨_,iR,⟨o,i,j⟩,λz=>nomatch z⟩
 |Z y e=>obtain⟨a,C,f,rfl,b,l,m⟩:=hd;cases c;obtain⟨_,_,_,R,_,o,N,M,i,j,_⟩:=(show e8 X.prog X.w H s.heap a (.oz C (.dK (y.zip f))) from I.fb a _ b);exact⟨_,gV,⟨o,i,j.1⟩,λz=>nomatch z⟩
 |dit y e=>obtain⟨a,f,rfl,⟨o,Q,b,_,m,_⟩,_⟩:=hd;cases c;exact⟨_,gV,⟨o,(show e8 X.prog X.w H s.heap a (.ext (isO a o)) from I.fb a _ b).1,m.ex.1⟩,λz=>nomatch z⟩
 |obj k r e=>have ci:=B k r e Z;obtain⟨a,F,f,rfl,b,l,m⟩:=hd;cases c;obtain⟨mA,A,_⟩:=Ek I.fb b;obtain⟨P,J,_⟩:=A.look;exact⟨_,W.kitx_own (ci.cl.get _) ci.cl.hd ci.ha ci.hn ci.htk ci.hm,J,λz=>nomatch z⟩
def QV(G:Bg)(cs:List Nat):bz:=cs.map λc=>.ref (G.ca c)
def S8(G:Bg)(cs:List Nat):List aa:=cs.map λc=>.ref (G.ca c)
def S9(cs:List Nat){a:List aa}(r:eg (QV G cs) a):a=S8 G cs:=by
 induction cs generalizing a with
 |nil=>cases r;rfl
 |cons c cs b=>
  cases r with
  |cons r d=>cases r;exact bD _ (b d)
def Pd(G:Bg)(cs:List Nat)(t:Ty->Option Bool):Prop:=(∀y b,t y=U b->W.kitAny G.K (y.val G) (S8 G cs)=U b)/\∀j b,t (.c j)=U b->MI G.K (G.ca j)
def N8{cs:List Nat}{t:Ty->Option Bool}(i:Pd G cs t)(hK:X.K=G.K:=by rfl):vQ X (.builtin "isinstance") (λl H Q=>∃d x b a,l=[x,.ref a]/\H a=U (.ef (QV G cs))/\en G H d x/\t (tyD d)=U b/\Q (.Y b) H):=by
 intro j s σ H l T Q I r h;obtain⟨d,x,b,a,rfl,o,hd,e,q⟩:=h;obtain⟨u,Y,rfl,E,f⟩:=vals2 r;cases f;obtain⟨HH,A_,z,A⟩:=Zy I hK hd E λk P N y=>by subst y;rw[hK];exact i.2 k b e
 obtain⟨_,p,F,⟨⟨c,M,J,R⟩,B,C,n,q3⟩,_⟩:=(show e8 X.prog X.w H s.heap a (.ef (QV G cs)) from I.fb a _ o);cases C;cases q3;have m:=S9 cs F;subst m;exact W.kia_tup A_ I.ny z B (by rw[hK];exact i.1 _ _ e) A λS=>⟨.Y b,H,I.vl _,Z,q⟩
def Zz(G:Bg):List Nat->TA
 |[]=>HR
 |c::r=>Cf (tC (.ref (G.ca c))) (Zz G r)
theorem Pe:∀(cs:List Nat) (a:St) (H:Hp) (Q:bz->Hp->Prop),Q (QV G cs) H->Zz G cs a H Q
 |[],_,_,_,h=>h
 |c::r,a,H,Q,h=>Pe r a H (λd b=>Q (.ref (G.ca c)::d) b) h
def Ta{e:Expr}{cs:List Nat}{t:Ty->Option Bool}{f:FE}(h:PE X e (tCB (λz H Q=>∃d x b m,z=[x,.ref m]/\H m=U (.ef (QV G cs))/\en G H d x/\t (tyD d)=U b/\Q (.Y b) H) (Cf (tF G f) (Cf (tTup (Zz G cs)) HR))))(y:cs.length<=1000:=by decide):PE X e (tF G (c1 (vv t) f)):=PE.ea h λC H Q w=>by
 obtain⟨F,A,o,d,l,R,e,k⟩:=w;obtain⟨x,u,a⟩:=Eu e;unfold vv at a;cases i:t (tyD x)with
 |none=>rw[i]at a;cases a
 |some b=>
  rw[i]at a;cases a;refine⟨F,A,o,x,l,R,u,λv B q s c r=>Pe cs _ _ _ ⟨?_,λp j=>?_⟩⟩
  .unfold QV;rw[ah];exact w6 y
  .exact⟨x,v,b,p,Z,uu,en.mono (c.sub.t (uH j _)) _ _ r,i,k _ _ _ (s.t (uH (c.fx j) _)) (c.L0 j _) (wV b)⟩
end
abbrev one(j:Nat)(led pl:Bool):bG:=⟨7,#[j],#[],0,led,0,pl⟩
section
variable{prog:aB}{w:az}{A:aG}{E:aa->af->Prop}{s:af}
abbrev TK(prog:aB)(w:az):=IsTupleKey (uK prog w)
def cls_val(n:Nat)(h:lY v=γ):iz n v=pure δ:=by
 cases v with
 |ref a=>simp[lY]at h
 |_=>first|rfl|simp[iz]|(unfold iz;rfl)
def Pf(e:TK prog w s.heap j a)(h:Q δ s):ao (model prog w) A (iz 8 (.ref a)) Q E s:=by
 have hT:=e.typeIs;obtain⟨o,items,n,i,_,hd,f⟩:=e;unfold iz;refine ag (jO hT ?_);show ao _ _ (pure γ>>=_) _ _ s;refine ag (au ?_);simp only[Bool.not_true,eE,if_false];refine ag (lZ i hd ?_);refine ag ?_;show ao _ _ (forIn items _ _) _ _ s;rw[<-oO];refine lC _ (λfc r d=>r.1=O/\d=s/\∀v∈fc,lY v=γ) _ ?_ ?_ _ _ ⟨Z,Z,f.byValue⟩
 .rintro v fc r d ⟨b,rfl,hall⟩;rw[cls_val _ (hall v bb)];refine ag (au ?_);simp only[eE,if_false];exact au ⟨Z,Z,λu c=>hall u (ba _ c)⟩
 .rintro⟨l,m⟩ d ⟨b,rfl,_⟩;simp only at b;subst b;exact au h
end
section
variable{prog:aB}{w:az}{A:aG}{E:aa->af->Prop}{s:af}
def N9{a:Heap}(b:a.get? S=U o)(hd:o.data=.set es ep t):(a.update S (jV es' t')).get? S=U { o with data:=.set es' (ep+1) t' }:=by have:=eX (jV es' t') b (by rw[putSet_of es' t' hd];rfl);rw[putSet_of es' t' hd]at this;exact this
end
section
variable{prog:aB}{w:az}{A:aG}{R:eL->af->Prop}{I:Addr}{fp wr:List Addr}{GG:Array gm->Array gm->Prop}{PP:Nat->aa->Prop}{SS:Nat->af->Prop}
def TK.f?{c:Heap}(t:TK prog w h f a)(e:∀o,h.get? a=U o->c.get? a=U o):TK prog w c f a:=by obtain⟨o,b,n,d,m⟩:=t;exact⟨o,b,n,e o d,m⟩
def Set2(h:Heap)(S:Addr)(n:Nat):Prop:=∃o a b t,h.get? S=U o/\o.ExactSet/\o.data=.set a b t/\a.size<scanBound/\t.fits a.size=γ/\a.size=n
end
def G?:isSubtype (.type "tuple") (.type "set")=pure δ:=by rw[jL];kernel_rfl
def o?:isSubtype (.type "tuple") (.type "frozenset")=pure δ:=by rw[jL];kernel_rfl
section
variable{prog:aB}{w:az}{A:aG}{E:aa->af->Prop}{s:af}{Q:aa->af->Prop}
abbrev zA(led:Bool):Obj:={ cls:=.type "set", dict:=O,data:=.set #[] 0 (.fresh 0 0 led) }
abbrev inK(a:List ey):ey->Bool:=λj=>(z8 a).any (λz=>decide (z=j))
structure SrcK(prog:aB)(w:az)(h:Heap)(a:Addr)(items:Array aa)(ks:List ey):Prop where
 len:ks.length=items.size
 key:∀i v (hi:i<ks.length),items[i]?=U v->(uK prog w).is ks[i] v=γ/\v.scannable=γ
 bnd:items.size+1<scanBound
def WA(s:af)(PS:Heap->Prop)(E:aa->af->Prop):eL->af->Prop:=
 wants (λr s2=>r=.none/\∃h2 k2,s2={ s with heap:=h2,toks:=k2 }/\PS h2/\∀b o,b<s.heap.objs.size->s.heap.get? b=U o->h2.get? b=U o) E
def MP(K:SrcK prog w s.heap ax items ks)(hlt:ax<s.heap.objs.size)
  (W:Walks prog w A.in1 (s.heap.objs.size+1) [s.heap.objs.size+1,ax] [s.heap.objs.size+1] items.size (λi v=>items[i]?=U v) SS) (st:SS 0 ((s.heap.push (zA led)).push itO))
  (hR:∀h2 k2,h2.SetOf (uK prog w) s.heap.objs.size (inK ks) (z8 ks).length->(∀b o,b<s.heap.objs.size->s.heap.get? b=U o->h2.get? b=U o)->R (.ok (.ret .none)) { s with heap:=h2,toks:=k2 }) (tk:Nat):
  cy (model prog w) A (.builtin "set.update.loop" ⟨[.ref s.heap.objs.size,.ref (s.heap.objs.size+1)],[]⟩) R { s with heap:=(s.heap.push (zA led)).push itO,toks:=tk }:=by
 have notin:s.heap.objs.size∉[s.heap.objs.size+1,ax]:=by
  intro z;rcases aJ.1 z with z|z
  .exact ar z (aW (dF _))
  .exact ar (bh.1 z) (f7 hlt)
 have c:((s.heap.push (zA led)).push itO).get? s.heap.objs.size=U (zA led):=aK _ (bp _ Z);refine S7 W.toS s.heap.objs.size notin ks K.len (λi v hi l=>K.key i v hi l) K.bnd (items.size - 0) 0 _ (by omega) (cD _) st ?_ λs2 mv a=>?_
 .exact⟨_,#[],0,_,c,⟨Z,Z,Z⟩,Z,λe j=>by simp at j,λk=>by simp[z8],by unfold scanBound;decide,by rfl,Z⟩
 .obtain⟨h2,g2,d2,k2,m⟩:=s2;have f:g2=s.gens:=mv.gens;have d:d2=s.drawn:=mv.drawn;have h:m=s.os:=mv.os;subst f d h;refine hR h2 k2 a λb o hb e=>mv.heap b o (λz=>?_) (aK _ (aK _ e));rcases aJ.1 z with z|z
  .exact ar z (aW hb)
  .exact ar (bh.1 z) (aW (eF hb))
theorem Oa(a:aa)(h:Q₁ (.ref s.heap.objs.size) { s with heap:=s.heap.push (zA (!w.params.followText "set-order")) }):
  cy (model prog w) A (.call (.builtin "set.__new__") ⟨[.type "set", a],[]⟩) (wants Q₁ E) s:=by
 refine pM ?_;show ao _ A.in1 (do checkBuiltinCall "set.__new__" ⟨[.type "set", a],[]⟩;again (.builtin "set.__new__" ⟨[.type "set", a],[]⟩)) _ _ s;refine ag (wpAny_of_eq (F.newCall_set_1 a) (au ⟨fY pN _,dM F.entry_set_new ?_⟩));rw[eA pN _];unfold dQ.«set.__new__» rX;have hsub:=sub_set_self;obtain⟨b,g,d,tk,os⟩:=s;dsimp only
 wp_walk
 refine lD (au ?_);dsimp only;simp only[newObj];refine ag (wpAny_alloc (au ?_));exact au h
theorem EH{PS:Heap->Prop}(p:s.heap.get? ax=U o)(y:o.cls=.type T)
  (M:isSubtype (.type T) (.type "set")=pure δ) (N:isSubtype (.type T) (.type "frozenset")=pure δ) (P:(Value.type T==Value.type "dict")=δ)
  (itr:∀(A:aG) (Q:aa->af->Prop) (E:aa->af->Prop) (a:af),a.heap.get? ax=U o->Q (.ref a.heap.objs.size) { a with heap:=a.heap.push itO }->ao (model prog w) A (pyIter (.ref ax)) Q E a)
  (fil:∀tk (R:eL->af->Prop),(∀h2 k2,PS h2->(∀b o,b<s.heap.objs.size->s.heap.get? b=U o->h2.get? b=U o)->R (.ok (.ret .none)) { s with heap:=h2,toks:=k2 })->
   cy (model prog w) A.in1.in1 (.builtin "set.update.loop" ⟨[.ref s.heap.objs.size,.ref (s.heap.objs.size+1)],[]⟩) R { s with heap:=(s.heap.push (zA (!w.params.followText "set-order"))).push itO,toks:=tk })
  (h:∀h2 k2,PS h2->(∀b o,b<s.heap.objs.size->s.heap.get? b=U o->h2.get? b=U o)->Q (.ref s.heap.objs.size) { s with heap:=h2,toks:=k2 }):
  ao (model prog w) A (call (.type "set") [.ref ax]) Q E s:=by
 have hlt:ax<s.heap.objs.size:=aP p;obtain⟨c,J,hmro⟩:=fI.mro;have made:=fI.made;have subs:=fI.sub;refine gb (pM ?_);show ao _ _ (callAny (.type "set") _) _ _ _;refine au ⟨oP _ (by decide +kernel),dM F.entry_type_call ?_⟩;rw[Around.under_plain (weight_type_call_type "set" [.ref ax] []) Z];have G:=fI.notType;have H:=fI.canCreate;have I:=F.typeCall_set_1 (.ref ax)
 repeat (any_goals (first|assumption|wp_step))
 let led:Bool:=!w.params.followText "set-order";refine fG (Oa (.ref ax) (E:=E) (Q₁:=λv a=>v=.ref s.heap.objs.size/\a={ s with heap:=s.heap.push (zA led) }) ⟨Z,Z⟩) λr a hr=>?_;cases r with
 |error e=>exact hr
 |ok x=>
  cases x with
  |ret v=>
   obtain⟨rfl,rfl⟩:=hr;have q:(s.heap.push (zA led)).get? s.heap.objs.size=U (zA led):=bp _ Z;have l:l9 { s with heap:=s.heap.push (zA led) } (.ref s.heap.objs.size) "set" := ⟨_,q,Z⟩;have B:=fI.init.lookup;have C:=fI.init.bind (.ref s.heap.objs.size)
   repeat (any_goals (first|assumption|wp_step))
   refine fG (jv (R:=WA s PS E) fI.init.plain F.entry_set_init (check_set_init_1 l ?_)) λz s2 d=>?_
   .obtain⟨oc,od,oda,osl⟩:=o;cases y;have t:(s.heap.push (zA led)).get? ax=U { cls:=.type T,dict:=od,data:=oda,slots:=osl }:=aK _ p;unfold dQ.«set.__init__» noKeywords rT;generalize gP:pyIter=PP
    wp_walk
    subst gP;refine itr _ _ _ _ t ?_;refine ag (qb ?_);have u:(s.heap.push (zA led)).objs.size=s.heap.objs.size+1:=c9 _ _;show cy _ _ (.builtin "set.update.loop" ⟨[.ref s.heap.objs.size,.ref (s.heap.push (zA led)).objs.size],[]⟩) _ _;rw[u];refine fil _ _ λh2 k2 f j=>?_;show ao _ _ _ _ _ _;refine au ?_;show ao _ _ (ret Value.none) _ _ _;exact au ⟨Z,h2,k2,Z,f,j⟩
   .cases z with
    |error e=>exact d
    |ok i=>
     cases i with
     |ret r=>
      obtain⟨rfl,h2,k2,rfl,f,j⟩:=d
      repeat (any_goals (first|assumption|wp_step))
      exact h _ _ f j
     |_=>exact d.elim
  |_=>exact hr.elim
end
section
variable{X:Cx}{G:Bg}{H:Hp}{pins:cA}{σ:St}{s:af}
def Tc(h:(uK P w).is k v=γ):v.scannable=γ:=by rcases vA h with ⟨i,t,_,rfl⟩|⟨x,t,_,rfl⟩<;>rfl
def Td{b:List ey}(r:eg (b.map kV) c)(o:b.length+1<scanBound):SrcK X.prog X.w s.heap a c.toArray b:=by
 have l:=by have:=r.length;rw[ah]at this;exact this
 refine⟨by rw[bc];exact l,λi v j f=>?_,by rw[bc];omega⟩;have e:(b.map kV)[i]?=U (kV b[i]):=by rw[bA,bg j];rfl
 obtain⟨u,d,m⟩:=r.get e;have h:=by rw[jt]at f;rw[f]at d;exact cP d
 subst h;have:=Gh (P:=X.prog) (w:=X.w) m;exact⟨this,Tc this⟩
def ac9{c:List ey}(I:dr X pins σ H s)(h:gk X.K H a (c.map kV)):TK X.prog X.w s.heap c a:=by
 obtain⟨b,r,p,_⟩:=I.tuple h;obtain⟨o,i,f,n,hd⟩:=p;refine⟨o,_,n,i,f,hd,?_⟩;have ri:∀(c:List ey) (b:List aa),eg (c.map kV) b->PySem.ItemsAre (uK X.prog X.w) c b:=λc=>by
  induction c with
  |nil=>intro b r;cases r;exact .nil
  |cons k c j=>intro b r;cases r with|cons d e=>exact .cons (Gh d) (j _ e)
 exact ri c b r
def ZC(K:aw)(H:Hp)(a:Addr)(n:Nat):Prop:=∃b,(f5 K H a (b.map kV)\/gk K H a (b.map kV))/\b.length+1<scanBound/\n=(z8 b).length
def ZD(X:Cx)(S:aw->Hp->Addr->Nat->Prop):Prop:=∀{pins:cA} {σ:St} {H:Hp} {s:af} {A:aG} {E:aa->af->Prop} {Q:aa->af->Prop} {a:Addr} {n:Nat},dr X pins σ H s->A.handled=O->A.units+8<cLine->S X.K H a n->
 (∀h2 k2,Set2 h2 s.heap.objs.size n->(∀b o,b<s.heap.objs.size->s.heap.get? b=U o->h2.get? b=U o)->Q (.ref s.heap.objs.size) { s with heap:=h2,toks:=k2 })->ao (model X.prog X.w) A (call (.type "set") [.ref a]) Q E s
def ada:ZD X (ZC):=by
 intro pins σ H s A E Q a n I J T i h;have u:A.in1.in1.in1.handled=O:=by simp[J]
 have q:∀{f:Heap} {j:List ey},f.SetOf (uK X.prog X.w) s.heap.objs.size (inK j) (z8 j).length->Set2 f s.heap.objs.size (z8 j).length:=λS=>by obtain⟨o,C,B,t,b,hex,hd,_,_,N,F,M⟩:=S;exact⟨o,C,B,t,b,hex,hd,N,F,M⟩
 have y:∀{o:Obj} {led:Bool},o.isFreed=δ->((s.heap.push (zA led)).push o).get? (s.heap.objs.size+1)=U o:=λ{o led} z=>by rw[show s.heap.objs.size+1=(s.heap.push (zA led)).objs.size from(c9 _ _).symm];exact bp _ z
 obtain⟨j,i|i,x,rfl⟩:=i
 .obtain⟨d,r,p,_⟩:=I.list i;obtain⟨o,b,c,n,hd⟩:=p.isList;have hne:=aW (eF (aP b));refine EH b c l3 kT (by decide)
   (λA Q E P e k=>fP ⟨o,e,c,n,hd⟩ k) (λm R hR=>MP (Td r x) (aP b) (iW u _ a hne d.toArray) ⟨⟨_,y Z,Z,Z⟩,⟨o,aK _ (aK _ b),c,n,hd⟩⟩ (λf l S=>hR f l (q S)) m) h
 .obtain⟨d,r,p,_⟩:=I.tuple i;obtain⟨o,b,c,n,hd⟩:=p;have hne:=aW (eF (aP b));refine EH b c G? o? (by decide)
   (λA Q E P e k=>oJ ⟨o,e,c,n,hd⟩ k) (λm R hR=>MP (Td r x) (aP b) (Walks.tuple u _ a hne d.toArray) ⟨⟨_,y Z,Z,Z⟩,⟨o,aK _ (aK _ b),c,n,hd⟩⟩ (λf l S=>hR f l (q S)) m) h
def Pg(S:aw->Hp->Addr->Nat->Prop)(K:aw)(c:TE):TE:=λσ H Q=>c σ H λx b=>∃a n,x=.ref a/\S K b a n/\Q (.int n) b
def QW{p2 p3:Pos}(hV:ZD X S)(J:X.A.units+64<cLine)(l:X.ll=γ)(g1:Gl X "len")(z:X.mg "len" = O)(g2:Gl X "set")(B:X.mg "set" = O)(m:PE X e F)
  (z1:ay [Expr.Call (.Name "set" p2) [e] [] p3] X.cb=[(δ,eval (.Call (.Name "set" p2) [e] [] p3) X.cb)]:=by rfl) (z2:ay [e] X.cb=[(δ,eval e X.cb)]:=by rfl):PE X (.Call (.Name "len" M) [.Call (.Name "set" p2) [e] [] p3] [] N) (Pg S X.K F):=by
 intro pins s σ H Q I h;refine dD (Bj I g1 z qc ?_ (by decide) (by decide));refine callWith_builtin1 ?_ z1 Z;rw[z1];refine eD ?_;refine dD (Bj I g2 B qR ?_ (by decide) (by decide));refine callWith_type1 (fu (vq m xB z2 p3 pins s σ H (λvs H1=>match vs with
  |[x]=>∃a n,x=.ref a/\S X.K H1 a n/\Q (.int n) H1
  |_=>False) I h) λus E ⟨vs,H1,c,r1,d⟩=>?_) z2 Z
 match vs,r1,d with
 |[x],r1,d=>
 obtain⟨a,n,j,r,q⟩:=d;subst j;obtain⟨u,rfl,C⟩:=m? r1;cases C;refine hV c (c.ok.hd l) (by omega) r λh2 k2 i y=>?_;refine fQ ?_;obtain⟨o,es,ep,t,p,hex,hd,w,hf,hn⟩:=i;have f:dr X pins σ H1 { E with heap:=h2,toks:=k2 }:=c.f? λb o e=>y b o (aP e) e;refine call_len_set p hex hd hf (by unfold scanBound at w;omega) ⟨.int n,H1,f.vl _,⟨_,by rw[hn]⟩,q⟩
def Gp:aN->Option (List ey)
 |[]=>U []
 |d::a=>match AY d,Gp a with
  |some k,U b=>U (k::b)
  |_,_=>O
theorem Kl:∀{a:aN} {f:bz} {c:List ey},di G H a f->Gp a=U c->f=c.map kV
 |[],f,c,r,e=>by cases e;unfold di at r;exact r
 |d::a,f,c,r,e=>by
  unfold Gp at e;cases b:AY d with
  |none=>rw[b]at e;cases e
  |some k=>
   cases h:Gp a with
   |none=>rw[b,h]at e;cases e
   |some l=>rw[b,h]at e;cases e;obtain⟨v,m,rfl,i,j⟩:=r;rw[Bq i b,Kl j h];rfl
def wZ(b:aN):Option D:=match Gp b with
 |some a=>if a.length<=1000 then U (.int (z8 a).length)else O
 |none=>O
def EI(g:aN->Option D):D->Option D
 |.cf a=>match wZ a with
  |some r=>U r
  |none=>g a
 |.ef a=>wZ a
 |.u? a=>wZ a
 |_=>O
def WB(h:wZ a=U r):EI g (.cf a)=U r:=by show (match wZ a with|some r=>U r|none=>g a)=U r;rw[h]
set_option tactic.hygienic true
def Ob(hK:X.K=G.K)(hO:∀{H a n},ZC X.K H a n->S X.K H a n)
  (E:∀{c d m b a i},g c=U d->f5 X.K b a i->di G m c i->uw m b->∃n:Nat,S X.K b a n/\d=.int n)
  (h:PE X e (Pg S X.K (tF G f))):PE X e (tF G (c1 (EI g) f)):=PE.ea h λσ H Q I=>by
 obtain⟨F,M,z,d,u,R,e,k⟩:=I;obtain⟨x,B,l⟩:=Eu e;have key:∀{c:aN} {i:bz} {a:Addr} {m b:Hp},wZ c=U d->di G m c i->uw z m->dt G F σ u m b->(f5 X.K b a i\/gk X.K b a i)->
   ∃A n,V.ref a=.ref A/\S X.K b A n/\Q (.int n) b:=λ{c i a m b} o rs s j t=>by
  unfold wZ at o;cases y:Gp c with
  |none=>rw[y]at o;cases o
  |some J=>
   rw[y]at o;simp only at o;split at o
   .rename_i N;cases o;rw[Kl rs y]at t;exact⟨a,_,Z,hO ⟨J,t,by unfold scanBound;omega,Z⟩,k _ _ _ s j (wF _)⟩
   .cases o
 refine⟨F,M,z,x,u,R,B,λv m b s j r=>?_⟩;cases x with
 |cf c=>
  obtain⟨a,i,rfl,p,q⟩:=r;have t:f5 X.K b a i:=f5.of (j.sub _ _ p);replace l:(match wZ c with|some r=>U r|none=>g c)=U d:=l;cases w:wZ c with
  |some r=>rw[w]at l;cases l;exact key w q s j (.inl t)
  |none=>rw[w]at l;obtain⟨n,C,rfl⟩:=E l t q j.sub;exact⟨a,n,Z,C,k _ _ _ s j (wF _)⟩
 |ef c=>obtain⟨a,i,rfl,p,q⟩:=r;rw[<-hK]at p;exact key l q s j (.inr (gk.mono j.sub p))
 |u? c=>obtain⟨a,i,rfl,p,q⟩:=r;rw[<-hK]at p;exact key l q s j (.inl (j.sub.seq p))
 |_=>cases l
end
set_option tactic.hygienic false
def Ph(h:(uK P w).is k v=γ):eo (kV k) v:=by
 rcases vA h with ⟨i,t,rfl,rfl⟩|⟨x,t,rfl,rfl⟩
 .exact⟨t,Z⟩
 .exact⟨t,Z⟩
def Itd(a:Addr)(o:Obj)(kvs:List (ey×V)):It:=
 ⟨λi H=>i<kvs.length/\H a=U (.oz o (.dK kvs)),λi H x b=>b=H/\∃k z,kvs[i]?=U (k,z)/\x=kV k,λi H=>kvs.length<=i/\H a=U (.oz o (.dK kvs))⟩
section
variable{X:Cx}{pins:cA}{σ:St}{H:Hp}{s:af}
def Gq(I:dr X pins σ H s)(e:H a=U (.oz o (.dK kvs)))(hd:o.data=.dict i f):
  (a==du)=δ/\s.heap.get? a=U o/\∃b,KV kvs b/\s.heap.DictAt (uK X.prog X.w) a b f:=by
 obtain⟨c,_,y,b,r,p,j,h,d,l,q3,m⟩:=(show e8 X.prog X.w H s.heap a (.oz o (.dK kvs)) from I.fb a _ e);rw[c]at d;cases d;rw[hd]at q3;cases q3;exact⟨y,c,b,r,o,i,c,l,hd,m⟩
def ZJ{kvs:List (ey×V)}{a:List (ey×aa)}(r:KV kvs a){i:Nat}{k:ey}{x:aa}(e:a[i]?=U (k,x)):∃z,kvs[i]?=U (k,z):=by
 induction r generalizing i with
 |nil=>cases e
 |@cons p q l c h _ b=>
  cases i with
  |zero=>obtain⟨pk,pv⟩:=p;cases e;exact⟨pv,by rw[show pk=k from h.1];rfl⟩
  |succ i=>exact b e
end
def QX{K:aw}(a it:Addr)(o:Obj)(kvs:List (ey×V)):Turn P w K tg (Itd a o kvs) [it] it (λi h=>∃es ep,o.data=.dict es ep/\h.IsKeyIter it a i kvs.length ep) where
 mem:=by simp
 obj:=λi h st b hb=>by
  have e:=by simpa using hb
  subst e;obtain⟨es,ep,hd,ob,e,c,d⟩:=st;exact⟨ob,e,λv z=>by rw[d]at z;cases z⟩
 keep:=λi h h' st k=>by obtain⟨es,ep,hd,x⟩:=st;exact⟨es,ep,hd,x.at λo e=>k it (by simp) o e⟩
 item:=by
  intro X hP hw hK A i pins s σ H E I hf st hg;subst hP hw hK;obtain⟨hi,p⟩:=hg;obtain⟨es,ep,hd,m⟩:=st;obtain⟨j,q,G,t,u,y⟩:=hf it (by simp);obtain⟨_,_,vs,r,da⟩:=Gq I p hd;have l:=r.length;have hne:a≠it:=λz=>by subst z;rw[p]at j;cases j
  have W:=Walks.dictKeys (knd:=uK X.prog X.w) (I.ok.hd A) it a hne vs ep;refine W.item i s _ _ (by omega) ⟨by rw[<-l];exact m,da⟩ λv h' tk M B R=>?_;obtain⟨k,x,N,J⟩:=M;obtain⟨z,Q⟩:=ZJ r N;have C:dr X pins σ H { s with heap:=h',toks:=tk }:=I.k? (λb o hb e=>R b o (by simpa using hb) e) j q t u y;obtain⟨f,_⟩:=B;rw[<-l]at f;obtain⟨ob,e,c,d⟩:=id f;exact⟨v,Z,OM e c d (by decide) ⟨kV k,H,C,Ph J,⟨Z,k,z,Q,Z⟩,⟨es,ep,hd,f⟩,λb hb=>(hf b hb).1⟩⟩
 done:=by intro X hP hw hK A i pins s σ H E I hf st hg;subst hP hw hK;obtain⟨hi,p⟩:=hg;obtain⟨es,ep,hd,m⟩:=st;obtain⟨j,q,G,t,u,y⟩:=hf it (by simp);obtain⟨_,_,vs,r,da⟩:=Gq I p hd;have l:=r.length;exact wpAny_pyNext_dict_end (I.ok.hd A) (by rw[<-l];exact m) da (gz (by rw[<-l];exact hi)) λh' F=>⟨Z,I.k? (λb o hb e=>F b o hb e) j q t u y⟩
 self:=λn n n n n st h=>by obtain⟨es,ep,hd,m⟩:=st;exact wpAny_pyIter_keyiter m h
section
variable{X:Cx}{G:Bg}{tg:Expr}
def iDic(c:TE):TI:=λd H R=>c d H λx b=>∃a o kvs,x=.ref a/\b a=U (.oz o (.dK kvs))/\R (Itd a o kvs) b
def WC(f:PE X l M):PI X tg l (iDic M):=by
 intro c s N H R I h;refine fu (f c s N H _ I h) λv i zz=>?_;obtain⟨x,j,d,J,F⟩:=zz;obtain⟨a,o,kvs,e,E,q⟩:=F;subst e;cases J;obtain⟨u,_,y,Q,r,P,t,B,m,z,p,A⟩:=(show e8 X.prog X.w j i.heap a (.oz o (.dK kvs)) from d.fb a _ E);rw[u]at m;cases m;have f:=r.length;refine wpAny_pyIter_dict y ⟨o,t,u,z,p,A⟩ ?_;refine⟨i.heap.objs.size,[i.heap.objs.size],_,_,j,Z,d.f? λb o e=>aK _ e,QX a _ o kvs,⟨t,B,p,⟨_,bp _ Z,Z,by rw[f];rfl⟩⟩,λb C=>?_,q⟩;have e:=by simpa using C
 subst e;exact d.fpOk (aL _) (d.fb.fresh (aL _))
def ZL:ey->D
 |.inl i=>.int i
 |.inr x=>.str x
def WE(k:ey):en G H (ZL k) (kV k):=by
 cases k with
 |inl i=>exact wF i
 |inr x=>exact yI x
def iD(f:FE):FA:=λd=>match f d with
 |some (.Z b c,a)=>if b.length=c.length then U (b.map ZL,a)else O
 |_=>O
set_option tactic.hygienic true
def Te(h:PI X tg e (iDic (tF G f))):PI X tg e (tFI G (iD f)):=PI.ea h λσ H R P=>by
 obtain⟨F,Y,B,ds,ρ',R,e,k⟩:=P;unfold iD at e;split at e
 .rename_i p J ρ1 M;split at e
  .rename_i x;cases e;refine⟨F,Y,B,_,_,R,M,λv H1 C s w r=>?_⟩;obtain⟨a,o,W,rfl,q,T,r3⟩:=r;have A:(p.zip W).length=p.length:=by rw[iG,<- T,iP]
   refine⟨a,o,_,Z,w.sub _ _ q,k _ _ _ s w λi E I t u=>⟨λd c=>?_,λS=>?_⟩⟩
   .rw[bA]at c;cases m:p[i]? with
    |none=>rw[m]at c;cases c
    |some j=>
     rw[m]at c;cases c;have Q:=(bR.1 m).1;refine⟨⟨by rw[A];exact Q,u _ _ (t _ _ q)⟩,λz H3 y=>?_⟩;obtain⟨N,k',z',l,rfl⟩:=y;subst N;have:=by rw[List.getElem?_zip_eq_some]at l;have:=l.1;rw[m]at this;exact(cP this).symm
     subst this;exact⟨E,uw.refl _,u,uw.refl _,λb o e=>.inl e,WE _⟩
   .refine⟨by rw[A,S,ah];exact aL _,u _ _ (t _ _ q)⟩
  .cases e
 .cases e
end
set_option tactic.hygienic false
mutual
def Hs(N c:Nat):D->Bool
 |.X=>γ
 |.Y _=>γ
 |.int _=>γ
 |.str _=>γ
 |.ef a=>y6 N c a
 |.cf a=>y6 N c a
 |.u? a=>y6 N c a
 |.obj k _ a=>decide (k<N)&&decide (k≠c)&&y6 N c a
 |.Z _ a=>y6 N c a
 |.dit _ a=>y6 N c a
def y6(N c:Nat):aN->Bool
 |[]=>γ
 |d::a=>Hs N c d&&y6 N c a
end
def without(H:Hp)(a:Addr):Hp:=λb=>if b=a then O else H b
def ID{H:Hp}{a b:Addr}(h:b≠a):without H a b=H b:=by unfold without;rw[aq h]
def EJ{H:Hp}{a b:Addr}{o:HO}(h:without H a b=U o):b≠a/\H b=U o:=by
 unfold without at h;by_cases c:b=a
 .rw[ak c]at h;cases h
 .rw[aq c]at h;exact⟨c,h⟩
def xg{H:Hp}{a b:Addr}{u v:HO}(e:H a=U u)(c:H b=U v)(d:u≠v):without H a b=U v:=by rw[ID (λz=>by subst z;rw[e]at c;exact d (cP c))];exact c
section
variable{G:Bg}{H:Hp}{a dx:Addr}{fs:List (Str×V)}{N c:Nat}
def Gr(b:H a=U (.mr (G.ca c) dx fs)){p:Addr}{d:bz}(h:gk G.K H p d):gk G.K (without H a) p d:=by
 rcases h with (h|⟨o,h⟩)|h
 .exact .inl (.inl (xg b h (λz=>nomatch z)))
 .exact .inl (.inr ⟨o,xg b h (λz=>nomatch z)⟩)
 .exact .inr h
def MQ(b:H a=U (.mr (G.ca c) dx fs)){p:Addr}{d:bz}(h:f5 G.K H p d):f5 G.K (without H a) p d:=by
 rcases h with (h|⟨o,h⟩)|h
 .exact .inl (.inl (xg b h (λz=>nomatch z)))
 .exact .inl (.inr ⟨o,xg b h (λz=>nomatch z)⟩)
 .exact .inr h
mutual
theorem Gs(inj:∀j k,j<N->k<N->G.ca j=G.ca k->j=k)(t:c<N)(i:H a=U (.mr (G.ca c) dx fs)):∀(d:D) (v:V),Hs N c d=γ->en G H d v->en G (without H a) d v
 |.X,v,_,h=>by unfold en at h ⊢;exact h
 |.Y _,v,_,h=>by unfold en at h ⊢;exact h
 |.int _,v,_,h=>by unfold en at h ⊢;exact h
 |.str _,v,_,h=>by unfold en at h ⊢;exact h
 |.ef l,v,n,h=>by obtain⟨p,f,e,m,r⟩:=h;exact⟨p,f,e,Gr i m,wH inj t i l f n r⟩
 |.cf l,v,n,h=>by obtain⟨p,f,e,m,r⟩:=h;exact⟨p,f,e,xg i m (λz=>nomatch z),wH inj t i l f n r⟩
 |.u? l,v,n,h=>by obtain⟨p,f,e,m,r⟩:=h;exact⟨p,f,e,MQ i m,wH inj t i l f n r⟩
 |.obj k J l,v,n,h=>by unfold Hs at n;simp only[aV,cq]at n;obtain⟨p,w,f,e,m,r,u⟩:=h;refine⟨p,w,f,e,xg i m (λz=>?_),r,wH inj t i l f n.2 u⟩;injection z with I;exact n.1.2 (inj k c n.1.1 t I.symm)
 |.Z E l,v,n,h=>by obtain⟨p,o,f,e,m,r,u⟩:=h;exact⟨p,o,f,e,xg i m (λz=>nomatch z),r,wH inj t i l f n u⟩
 |.dit E l,v,n,h=>by obtain⟨b,f,rfl,⟨o,F,m,r,u,x,y,A⟩,B⟩:=h;exact⟨b,f,Z,⟨o,F,xg i m (λz=>nomatch z),r,u,x,λq C=>Gr i (y q C),A⟩,wH inj t i l f n B⟩
theorem wH(inj:∀j k,j<N->k<N->G.ca j=G.ca k->j=k)(l:c<N)(i:H a=U (.mr (G.ca c) dx fs)):∀(b:aN) (f:bz),y6 N c b=γ->di G H b f->di G (without H a) b f
 |[],f,_,h=>by unfold di at h ⊢;exact h
 |d::b,f,n,h=>by unfold y6 at n;simp only[aV]at n;obtain⟨v,r,e,m,o⟩:=h;exact⟨v,r,e,Gs inj l i d v n.1 m,wH inj l i b r n.2 o⟩
end
end
def DW:Sl->Sl
 |.I d=>.I d
 |_=>.un
def DC(N:Nat)(f:FE):FE:=λa=>match a with
 |.ob c e b::r=>match f (.I (.obj c e b)::r.map DW)with
  |some (d,_)=>if (decide (c<N)&&Hs N c d)=γ then U (d,a)else O
  |none=>O
 |_=>O
section
variable{X:Cx}{G:Bg}
def Oc{s:Sl}:(DW s).i1=δ:=by cases s<;>rfl
set_option tactic.hygienic true
def WG{e:Expr}{f:FE}{N:Nat}(inj:∀j k,j<N->k<N->G.ca j=G.ca k->j=k)(h:PE X e (tF G f)):PE X e (tF G (DC N f)):=PE.ea h λσ H Q E=>by
 obtain⟨F,ρ,H0,d,ρ',R,e,k⟩:=E;unfold DC at e;split at e
 .rename_i c ns ds r;rcases uI (f:=f) (ρ:=.I (.obj c ns ds)::r.map DW)with w|⟨x,y,w⟩<;>simp only[w]at e
  .cases e
  split at e
  .rename_i hn;cases e;simp only[aV,cq]at hn;obtain⟨a,dx,xs,h1,h2,h3,h4,h5,h6⟩:=R.sl 0 _ Z;have RL:dt G ⟨e7 H0 a (.mr (G.ca c) dx (ns.zip xs)),H,[]⟩ σ (.I (.obj c ns ds)::r.map DW) (e7 H0 a (.mr (G.ca c) dx (ns.zip xs))) H:={
    sub:=λb o q=>by
     by_cases hb:b=a
     .subst hb;rw[uu]at q;cases q;exact h2
     .rw[uC hb]at q;exact R.sub _ _ q
    g0:=uw.refl _
    keep:=λb o q n=>q
    fr:=λb o q=>.inl q
    am:=λb q=>by cases q
    len:=by have:=R.len;simpa using this
    sl:=λi s q=>by
     cases i with
     |zero=>cases q;exact⟨.ref a,h1,by unfold en;exact⟨a,dx,xs,Z,uu,h5,di.mono (uH h3 _) _ _ h6⟩⟩
     |succ i=>
      have l:(r.map DW)[i]?=U s:=q;rw[bA]at l;cases m:r[i]? with
      |none=>rw[m]at l;cases l
      |some t=>
       rw[m]at l;cases l;have ok:=R.sl (i+1) t m;cases t with
       |I d=>obtain⟨v,g1,g2⟩:=ok;exact⟨v,g1,en.mono (uH h3 _) _ _ g2⟩
       |_=>trivial
    ap:=λi j s t b n A n so=>by
     cases i with
     |zero=>cases A;cases so
     |succ i=>
      have l:(r.map DW)[i]?=U s:=A;rw[bA]at l;cases m:r[i]? with
      |none=>rw[m]at l;cases l
      |some t=>rw[m]at l;cases l;rw[Oc]at so;cases so }
   refine⟨_,_,_,d,y,RL,w,λv H1 p s u I=>?_⟩;have ha:=s _ _ uu;have B:uw H0 (without H1 a):=λb o q=>by
    have hb:b≠a:=λz=>by subst z;rw[h3]at q;cases q
    rw[ID hb];exact s b o (by rw[uC hb];exact q)
   refine k v (without H1 a) p B ?_ (Gs inj hn.1 ha d v hn.2 I);refine R.gf (λb o q=>u.keep b o q (by simp)) B (λb o q=>u.sub _ _ (EJ q).2) λb o q=>?_;obtain⟨hb,q⟩:=EJ q;rcases u.fr b o q with z|z
   .have C:e7 H0 a (.mr (G.ca c) dx (ns.zip xs)) b=U o:=z;rw[uC hb]at C;exact .inl C
   .exact .inr z
  .cases e
 .cases e
end
set_option tactic.hygienic false
section
variable{X:Cx}{pins:cA}{σ:St}{H:Hp}{s:af}{a:Addr}{A:aG}{E:aa->af->Prop}
theorem ZM(I:dr X pins σ H s)(e:H a=U (.dK kvs))(J:eo (kV k) u)(M:eo z r)(N:kvs.length<aC)
  (l:∀v w f,yb kvs k=U v->dr X pins σ H f->eo v w->Q w f) (m:∀f,yb kvs k=O->dr X pins σ (e7 H a (.dK (mu kvs k z))) f->Q r f):
  ao (model X.prog X.w) A (call (.builtin "dict.setdefault") [.ref a,u,r]) Q E s:=by
 obtain⟨y,hd,i,rel,h⟩:=Xz I.fb e;have G:i.length<=aC:=by rw[<-rel.length];exact y
 have t:(mu kvs k z).length<=aC:=by have:=Ci kvs k z;omega
 have b:=rel.val k;refine gU nS h.typeIs F.entry_dict_setdefault (F.args_dict_setdefault_3 _ _ _) (kt_meets_setdefault (uK X.prog X.w) a (Gh J) hd r) ⟨i,h,G,λw C=>?_,λp j d B=>?_⟩
 .rw[C]at b;cases c:yb kvs k with
  |none=>rw[c]at b;exact b.elim
  |some v=>rw[c]at b;exact l v w _ c (I.vl _) b
 .rw[p]at b;cases c:yb kvs k with
  |some v=>rw[c]at b;exact b.elim
  |none=>have o:∃q,j.get? a=U q:=let ⟨q,_,_,x,_⟩:=d;⟨q,x⟩;exact m _ c (Lg I (by rw[e];exact True.intro) B o (RY t hd (rel.put k M) d))
def Tf(e ty f:TE):TE:=λσ H Q=>e σ H λx c=>∃a,x=.ref a/\IsD c a/\ty σ c λy d=>f σ d λz b=>∃kvs k,b a=U (.dK kvs)/\y=kV k/\kvs.length<aC/\
 (∀v,yb kvs k=U v->Q v b)/\(yb kvs k=O->Q z (e7 b a (.dK (mu kvs k z))))
theorem Tg(T:PE X o td)(P:PE X e ty)(R:PE X f tx)(m:M2 X o "setdefault" apos e f cpos):PE X (.Call (.Attribute o "setdefault" apos) [e,f] [] cpos) (Tf td ty tx):=by
 intro pins s σ H Q I h;refine jB m.b? m.few m.line jC nS F.type_dict_setdefault (fu (T pins s σ H _ I h) λu s1 zz=>?_);obtain⟨x,p,j,rx,a,G,d,W⟩:=zz;subst G;obtain rfl:u=Value.ref a:=rx;obtain⟨t1,t2,_⟩:=Lh j d;refine⟨t1,t2,?_⟩;rw[m.S?];refine ic Z (gA (eD (fu (P pins s1 σ p _ j W) λiv s2 ⟨y,q,t,ry,Y⟩=>
  eD (fu (R pins s2 σ q _ t Y) λfv s3 ⟨z,r,B,l,kvs,k,C,J,S,M,N⟩=>fQ ?_))))
 subst J;exact ZM B C ry l S (λv w s' c b i=>⟨v,r,b,i,M v c⟩) λs' c b=>⟨z,_,b,l,N c⟩
end
def Br(a:List ey)(dss:List aN)(k:ey)(d:D):List ey×List aN:=
 if JK a k=γ then (a,f9 (λc b=>if c=k then b++[d]else b) a dss)else (a++[k],dss++[[d]])
def EK:JK c k=γ ↔ k∈c:=by unfold JK;rw[fA];exact⟨λ⟨x,a,b⟩=>bq b▸a,λh=>⟨k,h,br Z⟩⟩
def Ti{b:List ey}{a:bz}:b.length=a.length->yb (b.zip a) k=U v->∃j:Nat,b[j]?=U k/\a[j]?=U v:=by
 induction b generalizing a with
 |nil=>intro _ h;cases h
 |cons l b i=>
  intro c h;cases a with
  |nil=>cases c
  |cons m a=>
   unfold yb at h;rw[fj,fB]at h;by_cases e:l=k
   .subst e;simp only[decide_true]at h;cases h;exact⟨0,Z,Z⟩
   .simp only[e,decide_false]at h;obtain⟨j,d,f⟩:=i (by simpa using c) h;exact⟨j+1,d,f⟩
def Tj{a:List ey}{b:bz}:a.length=b.length->yb (a.zip b) k=O->k∉a:=by
 induction a generalizing b with
 |nil=>intro _ _ h;cases h
 |cons i a f=>
  intro c h d;cases b with
  |nil=>cases c
  |cons j b=>
   unfold yb at h;rw[fj,fB]at h;by_cases e:i=k
   .subst e;simp only[decide_true]at h;cases h
   .simp only[e,decide_false]at h;rcases aJ.1 d with z|z
    .exact e z.symm
    .exact f (by simpa using c) h z
structure θ(G:Bg)(F:Fr)(H0 H:Hp)(a:Addr)(ks:List ey)(dss:List aN)(bs:List Addr):Prop where
 i2:H a=U (.dK (ks.zip (bs.map V.ref)))
 n0:H0 a=O
 nB:F.B a=O
 len:ks.length=bs.length
 Gn:bs.length=dss.length
 nd:bs.Nodup
 kd:ks.Nodup
 each:∀(i:Nat) (b:Addr) (ds:aN),bs[i]?=U b->dss[i]?=U ds->∃xs,H b=U (.cf xs)/\H0 b=O/\F.B b=O/\di G H0 ds xs
section
variable{G:Bg}{F:Fr}{σ:St}{ρ:aM}{H0 H H0' H':Hp}{a:Addr}{ks:List ey}{dss:List aN}{bs:List Addr}
def θ.gf(g:θ G F H0 H a ks dss bs)(hs:uw H H')(h0:uw H0 H0')(hf:∀b o,H0' b=U o->H0 b=U o\/H b=O):θ G F H0' H' a ks dss bs where
 i2:=hs _ _ g.i2
 n0:=by
  cases q:H0' a with
  |none=>rfl
  |some o=>
   rcases hf a o q with z|z
   .rw[g.n0]at z;cases z
   .rw[g.i2]at z;cases z
 nB:=g.nB
 len:=g.len
 Gn:=g.Gn
 nd:=g.nd
 kd:=g.kd
 each:=λi b ds d e=>by
  obtain⟨xs,c,f,q3,h⟩:=g.each i b ds d e;refine⟨xs,hs _ _ c,?_,q3,di.mono h0 _ _ h⟩;cases q:H0' b with
  |none=>rfl
  |some o=>
   rcases hf b o q with z|z
   .rw[f]at z;cases z
   .rw[c]at z;cases z
def dt.still(R:dt G F σ ρ H0 H)(no:∀s∈ρ,s.i1=δ):dt G ⟨H0,H,[]⟩ σ ρ H0 H where
 sub:=R.sub
 g0:=uw.refl _
 keep:=λb o e v=>e
 fr:=λb o e=>.inl e
 am:=λa h=>by cases h
 len:=R.len
 sl:=λi s e=>by
  have ok:=R.sl i s e;have n:=no s (b8 e);cases s with
  |un=>trivial
  |I d=>exact ok
  |_=>cases n
 ap:=λi j s t b v e v so=>by rw[no s (b8 e)]at so;cases so
theorem dt.touch(R:dt G F σ ρ H0 H)(no:∀s∈ρ,s.i1=δ)(c:∀b o,H b=U o->(H0 b≠O\/F.B b≠O)->H' b=U o)(ha:∀b o,H b=U o->∃f,H' b=U f):dt G F σ ρ H0 H' where
 sub:=λb o e=>c b o (R.sub _ _ e) (.inl (by rw[e];exact λz=>nomatch z))
 g0:=R.g0
 keep:=λb o e n=>c b o (R.keep b o e n) (.inr (by rw[e];exact λz=>nomatch z))
 fr:=R.fr
 am:=λb hb=>by obtain⟨o,e⟩:=R.am b hb;exact ha b o e
 len:=R.len
 sl:=λi s e=>by
  have ok:=R.sl i s e;have n:=no s (b8 e);cases s with
  |un=>trivial
  |I d=>exact ok
  |_=>cases n
 ap:=λi j s t b v e v so=>by rw[no s (b8 e)]at so;cases so
def ZP{bs:List Addr}(h:bs.Nodup){i j:Nat}{b:Addr}(c:bs[i]?=U b)(d:bs[j]?=U b):i=j:=by obtain⟨l,e⟩:=bR.1 c;obtain⟨m,f⟩:=bR.1 d;exact(lA h).1 (e.t f.symm)
def ZQ{ks:List ey}(h:ks.Nodup){i j:Nat}{b:ey}(c:ks[i]?=U b)(d:ks[j]?=U b):i=j:=by obtain⟨l,e⟩:=bR.1 c;obtain⟨m,f⟩:=bR.1 d;exact(lA h).1 (e.t f.symm)
def θ.more(g:θ G F H0 H a ks dss bs){j:Nat}{k:ey}{b:Addr}{d:D}{v:V}{y:bz}(h:ks[j]?=U k)(p:bs[j]?=U b)(l:H b=U (.cf y))(I:en G H0 d v):
  θ G F H0 (e7 H b (.cf (y++[v]))) a (Br ks dss k d).1 (Br ks dss k d).2 bs:=by
 have A:=EK.2 (b8 h);unfold Br;rw[ak A];have E:a≠b:=λz=>by subst z;rw[g.i2]at l;cases l
 refine⟨by rw[uC E];exact g.i2,g.n0,g.nB,g.len,?_,g.nd,g.kd,λi c M o e=>?_⟩
 .rw[kX,<- g.Gn,<- g.len,iP,g.len]
 .rw[List.getElem?_zipWith]at e;cases f:ks[i]? with
  |none=>rw[f]at e;cases e
  |some B=>
   cases t:dss[i]? with
   |none=>rw[f,t]at e;cases e
   |some m=>
    rw[f,t]at e;cases e;obtain⟨J,u,w,w3,x⟩:=g.each i c m o t;by_cases q:B=k
    .subst q;have r:=ZQ g.kd f h;subst r;rw[o]at p;cases p;rw[u]at l;cases l;rw[ak Z];exact⟨_,uu,w,w3,wa x (uR I uU)⟩
    .rw[aq q];have C:c≠b:=λz=>by subst z;have r:=ZP g.nd o p;subst r;rw[f]at h;cases h;exact q Z
     exact⟨J,by rw[uC C];exact u,w,w3,x⟩
theorem θ.fresh(g:θ G F H0 H a ks dss bs)(t:k∉ks)(q:H p=O)(C:H0 p=O)(hB:F.B p=O)(M:en G H0 d v):
  θ G F H0 (e7 (e7 (e7 H p (.cf [])) a (.dK ((ks++[k]).zip ((bs++[p]).map V.ref)))) p (.cf [v])) a (Br ks dss k d).1 (Br ks dss k d).2 (bs++[p]):=by
 have E:=λz=>t (EK.1 z);unfold Br;rw[aq E];have J:a≠p:=λz=>by subst z;rw[g.i2]at q;cases q
 have w:p∉bs:=λz=>by
  obtain⟨i,l,e⟩:=kY z;have b:bs[i]?=U p:=by rw[bg l,e]
  obtain⟨j,f⟩:∃j,dss[i]?=U j:=⟨dss[i]'(by rw[<-g.Gn];exact l),bg _⟩;obtain⟨A,h,_⟩:=g.each i p j b f;rw[q]at h;cases h
 refine⟨by rw[uC J,uu],g.n0,g.nB,by simp[g.len],by simp[g.Gn],?_,?_,λi c j b f=>?_⟩
 .rw[cg];refine⟨g.nd,by simp,λx r y m=>?_⟩;rw[bh]at m;subst m;exact λz=>w (z▸r)
 .rw[cg];refine⟨g.kd,by simp,λx r y m=>?_⟩;rw[bh]at m;subst m;exact λz=>t (z▸r)
 .by_cases l:i<bs.length
  .rw[fN l]at b;rw[fN (by rw[<-g.Gn];exact l)]at f;obtain⟨A,h,N,w3,P⟩:=g.each i c j b f;have u:c≠p:=λz=>w (z▸b8 b);have I:c≠a:=λz=>by subst z;rw[g.i2]at h;cases h
   exact⟨A,by rw[uC u,uC I,uC u];exact h,N,w3,P⟩
  .have o:i=bs.length:=by have:=(bR.1 b).1;rw[aF,dh]at this;omega
   subst o;rw[fM (aL _),qz]at b;rw[g.Gn,fM (aL _),qz]at f;cases b;cases f;exact⟨[v],uu,C,hB,uR M uU⟩
def MR(G:Bg)(b:FE):TS:=RA (tBM G.K "list" Lf (Tf (z7 1) (tF G b) (tLst HR)) (Cf (z7 2) HR))
def Tn{Q:t?}{l:V}(R:dt G F σ ρ H0 H)(no:∀s∈ρ,s.i1=δ)(h1:σ[1]?=U (U (.ref a)))(W:σ[2]?=U (U l))(rd:en G H0 d l)
  (g:θ G F H0 H a ks dss bs) (hk:fk ρ=U (x,ρ)) (ek:AY x=U k) (l1:ks.length<1000) (l2:∀i∈dss,i.length<1000)
  (kont:∀C E J,uw H0 C->dt G F σ ρ C E->θ G F C E a (Br ks dss k d).1 (Br ks dss k d).2 J->Q.nx σ E):MR G fk Q σ H:=by
 refine⟨.ref a,h1,a,Z,.inl ⟨_,.inl g.i2⟩,_,_,_,x,ρ,dt.still R no,hk,λv A f s I r=>?_⟩;have Y:=λb o e=>I.keep b o e (by simp);have X:=I.fr;have R2:=R.gf Y s I.sub X;have t:=g.gf Y s X;have u:=en.mono s _ _ rd;refine⟨cD _,λp h=>?_⟩;have np:a≠p:=λz=>by subst z;rw[t.i2]at h;cases h
 have S:dt G F σ ρ A (e7 f p (.cf [])):=R2.jj h _;have M:θ G F A (e7 f p (.cf [])) a ks dss bs:=t.gf (uH h _) (uw.refl _) λb o e=>.inl e;have lz:(ks.zip (bs.map V.ref)).length<aC:=by rw[iG,ah,<- g.len,iP,bV];omega
 refine⟨_,k,M.i2,Bq r ek,lz,λw B=>?_,λB=>?_⟩
 .obtain⟨j,e1,m⟩:=Ti (by rw[ah];exact g.len) B;rw[bA]at m;cases q:bs[j]? with
  |none=>rw[q]at m;cases m
  |some b=>
   rw[q]at m;cases m;obtain⟨i,T⟩:∃i,dss[j]?=U i:=⟨dss[j]'(by rw[<-g.Gn];exact(bR.1 q).1),bg _⟩;obtain⟨P,N,w2,w3,w4⟩:=M.each j b i q T;have lx:P.length<aC:=by rw[<-uk w4,bV];have:=l2 i (b8 T);omega
   refine⟨.inl ⟨Z,P,f5.of N⟩,l,W,b,P,l,Z,Z,N,lx,?_⟩;refine kont A _ bs s (dt.touch S no (λc o e z=>?_) λc o e=>?_) (M.more e1 q N u)
   .have nc:c≠b:=λy=>by
     subst y;rcases z with z|z
     .exact z w2
     .exact z w3
    rw[uC nc];exact e
   .by_cases y:c=b
    .subst y;exact⟨_,uu⟩
    .rw[uC y];exact⟨o,e⟩
 .have nk:=Tj (by rw[ah];exact g.len) B;have h0p:=R2.fx h;have hBp:=R2.iE h;have ez:mu (ks.zip (bs.map V.ref)) k (.ref p)=(ks++[k]).zip ((bs++[p]).map V.ref):=by rw[RW _ B,bu,lS (by rw[ah];exact g.len)];rfl
  rw[ez];have q0:e7 (e7 f p (.cf [])) a (.dK ((ks++[k]).zip ((bs++[p]).map V.ref))) p=U (.cf []):=by rw[uC (λz=>np z.symm),uu]
  refine⟨.inl ⟨Z,[],f5.of q0⟩,l,W,p,[],l,Z,Z,q0,by rw[bV];decide,?_⟩;refine kont A _ (bs++[p]) s (dt.touch S no (λc o e z=>?_) λc o e=>?_) (t.fresh nk h h0p hBp u)
  .have n1:c≠p:=λy=>by
    subst y;rcases z with z|z
    .exact z h0p
    .exact z hBp
   have n2:c≠a:=λy=>by
    subst y;rcases z with z|z
    .exact z t.n0
    .exact z t.nB
   rw[cI,uC n1,uC n2];exact e
  .by_cases y:c=p
   .subst y;exact⟨_,uu⟩
   .rw[uC y];by_cases y2:c=a
    .subst y2;exact⟨_,uu⟩
    .rw[uC y2];exact⟨o,e⟩
end
def Cu(b:D->Option D):aN->List ey->List aN->Option (List ey×List aN)
 |[],a,dss=>U (a,dss)
 |d::r,a,dss=>match b d with
  |some x=>match AY x with
   |some k=>if (decide (a.length<1000)&&dss.all λc=>decide (c.length<1000))=γ then Cu b r (Br a dss k d).1 (Br a dss k d).2 else O
   |none=>O
  |none=>O
def Od(b:D->Option D):FS:=λc=>match c with
 |[.I (.cf L),.un,.un]=>match Cu b L [] []with
  |some (a,dss)=>U (.rt (.Z a (dss.map .cf)) [.I (.cf L),.un,.un])
  |none=>O
 |_=>O
section
variable{X:Cx}{G:Bg}
theorem Gu:∀(bs:List Addr) (dss:List aN),bs.length=dss.length->(∀(i:Nat) (b:Addr) (a:aN),bs[i]?=U b->dss[i]?=U a->∃c,d b=U (.cf c)/\di G d a c)->
  di G d (dss.map .cf) (bs.map V.ref)
 |[],[],_,_=>uU
 |[],_::_,h,_=>by cases h
 |_::_,[],h,_=>by cases h
 |b::bs,a::dss,h,k=>by obtain⟨c,j,l⟩:=k 0 b a Z Z;exact uR (Ac j l) (Gu bs dss (by simpa using h) λi b a e f=>k (i+1) b a e f)
theorem WH(R:dt G F σ [.I (.cf L),.un,s2] H0 H)(g:θ G F H0 H a ks dss bs)(o:Obj):
  ∃q,uw H0 q/\dt G F σ [.I (.cf L),.un,.un] q (e7 H a (.oz o (.dK (ks.zip (bs.map V.ref)))))/\en G q (.Z ks (dss.map .cf)) (.ref a):=by
 have r:∀{b:Addr},b∈bs->∃xs,H b=U (.cf xs)/\H0 b=O/\F.B b=O:=λ{b} hb=>by obtain⟨i,hi,e⟩:=kY hb;obtain⟨xs,h,m,w3,_⟩:=g.each i b (dss[i]'(by rw[<-g.Gn];exact hi)) (by rw[bg hi,e]) (bg _);exact⟨xs,h,m,w3⟩
 have na:a∉bs:=λz=>by obtain⟨xs,h,_⟩:=r z;rw[g.i2]at h;cases h
 have p:uw H0 (λc=>if c=a then U (.oz o (.dK (ks.zip (bs.map V.ref))))else if c∈bs then H c else H0 c):=λc u e=>by
  have f:c≠a:=λz=>by subst z;rw[g.n0]at e;cases e
  have l:c∉bs:=λz=>by obtain⟨_,_,m,_⟩:=r z;rw[m]at e;cases e
  show (if c=a then _ else if c∈bs then H c else H0 c)=_;rw[aq f,aq l];exact e
 refine⟨_,p,?_,?_⟩
 .exact {
   sub:=λc u e=>by
    have d:(if c=a then U (HO.oz o (.dK (ks.zip (bs.map V.ref))))else if c∈bs then H c else H0 c)=U u:=e;by_cases f:c=a
    .subst f;rw[ak Z]at d;rw[uu];exact d
    .rw[aq f]at d;rw[uC f];by_cases l:c∈bs
     .rw[ak l]at d;exact d
     .rw[aq l]at d;exact R.sub _ _ d
   g0:=R.g0.t p
   keep:=λc u e n=>by rw[uC (λz=>by subst z;rw[g.nB]at e;cases e)];exact R.keep c u e n
   fr:=λc u e=>by
    have d:=e;by_cases f:c=a
    .subst f;exact .inr g.nB
    .rw[aq f]at d;by_cases l:c∈bs
     .obtain⟨_,_,_,w3⟩:=r l;exact .inr w3
     .rw[aq l]at d;exact R.fr _ _ d
   am:=λc y=>by
    by_cases f:c=a
    .subst f;exact⟨_,uu⟩
    .rw[uC f];exact R.am c y
   len:=R.len
   sl:=λi s e=>by
    match i,e with
    |0,e=>cases e;obtain⟨v,h,m⟩:=R.sl 0 _ Z;exact⟨v,h,en.mono p _ _ m⟩
    |1,e=>cases e;trivial
    |2,e=>cases e;trivial
    |i+3,e=>cases e
   ap:=λi j s t b k e k so=>by
    match i,e with
    |0,e=>cases e;cases so
    |1,e=>cases e;cases so
    |2,e=>cases e;cases so
    |i+3,e=>cases e }
 .unfold en;refine⟨a,o,bs.map V.ref,Z,by show (if a=a then _ else _)=_;rw[ak Z],by rw[ah];exact g.len,Gu bs dss g.Gn λi b ds w x=>?_⟩;obtain⟨xs,h,m,w3,C⟩:=g.each i b ds w x;have hb:=b8 w;refine⟨xs,?_,di.mono p _ _ C⟩;have A:b≠a:=λz=>na (by rw[<-z];exact hb);rw[aq A,ak hb];exact h
def To{L:aN}{b:Sl}(h:b.i1=δ):∀s∈[Sl.I (.cf L),.un,b],s.i1=δ:=λs a=>by
 simp only[aJ,ck,or_false]at a;rcases a with rfl|rfl|rfl
 .rfl
 .rfl
 .exact h
inductive GI(G:Bg) (F:Fr) (Ha:Hp) (p:Addr) (L:aN) (vk:D->Option D) (KS:List ey) (DSS:List aN) (i:Nat) (σ':St) (H':Hp):Prop
 |mk (Hi:Hp) (ks:List ey) (dss:List aN) (bs:List Addr) (s2:Sl):uw Ha Hi->Sl.i1 s2=δ->dt G F σ' [.I (.cf L),.un,s2] Hi H'->σ'[1]?=U (U (.ref p))->θ G F Hi H' p ks dss bs->Cu vk (L.drop i) ks dss=U (KS,DSS)->GI G F Ha p L vk KS DSS i σ' H'
set_option tactic.hygienic true
def QY(h1:PS X st1 (DT NR (Aa 1)))(h2:PS X st2 (Yp (tFI G (iL (cV 0))) (Aa 2) (MR G (c1 f (cV 2)))))
  (h3:PS X st3 (tRet (λC H Q=>z7 1 C H λx I=>Q x I\/∃a kvs,I a=U (.dK kvs)/\∀o,Q x (e7 I a (.oz o (.dK kvs)))))):lr X [st1,st2,st3] (lb G (Od f)):=
 lr.ea (Ce h1 (Ce h2 (Ej h3))) λE C H hh=>by
  obtain⟨F,ρ,H0,o,R,e,k,k2⟩:=hh;unfold Od at e;split at e
  .rename_i L;cases P:Cu f L [] []with
   |none=>simp only[P]at e;cases e
   |some p=>
    obtain⟨KS,DSS⟩:=p;simp only[P]at e;cases e;intro p hp;have R1:=(R.jj hp (.dK [])).set (i:=1) (v:=.ref p) (s:=.un) trivial (λz=>by cases z);have t:C.length=3:=R.len;have g1:θ G F H0 (e7 H p (.dK [])) p [] [] []:=⟨uu,R.fx hp,R.iE hp,Z,Z,l5,l5,λi b ds e1=>by cases e1⟩;have v1:(C.set 1 (U (V.ref p)))[1]?=U (U (.ref p)):=by rw[gx (by rw[t];decide)]
    refine⟨_,_,_,L,_,dt.still R1 (To Z),Z,λJ M Hb s A wk=>?_⟩;have hs:=λb o e=>A.keep b o e (by simp);have R2:=R1.gf hs s A.sub A.fr;have g2:=g1.gf hs s A.fr;refine⟨λi m w h=>m=L.length - i/\i<=L.length/\GI G F M p L f KS DSS i w h,
     ⟨_,Z,cD _,M,[],[],[],.un,uw.refl _,Z,R2,v1,g2,P⟩,?_⟩
    rintro i m d j ⟨rfl,hi,Hi,ks,dss,bs,s2,B,n2,l,vi,W,c⟩;by_cases hlt:i<L.length
    .have ed:=jl hlt;rw[ed]at c;unfold Cu at c;cases T:f L[i]with
     |none=>simp only[T]at c;cases c
     |some x=>
      simp only[T]at c;cases S:AY x with
      |none=>simp only[S]at c;cases c
      |some kk=>
       simp only[S]at c;split at c
       .rename_i Y;simp only[aV,cq,aR]at Y;obtain⟨go,yl⟩:=(wk i Hi j B l.sub).1 L[i] (bg hlt);refine .inr ⟨go,GI G F M p L f KS DSS (i+1),
         λw h q=>⟨L.length - (i+1),by omega,Z,hlt,q⟩,λu h y=>?_⟩
        obtain⟨H2,t1,t2,t3,t4,t5⟩:=yl u h y;have hl3:d.length=3:=l.len;have R3:dt G F (d.set 2 (U u)) [.I (.cf L),.un,.I L[i]] H2 h:=(l.gf t3 t1 t2 t4).setIm 2 t5;have w1:(d.set 2 (U u))[1]?=U (U (.ref p)):=by rw[eh (by decide)];exact vi
        have w2:(d.set 2 (U u))[2]?=U (U u):=by rw[gx (by rw[hl3];decide)]
        refine Tn R3 (To Z) w1 w2 t5 (W.gf t3 t1 t4) (by show c1 f (cV 2) _=_;unfold c1 cV;simp only[List.getElem?_cons_succ,List.getElem?_cons_zero,T]) S Y.1 (λds hd=>Y.2 ds hd) λHc Hd N sc Rc gc=>?_;exact⟨Hc,_,_,N,_,B.t (t1.t sc),Z,Rc,w1,gc,c⟩
       .cases c
    .have r:i=L.length:=by omega
     refine .inl ⟨(wk i Hi j B l.sub).2 r,?_⟩;subst r;rw[List.drop_length]at c;cases c;refine⟨.ref p,vi,.inr ⟨p,_,W.i2,λo=>?_⟩⟩;obtain⟨Hq,q1,q2,q3⟩:=WH l W o;exact k _ _ Hq _ (s.t (B.t q1)) q2 q3
  .cases e
end
set_option tactic.hygienic false
section
variable{X:Cx}{G:Bg}
def WI:∀y b,vO "int" y=U b->bX X.K (y.val G) (.type "int")=U b:=Iw (by kernel_rfl)
def Tp:∀y b,vO "bool" y=U b->bX X.K (y.val G) (.type "bool")=U b:=Iw (by kernel_rfl)
def kit_tuple:∀y b,vO "tuple" y=U b->bX X.K (y.val G) (.type "tuple")=U b:=Iw (by kernel_rfl)
end
end L4
namespace L4
open PySem PySem.Spec PySem.Calls PyProof.Rows PySem.W L2 L3
def QZ{b:Type}(c:Nat->Nat->Bool):KasT b->b
 |.ret a=>a
 |.ask i j k=>QZ c (k (c i j))
def zB{c:Type}(P:Nat->Nat->Prop)(R:c->Prop):KasT c->Prop
 |.ret a=>R a
 |.ask i j k=>P i j/\∀b,zB P R (k b)
theorem zB.run{b:Type}{P:Nat->Nat->Prop}{R:b->Prop}(c:Nat->Nat->Bool):∀(t:KasT b),zB P R t->R (QZ c t)
 |.ret a,h=>h
 |.ask i j k,h=>zB.run c (k (c i j)) (h.2 (c i j))
theorem zB.bind{c e:Type}{P:Nat->Nat->Prop}{R:c->Prop}{S:e->Prop}{f:c->KasT e}(d:∀a,R a->zB P S (f a)):∀{t:KasT c},zB P R t->zB P S (t.bind f)
 |.ret a,h=>d a h
 |.ask i j k,h=>⟨h.1,λb=>zB.bind d (h.2 b)⟩
theorem Pi{b:Type}{cmp:Nat->Nat->(Bool->af->Prop)->af->Prop}{c:Nat->Nat->Bool}{P:Nat->Nat->Prop}{s:af}{Q:b->af->Prop}(d:∀i j C,P i j->C (c i j) s->cmp i j C s):
  ∀{R:b->Prop} {t:KasT b},zB P R t->Q (QZ c t) s->t.kasWp cmp Q s
 |R,.ret a,_,q=>q
 |R,.ask i j k,h,q=>d i j _ h.1 (Pi d (h.2 (c i j)) q)
def xh(n:Nat)(p:Array Nat):Prop:=p.toList.Perm (aZ n)
set_option tactic.hygienic true
theorem xh.getD(h:xh n p)(a:0<n)(i:Nat):p.getD i 0<n:=by
 unfold Array.getD;split
 .rename_i b;have:p[i]∈p.toList:=by simp
  exact bP.1 (h.mem_iff.1 this)
 .exact a
set_option tactic.hygienic false
def xh.rev(h:xh n p)(i j:Nat):xh n (kas_rev p i j):=by exact(nG.1 (foldl_swaps_perm _ _ _ _)).t h
def xh.bub(h:xh n p)(i j:Nat):xh n (bubble p i j):=(nG.1 (bubble_perm _ _ _)).t h
abbrev In2(n:Nat):Nat->Nat->Prop:=λi j=>i<n/\j<n
theorem Lq(a:0<n)(h:xh n p):∀f k,zB (In2 n) (λv=>True) (kas_asc p f k)
 |0,k=>trivial
 |f+1,k=>⟨⟨h.getD a _,h.getD a _⟩,λb=>by cases b<;>first|exact trivial|exact Lq a h f (k+1)⟩
theorem EL(a:0<n):∀f (p:Array Nat) k q,xh n p->zB (In2 n) (λr=>xh n r.1) (kas_desc f p k q)
 |0,p,k,q,h=>h
 |f+1,p,k,q,h=>⟨⟨h.getD a _,h.getD a _⟩,λb=>by
   cases b with
   |true=>
    split
    .exact EL a f _ _ _ (h.rev _ _)
    .exact EL a f _ _ _ h
   |false=>
    refine⟨⟨h.getD a _,h.getD a _⟩,λd=>?_⟩;cases d with
    |true=>exact h
    |false=>exact EL a f _ _ _ h⟩
def MS(b:0<n)(h:xh n p)(k m:Nat):zB (In2 n) (λr=>xh n r.2) (kas_tail3 k m p):=
 zB.bind (S:=λ(r:Nat×Array Nat)=>xh n r.2) (f:=λm=>.ret (m,kas_rev p 0 k)) (λa v=>h.rev 0 k) (Lq b (h.rev 0 k) _ _)
def EM(a:0<n)(h:xh n p)(k m:Nat):zB (In2 n) (λr=>xh n r.2) (kas_descPart k m p):=
 zB.bind (λr b=>by
  split
  .exact MS a (b.rev _ _) _ _
  .exact MS a b _ _) (EL a _ p _ _ h)
def Q0(a:0<n)(h:xh n p)(m:Nat):zB (In2 n) (λr=>xh n r.2) (kas_count m p):=
 zB.bind (λk v=>by
  split
  .exact h
  .split
   .refine⟨⟨h.getD a _,h.getD a _⟩,λb=>?_⟩;cases b with
    |true=>exact h
    |false=>exact EM a (h.rev _ _) _ _
   .exact EM a h _ _) (Lq a h _ _)
theorem FM(a:0<n)(h:xh n p)(k:Nat):∀f l r,zB (In2 n) (λv=>True) (kas_place p k f l r)
 |0,l,r=>trivial
 |f+1,l,r=>by
  unfold kas_place;split
  .trivial
  .refine⟨⟨h.getD a _,h.getD a _⟩,λb=>?_⟩;cases b with
   |true=>exact FM a h k f _ _
   |false=>exact FM a h k f _ _
theorem Pj(a:0<n):∀f (p:Array Nat) k,xh n p->zB (In2 n) (xh n) (kas_bin f p k)
 |0,p,k,h=>h
 |f+1,p,k,h=>zB.bind (λl v=>Pj a f _ _ (h.bub _ _)) (FM a h k _ _ _)
def IE(a:0<n):zB (In2 n) (xh n) (jY n):=
 zB.bind (λr b=>by
  split
  .exact Pj a _ _ _ b
  .exact b) (Q0 a (by unfold xh;exact List.Perm.refl _) n)
def Dh(a:Addr)(h c:Heap):Prop:=∀b o,b≠a->h.get? b=U o->c.get? b=U o
section
variable{prog:aB}{w:az}{A:aG}{E:aa->af->Prop}{s:af}
def FN(c:Nat->Nat->Bool)(a:List aa):List aa:=(QZ c (jY a.length)).toList.map λi=>a.getD i Value.none
def Tr(c:Nat->Nat->Bool)(a:List aa)(h:0<a.length):(FN c a).length=a.length:=by unfold FN;rw[ah];have:=(IE h).run c _;rw[this.length_eq,cj]
def Tt(c:Nat->Nat->Bool)(v:aa):FN c [v]=[v]:=rfl
def Tu{vs:List aa}(B:s.heap.get? a=U (seqObj "list" vs.toArray n))(h1:0<vs.length)(t:vs.length<64)
  (N:∀(h':Heap) (C:SortKind->af->Prop),Dh a s.heap h'->C I { s with heap:=h' }->ao (model prog w) A (keyKind' vs.toArray) C (λg g=>False) { s with heap:=h' })
  (M:∀(h':Heap) (i j:Nat) (C:Bool->af->Prop),Dh a s.heap h'->i<vs.length/\j<vs.length->C (c i j) { s with heap:=h' }->jZ prog w A I vs i j C { s with heap:=h' })
  (h:∀h' e,Dh a s.heap h'->h'.get? a=U (seqObj "list" (FN c vs).toArray e)->P (.done (.ret .none)) { s with heap:=h' }):
  ao (model prog w) A (dQ.«list.sort» ⟨[.ref a],[]⟩) P E s:=by
 obtain⟨m,H⟩:∃m,(s.heap.update a (dc λg=>(#[]:Array aa))).get? a=U (seqObj "list" #[] m):=⟨_,pO B λg=>#[]⟩;generalize hw:((s.heap.update a (dc λg=>(#[]:Array aa))).push (seqObj "tuple" vs.toArray 0)).push (seqObj "list" #[] 0)=h3;have F:Dh a s.heap h3:=λb o hb q=>by rw[<-hw];exact aK _ (aK _ ((gy s.heap _ (cE hb)).t q))
 have l:h3.get? a=U (seqObj "list" #[] m):=by rw[<-hw];exact aK _ (aK _ H)
 rw[list_sort_plain];refine ag (listItems_at B Z (ag (ma B Z ?_ (by rw[bc,bV];omega) (cD _))));refine ag (mJ H Z (ag (qd ?_ (by show vs.length<=_;rw[bV];omega))));refine ag (md (bL ?_) (cD _));rw[hw];obtain⟨c2,z⟩:∃c2,(h3.update a (dc λg=>(FN c vs).toArray)).get? a=U (seqObj "list" (FN c vs).toArray c2):=⟨_,pO l λg=>(FN c vs).toArray⟩;have fin:=h _ c2 (λb o hb q=>(gy h3 _ (cE hb)).t (F b o hb q)) z;have szo:(FN c vs).toArray.size<=aC+1:=by rw[bc,Tr c vs h1,bV];omega
 by_cases h2:2<=vs.length
 .have f:¬vs.toArray.size<2:=by rw[bc];omega
  rw[aq f,aq f];refine ag (bQ (N h3 (λk s'=>k=I/\s'={ s with heap:=h3 }) F ⟨Z,Z⟩) ?_ λg g x=>x.elim);rintro k s' ⟨rfl,rfl⟩;refine ag (bQ (kat_run (Q:=λd s'=>s'={ s with heap:=h3 }/\(arrOf d).map (·.2)=(FN c vs).toArray/\failedOf d=O) (G:=λp s'=>p=QZ c (jY vs.length)/\s'={ s with heap:=h3 }) Z h2 t ?_ ?_) ?_ λg g e=>e)
  .rintro p d s' _ har hf ⟨rfl,rfl⟩;exact⟨Z,kat_snds Z har,hf⟩
  .exact Pi (λi j C q r=>M h3 i j C F q r) (IE h1) ⟨Z,Z⟩
  .rintro⟨⟨⟩,d⟩ s' ⟨rfl,u,hf⟩;refine ag (mJ l Z ?_);rw[u,hf];refine ag (ma l Z ?_ (cD _) szo);simp only[bne_self_eq_false,eE,if_false];exact au fin
 .obtain⟨v,rfl⟩:∃v,vs=[v]:=by
   cases vs with
   |nil=>cases h1
   |cons v r=>
    cases r with
    |nil=>exact⟨v,Z⟩
    |cons x y=>exact ar (by simp) h2
  refine ag (au ?_);refine ag (au ?_);refine ag (mJ l Z ?_);have J:qX (λx=>x.snd) (arrOf ((),SortSt.mk' general' (#[v].zip #[v]) #[] 7 O).snd)=(FN c [v]).toArray:=by rw[Tt];show qX (λx=>x.snd) (#[v].zip #[v])=#[v];simp
  rw[J];refine ag (ma l Z ?_ (cD _) szo);simp only[bne_self_eq_false,eE,if_false];exact au fin
def Oe{vs:List aa}(hT:T="list" \/ T="tuple")(t:s.heap.get? l=U o)(hcl:o.cls=.type T)(hd:o.data=.seq vs.toArray n)(h1:0<vs.length)(f:vs.length<64)
  (p:∀(h':Heap) (C:SortKind->af->Prop),(∀b o,s.heap.get? b=U o->h'.get? b=U o)->C κ { s with heap:=h' }->ao (model prog w) A.in1.in1 (keyKind' vs.toArray) C (λv v=>False) { s with heap:=h' })
  (m:∀(h':Heap) (i j:Nat) (C:Bool->af->Prop),(∀b o,s.heap.get? b=U o->h'.get? b=U o)->i<vs.length/\j<vs.length->C (c i j) { s with heap:=h' }->jZ prog w A.in1.in1 κ vs i j C { s with heap:=h' })
  (h:∀(g h':Heap) e,(∀b o,s.heap.get? b=U o->g.get? b=U o)->(∀b o,g.get? b=U o->h'.get? b=U o)->h'.get? g.objs.size=U (seqObj "list" (FN c vs).toArray e)->Q (.ref g.objs.size) { s with heap:=h' }):
  ao (model prog w) A (call (.builtin "sorted") [.ref l]) Q E s:=by
 refine nH kind_sorted plain_sorted entry_sorted (args_sorted1 _) ?_;refine ag (au (ag (wpAny_collect_seq l hT t hcl hd (λg d=>?_) (by rw[bV];simp;omega))));refine ag (md ?_ (by rw[bV];simp;omega));have on:(g.push (seqObj "list" vs.toArray 0)).get? g.objs.size=U (seqObj "list" vs.toArray 0):=bp _ Z;have all:∀h',Dh g.objs.size (g.push (seqObj "list" vs.toArray 0)) h'->∀b o,g.get? b=U o->h'.get? b=U o:=λh' a b o q=>a b o (aW (aP q)) (aK _ q)
 refine ag (bL (fS qe ⟨_,on,Z⟩ pQ ?_ (qf _)));refine Tu on h1 f (λh' C a q=>p h' C (λb o z=>all h' a b o (d b o z)) q) (λh' i j C a q r=>m h' i j C (λb o z=>all h' a b o (d b o z)) q r) λh' e a q=>?_;exact⟨_,Z,au ⟨_,Z,h g h' e d (all h' a) q⟩⟩
end
def ltS(a b:Str):Bool:=decide (a.cps.toList<b.cps.toList)
def JL:aE->aE->Bool
 |[],[]=>δ
 |[],_::_=>γ
 |_::_,[]=>δ
 |x::a,y::b=>if x=y then JL a b else ltS x y
inductive Ab:List aa->aE->Prop
 |nil:Ab [] []
 |cons (x:Str) (t:Tok) {vs:List aa} {xs:aE} (h:Ab vs xs):Ab (.str x t::vs) (x::xs)
def Of(c:Nat->Nat->Bool)(n:Nat):List Nat:=(QZ c (jY n)).toList
def FP(c:Nat->Nat->Bool)(h:0<n):(Of c n).Perm (aZ n):=(IE h).run c _
def Lr(c:Nat->Nat->Bool)(h:0<n):∀i∈Of c n,i<n:=λi a=>bP.1 ((FP c h).mem_iff.1 a)
theorem Km(r:eg a c):∀(is:List Nat),(∀i∈is,i<a.length)->eg (is.map λi=>a.getD i V.X) (is.map λi=>c.getD i Value.none)
 |[],_=>.nil
 |i::is,h=>by have b:=h i (.head _);obtain⟨u,e,f⟩:=r.get (bg b);refine .cons ?_ (Km r is λj d=>h j (.tail _ d));show eo (a.getD i V.X) (c.getD i Value.none);rw[c6,c6,e,bg b];exact f
section
variable{X:Cx}{G:Bg}{pins:cA}{σ:St}{H:Hp}{s:af}
def seq_val(I:dr X pins σ H s)(c:f5 X.K H a h\/gk X.K H a h):∃b,eg h b/\∃T o n,(T="list" \/ T="tuple")/\s.heap.get? a=U o/\o.cls=.type T/\o.data=.seq b.toArray n:=by
 rcases c with c|c
 .obtain⟨b,f,pl,_⟩:=I.list c;obtain⟨o,a1,d,n,e⟩:=pl.isList;exact⟨b,f,_,o,n,.inl Z,a1,d,e⟩
 .obtain⟨b,f,⟨o,a1,d,n,e⟩,_⟩:=I.tuple c;exact⟨b,f,_,o,n,.inr Z,a1,d,e⟩
def Gv:aN->Option aE
 |[]=>U []
 |.str x::a=>match Gv a with
  |some b=>U (x::b)
  |none=>O
 |_=>O
theorem IF:∀{a:aN} {b:bz} {l:aE},di G H a b->Gv a=U l->b=l.map V.str
 |[],b,l,r,e=>by cases e;unfold di at r;exact r
 |d::a,b,l,r,e=>by
  cases d with
  |str x=>
   unfold Gv at e;cases c:Gv a with
   |none=>rw[c]at e;cases e
   |some i=>rw[c]at e;cases e;unfold di at r;obtain⟨v,j,rfl,f,h⟩:=r;unfold en at f;subst f;rw[IF h c,aU]
  |_=>cases e
theorem Kn(r:di G H a c):∀(is:List Nat),(∀i∈is,i<a.length)->di G H (is.map λi=>a.getD i .X) (is.map λi=>c.getD i V.X)
 |[],_=>uU
 |i::is,h=>by have b:=h i (.head _);obtain⟨v,e,f⟩:=yN r (bg b);refine uR ?_ (Kn r is λj d=>h j (.tail _ d));show en G H (a.getD i .X) (c.getD i V.X);rw[c6,c6,e,bg b];exact f
end
end L4
namespace L4
open PySem PySem.Spec PyProof.Rows L2 L3
section
variable{X:Cx}{G:Bg}
set_option tactic.hygienic true
def WJ:l4 G (λx y H Q=>∃z n,x=.str z/\y=.int n/\MulOk z n/\Q (.str (mZ z n)) H) Kh:=λx y z o H v u Q e s d f k=>by
 unfold Kh at e;split at e
 .rename_i a n;split at e
  .rename_i m;obtain⟨p,r,h⟩:=m;cases e;unfold en at d f;refine⟨a,n,d,f,⟨?_,λi j l=>?_,λi j=>?_⟩,k _ λg g=>yI _⟩
   .rw[kR];exact⟨bj (by omega),bj (by omega)⟩
   .have c:(0:Int)<n:=by omega
    have q:(9223372036854775807:Int) / n >= 9223372036854775:=by have:=Int.le_ediv_of_mul_le (a:=9223372036854775) (b:=9223372036854775807) c (by omega);exact this
    have:((2:Int) ^ 63 - 1)=9223372036854775807:=by decide
    rw[this]at l;omega
   .have c:n.toNat<=1000:=by omega
    have:a.length * n.toNat<=100 * 1000:=Nat.mul_le_mul h c;refine bj ?_;rw[bV];omega
  .cases e
 .cases e
end
set_option tactic.hygienic false
def Pk:List String:=["NoneType", "bool", "int", "str", "tuple", "list", "dict"]
def yg(n c:Nat):Ty->Option Bool:=λy=>match y with
 |.b x=>if Pk.contains x=γ then U δ else O
 |.c k=>if k<n then U (k==c)else O
def wc(K:aw)(cs:List Addr)(C:Addr)(c:Nat):Bool:=
 Pk.all (λx=>bX K (.type x) (.ref C)==U δ)&&(aZ cs.length).all λk=>bX K (.ref (cs.getD k 0)) (.ref C)==U (k==c)
set_option tactic.hygienic true
def vJ{B:Bg}(h:wc B.K cs (B.ca c) c=γ)(i:cs.length=n)(d:∀k,k<n->cs.getD k 0=B.ca k)(hI:∀k,k<n->MI B.K (B.ca k)):IC B c (yg n c):=by
 unfold wc at h;rw[aV,aR,aR]at h;refine⟨λy b e=>?_,λj b e=>?_⟩
 .cases y with
  |b x=>
   unfold yg at e;simp only at e;split at e
   .rename_i f;cases e;exact gj (h.1 x (kP.1 f))
   .cases e
  |c k=>
   unfold yg at e;simp only at e;split at e
   .rename_i a;cases e;have:=gj (h.2 k (bP.2 (by omega)));rw[d k a]at this;exact this
   .cases e
 .unfold yg at e;simp only at e;split at e
  .rename_i a;exact hI j a
  .cases e
set_option tactic.hygienic false
def ZR{l:List Addr}(h:l.Nodup)(a:j<l.length)(b:k<l.length)(e:l.getD j 0=l.getD k 0):j=k:=by
 rw[c6,c6,bg a,bg b]at e;have c:=List.pairwise_iff_getElem.1 h;rcases Nat.lt_trichotomy j k with y|y|y
 .exact ar e (c j k a b y)
 .exact y
 .exact ar e.symm (c k j b a y)
section
variable{B:Bg}{K:aw}{mg:Str->Option aa}{h:Heap}
def const_int(X:K.In h)(a:h.Ns aQ mg)(e:iZ K aQ x=U (U (.int i t))):Ag B mg x (.int i):=
 ⟨.int i,_,iY X a e,⟨_,Z⟩,λv=>wF _⟩
inductive Bs:List aa->aE->Prop
 |nil:Bs [] []
 |cons {v:aa} {x:Str} {t:Tok} {vs:List aa} {xs:aE} (e:v=.str x t) (h:Bs vs xs):Bs (v::vs) (x::xs)
def Bs.vals(h:Bs b c):eg (c.map V.str) b:=by
 induction h with
 |nil=>exact .nil
 |cons e h a=>exact .cons ⟨_,e⟩ a
theorem IG:∀a:aE,di B H (a.map D.str) (a.map V.str)
 |[]=>uU
 |x::a=>uR (yI x) (IG a)
def Og(c:aE)(X:B.K.In h)(d:h.Ns aQ mg)(e:iZ B.K aQ x=U (U (.ref a)))(l:B.K.lookup a=U o)(f:o.cls=.type "tuple")(hd:o.data=.seq b n)(i:b.size<=1000)
  (r:Bs b.toList c):Ag B mg x (.ef (c.map D.str)):=
 ⟨.ref a,_,iY X d e,Z,λH=>Et (.inr ⟨o,b,n,l,f,hd,by rw[bV];omega,r.vals⟩) (IG c)⟩
end
section
variable{f g' h:FS}{c:FT}{e e' e2:FE}{a a':FA}{ρ ρ' ρ1 ρ2 ρ3:aM}{d x y z:D}{ds xs ys:aN}{k:Nat}{er:List Nat}{g:FG}{ft:FT}{fe:FE}
theorem IH{i:Type}(j:i->D)(p:i->Bool)(h:i->D):∀l:List i,
  (∀a∈l,∃ρ1 ρ2,g (j a) (EB k er ρ)=U ρ1/\ft ρ1=U (p a,ρ2)/\(p a=γ->∃ρ3,fe ρ2=U (h a,ρ3)/\xI er (ρ3.drop k) ρ=U ρ)/\(p a=δ->xI er (ρ2.drop k) ρ=U ρ))->
  Ae k er g ft fe (l.map j) ρ=U ((l.filter p).map h,ρ)
 |[],_=>rfl
 |a::l,st=>by
  obtain⟨ρ1,ρ2,o,q,r,t⟩:=st a bb;have m:=IH j p h l λa' A=>st a' (ba _ A);rw[aU];unfold Ae;rw[o];simp only[q];cases b:p a with
  |true=>obtain⟨ρ3,u,w⟩:=r b;simp only[u,w,m,gE,b,if_true,aU]
  |false=>simp only[t b,m,gE,b];rfl
def WK{i:Type}(b:i->D)(h:i->D)(l:List i)(st:∀a∈l,∃ρ1 ρ3,g (b a) (EB k er ρ)=U ρ1/\fe ρ1=U (h a,ρ3)/\xI er (ρ3.drop k) ρ=U ρ):Ae k er g ve fe (l.map b) ρ=U (l.map h,ρ):=by have:=IH (ft:=ve) b (λv=>γ) h l λa p=>let ⟨ρ1,ρ3,j,m,o⟩:=st a p;⟨ρ1,ρ1,j,Z,λv=>⟨ρ3,m,o⟩,λz=>by cases z⟩;rw[this,oE.2 λv v=>Z]
def we(neg:Bool)(a b:Str):fl neg (.str a) (.str b)=U (.Y (if neg then !decide (a=b)else decide (a=b))):=by
 have e:Ln neg (.str a) (.str b)=U (.Y (if neg then !decide (V.str a=V.str b)else decide (V.str a=V.str b))):=rfl;have e2:decide (V.str a=V.str b)=decide (a=b):=by
  by_cases h:a=b
  .subst h;simp
  .rw[bj h,bj (λz=>h (by injection z))]
 unfold fl;rw[e,e2]
def Tv(a:Str)(l:aE):inV (V.str a) (l.map V.str)=decide (a∈l):=by
 unfold inV;rw[dG,fA,cq];constructor
 .rintro⟨v,o,i⟩;obtain⟨b,m,rfl⟩:=av.1 o;have:=by unfold eqV at i;simpa using i
  rw[<-this];exact m
 .intro j;refine⟨.str a,cB j,?_⟩;unfold eqV;simp
def Q1(l:aE):(l.map D.str).all xa=γ:=by rw[qA,aR];intro x _;rfl
def WL(l:aE):(l.map D.str).map vD=l.map V.str:=by rw[bf];rfl
def wM(neg:Bool)(a:Str)(l:aE):vr neg (.str a) (.cf (l.map D.str))=U (.Y (if neg then !decide (a∈l)else decide (a∈l))):=by show (if xa (.str a)&&(l.map D.str).all xa then U (D.Y (if neg then !inV (vD (.str a)) ((l.map D.str).map vD)else inV (vD (.str a)) ((l.map D.str).map vD)))else O)=_;rw[Q1,WL];show U (D.Y (if neg then !inV (V.str a) (l.map V.str)else inV (V.str a) (l.map V.str)))=_;rw[Tv]
def Tw(neg:Bool)(a:Str)(l:aE):vr neg (.str a) (.ef (l.map D.str))=U (.Y (if neg then !decide (a∈l)else decide (a∈l))):=wM neg a l
theorem Ls:∀bs:List Bool,JJ (bs.map D.Y)=U bs
 |[]=>rfl
 |b::bs=>by rw[aU];unfold JJ;rw[Ls bs];rfl
def Tx(bs:List Bool):yZ (.cf (bs.map D.Y))=U (.Y (bs.all id)):=by unfold yZ;simp only[Ls];rfl
def Tz(bs:List Bool):FL (.cf (bs.map D.Y))=U (.Y (bs.any id)):=by unfold FL;simp only[Ls];rfl
def WM{b:Type}(l:List b)(p:b->Bool):yZ (.cf (l.map λa=>D.Y (p a)))=U (.Y (l.all p)):=by rw[show (l.map λa=>D.Y (p a))=(l.map p).map D.Y by rw[bf];rfl,Tx,qA];rfl
def Pl{b:Type}(l:List b)(p:b->Bool):FL (.cf (l.map λa=>D.Y (p a)))=U (.Y (l.any p)):=by rw[show (l.map λa=>D.Y (p a))=(l.map p).map D.Y by rw[bf];rfl,Tz,List.any_map];rfl
theorem II:∀l:aE,Gp (l.map D.str)=U (l.map Sum.inr)
 |[]=>rfl
 |x::l=>by rw[aU];unfold Gp;rw[II l];rfl
theorem TB:∀(l acc:List ey),(acc++l).Nodup->l.foldl ddp acc=acc++l
 |[],acc,_=>by rw[bO];rfl
 |k::l,acc,h=>by
  have i:acc.any (λz=>decide (z=k))=δ:=by rw[jE];intro z;obtain⟨y,j,b⟩:=fA.1 z;rw[cg]at h;exact h.2.2 y j k bb (bq b)
  rw[iF,show ddp acc k=acc++[k] by unfold ddp;rw[i];rfl,TB l (acc++[k]) (by simpa using h)];simp
def AZ{l:aE}(h:l.Nodup):(l.map (Sum.inr:Str->ey)).Nodup:=by unfold List.Nodup at h ⊢;rw[o6];exact h.imp λhne z=>hne (jQ z)
def MU{l:aE}(h:l.Nodup)(b:l.length<=1000):wZ (l.map D.str)=U (.int l.length):=by unfold wZ;rw[II];simp only[ah,b,if_true];unfold z8;rw[TB _ [] (by simpa using AZ h)];simp
def zg(neg:Bool)(a b:Int):fl neg (.int a) (.int b)=U (.Y (if neg then !decide (a=b)else decide (a=b))):=by
 have e:Ln neg (.int a) (.int b)=U (.Y (if neg then !decide (V.int a=V.int b)else decide (V.int a=V.int b))):=rfl;have e2:decide (V.int a=V.int b)=decide (a=b):=by
  by_cases h:a=b
  .subst h;simp
  .rw[bj h,bj (λz=>h (by injection z))]
 unfold fl;rw[e,e2]
def ux(b:e ρ=U (.Y γ,ρ1)):vw e e' ρ=e' ρ1:=by unfold vw;rw[b]
def uQ{g:Nat->Option (aN->Option D)}{m:Str}{c:Nat}{b:aE}{i:aN->Option D}(j:e ρ=U (.obj c b xs,ρ1))(l:g c=U i)(o:b.contains m=δ)(p:a ρ1=U (ys,ρ2))(q:i (.obj c b xs::ys)=U d):uG g m e a ρ=U (d,ρ2):=by unfold uG;rw[j];simp only[l,o,p,q];rfl
def Pm{c:Nat}{g:aN->Option (aE×aN)}{b:aE}(i:a ρ=U (ds,ρ1))(j:g ds=U (b,xs)):uO c g a ρ=U (.obj c b xs,ρ1):=by unfold uO;rw[i];simp only[j]
def Bt(i:ds.length=j)(h:b (L4.rl n ds)=U (.nx ρ)):e0 j n b ds=U .X:=by unfold e0;rw[ak i,h]
def DX(i:ds.length=j)(h:b (L4.rl n ds)=U (.rn xs ρ)):e0 j n b ds=U (.cf xs):=by unfold e0;rw[ak i,h]
theorem A0:∀{b:List ey} {ds:aN} {k:ey} {d:D},b.Nodup->(k,d)∈b.zip ds->vC b ds k=U d
 |[],_,k,d,_,h=>by simp at h
 |j::b,[],k,d,_,h=>by simp at h
 |j::b,l::ds,k,d,i,h=>by
  unfold vC;rw[fj]at h;rcases aJ.1 h with e|h
  .cases e;rw[ak Z]
  .rw[dH]at i;rw[aq (λz=>i.1 (by subst z;exact(jJ h).1))];exact A0 i.2 h
theorem FQ:∀{b:List ey} {ds:aN} {k:ey},k∉b->vC b ds k=O
 |[],ds,k,_=>by unfold vC;rfl
 |i::b,[],k,_=>by unfold vC;rfl
 |i::b,j::ds,k,h=>by unfold vC;rw[aq (λz=>h (by subst z;exact bb))];exact FQ λz=>h (ba _ z)
end
end L4
namespace L4
open PySem PySem.Spec PyProof.Rows L2 L3
open PySem.W (nsIn findIn keepIn isFn makesIn fnOf)
def Oh{b:Type}:Nat->(List b->Prop)->Prop
 |0,P=>P []
 |n+1,P=>∀a,Oh n λl=>P (a::l)
theorem HF{b:Type}:∀{n:Nat} {P:List b->Prop},Oh n P->∀l,l.length=n->P l
 |0,P,h,[],_=>h
 |n+1,P,h,a::l,e=>HF (h a) l (iQ e)
structure CF(K:aw)(C:Addr)(xs:aE):Prop where
 ci:MI K C
 mks:makesIn K C=γ
 kp:keepIn K (.ref C)=γ
 na:(xs.all λx=>match findIn K (.ref C) x with|some O=>γ|_=>δ)=γ
set_option tactic.hygienic true
theorem CF.at{K:aw}(c:CF K C xs)(i:Nat)(h:xs[i]?=U x):ζ K C/\AC K C x:=⟨c.ci.cl,by
 have e:=aR.1 c.na x (b8 h);split at e
 .rename_i a;exact a
 .cases e⟩
set_option tactic.hygienic false
def xl{Q:Nat->Prop}{i:Nat}(h:Q i):∀c,(c==i)=γ->Q c:=λc e=>by rw[beq_iff_eq]at e;subst e;exact h
def orQ{Q:Nat->Prop}{p:Nat->Bool}{i:Nat}(h:∀c,p c=γ->Q c)(a:Q i):∀c,(p c||c==i)=γ->Q c:=λc e=>by
 rw[jK]at e;rcases e with e|e
 .exact h c e
 .exact xl a c e
structure Yw(P:aB)(w:az)(mg:Str->Option aa)(b?:Heap)(G:Bg):Prop where
 m:∃h:Heap,G.K.In h/\h.Ns aQ mg
section
variable{P:aB}{w:az}{mg:Str->Option aa}{b?:Heap}{G:Bg}{x m qual:Str}{st:Stmt}{N ps:aE}{k c:Nat}{K:aw}
def Yw.g(y:Yw P w mg b? G)(e:nsIn G.K aQ x=U (U v)):mg x=U v:=by obtain⟨h,X,a⟩:=y.m;exact iY X a e
set_option tactic.hygienic true
def Yw.n(y:Yw P w mg b? G){xs:aE}(h:(xs.all λx=>match nsIn G.K aQ x with|some O=>γ|_=>δ)=γ)(i:Nat)(d:xs[i]?=U x):mg x=O:=by
 obtain⟨f,X,a⟩:=y.m;have e:=aR.1 h x (b8 d);split at e
 .rename_i b;exact W.mg_none_of X a b
 .cases e
set_option tactic.hygienic false
def GC(K:aw)(x:Str)(i:Int):Prop:=∃t:Tok,nsIn K aQ x=U (U (.int i t))
def Yw.ci(y:Yw P w mg b? G)(q:GC G.K x i):Ag G mg x (.int i):=by obtain⟨h,X,a⟩:=y.m;obtain⟨t,e⟩:=q;exact const_int X a e
def GS(K:aw)(x:Str)(d:aE):Prop:=∃(a:Addr) (o:Obj) (b:Array aa) (n:Nat),nsIn K aQ x=U (U (.ref a))/\K.lookup a=U o/\o.cls=.type "tuple" /\ o.data=.seq b n/\b.size<=1000/\Bs b.toList d
def Yw.cs(y:Yw P w mg b? G)(q:GS G.K x b):Ag G mg x (.ef (b.map D.str)):=by obtain⟨h,X,d⟩:=y.m;obtain⟨a,o,r,n,e,l,f,i,j,p⟩:=q;exact Og b X d e l f i j p
def GD(K:aw)(x:Str)(st:Stmt):Prop:=∃(f:Addr) (a:bS),nsIn K aQ x=U (U (.ref f))/\Fun K x x st f a
def GM(K:aw)(C:Addr)(m qual:Str)(st:Stmt):Prop:=∃(f:Addr) (a:bS),findIn K (.ref C) m=U (U (.ref f))/\isFn K (.ref f)=γ/\Fun K m qual st f a
def GJ(K:aw)(C:Addr)(qual:Str)(st:Stmt)(b:bz):Prop:=∃(f:Addr) (a:bS) (T:Addr) (o:Obj) (dl:List aa) (n:Nat),findIn K (.ref C) "__init__" = U (U (.ref f))/\isFn K (.ref f)=γ/\QB K "__init__" qual st f a T/\K.lookup T=U o/\o.data=.seq dl.toArray n/\eg b dl
abbrev Bdy(P:aB)(w:az)(K:aw)(mg:Str->Option aa)(b?:Heap)(N:aE)(qual:Str)(st:Stmt)(k:Nat)(t:TS):Prop:=∀(f:Addr) (cdv:aa) (A:aG) (dg:List Env) (s:af) (H:Hp) (E:XK),wt k (A.deeper (envOfC qual (uE st) s.heap.objs.size f cdv))->lr (Cq P w K mg b? N qual st f cdv A dg s H E) (uX st) t
abbrev X'(x qual:Str)(st:Stmt)(ps:aE):Prop:=Oh ps.length λa=>∀(kV doc e:aa) (b:Option Addr) (cdv d:aa),bindArgs (fnOf x qual (yc st) (uX st) (uE st) .none kV doc e b cdv d) ⟨a,[]⟩=pure (ps.zip a)
theorem X'.ok(b:X' x qual st ps)(F:Fun K x qual st f e):j4 K e ps []:=F.ro λkV doc i a cdv d j h=>HF b j h kV doc i a cdv d
theorem gD(y:Yw P w mg b? G)(q:GD G.K x st)(d:X' x x st ps)(ok:∀f b,Fun G.K x x st f b->xC P w G.K mg b? F? k f b ps e):DA P w G.K mg b? k x ps e:=by obtain⟨f,b,a,F⟩:=q;exact⟨f,b,y.g a,F.kp,d.ok F,ok f b F⟩
def gF(d:g=e0 h n b)(y:Yw P w mg b? G)(q:GD G.K x st)(S:wD N ps (uE st))(body:Bdy P w G.K mg b? N x st k (lb G b))(e:ps.length=h:=by rfl)(hN:N.length=n:=by rfl)(a:X' x x st ps:=by (repeat intro _);rfl):DA P w G.K mg b? (k+1) x ps (fi G g):=
 gD y q a λf i F=>SO d e hN F S (body f)
def gN'(d:g=A' h n b)(y:Yw P w mg b? G)(q:GD G.K x st)(S:wD N ps (uE st))(body:Bdy P w G.K mg b? N x st k (lb G b))(e:ps.length=h:=by rfl)(hN:N.length=n:=by rfl)(a:X' x x st ps:=by (repeat intro _);rfl):DA P w G.K mg b? (k+1) x ps (u1 G g):=
 gD y q a λf i F=>ac3 d e hN F S (body f)
def gM(d:g=tj h n b)(y:Yw P w mg b? G)(q:GD G.K x st)(S:wD N (p::ps) (uE st))(body:Bdy P w G.K mg b? N x st k (lb G b))(e:ps.length=h:=by rfl)(hN:N.length=n:=by rfl)(a:X' x x st (p::ps):=by (repeat intro _);rfl):DA P w G.K mg b? (k+1) x (p::ps) (vo G g):=
 gD y q a λf i F=>ac4 d e hN F S (body f)
def gI(h:g=x3 c o n b)(y:Yw P w mg b? G)(C:CF G.K (G.ca c) r)(a:nsIn G.K aQ x=U (U (.ref (G.ca c))))(q:GM G.K (G.ca c) "__init__" qual st)(S:wD N (p::ps) (uE st))(body:Bdy P w G.K mg b? N qual st k (lb G b))(j:ps.length=o:=by rfl)(hN:N.length=n:=by rfl)(d:X' "__init__" qual st (p::ps):=by (repeat intro _);rfl):Lo G P w mg b? (k+1) x c (p::ps) [] g:=by obtain⟨f,e,i,l,F⟩:=q;exact⟨f,e,[],⟨C.mks,i,l,C.kp⟩,y.g a,d.ok F,.nil,ac5 h j hN F S (body f)⟩
def MV(h:eg d b):b.length=d.length:=by
 induction h with
 |nil=>rfl
 |cons _ _ a=>rw[aS,aS,a]
def Q2(h:eg f e):∀j,eg (f.drop j) (e.drop j):=by
 induction h with
 |nil=>intro j;rw[qr,qr];exact .nil
 |cons a b d=>
  intro j;cases j with
  |zero=>exact .cons a b
  |succ j=>exact d j
theorem gJ(E:g=x3 c M n b)(y:Yw P w mg b? G)(C:CF G.K (G.ca c) Q)(a:nsIn G.K aQ x=U (U (.ref (G.ca c))))(q:GJ G.K (G.ca c) qual st z)(S:wD N (p::ps) (uE st))(body:Bdy P w G.K mg b? N qual st k (lb G b))(j:Nat)(I:ps.length=M:=by rfl)(hN:N.length=n:=by rfl)
  (A:Oh z.length λdl=>Oh ((p::ps).length - (z.drop j).length) λd=>∀(T:Addr) (kV doc u:aa) (h:Option Addr) (cdv t:aa),∃k,bindArgs (fnOf "__init__" qual (yc st) (uX st) (uE st) (.ref T) kV doc u h cdv t) ⟨d,[]⟩=seqItems? (.ref T)>>=k/\k (U dl.toArray)=pure ((p::ps).zip (d++dl.drop j)):=by (repeat intro _);exact⟨_,Z,Z⟩):Lo G P w mg b? (k+1) x c (p::ps) (z.drop j) g:=by
 obtain⟨f,B,T,o,dl,n,i,J,F,l,e,r⟩:=q;refine⟨f,B,dl.drop j,⟨C.mks,i,J,C.kp⟩,y.g a,F.ro l e λkV doc u h cdv t d H=>?_,Q2 r j,Zr E I hN F S (body f)⟩;exact HF (HF A dl (MV r)) d (by rw[H,fw,fw,MV r]) T kV doc u h cdv t
end
end L4
namespace L4
open PySem PySem.Spec PyProof.Rows L2 L3
def P0(a b:Str):Bool:=decide (a.cps.toList<=b.cps.toList)
def Cv(a:aE):aE:=a.mergeSort P0
def IJ(a b c:Str)(h:P0 a b=γ)(d:P0 b c=γ):P0 a c=γ:=br (List.le_trans (bq h) (bq d))
def HG(a b:Str):(P0 a b||P0 b a)=γ:=by
 rw[jK];rcases List.le_total a.cps.toList b.cps.toList with h|h
 .exact .inl (br h)
 .exact .inr (br h)
def IK(a b:Str)(h:P0 a b=γ)(c:P0 b a=γ):a=b:=by have e:=List.le_antisymm (bq h) (bq c);cases a with|mk a=>cases b with|mk b=>cases a;cases b;simp only at e;rw[e]
theorem FR:∀(r:aE) (x:Str),risingS x r=γ->(∀y∈r,P0 x y=γ)/\r.Pairwise λa b=>P0 a b=γ
 |[],x,_=>⟨λy h=>(ck h).elim,.nil⟩
 |z::r,x,h=>by
  unfold risingS at h;rw[aV,eG,ltCps_eq]at h;obtain⟨j,l⟩:=h;obtain⟨d,i⟩:=FR r z l;have f:P0 x z=γ:=br (of_decide_eq_false j);refine⟨λy c=>?_,.cons d i⟩;rcases aJ.1 c with e|c
  .rw[e];exact f
  .exact IJ _ _ _ f (d y c)
def Oi:∀l:aE,sortedS l=γ->l.Pairwise λa b=>P0 a b=γ
 |[],_=>.nil
 |x::r,h=>.cons (FR r x h).1 (FR r x h).2
def Oj{l:aE}(p:l.Perm c)(h:sortedS l=γ):l=Cv c:=
 kI (λa b v v=>IK a b) (Oi l h) (jr IJ HG c) (p.t (ir c P0).symm)
theorem XM:∀{a:List aa} {b:aE},kU a b->eg (b.map V.str) a
 |_,_,.nil=>.nil
 |_,_,.cons x t h=>.cons ⟨t,Z⟩ (XM h)
section
variable{X:Cx}{G:Bg}{pins:cA}{σ:St}{H:Hp}{s:af}
theorem IL:∀a:aE,di G H (a.map D.str) (a.map V.str)
 |[]=>uU
 |x::a=>uR (yI x) (IL a)
end
end L4
namespace L4
open PySem PySem.Spec PySem.Calls PyProof.Rows PySem.W L2 L3
structure Sto(c:Nat->Nat->Bool)(n:Nat):Prop where
 tr:∀i j k,i<n->j<n->k<n->c i j=γ->c j k=γ->c i k=γ
 tot:∀i j,i<n->j<n->i≠j->c i j=δ->c j i=γ
section
variable{X:Cx}{G:Bg}{pins:cA}{σ:St}{H:Hp}{s:af}
def JM(K:aw)(H:Hp)(y:V)(k:aE):Prop:=∃a p q,y=.ref a/\k=[p,q]/\gk K H a [.str p,.str q]
def TC(I:dr X pins σ H s)(h:JM X.K H y k)(r:eo y u):∃a p q t v,u=.ref a/\k=[p,q]/\gp s.heap a #[.str p t,.str q v]:=by
 obtain⟨a,p,q,rfl,rfl,b⟩:=h;cases r;obtain⟨c,i,j,_⟩:=I.tuple b;cases i with
 |cons d e=>
  obtain⟨t,rfl⟩:=d;cases e with
  |cons q3 f=>obtain⟨v,rfl⟩:=q3;cases f;exact⟨a,p,q,t,v,Z,Z,j⟩
end
section
variable{prog:aB}{w:az}{A:aG}{s:af}
def It2(h:Heap)(b:List aa)(c:List aE):Prop:=∀i,i<b.length->∃a p q t v,b.getD i Value.none=.ref a/\c.getD i []=[p,q]/\gp h a #[.str p t,.str q v]/\b[i]?=U (.ref a)
def Q3(item:It2 s.heap b H)(G:0<b.length)(hC:C (tuples' γ) s):ao (model prog w) A (keyKind' b.toArray) C (λk k=>False) s:=by
 have sh:∀(l:List aa),(∀v∈l,∃i,i<b.length/\b[i]?=U v)->∃fs,KatTups s.heap l fs/\fs.length=l.length/\∀f∈fs,∃(x:Str) (t:Tok),f=.str x t:=λl=>by
  induction l with
  |nil=>exact λk=>⟨[],KatTups.nil,Z,λf hf=>by cases hf⟩
  |cons v l z=>
   intro c;obtain⟨fs,h,m,j⟩:=z λw y=>c w (.tail _ y);obtain⟨i,d,u⟩:=c v (.head _);obtain⟨a,p,q,t,w,_,_,⟨o,B,E,n,F⟩,r⟩:=item i d;rw[u]at r;cases r;refine⟨.str p t::fs,KatTups.cons B E F (by simp) h,by rw[aS,aS,m],λf hf=>?_⟩;rcases aJ.1 hf with rfl|hf
   .exact⟨p,t,Z⟩
   .exact j f hf
 obtain⟨fs,h,m,j⟩:=sh b λv c=>by obtain⟨i,d,e⟩:=kQ.1 c;exact⟨i,d,by rw[bg d,e]⟩
 refine kat_kind (T:=.type "str") h (by omega) (λv c=>?_) (by decide) ?_
 .obtain⟨x,t,rfl⟩:=j v c;exact .now
 .rw[show (Value.type "str" != Value.type "tuple")=γ by decide];exact hC
def TF(item:It2 s.heap a e)(hij:i<a.length/\j<a.length)(hC:C (JL (e.getD i []) (e.getD j [])) s):jZ prog w A (tuples' γ) a i j C s:=by
 obtain⟨a1,b,c,f,l,q,x,⟨F,t,c1,B,o⟩,_⟩:=item i hij.1;obtain⟨z,p2,d,h,m,r,y,⟨G,u,c2,E,p⟩,_⟩:=item j hij.2;unfold jZ;rw[q,r];rw[x,y]at hC;refine kat_lt t o u p ?_;show KatLex _ _ _ _ _ _ [(Value.str b f,Value.str p2 h),(Value.str c l,Value.str d m)] 0 _;refine kat_cons (lg b f p2 h _ _ _ _ ?_);unfold JL at hC;by_cases hpp:b=p2
 .subst hpp;rw[ak Z]at hC;rw[beq_self_eq_true];refine kat_yes (kat_cons (lg c l d m _ _ _ _ ?_));unfold JL at hC;by_cases hqq:c=d
  .subst hqq;rw[ak Z]at hC;rw[beq_self_eq_true];exact kat_yes (kat_nil hC)
  .rw[aq hqq]at hC;rw[beq_false_of_ne hqq];exact kat_no (kat_one _ _ (tT hC))
 .rw[aq hpp]at hC;rw[beq_false_of_ne hpp];exact kat_no (oneLt_str hC)
end
section
variable{X:Cx}{G:Bg}{pins:cA}{σ:St}{H:Hp}{s:af}
def Lu(hu:X.A.units+64<cLine):vQ X (.builtin "sorted") (λxs H Q=>∃(a:Addr) (d:bz) (ks:List aE),xs=[.ref a]/\f5 X.K H a d/\0<d.length/\d.length<64/\ks.length=d.length/\(∀(i:Nat) (y:V) (k:aE),d[i]?=U y->ks[i]?=U k->JM X.K H y k)/\
  ∀p,H p=O->Q (.ref p) (e7 H p (.cf ((Of (λi j=>JL (ks.getD i []) (ks.getD j [])) d.length).map λi=>d.getD i V.X)))):=by
 intro pins s σ H xs us Q I r h;obtain⟨a,d,ks,rfl,Y,h1,P,hkl,W,q⟩:=h;obtain⟨u,rfl,w⟩:=m? r;cases w;obtain⟨f,m,T,ob,nn,hT,F,J,M⟩:=seq_val I (.inl Y);have R:d.length=f.length:=m.length;have item:∀{h':Heap},(∀b o,s.heap.get? b=U o->h'.get? b=U o)->It2 h' f ks:=λ{h'} l i hi=>by
  have E:dr X pins σ H { s with heap:=h',toks:=s.toks }:=I.f? l;have B:i<d.length:=by omega
  have z:i<ks.length:=by omega
  obtain⟨u,e,w⟩:=m.get (bg B);obtain⟨a,p,q,t,v,rfl,N,ti⟩:=TC E (W i _ _ (bg B) (bg z)) w;refine⟨a,p,q,t,v,?_,?_,ti,e⟩
  .rw[c6,e];rfl
  .rw[c6,bg z];exact N
 refine Oe (κ:=tuples' γ) (c:=λi j=>JL (ks.getD i []) (ks.getD j [])) hT F J M (by omega) (by omega) (λh' C l hC=>Q3 (s:={ s with heap:=h' }) (item l) (by omega) hC) (λh' i j C l hij hC=>TF (s:={ s with heap:=h' }) (item l) hij hC) λg h' e k1 k2 S=>?_
 .have x:dr X pins σ H { s with heap:=g,toks:=s.toks }:=I.f? k1;refine⟨.ref g.objs.size,_,x.laid (t':=s.toks) k2 (aL _) ?_,Z,q _ (x.fb.fresh (aL _))⟩;have hn:0<d.length:=h1;refine⟨?_,FN _ f,e,?_,S⟩
  .rw[ah,(FP _ hn).length_eq,cj,bV];omega
  .unfold FN;rw[<-R];exact Km m _ λi hi=>Lr _ hn i hi
end
def Q4:D->Option aE
 |.ef [.str p,.str q]=>U [p,q]
 |_=>O
def yy:aN->Option (List aE)
 |[]=>U []
 |d::a=>match Q4 d,yy a with
  |some k,U b=>U (k::b)
  |_,_=>O
def DY(a:aN):Option aN:=match yy a with
 |some b=>if 0<a.length/\a.length<64 then U ((Of (λi j=>JL (b.getD i []) (b.getD j [])) a.length).map λi=>a.getD i .X)else O
 |none=>O
def FU(f:FE):FA:=λd=>match f d with
 |some (.cf b,a)=>match DY b with
  |some c=>U (c,a)
  |none=>O
 |_=>O
section
variable{X:Cx}{G:Bg}{H:Hp}
set_option tactic.hygienic true
def MW(r:en G H d v)(e:Q4 d=U k):JM G.K H v k:=by
 unfold Q4 at e;split at e
 .rename_i p q;cases e;unfold en at r;obtain⟨a,t,rfl,i,b⟩:=r;unfold di at b;obtain⟨m,j,rfl,c,f⟩:=b;unfold di at f;obtain⟨o,l,rfl,q3,h⟩:=f;unfold di at h;unfold en at c q3;subst h c q3;exact⟨a,p,q,Z,Z,i⟩
 .cases e
set_option tactic.hygienic false
theorem Ko:∀{a:aN} {b:List aE},yy a=U b->b.length=a.length
 |[],b,e=>by cases e;rfl
 |d::a,b,e=>by
  unfold yy at e;cases c:Q4 d with
  |none=>rw[c]at e;cases e
  |some k=>
   cases f:yy a with
   |none=>rw[c,f]at e;cases e
   |some h=>rw[c,f]at e;cases e;rw[aS,aS,Ko f]
theorem Kp:∀{a:aN} {f:List aE} {h:bz},di G H a h->yy a=U f->∀(i:Nat) (y:V) (k:aE),h[i]?=U y->f[i]?=U k->JM G.K H y k
 |[],f,h,r,e,i,y,k,l,c=>by cases e;cases c
 |d::a,f,h,r,e,i,y,k,l,c=>by
  unfold yy at e;cases b:Q4 d with
  |none=>rw[b]at e;cases e
  |some q=>
   cases j:yy a with
   |none=>rw[b,j]at e;cases e
   |some m=>
    rw[b,j]at e;cases e;unfold di at r;obtain⟨v,t,rfl,o,p⟩:=r;cases i with
    |zero=>cases l;cases c;exact MW o b
    |succ i=>exact Kp p j i y k l c
theorem JM.mono{K:aw}(s:uw b c)(h:JM K b y k):JM K c y k:=by obtain⟨a,p,q,d,e,f⟩:=h;exact⟨a,p,q,d,e,gk.mono s f⟩
set_option tactic.hygienic true
def MX(h:PE X e (tCB (λu H Q=>∃(a:Addr) (c:bz) (l:List aE),u=[.ref a]/\f5 G.K H a c/\0<c.length/\c.length<64/\l.length=c.length/\(∀(i:Nat) (y:V) (k:aE),c[i]?=U y->l[i]?=U k->JM G.K H y k)/\
  ∀p,H p=O->Q (.ref p) (e7 H p (.cf ((Of (λi j=>JL (l.getD i []) (l.getD j [])) c.length).map λi=>c.getD i V.X)))) (rm G (bt f uN)))):PE X e (D0 G (FU f)):=PE.ea h λσ H Q t=>by
 obtain⟨F,W,A,es,Y,R,e,k⟩:=t;unfold FU at e;split at e
 .rename_i q ρ1 C;cases b:DY q with
  |none=>simp only[b]at e;cases e
  |some E=>
   simp only[b]at e;cases e;unfold DY at b;cases m:yy q with
   |none=>simp only[m]at b;cases b
   |some l=>
    simp only[m]at b;split at b
    .rename_i t;obtain⟨N,J⟩:=t;cases b;refine⟨F,W,A,[.cf q],_,R,by unfold bt;rw[C];rfl,λc H1 B s d rs=>?_⟩;unfold di at rs;obtain⟨v,r0,rfl,z,x⟩:=rs;unfold di at x;subst x;unfold en at z;obtain⟨a,u,rfl,I,r⟩:=z;have w:=uk r;refine⟨a,u,l,Z,f5.of (d.sub _ _ I),by omega,by omega,by rw[Ko m,w],λi y P S T=>JM.mono d.sub (Kp r m i y P S T),λp o=>?_⟩;refine k p _ _ _ s (d.jj o _) uu (d.fx o) (d.iE o) (d.apart o) ?_;rw[<-w];exact Kn r _ λi M=>Lr _ N i M
    .cases b
 .cases e
set_option tactic.hygienic false
def JN(d:X.A.units+64<cLine)(hK:X.K=G.K:=by rfl):vQ X (.builtin "sorted") (λe H Q=>∃(a:Addr) (b:bz) (c:List aE),e=[.ref a]/\f5 G.K H a b/\0<b.length/\b.length<64/\c.length=b.length/\(∀(i:Nat) (y:V) (k:aE),b[i]?=U y->c[i]?=U k->JM G.K H y k)/\
  ∀p,H p=O->Q (.ref p) (e7 H p (.cf ((Of (λi j=>JL (c.getD i []) (c.getD j [])) b.length).map λi=>b.getD i V.X)))):=by rw[<-hK];exact Lu d
end
end L4
namespace L4
open PySem PySem.Spec PyProof.Rows L2 L3
structure Bz where
 P:aB
 w:az
 mg:Str->Option aa
 b?:Heap
 G:Bg
structure ZE(X:Cx)(B:Bz)(e:Expr)(f:FE):Prop where p:PE X e (tF B.G f)
structure ZN(X:Cx)(B:Bz)(e:Expr)(f:FA):Prop where p:PE X e (D0 B.G f)
structure ZT(X:Cx)(B:Bz)(e:Expr)(f:FT):Prop where p:PT X e (nj B.G f)
structure ZW(X:Cx)(B:Bz)(e:Expr)(f:FT):Prop where p:PW X e (nj B.G f)
structure ZF(X:Cx)(B:Bz)(e:List Expr)(f:FT):Prop where p:PIf X e (nj B.G f)
structure ZA(X:Cx)(B:Bz)(e:List Expr)(f:FA):Prop where p:PA X e (rm B.G f)
structure ZS(X:Cx)(B:Bz)(e:Stmt)(f:FS):Prop where p:PS X e (lb B.G f)
structure ZB(X:Cx)(B:Bz)(e:List Stmt)(f:FS):Prop where p:lr X e (lb B.G f)
structure ZI(X:Cx)(B:Bz)(tg e:Expr)(f:FA):Prop where p:PI X tg e (tFI B.G f)
structure ZO(X:Cx)(B:Bz)(e:Option Expr)(f:FO):Prop where p:PO X e (tFO B.G f)
structure ZG(X:Cx)(B:Bz)(e:Expr)(n:Nat)(f:FG):Prop where p:PG X e (tFG B.G n f)
structure ZH(X:Cx)(B:Bz)(e:List Expr)(n:Nat)(f:aN->aM->Option aM):Prop where p:X? X e (QD B.G n f)
structure ZK(X:Cx)(e:Option Expr)(i:Option Int):Prop where p:PO X e (tO i)
structure ZV(X:Cx)(e:Expr)(i:Nat):Prop where p:PE X e (z7 i)
abbrev Gz(X:Cx)(x:Str):Prop:=X.cb.kindOf x=U .globalImplicit
abbrev Dz(x:Str):Prop:=(x==("__debug__" : Str))=δ
abbrev Nz(x:Str):Prop:=(decide (x≠"__name__")&&!(x==("__debug__" : Str)))=γ
abbrev Sz(X:Cx)(e:Expr)(a:List Expr):Prop:=ay (e::a) X.cb=(δ,eval e X.cb)::ay a X.cb
abbrev S1(X:Cx)(e:Expr):Prop:=ay [e] X.cb=[(δ,eval e X.cb)]
abbrev Lz(X:Cx)(pos:Pos)(a:List Expr):Prop:=(bE pos (ay a X.cb)).any (·.1)=δ
abbrev Wz(X:Cx)(e o:Expr)(pos:Pos):Prop:=cw e (U o) pos.line X.cb=pure δ
abbrev Az(X:Cx)(o:Expr)(m:Str):Prop:=fF o m X.cb (eval o X.cb)=eval o X.cb
abbrev Ez(p pos:Pos):Prop:=(p.endLine==pos.line)=γ
abbrev Iz(e:Expr):Prop:=(λo i=>subscripted e δ o i)=λo i=>operate [o,i] (getItem o i)
abbrev Fz(X:Cx)(e:Expr):Prop:=(λx=>iw e X.cb x)=λx=>pure x
class Cz(X:Cx)(B:outParam Bz)(k:outParam Nat):Prop where
 P:X.prog=B.P
 w:X.w=B.w
 K:X.K=B.G.K
 mg:X.mg=B.mg
 b:X.b?=B.b?
 c:X.ll=γ
 r:wt k X.A
class Yb(B:Bz):Prop where y:Yw B.P B.w B.mg B.b? B.G
class Df(B:Bz)(j:outParam Nat)(x:Str)(sp:Sp):Prop where p:∃ps,DA B.P B.w B.G.K B.mg B.b? j x ps sp
class Kf(B:Bz)(j:outParam Nat)(x:Str)(c:Nat)(g:aN->Option (aE×aN))(dds:aN):Prop where
 p:∃ps,Lo B.G B.P B.w B.mg B.b? j x c ps (dds.map vD) g
 f:dds.all xa=γ
class Mf(B:Bz)(j:outParam Nat)(m:Str)(g:Nat->Option (aN->Option D)):Prop where p:∀c h,g c=U h->Bp B.G B.P B.w B.mg B.b? j m c h
class Ff(B:Bz)(ok:Nat->Bool)(f:Str):Prop where p:∀c,ok c=γ->ζ B.G.K (B.G.ca c)/\AC B.G.K (B.G.ca c) f
class Af(B:Bz)(c:Nat)(xs:outParam aE):Prop where p:CF B.G.K (B.G.ca c) xs
class Nb(B:Bz)(x:Str):Prop where p:B.mg x=O
class Co(B:Bz)(x:Str)(d:D):Prop where p:Ag B.G B.mg x d
class Ic(B:Bz)(x:Str)(t:Ty->Option Bool):Prop where p:∃c,IC B.G c t/\B.mg x=U (.ref (B.G.ca c))
class Ij(B:Bz)(n:Nat):Prop where p:∀j k,j<n->k<n->B.G.ca j=B.G.ca k->j=k
class OpC(op:Operator)(g:D->D->Option D):Prop where p:∀(X:Cx) (G:Bg),∃r,j3 X (cR op) r/\l4 G r g
instance in1:OpC .Mod yf:=⟨λv v=>⟨_,Yv,Zb⟩⟩
instance in2:OpC .FloorDiv BW:=⟨λv v=>⟨_,Vp,Zc⟩⟩
instance in3:OpC .Mult ye:=⟨λv v=>⟨_,Yu,Za⟩⟩
instance in4:OpC .Sub MG:=⟨λv v=>⟨_,Yt,Y9⟩⟩
instance in5:OpC .Pow SC:=⟨λv v=>⟨_,Yy,Zd⟩⟩
instance in6:OpC .Add xb:=⟨λv v=>⟨_,Ys,Y8⟩⟩
instance in7:OpC .Add EE:=⟨λv v=>⟨_,NG,Wg⟩⟩
instance in8:OpC .Mult Kh:=⟨λv v=>⟨_,NU,WJ⟩⟩
class Q'(op:CmpOp)(g:D->D->Option D):Prop where p:∀(X:Cx) (G:Bg),X.K=G.K->X.A.units+64<cLine->∃r,j3 X (bB op) r/\l4 G r g
instance in9:Q' .Eq (fl δ):=⟨λv v h u=>⟨_,Zj u h,acZ⟩⟩
instance in10:Q' .NotEq (fl γ):=⟨λv v h u=>⟨_,Zk u h,ac0⟩⟩
instance in11:Q' .In (vr δ):=⟨λv v h v=>⟨_,Zl h,XG⟩⟩
instance in12:Q' .NotIn (vr γ):=⟨λv v h v=>⟨_,QL h,XG⟩⟩
instance in13:Q' .Is yA:=⟨λv v v v=>⟨_,Yz,Zg⟩⟩
instance in14:Q' .IsNot vR:=⟨λv v v v=>⟨_,Vq,Wh⟩⟩
instance in16:Q' .Lt Lm:=⟨λv v v v=>⟨_,acj,acV⟩⟩
instance in17:Q' .LtE zf:=⟨λv v v v=>⟨_,ack,acW⟩⟩
instance in18:Q' .Gt MH:=⟨λv v v v=>⟨_,acm,acX⟩⟩
instance in19:Q' .GtE Y7:=⟨λv v v v=>⟨_,acn,acY⟩⟩
instance in20:Q' .LtE SD:=⟨λv v v v=>⟨_,QA,Ze⟩⟩
class B1(x:Str)(g:D->Option D):Prop where p:∀(X:Cx) (G:Bg),X.K=G.K->X.ll=γ->∃(id:String) (r:bz->Hp->VK->Prop),vQ X (.builtin id) r/\Iu G r g/\dN x=U (.builtin id)
instance in21:B1 "len" xc:=⟨λv v h v=>⟨_,_,QN h,Zm,qc⟩⟩
instance in22:B1 "all" yZ:=⟨λv v h c=>⟨_,_,QO c h,Zo,boot_all⟩⟩
instance in23:B1 "any" FL:=⟨λv v h c=>⟨_,_,QU c h,Zv,boot_any⟩⟩
class KtC(x:Str)(T:outParam String):Prop where p:(∀(X:Cx) (G:Bg) y b,vO T y=U b->bX X.K (y.val G) (.type T)=U b)/\dN x=U (.type T)
instance in24:KtC "str" "str" := ⟨λv v=>Wo,Pv.boot_str⟩
instance in25:KtC "int" "int" := ⟨λv v=>WI,qS⟩
instance in26:KtC "bool" "bool" := ⟨λv v=>Tp,Pv.boot_bool⟩
instance in27:KtC "list" "list" := ⟨λv v=>SU,qB⟩
instance in28:KtC "tuple" "tuple" := ⟨λv v=>kit_tuple,qt⟩
theorem XN:∀{dds:aN},dds.all xa=γ->di G H dds (dds.map vD)
 |[],_=>uU
 |d::a,h=>by rw[gS,aV]at h;exact uR (ED h.1 H) (XN h.2)
def o3(X:Cx)(i:Nat)(x:Str):Bool:=decide (X.N[i]?=U x)&&(match X.cb.scope.names.lookup x with|some .local=>γ|some .cell=>γ|some .free=>γ|_=>δ)&&!(x==("__debug__" : Str))&&!(x==("__classdict__" : Str))
def tf(X:Cx)(i:Nat)(x:Str):Bool:=decide X.N.Nodup&&decide (X.N[i]?=U x)&&(match X.cb.scope.names.lookup x with|some .local=>γ|some .cell=>X.fn x|_=>δ)
section
variable{X:Cx}{B:Bz}{k j i n c0:Nat}{x m:Str}{e e' o tg it:Expr}{es:List Expr}{p p2 p3 pos apos:Pos}{f f' f2:FE}{a:FA}{g:D->D->Option D}
set_option tactic.hygienic true
def Kx(h:o3 X i x=γ):PE X (.Name x p) (z7 i):=by
 unfold o3 at h;simp only[aV,cq,eG]at h;obtain⟨⟨⟨c,b⟩,d⟩,l⟩:=h;refine pv i c ?_ d l;split at b
 .rename_i e;exact .inl e
 .rename_i e;exact .inr (.inl e)
 .rename_i e;exact .inr (.inr e)
 .cases b
set_option tactic.hygienic false
def ade(h:o3 X i x=γ):ZE X B (.Name x p) (cV i):=⟨NV (Kx h)⟩
def ZU(h:o3 X i x=γ):ZE X B (.Name x p) (D' i):=⟨acR (Kx h)⟩
def WN(h:o3 X i x=γ):ZN X B (.Name x p) (JH i):=⟨Wb (Kx h)⟩
set_option tactic.hygienic true
def EN(h:tf X i x=γ):X.N.Nodup/\X.N[i]?=U x/\L2.Loc X.cb.scope x/\(X.fn x=γ\/X.cb.scope.names.lookup x=U .local):=by
 unfold tf at h;simp only[aV,cq]at h;obtain⟨⟨c,d⟩,b⟩:=h;split at b
 .rename_i e;exact⟨c,d,.inl e,.inr e⟩
 .rename_i e;exact⟨c,d,.inr e,.inl b⟩
 .cases b
set_option tactic.hygienic false
def pgI(h:tf X i x=γ):PG X (.Name x p) (Aa i):=by obtain⟨b,c,d,l⟩:=EN h;exact OL b c d l
def ZZ(h:tf X i x=γ)(b:Nat.blt i n=γ):ZG X B (.Name x p) n (gN i):=⟨Sq n (pgI h) (Nat.blt_eq.mp b)⟩
def stW(h:tf X i x=γ)(q:PE X e t)(r:Wz X e (.Name x p) pos):PS X (.Assign [.Name x p] e pos) (DT t (Aa i)):=by obtain⟨b,c,d,l⟩:=EN h;exact NB b c d q r l
def Z0(h:tf X i x=γ)(b:ZE X B e f)(c:Wz X e (.Name x p) pos):ZS X B (.Assign [.Name x p] e pos) (uJ i f):=⟨O3 (stW h b.p c)⟩
def Z1(h:tf X i x=γ)(b:ZN X B e a)(c:Wz X e (.Name x p) pos):ZS X B (.Assign [.Name x p] e pos) (wW i a):=⟨Mx (stW h b.p c)⟩
def Z2(h:tf X i x=γ)(b:Wz X (.Dict [] [] p2) (.Name x p) pos):ZS X B (.Assign [.Name x p] (.Dict [] [] p2) pos) (IB i):=⟨S0 (stW h Mj b)⟩
def Z3 [b:OpC q g](h:ZE X B e f)(l:ZE X B e' f'):ZE X B (.BinOp e q e' pos) (c2 g f f'):=by obtain⟨r,c,d⟩:=b.p X B.G;exact⟨acE c d h.p l.p⟩
def Z4 [C:Cz X B k](b:ZE X B e f)(c:ZE X B e' f')(d:Iz e'):ZE X B (.Subscript e e' pos) (c2 gd f f'):=⟨acF (ix_X C.K) ac1 b.p c.p λo i=>congrFun (congrFun d o) i⟩
def WO [C:Cz X B k](h:o3 X i x=γ)(b:ZE X B e' f')(c:Iz e'):ZE X B (.Subscript (.Name x p) e' pos) (NX i f'):=⟨Y5 (Xv (Se B.G.K C.K) (Kx h) b.p λo i=>congrFun (congrFun c o) i)⟩
def Z5 [C:Cz X B k](b:ZE X B e f)(c:ZE X B e' f')(d:Iz e'):ZE X B (.Subscript e e' pos) (c2 DB f f'):=⟨Wt (Ml C.r) b.p c.p λo i=>congrFun (congrFun d o) i⟩
section
variable{op op':CmpOp}{g':D->D->Option D}
def Z6 [b:Q' op g][C:Cz X B k](h:ZE X B e f)(l:ZE X B e' f')(q:fW op e'=δ):ZE X B (.Compare e [op] [e'] pos) (c2 g f f'):=by obtain⟨r,c,d⟩:=b.p X B.G C.K C.r.units;exact⟨YX c d h.p l.p q⟩
def Z7 [b:Q' op g][C:Cz X B k](h:ZE X B e f)(l:ZE X B e' f')(q:fW op e'=δ):ZT X B (.Compare e [op] [e'] pos) (cT (c2 g f f')):=by obtain⟨r,c,d⟩:=b.p X B.G C.K C.r.units;exact⟨VO c d h.p l.p q⟩
def Z8 [b:Q' op g][c:Q' op' g'][C:Cz X B k](t:ZE X B e f)(u:ZE X B e' f')(w:ZE X B o f2)(y:lastMarks [op,op'] [e',o]=δ):ZE X B (.Compare e [op,op'] [e',o] pos) (xT g g' f f' f2):=by obtain⟨r,d,h⟩:=b.p X B.G C.K C.r.units;obtain⟨z,l,q⟩:=c.p X B.G C.K C.r.units;exact⟨SM d l h q t.p u.p w.p y⟩
def Z9 [b:Q' op g][c:Q' op' g'][C:Cz X B k](t:ZE X B e f)(u:ZE X B e' f')(w:ZE X B o f2)(y:lastMarks [op,op'] [e',o]=δ):ZT X B (.Compare e [op,op'] [e',o] pos) (cT (xT g g' f f' f2)):=by obtain⟨r,d,h⟩:=b.p X B.G C.K C.r.units;obtain⟨z,l,q⟩:=c.p X B.G C.K C.r.units;exact⟨QQ d l h q t.p u.p w.p y⟩
end
def aaa(h:ZE X B e f)(b:(λwhole=>isTrue e X.cb whole)=λwhole=>(do let v<-whole;standAt e.pos;holding [v] (truthy v))):ZT X B e (cT f):=⟨VP h.p λw=>congrFun b w⟩
def aab(d:ZT X B e b)(h:ZW X B (.BoolOp .Or (e'::es) pos) c):ZT X B (.BoolOp .Or (e::e'::es) pos) (w9 b c):=⟨PW.pt (Si d.p h.p)⟩
def aac(d:ZT X B e b)(h:ZW X B (.BoolOp .And (e'::es) pos) c):ZT X B (.BoolOp .And (e::e'::es) pos) (BV b c):=⟨PW.pt (VS d.p h.p)⟩
def aad [C:Cz X B k][Q:Co B x d](b:Gz X x)(hd:Dz x):ZE X B (.Name x pos) (cC d):=⟨SQ (C.mg▸Q.p) b hd⟩
def aae [C:Cz X B k][Q:Ff B ok m](c:ZE X B e f)(b:Az X e m):ZE X B (.Attribute e m pos) (c1 (uo ok m) f):=⟨Su c.p (C.K▸Q.p) b⟩
section
variable(hg:Gz X x)(hd:Dz x)(hs:Sz X e es)(hl:Lz X pos es)
include hg hd
theorem dz [C:Cz X B k][Q:Df B j x d]:∃c,DA X.prog X.w X.K X.mg X.b? j x c d:=by rw[C.P,C.w,C.K,C.mg,C.b];exact Q.p
theorem aaf{g:aN->Option aN}[C:Cz X B k][Q:Df B j x (u1 B.G g)](b:dy j k=γ):ZN X B (.Call (.Name x p) [] [] pos) (u4 g uN):=by obtain⟨c,q⟩:=dz hg hd (Q:=Q);exact⟨SN q (C.r.mono (dw.mp b)) hg hd⟩
include hs hl
theorem aag{g:aN->Option D}[C:Cz X B k][Q:Df B j x (fi B.G g)](b:ZA X B (e::es) a)(c:dy j k=γ):ZE X B (.Call (.Name x p) (e::es) [] pos) (ug g a):=by obtain⟨d,q⟩:=dz hg hd (Q:=Q);exact⟨Zq q (C.r.mono (dw.mp c)) b.p hg hd hs hl⟩
theorem aah{g:aN->Option aN}[C:Cz X B k][Q:Df B j x (u1 B.G g)](b:ZA X B (e::es) a)(c:dy j k=γ):ZN X B (.Call (.Name x p) (e::es) [] pos) (u4 g a):=by obtain⟨d,q⟩:=dz hg hd (Q:=Q);exact⟨Wk q (C.r.mono (dw.mp c)) b.p hg hd hs hl⟩
theorem aai{g:aN->aN->Option (D×aN)}[C:Cz X B k][Q:Df B j x (vo B.G g)](d:ZV X e i)(b:ZA X B es a)(c:dy j k=γ):ZE X B (.Call (.Name x p) (e::es) [] pos) (vd g i a):=by obtain⟨h,q⟩:=dz hg hd (Q:=Q);exact⟨Wl q (C.r.mono (dw.mp c)) d.p b.p hg hd hs hl⟩
theorem aaj{g:aN->Option (aE×aN)}{dds:aN}[C:Cz X B k][Q:Kf B j x c0 g dds](d:ZA X B (e::es) a)(h:dy (j+1) k=γ):ZE X B (.Call (.Name x p) (e::es) [] pos) (uO c0 (λc=>g (c++dds)) a):=by obtain⟨l,q⟩:=Q.p;exact⟨Wm (by rw[C.P,C.w,C.mg,C.b];exact q) (λH=>XN Q.f) (C.r.mono (dw.mp h)) d.p C.K hg hd hs hl⟩
end
def mz{g:Nat->Option (aN->Option D)}[C:Cz X B k][Q:Mf B j m g]:∀c h,g c=U h->Bp B.G X.prog X.w X.mg X.b? j m c h:=by rw[C.P,C.w,C.mg,C.b];exact Q.p
def aak{g:Nat->Option (aN->Option D)}{pl:Sem Bool}[C:Cz X B k][Q:Mf B j m g](d:ZE X B o f)(c:dy j k=γ)
  (h:eval (.Call (.Attribute o m apos) [] [] pos) X.cb=(do
   let b<-eval o X.cb
   standAt apos.atName
   let (f,first)<-holding [b] (getMethod b m pl)
   callWith pos f first (bE pos (ay [] X.cb)) (backToKw pos (d6 [] X.cb)))):ZE X B (.Call (.Attribute o m apos) [] [] pos) (uG g m f uN):=⟨N1 mz (C.r.mono (dw.mp c)) d.p C.K h⟩
def aal{g:Nat->Option (aN->Option D)}{pl:Sem Bool}[C:Cz X B k][Q:Mf B j m g](l:ZE X B o f)(c:ZA X B (e::es) a)(d:dy j k=γ)(q:Sz X e es)(h:Lz X pos es)
  (t:eval (.Call (.Attribute o m apos) (e::es) [] pos) X.cb=(do
   let b<-eval o X.cb
   standAt apos.atName
   let (f,first)<-holding [b] (getMethod b m pl)
   callWith pos f first (bE pos (ay (e::es) X.cb)) (backToKw pos (d6 [] X.cb)))):ZE X B (.Call (.Attribute o m apos) (e::es) [] pos) (uG g m f a):=⟨QR mz (C.r.mono (dw.mp d)) l.p c.p C.K q h t⟩
section
variable(hg:Gz X x)(hd:Nz x)(hs:S1 X e)
include hg hd hs
theorem cbI{id:String}[C:Cz X B k][N:Nb B x](c:vQ X (.builtin id) r)(d:dN x=U (.builtin id))(b:PA X [e] t):PE X (.Call (.Name x p) [e] [] pos) (tCB r t):=by simp only[aV,cq,eG]at hd;exact yM c hg (C.mg▸N.p) d b hd.1 hd.2 hs Z
theorem ctI [C:Cz X B k][N:Nb B x](c:vQ X (.type T) r)(d:dN x=U (.type T))(b:PA X [e] t):PE X (.Call (.Name x p) [e] [] pos) (tCB r t):=by simp only[aV,cq,eG]at hd;exact Qs c hg (C.mg▸N.p) d b hd.1 hd.2 hs Z
theorem aam{g:D->Option D}[Q:B1 x g][C:Cz X B k][N:Nb B x](l:ZE X B e f):ZE X B (.Call (.Name x p) [e] [] pos) (c1 g f):=by obtain⟨id,r,b,d,h⟩:=Q.p X B.G C.K C.c;exact⟨SG d (cbI hg hd hs b h (vY l.p xN hs))⟩
end
section
variable(hs:S1 X e)
include hs
theorem aan [C:Cz X B k][N:Nb B "list"](c:Gz X "list")(b:ZE X B e f):ZN X B (.Call (.Name "list" p) [e] [] pos) (zx f):=⟨SJ (ctI c (by decide) hs (N0 C.K) qB (vY b.p xN hs))⟩
theorem aao [C:Cz X B k][N:Nb B "tuple"](c:Gz X "tuple")(b:ZE X B e f):ZE X B (.Call (.Name "tuple" p) [e] [] pos) (EG f):=⟨SK (ctI c (by decide) hs (QP C.K) qt (vY b.p xN hs))⟩
theorem aap [C:Cz X B k][N:Nb B "sorted"](c:Gz X "sorted")(b:ZE X B e f):ZN X B (.Call (.Name "sorted" p) [e] [] pos) (FU f):=⟨MX (cbI c (by decide) hs (JN C.r.units C.K) boot_sorted (vY b.p xN hs))⟩
theorem aaq [C:Cz X B k][N:Nb B "range"](c:Gz X "range")(b:ZE X B e f):ZI X B tg (.Call (.Name "range" p) [e] [] pos) (iR1 f):=⟨NY (Qi c (C.mg▸N.p) (vY b.p xN hs) hs)⟩
end
section
variable(hi:Gz X "isinstance")(hg:Gz X x)(hs:ay [e,.Name x p2] X.cb=[(δ,eval e X.cb),(δ,eval (.Name x p2) X.cb)])(hs':S1 X (.Name x p2))
include hi hg hs hs'
theorem aar [Q:KtC x T][C:Cz X B k][N:Nb B "isinstance"][c:Nb B x](d:ZE X B e f)(hd:Nz x):ZE X B (.Call (.Name "isinstance" p) [e,.Name x p2] [] pos) (c1 (vv (vO T)) f):=by
 simp only[aV,cq,eG]at hd;refine⟨O9 (yM (Kg (.b T) (Q.p.1 X B.G) SR C.K) hi (C.mg▸N.p) iH (vq d.p (vq (OJ hg (C.mg▸c.p) Q.p.2 Z hd.1 hd.2) xB ?_) ?_) (by decide) (by decide) ?_ ?_)⟩
 .exact hs'
 .rw[hs,hs']
 .rw[hs,hs']
 .rw[hs'];rfl
theorem aas [Q:Ic B x t][C:Cz X B k][N:Nb B "isinstance"](b:ZE X B e f)(hd:Dz x):ZE X B (.Call (.Name "isinstance" p) [e,.Name x p2] [] pos) (c1 (vv t) f):=by
 obtain⟨c,d,h⟩:=Q.p;refine⟨O9 (yM (N5 d C.K) hi (C.mg▸N.p) iH (vq b.p (vq (Ei hg (C.mg▸h) Z hd) xB ?_) ?_) (by decide) (by decide) ?_ ?_)⟩
 .exact hs'
 .rw[hs,hs']
 .rw[hs,hs']
 .rw[hs'];rfl
end
section
variable(hb:Az X o m)(hl:Ez apos pos)(hs:S1 X e)
include hb hl hs
theorem bmI{id:String}[C:Cz X B k](h:mR T)(slot:Slot T m id)(hty:typeOf (.builtin id)=pure (.type "method_descriptor"))(c:MtR X id r)(d:PE X o to)(b:PA X [e] t):PE X (.Call (.Attribute o m apos) [e] [] pos) (tBM B.G.K T r to t):=
 Sf B.G.K h slot hty c d b hb (by rw[hs];rfl) hl hs Z C.K
end
section
variable(h:o3 X i x=γ)(hb:Az X (.Name x p) m)(hl:Ez apos pos)(hs:S1 X e)
include h hb hl hs
theorem aat [C:Cz X B k](c:m="append")(b:ZE X B e f):ZE X B (.Call (.Attribute (.Name x p) m apos) [e] [] pos) (AX i f):=by subst c;exact⟨QH (bmI hb hl hs jF lh oQ FC (Kx h) (vY b.p xN hs))⟩
theorem aau [C:Cz X B k](c:m="extend")(b:ZE X B e f):ZE X B (.Call (.Attribute (.Name x p) m apos) [e] [] pos) (Ct i f):=by subst c;exact⟨N7 (bmI hb hl hs jF jy oR (C.K▸N6) (Kx h) (vq b.p xB hs))⟩
end
def aav [C:Cz X B k](h:ZE X B e f)(l:ZE X B e' f')(c:Az X e "get")(d:Ez apos pos)(b:S1 X e'):ZE X B (.Call (.Attribute e "get" apos) [e'] [] pos) (c2 Cs f f'):=⟨SZ (Ml C.r) h.p l.p ⟨c,by rw[b];rfl,d,by rw[b];rfl⟩⟩
def aaw [C:Cz X B k][Q:Af B c0 l](d:l.contains m=γ)(h:o3 X i x=γ)(c:ZE X B e f)(b:Wz X e (.Attribute (.Name x p) m apos) pos):ZS X B (.Assign [.Attribute (.Name x p) m apos] e pos) (vc c0 i m f):=⟨Wa (YB (Kx h) c.p b) (by obtain⟨i,_,e⟩:=kY (kP.1 d);exact C.K▸Q.p.at i (bR.2 ⟨_,e⟩))⟩
def aax [C:Cz X B k](h:o3 X i x=γ)(b:ZE X B e' f')(d:ZE X B e f)(c:Wz X e (.Subscript (.Name x p) e' apos) pos):ZS X B (.Assign [.Subscript (.Name x p) e' apos] e pos) (yC i f' f):=⟨S4 (VF (Ml C.r) (Kx h) b.p d.p c)⟩
def aay [Q:Ij B n](h:ZE X B e f):ZE X B e (DC n f):=⟨WG Q.p h.p⟩
def aaz{lo:Option Expr}{b:FO}[C:Cz X B k](d:ZE X B e f)(q:ZO X B lo b)(h:ZO X B l c):ZN X B (.Subscript e (.Slice lo l O p) pos) (Ht f b c):=⟨N4 (Mg (sl_X C.K) d.p q.p h.p)⟩
def aaA:ZK X (U (.Constant (.int y) j pos)) (U y):=⟨SL⟩
def aaB:ZK X O O:=⟨ac2⟩
def aaC [C:Cz X B k](h:ZE X B e f):ZI X B tg e (iL f):=⟨MC (Mo B.G.K h.p C.K)⟩
def aaD [C:Cz X B k](h:ZE X B e f):ZI X B tg e (iT f):=⟨We (VL B.G.K h.p C.K)⟩
def aaE(h:ZE X B e f):ZI X B tg e (iD f):=⟨Te (WC h.p)⟩
def aaF(h:ZE X B e f):ZI X B tg e (iS f):=⟨Wu (YR h.p)⟩
section
variable{gg:FG}{gs:aN->aM->Option aM}
def WQ:ZH X B [] n Kb:=⟨VY Vl⟩
def WR(b:ZG X B e n gg)(c:ZH X B es n gs)(d:(cu (e::es) X.cb).map (·.2)=assign e X.cb::(cu es X.cb).map (·.2)):ZH X B (e::es) n (xD gg gs):=⟨Sr (RB b.p c.p d)⟩
def WS [C:Cz X B k](h:ZH X B es n gs)(b:(cu es X.cb).length=l)(d:(cu es X.cb).findIdx? (·.1)=O):ZG X B (.Tuple es q pos) n (gT gs l):=⟨VZ (VM B.G.K C.c h.p b d C.K)⟩
end
def tgN:Expr->aE
 |.Name x _=>[x]
 |.Tuple es _ _=>es.filterMap λe=>match e with|.Name x _=>U x|_=>O
 |_=>[]
def cpN(X:Cx)(tg:Expr)(er:List Nat):aE:=tgN tg++er.map λj=>X.N.getD j ""
instance inCz [C:Cz X B k]{d:aE}{q:cJ}{h:List (Str×Addr)}{A:Addr}{l:List Addr}{s:af}{H:Hp}:Cz (v5 X d q h A l s H) B k:=⟨C.P,C.w,C.K,C.mg,C.b,C.c,C.r⟩
def cpOk(X:Cx)(b:aE)(sc:cJ)(n:Nat)(er:List Nat):Bool:=decide er.Nodup&&decide (sc.kind=.function)&&(sc.names.all λy=>y.2 != .cell)&&(sc.names.all λy=>y.2 != .local||sc.names.lookup y.1==U .local)&&(sc.names.all λy=>y.2 != .free||(X.cb.kindOf y.1==U .cell||X.cb.kindOf y.1==U .free))&&decide (b.length=n+er.length)&&decide ((b.drop n).map U=er.map λj=>X.N[j]?)&&((b.drop n).all λx=>sc.names.lookup x==U .free)
section
variable{sc:cJ}{er:List Nat}{ifs:List Expr}{gg:FG}{ft:FT}{s:FA}
 (h0:cpOk X (cpN X tg er) sc n er=γ) (hs:Fz X it) (hi:ZI X B tg it s)
 (h1:∀(cl:List (Str×Addr)) (A:Addr) (fp:List Addr) (s:af) (H:Hp),ZG (v5 X (cpN X tg er) sc cl A fp s H) B tg n gg)
 (h2:∀(cl:List (Str×Addr)) (A:Addr) (fp:List Addr) (s:af) (H:Hp),ZF (v5 X (cpN X tg er) sc cl A fp s H) B ifs ft)
 (h3:∀(cl:List (Str×Addr)) (A:Addr) (fp:List Addr) (s:af) (H:Hp),ZE (v5 X (cpN X tg er) sc cl A fp s H) B e f)
include h0 hs hi h1 h2 h3
theorem aaH [C:Cz X B k]:ZN X B (.ListComp e [⟨tg,it,ifs,0⟩] sc pos) (uA n er s gg ft f):=by unfold cpOk at h0;simp only[aV,cq]at h0;obtain⟨⟨⟨⟨⟨⟨⟨a1,b⟩,d⟩,h⟩,l⟩,q⟩,r⟩,t⟩:=h0;exact⟨Sy a1 (VJ C.c hi.p (λcl A fp s H=>⟨(h1 cl A fp s H).p,(h2 cl A fp s H).p,(h3 cl A fp s H).p⟩) b d h l q r t λx=>congrFun hs x)⟩
theorem cpW [C:Cz X B k](h:tf X i x=γ)(F:cw (.ListComp e [⟨tg,it,ifs,0⟩] sc pos) (U (.Name x p)) apos.line X.cb=pure γ):PS X (.Assign [.Name x p] (.ListComp e [⟨tg,it,ifs,0⟩] sc pos) apos) (DT (Gj (tFI B.G s) (tFG B.G n gg) (nj B.G ft) (tF B.G f) n er) (Aa i))/\er.Nodup:=by unfold cpOk at h0;simp only[aV,cq]at h0;obtain⟨⟨⟨⟨⟨⟨⟨a1,b⟩,d⟩,l⟩,q⟩,r⟩,t⟩,u⟩:=h0;obtain⟨w,y,z,E⟩:=EN h;exact⟨Wp C.c w y z hi.p (λcl A fp s H=>⟨(h1 cl A fp s H).p,(h2 cl A fp s H).p,(h3 cl A fp s H).p⟩) b d l q r t u (λx=>congrFun hs x) F E,a1⟩
theorem aaI [C:Cz X B k](h:tf X i x=γ)(b:cw (.ListComp e [⟨tg,it,ifs,0⟩] sc pos) (U (.Name x p)) apos.line X.cb=pure γ):ZS X B (.Assign [.Name x p] (.ListComp e [⟨tg,it,ifs,0⟩] sc pos) apos) (uJ i (cL (uA n er s gg ft f))):=by have z:=cpW h0 hs hi h1 h2 h3 h b;exact⟨SV z.2 z.1⟩
theorem aaJ [C:Cz X B k](h:tf X i x=γ)(b:cw (.ListComp e [⟨tg,it,ifs,0⟩] sc pos) (U (.Name x p)) apos.line X.cb=pure γ):ZS X B (.Assign [.Name x p] (.ListComp e [⟨tg,it,ifs,0⟩] sc pos) apos) (wW i (uA n er s gg ft f)):=by have z:=cpW h0 hs hi h1 h2 h3 h b;exact⟨QT z.2 z.1⟩
end
section
variable{st:Stmt}{sts:List Stmt}{fs fs':FS}{ft:FT}{a':FA}{z1:Nat}
def adf(b:ZE X B e f)(c:ZA X B es a)(d:Sz X e es):ZA X B (e::es) (bt f a):=⟨vY b.p c.p d⟩
def adg:ZA X B [] uN:=⟨xN⟩
def aaK(h:o3 X i x=γ):ZV X (.Name x p) i:=⟨Kx h⟩
def aaL(h:ZN X B e a):ZE X B e (cL a):=⟨Y3 h.p⟩
def adh:ZE X B (.Constant (.str y) j pos) (cC (.str y)):=⟨YV⟩
def adi:ZE X B (.Constant (.int y) j pos) (cC (.int y)):=⟨YU⟩
def adj:ZE X B (.Constant (.bool y) j pos) (cC (.Y y)):=⟨acD⟩
def adk:ZE X B (.Constant .none j pos) (cC .X):=⟨YW⟩
def Pn(b:ZS X B st fs)(c:ZB X B sts fs'):ZB X B (st::sts) (bx fs fs'):=⟨Sm b.p c.p⟩
def adl(b:ZS X B st fs):ZB X B [st] fs:=⟨VW b.p⟩
def adm:ZB X B [] uz:=⟨VV⟩
def aaM(h:ZE X B e f):ZS X B (.Return (U e) pos) (uq f):=⟨VX h.p⟩
def aaN(h:ZN X B e a):ZS X B (.Return (U e) pos) (vI a):=⟨Sn h.p⟩
def aaO(h:ZE X B e f)(b:cw e O pos.line X.cb=pure δ):ZS X B (.Expr e pos) (uT f):=⟨So h.p b⟩
def aaP(h:ZT X B e ft)(b:ZB X B sts fs)(c:ZB X B sts' fs'):ZS X B (.If e sts sts' pos) (ff ft fs fs'):=⟨Y4 h.p b.p c.p⟩
def aaQ(h:ZA X B es a):ZN X B (.List es pos) (uM a):=⟨VT h.p⟩
def aaR(h:ZA X B es a):ZE X B (.Tuple es z1 pos) (uS a):=⟨Y2 h.p⟩
def aaS(b:ZE X B e f)(c:ZE X B e' f'):ZN X B (.BinOp e .Add e' pos) (wG f f'):=⟨Wi b.p c.p⟩
def aaT [C:Cz X B k](b:ZE X B e f)(c:ZE X B e' f'):ZE X B (.BinOp e .Add e' pos) (Gm f f'):=⟨Wv b.p c.p C.K⟩
def aaU(b:ZE X B e f)(c:ZE X B (.BoolOp .And (e'::es) pos) f'):ZE X B (.BoolOp .And (e::e'::es) pos) (vw f f'):=⟨Y0 b.p c.p⟩
def aaV(b:ZE X B e f)(c:ZE X B (.BoolOp .Or (e'::es) pos) f'):ZE X B (.BoolOp .Or (e::e'::es) pos) (Y? f f'):=⟨acH b.p c.p⟩
def aaW{c}(b:ZE X B e f):ZE X B (.BoolOp c [e] pos) f:=⟨YZ b.p⟩
def aaX(b:ZE X B e f):ZE X B (.UnaryOp .Not e pos) (Ex f):=⟨Y1 b.p⟩
def aaY(b:ZT X B e ft):ZT X B (.UnaryOp .Not e pos) (vN ft):=⟨VQ b.p⟩
def aaZ(h:ZT X B o ft)(b:ZE X B e f)(c:ZE X B e' f'):ZE X B (.IfExp o e e' pos) (A? ft f f'):=⟨acI h.p b.p c.p⟩
def adn(h:ZT X B e ft):ZF X B [e] ft:=⟨VI h.p⟩
def ado:ZF X B [] ve:=⟨SA⟩
def aa0(h:ZE X B e f):ZE X B e (Cd f):=⟨Zp h.p⟩
def aa1(h:ZT X B e ft):ZT X B e (Cp ft):=⟨Wj h.p⟩
def aa2(h:ZE X B e f):ZO X B (U e) (oAt f):=⟨Zx h.p⟩
def aa3:ZO X B O oNo:=⟨Zw⟩
def aa4(c:ZT X B e ft)(d:ZW X B (.BoolOp .Or (e'::es) pos) b):ZW X B (.BoolOp .Or (e::e'::es) pos) (w9 ft b):=⟨Si c.p d.p⟩
def aa5(h:ZT X B e ft):ZW X B (.BoolOp .Or [e] pos) ft:=⟨VR h.p⟩
def aa6(h:ZT X B e ft):ZW X B (.BoolOp .And [e] pos) ft:=⟨Sh h.p⟩
end
def aa7 [C:Cz X B k](r:jW (model X.prog X.w) X.A X.cb X.xe)(u:X.N.length=n)(q:ZI X B tg it s)(l:ZG X B tg n d)(h:ZB X B body b)(t:Fz X it):ZS X B (.For tg it body [] pos) (xH s d b):=⟨Wf (RH r C.c q.p l.p h.p λx=>congrFun t x)⟩
def aa8(l:jW (model X.prog X.w) X.A X.cb X.xe)(h:ZT X B e c)(d:ZB X B body b):ZS X B (.While e body [] pos) (whL c b n):=⟨QJ n (RF l h.p d.p)⟩
end
end L4
namespace L4
open PySem PySem.Spec PyProof.Rows L2 L3
open PySem.W (fnOf)
def L1(st:Stmt):aE:=(uE st).names.filterMap λy=>match y.2 with|.local=>U y.1|.cell=>U y.1|_=>O
def Q?(st:Stmt):aE:=(yc st).args.map (·.arg)
def okO(N a:aE)(st:Stmt)(b n:Nat):Bool:=decide ((uE st).kind=.function)&&(uE st).isCoroutine==δ&&(uE st).isGenerator==δ&&decide N.Nodup&&decide (N.take a.length=a)&&(a.all λx=>match (uE st).names.lookup x with|some .local=>γ|some .cell=>γ|_=>δ)&&((uE st).names.all λy=>y.2 != .free)&&decide (a.length=b)&&decide (N.length=n)
set_option tactic.hygienic true
def sx{st:Stmt}(h:okO N ps st np n=γ):wD N ps (uE st)/\ps.length=np/\N.length=n:=by
 unfold okO at h;simp only[aV,cq,beq_iff_eq]at h;obtain⟨⟨⟨⟨⟨⟨⟨⟨a,b⟩,c⟩,d⟩,f⟩,i⟩,j⟩,l⟩,m⟩:=h;refine⟨⟨a,b,c,d,f,λx o=>?_,λy p e=>?_⟩,l,m⟩
 .have z:=aR.1 i x o;split at z
  .rename_i e;exact .inl e
  .rename_i e;exact .inr e
  .cases z
 .have z:=aR.1 j y p;rw[e]at z;exact ar z (by decide)
section
variable{B:Bz}[Y:Yb B]{x m qual:Str}{st s0:Stmt}{l:List Stmt}{k c np n:Nat}{b:FS}{p:Str}{ps xs:aE}{N:aE}
set_option tactic.hygienic false
abbrev Bdz(B:Bz)(N:aE)(qual:Str)(st:Stmt)(l:List Stmt)(k:Nat)(b:FS):Prop:=∀{f:Addr} {cdv:aa} {A:aG} {dg:List Env} {s:af} {H:Hp} {E:XK} [Cz (Cq B.P B.w B.G.K B.mg B.b? N qual st f cdv A dg s H E) B k],ZB (Cq B.P B.w B.G.K B.mg B.b? N qual st f cdv A dg s H E) B l b
omit Y in
def Bdz.ok(h:Bdz B N qual st l k b)(a:uX st=l):Bdy B.P B.w B.G.K B.mg B.b? N qual st k (lb B.G b):=λf cdv A dg s H E d=>by subst a;exact(@h f cdv A dg s H E ⟨Z,Z,Z,Z,Z,Z,d⟩).p
def fy(d:g=e0 np n b)(q:GD B.G.K x st)(e:uX st=s0::l)(body:Bdz B (L1 st) x st (s0::l) k b)(S:okO (L1 st) (Q? st) st np n=γ:=by kernel_rfl)(a:X' x x st (Q? st):=by (repeat intro _);rfl):Df B (k+1) x (fi B.G g):=
 ⟨_,gF d Y.y q (sx S).1 (body.ok e) (sx S).2.1 (sx S).2.2 a⟩
def gF5(N:aE)(d:g=e0 np n b)(q:GD B.G.K x st)(e:uX st=s0::l)(body:Bdz B N x st (s0::l) k b)(S:okO N (Q? st) st np n=γ:=by kernel_rfl)(a:X' x x st (Q? st):=by (repeat intro _);rfl):Df B (k+1) x (fi B.G g):=
 ⟨_,gF d Y.y q (sx S).1 (body.ok e) (sx S).2.1 (sx S).2.2 a⟩
def ν(d:g=A' np n b)(q:GD B.G.K x st)(e:uX st=s0::l)(body:Bdz B (L1 st) x st (s0::l) k b)(S:okO (L1 st) (Q? st) st np n=γ:=by kernel_rfl)(a:X' x x st (Q? st):=by (repeat intro _);rfl):Df B (k+1) x (u1 B.G g):=
 ⟨_,gN' d Y.y q (sx S).1 (body.ok e) (sx S).2.1 (sx S).2.2 a⟩
def gM4(d:g=tj np n b)(q:GD B.G.K x st)(e:uX st=s0::l)(f:Q? st=p::ps)(body:Bdz B (L1 st) x st (s0::l) k b)(S:okO (L1 st) (p::ps) st (np+1) n=γ:=by kernel_rfl)(a:X' x x st (p::ps):=by (repeat intro _);rfl):Df B (k+1) x (vo B.G g):=
 ⟨_,gM d Y.y q (sx S).1 (body.ok e) (iQ (sx S).2.1) (sx S).2.2 a⟩
theorem rh(C:CF B.G.K (B.G.ca c) xs)(h:g=e0 np n b)(q:GM B.G.K (B.G.ca c) m qual st)(j:uX st=s0::l)(body:Bdz B (L1 st) qual st (s0::l) k b)(S:okO (L1 st) (Q? st) st np n=γ:=by kernel_rfl)(d:X' m qual st (Q? st):=by (repeat intro _);rfl):Bp B.G B.P B.w B.mg B.b? (k+1) m c g:=by obtain⟨f,e,a,i,F⟩:=q;exact⟨f,e,_,C.ci.cl,⟨a,i,F.kp⟩,d.ok F,SO h (sx S).2.1 (sx S).2.2 F (sx S).1 (body.ok j f)⟩
def gI4(C:CF B.G.K (B.G.ca c) xs)(a:iZ B.G.K aQ x=U (U (.ref (B.G.ca c))))(e:g=x3 c np n b)(q:GM B.G.K (B.G.ca c) "__init__" qual st)(f:uX st=s0::l)(h:Q? st=p::ps)(body:Bdz B (L1 st) qual st (s0::l) k b)(S:okO (L1 st) (p::ps) st (np+1) n=γ:=by kernel_rfl)(d:X' "__init__" qual st (p::ps):=by (repeat intro _);rfl):Kf B (k+1) x c g []:=
 ⟨⟨_,gI e Y.y C a q (sx S).1 (body.ok f) (iQ (sx S).2.1) (sx S).2.2 d⟩,Z⟩
def gJ4{dds:aN}(C:CF B.G.K (B.G.ca c) xs)(a:iZ B.G.K aQ x=U (U (.ref (B.G.ca c))))(t:g=x3 c np n b)(q:GJ B.G.K (B.G.ca c) qual st (dds.map vD))(u:uX st=s0::l)(z:Q? st=p::ps)(body:Bdz B (L1 st) qual st (s0::l) k b)(j:Nat)(S:okO (L1 st) (p::ps) st (np+1) n=γ:=by kernel_rfl)(e:dds.all xa=γ:=by rfl)
  (o:Oh (dds.map vD).length λdl=>Oh ((p::ps).length - ((dds.map vD).drop j).length) λf=>∀(T:Addr) (kV doc w:aa) (i:Option Addr) (cdv r:aa),∃k,bindArgs (fnOf "__init__" qual (yc st) (uX st) (uE st) (.ref T) kV doc w i cdv r) ⟨f,[]⟩=seqItems? (.ref T)>>=k/\k (U dl.toArray)=pure ((p::ps).zip (f++dl.drop j)):=by (repeat intro _);exact⟨_,Z,Z⟩):Kf B (k+1) x c g (dds.drop j):=
 ⟨⟨_,by rw[mf];exact gJ t Y.y C a q (sx S).1 (body.ok u) j (iQ (sx S).2.1) (sx S).2.2 o⟩,by
  rw[aR]at e ⊢;exact λd h=>e d (oa h)⟩
def Cw(n:Nat)(a:Nat->Addr):∀k,k<n->((aZ n).map a).getD k 0=a k:=λk h=>by rw[c6,bA,kW h];rfl
def injR{n:Nat}{a:Nat->Addr}(h:decide ((aZ n).map a).Nodup=γ):∀j k,j<n->k<n->a j=a k->j=k:=λj k d f e=>by rw[<-Cw n a j d,<- Cw n a k f]at e;exact ZR (bq h) (by simpa using d) (by simpa using f) e
def Bu:Nat->(Nat->Prop)->Prop
 |0,_=>True
 |n+1,Q=>Q 0/\Bu n λk=>Q (k+1)
theorem Bu.at:∀{n:Nat} {Q:Nat->Prop},Bu n Q->∀k,k<n->Q k
 |_+1,_,h,0,_=>h.1
 |_+1,_,h,k+1,a=>Bu.at h.2 k (Nat.lt_of_succ_lt_succ a)
end
section
variable{X:Cx}{B:Bz}{k j i n:Nat}{x y:Str}{e e' tg:Expr}{es:List Expr}{p p2 p3 pos apos:Pos}{f f':FE}{a:FA}{st:Stmt}{sts:List Stmt}{fs fs':FS}{ft:FT}
def aa9 [C:Cz X B k](m:ZE X B e f)(o:ZE X B e' f')(q:ZE X B b d)(h:Az X e "get")(l:Ez apos pos)(c:ay [e',b] X.cb=[(δ,eval e' X.cb),(δ,eval b X.cb)]):ZE X B (.Call (.Attribute e "get" apos) [e',b] [] pos) (Ki f f' d):=⟨S5 (Ml C.r) m.p o.p q.p ⟨h,by rw[c];rfl,l,by rw[c];rfl⟩⟩
def aba(o:X.N.length=n)(d:ZE X B e f)(h:ZG X B tg n b)(l:swapsWithSole [tg] e pos.line X.cb=pure δ)(m:swappedStores [tg] e X.cb=pure O)(c:(cu [tg] X.cb).map (·.2)=[assign tg X.cb]):ZS X B (.Assign [tg] e pos) (Lk f b):=⟨V0 (RD d.p h.p l m c)⟩
def abb [C:Cz X B k][N:Nb B "int"](d:Gz X "int")(b:S1 X e)(c:ZE X B e f):ZE X B (.Call (.Name "int" p) [e] [] pos) (c1 NZ f):=⟨SG Zn (ctI d (by decide) b Qn qS (vY c.p xN b))⟩
end
end L4
namespace L4
open PySem PySem.Spec PyProof.Rows L2 L3
def WT(f:FE)(lo c:Option Int):FE:=λd=>match f d with
 |some (.ef a,b)=>if HT.i? a.length 0 lo=0/\HT.i? a.length a.length c=a.length then O else U (.ef (p? a lo c),b)
 |_=>O
section
variable{X:Cx}{G:Bg}
set_option tactic.hygienic true
def Q5{lo:Option Int}(h:PE X e (tSl (YD G.K) (tF G f) (tO lo) (tO t))):PE X e (tF G (WT f lo t)):=PE.ea h λC H Q q=>by
 obtain⟨F,w,j,A,x,R,e,k⟩:=q;unfold WT at e;split at e
 .rename_i B y m;split at e
  .cases e
  .rename_i i;cases e;refine⟨F,w,j,_,_,R,m,λv z l s b r=>?_⟩;unfold en at r;obtain⟨a,u,rfl,o,d⟩:=r;rw[uk d]at i;exact⟨a,u,Z,gk.mono b.sub o,i,λp c=>k _ _ _ (s.t (uH (b.fx c) _)) (b.L0 c _) (Et (gk.of uu) (di.mono (uH (b.fx c) _) _ _ (MJ d)))⟩
 .cases e
set_option tactic.hygienic false
def sl_T(hK:X.K=G.K:=by rfl):SlR X (YD G.K):=by rw[<-hK];exact YE
end
section
variable{X:Cx}{B:Bz}{k:Nat}{e:Expr}{f:FE}{p pos:Pos}
def abc{lo:Option Expr}[C:Cz X B k](a:ZE X B e f)(d:ZK X lo l)(b:ZK X c h):ZE X B (.Subscript e (.Slice lo c O p) pos) (WT f l h):=⟨Q5 (Mg (sl_T C.K) a.p d.p b.p)⟩
end
theorem MY{f:Type}[DecidableEq f]:∀{l L:List f},l.Nodup->(∀x∈l,x∈L)->l.length<=L.length
 |[],L,_,_=>cD _
 |a::l,L,i,h=>by have c:=h a bb;have b:=dH.1 i;have:=MY b.2 λx d=>(og (λe:x=a=>b.1 (by rw[<-e];exact d))).2 (h x (ba _ d));rw[nL c]at this;have:=js c;rw[aS];omega
structure Tb(t:bG)(m n:Nat):Prop where
 mask:t.mask=m
 dm:t.dummies=#[]
 pl:t.place.size=n
section
variable{t:bG}{m n:Nat}
theorem Tb.slot(T:Tb t m n)(j:Nat):(∃i,t.slot j=.live i/\t.place[i]?=U j)\/t.slot j=.empty:=by
 unfold SetTable.slot;by_cases h:(t.place[dY t.place j]?==U j)=γ
 .left;simp only[h,if_true];exact⟨_,Z,gj h⟩
 .right;rw[pF]at h;rw[T.dm];simp[h,qC]
def Tb.free(T:Tb t m n)(h:n<=m):∃r,r<=m/\t.slot r=.empty:=by
 apply nI;intro no;have:(aZ (m+1)).length<=t.place.toList.length:=MY pG λr a=>by
  rcases T.slot r with ⟨i,_,e⟩|e
  .rw[<-il]at e;exact b8 e
  .exact ar ⟨r,by have:=bP.1 a;omega,e⟩ no
 rw[cj,bM,T.pl]at this;omega
def rz(t:bG):Nat->fE->Prop
 |0,_=>False
 |f+1,p=>t.slot p.j=.empty\/rz t f (t.advance p)
theorem rz.mono:∀{f a:Nat} {p:fE},rz t f p->f<=a->rz t a p
 |0,_,_,h,_=>h.elim
 |f+1,0,_,_,h=>ar h (by omega)
 |f+1,a+1,p,h,b=>h.imp id λh=>h.mono (by omega)
def rs(m i q:Nat):fE:=⟨i,fD m i - i,i,q,O⟩
def abd(m i:Nat):fD m i - i<=9:=by unfold fD;split<;>omega
theorem rz.run(T:Tb t m n)(h:rz t f (rs m ((i * 5+1+q / 32) % (m+1)) (q / 32))):∀(k j:Nat),rz t (f+k+1) ⟨j,k,i,q,O⟩
 |0,j=>.inr (by
   have e:t.advance ⟨j,0,i,q,O⟩=rs m ((i * 5+1+q / 32) % (m+1)) (q / 32):=by unfold lE SetTable.leap;rw[T.mask];rfl
   rw[e];exact h)
 |k+1,j=>.inr (by
   have e:t.advance ⟨j,k+1,i,q,O⟩=⟨j+1,k,i,q,O⟩:=by unfold lE;rw[ak (mC k)];rfl
   rw[e];exact rz.run T h k (j+1))
def rz.leap(T:Tb t m n)(h:rz t f (rs m ((i * 5+1+q / 32) % (m+1)) (q / 32))):rz t (f+10) (rs m i q):=
 (rz.run T h (fD m i - i) i).mono (by have:=abd m i;omega)
def orb(m:Nat):Nat->Nat->List Nat
 |0,_=>[]
 |k+1,i=>i::orb m k ((i * 5+1) % (m+1))
theorem rz.orb(T:Tb t m n)(a:t.slot r=.empty):∀(k i:Nat),r∈orb m k i->rz t (10 * k) (rs m i 0)
 |0,i,h=>by cases h
 |k+1,i,h=>by
  rcases aJ.1 h with e|h
  .exact rz.mono (f:=1) (.inl (by rw[e]at a;exact a)) (by omega)
  .have:=rz.leap T (q:=0) (rz.orb T a k _ h);exact this.mono (by omega)
def Po(a:m=7\/m=31)(b:i<=m)(c:r<=m):r∈orb m (m+1) i:=by
 have h:∀m∈[7,31],((aZ (m+1)).all λi=>(aZ (m+1)).all λr=>(orb m (m+1) i).contains r)=γ:=by decide +kernel
 have:=aR.1 (aR.1 (h m (by rcases a with rfl|rfl<;>simp)) i (bP.2 (by omega))) r (bP.2 (by omega));exact kP.1 this
theorem rz.all(T:Tb t m n)(c:m=7\/m=31)(d:n<=m):∀(k i q:Nat),i<=m->q<32 ^ k->rz t (10 * (k+(m+1))) (rs m i q)
 |0,i,q,b,a=>by
  obtain⟨r,f,e⟩:=T.free d;have h:=by simpa using a
  rw[h,iO];exact rz.orb T e _ _ (Po c b f)
 |k+1,i,q,b,a=>by have:=rz.leap T (rz.all T c d k ((i * 5+1+q / 32) % (m+1)) (q / 32) (o7 (gh _ (mC m))) (by rw[qD]at a;omega));exact this.mono (by omega)
def rz.start(T:Tb t m n)(b:m=7\/m=31)(c:n<=m)(h:Int):rz t (10 * (m+14)) (t.probeStart h):=by
 have a:cW h<32 ^ 13:=by unfold cW;omega
 have:=rz.all T b c 13 (cW h % (m+1)) (cW h) (o7 (gh _ (mC m))) a;have e:t.probeStart h=rs m (cW h % (m+1)) (cW h):=by unfold SetTable.probeStart;rw[T.mask];rfl
 rw[e];exact this.mono (by omega)
def TH{p:fE}(h:p.dummy=O):(t.advance p).dummy=O:=by unfold lE;split<;>exact h
theorem TJ(T:Tb t m n)(F:Nat->Int)(h:Int):∀(f:Nat) (p:fE),p.dummy=O->rz t f p->∀g,f<=g->(∃j,t.slot j=.empty/\iA t F h g p=U (.empty j O))\/
  ∃j i next c,c<f/\t.slot j=.live i/\t.place[i]?=U j/\F i=h/\iA t F h g p=U (.candidate j i next)/\next.dummy=O/\rz t c next
 |0,p,_,a,g,_=>a.elim
 |f+1,p,hd,a,0,o=>ar o (by omega)
 |f+1,p,hd,a,g+1,o=>by
  unfold iA;rcases T.slot p.j with ⟨i,b,q⟩|b
  .have a:=a.resolve_left λe=>by rw[b]at e;cases e
   rw[b];dsimp only;by_cases d:F i=h
   .right;exact⟨p.j,i,t.advance p,f,dF f,b,q,d,by rw[ak (by rw[d];simp)],TH hd,a⟩
   .rw[aq (by simpa using d)];rcases TJ T F h f (t.advance p) (TH hd) a g (by omega)with l|⟨j,w,x,c,l,r,u⟩
    .exact .inl l
    .exact .inr ⟨j,w,x,c,by omega,r,u⟩
  .left;rw[b];exact⟨p.j,b,by rw[hd]⟩
end
def abe(e:∀i,F i=F' i)(g:Nat)(p:fE):iA t F h g p=iA t F' h g p:=by obtain rfl:F=F':=funext e;rfl
section
variable{prog:aB}{w:az}{A:aG}{E:aa->af->Prop}{s:af}
def IM(b:∀v∈l,∃k a,v=.ref a/\TK prog w s.heap k a)(f:TK prog w s.heap j i)(h:Q δ s):ao (model prog w) A (searchCouldBeSeen (.ref i) l) Q E s:=by
 refine ag ?_;refine lC _ (λfc r d=>r=(O,())/\d=s/\∀v∈fc,∃k a,v=.ref a/\TK prog w s.heap k a) _ ?_ ?_ _ _ ⟨Z,Z,b⟩
 .rintro v fc r d ⟨rfl,rfl,hall⟩;obtain⟨k,a1,rfl,b⟩:=hall v bb;have e:=λu c=>hall u (ba _ c);dsimp only;split
  .exact au ⟨Z,Z,e⟩
  .refine ag (nW f ?_);refine ag (nW b ?_);refine ag (Pf f ?_);refine ag (Pf b ?_);exact au ⟨Z,Z,e⟩
 .rintro r d ⟨rfl,rfl,_⟩;exact au h
structure Els(prog:aB)(w:az)(h:Heap)(L:List (List ey×Addr))(es:Array (Int×aa)):Prop where
 tk:∀q∈L,TK prog w h q.1 q.2
 p:(es.toList.map bI).Perm (L.map λq=>Value.ref q.2)
variable{L:List (List ey×Addr)}{es:Array (Int×aa)}{t:bG}{m n ep:Nat}{S a2:Addr}{k2:List ey}{o:Obj}{h:Int}
theorem MZ(G:A.units<cLine)(T:Tb t m n)(F:m=7\/m=31)(c:t.fits es.size=γ)(l:Els prog w s.heap L es)(B:TK prog w s.heap k2 a2)(H:k2∉L.map cY)
  (z:s.heap.get? S=U o) (hd:o.data=.set es ep t) (hQ:∀j,t.slot j=.empty->Q (.free j δ) s):∀(fuel f:Nat) (st:Option fE),f<fuel->f<=10 * gO m->(st.getD (t.probeStart h)).dummy=O->rz t f (st.getD (t.probeStart h))->
   ao (model prog w) A (setSearchFrom S (.ref a2) h γ fuel st) Q E s
 |0,f,st,C,_,_,_=>ar C (by omega)
 |fuel+1,f,st,C,Y,hdm,b=>by
  have sz:=by unfold iJ at c;rw[aV,beq_iff_eq,T.pl]at c;exact c.1.symm
  refine ag (dj z hd c ?_);dsimp only;rw[aq (by unfold SetTable.gaveWay;rw[T.mask];rcases F with rfl|rfl<;>decide)];unfold SetTable.probe;rw[abe (F':=λi=>(es[i]?.map (·.1)).getD 0),T.mask]
  rotate_left
  .intro i;rfl
  rcases TJ T (λi=>(es[i]?.map (·.1)).getD 0) h f _ hdm b (10 * gO m) Y with ⟨j,I,u⟩|⟨j,i,nx,J,h1,N,P,h4,R,W,X⟩
  .rw[u];exact au (hQ j I)
  .rw[R];dsimp only;have hi:i<es.size:=by rw[sz,<- T.pl];exact(nF.1 P).1
   obtain⟨⟨M,y⟩,d⟩:∃e,es[i]?=U e:=⟨es[i],jm hi⟩;have my:y∈es.toList.map bI:=av.2 ⟨(M,y),by rw[<-il]at d;exact b8 d,Z⟩;obtain⟨q,r,rfl⟩:=av.1 (l.p.mem_iff.1 my);have t1:=l.tk q r;have nk:=λe=>H (av.2 ⟨q,r,e⟩);have si:t.sameMemory t.moves m=U γ:=by unfold SetTable.sameMemory;simp
   have fc:=MZ G T F c l B H z hd hQ fuel J (U nx) (by omega) (by omega) W X;have sb:∀v∈cZ (λx:Int×aa=>x.snd) (Array.filter (λx=>x.fst==h) es).toList,∃k a,v=Value.ref a/\TK prog w s.heap k a:=λv hv=>by
    obtain⟨e,b,rfl⟩:=av.1 hv;have b:=by rw[Array.toList_filter]at b;exact(aT.1 b).1
    obtain⟨q,r,u⟩:=av.1 (l.p.mem_iff.1 (av.2 ⟨e,b,Z⟩));exact⟨q.1,q.2,u.symm,l.tk q r⟩
   cases hb:t.led;refine ag (IM sb B ?_)
   all_goals
    rw[d];refine ag (bL (wpAny_eqBool_tuple G t1 B ?_));refine ag (dj z hd c ?_);rw[bj nk];rw[aq (by decide),si];dsimp only;rw[ak Z,N];dsimp only;rw[d];refine ag (wpAny_isSame_ref_self ?_);refine ag (au ?_);exact fc
end
def Nn(a:Array (Option Nat))(j:Nat):Prop:=(a.getD j (U 0)).isNone=γ
section
variable{ow:Array (Option Nat)}
def abf(i:Nat):0<fD 31 i+1 - i:=by unfold fD;split<;>omega
def Kq:(∃j,Nn ow j/\ee 31 ow (f+1) i q=U j)\/(¬Nn ow i/\ee 31 ow (f+1) i q=ee 31 ow f ((i * 5+1+q / 32) % 32) (q / 32)):=by
 have a:ee 31 ow (f+1) i q=match (aZ (fD 31 i+1 - i)).find? λk=>(ow.getD (i+k) (U 0)).isNone with
  |some k=>U (i+k)
  |none=>ee 31 ow f ((i * 5+1+q / 32) % 32) (q / 32):=rfl
 rw[a];cases e:(aZ (fD 31 i+1 - i)).find? λk=>(ow.getD (i+k) (U 0)).isNone with
 |some k=>exact .inl ⟨i+k,pS (p:=λk=>(ow.getD (i+k) (U 0)).isNone) e,Z⟩
 |none=>refine .inr ⟨λh=>?_,Z⟩;have:=oU.1 e 0 (bP.2 (abf i));exact this h
theorem M0(c:Nn ow r):∀(k f i:Nat),k<=f->r∈orb 31 k i->∃j,Nn ow j/\ee 31 ow f i 0=U j
 |0,f,i,_,h=>by cases h
 |k+1,0,i,b,_=>ar b (by omega)
 |k+1,f+1,i,b,h=>by
  rcases Kq with a|⟨a,d⟩
  .exact a
  .rcases aJ.1 h with e|h
   .exact ar (e▸c) a
   .rw[d];exact M0 c k f _ (by omega) h
theorem M3(e:Nn ow r)(a:r<=31):∀(k f i q:Nat),k+32<=f->i<=31->q<32 ^ k->∃j,Nn ow j/\ee 31 ow f i q=U j
 |0,f,i,q,b,d,c=>by
  have m:=by simpa using c
  rw[m];exact M0 e 32 f i (by omega) (Po (.inr Z) d a)
 |k+1,0,i,q,b,_,_=>ar b (by omega)
 |k+1,f+1,i,q,b,d,c=>by
  rcases Kq with h|⟨_,l⟩
  .exact h
  .rw[l];exact M3 e a k f _ _ (by omega) (by omega) (by rw[qD]at c;omega)
def lv(ow:Array (Option Nat)):List (Nat×Nat):=(aZ 32).filterMap λj=>(ow.getD j O).map (j,·)
def adp(b:ow.size=32)(h:Nn ow j):j<32/\ow.getD j O=O:=by
 unfold Nn at h;by_cases a:j<ow.size
 .refine⟨by omega,?_⟩;rw[gu,jm a]at h ⊢;simpa using h
 .rw[gu,Array.getElem?_eq_none (by omega)]at h;cases h
def abg(q:ow.size=32)(h:Nn ow j):(lv (ow.setIfInBounds j (U k))).Perm ((j,k)::lv ow):=by
 obtain⟨p,e⟩:=adp q h;have get:∀i,(ow.setIfInBounds j (U k)).getD i O=if i=j then U k else ow.getD i O:=λi=>by
  rw[gu,gu,Array.getElem?_setIfInBounds];by_cases c:j=i
  .subst c;rw[ak Z,ak (by omega),ak Z];rfl
  .rw[aq c,aq (λe=>c e.symm)]
 obtain⟨a,b,o⟩:=List.append_of_mem (bP.2 p);have d:(aZ 32).Nodup:=pG;rw[o,cg,dH]at d;unfold lv;rw[o,nX,nX,eB,eB,get j,ak Z,e];have f:∀l:List Nat,j∉l->l.filterMap (λi=>((ow.setIfInBounds j (U k)).getD i O).map (i,·))=l.filterMap λi=>(ow.getD i O).map (i,·):=λl m=>by
  induction l with
  |nil=>rfl
  |cons i l r=>rw[eB,eB,r λz=>m (ba _ z),get i,aq λe=>m (by rw[<-e];exact bb)]
 rw[f a λz=>d.2.2 j z j bb Z,f b d.2.1.1];exact List.perm_middle
theorem TL:∀(b:List Int) (ow:Array (Option Nat)) (k:Nat),ow.size=32->((lv ow).map bI).Perm (aZ k)->k+b.length<=31->∃a,a.size=32/\((lv a).map bI).Perm (aZ (k+b.length))/\
  (b.foldl (λacc h=>do
   let (owner,k)<-acc;let j<-ee 31 owner (gO 31) (cW h % (31+1)) (cW h)
   pure (owner.setIfInBounds j (U k),k+1)) (U (ow,k)))=U (a,k+b.length)
 |[],ow,k,c,d,_=>⟨ow,c,d,Z⟩
 |h::b,ow,k,c,d,o=>by
  rw[aS]at o ⊢;have fr:∃r,r<=31/\Nn ow r:=by
   apply nI;intro no;have len:(lv ow).length=32:=by
    have:∀l:List Nat,(∀j∈l,j<=31)->(l.filterMap λj=>(ow.getD j O).map (j,·)).length=l.length:=λl i=>by
     induction l with
     |nil=>rfl
     |cons j l w=>
      have f:=i j bb;have q:=λe=>no ⟨j,f,e⟩;cases e:ow.getD j O with
      |none=>refine ar ?_ q;unfold Nn;rw[gu,jm (by omega)]at e ⊢;simpa using e
      |some x=>rw[eB,e];show (List.filterMap _ l).length+1=l.length+1;rw[w λz u=>i z (ba _ u)]
    exact(this (aZ 32) λj f=>by have:=bP.1 f;omega).t cj
   have:=d.length_eq;rw[ah,cj,len]at this;omega
  obtain⟨r,t,A⟩:=fr;have p:cW h<32 ^ 13:=by unfold cW;omega
  obtain⟨j,y,m⟩:=M3 A t 13 (gO 31) (cW h % (31+1)) (cW h) (by decide) (by omega) p;obtain⟨a,B,C,q3⟩:=TL b (ow.setIfInBounds j (U k)) (k+1) (by rw[Array.size_setIfInBounds];exact c) (by
   refine((abg c y).map bI).t ?_;rw[aU,pT];exact((List.Perm.cons k d).t (kF k _).symm)) (by omega)
  refine⟨a,B,by rw[show k+(b.length+1)=k+1+b.length by omega];exact C,?_⟩;rw[iF,show k+(b.length+1)=k+1+b.length by omega,<- q3];congr 1;show (ee 31 ow (gO 31) (cW h % (31+1)) (cW h)).bind _=_;rw[m];rfl
def WU(a:Array Int)(i:a.size<=31):∃t order,qu 31 f mv led pl a=U (t,order)/\Tb t 31 a.size/\t.led=led/\t.plain=pl/\order.toList.Perm (aZ a.size):=by
 obtain⟨ow,h,b,c⟩:=TL a.toList (pU 32 O) 0 (by simp) (by
  have:lv (pU 32 O)=[]:=by unfold lv;rw[List.filterMap_eq_nil_iff];intro j d;rw[gu,Array.getElem?_replicate,ak (bP.1 d)];rfl
  rw[this];exact .nil) (by rw[bM];omega)
 rw[iO,bM]at b c;have e:o8 31 a=U ow:=by unfold o8;rw[<-Array.foldl_toList];exact bD (qV cY) c
 refine⟨_,_,by unfold qu;rw[e];rfl,⟨Z,Z,?_⟩,Z,Z,?_⟩
 .have:=b.length_eq;rw[ah,cj]at this;show (cZ _ (lv ow)).toArray.size=_;rw[bc,ah,this]
 .exact b
end
def Cz2(m n:Nat):Prop:=(m=7/\n<=4)\/(m=31/\n<=18)\/(m=127/\19<=n/\n<=63)
section
variable{prog:aB}{w:az}{A:aG}{E:aa->af->Prop}{s:af}
theorem TM(d:TK prog w s.heap (Sum.inr x::p) a)(h:Q δ s):ao (model prog w) A (hashByValue 8 (.ref a)) Q E s:=by
 have hT:=d.typeIs;obtain⟨o,items,n,i,_,hd,c⟩:=d;refine ag (gL hT F.slot_tuple_hash.lookup ?_);refine ag (lZ i hd ?_);refine ag ?_;show ao _ _ (forIn items _ _) _ _ s;rw[<-oO];generalize items.toList=l at c ⊢;cases c with
 |@cons _ v _ j f m=>
  obtain⟨t,rfl⟩:∃t,v=.str x t:=Ph f;refine lC _ (λfc r b=>b=s/\∃u,fc=.str x t::u) _ ?_ ?_ _ _ ⟨Z,j,Z⟩
  .rintro v fc r b ⟨rfl,u,e⟩;cases e;refine ag (au ?_);exact au (au h)
  .rintro r b ⟨rfl,u,e⟩;cases e
variable{L:List (List ey×Addr)}{es:Array (Int×aa)}{t:bG}{m n ep:Nat}{S a2:Addr}{k2:List ey}{o:Obj}{h:Int}
def TN(j:t.mask=7)(a:s.heap.get? S=U o)(hd:o.data=.set es ep t)(hf:t.fits es.size=γ)(h5:es.size=5)
  (hQ:∀h' es' t',dO S s.heap h'->h'.get? S=U { o with data:=.set es' (ep+1) t' }->Tb t' 31 5->t'.led=t.led->t'.plain=t.plain->es'.toList.Perm es.toList->Q () { s with heap:=h' }):ao (model prog w) A (setRelay S (dZ 5)) Q E s:=by
 refine ag (dj a hd hf ?_);dsimp only;rw[aq (by rw[bV];decide)];obtain⟨t',order,d,T,e,f,b⟩:=WU (es.map (·.1)) (by rw[qg];omega)
 rw[qg]at T b;have c:(order.filterMap (es[·]?)).toList.Perm es.toList:=by rw[Array.toList_filterMap];exact(b.filterMap _).t (by rw[kJ])
 have i:t.relaid (es.map (·.1)) (dZ 5)=U (t',order):=d
 rw[i];have sz:=by have:=c.length_eq;rw[bM,bM]at this;exact this
 refine ag ?_;wp_delta;rw[aq (by rw[sz];simp)];refine au ?_;refine jG a hd ?_ (by show (order.filterMap (es[·]?)).size<=aC;rw[sz,bV];omega)
 exact hQ _ _ _ (dB ..) (N9 a hd) (by rw[h5]at T;exact T) e f c
set_option tactic.hygienic true
def add_n(J:A.units<cLine)(T:Tb t m n)(b:Cz2 m n)(P:n<=8)(hf:t.fits es.size=γ)(l:Els prog w s.heap L es)(y:TK prog w s.heap (Sum.inr x::k2) a2)(ne:(Sum.inr x::k2)∉L.map cY)
  (c:s.heap.get? S=U o) (hd:o.data=.set es ep t)
  (hQ:∀h' es' t' i u,dO S s.heap h'->h'.get? S=U { o with data:=.set es' i t' }->Tb t' u (n+1)->Cz2 u (n+1)->t'.led=t.led->t'.plain=δ->(es'.toList.map bI).Perm (.ref a2::es.toList.map bI)->Q γ { s with heap:=h' }):
  ao (model prog w) A (setAddHashed S (.ref a2) h) Q E s:=by
 have b:(m=7/\n<=4)\/(m=31/\n<=9):=by unfold Cz2 at b;omega
 have hm:=b.imp And.left And.left;have sz:=by unfold iJ at hf;rw[aV,beq_iff_eq,T.pl]at hf;exact hf.1.symm
 refine bL (ag (dj c hd hf ?_));dsimp only;rw[aq (by simp[byScan,Value.scannable])];have nm:n<=m:=by rcases b with ⟨rfl,h⟩|⟨rfl,h⟩<;>omega
 refine ag (MZ J T hm hf l y ne c hd (λj R=>?_) 100000 (10 * (m+14)) O (by rcases hm with rfl|rfl<;>decide) (by unfold gO;omega) Z (rz.start T hm nm h));refine ag (dj c hd hf ?_);have M:=T.mask;have p2:(t.put j).1.dummies=#[]:=by show (if qC t.dummies j then _ else t.dummies)=_;rw[T.dm];rfl
 have p3:=by have:=(nT t.place (dY t.place j) j).length_eq;rw[bM,bM,Array.size_push,T.pl]at this;exact this
 have p:(jH es (t.put j).2 (h,Value.ref a2)).toList.Perm ((h,.ref a2)::es.toList):=by refine(nT es _ _).t ?_;rw[lu];exact kF _ _
 have q:=by have:=p.length_eq;rw[bM,aS,bM,sz]at this;exact this
 let d:={ (t.put j).1 with plain:=δ };have a:Tb d m (n+1):=⟨M,p2,p3⟩;have I:d.fits (jH es (t.put j).2 (h,Value.ref a2)).size=γ:=by unfold iJ mh;rw[q,a.pl,a.dm,a.mask,aV];exact⟨by simp,br (by rcases b with ⟨rfl,h⟩|⟨rfl,h⟩<;>simp<;>omega)⟩
 have fin:∀f:bG,f=d->ao (model prog w) A (do
   storeSet S (jH es (t.put j).2 (h,.ref a2)) f
   if (!δ&&f.tooFull)=γ then do setRelay S (dZ (es.size+1));pure γ else pure γ) Q E s:=λf e=>by
  subst e;refine ag (jG c hd ?_ (by rw[q,bV];omega));have g1:=N9 (es':=jH es (t.put j).2 (h,Value.ref a2)) (t':=d) c hd;have N:d.tooFull=decide ((n+1) * 5 >= m * 3):=by unfold SetTable.tooFull mh;rw[a.pl,a.dm,a.mask];rfl
  rw[N];by_cases h5:(n+1) * 5 >= m * 3
  .rw[br h5,ak (by decide)];obtain⟨rfl,rfl⟩:m=7/\n=4:=by rcases b with ⟨rfl,h⟩|⟨rfl,h⟩<;>omega
   rw[sz];refine ag (TN a.mask g1 Z I q λh' es' t' z B C F G H=>?_);refine au (hQ h' es' t' _ 31 ((dB ..).t z) B C (.inr (.inl ⟨Z,by decide⟩)) F G ?_);exact(H.map _).t (p.map _)
  .rw[bj h5,aq (by decide)];refine au (hQ _ _ _ _ m (dB ..) g1 a ?_ Z Z (p.map _));rcases b with ⟨rfl,h⟩|⟨rfl,h⟩
   .exact .inl ⟨Z,by omega⟩
   .exact .inr (.inl ⟨Z,by omega⟩)
 split
 .refine ag (TM y ?_);exact fin _ Z
 .rename_i r;refine ag (au (fin _ ?_));rw[pF]at r;rw[ak Z];show (t.put j).1={ (t.put j).1 with plain:=δ };rw[<-r]
end
set_option tactic.hygienic false
structure Lv(h:Heap)(S:Addr)(L:List (List ey×Addr))(led:Bool)(n:Nat)(o:Obj)(es:Array (Int×aa))(ep:Nat)(t:bG):Prop where
 i2:h.get? S=U o
 ex:o.ExactSet
 d:o.data=.set es ep t
 c:∃m,Tb t m n/\Cz2 m n
 led:t.led=led
 pl:0<n->t.plain=δ
 p:(es.toList.map bI).Perm (L.map λq=>Value.ref q.2)
def Lv.sz{h:Heap}{S:Addr}{L:List (List ey×Addr)}{led:Bool}{n:Nat}{o:Obj}{es:Array (Int×aa)}{ep:Nat}{t:bG}(x:Lv h S L led n o es ep t):es.size=L.length:=by have:=x.p.length_eq;rw[ah,ah,bM]at this;exact this
theorem Lv.fits{h:Heap}{S:Addr}{L:List (List ey×Addr)}{led:Bool}{n:Nat}{o:Obj}{a:Array (Int×aa)}{b:Nat}{t:bG}(x:Lv h S L led n o a b t)(d:L.length=n):t.fits a.size=γ:=by obtain⟨m,T,c⟩:=x.c;unfold iJ mh;rw[x.sz,d,T.pl,T.dm,T.mask,aV];exact⟨by simp,br (by unfold Cz2 at c;simp;omega)⟩
section
variable{prog:aB}{w:az}{A:aG}{R:eL->af->Prop}{I:Addr}{fp wr:List Addr}{GG:Array gm->Array gm->Prop}{n:Nat}{PP:Nat->aa->Prop}{SS:Nat->af->Prop}
def Q6(W:WalksS prog w A.in1 I fp wr GG n PP SS){S:Addr}{led:Bool}(hSf:S∉fp)(M:A.in1.units<cLine)(L:List (List ey×Addr))(hn:L.length=n)(h8:n<=8)(nd:(L.map cY).Nodup)(hk:∀q∈L,∃x k,q.1=Sum.inr x::k)(far:∀q∈L,q.2∉S::wr)
  (hval:∀i v,PP i v->∃q,L[i]?=U q/\v=.ref q.2):∀(k i:Nat) (s:af) (o:Obj) (es:Array (Int×aa)) (ep:Nat) (t:bG),n - i=k->i<=n->SS i s->(∀q∈L,TK prog w s.heap q.1 q.2)->Lv s.heap S (L.take i) led i o es ep t->
   (∀s' o es ep t,Moved (S::wr) GG s s'->Lv s'.heap S L led n o es ep t->R (.ok (.ret .none)) s')->
   cy (model prog w) A (.builtin "set.update.loop" ⟨[.ref S,.ref I],[]⟩) R s:=by
 have hSw:=λz=>hSf ((W).sub _ z);have up:∀b∈wr,b∈S::wr:=λb z=>ba _ z;intro k
 induction k with
 |zero=>
  intro i s o es ep t C hi hst tk x hR;obtain rfl:i=n:=by omega
  refine dM gw ?_;rw[eA dW _];refine ag (W.done s _ _ hst λs' hm=>?_);rw[ik (by omega)]at x;exact au (hR s' o es ep t (hm.mono up) { x with i2:=hm.heap S _ hSw x.i2 })
 |succ k ih=>
  intro i s o es ep t C hi hst tk x hR;have hlt:i<n:=by omega
  refine dM gw ?_;rw[eA dW _];refine ag (W.item i s _ _ hlt hst λv s' hP hst' hm=>?_);obtain⟨q,G,rfl⟩:=hval i v hP;have E:=b8 G;have a:=λq J=>(tk q J).f? λo=>hm.heap q.2 o λz=>far q J (up _ z);refine ag (bL ?_);unfold setAdd;refine bL ?_;refine ag (wpAny_pyHash_tuple M (a q E) ?_);obtain⟨m,T,c⟩:=x.c;obtain⟨z,kk,H⟩:=hk q E;have tq:TK prog w s'.heap (Sum.inr z::kk) q.2:=by rw[<-H];exact a q E
  have split:L.take (i+1)=L.take i++[q]:=by rw[jD,G];rfl
  have ne:=λw'=>by have h1:((L.take (i+1)).map cY).Nodup:=nd.sublist ((ix _ _).map _);rw[split,bu,cg]at h1;exact h1.2.2 _ w' _ (bh.2 H.symm) Z
  have sub:∀r∈L.take i,r∈L:=λr hr=>(ix _ _).subset hr;have j:={ x with i2:=hm.heap S _ hSw x.i2 };refine add_n M T c (by omega) (j.fits (by rw[bU];omega)) ⟨λr hr=>a r (sub r hr),j.p⟩ tq ne j.i2 j.d λh' es' N f m' l P Q X Y b6 b7=>?_;have y:Lv h' S (L.take (i+1)) led (i+1) { o with data:=.set es' f N } es' f N:=by refine⟨P,x.ex,Z,⟨m',Q,X⟩,Y.t x.led,λg=>b6,b7.t ?_⟩;rw[split,bu];exact(List.Perm.cons _ x.p).t (kF _ _).symm
  refine au ⟨fY dW _,ih (i+1) _ _ _ _ _ (by omega) hlt (W.frame _ s' h' _ hst' (gG _ _) λb z o e=>?_) (λr hr=>(a r hr).f? λo e=>?_) y λF o2 B u t2 h x2=>?_⟩
  .rw[l.2 b (λy:b=S=>hSf (by rw[<-y];exact z))];exact e
  .rw[l.2 r.2 (λy:r.2=S=>far r hr (by rw[y];exact bb))];exact e
  .refine hR F o2 B u t2 (jR W.gtrans ((hm.mono up).then_heap (gG _ _) λb o z e=>?_) h) x2;rw[l.2 b (λy:b=S=>z (by rw[y];exact bb))];exact e
end
theorem Lw{b:Type}:∀(l:List b) (j:Nat) (x:b),l[j]?=U x->(x::l.eraseIdx j).Perm l
 |[],j,x,h=>by cases h
 |a::l,0,x,h=>by cases h;exact .refl _
 |a::l,j+1,x,h=>(List.Perm.swap a x _).t (List.Perm.cons a (Lw l j x h))
theorem Pp{b:Type}(a:Nat->Nat):∀(f k:Nat) (l:List b) (out:Array b),l.length=f->(qE a f k l out).toList.Perm (out.toList++l)
 |0,k,l,out,h=>by obtain rfl:=jq.1 h;rw[bO];exact .refl _
 |f+1,k,l,out,h=>by have hlt:a k % l.length<l.length:=gh _ (by omega);have e:l[a k % l.length]?=U l[a k % l.length]:=bg hlt;unfold qE;rw[e];refine(Pp a f (k+1) _ _ (by rw[oh,ak hlt];omega)).t ?_;rw[lu,cp];exact List.Perm.append_left _ (Lw l _ _ e)
def Kr{c:Type}(b:Nat->Nat)(a:Array c):(pickOrder b a).toList.Perm a.toList:=Pp b a.size 0 a.toList #[] bM
section
variable{prog:aB}{w:az}{A:aG}{E:aa->af->Prop}{s:af}
def WV(hn:n≠0)(h:∀i d,i<n->Q i { s with drawn:=d }):ao (model prog w) A (choose src n) Q E s:=λΓ p hΓ=>by show Sem.wp _ Γ (.choose src n .pure) _ _ p s;rw[Sem.wp_choose];exact⟨hn,h _ _ (gh _ (Nat.pos_of_ne_zero hn))⟩
theorem Pq{f:Type}:∀(n:Nat) (xs:List f) (s:af) {Q:List f->af->Prop},xs.length=n->(∀c d,c.Perm xs->Q c { s with drawn:=d })->ao (model prog w) A (drawOrder n xs) Q E s
 |0,xs,s,Q,b,h=>by obtain rfl:=jq.1 b;unfold drawOrder;exact au (h [] s.drawn (.refl _))
 |n+1,[],s,Q,b,h=>by cases b
 |n+1,a::xs,s,Q,b,h=>by unfold drawOrder;refine ag (WV (by simp) λi d hi=>?_);have e:(a::xs)[i]?=U (a::xs)[i]:=bg hi;rw[e];refine ag (Pq n _ _ (by rw[oh,ak hi];omega) λc j p=>?_);exact au (h _ j ((List.Perm.cons _ p).t (Lw _ _ _ e)))
end
def yh:Slot "set_iterator" "__next__" "set_iterator.__next__" :=
 .of (owner:="set_iterator") (n:="__next__") (by rw[pV,nY];kernel_rfl) (by decide +kernel) (by decide +kernel) (by decide +kernel)
  (by first|exact .inl (by decide +kernel)|exact .inr (by decide +kernel)) (by rw[jL];kernel_rfl)
def EO:Slot "set_iterator" "__iter__" "set_iterator.__iter__" :=
 .of (owner:="set_iterator") (n:="__iter__") (by rw[pV,nY];kernel_rfl) (by decide +kernel) (by decide +kernel) (by decide +kernel)
  (by first|exact .inl (by decide +kernel)|exact .inr (by decide +kernel)) (by rw[jL];kernel_rfl)
def JO:entryFor table "set_iterator.__next__" = U dQ.«set_iterator.__next__»:=entryFor_of_tree (by kernel_rfl)
def M4:Manifest.owners.lookup (String.ofList ['r','o','t','a','r','e','t','i','_','t','e','s'].reverse)=U Manifest.sig_set_iterator:=by kernel_rfl
def Lx(a:aa):argsOk "set_iterator.__next__" ⟨[a],[]⟩:=by unfold argsOk;rw[qv (id:="set_iterator.__next__") (n:=['_','_','t','x','e','n','_','_']) (o:=['r','o','t','a','r','e','t','i','_','t','e','s']) (by kernel_rfl) M4];kernel_rfl
def Ly:entryFor table "set.__iter__" = U dQ.«frozenset.__iter__»:=qh (id':="frozenset.__iter__") (by kernel_rfl) Z (by decide +kernel) (by kernel_rfl)
inductive Md(w:az) (h:Heap) (S TP:Addr) (i:Nat) (ki:List aa) (es:Array (Int×aa)) (ep:Nat) (t:bG):aa->Prop
 |txt {sl:Int} {tk:Tok}:w.params.followText "set-order" = γ->ki=(pickOrder (w.params.setOrder S ep) es).toList.map bI->Md w h S TP i ki es ep t (.int sl tk)
 |drw {ps:List Nat} {vs:Array aa} {ot:Obj} {nt:Nat}:w.params.followText "set-order" = δ->h.get? TP=U ot->ot.cls=.type "tuple" -> ot.data=.seq vs nt->vs=(ps.map λp:Nat=>rawInt p).toArray->ps.Perm (aZ es.size)->ki=ps.filterMap (λp=>es[p]?.map bI)->Md w h S TP i ki es ep t (.ref TP)
 |one {sl:Int}:w.params.followText "set-order" = δ->es.size<=1->t.led=γ->(i=0->sl=0)->(∀j,i=1->t.place=#[j]->sl=(j+1:Nat))->ki=es.toList.map bI->Md w h S TP i ki es ep t (.int sl 0)
structure ItS(w:az)(I S TP:Addr)(ki:List aa)(o:Obj)(es:Array (Int×aa))(ep:Nat)(t:bG)(i:Nat)(h:Heap):Prop where
 it:∃oi first,h.get? I=U oi/\oi.cls=.type "set_iterator" /\ oi.data=.fields #[first,.int i 0,.ref S,.int es.size 0,.int ep 0]/\Md w h S TP i ki es ep t first
 i2:h.get? S=U o
 d:o.data=.set es ep t
 f:t.fits es.size=γ
section
variable{prog:aB}{w:az}{A:aG}{E:aa->af->Prop}{s:af}{I S TP:Addr}{ki:List aa}{o:Obj}{es:Array (Int×aa)}{ep:Nat}{t:bG}{i:Nat}
def FV(h:Q (w.params.followText "set-order") s):ao (model prog w) A setsByText Q E s:=by exact ag (lD (au h))
def Ol(x:ItS w I S TP ki o es ep t i s.heap)(M:Md w s.heap S TP i ki es ep t (.int y P))(H:i<=1\/w.params.followText "set-order" = γ)
  (hQ:∀(v:aa) (u:Nat),ki[i]?=U v->Md w s.heap S TP (i+1) ki es ep t (.int u 0)->Q (U (v,u)) s) (hN:ki[i]?=O->Q O s):ao (model prog w) A (setNext S y.toNat i ep) Q E s:=by
 refine ag (dj x.i2 x.d x.f ?_);refine ag (FV ?_);cases M with
 |txt a b=>
  rw[a,ak Z];rw[aq (by simp)];refine ag ?_;refine ag (dj x.i2 x.d x.f ?_);refine ag (FV ?_);rw[a,ak Z];refine ag (lD ?_);refine au ?_;refine au ?_;show Q (qV (λe=>(e.snd,y.toNat)) (pickOrder (w.params.setOrder S ep) es)[i]?) s;have e:ki[i]?=((pickOrder (w.params.setOrder S ep) es)[i]?).map bI:=by rw[b,bA,il]
  cases r:(pickOrder (w.params.setOrder S ep) es)[i]? with
  |none=>rw[r]at e;exact hN e
  |some q=>rw[r]at e;exact hQ q.2 _ e (.txt a b)
 |one a b p C F h=>
  have fs:=by have:=x.f;unfold iJ at this;rw[aV,beq_iff_eq]at this;exact this.1
  rw[a,aq (by decide)];rw[aq (λG=>by
   have:(!t.plain&&decide (es.size > 1))=γ:=G;simp at this;omega)]
  refine ag ?_;wp_delta;rw[aq (by rw[p];simp)];refine au ?_;refine au ?_;have c:es.size=0\/es.size=1:=by omega
  rcases c with c|c
  .have B:=Array.eq_empty_of_size_eq_zero c;subst B;exact hN (by rw[h];rfl)
  .obtain⟨e,rfl⟩:=nZ.1 c;obtain⟨j,l⟩:=nZ.1 (fs.t c);rw[l];have J:=H.resolve_right λe=>by rw[a]at e;cases e
   have:i=0\/i=1:=by omega
   rcases this with rfl|rfl
   .rw[C Z];show Q (match #[e][dY #[j] 0]?,#[j][dY #[j] 0]? with|some (_,x),U j=>U (x,j+1)|_,_=>O) s;rw[show dY #[j] 0=0 from by simp[dY,o9]];exact hQ e.2 (j+1) (by rw[h];rfl) (.one a b p (λz=>by cases z) (λN n m=>by rw[l]at m;cases m;rfl) h)
   .rw[F j Z l];show Q (match #[e][dY #[j] (j+1)]?,#[j][dY #[j] (j+1)]? with|some (_,x),U j=>U (x,j+1)|_,_=>O) s;rw[show dY #[j] (j+1)=1 from by simp[dY,o9]];exact hN (by rw[h];rfl)
def ItS.ty(x:ItS w I S TP ki o es ep t i s.heap):s.TypeIs (.ref I) "set_iterator" := let ⟨⟨c,_,a,b,_⟩,_,_,_⟩:=x;⟨c,a,b⟩
def ItS.ordlen(x:ItS w I S TP ki o es ep t i s.heap):ki.length=es.size:=by
 obtain⟨⟨l,first,_,_,_,j⟩,_,_,_⟩:=x;cases j with
 |txt c a=>rw[a,ah,(Kr _ es).length_eq,bM]
 |drw c a d e f b h=>rw[h,(b.filterMap _).length_eq];have:=kJ es;rw[show (aZ es.size).filterMap (λp=>es[p]?.map bI)=((aZ es.size).filterMap λp=>es[p]?).map bI from(oV ..).symm,this,ah,bM]
 |one c a d e f b=>rw[b,ah,bM]
theorem TQ{b d:Type}(f:b->Option d):∀(a:List b),(∀p∈a,∃v,f p=U v)->∀i:Nat,(a.filterMap f)[i]?=a[i]?.bind f
 |[],_,i=>rfl
 |p::a,h,i=>by
  obtain⟨v,e⟩:=h p bb;rw[eB,e];cases i with
  |zero=>show U v=f p;rw[e]
  |succ i=>exact TQ f a (λq c=>h q (ba _ c)) i
def Md.mv(m:Md w h S TP i ki es ep t (.int j l)):Md w p S TP i ki es ep t (.int j l):=by
 cases m with
 |txt a b=>exact .txt a b
 |one a b c d e f=>exact .one a b c d e f
def Pt{B:aG}{R:Fin->af->Prop}{a:af}{Q:Option aa->af->Prop}(c:B.handled=O)(hN:∀h',(∀b o,a.heap.get? b=U o->h'.get? b=U o)->Q O { a with heap:=h' }):
  ao (model prog w) B (do let e<-newExc (.type "StopIteration") [];raiseNew e) R (λe s'=>ao (model prog w) A (do if<-isInstance e (.type "StopIteration")then pure O else throw e) Q E s') a:=by
 refine ag ?_;simp only[newExc,newTuple];refine ag (dX ?_ (by size_fits));refine ag (wpAny_of_eq (by first|rfl|(simp only[firstArgMember];rfl)) ?_);refine dX ?_ (by size_fits);simp only[raiseNew];refine ag (wpAny_handled ?_);rw[c];refine ag (au (wpAny_throw ?_));refine ag (pH ⟨_,bp _ Z,Z⟩ isSubtype_stop ?_);exact au (hN _ λb o e=>aK _ (aK _ e))
def TR(B:A.handled=O)(x:ItS w I S TP ki o es ep t i s.heap)(hi:i<=ki.length)(hS:S≠I)(hT:TP≠I)
  (hQ:∀v h',ki[i]?=U v->dO I s.heap h'->ItS w I S TP ki o es ep t (i+1) h'->Q (U v) { s with heap:=h' }) (hN:∀h',ki[i]?=O->qT I s.heap h'->Q O { s with heap:=h' }):
  ao (model prog w) A (pyNext (.ref I)) Q E s:=by
 have G:=x.ordlen;obtain⟨F,first,hoi,hci,hdi,hm⟩:=x.it;refine ag (mi (nN x.ty yh (fS yh x.ty JO ?_ (Lx _))));show ao _ _ (fieldsOf (.ref I)>>=_) _ _ s;refine ag (wpAny_fieldsOf hoi hdi ?_);refine ag ?_;refine ag (dj x.i2 x.d x.f ?_);refine au ?_;rw[aq (by simp)];simp only[iy];have byint:∀(sl:Int) (tk:Tok),first=.int sl tk->(i<=1\/w.params.followText "set-order" = γ)->ao (model prog w) A.in1 (do
   let r<-setNext S sl.toNat i ep
   match r with
    |some (x,next)=>do
     setField (Value.ref I) 0 (rawInt ↑next)
     setField (Value.ref I) 1 (rawInt (↑i+1))
     ret x
    |none=>do
     setField (Value.ref I) 2 Value.none
     let e<-newExc (Value.type "StopIteration") []
     raiseNew e) (λfin s'=>∃v,fin=Fin.done (Flow.ret v)/\ao (model prog w) A (pure (U v)) Q E s') (λe s'=>ao (model prog w) A (do if<-isInstance e (.type "StopIteration")then pure O else throw e) Q E s') s:=λsl tk e y=>by
  subst e;refine ag (Ol x hm y (λv nx a m=>?_) λa=>?_)
  .refine ag (gQ hoi hdi (by simp) ?_);have g1:=eX (fZ (·.setIfInBounds 0 (rawInt (nx:Int)))) hoi (ju (fo hdi _))
   have d1:=fo hdi (·.setIfInBounds 0 (rawInt (nx:Int)))
   refine ag (gQ g1 d1 (by simp) ?_);have g2:=eX (fZ (·.setIfInBounds 1 (rawInt ((i:Int)+1)))) g1 (ju (fo d1 _))
   have d2:=fo d1 (·.setIfInBounds 1 (rawInt ((i:Int)+1)))
   have h:=(dB s.heap I (fZ (·.setIfInBounds 0 (rawInt (nx:Int))))).t (dB _ I (fZ (·.setIfInBounds 1 (rawInt ((i:Int)+1)))))
   refine au ⟨v,Z,au (hQ v _ a h ⟨⟨_,.int nx 0,g2,(ly ..).t ((ly ..).t hci),?_,m.mv⟩,?_,x.d,x.f⟩)⟩
   .rw[d2];simp[rawInt]
   .rw[h.2 S hS];exact x.i2
  .refine ag (gQ hoi hdi (by simp) ?_);exact Pt (by simp[B]) λh' k=>hN h' a λb o hb e=>k b o (by rw[(dB ..).2 b hb];exact e)
 cases hm with
 |txt h1 h2=>exact byint _ _ Z (.inr h1)
 |one h1 h2 h3 h4 h5 h6=>exact byint _ _ Z (.inl (by omega))
 |@drw ps vs ot nt h1 h2 h3 h4 h5 h6 h7=>
  refine ag (lZ h2 h4 ?_);have z:∀p∈ps,∃v,(es[p]?.map bI)=U v:=λp C=>by have:=bP.1 (h6.mem_iff.1 C);exact⟨es[p].2,by rw[jm this];rfl⟩
  have j:ki[i]?=ps[i]?.bind λp=>es[p]?.map bI:=by rw[h7];exact TQ _ ps z i
  have a:vs[i]?=ps[i]?.map λp:Nat=>rawInt p:=by rw[h5,jt,bA]
  cases c:ps[i]? with
  |none=>
   rw[c]at a j;dsimp only;rw[a];refine ag (gQ hoi hdi (by simp) ?_);have g1:=eX (fZ (·.setIfInBounds 0 (rawInt 0))) hoi (ju (fo hdi _))
   have d1:=fo hdi (·.setIfInBounds 0 (rawInt 0))
   refine ag (gQ g1 d1 (by simp) ?_);exact Pt (by simp[B]) λh' k=>hN h' j λb o hb e=>k b o (by rw[(dB ..).2 b hb,(dB ..).2 b hb];exact e)
  |some p=>
   rw[c]at a j;obtain⟨v,l⟩:=z p (b8 c);dsimp only;rw[a];show ao _ _ (setNextDrawn S (p:Int).toNat ep>>=_) _ _ s;rw[iy];refine ag ?_;refine ag (dj x.i2 x.d x.f ?_);dsimp only;rw[aq (by simp)];cases u:es[p]? with
   |none=>rw[u]at l;cases l
   |some q=>
    rw[u]at l;refine au ?_;refine ag (gQ hoi hdi (by simp) ?_);have g1:=eX (fZ (·.setIfInBounds 1 (rawInt ((i:Int)+1)))) hoi (ju (fo hdi _))
    have d1:=fo hdi (·.setIfInBounds 1 (rawInt ((i:Int)+1)))
    have h:=dB s.heap I (fZ (·.setIfInBounds 1 (rawInt ((i:Int)+1))))
    refine au ⟨_,Z,au (hQ _ _ (by rw[j];show es[p]?.map bI=_;rw[u];rfl) h ⟨⟨_,.ref TP,g1,(ly ..).t hci,?_,.drw h1 (by rw[h.2 TP hT];exact h2) h3 h4 h5 h6 h7⟩,?_,x.d,x.f⟩)⟩
    .rw[d1];simp[rawInt]
    .rw[h.2 S hS];exact x.i2
end
def JP:entryFor table "set_iterator.__iter__" = U dQ.«dict_keyiterator.__iter__»:=qh (id':="dict_keyiterator.__iter__") (by kernel_rfl) Z (by decide +kernel) (by kernel_rfl)
def LA(a:aa):argsOk "set_iterator.__iter__" ⟨[a],[]⟩:=by unfold argsOk;rw[qv (id:="set_iterator.__iter__") (n:=['_','_','r','e','t','i','_','_']) (o:=['r','o','t','a','r','e','t','i','_','t','e','s']) (by kernel_rfl) M4];kernel_rfl
section
variable{prog:aB}{w:az}{A:aG}{E:aa->af->Prop}{s:af}{I S TP:Addr}{ki:List aa}{o:Obj}{es:Array (Int×aa)}{ep:Nat}{t:bG}
def Md.at{h':Heap}(m:Md w h S TP i ki es ep t f)(k:∀o,h.get? TP=U o->h'.get? TP=U o):Md w h' S TP i ki es ep t f:=by
 cases m with
 |txt a b=>exact .txt a b
 |one a b c d e j=>exact .one a b c d e j
 |drw a b c d e j l=>exact .drw a (k _ b) c d e j l
def abh(j:A.handled=O)(hS:S≠I)(hT:TP≠I):Walks prog w A I [I,S,TP] [I] ki.length (λi v=>ki[i]?=U v) (λi h=>ItS w I S TP ki o es ep t i h/\i<=ki.length) where
 sub:=λb hb=>by simp at hb;simp[hb]
 frame:=λi h h' st c=>by obtain⟨⟨⟨l,f,h1,h2,h3,hm⟩,h4,h5,h6⟩,h7⟩:=st;exact⟨⟨⟨l,f,c I (by simp) _ h1,h2,h3,hm.at λo e=>c TP (by simp) o e⟩,c S (by simp) _ h4,h5,h6⟩,h7⟩
 item:=λi s Q E hi st hQ=>TR j st.1 st.2 hS hT (λv h' a m x=>hQ v h' s.toks a ⟨x,by omega⟩ λb o hb e=>by rw[m.2 b λz=>hb (by simp[z])];exact e) λh' d u=>by rw[bg hi]at d;cases d
 done:=λs Q E st hQ=>TR j st.1 st.2 hS hT (λv h' a u u=>by rw[gz (aL _)]at a;cases a) λh' u k=>hQ h' s.toks λb o hb e=>k b o (λz=>hb (by simp[z])) e
 self:=λi s Q E st h=>by refine pb st.1.ty EO (fS EO st.1.ty JP ?_ (LA _));show ao _ _ (ret (.ref I)) _ _ s;exact au ⟨_,Z,"set_iterator", _,st.1.ty,yh.lookup,h⟩
end
end L4
namespace L4
open PySem PySem.Spec PySem.Calls PyProof.Rows PySem.W L2 L3
section
variable{prog:aB}{w:az}{A:aG}{E:aa->af->Prop}{s:af}
abbrev TkS(k:aE):List ey:=k.map Sum.inr
end
section
variable{X:Cx}{G:Bg}{H:Hp}{pins:cA}{σ:St}{s:af}
def dr.drw(I:dr X pins σ H s)(d:Drawn):dr X pins σ H { s with drawn:=d }:=⟨I.ok,I.os,I.gi,I.b?,I.C',I.cell,I.free,I.ke,I.C?,I.fb,I.len⟩
def setP{A:aG}{L:List (aE×Addr)}(I:dr X pins σ H s)(hh:A.handled=O)(hu:A.units+8<cLine)(c:f5 X.K H a (L.map λq=>V.ref q.2))(h8:L.length<=8)(nd:(L.map cY).Nodup)
  (M:∀q∈L,∃p r,q.1=[p,r]/\gk X.K H q.2 [.str p,.str r])
  (h:∀h2 k2 o es ep t,Lv h2 s.heap.objs.size (L.map λq=>(TkS q.1,q.2)) (!X.w.params.followText "set-order") L.length o es ep t->(∀b o,b<s.heap.objs.size->s.heap.get? b=U o->h2.get? b=U o)->Q (.ref s.heap.objs.size) { s with heap:=h2,toks:=k2 }):
  ao (model X.prog X.w) A (call (.type "set") [.ref a]) Q E s:=by
 have h3:A.in1.in1.in1.handled=O:=by simp[hh]
 obtain⟨d,r,pp,_⟩:=I.list c;obtain⟨o,j,B,n,hd⟩:=pp.isList;have hne:=aW (eF (aP j));have tk:∀q∈L,TK X.prog X.w s.heap (TkS q.1) q.2:=λq c=>by obtain⟨p,r,e,h1⟩:=M q c;rw[e];exact ac9 I h1
 have F:=by have:=r.length;rw[ah]at this;exact this
 have Y:∀(i:Nat) (v:aa),d[i]?=U v->∃q,L[i]?=U q/\v=.ref q.2:=λi v e=>by
  have hi:i<L.length:=by rw[F];exact(bR.1 e).1
  obtain⟨u,f,ru⟩:=r.get (by rw[bA,bg hi];rfl);rw[e]at f;cases f;exact⟨L[i],bg hi,ru⟩
 have notin:s.heap.objs.size∉[s.heap.objs.size+1,a]:=by
  intro z;rcases aJ.1 z with z|z
  .exact ar z (aW (dF _))
  .exact ar (bh.1 z) (f7 (aP j))
 let PS:=λh2=>∃o es ep t,Lv h2 s.heap.objs.size (L.map λq=>(TkS q.1,q.2)) (!X.w.params.followText "set-order") L.length o es ep t;refine EH (PS:=PS) j B l3 kT (by decide)
  (λA Q E s1 e k=>fP ⟨o,e,B,n,hd⟩ k) (λtk' R hR=>?_) λh2 k2 ⟨o,es,ep,t,x⟩ kk=>h h2 k2 o es ep t x kk
 have C:∀{b:Addr} {N:Obj},s.heap.get? b=U N->((s.heap.push (zA (!X.w.params.followText "set-order"))).push { cls:=.type "list_iterator", data:=.fields #[.ref a,.int 0 0] }).get? b=U N:=λe=>aK _ (aK _ e);have it:((s.heap.push (zA (!X.w.params.followText "set-order"))).push { cls:=.type "list_iterator", data:=.fields #[.ref a,.int 0 0] }).get? (s.heap.objs.size+1)=U { cls:=.type "list_iterator", data:=.fields #[.ref a,.int 0 0] }:=by rw[show s.heap.objs.size+1=(s.heap.push (zA (!X.w.params.followText "set-order"))).objs.size from(c9 _ _).symm];exact bp _ Z
 refine Q6 (led:=!X.w.params.followText "set-order") (iW h3 _ a hne d.toArray).toS notin (by show A.units+1+1+1<cLine;omega) (L.map λq=>(TkS q.1,q.2)) (by rw[ah,bc,F]) (by rw[bc];omega) ?_ ?_ ?_ ?_ (d.toArray.size - 0) 0 _ (zA (!X.w.params.followText "set-order")) #[] 0 (.fresh 0 0 (!X.w.params.followText "set-order")) Z (cD _) ⟨⟨_,it,Z,Z⟩,⟨o,C j,B,n,hd⟩⟩ ?_ ?_ λs2 o2 m l t2 mv J=>?_
 .rw[bf,show (cY∘λq:aE×Addr=>(TkS q.1,q.2))=λq=>TkS q.1 from Z];have:(L.map λq=>TkS q.1)=(L.map cY).map TkS:=by rw[bf];rfl
  rw[this];exact t8 _ (λx y hxy e=>hxy ((List.map_inj_right λg g h=>jQ h).1 e)) nd
 .intro q c;obtain⟨r,hr,rfl⟩:=av.1 c;obtain⟨p,z,e,_⟩:=M r hr;exact⟨p,[.inr z],by show TkS r.1=_;rw[e];rfl⟩
 .intro q c z;obtain⟨r,hr,rfl⟩:=av.1 c;obtain⟨ob,_,_,e,_⟩:=tk r hr;have:=aP e;rcases aJ.1 z with z|z
  .exact ar z (aW this)
  .exact ar (bh.1 z) (aW (eF this))
 .intro i v e;rw[jt]at e;obtain⟨q,P,f⟩:=Y i v e;exact⟨(TkS q.1,q.2),by rw[bA,P];rfl,f⟩
 .intro q c;obtain⟨r,hr,rfl⟩:=av.1 c;exact(tk r hr).f? λo=>C
 .exact⟨aK _ (bp _ Z),⟨Z,Z,Z⟩,Z,⟨7,⟨Z,Z,Z⟩,.inl ⟨Z,by decide⟩⟩,Z,λz=>ar z (by decide),.nil⟩
 .obtain⟨h2,g2,d2,k2,o2'⟩:=s2;have T:=mv.gens;have S:=mv.drawn;have W:=mv.os;subst T S W;have el:d.toArray.size=L.length:=by rw[bc,F]
  rw[el]at J;refine hR h2 k2 ⟨o2,m,l,t2,J⟩ λb o hb e=>mv.heap b o (λz=>?_) (C e);rcases aJ.1 z with z|z
  .exact ar z (aW hb)
  .exact ar (bh.1 z) (aW (eF hb))
end
section
variable{X:Cx}{G:Bg}{H:Hp}{pins:cA}{σ:St}{s:af}
theorem Pu:∀{b:aN} {f:List aE} {h:bz},di G H b h->yy b=U f->∃L:List (aE×Addr),h=L.map (λq=>V.ref q.2)/\f=L.map cY/\∀q∈L,∃p r,q.1=[p,r]/\gk G.K H q.2 [.str p,.str r]
 |[],f,h,r,e=>by cases e;unfold di at r;subst r;exact⟨[],Z,Z,λq o=>by cases o⟩
 |d::b,f,h,r,e=>by
  unfold yy at e;cases c:Q4 d with
  |none=>rw[c]at e;cases e
  |some k=>
   cases i:yy b with
   |none=>rw[c,i]at e;cases e
   |some t=>
    rw[c,i]at e;cases e;unfold di at r;obtain⟨v,x,rfl,u,w⟩:=r;obtain⟨L,rfl,rfl,m⟩:=Pu w i;obtain⟨a,p,q,rfl,rfl,l⟩:=MW u c;refine⟨([p,q],a)::L,Z,Z,λz j=>?_⟩;rcases aJ.1 j with rfl|j
    .exact⟨p,q,Z,l⟩
    .exact m z j
end
noncomputable abbrev cS(s:Str):FE:=cC (.str s)
noncomputable abbrev a1(e:FE):FA:=bt e uN
section
variable{X:Cx}{G:Bg}{H:Hp}{pins:cA}{σ:St}{s:af}
def SrcG(K:aw)(H:Hp)(a:Addr)(n:Nat):Prop:=ZC K H a n\/
 ∃L:List (aE×Addr),f5 K H a (L.map λq=>V.ref q.2)/\L.length<=8/\(L.map cY).Nodup/\(∀q∈L,∃p r,q.1=[p,r]/\gk K H q.2 [.str p,.str r])/\n=L.length
def ads:ZD X SrcG:=by
 intro pins σ H s A E Q a n I c e b h;rcases b with b|⟨L,j,m,u,p,rfl⟩
 .exact ada I c e b h
 .refine setP I c e j m u p λl q o i f t x r=>h l q ⟨o,i,f,t,x.i2,x.ex,x.d,?_,x.fits (ah _),x.sz.t (ah _)⟩ r;rw[x.sz,ah];unfold scanBound;omega
def DZ(a:aN):Option D:=match yy a with
 |some b=>if b.Nodup/\a.length<=8 then U (.int a.length)else O
 |none=>O
set_option tactic.hygienic true
def Q7(hK:X.K=G.K):∀{c d f b a j},DZ c=U d->f5 X.K b a j->di G f c j->uw f b->∃n:Nat,SrcG X.K b a n/\d=.int n:=λ{c d f b a j} e i l s=>by
 unfold DZ at e;cases h:yy c with
 |none=>simp only[h]at e;cases e
 |some w=>
  simp only[h]at e;split at e
  .rename_i u;cases e;obtain⟨L,rfl,rfl,t⟩:=Pu l h;have o:=uk l;rw[ah]at o;refine⟨_,.inr ⟨L,i,by omega,u.1,λq i=>?_,o⟩,Z⟩;obtain⟨p,r,e,m⟩:=t q i;rw[<-hK]at m;exact⟨p,r,e,gk.mono s m⟩
  .cases e
end
set_option tactic.hygienic false
section
variable{X:Cx}{B:Bz}{k:Nat}{e:Expr}{f:FE}{p p2 p3 pos:Pos}
def abi [C:Cz X B k][N:Nb B "len"][b:Nb B "set"](i:S1 X e)(h:Gz X "len")(a:Gz X "set")(d:ZE X B e f)(z:ay [Expr.Call (.Name "set" p2) [e] [] p3] X.cb=[(δ,eval (.Call (.Name "set" p2) [e] [] p3) X.cb)]):ZE X B (.Call (.Name "len" p) [.Call (.Name "set" p2) [e] [] p3] [] pos) (c1 (EI DZ) f):=⟨Ob C.K .inl (Q7 C.K) (QW ads C.r.units C.c h (C.mg▸N.p) a (C.mg▸b.p) d.p z i)⟩
end
section
variable{X:Cx}{G:Bg}{C:Addr}{x:Str}{p pos:Pos}{e:Expr}{c:Nat}
structure Mk0(K:aw)(C:Addr):Prop where
 υ:makesIn K C=γ
 init:findIn K (.ref C) "__init__" = U (U (.builtin "object.__init__"))
 kp:keepIn K (.ref C)=γ
def Q8(M:Mk0 X.K C)(l:Gl X x)(m:X.mg x=U (.ref C))(d:(x==("__debug__" : Str))=δ):PE X (.Call (.Name x p) [] [] pos) (λt H Q=>∀y a,H y=O->H a=O->a≠y->Q (.ref y) (e7 (e7 H a (.i1 y)) y (.mr C a []))):=by
 intro f s t H Q I h;refine dD (z9 I l m ?_ d);refine l8 I.ny M.kp ?_;have q:=h (s.heap.objs.size+1) s.heap.objs.size (I.fb.fresh (iU _)) (I.fb.fresh (aL _)) (aW (dF _));have i:=dr.made (C:=C) I;have Y:=mU (M:=model X.prog X.w) I.ny M.υ;refine gb (Qp I.ny M.υ M.init (λself=>Looks.of_pure (oi_bind self)) ?_);have j:((s.heap.push emptyDict).push (instObj C s.heap.objs.size)).get? (s.heap.objs.size+1)=U (instObj C s.heap.objs.size):=by rw[<-c9 s.heap emptyDict];exact bp _ Z
 have r:gn (model X.prog X.w) ((s.heap.push emptyDict).push (instObj C s.heap.objs.size)) (isInstance (.ref (s.heap.objs.size+1)) (.type "object")) γ:=
  ((qZ j).andThen .now:gn (model X.prog X.w) _ (typeOf (.ref (s.heap.objs.size+1))) (.ref C)).andThen (Y.top.keeps λb o e=>aK _ (aK _ e))
 refine jv oi_plain entry_oi (check_slot oi_kind oi_split r (oi_args _) ?_);rw[oi_run];exact au (And.intro rfl ⟨V.ref (s.heap.objs.size+1),_,i,rfl,q⟩)
def WW(c:Nat):FE:=λa=>U (.obj c [] [],a)
def Q9(h:PE X e (λB H Q=>∀y a,H y=O->H a=O->a≠y->Q (.ref y) (e7 (e7 H a (.i1 y)) y (.mr (G.ca c) a [])))):PE X e (tF G (WW c)):=PE.ea h λB H Q u=>by
 obtain⟨F,I,E,d,A,R,e,k⟩:=u;cases e;intro x a f hdx w;have j:(e7 H a (.i1 x)) x=O:=by rw[uC (λz=>w z.symm)];exact f
 have m:uw H (e7 (e7 H a (.i1 x)) x (.mr (G.ca c) a [])):=(uH hdx _).t (uH j _);have R2:=R.gf m (λv v e=>e) (R.sub.t m) (λb o e=>.inl e);have l:=R.fx f;have q:=R2.q? uu l (R.iE f) (λi t r to z=>R.apart f i t r to z);refine k _ _ _ (uH l _) q ?_;unfold en;exact⟨x,a,[],Z,uu,Z,uU⟩
end
section
variable{X:Cx}{B:Bz}{k:Nat}{p pos:Pos}{x:Str}{c:Nat}
class K0f(B:Bz)(x:Str)(c:Nat):Prop where p:Mk0 B.G.K (B.G.ca c)/\B.mg x=U (.ref (B.G.ca c))
def abj [C:Cz X B k][Q:K0f B x c](a:Gz X x)(hd:(x==("__debug__" : Str))=δ):ZE X B (.Call (.Name x p) [] [] pos) (WW c):=⟨Q9 (Q8 (by rw[C.K];exact Q.p.1) a (by rw[C.mg];exact Q.p.2) hd)⟩
end
end L4
namespace L4
open PySem PySem.Spec PyProof.Rows L2 L3
section
variable{X:Cx}{B:Bz}{k j i m:Nat}{x:Str}{e e':Expr}{es:List Expr}{d:D}{p pos:Pos}{g:D->D->Option D}
def adt:ZB X B l Wn:=⟨λa s f H D I h=>by
 obtain⟨F,c,b,o,R,e,_⟩:=h;cases e⟩
end
theorem Bp.mono(M:Bp G P w i b? j m c h)(e:dy j k=γ):Bp G P w i b? k m c h:=by obtain⟨f,d,l,a,b,c,F⟩:=M;exact⟨f,d,l,a,b,c,F.mono (dw.mp e)⟩
section
variable{X:Cx}{G:Bg}
def K?(g:aN->aN->Option (D×aN))(a n:FA):FE:=λh=>match a h with
 |some (e,b)=>match n b with
  |some (f,c)=>match g f e with
   |some (d,_)=>U (d,c)
   |none=>O
  |none=>O
 |none=>O
theorem dt.temp(R:dt G F σ ρ H0 H)(hb:F.B b=O)(ap:pw σ ρ b)(j:uw H0 a)(s2:uw a H')(d:∀c o,H c=U o->c≠b->H' c=U o)(fr:∀c o,a c=U o->H0 c=U o\/H c=O)(m:H' b=U (.cf p)):dt G F σ ρ a H' where
 sub:=s2
 g0:=R.g0.t j
 keep:=λc o e n=>d c o (R.keep c o e n) λz=>by rw[z,hb]at e;cases e
 fr:=λc o e=>(fr c o e).elim (R.fr c o) λh=>.inr (R.iE h)
 am:=λc l=>by
  obtain⟨o,q⟩:=R.am c l;by_cases z:c=b
  .exact⟨_,z▸m⟩
  .exact⟨o,d c o q z⟩
 len:=R.len
 sl:=λi t e=>(R.sl i t e).gf j (λc u z so q=>d c u q λw=>ap i t e so (by rw[z,w])) λc u z so q f=>by
  cases w:a c with
  |none=>rfl
  |some o=>
   rcases fr c o w with v|v
   .rw[v]at f;cases f
   .rw[v]at q;cases q
 ap:=R.ap
end
mutual
def adu:D->Bool
 |.X=>γ
 |.Y _=>γ
 |.int _=>γ
 |.str _=>γ
 |.ef a=>Om a
 |.cf a=>Om a
 |_=>δ
def Om:aN->Bool
 |[]=>γ
 |d::a=>adu d&&Om a
end
section
variable{t:bG}{m n:Nat}
def tM(m:Nat):bG:=⟨m,#[],#[],0,δ,0,δ⟩
def Wy(m:Nat)(a:Nat->Prop)(j:Nat):Nat->fE->Prop
 |0,_=>False
 |f+1,p=>p.j=j\/(a p.j/\Wy m a j f ((tM m).advance p))
end
section
variable{κ α:Type}[DecidableEq κ]
def Hj(l:List κ):List κ:=l.foldl (λacc k=>if k∈acc then acc else acc++[k]) []
set_option tactic.hygienic true
theorem HI:∀(l acc:List κ),acc.Nodup->(l.foldl (λacc k=>if k∈acc then acc else acc++[k]) acc).Nodup/\∀x,x∈l.foldl (λacc k=>if k∈acc then acc else acc++[k]) acc ↔ x∈acc\/x∈l
 |[],acc,h=>⟨h,λx=>⟨.inl,λh=>h.resolve_right (by simp)⟩⟩
 |k::l,acc,h=>by
  rw[iF];split
  .rename_i f;obtain⟨c,d⟩:=HI l acc h;refine⟨c,λx=>(d x).t ⟨λh=>h.imp id (ba _),λh=>?_⟩⟩;rcases h with h|h
   .exact .inl h
   .rcases aJ.1 h with rfl|h
    .exact .inl f
    .exact .inr h
  .rename_i f;obtain⟨c,d⟩:=HI l (acc++[k]) (cg.2 ⟨h,dH.2 ⟨ck,.nil⟩,λa i b j e=>f (by rw[<-bh.1 j,<- e];exact i)⟩);refine⟨c,λx=>(d x).t ?_⟩;rw[aO,bh,aJ,or_assoc]
set_option tactic.hygienic false
def On(l:List κ):(Hj l).Nodup:=(HI l [] .nil).1
def LB{l:List κ}{x:κ}:x∈Hj l ↔ x∈l:=((HI l [] .nil).2 x).t ⟨λh=>h.resolve_left (by simp),.inr⟩
end
end L4
namespace L4
open PySem PySem.Spec PySem.Calls PyProof.Rows PySem.W L2 L3
section
variable{prog:aB}{w:az}{A:aG}{E:aa->af->Prop}{s:af}
theorem Rb(h:Q 0xFCA86420 { s with toks:=s.toks+1 }):ao (model prog w) A (pyHash .none) Q E s:=by
 refine ag ?_;rw[cRoomFor,aq (by rw[show [Value.none].any Value.onHeap=δ from Z];exact bw)];refine au ?_;refine ag (gL (jS s) jw.lookup ?_);rw[aq (by rw[beq_builtin_none];exact bw)];refine ag (gL (jS s) jw.lookup ?_);refine ag (wpAny_callSpecialIfBoundUnlessNone?_slot (jS s) jw
  (fS jw (jS s) F.entry_NoneType_hash
   (show ao _ _ (do ret (<-mkInt 0xFCA86420)) _ _ s from wpAny_ret_mkInt ?_) (F.args_NoneType_hash_1 _)))
 exact au h
def WX(h:Q γ s):ao (model prog w) A (eqBool .none .none) Q E s:=by refine bL ?_;rw[ak (show (Value.none==Value.none)=γ from Z)];exact ag (gX (au h))
def oIs:Option ey->aa->Bool
 |none,.none=>γ
 |none,_=>δ
 |some k,v=>HL k v
def zp(h:oIs k v=γ):(k=O/\v=.none)\/(∃i t,k=U (Sum.inl i)/\v=Value.int i t)\/∃x t,k=U (Sum.inr x)/\v=Value.str x t:=by
 cases k with
 |none=>cases v<;>first|exact .inl ⟨Z,Z⟩|cases h
 |some k=>
  rcases vA h with ⟨i,t,rfl,rfl⟩|⟨x,t,rfl,rfl⟩
  .exact .inr (.inl ⟨i,t,Z,Z⟩)
  .exact .inr (.inr ⟨x,t,Z,Z⟩)
def optKind(prog:aB)(w:az):ql prog w (Option ey) where
 is:=oIs
 hash:=λk=>match k with|none=>0xFCA86420|some k=>keyH w k
 inj:=λv a b ha hb=>by rcases zp ha with ⟨rfl,rfl⟩|⟨i,t,rfl,rfl⟩|⟨x,t,rfl,rfl⟩<;>rcases zp hb with ⟨rfl,e⟩|⟨j,u,rfl,e⟩|⟨y,u,rfl,e⟩<;>first|rfl|(cases e;rfl)|cases e
 byValue:=λk v h=>by rcases zp h with ⟨rfl,rfl⟩|⟨i,t,rfl,rfl⟩|⟨x,t,rfl,rfl⟩<;>rfl
 pyHash:=λ{A E s k v Q} c h=>by
  cases k with
  |some k=>exact(uK prog w).pyHash (k:=k) c h
  |none=>
   rcases zp c with ⟨_,rfl⟩|⟨i,t,e,_⟩|⟨x,t,e,_⟩
   .exact Rb h
   .cases e
   .cases e
 eqBool:=λ{A E s a b u v Q} d c h=>by
  rcases zp d with ⟨rfl,rfl⟩|⟨i,t,rfl,rfl⟩|⟨x,t,rfl,rfl⟩<;>rcases zp c with ⟨rfl,rfl⟩|⟨j,u,rfl,rfl⟩|⟨y,u,rfl,rfl⟩
  .exact WX h
  .exact oo j u _ _ _ _ h
  .exact oq y u _ _ _ _ h
  .exact ou i t _ _ _ _ h
  .exact(uK prog w).eqBool (a:=Sum.inl i) (b:=Sum.inl j) d c (by simpa using h)
  .exact(uK prog w).eqBool (a:=Sum.inl i) (b:=Sum.inr y) d c (by simpa using h)
  .exact ox x t _ _ _ _ h
  .exact(uK prog w).eqBool (a:=Sum.inr x) (b:=Sum.inl j) d c (by simpa using h)
  .exact(uK prog w).eqBool (a:=Sum.inr x) (b:=Sum.inr y) d c (by simpa using h)
 «strs»:=λk x t v h=>by
  cases k with
  |none=>cases h
  |some k=>exact(uK prog w).strs k x t v h
def WY{h:Heap}(m:h.MapOf (uK prog w) a f):h.MapOf (optKind prog w) a (λk=>match k with|none=>O|some k=>f k):=by
 obtain⟨o,p,l,q,r,u,j,y⟩:=m;refine⟨o,p,l,q,r,u,λe b=>?_,λk=>?_⟩
 .obtain⟨k,c,z⟩:=j e b;exact⟨U k,c,z⟩
 .cases k with
  |some k=>exact y k
  |none=>
   unfold findBy;rw[Array.find?_eq_none.2 λe b=>?_]
   .rfl
   .obtain⟨k,c,_⟩:=j e b;rcases vA c with ⟨i,t,_,d⟩|⟨x,t,_,d⟩<;>(rw[d];exact bw)
end
section
variable{X:Cx}{G:Bg}{H:Hp}{pins:cA}{σ:St}{s:af}
def abk(I:dr X pins σ H s)(e:Rd H a (.dK kvs))(h:∀c,dr X pins σ H c->Q .none c):ao (model X.prog X.w) A (call (.builtin "dict.get") [.ref a,.none]) Q E s:=by obtain⟨z,hd,d,rel,b⟩:=Gi I.fb e;exact gU fC b.typeIs iB (lq _ _) (qa (optKind X.prog X.w) a (k:=O) Z hd) ⟨_,WY b.mapOf,h _ (I.vl _)⟩
def abl(d ty:TE):TE:=λσ H Q=>d σ H λx c=>∃a,x=.ref a/\IsD c a/\ty σ c λy b=>(∃o,rr b a y o/\Q (o.getD .X) b)\/(y=.X/\(∃kvs,Rd b a (.dK kvs))/\Q .X b)
def TU(B:X.A.units+1<cLine)(z:PE X o R)(w:PE X e ty)(m:M1 X o "get" apos e cpos):PE X (.Call (.Attribute o "get" apos) [e] [] cpos) (abl R ty):=by
 intro pins s σ H Q I h;refine jB m.b? m.few m.line jC fC lQ (fu (z pins s σ H _ I h) λu J c=>?_);obtain⟨x,r,l,F,a,t,d,E⟩:=c;subst t;obtain rfl:u=Value.ref a:=F;obtain⟨N,P,_⟩:=Lh l d;refine⟨N,P,?_⟩;rw[m.S?];refine ic Z (gA (eD (fu (w pins J σ r _ l E) λC T c=>fQ ?_)));obtain⟨y,j,p,q,⟨S,g,f⟩|⟨rfl,⟨kvs,e⟩,f⟩⟩:=c
 .exact R0 B p g q λW M b i=>⟨_,j,b,i,f⟩
 .obtain rfl:C=.none:=q;exact abk p e λM b=>⟨.X,j,b,Z,f⟩
def M5:D->D->Option D:=λx y=>match y with
 |.X=>match x with
  |.Z _ _=>U .X
  |_=>O
 |y=>Cs x y
def TV(hu:X.A.units+1<cLine)(ha:PE X a (tF G f))(hb:PE X b (tF G f'))(m:M1 X a "get" apos b cpos):PE X (.Call (.Attribute a "get" apos) [b] [] cpos) (tF G (c2 M5 f f')):=PE.ea (TU hu ha hb m) λσ H Q hh=>by
 obtain⟨F,ρ,P,d,C,R,e,k⟩:=hh;obtain⟨x,y,l,Y,e2,c⟩:=Ew e;cases x with
 |Z M W=>
  refine⟨F,ρ,P,_,l,R,Y,λv S T B E r1=>?_⟩;have t:=r1;obtain⟨p,ob,xs,rfl,r,h2,h3⟩:=t;refine⟨p,Z,.inl ⟨_,.inr ⟨_,E.sub _ _ r⟩⟩,F,l,S,y,C,E,e2,λu o h i R2 N=>?_⟩;by_cases J:y=.X
  .subst J;cases c;subst N;exact .inr ⟨Z,⟨_,.inr ⟨_,R2.sub _ _ (i _ _ r)⟩⟩,k _ o h (B.t i) R2 Ad⟩
  .left;have c:=by
    unfold M5 at c;split at c
    .exact ar Z J
    .exact c
   unfold Cs at c;cases q:AY y with
   |none=>simp only[q]at c;cases c
   |some j=>
    simp only[q]at c;cases c;have lv:=Cr j (di.mono i _ _ h3) h2;refine⟨yb (M.zip xs) j,?_,?_⟩
    .rw[Bq N q];exact rr.kf (R2.sub _ _ (i _ _ r))
    .cases I:vC M W j with
     |none=>rw[I]at lv k;rw[lv];exact k _ o h (B.t i) R2 Ad
     |some z=>rw[I]at lv k;obtain⟨w,w1,w2⟩:=lv;rw[w1];exact k _ o h (B.t i) R2 w2
 |_=>
  unfold M5 at c;split at c
  .cases c
  .unfold Cs at c;cases c
end
section
variable{X:Cx}{B:Bz}{k:Nat}{e e':Expr}{f f':FE}{apos pos:Pos}
def abm [C:Cz X B k](d:ZE X B e f)(h:ZE X B e' f')(b:Az X e "get")(c:Ez apos pos)(a:S1 X e'):ZE X B (.Call (.Attribute e "get" apos) [e'] [] pos) (c2 M5 f f'):=⟨TV (Ml C.r) d.p h.p ⟨b,by rw[a];rfl,c,by rw[a];rfl⟩⟩
end
section
variable{X:Cx}{G:Bg}
def I?:D->Option D
 |.int i=>if i.natAbs.log2<1920 then U (.str (toString i))else O
 |_=>O
set_option tactic.hygienic true
def cd_str:Iu G (λc H Q=>∃i,c=[.int i]/\i.natAbs.log2<1920/\Q (.str (toString i)) H) I?:=λx z d H v Q e s a k=>by
 cases x with
 |int i=>
  rw[show I? (.int i)=if i.natAbs.log2<1920 then U (.str (toString i))else O from Z]at e;split at e
  .rename_i b;cases e;unfold en at a;subst a;exact⟨i,Z,b,k _ λu u=>yI _⟩
  .cases e
 |_=>cases e
def pf_b2{e:Expr}{r:bz->Hp->VK->Prop}{g:Int->Int->Int}{f m:FE}(B:∀i j H Q,Q (.int (g i j)) H->r [.int i,.int j] H Q)(h:PE X e (tCB r (rm G (bt f (bt m uN))))):PE X e (tF G (c2 (λx y=>match x,y with|.int i,.int j=>U (.int (g i j))|_,_=>O) f m)):=PE.ea h λS H Q A=>by
 obtain⟨F,C,q,d,l,R,e,k⟩:=A;obtain⟨x,y,E,w,z,c⟩:=Ew e;split at c
 .cases c;rename_i i j;refine⟨F,C,q,[.int i,.int j],l,R,by unfold bt;rw[w];simp only[z];rfl,λP I t s u rs=>?_⟩;unfold di at rs;obtain⟨v,J,rfl,p,o⟩:=rs;unfold di at o;obtain⟨N,M,rfl,b,a⟩:=o;unfold di at a;subst a;unfold en at p b;subst p b;exact B i j _ _ (k _ _ _ s u (wF _))
 .cases c
set_option tactic.hygienic false
def dMax2:D->D->Option D:=λx y=>match x,y with|.int i,.int j=>U (.int (if j > i then j else i))|_,_=>O
def dMin2:D->D->Option D:=λx y=>match x,y with|.int i,.int j=>U (.int (if j<i then j else i))|_,_=>O
def iR2(f c:FE):FA:=λd=>match f d with
 |some (.int i,a)=>match c a with
  |some (.int j,b)=>if (-1000000<=i/\i<=1000000)/\-1000000<=j/\j<=1000000 then U (Ip i (j - i).toNat,b)else O
  |_=>O
 |_=>O
set_option tactic.hygienic true
def ξ(h:PI X u e (Xt (rm G (bt f (bt r uN))))):PI X u e (tFI G (iR2 f r)):=PI.ea h λN H R t=>by
 obtain⟨F,w,l,B,x,R,e,k⟩:=t;unfold iR2 at e;split at e
 .rename_i i y p;split at e
  .rename_i j z q;split at e
   .rename_i C;cases e;refine⟨F,w,l,[.int i,.int j],_,R,by unfold bt;rw[p];simp only[q];rfl,λM A m s o rs=>?_⟩;unfold di at rs;obtain⟨v,E,rfl,d,c⟩:=rs;unfold di at c;obtain⟨J,I,rfl,b,a⟩:=c;unfold di at a;subst a;unfold en at d b;subst d b;refine⟨i,j,Z,⟨by omega,by omega,by omega,by omega⟩,?_⟩;exact k _ _ _ s o ME
   .cases e
  .cases e
 .cases e
end
set_option tactic.hygienic false
section
variable{X:Cx}{B:Bz}{k:Nat}{e e' tg:Expr}{f f':FE}{p p2 p3 pos apos:Pos}
def zr_srI [C:Cz X B k][N:Nb B "str"](c:Gz X "str")(a:S1 X e)(b:ZE X B e f):ZE X B (.Call (.Name "str" p) [e] [] pos) (c1 I? f):=⟨SG cd_str (ctI c (by decide) a K5 (by decide +kernel) (vY b.p xN a))⟩
def zr_mxI [C:Cz X B k][N:Nb B "max"](l:Gz X "max")(b:ay [e,e'] X.cb=[(δ,eval e X.cb),(δ,eval e' X.cb)])(a:S1 X e')(d:ZE X B e f)(h:ZE X B e' f'):ZE X B (.Call (.Name "max" p) [e,e'] [] pos) (c2 dMax2 f f'):=
 ⟨pf_b2 (g:=λi j=>if j > i then j else i) (λi j H Q q=>⟨i,j,Z,q⟩) (yM (Ql C.c) l (C.mg▸N.p) boot_max (vY d.p (vY h.p xN a) (by rw[b,a])) (by decide) (by decide) (by rw[b,a]) (by rw[a];rfl))⟩
def zr_mnI [C:Cz X B k][N:Nb B "min"](l:Gz X "min")(b:ay [e,e'] X.cb=[(δ,eval e X.cb),(δ,eval e' X.cb)])(a:S1 X e')(d:ZE X B e f)(h:ZE X B e' f'):ZE X B (.Call (.Name "min" p) [e,e'] [] pos) (c2 dMin2 f f'):=
 ⟨pf_b2 (g:=λi j=>if j<i then j else i) (λi j H Q q=>⟨i,j,Z,q⟩) (yM (Qm C.c) l (C.mg▸N.p) boot_min (vY d.p (vY h.p xN a) (by rw[b,a])) (by decide) (by decide) (by rw[b,a]) (by rw[a];rfl))⟩
def zr_r2I [C:Cz X B k][N:Nb B "range"](h:Gz X "range")(b:ay [e,e'] X.cb=[(δ,eval e X.cb),(δ,eval e' X.cb)])(a:S1 X e')(c:ZE X B e f)(d:ZE X B e' f'):ZI X B tg (.Call (.Name "range" p) [e,e'] [] pos) (iR2 f f'):=⟨ξ (Qj h (C.mg▸N.p) (vY c.p (vY d.p xN a) (by rw[b,a])) b a)⟩
end
def tOr(t a:Ty->Option Bool):Ty->Option Bool:=λy=>match t y with
 |some γ=>match a y with
  |some _=>U γ
  |none=>O
 |some δ=>a y
 |none=>O
def inst_or(h:IC G c t)(l:IC G d i):Pd G [c,d] (tOr t i):=by
 refine⟨λy b e=>?_,λj b e=>?_⟩
 .unfold tOr at e;show kitAny G.K (y.val G) [.ref (G.ca c),.ref (G.ca d)]=U b;unfold kitAny;cases a:t y with
  |none=>simp only[a]at e;cases e
  |some v=>
   simp only[a]at e;rw[h.1 y v a];cases v with
   |true=>
    cases f:i y with
    |none=>simp only[f]at e;cases e
    |some w=>simp only[f]at e;cases e;rfl
   |false=>simp only at e;unfold kitAny;simp only;rw[l.1 y b e];cases b<;>rfl
 .unfold tOr at e;cases a:t (.c j)with
  |none=>simp only[a]at e;cases e
  |some v=>exact h.2 j v a
section
variable{X:Cx}{B:Bz}{k:Nat}{e:Expr}{f:FE}{p p2 p3 p4 pos:Pos}{x y:Str}
def zr_i2I{d}[Q:Ic B x t][o:Ic B y F][C:Cz X B k][N:Nb B "isinstance"](u:Gz X "isinstance")(r:Gz X x)(i:Gz X y)(m:ay [e,.Tuple [.Name x p2,.Name y p3] d p4] X.cb=[(δ,eval e X.cb),(δ,eval (.Tuple [.Name x p2,.Name y p3] d p4) X.cb)])(a:S1 X (.Tuple [.Name x p2,.Name y p3] d p4))(j:ay [.Name x p2,.Name y p3] X.cb=[(δ,eval (.Name x p2) X.cb),(δ,eval (.Name y p3) X.cb)])(b:S1 X (.Name y p3))(q:ZE X B e f)(hd:Dz x)(h:Dz y):ZE X B (.Call (.Name "isinstance" p) [e,.Tuple [.Name x p2,.Name y p3] d p4] [] pos) (c1 (vv (tOr t F)) f):=by
 obtain⟨c,w,z⟩:=Q.p;obtain⟨l,A,E⟩:=o.p;refine⟨Ta (cs:=[c,l]) (yM (N8 (inst_or w A) C.K) u (C.mg▸N.p) iH (vq q.p (vq (RQ (vq (Ei (v:=.ref (B.G.ca c)) r (C.mg▸z) Z hd) (vq (Ei (v:=.ref (B.G.ca l)) i (C.mg▸E) Z h) xB b) ?_)) xB a) ?_) (by decide) (by decide) ?_ ?_) (by show 2<=1000;decide)⟩
 .rw[j,b]
 .rw[m,a]
 .rw[m,a]
 .rw[a];rfl
end
section
variable{P:aB}{w:az}{mg:Str->Option aa}{b?:Heap}{G:Bg}{x:Str}
def GX(K:aw)(x s:Str):Prop:=∃t:Tok,nsIn K aQ x=U (U (.str s t))
def const_str(X:G.K.In h)(a:h.Ns aQ mg)(e:nsIn G.K aQ x=U (U (.str z t))):Ag G mg x (.str z):=
 ⟨.str z,_,iY X a e,⟨_,Z⟩,λv=>yI _⟩
def Yw.cx(y:Yw P w mg b? G)(q:GX G.K x s):Ag G mg x (.str s):=by obtain⟨h,X,a⟩:=y.m;obtain⟨t,e⟩:=q;exact const_str X a e
end
section
variable{X:Cx}{G:Bg}
theorem X1{K:aw}:∀{l:List L3.Dq} {f:bz} {c:List aa},L3.di K H l f->eg f c->(∀u∈c,∃e∈l,∃x,L3.en K H e x/\eo x u)/\∀e∈l,∃u∈c,∃x,L3.en K H e x/\eo x u
 |[],f,c,r,v=>by unfold L3.di at r;subst r;cases v;exact⟨λu b=>(by cases b),λe a=>(by cases a)⟩
 |d::l,f,c,r,v=>by
  unfold L3.di at r;obtain⟨x,q,rfl,h,j⟩:=r;cases v with
  |cons i p=>
   obtain⟨m,o⟩:=X1 j p;refine⟨λu b=>?_,λe a=>?_⟩
   .rcases aJ.1 b with rfl|b
    .exact⟨d,bb,x,h,i⟩
    .obtain⟨e,a,z⟩:=m u b;exact⟨e,ba _ a,z⟩
   .rcases aJ.1 a with rfl|a
    .exact⟨_,bb,x,h,i⟩
    .obtain⟨u,b,z⟩:=o e a;exact⟨u,ba _ b,z⟩
end
section
variable{X:Cx}{B:Bz}{k i:Nat}{e:Expr}{f:FE}{a:FA}{x:Str}{p p2 p3 pos apos:Pos}
def zr_xsI{b}(h:o3 X i x=γ)(d:ZE X B e f)(l:swapsWithSole [.Subscript (.Name x p) (.Constant (.int j) b p2) p3] e pos.line X.cb=pure δ)(m:swappedStores [.Subscript (.Name x p) (.Constant (.int j) b p2) p3] e X.cb=pure O)
  (c:(cu [.Subscript (.Name x p) (.Constant (.int j) b p2) p3] X.cb).map (·.2)=[assign (.Subscript (.Name x p) (.Constant (.int j) b p2) p3) X.cb]):ZS X B (.Assign [.Subscript (.Name x p) (.Constant (.int j) b p2) p3] e pos) (AE i j f):=⟨QS (RD d.p (Ym (Kx h) Nx set_list) l m c)⟩
def zr_xeI [C:Cz X B k](h:o3 X i x=γ)(d:Az X (.Name x p) "extend")(j:Ez apos pos)(b:S1 X e)(c:ZN X B e a):ZE X B (.Call (.Attribute (.Name x p) "extend" apos) [e] [] pos) (Hr i a):=
 ⟨QI (bmI d j b jF jy oR Qu (Kx h) (vq c.p xB b))⟩
end
section
variable{B:Bz}[Y:Yb B]{k np n:Nat}{b:FS}{x p:Str}{ps:aE}{st s0:Stmt}{l:List Stmt}
def gM5(N:aE)(c:g=tj np n b)(q:GD B.G.K x st)(d:uX st=s0::l)(e:Q? st=p::ps)(body:Bdz B N x st (s0::l) k b)(S:okO N (p::ps) st (np+1) n=γ:=by kernel_rfl)(a:X' x x st (p::ps):=by (repeat intro _);rfl):Df B (k+1) x (vo B.G g):=
 ⟨_,gM c Y.y q (sx S).1 (body.ok d) (iQ (sx S).2.1) (sx S).2.2 a⟩
end
def sOf:aa->Str
 |.str x _=>x
 |_=>""
structure j?(w:az)(h:Heap)(S:Addr)(ss:aE)(led:Bool)(o:Obj)(es:Array (Int×aa))(ep:Nat)(t:bG):Prop where
 i2:h.get? S=U o
 ex:o.ExactSet
 d:o.data=.set es ep t
 f:t.fits es.size=γ
 led:t.led=led
 pl:0<ss.length->t.plain=δ
 el:∀e∈es.toList,∃x tk,e=(hashStr w x,Value.str x tk)
 p:(es.toList.map λe=>sOf e.2).Perm ss
def j?.sz{w:az}{h:Heap}{S:Addr}{a:aE}{led:Bool}{o:Obj}{es:Array (Int×aa)}{ep:Nat}{t:bG}(x:j? w h S a led o es ep t):es.size=a.length:=by have:=x.p.length_eq;rw[ah,bM]at this;exact this
set_option tactic.hygienic true
def lay_led(t:bG)(a:Array (Int×aa))(h:Int)(x:aa):(layNew t a h x).2.1.led=t.led/\(t.plain=δ->(layNew t a h x).2.1.plain=δ):=by
 unfold layNew;split
 .rename_i b c e;show ((t.put b).1.orStandIn _).led=_/\(_->((t.put b).1.orStandIn _).plain=δ);unfold SetTable.orStandIn;split
  .exact⟨Z,id⟩
  .exact⟨Z,λv=>Z⟩
 .exact⟨Z,λv=>Z⟩
def relay_led(t:bG)(a:Array (Int×aa))(n:Nat):(relayAll t a n).2.1.led=t.led/\(t.plain=δ->(relayAll t a n).2.1.plain=δ):=by
 unfold relayAll;split
 .rename_i c order e;obtain⟨b,_,e⟩:=kK.1 e;cases e;dsimp only;split
  .exact⟨Z,id⟩
  .exact⟨Z,λv=>Z⟩
 .exact⟨Z,λv=>Z⟩
section
variable{prog:aB}{w:az}{A:aG}{E:aa->af->Prop}{s:af}{S:Addr}{o:Obj}{es:Array (Int×aa)}{ep:Nat}{t:bG}{ss:aE}{led:Bool}
set_option tactic.hygienic false
def j?.elems(x:j? w s.heap S ss led o es ep t):ElemsOf (eJ prog w) es.toList:=λe a=>by obtain⟨z,b,rfl⟩:=x.el e a;exact⟨⟨z,by simp[eJ,gR],Z⟩,Z⟩
def j?.mem(x:j? w s.heap S ss led o es ep t)(z:Str):z∈ss ↔ ∃e∈es.toList,(eJ prog w).is z e.2=γ:=by
 rw[<-x.p.mem_iff,av];constructor
 .rintro⟨e,a,rfl⟩;obtain⟨y,b,rfl⟩:=x.el e a;exact⟨_,a,by simp[eJ,gR,sOf]⟩
 .rintro⟨e,a,h⟩;obtain⟨y,b,rfl⟩:=x.el e a;exact⟨_,a,by simpa [eJ,gR,sOf]using h⟩
def j?.stored(x:j? w s.heap S ss led o es ep t){es':Array (Int×aa)}{b:bG}{a:aE}(f:b.fits es'.size=γ)(l:b.led=led)(pl:0<a.length->b.plain=δ)(el:∀e∈es'.toList,∃x tk,e=(hashStr w x,Value.str x tk))(p:(es'.toList.map λe=>sOf e.2).Perm a):
  j? w (s.heap.update S (jV es' b)) S a led { o with data:=.set es' (ep+1) b } es' (ep+1) b:=
 ⟨N9 x.i2 x.d,x.ex,Z,f,l,pl,el,p⟩
def tail_x{g:Bool->Sem Unit}(hg:∀(b:Bool) (i:af) (B:Unit->af->Prop),B () i->ao (model prog w) A (g b) B E i)(X:j? w s.heap S ss led o es ep t)
  {a:Array (Int×aa)} {c:bG} {m:aE} (f:c.fits a.size=γ) (l:c.led=led) (pl:c.plain=δ) (el:∀e∈a.toList,∃x tk,e=(hashStr w x,Value.str x tk)) (p:(a.toList.map λe=>sOf e.2).Perm m) (hb:a.size<scanBound)
  {wasDummy:Bool} {R:Option Bool->af->Prop} (h:∀h' G es' u H,dO S s.heap h'->j? w h' S m led G es' u H->R (U γ) { s with heap:=h' }):
  ao (model prog w) A (do
    storeSet S a c
    if (!wasDummy&&c.tooFull)=γ then do
      g (relayAll c a (dZ a.size)).2.2
      storeSet S (relayAll c a (dZ a.size)).1 (relayAll c a (dZ a.size)).2.1
      pure (U γ)
     else pure (U γ)) R E s:=by
 refine ag (jG X.i2 X.d ?_ (pd hb));have q:=X.stored f l (λv=>pl) el p;have hsb1:=dB s.heap S (jV a c);split
 .have j:=relayAll_perm c a (dZ a.size);have hfr:=relayAll_fits c a (dZ a.size);have r:=relay_led c a (dZ a.size);generalize relayAll c a (dZ a.size)=C at j hfr r ⊢;obtain⟨y,I,gave2⟩:=C;dsimp only at j hfr r ⊢;have z:y.size=a.size:=by rw[<-bM,j.length_eq,bM]
  refine ag (hg _ _ _ ?_);refine ag (jG q.i2 q.d ?_ (pd (by rw[z];exact hb)));exact au (h _ _ _ _ _ (hsb1.t (dB _ S _)) (j?.stored q hfr (r.1.t l) (λv=>r.2 pl) (λe F=>el e (j.mem_iff.1 F)) ((j.map _).t p)))
 .exact au (h _ _ _ _ _ hsb1 q)
set_option tactic.hygienic true
def add_x(X:j? w s.heap S ss led o es ep t)(hb:ss.length+1<scanBound)
  (h1:x∈ss->Q δ s)
  (h2:x∉ss->∀h' l es' c m,dO S s.heap h'->j? w h' S (ss++[x]) led l es' c m->Q γ { s with heap:=h' }):ao (model prog w) A (setAddHashed S (.str x tk) (hashStr w x)) Q E s:=by
 have sz:=X.sz;have hkey:(eJ prog w).is x (.str x tk)=γ:=by simp[eJ,gR]
 refine bL (ag (dj X.i2 X.d X.f ?_));dsimp only;rw[byScan_of (knd:=eJ prog w) Z (by omega) X.elems];simp only[↓reduceIte];refine ag ?_;refine ag (gX ?_);refine ag (wpAny_setScan_of hkey X.i2 X.d X.f X.elems ?_);cases hr:List.findIdx? (λe=>(eJ prog w).is x e.2) es.toList with
 |some j=>obtain⟨F,hpj,_⟩:=List.findIdx?_eq_some_iff_getElem.1 hr;exact au (au (h1 ((X.mem x).2 ⟨es.toList[j],fR F,hpj⟩)))
 |none=>
  dsimp only;have nin:x∉ss:=λH=>by obtain⟨e,h,G⟩:=(X.mem x).1 H;have:=List.findIdx?_eq_none_iff.1 hr e h;rw[G]at this;exact Bool.noConfusion this
  have hgw:∀(b:Bool) {a:af} {q:Unit->af->Prop},q () a->ao (model prog w) A (match b with|true=>rule "set.scan.the-table-gave-way" |false=>pure ()) q E a:=
   λb a q i=>by cases b<;>first|exact au i|exact gX i
  have hperm:=layNew_perm t es (hashStr w x) (.str x tk);have hfits:=layNew_fits t es (hashStr w x) (.str x tk);have hled:=lay_led t es (hashStr w x) (.str x tk);generalize layNew t es (hashStr w x) (.str x tk)=L at hperm hfits hled ⊢;obtain⟨u,I,wasDummy,gave⟩:=L;dsimp only at hperm hfits hled ⊢;rw[lu]at hperm;have r:∀e∈u.toList,∃x tk,e=(hashStr w x,Value.str x tk):=λe h=>by
   rcases aO.1 (hperm.mem_iff.1 h)with h|h
   .exact X.el e h
   .rw[bh]at h;exact⟨x,tk,h⟩
  have C:=by have:=hperm.map λe:Int×aa=>sOf e.2;rw[bu]at this;exact this.t (X.p.append_right _)
  have y:u.size<scanBound:=by rw[<-bM,hperm.length_eq,aF,bM,sz];exact hb
  refine ag (hgw _ ?_);have end_:∀(h':Heap) (l:Obj) (es':Array (Int×aa)) (c:Nat) (m:bG),dO S s.heap h'->j? w h' S (ss++[x]) led l es' c m->Q γ { s with heap:=h' }:=h2 nin;split
  .refine ag ?_;rw[hashByValue_scannable 8 Z];refine au ?_;refine tail_x ?_ X (SetTable.fits_plain_off hfits) (hled.1.t X.led) Z r C y ?_
   .intro b a q i;cases b<;>first|exact au i|exact gX i
   .intro h' l es' c m B z;dsimp only;exact au (end_ h' l es' c m B z)
  .rename_i hpl;refine ag (au ?_);simp only[↓reduceIte];refine tail_x ?_ X hfits (hled.1.t X.led) (by simpa using hpl) r C y ?_
   .intro b a q i;cases b<;>first|exact au i|exact gX i
   .intro h' l es' c m B z;dsimp only;exact au (end_ h' l es' c m B z)
end
set_option tactic.hygienic false
section
variable{prog:aB}{w:az}{A:aG}{E:aa->af->Prop}{s:af}{S:Addr}{o:Obj}{es:Array (Int×aa)}{ep:Nat}{t:bG}
theorem iter_X(x:j? w s.heap S ss (!w.params.followText "set-order") o es ep t)(z:ss.length<64)
  (hQ:∀(h':Heap) (I TP:Addr) (ki:List aa) (d:Drawn),s.heap.objs.size<=I->I<h'.objs.size->TP≠I->(TP=S\/s.heap.objs.size<=TP)->(∀b o,s.heap.get? b=U o->h'.get? b=U o)->ItS w I S TP ki o es ep t 0 h'->ki.Perm (es.toList.map bI)->Q (.ref I) { s with heap:=h',drawn:=d }):
  ao (model prog w) A (pyIter (.ref S)) Q E s:=by
 have hf:=x.f;have ty:s.TypeIs (.ref S) "set" := ⟨o,x.i2,x.ex.1⟩;have hlt:=aP x.i2;refine pb ty pW (fS pW ty Ly ?_ (F.args_set_iter_1 _));refine ag (au ?_);refine ag ?_;refine ag (ag (dj x.i2 x.d hf (au ?_)));refine au ?_;refine ag ?_;refine ag (dj x.i2 x.d hf ?_);refine ag (FV ?_);refine au ?_;have plain0:(w.params.followText "set-order" = γ\/(w.params.followText "set-order" = δ/\es.size<=1))->ao (model prog w) A.in1 (do
   let first<-pure (rawInt 0)
   let e<-setEpoch S;let r<-newFields "set_iterator" [first,rawInt 0,Value.ref S,rawInt ↑es.size,rawInt ↑e]
   ret r) (λfin s'=>∃v,fin=Fin.done (Flow.ret v)/\∃a r,s'.TypeIs v a/\typeLookup (Value.type a) (mx "__next__")=pure (U r)/\Q v s') E s:=λc=>by
  refine ag (au ?_);refine ag (pe x.i2 x.d hf ?_);refine ag (dX ?_);have h:∀(i:Obj) (b:Addr) (o:Obj),s.heap.get? b=U o->(s.heap.push i).get? b=U o:=λi b o e=>aK _ e;have it:∀ki,Md w (s.heap.push { cls:=.type "set_iterator", data:=.fields [rawInt 0,rawInt 0,Value.ref S,rawInt ↑es.size,rawInt ↑ep].toArray }) S S 0 ki es ep t (.int 0 0)->ki.Perm (es.toList.map bI)->_:=λki m p=>au (M:=model prog w) (A:=A.in1) (E:=E) (Q:=λfin s'=>∃v,fin=Fin.done (Flow.ret v)/\∃a r,s'.TypeIs v a/\typeLookup (Value.type a) (mx "__next__")=pure (U r)/\Q v s') ⟨.ref s.heap.objs.size,Z,"set_iterator", _,⟨_,bp _ Z,Z⟩,yh.lookup,hQ _ s.heap.objs.size S ki s.drawn (aL _) (by rw[c9];exact dF _) (aW hlt) (.inl Z) (h _) ⟨⟨_,.int 0 0,bp _ Z,Z,Z,m⟩,h _ _ _ x.i2,x.d,hf⟩ p⟩;rcases c with c|⟨c1,c2⟩
  .exact it _ (.txt c Z) ((Kr _ es).map _)
  .exact it _ (.one c1 c2 (by rw[x.led,c1];rfl) (λn=>Z) (λj e=>by cases e) Z) (.refl _)
 cases c:w.params.followText "set-order" with
 |true=>rw[aq (by simp)];exact plain0 (.inl c)
 |false=>
  by_cases h1:es.size<=1
  .rw[aq λu=>by
    have:(!δ&&(!t.plain&&decide (es.size > 1)))=γ:=u;simp at this;omega]
   exact plain0 (.inr ⟨c,h1⟩)
  .have pl:=x.pl (by have:=x.sz;omega);rw[ak (by show (!δ&&(!t.plain&&decide (es.size > 1)))=γ;rw[pl];simp;omega)];refine ag (Pq es.size _ s cj λy d p=>?_);refine ag (qd ?_ (by
    rw[ah,p.length_eq,cj,x.sz,bV];omega))
   refine ag (pe (aK _ x.i2) x.d hf ?_);refine ag (dX ?_);have h:∀(l q:Obj) (b:Addr) (o:Obj),s.heap.get? b=U o->((s.heap.push l).push q).get? b=U o:=λl q b o e=>aK _ (aK _ e);have ki:(y.filterMap λp=>es[p]?.map bI).Perm (es.toList.map bI):=by refine(p.filterMap _).t ?_;rw[show (aZ es.size).filterMap (λp=>es[p]?.map bI)=((aZ es.size).filterMap λp=>es[p]?).map bI from(oV ..).symm,kJ]
   refine au ⟨_,Z,"set_iterator", _,⟨_,bp _ Z,Z⟩,yh.lookup,hQ _ _ s.heap.objs.size _ d ?_ ?_ ?_ (.inr (aL _)) (h _ _) ⟨⟨_,.ref s.heap.objs.size,bp _ Z,Z,Z,.drw c (aK _ (bp _ Z)) Z Z Z p Z⟩,h _ _ _ _ x.i2,x.d,hf⟩ ki⟩
   .rw[c9];exact iU _
   .exact Nat.lt_of_lt_of_eq (dF _) (c9 _ _).symm
   .rw[c9];exact aW (dF _)
end
section
variable{prog:aB}{w:az}{A:aG}{E:aa->af->Prop}{s:af}{S:Addr}{o:Obj}{es:Array (Int×aa)}{ep:Nat}{t:bG}{ss:aE}
def j?.f?{h h':Heap}{led:Bool}(x:j? w h S ss led o es ep t)(k:∀o,h.get? S=U o->h'.get? S=U o):j? w h' S ss led o es ep t:={ x with i2:=k _ x.i2 }
theorem collect_X(B:A.handled=O)(x:j? w s.heap S ss (!w.params.followText "set-order") o es ep t)(C:ss.length<64)
  (hQ:∀h2 k2 d2 acc,s.heap.objs.size<=h2.objs.size->(∀b o,s.heap.get? b=U o->h2.get? b=U o)->acc.Perm (es.toList.map bI)->Q acc { s with heap:=h2,toks:=k2,drawn:=d2 }):ao (model prog w) A (collect (.ref S)) Q E s:=by
 have hlt:=aP x.i2;have G:es.size<=63:=by have:=x.sz;omega
 let lO:Obj:={ cls:=.type "list", data:=.seq ([]:List aa).toArray };refine ag (qb (dM F.entry_proto_collect ?_));rw[eA F.plain_proto_collect _];refine ag (dX ?_);refine au ⟨fY pf _,dM F.entry_list_iadd ?_⟩;rw[eA pf _];show ao _ A.in1 (rU (.ref s.heap.objs.size) (.ref S) (.ref s.heap.objs.size)) _ _ _;have f:(s.heap.push lO).objs.size=s.heap.objs.size+1:=c9 _ _;have i:j? w (s.heap.push lO) S ss (!w.params.followText "set-order") o es ep t:=x.f? λo e=>aK _ e;have p:l9 { s with heap:=s.heap.push lO } (.ref S) "set" := ⟨o,i.i2,x.ex.1⟩;refine ag (jO p ?_);rw[aq (by
  have:nM (.ref s.heap.objs.size) (.ref S)=δ:=by simp[nM];exact λe=>ar e (f7 hlt)
  rw[this];decide)]
 refine ag (iter_X i C λh3 I TP ki q hI1 hI2 hTI hTP h it po=>?_);have hI:s.heap.objs.size+1<=I:=by rw[<-f];exact hI1
 have L3:=h _ _ (bp _ Z);have a:l9 { s with heap:=h3,drawn:=q } (.ref S) "set" := ⟨o,it.i2,x.ex.1⟩;have l:=λb o e=>h b o (aK _ e);refine ag (bL ?_);refine ag (gL a F.slot_set_len.lookup ?_);generalize hid:("set.__len__" : String)=c;wp_delta;rw[show splitId c=U ("set", "__len__") from by subst hid;decide +kernel];subst hid;refine ag (pH a sub_set_self ?_);rw[aq (by decide),ak (by decide +kernel)];refine ag (jO a ?_);refine au ?_;rw[ak (by decide +kernel)];refine ag (gX ?_);refine ag ?_;refine ag (lX L3 Z ?_);have d:=eX (dc (·.push Value.none)) L3 Z
 refine lX d Z ?_;have m:=eX (dc (·.pop)) d Z
 have oth:∀b o,b≠s.heap.objs.size->h3.get? b=U o->((h3.update s.heap.objs.size (dc (·.push Value.none))).update s.heap.objs.size (dc (·.pop))).get? b=U o:=
  λb o hb e=>(gy _ _ (cE hb)).t ((gy _ _ (cE hb)).t e)
 have hSI:=aW (cn hlt (ph hI));have hSf:s.heap.objs.size∉[I,S,TP]:=by
  intro z;rcases aJ.1 z with z|z
  .exact ar z (aW hI)
  .rcases aJ.1 z with z|z
   .exact ar z (f7 hlt)
   .rw[bh]at z;rcases hTP with e|e
    .exact ar (z.t e) (f7 hlt)
    .rw[<-z,f]at e;exact ar e (Nat.not_succ_le_self _)
 have W:=abh (prog:=prog) (w:=w) (A:=A.in1) (ki:=ki) (o:=o) (es:=es) (ep:=ep) (t:=t) (by simp[B]) hSI hTI;have M:ki.length<=63:=by rw[po.length_eq,ah,bM];exact G
 refine au ⟨fY F.plain_extend_loop _,codeAny_extend_loopS W.toS (by rw[bV];omega) _ hSf _ ki.length 0 _ _ _ Z (cD _)
  (W.frame 0 h3 _ ⟨it,cD _⟩ λb hb o e=>oth b o (λz=>hSf (by rw[<-z];exact hb)) e) m (ItemsOf.nil _) λs' acc' H hm hS' hacc=>?_⟩
 refine ag (wpAny_load hS' ?_);have r:acc'.toList=ki:=by
  apply lp;intro j;cases e:acc'.toList[j]? with
  |none=>rw[List.getElem?_eq_none_iff,bM,hacc.1]at e;exact(gz e).symm
  |some v=>rw[il]at e;exact(hacc.2 j v e).symm
 obtain⟨h2,g2,d2,k2,J⟩:=s';have u:=hm.gens;have y:=hm.os;subst u y;refine au (hQ h2 k2 d2 acc'.toList (f6 (aP hS')) (λb o e=>?_) (by rw[r];exact po));have hb:=aP e;exact hm.heap b o (λz=>by
  rcases aJ.1 z with z|z
  .exact ar z (aW hb)
  .exact ar (bh.1 z) (aW (cn hb (ph hI)))) (oth b o (aW hb) (l b o e))
def set_loopX(W:WalksS prog w A.in1 I fp l GG n PP SS)(hSf:S∉fp)(ks:aE)(hn:ks.length=n)(F:n<64)
  (hval:∀i v,PP i v->∃x tk,ks[i]?=U x/\v=.str x tk):∀(k i:Nat) (s:af) (o:Obj) (es:Array (Int×aa)) (ep:Nat) (t:bG),n - i=k->i<=n->SS i s->j? w s.heap S (Hj (ks.take i)) led o es ep t->
   (∀s' o es ep t,Moved (S::l) GG s s'->j? w s'.heap S (Hj ks) led o es ep t->R (.ok (.ret .none)) s')->
   cy (model prog w) A (.builtin "set.update.loop" ⟨[.ref S,.ref I],[]⟩) R s:=by
 have hSw:=λz=>hSf ((W).sub _ z);have up:∀b∈l,b∈S::l:=λb z=>ba _ z;intro k
 induction k with
 |zero=>
  intro i s o es ep t G hi hst x hR;obtain rfl:i=n:=by omega
  refine dM gw ?_;rw[eA dW _];refine ag (W.done s _ _ hst λs' hm=>?_);rw[ik (by omega)]at x;exact au (hR s' o es ep t (hm.mono up) { x with i2:=hm.heap S _ hSw x.i2 })
 |succ k r=>
  intro i s o es ep t G hi hst x hR;have hlt:i<n:=by omega
  refine dM gw ?_;rw[eA dW _];refine ag (W.item i s _ _ hlt hst λv s' hP hst' hm=>?_);obtain⟨q,tk,C,rfl⟩:=hval i v hP;refine ag (bL ?_);unfold setAdd;refine bL ?_;refine ag (pq ?_);have split:Hj (ks.take (i+1))=if q∈Hj (ks.take i)then Hj (ks.take i)else Hj (ks.take i)++[q]:=by unfold Hj;rw[jD,C,o5];rfl
  have u:={ x with i2:=hm.heap S _ hSw x.i2 };have N:=by have h1:=MY (On (ks.take i)) λz H=>LB.1 H;rw[bU]at h1;omega
  refine add_x u (by unfold scanBound;omega) (λinn=>?_) λnin h' J es' B M p y=>?_
  .have e:Hj (ks.take (i+1))=Hj (ks.take i):=by rw[split,ak inn]
   refine au ⟨fY dW _,r (i+1) _ o es ep t (by omega) hlt (W.frame _ s' s'.heap _ hst' (gG _ _) λb z o e=>e) (by rw[e];exact u) λf h d c j a m=>?_⟩;exact hR f h d c j (jR W.gtrans ((hm.mono up).then_heap (gG _ _) λb o z e=>e) a) m
  have e:Hj (ks.take (i+1))=Hj (ks.take i)++[q]:=by rw[split,aq nin]
  refine au ⟨fY dW _,r (i+1) _ _ _ _ _ (by omega) hlt (W.frame _ s' h' _ hst' (gG _ _) λb z o e=>?_) (by rw[e];exact y) λf h d c j a m=>?_⟩
  .rw[p.2 b (λy:b=S=>hSf (by rw[<-y];exact z))];exact e
  .refine hR f h d c j (jR W.gtrans ((hm.mono up).then_heap (gG _ _) λb o z e=>?_) a) m;rw[p.2 b (λy:b=S=>z (by rw[y];exact bb))];exact e
def set_X{ks:aE}(I:dr X pins σ H s)(M:A.handled=O)(N:f5 X.K H a (ks.map V.str))(j:ks.length<64)
  (h:∀h2 k2 o es ep t,j? X.w h2 s.heap.objs.size (Hj ks) (!X.w.params.followText "set-order") o es ep t->(∀b o,b<s.heap.objs.size->s.heap.get? b=U o->h2.get? b=U o)->Q (.ref s.heap.objs.size) { s with heap:=h2,toks:=k2 }):
  ao (model X.prog X.w) A (call (.type "set") [.ref a]) Q E s:=by
 have h3:A.in1.in1.in1.handled=O:=by simp[M]
 obtain⟨c,r,pp,_⟩:=I.list N;obtain⟨o,m,l,n,hd⟩:=pp.isList;have hlt:=aP m;have hne:=aW (eF hlt);have p:=by have:=r.length;rw[ah]at this;exact this
 refine EH (PS:=λh2=>∃o es ep t,j? X.w h2 s.heap.objs.size (Hj ks) (!X.w.params.followText "set-order") o es ep t) m l l3 kT (by decide)
  (λA Q E s1 e k=>fP ⟨o,e,l,n,hd⟩ k) (λtk' R hR=>?_) λh2 k2 ⟨o,es,ep,t,x'⟩ P=>h h2 k2 o es ep t x' P
 have x:∀{b:Addr} {y:Obj},s.heap.get? b=U y->((s.heap.push (zA (!X.w.params.followText "set-order"))).push { cls:=.type "list_iterator", data:=.fields #[.ref a,.int 0 0] }).get? b=U y:=λe=>aK _ (aK _ e);have it:((s.heap.push (zA (!X.w.params.followText "set-order"))).push { cls:=.type "list_iterator", data:=.fields #[.ref a,.int 0 0] }).get? (s.heap.objs.size+1)=U { cls:=.type "list_iterator", data:=.fields #[.ref a,.int 0 0] }:=by rw[show s.heap.objs.size+1=(s.heap.push (zA (!X.w.params.followText "set-order"))).objs.size from(c9 _ _).symm];exact bp _ Z
 have W:=(iW (prog:=X.prog) (w:=X.w) h3 (s.heap.objs.size+1) a hne c.toArray).toS;have notin:s.heap.objs.size∉[s.heap.objs.size+1,a]:=by
  intro z;rcases aJ.1 z with z|z
  .exact ar z (aW (dF _))
  .exact ar (bh.1 z) (f7 hlt)
 refine set_loopX W notin ks (by rw[bc,p]) (by rw[bc,<- p];exact j) ?_ (c.toArray.size - 0) 0 _ (zA (!X.w.params.followText "set-order")) #[] 0 (.fresh 0 0 (!X.w.params.followText "set-order")) Z (cD _) ⟨⟨_,it,Z,Z⟩,⟨o,x m,l,n,hd⟩⟩ ⟨aK _ (bp _ Z),⟨Z,Z,Z⟩,Z,Z,Z,λz=>ar z (eI 0),λe J=>(by cases J),.nil⟩ λs2 T f d t2 mv B=>?_
 .intro i v e;rw[jt]at e;have hi:i<ks.length:=by rw[p];exact(bR.1 e).1
  obtain⟨u,q,tk,ru⟩:=r.get (by rw[bA,bg hi];rfl);rw[e]at q;cases q;exact⟨ks[i],tk,bg hi,ru⟩
 .obtain⟨h2,g2,d2,k2,Y⟩:=s2;have F:=mv.gens;have C:=mv.drawn;have G:=mv.os;subst F C G;refine hR h2 k2 ⟨T,f,d,t2,B⟩ λb o hb e=>mv.heap b o (λz=>?_) (x e);rcases aJ.1 z with z|z
  .exact ar z (aW hb)
  .exact ar (bh.1 z) (aW (eF hb))
end
section
variable{prog:aB}{w:az}{A:aG}{E:aa->af->Prop}{s:af}
theorem R?:∀(l:List aa),(∀v∈l,∃x a,v=.str x a)->kU l (l.map sOf)
 |[],_=>.nil
 |v::l,h=>by obtain⟨x,a,rfl⟩:=h v bb;exact .cons x a (R? l λu b=>h u (ba _ b))
def sort_strs(sa:kU vs ss)(a:vs.length<64)(d:s.heap.get? l=U (seqObj "list" vs.toArray n))
  (h:∀h' e out,Dh l s.heap h'->eg ((Cv ss).map V.str) out->h'.get? l=U (seqObj "list" out.toArray e)->P (.done (.ret .none)) { s with heap:=h' }):
  ao (model prog w) A (dQ.«list.sort» ⟨[.ref l],[]⟩) P E s:=by
 refine list_sort_treeK strKind_oneLt d sa.keysOf (λf i fc e=>keyKind_strs (by rw[<-e];exact sa)) a λc a1 a2=>?_;obtain⟨r,j,m,p⟩:=sorted_out_str sa a1 a2;obtain⟨e,q⟩:=sortedHeap_at d;refine h _ e ((arrOf c).map (·.2)).toList (λb o hb z=>by rw[sortedHeap_old hb (aP z)];exact z) ?_ (by rw[Array.toArray_toList];exact q)
 rw[<-Oj m p];exact XM j
def sorted_X(l:A.handled=O)(X:j? w s.heap S ss (!w.params.followText "set-order") o es ep t)(f:ss.length<64)
  (hQ:∀(p:Addr) (h2:Heap) (k2:Nat) (d2:Drawn) (e:Nat) (out:List aa),s.heap.objs.size<=p->(∀b o,s.heap.get? b=U o->h2.get? b=U o)->eg ((Cv ss).map V.str) out->h2.get? p=U (seqObj "list" out.toArray e)->Q (.ref p) { s with heap:=h2,toks:=k2,drawn:=d2 }):
  ao (model prog w) A (call (.builtin "sorted") [.ref S]) Q E s:=by
 refine nH kind_sorted plain_sorted entry_sorted (args_sorted1 _) ?_;refine ag (au ?_);refine ag (collect_X (by simp[l]) X f λg k2 d2 acc q h d=>?_);have j:acc.length<64:=by rw[d.length_eq,ah,bM,X.sz];exact f
 have sa:=R? acc λv m=>by obtain⟨e,c,rfl⟩:=av.1 (d.mem_iff.1 m);obtain⟨x,tk,rfl⟩:=X.el e c;exact⟨x,tk,Z⟩
 have es:Cv (acc.map sOf)=Cv ss:=by
  have u:=by have:=d.map sOf;rw[bf]at this;exact this.t X.p
  exact kI (λa b n n=>IK a b) (jr IJ HG _) (jr IJ HG ss) ((ir _ P0).t (u.t (ir ss P0).symm))
 refine ag (md ?_ (by rw[bV];omega));have on:(g.push (seqObj "list" acc.toArray 0)).get? g.objs.size=U (seqObj "list" acc.toArray 0):=bp _ Z;refine ag (bL (fS qe ⟨_,on,Z⟩ pQ ?_ (qf _)));refine sort_strs sa j on λh' e out r i c=>?_;rw[es]at i;exact⟨_,Z,au ⟨_,Z,hQ g.objs.size h' k2 d2 e out q (λb o z=>r b o (aW (aP (h b o z))) (aK _ (h b o z))) i c⟩⟩
end
section
variable{X:Cx}{G:Bg}
def tSortX(K:aw)(d:TE):TE:=λe H Q=>d e H λx b=>∃(a:Addr) (c:aE),x=.ref a/\f5 K b a (c.map V.str)/\c.length<64/\∀(p:Addr),b p=O->Q (.ref p) (e7 b p (.cf ((Cv (Hj c)).map V.str)))
def pe_sortX{p2 p3:Pos}(j:X.ll=γ)(g1:Gl X "sorted")(F:X.mg "sorted" = O)(g2:Gl X "set")(J:X.mg "set" = O)(y:PE X e P)
  (z1:ay [Expr.Call (.Name "set" p2) [e] [] p3] X.cb=[(δ,eval (.Call (.Name "set" p2) [e] [] p3) X.cb)]:=by rfl) (z2:ay [e] X.cb=[(δ,eval e X.cb)]:=by rfl):PE X (.Call (.Name "sorted" T) [.Call (.Name "set" p2) [e] [] p3] [] W) (tSortX X.K P):=by
 intro pins s σ H Q I h;refine dD (Bj I g1 F boot_sorted ?_ (by decide) (by decide));refine callWith_builtin1 ?_ z1 Z;rw[z1];refine eD ?_;refine dD (Bj I g2 J qR ?_ (by decide) (by decide));refine callWith_type1 (fu (vq y xB z2 p3 pins s σ H (λvs H1=>match vs with
  |[x]=>∃(a:Addr) (ks:aE),x=.ref a/\f5 X.K H1 a (ks.map V.str)/\ks.length<64/\∀(p:Addr),H1 p=O->Q (.ref p) (e7 H1 p (.cf ((Cv (Hj ks)).map V.str)))
  |_=>False) I h) λus N A=>?_) z2 Z
 obtain⟨vs,H1,d,r1,f⟩:=A
 match vs,r1,f with
 |[x],r1,f=>
 obtain⟨a,ks,w,B,c,q⟩:=f;subst w;obtain⟨u,rfl,M⟩:=m? r1;cases M;have R:=jA (MY (On ks) λz C=>LB.1 C) c;refine set_X d (d.ok.hd j) B c λh2 k2 o es ep t x E=>?_;refine fQ ?_;have i:dr X pins σ H1 { N with heap:=h2,toks:=k2 }:=d.f? λb o e=>E b o (aP e) e;refine sorted_X (d.ok.hd j) x R λp h3 k3 r e out l k4 S hg=>?_;have m:=i.laid (t':=k3) (o:=.cf ((Cv (Hj ks)).map V.str)) k4 l ⟨by
  rw[ah,bV,show (Cv (Hj ks)).length=_ from(ir _ P0).length_eq];omega,out,e,S,hg⟩
 exact⟨.ref p,_,dr.drw m r,Z,q p (i.fb.fresh l)⟩
def vj(f:FE):FA:=λd=>match f d with
 |some (.cf c,a)=>match Gv c with
  |some b=>if b.length<64 then U ((Cv (Hj b)).map D.str,a)else O
  |none=>O
 |_=>O
set_option tactic.hygienic true
def pfn_sortX(h:PE X e (tSortX G.K (tF G f))):PE X e (D0 G (vj f)):=PE.ea h λI H Q u=>by
 obtain⟨F,y,j,C,z,R,e,k⟩:=u;unfold vj at e;split at e
 .rename_i m A o;cases d:Gv m with
  |none=>simp only[d]at e;cases e
  |some x=>
   simp only[d]at e;split at e
   .rename_i i;cases e;refine⟨F,y,j,_,_,R,o,λv B l s b r=>?_⟩;obtain⟨a,E,rfl,q,t⟩:=r;have w:=IF t d;subst w;exact⟨a,x,Z,f5.of (b.sub _ _ q),i,λp c=>k p _ _ _ s (b.jj c _) uu (b.fx c) (b.iE c) (b.apart c) (IL _)⟩
   .cases e
 .cases e
end
set_option tactic.hygienic false
section
variable{X:Cx}{B:Bz}{k:Nat}{e:Expr}{f:FE}{p p2 p3 pos:Pos}
def zr_wxI [C:Cz X B k][N:Nb B "sorted"][b:Nb B "set"](i:S1 X e)(h:Gz X "sorted")(a:Gz X "set")(d:ZE X B e f)(z:ay [Expr.Call (.Name "set" p2) [e] [] p3] X.cb=[(δ,eval (.Call (.Name "set" p2) [e] [] p3) X.cb)]):ZN X B (.Call (.Name "sorted" p) [.Call (.Name "set" p2) [e] [] p3] [] pos) (vj f):=⟨pfn_sortX (by rw[<-C.K];exact pe_sortX C.c h (C.mg▸N.p) a (C.mg▸b.p) d.p z i)⟩
end
end L4
namespace HT
open PySem PySem.Spec PyProof.Rows
section
variable{prog:aB}{w:az}{A:aG}{E:aa->af->Prop}{s:af}
theorem J?(hne:l≠it):∀(n i:Nat) (s:af) (Q:List aa->af->Prop),s.heap.IsListIter it l i->s.heap.IsList l items->i+n<=items.size->
  (∀h',h'.IsListIter it l (i+n)->dO it s.heap h'->Q ((items.toList.drop i).take n) { s with heap:=h' })->ao (model prog w) A (draw (.ref it) n) Q E s
 |0,i,s,Q,hit,_,_,hQ=>by exact au (by simpa using hQ s.heap hit (t9 ..))
 |n+1,i,s,Q,hit,d,hle,hQ=>by
  have hlt:i<items.size:=by omega
  refine ag (nP hit d (x:=items[i]) (by simp[hlt]) λe hit₁ a=>?_);refine ag (bL (J? hne n (i+1) _ _ hit₁ (oW d a.extBut hne) (by omega) λc hit₂ b=>au ?_));have hd:items.toList.drop i=items[i]::items.toList.drop (i+1):=by simp[jl,hlt]
  have:=hQ c (by rw[show i+(n+1)=i+1+n by omega];exact hit₂) (a.t b);rw[hd,List.take_succ_cons]at this;exact this
def T?(j:A.handled=O)(f:s.heap.IsList l items)
  (hQ:∀h',qT s.heap.objs.size s.heap h'->Q items.toList { s with heap:=h' }):ao (model prog w) A (unpackItems (.ref l) items.size O) Q E s:=by
 have hlt:l≠s.heap.objs.size:=by obtain⟨o,m,_⟩:=f;exact aW (aP m)
 refine ag ?_;refine ag (gL f.typeIs slot_list_iter.lookup ?_);refine au ?_;simp only[eE,if_false];refine ag (bL (fP f ?_));refine ag (bL (J? hlt items.size 0 _ _ ⟨_,bp _ Z,Z,Z⟩ (f.push _) (by omega) λi hit₁ a=>?_));have hall:List.take items.size (List.drop 0 items.toList)=items.toList:=by rw[qj];exact ik (by simp)
 rw[hall];rw[aq (by simp)];have d:=oW (f.push _) a.extBut hlt;refine ag (bL (nV j hit₁ d (by simp) λh c=>?_));simp only[Option.isSome_none,eE,if_false];exact au (hQ h λb o hb e=>c b o hb (a.extBut b o hb (aK _ e)))
end
end HT
namespace L2
open PySem PySem.Spec PyProof.Rows
section
variable{X:Cx}{pos:Pos}
inductive IgLst(K:aw) (n:Nat) (t:TGs) (v:V) (σ:St) (H:Hp) (Q:(St->Hp->Prop)):Prop
 |i (a xs) (h0:v=.ref a) (h1:f5 K H a xs) (h2:xs.length=n) (h3:t xs σ H Q):IgLst K n t v σ H Q
def gLst(K:aw)(n:Nat)(t:TGs):TG:=λv a H Q=>IgLst K n t v a H Q
def pg_lst(l:X.ll=γ)(h:X? X es t)
  (hn:(cu es X.cb).length=n) (hst:(cu es X.cb).findIdx? (·.1)=O):PG X (.Tuple es k pos) (gLst X.K n t):=by
 intro pins s σ H v u Q I r hw;obtain⟨a,xs,i,p,m,hw⟩:=hw;subst i;cases r;obtain⟨c,d,q,x⟩:=I.list p;have j:(cu es X.cb).length=c.toArray.size:=by simp[hn,<- m,d.length]
 rw[assign_Tuple];refine ag (jM ?_);unfold unpack;rw[j,hst];refine ag (bL (HT.T? (I.ok.hd l) q.isList λh' w=>?_));have f:dr X pins σ H { s with heap:=h' }:=I.f? λb o e=>w b o (aW (aP e)) e;exact h pins _ σ H xs _ Q f (by simpa using d) hw
end
end L2
namespace L4
open PySem PySem.Spec PyProof.Rows L2 L3
section
variable{X:Cx}{G:Bg}
def gTL(b:aN->aM->Option aM)(n:Nat):FG:=λd c=>match d with
 |.cf a=>if a.length=n then b a c else O
 |_=>O
set_option tactic.hygienic true
def pfg_lst(h:PG X (.Tuple j k pos) (gLst G.K m (QD G n l))):PG X (.Tuple j k pos) (tFG G n (gTL l m)):=PG.ea h λv w H Q p=>by
 obtain⟨F,u,f,d,b,R,r,e,k⟩:=p;cases d with
 |cf i=>
  unfold gTL at e;simp only at e;split at e
  .rename_i q;obtain⟨a,t,rfl,o,c⟩:=r;exact⟨a,t,Z,f5.of (R.sub _ _ o),by rw[<-uk c];exact q,F,u,f,i,b,R,c,e,k⟩
  .cases e
 |_=>cases e
set_option tactic.hygienic false
def cRep(f g:FE):FA:=λd=>match f d with
 |some (.cf c,a)=>match g a with
  |some (.int k,b)=>if c.length * k.toNat<=1000/\-1000<=k/\k<=1000 then U ((b9 k.toNat c).flatten,b)else O
  |_=>O
 |_=>O
theorem J'(r:di G H a b):∀k:Nat,di G H (b9 k a).flatten (b9 k b).flatten
 |0=>uU
 |k+1=>by rw[fO,fO,gB,gB];exact wa r (J' r k)
set_option tactic.hygienic true
def pfn_rep(B:PE X a (tF G f))(C:PE X b (tF G g)):PE X (.BinOp a .Mult b pos) (D0 G (cRep f g)):=PE.ea (Mb YJ B C) λY H Q E=>by
 obtain⟨F,N,o,d,P,R,e,k⟩:=E;unfold cRep at e;split at e
 .rename_i W c y;split at e
  .rename_i m S z;split at e
   .rename_i I;cases e;refine⟨F,N,o,_,c,R,y,λv q t s x r=>⟨F,c,q,_,_,x,z,λu T w l R2 M=>?_⟩⟩;have J:=en.mono l _ _ r;obtain⟨a1,i,rfl,A,j⟩:=J;subst M;refine⟨a1,m,i,Z,Z,R2.sub _ _ A,by omega,by omega,by rw[<-uk j];exact w6 I.1,λp h=>?_⟩;exact k p _ _ _ (s.t l) (R2.jj h _) uu (R2.fx h) (R2.iE h) (R2.apart h) (J' j _)
   .cases e
  .cases e
 .cases e
end
set_option tactic.hygienic false
section
variable{X:Cx}{B:Bz}{k j n' k':Nat}{x:Str}{e e':Expr}{es:List Expr}{f f':FE}{a n:FA}{p p' pos:Pos}{g:aN->aN->Option (D×aN)}{gs:aN->aM->Option aM}{i:Int}{m:Nat}
def zr_gtuL [C:Cz X B k](h:ZH X B es m gs)(b:(cu es X.cb).length=n')(d:(cu es X.cb).findIdx? (·.1)=O):ZG X B (.Tuple es k' pos) m (gTL gs n'):=⟨pfg_lst (by rw[<-C.K];exact pg_lst C.c h.p b d)⟩
def zr_rpN(b:ZE X B e f)(c:ZE X B e' f'):ZN X B (.BinOp e .Mult e' pos) (cRep f f'):=⟨pfn_rep b.p c.p⟩
end
section
variable{X:Cx}{G:Bg}
inductive IrNiT(K:aw) (x:V) (y:V) (H:Hp) (Q:VK):Prop
 |i (p xs d l) (h0:y=.ref p) (h1:f5 K H p xs) (h2:L3.en K H d x) (h3:L3.di K H l xs) (h4:mn d<=20) (h5:(∀e∈l,mn e<=20)) (h6:Q (.Y (!l.any λe=>x? e d)) H):IrNiT K x y H Q
def rNiT(K:aw):R2:=λx y H Q=>IrNiT K x y H Q
def op_niT(W:X.A.units+64<cLine):j3 X (bB .NotIn) (rNiT X.K):=by
 intro C s σ H x y v u Q I S T h;obtain⟨p,xs,d,l,rfl,J,P,R,hd,F,q⟩:=h;cases T;obtain⟨j,r,pl,Y⟩:=I.list J;obtain⟨M,N⟩:=X1 R r;have B:=λe a z w b c=>Sb I e d z x w v X.A.in1 b P c S (by have:=F e a;show X.A.units+1+_+_<_;omega);let f:=λw=>@decide (∃e∈l,∃z,L3.en X.K H e z/\eo z w/\x? e d=γ) (ib _);refine oM f pl.isList (λw o=>?_) ⟨.Y _,H,I,Z,?_⟩
 .by_cases m:∃e∈l,∃z,L3.en X.K H e z/\eo z w/\x? e d=γ
  .have t:f w=γ:=@br _ (ib _) m;obtain⟨e,a,z,b,c,i⟩:=m;have:=B e a z w b c;rw[i]at this;rw[t];exact this
  .have t:f w=δ:=@bj _ (ib _) m;obtain⟨e,a,z,b,c⟩:=M w (by simpa using o);have:=B e a z w b c;rw[jE.2 λi=>m ⟨e,a,z,b,c,i⟩]at this;rw[t];exact this
 .have E:j.toArray.any f=l.any λe=>x? e d:=by
   rw[show j.toArray.any f=j.any f by simp];refine dG.2 ?_;rw[fA,fA];constructor
   .rintro⟨w,o,m⟩;obtain⟨e,a,z,b,c,i⟩:=@bq _ (ib _) m;exact⟨e,a,i⟩
   .rintro⟨e,a,i⟩;obtain⟨w,o,z,b,c⟩:=N e a;exact⟨w,o,@br _ (ib _) ⟨e,a,z,b,c,i⟩⟩
  rw[E];exact q
def dNiT:D->D->Option D:=λx y=>match y with
 |.cf a=>match B? x,Bo a with
  |some d,U l=>if decide (mn d<=20)&&l.all (λe=>decide (mn e<=20))then U (.Y (!l.any λe=>x? e d))else O
  |_,_=>O
 |_=>O
set_option tactic.hygienic true
def od_niT:l4 G (rNiT G.K) dNiT:=λx y z r H v u Q e s q h k=>by
 unfold dNiT at e;split at e
 .rename_i i;cases b:B? x with
  |none=>simp only[b]at e;cases e
  |some d=>
   cases c:Bo i with
   |none=>simp only[b,c]at e;cases e
   |some l=>
    simp only[b,c]at e;split at e
    .rename_i f;cases e;rw[aV,cq,aR]at f;have h:=en.mono s _ _ h;obtain⟨a,j,rfl,m,o⟩:=h;exact⟨a,j,d,l,Z,f5.of m,HD x v d (en.mono s _ _ q) b,EF i j l o c,f.1,λe p=>bq (f.2 e p),k _ λn n=>wV _⟩
    .cases e
 .cases e
set_option tactic.hygienic false
instance niT2:Q' .NotIn dNiT:=⟨λX G h a=>⟨_,by rw[<-h];exact op_niT a,od_niT⟩⟩
end
end L4
namespace L2
open PySem PySem.Spec PyProof.Rows PySem.W
abbrev vErr:List aa:=[.type "ValueError", .type "Exception", .type "BaseException", .type "object"]
def XC(K:aw)(C:Addr):Prop:=excIn K C vErr "ValueError.__new__" = γ
set_option tactic.hygienic true
def XC.obj{K:aw}{C:Addr}{h:Heap}(q:XC K C)(i:K.In h):OwnCls "x" C vErr "ValueError.__new__" (λv=>U (.ref C)) h:=by
 refine⟨Z,?_⟩;have a:excIn K C vErr "ValueError.__new__" = γ:=q;unfold excIn at a;split at a
 .rename_i p r I lk;split at a
  .rename_i N M f a1 j l nw m t u;simp only[aV,beq_iff_eq,eG]at a;obtain⟨⟨⟨⟨⟨w,y⟩,z⟩,A⟩,e⟩,B⟩:=a;cases r with
   |mk F bs mro G H hd J sub o col del=>cases w;cases y;have b:mro=_:=t;have d:del=δ:=z;cases b;cases d;obtain⟨E⟩:=I;have c:E=_:=u;cases c;exact⟨M,G,F,H,bs,hd,J,sub,o,col,p,f,a1,j,l,m,_,i _ _ lk,.of_isNs (isNs_of_in i e),nsMap_none_of_in i e B,tail_of_in i A⟩
  .cases a
 .cases a
structure Fly(P:aB)(w:az)(C:Addr)(l:List Env)(H:Hp)(s:af)(H':Hp)(a:Addr)(s':af):Prop where
 ex:∃(B:Heap) (a0:aa),qF B l a (.ref C) a0 s'.heap/\p5 P w H' B/\∀b o,s.heap.get? b=U o->b∉xr l->∃o',B.get? b=U o'
 os:s'.os=s.os
 gi:d8 s'.gens
 un:Un (xr l) [] H H' s.heap s'.heap
set_option tactic.hygienic false
def CXW(P:aB)(w:az)(C:Addr):CXT:=λl H s E e c=>∃a b,e=.ref a/\Fly P w C l H s b a c/\E e O b
def z?{l:List Env}{H H':Hp}{h h1 h2 B:Heap}(t:∀b o,h.get? b=U o->b∉xr l->∃c,B.get? b=U c)(st:B.StaysIn h1)(i:B.StaysIn h2)(r:h1.FunFrames B l)(up:h1.UpToSlots h2)(u:Un (xr l) [] H H' h h1):Un (xr l) [] H H' h h2 where
 keep:=λb o q n hb m=>by obtain⟨c,e⟩:=t b o q hb;have j:=u.keep b o q n hb m;have a:=st b c e;rw[j]at a;cases a;exact i b _ e
 slot:=λb o q n hb m=>by obtain⟨sl,j⟩:=u.slot b o q n hb m;obtain⟨_,w,a,d⟩:=r.mem hb;rw[j]at a;cases a;obtain⟨f,p⟩:=up b _ j d;exact⟨f,p⟩
 free:=u.free
 there:=λb o q m=>by
  by_cases hb:b∈xr l
  .obtain⟨_,w,a,d⟩:=r.mem hb;obtain⟨f,p⟩:=up b _ a d;exact⟨_,p⟩
  .obtain⟨c,e⟩:=t b o q hb;exact⟨c,i b _ e⟩
 sh:=u.sh
 tz:=u.tz
 x1:=u.x1
section
variable{P:aB}{w:az}{K:aw}{mg:Str->Option aa}{b?:Heap}{N:aE}{qual:Str}{scope:cJ}{f C:Addr}{cd:aa}{A:aG}{dg:List Env}{s:af}{H:Hp}{E:XK}
abbrev cxW(C:Addr)(P:aB)(w:az)(K:aw)(mg:Str->Option aa)(b?:Heap)(N:aE)(qual:Str)(scope:cJ)(f:Addr)(cd:aa)(A:aG)(dg:List Env)(s:af)(H:Hp)(E:XK):Cx:=K8 (CXW P w C) P w K mg b? N qual scope f cd A dg s H E
def kb_out{a:cA}{p:St}{e:Hp}{d:af}{B:Heap}(I:dr (cxW C P w K mg b? N qual scope f cd A dg s H E) a p e d)(l:∀b o,d.heap.get? b=U o->b∉xr (cxW C P w K mg b? N qual scope f cd A dg s H E).stack->∃c,B.get? b=U c):
  ∀b o,s.heap.get? b=U o->b∉xr dg->∃c,B.get? b=U c:=λb o q i=>by
 obtain⟨m,h⟩:=I.b?.there b o q (λz=>nomatch z);refine l b m h λj=>?_;rcases aJ.1 (I.O' b j)with z|z
 .exact ar (cn (aP q) I.ok.above) (by rw[z];exact eI _)
 .exact i z
def pass_body:l? (CXW P w C) (cxW C P w K mg b? N qual scope f cd A dg s H E) (λv v H'=>∀e,E e O H'):=λpins σ H1 i e s' I h=>by obtain⟨a,H',rfl,c,z⟩:=h;obtain⟨B,a0,hf,fb,d⟩:=c.ex;refine wpAny_leaves_onW I.ok.frames Z hf λh2 b up=>?_;have u:=z? d hf.1 b.1 hf.2.2.1 up c.un;have J:=I.Rn (s':={ s' with heap:=h2 }) (ch:=[]) c.os u (fb.f? b.1) c.gi λv z=>nomatch z;exact⟨a,H',Z,⟨⟨B,a0,b,fb,kb_out I d⟩,J.os,J.gi,J.b?⟩,z _⟩
def made_body{pins:cA}{σ:St}{H1:Hp}{d:af}{a:Addr}{vs:List aa}{h':Heap}(I:dr (cxW C P w K mg b? N qual scope f cd A dg s H E) pins σ H1 d)(j:qk d.heap h' a (.ref C) vs)(z:∀e,E e O H1):
  (cxW C P w K mg b? N qual scope f cd A dg s H E).xe (.ref a) { d with heap:=h' }:=by
 have hin:∀cb∈(cxW C P w K mg b? N qual scope f cd A dg s H E).stack,∀b,cb.frame=U b->b∈xr (cxW C P w K mg b? N qual scope f cd A dg s H E).stack:=λcb r b hb=>eC.2 ⟨cb,r,hb⟩;have m:=funFrames_hide I.stack hin;have p:∀b o,d.heap.get? b=U o->b∉xr (cxW C P w K mg b? N qual scope f cd A dg s H E).stack->∃x,(hideAll d.heap (xr (cxW C P w K mg b? N qual scope f cd A dg s H E).stack)).get? b=U x:=λb o q n=>⟨o,mE _ q n⟩;have fb:p5 P w H1 (hideAll d.heap (xr (cxW C P w K mg b? N qual scope f cd A dg s H E).stack)):=λb o e=>(I.fb b o e).U' (λc u l q=>mE _ q λhm=>by
  have n:=I.N' c hm;rcases l with rfl|l
  .rw[e]at n;cases n
  .rw[l]at n;cases n) (λv q=>q) λv v q=>q
 refine wpAny_leaves_madeW (h:=d.heap) I.ok.frames Z (λb o q=>mK _ q) m j λh2 t i v v up=>?_;have u:=z? p (λb o q=>j.keeps b o (mK _ q)) i.1 (m.of_keeps λb o q v=>⟨o,j.keeps b o q,Z⟩) up (Un.f? (fs:=xr (cxW C P w K mg b? N qual scope f cd A dg s H E).stack) (ex:=[]) (H:=H1) j.keeps);have J:=I.Rn (s':={ d with heap:=h2 }) (ch:=[]) Z u (fb.f? i.1) I.gi λv z=>nomatch z;exact⟨a,H1,Z,⟨⟨_,_,i,fb,kb_out I p⟩,J.os,J.gi,J.b?⟩,z _⟩
end
def Mades(X:Cx)(C:Addr)(A_:Hp->Prop):Prop:=∀(pins:cA) (σ:St) (H:Hp) (s:af) (a:Addr) (vs:List aa) (h':Heap),dr X pins σ H s->qk s.heap h' a (.ref C) vs->A_ H->X.xe (.ref a) { s with heap:=h' }
section
variable{X:Cx}{C:Addr}{A_:Hp->Prop}{x:Str}{np cpos pos:Pos}{e:Expr}{es:List Expr}{t:TA}
def ps_raise(q:XC X.K C)(S:X.ll=γ)(Y:X.mg x=U (.ref C))(mk:Mades X C A_)(Q:PA X (e::es) t)(W:Gl X x)(i:(x==("__debug__" : Str))=δ)(j:ay (e::es) X.cb=(δ,eval e X.cb)::ay es X.cb)(hpl:(bE cpos (ay es X.cb)).any (·.1)=δ):
  PS X (.Raise (U (.Call (.Name x np) (e::es) [] cpos)) O pos) (λv f H=>t f H λF G=>F.length<=aC/\A_ G):=by
 intro c s f H D I h;obtain⟨M,N,B,qn,bs,hd,E,sub,l,col,m,p,u,w,y,A,mN,hC,hN,hni,T⟩:=(q.obj I.y'.kin).obj;have R:M.contains (.type "BaseException")=γ:=T.hasType (b:=γ) Z;refine wpAny_Raise_call_subU (nm:=B) (q:=qn) (N:=N) (bs:=bs) (hdct:=hd) (sn:=E) (sub:=sub) (ab:=l) (col:=col) (dd:=m) (k0:=p) (k1:=u) (k2:=w) (k3:=y) (k5:=A) oj Z oj R (I.ok.hd S) (by rw[j];show (δ||(bE cpos (ay es X.cb)).any (·.1))=δ;rw[hpl];rfl) hni (z9 I W Y ⟨Z,?_⟩ i)
 rw[j];have o:=Q cpos c s f H _ I h;rw[j]at o;refine gA (fu o λus s2 zz=>?_);obtain⟨F,J,d,r,l2,z⟩:=zz;refine⟨Z,by rw[<-r.length];exact l2,d.bk _ _ hC,hN.keeps d.bk,T.keeps d.bk,λP a hx=>mk c f J s2 a us P d hx z⟩
end
abbrev Cx.Pr(X:Cx)(v:aa):Cx:={ X with A:=X.A.mark (U v),ll:=δ,xe:=λu u=>False }
theorem dr.Pr{X:Cx}{a:cA}{b:St}{H:Hp}{s:af}(I:dr X a b H s)(v:aa):dr (X.Pr v) a b H s:=
 ⟨⟨I.ok.y',I.ok.kind,I.ok.yr,I.ok.blt,I.ok.above,I.ok.inj,I.ok.has,I.ok.cab,(λz=>by cases z),I.ok.frames,I.ok.stk,I.ok.exf,I.ok.bs,I.ok.bsz,I.ok.S2,I.ok.W',I.ok.qi,I.ok.frf⟩,I.os,I.gi,I.b?,I.C',I.cell,I.free,I.ke,I.C?,I.fb,I.len⟩
section
variable{X:Cx}{pins:cA}{σ:St}{H:Hp}{s:af}
def PA.Z'{a:List Expr}{t:TA}{b:aa->af->Prop}(h:PA X a t)(n:∀e s,¬X.xe e s):PA (X.g? b) a t:=λpos pins s σ H Q I f=>
 bQ (h pos pins s σ H Q I.ij f) (λ_ _ ⟨v,c,d,r,q⟩=>⟨v,c,d.g? b,r,q⟩) λe s z=>(n e s z).elim
def PT.Z'{e:Expr}{t:TT}{a:aa->af->Prop}(h:PT X e t)(n:∀e s,¬X.xe e s):PT (X.g? a) e t:=λpins s σ H Q I d=>
 bQ (h pins s σ H Q I.ij d) (λ_ _ ⟨b,c,q⟩=>⟨b,c.g? a,q⟩) λe s z=>(n e s z).elim
theorem SP.g?{D:t?}{d:Flow}(c:aa->af->Prop)(h:SP X pins D d s):SP (X.g? c) pins D d s:=by
 cases d with
 |next=>obtain⟨a,b,I,q⟩:=h;exact⟨a,b,I.g? c,q⟩
 |brk=>obtain⟨a,b,I,q⟩:=h;exact⟨a,b,I.g? c,q⟩
 |cont=>obtain⟨a,b,I,q⟩:=h;exact⟨a,b,I.g? c,q⟩
 |ret u=>obtain⟨v,a,b,I,r,q⟩:=h;exact⟨v,a,b,I.g? c,r,q⟩
def PS.Z'{st:Stmt}{t:TS}{a:aa->af->Prop}(h:PS X st t)(n:∀e s,¬X.xe e s):PS (X.g? a) st t:=λpins s σ H D I b=>
 bQ (h pins s σ H D I.ij b) (λv v q=>q.g? a) λe s z=>(n e s z).elim
end
end L2
namespace L4
open PySem PySem.Spec PyProof.Rows L2 L3
def zE(E:t?)(A_:Hp->Prop):t?:={ nx:=E.nx,rt:=E.rt,bk:=λv H=>A_ H,ct:=E.ct }
def Zf(G:Bg)(A_:Hp->Prop)(f:FS):TS:=λE a H=>lb G f (zE E A_) a H
def sNb(f:FS):FS:=λa=>match f a with
 |some (.bk _)=>O
 |r=>r
def sRz(a:FA):FS:=λc=>match a c with
 |some ([_],b)=>U (.bk b)
 |_=>O
def sXp(g:aN->Option Bool)(a:FA):FS:=λd=>match a d with
 |some (c,b)=>match g c with
  |some γ=>U (.nx b)
  |some δ=>U (.bk b)
  |none=>O
 |none=>O
def fnX(b n:Nat)(f:FS):aN->Option Bool:=λa=>if a.length=b then match f (rl n a)with
 |some (.nx _)=>U γ
 |some (.bk _)=>U δ
 |_=>O
 else O
inductive IspX(G:Bg) (g:aN->Option Bool) (vs:bz) (H:Hp) (Q:VK) (E:XK):Prop
 |i (H0 ds d) (h0:uw H0 H) (h1:di G H0 ds vs) (h2:g ds=U d) (h3:(d=γ->∀H0' H',uw H0 H0'->uw H0' H'->uw H H'->(∀b o,H0' b=U o->H0 b=U o\/H b=O)->Q .X H')) (h4:(d=δ->∀e H',uw H H'->E e O H')):IspX G g vs H Q E
def spX(G:Bg)(g:aN->Option Bool):Sp:=λa H Q E=>IspX G g a H Q E
section
variable{X:Cx}{G:Bg}{A_:Hp->Prop}
def pfx_nil:lr X [] (Zf G A_ uz):=lr.ea OK λE a H h=>Sk (E:=zE E A_) h
def pfx_cons{st:Stmt}{fc:List Stmt}{f g:FS}(m:PS X st (Zf G A_ f))(p:lr X fc (Zf G A_ g)):lr X (st::fc) (Zf G A_ (bx f g)):=lr.ea (Ce m p) λE w H h=>by
 obtain⟨F,c,i,o,R,e,k,u⟩:=h;unfold bx at e;cases a:f c with
 |none=>simp only[a]at e;cases e
 |some q=>
  cases q with
  |nx b=>simp only[a]at e;exact⟨F,c,i,_,R,a,λr j t s l=>⟨F,b,j,o,l,e,k.r? s,λv=>Z⟩,λv=>Z⟩
  |bk b=>simp only[a]at e;cases e;exact⟨F,c,i,_,R,a,k,λv=>Z⟩
  |ct b=>simp only[a]at e;cases e;exact⟨F,c,i,_,R,a,k,λv=>Z⟩
  |rt d b=>simp only[a]at e;cases e;exact⟨F,c,i,_,R,a,k,λv=>Z⟩
  |rn d b=>simp only[a]at e;cases e;exact⟨F,c,i,_,R,a,k,λv=>Z⟩
def pfx_up{st:Stmt}{f:FS}(h:PS X st (lb G f)):PS X st (Zf G A_ (sNb f)):=PS.ea h λE m H j=>by
 obtain⟨F,c,i,o,R,e,k,_⟩:=j;unfold sNb at e;cases a:f c with
 |none=>simp only[a]at e;cases e
 |some l=>
  cases l with
  |bk b=>simp only[a]at e;cases e
  |nx b=>simp only[a]at e;cases e;exact⟨F,c,i,_,R,a,k,λv=>Z⟩
  |ct b=>simp only[a]at e;cases e;exact⟨F,c,i,_,R,a,k,λv=>Z⟩
  |rt d b=>simp only[a]at e;cases e;exact⟨F,c,i,_,R,a,k,λv=>Z⟩
  |rn d b=>simp only[a]at e;cases e;exact⟨F,c,i,_,R,a,k,λv=>Z⟩
def pfx_if{c:Expr}{a b:List Stmt}{h:FT}{f g:FS}{pos:Pos}(u:PT X c (nj G h))(r:lr X a (Zf G A_ f))(t:lr X b (Zf G A_ g)):PS X (.If c a b pos) (Zf G A_ (ff h f g)):=PS.ea (Xq u r t) λE z H w=>by
 obtain⟨F,m,q,o,R,e,k,y⟩:=w;unfold ff at e;rcases uI (f:=h) (ρ:=m)with l|⟨d,i,l⟩
 .simp only[l]at e;cases e
 .refine⟨F,m,q,d,i,R,l,λj x s p=>?_⟩;cases d with
  |true=>simp only[l]at e;exact Ia ⟨F,i,j,o,p,e,k.r? s,λv=>Z⟩
  |false=>simp only[l]at e;exact HZ ⟨F,i,j,o,p,e,k.r? s,λv=>Z⟩
set_option tactic.hygienic true
def pfx_raise{st:Stmt}{a:FA}(h:PS X st (λv f H=>rm G a f H λr l=>r.length<=aC/\A_ l)):PS X st (Zf G A_ (sRz a)):=PS.ea h λE f H q=>by
 obtain⟨F,t,j,o,R,e,k,u⟩:=q;unfold sRz at e;split at e
 .rename_i d c p;cases e;refine⟨F,t,j,_,c,R,p,λw b i s m rs=>⟨?_,k f b i s m⟩⟩;rw[<-uk rs];show 1<=aC;decide
 .cases e
set_option tactic.hygienic false
def pfx_call{st:Stmt}{g:aN->Option Bool}{a:FA}(h:PS X st (RA (BS (spX G g) [] (λv v x=>A_ x) (rm G a)))):PS X st (Zf G A_ (sXp g a)):=PS.ea h λE w H B=>by
 obtain⟨F,q,y,o,R,e,k,J⟩:=B;unfold sXp at e;rcases uI (f:=a) (ρ:=q)with p|⟨m,r,p⟩<;>simp only[p]at e
 .cases e
 .refine⟨F,q,y,m,r,R,p,λM t z s i rs=>?_⟩;cases j:g m with
  |none=>simp only[j]at e;cases e
  |some d=>
   refine⟨t,m,d,i.sub,by rw[bO];exact rs,j,λhd A c u C l fr=>?_,λhd I c l=>?_⟩
   .subst hd;simp only[j]at e;cases e;exact k w A c (s.t u) (i.gf l u C fr)
   .subst hd;simp only[j]at e;cases e;exact k w t c s (i.gf l (uw.refl _) (i.sub.t l) λb o e=>.inl e)
set_option tactic.hygienic true
def U?{c n:Nat}{f:FS}{a:aN}{d:Bool}(h:fnX c n f a=U d):a.length=c/\((∃b,f (rl n a)=U (.nx b)/\d=γ)\/∃b,f (rl n a)=U (.bk b)/\d=δ):=by
 unfold fnX at h;split at h
 .rename_i i;refine⟨i,?_⟩;split at h
  .rename_i e;cases h;exact .inl ⟨_,e,Z⟩
  .rename_i e;cases h;exact .inr ⟨_,e,Z⟩
  .cases h
 .cases h
set_option tactic.hygienic false
def entry_X{N:aE}{p:Nat}{f:FS}{t:bz}{H:Hp}{Q:VK}{E:XK}(hN:p<=N.length)(h:spX G (fnX p N.length f) t H Q E):Zf G (λc=>∀e,E e O c) f { nx:=λv c=>Q .X c,rt:=Q } (L2.start N t) H:=by
 obtain⟨l,I,d,s,r,e,B,C⟩:=h;obtain⟨A,u⟩:=U? e;have R:=De (N:=N) s r (by rw[<-uk r,A];exact hN);have fin:∀{j:St} {m:aM} {a c:Hp},dt G ⟨l,H,[]⟩ j m a c->uw H c/\uw a c/\∀b o,a b=U o->l b=U o\/H b=O:=λi=>⟨λb o e=>i.keep b o e (by simp),i.sub,i.fr⟩;clear e;rcases u with ⟨F,e,rfl⟩|⟨F,e,rfl⟩
 .refine⟨_,_,l,_,R,e,λj a c q i=>?_,λv=>Z⟩;obtain⟨x,y,z⟩:=fin i;exact B Z a c q y x z
 .refine⟨_,_,l,_,R,e,λj a c q i w=>?_,λv=>Z⟩;exact C Z w c (fin i).1
def len_X{g:aN->Option Bool}{c:Nat}(f:∀a d,g a=U d->a.length=c):∀b H Q E,spX G g b H Q E->b.length=c:=λb H Q E h=>by obtain⟨i,a,d,_,r,e,_⟩:=h;rw[<-uk r];exact f _ _ e
end
structure ZX(X:Cx)(B:Bz)(c:Nat)(st:Stmt)(f:FS):Prop where p:(∀e s,¬X.xe e s)->∀xe A_,l? (CXW B.P B.w (B.G.ca c)) (X.g? xe) (λv v H'=>A_ H')->Mades (X.g? xe) (B.G.ca c) A_->PS (X.g? xe) st (Zf B.G A_ f)
structure ZY(X:Cx)(B:Bz)(c:Nat)(st:List Stmt)(f:FS):Prop where p:(∀e s,¬X.xe e s)->∀xe A_,l? (CXW B.P B.w (B.G.ca c)) (X.g? xe) (λv v H'=>A_ H')->Mades (X.g? xe) (B.G.ca c) A_->lr (X.g? xe) st (Zf B.G A_ f)
class Xn(B:Bz)(y:Str)(c:outParam Nat):Prop where p:XC B.G.K (B.G.ca c)/\B.mg y=U (.ref (B.G.ca c))
class Dx(B:Bz)(j:outParam Nat)(x:Str)(c:Nat)(g:aN->Option Bool):Prop where p:∃ps f fd,B.mg x=U (.ref f)/\de B.G.K (.ref f)=γ/\j4 B.G.K fd ps []/\xC B.P B.w B.G.K B.mg B.b? (CXW B.P B.w (B.G.ca c)) j f fd ps (spX B.G g)
class Bx(X:Cx):Prop where
 n:∀e s,¬X.xe e s
 st:X.stack=X.cb::X.dg
 fm:X.cb.frame=U X.cb.locals
instance inBx {P:aB}{w:az}{K:aw}{a:Str->Option aa}{b?:Heap}{N:aE}{qual:Str}{st:Stmt}{f:Addr}{cdv:aa}{A:aG}{dg:List Env}{s:af}{H:Hp}{E:XK}:Bx (Cq P w K a b? N qual st f cdv A dg s H E):=⟨λv v z=>z,Z,Z⟩
section
variable{X:Cx}{B:Bz}{k j c c0:Nat}{x y:Str}{e:Expr}{es:List Expr}{p p2 p3 pos pos2 pos3 hp:Pos}{a:FA}{st b0:Stmt}{sts sts' suite:List Stmt}{fs fs' fh:FS}{ft:FT}
def zr_xU(h:ZS X B st fs):ZX X B c st (sNb fs):=⟨λn b A_ v v=>pfx_up (h.p.Z' n)⟩
def zr_yI(d:ZX X B c st fs)(f:ZY X B c sts fs'):ZY X B c (st::sts) (bx fs fs'):=⟨λn b A_ q r=>pfx_cons (d.p n b A_ q r) (f.p n b A_ q r)⟩
def zr_y1(b:ZX X B c st fs):ZY X B c [st] fs:=⟨λn d A_ q r=>Ej (b.p n d A_ q r)⟩
def zr_y0:ZY X B c [] uz:=⟨λn b A_ q r=>pfx_nil⟩
def zr_xI(h:ZT X B e ft)(d:ZY X B c sts fs)(f:ZY X B c sts' fs'):ZX X B c (.If e sts sts' pos) (ff ft fs fs'):=⟨λn b A_ q r=>pfx_if (h.p.Z' n) (d.p n b A_ q r) (f.p n b A_ q r)⟩
section
variable(hg:Gz X x)(hd:Dz x)(hs:Sz X e es)(hl:Lz X pos es)
include hg hd hs hl
theorem zr_xR [C:Cz X B k][Q:Xn B x c](b:ZA X B (e::es) a):ZX X B c (.Raise (U (.Call (.Name x p) (e::es) [] pos)) O pos2) (sRz a):=
 ⟨λn d A_ q r=>pfx_raise (ps_raise (X:=X.g? d) (by show XC X.K _;rw[C.K];exact Q.p.1) C.c (by show X.mg x=_;rw[C.mg];exact Q.p.2) r (b.p.Z' n) hg hd hs hl)⟩
theorem zr_xC{g:aN->Option Bool}[C:Cz X B k][Q:Dx B j x c g](o:ZA X B (e::es) a)(t:dy j k=γ)(u:cw (.Call (.Name x p) (e::es) [] pos) O pos2.line X.cb=pure δ):ZX X B c (.Expr (.Call (.Name x p) (e::es) [] pos) pos2) (sXp g a):=by refine⟨λn z A_ q r=>?_⟩;have d:=Q.p;rw[<-C.P,<- C.w,<- C.K,<- C.mg,<- C.b]at d;rw[<-C.P,<- C.w]at q;obtain⟨E,f,A,h,i,l,m⟩:=d;exact pfx_call (K2 (El (X:=X.g? z) (p:=p) (pos:=pos) m (C.r.mono (dw.mp t)) hg h i l .nil q (o.p.Z' n) hd hs hl) u)
end
end
section
variable{B:Bz}[Y:Yb B]{x m qual:Str}{st s0:Stmt}{l:List Stmt}{k c c0 np n:Nat}{b:FS}{p:Str}{ps xs:aE}{N:aE}
abbrev Bdx(B:Bz)(N:aE)(qual:Str)(st:Stmt)(l:List Stmt)(k c:Nat)(b:FS):Prop:=∀{f:Addr} {cdv:aa} {A:aG} {dg:List Env} {s:af} {H:Hp} {E:XK} [Cz (Cq B.P B.w B.G.K B.mg B.b? N qual st f cdv A dg s H E) B k],ZY (Cq B.P B.w B.G.K B.mg B.b? N qual st f cdv A dg s H E) B c l b
omit Y in
def Bdx.ok(h:Bdx B N qual st l k c b)(j:uX st=l)(f:Addr)(cdv:aa)(A:aG)(dg:List Env)(s:af)(H:Hp)(E:XK)(o:wt k (A.deeper (envOfC qual (uE st) s.heap.objs.size f cdv))):
  lr (cxW (B.G.ca c) B.P B.w B.G.K B.mg B.b? N qual (uE st) f cdv A dg s H E) (uX st) (Zf B.G (λi=>∀e,E e O i) b):=by
 subst j;exact(@h f cdv A dg s H E ⟨Z,Z,Z,Z,Z,Z,o⟩).p (λv v z=>z) (cxW (B.G.ca c) B.P B.w B.G.K B.mg B.b? N qual (uE st) f cdv A dg s H E).xe _ pass_body λd u H s a t r I q z=>made_body I q z
theorem gX4{g:aN->Option Bool}(r:g=fnX np n b)(q:GD B.G.K x st)(t:uX st=s0::l)(body:Bdx B (L1 st) x st (s0::l) k c b)(S:okO (L1 st) (Q? st) st np n=γ:=by kernel_rfl)(j:X' x x st (Q? st):=by (repeat intro _);rfl):Dx B (k+1) x c g:=by obtain⟨f,o,a,F⟩:=q;obtain⟨S1,e,i⟩:=sx S;refine⟨Q? st,f,o,Y.y.g a,F.kp,j.ok F,?_⟩;subst r e i;obtain⟨I,J,kV,doc,M,w,cdv,z,osl,rfl,lk,hcd⟩:=F.ex;exact OQ lk hcd S1 (len_X λC d h=>(U? h).1) λA dg s H P Q E u hsp=>⟨_,body.ok t f cdv A dg s H E u,entry_X (by have:=bD cQ S1.pre;rw[bU]at this;omega) hsp⟩
end
end L4
namespace L2
open PySem PySem.Spec PyProof.Rows PySem.W PySem.Calls Builtin Builtin.ObjectAttr Builtin.Getset_descriptor
def wh(x D:Addr)(h:Heap):Prop:=∃o,h.get? x=U o/\o.cls=.ref D
structure XF(K:Frag)(D:Addr):Prop where
 ga:findIn K (.ref D) "__getattribute__" = U (U (.builtin "BaseException.__getattribute__"))
 gt:findIn K (.ref D) "__getattr__" = U O
 ci:(clsIn K D).isSome=γ
 ha:findIn K (.ref D) "__class__" = U (U (.builtin "object.__class__"))
 hn:specialIn K (.builtin "object.__class__") "__get__" = U (U (.builtin "getset_descriptor.__get__"))
 htk:takesIn K (.builtin "object.__class__")=U γ
 hm:mroIn K D (.type "object")=U γ
 hb:mroIn K D (.type "BaseException")=U γ
section
variable{prog:aB}{w:az}{A:aG}{E:aa->af->Prop}{s:af}{K:Frag}{x D:Addr}{tp nv:aa}{tk:Tok}
def oy{M:i3}{h:Heap}(p:wh x D h):gn M h (typeOf (.ref x)) (.ref D):=by obtain⟨o,a,b⟩:=p;exact b▸(qZ a).andThen .now
def xc_get{R:eL->af->Prop}(a:XF K D)(X:K.In s.heap)(I:wh x D s.heap)(h:R (.ok (.ret (.ref D))) s):cy (model prog w) A (.call (.builtin "getset_descriptor.__get__") ⟨[.builtin "object.__class__", .ref x,tp],[]⟩) R s:=by
 obtain⟨e,g,d,t,os⟩:=s;have b:=oy (M:=model prog w) I;have c:=looks_mroIn (M:=model prog w) X a.hm;refine jv qW.plain KF.entry_gs (qW.check _ _ _ _ _ _ _ _ KF.type_class (KF.args_gs _ _ _) ?_);unfold dQ.«getset_descriptor.__get__» descrGet;rw[dga_obj];refine ag (au ?_);unfold descrGetter descrCheckInstance descrNameAndClass isInstance;simp only[KF.owner_class]
 repeat lk
 refine⟨oP _ (by decide +kernel),dM KF.entry_class ?_⟩;unfold dQ.«object.__class__» shownTypeOf
 repeat lk
 exact h
def xc_find{M:i3}{h:Heap}(a:XF K D)(X:K.In h):gn M h (find (.ref x) (.ref D) "__class__") (.bind (.builtin "getset_descriptor.__get__") (.builtin "object.__class__")):=
 (iN X a.ha).andThen ((show gn M h (getOf (U (.builtin "object.__class__"))) (U (.builtin "getset_descriptor.__get__")) from looks_specialIn X a.hn).andThen
  ((show gn M h (dataDescriptor? (U (.builtin "object.__class__")) (U (.builtin "getset_descriptor.__get__"))) (U (.builtin "getset_descriptor.__get__", .builtin "object.__class__")) from(looks_takesIn X a.htk).andThen .now).andThen (Looks.tag .now)))
theorem xc_check{M:i3}{Q:Unit->af->Prop}(a:XF K D)(X:K.In s.heap)(I:wh x D s.heap)(c:Q () s):ao M A (checkBuiltinCall "BaseException.__getattribute__" ⟨[.ref x,nv],[]⟩) Q E s:=by
 obtain⟨i,g,f,t,os⟩:=s;have d:=oy (M:=M) I;have e:=looks_mroIn (M:=M) X a.hb;have b:builtinKind "BaseException.__getattribute__" = U .slot:=by decide +kernel
 have hsplit:splitId "BaseException.__getattribute__" = U ("BaseException", "__getattribute__"):=by decide +kernel
 have h:=F.args_bexc_ga (.ref x) nv;simp only[checkBuiltinCall,b,hsplit];refine ag ?_;unfold isInstance
 repeat lk
 exact c
def xc_entry{Q:Fin->af->Prop}(a:XF K D)(X:K.In s.heap)(I:wh x D s.heap)(d:Q (.done (.ret (.ref D))) s):ao (model prog w) A (dQ.«object.__getattribute__» ⟨[.ref x,.str "__class__" tk],[]⟩) Q E s:=by obtain⟨f,g,e,t,os⟩:=s;have b:=oy (M:=model prog w) I;have c:=xc_find (M:=model prog w) (x:=x) a X;refine ag (au (ag (au (ag (b.at (ag (c.at ?_)))))));show ao _ _ (holding [.builtin "object.__class__"] (call (.builtin "getset_descriptor.__get__") [.builtin "object.__class__", .ref x,.ref D])>>=ret) _ _ _;exact ag (bL (gb (xc_get a X I (au d))))
theorem xc_call{R:eL->af->Prop}(a:XF K D)(X:K.In s.heap)(I:wh x D s.heap)(b:R (.ok (.ret (.ref D))) s):cy (model prog w) A (.call (.builtin "BaseException.__getattribute__") ⟨[.ref x,.str "__class__" tk],[]⟩) R s:=
 jv om.ga.plain F.entry_bexc_ga (xc_check a X I (xc_entry a X I b))
def xc_class{Q:Option aa->af->Prop}(a:XF K D)(X:K.In s.heap)(I:wh x D s.heap)(f:Q (U (.ref D)) { s with toks:=s.toks+1 }):ao (model prog w) A (getAttr? (.ref x) "__class__") Q E s:=by obtain⟨e,g,d,t,os⟩:=s;have b:=oy (M:=model prog w) I;have c:=iN (M:=model prog w) X a.ga;have L2:=iN (M:=model prog w) X a.gt;unfold getAttr? getAttrBy? getAttrBy;refine ag (wpAny_mkText (ag (mi (bL (ag (b.at (ag (c.at ?_))))))));show ao _ _ (getAttrByItsOwn _ _ _ _ _ _) _ _ _;unfold getAttrByItsOwn;refine ag (L2.at (ag (mi (bL ?_))));show ao _ _ (boundAndCalled _ _ _) _ _ _;unfold boundAndCalled;rw[om.ga.bind (.ref x)];refine ag (au (gb (xc_call (s:=⟨e,g,d,t+1,os⟩) a X I ?_)));exact au (au f)
set_option tactic.hygienic true
def kitx_exc(b:XF K D):KitX K (.ref x) (.ref D) (wh x D) where
 ty:=λM h X I=>oy I
 it:=λM h X I=>by
  obtain⟨d,a⟩:=kH.1 b.ci;unfold clsIn at a;split at a
  .rename_i c;intro f j i s' k q;unfold isType loadHead;exact ag (p6 (k _ _ (X _ _ c)) (au q))
  .cases a
 ne:=λh tp l e n sl X htp=>by
  obtain⟨d,a⟩:=kH.1 b.ci;refine jE.2 λq=>?_;cases Value.ref.inj (beq_iff_eq.mp q);unfold clsIn at a;split at a
  .rename_i c;cases (X _ _ c).symm.t htp
  .cases a
 ca:=λX I k=>xc_class b X I k
set_option tactic.hygienic false
def call_isx{X:Cx}{pins:cA}{σ:St}{H:Hp}{c:aa}{b:Bool}{Q:aa->af->Prop}(F:XF X.K D)(I:dr X pins σ H s)(q:wh x D s.heap)(e:kitOne X.K (.ref D) c=U b)(h:∀tk,Q (.bool b) { s with toks:=tk }):
  ao (model X.prog X.w) A (call (.builtin "isinstance") [.ref x,c]) Q E s:=cN (kitx_exc F) I.ny q e (λz=>nomatch z) h
end
end L2
namespace L2
open PySem PySem.Spec PyProof.Rows PySem.W
def e8.there{P:aB}{w:az}{H:Hp}{h:Heap}{a:Addr}:∀{o:HO},e8 P w H h a o->∃u,h.get? a=U u
 |.cf _,x=>by obtain⟨_,_,_,_,e⟩:=x;exact⟨_,e⟩
 |.ef _,x=>by obtain⟨_,_,_,⟨o,e,_⟩,_⟩:=x;exact⟨_,e⟩
 |.dK _,x=>by obtain⟨_,_,_,_,o,_,_,e,_⟩:=x;exact⟨_,e⟩
 |.dT _,x=>by obtain⟨_,_,_,_,o,_,_,e,_⟩:=x;exact⟨_,e⟩
 |.set _ _,x=>by obtain⟨o,_,_,_,e,_⟩:=x;exact⟨_,e⟩
 |.mr _ _ _,x=>by obtain⟨_,_,_,e,_⟩:=x;exact⟨_,e⟩
 |.i1 _,x=>x
 |.xd _,x=>by obtain⟨_,⟨_,_,_,e,_⟩,_⟩:=x;exact⟨_,e⟩
 |.rng _ _,x=>by obtain⟨_,_,_,e⟩:=x;exact⟨_,e⟩
 |.oz _ _,x=>⟨_,x.1⟩
 |.tbl _,x=>⟨_,x⟩
 |.met _ _,x=>⟨_,x⟩
 |.ext _,x=>x.2.1
abbrev Cx.fg(X:Cx)(a:Addr)(ob:Obj):Cx:={ X with A:=X.A.mark (U (.ref a)),ll:=δ,pn:=(a,ob)::X.pn,xe:=λv v=>False }
section
variable{X:Cx}{pins:cA}{σ:St}{H:Hp}{s:af}{a:Addr}{ob:Obj}
theorem dr.fg(I:dr X pins σ H s)(b:s.heap.get? a=U ob)(c:H a=O)(d:a≠X.cb.locals)(e:a∉X.fs)(f:∀v,ob.data≠.cell v):dr (X.fg a ob) pins σ H s:=
 ⟨⟨I.ok.y',I.ok.kind,I.ok.yr,I.ok.blt,I.ok.above,I.ok.inj,I.ok.has,I.ok.cab,(λz=>by cases z),I.ok.frames,I.ok.stk,I.ok.exf,I.ok.bs,I.ok.bsz,I.ok.S2,I.ok.W',I.ok.qi,I.ok.frf⟩,I.os,I.gi,I.b?,I.C',I.cell,I.free,I.ke,
  λp h=>(aJ.1 h).elim (λz=>by subst z;exact⟨b,c,d,e,f⟩) (λz=>I.C? p z),I.fb,I.len⟩
def dr.ι(ok:X.Ok)(I:dr (X.fg a ob) pins σ H s):dr X pins σ H s:=⟨ok,I.os,I.gi,I.b?,I.C',I.cell,I.free,I.ke,λp b=>I.C? p (ba _ b),I.fb,I.len⟩
set_option tactic.hygienic true
def goes_ok{M:i3}{A:aG}{E:aa->af->Prop}{i:Nat}{n:Str}{pos:Pos}{Q:Unit->af->Prop}(I:dr X pins σ H s)(hN:X.N.Nodup)(J:X.N[i]?=U n)(P:X.cb.scope.names.lookup n=U .local)
  (h:∀s',dr X pins (σ.set i O) H s'->Q () s'):ao M A (do bindName X.cb n .none;unbindBehindTheSuite X.cb n pos) Q E s:=by
 obtain⟨m,S,R⟩:=id I.C';have hcls:(X.cb.scope.kind==.class||(X.cb.scope.kind==.module&&X.cb.locals != X.cb.globals))=δ:=by rw[I.ok.kind];rfl
 refine wpAny_nameGoes_keeps P S hcls λh' v B f=>?_;have lo:∀b o,X.s₀.heap.get? b=U o->b≠X.cb.locals:=λb o e=>aW (cn (aP e) I.ok.above);refine h _ ⟨I.ok,I.os,I.gi,⟨λb o e n w t=>(f.2 b (lo b o e)).t (I.b?.keep b o e n w t),λb o e n w t=>?_,I.b?.free,λb o e t=>?_,I.b?.sh,I.b?.tz,I.b?.x1⟩,⟨_,B,λj y v' l r G=>?_⟩,λy c e=>?_,I.free,I.ke,λp T=>?_,λb ob e=>?_,by simpa using I.len⟩
 .obtain⟨sl,l⟩:=I.b?.slot b o e n w t;exact⟨sl,(f.2 b (lo b o e)).t l⟩
 .obtain⟨Y,l⟩:=I.b?.there b o e t;exact⟨Y,(f.2 b (lo b o e)).t l⟩
 .by_cases x:j=i
  .subst x;rw[cc]at r;split at r
   .split at r<;>cases r
   .rename_i z;exact ar Z z
  .rw[eh (cE x)]at r;obtain⟨u',r',q⟩:=R j y v' l r G;refine⟨u',r',?_⟩;rcases q with ⟨k,e⟩|⟨k,c,e,z⟩
   .have W:y≠n:=λe=>x (HM hN l (e▸J));exact .inl ⟨k,by simp[W,e]⟩
   .exact .inr ⟨k,c,e,z.sameBut f (I.cne y c e)⟩
 .obtain⟨F,z⟩:=I.cell y c e;exact⟨F,z.sameBut f (I.cne y c e)⟩
 .obtain⟨e,n,C,nf,d⟩:=I.C? p T;exact⟨(f.2 p.1 C).t e,n,C,nf,d⟩
 .refine(I.fb b ob e).U' (λc F u q=>(f.2 c ?_).t q) (λg q=>q) λg g q=>q;rintro rfl;rcases u with rfl|u
  .rw[I.free]at e;cases e
  .rw[I.free]at u;cases u
end
set_option tactic.hygienic false
end L2
namespace L4
open PySem PySem.Spec PyProof.Rows L2 L3
section
variable{X:Cx}{G:Bg}
def cSlS(f:FE)(lo d:FO):FE:=λe=>match f e with
 |some (.str t,a)=>if t.length<=1000 then match lo a with
  |some (l,b)=>match d b with
   |some (h,c)=>U (.str (Txt.slice t l h),c)
   |none=>O
  |none=>O
  else O
 |_=>O
end
def fnV(b n:Nat)(f:FS):aN->Option (Option D):=λa=>if a.length=b then match f (rl n a)with
 |some (.rt d _)=>U (U d)
 |some (.bk _)=>U O
 |_=>O
 else O
def dV(g:aN->Option (Option D)):aN->Option D:=λa=>match g a with
 |some (U d)=>U d
 |_=>O
def sXm(c:Nat)(g:aN->Option (Option (aE×aN)))(a:FA):FS:=λh=>match a h with
 |some (d,b)=>match g d with
  |some (U (f,e))=>U (.rt (.obj c f e) b)
  |some O=>U (.bk b)
  |none=>O
 |none=>O
def sTryV(g:aN->Option (Option D))(a:FA)(i j:Nat)(bs:aN):FS:=λd=>match a d with
 |some (c,b)=>match g c with
  |some (U _)=>U (.nx b)
  |some O=>match b[i]? with
   |some .un=>U (.nx (b.set j (.I (.cf bs))))
   |_=>O
  |none=>O
 |none=>O
inductive IspV(G:Bg) (g:aN->Option (Option D)) (vs:bz) (H:Hp) (Q:VK) (E:XK):Prop
 |i (H0 ds d) (h0:uw H0 H) (h1:di G H0 ds vs) (h2:g ds=U d) (h3:(∀x,d=U x->∀v H0' H',uw H0 H0'->uw H0' H'->uw H H'->(∀b o,H0' b=U o->H0 b=U o\/H b=O)->en G H0' x v->Q v H')) (h4:(d=O->∀e H',uw H H'->E e O H')):IspV G g vs H Q E
def spV(G:Bg)(g:aN->Option (Option D)):Sp:=λa H Q E=>IspV G g a H Q E
section
variable{X:Cx}{G:Bg}{A_:Hp->Prop}
set_option tactic.hygienic true
def V?{c n:Nat}{f:FS}{a:aN}{r:Option D}(h:fnV c n f a=U r):a.length=c/\((∃d b,f (rl n a)=U (.rt d b)/\r=U d)\/∃b,f (rl n a)=U (.bk b)/\r=O):=by
 unfold fnV at h;split at h
 .rename_i i;refine⟨i,?_⟩;split at h
  .rename_i e;cases h;exact .inl ⟨_,_,e,Z⟩
  .rename_i e;cases h;exact .inr ⟨_,e,Z⟩
  .cases h
 .cases h
set_option tactic.hygienic false
def entry_V{N:aE}{p:Nat}{f:FS}{t:bz}{H:Hp}{Q:VK}{E:XK}(hN:p<=N.length)(h:spV G (fnV p N.length f) t H Q E):Zf G (λc=>∀e,E e O c) f { nx:=λn c=>Q .X c,rt:=Q } (L2.start N t) H:=by
 obtain⟨l,M,d,s,r,e,B,C⟩:=h;obtain⟨A,u⟩:=V? e;have R:=De (N:=N) s r (by rw[<-uk r,A];exact hN);have fin:∀{j:St} {m:aM} {a c:Hp},dt G ⟨l,H,[]⟩ j m a c->uw H c/\uw a c/\∀b o,a b=U o->l b=U o\/H b=O:=λi=>⟨λb o e=>i.keep b o e (by simp),i.sub,i.fr⟩;clear e;rcases u with ⟨J,I,e,rfl⟩|⟨I,e,rfl⟩
 .refine⟨_,_,l,_,R,e,λv j a c q i F=>?_,λn=>Z⟩;obtain⟨x,y,z⟩:=fin i;exact B _ Z v a c q y x z F
 .refine⟨_,_,l,_,R,e,λj a c q i w=>?_,λn=>Z⟩;exact C Z w c (fin i).1
def len_V{g:aN->Option (Option D)}{c:Nat}(f:∀a d,g a=U d->a.length=c):∀b H Q E,spV G g b H Q E->b.length=c:=λb H Q E h=>by obtain⟨i,a,d,_,r,e,_⟩:=h;rw[<-uk r];exact f _ _ e
set_option tactic.hygienic true
theorem fn_calm{P:aB}{w:az}{K:aw}{c:Str->Option aa}{b?:Heap}{C:Addr}{k:Nat}{f:Addr}{b:bS}{i:aE}{g:aN->Option (Option D)}(F:xC P w K c b? (CXW P w C) k f b i (spV G g)):xC P w K c b? F? k f b i (fi G (dV g)):=by
 have up:∀a H Q E,fi G (dV g) a H Q E->spV G g a H Q λv v v=>False:=λa H Q E h=>by
  obtain⟨j,l,d,s,r,e,k⟩:=h;unfold dV at e;split at e
  .rename_i m;cases e;exact⟨j,l,_,s,r,m,λx z=>by cases z;exact k,λz=>by cases z⟩
  .cases e
 refine⟨λa H Q E h=>F.len _ _ _ _ (up a H Q E h),λA dg s H args B a Q E u t p y h=>fG (F.run A dg s H args B a Q _ u t p y (up a H Q E h)) λr I q=>?_⟩;cases r with
 |ok o=>cases o<;>exact q
 |error e=>obtain⟨_,_,_,_,z⟩:=q;exact z.elim
end
set_option tactic.hygienic false
class Dv(B:Bz)(j:outParam Nat)(x:Str)(c:Nat)(g:aN->Option (Option D)):Prop where p:∃ps f fd,B.mg x=U (.ref f)/\de B.G.K (.ref f)=γ/\j4 B.G.K fd ps []/\xC B.P B.w B.G.K B.mg B.b? (CXW B.P B.w (B.G.ca c)) j f fd ps (spV B.G g)
def Dv.df{B:Bz}{j c:Nat}{x:Str}{g:aN->Option (Option D)}(Q:Dv B j x c g):Df B j x (fi B.G (dV g)):=by obtain⟨i,f,a,b,d,e,h⟩:=Q.p;exact⟨i,f,a,b,d,e,fn_calm h⟩
section
variable{B:Bz}[Y:Yb B]{x:Str}{st s0:Stmt}{l:List Stmt}{k c np n:Nat}{b:FS}
theorem gV4{g:aN->Option (Option D)}(o:g=fnV np n b)(q:GD B.G.K x st)(p:uX st=s0::l)(body:Bdx B (L1 st) x st (s0::l) k c b)(S:okO (L1 st) (Q? st) st np n=γ:=by kernel_rfl)(j:X' x x st (Q? st):=by (repeat intro _);rfl):Dv B (k+1) x c g:=by obtain⟨f,m,a,F⟩:=q;obtain⟨S1,e,i⟩:=sx S;refine⟨Q? st,f,m,Y.y.g a,F.kp,j.ok F,?_⟩;subst o e i;obtain⟨z,C,kV,doc,I,t,cdv,u,osl,rfl,lk,hcd⟩:=F.ex;exact OQ lk hcd S1 (len_V λw d h=>(V? h).1) λA dg s H J Q E r hsp=>⟨_,body.ok p f cdv A dg s H E r,entry_V (by have:=bD cQ S1.pre;rw[bU]at this;omega) hsp⟩
end
end L4
namespace L2
open PySem PySem.Spec PyProof.Rows PySem.W
section
variable{X:Cx}{a C:Addr}{ob:Obj}{b b1 b2 b3 b4 b5 b6:Bool}{i j:Nat}{e1 e2 e3 e4 e5 e6:Expr}{o:Str}{q1 q2 q3 q4 q5 q6 q7 q8 q9 q10:Pos}
def tX(i:Nat)(a:Addr)(b:Bool):TE:=λc H Q=>c[i]?=U (U (.ref a))/\Q (.Y b) H
def H?(F:XF X.K C)(m:ob.cls=.ref C){cv:V}{c:aa}(p:∀u,eo cv u->u=c)(e:kitOne X.K (.ref C) c=U b):vQ (X.fg a ob) (.builtin "isinstance") (λl H Q=>l=[.ref a,cv]/\Q (.Y b) H):=λf s z H l y Q I r h=>by
 obtain⟨rfl,q⟩:=h;cases r with
 |cons t d=>cases d with
  |cons d w=>cases w;cases t;obtain rfl:=p _ d;exact call_isx (X:=X.fg a ob) F I ⟨ob,(I.C? (a,ob) bb).1,m⟩ e λx=>⟨.Y b,H,I.vl x,Z,q⟩
def tH(i j:Nat)(bs cs:bz)(a:Addr):TS:=λD d H=>i≠j/\j<d.length/\d[i]?=U (U (.ref a))/\∀p,H p=O->∀c,e7 H p (.cf bs) c=O->∀p2,e7 (e7 H p (.cf bs)) c (.cf cs) p2=O->
 D.nx (d.set j (U (.ref p2))) (e7 (e7 (e7 H p (.cf bs)) c (.cf cs)) p2 (.cf (bs++cs)))
def ps_suite(x:PE X e1 (tX i a b1))(y:PE X e2 (tX i a b2))(A:PE X e3 (tX i a b3))(B:PE X e4 (tX i a b4))(E:PE X e5 (tX i a b5))(F:PE X e6 (tX i a b6))
  (P:∀c,ay (e1::c) X.cb=(δ,eval e1 X.cb)::ay c X.cb) (Q:∀c,ay (e2::c) X.cb=(δ,eval e2 X.cb)::ay c X.cb)
  (R:∀c,ay (e3::c) X.cb=(δ,eval e3 X.cb)::ay c X.cb) (S:∀c,ay (e4::c) X.cb=(δ,eval e4 X.cb)::ay c X.cb)
  (I:X.N.Nodup/\X.N[j]?=U o/\L2.Loc X.cb.scope o/\(X.fn o=γ\/X.cb.scope.names.lookup o=U .local)) (M:PE X (.Name o q5) (z7 j))
  (Y:cw (.List [e1,e2,e3,e4] q2) (U (.Name o q1)) q3.line X.cb=pure δ) (w2:cw (.BinOp (.Name o q5) .Add (.List [.UnaryOp .Not e5 q6,.UnaryOp .Not e6 q7] q8) q9) (U (.Name o q4)) q10.line X.cb=pure δ):
  lr X [.Assign [.Name o q1] (.List [e1,e2,e3,e4] q2) q3,.Assign [.Name o q4] (.BinOp (.Name o q5) .Add (.List [.UnaryOp .Not e5 q6,.UnaryOp .Not e6 q7] q8) q9) q10] (tH i j [.Y b1,.Y b2,.Y b3,.Y b4] [.Y !b5,.Y !b6] a):=by
 obtain⟨l,m,q,r⟩:=I;have w:PA X [e4] (Cf (tX i a b4) HR):=vq B xB (S _);have T:=NB (pos:=q3) (pos':=q1) l m q (K6 (pos:=q2) (vq x (vq y (vq A w (R _)) (Q _)) (P _))) Y r;have W:=NB (pos:=q10) (pos':=q4) l m q (Mb (pos:=q9) RV M (K6 (pos:=q8) (vq (Ny (pos:=q6) E) (vq (Ny (pos:=q7) F) xB Z) Z))) w2 r;refine L4.lr.ea (Ce T (Ej W)) λD u H zz=>?_;obtain⟨hij,G,e,k⟩:=zz;refine⟨e,e,e,e,(show 4<=aC by decide),λp J=>⟨_,gx G,?_⟩⟩;have f:(u.set j (U (V.ref p)))[i]?=U (U (V.ref a)):=by rw[eh (cE hij)];exact e
 refine⟨f,b5,Z,f,b6,Z,(show 2<=aC by decide),λt d=>⟨p,t,[.Y b1,.Y b2,.Y b3,.Y b4],[.Y !b5,.Y !b6],Z,Z,?_,uu,(show 6<=aC by decide),λp2 h=>?_⟩⟩
 .rw[uC (λz=>by rw[<-z,uu]at d;cases d)];exact uu
 .show D.nx ((u.set j _).set j _) _;rw[qG];exact k p J t d p2 h
end
end L2
namespace L4
open PySem PySem.Spec PyProof.Rows L2 L3
class Xi(B:Bz)(c:Nat)(T:Str)(b:Bool):Prop where
 f:XF B.G.K (B.G.ca c)
 p:(∃d,B.mg T=U (.ref d)/\bX B.G.K (.ref (B.G.ca c)) (.ref d)=U b)\/∃t,B.mg T=O/\dN T=U (.type t)/\T≠"__name__" /\ bX B.G.K (.ref (B.G.ca c)) (.type t)=U b
section
variable{X:Cx}{G:Bg}{F:Fr}{σ:St}{ρ:aM}{H0 H:Hp}
theorem dt.un(R:dt G F σ ρ H0 H){i:Nat}(hi:ρ[i]?=U .un)(v:Option V):dt G F (σ.set i v) ρ H0 H where
 sub:=R.sub
 g0:=R.g0
 keep:=R.keep
 fr:=R.fr
 am:=R.am
 len:=by rw[dJ];exact R.len
 sl:=λj s e=>by
  by_cases h:j=i
  .subst h;rw[hi]at e;cases e;trivial
  .rw[eh (cE h)];exact R.sl j s e
 ap:=λj k s t a n b c d f l m=>by
  by_cases h:j=i
  .subst h;rw[hi]at b;cases b;cases d
  by_cases h':k=i
  .subst h';rw[hi]at c;cases c;cases f
  rw[eh (cE h)]at l;rw[eh (cE h')]at m;exact R.ap j k s t a n b c d f l m
end
section
variable{X:Cx}{B:Bz}{k c i:Nat}{n T:Str}{a:Addr}{ob:Obj}{b:Bool}{p1 p2 p3 p4:Pos}
def isxI [C:Cz X B k][N:Nb B "isinstance"][Q:Xi B c T b](w:ob.cls=.ref (B.G.ca c))(o:Gz X "isinstance")(x:o3 X i n=γ)(g:Gz X T)(d:Dz T):
  PE (X.fg a ob) (.Call (.Name "isinstance" p1) [.Name n p2,.Name T p3] [] p4) (tX i a b):=by
 have F:=Q.f;have h:=Q.p;rw[<-C.K]at F h;rw[<-C.mg]at h;have q:(X.fg a ob).mg "isinstance" = O:=by show X.mg _=O;rw[C.mg];exact N.p
 rcases h with ⟨m,j,l⟩|⟨t,j,l,q3,z⟩
 .refine PE.ea (yM (X:=X.fg a ob) (H? F w (cv:=.ref m) (λu r=>r) l) o q iH (vq (Kx (X:=X.fg a ob) x) (vq (Ei (X:=X.fg a ob) (v:=.ref m) g j Z d) xB Z) Z) (by decide) (by decide) Z Z) λA H Q e=>?_;exact⟨_,e.1,Z,e.2⟩
 .refine PE.ea (yM (X:=X.fg a ob) (H? F w (cv:=.ty t) (λu r=>r) z) o q iH (vq (Kx (X:=X.fg a ob) x) (vq (OJ (X:=X.fg a ob) (v:=.ty t) g j l Z q3 d) xB Z) Z) (by decide) (by decide) Z Z) λA H Q e=>?_;exact⟨_,e.1,Z,e.2⟩
end
mutual
def noFz:D->Bool
 |.u? _=>δ
 |.dit _ _=>δ
 |.ef a=>Rl a
 |.cf a=>Rl a
 |.obj _ _ a=>Rl a
 |.Z _ a=>Rl a
 |_=>γ
def Rl:aN->Bool
 |[]=>γ
 |d::a=>noFz d&&Rl a
end
end L4
namespace L4
open PySem PySem.Spec PySem.Calls PyProof.Rows PySem.W L2 L3
def kN(K:aw):Bool:=K.all λp=>p.2.dict.isNone
class Hz(B:Bz):Prop where
 h:B.G.hs=tupleKeyHash (uK B.P B.w)
 k:kN B.G.K=γ
end L4
namespace L2
open PySem PySem.Spec PyProof.Rows
section
variable{X:Cx}{k i:Nat}{f C:Addr}{fd:bS}{ps:aE}{sp:Sp}{dvs:bz}{ds:List aa}{E:XK}{x y n:Str}{p np pos pos1 pos2 hp:Pos}{e:Expr}{es:List Expr}{t:TA}{b0:Stmt}{suite:List Stmt}{th:Addr->TS}
def XEf(X:Cx)(a:cA)(D:t?)(y n:Str)(np hp:Pos)(l:List Stmt):aa->af->Prop:=λe b=>ao (model X.prog X.w) X.A (noteFrame e X.cb) (λv c=>ao (model X.prog X.w) X.A (setFlight e O) (λv d=>ao (model X.prog X.w) X.A (handleBy e X.cb [.ExceptHandler (U (.Name y np)) (U n) l hp]) (SP X a D) X.xe d) X.xe c) X.xe b
theorem w?(hst:X.stack=X.cb::X.dg)(hfm:X.cb.frame=U X.cb.locals)(hn0:∀e s,¬X.xe e s)(q:XC X.K C)(hg':Gl X y)(hm':X.mg y=U (.ref C))(G:(y==("__debug__" : Str))=δ)
  (hN:X.N.Nodup) (hi:X.N[i]?=U n) (hl:X.cb.scope.names.lookup n=U .local) (F:xC X.prog X.w X.K X.mg X.b? (CXW X.prog X.w C) k f fd ps sp) (hr:wt k X.A) (hb:j4 X.K fd ps ds) (hd:eg dvs ds) (hg:Gl X x) (hm:X.mg x=U (.ref f)) (hk:de X.K (.ref f)=γ) (ha:PA X (e::es) t) (W:(x==("__debug__" : Str))=δ)
  (he:ay (e::es) X.cb=(δ,eval e X.cb)::ay es X.cb) (hpl:(bE pos (ay es X.cb)).any (·.1)=δ) (hsw:cw (.Call (.Name x p) (e::es) [] pos) O pos1.line X.cb=pure δ) (hs:∀a ob,ob.cls=.ref C->lr (X.fg a ob) (b0::suite) (th a)) {pins:cA} {s:af} {σ:St} {H:Hp} {D:t?} (I:dr X pins σ H s) (h:BS sp dvs (λ_ _ H'=>∀a,th a { nx:=λσ' S=>D.nx (σ'.set i O) S,rt:=λ_ _=>False } (σ.set i (U (.ref a))) H') t σ H λ_ H1=>D.nx σ H1):
  ao (model X.prog X.w) X.A (exec (.Expr (.Call (.Name x p) (e::es) [] pos) pos1) X.cb) (SP X pins D) (XEf X pins D y n np hp (b0::suite)) s:=by
 let XE:aa->af->Prop:=XEf X pins D y n np hp (b0::suite);have key:ao (model X.prog X.w) X.A (eval (.Call (.Name x p) (e::es) [] pos) X.cb) (EP (X.g? XE) pins σ λ_ H1=>D.nx σ H1) XE s:=by
  refine dD (z9 I hg hm ?_ W);refine jN (h₀:=X.b?) I.ok.y'.kin hk (fu ((ha.Z' hn0) pos pins s σ H _ (I.g? XE) h) λus s1 ⟨vs,H1,l,r,R⟩=>⟨l.ny,?_⟩) he hpl;have r2:eg (vs++dvs) (us++ds):=r.append hd;have M:(us++ds).length=ps.length:=by rw[<-r2.length];exact F.len _ _ _ _ R
  refine gb (fG (F.run X.A X.stack s1 H1 ⟨us,[]⟩ (us++ds) (vs++dvs) _ _ hr l.ij.env0 (hb s1 us l.ny M) r2 R) λr s' d=>?_);cases r with
  |ok c=>
   cases c with
   |ret u=>exact l.after d
   |next=>exact cM d
   |brk=>exact cM d
   |cont=>exact cM d
  |error ev=>
   have J:=l;obtain⟨a,H',rfl,c,z⟩:=d;obtain⟨B,a0,hf,fb,kb⟩:=c.ex;have hfr:X.A.frames=U (X.cb::X.dg):=by rw[<-hst];exact I.ok.frames
   have Y:qF B (X.cb::X.dg) a (.ref C) a0 s'.heap:=by rw[<-hst];exact hf
   show XE _ _;refine wpAny_looks_onW hfr hfm Y λh4 hh4 P=>wpAny_landsW hh4 λh5 j Q=>?_;have u5:=z? kb hf.1 j.1 hf.2.2.1 (P.t Q) c.un;have J5:=(J.Rn (s':={ s' with heap:=h5 }) (ch:=[]) c.os u5 (fb.f? j.1) c.gi λ_ z=>nomatch z).ij;refine wpAny_handleBy_cons (codeAny_handlers_test (z9 (X:=X.Pr (.ref a)) (J5.Pr _) hg' hm' ?_ G)) (by intro q;cases q);obtain⟨bm,N,nm,qn,bs,hd,sn,sub,ab,col,dd,k0,k1,k2,k3,k5,mN,hC,hN',hni,T⟩:=(q.obj I.y'.kin).obj;have hbm:bm.contains (.type "BaseException")=γ:=T.hasType (b:=γ) Z;obtain⟨ob,hob,hobc⟩:=j.there;refine wpAny_excMatches_sub_self (J5.bk _ _ hC) hob hobc hbm (codeAny_handlers_suite_as ?_);refine lands_againW j λh6 m up6=>?_;have u6:=z? kb hf.1 m.1 hf.2.2.1 ((P.t Q).t up6) c.un;have J6:=(J.Rn (s':={ s' with heap:=h6 }) (ch:=[]) c.os u6 (fb.f? m.1) c.gi λ_ z=>nomatch z).ij;obtain⟨_,hBa,hff,oe,vs',T',oT,ts,hoe,⟨hcl,_⟩,hdt,_⟩:=id m;have hna:a∉xr (X.cb::X.dg):=λhm=>by obtain⟨_,o,ho,hnf⟩:=hff.mem hm;rw[hoe]at ho;cases ho;exact hnf _ hdt
   have hHa:H' a=O:=by
    cases e:H' a with
    |none=>rfl
    |some o=>obtain⟨u,hu⟩:=(fb a o e).there;rw[hBa]at hu;cases hu
   have J6c:=J6.fg hoe hHa (λz=>hna (eC.2 ⟨X.cb,bb,by rw[hfm,z]⟩)) (λz=>hna (by obtain⟨v,hv,ev⟩:=eC.1 z;exact eC.2 ⟨v,ba _ hv,ev⟩)) (λv z=>by rw[hdt]at z;cases z);refine HN (X:=X.fg a oe) (v:=.ref a) J6c hN hi (.inl hl) Z (λs7 J7=>?_) (.inr hl);refine bQ (hs a oe hcl pins _ _ H' _ J7 (z a)) (λc s8 d=>?_) λ_ _ z=>z.elim;cases c with
   |next=>obtain⟨σ',H2,J8,q8⟩:=d;exact goes_ok (J8.ι I.ok) hN hi hl λs9 J9=>⟨_,H2,J9,q8⟩
   |brk=>obtain⟨_,_,_,z⟩:=d;exact z.elim
   |cont=>obtain⟨_,_,_,z⟩:=d;exact z.elim
   |ret u=>obtain⟨_,_,_,_,_,z⟩:=d;exact z.elim
 exact pZ (fu key λv s1 ⟨x,H1,l,r1,R⟩=>⟨σ,H1,l.ij,R⟩) I.quiet hsw
def PTr(X:Cx)(y n:Str)(np hp:Pos)(l:List Stmt)(st:Stmt)(t:TS):Prop:=∀(a:cA) (s:af) (b:St) (H:Hp) (D:t?),dr X a b H s->t D b H->ao (model X.prog X.w) X.A (exec st X.cb) (SP X a D) (XEf X a D y n np hp l) s
def ps_tryK{st:Stmt}{t:TS}(h:PTr X y n np hp (b0::suite) st t):PS X (.Try [st] [.ExceptHandler (U (.Name y np)) (U n) (b0::suite) hp] [] [] pos2) t:=by
 intro a s c H D I b;refine wpAny_Try_except ?_;refine jI (fu (h a s c H D I b) λf d q=>?_);cases f with
 |next=>exact fU (fU q)
 |ret v=>exact q
 |brk=>exact q
 |cont=>exact q
def pk_if{c:Expr}{a b:Stmt}{l:List Stmt}{J:TT}{u v:TS}(B:∀e s,¬X.xe e s)(P:PT X c J)(M:PTr X y n np hp l a u)(N:PTr X y n np hp l b v):PTr X y n np hp l (.If c [a] [b] pos) (tIfS J u v):=by
 intro j s o H D I h;have one:∀{st:Stmt} {t:TS} {m:af} {r:Hp},PTr X y n np hp l st t->dr X j o r m->t D o r->ao (model X.prog X.w) X.A (execs [st] X.cb) (SP X j D) (XEf X j D y n np hp l) m:=λh I q=>jI (fu (h j _ o _ D I q) λf R q=>by
  cases f with
  |next=>exact fU q
  |ret v=>exact q
  |brk=>exact q
  |cont=>exact q)
 refine wpAny_If (bQ (P j s o H _ I h) (λd m Q=>?_) λe m z=>(B e m z).elim);obtain⟨r,F,G⟩:=Q;cases d with
 |true=>exact one M F G
 |false=>exact one N F G
end
end L2
namespace L4
open PySem PySem.Spec PySem.Calls PyProof.Rows PySem.W L2 L3
def sXv(g:aN->Option (Option D))(a:FA):FS:=λd=>match a d with
 |some (c,b)=>match g c with
  |some (U _)=>U (.nx b)
  |some O=>U (.bk b)
  |none=>O
 |none=>O
def l'(f:FS)(i j:Nat)(bs:aN):FS:=λb=>match f b with
 |some (.nx a)=>U (.nx a)
 |some (.bk a)=>match a[i]? with
  |some .un=>U (.nx (a.set j (.I (.cf bs))))
  |_=>O
 |_=>O
def tryV_eq{g:aN->Option (Option D)}{a:FA}{i j:Nat}{bs:aN}:l' (sXv g a) i j bs=sTryV g a i j bs:=by
 funext b
 unfold l' sXv sTryV;cases a b with
 |none=>rfl
 |some q=>
  dsimp only;cases g q.1 with
  |none=>rfl
  |some o=>cases o<;>rfl
def xV(g:aN->Option Bool):aN->Option (Option D):=λa=>(g a).map λb=>if b then U .X else O
theorem Dx.dv{B:Bz}{j c:Nat}{x:Str}{g:aN->Option Bool}(Q:Dx B j x c g):Dv B j x c (xV g):=by
 obtain⟨X,f,C,I,J,M,F⟩:=Q.p;refine⟨X,f,C,I,J,M,?_⟩;have up:∀a H Q E,spV B.G (xV g) a H Q E->spX B.G g a H Q E:=λa H Q E h=>by obtain⟨o,w,d,s,r,e,T,W⟩:=h;obtain⟨b,y,l⟩:=ie.1 e;refine⟨o,w,b,s,r,y,λz i m a1 q t u=>?_,λz=>W (by rw[<-l,z];rfl)⟩;exact T .X (by rw[<-l,z];rfl) .X i m a1 q t u (by unfold en;rfl)
 exact⟨λa H Q E h=>F.len _ _ _ _ (up a H Q E h),λA dg s H args Y a Q E R P N S h=>F.run A dg s H args Y a Q E R P N S (up a H Q E h)⟩
section
variable{X:Cx}{G:Bg}{y n:Str}{np hp:Pos}{l:List Stmt}
set_option tactic.hygienic true
def ψ{st:Stmt}{g:aN->Option (Option D)}{a:FA}{i j:Nat}(hij:i≠j)(hj:j<X.N.length)(hi:i<X.N.length){b1 b2 b3 b4 b5 b6:Bool}
  (h:PTr X y n np hp l st (λD c H=>c.length=X.N.length/\BS (spV G g) [] (λ_ _ W=>∀ad,tH i j [.Y b1,.Y b2,.Y b3,.Y b4] [.Y b5,.Y b6] ad { nx:=λQ B=>D.nx (Q.set i O) B,rt:=λ_ _=>False } (c.set i (U (.ref ad))) W) (rm G a) c H λ_ q=>D.nx c q)):
  PTr X y n np hp l st (lb G (sTryV g a i j [.Y b1,.Y b2,.Y b3,.Y b4,.Y b5,.Y b6])):=λu s c H D I hh=>h u s c H D I ⟨I.len,by
 obtain⟨F,M,Y,o,R,e,k,k2⟩:=hh;unfold sTryV at e;rcases uI (f:=a) (ρ:=M)with E|⟨C,P,E⟩<;>simp only[E]at e
 .cases e
 .refine⟨F,M,Y,C,P,R,E,λxs q H1' s w rs=>?_⟩;cases z:g C with
  |none=>simp only[z]at e;cases e
  |some d=>
   refine⟨q,C,d,w.sub,by rw[bO];exact rs,z,λx hd v H2 r T s2 A fr _=>?_,λhd ev r A ad=>⟨hij,by rw[dJ,I.len];exact hj,gx (by rw[I.len];exact hi),λp hp p1 J p2 t=>?_⟩⟩
   .subst hd;simp only[z]at e;cases e;exact k c H2 r (s.t T) (w.gf A T s2 fr)
   .subst hd;simp only[z]at e;split at e
    .rename_i hu;cases e;have S:=((w.gf A (uw.refl _) (w.sub.t A) λb o e=>.inl e).jj hp (.cf [.Y b1,.Y b2,.Y b3,.Y b4])).jj J (.cf [.Y b5,.Y b6]);have R2:=S.L0 t (.cf [.Y b1,.Y b2,.Y b3,.Y b4,.Y b5,.Y b6]);have m:∀b,en G (e7 q p2 (.cf [.Y b1,.Y b2,.Y b3,.Y b4,.Y b5,.Y b6])) (.Y b) (.Y b):=λb=>wV b;have R3:=R2.setIm j (d:=.cf [.Y b1,.Y b2,.Y b3,.Y b4,.Y b5,.Y b6]) (Ac uu (uR (m _) (uR (m _) (uR (m _) (uR (m _) (uR (m _) (uR (m _) uU)))))));have R4:=R3.un (i:=i) (by rw[eh (cE hij)];exact hu) O;refine k _ (e7 q p2 (.cf [.Y b1,.Y b2,.Y b3,.Y b4,.Y b5,.Y b6])) _ (s.t (uH (S.fx t) _)) ?_;show dt G F (((c.set i _).set j _).set i O) _ _ _;rw[List.set_comm _ _ hij,qG];exact R4
    .cases e⟩
set_option tactic.hygienic false
def pk_tryI{c:Expr}{a b:Stmt}{h:FT}{f g:FS}{i j:Nat}{bs:aN}{pos:Pos}(u:∀e s,¬X.xe e s)(E:PT X c (nj G h))(B:PTr X y n np hp l a (lb G (l' f i j bs)))(C:PTr X y n np hp l b (lb G (l' g i j bs))):PTr X y n np hp l (.If c [a] [b] pos) (lb G (l' (ff h f g) i j bs)):=λr s M H D I J=>pk_if u E B C r s M H D I (by
 obtain⟨F,w,A,o,R,e,k,z⟩:=J;rcases uI (f:=h) (ρ:=w)with q|⟨d,m,q⟩
 .unfold l' ff at e;simp only[q]at e;cases e
 .refine⟨F,w,A,d,m,R,q,λp N s x=>?_⟩;cases d with
  |true=>
   have t:l' f i j bs m=U o:=by unfold l' ff at e;simp only[q]at e;exact e
   exact Ia ⟨F,m,p,o,x,t,k.r? s,z⟩
  |false=>
   have t:l' g i j bs m=U o:=by unfold l' ff at e;simp only[q]at e;exact e
   exact HZ ⟨F,m,p,o,x,t,k.r? s,z⟩)
end
end L4
namespace L4
open PySem PySem.Spec PyProof.Rows L2 L3
section
variable{X:Cx}{B:Bz}{k j0 j1 c i j:Nat}{x x' y n o T1 T2 T3 T4 T5 T6:Str}{e e' ec:Expr}{es es':List Expr}{a a':FA}{ft:FT}{p p' p2 pos pos' pos2 pos2' pos3 pos4 hp q1 q2 q3 q4 q5 q6 q7 q8 q9 q10 a1 a2 a3 a4 b1 b2 b3 b4 c1 c2 c3 c4 d1 d2 d3 d4 e1 e2 e3 e4 f1 f2 f3 f4:Pos}
def zr_tW{g g':aN->Option (Option D)}[C:Cz X B k][Q:Xn B y c][R:Dv B j0 x c g][S:Dv B j1 x' c g'][d:Bx X][N:Nb B "isinstance"][I1:Xi B c T1 δ][I2:Xi B c T2 δ][I3:Xi B c T3 δ][I4:Xi B c T4 δ][I5:Xi B c T5 γ][I6:Xi B c T6 γ]
  (ht:ZT X B ec ft) (ha:ZA X B (e::es) a) (hg:Gz X x) (hd:Dz x) (hs:Sz X e es) (hl:Lz X pos es) (hj:dy j0 k=γ) (Y:cw (.Call (.Name x' p') (e'::es') [] pos') O pos2'.line X.cb=pure δ) (T:ZA X B (e'::es') a') (kg:Gz X x') (kd:Dz x') (ks:Sz X e' es') (kl:Lz X pos' es') (kj:dy j1 k=γ) (t:Gz X y) (q:Dz y) (hw:cw (.Call (.Name x p) (e::es) [] pos) O pos2.line X.cb=pure δ)
  (hn:tf X i n=γ) (hnl:X.cb.scope.names.lookup n=U .local) (hns:o3 X i n=γ) (ho:tf X j o=γ) (hos:o3 X j o=γ) (hij:hG i j=δ) (h:Gz X "isinstance")
  (g1:Gz X T1) (g2:Gz X T2) (g3:Gz X T3) (g4:Gz X T4) (g5:Gz X T5) (g6:Gz X T6) (z1:Dz T1) (z2:Dz T2) (z3:Dz T3) (z4:Dz T4) (z5:Dz T5) (z6:Dz T6)
  (w1:cw (.List [.Call (.Name "isinstance" a1) [.Name n a2,.Name T1 a3] [] a4,.Call (.Name "isinstance" b1) [.Name n b2,.Name T2 b3] [] b4,.Call (.Name "isinstance" c1) [.Name n c2,.Name T3 c3] [] c4,.Call (.Name "isinstance" d1) [.Name n d2,.Name T4 d3] [] d4] q2) (U (.Name o q1)) q3.line X.cb=pure δ)
  (w2:cw (.BinOp (.Name o q5) .Add (.List [.UnaryOp .Not (.Call (.Name "isinstance" e1) [.Name n e2,.Name T5 e3] [] e4) q6,.UnaryOp .Not (.Call (.Name "isinstance" f1) [.Name n f2,.Name T6 f3] [] f4) q7] q8) q9) (U (.Name o q4)) q10.line X.cb=pure δ):
  ZS X B (.Try [.If ec [.Expr (.Call (.Name x p) (e::es) [] pos) pos2] [.Expr (.Call (.Name x' p') (e'::es') [] pos') pos2'] pos4] [.ExceptHandler (U (.Name y p2)) (U n) [.Assign [.Name o q1] (.List [.Call (.Name "isinstance" a1) [.Name n a2,.Name T1 a3] [] a4,.Call (.Name "isinstance" b1) [.Name n b2,.Name T2 b3] [] b4,.Call (.Name "isinstance" c1) [.Name n c2,.Name T3 c3] [] c4,.Call (.Name "isinstance" d1) [.Name n d2,.Name T4 d3] [] d4] q2) q3,
   .Assign [.Name o q4] (.BinOp (.Name o q5) .Add (.List [.UnaryOp .Not (.Call (.Name "isinstance" e1) [.Name n e2,.Name T5 e3] [] e4) q6,.UnaryOp .Not (.Call (.Name "isinstance" f1) [.Name n f2,.Name T6 f3] [] f4) q7] q8) q9) q10] hp] [] [] pos3) (l' (ff ft (sXv g a) (sXv g' a')) i j [.Y δ,.Y δ,.Y δ,.Y δ,.Y δ,.Y δ]):=by
 have R':=R.p;have S':=S.p;have m:=Q.p;rw[<-C.P,<- C.w,<- C.K,<- C.mg,<- C.b]at R' S';rw[<-C.K,<- C.mg]at m;obtain⟨ps,f,fd,h1,h2,h3,h4⟩:=R';obtain⟨ps',f',fd',E,F,J,M⟩:=S';obtain⟨n1,A,n3,n4⟩:=EN hn;obtain⟨m1,m2,m3,m4⟩:=EN ho;have hne:i≠j:=λz=>by subst z;rw[qw]at hij;cases hij
 have su:=λ(ad:Addr) (ob:Obj) (l:ob.cls=.ref (B.G.ca c))=>ps_suite (X:=X.fg ad ob) (b1:=δ) (b2:=δ) (b3:=δ) (b4:=δ) (b5:=γ) (b6:=γ) (isxI (c:=c) l h hns g1 z1) (isxI (c:=c) l h hns g2 z2) (isxI (c:=c) l h hns g3 z3) (isxI (c:=c) l h hns g4 z4) (isxI (c:=c) l h hns g5 z5) (isxI (c:=c) l h hns g6 z6) (λv=>Z) (λv=>Z) (λv=>Z) (λv=>Z) ⟨m1,m2,m3,m4⟩ (Kx (X:=X.fg ad ob) hos) w1 w2;refine⟨ps_tryK (pk_tryI d.n ht.p ?_ ?_)⟩
 .rw[tryV_eq];exact ψ hne (bR.1 m2).1 (bR.1 A).1 λu s σ H D I W=>w? (ds:=[]) d.st d.fm d.n m.1 t m.2 q n1 A hnl h4 (C.r.mono (dw.mp hj)) h3 .nil hg h1 h2 ha.p hd hs hl hw su I W.2
 .rw[tryV_eq];exact ψ hne (bR.1 m2).1 (bR.1 A).1 λu s σ H D I W=>w? (ds:=[]) d.st d.fm d.n m.1 t m.2 q n1 A hnl M (C.r.mono (dw.mp kj)) J .nil kg E F T.p kd ks kl Y su I W.2
end
section
variable{X:Cx}{G:Bg}
inductive ItFAv(G:Bg) (i:Nat) (n:FA) (σ:St) (H:Hp) (Q:(bz->Hp->Prop)):Prop
 |i (F ρ H0 ns ρ2) (h0:dt G F σ ρ H0 H) (h1:n ρ=U (ns,ρ2)) (h2:∀p zs H0' H',uw H0 H0'->dt G F σ ρ2 H0' H'->H' p=U (.cf zs)->H0' p=O->F.B p=O->pw σ ρ2 p->di G H0' ns zs->z7 i σ H' λv H2=>Q [.ref p,v] H2):ItFAv G i n σ H Q
def tFAv(G:Bg)(i:Nat)(n:FA):TA:=λa H Q=>ItFAv G i n a H Q
def pfav{e a:Expr}{n:FA}{i:Nat}(h:PE X e (D0 G n))(m:PE X a (z7 i))(x:ay [e,a] X.cb=(δ,eval e X.cb)::ay [a] X.cb)(b:ay [a] X.cb=[(δ,eval a X.cb)]):PA X [e,a] (tFAv G i n):=PA.ea (vq h (vq m xB b) x) λC H Q w=>by obtain⟨F,A,d,y,c,R,l,k⟩:=w;exact⟨F,A,d,y,c,R,l,λp z B f s j o q r t u=>k p z _ _ s j o q r t u⟩
set_option tactic.hygienic true
def pf_mutV{e:Expr}{g:aN->aN->Option (D×aN)}{i l:Nat}{E:XK}(h:PE X e (BS (vo G g) [] E (tFAv G i (uM (bt (cV l) uN))))):PE X e (tF G (K? g (bt (cV i) uN) (uM (bt (cV l) uN)))):=PE.ea h λσ H Q hh=>by
 obtain⟨F,y,A,d,r,R,e,k⟩:=hh;unfold K? at e;cases c:bt (cV i) uN y with
 |none=>rw[c]at e;cases e
 |some q=>
  rw[c]at e;dsimp only at e;unfold bt at c;cases m:cV i y with
  |none=>rw[m]at c;cases c
  |some w=>
   rw[m]at c;obtain⟨x,f⟩:=w;obtain⟨M,N⟩:=Lj m;subst N;cases c;dsimp only at e;split at e
   .rename_i t ρ2 a;split at e
    .rename_i d1 p J;cases e;have P:r=f:=by
      unfold uM bt at a;cases o:cV l f with
      |none=>rw[o]at a;cases a
      |some z=>
       rw[o]at a;obtain⟨z1,z2⟩:=z;obtain⟨_,S⟩:=Lj o;subst S;dsimp only[uN]at a;split at a
       .cases a;rfl
       .cases a
     subst P;refine⟨F,_,A,t,_,R,a,λb zs B C s j T W Y h4 h5=>?_⟩;obtain⟨v,v1,v2⟩:=j.sl i _ M;refine⟨v,xF v1,b,[v],zs,B,t,[x],_,p,Z,T,W,j.sub,h5,uR v2 uU,J,λv zs' H2 I u u2 u3 fr w0 w1 w2 w3=>?_⟩;exact k _ _ _ (s.t u) (j.temp Y h4 u u2 u3 fr w1) w3
    .cases e
   .cases e
end
set_option tactic.hygienic false
section
variable{X:Cx}{B:Bz}{k j i l:Nat}{x y:Str}{e:Expr}{p p' pos:Pos}{g:aN->aN->Option (D×aN)}
def zr_mqV [C:Cz X B k][Q:Df B j x (vo B.G g)](b:Gz X x)(hd:Dz x)(t:ZN X B e (uM (bt (cV l) uN)))(z:o3 X i y=γ)(c:Sz X e [.Name y p'])(a:S1 X (.Name y p'))(w:Lz X pos [.Name y p'])(u:dy j k=γ):ZE X B (.Call (.Name x p) [e,.Name y p'] [] pos) (K? g (bt (cV i) uN) (uM (bt (cV l) uN))):=by obtain⟨E,q⟩:=dz b hd (X:=X) (Q:=Q);obtain⟨f,A,d,h,m,o⟩:=q;exact⟨pf_mutV (El (p:=p) (pos:=pos) o (C.r.mono (dw.mp u)) b d h m .nil HY (pfav t.p (Kx z) c a) hd c w)⟩
end
end L4
namespace K32x
open PySem L2 L3 L4
abbrev D:=L4.D
def top(i:Nat):Stmt:=PySem.Challenge.pw_tellworld_k32_what_is_no_command.main.body.getD i (.Pass ⟨0,0,0,0⟩)
def A1:Nat->Bool:=λc=>c==14
def A2:Nat->Bool:=λc=>c==13
def yP:Nat->Bool:=λc=>c==2
def FW:Nat->Bool:=λc=>c==9
def xi:Nat->Bool:=λc=>c==2
def DD:Nat->Bool:=λc=>c==14
def zC:Nat->Bool:=λc=>c==14
def v8:Nat->Bool:=λc=>c==14
def Cy:Nat->Bool:=λc=>c==14
def AF:Nat->Bool:=λc=>c==14
def uW:Nat->Bool:=λc=>c==0||c==7
def zD:Nat->Bool:=λc=>c==1
def Ah:Nat->Bool:=λc=>c==14
def uD:Nat->Bool:=λc=>c==0||c==1||c==2
def LC:Nat->Bool:=λc=>c==10
def FX:Nat->Bool:=λc=>c==10
def xj:Nat->Bool:=λc=>c==2
def Di:Nat->Bool:=λc=>c==3||c==11
def yQ:Nat->Bool:=λc=>c==13
def yi:Nat->Bool:=λc=>c==14
def A3:Nat->Bool:=λc=>c==14
def A4:Nat->Bool:=λc=>c==14
def vK:Nat->Bool:=λc=>c==0||c==1
def A5:Nat->Bool:=λc=>c==3||c==4||c==5||c==6||c==7||c==11||c==12
def Dj:Nat->Bool:=λc=>c==13
def ER:Nat->Bool:=λc=>c==13
def zF:Nat->Bool:=λc=>c==14
def Dk:Nat->Bool:=λc=>c==6||c==12
def yj:Nat->Bool:=λc=>c==13
def Ai:Nat->Bool:=λc=>c==14
def IP:Nat->Bool:=λc=>c==8
def wU:Nat->Bool:=λc=>c==0
def AG:Nat->Bool:=λc=>c==14
abbrev t_At:Ty->Option Bool:=yg 16 3
abbrev Oo:Ty->Option Bool:=yg 16 10
abbrev XO:Ty->Option Bool:=yg 16 4
abbrev TX:Ty->Option Bool:=yg 16 7
abbrev XQ:Ty->Option Bool:=yg 16 15
abbrev TY:Ty->Option Bool:=yg 16 1
abbrev M6:Ty->Option Bool:=yg 16 6
abbrev TZ:Ty->Option Bool:=yg 16 11
abbrev T7:Ty->Option Bool:=yg 16 9
abbrev XR:Ty->Option Bool:=yg 16 12
abbrev T8:Ty->Option Bool:=yg 16 13
abbrev T9:Ty->Option Bool:=yg 16 5
abbrev Pw:Ty->Option Bool:=yg 16 0
abbrev Ua:Ty->Option Bool:=yg 16 2
abbrev Ub:Ty->Option Bool:=yg 16 8
def CA:L4.D:=(D.int 8)
def CB:L4.D:=(D.int 12)
def IQ:L4.D:=(D.ef [(D.str "it"),(D.str "other"),(D.str "here"),(D.str "the"),(D.str "a"),(D.str "undo"),(D.str "restart")])
def IR:L4.D:=(D.ef [(D.str "the"),(D.str "a")])
def BX:L4.D:=(D.str "Nothing comes of it.")
def Gw:L4.D:=(D.str "That cannot be.")
def Dl:L4.D:=(D.ef [(D.str "room"),(D.str "plain"),(D.str "fixed"),(D.str "box"),(D.str "lamp"),(D.str "you")])
def Px:L4.D:=(D.ef [(D.str "alone"),(D.str "one"),(D.str "two"),(D.str "way")])
def Aj:L4.D:=(D.ef [(D.str "room"),(D.str "box"),(D.str "you")])
def Ak:L4.D:=(D.ef [(D.str "box"),(D.str "lamp")])
def DE:L4.D:=(D.ef [(D.str "room"),(D.str "you")])
def ES:L4.D:=(D.int 5)
def ET:L4.D:=(D.int 4)
def Gx:L4.D:=(D.int 4)
def EU:L4.D:=(D.int 60)
def Al:L4.D:=(D.int 3)
def EV:L4.D:=(D.int 5)
def DF:L4.D:=(D.int 7)
def Bv:L4.D:=(D.int 4)
def CC:L4.D:=(D.int 3)
def Gy:L4.D:=(D.int 10)
def EW:L4.D:=(D.int 6)
def EX:L4.D:=(D.int 4)
def zG:L4.D:=(D.ef [(D.str "the"),(D.str "a"),(D.str "undo"),(D.str "restart")])
def EY:L4.D:=(D.int 20)
abbrev ae:=(cV 0)
abbrev ai:=(cV 1)
abbrev aY:=(cC (.int 1))
def zH:FS:=(uq (vw (c1 (vv (vO "str")) ae) (vw (xT zf zf aY (c1 xc ae) ai) (c1 yZ (cL (uA 1 [] (iS ae) (gN 0) ve (xT SD SD (cS "a") ae (cS "z"))))))))
def xU:=e0 2 2 zH
def Ks:FS:=(uq (vw (ug xU (bt ae (a1 (cC CA)))) (c2 (vr γ) ae (cC IQ))))
def xn:=e0 1 1 Ks
def Kt:FS:=(uq (vw (ug xU (bt ae (a1 (cC CB)))) (c2 (vr γ) ae (cC IR))))
def xp:=e0 1 1 Kt
def GA:FS:=(uq (vw (c1 (vv (vO "str")) ae) (c2 (vr δ) ae ai)))
def u7:=e0 2 2 GA
def IS:FS:=(uq (vw (c1 (vv (vO "int")) ae) (Ex (c1 (vv (vO "bool")) ae))))
def zI:=e0 1 1 IS
def BY:FS:=(uq (vw (c1 (vv (vO "list")) ae) (c2 zf (c1 xc ae) ai)))
def vn:=e0 2 2 BY
def IT:FS:=(uq (A? (cT (c1 (vv (vO "list")) ae)) (cL (zx ae)) ae))
def D1:=e0 1 1 IT
abbrev aj:=(cV 2)
abbrev aA:=(cV 3)
abbrev aH:=(cV 4)
def Bw:FS:=(bx (vc 0 0 "name" ai)
 (bx (vc 0 0 "words" aj)
 (bx (vc 0 0 "kind" aA)
 (vc 0 0 "start" aH))))
def yk:=x3 0 4 5 Bw
def GB:FS:=(bx (vc 1 0 "name" ai)
 (bx (vc 1 0 "start" aj)
 (vc 1 0 "most" aA)))
def GE:=x3 1 3 4 GB
abbrev aI:=(cC D.X)
def CD:FS:=(bx (vc 2 0 "name" ai)
 (bx (vc 2 0 "others" (A? (cT (c2 yA aj aI)) (uS uN) aj))
 (bx (vc 2 0 "form" aA)
 (vc 2 0 "joining" aH))))
def vx:=x3 2 4 5 CD
def Ku:FS:=(bx (vc 3 0 "term" ai)
 (vc 3 0 "place" aj))
def Dm:=x3 3 2 3 Ku
def IU:FS:=(vc 4 0 "term" ai)
def BA:=x3 4 1 2 IU
def GF:FS:=(vc 5 0 "term" ai)
def GH:=x3 5 1 2 GF
def DG:FS:=(bx (vc 6 0 "term" ai)
 (vc 6 0 "value" aj))
def vS:=x3 6 2 3 DG
def GK:FS:=(bx (vc 7 0 "term" ai)
 (vc 7 0 "kind" aj))
def wB:=x3 7 2 3 GK
def GL:FS:=(vc 8 0 "word" ai)
def CG:=x3 8 1 2 GL
def IV:FS:=(vc 9 0 "inner" ai)
def wI:=x3 9 1 2 IV
def GN:FS:=(bx (vc 10 0 "one" ai)
 (vc 10 0 "other" aj))
def GO:=x3 10 2 3 GN
def GP:FS:=(bx (vc 11 0 "term" ai)
 (vc 11 0 "place" aj))
def xk:=x3 11 2 3 GP
def IW:FS:=(bx (vc 12 0 "term" ai)
 (vc 12 0 "value" aj))
def yD:=x3 12 2 3 IW
abbrev bN:=(cV 5)
abbrev cG:=(a1 aj)
abbrev eV:=(a1 aA)
def GQ:FS:=(bx (vc 13 0 "verb" ai)
 (bx (vc 13 0 "tests" (ug D1 cG))
 (bx (vc 13 0 "deeds" (ug D1 eV))
 (bx (vc 13 0 "text" aH)
 (vc 13 0 "refuses" bN)))))
def yR:=x3 13 5 6 GQ
def A6:FS:=(uq (c2 (vr δ) (c1 (uo uW "kind") ae) (cC Aj)))
def A7:=e0 1 1 A6
def vy:Nat->Option (List D->Option D):=λc=>match c with
 |0=>U A7
 |_=>O
def A8:FS:=(uq (c2 (vr δ) (c1 (uo uW "kind") ae) (cC Ak)))
def A9:=e0 1 1 A8
def wu:Nat->Option (List D->Option D):=λc=>match c with
 |0=>U A9
 |_=>O
def zJ:FS:=(uq (c2 (vr γ) (c1 (uo uW "kind") ae) (cC DE)))
def zK:=e0 1 1 zJ
def vt:Nat->Option (List D->Option D):=λc=>match c with
 |0=>U zK
 |_=>O
def BZ:FS:=(ff (vN (cT ae)) Wn uz)
def uy:=e0 2 2 BZ
def IY:FS:=(uq (c1 xc (cL (uA 1 [1] (iL ae) (gN 0) (cT (c2 (fl δ) (c1 (uo uW "kind") ae) ai)) ae))))
def BB:=e0 2 2 IY
def EZ:FS:=(vI (uA 1 [] (iL ae) (gN 0) (cT (uG vt "is_plainly" ae uN)) ae))
def ym:=A' 1 1 EZ
abbrev aX:=(cC (.int 0))
abbrev bY:=(cC (.Y δ))
abbrev rG:=(a1 (c1 (uo zD "most") ae))
def FY:FS:=(bx (ff (w9 (vN (cT (c1 (vv TY) ae))) (w9 (vN (cT (ug zI (a1 (c1 (uo vK "start") ae))))) (vN (cT (ug zI rG))))) (uq bY) uz)
 (uq (vw (xT zf zf aY (c1 (uo zD "most") ae) (cC CC)) (xT zf zf aX (c1 (uo vK "start") ae) (c1 (uo zD "most") ae)))))
def FZ:=e0 1 1 FY
abbrev dR:=(cS "room")
abbrev j8:=(a1 (cS "you"))
abbrev bJ:=(a1 ae)
abbrev jd:=(a1 dR)
def zL:FS:=(bx (uJ 1 (vw (c1 (vv (vO "list")) ae) (c1 yZ (cL (uA 1 [] (iL ae) (gN 0) ve (c1 (vv Pw) ae))))))
 (bx (uT (ug uy (bt ai (a1 (cS "things are a list of things")))))
 (bx (uT (ug uy (bt (c1 yZ (cL (uA 1 [] (iL ae) (gN 0) ve (ug u7 (bt (c1 (uo uW "kind") ae) (a1 (cC Dl))))))) (a1 (cS "a thing is of no kind")))))
 (bx (uT (ug uy (bt (xT zf zf aY (ug BB (bt ae jd)) (cC EV)) (a1 (cS "a world has 1 to 5 rooms")))))
 (bx (uT (ug uy (bt (c2 (fl δ) (ug BB (bt ae j8)) aY) (a1 (cS "a world has just one you")))))
 (uT (ug uy (bt (c2 zf (c1 xc (cL (u4 ym bJ))) (cC DF)) (a1 (cS "a world has at most 7 things beside rooms and you"))))))))))
def zM:=e0 1 2 zL
def AH:FS:=(bx (uJ 1 (vw (ug vn (bt ae (a1 (cC Bv)))) (c1 yZ (cL (uA 1 [] (iL ae) (gN 0) ve (ug FZ bJ))))))
 (uT (ug uy (bt ai (a1 (cS "marks are a list of at most 4 marks, each from 0 to at most 3"))))))
def AI:=e0 1 2 AH
def E1:FS:=(uq (c2 (fl δ) (c1 (EI DZ) ae) (c1 xc ae)))
def wJ:=e0 1 1 E1
def AJ:FS:=(bx (uJ 2 (cL (wG (cL (uA 1 [] (iL ae) (gN 0) ve (c1 (uo uD "name") ae))) (cL (uA 1 [] (iL ai) (gN 0) ve (c1 (uo uD "name") ae))))))
 (bx (uT (ug uy (bt (c1 yZ (cL (uA 1 [] (iL aj) (gN 0) ve (ug xn bJ)))) (a1 (cS "a name is no name")))))
 (uT (ug uy (bt (ug wJ cG) (a1 (cS "two things or marks have one name")))))))
def AK:=e0 2 3 AJ
def E2:FS:=(vI (wG (cL (uA 1 [] (iL ae) (gN 0) (cT (uG wu "has_mark" ae uN)) (c1 (uo uD "name") ae))) (cL (uA 1 [] (iL ai) (gN 0) ve (c1 (uo uD "name") ae)))))
def yn:=A' 2 2 E2
def D2:FS:=(bx (ff (cT (c2 (fl δ) (c1 (uo uW "kind") ai) dR)) (uq (c2 yA (c1 (uo vK "start") ai) aI)) uz)
 (bx (ff (cT (c2 (fl δ) (c1 (uo uW "kind") ai) (cS "you"))) (uq (ug u7 (bt (c1 (uo vK "start") ai) (a1 (cL (uA 1 [] (iL ae) (gN 0) (cT (c2 (fl δ) (c1 (uo uW "kind") ae) dR)) (c1 (uo uD "name") ae))))))) uz)
 (uq (ug u7 (bt (c1 (uo vK "start") ai) (a1 (cL (uA 1 [] (iL ae) (gN 0) (cT (uG vy "can_hold" ae uN)) (c1 (uo uD "name") ae)))))))))
def D3:=e0 2 2 D2
abbrev cU:=(cC (.Y γ))
def B2:FS:=(bx (uJ 2 (c2 DB ae ai))
 (bx (xH (iR1 (c1 xc ae)) (gN 3) (bx (ff (cT (c2 yA aj aI)) (uq cU) uz)
 (uJ 2 (c2 DB ae aj))))
 (uq (c2 yA aj aI))))
def y7:=e0 2 4 B2
abbrev eW:=(bt ai bJ)
def zO:FS:=(bx (uT (ug uy (bt (c1 yZ (cL (uA 1 [0] (iL ae) (gN 0) ve (ug D3 eW)))) (a1 (cS "a start is none")))))
 (bx (IB 1)
 (bx (xH (iL ae) (gN 2) (yC 1 (c1 (uo uD "name") aj) (c1 (uo vK "start") aj)))
 (uT (ug uy (bt (c1 yZ (cL (uA 1 [1] (iD (D' 1)) (gN 0) ve (ug y7 eW)))) (a1 (cS "a thing starts within itself"))))))))
def zP:=e0 1 3 zO
def GR:FS:=(bx (ff (w9 (vN (cT (c1 (vv (vO "tuple")) ae))) (vN (cT (xT zf zf aY (c1 xc ae) (cC EX))))) (uq bY) uz)
 (uq (vw (c1 yZ (cL (uA 1 [] (iT ae) (gN 0) ve (ug xp bJ)))) (ug wJ bJ))))
def Am:=e0 1 1 GR
def Kv:FS:=(uq (c1 yZ (cL (uA 1 [0] (iT ai) (gN 0) ve (c2 (vr δ) ae ai)))))
def Ba:=e0 2 2 Kv
def y8:FS:=(bx (uJ 2 (cL (uA 1 [1] (iL ae) (gN 0) (cT (c2 (fl γ) (c1 (uo uD "name") ae) (c1 (uo uD "name") ai))) ae)))
 (uq (Ex (c1 FL (cL (uA 1 [1] (iL aj) (gN 0) ve (ug Ba (bt (c1 (uo wU "words") ae) (a1 (c1 (uo wU "words") ai))))))))))
def y9:=e0 2 3 y8
def wx:FS:=(bx (uT (ug uy (bt (c1 yZ (cL (uA 1 [] (iL ae) (gN 0) ve (ug Am (a1 (c1 (uo wU "words") ae)))))) (a1 (cS "a thing has 1 to 4 unlike words, as a tuple")))))
 (bx (uJ 1 (cL (u4 ym bJ)))
 (uT (ug uy (bt (c1 yZ (cL (uA 1 [1] (iL ai) (gN 0) ve (ug y9 eW)))) (a1 (cS "one thing has all words of another")))))))
def wy:=e0 1 2 wx
abbrev cO:=(bt ae (a1 ai))
def BC:FS:=(bx (uJ 2 (vw (c1 (vv (vO "list")) ae) (vw (c1 yZ (cL (uA 1 [1] (iL ae) (gN 0) ve (ug u7 cO)))) (ug wJ bJ))))
 (uT (ug uy (bt aj (a1 (cS "dark is a list of rooms' names, each once"))))))
def BD:=e0 2 3 BC
abbrev dA:=(cC (.int 3))
abbrev cF:=(cC (.int 2))
abbrev bH:=(a1 ai)
abbrev rM:=(bt (c2 gd ae dA) cG)
def IZ:FS:=(bx (ff (w9 (vN (cT (c1 (vv (vO "tuple")) ae))) (cT (c2 (fl γ) (c1 xc ae) (cC (.int 4))))) (uq bY) uz)
 (bx (uJ 3 (Y? (c2 yA (c2 gd ae dA) aI) (ug u7 rM)))
 (uq (vw (ug u7 (bt (c2 gd ae aX) bH)) (vw (ug xp (a1 (c2 gd ae aY))) (vw (ug u7 (bt (c2 gd ae cF) bH)) aA))))))
def I0:=e0 3 4 IZ
abbrev cK:=(bt ai (a1 aj))
abbrev ia:=(bt ae cK)
def BE:FS:=(bx (uJ 3 (vw (ug vn (bt ae (a1 (cC Gy)))) (c1 yZ (cL (uA 1 [1,2] (iL ae) (gN 0) ve (ug I0 ia))))))
 (bx (uT (ug uy (bt aA (a1 (cS "ways are a list of at most 10 tuples (room, word, room, mark)")))))
 (uT (ug uy (bt (ug wJ (a1 (cL (uA 1 [] (iL ae) (gN 0) ve (uS (bt (c2 gd ae aX) (a1 (c2 gd ae aY)))))))) (a1 (cS "two ways lead from one room by one word")))))))
def BF:=e0 3 4 BE
abbrev d9:=(cS "two")
abbrev m7:=(a1 (c1 (uo uD "name") ae))
def Kw:FS:=(bx (ff (w9 (vN (cT (c1 (vv Ua) ae))) (w9 (vN (cT (ug xn m7))) (vN (cT (c1 (vv (vO "tuple")) (c1 (uo xj "others") ae)))))) (uq bY) uz)
 (bx (ff (w9 (vN (cT (c1 yZ (cL (uA 1 [] (iT (c1 (uo xj "others") ae)) (gN 0) ve (ug xn bJ)))))) (vN (cT (ug u7 (bt (c1 (uo yP "form") ae) (a1 (cC Px))))))) (uq bY) uz)
 (uq (A? (cT (c2 (fl δ) (c1 (uo yP "form") ae) d9)) (ug xp (a1 (c1 (uo xi "joining") ae))) (c2 yA (c1 (uo xi "joining") ae) aI)))))
def Kz:=e0 1 1 Kw
def DH:FS:=(bx (uJ 1 (vw (ug vn (bt ae (a1 (cC EW)))) (c1 yZ (cL (uA 1 [] (iL ae) (gN 0) ve (ug Kz bJ))))))
 (uT (ug uy (bt ai (a1 (cS "verbs are a list of at most 6 verbs"))))))
def yJ:=e0 1 2 DH
def GT:FS:=(uq (Ex (c1 FL (cL (uA 1 [1] (iL ae) (gN 0) ve (c2 (vr δ) ae ai))))))
def yS:=e0 2 2 GT
abbrev j6:=(a1 (c1 (uo uD "name") (cV 6)))
abbrev cz:=(cV 6)
abbrev bT:=(cV 7)
def xW:FS:=(bx (wW 3 (uM uN))
 (bx (xH (iL (cL (u4 ym bJ))) (gN 4) (uT (Ct 3 (c1 (uo wU "words") aH))))
 (bx (wW 5 (uM uN))
 (bx (xH (iL aj) (gN 6) (uT (Ct 5 (Gm (uS j6) (c1 (uo xj "others") cz)))))
 (bx (uJ 7 (cL (wG (cL (uA 1 [] (iL aj) (gN 0) (cT (c2 vR (c1 (uo xi "joining") ae) aI)) (c1 (uo xi "joining") ae))) (cL (uA 1 [] (iL ai) (gN 0) ve (c2 gd ae aY))))))
 (bx (uT (ug uy (bt (ug wJ (a1 (D' 5))) (a1 (cS "two verbs' names are alike")))))
 (bx (uT (ug uy (bt (ug yS (bt (cL (wG (D' 5) bT)) (a1 (D' 3)))) (a1 (cS "a verb's, way's or joining word is a word of a thing")))))
 (bx (uT (ug uy (bt (ug yS (bt (cL (wG (D' 5) bT)) (a1 (cC zG)))) (a1 (cS "the, a, undo or restart is a word of the world")))))
 (uT (ug uy (bt (ug yS (bt bT (a1 (D' 5)))) (a1 (cS "a way's or joining word is a verb's name")))))))))))))
def xX:=e0 3 8 xW
abbrev c5:=(a1 aH)
def AL:FS:=(bx (uT (ug zM bJ))
 (bx (uT (ug AI bH))
 (bx (uT (ug AK cO))
 (bx (uT (ug zP bJ))
 (bx (uT (ug wy bJ))
 (bx (uJ 6 (cL (uA 1 [] (iL ae) (gN 0) (cT (c2 (fl δ) (c1 (uo uW "kind") ae) dR)) (c1 (uo uD "name") ae))))
 (bx (uT (ug BD (bt aj (a1 cz))))
 (bx (uT (ug BF (bt aA (bt cz (a1 (cL (u4 yn cO)))))))
 (bx (uT (ug yJ c5))
 (uT (ug xX (bt ae (bt aA (a1 (cL (wG aH bN))))))))))))))))
def AM:=e0 6 7 AL
def Uc:FS:=(uq (uO 13 (λa=>yR (a++[])) (bt ae (bt ai (bt aj (bt aA (a1 bY)))))))
def zQ:=e0 4 4 Uc
def KA:FS:=(uq (uO 13 (λa=>yR (a++[])) (bt ae (bt ai (bt (cL (uM uN)) (bt aj (a1 cU)))))))
def vF:=e0 3 3 KA
abbrev bZ:=(cS "it")
abbrev i9:=(cS "take")
def E3:FS:=(vI (uM (bt (ug vF (bt i9 (bt (cL (uM (a1 (uO 7 (λa=>wB (a++[])) (bt bZ (a1 (cS "fixed"))))))) (a1 (cS "That stays."))))) (bt (ug vF (bt i9 (bt (cL (uM (a1 (uO 3 (λa=>Dm (a++[])) (bt bZ bJ))))) (a1 (cS "You have that."))))) (bt (ug zQ (bt i9 (bt (cL (uM uN)) (bt (cL (uM (a1 (uO 11 (λa=>xk (a++[])) (bt bZ bJ))))) (a1 (cS "Taken.")))))) (bt (ug zQ (bt (cS "drop") (bt (cL (uM (a1 (uO 4 (λa=>BA (a++[])) (a1 bZ))))) (bt (cL (uM (a1 (uO 11 (λa=>xk (a++[])) (bt bZ (a1 (cS "here"))))))) (a1 (cS "Dropped.")))))) (a1 (ug vF (bt (cS "drop") (bt (cL (uM uN)) (a1 (cS "You lack that."))))))))))))
def BG:=A' 1 1 E3
abbrev dS:=(cS "box")
abbrev eQ:=(cS "other")
abbrev hZ:=(cS "put")
abbrev jg:=(a1 aX)
def GU:FS:=(vI (uM (bt (ug vF (bt hZ (bt (cL (uM (a1 (uO 9 (λa=>wI (a++[])) (a1 (uO 4 (λa=>BA (a++[])) (a1 bZ))))))) (a1 (cS "You lack that."))))) (bt (ug vF (bt hZ (bt (cL (uM (a1 (uO 9 (λa=>wI (a++[])) (a1 (uO 7 (λa=>wB (a++[])) (bt eQ (a1 dS)))))))) (a1 (cS "It holds nothing."))))) (bt (ug vF (bt hZ (bt (cL (uM (a1 (uO 6 (λa=>vS (a++[])) (bt eQ jg))))) (a1 (cS "It is shut."))))) (a1 (ug zQ (bt hZ (bt (cL (uM uN)) (bt (cL (uM (a1 (uO 11 (λa=>xk (a++[])) (bt bZ (a1 eQ)))))) (a1 (cS "Done."))))))))))))
def CH:=A' 0 0 GU
abbrev ja:=(cS "open")
abbrev jc:=(bt bZ (a1 aY))
abbrev ky:=(bt bZ jg)
def GV:FS:=(vI (uM (bt (ug vF (bt ja (bt (cL (uM (a1 (uO 9 (λa=>wI (a++[])) (a1 (uO 7 (λa=>wB (a++[])) (bt bZ (a1 dS)))))))) (a1 (cS "It has no lid."))))) (bt (ug vF (bt ja (bt (cL (uM (a1 (uO 6 (λa=>vS (a++[])) jc)))) (a1 (cS "It is open."))))) (bt (ug zQ (bt ja (bt (cL (uM uN)) (bt (cL (uM (a1 (uO 12 (λa=>yD (a++[])) jc)))) (a1 (cS "Opened.")))))) (bt (ug vF (bt (cS "shut") (bt (cL (uM (a1 (uO 9 (λa=>wI (a++[])) (a1 (uO 7 (λa=>wB (a++[])) (bt bZ (a1 dS)))))))) (a1 (cS "It has no lid."))))) (bt (ug vF (bt (cS "shut") (bt (cL (uM (a1 (uO 6 (λa=>vS (a++[])) ky)))) (a1 (cS "It is shut."))))) (a1 (ug zQ (bt (cS "shut") (bt (cL (uM uN)) (bt (cL (uM (a1 (uO 12 (λa=>yD (a++[])) ky)))) (a1 (cS "Shut."))))))))))))))
def CJ:=A' 0 0 GV
abbrev i4:=(cS "lamp")
abbrev je:=(a1 i4)
def DI:FS:=(vI (uM (bt (ug vF (bt (cS "light") (bt (cL (uM (a1 (uO 9 (λa=>wI (a++[])) (a1 (uO 7 (λa=>wB (a++[])) (bt bZ je))))))) (a1 (cS "It burns not."))))) (bt (ug vF (bt (cS "light") (bt (cL (uM (a1 (uO 6 (λa=>vS (a++[])) jc)))) (a1 (cS "It is lit."))))) (bt (ug zQ (bt (cS "light") (bt (cL (uM uN)) (bt (cL (uM (a1 (uO 12 (λa=>yD (a++[])) jc)))) (a1 (cS "Lit.")))))) (bt (ug vF (bt (cS "douse") (bt (cL (uM (a1 (uO 9 (λa=>wI (a++[])) (a1 (uO 7 (λa=>wB (a++[])) (bt bZ je))))))) (a1 (cS "It burns not."))))) (bt (ug vF (bt (cS "douse") (bt (cL (uM (a1 (uO 6 (λa=>vS (a++[])) ky)))) (a1 (cS "It is out."))))) (a1 (ug zQ (bt (cS "douse") (bt (cL (uM uN)) (bt (cL (uM (a1 (uO 12 (λa=>yD (a++[])) ky)))) (a1 (cS "Doused."))))))))))))))
def AN:=A' 0 0 DI
abbrev m9:=(a1 (c2 gd ai aX))
def GW:FS:=(bx (wW 2 (uM (bt (uO 3 (λa=>Dm (a++[])) (bt ae m9)) (a1 (uO 8 (λa=>CG (a++[])) (a1 (c2 gd ai aY)))))))
 (bx (ff (cT (c2 vR (c2 gd ai dA) aI)) (uT (AX 2 (uO 9 (λa=>wI (a++[])) (a1 (uO 6 (λa=>vS (a++[])) (bt (c2 gd ai dA) jg)))))) uz)
 (vI (JH 2))))
def CK:=A' 2 3 GW
def D4:FS:=(bx (uJ 2 (cL (uA 1 [0] (iL ai) (gN 0) ve (ug zQ (bt (cS "go") (bt (cL (u4 CK eW)) (bt (cL (uM (a1 (uO 11 (λa=>xk (a++[])) (bt ai (a1 (c2 gd ae cF))))))) (a1 (cS "You go.")))))))))
 (vI (wG aj (cL (uM (a1 (ug vF (bt (cS "go") (bt (cL (uM uN)) (a1 (cS "No way there.")))))))))))
def D5:=A' 2 3 D4
def E4:FS:=(vI (uM (a1 (ug zQ (bt (cS "wait") (bt (cL (uM uN)) (bt (cL (uM uN)) (a1 (cS "Time goes by.")))))))))
def E5:=A' 0 0 E4
def CL:FS:=(vI (wG (cL (wG (cL (wG (cL (wG (cL (wG (cL (u4 BG bJ)) (cL (u4 CH uN)))) (cL (u4 CJ uN)))) (cL (u4 AN uN)))) (cL (u4 D5 cO)))) (cL (u4 E5 uN))))
def zR:=A' 2 2 CL
abbrev fL:=(cS "way")
abbrev hX:=(cS "alone")
abbrev rF:=(bt (uS uN) (bt d9 (a1 (cS "in"))))
def CM:FS:=(vI (wG (cL (uA 1 [] (iT (uS (bt i9 (bt (cS "drop") (bt ja (bt (cS "shut") (bt (cS "light") (a1 (cS "douse"))))))))) (gN 0) ve (uO 2 (λa=>vx (a++[D.X,(D.str "one"),D.X])) bJ))) (cL (uM (bt (uO 2 (λa=>vx (a++[])) (bt hZ rF)) (bt (uO 2 (λa=>vx (a++[D.X])) (bt (cS "go") (bt (uS uN) (a1 fL)))) (a1 (uO 2 (λa=>vx (a++[D.X])) (bt (cS "wait") (bt (uS uN) (a1 hX)))))))))))
def yp:=A' 0 0 CM
def F0:FS:=(bx (IB 1)
 (bx (xH (iL ae) (gN 2) (yC 1 (c1 (uo uD "name") aj) aj))
 (uq (D' 1))))
def F1:=e0 1 3 F0
def za:FS:=(bx (IB 2)
 (bx (xH (iL ae) (gN 3) (ff (cT (uG wu "has_mark" aA uN)) (yC 2 (c1 (uo uD "name") aA) aY) uz))
 (bx (xH (iL ai) (gN 4) (yC 2 (c1 (uo uD "name") aH) (c1 (uo zD "most") aH)))
 (uq (D' 2)))))
def zb:=e0 2 5 za
def B3:FS:=(bx (IB 1)
 (bx (xH (iL ae) (gN 2) (xH (iT (Gm (uS (a1 (c1 (uo uD "name") aj))) (c1 (uo xj "others") aj))) (gN 3) (yC 1 aA aj)))
 (uq (D' 1))))
def xO:=e0 1 4 B3
def KB:FS:=(Od (uo yj "verb"))
def KC:=e0 1 3 KB
def B4:FS:=(vI (uA 1 [1] (iL (c1 (uo v8 "kept_things") ae)) (gN 0) (cT (c2 (fl δ) (c1 (uo uW "kind") ae) ai)) (c1 (uo uD "name") ae)))
def B5:=e0 2 2 B4
def xJ:Nat->Option (List D->Option D):=λc=>match c with
 |14=>U B5
 |_=>O
def An:FS:=(vI (wG (c1 (uo Cy "kept_verbs") ae) (c1 (uo A4 "shared_verbs") ae)))
def Ao:=e0 1 1 An
def xP:Nat->Option (List D->Option D):=λc=>match c with
 |14=>U Ao
 |_=>O
def CN:FS:=(uq (vw (c1 (vv (vO "str")) ae) (c2 (fl δ) ae ai)))
def yq:=e0 2 2 CN
def KD:FS:=(uq (uO 13 (λa=>yR (a++[])) (bt (c1 (uo yj "verb") ae) (bt (c1 (uo Dj "tests") ae) (bt (c1 (uo A2 "deeds") ae) (bt (c1 (uo ER "text") ae) (a1 (c1 (uo yQ "refuses") ae))))))))
def F2:=e0 1 1 KD
def Bb:FS:=(uq (c2 M5 (c1 (uo zF "things_by_name") ae) ai))
def vX:=e0 2 2 Bb
def uL:Nat->Option (List D->Option D):=λc=>match c with
 |14=>U vX
 |_=>O
def B6:FS:=(uq (c2 Cs (c1 (uo Ah "mosts_by_name") ae) ai))
def wN:=e0 2 2 B6
def vT:Nat->Option (List D->Option D):=λc=>match c with
 |14=>U wN
 |_=>O
def B7:FS:=(uq (c2 Cs (c1 (uo Ai "verbs_by_word") ae) ai))
def wQ:=e0 2 2 B7
def vU:Nat->Option (List D->Option D):=λc=>match c with
 |14=>U wQ
 |_=>O
def GY:FS:=(uq (c1 (uo AG "your_name") ae))
def M7:=e0 1 1 GY
def zq:Nat->Option (List D->Option D):=λc=>match c with
 |14=>U M7
 |_=>O
abbrev i6:=(cS "one")
abbrev kz:=(bt i6 (a1 d9))
def B8:FS:=(bx (ff (cT (ug yq (bt ai (a1 bZ)))) (uq (c2 (vr δ) ae (uS kz))) uz)
 (uq (vw (ug yq (bt ai (a1 eQ))) (c2 (fl δ) ae d9))))
def vz:=e0 2 2 B8
def KE:FS:=(uq (vw (c2 vR ae aI) (ug yq (bt ai (a1 (cS "here"))))))
def yE:=e0 2 2 KE
def Py:FS:=(uq (A? (cT (c1 (vv (vO "str")) ai)) (uG uL "thing_of" ae bH) aI))
def Ap:=e0 2 2 Py
def E6:FS:=(uq (vw (c2 vR (ug Ap cO) aI) (c2 (fl δ) (c1 (uo uW "kind") (ug Ap cO)) aj)))
def zh:=e0 3 3 E6
abbrev dU:=(bt ae cG)
def KG:FS:=(uq (Y? (ug vz cK) (Y? (ug yE cK) (c2 vR (ug Ap dU) aI))))
def Bc:=e0 3 3 KG
def D6:FS:=(bx (ff (w9 (cT (ug vz cK)) (cT (ug yE cK))) (uq cU) uz)
 (uq (vw (c2 vR (ug Ap dU) aI) (uG vy "can_hold" (ug Ap dU) uN))))
def BH:=e0 3 3 D6
def D7:FS:=(bx (ff (cT (ug vz cK)) (uq cU) uz)
 (uq (vw (c2 vR (ug Ap dU) aI) (Ex (ug zh (bt ae (bt aj jd)))))))
def D8:=e0 3 3 D7
def xQ:FS:=(bx (ff (w9 (vN (cT (ug zI eV))) (cT (c2 Lm aA aX))) (uq bY) uz)
 (bx (ff (cT (ug vz cK)) (uq (c2 zf aA (cC Al))) uz)
 (bx (uJ 4 (A? (cT (c1 (vv (vO "str")) aj)) (uG vT "most_of" ae cG) aI))
 (uq (vw (c2 vR aH aI) (c2 zf aA aH))))))
def xR:=e0 4 5 xQ
abbrev km:=(bt ae (bt ai (a1 (c1 (uo A5 "term") aj))))
abbrev rB:=(bt ae (bt ai (a1 (c1 (uo Di "place") aj))))
def F3:FS:=(bx (ff (w9 (vN (cT (ug D8 km))) (vN (cT (ug BH rB)))) (uq bY) uz)
 (uq (Y? (c2 (fl γ) (c1 (uo A5 "term") aj) (uG zq "you" ae uN)) (ug zh (bt ae (bt (c1 (uo Di "place") aj) jd))))))
def F4:=e0 3 3 F3
def KH:FS:=(uq (vw (c1 (vv (vO "str")) ae) (xT zf zf aY (c1 xc ae) (cC EU))))
def Be:=e0 1 1 KH
def CO:FS:=(uq (vw (ug xn bH) (vw (c2 vR (uG vU "verb_of" ae bH) aI) (c2 (fl δ) (c1 (uo uD "name") (uG vU "verb_of" ae bH)) ai))))
def zS:=e0 2 2 CO
def Aq:FS:=(uq (vw (c1 (vv (vO "bool")) (c1 (uo yQ "refuses") ae)) (Y? (Ex (c1 (uo yQ "refuses") ae)) (c2 (fl δ) (c1 (uo A2 "deeds") ae) (cL (uM uN))))))
def yt:=e0 1 1 Aq
abbrev rg:=(bt ae (bt ai (bt (c1 (uo A5 "term") aj) (a1 (c1 (uo Dk "value") aj)))))
def vG:FS:=(bx (ff (cT (c1 (vv t_At) aj)) (uq (vw (ug Bc km) (ug BH rB))) uz)
 (bx (ff (cT (c1 (vv (tOr XO T9)) aj)) (uq (ug Bc km)) uz)
 (bx (ff (cT (c1 (vv M6) aj)) (uq (ug xR rg)) uz)
 (bx (ff (cT (c1 (vv TX) aj)) (uq (vw (ug Bc km) (ug u7 (bt (c1 (uo uW "kind") aj) (a1 (cC Dl)))))) uz)
 (bx (ff (cT (c1 (vv Ub) aj)) (uq (vw (c2 (fl δ) ai fL) (ug xp (a1 (c1 (uo IP "word") aj))))) uz)
 (uq (c1 (vv XQ) aj)))))))
def zc:=e0 3 3 vG
abbrev m8:=(a1 (c2 MG aA aY))
def x4(g:List D->Option D):FS:=(bx (ff (cT (c2 (fl δ) aA aX)) (uq bY) uz)
 (bx (ff (cT (c1 (vv T7) aj)) (uq (ug g (bt ae (bt ai (bt (c1 (uo FW "inner") aj) m8))))) uz)
 (bx (ff (cT (c1 (vv Oo) aj)) (uq (vw (ug g (bt ae (bt ai (bt (c1 (uo LC "one") aj) m8)))) (ug g (bt ae (bt ai (bt (c1 (uo FX "other") aj) m8)))))) uz)
 (uq (ug zc ia)))))
def x6:Nat->List D->Option D
 |0=>e0 4 4 Wn
 |n+1=>e0 4 4 (x4 (x6 n))
def Dn:FS:=(bx (ff (cT (c1 (vv XR) aj)) (uq (ug xR rg)) uz)
 (uq (vw (c1 (vv TZ) aj) (ug F4 ia))))
def F5:=e0 3 3 Dn
def GZ:FS:=(uq (vw (ug vn (bt aj (a1 (cC ES)))) (c1 yZ (cL (uA 1 [0,1] (iL aj) (gN 0) ve (ug (x6 4) (bt ai (bt aj (bt ae (a1 (cC Gx)))))))))))
def CP:=e0 3 3 GZ
abbrev ng:=(bt ai (bt aj bJ))
def G0:FS:=(uq (vw (ug vn (bt aj (a1 (cC ET)))) (c1 yZ (cL (uA 1 [0,1] (iL aj) (gN 0) ve (ug F5 ng))))))
def CQ:=e0 3 3 G0
abbrev rH:=(a1 (c1 (uo yj "verb") ai))
def F6:FS:=(bx (ff (w9 (vN (cT (c1 (vv T8) ai))) (w9 (vN (cT (ug zS (bt ae rH)))) (vN (cT (ug Be (a1 (c1 (uo ER "text") ai))))))) (uq bY) uz)
 (bx (uJ 2 (c1 (uo yP "form") (uG vU "verb_of" ae rH)))
 (uq (vw (ug CP (bt ae (bt aj (a1 (c1 (uo Dj "tests") ai))))) (vw (ug CQ (bt ae (bt aj (a1 (c1 (uo A2 "deeds") ai))))) (ug yt bH))))))
def F7:=e0 2 3 F6
def yu:FS:=(bx (uT (ug AM (bt ai (bt aj (bt aA (bt aH (bt bN (a1 (cL (u4 yp uN))))))))))
 (bx (vc 14 0 "kept_things" (cL (zx ai)))
 (bx (vc 14 0 "kept_marks" (cL (zx aj)))
 (bx (vc 14 0 "kept_dark" (cL (zx aA)))
 (bx (vc 14 0 "kept_ways" (cL (zx aH)))
 (bx (vc 14 0 "kept_verbs" (cL (zx bN)))
 (bx (vc 14 0 "shared_verbs" (cL (u4 yp uN)))
 (bx (vc 14 0 "your_name" (DC 16 (c2 gd (uG xJ "of_kind" ae j8) aX)))
 (bx (vc 14 0 "things_by_name" (ug F1 bH))
 (bx (vc 14 0 "mosts_by_name" (ug zb cK))
 (bx (vc 14 0 "verbs_by_word" (DC 16 (ug xO (a1 (uG xP "all_verbs" ae uN)))))
 (bx (uJ 7 (DC 16 (vw (ug vn (bt cz (a1 (cC EY)))) (c1 yZ (cL (uA 1 [0] (iL cz) (gN 0) ve (ug F7 eW)))))))
 (bx (uT (ug uy (bt bT (a1 (cS "rules are a list of at most 20 rules, each as it may be")))))
 (bx (vc 14 0 "kept_rules" (cL (zx cz)))
 (bx (vc 14 0 "shared_rules" (DC 16 (cL (u4 zR (bt (c1 (uo AG "your_name") ae) c5)))))
 (bx (vc 14 0 "copied_rules" (cL (uA 1 [] (iL cz) (gN 0) ve (ug F2 bJ))))
 (vc 14 0 "rules_by_verb" (DC 16 (ug KC (a1 (cL (wG (c1 (uo A1 "copied_rules") ae) (c1 (uo A3 "shared_rules") ae)))))))))))))))))))))))
def zi:=x3 14 6 8 yu
def B9:FS:=(uq (c2 (vr δ) ai (c1 (uo DD "kept_dark") ae)))
def Hu:=e0 2 2 B9
def yK:Nat->Option (List D->Option D):=λc=>match c with
 |14=>U Hu
 |_=>O
def Ar:FS:=(vI (zx (c1 (uo zC "kept_marks") ae)))
def E7:=e0 1 1 Ar
def zd:Nat->Option (List D->Option D):=λc=>match c with
 |14=>U E7
 |_=>O
def DJ:FS:=(vI (uA 1 [] (iL (c1 (uo v8 "kept_things") ae)) (gN 0) ve (c1 (uo uD "name") ae)))
def DK:=e0 1 1 DJ
def yT:Nat->Option (List D->Option D):=λc=>match c with
 |14=>U DK
 |_=>O
def As:FS:=(vI (vj (cL (uA 1 [] (iL (c1 (uo AF "kept_ways") ae)) (gN 0) ve (c2 gd ae aY)))))
def Au:=e0 1 1 As
def xS:Nat->Option (List D->Option D):=λc=>match c with
 |14=>U Au
 |_=>O
def yU:FS:=(vI (zx (Ki (c1 (uo yi "rules_by_verb") ae) ai (cL (uM uN)))))
def wg:=e0 2 2 yU
def xY:Nat->Option (List D->Option D):=λc=>match c with
 |14=>U wg
 |_=>O
abbrev ka:=(cS "mark")
abbrev jb:=(cS "at")
abbrev rj:=(bt (c1 (uo v8 "kept_things") ae) (a1 (c1 (uo zC "kept_marks") ae)))
def DL:FS:=(bx (uJ 1 (cL (uA 1 [] (iL (c1 (uo v8 "kept_things") ae)) (gN 0) (cT (c2 (fl γ) (c1 (uo uW "kind") ae) dR)) (uS (bt jb m7)))))
 (bx (uJ 2 (cL (uA 1 [] (iL (cL (u4 yn rj))) (gN 0) ve (uS (bt ka bJ)))))
 (vI (FU (cL (wG ai aj))))))
def AO:=e0 1 3 DL
def Av:Nat->Option (List D->Option D):=λc=>match c with
 |14=>U AO
 |_=>O
def E8:FS:=(bx (IB 1)
 (bx (xH (iL (uG zd "own_marks" ae uN)) (gN 2) (yC 1 (c1 (uo uD "name") aj) (c1 (uo vK "start") aj)))
 (uq (D' 1))))
def BI:=e0 1 3 E8
def DM:FS:=(bx (ff (cT (c2 (fl δ) (c2 gd aj aX) jb)) (uq (c1 (uo vK "start") (uG uL "thing_of" ae (a1 (c2 gd aj aY))))) uz)
 (uq (Ki ai (c2 gd aj aY) aX)))
def xK:=e0 3 3 DM
abbrev rQ:=(bt ae (a1 (ug xK ng)))
def DN:FS:=(bx (uJ 1 (ug BI bJ))
 (uq (EG (cL (uA 1 [0,1] (iL (uG Av "parts" ae uN)) (gN 0) ve (uS rQ))))))
def xM:=e0 1 2 DN
def Ja:FS:=(bx (xH (iT ae) (gN 2) (ff (cT (c2 (fl δ) (c2 gd aj aX) ai)) (uq (c2 gd aj aY)) uz))
 (uq aI))
def BJ:=e0 2 3 Ja
abbrev rO:=(a1 (uS (bt jb bH)))
def Pz:FS:=(uq (ug BJ (bt ae rO)))
def Aw:=e0 2 2 Pz
abbrev rP:=(a1 (uS (bt ka bH)))
def KI:FS:=(uq (ug BJ (bt ae rP)))
def zr:=e0 2 2 KI
def G1:FS:=(uq (EG (cL (uA 1 [1,2] (iT ae) (gN 0) ve (A? (cT (c2 (fl δ) (c2 gd ae aX) ai)) (uS cK) ae)))))
def Ax:=e0 3 3 G1
abbrev kE:=(bt ai c5)
def E9:FS:=(bx (wW 3 (uM uN))
 (bx (uJ 4 (ug Aw cK))
 (bx (whL (cT (c2 vR aH aI)) (bx (uT (AX 3 aH))
 (uJ 4 (ug Aw kE))) 50)
 (vI (JH 3)))))
def xq:=A' 3 5 E9
abbrev rL:=(a1 (uG zq "you" ae uN))
def KJ:FS:=(uq (ug Aw (bt ai rL)))
def zt:=e0 2 2 KJ
def XS:FS:=(uq (c2 (vr δ) (uG zq "you" ae uN) (cL (u4 xq ia))))
def Ud:=e0 3 3 XS
def KL:FS:=(uq (vw (c2 (fl δ) (c1 (uo uW "kind") (uG uL "thing_of" ae cG)) dS) (c2 (fl δ) (ug zr cK) aX)))
def yF:=e0 3 3 KL
abbrev nz:=(bt ae kE)
def KM:FS:=(bx (xH (iL (cL (u4 xq ia))) (gN 4) (bx (ff (cT (c2 (fl δ) aH aA)) (uq cU) uz)
 (ff (cT (ug yF nz)) (uq bY) uz)))
 (uq bY))
def yG:=e0 4 5 KM
abbrev eU:=(bt ai (bt aj (a1 aA)))
def Jb:FS:=(uq (vw (c2 (fl δ) (ug zr cK) aY) (ug yG (bt ae eU))))
def zT:=e0 4 4 Jb
abbrev ni:=(bt ae eV)
abbrev rR:=(bt ai (bt aj ni))
def M8:FS:=(bx (uJ 2 (ug zt cO))
 (bx (ff (vN (cT (uG yK "is_dark" ae cG))) (uq cU) uz)
 (uq (c1 FL (cL (uA 1 [0,1,2] (iL (uG xJ "of_kind" ae je)) (gN 0) ve (ug zT rR)))))))
def Fb:=e0 2 3 M8
abbrev rq:=(bt ae (bt ai (bt aj rL)))
abbrev rK:=(bt ae (bt ai (bt aj (a1 (ug zt cO)))))
def KN:FS:=(bx (uJ 3 (uG uL "thing_of" ae cG))
 (bx (ff (w9 (cT (c2 yA aA aI)) (vN (cT (uG vt "is_plainly" aA uN)))) (uq bY) uz)
 (bx (ff (cT (ug yG rq)) (uq cU) uz)
 (uq (vw (ug yG rK) (ug Fb cO))))))
def x8:=e0 3 4 KN
def G2:FS:=(bx (uJ 2 (A? (cT (c2 yA ai aI)) aI (uG vU "verb_of" ae m9)))
 (uq (vw (c2 vR aj aI) (c2 (fl δ) (c1 (uo yP "form") aj) fL))))
def Ay:=e0 2 3 G2
abbrev jh:=(a1 aI)
abbrev kA:=(bt aI jh)
abbrev rE:=(bt (c2 gd ai aY) (a1 (c2 gd ai cF)))
def G3:FS:=(bx (ff (w9 (cT (c2 yA ai aI)) (cT (ug Ay cO))) (uq (uS kA)) uz)
 (uq (uS rE)))
def vV:=e0 2 2 G3
def PB:FS:=(bx (ff (cT (c2 (fl δ) aA (cS "here"))) (uq (ug zt cO)) uz)
 (bx (ff (cT (c2 (fl δ) aA bZ)) (uq (c2 gd (ug vV dU) aX)) uz)
 (bx (ff (cT (c2 (fl δ) aA eQ)) (uq (c2 gd (ug vV dU) aY)) uz)
 (uq aA))))
def vH:=e0 4 4 PB
def Jc:FS:=(bx (uJ 2 (uG uL "thing_of" ae bH))
 (uq (A? (w9 (cT (c2 yA aj aI)) (cT (c2 (fl δ) (c1 (uo uW "kind") aj) dR))) (cL (uM uN)) (cL (uM rO)))))
def D9:=e0 2 3 Jc
def Fc:FS:=(uq (A? (cT (c2 yA (uG vT "most_of" ae bH) aI)) (cL (uM uN)) (cL (uM rP))))
def zj:=e0 2 2 Fc
def M9:FS:=(bx (uJ 3 (uG uL "thing_of" ae cG))
 (uq (vw (c2 (fl γ) (ug D9 cO) (cL (uM uN))) (vw (c2 vR aA aI) (vw (uG vy "can_hold" aA uN) (c2 (fl γ) aj ai))))))
def Fd:=e0 3 4 M9
def Jd:FS:=(uq (vw (c2 (fl γ) (ug zj cO) (cL (uM uN))) (c2 zf aj (uG vT "most_of" ae bH))))
def Ea:=e0 3 3 Jd
abbrev gq:=(bt ai (bt aj (bt aA (a1 (c1 (uo A5 "term") ae)))))
abbrev m5:=(bt ai (bt aj (bt aA (a1 (c1 (uo Di "place") ae)))))
def Je:FS:=(bx (uJ 4 (ug vH gq))
 (bx (uJ 5 (ug Aw (bt aj c5)))
 (uq (vw (c2 vR bN aI) (c2 (fl δ) bN (ug vH m5))))))
def Eb:=e0 4 6 Je
abbrev nh:=(bt aj (a1 (ug vH gq)))
def G4:FS:=(uq (ug Ud (bt ai nh)))
def G5:=e0 4 4 G4
def Fe:FS:=(uq (ug x8 (bt ai nh)))
def Fg:=e0 4 4 Fe
def CS:FS:=(bx (uJ 4 (ug zr nh))
 (uq (vw (c2 vR aH aI) (c2 (fl δ) aH (c1 (uo Dk "value") ae)))))
def zU:=e0 4 5 CS
def Fh:FS:=(bx (uJ 4 (uG uL "thing_of" ai (a1 (ug vH gq))))
 (uq (vw (c2 vR aH aI) (c2 (fl δ) (c1 (uo uW "kind") aH) (c1 (uo uW "kind") ae)))))
def Fi:=e0 4 5 Fh
def Fj:FS:=(uq (vw (ug Ay (bt ai eV)) (c2 (fl δ) (c2 gd aA aY) (c1 (uo IP "word") ae))))
def Fk:=e0 4 4 Fj
def G6:FS:=(uq (ug Fb cK))
def G7:=e0 4 4 G6
def yV(g:Nat->Option (List D->Option D)):FS:=(uq (Ex (uG g "holds" (c1 (uo FW "inner") ae) eU)))
def yw(g:Nat->Option (List D->Option D)):FS:=(uq (vw (uG g "holds" (c1 (uo LC "one") ae) eU) (uG g "holds" (c1 (uo FX "other") ae) eU)))
def BK:Nat->Option (List D->Option D):=λc=>match c with
 |3=>U Eb
 |4=>U G5
 |5=>U Fg
 |6=>U zU
 |7=>U Fi
 |8=>U Fk
 |15=>U G7
 |_=>O
def u9:Nat->Nat->Option (List D->Option D)
 |0=>BK
 |n+1=>λc=>match c with
  |9=>U (e0 4 4 (yV (u9 n)))
  |10=>U (e0 4 4 (yw (u9 n)))
  |c=>BK c
abbrev kq:=(bt ai (bt aj (a1 bN)))
abbrev ku:=(a1 bN)
abbrev rN:=(bt ai (bt aH ku))
def G8:FS:=(bx (uJ 4 (ug vH gq))
 (bx (uJ 5 (ug vH m5))
 (bx (ff (w9 (vN (cT (ug Fd rN))) (cT (c2 (vr δ) aH (cL (u4 xq kq))))) (uq aI) uz)
 (uq (ug Ax (bt aj (bt (uS (bt jb c5)) ku)))))))
def AA:=e0 4 6 G8
abbrev m6:=(a1 (c1 (uo Dk "value") ae))
def Jf:FS:=(bx (uJ 4 (ug vH gq))
 (bx (ff (vN (cT (ug Ea (bt ai (bt aH m6))))) (uq aI) uz)
 (uq (ug Ax (bt aj (bt (uS (bt ka c5)) m6))))))
def Ec:=e0 4 5 Jf
def BL:Nat->Option (List D->Option D):=λc=>match c with
 |11=>U AA
 |12=>U Ec
 |_=>O
def G9:FS:=(bx (uJ 2 (A? (cT (c1 (vv (vO "str")) ai)) (uG uL "thing_of" ae bH) aI))
 (uq (vw (c2 vR aj aI) (uG vt "is_plainly" aj uN))))
def x9:=e0 2 3 G9
def He:FS:=(bx (ff (cT (c2 (fl δ) ai d9)) (uq (vw (ug x9 dU) (ug x9 ni))) uz)
 (bx (ff (cT (c2 vR aA aI)) (uq bY) uz)
 (bx (ff (cT (c2 (fl δ) ai fL)) (uq (vw (c1 (vv (vO "str")) aj) (c2 (vr δ) aj (uG xS "way_words" ae uN)))) uz)
 (uq (A? (cT (c2 (fl δ) ai hX)) (c2 yA aj aI) (ug x9 dU))))))
def ya:=e0 4 4 He
def Fl:FS:=(bx (ff (w9 (vN (cT (c1 (vv (vO "tuple")) ai))) (w9 (cT (c2 (fl γ) (c1 xc ai) dA)) (vN (cT (c1 (vv (vO "str")) (c2 gd ai aX)))))) (uq bY) uz)
 (bx (uJ 2 (uG vU "verb_of" ae m9))
 (uq (vw (c2 vR aj aI) (vw (c2 (fl δ) (c1 (uo uD "name") aj) (c2 gd ai aX)) (ug ya (bt ae (bt (c1 (uo yP "form") aj) rE))))))))
def vP:=e0 2 3 Fl
def Ca:FS:=(ff (vN (cT (ug vP cO))) (sRz (a1 (cS "there is no such command in this world"))) uz)
def u0:=fnX 2 2 Ca
def Ue:FS:=(bx (xH (iL (c1 (uo Dj "tests") aA)) (gN 4) (ff (vN (cT (uG (u9 3) "holds" aH ia))) (uq bY) uz))
 (uq cU))
def LD:=e0 4 5 Ue
abbrev rJ:=(a1 (c1 (uo ER "text") aA))
def KO:FS:=(bx (ff (cT (c1 (uo yQ "refuses") aA)) (uq (uS (bt (uS (bt (cS "refused") rJ)) bH))) uz)
 (bx (uJ 4 ai)
 (bx (xH (iL (c1 (uo A2 "deeds") aA)) (gN 5) (bx (uJ 4 (uG BL "done" bN (bt ae (bt aH cG))))
 (ff (cT (c2 yA aH aI)) (uq (uS (bt (uS (bt (cS "refused") (a1 (cC Gw)))) bH))) uz)))
 (uq (uS (bt (uS (bt (cS "told") rJ)) c5))))))
def Do:=e0 4 6 KO
def Jg:FS:=(bx (xH (iT (ug vV dU)) (gN 4) (ff (BV (cT (c2 vR aH aI)) (cT (c2 (vr γ) aH aA))) (uq (uS (bt (uS (bt (cS "unseen") c5)) bH))) uz))
 (bx (xH (iL (uG xY "rules_to_try" ae (a1 (c2 gd aj aX)))) (gN 5) (ff (cT (ug LD (bt ae kq))) (uq (ug Do (bt ae kq))) uz))
 (uq (uS (bt (uS (bt (cS "refused") (a1 (cC BX)))) bH)))))
def Ed:=e0 4 6 Jg
def LF:FS:=(bx (sXp u0 dU)
 (bx (sNb (uJ 3 (cL (uA 1 [0,1] (iT (ug vV dU)) (gN 0) (cT (ug x8 ng)) ae))))
 (sNb (uq (ug Ed (bt ae eU))))))
def CT:=fnV 3 4 LF
def xt:FS:=(bx (ff (cT (c2 (fl δ) ai hX)) (vI (uM (a1 (uS kA)))) uz)
 (bx (ff (cT (c2 (fl δ) ai fL)) (vI (uA 1 [] (iL (uG xS "way_words" ae uN)) (gN 0) ve (uS (bt ae jh)))) uz)
 (bx (uJ 2 (cL (uA 1 [0] (iL (uG yT "names" ae uN)) (gN 0) (cT (uG vt "is_plainly" (uG uL "thing_of" ai bJ) uN)) ae)))
 (bx (ff (cT (c2 (fl δ) ai i6)) (vI (uA 1 [] (iL aj) (gN 0) ve (uS (bt ae jh)))) uz)
 (bx (wW 3 (uM uN))
 (bx (xH (iL aj) (gN 4) (uT (Hr 3 (uA 1 [4] (iL aj) (gN 0) ve (uS eW)))))
 (vI (JH 3))))))))
def xu:=A' 2 5 xt
abbrev j7:=(xD (gN 0) (xD (gN 1) Kb))
abbrev ko:=(bt ae (a1 (c1 (uo yP "form") aj)))
abbrev kC:=(bt (c1 (uo uD "name") aj) cO)
def Ee:FS:=(bx (wW 1 (uM uN))
 (bx (xH (iL (uG xP "all_verbs" ae uN)) (gN 2) (uT (Hr 1 (uA 2 [2] (iL (cL (u4 xu ko))) (gT j7 2) ve (uS kC)))))
 (vI (JH 1))))
def Ef:=A' 1 3 Ee
def CU:FS:=(bx (ff (cT (c2 Lm ai (c1 xc ae))) (uq (c2 gd ae ai)) uz)
 (uq aX))
def yx:=e0 2 2 CU
abbrev i5:=(cC (.int 2147483647))
def zk:FS:=(bx (ff (Cp (cT (c2 (fl δ) (c1 xc ae) aY))) (bx (uJ 2 (Cd (c2 gd ae aX)))
 (bx (AE 0 0 (c2 ye aj (c1 NZ (c2 Y7 aj (c2 SC (cC (.int 10)) (cC (.int 18)))))))
 (uT (Hr 0 (uM (bt (c2 yf aj i5) jg)))))) uz)
 (bx (ff (Cp (cT (c2 MH (c2 gd ae aX) aX))) (bx (uJ 3 (Cd (c2 yf (c2 gd ae aX) ai)))
 (bx (AE 0 0 (Cd (c2 BW (c2 gd ae aX) ai)))
 (uq aA))) uz)
 (bx (AE 0 2 (Cd (c2 xb (c2 gd ae cF) aY)))
 (bx (uJ 4 (Cd (c2 yf (c2 ye (c2 xb (c2 xb (c2 gd ae aY) (c2 ye (cC (.int 7919)) (c2 gd ae cF))) aY) (cC (.int 48271))) i5)))
 (bx (uJ 4 (c2 yf (c2 ye aH (c2 xb (c2 BW aH (cC (.int 1009))) (cC (.int 69621)))) i5))
 (uq (c2 yf (c2 yf (c2 ye aH (c2 xb (c2 BW aH (cC (.int 2003))) (cC (.int 40692)))) (cC (.int 2147483399))) ai)))))))
def ui:=tj 1 5 zk
def Fm:FS:=(vI (uA 1 [1] (iL ae) (gN 0) (cT (c2 (vr δ) (c1 (uo uW "kind") ae) ai)) (c1 (uo uD "name") ae)))
def vM:=A' 2 2 Fm
abbrev i7:=(cC (.int 7))
abbrev i8:=(cC (.int 8))
abbrev ra:=(xD (gN 7) (xD (gN 8) Kb))
abbrev kc:=(cC (.int 6))
def DO:FS:=(bx (uJ 1 (cL (Ht (cL (uM (bt (cS "hall") (bt (cS "x") (bt (cS "cellar") (bt (cS "loft") (a1 (cS "porch")))))))) oNo (oAt (c2 xb aY (vd ui 0 (a1 (cC (.int 5)))))))))
 (bx (wW 2 (uA 1 [] (iL ai) (gN 0) ve (uO 0 (λa=>yk (a++[D.X])) (bt ae (bt (uS (bt ae (a1 (cS "place")))) jd)))))
 (bx (uT (AX 2 (uO 0 (λa=>yk (a++[])) (bt (cS "me") (bt (uS (bt (cS "me") (a1 (cS "self")))) (bt (cS "you") (a1 (c2 gd ai (vd ui 0 (a1 (c1 xc ai)))))))))))
 (bx (wW 3 (wG ai (cL (uM (a1 (cS "me"))))))
 (bx (uJ 4 (cL (uM (bt (uS (bt (cS "chest") (a1 (uS (bt (cS "old") (a1 (cS "chest"))))))) (bt (uS (bt i4 (a1 (uS (bt i4 (a1 (cS "red"))))))) (bt (uS (bt (cS "stone") (a1 (uS (bt (cS "red") (a1 (cS "stone"))))))) (a1 (uS (bt (cS "key") (a1 (uS (a1 (cS "key")))))))))))))
 (bx (uJ 4 (cL (wG aH (cL (uM (bt (uS (bt (cS "itch") (a1 (uS (bt (cS "old") (bt (cS "red") (a1 (cS "rag")))))))) (bt (uS (bt (cS "heretic") (a1 (uS (bt (cS "stone") (a1 (cS "man"))))))) (a1 (uS (bt (cS "others") (a1 (uS (bt (cS "book") (bt (cS "of") (a1 (cS "old"))))))))))))))))
 (bx (uJ 5 (vd ui 0 (a1 i7)))
 (bx (xH (iR1 (vd ui 0 (a1 i8))) (gN 6) (bx (Lk (c2 gd aH (c2 yf (c2 xb cz bN) i7)) (gT ra 2))
 (bx (uJ 9 (c2 gd (cL (uM (bt (cS "plain") (bt dS (bt i4 (bt dS (bt (cS "fixed") (a1 (cS "plain"))))))))) (vd ui 0 (a1 kc))))
 (bx (uT (AX 2 (uO 0 (λa=>yk (a++[])) (bt bT (bt (cV 8) (bt (cV 9) (a1 (NX 3 (vd ui 0 (a1 (Cd (c1 xc aA))))))))))))
 (ff (cT (c2 (fl δ) (cV 9) dS)) (uT (AX 3 bT)) uz)))))
 (bx (uJ 5 (vd ui 0 (a1 (Cd (c1 xc aj)))))
 (vI (wG (cL (Ht (D' 2) (oAt bN) oNo)) (cL (Ht (D' 2) oNo (oAt bN))))))))))))))
def AQ:=tj 0 10 DO
abbrev gr:=(a1 dA)
def Fn:FS:=(bx (wW 1 (uM uN))
 (bx (xH (iL (cL (Ht (cL (uM (bt (cS "gate") (bt (cS "luck") (bt (cS "tide") (a1 (cS "i"))))))) oNo (oAt (vd ui 0 (a1 (cC (.int 5)))))))) (gN 2) (bx (uJ 3 (c2 xb aY (vd ui 0 gr)))
 (uT (AX 1 (uO 1 (λa=>GE (a++[])) (bt aj (bt (vd ui 0 (a1 (c2 xb aA aY))) eV)))))))
 (vI (JH 1))))
def BM:=tj 0 4 Fn
abbrev hU:=(a1 (cC (.int 4)))
abbrev kB:=(a1 (c1 xc aA))
abbrev nq:=(a1 (cL (uM jd)))
abbrev nu:=(bt dS je)
def Hf:FS:=(bx (uJ 3 (cL (u4 vM (bt ai nq))))
 (bx (uJ 4 (cL (wG (cL (wG (cL (uM kA)) (cL (uA 1 [] (iL aj) (gN 0) ve (c1 (uo uD "name") ae))))) (cL (u4 vM (bt ai (a1 (cL (uM nu)))))))))
 (bx (wW 5 (uM uN))
 (bx (xH (iR1 (vd ui 0 (a1 (cC (.int 9))))) (gN 6) (bx (uJ 7 (c2 gd aA (vd ui 0 kB)))
 (bx (uJ 8 (c2 gd (cL (uM (bt (cS "north") (bt (cS "up") (bt (cS "outside") (a1 (cS "north"))))))) (vd ui 0 hU)))
 (bx (uJ 9 (c2 gd aA (vd ui 0 kB)))
 (bx (uJ 10 (c2 gd aH (vd ui 0 (a1 (c1 xc aH)))))
 (ff (Cp (cT (c2 dNiT (uS (bt bT (a1 (cV 8)))) (cL (uA 1 [] (iL bN) (gN 0) ve (WT ae O (U 2))))))) (uT (AX 5 (uS (bt bT (bt (cV 8) (bt (cV 9) (a1 (cV 10)))))))) uz))))))
 (vI (JH 5))))))
def CV:=tj 2 11 Hf
def Fo:FS:=(bx (uJ 1 (cL (uM (bt (uO 2 (λa=>vx (a++[(D.str "one"),D.X])) (bt (cS "push") (a1 (uS (bt (cS "shove") (a1 (cS "p"))))))) (bt (uO 2 (λa=>vx (a++[])) (bt (cS "tie") (bt (uS uN) (bt d9 (a1 (cS "to")))))) (a1 (uO 2 (λa=>vx (a++[D.X])) (bt (cS "sing") (bt (uS (a1 (cS "hum"))) (a1 hX))))))))))
 (bx (uJ 1 (cL (wG ai (cL (uM (bt (uO 2 (λa=>vx (a++[D.X])) (bt (cS "swim") (bt (uS (a1 (cS "dive"))) (a1 fL)))) (bt (uO 2 (λa=>vx (a++[])) (bt (cS "takes") rF)) (a1 (uO 2 (λa=>vx (a++[D.X])) (bt (cS "w") (bt (uS uN) (a1 hX))))))))))))
 (bx (uJ 2 (vd ui 0 (a1 kc)))
 (vI (Ht (cL (wG (cL (Ht ai (oAt aj) oNo)) (cL (Ht ai oNo (oAt aj))))) oNo (oAt (vd ui 0 (a1 i7))))))))
def BN:=tj 0 3 Fo
def Hg:FS:=(bx (uJ 3 (cL (wG aj (cL (uM (a1 (cS "here")))))))
 (bx (ff (cT (c2 (vr δ) ai (cL (uM kz)))) (uJ 3 (cL (wG aA (cL (uM (bt bZ (a1 bZ))))))) uz)
 (bx (ff (cT (c2 (fl δ) ai d9)) (uJ 3 (cL (wG aA (cL (uM (bt eQ (a1 eQ))))))) uz)
 (uq (c2 gd aA (vd ui 0 kB))))))
def wj:=tj 2 4 Hg
def Bf:FS:=(bx (wW 4 (wG (cL (uA 1 [] (iL aA) (gN 0) ve (uS (bt (c1 (uo uD "name") ae) rG)))) (cL (uA 1 [] (iL (cL (u4 vM (bt aj (a1 (cL (uM nu))))))) (gN 0) ve (uS (bt ae (a1 aY)))))))
 (bx (ff (cT (c2 (vr δ) ai (cL (uM kz)))) (wW 4 (wG (D' 4) (cL (uM (bt (uS (bt bZ gr)) (a1 (uS jc))))))) uz)
 (bx (ff (cT (c2 (fl δ) ai d9)) (uT (AX 4 (uS (bt eQ gr)))) uz)
 (bx (ff (Cp (cT (c2 (fl δ) aH (cL (uM uN))))) (uq aI) uz)
 (uq (NX 4 (vd ui 0 (a1 (Cd (c1 xc aH))))))))))
def xy:=tj 3 5 Bf
abbrev rp:=(bt (c2 gd aH aX) (a1 (vd ui 0 (a1 (c2 xb (c2 gd aH aY) aY)))))
def DP:FS:=(bx (uJ 4 (vd xy 0 eU))
 (bx (ff (cT (c2 yA aH aI)) (uq (WW 15)) uz)
 (uq (uO 6 (λa=>vS (a++[])) rp))))
def yL:=tj 3 5 DP
abbrev kh:=(bt ai (bt aj (bt aA (a1 (c2 MG aH aY)))))
abbrev rD:=(bt aj (a1 (cL (uM (bt dR (bt dS j8))))))
abbrev jf:=(bt ai ku)
def yW(g:List D->List D->Option (D×List D)):FS:=(bx (uJ 5 (cL (uA 1 [] (iL aj) (gN 0) ve (c1 (uo uD "name") ae))))
 (bx (uJ 6 (cL (u4 vM rD)))
 (bx (uJ 7 (vd ui 0 (a1 (c2 xb i8 (c2 ye cF (c1 NZ (c2 MH aH aX)))))))
 (bx (ff (cT (c2 Lm bT cF)) (uq (uO 3 (λa=>Dm (a++[])) (bt (vd wj 0 jf) (a1 (vd wj 0 (bt ai (a1 cz))))))) uz)
 (bx (ff (cT (c2 (fl δ) bT cF)) (uq (uO 4 (λa=>BA (a++[])) (a1 (vd wj 0 jf)))) uz)
 (bx (ff (cT (c2 (fl δ) bT dA)) (uq (uO 5 (λa=>GH (a++[])) (a1 (vd wj 0 jf)))) uz)
 (bx (ff (cT (c2 (fl δ) bT (cC (.int 4)))) (bx (uJ 8 (cL (uM (bt (cS "plain") (bt (cS "fixed") (bt dS (bt i4 (bt dR j8))))))))
 (uq (uO 7 (λa=>wB (a++[])) (bt (vd wj 0 jf) (a1 (c2 gd (cV 8) (vd ui 0 (a1 kc)))))))) uz)
 (bx (ff (cT (c2 (fl δ) bT (cC (.int 5)))) (uq (WW 15)) uz)
 (bx (ff (BV (cT (c2 (fl δ) bT kc)) (cT (c2 (fl δ) ai fL))) (uq (uO 8 (λa=>CG (a++[])) (a1 (c2 gd (cL (uM (bt (cS "north") (bt (cS "up") (bt (cS "outside") (a1 (cS "down"))))))) (vd ui 0 hU))))) uz)
 (bx (ff (cT (c2 Lm bT i8)) (uq (vd yL 0 eU)) uz)
 (bx (ff (cT (c2 (fl δ) bT i8)) (uq (uO 9 (λa=>wI (a++[])) (a1 (vd g 0 kh)))) uz)
 (bx (uJ 9 (vd g 0 kh))
 (uq (uO 10 (λa=>GO (a++[])) (bt (cV 9) (a1 (vd g 0 kh)))))))))))))))))
def wm:Nat->List D->List D->Option (D×List D)
 |0=>tj 4 10 Wn
 |n+1=>tj 4 10 (yW (wm n))
def Hh:FS:=(bx (uJ 4 (vd xy 0 eU))
 (bx (ff (BV (cT (c2 vR aH aI)) (cT (c2 (fl δ) (vd ui 0 (a1 cF)) aY))) (uq (uO 12 (λa=>yD (a++[])) rp)) uz)
 (bx (uJ 5 (cL (u4 vM (bt aj (a1 (cL (uM (bt (cS "plain") (bt (cS "fixed") nu)))))))))
 (bx (ff (BV (cT (c2 (vr δ) ai (cL (uM kz)))) (w9 (cT (c2 (fl δ) bN (cL (uM uN)))) (cT (c2 (fl δ) (vd ui 0 (a1 cF)) aY)))) (uJ 5 (cL (uM (bt bZ (bt bZ (a1 (c2 gd (cL (uM (bt bZ (a1 eQ)))) (c1 NZ (c2 (fl δ) ai d9))))))))) uz)
 (bx (uJ 6 (cL (u4 vM (bt aj nq))))
 (bx (ff (w9 (cT (c2 (fl δ) bN (cL (uM uN)))) (cT (c2 (fl δ) (vd ui 0 hU) aX))) (uq (uO 11 (λa=>xk (a++[])) (bt (cS "me") (a1 (c2 gd cz (vd ui 0 (a1 (c1 xc cz)))))))) uz)
 (bx (uJ 7 (cL (u4 vM rD)))
 (uq (uO 11 (λa=>xk (a++[])) (bt (c2 gd bN (vd ui 0 (a1 (c1 xc bN)))) (a1 (vd wj 0 (bt ai (a1 bT))))))))))))))
def CW:=tj 3 8 Hh
abbrev rA:=(bt (c1 (uo uD "name") ae) (a1 (c1 (uo yP "form") ae)))
def Fp:FS:=(bx (uJ 5 (cL (uM (bt (uS (bt i9 (a1 i6))) (bt (uS (bt ja (a1 i6))) (bt (uS (bt hZ (a1 d9))) (bt (uS (bt (cS "go") (a1 fL))) (bt (uS (bt (cS "wait") (a1 hX))) (a1 (uS (bt (cS "drop") (a1 i6))))))))))))
 (bx (uJ 5 (cL (wG bN (cL (cRep (cL (uA 1 [] (iL aA) (gN 0) ve (uS rA))) cF)))))
 (bx (wW 6 (uM uN))
 (bx (xH (iR1 (vd ui 0 (a1 (c2 xb aH aY)))) (gN 7) (bx (Lk (c2 gd bN (vd ui 0 (a1 (c1 xc bN)))) (gT (xD (gN 8) (xD (gN 9) Kb)) 2))
 (bx (uJ 10 (cL (uA 1 [0,9,1,2] (iR1 (vd ui 0 hU)) (gN 0) ve (vd (wm 3) 1 (bt aj (bt aA (bt aH (a1 cF))))))))
 (bx (uJ 11 (c2 (fl δ) (vd ui 0 hU) aX))
 (bx (uJ 12 (cL (uA 1 [0,9,1,2] (iR1 (c2 ye (vd ui 0 hU) (c1 NZ (Ex (cV 11))))) (gN 0) ve (vd CW 1 (bt aj (bt aA c5))))))
 (uT (AX 6 (uO 13 (λa=>yR (a++[])) (bt (cV 8) (bt (cV 10) (bt (cV 12) (bt (c2 EE (c2 EE (cS "Text ") (c1 I? bT)) (c2 Kh (cS ".") (c2 xb aY (vd ui 0 (a1 (cC (.int 9))))))) (a1 (cV 11))))))))))))))
 (vI (JH 6))))))
def BO:=tj 4 13 Fp
def Hk:FS:=(bx (uJ 2 (vd AQ 0 uN))
 (bx (uJ 3 (vd BM 0 uN))
 (bx (uJ 4 (cL (uA 1 [0] (iL (cL (u4 vM (bt aj nq)))) (gN 0) (cT (c2 (fl δ) (vd ui 1 gr) aX)) ae)))
 (bx (uJ 5 (vd CV 0 (bt aj eV)))
 (bx (uJ 6 (vd BN 0 uN))
 (vI (uM (bt aj (bt aA (bt aH (bt bN (bt cz (a1 (vd BO 0 (bt aj (bt aA (bt cz bH)))))))))))))))))
def AB:=tj 1 7 Hk
def Fq:FS:=(bx (uJ 2 (K? AB bH (uM bJ)))
 (bx (Lk aj (gTL (xD (gN 3) (xD (gN 4) (xD (gN 5) (xD (gN 6) ra)))) 6))
 (uq (uO 14 (λa=>zi (a++[])) (bt aA (bt aH (bt bN (bt cz (bt bT (a1 (cV 8)))))))))))
def BP:=e0 2 9 Fq
def Jh:FS:=(bx (Lk ae (gT (xD (gN 2) (xD (gN 3) (xD (gN 4) Kb))) 3))
 (bx (wW 5 (uM (bt (uS (bt aj eV)) (bt (uS (bt aj (bt aA (bt aH jh)))) (bt (cL (zx ae)) (bt aj (bt aI (bt (uS uN) (a1 i7)))))))))
 (bx (xH (iL (cL (uM (bt (cS "nobody") (bt aI (bt (cS "") (bt (cS "shove") (bt (cS "hum") (bt (cS "dive") (bt (cS "hall") (bt dA (a1 (cS "undo"))))))))))))) (gN 6) (uT (AX 5 (uS (bt cz (bt aA c5))))))
 (bx (xH (iL (cL (uM (bt (cS "hall") (bt (cS "me") (bt (cS "nobody") (bt (cS "gate") (bt (cS "") (bt dA (bt bZ (bt (cS "down") (bt (cS "thingless") (a1 cU))))))))))))) (gN 7) (bx (uT (AX 5 (uS (bt aj (bt bT c5)))))
 (uT (AX 5 (uS (bt aj (bt aA (a1 bT))))))))
 (bx (ff (cT (c2 vR aA aI)) (wW 5 (wG (D' 5) (cL (uM (bt (uS (bt aj (bt aI c5))) (bt (uS (bt aj kA)) (a1 (uS (bt aj (bt (cL (uM eV)) c5)))))))))) uz)
 (bx (ff (cT (c2 vR aH aI)) (wW 5 (wG (D' 5) (cL (uM (bt (uS (bt aj (bt aA jh))) (a1 (uS (bt aj (bt aA (a1 (uS c5))))))))))) uz)
 (uq (c2 gd (D' 5) (c2 yf ai (c1 xc bN))))))))))
def Eg:=e0 2 8 Jh
def CY:FS:=(bx (uJ 3 (cL (uM (a1 cU))))
 (bx (l' (ff (cT (c2 (fl δ) ae aX)) (sXv (xV u0) cK) (sXv CT (bt ai (bt (ug xM bH) cG)))) 4 3 [.Y δ,.Y δ,.Y δ,.Y δ,.Y δ,.Y δ])
 (uq (Ex (c1 FL aA)))))
def zW:=e0 3 5 CY
def Ug:FS:=(bx (uJ 1 (ug BP (bt (ug yx (bt ae jg)) gr)))
 (bx (uJ 2 (cL (u4 Ef bH)))
 (bx (xH (iR2 aY (c2 dMax2 dA (c2 dMin2 (cC (.int 40)) (c1 xc ae)))) (gN 3) (bx (uJ 4 (ug yx ni))
 (bx (uJ 5 (c2 gd aj (c2 yf (c2 xb aH (c2 ye (cC (.int 31)) aA)) (c1 xc aj))))
 (bx (ff (w9 (cT (c2 vR (ug (dV (xV u0)) jf) aI)) (cT (c2 (fl γ) (c1 xc (ug (dV CT) (bt ai (bt (ug xM bH) ku)))) cF))) (uq bY) uz)
 (bx (uJ 6 (ug Eg (bt bN (a1 (c2 xb (c2 BW aH (c1 xc aj)) (c2 ye i7 aA))))))
 (xH (iR1 cF) (gN 7) (ff (vN (cT (ug zW (bt bT (bt ai (a1 cz)))))) (uq bY) uz)))))))
 (uq cU))))
def XT:=e0 1 8 Ug
def Ji{b q r n:Int}{a:Sl}(e:0<b)(o:b<1073741824):∃d c l,(bx (ff (Cp (cT (c2 MH (c2 gd ae aX) aX))) (bx (uJ 3 (Cd (c2 yf (c2 gd ae aX) ai)))
 (bx (AE 0 0 (Cd (c2 BW (c2 gd ae aX) ai)))
 (uq aA))) uz)
 (bx (AE 0 2 (Cd (c2 xb (c2 gd ae cF) aY)))
 (bx (uJ 4 (Cd (c2 yf (c2 ye (c2 xb (c2 xb (c2 gd ae aY) (c2 ye (cC (.int 7919)) (c2 gd ae cF))) aY) (cC (.int 48271))) i5)))
 (bx (uJ 4 (c2 yf (c2 ye aH (c2 xb (c2 BW aH (cC (.int 1009))) (cC (.int 69621)))) i5))
 (uq (c2 yf (c2 yf (c2 ye aH (c2 xb (c2 BW aH (cC (.int 2003))) (cC (.int 40692)))) (cC (.int 2147483399))) ai))))))
  [.pm [.int q,.int r,.int n],.I (.int b),a,.un,.un]=U (.rt (.int d) l)/\EA l=U c/\0<=d/\d<b/\vB c:=by
 have f:Cp (cT (c2 MH (c2 gd ae aX) aX)) [.pm [.int q,.int r,.int n],.I (.int b),a,.un,.un]=U (decide (0<q),[.pm [.int q,.int r,.int n],.I (.int b),a,.un,.un]):=rfl;by_cases i:0<q
 .rw[br i]at f;refine⟨q % b,[.int (q / b),.int r,.int n],[.pm [.int (q / b),.int r,.int n],.I (.int b),a,.I (.int (q % b)),.un],?_,Z,iI _ (by omega),iu _ e,.inr ⟨_,_,_,Z⟩⟩;rw[uP];rw[uV f,uh (vm (IA (ur Z Z (Dg e)) Z)),uh (ML (IA (ur Z Z (O? e o)) Z) Z Z)];rfl
 .rw[bj i]at f;rw[uh (show _=U (H4.nx [.pm [.int q,.int r,.int n],.I (.int b),a,.un,.un]) from by rw[vh f];rfl)];rw[uh (show _=U (H4.nx [.pm [.int q,.int r,.int (n+1)],.I (.int b),a,.un,.un]) from Z)];have t:AD 7919=γ:=by decide
  have p:AD 48271=γ:=by decide
  rw[uh (vm (IA (ur (ur (ur (ur Z (ur Z Z (yB (.inl t))) Z) Z Z) Z (yB (.inr p))) Z (Dg (by decide))) Z))];generalize u:(r+7919 * (n+1)+1) * 48271 % 2147483647=g;have h:0<=g/\g<2147483647:=by rw[<-u];exact⟨iI _ (by decide),iu _ (by decide)⟩
  rw[uh (vm (ur (ur Z (ur (ur Z Z (O? (by decide) (by decide))) Z Z) (yB (.inl (MM h.1 h.2)))) Z (Dg (by decide))))];generalize w:g * (g / 1009+69621) % 2147483647=m;have j:0<=m/\m<2147483647:=by rw[<-w];exact⟨iI _ (by decide),iu _ (by decide)⟩
  rw[uF (ur (ur (ur Z (ur (ur Z Z (O? (by decide) (by decide))) Z Z) (yB (.inl (MM j.1 j.2)))) Z (Dg (by decide))) Z (Dg e))];exact⟨_,[.int q,.int r,.int (n+1)],_,Z,Z,iI _ (by omega),iu _ e,.inr ⟨_,_,_,Z⟩⟩
def Uh{j:List L4.D}{b:Int}(h:vB j)(l:0<b)(m:b<1073741824):∃d a,ui j [.int b]=U (.int d,a)/\0<=d/\d<b/\vB a:=by
 rcases h with ⟨c,rfl⟩|⟨q,r,n,rfl⟩
 .obtain⟨d,a,o,e,p,f,i,q3⟩:=Ji l m;refine⟨d,a,N3 Z ?_ p,f,i,q3⟩;unfold zk;rw[uh]
  .exact e
  .show ff _ _ _ [.pm [.int c],.I (.int b),.un,.un,.un]=_;rw[uV Z,uh (show _=U (H4.nx [.pm [.int c],.I (.int b),.I (.int c),.un,.un]) from Z)];rw[uh (ML (ur Z Z (yB (.inr (by split<;>decide)))) Z Z)];rfl
 .obtain⟨d,a,o,e,p,f,i,q3⟩:=Ji l m;refine⟨d,a,N3 Z ?_ p,f,i,q3⟩;unfold zk;rw[uh]
  .exact e
  .show ff _ _ _ [.pm [.int q,.int r,.int n],.I (.int b),.un,.un,.un]=_;rw[vh Z];rfl
def dgx{f:List L4.D}{b:Int}{i:Nat}{a:FE}(st:List L4.D->aM)(h:∀f,v3 (st f) i=U f)(o:∀f c,putAt (st f) i c=st c)(m:a (st f)=U (.int b,st f))(p:vB f)(j:0<b)(l:b<1073741824):∃d c,vd ui i (a1 a) (st f)=U (.int d,st c)/\0<=d/\d<b/\vB c:=by obtain⟨d,c,e,q,r,q3⟩:=Uh p j l;exact⟨d,c,by rw[<-o f c];exact SW (h f) (um m Z) (h f) e,q,r,q3⟩
def pk{c:List L4.D}{L:List L4.D}{i:Nat}{a e:FE}(st:List L4.D->aM)(p:∀c,v3 (st c) i=U c)(r:∀c b,putAt (st c) i b=st b)(o:e (st c)=U (.cf L,st c))(l:a (st c)=U (.int L.length,st c))(t:vB c)(j:L≠[])(w:L.length<=1000):∃d∈L,∃b,c2 gd e (vd ui i (a1 a)) (st c)=U (d,st b)/\vB b:=by
 have q:0<L.length:=oF.2 j;obtain⟨d,b,h,u,x,q3⟩:=dgx st p r l t (by omega) (by omega);obtain⟨m,rfl⟩:=kM u;have f:m<L.length:=by omega
 exact⟨L[m],fR f,b,ur o h (En (bg f)),q3⟩
section
variable{k:Nat}{er:List Nat}{g:FG}{ft:FT}{fe e:FE}{s:FA}{ρ ρ1 ρ2:aM}{α:Type}
def wK{m:L4.D}(h:e ρ=U (.Y γ,ρ1)):uT (ug uy (bt e (bt (cC m) uN))) ρ=U (.nx ρ1):=wb (uf (um h Z) Z)
def wC(c h:α->L4.D)(l:List α)(f:s ρ=U (l.map c,ρ1))(d:l.length<=1000)(st:∀a∈l,∃ρ2 b,g (c a) (EB k er ρ1)=U ρ2/\fe ρ2=U (h a,b)/\xI er (b.drop k) ρ1=U ρ1):
  uA k er s g ve fe ρ=U (l.map h,ρ1):=(HE f (by rw[ah];exact d)).t (WK c h l st)
def ze(d h:α->L4.D)(p:α->Bool)(l:List α)(i:s ρ=U (l.map d,ρ1))(f:l.length<=1000)
  (st:∀a∈l,∃ρ2 b,g (d a) (EB k er ρ1)=U ρ2/\ft ρ2=U (p a,b)/\(p a=γ->∃c,fe b=U (h a,c)/\xI er (c.drop k) ρ1=U ρ1)/\(p a=δ->xI er (b.drop k) ρ1=U ρ1)):
  uA k er s g ft fe ρ=U ((l.filter p).map h,ρ1):=(HE i (by rw[ah];exact f)).t (IH d p h l st)
def yH(c:α->L4.D)(l:List α)(f:s ρ=U (l.map c,ρ1))(d:l.length<=1000)(st:∀a∈l,∃ρ2 b,g (c a) (EB k er ρ1)=U ρ2/\fe ρ2=U (.Y γ,b)/\xI er (b.drop k) ρ1=U ρ1):
  c1 yZ (cL (uA k er s g ve fe)) ρ=U (.Y γ,ρ1):=
 uY (vE (wC c (λv=>.Y γ) l f d st)) ((WM l λv=>γ).t (by rw[aR.2 λv v=>Z]))
def Ui(c:α->L4.D)(l:List α)(f:s ρ=U (l.map c,ρ1))(d:l.length<=1000)(st:∀a∈l,∃ρ2 b,g (c a) (EB k er ρ1)=U ρ2/\fe ρ2=U (.Y δ,b)/\xI er (b.drop k) ρ1=U ρ1):
  c1 FL (cL (uA k er s g ve fe)) ρ=U (.Y δ,ρ1):=
 uY (vE (wC c (λv=>.Y δ) l f d st)) ((Pl l λv=>δ).t (by rw[oX.2 λv v=>bw]))
end
inductive Kd where
 |room|you|plain|fixed|box|lamp
deriving DecidableEq
def Kd.s:Kd->Str
 |.room=>"room" |.you=>"you" |.plain=>"plain" |.fixed=>"fixed" |.box=>"box" |.lamp=>"lamp"
def Kd.pl:Kd->Bool
 |.room=>δ|.you=>δ|_=>γ
def Kd.hd:Kd->Bool
 |.room=>γ|.you=>γ|.box=>γ|_=>δ
def Kd.mk:Kd->Bool
 |.box=>γ|.lamp=>γ|_=>δ
structure Th where
 n:Str
 w:aE
 k:Kd
 s:Option Str
def oS:Option Str->L4.D
 |none=>.X
 |some x=>.str x
def e?(t:Th):L4.D:=.obj 0 ["name", "words", "kind", "start"] [.str t.n,.ef (t.w.map D.str),.str t.k.s,oS t.s]
def zX(t:Th):uo uD "name" (e? t)=U (.str t.n):=rfl
def LG(t:Th):uo wU "words" (e? t)=U (.ef (t.w.map D.str)):=rfl
def AR(t:Th):uo uW "kind" (e? t)=U (.str t.k.s):=rfl
def HJ(t:Th):uo vK "start" (e? t)=U (oS t.s):=rfl
def Hl(a b:Kd):fl δ (.str a.s) (.str b.s)=U (.Y (decide (a=b))):=by cases a<;>cases b<;>kernel_rfl
def LH(t:Th):A7 [e? t]=U (.Y t.k.hd):=by obtain⟨n,w,k,s⟩:=t;cases k<;>kernel_rfl
def PD(t:Th):A9 [e? t]=U (.Y t.k.mk):=by obtain⟨n,w,k,s⟩:=t;cases k<;>kernel_rfl
def CZ(t:Th):zK [e? t]=U (.Y t.k.pl):=by obtain⟨n,w,k,s⟩:=t;cases k<;>kernel_rfl
def WZ(t:Th):u7 [.str t.k.s,Dl]=U (.Y γ):=by obtain⟨n,w,k,s⟩:=t;cases k<;>kernel_rfl
abbrev TD(T:List Th):L4.D:=.cf (T.map e?)
def V'(T:List Th)(a:T.length<=1000)(k:Kd):BB [TD T,.str k.s]=U (.int (T.filter λt=>decide (t.k=k)).length):=by refine uv (ρ:=[.I (TD T),.I (.str k.s)]) Z ?_;refine uF (uY (vE (ze e? e? (λt=>decide (t.k=k)) T Z a λt v=>⟨[.I (e? t),.I (.str k.s)],[.I (e? t),.I (.str k.s)],Z,vp (ur (uY Z (AR t)) Z (Hl t.k k)),λv=>⟨_,Z,Z⟩,λv=>Z⟩)) ?_);show U (D.int _)=_;rw[ah]
def AS(T:List Th)(a:T.length<=1000):ym [TD T]=U ((T.filter λt=>t.k.pl).map e?):=by refine zz (ρ:=[.I (TD T)]) Z ?_;exact wX (ze e? e? (λt=>t.k.pl) T Z a λt v=>⟨[.I (e? t)],[.I (e? t)],Z,vp (uQ Z Z Z Z (CZ t)),λv=>⟨_,Z,Z⟩,λv=>Z⟩)
def Jj{a b c:FE}{ρ d:aM}{x y z:Int}(h:a ρ=U (.int x,ρ))(i:b ρ=U (.int y,ρ))(j:c ρ=U (.int z,d))(l:x<=y)(m:y<=z):xT zf zf a b c ρ=U (.Y γ,d):=by
 unfold xT;rw[h];simp only[i];have e:zf (.int x) (.int y)=U (.Y γ):=by show U (D.Y (decide (x<=y)))=_;rw[br l]
 have f:zf (.int y) (.int z)=U (.Y γ):=by show U (D.Y (decide (y<=z)))=_;rw[br m]
 simp only[e,j,f]
def PF{a b:FE}{ρ:aM}{x y:Int}(c:a ρ=U (.int x,ρ))(d:b ρ=U (.int y,ρ))(e:x<=y):c2 zf a b ρ=U (.Y γ,ρ):=ur c d (by
 show U (D.Y (decide (x<=y)))=_;rw[br e])
def Hv(T:List Th)(a:T.length<=1000)(d:1<=(T.filter λt=>decide (t.k=.room)).length)(e:(T.filter λt=>decide (t.k=.room)).length<=5)(c:(T.filter λt=>decide (t.k=.you)).length=1)(f:(T.filter λt=>t.k.pl).length<=7):
  zM [TD T]=U .X:=by
 let b:aM:=[.I (TD T),.I (.Y γ)];refine Bt (ρ:=b) Z ?_;unfold zL;rw[uh (show _=U (H4.nx b) from(vm ((ux Z).t (yH e? T Z a λt v=>⟨_,_,Z,Z,Z⟩))).t Z)];rw[uh (wK Z)];rw[uh (wK (yH e? T Z a λt v=>⟨[.I (e? t)],[.I (e? t)],Z,uf (um (uY Z (AR t)) Z) (WZ t),Z⟩))];rw[uh (wK (Jj Z (uf Z (V' T a .room)) Z (by omega) (by omega)))];rw[uh (wK (ur (uf Z (V' T a .you)) Z (by rw[c];rfl)))];refine wK (PF (x:=(T.filter λt=>t.k.pl).length) (uY (vE (uf Z (AS T a))) ?_) Z (by omega));show U (D.int _)=_;rw[ah]
structure Mk where
 n:Str
 st:Int
 mo:Int
def M'(m:Mk):L4.D:=.obj 1 ["name", "start", "most"] [.str m.n,.int m.st,.int m.mo]
def Mk.ok(m:Mk):Prop:=1<=m.mo/\m.mo<=3/\0<=m.st/\m.st<=m.mo
abbrev MD(M:List Mk):L4.D:=.cf (M.map M')
def LI(m:Mk):uo uD "name" (M' m)=U (.str m.n):=rfl
def Oq(m:Mk)(h:m.ok):FZ [M' m]=U (.Y γ):=by obtain⟨a,b,c,d⟩:=h;refine uv (ρ:=[.I (M' m)]) Z ?_;unfold FY;rw[uh (show _=U (H4.nx [.I (M' m)]) from Z)];exact uF ((ux (Jj Z Z Z a b)).t (Jj Z Z Z c d))
def Jk(M:List Mk)(d:M.length<=4)(h:∀m∈M,m.ok):AI [MD M]=U .X:=by
 let a:aM:=[.I (MD M),.I (.Y γ)];refine Bt (ρ:=a) Z ?_;unfold AH;have b:vn [MD M,Bv]=U (.Y γ):=by refine uv (ρ:=[.I (MD M),.I (.int 4)]) Z ?_;refine uF ((ux Z).t (PF (x:=M.length) ?_ Z (by omega)));refine uY Z ?_;show U (D.int _)=_;rw[ah]
 rw[uh (show _=U (H4.nx a) from(vm ((ux (uf Z b)).t (yH M' M Z (by omega) λm c=>⟨[.I (M' m)],[.I (M' m)],Z,uf Z (Oq m (h m c)),Z⟩))).t Z)];exact wK Z
def rmL:aE:=["hall", "x", "cellar", "loft", "porch"]
def ub:List (Str×aE):=[("chest", ["old", "chest"]),("lamp", ["lamp", "red"]),("stone", ["red", "stone"]),("key", ["key"]),("itch", ["old", "red", "rag"]),("heretic", ["stone", "man"]),("others", ["book", "of", "old"])]
def mkL:aE:=["gate", "luck", "tide", "i"]
def nmL:aE:=rmL++("me" : Str)::ub.map cY++mkL
def Nm(x:Str):Prop:=x∈nmL
def isT:Option L4.D->Bool
 |some (.Y b)=>b
 |_=>δ
def BQ{o:Option L4.D}(h:isT o=γ):o=U (.Y γ):=by
 unfold isT at h;split at h
 .rw[h]
 .cases h
def isF:Option L4.D->Bool
 |some (.Y b)=>!b
 |_=>δ
def Os{o:Option L4.D}(h:isF o=γ):o=U (.Y δ):=by
 unfold isF at h;split at h
 .rw[eG]at h;rw[h]
 .cases h
def Ot{x:Str}(h:Nm x):xn [.str x]=U (.Y γ):=BQ (aR.1 (show (nmL.all λx=>isT (xn [.str x]))=γ by kernel_rfl) x h)
def Eh{l:aE}(h:l.Nodup)(a:l.length<=1000):wJ [.cf (l.map D.str)]=U (.Y γ):=by
 refine uv (ρ:=[.I (.cf (l.map D.str))]) Z ?_;refine uF (ur (y:=.int l.length) (uY Z (WB (MU h a))) (uY Z ?_) ?_)
 .show U (D.int _)=_;rw[ah]
 .rw[zg];simp
def Jl(T:List Th)(M:List Mk)(hT:T.length<=400)(hM:M.length<=400)(h:∀x∈T.map Th.n++M.map Mk.n,Nm x)(l:(T.map Th.n++M.map Mk.n).Nodup):AK [TD T,MD M]=U .X:=by
 have c:(T.map Th.n++M.map Mk.n).length<=1000:=by rw[aF,ah,ah];omega
 let a:aM:=[.I (TD T),.I (MD M),.un];let b:aM:=[.I (TD T),.I (MD M),.I (.cf ((T.map Th.n++M.map Mk.n).map D.str))];refine Bt (ρ:=b) Z ?_;unfold AJ;have d:uA 1 [] (iL ae) (gN 0) ve (c1 (uo uD "name") ae) a=U (T.map λt=>D.str t.n,a):=wC e? (λt=>D.str t.n) T Z (by omega) λt v=>⟨_,_,Z,uY Z (zX t),Z⟩;have e:uA 1 [] (iL ai) (gN 0) ve (c1 (uo uD "name") ae) a=U (M.map λt=>D.str t.n,a):=wC M' (λt=>D.str t.n) M Z (by omega) λt v=>⟨_,_,Z,uY Z (LI t),Z⟩;have f:=vm (i:=2) (vE (vZ (vE d) (vE e) (by rw[ah,ah];omega)));refine(uh (ρ':=b) (f.t (by
  have:(T.map λt=>D.str t.n)++(M.map λt=>D.str t.n)=(T.map Th.n++M.map Mk.n).map D.str:=by rw[bu,bf,bf];rfl
  rw[this];rfl))).t ?_
 rw[uh (wK (yH D.str (T.map Th.n++M.map Mk.n) Z c λx j=>⟨_,_,Z,uf Z (Ot (h x j)),Z⟩))];exact wK (uf Z (Eh l c))
def n9(T:List Th):aE:=(T.filter λt=>decide (t.k=.room)).map Th.n
def rb(T:List Th):aE:=(T.filter λt=>t.k.hd).map Th.n
abbrev j9:=(cC (.str "room"))
def Na{ρ:aM}(T:List Th)(b:T.length<=1000){i:Nat}(a:cV i ρ=U (TD T,ρ)):uA 1 [] (iL (cV i)) (gN 0) (cT (c2 (fl δ) (c1 (uo uW "kind") ae) j9)) (c1 (uo uD "name") ae) ρ=U ((n9 T).map D.str,ρ):=by
 have c:iL (cV i) ρ=U (T.map e?,ρ):=by unfold iL;rw[a]
 have:=ze (k:=1) (er:=[]) (g:=gN 0) (ft:=cT (c2 (fl δ) (c1 (uo uW "kind") ae) j9)) (fe:=c1 (uo uD "name") ae) e? (λt=>D.str t.n) (λt=>decide (t.k=.room)) T c b λt v=>⟨[.I (e? t)],[.I (e? t)],Z,vp (ur (uY Z (AR t)) Z (Hl t.k .room)),λv=>⟨_,uY Z (zX t),Z⟩,λv=>Z⟩
 rw[this];unfold n9;rw[bf];rfl
def Ou{ρ:aM}(T:List Th)(b:T.length<=1000){i:Nat}(a:cV i ρ=U (TD T,ρ)):uA 1 [] (iL (cV i)) (gN 0) (cT (uG vy "can_hold" ae uN)) (c1 (uo uD "name") ae) ρ=U ((rb T).map D.str,ρ):=by
 have c:iL (cV i) ρ=U (T.map e?,ρ):=by unfold iL;rw[a]
 have:=ze (k:=1) (er:=[]) (g:=gN 0) (ft:=cT (uG vy "can_hold" ae uN)) (fe:=c1 (uo uD "name") ae) e? (λt=>D.str t.n) (λt=>t.k.hd) T c b λt v=>⟨[.I (e? t)],[.I (e? t)],Z,vp (uQ Z Z Z Z (LH t)),λv=>⟨_,uY Z (zX t),Z⟩,λv=>Z⟩
 rw[this];unfold rb;rw[bf];rfl
def zu{x:Str}{l:aE}(h:x∈l):u7 [.str x,.cf (l.map D.str)]=U (.Y γ):=by refine uv (ρ:=[.I (.str x),.I (.cf (l.map D.str))]) Z ?_;refine uF ((ux Z).t (ur Z Z ?_));rw[wM];simp[h]
def JQ(a b:aE)(d:a.length<=1000)(f:a.Nodup)(h:∀x∈a,x∈b):BD [.cf (a.map D.str),.cf (b.map D.str)]=U .X:=by let i:aM:=[.I (.cf (a.map D.str)),.I (.cf (b.map D.str)),.un];let c:aM:=[.I (.cf (a.map D.str)),.I (.cf (b.map D.str)),.I (.Y γ)];refine Bt (ρ:=c) Z ?_;unfold BC;rw[uh (show _=U (H4.nx c) from(vm ((ux Z).t ((ux (yH D.str a Z d λx e=>⟨[.I (.str x),.I (.cf (b.map D.str))],[.I (.str x),.I (.cf (b.map D.str))],Z,uf Z (zu (h x e)),Z⟩)).t (uf Z (Eh f d))))).t Z)];exact wK Z
def Dp(T:List Th)(t:Th):Prop:=match t.k,t.s with
 |.room,O=>True
 |.room,U _=>False
 |_,O=>False
 |.you,U x=>x∈n9 T
 |_,U x=>x∈rb T
def Nc(T:List Th)(b:T.length<=1000)(t:Th)(h:Dp T t):D3 [TD T,e? t]=U (.Y γ):=by
 refine uv (ρ:=[.I (TD T),.I (e? t)]) Z ?_;unfold D2;obtain⟨n,w,k,s⟩:=t;have els:∀k:Kd,k≠.room->k≠.you->∀x,x∈rb T->(bx (ff (cT (c2 (fl δ) (c1 (uo uW "kind") ai) j9)) (uq (c2 yA (c1 (uo vK "start") ai) aI)) uz)
   (bx (ff (cT (c2 (fl δ) (c1 (uo uW "kind") ai) (cC (.str "you")))) (uq (ug u7 (bt (c1 (uo vK "start") ai) (bt (cL (uA 1 [] (iL ae) (gN 0) (cT (c2 (fl δ) (c1 (uo uW "kind") ae) j9)) (c1 (uo uD "name") ae))) uN)))) uz)
   (uq (ug u7 (bt (c1 (uo vK "start") ai) (bt (cL (uA 1 [] (iL ae) (gN 0) (cT (uG vy "can_hold" ae uN)) (c1 (uo uD "name") ae))) uN)))))) [.I (TD T),.I (e? ⟨n,w,k,U x⟩)]=U (.rt (.Y γ) [.I (TD T),.I (e? ⟨n,w,k,U x⟩)]):=λk c d x e=>by
  let a:aM:=[.I (TD T),.I (e? ⟨n,w,k,U x⟩)];rw[uh (show _=U (H4.nx a) from(vh (vp (ur (uY Z (AR _)) Z ((Hl k .room).t (by rw[bj c]))))))];rw[uh (show _=U (H4.nx a) from(vh (vp (ur (uY Z (AR _)) Z ((Hl k .you).t (by rw[bj d]))))))];exact uF (uf (um (uY Z (HJ _)) (um (vE (Ou T b Z)) Z)) (zu e))
 cases k with
 |room=>
  cases s with
  |none=>rfl
  |some x=>exact h.elim
 |you=>
  cases s with
  |none=>exact h.elim
  |some x=>let a:aM:=[.I (TD T),.I (e? ⟨n,w,.you,U x⟩)];rw[uh (show _=U (H4.nx a) from Z)];refine uP ((uV Z).t ?_);exact uF (uf (um (uY Z (HJ _)) (um (vE (Na T b Z)) Z)) (zu h))
 |plain=>cases s with
  |none=>exact h.elim
  |some x=>exact els .plain (by decide) (by decide) x h
 |fixed=>cases s with
  |none=>exact h.elim
  |some x=>exact els .fixed (by decide) (by decide) x h
 |box=>cases s with
  |none=>exact h.elim
  |some x=>exact els .box (by decide) (by decide) x h
 |lamp=>cases s with
  |none=>exact h.elim
  |some x=>exact els .lamp (by decide) (by decide) x h
def kS(x:Str):ey:=Sum.inr x
def Nd{i:Nat}{fk fv:FE}{a:aM}{b:List ey}{c:List L4.D}{x:Str}{d:L4.D}(f:fv a=U (d,a))(h:a[i]?=U (.dk b c))(j:fk a=U (.str x,a))(p:kS x∉b)(o:b.length<1000)(l:c.length=b.length):
  yC i fk fv a=U (.nx (a.set i (.dk (b++[kS x]) (c++[d])))):=by
 have m:JK b (kS x)=δ:=by unfold JK;rw[jE];intro z;obtain⟨y,q,e⟩:=fA.1 z;exact p (by rw[<-bq e];exact q)
 unfold yC;rw[f];simp only[h,j];rw[show AY (.str x)=U (kS x) from Z];simp only;rw[ak o,ak l,m];rfl
section
variable{α:Type}{g:FG}{i:Nat}{fk fv:FE}
theorem Bh(m:α->L4.D)(kf:α->Str)(j:α->L4.D)(st:List ey->List L4.D->Sl->aM)
  (r:∀(a:α) (c:List ey) (d:List L4.D) (s:Sl),∃b,g (m a) (st c d s)=U b/\fv b=U (j a,b)/\b[i]?=U (.dk c d)/\fk b=U (.str (kf a),b)/\∀f e,∃h,b.set i (.dk f e)=st f e h):
  ∀(l:List α) (c:List ey) (d:List L4.D) (s:Sl),(c++l.map λa=>kS (kf a)).Nodup->c.length+l.length<=1000->d.length=c.length->
   ∃h,i0 g (yC i fk fv) (l.map m) (st c d s)=U (.nx (st (c++l.map λa=>kS (kf a)) (d++l.map j) h))
 |[],c,d,s,_,_,_=>⟨s,by rw[fH,fH,fH,bO,bO];rfl⟩
 |a::l,c,d,s,o,C,q=>by
  obtain⟨b,t,u,w,x,y⟩:=r a c d s;obtain⟨F,A⟩:=y (c++[kS (kf a)]) (d++[j a]);rw[aS]at C;have p:((c++[kS (kf a)])++l.map λa=>kS (kf a)).Nodup:=by rw[cp];exact o
  have E:kS (kf a)∉c:=λz=>by rw[cg]at o;exact o.2.2 _ z _ (by rw[aU];exact bb) Z
  obtain⟨h,B⟩:=Bh m kf j st r l (c++[kS (kf a)]) (d++[j a]) F p (by rw[aF,dh];omega) (by rw[aF,aF,q,dh,dh]);refine⟨h,?_⟩;rw[aU];unfold i0;rw[t];simp only[Nd u w x E (by omega) q,A];rw[B,aU,aU,cp,cp];rfl
end
def nK(T:List Th):List ey:=T.map λt=>kS t.n
def LJ{a b:Str}(h:kS a=kS b):a=b:=jQ h
def Uj{T:List Th}(h:(T.map Th.n).Nodup):(nK T).Nodup:=by have:=AZ h;rw[bf]at this;exact this
def Fs{T:List Th}(h:(T.map Th.n).Nodup)(a:Th->L4.D){t:Th}(b:t∈T):vC (nK T) (T.map a) (kS t.n)=U (a t):=by refine A0 (Uj h) ?_;unfold nK;rw[iK];exact cB b
def LK(T:List Th)(r:Str->Nat):Prop:=∀t∈T,r t.n<T.length/\∀p,t.s=U p->r p<r t.n/\∃u∈T,u.n=p
def y?(T:List Th):L4.D:=.Z (nK T) (T.map λt=>oS t.s)
def Uk(T:List Th)(J:T.length<=1000)(B:(T.map Th.n).Nodup)(r:Str->Nat)(w:LK T r)(t:Th)(z:t∈T):y7 [y? T,.str t.n]=U (.Y γ):=by
 have loop:∀(m:Nat) (l:List L4.D),l.length=m->∀(a:Option Str) (s:Sl),(∀x,a=U x->(∃u∈T,u.n=x)/\r x<m)->
   (∃b,i0 (gN 3) (bx (ff (cT (c2 yA aj aI)) (uq cU) uz) (uJ 2 (c2 DB ae aj))) l [.I (y? T),.I (.str t.n),.I (oS a),s]=U (.rt (.Y γ) b))\/
   (∃j,i0 (gN 3) (bx (ff (cT (c2 yA aj aI)) (uq cU) uz) (uJ 2 (c2 DB ae aj))) l [.I (y? T),.I (.str t.n),.I (oS a),s]=U (.nx [.I (y? T),.I (.str t.n),.I .X,j])):=by
  intro m
  induction m with
  |zero=>
   intro l h a s f;cases l with
   |cons d l=>cases h
   |nil=>
    cases a with
    |none=>exact .inr ⟨s,Z⟩
    |some x=>exact ar (f x Z).2 (Nat.not_lt_zero _)
  |succ m G=>
   intro l h a s f;cases l with
   |nil=>cases h
   |cons d l=>
    cases a with
    |none=>refine .inl ⟨[.I (y? T),.I (.str t.n),.I .X,.I d],?_⟩;unfold i0;rw[show gN 3 d [.I (y? T),.I (.str t.n),.I (oS O),s]=U [.I (y? T),.I (.str t.n),.I .X,.I d] from Z];rfl
    |some x=>
     obtain⟨⟨u,A,rfl⟩,i⟩:=f x Z;have e:bx (ff (cT (c2 yA aj aI)) (uq cU) uz) (uJ 2 (c2 DB ae aj)) [.I (y? T),.I (.str t.n),.I (.str u.n),.I d]=U (.nx [.I (y? T),.I (.str t.n),.I (oS u.s),.I d]):=by refine(uh Z).t ?_;exact(vm (ur Z Z (Fs B (λt=>oS t.s) A))).t Z
     have key:=G l (by simpa using h) u.s (.I d) λy F=>by obtain⟨C,c⟩:=w u A;obtain⟨I,E⟩:=c y F;exact⟨E,by omega⟩
     unfold i0;rw[show gN 3 d [.I (y? T),.I (.str t.n),.I (oS (U u.n)),s]=U [.I (y? T),.I (.str t.n),.I (.str u.n),.I d] from Z];simp only[e];exact key
 obtain⟨C,c⟩:=w t z;have H:=loop T.length (Ip 0 T.length) (by unfold Ip;simp) t.s .un λx i=>⟨(c x i).2,by have:=(c x i).1;omega⟩;have o:uJ 2 (c2 DB ae ai) [.I (y? T),.I (.str t.n),.un,.un]=U (.nx [.I (y? T),.I (.str t.n),.I (oS t.s),.un]):=(vm (ur Z Z (Fs B (λt=>oS t.s) z))).t Z;have p:iR1 (c1 xc ae) [.I (y? T),.I (.str t.n),.I (oS t.s),.un]=U (Ip 0 T.length,[.I (y? T),.I (.str t.n),.I (oS t.s),.un]):=by unfold iR1;rw[show c1 xc ae [.I (y? T),.I (.str t.n),.I (oS t.s),.un]=U (.int T.length,[.I (y? T),.I (.str t.n),.I (oS t.s),.un]) from uY Z (by show U (D.int _)=_;unfold nK;rw[ah])];simp only;rw[ak (by omega),iy]
 rcases H with ⟨b,q⟩|⟨j,q⟩
 .refine uv (ρ:=b) Z ?_;refine(uh o).t (uP ((xE p).t q))
 .refine uv (ρ:=[.I (y? T),.I (.str t.n),.I .X,j]) Z ?_;refine(uh o).t ((uh ((xE p).t q)))
def Hw(T:List Th)(u:T.length<=900)(f:(T.map Th.n).Nodup)(r:Str->Nat)(l:LK T r)(m:∀t∈T,Dp T t):zP [TD T]=U .X:=by
 obtain⟨b,j⟩:=Bh (g:=gN 2) (i:=1) (fk:=c1 (uo uD "name") aj) (fv:=c1 (uo vK "start") aj) e? Th.n (λt=>oS t.s) (λe c s=>[.I (TD T),.dk e c,s])
  (λt e c s=>⟨[.I (TD T),.dk e c,.I (e? t)],Z,uY Z (HJ t),Z,uY Z (zX t),λo h=>⟨_,Z⟩⟩) T [] [] .un (by rw[cI];exact Uj f) (by simp;omega) Z
 refine Bt (ρ:=[.I (TD T),.I (y? T),b]) Z ?_;unfold zO;refine(uh (wK (yH e? T Z (by omega) λt d=>⟨[.I (e? t),.I (TD T)],[.I (e? t),.I (TD T)],Z,uf Z (Nc T (by omega) t (m t d)),Z⟩))).t ?_;refine(uh Z).t ?_;refine(uh ((xE Z).t j)).t ?_;have src:iD (D' 1) [.I (TD T),.dk ([]++T.map λa=>kS a.n) ([]++T.map λt=>oS t.s),b]=U ((T.map λt=>D.str t.n),[.I (TD T),.I (y? T),b]):=by rw[cI,cI];unfold iD;rw[show D' 1 [.I (TD T),.dk (T.map λa=>kS a.n) (T.map λt=>oS t.s),b]=U (y? T,[.I (TD T),.I (y? T),b]) from Z];show (if (nK T).length=(T.map λt=>oS t.s).length then U ((nK T).map ZL,_)else O)=_;unfold nK;rw[ak (by rw[ah,ah]),bf];rfl
 exact wK (yH (λt:Th=>D.str t.n) T src (by omega) λt d=>⟨[.I (.str t.n),.I (y? T)],[.I (.str t.n),.I (y? T)],Z,uf Z (Uk T (by omega) f r l t d),Z⟩)
def Nf(l:List Th)(r:Th):Prop:=(r.k=.room/\r.s=O)\/(r.k=.you/\∃u∈l,r.s=U u.n/\u.k=.room)\/(r.k.pl=γ/\∃u∈l,r.s=U u.n/\u.k.hd=γ)
inductive Ord:List Th->Prop
 |nil:Ord []
 |snoc {l:List Th} {r:Th} (h:Ord l) (h':Nf l r):Ord (l++[r])
def Nf.mono{l e:List Th}{r:Th}(h:Nf l r)(d:∀u∈l,u∈e):Nf e r:=by
 rcases h with h|⟨a,u,b,c⟩|⟨a,u,b,c⟩
 .exact .inl h
 .exact .inr (.inl ⟨a,u,d u b,c⟩)
 .exact .inr (.inr ⟨a,u,d u b,c⟩)
def Ord.all{l:List Th}(h:Ord l):∀r∈l,Nf l r:=by
 induction h with
 |nil=>exact λr hr=>(ck hr).elim
 |snoc h b c=>
  intro r hr;rcases aO.1 hr with hr|hr
  .exact(c r hr).mono λu a=>bK _ a
  .rw[bh]at hr;subst hr;exact b.mono λu a=>bK _ a
def Nf.start{l:List Th}{r:Th}(h:Nf l r){p:Str}(a:r.s=U p):∃u∈l,u.n=p:=by
 rcases h with ⟨_,h⟩|⟨_,u,b,c,_⟩|⟨_,u,b,c,_⟩
 .rw[h]at a;cases a
 .rw[c]at a;cases a;exact⟨u,b,Z⟩
 .rw[c]at a;cases a;exact⟨u,b,Z⟩
def Ord.rank{l:List Th}(h:Ord l):(l.map Th.n).Nodup->∃c:Str->Nat,∀t∈l,c t.n<l.length/\∀p,t.s=U p->c p<c t.n/\∃u∈l,u.n=p:=by
 induction h with
 |nil=>exact λv=>⟨λv=>0,λt a=>(ck a).elim⟩
 |@snoc l r h j q=>
  intro e;rw[bu,cg]at e;obtain⟨c,i⟩:=q e.1;have f:∀u∈l,u.n≠r.n:=λu b z=>e.2.2 _ (cB b) _ (by simp) z;refine⟨λx=>if x=r.n then l.length else c x,λt a=>?_⟩;rw[aF,dh];dsimp only;rcases aO.1 a with a|a
  .obtain⟨w,m⟩:=i t a;rw[aq (f t a)];refine⟨by omega,λp d=>?_⟩;obtain⟨o,u,b,rfl⟩:=m p d;rw[aq (f u b)];exact⟨o,u,bK _ b,Z⟩
  .rw[bh]at a;subst a;rw[ak Z];refine⟨by omega,λp d=>?_⟩;obtain⟨u,b,rfl⟩:=j.start d;rw[aq (f u b)];exact⟨(i u b).1,u,bK _ b,Z⟩
def Jm{a:List L4.D}(k:Nat)(h:k<=a.length):p? a O (U (k:Int))=a.take k:=by unfold p?;rw[HT.Me,HT.OR,pX h,qj,Nat.sub_zero]
def Ul{a:List L4.D}(k:Nat)(h:k<=a.length):p? a (U (k:Int)) O=a.drop k:=by unfold p?;rw[HT.Me,HT.OR,pX h,ik (by rw[fw];omega)]
def wdL:List (Str×aE):=rmL.map (λx:Str=>(x,([x,"place"]:aE)))++(("me", ["me", "self"]):Str×aE)::ub
def Th.nw(t:Th):Str×aE:=(t.n,t.w)
def Dr(t:Th):Prop:=t.nw∈wdL/\(t.k.pl=γ->t.nw∈ub)
def LL{t:Th}(h:Dr t):Am [.ef (t.w.map D.str)]=U (.Y γ):=BQ (aR.1 (show (wdL.all λq=>isT (Am [.ef (q.2.map D.str)]))=γ by kernel_rfl) t.nw h.1)
def Ov(t u:Th)(a:t.nw∈ub)(b:u.nw∈ub)(hne:u.n≠t.n):Ba [.ef (u.w.map D.str),.ef (t.w.map D.str)]=U (.Y δ):=by
 have h:=aR.1 (aR.1 (show (ub.all λp=>ub.all λq=>decide (q.1=p.1)||isF (Ba [.ef (q.2.map D.str),.ef (p.2.map D.str)]))=γ by kernel_rfl) t.nw a) u.nw b;rw[jK]at h;rcases h with h|h
 .exact ar (bq h) hne
 .exact Os h
def JR(P:List Th)(d:P.length<=900)(h:∀t∈P,t.nw∈ub)(t:Th)(f:t.nw∈ub):y9 [TD P,e? t]=U (.Y γ):=by
 let b:=P.filter λu=>!decide (u.n=t.n);let a:aM:=[.I (TD P),.I (e? t),.I (TD b)];have hO:b.length<=900:=bF (cH _ _) d;refine uv (ρ:=a) Z ?_;unfold y8;refine(uh (ρ':=a) ((vm (vE (ze e? e? (λu=>!decide (u.n=t.n)) P Z (by omega) λu v=>⟨[.I (e? u),.I (e? t)],[.I (e? u),.I (e? t)],Z,vp (ur (uY Z (zX u)) (uY Z (zX t)) (we γ u.n t.n)),λv=>⟨_,Z,Z⟩,λv=>Z⟩))).t Z)).t ?_;have e:c1 FL (cL (uA 1 [1] (iL aj) (gN 0) ve (ug Ba (bt (c1 (uo wU "words") ae) (bt (c1 (uo wU "words") ai) uN))))) a=U (.Y δ,a):=
  Ui e? b Z (by omega) λu c=>⟨[.I (e? u),.I (e? t)],[.I (e? u),.I (e? t)],Z,uf (um (uY Z (LG u)) (um (uY Z (LG t)) Z)) (Ov t u f (h u (aT.1 c).1) (by simpa using (aT.1 c).2)),Z⟩
 refine uF ?_;unfold Ex;rw[e];rfl
def Jn(T:List Th)(d:T.length<=900)(b:∀t∈T,Dr t):wy [TD T]=U .X:=by let P:=T.filter λt=>t.k.pl;have hP:P.length<=900:=bF (cH _ _) d;have hwP:∀t∈P,t.nw∈ub:=λt a=>(b t (aT.1 a).1).2 (aT.1 a).2;let c:aM:=[.I (TD T),.I (TD P)];refine Bt (ρ:=c) Z ?_;unfold wx;refine(uh (wK (yH e? T Z (by omega) λt a=>⟨[.I (e? t)],[.I (e? t)],Z,uf (um (uY Z (LG t)) Z) (LL (b t a)),Z⟩))).t ?_;refine(uh ((vm (vE (uf Z (AS T (by omega))))))).t ?_;exact wK (yH e? P Z (by omega) λt a=>⟨[.I (e? t),.I (TD P)],[.I (e? t),.I (TD P)],Z,uf Z (JR P hP hwP t (hwP t a)),Z⟩)
def LM{e:FE}{b:Bool}{ρ a:aM}(h:e ρ=U (.Y b,a)):Ex e ρ=U (.Y !b,a):=by unfold Ex;rw[h]
def Jo{l m:aE}{d:L4.D}(hd:d=.cf (m.map D.str)\/d=.ef (m.map D.str))(c:l.length<=900)(h:∀x∈l,x∉m):yS [.cf (l.map D.str),d]=U (.Y γ):=by
 let a:aM:=[.I (.cf (l.map D.str)),.I d];refine uv (ρ:=a) Z ?_;have e:c1 FL (cL (uA 1 [1] (iL ae) (gN 0) ve (c2 (vr δ) ae ai))) a=U (.Y δ,a):=Ui D.str l Z (by omega) λx b=>⟨[.I (.str x),.I d],[.I (.str x),.I d],Z,ur Z Z (by
  rcases hd with rfl|rfl
  .rw[wM];simp[h x b]
  .rw[Tw];simp[h x b]),Z⟩
 exact uF (LM e)
structure Vb where
 n:Str
 o:aE
 f:Str
 j:Option Str
def nr(v:Vb):L4.D:=.obj 2 ["name", "others", "form", "joining"] [.str v.n,.ef (v.o.map D.str),.str v.f,oS v.j]
def v6:List Vb:=[⟨"push", ["shove", "p"],"one", O⟩,⟨"tie", [],"two", U "to"⟩,⟨"sing", ["hum"],"alone", O⟩,⟨"swim", ["dive"],"way", O⟩,⟨"takes", [],"two", U "in"⟩,⟨"w", [],"alone", O⟩]
def v9:List Vb:=[⟨"take", [],"one", O⟩,⟨"drop", [],"one", O⟩,⟨"open", [],"one", O⟩,⟨"shut", [],"one", O⟩,⟨"light", [],"one", O⟩,⟨"douse", [],"one", O⟩,⟨"put", [],"two", U "in"⟩,⟨"go", [],"way", O⟩,⟨"wait", [],"alone", O⟩]
abbrev VD(V:List Vb):L4.D:=.cf (V.map nr)
def vL(t n:Nat):List Vb:=(v6.drop t++v6.take t).take n
def Um:yp []=U (v9.map nr):=by kernel_rfl
def Vb.ws(v:Vb):aE:=v.n::v.o
def vW:aE:=(v6++v9).flatMap Vb.ws
def bW:aE:=["to", "in", "north", "up", "outside"]
def V42(p:List Vb->Bool):Bool:=(aZ 6).all λt=>(aZ 7).all λn=>p (vL t n)
def v42{p:List Vb->Bool}(h:V42 p=γ){t n:Nat}(b:t<6)(a:n<7):p (vL t n)=γ:=aR.1 (aR.1 h t (bP.2 b)) n (bP.2 a)
def LN{t n:Nat}{v:Vb}(h:v∈vL t n):v∈v6:=by
 rcases aO.1 (ip h)with h|h
 .exact oa h
 .exact ip h
def F8(t n:Nat):(vL t n).length<=6:=by unfold vL;exact bF (List.length_take_le' _ _) (by rw[aF,jP,<- aF,n5];decide)
def isN:Option L4.D->Bool
 |some .X=>γ
 |_=>δ
def abn{o:Option L4.D}(h:isN o=γ):o=U .X:=by
 unfold isN at h;split at h
 .rfl
 .cases h
def Jp{t n:Nat}(b:t<6)(a:n<7):yJ [VD (vL t n)]=U .X:=abn (v42 (p:=λV=>isN (yJ [VD V])) (by kernel_rfl) b a)
def PH{t n:Nat}(b:t<6)(a:n<7):((vL t n++v9).flatMap Vb.ws).Nodup:=bq (v42 (p:=λV=>decide ((V++v9).flatMap Vb.ws).Nodup) (by kernel_rfl) b a)
def vws{V:List Vb}(h:∀v∈V,v∈v6):∀x∈(V++v9).flatMap Vb.ws,x∈vW:=λx b=>by
 obtain⟨v,a,b⟩:=dq.1 b;refine dq.2 ⟨v,?_,b⟩;rcases aO.1 a with a|a
 .exact bK _ (h v a)
 .exact bC _ a
structure Wy where
 r:Str
 w:Str
 g:Str
 m:Option Str
def B'(w:Wy):L4.D:=.ef [.str w.r,.str w.w,.str w.g,oS w.m]
abbrev WD(W:List Wy):L4.D:=.cf (W.map B')
def xo(T:List Th)(M:List Mk):aE:=(T.filter λt=>t.k.mk).map Th.n++M.map Mk.n
structure Re(T:List Th)(M:List Mk)(w:Wy):Prop where
 hr:w.r∈n9 T
 hw:w.w∈(["north", "up", "outside"]:aE)
 hg:w.g∈n9 T
 hm:∀x,w.m=U x->x∈xo T M
def PJ(l:List L4.D)(n:Int)(h:(l.length:Int)<=n):vn [.cf l,.int n]=U (.Y γ):=by
 have e:vn [.cf l,.int n]=U (.Y (decide ((l.length:Int)<=n))):=by kernel_rfl
 rw[e,br h]
def Ft{e b:FE}{ρ a:aM}(c:e ρ=U (.Y δ,a)):Y? e b ρ=b a:=by unfold Y?;rw[c]
def LO{e b:FE}{ρ a:aM}(c:e ρ=U (.Y γ,a)):Y? e b ρ=U (.Y γ,a):=by unfold Y?;rw[c]
def Rf{T:List Th}{M:List Mk}{w:Wy}(h:Re T M w):I0 [B' w,.cf ((n9 T).map D.str),.cf ((xo T M).map D.str)]=U (.Y γ):=by
 let R:L4.D:=.cf ((n9 T).map D.str);let K:L4.D:=.cf ((xo T M).map D.str);let a:aM:=[.I (B' w),.I R,.I K,.un];let d:aM:=[.I (B' w),.I R,.I K,.I (.Y γ)];refine uv (ρ:=d) Z ?_;unfold IZ;refine(uh Z).t ?_;have b:Y? (c2 yA (c2 gd ae dA) aI) (ug u7 rM) a=U (.Y γ,a):=by
  obtain⟨r,x,g,m⟩:=w;cases m with
  |none=>rfl
  |some y=>exact(Ft Z).t (uf Z (zu (h.hm y Z)))
 refine(uh ((vm b))).t (uF ?_);have c:xp [.str w.w]=U (.Y γ):=BQ (aR.1 (show ((["north", "up", "outside"]:aE).all λx=>isT (xp [.str x]))=γ by kernel_rfl) w.w h.hw);exact(ux (uf Z (zu h.hr))).t ((ux (uf Z c)).t ((ux (uf Z (zu h.hg))).t Z))
theorem PK:∀W:List Wy,yy (W.map λw=>D.ef [.str w.r,.str w.w])=U (W.map λw=>[w.r,w.w])
 |[]=>rfl
 |w::W=>by rw[aU];unfold yy;rw[PK W];rfl
def JS{T:List Th}{M:List Mk}{W:List Wy}(b:W.length<=8)(h:∀w∈W,Re T M w)(d:(W.map λw=>[w.r,w.w]).Nodup):BF [WD W,.cf ((n9 T).map D.str),.cf ((xo T M).map D.str)]=U .X:=by
 let R:L4.D:=.cf ((n9 T).map D.str);let K:L4.D:=.cf ((xo T M).map D.str);let e:aM:=[.I (WD W),.I R,.I K,.un];let f:aM:=[.I (WD W),.I R,.I K,.I (.Y γ)];refine Bt (ρ:=f) Z ?_;unfold BE;refine(uh ((vm ((ux (uf Z (PJ _ _ (by rw[ah];omega)))).t (yH B' W Z (by omega) λw c=>⟨[.I (B' w),.I R,.I K],[.I (B' w),.I R,.I K],Z,uf Z (Rf (h w c)),Z⟩))))).t ?_;refine(uh (wK Z)).t (wK (uf (um (vE (wC B' (λw=>.ef [.str w.r,.str w.w]) W Z (by omega) λw v=>⟨[.I (B' w)],[.I (B' w)],Z,Z,Z⟩)) Z) ?_));refine uv Z (uF (ur (x:=.int W.length) (y:=.int W.length) (uY Z ?_) (uY Z ?_) ?_))
 .have a:wZ (W.map λw=>D.ef [.str w.r,.str w.w])=O\/wZ (W.map λw=>D.ef [.str w.r,.str w.w])=U (.int W.length):=by
   cases W with
   |nil=>exact .inr Z
   |cons w W=>exact .inl Z
  show (match wZ (W.map λw:Wy=>D.ef [.str w.r,.str w.w])with|some r=>U r|none=>DZ (W.map λw:Wy=>D.ef [.str w.r,.str w.w]))=_;rcases a with a|a
  .rw[a];show DZ _=_;unfold DZ;rw[PK];dsimp only;rw[ak ⟨d,by rw[ah];exact b⟩,ah]
  .rw[a]
 .show U (D.int _)=_;rw[ah]
 .rw[zg];simp
def abo{t:Th}(h:t.nw∈ub):t.w.length<=3:=bq (aR.1 (show (ub.all λq=>decide (q.2.length<=3))=γ by kernel_rfl) t.nw h)
theorem Jq{a b c f h i:Sl}:∀(P:List Th) (acc:aE) (s:Sl),acc.length+3 * P.length<=900->(∀t∈P,t.nw∈ub)->
  ∃j,i0 (gN 4) (uT (Ct 3 (c1 (uo wU "words") aH))) (P.map e?) [a,b,c,.ls (acc.map D.str),s,f,h,i]=U (.nx [a,b,c,.ls ((acc++P.flatMap Th.w).map D.str),j,f,h,i])
 |[],acc,s,_,_=>⟨s,by simp;rfl⟩
 |t::P,acc,s,o,l=>by
  have q:=abo (l t bb);rw[aS]at o;obtain⟨j,e⟩:=Jq P (acc++t.w) (.I (e? t)) (by rw[aF];omega) λu p=>l u (ba _ p);refine⟨j,?_⟩;rw[aU];unfold i0;have m:uT (Ct 3 (c1 (uo wU "words") aH)) [a,b,c,.ls (acc.map D.str),.I (e? t),f,h,i]=U (.nx [a,b,c,.ls ((acc++t.w).map D.str),.I (e? t),f,h,i]):=by refine(wb (d:=.X) ?_);unfold Ct;show (if (acc.map D.str).length+(t.w.map D.str).length<=1000 then U (D.X,[a,b,c,.ls (acc.map D.str++t.w.map D.str),.I (e? t),f,h,i])else O)=_;rw[ak (by rw[ah,ah];omega),bu]
  rw[show gN 4 (e? t) [a,b,c,.ls (acc.map D.str),s,f,h,i]=U [a,b,c,.ls (acc.map D.str),.I (e? t),f,h,i] from Z];simp only[m];rw[e,fq,cp]
theorem PM{a b c f h i:Sl}:∀(V:List Vb) (acc:aE) (s:Sl),acc.length+3 * V.length<=900->(∀v∈V,v.o.length<=2)->
  ∃l,i0 (gN 6) (uT (Ct 5 (Gm (uS j6) (c1 (uo xj "others") cz)))) (V.map nr) [a,b,c,f,h,.ls (acc.map D.str),s,i]=U (.nx [a,b,c,f,h,.ls ((acc++V.flatMap Vb.ws).map D.str),l,i])
 |[],acc,s,_,_=>⟨s,by simp;rfl⟩
 |v::V,acc,s,r,m=>by
  have w:=m v bb;rw[aS]at r;have x:v.ws.length<=3:=by unfold Vb.ws;rw[aS];omega
  obtain⟨l,e⟩:=PM V (acc++v.ws) (.I (nr v)) (by rw[aF];omega) λu t=>m u (ba _ t);refine⟨l,?_⟩;rw[aU];unfold i0;let j:aM:=[a,b,c,f,h,.ls (acc.map D.str),.I (nr v),i];have p:Gm (uS j6) (c1 (uo xj "others") cz) j=U (.ef (v.ws.map D.str),j):=by show (if ([]:List L4.D).length+(v.o.map D.str).length<=900 then U (D.ef (.str v.n::[]++v.o.map D.str),j)else O)=_;rw[ak (by rw[ah];simp only[gH];omega)];rfl
  have q:uT (Ct 5 (Gm (uS j6) (c1 (uo xj "others") cz))) j=U (.nx [a,b,c,f,h,.ls ((acc++v.ws).map D.str),.I (nr v),i]):=by refine wb (d:=.X) ?_;unfold Ct;rw[p];show (if (acc.map D.str).length+(v.ws.map D.str).length<=1000 then U (D.X,[a,b,c,f,h,.ls (acc.map D.str++v.ws.map D.str),.I (nr v),i])else O)=_;rw[ak (by rw[ah,ah];omega),bu]
  rw[show gN 6 (nr v) [a,b,c,f,h,.ls (acc.map D.str),s,i]=U j from Z];simp only[q];rw[e,fq,cp]
def jsN(V:List Vb):aE:=V.filterMap Vb.j
def v_o2{V:List Vb}(h:∀v∈V,v∈v6):∀v∈V++v9,v.o.length<=2:=λv b=>by
 have a:=aR.1 (show ((v6++v9).all λv=>decide (v.o.length<=2))=γ by kernel_rfl) v (by
  rcases aO.1 b with b|b
  .exact bK _ (h v b)
  .exact bC _ b)
 exact bq a
def adw{e:FE}{c a:aM}{b:List L4.D}(h:e c=U (.cf b,a)):iL e c=U (b,a):=by unfold iL;rw[h]
def adx{ρ:aM}(V:List Vb)(d:V.length<=900)(a:cV 2 ρ=U (VD V,ρ)):uA 1 [] (iL aj) (gN 0) (cT (c2 vR (c1 (uo xi "joining") ae) aI)) (c1 (uo xi "joining") ae) ρ=U ((jsN V).map D.str,ρ):=by
 have b:iL aj ρ=U (V.map nr,ρ):=adw a;refine(ze nr (λv=>oS v.j) (λv=>v.j.isSome) V b (by omega) λv u=>⟨[.I (nr v)],[.I (nr v)],Z,?_,λu=>⟨[.I (nr v)],Z,Z⟩,λu=>Z⟩).t ?_
 .obtain⟨n,o,f,j⟩:=v;cases j<;>rfl
 .congr 2;unfold jsN;clear b a d
  induction V with
  |nil=>rfl
  |cons v V c=>
   obtain⟨n,o,f,j⟩:=v;cases j with
   |none=>rw[nO (by simp),List.filterMap_cons_none Z];exact c
   |some x=>rw[kO (by simp)];exact bD (D.str x::·) c
def Jr{T:List Th}{W:List Wy}{t n:Nat}(H:T.length<=200)(m:∀t∈T,Dr t)(hW:W.length<=8)(R:∀w∈W,w.w∈(["north", "up", "outside"]:aE))(d:t<6)(u:n<7):xX [TD T,WD W,VD (vL t n++v9)]=U .X:=by
 let V:=vL t n++v9;have v6m:∀v∈vL t n,v∈v6:=λv f=>LN f;have lV:V.length<=15:=by show (vL t n++v9).length<=15;rw[aF];have:=F8 t n;show (vL t n).length+9<=15;omega
 let P:=T.filter λt=>t.k.pl;have hP:P.length<=200:=bF (cH _ _) H;have hwP:∀t∈P,t.nw∈ub:=λt d=>(m t (aT.1 d).1).2 (aT.1 d).2;let A:Sl:=.I (TD T);let B:Sl:=.I (WD W);let C:Sl:=.I (VD V);obtain⟨i,E⟩:=Jq P [] .un (by simp;omega) hwP;let l:=P.flatMap Th.w;let AT:=V.flatMap Vb.ws;let o:Sl:=.ls (l.map D.str);obtain⟨z,F⟩:=PM V [] .un (by simp;omega) (v_o2 v6m);let c:aE:=jsN V++W.map Wy.w;let A_:Sl:=.I (.cf (c.map D.str));have lU:AT.length<=100:=by have h:=vws v6m;have G:=MY (PH d u) h;exact bF G (n6 (by kernel_rfl))
 have lJ:(jsN V).length<=15:=bF (List.length_filterMap_le _ _) lV;have lB:c.length<=100:=by show (jsN V++W.map Wy.w).length<=100;rw[aF,ah];omega
 have bIn:∀x∈c,x∈bW:=λx b=>by
  rcases aO.1 b with b|b
  .obtain⟨v,f,e⟩:=eC.1 b;have a:=aR.1 (show ((v6++v9).all λv=>match v.j with|some x=>decide (x∈bW)|none=>γ)=γ by kernel_rfl) v (by
    rcases aO.1 f with f|f
    .exact bK _ (v6m v f)
    .exact bC _ f)
   rw[e]at a;exact bq a
  .obtain⟨w,m,rfl⟩:=av.1 b;exact(show ∀x∈(["north", "up", "outside"]:aE),x∈bW by decide) _ (R w m)
 have oIn:∀x∈l,x∈ub.flatMap bI:=λx b=>by obtain⟨t,d,hxt⟩:=dq.1 b;exact dq.2 ⟨t.nw,hwP t d,hxt⟩
 have uIn:∀x∈AT,x∈vW:=vws v6m;have M:∀x∈vW++bW,x∉ub.flatMap bI:=by decide +kernel
 have N:∀x∈vW++bW,x∉(["the", "a", "undo", "restart"]:aE):=by decide +kernel
 have Q:∀x∈bW,x∉vW:=by decide +kernel
 have y:∀x∈AT++c,x∈vW++bW:=λx b=>by
  rcases aO.1 b with b|b
  .exact bK _ (uIn x b)
  .exact bC _ (bIn x b)
 have lUB:(AT++c).length<=900:=by rw[aF];omega
 let UL:L4.D:=.cf (AT.map D.str);refine Bt (ρ:=[A,B,C,.I (.cf (l.map D.str)),i,.I UL,z,A_]) Z ?_;unfold xW;refine(uh Z).t ?_;refine(uh ((xE (ρ1:=[A,B,C,.ls [],.un,.un,.un,.un]) ?_).t E)).t ?_
 .unfold iL;rw[vE (uf (ρ1:=[A,B,C,.ls [],.un,.un,.un,.un]) Z (AS T (by omega)))]
 refine(uh Z).t ?_;refine(uh ((xE Z).t F)).t ?_;refine(uh (ρ':=[A,B,C,o,i,.ls (AT.map D.str),z,A_]) ((vm (vE (vZ (vE (adx V (by omega) Z)) (vE (wC B' (λw=>.str w.w) W Z (by omega) λw s=>⟨[.I (B' w)],[.I (B' w)],Z,Z,Z⟩)) (by rw[ah,ah];omega)))).t ?_)).t ?_
 .show U (H4.nx [A,B,C,o,i,.ls (AT.map D.str),z,.I (.cf ((jsN V).map D.str++W.map λw=>.str w.w))])=_;rw[show (jsN V).map D.str++(W.map λw=>D.str w.w)=c.map D.str by show _=(jsN V++W.map Wy.w).map D.str;rw[bu,bf];rfl]
 refine(uh (wK (uf (ds:=[UL]) Z (Eh (PH d u) (by omega))))).t ?_;have r:∀(q:Sl),cL (wG (D' 5) bT) [A,B,C,q,i,.I UL,z,A_]=U (.cf ((AT++c).map D.str),[A,B,C,q,i,.I UL,z,A_]):=λq=>(vE (vZ Z Z (by rw[ah,ah];omega))).t (by rw[<-bu]);refine(uh (wK (uf (um (r o) Z) (Jo (.inl Z) lUB λx b I=>M x (y x b) (oIn x I))))).t ?_;refine(uh (wK (uf (um (r _) Z) (Jo (.inr Z) lUB λx b=>N x (y x b))))).t ?_;exact wK (uf Z (Jo (.inl Z) (by omega) λx b J=>Q x (bIn x b) (uIn x J)))
structure et(T:List Th)(M:List Mk)(dk:aE)(W:List Wy):Prop where
 len:T.length<=13
 r1:1<=(T.filter λt=>decide (t.k=.room)).length
 r5:(T.filter λt=>decide (t.k=.room)).length<=5
 y1:(T.filter λt=>decide (t.k=.you)).map Th.n=(["me"]:aE)
 p7:(T.filter λt=>t.k.pl).length<=7
 m4:M.length<=4
 mo:∀m∈M,m.ok
 nm:∀x∈T.map Th.n++M.map Mk.n,Nm x
 nd:(T.map Th.n++M.map Mk.n).Nodup
 st:∀t∈T,Dp T t
 rk:∃r,LK T r
 wd:∀t∈T,Dr t
 d0:dk.length<=5
 d1:dk.Nodup
 d2:∀x∈dk,x∈n9 T
 w8:W.length<=8
 wo:∀w∈W,Re T M w
 wn:(W.map λw=>[w.r,w.w]).Nodup
section
variable{T:List Th}{M:List Mk}{dk:aE}{W:List Wy}
def et.E'(g:et T M dk W):(T.map Th.n).Nodup:=(cg.1 g.nd).1
def DQ(T:List Th)(M:List Mk)(a:T.length<=200)(hM:M.length<=4):yn [TD T,MD M]=U ((xo T M).map D.str):=by
 let b:aM:=[.I (TD T),.I (MD M)];have h:=cH (λt:Th=>t.k.mk) T;refine(zz Z (wX (vZ (vE (ze e? (λt=>D.str t.n) (λt=>t.k.mk) T Z (by omega) λt v=>⟨[.I (e? t)],[.I (e? t)],Z,vp (uQ Z Z Z Z (PD t)),λv=>⟨_,uY Z (zX t),Z⟩,λv=>Z⟩))
  (vE (wC M' (λt=>D.str t.n) M Z (by omega) λt v=>⟨_,_,Z,uY Z (LI t),Z⟩)) (by rw[ah,ah];omega)))).t ?_
 unfold xo;rw[bu,bf,bf];rfl
def Js(g:et T M dk W){t n:Nat}(c:t<6)(b:n<7):AM [TD T,MD M,.cf (dk.map D.str),WD W,VD (vL t n),VD v9]=U .X:=by
 have l:=g.len;have d:=g.m4;have hdk:dk.length<=1000:=by have:=g.d0;omega
 have h:(T.filter λt=>decide (t.k=.you)).length=1:=by have:=bD cQ g.y1;rw[ah]at this;exact this
 obtain⟨r,e⟩:=g.rk;let i:aM:=[.I (TD T),.I (MD M),.I (.cf (dk.map D.str)),.I (WD W),.I (VD (vL t n)),.I (VD v9),.un];let a:aM:=[.I (TD T),.I (MD M),.I (.cf (dk.map D.str)),.I (WD W),.I (VD (vL t n)),.I (VD v9),.I (.cf ((n9 T).map D.str))];refine Bt (ρ:=a) Z ?_;unfold AL;refine(uh (wb (uf Z (Hv T (by omega) g.r1 g.r5 h g.p7)))).t ?_;refine(uh (wb (uf Z (Jk M g.m4 g.mo)))).t ?_;refine(uh (wb (uf Z (Jl T M (by omega) (by omega) g.nm g.nd)))).t ?_;refine(uh (wb (uf Z (Hw T (by omega) g.E' r e g.st)))).t ?_;refine(uh (wb (uf Z (Jn T (by omega) g.wd)))).t ?_;refine(uh ((vm (vE (Na T (by omega) Z))))).t ?_;refine(uh (wb (uf Z (JQ dk (n9 T) hdk g.d1 g.d2)))).t ?_;refine(uh (wb (uf (um Z (um Z (um (vE (uf Z (DQ T M (by omega) d))) Z))) (JS g.w8 g.wo g.wn)))).t ?_;refine(uh (wb (uf Z (Jp c b)))).t ?_;refine wb (uf (um Z (um Z (um ((vE (vZ (ρ1:=a) Z Z ?_)).t (by rw[<-bu])) Z))) (Jr (by omega) g.wd g.w8 (λw f=>(g.wo w f).hw) c b));have:=F8 t n;rw[ah,ah];show (vL t n).length+9<=1000;omega
def Ow(T:List Th)(m:T.length<=900)(f:(T.map Th.n).Nodup):F1 [TD T]=U (.Z (nK T) (T.map e?)):=by
 obtain⟨h,d⟩:=Bh (g:=gN 2) (i:=1) (fk:=c1 (uo uD "name") aj) (fv:=cV 2) e? Th.n e? (λb a s=>[.I (TD T),.dk b a,s])
  (λt b a s=>⟨[.I (TD T),.dk b a,.I (e? t)],Z,Z,Z,uY Z (zX t),λe c=>⟨_,Z⟩⟩) T [] [] .un (by rw[cI];exact Uj f) (by simp;omega) Z
 refine uv (ρ:=[.I (TD T),.I (.Z (nK T) (T.map e?)),h]) Z ?_;unfold F0;refine(uh Z).t ?_;refine(uh ((xE Z).t d)).t ?_;rw[cI,cI];rfl
def mP(T:List Th)(M:List Mk):List (Str×Int):=(T.filter λt=>t.k.mk).map (λt=>(t.n,1))++M.map λm=>(m.n,m.mo)
def Ox(T:List Th)(M:List Mk):(mP T M).map cY=xo T M:=by unfold mP xo;rw[bu,bf,bf];rfl
def W0(m:Mk):uo zD "most" (M' m)=U (.int m.mo):=rfl
theorem F9{a b e:Sl}:∀(l:List Th) (c:List ey) (d:List L4.D) (s:Sl),(c++(l.filter λt=>t.k.mk).map λt=>kS t.n).Nodup->c.length+l.length<=900->d.length=c.length->
  ∃j,i0 (gN 3) (ff (cT (uG wu "has_mark" aA uN)) (yC 2 (c1 (uo uD "name") aA) aY) uz) (l.map e?) [a,b,.dk c d,s,e]=U (.nx [a,b,.dk (c++(l.filter λt=>t.k.mk).map λt=>kS t.n) (d++(l.filter λt=>t.k.mk).map λv=>.int 1),j,e])
 |[],c,d,s,_,_,_=>⟨s,by simp;rfl⟩
 |t::l,c,d,s,f,u,o=>by
  rw[aS]at u;let r:aM:=[a,b,.dk c d,.I (e? t),e];have m:cT (uG wu "has_mark" aA uN) r=U (t.k.mk,r):=vp (uQ Z Z Z Z (PD t));rw[aU];unfold i0;rw[show gN 3 (e? t) [a,b,.dk c d,s,e]=U r from Z];cases h:t.k.mk with
  |true=>
   rw[h]at m;rw[kO (p:=λt:Th=>t.k.mk) h,aU]at f;rw[kO (p:=λt:Th=>t.k.mk) h];have w:kS t.n∉c:=λz=>by rw[cg]at f;exact f.2.2 _ z _ bb Z
   obtain⟨j,q⟩:=F9 l (c++[kS t.n]) (d++[.int 1]) (.I (e? t)) (by rw[cp];exact f) (by rw[aF,dh];omega) (by simp[o]);refine⟨j,?_⟩;simp only[(uV m).t (Nd (i:=2) (fk:=c1 (uo uD "name") aA) (fv:=cC (.int 1)) Z Z (uY Z (zX t)) w (by omega) o)];refine Eq.t q ?_;rw[cp,cp];rfl
  |false=>rw[h]at m;rw[nO (by rw[h];exact bw)]at f ⊢;obtain⟨j,q⟩:=F9 l c d (.I (e? t)) f (by omega) o;refine⟨j,?_⟩;simp only[vh m,uz];exact q
def mD(T:List Th)(M:List Mk):L4.D:=.Z ((mP T M).map λq=>kS q.1) ((mP T M).map λq=>.int q.2)
def et.ndK(g:et T M dk W):(xo T M).Nodup:=by unfold xo;have h:=cg.1 g.nd;refine cg.2 ⟨tY (kZ.map _) h.1,h.2.1,λx b y c=>h.2.2 x ?_ y c⟩;obtain⟨t,a,rfl⟩:=av.1 b;exact cB (aT.1 a).1
def Uo(g:et T M dk W):((mP T M).map λq=>kS q.1).Nodup:=by have:=AZ g.ndK;rw[<-Ox,bf]at this;exact this
def Up(g:et T M dk W):zb [TD T,MD M]=U (mD T M):=by
 have d:=Uo g;have x:=g.len;have y:=g.m4;have f:(mP T M).map (λq=>kS q.1)=(T.filter λt=>t.k.mk).map (λt=>kS t.n)++M.map λm=>kS m.n:=by unfold mP;rw[bu,bf,bf];rfl
 have b:(mP T M).map (λq=>D.int q.2)=(T.filter λt=>t.k.mk).map (λv=>D.int 1)++M.map λm=>D.int m.mo:=by unfold mP;rw[bu,bf,bf];rfl
 rw[f]at d;have w:=cH (λt:Th=>t.k.mk) T;obtain⟨e,h⟩:=F9 T [] [] .un (by rw[cI];exact(cg.1 d).1) (by simp;omega) Z;rw[cI,cI]at h;obtain⟨p,l⟩:=Bh (g:=gN 4) (i:=2) (fk:=c1 (uo uD "name") aH) (fv:=c1 (uo zD "most") aH) M' Mk.n (λm=>.int m.mo) (λc a s=>[.I (TD T),.I (MD M),.dk c a,e,s])
  (λm c a s=>⟨[.I (TD T),.I (MD M),.dk c a,e,.I (M' m)],Z,uY Z (W0 m),Z,uY Z (LI m),λo j=>⟨_,Z⟩⟩) M ((T.filter λt=>t.k.mk).map λt=>kS t.n) ((T.filter λt=>t.k.mk).map λv=>.int 1) .un d (by rw[ah];omega) (by rw[ah,ah])
 refine uv (ρ:=[.I (TD T),.I (MD M),.I (mD T M),e,p]) Z ?_;unfold za;refine(uh Z).t ?_;refine(uh ((xE Z).t h)).t ((uh ((xE Z).t l)).t ?_);unfold mD;rw[f,b];rfl
def Jt(T:List Th)(c:T.length<=1000)(a:aE)(fc:List L4.D)(k:Kd):B5 [.obj 14 ("kept_things" ::a) (TD T::fc),.str k.s]=U (.cf ((T.filter λt=>decide (t.k=k)).map λt=>D.str t.n)):=by let b:aM:=[.I (.obj 14 ("kept_things" ::a) (TD T::fc)),.I (.str k.s)];refine DX (ρ:=b) Z ?_;exact wX (ze e? (λt=>D.str t.n) (λt=>decide (t.k=k)) T Z c λt v=>⟨[.I (e? t),.I (.str k.s)],[.I (e? t),.I (.str k.s)],Z,vp (ur (uY Z (AR t)) Z (Hl t.k k)),λv=>⟨_,uY Z (zX t),Z⟩,λv=>Z⟩)
end
def vwD(V:List Vb):L4.D:=.Z (V.flatMap λv=>v.ws.map kS) (V.flatMap λv=>v.ws.map λu=>nr v)
def p42:List (Nat×Nat):=(aZ 6).flatMap λt=>(aZ 7).map λn=>(t,n)
def abp{t n:Nat}(b:t<6)(a:n<7):(t,n)∈p42:=dq.2 ⟨t,bP.2 b,av.2 ⟨n,bP.2 a,Z⟩⟩
def abq:(p42.map λq=>xO [VD (vL q.1 q.2++v9)])=p42.map λq=>U (vwD (vL q.1 q.2++v9)):=by kernel_rfl
def ady{t n:Nat}(b:t<6)(a:n<7):xO [VD (vL t n++v9)]=U (vwD (vL t n++v9)):=List.map_inj_left.1 abq (t,n) (abp b a)
theorem Uq:∀V:List Vb,(V.flatMap λv=>v.ws.map kS).zip (V.flatMap λv=>v.ws.map λu=>nr v)=V.flatMap λv=>v.ws.map λx=>(kS x,nr v)
 |[]=>rfl
 |v::V=>by rw[fq,fq,fq,lS (by rw[ah,ah]),Uq V,iK]
def LP{V:List Vb}(b:(V.flatMap Vb.ws).Nodup){v:Vb}(a:v∈V):Cs (vwD V) (.str v.n)=U (nr v):=by
 show U ((vC (V.flatMap λv=>v.ws.map kS) (V.flatMap λv=>v.ws.map λu=>nr v) (kS v.n)).getD .X)=_;rw[A0]
 .rfl
 .have:=AZ b;rw[List.map_flatMap]at this;exact this
 .rw[Uq];exact dq.2 ⟨v,a,av.2 ⟨v.n,bb,Z⟩⟩
def wNs:aE:=["kept_things", "kept_marks", "kept_dark", "kept_ways", "kept_verbs", "shared_verbs", "your_name", "things_by_name", "mosts_by_name", "verbs_by_word", "kept_rules", "shared_rules", "copied_rules", "rules_by_verb"]
def j2(T:List Th)(M:List Mk)(dk:aE)(W:List Wy)(V:List Vb):L4.D:=.obj 14 (wNs.take 10) [TD T,MD M,.cf (dk.map D.str),WD W,VD V,VD v9,.str "me", .Z (nK T) (T.map e?),mD T M,vwD (V++v9)]
def pa:aE:=["one", "two", "alone", "way"]
def xL:aE:="here" ::nmL
def abr:(pa.all λf=>xL.all λx=>isF (vz [.str f,.str x]))=γ:=by kernel_rfl
def KP{f x:Str}(a:f∈pa)(b:x∈xL):vz [.str f,.str x]=U (.Y δ):=Os (aR.1 (aR.1 abr f a) x b)
def abt:(pa.all λf=>nmL.all λx=>isF (yE [.str f,.str x]))=γ:=by kernel_rfl
def XU{f x:Str}(a:f∈pa)(b:x∈nmL):yE [.str f,.str x]=U (.Y δ):=Os (aR.1 (aR.1 abt f a) x b)
def Ur{f:Str}(a:f∈pa):yE [.str f,.str "here"]=U (.Y γ):=BQ (aR.1 (show (pa.all λf=>isT (yE [.str f,.str "here"]))=γ by kernel_rfl) f a)
def By(f x:Str):Prop:=(x="it" /\ f∈(["one", "two"]:aE))\/(x="other" /\ f="two")
def LQ{f x:Str}(h:By f x):vz [.str f,.str x]=U (.Y γ):=by
 rcases h with ⟨rfl,h⟩|⟨rfl,rfl⟩
 .exact BQ (aR.1 (show ((["one", "two"]:aE).all λf=>isT (vz [.str f,.str "it"]))=γ by kernel_rfl) f h)
 .kernel_rfl
def Tm(f:Str)(N:aE)(x:Str):Prop:=x∈N\/x="here" \/ By f x
section
variable{T:List Th}{M:List Mk}{dk:aE}{W:List Wy}{V:List Vb}{f:Str}
def Us(g:et T M dk W){t:Th}(h:t∈T):t.n∈nmL:=g.nm _ (bK _ (cB h))
def adz(g:et T M dk W){t:Th}(h:t∈T):vX [j2 T M dk W V,.str t.n]=U (e? t):=by
 have e:vX [j2 T M dk W V,.str t.n]=U ((vC (nK T) (T.map e?) (kS t.n)).getD .X):=by kernel_rfl
 rw[e,Fs g.E' e? h];rfl
def adA(g:et T M dk W){q:Str×Int}(h:q∈mP T M):wN [j2 T M dk W V,.str q.1]=U (.int q.2):=by
 have e:wN [j2 T M dk W V,.str q.1]=U ((vC ((mP T M).map λq=>kS q.1) ((mP T M).map λq=>.int q.2) (kS q.1)).getD .X):=by kernel_rfl
 rw[e,A0 (Uo g)]
 .rfl
 .rw[iK];exact cB h
def zY{c:FT}{e b:FE}{ρ a:aM}(h:c ρ=U (γ,a)):A? c e b ρ=e a:=by unfold A?;rw[h]
def nmd(g:et T M dk W){t:Th}(h:t∈T):Ap [j2 T M dk W V,.str t.n]=U (e? t):=by let a:aM:=[.I (j2 T M dk W V),.I (.str t.n)];refine uv (ρ:=a) Z (uF ?_);refine(zY Z).t ?_;exact uQ Z Z Z Z (adz g h)
def BR(g:et T M dk W)(a:f∈pa){x:Str}(h:Tm f (T.map Th.n) x):Bc [j2 T M dk W V,.str f,.str x]=U (.Y γ):=by
 let c:aM:=[.I (j2 T M dk W V),.I (.str f),.I (.str x)];refine uv (ρ:=c) Z (uF ?_);rcases h with h|rfl|h
 .obtain⟨t,b,rfl⟩:=av.1 h;refine(Ft (uf Z (KP a (ba _ (Us g b))))).t ((Ft (uf Z (XU a (Us g b)))).t ?_);exact ur (uf Z (nmd g b)) Z Z
 .exact(Ft (uf Z (KP a bb))).t (LO (uf Z (Ur a)))
 .exact LO (uf Z (LQ h))
def hd_T{x:Str}(h:x∈rb T):∃t∈T,t.n=x/\t.k.hd=γ:=by obtain⟨t,a,rfl⟩:=av.1 h;exact⟨t,(aT.1 a).1,Z,(aT.1 a).2⟩
def Ng{c b:FT}{ρ a:aM}(d:c ρ=U (γ,a)):w9 c b ρ=U (γ,a):=by unfold w9;rw[d]
def Hm(g:et T M dk W)(b:f∈pa){x:Str}(h:Tm f (rb T) x):BH [j2 T M dk W V,.str f,.str x]=U (.Y γ):=by
 let c:aM:=[.I (j2 T M dk W V),.I (.str f),.I (.str x)];refine uv (ρ:=c) Z ?_;unfold D6;rcases h with h|rfl|h
 .obtain⟨t,d,rfl,j⟩:=hd_T h;refine(uh ((vh (zy (vp (uf Z (KP b (ba _ (Us g d))))) (vp (uf Z (XU b (Us g d)))))))).t (uF ?_);have e:=nmd (V:=V) g d;refine(ux (ur (uf Z e) Z Z)).t ?_;have i:=uQ (g:=vy) (m:="can_hold") (a:=uN) (uf (a:=bt ae cG) (ρ:=c) Z e) Z Z Z (LH t);rw[j]at i;exact i
 .exact uP ((uV (zy (vp (uf Z (KP b bb))) (vp (uf Z (Ur b))))))
 .exact uP ((uV (Ng (vp (uf Z (LQ h))))))
def XW(g:et T M dk W){t:Th}(h:t∈T)(k:Kd):zh [j2 T M dk W V,.str t.n,.str k.s]=U (.Y (decide (t.k=k))):=by let a:aM:=[.I (j2 T M dk W V),.I (.str t.n),.I (.str k.s)];refine uv (ρ:=a) Z (uF ?_);have e:=nmd (V:=V) g h;exact(ux (ur (uf Z e) Z Z)).t (ur (uY (uf Z e) (AR t)) Z (Hl t.k k))
def Mv(T:List Th)(f x:Str):Prop:=(∃t∈T,t.n=x/\t.k≠.room)\/By f x
def Nh(g:et T M dk W)(c:f∈pa){x:Str}(h:Mv T f x):D8 [j2 T M dk W V,.str f,.str x]=U (.Y γ):=by
 let b:aM:=[.I (j2 T M dk W V),.I (.str f),.I (.str x)];refine uv (ρ:=b) Z ?_;unfold D7;rcases h with ⟨t,a,rfl,d⟩|h
 .refine(uh ((vh (vp (uf Z (KP c (ba _ (Us g a)))))))).t (uF ?_);refine(ux (ur (uf Z (nmd g a)) Z Z)).t ((LM (uf Z (XW g a .room))).t ?_);rw[bj d];rfl
 .exact uP ((uV (vp (uf Z (LQ h)))))
def Mt(T:List Th)(M:List Mk)(f:Str)(q:Str×Int):Prop:=q∈mP T M\/(By f q.1/\q.2<=3)
def Ut(g:et T M dk W){q:Str×Int}(h:q∈mP T M):q.1∈nmL:=by
 refine g.nm _ ?_;have h1:q.1∈xo T M:=by rw[<-Ox];exact cB h
 rcases aO.1 h1 with h1|h1
 .obtain⟨t,a,e⟩:=av.1 h1;exact bK _ (by rw[<-e];exact cB (aT.1 a).1)
 .exact bC _ h1
def DR(g:et T M dk W)(j:f∈pa){q:Str×Int}(h:Mt T M f q){v:Int}(m:0<=v)(i:v<=q.2):xR [j2 T M dk W V,.str f,.str q.1,.int v]=U (.Y γ):=by
 let a:aM:=[.I (j2 T M dk W V),.I (.str f),.I (.str q.1),.I (.int v),.un];have d:cT (c2 Lm aA aX) a=U (δ,a):=by show U (decide (v<0),a)=_;rw[bj (by omega)]
 have c:ff (w9 (vN (cT (ug zI eV))) (cT (c2 Lm aA aX))) (uq bY) uz a=U (.nx a):=(vh (zy (wY (b:=γ) (vp (uf Z (by kernel_rfl)))) d));rcases h with h|⟨h,o⟩
 .let l:aM:=[.I (j2 T M dk W V),.I (.str f),.I (.str q.1),.I (.int v),.I (.int q.2)];refine uv (ρ:=l) Z ?_;unfold xQ;refine(uh c).t ((uh ((vh (vp (uf Z (KP j (ba _ (Ut g h)))))))).t ?_);have e:A? (cT (c1 (vv (vO "str")) aj)) (uG vT "most_of" ae cG) aI a=U (.int q.2,a):=by refine(zY Z).t ?_;exact uQ Z Z Z Z (adA g h)
  refine(uh ((vm e))).t (uF ((ux Z).t (PF Z Z i)))
 .refine uv (ρ:=a) Z ?_;unfold xQ;refine(uh c).t (uP ((uV (vp (uf Z (LQ h)))).t (uF (PF Z Z (by omega)))))
def atO(a b:Str):L4.D:=.obj 3 ["term", "place"] [.str a,.str b]
def hsO(a:Str):L4.D:=.obj 4 ["term"] [.str a]
def seO(a:Str):L4.D:=.obj 5 ["term"] [.str a]
def mkO(a:Str)(v:Int):L4.D:=.obj 6 ["term", "value"] [.str a,.int v]
def kiO(a k:Str):L4.D:=.obj 7 ["term", "kind"] [.str a,.str k]
def woO(a:Str):L4.D:=.obj 8 ["word"] [.str a]
def noO(d:L4.D):L4.D:=.obj 9 ["inner"] [d]
def boO(d e:L4.D):L4.D:=.obj 10 ["one", "other"] [d,e]
def mvO(a b:Str):L4.D:=.obj 11 ["term", "place"] [.str a,.str b]
def puO(a:Str)(v:Int):L4.D:=.obj 12 ["term", "value"] [.str a,.int v]
def liO:L4.D:=.obj 15 [] []
def Tk(w:L4.D)(f:Str)(n:Nat)(d:L4.D):Prop:=Hs 16 14 d=γ/\∀j:Nat,n<j->j<=4->x6 j [w,.str f,d,.int j]=U (.Y γ)
def Uu{w:L4.D}{a b:Sl}(j:Nat):ff (cT (c2 (fl δ) aA aX)) (uq bY) uz [.I w,a,b,.I (.int ((j+1:Nat):Int))]=U (.nx [.I w,a,b,.I (.int ((j+1:Nat):Int))]):=
 (vh (vp (ur Z Z ((zg δ _ 0).t (by rw[bj (by omega:¬((j+1:Nat):Int)=0)];rfl)))))
def xZ{w d:L4.D}{n:Nat}(b:vv T7 d=U (.Y δ))(c:vv Oo d=U (.Y δ))(e:Hs 16 14 d=γ)(h:zc [w,.str f,d]=U (.Y γ)):Tk w f n d:=⟨e,λj i v=>by
 obtain⟨j,rfl⟩:∃k,j=k+1:=⟨j - 1,by omega⟩;let a:aM:=[.I w,.I (.str f),.I d,.I (.int ((j+1:Nat):Int))];refine uv (ρ:=a) Z ?_;unfold x4;exact(uh (Uu j)).t ((uh ((vh (vp (uY Z b))))).t ((uh ((vh (vp (uY Z c))))).t (uF (uf Z h))))⟩
def sub1{ρ:aM}{j:Nat}(h:cV 3 ρ=U (.int ((j+1:Nat):Int),ρ)):c2 MG aA aY ρ=U (.int j,ρ):=(ur h Z Z).t (by
 show U (D.int (((j+1:Nat):Int) - 1),ρ)=_;rw[show ((j+1:Nat):Int) - 1=j by omega])
def Uv{w d:L4.D}{n:Nat}(h:Tk w f n d):Tk w f (n+1) (noO d):=⟨by
 have e:Hs 16 14 (noO d)=(Hs 16 14 d&&γ):=by kernel_rfl
 rw[e,h.1];rfl,λj c b=>by
 obtain⟨j,rfl⟩:∃k,j=k+1:=⟨j - 1,by omega⟩;let a:aM:=[.I w,.I (.str f),.I (noO d),.I (.int ((j+1:Nat):Int))];refine uv (ρ:=a) Z ?_;unfold x4;refine(uh (Uu j)).t (uP ((uV Z).t (uF ?_)));exact uf (um Z (um Z (um Z (um (sub1 Z) Z)))) (h.2 j (by omega) (by omega))⟩
def Rg{w d e:L4.D}{n:Nat}(h:Tk w f n d)(b:Tk w f n e):Tk w f (n+1) (boO d e):=⟨by
 have q:Hs 16 14 (boO d e)=(Hs 16 14 d&&(Hs 16 14 e&&γ)):=by kernel_rfl
 rw[q,h.1,b.1];rfl,λj l i=>by
 obtain⟨j,rfl⟩:∃k,j=k+1:=⟨j - 1,by omega⟩;let a:aM:=[.I w,.I (.str f),.I (boO d e),.I (.int ((j+1:Nat):Int))];refine uv (ρ:=a) Z ?_;unfold x4;refine(uh (Uu j)).t ((uh ((vh Z))).t (uP ((uV Z).t (uF ((ux (ρ1:=a) ?_).t ?_)))))
 .exact uf (um Z (um Z (um Z (um (sub1 Z) Z)))) (h.2 j (by omega) (by omega))
 .exact uf (um Z (um Z (um Z (um (sub1 Z) Z)))) (b.2 j (by omega) (by omega))⟩
end
def W2{c d:Type}(x:Option (c×d))(k:c->d->Prop):Prop:=∃a b,x=U (a,b)/\k a b
def Rk(r:L4.D->List L4.D->Prop)(d:L4.D)(ρ:aM):Prop:=∃a s,ρ=.pm a::s/\r d a
def Ws(x:Option H4)(n:aM->Prop)(r:L4.D->aM->Prop):Prop:=∃o,x=U o/\match o with
 |.nx a=>n a
 |.rt d a=>r d a
 |.rn l a=>r (.cf l) a
 |_=>False
def uj{c d:Type}{x:Option (c×d)}{a:c}{b:d}{k:c->d->Prop}(h:x=U (a,b))(p:k a b):W2 x k:=⟨a,b,h,p⟩
def w_mo{c d:Type}{x:Option (c×d)}{k:c->d->Prop}(R:c->d->Prop)(w:W2 x R)(p:∀a b,R a b->k a b):W2 x k:=by obtain⟨a,b,h,q⟩:=w;exact⟨a,b,h,p a b q⟩
section
variable{f g:FS}{c c':FT}{e e':FE}{a:FA}{ρ ρ':aM}{n:aM->Prop}{r k:L4.D->aM->Prop}{kb:Bool->aM->Prop}{kl:List L4.D->aM->Prop}{i:Nat}
def uB(w:Ws (f ρ) (λρ=>Ws (g ρ) n r) r):Ws (bx f g ρ) n r:=by
 obtain⟨o,e,p⟩:=w;cases o with
 |nx ρ=>obtain⟨o,b,p⟩:=p;exact⟨o,(uh e).t b,p⟩
 |rt d ρ=>exact⟨_,uP e,p⟩
 |rn d ρ=>exact⟨_,by unfold bx;rw[e],p⟩
 |_=>exact p.elim
def wL(h:f ρ=U (.nx ρ'))(p:n ρ'):Ws (f ρ) n r:=⟨_,h,p⟩
def s_y(h:c ρ=U (γ,ρ'))(w:Ws (f ρ') n r):Ws (ff c f g ρ) n r:=by unfold Ws;rw[uV h];exact w
def s_n(h:c ρ=U (δ,ρ'))(w:Ws (g ρ') n r):Ws (ff c f g ρ) n r:=by unfold Ws;rw[vh h];exact w
def Ga(w:W2 (c ρ) λb ρ=>(b=γ->Ws (f ρ) n r)/\(b=δ->Ws (g ρ) n r)):Ws (ff c f g ρ) n r:=by
 obtain⟨b,ρ',e,y,z⟩:=w;cases b with
 |true=>exact s_y e (y Z)
 |false=>exact s_n e (z Z)
def uZ(w:W2 (e ρ) λd ρ=>n (ρ.set i (.I d))):Ws (uJ i e ρ) n r:=by obtain⟨d,ρ',h,p⟩:=w;exact⟨_,vm h,p⟩
def W1(w:W2 (a ρ) λd ρ=>n (ρ.set i (.ls d))):Ws (wW i a ρ) n r:=by obtain⟨d,ρ',h,p⟩:=w;exact⟨_,Wq h,p⟩
def Oy(w:W2 (e ρ) λv ρ=>n ρ):Ws (uT e ρ) n r:=by obtain⟨d,ρ',h,p⟩:=w;exact⟨_,wb h,p⟩
def vg(w:W2 (e ρ) r):Ws (uq e ρ) n r:=by obtain⟨d,ρ',h,p⟩:=w;exact⟨_,uF h,p⟩
def Rh(w:W2 (a ρ) λd=>r (.cf d)):Ws (vI a ρ) n r:=by obtain⟨d,ρ',h,p⟩:=w;exact⟨_,wX h,p⟩
def s_as{g:FG}(w:W2 (e ρ) λd ρ=>∃ρ',g d ρ=U ρ'/\n ρ'):Ws (Lk e g ρ) n r:=by obtain⟨d,ρ',h,b,j,p⟩:=w;exact⟨.nx b,by unfold Lk;rw[h];simp only[j],p⟩
def Ni{g:L4.D->L4.D->Option L4.D}(w:W2 (e ρ) λx ρ=>W2 (e' ρ) λy ρ=>∃z,g x y=U z/\k z ρ):W2 (c2 g e e' ρ) k:=by obtain⟨x,j,b,y,l,d,z,h,p⟩:=w;exact⟨_,_,ur b d h,p⟩
def w_T(w:W2 (e ρ) λd ρ=>∃b,d=.Y b/\kb b ρ):W2 (cT e ρ) kb:=by obtain⟨_,ρ',h,b,rfl,p⟩:=w;exact⟨b,_,vp h,p⟩
def Ra(w:W2 (a ρ) λd ρ=>k (.cf d) ρ):W2 (cL a ρ) k:=by obtain⟨d,ρ',h,p⟩:=w;exact⟨_,_,vE h,p⟩
def wR(w:W2 (e ρ) λd ρ=>W2 (a ρ) λb ρ=>kl (d::b) ρ):W2 (bt e a ρ) kl:=by obtain⟨d,l,h,b,m,j,p⟩:=w;exact⟨_,_,um h j,p⟩
def rf{c:Nat}{g:List L4.D->Option (aE×List L4.D)}(w:W2 (a ρ) λj ρ=>W2 (g j) λb xs=>k (.obj c b xs) ρ):W2 (uO c g a ρ) k:=by obtain⟨d,m,h,b,xs,l,p⟩:=w;exact⟨_,_,Pm h l,p⟩
def Oz{j:List L4.D}(l:v3 ρ i=U j)(w:W2 (e ρ) λd ρ=>∃b,v3 ρ i=U b/\b.length<1000/\k .X (putAt ρ i (b++[d]))):W2 (AX i e ρ) k:=by obtain⟨d,q,h,b,m,o,p⟩:=w;exact⟨_,_,SX l h m o,p⟩
def Hy{g:List L4.D->List L4.D->Option (L4.D×List L4.D)}{j:List L4.D}(o:v3 ρ i=U j)(w:W2 (a ρ) λl ρ=>∃b,v3 ρ i=U b/\W2 (g b l) λd b=>k d (putAt ρ i b)):W2 (vd g i a ρ) k:=by obtain⟨d,u,h,b,q,x,m,t,p⟩:=w;exact⟨_,_,SW o h q t,p⟩
def Rj(w:W2 (e ρ) λd ρ=>∃m:Nat,d=.int m/\m<=100/\kl ((aZ m).map λj:Nat=>D.int j) ρ):W2 (iR1 e ρ) kl:=by obtain⟨_,b,h,m,rfl,l,p⟩:=w;refine⟨_,b,?_,p⟩;unfold iR1;rw[h];dsimp only;rw[ak (by omega),iy];unfold Ip;simp
def Da{b:List L4.D}(h:e ρ=U (.cf b,ρ')):iL e ρ=U (b,ρ'):=by unfold iL;rw[h]
def s_g{R:aM->Prop}(p:R ρ)(k:∀ρ,R ρ->Ws (f ρ) n r):Ws (f ρ) n r:=k _ p
def PN(R:aM->Prop)(w:Ws (f ρ) R r)(k:∀ρ,R ρ->Ws (g ρ) n r):Ws (bx f g ρ) n r:=by
 refine uB ?_;obtain⟨o,e,p⟩:=w;refine⟨o,e,?_⟩;cases o with
 |nx ρ=>exact k ρ p
 |_=>exact p
def l0{h:FS}(q:c ρ=U (δ,ρ'))(w:Ws (g ρ') n r):Ws (bx (ff c h uz) g ρ) n r:=uB (s_n q (wL Z w))
def tm{h:FS}(q:c ρ=U (γ,ρ'))(w:Ws (f ρ') (λρ=>Ws (g ρ) n r) r):Ws (bx (ff c f h) g ρ) n r:=uB (s_y q w)
def w_iL(w:W2 (e ρ) λd ρ=>∃b,d=.cf b/\kl b ρ):W2 (iL e ρ) kl:=by obtain⟨_,ρ',h,b,rfl,p⟩:=w;exact⟨b,_,Da h,p⟩
def w_oA{k:Option Int->aM->Prop}(w:W2 (e ρ) λd ρ=>∃j,d=.int j/\k (U j) ρ):W2 (oAt e ρ) k:=by obtain⟨_,ρ',h,j,rfl,p⟩:=w;exact⟨U j,ρ',by unfold oAt;rw[h],p⟩
def w_sx{lo j:FO}(w:W2 (e ρ) λd ρ=>∃b,d=.cf b/\W2 (lo ρ) λl ρ=>W2 (j ρ) λu ρ=>kl (p? b l u) ρ):W2 (Ht e lo j ρ) kl:=by obtain⟨_,q,h,b,rfl,l,t,m,u,x,o,p⟩:=w;exact⟨_,_,by unfold Ht;rw[h];simp only[m,o],p⟩
def w_ls(w:W2 (a ρ) λd ρ=>d.length<=1000/\kl d ρ):W2 (uM a ρ) kl:=by obtain⟨d,ρ',h,q,p⟩:=w;exact⟨_,_,Zs h q,p⟩
def w_an(w:W2 (c ρ) λb ρ=>(b=γ->W2 (c' ρ) kb)/\(b=δ->kb δ ρ)):W2 (BV c c' ρ) kb:=by
 obtain⟨b,d,h,y,z⟩:=w;unfold BV;rw[h];cases b with
 |true=>exact y Z
 |false=>exact⟨_,_,Z,z Z⟩
def w_or(w:W2 (c ρ) λb ρ=>(b=δ->W2 (c' ρ) kb)/\(b=γ->kb γ ρ)):W2 (w9 c c' ρ) kb:=by
 obtain⟨b,d,h,y,z⟩:=w;unfold w9;rw[h];cases b with
 |false=>exact y Z
 |true=>exact⟨_,_,Z,z Z⟩
theorem s_fl{a:FG}{J:Nat->aM->Prop}:∀(b:List L4.D) (i:Nat) (ρ:aM),J i ρ->(∀m d ρ,b[m]?=U d->J (i+m) ρ->∃l,a d ρ=U l/\Ws (f l) (J (i+m+1)) r)->Ws (i0 a f b ρ) (J (i+b.length)) r
 |[],i,ρ,j,_=>⟨_,Z,j⟩
 |d::b,i,ρ,j,st=>by
  obtain⟨l,t,o,u,p⟩:=st 0 d ρ Z j;unfold Ws i0;simp only[t,u];cases o with
  |nx q=>rw[aS,show i+(b.length+1)=i+1+b.length by omega];exact s_fl b (i+1) q p λm d ρ h j=>by rw[show i+1+m=i+(m+1) by omega]at j ⊢;exact st (m+1) d ρ h j
  |rt d ρ=>exact⟨_,Z,p⟩
  |rn d ρ=>exact⟨_,Z,p⟩
  |_=>exact p.elim
def JT{s:FA}{a:FG}(w:W2 (s ρ) λb ρ=>∃J:Nat->aM->Prop,J 0 ρ/\(∀m d ρ,b[m]?=U d->J m ρ->∃ρ1,a d ρ=U ρ1/\Ws (f ρ1) (J (m+1)) r)/\∀ρ,J b.length ρ->n ρ):Ws (xH s a f ρ) n r:=by
 obtain⟨b,ρ',q,J,j,st,fin⟩:=w;obtain⟨o,e,p⟩:=s_fl b 0 ρ' j λm d ρ h j=>by rw[iO]at j ⊢;exact st m d ρ h j
 rw[iO]at p;refine⟨o,(xE q).t e,?_⟩;cases o with
 |nx ρ=>exact fin ρ p
 |_=>exact p
def w_cp{t:Nat}{er:List Nat}{s:FA}{g:FG}(w:W2 (s ρ) λp ρ=>p.length<=1000/\∃J:List L4.D->aM->Prop,J [] ρ/\(∀xs d ρ,J xs ρ->∃m,g d (EB t er ρ)=U m/\W2 (e m) λx b=>∃o,xI er (b.drop t) ρ=U o/\J (xs++[x]) o)/\∀xs ρ,xs.length=p.length->J xs ρ->kl xs ρ):W2 (uA t er s g ve e ρ) kl:=by
 obtain⟨p,ρ',q,C,J,j,st,fin⟩:=w;have key:∀(l:List L4.D) (xs:List L4.D) (ρ:aM),J xs ρ->∃h b,Ae t er g ve e l ρ=U (h,b)/\h.length=l.length/\J (xs++h) b:=λl=>by
  induction l with
  |nil=>intro xs ρ j;exact⟨[],ρ,Z,Z,by rw[bO];exact j⟩
  |cons d l E=>intro xs ρ j;obtain⟨m,z,x,b,u,o,A,G⟩:=st xs d ρ j;obtain⟨h,y,B,M,H⟩:=E _ _ G;refine⟨x::h,y,?_,by rw[aS,aS,M],by rw[pI];exact H⟩;unfold Ae;rw[z];simp only[ve,u,A,B]
 obtain⟨h,b,u,I,F⟩:=key p [] ρ' j;exact⟨h,b,(HE q C).t u,fin h b I F⟩
end
section
variable{es:List L4.D}{k:L4.D->aM->Prop}{s:aM}{e a:FE}
def Ju{h n:Nat}{b:FS}{c:List L4.D}{k:L4.D->List L4.D->Prop}(f:c.length=h)(w:Ws (b (stM n es c)) (λv=>False) (Rk k)):W2 (tj h n b es c) k:=by
 obtain⟨o,e,p⟩:=w;cases o with
 |rt d i=>obtain⟨es,s,rfl,p⟩:=p;exact⟨d,es,N3 f e Z,p⟩
 |rn d i=>obtain⟨es,s,rfl,p⟩:=p;exact⟨_,es,Zu f e Z,p⟩
 |_=>exact p.elim
def W3{h n:Nat}{b:FS}{c:List L4.D}{Q:L4.D->Prop}(f:c.length=h)(w:Ws (b (rl n c)) (λv=>False) λd v=>Q d):∃d,e0 h n b c=U d/\Q d:=by
 obtain⟨o,e,p⟩:=w;cases o with
 |rt d i=>exact⟨d,uv f e,p⟩
 |rn d i=>exact⟨_,DX f e,p⟩
 |_=>exact p.elim
def v7{f n:Nat}{b:FS}{c:List L4.D}{z:L4.D}(h:c.length=f)(w:Ws (b (rl n c)) (λv=>False) λd v=>d=z):e0 f n b c=U z:=by obtain⟨_,e,rfl⟩:=W3 h w;exact e
def Uw{b:Int}(h:vB es)(l:a (.pm es::s)=U (.int b,.pm es::s))(j:0<b)(q:b<=1000)(w:∀m es,0<=m->m<b->vB es->k (.int m) (.pm es::s)):W2 (vd ui 0 (a1 a) (.pm es::s)) k:=by obtain⟨d,c,x,o,p,f⟩:=dgx (i:=0) (λes=>.pm es::s) (λv=>Z) (λv v=>Z) l h j (by omega);exact⟨_,_,x,w d c o p f⟩
def Du{b:Nat}(h:vB es)(c:a (.pm es::s)=U (.int b,.pm es::s))(f:0<b)(i:b<=1000)(w:∀(m:Nat) es,m<b->vB es->k (.int m) (.pm es::s)):W2 (vd ui 0 (a1 a) (.pm es::s)) k:=by refine Uw h c (by omega) (by omega) λm es d j h=>?_;obtain⟨m,rfl⟩:=kM d;exact w m es (by omega) h
def HA{L:List L4.D}(h:vB es)(m:e (.pm es::s)=U (.cf L,.pm es::s))(l:a (.pm es::s)=U (.int L.length,.pm es::s))(f:L≠[])(j:L.length<=1000)(w:∀d∈L,∀es,vB es->k d (.pm es::s)):W2 (c2 gd e (vd ui 0 (a1 a)) (.pm es::s)) k:=by obtain⟨d,hd,b,x,c⟩:=pk (i:=0) (λes=>.pm es::s) (λv=>Z) (λv v=>Z) m l h f j;exact⟨_,_,x,w d hd b c⟩
def w_iS{L:List L4.D}{j:Nat}(h:vB es)(f:∀es,v3 (.pm es::s) j=U L)(o:cV j (cZ Sl.bor (.pm es::s))=U (.cf L,cZ Sl.bor (.pm es::s)))(l:L≠[])(q:L.length<=1000)(w:∀d∈L,∀es,vB es->k d (.pm es::s)):W2 (NX j (vd ui 0 (a1 (Cd (c1 xc (cV j))))) (.pm es::s)) k:=by have p:0<L.length:=oF.2 l;obtain⟨_,_,x,m,b,rfl,rfl,c,i⟩:=Du (k:=λd t=>∃(m:Nat) (es:List L4.D),d=.int m/\t=.pm es::s/\m<L.length/\vB es) h (IA (uY (g:=xc) o Z) Z) p (by omega) λm es c h=>⟨m,es,Z,Z,c,h⟩;refine⟨L[m],_,?_,w _ (fR c) b i⟩;unfold NX;rw[f es];simp only[x,f b];rw[show Cc L (m:Int)=U L[m] from En (bg c)]
end
section
variable{T:List Th}{M:List Mk}{dk:aE}{W:List Wy}{V:List Vb}{f:Str}{n:Nat}
def adG(g:et T M dk W)(c:f∈pa){a b:Str}(e:Tm f (T.map Th.n) a)(h:Tm f (rb T) b):Tk (j2 T M dk W V) f n (atO a b):=xZ Z Z Z (by
 let d:aM:=[.I (j2 T M dk W V),.I (.str f),.I (atO a b)];refine uv (ρ:=d) Z ?_;unfold vG;exact uP ((uV Z).t (uF ((ux (uf Z (BR g c e))).t (uf Z (Hm g c h))))))
def xA{c:FT}{e:FS}{ρ:aM}{h:FS}(q:c ρ=U (δ,ρ)):bx (ff c e uz) h ρ=h ρ:=uh ((vh q))
def aby(g:et T M dk W)(d:f∈pa){a:Str}(c:Tm f (T.map Th.n) a):Tk (j2 T M dk W V) f n (hsO a):=xZ Z Z Z (by
 let b:aM:=[.I (j2 T M dk W V),.I (.str f),.I (hsO a)];refine uv (ρ:=b) Z ?_;unfold vG;exact(xA Z).t (uP ((uV Z).t (uF (uf Z (BR g d c))))))
def W4(g:et T M dk W)(d:f∈pa){a:Str}(c:Tm f (T.map Th.n) a):Tk (j2 T M dk W V) f n (seO a):=xZ Z Z Z (by
 let b:aM:=[.I (j2 T M dk W V),.I (.str f),.I (seO a)];refine uv (ρ:=b) Z ?_;unfold vG;exact(xA Z).t (uP ((uV Z).t (uF (uf Z (BR g d c))))))
def W5(g:et T M dk W)(d:f∈pa){q:Str×Int}(h:Mt T M f q){v:Int}(b:0<=v)(c:v<=q.2):Tk (j2 T M dk W V) f n (mkO q.1 v):=xZ Z Z Z (by
 let a:aM:=[.I (j2 T M dk W V),.I (.str f),.I (mkO q.1 v)];refine uv (ρ:=a) Z ?_;unfold vG;exact(xA Z).t ((xA Z).t (uP ((uV Z).t (uF (uf Z (DR g d h b c)))))))
def W6(g:et T M dk W)(e:f∈pa){a k:Str}(d:Tm f (T.map Th.n) a)(h:k∈(["plain", "fixed", "box", "lamp", "room", "you"]:aE)):Tk (j2 T M dk W V) f n (kiO a k):=xZ Z Z Z (by
 let b:aM:=[.I (j2 T M dk W V),.I (.str f),.I (kiO a k)];refine uv (ρ:=b) Z ?_;unfold vG;have c:u7 [.str k,Dl]=U (.Y γ):=BQ (aR.1 (show ((["plain", "fixed", "box", "lamp", "room", "you"]:aE).all λx=>isT (u7 [.str x,Dl]))=γ by kernel_rfl) k h);exact(xA Z).t ((xA Z).t ((xA Z).t (uP ((uV Z).t (uF ((ux (uf Z (BR g e d))).t (uf Z c))))))))
def W7{w:L4.D}{x:Str}(c:x∈(["north", "up", "outside", "down"]:aE)):Tk w "way" n (woO x):=xZ Z Z Z (by
 let a:aM:=[.I w,.I (.str "way"),.I (woO x)];refine uv (ρ:=a) Z ?_;unfold vG;have b:xp [.str x]=U (.Y γ):=BQ (aR.1 (show ((["north", "up", "outside", "down"]:aE).all λx=>isT (xp [.str x]))=γ by kernel_rfl) x c);exact(xA Z).t ((xA Z).t ((xA Z).t ((xA Z).t (uP ((uV Z).t (uF ((ux Z).t (uf Z b)))))))))
def Ux{w:L4.D}:Tk w f n liO:=xZ Z Z Z (by kernel_rfl)
def Dd(w:L4.D)(f:Str)(d:L4.D):Prop:=Hs 16 14 d=γ/\F5 [w,.str f,d]=U (.Y γ)
def abz(g:et T M dk W)(d:f∈pa){q:Str×Int}(h:Mt T M f q){v:Int}(b:0<=v)(c:v<=q.2):Dd (j2 T M dk W V) f (puO q.1 v):=⟨Z,by
 let a:aM:=[.I (j2 T M dk W V),.I (.str f),.I (puO q.1 v)];refine uv (ρ:=a) Z ?_;unfold Dn;exact uP ((uV Z).t (uF (uf Z (DR g d h b c))))⟩
def PQ(g:et T M dk W)(i:f∈pa){a b:Str}(m:Mv T f a)(o:Tm f (rb T) b)(p:a="me" -> ∃t∈T,t.n=b/\t.k=.room):Dd (j2 T M dk W V) f (mvO a b):=⟨Z,by
 let c:aM:=[.I (j2 T M dk W V),.I (.str f),.I (mvO a b)];have e:F4 [j2 T M dk W V,.str f,mvO a b]=U (.Y γ):=by
  refine uv (ρ:=c) Z ?_;unfold F3;refine(xA (zy (wY (vp (uf Z (Nh g i m)))) (wY (vp (uf Z (Hm g i o)))))).t (uF ?_);have d:c2 (fl γ) (c1 (uo A5 "term") aj) (uG zq "you" ae uN) c=U (.Y (!decide (a="me")),c):=ur Z Z (we γ a "me");by_cases h:a="me"
  .obtain⟨t,q,j,l⟩:=p h;rw[br h]at d;refine(Ft d).t (uf (ds:=[j2 T M dk W V,.str b,.str Kd.room.s]) Z ?_);rw[<-j,XW g q .room,br l]
  .rw[bj h]at d;exact LO d
 refine uv (ρ:=c) Z ?_;unfold Dn;exact(xA Z).t (uF ((ux Z).t (uf Z e)))⟩
end
inductive Ts(T:List Th) (M:List Mk) (f:Str):Nat->L4.D->Prop
 |ats {n:Nat} {a b:Str} (ha:Tm f (T.map Th.n) a) (hb:Tm f (rb T) b):Ts T M f n (atO a b)
 |has {n:Nat} {a:Str} (ha:Tm f (T.map Th.n) a):Ts T M f n (hsO a)
 |seen {n:Nat} {a:Str} (ha:Tm f (T.map Th.n) a):Ts T M f n (seO a)
 |mark {n:Nat} {q:Str×Int} {v:Int} (h:Mt T M f q):Ts T M f n (mkO q.1 v)
 |kind {n:Nat} {a k:Str} (ha:Tm f (T.map Th.n) a):Ts T M f n (kiO a k)
 |word {n:Nat} {x:Str} (hf:f="way"):Ts T M f n (woO x)
 |lit {n:Nat}:Ts T M f n liO
 |no {n:Nat} {d:L4.D} (h:Ts T M f n d):Ts T M f (n+1) (noO d)
 |bo {n:Nat} {d e:L4.D} (h:Ts T M f n d) (h':Ts T M f n e):Ts T M f (n+1) (boO d e)
def Tq(T:List Th)(M:List Mk)(w:L4.D)(f:Str)(n:Nat)(d:L4.D):Prop:=Tk w f n d/\Ts T M f n d
def Mr(T:List Th)(M:List Mk)(m:Str->Int):Prop:=∀q∈mP T M,0<=m q.1/\m q.1<=q.2
inductive Ds(T:List Th) (M:List Mk) (f:Str):L4.D->Prop
 |put {q:Str×Int} {v:Int} (h:Mt T M f q) (h0:0<=v):Ds T M f (puO q.1 v)
 |Z? {a b:Str} (ha:Mv T f a) (hb:Tm f (rb T) b) (hm:a="me" -> ∃t∈T,t.n=b/\t.k=.room):Ds T M f (mvO a b)
def Dq(T:List Th)(M:List Mk)(w:L4.D)(f:Str)(d:L4.D):Prop:=Dd w f d/\Ds T M f d
def yX(T:List Th)(c:T.length<=900)(a:aE)(p:Kd->Bool)(b:∀k:Kd,decide (k.s∈a)=p k):vM [TD T,.cf (a.map D.str)]=U (((T.filter λt=>p t.k).map Th.n).map D.str):=by let K:L4.D:=.cf (a.map D.str);let d:aM:=[.I (TD T),.I K];refine(zz Z (wX (ze e? (λt=>D.str t.n) (λt=>p t.k) T Z (by omega) λt v=>⟨[.I (e? t),.I K],[.I (e? t),.I K],Z,vp (ur Z Z ((wM δ _ _).t (by rw[<-b t.k];rfl))),λv=>⟨_,uY Z (zX t),Z⟩,λv=>Z⟩))).t ?_;rw[bf];rfl
def Jv{P:Kd->Prop}(a:P .room)(b:P .you)(c:P .plain)(d:P .fixed)(e:P .box)(f:P .lamp):∀k,P k:=λk=>by cases k<;>assumption
def OA:∀k:Kd,decide (k.s∈(["room"]:aE))=decide (k=.room):=Jv Z Z Z Z Z Z
def Uy:∀k:Kd,decide (k.s∈(["room", "box", "you"]:aE))=k.hd:=Jv Z Z Z Z Z Z
def Uz:∀k:Kd,decide (k.s∈(["box", "lamp"]:aE))=k.mk:=Jv Z Z Z Z Z Z
def n_pl:∀k:Kd,decide (k.s∈(["plain", "fixed", "box", "lamp"]:aE))=k.pl:=Jv Z Z Z Z Z Z
def eq_nil{b:List L4.D}{l:List L3.Dq}(h:Bo b=U l)(hd:wz l<=19):fl δ (.cf b) (.cf [])=U (.Y (decide (b=[]))):=by
 cases b with
 |nil=>rfl
 |cons x c=>
  rw[bj (List.cons_ne_nil x c)];obtain⟨y,a,rfl⟩:∃y a,l=y::a:=by
   unfold Bo at h;split at h
   .split at h
    .cases h;exact⟨_,_,Z⟩
    .cases h
   .cases h
  have d:Ln δ (.cf (x::c)) (.cf [])=O:=rfl;have e:B? (.cf (x::c))=U (.cf (y::a)):=by unfold B?;rw[h]
  have f:mn (.cf (y::a))<=20:=by rw[mn];omega
  unfold fl;rw[d];show QK δ _ _=_;unfold QK;rw[e,show B? (.cf [])=U (.cf []) from Z];show (if Sd (.cf (y::a)) (.cf [])&&decide (mn (.cf (y::a))<=20)&&decide (mn (.cf [])<=20)then U (D.Y (x? (.cf (y::a)) (.cf [])))else O)=_;rw[br f];rfl
theorem Gb:∀l:aE,Bo (l.map D.str)=U (l.map L3.Dq.str)/\wz (l.map L3.Dq.str)=0
 |[]=>⟨Z,Z⟩
 |x::l=>by obtain⟨a,b⟩:=Gb l;rw[aU,aU];refine⟨by unfold Bo;rw[a];rfl,by unfold wz;rw[b];unfold mn;rfl⟩
def pD(q:Str×Int):L4.D:=.ef [.str q.1,.int q.2]
theorem Nj:∀l:List (Str×Int),∃m,Bo (l.map pD)=U m/\wz m<=1
 |[]=>⟨[],Z,by decide⟩
 |x::l=>by obtain⟨m,a,b⟩:=Nj l;refine⟨.ef [.str x.1,.int x.2]::m,by rw[aU];unfold Bo;rw[a];rfl,?_⟩;unfold wz;exact Nat.max_le.2 ⟨aL 1,b⟩
section
variable{T:List Th}{M:List Mk}{dk:aE}{W:List Wy}{V:List Vb}{f:Str}{es:List L4.D}{k:L4.D->List L4.D->Prop}
def w_tm{N:aE}(h:vB es)(i:f∈pa)(o:N.length<=100)(w:∀x es,vB es->Tm f N x->k (.str x) es):W2 (wj es [.str f,.cf (N.map D.str)]) k:=by
 let Q:L4.D->Prop:=λd=>∃x,d=.str x/\Tm f N x;have fin:∀L:List L4.D,L≠[]->L.length<=110->(∀d∈L,Q d)->Ws (uq (c2 gd aA (vd ui 0 kB)) [.pm es,.I (.str f),.I (.cf (N.map D.str)),.I (.cf L)]) (λv=>False) (Rk k):=λL j l a=>vg (HA h Z Z j (by omega) λd hd es h=>by
  obtain⟨x,rfl,t⟩:=a d hd;exact⟨es,_,Z,w x es h t⟩)
 have c:∀{X:List L4.D} {y:L4.D},(∀d∈X,Q d)->Q y->∀d∈X++[y,y],Q d:=λa b d hd=>(aO.1 hd).elim (a d) λh=>by rw[show d=_ by simpa using h];exact b
 have e:∀d∈N.map D.str++[.str "here"],Q d:=λd hd=>(aO.1 hd).elim (λh=>by
  obtain⟨x,m,rfl⟩:=av.1 h;exact⟨x,Z,.inl m⟩) λh=>⟨"here", bh.1 h,.inr (.inl Z)⟩
 refine Ju Z (uB (uZ (Ra (uj (vZ Z Z (by simp;omega)) ?_))));simp only[pa,aJ,ck,or_false]at i;rcases i with rfl|rfl|rfl|rfl
 .exact tm Z (uZ (Ra (uj (vZ Z Z (by simp;omega)) (l0 Z (fin _ (by simp) (by simp;omega) (c e ⟨_,Z,.inr (.inr (.inl ⟨Z,by decide⟩))⟩))))))
 .exact tm Z (uZ (Ra (uj (vZ Z Z (by simp;omega)) (tm Z (uZ (Ra (uj (vZ Z Z (by simp;omega)) (fin _ (by simp) (by simp;omega) (c (c e ⟨_,Z,.inr (.inr (.inl ⟨Z,by decide⟩))⟩) ⟨_,Z,.inr (.inr (.inr ⟨Z,Z⟩))⟩)))))))))
 all_goals exact l0 Z (l0 Z (fin _ (by simp) (by simp;omega) e))
def Rm{N:aE}{s:aM}{i:Nat}{k:L4.D->aM->Prop}(h:vB es)(a:f∈pa)(c:N.length<=100)(b:cV i (.pm es::.I (.str f)::s)=U (.cf (N.map D.str),.pm es::.I (.str f)::s))(w:∀x es,vB es->Tm f N x->k (.str x) (.pm es::.I (.str f)::s)):W2 (vd wj 0 (bt ai (a1 (cV i))) (.pm es::.I (.str f)::s)) k:=Hy Z (uj (um Z (um b Z)) ⟨_,Z,w_tm h a c w⟩)
def okQ(T:List Th)(M:List Mk)(f:Str)(q:Str×Int):Prop:=Mt T M f q/\0<=q.2/\q.2<=3
def w_mm(g:et T M dk W)(C:f∈pa)(h:vB es)(w:∀r es,vB es->(r=.X\/∃q,r=pD q/\okQ T M f q)->k r es):W2 (xy es [.str f,TD T,MD M]) k:=by
 have o:=g.len;have p:=g.m4;let K:=T.filter λt=>t.k.mk;have lK:K.length<=13:=bF (cH _ _) o;let R:Nat->aM->Prop:=λn A=>∃L:List (Str×Int),A=[.pm es,.I (.str f),.I (TD T),.I (MD M),.ls (L.map pD)]/\L.length<=n/\∀q∈L,okQ T M f q;have add:∀{n:Nat} {L X:List (Str×Int)},L.length<=n->(∀q∈L,okQ T M f q)->(∀q∈X,okQ T M f q)->R (n+X.length) [.pm es,.I (.str f),.I (TD T),.I (MD M),.ls (L.map pD++X.map pD)]:=λ{n L X} l a b=>⟨L++X,by rw[bu],by rw[aF];omega,λq c=>(aO.1 c).elim (a q) (b q)⟩;refine Ju Z (uB (W1 (uj (vZ (vE (wC M' (λm=>pD (m.n,m.mo)) M Z (by omega) λm s=>⟨_,_,Z,Z,Z⟩)) (vE (wC D.str (λx=>pD (x,1)) (K.map Th.n) (Da (vE (uf Z (yX T (by omega) ["box", "lamp"] Kd.mk Uz)))) (by rw[ah];omega) λx s=>⟨_,_,Z,Z,Z⟩)) (by simp only[ah];omega)) ?_)));refine s_g (R:=R 17) ⟨M.map (λm=>(m.n,m.mo))++K.map λt=>(t.n,1),by simp only[bu,bf];rfl,by simp only[aF,ah];omega,λq c=>?_⟩ ?_
 .rcases aO.1 c with c|c
  .obtain⟨m,i,rfl⟩:=av.1 c;obtain⟨B,j,_⟩:=g.mo m i;exact⟨.inl (bC _ (av.2 ⟨m,i,Z⟩)),by show 0<=m.mo;omega,j⟩
  .obtain⟨t,u,rfl⟩:=av.1 c;exact⟨.inl (bK _ (av.2 ⟨t,u,Z⟩)),(by decide:(0:Int)<=1),(by decide:(1:Int)<=3)⟩
 rintro _ ⟨L,rfl,l,a⟩;refine PN (R 19) (Ga (uj (vp (ur Z Z (wM δ f ["one", "two"]))) ⟨λb=>W1 (uj (vZ Z Z (by simp;omega)) (add l a (X:=[("it", 3),("it", 1)]) λq c=>?_)),λs=>wL Z ⟨L,Z,by omega,a⟩⟩)) ?_
 .have y:∀v:Int,0<=v->v<=3->okQ T M f ("it", v):=λv a e=>⟨.inr ⟨.inl ⟨Z,bq b⟩,e⟩,a,e⟩;simp only[aJ,ck,or_false]at c;rcases c with rfl|rfl<;>exact y _ (by decide) (by decide)
 rintro _ ⟨L,rfl,l,a⟩;refine PN (R 20) (Ga (uj (vp (ur Z Z (we δ f "two"))) ⟨λb=>Oy (Oz Z (uj Z ⟨_,Z,by simp;omega,add l a (X:=[("other", 3)]) λq c=>?_⟩)),λs=>wL Z ⟨L,Z,by omega,a⟩⟩)) ?_
 .rw[bh.1 c];exact⟨.inr ⟨.inr ⟨Z,bq b⟩,by decide⟩,by decide,by decide⟩
 rintro _ ⟨L,rfl,l,a⟩;obtain⟨m,z,E⟩:=Nj L;exact uB (Ga (uj (Pa (vp (ur Z Z (eq_nil z (by omega))))) ⟨λs=>vg (uj Z ⟨_,_,Z,w _ _ h (.inl Z)⟩),λb=>wL Z (vg (w_iS h (λs=>Z) Z (of_decide_eq_false b) (by simp;omega) λd hd es h=>by
  obtain⟨q,c,rfl⟩:=av.1 hd;exact⟨_,_,Z,w _ _ h (.inr ⟨q,Z,a q c⟩)⟩))⟩))
def w_mr(g:et T M dk W)(a:f∈pa)(h:vB es)(w:∀d es,vB es->(∀n,Tq T M (j2 T M dk W V) f n d)->k d es):W2 (yL es [.str f,TD T,MD M]) k:=by
 refine Ju Z (uB (uZ (Hy Z (uj Z ⟨_,Z,w_mm g a h λr es h c=>?_⟩))));rcases c with rfl|⟨q,rfl,b,i,q3⟩
 .exact tm Z (vg (uj Z ⟨_,_,Z,w _ _ h λn=>⟨Ux,.lit⟩⟩))
 .exact l0 Z (vg (rf (wR (uj Z (wR (Uw h Z (by omega) (by omega) λv es e j h=>uj Z (uj Z ⟨_,_,Z,w _ _ h λn=>⟨W5 g a b e (by omega),.mark b⟩⟩)))))))
end
section
variable{T:List Th}{M:List Mk}{dk:aE}{W:List Wy}{V:List Vb}{f:Str}{es:List L4.D}{k:L4.D->List L4.D->Prop}
def abA(n:Nat):∃b:Int,(b=8\/(b=10/\∃m,n=m+1))/\∀a:aM,cV 4 a=U (.int (n:Nat),a)->c2 xb i8 (c2 ye cF (c1 NZ (c2 MH aH aX))) a=U (.int b,a):=by
 have c:∀a:aM,cV 4 a=U (.int (n:Nat),a)->c2 MH aH aX a=U (.Y (decide ((0:Int)<(n:Nat))),a):=λa h=>ur h Z Z;cases n with
 |zero=>exact⟨8,.inl Z,λa h=>ur Z (ur Z (uY (c a h) Z) Z) Z⟩
 |succ m=>exact⟨10,.inr ⟨Z,m,Z⟩,λa h=>ur Z (ur Z (uY ((c a h).t (by rw[br (by omega)])) Z) Z) Z⟩
def c8{v:Int}(h:0<=v):v=0\/v=1\/v=2\/v=3\/v=4\/v=5\/v=6\/v=7\/8<=v:=by
 obtain⟨n,rfl⟩:=kM h;rcases n with _|_|_|_|_|_|_|_|n
 iterate 8 decide
 iterate 8 right
 exact Int.ofNat_le.2 (Nat.le_add_left 8 n)
def w_tb(g:et T M dk W)(i:f∈pa)(n:Nat)(o:List L4.D->List L4.D->Option (L4.D×List L4.D))(A:∀m,n=m+1->∀{es} {k:L4.D->List L4.D->Prop},vB es->(∀d es,vB es->Tq T M (j2 T M dk W V) f m d->k d es)->W2 (o es [.str f,TD T,MD M,.int (m:Nat)]) k)(h:vB es)(w:∀d es,vB es->Tq T M (j2 T M dk W V) f n d->k d es):
  W2 (tj 4 10 (yW o) es [.str f,TD T,MD M,.int (n:Nat)]) k:=by
 have F:=g.len;have lP:(T.map Th.n).length<=100:=by rw[ah];omega
 have lH:(rb T).length<=100:=by unfold rb;rw[ah];exact bF (cH _ _) (by omega)
 refine Ju Z (uB (uZ (Ra (uj (wC e? (λt=>D.str t.n) T Z (by omega) λt _=>⟨_,_,Z,Z,Z⟩) ?_))));rw[show (T.map λt=>D.str t.n)=(T.map Th.n).map D.str by rw[bf];rfl];refine uB (uZ (Ra (uj (uf Z (yX T (by omega) ["room", "box", "you"] Kd.hd Uy)) ?_)));obtain⟨b,u,r⟩:=abA n;refine uB (uZ (Uw h (r _ Z) (by omega) (by omega) λv es B C h=>?_));have j:∀{d es s},vB es->Tq T M (j2 T M dk W V) f n d->Rk k d (.pm es::s):=λ{d es s} h t=>⟨es,s,Z,w d es h t⟩;have mk:∀{es s},vB es->W2 (vd yL 0 eU (.pm es::.I (.str f)::.I (TD T)::.I (MD M)::s)) (Rk k):=λh=>Hy Z (uj Z ⟨_,Z,w_mr g i h λd es h t=>j h (t n)⟩);have p:∀{m:Nat} {es s k},n=m+1->vB es->(∀d es,vB es->Tq T M (j2 T M dk W V) f m d->k d (.pm es::.I (.str f)::.I (TD T)::.I (MD M)::.I (.int (n:Nat))::s))->W2 (vd o 0 kh (.pm es::.I (.str f)::.I (TD T)::.I (MD M)::.I (.int (n:Nat))::s)) k:=λ{m es s k} e h w=>Hy Z (uj (show _=U ([.str f,TD T,MD M,.int (((n:Nat):Int) - 1)],_) from Z) ⟨_,Z,by rw[show ((n:Nat):Int) - 1=(m:Nat) by omega];exact A m e h w⟩);obtain rfl|rfl|rfl|rfl|rfl|rfl|rfl|rfl|G:=c8 B
 iterate 2 exact tm Z (vg (rf (wR (Rm h i lP Z λx es h a=>wR (Rm h i lH Z λy es h l=>uj Z (uj Z (j h ⟨adG g i a l,.ats a l⟩)))))))
 .exact l0 Z (tm Z (vg (rf (wR (Rm h i lP Z λx es h a=>uj Z (uj Z (j h ⟨aby g i a,.has a⟩)))))))
 .exact l0 Z (l0 Z (tm Z (vg (rf (wR (Rm h i lP Z λx es h a=>uj Z (uj Z (j h ⟨W4 g i a,.seen a⟩))))))))
 .exact l0 Z (l0 Z (l0 Z (tm Z (uB (wL Z (vg (rf (wR (Rm h i lP Z λx es h a=>wR (HA (L:=(["plain", "fixed", "box", "lamp", "room", "you"]:aE).map D.str) h Z Z (by decide) (by decide) λd hd es h=>by
   obtain⟨y,l,rfl⟩:=av.1 hd;exact uj Z (uj Z (j h ⟨W6 g i a l,.kind a⟩))))))))))))
 .iterate 4 refine l0 Z ?_
  exact tm Z (vg (uj Z (j h ⟨Ux,.lit⟩)))
 .iterate 5 refine l0 Z ?_
  refine uB (Ga (w_an (uj Z ⟨λ_=>uj (vp (ur Z Z (we δ f "way"))) ⟨λc=>?_,λ_=>wL Z (tm Z (vg (mk h)))⟩,λz=>by cases z⟩)));have c:=bq c;exact vg (rf (wR (HA (L:=(["north", "up", "outside", "down"]:aE).map D.str) h Z Z (by decide) (by decide) λd hd es h=>by
   obtain⟨y,l,rfl⟩:=av.1 hd;exact uj Z (uj Z (j h ⟨by rw[c];exact W7 l,.word c⟩)))))
 .iterate 6 refine l0 Z ?_
  exact tm Z (vg (mk h))
 .obtain⟨m,e⟩:∃m,n=m+1:=by
   rcases u with rfl|⟨_,h⟩
   .exact ar C (by omega)
   .exact h
  obtain rfl|rfl:v=8\/v=9:=by omega
  .iterate 7 refine l0 Z ?_
   exact tm Z (vg (rf (wR (p e h λd es h t=>uj Z (uj Z (j h (by rw[e];exact⟨Uv t.1,.no t.2⟩)))))))
  .iterate 8 refine l0 Z ?_
   exact uB (uZ (p e h λd es h t=>vg (rf (wR (uj Z (wR (p e h λE es h q=>uj Z (uj Z (j h (by rw[e];exact⟨Rg t.1 q.1,.bo t.2 q.2⟩))))))))))
theorem w_ts(g:et T M dk W)(a:f∈pa):∀(n:Nat) {es:List L4.D} {k:L4.D->List L4.D->Prop},vB es->(∀d es,vB es->Tq T M (j2 T M dk W V) f n d->k d es)->W2 (wm (n+1) es [.str f,TD T,MD M,.int (n:Nat)]) k
 |0,es,k,h,w=>w_tb g a 0 (wm 0) (λm b=>by cases b) h w
 |n+1,es,k,h,w=>w_tb g a (n+1) (wm (n+1)) (λm b es k h w=>by cases b;exact w_ts g a n h w) h w
end
section
variable{T:List Th}{M:List Mk}{dk:aE}{W:List Wy}{V:List Vb}{f:Str}{es:List L4.D}{k:L4.D->List L4.D->Prop}
def me_T(g:et T M dk W):∃t∈T,t.n="me" /\ t.k=.you:=by
 have h:("me" : Str)∈(T.filter λt=>decide (t.k=.you)).map Th.n:=by rw[g.y1];exact bh.2 Z
 obtain⟨t,a,e⟩:=av.1 h;exact⟨t,(aT.1 a).1,e,bq (aT.1 a).2⟩
def rm_T{x:Str}(h:x∈n9 T):∃t∈T,t.n=x/\t.k=.room:=by obtain⟨t,a,rfl⟩:=av.1 h;exact⟨t,(aT.1 a).1,Z,bq (aT.1 a).2⟩
def XX{x:Str}(h:x∈n9 T):x∈rb T:=by obtain⟨t,b,rfl,a⟩:=rm_T h;exact cB (aT.2 ⟨b,by rw[a];rfl⟩)
def adK(g:et T M dk W):n9 T≠[]:=λz=>by have:=g.r1;unfold n9 at z;rw[oG]at z;rw[z]at this;exact ar this (by decide)
def Mw(T:List Th)(f:Str)(L:aE):Prop:=∀x∈L,Mv T f x/\x≠"me"
def adL(g:et T M dk W):Mw T f ((T.filter λt=>t.k.pl).map Th.n):=λx d=>by obtain⟨t,c,rfl⟩:=av.1 d;obtain⟨b,a⟩:=aT.1 c;refine⟨.inl ⟨t,b,Z,λz=>by rw[z]at a;cases a⟩,?_⟩;have:=(g.wd t b).2 a;exact bq (aR.1 (show (ub.all λq=>decide (q.1≠"me"))=γ by kernel_rfl) t.nw this)
def w_dd(g:et T M dk W)(o:f∈pa)(h:vB es)(w:∀d es,vB es->Dq T M (j2 T M dk W V) f d->k d es):W2 (CW es [.str f,TD T,MD M]) k:=by
 have E:=g.len;let X:Sl->Sl->Sl->aM:=λa b c=>[.I (.str f),.I (TD T),.I (MD M),a,b,c,.un];refine Ju Z (uB (uZ (Hy Z (uj Z ⟨_,Z,w_mm g o h λr es h I=>?_⟩))));have u:∀{b c:Nat} {es s C},0<b->b<=1000->vB es->(∀p es,vB es->C p (.pm es::s))->W2 (cT (c2 (fl δ) (vd ui 0 (a1 (cC (.int b)))) (cC (.int c))) (.pm es::s)) C:=λ{b c es s C} A H h w=>w_T (Ni (Du h Z A H λm es _ h=>uj Z ⟨_,zg δ _ _,_,Z,w _ es h⟩));refine PN (λl=>∃es,l=.pm es::X (.I r) .un .un/\vB es) ?_ ?_
 .rcases I with rfl|⟨q,rfl,F,P,q3⟩
  .exact s_n Z (wL Z ⟨es,Z,h⟩)
  .exact Ga (w_an (uj Z ⟨λ_=>u (by decide) (by decide) h λp es h=>⟨λ_=>vg (rf (wR (uj Z (wR (Uw h Z (by omega) (by omega) λv es G Q h=>uj Z (uj Z ⟨_,_,Z,w _ _ h ⟨abz g o F G (by omega),.put F G⟩⟩)))))),λ_=>wL Z ⟨es,Z,h⟩⟩,λz=>by cases z⟩))
 rintro _ ⟨es,rfl,h⟩;let PL:aE:=(T.filter λt=>t.k.pl).map Th.n;have lPL:PL.length<=7:=by show (cZ Th.n _).length<=7;rw[ah];exact g.p7
 refine uB (uZ (Ra (uj (uf Z (yX T (by omega) ["plain", "fixed", "box", "lamp"] Kd.pl n_pl)) ?_)));let S:aE->Sl:=λL=>.I (.cf (L.map D.str));have nilT:∀{es} (L:aE) (s:aM),cT (c2 (fl δ) bN (cL (uM uN))) (.pm es::.I (.str f)::.I (TD T)::.I (MD M)::.I r::S L::s)=U (decide (L.map D.str=[]),.pm es::.I (.str f)::.I (TD T)::.I (MD M)::.I r::S L::s):=λL s=>vp (ur Z Z (eq_nil (Gb L).1 (by rw[(Gb L).2];decide)));refine PN (λl=>∃es L,l=.pm es::X (.I r) (S L) .un/\vB es/\Mw T f L/\L.length<=10) (Ga (w_mo (λb l=>∃es,l=.pm es::X (.I r) (S PL) .un/\vB es/\(b=γ->f∈(["one", "two"]:aE))) ?_ ?_)) ?_
 .exact w_an (uj (vp (ur Z Z (wM δ f ["one", "two"]))) ⟨λi=>w_or (uj (nilT PL _) ⟨λ_=>u (by decide) (by decide) h λp es h=>⟨es,Z,h,λ_=>bq i⟩,λ_=>⟨es,Z,h,λ_=>bq i⟩⟩),λ_=>⟨es,Z,h,λz=>(by cases z)⟩⟩)
 .rintro b _ ⟨es,rfl,h,i⟩;refine⟨λb=>?_,λ_=>wL Z ⟨es,PL,Z,h,adL g,by omega⟩⟩;have i:=i b;have B:Mv T f "it" /\ ("it" : Str)≠"me" := ⟨.inr (.inl ⟨Z,i⟩),by decide⟩;simp only[aJ,ck,or_false]at i;rcases i with rfl|rfl
  .exact wL Z ⟨es,["it", "it", "it"],Z,h,λx e=>by rw[show x="it" by simpa using e];exact B,by decide⟩
  .exact wL Z ⟨es,["it", "it", "other"],Z,h,λx e=>by
    simp only[aJ,ck,or_false]at e;rcases e with rfl|rfl|rfl
    .exact B
    .exact B
    .exact⟨.inr (.inr ⟨Z,Z⟩),by decide⟩,by decide⟩
 rintro _ ⟨es,L,rfl,h,mL,lL⟩;have lR:(n9 T).length<=13:=by unfold n9;rw[ah];exact bF (cH _ _) E
 have lH:(rb T).length<=13:=by unfold rb;rw[ah];exact bF (cH _ _) E
 refine uB (uZ (Ra (uj (uf Z (yX T (by omega) ["room"] (λk=>decide (k=.room)) OA)) ?_)));obtain⟨J,htm,ntm,ktm⟩:=me_T g;have meM:Mv T f "me" := .inl ⟨J,htm,ntm,λz=>by rw[ktm]at z;cases z⟩;refine uB (Ga (w_mo (λb l=>∃es,l=.pm es::X (.I r) (S L) (S (n9 T))/\vB es/\(b=δ->L≠[])) (w_or (uj (nilT L _) ⟨λb=>u (by decide) (by decide) h λp es h=>⟨es,Z,h,λ_ z=>of_decide_eq_false b (by rw[z];rfl)⟩,λ_=>⟨es,Z,h,λz=>(by cases z)⟩⟩)) ?_));rintro b _ ⟨es,rfl,h,A⟩;refine⟨λ_=>?_,λb=>wL Z ?_⟩
 .exact vg (rf (wR (uj Z (wR (HA h Z Z (by simpa using adK g) (by rw[ah];omega) λd hd es h=>by
   obtain⟨y,j,rfl⟩:=av.1 hd;exact uj Z (uj Z ⟨_,_,Z,w _ _ h ⟨PQ g o meM (.inl (XX j)) λ_=>rm_T j,.Z? meM (.inl (XX j)) λ_=>rm_T j⟩⟩))))))
 .refine uB (uZ (Ra (uj (uf Z (yX T (by omega) ["room", "box", "you"] Kd.hd Uy)) ?_)));exact vg (rf (wR (HA h Z Z (by simpa using A b) (by rw[ah];omega) λd hd es h=>by
   obtain⟨x,e,rfl⟩:=av.1 hd;exact wR (Rm (N:=rb T) h o (by omega) Z λy es h j=>uj Z (uj Z ⟨_,_,Z,w _ _ h ⟨PQ g o (mL x e).1 j λz=>ar z (mL x e).2,.Z? (mL x e).1 j λz=>ar z (mL x e).2⟩⟩)))))
end
def gl:List ey->List (List L4.D)->ey->List L4.D
 |k::b,a::dss,j=>if k=j then a else gl b dss j
 |_,_,_=>[]
theorem PR:∀(a:List ey) (dss:List (List L4.D)) (j:ey),(vC a (dss.map .cf) j).getD (.cf [])=.cf (gl a dss j)
 |[],dss,j=>by cases dss<;>rfl
 |k::a,[],j=>rfl
 |k::a,b::dss,j=>by
  rw[aU];unfold vC gl;by_cases h:k=j
  .rw[ak h,ak h];rfl
  .rw[aq h,aq h];exact PR a dss j
theorem UA{d:L4.D}{k j:ey}:∀(a:List ey) (dss:List (List L4.D)),a.length=dss.length->(k=j->k∈a)->gl a (f9 (λi c=>if i=k then c++[d]else c) a dss) j=gl a dss j++if k=j then [d]else []
 |[],[],_,f=>by rw[aq λh=>(by cases f h)];rfl
 |[],_::_,h,_=>by cases h
 |_::_,[],h,_=>by cases h
 |k0::a,c::dss,h,f=>by
  rw[ig];unfold gl;by_cases e:k0=j
  .subst e;rw[ak Z,ak Z];by_cases b:k0=k
   .rw[ak b,ak b.symm]
   .rw[aq b,aq λz=>b z.symm,bO]
  .rw[aq e,aq e];exact UA a dss (by simpa using h) λz=>by
    rcases aJ.1 (f z)with y|y
    .exact ar (y.symm.t z) e
    .exact y
theorem UB{d:L4.D}{k j:ey}:∀(a:List ey) (dss:List (List L4.D)),a.length=dss.length->k∉a->gl (a++[k]) (dss++[[d]]) j=gl a dss j++if k=j then [d]else []
 |[],[],_,_=>rfl
 |[],_::_,h,_=>by cases h
 |_::_,[],h,_=>by cases h
 |k0::a,c::dss,h,b=>by
  rw[lG,lG];unfold gl;by_cases e:k0=j
  .rw[ak e,ak e,aq λz=>b (by rw[z,e];exact bb),bO]
  .rw[aq e,aq e];exact UB a dss (by simpa using h) λz=>b (ba _ z)
theorem UC{d:L4.D}{k:ey}{P Q:List L4.D->Prop}(e:∀a,P a->Q a)(f:∀a,P a->Q (a++[d])):∀(c:List ey) (dss:List (List L4.D)),(∀a∈dss,P a)->∀x∈f9 (λi a=>if i=k then a++[d]else a) c dss,Q x
 |[],_,_,x,b=>by cases b
 |_::_,[],_,x,b=>by cases b
 |k0::c,a::dss,h,x,b=>by
  rw[ig]at b;rcases aJ.1 b with rfl|b
  .have:=h a bb;split
   .exact f _ this
   .exact e _ this
  .exact UC e f c dss (λa hd=>h a (ba _ hd)) x b
theorem Jw{d:L4.D}(hd:Hs 16 14 d=γ):∀a:List L4.D,y6 16 14 a=γ->y6 16 14 (a++[d])=γ
 |[],_=>by rw[cI];unfold y6;rw[hd];rfl
 |x::a,h=>by rw[lG];unfold y6 at h ⊢;rw[aV]at h ⊢;exact⟨h.1,Jw hd a h.2⟩
theorem Bi:∀a:List L4.D,(∀d∈a,Hs 16 14 d=γ)->y6 16 14 a=γ
 |[],_=>by unfold y6;rfl
 |x::a,h=>by unfold y6;rw[aV];exact⟨h x bb,Bi a λd hd=>h d (ba _ hd)⟩
def kv(d:L4.D):ey:=match uo yj "verb" d with
 |some x=>(AY x).getD (.inl 0)
 |none=>.inl 0
def gK(d:L4.D):Bool:=(match uo yj "verb" d with
 |some x=>(AY x).isSome
 |none=>δ)&&Hs 16 14 d
set_option tactic.hygienic true
def adM{d:L4.D}(h:gK d=γ):∃x,uo yj "verb" d=U x/\AY x=U (kv d):=by
 unfold gK at h;rw[aV]at h;obtain⟨h,_⟩:=h;unfold kv;split at h
 .rename_i x e;rw[e];cases a:AY x with
  |none=>rw[a]at h;cases h
  |some y=>exact⟨x,Z,a⟩
 .cases h
set_option tactic.hygienic false
theorem UD:∀(L:List L4.D) (b:List ey) (dss:List (List L4.D)),(∀d∈L,gK d=γ)->b.length=dss.length->b.length+L.length<1000->(∀a∈dss,a.length+L.length<1000/\y6 16 14 a=γ)->
  ∃e dss',Cu (uo yj "verb") L b dss=U (e,dss')/\(∀j,gl e dss' j=gl b dss j++L.filter λd=>decide (kv d=j))/\∀a∈dss',y6 16 14 a=γ
 |[],b,dss,_,_,_,h=>⟨b,dss,Z,λj=>by rw[List.filter_nil,bO],λa hd=>(h a hd).2⟩
 |d::L,b,dss,l,i,q,h=>by
  rw[aS]at q;have hL:∀a∈dss,a.length+L.length+1<1000/\y6 16 14 a=γ:=λa hd=>⟨by have:=(h a hd).1;rw[aS]at this;omega,(h a hd).2⟩;have f:=l d bb;have m:Hs 16 14 d=γ:=by unfold gK at f;rw[aV]at f;exact f.2
  obtain⟨x,o,p⟩:=adM f;have st:(Br b dss (kv d) d).1.length=(Br b dss (kv d) d).2.length/\(Br b dss (kv d) d).1.length+L.length<1000/\(∀a∈(Br b dss (kv d) d).2,a.length+L.length<1000/\y6 16 14 a=γ)/\∀j,gl (Br b dss (kv d) d).1 (Br b dss (kv d) d).2 j=gl b dss j++if kv d=j then [d]else []:=by
   unfold Br;by_cases c:JK b (kv d)=γ
   .rw[ak c];refine⟨by simp only[kX];omega,by simp only;omega,UC (λa h=>⟨by omega,h.2⟩) (λa h=>⟨by rw[aF,dh];omega,Jw m a h.2⟩) b dss hL,λj=>UA b dss i λv=>EK.1 c⟩
   .rw[aq c];refine⟨by simp[i],by simp only[aF,dh];omega,λa hd=>?_,λj=>UB b dss i λz=>c (EK.2 z)⟩;rcases aO.1 hd with hd|hd
    .exact⟨by have:=(hL a hd).1;omega,(hL a hd).2⟩
    .rw[bh.1 hd];exact⟨by simp only[dh];omega,Jw m [] (by unfold y6;rfl)⟩
  obtain⟨w,y,A,B⟩:=st;obtain⟨e,dss',t,u,q3⟩:=UD L (Br b dss (kv d) d).1 (Br b dss (kv d) d).2 (λx r=>l x (ba _ r)) w y A;refine⟨e,dss',?_,λj=>?_,q3⟩
  .unfold Cu;simp only[o,p];rw[ak]
   .exact t
   .rw[aV];refine⟨br (by omega),aR.2 λa hd=>br (by have:=(hL a hd).1;omega)⟩
  .rw[u j,B j,gE,cp];by_cases c:kv d=j
   .simp[c]
   .simp[c]
def ruN:aE:=["verb", "tests", "deeds", "text", "refuses"]
def vf(v:Str)(c a:List L4.D)(d:Str)(b:Bool):L4.D:=.obj 13 ruN [.str v,.cf c,.cf a,.str d,.Y b]
structure RuOk(w d:L4.D):Prop where
 r:F7 [w,d]=U (.Y γ)
 g:gK d=γ
 c:F2 [d]=U d
def RuS(T:List Th)(M:List Mk)(V:List Vb)(d:L4.D):Prop:=∃v∈V++v9,∃b a h c,d=vf v.n b a h c/\(∀t∈b,Ts T M v.f 2 t)/\∀e∈a,Ds T M v.f e
def RuQ(T:List Th)(M:List Mk)(V:List Vb)(w d:L4.D):Prop:=RuOk w d/\RuS T M V d
section
variable{T:List Th}{M:List Mk}{dk:aE}{W:List Wy}{V:List Vb}{f:Str}{es:List L4.D}
def OB(b:((V++v9).flatMap Vb.ws).Nodup){v:Vb}(a:v∈V++v9):wQ [j2 T M dk W V,.str v.n]=U (nr v):=by
 have e:wQ [j2 T M dk W V,.str v.n]=Cs (vwD (V++v9)) (.str v.n):=by kernel_rfl
 rw[e,LP b a]
def W8(A:∀v∈V,v∈v6)(E:((V++v9).flatMap Vb.ws).Nodup){v:Vb}(i:v∈V++v9){b a:List L4.D}(p:∀t∈b,Tk (j2 T M dk W V) v.f 2 t)(lt:b.length<=3)(hd:∀d∈a,Dd (j2 T M dk W V) v.f d)(ld:a.length<=3){l:Bool}(B:l=γ->a=[]){j:Str}(C:Be [.str j]=U (.Y γ)):RuOk (j2 T M dk W V) (vf v.n b a j l):=by
 let w:=j2 T M dk W V;let r:=vf v.n b a j l;have o:v∈v6++v9:=by
  rcases aO.1 i with i|i
  .exact bK _ (A v i)
  .exact bC _ i
 have evo:=OB (T:=T) (M:=M) (dk:=dk) (W:=W) E i;have y:zS [w,.str v.n]=U (.Y γ):=by let m:aM:=[.I w,.I (.str v.n)];have F:xn [.str v.n]=U (.Y γ):=BQ (aR.1 (show ((v6++v9).all λv=>isT (xn [.str v.n]))=γ by kernel_rfl) v o);have mt:uG vU "verb_of" ae bH m=U (nr v,m):=uQ Z Z Z Z evo;refine uv Z (uF ((ux (uf Z F)).t ((ux (ur mt Z Z)).t (ur (uY mt Z) Z ?_))));rw[we];simp
 refine⟨?_,?_,by kernel_rfl⟩
 .let m:aM:=[.I w,.I r,.un];let G:aM:=[.I w,.I r,.I (.str v.f)];refine uv (ρ:=G) Z ?_;unfold F6;refine(xA (zy Z (zy (wY (vp (uf Z y))) (wY (vp (uf Z C)))))).t ?_;refine(uh ((vm (uY (z:=.str v.f) (uQ Z Z Z Z evo) Z)))).t (uF ?_);have q:CP [w,.str v.f,.cf b]=U (.Y γ):=uv Z (uF ((ux (uf Z (PJ _ _ (by omega)))).t (yH id b (by rw[gW];rfl) (by omega) λt c=>⟨[.I t,.I w,.I (.str v.f)],[.I t,.I w,.I (.str v.f)],Z,uf Z ((p t c).2 4 (by decide) (by decide)),Z⟩)));have u:CQ [w,.str v.f,.cf a]=U (.Y γ):=uv Z (uF ((ux (uf Z (PJ _ _ (by omega)))).t (yH id a (by rw[gW];rfl) (by omega) λt c=>⟨[.I t,.I w,.I (.str v.f)],[.I t,.I w,.I (.str v.f)],Z,uf Z (hd t c).2,Z⟩)));have x:yt [r]=U (.Y γ):=by
   cases l with
   |false=>kernel_rfl
   |true=>rw[show r=vf v.n b [] j γ from by show vf v.n b a j γ=_;rw[B Z]];kernel_rfl
  exact(ux (uf Z q)).t ((ux (uf Z u)).t (uf Z x))
 .have e:gK r=(y6 16 14 b&&(y6 16 14 a&&γ)):=by kernel_rfl
  rw[e,Bi b λt h=>(p t h).1,Bi a λt h=>(hd t h).1];rfl
end
def nf(v:Vb):Str×Str:=(v.n,v.f)
def prS(q:Str×Str):L4.D:=.ef [.str q.1,.str q.2]
def bsL:List (Str×Str):=[("take", "one"),("open", "one"),("put", "two"),("go", "way"),("wait", "alone"),("drop", "one")]
def fmL(V:List Vb):List (Str×Str):=bsL++(V.map nf++V.map nf)
def v_fm{v:Vb}(h:v∈v6++v9):v.f∈pa:=bq (aR.1 (show ((v6++v9).all λv=>decide (v.f∈pa))=γ by kernel_rfl) v h)
def fm_v{V:List Vb}{q:Str×Str}(h:q∈fmL V):∃v∈V++v9,nf v=q:=by
 rcases aO.1 h with h|h
 .have:=(show ∀q∈bsL,q∈v9.map nf by decide +kernel) q h;obtain⟨v,a,e⟩:=av.1 this;exact⟨v,bC _ a,e⟩
 .have h:q∈V.map nf:=(aO.1 h).elim id id;obtain⟨v,a,e⟩:=av.1 h;exact⟨v,bK _ a,e⟩
def tx1(k:Nat):Option L4.D:=(I? (.int (k:Nat))).bind (EE (.str "Text "))
def tx2(d:Nat):Option L4.D:=Kh (.str ".") (.int (1+(d:Nat)))
def isS:Option L4.D->Bool
 |some (.str x)=>isT (Be [.str x])
 |_=>δ
def abD:((aZ 12).all λk=>(aZ 9).all λd=>isS ((tx1 k).bind λx=>(tx2 d).bind λy=>EE x y))=γ:=by kernel_rfl
set_option tactic.hygienic true
def adO{k:Nat}(m:k<12):∃x a,I? (.int (k:Nat))=U x/\EE (.str "Text ") x=U a/\∀d:Nat,d<9->∃y b,Kh (.str ".") (.int (1+(d:Nat)))=U y/\EE a y=U (.str b)/\Be [.str b]=U (.Y γ):=by
 have h:=λd hd=>aR.1 (aR.1 abD k (bP.2 m)) d (bP.2 hd);cases c:tx1 k with
 |none=>have:=h 0 (by decide);rw[c]at this;cases this
 |some a=>
  obtain⟨x,f,i⟩:=kK.1 c;refine⟨x,a,f,i,λd hd=>?_⟩;have h:=h d hd;rw[c]at h;unfold isS at h;split at h
  .rename_i b e;obtain⟨y,j,l⟩:=kK.1 (show (tx2 d).bind _=U _ from e);exact⟨y,b,j,l,BQ h⟩
  .cases h
set_option tactic.hygienic false
def snoc{a:Type}{P:a->Prop}{l:List a}{x:a}(h:∀y∈l,P y)(b:P x):∀y∈l++[x],P y:=λy c=>(aO.1 c).elim (h y) λh=>by rw[bh.1 h];exact b
def LR{n m:Nat}{d:L4.D}(h:((aZ n).map λj:Nat=>D.int j)[m]?=U d):m<n/\d=.int m:=by have a:=(bR.1 h).1;rw[ah,cj]at a;rw[bA,kW a]at h;cases h;exact⟨a,Z⟩
def w_rl{T:List Th}{M:List Mk}{u:aE}{W:List Wy}{V:List Vb}{c:List L4.D}{k:L4.D->List L4.D->Prop}(g:et T M u W)(N:∀v∈V,v∈v6)(lV:V.length<=6)(nd:((V++v9).flatMap Vb.ws).Nodup)(h:vB c)(w:∀R c,vB c->R.length<=12->(∀r∈R,RuQ T M V (j2 T M u W V) r)->k (.cf R) c):W2 (BO c [TD T,MD M,VD V,.int 3]) k:=by
 let Q:L4.D:=.cf ((fmL V).map prS);have Y:∀e:aM,cV 3 e=U (VD V,e)->cL (cRep (cL (uA 1 [] (iL aA) (gN 0) ve (uS rA))) cF) e=U (.cf ((V.map nf++V.map nf).map prS),e):=λe hρ=>by refine vE ?_;unfold cRep;rw[vE (wC nr (λv=>prS (nf v)) V (Da hρ) (by omega) λv s=>⟨[.I (nr v)],[.I (nr v)],Z,Z,Z⟩)];show (if (V.map λv=>prS (nf v)).length * 2<=1000/\(-1000:Int)<=2/\(2:Int)<=1000 then U ((b9 2 (V.map λv=>prS (nf v))).flatten,e)else O)=_;rw[ak ⟨by rw[ah];omega,by decide,by decide⟩,bu,bf];simp[b9,pj]
 refine Ju Z (uB (wL Z (uB (uZ (Ra (uj (vZ (xs:=bsL.map prS) Z (Y _ Z) (by simp[bsL];omega)) ?_))))));rw[<-bu];let J:=λ(i:Nat) (e:aM)=>∃c R C E F l o j,e=[.pm c,.I (TD T),.I (MD M),.I (VD V),.I (.int 3),.I Q,.ls R,C,E,F,l,o,j]/\vB c/\R.length<=i/\∀r∈R,RuQ T M V (j2 T M u W V) r;refine uB (wL Z (uB (JT (Rj (Du (b:=4) h Z (by decide) (by decide) λm c hm h=>⟨m,Z,by omega,J,⟨c,[],_,_,_,_,_,_,Z,h,aL _,λr hr=>(by cases hr)⟩,?_,?_⟩)))))
 .rintro i _ _ hd ⟨c,R,C,E,F,l,o,j,rfl,h,lR,ok⟩;obtain⟨hi,rfl⟩:=LR hd;have lF:(fmL V).length<=18:=by unfold fmL;rw[aF,aF,ah];show 6+_<=18;omega
  refine⟨_,Z,uB (s_as (HA h Z Z (by unfold fmL bsL;simp) (by rw[ah];omega) λd hd c h=>?_))⟩;obtain⟨q,hq,rfl⟩:=av.1 hd;obtain⟨v,A,rfl⟩:=fm_v hq;have P:=v_fm ((aO.1 A).elim (λA=>bK _ (N v A)) (bC _));let J:=λ(xs:List L4.D) (e:aM)=>∃c,e=[.pm c,.I (TD T),.I (MD M),.I (VD V),.I (.int 3),.I Q,.ls R,.I (.int i),.I (.str v.n),.I (.str v.f),l,o,j]/\vB c/\∀x∈xs,Tq T M (j2 T M u W V) v.f 2 x;refine⟨_,Z,uB (uZ (Ra (w_cp (Rj (Du (b:=4) h Z (by decide) (by decide) λm2 c hm2 h=>⟨m2,Z,by omega,by rw[ah,cj];omega,J,⟨c,Z,h,λx B=>(by cases B)⟩,?_,?_⟩)))))⟩
  .rintro xs d _ ⟨c,rfl,h,a⟩;exact⟨_,Z,Hy Z (uj Z ⟨_,Z,w_ts g P 2 h λx c h t=>⟨_,Z,c,Z,h,snoc a t⟩⟩)⟩
  rintro G _ lts ⟨c,rfl,h,hts⟩;rw[ah,cj]at lts;refine uB (uZ (Ni (Du h Z (by decide) (by decide) λH c s h=>uj Z ⟨_,zg δ _ _,?_⟩)));generalize hrf:(if δ then !decide ((H:Int)=0)else decide ((H:Int)=0))=p;let J:=λ(xs:List L4.D) (e:aM)=>∃c,e=[.pm c,.I (TD T),.I (MD M),.I (VD V),.I (.int 3),.I Q,.ls R,.I (.int i),.I (.str v.n),.I (.str v.f),.I (.cf G),.I (.Y p),j]/\vB c/\∀x∈xs,Dq T M (j2 T M u W V) v.f x;refine uB (uZ (Ra (w_cp (Rj (Ni (Du (b:=4) h Z (by decide) (by decide) λS c hm3 h=>uj Z ⟨.int ((if p then 0 else S:Nat):Int),?_,if p then 0 else S,Z,by split<;>omega,by rw[ah,cj];split<;>omega,J,⟨c,Z,h,λx B=>(by cases B)⟩,?_,?_⟩))))))
  .rw[yB (.inr (by cases p<;>decide))];cases p<;>simp
  .rintro xs d _ ⟨c,rfl,h,a⟩;exact⟨_,Z,Hy Z (uj Z ⟨_,Z,w_dd g P h λx c h t=>⟨_,Z,c,Z,h,snoc a t⟩⟩)⟩
  rintro I _ lds ⟨c,rfl,h,hds⟩;rw[ah,cj]at lds;obtain⟨x,a,w1,w2,w3⟩:=adO (k:=i) (by omega);refine Oy (Oz Z (rf (wR (uj Z (wR (uj Z (wR (uj Z (wR (Ni (uj (ur Z (uY Z w1) w2) (Ni (uj Z (Ni (uj Z (Du h Z (by decide) (by decide) λn7 c hn h=>?_))))))))))))))));obtain⟨y,X,y1,y2,y3⟩:=w3 n7 hn;refine⟨_,Z,y,y1,_,y2,uj Z (uj (by kernel_rfl) ⟨_,Z,by omega,c,R++[vf v.n G I X p],_,_,_,_,_,_,Z,h,by rw[aF];exact pJ lR,snoc ok ⟨W8 N nd A (λt h=>(hts t h).1) (by omega) (λt h=>(hds t h).1) (by split at lds<;>omega) (λz=>?_) y3,v,A,G,I,X,p,Z,λt h=>(hts t h).2,λt h=>(hds t h).2⟩⟩)⟩;rw[ak z]at lds;exact jq.1 lds
 .rintro _ ⟨c,R,C,E,F,l,o,j,rfl,h,lR,ok⟩;rw[ah,cj]at lR;exact Rh (uj Z ⟨_,_,Z,w R c h (by omega) ok⟩)
section
variable{es:List L4.D}{k:L4.D->List L4.D->Prop}
def w_vb(h:vB es)(w:∀t n es,t<6->n<7->vB es->k (VD (vL t n)) es):W2 (BN es []) k:=by
 refine Ju Z (uB (wL (ρ':=[.pm es,.I (VD (v6.take 3)),.un]) (by kernel_rfl) (uB (wL (ρ':=[.pm es,.I (VD v6),.un]) (by kernel_rfl) (uB (uZ (Du h Z (by decide) (by decide) λt es a h=>Rh (w_sx (uj (b:=[.pm es,.I (VD v6),.I (.int t)]) (vE (vZ (xs:=(v6.map nr).drop t) (ys:=(v6.map nr).take t) (ρ1:=[.pm es,.I (VD v6),.I (.int t)]) (vE ?_) (vE ?_) ?_)) ⟨_,Z,uj Z (w_oA (Du (b:=7) h Z (by decide) (by decide) λn es d h=>⟨_,Z,?_⟩))⟩)))))))))
 .show U (p? (v6.map nr) (U (t:Int)) O,_)=_;rw[Ul t (by rw[ah];exact f6 a)];rfl
 .show U (p? (v6.map nr) O (U (t:Int)),_)=_;rw[Jm t (by rw[ah];exact f6 a)]
 .rw[fw,bU,ah];show 6 - t+min t 6<=1000;omega
 .rw[Jm n (by rw[aF,fw,bU,ah];show n<=6 - t+min t 6;omega),<- mf,<- iM,<- bu,<- iM];exact⟨_,_,Z,w t n es a d h⟩
def w_ms(h:vB es)(w:∀M es,vB es->(∀m∈M,Mk.ok m)->(∃n,M.map Mk.n=mkL.take n)->k (MD M) es):W2 (BM es []) k:=by
 refine Ju Z (uB (wL Z (uB (JT (w_iL (Ra (w_sx (uj Z ⟨mkL.map D.str,Z,uj Z (w_oA (Du (b:=5) h Z (by decide) (by decide) λn es p h=>⟨_,Z,_,Z,?_⟩))⟩))))))));rw[Jm n (by rw[ah];show n<=4;omega),<- iM];let J:=λ(i:Nat) (o:aM)=>∃es M a e,o=[.pm es,.ls (cZ M' M),a,e]/\vB es/\(∀m∈M,Mk.ok m)/\M.map Mk.n=(mkL.take n).take i;refine⟨J,⟨_,[],_,_,Z,h,λm j=>(by cases j),Z⟩,?_,?_⟩
 .rintro i _ _ hd ⟨es,M,a,e,rfl,h,ok,eM⟩;rw[bA]at hd;obtain⟨x,l,rfl⟩:=ie.1 hd;have lM:M.length<=4:=by have:=bD cQ eM;rw[ah]at this;rw[this,bU,bU];show min _ (min _ 4)<=4;omega
  exact⟨_,Z,uB (uZ (Ni (uj Z (Du (b:=3) h Z (by decide) (by decide) λd es hd h=>⟨_,Z,Oy (Oz Z (rf (wR (uj Z (wR (Uw h Z (by omega) (by omega) λc es f c1 h=>uj Z (uj Z ⟨M.map M',Z,by rw[ah];omega,es,M++[⟨x,c,1+(d:Int)⟩],_,_,by rw[bu];rfl,h,snoc ok ⟨by show 1<=1+(d:Int);omega,by show 1+(d:Int)<=3;omega,f,by show c<=1+(d:Int);omega⟩,by rw[bu,eM,jD,l];rfl⟩)))))))⟩))))⟩
 .rintro _ ⟨es,M,a,e,rfl,h,ok,eM⟩;exact Rh (uj Z ⟨_,_,Z,w M es h ok ⟨n,by rw[eM,ah,List.take_length]⟩⟩)
end
def HB(i:Nat):Str×aE:=ub.getD i ("key", ["key"])
def plD(q:Str×aE):L4.D:=.ef [.str q.1,.ef (q.2.map D.str)]
def kL:List Kd:=[.plain,.box,.lamp,.box,.fixed,.plain]
def UE{i:Nat}(h:i<7):HB i∈ub/\Cc (ub.map plD) (i:Int)=U (plD (HB i)):=by
 have e:ub[i]?=U (HB i):=by unfold HB;rw[c6,bg (show i<ub.length from h)];rfl
 exact⟨b8 e,En (by rw[bA,e];rfl)⟩
def χ(x:Str):Th:=⟨x,[x,"place"],.room,O⟩
structure UF(T:List Th):Prop where
 ki:Ord T
 ex:∃(r tn n:Nat) (y:Str) (P:List Th),1<=r/\r<=5/\tn<7/\n<8/\T=(rmL.take r).map χ++⟨"me", ["me", "self"],.you,U y⟩::P/\P.map Th.nw=(aZ n).map (λk=>HB ((k+tn) % 7))/\∀t∈P,t.k.pl=γ
theorem KQ:∀(l:aE) (B:List Th),Ord B->Ord (B++l.map χ)
 |[],B,h=>by rw[fH,bO];exact h
 |x::l,B,h=>by rw[aU,pI];exact KQ l _ (h.snoc (.inl ⟨Z,Z⟩))
def w_th{a:List L4.D}{k:L4.D->List L4.D->Prop}(h:vB a)(w:∀T j a,UF T->j<T.length->vB a->k (TD (T.drop j++T.take j)) a):W2 (AQ a []) k:=by
 refine Ju Z (uB (uZ (Ra (w_sx (uj Z ⟨rmL.map D.str,Z,uj Z (w_oA (Ni (uj Z (Du (b:=5) h Z (by decide) (by decide) λr a hr h=>⟨_,Z,_,Z,?_⟩))))⟩)))));let R:aE:=rmL.take (1+r);have lR:R.length=1+r:=by show (rmL.take (1+r)).length=_;rw[bU];show min (1+r) 5=_;omega
 rw[show (1+(r:Int))=((1+r:Nat):Int) from Z,Jm (1+r) (by rw[ah];show 1+r<=5;omega),<- iM];refine uB (W1 (uj (wC D.str (λx=>e? (χ x)) R Z (by omega) λx g=>⟨_,_,Z,Z,Z⟩) (uB (Oy (Oz Z (rf (wR (uj Z (wR (uj Z (wR (uj Z (wR (HA (L:=R.map D.str) h Z Z (λz=>by have:=bD cQ z;rw[ah,lR]at this;simp at this) (by rw[ah];omega) λd hd a h=>?_))))))))))))));obtain⟨y,hy,rfl⟩:=av.1 hd;let m:Th:=⟨"me", ["me", "self"],.you,U y⟩;let c:List Th:=R.map χ++[m];have o1:Ord c:=(by have:=KQ R [] .nil;rw[cI]at this;exact this:Ord (R.map χ)).snoc (.inr (.inl ⟨Z,χ y,cB hy,Z,Z⟩));have lP:c.length=2+r:=by show (R.map χ++[m]).length=_;rw[aF,ah,lR];show 1+r+1=_;omega
 refine uj Z (uj Z ⟨_,Z,by rw[ah];show R.length<1000;omega,uB (W1 (uj (vZ Z Z (by rw[ah];show R.length+1<=1000;omega)) ?_))⟩);refine s_g (R:=λI=>I=[.pm a,.I (.cf (R.map D.str)),.ls (c.map e?),.ls ((R++(["me"]:aE)).map D.str),.un,.un,.un,.un,.un,.un]) ?_ ?_
 .rw[show c.map e?=(R.map λx=>e? (χ x))++[e? m] by show (R.map χ++[m]).map e?=_;rw[bu,bf];rfl,bu];rfl
 rintro _ rfl;refine uB (wL Z (uB (wL Z (uB (uZ (Du h Z (by decide) (by decide) λf a htn h=>?_))))));let J:=λ(i:Nat) (I:aM)=>∃a P e B C E F,I=[.pm a,.I (.cf (R.map D.str)),.ls (cZ e? (c++P)),.ls (cZ D.str e),.I (.cf (ub.map plD)),.I (.int f),B,C,E,F]/\vB a/\Ord (c++P)/\P.map Th.nw=(aZ i).map (λk=>HB ((k+f) % 7))/\(∀t∈P,t.k.pl=γ)/\e≠[]/\e.length<=7+i/\∀x∈e,∃u∈c++P,u.n=x/\u.k.hd=γ;refine uB (JT (Rj (Du (b:=8) h Z (by decide) (by decide) λn a S h=>⟨n,Z,by omega,J,⟨a,[],R++(["me"]:aE),_,_,_,_,by rw[bO];rfl,h,by rw[bO];exact o1,Z,λt X=>(by cases X),by simp,by rw[aF,lR];show 1+r+1<=7;omega,?_⟩,?_,?_⟩)))
 .rw[bO];exact λx l=>(aO.1 l).elim (λl=>⟨χ x,bK _ (cB l),Z,Z⟩) λl=>⟨m,bC _ (bh.2 Z),(bh.1 l).symm,Z⟩
 .rintro i _ _ hd ⟨a,P,e,B,C,E,F,rfl,h,o,eP,pl,H,lH,hH⟩;obtain⟨hi,rfl⟩:=LR hd;have lP':P.length=i:=by have:=bD cQ eP;rw[ah,ah,cj]at this;exact this
  refine⟨_,Z,uB (s_as (uj (ur (z:=plD (HB ((i+f) % 7))) Z (ur Z Z (Dg (by decide))) ?_) ⟨_,Z,uB (uZ (HA (L:=kL.map λk=>D.str k.s) h Z Z (by decide) (by decide) λd hd a h=>?_))⟩))⟩
  .rw[show ((i:Int)+f) % 7=(((i+f) % 7:Nat):Int) from Z];exact(UE (gh _ (by decide))).2
  obtain⟨G,hkd,rfl⟩:=av.1 hd;have hpl:G.pl=γ:=(show ∀k∈kL,Kd.pl k=γ by decide) _ hkd;refine uB (Oy (Oz Z (rf (wR (uj Z (wR (uj Z (wR (uj Z (wR (w_iS h (λg=>Z) Z (by simpa using H) (by rw[ah];omega) λd hd a h=>?_)))))))))));obtain⟨p,W,rfl⟩:=av.1 hd;obtain⟨u,Y,hun,huk⟩:=hH p W;let q:=HB ((i+f) % 7);let t:Th:=⟨q.1,q.2,G,U p⟩;have N:Ord (c++(P++[t])):=by rw[<-cp];exact o.snoc (.inr (.inr ⟨hpl,u,Y,by rw[hun],huk⟩))
  have M:(P++[t]).map Th.nw=(aZ (i+1)).map λk=>HB ((k+f) % 7):=by rw[bu,eP,pT,bu];rfl
  have eT:(c++P).map e?++[e? t]=(c++(P++[t])).map e?:=by rw[<-cp,bu (l₂:=[t])];rfl
  have hH':∀x∈e,∃u∈c++(P++[t]),u.n=x/\u.k.hd=γ:=λx l=>by obtain⟨v,hv,h⟩:=hH x l;exact⟨v,by rw[<-cp];exact bK _ hv,h⟩
  refine uj Z (uj Z ⟨_,Z,by rw[ah,aF];omega,Ga (uj (vp (ur Z Z (Hl G .box))) ⟨λb=>Oy (Oz Z (uj Z ⟨e.map D.str,Z,by rw[ah];omega,a,P++[t],e++[q.1],_,_,_,_,by rw[<-eT,bu (l₂:=[q.1])];rfl,h,N,M,snoc pl hpl,by simp,by rw[aF];show _+1<=_;omega,snoc hH' ⟨t,by simp,Z,?_⟩⟩)),λg=>wL Z ⟨a,P++[t],e,_,_,_,_,by rw[<-eT];rfl,h,N,M,snoc pl hpl,H,by omega,hH'⟩⟩)⟩);show G.hd=γ;rw[bq b];rfl
 .rintro _ ⟨a,P,e,B,C,E,F,rfl,h,o,eP,pl,H,lH,hH⟩;rw[ah,cj]at eP;have lT:(c++P).length=2+r+n:=by have:=bD cQ eP;rw[ah,ah,cj]at this;rw[aF,lP,this]
  refine uB (uZ (Du h (IA (uY Z (by show U (D.int _)=_;rw[ah])) Z) (by omega) (by omega) λj a Q h=>Rh (uj (b:=[.pm a,.I (.cf (R.map D.str)),.I (TD (c++P)),.ls (e.map D.str),.I (.cf (ub.map plD)),.I (.int j),B,C,E,F]) (vZ (xs:=((c++P).map e?).drop j) (ys:=((c++P).map e?).take j) (ρ1:=[.pm a,.I (.cf (R.map D.str)),.I (TD (c++P)),.ls (e.map D.str),.I (.cf (ub.map plD)),.I (.int j),B,C,E,F]) (vE ?_) (vE ?_) ?_) ?_)))
  .show U (p? ((c++P).map e?) (U (j:Int)) O,_)=_;rw[Ul j (by rw[ah];omega)];rfl
  .show U (p? ((c++P).map e?) O (U (j:Int)),_)=_;rw[Jm j (by rw[ah];omega)]
  .rw[fw,bU,ah];omega
  .rw[<-mf,<- iM,<- bu];exact⟨_,_,Z,w (c++P) j a ⟨o,1+r,f,n,y,P,by omega,by omega,htn,S,by show (R.map χ++[m])++P=_;rw[cp];rfl,eP,pl⟩ Q h⟩
def rwD(w:Wy):L4.D:=.ef [.str w.r,.str w.w]
theorem PU:∀W:List Wy,Bo (W.map rwD)=U (W.map λw=>L3.Dq.ef [.str w.r,.str w.w])
 |[]=>rfl
 |w::W=>by rw[aU];unfold Bo;rw[PU W];rfl
def adP(r x:Str)(W:List Wy):dNiT (.ef [.str r,.str x]) (.cf (W.map rwD))=U (.Y (!decide ([r,x]∈W.map λw=>[w.r,w.w]))):=by
 unfold dNiT;dsimp only;rw[show B? (.ef [.str r,.str x])=U (.ef [.str r,.str x]) from Z,PU];dsimp only;rw[ak]
 .congr 3;rw[dG,fA,cq,av];constructor
  .rintro⟨e,b,h⟩;obtain⟨w,a,rfl⟩:=av.1 b;have h:((w.r==r)&&((w.w==x)&&γ))=γ:=h;rw[aV,aV,beq_iff_eq,beq_iff_eq]at h;exact⟨w,a,by rw[h.1,h.2.1]⟩
  .rintro⟨w,a,h⟩;refine⟨_,av.2 ⟨w,a,Z⟩,?_⟩;have c:w.r=r/\w.w=x:=by simpa using h
   show ((w.r==r)&&((w.w==x)&&γ))=γ;rw[c.1,c.2];simp
 .rw[aV];refine⟨Z,aR.2 λe b=>?_⟩;obtain⟨w,a,rfl⟩:=av.1 b;rfl
section
variable{T:List Th}{M:List Mk}{es:List L4.D}{k:L4.D->List L4.D->Prop}
def drL(T:List Th)(M:List Mk):List (Option Str):=O::O::(M.map Mk.n++(T.filter λt=>t.k.mk).map Th.n).map U
def abE{m:Option Str}(h:m∈drL T M){x:Str}(e:m=U x):x∈xo T M:=by
 subst e;have h:U x∈(M.map Mk.n++(T.filter λt=>t.k.mk).map Th.n).map U:=by simpa [drL]using h
 obtain⟨y,a,e⟩:=av.1 h;cases e;rcases aO.1 a with a|a
 .exact bC _ a
 .exact bK _ a
def adQ(M:List Mk)(K:aE):([D.X,.X]++M.map λm=>D.str m.n)++K.map D.str=.X::.X::((M.map Mk.n++K).map U).map oS:=by simp[oS,pj]
def w_wy(hT:T.length<=13)(hM:M.length<=4)(A:n9 T≠[])(h:vB es)(w:∀W es,vB es->W.length<=8->(∀x∈W,Re T M x)->(W.map λw=>[w.r,w.w]).Nodup->k (WD W) es):W2 (CV es [TD T,MD M]) k:=by
 let K:=(T.filter λt=>t.k.mk).map Th.n;have lK:K.length<=13:=by show (cZ Th.n _).length<=13;rw[ah];exact bF (cH _ _) hT
 have Q:(n9 T).length<=13:=by unfold n9;rw[ah];exact bF (cH _ _) hT
 have ld:(drL T M).length<=20:=by unfold drL;rw[aS,aS,ah,aF,ah];show M.length+K.length+1+1<=20;omega
 refine Ju Z (uB (uZ (Ra (uj (uf Z (yX T (by omega) ["room"] (λk=>decide (k=.room)) OA)) (uB (uZ (Ra (uj (vZ (vE (vZ Z (vE (wC M' (λm=>D.str m.n) M Z (by omega) λm v=>⟨_,_,Z,Z,Z⟩)) (by rw[ah];show 2+M.length<=1000;omega))) (vE (uf Z (yX T (by omega) ["box", "lamp"] Kd.mk Uz))) (by rw[aF,ah,ah];show 2+M.length+K.length<=1000;omega)) ?_))))))));rw[adQ M K];let J:=λ(i:Nat) (I:aM)=>∃es W o p q u d,I=[.pm es,.I (TD T),.I (MD M),.I (.cf ((n9 T).map D.str)),.I (.cf ((drL T M).map oS)),.ls (cZ B' W),o,p,q,u,d]/\vB es/\W.length<=i/\(∀x∈W,Re T M x)/\(W.map λw=>[w.r,w.w]).Nodup;refine uB (wL Z (uB (JT (Rj (Du (b:=9) h Z (by decide) (by decide) λn es P h=>⟨n,Z,by omega,J,⟨es,[],_,_,_,_,_,Z,h,aL _,λw G=>(by cases G),.nil⟩,?_,?_⟩)))))
 .rintro i _ _ hd ⟨es,W,o,p,q,u,d,rfl,h,lW,ok,f⟩;obtain⟨N,rfl⟩:=LR hd;refine⟨_,Z,uB (uZ (HA h Z Z (by simpa using A) (by rw[ah];omega) λj a es h=>?_))⟩;obtain⟨r,l,rfl⟩:=av.1 a;refine uB (uZ (HA (L:=(["north", "up", "outside", "north"]:aE).map D.str) h Z Z (by decide) (by decide) λj a es h=>?_));obtain⟨x,H,rfl⟩:=av.1 a;refine uB (uZ (HA h Z Z (by simpa using A) (by rw[ah];omega) λj a es h=>?_));obtain⟨g,E,rfl⟩:=av.1 a;refine uB (uZ (HA h Z Z (by simp[drL]) (by rw[ah];omega) λj a es h=>?_));obtain⟨m,F,rfl⟩:=av.1 a;refine Ga (uj (Pa (vp (ur Z (vE (wC B' rwD W Z (by omega) λw v=>⟨_,_,Z,Z,Z⟩)) (adP r x W)))) ⟨λc=>Oy (Oz Z (uj Z ⟨W.map B',Z,by rw[ah];omega,es,W++[⟨r,x,g,m⟩],_,_,_,_,_,by rw[bu];rfl,h,by rw[aF];exact pJ lW,snoc ok ⟨l,(show ∀x∈(["north", "up", "outside", "north"]:aE),x∈(["north", "up", "outside"]:aE) by decide) x H,E,λy e=>abE F e⟩,?_⟩)),λv=>wL Z ⟨es,W,_,_,_,_,_,Z,h,by omega,ok,f⟩⟩);rw[bu,cg];refine⟨f,by simp,λy B z C e=>?_⟩;rw[aU,fH,bh]at C;rw[e,C]at B;simp[B]at c
 .rintro _ ⟨es,W,o,p,q,u,d,rfl,h,lW,ok,f⟩;rw[ah,cj]at lW;exact Rh (uj Z ⟨_,_,Z,w W es h (by omega) ok f⟩)
end
def abF:((aZ 7).all λa=>(aZ 8).all λn=>decide (rmL++("me" : Str)::((aZ n).map λk=>(HB ((k+a) % 7)).1)++mkL).Nodup)=γ:=by kernel_rfl
def Ro{a:Type}(l:List a)(j:Nat):(l.drop j++l.take j).Perm l:=(List.perm_append_comm).t (by rw[n5])
def UG{T T0:List Th}(p:T.Perm T0){t:Th}(h:Nf T0 t):Dp T t:=by
 have i:∀u∈T0,u.k=.room->u.n∈n9 T:=λu a f=>cB (aT.2 ⟨p.mem_iff.2 a,br f⟩);have e:∀u∈T0,u.k.hd=γ->u.n∈rb T:=λu a f=>cB (aT.2 ⟨p.mem_iff.2 a,f⟩);obtain⟨n,w,k,s⟩:=t;rcases h with ⟨b,c⟩|⟨b,u,a,c,d⟩|⟨b,u,a,c,d⟩
 .simp only at b c;subst b c;exact trivial
 .simp only at b c;subst b c;exact i u a d
 .simp only at b c;subst c;cases k with
  |room=>cases b
  |you=>cases b
  |plain=>exact e u a d
  |fixed=>exact e u a d
  |box=>exact e u a d
  |lamp=>exact e u a d
structure Base(T:List Th):Prop where
 len:T.length<=13
 r1:1<=(T.filter λt=>decide (t.k=.room)).length
 r5:(T.filter λt=>decide (t.k=.room)).length<=5
 y1:(T.filter λt=>decide (t.k=.you)).map Th.n=(["me"]:aE)
 p7:(T.filter λt=>t.k.pl).length<=7
 nd:∀m,(T.map Th.n++mkL.take m).Nodup
 nm:∀x∈T.map Th.n,Nm x
 st:∀t∈T,Dp T t
 rk:∃r,LK T r
 wd:∀t∈T,Dr t
def W9{T0:List Th}(d:UF T0)(j:Nat):Base (T0.drop j++T0.take j):=by
 have p:=Ro T0 j;obtain⟨r,w,n,y,P,M,N,b,H,l,eP,hP⟩:=d.ex;let R:=(rmL.take r).map χ;let c:Th:=⟨"me", ["me", "self"],.you,U y⟩;have lR:R.length=r:=by show ((rmL.take r).map χ).length=r;rw[ah,bU];show min r 5=r;omega
 have lP:P.length=n:=by have:=bD cQ eP;rw[ah,ah,cj]at this;exact this
 have i:∀t∈R,t.k=.room:=λt h=>by obtain⟨x,_,rfl⟩:=av.1 h;rfl
 have spl:∀p:Th->Bool,T0.filter p=R.filter p++((if p c=γ then [c]else [])++P.filter p):=λp=>by rw[l,List.filter_append,gE];show R.filter p++(if p c=γ then c::P.filter p else P.filter p)=_;split<;>rfl
 have all_:∀(p:Kd->Bool) (L:List Th),(∀t∈L,p t.k=γ)->L.filter (λt=>p t.k)=L:=λp L h=>oE.2 h;have non_:∀(p:Kd->Bool) (L:List Th),(∀t∈L,p t.k=δ)->L.filter (λt=>p t.k)=[]:=λp L h=>List.filter_eq_nil_iff.2 λt b z=>by rw[h t b]at z;cases z
 have plk:∀k:Kd,k.pl=γ->decide (k=.room)=δ/\decide (k=.you)=δ:=Jv (λz=>by cases z) (λz=>by cases z) (λv=>⟨Z,Z⟩) (λv=>⟨Z,Z⟩) (λv=>⟨Z,Z⟩) (λv=>⟨Z,Z⟩);have fr:T0.filter (λt=>decide (t.k=.room))=R:=by rw[spl,all_ (λk=>decide (k=.room)) R λt h=>by rw[i t h];rfl,non_ (λk=>decide (k=.room)) P λt h=>(plk t.k (hP t h)).1];exact bO R
 have E:T0.filter (λt=>decide (t.k=.you))=[c]:=by rw[spl,non_ (λk=>decide (k=.you)) R λt h=>by rw[i t h];rfl,non_ (λk=>decide (k=.you)) P λt h=>(plk t.k (hP t h)).2];rfl
 have C:T0.filter (λt=>t.k.pl)=P:=by rw[spl,non_ Kd.pl R λt h=>by rw[i t h];rfl,all_ Kd.pl P hP];rfl
 have eN:T0.map Th.n=rmL.take r++("me" : Str)::(aZ n).map λk=>(HB ((k+w) % 7)).1:=by
  rw[l,bu,aU];have A:((rmL.take r).map χ).map Th.n=rmL.take r:=by rw[bf];exact gW _
  have B:P.map Th.n=(aZ n).map λk=>(HB ((k+w) % 7)).1:=by have:=bD (cZ cY) eP;rw[bf,bf]at this;exact this
  rw[A,B]
 have big:=bq (aR.1 (aR.1 abF w (bP.2 b)) n (bP.2 H));have wP:∀t∈P,t.nw∈ub:=λt h=>by have o:t.nw∈P.map Th.nw:=cB h;rw[eP]at o;obtain⟨k,_,e⟩:=av.1 o;rw[<-e];exact(UE (gh _ (by decide))).1
 have Q:∀t∈T0,Dr t:=λt h=>by
  rw[l]at h;rcases aO.1 h with h|h
  .obtain⟨x,a,rfl⟩:=av.1 h;exact⟨bK _ (av.2 ⟨x,ip a,Z⟩),λz=>by cases z⟩
  .rcases aJ.1 h with rfl|h
   .exact⟨bC _ bb,λz=>by cases z⟩
   .exact⟨bC _ (ba _ (wP t h)),λv=>wP t h⟩
 have f:∀m,(T0.map Th.n++mkL.take m).Nodup:=λm=>by rw[eN];exact big.sublist (((ix r rmL).append (ua _)).append (ix m mkL))
 constructor
 .rw[p.length_eq,l,aF,aS,ah,bU,lP];show min r 5+(n+1)<=13;omega
 .rw[(p.filter _).length_eq,fr,lR];exact M
 .rw[(p.filter _).length_eq,fr,lR];exact N
 .have:=p.filter λt=>decide (t.k=.you);rw[E]at this;rw[List.perm_singleton.1 this];rfl
 .rw[(p.filter _).length_eq,C,lP];omega
 .intro m;exact((p.map _).append_right _).nodup_iff.2 (f m)
 .intro x a;have a:=(p.map Th.n).mem_iff.1 a;rw[eN]at a;rcases aO.1 a with a|a
  .exact bK _ (bK _ (ip a))
  .refine bK _ (bC _ ?_);rcases aJ.1 a with rfl|a
   .exact bb
   .obtain⟨k,_,rfl⟩:=av.1 a;exact ba _ (cB (UE (gh _ (by decide))).1)
 .intro t b;exact UG p (d.ki.all t (p.mem_iff.1 b))
 .obtain⟨i,h⟩:=d.ki.rank (cg.1 (f 0)).1;refine⟨i,λt b=>?_⟩;obtain⟨o,F⟩:=h t (p.mem_iff.1 b);refine⟨by rw[p.length_eq];exact o,λq I=>?_⟩;obtain⟨G,u,J,e⟩:=F q I;exact⟨G,u,p.mem_iff.2 J,e⟩
 .exact λt b=>Q t (p.mem_iff.1 b)
theorem KR(fc:aM):∀(l:aE) (b:List L4.D),vB b->∃(f:aE) (j:List L4.D),f.Sublist l/\vB j/\
  Ae 1 [0] (gN 0) (cT (c2 (fl δ) (vd ui 1 gr) aX)) ae (l.map D.str) (.pm b::fc)=U (f.map D.str,.pm j::fc)
 |[],b,h=>⟨[],b,.slnil,h,Z⟩
 |x::l,b,h=>by
  obtain⟨d,e,u,w,y,t⟩:=dgx (i:=1) (a:=cC (.int 3)) (λb=>[.I (.str x),.pm b]) (λv=>Z) (λv v=>Z) Z h (by decide) (by decide);obtain⟨f,o,q,p,r⟩:=KR fc l e t;have m:cT (c2 (fl δ) (vd ui 1 gr) aX) [.I (.str x),.pm b]=U (decide (d=0),[.I (.str x),.pm e]):=vp (ur u Z (zg δ d 0));rw[aU];unfold Ae;rw[show gN 0 (.str x) (EB 1 [0] (.pm b::fc))=U [.I (.str x),.pm b] from Z];by_cases c:d=0
  .rw[br c]at m;refine⟨x::f,o,q.cons_cons x,p,?_⟩;simp only[m,show cV 0 [.I (.str x),.pm e]=U (.str x,[.I (.str x),.pm e]) from Z];rw[show xI [0] (([.I (.str x),.pm e]:aM).drop 1) (.pm b::fc)=U (.pm e::fc) from Z];simp only[r];rfl
  .rw[bj c]at m;refine⟨f,o,q.cons x,p,?_⟩;simp only[m];rw[show xI [0] (([.I (.str x),.pm e]:aM).drop 1) (.pm b::fc)=U (.pm e::fc) from Z];exact r
def Xa{es:List L4.D}(h:vB es):∃(T:List Th) (M:List Mk) (dk:aE) (W:List Wy) (t n:Nat) (R es':List L4.D),et T M dk W/\t<6/\n<7/\R.length<=12/\(∀r∈R,RuQ T M (vL t n) (j2 T M dk W (vL t n)) r)/\AB es [.int 3]=U (.cf [TD T,MD M,.cf (dk.map D.str),WD W,VD (vL t n),.cf R],es'):=by
 suffices x:W2 (AB es [.int 3]) λd s=>∃(T:List Th) (M:List Mk) (dk:aE) (W:List Wy) (t n:Nat) (R:List L4.D),et T M dk W/\t<6/\n<7/\R.length<=12/\(∀r∈R,RuQ T M (vL t n) (j2 T M dk W (vL t n)) r)/\d=.cf [TD T,MD M,.cf (dk.map D.str),WD W,VD (vL t n),.cf R] by obtain⟨_,es',e,T,M,dk,W,t,n,R,a,b,c,d,f,rfl⟩:=x;exact⟨T,M,dk,W,t,n,R,es',a,b,c,d,f,e⟩
 refine Ju Z (uB (uZ (Hy Z (uj Z ⟨_,Z,w_th h λT0 j es d0 w h=>uB (uZ (Hy Z (uj Z ⟨_,Z,w_ms h λM es h mo zz=>?_⟩)))⟩))));obtain⟨m,eM⟩:=zz;let T:=T0.drop j++T0.take j;have b:Base T:=W9 d0 j;have o:T.length<=13:=b.len;have r5:(n9 T).length<=5:=by unfold n9;rw[ah];exact b.r5
 have lM:M.length<=4:=by have:=bD cQ eM;rw[ah,bU]at this;rw[this];exact pB _ _
 obtain⟨dk,u,sl,h,q⟩:=KR [.I (.int 3),.I (TD T),.I (MD M),.un,.un,.un] (n9 T) es h;have rne:n9 T≠[]:=λz=>by have:=b.r1;unfold n9 at z;rw[oG]at z;rw[z]at this;exact ar this (by decide)
 refine uB (uZ (Ra (uj ((HE (Da (vE (uf Z (yX T (by omega) ["room"] (λk=>decide (k=.room)) OA)))) (by rw[ah];exact bF r5 (by decide))).t q) (uB (uZ (Hy Z (uj Z ⟨_,Z,w_wy o lM rne h λW es h lW okW ndW=>uB (uZ (Hy Z (uj Z ⟨_,Z,w_vb h λt n es l hn h=>?_⟩)))⟩)))))));have rmnd:(n9 T).Nodup:=(kZ.map Th.n).nodup (cg.1 (b.nd 0)).1;have g:et T M dk W:={
  len:=b.len,r1:=b.r1,r5:=b.r5,y1:=b.y1,p7:=b.p7,m4:=lM,mo:=mo
  nm:=λx i=>by
   rcases aO.1 i with i|i
   .exact b.nm x i
   .rw[eM]at i;exact bC _ (ip i)
  nd:=by rw[eM];exact b.nd m
  st:=b.st,rk:=b.rk,wd:=b.wd
  d0:=bF sl.length_le r5
  d1:=rmnd.sublist sl
  d2:=λx i=>sl.subset i
  w8:=lW,wo:=okW,wn:=ndW }
 exact Rh (w_ls (wR (uj Z (wR (uj Z (wR (uj Z (wR (uj Z (wR (uj Z (wR (Hy Z (uj Z ⟨_,Z,w_rl g (λv p=>LN p) (F8 t n) (PH l hn) h λR es h lR ok=>uj Z ⟨by show 6<=1000;decide,_,_,Z,T,M,dk,W,t,n,R,g,l,hn,lR,ok,Z⟩⟩))))))))))))))
def wtL(w:Wy):List L4.D:=[atO "me" w.r,woO w.w]++match w.m with|none=>[]|some m=>[noO (mkO m 0)]
def goO(w:Wy):L4.D:=vf "go" (wtL w) [mvO "me" w.g] "You go." δ
def A21:List L4.D:=(BG [.str "me"]).getD []++(CH []).getD []++(CJ []).getD []++(AN []).getD []
def SH(W:List Wy):List L4.D:=A21++(W.map goO++[vf "go" [] [] "No way there." γ])++[vf "wait" [] [] "Time goes by." δ]
def adR(w:Wy):CK [.str "me", B' w]=U (wtL w):=by obtain⟨r,x,g,m⟩:=w;cases m<;>kernel_rfl
def Xb(w:Wy):zQ [.str "go", .cf (wtL w),.cf [mvO "me" w.g],.str "You go."]=U (goO w):=by kernel_rfl
def adS(W:List Wy)(c:W.length<=8):D5 [.str "me", WD W]=U (W.map goO++[vf "go" [] [] "No way there." γ]):=by
 let a:aM:=[.I (.str "me"),.I (WD W),.un];let b:aM:=[.I (.str "me"),.I (WD W),.I (.cf (W.map goO))];refine zz (ρ:=b) Z ?_;unfold D4;refine(uh ((vm (vE (wC B' goO W Z (by omega) λw v=>⟨[.I (B' w),.I (.str "me")],[.I (B' w),.I (.str "me")],Z,?_,Z⟩))))).t ?_
 .exact uf (um Z (um (vE (uf Z (adR w))) Z)) (Xb w)
 .exact wX (vZ Z (by kernel_rfl) (by rw[ah];show W.length+1<=1000;omega))
def PV:A21.length<=50:=n6 (by kernel_rfl)
def abG{W:List Wy}(a:W.length<=8):(SH W).length<=100:=by have:=PV;unfold SH;rw[aF,aF,aF,ah];show A21.length+(W.length+1)+1<=100;omega
def Rp(W:List Wy)(b:W.length<=8):zR [.str "me", WD W]=U (SH W):=by
 have:=PV;let a:aM:=[.I (.str "me"),.I (WD W)];refine zz (ρ:=a) Z (wX (vZ (vE (vZ (ρ1:=a) (by kernel_rfl) (vE (uf Z (adS W b))) ?_)) (by kernel_rfl) ?_))
 .rw[aF,ah];show A21.length+(W.length+1)<=1000;omega
 .rw[aF,aF,ah];show A21.length+(W.length+1)+1<=1000;omega
def XY(W:List Wy):∀d∈SH W,gK d=γ:=λd hd=>by
 unfold SH at hd;rcases aO.1 hd with hd|hd
 .rcases aO.1 hd with hd|hd
  .exact aR.1 (show A21.all gK=γ by kernel_rfl) d hd
  .rcases aO.1 hd with hd|hd
   .obtain⟨w,_,rfl⟩:=av.1 hd;obtain⟨r,x,g,m⟩:=w;cases m<;>kernel_rfl
   .rw[bh.1 hd];kernel_rfl
 .rw[bh.1 hd];kernel_rfl
def abH{d:L4.D}(h:gK d=γ):Hs 16 14 d=γ:=by unfold gK at h;rw[aV]at h;exact h.2
section
variable{T:List Th}{M:List Mk}{dk:aE}{W:List Wy}{V:List Vb}{R:List L4.D}
def wA(T:List Th)(M:List Mk)(dk:aE)(W:List Wy)(V:List Vb)(R:List L4.D)(c:L4.D):List L4.D:=[TD T,MD M,.cf (dk.map D.str),WD W,VD V,VD v9,.str "me", .Z (nK T) (T.map e?),mD T M,vwD (V++v9),.cf R,.cf (SH W),.cf R,c]
def wS(T:List Th)(M:List Mk)(dk:aE)(W:List Wy)(V:List Vb)(R:List L4.D)(c:L4.D)(q:Sl)(k:Nat):aM:=[.ob 14 (wNs.take k) ((wA T M dk W V R c).take k),.I (TD T),.I (MD M),.I (.cf (dk.map D.str)),.I (WD W),.I (VD V),.I (.cf R),q]
def Nk{e:FE}{d:L4.D}{b:aE}{a:List L4.D}{r:aM}{h:aM}(c:e (.I (.obj 14 b a)::r.map DW)=U (d,h))(f:Hs 16 14 d=γ):DC 16 e (.ob 14 b a::r)=U (d,.ob 14 b a::r):=by unfold DC;simp only[c,f];rfl
def Jx{c:Str}{e:FE}{d:L4.D}{a:aE}{b:List L4.D}{r:aM}(f:e (.ob 14 a b::r)=U (d,.ob 14 a b::r))(h:a.contains c=δ)(i:b.length=a.length)(j:a.length<900):vc 14 0 c e (.ob 14 a b::r)=U (.nx (.ob 14 (a++[c]) (b++[d])::r)):=by unfold vc;rw[f];show (if 14=14 then if a.contains c=γ then O else if b.length=a.length then if a.length<900 then U (H4.nx (.ob 14 (a++[c]) (b++[d])::r))else O else O else O)=_;rw[ak Z,h,aq bw,ak i,ak j]
def Fu(V:List Vb)(lV:V.length<=6)(a b c d:L4.D)(f:aE)(e:List L4.D):Ao [.obj 14 ("kept_things" ::"kept_marks" ::"kept_dark" ::"kept_ways" ::"kept_verbs" ::"shared_verbs" ::f) (a::b::c::d::VD V::VD v9::e)]=U (VD (V++v9)):=by refine(DX Z (wX (vZ Z Z (by rw[ah];show V.length+9<=1000;omega)))).t ?_;rw[<-bu]
def abI(b:∀v∈V,v∈v6):Hs 16 14 (vwD (V++v9))=γ:=by
 show y6 16 14 _=γ;refine Bi _ λd hd=>?_;obtain⟨v,a,hd⟩:=dq.1 hd;obtain⟨x,_,rfl⟩:=av.1 hd;refine aR.1 (show ((v6++v9).all λv=>Hs 16 14 (nr v))=γ by kernel_rfl) v ?_;rcases aO.1 a with a|a
 .exact bK _ (b v a)
 .exact bC _ a
def UH(g:et T M dk W){t n:Nat}(m:t<6)(l:n<7)(hR:∀r∈R,RuOk (j2 T M dk W (vL t n)) r)(lR:R.length<=12):∃b dss,zi [TD T,MD M,.cf (dk.map D.str),WD W,VD (vL t n),.cf R]=U (wNs,wA T M dk W (vL t n) R (.Z b (dss.map .cf)))/\∀j,gl b dss j=(R++SH W).filter λd=>decide (kv d=j):=by
 have A:=abG g.w8;have z:=g.len;let V:=vL t n;have lV:V.length<=6:=F8 t n;have u:∀d∈R++SH W,gK d=γ:=λd hd=>by
  rcases aO.1 hd with hd|hd
  .exact(hR d hd).g
  .exact XY W d hd
 obtain⟨b,dss,o,p,q⟩:=UD (R++SH W) [] [] u Z (by rw[aF];simp only[gH];omega) λi h=>(by cases h);let c:L4.D:=.Z b (dss.map .cf);refine⟨b,dss,?_,λj=>(p j).t (cI _)⟩;let B:Sl:=.I (.Y γ);have x:Hs 16 14 c=γ:=by show y6 16 14 (dss.map .cf)=γ;exact Bi _ λd hd=>by obtain⟨i,h,rfl⟩:=av.1 hd;exact q i h
 let S:=wS T M dk W V R c;have e:yu (S .un 0)=U (.nx (S B 14)):=by
  unfold yu;refine(uh (wb (uf (um Z (um Z (um Z (um Z (um Z (um (vE (uf Z Um)) Z)))))) (Js g m l)))).t ?_;refine(uh (ρ':=S .un 1) (by kernel_rfl)).t ((uh (ρ':=S .un 2) (by kernel_rfl)).t ((uh (ρ':=S .un 3) (by kernel_rfl)).t ((uh (ρ':=S .un 4) (by kernel_rfl)).t ((uh (ρ':=S .un 5) (by kernel_rfl)).t ((uh (ρ':=S .un 6) (by kernel_rfl)).t ?_)))));have eY:((T.filter λt=>decide (t.k=.you)).map λt=>D.str t.n)=[.str "me"]:=by rw[show (λt:Th=>D.str t.n)=D.str∘Th.n from Z,<- bf,g.y1];rfl
  refine(uh (Jx (Nk (ur (uQ Z Z Z Z ((Jt T (by omega) _ _ .you).t (by rw[eY]))) Z Z) Z) Z Z (by decide))).t ?_;refine(uh (Jx (uf Z (Ow T (by omega) g.E')) Z Z (by decide))).t ?_;refine(uh (Jx (uf Z (Up g)) Z Z (by decide))).t ?_;refine(uh (Jx (Nk (uf (um (uQ Z Z Z Z (Fu V lV _ _ _ _ _ _)) Z) (ady m l)) (abI λv w=>LN w)) Z Z (by decide))).t ?_;refine(uh ((vm (Nk ((ux (uf Z (PJ _ _ (by omega)))).t (yH id R (by rw[gW];rfl) (by omega) λr f=>?_)) Z)))).t ?_
  .exact⟨[.I r,.I (j2 T M dk W V)],[.I r,.I (j2 T M dk W V)],Z,uf Z (hR r f).r,Z⟩
  refine(uh (ρ':=S B 10) (by kernel_rfl)).t ((uh (ρ':=S B 11) (by kernel_rfl)).t ?_);refine(uh (Jx (Nk (vE (uf Z (Rp W g.w8))) (Bi _ λd hd=>abH (XY W d hd))) Z Z (by decide))).t ?_;refine(uh (Jx ((vE (wC (ρ1:=S B 12) id id R (by rw[gW];rfl) (by omega) λr f=>⟨[.I r],[.I r],Z,uf Z (hR r f).c,Z⟩)).t (by rw[gW];rfl)) Z Z (by decide))).t ?_;refine Jx (Nk (uf (um (vE (vZ Z Z (by omega))) Z) ?_) x) Z Z (by decide);refine uv (ρ:=[.I (.cf (R++SH W)),.un,.un]) Z ?_;show (match Cu (uo yj "verb") (R++SH W) [] []with
   |some (b,dss)=>U (H4.rt (.Z b (dss.map .cf)) [.I (.cf (R++SH W)),.un,.un])
   |none=>O)=_
  rw[o]
 unfold zi x3;rw[ak (show [TD T,MD M,.cf (dk.map D.str),WD W,VD V,.cf R].length=6 from Z)];rw[show yu (stI 14 8 [TD T,MD M,.cf (dk.map D.str),WD W,VD V,.cf R])=U (.nx (S B 14)) from e];rfl
end
theorem KU:∀l:aE,Gv (l.map D.str)=U l
 |[]=>rfl
 |x::l=>by rw[aU];unfold Gv;rw[KU l]
def w3:aE:=["north", "outside", "up"]
def wdN(W:List Wy):aE:=w3.filter λx=>decide (x∈W.map Wy.w)
def Xc{l:aE}(h:∀x∈l,x∈w3):Cv (Hj l)=w3.filter λx=>decide (x∈l):=by
 have d:w3.Nodup:=by decide
 have p3:w3.Pairwise λa b=>P0 a b=γ:=by decide
 refine kI (λa b v v=>IK a b) (jr IJ HG _) (p3.filter _) ((ir _ P0).t ((List.perm_ext_iff_of_nodup (On l) (kZ.nodup d)).2 λx=>?_));rw[LB,aT,cq];exact⟨λc=>⟨h x c,c⟩,λc=>c.2⟩
section
variable{T:List Th}{M:List Mk}{dk:aE}{W:List Wy}{V:List Vb}{R:List L4.D}{c:L4.D}
def wO(T:List Th)(M:List Mk)(dk:aE)(W:List Wy)(V:List Vb)(R:List L4.D)(c:L4.D):L4.D:=.obj 14 wNs (wA T M dk W V R c)
def Jy(f:W.length<=8)(b:∀w∈W,w.w∈(["north", "up", "outside"]:aE)):Au [wO T M dk W V R c]=U (.cf ((wdN W).map D.str)):=by
 let a:aM:=[.I (wO T M dk W V R c)];refine DX (ρ:=a) Z (wX ?_);have e:cL (uA 1 [] (iL (c1 (uo AF "kept_ways") ae)) (gN 0) ve (c2 gd ae aY)) a=U (.cf ((W.map Wy.w).map D.str),a):=(vE (wC B' (λw=>.str w.w) W Z (by omega) λw v=>⟨[.I (B' w)],[.I (B' w)],Z,Z,Z⟩)).t (by rw[bf];rfl);show vj _ a=_;unfold vj;rw[e];dsimp only;rw[KU];dsimp only;rw[ak (by rw[ah];omega),Xc λx d=>?_]
 .rfl
 .obtain⟨w,h,rfl⟩:=av.1 d;exact(show ∀x∈(["north", "up", "outside"]:aE),x∈w3 by decide) _ (b w h)
def p0(T:List Th):aE:=(T.filter λt=>t.k.pl).map Th.n
def UI(T:List Th)(a:T.length<=13):DK [wO T M dk W V R c]=U (.cf (T.map λt=>.str t.n)):=by exact DX Z (wX (wC e? (λt=>.str t.n) T Z (by omega) λt v=>⟨[.I (e? t)],[.I (e? t)],Z,Z,Z⟩))
def Gc{f h:FS}{ρ a:aM}{b:List L4.D}(e:f ρ=U (.rn b a)):bx f h ρ=U (.rn b a):=by unfold bx;rw[e]
def obF(N Dw:aE)(f:Str):List (L4.D×L4.D):=if f="alone" then [(.X,.X)]else if f="way" then Dw.map λx=>(.str x,.X)else if f="one" then N.map λx=>(.str x,.X)else N.flatMap λa=>N.map λb=>(.str a,.str b)
def p2(q:L4.D×L4.D):L4.D:=.ef [q.1,q.2]
def p3(v:Str)(q:L4.D×L4.D):L4.D:=.ef [.str v,q.1,q.2]
theorem PX(N:aE)(hN:N.length<=7):∀l:aE,(l.flatMap λa=>N.map λb=>(D.str a,D.str b)).length<=7 * l.length
 |[]=>aL _
 |a::l=>by rw[fq,aF,ah,aS];have:=PX N hN l;omega
def UJ(W:List Wy):(wdN W).length<=3:=bF (cH _ _) (aL 3)
def UK{N a:aE}(hN:N.length<=7)(hD:a.length<=3)(f:Str):(obF N a f).length<=49:=by
 unfold obF;split
 .decide
 .split
  .rw[ah];omega
  .split
   .rw[ah];omega
   .have:=PX N hN N;omega
theorem Nl{a b x:Sl}(N:aE)(hN:N.length<=7):∀(l:aE) (acc:List (L4.D×L4.D)) (s:Sl),acc.length+7 * l.length<=900->∃f,i0 (gN 4) (uT (Hr 3 (uA 1 [4] (iL aj) (gN 0) ve (uS eW)))) (l.map D.str) [a,b,.I (.cf (N.map D.str)),.ls (acc.map p2),s]=U (.nx [a,b,.I (.cf (N.map D.str)),.ls ((acc++l.flatMap λa=>N.map λb=>(D.str a,D.str b)).map p2),f])
 |[],acc,s,_=>⟨s,by rw[List.flatMap_nil,bO];rfl⟩
 |y::l,acc,s,j=>by rw[aS]at j;let Q:Sl:=.I (.cf (N.map D.str));let Y:Sl:=.I (.str y);let nw:List (L4.D×L4.D):=N.map λb=>(D.str y,D.str b);obtain⟨f,e⟩:=Nl (x:=x) N hN l (acc++nw) Y (by rw[aF];show acc.length+(N.map _).length+7 * l.length<=900;rw[ah];omega);refine⟨f,?_⟩;rw[aU];unfold i0;let d:aM:=[a,b,Q,.ls (acc.map p2),Y];rw[show gN 4 (.str y) [a,b,Q,.ls (acc.map p2),s]=U d from Z];have i:uA 1 [4] (iL aj) (gN 0) ve (uS eW) d=U (nw.map p2,d):=(wC D.str (λz=>.ef [.str y,.str z]) N Z (by omega) λz v=>⟨[.I (.str z),Y],[.I (.str z),Y],Z,Z,Z⟩).t (by show _=U ((N.map _).map p2,d);rw[bf];rfl);have h:uT (Hr 3 (uA 1 [4] (iL aj) (gN 0) ve (uS eW))) d=U (.nx [a,b,Q,.ls ((acc++nw).map p2),Y]):=(wb (SY Z i Z (by rw[ah,ah];show acc.length+(N.map _).length<=1000;rw[ah];omega))).t (by rw[bu];rfl);simp only[h];rw[e,fq,cp]
def OC(g:et T M dk W){f:Str}(d:f∈pa):xu [wO T M dk W V R c,.str f]=U ((obF (p0 T) (wdN W) f).map p2):=by
 have i:=g.len;let w:=wO T M dk W V R c;have lN:(p0 T).length<=7:=by unfold p0;rw[ah];exact g.p7
 have ld:=UJ W;have nms:∀F:Sl,uA 1 [0] (iL (uG yT "names" ae uN)) (gN 0) (cT (uG vt "is_plainly" (uG uL "thing_of" ai bJ) uN)) ae [.I w,F,.un,.un,.un]=U ((p0 T).map D.str,[.I w,F,.un,.un,.un]):=λF=>by
  let a:aM:=[.I w,F,.un,.un,.un];refine(ze (λt:Th=>D.str t.n) (λt=>.str t.n) (λt=>t.k.pl) T ?_ (by omega) λt j=>⟨[.I (.str t.n),.I w],[.I (.str t.n),.I w],Z,?_,λv=>⟨_,Z,Z⟩,λv=>Z⟩).t (by unfold p0;rw[bf];rfl)
  .unfold iL;rw[uQ Z Z Z Z (UI T i)]
  .have b:vX [w,.str t.n]=U ((vC (nK T) (T.map e?) (kS t.n)).getD .X):=by kernel_rfl
   rw[Fs g.E' e? j]at b;refine vp (uQ ?_ Z Z Z (CZ t));exact uQ Z Z Z Z b
 let NL:Sl:=.I (.cf ((p0 T).map D.str));have h:∀F:Sl,uJ 2 (cL (uA 1 [0] (iL (uG yT "names" ae uN)) (gN 0) (cT (uG vt "is_plainly" (uG uL "thing_of" ai bJ) uN)) ae)) [.I w,F,.un,.un,.un]=U (.nx [.I w,F,NL,.un,.un]):=λF=>(vm (vE (nms F)));simp only[pa,aJ,ck,or_false]at d;rcases d with rfl|rfl|rfl|rfl
 .let a:aM:=[.I w,.I (.str "one"),NL,.un,.un];refine zz (ρ:=a) Z ?_;unfold xt;refine(xA Z).t ((xA Z).t ((uh (h _)).t (Gc ((uV Z).t (wX ((wC D.str (λx=>.ef [.str x,.X]) (p0 T) Z (by omega) λx v=>⟨[.I (.str x)],[.I (.str x)],Z,Z,Z⟩).t ?_))))));show _=U (((p0 T).map λx=>(D.str x,D.X)).map p2,a);rw[bf];rfl
 .obtain⟨m,e⟩:=Nl (x:=.un) (p0 T) lN (p0 T) [] .un (by simp;omega);refine zz (ρ:=[.I w,.I (.str "two"),NL,.un,m]) Z ?_;unfold xt;refine(xA Z).t ((xA Z).t ((uh (h _)).t ((xA Z).t ((uh Z).t ((uh ((xE Z).t e)).t ?_)))));rfl
 .refine zz (ρ:=[.I w,.I (.str "alone"),.un,.un,.un]) Z ?_;unfold xt;exact Gc ((uV Z))
 .let a:aM:=[.I w,.I (.str "way"),.un,.un,.un];refine zz (ρ:=a) Z ?_;unfold xt;refine(xA Z).t (Gc ((uV Z).t (wX ((wC D.str (λx=>.ef [.str x,.X]) (wdN W) (ρ1:=a) ?_ (by omega) λx v=>⟨[.I (.str x)],[.I (.str x)],Z,Z,Z⟩).t ?_))))
  .show iL _ a=_;unfold iL;rw[uQ Z Z Z Z (Jy g.w8 λw l=>(g.wo w l).hw)]
  .show _=U (((wdN W).map λx=>(D.str x,D.X)).map p2,a);rw[bf];rfl
end
def cmV(N Dw:aE)(v:Str×Str):List L4.D:=(obF N Dw v.2).map (p3 v.1)
def cmA(N Dw:aE)(Q:List (Str×Str)):List L4.D:=Q.flatMap (cmV N Dw)
theorem UM{N Dw:aE}(hN:N.length<=7)(hD:Dw.length<=3):∀Q:List (Str×Str),(cmA N Dw Q).length<=49 * Q.length
 |[]=>aL _
 |q::Q=>by unfold cmA;rw[fq,aF,aS];have a:=UM hN hD Q;have b:=UK hN hD q.2;unfold cmA at a;unfold cmV at a ⊢;rw[ah];omega
section
variable{T:List Th}{M:List Mk}{dk:aE}{W:List Wy}{V:List Vb}{R:List L4.D}{c:L4.D}
theorem PY(g:et T M dk W):∀(L:List Vb) (acc:List L4.D) (s:Sl),(∀v∈L,v.f∈pa)->acc.length+49 * L.length<=900->∃b,i0 (gN 2) (uT (Hr 1 (uA 2 [2] (iL (cL (u4 xu ko))) (gT j7 2) ve (uS kC)))) (L.map nr) [.I (wO T M dk W V R c),.ls acc,s]=U (.nx [.I (wO T M dk W V R c),.ls (acc++cmA (p0 T) (wdN W) (L.map nf)),b])
 |[],acc,s,_,_=>⟨s,by show _=U (H4.nx [_,.ls (acc++[]),s]);rw[bO];rfl⟩
 |v::L,acc,s,d,j=>by
  rw[aS]at j;have lN:(p0 T).length<=7:=by unfold p0;rw[ah];exact g.p7
  have lo:=UK lN (UJ W) v.f;let w:=wO T M dk W V R c;let nw:List L4.D:=cmV (p0 T) (wdN W) (nf v);have m:nw.length<=49:=by show (cZ _ _).length<=49;rw[ah];exact lo
  obtain⟨b,e⟩:=PY g L (acc++nw) (.I (nr v)) (λu l=>d u (ba _ l)) (by rw[aF];omega);refine⟨b,?_⟩;rw[aU];unfold i0;let a:aM:=[.I w,.ls acc,.I (nr v)];rw[show gN 2 (nr v) [.I (wO T M dk W V R c),.ls acc,s]=U a from Z];have i:uA 2 [2] (iL (cL (u4 xu ko))) (gT j7 2) ve (uS kC) a=U (nw,a):=by refine wC p2 (p3 v.n) (obF (p0 T) (wdN W) v.f) ?_ (by omega) λq r=>⟨[.I q.1,.I q.2,.I (nr v)],[.I q.1,.I q.2,.I (nr v)],Z,Z,Z⟩;unfold iL;rw[vE (uf Z (OC g (d v bb)))]
  have h:uT (Hr 1 (uA 2 [2] (iL (cL (u4 xu ko))) (gT j7 2) ve (uS kC))) a=U (.nx [.I w,.ls (acc++nw),.I (nr v)]):=(wb (SY Z i Z (by omega)));simp only[h];rw[e,cp];rfl
def UN(b:∀v∈V,v∈v6):∀v∈V++v9,v.f∈pa:=λv a=>v_fm (by
 rcases aO.1 a with a|a
 .exact bK _ (b v a)
 .exact bC _ a)
def Np(g:et T M dk W)(a:∀v∈V,v∈v6)(lV:V.length<=6):Ef [wO T M dk W V R c]=U (cmA (p0 T) (wdN W) ((V++v9).map nf)):=by
 let w:=wO T M dk W V R c;have b:(V++v9).length<=15:=by rw[aF];show V.length+9<=15;omega
 obtain⟨d,e⟩:=PY g (V++v9) [] .un (UN a) (by simp only[gH];omega);refine zz (ρ:=[.I w,.un,d]) Z ?_;unfold Ee;refine(uh (ρ':=[.I w,.ls [],.un]) Z).t ((uh ((xE ?_).t e)));unfold iL;rw[uQ Z Z Z Z (Fu V lV _ _ _ _ _ _)]
end
abbrev Ky:=Str×Str
def kD(k:Ky):L4.D:=.ef [.str k.1,.str k.2]
def sD(P:List Ky)(v:Ky->L4.D):L4.D:=.ef (P.map λk=>.ef [kD k,v k])
def PZ(k j:Ky):fl δ (kD k) (kD j)=U (.Y (decide (k=j))):=by obtain⟨a,b⟩:=k;obtain⟨c,d⟩:=j;have e:Ln δ (.ef [.str a,.str b]) (.ef [.str c,.str d])=O:=rfl;have f:QK δ (.ef [.str a,.str b]) (.ef [.str c,.str d])=U (.Y (L3.x? (.ef [.str a,.str b]) (.ef [.str c,.str d]))):=rfl;unfold fl kD;rw[e];simp only;rw[f];congr 2;rw[dG];simp[L3.x?,L3.Dt]
theorem Jz(p:Sl)(k:Ky)(v:Ky->L4.D):∀(P:List Ky) (s:Sl),∃c,i0 (gN 2) (ff (cT (c2 (fl δ) (c2 gd aj aX) ai)) (uq (c2 gd aj aY)) uz) (P.map λk=>.ef [kD k,v k]) [p,.I (kD k),s]=U (if k∈P then .rt (v k) [p,.I (kD k),c]else .nx [p,.I (kD k),c])
 |[],s=>⟨s,by rw[aq ck];rfl⟩
 |q::P,s=>by
  let Q:Sl:=.I (.ef [kD q,v q]);have a:cT (c2 (fl δ) (c2 gd aj aX) ai) [p,.I (kD k),Q]=U (decide (q=k),[p,.I (kD k),Q]):=vp (ur Z Z (PZ _ _));rw[aU];unfold i0;rw[show gN 2 (.ef [kD q,v q]) [p,.I (kD k),s]=U [p,.I (kD k),Q] from Z];by_cases h:q=k
  .rw[br h]at a;refine⟨Q,?_⟩;simp only[uV a];rw[ak (by rw[h];exact bb),<- h];rfl
  .rw[bj h]at a;obtain⟨c,d⟩:=Jz p k v P Q;refine⟨c,?_⟩;simp only[vh a,uz];rw[d];by_cases b:k∈P
   .rw[ak b,ak (ba _ b)]
   .rw[aq b,aq λz=>by rcases aJ.1 z with z|z;exact h z.symm;exact b z]
def Nq(P:List Ky)(v:Ky->L4.D)(k:Ky):BJ [sD P v,kD k]=U (if k∈P then v k else .X):=by
 obtain⟨b,h⟩:=Jz (.I (sD P v)) k v P .un;by_cases a:k∈P
 .rw[ak a]at h ⊢;exact uv Z (uP ((xE Z).t h))
 .rw[aq a]at h ⊢;exact uv Z ((uh ((xE Z).t h)))
def up(v:Ky->L4.D)(k:Ky)(d:L4.D):Ky->L4.D:=λq=>if q=k then d else v q
def P1(P:List Ky)(hP:P.length<=900)(v:Ky->L4.D)(k:Ky)(d:L4.D):Ax [sD P v,kD k,d]=U (sD P (up v k d)):=by
 let a:aM:=[.I (sD P v),.I (kD k),.I d];refine uv (ρ:=a) Z (uF ?_);have e:cL (uA 1 [1,2] (iT ae) (gN 0) ve (A? (cT (c2 (fl δ) (c2 gd ae aX) ai)) (uS cK) ae)) a=U (.cf (P.map λq=>.ef [kD q,up v k d q]),a):=by
  refine vE (wC (λq:Ky=>.ef [kD q,v q]) (λq=>.ef [kD q,up v k d q]) P Z (by omega) λq u=>⟨[.I (.ef [kD q,v q]),.I (kD k),.I d],[.I (.ef [kD q,v q]),.I (kD k),.I d],Z,?_,Z⟩);have b:cT (c2 (fl δ) (c2 gd ae aX) ai) [.I (.ef [kD q,v q]),.I (kD k),.I d]=U (decide (q=k),[.I (.ef [kD q,v q]),.I (kD k),.I d]):=vp (ur Z Z (PZ _ _));unfold A? up;rw[b];by_cases h:q=k
  .rw[br h,ak h,h];rfl
  .rw[bj h,aq h];rfl
 show EG _ a=_;unfold EG;rw[e];rfl
def va(i2:Str->Str)(mk:Str->Int):Ky->L4.D:=λk=>if k.1="at" then .str (i2 k.2)else .int (mk k.2)
def ε{a:Type}(f:Str->a)(x:Str)(d:a):Str->a:=λy=>if y=x then d else f y
def adT(i2:Str->Str)(mk:Str->Int)(x d:Str)(P:List Ky):sD P (up (va i2 mk) ("at", x) (.str d))=sD P (va (ε i2 x d) mk):=by
 unfold sD;congr 1;refine la λk v=>?_;obtain⟨a,y⟩:=k;unfold up va ε;by_cases h:a="at"
 .subst h;by_cases b:y=x
  .subst b;simp
  .simp[b]
 .simp[h]
def adU(i2:Str->Str)(mk:Str->Int)(x:Str)(d:Int)(P:List Ky)(hP:∀k∈P,k.1="at" \/ k.1="mark"):sD P (up (va i2 mk) ("mark", x) (.int d))=sD P (va i2 (ε mk x d)):=by
 unfold sD;congr 1;refine la λk b=>?_;have b:=hP k b;obtain⟨a,y⟩:=k;unfold up va ε;rcases b with h|h
 .have h:a="at" := h;subst h;have:¬("at" : Str)="mark" := by decide
  simp[this]
 .have h:a="mark" := h;subst h;have:¬("mark" : Str)="at" := by decide
  by_cases c:y=x
  .subst c;simp[this]
  .simp[c,this]
def getD_map{c d:Type}(f:c->d)(a:c)(b:d)(l:List c){i:Nat}(h:i<l.length):(l.map f).getD i b=f (l.getD i a):=by rw[c6,c6,bA,bg h];rfl
def OD{a:Type}(d:a):∀l:List a,(aZ l.length).map (λi=>l.getD i d)=l:=λl=>by
 apply List.ext_getElem
 .rw[ah,cj]
 .intro i c b;rw[List.getElem_map,List.getElem_range,c6,bg b];rfl
def kL2(k:Ky):aE:=[k.1,k.2]
theorem Nr:∀P:List Ky,yy (P.map kD)=U (P.map kL2)
 |[]=>rfl
 |q::P=>by rw[aU];unfold yy;rw[Nr P];rfl
def UO(P:List Ky)(a:0<P.length)(b:P.length<64):∃Rk:List Ky,Rk.Perm P/\DY (P.map kD)=U (Rk.map kD):=by
 let c:Nat->Nat->Bool:=λi j=>JL ((P.map kL2).getD i []) ((P.map kL2).getD j []);refine⟨(Of c P.length).map λi=>P.getD i ("", ""),?_,?_⟩
 .have:=(FP c a).map λi=>P.getD i ("", "");rw[OD]at this;exact this
 .unfold DY;rw[Nr];simp only[ah];rw[ak ⟨a,b⟩,bf];congr 1;exact la λi d=>getD_map kD ("", "") .X P (Lr c a i d)
def K'(T:List Th):aE:=(T.filter λt=>!decide (t.k=.room)).map Th.n
def PT(T:List Th)(M:List Mk):List Ky:=((K' T).map λx=>(("at", x):Ky))++(xo T M).map λx=>(("mark", x):Ky)
def abJ(t:Th):fl γ (.str t.k.s) (.str "room")=U (.Y (!decide (t.k=.room))):=by cases t.k<;>kernel_rfl
section
variable{T:List Th}{M:List Mk}{dk:aE}{W:List Wy}{V:List Vb}{R:List L4.D}{c:L4.D}{P:List Ky}
def UP(T:List Th):(K' T).length<=T.length:=by unfold K';rw[ah];exact cH _ _
def UQ(T:List Th)(M:List Mk):(xo T M).length<=T.length+M.length:=by unfold xo;rw[aF,ah,ah];have:=cH (λt:Th=>t.k.mk) T;omega
def Nt(g:et T M dk W):∃t∈T,t.n="me" /\ t.k=.you:=by
 have h:("me" : Str)∈(T.filter λt=>decide (t.k=.you)).map Th.n:=by rw[g.y1];exact bh.2 Z
 obtain⟨t,a,e⟩:=av.1 h;rw[aT]at a;exact⟨t,a.1,e,bq a.2⟩
def LS{T:List Th}(b:(T.map Th.n).Nodup){t u:Th}(d:t∈T)(f:u∈T)(e:t.n=u.n):t=u:=by
 induction T with
 |nil=>cases d
 |cons a T h=>
  rw[aU,dH]at b;rcases aJ.1 d with h1|h1<;>rcases aJ.1 f with h2|h2
  .rw[h1,h2]
  .exact ar (show a.n∈T.map Th.n from by rw[<-h1,e];exact av.2 ⟨_,h2,Z⟩) b.1
  .exact ar (show a.n∈T.map Th.n from by rw[<-h2,<- e];exact av.2 ⟨_,h1,Z⟩) b.1
  .exact h b.2 h1 h2
def LU(d:(T.map Th.n).Nodup)(p:Th->Bool){t:Th}(b:t∈T):t.n∈(T.filter p).map Th.n ↔ p t=γ:=by
 constructor
 .intro h;obtain⟨u,a,e⟩:=av.1 h;rw[aT]at a;rw[<-LS d a.1 b e];exact a.2
 .exact λh=>av.2 ⟨t,aT.2 ⟨b,h⟩,Z⟩
def XZ(g:et T M dk W):("me" : Str)∈K' T:=by obtain⟨t,a,e,k⟩:=Nt g;rw[<-e];exact(LU g.E' _ a).2 (by rw[k];rfl)
def OE(g:et T M dk W):0<(PT T M).length/\(PT T M).length<64:=by have a:=UP T;have b:=UQ T M;have d:=js (XZ g);have e:=g.len;have f:=g.m4;unfold PT;rw[aF,ah,ah];omega
def UR(h:P.Perm (PT T M))(x:Str):(("at", x):Ky)∈P ↔ x∈K' T:=by
 rw[h.mem_iff];unfold PT;rw[aO,av,av];constructor
 .rintro(⟨y,a,e⟩|⟨y,a,e⟩)
  .injection e with _ e;rw[<-e];exact a
  .injection e with e _;exact ar e (by decide)
 .exact λh=>.inl ⟨x,h,Z⟩
def X0(h:P.Perm (PT T M))(x:Str):(("mark", x):Ky)∈P ↔ x∈xo T M:=by
 rw[h.mem_iff];unfold PT;rw[aO,av,av];constructor
 .rintro(⟨y,a,e⟩|⟨y,a,e⟩)
  .injection e with e _;exact ar e (by decide)
  .injection e with _ e;rw[<-e];exact a
 .exact λh=>.inr ⟨x,h,Z⟩
def X2(h:P.Perm (PT T M)):∀k∈P,k.1="at" \/ k.1="mark" := λk a=>by
 have a:=h.mem_iff.1 a;unfold PT at a;rw[aO,av,av]at a;rcases a with ⟨y,_,rfl⟩|⟨y,_,rfl⟩
 .exact .inl Z
 .exact .inr Z
def US(g:et T M dk W):∃Rk:List Ky,Rk.Perm (PT T M)/\DY ((PT T M).map kD)=U (Rk.map kD)/\AO [wO T M dk W V R c]=U (.cf (Rk.map kD)):=by
 have hT:=g.len;have hM:=g.m4;obtain⟨j,l⟩:=OE g;obtain⟨Rk,pR,e⟩:=UO (PT T M) j l;refine⟨Rk,pR,e,?_⟩;let w:=wO T M dk W V R c;let a:L4.D:=.cf ((K' T).map λx=>kD ("at", x));let b:L4.D:=.cf ((xo T M).map λx=>kD ("mark", x));let d:Sl->Sl->aM:=λp q=>[.I w,p,q];have m:=UP T;have o:=UQ T M;have f:uA 1 [] (iL (c1 (uo v8 "kept_things") ae)) (gN 0) (cT (c2 (fl γ) (c1 (uo uW "kind") ae) dR)) (uS (bt jb m7)) (d .un .un)=U ((T.filter λt=>!decide (t.k=.room)).map λt=>kD ("at", t.n),d .un .un):=
  ze e? (λt=>kD ("at", t.n)) (λt=>!decide (t.k=.room)) T Z (by omega) λt v=>⟨[.I (e? t)],[.I (e? t)],Z,vp (ur (uY Z (AR t)) Z (abJ t)),λv=>⟨_,Z,Z⟩,λv=>Z⟩
 have h:uA 1 [] (iL (cL (u4 yn rj))) (gN 0) ve (uS (bt ka bJ)) (d (.I a) .un)=U ((xo T M).map λx=>kD ("mark", x),d (.I a) .un):=
  wC D.str (λx=>kD ("mark", x)) (xo T M) (Da (vE (uf Z (DQ T M (by omega) hM)))) (by omega) λx v=>⟨[.I (.str x)],[.I (.str x)],Z,Z,Z⟩
 have i:FU (cL (wG ai aj)) (d (.I a) (.I b))=U (Rk.map kD,d (.I a) (.I b)):=by
  have q:cL (wG ai aj) (d (.I a) (.I b))=U (.cf ((PT T M).map kD),d (.I a) (.I b)):=by refine(vE (vZ Z Z (by rw[ah,ah];omega))).t ?_;unfold PT;rw[bu,bf,bf];rfl
  unfold FU;rw[q];simp only[e]
 refine DX (ρ:=d (.I a) (.I b)) Z ?_;refine(uh ((vm (vE f)).t ?_)).t ((uh ((vm (vE h)))).t (wX i));show U (H4.nx [Sl.I w,.I (.cf ((T.filter λt=>!decide (t.k=.room)).map λt=>kD ("at", t.n))),.un])=U (H4.nx [Sl.I w,.I (.cf (((T.filter λt=>!decide (t.k=.room)).map Th.n).map λx=>kD ("at", x))),.un]);rw[bf];rfl
def yY(b:(T.map Th.n).Nodup){t:Th}(a:t∈T):vX [wO T M dk W V R c,.str t.n]=U (e? t):=by refine uv Z (uF (ur Z Z ?_));show U ((vC (nK T) (T.map e?) (kS t.n)).getD .X)=_;rw[Fs b e? a];rfl
def Rq(g:et T M dk W):BI [wO T M dk W V R c]=U (.Z (M.map λm=>kS m.n) (M.map λm=>D.int m.st)):=by
 let w:=wO T M dk W V R c;have j:((M.map λm=>kS m.n)).Nodup:=by have:=(cg.1 g.nd).2.1;rw[show (λm:Mk=>kS m.n)=kS∘Mk.n from Z,<- bf];exact o6.2 (this.imp λh e=>h (LJ e))
 have q:=g.m4;obtain⟨l,e⟩:=Bh (g:=gN 2) (i:=1) (fk:=c1 (uo uD "name") aj) (fv:=c1 (uo vK "start") aj) M' Mk.n (λm=>D.int m.st) (λb a s=>[.I w,.dk b a,s])
  (λm b a s=>⟨[.I w,.dk b a,.I (M' m)],Z,Z,Z,Z,λf d=>⟨_,Z⟩⟩) M [] [] .un (by rw[cI];exact j) (by simp;omega) Z
 rw[cI,cI]at e;refine uv (ρ:=[.I w,.I (.Z (M.map λm=>kS m.n) (M.map λm=>D.int m.st)),l]) Z ?_;refine(uh Z).t ?_;refine(uh ((xE ?_).t e));exact Da (uQ Z Z Z Z Z)
def UT(g:et T M dk W){t:Th}(a:t∈T)(st:L4.D):xK [wO T M dk W V R c,st,kD ("at", t.n)]=U (oS t.s):=by refine uv Z (uP ((uV (vp (ur Z Z (by rw[we];rfl)))).t (uF (uY (uQ Z Z Z Z (yY g.E' a)) (HJ t)))))
def OF(x:Str)(b:List ey)(a:List L4.D):xK [wO T M dk W V R c,.Z b a,kD ("mark", x)]=U ((vC b a (kS x)).getD (.int 0)):=by refine uv Z ((uh ((vh (vp (ur Z Z (by rw[we];rfl)))))).t Z)
theorem Nu{d:Type}(kf:d->ey)(b:d->Int)(k:ey):∀l:List d,∃z,(vC (l.map kf) (l.map λa=>D.int (b a)) k).getD (.int 0)=.int z
 |[]=>⟨0,Z⟩
 |a::l=>by
  rw[aU,aU];unfold vC;split
  .exact⟨b a,Z⟩
  .exact Nu kf b k l
def at0(T:List Th)(x:Str):Str:=((T.find? λt=>decide (t.n=x)).bind Th.s).getD ""
def LV(b:(T.map Th.n).Nodup){t:Th}(a:t∈T):at0 T t.n=t.s.getD "" := by
 unfold at0;cases h:T.find? λu=>decide (u.n=t.n)with
 |none=>exact ar (oU.1 h t a) (by simp)
 |some u=>rw[LS b (List.mem_of_find?_eq_some h) a (bq (pS (p:=λu:Th=>decide (u.n=t.n)) h))];rfl
def P2(g:et T M dk W){t:Th}(j:t∈T)(h:t.k≠.room):∃p,t.s=U p/\p∈rb T/\(t.k=.you->p∈n9 T):=by
 have a:=g.st t j;unfold Dp at a;have l:∀p,p∈n9 T->p∈rb T:=λp i=>by obtain⟨u,d,e⟩:=av.1 i;rw[aT]at d;exact av.2 ⟨u,aT.2 ⟨d.1,by rw[bq d.2];rfl⟩,e⟩
 cases f:t.s with
 |none=>rw[f]at a;cases b:t.k<;>rw[b]at a h<;>first|exact ar Z h|exact a.elim
 |some p=>rw[f]at a;refine⟨p,Z,?_⟩;cases b:t.k<;>rw[b]at a h<;>first|exact ar Z h|exact⟨l p a,λv=>a⟩|exact⟨a,λz=>by cases z⟩
def UU(g:et T M dk W):∃(P:List Ky) (m:Str->Int),P.Perm (PT T M)/\DY ((PT T M).map kD)=U (P.map kD)/\AO [wO T M dk W V R c]=U (.cf (P.map kD))/\(∀x,(vC (M.map λm=>kS m.n) (M.map λm=>D.int m.st) (kS x)).getD (.int 0)=.int (m x))/\xM [wO T M dk W V R c]=U (sD P (va (at0 T) m)):=by
 obtain⟨Rk,pR,eS,eR⟩:=US g;have d:∀x,∃z,(vC (M.map λm=>kS m.n) (M.map λm=>D.int m.st) (kS x)).getD (.int 0)=.int z:=λx=>Nu (λm:Mk=>kS m.n) Mk.st (kS x) M;refine⟨Rk,λx=>(d x).choose,pR,eS,eR,λx=>(d x).choose_spec,?_⟩;let w:=wO T M dk W V R c;let st:L4.D:=.Z (M.map λm=>kS m.n) (M.map λm=>D.int m.st);have hR:Rk.length<64:=by rw[pR.length_eq];exact(OE g).2
 have val:∀k∈Rk,xK [w,st,kD k]=U (va (at0 T) (λx=>(d x).choose) k):=λk i=>by
  obtain⟨a,x⟩:=k;rcases X2 pR _ i with h|h
  .have h:a="at" := h;subst h;have l:=(UR pR x).1 i;obtain⟨t,b,rfl⟩:=av.1 l;rw[aT]at b;obtain⟨p,j,_⟩:=P2 g b.1 (λz=>by rw[z]at b;exact ar b.2 (by decide));rw[UT g b.1];unfold va;rw[ak Z,LV g.E' b.1,j];rfl
  .have h:a="mark" := h;subst h;rw[OF,(d x).choose_spec];unfold va;rw[aq (show ¬("mark" : Str)="at" by decide)]
 let f:aM:=[.I w,.I st];refine uv (ρ:=f) Z ((uh ((vm (uf Z (Rq g))))).t (uF ?_));have e:=wC (k:=1) (er:=[0,1]) (g:=gN 0) (fe:=uS rQ) (s:=iL (uG Av "parts" ae uN)) (ρ:=f) kD (λk=>.ef [kD k,va (at0 T) (λx=>(d x).choose) k]) Rk
  (Da (uQ Z Z Z Z eR)) (by omega) λk i=>⟨[.I (kD k),.I w,.I st],[.I (kD k),.I w,.I st],Z,Zt (um Z (um (uf Z (val k i)) Z)) (show 2<=1000 by decide),Z⟩
 show EG _ f=_;unfold EG;rw[vE e];rfl
end
inductive Ch(T:List Th) (a:Str->Str):Str->aE->Prop
 |nil {x:Str} (h:x∉K' T):Ch T a x []
 |cons {x:Str} {l:aE} (h:x∈K' T) (c:Ch T a (a x) l):Ch T a x (a x::l)
structure dr(T:List Th)(a:Str->Str):Prop where
 me:a "me" ∈ n9 T
 hd:∀x∈K' T,a x∈rb T
 ch:∀x,∃l,Ch T a x l
section
variable{T:List Th}{M:List Mk}{dk:aE}{W:List Wy}{V:List Vb}{R:List L4.D}{c:L4.D}{P:List Ky}{a:Str->Str}{m:Str->Int}
def abK{x:Str}{l e:aE}(h:Ch T a x l):Ch T a x e->l=e:=by
 induction h generalizing e with
 |nil h=>intro b;cases b with
  |nil _=>rfl
  |cons b _=>exact ar b h
 |cons h _ f=>intro b;cases b with
  |nil b=>exact ar h b
  |cons _ d=>rw[f d]
def abL{x:Str}{l:aE}(h:Ch T a x l):∀y∈l,∃f,Ch T a y f/\f.length<l.length:=by
 induction h with
 |nil _=>intro y b;cases b
 |@cons x l h d j=>
  intro y b;rcases aJ.1 b with e|b
  .rw[e];exact⟨l,d,by rw[aS];omega⟩
  .obtain⟨f,i,o⟩:=j y b;exact⟨f,i,by rw[aS];omega⟩
def Xd{x:Str}{l:aE}(h:Ch T a x l):x∉l:=λe=>by obtain⟨f,d,b⟩:=abL h x e;rw[abK h d]at b;exact eI _ b
def adV{x:Str}{l:aE}(h:Ch T a x l):l.Nodup:=by
 induction h with
 |nil _=>exact l5
 |@cons x l h d b=>exact dH.2 ⟨Xd d,b⟩
def X3(i:dr T a){x:Str}{l:aE}(h:Ch T a x l):∀y∈l,y∈rb T:=by
 induction h with
 |nil _=>intro y b;cases b
 |@cons x l h d f=>
  intro y b;rcases aJ.1 b with e|b
  .rw[e];exact i.hd x h
  .exact f y b
theorem UV:∀{l L:aE},l.Nodup->(∀x∈l,x∈L)->l.length<=L.length
 |[],L,_,_=>cD _
 |a::l,L,b,e=>by rw[dH]at b;have d:=e a bb;have:=UV b.2 λz f=>(og (show z≠a from λw=>b.1 (w▸f))).2 (e z (ba _ f));rw[nL d]at this;have:=js d;rw[aS];omega
def OG(g:et T M dk W)(i:dr T a){x:Str}{l:aE}(h:Ch T a x l):l.length<=13:=by
 have b:=UV (adV h) (X3 i h);have d:(rb T).length<=T.length:=by unfold rb;rw[ah];exact cH _ _
 have:=g.len;omega
def Xe{x b:Str}{w:Str}{l:aE}(h:Ch T a w l):w≠x->x∉l->Ch T (ε a x b) w l:=by
 induction h with
 |nil h=>intro _ _;exact .nil h
 |@cons w l h d o=>intro j i;have e:ε a x b w=a w:=aq j;have f:=o (λz=>i (by rw[z];exact bb)) λz=>i (ba _ z);rw[<-e]at f ⊢;exact .cons h f
def dr.mv(g:et T M dk W)(i:dr T a){x b:Str}(q:x∈K' T)(hb:b∈rb T)(hm:x="me" -> b∈n9 T)(h1:b≠x){f:aE}(o:Ch T a b f)(h2:x∉f):dr T (ε a x b) where
 me:=by
  unfold ε;by_cases e:("me" : Str)=x
  .rw[ak e];exact hm e.symm
  .rw[aq e];exact i.me
 hd:=λy r=>by
  unfold ε;by_cases e:y=x
  .rw[ak e];exact hb
  .rw[aq e];exact i.hd y r
 ch:=λw=>by
  have cx:Ch T (ε a x b) x (ε a x b x::f):=.cons q (by rw[show ε a x b x=b from ak Z];exact Xe o h1 h2);obtain⟨l,h⟩:=i.ch w
  induction h with
  |nil h=>exact⟨_,.nil h⟩
  |@cons w l h d t=>
   by_cases e:w=x
   .rw[e];exact⟨_,cx⟩
   .obtain⟨u,j⟩:=t;have p:ε a x b w=a w:=aq e;rw[<-p]at j;exact⟨_,.cons h j⟩
def P3(p:P.Perm (PT T M))(x:Str):Aw [sD P (va a m),.str x]=U (if x∈K' T then .str (a x)else .X):=by
 refine uv Z (uF (uf Z ((Nq P (va a m) ("at", x)).t ?_)));congr 1;by_cases h:x∈K' T
 .rw[ak h,ak ((UR p x).2 h)];unfold va;rw[ak Z]
 .rw[aq h,aq λz=>h ((UR p x).1 z)]
def LW(p:P.Perm (PT T M))(x:Str):zr [sD P (va a m),.str x]=U (if x∈xo T M then .int (m x)else .X):=by
 refine uv Z (uF (uf Z ((Nq P (va a m) ("mark", x)).t ?_)));congr 1;by_cases h:x∈xo T M
 .rw[ak h,ak ((X0 p x).2 h)];unfold va;rw[aq (show ¬("mark" : Str)="at" by decide)]
 .rw[aq h,aq λz=>h ((X0 p x).1 z)]
def aD(T:List Th)(a:Str->Str)(x:Str):L4.D:=if x∈K' T then .str (a x)else .X
def Rr(p:P.Perm (PT T M))(w e:Sl){x:Str}{l:aE}(h:Ch T a x l):∀(n:Nat) (b:List L4.D),l.length<n->b.length+l.length<=1000->
  whL (cT (c2 vR aH aI)) (bx (uT (AX 3 aH)) (uJ 4 (ug Aw kE))) n [w,.I (sD P (va a m)),e,.ls b,.I (aD T a x)]=U (.nx [w,.I (sD P (va a m)),e,.ls (b++l.map D.str),.I .X]):=by
 let S:=sD P (va a m)
 induction h with
 |@nil x h=>
  intro n b f _;rw[show aD T a x=.X from aq h];cases n with
  |zero=>cases f
  |succ n=>rw[fH,bO];rfl
 |@cons x l h d o=>
  intro n b f j;rw[show aD T a x=.str (a x) from ak h];rw[aS]at f j;cases n with
  |zero=>cases f
  |succ n=>
   have i:bx (uT (AX 3 aH)) (uJ 4 (ug Aw kE)) [w,.I S,e,.ls b,.I (.str (a x))]=U (.nx [w,.I S,e,.ls (b++[.str (a x)]),.I (aD T a (a x))]):=by refine(uh (wb ((SX Z Z Z (by omega))))).t ?_;exact(vm (uf Z (P3 p (a x)))).t Z
   rw[aU];unfold whL;rw[show cT (c2 vR aH aI) [w,.I (sD P (va a m)),e,.ls b,.I (.str (a x))]=U (γ,[w,.I S,e,.ls b,.I (.str (a x))]) from Z];simp only[i];refine(o n (b++[.str (a x)]) (by omega) (by rw[aF,dh];omega)).t ?_;rw[cp];rfl
def LX(p:P.Perm (PT T M))(w:L4.D){x:Str}{l:aE}(h:Ch T a x l)(b:l.length<=13):xq [w,sD P (va a m),.str x]=U (l.map D.str):=by let S:=sD P (va a m);refine zz (ρ:=[.I w,.I S,.I (.str x),.un,.I .X]) Z ?_;refine(uh Z).t ?_;refine(uh ((vm (uf Z (P3 p x))))).t ?_;exact(uh (Rr p (.I w) (.I (.str x)) h 50 [] (by omega) (by simp;omega)))
def abM(p:P.Perm (PT T M)){x:Str}{l:aE}(h:Ch T a x l)(b:l.length<=13):Ud [wO T M dk W V R c,sD P (va a m),.str x]=U (.Y (decide (("me" : Str)∈l))):=by refine uv Z (uF (ur (uQ Z Z Z Z Z) (vE (uf Z (LX p _ h b))) (wM δ _ _)))
def inv0(g:et T M dk W):dr T (at0 T) where
 me:=by obtain⟨t,b,e,k⟩:=Nt g;obtain⟨q,h1,_,h2⟩:=P2 g b (by rw[k];exact λz=>by cases z);rw[<-e,LV g.E' b,h1];exact h2 k
 hd:=λx f=>by obtain⟨t,b,rfl⟩:=av.1 f;rw[aT]at b;obtain⟨q,h1,h2,_⟩:=P2 g b.1 (λz=>by rw[z]at b;exact ar b.2 (by decide));rw[LV g.E' b.1,h1];exact h2
 ch:=λx=>by
  obtain⟨r,hr⟩:=g.rk;have:∀(n:Nat) (x:Str),r x<n->∃l,Ch T (at0 T) x l:=by
   intro n
   induction n with
   |zero=>intro x h;cases h
   |succ n i=>
    intro x h;by_cases f:x∈K' T
    .obtain⟨t,b,rfl⟩:=av.1 f;rw[aT]at b;obtain⟨q,h1,_,_⟩:=P2 g b.1 (λz=>by rw[z]at b;exact ar b.2 (by decide));have e:at0 T t.n=q:=by rw[LV g.E' b.1,h1];rfl
     have h2:=((hr t b.1).2 q h1).1;obtain⟨l,d⟩:=i q (by omega);rw[<-e]at d;exact⟨_,.cons f d⟩
    .exact⟨_,.nil f⟩
  exact this (r x+1) x (by omega)
end
def wq{e b:FE}{ρ a:aM}(c:e ρ=U (.Y δ,a)):vw e b ρ=U (.Y δ,a):=by unfold vw;rw[c]
section
variable{T:List Th}{M:List Mk}{dk:aE}{W:List Wy}{V:List Vb}{R:List L4.D}{c:L4.D}{P:List Ky}{a:Str->Str}{m:Str->Int}
structure P?(T:List Th)(M:List Mk)(dk:aE)(W:List Wy)(P:List Ky)(a:Str->Str):Prop where
 g:et T M dk W
 p:P.Perm (PT T M)
 i:dr T a
def adW{x:Str}(h:x∈rb T):∃t∈T,t.n=x/\t.k.hd=γ:=by obtain⟨t,b,e⟩:=av.1 h;rw[aT]at b;exact⟨t,b.1,e,b.2⟩
def X4(g:et T M dk W){t:Th}(b:t∈T):t.n∈xo T M ↔ t.k.mk=γ:=by
 unfold xo;rw[aO,LU g.E' _ b];constructor
 .rintro(h|h)
  .exact h
  .exact ar Z ((cg.1 g.nd).2.2 _ (av.2 ⟨t,b,Z⟩) _ h)
 .exact .inl
def P4(t:Th)(k:Kd):fl δ (.str t.k.s) (.str k.s)=U (.Y (decide (t.k=k))):=Hl t.k k
def Xf(s:P? T M dk W P a){x:Str}(i:x∈rb T):∃b,yF [wO T M dk W V R c,sD P (va a m),.str x]=U (.Y b):=by
 obtain⟨t,e,rfl,_⟩:=adW i;let f:aM:=[.I (wO T M dk W V R c),.I (sD P (va a m)),.I (.str t.n)];have d:c2 (fl δ) (c1 (uo uW "kind") (uG uL "thing_of" ae cG)) dS f=U (.Y (decide (t.k=.box)),f):=
  ur (uY (uQ Z Z Z Z (yY s.g.E' e)) (AR t)) Z (P4 t .box)
 by_cases h:t.k=.box
 .rw[br h]at d;refine⟨decide (m t.n=0),uv Z (uF ((ux d).t (ur (uf Z ((LW s.p t.n).t (by rw[ak ((X4 s.g e).2 (by rw[h];rfl))]))) Z ?_)))⟩;rw[zg];rfl
 .rw[bj h]at d;exact⟨δ,uv Z (uF (wq d))⟩
def opn(b:Str->Bool)(h:Str):aE->Bool
 |[]=>δ
 |a::l=>if a=h then γ else if b a then δ else opn b h l
def UW{b:Str->Bool}{h a:Str}{l:aE}:opn b h (a::l)=if a=h then γ else if b a then δ else opn b h l:=rfl
def oB:FS:=(bx (ff (cT (c2 (fl δ) aH aA)) (uq cU) uz)
 (ff (cT (ug yF nz)) (uq bY) uz))
theorem KW{w st x:L4.D}{e:Str->Bool}(h:Str):∀(l:aE) (s:Sl),(∀a∈l,yF [w,st,.str a]=U (.Y (e a)))->∃o,i0 (gN 4) oB (l.map D.str) [.I w,.I st,.I x,.I (.str h),s]=U (.rt (.Y (opn e h l)) [.I w,.I st,.I x,.I (.str h),o])\/(opn e h l=δ/\i0 (gN 4) oB (l.map D.str) [.I w,.I st,.I x,.I (.str h),s]=U (.nx [.I w,.I st,.I x,.I (.str h),o]))
 |[],s,_=>⟨s,.inr ⟨Z,Z⟩⟩
 |a::l,s,r=>by
  let d:aM:=[.I w,.I st,.I x,.I (.str h),.I (.str a)];have f:cT (c2 (fl δ) aH aA) d=U (decide (a=h),d):=vp (ur Z Z (we δ a h));have i:cT (ug yF nz) d=U (e a,d):=vp (uf Z (r a bb));rw[aU];unfold i0;rw[show gN 4 (.str a) [.I w,.I st,.I x,.I (.str h),s]=U d from Z];rw[UW];by_cases j:a=h
  .rw[br j]at f;rw[ak j];refine⟨.I (.str a),.inl ?_⟩;have p:oB d=U (.rt (.Y γ) d):=uP ((uV f));simp only[p];rfl
  .rw[bj j]at f;rw[aq j];have p:oB d=_:=uh ((vh f));simp only[p];cases q:e a with
   |true=>rw[q]at i;refine⟨.I (.str a),.inl ?_⟩;simp only[(uV i).t (Z:uq bY d=U (.rt (.Y δ) d)),if_true];rfl
   |false=>rw[q]at i;obtain⟨o,g⟩:=KW h l (.I (.str a)) λb t=>r b (ba _ t);refine⟨o,?_⟩;simp only[(vh i).t (Z:uz d=U (.nx d)),eE,if_false];exact g
def LY(s:P? T M dk W P a)(x h:Str):∃b,yG [wO T M dk W V R c,sD P (va a m),.str x,.str h]=U (.Y b):=by
 obtain⟨l,d⟩:=s.i.ch x;have o:∀y:Str,∃b:Bool,y∈rb T->yF [wO T M dk W V R c,sD P (va a m),.str y]=U (.Y b):=λy=>by
  by_cases f:y∈rb T
  .obtain⟨b,e⟩:=Xf s f;exact⟨b,λv=>e⟩
  .exact⟨δ,λz=>ar z f⟩
 refine⟨opn (λy=>(o y).choose) h l,?_⟩;obtain⟨t,q⟩:=KW h l .un λy f=>(o y).choose_spec (X3 s.i d y f);have j:=vE (uf (a:=bt ae cK) (ρ:=[.I (wO T M dk W V R c),.I (sD P (va a m)),.I (.str x),.I (.str h),.un]) Z (LX s.p _ d (OG s.g s.i d)));rcases q with q|⟨r,q⟩
 .exact uv Z (uP ((xE (Da j)).t q))
 .rw[r];exact uv Z ((uh ((xE (Da j)).t q)))
def LZ(s:P? T M dk W P a):zt [wO T M dk W V R c,sD P (va a m)]=U (.str (a "me")):=
 uv Z (uF (uf (um Z (um (uQ Z Z Z Z Z) Z)) ((P3 s.p "me").t (by rw[ak (XZ s.g)]))))
def UX(s:P? T M dk W P a){t:Th}(i:t∈T)(h:t.k=.lamp)(r:Str):∃b,zT [wO T M dk W V R c,sD P (va a m),.str t.n,.str r]=U (.Y b):=by
 let e:aM:=[.I (wO T M dk W V R c),.I (sD P (va a m)),.I (.str t.n),.I (.str r)];have d:c2 (fl δ) (ug zr cK) aY e=U (.Y (decide (m t.n=1)),e):=ur (uf Z ((LW s.p t.n).t (by rw[ak ((X4 s.g i).2 (by rw[h];rfl))]))) Z (by rw[zg];rfl);obtain⟨b,f⟩:=LY s t.n r;cases q:decide (m t.n=1)with
 |true=>rw[q]at d;exact⟨b,uv Z (uF ((ux d).t (uf Z f)))⟩
 |false=>rw[q]at d;exact⟨δ,uv Z (uF (wq d))⟩
def UY(s:P? T M dk W P a):∃b,Fb [wO T M dk W V R c,sD P (va a m)]=U (.Y b):=by
 let w:=wO T M dk W V R c;let r:=a "me";let S:=sD P (va a m);let f:aM:=[.I w,.I S,.I (.str r)];have o:uJ 2 (ug zt cO) [.I w,.I S,.un]=U (.nx f):=(vm (uf Z (LZ s))).t Z;have i:vN (cT (uG yK "is_dark" ae cG)) f=U (!decide (r∈dk),f):=wY (vp (uQ Z Z Z Z (uv Z (uF (ur Z Z (wM δ r dk))))));cases q:decide (r∈dk)with
 |false=>rw[q]at i;exact⟨γ,uv Z ((uh o).t (uP ((uV i))))⟩
 |true=>
  rw[q]at i;have u:=s.g.len;let L:=T.filter λt=>decide (t.k=.lamp);have l:∀t:Th,∃b:Bool,t∈L->zT [w,S,.str t.n,.str r]=U (.Y b):=λt=>by
   by_cases j:t∈L
   .have h:=aT.1 j;obtain⟨b,e⟩:=UX s h.1 (bq h.2) r;exact⟨b,λv=>e⟩
   .exact⟨δ,λz=>ar z j⟩
  have p:uA 1 [0,1,2] (iL (uG xJ "of_kind" ae je)) (gN 0) ve (ug zT rR) f=U (L.map λt=>D.Y (l t).choose,f):=by have d:L.length<=1000:=bF (cH _ _) (by omega);exact wC (λt:Th=>D.str t.n) (λt=>D.Y (l t).choose) L (Da (uQ Z Z Z Z (Jt T (by omega) _ _ .lamp))) d λt j=>⟨[.I (.str t.n),.I w,.I S,.I (.str r)],[.I (.str t.n),.I w,.I S,.I (.str r)],Z,uf Z ((l t).choose_spec j),Z⟩
  exact⟨_,uv Z ((uh o).t ((uh ((vh i))).t (uF (uY (vE p) (Pl _ _)))))⟩
def P5(s:P? T M dk W P a){t:Th}(u:t∈T):∃b,x8 [wO T M dk W V R c,sD P (va a m),.str t.n]=U (.Y b):=by
 let w:=wO T M dk W V R c;let S:=sD P (va a m);let d:aM:=[.I w,.I S,.I (.str t.n),.I (e? t)];have f:uJ 3 (uG uL "thing_of" ae cG) [.I w,.I S,.I (.str t.n),.un]=U (.nx d):=(vm (uQ Z Z Z Z (yY s.g.E' u))).t Z;have e:w9 (cT (c2 yA aA aI)) (vN (cT (uG vt "is_plainly" aA uN))) d=U (!t.k.pl,d):=zy Z (wY (vp (uQ Z Z Z Z (CZ t))));obtain⟨i,p⟩:=LY s t.n "me";obtain⟨j,q⟩:=LY s t.n (a "me");obtain⟨x,r⟩:=UY s;have h:cT (ug yG rq) d=U (i,d):=vp (uf (um Z (um Z (um Z (um (uQ Z Z Z Z Z) Z)))) p);have l:ug yG rK d=U (.Y j,d):=uf (um Z (um Z (um Z (um (uf Z (LZ s)) Z)))) q;cases o:t.k.pl with
 |false=>rw[o]at e;exact⟨_,uv Z ((uh f).t (uP ((uV e))))⟩
 |true=>
  rw[o]at e;cases i with
  |true=>exact⟨_,uv Z ((uh f).t ((uh ((vh e))).t (uP ((uV h)))))⟩
  |false=>
   cases j with
   |true=>exact⟨_,uv Z ((uh f).t ((uh ((vh e))).t ((uh ((vh h))).t (uF ((ux l).t (uf Z r))))))⟩
   |false=>exact⟨_,uv Z ((uh f).t ((uh ((vh e))).t ((uh ((vh h))).t (uF (wq l)))))⟩
def Xg(S:L4.D):x8 [wO T M dk W V R c,S,.X]=U (.Y δ):=by let w:=wO T M dk W V R c;let d:aM:=[.I w,.I S,.I .X,.I .X];have b:uJ 3 (uG uL "thing_of" ae cG) [.I w,.I S,.I .X,.un]=U (.nx d):=(vm (uQ Z Z Z Z (by rfl))).t Z;exact uv Z ((uh b).t (uP ((uV Z))))
end
def q3(v:Str)(x y:Option Str):L4.D:=.ef [.str v,oS x,oS y]
def Cm(T:List Th)(W:List Wy)(v:Vb)(x y:Option Str):Prop:=(v.f="one" /\ ∃n∈p0 T,x=U n/\y=O)\/(v.f="two" /\ ∃n∈p0 T,∃k∈p0 T,x=U n/\y=U k)\/(v.f="alone" /\ x=O/\y=O)\/(v.f="way" /\ ∃d∈wdN W,x=U d/\y=O)
def thO(v:Vb)(x y:Option Str):List (Option Str):=if v.f="way" then [O,O]else [x,y]
section
variable{T:List Th}{M:List Mk}{dk:aE}{W:List Wy}{V:List Vb}{R:List L4.D}{c:L4.D}{P:List Ky}{a:Str->Str}{m:Str->Int}{v:Vb}{x y:Option Str}
def JA{g:Nat->Option (List L4.D->Option L4.D)}{k:Str}{e:FE}{l:FA}{j b f:aM}{h:List L4.D->Option L4.D}{i:List L4.D}{d:L4.D}(o:e j=U (wO T M dk W V R c,b))(p:g 14=U h)(q:wNs.contains k=δ)(r:l b=U (i,f))(t:h (wO T M dk W V R c::i)=U d):uG g k e l j=U (d,f):=uQ o p q r t
def Fv{q:FT}{f g:FE}{d b:aM}(h:q d=U (δ,b)):A? q f g d=g b:=by unfold A?;rw[h]
def L6(d:((V++v9).flatMap Vb.ws).Nodup)(b:v∈V++v9):wQ [wO T M dk W V R c,.str v.n]=U (nr v):=v7 Z (vg (uj (ur Z Z (LP d b)) Z))
def UZ(d:((V++v9).flatMap Vb.ws).Nodup)(b:v∈V++v9)(x y:Option Str):Ay [wO T M dk W V R c,q3 v.n x y]=U (.Y (decide (v.f="way"))):=v7 Z (uB (uZ (uj ((Fv Z).t (JA Z Z Z Z (L6 d b))) (vg (uj ((ux Z).t (ur Z Z (we δ v.f "way"))) Z)))))
def KY(d:((V++v9).flatMap Vb.ws).Nodup)(b:v∈V++v9)(x y:Option Str):vV [wO T M dk W V R c,q3 v.n x y]=U (.ef ((thO v x y).map oS)):=v7 Z (uB (Ga (uj (zy Z (vp (uf Z (UZ d b x y)))) ⟨λh=>vg (uj Z (by unfold thO;rw[ak (bq h)];rfl)),λh=>wL Z (vg (uj Z (by unfold thO;rw[aq (of_decide_eq_false h)];rfl)))⟩)))
def m_it{w S q:L4.D}(h:vV [w,q]=U (.ef [oS x,oS y])):vH [w,S,q,.str "it"]=U (oS x):=v7 Z (l0 Z (tm Z (vg (uj (ur (uf Z h) Z Z) Z))))
def Xh{w S q:L4.D}(h:vV [w,q]=U (.ef [oS x,oS y])):vH [w,S,q,.str "other"]=U (oS y):=v7 Z (l0 Z (l0 Z (tm Z (vg (uj (ur (uf Z h) Z Z) Z)))))
def abN(s:P? T M dk W P a)(q:L4.D):vH [wO T M dk W V R c,sD P (va a m),q,.str "here"]=U (.str (a "me")):=v7 Z (tm Z (vg (uj (uf Z (LZ s)) Z)))
def JB(w S q:L4.D){x:Str}(h:Nm x):vH [w,S,q,.str x]=U (.str x):=by have all:=aR.1 (show (nmL.all λx=>!decide (x="here")&&!decide (x="it")&&!decide (x="other"))=γ by kernel_rfl) x h;simp only[aV,eG,decide_eq_false_iff_not]at all;have e:∀t:Str,¬x=t->cT (c2 (fl δ) aA (cC (.str t))) [.I w,.I S,.I q,.I (.str x)]=U (δ,[.I w,.I S,.I q,.I (.str x)]):=λt b=>vp (ur Z Z ((we δ x t).t (by rw[bj b];rfl)));exact v7 Z (l0 (e _ all.1.1) (l0 (e _ all.1.2) (l0 (e _ all.2) (vg (uj Z Z)))))
def Xj(p:((V++v9).flatMap Vb.ws).Nodup)(o:v∈V++v9)(i:Cm T W v x y)(S:L4.D){t:Str}(h:By v.f t):∃z∈p0 T,vH [wO T M dk W V R c,S,q3 v.n x y,.str t]=U (.str z):=by
 have b:=KY (T:=T) (M:=M) (dk:=dk) (W:=W) (R:=R) (c:=c) p o x y;have nw:∀f:Str,f∈(["one", "two"]:aE)->v.f=f->vV [wO T M dk W V R c,q3 v.n x y]=U (.ef [oS x,oS y]):=λf j e=>by unfold thO at b;rw[aq (show ¬v.f="way" from by rw[e];intro z;rw[z]at j;exact ar j (by decide))]at b;exact b
 rcases h with ⟨rfl,h⟩|⟨rfl,h⟩
 .have b:=nw _ h Z;rcases i with ⟨_,n,d,rfl,rfl⟩|⟨_,n,d,k,l,rfl,rfl⟩|⟨e,_⟩|⟨e,_⟩
  .exact⟨n,d,m_it b⟩
  .exact⟨n,d,m_it b⟩
  .rw[e]at h;exact ar h (by decide)
  .rw[e]at h;exact ar h (by decide)
 .have b:=nw "two" (by decide) h;rcases i with ⟨e,_⟩|⟨_,n,d,k,l,rfl,rfl⟩|⟨e,_⟩|⟨e,_⟩
  .rw[e]at h;exact ar h (by decide)
  .exact⟨k,l,Xh b⟩
  .rw[e]at h;exact ar h (by decide)
  .rw[e]at h;exact ar h (by decide)
def U0(g:et T M dk W){z:Str}(h:z∈T.map Th.n):Nm z:=g.nm _ (bK _ h)
def pl_T{z:Str}(h:z∈p0 T):z∈T.map Th.n:=by obtain⟨t,b,rfl⟩:=av.1 h;exact av.2 ⟨t,(aT.1 b).1,Z⟩
def Nv{z:Str}(h:z∈rb T):z∈T.map Th.n:=by obtain⟨t,b,rfl⟩:=av.1 h;exact av.2 ⟨t,(aT.1 b).1,Z⟩
def U1{z:Str}(h:z∈n9 T):z∈T.map Th.n:=by obtain⟨t,b,rfl⟩:=av.1 h;exact av.2 ⟨t,(aT.1 b).1,Z⟩
def m_tm(s:P? T M dk W P a)(l:((V++v9).flatMap Vb.ws).Nodup)(d:v∈V++v9)(b:Cm T W v x y){N:aE}(hN:∀z∈N,z∈T.map Th.n){t:Str}(h:Tm v.f N t):∃z∈T.map Th.n,vH [wO T M dk W V R c,sD P (va a m),q3 v.n x y,.str t]=U (.str z):=by
 rcases h with h|rfl|h
 .exact⟨t,hN t h,JB _ _ _ (U0 s.g (hN t h))⟩
 .exact⟨_,U1 s.i.me,abN s _⟩
 .obtain⟨z,j,e⟩:=Xj l d b (sD P (va a m)) h;exact⟨z,pl_T j,e⟩
def Hold(k:Nat)(w S q t:L4.D)(b:Bool):Prop:=∃j e f d,t=.obj j e f/\u9 k j=U d/\e.contains "holds" = δ/\d [t,w,S,q]=U (.Y b)
def Rt(s:P? T M dk W P a)(nd:((V++v9).flatMap Vb.ws).Nodup)(Y:v∈V++v9)(S:Cm T W v x y){n:Nat}{t:L4.D}(h:Ts T M v.f n t):∀k,n<=k->∃b,Hold k (wO T M dk W V R c) (sD P (va a m)) (q3 v.n x y) t b:=by
 have B:∀{N:aE},(∀z∈N,z∈T.map Th.n)->∀{t:Str},Tm v.f N t->∃u∈T,vH [wO T M dk W V R c,sD P (va a m),q3 v.n x y,.str t]=U (.str u.n):=λhN _ h=>by obtain⟨z,A,e⟩:=m_tm s nd Y S hN h;obtain⟨u,G,rfl⟩:=av.1 A;exact⟨u,G,e⟩
 induction h with
 |@ats n t1 t2 q hb=>
  intro k _;obtain⟨z,A,o⟩:=B (λ_ h=>h) q;obtain⟨u,G,eu⟩:=B (λ_ h=>Nv h) hb;have e:=P3 (a:=a) (m:=m) s.p z.n;by_cases r:z.n∈K' T
  .rw[ak r]at e;exact⟨_,3,_,_,Eb,Z,by cases k<;>rfl,Z,v7 Z (uB (uZ (uj (uf Z o) (uB (uZ (uj (uf Z e) (vg (uj ((ux Z).t (ur Z (uf Z eu) (we δ _ _))) Z))))))))⟩
  .rw[aq r]at e;exact⟨δ,3,_,_,Eb,Z,by cases k<;>rfl,Z,v7 Z (uB (uZ (uj (uf Z o) (uB (uZ (uj (uf Z e) (vg (uj (wq Z) Z))))))))⟩
 |@has n t1 q=>intro k _;obtain⟨z,A,o⟩:=B (λ_ h=>h) q;obtain⟨l,ch⟩:=s.i.ch z.n;exact⟨_,4,_,_,G5,Z,by cases k<;>rfl,Z,v7 Z (vg (uj (uf (um Z (um Z (um (uf Z o) Z))) (abM s.p ch (OG s.g s.i ch))) Z))⟩
 |@seen n t1 q=>intro k _;obtain⟨z,A,o⟩:=B (λ_ h=>h) q;obtain⟨b,H⟩:=P5 s A;exact⟨b,5,_,_,Fg,Z,by cases k<;>rfl,Z,v7 Z (vg (uj (uf (um Z (um Z (um (uf Z o) Z))) H) Z))⟩
 |@mark n p val w=>
  intro k _;obtain⟨z,o⟩:∃z,vH [wO T M dk W V R c,sD P (va a m),q3 v.n x y,.str p.1]=U (.str z):=by
   rcases w with w|⟨w,_⟩
   .exact⟨_,JB _ _ _ (Ut s.g w)⟩
   .obtain⟨z,_,e⟩:=Xj nd Y S (sD P (va a m)) w;exact⟨z,e⟩
  have e:=LW (a:=a) (m:=m) s.p z;by_cases r:z∈xo T M
  .rw[ak r]at e;exact⟨_,6,_,_,zU,Z,by cases k<;>rfl,Z,v7 Z (uB (uZ (uj (uf (um Z (um (uf Z o) Z)) e) (vg (uj ((ux Z).t (ur Z Z (zg _ _ _))) Z)))))⟩
  .rw[aq r]at e;exact⟨δ,6,_,_,zU,Z,by cases k<;>rfl,Z,v7 Z (uB (uZ (uj (uf (um Z (um (uf Z o) Z)) e) (vg (uj (wq Z) Z)))))⟩
 |@kind n t1 kk q=>intro k _;obtain⟨u,G,o⟩:=B (λ_ h=>h) q;exact⟨_,7,_,_,Fi,Z,by cases k<;>rfl,Z,v7 Z (uB (uZ (uj (JA Z Z Z (um (uf Z o) Z) (yY s.g.E' G)) (vg (uj ((ux Z).t (ur Z Z (we _ _ _))) Z)))))⟩
 |@word n d X=>
  intro k _;obtain⟨z,rfl⟩:∃z,x=U z:=by
   rcases S with ⟨e,_⟩|⟨e,_⟩|⟨e,_⟩|⟨_,d,_,rfl,_⟩
   iterate 3 rw[e]at X;exact ar X (by decide)
   exact⟨d,Z⟩
  exact⟨_,8,_,_,Fk,Z,by cases k<;>rfl,Z,v7 Z (vg (uj ((ux (uf Z ((UZ nd Y (U z) y).t (by rw[br X])))).t (ur Z Z (we _ _ _))) Z))⟩
 |@lit n=>intro k _;obtain⟨b,H⟩:=UY s;exact⟨b,15,_,_,G7,Z,by cases k<;>rfl,Z,v7 Z (vg (uj (uf Z H) Z))⟩
 |@no n d h ih=>intro k hk;obtain⟨k,rfl⟩:∃j,k=j+1:=⟨k - 1,by omega⟩;obtain⟨b,j,ns,ds,hh,rfl,C,E,F⟩:=ih k (by omega);exact⟨!b,9,["inner"],_,e0 4 4 (yV (u9 k)),Z,Z,Z,v7 Z (vg (uj (LM (uQ Z C E Z F)) Z))⟩
 |@bo n d e h h' ih ih'=>
  intro k hk;obtain⟨k,rfl⟩:∃j,k=j+1:=⟨k - 1,by omega⟩;obtain⟨b,j,ns,ds,hh,rfl,C,E,F⟩:=ih k (by omega);obtain⟨b',j',ns',ds',hh',rfl,I,J,Q⟩:=ih' k (by omega);refine⟨b&&b',10,["one", "other"],_,e0 4 4 (yw (u9 k)),Z,Z,Z,v7 Z (vg ?_)⟩;cases b with
  |true=>exact uj ((ux (uQ Z C E Z F)).t (uQ Z I J rfl Q)) Z
  |false=>exact uj (wq (uQ Z C E Z F)) Z
end
section
variable{T:List Th}{M:List Mk}{dk:aE}{W:List Wy}{V:List Vb}{R:List L4.D}{c:L4.D}{P:List Ky}{a:Str->Str}{m:Str->Int}{v:Vb}{x y:Option Str}
def P?.len(s:P? T M dk W P a):P.length<=900:=by have:=(OE s.g).2;rw[s.p.length_eq];omega
def ad0{x:Str}(h:x∈K' T):∃t∈T,t.n=x/\¬t.k=.room:=by obtain⟨t,b,e⟩:=av.1 h;rw[aT]at b;exact⟨t,b.1,e,λz=>by rw[z]at b;exact ar b.2 (by decide)⟩
def U2(s:Str)(x:Str):fl γ (.cf [kD (s,x)]) (.cf [])=U (.Y γ):=by rfl
def Nw(g:et T M dk W){x:Str}(h:x∈K' T):D9 [wO T M dk W V R c,.str x]=U (.cf [kD ("at", x)]):=by obtain⟨t,j,rfl,i⟩:=ad0 h;let w:=wO T M dk W V R c;let b:aM:=[.I w,.I (.str t.n),.I (e? t)];have d:uJ 2 (uG uL "thing_of" ae bH) [.I w,.I (.str t.n),.un]=U (.nx b):=(vm (uQ Z Z Z Z (yY g.E' j))).t Z;have e:cT (c2 (fl δ) (c1 (uo uW "kind") aj) dR) b=U (δ,b):=vp (ur (uY Z (AR t)) Z ((P4 t .room).t (by rw[bj i])));have f:w9 (cT (c2 yA aj aI)) (cT (c2 (fl δ) (c1 (uo uW "kind") aj) dR)) b=U (δ,b):=zy Z e;refine uv (ρ:=b) Z ((uh d).t (uF ?_));unfold A?;rw[f];rfl
def Ru(g:et T M dk W){x:Str}{t:Th}(i:x∈K' T)(h:t∈T):Fd [wO T M dk W V R c,.str x,.str t.n]=U (.Y (t.k.hd&&!decide (t.n=x))):=by
 let w:=wO T M dk W V R c;let b:aM:=[.I w,.I (.str x),.I (.str t.n),.I (e? t)];have f:uJ 3 (uG uL "thing_of" ae cG) [.I w,.I (.str x),.I (.str t.n),.un]=U (.nx b):=(vm (uQ Z Z Z Z (yY g.E' h))).t Z;have d:uG vy "can_hold" aA uN b=U (.Y t.k.hd,b):=uQ Z Z Z Z (LH t);refine uv (ρ:=b) Z ((uh f).t (uF ((ux (ur (uf Z (Nw g i)) Z (U2 _ _))).t ((ux Z).t ?_))));cases e:t.k.hd with
 |true=>rw[e]at d;exact(ux d).t (ur Z Z (by rw[we];rfl))
 |false=>rw[e]at d;exact wq d
def Done(w S q d:L4.D)(o:L4.D):Prop:=∃k e f b,d=.obj k e f/\BL k=U b/\e.contains "done" = δ/\b [d,w,S,q]=U o
def stO(P:List Ky):Option ((Str->Str)×(Str->Int))->L4.D
 |none=>.X
 |some q=>sD P (va q.1 q.2)
def P6(s:P? T M dk W P a)(I:Mr T M m){q:L4.D}{t d x:Str}{u:Th}(C:x∈K' T)(A:u∈T)(H:x="me" -> u.k=.room)(F:vH [wO T M dk W V R c,sD P (va a m),q,.str t]=U (.str x))(G:vH [wO T M dk W V R c,sD P (va a m),q,.str d]=U (.str u.n)):
  ∃o,Done (wO T M dk W V R c) (sD P (va a m)) q (mvO t d) (stO P o)/\∀p,o=U p->dr T p.1/\Mr T M p.2:=by
 let w:=wO T M dk W V R c;let S:=sD P (va a m);obtain⟨l,h⟩:=s.i.ch u.n;let b:aM:=[.I (mvO t d),.I w,.I S,.I q,.I (.str x),.I (.str u.n)];have e:cT (ug Fd rN) b=U (u.k.hd&&!decide (u.n=x),b):=vp (uf Z (Ru s.g C A));have E:cT (c2 (vr δ) aH (cL (u4 xq kq))) b=U (decide (x∈l),b):=vp (ur Z (vE (uf Z (LX s.p _ h (OG s.g s.i h)))) (wM δ _ _));have r:∀f:FS,bx (uJ 4 (ug vH gq)) (bx (uJ 5 (ug vH m5)) f) [.I (mvO t d),.I w,.I S,.I q,.un,.un]=f b:=λf=>(uh ((vm (uf Z F)))).t (uh ((vm (uf Z G)).t Z))
 cases k:u.k.hd&&!decide (u.n=x)with
 |false=>rw[k]at e;exact⟨O,⟨11,_,_,AA,Z,Z,Z,uv Z ((r _).t (uP ((uV (Ng (wY e))))))⟩,λp z=>by cases z⟩
 |true=>
  rw[k]at e;rw[aV,eG,decide_eq_false_iff_not]at k;have j:=zy (wY e) E;cases B:decide (x∈l)with
  |true=>rw[B]at j;exact⟨O,⟨11,_,_,AA,Z,Z,Z,uv Z ((r _).t (uP ((uV j))))⟩,λp z=>by cases z⟩
  |false=>rw[B]at j;refine⟨U (ε a x u.n,m),⟨11,_,_,AA,Z,Z,Z,uv Z ((r _).t ((xA j).t (uF (uf Z ((P1 P s.len (va a m) ("at", x) (.str u.n)).t (by rw[adT];rfl))))))⟩,λp z=>?_⟩;cases z;exact⟨s.i.mv s.g C (av.2 ⟨u,aT.2 ⟨A,k.1⟩,Z⟩) (λz=>av.2 ⟨u,aT.2 ⟨A,br (H z)⟩,Z⟩) k.2 h (of_decide_eq_false B),I⟩
theorem U3{d:Type}(kf:d->ey)(b:d->Int)(k:ey):∀l:List d,(vC (l.map kf) (l.map λa=>D.int (b a)) k).getD .X=.X\/∃z,(vC (l.map kf) (l.map λa=>D.int (b a)) k).getD .X=.int z
 |[]=>.inl Z
 |a::l=>by
  rw[aU,aU];unfold vC;split
  .exact .inr ⟨b a,Z⟩
  .exact U3 kf b k l
def U4(s:P? T M dk W P a)(Y:Mr T M m){q:L4.D}{t z:Str}(B:vH [wO T M dk W V R c,sD P (va a m),q,.str t]=U (.str z)){n:Int}(n0:0<=n):
  ∃o,Done (wO T M dk W V R c) (sD P (va a m)) q (puO t n) (stO P o)/\∀p,o=U p->dr T p.1/\Mr T M p.2:=by
 let w:=wO T M dk W V R c;let S:=sD P (va a m);let A:aM:=[.I (puO t n),.I w,.I S,.I q,.I (.str z)];have G:wN [w,.str z]=U ((vC ((mP T M).map λq=>kS q.1) ((mP T M).map λq=>D.int q.2) (kS z)).getD .X):=uv Z (uF (ur Z Z Z));have I:uJ 4 (ug vH gq) [.I (puO t n),.I w,.I S,.I q,.un]=U (.nx A):=(vm (uf Z B)).t Z;have E:∀(d:L4.D),wN [w,.str z]=U d->∀f:aM,cV 0 f=U (w,f)->cV 1 f=U (.str z,f)->uG vT "most_of" ae bH f=U (d,f):=λd hd f N B=>uQ N Z Z (um B Z) hd;have fin:∀b,Ea [w,.str z,.int n]=U (.Y b)->(b=γ->∀q∈mP T M,q.1=z->n<=q.2)->∃o,Done w S q (puO t n) (stO P o)/\∀p,o=U p->dr T p.1/\Mr T M p.2:=λb C Q=>by
  have H:=wY (vp (uf (a:=bt ai (bt aH m6)) (ρ:=A) Z C));cases b with
  |false=>exact⟨O,⟨12,_,_,Ec,Z,Z,Z,uv Z ((uh I).t (uP ((uV H))))⟩,λp z=>by cases z⟩
  |true=>exact⟨U (a,ε m z n),⟨12,_,_,Ec,Z,Z,Z,uv Z ((uh I).t ((xA H).t (uF (uf Z ((P1 P s.len (va a m) ("mark", z) (.int n)).t (by rw[adU _ _ _ _ _ (X2 s.p)];rfl))))))⟩,λp e=>by
   cases e;refine⟨s.i,λq J=>?_⟩;show 0<=(if q.1=z then n else m q.1)/\(if q.1=z then n else m q.1)<=q.2;by_cases l:q.1=z
   .rw[ak l];exact⟨n0,Q Z q J l⟩
   .rw[aq l];exact Y q J⟩
 let j:aM:=[.I w,.I (.str z)];let r3:aM:=[.I w,.I (.str z),.I (.int n)];rcases U3 (λq:Str×Int=>kS q.1) bI (kS z) (mP T M)with h|⟨k,h⟩
 .have r:=G.t (bD U h);have F:zj [w,.str z]=U (.cf []):=by refine uv Z (uF ((zY (vp (ur (E _ r j Z Z) Z Z)))))
  exact fin δ (uv Z (uF (wq (ur (uf Z F) Z Z)))) λz=>by cases z
 .have r:=G.t (bD U h);have F:zj [w,.str z]=U (.cf [kD ("mark", z)]):=by refine uv (ρ:=j) Z (uF ?_);have e:cT (c2 yA (uG vT "most_of" ae bH) aI) j=U (δ,j):=vp (ur (E _ r j Z Z) Z Z);show A? _ _ _ j=_;unfold A?;rw[e];rfl
  exact fin (decide (n<=k)) (uv Z (uF ((ux (ur (uf Z F) Z (U2 _ _))).t (ur Z (E _ r r3 Z Z) Z)))) λC u X l=>by rw[<-l,A0 (Uo s.g) (by rw[iK];exact cB X)]at h;injection h with h;rw[h];exact bq C
def ad1(g:et T M dk W){z:Str}(h:z∈p0 T):z∈K' T/\¬z="me" := by obtain⟨t,d,rfl⟩:=av.1 h;rw[aT]at d;have b:=d.2;refine⟨(LU g.E' _ d.1).2 (by cases e:t.k<;>rw[e]at b<;>first|rfl|cases b),λz=>?_⟩;obtain⟨u,f,e,k⟩:=Nt g;rw[LS g.E' d.1 f (z.t e.symm),k]at b;cases b
def U5(s:P? T M dk W P a)(l:Mr T M m)(E:((V++v9).flatMap Vb.ws).Nodup)(C:v∈V++v9)(A:Cm T W v x y){d:L4.D}(h:Ds T M v.f d):∃o,Done (wO T M dk W V R c) (sD P (va a m)) (q3 v.n x y) d (stO P o)/\∀p,o=U p->dr T p.1/\Mr T M p.2:=by
 cases h with
 |@put q n h G=>
  rcases h with h|⟨h,_⟩
  .exact U4 s l (JB _ _ _ (Ut s.g h)) G
  .obtain⟨z,_,e⟩:=Xj E C A (sD P (va a m)) h;exact U4 s l e G
 |@Z? t b X Y hm=>
  obtain⟨z,hz,i⟩:=m_tm s E C A (λk h=>Nv h) Y;obtain⟨u,B,rfl⟩:=av.1 hz;rcases X with ⟨w,j,rfl,hk⟩|h
  .have H:=JB (wO T M dk W V R c) (sD P (va a m)) (q3 v.n x y) (U0 s.g (av.2 ⟨w,j,Z⟩));refine P6 s l ((LU s.g.E' _ j).2 (by rw[bj hk];rfl)) B (λz=>?_) H i;obtain⟨r,F,e,kr⟩:=hm z;have I:=JB (wO T M dk W V R c) (sD P (va a m)) (q3 v.n x y) (U0 s.g (av.2 ⟨r,F,e⟩));rw[I]at i;have J:b=u.n:=by injection i with i;injection i
   rw[<-LS s.g.E' F B (e.t J)];exact kr
  .obtain⟨w,j,N⟩:=Xj E C A (sD P (va a m)) h;obtain⟨Q,S⟩:=ad1 s.g j;exact P6 s l Q B (λz=>ar z S) N i
end
section
variable{T:List Th}{M:List Mk}{dk:aE}{W:List Wy}{V:List Vb}{R:List L4.D}{c:L4.D}{P:List Ky}{a:Str->Str}{m:Str->Int}{v:Vb}{x y:Option Str}
def U6{w S q:L4.D}(n:Str)(e f:List L4.D)(l:Str)(i:Bool)(h:∀t∈e,∃b,Hold 3 w S q t b):∃d,LD [w,S,q,vf n e f l i]=U d/\∃b,d=.Y b:=by
 let J:=λ(_:Nat) (r:aM)=>∃s,r=[.I w,.I S,.I q,.I (vf n e f l i),s];refine W3 Z (uB (JT (uj Z ⟨J,⟨_,Z⟩,?_,?_⟩)))
 .rintro j t _ hd ⟨s,rfl⟩;obtain⟨b,k,B,z,A,rfl,o,p,u⟩:=h t (b8 hd);exact⟨_,Z,Ga (uj (wY (vp (uQ Z o p Z u))) ⟨λv=>vg (uj Z ⟨_,Z⟩),λv=>wL Z ⟨_,Z⟩⟩)⟩
 .rintro _ ⟨s,rfl⟩;exact vg (uj Z ⟨_,Z⟩)
def U7(k b:Str)(S:L4.D):L4.D:=.ef [.ef [.str k,.str b],S]
def Gd(T:List Th)(M:List Mk)(P:List Ky)(S o:L4.D):Prop:=∃k e b d,o=U7 k e (sD P (va b d))/\k∈(["told", "refused", "unseen"]:aE)/\(k="told" \/ sD P (va b d)=S)/\dr T b/\Mr T M d
def P7(i:dr T a)(b:Mr T M m){k d:Str}(h:k∈(["told", "refused", "unseen"]:aE)):Gd T M P (sD P (va a m)) (U7 k d (sD P (va a m))):=⟨_,_,a,m,Z,h,.inr Z,i,b⟩
def Xk(s:P? T M dk W P a)(w:Mr T M m)(N:((V++v9).flatMap Vb.ws).Nodup)(I:v∈V++v9)(G:Cm T W v x y)(n:Str)(B l:List L4.D)(z:Str)(A:Bool)(hd:∀d∈l,Ds T M v.f d):∃o,Do [wO T M dk W V R c,sD P (va a m),q3 v.n x y,vf n B l z A]=U o/\Gd T M P (sD P (va a m)) o:=by
 refine W3 Z ?_;cases A with
 |true=>exact tm Z (vg (uj Z (P7 s.i w (by decide))))
 |false=>
  let J:=λ(_:Nat) (r:aM)=>∃e h t,r=[.I (wO T M dk W V R c),.I (sD P (va a m)),.I (q3 v.n x y),.I (vf n B l z δ),.I (sD P (va e h)),t]/\dr T e/\Mr T M h;refine l0 Z (uB (wL Z (uB (JT (uj Z ⟨J,⟨a,m,_,Z,s.i,w⟩,?_,?_⟩)))))
  .rintro j d _ q ⟨e,h,t,rfl,u,b⟩;obtain⟨o,⟨k,X,Q,S,rfl,C,E,F⟩,H⟩:=U5 ⟨s.g,s.p,u⟩ b N I G (hd d (b8 q));refine⟨_,Z,uB (uZ (uj (uQ Z C E Z F) ?_))⟩;cases o with
   |none=>exact s_y Z (vg (uj Z (P7 s.i w (by decide))))
   |some p=>exact s_n Z (wL Z ⟨p.1,p.2,_,Z,H p Z⟩)
  .rintro _ ⟨e,h,t,rfl,u,b⟩;exact vg (uj Z ⟨"told", z,e,h,Z,by decide,.inl Z,u,b⟩)
def Rv{c d:FT}{e b:aM}(h:c e=U (γ,b)):BV c d e=d b:=by unfold BV;rw[h]
def X5{e:FE}{f b:aM}{d:List L4.D}(h:e f=U (.ef d,b)):iT e f=U (d,b):=by unfold iT;rw[h]
def nmP(b:List (Option Str)):aE:=b.filterMap id
theorem HK(p:Str->Bool):∀b:List (Option Str),(b.filter λo=>match o with|none=>δ|some x=>p x).map oS=((nmP b).filter p).map D.str
 |[]=>rfl
 |none::b=>HK p b
 |some x::b=>by
  show _=((x::nmP b).filter p).map D.str;rw[gE,gE];show cZ oS (if p x=γ then _ else _)=cZ _ (if p x=γ then _ else _);by_cases d:p x=γ
  .rw[ak d,ak d,aU,aU,HK p b];rfl
  .rw[aq d,aq d];exact HK p b
def ad2{f:FS}{d b:aM}(h:f d=U (.nx b)):sNb f d=U (.nx b):=by unfold sNb;rw[h]
def fx_t{d n:Nat}{f:FS}{b:List L4.D}{i:aM}(h:b.length=d)(e:f (rl n b)=U (.nx i)):fnX d n f b=U γ:=by unfold fnX;rw[ak h,e]
def fx_f{d n:Nat}{f:FS}{b:List L4.D}{i:aM}(h:b.length=d)(e:f (rl n b)=U (.bk i)):fnX d n f b=U δ:=by unfold fnX;rw[ak h,e]
def xp_t{a:FA}{d:List L4.D}{f b:aM}{q:List L4.D->Option Bool}(h:a f=U (d,b))(e:q d=U γ):sXp q a f=U (.nx b):=by unfold sXp;rw[h];simp only[e]
def xp_f{a:FA}{d:List L4.D}{f b:aM}{q:List L4.D->Option Bool}(h:a f=U (d,b))(e:q d=U δ):sXp q a f=U (.bk b):=by unfold sXp;rw[h];simp only[e]
def fv_t{i n:Nat}{f:FS}{b:List L4.D}{d:L4.D}{j:aM}(h:b.length=i)(e:f (rl n b)=U (.rt d j)):fnV i n f b=U (U d):=by unfold fnV;rw[ak h,e]
def ad3{f:FS}{e b:aM}{d:L4.D}(h:f e=U (.rt d b)):sNb f e=U (.rt d b):=by unfold sNb;rw[h]
def U8(s:P? T M dk W P a)(u:Mr T M m){q:L4.D}{n:Str}{e:List (Option Str)}{p:Str->Bool}{rs:List L4.D}(hO:e.length<=2)(H:∃f h,q=.ef [.str n,f,h])(B:u0 [wO T M dk W V R c,q]=U γ)(l:vV [wO T M dk W V R c,q]=U (.ef (e.map oS)))(C:∀x∈nmP e,x8 [wO T M dk W V R c,sD P (va a m),.str x]=U (.Y (p x)))
  (E:wg [wO T M dk W V R c,.str n]=U (.cf rs)) (F:∀r∈rs,(∃d,LD [wO T M dk W V R c,sD P (va a m),q,r]=U d/\∃b,d=.Y b)/\∃o,Do [wO T M dk W V R c,sD P (va a m),q,r]=U o/\Gd T M P (sD P (va a m)) o):∃o,CT [wO T M dk W V R c,sD P (va a m),q]=U (U o)/\Gd T M P (sD P (va a m)) o:=by
 obtain⟨f,h,rfl⟩:=H;obtain⟨o,G,g⟩:∃o,Ed [wO T M dk W V R c,sD P (va a m),.ef [.str n,f,h],.cf (((nmP e).filter p).map D.str)]=U o/\Gd T M P (sD P (va a m)) o:=by
  let w:Sl->Sl->aM:=λx y=>[.I (wO T M dk W V R c),.I (sD P (va a m)),.I (.ef [.str n,f,h]),.I (.cf (((nmP e).filter p).map D.str)),x,y];let J:=λ(_:Nat) (r:aM)=>∃x,r=w x .un;refine W3 Z (uB (JT (uj (X5 (uf Z l)) ⟨J,⟨_,Z⟩,?_,?_⟩)))
  .rintro j d _ hd ⟨t,rfl⟩;rw[bA]at hd;obtain⟨x,_,rfl⟩:=ie.1 hd;refine⟨_,Z,?_⟩;cases x with
   |none=>exact s_n Z (wL Z ⟨_,Z⟩)
   |some x=>exact Ga (uj ((Rv Z).t (vp (ur Z Z (wM γ x _)))) ⟨λv=>vg (uj Z (P7 s.i u (by decide))),λv=>wL Z ⟨_,Z⟩⟩)
  .rintro _ ⟨t,rfl⟩;let J:=λ(_:Nat) (r:aM)=>∃y,r=w t y;refine uB (JT (uj (Da (JA Z Z Z Z E)) ⟨J,⟨_,Z⟩,?_,?_⟩))
   .rintro j r _ hd ⟨y,rfl⟩;obtain⟨⟨_,z,b,rfl⟩,o,A,g⟩:=F r (b8 hd);exact⟨_,Z,Ga (uj (vp (uf Z z)) ⟨λv=>vg (uj (uf Z A) g),λv=>wL Z ⟨_,Z⟩⟩)⟩
   .rintro _ ⟨y,rfl⟩;exact vg (uj Z (P7 s.i u (by decide)))
 refine⟨o,fv_t Z ((uh (xp_t Z B)).t ((uh (ad2 (vm (vE ((ze oS oS (λo=>match o with|none=>δ|some x=>p x) e (X5 (uf Z l)) (by omega) λx I=>⟨_,_,Z,vp (uf Z ?_),λv=>⟨_,Z,Z⟩,λv=>Z⟩).t (by rw[HK])))))).t (ad3 (uF (uf Z G))))),g⟩;cases x with
 |none=>exact Xg _
 |some x=>exact C x (eC.2 ⟨_,I,Z⟩)
end
section
variable{T:List Th}{M:List Mk}{dk:aE}{W:List Wy}{V:List Vb}{R:List L4.D}{c:L4.D}{P:List Ky}{a:Str->Str}{m:Str->Int}{v:Vb}{x y:Option Str}
def ad4(g:et T M dk W):("me" : Str)∈rb T:=by obtain⟨t,b,e,k⟩:=Nt g;exact av.2 ⟨t,aT.2 ⟨b,by rw[k];rfl⟩,e⟩
def trR(v k:Str)(n:Int)(b d e:Str):List L4.D:=[vf v [noO (kiO "it" k)] [] b γ,vf v [mkO "it" n] [] d γ,vf v [] [puO "it" n] e δ]
def abO:A21=[vf "take" [kiO "it" "fixed"] [] "That stays." γ,vf "take" [atO "it" "me"] [] "You have that." γ,vf "take" [] [mvO "it" "me"] "Taken." δ,vf "drop" [hsO "it"] [mvO "it" "here"] "Dropped." δ,vf "drop" [] [] "You lack that." γ,vf "put" [noO (hsO "it")] [] "You lack that." γ,vf "put" [noO (kiO "other" "box")] [] "It holds nothing." γ,vf "put" [mkO "other" 0] [] "It is shut." γ,vf "put" [] [mvO "it" "other"] "Done." δ]++(trR "open" "box" 1 "It has no lid." "It is open." "Opened." ++ trR "shut" "box" 0 "It has no lid." "It is shut." "Shut." ++ (trR "light" "lamp" 1 "It burns not." "It is lit." "Lit." ++ trR "douse" "lamp" 0 "It burns not." "It is out." "Doused.")):=by kernel_rfl
def zZ(l:v∈v9){d b:List L4.D}{i:Str}{h:Bool}(j:∀t∈d,Ts T M v.f 2 t)(hd:∀e∈b,Ds T M v.f e):RuS T M V (vf v.n d b i h):=⟨v,bC _ l,d,b,i,h,Z,j,hd⟩
def on1{b:Type}{p:b->Prop}{d:b}(h:p d):∀e∈[d],p e:=λe f=>by rw[bh.1 f];exact h
def Y'{b:Type}{p:b->Prop}:∀e∈([]:List b),p e:=λe d=>by cases d
def P8{n k f h i:Str}{z:Int}(j:0<=z)(b:(⟨n,[],"one", O⟩:Vb)∈v9):∀r∈trR n k z f h i,RuS T M V r:=λr d=>by
 have e:By "one" "it" := .inl ⟨Z,by decide⟩;have mt:Mt T M "one" ("it", 1):=.inr ⟨e,by decide⟩;simp only[trR,aJ,ck,or_false]at d;rcases d with rfl|rfl|rfl
 .exact zZ b (on1 (.no (.kind (.inr (.inr e))))) Y'
 .exact zZ b (on1 (.mark mt)) Y'
 .exact zZ b Y' (on1 (.put mt j))
def abP(g:et T M dk W):∀r∈A21,RuS T M V r:=λr hr=>by
 have d:By "one" "it" := .inl ⟨Z,by decide⟩;have j:By "two" "it" := .inl ⟨Z,by decide⟩;have f:By "two" "other" := .inr ⟨Z,Z⟩;have l:=ad4 g;have nme:("it" : Str)="me" -> ∀b:Str,∃t∈T,t.n=b/\t.k=.room:=λz=>ar z (by decide);have h:(⟨"take", [],"one", O⟩:Vb)∈v9:=by simp[v9]
 have i:(⟨"drop", [],"one", O⟩:Vb)∈v9:=by simp[v9]
 have e:(⟨"put", [],"two", U "in"⟩:Vb)∈v9:=by simp[v9]
 rw[abO]at hr;rcases aO.1 hr with hr|hr
 .simp only[aJ,ck,or_false]at hr;rcases hr with rfl|rfl|rfl|rfl|rfl|rfl|rfl|rfl|rfl
  .exact zZ h (on1 (.kind (.inr (.inr d)))) Y'
  .exact zZ h (on1 (.ats (.inr (.inr d)) (.inl l))) Y'
  .exact zZ h Y' (on1 (.Z? (.inr d) (.inl l) λz=>nme z _))
  .exact zZ i (on1 (.has (.inr (.inr d)))) (on1 (.Z? (.inr d) (.inr (.inl Z)) λz=>nme z _))
  .exact zZ i Y' Y'
  .exact zZ e (on1 (.no (.has (.inr (.inr j))))) Y'
  .exact zZ e (on1 (.no (.kind (.inr (.inr f))))) Y'
  .exact zZ e (on1 (.mark (q:=("other", 1)) (.inr ⟨f,by decide⟩))) Y'
  .exact zZ e Y' (on1 (.Z? (.inr j) (.inr (.inr f)) λz=>nme z _))
 .rcases aO.1 hr with hr|hr
  .rcases aO.1 hr with hr|hr
   .exact P8 (by decide) (by simp[v9]) r hr
   .exact P8 (by decide) (by simp[v9]) r hr
  .rcases aO.1 hr with hr|hr
   .exact P8 (by decide) (by simp[v9]) r hr
   .exact P8 (by decide) (by simp[v9]) r hr
def U9{r:Str}(h:r∈n9 T):r∈rb T:=by obtain⟨u,b,e⟩:=av.1 h;rw[aT]at b;exact av.2 ⟨u,aT.2 ⟨b.1,by rw[bq b.2];rfl⟩,e⟩
def ad5(g:et T M dk W){w:Wy}(b:Re T M w):RuS T M V (goO w):=by
 have l:(⟨"go", [],"way", O⟩:Vb)∈v9:=by simp[v9]
 obtain⟨t,i,e,k⟩:=Nt g;have o:("me" : Str)∈T.map Th.n:=av.2 ⟨t,i,e⟩;refine zZ l (λd hd=>?_) (on1 (.Z? (.inl ⟨t,i,e,by rw[k];exact λz=>by cases z⟩) (.inl (U9 b.hg)) λv=>?_))
 .unfold wtL at hd;rcases aO.1 hd with hd|hd
  .rw[aJ,bh]at hd;rcases hd with rfl|rfl
   .exact .ats (.inl o) (.inl (U9 b.hr))
   .exact .word Z
  .cases f:w.m with
   |none=>rw[f]at hd;cases hd
   |some k=>rw[f]at hd;rw[bh.1 hd];have:=b.hm k f;rw[<-Ox]at this;obtain⟨q,j,rfl⟩:=av.1 this;exact .no (.mark (.inl j))
 .obtain⟨u,h,e⟩:=av.1 b.hg;rw[aT]at h;exact⟨u,h.1,e,bq h.2⟩
def ad6(g:et T M dk W):∀r∈SH W,RuS T M V r:=λr hr=>by
 have b:(⟨"go", [],"way", O⟩:Vb)∈v9:=by simp[v9]
 have e:(⟨"wait", [],"alone", O⟩:Vb)∈v9:=by simp[v9]
 unfold SH at hr;rcases aO.1 hr with hr|hr
 .rcases aO.1 hr with hr|hr
  .exact abP g r hr
  .rcases aO.1 hr with hr|hr
   .obtain⟨w,d,rfl⟩:=av.1 hr;exact ad5 g (g.wo w d)
   .rw[bh.1 hr];exact zZ b Y' Y'
 .rw[bh.1 hr];exact zZ e Y' Y'
def vb_f{L:List Vb}(d:(L.flatMap Vb.ws).Nodup){u v:Vb}(i:u∈L)(j:v∈L)(e:u.n=v.n):u.f=v.f:=by have b:=LP d i;have h:=LP d j;rw[e,h]at b;injection b with b;injection b with _ _ b;injection b with _ b;injection b with _ b;injection b with b _;injection b with b;exact b.symm
def abQ{f:List ey}{dss:List (List L4.D)}(h:∀j,gl f dss j=(R++SH W).filter λd=>decide (kv d=j))(n:Str):wg [wO T M dk W V R (.Z f (dss.map .cf)),.str n]=U (.cf ((R++SH W).filter λd=>decide (kv d=kS n))):=by let b:aM:=[.I (wO T M dk W V R (.Z f (dss.map .cf))),.I (.str n)];refine DX (ρ:=b) Z (wX ?_);have e:Ki (c1 (uo yi "rules_by_verb") ae) ai (cL (uM uN)) b=U ((vC f (dss.map .cf) (kS n)).getD (.cf []),b):=rfl;rw[PR,h]at e;show zx _ b=_;unfold zx;rw[e];rfl
def Try(T:List Th)(M:List Mk)(dk:aE)(W:List Wy)(V:List Vb)(R:List L4.D)(c:L4.D):Prop:=∀n:Str,wg [wO T M dk W V R c,.str n]=U (.cf ((R++SH W).filter λd=>decide (kv d=kS n)))
def L7(g:et T M dk W){x:Str}(d:x∈p0 T):x9 [wO T M dk W V R c,.str x]=U (.Y γ):=by obtain⟨t,b,rfl⟩:=av.1 d;rw[aT]at b;exact v7 Z (uB (uZ (uj ((zY Z).t (JA Z Z Z Z (yY g.E' b.1))) (vg (uj ((ux Z).t (uQ Z Z Z Z ((CZ t).t (by rw[b.2])))) Z)))))
def Xl(g:et T M dk W)(h:Cm T W v x y):ya [wO T M dk W V R c,.str v.f,oS x,oS y]=U (.Y γ):=by
 rcases h with ⟨e,n,b,rfl,rfl⟩|⟨e,n,b,k,i,rfl,rfl⟩|⟨e,rfl,rfl⟩|⟨e,d,hd,rfl,rfl⟩<;>rw[e]
 .exact v7 Z (l0 Z (l0 Z (l0 Z (vg (uj ((Fv Z).t (uf Z (L7 g b))) Z)))))
 .exact v7 Z (tm Z (vg (uj ((ux (uf Z (L7 g b))).t (uf Z (L7 g i))) Z)))
 .exact v7 Z (l0 Z (l0 Z (l0 Z (vg (uj Z Z)))))
 .exact v7 Z (l0 Z (l0 Z (tm Z (vg (uj ((ux Z).t (ur Z (JA Z Z Z Z (Jy g.w8 λw j=>(g.wo w j).hw)) (wM δ _ _))) (by rw[br hd];rfl))))))
def Va(g:et T M dk W)(e:((V++v9).flatMap Vb.ws).Nodup)(d:v∈V++v9)(b:Cm T W v x y):u0 [wO T M dk W V R c,q3 v.n x y]=U γ:=by have h:vP [wO T M dk W V R c,q3 v.n x y]=U (.Y γ):=v7 Z (l0 Z (uB (uZ (uj (JA Z Z Z Z (L6 e d)) (vg (uj ((ux Z).t ((ux (ur Z Z (by rw[we];simp))).t (uf Z (Xl g b)))) Z))))));exact fx_t Z ((vh (wY (vp (uf Z h)))).t Z)
def ad7(h:Cm T W v x y):∀z∈nmP (thO v x y),z∈p0 T:=λz b=>by
 unfold thO at b;rcases h with ⟨e,n,f,rfl,rfl⟩|⟨e,n,f,k,i,rfl,rfl⟩|⟨e,rfl,rfl⟩|⟨e,d,hd,rfl,rfl⟩
 .rw[e,aq (by decide),show nmP [U n,O]=[n] from Z,bh]at b;rw[b];exact f
 .rw[e,aq (by decide),show nmP [U n,U k]=[n,k] from Z,aJ,bh]at b;rcases b with rfl|rfl
  .exact f
  .exact i
 .rw[e,aq (by decide)]at b;cases b
 .rw[e,ak Z]at b;cases b
def IM(s:P? T M dk W P a):∃p:Str->Bool,∀x∈p0 T,x8 [wO T M dk W V R c,sD P (va a m),.str x]=U (.Y (p x)):=by
 have h:∀x:Str,∃b:Bool,x∈p0 T->x8 [wO T M dk W V R c,sD P (va a m),.str x]=U (.Y b):=λx=>by
  by_cases d:x∈p0 T
  .obtain⟨t,f,rfl⟩:=av.1 d;obtain⟨b,e⟩:=P5 s (aT.1 f).1;exact⟨b,λv=>e⟩
  .exact⟨δ,λz=>ar z d⟩
 exact⟨λx=>(h x).choose,λx=>(h x).choose_spec⟩
def mr0(g:et T M dk W)(h:∀x,(vC (M.map λm=>kS m.n) (M.map λm=>D.int m.st) (kS x)).getD (.int 0)=.int (m x)):Mr T M m:=λq b=>by
 have ndm:(M.map λm=>kS m.n).Nodup:=by have:=AZ (cg.1 g.nd).2.1;rw[bf]at this;exact this
 have e:=h q.1;rcases aO.1 b with b|b
 .obtain⟨t,f,rfl⟩:=av.1 b;rw[FQ λz=>by
   obtain⟨u,d,e⟩:=av.1 z;exact(cg.1 g.nd).2.2 _ (cB (aT.1 f).1) _ (cB d) (LJ e).symm]at e
  injection e with e;rw[<-e];exact⟨Int.le_refl _,(by decide:(0:Int)<=1)⟩
 .obtain⟨u,d,rfl⟩:=av.1 b;rw[A0 ndm (by rw[iK];exact av.2 ⟨u,d,Z⟩)]at e;injection e with e;rw[<-e];have:=g.mo u d;exact⟨this.2.2.1,this.2.2.2⟩
def Vc(s:P? T M dk W P a)(q:Mr T M m)(d:((V++v9).flatMap Vb.ws).Nodup)(B:Try T M dk W V R c)(hR:∀r∈R,RuS T M V r)(b:v∈V++v9)(e:Cm T W v x y):∃o,CT [wO T M dk W V R c,sD P (va a m),q3 v.n x y]=U (U o)/\Gd T M P (sD P (va a m)) o:=by obtain⟨p,w⟩:=IM s;refine U8 s q (by unfold thO;split<;>exact aL 2) ⟨_,_,Z⟩ (Va s.g d b e) (KY d b x y) (λz E=>w z (ad7 e z E)) (B v.n) λr A=>?_;obtain⟨f,i⟩:=aT.1 A;obtain⟨u,C,H,F,I,G,rfl,j,l⟩:RuS T M V r:=(aO.1 f).elim (hR r) (ad6 s.g r);rw[vb_f d C b (LJ (bq i))]at j l;exact⟨U6 _ _ _ _ _ λt h=>Rt s d b e (j t h) 3 (by decide),Xk s q d b e _ _ _ _ _ l⟩
def ad8{q:L4.D}(l:∀v∈V++v9,v.f∈pa)(p:q∈cmA (p0 T) (wdN W) ((V++v9).map nf)):∃v∈V++v9,∃x y,q=q3 v.n x y/\Cm T W v x y:=by
 obtain⟨n,o,p⟩:=dq.1 p;obtain⟨v,r,rfl⟩:=av.1 o;obtain⟨z,b,rfl⟩:=av.1 p;refine⟨v,r,?_⟩;have l:=l v r;unfold obF at b;show ∃x y,p3 v.n z=q3 v.n x y/\Cm T W v x y;by_cases e:v.f="alone"
 .rw[ak (show (nf v).2="alone" from e)]at b;rw[bh.1 b];exact⟨O,O,Z,.inr (.inr (.inl ⟨e,Z,Z⟩))⟩
 .rw[aq (show ¬(nf v).2="alone" from e)]at b;by_cases i:v.f="way"
  .rw[ak (show (nf v).2="way" from i)]at b;obtain⟨d,hd,rfl⟩:=av.1 b;exact⟨U d,O,Z,.inr (.inr (.inr ⟨i,d,hd,Z,Z⟩))⟩
  .rw[aq (show ¬(nf v).2="way" from i)]at b;by_cases j:v.f="one"
   .rw[ak (show (nf v).2="one" from j)]at b;obtain⟨d,hd,rfl⟩:=av.1 b;exact⟨U d,O,Z,.inl ⟨j,d,hd,Z,Z⟩⟩
   .rw[aq (show ¬(nf v).2="one" from j)]at b;obtain⟨n,o,b⟩:=dq.1 b;obtain⟨k,u,rfl⟩:=av.1 b;have t:v.f="two" := by
     simp only[pa,aJ,ck,or_false]at l;rcases l with h|h|h|h
     .exact ar h j
     .exact h
     .exact ar h e
     .exact ar h i
    exact⟨U n,U k,Z,.inr (.inl ⟨t,n,o,k,u,Z,Z⟩)⟩
end
def zV:List L4.D:=[.str "nobody", .X,.str "", .str "shove", .str "hum", .str "dive", .str "hall", .int 3,.str "undo"]
def zN:List L4.D:=[.str "hall", .str "me", .str "nobody", .str "gate", .str "", .int 3,.str "it", .str "down", .str "thingless", .Y γ]
def bd1(v:Str)(x y:Option Str):List L4.D:=[.ef [.str v,oS x],.ef [.str v,oS x,oS y,.X],.cf [.str v,oS x,oS y],.str v,.X,.ef [],.int 7]++(zV.map λz=>.ef [z,oS x,oS y])++zN.flatMap λz=>[.ef [.str v,z,oS y],.ef [.str v,oS x,z]]
def bd2(v:Str)(y:Option Str):Option Str->List L4.D
 |none=>[]
 |some n=>[.ef [.str v,.X,oS y],.ef [.str v,.X,.X],.ef [.str v,.cf [.str n],oS y]]
def bd3(v:Str)(x:Option Str):Option Str->List L4.D
 |none=>[]
 |some n=>[.ef [.str v,oS x,.X],.ef [.str v,oS x,.ef [.str n]]]
def bdL(v:Str)(x y:Option Str):List L4.D:=bd1 v x y++bd2 v y x++bd3 v x y
theorem P9:∀(c:List ey) (b:List L4.D) (k:ey),(vC c b k).getD .X=.X\/(vC c b k).getD .X∈b
 |[],_,_=>.inl (by unfold vC;rfl)
 |_::_,[],_=>.inl (by unfold vC;rfl)
 |a::c,d::b,k=>by
  unfold vC;split
  .exact .inr bb
  .exact(P9 c b k).imp id (ba _)
section
variable{T:List Th}{M:List Mk}{dk:aE}{W:List Wy}{V:List Vb}{R:List L4.D}{c:L4.D}{v:Vb}{x y:Option Str}{X Y:L4.D}
def Bd(T:List Th)(W:List Wy)(X:L4.D):Prop:=vv (vO "str") X=U (.Y δ)\/∃s,X=.str s/\s∉p0 T/\s∉wdN W
def OH(g:et T M dk W)(h:Bd T W X):x9 [wO T M dk W V R c,X]=U (.Y δ):=by
 rcases h with h|⟨s,rfl,h,_⟩
 .exact v7 Z (uB (uZ (uj (Fv (vp (uY Z h))) (vg (uj (wq Z) Z)))))
 .by_cases b:s∈T.map Th.n
  .obtain⟨t,a,rfl⟩:=av.1 b;have d:t.k.pl=δ:=by
    cases e:t.k.pl with
    |false=>rfl
    |true=>exact ar (av.2 ⟨t,aT.2 ⟨a,e⟩,Z⟩) h
   exact v7 Z (uB (uZ (uj ((zY Z).t (JA Z Z Z Z (yY g.E' a))) (vg (uj ((ux Z).t (uQ Z Z Z Z ((CZ t).t (by rw[d])))) Z)))))
  .have e:vX [wO T M dk W V R c,.str s]=U .X:=by
    refine uv Z (uF (ur Z Z ?_));show U ((vC (nK T) (T.map e?) (kS s)).getD .X)=_;rw[FQ λz=>by
     obtain⟨t,a,e⟩:=av.1 z;exact b (av.2 ⟨t,a,LJ e⟩)]
    rfl
   exact v7 Z (uB (uZ (uj ((zY Z).t (JA Z Z Z Z e)) (vg (uj (wq Z) Z)))))
def Xm(g:et T M dk W)(i:Cm T W v x y)(h:Bd T W X)(d:v.f="alone" -> yA X .X=U (.Y δ))(hY:v.f="two" \/ Y=.X):ya [wO T M dk W V R c,.str v.f,X,Y]=U (.Y δ):=by
 have no:v.f="two" -> v.f∈(["one", "alone", "way"]:aE)->False:=λa b=>by rw[a]at b;exact ar b (by decide)
 rcases i with ⟨e,_⟩|⟨e,_⟩|⟨e,_⟩|⟨e,_⟩
 .obtain rfl:Y=.X:=hY.resolve_left λz=>no z (by rw[e];decide);rw[e];exact v7 Z (l0 Z (l0 Z (l0 Z (vg (uj ((Fv Z).t (uf Z (OH g h))) Z)))))
 .rw[e];exact v7 Z (tm Z (vg (uj (wq (uf Z (OH g h))) Z)))
 .obtain rfl:Y=.X:=hY.resolve_left λz=>no z (by rw[e];decide);have d:=d e;rw[e];exact v7 Z (l0 Z (l0 Z (l0 Z (vg (uj ((zY Z).t (ur Z Z d)) Z)))))
 .obtain rfl:Y=.X:=hY.resolve_left λz=>no z (by rw[e];decide);rw[e];refine v7 Z (l0 Z (l0 Z (tm Z (vg ?_))));rcases h with h|⟨s,rfl,_,h⟩
  .exact uj (wq (uY Z h)) Z
  .exact uj ((ux Z).t (ur Z (JA Z Z Z Z (Jy g.w8 λw j=>(g.wo w j).hw)) (wM δ _ _))) (by rw[bj h];rfl)
def ff_y(g:et T M dk W)(j:Cm T W v x y)(h:Bd T W Y)(i:v.f="two" \/ vR Y .X=U (.Y γ)):ya [wO T M dk W V R c,.str v.f,oS x,Y]=U (.Y δ):=by
 have no:v.f∈(["one", "alone", "way"]:aE)->vR Y .X=U (.Y γ):=λb=>i.resolve_left λa=>by rw[a]at b;exact ar b (by decide)
 rcases j with ⟨e,_⟩|⟨e,n,d,k,l,rfl,rfl⟩|⟨e,_⟩|⟨e,_⟩
 .have d:=no (by rw[e];decide);rw[e];exact v7 Z (l0 Z (tm (vp (ur Z Z d)) (vg (uj Z Z))))
 .rw[e];exact v7 Z (tm Z (vg (uj ((ux (uf Z (L7 g d))).t (uf Z (OH g h))) Z)))
 .have d:=no (by rw[e];decide);rw[e];exact v7 Z (l0 Z (tm (vp (ur Z Z d)) (vg (uj Z Z))))
 .have d:=no (by rw[e];decide);rw[e];exact v7 Z (l0 Z (tm (vp (ur Z Z d)) (vg (uj Z Z))))
def OI(b:((V++v9).flatMap Vb.ws).Nodup)(a:v∈V++v9)(h:ya [wO T M dk W V R c,.str v.f,X,Y]=U (.Y δ)):vP [wO T M dk W V R c,.ef [.str v.n,X,Y]]=U (.Y δ):=
 v7 Z (l0 Z (uB (uZ (uj (JA Z Z Z Z (L6 b a)) (vg (uj ((ux Z).t ((ux (ur Z Z (by rw[we];simp))).t (uf Z h))) Z))))))
def nc_v{z:Str}(h:∀u∈V++v9,¬u.n=z):vP [wO T M dk W V R c,.ef [.str z,X,Y]]=U (.Y δ):=by
 obtain⟨d,b,hd⟩:∃d,wQ [wO T M dk W V R c,.str z]=U d/\(d=.X\/∃u∈V++v9,d=nr u):=by
  refine⟨_,v7 Z (vg (uj (ur Z Z Z) Z)),?_⟩;rcases P9 ((V++v9).flatMap λv=>v.ws.map kS) ((V++v9).flatMap λv=>v.ws.map λs=>nr v) (kS z)with e|e
  .exact .inl e
  .obtain⟨u,a,e⟩:=dq.1 e;obtain⟨_,_,e⟩:=av.1 e;exact .inr ⟨u,a,e.symm⟩
 refine v7 Z (l0 Z (uB (uZ (uj (JA Z Z Z Z b) (vg ?_)))));rcases hd with rfl|⟨u,a,rfl⟩
 .exact uj (wq Z) Z
 .exact uj ((ux Z).t (wq (ur Z Z (by rw[we,bj (h u a)];rfl)))) Z
def bd_s(g:et T M dk W){s:Str}(b:s∉ub.map cY)(d:s∉w3):Bd T W (.str s):=.inr ⟨s,Z,λz=>by
 obtain⟨t,a,e⟩:=av.1 z;rw[aT]at a;exact b (av.2 ⟨_,(g.wd t a.1).2 a.2,e⟩),λz=>d (aT.1 z).1⟩
def aea(g:et T M dk W):∀z∈zN,Bd T W z/\yA z .X=U (.Y δ)/\vR z .X=U (.Y γ):=λz a=>by
 simp only[zN,aJ,ck,or_false]at a;rcases a with rfl|rfl|rfl|rfl|rfl|rfl|rfl|rfl|rfl|rfl
 iterate 5 exact⟨bd_s g (by decide) (by decide),Z,Z⟩
 .exact⟨.inl Z,Z,Z⟩
 iterate 3 exact⟨bd_s g (by decide) (by decide),Z,Z⟩
 .exact⟨.inl Z,Z,Z⟩
def abS(g:et T M dk W)(r:∀v∈V,v∈v6)(i:((V++v9).flatMap Vb.ws).Nodup)(h:v∈V++v9)(a:Cm T W v x y):∀b∈bdL v.n x y,vP [wO T M dk W V R c,b]=U (.Y δ):=λb hb=>by
 have m:v.f="two" \/ oS y=.X:=by
  rcases a with ⟨_,_,_,_,rfl⟩|⟨e,_⟩|⟨_,_,rfl⟩|⟨_,_,_,_,rfl⟩
  .exact .inr Z
  .exact .inl e
  .exact .inr Z
  .exact .inr Z
 have j:∀{n:Str},x=U n->¬v.f="alone" := λe z=>by
  rcases a with ⟨d,_⟩|⟨d,_⟩|⟨_,rfl,_⟩|⟨d,_⟩
  .rw[z]at d;exact ar d (by decide)
  .rw[z]at d;exact ar d (by decide)
  .cases e
  .rw[z]at d;exact ar d (by decide)
 have q:∀{n:Str},y=U n->v.f="two" := λe=>m.resolve_right λz=>by rw[e]at z;cases z
 rcases aO.1 hb with hb|hb
 .rcases aO.1 hb with hb|hb
  .rcases aO.1 hb with hb|hb
   .rcases aO.1 hb with hb|hb
    .simp only[aJ,ck,or_false]at hb;rcases hb with rfl|rfl|rfl|rfl|rfl|rfl|rfl<;>exact v7 Z (tm Z (vg (uj Z Z)))
    .obtain⟨z,l,rfl⟩:=av.1 hb;have o:∀{s:Str},s∉(v6++v9).map Vb.n->vP [wO T M dk W V R c,.ef [.str s,oS x,oS y]]=U (.Y δ):=λt=>nc_v λu w e=>t (av.2 ⟨u,aO.2 ((aO.1 w).imp (r u) id),e⟩);simp only[zV,aJ,ck,or_false]at l;rcases l with rfl|rfl|rfl|rfl|rfl|rfl|rfl|rfl|rfl
     .exact o (by decide)
     .exact v7 Z (tm Z (vg (uj Z Z)))
     iterate 5 exact o (by decide)
     .exact v7 Z (tm Z (vg (uj Z Z)))
     .exact o (by decide)
   .obtain⟨z,l,hb⟩:=dq.1 hb;obtain⟨p,A,B⟩:=aea g z l;rcases aJ.1 hb with rfl|hb
    .exact OI i h (Xm g a p (λk=>A) m)
    .rw[bh.1 hb];exact OI i h (ff_y g a p (.inr B))
  .cases x with
   |none=>cases hb
   |some n=>
    simp only[bd2,aJ,ck,or_false]at hb;have j:=j Z;rcases hb with rfl|rfl|rfl
    .exact OI i h (Xm g a (.inl Z) (λz=>ar z j) m)
    .exact OI i h (Xm g a (.inl Z) (λz=>ar z j) (.inr Z))
    .exact OI i h (Xm g a (.inl Z) (λz=>ar z j) m)
 .cases y with
  |none=>cases hb
  |some n=>
   simp only[bd3,aJ,ck,or_false]at hb;rcases hb with rfl|rfl
   .exact OI i h (ff_y g a (.inl Z) (.inl (q Z)))
   .exact OI i h (ff_y g a (.inl Z) (.inr Z))
end
def Qa(b:List Int)(k:Nat):∃c,yx [.u? (b.map D.int),.int k]=U (.int c):=by
 let d:aM:=[.I (.u? (b.map D.int)),.I (.int k)];have a:cT (c2 Lm ai (c1 xc ae)) d=U (decide ((k:Int)<((b.map D.int).length:Nat)),d):=rfl;rw[ah]at a;by_cases h:k<b.length
 .rw[br (by omega)]at a;refine⟨b[k],uv Z (uP ((uV a).t (uF (ur Z Z ?_))))⟩;exact En (by rw[bA,bg h];rfl)
 .rw[bj (by omega)]at a;exact⟨0,uv Z ((uh ((vh a))))⟩
def Qb{cm:List L4.D}(d:0<cm.length)(i:Int):∃q∈cm,∃j,yf (.int i) (.int (cm.length:Nat))=U (.int j)/\gd (.cf cm) (.int j)=U q:=by
 let j:Int:=i % (cm.length:Int);have c:0<=j:=iI _ (by omega);have e:j<cm.length:=iu _ (by omega);obtain⟨n,b⟩:∃n:Nat,j=(n:Nat):=⟨j.toNat,(Int.toNat_of_nonneg c).symm⟩;have a:n<cm.length:=by omega
 refine⟨cm[n],fR a,j,?_,?_⟩
 .show (if decide (0<(cm.length:Int))=γ then U (D.int (i % (cm.length:Int)))else O)=_;rw[ak (br (by omega))]
 .rw[b];exact En (bg a)
def abT{f c:FE}{d a b:aM}{i j:Int}(e:f d=U (.int i,a))(h:c a=U (.int j,b))(l:(-1000000<=i/\i<=1000000)/\-1000000<=j/\j<=1000000):iR2 f c d=U (Ip i (j - i).toNat,b):=by unfold iR2;simp only[e,h];rw[ak l]
def abU(v:Str)(x y:Option Str)(i:Int):∃b∈bdL v x y,Eg [q3 v x y,.int i]=U b:=by let c:Sl->Sl->Sl->aM:=λl s t=>[.I (q3 v x y),.I (.int i),.I (.str v),.I (oS x),.I (oS y),l,s,t];obtain⟨b,f,j,d,e⟩:=Qb (cm:=bdL v x y) (by unfold bdL bd1;simp) i;let A:List L4.D:=[.ef [.str v,oS x],.ef [.str v,oS x,oS y,.X],.cf [.str v,oS x,oS y],.str v,.X,.ef [],.int 7];let u:Sl:=.I (.str "undo");let t:Sl:=.I (.Y γ);refine⟨b,f,v7 Z (uB (wL (ρ':=c .un .un .un) Z (uB (wL (ρ':=c (.ls A) .un .un) (by kernel_rfl) (uB (wL (ρ':=c (.ls (A++zV.map λz=>.ef [z,oS x,oS y])) u .un) (by kernel_rfl) (uB (wL (ρ':=c (.ls (bd1 v x y)) u t) (by kernel_rfl) (uB (wL (ρ':=c (.ls (bd1 v x y++bd2 v y x)) u t) (by cases x<;>kernel_rfl) (uB (wL (ρ':=c (.ls (bdL v x y)) u t) (by cases x<;>cases y<;>kernel_rfl) (vg (uj (ur (ρ1:=c (.I (.cf (bdL v x y))) u t) Z (ur Z Z d) e) Z))))))))))))))⟩
section
variable{T:List Th}{M:List Mk}{dk:aE}{W:List Wy}{V:List Vb}{R:List L4.D}{c:L4.D}
def abV{b:L4.D}(h:vP [wO T M dk W V R c,b]=U (.Y δ)):u0 [wO T M dk W V R c,b]=U δ:=fx_f Z ((uV (wY (vp (uf Z h)))).t Z)
def aeb{f g:FS}{b a:aM}(h:f b=U (.bk a)):bx f g b=U (.bk a):=by unfold bx;rw[h]
def Xo{S b:L4.D}(h:u0 [wO T M dk W V R c,b]=U δ):CT [wO T M dk W V R c,S,b]=U O:=by have e:LF [.I (wO T M dk W V R c),.I S,.I b,.un]=U (.bk [.I (wO T M dk W V R c),.I S,.I b,.un]):=aeb (xp_f Z h);show (match LF [.I (wO T M dk W V R c),.I S,.I b,.un]with|some (.rt d _)=>U (U d)|some (.bk _)=>U O|_=>O)=_;rw[e]
def xv_f{g:List L4.D->Option (Option L4.D)}{a:FA}{b:List L4.D}{d ρ':aM}(h:a d=U (b,ρ'))(e:g b=U O):sXv g a d=U (.bk ρ'):=by unfold sXv;rw[h];simp only[e]
def aed{f:FS}{i j:Nat}{bs:List L4.D}{a ρ':aM}(h:f a=U (.bk ρ'))(e:ρ'[i]?=U .un):l' f i j bs a=U (.nx (ρ'.set j (.I (.cf bs)))):=by unfold l';rw[h];simp only[e]
def abW{b S:L4.D}(h:vP [wO T M dk W V R c,b]=U (.Y δ))(f:xM [wO T M dk W V R c]=U S){k:Nat}(d:k<2):zW [.int k,wO T M dk W V R c,b]=U (.Y γ):=by
 have e:=abV h;have a:xV u0 [wO T M dk W V R c,b]=U O:=by unfold xV;rw[e];rfl
 refine v7 Z (uB (wL Z (uB (wL (aed (ρ':=[.I (.int k),.I (wO T M dk W V R c),.I b,.I (.cf [.Y γ]),.un]) ?_ Z) (vg (uj Z Z))))))
 match k,d with
 |0,_=>exact(uV Z).t (xv_f Z a)
 |1,_=>exact(vh Z).t (xv_f (um Z (um (uf Z f) Z)) (Xo e))
end
def aee{g:List L4.D->List L4.D->Option (L4.D×List L4.D)}{a n:FA}{i b c:aM}{e f j:List L4.D}{d:L4.D}(h:a i=U (e,b))(l:n b=U (f,c))(m:g f e=U (d,j)):K? g a n i=U (d,c):=by unfold K?;rw[h];simp only[l,m]
def abX(l:List Int)(hl:l.length<=63):XT [.u? (l.map D.int)]=U (.Y γ):=by
 obtain⟨H,ex⟩:=Qa l 0;obtain⟨T,M,X,W,t,n,R,es',g,E,C,lR,ok,xm⟩:=Xa (.inl ⟨H,Z⟩);have u:∀v∈vL t n,v∈v6:=λv o=>LN o;obtain⟨ks,dss,xw,hg⟩:=UH g E C (λr A=>(ok r A).1) lR;let c:L4.D:=.Z ks (dss.map .cf);let V:=vL t n;have B:((V++v9).flatMap Vb.ws).Nodup:=PH E C;let w:=wO T M X W V R c;let f:List L4.D:=cmA (p0 T) (wdN W) ((V++v9).map nf);have Q:0<f.length:=by
  refine js (a:=q3 "wait" O O) (dq.2 ⟨("wait", "alone"),?_,?_⟩)
  .exact av.2 ⟨⟨"wait", [],"alone", O⟩,bC _ (by simp[v9]),Z⟩
  .unfold cmV obF;rw[ak Z];exact av.2 ⟨(.X,.X),bh.2 Z,Z⟩
 have cl:f.length<1073741824:=by have h1:f.length<=_:=UM (N:=p0 T) (Dw:=wdN W) (by unfold p0;rw[ah];exact g.p7) (cH _ w3) ((V++v9).map nf);have h2:V.length<=6:=F8 t n;rw[ah,aF,show v9.length=9 from Z]at h1;omega
 obtain⟨P,m,pP,eS,hp,hm,I⟩:=UU g;have ew:BP [.int H,.int 3]=U w:=v7 Z (uB (uZ (uj (aee Z Z xm) (uB (wL Z (vg (uj (Pm Z xw) Z)))))));let S:Sl:=.I (.u? (l.map D.int));let p:Sl->Sl->Sl->Sl->Sl->aM:=λa b c d e=>[S,.I w,.I (.cf f),a,b,c,d,e];refine v7 Z (uB (uZ (uj (uf (um (uf Z ex) Z) ew) (uB (uZ (Ra (uj (uf Z (Np g u (F8 t n))) ?_)))))));let F:Int:=if ((l.map D.int).length:Int)<40 then ((l.map D.int).length:Int)else 40
 have em:c2 dMax2 dA (c2 dMin2 (cC (.int 40)) (c1 xc ae)) (p .un .un .un .un .un)=U (.int (if F > 3 then F else 3),p .un .un .un .un .un):=rfl;refine uB (JT (uj (abT Z em (by split<;>omega)) ⟨λ_ r=>∃a b c d e,r=p a b c d e,⟨_,_,_,_,_,Z⟩,?_,?_⟩))
 .rintro j d _ hd ⟨s3,s4,s5,s6,s7,rfl⟩;obtain⟨k,rfl⟩:∃k:Nat,d=.int k:=by unfold Ip at hd;rw[bA]at hd;obtain⟨k,_,rfl⟩:=ie.1 hd;exact⟨1+k,Z⟩
  obtain⟨z,ez⟩:=Qa l k;obtain⟨q,hqm,i,Y,e2⟩:=Qb Q (z+31 * (k:Int));obtain⟨v,o,x,y,rfl,hcm⟩:=ad8 (UN u) hqm;obtain⟨_,e,kx,tx,J,m',rfl,_⟩:=Vc ⟨g,pP,inv0 g⟩ (mr0 g hm) B (λn=>abQ hg n) (λr A=>(ok r A).2) o hcm;obtain⟨b,hb,eb⟩:=abU v.n x y (z / (f.length:Int)+7 * (k:Int));have f1:dV (xV u0) [w,q3 v.n x y]=U .X:=by unfold dV xV;rw[Va g B o hcm];rfl
  have f2:dV CT [w,sD P (va (at0 T) m),q3 v.n x y]=U (U7 kx tx (sD P (va J m'))):=by unfold dV;rw[e]
  have f3:BW (.int z) (.int (f.length:Nat))=U (.int (z / (f.length:Int))):=by show (if (decide (0<(f.length:Int))&&decide ((f.length:Int)<1073741824))=γ then U (D.int (z / (f.length:Int)))else O)=_;rw[ak (by rw[br (by omega),br (by omega)];rfl)]
  have G:∀{a:Int},AD a=γ->ye (.int a) (.int k)=U (.int (a * k)):=λh=>yB (.inl h);refine⟨_,Z,uB (uZ (uj (uf Z ez) (uB (uZ (uj (ur Z (ur (ur Z (ur Z Z (G Z)) Z) (uY Z Z) Y) e2) (l0 (zy (vp (ur (uf Z f1) Z Z)) (vp (ur (uY (uf (um Z (um (uf Z I) Z)) f2) Z) Z Z))) (uB (uZ (uj (uf (um Z (um (ur (ur Z (uY Z Z) f3) (ur Z Z (G Z)) Z) Z)) eb) (JT (Rj (uj Z ⟨2,Z,by decide,λ_ r=>∃s,r=p (.I (.int k)) (.I (.int z)) (.I (q3 v.n x y)) (.I b) s,⟨_,Z⟩,?_,?_⟩))))))))))))⟩
  .rintro j d _ hd ⟨s,rfl⟩;obtain⟨hj,rfl⟩:=LR hd;exact⟨_,Z,s_n (wY (vp (uf Z (abW (abS g u B o hcm b hb) I hj)))) (wL Z ⟨_,Z⟩)⟩
  .rintro _ ⟨s,rfl⟩;exact⟨_,_,_,_,_,Z⟩
 .rintro _ ⟨a,b,c,d,e,rfl⟩;exact vg (uj Z Z)
end K32x
namespace K32x
open PySem L2 L3 L4
open PySem.W (nsIn)
structure Fx(K:aw)(C0 C1 C2 C3 C4 C5 C6 C7 C8 C9 C10 C11 C12 C13 C14 C15 C16 C17 C18 C19 C20 C21:Addr):Prop where
 a0:nsIn K aQ "Thing" = U (U (.ref C0))
 a1:nsIn K aQ "Mark" = U (U (.ref C1))
 a2:nsIn K aQ "Verb" = U (U (.ref C2))
 a3:nsIn K aQ "At" = U (U (.ref C3))
 a4:nsIn K aQ "Has" = U (U (.ref C4))
 a5:nsIn K aQ "Seen" = U (U (.ref C5))
 a6:nsIn K aQ "Marked" = U (U (.ref C6))
 a7:nsIn K aQ "Kind" = U (U (.ref C7))
 a8:nsIn K aQ "Word" = U (U (.ref C8))
 a9:nsIn K aQ "Not" = U (U (.ref C9))
 a10:nsIn K aQ "Both" = U (U (.ref C10))
 a11:nsIn K aQ "Move" = U (U (.ref C11))
 a12:nsIn K aQ "Put" = U (U (.ref C12))
 a13:nsIn K aQ "Rule" = U (U (.ref C13))
 a14:nsIn K aQ "World" = U (U (.ref C14))
 a15:nsIn K aQ "Lit" = U (U (.ref C15))
 k0:CF K C0 ["kind", "name", "start", "words"]
 k1:CF K C1 ["most", "name", "start"]
 k2:CF K C2 ["form", "joining", "name", "others"]
 k3:CF K C3 ["place", "term"]
 k4:CF K C4 ["term"]
 k5:CF K C5 ["term"]
 k6:CF K C6 ["term", "value"]
 k7:CF K C7 ["kind", "term"]
 k8:CF K C8 ["word"]
 k9:CF K C9 ["inner"]
 D?:CF K C10 ["one", "other"]
 K3:CF K C11 ["place", "term"]
 L':CF K C12 ["term", "value"]
 E?:CF K C13 ["deeds", "refuses", "tests", "text", "verb"]
 mq:CF K C14 ["copied_rules", "kept_dark", "kept_marks", "kept_things", "kept_verbs", "kept_ways", "mosts_by_name", "rules_by_verb", "shared_rules", "shared_verbs", "things_by_name", "verbs_by_word", "your_name", "kept_rules"]
 P':CF K C15 []
 ax:nsIn K aQ "NoCommand" = U (U (.ref C16))
 xx:XC K C16
 xf:XF K C16
 y0:nsIn K aQ "NoText" = U (U (.ref C17))
 z0:bX K (.ref C16) (.ref C17)=U δ
 y1:nsIn K aQ "NoWish" = U (U (.ref C18))
 z1:bX K (.ref C16) (.ref C18)=U δ
 y2:nsIn K aQ "NoWorld" = U (U (.ref C19))
 z2:bX K (.ref C16) (.ref C19)=U δ
 y3:nsIn K aQ "TellError" = U (U (.ref C20))
 z3:bX K (.ref C16) (.ref C20)=U γ
 y4:nsIn K aQ "Unlike" = U (U (.ref C21))
 z4:bX K (.ref C16) (.ref C21)=U δ
 v0:bX K (.ref C16) (.type "ValueError")=U γ
 i_At:wc K [C0,C1,C2,C3,C4,C5,C6,C7,C8,C9,C10,C11,C12,C13,C14,C15] C3 3=γ
 i_Both:wc K [C0,C1,C2,C3,C4,C5,C6,C7,C8,C9,C10,C11,C12,C13,C14,C15] C10 10=γ
 i_Has:wc K [C0,C1,C2,C3,C4,C5,C6,C7,C8,C9,C10,C11,C12,C13,C14,C15] C4 4=γ
 i_Kind:wc K [C0,C1,C2,C3,C4,C5,C6,C7,C8,C9,C10,C11,C12,C13,C14,C15] C7 7=γ
 i_Lit:wc K [C0,C1,C2,C3,C4,C5,C6,C7,C8,C9,C10,C11,C12,C13,C14,C15] C15 15=γ
 i_Mark:wc K [C0,C1,C2,C3,C4,C5,C6,C7,C8,C9,C10,C11,C12,C13,C14,C15] C1 1=γ
 i_Marked:wc K [C0,C1,C2,C3,C4,C5,C6,C7,C8,C9,C10,C11,C12,C13,C14,C15] C6 6=γ
 i_Move:wc K [C0,C1,C2,C3,C4,C5,C6,C7,C8,C9,C10,C11,C12,C13,C14,C15] C11 11=γ
 i_Not:wc K [C0,C1,C2,C3,C4,C5,C6,C7,C8,C9,C10,C11,C12,C13,C14,C15] C9 9=γ
 i_Put:wc K [C0,C1,C2,C3,C4,C5,C6,C7,C8,C9,C10,C11,C12,C13,C14,C15] C12 12=γ
 i_Rule:wc K [C0,C1,C2,C3,C4,C5,C6,C7,C8,C9,C10,C11,C12,C13,C14,C15] C13 13=γ
 i_Seen:wc K [C0,C1,C2,C3,C4,C5,C6,C7,C8,C9,C10,C11,C12,C13,C14,C15] C5 5=γ
 i_Thing:wc K [C0,C1,C2,C3,C4,C5,C6,C7,C8,C9,C10,C11,C12,C13,C14,C15] C0 0=γ
 i_Verb:wc K [C0,C1,C2,C3,C4,C5,C6,C7,C8,C9,C10,C11,C12,C13,C14,C15] C2 2=γ
 i_Word:wc K [C0,C1,C2,C3,C4,C5,C6,C7,C8,C9,C10,C11,C12,C13,C14,C15] C8 8=γ
 n_Lit:cX K (.ref C15) "__init__" = U (U (.builtin "object.__init__"))
 nd:decide ([C0,C1,C2,C3,C4,C5,C6,C7,C8,C9,C10,C11,C12,C13,C14,C15]:List Addr).Nodup=γ
 kn:kN K=γ
 e:((["ValueError", "all", "any", "bool", "int", "isinstance", "len", "list", "max", "min", "range", "set", "sorted", "str", "tuple"]:aE).all λx=>match nsIn K aQ x with|some O=>γ|_=>δ)=γ
 g0:GX K "CANNOT_BE" "That cannot be."
 g1:GS K "FORMS" ["alone", "one", "two", "way"]
 g2:GS K "KINDS" ["room", "plain", "fixed", "box", "lamp", "you"]
 g3:GS K "KINDS_APART" ["room", "you"]
 g4:GS K "KINDS_THAT_HOLD" ["room", "box", "you"]
 g5:GS K "KINDS_WITH_MARK" ["box", "lamp"]
 g6:GC K "MOST_BESIDE" 7
 g7:GC K "MOST_BY_COMMAND" 3
 g8:GC K "MOST_DEEDS" 4
 g9:GC K "MOST_DEEP" 4
 g10:GC K "MOST_IN_NAME" 8
 g11:GC K "MOST_IN_WORD" 12
 g12:GC K "MOST_MARKS" 4
 g13:GC K "MOST_OF_MARK" 3
 g14:GC K "MOST_ROOMS" 5
 g15:GC K "MOST_RULES" 20
 g16:GC K "MOST_SIGNS" 60
 g17:GC K "MOST_TESTS" 5
 g18:GC K "MOST_VERBS" 6
 g19:GC K "MOST_WAYS" 10
 g20:GC K "MOST_WORDS" 4
 g21:GX K "NOTHING_COMES" "Nothing comes of it."
 g22:GS K "NO_NAMES" ["it", "other", "here", "the", "a", "undo", "restart"]
 g23:GS K "NO_WORDS" ["the", "a"]
 g24:GS K "NO_WORDS_OF_ROWS" ["the", "a", "undo", "restart"]
 q25:GD K "is_small_letters" (top 6)
 q26:GD K "is_name" (top 7)
 q27:GD K "is_word" (top 8)
 q28:GD K "is_one_of" (top 10)
 q29:GD K "is_whole" (top 11)
 q30:GD K "is_list_up_to" (top 12)
 q31:GD K "own_list" (top 88)
 q32:GJ K C0 "Thing.__init__" (d? (top 78) 0) [V.X]
 q33:GM K C1 "__init__" "Mark.__init__" (d? (top 79) 0)
 q34:GJ K C2 "Verb.__init__" (d? (top 80) 0) [V.X,(V.str "one"),V.X]
 q35:GM K C3 "__init__" "At.__init__" (d? (top 32) 0)
 q36:GM K C4 "__init__" "Has.__init__" (d? (top 33) 0)
 q37:GM K C5 "__init__" "Seen.__init__" (d? (top 34) 0)
 q38:GM K C6 "__init__" "Marked.__init__" (d? (top 35) 0)
 q39:GM K C7 "__init__" "Kind.__init__" (d? (top 36) 0)
 q40:GM K C8 "__init__" "Word.__init__" (d? (top 37) 0)
 q41:GM K C9 "__init__" "Not.__init__" (d? (top 39) 0)
 q42:GM K C10 "__init__" "Both.__init__" (d? (top 40) 0)
 q43:GM K C11 "__init__" "Move.__init__" (d? (top 68) 0)
 q44:GM K C12 "__init__" "Put.__init__" (d? (top 69) 0)
 q45:GJ K C13 "Rule.__init__" (d? (top 87) 0) [(V.Y δ)]
 q46:GM K C0 "can_hold" "Thing.can_hold" (d? (top 78) 1)
 q47:GM K C0 "has_mark" "Thing.has_mark" (d? (top 78) 2)
 q48:GM K C0 "is_plainly" "Thing.is_plainly" (d? (top 78) 3)
 q49:GD K "refuse_unless" (top 117)
 q50:GD K "count_of" (top 120)
 q51:GD K "plain_ones" (top 121)
 q52:GD K "is_mark" (top 123)
 q53:GD K "check_things" (top 119)
 q54:GD K "check_marks" (top 122)
 q55:GD K "are_unlike" (top 125)
 q56:GD K "check_names" (top 124)
 q57:GD K "mark_names" (top 126)
 q58:GD K "is_start" (top 128)
 q59:GD K "comes_to_room" (top 129)
 q60:GD K "check_starts" (top 127)
 q61:GD K "are_words" (top 131)
 q62:GD K "has_all" (top 133)
 q63:GD K "is_told_apart" (top 132)
 q64:GD K "check_words_of_things" (top 130)
 q65:GD K "check_dark" (top 134)
 q66:GD K "is_way" (top 136)
 q67:GD K "check_ways" (top 135)
 q68:GD K "is_verb" (top 138)
 q69:GD K "check_verbs" (top 137)
 q70:GD K "are_apart" (top 140)
 q71:GD K "check_vocabulary" (top 139)
 q72:GD K "check_parts" (top 118)
 q73:GD K "does" (top 144)
 q74:GD K "refuses" (top 145)
 q75:GD K "hand_rules" (top 146)
 q76:GD K "put_rules" (top 147)
 q77:GD K "lid_rules" (top 148)
 q78:GD K "flame_rules" (top 149)
 q79:GD K "way_tests" (top 151)
 q80:GD K "go_rules" (top 150)
 q81:GD K "wait_rules" (top 152)
 q82:GD K "common_rules" (top 143)
 q83:GD K "common_verbs" (top 142)
 q84:GD K "by_name" (top 156)
 q85:GD K "mosts_by_name" (top 157)
 q86:GD K "verbs_by_word" (top 158)
 q87:GD K "by_verb" (top 159)
 q88:GM K C14 "of_kind" "World.of_kind" (d? (top 155) 3)
 q89:GM K C14 "all_verbs" "World.all_verbs" (d? (top 155) 13)
 q90:GD K "is_same_text" (top 9)
 q91:GD K "copy_of" (top 89)
 q92:GM K C14 "thing_of" "World.thing_of" (d? (top 155) 2)
 q93:GM K C14 "most_of" "World.most_of" (d? (top 155) 6)
 q94:GM K C14 "verb_of" "World.verb_of" (d? (top 155) 14)
 q95:GM K C14 "you" "World.you" (d? (top 155) 4)
 q96:GD K "is_by_command" (top 100)
 q97:GD K "is_here" (top 101)
 q98:GD K "named" (top 102)
 q99:GD K "is_of_kind" (top 103)
 q100:GD K "is_term" (top 104)
 q101:GD K "is_place" (top 105)
 q102:GD K "is_moved" (top 106)
 q103:GD K "is_mark_value" (top 107)
 q104:GD K "is_move" (top 99)
 q105:GD K "is_said" (top 92)
 q106:GD K "is_verb_name" (top 91)
 q107:GD K "does_or_refuses" (top 93)
 q108:GD K "is_plain_test" (top 97)
 q109:GD K "is_test" (top 96)
 q110:GD K "is_deed" (top 98)
 q111:GD K "are_tests" (top 94)
 q112:GD K "are_deeds" (top 95)
 q113:GD K "is_rule" (top 90)
 q114:GM K C14 "__init__" "World.__init__" (d? (top 155) 0)
 q115:GM K C14 "is_dark" "World.is_dark" (d? (top 155) 5)
 q116:GM K C14 "own_marks" "World.own_marks" (d? (top 155) 7)
 q117:GM K C14 "names" "World.names" (d? (top 155) 1)
 q118:GM K C14 "way_words" "World.way_words" (d? (top 155) 12)
 q119:GM K C14 "rules_to_try" "World.rules_to_try" (d? (top 155) 16)
 q120:GM K C14 "parts" "World.parts" (d? (top 155) 18)
 q121:GD K "own_starts" (top 15)
 q122:GD K "first_value" (top 16)
 q123:GD K "first_stand" (top 14)
 q124:GD K "value_of" (top 17)
 q125:GD K "at_of" (top 18)
 q126:GD K "mark_of" (top 19)
 q127:GD K "with_part" (top 20)
 q128:GD K "holders_of" (top 22)
 q129:GD K "room_of" (top 23)
 q130:GD K "has" (top 26)
 q131:GD K "is_shut" (top 25)
 q132:GD K "in_open" (top 24)
 q133:GD K "burns_in" (top 28)
 q134:GD K "is_lit" (top 27)
 q135:GD K "is_seen" (top 29)
 q136:GD K "is_of_way" (top 41)
 q137:GD K "things_of" (top 42)
 q138:GD K "meant" (top 43)
 q139:GD K "at_parts" (top 44)
 q140:GD K "mark_parts" (top 45)
 q141:GD K "can_go" (top 70)
 q142:GD K "can_show" (top 71)
 q143:GM K C3 "holds" "At.holds" (d? (top 32) 1)
 q144:GM K C4 "holds" "Has.holds" (d? (top 33) 1)
 q145:GM K C5 "holds" "Seen.holds" (d? (top 34) 1)
 q146:GM K C6 "holds" "Marked.holds" (d? (top 35) 1)
 q147:GM K C7 "holds" "Kind.holds" (d? (top 36) 1)
 q148:GM K C8 "holds" "Word.holds" (d? (top 37) 1)
 q149:GM K C15 "holds" "Lit.holds" (d? (top 38) 0)
 q150:GM K C9 "holds" "Not.holds" (d? (top 39) 1)
 q151:GM K C10 "holds" "Both.holds" (d? (top 40) 1)
 q152:GM K C11 "done" "Move.done" (d? (top 68) 1)
 q153:GM K C12 "done" "Put.done" (d? (top 69) 1)
 q154:GD K "is_object" (top 61)
 q155:GD K "fits_form" (top 60)
 q156:GD K "is_command" (top 59)
 q157:GD K "check_command" (top 58)
 q158:GD K "fits" (top 64)
 q159:GD K "outcome" (top 65)
 q160:GD K "answered" (top 63)
 q161:GD K "step" (top 62)
 q162:GD K "objects_of" (top 57)
 q163:GD K "commands" (top 56)
 q164:GD K "_law_cell_at" (top 161)
 q165:GD K "_law_digit" (top 162)
 q166:GD K "_law_named" (top 164)
 q167:GD K "_law_things" (top 163)
 q168:GD K "_law_marks" (top 165)
 q169:GD K "_law_ways" (top 166)
 q170:GD K "_law_verbs" (top 167)
 q171:GD K "_law_term" (top 168)
 q172:GD K "_law_mark_term" (top 170)
 q173:GD K "_law_marked" (top 171)
 q174:GD K "_law_test" (top 169)
 q175:GD K "_law_deed" (top 172)
 q176:GD K "_law_rules" (top 173)
 q177:GD K "_law_made" (top 174)
 q178:GD K "_law_world" (top 175)
 q179:GD K "_law_bad" (top 176)
 q180:GD K "_law_refused" (top 177)
 q181:GD K "law" (top 178)
class Yx(B:Bz):Prop where
 y:Yw B.P B.w B.mg B.b? B.G
 z:B.G.hs=tupleKeyHash (uK B.P B.w)
 f:Fx B.G.K (B.G.ca 0) (B.G.ca 1) (B.G.ca 2) (B.G.ca 3) (B.G.ca 4) (B.G.ca 5) (B.G.ca 6) (B.G.ca 7) (B.G.ca 8) (B.G.ca 9) (B.G.ca 10) (B.G.ca 11) (B.G.ca 12) (B.G.ca 13) (B.G.ca 14) (B.G.ca 15) (B.G.ca 16) (B.G.ca 17) (B.G.ca 18) (B.G.ca 19) (B.G.ca 20) (B.G.ca 21)
section
variable{B:Bz}[Y:Yx B]
instance:Yb B:=⟨Y.y⟩
instance:Hz B:=⟨Y.z,Y.f.kn⟩
instance:Nb B "ValueError" := ⟨Y.y.n Y.f.e 0 Z⟩
instance:Nb B "all" := ⟨Y.y.n Y.f.e 1 Z⟩
instance:Nb B "any" := ⟨Y.y.n Y.f.e 2 Z⟩
instance:Nb B "bool" := ⟨Y.y.n Y.f.e 3 Z⟩
instance:Nb B "int" := ⟨Y.y.n Y.f.e 4 Z⟩
instance:Nb B "isinstance" := ⟨Y.y.n Y.f.e 5 Z⟩
instance:Nb B "len" := ⟨Y.y.n Y.f.e 6 Z⟩
instance:Nb B "list" := ⟨Y.y.n Y.f.e 7 Z⟩
instance:Nb B "max" := ⟨Y.y.n Y.f.e 8 Z⟩
instance:Nb B "min" := ⟨Y.y.n Y.f.e 9 Z⟩
instance:Nb B "range" := ⟨Y.y.n Y.f.e 10 Z⟩
instance:Nb B "set" := ⟨Y.y.n Y.f.e 11 Z⟩
instance:Nb B "sorted" := ⟨Y.y.n Y.f.e 12 Z⟩
instance:Nb B "str" := ⟨Y.y.n Y.f.e 13 Z⟩
instance:Nb B "tuple" := ⟨Y.y.n Y.f.e 14 Z⟩
instance:Co B "CANNOT_BE" Gw:=⟨Y.y.cx Y.f.g0⟩
instance:Co B "FORMS" Px:=⟨Y.y.cs Y.f.g1⟩
instance:Co B "KINDS" Dl:=⟨Y.y.cs Y.f.g2⟩
instance:Co B "KINDS_APART" DE:=⟨Y.y.cs Y.f.g3⟩
instance:Co B "KINDS_THAT_HOLD" Aj:=⟨Y.y.cs Y.f.g4⟩
instance:Co B "KINDS_WITH_MARK" Ak:=⟨Y.y.cs Y.f.g5⟩
instance:Co B "MOST_BESIDE" DF:=⟨Y.y.ci Y.f.g6⟩
instance:Co B "MOST_BY_COMMAND" Al:=⟨Y.y.ci Y.f.g7⟩
instance:Co B "MOST_DEEDS" ET:=⟨Y.y.ci Y.f.g8⟩
instance:Co B "MOST_DEEP" Gx:=⟨Y.y.ci Y.f.g9⟩
instance:Co B "MOST_IN_NAME" CA:=⟨Y.y.ci Y.f.g10⟩
instance:Co B "MOST_IN_WORD" CB:=⟨Y.y.ci Y.f.g11⟩
instance:Co B "MOST_MARKS" Bv:=⟨Y.y.ci Y.f.g12⟩
instance:Co B "MOST_OF_MARK" CC:=⟨Y.y.ci Y.f.g13⟩
instance:Co B "MOST_ROOMS" EV:=⟨Y.y.ci Y.f.g14⟩
instance:Co B "MOST_RULES" EY:=⟨Y.y.ci Y.f.g15⟩
instance:Co B "MOST_SIGNS" EU:=⟨Y.y.ci Y.f.g16⟩
instance:Co B "MOST_TESTS" ES:=⟨Y.y.ci Y.f.g17⟩
instance:Co B "MOST_VERBS" EW:=⟨Y.y.ci Y.f.g18⟩
instance:Co B "MOST_WAYS" Gy:=⟨Y.y.ci Y.f.g19⟩
instance:Co B "MOST_WORDS" EX:=⟨Y.y.ci Y.f.g20⟩
instance:Co B "NOTHING_COMES" BX:=⟨Y.y.cx Y.f.g21⟩
instance:Co B "NO_NAMES" IQ:=⟨Y.y.cs Y.f.g22⟩
instance:Co B "NO_WORDS" IR:=⟨Y.y.cs Y.f.g23⟩
instance:Co B "NO_WORDS_OF_ROWS" zG:=⟨Y.y.cs Y.f.g24⟩
instance:Ff B A1 "copied_rules" := ⟨xl (Y.f.mq.at 0 Z)⟩
instance:Ff B A2 "deeds" := ⟨xl (Y.f.E?.at 0 Z)⟩
instance:Ff B yP "form" := ⟨xl (Y.f.k2.at 0 Z)⟩
instance:Ff B FW "inner" := ⟨xl (Y.f.k9.at 0 Z)⟩
instance:Ff B xi "joining" := ⟨xl (Y.f.k2.at 1 Z)⟩
instance:Ff B DD "kept_dark" := ⟨xl (Y.f.mq.at 1 Z)⟩
instance:Ff B zC "kept_marks" := ⟨xl (Y.f.mq.at 2 Z)⟩
instance:Ff B v8 "kept_things" := ⟨xl (Y.f.mq.at 3 Z)⟩
instance:Ff B Cy "kept_verbs" := ⟨xl (Y.f.mq.at 4 Z)⟩
instance:Ff B AF "kept_ways" := ⟨xl (Y.f.mq.at 5 Z)⟩
instance:Ff B uW "kind" := ⟨orQ (xl (Y.f.k0.at 0 Z)) (Y.f.k7.at 0 Z)⟩
instance:Ff B zD "most" := ⟨xl (Y.f.k1.at 0 Z)⟩
instance:Ff B Ah "mosts_by_name" := ⟨xl (Y.f.mq.at 6 Z)⟩
instance:Ff B uD "name" := ⟨orQ (orQ (xl (Y.f.k0.at 1 Z)) (Y.f.k1.at 1 Z)) (Y.f.k2.at 2 Z)⟩
instance:Ff B LC "one" := ⟨xl (Y.f.D?.at 0 Z)⟩
instance:Ff B FX "other" := ⟨xl (Y.f.D?.at 1 Z)⟩
instance:Ff B xj "others" := ⟨xl (Y.f.k2.at 3 Z)⟩
instance:Ff B Di "place" := ⟨orQ (xl (Y.f.k3.at 0 Z)) (Y.f.K3.at 0 Z)⟩
instance:Ff B yQ "refuses" := ⟨xl (Y.f.E?.at 1 Z)⟩
instance:Ff B yi "rules_by_verb" := ⟨xl (Y.f.mq.at 7 Z)⟩
instance:Ff B A3 "shared_rules" := ⟨xl (Y.f.mq.at 8 Z)⟩
instance:Ff B A4 "shared_verbs" := ⟨xl (Y.f.mq.at 9 Z)⟩
instance:Ff B vK "start" := ⟨orQ (xl (Y.f.k0.at 2 Z)) (Y.f.k1.at 2 Z)⟩
instance:Ff B A5 "term" := ⟨orQ (orQ (orQ (orQ (orQ (orQ (xl (Y.f.k3.at 1 Z)) (Y.f.k4.at 0 Z)) (Y.f.k5.at 0 Z)) (Y.f.k6.at 0 Z)) (Y.f.k7.at 1 Z)) (Y.f.K3.at 1 Z)) (Y.f.L'.at 0 Z)⟩
instance:Ff B Dj "tests" := ⟨xl (Y.f.E?.at 2 Z)⟩
instance:Ff B ER "text" := ⟨xl (Y.f.E?.at 3 Z)⟩
instance:Ff B zF "things_by_name" := ⟨xl (Y.f.mq.at 10 Z)⟩
instance:Ff B Dk "value" := ⟨orQ (xl (Y.f.k6.at 1 Z)) (Y.f.L'.at 1 Z)⟩
instance:Ff B yj "verb" := ⟨xl (Y.f.E?.at 4 Z)⟩
instance:Ff B Ai "verbs_by_word" := ⟨xl (Y.f.mq.at 11 Z)⟩
instance:Ff B IP "word" := ⟨xl (Y.f.k8.at 0 Z)⟩
instance:Ff B wU "words" := ⟨xl (Y.f.k0.at 3 Z)⟩
instance:Ff B AG "your_name" := ⟨xl (Y.f.mq.at 12 Z)⟩
instance:Af B 0 ["kind", "name", "start", "words"]:=⟨Y.f.k0⟩
instance:Af B 1 ["most", "name", "start"]:=⟨Y.f.k1⟩
instance:Af B 2 ["form", "joining", "name", "others"]:=⟨Y.f.k2⟩
instance:Af B 3 ["place", "term"]:=⟨Y.f.k3⟩
instance:Af B 4 ["term"]:=⟨Y.f.k4⟩
instance:Af B 5 ["term"]:=⟨Y.f.k5⟩
instance:Af B 6 ["term", "value"]:=⟨Y.f.k6⟩
instance:Af B 7 ["kind", "term"]:=⟨Y.f.k7⟩
instance:Af B 8 ["word"]:=⟨Y.f.k8⟩
instance:Af B 9 ["inner"]:=⟨Y.f.k9⟩
instance:Af B 10 ["one", "other"]:=⟨Y.f.D?⟩
instance:Af B 11 ["place", "term"]:=⟨Y.f.K3⟩
instance:Af B 12 ["term", "value"]:=⟨Y.f.L'⟩
instance:Af B 13 ["deeds", "refuses", "tests", "text", "verb"]:=⟨Y.f.E?⟩
instance:Af B 14 ["copied_rules", "kept_dark", "kept_marks", "kept_things", "kept_verbs", "kept_ways", "mosts_by_name", "rules_by_verb", "shared_rules", "shared_verbs", "things_by_name", "verbs_by_word", "your_name", "kept_rules"]:=⟨Y.f.mq⟩
instance:Ic B "At" t_At:=⟨3,vJ Y.f.i_At Z (Cw 16 _) (Bu.at ⟨Y.f.k0.ci,Y.f.k1.ci,Y.f.k2.ci,Y.f.k3.ci,Y.f.k4.ci,Y.f.k5.ci,Y.f.k6.ci,Y.f.k7.ci,Y.f.k8.ci,Y.f.k9.ci,Y.f.D?.ci,Y.f.K3.ci,Y.f.L'.ci,Y.f.E?.ci,Y.f.mq.ci,Y.f.P'.ci,trivial⟩),Y.y.g Y.f.a3⟩
instance:Ic B "Both" Oo:=⟨10,vJ Y.f.i_Both Z (Cw 16 _) (Bu.at ⟨Y.f.k0.ci,Y.f.k1.ci,Y.f.k2.ci,Y.f.k3.ci,Y.f.k4.ci,Y.f.k5.ci,Y.f.k6.ci,Y.f.k7.ci,Y.f.k8.ci,Y.f.k9.ci,Y.f.D?.ci,Y.f.K3.ci,Y.f.L'.ci,Y.f.E?.ci,Y.f.mq.ci,Y.f.P'.ci,trivial⟩),Y.y.g Y.f.a10⟩
instance:Ic B "Has" XO:=⟨4,vJ Y.f.i_Has Z (Cw 16 _) (Bu.at ⟨Y.f.k0.ci,Y.f.k1.ci,Y.f.k2.ci,Y.f.k3.ci,Y.f.k4.ci,Y.f.k5.ci,Y.f.k6.ci,Y.f.k7.ci,Y.f.k8.ci,Y.f.k9.ci,Y.f.D?.ci,Y.f.K3.ci,Y.f.L'.ci,Y.f.E?.ci,Y.f.mq.ci,Y.f.P'.ci,trivial⟩),Y.y.g Y.f.a4⟩
instance:Ic B "Kind" TX:=⟨7,vJ Y.f.i_Kind Z (Cw 16 _) (Bu.at ⟨Y.f.k0.ci,Y.f.k1.ci,Y.f.k2.ci,Y.f.k3.ci,Y.f.k4.ci,Y.f.k5.ci,Y.f.k6.ci,Y.f.k7.ci,Y.f.k8.ci,Y.f.k9.ci,Y.f.D?.ci,Y.f.K3.ci,Y.f.L'.ci,Y.f.E?.ci,Y.f.mq.ci,Y.f.P'.ci,trivial⟩),Y.y.g Y.f.a7⟩
instance:Ic B "Lit" XQ:=⟨15,vJ Y.f.i_Lit Z (Cw 16 _) (Bu.at ⟨Y.f.k0.ci,Y.f.k1.ci,Y.f.k2.ci,Y.f.k3.ci,Y.f.k4.ci,Y.f.k5.ci,Y.f.k6.ci,Y.f.k7.ci,Y.f.k8.ci,Y.f.k9.ci,Y.f.D?.ci,Y.f.K3.ci,Y.f.L'.ci,Y.f.E?.ci,Y.f.mq.ci,Y.f.P'.ci,trivial⟩),Y.y.g Y.f.a15⟩
instance:Ic B "Mark" TY:=⟨1,vJ Y.f.i_Mark Z (Cw 16 _) (Bu.at ⟨Y.f.k0.ci,Y.f.k1.ci,Y.f.k2.ci,Y.f.k3.ci,Y.f.k4.ci,Y.f.k5.ci,Y.f.k6.ci,Y.f.k7.ci,Y.f.k8.ci,Y.f.k9.ci,Y.f.D?.ci,Y.f.K3.ci,Y.f.L'.ci,Y.f.E?.ci,Y.f.mq.ci,Y.f.P'.ci,trivial⟩),Y.y.g Y.f.a1⟩
instance:Ic B "Marked" M6:=⟨6,vJ Y.f.i_Marked Z (Cw 16 _) (Bu.at ⟨Y.f.k0.ci,Y.f.k1.ci,Y.f.k2.ci,Y.f.k3.ci,Y.f.k4.ci,Y.f.k5.ci,Y.f.k6.ci,Y.f.k7.ci,Y.f.k8.ci,Y.f.k9.ci,Y.f.D?.ci,Y.f.K3.ci,Y.f.L'.ci,Y.f.E?.ci,Y.f.mq.ci,Y.f.P'.ci,trivial⟩),Y.y.g Y.f.a6⟩
instance:Ic B "Move" TZ:=⟨11,vJ Y.f.i_Move Z (Cw 16 _) (Bu.at ⟨Y.f.k0.ci,Y.f.k1.ci,Y.f.k2.ci,Y.f.k3.ci,Y.f.k4.ci,Y.f.k5.ci,Y.f.k6.ci,Y.f.k7.ci,Y.f.k8.ci,Y.f.k9.ci,Y.f.D?.ci,Y.f.K3.ci,Y.f.L'.ci,Y.f.E?.ci,Y.f.mq.ci,Y.f.P'.ci,trivial⟩),Y.y.g Y.f.a11⟩
instance:Ic B "Not" T7:=⟨9,vJ Y.f.i_Not Z (Cw 16 _) (Bu.at ⟨Y.f.k0.ci,Y.f.k1.ci,Y.f.k2.ci,Y.f.k3.ci,Y.f.k4.ci,Y.f.k5.ci,Y.f.k6.ci,Y.f.k7.ci,Y.f.k8.ci,Y.f.k9.ci,Y.f.D?.ci,Y.f.K3.ci,Y.f.L'.ci,Y.f.E?.ci,Y.f.mq.ci,Y.f.P'.ci,trivial⟩),Y.y.g Y.f.a9⟩
instance:Ic B "Put" XR:=⟨12,vJ Y.f.i_Put Z (Cw 16 _) (Bu.at ⟨Y.f.k0.ci,Y.f.k1.ci,Y.f.k2.ci,Y.f.k3.ci,Y.f.k4.ci,Y.f.k5.ci,Y.f.k6.ci,Y.f.k7.ci,Y.f.k8.ci,Y.f.k9.ci,Y.f.D?.ci,Y.f.K3.ci,Y.f.L'.ci,Y.f.E?.ci,Y.f.mq.ci,Y.f.P'.ci,trivial⟩),Y.y.g Y.f.a12⟩
instance:Ic B "Rule" T8:=⟨13,vJ Y.f.i_Rule Z (Cw 16 _) (Bu.at ⟨Y.f.k0.ci,Y.f.k1.ci,Y.f.k2.ci,Y.f.k3.ci,Y.f.k4.ci,Y.f.k5.ci,Y.f.k6.ci,Y.f.k7.ci,Y.f.k8.ci,Y.f.k9.ci,Y.f.D?.ci,Y.f.K3.ci,Y.f.L'.ci,Y.f.E?.ci,Y.f.mq.ci,Y.f.P'.ci,trivial⟩),Y.y.g Y.f.a13⟩
instance:Ic B "Seen" T9:=⟨5,vJ Y.f.i_Seen Z (Cw 16 _) (Bu.at ⟨Y.f.k0.ci,Y.f.k1.ci,Y.f.k2.ci,Y.f.k3.ci,Y.f.k4.ci,Y.f.k5.ci,Y.f.k6.ci,Y.f.k7.ci,Y.f.k8.ci,Y.f.k9.ci,Y.f.D?.ci,Y.f.K3.ci,Y.f.L'.ci,Y.f.E?.ci,Y.f.mq.ci,Y.f.P'.ci,trivial⟩),Y.y.g Y.f.a5⟩
instance:Ic B "Thing" Pw:=⟨0,vJ Y.f.i_Thing Z (Cw 16 _) (Bu.at ⟨Y.f.k0.ci,Y.f.k1.ci,Y.f.k2.ci,Y.f.k3.ci,Y.f.k4.ci,Y.f.k5.ci,Y.f.k6.ci,Y.f.k7.ci,Y.f.k8.ci,Y.f.k9.ci,Y.f.D?.ci,Y.f.K3.ci,Y.f.L'.ci,Y.f.E?.ci,Y.f.mq.ci,Y.f.P'.ci,trivial⟩),Y.y.g Y.f.a0⟩
instance:Ic B "Verb" Ua:=⟨2,vJ Y.f.i_Verb Z (Cw 16 _) (Bu.at ⟨Y.f.k0.ci,Y.f.k1.ci,Y.f.k2.ci,Y.f.k3.ci,Y.f.k4.ci,Y.f.k5.ci,Y.f.k6.ci,Y.f.k7.ci,Y.f.k8.ci,Y.f.k9.ci,Y.f.D?.ci,Y.f.K3.ci,Y.f.L'.ci,Y.f.E?.ci,Y.f.mq.ci,Y.f.P'.ci,trivial⟩),Y.y.g Y.f.a2⟩
instance:Ic B "Word" Ub:=⟨8,vJ Y.f.i_Word Z (Cw 16 _) (Bu.at ⟨Y.f.k0.ci,Y.f.k1.ci,Y.f.k2.ci,Y.f.k3.ci,Y.f.k4.ci,Y.f.k5.ci,Y.f.k6.ci,Y.f.k7.ci,Y.f.k8.ci,Y.f.k9.ci,Y.f.D?.ci,Y.f.K3.ci,Y.f.L'.ci,Y.f.E?.ci,Y.f.mq.ci,Y.f.P'.ci,trivial⟩),Y.y.g Y.f.a8⟩
instance:Xn B "NoCommand" 16:=⟨Y.f.xx,Y.y.g Y.f.ax⟩
instance:Xi B 16 "NoText" δ:=⟨Y.f.xf,.inl ⟨_,Y.y.g Y.f.y0,Y.f.z0⟩⟩
instance:Xi B 16 "NoWish" δ:=⟨Y.f.xf,.inl ⟨_,Y.y.g Y.f.y1,Y.f.z1⟩⟩
instance:Xi B 16 "NoWorld" δ:=⟨Y.f.xf,.inl ⟨_,Y.y.g Y.f.y2,Y.f.z2⟩⟩
instance:Xi B 16 "TellError" γ:=⟨Y.f.xf,.inl ⟨_,Y.y.g Y.f.y3,Y.f.z3⟩⟩
instance:Xi B 16 "Unlike" δ:=⟨Y.f.xf,.inl ⟨_,Y.y.g Y.f.y4,Y.f.z4⟩⟩
instance:Xi B 16 "ValueError" γ:=⟨Y.f.xf,.inr ⟨_,Nb.p (B:=B),by kernel_rfl,by decide,Y.f.v0⟩⟩
instance:K0f B "Lit" 15:=⟨⟨Y.f.P'.mks,Y.f.n_Lit,Y.f.P'.kp⟩,Y.y.g Y.f.a15⟩
instance:Ij B 16:=⟨injR Y.f.nd⟩
theorem eqL{A:Type}{l:List A}{n:Nat}(h:l.length=n):l.length=n:=h
theorem eqE{e:PySem.Expr}{v:PySem.Env}{r:PySem.Sem PySem.Value}(h:PySem.eval e v=r):PySem.eval e v=r:=h
local macro_rules|`(tactic|trivial)=>do let x:=("zr_tW zr_mqV zr_xC zr_xI zr_xR zr_xU zr_yI zr_y1 zr_y0 adt adf ade adg adh Pn adl aag aaL adi aae aaQ aaK ZZ Z0 aaM aaO aaH aaj aaC aam aaR Z6 Z7 Z8 Z9 Z3 aaP adm aaS zr_rpN Z4 aai aaU aaW aaN aa7 aah aaf aad ZU zr_i2I aar aas adj aaY aab aac aaa adn ado aaw Z1 Z2 aax Z5 aa4 aa5 aa6 aaV aaX aaZ adk aak aal aa0 aa1 aay aan aao abc aaz aaA aaB aa2 aa3 WR WQ WS zr_gtuL aaD aaE aaF aaq zr_r2I aat zr_xeI aau abm aav WO aaT abj zr_srI zr_mxI zr_mnI abi zr_wxI aap aa9 zr_xsI aba abb WN aa8".splitOn " ").toArray.map fun s=>Lean.mkIdent (.mkSimple s);`(tactic|repeat' first|(with_reducible intro _)|((with_reducible first|apply eqL|apply eqE);rfl)|kernel_rfl|((with_reducible first|apply aaI|apply aaJ);rotate_left 7;rfl)|(with_reducible first $[|apply $x]*)|exact pY)
instance:Df B 1 "is_small_letters" (fi B.G xU):=fy Z Y.f.q25 Z (by unfold zH;trivial)
instance:Df B 2 "is_name" (fi B.G xn):=fy Z Y.f.q26 Z (by unfold Ks;trivial)
instance:Df B 2 "is_word" (fi B.G xp):=fy Z Y.f.q27 Z (by unfold Kt;trivial)
instance:Df B 1 "is_one_of" (fi B.G u7):=fy Z Y.f.q28 Z (by unfold GA;trivial)
instance:Df B 1 "is_whole" (fi B.G zI):=fy Z Y.f.q29 Z (by unfold IS;trivial)
instance:Df B 1 "is_list_up_to" (fi B.G vn):=fy Z Y.f.q30 Z (by unfold BY;trivial)
instance:Df B 1 "own_list" (fi B.G D1):=fy Z Y.f.q31 Z (by unfold IT;trivial)
def DS:Bdz B (L1 (d? (top 78) 0)) "Thing.__init__" (d? (top 78) 0) (uX (d? (top 78) 0)) 0 Bw:=by
 unfold Bw;refine Pn ?_ ?_
 all_goals trivial
instance:Kf B 1 "Thing" 0 yk [D.X]:=gJ4 (dds:=[D.X]) Y.f.k0 Y.f.a0 Z Y.f.q32 Z Z DS 0
instance:Kf B 1 "Thing" 0 yk []:=gJ4 (dds:=[D.X]) Y.f.k0 Y.f.a0 Z Y.f.q32 Z Z DS 1
instance:Kf B 1 "Mark" 1 GE []:=gI4 Y.f.k1 Y.f.a1 Z Y.f.q33 Z Z (by unfold GB;trivial)
def zl:Bdz B (L1 (d? (top 80) 0)) "Verb.__init__" (d? (top 80) 0) (uX (d? (top 80) 0)) 0 CD:=by
 unfold CD;refine Pn ?_ ?_
 all_goals trivial
instance:Kf B 1 "Verb" 2 vx [D.X,(D.str "one"),D.X]:=gJ4 (dds:=[D.X,(D.str "one"),D.X]) Y.f.k2 Y.f.a2 Z Y.f.q34 Z Z zl 0
instance:Kf B 1 "Verb" 2 vx [(D.str "one"),D.X]:=gJ4 (dds:=[D.X,(D.str "one"),D.X]) Y.f.k2 Y.f.a2 Z Y.f.q34 Z Z zl 1
instance:Kf B 1 "Verb" 2 vx [D.X]:=gJ4 (dds:=[D.X,(D.str "one"),D.X]) Y.f.k2 Y.f.a2 Z Y.f.q34 Z Z zl 2
instance:Kf B 1 "Verb" 2 vx []:=gJ4 (dds:=[D.X,(D.str "one"),D.X]) Y.f.k2 Y.f.a2 Z Y.f.q34 Z Z zl 3
instance:Kf B 1 "At" 3 Dm []:=gI4 Y.f.k3 Y.f.a3 Z Y.f.q35 Z Z (by unfold Ku;trivial)
instance:Kf B 1 "Has" 4 BA []:=gI4 Y.f.k4 Y.f.a4 Z Y.f.q36 Z Z (by unfold IU;trivial)
instance:Kf B 1 "Seen" 5 GH []:=gI4 Y.f.k5 Y.f.a5 Z Y.f.q37 Z Z (by unfold GF;trivial)
instance:Kf B 1 "Marked" 6 vS []:=gI4 Y.f.k6 Y.f.a6 Z Y.f.q38 Z Z (by unfold DG;trivial)
instance:Kf B 1 "Kind" 7 wB []:=gI4 Y.f.k7 Y.f.a7 Z Y.f.q39 Z Z (by unfold GK;trivial)
instance:Kf B 1 "Word" 8 CG []:=gI4 Y.f.k8 Y.f.a8 Z Y.f.q40 Z Z (by unfold GL;trivial)
instance:Kf B 1 "Not" 9 wI []:=gI4 Y.f.k9 Y.f.a9 Z Y.f.q41 Z Z (by unfold IV;trivial)
instance:Kf B 1 "Both" 10 GO []:=gI4 Y.f.D? Y.f.a10 Z Y.f.q42 Z Z (by unfold GN;trivial)
instance:Kf B 1 "Move" 11 xk []:=gI4 Y.f.K3 Y.f.a11 Z Y.f.q43 Z Z (by unfold GP;trivial)
instance:Kf B 1 "Put" 12 yD []:=gI4 Y.f.L' Y.f.a12 Z Y.f.q44 Z Z (by unfold IW;trivial)
instance:Kf B 2 "Rule" 13 yR []:=gJ4 (dds:=[(D.Y δ)]) Y.f.E? Y.f.a13 Z Y.f.q45 Z Z (by unfold GQ;trivial) 1
instance:Mf B 9 "can_hold" vy:=⟨λc h e=>by
 unfold vy at e;split at e
 .cases e;exact rh (k:=8) Y.f.k0 Z Y.f.q46 Z (by unfold A6;trivial)
 .cases e⟩
instance:Mf B 9 "has_mark" wu:=⟨λc h e=>by
 unfold wu at e;split at e
 .cases e;exact rh (k:=8) Y.f.k0 Z Y.f.q47 Z (by unfold A8;trivial)
 .cases e⟩
instance:Mf B 9 "is_plainly" vt:=⟨λc h e=>by
 unfold vt at e;split at e
 .cases e;exact rh (k:=8) Y.f.k0 Z Y.f.q48 Z (by unfold zJ;trivial)
 .cases e⟩
instance:Df B 1 "refuse_unless" (fi B.G uy):=fy Z Y.f.q49 Z (by unfold BZ;trivial)
instance:Df B 1 "count_of" (fi B.G BB):=fy Z Y.f.q50 Z (by unfold IY;trivial)
instance:Df B 10 "plain_ones" (u1 B.G ym):=ν Z Y.f.q51 Z (by unfold EZ;trivial)
instance:Df B 2 "is_mark" (fi B.G FZ):=fy Z Y.f.q52 Z (by unfold FY;trivial)
instance:Df B 11 "check_things" (fi B.G zM):=fy Z Y.f.q53 Z (by unfold zL;trivial)
instance:Df B 3 "check_marks" (fi B.G AI):=fy Z Y.f.q54 Z (by unfold AH;trivial)
instance:Df B 1 "are_unlike" (fi B.G wJ):=fy Z Y.f.q55 Z (by unfold E1;trivial)
instance:Df B 3 "check_names" (fi B.G AK):=fy Z Y.f.q56 Z (by unfold AJ;trivial)
instance:Df B 10 "mark_names" (u1 B.G yn):=ν Z Y.f.q57 Z (by unfold E2;trivial)
instance:Df B 10 "is_start" (fi B.G D3):=fy Z Y.f.q58 Z (by unfold D2;trivial)
instance:Df B 1 "comes_to_room" (fi B.G y7):=fy Z Y.f.q59 Z (by unfold B2;trivial)
instance:Df B 11 "check_starts" (fi B.G zP):=gF5 ["things", "starts", "thing"] Z Y.f.q60 Z (by unfold zO;trivial)
instance:Df B 3 "are_words" (fi B.G Am):=fy Z Y.f.q61 Z (by unfold GR;trivial)
instance:Df B 1 "has_all" (fi B.G Ba):=fy Z Y.f.q62 Z (by unfold Kv;trivial)
instance:Df B 2 "is_told_apart" (fi B.G y9):=fy Z Y.f.q63 Z (by unfold y8;trivial)
instance:Df B 11 "check_words_of_things" (fi B.G wy):=fy Z Y.f.q64 Z (by unfold wx;trivial)
instance:Df B 2 "check_dark" (fi B.G BD):=fy Z Y.f.q65 Z (by unfold BC;trivial)
instance:Df B 3 "is_way" (fi B.G I0):=fy Z Y.f.q66 Z (by unfold IZ;trivial)
instance:Df B 4 "check_ways" (fi B.G BF):=fy Z Y.f.q67 Z (by unfold BE;trivial)
instance:Df B 3 "is_verb" (fi B.G Kz):=fy Z Y.f.q68 Z (by unfold Kw;trivial)
instance:Df B 4 "check_verbs" (fi B.G yJ):=fy Z Y.f.q69 Z (by unfold DH;trivial)
instance:Df B 1 "are_apart" (fi B.G yS):=fy Z Y.f.q70 Z (by unfold GT;trivial)
instance:Df B 11 "check_vocabulary" (fi B.G xX):=fy Z Y.f.q71 Z (by unfold xW;trivial)
instance:Df B 12 "check_parts" (fi B.G AM):=fy Z Y.f.q72 Z (by unfold AL;trivial)
instance:Df B 4 "does" (fi B.G zQ):=fy Z Y.f.q73 Z (by unfold Uc;trivial)
instance:Df B 4 "refuses" (fi B.G vF):=fy Z Y.f.q74 Z (by unfold KA;trivial)
instance:Df B 5 "hand_rules" (u1 B.G BG):=ν Z Y.f.q75 Z (by unfold E3;trivial)
instance:Df B 5 "put_rules" (u1 B.G CH):=ν Z Y.f.q76 Z (by unfold GU;trivial)
instance:Df B 5 "lid_rules" (u1 B.G CJ):=ν Z Y.f.q77 Z (by unfold GV;trivial)
instance:Df B 5 "flame_rules" (u1 B.G AN):=ν Z Y.f.q78 Z (by unfold DI;trivial)
instance:Df B 3 "way_tests" (u1 B.G CK):=ν Z Y.f.q79 Z (by unfold GW;trivial)
instance:Df B 5 "go_rules" (u1 B.G D5):=ν Z Y.f.q80 Z (by unfold D4;trivial)
instance:Df B 5 "wait_rules" (u1 B.G E5):=ν Z Y.f.q81 Z (by unfold E4;trivial)
instance:Df B 6 "common_rules" (u1 B.G zR):=ν Z Y.f.q82 Z (by unfold CL;trivial)
instance:Df B 3 "common_verbs" (u1 B.G yp):=ν Z Y.f.q83 Z (by unfold CM;trivial)
instance:Df B 1 "by_name" (fi B.G F1):=fy Z Y.f.q84 Z (by unfold F0;trivial)
instance:Df B 10 "mosts_by_name" (fi B.G zb):=fy Z Y.f.q85 Z (by unfold za;trivial)
instance:Df B 1 "verbs_by_word" (fi B.G xO):=fy Z Y.f.q86 Z (by unfold B3;trivial)
instance:Df B 1 "by_verb" (fi B.G KC):=fy Z Y.f.q87 Z (by unfold KB;refine⟨QY (stW (by kernel_rfl) Mj Z) (RH pY Z (MC (Mo B.G.K (NV (Kx (by kernel_rfl))))) (pgI (by kernel_rfl)) (Ej (K2 (Sf B.G.K jF lh oQ FC (Tg (Kx (by kernel_rfl)) (Su (NV (Kx (by kernel_rfl))) (Ff.p (B:=B))) (K6 xB) ⟨Z,Z,Z,Z⟩) (vq (Kx (by kernel_rfl)) xB))))) (NA (PE.ghost (Kx (by kernel_rfl))))⟩)
instance:Mf B 9 "of_kind" xJ:=⟨λc h e=>by
 unfold xJ at e;split at e
 .cases e;exact rh (k:=8) Y.f.mq Z Y.f.q88 Z (by unfold B4;trivial)
 .cases e⟩
instance:Mf B 9 "all_verbs" xP:=⟨λc h e=>by
 unfold xP at e;split at e
 .cases e;exact rh (k:=8) Y.f.mq Z Y.f.q89 Z (by unfold An;trivial)
 .cases e⟩
instance:Df B 1 "is_same_text" (fi B.G yq):=fy Z Y.f.q90 Z (by unfold CN;trivial)
instance:Df B 4 "copy_of" (fi B.G F2):=fy Z Y.f.q91 Z (by unfold KD;trivial)
instance:Mf B 9 "thing_of" uL:=⟨λc h e=>by
 unfold uL at e;split at e
 .cases e;exact rh (k:=8) Y.f.mq Z Y.f.q92 Z (by unfold Bb;trivial)
 .cases e⟩
instance:Mf B 9 "most_of" vT:=⟨λc h e=>by
 unfold vT at e;split at e
 .cases e;exact rh (k:=8) Y.f.mq Z Y.f.q93 Z (by unfold B6;trivial)
 .cases e⟩
instance:Mf B 9 "verb_of" vU:=⟨λc h e=>by
 unfold vU at e;split at e
 .cases e;exact rh (k:=8) Y.f.mq Z Y.f.q94 Z (by unfold B7;trivial)
 .cases e⟩
instance:Mf B 9 "you" zq:=⟨λc h e=>by
 unfold zq at e;split at e
 .cases e;exact rh (k:=8) Y.f.mq Z Y.f.q95 Z (by unfold GY;trivial)
 .cases e⟩
instance:Df B 2 "is_by_command" (fi B.G vz):=fy Z Y.f.q96 Z (by unfold B8;trivial)
instance:Df B 2 "is_here" (fi B.G yE):=fy Z Y.f.q97 Z (by unfold KE;trivial)
instance:Df B 10 "named" (fi B.G Ap):=fy Z Y.f.q98 Z (by unfold Py;trivial)
instance:Df B 11 "is_of_kind" (fi B.G zh):=fy Z Y.f.q99 Z (by unfold E6;trivial)
instance:Df B 11 "is_term" (fi B.G Bc):=fy Z Y.f.q100 Z (by unfold KG;trivial)
instance:Df B 11 "is_place" (fi B.G BH):=fy Z Y.f.q101 Z (by unfold D6;trivial)
instance:Df B 12 "is_moved" (fi B.G D8):=fy Z Y.f.q102 Z (by unfold D7;trivial)
instance:Df B 10 "is_mark_value" (fi B.G xR):=fy Z Y.f.q103 Z (by unfold xQ;trivial)
instance:Df B 13 "is_move" (fi B.G F4):=fy Z Y.f.q104 Z (by unfold F3;trivial)
instance:Df B 1 "is_said" (fi B.G Be):=fy Z Y.f.q105 Z (by unfold KH;trivial)
instance:Df B 10 "is_verb_name" (fi B.G zS):=fy Z Y.f.q106 Z (by unfold CO;trivial)
instance:Df B 1 "does_or_refuses" (fi B.G yt):=fy Z Y.f.q107 Z (by unfold Aq;trivial)
instance:Df B 12 "is_plain_test" (fi B.G zc):=fy Z Y.f.q108 Z (by unfold vG;trivial)
instance:Df B 1 "is_test" (fi B.G (x6 0)):=fy (k:=0) Z Y.f.q109 Z (by trivial)
instance:Df B 13 "is_test" (fi B.G (x6 1)):=fy (k:=12) Z Y.f.q109 Z (by unfold x4;trivial)
instance:Df B 14 "is_test" (fi B.G (x6 2)):=fy (k:=13) Z Y.f.q109 Z (by unfold x4;trivial)
instance:Df B 15 "is_test" (fi B.G (x6 3)):=fy (k:=14) Z Y.f.q109 Z (by unfold x4;trivial)
instance:Df B 16 "is_test" (fi B.G (x6 4)):=fy (k:=15) Z Y.f.q109 Z (by unfold x4;trivial)
instance:Df B 14 "is_deed" (fi B.G F5):=fy Z Y.f.q110 Z (by unfold Dn;trivial)
instance:Df B 18 "are_tests" (fi B.G CP):=fy Z Y.f.q111 Z (by unfold GZ;trivial)
instance:Df B 15 "are_deeds" (fi B.G CQ):=fy Z Y.f.q112 Z (by unfold G0;trivial)
instance:Df B 19 "is_rule" (fi B.G F7):=fy Z Y.f.q113 Z (by unfold F6;trivial)
instance:Kf B 20 "World" 14 zi []:=gI4 Y.f.mq Y.f.a14 Z Y.f.q114 Z Z (by unfold yu;trivial)
instance:Mf B 9 "is_dark" yK:=⟨λc h e=>by
 unfold yK at e;split at e
 .cases e;exact rh (k:=8) Y.f.mq Z Y.f.q115 Z (by unfold B9;trivial)
 .cases e⟩
instance:Mf B 9 "own_marks" zd:=⟨λc h e=>by
 unfold zd at e;split at e
 .cases e;exact rh (k:=8) Y.f.mq Z Y.f.q116 Z (by unfold Ar;trivial)
 .cases e⟩
instance:Mf B 9 "names" yT:=⟨λc h e=>by
 unfold yT at e;split at e
 .cases e;exact rh (k:=8) Y.f.mq Z Y.f.q117 Z (by unfold DJ;trivial)
 .cases e⟩
instance:Mf B 9 "way_words" xS:=⟨λc h e=>by
 unfold xS at e;split at e
 .cases e;exact rh (k:=8) Y.f.mq Z Y.f.q118 Z (by unfold As;trivial)
 .cases e⟩
instance:Mf B 9 "rules_to_try" xY:=⟨λc h e=>by
 unfold xY at e;split at e
 .cases e;exact rh (k:=8) Y.f.mq Z Y.f.q119 Z (by unfold yU;trivial)
 .cases e⟩
instance:Mf B 12 "parts" Av:=⟨λc h e=>by
 unfold Av at e;split at e
 .cases e;exact rh (k:=11) Y.f.mq Z Y.f.q120 Z (by unfold DL;trivial)
 .cases e⟩
instance:Df B 10 "own_starts" (fi B.G BI):=fy Z Y.f.q121 Z (by unfold E8;trivial)
instance:Df B 10 "first_value" (fi B.G xK):=fy Z Y.f.q122 Z (by unfold DM;trivial)
instance:Df B 13 "first_stand" (fi B.G xM):=fy Z Y.f.q123 Z (by unfold DN;trivial)
instance:Df B 1 "value_of" (fi B.G BJ):=fy Z Y.f.q124 Z (by unfold Ja;trivial)
instance:Df B 2 "at_of" (fi B.G Aw):=fy Z Y.f.q125 Z (by unfold Pz;trivial)
instance:Df B 2 "mark_of" (fi B.G zr):=fy Z Y.f.q126 Z (by unfold KI;trivial)
instance:Df B 1 "with_part" (fi B.G Ax):=fy Z Y.f.q127 Z (by unfold G1;trivial)
instance:Df B 3 "holders_of" (u1 B.G xq):=ν Z Y.f.q128 Z (by unfold E9;trivial)
instance:Df B 10 "room_of" (fi B.G zt):=fy Z Y.f.q129 Z (by unfold KJ;trivial)
instance:Df B 10 "has" (fi B.G Ud):=fy Z Y.f.q130 Z (by unfold XS;trivial)
instance:Df B 10 "is_shut" (fi B.G yF):=fy Z Y.f.q131 Z (by unfold KL;trivial)
instance:Df B 11 "in_open" (fi B.G yG):=fy Z Y.f.q132 Z (by unfold KM;trivial)
instance:Df B 12 "burns_in" (fi B.G zT):=fy Z Y.f.q133 Z (by unfold Jb;trivial)
instance:Df B 13 "is_lit" (fi B.G Fb):=fy Z Y.f.q134 Z (by unfold M8;trivial)
instance:Df B 14 "is_seen" (fi B.G x8):=fy Z Y.f.q135 Z (by unfold KN;trivial)
instance:Df B 10 "is_of_way" (fi B.G Ay):=fy Z Y.f.q136 Z (by unfold G2;trivial)
instance:Df B 11 "things_of" (fi B.G vV):=fy Z Y.f.q137 Z (by unfold G3;trivial)
instance:Df B 12 "meant" (fi B.G vH):=fy Z Y.f.q138 Z (by unfold PB;trivial)
instance:Df B 10 "at_parts" (fi B.G D9):=fy Z Y.f.q139 Z (by unfold Jc;trivial)
instance:Df B 10 "mark_parts" (fi B.G zj):=fy Z Y.f.q140 Z (by unfold Fc;trivial)
instance:Df B 11 "can_go" (fi B.G Fd):=fy Z Y.f.q141 Z (by unfold M9;trivial)
instance:Df B 11 "can_show" (fi B.G Ea):=fy Z Y.f.q142 Z (by unfold Jd;trivial)
instance:Mf B 16 "holds" (u9 0):=⟨λc h e=>by
 unfold u9 BK at e;split at e
 .cases e;exact rh (k:=15) Y.f.k3 Z Y.f.q143 Z (by unfold Je;trivial)
 .cases e;exact rh (k:=15) Y.f.k4 Z Y.f.q144 Z (by unfold G4;trivial)
 .cases e;exact rh (k:=15) Y.f.k5 Z Y.f.q145 Z (by unfold Fe;trivial)
 .cases e;exact rh (k:=15) Y.f.k6 Z Y.f.q146 Z (by unfold CS;trivial)
 .cases e;exact rh (k:=15) Y.f.k7 Z Y.f.q147 Z (by unfold Fh;trivial)
 .cases e;exact rh (k:=15) Y.f.k8 Z Y.f.q148 Z (by unfold Fj;trivial)
 .cases e;exact rh (k:=15) Y.f.P' Z Y.f.q149 Z (by unfold G6;trivial)
 .cases e⟩
instance:Mf B 17 "holds" (u9 1):=⟨λc h e=>by
 unfold u9 at e;split at e
 .cases e;exact rh (k:=16) Y.f.k9 Z Y.f.q150 Z (by unfold yV;trivial)
 .cases e;exact rh (k:=16) Y.f.D? Z Y.f.q151 Z (by unfold yw;trivial)
 .exact(Mf.p (B:=B) (g:=u9 0) c h e).mono Z⟩
instance:Mf B 18 "holds" (u9 2):=⟨λc h e=>by
 unfold u9 at e;split at e
 .cases e;exact rh (k:=17) Y.f.k9 Z Y.f.q150 Z (by unfold yV;trivial)
 .cases e;exact rh (k:=17) Y.f.D? Z Y.f.q151 Z (by unfold yw;trivial)
 .exact(Mf.p (B:=B) (g:=u9 0) c h e).mono Z⟩
instance:Mf B 19 "holds" (u9 3):=⟨λc h e=>by
 unfold u9 at e;split at e
 .cases e;exact rh (k:=18) Y.f.k9 Z Y.f.q150 Z (by unfold yV;trivial)
 .cases e;exact rh (k:=18) Y.f.D? Z Y.f.q151 Z (by unfold yw;trivial)
 .exact(Mf.p (B:=B) (g:=u9 0) c h e).mono Z⟩
instance:Mf B 14 "done" BL:=⟨λc h e=>by
 unfold BL at e;split at e
 .cases e;exact rh (k:=13) Y.f.K3 Z Y.f.q152 Z (by unfold G8;trivial)
 .cases e;exact rh (k:=13) Y.f.L' Z Y.f.q153 Z (by unfold Jf;trivial)
 .cases e⟩
instance:Df B 10 "is_object" (fi B.G x9):=fy Z Y.f.q154 Z (by unfold G9;trivial)
instance:Df B 11 "fits_form" (fi B.G ya):=fy Z Y.f.q155 Z (by unfold He;trivial)
instance:Df B 12 "is_command" (fi B.G vP):=fy Z Y.f.q156 Z (by unfold Fl;trivial)
instance:Dx B 13 "check_command" 16 u0:=gX4 Z Y.f.q157 Z (by unfold Ca;trivial)
instance:Dv B 13 "check_command" 16 (xV u0):=Dx.dv inferInstance
instance:Df B 13 "check_command" (fi B.G (dV (xV u0))):=Dv.df (c:=16) inferInstance
instance:Df B 20 "fits" (fi B.G LD):=fy Z Y.f.q158 Z (by unfold Ue;trivial)
instance:Df B 15 "outcome" (fi B.G Do):=fy Z Y.f.q159 Z (by unfold KO;trivial)
instance:Df B 21 "answered" (fi B.G Ed):=fy Z Y.f.q160 Z (by unfold Jg;trivial)
instance:Dv B 22 "step" 16 CT:=gV4 Z Y.f.q161 Z (by unfold LF;trivial)
instance:Df B 22 "step" (fi B.G (dV CT)):=Dv.df (c:=16) inferInstance
instance:Df B 10 "objects_of" (u1 B.G xu):=ν Z Y.f.q162 Z (by unfold xt;trivial)
instance:Df B 11 "commands" (u1 B.G Ef):=ν Z Y.f.q163 Z (by unfold Ee;trivial)
instance:Df B 1 "_law_cell_at" (fi B.G yx):=fy Z Y.f.q164 Z (by unfold CU;trivial)
instance:Df B 1 "_law_digit" (vo B.G ui):=gM4 Z Y.f.q165 Z Z (by unfold zk;trivial)
instance:Df B 1 "_law_named" (u1 B.G vM):=ν Z Y.f.q166 Z (by unfold Fm;trivial)
instance:Df B 3 "_law_things" (vo B.G AQ):=gM5 ["_law_state", "_law_rooms", "_law_things_here", "_law_holders", "_law_pool", "_law_turn", "_law_k", "_law_name", "_law_words", "_law_kind"] Z Y.f.q167 Z Z (by unfold DO;trivial)
instance:Df B 3 "_law_marks" (vo B.G BM):=gM4 Z Y.f.q168 Z Z (by unfold Fn;trivial)
instance:Df B 2 "_law_ways" (vo B.G CV):=gM5 ["_law_state", "_law_things_here", "_law_marks_here", "_law_rooms", "_law_doors", "_law_ways_here", "_law_k", "_law_room", "_law_word", "_law_goal", "_law_mark"] Z Y.f.q169 Z Z (by unfold Hf;trivial)
instance:Df B 3 "_law_verbs" (vo B.G BN):=gM4 Z Y.f.q170 Z Z (by unfold Fo;trivial)
instance:Df B 2 "_law_term" (vo B.G wj):=gM4 Z Y.f.q171 Z Z (by unfold Hg;trivial)
instance:Df B 2 "_law_mark_term" (vo B.G xy):=gM4 Z Y.f.q172 Z Z (by unfold Bf;trivial)
instance:Df B 3 "_law_marked" (vo B.G yL):=gM4 Z Y.f.q173 Z Z (by unfold DP;trivial)
instance:Df B 1 "_law_test" (vo B.G (wm 0)):=gM4 (k:=0) Z Y.f.q174 Z Z (by trivial)
instance:Df B 4 "_law_test" (vo B.G (wm 1)):=gM4 (k:=3) Z Y.f.q174 Z Z (by unfold yW;trivial)
instance:Df B 5 "_law_test" (vo B.G (wm 2)):=gM4 (k:=4) Z Y.f.q174 Z Z (by unfold yW;trivial)
instance:Df B 6 "_law_test" (vo B.G (wm 3)):=gM4 (k:=5) Z Y.f.q174 Z Z (by unfold yW;trivial)
instance:Df B 3 "_law_deed" (vo B.G CW):=gM4 Z Y.f.q175 Z Z (by unfold Hh;trivial)
instance:Df B 8 "_law_rules" (vo B.G BO):=gM5 ["_law_state", "_law_things_here", "_law_marks_here", "_law_verbs_here", "_law_most", "_law_forms", "_law_rules_here", "_law_k", "_law_verb", "_law_form", "_law_tests", "_law_refuses", "_law_deeds"] Z Y.f.q176 Z Z (by unfold Fp;trivial)
instance:Df B 9 "_law_made" (vo B.G AB):=gM4 Z Y.f.q177 Z Z (by unfold Hk;trivial)
instance:Df B 22 "_law_world" (fi B.G BP):=fy Z Y.f.q178 Z (by unfold Fq;trivial)
instance:Df B 1 "_law_bad" (fi B.G Eg):=fy Z Y.f.q179 Z (by unfold Jh;trivial)
instance:Df B 23 "_law_refused" (fi B.G zW):=fy Z Y.f.q180 Z (by unfold CY;trivial)
def Vd:Bdz B (L1 (top 178)) "law" (top 178) (uX (top 178)) 23 Ug:=by
 unfold Ug;refine Pn ?_ ?_
 all_goals trivial
end
end K32x
namespace K32x
open PySem L2 L3 L4
def Qc(K:aw):Sp:=λd H Q v=>∃(a:Addr) (b:List Int),d=[.ref a]/\f5 K H a (b.map V.int)/\b.length<=63/\∀c,Q (.Y γ) c
theorem KZ{G:Bg}{H:Hp}:∀a:List Int,di G H (a.map D.int) (a.map V.int)
 |[]=>uU
 |n::a=>uR (wF n) (KZ a)
def Xp{G:Bg}:∀c H Q E,Qc G.K c H Q E->fi G XT c H Q E:=λc H Q E h=>by obtain⟨a,b,rfl,i,f,k⟩:=h;refine⟨H,[.u? (b.map D.int)],.Y γ,uw.refl _,uR (by unfold L4.en;exact⟨a,_,Z,i,KZ b⟩) uU,abX b f,λv e d s s s s r=>?_⟩;unfold L4.en at r;subst r;exact k d
section
variable{K:aw}{x m q:Str}{st:Stmt}{f C:Addr}{oc:aa}{od:Option Addr}{kV doc pm:aa}{an:Option Addr}{cdv ct:aa}{osl:Array (Option aa)}
def Ve(lk:K.lookup f=U ⟨oc,od,.func (eO x q (yc st) (uX st) (uE st) .none kV doc pm an cdv ct),osl⟩)(b:gZ K cdv q=γ)(c:de K (.ref f)=γ):∃a,Fun K x q st f a:=⟨_,⟨_,_,_,_,_,_,_,_,_,Z,lk,b⟩,c⟩
def gd_mk(h:iZ K aQ x=U (U (.ref f)))(lk:K.lookup f=U ⟨oc,od,.func (eO x x (yc st) (uX st) (uE st) .none kV doc pm an cdv ct),osl⟩)(a:gZ K cdv x=γ)(b:de K (.ref f)=γ):GD K x st:=⟨f,(Ve lk a b).imp λv F=>⟨h,F⟩⟩
def gm_mk(h:cX K (.ref C) m=U (U (.ref f)))(b:j5 K (.ref f)=γ)(lk:K.lookup f=U ⟨oc,od,.func (eO m q (yc st) (uX st) (uE st) .none kV doc pm an cdv ct),osl⟩)(a:gZ K cdv q=γ)(c:de K (.ref f)=γ):GM K C m q st:=⟨f,(Ve lk a c).imp λv F=>⟨h,b,F⟩⟩
end
theorem all_mk{l:hE}{w:az}{K:aw}{h:Heap}{y:Str->Option aa}{T:Addr}(X:K.In h)(S:h.Ns aQ y)(hfa:y "law" = U (.ref T)){z A C E H I J M P Q b d i j m o p q r t u x:Addr}(F:Fx K z A C E H I J M P Q b d i j m o p q r t u x):
  ∃R:bS,(∀(s:af) (v:aa),hJ s R ⟨[v],[]⟩ [("_law_script", v)])/\∀b?:Heap,K.In b?->b?.Ns aQ y->xC l.prog w K y b? F? 24 T R ["_law_script"] (Qc K):=by
 have ri:∃B:Bg,B.K=K/\B.ca 0=z/\B.ca 1=A/\B.ca 2=C/\B.ca 3=E/\B.ca 4=H/\B.ca 5=I/\B.ca 6=J/\B.ca 7=M/\B.ca 8=P/\B.ca 9=Q/\B.ca 10=b/\B.ca 11=d/\B.ca 12=i/\B.ca 13=j/\B.ca 14=m/\B.ca 15=o/\B.ca 16=p/\B.ca 17=q/\B.ca 18=r/\B.ca 19=t/\B.ca 20=u/\B.ca 21=x/\B.hs=tupleKeyHash (uK l.prog w):=⟨⟨K,λc=>[z,A,C,E,H,I,J,M,P,Q,b,d,i,j,m,o,p,q,r,t,u,x].getD c 0,_⟩,Z,Z,Z,Z,Z,Z,Z,Z,Z,Z,Z,Z,Z,Z,Z,Z,Z,Z,Z,Z,Z,Z,Z,Z⟩;obtain⟨B,rfl,rfl,rfl,rfl,rfl,rfl,rfl,rfl,rfl,rfl,rfl,rfl,rfl,rfl,rfl,rfl,rfl,rfl,rfl,rfl,rfl,rfl,rfl,W⟩:=ri;have A_:∀b?,Yx ⟨l.prog,w,y,b?,B⟩:=λb?=>⟨⟨h,X,S⟩,W,F⟩;obtain⟨f,R,a,FF⟩:=F.q181;have e:=hfa.symm.t (iY X S a);cases e;obtain⟨oc,od,kV,doc,pm,Y,cdv,ct,osl,rfl,lk,hcd⟩:=FF.ex;exact⟨_,λs v=>.of_eq Z,λb? _ _=>(SO Z Z Z FF (sx (N:=L1 (top 178)) (ps:=["_law_script"]) (np:=1) (n:=8) (by kernel_rfl)).1 ((@Vd _ (A_ b?)).ok Z _)).imp (Xp (G:=B))⟩
def walk{l:hE}{q:aB}{loose:aE}{XP:(Str->Option aa)->Heap->Prop}{YP:az->Heap->Prop}{d:DefRec}{K:Params->aw}(j:l.most=U 63)(hdf:d.params.defaults=[])
  (hY:∀(w:az) (h:Heap),YP w h->(K w.params).In h)
  (F:∀(w:az) (b:Str->Option aa) (c:Addr) (h:Heap),(K w.params).In h->h.Ns aQ b->b d.name=U (.ref c)->
   ∃e:bS,(∀(s:af) (u:aa),hJ s e ⟨[u],[]⟩ [("_law_script", u)])/\∀b?:Heap,(K w.params).In b?->b?.Ns aQ b->xC l.prog w (K w.params) b b? F? 24 c e ["_law_script"] (Qc (K w.params))):
  W.WalkO q loose XP YP l.row.toRowW d [] (λf o=>mT f o):=
 L2.VG (n:=63) (k:=24) (x:="_law_script") (CX:=λv=>F?) (sp:=λw=>Qc (K w.params)) j (by decide) hdf ⟨Z,by decide,by decide⟩ hY F (λv v a m i v hS=>⟨a,m,Z,hS,i,λv=>Z⟩) λv v v v v z=>z
end K32x
set_option maxHeartbeats 0
open PySem PySem.W PyProof.Rows
set_option tactic.hygienic true
theorem PySem.Challenge.cw_tellworld_k32_what_is_no_command_holds : PySem.Challenge.rw_tellworld_k32_what_is_no_command.Holds := by
 refine hd ?_
 k_fill
 refine K32x.walk (l:=PySem.Challenge.rw_tellworld_k32_what_is_no_command) rfl rfl (λw h Y=>Y) ?F
 case F=>
  intro w mg fa h KX G hmg;refine' K32x.all_mk KX G hmg ?Q
  case Q=>
   constructor
   all_goals as_aux_lemma=>first
   |k_is
   |kernel_rfl
   |(show W.excIn _ _ _ _=true;first|k_exc|k_is|kernel_rfl)
   |exact⟨by first|k_is|kernel_rfl,by first|k_is|kernel_rfl,by first|k_is|kernel_rfl,by first|k_is|kernel_rfl,by first|k_is|kernel_rfl,by first|k_is|kernel_rfl,by first|k_is|kernel_rfl,by first|k_is|kernel_rfl⟩
   |exact⟨⟨⟨by k_is,by k_is,by k_is,by k_is⟩,by k_is,by k_is,by k_is,by k_is⟩,by k_is,by k_is,by kernel_rfl⟩
   |exact⟨_,by k_is⟩
   |exact K32x.gd_mk (by k_is) (by k_is) (by k_is) (by k_is)
   |exact K32x.gm_mk (by k_is) (by k_is) (by k_is) (by k_is) (by k_is)
   |exact⟨_,_,_,_,by k_is,by k_is,by rfl,by rfl,by simp,by repeat' first|exact .nil|exact .cons rfl .nil|refine .cons rfl ?_⟩
   |exact⟨_,_,_,_,[_],_,by k_is,by k_is,⟨⟨_,_,_,_,_,_,_,_,_,rfl,by k_is,by k_is⟩,by k_is⟩,by k_is,by rfl,.cons (by first|rfl|exact⟨_,rfl⟩) .nil⟩
   |exact⟨_,_,_,_,[_,_,_],_,by k_is,by k_is,⟨⟨_,_,_,_,_,_,_,_,_,rfl,by k_is,by k_is⟩,by k_is⟩,by k_is,by rfl,.cons (by first|rfl|exact⟨_,rfl⟩) (.cons (by first|rfl|exact⟨_,rfl⟩) (.cons (by first|rfl|exact⟨_,rfl⟩) .nil))⟩
end
